import PyProof.Rows.All
import Wide.All
import OpenK.AllK
import Wide.FinOn
import Lean
import PyProof.EqAt
import PyProof.EqKinds
import PyProof.TupleCall
import PyProof.NeKinds
import PyProof.IsiTupleOf
import PyProof.IsiHeapPairs
import PyProof.IsiPairs
import PyProof.ConsumeWalk
import PyProof.Rows.SumAny
import PyProof.FitsBits
import PyProof.Rows.SeqMore
import PyProof.ZipIter
import PyProof.TupleIter
import PyProof.LongRange
import PyProof.Rows.Range3
import PyProof.Rows.SortWalk
import PyProof.Rows.SortStr
import PyProof.StrWalks
import PyProof.DictRoads
import PyProof.MeetsStr
import PyProof.Rows.StrNews2
import PyProof.StrLawsIn
import PyProof.StrLaws
import PyProof.Rows.CatFin
import PyProof.Rows.StrClose5
import PyProof.SetKind
import PyProof.Rows.SetFrom
import PyProof.Rows.StrInSeq
import PyProof.WalkLemmas
import PyProof.CollectWalk
import PyProof.Seq
import PyProof.ForAny
import PyProof.MakeMany
import PyProof.DictKinds
import PyProof.Rows.SortShell
import PyProof.StrOps2
import PyProof.ReprNest
import PyProof.CallFns
import PyProof.StrLawsRepr
import PyProof.FString5
import OpenK.KOwn
import KE.KIsAll
import PyProof.ExcArgsOwn
import KE.RegKIsAll
import PyProof.DictIter
import PyProof.DictItems
import PyProof.DictItemsLoops
import PyProof.DictWalks
import KE.KDictList
import KE.KMinKey
import PyProof.ListRange
import PyProof.Rows.CallKwBuiltin
import KE.KDictOf
import PyProof.AttrMissHeap
import PyProof.EnumMake
import PyProof.EnumFor
import PyProof.Rows.RuleB_bool
import KE.KEqDict
import PyProof.StrCalls6
import PyProof.StrLawsReplace
import PyProof.Rows.FStr
import PyProof.Rows.StrJoin2
import PyProof.WalksMore
import PyProof.TupleOfStr
import KE.KUnpack
import PyProof.MaxThree
import KE.KSortTup
import PyProof.MeetsSeq2
import PyProof.FactsAll.set_2
import PyProof.FactsAll.subtypes_5
import PyProof.Rows.SortShellK
import PySem.Challenge.RW_leastform_k23_words_joined
set_option Elab.async false
set_option linter.all false
set_option maxRecDepth 100000
set_option maxHeartbeats 4000000
namespace L2
open PySem PySem.Spec PyProof.Rows
abbrev Key := Sum Int Str
def keyIs : Key -> Value -> Bool
 | .inl k, v => Value.isInt k v
 | .inr x, v => Value.isStrOf x v
def keyH (w : World) : Key -> Int
 | .inl k => hashInt k
 | .inr x => hashStr w x
theorem keyIs_shape : ∀ {k : Key} {v : Value}, keyIs k v = true -> (∃ i t, k = Sum.inl i /\ v = Value.int i t) \/ (∃ x t, k = Sum.inr x /\ v = Value.str x t)
 | .inl i, v, h => by
  obtain ⟨t, e⟩ := Value.isInt_shape (k := i) (v := v) h
  exact .inl ⟨i, t, rfl, e⟩
 | .inr x, v, h => by
  obtain ⟨t, e⟩ := Value.isStrOf_shape (x := x) (v := v) h
  exact .inr ⟨x, t, rfl, e⟩
theorem keyIs_int (i : Int) (t : Tok) : keyIs (.inl i) (.int i t) = true := by simp [keyIs, Value.isInt]
theorem keyIs_str (x : Str) (t : Tok) : keyIs (.inr x) (.str x t) = true := by simp [keyIs, Value.isStrOf]
theorem key_ll (a b : Int) : decide ((Sum.inl a : Key) = Sum.inl b) = (a == b) := by
 by_cases e : a = b
 ·subst e; simp
 ·have h : ¬ (Sum.inl a : Key) = Sum.inl b := fun q => e (Sum.inl.inj q)
  rw [decide_eq_false h]
  exact (beq_eq_false_iff_ne.mpr e).symm
theorem key_rr (a b : Str) : decide ((Sum.inr a : Key) = Sum.inr b) = decide (a = b) := by
 by_cases e : a = b
 ·subst e; simp
 ·have h : ¬ (Sum.inr a : Key) = Sum.inr b := fun q => e (Sum.inr.inj q)
  rw [decide_eq_false h, decide_eq_false e]
theorem key_lr (a : Int) (b : Str) : decide ((Sum.inl a : Key) = Sum.inr b) = false := decide_eq_false (fun q => nomatch q)
theorem key_rl (a : Str) (b : Int) : decide ((Sum.inr a : Key) = Sum.inl b) = false := decide_eq_false (fun q => nomatch q)
def mixKind (prog : Program) (w : World) : PySem.KeyKind prog w Key where
 is := keyIs
 hash := keyH w
 inj := fun v a b ha hb => by
  rcases keyIs_shape ha with ⟨i, t, rfl, rfl⟩ | ⟨x, t, rfl, rfl⟩
  ·rcases keyIs_shape hb with ⟨j, u, rfl, e⟩ | ⟨y, u, rfl, e⟩
   ·injection e with e1 _; rw [e1]
   ·exact nomatch e
  ·rcases keyIs_shape hb with ⟨j, u, rfl, e⟩ | ⟨y, u, rfl, e⟩
   ·exact nomatch e
   ·injection e with e1 _; rw [e1]
 byValue := fun k v h => by
  rcases keyIs_shape h with ⟨i, t, rfl, rfl⟩ | ⟨x, t, rfl, rfl⟩ <;> rfl
 pyHash := fun hv h => by
  rcases keyIs_shape hv with ⟨i, t, rfl, rfl⟩ | ⟨x, t, rfl, rfl⟩
  ·exact wpAny_pyHash_int h
  ·exact wpAny_pyHash_str h
 eqBool := fun hu hv h => by
  rcases keyIs_shape hu with ⟨i, t, rfl, rfl⟩ | ⟨x, t, rfl, rfl⟩
  ·rcases keyIs_shape hv with ⟨j, u, rfl, rfl⟩ | ⟨y, u, rfl, rfl⟩
   ·rw [key_ll] at h; exact wpAny_eqBool_int h
   ·rw [key_lr] at h; exact SeqAt.EqAt.int_str i t y u _ _ _ _ h
  ·rcases keyIs_shape hv with ⟨j, u, rfl, rfl⟩ | ⟨y, u, rfl, rfl⟩
   ·rw [key_rl] at h; exact SeqAt.EqAt.str_int x t j u _ _ _ _ h
   ·rw [key_rr] at h; exact wpAny_eqBool_str h
 «strs» := fun k x t v h => by
  rcases keyIs_shape h with ⟨i, u, rfl, e⟩ | ⟨y, u, rfl, e⟩
  ·exact nomatch e
  ·injection e with e1 _
   subst e1
   cases v <;> rfl
theorem mixKind_int (prog : Program) (w : World) (i : Int) (t : Tok) : (mixKind prog w).is (.inl i) (.int i t) = true := keyIs_int i t
theorem mixKind_str (prog : Program) (w : World) (x : Str) (t : Tok) : (mixKind prog w).is (.inr x) (.str x t) = true := keyIs_str x t
end L2
namespace L2
open PySem PySem.Spec PyProof.Rows
inductive V where
 | non | bl (b : Bool) | int (i : Int) | str (x : Str) | byt (b : Array UInt8) | flt (b : UInt64) | ref (a : Addr) | ty (n : String)
 deriving DecidableEq
def RelV : V -> Value -> Prop
 | .non, u => u = Value.none
 | .bl b, u => u = Value.bool b
 | .int i, u => ∃ t, u = Value.int i t
 | .str x, u => ∃ t, u = Value.str x t
 | .byt b, u => ∃ t, u = Value.bytes b t
 | .flt b, u => ∃ t, u = Value.float b t
 | .ref a, u => u = Value.ref a
 | .ty n, u => u = Value.type n
abbrev Vals : List V -> List Value -> Prop := Paired RelV
theorem Vals.length {xs : List V} {us : List Value} (r : Vals xs us) : xs.length = us.length := Paired.length r
theorem Vals.get : ∀ {xs : List V} {us : List Value} {i : Nat} {x : V}, Vals xs us -> xs[i]? = some x -> ∃ u, us[i]? = some u /\ RelV x u
 | _, _, _, _, .nil, e => by simp at e
 | _, _, 0, _, .cons r _, e => by simp at e; subst e; exact ⟨_, rfl, r⟩
 | _, _, i + 1, x, .cons _ t, e => by
  obtain ⟨u, h1, h2⟩ := Vals.get (i := i) (x := x) t (by simpa using e)
  exact ⟨u, by simpa using h1, h2⟩
theorem Vals.set {x : V} {u : Value} (r : RelV x u) : ∀ {xs : List V} {us : List Value} (i : Nat), Vals xs us -> Vals (xs.set i x) (us.set i u)
 | _, _, _, .nil => .nil
 | _, _, 0, .cons _ t => .cons r t
 | _, _, i + 1, .cons q t => .cons q (Vals.set r i t)
theorem Vals.append : ∀ {xs ys : List V} {us ws : List Value}, Vals xs us -> Vals ys ws -> Vals (xs ++ ys) (us ++ ws)
 | _, _, _, _, .nil, s => s
 | _, _, _, _, .cons r t, s => .cons r (Vals.append t s)
theorem Vals.take : ∀ {xs : List V} {us : List Value} (n : Nat), Vals xs us -> Vals (xs.take n) (us.take n)
 | _, _, 0, _ => .nil
 | _, _, _ + 1, .nil => .nil
 | _, _, n + 1, .cons r t => .cons r (Vals.take n t)
theorem Vals.drop : ∀ {xs : List V} {us : List Value} (n : Nat), Vals xs us -> Vals (xs.drop n) (us.drop n)
 | _, _, 0, r => r
 | _, _, _ + 1, .nil => .nil
 | _, _, n + 1, .cons _ t => Vals.drop n t
def RelO : Option V -> Option Value -> Prop
 | some v, some u => RelV v u
 | none, none => True
 | _, _ => False
def KV {κ : Type} : List (κ × V) -> List (κ × Value) -> Prop := Paired fun (p : κ × V) (q : κ × Value) => p.1 = q.1 /\ RelV p.2 q.2
def kV : Key -> V
 | .inl i => .int i
 | .inr x => .str x
inductive HO where
 /-- a list -/
 | lst (xs : List V)
 /-- a tuple (never changes) -/
 | tup (xs : List V)
 /-- a dict whose keys are ints and texts; one whose keys are tuples of ints and texts (the empty one is both) -/
 | dK (kvs : List (Key × V)) | dT (kvs : List (List Key × V))
 /-- a set of ints: its members, its size -/
 | set (S : Int -> Bool) (n : Nat)
 /-- an instance of the class at C, its dict at dx, its attributes -/
 | ins (C dx : Addr) (fs : List (Str × V))
 /-- the dict of the instance at x -/
 | own (x : Addr)
 /-- the dict of an exception -/
 | xd (fs : List (Str × V))
 /-- a bound method, f of x -/
 | met (f x : Addr)
 /-- a range object lo, lo + 1, .. below hi -/
 | rng (lo hi : Int)
 /-- a thing that is known to the object (the script; a dict while a loop walks it): read, never written while it is so -/
 | frz (o : Obj) (u : HO)
 /-- a code object's table -/
 | tbl (ps : Array Value)
 /-- any other thing, by what is true of its one object (a def of one's own: SetO a S n := HO.ext fun h => ..) -/
 | ext (φ : Heap -> Prop)
abbrev Hp := Addr -> Option HO
def upd (H : Hp) (a : Addr) (o : HO) : Hp := fun b => if b = a then some o else H b
theorem upd_same {H : Hp} {a : Addr} {o : HO} : upd H a o a = some o := by unfold upd; rw [if_pos rfl]
theorem upd_ne {H : Hp} {a b : Addr} {o : HO} (h : b ≠ a) : upd H a o b = H b := by unfold upd; rw [if_neg h]
theorem ne_of_none {H : Hp} {a b : Addr} {o : HO} (h : H a = some o) (h' : H b = none) : a ≠ b := by
 intro e; subst e; rw [h] at h'; cases h'
section
variable (P : Program) (w : World)
def ObjOk (H : Hp) (h : Heap) (a : Addr) : HO -> Prop
 | .lst xs => xs.length <= sizeLine /\ ∃ (its : List Value) (n : Nat), Vals xs its /\ h.get? a = some { cls := .type "list", data := .seq its.toArray n }
 | .tup xs => xs.length <= sizeLine /\ ∃ its : List Value, Vals xs its /\ IsTup h a its.toArray
 | .dK kvs => kvs.length <= sizeLine /\ (a == sysModules) = false /\ ∃ vs, KV kvs vs /\ h.DictOf (mixKind P w) a vs
 | .dT kvs => kvs.length <= sizeLine /\ (a == sysModules) = false /\ ∃ xs : List (List Key × Addr × Value),
   Paired (fun (p : List Key × V) (q : List Key × Addr × Value) => p.1 = q.1 /\ H q.2.1 = some (.tup (p.1.map kV)) /\ RelV p.2 q.2.2) kvs xs /\
   ∃ o es ep, h.get? a = some o /\ o.ExactDict /\ o.data = .dict es ep /\ es.toList = xs.map (entryOfKey (tupleKind (mixKind P w))) /\ (xs.map (·.1)).Nodup
 | .set S n => h.SetOf (intKind P w) a S n
 | .ins C dx fs => H dx = some (.own a) /\ fs.length <= 1000 /\ dx ≠ a /\ h.get? a = some (PySem.W.instObj C dx) /\
   ∃ mA, h.Ns1 dx mA /\ (∀ f, RelO (fs.lookup f) (mA f)) /\ PySem.Within mA (fs.map (·.1))
 | .own _ => ∃ o, h.get? a = some o
 | .xd fs => ∃ mA, h.Ns1 a mA /\ ∀ f, RelO (fs.lookup f) (mA f)
 | .rng lo hi => ∃ t u v, h.get? a = some { cls := .type "range", data := .fields #[.int lo t, .int hi u, .int 1 v] }
 | .frz o u => h.get? a = some o /\ ObjOk H h a u
 | .tbl ps => h.get? a = some { cls := .none, data := .fields ps }
 | .met f x => h.get? a = some (PySem.W.methodObj (.ref f) (.ref x))
 | .ext φ => φ h /\ (∃ o, h.get? a = some o) /\ ∀ h1 h2 : Heap, φ h1 -> (∀ o, h1.get? a = some o -> h2.get? a = some o) -> φ h2
def HOk (H : Hp) (h : Heap) : Prop := ∀ a o, H a = some o -> ObjOk P w H h a o
end
section
variable {P : Program} {w : World} {H H' : Hp} {h h' : Heap} {a : Addr} {o : HO}
theorem ObjOk.lt (x : ObjOk P w H h a o) : a < h.objs.size := by
 cases o with
 | lst xs => obtain ⟨_, _, _, _, e⟩ := x; exact Heap.lt_size e
 | tup xs => obtain ⟨_, _, _, p⟩ := x; exact p.lt
 | dK kvs => obtain ⟨_, _, _, _, o, _, _, e, _⟩ := x; exact Heap.lt_size e
 | dT kvs => obtain ⟨_, _, _, _, o, _, _, e, _⟩ := x; exact Heap.lt_size e
 | set S n => obtain ⟨o, _, _, _, e, _⟩ := x; exact Heap.lt_size e
 | ins C dx fs => obtain ⟨_, _, _, e, _⟩ := x; exact Heap.lt_size e
 | own y => obtain ⟨_, e⟩ := x; exact Heap.lt_size e
 | xd fs => obtain ⟨_, ⟨_, _, _, e, _⟩, _⟩ := x; exact Heap.lt_size e
 | rng lo hi => obtain ⟨_, _, _, e⟩ := x; exact Heap.lt_size e
 | frz ob u => obtain ⟨e, _⟩ := x; exact Heap.lt_size e
 | tbl ps => exact Heap.lt_size (show h.get? a = some _ from x)
 | met f y => exact Heap.lt_size (show h.get? a = some _ from x)
 | ext φ => obtain ⟨_, ⟨_, e⟩, _⟩ := x; exact Heap.lt_size e
theorem Paired.mapP {α β : Type} {F G : α -> β -> Prop} : ∀ {l₁ : List α} {l₂ : List β}, Paired F l₁ l₂ -> (∀ a b, F a b -> G a b) -> Paired G l₁ l₂
 | _, _, .nil, _ => .nil
 | _, _, .cons r t, f => .cons (f _ _ r) (Paired.mapP t f)
theorem ObjOk.stay (x : ObjOk P w H h a o) (k : ∀ b u, (b = a \/ H b = some (.own a)) -> h.get? b = some u -> h'.get? b = some u)
  (ho : ∀ b, H b = some (.own a) -> H' b = some (.own a)) (ht : ∀ b xs, H b = some (.tup xs) -> H' b = some (.tup xs)) : ObjOk P w H' h' a o := by
 induction o with
 | lst xs => obtain ⟨z, its, n, r, e⟩ := x; exact ⟨z, its, n, r, k _ _ (.inl rfl) e⟩
 | tup xs => obtain ⟨z, its, r, ob, e, c⟩ := x; exact ⟨z, its, r, ob, k _ _ (.inl rfl) e, c⟩
 | dK kvs => obtain ⟨z, y, vs, r, ob, es, ep, e, c⟩ := x; exact ⟨z, y, vs, r, ob, es, ep, k _ _ (.inl rfl) e, c⟩
 | dT kvs =>
  obtain ⟨z, y, xs, r, ob, es, ep, e, c⟩ := x
  exact ⟨z, y, xs, Paired.mapP r fun p q z => ⟨z.1, ht _ _ z.2.1, z.2.2⟩, ob, es, ep, k _ _ (.inl rfl) e, c⟩
 | set S n => obtain ⟨ob, es, ep, t, e, c⟩ := x; exact ⟨ob, es, ep, t, k _ _ (.inl rfl) e, c⟩
 | ins C dx fs =>
  obtain ⟨d, z, ne, e, mA, ⟨od, es, ep, e2, c⟩, r⟩ := x
  exact ⟨ho _ d, z, ne, k _ _ (.inl rfl) e, mA, ⟨od, es, ep, k _ _ (.inr d) e2, c⟩, r⟩
 | own y => obtain ⟨ob, e⟩ := x; exact ⟨ob, k _ _ (.inl rfl) e⟩
 | xd fs => obtain ⟨mA, ⟨od, es, ep, e, c⟩, r⟩ := x; exact ⟨mA, ⟨od, es, ep, k _ _ (.inl rfl) e, c⟩, r⟩
 | rng lo hi => obtain ⟨t, u, v, e⟩ := x; exact ⟨t, u, v, k _ _ (.inl rfl) e⟩
 | frz ob u ih => obtain ⟨e, q⟩ := x; exact ⟨k _ _ (.inl rfl) e, ih q⟩
 | tbl ps =>
  have e : h.get? a = some { cls := .none, data := .fields ps } := x
  show h'.get? a = some { cls := .none, data := .fields ps }
  exact k a _ (.inl rfl) e
 | met f y =>
  have e : h.get? a = some (PySem.W.methodObj (.ref f) (.ref y)) := x
  show h'.get? a = some (PySem.W.methodObj (.ref f) (.ref y))
  exact k a _ (.inl rfl) e
 | ext φ => obtain ⟨p, ⟨o, e⟩, st⟩ := x; exact ⟨st _ _ p fun o q => k _ _ (.inl rfl) q, ⟨o, k _ _ (.inl rfl) e⟩, st⟩
theorem HOk.lt (x : HOk P w H h) (e : H a = some o) : a < h.objs.size := (x a o e).lt
theorem HOk.fresh (x : HOk P w H h) (e : h.objs.size <= a) : H a = none := by
 cases q : H a with
 | none => rfl
 | some u => exact absurd (Nat.lt_of_lt_of_le (x.lt q) e) (Nat.lt_irrefl _)
theorem HOk.kept (x : HOk P w H h) (k : ∀ b u, h.get? b = some u -> h'.get? b = some u) : HOk P w H h' := fun a o e =>
 (x a o e).stay (fun b u _ q => k b u q) (fun _ q => q) fun _ _ q => q
theorem HOk.laid (x : HOk P w H h) (k : ∀ b u, h.get? b = some u -> h'.get? b = some u) (hp : h.objs.size <= a) (new : ObjOk P w (upd H a o) h' a o) : HOk P w (upd H a o) h' := fun b u e => by
 have hn := x.fresh hp
 by_cases hb : b = a
 ·subst hb; rw [upd_same] at e; cases e; exact new
 ·rw [upd_ne hb] at e
  exact (x b u e).stay (fun c v _ q => k c v q) (fun c q => by rw [upd_ne (ne_of_none q hn)]; exact q) fun c xs q => by rw [upd_ne (ne_of_none q hn)]; exact q
end
def Rd (H : Hp) (a : Addr) (u : HO) : Prop := H a = some u \/ ∃ o, H a = some (.frz o u)
theorem Rd.ok {P : Program} {w : World} {H : Hp} {h : Heap} {a : Addr} {u : HO} (r : Rd H a u) (x : HOk P w H h) : ObjOk P w H h a u := by
 rcases r with r | ⟨o, r⟩
 ·exact x a u r
 ·obtain ⟨_, q⟩ := x a _ r
  exact q
def Mut : Option HO -> Prop
 | some (.lst _) => True
 | some (.dK _) => True
 | some (.dT _) => True
 | some (.set _ _) => True
 | some (.ins _ _ _) => True
 | some (.ext _) => True
 | _ => False
section
variable {P : Program} {w : World} {H : Hp} {h h' : Heap} {x e : Addr} {o' : HO}
theorem HOk.write (ok : HOk P w H h) (mu : Mut (H x)) (he : e = x \/ H e = some (.own x)) (k : ∀ b u, b ≠ e -> h.get? b = some u -> h'.get? b = some u) (heo : ∃ u, h'.get? e = some u)
  (new : ObjOk P w (upd H x o') h' x o') : HOk P w (upd H x o') h' := fun b u q => by
 have nown : ∀ c y, H c = some (.own y) -> c ≠ x := fun c y r z => by subst z; rw [r] at mu; exact mu
 have ntup : ∀ c xs, H c = some (.tup xs) -> c ≠ x := fun c xs r z => by subst z; rw [r] at mu; exact mu
 by_cases hb : b = x
 ·subst hb; rw [upd_same] at q; cases q; exact new
 ·rw [upd_ne hb] at q
  by_cases hbe : b = e
  ·have q' : H b = some (.own x) := by
    rcases he with z | z
    ·exact absurd (hbe.trans z) hb
    ·rw [hbe]; exact z
   rw [q] at q'; cases q'
   obtain ⟨v, hv⟩ := heo
   exact ⟨v, by rw [hbe]; exact hv⟩
  ·refine (ok b u q).stay (fun c v hc r => k c v ?_ r) (fun c r => by rw [upd_ne (nown c b r)]; exact r) fun c xs r => by rw [upd_ne (ntup c xs r)]; exact r
   rcases hc with rfl | hc
   ·exact hbe
   ·rintro rfl
    rcases he with z | z
    ·exact nown c b hc z
    ·rw [hc] at z; cases z; exact hb rfl
end
structure Un (fs ex : List Addr) (H H' : Hp) (h h' : Heap) : Prop where
 keep : ∀ b o, h.get? b = some o -> H b = none -> b ∉ fs -> b ∉ ex -> h'.get? b = some o
 slot : ∀ b o, h.get? b = some o -> H b = none -> b ∈ fs -> b ∉ ex -> ∃ sl, h'.get? b = some { o with slots := sl }
 free : ∀ b o, h.get? b = some o -> H b = none -> b ∉ ex -> H' b = none
 there : ∀ b o, h.get? b = some o -> b ∉ ex -> ∃ o', h'.get? b = some o'
 tups : ∀ b xs, H b = some (.tup xs) -> H' b = some (.tup xs)
 frzs : ∀ b o u, H b = some (.frz o u) -> H' b = some (.frz o u)
 tbls : ∀ b ps, H b = some (.tbl ps) -> ∃ more, H' b = some (.tbl (ps ++ more))
section
variable {fs fs' ex ex' : List Addr} {H H1 H2 : Hp} {h h1 h2 h' : Heap} {a x e : Addr} {o : HO}
theorem Un.any (u : Un fs ex H H1 h h1) {b : Addr} {ob : Obj} (q : h.get? b = some ob) (n : H b = none) (hx : b ∉ ex) : ∃ sl, h1.get? b = some { ob with slots := sl } := by
 by_cases hb : b ∈ fs
 ·exact u.slot b ob q n hb hx
 ·exact ⟨ob.slots, u.keep b ob q n hb hx⟩
theorem Un.kept (k : ∀ b u, h.get? b = some u -> h'.get? b = some u) : Un fs ex H H h h' :=
 ⟨fun b ob q _ _ _ => k b ob q, fun b ob q _ _ _ => ⟨ob.slots, k b ob q⟩, fun _ _ _ n _ => n, fun b ob q _ => ⟨ob, k b ob q⟩, fun _ _ q => q, fun _ _ _ q => q, fun _ ps q => ⟨#[], by rw [q]; simp⟩⟩
theorem Un.refl : Un fs ex H H h h := Un.kept fun _ _ q => q
theorem Un.laid (k : ∀ b u, h.get? b = some u -> h'.get? b = some u) (hp : h.objs.size <= a) (hn : H a = none) : Un fs ex H (upd H a o) h h' where
 keep := fun b u q _ _ _ => k b u q
 slot := fun b u q _ _ _ => ⟨u.slots, k b u q⟩
 free := fun b u q n _ => by rw [upd_ne (Nat.ne_of_lt (Nat.lt_of_lt_of_le (Heap.lt_size q) hp))]; exact n
 there := fun b u q _ => ⟨u, k b u q⟩
 tups := fun b xs q => by rw [upd_ne (ne_of_none q hn)]; exact q
 frzs := fun b u xs q => by rw [upd_ne (ne_of_none q hn)]; exact q
 tbls := fun b ps q => ⟨#[], by rw [upd_ne (ne_of_none q hn), q]; simp⟩
theorem Un.write (mu : Mut (H x)) (he : e = x \/ H e = some (.own x)) (k : ∀ b u, b ≠ e -> h.get? b = some u -> h'.get? b = some u) (heo : ∃ u, h'.get? e = some u) : Un fs ex H (upd H x o) h h' := by
 have hx : ∀ b, H b = none -> b ≠ x := fun b n z => by subst z; rw [n] at mu; exact mu
 have hb : ∀ b, H b = none -> b ≠ e := fun b n z => by
  subst z
  rcases he with r | r
  ·exact hx b n r
  ·rw [n] at r; cases r
 have hm : ∀ b u, H b = some u -> ¬ Mut (some u) -> b ≠ x := fun b u q nm z => by subst z; rw [q] at mu; exact nm mu
 refine ⟨fun b u q n _ _ => k b u (hb b n) q, fun b u q n _ _ => ⟨u.slots, k b u (hb b n) q⟩, fun b u q n _ => by rw [upd_ne (hx b n)]; exact n, fun b u q _ => ?_,
  fun b xs q => by rw [upd_ne (hm b _ q fun z => z)]; exact q, fun b u xs q => by rw [upd_ne (hm b _ q fun z => z)]; exact q, fun b ps q => ⟨#[], by rw [upd_ne (hm b _ q fun z => z), q]; simp⟩⟩
 by_cases hbe : b = e
 ·subst hbe; exact heo
 ·exact ⟨u, k b u hbe q⟩
end
def trk (h : Heap) (H : Hp) : List Addr := (List.range h.objs.size).filter fun a => (H a).isSome
def hidT (h : Heap) (H : Hp) : Heap := PySem.W.hideAll h (trk h H)
theorem hidT_size (h : Heap) (H : Hp) : (hidT h H).objs.size = h.objs.size := PySem.W.hideAll_size _ _
theorem hidT_get {h : Heap} {H : Hp} {b : Addr} {o : Obj} (e : h.get? b = some o) (n : H b = none) : (hidT h H).get? b = some o :=
 PySem.W.hideAll_get _ e fun hm => by
  have q : (H b).isSome = true := (List.mem_filter.mp hm).2
  rw [n] at q; simp at q
theorem of_hidT {h : Heap} {H : Hp} {b : Addr} {o : Obj} (e : (hidT h H).get? b = some o) : h.get? b = some o /\ H b = none := by
 have e' : h.get? b = some o := PySem.W.of_hideAll (trk h H) e
 refine ⟨e', ?_⟩
 cases q : H b with
 | none => rfl
 | some x =>
  have hm : b ∈ trk h H := List.mem_filter.mpr ⟨List.mem_range.mpr (Heap.lt_size e'), by simp [q]⟩
  have z : (hidT h H).get? b = none := PySem.W.hideAll_none (trk h H) hm
  rw [z] at e; cases e
end L2
namespace L2
open PySem PySem.Spec PyProof.Rows
structure Mod (K : PySem.W.Frag) (mg : Str -> Option Value) (base : Heap) : Prop where
 kin : K.In base
 glob : base.Ns mainGlobals mg
 blt : ∃ mb, base.Ns builtinsNs mb /\ ∀ x : Str, x ≠ "__name__" -> mb x = bootBuiltins x
 nolimit : base.NoLimit
structure Cx where
 prog : Program
 w : World
 K : PySem.W.Frag
 mg : Str -> Option Value
 base : Heap
 A : Around
 N : List Str
 s₀ : Shared
 H₀ : Hp
 env : Env
 outer : List Env
 stack : List Env
 ex : List Addr
 fn : Str -> Bool
 calm : Bool
 pn : List (Addr × Obj)
 xe : Value -> Shared -> Prop
def frs (l : List Env) : List Addr := l.filterMap (·.frame)
abbrev Cx.fs (X : Cx) : List Addr := frs X.outer
def Vis (sc : Scope) (x : Str) : Prop := sc.names.lookup x = some .local \/ sc.names.lookup x = some .cell \/ sc.names.lookup x = some .free
def Loc (sc : Scope) (x : Str) : Prop := sc.names.lookup x = some .local \/ sc.names.lookup x = some .cell
def Look (env : Env) (h : Heap) (m : Str -> Option Value) (x : Str) (u : Value) : Prop :=
 (env.kindOf x = some .local /\ m x = some u) \/ ((env.kindOf x = some .cell \/ env.kindOf x = some .free) /\ ∃ c, env.cells.lookup x = some c /\ h.IsCell c (some u))
structure Cx.Ok (X : Cx) : Prop where
 mod : Mod X.K X.mg X.base
 kind : X.env.scope.kind = .function
 glob : X.env.globals = mainGlobals
 blt : X.env.builtins = builtinsNs
 above : X.s₀.heap.objs.size <= X.env.locals
 inj : ∀ x y c, X.env.cells.lookup x = some c -> X.env.cells.lookup y = some c -> x = y
 has : ∀ x, (X.env.kindOf x = some .cell \/ X.env.kindOf x = some .free) -> ∃ c, X.env.cells.lookup x = some c
 cab : ∀ x c, X.fn x = true -> X.env.cells.lookup x = some c -> X.s₀.heap.objs.size <= c
 hd : X.calm = true -> X.A.handled = none
 frames : X.A.frames = some X.stack
 stk : X.stack = X.outer \/ (X.stack = X.env :: X.outer /\ X.env.frame = some X.env.locals)
 exf : ∀ b ∈ X.ex, b ≠ X.env.locals /\ ∀ x c, X.env.cells.lookup x = some c -> c ≠ b
 bs : ∀ b o, X.base.get? b = some o -> X.s₀.heap.get? b = some o /\ X.H₀ b = none
 bsz : X.base.objs.size <= X.s₀.heap.objs.size
 noex : ∀ b o, X.base.get? b = some o -> b ∉ X.ex
 exfs : ∀ b ∈ X.ex, b ∉ X.fs
 funs : X.s₀.heap.FunFrames X.base X.outer
 frf : ∀ b ∈ X.fs, X.H₀ b = none
structure Inv (X : Cx) (pins : List (Addr × Obj)) (σ : List (Option V)) (H : Hp) (s : Shared) : Prop where
 ok : X.Ok
 os : s.os = X.s₀.os
 bare : AllBare s.gens
 base : Un X.fs X.ex X.H₀ H X.s₀.heap s.heap
 loc : ∃ m, s.heap.Ns X.env.locals m /\ ∀ (i : Nat) (x : Str) (v : V), X.N[i]? = some x -> σ[i]? = some (some v) -> Vis X.env.scope x -> ∃ u, RelV v u /\ Look X.env s.heap m x u
 cell : ∀ x c, X.env.cells.lookup x = some c -> ∃ v, s.heap.IsCell c v
 free : H X.env.locals = none
 freeC : ∀ x c, X.env.cells.lookup x = some c -> H c = none
 pin : ∀ p ∈ X.pn ++ pins, s.heap.get? p.1 = some p.2 /\ H p.1 = none /\ p.1 ≠ X.env.locals /\ p.1 ∉ X.fs /\ ∀ v, p.2.data ≠ .cell v
 hok : HOk X.prog X.w H s.heap
 len : σ.length = X.N.length
section
variable {X : Cx} {pins : List (Addr × Obj)} {σ : List (Option V)} {H H' : Hp} {s : Shared} {h' : Heap}
theorem Cx.Ok.nofr (ok : X.Ok) {b : Addr} {o : Obj} (e : X.base.get? b = some o) : b ∉ X.fs := fun hb => by
 have := (ok.funs.mem hb).1
 rw [e] at this; cases this
theorem Inv.bs (I : Inv X pins σ H s) : ∀ b o, X.base.get? b = some o -> s.heap.get? b = some o /\ H b = none := fun b o e =>
 ⟨I.base.keep b o (I.ok.bs b o e).1 (I.ok.bs b o e).2 (I.ok.nofr e) (I.ok.noex b o e), I.base.free b o (I.ok.bs b o e).1 (I.ok.bs b o e).2 (I.ok.noex b o e)⟩
theorem Inv.bk (I : Inv X pins σ H s) : ∀ b o, X.base.get? b = some o -> s.heap.get? b = some o := fun b o e => (I.bs b o e).1
theorem Inv.mod (I : Inv X pins σ H s) : Mod X.K X.mg X.base := I.ok.mod
theorem Inv.kIn (I : Inv X pins σ H s) : X.K.In s.heap := I.ok.mod.kin.keeps I.bk
theorem Inv.lt (I : Inv X pins σ H s) : X.env.locals < s.heap.objs.size := let ⟨_, hn, _⟩ := I.loc; hn.lt
theorem Inv.sz (I : Inv X pins σ H s) : X.s₀.heap.objs.size <= s.heap.objs.size := Nat.le_trans I.ok.above (Nat.le_of_lt I.lt)
theorem Inv.nofs (I : Inv X pins σ H s) {a : Addr} (h : s.heap.objs.size <= a) : a ∉ X.fs := fun hb => by
 obtain ⟨_, o, ho, _⟩ := I.ok.funs.mem hb
 exact absurd (Nat.lt_of_lt_of_le (Heap.lt_size ho) (Nat.le_trans I.sz h)) (Nat.lt_irrefl _)
theorem Inv.cne (I : Inv X pins σ H s) : ∀ x c, X.env.cells.lookup x = some c -> c ≠ X.env.locals := fun x c e z => by
 obtain ⟨v, o, ho, hd⟩ := I.cell x c e
 obtain ⟨m, ⟨o', es, ep, ho', hd', _⟩, _⟩ := I.loc
 rw [z, ho'] at ho; cases ho; rw [hd'] at hd; cases hd
theorem Inv.funs (I : Inv X pins σ H s) : s.heap.FunFrames X.base X.outer := by
 have all : ∀ (l : List Env), (∀ b ∈ frs l, b ∈ X.fs) -> X.s₀.heap.FunFrames X.base l -> s.heap.FunFrames X.base l := by
  intro l
  induction l with
  | nil => intro _ _; trivial
  | cons env r ih =>
   intro hs hl
   obtain ⟨hk, ⟨L, o, hf, hn, ho, hd⟩, hr⟩ := hl
   have hL : L ∈ X.fs := hs L (by unfold frs; rw [List.filterMap_cons, hf]; exact List.mem_cons_self)
   obtain ⟨sl, e⟩ := I.base.slot L o ho (I.ok.frf L hL) hL fun z => I.ok.exfs L z hL
   exact ⟨hk, ⟨L, _, hf, hn, e, hd⟩, ih (fun b hb => hs b (by unfold frs; rw [List.filterMap_cons, hf]; exact List.mem_cons_of_mem _ hb)) hr⟩
 exact all X.outer (fun _ hb => hb) I.ok.funs
theorem Inv.stack (I : Inv X pins σ H s) : s.heap.FunFrames X.base X.stack := by
 rcases I.ok.stk with e | ⟨e, hf⟩
 ·rw [e]; exact I.funs
 ·rw [e]
  obtain ⟨m, hn, _⟩ := I.loc
  refine .cons (by rw [I.ok.kind]; decide) hf hn ?_ I.funs
  exact Heap.get?_none_of_le (Nat.le_trans I.ok.bsz I.ok.above)
theorem Inv.stkSub (I : Inv X pins σ H s) : ∀ b ∈ frs X.stack, b ∈ X.env.locals :: X.fs := fun b hb => by
 rcases I.ok.stk with e | ⟨e, hf⟩
 ·rw [e] at hb; exact List.mem_cons_of_mem _ hb
 ·rw [e] at hb
  unfold frs at hb
  rw [List.filterMap_cons, hf] at hb
  exact hb
theorem Inv.stkFree (I : Inv X pins σ H s) : ∀ b ∈ frs X.stack, H b = none := fun b hb => by
 rcases List.mem_cons.mp (I.stkSub b hb) with e | hb
 ·rw [e]; exact I.free
 ·obtain ⟨_, o, ho, _⟩ := I.ok.funs.mem hb
  exact I.base.free b o ho (I.ok.frf b hb) fun z => I.ok.exfs b z hb
theorem Inv.step {g' : Array GenState} {t' : Nat} {d' : Drawn} {ch : List Addr} (I : Inv X pins σ H s)
  (hch : ∀ b ∈ ch, (b ∈ X.ex \/ X.s₀.heap.objs.size <= b) /\ b ≠ X.env.locals /\ (∀ x c, X.env.cells.lookup x = some c -> c ≠ b) /\ ∀ p ∈ X.pn ++ pins, p.1 ≠ b)
  (keep : ∀ b o, b ≠ X.env.locals -> b ∉ X.fs -> b ∉ ch -> s.heap.get? b = some o -> H b = none -> h'.get? b = some o)
  (slot : ∀ b o, b ≠ X.env.locals -> b ∈ X.fs -> b ∉ ch -> s.heap.get? b = some o -> H b = none -> ∃ sl, h'.get? b = some { o with slots := sl }) (free : ∀ b o, b ∉ ch -> s.heap.get? b = some o -> H b = none -> H' b = none)
  (there : ∀ b o, b ∉ ch -> s.heap.get? b = some o -> ∃ o', h'.get? b = some o')
  (tups : ∀ b xs, H b = some (.tup xs) -> H' b = some (.tup xs)) (frzs : ∀ b o u, H b = some (.frz o u) -> H' b = some (.frz o u)) (tbls : ∀ b ps, H b = some (.tbl ps) -> ∃ more, H' b = some (.tbl (ps ++ more)))
  (ns : ∀ m, s.heap.Ns X.env.locals m -> h'.Ns X.env.locals m) (hok : HOk X.prog X.w H' h') (hg : AllBare g') :
  Inv X pins σ H' { s with heap := h', gens := g', drawn := d', toks := t' } := by
 have neL : ∀ b o, X.s₀.heap.get? b = some o -> b ≠ X.env.locals := fun b o e => Nat.ne_of_lt (Nat.lt_of_lt_of_le (Heap.lt_size e) I.ok.above)
 have neC : ∀ b o, X.s₀.heap.get? b = some o -> b ∉ X.ex -> b ∉ ch := fun b o e hx hb => by
  rcases (hch b hb).1 with z | z
  ·exact hx z
  ·exact absurd (Nat.lt_of_lt_of_le (Heap.lt_size e) z) (Nat.lt_irrefl _)
 have cellK : ∀ x c, X.env.cells.lookup x = some c -> ∀ v, s.heap.IsCell c v -> h'.IsCell c v := fun x c e v ⟨o, ho, hd⟩ => by
  have nch : c ∉ ch := fun z => (hch c z).2.2.1 x c e rfl
  by_cases hc : c ∈ X.fs
  ·obtain ⟨sl, q⟩ := slot c o (I.cne x c e) hc nch ho (I.freeC x c e)
   exact ⟨_, q, hd⟩
  ·exact ⟨o, keep c o (I.cne x c e) hc nch ho (I.freeC x c e), hd⟩
 refine ⟨I.ok, I.os, hg, ⟨fun b o e n hb hx => ?_, fun b o e n hb hx => ?_, fun b o e n hx => ?_, fun b o e hx => ?_, fun b xs e => tups b xs (I.base.tups b xs e), fun b o xs e => frzs b o xs (I.base.frzs b o xs e), fun b ps e => ?_⟩, ?_, fun x c e => ?_, ?_, fun x c e => ?_, fun p hp => ?_, hok, I.len⟩
 ·exact keep b o (neL b o e) hb (neC b o e hx) (I.base.keep b o e n hb hx) (I.base.free b o e n hx)
 ·obtain ⟨sl, e1⟩ := I.base.slot b o e n hb hx
  obtain ⟨sl', e2⟩ := slot b _ (neL b o e) hb (neC b o e hx) e1 (I.base.free b o e n hx)
  exact ⟨sl', e2⟩
 ·obtain ⟨o', e1⟩ := I.base.there b o e hx
  exact free b o' (neC b o e hx) e1 (I.base.free b o e n hx)
 ·obtain ⟨o', e1⟩ := I.base.there b o e hx
  exact there b o' (neC b o e hx) e1
 ·obtain ⟨m1, e1⟩ := I.base.tbls b ps e
  obtain ⟨m2, e2⟩ := tbls b _ e1
  exact ⟨m1 ++ m2, by rw [e2, Array.append_assoc]⟩
 ·obtain ⟨m, hn, hl⟩ := I.loc
  refine ⟨m, ns m hn, fun i x v e1 e2 e3 => ?_⟩
  obtain ⟨u, r, l⟩ := hl i x v e1 e2 e3
  refine ⟨u, r, ?_⟩
  rcases l with l | ⟨k, c, e, z⟩
  ·exact .inl l
  ·exact .inr ⟨k, c, e, cellK x c e _ z⟩
 ·obtain ⟨v, z⟩ := I.cell x c e
  exact ⟨v, cellK x c e v z⟩
 ·obtain ⟨m, ⟨o, _, _, ho, _⟩, _⟩ := I.loc
  exact free _ o (fun z => (hch _ z).2.1 rfl) ho I.free
 ·obtain ⟨v, o, ho, hd⟩ := I.cell x c e
  exact free c o (fun z => (hch c z).2.2.1 x c e rfl) ho (I.freeC x c e)
 ·obtain ⟨e, n, ne, nf, d⟩ := I.pin p hp
  have nch : p.1 ∉ ch := fun z => (hch p.1 z).2.2.2 p hp rfl
  exact ⟨keep p.1 p.2 ne nf nch e n, free p.1 p.2 nch e n, ne, nf, d⟩
theorem Inv.un {t' : Nat} (I : Inv X pins σ H s) (u : Un X.fs [] H H' s.heap h') (hok : HOk X.prog X.w H' h') : Inv X pins σ H' { s with heap := h', toks := t' } := by
 obtain ⟨m, ⟨o, es, ep, ho, r⟩, _⟩ := id I.loc
 obtain ⟨sl, hL⟩ := u.any ho I.free (by simp)
 exact I.step (g' := s.gens) (d' := s.drawn) (ch := []) (fun _ z => nomatch z) (fun b o _ hb _ e n => u.keep b o e n hb (by simp)) (fun b o _ hb _ e n => u.slot b o e n hb (by simp)) (fun b o _ e n => u.free b o e n (by simp)) (fun b o _ e => u.there b o e (by simp)) u.tups u.frzs u.tbls (fun m' hm => by
  obtain ⟨o', es', ep', ho', r'⟩ := hm
  rw [ho] at ho'; cases ho'
  exact ⟨_, es', ep', hL, r'⟩) hok I.bare
theorem Inv.call {g' : Array GenState} {t' : Nat} {d' : Drawn} {ch : List Addr} (I : Inv X pins σ H s) (u : Un (frs X.stack) ch H H' s.heap h') (hok : HOk X.prog X.w H' h') (hg : AllBare g')
  (hch : ∀ b ∈ ch, (b ∈ X.ex \/ X.s₀.heap.objs.size <= b) /\ b ≠ X.env.locals /\ (∀ x c, X.env.cells.lookup x = some c -> c ≠ b) /\ ∀ p ∈ X.pn ++ pins, p.1 ≠ b) :
  Inv X pins σ H' { s with heap := h', gens := g', drawn := d', toks := t' } := by
 obtain ⟨m, ⟨o, es, ep, ho, r⟩, _⟩ := id I.loc
 obtain ⟨sl, hL⟩ := u.any ho I.free fun z => (hch _ z).2.1 rfl
 exact I.step (ch := ch) hch (fun b o hL hb hc e n => u.keep b o e n (fun z => (List.mem_cons.mp (I.stkSub b z)).elim hL hb) hc) (fun b o _ _ hc e n => u.any e n hc) (fun b o hc e n => u.free b o e n hc) (fun b o hc e => u.there b o e hc) u.tups u.frzs u.tbls (fun m' hm => by
  obtain ⟨o', es', ep', ho', r'⟩ := hm
  rw [ho] at ho'; cases ho'
  exact ⟨_, es', ep', hL, r'⟩) hok hg
theorem Inv.turned {t' : Nat} {it : Addr} (I : Inv X pins σ H s) (k : ∀ b o, b ≠ it -> s.heap.get? b = some o -> h'.get? b = some o) (hn : H it = none) (hL : it ≠ X.env.locals)
  (h1 : it ∈ X.ex \/ X.s₀.heap.objs.size <= it) (h2 : ∀ x c, X.env.cells.lookup x = some c -> c ≠ it) (h3 : ∀ p ∈ X.pn ++ pins, p.1 ≠ it) : Inv X pins σ H { s with heap := h', toks := t' } := by
 have nit : ∀ b u, H b = some u -> b ≠ it := fun b u e z => by rw [z, hn] at e; cases e
 refine I.step (g' := s.gens) (d' := s.drawn) (ch := [it]) (fun b hb => ?_) (fun b o _ _ hc e _ => k b o (fun z => hc (by simp [z])) e) (fun b o _ _ hc e _ => ⟨o.slots, k b o (fun z => hc (by simp [z])) e⟩) (fun _ _ _ _ n => n)
  (fun b o hc e => ⟨o, k b o (fun z => hc (by simp [z])) e⟩) (fun _ _ e => e) (fun _ _ _ e => e) (fun b ps e => ⟨#[], by rw [e]; simp⟩) (fun m hm => ?_) (fun b u e => ?_) I.bare
 ·have e : b = it := by simpa using hb
  subst e
  exact ⟨h1, hL, h2, h3⟩
 ·obtain ⟨o, es, ep, ho, r⟩ := hm
  exact ⟨o, es, ep, k _ o (Ne.symm hL) ho, r⟩
 ·refine (I.hok b u e).stay (fun c v hc q => k c v ?_ q) (fun _ q => q) fun _ _ q => q
  rcases hc with z | z
  ·rw [z]; exact nit b u e
  ·exact nit c _ z
theorem Inv.tok (I : Inv X pins σ H s) (t : Nat) : Inv X pins σ H { s with toks := t } := I.un (h' := s.heap) (t' := t) Un.refl I.hok
theorem Inv.kept {t' : Nat} (I : Inv X pins σ H s) (k : ∀ b u, s.heap.get? b = some u -> h'.get? b = some u) : Inv X pins σ H { s with heap := h', toks := t' } := I.un (Un.kept k) (I.hok.kept k)
theorem Inv.laid {a : Addr} {o : HO} {t' : Nat} (I : Inv X pins σ H s) (k : ∀ b u, s.heap.get? b = some u -> h'.get? b = some u) (hp : s.heap.objs.size <= a) (new : ObjOk X.prog X.w (upd H a o) h' a o) :
  Inv X pins σ (upd H a o) { s with heap := h', toks := t' } := I.un (Un.laid k hp (I.hok.fresh hp)) (I.hok.laid k hp new)
theorem Inv.write {x e : Addr} {o : HO} {t' : Nat} (I : Inv X pins σ H s) (mu : Mut (H x)) (he : e = x \/ H e = some (.own x)) (k : ∀ b u, b ≠ e -> s.heap.get? b = some u -> h'.get? b = some u) (heo : ∃ u, h'.get? e = some u)
  (new : ObjOk X.prog X.w (upd H x o) h' x o) : Inv X pins σ (upd H x o) { s with heap := h', toks := t' } := I.un (Un.write mu he k heo) (I.hok.write mu he k heo new)
theorem Inv.weak {σ' : List (Option V)} (I : Inv X pins σ H s) (hl : σ'.length = σ.length) (w : ∀ (i : Nat) v, σ'[i]? = some (some v) -> σ[i]? = some (some v)) : Inv X pins σ' H s :=
 ⟨I.ok, I.os, I.bare, I.base, let ⟨m, hn, hl'⟩ := I.loc; ⟨m, hn, fun i x v e1 e2 e3 => hl' i x v e1 (w i v e2) e3⟩, I.cell, I.free, I.freeC, I.pin, I.hok, hl.trans I.len⟩
theorem Inv.pins_of {pins' : List (Addr × Obj)} (I : Inv X pins σ H s) (h : ∀ p ∈ pins', s.heap.get? p.1 = some p.2 /\ H p.1 = none /\ p.1 ≠ X.env.locals /\ p.1 ∉ X.fs /\ ∀ v, p.2.data ≠ .cell v) : Inv X pins' σ H s :=
 ⟨I.ok, I.os, I.bare, I.base, I.loc, I.cell, I.free, I.freeC, fun p hp => (List.mem_append.mp hp).elim (fun z => I.pin p (List.mem_append_left _ z)) (h p), I.hok, I.len⟩
theorem nodup_ix {N : List Str} (hN : N.Nodup) {i j : Nat} {x : Str} (a : N[i]? = some x) (b : N[j]? = some x) : i = j := by
 obtain ⟨h1, e1⟩ := List.getElem?_eq_some_iff.mp a
 obtain ⟨h2, e2⟩ := List.getElem?_eq_some_iff.mp b
 exact (List.getElem_inj hN).mp (e1.trans e2.symm)
theorem store_ok2 {M : Model} {A : Around} {E : Value -> Shared -> Prop} {i : Nat} {x : Str} {v : V} {u : Value} {Q : Unit -> Shared -> Prop} (I : Inv X pins σ H s) (hN : X.N.Nodup) (hi : X.N[i]? = some x) (hx : Loc X.env.scope x) (r : RelV v u)
  (h : ∀ s', Inv X pins (σ.set i (some v)) H s' -> (∃ a, Heap.SameBut a s.heap s'.heap /\ (a = X.env.locals \/ X.env.cells.lookup x = some a)) -> Q () s') (hf : X.fn x = true \/ X.env.scope.names.lookup x = some .local := by first | exact .inl rfl | exact .inr rfl | assumption) : wpAny M A (storeName X.env x u) Q E s := by
 obtain ⟨m, hn, hl⟩ := id I.loc
 have hcls : (X.env.scope.kind == .class || (X.env.scope.kind == .module && X.env.locals != X.env.globals)) = false := by rw [I.ok.kind]; rfl
 have hiσ : i < σ.length := by rw [I.len]; exact (List.getElem?_eq_some_iff.mp hi).1
 have cne := I.cne
 have tracked : ∀ {a : Addr} {h' : Heap}, (∃ o, s.heap.get? a = some o /\ H a = none) -> Heap.SameBut a s.heap h' -> HOk X.prog X.w H h' := fun {a h'} ha hs b ob e => by
  obtain ⟨_, _, hfree⟩ := ha
  refine (I.hok b ob e).stay (fun c w' hc q => (hs.2 c ?_).trans q) (fun _ q => q) fun _ _ q => q
  rintro rfl
  rcases hc with rfl | hc
  ·rw [hfree] at e; cases e
  ·rw [hfree] at hc; cases hc
 rcases hx with hk | hk
 ·refine wpAny_storeName_local hk hn (fun h' hn' hs => ?_) hcls
  obtain ⟨oL, _, _, hoL, _⟩ := id hn
  refine h _ ⟨I.ok, I.os, I.bare, ⟨fun b o e n hb hx => ?_, fun b o e n hb hx => ?_, I.base.free, fun b o e hx => ?_, I.base.tups, I.base.frzs, I.base.tbls⟩, ⟨_, hn', fun j y v' e1 e2 e3 => ?_⟩, fun y c e => ?_, I.free, I.freeC, fun p hp => ?_, tracked ⟨oL, hoL, I.free⟩ hs, by simpa using I.len⟩ ⟨_, hs, .inl rfl⟩
  ·exact (hs.2 b (Nat.ne_of_lt (Nat.lt_of_lt_of_le (Heap.lt_size e) I.ok.above))).trans (I.base.keep b o e n hb hx)
  ·obtain ⟨sl, e1⟩ := I.base.slot b o e n hb hx
   exact ⟨sl, (hs.2 b (Nat.ne_of_lt (Nat.lt_of_lt_of_le (Heap.lt_size e) I.ok.above))).trans e1⟩
  ·obtain ⟨o', e1⟩ := I.base.there b o e hx
   exact ⟨o', (hs.2 b (Nat.ne_of_lt (Nat.lt_of_lt_of_le (Heap.lt_size e) I.ok.above))).trans e1⟩
  ·by_cases hj : j = i
   ·subst hj
    rw [hi] at e1; cases e1
    rw [List.getElem?_set_self hiσ] at e2
    cases e2
    exact ⟨u, r, .inl ⟨hk, by simp⟩⟩
   ·rw [List.getElem?_set_ne (Ne.symm hj)] at e2
    obtain ⟨u', r', q⟩ := hl j y v' e1 e2 e3
    refine ⟨u', r', ?_⟩
    rcases q with ⟨k, e⟩ | ⟨k, c, e, z⟩
    ·refine .inl ⟨k, ?_⟩
     have : y ≠ x := fun e => hj (nodup_ix hN e1 (e ▸ hi))
     simp [this, e]
    ·exact .inr ⟨k, c, e, z.sameBut hs (cne y c e)⟩
  ·obtain ⟨w', z⟩ := I.cell y c e
   exact ⟨w', z.sameBut hs (cne y c e)⟩
  ·obtain ⟨e, n, ne, nf, d⟩ := I.pin p hp
   exact ⟨(hs.2 p.1 ne).trans e, n, ne, nf, d⟩
 ·have hfn : X.fn x = true := by
   rcases hf with z | z
   ·exact z
   ·rw [z] at hk; cases hk
  obtain ⟨c, hc⟩ := I.ok.has x (.inl hk)
  obtain ⟨w', z⟩ := I.cell x c hc
  refine wpAny_storeName_cell I.ok.kind hk hc z (fun h' hc' hs => ?_)
  obtain ⟨oc, hoc, hocd⟩ := id z
  refine h { s with heap := h' } ⟨I.ok, I.os, I.bare, ⟨fun b o e n hb hx => ?_, fun b o e n hb hx => ?_, I.base.free, fun b o e hx => ?_, I.base.tups, I.base.frzs, I.base.tbls⟩, ⟨m, hn.sameBut hs (Ne.symm (cne x c hc)), fun j y v' e1 e2 e3 => ?_⟩, fun y c' e => ?_, I.free, I.freeC, fun p hp => ?_, tracked ⟨oc, hoc, I.freeC x c hc⟩ hs, by simpa using I.len⟩ ⟨c, hs, .inr hc⟩
  ·exact (hs.2 b (Nat.ne_of_lt (Nat.lt_of_lt_of_le (Heap.lt_size e) (I.ok.cab x c hfn hc)))).trans (I.base.keep b o e n hb hx)
  ·obtain ⟨sl, e1⟩ := I.base.slot b o e n hb hx
   exact ⟨sl, (hs.2 b (Nat.ne_of_lt (Nat.lt_of_lt_of_le (Heap.lt_size e) (I.ok.cab x c hfn hc)))).trans e1⟩
  ·obtain ⟨o', e1⟩ := I.base.there b o e hx
   exact ⟨o', (hs.2 b (Nat.ne_of_lt (Nat.lt_of_lt_of_le (Heap.lt_size e) (I.ok.cab x c hfn hc)))).trans e1⟩
  ·by_cases hj : j = i
   ·subst hj
    rw [hi] at e1; cases e1
    rw [List.getElem?_set_self hiσ] at e2
    cases e2
    exact ⟨u, r, .inr ⟨.inl hk, c, hc, hc'⟩⟩
   ·rw [List.getElem?_set_ne (Ne.symm hj)] at e2
    obtain ⟨u', r', q⟩ := hl j y v' e1 e2 e3
    refine ⟨u', r', ?_⟩
    rcases q with q | ⟨k, c', e, z'⟩
    ·exact .inl q
    ·refine .inr ⟨k, c', e, z'.sameBut hs ?_⟩
     rintro rfl
     exact hj (nodup_ix hN e1 (I.ok.inj _ _ _ e hc ▸ hi))
  ·by_cases hcc : c' = c
   ·subst hcc; exact ⟨_, hc'⟩
   ·obtain ⟨w2, z2⟩ := I.cell y c' e
    exact ⟨w2, z2.sameBut hs hcc⟩
  ·obtain ⟨e, n, ne, nf, d⟩ := I.pin p hp
   refine ⟨(hs.2 p.1 ?_).trans e, n, ne, nf, d⟩
   intro q
   rw [q, hoc] at e
   have q' : oc = p.2 := Option.some.inj e
   exact d w' (by rw [<- q']; exact hocd)
theorem store_ok {M : Model} {A : Around} {E : Value -> Shared -> Prop} {i : Nat} {x : Str} {v : V} {u : Value} {Q : Unit -> Shared -> Prop} (I : Inv X pins σ H s) (hN : X.N.Nodup) (hi : X.N[i]? = some x) (hx : Loc X.env.scope x) (r : RelV v u)
  (h : ∀ s', Inv X pins (σ.set i (some v)) H s' -> Q () s') (hf : X.fn x = true \/ X.env.scope.names.lookup x = some .local := by first | exact .inl rfl | exact .inr rfl | assumption) : wpAny M A (storeName X.env x u) Q E s :=
 store_ok2 I hN hi hx r (fun s' I' _ => h s' I') hf
theorem Inv.call' {s' : Shared} {ch : List Addr} (I : Inv X pins σ H s) (ho : s'.os = s.os) (u : Un (frs X.stack) ch H H' s.heap s'.heap) (hok : HOk X.prog X.w H' s'.heap) (hg : AllBare s'.gens)
  (hch : ∀ b ∈ ch, (b ∈ X.ex \/ X.s₀.heap.objs.size <= b) /\ b ≠ X.env.locals /\ (∀ x c, X.env.cells.lookup x = some c -> c ≠ b) /\ ∀ p ∈ X.pn ++ pins, p.1 ≠ b) : Inv X pins σ H' s' := by
 obtain ⟨h', g', d', t', o'⟩ := s'
 have e : o' = s.os := ho
 subst e
 exact I.call (g' := g') (t' := t') (d' := d') u hok hg hch
end
abbrev XK := Value -> Option Addr -> Hp -> Prop
abbrev St := List (Option V)
abbrev VK := V -> Hp -> Prop
abbrev TE := St -> Hp -> VK -> Prop
abbrev TT := St -> Hp -> (Bool -> Hp -> Prop) -> Prop
abbrev TA := St -> Hp -> (List V -> Hp -> Prop) -> Prop
structure Ends where
 nx : St -> Hp -> Prop
 rt : VK
 bk : St -> Hp -> Prop := fun _ _ => False
 ct : St -> Hp -> Prop := fun _ _ => False
abbrev TS := Ends -> St -> Hp -> Prop
def EP (X : Cx) (pins : List (Addr × Obj)) (σ : St) (Q : VK) (u : Value) (s' : Shared) : Prop := ∃ v H', Inv X pins σ H' s' /\ RelV v u /\ Q v H'
def TP (X : Cx) (pins : List (Addr × Obj)) (σ : St) (Q : Bool -> Hp -> Prop) (b : Bool) (s' : Shared) : Prop := ∃ H', Inv X pins σ H' s' /\ Q b H'
def AP (X : Cx) (pins : List (Addr × Obj)) (σ : St) (Q : List V -> Hp -> Prop) (us : List Value) (s' : Shared) : Prop := ∃ vs H', Inv X pins σ H' s' /\ Vals vs us /\ Q vs H'
def SP (X : Cx) (pins : List (Addr × Obj)) (D : Ends) (f : Flow) (s' : Shared) : Prop :=
 match f with
 | .next => ∃ σ' H', Inv X pins σ' H' s' /\ D.nx σ' H'
 | .brk => ∃ σ' H', Inv X pins σ' H' s' /\ D.bk σ' H'
 | .cont => ∃ σ' H', Inv X pins σ' H' s' /\ D.ct σ' H'
 | .ret u => ∃ v σ' H', Inv X pins σ' H' s' /\ RelV v u /\ D.rt v H'
def PE (X : Cx) (e : Expr) (t : TE) : Prop :=
 ∀ (pins : List (Addr × Obj)) (s : Shared) (σ : St) (H : Hp) (Q : VK), Inv X pins σ H s -> t σ H Q -> wpAny (model X.prog X.w) X.A (eval e X.env) (EP X pins σ Q) X.xe s
def PT (X : Cx) (e : Expr) (t : TT) : Prop :=
 ∀ (pins : List (Addr × Obj)) (s : Shared) (σ : St) (H : Hp) (Q : Bool -> Hp -> Prop), Inv X pins σ H s -> t σ H Q -> wpAny (model X.prog X.w) X.A (isTrue e X.env (eval e X.env)) (TP X pins σ Q) X.xe s
def PW (X : Cx) (e : Expr) (t : TT) : Prop :=
 ∀ (whole : Sem Value) (pins : List (Addr × Obj)) (s : Shared) (σ : St) (H : Hp) (Q : Bool -> Hp -> Prop), Inv X pins σ H s -> t σ H Q -> wpAny (model X.prog X.w) X.A (isTrue e X.env whole) (TP X pins σ Q) X.xe s
theorem PW.pt {X : Cx} {e : Expr} {t : TT} (h : PW X e t) : PT X e t := h _
def PA (X : Cx) (es : List Expr) (t : TA) : Prop :=
 ∀ (pos : Pos) (pins : List (Addr × Obj)) (s : Shared) (σ : St) (H : Hp) (Q : List V -> Hp -> Prop), Inv X pins σ H s -> t σ H Q -> wpAny (model X.prog X.w) X.A (spliced (backTo pos (starEach es X.env))) (AP X pins σ Q) X.xe s
def PS (X : Cx) (st : Stmt) (t : TS) : Prop :=
 ∀ (pins : List (Addr × Obj)) (s : Shared) (σ : St) (H : Hp) (D : Ends), Inv X pins σ H s -> t D σ H -> wpAny (model X.prog X.w) X.A (exec st X.env) (SP X pins D) X.xe s
def PSs (X : Cx) (st : List Stmt) (t : TS) : Prop :=
 ∀ (pins : List (Addr × Obj)) (s : Shared) (σ : St) (H : Hp) (D : Ends), Inv X pins σ H s -> t D σ H -> wpAny (model X.prog X.w) X.A (execs st X.env) (SP X pins D) X.xe s
theorem thn {α : Type} {t : Sem α} {Q Q' : α -> Shared -> Prop} {M : Model} {A : Around} {E : Value -> Shared -> Prop} {s : Shared} (h : wpAny M A t Q E s) (hQ : ∀ a s, Q a s -> Q' a s) : wpAny M A t Q' E s := wpAny_mono h hQ fun _ _ x => x
end L2
namespace L2
open PySem PySem.Spec PyProof.Rows
section
variable {X : Cx}
def tVar (i : Nat) : TE := fun σ H Q => ∃ v, σ[i]? = some (some v) /\ Q v H
def tC (v : V) : TE := fun _ H Q => Q v H
theorem pe_var {i : Nat} {x : Str} {pos : Pos} (hN : X.N[i]? = some x) (hv : Vis X.env.scope x) (hd : (x == ("__debug__" : Str)) = false := by decide) (hcd : (x == ("__classdict__" : Str)) = false := by decide) : PE X (.Name x pos) (tVar i) := by
 intro pins s σ H Q I h
 obtain ⟨v, e, h⟩ := h
 obtain ⟨m, hn, hl⟩ := I.loc
 obtain ⟨u, r, l⟩ := hl i x v hN e hv
 have fin : EP X pins σ Q u s := ⟨v, H, I, r, h⟩
 rcases l with ⟨hk, hm⟩ | ⟨hk, c, hc, hcell⟩
 ·exact wpAny_Name (wpAny_loadName_local I.ok.kind hk hn hm fin) hd
 ·rcases hk with hk | hk
  ·exact wpAny_Name (wpAny_loadName_cell I.ok.kind hk hc hcell fin) hd
  ·exact wpAny_Name (wpAny_loadName_free I.ok.kind hk hc hcell fin hcd) hd
theorem pe_int {i j pos} : PE X (.Constant (.int i) j pos) (tC (.int i)) := fun _ _ _ H _ I h => wpAny_Constant_int ⟨.int i, H, I.tok _, ⟨_, rfl⟩, h⟩
theorem pe_bl {b j pos} : PE X (.Constant (.bool b) j pos) (tC (.bl b)) := fun _ _ _ H _ I h => Constant_bool ⟨.bl b, H, I, rfl, h⟩
theorem pe_str {x j pos} : PE X (.Constant (.str x) j pos) (tC (.str x)) := fun _ _ _ H _ I h => Calls.Constant_str ⟨.str x, H, I.tok _, ⟨_, rfl⟩, h⟩
def Gl (X : Cx) (x : Str) : Prop := X.env.kindOf x = some .globalImplicit
theorem ld_glob {E : Value -> Shared -> Prop} {pins : List (Addr × Obj)} {s : Shared} {σ : St} {H : Hp} {x : Str} {u : Value} {pos : Pos} {Q : Value -> Shared -> Prop} (I : Inv X pins σ H s) (hg : Gl X x) (hm : X.mg x = some u) (h : Q u s)
  (hd : (x == ("__debug__" : Str)) = false := by decide) : wpAny (model X.prog X.w) X.A (eval (.Name x pos) X.env) Q E s :=
 Calls.Name_function_global I.ok.kind hg (Calls.loadGlobal_global (by rw [I.ok.glob]; exact I.mod.glob.keeps I.bk) hm h) hd
theorem ld_blt {E : Value -> Shared -> Prop} {pins : List (Addr × Obj)} {s : Shared} {σ : St} {H : Hp} {x : Str} {u : Value} {pos : Pos} {Q : Value -> Shared -> Prop} (I : Inv X pins σ H s) (hg : Gl X x) (hm : X.mg x = none) (hv : bootBuiltins x = some u) (h : Q u s)
  (hn : x ≠ "__name__" := by decide) (hd : (x == ("__debug__" : Str)) = false := by decide) : wpAny (model X.prog X.w) X.A (eval (.Name x pos) X.env) Q E s := by
 obtain ⟨mb, h1, h2⟩ := I.mod.blt
 exact Calls.Name_function_global I.ok.kind hg (Calls.loadGlobal_builtin (by rw [I.ok.glob]; exact I.mod.glob.keeps I.bk) hm (by rw [I.ok.blt]; exact h1.keeps I.bk) ((h2 x hn).trans hv) h) hd
theorem pe_glob {x : Str} {v : V} {u : Value} {pos : Pos} (hg : Gl X x) (hm : X.mg x = some u) (r : RelV v u) (hd : (x == ("__debug__" : Str)) = false := by decide) : PE X (.Name x pos) (tC v) :=
 fun _ _ _ H _ I h => ld_glob I hg hm ⟨v, H, I, r, h⟩ hd
variable {a b : Expr} {ta tb : TE} {pos : Pos}
def tB (t : TE) : TT := fun σ H Q => t σ H fun x H1 => ∃ c, x = .bl c /\ Q c H1
theorem pt_val {e : Expr} {t : TE} (h : PE X e t) (he : ∀ whole, isTrue e X.env whole = (do let v <- whole; standAt e.pos; holding [v] (truthy v)) := by intro _; rfl) : PT X e (tB t) := by
 intro pins s σ H Q I hw
 refine isTrue_plain (thn (h pins s σ H _ I hw) fun v s1 ⟨x, H1, I1, r1, q1⟩ => ?_) (he _)
 obtain ⟨d, rfl, q⟩ := q1
 cases r1
 exact wpAny_truthy_bool ⟨H1, I1, q⟩
variable {tA tB' : TT} {rest : List Expr}
def tAnd (t u : TT) : TT := fun σ H Q => t σ H fun c H1 => if c = true then u σ H1 Q else Q false H1
def tNot (t : TT) : TT := fun σ H Q => t σ H fun c H1 => Q (!c) H1
theorem pw_and1 (ha : PT X a tA) : PW X (.BoolOp .And [a] pos) tA := by
 intro wh pins s σ H Q I h
 refine isTrue_and (thn (ha pins s σ H Q I h) fun c s1 e => ?_)
 cases c with
 | true => exact isTrue_and_nil e
 | false => exact e
theorem pw_and (ha : PT X a tA) (hb : PW X (.BoolOp .And (b :: rest) pos) tB') : PW X (.BoolOp .And (a :: b :: rest) pos) (tAnd tA tB') := by
 intro wh pins s σ H Q I h
 refine isTrue_and (thn (ha pins s σ H _ I h) fun c s1 ⟨H1, I1, q1⟩ => ?_)
 cases c with
 | true => exact hb wh pins s1 σ H1 Q I1 q1
 | false => exact ⟨H1, I1, q1⟩
theorem pt_not (ha : PT X a tA) : PT X (.UnaryOp .Not a pos) (tNot tA) := by
 intro pins s σ H Q I h
 exact isTrue_not (ha pins s σ H (fun c H1 => Q (!c) H1) I h)
def tIf (t : TT) (ta tb : TE) : TE := fun σ H Q => t σ H fun c H1 => if c = true then ta σ H1 Q else tb σ H1 Q
theorem pe_ifExp {c : Expr} (hc : PT X c tA) (ha : PE X a ta) (hb : PE X b tb) : PE X (.IfExp c a b pos) (tIf tA ta tb) := by
 intro pins s σ H Q I h
 refine wpAny_IfExp (thn (hc pins s σ H _ I h) fun d s1 ⟨H1, I1, q1⟩ => ?_)
 cases d with
 | true => exact ha pins s1 σ H1 Q I1 q1
 | false => exact hb pins s1 σ H1 Q I1 q1
end
end L2
namespace L2
open PySem PySem.Spec PyProof.Rows
def SqL (K : PySem.W.Frag) (H : Hp) (a : Addr) (xs : List V) : Prop :=
 Rd H a (.lst xs) \/
  ∃ (o : Obj) (its : Array Value) (n : Nat), K.lookup a = some o /\ o.cls = .type "list" /\ o.dict = none /\ o.data = .seq its n /\ its.size <= sizeLine /\ Vals xs its.toList
def SqT (K : PySem.W.Frag) (H : Hp) (a : Addr) (xs : List V) : Prop :=
 Rd H a (.tup xs) \/
  ∃ (o : Obj) (its : Array Value) (n : Nat), K.lookup a = some o /\ o.cls = .type "tuple" /\ o.data = .seq its n /\ its.size <= sizeLine /\ Vals xs its.toList
def absV : Value -> Option V
 | .none => some .non
 | .bool b => some (.bl b)
 | .int i _ => some (.int i)
 | .str x _ => some (.str x)
 | .bytes b _ => some (.byt b)
 | .float b _ => some (.flt b)
 | .ref a => some (.ref a)
 | .type n => some (.ty n)
 | _ => none
theorem RelV.abs {x : V} {u : Value} (r : RelV x u) : absV u = some x := by
 cases x with
 | non => cases r; rfl
 | bl _ => cases r; rfl
 | int _ => obtain ⟨t, rfl⟩ := r; rfl
 | str _ => obtain ⟨t, rfl⟩ := r; rfl
 | byt _ => obtain ⟨t, rfl⟩ := r; rfl
 | flt _ => obtain ⟨t, rfl⟩ := r; rfl
 | ref _ => cases r; rfl
 | ty _ => cases r; rfl
theorem RelV.inj {x y : V} {u : Value} (r : RelV x u) (q : RelV y u) : x = y := Option.some.inj (r.abs.symm.trans q.abs)
theorem Vals.inj : ∀ {xs ys : List V} {us : List Value}, Vals xs us -> Vals ys us -> xs = ys
 | _, _, _, .nil, .nil => rfl
 | _, _, _, .cons r t, .cons r' t' => by rw [r.inj r', Vals.inj t t']
section
variable {X : Cx} {pins : List (Addr × Obj)} {σ : St} {H : Hp} {s : Shared} {a : Addr} {xs ys : List V}
theorem SqL.of {K : PySem.W.Frag} (h : H a = some (.lst xs)) : SqL K H a xs := .inl (.inl h)
theorem SqT.of {K : PySem.W.Frag} (h : H a = some (.tup xs)) : SqT K H a xs := .inl (.inl h)
theorem Inv.list (I : Inv X pins σ H s) (h : SqL X.K H a xs) : ∃ its : List Value, Vals xs its /\ PlainL s.heap a its.toArray /\ xs.length <= sizeLine := by
 rcases h with h | ⟨o, its, n, hk, hc, hd, hs, hz, r⟩
 ·obtain ⟨z, its, n, r, e⟩ := h.ok I.hok
  exact ⟨its, r, ⟨_, n, e, rfl, rfl, rfl⟩, z⟩
 ·refine ⟨its.toList, r, ⟨o, n, I.kIn a o hk, hc, hd, by simpa using hs⟩, ?_⟩
  have e := r.length
  simp only [Array.length_toList] at e
  omega
theorem Inv.tuple (I : Inv X pins σ H s) (h : SqT X.K H a xs) : ∃ its : List Value, Vals xs its /\ IsTup s.heap a its.toArray /\ xs.length <= sizeLine := by
 rcases h with h | ⟨o, its, n, hk, hc, hs, hz, r⟩
 ·obtain ⟨z, its, r, p⟩ := h.ok I.hok
  exact ⟨its, r, p, z⟩
 ·refine ⟨its.toList, r, ⟨o, I.kIn a o hk, hc, n, by simpa using hs⟩, ?_⟩
  have e := r.length
  simp only [Array.length_toList] at e
  omega
theorem Inv.list_inj (I : Inv X pins σ H s) (h : SqL X.K H a xs) (h' : SqL X.K H a ys) : xs = ys := by
 obtain ⟨its, r, ⟨o, n, e, _, _, d⟩, _⟩ := I.list h
 obtain ⟨its', r', ⟨o', n', e', _, _, d'⟩, _⟩ := I.list h'
 rw [e] at e'; cases e'
 rw [d] at d'
 injection d' with d1 _
 have : its = its' := by simpa using congrArg Array.toList d1
 subst this
 exact r.inj r'
theorem Inv.tuple_inj (I : Inv X pins σ H s) (h : SqT X.K H a xs) (h' : SqT X.K H a ys) : xs = ys := by
 obtain ⟨its, r, ⟨o, e, _, n, d⟩, _⟩ := I.tuple h
 obtain ⟨its', r', ⟨o', e', _, n', d'⟩, _⟩ := I.tuple h'
 rw [e] at e'; cases e'
 rw [d] at d'
 injection d' with d1 _
 have : its = its' := by simpa using congrArg Array.toList d1
 subst this
 exact r.inj r'
end
abbrev Cx.wish (X : Cx) (E : Value -> Shared -> Prop) : Cx := { X with xe := E }
abbrev Cx.nox (X : Cx) : Cx := X.wish fun _ _ => False
theorem Cx.Ok.wish {X : Cx} (ok : X.Ok) (E : Value -> Shared -> Prop) : (X.wish E).Ok :=
 ⟨ok.mod, ok.kind, ok.glob, ok.blt, ok.above, ok.inj, ok.has, ok.cab, ok.hd, ok.frames, ok.stk, ok.exf, ok.bs, ok.bsz, ok.noex, ok.exfs, ok.funs, ok.frf⟩
theorem Cx.Ok.unwish {X : Cx} {E : Value -> Shared -> Prop} (ok : (X.wish E).Ok) : X.Ok :=
 ⟨ok.mod, ok.kind, ok.glob, ok.blt, ok.above, ok.inj, ok.has, ok.cab, ok.hd, ok.frames, ok.stk, ok.exf, ok.bs, ok.bsz, ok.noex, ok.exfs, ok.funs, ok.frf⟩
section
variable {X : Cx} {pins : List (Addr × Obj)} {σ : St} {H : Hp} {s : Shared} {E : Value -> Shared -> Prop}
theorem Inv.wish (I : Inv X pins σ H s) (E : Value -> Shared -> Prop) : Inv (X.wish E) pins σ H s := ⟨I.ok.wish E, I.os, I.bare, I.base, I.loc, I.cell, I.free, I.freeC, I.pin, I.hok, I.len⟩
theorem Inv.unwish (I : Inv (X.wish E) pins σ H s) : Inv X pins σ H s := ⟨I.ok.unwish, I.os, I.bare, I.base, I.loc, I.cell, I.free, I.freeC, I.pin, I.hok, I.len⟩
theorem SP.unwish {D : Ends} {f : Flow} {s' : Shared} (h : SP (X.wish E) pins D f s') : SP X pins D f s' := by
 cases f with
 | next => obtain ⟨σ', H', I, q⟩ := h; exact ⟨σ', H', I.unwish, q⟩
 | brk => obtain ⟨σ', H', I, q⟩ := h; exact ⟨σ', H', I.unwish, q⟩
 | cont => obtain ⟨σ', H', I, q⟩ := h; exact ⟨σ', H', I.unwish, q⟩
 | ret u => obtain ⟨v, σ', H', I, r, q⟩ := h; exact ⟨v, σ', H', I.unwish, r, q⟩
theorem PSs.nox {st : List Stmt} {t : TS} (h : PSs X.nox st t) : PSs X st t := fun pins s σ H D I hw =>
 wpAny_mono (h pins s σ H D (I.wish _) hw) (fun _ _ q => q.unwish) fun _ _ z => False.elim z
end
section
variable {X : Cx} {st : Stmt} {rest : List Stmt} {t u : TS} {e : Expr} {te : TE} {pos : Pos}
def tNext : TS := fun D σ H => D.nx σ H
def tSeq (t u : TS) : TS := fun D σ H => t { D with nx := u D } σ H
theorem pss_nil : PSs X [] tNext := fun _ _ σ H _ I h => wpAny_execs_nil ⟨σ, H, I, h⟩
theorem pss_cons (h1 : PS X st t) (h2 : PSs X rest u) : PSs X (st :: rest) (tSeq t u) := by
 intro pins s σ H D I h
 refine wpAny_execs_cons (thn (h1 pins s σ H { D with nx := u D } I h) fun f s1 q => ?_)
 cases f with
 | next =>
  obtain ⟨σ', H', I', q⟩ := q
  exact h2 pins s1 σ' H' D I' q
 | ret v => exact q
 | brk => exact q
 | cont => exact q
theorem pss_one (h1 : PS X st t) : PSs X [st] t := by
 intro pins s σ H D I h
 refine wpAny_execs_cons (thn (h1 pins s σ H D I h) fun f s1 q => ?_)
 cases f with
 | next => exact wpAny_execs_nil q
 | ret v => exact q
 | brk => exact q
 | cont => exact q
theorem Inv.quiet {pins : List (Addr × Obj)} {σ : St} {H : Hp} {s : Shared} (I : Inv X pins σ H s) : interactive X.env = false := by simp [interactive, I.ok.kind]
def tDrop (te : TE) : TS := fun D σ H => te σ H fun _ H1 => D.nx σ H1
theorem ps_expr (he : PE X e te) (hs : swapsWith e none pos.line X.env = pure false := by rfl) : PS X (.Expr e pos) (tDrop te) := by
 intro pins s σ H D I h
 exact wpAny_Expr_any (thn (he pins s σ H _ I h) fun v s1 ⟨x, H1, I1, r1, q1⟩ => ⟨σ, H1, I1, q1⟩) I.quiet hs
def tRet (te : TE) : TS := fun D σ H => te σ H D.rt
theorem ps_ret (he : PE X e te) : PS X (.Return (some e) pos) (tRet te) := by
 intro pins s σ H D I h
 exact wpAny_Return_some (thn (he pins s σ H _ I h) fun v s1 ⟨x, H1, I1, r1, q1⟩ => ⟨x, σ, H1, I1, r1, q1⟩)
def tIfS (c : TT) (t u : TS) : TS := fun D σ H => c σ H fun b H1 => if b = true then t D σ H1 else u D σ H1
theorem ps_if {c : Expr} {a b : List Stmt} {tc : TT} (hc : PT X c tc) (ha : PSs X a t) (hb : PSs X b u) : PS X (.If c a b pos) (tIfS tc t u) := by
 intro pins s σ H D I h
 refine wpAny_If (thn (hc pins s σ H _ I h) fun d s1 ⟨H1, I1, q1⟩ => ?_)
 cases d with
 | true => exact ha pins s1 σ H1 D I1 q1
 | false => exact hb pins s1 σ H1 D I1 q1
end
abbrev TG := V -> St -> Hp -> (St -> Hp -> Prop) -> Prop
def PG (X : Cx) (target : Expr) (t : TG) : Prop :=
 ∀ (pins : List (Addr × Obj)) (s : Shared) (σ : St) (H : Hp) (v : V) (u : Value) (Q : St -> Hp -> Prop), Inv X pins σ H s -> RelV v u -> t v σ H Q ->
  wpAny (model X.prog X.w) X.A (assign target X.env u) (fun _ s' => ∃ σ' H', Inv X pins σ' H' s' /\ Q σ' H') X.xe s
abbrev TSet := V -> V -> V -> Hp -> (Hp -> Prop) -> Prop
def PSet (X : Cx) (t : TSet) : Prop :=
 ∀ (pins : List (Addr × Obj)) (s : Shared) (σ : St) (H : Hp) (o i v : V) (ov iv u : Value) (Q : Hp -> Prop), Inv X pins σ H s -> RelV o ov -> RelV i iv -> RelV v u -> t o i v H Q ->
  wpAny (model X.prog X.w) X.A (setItem ov iv u) (fun _ s' => ∃ H', Inv X pins σ H' s' /\ Q H') X.xe s
section
variable {X : Cx} {pos : Pos}
def gName (i : Nat) : TG := fun v σ H Q => Q (σ.set i (some v)) H
theorem pg_name {i : Nat} {x : Str} (hN : X.N.Nodup) (hi : X.N[i]? = some x) (hx : Loc X.env.scope x) (hf : X.fn x = true \/ X.env.scope.names.lookup x = some .local := by first | exact .inl rfl | exact .inr rfl | assumption) : PG X (.Name x pos) (gName i) := by
 intro pins s σ H v u Q I r h
 exact wpAny_assign_Name (store_ok I hN hi hx r (fun s' I' => ⟨_, H, I', h⟩) hf)
def gSub (to ti : TE) (t : TSet) : TG := fun v σ H Q => to σ H fun o H1 => ti σ H1 fun i H2 => t o i v H2 fun H3 => Q σ H3
theorem pg_sub {o i : Expr} {to ti : TE} {t : TSet} (ho : PE X o to) (hi : PE X i ti) (hs : PSet X t)
  (ha : ∀ v, assign (.Subscript o i pos) X.env v = (do
   let ov <- holding [v] (eval o X.env)
   let iv <- holding [v, ov] (eval i X.env)
   standAt pos
   holding [v, ov, iv] (setItem ov iv v)
   release [v, ov, iv] []) := by intro _; rfl) : PG X (.Subscript o i pos) (gSub to ti t) := by
 intro pins s σ H v u Q I r h
 rw [ha]
 refine wpAny_bind (wpAny_holding (thn (ho pins s σ H _ I h) fun ov s1 ⟨x, H1, I1, r1, q1⟩ => ?_))
 refine wpAny_bind (wpAny_holding (thn (hi pins s1 σ H1 _ I1 q1) fun iv s2 ⟨y, H2, I2, r2, q2⟩ => ?_))
 refine wpAny_bind (wpAny_standAt (wpAny_bind (wpAny_holding (thn (hs pins s2 σ H2 x y v ov iv u _ I2 r1 r2 r q2) fun _ s3 ⟨H3, I3, q3⟩ => ?_))))
 exact wpAny_release ⟨σ, H3, I3, q3⟩
def tAsg (te : TE) (g : TG) : TS := fun D σ H => te σ H fun x H1 => g x σ H1 D.nx
theorem ps_asg {tg e : Expr} {te : TE} {g : TG} (he : PE X e te) (hg : PG X tg g) (hs : swapsWithSole [tg] e pos.line X.env = pure false := by rfl) (hw : swappedStores [tg] e X.env = pure none := by rfl)
  (h1 : (assignEach [tg] X.env).map (·.2) = [assign tg X.env] := by rfl) : PS X (.Assign [tg] e pos) (tAsg te g) := by
 intro pins s σ H D I h
 refine wpAny_Assign_stores (thn (he pins s σ H _ I h) fun v s1 ⟨x, H1, I1, r1, q1⟩ => ?_) hs hw
 rw [h1]
 exact thn (hg pins s1 σ H1 x v _ I1 r1 q1) fun _ s2 q => q
theorem ps_set {i : Nat} {x : Str} {e : Expr} {te : TE} {pos' : Pos} (hN : X.N.Nodup) (hi : X.N[i]? = some x) (hx : Loc X.env.scope x) (he : PE X e te) (hs : swapsWith e (some (.Name x pos')) pos.line X.env = pure false := by rfl) (hf : X.fn x = true \/ X.env.scope.names.lookup x = some .local := by first | exact .inl rfl | exact .inr rfl | assumption) :
  PS X (.Assign [.Name x pos'] e pos) (tAsg te (gName i)) := by
 intro pins s σ H D I h
 refine wpAny_Assign_Name (thn (he pins s σ H _ I h) fun v s1 ⟨y, H1, I1, r1, q1⟩ => ?_) hs
 exact store_ok I1 hN hi hx r1 (fun s2 I2 => ⟨_, H1, I2, q1⟩) hf
end
section
variable {X : Cx} {pos : Pos}
def tWhile (c : TT) (tb : TS) : TS := fun D σ H => ∃ W : Nat -> St -> Hp -> Prop, (∃ m, W m σ H) /\ ∀ m σ H, W m σ H ->
 c σ H fun b H1 => if b = true then ∃ N : St -> Hp -> Prop, (∀ σ' H', N σ' H' -> ∃ m', m' < m /\ W m' σ' H') /\ tb { D with nx := N, ct := N, bk := D.nx } σ H1 else D.nx σ H1
theorem ps_while {c : Expr} {body : List Stmt} {tc : TT} {tb : TS} (hp : PassesOwn (model X.prog X.w) X.A X.env X.xe) (hc : PT X c tc) (hb : PSs X body tb) : PS X (.While c body [] pos) (tWhile tc tb) := by
 intro pins s σ H D I h
 obtain ⟨W, ⟨m0, w0⟩, turn⟩ := h
 refine wpAny_While (codeAny_whileLoop (fun n s' => ∃ σ' H', Inv X pins σ' H' s' /\ W n σ' H') ?_ m0 ⟨σ, H, I, w0⟩)
 rintro n s1 ⟨σ1, H1, I1, w1⟩
 refine wpAny_passesOwn hp (thn (hc pins s1 σ1 H1 _ I1 (turn n σ1 H1 w1)) fun b s2 ⟨H2, I2, q2⟩ => ?_)
 cases b with
 | true =>
  obtain ⟨N, hN, q2⟩ := q2
  rw [if_pos rfl]
  refine wpAny_passesOwn hp (thn (hb pins s2 σ1 H2 _ I2 q2) fun f s3 q3 => ?_)
  cases f with
  | next =>
   obtain ⟨σ3, H3, I3, n3⟩ := q3
   obtain ⟨m', hm, w3⟩ := hN σ3 H3 n3
   exact ⟨m', hm, σ3, H3, I3, w3⟩
  | cont =>
   obtain ⟨σ3, H3, I3, n3⟩ := q3
   obtain ⟨m', hm, w3⟩ := hN σ3 H3 n3
   exact ⟨m', hm, σ3, H3, I3, w3⟩
  | brk => exact q3
  | ret v => exact q3
 | false =>
  rw [if_neg Bool.false_ne_true]
  exact wpAny_execs_nil ⟨σ1, H2, I2, q2⟩
end
structure It where
 go : Nat -> Hp -> Prop
 yld : Nat -> Hp -> V -> Hp -> Prop
 stop : Nat -> Hp -> Prop
def FpOk (X : Cx) (pins : List (Addr × Obj)) (H : Hp) (b : Addr) : Prop :=
 H b = none /\ b ≠ X.env.locals /\ b ∉ X.fs /\ (b ∈ X.ex \/ X.s₀.heap.objs.size <= b) /\ (∀ x c, X.env.cells.lookup x = some c -> c ≠ b) /\ ∀ p ∈ X.pn ++ pins, p.1 ≠ b
theorem Inv.fpOk {X : Cx} {pins : List (Addr × Obj)} {σ : St} {H H' : Hp} {s : Shared} {b : Addr} (I : Inv X pins σ H s) (hb : s.heap.objs.size <= b) (hn : H' b = none) : FpOk X pins H' b := by
 refine ⟨hn, Nat.ne_of_gt (Nat.lt_of_lt_of_le I.lt hb), I.nofs hb, .inr (Nat.le_trans I.sz hb), fun x c e z => ?_, fun p hp z => ?_⟩
 ·obtain ⟨v, q⟩ := I.cell x c e
  exact absurd (Nat.lt_of_lt_of_le q.lt (by rw [z]; exact hb)) (Nat.lt_irrefl _)
 ·exact absurd (Nat.lt_of_lt_of_le (Heap.lt_size (I.pin p hp).1) (by rw [z]; exact hb)) (Nat.lt_irrefl _)
structure Turn (P : Program) (w : World) (K : PySem.W.Frag) (tg : Expr) (J : It) (fp : List Addr) (it : Addr) (tn : Nat -> Heap -> Prop) : Prop where
 mem : it ∈ fp
 obj : ∀ i h, tn i h -> ∀ b ∈ fp, ∃ o, h.get? b = some o /\ ∀ v, o.data ≠ .cell v
 keep : ∀ i h h', tn i h -> (∀ b ∈ fp, ∀ o, h.get? b = some o -> h'.get? b = some o) -> tn i h'
 item : ∀ (X : Cx), X.prog = P -> X.w = w -> X.K = K -> X.calm = true -> ∀ (i : Nat) (pins : List (Addr × Obj)) (s : Shared) (σ : St) (H : Hp) (E : Value -> Shared -> Prop), Inv X pins σ H s -> (∀ b ∈ fp, FpOk X pins H b) -> tn i s.heap -> J.go i H ->
  wpAny (model P w) X.A (pyNext (.ref it)) (fun r s1 => ∃ u, r = some u /\
   wpAny (model P w) X.A (letOwnedTupleGo tg (.ref it) u) (fun _ s2 => ∃ x H', Inv X pins σ H' s2 /\ RelV x u /\ J.yld i H x H' /\ tn (i + 1) s2.heap /\ ∀ b ∈ fp, H' b = none) E s1) E s
 done : ∀ (X : Cx), X.prog = P -> X.w = w -> X.K = K -> X.calm = true -> ∀ (i : Nat) (pins : List (Addr × Obj)) (s : Shared) (σ : St) (H : Hp) (E : Value -> Shared -> Prop), Inv X pins σ H s -> (∀ b ∈ fp, FpOk X pins H b) -> tn i s.heap -> J.stop i H ->
  wpAny (model P w) X.A (pyNext (.ref it)) (fun r s1 => r = none /\ Inv X pins σ H s1) E s
 self : ∀ (A : Around) (i : Nat) (s : Shared) (Q : Value -> Shared -> Prop) (E : Value -> Shared -> Prop), tn i s.heap -> Q (.ref it) s -> wpAny (model P w) A (pyIter (.ref it)) Q E s
abbrev TI := St -> Hp -> (It -> Hp -> Prop) -> Prop
def PIE (X : Cx) (pins : List (Addr × Obj)) (σ : St) (tg : Expr) (R : It -> Hp -> Prop) (itv : Value) (s2 : Shared) : Prop :=
 ∃ (it : Addr) (fp : List Addr) (tn : Nat -> Heap -> Prop) (J : It) (H' : Hp), itv = .ref it /\ Inv X pins σ H' s2 /\ Turn X.prog X.w X.K tg J fp it tn /\ tn 0 s2.heap /\ (∀ b ∈ fp, FpOk X pins H' b) /\ R J H'
def PI (X : Cx) (tg iter : Expr) (wi : TI) : Prop :=
 ∀ (pins : List (Addr × Obj)) (s : Shared) (σ : St) (H : Hp) (R : It -> Hp -> Prop), Inv X pins σ H s -> wi σ H R ->
  wpAny (model X.prog X.w) X.A (eval iter X.env) (fun v s1 => wpAny (model X.prog X.w) X.A (pyIter v) (PIE X pins σ tg R) X.xe s1) X.xe s
theorem go_of {M : Model} {A : Around} {E : Value -> Shared -> Prop} {s : Shared} {tg : Expr} {it : Addr} {u : Value} {o : Obj} {n : String} {vs : Array Value} {Q : Unit -> Shared -> Prop} (ho : s.heap.get? it = some o) (hc : o.cls = .type n) (hd : o.data = .fields vs)
    (hn : ["enumerate", "zip", "dict_itemiterator", "dict_reverseitemiterator", "odict_iterator", "itertools.zip_longest", "itertools.pairwise"].contains n = false) (hQ : Q () s) : wpAny M A (letOwnedTupleGo tg (.ref it) u) Q E s := by
  unfold letOwnedTupleGo
  cases tg <;> first
    | exact wpAny_pure hQ
    | (cases u <;> first
        | exact wpAny_pure hQ
        | (refine wpAny_bind (wpAny_load ho ?_)
           rw [hc, hd]
           show wpAny M A (if (["enumerate", "zip", "dict_itemiterator", "dict_reverseitemiterator", "odict_iterator", "itertools.zip_longest", "itertools.pairwise"].contains n && vs[0]? == some (rawInt _)) = true then _ else _) Q E s
           rw [if_neg (by intro h; rw [hn, Bool.false_and] at h; cases h)]
           exact wpAny_pure hQ))
def Itl (K : PySem.W.Frag) (a : Addr) : It :=
 ⟨fun i H => ∃ xs x, SqL K H a xs /\ xs[i]? = some x, fun i H x H' => H' = H /\ ∀ xs, SqL K H a xs -> xs[i]? = some x, fun i H => ∃ xs, SqL K H a xs /\ xs.length <= i⟩
def Itt (K : PySem.W.Frag) (a : Addr) : It :=
 ⟨fun i H => ∃ xs x, SqT K H a xs /\ xs[i]? = some x, fun i H x H' => H' = H /\ ∀ xs, SqT K H a xs -> xs[i]? = some x, fun i H => ∃ xs, SqT K H a xs /\ xs.length <= i⟩
def Itr (lo : Int) (n : Nat) : It := ⟨fun i _ => i < n, fun i H x H' => H' = H /\ x = .int (lo + i), fun i _ => n <= i⟩
theorem turn_list {P : Program} {w : World} {K : PySem.W.Frag} {tg : Expr} (a it : Addr) : Turn P w K tg (Itl K a) [it] it (fun i h => h.IsListIter it a i) where
 mem := by simp
 obj := fun i h st b hb => by
  have e : b = it := by simpa using hb
  subst e
  obtain ⟨o, e, c, d⟩ := st
  exact ⟨o, e, fun v z => by rw [d] at z; cases z⟩
 keep := fun i h h' st k => st.at fun o e => k it (by simp) o e
 item := by
  intro X hP hw hK hc i pins s σ H E I hf st hg
  subst hP hw hK
  obtain ⟨xs, x, hq, hx⟩ := hg
  obtain ⟨its, rv, p, hz⟩ := I.list hq
  obtain ⟨u, hu, ru⟩ := rv.get hx
  obtain ⟨f0, f1, f2, f3, f4, f5⟩ := hf it (by simp)
  refine wpAny_pyNext_list_item st p.isList (x := u) (by simpa using hu) fun h' st' sb => ?_
  have I1 : Inv X pins σ H { s with heap := h' } := I.turned (t' := s.toks) (fun b o hb e => (sb.2 b hb).trans e) f0 f1 f3 f4 f5
  obtain ⟨o, e, c, d⟩ := id st'
  exact ⟨u, rfl, go_of (s := { s with heap := h' }) e c d (by decide) ⟨x, H, I1, ru, ⟨rfl, fun ys hy => by rw [I.list_inj hy hq]; exact hx⟩, st', fun b hb => (hf b hb).1⟩⟩
 done := by
  intro X hP hw hK hc i pins s σ H E I hf st hg
  subst hP hw hK
  obtain ⟨xs, hq, hx⟩ := hg
  obtain ⟨its, rv, p, hz⟩ := I.list hq
  obtain ⟨f0, f1, f2, f3, f4, f5⟩ := hf it (by simp)
  have hl := rv.length
  exact wpAny_pyNext_list_end (I.ok.hd hc) st p.isList (by simp; omega) fun h' eb => ⟨rfl, I.turned (t' := s.toks) (fun b o hb e => eb b o hb e) f0 f1 f3 f4 f5⟩
 self := fun _ _ _ _ _ st h => wpAny_pyIter_listiter st h
theorem turn_tuple {P : Program} {w : World} {K : PySem.W.Frag} {tg : Expr} (a it : Addr) : Turn P w K tg (Itt K a) [it] it (fun i h => h.IsTupleIter it a i) where
 mem := by simp
 obj := fun i h st b hb => by
  have e : b = it := by simpa using hb
  subst e
  obtain ⟨o, e, c, d⟩ := st
  exact ⟨o, e, fun v z => by rw [d] at z; cases z⟩
 keep := fun i h h' st k => st.at fun o e => k it (by simp) o e
 item := by
  intro X hP hw hK hc i pins s σ H E I hf st hg
  subst hP hw hK
  obtain ⟨xs, x, hq, hx⟩ := hg
  obtain ⟨its, rv, p, hz⟩ := I.tuple hq
  obtain ⟨u, hu, ru⟩ := rv.get hx
  obtain ⟨f0, f1, f2, f3, f4, f5⟩ := hf it (by simp)
  refine wpAny_pyNext_tuple_item st (show s.heap.IsTuple a its.toArray from p) (x := u) (by simpa using hu) fun h' st' sb => ?_
  have I1 : Inv X pins σ H { s with heap := h' } := I.turned (t' := s.toks) (fun b o hb e => (sb.2 b hb).trans e) f0 f1 f3 f4 f5
  obtain ⟨o, e, c, d⟩ := id st'
  exact ⟨u, rfl, go_of (s := { s with heap := h' }) e c d (by decide) ⟨x, H, I1, ru, ⟨rfl, fun ys hy => by rw [I.tuple_inj hy hq]; exact hx⟩, st', fun b hb => (hf b hb).1⟩⟩
 done := by
  intro X hP hw hK hc i pins s σ H E I hf st hg
  subst hP hw hK
  obtain ⟨xs, hq, hx⟩ := hg
  obtain ⟨its, rv, p, hz⟩ := I.tuple hq
  obtain ⟨f0, f1, f2, f3, f4, f5⟩ := hf it (by simp)
  have hl := rv.length
  exact wpAny_pyNext_tuple_end (I.ok.hd hc) st (show s.heap.IsTuple a its.toArray from p) (by simp; omega) fun h' eb => ⟨rfl, I.turned (t' := s.toks) (fun b o hb e => eb b o hb e) f0 f1 f3 f4 f5⟩
 self := fun _ _ _ _ _ st h => wpAny_pyIter_tupleiter st h
theorem turn_range {P : Program} {w : World} {K : PySem.W.Frag} {tg : Expr} (it : Addr) (lo : Int) (n : Nat) : Turn P w K tg (Itr lo n) [it] it (fun i h => IsRangeIter h it (lo + (i : Nat) * 1) ((n : Int) - (i : Nat)) 1) where
 mem := by simp
 obj := fun i h st b hb => by
  have e : b = it := by simpa using hb
  subst e
  exact ⟨_, st, fun v z => by
   have z' : Data.fields _ = Data.cell v := z
   cases z'⟩
 keep := fun i h h' st k => k it (by simp) _ st
 item := by
  intro X hP hw hK hc i pins s σ H E I hf st hg
  subst hP hw hK
  obtain ⟨f0, f1, f2, f3, f4, f5⟩ := hf it (by simp)
  have W := Walks.range (prog := X.prog) (w := X.w) (I.ok.hd hc) it lo 1 n
  refine W.item i s _ _ hg st fun v h' tk hv st' kk => ?_
  obtain ⟨t, rfl⟩ := hv
  have I1 : Inv X pins σ H { s with heap := h', toks := tk } := I.turned (fun b o hb e => kk b o (by simpa using hb) e) f0 f1 f3 f4 f5
  refine ⟨_, rfl, go_of (s := { s with heap := h', toks := tk }) (n := "range_iterator") st' rfl rfl (by decide) ⟨.int (lo + i), H, I1, ⟨t, ?_⟩, ⟨rfl, rfl⟩, st', fun b hb => (hf b hb).1⟩⟩
  rw [Int.mul_one]
 done := by
  intro X hP hw hK hc i pins s σ H E I hf st hg
  subst hP hw hK
  obtain ⟨f0, f1, f2, f3, f4, f5⟩ := hf it (by simp)
  exact wpAny_pyNext_range_end (I.ok.hd hc) st (by have : n <= i := hg; omega) fun h' eb => ⟨rfl, I.turned (t' := s.toks) (fun b o hb e => eb b o hb e) f0 f1 f3 f4 f5⟩
 self := fun _ _ _ _ _ st h => wpAny_pyIter_rangeiter st h
end L2
namespace L2
open PySem PySem.Spec PyProof.Rows
section
variable {X : Cx} {tg : Expr}
theorem range_it {pins : List (Addr × Obj)} {σ : St} {H : Hp} {s : Shared} {R : It -> Hp -> Prop} {E : Value -> Shared -> Prop} {lo hi : Int} {t u v : Tok} {tk : Nat} (I : Inv X pins σ H s) (h1 : -(2 ^ 62) <= lo) (h2 : lo < 2 ^ 62) (h3 : -(2 ^ 62) <= hi) (h4 : hi < 2 ^ 62)
  (q : R (Itr lo (hi - lo).toNat) H) : wpAny (model X.prog X.w) X.A (pyIter (.ref s.heap.objs.size)) (PIE X pins σ tg R) E { s with heap := s.heap.push { cls := .type "range", data := .fields #[.int lo t, .int hi u, .int 1 v] }, toks := tk } := by
 refine wpAny_pyIter_range (IsRange.new ..) (small_one h1 h2 h3 h4) ?_
 have I1 : Inv X pins σ H { s with heap := s.heap.push { cls := .type "range", data := .fields #[.int lo t, .int hi u, .int 1 v] }, toks := tk } := I.kept fun b o e => Heap.get?_push_of_some _ e
 refine ⟨(s.heap.push { cls := .type "range", data := .fields #[.int lo t, .int hi u, .int 1 v] }).objs.size, [(s.heap.push { cls := .type "range", data := .fields #[.int lo t, .int hi u, .int 1 v] }).objs.size], _, _, H, rfl,
  I1.kept (t' := tk) fun b o e => Heap.get?_push_of_some _ e, turn_range _ lo (hi - lo).toNat, ?_, fun b hb => ?_, q⟩
 ·have e1 : lo + ((0 : Nat) : Int) * 1 = lo := by simp
  have e2 : (((hi - lo).toNat : Nat) : Int) - ((0 : Nat) : Int) = Builtin.Range.rangeSize lo hi 1 := by rw [rangeSize_one]; split <;> omega
  show IsRangeIter _ _ (lo + ((0 : Nat) : Int) * 1) ((((hi - lo).toNat : Nat) : Int) - ((0 : Nat) : Int)) 1
  rw [e1, e2]
  exact Heap.get?_push_size _ rfl
 ·have e : b = (s.heap.push { cls := .type "range", data := .fields #[.int lo t, .int hi u, .int 1 v] }).objs.size := by simpa using hb
  subst e
  exact I1.fpOk (Nat.le_refl _) (I1.hok.fresh (Nat.le_refl _))
def iRng1 (ta : TA) : TI := fun σ H R => ta σ H fun vs H1 => ∃ j : Int, vs = [.int j] /\ -(2 ^ 62) <= j /\ j < 2 ^ 62 /\ R (Itr 0 j.toNat) H1
theorem pi_range1 {a : Expr} {ta : TA} {p pos : Pos} (hg : Gl X "range") (hm : X.mg "range" = none) (ha : PA X [a] ta) (hs : starEach [a] X.env = [(false, eval a X.env)] := by rfl) : PI X tg (.Call (.Name "range" p) [a] [] pos) (iRng1 ta) := by
 intro pins s σ H R I h
 refine Call_ (ld_blt I hg hm boot_range (PyProof.Rows.callWith_type1 (thn (ha pos pins s σ H _ I h) fun us s1 ⟨vs, H1, I1, r1, q1⟩ => ?_) hs rfl))
 obtain ⟨j, e, q1, q2, q⟩ := q1
 subst e
 cases r1 with
 | cons r rr =>
  cases rr
  obtain ⟨t, rfl⟩ := r
  exact call_range_1 (range_it I1 (by omega) (by omega) q1 q2 (by simpa using q))
def tFor (wi : TI) (g : TG) (tb : TS) : TS := fun D σ H => wi σ H fun J H1 => ∃ W : Nat -> Nat -> St -> Hp -> Prop, (∃ m, W 0 m σ H1) /\ ∀ i m σ H, W i m σ H ->
 (J.stop i H /\ D.nx σ H) \/ (J.go i H /\ ∃ N : St -> Hp -> Prop, (∀ σ' H', N σ' H' -> ∃ m', m' < m /\ W (i + 1) m' σ' H') /\ ∀ x H', J.yld i H x H' -> g x σ H' fun σ2 H2 => tb { D with nx := N, ct := N, bk := D.nx } σ2 H2)
def pinsAt (fp : List Addr) (h : Heap) : List (Addr × Obj) := fp.filterMap fun b => (h.get? b).map fun o => (b, o)
theorem mem_pinsAt {fp : List Addr} {h : Heap} {b : Addr} {o : Obj} (hb : b ∈ fp) (e : h.get? b = some o) : (b, o) ∈ pinsAt fp h := List.mem_filterMap.mpr ⟨b, hb, by rw [e]; rfl⟩
theorem of_pinsAt {fp : List Addr} {h : Heap} {p : Addr × Obj} (hp : p ∈ pinsAt fp h) : p.1 ∈ fp /\ h.get? p.1 = some p.2 := by
 obtain ⟨b, hb, e⟩ := List.mem_filterMap.mp hp
 cases q : h.get? b with
 | none => rw [q] at e; cases e
 | some o =>
  rw [q] at e
  have e' : (b, o) = p := Option.some.inj e
  subst e'
  exact ⟨hb, q⟩
theorem Inv.pinned {pins : List (Addr × Obj)} {σ : St} {H : Hp} {s : Shared} {fp : List Addr} (I : Inv X pins σ H s) (hf : ∀ b ∈ fp, FpOk X pins H b) (ho : ∀ b ∈ fp, ∃ o, s.heap.get? b = some o /\ ∀ v, o.data ≠ .cell v) : Inv X (pins ++ pinsAt fp s.heap) σ H s :=
 I.pins_of fun p hp => (List.mem_append.mp hp).elim (fun z => I.pin p (List.mem_append_right _ z)) fun z => by
  obtain ⟨hb, e⟩ := of_pinsAt z
  obtain ⟨f0, f1, f2, _⟩ := hf p.1 hb
  obtain ⟨o, e', d⟩ := ho p.1 hb
  rw [e] at e'; cases e'
  exact ⟨e, f0, f1, f2, d⟩
theorem Inv.unpinned {pins pl : List (Addr × Obj)} {σ : St} {H : Hp} {s : Shared} (I : Inv X (pins ++ pl) σ H s) : Inv X pins σ H s := I.pins_of fun p hp => I.pin p (List.mem_append_right _ (List.mem_append_left _ hp))
theorem ps_for {iter : Expr} {body : List Stmt} {wi : TI} {g : TG} {tb : TS} {pos : Pos} (hp : PassesOwn (model X.prog X.w) X.A X.env X.xe) (hc : X.calm = true) (hi : PI X tg iter wi) (hg : PG X tg g) (hb : PSs X body tb)
  (hs : ∀ x, foldedSetIterable iter X.env x = pure x := by intro _; rfl) : PS X (.For tg iter body [] pos) (tFor wi g tb) := by
 intro pins s σ H D I h
 refine wpAny_For (thn (hi pins s σ H _ I h) fun v s1 h1 => thn h1 fun itv s2 h2 => ?_) hs
 obtain ⟨it, fp, tn, J, H2, e, I2, T, st2, f2, W, ⟨m0, w0⟩, turn⟩ := h2
 subst e
 -- what stays true of the iterator's objects through the loop
 have stat : ∀ {H' : Hp}, (∀ b ∈ fp, H' b = none) -> ∀ b ∈ fp, FpOk X pins H' b := fun hn b hb => ⟨hn b hb, (f2 b hb).2⟩
 refine codeAny_forLoop_any (fun n s' => ∃ i σ' H', Inv X pins σ' H' s' /\ tn i s'.heap /\ (∀ b ∈ fp, H' b = none) /\ W i n σ' H') ?_ m0 ⟨0, σ, H2, I2, st2, fun b hb => (f2 b hb).1, w0⟩
 rintro n s3 ⟨i, σ3, H3, I3, st3, fr3, w3⟩
 rcases turn i n σ3 H3 w3 with ⟨stop, qn⟩ | ⟨go, N, hN, step⟩
 ·refine wpAny_passesOwn hp (thn (T.done X rfl rfl rfl hc i pins s3 σ3 H3 X.xe I3 (stat fr3) st3 stop) fun r s4 ⟨hr, I4⟩ => ?_)
  subst hr
  exact wpAny_execs_nil ⟨σ3, H3, I4, qn⟩
 ·refine wpAny_passesOwn hp (thn (T.item X rfl rfl rfl hc i pins s3 σ3 H3 X.xe I3 (stat fr3) st3 go) fun r s4 ⟨u, hr, h4⟩ => ?_)
  subst hr
  refine wpAny_passesOwn hp (thn h4 fun _ s5 ⟨x, H5, I5, r5, y5, st5, fr5⟩ => ?_)
  have I5' := I5.pinned (stat fr5) (T.obj _ _ st5)
  refine wpAny_passesOwn hp (thn (hg _ s5 σ3 H5 x u _ I5' r5 (step x H5 y5)) fun _ s6 ⟨σ6, H6, I6, q6⟩ => ?_)
  refine wpAny_passesOwn hp (thn (hb _ s6 σ6 H6 _ I6 q6) fun f s7 q7 => ?_)
  have again : ∀ {σ7 : St} {H7 : Hp}, Inv X (pins ++ pinsAt fp s5.heap) σ7 H7 s7 -> N σ7 H7 -> ∃ m, m < n /\ ∃ i σ' H', Inv X pins σ' H' s7 /\ tn i s7.heap /\ (∀ b ∈ fp, H' b = none) /\ W i m σ' H' := fun {σ7 H7} I7 n7 => by
   obtain ⟨m', hm, w7⟩ := hN σ7 H7 n7
   refine ⟨m', hm, i + 1, σ7, H7, I7.unpinned, T.keep _ _ _ st5 fun b hb o e => (I7.pin (b, o) (List.mem_append_right _ (List.mem_append_right _ (mem_pinsAt hb e)))).1, fun b hb => ?_, w7⟩
   obtain ⟨o, e, d⟩ := T.obj _ _ st5 b hb
   exact (I7.pin (b, o) (List.mem_append_right _ (List.mem_append_right _ (mem_pinsAt hb e)))).2.1
  cases f with
  | next => obtain ⟨σ7, H7, I7, n7⟩ := q7; exact again I7 n7
  | cont => obtain ⟨σ7, H7, I7, n7⟩ := q7; exact again I7 n7
  | brk => obtain ⟨σ7, H7, I7, q7⟩ := q7; exact ⟨σ7, H7, I7.unpinned, q7⟩
  | ret v => obtain ⟨x7, σ7, H7, I7, r7, q7⟩ := q7; exact ⟨x7, σ7, H7, I7.unpinned, r7, q7⟩
end
end L2
namespace L2
open PySem PySem.Spec PyProof.Rows
abbrev R2 := V -> V -> Hp -> VK -> Prop
def OpR (X : Cx) (f : Value -> Value -> Sem Value) (r : R2) : Prop :=
 ∀ (pins : List (Addr × Obj)) (s : Shared) (σ : St) (H : Hp) (x y : V) (v u : Value) (Q : VK), Inv X pins σ H s -> RelV x v -> RelV y u -> r x y H Q ->
  wpAny (model X.prog X.w) X.A (f v u) (EP X pins σ Q) X.xe s
def UnR (X : Cx) (f : Value -> Sem Value) (r : V -> Hp -> VK -> Prop) : Prop :=
 ∀ (pins : List (Addr × Obj)) (s : Shared) (σ : St) (H : Hp) (x : V) (v : Value) (Q : VK), Inv X pins σ H s -> RelV x v -> r x H Q ->
  wpAny (model X.prog X.w) X.A (f v) (EP X pins σ Q) X.xe s
def CallR (X : Cx) (f : Value) (r : List V -> Hp -> VK -> Prop) : Prop :=
 ∀ (pins : List (Addr × Obj)) (s : Shared) (σ : St) (H : Hp) (xs : List V) (us : List Value) (Q : VK), Inv X pins σ H s -> Vals xs us -> r xs H Q ->
  wpAny (model X.prog X.w) X.A (call f us) (EP X pins σ Q) X.xe s
def tOp (r : R2) (ta tb : TE) : TE := fun σ H Q => ta σ H fun x H1 => tb σ H1 fun y H2 => r x y H2 Q
def tUn (r : V -> Hp -> VK -> Prop) (ta : TE) : TE := fun σ H Q => ta σ H fun x H1 => r x H1 Q
def rI (C : Int -> Int -> Prop) (g : Int -> Int -> V) : R2 := fun x y H Q => ∃ i j, x = .int i /\ y = .int j /\ C i j /\ Q (g i j) H
def rI0 (g : Int -> Int -> V) : R2 := fun x y H Q => ∃ i j, x = .int i /\ y = .int j /\ Q (g i j) H
def rU (g : Int -> V) : V -> Hp -> VK -> Prop := fun x H Q => ∃ i, x = .int i /\ Q (g i) H
section
variable {X : Cx} {a b c : Expr} {ta tb tc : TE} {pos : Pos}
theorem binT (ha : PE X a ta) (hb : PE X b tb) {pins : List (Addr × Obj)} {s : Shared} {σ : St} {H : Hp} {R : V -> V -> Hp -> Prop} (I : Inv X pins σ H s)
  (h : ta σ H fun x H1 => tb σ H1 fun y H2 => R x y H2) {Q : Value -> Shared -> Prop} {f : Value -> Value -> Sem Value}
  (hf : ∀ v u s2 x y H2, Inv X pins σ H2 s2 -> RelV x v -> RelV y u -> R x y H2 -> wpAny (model X.prog X.w) X.A (f v u) Q X.xe s2) :
  wpAny (model X.prog X.w) X.A (eval a X.env) (fun v s₁ => wpAny (model X.prog X.w) X.A (eval b X.env) (fun u s₂ => wpAny (model X.prog X.w) X.A (f v u) Q X.xe s₂) X.xe s₁) X.xe s := by
 refine thn (ha pins s σ H _ I h) fun v s1 ⟨x, H1, I1, r1, q1⟩ => ?_
 refine thn (hb pins s1 σ H1 _ I1 q1) fun u s2 ⟨y, H2, I2, r2, q2⟩ => ?_
 exact hf v u s2 x y H2 I2 r1 r2 q2
theorem pe_op {op : Operator} {r : R2} (ho : OpR X (binaryOp op) r) (ha : PE X a ta) (hb : PE X b tb) : PE X (.BinOp a op b pos) (tOp r ta tb) := by
 intro pins s σ H Q I h
 exact wpAny_BinOp (binT ha hb I h fun v u s2 x y H2 I2 rx ry q => ho pins s2 σ H2 x y v u Q I2 rx ry q)
theorem pe_un {op : UnaryOp} {r : V -> Hp -> VK -> Prop} (ho : UnR X (unaryOp op) r) (ha : PE X a ta) : PE X (.UnaryOp op a pos) (tUn r ta) := by
 intro pins s σ H Q I h
 exact UnaryOp_ (thn (ha pins s σ H _ I h) fun v s1 ⟨x, H1, I1, r1, q1⟩ => ho pins s1 σ H1 x v Q I1 r1 q1)
theorem opI {f : Value -> Value -> Sem Value} {C : Int -> Int -> Prop} {g : Int -> Int -> Int}
  (rule : ∀ (i j : Int) (t u : Tok) (s : Shared) (Q : Value -> Shared -> Prop) (E : Value -> Shared -> Prop), C i j -> Q (.int (g i j) s.toks) { s with toks := s.toks + 1 } -> wpAny (model X.prog X.w) X.A (f (.int i t) (.int j u)) Q E s) :
  OpR X f (rI C fun i j => .int (g i j)) := by
 intro pins s σ H x y v u Q I rx ry h
 obtain ⟨i, j, rfl, rfl, hc, q⟩ := h
 obtain ⟨t, rfl⟩ := rx
 obtain ⟨t', rfl⟩ := ry
 exact rule i j t t' s _ _ hc ⟨.int (g i j), H, I.tok _, ⟨_, rfl⟩, q⟩
theorem opI0 {f : Value -> Value -> Sem Value} {g : Int -> Int -> Int}
  (rule : ∀ (i j : Int) (t u : Tok) (s : Shared) (Q : Value -> Shared -> Prop) (E : Value -> Shared -> Prop), Q (.int (g i j) s.toks) { s with toks := s.toks + 1 } -> wpAny (model X.prog X.w) X.A (f (.int i t) (.int j u)) Q E s) :
  OpR X f (rI0 fun i j => .int (g i j)) := by
 intro pins s σ H x y v u Q I rx ry h
 obtain ⟨i, j, rfl, rfl, q⟩ := h
 obtain ⟨t, rfl⟩ := rx
 obtain ⟨t', rfl⟩ := ry
 exact rule i j t t' s _ _ ⟨.int (g i j), H, I.tok _, ⟨_, rfl⟩, q⟩
theorem opB0 {f : Value -> Value -> Sem Value} {g : Int -> Int -> Bool}
  (rule : ∀ (i j : Int) (t u : Tok) (s : Shared) (Q : Value -> Shared -> Prop) (E : Value -> Shared -> Prop), Q (.bool (g i j)) s -> wpAny (model X.prog X.w) X.A (f (.int i t) (.int j u)) Q E s) :
  OpR X f (rI0 fun i j => .bl (g i j)) := by
 intro pins s σ H x y v u Q I rx ry h
 obtain ⟨i, j, rfl, rfl, q⟩ := h
 obtain ⟨t, rfl⟩ := rx
 obtain ⟨t', rfl⟩ := ry
 exact rule i j t t' s _ _ ⟨.bl (g i j), H, I, rfl, q⟩
def CDiv (i j : Int) : Prop := 0 < j /\ j < 1073741824
def CPow (i j : Int) : Prop := 0 <= j /\ j <= 1000000 /\ i.natAbs < 2 ^ 64
def CMul (i j : Int) : Prop := (-(2 ^ 64) < i /\ i < 2 ^ 64) \/ (-(2 ^ 64) < j /\ j < 2 ^ 64)
theorem CMul.ok {i j : Int} (h : CMul i j) : IntMulOk i j := by
 rcases h with ⟨h1, h2⟩ | ⟨h1, h2⟩
 ·exact .of_left (intBits_le_64 h1 h2)
 ·exact .of_right (intBits_le_64 h1 h2)
theorem two_pow_nn (k : Nat) : (0 : Int) <= 2 ^ k := by
 rw [two_pow_cast]
 exact Int.natCast_nonneg _
theorem op_add : OpR X (binaryOp .Add) (rI0 fun i j => .int (i + j)) := opI0 fun _ _ _ _ _ _ _ q => add_int q
theorem op_sub : OpR X (binaryOp .Sub) (rI0 fun i j => .int (i - j)) := opI0 fun _ _ _ _ _ _ _ q => sub_int q
theorem op_mul : OpR X (binaryOp .Mult) (rI CMul fun i j => .int (i * j)) := opI fun _ _ _ _ _ _ _ hc q => mul_int q hc.ok
theorem op_fdiv : OpR X (binaryOp .FloorDiv) (rI CDiv fun i j => .int (i / j)) := opI fun i j _ _ _ _ _ hc q => by
 have h1 : (0 : Int) < j := hc.1
 have h2 : j < 1073741824 := hc.2
 exact floordiv_int (by omega) (by rw [Int.fdiv_eq_ediv_of_nonneg i (by omega)]; exact q) (.inl (PyProof.noPylong_small (by omega)))
theorem op_mod : OpR X (binaryOp .Mod) (rI (fun _ j => 0 < j) fun i j => .int (i % j)) := opI fun i j _ _ _ _ _ hc q => by
 have h1 : (0 : Int) < j := hc
 exact mod_int' (by omega) (by rw [Int.fmod_eq_emod_of_nonneg i (by omega)]; exact q)
theorem op_pow : OpR X (binaryOp .Pow) (rI CPow fun i j => .int (i ^ j.toNat)) := opI fun _ _ _ _ _ _ _ hc q => pow_int_small hc.1 hc.2.1 hc.2.2 q
theorem op_shr : OpR X (binaryOp .RShift) (rI (fun _ j => 0 <= j) fun i j => .int (i / 2 ^ j.toNat)) := opI fun i j _ _ _ _ _ hc q =>
 rshift_int hc (by rw [Int.fdiv_eq_ediv_of_nonneg i (two_pow_nn _)]; exact q)
theorem op_and : OpR X (binaryOp .BitAnd) (rI0 fun i j => .int (Builtin.bitAnd i j)) := opI0 fun _ _ _ _ _ _ _ q => and_int q
theorem unI {f : Value -> Sem Value} {g : Int -> Int}
  (rule : ∀ (i : Int) (t : Tok) (s : Shared) (Q : Value -> Shared -> Prop) (E : Value -> Shared -> Prop), Q (.int (g i) s.toks) { s with toks := s.toks + 1 } -> wpAny (model X.prog X.w) X.A (f (.int i t)) Q E s) :
  UnR X f (rU fun i => .int (g i)) := by
 intro pins s σ H x v Q I rx h
 obtain ⟨i, rfl, q⟩ := h
 obtain ⟨t, rfl⟩ := rx
 exact rule i t s _ _ ⟨.int (g i), H, I.tok _, ⟨_, rfl⟩, q⟩
theorem un_neg : UnR X (unaryOp .USub) (rU fun i => .int (-i)) := unI fun _ _ _ _ _ q => neg_int q
end
section
variable {X : Cx} {a b c : Expr} {ta tb tc : TE} {pos : Pos}
theorem fin_bl {pins : List (Addr × Obj)} {σ : St} {H : Hp} {s : Shared} {Q : VK} {k k' : Bool} (I : Inv X pins σ H s) (q : Q (.bl k) H) (e : k = k') : EP X pins σ Q (.bool k') s := by
 subst e
 exact ⟨.bl k, H, I, rfl, q⟩
theorem op_lt : OpR X (compareOp .Lt) (rI0 fun i j => .bl (decide (i < j))) := opB0 fun _ _ _ _ _ _ _ q => lt_int q
theorem op_le : OpR X (compareOp .LtE) (rI0 fun i j => .bl (decide (i <= j))) := opB0 fun _ _ _ _ _ _ _ q => le_int q
theorem op_lt_str : OpR X (compareOp .Lt) (fun x y H Q => ∃ i j, x = .str i /\ y = .str j /\ Q (.bl (decide (i.cps.toList < j.cps.toList))) H) := by
 intro pins s σ H x y v u Q I rx ry h
 obtain ⟨i, j, rfl, rfl, q⟩ := h
 obtain ⟨t, rfl⟩ := rx
 obtain ⟨t', rfl⟩ := ry
 exact lt_str (fin_bl I q rfl)
theorem op_in_str : OpR X (compareOp .In) (fun x y H Q => ∃ i j, x = .str i /\ y = .str j /\ Q (.bl (!(Builtin.Str.occurrences j i 0 j.length 1).isEmpty)) H) := by
 intro pins s σ H x y v u Q I rx ry h
 obtain ⟨i, j, rfl, rfl, q⟩ := h
 obtain ⟨t, rfl⟩ := rx
 obtain ⟨t', rfl⟩ := ry
 exact in_str (fin_bl I q rfl)
theorem OpR.or {f : Value -> Value -> Sem Value} {r r' : R2} (h : OpR X f r) (h' : OpR X f r') : OpR X f (fun x y H Q => r x y H Q \/ r' x y H Q) := by
 intro pins s σ H x y v u Q I rx ry q
 rcases q with q | q
 ·exact h pins s σ H x y v u Q I rx ry q
 ·exact h' pins s σ H x y v u Q I rx ry q
theorem nomark (b : Expr) {op : CmpOp} (h : op ≠ .In := by decide) (h2 : op ≠ .NotIn := by decide) : behindInMarks op b = false := by
 have e1 : (op == CmpOp.In) = false := by cases op <;> first | rfl | exact absurd rfl h
 have e2 : (op == CmpOp.NotIn) = false := by cases op <;> first | rfl | exact absurd rfl h2
 cases b <;> simp [behindInMarks, e1, e2]
theorem pe_cmpR {op : CmpOp} {r : R2} (ho : OpR X (compareOp op) r) (ha : PE X a ta) (hb : PE X b tb) (hm : behindInMarks op b = false) : PE X (.Compare a [op] [b] pos) (tOp r ta tb) := by
 intro pins s σ H Q I h
 exact wpAny_Compare1 (binT ha hb I h fun v u s2 x y H2 I2 rx ry q => ho pins s2 σ H2 x y v u Q I2 rx ry q) hm
def tTest (t : TE) : TT := fun σ H Q => t σ H fun x H' => ∃ k, x = .bl k /\ Q k H'
theorem pt_cmpR {op : CmpOp} {r : R2} (ho : OpR X (compareOp op) r) (ha : PE X a ta) (hb : PE X b tb) (hm : behindInMarks op b = false) : PT X (.Compare a [op] [b] pos) (tTest (tOp r ta tb)) := by
 intro pins s σ H Q I h
 refine wpAny_isTrue_Compare1 (thn (ha pins s σ H _ I h) fun v s1 ⟨x, H1, I1, r1, q1⟩ => thn (hb pins s1 σ H1 _ I1 q1) fun u s2 ⟨y, H2, I2, r2, q2⟩ =>
  thn (ho pins s2 σ H2 x y v u _ I2 r1 r2 q2) fun c s3 ⟨z, H3, I3, r3, k, e, q3⟩ => ?_) hm
 subst e
 cases r3
 exact wpAny_truthy_bool ⟨H3, I3, q3⟩
theorem line63 : (sizeLine : Nat) < 2 ^ 63 := by rw [sizeLine_eq]; decide
theorem op_add_str : OpR X (binaryOp .Add) (fun x y H Q => ∃ i j, x = .str i /\ y = .str j /\ i.length + j.length <= sizeLine /\ Q (.str (i ++ j)) H) := by
 intro pins s σ H x y v u Q I rx ry h
 obtain ⟨i, j, rfl, rfl, hz, q⟩ := h
 obtain ⟨t, rfl⟩ := rx
 obtain ⟨t', rfl⟩ := ry
 exact add_str (fun t' tk => ⟨.str (i ++ j), H, I.tok _, ⟨_, rfl⟩, q⟩) hz
theorem vals1 {x : V} {us : List Value} (r : Vals [x] us) : ∃ u, us = [u] /\ RelV x u := by
 cases r with
 | cons r1 r2 => cases r2; exact ⟨_, rfl, r1⟩
theorem vals2 {x y : V} {us : List Value} (r : Vals [x, y] us) : ∃ u w', us = [u, w'] /\ RelV x u /\ RelV y w' := by
 cases r with
 | cons r1 r2 =>
  cases r2 with
  | cons r3 r4 => cases r4; exact ⟨_, _, rfl, r1, r3⟩
theorem call_max2 (hc : X.calm = true) : CallR X (.builtin "max") (fun xs H Q => ∃ i j, xs = [.int i, .int j] /\ Q (.int (if j > i then j else i)) H) := by
 intro pins s σ H xs us Q I r h
 obtain ⟨i, j, rfl, q⟩ := h
 obtain ⟨u, w', rfl, ⟨t, rfl⟩, ⟨t', rfl⟩⟩ := vals2 r
 refine max_two_ints (I.ok.hd hc) fun h' tk k => ⟨_, H, I.kept k, ?_, q⟩
 by_cases hj : j > i
 ·rw [if_pos hj, if_pos hj]; exact ⟨_, rfl⟩
 ·rw [if_neg hj, if_neg hj]; exact ⟨_, rfl⟩
theorem call_min2 (hc : X.calm = true) : CallR X (.builtin "min") (fun xs H Q => ∃ i j, xs = [.int i, .int j] /\ Q (.int (if j < i then j else i)) H) := by
 intro pins s σ H xs us Q I r h
 obtain ⟨i, j, rfl, q⟩ := h
 obtain ⟨u, w', rfl, ⟨t, rfl⟩, ⟨t', rfl⟩⟩ := vals2 r
 refine min_two_ints (I.ok.hd hc) fun h' tk k => ⟨_, H, I.kept k, ?_, q⟩
 by_cases hj : j < i
 ·rw [if_pos hj, if_pos hj]; exact ⟨_, rfl⟩
 ·rw [if_neg hj, if_neg hj]; exact ⟨_, rfl⟩
end
end L2
namespace L2
open PySem PySem.Spec PyProof.Rows
theorem RelO.some_of {v : V} {o : Option Value} (r : RelO (some v) o) : ∃ u, o = some u /\ RelV v u := by
 cases o with
 | none => exact (show False from r).elim
 | some u => exact ⟨u, rfl, r⟩
end L2
namespace L2
open PySem PySem.Spec PyProof.Rows
structure Room (k : Nat) (A : Around) : Prop where
 hd : A.handled = none
 dp : A.depth + 3 * k + 5 < recursionLimit
 un : A.units + 16 * k + 200 < cLine
 gd : A.guards = some []
theorem Room.mono {j k : Nat} {A : Around} (r : Room k A) (h : j <= k) : Room j A := ⟨r.hd, by have := r.dp; omega, by have := r.un; omega, r.gd⟩
theorem Room.deeper {k : Nat} {A : Around} (r : Room (k + 1) A) (env : Env) : Room k (A.deeper env) :=
 ⟨r.hd, by have := r.dp; show A.depth + 1 + 3 * k + 5 < _; omega, by have := r.un; show A.units + 3 + 16 * k + 200 < _; omega, r.gd⟩
theorem Room.depth {k : Nat} {A : Around} (r : Room k A) : A.depth < recursionLimit := by have := r.dp; omega
theorem Room.units {k : Nat} {A : Around} (r : Room k A) : A.units + 64 < cLine := by have := r.un; omega
def tNil : TA := fun _ H Q => Q [] H
def tCons (ta : TE) (tr : TA) : TA := fun σ H Q => ta σ H fun x H1 => tr σ H1 fun xs H2 => Q (x :: xs) H2
section
variable {X : Cx} {e : Expr} {es : List Expr} {te : TE} {t : TA} {pos : Pos}
theorem pa_nil : PA X [] tNil := fun _ _ _ _ H Q I h => Calls.spliced_nil ⟨[], H, I, .nil, h⟩
theorem pa_cons (ha : PE X e te) (hr : PA X es t) (hs : starEach (e :: es) X.env = (false, eval e X.env) :: starEach es X.env := by rfl) : PA X (e :: es) (tCons te t) := by
 intro pos pins s σ H Q I h
 rw [hs]
 show wpAny _ _ (spliced ((false, eval e X.env) :: backTo pos (starEach es X.env))) _ _ s
 refine Calls.spliced_cons (thn (ha pins s σ H _ I h) fun u s1 ⟨x, H1, I1, r1, q1⟩ => ?_)
 exact thn (hr pos pins s1 σ H1 _ I1 q1) fun us s2 ⟨xs, H2, I2, r2, q2⟩ => ⟨x :: xs, H2, I2, .cons r1 r2, q2⟩
def tTup (t : TA) : TE := fun σ H Q => t σ H fun xs H1 => xs.length <= sizeLine /\ ∀ p, H1 p = none -> Q (.ref p) (upd H1 p (.tup xs))
def tLst (t : TA) : TE := fun σ H Q => t σ H fun xs H1 => xs.length <= sizeLine /\ ∀ p, H1 p = none -> Q (.ref p) (upd H1 p (.lst xs))
theorem pe_tup {x1} (h : PA X es t) : PE X (.Tuple es x1 pos) (tTup t) := by
 intro pins s σ H Q I hq
 refine wpAny_Tuple_spliced (thn (h pos pins s σ H _ I hq) fun us s1 ⟨xs, H1, I1, r, z, q⟩ => ⟨by rw [<- r.length]; exact z, ?_⟩)
 have hf : H1 s1.heap.objs.size = none := I1.hok.fresh (Nat.le_refl _)
 refine ⟨.ref s1.heap.objs.size, upd H1 s1.heap.objs.size (.tup xs), I1.laid (t' := s1.toks) (fun b u e => Heap.get?_push_of_some _ e) (Nat.le_refl _) ?_, rfl, q _ hf⟩
 exact ⟨z, us, r, ⟨_, Heap.get?_push_size _ rfl, rfl, _, rfl⟩⟩
theorem pe_lst (h : PA X es t) : PE X (.List es pos) (tLst t) := by
 intro pins s σ H Q I hq
 refine wpAny_List_spliced (thn (h pos pins s σ H _ I hq) fun us s1 ⟨xs, H1, I1, r, z, q⟩ => ⟨by rw [<- r.length]; exact z, ?_⟩)
 have hf : H1 s1.heap.objs.size = none := I1.hok.fresh (Nat.le_refl _)
 refine ⟨.ref s1.heap.objs.size, upd H1 s1.heap.objs.size (.lst xs), I1.laid (t' := s1.toks) (fun b u e => Heap.get?_push_of_some _ e) (Nat.le_refl _) ?_, rfl, q _ hf⟩
 exact ⟨z, us, 0, r, Heap.get?_push_size _ rfl⟩
end
abbrev Sp := List V -> Hp -> VK -> XK -> Prop
abbrev CXT := List Env -> Hp -> Shared -> XK -> Value -> Shared -> Prop
structure Env0 (P : Program) (w : World) (K : PySem.W.Frag) (mg : Str -> Option Value) (base : Heap) (A : Around) (outer : List Env) (s : Shared) (H : Hp) : Prop where
 frames : A.frames = some outer
 mod : Mod K mg base
 bs : ∀ b o, base.get? b = some o -> s.heap.get? b = some o /\ H b = none
 bsz : base.objs.size <= s.heap.objs.size
 funs : s.heap.FunFrames base outer
 frf : ∀ b ∈ frs outer, H b = none
 hok : HOk P w H s.heap
 bare : AllBare s.gens
def CE (outer : List Env) (P : Program) (w : World) (H : Hp) (s : Shared) (Q : VK) (u : Value) (s' : Shared) : Prop :=
 ∃ v H', s'.os = s.os /\ AllBare s'.gens /\ Un (frs outer) [] H H' s.heap s'.heap /\ HOk P w H' s'.heap /\ RelV v u /\ Q v H'
def CR (CX : CXT) (outer : List Env) (P : Program) (w : World) (H : Hp) (s : Shared) (Q : VK) (E : XK) (r : Result) (s' : Shared) : Prop :=
 match r with
 | .ok (.ret u) => CE outer P w H s Q u s'
 | .ok _ => False
 | .error e => CX outer H s E e s'
structure FnOk (P : Program) (w : World) (K : PySem.W.Frag) (mg : Str -> Option Value) (base : Heap) (CX : CXT) (k : Nat) (f : Addr) (fd : FuncData) (ps : List Str) (sp : Sp) : Prop where
 len : ∀ vs H Q E, sp vs H Q E -> vs.length = ps.length
 run : ∀ (A : Around) (outer : List Env) (s : Shared) (H : Hp) (args : Args) (us : List Value) (vs : List V) (Q : VK) (E : XK), Room k A -> Env0 P w K mg base A outer s H -> BindsTo s fd args (ps.zip us) -> Vals vs us -> sp vs H Q E ->
  codeAny (model P w) A (.call (.ref f) args) (CR CX outer P w H s Q E) s
theorem FnOk.imp {P : Program} {w : World} {K : PySem.W.Frag} {mg : Str -> Option Value} {base : Heap} {CX : CXT} {k : Nat} {f : Addr} {fd : FuncData} {ps : List Str} {sp sp' : Sp} (F : FnOk P w K mg base CX k f fd ps sp)
  (h : ∀ vs H Q E, sp' vs H Q E -> sp vs H Q E) : FnOk P w K mg base CX k f fd ps sp' :=
 ⟨fun vs H Q E q => F.len vs H Q E (h _ _ _ _ q), fun A outer s H args us vs Q E hr he hb hv hs => F.run A outer s H args us vs Q E hr he hb hv (h _ _ _ _ hs)⟩
section
variable {X : Cx} {pins : List (Addr × Obj)} {σ : St} {H : Hp} {s s' : Shared}
theorem Inv.env0 (I : Inv X pins σ H s) : Env0 X.prog X.w X.K X.mg X.base X.A X.stack s H :=
 ⟨I.ok.frames, I.ok.mod, I.bs, Nat.le_trans I.ok.bsz I.sz, I.stack, I.stkFree, I.hok, I.bare⟩
theorem Inv.after {Q : VK} {u : Value} (I : Inv X pins σ H s) (h : CE X.stack X.prog X.w H s Q u s') : EP X pins σ Q u s' := by
 obtain ⟨v, H', os, bare, un, hok, r, q⟩ := h
 obtain ⟨hh, g, d, t, os'⟩ := s'
 obtain rfl : os' = s.os := os
 exact ⟨v, H', I.call (h' := hh) (g' := g) (d' := d) (t' := t) (ch := []) un hok bare (fun b z => absurd z (by simp)), r, q⟩
end
def tCall (sp : Sp) (dvs : List V) (E : XK) (t : TA) : TE := fun σ H Q => t σ H fun vs H1 => sp (vs ++ dvs) H1 Q E
def Binds (K : PySem.W.Frag) (fd : FuncData) (ps : List Str) (ds : List Value) : Prop :=
 ∀ (s : Shared) (us : List Value), K.In s.heap -> (us ++ ds).length = ps.length -> BindsTo s fd ⟨us, []⟩ (ps.zip (us ++ ds))
theorem Binds.all {K : PySem.W.Frag} {fd : FuncData} {ps : List Str} (h : ∀ us : List Value, us.length = ps.length -> bindArgs fd ⟨us, []⟩ = pure (ps.zip us)) : Binds K fd ps [] := fun s us _ hl => by
 rw [List.append_nil] at hl ⊢
 exact .of_eq (h us hl)
def Passes (CX : CXT) (X : Cx) (E : XK) : Prop := ∀ (pins : List (Addr × Obj)) (σ : St) (H : Hp) (s : Shared) (e : Value) (s' : Shared), Inv X pins σ H s -> CX X.stack H s E e s' -> X.xe e s'
section
variable {X : Cx} {CX : CXT} {k : Nat} {f C : Addr} {fd : FuncData} {ps : List Str} {sp : Sp} {dvs : List V} {ds : List Value} {E : XK} {x m : Str} {p pos apos : Pos} {e o : Expr} {es : List Expr} {ta : TE} {t : TA}
theorem run_fn {pins : List (Addr × Obj)} {σ : St} {H : Hp} {s : Shared} {Q : VK} {us : List Value} {vs : List V} (F : FnOk X.prog X.w X.K X.mg X.base CX k f fd ps sp) (hr : Room k X.A) (hb : Binds X.K fd ps ds) (hd : Vals dvs ds) (hx : Passes CX X E)
  (I : Inv X pins σ H s) (r : Vals vs us) (h : sp (vs ++ dvs) H Q E) : wpAny (model X.prog X.w) X.A (call (.ref f) us) (EP X pins σ Q) X.xe s := by
 have r2 : Vals (vs ++ dvs) (us ++ ds) := r.append hd
 have hl : (us ++ ds).length = ps.length := by rw [<- r2.length]; exact F.len _ _ _ _ h
 refine wpAny_call (codeAny_mono (F.run X.A X.stack s H ⟨us, []⟩ (us ++ ds) (vs ++ dvs) Q E hr I.env0 (hb s us I.kIn hl) r2 h) fun r s' hq => ?_)
 cases r with
 | error e => exact hx pins σ H s e s' I hq
 | ok fl =>
  cases fl with
  | ret u => exact I.after hq
  | next => exact False.elim hq
  | brk => exact False.elim hq
  | cont => exact False.elim hq
theorem pe_call (F : FnOk X.prog X.w X.K X.mg X.base CX k f fd ps sp) (hr : Room k X.A) (hg : Gl X x) (hm : X.mg x = some (.ref f)) (hk : PySem.W.keepIn X.K (.ref f) = true) (hb : Binds X.K fd ps ds) (hd : Vals dvs ds) (hx : Passes CX X E)
  (ha : PA X (e :: es) t) (hdb : (x == ("__debug__" : Str)) = false := by decide) (he : starEach (e :: es) X.env = (false, eval e X.env) :: starEach es X.env := by rfl) (hpl : (backTo pos (starEach es X.env)).any (·.1) = false := by rfl) :
  PE X (.Call (.Name x p) (e :: es) [] pos) (tCall sp dvs E t) := by
 intro pins s σ H Q I h
 refine wpAny_Call_Name_kw (ld_glob I hg hm ?_ hdb)
 refine PySem.W.callWith_K (h₀ := X.base) I.ok.mod.kin hk (thn (ha pos pins s σ H _ I h) fun us s1 ⟨vs, H1, I1, r, q⟩ => ⟨I1.kIn, ?_⟩) he hpl
 exact run_fn F hr hb hd hx I1 r q
theorem pe_call0 (F : FnOk X.prog X.w X.K X.mg X.base CX k f fd ps sp) (hr : Room k X.A) (hg : Gl X x) (hm : X.mg x = some (.ref f)) (hk : PySem.W.keepIn X.K (.ref f) = true) (hb : Binds X.K fd ps ds) (hd : Vals dvs ds) (hx : Passes CX X E)
  (hdb : (x == ("__debug__" : Str)) = false := by decide) : PE X (.Call (.Name x p) [] [] pos) (tCall sp dvs E tNil) := by
 intro pins s σ H Q I h
 refine wpAny_Call_Name_kw (ld_glob I hg hm ?_ hdb)
 exact PySem.W.callWith_K0 I.kIn hk (run_fn (us := []) F hr hb hd hx I .nil h)
end
structure FnScope (N P : List Str) (sc : Scope) : Prop where
 kind : sc.kind = .function
 co : sc.isCoroutine = false
 gen : sc.isGenerator = false
 nd : N.Nodup
 pre : N.take P.length = P
 par : ∀ x ∈ P, sc.names.lookup x = some .local \/ sc.names.lookup x = some .cell
 nofree : ∀ y ∈ sc.names, y.2 ≠ .free
theorem fsc {N P : List Str} {sc : Scope} (h : sc.kind = .function /\ sc.isCoroutine = false /\ sc.isGenerator = false /\ N.Nodup /\ N.take P.length = P /\ (∀ x ∈ P, sc.names.lookup x = some .local \/ sc.names.lookup x = some .cell) /\ ∀ y ∈ sc.names, y.2 ≠ .free) : FnScope N P sc := ⟨h.1, h.2.1, h.2.2.1, h.2.2.2.1, h.2.2.2.2.1, h.2.2.2.2.2.1, h.2.2.2.2.2.2⟩
theorem bindL_out {kindOf : Str -> Option NameKind} {x : Str} : ∀ {binds : List (Str × Value)} {m : Str -> Option Value}, (∀ v, (x, v) ∉ binds) -> bindL kindOf binds m x = m x
 | [], _, _ => rfl
 | (n, v) :: r, m, h => by
  unfold bindL
  rw [bindL_out fun w hw => h w (List.mem_cons_of_mem _ hw)]
  split
  ·have : x ≠ n := by rintro rfl; exact h v List.mem_cons_self
   simp [this]
  ·rfl
theorem bindC_out {kindOf : Str -> Option NameKind} {x : Str} : ∀ {binds : List (Str × Value)} {m : Str -> Option Value}, (∀ v, (x, v) ∉ binds) -> bindC kindOf binds m x = m x
 | [], _, _ => rfl
 | (n, v) :: r, m, h => by
  unfold bindC
  rw [bindC_out fun w hw => h w (List.mem_cons_of_mem _ hw)]
  split
  ·rfl
  ·have : x ≠ n := by rintro rfl; exact h v List.mem_cons_self
   simp [this]
theorem bindL_get {kindOf : Str -> Option NameKind} {x : Str} {v : Value} : ∀ {P : List Str} {vs : List Value} {i : Nat} {m : Str -> Option Value}, P.Nodup -> P[i]? = some x -> vs[i]? = some v -> kindOf x = some .local ->
  bindL kindOf (P.zip vs) m x = some v
 | [], _, _, _, _, h, _, _ => by simp at h
 | _ :: _, [], _, _, _, _, h, _ => by simp at h
 | p :: P, w :: vs, 0, m, nd, h1, h2, hk => by
  simp at h1 h2; subst h1; subst h2
  show bindL kindOf ((p, w) :: P.zip vs) m p = _
  unfold bindL
  rw [bindL_out fun v hv => (List.nodup_cons.mp nd).1 (List.of_mem_zip hv).1, if_pos hk]
  simp
 | p :: P, w :: vs, i + 1, m, nd, h1, h2, hk => by
  show bindL kindOf ((p, w) :: P.zip vs) m x = _
  unfold bindL
  exact bindL_get (i := i) (List.nodup_cons.mp nd).2 (by simpa using h1) (by simpa using h2) hk
theorem bindC_get {kindOf : Str -> Option NameKind} {x : Str} {v : Value} : ∀ {P : List Str} {vs : List Value} {i : Nat} {m : Str -> Option Value}, P.Nodup -> P[i]? = some x -> vs[i]? = some v -> kindOf x ≠ some .local ->
  bindC kindOf (P.zip vs) m x = some v
 | [], _, _, _, _, h, _, _ => by simp at h
 | _ :: _, [], _, _, _, _, h, _ => by simp at h
 | p :: P, w :: vs, 0, m, nd, h1, h2, hk => by
  simp at h1 h2; subst h1; subst h2
  show bindC kindOf ((p, w) :: P.zip vs) m p = _
  unfold bindC
  rw [bindC_out fun v hv => (List.nodup_cons.mp nd).1 (List.of_mem_zip hv).1, if_neg hk]
  simp
 | p :: P, w :: vs, i + 1, m, nd, h1, h2, hk => by
  show bindC kindOf ((p, w) :: P.zip vs) m x = _
  unfold bindC
  exact bindC_get (i := i) (List.nodup_cons.mp nd).2 (by simpa using h1) (by simpa using h2) hk
def start (N : List Str) (vs : List V) : St := vs.map some ++ List.replicate (N.length - vs.length) none
def cxOf (CX : CXT) (P : Program) (w : World) (K : PySem.W.Frag) (mg : Str -> Option Value) (base : Heap) (N : List Str) (qual : Str) (scope : Scope) (f : Addr) (cd : Value) (A : Around) (outer : List Env) (s : Shared) (H : Hp) (E : XK) : Cx where
 prog := P
 w := w
 K := K
 mg := mg
 base := base
 A := A.deeper (envOfC qual scope s.heap.objs.size f cd)
 N := N
 s₀ := s
 H₀ := H
 env := envOfC qual scope s.heap.objs.size f cd
 outer := outer
 stack := envOfC qual scope s.heap.objs.size f cd :: outer
 ex := []
 calm := true
 fn := fun _ => true
 pn := []
 xe := fun e s' => wpAny (model P w) (A.deeper (envOfC qual scope s.heap.objs.size f cd)) (leaving (envOfC qual scope s.heap.objs.size f cd) e) (fun _ s'' => CX outer H s E e s'') (fun e' s'' => CX outer H s E e' s'') s'
theorem cell_has {sc : Scope} {n : Nat} {x : Str} (h : sc.names.lookup x = some .cell) : ∃ c, (cellsFrom n sc.names []).lookup x = some c := by
 have q := PySem.W.cellsFrom_some sc.names n [] (.inl h)
 exact Option.isSome_iff_exists.mp q
theorem inv_start {CX : CXT} {P : Program} {w : World} {K : PySem.W.Frag} {mg : Str -> Option Value} {base : Heap} {N ps : List Str} {qual : Str} {scope : Scope} {f : Addr} {cd : Value} {A : Around} {outer : List Env} {s s1 : Shared} {H : Hp} {E : XK} {us : List Value} {vs : List V}
  (S : FnScope N ps scope) (hd : A.handled = none) (e0 : Env0 P w K mg base A outer s H) (hl : vs.length = ps.length) (r : Vals vs us)
  (x : InCallC s s.heap.objs.size (bindL (envOfC qual scope s.heap.objs.size f cd).kindOf (ps.zip us) fun _ => none) (cellsFrom (s.heap.objs.size + 1) scope.names []) (bindC (envOfC qual scope s.heap.objs.size f cd).kindOf (ps.zip us) fun _ => none) s1) :
  Inv (cxOf CX P w K mg base N qual scope f cd A outer s H E) [] (start N vs) H s1 := by
 have hpl : ps.length <= N.length := by have := congrArg List.length S.pre; rw [List.length_take] at this; omega
 obtain ⟨h1, tk, rfl, hk⟩ := x.done
 have noA : ∀ b : Addr, b ∉ (cxOf CX P w K mg base N qual scope f cd A outer s H E).ex := fun b z => absurd (show b ∈ ([] : List Addr) from z) (by simp)
 refine ⟨⟨e0.mod, S.kind, rfl, rfl, Nat.le_refl _, fun y z c h1 h2 => ?_, fun y hy => ?_, fun y c _ h => ?_, fun _ => hd, Around.frames_deeper e0.frames, .inr ⟨rfl, rfl⟩, fun b z => absurd z (noA b), e0.bs, e0.bsz, fun b _ _ => noA b, fun b z => absurd z (noA b), e0.funs, e0.frf⟩,
  rfl, e0.bare, Un.kept hk, ⟨_, x.toInCall.ns, fun i y v h1 h2 h3 => ?_⟩, fun y c h => ⟨_, x.cell y c h⟩, e0.hok.fresh (Nat.le_refl _), fun y c h => ?_, fun p hp => absurd (show p ∈ ([] : List (Addr × Obj)) from hp) (by simp), e0.hok.kept hk, ?_⟩
 ·exact name_of_addr x.apart (PySem.mem_of_lookup h1) (PySem.mem_of_lookup h2)
 ·have hy : scope.names.lookup y = some .cell \/ scope.names.lookup y = some .free := hy
  rcases hy with hy | hy
  ·exact cell_has hy
  ·exact absurd rfl (S.nofree _ (PySem.mem_of_lookup hy))
 ·exact Nat.le_of_lt (x.above y c (PySem.mem_of_lookup h))
 ·have hi : i < vs.length := by
   unfold start at h2
   by_cases hi : i < vs.length
   ·exact hi
   ·rw [List.getElem?_append_right (by simpa using hi)] at h2
    rw [List.getElem?_replicate] at h2
    split at h2 <;> cases h2
  have ha : vs[i]? = some v := by
   unfold start at h2
   rw [List.getElem?_append_left (by simpa using hi), List.getElem?_map] at h2
   cases e : vs[i]? with
   | none => rw [e] at h2; cases h2
   | some a => rw [e] at h2; cases h2; rfl
  obtain ⟨u, hu, rv⟩ := r.get ha
  have hp : ps[i]? = some y := by
   rw [<- S.pre, List.getElem?_take_of_lt (by omega)]; exact h1
  have ndP : ps.Nodup := by rw [<- S.pre]; exact S.nd.sublist (List.take_sublist _ _)
  refine ⟨u, rv, ?_⟩
  rcases S.par y (List.mem_of_getElem? hp) with k | k
  ·exact .inl ⟨k, bindL_get ndP hp hu k⟩
  ·obtain ⟨c, e⟩ := cell_has (n := s.heap.objs.size + 1) k
   refine .inr ⟨.inl k, c, e, ?_⟩
   have q := x.cell y c e
   rw [bindC_get ndP hp hu (by show scope.names.lookup y ≠ _; rw [k]; decide)] at q
   exact q
 ·exact e0.hok.fresh (Nat.le_of_lt (x.above y c (PySem.mem_of_lookup h)))
 ·unfold start
  show _ = N.length
  rw [List.length_append, List.length_map, List.length_replicate]
  omega
theorem fn_of {CX : CXT} {P : Program} {w : World} {K : PySem.W.Frag} {mg : Str -> Option Value} {base : Heap} {k : Nat} {f : Addr} {name qual : Str} {params : Arguments} {body : List Stmt} {scope : Scope} {dV kV doc pm cdv ct oc : Value} {an od : Option Addr}
  {osl : Array (Option Value)} {N ps : List Str} {sp : Sp} (lk : K.lookup f = some ⟨oc, od, .func (PySem.W.fnOf name qual params body scope dV kV doc pm an cdv ct), osl⟩) (hcd : PySem.W.codeIn K cdv qual = true) (S : FnScope N ps scope)
  (len : ∀ vs H Q E, sp vs H Q E -> vs.length = ps.length)
  (hbody : ∀ (A : Around) (outer : List Env) (s : Shared) (H : Hp) (vs : List V) (Q : VK) (E : XK), Room k (A.deeper (envOfC qual scope s.heap.objs.size f cdv)) -> sp vs H Q E ->
   ∃ t, PSs (cxOf CX P w K mg base N qual scope f cdv A outer s H E) body t /\ t { nx := fun _ H' => Q .non H', rt := Q } (start N vs) H) :
  FnOk P w K mg base CX (k + 1) f (PySem.W.fnOf name qual params body scope dV kV doc pm an cdv ct) ps sp := by
 refine ⟨len, fun A outer s H args us vs Q E hr e0 hb r hsp => ?_⟩
 have hl := len _ _ _ _ hsp
 have KX : K.In s.heap := e0.mod.kin.keeps fun b o e => (e0.bs b o e).1
 have lim : s.heap.NoLimit := e0.mod.nolimit.keeps fun b o e => (e0.bs b o e).1
 have hkind : ∀ y ∈ ps.zip us, scope.names.lookup y.1 = some .local \/ (scope.names.lookup y.1 = some .cell /\ ((cellsFrom (s.heap.objs.size + 1) scope.names []).lookup y.1).isSome = true) := fun ⟨n, v⟩ hy => by
  rcases S.par n (List.of_mem_zip hy).1 with q | q
  ·exact .inl q
  ·exact .inr ⟨q, PySem.W.cellsFrom_some _ _ _ (.inl q)⟩
 refine codeAny_call_function hr.depth (KX _ _ lk) rfl S.co S.gen rfl (PySem.W.codeRec_of KX hcd) (hb _ _ _ _ ?_)
 refine wpAny_newFunctionEnv_cells S.kind hkind fun env he s1 x => ?_
 subst he
 refine ⟨lim.keeps x.toInCall.keep, codeAny_func ?_⟩
 obtain ⟨t, ht, hq⟩ := hbody A outer s H vs Q E (hr.deeper _) hsp
 have I : Inv (cxOf CX P w K mg base N qual scope f cdv A outer s H E) [] (start N vs) H s1 := inv_start S hr.hd e0 hl r x
 refine wpAny_mono (ht [] s1 (start N vs) H _ I hq) (fun fl s' hs => ?_) fun e s' hs => hs
 have fin : ∀ {σ' : St} {H' : Hp} {v : V} {u : Value}, Inv (cxOf CX P w K mg base N qual scope f cdv A outer s H E) [] σ' H' s' -> RelV v u -> Q v H' -> CE outer P w H s Q u s' :=
  fun {σ' H' v u} J rv q => ⟨v, H', J.os, J.bare, J.base, J.hok, rv, q⟩
 cases fl with
 | ret u =>
  obtain ⟨v, σ', H', J, rv, q⟩ := hs
  exact fin J rv q
 | next =>
  obtain ⟨σ', H', J, q⟩ := hs
  exact fin (v := V.non) (u := Value.none) J rfl q
 | brk =>
  obtain ⟨_, _, _, q⟩ := hs
  exact False.elim q
 | cont =>
  obtain ⟨_, _, _, q⟩ := hs
  exact False.elim q
end L2
namespace L2
open PySem PySem.Spec PyProof.Rows
section
variable {X : Cx} {x : Str} {p pos : Pos} {e : Expr} {es : List Expr} {t : TA} {id T : String} {r : List V -> Hp -> VK -> Prop}
def tCB (r : List V -> Hp -> VK -> Prop) (t : TA) : TE := fun σ H Q => t σ H fun vs H1 => r vs H1 Q
theorem pe_callB (hc : CallR X (.builtin id) r) (hg : Gl X x) (hm : X.mg x = none) (hv : bootBuiltins x = some (.builtin id)) (ha : PA X (e :: es) t) (hn : x ≠ "__name__" := by decide) (hdb : (x == ("__debug__" : Str)) = false := by decide)
  (he : starEach (e :: es) X.env = (false, eval e X.env) :: starEach es X.env := by rfl) (hpl : (backTo pos (starEach es X.env)).any (·.1) = false := by rfl) : PE X (.Call (.Name x p) (e :: es) [] pos) (tCB r t) := by
 intro pins s σ H Q I h
 refine wpAny_Call_Name_kw (ld_blt I hg hm hv ?_ hn hdb)
 exact PyProof.Rows.callWith_builtin1 (thn (ha pos pins s σ H _ I h) fun us s1 ⟨vs, H1, I1, r1, q1⟩ => hc pins s1 σ H1 vs us Q I1 r1 q1) he hpl
theorem pe_callTy (hc : CallR X (.type T) r) (hg : Gl X x) (hm : X.mg x = none) (hv : bootBuiltins x = some (.type T)) (ha : PA X (e :: es) t) (hn : x ≠ "__name__" := by decide) (hdb : (x == ("__debug__" : Str)) = false := by decide)
  (he : starEach (e :: es) X.env = (false, eval e X.env) :: starEach es X.env := by rfl) (hpl : (backTo pos (starEach es X.env)).any (·.1) = false := by rfl) : PE X (.Call (.Name x p) (e :: es) [] pos) (tCB r t) := by
 intro pins s σ H Q I h
 refine wpAny_Call_Name_kw (ld_blt I hg hm hv ?_ hn hdb)
 exact PyProof.Rows.callWith_type1 (thn (ha pos pins s σ H _ I h) fun us s1 ⟨vs, H1, I1, r1, q1⟩ => hc pins s1 σ H1 vs us Q I1 r1 q1) he hpl
end
end L2
namespace HT
open PySem PyProof.Rows
section
variable {prog : Program} {w : World} {A : Around} {E : Value -> Shared -> Prop} {s : Shared}
theorem cat_tup {t b : Addr} {vs ws : List Value} {Q : Value -> Shared -> Prop} (ht : IsTup s.heap t vs.toArray) (hb : IsTup s.heap b ws.toArray) (hv : vs ≠ [])
  (h1 : ws = [] -> Q (.ref t) s) (h2 : ws ≠ [] -> Q (.ref s.heap.objs.size) { s with heap := s.heap.push { cls := .type "tuple", data := .seq (vs ++ ws).toArray } })
  (hsz : vs.length + ws.length <= sizeLine) : wpAny (model prog w) A (binaryOp .Add (.ref t) (.ref b)) Q E s := by
 obtain ⟨⟨cls, dd, data, sl⟩, ho, hc, n, hd⟩ := id ht
 obtain ⟨⟨cls2, dd2, data2, sl2⟩, ho2, hc2, n2, hd2⟩ := id hb
 simp only at hc hd hc2 hd2
 subst hc hd hc2 hd2
 have e : vs.toArray ++ ws.toArray = (vs ++ ws).toArray := by simp
 by_cases hw : ws = []
 ·exact concat_meets ⟨_, ho, rfl⟩ ⟨_, ho2, rfl⟩ noFill_tuple_add seq_tuple_add PySem.F.slot_tuple_add PySem.F.entry_tuple_add (PySem.F.args_tuple_add_2 _ _)
   (tuple_addW1 t b vs.toArray ws.toArray n n2 dd dd2 sl sl2 (by simpa using hv) (by simp [hw])) ⟨ho, ho2, h1 hw⟩
 ·refine concat_meets ⟨_, ho, rfl⟩ ⟨_, ho2, rfl⟩ noFill_tuple_add seq_tuple_add PySem.F.slot_tuple_add PySem.F.entry_tuple_add (PySem.F.args_tuple_add_2 _ _)
   (tuple_addW2 t b vs.toArray ws.toArray n n2 dd dd2 sl sl2 (by simpa using hv) (by simpa using hw) (by rw [List.size_toArray, List.size_toArray]; exact hsz)) ⟨ho, ho2, ?_⟩
  rw [e]
  exact h2 hw
def sIx (n d : Nat) : Option Int -> Nat
 | none => d
 | some v => if v < 0 then (v + (n : Int)).toNat else min v.toNat n
theorem sIx_none (n d : Nat) : sIx n d none = d := rfl
theorem sIx_nat (n d k : Nat) : sIx n d (some (k : Int)) = min k n := by
 show (if (k : Int) < 0 then ((k : Int) + (n : Int)).toNat else min (k : Int).toNat n) = min k n
 rw [if_neg (by omega), Int.toNat_natCast]
theorem sIx_le (n d : Nat) (hd : d <= n) (o : Option Int) : sIx n d o <= n := by
 cases o with
 | none => exact hd
 | some v =>
  show (if v < 0 then (v + (n : Int)).toNat else min v.toNat n) <= n
  by_cases hv : v < 0
  ·rw [if_pos hv]; omega
  ·rw [if_neg hv]; exact Nat.min_le_right _ _
theorem clip_eq (v : Int) (n d : Nat) : (if v < 0 then max (v + (n : Int)) 0 else min v (n : Int)) = ((sIx n d (some v) : Nat) : Int) := by
 show (if v < 0 then max (v + (n : Int)) 0 else min v (n : Int)) = (((if v < 0 then (v + (n : Int)).toNat else min v.toNat n) : Nat) : Int)
 by_cases hv : v < 0
 ·simp only [if_pos hv]; omega
 ·simp only [if_neg hv]; omega
theorem adjust_gen (lo hi : Option Int) (n : Nat) : Builtin.Slice.sliceAdjust lo hi 1 (n : Int) = (((sIx n 0 lo : Nat) : Int), ((sIx n n hi : Nat) : Int)) := by
 have h1 : ¬ ((1 : Int) < 0) := by omega
 unfold Builtin.Slice.sliceAdjust
 simp only [h1, if_false]
 refine Prod.ext ?_ ?_
 ·cases lo with
  | none => rfl
  | some v => exact clip_eq v n 0
 ·cases hi with
  | none => rfl
  | some v => exact clip_eq v n n
theorem places_gen (i j : Nat) : Builtin.Slice.slicePlaces (i : Int) (j : Int) 1 = j - i := by
 unfold Builtin.Slice.slicePlaces
 have h1 : (1 : Int) > 0 := by omega
 simp only [h1, if_true, Int.ediv_one]
 split <;> omega
theorem slicePart_ {v : Value} {o : Option Int} {Q : Option Int -> Shared -> Prop} (p : IsPart v o) (h : Q o s) : wpAny (model prog w) A (Builtin.Slice.slicePartIndex v) Q E s := by
 cases p with
 | none => exact slicePart_none h
 | int i t => exact slicePart_int h
theorem sliceApplied_gen {sl : Addr} {vl vu : Value} {lo hi : Option Int} {n : Nat} {Q : Int × Int × Nat -> Shared -> Prop} (hs : s.heap.IsSliceOf sl vl vu .none) (pl : IsPart vl lo) (pu : IsPart vu hi)
  (h : Q (((sIx n 0 lo : Nat) : Int), 1, sIx n n hi - sIx n 0 lo) s) : wpAny (model prog w) A (Builtin.Slice.sliceApplied (.ref sl) (pure (n : Int))) Q E s := by
 obtain ⟨os, hos, hcs, hds⟩ := id hs
 unfold Builtin.Slice.sliceApplied Builtin.Slice.sliceFields
 refine wpAny_bind (wpAny_bind (wpAny_field hos hds (x := vl) rfl (wpAny_bind (wpAny_field hos hds (x := vu) rfl (wpAny_bind (wpAny_field hos hds (x := .none) rfl (wpAny_pure ?_)))))))
 refine wpAny_bind (slicePart_none ?_)
 show wpAny _ _ (if ((1 : Int) == 0) = true then _ else _) _ _ s
 rw [if_neg (by decide)]
 refine wpAny_bind (slicePart_ pl (wpAny_bind (slicePart_ pu (wpAny_bind (wpAny_pure ?_)))))
 show wpAny _ _ (match Builtin.Slice.sliceAdjust lo hi 1 (n : Int) with | (lo, hi) => pure (lo, (1 : Int), Builtin.Slice.slicePlaces lo hi 1)) _ _ s
 rw [adjust_gen lo hi n]
 show wpAny _ _ (pure (((sIx n 0 lo : Nat) : Int), (1 : Int), Builtin.Slice.slicePlaces ((sIx n 0 lo : Nat) : Int) ((sIx n n hi : Nat) : Int) 1)) _ _ s
 rw [places_gen]
 exact wpAny_pure h
theorem pick_gen (xs : Array Value) (i k : Nat) : ((List.range k).filterMap fun (m : Nat) => xs[((i : Int) + (m : Int) * 1).toNat]?).toArray = ((xs.toList.drop i).take k).toArray := by
 have e : (fun (m : Nat) => xs[((i : Int) + (m : Int) * 1).toNat]?) = fun m => xs[i + m]? := by
  funext m
  have : ((i : Int) + (m : Int) * 1).toNat = i + m := by omega
  rw [this]
 rw [e]
 have := pick_run xs i k
 rw [List.filterMap_map] at this
 have e2 : ((fun x => xs[x]?) ∘ fun x => i + x) = fun m => xs[i + m]? := rfl
 rw [e2] at this
 rw [this]
theorem getItem_tuple_cut {t sl : Addr} {items : Array Value} {vl vu : Value} {lo hi : Option Int} {Q : Value -> Shared -> Prop} (ht : IsTup s.heap t items) (hs : s.heap.IsSliceOf sl vl vu .none) (pl : IsPart vl lo) (pu : IsPart vu hi)
  (hw : ¬ (sIx items.size 0 lo = 0 /\ sIx items.size items.size hi = items.size))
  (h : Q (.ref s.heap.objs.size) { s with heap := s.heap.push { cls := .type "tuple", data := .seq ((items.toList.drop (sIx items.size 0 lo)).take (sIx items.size items.size hi - sIx items.size 0 lo)).toArray } })
  (hsz : items.size <= sizeLine) : wpAny (model prog w) A (getItem (.ref t) (.ref sl)) Q E s := by
 have htake : sizeOk (.seq ((items.toList.drop (sIx items.size 0 lo)).take (sIx items.size items.size hi - sIx items.size 0 lo)).toArray) := by
  show ((items.toList.drop (sIx items.size 0 lo)).take (sIx items.size items.size hi - sIx items.size 0 lo)).toArray.size <= sizeLine
  rw [List.size_toArray, List.length_take, List.length_drop, Array.length_toList]
  omega
 have hj : sIx items.size items.size hi <= items.size := sIx_le _ _ (Nat.le_refl _) hi
 obtain ⟨os, hos, hcs, hds⟩ := id hs
 have hTs : s.TypeIs (.ref sl) "slice" := ⟨os, hos, hcs⟩
 unfold getItem
 try with_reducible refine wpAny_holding ?_
 first | refine wpAny_bind (wpAny_pure ?_) | skip
 refine wpAny_bind (wpAny_sequenceKey ht.typeIs (by decide) ?_)
 refine wpAny_bind (wpAny_callSpecial?_slot (name := Str.ofString "__getitem__") ht.typeIs PyProof.Rows.slot_tuple_getitem
  (wpAny_call_entry PyProof.Rows.slot_tuple_getitem ht.typeIs entry_tuple_getitem ?_ (args_tuple_getitem _ _)))
 show wpAny _ _ (Builtin.Tuple.tupleItemsOf (.ref t) >>= _) _ _ s
 refine wpAny_bind (tupleItemsOf_ ht ?_)
 refine wpAny_bind (wpAny_typeOf hTs ?_)
 rw [if_pos (by decide)]
 refine wpAny_bind (sliceApplied_gen hs pl pu ?_)
 have hno : ¬ ((((sIx items.size 0 lo : Nat) : Int) == 0 && (1 : Int) == 1 && (sIx items.size items.size hi - sIx items.size 0 lo) == items.size) = true) := by
  intro q
  rw [Bool.and_eq_true, Bool.and_eq_true] at q
  have q1 : ((sIx items.size 0 lo : Nat) : Int) = 0 := eq_of_beq q.1.1
  have q2 : sIx items.size items.size hi - sIx items.size 0 lo = items.size := eq_of_beq q.2
  exact hw ⟨by omega, by omega⟩
 show wpAny _ _ (if (((sIx items.size 0 lo : Nat) : Int) == 0 && (1 : Int) == 1 && (sIx items.size items.size hi - sIx items.size 0 lo) == items.size) = true then _ else _) _ _ s
 rw [if_neg hno, pick_gen]
 first
  | exact wpAny_bind (m := Builtin.Tuple.tupleExact _) (wpAny_newObj_type (wpAny_pure ⟨_, rfl, wpAny_pure h⟩) htake)
  | exact wpAny_bind (m := Builtin.Tuple.tupleExact _) (wpAny_newObj_type (wpAny_bind (wpAny_pure (wpAny_pure ⟨_, rfl, wpAny_pure h⟩))) htake)
  | exact wpAny_bind (wpAny_bind (m := Builtin.Tuple.tupleExact _) (wpAny_newObj_type (wpAny_pure (wpAny_pure ⟨_, rfl, wpAny_pure h⟩)) htake))
  | exact wpAny_bind (wpAny_bind (m := Builtin.Tuple.tupleExact _) (wpAny_newObj_type (wpAny_pure ⟨_, rfl, wpAny_pure h⟩) htake))
end
end HT
namespace L2
open PySem PySem.Spec PyProof.Rows
abbrev TO := St -> Hp -> (Option Int -> Hp -> Prop) -> Prop
def PO (X : Cx) (e : Option Expr) (t : TO) : Prop :=
 ∀ (pins : List (Addr × Obj)) (s : Shared) (σ : St) (H : Hp) (Q : Option Int -> Hp -> Prop), Inv X pins σ H s -> t σ H Q ->
  wpAny (model X.prog X.w) X.A (evalPart e X.env) (fun u s' => ∃ o H', Inv X pins σ H' s' /\ IsPart u o /\ Q o H') X.xe s
def tNoPart : TO := fun _ H Q => Q none H
def tPart (t : TE) : TO := fun σ H Q => t σ H fun x H1 => ∃ i, x = .int i /\ Q (some i) H1
theorem intsAre_of {ns : List Int} : ∀ {us : List Value}, Vals (ns.map V.int) us -> IntsAre us ns := by
 induction ns with
 | nil => intro us r; rw [List.map_nil] at r; cases r; exact .nil
 | cons n ns ih =>
  intro us r
  rw [List.map_cons] at r
  cases r with
  | cons r1 r2 =>
   obtain ⟨t, e⟩ := r1
   subst e
   exact .cons n t (ih r2)
section
variable {X : Cx} {e : Expr} {te : TE} {lo hi : Option Expr} {tl th : TO} {pos p2 : Pos}
theorem po_none : PO X none tNoPart := by
 intro pins s σ H Q I h
 rw [evalPart_none]
 exact wpAny_pure ⟨none, H, I, .none, h⟩
theorem po_some (h : PE X e te) : PO X (some e) (tPart te) := by
 intro pins s σ H Q I hw
 rw [evalPart_some]
 refine thn (h pins s σ H _ I hw) fun u s1 ⟨x, H1, I1, r1, q1⟩ => ?_
 obtain ⟨i, rfl, q⟩ := q1
 obtain ⟨t, rfl⟩ := r1
 exact ⟨some i, H1, I1, .int i t, q⟩
def SlR (X : Cx) (r : V -> Option Int -> Option Int -> Hp -> VK -> Prop) : Prop :=
 ∀ (pins : List (Addr × Obj)) (s : Shared) (σ : St) (H : Hp) (x : V) (v vl vu : Value) (lo hi : Option Int) (sl : Addr) (Q : VK), Inv X pins σ H s -> RelV x v -> s.heap.IsSliceOf sl vl vu .none -> IsPart vl lo -> IsPart vu hi -> r x lo hi H Q ->
  ∃ T id, typeLookup (.type T) "__getitem__" = pure (some (.builtin id)) /\ s.TypeIs v T /\ wpAny (model X.prog X.w) X.A (getItem v (.ref sl)) (EP X pins σ Q) X.xe s
theorem SlR.or {r r' : V -> Option Int -> Option Int -> Hp -> VK -> Prop} (h : SlR X r) (h' : SlR X r') : SlR X (fun x lo hi H Q => r x lo hi H Q \/ r' x lo hi H Q) := by
 intro pins s σ H x v vl vu lo hi sl Q I rx hs pl pu q
 rcases q with q | q
 ·exact h pins s σ H x v vl vu lo hi sl Q I rx hs pl pu q
 ·exact h' pins s σ H x v vl vu lo hi sl Q I rx hs pl pu q
def tSl (r : V -> Option Int -> Option Int -> Hp -> VK -> Prop) (te : TE) (tl th : TO) : TE := fun σ H Q => te σ H fun x H1 => tl σ H1 fun l H2 => th σ H2 fun u H3 => r x l u H3 Q
theorem pe_slice {r : V -> Option Int -> Option Int -> Hp -> VK -> Prop} (hr : SlR X r) (he : PE X e te) (hl : PO X lo tl) (hu : PO X hi th) : PE X (.Subscript e (.Slice lo hi none p2) pos) (tSl r te tl th) := by
 intro pins s σ H Q I h
 refine Subscript_ (thn (he pins s σ H _ I h) fun v s1 ⟨x, H1, I1, r1, q1⟩ => ?_)
 refine wpAny_Slice (thn (hl pins s1 σ H1 _ I1 q1) fun vl s2 ⟨l, H2, I2, pl, q2⟩ => thn (hu pins s2 σ H2 _ I2 q2) fun vu s3 ⟨u, H3, I3, pu, q3⟩ => ?_)
 rw [evalPart_none]
 refine wpAny_pure ?_
 have I4 : Inv X pins σ H3 { s3 with heap := s3.heap.push { cls := .type "slice", data := .fields #[vl, vu, .none] } } := I3.kept (t' := s3.toks) fun b ob q => Heap.get?_push_of_some _ q
 obtain ⟨T, id, hT, ht, hg⟩ := hr pins { s3 with heap := s3.heap.push { cls := .type "slice", data := .fields #[vl, vu, .none] } } σ H3 x v vl vu l u s3.heap.objs.size Q I4 r1 (Heap.IsSliceOf.new ..) pl pu q3
 show wpAny (model X.prog X.w) X.A (subscriptTail e (.Slice lo hi none p2) v (.ref s3.heap.objs.size)) (EP X pins σ Q) X.xe { s3 with heap := s3.heap.push { cls := .type "slice", data := .fields #[vl, vu, .none] } }
 exact tail_any (ops := [.ref s3.heap.objs.size, v]) ht hT hg (by with_unfolding_all rfl)
def cutV (xs : List V) (lo hi : Option Int) : List V := (xs.drop (HT.sIx xs.length 0 lo)).take (HT.sIx xs.length xs.length hi - HT.sIx xs.length 0 lo)
theorem cutV_length (xs : List V) (lo hi : Option Int) : (cutV xs lo hi).length <= xs.length := by
 unfold cutV
 rw [List.length_take, List.length_drop]
 omega
def rSlT (K : PySem.W.Frag) : V -> Option Int -> Option Int -> Hp -> VK -> Prop := fun x lo hi H Q => ∃ a xs, x = .ref a /\ SqT K H a xs /\
 ¬ (HT.sIx xs.length 0 lo = 0 /\ HT.sIx xs.length xs.length hi = xs.length) /\ ∀ p, H p = none -> Q (.ref p) (upd H p (.tup (cutV xs lo hi)))
theorem sl_tup : SlR X (rSlT X.K) := by
 intro pins s σ H x v vl vu lo hi sl Q I rx hs pl pu h
 obtain ⟨a, xs, rfl, hx, hw, q⟩ := h
 cases rx
 obtain ⟨its, r, ht, hz⟩ := I.tuple hx
 have hlen : its.toArray.size = xs.length := by rw [List.size_toArray]; exact r.length.symm
 refine ⟨"tuple", _, PyProof.Rows.slot_tuple_getitem.lookup, ht.typeIs, ?_⟩
 refine HT.getItem_tuple_cut ht hs pl pu (by rw [hlen]; exact hw) ?_ (by rw [hlen]; exact hz)
 rw [hlen]
 refine ⟨.ref s.heap.objs.size, _, I.laid (t' := s.toks) (o := .tup (cutV xs lo hi)) (fun b ob q => Heap.get?_push_of_some _ q) (Nat.le_refl _) ?_, rfl, q _ (I.hok.fresh (Nat.le_refl _))⟩
 exact ⟨Nat.le_trans (cutV_length xs lo hi) hz, _, (r.drop (HT.sIx xs.length 0 lo)).take (HT.sIx xs.length xs.length hi - HT.sIx xs.length 0 lo), IsTup.new _ _⟩
def rCatT (K : PySem.W.Frag) : R2 := fun x y H Q => ∃ a b xs ys, x = .ref a /\ y = .ref b /\ SqT K H a xs /\ SqT K H b ys /\ xs ≠ [] /\ xs.length + ys.length <= sizeLine /\
 (ys = [] -> Q (.ref a) H) /\ (ys ≠ [] -> ∀ p, H p = none -> Q (.ref p) (upd H p (.tup (xs ++ ys))))
theorem Vals.nil_iff {xs : List V} {us : List Value} (r : Vals xs us) : us = [] ↔ xs = [] := by
 cases r with
 | nil => simp
 | cons _ _ => simp
theorem op_catT : OpR X (binaryOp .Add) (rCatT X.K) := by
 intro pins s σ H x y v u Q I rx ry h
 obtain ⟨a, b, xs, ys, rfl, rfl, ha, hb, hx, hz, q1, q2⟩ := h
 cases rx
 cases ry
 obtain ⟨its, r1, p1, _⟩ := I.tuple ha
 obtain ⟨its2, r2, p2, _⟩ := I.tuple hb
 refine HT.cat_tup p1 p2 (fun z => hx (r1.nil_iff.mp z)) (fun z => ⟨.ref a, H, I, rfl, q1 (r2.nil_iff.mp z)⟩) (fun z => ?_) (by rw [<- r1.length, <- r2.length]; exact hz)
 refine ⟨.ref s.heap.objs.size, _, I.laid (t' := s.toks) (o := .tup (xs ++ ys)) (fun b ob q => Heap.get?_push_of_some _ q) (Nat.le_refl _) ?_, rfl, q2 (fun w => z (r2.nil_iff.mpr w)) _ (I.hok.fresh (Nat.le_refl _))⟩
 exact ⟨by rw [List.length_append]; exact hz, _, r1.append r2, IsTup.new _ _⟩
end
end L2
namespace L2
open PySem PySem.Spec PyProof.Rows
def ixN (n : Nat) (i : Int) : Option Nat := if 0 <= i then (if i < n then some i.toNat else none) else if -(n : Int) <= i then some (i + n).toNat else none
def atI {α : Type} (xs : List α) (i : Int) : Option α := (ixN xs.length i).bind fun j => xs[j]?
theorem ixN_seq {n : Nat} {i : Int} {j : Nat} (h : ixN n i = some j) : seqIndex? i n = some j /\ j < n /\ -(n : Int) <= i /\ i < n := by
 unfold ixN at h
 by_cases h0 : 0 <= i
 ·rw [if_pos h0] at h
  by_cases h1 : i < n
  ·rw [if_pos h1] at h
   have e : i.toNat = j := Option.some.inj h
   exact ⟨by rw [seqIndex_of h0 h1, e], by omega, by omega, h1⟩
  ·rw [if_neg h1] at h; cases h
 ·rw [if_neg h0] at h
  by_cases h1 : -(n : Int) <= i
  ·rw [if_pos h1] at h
   have e : (i + n).toNat = j := Option.some.inj h
   exact ⟨by rw [seqIndex_neg (by omega) h1, e], by omega, h1, by omega⟩
  ·rw [if_neg h1] at h; cases h
theorem atI_get {α : Type} {xs : List α} {i : Int} {v : α} (h : atI xs i = some v) : ∃ j, seqIndex? i xs.length = some j /\ xs[j]? = some v /\ j < xs.length /\ -(xs.length : Int) <= i /\ i < xs.length := by
 unfold atI at h
 cases e : ixN xs.length i with
 | none => rw [e] at h; cases h
 | some j =>
  rw [e] at h
  obtain ⟨h1, h2, h3, h4⟩ := ixN_seq e
  exact ⟨j, h1, h, h2, h3, h4⟩
theorem atI_nat {α : Type} {xs : List α} {j : Nat} {v : α} (h : xs[j]? = some v) : atI xs (j : Int) = some v := by
 have hj : j < xs.length := (List.getElem?_eq_some_iff.mp h).1
 have e : ixN xs.length (j : Int) = some j := by
  unfold ixN
  rw [if_pos (by omega), if_pos (by omega)]; simp
 unfold atI; rw [e]; exact h
def PlainIx (b : Expr) : Prop := ∀ o i, subscripted b false o i = operate [o, i] (getItem o i)
def IxR (X : Cx) (r : R2) : Prop :=
 ∀ (value slice : Expr) (pins : List (Addr × Obj)) (s : Shared) (σ : St) (H : Hp) (x y : V) (v u : Value) (Q : VK), Inv X pins σ H s -> RelV x v -> RelV y u -> r x y H Q ->
  subscripted slice false v u = operate [v, u] (getItem v u) -> wpAny (model X.prog X.w) X.A (subscriptTail value slice v u) (EP X pins σ Q) X.xe s
def MtR (X : Cx) (id : String) (r : V -> List V -> Hp -> VK -> Prop) : Prop :=
 ∀ (pins : List (Addr × Obj)) (s : Shared) (σ : St) (H : Hp) (x : V) (xs : List V) (v : Value) (us : List Value) (Q : VK), Inv X pins σ H s -> RelV x v -> Vals xs us -> r x xs H Q ->
  wpAny (model X.prog X.w) X.A (call (.builtin id) (v :: us)) (EP X pins σ Q) X.xe s
section
variable {X : Cx} {a b : Expr} {ta tb : TE} {pos : Pos}
theorem IxR.or {r r' : R2} (h : IxR X r) (h' : IxR X r') : IxR X (fun x y H Q => r x y H Q \/ r' x y H Q) := by
 intro value slice pins s σ H x y v u Q I rx ry q hs
 rcases q with q | q
 ·exact h value slice pins s σ H x y v u Q I rx ry q hs
 ·exact h' value slice pins s σ H x y v u Q I rx ry q hs
theorem pe_ix {r : R2} (hr : IxR X r) (ha : PE X a ta) (hb : PE X b tb) (hs : PlainIx b) : PE X (.Subscript a b pos) (tOp r ta tb) := by
 intro pins s σ H Q I h
 exact Subscript_ (binT ha hb I h fun v u s2 x y H2 I2 rx ry q => hr a b pins s2 σ H2 x y v u Q I2 rx ry q (hs _ _))
def rIxL (K : PySem.W.Frag) : R2 := fun x y H Q => ∃ p xs i v, x = .ref p /\ y = .int i /\ SqL K H p xs /\ atI xs i = some v /\ Q v H
def rIxT (K : PySem.W.Frag) : R2 := fun x y H Q => ∃ p xs i v, x = .ref p /\ y = .int i /\ SqT K H p xs /\ atI xs i = some v /\ Q v H
def rIxS : R2 := fun x y H Q => ∃ z i c, x = .str z /\ y = .int i /\ z.length <= sizeLine /\ atI z.cps.toList i = some c /\ Q (.str ⟨#[c]⟩) H
theorem ix_list : IxR X (rIxL X.K) := by
 intro value slice pins s σ H x y v u Q I rx ry h hs
 obtain ⟨p, xs, i, z, rfl, rfl, hq, he, q⟩ := h
 cases rx
 obtain ⟨t, rfl⟩ := ry
 obtain ⟨its, r, pl, hz⟩ := I.list hq
 obtain ⟨j, h1, h2, h3, h4, h5⟩ := atI_get he
 obtain ⟨w, ew, rw'⟩ := r.get h2
 have hl := r.length
 have hn := line63
 have fin : EP X pins σ Q w s := ⟨z, H, I, rw', q⟩
 by_cases h0 : 0 <= i
 ·have hj : i.toNat = j := by
   rw [seqIndex_of h0 h5] at h1
   exact Option.some.inj h1
  exact item_listR pl.isList h0 (by omega) (by rw [hj]; simpa using ew) fin hs
 ·have hj : (i + (its.toArray.size : Int)).toNat = j := by
   rw [seqIndex_neg (by omega) h4] at h1
   rw [List.size_toArray, <- hl]
   exact Option.some.inj h1
  exact subscriptTail_builtinR (x := w) pl.isList.typeIs slot_list_getitem.lookup
   (wpAny_getItem_list_neg (Q := fun r s' => r = w /\ EP X pins σ Q r s') pl.isList (by omega) (by rw [List.size_toArray] <;> omega) (by omega) (by rw [hj]; simpa using ew) ⟨rfl, fin⟩) hs
theorem ix_tup : IxR X (rIxT X.K) := by
 intro value slice pins s σ H x y v u Q I rx ry h hs
 obtain ⟨p, xs, i, z, rfl, rfl, hq, he, q⟩ := h
 cases rx
 obtain ⟨t, rfl⟩ := ry
 obtain ⟨its, r, pl, hz⟩ := I.tuple hq
 obtain ⟨j, h1, h2, h3, h4, h5⟩ := atI_get he
 obtain ⟨w, ew, rw'⟩ := r.get h2
 have hl := r.length
 have hn := line63
 have fin : EP X pins σ Q w s := ⟨z, H, I, rw', q⟩
 exact subscriptTail_builtinR (x := w) pl.typeIs slot_tuple_getitem.lookup
  (getItem_tuple (j := j) (Q := fun r s' => r = w /\ EP X pins σ Q r s') pl (by omega) (by omega) (by rw [List.size_toArray, <- hl]; exact h1) (by simpa using ew) ⟨rfl, fin⟩) hs
theorem ix_str : IxR X rIxS := by
 intro value slice pins s σ H x y v u Q I rx ry h hs
 obtain ⟨z, i, c, rfl, rfl, hz, he, q⟩ := h
 obtain ⟨t, rfl⟩ := rx
 obtain ⟨t', rfl⟩ := ry
 obtain ⟨j, h1, h2, h3, h4, h5⟩ := atI_get he
 have hl : z.cps.toList.length = z.length := by simp [Str.length]
 rw [hl] at h1 h4 h5
 have hn := line63
 exact tail_any (typeIs_str s z t) slot_str_getitem.lookup (getItem_str (c := c) (by
  have e1 : decide (i < -(2 ^ 63 : Int)) = false := decide_eq_false (by omega)
  have e2 : decide (i >= 2 ^ 63) = false := decide_eq_false (by omega)
  rw [e1, e2, Bool.or_false]) (by rw [h1]; simpa using h2) ⟨.str ⟨#[c]⟩, H, I.tok _, ⟨_, rfl⟩, q⟩) hs
def rIx (K : PySem.W.Frag) : R2 := fun x y H Q => rIxL K x y H Q \/ rIxT K x y H Q \/ rIxS x y H Q
theorem ix_seq : IxR X (rIx X.K) := ix_list.or (ix_tup.or ix_str)
theorem mapSeq_set (its : List Value) (n j : Nat) (u : Value) : Obj.mapSeq (·.setIfInBounds j u) { cls := .type "list", data := .seq its.toArray n } = { cls := .type "list", data := .seq (its.set j u).toArray n } := by
 simp [Obj.mapSeq]
theorem Inv.lst {pins : List (Addr × Obj)} {σ : St} {H : Hp} {s : Shared} {p : Addr} {xs : List V} (I : Inv X pins σ H s) (h : H p = some (.lst xs)) :
  ∃ (its : List Value) (n : Nat), Vals xs its /\ s.heap.get? p = some { cls := .type "list", data := .seq its.toArray n } /\ xs.length <= sizeLine := by
 obtain ⟨z, its, n, r, e⟩ := I.hok p _ h
 exact ⟨its, n, r, e, z⟩
theorem Inv.lstUpd {pins : List (Addr × Obj)} {σ : St} {H : Hp} {s : Shared} {p : Addr} {xs ys : List V} {its its' : List Value} {n n' : Nat} {f : Obj -> Obj} (I : Inv X pins σ H s) (h : H p = some (.lst xs))
  (ho : s.heap.get? p = some { cls := .type "list", data := .seq its.toArray n }) (hf : f { cls := .type "list", data := .seq its.toArray n } = { cls := .type "list", data := .seq its'.toArray n' }) (r : Vals ys its') (hz : ys.length <= sizeLine) (t : Nat) :
  Inv X pins σ (upd H p (.lst ys)) { s with heap := s.heap.update p f, toks := t } := by
 have e : (s.heap.update p f).get? p = some { cls := .type "list", data := .seq its'.toArray n' } := by
  rw [Heap.get?_update_self f ho (by rw [hf] <;> rfl), hf]
 refine I.write (x := p) (e := p) (by rw [h]; trivial) (.inl rfl) (fun b u hb q => (Heap.get?_update_other _ _ (Ne.symm hb)).trans q) ⟨_, e⟩ ?_
 exact ⟨hz, its', n', r, e⟩
def rSetL : V -> V -> V -> Hp -> (Hp -> Prop) -> Prop := fun o i v H Q => ∃ p xs k j, o = .ref p /\ i = .int k /\ H p = some (.lst xs) /\ ixN xs.length k = some j /\ Q (upd H p (.lst (xs.set j v)))
theorem set_list : PSet X rSetL := by
 intro pins s σ H o i v ov iv u Q I ro ri rv h
 obtain ⟨p, xs, k, j, rfl, rfl, hp, hj, q⟩ := h
 cases ro
 obtain ⟨t, rfl⟩ := ri
 obtain ⟨its, n, r, ho, hz⟩ := I.lst hp
 obtain ⟨h1, h2, h3, h4⟩ := ixN_seq hj
 have hl := r.length
 have hn := line63
 have I' : Inv X pins σ (upd H p (.lst (xs.set j v))) { s with heap := s.heap.update p (Obj.mapSeq (·.setIfInBounds j u)) } :=
  I.lstUpd hp ho (mapSeq_set its n j u) (r.set rv j) (by rw [List.length_set]; exact hz) s.toks
 by_cases h0 : 0 <= k
 ·have hk : k.toNat = j := by
   rw [seqIndex_of h0 h4] at h1
   exact Option.some.inj h1
  exact PySem.W.ki_setAt ho h0 (by omega) (by rw [List.size_toArray, <- hl]; exact h4) (by rw [hk]; exact ⟨_, I', q⟩)
 ·have hk : (k + (its.toArray.size : Int)).toNat = j := by
   rw [seqIndex_neg (by omega) h3] at h1
   rw [List.size_toArray, <- hl]
   exact Option.some.inj h1
  exact PySem.W.ki_setBack ho (by omega) (by rw [List.size_toArray, <- hl]; exact h3) (by omega) (by rw [hk]; exact ⟨_, I', q⟩)
theorem slice_bounds (lo hi : Option Int) (n : Nat) : (sliceBounds lo hi none n).1 = ((HT.sIx n 0 lo : Nat) : Int) /\ (sliceBounds lo hi none n).2.1 = ((HT.sIx n n hi : Nat) : Int) /\ (sliceBounds lo hi none n).2.2 = 1 := by
 refine ⟨?_, ?_, rfl⟩
 ·cases lo with
  | none => simp [sliceBounds, HT.sIx]
  | some i =>
   simp only [sliceBounds, HT.sIx, Option.getD_none, show (1 : Int) > 0 by decide, if_true]
   by_cases h : i < 0
   ·simp only [h, if_true] <;> omega
   ·simp only [h, if_false] <;> omega
 ·cases hi with
  | none => simp [sliceBounds, HT.sIx]
  | some i =>
   simp only [sliceBounds, HT.sIx, Option.getD_none, show (1 : Int) > 0 by decide, if_true]
   by_cases h : i < 0
   ·simp only [h, if_true] <;> omega
   ·simp only [h, if_false] <;> omega
theorem slicePick_cut (its : List Value) (lo hi : Option Int) : slicePick its.toArray lo hi none = ((its.drop (HT.sIx its.length 0 lo)).take (HT.sIx its.length its.length hi - HT.sIx its.length 0 lo)).toArray := by
 obtain ⟨h1, h2, h3⟩ := slice_bounds lo hi its.toArray.size
 unfold slicePick
 rw [h1, h2, h3]
 simp only [sliceRange_one, pick_run, List.size_toArray] <;> rfl
def rSlL (K : PySem.W.Frag) : V -> Option Int -> Option Int -> Hp -> VK -> Prop := fun x lo hi H Q => ∃ a xs, x = .ref a /\ SqL K H a xs /\ ∀ p, H p = none -> Q (.ref p) (upd H p (.lst (cutV xs lo hi)))
theorem sl_list : SlR X (rSlL X.K) := by
 intro pins s σ H x v vl vu lo hi sl Q I rx hs pl pu h
 obtain ⟨a, xs, rfl, hx, q⟩ := h
 cases rx
 obtain ⟨its, r, ht, hz⟩ := I.list hx
 have hlen := r.length
 refine ⟨"list", _, slot_list_getitem.lookup, ht.isList.typeIs, ?_⟩
 refine wpAny_getItem_list_slice ht.isList hs pl pu .none (by simp) ?_ (by rw [List.size_toArray] <;> omega)
 rw [slicePick_cut, <- hlen]
 refine ⟨.ref s.heap.objs.size, _, I.laid (t' := s.toks) (o := .lst (cutV xs lo hi)) (fun b ob q => Heap.get?_push_of_some _ q) (Nat.le_refl _) ?_, rfl, q _ (I.hok.fresh (Nat.le_refl _))⟩
 exact ⟨Nat.le_trans (cutV_length xs lo hi) hz, _, 0, (r.drop (HT.sIx xs.length 0 lo)).take (HT.sIx xs.length xs.length hi - HT.sIx xs.length 0 lo), Heap.get?_push_size _ rfl⟩
def flatV : V -> Bool
 | .non => true
 | .bl _ => true
 | .int _ => true
 | .str _ => true
 | _ => false
def eqV : V -> V -> Bool
 | .non, .non => true
 | .bl a, .bl b => a == b
 | .bl a, .int b => (if a then 1 else 0) == b
 | .int a, .bl b => a == (if b then 1 else 0)
 | .int a, .int b => a == b
 | .str a, .str b => a == b
 | _, _ => false
theorem eqAt_V {A : Around} {s : Shared} {y x : V} {u v : Value} (ry : RelV y u) (rx : RelV x v) (fy : flatV y = true) (fx : flatV x = true) : SeqAt.EqAt A s u v (eqV y x) := by
 cases y with
 | non =>
  cases ry
  cases x with
  | non => cases rx; exact SeqAt.EqAt.same _
  | bl b => cases rx; exact SeqAt.EqAt.none_bool b
  | int b => obtain ⟨t, rfl⟩ := rx; exact SeqAt.EqAt.none_int b t
  | str b => obtain ⟨t, rfl⟩ := rx; exact SeqAt.EqAt.none_str b t
  | _ => exact absurd (show false = true from fx) Bool.false_ne_true
 | bl a =>
  cases ry
  cases x with
  | non => cases rx; exact SeqAt.EqAt.bool_none a
  | bl b => cases rx; exact SeqAt.EqAt.bool_bool a b
  | int b => obtain ⟨t, rfl⟩ := rx; exact SeqAt.EqAt.bool_int a b t
  | str b => obtain ⟨t, rfl⟩ := rx; exact SeqAt.EqAt.bool_str a b t
  | _ => exact absurd (show false = true from fx) Bool.false_ne_true
 | int a =>
  obtain ⟨t', rfl⟩ := ry
  cases x with
  | non => cases rx; exact SeqAt.EqAt.int_none a t'
  | bl b => cases rx; exact SeqAt.EqAt.int_bool a t' b
  | int b => obtain ⟨t, rfl⟩ := rx; exact SeqAt.EqAt.int_int a t' b t
  | str b => obtain ⟨t, rfl⟩ := rx; exact SeqAt.EqAt.int_str a t' b t
  | _ => exact absurd (show false = true from fx) Bool.false_ne_true
 | str a =>
  obtain ⟨t', rfl⟩ := ry
  cases x with
  | non => cases rx; exact SeqAt.EqAt.str_none a t'
  | bl b => cases rx; exact SeqAt.EqAt.str_bool a t' b
  | int b => obtain ⟨t, rfl⟩ := rx; exact SeqAt.EqAt.str_int a t' b t
  | str b => obtain ⟨t, rfl⟩ := rx; exact SeqAt.EqAt.str_str a t' b t
  | _ => exact absurd (show false = true from fx) Bool.false_ne_true
 | _ => exact absurd (show false = true from fy) Bool.false_ne_true
theorem op_notIn_str : OpR X (compareOp .NotIn) (fun x y H Q => ∃ i j, x = .str i /\ y = .str j /\ Q (.bl (!(!(Builtin.Str.occurrences j i 0 j.length 1).isEmpty))) H) := by
 intro pins s σ H x y v u Q I rx ry h
 obtain ⟨i, j, rfl, rfl, q⟩ := h
 obtain ⟨t, rfl⟩ := rx
 obtain ⟨t', rfl⟩ := ry
 exact notIn_str ⟨.bl _, H, I, rfl, q⟩
theorem call_len_seq : CallR X (.builtin "len") (fun xs H Q => ∃ p ys, xs = [.ref p] /\ (SqL X.K H p ys \/ SqT X.K H p ys) /\ Q (.int ys.length) H) := by
 intro pins s σ H xs us Q I r h
 obtain ⟨p, ys, rfl, hq, q⟩ := h
 obtain ⟨u, rfl, rx⟩ := vals1 r
 cases rx
 have hn := line63
 rcases hq with hq | hq
 ·obtain ⟨its, r', pl, hz⟩ := I.list hq
  have hlen := r'.length
  exact Calls.call_len_list pl.isList (by simp only [List.size_toArray] <;> omega) ⟨.int ys.length, H, I.tok _, ⟨s.toks + 1, by rw [List.size_toArray, hlen]⟩, q⟩
 ·obtain ⟨its, r', pl, hz⟩ := I.tuple hq
  have hlen := r'.length
  exact len_tuple pl (by simp only [List.size_toArray] <;> omega) ⟨.int ys.length, H, I.tok _, ⟨s.toks + 1, by rw [List.size_toArray, hlen]⟩, q⟩
theorem call_len_str : CallR X (.builtin "len") (fun xs H Q => ∃ z, xs = [.str z] /\ z.length <= sizeLine /\ Q (.int z.length) H) := by
 intro pins s σ H xs us Q I r h
 obtain ⟨z, rfl, hz, q⟩ := h
 obtain ⟨u, rfl, t, rfl⟩ := vals1 r
 have hn := line63
 exact len_str (by omega) ⟨.int z.length, H, I.tok _, ⟨_, rfl⟩, q⟩
theorem CallR.or {f : Value} {r r' : List V -> Hp -> VK -> Prop} (h : CallR X f r) (h' : CallR X f r') : CallR X f (fun xs H Q => r xs H Q \/ r' xs H Q) := by
 intro pins s σ H xs us Q I rs q
 rcases q with q | q
 ·exact h pins s σ H xs us Q I rs q
 ·exact h' pins s σ H xs us Q I rs q
theorem call_list_of : CallR X (.type "list") (fun xs H Q => ∃ p ys, xs = [.ref p] /\ (SqL X.K H p ys \/ SqT X.K H p ys) /\ ∀ l, H l = none -> Q (.ref l) (upd H l (.lst ys))) := by
 intro pins s σ H xs us Q I r h
 obtain ⟨p, ys, rfl, hq, q⟩ := h
 obtain ⟨u, rfl, rx⟩ := vals1 r
 cases rx
 have fin : ∀ (its : List Value), Vals ys its -> ys.length <= sizeLine -> ∀ (h' : Heap) (c' : Nat), (∀ b o', s.heap.get? b = some o' -> h'.get? b = some o') ->
   h'.get? s.heap.objs.size = some { cls := .type "list", dict := none, data := .seq its.toArray c', slots := #[] } -> EP X pins σ Q (.ref s.heap.objs.size) { s with heap := h' } := fun its r' hz h' c' kp e =>
  ⟨.ref s.heap.objs.size, _, I.laid (t' := s.toks) kp (Nat.le_refl _) (show ObjOk X.prog X.w _ h' _ (.lst ys) from ⟨hz, its, c', r', e⟩), rfl, q _ (I.hok.fresh (Nat.le_refl _))⟩
 rcases hq with hq | hq
 ·obtain ⟨its, r', pl, hz⟩ := I.list hq
  have hlen := r'.length
  obtain ⟨o, ho, hc, n, hd⟩ := pl.isList
  exact call_list_seq p (.inl rfl) ho hc hd (fun h' c' kp e => fin its r' hz h' c' kp e) (by simp only [List.size_toArray] <;> omega)
 ·obtain ⟨its, r', pl, hz⟩ := I.tuple hq
  have hlen := r'.length
  obtain ⟨o, ho, hc, n, hd⟩ := pl
  exact call_list_seq p (.inr rfl) ho hc hd (fun h' c' kp e => fin its r' hz h' c' kp e) (by simp only [List.size_toArray] <;> omega)
theorem call_tuple_of : CallR X (.type "tuple") (fun xs H Q => ∃ p ys, xs = [.ref p] /\ ((SqL X.K H p ys /\ ∀ l, H l = none -> Q (.ref l) (upd H l (.tup ys))) \/ (SqT X.K H p ys /\ Q (.ref p) H))) := by
 intro pins s σ H xs us Q I r h
 obtain ⟨p, ys, rfl, h⟩ := h
 obtain ⟨u, rfl, rx⟩ := vals1 r
 cases rx
 rcases h with ⟨hq, q⟩ | ⟨hq, q⟩
 ·obtain ⟨its, r', pl, hz⟩ := I.list hq
  have hlen := r'.length
  refine call_tuple_list pl.isList (fun h' kp => ?_) (by simp only [List.size_toArray] <;> omega)
  have I1 : Inv X pins σ H { s with heap := h' } := I.kept (t' := s.toks) kp
  have I2 : Inv X pins σ (upd H h'.objs.size (.tup ys)) { s with heap := h'.push { cls := .type "tuple", data := .seq its.toArray } } :=
   I1.laid (t' := s.toks) (fun b o e => Heap.get?_push_of_some _ e) (Nat.le_refl _) (show ObjOk X.prog X.w _ _ _ (.tup ys) from ⟨hz, its, r', IsTup.new _ _⟩)
  exact ⟨.ref h'.objs.size, _, I2, rfl, q _ (I1.hok.fresh (Nat.le_refl _))⟩
 ·obtain ⟨its, r', pl, hz⟩ := I.tuple hq
  exact call_tuple_same pl ⟨.ref p, H, I, rfl, q⟩
def tyV (K : PySem.W.Frag) (T : String) (x : V) (H : Hp) : Prop := match x with
 | .str _ => T = "str"
 | .int _ => T = "int"
 | .ref p => (T = "list" /\ ∃ xs, SqL K H p xs) \/ (T = "tuple" /\ ∃ o, K.lookup p = some o /\ o.cls = .type "tuple" /\ o.dict = none) \/
   (T = "dict" /\ ((∃ kvs, H p = some (.dK kvs)) \/ ∃ kvs, H p = some (.dT kvs))) \/ (T = "set" /\ ∃ S n, H p = some (.set S n))
 | _ => False
theorem tyV_is {pins : List (Addr × Obj)} {σ : St} {H : Hp} {s : Shared} {T : String} {x : V} {v : Value} (I : Inv X pins σ H s) (r : RelV x v) (ty : tyV X.K T x H) :
  s.TypeIs v T /\ ∀ a, v = .ref a -> ∃ ob, s.heap.get? a = some ob /\ ob.dict = none := by
 cases x with
 | str z =>
  obtain ⟨t, rfl⟩ := r
  cases (show T = "str" from ty)
  exact ⟨typeIs_str s z t, fun _ e => nomatch e⟩
 | int i =>
  obtain ⟨t, rfl⟩ := r
  cases (show T = "int" from ty)
  exact ⟨typeIs_int s i t, fun _ e => nomatch e⟩
 | ref p =>
  cases r
  rcases ty with ⟨rfl, xs, hq⟩ | ⟨rfl, o, hk, hc, hd⟩ | ⟨rfl, hk⟩ | ⟨rfl, S, n, hk⟩
  ·obtain ⟨its, _, pl, _⟩ := I.list hq
   refine ⟨pl.isList.typeIs, fun a e => ?_⟩
   cases e
   obtain ⟨o, n, e, c, hd, _⟩ := pl
   exact ⟨o, e, hd⟩
  ·refine ⟨⟨o, I.kIn p o hk, hc⟩, fun a e => ?_⟩
   cases e
   exact ⟨o, I.kIn _ o hk, hd⟩
  ·have z : ∃ o, s.heap.get? p = some o /\ o.ExactDict := by
    rcases hk with ⟨kvs, hk⟩ | ⟨kvs, hk⟩
    ·obtain ⟨_, _, _, _, o, _, _, e, ex, _⟩ := I.hok p _ hk
     exact ⟨o, e, ex⟩
    ·obtain ⟨_, _, _, _, o, _, _, e, ex, _⟩ := I.hok p _ hk
     exact ⟨o, e, ex⟩
   obtain ⟨o, e, ex⟩ := z
   refine ⟨⟨o, e, ex.1⟩, fun a e2 => ?_⟩
   cases e2
   exact ⟨o, e, ex.2.1⟩
  ·obtain ⟨o, _, _, _, e, ex, _⟩ := I.hok p _ hk
   refine ⟨⟨o, e, ex.1⟩, fun a e2 => ?_⟩
   cases e2
   exact ⟨o, e, ex.2.1⟩
 | _ => exact False.elim ty
def tBM0 (K : PySem.W.Frag) (T : String) (r : V -> List V -> Hp -> VK -> Prop) (to : TE) : TE := fun σ H Q => to σ H fun x H1 => tyV K T x H1 /\ r x [] H1 Q
def tBM (K : PySem.W.Frag) (T : String) (r : V -> List V -> Hp -> VK -> Prop) (to : TE) (t : TA) : TE := fun σ H Q => to σ H fun x H1 => tyV K T x H1 /\ t σ H1 fun xs H2 => r x xs H2 Q
variable {o e : Expr} {es : List Expr} {to : TE} {t : TA} {name : Str} {apos cpos : Pos} {T id : String} {r : V -> List V -> Hp -> VK -> Prop}
theorem pe_bm0 (pa : PlainAttrs T) (slot : Slot T name id) (hty : typeOf (.builtin id) = pure (.type "method_descriptor")) (hm : MtR X id r) (ho : PE X o to)
  (hbase : attributeBase o name X.env (eval o X.env) = eval o X.env := by rfl) (hline : (apos.endLine == cpos.line) = true := by rfl) : PE X (.Call (.Attribute o name apos) [] [] cpos) (tBM0 X.K T r to) := by
 intro pins s σ H Q I h
 refine wpAny_Call_method0_late hbase hline (thn (ho pins s σ H _ I h) fun v s1 ⟨x, H1, I1, r1, ty, q1⟩ => ?_)
 obtain ⟨h1, h2⟩ := tyV_is I1 r1 ty
 exact ⟨T, id, pa, slot, hty, h1, h2, Calls.callWith_builtin rfl (PySem.evalArgs_none (hm pins s1 σ H1 x [] v [] Q I1 r1 .nil q1))⟩
theorem pe_bm (pa : PlainAttrs T) (slot : Slot T name id) (hty : typeOf (.builtin id) = pure (.type "method_descriptor")) (hm : MtR X id r) (ho : PE X o to) (ha : PA X (e :: es) t)
  (hbase : attributeBase o name X.env (eval o X.env) = eval o X.env := by rfl)
  (hfew : ((backTo cpos (starEach (e :: es) X.env)).all (fun x => !x.1) && (backToKw cpos (keywordEach [] X.env)).all (fun x => x.1.isSome)
   && decide ((e :: es).length + ([] : List Keyword).length + (if ([] : List Keyword).isEmpty then 0 else 1) < 30)) = true := by rfl)
  (hline : (apos.endLine == cpos.line) = true := by rfl) (hs : starEach (e :: es) X.env = (false, eval e X.env) :: starEach es X.env := by rfl) (hplain : (backTo cpos (starEach es X.env)).any (·.1) = false := by rfl) :
  PE X (.Call (.Attribute o name apos) (e :: es) [] cpos) (tBM X.K T r to t) := by
 intro pins s σ H Q I h
 refine wpAny_Call_method_late hbase hfew hline rfl (thn (ho pins s σ H _ I h) fun v s1 ⟨x, H1, I1, r1, ty, q1⟩ => ?_)
 obtain ⟨h1, h2⟩ := tyV_is I1 r1 ty
 refine ⟨T, id, pa, slot, hty, h1, h2, ?_⟩
 have hA := ha cpos pins s1 σ H1 _ I1 q1
 rw [hs] at hA ⊢
 refine Calls.callWith_builtin (by show (false || (backTo cpos (starEach es X.env)).any (·.1)) = false; rw [hplain] <;> rfl) (Calls.evalArgs_plain ?_)
 exact thn hA fun us s2 ⟨vs, H2, I2, r2, q2⟩ => hm pins s2 σ H2 x vs v us Q I2 r1 r2 q2
end
end L2
namespace L2
open PySem PySem.Spec PyProof.Rows
def MtM (X : Cx) (id : String) (r : V -> List V -> Hp -> VK -> Prop) : Prop :=
 ∀ (pins : List (Addr × Obj)) (s : Shared) (σ : St) (H : Hp) (x : V) (xs : List V) (v : Value) (us : List Value) (Q : VK), Inv X pins σ H s -> RelV x v -> Vals xs us -> r x xs H Q ->
  wpAny (model X.prog X.w) X.A (call (.builtin id) (v :: us)) (EP X pins σ Q) X.xe s
theorem Vals.one : ∀ {x : V} {us : List Value}, Vals [x] us -> ∃ u, us = [u] /\ RelV x u
 | _, _, .cons r .nil => ⟨_, rfl, r⟩
theorem Vals.zero : ∀ {us : List Value}, Vals [] us -> us = []
 | _, .nil => rfl
theorem Vals.dropLast {xs : List V} {us : List Value} (h : Vals xs us) : Vals xs.dropLast us.dropLast := by
 induction h with
 | nil => exact .nil
 | cons r t ih =>
  cases t with
  | nil => exact .nil
  | cons q t' => exact .cons r ih
theorem Vals.reverse {xs : List V} {us : List Value} (h : Vals xs us) : Vals xs.reverse us.reverse := by
 induction h with
 | nil => exact .nil
 | cons r t ih => rw [List.reverse_cons, List.reverse_cons]; exact Vals.append ih (.cons r .nil)
theorem Vals.rep {xs : List V} {us : List Value} (h : Vals xs us) : ∀ k : Nat, Vals (List.replicate k xs).flatten (List.replicate k us).flatten
 | 0 => .nil
 | k + 1 => by
  rw [List.replicate_succ, List.replicate_succ, List.flatten_cons, List.flatten_cons]
  exact Vals.append h (Vals.rep h k)
theorem erase_last {α : Type} (l : List α) : l.eraseIdx (l.length - 1) = l.dropLast := by
 induction l with
 | nil => rfl
 | cons a r ih =>
  cases r with
  | nil => rfl
  | cons b r =>
   have e : (a :: b :: r).length - 1 = ((b :: r).length - 1) + 1 := by
    have h1 : (a :: b :: r).length = r.length + 2 := rfl
    have h2 : (b :: r).length = r.length + 1 := rfl
    omega
   rw [e, List.eraseIdx_cons_succ, ih]
   all_goals rfl
theorem foldl_rep (its : List Value) : ∀ (k : Nat) (acc : List Value),
  List.foldl (fun x1 x2 => x1 ++ x2) acc.toArray (List.replicate k its.toArray) = (acc ++ (List.replicate k its).flatten).toArray
 | 0, acc => by simp
 | k + 1, acc => by
  have e : acc.toArray ++ its.toArray = (acc ++ its).toArray := by simp
  have e2 : (acc ++ its) ++ (List.replicate k its).flatten = acc ++ (List.replicate (k + 1) its).flatten := by
   rw [List.replicate_succ, List.flatten_cons, List.append_assoc]
  rw [<- e2, <- foldl_rep its k (acc ++ its), <- e, List.replicate_succ, List.foldl_cons]
section
variable {X : Cx} {pins : List (Addr × Obj)} {σ : St} {H : Hp} {s : Shared} {l b : Addr} {xs ys zs : List V}
theorem Inv.lset {its its' : List Value} {n : Nat} {f : Array Value -> Array Value} {t' : Nat} (I : Inv X pins σ H s) (hH : H l = some (.lst xs))
  (e : s.heap.get? l = some { cls := .type "list", data := .seq its.toArray n }) (hf : f its.toArray = its'.toArray) (hv : Vals ys its') (hz : ys.length <= sizeLine) :
  Inv X pins σ (upd H l (.lst ys)) { s with heap := s.heap.update l (Obj.mapSeq f), toks := t' } := by
 have q := PySem.IsL.update e f
 rw [hf] at q
 refine I.write (x := l) (e := l) (by rw [hH]; exact trivial) (.inl rfl) (fun b' u hb hu => (Heap.get?_update_other s.heap (Obj.mapSeq f) (Ne.symm hb)).trans hu) ⟨_, q⟩ ?_
 exact ⟨hz, its', _, hv, q⟩
theorem Inv.lnew {its : List Value} {t' : Nat} (I : Inv X pins σ H s) (hv : Vals ys its) (hz : ys.length <= sizeLine) :
  Inv X pins σ (upd H s.heap.objs.size (.lst ys)) { s with heap := s.heap.push { cls := .type "list", data := .seq its.toArray }, toks := t' } :=
 I.laid (fun _ _ q => Heap.get?_push_of_some _ q) (Nat.le_refl _) ⟨hz, its, 0, hv, Heap.get?_push_size _ rfl⟩
theorem Inv.fresh (I : Inv X pins σ H s) : H s.heap.objs.size = none := I.hok.fresh (Nat.le_refl _)
theorem Inv.lstM (I : Inv X pins σ H s) (hH : H l = some (.lst xs)) : xs.length <= sizeLine /\ ∃ (its : List Value) (n : Nat), Vals xs its /\ xs.length = its.length /\ s.heap.get? l = some { cls := .type "list", data := .seq its.toArray n } := by
 obtain ⟨z, its, n, r, e⟩ := I.hok l _ hH
 exact ⟨z, its, n, r, r.length, e⟩
theorem notLongL {n : Nat} (h : n <= sizeLine) : Builtin.List.listTooLong n = false := by
 unfold Builtin.List.listTooLong
 exact decide_eq_false (by omega)
end
section
variable {X : Cx}
def rAppend : V -> List V -> Hp -> VK -> Prop := fun x vs H Q => ∃ l xs y, x = .ref l /\ vs = [y] /\ H l = some (.lst xs) /\ xs.length < sizeLine /\ Q .non (upd H l (.lst (xs ++ [y])))
theorem mt_append : MtM X "list.append" rAppend := by
 intro pins s σ H x vs v us Q I rx rv h
 obtain ⟨l, xs, y, rfl, rfl, hH, hz, q⟩ := h
 cases rx
 obtain ⟨u, rfl, ru⟩ := rv.one
 obtain ⟨z, its, n, r, hl, e⟩ := I.lstM hH
 refine call_meets F.slot_list_append ⟨_, e, rfl⟩ F.entry_list_append (F.args_list_append_2 _ _) (PySem.list_append l its.toArray n u (by rw [List.size_toArray]; omega)) ⟨e, ?_⟩
 refine ⟨.non, _, I.lset (its' := its ++ [u]) hH e (by simp) (r.append (.cons ru .nil)) ?_, rfl, q⟩
 rw [List.length_append, List.length_singleton]
 omega
def rPop : V -> List V -> Hp -> VK -> Prop := fun x vs H Q => ∃ l xs y, x = .ref l /\ vs = [] /\ H l = some (.lst xs) /\ xs[xs.length - 1]? = some y /\ Q y (upd H l (.lst xs.dropLast))
theorem mt_pop : MtM X "list.pop" rPop := by
 intro pins s σ H x vs v us Q I rx rv h
 obtain ⟨l, xs, y, rfl, rfl, hH, hy, q⟩ := h
 cases rx
 have hus := rv.zero
 subst hus
 obtain ⟨z, its, n, r, hl, e⟩ := I.lstM hH
 obtain ⟨u, hu, ru⟩ := r.get hy
 have hy' : its.toArray[its.toArray.size - 1]? = some u := by
  show its.toArray[its.length - 1]? = some u
  rw [<- Array.getElem?_toList, <- hl]
  exact hu
 refine call_meets F.slot_list_pop ⟨_, e, rfl⟩ F.entry_list_pop (F.args_list_pop_1 _) (MeetsSeq.list_pop_last l its.toArray n u hy' (by rw [List.size_toArray]; omega)) ⟨e, ?_⟩
 refine ⟨y, _, I.lset (its' := its.dropLast) hH e ?_ r.dropLast ?_, ru, q⟩
 ·show its.toArray.eraseIdxIfInBounds (its.toArray.size - 1) = its.dropLast.toArray
  rw [List.size_toArray, List.eraseIdxIfInBounds_toArray, erase_last]
 ·rw [List.length_dropLast]
  omega
theorem len_rep {α : Type} (xs : List α) (k : Nat) : (List.replicate k xs).flatten.length = k * xs.length := by
 induction k with
 | zero => simp
 | succ k ih => rw [List.replicate_succ, List.flatten_cons, List.length_append, ih, Nat.succ_mul, Nat.add_comm]
end
end L2
namespace Att
open PySem PySem.W PySem.Calls PyProof.Rows
theorem ints_of_wellAll {P : Params} {h : Heap} : ∀ (ns : List Int) (vs : List Value), WellAll P h vs (ns.map WData.int) -> IntsAre vs ns := by
 intro ns
 induction ns with
 | nil =>
  intro vs w
  rw [List.map_nil] at w
  cases w
  exact .nil
 | cons n ns ih =>
  intro vs w
  rw [List.map_cons] at w
  cases w with
  | cons a b =>
   cases a
   exact .cons _ _ (ih _ b)
theorem script_of {l : OpenLaw} {n : Nat} (hn : l.most = some n) {P : Params} {h : Heap} {args : List WData} {vals : List Value}
  (hpre : l.row.toRowW.claim.pre args = true) (hwl : WellAll P h vals args) :
  ∃ a vs ns, vals = [Value.ref a] /\ args = [WData.list (ns.map WData.int)] /\ h.get? a = some { cls := .type "list", data := .seq vs.toArray } /\ IntsAre vs ns /\ ns.length <= n := by
 have hsh : WShape.hasAll [] args [.list .int] = true := (pre_splitW hpre).1
 have hc : l.pre.holds [] { args := args } = true := (pre_splitW hpre).2
 obtain ⟨d, r, rfl, h1, h2⟩ := hasAllW_cons hsh
 obtain rfl := hasAllW_nil h2
 obtain ⟨xs, rfl, h3⟩ := hasW_list h1
 obtain ⟨ns, rfl⟩ := items_int h3
 have hlen : ns.length <= n := by
  unfold OpenLaw.pre at hc
  have h4 : (WTm.not (.lt (.lit (.int (n : Int))) (.len (.arg 0)))).holds [] { args := [.list (ns.map .int)] } = true := by
   have h4 := (holds_andW hc).1
   rw [hn] at h4
   exact h4
  have h5 := condW_of h4 (w_not (w_lt w_lit (w_len_list (w_arg rfl))))
  rw [List.length_map] at h5
  refine Nat.le_of_not_lt fun q => ?_
  have q' : (n : Int) < ((ns.length : Nat) : Int) := by omega
  first
   | (rw [decide_eq_true q'] at h5; exact absurd h5 (by decide))
   | (simp at h5; omega)
 cases hwl with
 | cons w1 w2 =>
  cases w2
  cases w1 with
  | list ho hall => exact ⟨_, _, ns, rfl, rfl, ho, ints_of_wellAll ns _ hall, hlen⟩
theorem post_true (l : OpenLaw) (args : List WData) : l.row.toRowW.claim.post args (.bool true) args = true :=
 postW_of (r := l.row.toRowW) (X := (true == true))
  (show WShape.has [] (.bool true) .bool = true by first | rfl | decide | simp [WShape.has, WShape.arms, WShape.armsAll])
  (show (WTm.eq .res (.lit (.bool true))).value [] { args := args, res := some (.bool true), after := args } = some (.bool (true == true)) from w_eq_bool (w_res rfl) w_lit) rfl
theorem attach_call {l : OpenLaw} {n : Nat} {q : Program} {loose : List Str} {XP : (Str -> Option Value) -> Heap -> Prop} {YP : World -> Heap -> Prop} {d : DefRec}
  (hn : l.most = some n) (hdf : d.params.defaults = [])
  (call : ∀ (w : World) (s₀ s₁ : Shared) (mg mb : Str -> Option Value) (fa : Addr) (o : Obj) (pm cd doc : Value) (a : Addr) (vs : List Value) (ns : List Int),
   Ground q loose [] XP w s₀ mg mb s₁.heap -> YP w s₁.heap ->
   s₁.heap.get? fa = some o -> o.data = .func (docDef d.name d.params d.body d.scope pm cd doc) -> s₁.heap.CodeRec cd d.name -> mg d.name = some (.ref fa) ->
   s₁.heap.get? a = some { cls := .type "list", data := .seq vs.toArray } -> IntsAre vs ns -> ns.length <= n -> s₁.gens = #[] ->
   codeAny (model l.prog w) callerA (.call (.ref fa) ⟨[.ref a], []⟩) (fun r s' => r = .ok (.ret (.bool true)) /\ OldK s₁.heap s'.heap /\ s'.os = s₁.os /\ AllBare s'.gens) s₁) :
  WalkO q loose XP YP l.row.toRowW d [] (fun f vs => PySem.call f vs) := by
 intro w s₀ s₁ mg mb G Y fa o pm cd doc dV kV ho hd hcd hD hmg hg args vals as hpre hlay hrd hwl hlo
 obtain rfl : dV = .none := Dflts.none hD hdf
 obtain rfl : kV = .none := Dflts.noKw hD
 obtain ⟨a, vs, ns, rfl, rfl, hobj, hints, hlen⟩ := script_of hn hpre hwl
 refine enter_call (codeAny_mono (call w s₀ s₁ mg mb fa o pm cd doc a vs ns G Y ho (fd_plain hd) hcd hmg hobj hints hlen hg) fun r s' hq => ?_)
 obtain ⟨rfl, h2, h3, h4⟩ := hq
 exact ⟨.inl ⟨.bool true, .bool true, [], rfl, fun _ => rfl, .bool true, post_true l _, fun _ => ⟨List.Pairwise.nil, fun _ hm => (nomatch hm)⟩⟩, h2, h3, h4⟩
end Att
namespace L2
open PySem PySem.Spec PyProof.Rows
theorem vals_ints : ∀ {vs : List Value} {ns : List Int}, IntsAre vs ns -> Vals (ns.map V.int) vs
 | _, _, .nil => .nil
 | _, _, .cons n t h => .cons ⟨t, rfl⟩ (vals_ints h)
def Only (H : Hp) : Prop := ∀ b, H b = none \/ ∃ o xs, H b = some (.frz o (.lst xs))
theorem law_call {P : Program} {w : World} {K : PySem.W.Frag} {mg mb : Str -> Option Value} {CX : CXT} {k : Nat} {fa a : Addr} {fd : FuncData} {x : Str} {sp : Sp} {s₁ : Shared} {vs : List Value} {ns : List Int}
  (KX : K.In s₁.heap) (hns : s₁.heap.Ns mainGlobals mg) (hb : s₁.heap.Ns builtinsNs mb) (hbb : ∀ x : Str, x ≠ "__name__" -> mb x = bootBuiltins x) (hlim : s₁.heap.NoLimit) (hg : s₁.gens = #[])
  (ha : s₁.heap.get? a = some { cls := .type "list", data := .seq vs.toArray }) (hi : IntsAre vs ns) (hl : ns.length <= sizeLine) (hr : Room k callerA)
  (F : ∀ base : Heap, K.In base -> base.Ns mainGlobals mg -> FnOk P w K mg base CX k fa fd [x] sp) (hbind : ∀ (s : Shared) (u : Value), BindsTo s fd ⟨[u], []⟩ [(x, u)])
  (hsp : ∀ H : Hp, Only H -> SqL K H a (ns.map V.int) -> sp [.ref a] H (fun v _ => v = .bl true) fun _ _ _ => False)
  (hCX : ∀ H e s', CX [] H s₁ (fun _ _ _ => False) e s' -> False) :
  codeAny (model P w) callerA (.call (.ref fa) ⟨[.ref a], []⟩) (fun r s' => r = .ok (.ret (.bool true)) /\ OldK s₁.heap s'.heap /\ s'.os = s₁.os /\ AllBare s'.gens) s₁ := by
 have rv := vals_ints hi
 have lenV := hi.length
 -- from an abstract heap in which nothing but the script may be tracked
 have core : ∀ H : Hp, Only H -> SqL K H a (ns.map V.int) -> HOk P w H s₁.heap -> (∀ b, H b ≠ none -> b = a) -> (H a ≠ none -> K.lookup a = none) ->
   codeAny (model P w) callerA (.call (.ref fa) ⟨[.ref a], []⟩) (fun r s' => r = .ok (.ret (.bool true)) /\ OldK s₁.heap s'.heap /\ s'.os = s₁.os /\ AllBare s'.gens) s₁ := by
  intro H hO hS hok hA hK
  have base_of : ∀ {b : Addr} {o : Obj}, s₁.heap.get? b = some o -> H b = none -> (hidT s₁.heap H).get? b = some o := fun e n => hidT_get e n
  have noA : ∀ {b : Addr} {o : Obj} {es : Array DictEntry} {ep : Nat}, s₁.heap.get? b = some o -> o.data = .dict es ep -> H b = none := fun {b o es ep} e d => by
   cases q : H b with
   | none => rfl
   | some u =>
    have e' : b = a := hA b (by rw [q]; simp)
    subst e'
    rw [ha] at e; cases e
    have d' : Data.seq vs.toArray _ = Data.dict es ep := d
    cases d'
  have nsK : ∀ {b : Addr} {m : Str -> Option Value}, s₁.heap.Ns b m -> (hidT s₁.heap H).Ns b m := fun {b m} ⟨o, es, ep, e, d, r⟩ => ⟨o, es, ep, base_of e (noA e d), d, r⟩
  have hKb : K.In (hidT s₁.heap H) := fun b o e => base_of (KX b o e) (by
   cases q : H b with
   | none => rfl
   | some u =>
    have e' : b = a := hA b (by rw [q]; simp)
    subst e'
    rw [hK (by rw [q]; simp)] at e; cases e)
  have hM : Mod K mg (hidT s₁.heap H) := ⟨hKb, nsK hns, ⟨mb, nsK hb, hbb⟩, let ⟨mc, h1, h2⟩ := hlim; ⟨mc, nsK h1, h2⟩⟩
  have e0 : Env0 P w K mg (hidT s₁.heap H) callerA [] s₁ H := ⟨rfl, hM, fun b o e => of_hidT e, Nat.le_of_eq (hidT_size _ _), trivial, fun b hb => absurd (show b ∈ ([] : List Addr) from hb) (by simp), hok, .of_eq hg⟩
  refine codeAny_mono ((F _ hKb (nsK hns)).run callerA [] s₁ H ⟨[.ref a], []⟩ [.ref a] [.ref a] _ _ hr e0 (hbind s₁ (.ref a)) (.cons rfl .nil) (hsp H hO hS)) fun r s' h => ?_
  cases r with
  | error e => exact (hCX H e s' h).elim
  | ok fl =>
   cases fl with
   | next => exact False.elim h
   | brk => exact False.elim h
   | cont => exact False.elim h
   | ret u =>
    obtain ⟨v, H', os, bare, un, hok', r', q⟩ := h
    have q' : v = .bl true := q
    subst q'
    obtain rfl : u = Value.bool true := r'
    refine ⟨rfl, OldK.of_keep fun b o e => ?_, os, bare⟩
    cases q : H b with
    | none => exact un.keep b o e q (by intro z; exact absurd (show b ∈ ([] : List Addr) from z) (by simp)) (by simp)
    | some u =>
     rcases hO b with z | ⟨ob, xs, z⟩
     ·rw [q] at z; cases z
     ·have z2 := un.frzs b ob _ z
      obtain ⟨e1, _⟩ := hok b _ z
      obtain ⟨e2, _⟩ := hok' b _ z2
      rw [e] at e1; cases e1
      exact e2
 cases hk : K.lookup a with
 | some o =>
  -- the script is one of the module's own objects
  have e := KX a o hk
  rw [ha] at e
  cases e
  refine core (fun _ => none) (fun _ => .inl rfl) (.inr ⟨_, vs.toArray, _, hk, rfl, rfl, rfl, by rw [List.size_toArray, lenV]; exact hl, by simpa using rv⟩) (fun b u z => by have z' : (none : Option HO) = some u := z; cases z') (fun b z => absurd rfl z) fun z => absurd rfl z
 | none =>
  refine core (fun b => if b = a then some (.frz { cls := .type "list", data := .seq vs.toArray } (.lst (ns.map V.int))) else none) (fun b => ?_) (.inl (.inr ⟨{ cls := .type "list", data := .seq vs.toArray }, if_pos rfl⟩)) (fun b u z => ?_) (fun b z => ?_) fun _ => hk
  ·by_cases hb : b = a
   ·exact .inr ⟨_, _, if_pos hb⟩
   ·exact .inl (if_neg hb)
  ·by_cases hb : b = a
   ·have z' := (if_pos hb).symm.trans z
    cases z'
    subst hb
    exact ⟨ha, by rw [List.length_map]; exact hl, vs, _, rv, ha⟩
   ·have z' := (if_neg hb).symm.trans z
    cases z'
  ·by_cases hb : b = a
   ·exact hb
   ·exact absurd (if_neg hb) z
end L2
namespace L2
open PySem PySem.Spec PyProof.Rows
theorem walk_of {l : PySem.W.OpenLaw} {n k : Nat} {q : Program} {loose : List Str} {XP : (Str -> Option Value) -> Heap -> Prop} {YP : World -> Heap -> Prop} {d : DefRec} {K : Params -> PySem.W.Frag} {CX : World -> CXT} {sp : World -> Sp} {x : Str}
  (hn : l.most = some n) (hn2 : n <= sizeLine) (hdf : d.params.defaults = []) (hr : Room k callerA)
  (hY : ∀ (w : World) (h : Heap), YP w h -> (K w.params).In h)
  (F : ∀ (w : World) (mg : Str -> Option Value) (fa : Addr) (h : Heap), (K w.params).In h -> h.Ns mainGlobals mg -> mg d.name = some (.ref fa) ->
   ∃ fd : FuncData, (∀ (s : Shared) (u : Value), BindsTo s fd ⟨[u], []⟩ [(x, u)]) /\
    ∀ base : Heap, (K w.params).In base -> base.Ns mainGlobals mg -> FnOk l.prog w (K w.params) mg base (CX w) k fa fd [x] (sp w))
  (hsp : ∀ (w : World) (H : Hp) (a : Addr) (ns : List Int), ns.length <= n -> Only H -> SqL (K w.params) H a (ns.map V.int) -> sp w [.ref a] H (fun v _ => v = .bl true) fun _ _ _ => False)
  (hCX : ∀ (w : World) (H : Hp) (s : Shared) (e : Value) (s' : Shared), CX w [] H s (fun _ _ _ => False) e s' -> False) :
  PySem.W.WalkO q loose XP YP l.row.toRowW d [] (fun f vs => PySem.call f vs) := by
 refine Att.attach_call hn hdf fun w s₀ s₁ mg mb fa o pm cd doc a vs ns G Y ho hd hcd hmg hobj hints hlen hg => ?_
 have KX := hY w _ Y
 obtain ⟨fd, hb, hF⟩ := F w mg fa _ KX G.T.g hmg
 exact law_call KX G.T.g G.T.b G.T.builtins G.T.nolimit hg hobj hints (Nat.le_trans hlen hn2) hr hF hb (fun H hO hS => hsp w H a ns hlen hO hS) fun H e s' => hCX w H s₁ e s'
end L2
namespace L2
open PySem PySem.Spec PyProof.Rows
def defArgs (s : Stmt) : Arguments := match s with
 | .FunctionDef _ a _ _ _ _ _ _ _ _ => a
 | _ => { posonlyargs := [], args := [], vararg := none, kwonlyargs := [], kw_defaults := [], kwarg := none, defaults := [] }
def defBody (s : Stmt) : List Stmt := match s with
 | .FunctionDef _ _ b _ _ _ _ _ _ _ => b
 | _ => []
def defScope (s : Stmt) : Scope := match s with
 | .FunctionDef _ _ _ _ _ _ sc _ _ _ => sc
 | _ => { kind := .function, names := [], isGenerator := false, isCoroutine := false }
abbrev CX0 : CXT := fun _ _ _ _ _ _ => False
abbrev E0 : XK := fun _ _ _ => False
theorem pass0 {X : Cx} : Passes CX0 X E0 := fun _ _ _ _ _ _ _ h => h.elim
structure Fun (K : PySem.W.Frag) (x qual : Str) (st : Stmt) (f : Addr) (fd : FuncData) : Prop where
 ex : ∃ (oc : Value) (od : Option Addr) (kV doc pm : Value) (an : Option Addr) (cdv ct : Value) (osl : Array (Option Value)),
  fd = PySem.W.fnOf x qual (defArgs st) (defBody st) (defScope st) .none kV doc pm an cdv ct /\ K.lookup f = some ⟨oc, od, .func fd, osl⟩ /\ PySem.W.codeIn K cdv qual = true
 kp : PySem.W.keepIn K (.ref f) = true
section
variable {P : Program} {w : World} {K : PySem.W.Frag} {mg : Str -> Option Value} {base : Heap}
theorem Fun.ok {x qual : Str} {st : Stmt} {f : Addr} {fd : FuncData} {N ps : List Str} {k : Nat} {sp : Sp} (F : Fun K x qual st f fd) (S : FnScope N ps (defScope st)) (len : ∀ vs H Q E, sp vs H Q E -> vs.length = ps.length)
  (hbody : ∀ (cdv : Value) (A : Around) (outer : List Env) (s : Shared) (H : Hp) (vs : List V) (Q : VK) (E : XK), Room k (A.deeper (envOfC qual (defScope st) s.heap.objs.size f cdv)) -> sp vs H Q E ->
   ∃ t, PSs (cxOf CX0 P w K mg base N qual (defScope st) f cdv A outer s H E).nox (defBody st) t /\ t { nx := fun _ H' => Q .non H', rt := Q } (start N vs) H) : FnOk P w K mg base CX0 (k + 1) f fd ps sp := by
 obtain ⟨oc, od, kV, doc, pm, an, cdv, ct, osl, rfl, lk, hcd⟩ := F.ex
 refine fn_of lk hcd S len fun A outer s H vs Q E hr hsp => ?_
 obtain ⟨t, h, q⟩ := hbody cdv A outer s H vs Q E hr hsp
 exact ⟨t, h.nox, q⟩
theorem Fun.binds {x qual : Str} {st : Stmt} {f : Addr} {fd : FuncData} {ps : List Str} (F : Fun K x qual st f fd)
  (h : ∀ (kV doc pm : Value) (an : Option Addr) (cdv ct : Value) (us : List Value), us.length = ps.length -> bindArgs (PySem.W.fnOf x qual (defArgs st) (defBody st) (defScope st) .none kV doc pm an cdv ct) ⟨us, []⟩ = pure (ps.zip us)) : Binds K fd ps [] := by
 obtain ⟨oc, od, kV, doc, pm, an, cdv, ct, osl, rfl, lk, hcd⟩ := F.ex
 exact .all (h kV doc pm an cdv ct)
theorem fun_mk {x qual : Str} {st : Stmt} {f : Addr} {oc : Value} {od an : Option Addr} {osl : Array (Option Value)} {kV doc pm cdv ct : Value} (l : K.lookup f = some ⟨oc, od, .func (PySem.W.fnOf x qual (defArgs st) (defBody st) (defScope st) .none kV doc pm an cdv ct), osl⟩)
  (c : PySem.W.codeIn K cdv qual = true) (k : PySem.W.keepIn K (.ref f) = true) : Fun K x qual st f (PySem.W.fnOf x qual (defArgs st) (defBody st) (defScope st) .none kV doc pm an cdv ct) := ⟨⟨oc, od, kV, doc, pm, an, cdv, ct, osl, rfl, l, c⟩, k⟩
end
theorem hu_of {A : Around} {k : Nat} (hr : Room k A) : A.units + 1 < cLine := Nat.lt_of_le_of_lt (Nat.add_le_add_left (by decide : 1 <= 64) _) hr.units
theorem small1000 {n : Nat} (h : n <= 1000) : n < sizeLine := Nat.lt_of_le_of_lt h (by decide)
section
variable {X : Cx}
theorem pv (i : Nat) {x : Str} {pos : Pos} (hN : X.N[i]? = some x := by rfl) (hv : Vis X.env.scope x := by first | exact Or.inl rfl | exact Or.inr (Or.inl rfl) | exact Or.inr (Or.inr rfl)) (hd : (x == ("__debug__" : Str)) = false := by decide)
  (hcd : (x == ("__classdict__" : Str)) = false := by decide) : PE X (.Name x pos) (tVar i) := pe_var hN hv hd hcd
end
theorem iteF {A B : Prop} (h : B) : if false = true then A else B := by
 rw [if_neg Bool.false_ne_true]
 exact h
theorem iteT {A B : Prop} (h : A) : if true = true then A else B := by
 rw [if_pos rfl]
 exact h
theorem ite2 {c A B : Prop} [Decidable c] (h1 : c -> A) (h2 : ¬ c -> B) : if c then A else B := by
 by_cases h : c
 ·rw [if_pos h]
  exact h1 h
 ·rw [if_neg h]
  exact h2 h
def Same (H H' : Hp) : Prop := ∀ b o, H b = some o -> H' b = some o
theorem Same.refl (H : Hp) : Same H H := fun _ _ h => h
theorem Same.trans {H H1 H2 : Hp} (a : Same H H1) (b : Same H1 H2) : Same H H2 := fun c o h => b c o (a c o h)
theorem Same.free {H H' : Hp} (e : Same H H') {l : Addr} (h : H' l = Option.none) : H l = Option.none := by
 cases q : H l with
 | none => rfl
 | some o =>
  rw [e l o q] at h
  cases h
end L2
namespace L2
open PySem PySem.Spec PyProof.Rows
theorem closure_names {env : Env} : ∀ (names : List (Str × NameKind)) (acc : List (Str × Addr)), (∀ y ∈ names, y.2 = .free -> ∃ c, env.cells.lookup y.1 = some c) ->
  ∃ cl, (forIn names acc (fun (x : Str × NameKind) (cs : List (Str × Addr)) => if (x.2 == NameKind.free) = true then (do let c <- cellOf env x.1; pure (ForInStep.yield ((x.1, c) :: cs))) else pure (ForInStep.yield cs)) : Sem (List (Str × Addr))) = pure cl /\
   (∀ x c, cl.lookup x = some c -> env.cells.lookup x = some c \/ acc.lookup x = some c) /\ (∀ x c, acc.lookup x = some c -> ∃ c', cl.lookup x = some c') /\ ∀ y ∈ names, y.2 = .free -> ∃ c, cl.lookup y.1 = some c
 | [], acc, _ => ⟨acc, rfl, fun _ _ h => .inr h, fun _ c h => ⟨c, h⟩, fun _ h => nomatch h⟩
 | (n, k) :: r, acc, h => by
  rw [List.forIn_cons]
  by_cases hk : k = .free
  ·subst hk
   obtain ⟨c, hc⟩ := h (n, .free) List.mem_cons_self rfl
   obtain ⟨cl, h1, h2, h3, h4⟩ := closure_names r ((n, c) :: acc) fun y hy => h y (List.mem_cons_of_mem _ hy)
   refine ⟨cl, ?_, fun x d e => ?_, fun x d e => ?_, fun y hy e => ?_⟩
   ·have e1 : cellOf env n = pure c := by unfold cellOf; rw [hc]
    simp only [beq_self_eq_true, if_true, e1, pure_bind]
    exact h1
   ·rcases h2 x d e with z | z
    ·exact .inl z
    ·rw [List.lookup_cons] at z
     split at z
     ·rename_i hx
      cases z
      have : x = n := eq_of_beq hx
      subst this
      exact .inl hc
     ·exact .inr z
   ·refine h3 x (if x == n then c else d) ?_
    rw [List.lookup_cons]
    cases hx : x == n with
    | true => simp [hx]
    | false => simp [hx, e]
   ·rcases List.mem_cons.mp hy with z | z
    ·subst z
     exact h3 n c (by simp [List.lookup_cons])
    ·exact h4 y z e
  ·have hb : (k == NameKind.free) = false := by simpa using hk
   obtain ⟨cl, h1, h2, h3, h4⟩ := closure_names r acc fun y hy => h y (List.mem_cons_of_mem _ hy)
   refine ⟨cl, ?_, h2, h3, fun y hy e => ?_⟩
   ·simp only [hb, Bool.false_eq_true, if_false, pure_bind]
    exact h1
   ·rcases List.mem_cons.mp hy with z | z
    ·subst z
     exact absurd e hk
    ·exact h4 y z e
theorem closure_ok {scope : Scope} {env : Env} (h : ∀ y ∈ scope.names, y.2 = .free -> ∃ c, env.cells.lookup y.1 = some c) :
  ∃ cl, closureFor scope env = pure cl /\ (∀ x c, cl.lookup x = some c -> env.cells.lookup x = some c) /\ ∀ y ∈ scope.names, y.2 = .free -> ∃ c, cl.lookup y.1 = some c := by
 obtain ⟨cl, h1, h2, h3, h4⟩ := closure_names scope.names [] h
 refine ⟨cl, ?_, fun x c e => (h2 x c e).elim id fun z => (by cases z), h4⟩
 unfold closureFor
 refine Eq.trans ?_ h1
 refine Eq.trans (bind_pure _) ?_
 rfl
theorem lookup_relabel_free {env : Env} : ∀ {names : List (Str × NameKind)} {x : Str}, names.lookup x = some .free ->
  (names.map fun (n, k) => if (k == NameKind.free && env.scope.kind == .function && env.kindOf n == some .cell) then (n, NameKind.cell) else (n, k)).lookup x = some .cell \/
  (names.map fun (n, k) => if (k == NameKind.free && env.scope.kind == .function && env.kindOf n == some .cell) then (n, NameKind.cell) else (n, k)).lookup x = some .free
 | [], _, h => by simp at h
 | (n, k) :: r, x, h => by
  have ih := @lookup_relabel_free env r x
  show List.lookup x ((if (k == NameKind.free && env.scope.kind == .function && env.kindOf n == some .cell) = true then (n, NameKind.cell) else (n, k)) :: _) = _ \/ List.lookup x ((if (k == NameKind.free && env.scope.kind == .function && env.kindOf n == some .cell) = true then (n, NameKind.cell) else (n, k)) :: _) = _
  by_cases hc : (k == NameKind.free && env.scope.kind == .function && env.kindOf n == some .cell) = true
  ·rw [if_pos hc]
   cases hx : x == n with
   | true => simp only [List.lookup_cons, hx]; exact .inl trivial
   | false =>
    simp only [List.lookup_cons, hx] at h ⊢
    exact ih h
  ·rw [if_neg hc]
   cases hx : x == n with
   | true =>
    simp only [List.lookup_cons, hx] at h ⊢
    exact .inr h
   | false =>
    simp only [List.lookup_cons, hx] at h ⊢
    exact ih h
theorem mem_relabel {env : Env} {names : List (Str × NameKind)} (hn : ∀ y ∈ names, y.2 ≠ .cell) {x : Str} {k : NameKind} (hk : k = .cell \/ k = .free)
  (h : (names.map fun (n, k) => if (k == NameKind.free && env.scope.kind == .function && env.kindOf n == some .cell) then (n, NameKind.cell) else (n, k)).lookup x = some k) : (x, NameKind.free) ∈ names := by
 obtain ⟨⟨n, k'⟩, hm, e⟩ := List.mem_map.mp (PySem.mem_of_lookup h)
 simp only at e
 split at e
 ·rename_i hc
  rw [Bool.and_eq_true, Bool.and_eq_true] at hc
  have : k' = .free := eq_of_beq hc.1.1
  subst this
  injection e with e1 _
  subst e1
  exact hm
 ·injection e with e1 e2
  subst e1 e2
  rcases hk with z | z
  ·exact absurd z (hn _ hm)
  ·subst z; exact hm
def cxComp (X : Cx) (N : List Str) (scope : Scope) (cl : List (Str × Addr)) (C : Addr) (fp : List Addr) (s : Shared) (H : Hp) : Cx where
 prog := X.prog
 w := X.w
 K := X.K
 mg := X.mg
 base := X.base
 A := X.A
 N := N
 s₀ := s
 H₀ := H
 env := compEnvC scope cl C X.env
 outer := X.stack
 stack := X.stack
 ex := fp
 fn := fun _ => false
 calm := X.calm
 pn := []
 xe := fun _ _ => False
structure CompScope (sc : Scope) (XN N : List Str) (own : Nat) (fr : List Nat) (scope : Scope) : Prop where
 kind : scope.kind = .function
 nocell : ∀ y ∈ scope.names, y.2 ≠ .cell
 free : ∀ y ∈ scope.names, y.2 = .free -> sc.names.lookup y.1 = some .cell \/ sc.names.lookup y.1 = some .free
 loc : ∀ y ∈ scope.names, y.2 = .local -> scope.names.lookup y.1 = some .local
 names : N.drop own = fr.filterMap fun i => XN[i]?
 frl : ∀ i ∈ fr, i < XN.length
 len : own <= N.length
 vis : ∀ x ∈ N.drop own, scope.names.lookup x = some .free
def σf (fr : List Nat) (σ : St) : St := fr.map fun i => σ.getD i none
def σc (own : Nat) (fr : List Nat) (σ : St) : St := List.replicate own none ++ σf fr σ
section
variable {X : Cx} {pins : List (Addr × Obj)} {σ : St} {H : Hp} {s : Shared} {N : List Str} {own : Nat} {fr : List Nat} {scope : Scope}
theorem filterMap_all {XN : List Str} : ∀ {fr : List Nat}, (∀ i ∈ fr, i < XN.length) -> ∀ (j : Nat), (fr.filterMap fun i => XN[i]?)[j]? = (fr[j]?).bind fun i => XN[i]?
 | [], _, j => by simp
 | i :: r, h, j => by
  have hi : i < XN.length := h i List.mem_cons_self
  rw [List.filterMap_cons, List.getElem?_eq_getElem hi]
  cases j with
  | zero => simp [hi]
  | succ j => simpa using filterMap_all (fun k hk => h k (List.mem_cons_of_mem _ hk)) j
theorem inv_comp {cl : List (Str × Addr)} {fp : List Addr} {h' : Heap} (I : Inv X pins σ H s) (S : CompScope X.env.scope X.N N own fr scope) (hcl : ∀ x c, cl.lookup x = some c -> X.env.cells.lookup x = some c)
  (hcf : ∀ y ∈ scope.names, y.2 = .free -> ∃ c, cl.lookup y.1 = some c) (hfp : ∀ b ∈ fp, FpOk X pins H b) (hfo : ∀ b ∈ fp, ∃ o, s.heap.get? b = some o)
  (hns : h'.Ns s.heap.objs.size fun _ => none) (hk : ∀ b o, s.heap.get? b = some o -> h'.get? b = some o) :
  Inv (cxComp X N scope cl s.heap.objs.size fp s H) [] (σc own fr σ) H { s with heap := h' } := by
 have kindE : ∀ x, (Env.kindOf (compEnvC scope cl s.heap.objs.size X.env) x) = (relabel scope X.env).names.lookup x := fun x => rfl
 have memF : ∀ x, (Env.kindOf (compEnvC scope cl s.heap.objs.size X.env) x = some .cell \/ Env.kindOf (compEnvC scope cl s.heap.objs.size X.env) x = some .free) -> (x, NameKind.free) ∈ scope.names := fun x hx => by
  rcases hx with z | z
  ·exact mem_relabel (env := X.env) S.nocell (.inl rfl) z
  ·exact mem_relabel (env := X.env) S.nocell (.inr rfl) z
 refine ⟨⟨I.ok.mod, S.kind, I.ok.glob, I.ok.blt, Nat.le_refl _, fun x y c h1 h2 => I.ok.inj x y c (hcl x c h1) (hcl y c h2), fun x hx => hcf (x, .free) (memF x hx) rfl, fun x c h => absurd (show false = true from h) (by decide), I.ok.hd, I.ok.frames, .inl rfl, fun b hb => ?_, I.bs, Nat.le_trans I.ok.bsz I.sz, fun b o e hb => ?_, fun b hb z => ?_, I.stack, I.stkFree⟩,
  rfl, I.bare, Un.kept hk, ⟨_, hns, fun i x v e1 e2 e3 => ?_⟩, fun x c e => ?_, I.hok.fresh (Nat.le_refl _), fun x c e => I.freeC x c (hcl x c e), fun p hp => absurd (show p ∈ ([] : List (Addr × Obj)) from hp) (by simp), I.hok.kept hk, ?_⟩
 ·obtain ⟨o, ho⟩ := hfo b hb
  exact ⟨Nat.ne_of_lt (Heap.lt_size ho), fun x c e => (hfp b hb).2.2.2.2.1 x c (hcl x c e)⟩
 ·rcases (hfp b hb).2.2.2.1 with z | z
  ·exact I.ok.noex b o e z
  ·exact absurd (Nat.lt_of_lt_of_le (Heap.lt_size (I.ok.bs b o e).1) z) (Nat.lt_irrefl _)
 ·rcases List.mem_cons.mp (I.stkSub b z) with q | q
  ·exact (hfp b hb).2.1 q
  ·exact (hfp b hb).2.2.1 q
 ·have hi : own <= i := by
   rcases Nat.lt_or_ge i own with z | z
   ·have e2' : (σc own fr σ)[i]? = some (some v) := e2
    unfold σc at e2'
    rw [List.getElem?_append_left (by simpa using z), List.getElem?_replicate] at e2'
    split at e2' <;> cases e2'
   ·exact z
  have e2' : (σf fr σ)[i - own]? = some (some v) := by
   have e2' : (σc own fr σ)[i]? = some (some v) := e2
   unfold σc at e2'
   rw [List.getElem?_append_right (by simpa using hi)] at e2'
   simpa using e2'
  have e1' : (N.drop own)[i - own]? = some x := by
   have e1' : N[i]? = some x := e1
   rw [List.getElem?_drop]
   rw [show own + (i - own) = i by omega]
   exact e1'
  have hv : scope.names.lookup x = some .free := S.vis x (List.mem_of_getElem? e1')
  have hx : X.env.scope.names.lookup x = some .cell \/ X.env.scope.names.lookup x = some .free := S.free (x, .free) (PySem.mem_of_lookup hv) rfl
  rw [S.names, filterMap_all S.frl] at e1'
  unfold σf at e2'
  rw [List.getElem?_map] at e2'
  cases q : fr[i - own]? with
  | none => rw [q] at e2'; cases e2'
  | some j =>
   rw [q] at e1' e2'
   have e1'' : X.N[j]? = some x := e1'
   have e2'' : σ.getD j none = some v := Option.some.inj e2'
   have e3' : σ[j]? = some (some v) := by
    rw [List.getD_eq_getElem?_getD] at e2''
    cases z : σ[j]? with
    | none => rw [z] at e2''; cases e2''
    | some y => rw [z] at e2''; exact congrArg some e2''
   obtain ⟨m, hn, hl⟩ := I.loc
   obtain ⟨u, r, l⟩ := hl j x v e1'' e3' (.inr hx)
   refine ⟨u, r, .inr ⟨lookup_relabel_free (env := X.env) hv, ?_⟩⟩
   rcases l with ⟨k, _⟩ | ⟨_, c, hc, z⟩
   ·have k' : X.env.scope.names.lookup x = some .local := k
    rw [k'] at hx
    rcases hx with z | z <;> cases z
   ·obtain ⟨c', hc'⟩ := hcf (x, .free) (PySem.mem_of_lookup hv) rfl
    have := hcl x c' hc'
    rw [hc] at this
    cases this
    exact ⟨c, hc', z.keeps hk⟩
 ·obtain ⟨v, z⟩ := I.cell x c (hcl x c e)
  exact ⟨v, z.keeps hk⟩
 ·show (σc own fr σ).length = N.length
  unfold σc σf
  have h1 := congrArg List.length S.names
  have h2 : (fr.filterMap fun i => X.N[i]?).length = fr.length := by
   have : ∀ (l : List Nat), (∀ i ∈ l, i < X.N.length) -> (l.filterMap fun i => X.N[i]?).length = l.length := by
    intro l
    induction l with
    | nil => intro _; rfl
    | cons i r ih =>
     intro h
     rw [List.filterMap_cons, List.getElem?_eq_getElem (h i List.mem_cons_self)]
     simp [ih fun k hk => h k (List.mem_cons_of_mem _ hk)]
   exact this fr S.frl
  rw [List.length_drop, h2] at h1
  rw [List.length_append, List.length_replicate, List.length_map]
  have := S.len
  omega
end
section
variable {prog : Program} {w : World} {A : Around} {R : Result -> Shared -> Prop} {s : Shared}
theorem compLoop_any {elt target iter : Expr} {ifs : List Expr} {scope : Scope} {pos : Pos} {it acc : Value} {env : Env} (I : Nat -> Shared -> Prop)
  (turn : ∀ n s, I n s -> wpAny (model prog w) A (pyNext it) (fun r s₁ => match r with
   | none => R (.ok .next) s₁
   | some v => wpAny (model prog w) A (letOwnedTupleGo target it v) (fun _ s' => wpAny (model prog w) A (assign target env v) (fun _ s₂ =>
     wpAny (model prog w) A (forIn ifs true fun c r => if r = true then do let ok <- isTrue c env (eval c env); pure (ForInStep.yield ok) else pure (ForInStep.yield r)) (fun ok s₃ =>
      if ok = true then wpAny (model prog w) A (eval elt env) (fun x s₄ =>
       wpAny (model prog w) A (call (.builtin "list.append") [acc, x]) (fun _ s₅ => ∃ m, m < n /\ I m s₅) (fun _ _ => False) s₄) (fun _ _ => False) s₃
      else ∃ m, m < n /\ I m s₃) (fun _ _ => False) s₂) (fun _ _ => False) s') (fun _ _ => False) s₁) (fun _ _ => False) s)
  (n : Nat) (h : I n s) : codeAny (model prog w) A (.compLoop (.ListComp elt [⟨target, iter, ifs, 0⟩] scope pos) 0 it acc env) R s := by
 refine codeAny_loop rfl I (fun n s hI => ?_) n h
 show wpAny _ A ((compTurn (.ListComp elt [⟨target, iter, ifs, 0⟩] scope pos) 0 it acc env).onRaise (fun x => do noteFrame x env; theTreesLotGoes x)) _ _ s
 refine wpAny_noted ?_
 rw [compTurn_list]
 refine wpAny_bind (wpAny_standAt (wpAny_bind (wpAny_mono (turn n s hI) (fun r s₁ h₁ => ?_) fun _ _ z => False.elim z)))
 cases r with
 | none => exact wpAny_pure h₁
 | some v =>
  refine wpAny_bind (wpAny_mono h₁ (fun _ s' h' => ?_) fun _ _ z => False.elim z)
  refine wpAny_bind (wpAny_mono h' (fun _ s₂ h₂ => wpAny_bind (wpAny_mono h₂ (fun ok s₃ h₃ => ?_) fun _ _ z => False.elim z)) fun _ _ z => False.elim z)
  cases ok with
  | false => exact wpAny_pure ⟨rfl, h₃⟩
  | true =>
   exact wpAny_bind (wpAny_bind (wpAny_mono h₃ (fun x s₄ h₄ => wpAny_bind (wpAny_mono h₄ (fun _ s₅ h₅ => wpAny_pure (wpAny_pure ⟨rfl, h₅⟩)) fun _ _ z => False.elim z)) fun _ _ z => False.elim z))
end
def CompW (J : It) (a : Addr) (own : Nat) (fr : List Nat) (g : TG) (tf : TT) (te : TE) (σ : St) (H1 : Hp) (Q : VK) : Prop :=
 ∃ (n : Nat) (Pv : Nat -> List V -> Hp -> Prop), Pv 0 [] (upd H1 a (.lst [])) /\ ∀ i ys H2, i <= n -> H2 a = some (.lst ys) -> Pv i ys H2 ->
  (J.stop i H2 /\ Q (.ref a) H2) \/ (i < n /\ J.go i H2 /\ ∀ x H3, J.yld i H2 x H3 -> g x (σc own fr σ) H3 fun σ4 H4 => (∃ ow, ow.length = own /\ σ4 = ow ++ σf fr σ) /\ tf σ4 H4 fun b H5 =>
   if b = true then te σ4 H5 fun y H6 => H6 a = some (.lst ys) /\ ys.length < sizeLine /\ Pv (i + 1) (ys ++ [y]) (upd H6 a (.lst (ys ++ [y])))
   else H5 a = some (.lst ys) /\ Pv (i + 1) ys H5)
def PFs (X : Cx) (ifs : List Expr) (t : TT) : Prop :=
 ∀ (pins : List (Addr × Obj)) (s : Shared) (σ : St) (H : Hp) (Q : Bool -> Hp -> Prop), Inv X pins σ H s -> t σ H Q ->
  wpAny (model X.prog X.w) X.A (forIn ifs true fun c r => if r = true then do let ok <- isTrue c X.env (eval c X.env); pure (ForInStep.yield ok) else pure (ForInStep.yield r)) (TP X pins σ Q) X.xe s
def tNoIf : TT := fun _ H Q => Q true H
theorem pf_nil {X : Cx} : PFs X [] tNoIf := fun pins s σ H Q I h => wpAny_tests_nil ⟨H, I, h⟩
theorem pf_one {X : Cx} {c : Expr} {t : TT} (h : PT X c t) : PFs X [c] t := fun pins s σ H Q I hw => wpAny_tests_one (h pins s σ H Q I hw)
section
variable {X : Cx} {pins : List (Addr × Obj)} {σ : St} {H : Hp} {s : Shared} {N : List Str} {own : Nat} {fr : List Nat} {scope : Scope} {cl : List (Str × Addr)} {elt tg iter : Expr} {ifs : List Expr} {pos : Pos}
 {it : Addr} {fp : List Addr} {tn : Nat -> Heap -> Prop} {J : It} {g : TG} {tf : TT} {te : TE} {Q : VK} {E : Value -> Shared -> Prop}
theorem comp_block {RR : Value -> Addr -> Result -> Shared -> Prop} (hc : X.calm = true) (S : CompScope X.env.scope X.N N own fr scope) (hcl : ∀ x c, cl.lookup x = some c -> X.env.cells.lookup x = some c)
  (hcf : ∀ y ∈ scope.names, y.2 = .free -> ∃ c, cl.lookup y.1 = some c)
  (hg : ∀ C s H, PG (cxComp X N scope cl C fp s H) tg g) (hf : ∀ C s H, PFs (cxComp X N scope cl C fp s H) ifs tf) (he : ∀ C s H, PE (cxComp X N scope cl C fp s H) elt te)
  (I : Inv X pins σ H s) (T : Turn X.prog X.w X.K tg J fp it tn) (st : tn 0 s.heap) (hfp : ∀ b ∈ fp, FpOk X pins H b) (hw : ∀ a, H a = none -> CompW J a own fr g tf te σ H Q)
  (hRR : ∀ a C s' H', Inv X pins σ H' s' -> Q (.ref a) H' -> FpOk X pins H' C -> (∃ m, s'.heap.Ns C m) -> RR (.ref a) C (.ok .next) s') :
  wpAny (model X.prog X.w) X.A (newList []) (fun acc s₃ => wpAny (model X.prog X.w) X.A (newFunctionEnv scope X.env.globals cl [] X.env.qual none .none (some X.env)) (fun cenv s₄ =>
   codeAny (model X.prog X.w) X.A (.compStart (.ListComp elt [⟨tg, iter, ifs, 0⟩] scope pos) 0 (.ref it) acc { cenv with scope := relabel scope X.env }) (RR acc cenv.locals) s₄) E s₃) E s := by
 refine wpAny_newObj_type (wpAny_newFunctionEnv S.nocell (by intro y hy; simp at hy) (fun h₁ hns₁ hsb₁ => ?_) S.kind)
 dsimp only at hns₁ hsb₁ ⊢
 have I3 : Inv X pins σ (upd H s.heap.objs.size (.lst [])) { s with heap := s.heap.push { cls := .type "list", dict := none, data := .seq ([] : List Value).toArray } } := I.lnew (ys := []) (t' := s.toks) .nil (Nat.zero_le _)
 have hfo : ∀ b ∈ fp, ∃ o, s.heap.get? b = some o := fun b hb => let ⟨o, ho, _⟩ := T.obj _ _ st b hb; ⟨o, ho⟩
 have hlt : ∀ b ∈ fp, b < s.heap.objs.size := fun b hb => let ⟨o, ho⟩ := hfo b hb; Heap.lt_size ho
 have fp3 : ∀ b ∈ fp, FpOk X pins (upd H s.heap.objs.size (.lst [])) b := fun b hb => ⟨by rw [upd_ne (Nat.ne_of_lt (hlt b hb))]; exact (hfp b hb).1, (hfp b hb).2⟩
 obtain ⟨n0, W, w0, turn⟩ := hw s.heap.objs.size I.fresh
 generalize hs3 : ({ s with heap := s.heap.push { cls := .type "list", dict := none, data := .seq ([] : List Value).toArray } } : Shared) = s3 at I3
 have eh : s3.heap = s.heap.push { cls := .type "list", dict := none, data := .seq ([] : List Value).toArray } := by rw [<- hs3]
 rw [<- eh] at hns₁ hsb₁ ⊢
 have hk : ∀ b o, s3.heap.get? b = some o -> h₁.get? b = some o := fun b o e => hsb₁.extBut b o (Nat.ne_of_lt (Heap.lt_size e)) (Heap.get?_push_of_some _ e)
 have hk0 : ∀ b o, s.heap.get? b = some o -> s3.heap.get? b = some o := fun b o e => by rw [eh]; exact Heap.get?_push_of_some _ e
 have J0 : Inv (cxComp X N scope cl s3.heap.objs.size fp s3 (upd H s.heap.objs.size (.lst []))) [] (σc own fr σ) (upd H s.heap.objs.size (.lst [])) { s3 with heap := h₁ } :=
  inv_comp I3 S hcl hcf fp3 (fun b hb => let ⟨o, ho⟩ := hfo b hb; ⟨o, hk0 b o ho⟩) hns₁ hk
 have st0 : tn 0 h₁ := T.keep _ _ _ st fun b _ o e => hk b o (hk0 b o e)
 have stat : ∀ {H' : Hp}, (∀ b ∈ fp, H' b = none) -> ∀ b ∈ fp, FpOk (cxComp X N scope cl s3.heap.objs.size fp s3 (upd H s.heap.objs.size (.lst []))) [] H' b := fun hn b hb =>
  ⟨hn b hb, (J0.ok.exf b hb).1, J0.ok.exfs b hb, .inl hb, (J0.ok.exf b hb).2, fun p hp => absurd (show p ∈ ([] : List (Addr × Obj)) from hp) (by simp)⟩
 have loop : ∀ s4 : Shared, s4 = { s3 with heap := h₁ } -> codeAny (model X.prog X.w) X.A (.compLoop (.ListComp elt [⟨tg, iter, ifs, 0⟩] scope pos) 0 (.ref it) (.ref s.heap.objs.size) (compEnvC scope cl s3.heap.objs.size X.env))
   (RR (.ref s.heap.objs.size) s3.heap.objs.size) s4 := by
  rintro s4 rfl
  refine compLoop_any (fun n s' => ∃ i ow H' ys, Inv (cxComp X N scope cl s3.heap.objs.size fp s3 (upd H s.heap.objs.size (.lst []))) [] (ow ++ σf fr σ) H' s' /\ ow.length = own /\ tn i s'.heap /\ (∀ b ∈ fp, H' b = none) /\ H' s.heap.objs.size = some (.lst ys) /\ (n = n0 - i /\ i <= n0) /\ W i ys H') ?_ n0
   ⟨0, List.replicate own none, _, [], J0, by simp, st0, fun b hb => (fp3 b hb).1, upd_same, ⟨rfl, Nat.zero_le _⟩, w0⟩
  rintro n s5 ⟨i, ow, H5, ys, I5, hlo, st5, fr5, ha5, ⟨rfl, hi5⟩, w5⟩
  rcases turn i ys H5 hi5 ha5 w5 with ⟨stop, qn⟩ | ⟨hin, go, step⟩
  ·refine thn (T.done (cxComp X N scope cl s3.heap.objs.size fp s3 (upd H s.heap.objs.size (.lst []))) rfl rfl rfl hc i [] s5 _ H5 (fun _ _ => False) I5 (stat fr5) st5 stop) fun r s6 ⟨hr, I6⟩ => ?_
   subst hr
   have IX : Inv X pins σ H5 s6 := I3.call' I6.os I6.base I6.hok I6.bare fun b hb => let ⟨_, f2, _, f4, f5, f6⟩ := fp3 b hb; ⟨f4, f2, f5, f6⟩
   refine hRR _ _ s6 H5 IX qn (I3.fpOk (Nat.le_refl _) I6.free) ?_
   obtain ⟨m, hn, _⟩ := I6.loc
   exact ⟨m, hn⟩
  ·refine thn (T.item (cxComp X N scope cl s3.heap.objs.size fp s3 (upd H s.heap.objs.size (.lst []))) rfl rfl rfl hc i [] s5 _ H5 (fun _ _ => False) I5 (stat fr5) st5 go) fun r s6 ⟨u, hr, h6⟩ => ?_
   subst hr
   refine thn h6 fun _ s7 ⟨x, H7, I7, r7, y7, st7, fr7⟩ => ?_
   have I7' := (I7.pinned (stat fr7) (T.obj _ _ st7)).weak (σ' := σc own fr σ) (by unfold σc; simp [hlo]) (fun j v e => by
    unfold σc at e
    rcases Nat.lt_or_ge j own with z | z
    ·rw [List.getElem?_append_left (by simpa using z), List.getElem?_replicate] at e
     split at e <;> cases e
    ·rw [List.getElem?_append_right (by simpa using z)] at e
     rw [List.getElem?_append_right (by rw [hlo]; exact z), hlo]
     simpa using e)
   refine thn (hg _ _ _ _ s7 _ H7 x u _ I7' r7 (step x H7 y7)) fun _ s8 ⟨σ8, H8, I8, ⟨ow8, hl8, e8⟩, q8⟩ => ?_
   refine thn (hf _ _ _ _ s8 _ H8 _ I8 q8) fun ok s9 ⟨H9, I9, q9⟩ => ?_
   have again : ∀ {H' : Hp} {s' : Shared}, Inv (cxComp X N scope cl s3.heap.objs.size fp s3 (upd H s.heap.objs.size (.lst []))) ([] ++ pinsAt fp s7.heap) σ8 H' s' -> ∀ {ys' : List V}, H' s.heap.objs.size = some (.lst ys') -> W (i + 1) ys' H' ->
     ∃ m, m < n0 - i /\ ∃ i ow H' ys, Inv (cxComp X N scope cl s3.heap.objs.size fp s3 (upd H s.heap.objs.size (.lst []))) [] (ow ++ σf fr σ) H' s' /\ ow.length = own /\ tn i s'.heap /\ (∀ b ∈ fp, H' b = none) /\ H' s.heap.objs.size = some (.lst ys) /\ (m = n0 - i /\ i <= n0) /\ W i ys H' := fun {H' s'} I' {ys'} ha hw' => by
    refine ⟨n0 - (i + 1), by omega, i + 1, ow8, H', ys', e8 ▸ I'.unpinned, hl8, T.keep _ _ _ st7 fun b hb o e => (I'.pin (b, o) (List.mem_append_right _ (List.mem_append_right _ (mem_pinsAt hb e)))).1, fun b hb => ?_, ha, ⟨rfl, hin⟩, hw'⟩
    obtain ⟨o, e, _⟩ := T.obj _ _ st7 b hb
    exact (I'.pin (b, o) (List.mem_append_right _ (List.mem_append_right _ (mem_pinsAt hb e)))).2.1
   cases ok with
   | false =>
    have q9' : H9 s.heap.objs.size = some (.lst ys) /\ W (i + 1) ys H9 := by simpa using q9
    obtain ⟨ha, hw'⟩ := q9'
    show if false = true then _ else _
    rw [if_neg (by decide)]
    exact again I9 ha hw'
   | true =>
    rw [if_pos rfl] at q9
    show if true = true then _ else _
    rw [if_pos rfl]
    refine thn (he _ _ _ _ s9 _ H9 _ I9 q9) fun y s10 ⟨v10, H10, I10, r10, ha10, hz10, hw'⟩ => ?_
    refine thn (mt_append _ s10 _ H10 (.ref s.heap.objs.size) [v10] (.ref s.heap.objs.size) [y] (fun _ H' => H' = upd H10 s.heap.objs.size (.lst (ys ++ [v10]))) I10 rfl (.cons r10 .nil) ⟨_, ys, v10, rfl, rfl, ha10, hz10, rfl⟩) fun _ s11 ⟨_, H11, I11, _, e11⟩ => ?_
    subst e11
    exact again I11 upd_same hw'
 exact codeAny_compStart_list (loop _ (by rw [<- hs3]; rfl)) (T.self X.A 0 _ _ _ st0 (loop _ (by rw [<- hs3]; rfl)))
end
def tComp (own : Nat) (fr : List Nat) (wi : TI) (g : TG) (tf : TT) (te : TE) : TE := fun σ H Q => wi σ H fun J H1 => ∀ a, H1 a = none -> CompW J a own fr g tf te σ H1 Q
section
variable {X : Cx} {sc : Scope} {XN N : List Str} {own : Nat} {fr : List Nat} {scope : Scope} {elt tg iter : Expr} {ifs : List Expr} {pos : Pos} {wi : TI} {g : TG} {tf : TT} {te : TE}
theorem pe_comp (hc : X.calm = true) (S : CompScope sc XN N own fr scope) (hi : PI X tg iter wi)
  (hg : ∀ cl C fp s H, PG (cxComp X N scope cl C fp s H) tg g) (hf : ∀ cl C fp s H, PFs (cxComp X N scope cl C fp s H) ifs tf) (he : ∀ cl C fp s H, PE (cxComp X N scope cl C fp s H) elt te)
  (hs : ∀ x, foldedSetIterable iter X.env x = pure x := by intro _; rfl) (hsc : X.env.scope = sc := by rfl) (hxn : X.N = XN := by rfl) : PE X (.ListComp elt [⟨tg, iter, ifs, 0⟩] scope pos) (tComp own fr wi g tf te) := by
 subst hsc hxn
 intro pins s σ H Q I h
 obtain ⟨cl, c1, c2, c3⟩ := closure_ok (scope := scope) (env := X.env) fun y hy e => I.ok.has y.1 (S.free y hy e)
 rw [eval_ListComp]
 refine wpAny_comprehension_free (use := none) rfl hs c1 S.kind S.loc (thn (hi pins s σ H _ I h) fun xv s1 h1 => thn h1 fun itv s2 h2 => ?_)
 obtain ⟨it, fp, tn, J, H2, e, I2, T, st2, f2, hw⟩ := h2
 subst e
 refine comp_block hc S c2 c3 (fun C s H => hg cl C fp s H) (fun C s H => hf cl C fp s H) (fun C s H => he cl C fp s H) I2 T st2 f2 hw fun a C s' H' I' q fC ⟨m, hn⟩ => ?_
 refine ⟨m, hn, fun h' hs' => ?_⟩
 obtain ⟨f0, f1, _, f3, f4, f5⟩ := fC
 exact ⟨.ref a, H', I'.turned (t' := s'.toks) (fun b o hb e => hs'.extBut b o hb e) f0 f1 f3 f4 f5, rfl, q⟩
theorem ps_setc {i : Nat} {x : Str} {pos' spos : Pos} (hc : X.calm = true) (hN : X.N.Nodup) (hx : X.N[i]? = some x) (hl : Loc X.env.scope x) (S : CompScope sc XN N own fr scope) (hi : PI X tg iter wi)
  (hg : ∀ cl C fp s H, PG (cxComp X N scope cl C fp s H) tg g) (hf : ∀ cl C fp s H, PFs (cxComp X N scope cl C fp s H) ifs tf) (he : ∀ cl C fp s H, PE (cxComp X N scope cl C fp s H) elt te)
  (hsw : swapsWith (.ListComp elt [⟨tg, iter, ifs, 0⟩] scope pos) (some (.Name x pos')) spos.line X.env = pure true := by rfl)
  (hf' : X.fn x = true \/ X.env.scope.names.lookup x = some .local := by first | exact .inl rfl | exact .inr rfl | assumption)
  (hs : ∀ x, foldedSetIterable iter X.env x = pure x := by intro _; rfl) (hsc : X.env.scope = sc := by rfl) (hxn : X.N = XN := by rfl) : PS X (.Assign [.Name x pos'] (.ListComp elt [⟨tg, iter, ifs, 0⟩] scope pos) spos) (tAsg (tComp own fr wi g tf te) (gName i)) := by
 subst hsc hxn
 intro pins s σ H D I h
 obtain ⟨cl, c1, c2, c3⟩ := closure_ok (scope := scope) (env := X.env) fun y hy e => I.ok.has y.1 (S.free y hy e)
 rw [exec_Assign_Name_used _ _ _ _ hsw]
 refine wpAny_bind (wpAny_standAt (wpAny_bind ?_))
 show wpAny _ X.A (do let _ <- comprehension (.ListComp elt [⟨tg, iter, ifs, 0⟩] scope pos) scope X.env _ (newList []) false (eval iter X.env) (some (assign (.Name x pos') X.env))) _ _ s
 refine wpAny_bind (wpAny_mono (wpAny_comprehension_free (use := some (assign (.Name x pos') X.env)) (Q := fun _ s' => SP X pins D .next s') rfl hs c1 S.kind S.loc
  (thn (hi pins s σ H _ I h) fun xv s1 h1 => thn h1 fun itv s2 h2 => ?_)) (fun _ s' hq => wpAny_pure (wpAny_pure hq)) fun _ _ e => e)
 obtain ⟨it, fp, tn, J, H2, e, I2, T, st2, f2, hw⟩ := h2
 subst e
 refine comp_block hc S c2 c3 (fun C s H => hg cl C fp s H) (fun C s H => hf cl C fp s H) (fun C s H => he cl C fp s H) I2 T st2 f2 hw fun a C s' H' I' q fC ⟨m, hn⟩ => ?_
 obtain ⟨f0, f1, f2', f3, f4, f5⟩ := fC
 show wpAny _ _ (assign (.Name x pos') X.env (.ref a)) _ _ _
 refine wpAny_assign_Name (store_ok2 I' hN hx hl (show RelV (.ref a) (.ref a) from rfl) (fun s2 J2 ⟨b, hb, hb'⟩ => ?_) hf')
 have hbC : C ≠ b := by
  rcases hb' with z | z
  ·rw [z]; exact f1
  ·exact fun e => f4 _ _ z e.symm
 refine ⟨m, hn.sameBut hb hbC, fun h' hs' => ?_⟩
 exact ⟨_, H', J2.turned (t' := s2.toks) (fun b o hb e => hs'.extBut b o hb e) f0 f1 f3 f4 f5, q⟩
end
end L2
namespace L2
open PySem PySem.Spec PyProof.Rows
section
variable {X : Cx}
theorem call_sumL (hc : X.calm = true) : CallR X (.builtin "sum") (fun xs H Q => ∃ (p : Addr) (ns : List Int), xs = [.ref p] /\ SqL X.K H p (ns.map V.int) /\ Q (.int ns.sum) H) := by
 intro pins s σ H xs us Q I r h
 obtain ⟨p, ns, rfl, hq, q⟩ := h
 obtain ⟨u, rfl, rx⟩ := vals1 r
 cases rx
 obtain ⟨its, rv, pl, hz⟩ := I.list hq
 have hi : IntsAre its ns := intsAre_of rv
 have hall := hi.allInts
 have e0 := hi.numsOf
 obtain ⟨xs, ex⟩ := hall.items
 have e1 : numsOf (intItems xs).toList = ns := by rw [<- ex]; exact e0
 rw [nums_intItems] at e1
 have hl := pl.isList
 rw [ex] at hl
 refine sum_intListG (I.ok.hd hc) hl fun h' tk t' hk => ⟨.int ns.sum, H, I.kept hk, ⟨t', ?_⟩, q⟩
 rw [preSum_eq, List.take_of_length_le (by simp), e1]
theorem truth_bools {prog : Program} {w : World} {A : Around} {bs : List Bool} {its : List Value} (rv : Vals (bs.map V.bl) its) : TruthOf prog w A (fun i v => its.toArray[i]? = some v) fun i => bs.getD i false := by
 intro i v s Q E hP hQ
 have hi : its[i]? = some v := by simpa using hP
 have hl := rv.length
 rw [List.length_map] at hl
 have hlt : i < bs.length := by rw [hl]; exact (List.getElem?_eq_some_iff.mp hi).1
 obtain ⟨u, hu, ru⟩ := rv.get (i := i) (x := V.bl (bs.getD i false)) (by rw [List.getElem?_map, List.getD_eq_getElem?_getD, List.getElem?_eq_getElem hlt]; rfl)
 rw [hi] at hu
 cases hu
 cases ru
 exact wpAny_truthy_bool hQ
theorem range_any (bs : List Bool) : (List.range bs.length).any (fun i => bs.getD i false) = bs.any id := by
 induction bs with
 | nil => rfl
 | cons b r ih =>
  rw [List.length_cons, List.range_succ_eq_map, List.any_cons, List.any_cons, List.any_map]
  rw [<- ih]
  rfl
theorem call_anyL (hc : X.calm = true) : CallR X (.builtin "any") (fun xs H Q => ∃ (p : Addr) (bs : List Bool), xs = [.ref p] /\ SqL X.K H p (bs.map V.bl) /\ Q (.bl (bs.any id)) H) := by
 intro pins s σ H xs us Q I r h
 obtain ⟨p, bs, rfl, hq, q⟩ := h
 obtain ⟨u, rfl, rx⟩ := vals1 r
 cases rx
 obtain ⟨its, rv, pl, hz⟩ := I.list hq
 have hlt : p < s.heap.objs.size := by obtain ⟨_, e, _⟩ := pl.isList; exact Heap.lt_size e
 have hll := rv.length
 rw [List.length_map] at hll
 refine call_any_walk (wpAny_pyIter_list pl.isList ?_)
 refine ⟨s.heap.objs.size, _, _, _, _, _, fun i => bs.getD i false, rfl, Walks.list (A := X.A.in1) (I.ok.hd hc) _ p (Nat.ne_of_lt hlt) its.toArray, ⟨⟨_, Heap.get?_push_size _ rfl, rfl, rfl⟩, pl.isList.at fun o e => Heap.get?_push_of_some _ e⟩, truth_bools rv, fun h' tk hk => ?_⟩
 refine ⟨.bl (bs.any id), H, I.kept fun b o e => hk b o (by simpa using Nat.ne_of_lt (Heap.lt_size e)) (Heap.get?_push_of_some _ e), ?_, q⟩
 show Value.bool _ = Value.bool _
 rw [List.size_toArray, <- hll, range_any]
def eqVs : List V -> List V -> Bool
 | [], [] => true
 | x :: xs, y :: ys => eqV x y && eqVs xs ys
 | _, _ => false
theorem eqVs_len : ∀ {xs ys : List V}, xs.length ≠ ys.length -> eqVs xs ys = false
 | [], [], h => absurd rfl h
 | [], _ :: _, _ => rfl
 | _ :: _, [], _ => rfl
 | x :: xs, y :: ys, h => by
  have := eqVs_len (xs := xs) (ys := ys) (fun e => h (by simp [e]))
  simp [eqVs, this]
theorem eqVs_range : ∀ {xs ys : List V}, xs.length = ys.length -> (List.range xs.length).all (fun i => eqV (xs.getD i .non) (ys.getD i .non)) = eqVs xs ys
 | [], [], _ => rfl
 | [], _ :: _, h => by simp at h
 | _ :: _, [], h => by simp at h
 | x :: xs, y :: ys, h => by
  have ih := eqVs_range (xs := xs) (ys := ys) (by simpa using h)
  rw [List.length_cons, List.range_succ_eq_map, List.all_cons, List.all_map]
  show (eqV x y && (List.range xs.length).all fun i => eqV (xs.getD i .non) (ys.getD i .non)) = (eqV x y && eqVs xs ys)
  rw [ih]
theorem vals_at {A : Around} {s : Shared} {xs ys : List V} {us ws : List Value} (r : Vals xs us) (r' : Vals ys ws) (fx : xs.all flatV = true) (fy : ys.all flatV = true) (j : Nat) (h1 : j < us.toArray.size) (h2 : j < ws.toArray.size) :
  SeqAt.EqAt A s us.toArray[j] ws.toArray[j] (eqV (xs.getD j .non) (ys.getD j .non)) := by
 have l1 := r.length
 have l2 := r'.length
 have k1 : j < xs.length := by rw [l1]; simpa using h1
 have k2 : j < ys.length := by rw [l2]; simpa using h2
 obtain ⟨u, hu, ru⟩ := r.get (i := j) (x := xs.getD j .non) (by rw [List.getD_eq_getElem?_getD, List.getElem?_eq_getElem k1]; rfl)
 obtain ⟨w', hw, rw'⟩ := r'.get (i := j) (x := ys.getD j .non) (by rw [List.getD_eq_getElem?_getD, List.getElem?_eq_getElem k2]; rfl)
 have e1 : us.toArray[j] = u := by
  obtain ⟨_, e⟩ := List.getElem?_eq_some_iff.mp hu
  simpa using e
 have e2 : ws.toArray[j] = w' := by
  obtain ⟨_, e⟩ := List.getElem?_eq_some_iff.mp hw
  simpa using e
 rw [e1, e2]
 refine eqAt_V ru rw' (List.all_eq_true.mp fx _ ?_) (List.all_eq_true.mp fy _ ?_)
 ·rw [List.getD_eq_getElem?_getD, List.getElem?_eq_getElem k1]; exact List.getElem_mem k1
 ·rw [List.getD_eq_getElem?_getD, List.getElem?_eq_getElem k2]; exact List.getElem_mem k2
def rEqL (K : PySem.W.Frag) (neg : Bool) : R2 := fun x y H Q => ∃ p q xs ys, x = .ref p /\ y = .ref q /\ SqL K H p xs /\ SqL K H q ys /\ xs.all flatV = true /\ ys.all flatV = true /\ Q (.bl (if neg then !eqVs xs ys else eqVs xs ys)) H
theorem op_eqL (hu : X.A.units < cLine) : OpR X (compareOp .Eq) (rEqL X.K false) := by
 intro pins s σ H x y v u Q I rx ry h
 obtain ⟨p, q, xs, ys, rfl, rfl, hx, hy, fx, fy, k⟩ := h
 cases rx
 cases ry
 obtain ⟨us, r1, p1, z1⟩ := I.list hx
 obtain ⟨ws, r2, p2, z2⟩ := I.list hy
 by_cases hl : xs.length = ys.length
 ·refine SeqAt.eq_listAt p1.isList p2.isList (by simp [<- r1.length, <- r2.length, hl]) hu (fun j h1 h2 => vals_at r1 r2 fx fy j h1 h2) ⟨.bl (eqVs xs ys), H, I, ?_, k⟩
  show Value.bool _ = Value.bool _
  rw [List.size_toArray, <- r1.length, eqVs_range hl]
 ·refine SeqAt.eq_list_lengthsAt p1.isList p2.isList (by simp [<- r1.length, <- r2.length, hl]) hu ⟨.bl (eqVs xs ys), H, I, ?_, k⟩
  rw [eqVs_len hl]; rfl
theorem sliceRev (n : Nat) : sliceRange (sliceBounds none none (some (-1)) n).1 (sliceBounds none none (some (-1)) n).2.1 (sliceBounds none none (some (-1)) n).2.2 = (List.range n).map fun k => n - 1 - k := by
 have e : sliceBounds none none (some (-1)) n = ((n : Int) - 1, -1, -1) := by simp [sliceBounds]
 rw [e]
 unfold sliceRange
 simp only [show ¬ ((-1 : Int) > 0) by decide, if_false]
 by_cases hn : n = 0
 ·subst hn; simp
 ·have h1 : (n : Int) - 1 > -1 := by omega
  rw [if_pos h1]
  have h2 : (((n : Int) - 1 - -1 - -1 - 1) / (- -1)).toNat = n := by
   rw [show (n : Int) - 1 - -1 - -1 - 1 = n by omega, show (- -1 : Int) = 1 by decide, Int.ediv_one]
   exact Int.toNat_natCast n
  rw [h2]
  refine List.map_congr_left fun k hk => ?_
  have := List.mem_range.mp hk
  omega
theorem fm_congr {α β : Type} {f g : α -> Option β} : ∀ {l : List α}, (∀ x ∈ l, f x = g x) -> l.filterMap f = l.filterMap g
 | [], _ => rfl
 | x :: r, h => by rw [List.filterMap_cons, List.filterMap_cons, h x List.mem_cons_self, fm_congr fun y hy => h y (List.mem_cons_of_mem _ hy)]
theorem pick_rev' {α : Type} : ∀ zs : List α, (List.range zs.length).filterMap (fun k => zs.reverse[zs.length - 1 - k]?) = zs
 | [] => rfl
 | z :: r => by
  rw [List.length_cons, List.range_succ_eq_map, List.filterMap_cons, List.filterMap_map]
  have h0 : (z :: r).reverse[r.length + 1 - 1 - 0]? = some z := by simp
  rw [h0]
  have h1 : List.filterMap ((fun k => (z :: r).reverse[r.length + 1 - 1 - k]?) ∘ Nat.succ) (List.range r.length) = List.filterMap (fun k => r.reverse[r.length - 1 - k]?) (List.range r.length) := by
   apply fm_congr
   intro k hk
   have hk := List.mem_range.mp hk
   show (z :: r).reverse[r.length + 1 - 1 - (k + 1)]? = r.reverse[r.length - 1 - k]?
   rw [List.reverse_cons, List.getElem?_append_left (by simp; omega)]
   rw [show r.length + 1 - 1 - (k + 1) = r.length - 1 - k by omega]
  rw [h1, pick_rev' r]
theorem pick_rev {α : Type} (xs : List α) : ((List.range xs.length).map fun k => xs.length - 1 - k).filterMap (fun i => xs[i]?) = xs.reverse := by
 have := pick_rev' xs.reverse
 rw [List.length_reverse, List.reverse_reverse] at this
 rw [List.filterMap_map]
 exact this
theorem slicePick_rev (its : List Value) : slicePick its.toArray none none (some (-1)) = its.reverse.toArray := by
 unfold slicePick
 rw [List.size_toArray, sliceRev]
 congr 1
 have := pick_rev its
 simpa using this
def tRev (K : PySem.W.Frag) (te tst : TE) : TE := fun σ H Q => te σ H fun x H1 => tst σ H1 fun y H2 => y = .int (-1) /\ ∃ p xs, x = .ref p /\ SqL K H2 p xs /\ ∀ l, H2 l = none -> Q (.ref l) (upd H2 l (.lst xs.reverse))
theorem pe_rev {e st : Expr} {te tst : TE} {pos p2 : Pos} (he : PE X e te) (hst : PE X st tst) (ht : ∀ o r, letTemporaryGo e o r = pure () := by intro _ _; rfl) : PE X (.Subscript e (.Slice none none (some st) p2) pos) (tRev X.K te tst) := by
 intro pins s σ H Q I h
 refine wpAny_Subscript_Slice_step (T := "list") slot_list_getitem.lookup (thn (he pins s σ H _ I h) fun v s1 ⟨x, H1, I1, r1, q1⟩ => ?_) ht
 refine wpAny_Slice ?_
 rw [evalPart_none, evalPart_some]
 refine wpAny_pure (wpAny_pure (thn (hst pins s1 σ H1 _ I1 q1) fun vs s2 ⟨y, H2, I2, r2, q2⟩ => ?_))
 obtain ⟨rfl, p, xs, rfl, hx, q⟩ := q2
 obtain ⟨t, rfl⟩ := r2
 cases r1
 have I3 : Inv X pins σ H2 { s2 with heap := s2.heap.push { cls := .type "slice", data := .fields #[.none, .none, .int (-1) t] } } := I2.kept (t' := s2.toks) fun b ob q => Heap.get?_push_of_some _ q
 obtain ⟨its, rv, pl, hz⟩ := I3.list hx
 refine ⟨pl.isList.typeIs, ?_⟩
 refine wpAny_getItem_list_slice pl.isList (Heap.IsSliceOf.new ..) .none .none (.int (-1) t) (by decide) ?_ (by rw [List.size_toArray, <- rv.length]; exact hz)
 rw [slicePick_rev]
 refine ⟨.ref _, _, I3.laid (t' := s2.toks) (o := .lst xs.reverse) (fun b ob q => Heap.get?_push_of_some _ q) (Nat.le_refl _) ?_, rfl, q _ (I3.hok.fresh (Nat.le_refl _))⟩
 exact ⟨by rw [List.length_reverse]; exact hz, _, 0, rv.reverse, Heap.get?_push_size _ rfl⟩
def BigOk (j : Int) : Prop := j.natAbs < 2 ^ 1024
theorem BigOk.log {j : Int} (h : BigOk j) : j.natAbs.log2 < 9000 := by
 by_cases h0 : j.natAbs = 0
 ·rw [h0]; decide +kernel
 ·have : j.natAbs.log2 < 1024 := (Nat.log2_lt h0).mpr h
  omega
theorem op_mulB : OpR X (binaryOp .Mult) (rI (fun i j => BigOk i /\ BigOk j) fun i j => .int (i * j)) := opI fun i j _ _ _ _ _ hc q => by
 have bits : ∀ {x : Int}, BigOk x -> Builtin.Int.intBits x <= 2 ^ 20 := fun {x} h => by
  unfold Builtin.Int.intBits
  split
  ·exact Nat.zero_le _
  ·rename_i h0
   have h0' : x.natAbs ≠ 0 := fun z => h0 (by simpa using z)
   have : x.natAbs.log2 < 1024 := (Nat.log2_lt h0').mpr h
   omega
 exact mul_int q (.of_bits (bits hc.1) (bits hc.2))
theorem op_fdivL : OpR X (binaryOp .FloorDiv) (rI (fun _ j => 0 < j /\ BigOk j) fun i j => .int (i / j)) := opI fun i j _ _ _ _ _ hc q => by
 have h1 : (0 : Int) < j := hc.1
 exact floordiv_int (by omega) (by rw [Int.fdiv_eq_ediv_of_nonneg i (by omega)]; exact q) (.inl (PyProof.noPylong_of_log2 hc.2.log))
end
end L2
namespace L2
open PySem PySem.Spec PyProof.Rows
def isStar : Expr -> Bool
 | .Starred .. => true
 | _ => false
theorem star_cons {e : Expr} {rest : List Expr} {env : Env} (h : isStar e = false) : starEach (e :: rest) env = (false, eval e env) :: starEach rest env := by
 cases e <;> first | rfl | exact Bool.noConfusion h
theorem pa_c {X : Cx} {e : Expr} {es : List Expr} {te : TE} {t : TA} (ha : PE X e te) (hr : PA X es t) (h : isStar e = false := by rfl) : PA X (e :: es) (tCons te t) := pa_cons ha hr (star_cons h)
def Good (P : Program) (w : World) (K : PySem.W.Frag) (mg : Str -> Option Value) (base : Heap) (k : Nat) (x : Str) (ps : List Str) (sp : Sp) : Prop :=
 ∃ (f : Addr) (fd : FuncData), FnOk P w K mg base CX0 k f fd ps sp /\ Binds K fd ps [] /\ mg x = some (.ref f) /\ PySem.W.keepIn K (.ref f) = true
section
variable {X : Cx} {k : Nat} {x : Str} {ps : List Str} {sp : Sp} {e : Expr} {es : List Expr} {t : TA} {p pos : Pos}
theorem pe_fn (G : Good X.prog X.w X.K X.mg X.base k x ps sp) (hr : Room k X.A) (hg : Gl X x) (ha : PA X (e :: es) t) (hdb : (x == ("__debug__" : Str)) = false := by decide)
  (hst : isStar e = false := by rfl) (hpl : (backTo pos (starEach es X.env)).any (·.1) = false := by rfl) : PE X (.Call (.Name x p) (e :: es) [] pos) (tCall sp [] E0 t) := by
 obtain ⟨f, fd, F, b, m, kp⟩ := G
 exact pe_call F hr hg m kp b .nil pass0 ha hdb (star_cons hst) hpl
theorem pe_fn0 (G : Good X.prog X.w X.K X.mg X.base k x ps sp) (hr : Room k X.A) (hg : Gl X x) (hdb : (x == ("__debug__" : Str)) = false := by decide) : PE X (.Call (.Name x p) [] [] pos) (tCall sp [] E0 tNil) := by
 obtain ⟨f, fd, F, b, m, kp⟩ := G
 exact pe_call0 F hr hg m kp b .nil pass0 hdb
end
def Has (K : PySem.W.Frag) (mg : Str -> Option Value) (x : Str) (st : Stmt) : Prop := ∃ (f : Addr) (fd : FuncData), Fun K x x st f fd /\ mg x = some (.ref f)
theorem Has.good {P : Program} {w : World} {K : PySem.W.Frag} {mg : Str -> Option Value} {base : Heap} {x : Str} {st : Stmt} {N ps : List Str} {k : Nat} {sp : Sp} (h : Has K mg x st) (S : FnScope N ps (defScope st))
  (hb : ∀ (kV doc pm : Value) (an : Option Addr) (cdv ct : Value) (us : List Value), us.length = ps.length -> bindArgs (PySem.W.fnOf x x (defArgs st) (defBody st) (defScope st) .none kV doc pm an cdv ct) ⟨us, []⟩ = pure (ps.zip us))
  (len : ∀ vs H Q E, sp vs H Q E -> vs.length = ps.length)
  (hbody : ∀ (f : Addr) (cdv : Value) (A : Around) (outer : List Env) (s : Shared) (H : Hp) (vs : List V) (Q : VK) (E : XK), Room k (A.deeper (envOfC x (defScope st) s.heap.objs.size f cdv)) -> sp vs H Q E ->
   ∃ t, PSs (cxOf CX0 P w K mg base N x (defScope st) f cdv A outer s H E).nox (defBody st) t /\ t { nx := fun _ H' => Q .non H', rt := Q } (start N vs) H) : Good P w K mg base (k + 1) x ps sp := by
 obtain ⟨f, fd, F, m⟩ := h
 exact ⟨f, fd, F.ok S len fun cdv A outer s H vs Q E hr q => hbody f cdv A outer s H vs Q E hr q, F.binds hb, m, F.kp⟩
theorem has_mk {K : PySem.W.Frag} {h : Heap} {mg : Str -> Option Value} {x : Str} {st : Stmt} {f : Addr} {oc : Value} {od an : Option Addr} {osl : Array (Option Value)} {kV doc pm cdv ct : Value} (X : K.In h) (G : h.Ns mainGlobals mg)
  (a : PySem.W.nsIn K mainGlobals x = some (some (.ref f))) (l : K.lookup f = some ⟨oc, od, .func (PySem.W.fnOf x x (defArgs st) (defBody st) (defScope st) .none kV doc pm an cdv ct), osl⟩)
  (c : PySem.W.codeIn K cdv x = true) (k : PySem.W.keepIn K (.ref f) = true) : Has K mg x st := ⟨f, _, fun_mk l c k, PySem.W.mg_of X G a⟩
structure Own (mg : Str -> Option Value) : Prop where
 len : mg "len" = none
 range : mg "range" = none
 isinstance : mg "isinstance" = none
 int_ : mg "int" = none
 bool_ : mg "bool" = none
 str_ : mg "str" = none
 list_ : mg "list" = none
 tuple_ : mg "tuple" = none
 dict_ : mg "dict" = none
 sum : mg "sum" = none
 min : mg "min" = none
 max : mg "max" = none
 all : mg "all" = none
 any : mg "any" = none
 abs : mg "abs" = none
 zip : mg "zip" = none
 sorted : mg "sorted" = none
 set_ : mg "set" = none
 enumerate : mg "enumerate" = none
theorem own_mk {K : PySem.W.Frag} {h : Heap} {mg : Str -> Option Value} (X : K.In h) (G : h.Ns mainGlobals mg) (z1 : PySem.W.nsIn K mainGlobals "len" = some none) (z2 : PySem.W.nsIn K mainGlobals "range" = some none)
    (z3 : PySem.W.nsIn K mainGlobals "isinstance" = some none) (z4 : PySem.W.nsIn K mainGlobals "int" = some none) (z5 : PySem.W.nsIn K mainGlobals "bool" = some none) (z6 : PySem.W.nsIn K mainGlobals "str" = some none)
    (z7 : PySem.W.nsIn K mainGlobals "list" = some none) (z8 : PySem.W.nsIn K mainGlobals "tuple" = some none) (z9 : PySem.W.nsIn K mainGlobals "dict" = some none) (z10 : PySem.W.nsIn K mainGlobals "sum" = some none)
    (z11 : PySem.W.nsIn K mainGlobals "min" = some none) (z12 : PySem.W.nsIn K mainGlobals "max" = some none) (z13 : PySem.W.nsIn K mainGlobals "all" = some none) (z14 : PySem.W.nsIn K mainGlobals "any" = some none)
    (z15 : PySem.W.nsIn K mainGlobals "abs" = some none) (z16 : PySem.W.nsIn K mainGlobals "zip" = some none) (z17 : PySem.W.nsIn K mainGlobals "sorted" = some none) (z18 : PySem.W.nsIn K mainGlobals "set" = some none)
    (z19 : PySem.W.nsIn K mainGlobals "enumerate" = some none) : Own mg :=
  ⟨PySem.W.mg_none_of X G z1, PySem.W.mg_none_of X G z2, PySem.W.mg_none_of X G z3, PySem.W.mg_none_of X G z4, PySem.W.mg_none_of X G z5, PySem.W.mg_none_of X G z6, PySem.W.mg_none_of X G z7, PySem.W.mg_none_of X G z8, PySem.W.mg_none_of X G z9, PySem.W.mg_none_of X G z10,
   PySem.W.mg_none_of X G z11, PySem.W.mg_none_of X G z12, PySem.W.mg_none_of X G z13, PySem.W.mg_none_of X G z14, PySem.W.mg_none_of X G z15, PySem.W.mg_none_of X G z16, PySem.W.mg_none_of X G z17, PySem.W.mg_none_of X G z18, PySem.W.mg_none_of X G z19⟩
structure DeckAt (H : Hp) (p c : Addr) : Prop where
 ne : p ≠ c
 dk : ∃ S k : Int, H p = some (.lst [.ref c, .int S, .int k])
 cs : ∃ ns : List Int, H c = some (.lst (ns.map V.int)) /\ ns.length <= 64
structure On (p c : Addr) (H H' : Hp) : Prop where
 d : DeckAt H' p c
 e : ∀ b o, H b = some o -> b ≠ p -> b ≠ c -> H' b = some o
section
variable {p c a : Addr} {H H1 H2 : Hp} {o : HO}
theorem DeckAt.nep (d : DeckAt H p c) (h : H a = none) : a ≠ p := fun z => by
 obtain ⟨S, k, e⟩ := d.dk
 rw [z, e] at h; cases h
theorem DeckAt.nec (d : DeckAt H p c) (h : H a = none) : a ≠ c := fun z => by
 obtain ⟨ns, e, _⟩ := d.cs
 rw [z, e] at h; cases h
theorem DeckAt.alloc (d : DeckAt H p c) (h : H a = none) : DeckAt (upd H a o) p c := by
 obtain ⟨S, k, e⟩ := d.dk
 obtain ⟨ns, e', l⟩ := d.cs
 exact ⟨d.ne, ⟨S, k, by rw [upd_ne (d.nep h).symm]; exact e⟩, ns, by rw [upd_ne (d.nec h).symm]; exact e', l⟩
theorem On.trans (x : On p c H H1) (y : On p c H1 H2) : On p c H H2 := ⟨y.d, fun b o h hp hc => y.e b o (x.e b o h hp hc) hp hc⟩
theorem On.alloc (x : On p c H H1) (h : H1 a = none) : On p c H (upd H1 a o) :=
 ⟨x.d.alloc h, fun b u q hp hc => by rw [upd_ne (ne_of_none (x.e b u q hp hc) h)]; exact x.e b u q hp hc⟩
end
def spMixed : Sp := fun vs H Q _ => ∃ n k : Int, vs = [.int n, .int k] /\ ∀ r : Int, Q (.int r) H
def spDeck (K : PySem.W.Frag) : Sp := fun vs H Q _ => ∃ (a : Addr) (ns : List Int), vs = [.ref a] /\ SqL K H a (ns.map V.int) /\ ∀ (p c : Addr) (H' : Hp), H p = none -> H c = none -> DeckAt H' p c -> Same H H' -> Q (.ref p) H'
def spTake : Sp := fun vs H Q _ => ∃ (p c : Addr) (m : Int), vs = [.ref p, .int m] /\ DeckAt H p c /\ 0 < m /\ BigOk m /\ ∀ (r : Int) (H' : Hp), 0 <= r -> r < m -> On p c H H' -> Q (.int r) H'
end L2
namespace L2
open PySem PySem.Spec PyProof.Rows
theorem ObjOk.there {P : Program} {w : World} {H : Hp} {h : Heap} {a : Addr} {o : HO} (x : ObjOk P w H h a o) : ∃ ob, h.get? a = some ob := by
 cases o with
 | lst xs => obtain ⟨_, _, _, _, e⟩ := x; exact ⟨_, e⟩
 | tup xs => obtain ⟨_, _, _, ob, e, _⟩ := x; exact ⟨_, e⟩
 | dK kvs => obtain ⟨_, _, _, _, o, _, _, e, _⟩ := x; exact ⟨_, e⟩
 | dT kvs => obtain ⟨_, _, _, _, o, _, _, e, _⟩ := x; exact ⟨_, e⟩
 | set S n => obtain ⟨o, _, _, _, e, _⟩ := x; exact ⟨_, e⟩
 | ins C dx fs => obtain ⟨_, _, _, e, _⟩ := x; exact ⟨_, e⟩
 | own y => obtain ⟨_, e⟩ := x; exact ⟨_, e⟩
 | xd fs => obtain ⟨_, ⟨_, _, _, e, _⟩, _⟩ := x; exact ⟨_, e⟩
 | rng lo hi => obtain ⟨_, _, _, e⟩ := x; exact ⟨_, e⟩
 | frz ob u => obtain ⟨e, _⟩ := x; exact ⟨_, e⟩
 | tbl ps => exact ⟨_, (show h.get? a = some _ from x)⟩
 | met f y => exact ⟨_, (show h.get? a = some _ from x)⟩
 | ext φ => obtain ⟨_, ⟨_, e⟩, _⟩ := x; exact ⟨_, e⟩
end L2
namespace L2
open PySem PySem.Spec PyProof.Rows
section
variable {X : Cx}
theorem same_new {H : Hp} {a : Addr} {o : HO} (h : H a = none) : Same H (upd H a o) := fun b u q => by rw [upd_ne (ne_of_none q h)]; exact q
def rCatG (K : PySem.W.Frag) : R2 := fun x y H Q => ∃ a b xs ys, x = .ref a /\ y = .ref b /\ SqT K H a xs /\ SqT K H b ys /\ xs.length + ys.length <= sizeLine /\ ∀ r H', SqT K H' r (xs ++ ys) -> Same H H' -> Q (.ref r) H'
theorem op_catG : OpR X (binaryOp .Add) (rCatG X.K) := by
 intro pins s σ H x y v u Q I rx ry h
 obtain ⟨a, b, xs, ys, rfl, rfl, ha, hb, hz, q⟩ := h
 by_cases hx : xs = []
 ·subst hx
  cases rx
  cases ry
  obtain ⟨its, r1, p1, _⟩ := I.tuple ha
  obtain ⟨its2, r2, p2, _⟩ := I.tuple hb
  obtain ⟨⟨cls, dd, data, sl⟩, ho, hc, n, hd⟩ := id p1
  obtain ⟨⟨cls2, dd2, data2, sl2⟩, ho2, hc2, n2, hd2⟩ := id p2
  simp only at hc hd hc2 hd2
  subst hc hd hc2 hd2
  have e1 : its = [] := r1.nil_iff.mpr rfl
  exact concat_meets ⟨_, ho, rfl⟩ ⟨_, ho2, rfl⟩ noFill_tuple_add seq_tuple_add PySem.F.slot_tuple_add PySem.F.entry_tuple_add (PySem.F.args_tuple_add_2 _ _)
   (tuple_addW0 a b its.toArray its2.toArray n n2 dd dd2 sl sl2 (by simp [e1])) ⟨ho, ho2, ⟨.ref b, H, I, rfl, q b H hb (Same.refl H)⟩⟩
 ·refine op_catT pins s σ H (.ref a) (.ref b) v u Q I rx ry ⟨a, b, xs, ys, rfl, rfl, ha, hb, hx, hz, fun e => q a H (by rw [e, List.append_nil]; exact ha) (Same.refl H), fun _ p hp => q p _ (SqT.of upd_same) (same_new hp)⟩
structure QA (X : Cx) (es : List Expr) (t : TA) : Prop where
 p : PA X es t
theorem qa_nil : QA X [] tNil := ⟨pa_nil⟩
theorem qa_c {e : Expr} {es : List Expr} {te : TE} {t : TA} (ha : PE X e te) (hr : QA X es t) (h : isStar e = false := by rfl) : QA X (e :: es) (tCons te t) := ⟨pa_c ha hr.p h⟩
theorem pe_lstQ {es : List Expr} {t : TA} {pos : Pos} (h : QA X es t) : PE X (.List es pos) (tLst t) := pe_lst h.p
end
end L2
namespace L2
open PySem PySem.Spec PyProof.Rows
section
variable {X : Cx}
theorem call_min1 (hc : X.calm = true) : CallR X (.builtin "min") (fun xs H Q => ∃ (p : Addr) (ns : List Int), xs = [.ref p] /\ SqL X.K H p (ns.map V.int) /\ 0 < ns.length /\ ∀ M, M ∈ ns -> (∀ a ∈ ns, M <= a) -> Q (.int M) H) := by
 intro pins s σ H xs us Q I r h
 obtain ⟨p, ns, rfl, hq, hn, q⟩ := h
 obtain ⟨u, rfl, rx⟩ := vals1 r
 cases rx
 obtain ⟨its, rv, pl, hz⟩ := I.list hq
 have hi : IntsAre its ns := intsAre_of rv
 obtain ⟨zs, ez⟩ := hi.allInts.items
 have en : ns = zs.toList.map (·.1) := by rw [<- hi.numsOf, <- nums_intItems, <- ez]
 have hz0 : 0 < zs.size := by rw [en, List.length_map, Array.length_toList] at hn; exact hn
 have hl := pl.isList
 rw [ez] at hl
 refine min_intList (I.ok.hd hc) hl hz0 fun v h' tk hv hk => ?_
 obtain ⟨t, rfl⟩ := intItems_at hv
 obtain ⟨h1, h2⟩ := argBest_lt (numAt zs) (zs.size - 1)
 refine ⟨.int _, H, I.kept hk, ⟨t, rfl⟩, q _ ?_ fun a ha => ?_⟩
 ·rw [en, numAt_eq]
  exact getD_mem (by rw [List.length_map, Array.length_toList]; omega)
 ·rw [en] at ha
  obtain ⟨j, hj, rfl⟩ := mem_getD ha
  rw [List.length_map, Array.length_toList] at hj
  have := h2 j (by omega)
  rw [numAt_eq zs j] at this
  exact this
theorem call_max1 (hc : X.calm = true) : CallR X (.builtin "max") (fun xs H Q => ∃ (p : Addr) (ns : List Int), xs = [.ref p] /\ SqL X.K H p (ns.map V.int) /\ 0 < ns.length /\ ∀ M, M ∈ ns -> (∀ a ∈ ns, a <= M) -> Q (.int M) H) := by
 intro pins s σ H xs us Q I r h
 obtain ⟨p, ns, rfl, hq, hn, q⟩ := h
 obtain ⟨u, rfl, rx⟩ := vals1 r
 cases rx
 obtain ⟨its, rv, pl, hz⟩ := I.list hq
 have hi : IntsAre its ns := intsAre_of rv
 obtain ⟨zs, ez⟩ := hi.allInts.items
 have en : ns = zs.toList.map (·.1) := by rw [<- hi.numsOf, <- nums_intItems, <- ez]
 have hz0 : 0 < zs.size := by rw [en, List.length_map, Array.length_toList] at hn; exact hn
 have hl := pl.isList
 rw [ez] at hl
 refine max_intList (I.ok.hd hc) hl hz0 fun v h' tk hv hk => ?_
 obtain ⟨t, rfl⟩ := intItems_at hv
 obtain ⟨h1, h2⟩ := argBest_gt (numAt zs) (zs.size - 1)
 refine ⟨.int _, H, I.kept hk, ⟨t, rfl⟩, q _ ?_ fun a ha => ?_⟩
 ·rw [en, numAt_eq]
  exact getD_mem (by rw [List.length_map, Array.length_toList]; omega)
 ·rw [en] at ha
  obtain ⟨j, hj, rfl⟩ := mem_getD ha
  rw [List.length_map, Array.length_toList] at hj
  have := h2 j (by omega)
  rw [numAt_eq zs j] at this
  exact this
end
end L2
namespace L2
open PySem PySem.Spec PyProof.Rows
theorem vals_ofInts {us : List Value} {ns : List Int} (h : IntsAre us ns) : Vals (ns.map V.int) us := by
 induction h with
 | nil => exact .nil
 | cons n t _ ih => exact .cons ⟨t, rfl⟩ ih
section
variable {X : Cx}
theorem call_sortedI : CallR X (.builtin "sorted") (fun xs H Q => ∃ (p : Addr) (ns : List Int), xs = [.ref p] /\ SqL X.K H p (ns.map V.int) /\ ns.length < 64 /\
  ∀ (ns' : List Int) (l : Addr), ns'.Perm ns -> ns'.Pairwise (· <= ·) -> H l = none -> Q (.ref l) (upd H l (.lst (ns'.map V.int)))) := by
 intro pins s σ H xs us Q I r h
 obtain ⟨p, ns, rfl, hq, h64, q⟩ := h
 obtain ⟨u, rfl, rx⟩ := vals1 r
 cases rx
 obtain ⟨its, rv, pl, hz⟩ := I.list hq
 have hi : IntsAre its ns := intsAre_of rv
 have hll := rv.length
 rw [List.length_map] at hll
 refine sorted_ints pl.isList hi (by omega) fun out ns' a1 a2 a3 => ?_
 obtain ⟨e, he⟩ := sortedAll_at s.heap its out
 have hlen := a2.length_eq
 refine ⟨.ref (s.heap.objs.size + 1), _, I.laid (t' := s.toks) (fun b o e => sortedAll_old e) (Nat.le_succ _) (show ObjOk X.prog X.w _ _ _ (.lst (ns'.map V.int)) from ⟨?_, out.toList, e, vals_ofInts a1, he⟩), rfl, q ns' _ a2 a3 (I.hok.fresh (Nat.le_succ _))⟩
 rw [List.length_map, hlen]
 exact Nat.le_of_lt (Nat.lt_trans h64 (by decide))
end
end L2
namespace L2
open PySem PySem.Spec PyProof.Rows
def Its (x : Str) : It := ⟨fun i _ => i < x.cps.size, fun i H v H' => H' = H /\ ∃ c, x.cps[i]? = some c /\ v = .str ⟨#[c]⟩, fun i _ => x.cps.size <= i⟩
theorem turn_strA {P : Program} {w : World} {K : PySem.W.Frag} {tg : Expr} (it : Addr) (x : Str) (t : Tok) : Turn P w K tg (Its x) [it] it (fun i h => h.IsStrIter it "str_ascii_iterator" x t i) where
 mem := by simp
 obj := fun i h st b hb => by
  have e : b = it := by simpa using hb
  subst e
  obtain ⟨o, e, c, d⟩ := st
  exact ⟨o, e, fun v z => by rw [d] at z; cases z⟩
 keep := fun i h h' st k => let ⟨o, ho, r⟩ := st; ⟨o, k it (by simp) o ho, r⟩
 item := by
  intro X hP hw hK hc i pins s σ H E I hf st hg
  subst hP hw hK
  obtain ⟨f0, f1, f2, f3, f4, f5⟩ := hf it (by simp)
  have W := Walks.strAscii (prog := X.prog) (w := X.w) (I.ok.hd hc) it x t
  refine W.item i s _ _ hg st fun v h' tk hv st' kk => ?_
  obtain ⟨c, u, hc', rfl⟩ := hv
  have I1 : Inv X pins σ H { s with heap := h', toks := tk } := I.turned (fun b o hb e => kk b o (by simpa using hb) e) f0 f1 f3 f4 f5
  obtain ⟨o, e, c1, d⟩ := id st'
  exact ⟨_, rfl, go_of (s := { s with heap := h', toks := tk }) e c1 d (by decide) ⟨.str ⟨#[c]⟩, H, I1, ⟨u, rfl⟩, ⟨rfl, c, hc', rfl⟩, st', fun b hb => (hf b hb).1⟩⟩
 done := by
  intro X hP hw hK hc i pins s σ H E I hf st hg
  subst hP hw hK
  obtain ⟨f0, f1, f2, f3, f4, f5⟩ := hf it (by simp)
  exact wpAny_pyNext_ascii_end (I.ok.hd hc) st (by have : x.cps.size <= i := hg; simp; omega) fun h' eb => ⟨rfl, I.turned (t' := s.toks) (fun b o hb e => eb b o hb e) f0 f1 f3 f4 f5⟩
 self := fun _ _ _ _ _ st h => wpAny_pyIter_striter_ascii st h
theorem turn_strW {P : Program} {w : World} {K : PySem.W.Frag} {tg : Expr} (it : Addr) (x : Str) (t : Tok) : Turn P w K tg (Its x) [it] it (fun i h => h.IsStrIter it "str_iterator" x t i) where
 mem := by simp
 obj := fun i h st b hb => by
  have e : b = it := by simpa using hb
  subst e
  obtain ⟨o, e, c, d⟩ := st
  exact ⟨o, e, fun v z => by rw [d] at z; cases z⟩
 keep := fun i h h' st k => let ⟨o, ho, r⟩ := st; ⟨o, k it (by simp) o ho, r⟩
 item := by
  intro X hP hw hK hc i pins s σ H E I hf st hg
  subst hP hw hK
  obtain ⟨f0, f1, f2, f3, f4, f5⟩ := hf it (by simp)
  have W := Walks.strWide (prog := X.prog) (w := X.w) (I.ok.hd hc) it x t
  refine W.item i s _ _ hg st fun v h' tk hv st' kk => ?_
  obtain ⟨c, u, hc', rfl⟩ := hv
  have I1 : Inv X pins σ H { s with heap := h', toks := tk } := I.turned (fun b o hb e => kk b o (by simpa using hb) e) f0 f1 f3 f4 f5
  obtain ⟨o, e, c1, d⟩ := id st'
  exact ⟨_, rfl, go_of (s := { s with heap := h', toks := tk }) e c1 d (by decide) ⟨.str ⟨#[c]⟩, H, I1, ⟨u, rfl⟩, ⟨rfl, c, hc', rfl⟩, st', fun b hb => (hf b hb).1⟩⟩
 done := by
  intro X hP hw hK hc i pins s σ H E I hf st hg
  subst hP hw hK
  obtain ⟨f0, f1, f2, f3, f4, f5⟩ := hf it (by simp)
  exact wpAny_pyNext_wide_end (I.ok.hd hc) st (by have : x.cps.size <= i := hg; simp; omega) fun h' eb => ⟨rfl, I.turned (t' := s.toks) (fun b o hb e => eb b o hb e) f0 f1 f3 f4 f5⟩
 self := fun _ _ _ _ _ st h => wpAny_pyIter_striter_wide st h
section
variable {X : Cx}
def rStarts : V -> List V -> Hp -> VK -> Prop := fun x vs H Q => ∃ i j, x = .str i /\ vs = [.str j] /\ Q (.bl (decide (0 + j.length <= i.length) && Builtin.Str.subAt i j 0)) H
theorem mt_startswith : MtM X "str.startswith" rStarts := by
 intro pins s σ H x vs v us Q I rx rv h
 obtain ⟨i, j, rfl, rfl, q⟩ := h
 obtain ⟨t, rfl⟩ := rx
 obtain ⟨u, rfl, t', rfl⟩ := rv.one
 exact call_gives F.slot_str_startswith (typeIs_str _ _ _) F.entry_str_startswith (F.args_str_startswith_2 _ _) (gives_str_startswith i j t t') ⟨.bl _, H, I, rfl, q⟩
def rFind : V -> List V -> Hp -> VK -> Prop := fun x vs H Q => ∃ i j, x = .str i /\ vs = [.str j] /\ ∀ n : Int, Q (.int n) H
theorem mt_find : MtM X "str.find" rFind := by
 intro pins s σ H x vs v us Q I rx rv h
 obtain ⟨i, j, rfl, rfl, q⟩ := h
 obtain ⟨t, rfl⟩ := rx
 obtain ⟨u, rfl, t', rfl⟩ := rv.one
 exact call_gives F.slot_str_find (typeIs_str _ _ _) F.entry_str_find (F.args_str_find_2 _ _) (gives_str_find i j t t') ⟨.int _, H, I.tok _, ⟨_, rfl⟩, q _⟩
theorem boot_repr : bootBuiltins "repr" = some (.builtin "repr") := by decide +kernel
end
def KD (prm : Params) : List DictEntry -> List (Str × Str) -> Prop
 | [], [] => True
 | e :: es, kv :: kvs => e.hash = PyData.keyHash prm kv.1 /\ (∃ t, e.key = .str kv.1 t) /\ (∃ t, e.val = .str kv.2 t) /\ KD prm es kvs
 | _, _ => False
structure KDict (K : PySem.W.Frag) (prm : Params) (d : Addr) (kvs : List (Str × Str)) : Prop where
 obj : ∃ (es : Array DictEntry) (ep : Nat), K.lookup d = some ⟨.type "dict", none, .dict es ep, #[]⟩ /\ KD prm es.toList kvs
 nd : (kvs.map (·.1)).Nodup
def getS (kvs : List (Str × Str)) (x : Str) : Option Str := (kvs.find? fun kv => kv.1 = x).map (·.2)
theorem KD.keys {P : Program} {w : World} : ∀ {es : List DictEntry} {kvs : List (Str × Str)}, KD w.params es kvs -> ∀ e ∈ es, ∃ k, (mixKind P w).is k e.key = true /\ e.hash = (mixKind P w).hash k
 | [], [], _, e, he => nomatch he
 | a :: es, kv :: kvs, ⟨h1, ⟨t, h2⟩, _, h4⟩, e, he => by
  rcases List.mem_cons.mp he with z | z
  ·subst z
   exact ⟨.inr kv.1, by rw [h2]; exact mixKind_str P w kv.1 t, by rw [h1]; rfl⟩
  ·exact KD.keys h4 e z
theorem KD.pairs {P : Program} {w : World} : ∀ {es : List DictEntry} {kvs : List (Str × Str)}, KD w.params es kvs -> ∃ vs : List (Key × Value), Pairs (mixKind P w) es vs /\ vs.map (·.1) = kvs.map (fun kv => Sum.inr kv.1) /\
  ∀ x y, getS kvs x = some y -> ∃ t, valueAt vs (.inr x) = some (.str y t)
 | [], [], _ => ⟨[], .nil, rfl, fun x y h => nomatch h⟩
 | a :: es, kv :: kvs, ⟨h1, ⟨t, h2⟩, ⟨t', h3⟩, h4⟩ => by
  obtain ⟨vs, p, m, g⟩ := KD.pairs (P := P) h4
  refine ⟨(.inr kv.1, .str kv.2 t') :: vs, .cons (by rw [h2]; exact mixKind_str P w kv.1 t) h3 p, by simp [m], fun x y h => ?_⟩
  by_cases e : kv.1 = x
  ·subst e
   have : kv.2 = y := by simpa [getS] using h
   subst this
   exact ⟨t', by simp [valueAt]⟩
  ·have h' : getS kvs x = some y := by simpa [getS, e] using h
   obtain ⟨t'', h''⟩ := g x y h'
   exact ⟨t'', by
    have : (Sum.inr kv.1 : Key) ≠ .inr x := fun z => e (Sum.inr.inj z)
    simpa [valueAt, this] using h''⟩
section
variable {X : Cx}
def rKD (d : Addr) (kvs : List (Str × Str)) : R2 := fun x y H Q => ∃ i j, x = .ref d /\ y = .str i /\ getS kvs i = some j /\ Q (.str j) H
theorem ix_kd {d : Addr} {kvs : List (Str × Str)} (D : KDict X.K X.w.params d kvs) : IxR X (rKD d kvs) := by
 intro value slice pins s σ H x y v u Q I rx ry h hs
 obtain ⟨i, j, rfl, rfl, hg, q⟩ := h
 cases rx
 obtain ⟨t, rfl⟩ := ry
 obtain ⟨es, ep, lk, kd⟩ := D.obj
 obtain ⟨vs, hp, hm, hv⟩ := KD.pairs (P := X.prog) kd
 obtain ⟨t', hv⟩ := hv i j hg
 have ho := I.kIn d _ lk
 have hnd : (vs.map (·.1)).Nodup := by
  rw [hm, show kvs.map (fun kv => (Sum.inr kv.1 : Key)) = (kvs.map (·.1)).map Sum.inr by simp]
  unfold List.Nodup
  rw [List.pairwise_map]
  exact D.nd.imp fun h z => h (Sum.inr.inj z)
 have dd : s.heap.DictOf (mixKind X.prog X.w) d vs := ⟨_, es, ep, ho, ⟨rfl, rfl, rfl⟩, rfl, fun e he => KD.keys kd e (by simpa using he), hp, hnd⟩
 exact tail_any ⟨_, ho, rfl⟩ slot_dict_getitem.lookup (wpAny_getItem_of (mixKind_str _ _ i t) dd.mapOf hv ⟨.str j, H, I.tok _, ⟨t', rfl⟩, q⟩) hs
end
section
variable {X : Cx}
def rSlS : V -> Option Int -> Option Int -> Hp -> VK -> Prop := fun x lo hi H Q => ∃ z, x = .str z /\ z.length <= sizeLine /\ Q (.str (Txt.slice z lo hi)) H
theorem sl_str : SlR X rSlS := by
 intro pins s σ H x v vl vu lo hi sl Q I rx hs pl pu h
 obtain ⟨z, rfl, hz, q⟩ := h
 obtain ⟨t, rfl⟩ := rx
 obtain ⟨o, ho, hc, hd⟩ := hs
 refine ⟨"str", _, F.slot_str_getitem.lookup, typeIs_str _ _ _, ?_⟩
 have fin : ∀ t' k, EP X pins σ Q (.str (Txt.slice z lo hi) t') { s with toks := k } := fun t' k => ⟨.str _, H, I.tok k, ⟨t', rfl⟩, q⟩
 cases pl with
 | none => cases pu with
  | none => exact wpAny_getItem_str_slice (l := none) (u := none) (st := none) ⟨o, ho, hc, hd⟩ rfl (post_val_or_str ⟨Nat.le_trans (Txt.slice_le z _ _) hz, fin⟩)
  | int j uj => exact wpAny_getItem_str_slice (l := none) (u := some (j, uj)) (st := none) ⟨o, ho, hc, hd⟩ rfl (post_val_or_str ⟨Nat.le_trans (Txt.slice_le z _ _) hz, fin⟩)
 | int i ui => cases pu with
  | none => exact wpAny_getItem_str_slice (l := some (i, ui)) (u := none) (st := none) ⟨o, ho, hc, hd⟩ rfl (post_val_or_str ⟨Nat.le_trans (Txt.slice_le z _ _) hz, fin⟩)
  | int j uj => exact wpAny_getItem_str_slice (l := some (i, ui)) (u := some (j, uj)) (st := none) ⟨o, ho, hc, hd⟩ rfl (post_val_or_str ⟨Nat.le_trans (Txt.slice_le z _ _) hz, fin⟩)
theorem strsAre_of {ss : List Str} : ∀ {us : List Value}, Vals (ss.map V.str) us -> StrsAre us ss := by
 induction ss with
 | nil => intro us r; rw [List.map_nil] at r; cases r; exact .nil
 | cons n ns ih =>
  intro us r
  rw [List.map_cons] at r
  cases r with
  | cons r1 r2 =>
   obtain ⟨t, e⟩ := r1
   subst e
   exact .cons n t (ih r2)
theorem vals_ofStrs {us : List Value} {ss : List Str} (h : StrsAre us ss) : Vals (ss.map V.str) us := by
 induction h with
 | nil => exact .nil
 | cons n t _ ih => exact .cons ⟨t, rfl⟩ ih
theorem call_sortedS : CallR X (.builtin "sorted") (fun xs H Q => ∃ (p : Addr) (ss : List Str), xs = [.ref p] /\ SqL X.K H p (ss.map V.str) /\ ss.length < 64 /\
  ∀ (ss' : List Str) (l : Addr), ss'.Perm ss -> sortedS ss' = true -> H l = none -> Q (.ref l) (upd H l (.lst (ss'.map V.str)))) := by
 intro pins s σ H xs us Q I r h
 obtain ⟨p, ns, rfl, hq, h64, q⟩ := h
 obtain ⟨u, rfl, rx⟩ := vals1 r
 cases rx
 obtain ⟨its, rv, pl, hz⟩ := I.list hq
 have hi : StrsAre its ns := strsAre_of rv
 have hll := rv.length
 rw [List.length_map] at hll
 refine sorted_strs pl.isList hi (by omega) fun out ns' a1 a2 a3 => ?_
 obtain ⟨e, he⟩ := sortedAll_at s.heap its out
 have hlen := a2.length_eq
 refine ⟨.ref (s.heap.objs.size + 1), _, I.laid (t' := s.toks) (fun b o e => sortedAll_old e) (Nat.le_succ _) (show ObjOk X.prog X.w _ _ _ (.lst (ns'.map V.str)) from ⟨?_, out.toList, e, vals_ofStrs a1, he⟩), rfl, q ns' _ a2 a3 (I.hok.fresh (Nat.le_succ _))⟩
 rw [List.length_map, hlen]
 exact Nat.le_of_lt (Nat.lt_trans h64 (by decide))
def catS (ss : List Str) : List Nat := (ss.map fun s => s.cps.toList).flatten
theorem toks_of : ∀ {us : List Value} {ss : List Str}, StrsAre us ss -> ∃ l : List (Str × Tok), us = strValues l /\ l.map (·.1) = ss
 | _, _, .nil => ⟨[], rfl, rfl⟩
 | _, _, .cons y t h => by
  obtain ⟨l, e1, e2⟩ := toks_of h
  exact ⟨(y, t) :: l, by rw [e1]; rfl, by simp [e2]⟩
theorem join_cat : ∀ ss : List Str, (Str.join ⟨#[]⟩ ss).cps.toList = catS ss
 | [] => rfl
 | [x] => by simp [Str.join, catS]
 | x :: y :: r => by
  have ih := join_cat (y :: r)
  show ((x ++ (⟨#[]⟩ : Str) ++ Str.join ⟨#[]⟩ (y :: r)) : Str).cps.toList = _
  have e : ∀ a b : Str, (a ++ b).cps.toList = a.cps.toList ++ b.cps.toList := fun a b => by
   show (a.cps ++ b.cps).toList = _
   simp
  rw [e, e, ih]
  simp [catS]
theorem sum_len : ∀ (ss : List Str) (n : Nat), ss.foldl (fun a s => a + s.length + 0) n = n + (catS ss).length
 | [], n => by simp [catS]
 | s :: r, n => by
  rw [List.foldl_cons, sum_len r]
  simp [catS, Str.length]
  omega
def rJoin (K : PySem.W.Frag) : V -> List V -> Hp -> VK -> Prop := fun x vs H Q => ∃ p ss, x = .str ⟨#[]⟩ /\ vs = [.ref p] /\ SqL K H p (ss.map V.str) /\ (catS ss).length <= 100000 /\ ∀ z : Str, z.cps.toList = catS ss -> Q (.str z) H
theorem mt_join : MtM X "str.join" (rJoin X.K) := by
 intro pins s σ H x vs v us Q I rx rv h
 obtain ⟨p, ss, rfl, rfl, hq, hz, q⟩ := h
 obtain ⟨t, rfl⟩ := rx
 obtain ⟨u, rfl, ru⟩ := rv.one
 cases ru
 obtain ⟨its, rv, pl, hz'⟩ := I.list hq
 obtain ⟨l, e1, e2⟩ := toks_of (strsAre_of rv)
 have hl := pl.isList
 rw [e1] at hl
 have hlen : ((l.map (·.1)).toArray.foldl (fun a s => a + s.length + (⟨#[]⟩ : Str).length) 0) = (catS ss).length := by
  rw [e2, List.foldl_toArray]
  show ss.foldl (fun a s => a + s.length + 0) 0 = _
  rw [sum_len]
  omega
 refine call_meets F.slot_str_join (typeIs_str _ _ _) F.entry_str_join (F.args_str_join_2 _ _) (meets_str_join_list ⟨#[]⟩ t p l (by
  rw [hlen]
  show decide (_ > sizeLine) = false
  exact decide_eq_false (Nat.not_lt.mpr (Nat.le_trans hz (by decide))))) ⟨hl, ?_⟩
 have hj : ∀ z : Str, z = Str.join ⟨#[]⟩ ss -> ∀ t' k, EP X pins σ Q (.str z t') { s with toks := k } := fun z e t' k => ⟨.str z, H, I.tok k, ⟨t', rfl⟩, q z (by rw [e, join_cat])⟩
 have hlz : (Str.join ⟨#[]⟩ ss).length <= sizeLine := by
  show (Str.join ⟨#[]⟩ ss).cps.size <= _
  rw [<- Array.length_toList, join_cat]
  exact Nat.le_trans hz (by decide)
 match l, e2 with
 | [], e2 => exact ⟨by rw [StrLaws.glued_eq_join]; exact Nat.zero_le _, hj _ (by rw [<- e2]; rw [StrLaws.glued_eq_join]) _ _⟩
 | [pp], e2 => exact hj _ (by rw [<- e2]; rfl) _ s.toks
 | a :: b :: r, e2 => exact ⟨by rw [StrLaws.glued_eq_join, e2]; exact hlz, hj _ (by rw [StrLaws.glued_eq_join, e2]) _ _⟩
end
end L2
namespace L2
open PySem PySem.Spec PyProof.Rows
def Rises (xs : Array Nat) : Prop := ∀ i j : Nat, i < j -> ∀ a b, xs[i]? = some a -> xs[j]? = some b -> a < b
structure Bel (xs : Array Nat) (j p : Nat) : Prop where
 le : p <= xs.size
 lt : ∀ i a, i < p -> xs[i]? = some a -> a < j
 ge : ∀ i a, p <= i -> xs[i]? = some a -> j <= a
theorem below_go {xs : Array Nat} (R : Rises xs) (j : Nat) : ∀ (f lo hi : Nat), hi - lo <= f -> lo <= hi -> hi <= xs.size -> (∀ i a, i < lo -> xs[i]? = some a -> a < j) -> (∀ i a, hi <= i -> xs[i]? = some a -> j <= a) -> Bel xs j (SetTable.below.go xs j f lo hi)
 | 0, lo, hi, h, l, z, h1, h2 => by
  rw [SetTable.below.go.eq_1]
  have : lo = hi := by omega
  subst this
  exact ⟨z, h1, h2⟩
 | f + 1, lo, hi, h, l, z, h1, h2 => by
  rw [SetTable.below.go.eq_2]
  by_cases c : lo < hi
  ·rw [if_pos c]
   have hm : (lo + hi) / 2 < xs.size := by omega
   have em : xs[(lo + hi) / 2]? = some xs[(lo + hi) / 2] := Array.getElem?_eq_getElem hm
   have eg : xs.getD ((lo + hi) / 2) j = xs[(lo + hi) / 2] := by simp [Array.getD, hm]
   dsimp only
   rw [eg]
   by_cases d : xs[(lo + hi) / 2] < j
   ·rw [if_pos d]
    refine below_go R j f _ _ (by omega) (by omega) z (fun i a hi' e => ?_) h2
    by_cases q : i = (lo + hi) / 2
    ·subst q; rw [em] at e; cases e; exact d
    ·exact Nat.lt_trans (R i _ (by omega) a _ e em) d
   ·rw [if_neg d]
    refine below_go R j f _ _ (by omega) (by omega) (by omega) h1 fun i a hi' e => ?_
    by_cases q : i = (lo + hi) / 2
    ·subst q; rw [em] at e; cases e; omega
    ·have := R _ i (by omega) _ a em e; omega
  ·rw [if_neg c]
   have : lo = hi := by omega
   subst this
   exact ⟨z, h1, h2⟩
theorem below_is {xs : Array Nat} (R : Rises xs) (j : Nat) : Bel xs j (SetTable.below xs j) := by
 unfold SetTable.below
 refine below_go R j _ _ _ (by omega) (Nat.zero_le _) (Nat.le_refl _) (fun i a h => absurd h (Nat.not_lt_zero _)) fun i a h e => ?_
 have := (Array.getElem?_eq_some_iff.mp e).1
 omega
theorem below_eq {xs : Array Nat} (R : Rises xs) {j p : Nat} (B : Bel xs j p) : SetTable.below xs j = p := by
 have C := below_is R j
 generalize SetTable.below xs j = q at C
 rcases Nat.lt_trichotomy p q with h | h | h
 ·have hp : p < xs.size := by have := C.le; omega
  have e := Array.getElem?_eq_getElem hp
  have := C.lt p _ h e
  have := B.ge p _ (Nat.le_refl _) e
  omega
 ·exact h.symm
 ·have hp : q < xs.size := by have := B.le; omega
  have e := Array.getElem?_eq_getElem hp
  have := B.lt q _ h e
  have := C.ge q _ (Nat.le_refl _) e
  omega
theorem insert_get {xs : Array Nat} {p x : Nat} (hp : p <= xs.size) (i : Nat) : (SetTable.insertAt xs p x)[i]? = if i < p then xs[i]? else if i = p then some x else xs[i - 1]? := by
 unfold SetTable.insertAt
 have s0 : (xs.extract 0 p).size = p := by simp [Array.size_extract]; omega
 rw [Array.getElem?_append]
 rw [Array.size_push, s0]
 by_cases h1 : i < p
 ·rw [if_pos h1, if_pos (by omega), Array.getElem?_push, if_neg (by rw [s0]; omega), Array.getElem?_extract]
  simp [h1]
  intro z; omega
 ·rw [if_neg h1]
  by_cases h2 : i = p
  ·subst h2
   rw [if_pos rfl, if_pos (by omega), Array.getElem?_push, if_pos s0.symm]
  ·rw [if_neg h2, if_neg (by omega), Array.getElem?_extract]
   have e : p + (i - (p + 1)) = i - 1 := by omega
   rw [e]
   by_cases z : i - 1 < xs.size
   ·simp; omega
   ·simp [z]
theorem insert_rises {xs : Array Nat} (R : Rises xs) {x : Nat} (h : xs[SetTable.below xs x]? ≠ some x) : Rises (SetTable.insertAt xs (SetTable.below xs x) x) := by
 have B := below_is R x
 generalize SetTable.below xs x = p at B h
 have hg : ∀ i a, p <= i -> xs[i]? = some a -> x < a := fun i a hi e => by
  rcases Nat.lt_or_ge x a with q | q
  ·exact q
  ·exfalso
   have ax := B.ge i a hi e
   have : a = x := by omega
   subst this
   by_cases z : i = p
   ·exact h (z ▸ e)
   ·have lt := (Array.getElem?_eq_some_iff.mp e).1
    have hp : p < xs.size := by omega
    have ep := Array.getElem?_eq_getElem hp
    have := R p i (by omega) _ _ ep e
    have := B.ge p _ (Nat.le_refl _) ep
    omega
 intro i j hij a b ha hb
 rw [insert_get B.le] at ha hb
 by_cases i1 : i < p
 ·rw [if_pos i1] at ha
  by_cases j1 : j < p
  ·rw [if_pos j1] at hb; exact R i j hij a b ha hb
  ·rw [if_neg j1] at hb
   have al := B.lt i a i1 ha
   by_cases j2 : j = p
   ·rw [if_pos j2] at hb; cases hb; exact al
   ·rw [if_neg j2] at hb
    have := hg (j - 1) b (by omega) hb
    omega
 ·rw [if_neg i1] at ha
  rw [if_neg (by omega)] at hb
  rw [if_neg (by omega)] at hb
  by_cases i2 : i = p
  ·rw [if_pos i2] at ha; cases ha
   exact hg (j - 1) b (by omega) hb
  ·rw [if_neg i2] at ha
   exact R (i - 1) (j - 1) (by omega) a b ha hb
def Tidy (t : SetTable) : Prop := t.plain = true -> Rises t.place /\ t.dummies = #[]
theorem has_nil (j : Nat) : SetTable.has #[] j = false := by unfold SetTable.has; simp
theorem probe_empty {t : SetTable} (hd : t.dummies = #[]) {f : Nat -> Int} {h : Int} {j : Nat} {d : Option Nat} : ∀ (n : Nat) (p : SetTable.Probe), p.dummy = none -> SetTable.probe.go t f h n p = some (.empty j d) -> d = none /\ t.place[SetTable.below t.place j]? ≠ some j
 | 0, p, _, e => by rw [SetTable.probe.go.eq_def] at e; cases e
 | n + 1, p, hp, e => by
  rw [SetTable.probe.go.eq_def] at e
  dsimp only at e
  have adv : (t.advance p).dummy = none := by
   unfold SetTable.advance
   split
   ·exact hp
   ·exact hp
  cases hs : t.slot p.j with
  | empty =>
   rw [hs] at e
   dsimp only at e
   cases e
   refine ⟨hp, fun z => ?_⟩
   unfold SetTable.slot at hs
   dsimp only at hs
   rw [if_pos (by rw [z]; simp)] at hs
   cases hs
  | dummy =>
   exfalso
   unfold SetTable.slot at hs
   dsimp only at hs
   split at hs
   ·cases hs
   ·rw [hd, has_nil] at hs
    cases hs
  | live i =>
   rw [hs] at e
   dsimp only at e
   split at e
   ·cases e
   ·exact probe_empty hd n _ adv e
theorem layNew_tidy {t : SetTable} (T : Tidy t) (es : Array (Int × Value)) (h : Int) (x : Value) : Tidy (layNew t es h x).2.1 := by
 unfold layNew
 split
 ·rename_i slot wd e
  dsimp only
  unfold SetTable.orStandIn
  split
  ·intro hp
   have hp' : t.plain = true := hp
   obtain ⟨R, hd⟩ := T hp'
   unfold SetTable.freeSlot at e
   split at e
   ·rename_i j d e'
    obtain ⟨rfl, ne⟩ := probe_empty hd _ _ rfl e'
    cases e
    exact ⟨insert_rises R ne, by show (if SetTable.has t.dummies _ = true then _ else t.dummies) = #[]; rw [hd, has_nil]; rfl⟩
   ·cases e
  ·intro hp; cases hp
 ·intro hp; cases hp
theorem range_rises {f : Nat -> Option Nat} (n : Nat) : Rises ((((List.range n).filterMap fun j => (f j).map (j, ·)).map (·.1)).toArray) := by
 have p : (((List.range n).filterMap fun j => (f j).map (j, ·)).map (·.1)).Pairwise (· < ·) := by
  rw [List.pairwise_map]
  refine (List.pairwise_filterMap).mpr ?_
  refine List.Pairwise.imp ?_ List.pairwise_lt_range
  intro a b hab x hx y hy
  obtain ⟨u, _, rfl⟩ := Option.map_eq_some_iff.mp hx
  obtain ⟨v, _, rfl⟩ := Option.map_eq_some_iff.mp hy
  exact hab
 intro i j hij a b ha hb
 rw [List.getElem?_toArray] at ha hb
 obtain ⟨hi, rfl⟩ := List.getElem?_eq_some_iff.mp ha
 obtain ⟨hj, rfl⟩ := List.getElem?_eq_some_iff.mp hb
 exact List.pairwise_iff_getElem.mp p i j hi hj hij
theorem relay_tidy (t : SetTable) (es : Array (Int × Value)) (n : Nat) : Tidy (relayAll t es n).2.1 := by
 unfold relayAll
 split
 ·rename_i t' order e
  dsimp only
  split
  ·intro hp
   unfold SetTable.relaid SetTable.laid at e
   obtain ⟨o, _, e⟩ := Option.bind_eq_some_iff.mp e
   cases e
   exact ⟨range_rises _, rfl⟩
  ·intro hp; cases hp
 ·intro hp; cases hp
end L2
namespace L2
open PySem
theorem erase_perm {α : Type} : ∀ (l : List α) (i : Nat) (h : i < l.length), (l[i] :: l.eraseIdx i).Perm l
 | [], i, h => by simp at h
 | x :: l, 0, h => by simp
 | x :: l, i + 1, h => by
  have h' : i < l.length := by simpa using h
  simp only [List.getElem_cons_succ, List.eraseIdx_cons_succ]
  exact (List.Perm.swap _ _ _).trans (.cons _ (erase_perm l i h'))
section
variable {M : Model} {A : Around} {E : Value -> Shared -> Prop} {s : Shared}
theorem any_choose {src : Source} {n : Nat} {Q : Nat -> Shared -> Prop} (hn : n ≠ 0) (h : ∀ i d, i < n -> Q i { s with drawn := d }) : wpAny M A (choose src n) Q E s := fun Γ p _ => by
 unfold choose
 rw [Sem.wp_choose]
 exact ⟨hn, h _ _ (Nat.mod_lt _ (Nat.pos_of_ne_zero hn))⟩
theorem any_drawOrder {α : Type} : ∀ (n : Nat) (xs : List α) (s : Shared) {Q : List α -> Shared -> Prop}, xs.length = n -> (∀ ys d, ys.Perm xs -> Q ys { s with drawn := d }) -> wpAny M A (drawOrder n xs) Q E s
 | 0, xs, s, Q, hl, h => by
  have e : xs = [] := List.eq_nil_of_length_eq_zero hl
  subst e
  exact wpAny_pure (h [] s.drawn (.refl _))
 | n + 1, [], s, Q, hl, h => by simp at hl
 | n + 1, x :: xs, s, Q, hl, h => by
  show wpAny M A (do
   let i <- choose .order (x :: xs).length
   match (x :: xs)[i]? with
   | some x' => return x' :: (<- drawOrder n ((x :: xs).eraseIdx i))
   | none => unsupported "internal:drawOrder") Q E s
  refine wpAny_bind (any_choose (by simp) fun i d hi => ?_)
  rw [List.getElem?_eq_getElem hi]
  refine wpAny_bind (any_drawOrder n _ _ (by rw [List.length_eraseIdx_of_lt hi]; simp at hl ⊢; exact hl) fun ys d' hp => ?_)
  refine wpAny_pure (h _ d' ((List.Perm.cons _ hp).trans ?_))
  exact erase_perm (x :: xs) i hi
end
theorem pick_go {α : Type} (next : Nat -> Nat) : ∀ (fuel k : Nat) (left : List α) (out : Array α), fuel = left.length -> (pickOrder.go next fuel k left out).toList.Perm (out.toList ++ left)
 | 0, k, left, out, h => by
  have e : left = [] := List.eq_nil_of_length_eq_zero h.symm
  subst e
  unfold pickOrder.go
  simp
 | fuel + 1, k, left, out, h => by
  unfold pickOrder.go
  have hlt : next k % left.length < left.length := Nat.mod_lt _ (by omega)
  rw [List.getElem?_eq_getElem hlt]
  refine (pick_go next fuel (k + 1) _ _ (by rw [List.length_eraseIdx_of_lt hlt]; omega)).trans ?_
  rw [Array.toList_push, List.append_assoc]
  exact List.Perm.append_left _ (erase_perm _ _ hlt)
theorem pick_perm {α : Type} (next : Nat -> Nat) (xs : Array α) : (pickOrder next xs).toList.Perm xs.toList := by
 unfold pickOrder
 have := pick_go next xs.size 0 xs.toList #[] (by simp)
 simpa using this
end L2
namespace L2
open PySem PySem.Spec PyProof.Rows
abbrev byT (w : World) : Bool := w.params.followText "set-order"
structure SetT (prog : Program) (w : World) (us : List Str) (es : Array (Int × Value)) (t : SetTable) : Prop where
 el : ElemsOf (PySem.strKind prog w) es.toList
 tx : ∃ vs : List Str, StrsAre (es.toList.map (·.2)) vs /\ vs.Perm us
 nd : us.Nodup
 lt : es.size < scanBound
 fit : t.fits es.size = true
 pl : es.size = 0 \/ t.plain = false
 ld : t.led = !byT w
abbrev setO (es : Array (Int × Value)) (ep : Nat) (t : SetTable) : Obj := { cls := .type "set", dict := none, data := .set es ep t, slots := #[] }
def SetS (prog : Program) (w : World) (a : Addr) (us : List Str) (h : Heap) : Prop := ∃ es ep t, h.get? a = some (setO es ep t) /\ SetT prog w us es t
def addS (us : List Str) (x : Str) : List Str := if x ∈ us then us else us ++ [x]
theorem strs_len : ∀ {vs : List Value} {ss : List Str}, StrsAre vs ss -> vs.length = ss.length
 | _, _, .nil => rfl
 | _, _, .cons _ _ h => by simp [strs_len h]
theorem strs_mem : ∀ {vs : List Value} {ss : List Str}, StrsAre vs ss -> ∀ x, x ∈ ss ↔ ∃ v ∈ vs, Value.isStrOf x v = true
 | _, _, .nil, x => by simp
 | _, _, .cons y t h, x => by
  have ih := strs_mem h x
  have e : Value.isStrOf x (.str y t) = true ↔ x = y := ⟨fun h => by
   obtain ⟨u, h⟩ := Value.isStrOf_shape h
   injection h with h1 h2
   exact h1.symm, fun h => by subst h; simp [Value.isStrOf]⟩
  simp only [List.mem_cons, exists_eq_or_imp, ih, e]
theorem strs_perm : ∀ {vs us : List Value}, us.Perm vs -> ∀ {ss : List Str}, StrsAre vs ss -> ∃ ss', StrsAre us ss' /\ ss'.Perm ss := by
 intro vs us p
 induction p with
 | nil => intro ss h; exact ⟨ss, h, .refl _⟩
 | cons x p ih =>
  intro ss h
  cases h with
  | cons y t h => obtain ⟨ss', a, b⟩ := ih h; exact ⟨y :: ss', .cons y t a, .cons _ b⟩
 | swap x y l =>
  intro ss h
  cases h with
  | cons a t h => cases h with
   | cons b u h => exact ⟨b :: a :: _, .cons b u (.cons a t h), .swap _ _ _⟩
 | trans p q ihp ihq =>
  intro ss h
  obtain ⟨s1, a1, b1⟩ := ihq h
  obtain ⟨s2, a2, b2⟩ := ihp a1
  exact ⟨s2, a2, b2.trans b1⟩
theorem strs_snoc : ∀ {vs : List Value} {ss : List Str} (x : Str) (t : Tok), StrsAre vs ss -> StrsAre (vs ++ [.str x t]) (ss ++ [x])
 | _, _, x, t, .nil => .cons x t .nil
 | _, _, x, t, .cons y u h => .cons y u (strs_snoc x t h)
theorem layNew_led (t : SetTable) (es : Array (Int × Value)) (h : Int) (x : Value) : (layNew t es h x).2.1.led = t.led := by
 have so : ∀ (u : SetTable) (n : Nat), (u.orStandIn n).led = u.led := fun u n => by
  unfold SetTable.orStandIn
  split <;> rfl
 unfold layNew
 split
 ·dsimp only
  rw [so]
  rfl
 ·rfl
theorem relay_led (t : SetTable) (es : Array (Int × Value)) (n : Nat) : (relayAll t es n).2.1.led = t.led /\ (t.plain = false -> (relayAll t es n).2.1.plain = false) := by
 have la : ∀ m f mv ld pl hs t' o, SetTable.laid m f mv ld pl hs = some (t', o) -> t'.led = ld /\ t'.plain = pl := fun m f mv ld pl hs t' o e => by
  unfold SetTable.laid at e
  cases q : SetTable.layClean m hs with
  | none => rw [q] at e; cases e
  | some ow =>
   rw [q] at e
   simp only [Option.bind_eq_bind, Option.bind_some, Option.pure_def, Option.some.injEq, Prod.mk.injEq] at e
   obtain ⟨e, _⟩ := e
   subst e
   exact ⟨rfl, rfl⟩
 unfold relayAll
 split
 ·rename_i t' order e
  have := la _ _ _ _ _ _ _ _ e
  dsimp only
  split
  ·exact ⟨this.1, fun z => by rw [<- z]; exact this.2⟩
  ·exact ⟨rfl, fun _ => rfl⟩
 ·exact ⟨rfl, fun _ => rfl⟩
section
variable {prog : Program} {w : World} {A : Around} {E : Value -> Shared -> Prop} {s : Shared} {a : Addr} {us : List Str} {x : Str} {tk : Tok}
theorem SetT.mem {es : Array (Int × Value)} {t : SetTable} (T : SetT prog w us es t) (x : Str) : x ∈ us ↔ ∃ e ∈ es.toList, (PySem.strKind prog w).is x e.2 = true := by
 obtain ⟨vs, h, p⟩ := T.tx
 rw [<- p.mem_iff, strs_mem h x]
 simp only [List.mem_map]
 exact ⟨fun ⟨v, ⟨e, he, z⟩, q⟩ => ⟨e, he, by subst z; exact q⟩, fun ⟨e, he, q⟩ => ⟨e.2, ⟨e, he, rfl⟩, q⟩⟩
theorem SetT.size {es : Array (Int × Value)} {t : SetTable} (T : SetT prog w us es t) : es.size = us.length := by
 obtain ⟨vs, h, p⟩ := T.tx
 have := strs_len h
 rw [List.length_map, Array.length_toList] at this
 rw [this, p.length_eq]
theorem any_tailV {g : Bool -> Sem Unit} (hg : ∀ (b : Bool) (s₁ : Shared) (R : Unit -> Shared -> Prop), R () s₁ -> wpAny (model prog w) A (g b) R E s₁) {es es1 : Array (Int × Value)} {ep : Nat} {t t2 : SetTable} {wd : Bool} {R : Option Bool -> Shared -> Prop}
  (ho : s.heap.get? a = some (setO es ep t)) (lt : es1.size < scanBound) (fit : t2.fits es1.size = true)
  (h : ∀ h' es' ep' t', Heap.SameBut a s.heap h' -> h'.get? a = some (setO es' ep' t') -> es'.toList.Perm es1.toList -> t'.fits es'.size = true -> t'.led = t2.led -> (Tidy t2 -> Tidy t') -> (t2.plain = false -> t'.plain = false) -> R (some true) { s with heap := h' }) :
  wpAny (model prog w) A (do
   storeSet a es1 t2
   if (!wd && t2.tooFull) = true then do
     g (relayAll t2 es1 (SetTable.grown es1.size)).2.2
     storeSet a (relayAll t2 es1 (SetTable.grown es1.size)).1 (relayAll t2 es1 (SetTable.grown es1.size)).2.1
     pure (some true)
    else pure (some true)) R E s := by
 refine wpAny_bind (wpAny_storeSet_of ho rfl ?_ (fits_of_scanBound lt))
 have o1 : (s.heap.update a (Obj.putSet es1 t2)).get? a = some (setO es1 (ep + 1) t2) := Heap.get?_update_self (Obj.putSet es1 t2) ho rfl
 have b1 := Heap.SameBut.update s.heap a (Obj.putSet es1 t2)
 split
 ·have hp := relayAll_perm t2 es1 (SetTable.grown es1.size)
  have hf := relayAll_fits t2 es1 (SetTable.grown es1.size)
  obtain ⟨hl, hq⟩ := relay_led t2 es1 (SetTable.grown es1.size)
  have ht := relay_tidy t2 es1 (SetTable.grown es1.size)
  generalize relayAll t2 es1 (SetTable.grown es1.size) = Rl at hp hf hl hq ht ⊢
  obtain ⟨es2, t3, g2⟩ := Rl
  dsimp only at hp hf hl hq ht ⊢
  have sz : es2.size = es1.size := by have := hp.length_eq; simpa using this
  refine wpAny_bind (hg _ _ _ ?_)
  refine wpAny_bind (wpAny_storeSet_of o1 rfl ?_ (fits_of_scanBound (by rw [sz]; exact lt)))
  exact wpAny_pure (h _ es2 _ t3 (b1.trans (Heap.SameBut.update _ a _)) (Heap.get?_update_self (Obj.putSet es2 t3) o1 rfl) hp hf hl (fun _ => ht) hq)
 ·exact wpAny_pure (h _ es1 _ t2 b1 o1 (.refl _) fit rfl id id)
theorem any_addV {α : Type} [DecidableEq α] (knd : PySem.KeyKind prog w α) {x : α} {v : Value} {es : Array (Int × Value)} {ep : Nat} {t : SetTable} {Q : Bool -> Shared -> Prop} (ho : s.heap.get? a = some (setO es ep t)) (el : ElemsOf knd es.toList) (lt : es.size + 1 < scanBound) (fit : t.fits es.size = true) (hk : knd.is x v = true) (sc : v.scannable = true)
  (h1 : (∃ e ∈ es.toList, knd.is x e.2 = true) -> Q false s)
  (h2 : (∀ e ∈ es.toList, knd.is x e.2 = false) -> ∀ h' es' ep' t', Heap.SameBut a s.heap h' -> h'.get? a = some (setO es' ep' t') -> es'.toList.Perm (es.toList ++ [(knd.hash x, v)]) -> t'.fits es'.size = true -> t'.led = t.led -> (Tidy t -> Tidy t') -> (plainKind v = false -> t'.plain = false) -> Q true { s with heap := h' }) :
  wpAny (model prog w) A (setAddHashed a v (knd.hash x)) Q E s := by
 unfold setAddHashed setAddHashedIn
 refine wpAny_holding (wpAny_bind (wpAny_setState_of ho rfl fit ?_))
 dsimp only
 rw [byScan_of sc (Nat.lt_of_succ_lt lt) el, if_pos rfl]
 unfold setAddByScan
 refine wpAny_bind (wpAny_bind (wpAny_rule ?_))
 refine wpAny_bind (wpAny_setScan_of hk ho rfl fit el ?_)
 cases hr : es.toList.findIdx? (fun e => knd.is x e.2) with
 | some j =>
  dsimp only
  obtain ⟨hj, hp, _⟩ := List.findIdx?_eq_some_iff_getElem.mp hr
  exact wpAny_pure (wpAny_pure (h1 ⟨_, List.getElem_mem hj, hp⟩))
 | none =>
  dsimp only
  have hout : ∀ e ∈ es.toList, knd.is x e.2 = false := fun e he => List.findIdx?_eq_none_iff.mp hr e he
  have pm := layNew_perm t es (knd.hash x) v
  have ft := layNew_fits t es (knd.hash x) v
  have ld := layNew_led t es (knd.hash x) v
  have td := fun T : Tidy t => layNew_tidy T es (knd.hash x) v
  generalize layNew t es (knd.hash x) v = L at pm ft ld td ⊢
  obtain ⟨es1, t1, wd, gv⟩ := L
  dsimp only at pm ft ld td ⊢
  rw [Array.toList_push] at pm
  have sz : es1.size < scanBound := by
   have := pm.length_eq
   rw [<- Array.length_toList, this, List.length_append, Array.length_toList]; exact lt
  have gw : ∀ (b : Bool) (s₁ : Shared) (R : Unit -> Shared -> Prop), R () s₁ -> wpAny (model prog w) A (match b with | true => rule "set.scan.the-table-gave-way" | false => pure ()) R E s₁ :=
   fun b s₁ R q => by
    cases b
    ·exact wpAny_pure q
    ·exact wpAny_rule q
  refine wpAny_bind (gw _ _ _ ?_)
  have tl := fun (R : Option Bool -> Shared -> Prop) (hR : ∀ s', Q true s' -> R (some true) s') t2 (f2 : t2.fits es1.size = true) (l2 : t2.led = t.led) (d2 : Tidy t -> Tidy t2) (p2 : plainKind v = false -> t2.plain = false) => any_tailV (wd := wd) (R := R) (g := fun b => match b with | true => rule "set.scan.the-table-gave-way" | false => pure ()) gw ho sz f2 fun h' es' ep' t' b o p f l d q => hR _ (h2 hout h' es' ep' t' b o (p.trans pm) f (l.trans l2) (fun T => d (d2 T)) fun z => q (p2 z))
  split
  ·refine wpAny_bind ?_
   rw [hashByValue_scannable 8 sc]
   refine wpAny_pure ?_
   split
   ·exact tl _ (fun _ q => wpAny_pure q) _ ft ld td fun z => by simp_all
   ·exact tl _ (fun _ q => wpAny_pure q) _ (SetTable.fits_plain_off ft) ld (fun _ => fun z => nomatch z) fun _ => rfl
  ·rename_i hp
   refine wpAny_bind (wpAny_pure ?_)
   rw [if_pos rfl]
   exact tl _ (fun _ q => wpAny_pure q) _ ft ld td fun _ => by simpa using hp
theorem nodup_snoc {α : Type} {us : List α} {x : α} (h : us.Nodup) (hx : x ∉ us) : (us ++ [x]).Nodup := by
 rw [List.nodup_append]
 exact ⟨h, by simp, fun y hy z hz e => hx (by rw [<- List.mem_singleton.mp hz, <- e]; exact hy)⟩
theorem any_addT {Q : Bool -> Shared -> Prop} (S : SetS prog w a us s.heap) (room : us.length + 1 < scanBound) (h : ∀ b h', Heap.SameBut a s.heap h' -> SetS prog w a (addS us x) h' -> Q b { s with heap := h' }) :
  wpAny (model prog w) A (setAddHashed a (.str x tk) ((PySem.strKind prog w).hash x)) Q E s := by
 obtain ⟨es, ep, t, ho, T⟩ := id S
 have hk : (PySem.strKind prog w).is x (.str x tk) = true := by show Value.isStrOf x (.str x tk) = true; simp [Value.isStrOf]
 refine any_addV (PySem.strKind prog w) ho T.el (by rw [T.size]; exact room) T.fit hk rfl (fun hin => ?_) fun hout h' es' ep' t' sb ho' pm ft ld _ pl => ?_
 ·have e : s = { s with heap := s.heap } := by cases s; rfl
  rw [e]
  refine h false s.heap (Heap.SameBut.refl a s.heap) ?_
  rw [addS, if_pos ((T.mem x).mpr hin)]
  exact S
 ·have hx : x ∉ us := fun z => by
   obtain ⟨e, he, hp⟩ := (T.mem x).mp z
   rw [hout e he] at hp; cases hp
  refine h true h' sb ⟨es', ep', t', ho', ?_⟩
  obtain ⟨vs, hv, pv⟩ := T.tx
  have h1 := strs_snoc x tk hv
  rw [show (es.toList.map (·.2)) ++ [Value.str x tk] = (es.toList ++ [((PySem.strKind prog w).hash x, Value.str x tk)]).map (·.2) by simp] at h1
  obtain ⟨vs', hv', pv'⟩ := strs_perm (pm.map (·.2)) h1
  rw [addS, if_neg hx]
  refine ⟨(T.el.push hk rfl).perm pm, ⟨vs', hv', pv'.trans (pv.append_right _)⟩, nodup_snoc T.nd hx, ?_, ft, .inr (pl rfl), ld.trans T.ld⟩
  have := pm.length_eq
  rw [<- Array.length_toList, this, List.length_append, Array.length_toList, T.size]; exact room
end
end L2
namespace L2
open PySem PySem.Spec PyProof.Rows
theorem st_iter : Slot "set" "__iter__" "set.__iter__" :=
 Slot.of (owner := "set") (n := "__iter__") (by rw [typeLookup_type, builtinLookup_eq_fast]; kernel_rfl) (by decide +kernel) (by decide +kernel) (by decide +kernel) (by first | exact .inl (by decide +kernel) | exact .inr (by decide +kernel)) (by rw [isSubtype_type]; kernel_rfl)
theorem en_iter : entryFor table "set.__iter__" = some Builtin.«frozenset.__iter__» := entryFor_alias (id' := "frozenset.__iter__") (by kernel_rfl) rfl (by decide +kernel) (by kernel_rfl)
theorem ar_iter (a : Value) : argsOk "set.__iter__" ⟨[a], []⟩ := by
 unfold argsOk
 kernel_rfl
theorem st_next : Slot "set_iterator" "__next__" "set_iterator.__next__" :=
 Slot.of (owner := "set_iterator") (n := "__next__") (by rw [typeLookup_type, builtinLookup_eq_fast]; kernel_rfl) (by decide +kernel) (by decide +kernel) (by decide +kernel) (by first | exact .inl (by decide +kernel) | exact .inr (by decide +kernel)) (by rw [isSubtype_type]; kernel_rfl)
theorem en_next : entryFor table "set_iterator.__next__" = some Builtin.«set_iterator.__next__» := entryFor_of_fast (by kernel_rfl)
theorem ar_next (a : Value) : argsOk "set_iterator.__next__" ⟨[a], []⟩ := by
 unfold argsOk
 kernel_rfl
theorem st_self : Slot "set_iterator" "__iter__" "set_iterator.__iter__" :=
 Slot.of (owner := "set_iterator") (n := "__iter__") (by rw [typeLookup_type, builtinLookup_eq_fast]; kernel_rfl) (by decide +kernel) (by decide +kernel) (by decide +kernel) (by first | exact .inl (by decide +kernel) | exact .inr (by decide +kernel)) (by rw [isSubtype_type]; kernel_rfl)
theorem en_self : entryFor table "set_iterator.__iter__" = some Builtin.«dict_keyiterator.__iter__» := entryFor_alias (id' := "dict_keyiterator.__iter__") (by kernel_rfl) rfl (by decide +kernel) (by kernel_rfl)
theorem ar_self (a : Value) : argsOk "set_iterator.__iter__" ⟨[a], []⟩ := by
 unfold argsOk
 kernel_rfl
section
variable {prog : Program} {w : World} {A : Around} {E : Value -> Shared -> Prop} {s : Shared}
theorem any_stop {α : Type} {Q : α -> Shared -> Prop} (hh : A.handled = none)
  (h : ∀ e h', (∀ b o, s.heap.get? b = some o -> h'.get? b = some o) -> Shared.TypeIs { s with heap := h' } (.ref e) "StopIteration" -> E (.ref e) { s with heap := h' }) :
  wpAny (model prog w) A (newExc (.type "StopIteration") [] >>= fun e => raiseNew e) Q E s := by
 refine wpAny_bind ?_
 simp only [newExc, newTuple]
 refine wpAny_bind (wpAny_newObj_type ?_ (by size_fits))
 refine wpAny_bind (m := firstArgMember _ _) (wpAny_of_eq (a := Value.none) (by first | rfl | (simp only [firstArgMember]; rfl)) ?_)
 refine wpAny_newObj_type ?_ (by size_fits)
 simp only [raiseNew]
 refine wpAny_bind (wpAny_handled ?_)
 rw [hh]
 refine wpAny_bind (wpAny_pure (wpAny_throw ?_))
 exact h _ _ (fun b o e => Heap.get?_push_of_some _ (Heap.get?_push_of_some _ e)) ⟨_, Heap.get?_push_size _ rfl, rfl⟩
theorem any_next {it : Addr} {o : Obj} {Q : Option Value -> Shared -> Prop} (ho : s.heap.get? it = some o) (hc : o.cls = .type "set_iterator")
  (h : wpAny (model prog w) A.in1 (Builtin.«set_iterator.__next__» ⟨[.ref it], []⟩) (fun r s' => ∃ v, r = .done (.ret v) /\ Q (some v) s') (fun e s' => s'.TypeIs e "StopIteration" /\ Q none s') s) :
  wpAny (model prog w) A (pyNext (.ref it)) Q E s := by
 have ht : s.TypeIs (.ref it) "set_iterator" := ⟨o, ho, hc⟩
 unfold pyNext
 refine wpAny_bind (wpAny_attempt (wpAny_callSpecial?_slot (name := Str.ofString "__next__") ht st_next (wpAny_call_entry st_next ht en_next ?_ (ar_next _))))
 refine wpAny_mono h (fun r s' ⟨v, e, q⟩ => ⟨v, e, wpAny_pure q⟩) fun e s' ⟨t, q⟩ => ?_
 exact wpAny_bind (wpAny_isInstance (T := "StopIteration") (b := true) t isSubtype_stop (wpAny_pure q))
end
end L2
namespace L2
open PySem PySem.Spec PyProof.Rows
abbrev itO (first : Value) (i : Nat) (a : Addr) (n ep : Nat) : Obj := { cls := .type "set_iterator", data := .fields #[first, .int (i : Int) 0, .ref a, .int (n : Int) 0, .int (ep : Int) 0] }
section
variable {prog : Program} {w : World} {A : Around} {E : Value -> Shared -> Prop} {s : Shared} {it a : Addr} {us : List Str} {es : Array (Int × Value)} {ep : Nat} {t : SetTable}
theorem any_entries {Q : Array (Int × Value) -> Shared -> Prop} (ho : s.heap.get? a = some (setO es ep t)) (hf : t.fits es.size = true) (h : Q es s) : wpAny (model prog w) A (setEntries a) Q E s := by
 unfold setEntries
 exact wpAny_bind (wpAny_setState_of ho rfl hf (wpAny_pure h))
theorem any_byText {Q : Bool -> Shared -> Prop} (h : Q (byT w) s) : wpAny (model prog w) A setsByText Q E s := by
 unfold setsByText
 exact wpAny_bind (wpAny_askSetting (wpAny_pure h))
theorem any_nextNo {i slot : Nat} {n : Nat} {Q : Fin -> Shared -> Prop} (hi : s.heap.get? it = some (itO (.int (slot : Int) 0) i a n ep)) (ho : s.heap.get? a = some (setO es ep t)) (hf : t.fits es.size = true) (hn : es.size = n)
  (h : wpAny (model prog w) A (setNext a slot i ep) (fun r s' => wpAny (model prog w) A (match r with
   | some (x, next) => do
    setField (.ref it) 0 (rawInt next)
    setField (.ref it) 1 (rawInt (i + 1))
    ret x
   | none => do setField (.ref it) 2 .none; raiseNew (<- newExc (.type "StopIteration") [])) Q E s') E s) :
  wpAny (model prog w) A (Builtin.«set_iterator.__next__» ⟨[.ref it], []⟩) Q E s := by
 unfold Builtin.«set_iterator.__next__»
 refine wpAny_bind (m := slotArgs "__next__" 0 ⟨[.ref it], []⟩) (wpAny_pure ?_)
 dsimp only
 refine wpAny_bind (wpAny_fieldsOf hi rfl ?_)
 show wpAny _ _ (setEntries a >>= _) _ _ s
 refine wpAny_bind (any_entries ho hf ?_)
 rw [hn]
 simp only [bne_self_eq_false, Bool.false_eq_true, if_false]
 refine wpAny_bind (m := setNext a slot i ep) h
end
end L2
namespace L2
open PySem PySem.Spec PyProof.Rows
section
variable {prog : Program} {w : World} {A : Around} {E : Value -> Shared -> Prop} {s : Shared} {it a : Addr} {us : List Str} {es : Array (Int × Value)} {ep : Nat} {t : SetTable}
theorem any_endIt {o : Obj} {vs : Array Value} {k : Nat} {Q : Fin -> Shared -> Prop} (hh : A.handled = none) (hi : s.heap.get? it = some o) (hd : o.data = .fields vs) (hk : k < vs.size)
  (h : ∀ e h', (∀ b u, b ≠ it -> s.heap.get? b = some u -> h'.get? b = some u) -> Shared.TypeIs { s with heap := h' } (.ref e) "StopIteration" -> E (.ref e) { s with heap := h' }) :
  wpAny (model prog w) A (do setField (.ref it) k .none; raiseNew (<- newExc (.type "StopIteration") [])) Q E s := by
 refine wpAny_bind (wpAny_setField hi hd hk ?_)
 refine any_stop hh fun e h' kp ty => h e h' (fun b u hb q => kp b u ?_) ty
 rw [(Heap.SameBut.update s.heap it _).2 b hb]; exact q
theorem walkAB (hh : A.handled = none) (hb : byT w = true) (fit : t.fits es.size = true) (it a : Addr) (ne : it ≠ a) :
  WalksS prog w A it [it, a] [it] Eq es.size (fun i v => (pickOrder (w.params.setOrder a ep) es)[i]?.map (·.2) = some v)
   (fun i s => s.heap.get? it = some (itO (.int 0 0) i a es.size ep) /\ s.heap.get? a = some (setO es ep t)) where
 sub := fun b hb => by simp at hb; simp [hb]
 grefl := fun _ => rfl
 gtrans := fun _ _ _ x y => x.trans y
 frame := fun i s h' tk st _ k => ⟨k it (by simp) _ st.1, k a (by simp) _ st.2⟩
 item := fun i s Q E hi st hQ => by
  refine any_next st.1 rfl (any_nextNo (slot := 0) st.1 st.2 fit rfl ?_)
  have sz : (pickOrder (w.params.setOrder a ep) es).size = es.size := by have := (pick_perm (w.params.setOrder a ep) es).length_eq; simpa using this
  unfold setNext
  refine wpAny_bind (wpAny_setState_of st.2 rfl fit ?_)
  dsimp only
  refine wpAny_bind (any_byText ?_)
  rw [if_pos hb]
  simp only [bne_self_eq_false, Bool.false_eq_true, if_false]
  unfold setWalk
  refine wpAny_bind (wpAny_bind (wpAny_setState_of st.2 rfl fit ?_))
  dsimp only
  refine wpAny_bind (any_byText ?_)
  rw [if_pos hb]
  refine wpAny_bind (wpAny_askSetting (wpAny_pure ?_))
  refine wpAny_pure ?_
  have hlt : i < (pickOrder (w.params.setOrder a ep) es).size := by rw [sz]; exact hi
  show wpAny _ _ (match Option.map (fun e => (e.2, 0)) (pickOrder (w.params.setOrder a ep) es)[i]? with
   | some (x, next) => do
    setField (.ref it) 0 (rawInt (next : Nat))
    setField (.ref it) 1 (rawInt (i + 1))
    ret x
   | none => do setField (.ref it) 2 .none; raiseNew (<- newExc (.type "StopIteration") [])) _ _ _
  rw [Array.getElem?_eq_getElem hlt]
  dsimp only [Option.map_some]
  refine wpAny_bind (wpAny_setField_rec st.1 (by simp) fun h1 g1 b1 => ?_)
  refine wpAny_bind (wpAny_setField_rec g1 (by simp) fun h2 g2 b2 => ?_)
  refine wpAny_pure ⟨_, rfl, hQ _ _ (by rw [Array.getElem?_eq_getElem hlt]; rfl) ⟨?_, ?_⟩ ⟨?_, rfl, rfl, rfl, Nat.le_refl _⟩⟩
  ·rw [g2]; rfl
  ·rw [b2.2 a ne.symm, b1.2 a ne.symm]; exact st.2
  ·intro b o hb e
   have hb' : b ≠ it := by simpa using hb
   rw [b2.2 b hb', b1.2 b hb']; exact e
 done := fun s Q E st hQ => by
  refine any_next st.1 rfl (any_nextNo (slot := 0) st.1 st.2 fit rfl ?_)
  have sz : (pickOrder (w.params.setOrder a ep) es).size = es.size := by have := (pick_perm (w.params.setOrder a ep) es).length_eq; simpa using this
  unfold setNext
  refine wpAny_bind (wpAny_setState_of st.2 rfl fit ?_)
  dsimp only
  refine wpAny_bind (any_byText ?_)
  rw [if_pos hb]
  simp only [bne_self_eq_false, Bool.false_eq_true, if_false]
  unfold setWalk
  refine wpAny_bind (wpAny_bind (wpAny_setState_of st.2 rfl fit ?_))
  dsimp only
  refine wpAny_bind (any_byText ?_)
  rw [if_pos hb]
  refine wpAny_bind (wpAny_askSetting (wpAny_pure ?_))
  refine wpAny_pure ?_
  show wpAny _ _ (match Option.map (fun e => (e.2, 0)) (pickOrder (w.params.setOrder a ep) es)[es.size]? with
   | some (x, next) => do
    setField (.ref it) 0 (rawInt (next : Nat))
    setField (.ref it) 1 (rawInt ((es.size : Int) + 1))
    ret x
   | none => do setField (.ref it) 2 .none; raiseNew (<- newExc (.type "StopIteration") [])) _ _ _
  rw [Array.getElem?_eq_none (show (pickOrder (w.params.setOrder a ep) es).size <= es.size by rw [sz]; exact Nat.le_refl _)]
  dsimp only [Option.map_none]
  refine any_endIt hh st.1 rfl (by simp) fun e h' kp ty => ⟨ty, hQ _ ⟨fun b o hb q => kp b o (by simpa using hb) q, rfl, rfl, rfl, Nat.le_refl _⟩⟩
 self := fun i s Q E st hQ => by
  have ht : s.TypeIs (.ref it) "set_iterator" := ⟨_, st.1, rfl⟩
  refine wpAny_pyIter_slot ht st_self (wpAny_call_entry st_self ht en_self ?_ (ar_self _))
  show wpAny _ _ (ret (.ref it)) _ _ s
  exact wpAny_pure ⟨_, rfl, "set_iterator", _, ht, st_next.lookup, hQ⟩
theorem any_setNextQ {slot i : Nat} {Q : Option (Value × Nat) -> Shared -> Prop} (hb : byT w = false) (ho : s.heap.get? a = some (setO es ep t)) (fit : t.fits es.size = true) (hp : t.plain = true \/ es.size <= 1) (hl : t.led = true)
  (h : Q (match es[SetTable.below t.place slot]?, t.place[SetTable.below t.place slot]? with
  | some (_, x), some j => some (x, j + 1)
  | _, _ => none) s) : wpAny (model prog w) A (setNext a slot i ep) Q E s := by
 unfold setNext
 refine wpAny_bind (wpAny_setState_of ho rfl fit ?_)
 dsimp only
 refine wpAny_bind (any_byText ?_)
 rw [hb]
 simp only [Bool.false_eq_true, if_false, Bool.not_false]
 show wpAny _ _ (if (!t.plain && decide (es.size > 1)) = true then _ else (do
  (if (!t.led && !es.isEmpty) = true then unsupported "set:maker-not-led" else pure () : Sem Unit)
  pure (match es[SetTable.below t.place slot]?, t.place[SetTable.below t.place slot]? with
   | some (_, x), some j => some (x, j + 1)
   | _, _ => none))) _ _ _
 rw [if_neg (by rcases hp with q | q <;> simp [q])]
 refine wpAny_bind ?_
 rw [if_neg (by rw [hl]; simp)]
 exact wpAny_pure (wpAny_pure h)
def slotR (xs : Array Nat) (i : Nat) : Nat := if i = 0 then 0 else xs.getD (i - 1) 0 + 1
theorem slot_bel {xs : Array Nat} (R : Rises xs) {i : Nat} (hi : i <= xs.size) : SetTable.below xs (slotR xs i) = i := by
 refine below_eq R ⟨hi, fun k a hk e => ?_, fun k a hk e => ?_⟩
 ·unfold slotR
  rw [if_neg (by omega)]
  have hm : i - 1 < xs.size := by omega
  have em : xs[i - 1]? = some xs[i - 1] := Array.getElem?_eq_getElem hm
  rw [show xs.getD (i - 1) 0 = xs[i - 1] by simp [Array.getD, hm]]
  by_cases q : k = i - 1
  ·subst q; rw [em] at e; cases e; exact Nat.lt_succ_self _
  ·have := R k (i - 1) (by omega) a _ e em; omega
 ·unfold slotR
  split
  ·exact Nat.zero_le _
  ·have hm : i - 1 < xs.size := by omega
   have em : xs[i - 1]? = some xs[i - 1] := Array.getElem?_eq_getElem hm
   rw [show xs.getD (i - 1) 0 = xs[i - 1] by simp [Array.getD, hm]]
   exact R (i - 1) k (by omega) _ a em e
theorem one_rises {xs : Array Nat} (h : xs.size <= 1) : Rises xs := fun i j hij a b ha hb => by
 have := (Array.getElem?_eq_some_iff.mp hb).1
 omega
theorem walkQ (hh : A.handled = none) (hb : byT w = false) (fit : t.fits es.size = true) (hp : t.plain = true \/ es.size <= 1) (R : Rises t.place) (hl : t.led = true) (it a : Addr) (ne : it ≠ a) :
  WalksS prog w A it [it, a] [it] Eq es.size (fun i v => es[i]?.map (·.2) = some v)
   (fun i s => s.heap.get? it = some (itO (.int ((slotR t.place i : Nat) : Int) 0) i a es.size ep) /\ s.heap.get? a = some (setO es ep t)) where
 sub := fun b hb => by simp at hb; simp [hb]
 grefl := fun _ => rfl
 gtrans := fun _ _ _ x y => x.trans y
 frame := fun i s h' tk st _ k => ⟨k it (by simp) _ st.1, k a (by simp) _ st.2⟩
 item := fun i s Q E hi st hQ => by
  have sz : t.place.size = es.size := by
   unfold SetTable.fits at fit
   simp only [Bool.and_eq_true, beq_iff_eq] at fit
   exact fit.1
  refine any_next st.1 rfl (any_nextNo (slot := slotR t.place i) st.1 st.2 fit rfl ?_)
  refine any_setNextQ hb st.2 fit hp hl ?_
  rw [slot_bel R (by omega), Array.getElem?_eq_getElem hi, Array.getElem?_eq_getElem (show i < t.place.size by omega)]
  show wpAny _ _ (do
    setField (.ref it) 0 (rawInt ((t.place[i] + 1 : Nat) : Int))
    setField (.ref it) 1 (rawInt ((i : Nat) + 1 : Int))
    ret es[i].2) _ _ _
  have e2 : slotR t.place (i + 1) = t.place[i] + 1 := by
   unfold slotR
   rw [if_neg (by omega)]
   simp [Array.getD, show i < t.place.size by omega]
  rw [<- e2]
  refine wpAny_bind (wpAny_setField_rec st.1 (by simp) fun h1 g1 b1 => ?_)
  refine wpAny_bind (wpAny_setField_rec g1 (by simp) fun h2 g2 b2 => ?_)
  refine wpAny_pure ⟨_, rfl, hQ _ _ (by rw [Array.getElem?_eq_getElem hi]; rfl) ⟨?_, ?_⟩ ⟨?_, rfl, rfl, rfl, Nat.le_refl _⟩⟩
  ·rw [g2]; rfl
  ·rw [b2.2 a ne.symm, b1.2 a ne.symm]; exact st.2
  ·intro b o hb e
   have hb' : b ≠ it := by simpa using hb
   rw [b2.2 b hb', b1.2 b hb']; exact e
 done := fun s Q E st hQ => by
  have sz : t.place.size = es.size := by
   unfold SetTable.fits at fit
   simp only [Bool.and_eq_true, beq_iff_eq] at fit
   exact fit.1
  refine any_next st.1 rfl (any_nextNo (slot := slotR t.place es.size) st.1 st.2 fit rfl ?_)
  refine any_setNextQ hb st.2 fit hp hl ?_
  rw [slot_bel R (by omega), Array.getElem?_eq_none (Nat.le_refl _)]
  dsimp only
  exact any_endIt hh st.1 rfl (by simp) fun e h' kp ty => ⟨ty, hQ _ ⟨fun b o hb q => kp b o (by simpa using hb) q, rfl, rfl, rfl, Nat.le_refl _⟩⟩
 self := fun i s Q E st hQ => by
  have ht : s.TypeIs (.ref it) "set_iterator" := ⟨_, st.1, rfl⟩
  refine wpAny_pyIter_slot ht st_self (wpAny_call_entry st_self ht en_self ?_ (ar_self _))
  show wpAny _ _ (ret (.ref it)) _ _ s
  exact wpAny_pure ⟨_, rfl, "set_iterator", _, ht, st_next.lookup, hQ⟩
abbrev tupO (ps : List Nat) : Obj := { cls := .type "tuple", data := .seq (ps.map fun (i : Nat) => rawInt (i : Int)).toArray }
theorem any_nextDr {i : Nat} {n : Nat} {tu : Addr} {ps : List Nat} {Q : Fin -> Shared -> Prop} (hi : s.heap.get? it = some (itO (.ref tu) i a n ep)) (ho : s.heap.get? a = some (setO es ep t)) (hu : s.heap.get? tu = some (tupO ps)) (hf : t.fits es.size = true) (hn : es.size = n)
  (h : match ps[i]? with
   | some pl => ∃ e, es[pl]? = some e /\ wpAny (model prog w) A (do
    setField (.ref it) 1 (rawInt (i + 1))
    ret e.2) Q E s
   | none => wpAny (model prog w) A (do setField (.ref it) 0 (rawInt 0); setField (.ref it) 2 .none; raiseNew (<- newExc (.type "StopIteration") [])) Q E s) :
  wpAny (model prog w) A (Builtin.«set_iterator.__next__» ⟨[.ref it], []⟩) Q E s := by
 unfold Builtin.«set_iterator.__next__»
 refine wpAny_bind (m := slotArgs "__next__" 0 ⟨[.ref it], []⟩) (wpAny_pure ?_)
 dsimp only
 refine wpAny_bind (wpAny_fieldsOf hi rfl ?_)
 show wpAny _ _ (setEntries a >>= _) _ _ s
 refine wpAny_bind (any_entries ho hf ?_)
 rw [hn]
 simp only [bne_self_eq_false, Bool.false_eq_true, if_false]
 show wpAny _ _ (seqItems? (.ref tu) >>= _) _ _ s
 refine wpAny_bind (wpAny_seqItems hu rfl ?_)
 dsimp only
 have e : (ps.map fun (i : Nat) => rawInt (i : Int)).toArray[((i : Int)).toNat]? = ps[i]?.map fun (i : Nat) => rawInt (i : Int) := by simp
 rw [e]
 cases q : ps[i]? with
 | none =>
  rw [q] at h
  exact h
 | some pl =>
  rw [q] at h
  obtain ⟨en, he, h⟩ := h
  show wpAny _ _ (setNextDrawn a ((pl : Int)).toNat ((ep : Int)).toNat >>= _) _ _ s
  unfold setNextDrawn
  refine wpAny_bind (wpAny_bind (wpAny_setState_of ho rfl hf ?_))
  dsimp only
  rw [show ((ep : Int)).toNat = ep by simp, show ((pl : Int)).toNat = pl by simp]
  simp only [bne_self_eq_false, Bool.false_eq_true, if_false]
  rw [he]
  exact wpAny_pure h
theorem walkD (hh : A.handled = none) (fit : t.fits es.size = true) (it a tu : Addr) (ne : it ≠ a) (nu : it ≠ tu) (ps : List Nat) (hp : ps.Perm (List.range es.size)) :
  WalksS prog w A it [it, a, tu] [it] Eq es.size (fun i v => ∃ pl e, ps[i]? = some pl /\ es[pl]? = some e /\ v = e.2)
   (fun i s => s.heap.get? it = some (itO (.ref tu) i a es.size ep) /\ s.heap.get? a = some (setO es ep t) /\ s.heap.get? tu = some (tupO ps)) where
 sub := fun b hb => by simp at hb; simp [hb]
 grefl := fun _ => rfl
 gtrans := fun _ _ _ x y => x.trans y
 frame := fun i s h' tk st _ k => ⟨k it (by simp) _ st.1, k a (by simp) _ st.2.1, k tu (by simp) _ st.2.2⟩
 item := fun i s Q E hi st hQ => by
  have pl : ps.length = es.size := by rw [hp.length_eq, List.length_range]
  have hlt : i < ps.length := by omega
  have hm : ps[i] < es.size := by have := hp.mem_iff.mp (List.getElem_mem hlt); simpa using this
  refine any_next st.1 rfl (any_nextDr st.1 st.2.1 st.2.2 fit rfl ?_)
  rw [List.getElem?_eq_getElem hlt]
  refine ⟨es[ps[i]], Array.getElem?_eq_getElem hm, ?_⟩
  refine wpAny_bind (wpAny_setField_rec st.1 (by simp) fun h1 g1 b1 => ?_)
  refine wpAny_pure ⟨_, rfl, hQ _ _ ⟨_, _, List.getElem?_eq_getElem hlt, Array.getElem?_eq_getElem hm, rfl⟩ ⟨?_, ?_, ?_⟩ ⟨?_, rfl, rfl, rfl, Nat.le_refl _⟩⟩
  ·rw [g1]; rfl
  ·rw [b1.2 a ne.symm]; exact st.2.1
  ·rw [b1.2 tu nu.symm]; exact st.2.2
  ·intro b o hb e
   have hb' : b ≠ it := by simpa using hb
   rw [b1.2 b hb']; exact e
 done := fun s Q E st hQ => by
  have pl : ps.length = es.size := by rw [hp.length_eq, List.length_range]
  refine any_next st.1 rfl (any_nextDr st.1 st.2.1 st.2.2 fit rfl ?_)
  rw [List.getElem?_eq_none (by omega)]
  refine wpAny_bind (wpAny_setField_rec st.1 (by simp) fun h1 g1 b1 => ?_)
  refine any_endIt hh g1 rfl (by simp) fun e h' kp ty => ⟨ty, hQ _ ⟨fun b o hb q => kp b o (by simpa using hb) ?_, rfl, rfl, rfl, Nat.le_refl _⟩⟩
  have hb' : b ≠ it := by simpa using hb
  show h1.get? b = some o
  rw [b1.2 b hb']; exact q
 self := fun i s Q E st hQ => by
  have ht : s.TypeIs (.ref it) "set_iterator" := ⟨_, st.1, rfl⟩
  refine wpAny_pyIter_slot ht st_self (wpAny_call_entry st_self ht en_self ?_ (ar_self _))
  show wpAny _ _ (ret (.ref it)) _ _ s
  exact wpAny_pure ⟨_, rfl, "set_iterator", _, ht, st_next.lookup, hQ⟩
end
end L2
namespace L2
open PySem PySem.Spec PyProof.Rows
def ToldV (P : Nat -> Value -> Prop) (vs : List Value) : Prop := ∀ acc : Array Value, ItemsOf P acc vs.length -> acc.toList.Perm vs
theorem toldV_of {P : Nat -> Value -> Prop} {vs out : List Value} (hl : out.length = vs.length) (h : ∀ i v, P i v -> out[i]? = some v) (hp : out.Perm vs) : ToldV P vs := fun acc ⟨h1, h2⟩ => by
 have e : acc.toList = out := by
  apply List.ext_getElem?
  intro i
  by_cases hi : i < acc.size
  ·rw [h i acc[i] (h2 i _ (Array.getElem?_eq_getElem hi)), Array.getElem?_toList, Array.getElem?_eq_getElem hi]
  ·rw [Array.getElem?_toList, Array.getElem?_eq_none (by omega), List.getElem?_eq_none (by omega)]
 rw [e]
 exact hp
section
variable {prog : Program} {w : World} {A : Around} {E : Value -> Shared -> Prop} {s : Shared} {a : Addr} {es : Array (Int × Value)} {ep : Nat} {t : SetTable}
theorem any_iterV {Q : Value -> Shared -> Prop} (ho : s.heap.get? a = some (setO es ep t)) (fit : t.fits es.size = true) (lt : es.size < scanBound) (ld : t.led = !byT w) (hR : t.plain = true \/ es.size <= 1 -> Rises t.place)
  (h : ∀ (it : Addr) (fp : List Addr) (P : Nat -> Value -> Prop) (St : Nat -> Shared -> Prop) (h' : Heap) (d : Drawn), (∀ A' : Around, A'.handled = none -> ∃ n, n = es.size /\ WalksS prog w A' it fp [it] Eq n P St) -> St 0 { s with heap := h', drawn := d } -> ToldV P (es.toList.map (·.2)) ->
   (∀ b ∈ fp, b = a \/ s.heap.objs.size <= b) -> s.heap.objs.size <= it -> (∀ b o, s.heap.get? b = some o -> h'.get? b = some o) -> Q (.ref it) { s with heap := h', drawn := d }) :
  wpAny (model prog w) A (pyIter (.ref a)) Q E s := by
 have alt : a < s.heap.objs.size := Heap.lt_size ho
 have ht : s.TypeIs (.ref a) "set" := ⟨_, ho, rfl⟩
 have lv : (es.toList.map (·.2)).length = es.size := by rw [List.length_map, Array.length_toList]
 refine wpAny_pyIter_slot ht st_iter (wpAny_call_entry st_iter ht en_iter ?_ (ar_iter _))
 unfold Builtin.«frozenset.__iter__» Builtin.Frozenset.slot0
 refine wpAny_bind (wpAny_bind (m := slotArgs "__iter__" 0 ⟨[.ref a], []⟩) (wpAny_pure ?_))
 show wpAny _ _ (pure a) _ _ s
 refine wpAny_pure ?_
 unfold Builtin.Frozenset.sizeOf
 refine wpAny_bind (wpAny_bind (any_entries ho fit (wpAny_pure ?_)))
 unfold setDrawn
 refine wpAny_bind (wpAny_bind (wpAny_setState_of ho rfl fit ?_))
 dsimp only
 refine wpAny_bind (any_byText (wpAny_pure ?_))
 show wpAny _ _ (if (!byT w && (!t.plain && decide (es.size > 1))) = true then _ else _) _ _ s
 have fin : ∀ (first : Value) (h1 : Heap) (d : Drawn) (St : Nat -> Shared -> Prop), (∀ b o, s.heap.get? b = some o -> h1.get? b = some o) -> s.heap.objs.size <= h1.objs.size ->
   (∀ s2 : Shared, s2.heap.get? h1.objs.size = some (itO first 0 a es.size ep) -> (∀ b o, h1.get? b = some o -> s2.heap.get? b = some o) ->
    Q (.ref h1.objs.size) { s with heap := h1.push (itO first 0 a es.size ep), drawn := d }) -> wpAny (model prog w) A.in1 (do
   ret (<- newFields "set_iterator" [first, rawInt 0, .ref a, rawInt es.size, rawInt (<- setEpoch a)])) (fun fin s' => ∃ v, fin = .done (.ret v) /\ ∃ T' r, s'.TypeIs v T' /\ typeLookup (.type T') "__next__" = pure (some r) /\ Q v s') E { s with heap := h1, drawn := d } := by
  intro first h1 d St k le q
  refine wpAny_bind (wpAny_setEpoch_of (k a _ ho) rfl fit ?_)
  refine wpAny_bind (wpAny_newObj_type ?_ (by size_fits))
  exact wpAny_pure ⟨_, rfl, "set_iterator", _, ⟨_, Heap.get?_push_size _ rfl, rfl⟩, st_next.lookup, q { s with heap := h1.push (itO first 0 a es.size ep) } (Heap.get?_push_size _ rfl) fun b o e => Heap.get?_push_of_some _ e⟩
 cases hb : byT w with
 | true =>
  rw [if_neg (by simp)]
  refine wpAny_bind (wpAny_pure ?_)
  have e : s = { s with heap := s.heap, drawn := s.drawn } := by cases s; rfl
  have hp := pick_perm (w.params.setOrder a ep) es
  have nea : s.heap.objs.size ≠ a := Nat.ne_of_gt alt
  refine fin (.int 0 0) s.heap s.drawn (fun _ _ => True) (fun _ _ e => e) (Nat.le_refl _) fun s2 g k => ?_
  refine h s.heap.objs.size [s.heap.objs.size, a] _ _ _ _ (fun A' hA => ⟨es.size, rfl, walkAB (ep := ep) hA hb fit _ a nea⟩) ⟨Heap.get?_push_size _ rfl, Heap.get?_push_of_some _ ho⟩ ?_ (fun b m => ?_) (Nat.le_refl _) fun b o e => Heap.get?_push_of_some _ e
  ·refine toldV_of (out := (pickOrder (w.params.setOrder a ep) es).toList.map (·.2)) (by rw [List.length_map, List.length_map, hp.length_eq]) (fun i v q => ?_) (hp.map _)
   rw [List.getElem?_map, Array.getElem?_toList]
   exact q
  ·simp only [List.mem_cons, List.not_mem_nil, or_false] at m
   rcases m with m | m
   ·exact .inr (by rw [m]; exact Nat.le_refl _)
   ·exact .inl m
 | false =>
  have hl : t.led = true := by rw [ld, hb]; rfl
  by_cases h1 : t.plain = true \/ es.size <= 1
  ·rw [if_neg (by rcases h1 with q | q <;> simp [q])]
   refine wpAny_bind (wpAny_pure ?_)
   have nea : s.heap.objs.size ≠ a := Nat.ne_of_gt alt
   refine fin (.int 0 0) s.heap s.drawn (fun _ _ => True) (fun _ _ e => e) (Nat.le_refl _) fun s2 g k => ?_
   refine h s.heap.objs.size [s.heap.objs.size, a] _ _ _ _ (fun A' hA => ⟨es.size, rfl, walkQ (ep := ep) hA hb fit h1 (hR h1) hl _ a nea⟩) ⟨Heap.get?_push_size _ rfl, Heap.get?_push_of_some _ ho⟩ ?_ (fun b m => ?_) (Nat.le_refl _) fun b o e => Heap.get?_push_of_some _ e
   ·refine toldV_of (out := es.toList.map (·.2)) rfl (fun i v q => ?_) (.refl _)
    rw [List.getElem?_map, Array.getElem?_toList]
    exact q
   ·simp only [List.mem_cons, List.not_mem_nil, or_false] at m
    rcases m with m | m
    ·exact .inr (by rw [m]; exact Nat.le_refl _)
    ·exact .inl m
  ·obtain ⟨np, h2⟩ := not_or.mp h1
   have np : t.plain = false := by simpa using np
   rw [if_pos (by simp [np]; omega)]
   refine wpAny_bind (any_drawOrder es.size (List.range es.size) s (by simp) fun ps d hp => ?_)
   refine wpAny_bind (wpAny_newTuple ?_ (by rw [List.length_map, hp.length_eq, List.length_range]; exact fits_of_scanBound lt))
   have nea : s.heap.objs.size ≠ a := Nat.ne_of_gt alt
   have e2 : (s.heap.push (tupO ps)).objs.size = s.heap.objs.size + 1 := Heap.size_push ..
   refine fin (.ref s.heap.objs.size) (s.heap.push (tupO ps)) d (fun _ _ => True) (fun _ _ e => Heap.get?_push_of_some _ e) (by rw [e2]; omega) fun s2 g k => ?_
   refine h (s.heap.push (tupO ps)).objs.size [(s.heap.push (tupO ps)).objs.size, a, s.heap.objs.size] _ _ _ _ (fun A' hA => ⟨es.size, rfl, walkD (ep := ep) hA fit _ a s.heap.objs.size (by rw [e2]; exact Nat.ne_of_gt (Nat.lt_succ_of_lt alt)) (by rw [e2]; exact Nat.ne_of_gt (Nat.lt_succ_self _)) ps hp⟩) ⟨Heap.get?_push_size _ rfl, Heap.get?_push_of_some _ (Heap.get?_push_of_some _ ho), Heap.get?_push_of_some _ (Heap.get?_push_size _ rfl)⟩ ?_ (fun b m => ?_) (by rw [e2]; omega) fun b o e => Heap.get?_push_of_some _ (Heap.get?_push_of_some _ e)
   ·have hfm : (ps.filterMap fun p => es[p]?).Perm es.toList := (hp.filterMap _).trans (by rw [filterMap_getElem?_range])
    have hmm : ∀ p ∈ ps, p < es.size := fun p m => by have := hp.mem_iff.mp m; simpa using this
    have hall : ∀ (l : List Nat), (∀ p ∈ l, p < es.size) -> ∀ i : Nat, (l.filterMap fun p => es[p]?)[i]? = (l[i]?).bind fun p => es[p]? := by
     intro l
     induction l with
     | nil => intro _ i; simp
     | cons x l ih =>
      intro hx i
      have hx0 := hx x (by simp)
      rw [List.filterMap_cons, Array.getElem?_eq_getElem hx0]
      cases i with
      | zero => simp [hx0]
      | succ i => simp only [List.getElem?_cons_succ]; exact ih (fun p m => hx p (List.mem_cons_of_mem _ m)) i
    refine toldV_of (out := (ps.filterMap fun p => es[p]?).map (·.2)) (by rw [List.length_map, List.length_map, hfm.length_eq]) (fun i v ⟨pl, e, q1, q2, q3⟩ => ?_) (hfm.map _)
    rw [List.getElem?_map, hall ps hmm, q1]
    simp [q2, q3]
   ·simp only [List.mem_cons, List.not_mem_nil, or_false] at m
    rcases m with m | m | m
    ·exact .inr (by rw [m, e2]; omega)
    ·exact .inl m
    ·exact .inr (by rw [m]; exact Nat.le_refl _)
end
end L2
namespace L2
open PySem PySem.Spec PyProof.Rows
theorem st_len : Slot "set" "__len__" "set.__len__" :=
 Slot.of (owner := "set") (n := "__len__") (by rw [typeLookup_type, builtinLookup_eq_fast]; kernel_rfl) (by decide +kernel) (by decide +kernel) (by decide +kernel) (by first | exact .inl (by decide +kernel) | exact .inr (by decide +kernel)) (by rw [isSubtype_type]; kernel_rfl)
theorem sub_ss : isSubtype (.type "set") (.type "set") = pure true := by rw [isSubtype_type]; kernel_rfl
section
variable {prog : Program} {w : World} {A : Around} {E : Value -> Shared -> Prop} {s : Shared} {a : Addr} {us : List Str}
theorem any_hint {Q : Bool -> Shared -> Prop} (ht : s.TypeIs (.ref a) "set") (h : Q false s) : wpAny (model prog w) A (Builtin.List.listLengthHint (.ref a)) Q E s := by
 unfold Builtin.List.listLengthHint
 refine wpAny_bind (wpAny_specialOf ht st_len.lookup ?_)
 have e1 : splitId "set.__len__" = some ("set", "__len__") := by decide +kernel
 dsimp only
 rw [e1]
 dsimp only
 refine wpAny_bind (wpAny_isInstance ht sub_ss ?_)
 simp only [Bool.not_true, Bool.false_eq_true, if_false]
 refine wpAny_ite ?_
 rw [if_pos (by decide +kernel)]
 refine wpAny_bind (wpAny_typeOf ht ?_)
 exact wpAny_pure h
end
end L2
namespace L2
open PySem PySem.Spec PyProof.Rows
section
variable {prog : Program} {w : World} {A : Around} {E : Value -> Shared -> Prop} {s : Shared} {a : Addr} {us : List Str}
theorem any_collectV {es : Array (Int × Value)} {ep : Nat} {t : SetTable} {Q : List Value -> Shared -> Prop} (hh : A.handled = none) (ho : s.heap.get? a = some (setO es ep t)) (fit : t.fits es.size = true) (lt : es.size < scanBound) (ld : t.led = !byT w) (hR : t.plain = true \/ es.size <= 1 -> Rises t.place)
  (hQ : ∀ h' d tk (acc : List Value), acc.Perm (es.toList.map (·.2)) -> s.heap.objs.size < h'.objs.size -> (∀ b o, s.heap.get? b = some o -> h'.get? b = some o) -> Q acc { s with heap := h', drawn := d, toks := tk }) :
  wpAny (model prog w) A (collect (.ref a)) Q E s := by
 have hl : es.size <= sizeLine := fits_of_scanBound lt
 have alt : a < s.heap.objs.size := Heap.lt_size ho
 unfold collect
 refine wpAny_bind (wpAny_runValue (codeAny_builtin F.entry_proto_collect ?_))
 rw [Around.under_plainId F.plain_proto_collect _]
 show wpAny _ A.in1 (newList [] >>= fun l => again (.builtin "list.__iadd__" ⟨[l, .ref a], []⟩)) _ _ s
 refine wpAny_bind (wpAny_newObj_type ?_ (by size_fits))
 refine wpAny_pure ⟨plainId_quiet F.plain_list_iadd _, codeAny_builtin F.entry_list_iadd ?_⟩
 rw [Around.under_plainId F.plain_list_iadd _]
 show wpAny _ A.in1 (Builtin.List.listExtendWith (.ref s.heap.objs.size) (.ref a) (.ref s.heap.objs.size)) _ _ _
 unfold Builtin.List.listExtendWith
 have S1 : (s.heap.push { cls := .type "list", data := .seq ([] : List Value).toArray }).get? a = some (setO es ep t) := Heap.get?_push_of_some _ ho
 have ht : Shared.TypeIs { s with heap := s.heap.push { cls := .type "list", data := .seq ([] : List Value).toArray } } (.ref a) "set" := ⟨_, S1, rfl⟩
 refine wpAny_bind (wpAny_typeOf ht ?_)
 have h1 : Builtin.List.listSameRef (.ref s.heap.objs.size) (.ref a) = false := by simp [Builtin.List.listSameRef]; exact Nat.ne_of_gt alt
 have h2 : (Value.type "set" == Value.type "list") = false := by decide
 have h3 : (Value.type "set" == Value.type "tuple") = false := by decide
 simp only [h1, h2, h3, Bool.or_false, Bool.false_eq_true, if_false]
 refine wpAny_bind (any_iterV S1 fit lt ld hR fun it fp P St h' d W st0 td hfp hit kp => ?_)
 have ht' : Shared.TypeIs { s with heap := h', drawn := d } (.ref a) "set" := by
  obtain ⟨o, e, c⟩ := ht
  exact ⟨o, kp _ _ e, c⟩
 refine wpAny_bind (wpAny_holding (any_hint ht' ?_))
 have hA : A.in1.in1.handled = none := by simp [hh]
 obtain ⟨n, hn, W⟩ := W A.in1 (by simp [hh])
 subst hn
 refine wpAny_ite ?_
 rw [if_pos (by decide +kernel)]
 refine wpAny_bind (wpAny_rule ?_)
 have sz1 : (s.heap.push { cls := .type "list", data := .seq ([] : List Value).toArray }).objs.size = s.heap.objs.size + 1 := Heap.size_push ..
 have g0 : h'.get? s.heap.objs.size = some { cls := .type "list", data := .seq ([] : List Value).toArray } := kp _ _ (Heap.get?_push_size _ rfl)
 have nf : s.heap.objs.size ∉ fp := fun m => by
  rcases hfp _ m with z | z
  ·exact absurd z (Nat.ne_of_gt alt)
  ·rw [sz1] at z; omega
 refine wpAny_bind ?_
 show wpAny _ A.in1 (updateSeq s.heap.objs.size (·.push .none) >>= fun _ => updateSeq s.heap.objs.size (·.pop)) _ _ _
 refine wpAny_bind (wpAny_updateSeq g0 rfl ?_)
 have g1 := Heap.get?_update_self (Obj.mapSeq (·.push Value.none)) g0 rfl
 refine wpAny_updateSeq g1 rfl ?_
 have g2 := Heap.get?_update_self (Obj.mapSeq (·.pop)) g1 rfl
 have oth : ∀ b o, b ≠ s.heap.objs.size -> h'.get? b = some o -> ((h'.update s.heap.objs.size (Obj.mapSeq (·.push Value.none))).update s.heap.objs.size (Obj.mapSeq (·.pop))).get? b = some o :=
  fun b o hb e => (Heap.get?_update_other _ _ (Ne.symm hb)).trans ((Heap.get?_update_other _ _ (Ne.symm hb)).trans e)
 refine wpAny_pure ⟨plainId_quiet F.plain_extend_loop _, codeAny_extend_loopS W hl _ nf _ es.size 0 _ _ _ rfl (Nat.zero_le _)
  (W.frame 0 { s with heap := h', drawn := d } _ s.toks st0 (Nat.le_refl _) fun b hb o e => oth b o (fun z => nf (z ▸ hb)) e) g2 (ItemsOf.nil P) fun s' acc' c' hm g' hacc => ?_⟩
 show wpAny _ A (load s.heap.objs.size >>= _) _ _ s'
 refine wpAny_bind (wpAny_load g' ?_)
 have hp := td acc' (by rw [List.length_map, Array.length_toList]; exact hacc)
 obtain ⟨h'', g'', d'', tk'', os''⟩ := s'
 have e1 : g'' = s.gens := hm.gens.symm
 have e2 : os'' = s.os := hm.os
 subst e1 e2
 refine wpAny_pure (hQ h'' d'' tk'' acc'.toList hp (Heap.lt_size g') fun b o e => hm.heap b o (fun m => ?_) (oth b o (Nat.ne_of_lt (Heap.lt_size e)) (kp b o (Heap.get?_push_of_some _ e))))
 have lt := Heap.lt_size e
 simp only [List.mem_cons, List.not_mem_nil, or_false] at m
 rcases m with m | m
 ·rw [m] at lt; exact Nat.lt_irrefl _ lt
 ·rw [m] at lt; rw [sz1] at hit; exact absurd lt (Nat.not_lt.mpr (Nat.le_of_succ_le hit))
end
end L2
namespace L2
open PySem PySem.Spec PyProof.Rows
section
variable {prog : Program} {w : World} {A : Around} {E : Value -> Shared -> Prop} {s : Shared} {a : Addr} {us : List Str}
theorem SetT.rises {es : Array (Int × Value)} {t : SetTable} (T : SetT prog w us es t) (h : t.plain = true \/ es.size <= 1) : Rises t.place := by
 have fit := T.fit
 unfold SetTable.fits at fit
 simp only [Bool.and_eq_true, beq_iff_eq] at fit
 have k : es.size <= 1 := by
  rcases T.pl with q | q
  ·omega
  ·exact h.resolve_left (by rw [q]; decide)
 exact one_rises (by rw [fit.1]; exact k)
theorem any_sortedSet {Q : Value -> Shared -> Prop} (hh : A.handled = none) (S : SetS prog w a us s.heap) (h64 : us.length < 64)
  (h : ∀ h' d tk (l : Addr) (out : List Value) (ss : List Str) (e : Nat), StrsAre out ss -> ss.Perm us -> sortedS ss = true -> h'.get? l = some (seqObj "list" out.toArray e) -> s.heap.objs.size <= l -> (∀ b o, s.heap.get? b = some o -> h'.get? b = some o) ->
   Q (.ref l) { s with heap := h', drawn := d, toks := tk }) : wpAny (model prog w) A (call (.builtin "sorted") [.ref a]) Q E s := by
 refine Calls.call_function_entry kind_sorted plain_sorted entry_sorted (args_sorted1 _) ?_
 unfold Builtin.«sorted»
 refine wpAny_bind (m := checkCount "sorted" 1 1 _) (wpAny_pure ?_)
 obtain ⟨es, ep, t, ho, T⟩ := S
 refine wpAny_bind (any_collectV (by simp [hh]) ho T.fit T.lt T.ld T.rises fun h1 d tk acc pa le kp => ?_)
 obtain ⟨vs0, hv0, pv0⟩ := T.tx
 obtain ⟨vs, hs, hp0⟩ := strs_perm pa hv0
 have hp := hp0.trans pv0
 have hlen : acc.length < 64 := by rw [strs_len hs, hp.length_eq]; exact h64
 refine wpAny_bind (wpAny_newList ?_ (Nat.le_of_lt (Nat.lt_trans hlen (by decide))))
 have hoL : (h1.push (seqObj "list" acc.toArray 0)).get? h1.objs.size = some (seqObj "list" acc.toArray 0) := Heap.get?_push_size _ rfl
 refine wpAny_bind (wpAny_holding (wpAny_call_entry slot_list_sort ⟨_, hoL, rfl⟩ entry_list_sort (list_sort_treeK strKind_oneLt hoL hs.keysOf (fun v₁ v₂ rest e => keyKind_strs (by rw [<- e]; exact hs)) hlen fun st' a1 a2 => ⟨_, rfl, ?_⟩) (args_list_sort _)))
 obtain ⟨ss', b1, b2, b3⟩ := sorted_out_str hs a1 a2
 obtain ⟨e, he⟩ := sortedHeap_at (out := (arrOf st').map (·.2)) hoL
 refine wpAny_pure ⟨_, rfl, h _ _ _ _ ((arrOf st').map (·.2)).toList ss' e b1 (b2.trans hp) b3 (by rw [Array.toArray_toList]; exact he) (Nat.le_of_lt le) fun b o q => ?_⟩
 have lt := Heap.lt_size (kp b o q)
 rw [sortedHeap_old (Nat.ne_of_lt lt) (by rw [Heap.size_push]; exact Nat.lt_succ_of_lt lt)]
 exact Heap.get?_push_of_some _ (kp b o q)
end
end L2
namespace L2
open PySem PySem.Spec PyProof.Rows
def metS (val : Nat -> Str) (i : Nat) : List Str := ((List.range i).map val).foldl addS []
theorem metS_succ (val : Nat -> Str) (i : Nat) : metS val (i + 1) = addS (metS val i) (val i) := by
 unfold metS
 rw [List.range_succ, List.map_append, List.foldl_append]
 rfl
theorem metS_len (val : Nat -> Str) : ∀ i, (metS val i).length <= i
 | 0 => Nat.le_refl _
 | i + 1 => by
  rw [metS_succ]
  have := metS_len val i
  unfold addS
  split
  ·omega
  ·rw [List.length_append, List.length_singleton]; omega
theorem addS_mem (us : List Str) (x y : Str) : y ∈ addS us x ↔ y ∈ us \/ y = x := by
 unfold addS
 split
 ·exact ⟨.inl, fun h => h.elim id fun e => by subst e; assumption⟩
 ·simp
theorem addS_nd {us : List Str} (h : us.Nodup) (x : Str) : (addS us x).Nodup := by
 unfold addS
 split
 ·exact h
 ·rename_i n
  rw [List.nodup_append]
  exact ⟨h, by simp, fun a ha b hb e => n (by rw [<- show b = x by simpa using hb, <- e]; exact ha)⟩
def setL (ss : List Str) : List Str := ss.foldl addS []
theorem foldS_mem : ∀ (ss us : List Str) (y : Str), y ∈ ss.foldl addS us ↔ y ∈ us \/ y ∈ ss
 | [], us, y => by simp
 | x :: ss, us, y => by rw [List.foldl_cons, foldS_mem ss, addS_mem, List.mem_cons, or_assoc]
theorem foldS_nd : ∀ (ss us : List Str), us.Nodup -> (ss.foldl addS us).Nodup
 | [], us, h => h
 | x :: ss, us, h => foldS_nd ss _ (addS_nd h x)
theorem setL_mem (ss : List Str) (y : Str) : y ∈ setL ss ↔ y ∈ ss := by rw [setL, foldS_mem]; simp
theorem setL_nd (ss : List Str) : (setL ss).Nodup := foldS_nd ss [] List.nodup_nil
theorem metS_all {val : Nat -> Str} {ss : List Str} (h : ∀ i (hi : i < ss.length), val i = ss[i]) : metS val ss.length = setL ss := by
 unfold metS setL
 congr 1
 apply List.ext_getElem
 ·simp
 ·intro i h1 h2
  simp [h i h2]
theorem addS_len (us : List Str) (x : Str) : us.length <= (addS us x).length := by
 unfold addS
 split
 ·exact Nat.le_refl _
 ·rw [List.length_append]; omega
theorem metS_mono (val : Nat -> Str) {i n : Nat} (h : i <= n) : (metS val i).length <= (metS val n).length := by
  induction n with
  | zero => have : i = 0 := by omega
            subst this; exact Nat.le_refl _
  | succ n ih =>
    by_cases e : i = n + 1
    · subst e; exact Nat.le_refl _
    · have := ih (by omega)
      rw [metS_succ]
      have := addS_len (metS val n) (val n)
      omega
section
variable {prog : Program} {w : World} {A : Around} {R : Result -> Shared -> Prop} {I : Addr} {fp wr : List Addr} {G : Array GenState -> Array GenState -> Prop} {n : Nat} {P : Nat -> Value -> Prop} {St : Nat -> Shared -> Prop}
theorem SetS.kept {a : Addr} {us : List Str} {h h' : Heap} (S : SetS prog w a us h) (k : ∀ o, h.get? a = some o -> h'.get? a = some o) : SetS prog w a us h' := by
 obtain ⟨es, ep, t, ho, T⟩ := S
 exact ⟨es, ep, t, k _ ho, T⟩
theorem loopSetV (W : WalksS prog w A.in1 I fp wr G n P St) (S : Addr) (hf : S ∉ fp) (J : Nat -> Heap -> Prop) (kp : ∀ i h h', J i h -> (∀ o, h.get? S = some o -> h'.get? S = some o) -> J i h')
  (add : ∀ i v (s' : Shared) (Q : Bool -> Shared -> Prop) (E : Value -> Shared -> Prop), i < n -> P i v -> J i s'.heap -> (∀ b h', Heap.SameBut S s'.heap h' -> J (i + 1) h' -> Q b { s' with heap := h', toks := s'.toks + 1 }) -> wpAny (model prog w) A.in1 (setAdd S v) Q E s') :
  ∀ (k i : Nat) (s : Shared), n - i = k -> i <= n -> St i s -> J i s.heap ->
   (∀ s', Moved (S :: wr) G s s' -> J n s'.heap -> R (.ok (.ret .none)) s') -> codeAny (model prog w) A (.builtin "set.update.loop" ⟨[.ref S, .ref I], []⟩) R s := by
 have nw : S ∉ wr := fun z => hf (W.sub _ z)
 have sub : ∀ b ∈ wr, b ∈ S :: wr := fun b z => List.mem_cons_of_mem _ z
 intro k
 induction k with
 | zero =>
  intro i s hk hi st hS hR
  have e : i = n := by omega
  subst e
  refine codeAny_builtin F.entry_set_update_loop ?_
  rw [Around.under_plainId F.plain_set_update_loop _]
  show wpAny _ A.in1 (pyNext (.ref I) >>= _) _ _ s
  refine wpAny_bind (W.done s _ _ st fun s' hm => ?_)
  show wpAny _ A.in1 (ret Value.none) _ _ s'
  exact wpAny_pure (hR s' (hm.mono sub) (kp _ _ _ hS fun o q => hm.heap S _ nw q))
 | succ k ih =>
  intro i s hk hi st hS hR
  have lt : i < n := by omega
  refine codeAny_builtin F.entry_set_update_loop ?_
  rw [Around.under_plainId F.plain_set_update_loop _]
  show wpAny _ A.in1 (pyNext (.ref I) >>= _) _ _ s
  refine wpAny_bind (W.item i s _ _ lt st fun v s' hP st' hm => ?_)
  show wpAny _ A.in1 (holding [v] (setAdd S v) >>= _) _ _ s'
  refine wpAny_bind (wpAny_holding (add i v s' _ _ lt hP (kp _ _ _ hS fun o q => hm.heap S _ nw q) fun b h' sb S2 => ?_))
  refine wpAny_pure ⟨plainId_quiet F.plain_set_update_loop _, ih (i + 1) _ (by omega) lt (W.frame _ s' _ _ st' (Nat.le_succ _) fun c hc o e => ?_) S2 fun s'' hm'' S3 => ?_⟩
  ·rw [sb.2 c (fun z : c = S => hf (by rw [<- z]; exact hc))]; exact e
  ·refine hR s'' (Moved.trans W.gtrans ((hm.mono sub).then_heap (Nat.le_succ _) fun c o hc e => ?_) hm'') S3
   rw [sb.2 c (fun z : c = S => hc (by rw [z]; exact List.mem_cons_self))]; exact e
theorem any_setAddK {α : Type} [DecidableEq α] (knd : PySem.KeyKind prog w α) {S : Addr} {x : α} {v : Value} {s' : Shared} {Q : Bool -> Shared -> Prop} {E : Value -> Shared -> Prop} (hk : knd.is x v = true) (h : wpAny (model prog w) A (setAddHashed S v (knd.hash x)) Q E { s' with toks := s'.toks + 1 }) : wpAny (model prog w) A (setAdd S v) Q E s' := by
 unfold setAdd
 exact wpAny_holding (wpAny_bind (knd.pyHash (k := x) hk h))
theorem loopSetS2 (W : WalksS prog w A.in1 I fp wr G n P St) (S : Addr) (hf : S ∉ fp) (val : Nat -> Str) (hv : ∀ i v, P i v -> ∃ t, v = .str (val i) t) (hb : (metS val n).length + 1 < scanBound) :
  ∀ (k i : Nat) (s : Shared), n - i = k -> i <= n -> St i s -> SetS prog w S (metS val i) s.heap ->
   (∀ s', Moved (S :: wr) G s s' -> SetS prog w S (metS val n) s'.heap -> R (.ok (.ret .none)) s') -> codeAny (model prog w) A (.builtin "set.update.loop" ⟨[.ref S, .ref I], []⟩) R s :=
 loopSetV W S hf (fun i h => SetS prog w S (metS val i) h) (fun _ _ _ S k => S.kept k) fun i v s' Q E lt hP hS q => by
  obtain ⟨t, rfl⟩ := hv i v hP
  refine any_setAddK (PySem.strKind prog w) (x := val i) (by show Value.isStrOf _ (.str _ t) = true; simp [Value.isStrOf]) (any_addT (s := { s' with toks := s'.toks + 1 }) hS (by have := metS_mono val (Nat.le_of_lt lt); omega) fun b h' sb S2 => q b h' sb ?_)
  rw [metS_succ]
  exact S2
end
section
variable {prog : Program} {w : World} {A : Around} {E : Value -> Shared -> Prop} {s : Shared}
theorem code_setNew (a : Value) {Q₁ : Value -> Shared -> Prop} (h : Q₁ (.ref s.heap.objs.size) { s with heap := s.heap.push (setO #[] 0 (.fresh 0 0 (!byT w))) }) :
  codeAny (model prog w) A (.call (.builtin "set.__new__") ⟨[.type "set", a], []⟩) (wants Q₁ E) s := by
 refine codeAny_of_tree ?_
 show wpAny _ A.in1 (do checkBuiltinCall "set.__new__" ⟨[.type "set", a], []⟩; again (.builtin "set.__new__" ⟨[.type "set", a], []⟩)) _ _ s
 refine wpAny_bind (wpAny_of_eq (F.newCall_set_1 a) (wpAny_pure ⟨plainId_quiet F.plain_set_new _, codeAny_builtin F.entry_set_new ?_⟩))
 rw [Around.under_plainId F.plain_set_new _]
 unfold Builtin.«set.__new__» Builtin.Frozenset.newClass
 have hsub := sub_ss
 obtain ⟨hp, g, d, tk, os⟩ := s
 dsimp only
 wp_walk
 refine wpAny_askSetting (wpAny_pure ?_)
 dsimp only
 simp only [newObj]
 refine wpAny_bind (wpAny_alloc (wpAny_pure ?_))
 exact wpAny_pure h
end
end L2
namespace L2
open PySem PySem.Spec PyProof.Rows
theorem strs_at : ∀ {vs : List Value} {ss : List Str}, StrsAre vs ss -> ∀ (i : Nat) (v : Value), vs[i]? = some v -> ∃ t, v = .str (ss.getD i ⟨#[]⟩) t
 | _, _, .nil, i, v, h => by simp at h
 | _, _, .cons y t hr, 0, v, h => by
  simp at h
  exact ⟨t, by rw [<- h]; rfl⟩
 | _, _, .cons y t hr, i + 1, v, h => by
  simp only [List.getElem?_cons_succ] at h
  obtain ⟨u, e⟩ := strs_at hr i v h
  exact ⟨u, by rw [e]; rfl⟩
section
variable {prog : Program} {w : World} {A : Around} {E : Value -> Shared -> Prop} {s : Shared}
abbrev set0 (w : World) : Obj := setO #[] 0 (.fresh 0 0 (!byT w))
theorem any_setC {x : Value} {P : Shared -> Prop} {Q : Value -> Shared -> Prop} (hq : ∀ s', P s' -> Q (.ref s.heap.objs.size) s')
  (hb : wpAny (model prog w) A.in1.in1 (Builtin.«set.__init__» ⟨[.ref s.heap.objs.size] ++ [x], []⟩) (fun r s' => r = .done (.ret .none) /\ P s') E { s with heap := s.heap.push (set0 w) }) :
  wpAny (model prog w) A (call (.type "set") [x]) Q E s := by
 obtain ⟨c, tl, hmro⟩ := F.called_set.mro
 have hmade := F.called_set.made
 have hsub := F.called_set.sub
 refine wpAny_call (codeAny_of_tree ?_)
 show wpAny _ _ (callAny (.type "set") _) _ _ _
 refine wpAny_pure ⟨Code.quiet_builtin _ (by decide +kernel), codeAny_builtin F.entry_type_call ?_⟩
 rw [Around.under_plain (weight_type_call_type "set" [x] []) rfl]
 have h1 := F.called_set.notType
 have h2 := F.called_set.canCreate
 have hct := F.typeCall_set_1 x
 repeat (any_goals (first | assumption | wp_step))
 refine codeAny_mono (code_setNew x (E := E) (Q₁ := fun obj s₁ => obj = .ref s.heap.objs.size /\ s₁ = { s with heap := s.heap.push (set0 w) }) ⟨rfl, rfl⟩) fun r s₁ hr => ?_
 cases r with
 | error e => exact hr
 | ok fl =>
  cases fl with
  | ret obj =>
   obtain ⟨rfl, rfl⟩ := hr
   have hS : (s.heap.push (set0 w)).get? s.heap.objs.size = some (set0 w) := Heap.get?_push_size _ rfl
   have hT : Shared.TypeIs { s with heap := s.heap.push (set0 w) } (.ref s.heap.objs.size) "set" := ⟨_, hS, rfl⟩
   have hli := F.called_set.init.lookup
   have hbi := F.called_set.init.bind (.ref s.heap.objs.size)
   repeat (any_goals (first | assumption | wp_step))
   refine codeAny_mono (codeAny_call_builtin (R := wants (fun r s₂ => r = .none /\ P s₂) E) F.called_set.init.plain F.entry_set_init (check_set_init_1 hT (wpAny_mono hb (fun r s' ⟨e, p⟩ => ?_) fun _ _ h => h))) fun r₂ s₂ hr₂ => ?_
   ·subst e
    exact ⟨rfl, p⟩
   ·cases r₂ with
    | error e => exact hr₂
    | ok fl₂ =>
     cases fl₂ with
     | ret r =>
      obtain ⟨rfl, p⟩ := hr₂
      repeat (any_goals (first | assumption | wp_step))
      exact hq _ p
     | _ => exact hr₂.elim
  | _ => exact hr.elim
theorem set0_S {h : Heap} {a : Addr} (e : h.get? a = some (set0 w)) : SetS prog w a [] h := ⟨#[], 0, .fresh 0 0 (!byT w), e, ⟨fun e he => by simp at he, ⟨[], .nil, .refl _⟩, List.nodup_nil, by decide, by simp [SetTable.fits, SetTable.fresh, SetTable.fill], .inl rfl, rfl⟩⟩
theorem any_setW {l : Addr} {o : Obj} {T : String} {R : Shared -> Prop} {Q : Value -> Shared -> Prop} (ho : s.heap.get? l = some o) (hc : o.cls = .type T) (hs : isSubtype (.type T) (.type "set") = pure false) (hf : isSubtype (.type T) (.type "frozenset") = pure false) (hne : (Value.type T == Value.type "dict") = false)
  (hit : wpAny (model prog w) A.in1.in1 (pyIter (.ref l)) (fun i s1 => wpAny (model prog w) A.in1.in1 (runValue (.builtin "set.update.loop" ⟨[.ref s.heap.objs.size, i], []⟩)) (fun _ s' => R s') E s1) E { s with heap := s.heap.push (set0 w) })
  (h : ∀ s', R s' -> Q (.ref s.heap.objs.size) s') : wpAny (model prog w) A (call (.type "set") [.ref l]) Q E s := by
 refine any_setC h ?_
 have ho' : (s.heap.push (set0 w)).get? l = some o := Heap.get?_push_of_some _ ho
 have hS : (s.heap.push (set0 w)).get? s.heap.objs.size = some (set0 w) := Heap.get?_push_size _ rfl
 obtain ⟨ocls, odict, odata, oslots⟩ := o
 simp only at hc
 subst hc
 unfold Builtin.«set.__init__» noKeywords Builtin.Frozenset.updateFrom
 generalize hPI : pyIter = PI at hit
 wp_walk
 exact wpAny_mono hit (fun a s1 h => wpAny_bind (wpAny_mono h (fun _ s2 r => wpAny_pure (wpAny_pure ⟨rfl, r⟩)) fun _ _ h => h)) fun _ _ h => h
def SetK (s : Shared) (P : Heap -> Prop) (s' : Shared) : Prop := ∃ h' tk, s' = { s with heap := h', toks := tk } /\ P h' /\ ∀ b o, b < s.heap.objs.size -> s.heap.get? b = some o -> h'.get? b = some o
theorem set_moved {o : Obj} {G : Array GenState -> Array GenState -> Prop} {P : Heap -> Prop} {s' : Shared} (hm : Moved [s.heap.objs.size, (s.heap.push (set0 w)).objs.size] G { s with heap := (s.heap.push (set0 w)).push o } s') (hg : s'.gens = s.gens) (p : P s'.heap) : SetK s P s' := by
 obtain ⟨h', g', d', tk', os'⟩ := s'
 have ed : d' = s.drawn := hm.drawn
 have eo : os' = s.os := hm.os
 have hg : g' = s.gens := hg
 subst hg ed eo
 refine ⟨h', tk', rfl, p, fun b o hb e => hm.heap b o ?_ (Heap.get?_push_of_some _ (Heap.get?_push_of_some _ e))⟩
 rw [Heap.size_push]
 simp only [List.mem_cons, List.not_mem_nil, or_false, not_or]
 exact ⟨Nat.ne_of_lt hb, Nat.ne_of_lt (Nat.lt_succ_of_lt hb)⟩
theorem any_setLW {l : Addr} {items : Array Value} {R : Heap -> Prop} {Q : Value -> Shared -> Prop} (hh : A.handled = none) (hl : s.heap.IsList l items) (hw : ∀ (hh3 : A.in1.in1.in1.handled = none) (ne : l ≠ (s.heap.push (set0 w)).objs.size) (nf : s.heap.objs.size ∉ [(s.heap.push (set0 w)).objs.size, l]) (s1 : Shared), s1 = { s with heap := (s.heap.push (set0 w)).push { cls := .type "list_iterator", data := .fields #[.ref l, .int 0 0] } } -> s1.heap.get? s.heap.objs.size = some (set0 w) -> s1.heap.IsListIter (s.heap.push (set0 w)).objs.size l 0 /\ s1.heap.IsList l items ->
   codeAny (model prog w) A.in1.in1 (.builtin "set.update.loop" ⟨[.ref s.heap.objs.size, .ref (s.heap.push (set0 w)).objs.size], []⟩) (wants (fun _ s' => SetK s R s') E) s1)
  (h : ∀ (h' : Heap) (tk : Nat), R h' -> (∀ b o, b < s.heap.objs.size -> s.heap.get? b = some o -> h'.get? b = some o) -> Q (.ref s.heap.objs.size) { s with heap := h', toks := tk }) : wpAny (model prog w) A (call (.type "set") [.ref l]) Q E s := by
 obtain ⟨ol, hol, hcl, nl, hdl⟩ := id hl
 have hlS : l < s.heap.objs.size := Heap.lt_size hol
 refine any_setW (R := SetK s R) hol hcl F.sub_list_set F.sub_list_frozenset (by decide) (wpAny_pyIter_list (hl.push _) (wpAny_runValue ?_)) fun s' ⟨h', tk, e, p, k⟩ => by subst e; exact h h' tk p k
 refine hw (by simp [hh]) ?_ ?_ _ rfl (Heap.get?_push_of_some _ (Heap.get?_push_size _ rfl)) ⟨⟨_, Heap.get?_push_size _ rfl, rfl, rfl⟩, (hl.push _).push _⟩
 ·rw [Heap.size_push]; exact Nat.ne_of_lt (Nat.lt_succ_of_lt hlS)
 ·rw [Heap.size_push]
  simp only [List.mem_cons, List.not_mem_nil, or_false, not_or]
  exact ⟨Nat.ne_of_lt (Nat.lt_succ_self _), Nat.ne_of_gt hlS⟩
theorem any_setList2 {l : Addr} {items : Array Value} {ss : List Str} {Q : Value -> Shared -> Prop} (hh : A.handled = none) (hl : s.heap.IsList l items) (hi : StrsAre items.toList ss) (hb : (setL ss).length + 1 < scanBound)
  (h : ∀ (h' : Heap) (tk : Nat), SetS prog w s.heap.objs.size (setL ss) h' -> (∀ b o, b < s.heap.objs.size -> s.heap.get? b = some o -> h'.get? b = some o) -> Q (.ref s.heap.objs.size) { s with heap := h', toks := tk }) :
  wpAny (model prog w) A (call (.type "set") [.ref l]) Q E s := by
 have hz : items.size = ss.length := by have := strs_len hi; simpa using this
 have hm : metS (fun i => ss.getD i ⟨#[]⟩) items.size = setL ss := by rw [hz]; exact metS_all fun i hi => by simp [hi]
 refine any_setLW hh hl (fun hh3 ne nf s1 e1 g1 st => ?_) h
 subst e1
 exact loopSetS2 ((Walks.list hh3 _ l ne items).toS) s.heap.objs.size nf (fun i => ss.getD i ⟨#[]⟩) (fun i v hv => strs_at hi i v (by rw [Array.getElem?_toList]; exact hv)) (by rw [hm]; exact hb) (items.size - 0) 0 _ (by omega) (Nat.zero_le _) st (set0_S g1) fun s' m S' => set_moved m m.gens (by rw [hm] at S'; exact S')
theorem any_setList {l : Addr} {items : Array Value} {ss : List Str} {Q : Value -> Shared -> Prop} (hh : A.handled = none) (hl : s.heap.IsList l items) (hi : StrsAre items.toList ss) (hb : ss.length + 1 < scanBound)
  (h : ∀ (h' : Heap) (tk : Nat), SetS prog w s.heap.objs.size (setL ss) h' -> (∀ b o, b < s.heap.objs.size -> s.heap.get? b = some o -> h'.get? b = some o) -> Q (.ref s.heap.objs.size) { s with heap := h', toks := tk }) :
  wpAny (model prog w) A (call (.type "set") [.ref l]) Q E s := any_setList2 hh hl hi (by
 have : (setL ss).length <= ss.length := by
  have := metS_len (fun i => ss.getD i ⟨#[]⟩) ss.length
  rwa [metS_all (ss := ss) (fun i hi => by simp [hi])] at this
 omega) h
end
end L2
namespace L2
open PySem PySem.Spec PyProof.Rows
theorem boot_set : bootBuiltins "set" = some (.type "set") := by decide +kernel
def setH (P : Program) (w : World) (a : Addr) (us : List Str) : HO := .ext (SetS P w a us)
section
variable {X : Cx}
theorem Inv.draw {pins : List (Addr × Obj)} {σ : St} {H : Hp} {s : Shared} (I : Inv X pins σ H s) (d : Drawn) : Inv X pins σ H { s with drawn := d } :=
 ⟨I.ok, I.os, I.bare, I.base, I.loc, I.cell, I.free, I.freeC, I.pin, I.hok, I.len⟩
def rSetS (P : Program) (w : World) (K : PySem.W.Frag) : List V -> Hp -> VK -> Prop := fun xs H Q => ∃ (p : Addr) (ss : List Str), xs = [.ref p] /\ SqL K H p (ss.map V.str) /\ ss.length < 4000 /\ ∀ a : Addr, H a = none -> Q (.ref a) (upd H a (setH P w a (setL ss)))
theorem call_setS (hc : X.calm = true) : CallR X (.type "set") (rSetS X.prog X.w X.K) := by
 intro pins s σ H xs us Q I r h
 obtain ⟨p, ss, rfl, hq, hz, q⟩ := h
 obtain ⟨u, rfl, rx⟩ := vals1 r
 cases rx
 obtain ⟨its, rv, pl, hz'⟩ := I.list hq
 have hi : StrsAre its.toArray.toList ss := strsAre_of rv
 refine any_setList (I.ok.hd hc) pl.isList hi (by show ss.length + 1 < 4096; omega) fun h' tk S k => ?_
 refine ⟨.ref s.heap.objs.size, _, I.laid (t' := tk) (o := setH X.prog X.w s.heap.objs.size (setL ss)) (fun b o e => k b o (Heap.lt_size e) e) (Nat.le_refl _) ⟨S, ?_, fun h1 h2 z k' => z.kept k'⟩, rfl, q _ I.fresh⟩
 obtain ⟨es, ep, t, e, _⟩ := S
 exact ⟨_, e⟩
def rSortU (P : Program) (w : World) : List V -> Hp -> VK -> Prop := fun xs H Q => ∃ (a : Addr) (us : List Str), xs = [.ref a] /\ H a = some (setH P w a us) /\ us.length < 64 /\
  ∀ (ss : List Str) (l : Addr), ss.Perm us -> sortedS ss = true -> H l = none -> Q (.ref l) (upd H l (.lst (ss.map V.str)))
theorem call_sortedU (hc : X.calm = true) : CallR X (.builtin "sorted") (rSortU X.prog X.w) := by
 intro pins s σ H xs us Q I r h
 obtain ⟨a, uu, rfl, hq, h64, q⟩ := h
 obtain ⟨u, rfl, rx⟩ := vals1 r
 cases rx
 have S : SetS X.prog X.w a uu s.heap := (I.hok a _ hq).1
 refine any_sortedSet (I.ok.hd hc) S h64 fun h' d tk l out ss e hs hp hso hl le k => ?_
 refine ⟨.ref l, _, (I.laid (t' := tk) (o := .lst (ss.map V.str)) k le ?_).draw d, rfl, q ss l hp hso (I.hok.fresh le)⟩
 refine ⟨?_, out, e, vals_ofStrs hs, hl⟩
 rw [List.length_map, hp.length_eq]
 exact Nat.le_of_lt (Nat.lt_trans h64 (by decide))
def repS (x : Str) (n : Int) : Str := ⟨(List.replicate n.toNat x.cps.toList).flatten.toArray⟩
def rMulS : R2 := fun x y H Q => ∃ (z : Str) (n : Int), x = .str z /\ y = .int n /\ z.length <= 1000 /\ n <= 1000 /\ -1000 <= n /\ Q (.str (repS z n)) H
theorem fold_rep (x : Array Nat) : ∀ n (acc : Array Nat), ((List.replicate n x).foldl (· ++ ·) acc) = (acc.toList ++ (List.replicate n x.toList).flatten).toArray
 | 0, acc => by simp
 | n + 1, acc => by
  rw [List.replicate_succ, List.foldl_cons, fold_rep x n, List.replicate_succ, List.flatten_cons]
  simp
theorem op_mulS : OpR X (binaryOp .Mult) rMulS := by
 intro pins s σ H x y v u Q I rx ry h
 obtain ⟨z, n, rfl, rfl, hz, n1, n0, q⟩ := h
 obtain ⟨t, rfl⟩ := rx
 obtain ⟨t', rfl⟩ := ry
 have fin : ∀ (w : Str) (k : Tok) (tk : Nat), w = repS z n -> EP X pins σ Q (.str w k) { s with toks := tk } := fun w k tk e => ⟨.str w, H, I.tok tk, ⟨k, rfl⟩, by rw [e]; exact q⟩
 have pos : ∀ m : Nat, m <= 1000 -> z.length * m <= 1000000 := fun m hm => Nat.mul_le_mul hz hm
 refine P.mul_str (by rw [decide_eq_false (by omega), decide_eq_false (by omega)]; rfl) (fun h1 _ h2 => ?_) (fun h1 _ => ?_) ?_
 ·have : (2 ^ 63 - 1) / n >= 1000 := by
   have h3 : n <= 1000 := n1
   have h4 : 0 < n := by omega
   rw [ge_iff_le, Int.le_ediv_iff_mul_le h4]
   omega
  omega
 ·show decide (_ > sizeLine) = false
  refine decide_eq_false (Nat.not_lt.mpr (Nat.le_trans (pos n.toNat (by omega)) (by decide)))
 ·split
  ·refine ⟨by decide, fin _ _ _ ?_⟩
   unfold repS
   rw [show n.toNat = 0 by omega]
   rfl
  ·split
   ·rename_i h1 h2
    refine fin _ _ s.toks ?_
    rw [Bool.or_eq_true] at h2
    unfold repS
    rcases h2 with h3 | h3
    ·have : n = 1 := by simpa using h3
     rw [this]
     simp
    ·have hz0 : z.cps = #[] := by
      have : z.cps.size = 0 := by simpa [Str.length] using h3
      exact Array.size_eq_zero_iff.mp this
     have e : ∀ m : Nat, (List.replicate m ([] : List Nat)).flatten = [] := fun m => by
      induction m with
      | zero => rfl
      | succ m ih => rw [List.replicate_succ, List.flatten_cons, ih]; rfl
     obtain ⟨zc⟩ := z
     have hz0 : zc = #[] := hz0
     subst hz0
     show (⟨#[]⟩ : Str) = ⟨(List.replicate n.toNat ([] : List Nat)).flatten.toArray⟩
     rw [e]
   ·refine ⟨?_, fin _ _ _ ?_⟩
    ·show (List.foldl (fun x1 x2 => x1 ++ x2) #[] (List.replicate n.toNat z.cps)).size <= _
     rw [fold_rep, List.size_toArray, List.length_append, len_rep]
     show 0 + n.toNat * z.cps.toList.length <= _
     have := pos n.toNat (by omega)
     rw [Nat.mul_comm] at this
     have e : z.cps.toList.length = z.length := by simp [Str.length]
     rw [e]
     exact Nat.le_trans (by omega) (show 1000000 <= sizeLine by decide)
    ·unfold repS
     rw [fold_rep]
     simp
def rSlW (K : PySem.W.Frag) : V -> Option Int -> Option Int -> Hp -> VK -> Prop := fun x lo hi H Q => ∃ a xs, x = .ref a /\ SqT K H a xs /\ ∀ p H', Same H H' -> SqT K H' p (cutV xs lo hi) -> Q (.ref p) H'
theorem getItem_whole {prog : Program} {w : World} {A : Around} {E : Value -> Shared -> Prop} {s : Shared} {t sl : Addr} {items : Array Value} {vl vu : Value} {lo hi : Option Int} {Q : Value -> Shared -> Prop} (ht : IsTup s.heap t items) (hs : s.heap.IsSliceOf sl vl vu .none) (pl : IsPart vl lo) (pu : IsPart vu hi)
  (hw : HT.sIx items.size 0 lo = 0 /\ HT.sIx items.size items.size hi = items.size) (h : Q (.ref t) s) : wpAny (model prog w) A (getItem (.ref t) (.ref sl)) Q E s := by
 obtain ⟨os, hos, hcs, hds⟩ := id hs
 have hTs : s.TypeIs (.ref sl) "slice" := ⟨os, hos, hcs⟩
 unfold getItem
 try with_reducible refine wpAny_holding ?_
 first | refine wpAny_bind (wpAny_pure ?_) | skip
 refine wpAny_bind (wpAny_sequenceKey ht.typeIs (by decide) ?_)
 refine wpAny_bind (wpAny_callSpecial?_slot (name := Str.ofString "__getitem__") ht.typeIs PyProof.Rows.slot_tuple_getitem (wpAny_call_entry PyProof.Rows.slot_tuple_getitem ht.typeIs entry_tuple_getitem ?_ (args_tuple_getitem _ _)))
 show wpAny _ _ (Builtin.Tuple.tupleItemsOf (.ref t) >>= _) _ _ s
 refine wpAny_bind (tupleItemsOf_ ht (wpAny_bind (wpAny_typeOf hTs ?_)))
 rw [if_pos (by decide)]
 refine wpAny_bind (HT.sliceApplied_gen hs pl pu ?_)
 rw [hw.1, hw.2]
 dsimp only
 rw [if_pos (by simp)]
 unfold Builtin.Tuple.tupleIsExact
 refine wpAny_bind (wpAny_bind (wpAny_typeOf ht.typeIs (wpAny_pure ?_)))
 rw [if_pos (by decide)]
 exact wpAny_bind (wpAny_rule (wpAny_pure ⟨_, rfl, wpAny_pure h⟩))
theorem cut_all {xs : List V} {lo hi : Option Int} (hw : HT.sIx xs.length 0 lo = 0 /\ HT.sIx xs.length xs.length hi = xs.length) : cutV xs lo hi = xs := by
 unfold cutV
 rw [hw.1, hw.2, List.drop_zero, Nat.sub_zero, List.take_length]
theorem sl_tupW : SlR X (rSlW X.K) := by
 intro pins s σ H x v vl vu lo hi sl Q I rx hs pl pu h
 obtain ⟨a, xs, rfl, hx, q⟩ := h
 by_cases hw : HT.sIx xs.length 0 lo = 0 /\ HT.sIx xs.length xs.length hi = xs.length
 ·cases rx
  obtain ⟨its, r, ht, hz⟩ := I.tuple hx
  have hlen : its.toArray.size = xs.length := by rw [List.size_toArray]; exact r.length.symm
  refine ⟨"tuple", _, PyProof.Rows.slot_tuple_getitem.lookup, ht.typeIs, ?_⟩
  exact getItem_whole ht hs pl pu (by rw [hlen]; exact hw) ⟨.ref a, H, I, rfl, q a H (fun _ _ e => e) (by rw [cut_all hw]; exact hx)⟩
 ·exact sl_tup pins s σ H _ v vl vu lo hi sl Q I rx hs pl pu ⟨a, xs, rfl, hx, hw, fun p np => q p _ (fun b o e => by rw [upd_ne (ne_of_none e np)]; exact e) (SqT.of upd_same)⟩
end
end L2
namespace L2
open PySem PySem.Spec PyProof.Rows
section
variable {X : Cx}
theorem tupleText_le {B : Nat} : ∀ {ts : List Str}, (∀ t ∈ ts, t.length <= B) -> (tupleText ts).length <= ts.length * (B + 2) + 4 := by
 intro ts h
 have hp : ∀ (l : List Str), (∀ t ∈ l, t.length <= B) -> piled l <= l.length * (B + 2) := by
  intro l
  induction l with
  | nil => intro _; simp [piled]
  | cons x l ih =>
   intro hl
   have := ih fun t ht => hl t (List.mem_cons_of_mem _ ht)
   have h0 := hl x List.mem_cons_self
   rw [piled_cons, List.length_cons, Nat.add_mul, Nat.one_mul]
   omega
 have hp := hp ts h
 unfold tupleText
 rw [strLen_append, strLen_append]
 have e1 : ((("(" : String) : Str)).length = 1 := rfl
 have e3 : (((if ts.length == 1 then ",)" else ")" : String) : Str)).length <= 2 := by split <;> decide
 rw [e1]
 by_cases z : ts = []
 ·subst z
  have : (Str.join ", " ([] : List Str)).length = 0 := rfl
  omega
 ·have := join_length_add ts z
  omega
end
end L2
namespace L2
open PySem PySem.Spec PyProof.Rows
theorem best_lt (f : Nat -> List Nat) : ∀ n, argBest (fun i j => decide (f i < f j)) n <= n /\ ∀ j, j <= n -> f (argBest (fun i j => decide (f i < f j)) n) <= f j
 | 0 => ⟨Nat.le_refl _, fun j hj => by rw [Nat.le_zero.mp hj]; exact List.le_refl _⟩
 | n + 1 => by
  obtain ⟨h1, h2⟩ := best_lt f n
  show (if decide (f (n + 1) < f (argBest _ n)) = true then n + 1 else argBest _ n) <= n + 1 /\ ∀ j, j <= n + 1 -> f (if decide (f (n + 1) < f (argBest _ n)) = true then n + 1 else argBest _ n) <= f j
  by_cases h : f (n + 1) < f (argBest (fun i j => decide (f i < f j)) n)
  ·rw [if_pos (decide_eq_true h)]
   refine ⟨Nat.le_refl _, fun j hj => ?_⟩
   rcases Nat.lt_or_eq_of_le hj with z | z
   ·exact List.le_trans (List.le_of_lt h) (h2 j (by omega))
   ·rw [z]; exact List.le_refl _
  ·rw [if_neg (fun z => h (of_decide_eq_true z))]
   refine ⟨by omega, fun j hj => ?_⟩
   rcases Nat.lt_or_eq_of_le hj with z | z
   ·exact h2 j (by omega)
   ·rw [z]; exact List.not_lt.mp h
theorem best_gt (f : Nat -> List Nat) : ∀ n, argBest (fun i j => decide (f j < f i)) n <= n /\ ∀ j, j <= n -> f j <= f (argBest (fun i j => decide (f j < f i)) n)
 | 0 => ⟨Nat.le_refl _, fun j hj => by rw [Nat.le_zero.mp hj]; exact List.le_refl _⟩
 | n + 1 => by
  obtain ⟨h1, h2⟩ := best_gt f n
  show (if decide (f (argBest _ n) < f (n + 1)) = true then n + 1 else argBest _ n) <= n + 1 /\ ∀ j, j <= n + 1 -> f j <= f (if decide (f (argBest _ n) < f (n + 1)) = true then n + 1 else argBest _ n)
  by_cases h : f (argBest (fun i j => decide (f j < f i)) n) < f (n + 1)
  ·rw [if_pos (decide_eq_true h)]
   refine ⟨Nat.le_refl _, fun j hj => ?_⟩
   rcases Nat.lt_or_eq_of_le hj with z | z
   ·exact List.le_trans (h2 j (by omega)) (List.le_of_lt h)
   ·rw [z]; exact List.le_refl _
  ·rw [if_neg (fun z => h (of_decide_eq_true z))]
   refine ⟨by omega, fun j hj => ?_⟩
   rcases Nat.lt_or_eq_of_le hj with z | z
   ·exact h2 j (by omega)
   ·rw [z]; exact List.not_lt.mp h
theorem getD_memS {l : List Str} {i : Nat} (h : i < l.length) : l.getD i ⟨#[]⟩ ∈ l := by
 rw [List.getD_eq_getElem?_getD, List.getElem?_eq_getElem h]
 exact List.getElem_mem h
theorem mem_getDS {l : List Str} {a : Str} (h : a ∈ l) : ∃ j, j < l.length /\ l.getD j ⟨#[]⟩ = a := by
 obtain ⟨j, hj, e⟩ := List.mem_iff_getElem.mp h
 exact ⟨j, hj, by rw [List.getD_eq_getElem?_getD, List.getElem?_eq_getElem hj]; exact e⟩
section
variable {prog : Program} {w : World} {A : Around} {E : Value -> Shared -> Prop} {s : Shared} {l : Addr} {its : Array Value} {ss : List Str}
theorem cmp_strs_lt {P : Nat -> Value -> Prop} (val : Nat -> Str) (hval : ∀ i v, P i v -> ∃ t, v = .str (val i) t) : CmpOf prog w A .Lt P (fun i j => decide ((val i).cps.toList < (val j).cps.toList)) := fun i j vi vj s Q E hi hj h => by
 obtain ⟨t, rfl⟩ := hval i vi hi
 obtain ⟨u, rfl⟩ := hval j vj hj
 exact richCompare_gives (op := .Lt) (typeIs_str s _ t) (typeIs_str s _ u) F.slot_str_lt F.entry_str_lt (F.args_str_lt_2 _ _) (gives_str_lt _ _ t u) (fun x => nomatch x) h
theorem cmp_strs_gt {P : Nat -> Value -> Prop} (val : Nat -> Str) (hval : ∀ i v, P i v -> ∃ t, v = .str (val i) t) : CmpOf prog w A .Gt P (fun i j => decide ((val j).cps.toList < (val i).cps.toList)) := fun i j vi vj s Q E hi hj h => by
 obtain ⟨t, rfl⟩ := hval i vi hi
 obtain ⟨u, rfl⟩ := hval j vj hj
 exact richCompare_gives (op := .Gt) (typeIs_str s _ t) (typeIs_str s _ u) F.slot_str_gt F.entry_str_gt (F.args_str_gt_2 _ _) (gives_str_gt _ _ t u) (fun x => nomatch x) h
theorem iter_listG {Q : Value -> Shared -> Prop} (hl : s.heap.IsList l its)
  (h : ∀ s₂ : Shared, s₂ = { s with heap := s.heap.push { cls := .type "list_iterator", data := .fields #[.ref l, .int 0 0] } } ->
   (s₂.heap.IsListIter s.heap.objs.size l 0 /\ s₂.heap.IsList l its) -> (∀ b ∈ [s.heap.objs.size, l], b < s₂.heap.objs.size) -> l ≠ s.heap.objs.size -> Q (.ref s.heap.objs.size) s₂) :
  wpAny (model prog w) A (pyIter (.ref l)) Q E s := by
 have hlt : l < s.heap.objs.size := by obtain ⟨_, e, _⟩ := hl; exact Heap.lt_size e
 refine wpAny_pyIter_list hl (h _ rfl ⟨⟨_, Heap.get?_push_size _ rfl, rfl, rfl⟩, hl.push _⟩ (fun b hb => ?_) (Nat.ne_of_lt hlt))
 show b < (s.heap.push _).objs.size
 rw [Heap.size_push]
 simp only [List.mem_cons, List.not_mem_nil, or_false] at hb
 rcases hb with z | z
 ·rw [z]; exact Nat.lt_succ_self _
 ·rw [z]; exact Nat.lt_succ_of_lt hlt
theorem min_strs {Q : Value -> Shared -> Prop} (hh : A.handled = none) (hl : s.heap.IsList l its) (hi : StrsAre its.toList ss) (hne : 0 < ss.length)
  (h : ∀ x t h' tk, x ∈ ss -> (∀ y ∈ ss, x.cps.toList <= y.cps.toList) -> (∀ b o, s.heap.get? b = some o -> h'.get? b = some o) -> Q (.str x t) { s with heap := h', toks := tk }) :
  wpAny (model prog w) A (call (.builtin "min") [.ref l]) Q E s := by
 have hsz : its.size = ss.length := by rw [<- Array.length_toList, strs_len hi]
 refine call_min_walk (iter_listG hl fun s₂ e st hfp hlI => ?_)
 subst e
 refine ⟨_, _, _, _, _, _, _, rfl, Walks.list (A := A.in1) hh _ l hlI its, st, hfp, by omega, cmp_strs_lt (fun i => ss.getD i ⟨#[]⟩) (fun i v hv => strs_at hi i v (by rw [Array.getElem?_toList]; exact hv)), fun v h' tk hP hk => ?_⟩
 obtain ⟨t, rfl⟩ := strs_at hi _ v (by rw [Array.getElem?_toList]; exact hP)
 obtain ⟨b1, b2⟩ := best_lt (fun i => (ss.getD i ⟨#[]⟩).cps.toList) (its.size - 1)
 refine h _ t h' tk (getD_memS (by omega)) (fun y hy => ?_) (old_kept hk)
 obtain ⟨j, hj, rfl⟩ := mem_getDS hy
 exact b2 j (by omega)
theorem max_strs {Q : Value -> Shared -> Prop} (hh : A.handled = none) (hl : s.heap.IsList l its) (hi : StrsAre its.toList ss) (hne : 0 < ss.length)
  (h : ∀ x t h' tk, x ∈ ss -> (∀ y ∈ ss, y.cps.toList <= x.cps.toList) -> (∀ b o, s.heap.get? b = some o -> h'.get? b = some o) -> Q (.str x t) { s with heap := h', toks := tk }) :
  wpAny (model prog w) A (call (.builtin "max") [.ref l]) Q E s := by
 have hsz : its.size = ss.length := by rw [<- Array.length_toList, strs_len hi]
 refine call_max_walk (iter_listG hl fun s₂ e st hfp hlI => ?_)
 subst e
 refine ⟨_, _, _, _, _, _, _, rfl, Walks.list (A := A.in1) hh _ l hlI its, st, hfp, by omega, cmp_strs_gt (fun i => ss.getD i ⟨#[]⟩) (fun i v hv => strs_at hi i v (by rw [Array.getElem?_toList]; exact hv)), fun v h' tk hP hk => ?_⟩
 obtain ⟨t, rfl⟩ := strs_at hi _ v (by rw [Array.getElem?_toList]; exact hP)
 obtain ⟨b1, b2⟩ := best_gt (fun i => (ss.getD i ⟨#[]⟩).cps.toList) (its.size - 1)
 refine h _ t h' tk (getD_memS (by omega)) (fun y hy => ?_) (old_kept hk)
 obtain ⟨j, hj, rfl⟩ := mem_getDS hy
 exact b2 j (by omega)
end
section
variable {X : Cx}
theorem call_min1S (hc : X.calm = true) : CallR X (.builtin "min") (fun xs H Q => ∃ (p : Addr) (ss : List Str), xs = [.ref p] /\ SqL X.K H p (ss.map V.str) /\ 0 < ss.length /\ ∀ x, x ∈ ss -> (∀ y ∈ ss, x.cps.toList <= y.cps.toList) -> Q (.str x) H) := by
 intro pins s σ H xs us Q I r h
 obtain ⟨p, ss, rfl, hq, hn, q⟩ := h
 obtain ⟨u, rfl, rx⟩ := vals1 r
 cases rx
 obtain ⟨its, rv, pl, hz⟩ := I.list hq
 refine min_strs (I.ok.hd hc) pl.isList (strsAre_of rv) hn fun x t h' tk h1 h2 hk => ?_
 exact ⟨.str _, H, I.kept hk, ⟨t, rfl⟩, q _ h1 h2⟩
theorem call_max1S (hc : X.calm = true) : CallR X (.builtin "max") (fun xs H Q => ∃ (p : Addr) (ss : List Str), xs = [.ref p] /\ SqL X.K H p (ss.map V.str) /\ 0 < ss.length /\ ∀ x, x ∈ ss -> (∀ y ∈ ss, y.cps.toList <= x.cps.toList) -> Q (.str x) H) := by
 intro pins s σ H xs us Q I r h
 obtain ⟨p, ss, rfl, hq, hn, q⟩ := h
 obtain ⟨u, rfl, rx⟩ := vals1 r
 cases rx
 obtain ⟨its, rv, pl, hz⟩ := I.list hq
 refine max_strs (I.ok.hd hc) pl.isList (strsAre_of rv) hn fun x t h' tk h1 h2 hk => ?_
 exact ⟨.str _, H, I.kept hk, ⟨t, rfl⟩, q _ h1 h2⟩
end
end L2
namespace L2
open PySem PySem.Spec PyProof.Rows
open PySem PySem.Spec PyProof.Rows
section
variable {κ : Type} [DecidableEq κ]
def valV (kvs : List (κ × V)) (k : κ) : Option V := (kvs.find? fun kv => decide (kv.1 = k)).map (·.2)
theorem valV_pos {p : κ × V} {r : List (κ × V)} {k : κ} (e : p.1 = k) : valV (p :: r) k = some p.2 := by simp [valV, List.find?_cons, e]
theorem valV_neg {p : κ × V} {r : List (κ × V)} {k : κ} (e : ¬ p.1 = k) : valV (p :: r) k = valV r k := by simp [valV, List.find?_cons, e]
theorem RelO.isSome_eq {o : Option V} {u : Option Value} (r : RelO o u) : o.isSome = u.isSome := by
 cases o with
 | none => cases u with
  | none => rfl
  | some _ => exact (show False from r).elim
 | some _ => cases u with
  | none => exact (show False from r).elim
  | some _ => rfl
theorem KV.val {kvs : List (κ × V)} {vs : List (κ × Value)} (r : KV kvs vs) (k : κ) : RelO (valV kvs k) (valueAt vs k) := by
 unfold KV at r
 induction r with
 | nil => exact True.intro
 | @cons p q ps qs h t ih =>
  obtain ⟨h1, h2⟩ := h
  by_cases e : p.1 = k
  ·have e' : q.1 = k := h1.symm.trans e
   have b : valueAt (q :: qs) k = some q.2 := by simp [valueAt, List.find?_cons, e']
   rw [valV_pos e, b]; exact h2
  ·have e' : ¬ q.1 = k := fun z => e (h1.trans z)
   have b : valueAt (q :: qs) k = valueAt qs k := by simp [valueAt, List.find?_cons, e']
   rw [valV_neg e, b]; exact ih
theorem KV.length {kvs : List (κ × V)} {vs : List (κ × Value)} (r : KV kvs vs) : kvs.length = vs.length := Paired.length r
end
theorem kV_is {P : Program} {w : World} {k : Key} {u : Value} (r : RelV (kV k) u) : (mixKind P w).is k u = true := by
 cases k with
 | inl i => obtain ⟨t, e⟩ := (show ∃ t, u = Value.int i t from r); subst e; exact mixKind_int P w i t
 | inr x => obtain ⟨t, e⟩ := (show ∃ t, u = Value.str x t from r); subst e; exact mixKind_str P w x t
theorem items_are {P : Program} {w : World} : ∀ {ks : List Key} {us : List Value}, Vals (ks.map kV) us -> ItemsAre (mixKind P w) ks us
 | [], _, r => by rw [List.map_nil] at r; cases r; exact .nil
 | k :: ks, _, r => by
  rw [List.map_cons] at r
  cases r with
  | cons h t => exact .cons (kV_is h) (items_are t)
abbrev KT (H : Hp) : List (List Key × V) -> List (List Key × Addr × Value) -> Prop := Paired fun p q => p.1 = q.1 /\ H q.2.1 = some (.tup (p.1.map kV)) /\ RelV p.2 q.2.2
theorem KT.val {H : Hp} {kvs : List (List Key × V)} {xs : List (List Key × Addr × Value)} (r : KT H kvs xs) (k : List Key) : RelO (valV kvs k) ((atKey xs k).map (·.2)) := by
 induction r with
 | nil => exact True.intro
 | @cons p q ps qs h t ih =>
  obtain ⟨h1, _, h2⟩ := h
  by_cases e : p.1 = k
  ·have e' : q.1 = k := h1.symm.trans e
   have b : atKey (q :: qs) k = some q.2 := by simp [atKey, List.find?_cons, e']
   rw [valV_pos e, b]; exact h2
  ·have e' : ¬ q.1 = k := fun z => e (h1.trans z)
   have b : atKey (q :: qs) k = atKey qs k := by simp [atKey, List.find?_cons, e']
   rw [valV_neg e, b]; exact ih
section
variable {P : Program} {w : World} {H : Hp} {h : Heap} {a : Addr}
theorem rd_of {u : HO} (ok : HOk P w H h) (e : Rd H a u) : ObjOk P w H h a u := e.ok ok
theorem dk_rd {kvs : List (Key × V)} (ok : HOk P w H h) (e : Rd H a (.dK kvs)) : kvs.length <= sizeLine /\ (a == sysModules) = false /\ ∃ vs, KV kvs vs /\ h.DictOf (mixKind P w) a vs :=
 show ObjOk P w H h a (.dK kvs) from rd_of ok e
theorem key_of {ks : List Key} (ok : HOk P w H h) (e : H a = some (.tup (ks.map kV))) : (tupleKind (mixKind P w)).is h ks a := by
 obtain ⟨_, its, r, o, h1, h2, n, h3⟩ := (show ObjOk P w H h a (.tup (ks.map kV)) from ok a _ e)
 exact ⟨o, its.toArray, n, h1, h2, h3, by simpa using items_are r⟩
theorem dt_rd {kvs : List (List Key × V)} (ok : HOk P w H h) (e : Rd H a (.dT kvs)) : kvs.length <= sizeLine /\ (a == sysModules) = false /\
  ∃ xs, KT H kvs xs /\ h.DictOfH (tupleKind (mixKind P w)) a xs := by
 obtain ⟨z, y, xs, r, o, es, ep, h1, h2, h3, h4, h5⟩ := (show ObjOk P w H h a (.dT kvs) from rd_of ok e)
 refine ⟨z, y, xs, r, o, es, ep, h1, h2, h3, h4, fun x hx => ?_, h5⟩
 have all : ∀ {l : List (List Key × V)} {m : List (List Key × Addr × Value)}, KT H l m -> ∀ x ∈ m, (tupleKind (mixKind P w)).is h x.1 x.2.1 := by
  intro l m q
  induction q with
  | nil => intro x hx; exact nomatch hx
  | @cons p q ps qs hq t ih =>
   intro x hx
   rcases List.mem_cons.mp hx with e | hx
   ·subst e
    exact key_of ok (by rw [<- hq.1]; exact hq.2.1)
   ·exact ih x hx
 exact all r x hx
end
def DGet (H : Hp) (a : Addr) (y : V) (r : Option V) : Prop :=
 (∃ kvs k, Rd H a (.dK kvs) /\ y = kV k /\ r = valV kvs k) \/ ∃ kvs k b, Rd H a (.dT kvs) /\ y = .ref b /\ H b = some (.tup (k.map kV)) /\ r = valV kvs k
section
variable {X : Cx} {pins : List (Addr × Obj)} {σ : St} {H : Hp} {s : Shared} {a : Addr} {y v : V} {u r : Value} {o : Option V} {A : Around} {E : Value -> Shared -> Prop}
theorem d_getItem {Q : Value -> Shared -> Prop} (hu : A.units + 1 < cLine) (I : Inv X pins σ H s) (g : DGet H a y (some v)) (ry : RelV y u) (h : ∀ w' s', Inv X pins σ H s' -> RelV v w' -> Q w' s') :
  wpAny (model X.prog X.w) A (getItem (.ref a) u) Q E s := by
 rcases g with ⟨kvs, k, e, ey, l⟩ | ⟨kvs, k, b, e, ey, eb, l⟩
 ·subst ey
  obtain ⟨z, hd, vs, rel, dd⟩ := dk_rd I.hok e
  obtain ⟨w', hw, rw'⟩ := RelO.some_of (v := v) (o := valueAt vs k) (by rw [l]; exact rel.val k)
  exact wpAny_getItem_of (kV_is ry) dd.mapOf hw (h w' _ (I.tok _) rw')
 ·subst ey
  cases (show u = Value.ref b from ry)
  obtain ⟨z, hd, xs, rel, dd⟩ := dt_rd I.hok e
  obtain ⟨w', hw, rw'⟩ := RelO.some_of (v := v) (o := (atKey xs k).map (·.2)) (by rw [l]; exact rel.val k)
  obtain ⟨p, hp, hp2⟩ := Option.map_eq_some_iff.mp hw
  refine wpAny_getItem_heap (tupleKind_room_in1 hu) (key_of I.hok eb) dd hp ?_
  rw [hp2]
  exact h w' _ (I.tok _) rw'
theorem d_in {Q : Value -> Shared -> Prop} (hu : A.units + 1 < cLine) (I : Inv X pins σ H s) (g : DGet H a y o) (ry : RelV y u) (h : ∀ s', Inv X pins σ H s' -> Q (.bool o.isSome) s') :
  wpAny (model X.prog X.w) A (compareOp .In u (.ref a)) Q E s := by
 rcases g with ⟨kvs, k, e, ey, l⟩ | ⟨kvs, k, b, e, ey, eb, l⟩
 ·subst ey
  obtain ⟨z, hd, vs, rel, dd⟩ := dk_rd I.hok e
  refine wpAny_in_of (kV_is ry) hd dd.mapOf ?_
  rw [<- (rel.val k).isSome_eq, <- l]
  exact h _ (I.tok _)
 ·subst ey
  cases (show u = Value.ref b from ry)
  obtain ⟨z, hd, xs, rel, dd⟩ := dt_rd I.hok e
  refine wpAny_in_heap (tupleKind_room_in1 hu) (key_of I.hok eb) hd dd ?_
  have q := (rel.val k).isSome_eq
  rw [Option.isSome_map] at q
  rw [<- q, <- l]
  exact h _ (I.tok _)
theorem d_notIn {Q : Value -> Shared -> Prop} (hu : A.units + 1 < cLine) (I : Inv X pins σ H s) (g : DGet H a y o) (ry : RelV y u) (h : ∀ s', Inv X pins σ H s' -> Q (.bool (!o.isSome)) s') :
  wpAny (model X.prog X.w) A (compareOp .NotIn u (.ref a)) Q E s := by
 rcases g with ⟨kvs, k, e, ey, l⟩ | ⟨kvs, k, b, e, ey, eb, l⟩
 ·subst ey
  obtain ⟨z, hd, vs, rel, dd⟩ := dk_rd I.hok e
  refine wpAny_notIn_of (kV_is ry) hd dd.mapOf ?_
  rw [<- (rel.val k).isSome_eq, <- l]
  exact h _ (I.tok _)
 ·subst ey
  cases (show u = Value.ref b from ry)
  obtain ⟨z, hd, xs, rel, dd⟩ := dt_rd I.hok e
  refine wpAny_notIn_heap (tupleKind_room_in1 hu) (key_of I.hok eb) hd dd ?_
  have q := (rel.val k).isSome_eq
  rw [Option.isSome_map] at q
  rw [<- q, <- l]
  exact h _ (I.tok _)
end
section
variable {X : Cx} {pins : List (Addr × Obj)} {σ : St} {H : Hp} {s : Shared} {a : Addr} {kvs : List (Key × V)} {k : Key} {u : Value} {A : Around} {E : Value -> Shared -> Prop}
theorem d_len {Q : Value -> Shared -> Prop} (I : Inv X pins σ H s) (e : Rd H a (.dK kvs)) (h : ∀ t s', Inv X pins σ H s' -> Q (.int kvs.length t) s') : wpAny (model X.prog X.w) A (call (.builtin "len") [.ref a]) Q E s := by
 obtain ⟨z, hd, vs, rel, dd⟩ := dk_rd I.hok e
 refine call_len_dict hd dd (by rw [<- rel.length]; rw [sizeLine_eq] at z; omega) ?_
 rw [<- rel.length]
 exact h _ _ (I.tok _)
end
theorem dict_typeIs {X : Cx} {pins : List (Addr × Obj)} {σ : St} {H : Hp} {s : Shared} {a : Addr} {y : V} {o : Option V} (I : Inv X pins σ H s) (g : DGet H a y o) : s.TypeIs (.ref a) "dict" := by
 rcases g with ⟨kvs, k, e, _, _⟩ | ⟨kvs, k, b, e, _, _, _⟩
 ·obtain ⟨_, _, vs, _, dd⟩ := dk_rd I.hok e
  exact dd.typeIs
 ·obtain ⟨_, _, xs, _, dd⟩ := dt_rd I.hok e
  exact dd.typeIs
end L2
namespace L2
open PySem PySem.Spec PyProof.Rows
def FzD (H : Hp) (a : Addr) (ob : Obj) (kvs : List (Key × V)) : Prop := H a = some (.frz ob (.dK kvs))
theorem kv_len {kvs : List (Key × V)} {vs : List (Key × Value)} (r : KV kvs vs) : kvs.length = vs.length := Paired.length r
theorem kv_get : ∀ {kvs : List (Key × V)} {vs : List (Key × Value)} {i : Nat} {k : Key} {v : V}, KV kvs vs -> kvs[i]? = some (k, v) -> ∃ u, vs[i]? = some (k, u) /\ RelV v u
 | _, _, 0, _, _, .cons (b := b) r _, h => by
  cases h
  obtain ⟨e, r⟩ := r
  exact ⟨b.2, by show some b = _; rw [show b = (b.1, b.2) from rfl, <- e], r⟩
 | _, _, i + 1, _, _, .cons _ rs, h => kv_get (i := i) rs (by simpa using h)
theorem key_rel {k : Key} {u : Value} (h : keyIs k u = true) : RelV (kV k) u := by
 rcases keyIs_shape h with ⟨i, t, rfl, rfl⟩ | ⟨x, t, rfl, rfl⟩
 ·exact ⟨t, rfl⟩
 ·exact ⟨t, rfl⟩
section
variable {X : Cx} {pins : List (Addr × Obj)} {σ : St} {H : Hp} {s : Shared} {a : Addr} {ob : Obj} {kvs : List (Key × V)}
theorem fz_dict (I : Inv X pins σ H s) (h : FzD H a ob kvs) : s.heap.get? a = some ob /\ (a == sysModules) = false /\ kvs.length <= sizeLine /\ ∃ vs es ep, KV kvs vs /\ s.heap.DictAt (mixKind X.prog X.w) a vs ep /\ ob.data = .dict es ep := by
 obtain ⟨e, hl, hs, vs, r, o, es, ep, e', x1, x2, x3⟩ := (show ObjOk X.prog X.w H s.heap a (.frz ob (.dK kvs)) from I.hok a _ h)
 rw [e] at e'
 cases e'
 exact ⟨e, hs, hl, vs, es, ep, r, ⟨ob, es, e, x1, x2, x3⟩, x2⟩
end
def ItD (a : Addr) (ob : Obj) (kvs : List (Key × V)) : It :=
 ⟨fun i H => FzD H a ob kvs /\ i < kvs.length, fun i H x H' => H' = H /\ ∃ k v, kvs[i]? = some (k, v) /\ x = kV k, fun i H => FzD H a ob kvs /\ kvs.length <= i⟩
theorem turn_dict {P : Program} {w : World} {K : PySem.W.Frag} {tg : Expr} {a it : Addr} {ob : Obj} {kvs : List (Key × V)} {es : Array DictEntry} {ep : Nat} (hep : ob.data = .dict es ep) :
  Turn P w K tg (ItD a ob kvs) [it] it (fun i h => h.IsKeyIter it a i kvs.length ep) where
 mem := by simp
 obj := fun i h st b hb => by
  have e : b = it := by simpa using hb
  subst e
  obtain ⟨o, e, c, d⟩ := st
  exact ⟨o, e, fun v z => by rw [d] at z; cases z⟩
 keep := fun i h h' st k => st.at fun o e => k it (by simp) o e
 item := by
  intro X hP hw hK hc i pins s σ H E I hf st hg
  subst hP hw hK
  obtain ⟨hz, hi⟩ := hg
  obtain ⟨e, hs, hl, vs, es', ep', r, dd, hd'⟩ := fz_dict I hz
  rw [hep] at hd'
  cases hd'
  obtain ⟨f0, f1, f2, f3, f4, f5⟩ := hf it (by simp)
  obtain ⟨⟨k, v⟩, hx⟩ : ∃ p, kvs[i]? = some p := ⟨kvs[i], by simp [hi]⟩
  obtain ⟨u, hu, ru⟩ := kv_get r hx
  have st' : s.heap.IsKeyIter it a i vs.length ep := by rw [<- kv_len r]; exact st
  refine wpAny_pyNext_dict_item st' dd hu fun key h' hkey hit' sb => ?_
  have I1 : Inv X pins σ H { s with heap := h' } := I.turned (t' := s.toks) (fun b o hb e => (sb.2 b hb).trans e) f0 f1 f3 f4 f5
  obtain ⟨o, e, c, d⟩ := id hit'
  exact ⟨key, rfl, go_of (s := { s with heap := h' }) e c d (by decide) ⟨kV k, H, I1, key_rel hkey, ⟨rfl, k, v, hx, rfl⟩, by rw [kv_len r]; exact hit', fun b hb => (hf b hb).1⟩⟩
 done := by
  intro X hP hw hK hc i pins s σ H E I hf st hg
  subst hP hw hK
  obtain ⟨hz, hi⟩ := hg
  obtain ⟨e, hs, hl, vs, es', ep', r, dd, hd'⟩ := fz_dict I hz
  rw [hep] at hd'
  cases hd'
  obtain ⟨f0, f1, f2, f3, f4, f5⟩ := hf it (by simp)
  have st' : s.heap.IsKeyIter it a i vs.length ep := by rw [<- kv_len r]; exact st
  have hn : vs[i]? = none := List.getElem?_eq_none (by rw [<- kv_len r]; exact hi)
  exact wpAny_pyNext_dict_end (I.ok.hd hc) st' dd hn fun h' eb => ⟨rfl, I.turned (t' := s.toks) (fun b o hb e => eb b o hb e) f0 f1 f3 f4 f5⟩
 self := fun _ _ _ _ _ st h => wpAny_pyIter_keyiter st h
end L2
namespace L2
open PySem PySem.Spec PyProof.Rows
theorem strs_of_keys {prog : Program} {w : World} : ∀ {kvs : List (Key × Value)} {us : List Str} {acc : Array Value}, kvs.map (·.1) = us.map Sum.inr ->
  ItemsOf (fun i v => ∃ k x, kvs[i]? = some (k, x) /\ (mixKind prog w).is k v = true) acc kvs.length -> StrsAre acc.toList us := by
 intro kvs us acc hk h
 obtain ⟨hn, hp⟩ := h
 have key : ∀ (us : List Str) (l : List Value) (kvs : List (Key × Value)), kvs.map (·.1) = us.map Sum.inr -> l.length = kvs.length -> (∀ (j : Nat) (v : Value), l[j]? = some v -> ∃ k x, kvs[j]? = some (k, x) /\ (mixKind prog w).is k v = true) -> StrsAre l us := by
  intro us
  induction us with
  | nil =>
   intro l kvs hk hl _
   have : kvs = [] := by simpa using hk
   subst this
   have : l = [] := List.eq_nil_of_length_eq_zero hl
   subst this
   exact .nil
  | cons y ys ih =>
   intro l kvs hk hl hp
   cases kvs with
   | nil => simp at hk
   | cons p kvs =>
    cases l with
    | nil => simp at hl
    | cons v l =>
     simp only [List.map_cons, List.cons.injEq] at hk
     obtain ⟨k, x, e, q⟩ := hp 0 v rfl
     have e : p = (k, x) := by simpa using e
     subst e
     have hk1 : k = Sum.inr y := hk.1
     subst hk1
     rcases keyIs_shape (show keyIs (Sum.inr y) v = true from q) with ⟨i, t, z, _⟩ | ⟨z, t, e1, rfl⟩
     ·cases z
     ·cases e1
      exact .cons _ _ (ih l kvs hk.2 (by simpa using hl) fun j v hj => hp (j + 1) v hj)
 refine key us acc.toList kvs hk (by simpa using hn) fun j v hj => hp j v (by simpa using hj)
section
variable {prog : Program} {w : World} {A : Around} {E : Value -> Shared -> Prop} {s : Shared} {a : Addr} {us : List Str}
theorem sub_dd : isSubtype (.type "dict") (.type "dict") = pure true := by rw [isSubtype_type]; kernel_rfl
theorem any_hintD {Q : Bool -> Shared -> Prop} (ht : s.TypeIs (.ref a) "dict") (h : Q false s) : wpAny (model prog w) A (Builtin.List.listLengthHint (.ref a)) Q E s := by
 unfold Builtin.List.listLengthHint
 refine wpAny_bind (wpAny_specialOf ht PySem.F.slot_dict_len.lookup ?_)
 have e1 : splitId "dict.__len__" = some ("dict", "__len__") := by decide +kernel
 dsimp only
 rw [e1]
 dsimp only
 refine wpAny_bind (wpAny_isInstance ht sub_dd ?_)
 simp only [Bool.not_true, Bool.false_eq_true, if_false]
 refine wpAny_ite ?_
 rw [if_pos (by decide +kernel)]
 refine wpAny_bind (wpAny_typeOf ht ?_)
 exact wpAny_pure h
theorem any_collectDict {kvs : List (Key × Value)} {ep : Nat} {Q : List Value -> Shared -> Prop} (hh : A.handled = none) (hsm : (a == sysModules) = false) (S : s.heap.DictAt (mixKind prog w) a kvs ep) (hks : kvs.map (·.1) = us.map Sum.inr) (hl : us.length <= sizeLine)
  (hQ : ∀ h' d tk (acc : List Value) vs, StrsAre acc vs -> vs.Perm us -> s.heap.objs.size < h'.objs.size -> (∀ b o, s.heap.get? b = some o -> h'.get? b = some o) -> Q acc { s with heap := h', drawn := d, toks := tk }) :
  wpAny (model prog w) A (collect (.ref a)) Q E s := by
 have alt : a < s.heap.objs.size := S.lt_size
 have hkl : kvs.length = us.length := by have := congrArg List.length hks; simpa using this
 unfold collect
 refine wpAny_bind (wpAny_runValue (codeAny_builtin F.entry_proto_collect ?_))
 rw [Around.under_plainId F.plain_proto_collect _]
 show wpAny _ A.in1 (newList [] >>= fun l => again (.builtin "list.__iadd__" ⟨[l, .ref a], []⟩)) _ _ s
 refine wpAny_bind (wpAny_newObj_type ?_ (by size_fits))
 refine wpAny_pure ⟨plainId_quiet F.plain_list_iadd _, codeAny_builtin F.entry_list_iadd ?_⟩
 rw [Around.under_plainId F.plain_list_iadd _]
 show wpAny _ A.in1 (Builtin.List.listExtendWith (.ref s.heap.objs.size) (.ref a) (.ref s.heap.objs.size)) _ _ _
 unfold Builtin.List.listExtendWith
 have S1 := S.push { cls := .type "list", data := .seq ([] : List Value).toArray }
 have ht : Shared.TypeIs { s with heap := s.heap.push { cls := .type "list", data := .seq ([] : List Value).toArray } } (.ref a) "dict" := S1.dictOf.typeIs
 refine wpAny_bind (wpAny_typeOf ht ?_)
 have h1 : Builtin.List.listSameRef (.ref s.heap.objs.size) (.ref a) = false := by simp [Builtin.List.listSameRef]; exact Nat.ne_of_gt alt
 have h2 : (Value.type "dict" == Value.type "list") = false := by decide
 have h3 : (Value.type "dict" == Value.type "tuple") = false := by decide
 simp only [h1, h2, h3, Bool.or_false, Bool.false_eq_true, if_false]
 refine wpAny_bind (wpAny_pyIter_dict hsm S1 ?_)
 generalize hh' : ((s.heap.push { cls := .type "list", data := .seq ([] : List Value).toArray }).push { cls := .type "dict_keyiterator", data := .fields #[.ref a, .int 0 0, .int kvs.length 0, .int ep 0] }) = h'
 have sz1 : (s.heap.push { cls := .type "list", data := .seq ([] : List Value).toArray }).objs.size = s.heap.objs.size + 1 := Heap.size_push ..
 have kp : ∀ b o, (s.heap.push { cls := .type "list", data := .seq ([] : List Value).toArray }).get? b = some o -> h'.get? b = some o := fun b o e => by rw [<- hh']; exact Heap.get?_push_of_some _ e
 have ht' : Shared.TypeIs { s with heap := h' } (.ref a) "dict" := by
  obtain ⟨o, e, c⟩ := ht
  exact ⟨o, kp _ _ e, c⟩
 have st0 : h'.IsKeyIter (s.heap.objs.size + 1) a 0 kvs.length ep /\ h'.DictAt (mixKind prog w) a kvs ep := by
  refine ⟨⟨{ cls := .type "dict_keyiterator", data := .fields #[.ref a, .int 0 0, .int kvs.length 0, .int ep 0] }, ?_, rfl, rfl⟩, S1.keep kp⟩
  rw [<- hh', <- sz1]
  exact Heap.get?_push_size _ rfl
 rw [sz1]
 refine wpAny_bind (wpAny_holding (any_hintD ht' ?_))
 have hA : A.in1.handled = none := by simp [hh]
 have W := (Walks.dictKeys (prog := prog) (w := w) (A := A.in1) (knd := mixKind prog w) hA (s.heap.objs.size + 1) a (fun z => absurd alt (by rw [z]; exact Nat.not_lt.mpr (Nat.le_succ _))) kvs ep).toS
 refine wpAny_ite ?_
 rw [if_pos (by decide +kernel)]
 refine wpAny_bind (wpAny_rule ?_)
 have g0 : h'.get? s.heap.objs.size = some { cls := .type "list", data := .seq ([] : List Value).toArray } := kp _ _ (Heap.get?_push_size _ rfl)
 have nf : s.heap.objs.size ∉ [s.heap.objs.size + 1, a] := fun m => by
  simp only [List.mem_cons, List.not_mem_nil, or_false] at m
  rcases m with z | z
  ·omega
  ·rw [<- z] at alt; exact Nat.lt_irrefl _ alt
 refine wpAny_bind ?_
 show wpAny _ A.in1 (updateSeq s.heap.objs.size (·.push .none) >>= fun _ => updateSeq s.heap.objs.size (·.pop)) _ _ _
 refine wpAny_bind (wpAny_updateSeq g0 rfl ?_)
 have g1 := Heap.get?_update_self (Obj.mapSeq (·.push Value.none)) g0 rfl
 refine wpAny_updateSeq g1 rfl ?_
 have g2 := Heap.get?_update_self (Obj.mapSeq (·.pop)) g1 rfl
 have oth : ∀ b o, b ≠ s.heap.objs.size -> h'.get? b = some o -> ((h'.update s.heap.objs.size (Obj.mapSeq (·.push Value.none))).update s.heap.objs.size (Obj.mapSeq (·.pop))).get? b = some o :=
  fun b o hb e => (Heap.get?_update_other _ _ (Ne.symm hb)).trans ((Heap.get?_update_other _ _ (Ne.symm hb)).trans e)
 refine wpAny_pure ⟨plainId_quiet F.plain_extend_loop _, codeAny_extend_loopS W (by rw [hkl]; exact hl) _ nf _ kvs.length 0 _ _ _ rfl (Nat.zero_le _)
  (W.frame 0 { s with heap := h' } _ s.toks st0 (Nat.le_refl _) fun b hb o e => oth b o (fun z => nf (z ▸ hb)) e) g2 (ItemsOf.nil _) fun s' acc' c' hm g' hacc => ?_⟩
 show wpAny _ A (load s.heap.objs.size >>= _) _ _ s'
 refine wpAny_bind (wpAny_load g' ?_)
 have hs := strs_of_keys hks hacc
 obtain ⟨h'', g'', d'', tk'', os''⟩ := s'
 have e1 : g'' = s.gens := hm.gens
 have e2 : os'' = s.os := hm.os
 subst e1 e2
 refine wpAny_pure (hQ h'' d'' tk'' acc'.toList us hs (List.Perm.refl _) (Heap.lt_size g') fun b o e => hm.heap b o (fun m => ?_) (oth b o (Nat.ne_of_lt (Heap.lt_size e)) (kp b o (Heap.get?_push_of_some _ e))))
 have lt := Heap.lt_size e
 simp only [List.mem_cons, List.not_mem_nil, or_false] at m
 rcases m with m | m
 ·rw [m] at lt; exact Nat.lt_irrefl _ lt
 ·rw [m] at lt; exact absurd lt (Nat.not_lt.mpr (Nat.le_succ _))
theorem any_sortedDict {kvs : List (Key × Value)} {ep : Nat} {Q : Value -> Shared -> Prop} (hh : A.handled = none) (hsm : (a == sysModules) = false) (S : s.heap.DictAt (mixKind prog w) a kvs ep) (hks : kvs.map (·.1) = us.map Sum.inr) (h64 : us.length < 64)
  (h : ∀ h' d tk (l : Addr) (out : List Value) (ss : List Str) (e : Nat), StrsAre out ss -> ss.Perm us -> sortedS ss = true -> h'.get? l = some (seqObj "list" out.toArray e) -> s.heap.objs.size <= l -> (∀ b o, s.heap.get? b = some o -> h'.get? b = some o) ->
   Q (.ref l) { s with heap := h', drawn := d, toks := tk }) : wpAny (model prog w) A (call (.builtin "sorted") [.ref a]) Q E s := by
 refine Calls.call_function_entry kind_sorted plain_sorted entry_sorted (args_sorted1 _) ?_
 unfold Builtin.«sorted»
 refine wpAny_bind (m := checkCount "sorted" 1 1 _) (wpAny_pure ?_)
 refine wpAny_bind (any_collectDict (by simp [hh]) hsm S hks (Nat.le_of_lt (Nat.lt_trans h64 (by decide))) fun h1 d tk acc vs hs hp le kp => ?_)
 have hlen : acc.length < 64 := by rw [strs_len hs, hp.length_eq]; exact h64
 refine wpAny_bind (wpAny_newList ?_ (Nat.le_of_lt (Nat.lt_trans hlen (by decide))))
 have hoL : (h1.push (seqObj "list" acc.toArray 0)).get? h1.objs.size = some (seqObj "list" acc.toArray 0) := Heap.get?_push_size _ rfl
 refine wpAny_bind (wpAny_holding (wpAny_call_entry slot_list_sort ⟨_, hoL, rfl⟩ entry_list_sort (list_sort_treeK strKind_oneLt hoL hs.keysOf (fun v₁ v₂ rest e => keyKind_strs (by rw [<- e]; exact hs)) hlen fun st' a1 a2 => ⟨_, rfl, ?_⟩) (args_list_sort _)))
 obtain ⟨ss', b1, b2, b3⟩ := sorted_out_str hs a1 a2
 obtain ⟨e, he⟩ := sortedHeap_at (out := (arrOf st').map (·.2)) hoL
 refine wpAny_pure ⟨_, rfl, h _ _ _ _ ((arrOf st').map (·.2)).toList ss' e b1 (b2.trans hp) b3 (by rw [Array.toArray_toList]; exact he) (Nat.le_of_lt le) fun b o q => ?_⟩
 have lt := Heap.lt_size (kp b o q)
 rw [sortedHeap_old (Nat.ne_of_lt lt) (by rw [Heap.size_push]; exact Nat.lt_succ_of_lt lt)]
 exact Heap.get?_push_of_some _ (kp b o q)
end
section
variable {X : Cx}
def rSortD : List V -> Hp -> VK -> Prop := fun xs H Q => ∃ (a : Addr) (ob : Obj) (kvs : List (Key × V)) (us : List Str), xs = [.ref a] /\ FzD H a ob kvs /\ kvs.map (·.1) = us.map Sum.inr /\ us.length < 64 /\
  ∀ (ss : List Str) (l : Addr), ss.Perm us -> sortedS ss = true -> H l = none -> Q (.ref l) (upd H l (.lst (ss.map V.str)))
theorem kv_keys : ∀ {kvs : List (Key × V)} {vs : List (Key × Value)}, KV kvs vs -> kvs.map (·.1) = vs.map (·.1)
 | [], _, .nil => rfl
 | _ :: _, _, .cons r rs => by rw [List.map_cons, List.map_cons, r.1, kv_keys rs]
theorem call_sortedD (hc : X.calm = true) : CallR X (.builtin "sorted") rSortD := by
 intro pins s σ H xs us Q I r h
 obtain ⟨a, ob, kvs, uu, rfl, hz, hk, h64, q⟩ := h
 obtain ⟨u, rfl, rx⟩ := vals1 r
 cases rx
 obtain ⟨e, hs, hl, vs, es, ep, rr, dd, hd⟩ := fz_dict I hz
 refine any_sortedDict (I.ok.hd hc) hs dd (by rw [<- kv_keys rr]; exact hk) h64 fun h' d tk l out ss e hs hp hso hl le k => ?_
 refine ⟨.ref l, _, (I.laid (t' := tk) (o := .lst (ss.map V.str)) k le ?_).draw d, rfl, q ss l hp hso (I.hok.fresh le)⟩
 refine ⟨?_, out, e, vals_ofStrs hs, hl⟩
 rw [List.length_map, hp.length_eq]
 exact Nat.le_of_lt (Nat.lt_trans h64 (by decide))
end
end L2
namespace L2
open PySem PySem.Spec PyProof.Rows
section
variable {X : Cx}
def rLenD : List V -> Hp -> VK -> Prop := fun xs H Q => ∃ (a : Addr) (kvs : List (Key × V)), xs = [.ref a] /\ Rd H a (.dK kvs) /\ Q (.int kvs.length) H
theorem call_lenDK : CallR X (.builtin "len") rLenD := by
 intro pins s σ H xs us Q I r h
 obtain ⟨a, kvs, rfl, e, q⟩ := h
 obtain ⟨u, rfl, rx⟩ := vals1 r
 cases rx
 exact d_len I e fun t s' I' => ⟨.int kvs.length, H, I', ⟨t, rfl⟩, q⟩
def rIxD : R2 := fun x y H Q => ∃ a v, x = .ref a /\ DGet H a y (some v) /\ Q v H
theorem ix_dict (hu : X.A.units + 1 < cLine) : IxR X rIxD := by
 intro value slice pins s σ H x y v u Q I rx ry h hs
 obtain ⟨a, z, rfl, g, q⟩ := h
 cases rx
 have hT := dict_typeIs I g
 unfold subscriptTail
 refine wpAny_bind ?_
 rw [getitemInPython_of_ne hT.not_modules]
 refine wpAny_bind (wpAny_specialOf hT PySem.F.slot_dict_getitem.lookup ?_)
 have fin : wpAny (model X.prog X.w) X.A (subscripted slice false (.ref a) u) (fun r s₃ => wpAny (model X.prog X.w) X.A (letTemporaryGo value (.ref a) r >>= fun _ => pure r) (EP X pins σ Q) X.xe s₃) X.xe s := by
  rw [hs]
  exact wpAny_operating (d_getItem hu I g ry fun w' s3 I3 rw' => wpAny_bind (wpAny_letTemporaryGo (wpAny_pure ⟨z, H, I3, rw', q⟩)))
 first
  | exact wpAny_pure (wpAny_bind fin)
  | exact wpAny_bind (wpAny_pure (wpAny_bind fin))
  | exact wpAny_bind fin
def rInD : R2 := fun y x H Q => ∃ a o, x = .ref a /\ DGet H a y o /\ Q (.bl o.isSome) H
theorem op_in_dict (hu : X.A.units + 1 < cLine) : OpR X (compareOp .In) rInD := by
 intro pins s σ H y x u v Q I ry rx h
 obtain ⟨a, o, rfl, g, q⟩ := h
 cases rx
 exact d_in hu I g ry fun s' I' => ⟨.bl _, H, I', rfl, q⟩
end
end L2
namespace L2
open PySem PySem.Spec PyProof.Rows
def fzb : HO -> Bool
 | .lst _ => true
 | .dK _ => true
 | _ => false
def FrozenA (H H1 H2 : Hp) : Prop := ∀ b, (H b = none /\ ∃ o ob, fzb o = true /\ H1 b = some o /\ H2 b = some (.frz ob o)) \/ (¬ (H b = none /\ ∃ o, fzb o = true /\ H1 b = some o) /\ H2 b = H1 b)
section
variable {H H1 H2 : Hp} {b : Addr} {o : HO}
theorem FrozenA.keep (f : FrozenA H H1 H2) (h : H1 b = some o) (n : fzb o = false) : H2 b = some o := by
 rcases f b with ⟨_, o', ob, z, e, _⟩ | ⟨_, z⟩
 ·rw [h] at e; cases e; rw [n] at z; exact absurd z Bool.false_ne_true
 ·rw [z]; exact h
theorem FrozenA.fz (f : FrozenA H H1 H2) (hn : H b = none) (h : H1 b = some o) (n : fzb o = true) : ∃ ob, H2 b = some (.frz ob o) := by
 rcases f b with ⟨_, o', ob, z, e, e2⟩ | ⟨z, _⟩
 ·rw [h] at e; cases e; exact ⟨ob, e2⟩
 ·exact absurd ⟨hn, o, n, h⟩ z
theorem FrozenA.none_of (f : FrozenA H H1 H2) (h : H1 b = none) : H2 b = none := by
 rcases f b with ⟨_, o', ob, z, e, e2⟩ | ⟨_, z⟩
 ·rw [h] at e; cases e
 ·rw [z]; exact h
end
theorem Good.imp {P : Program} {w : World} {K : PySem.W.Frag} {mg : Str -> Option Value} {base : Heap} {k : Nat} {x : Str} {ps : List Str} {sp sp' : Sp} (G : Good P w K mg base k x ps sp) (h : ∀ vs H Q E, sp' vs H Q E -> sp vs H Q E) : Good P w K mg base k x ps sp' := by
 obtain ⟨f, fd, F, b, m, kp⟩ := G
 exact ⟨f, fd, F.imp h, b, m, kp⟩
def hardb : HO -> Bool
 | .frz _ _ => true
 | .tup _ => true
 | _ => false
def HS (H H' : Hp) : Prop := ∀ b o, hardb o = true -> H b = some o -> H' b = some o
section
variable {H H1 H2 : Hp} {a p c : Addr} {o : HO}
theorem HS.refl (H : Hp) : HS H H := fun _ _ _ e => e
theorem HS.trans (x : HS H H1) (y : HS H1 H2) : HS H H2 := fun b o h e => y b o h (x b o h e)
theorem Same.hs (s : Same H H1) : HS H H1 := fun b o _ e => s b o e
theorem FrozenA.hs (f : FrozenA H H1 H2) : HS H1 H2 := fun b o h e => f.keep e (by cases o <;> first | rfl | exact absurd h Bool.false_ne_true)
theorem hs_new (h : H a = none) : HS H (upd H a o) := fun b u _ e => by rw [upd_ne (ne_of_none e h)]; exact e
theorem hs_put {u : HO} (h : H a = some u) (n : hardb u = false) : HS H (upd H a o) := fun b v hv e => by
 by_cases z : b = a
 ·subst z; rw [h] at e; cases e; rw [n] at hv; exact absurd hv Bool.false_ne_true
 ·rw [upd_ne z]; exact e
end
end L2
namespace WordM
open PySem
def sigA : Str := " !\"#$&'()*+,-./0123456789:;<=>?@ABCDEFGHIJKLMNOPQRSTUVWXYZ[\\]^_`"
def sigB : Str := "abcdefghijklmnopqrstuvwxyz{|}~"
def SIG : Str := sigA ++ sigB
abbrev cs (x : Str) : List Nat := x.cps.toList
def sFig : Str := "0123456789"
def sGreat : Str := "ABCDEFGHIJKLMNOPQRSTUVWXYZ"
def sOther : Str := " !\"#$&'()*+,-./:;<=>?\x40[\\]^_`{|}~"
def sSmall : Str := "abcdefghijklmnopqrstuvwxyz"
def SGN : List (Str × Str) := [("figure", sFig), ("great", sGreat), ("other", sOther), ("small", sSmall)]
def MK : List Str := ["figure", "great", "other", "small"]
def Sg (x : Str) : Prop := ∀ c ∈ cs x, c ∈ cs SIG
instance (x : Str) : Decidable (Sg x) := by unfold Sg; infer_instance
def markC (c : Nat) : Str := if c ∈ cs sFig then "figure" else if c ∈ cs sGreat then "great" else if c ∈ cs sSmall then "small" else "other"
def hasM (x m : Str) : Bool := (cs x).any fun c => decide (c ∈ cs ((L2.getS SGN m).getD ⟨#[]⟩))
def marksS (x : Str) : List Str := MK.filter fun m => hasM x m
theorem app (a b : Str) : cs (a ++ b) = cs a ++ cs b := by
 show (a.cps ++ b.cps).toList = _
 simp
theorem len (a : Str) : a.length = (cs a).length := by simp [Str.length]
theorem Sg.app {a b : Str} (ha : Sg a) (hb : Sg b) : Sg (a ++ b) := fun c hc => by
 rw [WordM.app] at hc
 rcases List.mem_append.mp hc with z | z
 ·exact ha c z
 ·exact hb c z
theorem Sg.one {x : Str} (h : Sg x) {c : Nat} (hc : c ∈ cs x) : Sg ⟨#[c]⟩ := fun d hd => by
 have : d = c := by simpa using hd
 rw [this]
 exact h c hc
theorem sg_nil : Sg ⟨#[]⟩ := fun c hc => by simp at hc
theorem slice_mem {x : Str} {l u : Option Int} {c : Nat} (h : c ∈ cs (Txt.slice x l u)) : c ∈ cs x := by
 unfold Txt.slice at h
 split at h
 ·exact h
 ·simp only [cs, List.toList_toArray, List.mem_filterMap] at h
  obtain ⟨i, _, hi⟩ := h
  obtain ⟨hlt, e⟩ := Array.getElem?_eq_some_iff.mp hi
  rw [<- e]
  simp
theorem Sg.slice {x : Str} (h : Sg x) (l u : Option Int) : Sg (Txt.slice x l u) := fun c hc => h c (slice_mem hc)
theorem slice_len (x : Str) (l u : Option Int) : (Txt.slice x l u).length <= x.length := Txt.slice_le x l u
theorem str_ext {a b : Str} (h : cs a = cs b) : a = b := by
 obtain ⟨a⟩ := a
 obtain ⟨b⟩ := b
 have : a = b := Array.toList_inj.mp h
 rw [this]
theorem slice_tail {c : Nat} {r : Str} : Txt.slice ((⟨#[c]⟩ : Str) ++ r) (some 1) none = r := by
 refine str_ext ?_
 have hl : (((⟨#[c]⟩ : Str) ++ r).length) = 1 + r.length := by rw [len, app, len]; simp
 rw [PyProof.Rows.slice_from_eq (b := ((((⟨#[c]⟩ : Str) ++ r).length : Nat) : Int)) (by decide) (by omega) rfl]
 show ((cs ((⟨#[c]⟩ : Str) ++ r)).drop 1).take _ = _
 rw [app]
 show ((c :: cs r).drop 1).take _ = cs r
 rw [List.drop_one, List.tail_cons, List.take_of_length_le]
 rw [hl, len]
 omega
theorem slice_tail0 {x : Str} (h : x.length = 0) : Txt.slice x (some 1) none = x := by
 have h1 := slice_len x (some 1) none
 refine str_ext ?_
 have e1 : cs (Txt.slice x (some 1) none) = [] := List.eq_nil_of_length_eq_zero (by rw [<- len]; omega)
 have e2 : cs x = [] := List.eq_nil_of_length_eq_zero (by rw [<- len]; omega)
 rw [e1, e2]
theorem mark_of {c : Nat} (h : c ∈ cs SIG) : ∀ m ∈ MK, (c ∈ cs ((L2.getS SGN m).getD ⟨#[]⟩) ↔ markC c = m) := by
 revert c
 decide +kernel
theorem mark_in (c : Nat) : markC c ∈ MK := by
 unfold markC
 split
 ·decide
 ·split
  ·decide
  ·split
   ·decide
   ·decide
theorem sig_len : SIG.length = 94 := by decide +kernel
theorem sig_nodup : (cs SIG).Nodup := by decide +kernel
theorem slice1_len (x : Str) : (Txt.slice x (some 1) none).length + 1 <= (if x.length < 1 then 1 else x.length) := by
 by_cases h : x.length = 0
 ·rw [slice_tail0 h, if_pos (by omega)]
  omega
 ·rw [if_neg (by omega)]
  rw [PyProof.Rows.slice_from_eq (b := (x.length : Int)) (by decide) (by omega) rfl]
  show (((cs x).drop 1).take _).toArray.size + 1 <= _
  rw [List.size_toArray, List.length_take, List.length_drop, <- len]
  omega
theorem nodup_len {α : Type} [DecidableEq α] : ∀ {l m : List α}, l.Nodup -> (∀ x ∈ l, x ∈ m) -> l.length <= m.length
 | [], m, _, _ => Nat.zero_le _
 | x :: l, m, hn, hs => by
  have hx := hs x List.mem_cons_self
  have h2 := List.nodup_cons.mp hn
  have ih := nodup_len (l := l) (m := m.erase x) h2.2 fun y hy => by
   have hne : y ≠ x := fun e => h2.1 (e ▸ hy)
   exact (List.mem_erase_of_ne hne).mpr (hs y (List.mem_cons_of_mem _ hy))
  rw [List.length_erase_of_mem hx] at ih
  have : 0 < m.length := List.length_pos_of_mem hx
  rw [List.length_cons]
  omega
def sigAt (a : Int) : Nat := (cs SIG).getD (a % 94).toNat 0
theorem sigAt_mem (a : Int) : sigAt a ∈ cs SIG := by
 have hl : (a % 94).toNat < (cs SIG).length := by
  rw [<- len, sig_len]
  have := Int.emod_lt_of_pos a (show (0 : Int) < 94 by decide)
  have := Int.emod_nonneg a (show (94 : Int) ≠ 0 by decide)
  omega
 unfold sigAt
 rw [List.getD_eq_getElem?_getD, List.getElem?_eq_getElem hl]
 exact List.getElem_mem hl
theorem sigAt_inj {a b : Int} (h : sigAt a = sigAt b) : a % 94 = b % 94 := by
 have b1 := Int.emod_lt_of_pos a (show (0 : Int) < 94 by decide)
 have b2 := Int.emod_nonneg a (show (94 : Int) ≠ 0 by decide)
 have b3 := Int.emod_lt_of_pos b (show (0 : Int) < 94 by decide)
 have b4 := Int.emod_nonneg b (show (94 : Int) ≠ 0 by decide)
 have hl : (cs SIG).length = 94 := by rw [<- len]; exact sig_len
 unfold sigAt at h
 rw [List.getD_eq_getElem?_getD, List.getD_eq_getElem?_getD, List.getElem?_eq_getElem (by omega), List.getElem?_eq_getElem (by omega)] at h
 have h : (cs SIG)[(a % 94).toNat] = (cs SIG)[(b % 94).toNat] := h
 have hp := List.pairwise_iff_getElem.mp sig_nodup
 rcases Nat.lt_trichotomy (a % 94).toNat (b % 94).toNat with z | z | z
 ·exact absurd h (hp _ _ (by omega) (by omega) z)
 ·omega
 ·exact absurd h.symm (hp _ _ (by omega) (by omega) z)
def tryT (a : Int) (r : Str) (i : Nat) : Str := (⟨#[sigAt (a + i)]⟩ : Str) ++ r
theorem tryT_inj {a : Int} {r : Str} {i j : Nat} (hi : i < 90) (hj : j < 90) (h : tryT a r i = tryT a r j) : i = j := by
 have h1 : cs (tryT a r i) = cs (tryT a r j) := by rw [h]
 unfold tryT at h1
 rw [app, app] at h1
 have h2 : sigAt (a + i) = sigAt (a + j) := by
  have := List.cons.inj h1
  exact this.1
 have := sigAt_inj h2
 omega
theorem tried_le {a : Int} {r : Str} {ss : List Str} {j : Nat} (hj : j < 80) (h : ∀ i, 1 <= i -> i <= j -> tryT a r i ∈ ss) : j <= ss.length := by
 have := nodup_len (l := (List.range j).map fun i => tryT a r (i + 1)) (m := ss) (by
  unfold List.Nodup
  rw [List.pairwise_map]
  refine List.Pairwise.imp_of_mem (fun {x y} hx hy hlt e => ?_) List.pairwise_lt_range
  have hx := List.mem_range.mp hx
  have hy := List.mem_range.mp hy
  have := tryT_inj (by omega) (by omega) e
  omega) (fun x hx => by
  obtain ⟨i, hi, rfl⟩ := List.mem_map.mp hx
  have := List.mem_range.mp hi
  exact h (i + 1) (by omega) (by omega))
 simpa using this
end WordM
namespace L2
open PySem PySem.Spec PyProof.Rows WordM
section
variable {α β : Type} {F G : α -> β -> Prop}
theorem paired_get : ∀ {xs : List α} {ys : List β} {i : Nat} {x : α}, Paired F xs ys -> xs[i]? = some x -> ∃ y, ys[i]? = some y /\ F x y
 | _, _, _, _, .nil, e => by simp at e
 | _, _, 0, _, .cons r _, e => by simp at e; subst e; exact ⟨_, rfl, r⟩
 | _, _, i + 1, x, .cons _ t, e => by
  obtain ⟨u, h1, h2⟩ := paired_get (i := i) (x := x) t (by simpa using e)
  exact ⟨u, by simpa using h1, h2⟩
end
inductive Tv where
 | leaf (v : V)
 | seq (t : Bool) (xs : List Tv)
 | dct (kts : List (Str × Tv))
def VT (S : Bool -> Addr -> List V -> Prop) (D : Addr -> List (Key × V) -> Prop) : Nat -> V -> Tv -> Prop
 | 0, _, _ => False
 | d + 1, x, T => (flatV x = true /\ T = .leaf x) \/ (∃ t a xs Ts, x = .ref a /\ S t a xs /\ T = .seq t Ts /\ Ts.length <= 100000 /\ Paired (VT S D d) xs Ts) \/
   ∃ a kvs kts, x = .ref a /\ D a kvs /\ T = .dct kts /\ (kts.map (·.1)).Nodup /\ kts.length < 64 /\ Paired (fun (kv : Key × V) (kt : Str × Tv) => kv.1 = .inr kt.1 /\ VT S D d kv.2 kt.2) kvs kts
section
variable {S S' : Bool -> Addr -> List V -> Prop} {D D' : Addr -> List (Key × V) -> Prop}
theorem VT.mono (hs : ∀ t a xs, S t a xs -> S' t a xs) (hd : ∀ a kvs, D a kvs -> D' a kvs) : ∀ {d : Nat} {x : V} {T : Tv}, VT S D d x T -> VT S' D' d x T
 | 0, _, _, h => False.elim h
 | d + 1, x, T, h => by
  rcases h with h | ⟨t, a, xs, Ts, h1, h2, h3, hz, h4⟩ | ⟨a, kvs, kts, h1, h2, h3, h4, h5, h6⟩
  ·exact .inl h
  ·exact .inr (.inl ⟨t, a, xs, Ts, h1, hs _ _ _ h2, h3, hz, Paired.mapP h4 fun _ _ q => VT.mono hs hd q⟩)
  ·exact .inr (.inr ⟨a, kvs, kts, h1, hd _ _ h2, h3, h4, h5, Paired.mapP h6 fun _ _ q => ⟨q.1, VT.mono hs hd q.2⟩⟩)
theorem VT.more : ∀ {d : Nat} {x : V} {T : Tv}, VT S D d x T -> VT S D (d + 1) x T
 | 0, _, _, h => False.elim h
 | d + 1, x, T, h => by
  rcases h with h | ⟨t, a, xs, Ts, h1, h2, h3, hz, h4⟩ | ⟨a, kvs, kts, h1, h2, h3, h4, h5, h6⟩
  ·exact .inl h
  ·exact .inr (.inl ⟨t, a, xs, Ts, h1, h2, h3, hz, Paired.mapP h4 fun _ _ q => VT.more q⟩)
  ·exact .inr (.inr ⟨a, kvs, kts, h1, h2, h3, h4, h5, Paired.mapP h6 fun _ _ q => ⟨q.1, VT.more q.2⟩⟩)
theorem VT.le {d e : Nat} (h : d <= e) {x : V} {T : Tv} (q : VT S D d x T) : VT S D e x T := by
 obtain ⟨k, rfl⟩ := Nat.le.dest h
 clear h
 induction k with
 | zero => exact q
 | succ k ih => exact VT.more ih
end
def HDct (H : Hp) (a : Addr) (kvs : List (Key × V)) : Prop := ∃ ob, FzD H a ob kvs
section
variable {K : PySem.W.Frag} {H H' : Hp} {d : Nat} {x : V} {T : Tv}
theorem HDct.hs (e : HS H H') {a : Addr} {kvs : List (Key × V)} (h : HDct H a kvs) : HDct H' a kvs := by
 obtain ⟨ob, h⟩ := h
 exact ⟨ob, e _ _ rfl h⟩
end
theorem rising_pw' : ∀ (p : Str) (l : List Str), risingS p l = true -> ∀ x ∈ l, (cs x < cs p) -> False := by
 intro p l
 induction l generalizing p with
 | nil => intro _ x hx; simp at hx
 | cons y l ih =>
  intro h x hx hlt
  have h : (!PySem.Spec.ltCps y.cps.toList p.cps.toList && risingS y l) = true := h
  rw [Bool.and_eq_true] at h
  have hy : ¬ (cs y < cs p) := by
   have := h.1
   rw [ltCps_eq] at this
   simpa using this
  rcases List.mem_cons.mp hx with z | z
  ·subst z; exact hy hlt
  ·have hxy : ¬ (cs x < cs y) := fun q => ih y h.2 x z q
   have h1 : cs p <= cs y := List.not_lt.mp hy
   have h2 : cs y <= cs x := List.not_lt.mp hxy
   exact absurd hlt (List.not_lt.mpr (List.le_trans h1 h2))
theorem sorted_pw' : ∀ (l : List Str), sortedS l = true -> l.Pairwise fun a b => cs a <= cs b
 | [], _ => .nil
 | x :: l, h => by
  have h : risingS x l = true := h
  refine .cons (fun y hy => List.not_lt.mp fun z => rising_pw' x l h y hy z) (sorted_pw' l ?_)
  cases l with
  | nil => rfl
  | cons y l =>
   have h : (!PySem.Spec.ltCps y.cps.toList x.cps.toList && risingS y l) = true := h
   rw [Bool.and_eq_true] at h
   exact h.2
open Classical in
noncomputable def sortS (us : List Str) : List Str := if h : ∃ ss : List Str, ss.Perm us /\ sortedS ss = true then h.choose else us
theorem sortS_perm (us : List Str) : (sortS us).Perm us := by
 unfold sortS
 split
 ·rename_i h; exact h.choose_spec.1
 ·exact .refl _
theorem sortS_eq {us ss : List Str} (h1 : ss.Perm us) (h2 : sortedS ss = true) : ss = sortS us := by
 have ex : ∃ ss : List Str, ss.Perm us /\ sortedS ss = true := ⟨ss, h1, h2⟩
 have e : sortS us = ex.choose := by unfold sortS; rw [dif_pos ex]
 rw [e]
 exact List.Perm.eq_of_pairwise (fun a b _ _ h1 h2 => str_ext (List.le_antisymm h1 h2)) (sorted_pw' _ h2) (sorted_pw' _ ex.choose_spec.2) (h1.trans ex.choose_spec.1.symm)
def lookD (kts : List (Str × Tv)) (k : Str) : Option Tv := (kts.find? fun kt => decide (kt.1 = k)).map (·.2)
section
variable {S : Bool -> Addr -> List V -> Prop} {D : Addr -> List (Key × V) -> Prop} {d : Nat}
theorem look_at {kvs : List (Key × V)} {kts : List (Str × Tv)} {R : V -> Tv -> Prop} (h : Paired (fun (kv : Key × V) (kt : Str × Tv) => kv.1 = .inr kt.1 /\ R kv.2 kt.2) kvs kts) (k : Str) :
  (lookD kts k = none /\ valV kvs (.inr k) = none) \/ ∃ U v, lookD kts k = some U /\ valV kvs (.inr k) = some v /\ R v U := by
 induction h with
 | nil => exact .inl ⟨rfl, rfl⟩
 | @cons kv kt l1 l2 h _ ih =>
  obtain ⟨e, r⟩ := h
  by_cases z : kt.1 = k
  ·refine .inr ⟨kt.2, kv.2, ?_, valV_pos (by rw [e, z]), r⟩
   unfold lookD
   rw [List.find?_cons, decide_eq_true z]
   rfl
  ·have e2 : lookD (kt :: l2) k = lookD l2 k := by
    unfold lookD
    rw [List.find?_cons, decide_eq_false z]
   have e3 : valV (kv :: l1) (.inr k) = valV l1 (.inr k) := valV_neg (by rw [e]; exact fun q => z (Sum.inr.inj q))
   rw [e2, e3]
   exact ih
end
theorem SqT.hs {K : PySem.W.Frag} {H H' : Hp} {a : Addr} {xs : List V} (e : HS H H') (h : SqT K H a xs) : SqT K H' a xs := by
 rcases h with (h | ⟨o, h⟩) | h
 ·exact .inl (.inl (e _ _ rfl h))
 ·exact .inl (.inr ⟨o, e _ _ rfl h⟩)
 ·exact .inr h
theorem paired_app {α β : Type} {F : α -> β -> Prop} {a c : List α} {b d : List β} (h1 : Paired F a b) (h2 : Paired F c d) : Paired F (a ++ c) (b ++ d) := by
 induction h1 with
 | nil => exact h2
 | cons r _ ih => exact .cons r ih
end L2
namespace L2
open PySem PySem.Spec PyProof.Rows
abbrev noHp : Hp := fun _ => none
def Thaw (H H3 H4 : Hp) : Prop := ∀ b, (∃ o ob, fzb o = true /\ H b = some o /\ H3 b = some (.frz ob o) /\ H4 b = some o) \/ ((¬ ∃ o ob, fzb o = true /\ H b = some o /\ H3 b = some (.frz ob o)) /\ H4 b = H3 b)
theorem thaw_is (H H3 : Hp) : ∃ H4, Thaw H H3 H4 := by
 classical
 refine ⟨fun b => if h : ∃ o ob, fzb o = true /\ H b = some o /\ H3 b = some (.frz ob o) then some h.choose else H3 b, fun b => ?_⟩
 by_cases h : ∃ o ob, fzb o = true /\ H b = some o /\ H3 b = some (.frz ob o)
 ·obtain ⟨ob, h1, h2, h3⟩ := h.choose_spec
  exact .inl ⟨h.choose, ob, h1, h2, h3, by dsimp only; rw [dif_pos h]⟩
 ·exact .inr ⟨h, by dsimp only; rw [dif_neg h]⟩
theorem frozen_is {P : Program} {w : World} {H : Hp} {h : Heap} (hok : HOk P w H h) : ∃ H2, FrozenA noHp H H2 /\ HOk P w H2 h := by
 let H2 : Hp := fun b => match H b with
  | none => none
  | some o => match fzb o with
   | false => some o
   | true => match h.get? b with
    | some ob => some (.frz ob o)
    | none => some o
 have new : ∀ b o ob, H b = some o -> fzb o = true -> h.get? b = some ob -> H2 b = some (.frz ob o) := fun b o ob h1 n e => by
  show (match H b with | none => none | some o => _) = _
  rw [h1]
  dsimp only
  rw [n, e]
 have rest : ∀ b, (∀ o, H b = some o -> fzb o = false) -> H2 b = H b := fun b hn => by
  show (match H b with | none => none | some o => _) = _
  cases e : H b with
  | none => rfl
  | some o =>
   dsimp only
   rw [hn o e]
 have fro : FrozenA noHp H H2 := fun b => by
  cases h1 : H b with
  | none => exact .inr ⟨(fun ⟨_, _, _, z⟩ => by cases z), by rw [rest b (fun o z => by rw [h1] at z; cases z), h1]⟩
  | some o =>
   cases n : fzb o with
   | true =>
    obtain ⟨ob, e⟩ := (hok b o h1).there
    exact .inl ⟨rfl, o, ob, n, rfl, new b o ob h1 n e⟩
   | false => exact .inr ⟨(fun ⟨_, o', n', z⟩ => by cases z; rw [n] at n'; exact absurd n' Bool.false_ne_true), by rw [rest b (fun o' z => by rw [h1] at z; cases z; exact n), h1]⟩
 refine ⟨H2, fro, fun b o e => ?_⟩
 have st : ∀ o, ObjOk P w H h b o -> ObjOk P w H2 h b o := fun o x => x.stay (fun _ _ _ r => r) (fun d r => fro.keep r rfl) fun d xs r => fro.keep r rfl
 rcases fro b with ⟨hn, o', ob, n, z, z'⟩ | ⟨_, z'⟩
 ·obtain ⟨ob2, e2⟩ := (hok b o' z).there
  have q2 := new b o' ob2 z n e2
  rw [e] at q2
  cases q2
  exact ⟨e2, st _ (hok b _ z)⟩
 ·rw [z'] at e
  exact st o (hok b o e)
section
variable {H H2 H3 H4 : Hp} {b : Addr} {o : HO}
theorem Thaw.same (f : FrozenA noHp H H2) (s : Same H2 H3) (t : Thaw H H3 H4) : Same H H4 := fun b o e => by
 cases n : fzb o with
 | true =>
  obtain ⟨ob, e2⟩ := f.fz (b := b) rfl e n
  have e3 := s b _ e2
  rcases t b with ⟨u, ob', _, z, _, z'⟩ | ⟨z, _⟩
  ·rw [e] at z; cases z; exact z'
  ·exact absurd ⟨o, ob, n, e, e3⟩ z
 | false =>
  have e3 := s b _ (f.keep e n)
  rcases t b with ⟨u, ob', n', z, _⟩ | ⟨_, z⟩
  ·rw [e] at z; cases z; rw [n] at n'; exact absurd n' Bool.false_ne_true
  ·rw [z]; exact e3
end
end L2
namespace L2
open PySem PySem.Spec PyProof.Rows WordM
def PSeq (K : PySem.W.Frag) (H : Hp) (t : Bool) (a : Addr) (xs : List V) : Prop := match t with
 | false => ∃ ob, H a = some (.frz ob (.lst xs))
 | true => SqT K H a xs
abbrev VP (K : PySem.W.Frag) (H : Hp) : Nat -> V -> Tv -> Prop := VT (PSeq K H) (HDct H)
def VA (K : PySem.W.Frag) (H : Hp) (x : V) (T : Tv) : Prop := ∃ d, VP K H d x T
abbrev VAs (K : PySem.W.Frag) (H : Hp) : List V -> List Tv -> Prop := Paired (VA K H)
def VAk (K : PySem.W.Frag) (H : Hp) : List (Key × V) -> List (Str × Tv) -> Prop := Paired fun (kv : Key × V) (kt : Str × Tv) => kv.1 = .inr kt.1 /\ VA K H kv.2 kt.2
section
variable {K : PySem.W.Frag} {H H' H1 H2 : Hp} {x y v : V} {T U : Tv} {a : Addr} {xs : List V} {Ts : List Tv} {t : Bool} {kvs : List (Key × V)} {kts : List (Str × Tv)}
theorem PSeq.hs (e : HS H H') (h : PSeq K H t a xs) : PSeq K H' t a xs := by
 cases t with
 | false => obtain ⟨ob, h⟩ := h; exact ⟨ob, e _ _ rfl h⟩
 | true => exact SqT.hs e h
theorem VA.hs (e : HS H H') (h : VA K H x T) : VA K H' x T := by
 obtain ⟨d, h⟩ := h
 exact ⟨d, h.mono (fun _ _ _ q => q.hs e) fun _ _ q => q.hs e⟩
theorem VAs.hs (e : HS H H') (h : VAs K H xs Ts) : VAs K H' xs Ts := Paired.mapP h fun _ _ q => q.hs e
theorem VAk.hs (e : HS H H') (h : VAk K H kvs kts) : VAk K H' kvs kts := Paired.mapP h fun _ _ q => ⟨q.1, q.2.hs e⟩
theorem VAs.deep (h : VAs K H xs Ts) : ∃ d, Paired (VP K H d) xs Ts := by
 induction h with
 | nil => exact ⟨0, .nil⟩
 | cons r _ ih =>
  obtain ⟨d, r⟩ := r
  obtain ⟨e, ih⟩ := ih
  exact ⟨max d e, .cons (r.le (Nat.le_max_left _ _)) (Paired.mapP ih fun _ _ q => VT.le (Nat.le_max_right _ _) q)⟩
theorem VAk.deep (h : VAk K H kvs kts) : ∃ d, Paired (fun (kv : Key × V) (kt : Str × Tv) => kv.1 = .inr kt.1 /\ VP K H d kv.2 kt.2) kvs kts := by
 unfold VAk at h
 induction h with
 | nil => exact ⟨0, .nil⟩
 | cons r _ ih =>
  obtain ⟨k, d, r⟩ := r
  obtain ⟨e, ih⟩ := ih
  exact ⟨max d e, .cons ⟨k, r.le (Nat.le_max_left _ _)⟩ (Paired.mapP ih fun _ _ q => ⟨q.1, VT.le (Nat.le_max_right _ _) q.2⟩)⟩
theorem VA.flat (h : flatV x = true) : VA K H x (.leaf x) := ⟨1, .inl ⟨h, rfl⟩⟩
theorem VA.seq (h : PSeq K H t a xs) (z : Ts.length <= 100000) (p : VAs K H xs Ts) : VA K H (.ref a) (.seq t Ts) := by
 obtain ⟨d, p⟩ := p.deep
 exact ⟨d + 1, .inr (.inl ⟨t, a, xs, Ts, rfl, h, rfl, z, p⟩)⟩
theorem VA.dct (h : HDct H a kvs) (n : (kts.map (·.1)).Nodup) (z : kts.length < 64) (p : VAk K H kvs kts) : VA K H (.ref a) (.dct kts) := by
 obtain ⟨d, p⟩ := p.deep
 exact ⟨d + 1, .inr (.inr ⟨a, kvs, kts, rfl, h, rfl, n, z, p⟩)⟩
theorem VA.leafI (h : VA K H x (.leaf v)) : x = v /\ flatV v = true := by
 obtain ⟨d, h⟩ := h
 cases d with
 | zero => exact False.elim h
 | succ d =>
  rcases h with ⟨f, e⟩ | ⟨_, _, _, _, _, _, e, _⟩ | ⟨_, _, _, _, _, e, _⟩
  ·cases e; exact ⟨rfl, f⟩
  ·cases e
  ·cases e
theorem VA.seqI (h : VA K H x (.seq t Ts)) : ∃ a xs, x = .ref a /\ PSeq K H t a xs /\ Ts.length <= 100000 /\ VAs K H xs Ts := by
 obtain ⟨d, h⟩ := h
 cases d with
 | zero => exact False.elim h
 | succ d =>
  rcases h with ⟨_, e⟩ | ⟨t', a, xs, Ts', e1, hs, e, z, p⟩ | ⟨_, _, _, _, _, e, _⟩
  ·cases e
  ·cases e; exact ⟨a, xs, e1, hs, z, Paired.mapP p fun _ _ q => ⟨d, q⟩⟩
  ·cases e
theorem VA.dctI (h : VA K H x (.dct kts)) : ∃ a kvs, x = .ref a /\ HDct H a kvs /\ (kts.map (·.1)).Nodup /\ kts.length < 64 /\ VAk K H kvs kts := by
 obtain ⟨d, h⟩ := h
 cases d with
 | zero => exact False.elim h
 | succ d =>
  rcases h with ⟨_, e⟩ | ⟨_, _, _, _, _, _, e, _⟩ | ⟨a, kvs, kts', e1, hd, e, n, z, p⟩
  ·cases e
  ·cases e
  ·cases e; exact ⟨a, kvs, e1, hd, n, z, Paired.mapP p fun _ _ q => ⟨q.1, d, q.2⟩⟩
end
inductive Sl where
 | no
 | va (T : Tv)
 | own (xs : List Tv)
 | dct (kts : List (Str × Tv))
 | dk
 | rd (t : Str) (p : Int)
 | fn (a : Addr)
abbrev PEnv := List Sl
def mutb : Sl -> Bool
 | .own _ => true
 | .dct _ => true
 | .rd _ _ => true
 | _ => false
def isRd : Sl -> Bool
 | .rd _ _ => true
 | _ => false
structure Fm where
 H0 : Hp
 dk : Option (Addr × Addr)
 rd : Option (Addr × Addr) := none
def RdAt (H : Hp) (a C : Addr) (t : Str) (p : Int) : Prop := ∃ dx, H a = some (.ins C dx [("text", .str t), ("place", .int p)])
structure Kp (dk rd : Option (Addr × Addr)) (H H' : Hp) : Prop where
 st : ∀ b o, H b = some o -> (∀ p c, dk = some (p, c) -> b ≠ p /\ b ≠ c) -> (∀ a C, rd = some (a, C) -> b ≠ a) -> H' b = some o
 dkk : ∀ p c, dk = some (p, c) -> DeckAt H' p c
 rdk : ∀ a C, rd = some (a, C) -> ∃ t p, RdAt H' a C t p
theorem Kp.tr {dk rd : Option (Addr × Addr)} {H H' : Hp} (k : Kp dk rd H H') (b : Addr) (o : HO) (e : H b = some o) : ∃ o', H' b = some o' := by
 by_cases z1 : ∃ a C, rd = some (a, C) /\ b = a
 ·obtain ⟨a, C, d, rfl⟩ := z1
  obtain ⟨t, p, dx, e1⟩ := k.rdk b C d
  exact ⟨_, e1⟩
 have n1 : ∀ a C, rd = some (a, C) -> b ≠ a := fun a C d z => z1 ⟨a, C, d, z⟩
 cases d : dk with
 | none => exact ⟨o, k.st b o e (fun p c z => by rw [d] at z; cases z) n1⟩
 | some pc =>
  obtain ⟨p, c⟩ := pc
  obtain ⟨_, ⟨S, i, e1⟩, ns, e2, _⟩ := k.dkk p c d
  by_cases h1 : b = p
  ·subst h1; exact ⟨_, e1⟩
  ·by_cases h2 : b = c
   ·subst h2; exact ⟨_, e2⟩
   ·exact ⟨o, k.st b o e (fun p' c' z => by rw [d] at z; cases z; exact ⟨h1, h2⟩) n1⟩
def SlAt (K : PySem.W.Frag) (F : Fm) (H : Hp) (ox : Option V) : Sl -> Prop
 | .no => True
 | .va T => ∃ x, ox = some x /\ VA K H x T
 | .own Ts => ∃ a xs, ox = some (.ref a) /\ H a = some (.lst xs) /\ F.H0 a = none /\ Ts.length <= 100000 /\ VAs K H xs Ts
 | .dct kts => ∃ a kvs, ox = some (.ref a) /\ H a = some (.dK kvs) /\ F.H0 a = none /\ (kts.map (·.1)).Nodup /\ kts.length < 64 /\ VAk K H kvs kts
 | .dk => ∃ p c, F.dk = some (p, c) /\ ox = some (.ref p)
 | .rd t p => ∃ a C, F.rd = some (a, C) /\ ox = some (.ref a) /\ RdAt H a C t p
 | .fn a => ox = some (.ref a)
def ixv (σ : St) (i : Nat) : Option V := (σ[i]?).join
structure FrOk (K : PySem.W.Frag) (F : Fm) (ρ : PEnv) (σ : St) (H : Hp) : Prop where
 d0 : ∀ p c, F.dk = some (p, c) -> DeckAt F.H0 p c
 r0 : ∀ a C, F.rd = some (a, C) -> ∃ t p, RdAt F.H0 a C t p
 kp : Kp F.dk F.rd F.H0 H
 len : ρ.length = σ.length
 at_ : ∀ (i : Nat) (s : Sl), ρ[i]? = some s -> SlAt K F H (ixv σ i) s
 ap : ∀ (i j : Nat) (a : Addr) (s t : Sl), ρ[i]? = some s -> ρ[j]? = some t -> mutb s = true -> mutb t = true -> ixv σ i = some (.ref a) -> ixv σ j = some (.ref a) -> i = j
def Stay (F : Fm) (ρ : PEnv) (σ : St) (H H' : Hp) : Prop := ∀ b o, H b = some o -> (∀ p c, F.dk = some (p, c) -> b ≠ p /\ b ≠ c) -> (∀ (i : Nat) (s : Sl), ρ[i]? = some s -> mutb s = true -> ixv σ i ≠ some (.ref b)) -> H' b = some o
def Sbv (ρ' ρ : PEnv) : Prop := ∀ (i : Nat) (s' : Sl), ρ'[i]? = some s' -> mutb s' = true -> ∃ s, ρ[i]? = some s /\ mutb s = true
structure Stp (K : PySem.W.Frag) (F : Fm) (σ : St) (ρ : PEnv) (H : Hp) (ρ' : PEnv) (H' : Hp) : Prop where
 fr : FrOk K F ρ' σ H'
 st : Stay F ρ σ H H'
 sub : Sbv ρ' ρ
 tr : ∀ b o, H b = some o -> ∃ o', H' b = some o'
section
variable {K : PySem.W.Frag} {F : Fm} {ρ ρ1 ρ2 : PEnv} {σ : St} {H H' H1 H2 : Hp} {x y v : V} {T U : Tv} {a b : Addr} {o : HO}
theorem Sbv.refl (ρ : PEnv) : Sbv ρ ρ := fun i s e m => ⟨s, e, m⟩
theorem Sbv.trans (h1 : Sbv ρ1 ρ) (h2 : Sbv ρ2 ρ1) : Sbv ρ2 ρ := fun i s e m => by
 obtain ⟨s1, e1, m1⟩ := h2 i s e m
 exact h1 i s1 e1 m1
theorem FrOk.own_at (fr : FrOk K F ρ σ H) {i : Nat} {s : Sl} (e : ρ[i]? = some s) (m : mutb s = true) (q : ixv σ i = some (.ref a)) (nr : isRd s = false) : (∃ o, H a = some o /\ fzb o = true) /\ F.H0 a = none := by
 have h := fr.at_ i s e
 cases s with
 | own Ts => obtain ⟨a', xs, e1, e2, e3, _⟩ := h; rw [q] at e1; cases e1; exact ⟨⟨_, e2, rfl⟩, e3⟩
 | dct kts => obtain ⟨a', xs, e1, e2, e3, _⟩ := h; rw [q] at e1; cases e1; exact ⟨⟨_, e2, rfl⟩, e3⟩
 | no => cases m
 | va _ => cases m
 | dk => cases m
 | rd _ _ => cases nr
 | fn _ => cases m
theorem FrOk.mut_at (fr : FrOk K F ρ σ H) {i : Nat} {s : Sl} (e : ρ[i]? = some s) (m : mutb s = true) (q : ixv σ i = some (.ref a)) : ∃ o, H a = some o /\ (fzb o = true \/ ∃ C dx fs, o = .ins C dx fs) := by
 cases r : isRd s with
 | false => obtain ⟨⟨o, e1, n⟩, _⟩ := fr.own_at e m q r; exact ⟨o, e1, .inl n⟩
 | true =>
  have h := fr.at_ i s e
  cases s with
  | rd t p => obtain ⟨b, C, e1, e2, dx, e3⟩ := h; rw [q] at e2; cases e2; exact ⟨_, e3, .inr ⟨_, _, _, rfl⟩⟩
  | _ => cases r
theorem FrOk.nr_of (fr : FrOk K F ρ σ H) {i : Nat} {s : Sl} (e : ρ[i]? = some s) (q : ixv σ i = some (.ref a)) (h : H a = some o) (n : fzb o = true) : isRd s = false := by
 have x := fr.at_ i s e
 cases s with
 | rd t p =>
  obtain ⟨b, C, e1, e2, dx, e3⟩ := x
  rw [q] at e2
  cases e2
  rw [e3] at h
  cases h
  cases n
 | _ => rfl
theorem FrOk.fresh_nord (fr : FrOk K F ρ σ H) (h : F.H0 a = none) : ∀ b C, F.rd = some (b, C) -> a ≠ b := fun b C e z => by
 obtain ⟨t, p, dx, e1⟩ := fr.r0 b C e
 rw [z, e1] at h; cases h
theorem FrOk.none_nord (fr : FrOk K F ρ σ H) (h : H a = none) : ∀ b C, F.rd = some (b, C) -> a ≠ b := fun b C e z => by
 obtain ⟨t, p, dx, e1⟩ := fr.kp.rdk b C e
 rw [z, e1] at h; cases h
theorem FrOk.fresh_nodk (fr : FrOk K F ρ σ H) (h : F.H0 a = none) : ∀ p c, F.dk = some (p, c) -> a ≠ p /\ a ≠ c := fun p c e => by
 obtain ⟨_, ⟨S, k, e1⟩, ns, e2, _⟩ := fr.d0 p c e
 exact ⟨fun z => (by rw [z, e1] at h; cases h), fun z => (by rw [z, e2] at h; cases h)⟩
theorem FrOk.none_nodk (fr : FrOk K F ρ σ H) (h : H a = none) : ∀ p c, F.dk = some (p, c) -> a ≠ p /\ a ≠ c := fun p c e => by
 obtain ⟨_, ⟨S, k, e1⟩, ns, e2, _⟩ := fr.kp.dkk p c e
 exact ⟨fun z => (by rw [z, e1] at h; cases h), fun z => (by rw [z, e2] at h; cases h)⟩
theorem FrOk.ins_nodk (fr : FrOk K F ρ σ H) {C dx : Addr} {fs : List (Str × V)} (h : H a = some (.ins C dx fs)) : ∀ p c, F.dk = some (p, c) -> a ≠ p /\ a ≠ c := fun p c e => by
 obtain ⟨_, ⟨S, k, e1⟩, ns, e2, _⟩ := fr.kp.dkk p c e
 exact ⟨fun z => (by rw [z, e1] at h; cases h), fun z => (by rw [z, e2] at h; cases h)⟩
theorem FrOk.mut_nodk (fr : FrOk K F ρ σ H) {i : Nat} {s : Sl} (e : ρ[i]? = some s) (m : mutb s = true) (q : ixv σ i = some (.ref a)) : ∀ p c, F.dk = some (p, c) -> a ≠ p /\ a ≠ c := by
 cases r : isRd s with
 | false => exact fr.fresh_nodk (fr.own_at e m q r).2
 | true =>
  have h := fr.at_ i s e
  cases s with
  | rd t p => obtain ⟨b, C, e1, e2, dx, e3⟩ := h; rw [q] at e2; cases e2; exact fr.ins_nodk e3
  | _ => cases r
theorem FrOk.none0 (fr : FrOk K F ρ σ H) (h : H a = none) : F.H0 a = none := by
 cases q : F.H0 a with
 | none => rfl
 | some o => rw [fr.kp.st a o q (fr.none_nodk h) (fr.none_nord h)] at h; cases h
theorem Stay.hs (fr : FrOk K F ρ σ H) (s : Stay F ρ σ H H') : HS H H' := fun b o h e => s b o e
 (fun p c d => by
  obtain ⟨_, ⟨S, k, e1⟩, ns, e2, _⟩ := fr.kp.dkk p c d
  exact ⟨fun z => (by subst z; rw [e1] at e; cases e; cases h), fun z => (by subst z; rw [e2] at e; cases e; cases h)⟩)
 fun i s e1 m q => by
  obtain ⟨o', e2, n⟩ := fr.mut_at e1 m q
  rw [e] at e2; cases e2
  rcases n with n | ⟨C, dx, fs, rfl⟩
  ·cases o <;> first | exact absurd h Bool.false_ne_true | exact absurd n Bool.false_ne_true
  ·exact absurd h Bool.false_ne_true
theorem Stay.trans (s1 : Stay F ρ σ H H1) (sb : Sbv ρ1 ρ) (s2 : Stay F ρ1 σ H1 H2) : Stay F ρ σ H H2 := fun b o e d n =>
 s2 b o (s1 b o e d n) d fun i s e1 m => by
  obtain ⟨s', e2, m'⟩ := sb i s e1 m
  exact n i s' e2 m'
theorem Stp.trans (a : Stp K F σ ρ H ρ1 H1) (b : Stp K F σ ρ1 H1 ρ2 H2) : Stp K F σ ρ H ρ2 H2 := ⟨b.fr, a.st.trans a.sub b.st, a.sub.trans b.sub, fun c o e => let ⟨o1, e1⟩ := a.tr c o e; b.tr c o1 e1⟩
theorem Stp.refl (fr : FrOk K F ρ σ H) : Stp K F σ ρ H ρ H := ⟨fr, fun _ _ e _ _ => e, Sbv.refl _, fun _ o e => ⟨o, e⟩⟩
theorem Stp.hs (a : Stp K F σ ρ H ρ1 H1) (fr : FrOk K F ρ σ H) : HS H H1 := a.st.hs fr
theorem FrOk.call (fr : FrOk K F ρ σ H) (k : Kp F.dk none H H') : FrOk K F ρ σ H' := by
 have nn : ∀ {b : Addr} (a C : Addr), (none : Option (Addr × Addr)) = some (a, C) -> b ≠ a := fun a C z => nomatch z
 have own : ∀ i s a o, ρ[i]? = some s -> mutb s = true -> ixv σ i = some (.ref a) -> H a = some o -> H' a = some o := fun i s a o e m q h =>
  k.st a o h (fr.mut_nodk e m q) nn
 have hs : HS H H' := fun b o h e => k.st b o e (fun p c d => by
  obtain ⟨_, ⟨S, k, e1⟩, ns, e2, _⟩ := fr.kp.dkk p c d
  exact ⟨fun z => (by subst z; rw [e1] at e; cases e; cases h), fun z => (by subst z; rw [e2] at e; cases e; cases h)⟩) nn
 refine ⟨fr.d0, fr.r0, ⟨fun b o e n m => k.st b o (fr.kp.st b o e n m) n nn, k.dkk, fun a C d => ?_⟩, fr.len, fun i s e => ?_, fr.ap⟩
 ·obtain ⟨t, p, dx, q⟩ := fr.kp.rdk a C d
  exact ⟨t, p, dx, k.st a _ q (fr.ins_nodk q) nn⟩
 have h := fr.at_ i s e
 cases s with
 | no => trivial
 | va T => obtain ⟨x, e1, v⟩ := h; exact ⟨x, e1, v.hs hs⟩
 | own Ts => obtain ⟨a, xs, e1, e2, e3, z, p⟩ := h; exact ⟨a, xs, e1, own i _ a _ e rfl e1 e2, e3, z, p.hs hs⟩
 | dct kts => obtain ⟨a, kvs, e1, e2, e3, n, z, p⟩ := h; exact ⟨a, kvs, e1, own i _ a _ e rfl e1 e2, e3, n, z, p.hs hs⟩
 | dk => exact h
 | fn _ => exact h
 | rd t p => obtain ⟨a, C, e1, e2, dx, e3⟩ := h; exact ⟨a, C, e1, e2, dx, own i _ a _ e rfl e2 e3⟩
theorem Kp.of_same (fr : FrOk K F ρ σ H) (s : Same H H') : Kp F.dk none H H' := ⟨fun b o e _ _ => s b o e, fun p c d => by
 obtain ⟨ne, ⟨S, k, e1⟩, ns, e2, l⟩ := fr.kp.dkk p c d
 exact ⟨ne, ⟨S, k, s _ _ e1⟩, ns, s _ _ e2, l⟩, fun _ _ z => nomatch z⟩
theorem Stp.call (fr : FrOk K F ρ σ H) (k : Kp F.dk none H H') : Stp K F σ ρ H ρ H' := ⟨fr.call k, fun b o e d _ => k.st b o e d (fun _ _ z => nomatch z), Sbv.refl _, fun b o e => k.tr b o e⟩
theorem Stp.same (fr : FrOk K F ρ σ H) (s : Same H H') : Stp K F σ ρ H ρ H' := Stp.call fr (Kp.of_same fr s)
end
theorem Stp.non {K : PySem.W.Frag} {F : Fm} {ρ ρ1 : PEnv} {σ : St} {H H1 : Hp} {a : Addr} (s : Stp K F σ ρ H ρ1 H1) (n : H1 a = none) : H a = none := by
 cases e : H a with
 | none => rfl
 | some o =>
  obtain ⟨o', e'⟩ := s.tr a o e
  rw [n] at e'; cases e'
abbrev UT := PEnv -> (Tv -> PEnv -> Prop) -> Prop
abbrev UTt := PEnv -> (Bool -> PEnv -> Prop) -> Prop
abbrev UTl := PEnv -> (List Tv -> PEnv -> Prop) -> Prop
inductive Ar where
 | va (T : Tv)
 | dk
 | fn (a : Addr)
abbrev UTa := PEnv -> (List Ar -> PEnv -> Prop) -> Prop
def ArAt (K : PySem.W.Frag) (dk : Option (Addr × Addr)) (H : Hp) (x : V) : Ar -> Prop
 | .va T => VA K H x T
 | .dk => ∃ p c, dk = some (p, c) /\ x = .ref p
 | .fn a => x = .ref a
def liftE (K : PySem.W.Frag) (F : Fm) (u : UT) : TE := fun σ H QQ => ∃ ρ Q, FrOk K F ρ σ H /\ u ρ Q /\ ∀ x T H' ρ', Stp K F σ ρ H ρ' H' -> VA K H' x T -> Q T ρ' -> QQ x H'
def liftT (K : PySem.W.Frag) (F : Fm) (u : UTt) : TT := fun σ H QQ => ∃ ρ Q, FrOk K F ρ σ H /\ u ρ Q /\ ∀ b H' ρ', Stp K F σ ρ H ρ' H' -> Q b ρ' -> QQ b H'
def liftL (K : PySem.W.Frag) (F : Fm) (u : UTl) : TE := fun σ H QQ => ∃ ρ Q, FrOk K F ρ σ H /\ u ρ Q /\ ∀ a xs Ts H' ρ', Stp K F σ ρ H ρ' H' -> H a = none -> H' a = some (.lst xs) -> Ts.length <= 100000 -> VAs K H' xs Ts -> Q Ts ρ' -> QQ (.ref a) H'
def liftA (K : PySem.W.Frag) (F : Fm) (u : UTa) : TA := fun σ H QQ => ∃ ρ Q, FrOk K F ρ σ H /\ u ρ Q /\ ∀ xs as H' ρ', Stp K F σ ρ H ρ' H' -> Paired (ArAt K F.dk H') xs as -> Q as ρ' -> QQ xs H'
structure UE (X : Cx) (F : Fm) (e : Expr) (u : UT) : Prop where
 pe : PE X e (liftE X.K F u)
structure UB (X : Cx) (F : Fm) (e : Expr) (u : UTt) : Prop where
 pt : PT X e (liftT X.K F u)
structure UW (X : Cx) (F : Fm) (e : Expr) (u : UTt) : Prop where
 pw : PW X e (liftT X.K F u)
structure UL (X : Cx) (F : Fm) (e : Expr) (u : UTl) : Prop where
 pe : PE X e (liftL X.K F u)
structure UA (X : Cx) (F : Fm) (es : List Expr) (u : UTa) : Prop where
 pa : PA X es (liftA X.K F u)
theorem PE.imp {X : Cx} {e : Expr} {t t' : TE} (h : PE X e t) (i : ∀ σ H Q, t' σ H Q -> t σ H Q) : PE X e t' := fun pins s σ H Q I q => h pins s σ H Q I (i σ H Q q)
theorem PT.imp {X : Cx} {e : Expr} {t t' : TT} (h : PT X e t) (i : ∀ σ H Q, t' σ H Q -> t σ H Q) : PT X e t' := fun pins s σ H Q I q => h pins s σ H Q I (i σ H Q q)
theorem PW.imp {X : Cx} {e : Expr} {t t' : TT} (h : PW X e t) (i : ∀ σ H Q, t' σ H Q -> t σ H Q) : PW X e t' := fun wh pins s σ H Q I q => h wh pins s σ H Q I (i σ H Q q)
theorem PA.imp {X : Cx} {es : List Expr} {t t' : TA} (h : PA X es t) (i : ∀ σ H Q, t' σ H Q -> t σ H Q) : PA X es t' := fun pos pins s σ H Q I q => h pos pins s σ H Q I (i σ H Q q)
theorem Inv.fz {X : Cx} {pins : List (Addr × Obj)} {σ : St} {H : Hp} {s : Shared} {a : Addr} {o : HO} (I : Inv X pins σ H s) (h : H a = some o) (n : fzb o = true) : ∃ ob, Inv X pins σ (upd H a (.frz ob o)) s := by
 obtain ⟨ob, eo⟩ := (I.hok a o h).there
 refine ⟨ob, ?_⟩
 have keep : ∀ b u, H b = some u -> fzb u = false -> upd H a (.frz ob o) b = some u := fun b u e m => by
  rw [upd_ne (fun z => by subst z; rw [h] at e; cases e; rw [n] at m; cases m)]; exact e
 have non : ∀ b, H b = none -> upd H a (.frz ob o) b = none := fun b e => by
  rw [upd_ne (fun z => by subst z; rw [h] at e; cases e)]; exact e
 refine ⟨I.ok, I.os, I.bare, ⟨I.base.keep, I.base.slot, fun b o e n hx => non b (I.base.free b o e n hx), I.base.there, fun b xs e => keep b _ (I.base.tups b xs e) rfl, fun b o u e => keep b _ (I.base.frzs b o u e) rfl, fun b ps e => ?_⟩, I.loc, I.cell, non _ I.free, fun x c e => non c (I.freeC x c e), fun p hp => ?_, fun b u e => ?_, I.len⟩
 ·obtain ⟨more, z⟩ := I.base.tbls b ps e
  exact ⟨more, keep b _ z rfl⟩
 ·obtain ⟨p1, p2, p3⟩ := I.pin p hp
  exact ⟨p1, non _ p2, p3⟩
 ·have st : ∀ b u, ObjOk X.prog X.w H s.heap b u -> ObjOk X.prog X.w (upd H a (.frz ob o)) s.heap b u := fun b u x => x.stay (fun _ _ _ r => r) (fun d r => keep d _ r rfl) fun d xs r => keep d _ r rfl
  by_cases z : b = a
  ·subst z
   rw [upd_same] at e
   cases e
   exact ⟨eo, st _ _ (I.hok b o h)⟩
  ·rw [upd_ne z] at e
   exact st _ _ (I.hok b u e)
def FzQ (Q : VK) : VK := fun z H => Q z H \/ ∃ a o, z = .ref a /\ H a = some o /\ fzb o = true /\ ∀ ob, Q z (upd H a (.frz ob o))
def tFz (t : TE) : TE := fun σ H Q => t σ H (FzQ Q)
theorem EP.fz {X : Cx} {pins : List (Addr × Obj)} {σ : St} {Q : VK} {u : Value} {s : Shared} (h : EP X pins σ (FzQ Q) u s) : EP X pins σ Q u s := by
 obtain ⟨x, H', I, r, q⟩ := h
 rcases q with q | ⟨a, o, rfl, e, n, q⟩
 ·exact ⟨x, H', I, r, q⟩
 ·obtain ⟨ob, I'⟩ := I.fz e n
  exact ⟨_, _, I', r, q ob⟩
theorem PE.fz {X : Cx} {e : Expr} {t : TE} (h : PE X e t) : PE X e (tFz t) := fun pins s σ H Q I q => thn (h pins s σ H _ I q) fun _ _ z => z.fz
def Raw (K : PySem.W.Frag) (H H' : Hp) (z : V) (W : Tv) : Prop := Same H H' /\ (VA K H' z W \/ ∃ a, z = .ref a /\ H a = none /\
 ((∃ xs Ts, H' a = some (.lst xs) /\ W = .seq false Ts /\ Ts.length <= 100000 /\ VAs K H' xs Ts) \/ ∃ kvs kts, H' a = some (.dK kvs) /\ W = .dct kts /\ (kts.map (·.1)).Nodup /\ kts.length < 64 /\ VAk K H' kvs kts))
section
variable {K : PySem.W.Frag} {F : Fm} {ρ ρ1 ρ2 : PEnv} {σ : St} {H H' H1 H2 : Hp} {x y v z : V} {T U W : Tv} {a b : Addr} {o : HO}
theorem Raw.va (v : VA K H z W) : Raw K H H z W := ⟨Same.refl _, .inl v⟩
theorem Raw.flat (h : flatV z = true) : Raw K H H z (.leaf z) := .va (.flat h)
theorem Raw.lst {xs : List V} {Ts : List Tv} (n : H a = none) (z : Ts.length <= 100000) (p : VAs K H xs Ts) : Raw K H (upd H a (.lst xs)) (.ref a) (.seq false Ts) :=
 ⟨same_new n, .inr ⟨a, rfl, n, .inl ⟨xs, Ts, upd_same, rfl, z, p.hs (hs_new n)⟩⟩⟩
theorem Raw.tup {xs : List V} {Ts : List Tv} (n : H a = none) (z : Ts.length <= 100000) (p : VAs K H xs Ts) : Raw K H (upd H a (.tup xs)) (.ref a) (.seq true Ts) :=
 ⟨same_new n, .inl (VA.seq (t := true) (SqT.of upd_same) z (p.hs (hs_new n)))⟩
theorem Stp.frz (fr : FrOk K F ρ σ H) (s : Same H H') (n : H a = none) (e : H' a = some o) (m : fzb o = true) (ob : Obj) : Stp K F σ ρ H ρ (upd H' a (.frz ob o)) :=
 Stp.same fr fun b u q => by rw [upd_ne (ne_of_none q n)]; exact s b u q
theorem Raw.fin (fr : FrOk K F ρ σ H) (r : Raw K H H' z W) {QQ : VK} (k : ∀ H'', Stp K F σ ρ H ρ H'' -> VA K H'' z W -> QQ z H'') : FzQ QQ z H' := by
 obtain ⟨s, v | ⟨a, rfl, n, ⟨xs, Ts, e, rfl, l, p⟩ | ⟨kvs, kts, e, rfl, nd, l, p⟩⟩⟩ := r
 ·exact .inl (k H' (Stp.same fr s) v)
 ·refine .inr ⟨a, _, rfl, e, rfl, fun ob => k _ (Stp.frz fr s n e rfl ob) (VA.seq (t := false) ⟨ob, upd_same⟩ l (p.hs (hs_put e rfl)))⟩
 ·refine .inr ⟨a, _, rfl, e, rfl, fun ob => k _ (Stp.frz fr s n e rfl ob) (VA.dct ⟨ob, upd_same⟩ nd l (p.hs (hs_put e rfl)))⟩
end
end L2
namespace L2
open PySem PySem.Spec PyProof.Rows WordM
abbrev iT (i : Int) : Tv := .leaf (.int i)
abbrev sT (x : Str) : Tv := .leaf (.str x)
abbrev bT (b : Bool) : Tv := .leaf (.bl b)
abbrev nT : Tv := .leaf .non
abbrev P1 := Tv -> (Tv -> Prop) -> Prop
abbrev P2 := Tv -> Tv -> (Tv -> Prop) -> Prop
abbrev Pn := List Tv -> (Tv -> Prop) -> Prop
section
variable {X : Cx} {F : Fm}
def uVar (i : Nat) : UT := fun ρ Q => match ρ[i]? with
 | some (.va T) => Q T ρ
 | some (.own Ts) => Q (.seq false Ts) (ρ.set i (.va (.seq false Ts)))
 | some (.dct kts) => Q (.dct kts) (ρ.set i (.va (.dct kts)))
 | _ => False
theorem ixv_some {σ : St} {i : Nat} {x : V} (h : ixv σ i = some x) : σ[i]? = some (some x) := by
 unfold ixv at h
 cases q : σ[i]? with
 | none => rw [q] at h; cases h
 | some o => rw [q] at h; cases o with
  | none => cases h
  | some y => cases h; rfl
theorem ixv_of {σ : St} {i : Nat} {x : V} (h : σ[i]? = some (some x)) : ixv σ i = some x := by
 unfold ixv; rw [h]; rfl
theorem FrOk.fzs {K : PySem.W.Frag} {ρ : PEnv} {σ : St} {H : Hp} {i : Nat} {s : Sl} {a : Addr} {o : HO} {T : Tv} (fr : FrOk K F ρ σ H) (e : ρ[i]? = some s) (m : mutb s = true) (q : ixv σ i = some (.ref a)) (h : H a = some o) (n : fzb o = true) (ob : Obj)
  (v : VA K (upd H a (.frz ob o)) (.ref a) T) : Stp K F σ ρ H (ρ.set i (.va T)) (upd H a (.frz ob o)) := by
 have hi : i < ρ.length := (List.getElem?_eq_some_iff.mp e).1
 have nr := fr.nr_of e q h n
 have h0 := (fr.own_at e m q nr).2
 have hd := fr.fresh_nodk h0
 have hs : HS H (upd H a (.frz ob o)) := hs_put h (by cases o <;> first | rfl | exact absurd n Bool.false_ne_true)
 have st : ∀ b u, b ≠ a -> H b = some u -> upd H a (.frz ob o) b = some u := fun b u z e => by rw [upd_ne z]; exact e
 have hr := fr.fresh_nord h0
 refine ⟨⟨fr.d0, fr.r0, ⟨fun b u e1 n1 n2 => st b u (fun z => by rw [z, h0] at e1; cases e1) (fr.kp.st b u e1 n1 n2), fun p c d => ?_, fun a' C d => ?_⟩, by rw [List.length_set]; exact fr.len, fun j s' e' => ?_, fun j k b s' t' e1 e2 m1 m2 q1 q2 => ?_⟩, fun b u e1 _ n1 => st b u (fun z => n1 i s e m (by rw [z]; exact q)) e1, fun j s' e' m' => ?_, fun b u e1 => if z : b = a then ⟨.frz ob o, z ▸ upd_same⟩ else ⟨u, st b u z e1⟩⟩
 ·obtain ⟨ne, ⟨S, k, e1⟩, ns, e2, l⟩ := fr.kp.dkk p c d
  exact ⟨ne, ⟨S, k, st _ _ (hd p c d).1.symm e1⟩, ns, st _ _ (hd p c d).2.symm e2, l⟩
 ·obtain ⟨t, p, dx, e1⟩ := fr.kp.rdk a' C d
  exact ⟨t, p, dx, st _ _ (hr a' C d).symm e1⟩
 ·by_cases z : i = j
  ·subst z
   rw [List.getElem?_set_self hi] at e'
   cases e'
   exact ⟨_, q, v⟩
  ·rw [List.getElem?_set_ne z] at e'
   have x := fr.at_ j s' e'
   cases s' with
   | no => trivial
   | va T => obtain ⟨y, e1, v⟩ := x; exact ⟨y, e1, v.hs hs⟩
   | own Ts => obtain ⟨b, xs, e1, e2, e3, z', p⟩ := x; exact ⟨b, xs, e1, st _ _ (fun y => z (fr.ap i j a s _ e e' m rfl q (by rw [e1, y]))) e2, e3, z', p.hs hs⟩
   | dct kts => obtain ⟨b, kvs, e1, e2, e3, n', z', p⟩ := x; exact ⟨b, kvs, e1, st _ _ (fun y => z (fr.ap i j a s _ e e' m rfl q (by rw [e1, y]))) e2, e3, n', z', p.hs hs⟩
   | dk => exact x
   | fn _ => exact x
   | rd t p => obtain ⟨b, C, e1, e2, dx, e3⟩ := x; exact ⟨b, C, e1, e2, dx, st _ _ (hr b C e1).symm e3⟩
 ·by_cases z1 : i = j
  ·subst z1; rw [List.getElem?_set_self hi] at e1; cases e1; cases m1
  ·by_cases z2 : i = k
   ·subst z2; rw [List.getElem?_set_self hi] at e2; cases e2; cases m2
   ·rw [List.getElem?_set_ne z1] at e1
    rw [List.getElem?_set_ne z2] at e2
    exact fr.ap j k b s' t' e1 e2 m1 m2 q1 q2
 ·by_cases z : i = j
  ·subst z; rw [List.getElem?_set_self hi] at e'; cases e'; cases m'
  ·rw [List.getElem?_set_ne z] at e'; exact ⟨s', e', m'⟩
theorem ue_var (i : Nat) {x : Str} {pos : Pos} (hN : X.N[i]? = some x := by rfl) (hv : Vis X.env.scope x := by first | exact Or.inl rfl | exact Or.inr (Or.inl rfl) | exact Or.inr (Or.inr rfl)) (hd : (x == ("__debug__" : Str)) = false := by decide) (hcd : (x == ("__classdict__" : Str)) = false := by decide) :
  UE X F (.Name x pos) (uVar i) := by
 refine ⟨PE.imp (PE.fz (pe_var hN hv hd hcd)) ?_⟩
 rintro σ H QQ ⟨ρ, Q, fr, h, k⟩
 unfold uVar at h
 split at h
 ·rename_i T e
  obtain ⟨y, e1, v⟩ := fr.at_ i _ e
  exact ⟨y, ixv_some e1, .inl (k y T H ρ (Stp.refl fr) v h)⟩
 ·rename_i Ts e
  obtain ⟨a, xs, e1, e2, e3, z, p⟩ := fr.at_ i _ e
  refine ⟨_, ixv_some e1, .inr ⟨a, _, rfl, e2, rfl, fun ob => ?_⟩⟩
  have v : VA X.K (upd H a (.frz ob (.lst xs))) (.ref a) (.seq false Ts) := VA.seq (t := false) ⟨ob, upd_same⟩ z (p.hs (hs_put e2 rfl))
  exact k _ _ _ _ (fr.fzs e rfl e1 e2 rfl ob v) v h
 ·rename_i kts e
  obtain ⟨a, kvs, e1, e2, e3, n, z, p⟩ := fr.at_ i _ e
  refine ⟨_, ixv_some e1, .inr ⟨a, _, rfl, e2, rfl, fun ob => ?_⟩⟩
  have v : VA X.K (upd H a (.frz ob (.dK kvs))) (.ref a) (.dct kts) := VA.dct ⟨ob, upd_same⟩ n z (p.hs (hs_put e2 rfl))
  exact k _ _ _ _ (fr.fzs e rfl e1 e2 rfl ob v) v h
 ·exact False.elim h
def uC (T : Tv) : UT := fun ρ Q => Q T ρ
theorem ue_c {e : Expr} {v : V} (h : PE X e (tC v)) (f : flatV v = true) : UE X F e (uC (.leaf v)) := ⟨PE.imp h fun σ H QQ ⟨ρ, Q, fr, h, k⟩ => k v (.leaf v) H ρ (Stp.refl fr) (.flat f) h⟩
theorem ue_int {i j pos} : UE X F (.Constant (.int i) j pos) (uC (iT i)) := ue_c pe_int rfl
theorem ue_bl {b j pos} : UE X F (.Constant (.bool b) j pos) (uC (bT b)) := ue_c pe_bl rfl
theorem ue_str {x j pos} : UE X F (.Constant (.str x) j pos) (uC (sT x)) := ue_c pe_str rfl
theorem ue_glob {x : Str} {v : V} {u : Value} {T : Tv} {pos : Pos} (hg : Gl X x) (hm : X.mg x = some u) (r : RelV v u) (hv : ∀ H, VA X.K H v T) (hd : (x == ("__debug__" : Str)) = false := by decide) : UE X F (.Name x pos) (uC T) :=
 ⟨PE.imp (pe_glob hg hm r hd) fun σ H QQ ⟨ρ, Q, fr, h, k⟩ => k v T H ρ (Stp.refl fr) (hv H) h⟩
def PuR2 (K : PySem.W.Frag) (r : P2) (r' : R2) : Prop := ∀ x y T U H Q (QQ : VK), VA K H x T -> VA K H y U -> r T U Q -> (∀ z W H', Raw K H H' z W -> Q W -> QQ z H') -> r' x y H QQ
def PuOp (X : Cx) (f : Value -> Value -> Sem Value) (r : P2) : Prop := ∃ r', OpR X f r' /\ PuR2 X.K r r'
def uOp (r : P2) (ua ub : UT) : UT := fun ρ Q => ua ρ fun a ρ1 => ub ρ1 fun b ρ2 => r a b fun c => Q c ρ2
theorem lift_op {r : P2} {r' : R2} {ua ub : UT} (hr : PuR2 X.K r r') (σ : St) (H : Hp) (QQ : VK) (h : liftE X.K F (uOp r ua ub) σ H QQ) : tFz (tOp r' (liftE X.K F ua) (liftE X.K F ub)) σ H QQ := by
 obtain ⟨ρ, Q, fr, h, k⟩ := h
 refine ⟨ρ, _, fr, h, fun x T H1 ρ1 s1 v1 q1 => ⟨ρ1, _, s1.fr, q1, fun y U H2 ρ2 s2 v2 q2 => ?_⟩⟩
 refine hr x y T U H2 _ _ (v1.hs (s2.hs s1.fr)) v2 q2 fun z W H' rw q => rw.fin s2.fr fun H'' s3 v3 => k _ _ _ _ ((s1.trans s2).trans s3) v3 q
variable {a b c : Expr} {ua ub uc : UT} {pos : Pos}
theorem ue_op {op : Operator} {r : P2} (ho : PuOp X (binaryOp op) r) (ha : UE X F a ua) (hb : UE X F b ub) : UE X F (.BinOp a op b pos) (uOp r ua ub) := by
 obtain ⟨r', o, hr⟩ := ho
 exact ⟨PE.imp (PE.fz (pe_op o ha.pe hb.pe)) (lift_op hr)⟩
theorem ue_cmp {op : CmpOp} {r : P2} (ho : PuOp X (compareOp op) r) (ha : UE X F a ua) (hb : UE X F b ub) (hm : behindInMarks op b = false) : UE X F (.Compare a [op] [b] pos) (uOp r ua ub) := by
 obtain ⟨r', o, hr⟩ := ho
 exact ⟨PE.imp (PE.fz (pe_cmpR o ha.pe hb.pe hm)) (lift_op hr)⟩
def uB (u : UT) : UTt := fun ρ Q => u ρ fun T ρ' => ∃ b, T = bT b /\ Q b ρ'
theorem ub_of {e : Expr} {t : TE} {u : UT} (h : PT X e (tTest t)) (i : ∀ σ H QQ, liftE X.K F u σ H QQ -> t σ H QQ) : UB X F e (uB u) := ⟨PT.imp h fun σ H QQ ⟨ρ, Q, fr, h, k⟩ => by
 refine i σ H _ ⟨ρ, _, fr, h, fun x T H' ρ' s v q => ?_⟩
 obtain ⟨b, rfl, q⟩ := q
 obtain ⟨e, _⟩ := v.leafI
 exact ⟨b, e, k b H' ρ' s q⟩⟩
def PuR2f (K : PySem.W.Frag) (r : P2) (r' : R2) : Prop := ∀ x y T U H Q (QQ : VK), VA K H x T -> VA K H y U -> r T U Q -> (∀ z W H', Same H H' -> VA K H' z W -> Q W -> QQ z H') -> r' x y H QQ
def PuCmp (X : Cx) (f : Value -> Value -> Sem Value) (r : P2) : Prop := ∃ r', OpR X f r' /\ PuR2f X.K r r'
theorem PuR2f.raw {K : PySem.W.Frag} {r : P2} {r' : R2} (h : PuR2f K r r') : PuR2 K r r' := fun x y T U H Q QQ vx vy q k => h x y T U H Q QQ vx vy q fun z W H' s v q' => k z W H' ⟨s, .inl v⟩ q'
theorem PuCmp.op {f : Value -> Value -> Sem Value} {r : P2} (h : PuCmp X f r) : PuOp X f r := by
 obtain ⟨r', o, h⟩ := h
 exact ⟨r', o, h.raw⟩
theorem lift_opf {r : P2} {r' : R2} {ua ub : UT} (hr : PuR2f X.K r r') (σ : St) (H : Hp) (QQ : VK) (h : liftE X.K F (uOp r ua ub) σ H QQ) : tOp r' (liftE X.K F ua) (liftE X.K F ub) σ H QQ := by
 obtain ⟨ρ, Q, fr, h, k⟩ := h
 refine ⟨ρ, _, fr, h, fun x T H1 ρ1 s1 v1 q1 => ⟨ρ1, _, s1.fr, q1, fun y U H2 ρ2 s2 v2 q2 => ?_⟩⟩
 exact hr x y T U H2 _ _ (v1.hs (s2.hs s1.fr)) v2 q2 fun z W H' s v q => k _ _ _ _ ((s1.trans s2).trans (Stp.same s2.fr s)) v q
theorem ub_cmp {op : CmpOp} {r : P2} (ho : PuCmp X (compareOp op) r) (ha : UE X F a ua) (hb : UE X F b ub) (hm : behindInMarks op b = false) : UB X F (.Compare a [op] [b] pos) (uB (uOp r ua ub)) := by
 obtain ⟨r', o, hr⟩ := ho
 exact ub_of (pt_cmpR o ha.pe hb.pe hm) (lift_opf hr)
def PuUn (X : Cx) (f : Value -> Sem Value) (r : P1) : Prop := ∃ r', UnR X f r' /\ ∀ x T H Q (QQ : VK), VA X.K H x T -> r T Q -> (∀ z W, VA X.K H z W -> Q W -> QQ z H) -> r' x H QQ
def uUn (r : P1) (ua : UT) : UT := fun ρ Q => ua ρ fun a ρ1 => r a fun c => Q c ρ1
theorem ue_un {op : UnaryOp} {r : P1} (ho : PuUn X (unaryOp op) r) (ha : UE X F a ua) : UE X F (.UnaryOp op a pos) (uUn r ua) := by
 obtain ⟨r', o, hr⟩ := ho
 refine ⟨PE.imp (pe_un o ha.pe) ?_⟩
 rintro σ H QQ ⟨ρ, Q, fr, h, k⟩
 exact ⟨ρ, _, fr, h, fun x T H1 ρ1 s1 v1 q1 => hr x T H1 _ _ v1 q1 fun z W v q => k _ _ _ _ s1 v q⟩
def pNeg : P1
 | .leaf (.int i), Q => Q (iT (-i))
 | _, _ => False
theorem pu_neg : PuUn X (unaryOp .USub) pNeg := ⟨_, un_neg, fun x T H Q QQ v h k => by
 unfold pNeg at h
 split at h
 ·obtain ⟨rfl, _⟩ := v.leafI
  exact ⟨_, rfl, k _ _ (.flat rfl) h⟩
 ·exact False.elim h⟩
def uAnd (t u : UTt) : UTt := fun ρ Q => t ρ fun c ρ1 => if c = true then u ρ1 Q else Q false ρ1
def uNot (t : UTt) : UTt := fun ρ Q => t ρ fun c ρ1 => Q (!c) ρ1
variable {ta tb : UTt} {rest : List Expr}
theorem uw_and1 (ha : UB X F a ta) : UW X F (.BoolOp .And [a] pos) ta := ⟨pw_and1 ha.pt⟩
theorem uw_and (ha : UB X F a ta) (hb : UW X F (.BoolOp .And (b :: rest) pos) tb) : UW X F (.BoolOp .And (a :: b :: rest) pos) (uAnd ta tb) := ⟨PW.imp (pw_and ha.pt hb.pw) fun σ H QQ ⟨ρ, Q, fr, h, k⟩ => by
 refine ⟨ρ, _, fr, h, fun c H1 ρ1 s1 q1 => ?_⟩
 cases c with
 | false => rw [if_neg Bool.false_ne_true] at q1 ⊢; exact k _ _ _ s1 q1
 | true => rw [if_pos rfl] at q1 ⊢; exact ⟨ρ1, _, s1.fr, q1, fun y H2 ρ2 s2 q2 => k _ _ _ (s1.trans s2) q2⟩⟩
theorem ub_w {e : Expr} {t : UTt} (h : UW X F e t) : UB X F e t := ⟨h.pw.pt⟩
theorem ub_not (ha : UB X F a ta) : UB X F (.UnaryOp .Not a pos) (uNot ta) := ⟨PT.imp (pt_not ha.pt) fun σ H QQ ⟨ρ, Q, fr, h, k⟩ => ⟨ρ, _, fr, h, fun c H1 ρ1 s1 q1 => k _ _ _ s1 q1⟩⟩
theorem ub_val {e : Expr} {u : UT} (h : UE X F e u) (he : ∀ whole, isTrue e X.env whole = (do let v <- whole; standAt e.pos; holding [v] (truthy v)) := by intro _; rfl) : UB X F e (uB u) := ⟨PT.imp (pt_val h.pe he) fun σ H QQ ⟨ρ, Q, fr, h, k⟩ => by
 refine ⟨ρ, _, fr, h, fun x T H' ρ' s v q => ?_⟩
 obtain ⟨b, rfl, q⟩ := q
 obtain ⟨e, _⟩ := v.leafI
 exact ⟨b, e, k b H' ρ' s q⟩⟩
def uIf (t : UTt) (ua ub : UT) : UT := fun ρ Q => t ρ fun c ρ1 => if c = true then ua ρ1 Q else ub ρ1 Q
theorem ue_ifExp (hc : UB X F c ta) (ha : UE X F a ua) (hb : UE X F b ub) : UE X F (.IfExp c a b pos) (uIf ta ua ub) := ⟨PE.imp (pe_ifExp hc.pt ha.pe hb.pe) fun σ H QQ ⟨ρ, Q, fr, h, k⟩ => by
 refine ⟨ρ, _, fr, h, fun c H1 ρ1 s1 q1 => ?_⟩
 cases c with
 | true => rw [if_pos rfl] at q1 ⊢; exact ⟨ρ1, _, s1.fr, q1, fun y U H2 ρ2 s2 v2 q2 => k _ _ _ _ (s1.trans s2) v2 q2⟩
 | false => rw [if_neg Bool.false_ne_true] at q1 ⊢; exact ⟨ρ1, _, s1.fr, q1, fun y U H2 ρ2 s2 v2 q2 => k _ _ _ _ (s1.trans s2) v2 q2⟩⟩
def uNil : UTa := fun ρ Q => Q [] ρ
def uCons (u : UT) (t : UTa) : UTa := fun ρ Q => u ρ fun T ρ1 => t ρ1 fun as ρ2 => Q (.va T :: as) ρ2
def uDk (i : Nat) (t : UTa) : UTa := fun ρ Q => ρ[i]? = some .dk /\ t ρ fun as ρ2 => Q (.dk :: as) ρ2
theorem ua_nil : UA X F [] uNil := ⟨PA.imp pa_nil fun σ H QQ ⟨ρ, Q, fr, h, k⟩ => k [] [] H ρ (Stp.refl fr) .nil h⟩
theorem ua_c {e : Expr} {es : List Expr} {u : UT} {t : UTa} (ha : UE X F e u) (hr : UA X F es t) (h : isStar e = false := by rfl) : UA X F (e :: es) (uCons u t) := ⟨PA.imp (pa_c ha.pe hr.pa h) fun σ H QQ ⟨ρ, Q, fr, h, k⟩ => by
 refine ⟨ρ, _, fr, h, fun x T H1 ρ1 s1 v1 q1 => ⟨ρ1, _, s1.fr, q1, fun xs as H2 ρ2 s2 p2 q2 => ?_⟩⟩
 exact k _ _ _ _ (s1.trans s2) (.cons (b := Ar.va T) (v1.hs (s2.hs s1.fr)) p2) q2⟩
theorem ua_dk (i : Nat) {x : Str} {pos : Pos} {es : List Expr} {t : UTa} (hr : UA X F es t) (hN : X.N[i]? = some x := by rfl) (hv : Vis X.env.scope x := by first | exact Or.inl rfl | exact Or.inr (Or.inl rfl) | exact Or.inr (Or.inr rfl)) (hd : (x == ("__debug__" : Str)) = false := by decide) (hcd : (x == ("__classdict__" : Str)) = false := by decide) :
  UA X F (.Name x pos :: es) (uDk i t) := ⟨PA.imp (pa_c (pe_var hN hv hd hcd) hr.pa rfl) fun σ H QQ ⟨ρ, Q, fr, ⟨e, h⟩, k⟩ => by
 obtain ⟨p, c, ed, ex⟩ := fr.at_ i _ e
 refine ⟨_, ixv_some ex, ρ, _, fr, h, fun xs as H2 ρ2 s2 p2 q2 => ?_⟩
 exact k _ _ _ _ s2 (.cons (b := Ar.dk) ⟨p, c, ed, rfl⟩ p2) q2⟩
def vsK : List Ar -> (List Tv -> Prop) -> Prop
 | [], Q => Q []
 | .va T :: as, Q => vsK as fun Ts => Q (T :: Ts)
 | .dk :: _, _ => False
 | .fn _ :: _, _ => False
theorem vsK_ex : ∀ {as : List Ar} {Q : List Tv -> Prop}, vsK as Q -> ∃ Ts, as = Ts.map Ar.va /\ Q Ts
 | [], _, h => ⟨[], rfl, h⟩
 | .va T :: as, Q, h => by
  obtain ⟨Ts, rfl, q⟩ := vsK_ex (as := as) (Q := fun Ts => Q (T :: Ts)) h
  exact ⟨T :: Ts, rfl, q⟩
 | .dk :: _, _, h => False.elim h
 | .fn _ :: _, _, h => False.elim h
def uVs (ua : UTa) : UTl := fun ρ Q => ua ρ fun as ρ1 => vsK as fun Ts => Q Ts ρ1
theorem vas_of {K : PySem.W.Frag} {dk : Option (Addr × Addr)} {H : Hp} : ∀ {xs : List V} {Ts : List Tv}, Paired (ArAt K dk H) xs (Ts.map Ar.va) -> VAs K H xs Ts
 | [], [], _ => .nil
 | _ :: _, _ :: _, .cons r t => .cons r (vas_of t)
def uTup (ua : UTa) : UT := fun ρ Q => uVs ua ρ fun Ts ρ1 => Ts.length <= 100000 /\ Q (.seq true Ts) ρ1
def uLst (ua : UTa) : UTl := fun ρ Q => uVs ua ρ fun Ts ρ1 => Ts.length <= 100000 /\ Q Ts ρ1
theorem line_of {n : Nat} (h : n <= 100000) : n <= sizeLine := by rw [sizeLine_eq]; omega
theorem line_lt {n : Nat} (h : n < 100000) : n < sizeLine := by rw [sizeLine_eq]; omega
theorem ue_tup {es : List Expr} {t : UTa} {x1} (h : UA X F es t) : UE X F (.Tuple es x1 pos) (uTup t) := ⟨PE.imp (pe_tup h.pa) fun σ H QQ ⟨ρ, Q, fr, h, k⟩ => by
 refine ⟨ρ, _, fr, h, fun xs as H1 ρ1 s1 p1 q1 => ?_⟩
 obtain ⟨Ts, rfl, z, q⟩ := vsK_ex q1
 have p := vas_of p1
 have l : xs.length = Ts.length := Paired.length p
 refine ⟨line_of (by omega), fun a n => ?_⟩
 have r := Raw.tup (K := X.K) n z p
 exact k _ _ _ _ (s1.trans (Stp.same s1.fr r.1)) (VA.seq (t := true) (SqT.of upd_same) z (p.hs (hs_new n))) q⟩
theorem ul_lst {es : List Expr} {t : UTa} (h : UA X F es t) : UL X F (.List es pos) (uLst t) := ⟨PE.imp (pe_lst h.pa) fun σ H QQ ⟨ρ, Q, fr, h, k⟩ => by
 refine ⟨ρ, _, fr, h, fun xs as H1 ρ1 s1 p1 q1 => ?_⟩
 obtain ⟨Ts, rfl, z, q⟩ := vsK_ex q1
 have p := vas_of p1
 have l : xs.length = Ts.length := Paired.length p
 refine ⟨line_of (by omega), fun a n => ?_⟩
 exact k _ _ _ _ _ (s1.trans (Stp.same s1.fr (same_new n))) (s1.non n) upd_same z (p.hs (hs_new n)) q⟩
end
end L2
namespace L2
open PySem PySem.Spec PyProof.Rows WordM
theorem FrOk.fzn {K : PySem.W.Frag} {F : Fm} {ρ : PEnv} {σ : St} {H : Hp} {a : Addr} {o : HO} (fr : FrOk K F ρ σ H) (h : H a = some o) (n : fzb o = true) (h0 : F.H0 a = none) (na : ∀ (i : Nat) (s : Sl), ρ[i]? = some s -> mutb s = true -> ixv σ i ≠ some (.ref a)) (o' : HO) : FrOk K F ρ σ (upd H a o') := by
 have hd := fr.fresh_nodk h0
 have hs : HS H (upd H a o') := hs_put h (by cases o <;> first | rfl | exact absurd n Bool.false_ne_true)
 have st : ∀ b u, b ≠ a -> H b = some u -> upd H a o' b = some u := fun b u z e => by rw [upd_ne z]; exact e
 have hr := fr.fresh_nord h0
 refine ⟨fr.d0, fr.r0, ⟨fun b u e1 n1 n2 => st b u (fun z => by rw [z, h0] at e1; cases e1) (fr.kp.st b u e1 n1 n2), fun p c d => ?_, fun a' C d => ?_⟩, fr.len, fun j s' e' => ?_, fr.ap⟩
 ·obtain ⟨ne, ⟨S, k, e1⟩, ns, e2, l⟩ := fr.kp.dkk p c d
  exact ⟨ne, ⟨S, k, st _ _ (hd p c d).1.symm e1⟩, ns, st _ _ (hd p c d).2.symm e2, l⟩
 ·obtain ⟨t, p, dx, e1⟩ := fr.kp.rdk a' C d
  exact ⟨t, p, dx, st _ _ (hr a' C d).symm e1⟩
 ·have x := fr.at_ j s' e'
  cases s' with
  | no => trivial
  | va T => obtain ⟨y, e1, v⟩ := x; exact ⟨y, e1, v.hs hs⟩
  | own Ts => obtain ⟨b, xs, e1, e2, e3, z', p⟩ := x; exact ⟨b, xs, e1, st _ _ (fun y => na j _ e' rfl (by rw [e1, y])) e2, e3, z', p.hs hs⟩
  | dct kts => obtain ⟨b, kvs, e1, e2, e3, n', z', p⟩ := x; exact ⟨b, kvs, e1, st _ _ (fun y => na j _ e' rfl (by rw [e1, y])) e2, e3, n', z', p.hs hs⟩
  | dk => exact x
  | fn _ => exact x
  | rd t p => obtain ⟨b, C, e1, e2, dx, e3⟩ := x; exact ⟨b, C, e1, e2, dx, st _ _ (hr b C e1).symm e3⟩
theorem Stp.notown {K : PySem.W.Frag} {F : Fm} {ρ ρ1 : PEnv} {σ : St} {H H1 : Hp} {a : Addr} (s : Stp K F σ ρ H ρ1 H1) (fr : FrOk K F ρ σ H) (n : H a = none) : ∀ (i : Nat) (s : Sl), ρ1[i]? = some s -> mutb s = true -> ixv σ i ≠ some (.ref a) := fun i s' e m q => by
 obtain ⟨s0, e0, m0⟩ := s.sub i s' e m
 obtain ⟨o, e1, _⟩ := fr.mut_at e0 m0 q
 rw [n] at e1; cases e1
theorem Stp.put {K : PySem.W.Frag} {F : Fm} {ρ ρ1 : PEnv} {σ : St} {H H1 : Hp} {a : Addr} {o : HO} (s : Stp K F σ ρ H ρ1 H1) (fr : FrOk K F ρ σ H) (n : H a = none) (e : H1 a = some o) (m : fzb o = true) (o' : HO) : Stp K F σ ρ H ρ1 (upd H1 a o') :=
 ⟨s.fr.fzn e m (fr.none0 n) (s.notown fr n) o', fun b u q d n1 => by rw [upd_ne (ne_of_none q n)]; exact s.st b u q d n1, s.sub, fun b u q => by rw [upd_ne (ne_of_none q n)]; exact s.tr b u q⟩
section
variable {X : Cx} {F : Fm} {e : Expr} {pos : Pos}
def uL (u : UTl) : UT := fun ρ Q => u ρ fun Ts ρ1 => Q (.seq false Ts) ρ1
theorem ue_ul {u : UTl} (h : UL X F e u) : UE X F e (uL u) := ⟨PE.imp (PE.fz h.pe) fun σ H QQ ⟨ρ, Q, fr, h, k⟩ => ⟨ρ, _, fr, h, fun a xs Ts H' ρ' s n e z p q =>
 .inr ⟨a, _, rfl, e, rfl, fun ob => k _ _ _ _ (s.put fr n e rfl (.frz ob (.lst xs))) (VA.seq (t := false) ⟨ob, upd_same⟩ z (p.hs (hs_put e rfl))) q⟩⟩⟩
def PuRn (K : PySem.W.Frag) (r : Pn) (r' : List V -> Hp -> VK -> Prop) : Prop := ∀ xs Ts H Q (QQ : VK), VAs K H xs Ts -> r Ts Q -> (∀ z W H', Raw K H H' z W -> Q W -> QQ z H') -> r' xs H QQ
def PuCall (X : Cx) (f : Value) (r : Pn) : Prop := ∃ r', CallR X f r' /\ PuRn X.K r r'
def uCB (r : Pn) (ua : UTa) : UT := fun ρ Q => uVs ua ρ fun Ts ρ1 => r Ts fun W => Q W ρ1
theorem lift_cb {r : Pn} {r' : List V -> Hp -> VK -> Prop} {ua : UTa} (hr : PuRn X.K r r') (σ : St) (H : Hp) (QQ : VK) (h : liftE X.K F (uCB r ua) σ H QQ) : tFz (tCB r' (liftA X.K F ua)) σ H QQ := by
 obtain ⟨ρ, Q, fr, h, k⟩ := h
 refine ⟨ρ, _, fr, h, fun xs as H1 ρ1 s1 p1 q1 => ?_⟩
 obtain ⟨Ts, rfl, q⟩ := vsK_ex q1
 exact hr xs Ts H1 _ _ (vas_of p1) q fun z W H' rw q => rw.fin s1.fr fun H'' s3 v3 => k _ _ _ _ (s1.trans s3) v3 q
variable {es : List Expr} {x : Str} {p : Pos} {ua : UTa}
theorem ue_callB {id : String} {r : Pn} (hc : PuCall X (.builtin id) r) (hg : Gl X x) (hm : X.mg x = none) (hv : bootBuiltins x = some (.builtin id)) (ha : UA X F (e :: es) ua) (hn : x ≠ "__name__" := by decide) (hdb : (x == ("__debug__" : Str)) = false := by decide)
  (he : starEach (e :: es) X.env = (false, eval e X.env) :: starEach es X.env := by rfl) (hpl : (backTo pos (starEach es X.env)).any (·.1) = false := by rfl) : UE X F (.Call (.Name x p) (e :: es) [] pos) (uCB r ua) := by
 obtain ⟨r', o, hr⟩ := hc
 exact ⟨PE.imp (PE.fz (pe_callB o hg hm hv ha.pa hn hdb he hpl)) (lift_cb hr)⟩
theorem ue_callTy {id : String} {r : Pn} (hc : PuCall X (.type id) r) (hg : Gl X x) (hm : X.mg x = none) (hv : bootBuiltins x = some (.type id)) (ha : UA X F (e :: es) ua) (hn : x ≠ "__name__" := by decide) (hdb : (x == ("__debug__" : Str)) = false := by decide)
  (he : starEach (e :: es) X.env = (false, eval e X.env) :: starEach es X.env := by rfl) (hpl : (backTo pos (starEach es X.env)).any (·.1) = false := by rfl) : UE X F (.Call (.Name x p) (e :: es) [] pos) (uCB r ua) := by
 obtain ⟨r', o, hr⟩ := hc
 exact ⟨PE.imp (PE.fz (pe_callTy o hg hm hv ha.pa hn hdb he hpl)) (lift_cb hr)⟩
def PuRl (K : PySem.W.Frag) (r : List Tv -> (List Tv -> Prop) -> Prop) (r' : List V -> Hp -> VK -> Prop) : Prop := ∀ xs Ts H Q (QQ : VK), VAs K H xs Ts -> r Ts Q -> (∀ a ys Us H', Same H H' -> H a = none -> H' a = some (.lst ys) -> Us.length <= 100000 -> VAs K H' ys Us -> Q Us -> QQ (.ref a) H') -> r' xs H QQ
def PuCallL (X : Cx) (f : Value) (r : List Tv -> (List Tv -> Prop) -> Prop) : Prop := ∃ r', CallR X f r' /\ PuRl X.K r r'
def uCL (r : List Tv -> (List Tv -> Prop) -> Prop) (ua : UTa) : UTl := fun ρ Q => uVs ua ρ fun Ts ρ1 => r Ts fun Us => Q Us ρ1
theorem lift_cl {r : List Tv -> (List Tv -> Prop) -> Prop} {r' : List V -> Hp -> VK -> Prop} {ua : UTa} (hr : PuRl X.K r r') (σ : St) (H : Hp) (QQ : VK) (h : liftL X.K F (uCL r ua) σ H QQ) : tCB r' (liftA X.K F ua) σ H QQ := by
 obtain ⟨ρ, Q, fr, h, k⟩ := h
 refine ⟨ρ, _, fr, h, fun xs as H1 ρ1 s1 p1 q1 => ?_⟩
 obtain ⟨Ts, rfl, q⟩ := vsK_ex q1
 exact hr xs Ts H1 _ _ (vas_of p1) q fun a ys Us H' sm n e z p q => k _ _ _ _ _ (s1.trans (Stp.same s1.fr sm)) (s1.non n) e z p q
theorem ul_callB {id : String} {r : List Tv -> (List Tv -> Prop) -> Prop} (hc : PuCallL X (.builtin id) r) (hg : Gl X x) (hm : X.mg x = none) (hv : bootBuiltins x = some (.builtin id)) (ha : UA X F (e :: es) ua) (hn : x ≠ "__name__" := by decide) (hdb : (x == ("__debug__" : Str)) = false := by decide)
  (he : starEach (e :: es) X.env = (false, eval e X.env) :: starEach es X.env := by rfl) (hpl : (backTo pos (starEach es X.env)).any (·.1) = false := by rfl) : UL X F (.Call (.Name x p) (e :: es) [] pos) (uCL r ua) := by
 obtain ⟨r', o, hr⟩ := hc
 exact ⟨PE.imp (pe_callB o hg hm hv ha.pa hn hdb he hpl) (lift_cl hr)⟩
theorem ul_callTy {id : String} {r : List Tv -> (List Tv -> Prop) -> Prop} (hc : PuCallL X (.type id) r) (hg : Gl X x) (hm : X.mg x = none) (hv : bootBuiltins x = some (.type id)) (ha : UA X F (e :: es) ua) (hn : x ≠ "__name__" := by decide) (hdb : (x == ("__debug__" : Str)) = false := by decide)
  (he : starEach (e :: es) X.env = (false, eval e X.env) :: starEach es X.env := by rfl) (hpl : (backTo pos (starEach es X.env)).any (·.1) = false := by rfl) : UL X F (.Call (.Name x p) (e :: es) [] pos) (uCL r ua) := by
 obtain ⟨r', o, hr⟩ := hc
 exact ⟨PE.imp (pe_callTy o hg hm hv ha.pa hn hdb he hpl) (lift_cl hr)⟩
abbrev PSp := List Ar -> (Tv -> Prop) -> Prop
def liftP (K : PySem.W.Frag) (psp : PSp) : Sp := fun vs H Q _ => ∃ dk as R, (∀ p c, dk = some (p, c) -> DeckAt H p c) /\ Paired (ArAt K dk H) vs as /\ psp as R /\ ∀ x T H', Kp dk none H H' -> VA K H' x T -> R T -> Q x H'
def PGood (P : Program) (w : World) (K : PySem.W.Frag) (mg : Str -> Option Value) (base : Heap) (k : Nat) (x : Str) (ps : List Str) (psp : PSp) : Prop := Good P w K mg base k x ps (liftP K psp)
def uCall (psp : PSp) (ua : UTa) : UT := fun ρ Q => ua ρ fun as ρ1 => psp as fun W => Q W ρ1
theorem lift_call {psp : PSp} {ua : UTa} (σ : St) (H : Hp) (QQ : VK) (h : liftE X.K F (uCall psp ua) σ H QQ) : tCall (liftP X.K psp) [] E0 (liftA X.K F ua) σ H QQ := by
 obtain ⟨ρ, Q, fr, h, k⟩ := h
 refine ⟨ρ, _, fr, h, fun xs as H1 ρ1 s1 p1 q1 => ?_⟩
 show liftP X.K psp (xs ++ []) H1 QQ E0
 rw [List.append_nil]
 exact ⟨F.dk, as, _, s1.fr.kp.dkk, p1, q1, fun z W H' kp v q => k _ _ _ _ (s1.trans (Stp.call s1.fr kp)) v q⟩
theorem ue_fn {k : Nat} {ps : List Str} {psp : PSp} (G : PGood X.prog X.w X.K X.mg X.base k x ps psp) (hr : Room k X.A) (hg : Gl X x) (ha : UA X F (e :: es) ua) (hdb : (x == ("__debug__" : Str)) = false := by decide)
  (hst : isStar e = false := by rfl) (hpl : (backTo pos (starEach es X.env)).any (·.1) = false := by rfl) : UE X F (.Call (.Name x p) (e :: es) [] pos) (uCall psp ua) :=
 ⟨PE.imp (pe_fn G hr hg ha.pa hdb hst hpl) lift_call⟩
theorem ue_fn0 {k : Nat} {ps : List Str} {psp : PSp} (G : PGood X.prog X.w X.K X.mg X.base k x ps psp) (hr : Room k X.A) (hg : Gl X x) (hdb : (x == ("__debug__" : Str)) = false := by decide) : UE X F (.Call (.Name x p) [] [] pos) (uCall psp uNil) :=
 ⟨PE.imp (pe_fn0 G hr hg hdb) fun σ H QQ ⟨ρ, Q, fr, h, k⟩ => ⟨F.dk, [], _, fr.kp.dkk, .nil, h, fun z W H' kp v q => k _ _ _ _ (Stp.call fr kp) v q⟩⟩
def PuIx (X : Cx) (r : P2) : Prop := ∃ r', IxR X r' /\ PuR2 X.K r r'
variable {a b : Expr} {va vb : UT}
theorem ue_ix {r : P2} (ho : PuIx X r) (ha : UE X F a va) (hb : UE X F b vb) (hs : PlainIx b := by intro _ _; rfl) : UE X F (.Subscript a b pos) (uOp r va vb) := by
 obtain ⟨r', o, hr⟩ := ho
 exact ⟨PE.imp (PE.fz (pe_ix o ha.pe hb.pe hs)) (lift_op hr)⟩
abbrev UTo := PEnv -> (Option Int -> PEnv -> Prop) -> Prop
def liftO (K : PySem.W.Frag) (F : Fm) (u : UTo) : TO := fun σ H QQ => ∃ ρ Q, FrOk K F ρ σ H /\ u ρ Q /\ ∀ o H' ρ', Stp K F σ ρ H ρ' H' -> Q o ρ' -> QQ o H'
structure UO (X : Cx) (F : Fm) (e : Option Expr) (u : UTo) : Prop where
 po : PO X e (liftO X.K F u)
theorem PO.imp {e : Option Expr} {t t' : TO} (h : PO X e t) (i : ∀ σ H Q, t' σ H Q -> t σ H Q) : PO X e t' := fun pins s σ H Q I q => h pins s σ H Q I (i σ H Q q)
def uoN : UTo := fun ρ Q => Q none ρ
def uoS (u : UT) : UTo := fun ρ Q => u ρ fun T ρ1 => ∃ i, T = iT i /\ Q (some i) ρ1
theorem uo_none : UO X F none uoN := ⟨PO.imp po_none fun σ H QQ ⟨ρ, Q, fr, h, k⟩ => k _ _ _ (Stp.refl fr) h⟩
theorem uo_some {u : UT} (h : UE X F e u) : UO X F (some e) (uoS u) := ⟨PO.imp (po_some h.pe) fun σ H QQ ⟨ρ, Q, fr, h, k⟩ => ⟨ρ, _, fr, h, fun x T H1 ρ1 s1 v1 q1 => by
 obtain ⟨i, rfl, q⟩ := q1
 exact ⟨i, v1.leafI.1, k _ _ _ s1 q⟩⟩⟩
abbrev PSl := Tv -> Option Int -> Option Int -> (Tv -> Prop) -> Prop
def PuSl (X : Cx) (r : PSl) : Prop := ∃ r', SlR X r' /\ ∀ x T lo hi H Q (QQ : VK), VA X.K H x T -> r T lo hi Q -> (∀ z W H', Raw X.K H H' z W -> Q W -> QQ z H') -> r' x lo hi H QQ
def uSl (r : PSl) (u : UT) (lo hi : UTo) : UT := fun ρ Q => u ρ fun T ρ1 => lo ρ1 fun l ρ2 => hi ρ2 fun h ρ3 => r T l h fun W => Q W ρ3
theorem ue_slice {r : PSl} {lo hi : Option Expr} {ul uh : UTo} {p2 : Pos} (ho : PuSl X r) (ha : UE X F a va) (hl : UO X F lo ul) (hh : UO X F hi uh) : UE X F (.Subscript a (.Slice lo hi none p2) pos) (uSl r va ul uh) := by
 obtain ⟨r', o, hr⟩ := ho
 refine ⟨PE.imp (PE.fz (pe_slice o ha.pe hl.po hh.po)) ?_⟩
 rintro σ H QQ ⟨ρ, Q, fr, h, k⟩
 refine ⟨ρ, _, fr, h, fun x T H1 ρ1 s1 v1 q1 => ⟨ρ1, _, s1.fr, q1, fun l H2 ρ2 s2 q2 => ⟨ρ2, _, s2.fr, q2, fun u H3 ρ3 s3 q3 => ?_⟩⟩⟩
 exact hr x T l u H3 _ _ ((v1.hs (s2.hs s1.fr)).hs (s3.hs s2.fr)) q3 fun z W H' rw q => rw.fin s3.fr fun H'' s4 v4 => k _ _ _ _ ((s1.trans s2).trans (s3.trans s4)) v4 q
end
structure PEnds where
 nx : PEnv -> Prop
 rt : Tv -> Prop
 bk : PEnv -> Prop := fun _ => False
 ct : PEnv -> Prop := fun _ => False
 rr : Tv -> PEnv -> Prop := fun _ _ => False
def RdS (F : Fm) (ρ : PEnv) (H : Hp) : Prop := ∀ (i : Nat) (t : Str) (p : Int), ρ[i]? = some (.rd t p) -> ∃ a C, F.rd = some (a, C) /\ RdAt H a C t p
theorem FrOk.rds {K : PySem.W.Frag} {F : Fm} {ρ : PEnv} {σ : St} {H : Hp} (fr : FrOk K F ρ σ H) : RdS F ρ H := fun i t p e => by
 obtain ⟨a, C, e1, _, e2⟩ := fr.at_ i _ e
 exact ⟨a, C, e1, e2⟩
abbrev UTs := PEnds -> PEnv -> Prop
def liftS (K : PySem.W.Frag) (F : Fm) (u : UTs) : TS := fun D σ H => ∃ ρ P, FrOk K F ρ σ H /\ u P ρ /\ (∀ σ' H' ρ', FrOk K F ρ' σ' H' -> HS H H' -> P.nx ρ' -> D.nx σ' H') /\ (∀ x T H' ρ', Kp F.dk F.rd F.H0 H' -> RdS F ρ' H' -> VA K H' x T -> (P.rt T \/ P.rr T ρ') -> D.rt x H') /\
 (∀ σ' H' ρ', FrOk K F ρ' σ' H' -> HS H H' -> P.bk ρ' -> D.bk σ' H') /\ ∀ σ' H' ρ', FrOk K F ρ' σ' H' -> HS H H' -> P.ct ρ' -> D.ct σ' H'
structure US (X : Cx) (F : Fm) (st : Stmt) (u : UTs) : Prop where
 ps : PS X st (liftS X.K F u)
structure USs (X : Cx) (F : Fm) (st : List Stmt) (u : UTs) : Prop where
 ps : PSs X st (liftS X.K F u)
theorem PS.imp {X : Cx} {st : Stmt} {t t' : TS} (h : PS X st t) (i : ∀ D σ H, t' D σ H -> t D σ H) : PS X st t' := fun pins s σ H D I q => h pins s σ H D I (i D σ H q)
theorem PSs.imp {X : Cx} {st : List Stmt} {t t' : TS} (h : PSs X st t) (i : ∀ D σ H, t' D σ H -> t D σ H) : PSs X st t' := fun pins s σ H D I q => h pins s σ H D I (i D σ H q)
section
variable {X : Cx} {F : Fm} {e : Expr} {pos : Pos} {st : Stmt} {rest : List Stmt} {u : UT}
def sNil : UTs := fun P ρ => P.nx ρ
def sSeq (s t : UTs) : UTs := fun P ρ => s { P with nx := fun ρ' => t P ρ' } ρ
theorem us_nil : USs X F [] sNil := ⟨PSs.imp pss_nil fun D σ H ⟨ρ, P, fr, h, k1, _⟩ => k1 σ H ρ fr (HS.refl _) h⟩
theorem us_one {s : UTs} (h : US X F st s) : USs X F [st] s := ⟨pss_one h.ps⟩
theorem us_cons {s t : UTs} (h : US X F st s) (hr : USs X F rest t) : USs X F (st :: rest) (sSeq s t) := ⟨PSs.imp (pss_cons h.ps hr.ps) fun D σ H ⟨ρ, P, fr, h, k1, k2, k3, k4⟩ => by
 refine ⟨ρ, _, fr, h, fun σ' H' ρ' fr' hs q => ?_, k2, k3, k4⟩
 exact ⟨ρ', P, fr', q, fun σ2 H2 ρ2 f2 h2 q2 => k1 _ _ _ f2 (hs.trans h2) q2, k2, fun σ2 H2 ρ2 f2 h2 q2 => k3 _ _ _ f2 (hs.trans h2) q2, fun σ2 H2 ρ2 f2 h2 q2 => k4 _ _ _ f2 (hs.trans h2) q2⟩⟩
def sRet (u : UT) : UTs := fun P ρ => u ρ fun T _ => P.rt T
theorem us_ret (h : UE X F e u) : US X F (.Return (some e) pos) (sRet u) := ⟨PS.imp (ps_ret h.pe) fun D σ H ⟨ρ, P, fr, h, _, k2, _⟩ => ⟨ρ, _, fr, h, fun x T H' ρ' s v q => k2 x T H' ρ' s.fr.kp s.fr.rds v (.inl q)⟩⟩
def sIf (t : UTt) (s r : UTs) : UTs := fun P ρ => t ρ fun b ρ1 => if b = true then s P ρ1 else r P ρ1
theorem us_if {c : Expr} {a b : List Stmt} {t : UTt} {s r : UTs} (hc : UB X F c t) (ha : USs X F a s) (hb : USs X F b r) : US X F (.If c a b pos) (sIf t s r) := ⟨PS.imp (ps_if hc.pt ha.ps hb.ps) fun D σ H ⟨ρ, P, fr, h, k1, k2, k3, k4⟩ => by
 refine ⟨ρ, _, fr, h, fun b H1 ρ1 s1 q1 => ?_⟩
 have hs := s1.hs fr
 have fin : ∀ {v : UTs}, v P ρ1 -> liftS X.K F v D σ H1 := fun q => ⟨ρ1, P, s1.fr, q, fun σ2 H2 ρ2 f2 h2 q2 => k1 _ _ _ f2 (hs.trans h2) q2, k2, fun σ2 H2 ρ2 f2 h2 q2 => k3 _ _ _ f2 (hs.trans h2) q2, fun σ2 H2 ρ2 f2 h2 q2 => k4 _ _ _ f2 (hs.trans h2) q2⟩
 cases b with
 | true => exact iteT (fin (by rw [if_pos rfl] at q1; exact q1))
 | false => exact iteF (fin (by rw [if_neg Bool.false_ne_true] at q1; exact q1))⟩
def sExpr (u : UT) : UTs := fun P ρ => u ρ fun _ ρ1 => P.nx ρ1
theorem us_expr (h : UE X F e u) (hs : swapsWith e none pos.line X.env = pure false := by rfl) : US X F (.Expr e pos) (sExpr u) := ⟨PS.imp (ps_expr h.pe hs) fun D σ H ⟨ρ, P, fr, h, k1, _⟩ => ⟨ρ, _, fr, h, fun x T H' ρ' s v q => k1 _ _ _ s.fr (s.hs fr) q⟩⟩
theorem FrOk.set {K : PySem.W.Frag} {ρ : PEnv} {σ : St} {H : Hp} {i : Nat} {s : Sl} {x : V} (fr : FrOk K F ρ σ H) (v : i < ρ.length -> SlAt K F H (some x) s) (na : mutb s = true -> ∀ a, x = .ref a -> ∀ (j : Nat) (t : Sl), ρ[j]? = some t -> mutb t = true -> ixv σ j ≠ some (.ref a)) : FrOk K F (ρ.set i s) (σ.set i (some x)) H := by
 have ne : ∀ j, i ≠ j -> ixv (σ.set i (some x)) j = ixv σ j := fun j z => by unfold ixv; rw [List.getElem?_set_ne z]
 have self : ∀ (h : i < ρ.length), ixv (σ.set i (some x)) i = some x := fun h => by unfold ixv; rw [List.getElem?_set_self (by rw [<- fr.len]; exact h)]; rfl
 have get : ∀ (j : Nat) (t : Sl), (ρ.set i s)[j]? = some t -> (i = j /\ i < ρ.length /\ t = s) \/ (i ≠ j /\ ρ[j]? = some t) := fun j t e => by
  by_cases z : i = j
  ·subst z
   have hi : i < ρ.length := by
    have := (List.getElem?_eq_some_iff.mp e).1
    rwa [List.length_set] at this
   rw [List.getElem?_set_self hi] at e
   exact .inl ⟨rfl, hi, (Option.some.inj e).symm⟩
  ·rw [List.getElem?_set_ne z] at e; exact .inr ⟨z, e⟩
 refine ⟨fr.d0, fr.r0, fr.kp, by rw [List.length_set, List.length_set]; exact fr.len, fun j t e => ?_, fun j k a t t' e1 e2 m1 m2 q1 q2 => ?_⟩
 ·rcases get j t e with ⟨rfl, hi, rfl⟩ | ⟨z, e⟩
  ·rw [self hi]; exact v hi
  ·rw [ne j z]; exact fr.at_ j t e
 ·rcases get j t e1 with ⟨rfl, hi, rfl⟩ | ⟨z1, e1⟩
  ·rcases get k t' e2 with ⟨rfl, _, rfl⟩ | ⟨z2, e2⟩
   ·rfl
   ·rw [self hi] at q1
    rw [ne k z2] at q2
    exact absurd q2 (na m1 a (Option.some.inj q1) k t' e2 m2)
  ·rcases get k t' e2 with ⟨rfl, hi, rfl⟩ | ⟨z2, e2⟩
   ·rw [self hi] at q2
    rw [ne j z1] at q1
    exact absurd q1 (na m2 a (Option.some.inj q2) j t (by first | exact e1 | assumption) m1)
   ·rw [ne j z1] at q1
    rw [ne k z2] at q2
    exact fr.ap j k a t t' e1 e2 m1 m2 q1 q2
def sSet (i : Nat) (u : UT) : UTs := fun P ρ => u ρ fun T ρ1 => P.nx (ρ1.set i (.va T))
theorem us_set {i : Nat} {x : Str} {pos' : Pos} (hN : X.N.Nodup) (hi : X.N[i]? = some x) (hx : Loc X.env.scope x) (he : UE X F e u) (hs : swapsWith e (some (.Name x pos')) pos.line X.env = pure false := by rfl) (hf : X.fn x = true \/ X.env.scope.names.lookup x = some .local := by first | exact .inl rfl | exact .inr rfl | assumption) :
  US X F (.Assign [.Name x pos'] e pos) (sSet i u) := ⟨PS.imp (ps_set hN hi hx he.pe hs hf) fun D σ H ⟨ρ, P, fr, h, k1, _⟩ => by
 refine ⟨ρ, _, fr, h, fun x T H' ρ' s v q => ?_⟩
 exact k1 _ _ _ (s.fr.set (s := .va T) (fun _ => ⟨x, rfl, v⟩) (fun z => absurd z Bool.false_ne_true)) (s.hs fr) q⟩
def sOwn (i : Nat) (u : UTl) : UTs := fun P ρ => u ρ fun Ts ρ1 => P.nx (ρ1.set i (.own Ts))
theorem lift_own {i : Nat} {u : UTl} {t : TE} (ht : ∀ σ H QQ, liftL X.K F u σ H QQ -> t σ H QQ) (D : Ends) (σ : St) (H : Hp) (h : liftS X.K F (sOwn i u) D σ H) : tAsg t (gName i) D σ H := by
 obtain ⟨ρ, P, fr, h, k1, _⟩ := h
 refine ht σ H _ ⟨ρ, _, fr, h, fun a xs Ts H' ρ' s n e z p q => ?_⟩
 exact k1 _ _ _ (s.fr.set (s := .own Ts) (fun _ => ⟨a, xs, rfl, e, fr.none0 n, z, p⟩) (fun _ b eb j t ej mj qj => by cases eb; exact s.notown fr n j t ej mj qj)) (s.hs fr) q
theorem us_own {i : Nat} {x : Str} {u : UTl} {pos' : Pos} (hN : X.N.Nodup) (hi : X.N[i]? = some x) (hx : Loc X.env.scope x) (he : UL X F e u) (hs : swapsWith e (some (.Name x pos')) pos.line X.env = pure false := by rfl) (hf : X.fn x = true \/ X.env.scope.names.lookup x = some .local := by first | exact .inl rfl | exact .inr rfl | assumption) :
  US X F (.Assign [.Name x pos'] e pos) (sOwn i u) := ⟨PS.imp (ps_set hN hi hx he.pe hs hf) (lift_own fun _ _ _ h => h)⟩
end
def arSl : Ar -> Sl
 | .va T => .va T
 | .dk => .dk
 | .fn a => .fn a
def startP (n : Nat) (as : List Ar) : PEnv := as.map arSl ++ List.replicate (n - as.length) .no
theorem fr_start {K : PySem.W.Frag} {H : Hp} {dk : Option (Addr × Addr)} {N : List Str} {vs : List V} {as : List Ar} (hd : ∀ p c, dk = some (p, c) -> DeckAt H p c) (p : Paired (ArAt K dk H) vs as) : FrOk K ⟨H, dk, none⟩ (startP N.length as) (start N vs) H := by
 have l : vs.length = as.length := Paired.length p
 refine ⟨hd, (fun _ _ z => nomatch z), ⟨fun _ _ e _ _ => e, hd, (fun _ _ z => nomatch z)⟩, ?_, fun i s e => ?_, fun i j a s t e _ m _ _ _ => ?_⟩
 ·unfold startP start
  rw [List.length_append, List.length_append, List.length_map, List.length_map, List.length_replicate, List.length_replicate, l]
 ·unfold startP at e
  by_cases hi : i < as.length
  ·rw [List.getElem?_append_left (by simpa using hi), List.getElem?_map] at e
   obtain ⟨r, er, rfl⟩ := Option.map_eq_some_iff.mp e
   have hv : i < vs.length := by omega
   obtain ⟨r', er', h⟩ := paired_get p (List.getElem?_eq_getElem hv)
   rw [er] at er'; cases er'
   have ex : ixv (start N vs) i = some vs[i] := by
    refine ixv_of ?_
    unfold start
    rw [List.getElem?_append_left (by simpa using hv), List.getElem?_map, List.getElem?_eq_getElem hv]
    rfl
   rw [ex]
   cases r with
   | va T => exact ⟨_, rfl, h⟩
   | dk => obtain ⟨p, c, e1, e2⟩ := h; exact ⟨p, c, e1, by rw [e2]⟩
   | fn a => exact congrArg some h
  ·rw [List.getElem?_append_right (by simpa using hi), List.getElem?_replicate] at e
   split at e
   ·cases e; trivial
   ·cases e
 ·unfold startP at e
  by_cases hi : i < as.length
  ·rw [List.getElem?_append_left (by simpa using hi), List.getElem?_map] at e
   obtain ⟨r, er, rfl⟩ := Option.map_eq_some_iff.mp e
   cases r <;> cases m
  ·rw [List.getElem?_append_right (by simpa using hi), List.getElem?_replicate] at e
   split at e
   ·cases e; cases m
   ·cases e
theorem Has.pgood {P : Program} {w : World} {K : PySem.W.Frag} {mg : Str -> Option Value} {base : Heap} {x : Str} {st : Stmt} {N ps : List Str} {k : Nat} {psp : PSp} {us : UTs} (h : Has K mg x st) (S : FnScope N ps (defScope st))
  (hb : ∀ (kV doc pm : Value) (an : Option Addr) (cdv ct : Value) (us : List Value), us.length = ps.length -> bindArgs (PySem.W.fnOf x x (defArgs st) (defBody st) (defScope st) .none kV doc pm an cdv ct) ⟨us, []⟩ = pure (ps.zip us))
  (hbody : ∀ (f : Addr) (cdv : Value) (A : Around) (outer : List Env) (s : Shared) (H : Hp) (E : XK) (F : Fm), Room k (A.deeper (envOfC x (defScope st) s.heap.objs.size f cdv)) -> USs (cxOf CX0 P w K mg base N x (defScope st) f cdv A outer s H E).nox F (defBody st) us)
  (hp : ∀ as R, psp as R -> as.length = ps.length /\ us { nx := fun _ => R nT, rt := R } (startP N.length as)) : PGood P w K mg base (k + 1) x ps psp := by
 refine h.good S hb (fun vs H Q E q => ?_) (fun f cdv A outer s H vs Q E hr q => ?_)
 ·obtain ⟨dk, as, R, d, p, q, _⟩ := q
  rw [Paired.length p]
  exact (hp as R q).1
 ·obtain ⟨dk, as, R, d, p, q, k⟩ := q
  refine ⟨_, (hbody f cdv A outer s H E ⟨H, dk, none⟩ hr).ps, startP N.length as, _, fr_start d p, (hp as R q).2, fun σ' H' ρ' fr _ q => k _ _ _ fr.kp (.flat rfl) q, fun x T H' _ kp _ v q => k x T H' kp v (q.elim id False.elim), fun _ _ _ _ _ z => z, fun _ _ _ _ _ z => z⟩
end L2
namespace L2
open PySem PySem.Spec PyProof.Rows WordM
def ItIs (K : PySem.W.Frag) (J : It) (H : Hp) (Ts : List Tv) : Prop := ∀ H1, HS H H1 -> (∀ i, i < Ts.length -> J.go i H1) /\ (∀ i x H2, i < Ts.length -> J.yld i H1 x H2 -> Same H1 H2 /\ ∃ T, Ts[i]? = some T /\ VA K H2 x T) /\ J.stop Ts.length H1
def liftI (K : PySem.W.Frag) (F : Fm) (u : UTl) : TI := fun σ H R => ∃ ρ Q, FrOk K F ρ σ H /\ u ρ Q /\ ∀ J Ts H' ρ', Stp K F σ ρ H ρ' H' -> ItIs K J H' Ts -> Q Ts ρ' -> R J H'
structure UI (X : Cx) (F : Fm) (tg e : Expr) (u : UTl) : Prop where
 pi : PI X tg e (liftI X.K F u)
theorem PI.imp {X : Cx} {tg e : Expr} {t t' : TI} (h : PI X tg e t) (i : ∀ σ H Q, t' σ H Q -> t σ H Q) : PI X tg e t' := fun pins s σ H Q I q => h pins s σ H Q I (i σ H Q q)
def ItR (X : Cx) (tg : Expr) (r : V -> Hp -> (It -> Hp -> Prop) -> Prop) : Prop := ∀ (pins : List (Addr × Obj)) (s : Shared) (σ : St) (H : Hp) (x : V) (v : Value) (R : It -> Hp -> Prop), Inv X pins σ H s -> RelV x v -> r x H R -> wpAny (model X.prog X.w) X.A (pyIter v) (PIE X pins σ tg R) X.xe s
section
variable {X : Cx} {F : Fm} {tg e : Expr}
theorem ItR.or {r r' : V -> Hp -> (It -> Hp -> Prop) -> Prop} (h : ItR X tg r) (h' : ItR X tg r') : ItR X tg (fun x H R => r x H R \/ r' x H R) := fun pins s σ H x v R I rx q => by
 rcases q with q | q
 ·exact h pins s σ H x v R I rx q
 ·exact h' pins s σ H x v R I rx q
theorem fp_one {pins : List (Addr × Obj)} {σ : St} {H : Hp} {s : Shared} (I : Inv X pins σ H s) : ∀ b ∈ [s.heap.objs.size], FpOk X pins H b := fun b hb => by
 rw [List.mem_singleton.mp hb]
 exact I.fpOk (Nat.le_refl _) (I.hok.fresh (Nat.le_refl _))
theorem it_list : ItR X tg (fun x H R => ∃ a xs, x = .ref a /\ SqL X.K H a xs /\ R (Itl X.K a) H) := by
 rintro pins s σ H _ v R I r ⟨a, xs, rfl, hq, q⟩
 cases r
 obtain ⟨its, rv, p, hz⟩ := I.list hq
 exact wpAny_pyIter_list p.isList ⟨_, [s.heap.objs.size], _, _, H, rfl, I.kept (t' := s.toks) fun b o => Heap.get?_push_of_some _, turn_list a _, ⟨_, Heap.get?_push_size _ rfl, rfl, rfl⟩, fp_one I, q⟩
theorem it_tup : ItR X tg (fun x H R => ∃ a xs, x = .ref a /\ SqT X.K H a xs /\ R (Itt X.K a) H) := by
 rintro pins s σ H _ v R I r ⟨a, xs, rfl, hq, q⟩
 cases r
 obtain ⟨its, rv, p, hz⟩ := I.tuple hq
 exact wpAny_pyIter_tuple (show s.heap.IsTuple a its.toArray from p) ⟨_, [s.heap.objs.size], _, _, H, rfl, I.kept (t' := s.toks) fun b o => Heap.get?_push_of_some _, turn_tuple a _, ⟨_, Heap.get?_push_size _ rfl, rfl, rfl⟩, fp_one I, q⟩
theorem it_str : ItR X tg (fun x H R => ∃ z, x = .str z /\ R (Its z) H) := by
 rintro pins s σ H _ v R I r ⟨z, rfl, q⟩
 obtain ⟨t, rfl⟩ := r
 cases ha : z.cps.all (· < 128) with
 | true => exact wpAny_pyIter_ascii ha ⟨_, [s.heap.objs.size], _, _, H, rfl, I.kept (t' := s.toks) fun b o => Heap.get?_push_of_some _, turn_strA _ z t, ⟨_, Heap.get?_push_size _ rfl, rfl, rfl⟩, fp_one I, q⟩
 | false => exact wpAny_pyIter_wide ha ⟨_, [s.heap.objs.size], _, _, H, rfl, I.kept (t' := s.toks) fun b o => Heap.get?_push_of_some _, turn_strW _ z t, ⟨_, Heap.get?_push_size _ rfl, rfl, rfl⟩, fp_one I, q⟩
theorem it_dict : ItR X tg (fun x H R => ∃ a ob kvs, x = .ref a /\ FzD H a ob kvs /\ R (ItD a ob kvs) H) := by
 rintro pins s σ H _ v R I r ⟨a, ob, kvs, rfl, hz, q⟩
 cases r
 obtain ⟨e, hs, hl, vs, es, ep, r, dd, hd⟩ := fz_dict I hz
 exact wpAny_pyIter_dict hs dd ⟨_, [s.heap.objs.size], _, _, H, rfl, I.kept (t' := s.toks) fun b o => Heap.get?_push_of_some _, turn_dict (a := a) (ob := ob) (kvs := kvs) hd, ⟨_, Heap.get?_push_size _ rfl, rfl, by rw [<- kv_len r]; rfl⟩, fp_one I, q⟩
def pIt : Tv -> (List Tv -> Prop) -> Prop
 | .seq _ Ts, Q => Q Ts
 | .leaf (.str z), Q => Q (z.cps.toList.map fun c => sT ⟨#[c]⟩)
 | .dct kts, Q => Q (kts.map fun kt => sT kt.1)
 | _, _ => False
theorem seq_of {K : PySem.W.Frag} {H : Hp} {a : Addr} {xs : List V} (h : PSeq K H false a xs) : SqL K H a xs := by
 obtain ⟨ob, h⟩ := h
 exact .inl (.inr ⟨ob, h⟩)
theorem is_list {K : PySem.W.Frag} {H : Hp} {a : Addr} {xs : List V} {Ts : List Tv} (h : PSeq K H false a xs) (p : VAs K H xs Ts) : ItIs K (Itl K a) H Ts := fun H1 hs => by
 have l : xs.length = Ts.length := Paired.length p
 have q := seq_of (h.hs hs)
 refine ⟨fun i hi => ⟨xs, xs[i]'(by omega), q, List.getElem?_eq_getElem _⟩, fun i x H2 hi ⟨e, y⟩ => ?_, ⟨xs, q, by omega⟩⟩
 subst e
 obtain ⟨T, eT, v⟩ := paired_get (p.hs hs) (y xs q)
 exact ⟨Same.refl _, T, eT, v⟩
theorem is_tup {K : PySem.W.Frag} {H : Hp} {a : Addr} {xs : List V} {Ts : List Tv} (h : PSeq K H true a xs) (p : VAs K H xs Ts) : ItIs K (Itt K a) H Ts := fun H1 hs => by
 have l : xs.length = Ts.length := Paired.length p
 have q : SqT K H1 a xs := h.hs hs
 refine ⟨fun i hi => ⟨xs, xs[i]'(by omega), q, List.getElem?_eq_getElem _⟩, fun i x H2 hi ⟨e, y⟩ => ?_, ⟨xs, q, by omega⟩⟩
 subst e
 obtain ⟨T, eT, v⟩ := paired_get (p.hs hs) (y xs q)
 exact ⟨Same.refl _, T, eT, v⟩
theorem is_str {K : PySem.W.Frag} {H : Hp} {z : Str} : ItIs K (Its z) H (z.cps.toList.map fun c => sT ⟨#[c]⟩) := fun H1 hs => by
 refine ⟨fun i hi => (show i < z.cps.size by simpa using hi), fun i x H2 hi ⟨e, c, ec, ex⟩ => ?_, by simp [Its]⟩
 subst e ex
 refine ⟨Same.refl _, sT ⟨#[c]⟩, ?_, .flat rfl⟩
 rw [List.getElem?_map, Array.getElem?_toList, ec]
 rfl
theorem is_dict {K : PySem.W.Frag} {H : Hp} {a : Addr} {ob : Obj} {kvs : List (Key × V)} {kts : List (Str × Tv)} (h : FzD H a ob kvs) (p : VAk K H kvs kts) : ItIs K (ItD a ob kvs) H (kts.map fun kt => sT kt.1) := fun H1 hs => by
 have l : kvs.length = kts.length := Paired.length p
 have q : FzD H1 a ob kvs := hs _ _ rfl h
 refine ⟨fun i hi => ⟨q, by rw [List.length_map] at hi; omega⟩, fun i x H2 hi ⟨e, k, v, ek, ex⟩ => ?_, ⟨q, by rw [List.length_map]; omega⟩⟩
 subst e ex
 obtain ⟨kt, ekt, e1, _⟩ := paired_get p ek
 refine ⟨Same.refl _, sT kt.1, by rw [List.getElem?_map, ekt]; rfl, ?_⟩
 have e1 : k = .inr kt.1 := e1
 rw [e1]
 exact .flat rfl
def uIt (u : UT) : UTl := fun ρ Q => u ρ fun T ρ1 => pIt T fun Ts => Q Ts ρ1
theorem ui_val {u : UT} (h : UE X F e u) : UI X F tg e (uIt u) := ⟨fun pins s σ H R I ⟨ρ, Q, fr, hu, k⟩ => by
 have IT : ItR X tg _ := it_list.or (it_tup.or (it_str.or it_dict))
 refine thn (h.pe pins s σ H (fun x H1 => _) I ⟨ρ, _, fr, hu, fun x T H' ρ' s v q => ?_⟩) fun v s1 ⟨x, H1, I1, r1, q1⟩ => IT pins s1 σ H1 x v R I1 r1 q1
 unfold pIt at q
 split at q
 ·rename_i t Ts
  obtain ⟨a, xs, rfl, hs, z, p⟩ := v.seqI
  cases t with
  | false => exact .inl ⟨a, xs, rfl, seq_of hs, k _ _ _ _ s (is_list hs p) q⟩
  | true => exact .inr (.inl ⟨a, xs, rfl, hs, k _ _ _ _ s (is_tup hs p) q⟩)
 ·obtain ⟨rfl, _⟩ := v.leafI
  exact .inr (.inr (.inl ⟨_, rfl, k _ _ _ _ s is_str q⟩))
 ·obtain ⟨a, kvs, rfl, ⟨ob, hd⟩, n, z, p⟩ := v.dctI
  exact .inr (.inr (.inr ⟨a, ob, kvs, rfl, hd, k _ _ _ _ s (is_dict hd p) q⟩))
 ·exact False.elim q⟩
def rngT (lo : Int) (n : Nat) : List Tv := (List.range n).map fun (i : Nat) => iT (lo + i)
theorem rngT_len (lo : Int) (n : Nat) : (rngT lo n).length = n := by simp [rngT]
theorem rngT_get {lo : Int} {n i : Nat} {T : Tv} (h : (rngT lo n)[i]? = some T) : i < n /\ T = iT (lo + i) := by
 have l := (List.getElem?_eq_some_iff.mp h).1
 rw [rngT_len] at l
 refine ⟨l, ?_⟩
 simp only [rngT, List.getElem?_map, List.getElem?_range l] at h
 exact (Option.some.inj h).symm
theorem is_range {K : PySem.W.Frag} {H : Hp} {lo : Int} {n : Nat} : ItIs K (Itr lo n) H (rngT lo n) := fun H1 hs => by
 have l : (rngT lo n).length = n := by simp [rngT]
 refine ⟨fun i hi => by rw [l] at hi; exact hi, fun i x H2 hi ⟨e, ex⟩ => ?_, by rw [l]; exact Nat.le_refl _⟩
 subst e ex
 rw [l] at hi
 exact ⟨Same.refl _, iT (lo + i), by simp [rngT, hi], .flat rfl⟩
def uRng1 (ua : UTa) : UTl := fun ρ Q => uVs ua ρ fun Ts ρ1 => ∃ j : Int, Ts = [iT j] /\ -(2 ^ 62) <= j /\ j < 2 ^ 62 /\ Q (rngT 0 j.toNat) ρ1
theorem ui_range1 {a : Expr} {ua : UTa} {p pos : Pos} (hg : Gl X "range") (hm : X.mg "range" = none) (ha : UA X F [a] ua) (hs : starEach [a] X.env = [(false, eval a X.env)] := by rfl) : UI X F tg (.Call (.Name "range" p) [a] [] pos) (uRng1 ua) := ⟨PI.imp (pi_range1 hg hm ha.pa hs) fun σ H R ⟨ρ, Q, fr, hu, k⟩ => by
 refine ⟨ρ, _, fr, hu, fun xs as H1 ρ1 s1 p1 q1 => ?_⟩
 obtain ⟨Ts, rfl, j, rfl, h1, h2, q⟩ := vsK_ex q1
 cases vas_of p1 with
 | cons v t =>
  cases t
  obtain ⟨rfl, _⟩ := v.leafI
  exact ⟨j, rfl, h1, h2, k _ _ _ _ s1 is_range q⟩⟩
end
abbrev UG := Tv -> PEnv -> (PEnv -> Prop) -> Prop
def liftG (K : PySem.W.Frag) (F : Fm) (m : Nat) (g : UG) : TG := fun v σ H QQ => ∃ T ρ Q, VA K H v T /\ FrOk K F ρ σ H /\ g T ρ Q /\ ∀ σ' ρ', FrOk K F ρ' σ' H -> σ'.length = σ.length -> σ'.drop m = σ.drop m -> ρ'.drop m = ρ.drop m -> Sbv ρ' ρ -> Q ρ' -> QQ σ' H
structure UGt (X : Cx) (F : Fm) (m : Nat) (tg : Expr) (g : UG) : Prop where
 pg : PG X tg (liftG X.K F m g)
theorem PG.imp {X : Cx} {tg : Expr} {t t' : TG} (h : PG X tg t) (i : ∀ v σ H Q, t' v σ H Q -> t v σ H Q) : PG X tg t' := fun pins s σ H v u Q I r q => h pins s σ H v u Q I r (i v σ H Q q)
section
variable {X : Cx} {F : Fm} {pos : Pos} {m : Nat}
def gN (i : Nat) : UG := fun T ρ Q => Q (ρ.set i (.va T))
theorem drop_set {α : Type} {l : List α} {i m : Nat} {x : α} (h : i < m) : (l.set i x).drop m = l.drop m := by
 rw [List.drop_set, if_pos h]
theorem sbv_set {ρ : PEnv} {i : Nat} {T : Tv} : Sbv (ρ.set i (.va T)) ρ := fun j s e mm => by
 by_cases z : i = j
 ·subst z
  have hi : i < ρ.length := by
   have := (List.getElem?_eq_some_iff.mp e).1
   rwa [List.length_set] at this
  rw [List.getElem?_set_self hi] at e
  cases e; cases mm
 ·rw [List.getElem?_set_ne z] at e; exact ⟨s, e, mm⟩
theorem ug_name (i : Nat) {x : Str} (hm : i < m) (hN : X.N.Nodup) (hi : X.N[i]? = some x) (hx : Loc X.env.scope x) (hf : X.fn x = true \/ X.env.scope.names.lookup x = some .local := by first | exact .inl rfl | exact .inr rfl | assumption) : UGt X F m (.Name x pos) (gN i) := ⟨PG.imp (pg_name hN hi hx hf) fun v σ H QQ ⟨T, ρ, Q, vv, fr, h, k⟩ =>
 k _ _ (fr.set (s := .va T) (fun _ => ⟨v, rfl, vv⟩) (fun z => absurd z Bool.false_ne_true)) List.length_set (drop_set hm) (drop_set hm) sbv_set h⟩
end
def blk (own : Nat) (fr : List Nat) (ρ : PEnv) : PEnv := List.replicate own .no ++ fr.map fun i => ρ.getD i .no
def putBack : List Nat -> List Sl -> PEnv -> PEnv
 | i :: fr, s :: ss, ρ => putBack fr ss (ρ.set i s)
 | _, _, ρ => ρ
def bck (own : Nat) (fr : List Nat) (ρ ρ' : PEnv) : PEnv := putBack fr (ρ'.drop own) ρ
def compT (own : Nat) (fr : List Nat) (g : UG) (tf : UTt) (ue : UT) : List Tv -> PEnv -> (List Tv -> PEnv -> Prop) -> Prop
 | [], ρ, Q => Q [] ρ
 | T :: Ts, ρ, Q => g T (blk own fr ρ) fun ρ1 => tf ρ1 fun b ρ2 => if b = true then ue ρ2 fun U ρ3 => compT own fr g tf ue Ts (bck own fr ρ ρ3) fun Us ρ4 => Q (U :: Us) ρ4 else compT own fr g tf ue Ts (bck own fr ρ ρ2) Q
def uComp (own : Nat) (fr : List Nat) (ui : UTl) (g : UG) (tf : UTt) (ue : UT) : UTl := fun ρ Q => ui ρ fun Ts ρ1 => Ts.length <= 100000 /\ compT own fr g tf ue Ts ρ1 Q
theorem putBack_len : ∀ (fr : List Nat) (ss : List Sl) (ρ : PEnv), (putBack fr ss ρ).length = ρ.length
 | [], _, _ => rfl
 | _ :: _, [], _ => rfl
 | i :: fr, s :: ss, ρ => by show (putBack fr ss _).length = _; rw [putBack_len fr ss, List.length_set]
theorem putBack_get : ∀ (fr : List Nat) (ss : List Sl) (ρ : PEnv) (i : Nat) (s : Sl), fr.length <= ss.length -> (putBack fr ss ρ)[i]? = some s -> (∃ j : Nat, fr[j]? = some i /\ ss[j]? = some s) \/ (i ∉ fr /\ ρ[i]? = some s)
 | [], _, _, i, s, _, h => .inr ⟨by simp, h⟩
 | _ :: _, [], _, _, _, l, _ => by simp at l
 | i0 :: fr, s0 :: ss, ρ, i, s, l, h => by
  rcases putBack_get fr ss (ρ.set i0 s0) i s (by simpa using l) h with ⟨j, e1, e2⟩ | ⟨n, e⟩
  ·exact .inl ⟨j + 1, by simpa using e1, by simpa using e2⟩
  ·by_cases z : i0 = i
   ·subst z
    have hi : i0 < ρ.length := by
     have := (List.getElem?_eq_some_iff.mp e).1
     rwa [List.length_set] at this
    rw [List.getElem?_set_self hi] at e
    exact .inl ⟨0, rfl, by simpa using e⟩
   ·rw [List.getElem?_set_ne z] at e
    exact .inr ⟨by simp [n, Ne.symm z], e⟩
theorem ixv_block {own : Nat} {fr : List Nat} {σ ow : St} (ho : ow.length = own) {j i : Nat} (h : fr[j]? = some i) : ixv (ow ++ σf fr σ) (own + j) = ixv σ i := by
 unfold ixv σf
 rw [List.getElem?_append_right (by omega), show own + j - ow.length = j by omega, List.getElem?_map, h]
 show (some (σ.getD i none)).join = _
 rw [List.getD_eq_getElem?_getD]
 cases σ[i]? with
 | none => rfl
 | some o => rfl
section
variable {K : PySem.W.Frag} {F : Fm} {ρ ρ4 ρ6 : PEnv} {σ ow : St} {H H6 : Hp} {own : Nat} {fr : List Nat}
theorem blk_get {i : Nat} {s : Sl} (h : (blk own fr ρ)[i]? = some s) : (i < own /\ s = .no) \/ ∃ j k, i = own + j /\ fr[j]? = some k /\ s = ρ.getD k .no := by
 unfold blk at h
 by_cases hi : i < own
 ·rw [List.getElem?_append_left (by simpa using hi), List.getElem?_replicate, if_pos hi] at h
  exact .inl ⟨hi, (Option.some.inj h).symm⟩
 ·rw [List.getElem?_append_right (by simpa using hi), List.length_replicate, List.getElem?_map] at h
  obtain ⟨k, e, rfl⟩ := Option.map_eq_some_iff.mp h
  exact .inr ⟨i - own, k, by omega, e, rfl⟩
theorem getD_mut {k : Nat} {s : Sl} (e : s = ρ.getD k .no) (m : s ≠ .no) : ρ[k]? = some s := by
 rw [List.getD_eq_getElem?_getD] at e
 cases q : ρ[k]? with
 | none => rw [q] at e; exact absurd e m
 | some t => rw [q] at e; rw [e]; rfl
theorem FrOk.pick (f : FrOk K F ρ σ H) (nd : fr.Nodup) : FrOk K F (blk own fr ρ) (σc own fr σ) H := by
 have val : ∀ {j k : Nat}, fr[j]? = some k -> ixv (σc own fr σ) (own + j) = ixv σ k := fun h => ixv_block (List.length_replicate) h
 refine ⟨f.d0, f.r0, f.kp, ?_, fun i s e => ?_, fun i i' a s t e e' m m' q q' => ?_⟩
 ·unfold blk σc σf
  simp
 ·rcases blk_get e with ⟨_, rfl⟩ | ⟨j, k, rfl, ek, es⟩
  ·trivial
  ·rw [val ek]
   cases s with
   | no => trivial
   | _ => exact f.at_ k _ (getD_mut es (fun z => by cases z))
 ·rcases blk_get e with ⟨_, rfl⟩ | ⟨j, k, rfl, ek, es⟩
  ·cases m
  ·rcases blk_get e' with ⟨_, rfl⟩ | ⟨j', k', rfl, ek', es'⟩
   ·cases m'
   ·rw [val ek] at q
    rw [val ek'] at q'
    have := f.ap k k' a s t (getD_mut es (fun z => by rw [z] at m; cases m)) (getD_mut es' (fun z => by rw [z] at m'; cases m')) m m' q q'
    subst this
    have h1 := (List.getElem?_eq_some_iff.mp ek).1
    rw [(List.getElem?_inj h1 nd).mp (ek.trans ek'.symm)]
theorem Stp.back (f : FrOk K F ρ σ H) (nd : fr.Nodup) (s : Stp K F (ow ++ σf fr σ) ρ4 H ρ6 H6) (f4 : FrOk K F ρ4 (ow ++ σf fr σ) H) (ho : ow.length = own) (hd : ρ4.drop own = (blk own fr ρ).drop own) (sb : Sbv ρ4 (blk own fr ρ)) : Stp K F σ ρ H (bck own fr ρ ρ6) H6 := by
 -- a slot of the block that is one's own is the def's own
 have dm : ∀ (i : Nat) (t : Sl) (a : Addr), ρ4[i]? = some t -> mutb t = true -> ixv (ow ++ σf fr σ) i = some (.ref a) -> ∃ k u, k ∈ fr /\ ρ[k]? = some u /\ mutb u = true /\ ixv σ k = some (.ref a) := fun i t a e m q => by
  obtain ⟨u, eu, mu⟩ := sb i t e m
  rcases blk_get eu with ⟨_, rfl⟩ | ⟨j, k, rfl, ek, es⟩
  ·cases mu
  ·exact ⟨k, u, List.mem_of_getElem? ek, getD_mut es (fun z => by rw [z] at mu; cases mu), mu, by rw [<- ixv_block ho ek]; exact q⟩
 have st : Stay F ρ σ H H6 := fun b o e d n => s.st b o e d fun i t e1 m q => by
  obtain ⟨k, u, _, eu, mu, qu⟩ := dm i t b e1 m q
  exact n k u eu mu qu
 have l6 : fr.length <= (ρ6.drop own).length := by
  have := s.fr.len
  rw [List.length_append] at this
  rw [List.length_drop, this, ho]
  unfold σf
  rw [List.length_map]
  omega
 have sub : Sbv (bck own fr ρ ρ6) ρ := fun i t e m => by
  rcases putBack_get fr _ ρ i t l6 e with ⟨j, ej, et⟩ | ⟨_, e⟩
  ·rw [List.getElem?_drop] at et
   obtain ⟨u, eu, mu⟩ := s.sub _ t et m
   have : (ρ4.drop own)[j]? = some u := by rw [List.getElem?_drop]; exact eu
   rw [hd, List.getElem?_drop] at this
   rcases blk_get this with ⟨z, _⟩ | ⟨j', k, ejj, ek, es⟩
   ·omega
   ·have : j' = j := by omega
    subst this
    rw [ej] at ek; cases ek
    exact ⟨u, getD_mut es (fun z => by rw [z] at mu; cases mu), mu⟩
  ·exact ⟨t, e, m⟩
 have hs : HS H H6 := s.hs f4
 refine ⟨⟨f.d0, f.r0, s.fr.kp, by unfold bck; rw [putBack_len]; exact f.len, fun i t e => ?_, fun i i' a t t' e e' m m' q q' => ?_⟩, st, sub, s.tr⟩
 ·rcases putBack_get fr _ ρ i t l6 e with ⟨j, ej, et⟩ | ⟨ni, e⟩
  ·rw [List.getElem?_drop] at et
   have := s.fr.at_ _ t et
   rwa [ixv_block ho ej] at this
  ·have h := f.at_ i t e
   have keep : ∀ a o, mutb t = true -> ixv σ i = some (.ref a) -> H a = some o -> H6 a = some o := fun a o m q e1 => s.st a o e1 (f.mut_nodk e m q) fun i' t' e2 m2 q2 => by
    obtain ⟨k, u, hk, eu, mu, qu⟩ := dm i' t' a e2 m2 q2
    have := f.ap k i a u t eu e mu m qu q
    subst this
    exact ni hk
   cases t with
   | no => trivial
   | va T => obtain ⟨y, e1, v⟩ := h; exact ⟨y, e1, v.hs hs⟩
   | own Ts => obtain ⟨a, xs, e1, e2, e3, z, p⟩ := h; exact ⟨a, xs, e1, keep a _ rfl e1 e2, e3, z, p.hs hs⟩
   | dct kts => obtain ⟨a, kvs, e1, e2, e3, n, z, p⟩ := h; exact ⟨a, kvs, e1, keep a _ rfl e1 e2, e3, n, z, p.hs hs⟩
   | dk => exact h
   | fn _ => exact h
   | rd t' p => obtain ⟨a, C, e1, e2, dx, e3⟩ := h; exact ⟨a, C, e1, e2, dx, keep a _ rfl e2 e3⟩
 ·obtain ⟨u, eu, mu⟩ := sub i t e m
  obtain ⟨u', eu', mu'⟩ := sub i' t' e' m'
  exact f.ap i i' a u u' eu eu' mu mu' q q'
end
theorem lift_comp {K : PySem.W.Frag} {F : Fm} {own : Nat} {fr : List Nat} {ui : UTl} {g : UG} {tf : UTt} {ue : UT} (nd : fr.Nodup) (σ : St) (H : Hp) (QQ : VK) (h : liftL K F (uComp own fr ui g tf ue) σ H QQ) : tComp own fr (liftI K F ui) (liftG K F own g) (liftT K F tf) (liftE K F ue) σ H QQ := by
 obtain ⟨ρ, Q, f, h, k⟩ := h
 refine ⟨ρ, _, f, h, fun J Ts H1 ρ1 s1 it q1 a na => ?_⟩
 obtain ⟨len, q1⟩ := q1
 refine ⟨Ts.length, fun i ys H2 => ∃ Us ρi, Stp K F σ ρ1 H1 ρi H2 /\ VAs K H2 ys Us /\ Us.length <= i /\ compT own fr g tf ue (Ts.drop i) ρi (fun Vs ρ' => Q (Us ++ Vs) ρ'), ⟨[], ρ1, Stp.same s1.fr (same_new na), .nil, Nat.le_refl _, q1⟩, ?_⟩
 rintro i ys H2 hi ha ⟨Us, ρi, si, p, hl, q⟩
 have hs1 := si.hs s1.fr
 obtain ⟨go, yld, stop⟩ := it H2 hs1
 by_cases hlt : i < Ts.length
 ·refine .inr ⟨hlt, go i hlt, fun x H3 hy => ?_⟩
  obtain ⟨sm, T, eT, vx⟩ := yld i x H3 hlt hy
  have s3 := si.trans (Stp.same si.fr sm)
  have ha3 := sm _ _ ha
  have ed : Ts.drop i = T :: Ts.drop (i + 1) := by
   rw [List.drop_eq_getElem_cons hlt]
   congr 1
   rw [List.getElem?_eq_getElem hlt] at eT
   exact Option.some.inj eT
  rw [ed] at q
  have nodk := s1.fr.none_nodk na
  have nown := s3.notown s1.fr na
  refine ⟨T, blk own fr ρi, _, vx, s3.fr.pick nd, q, fun σ4 ρ4 f4 l4 d4 dr4 sb4 q4 => ?_⟩
  have e4 : σ4 = σ4.take own ++ σf fr σ := by
   have : σ4.drop own = σf fr σ := by
    rw [d4]
    unfold σc
    rw [List.drop_append_of_le_length (by simp), List.drop_of_length_le (by simp), List.nil_append]
   rw [<- this, List.take_append_drop]
  have lo : (σ4.take own).length = own := by
   rw [List.length_take, l4]
   unfold σc
   simp
  have notin : ∀ (j : Nat) (t : Sl), ρ4[j]? = some t -> mutb t = true -> ixv σ4 j ≠ some (.ref a) := fun j t e m z => by
   obtain ⟨u, eu, mu⟩ := sb4 j t e m
   rcases blk_get eu with ⟨_, rfl⟩ | ⟨j', k, rfl, ek, es⟩
   ·cases mu
   ·rw [e4, ixv_block lo ek] at z
    exact nown k u (getD_mut es (fun z => by rw [z] at mu; cases mu)) mu z
  refine ⟨⟨σ4.take own, lo, e4⟩, ρ4, _, f4, q4, fun b H5 ρ5 s5 q5 => ?_⟩
  have a5 : H5 a = some (.lst ys) := s5.st a _ ha3 nodk notin
  cases b with
  | true =>
   refine iteT ?_
   rw [if_pos rfl] at q5
   refine ⟨ρ5, _, s5.fr, q5, fun y U H6 ρ6 s6 v6 q6 => ?_⟩
   have s46 := s5.trans s6
   have a6 : H6 a = some (.lst ys) := s46.st a _ ha3 nodk notin
   have lys : ys.length = Us.length := Paired.length p
   refine ⟨a6, line_lt (by omega), Us ++ [U], bck own fr ρi ρ6, ?_, ?_, by rw [List.length_append, List.length_singleton]; omega, ?_⟩
   ·rw [e4] at s46 f4
    exact (s3.trans (Stp.back s3.fr nd s46 f4 lo dr4 sb4)).put s1.fr na a6 rfl _
   ·have h36 := s46.hs f4
    exact VAs.hs (hs_put a6 rfl) (Paired.snoc ((p.hs sm.hs).hs h36) v6)
   ·simpa using q6
  | false =>
   refine iteF ?_
   rw [if_neg Bool.false_ne_true] at q5
   refine ⟨a5, Us, bck own fr ρi ρ5, ?_, ?_, by omega, q5⟩
   ·rw [e4] at s5 f4
    exact s3.trans (Stp.back s3.fr nd s5 f4 lo dr4 sb4)
   ·exact (p.hs sm.hs).hs (s5.hs f4)
 ·have e : i = Ts.length := by omega
  subst e
  rw [List.drop_length] at q
  have q : Q (Us ++ []) ρi := q
  rw [List.append_nil] at q
  exact .inl ⟨stop, k a ys Us H2 ρi (s1.trans si) (s1.non na) ha (by omega) p q⟩
section
variable {X : Cx} {F : Fm} {sc : Scope} {XN N : List Str} {own : Nat} {fr : List Nat} {scope : Scope} {elt tg iter : Expr} {ifs : List Expr} {pos : Pos} {ui : UTl} {g : UG} {tf : UTt} {ue : UT}
structure UF (X : Cx) (F : Fm) (ifs : List Expr) (u : UTt) : Prop where
 pf : PFs X ifs (liftT X.K F u)
def tYes : UTt := fun ρ Q => Q true ρ
theorem uf_nil : UF X F [] tYes := ⟨fun pins s σ H Q I ⟨ρ, Q', f, h, k⟩ => pf_nil pins s σ H Q I (k _ _ _ (Stp.refl f) h)⟩
theorem uf_one {c : Expr} {t : UTt} (h : UB X F c t) : UF X F [c] t := ⟨pf_one h.pt⟩
theorem ul_comp (hc : X.calm = true) (S : CompScope sc XN N own fr scope) (nd : fr.Nodup) (hi : UI X F tg iter ui)
  (hg : ∀ cl C fp s H, UGt (cxComp X N scope cl C fp s H) F own tg g) (hf : ∀ cl C fp s H, UF (cxComp X N scope cl C fp s H) F ifs tf) (he : ∀ cl C fp s H, UE (cxComp X N scope cl C fp s H) F elt ue)
  (hs : ∀ x, foldedSetIterable iter X.env x = pure x := by intro _; rfl) (hsc : X.env.scope = sc := by rfl) (hxn : X.N = XN := by rfl) : UL X F (.ListComp elt [⟨tg, iter, ifs, 0⟩] scope pos) (uComp own fr ui g tf ue) :=
 ⟨PE.imp (pe_comp hc S hi.pi (fun cl C fp s H => (hg cl C fp s H).pg) (fun cl C fp s H => (hf cl C fp s H).pf) (fun cl C fp s H => (he cl C fp s H).pe) hs hsc hxn) (lift_comp nd)⟩
theorem us_ownc {i : Nat} {x : Str} {pos' spos : Pos} (hc : X.calm = true) (hN : X.N.Nodup) (hx : X.N[i]? = some x) (hl : Loc X.env.scope x) (S : CompScope sc XN N own fr scope) (nd : fr.Nodup) (hi : UI X F tg iter ui)
  (hg : ∀ cl C fp s H, UGt (cxComp X N scope cl C fp s H) F own tg g) (hf : ∀ cl C fp s H, UF (cxComp X N scope cl C fp s H) F ifs tf) (he : ∀ cl C fp s H, UE (cxComp X N scope cl C fp s H) F elt ue)
  (hsw : swapsWith (.ListComp elt [⟨tg, iter, ifs, 0⟩] scope pos) (some (.Name x pos')) spos.line X.env = pure true := by rfl)
  (hf' : X.fn x = true \/ X.env.scope.names.lookup x = some .local := by first | exact .inl rfl | exact .inr rfl | assumption)
  (hs : ∀ x, foldedSetIterable iter X.env x = pure x := by intro _; rfl) (hsc : X.env.scope = sc := by rfl) (hxn : X.N = XN := by rfl) : US X F (.Assign [.Name x pos'] (.ListComp elt [⟨tg, iter, ifs, 0⟩] scope pos) spos) (sOwn i (uComp own fr ui g tf ue)) :=
 ⟨PS.imp (ps_setc hc hN hx hl S hi.pi (fun cl C fp s H => (hg cl C fp s H).pg) (fun cl C fp s H => (hf cl C fp s H).pf) (fun cl C fp s H => (he cl C fp s H).pe) hsw hf' hs hsc hxn) (lift_own (lift_comp nd))⟩
theorem PS.fz {st : Stmt} {t : TS} (h : PS X st t) : PS X st (fun D σ H => t { D with nx := fun σ' H' => D.nx σ' H' \/ ∃ a o, H' a = some o /\ fzb o = true /\ ∀ ob, D.nx σ' (upd H' a (.frz ob o)) } σ H) := fun pins s σ H D I q => thn (h pins s σ H _ I q) fun fl s' z => by
 cases fl with
 | next =>
  obtain ⟨σ', H', I', q⟩ := z
  rcases q with q | ⟨a, o, e, n, q⟩
  ·exact ⟨σ', H', I', q⟩
  ·obtain ⟨ob, I2⟩ := I'.fz e n
   exact ⟨σ', _, I2, q ob⟩
 | brk => exact z
 | cont => exact z
 | ret u => exact z
theorem us_setc {i : Nat} {x : Str} {pos' spos : Pos} (hc : X.calm = true) (hN : X.N.Nodup) (hx : X.N[i]? = some x) (hl : Loc X.env.scope x) (S : CompScope sc XN N own fr scope) (nd : fr.Nodup) (hi : UI X F tg iter ui)
  (hg : ∀ cl C fp s H, UGt (cxComp X N scope cl C fp s H) F own tg g) (hf : ∀ cl C fp s H, UF (cxComp X N scope cl C fp s H) F ifs tf) (he : ∀ cl C fp s H, UE (cxComp X N scope cl C fp s H) F elt ue)
  (hsw : swapsWith (.ListComp elt [⟨tg, iter, ifs, 0⟩] scope pos) (some (.Name x pos')) spos.line X.env = pure true := by rfl)
  (hf' : X.fn x = true \/ X.env.scope.names.lookup x = some .local := by first | exact .inl rfl | exact .inr rfl | assumption)
  (hs : ∀ x, foldedSetIterable iter X.env x = pure x := by intro _; rfl) (hsc : X.env.scope = sc := by rfl) (hxn : X.N = XN := by rfl) : US X F (.Assign [.Name x pos'] (.ListComp elt [⟨tg, iter, ifs, 0⟩] scope pos) spos) (sSet i (uL (uComp own fr ui g tf ue))) :=
 ⟨PS.imp (PS.fz (ps_setc hc hN hx hl S hi.pi (fun cl C fp s H => (hg cl C fp s H).pg) (fun cl C fp s H => (hf cl C fp s H).pf) (fun cl C fp s H => (he cl C fp s H).pe) hsw hf' hs hsc hxn)) fun D σ H ⟨ρ, P, f, h, k1, _⟩ => by
  refine lift_comp nd σ H _ ⟨ρ, _, f, h, fun a xs Ts H' ρ' s n e z p q => ?_⟩
  refine .inr ⟨a, _, e, rfl, fun ob => ?_⟩
  have s2 := s.put f n e rfl (.frz ob (.lst xs))
  exact k1 _ _ _ (s2.fr.set (s := .va (.seq false Ts)) (fun _ => ⟨_, rfl, VA.seq (t := false) ⟨ob, upd_same⟩ z (p.hs (hs_put e rfl))⟩) (fun z => absurd z Bool.false_ne_true)) (s2.hs f) q⟩
def forT (g : UG) (ub : UTs) : List Tv -> PEnds -> PEnv -> Prop
 | [], P, ρ => P.nx ρ
 | T :: Ts, P, ρ => g T ρ fun ρ1 => ub { P with nx := fun ρ' => forT g ub Ts P ρ', ct := fun ρ' => forT g ub Ts P ρ', bk := P.nx } ρ1
def sFor (ui : UTl) (g : UG) (ub : UTs) : UTs := fun P ρ => ui ρ fun Ts ρ1 => forT g ub Ts P ρ1
theorem us_for {body : List Stmt} {ub : UTs} {m : Nat} (hp : PassesOwn (model X.prog X.w) X.A X.env X.xe) (hc : X.calm = true) (hi : UI X F tg iter ui) (hg : UGt X F m tg g) (hb : USs X F body ub)
  (hs : ∀ x, foldedSetIterable iter X.env x = pure x := by intro _; rfl) : US X F (.For tg iter body [] pos) (sFor ui g ub) := ⟨PS.imp (ps_for hp hc hi.pi hg.pg hb.ps hs) fun D σ H ⟨ρ, P, f, h, k1, k2, k3, k4⟩ => by
 refine ⟨ρ, _, f, h, fun J Ts H1 ρ1 s1 it q1 => ?_⟩
 have h01 := s1.hs f
 refine ⟨fun i m σ' H' => m = Ts.length - i /\ i <= Ts.length /\ HS H1 H' /\ ∃ ρi, FrOk X.K F ρi σ' H' /\ forT g ub (Ts.drop i) P ρi, ⟨_, rfl, Nat.zero_le _, HS.refl _, ρ1, s1.fr, q1⟩, ?_⟩
 rintro i m σ' H' ⟨rfl, hi, hs, ρi, fi, q⟩
 obtain ⟨go, yld, stop⟩ := it H' hs
 by_cases hlt : i < Ts.length
 ·refine .inr ⟨go i hlt, fun σ2 H2 => HS H1 H2 /\ ∃ ρ2, FrOk X.K F ρ2 σ2 H2 /\ forT g ub (Ts.drop (i + 1)) P ρ2, fun σ2 H2 ⟨hs2, ρ2, f2, q2⟩ => ⟨_, by omega, rfl, hlt, hs2, ρ2, f2, q2⟩, fun x H3 hy => ?_⟩
  obtain ⟨sm, T, eT, vx⟩ := yld i x H3 hlt hy
  have ed : Ts.drop i = T :: Ts.drop (i + 1) := by
   rw [List.drop_eq_getElem_cons hlt]
   congr 1
   rw [List.getElem?_eq_getElem hlt] at eT
   exact Option.some.inj eT
  rw [ed] at q
  have f3 := (Stp.same fi sm).fr
  refine ⟨T, ρi, _, vx, f3, q, fun σ4 ρ4 f4 _ _ _ _ q4 => ?_⟩
  have h13 := hs.trans sm.hs
  exact ⟨ρ4, _, f4, q4, fun σ5 H5 ρ5 f5 hs5 q5 => ⟨h13.trans hs5, ρ5, f5, q5⟩, k2, fun σ5 H5 ρ5 f5 hs5 q5 => k1 _ _ _ f5 (h01.trans (h13.trans hs5)) q5, fun σ5 H5 ρ5 f5 hs5 q5 => ⟨h13.trans hs5, ρ5, f5, q5⟩⟩
 ·have e : i = Ts.length := by omega
  subst e
  rw [List.drop_length] at q
  exact .inl ⟨stop, k1 _ _ _ fi (h01.trans hs) q⟩⟩
def sWhile (t : UTt) (ub : UTs) : UTs := fun P ρ => ∃ W : Nat -> PEnv -> Prop, (∃ m, W m ρ) /\ ∀ m ρ, W m ρ -> t ρ fun b ρ1 => if b = true then ub { P with nx := fun ρ' => ∃ m', m' < m /\ W m' ρ', ct := fun ρ' => ∃ m', m' < m /\ W m' ρ', bk := P.nx } ρ1 else P.nx ρ1
theorem us_while {c : Expr} {body : List Stmt} {t : UTt} {ub : UTs} (hp : PassesOwn (model X.prog X.w) X.A X.env X.xe) (hc : UB X F c t) (hb : USs X F body ub) : US X F (.While c body [] pos) (sWhile t ub) := ⟨PS.imp (ps_while hp hc.pt hb.ps) fun D σ H ⟨ρ, P, f, ⟨W, ⟨m0, w0⟩, h⟩, k1, k2, k3, k4⟩ => by
 refine ⟨fun m σ' H' => HS H H' /\ ∃ ρ', FrOk X.K F ρ' σ' H' /\ W m ρ', ⟨m0, HS.refl _, ρ, f, w0⟩, ?_⟩
 rintro m σ' H' ⟨hs, ρ', f', w⟩
 refine ⟨ρ', _, f', h m ρ' w, fun b H1 ρ1 s1 q1 => ?_⟩
 have h1 := hs.trans (s1.hs f')
 cases b with
 | true =>
  rw [if_pos rfl] at q1
  refine iteT ⟨fun σ2 H2 => HS H H2 /\ ∃ m', m' < m /\ ∃ ρ2, FrOk X.K F ρ2 σ2 H2 /\ W m' ρ2, fun σ2 H2 ⟨hs2, m', lt, ρ2, f2, w2⟩ => ⟨m', lt, hs2, ρ2, f2, w2⟩, ?_⟩
  exact ⟨ρ1, _, s1.fr, q1, fun σ5 H5 ρ5 f5 hs5 ⟨m', lt, w5⟩ => ⟨h1.trans hs5, m', lt, ρ5, f5, w5⟩, k2, fun σ5 H5 ρ5 f5 hs5 q5 => k1 _ _ _ f5 (h1.trans hs5) q5, fun σ5 H5 ρ5 f5 hs5 ⟨m', lt, w5⟩ => ⟨h1.trans hs5, m', lt, ρ5, f5, w5⟩⟩
 | false =>
  rw [if_neg Bool.false_ne_true] at q1
  exact iteF (k1 _ _ _ s1.fr h1 q1)⟩
end
end L2
namespace L2
open PySem PySem.Spec PyProof.Rows WordM
section
variable {K : PySem.W.Frag} {F : Fm} {ρ : PEnv} {σ : St} {H : Hp} {i : Nat} {s s' : Sl} {a : Addr} {o o' : HO}
theorem FrOk.put (fr : FrOk K F ρ σ H) (e : ρ[i]? = some s) (m : mutb s = true) (q : ixv σ i = some (.ref a)) (h : H a = some o) (n : fzb o = true) (v : HS H (upd H a o') -> F.H0 a = none -> SlAt K F (upd H a o') (some (.ref a)) s') : Stp K F σ ρ H (ρ.set i s') (upd H a o') := by
 have hi : i < ρ.length := (List.getElem?_eq_some_iff.mp e).1
 have h0 := (fr.own_at e m q (fr.nr_of e q h n)).2
 have hd := fr.fresh_nodk h0
 have hs : HS H (upd H a o') := hs_put h (by cases o <;> first | rfl | exact absurd n Bool.false_ne_true)
 have st : ∀ b u, b ≠ a -> H b = some u -> upd H a o' b = some u := fun b u z e => by rw [upd_ne z]; exact e
 have get : ∀ (j : Nat) (t : Sl), (ρ.set i s')[j]? = some t -> (i = j /\ t = s') \/ (i ≠ j /\ ρ[j]? = some t) := fun j t e' => by
  by_cases z : i = j
  ·subst z
   rw [List.getElem?_set_self hi] at e'
   exact .inl ⟨rfl, (Option.some.inj e').symm⟩
  ·rw [List.getElem?_set_ne z] at e'; exact .inr ⟨z, e'⟩
 have sub : Sbv (ρ.set i s') ρ := fun j t e' m' => by
  rcases get j t e' with ⟨rfl, rfl⟩ | ⟨z, e'⟩
  ·exact ⟨s, e, m⟩
  ·exact ⟨t, e', m'⟩
 have hr := fr.fresh_nord h0
 refine ⟨⟨fr.d0, fr.r0, ⟨fun b u e1 n1 n2 => st b u (fun z => by rw [z, h0] at e1; cases e1) (fr.kp.st b u e1 n1 n2), fun p c d => ?_, fun a' C d => ?_⟩, by rw [List.length_set]; exact fr.len, fun j t e' => ?_, fun j k b t t' e1 e2 m1 m2 q1 q2 => ?_⟩, fun b u e1 _ n1 => st b u (fun z => n1 i s e m (by rw [z]; exact q)) e1, sub, fun b u e1 => if z : b = a then ⟨o', z ▸ upd_same⟩ else ⟨u, st b u z e1⟩⟩
 ·obtain ⟨ne, ⟨S, k, e1⟩, ns, e2, l⟩ := fr.kp.dkk p c d
  exact ⟨ne, ⟨S, k, st _ _ (hd p c d).1.symm e1⟩, ns, st _ _ (hd p c d).2.symm e2, l⟩
 ·obtain ⟨t, p, dx, e1⟩ := fr.kp.rdk a' C d
  exact ⟨t, p, dx, st _ _ (hr a' C d).symm e1⟩
 ·rcases get j t e' with ⟨rfl, rfl⟩ | ⟨z, e'⟩
  ·rw [q]; exact v hs h0
  ·have x := fr.at_ j t e'
   cases t with
   | no => trivial
   | va T => obtain ⟨y, e1, v⟩ := x; exact ⟨y, e1, v.hs hs⟩
   | own Ts => obtain ⟨b, xs, e1, e2, e3, z', p⟩ := x; exact ⟨b, xs, e1, st _ _ (fun y => z (fr.ap i j a s _ e e' m rfl q (by rw [e1, y]))) e2, e3, z', p.hs hs⟩
   | dct kts => obtain ⟨b, kvs, e1, e2, e3, n', z', p⟩ := x; exact ⟨b, kvs, e1, st _ _ (fun y => z (fr.ap i j a s _ e e' m rfl q (by rw [e1, y]))) e2, e3, n', z', p.hs hs⟩
   | dk => exact x
   | fn _ => exact x
   | rd t p => obtain ⟨b, C, e1, e2, dx, e3⟩ := x; exact ⟨b, C, e1, e2, dx, st _ _ (hr b C e1).symm e3⟩
 ·obtain ⟨u, eu, mu⟩ := sub j t e1 m1
  obtain ⟨u', eu', mu'⟩ := sub k t' e2 m2
  exact fr.ap j k b u u' eu eu' mu mu' q1 q2
end
section
variable {X : Cx} {F : Fm} {e : Expr} {u : UT} {x : Str} {p apos cpos pos : Pos}
def uAppend (i : Nat) (u : UT) : UT := fun ρ Q => (∃ Ts, ρ[i]? = some (.own Ts)) /\ u ρ fun T ρ1 => ∃ Ts, ρ1[i]? = some (.own Ts) /\ Ts.length < 100000 /\ Q nT (ρ1.set i (.own (Ts ++ [T])))
theorem ue_append (i : Nat) (h : UE X F e u) (hN : X.N[i]? = some x := by rfl) (hv : Vis X.env.scope x := by first | exact Or.inl rfl | exact Or.inr (Or.inl rfl) | exact Or.inr (Or.inr rfl)) (hd : (x == ("__debug__" : Str)) = false := by decide) (hcd : (x == ("__classdict__" : Str)) = false := by decide)
  (hbase : attributeBase (.Name x p) "append" X.env (eval (.Name x p) X.env) = eval (.Name x p) X.env := by rfl)
  (hfew : ((backTo cpos (starEach [e] X.env)).all (fun x => !x.1) && (backToKw cpos (keywordEach [] X.env)).all (fun x => x.1.isSome) && decide (([e] : List Expr).length + ([] : List Keyword).length + (if ([] : List Keyword).isEmpty then 0 else 1) < 30)) = true := by rfl)
  (hline : (apos.endLine == cpos.line) = true := by rfl) (hs : starEach [e] X.env = (false, eval e X.env) :: starEach [] X.env := by rfl) (hplain : (backTo cpos (starEach [] X.env)).any (·.1) = false := by rfl) (hst : isStar e = false := by rfl) :
  UE X F (.Call (.Attribute (.Name x p) "append" apos) [e] [] cpos) (uAppend i u) := ⟨PE.imp (pe_bm PySem.F.plainAttrs_list PySem.F.slot_list_append PySem.F.type_list_append mt_append (pe_var hN hv hd hcd) (ua_c h ua_nil hst).pa hbase hfew hline hs hplain) fun σ H QQ ⟨ρ, Q, f, ⟨⟨Ts0, e0⟩, hu⟩, k⟩ => by
 obtain ⟨a, xs, ea, eH, e3, z, pv⟩ := f.at_ i _ e0
 refine ⟨_, ixv_some ea, .inl ⟨rfl, xs, SqL.of eH⟩, ρ, fun as ρ1 => ∃ T, as = [.va T] /\ ∃ Ts, ρ1[i]? = some (.own Ts) /\ Ts.length < 100000 /\ Q nT (ρ1.set i (.own (Ts ++ [T]))), f, ?_, fun vs as H1 ρ1 s1 p1 q1 => ?_⟩
 ·show u ρ _
  have : (fun T ρ1 => ∃ Ts, ρ1[i]? = some (.own Ts) /\ Ts.length < 100000 /\ Q nT (ρ1.set i (.own (Ts ++ [T])))) = (fun T (ρ1 : PEnv) => (uNil ρ1 fun as ρ2 => ∃ T', Ar.va T :: as = [.va T'] /\ ∃ Ts, ρ2[i]? = some (.own Ts) /\ Ts.length < 100000 /\ Q nT (ρ2.set i (.own (Ts ++ [T'])))) ) := by
   funext T ρ1
   apply propext
   constructor
   ·intro z; exact ⟨T, rfl, z⟩
   ·rintro ⟨T', e, z⟩; cases e; exact z
  rw [this] at hu
  exact hu
 ·obtain ⟨T, rfl, Ts, e1, lt, q⟩ := q1
  cases p1 with
  | cons v t =>
   cases t
   obtain ⟨a', ys, ea', eH1, e3', z', pv'⟩ := s1.fr.at_ i _ e1
   rw [ea] at ea'; cases ea'
   have ll : ys.length = Ts.length := Paired.length pv'
   refine ⟨a, ys, _, rfl, rfl, eH1, line_lt (by omega), k _ _ _ _ (s1.trans (s1.fr.put (s' := .own (Ts ++ [T])) e1 rfl ea eH1 rfl fun hs h0 => ⟨a, _, rfl, upd_same, h0, by rw [List.length_append, List.length_singleton]; omega, VAs.hs hs (Paired.snoc pv' v)⟩)) (.flat rfl) q⟩⟩
theorem paired_getR {α β : Type} {R : α -> β -> Prop} : ∀ {l : List α} {m : List β} {n : Nat} {y : β}, Paired R l m -> m[n]? = some y -> ∃ x, l[n]? = some x /\ R x y
 | _, _, _, _, .nil, e => by simp at e
 | _, _, 0, _, .cons r _, e => by simp at e; subst e; exact ⟨_, rfl, r⟩
 | _, _, n + 1, _, .cons _ t, e => by
  obtain ⟨x, h1, h2⟩ := paired_getR (n := n) t (by simpa using e)
  exact ⟨x, by simpa using h1, h2⟩
end
theorem Inv.frozen {X : Cx} {pins : List (Addr × Obj)} {σ : St} {H H2 : Hp} {s : Shared} (I : Inv X pins σ H s) (fro : FrozenA noHp H H2) (ok2 : HOk X.prog X.w H2 s.heap) : Inv X pins σ H2 s := by
 refine ⟨I.ok, I.os, I.bare, ⟨I.base.keep, I.base.slot, fun b o e n hx => fro.none_of (I.base.free b o e n hx), I.base.there, fun b xs e => fro.keep (I.base.tups b xs e) rfl, fun b o u e => fro.keep (I.base.frzs b o u e) rfl, fun b ps e => ?_⟩, I.loc, I.cell, fro.none_of I.free, fun x c e => fro.none_of (I.freeC x c e), fun p hp => ?_, ok2, I.len⟩
 ·obtain ⟨more, z⟩ := I.base.tbls b ps e
  exact ⟨more, fro.keep z rfl⟩
 ·obtain ⟨p1, p2, p3⟩ := I.pin p hp
  exact ⟨p1, fro.none_of p2, p3⟩
theorem Inv.thaw {X : Cx} {pins : List (Addr × Obj)} {σ : St} {H H3 H4 : Hp} {s s' : Shared} (I : Inv X pins σ H s) (I3 : Inv X pins σ H3 s') (th : Thaw H H3 H4) : Inv X pins σ H4 s' := by
 have stay : ∀ b o, H3 b = some o -> (∀ u ob, o ≠ .frz ob u) -> H4 b = some o := fun b o e n => by
  rcases th b with ⟨u, ob, _, _, z, _⟩ | ⟨_, z⟩
  ·rw [e] at z; cases z; exact absurd rfl (n u ob)
  ·rw [z]; exact e
 have none4 : ∀ b, H3 b = none -> H4 b = none := fun b e => by
  rcases th b with ⟨u, ob, _, _, z, _⟩ | ⟨_, z⟩
  ·rw [e] at z; cases z
  ·rw [z]; exact e
 refine ⟨I3.ok, I3.os, I3.bare, ⟨I3.base.keep, I3.base.slot, fun b o e n hx => none4 b (I3.base.free b o e n hx), I3.base.there, fun b xs e => stay b _ (I3.base.tups b xs e) (fun _ _ z => by cases z), fun b o u e => ?_, fun b ps e => ?_⟩, I3.loc, I3.cell, none4 _ I3.free, fun x c e => none4 c (I3.freeC x c e), fun p hp => ?_, fun b o e => ?_, I3.len⟩
 ·rcases th b with ⟨o', ob, n, z, _⟩ | ⟨_, z⟩
  ·rw [I.base.frzs b o u e] at z; cases z; exact absurd n Bool.false_ne_true
  ·rw [z]; exact I3.base.frzs b o u e
 ·obtain ⟨more, z⟩ := I3.base.tbls b ps e
  exact ⟨more, stay b _ z (fun _ _ z => by cases z)⟩
 ·obtain ⟨p1, p2, p3⟩ := I3.pin p hp
  exact ⟨p1, none4 _ p2, p3⟩
 ·have st : ∀ o, ObjOk X.prog X.w H3 s'.heap b o -> ObjOk X.prog X.w H4 s'.heap b o := fun o x => x.stay (fun _ _ _ r => r) (fun d r => stay d _ r (fun _ _ z => by cases z)) fun d xs r => stay d _ r (fun _ _ z => by cases z)
  rcases th b with ⟨o', ob, n, _, z, z'⟩ | ⟨_, z⟩
  ·rw [z'] at e
   cases e
   obtain ⟨_, y⟩ := (show ObjOk X.prog X.w H3 s'.heap b (.frz ob o) from I3.hok b _ z)
   exact st o y
  ·rw [z] at e
   exact st o (I3.hok b o e)
def pkS : Sl -> Sl
 | .own Ts => .va (.seq false Ts)
 | .dct kts => .va (.dct kts)
 | .dk => .no
 | .rd _ _ => .no
 | s => s
def pkE (ρ : PEnv) : PEnv := ρ.map pkS
theorem fr_pk {K : PySem.W.Frag} {F : Fm} {ρ : PEnv} {σ : St} {H H2 : Hp} (f : FrOk K F ρ σ H) (fro : FrozenA noHp H H2) : FrOk K ⟨H2, none, none⟩ (pkE ρ) σ H2 := by
 have hs := fro.hs
 refine ⟨fun _ _ z => (nomatch z), fun _ _ z => (nomatch z), ⟨fun _ _ e _ _ => e, fun _ _ z => (nomatch z), fun _ _ z => (nomatch z)⟩, by unfold pkE; rw [List.length_map]; exact f.len, fun i s e => ?_, fun i j a s t e _ m _ _ _ => ?_⟩
 ·unfold pkE at e
  rw [List.getElem?_map] at e
  obtain ⟨s0, e0, rfl⟩ := Option.map_eq_some_iff.mp e
  have h := f.at_ i s0 e0
  cases s0 with
  | no => trivial
  | va T => obtain ⟨y, e1, v⟩ := h; exact ⟨y, e1, v.hs hs⟩
  | own Ts =>
   obtain ⟨a, xs, e1, e2, e3, z, p⟩ := h
   obtain ⟨ob, e4⟩ := fro.fz (b := a) rfl e2 rfl
   exact ⟨_, e1, VA.seq (t := false) ⟨ob, e4⟩ z (p.hs hs)⟩
  | dct kts =>
   obtain ⟨a, kvs, e1, e2, e3, n, z, p⟩ := h
   obtain ⟨ob, e4⟩ := fro.fz (b := a) rfl e2 rfl
   exact ⟨_, e1, VA.dct ⟨ob, e4⟩ n z (p.hs hs)⟩
  | dk => trivial
  | rd _ _ => trivial
  | fn _ => trivial
 ·unfold pkE at e
  rw [List.getElem?_map] at e
  obtain ⟨s0, e0, rfl⟩ := Option.map_eq_some_iff.mp e
  cases s0 <;> cases m
theorem pk_same {K : PySem.W.Frag} {ρ ρ' : PEnv} {σ : St} {H2 H3 : Hp} {H0 : Hp} (s : Stp K ⟨H0, none, none⟩ σ (pkE ρ) H2 ρ' H3) : Same H2 H3 := fun b o e => s.st b o e (fun _ _ z => (nomatch z)) fun i t e1 m => by
 unfold pkE at e1
 rw [List.getElem?_map] at e1
 obtain ⟨s0, e0, rfl⟩ := Option.map_eq_some_iff.mp e1
 cases s0 <;> cases m
section
variable {X : Cx} {F : Fm} {e : Expr}
def uPeekT (u : UTt) : UTt := fun ρ Q => u (pkE ρ) fun b _ => Q b ρ
theorem ub_peek {u : UTt} (h : ∀ F, UB X F e u) : UB X F e (uPeekT u) := ⟨fun pins s σ H QQ I ⟨ρ, Q, f, hu, k⟩ => by
 obtain ⟨H2, fro, ok2⟩ := frozen_is I.hok
 have f2 := fr_pk f fro
 refine thn ((h ⟨H2, none, none⟩).pt pins s σ H2 (fun b H3 => ∃ ρ', Stp X.K ⟨H2, none, none⟩ σ (pkE ρ) H2 ρ' H3 /\ Q b ρ) (I.frozen fro ok2) ⟨_, _, f2, hu, fun b H' ρ' st q => ⟨ρ', st, q⟩⟩) fun b s' ⟨H3, I3, q⟩ => ?_
 obtain ⟨ρ', st, q⟩ := q
 obtain ⟨H4, th⟩ := thaw_is H H3
 exact ⟨H4, I.thaw I3 th, k _ _ _ (Stp.same f (Thaw.same fro (pk_same st) th)) q⟩⟩
end
end L2
namespace L2
open PySem PySem.Spec PyProof.Rows WordM
mutual
def eqT : Tv -> Tv -> Bool
 | .leaf v, .leaf w => eqV v w
 | .seq s xs, .seq t ys => s == t && eqTs xs ys
 | _, _ => false
def eqTs : List Tv -> List Tv -> Bool
 | [], [] => true
 | x :: xs, y :: ys => eqT x y && eqTs xs ys
 | _, _ => false
end
def EqD : Nat -> Tv -> Prop
 | 0, _ => False
 | _ + 1, .leaf _ => True
 | n + 1, .seq _ xs => ∀ U ∈ xs, EqD n U
 | _ + 1, .dct _ => False
theorem eqTs_len : ∀ {xs ys : List Tv}, xs.length ≠ ys.length -> eqTs xs ys = false
 | [], [], h => absurd rfl h
 | [], _ :: _, _ => by simp [eqTs]
 | _ :: _, [], _ => by simp [eqTs]
 | x :: xs, y :: ys, h => by
  have := eqTs_len (xs := xs) (ys := ys) (fun e => h (by simp [e]))
  simp [eqTs, this]
theorem eqTs_range : ∀ {xs ys : List Tv}, xs.length = ys.length -> (List.range xs.length).all (fun i => eqT (xs.getD i nT) (ys.getD i nT)) = eqTs xs ys
 | [], [], _ => by simp [eqTs]
 | [], _ :: _, h => by simp at h
 | _ :: _, [], h => by simp at h
 | x :: xs, y :: ys, h => by
  have ih := eqTs_range (xs := xs) (ys := ys) (by simpa using h)
  rw [List.length_cons, List.range_succ_eq_map, List.all_cons, List.all_map]
  show (eqT x y && (List.range xs.length).all fun i => eqT (xs.getD i nT) (ys.getD i nT)) = eqTs (x :: xs) (y :: ys)
  rw [ih]
  simp [eqTs]
theorem EqD.vp {K : PySem.W.Frag} {H : Hp} : ∀ {n d : Nat} {x : V} {T : Tv}, EqD n T -> VP K H d x T -> VP K H n x T
 | 0, _, _, _, h, _ => False.elim h
 | _ + 1, 0, _, _, _, h => False.elim h
 | n + 1, d + 1, x, T, h, v => by
  rcases v with v | ⟨t, a, xs, Ts, e1, e2, rfl, z, p⟩ | ⟨a, kvs, kts, e1, e2, rfl, _⟩
  ·exact .inl v
  ·have g : ∀ U ∈ Ts, EqD n U := h
   refine .inr (.inl ⟨t, a, xs, Ts, e1, e2, rfl, z, ?_⟩)
   clear e2 z h
   induction p with
   | nil => exact .nil
   | cons r _ ih => exact .cons ((g _ (.head _)).vp r) (ih fun U hU => g U (.tail _ hU))
  ·exact False.elim h
section
variable {X : Cx} {pins : List (Addr × Obj)} {σ : St} {H : Hp} {s : Shared}
theorem eqV_refl {v : V} (h : flatV v = true) : eqV v v = true := by
 cases v <;> first | exact absurd h Bool.false_ne_true | simp [eqV]
theorem PSeq.isList {a : Addr} {xs : List V} (I : Inv X pins σ H s) (h : PSeq X.K H false a xs) : ∃ its : List Value, Vals xs its /\ s.heap.IsList a its.toArray := by
 obtain ⟨its, r, p, _⟩ := I.list (seq_of h)
 exact ⟨its, r, p.isList⟩
theorem PSeq.isTup {a : Addr} {xs : List V} (I : Inv X pins σ H s) (h : PSeq X.K H true a xs) : ∃ its : List Value, Vals xs its /\ s.heap.IsTuple a its.toArray := by
 obtain ⟨its, r, p, _⟩ := I.tuple h
 exact ⟨its, r, p⟩
theorem eq_self (I : Inv X pins σ H s) : ∀ {n : Nat} {x : V} {T U : Tv}, VP X.K H n x T -> VP X.K H n x U -> EqD n T -> EqD n U -> eqT T U = true
 | 0, _, _, _, h, _, _, _ => False.elim h
 | n + 1, x, T, U, h, h', d, d' => by
  rcases h with ⟨f, rfl⟩ | ⟨t, a, xs, Ts, rfl, e2, rfl, z, p⟩ | ⟨a, kvs, kts, rfl, e2, rfl, _⟩
  ·rcases h' with ⟨_, rfl⟩ | ⟨t', a', xs', Ts', rfl, _⟩ | ⟨a', kvs', kts', rfl, _⟩
   ·simp [eqT, eqV_refl f]
   ·cases f
   ·cases f
  ·rcases h' with ⟨f, rfl⟩ | ⟨t', a', xs', Ts', e1', e2', rfl, z', p'⟩ | ⟨a', kvs', kts', e1', e2', rfl, _⟩
   ·cases f
   ·cases e1'
    have tt : t = t' := by
     cases t <;> cases t' <;> first | rfl | skip
     ·obtain ⟨_, _, l1⟩ := PSeq.isList I e2
      obtain ⟨_, _, l2⟩ := PSeq.isTup I e2'
      exact absurd rfl (SeqAt.ne_of_list_tuple l1 l2)
     ·obtain ⟨_, _, l1⟩ := PSeq.isList I e2'
      obtain ⟨_, _, l2⟩ := PSeq.isTup I e2
      exact absurd rfl (SeqAt.ne_of_list_tuple l1 l2)
    subst tt
    have ex : xs = xs' := by
     cases t with
     | false => exact I.list_inj (seq_of e2) (seq_of e2')
     | true => exact I.tuple_inj e2 e2'
    subst ex
    have d : ∀ U ∈ Ts, EqD n U := d
    have d' : ∀ U ∈ Ts', EqD n U := d'
    have key : ∀ {xs : List V} {Ts Ts' : List Tv}, Paired (VP X.K H n) xs Ts -> Paired (VP X.K H n) xs Ts' -> (∀ U ∈ Ts, EqD n U) -> (∀ U ∈ Ts', EqD n U) -> eqTs Ts Ts' = true := by
     intro xs Ts Ts' p
     induction p generalizing Ts' with
     | nil => intro p' _ _; cases p'; simp [eqTs]
     | cons r _ ih =>
      intro p' d d'
      cases p' with
      | cons r' t' => simp [eqTs, eq_self I r r' (d _ (.head _)) (d' _ (.head _)), ih t' (fun U hU => d U (.tail _ hU)) (fun U hU => d' U (.tail _ hU))]
    simp [eqT, key p p' d d']
   ·exact False.elim d'
  ·exact False.elim d
theorem flat_cases {x : V} (h : flatV x = true) : x = .non \/ (∃ b, x = .bl b) \/ (∃ i, x = .int i) \/ ∃ z, x = .str z := by
 cases x with
 | non => exact .inl rfl
 | bl b => exact .inr (.inl ⟨b, rfl⟩)
 | int i => exact .inr (.inr (.inl ⟨i, rfl⟩))
 | str z => exact .inr (.inr (.inr ⟨z, rfl⟩))
 | _ => exact absurd (show false = true from h) Bool.false_ne_true
open SeqAt in
theorem eq_leaf_seq (I : Inv X pins σ H s) {A : Around} (hu : A.units < cLine) {x : V} {v : Value} {t : Bool} {a : Addr} {xs : List V} (f : flatV x = true) (r : RelV x v) (h : PSeq X.K H t a xs) :
  EqAt A s v (.ref a) false /\ EqAt A s (.ref a) v false /\ RcAt A s v (.ref a) false /\ RcAt A s (.ref a) v false /\ RcNeAt A s v (.ref a) true /\ RcNeAt A s (.ref a) v true := by
 cases t with
 | false =>
  obtain ⟨_, _, l⟩ := PSeq.isList I h
  rcases flat_cases f with rfl | ⟨b, rfl⟩ | ⟨b, rfl⟩ | ⟨b, rfl⟩
  ·cases r; exact ⟨.none_list l hu, .list_none l hu, .none_list l hu, .list_none l hu, .none_list l hu, .list_none l hu⟩
  ·cases r; exact ⟨.bool_list b l hu, .list_bool b l hu, .bool_list b l hu, .list_bool b l hu, .bool_list b l hu, .list_bool b l hu⟩
  ·obtain ⟨t, rfl⟩ := r; exact ⟨.int_list b t l hu, .list_int b t l hu, .int_list b t l hu, .list_int b t l hu, .int_list b t l hu, .list_int b t l hu⟩
  ·obtain ⟨t, rfl⟩ := r; exact ⟨.str_list b t l hu, .list_str b t l hu, .str_list b t l hu, .list_str b t l hu, .str_list b t l hu, .list_str b t l hu⟩
 | true =>
  obtain ⟨_, _, l⟩ := PSeq.isTup I h
  rcases flat_cases f with rfl | ⟨b, rfl⟩ | ⟨b, rfl⟩ | ⟨b, rfl⟩
  ·cases r; exact ⟨.none_tuple l hu, .tuple_none l hu, .none_tuple l hu, .tuple_none l hu, .none_tuple l hu, .tuple_none l hu⟩
  ·cases r; exact ⟨.bool_tuple b l hu, .tuple_bool b l hu, .bool_tuple b l hu, .tuple_bool b l hu, .bool_tuple b l hu, .tuple_bool b l hu⟩
  ·obtain ⟨t, rfl⟩ := r; exact ⟨.int_tuple b t l hu, .tuple_int b t l hu, .int_tuple b t l hu, .tuple_int b t l hu, .int_tuple b t l hu, .tuple_int b t l hu⟩
  ·obtain ⟨t, rfl⟩ := r; exact ⟨.str_tuple b t l hu, .tuple_str b t l hu, .str_tuple b t l hu, .tuple_str b t l hu, .str_tuple b t l hu, .tuple_str b t l hu⟩
open SeqAt in
theorem rc_leaf {A : Around} {x y : V} {v u : Value} (fx : flatV x = true) (fy : flatV y = true) (rx : RelV x v) (ry : RelV y u) : RcAt A s v u (eqV x y) /\ RcNeAt A s v u (!eqV x y) := by
 rcases flat_cases fx with rfl | ⟨a, rfl⟩ | ⟨a, rfl⟩ | ⟨a, rfl⟩ <;> rcases flat_cases fy with rfl | ⟨b, rfl⟩ | ⟨b, rfl⟩ | ⟨b, rfl⟩
 ·cases rx; cases ry; exact ⟨.none_none, .none_none⟩
 ·cases rx; cases ry; exact ⟨.none_bool b, .none_bool b⟩
 ·cases rx; obtain ⟨t, rfl⟩ := ry; exact ⟨.none_int b t, .none_int b t⟩
 ·cases rx; obtain ⟨t, rfl⟩ := ry; exact ⟨.none_str b t, .none_str b t⟩
 ·cases rx; cases ry; exact ⟨.bool_none a, .bool_none a⟩
 ·cases rx; cases ry; exact ⟨.bool_bool a b, .bool_bool a b⟩
 ·cases rx; obtain ⟨t, rfl⟩ := ry; exact ⟨.bool_int a b t, .bool_int a b t⟩
 ·cases rx; obtain ⟨t, rfl⟩ := ry; exact ⟨.bool_str a b t, .bool_str a b t⟩
 ·obtain ⟨t', rfl⟩ := rx; cases ry; exact ⟨.int_none a t', .int_none a t'⟩
 ·obtain ⟨t', rfl⟩ := rx; cases ry; exact ⟨.int_bool a t' b, .int_bool a t' b⟩
 ·obtain ⟨t', rfl⟩ := rx; obtain ⟨t, rfl⟩ := ry; exact ⟨.int_int a t' b t, .int_int a t' b t⟩
 ·obtain ⟨t', rfl⟩ := rx; obtain ⟨t, rfl⟩ := ry; exact ⟨.int_str a t' b t, .int_str a t' b t⟩
 ·obtain ⟨t', rfl⟩ := rx; cases ry; exact ⟨.str_none a t', .str_none a t'⟩
 ·obtain ⟨t', rfl⟩ := rx; cases ry; exact ⟨.str_bool a t' b, .str_bool a t' b⟩
 ·obtain ⟨t', rfl⟩ := rx; obtain ⟨t, rfl⟩ := ry; exact ⟨.str_int a t' b t, .str_int a t' b t⟩
 ·obtain ⟨t', rfl⟩ := rx; obtain ⟨t, rfl⟩ := ry; exact ⟨.str_str a t' b t, .str_str a t' b t⟩
theorem vals_nth {xs : List V} {us : List Value} (r : Vals xs us) {j : Nat} (h : j < us.toArray.size) : ∃ x, xs[j]? = some x /\ RelV x us.toArray[j] := by
 have l := r.length
 have k : j < xs.length := by rw [l]; simpa using h
 obtain ⟨u, hu, ru⟩ := r.get (i := j) (x := xs[j]) (List.getElem?_eq_getElem k)
 refine ⟨_, List.getElem?_eq_getElem k, ?_⟩
 have e1 : us.toArray[j] = u := by
  obtain ⟨_, e⟩ := List.getElem?_eq_some_iff.mp hu
  simpa using e
 rw [e1]; exact ru
open SeqAt in
theorem rc_seq (I : Inv X pins σ H s) {A : Around} (hu : A.units < cLine) {t : Bool} {a b : Addr} {xs ys : List V} {Ts Us : List Tv} (ha : PSeq X.K H t a xs) (hb : PSeq X.K H t b ys) (lx : xs.length = Ts.length) (ly : ys.length = Us.length)
  (it : ∀ (j : Nat) (x y : V) (T U : Tv) (v u : Value), xs[j]? = some x -> ys[j]? = some y -> Ts[j]? = some T -> Us[j]? = some U -> RelV x v -> RelV y u -> EqAt A.in1 s v u (eqT T U)) : RcAt A s (.ref a) (.ref b) (eqTs Ts Us) /\ RcNeAt A s (.ref a) (.ref b) (!eqTs Ts Us) := by
 have item : ∀ {vs us : List Value}, Vals xs vs -> Vals ys us -> ∀ j (h1 : j < vs.toArray.size) (h2 : j < us.toArray.size), EqAt A.in1 s vs.toArray[j] us.toArray[j] (eqT (Ts.getD j nT) (Us.getD j nT)) := fun {vs us} r1 r2 j h1 h2 => by
  obtain ⟨x, ex, rx⟩ := vals_nth r1 h1
  obtain ⟨y, ey, ry⟩ := vals_nth r2 h2
  have k1 := (List.getElem?_eq_some_iff.mp ex).1
  have k2 := (List.getElem?_eq_some_iff.mp ey).1
  refine it j x y _ _ _ _ ex ey ?_ ?_ rx ry
  ·rw [List.getD_eq_getElem?_getD, List.getElem?_eq_getElem (by omega)]; rfl
  ·rw [List.getD_eq_getElem?_getD, List.getElem?_eq_getElem (by omega)]; rfl
 cases t with
 | false =>
  obtain ⟨vs, r1, l1⟩ := PSeq.isList I ha
  obtain ⟨us, r2, l2⟩ := PSeq.isList I hb
  have n1 := r1.length
  have n2 := r2.length
  by_cases hl : Ts.length = Us.length
  ·have e1 := RcAt.lists l1 l2 (by simp only [List.size_toArray]; omega) hu (item r1 r2)
   have e2 := RcNeAt.lists l1 l2 (by simp only [List.size_toArray]; omega) hu (item r1 r2)
   rw [show vs.toArray.size = Ts.length by rw [List.size_toArray]; omega, eqTs_range hl] at e1 e2
   exact ⟨e1, e2⟩
  ·rw [eqTs_len hl]
   have hne : (vs.toArray.size != us.toArray.size) = true := by
    rw [bne_iff_ne, List.size_toArray, List.size_toArray]; omega
   exact ⟨.lists_lengths l1 l2 hne hu, .lists_lengths l1 l2 hne hu⟩
 | true =>
  obtain ⟨vs, r1, l1⟩ := PSeq.isTup I ha
  obtain ⟨us, r2, l2⟩ := PSeq.isTup I hb
  have n1 := r1.length
  have n2 := r2.length
  have e1 := RcAt.tuples l1 l2 hu (item r1 r2)
  have e2 := RcNeAt.tuples l1 l2 hu (item r1 r2)
  have ee : ((List.range (min vs.toArray.size us.toArray.size)).all (fun i => eqT (Ts.getD i nT) (Us.getD i nT)) && vs.toArray.size == us.toArray.size) = eqTs Ts Us := by
   rw [show vs.toArray.size = Ts.length by rw [List.size_toArray]; omega, show us.toArray.size = Us.length by rw [List.size_toArray]; omega]
   by_cases hl : Ts.length = Us.length
   ·rw [<- hl, Nat.min_self, eqTs_range hl]; simp
   ·rw [eqTs_len hl, beq_eq_false_iff_ne.mpr hl, Bool.and_false]
  rw [ee] at e1 e2
  exact ⟨e1, e2⟩
open SeqAt in
theorem eq_tree (I : Inv X pins σ H s) : ∀ (n : Nat) {A : Around} {x y : V} {T U : Tv} {v u : Value}, A.units + n < cLine -> EqD n T -> EqD n U -> VP X.K H n x T -> VP X.K H n y U -> RelV x v -> RelV y u -> EqAt A s v u (eqT T U)
 | 0, _, _, _, _, _, _, _, _, h, _, _, _, _, _ => False.elim h
 | n + 1, A, x, y, T, U, v, u, hu, d, d', h, h', rx, ry => by
  have hu0 : A.units < cLine := by omega
  have hh := h
  have hh' := h'
  rcases h with ⟨f, rfl⟩ | ⟨t, a, xs, Ts, rfl, e2, rfl, z, p⟩ | ⟨a, kvs, kts, rfl, e2, rfl, _⟩
  ·rcases h' with ⟨f', rfl⟩ | ⟨t', a', xs', Ts', rfl, e2', rfl, z', p'⟩ | ⟨a', kvs', kts', rfl, _, rfl, _⟩
   ·have := eqAt_V (A := A) (s := s) rx ry f f'
    simpa [eqT] using this
   ·cases ry
    have := (eq_leaf_seq I hu0 f rx e2').1
    simpa [eqT] using this
   ·exact False.elim d'
  ·rcases h' with ⟨f', rfl⟩ | ⟨t', b, ys, Us, rfl, e2', rfl, z', p'⟩ | ⟨a', kvs', kts', rfl, _, rfl, _⟩
   ·cases rx
    have := (eq_leaf_seq I hu0 f' ry e2).2.1
    simpa [eqT] using this
   ·cases rx
    cases ry
    by_cases ab : a = b
    ·subst ab
     have := eq_self I hh hh' d d'
     rw [this]
     exact EqAt.same _
    ·by_cases tt : t = t'
     ·subst tt
      have d : ∀ U ∈ Ts, EqD n U := d
      have d' : ∀ U ∈ Us, EqD n U := d'
      have := (rc_seq I hu0 e2 e2' (Paired.length p) (Paired.length p') fun j x y T U v u ex ey eT eU rx ry => by
       obtain ⟨T', eT', vx⟩ := paired_get p ex
       obtain ⟨U', eU', vy⟩ := paired_get p' ey
       rw [eT] at eT'; cases eT'
       rw [eU] at eU'; cases eU'
       exact eq_tree I n (by show A.units + 1 + n < _; omega) (d _ (List.mem_of_getElem? eT)) (d' _ (List.mem_of_getElem? eU)) vx vy rx ry).1
      have r := EqAt.of_refs ab this
      simpa [eqT] using r
     ·have e : eqT (.seq t Ts) (.seq t' Us) = false := by simp [eqT, tt]
      rw [e]
      refine EqAt.of_refs ab ?_
      cases t <;> cases t' <;> first | exact absurd rfl tt | skip
      ·obtain ⟨_, _, l1⟩ := PSeq.isList I e2
       obtain ⟨_, _, l2⟩ := PSeq.isTup I e2'
       exact .list_tuple l1 l2 hu0
      ·obtain ⟨_, _, l1⟩ := PSeq.isTup I e2
       obtain ⟨_, _, l2⟩ := PSeq.isList I e2'
       exact .tuple_list l1 l2 hu0
   ·exact False.elim d'
  ·exact False.elim d
end
def EqOk (Ts Us : List Tv) : Prop := Ts = [] \/ Us = [] \/ ((∀ T ∈ Ts, EqD 40 T) /\ ∀ U ∈ Us, EqD 40 U)
def pEqB (neg : Bool) : P2
 | .leaf v, .leaf w, Q => Q (bT (neg != eqV v w))
 | .leaf _, .seq _ _, Q => Q (bT neg)
 | .seq _ _, .leaf _, Q => Q (bT neg)
 | .seq s xs, .seq t ys, Q => EqOk xs ys /\ Q (bT (neg != (s == t && eqTs xs ys)))
 | _, _, _ => False
section
variable {X : Cx}
open SeqAt in
theorem eq_pure {pins : List (Addr × Obj)} {σ : St} {H : Hp} {s : Shared} (I : Inv X pins σ H s) (hu : X.A.units + 64 < cLine) {neg : Bool} {x y : V} {T U : Tv} {v u : Value} {Q : Tv -> Prop} (vx : VA X.K H x T) (vy : VA X.K H y U) (rx : RelV x v) (ry : RelV y u) (h : pEqB neg T U Q) :
  ∃ b, Q (bT (neg != b)) /\ RcAt X.A s v u b /\ RcNeAt X.A s v u (!b) := by
 have hu0 : X.A.units < cLine := by omega
 unfold pEqB at h
 split at h
 ·obtain ⟨rfl, f⟩ := vx.leafI
  obtain ⟨rfl, f'⟩ := vy.leafI
  exact ⟨_, h, rc_leaf f f' rx ry⟩
 ·obtain ⟨rfl, f⟩ := vx.leafI
  obtain ⟨a, xs, rfl, hs, _⟩ := vy.seqI
  cases ry
  have r := eq_leaf_seq I hu0 f rx hs
  exact ⟨false, by simpa using h, r.2.2.1, r.2.2.2.2.1⟩
 ·obtain ⟨rfl, f⟩ := vy.leafI
  obtain ⟨a, xs, rfl, hs, _⟩ := vx.seqI
  cases rx
  have r := eq_leaf_seq I hu0 f ry hs
  exact ⟨false, by simpa using h, r.2.2.2.1, r.2.2.2.2.2⟩
 ·rename_i t Ts t' Us
  obtain ⟨ok, q⟩ := h
  obtain ⟨a, xs, rfl, hs, z, p⟩ := vx.seqI
  obtain ⟨b, ys, rfl, hs', z', p'⟩ := vy.seqI
  cases rx
  cases ry
  refine ⟨_, q, ?_⟩
  by_cases tt : t = t'
  ·subst tt
   have e : (t == t && eqTs Ts Us) = eqTs Ts Us := by simp
   rw [e]
   refine rc_seq I hu0 hs hs' (Paired.length p) (Paired.length p') fun j x y T U v u ex ey eT eU rx ry => ?_
   rcases ok with rfl | rfl | ⟨o1, o2⟩
   ·cases eT
   ·cases eU
   ·obtain ⟨T', eT', d, vx⟩ := paired_get p ex
    obtain ⟨U', eU', d', vy⟩ := paired_get p' ey
    rw [eT] at eT'; cases eT'
    rw [eU] at eU'; cases eU'
    have k1 := o1 _ (List.mem_of_getElem? eT)
    have k2 := o2 _ (List.mem_of_getElem? eU)
    exact eq_tree I 40 (by show X.A.units + 1 + 40 < _; omega) k1 k2 (k1.vp vx) (k2.vp vy) rx ry
  ·have e : (t == t' && eqTs Ts Us) = false := by simp [tt]
   rw [e]
   cases t <;> cases t' <;> first | exact absurd rfl tt | skip
   ·obtain ⟨_, _, l1⟩ := PSeq.isList I hs
    obtain ⟨_, _, l2⟩ := PSeq.isTup I hs'
    exact ⟨.list_tuple l1 l2 hu0, .list_tuple l1 l2 hu0⟩
   ·obtain ⟨_, _, l1⟩ := PSeq.isTup I hs
    obtain ⟨_, _, l2⟩ := PSeq.isList I hs'
    exact ⟨.tuple_list l1 l2 hu0, .tuple_list l1 l2 hu0⟩
 ·exact False.elim h
def rEqP (K : PySem.W.Frag) (neg : Bool) : R2 := fun x y H Q => ∃ T U, VA K H x T /\ VA K H y U /\ pEqB neg T U fun W => ∃ b, W = bT b /\ Q (.bl b) H
theorem op_eqP (hu : X.A.units + 64 < cLine) : OpR X (compareOp .Eq) (rEqP X.K false) := by
 rintro pins s σ H x y v u Q I rx ry ⟨T, U, vx, vy, h⟩
 obtain ⟨b, ⟨b', e, q⟩, r, _⟩ := eq_pure I hu vx vy rx ry h
 cases e
 exact r X.prog X.w X.xe _ ⟨.bl b, H, I, rfl, by simpa using q⟩
theorem op_neP (hu : X.A.units + 64 < cLine) : OpR X (compareOp .NotEq) (rEqP X.K true) := by
 rintro pins s σ H x y v u Q I rx ry ⟨T, U, vx, vy, h⟩
 obtain ⟨b, ⟨b', e, q⟩, _, r⟩ := eq_pure I hu vx vy rx ry h
 cases e
 exact r X.prog X.w X.xe _ ⟨.bl (!b), H, I, rfl, by simpa using q⟩
theorem pEqB_mono {neg : Bool} {T U : Tv} {Q Q' : Tv -> Prop} (h : pEqB neg T U Q) (i : ∀ b, Q (bT b) -> Q' (bT b)) : pEqB neg T U Q' := by
 unfold pEqB at h ⊢
 split at h
 ·exact i _ h
 ·exact i _ h
 ·exact i _ h
 ·exact ⟨h.1, i _ h.2⟩
 ·exact False.elim h
abbrev pEq : P2 := pEqB false
abbrev pNe : P2 := pEqB true
theorem pu_eq (hu : X.A.units + 64 < cLine) : PuCmp X (compareOp .Eq) pEq := ⟨_, op_eqP hu, fun x y T U H Q QQ vx vy h k => ⟨T, U, vx, vy, pEqB_mono h fun b q => ⟨b, rfl, k _ _ _ (Same.refl _) (.flat rfl) q⟩⟩⟩
theorem pu_ne (hu : X.A.units + 64 < cLine) : PuCmp X (compareOp .NotEq) pNe := ⟨_, op_neP hu, fun x y T U H Q QQ vx vy h k => ⟨T, U, vx, vy, pEqB_mono h fun b q => ⟨b, rfl, k _ _ _ (Same.refl _) (.flat rfl) q⟩⟩⟩
end
end L2
namespace L2
open PySem PySem.Spec PyProof.Rows WordM
section
variable {X : Cx} {F : Fm}
theorem vas1 {K : PySem.W.Frag} {H : Hp} {xs : List V} {T : Tv} (h : VAs K H xs [T]) : ∃ x, xs = [x] /\ VA K H x T := by
 cases h with
 | cons r t => cases t; exact ⟨_, rfl, r⟩
theorem vas2 {K : PySem.W.Frag} {H : Hp} {xs : List V} {T U : Tv} (h : VAs K H xs [T, U]) : ∃ x y, xs = [x, y] /\ VA K H x T /\ VA K H y U := by
 cases h with
 | cons r t =>
  obtain ⟨y, rfl, v⟩ := vas1 t
  exact ⟨_, y, rfl, r, v⟩
def rCatL (K : PySem.W.Frag) : R2 := fun x y H Q => ∃ l b xs zs, x = .ref l /\ y = .ref b /\ Rd H l (.lst xs) /\ Rd H b (.lst zs) /\ xs.length + zs.length <= sizeLine /\ ∀ p, H p = none -> Q (.ref p) (upd H p (.lst (xs ++ zs)))
theorem op_catL : OpR X (binaryOp .Add) (rCatL X.K) := by
 rintro pins s σ H _ _ v u Q I rx ry ⟨l, b, xs, zs, rfl, rfl, hH, hB, hz, q⟩
 cases rx
 cases ry
 obtain ⟨z, its, n, r, e⟩ := hH.ok I.hok
 obtain ⟨z2, its2, n2, r2, e2⟩ := hB.ok I.hok
 have l1 := r.length
 have l2 := r2.length
 refine PySem.P.add_list e e2 ?_ (by rw [List.size_toArray, List.size_toArray]; omega)
 rw [show its.toArray ++ its2.toArray = (its ++ its2).toArray by simp]
 exact ⟨.ref _, _, I.lnew (t' := s.toks) (r.append r2) (by rw [List.length_append]; omega), rfl, q _ I.fresh⟩
def pAdd : P2
 | .leaf (.int i), .leaf (.int j), Q => Q (iT (i + j))
 | .leaf (.str x), .leaf (.str y), Q => x.length + y.length <= 100000 /\ Q (sT (x ++ y))
 | .seq true xs, .seq true ys, Q => xs.length + ys.length <= 100000 /\ Q (.seq true (xs ++ ys))
 | .seq false xs, .seq false ys, Q => xs.length + ys.length <= 100000 /\ Q (.seq false (xs ++ ys))
 | _, _, _ => False
theorem pu_add : PuOp X (binaryOp .Add) pAdd := ⟨_, op_add.or (op_add_str.or (op_catG.or op_catL)), fun x y T U H Q QQ vx vy h k => by
 unfold pAdd at h
 split at h
 ·obtain ⟨rfl, _⟩ := vx.leafI
  obtain ⟨rfl, _⟩ := vy.leafI
  exact .inl ⟨_, _, rfl, rfl, k _ _ _ (.flat rfl) h⟩
 ·obtain ⟨rfl, _⟩ := vx.leafI
  obtain ⟨rfl, _⟩ := vy.leafI
  exact .inr (.inl ⟨_, _, rfl, rfl, line_of h.1, k _ _ _ (.flat rfl) h.2⟩)
 ·obtain ⟨a, xs, rfl, hs, z, p⟩ := vx.seqI
  obtain ⟨b, ys, rfl, hs', z', p'⟩ := vy.seqI
  have l1 : xs.length = _ := Paired.length p
  have l2 : ys.length = _ := Paired.length p'
  refine .inr (.inr (.inl ⟨a, b, xs, ys, rfl, rfl, hs, hs', line_of (by omega), fun r H' hr sm => k _ _ _ ⟨sm, .inl (VA.seq (t := true) hr (by rw [List.length_append]; exact h.1) (paired_app (p.hs sm.hs) (p'.hs sm.hs)))⟩ h.2⟩))
 ·obtain ⟨a, xs, rfl, ⟨ob, hs⟩, z, p⟩ := vx.seqI
  obtain ⟨b, ys, rfl, ⟨ob', hs'⟩, z', p'⟩ := vy.seqI
  have l1 : xs.length = _ := Paired.length p
  have l2 : ys.length = _ := Paired.length p'
  refine .inr (.inr (.inr ⟨a, b, xs, ys, rfl, rfl, .inr ⟨ob, hs⟩, .inr ⟨ob', hs'⟩, line_of (by omega), fun r n => k _ _ _ (Raw.lst n (by rw [List.length_append]; exact h.1) (paired_app p p')) h.2⟩))
 ·exact False.elim h⟩
def pI2 (C : Int -> Int -> Prop) (g : Int -> Int -> V) : P2
 | .leaf (.int i), .leaf (.int j), Q => C i j /\ Q (.leaf (g i j))
 | _, _, _ => False
theorem pu_i2 {f : Value -> Value -> Sem Value} {C : Int -> Int -> Prop} {g : Int -> Int -> V} (h : OpR X f (rI C g)) (fl : ∀ i j, flatV (g i j) = true) : PuCmp X f (pI2 C g) := ⟨_, h, fun x y T U H Q QQ vx vy h k => by
 unfold pI2 at h
 split at h
 ·obtain ⟨rfl, _⟩ := vx.leafI
  obtain ⟨rfl, _⟩ := vy.leafI
  exact ⟨_, _, rfl, rfl, h.1, k _ _ _ (Same.refl _) (.flat (fl _ _)) h.2⟩
 ·exact False.elim h⟩
def pI20 (g : Int -> Int -> V) : P2
 | .leaf (.int i), .leaf (.int j), Q => Q (.leaf (g i j))
 | _, _, _ => False
theorem pu_i20 {f : Value -> Value -> Sem Value} {g : Int -> Int -> V} (h : OpR X f (rI0 g)) (fl : ∀ i j, flatV (g i j) = true) : PuCmp X f (pI20 g) := ⟨_, h, fun x y T U H Q QQ vx vy h k => by
 unfold pI20 at h
 split at h
 ·obtain ⟨rfl, _⟩ := vx.leafI
  obtain ⟨rfl, _⟩ := vy.leafI
  exact ⟨_, _, rfl, rfl, k _ _ _ (Same.refl _) (.flat (fl _ _)) h⟩
 ·exact False.elim h⟩
abbrev pSub : P2 := pI20 fun i j => .int (i - j)
theorem pu_sub : PuOp X (binaryOp .Sub) pSub := (pu_i20 op_sub fun _ _ => rfl).op
def MulOk (i j : Int) : Prop := CMul i j \/ (BigOk i /\ BigOk j)
def pMul : P2
 | .leaf (.int i), .leaf (.int j), Q => MulOk i j /\ Q (iT (i * j))
 | .leaf (.str z), .leaf (.int n), Q => (z.length <= 1000 /\ n <= 1000 /\ -1000 <= n) /\ Q (sT (repS z n))
 | _, _, _ => False
theorem pu_mul : PuOp X (binaryOp .Mult) pMul := ⟨_, op_mul.or (op_mulB.or op_mulS), fun x y T U H Q QQ vx vy h k => by
 unfold pMul at h
 split at h
 ·obtain ⟨rfl, _⟩ := vx.leafI
  obtain ⟨rfl, _⟩ := vy.leafI
  rcases h.1 with c | c
  ·exact .inl ⟨_, _, rfl, rfl, c, k _ _ _ (.flat rfl) h.2⟩
  ·exact .inr (.inl ⟨_, _, rfl, rfl, c, k _ _ _ (.flat rfl) h.2⟩)
 ·obtain ⟨rfl, _⟩ := vx.leafI
  obtain ⟨rfl, _⟩ := vy.leafI
  exact .inr (.inr ⟨_, _, rfl, rfl, h.1.1, h.1.2.1, h.1.2.2, k _ _ _ (.flat rfl) h.2⟩)
 ·exact False.elim h⟩
abbrev pMod : P2 := pI2 (fun _ j => 0 < j) fun i j => .int (i % j)
theorem pu_mod : PuOp X (binaryOp .Mod) pMod := (pu_i2 op_mod fun _ _ => rfl).op
abbrev pShr : P2 := pI2 (fun _ j => 0 <= j) fun i j => .int (i / 2 ^ j.toNat)
theorem pu_shr : PuOp X (binaryOp .RShift) pShr := (pu_i2 op_shr fun _ _ => rfl).op
abbrev pBand : P2 := pI20 fun i j => .int (Builtin.bitAnd i j)
theorem pu_band : PuOp X (binaryOp .BitAnd) pBand := (pu_i20 op_and fun _ _ => rfl).op
def pLt : P2
 | .leaf (.int i), .leaf (.int j), Q => Q (bT (decide (i < j)))
 | .leaf (.str x), .leaf (.str y), Q => Q (bT (decide (x.cps.toList < y.cps.toList)))
 | _, _, _ => False
theorem pu_lt : PuCmp X (compareOp .Lt) pLt := ⟨_, op_lt.or op_lt_str, fun x y T U H Q QQ vx vy h k => by
 unfold pLt at h
 split at h
 ·obtain ⟨rfl, _⟩ := vx.leafI
  obtain ⟨rfl, _⟩ := vy.leafI
  exact .inl ⟨_, _, rfl, rfl, k _ _ _ (Same.refl _) (.flat rfl) h⟩
 ·obtain ⟨rfl, _⟩ := vx.leafI
  obtain ⟨rfl, _⟩ := vy.leafI
  exact .inr ⟨_, _, rfl, rfl, k _ _ _ (Same.refl _) (.flat rfl) h⟩
 ·exact False.elim h⟩
abbrev pLe : P2 := pI20 fun i j => .bl (decide (i <= j))
theorem pu_le : PuCmp X (compareOp .LtE) pLe := pu_i20 op_le fun _ _ => rfl
theorem vp_inj {pins : List (Addr × Obj)} {σ : St} {H : Hp} {s : Shared} (I : Inv X pins σ H s) : ∀ {n : Nat} {x : V} {T U : Tv}, EqD n T -> EqD n U -> VP X.K H n x T -> VP X.K H n x U -> T = U
 | 0, _, _, _, h, _, _, _ => False.elim h
 | n + 1, x, T, U, d, d', h, h' => by
  rcases h with ⟨f, rfl⟩ | ⟨t, a, xs, Ts, rfl, e2, rfl, z, p⟩ | ⟨a, kvs, kts, rfl, e2, rfl, _⟩
  ·rcases h' with ⟨_, rfl⟩ | ⟨t', a', xs', Ts', rfl, _⟩ | ⟨a', kvs', kts', rfl, _⟩
   ·rfl
   ·cases f
   ·cases f
  ·rcases h' with ⟨f, rfl⟩ | ⟨t', a', xs', Ts', e1', e2', rfl, z', p'⟩ | ⟨a', kvs', kts', e1', e2', rfl, _⟩
   ·cases f
   ·cases e1'
    have tt : t = t' := by
     cases t <;> cases t' <;> first | rfl | skip
     ·obtain ⟨_, _, l1⟩ := PSeq.isList I e2
      obtain ⟨_, _, l2⟩ := PSeq.isTup I e2'
      exact absurd rfl (SeqAt.ne_of_list_tuple l1 l2)
     ·obtain ⟨_, _, l1⟩ := PSeq.isList I e2'
      obtain ⟨_, _, l2⟩ := PSeq.isTup I e2
      exact absurd rfl (SeqAt.ne_of_list_tuple l1 l2)
    subst tt
    have ex : xs = xs' := by
     cases t with
     | false => exact I.list_inj (seq_of e2) (seq_of e2')
     | true => exact I.tuple_inj e2 e2'
    subst ex
    have g : ∀ U ∈ Ts, EqD n U := d
    have g' : ∀ U ∈ Ts', EqD n U := d'
    have key : ∀ {xs : List V} {Ts Ts' : List Tv}, Paired (VP X.K H n) xs Ts -> Paired (VP X.K H n) xs Ts' -> (∀ U ∈ Ts, EqD n U) -> (∀ U ∈ Ts', EqD n U) -> Ts = Ts' := by
     intro xs Ts Ts' p
     induction p generalizing Ts' with
     | nil => intro p' _ _; cases p'; rfl
     | cons r _ ih =>
      intro p' d d'
      cases p' with
      | cons r' t' => rw [vp_inj I (d _ (.head _)) (d' _ (.head _)) r r', ih t' (fun U hU => d U (.tail _ hU)) (fun U hU => d' U (.tail _ hU))]
    rw [key p p' g g']
   ·exact False.elim d'
  ·exact False.elim d
def InOk (T : Tv) (Us : List Tv) : Prop := EqD 40 T /\ ∀ U ∈ Us, EqD 40 U
open Classical in
theorem in_items {pins : List (Addr × Obj)} {σ : St} {H : Hp} {s : Shared} (I : Inv X pins σ H s) (hu : X.A.units + 64 < cLine) {x : V} {T : Tv} {v : Value} {ys : List V} {Us : List Tv} {its : List Value} (vx : VA X.K H x T) (rx : RelV x v) (p : VAs X.K H ys Us) (r : Vals ys its) (ok : InOk T Us) :
  ∃ e : Value -> Bool, (∀ y, y ∈ its.toArray -> SeqAt.EqAt X.A.in1 s y v (e y)) /\ its.toArray.any e = Us.any fun U => eqT U T := by
 obtain ⟨dx, vx⟩ := vx
 have hx := ok.1.vp vx
 refine ⟨fun w => decide (∃ y U, RelV y w /\ VP X.K H 40 y U /\ EqD 40 U /\ eqT U T = true), fun w hw => ?_, ?_⟩
 ·have hw : w ∈ its := by simpa using hw
  obtain ⟨j, hj, rfl⟩ := List.mem_iff_getElem.mp hw
  have hj' : j < ys.length := by rw [r.length]; exact hj
  obtain ⟨u, eu, ru⟩ := r.get (List.getElem?_eq_getElem hj')
  rw [List.getElem?_eq_getElem hj] at eu
  cases eu
  obtain ⟨U, eU, d, vU⟩ := paired_get p (List.getElem?_eq_getElem hj')
  have dU := ok.2 U (List.mem_of_getElem? eU)
  have e := eq_tree I 40 (A := X.A.in1) (by show X.A.units + 1 + 40 < _; omega) dU ok.1 (dU.vp vU) hx ru rx
  have ee : decide (∃ y U, RelV y its[j] /\ VP X.K H 40 y U /\ EqD 40 U /\ eqT U T = true) = eqT U T := by
   rw [Bool.eq_iff_iff, decide_eq_true_iff]
   constructor
   ·rintro ⟨y, U', ry, vy, dy, z⟩
    have := RelV.inj ry ru
    subst this
    rw [vp_inj I dU dy (dU.vp vU) vy]
    exact z
   ·intro z
    exact ⟨_, U, ru, dU.vp vU, dU, z⟩
  show SeqAt.EqAt X.A.in1 s its[j] v (decide (∃ y U, RelV y its[j] /\ VP X.K H 40 y U /\ EqD 40 U /\ eqT U T = true))
  rw [ee]
  exact e
 ·rw [Bool.eq_iff_iff, Array.any_eq_true', List.any_eq_true]
  constructor
  ·rintro ⟨w, hw, z⟩
   rw [decide_eq_true_iff] at z
   obtain ⟨y, U', ry, vy, dy, z⟩ := z
   have hw : w ∈ its := by simpa using hw
   obtain ⟨j, hj, rfl⟩ := List.mem_iff_getElem.mp hw
   have hj' : j < ys.length := by rw [r.length]; exact hj
   obtain ⟨u, eu, ru⟩ := r.get (List.getElem?_eq_getElem hj')
   rw [List.getElem?_eq_getElem hj] at eu
   cases eu
   obtain ⟨U, eU, d, vU⟩ := paired_get p (List.getElem?_eq_getElem hj')
   have dU := ok.2 U (List.mem_of_getElem? eU)
   have := RelV.inj ry ru
   subst this
   refine ⟨U, List.mem_of_getElem? eU, ?_⟩
   rw [vp_inj I dU dy (dU.vp vU) vy]
   exact z
  ·rintro ⟨U, hU, z⟩
   obtain ⟨j, hj, rfl⟩ := List.mem_iff_getElem.mp hU
   obtain ⟨y, ey, d, vy⟩ := paired_getR p (List.getElem?_eq_getElem hj)
   obtain ⟨u, eu, ru⟩ := r.get ey
   have dU := ok.2 _ hU
   exact ⟨u, by simpa using List.mem_of_getElem? eu, decide_eq_true ⟨y, _, ru, dU.vp vy, dU, z⟩⟩
def rInP (K : PySem.W.Frag) (neg : Bool) : R2 := fun x y H Q => ∃ T t Us, VA K H x T /\ VA K H y (.seq t Us) /\ InOk T Us /\ Q (.bl (neg != Us.any fun U => eqT U T)) H
theorem op_inP (hu : X.A.units + 64 < cLine) : OpR X (compareOp .In) (rInP X.K false) := by
 rintro pins s σ H x y v u Q I rx ry ⟨T, t, Us, vx, vy, ok, q⟩
 obtain ⟨a, ys, rfl, hs, z, p⟩ := vy.seqI
 cases ry
 cases t with
 | false =>
  obtain ⟨its, r, l⟩ := PSeq.isList I hs
  obtain ⟨e, h1, h2⟩ := in_items I hu vx rx p r ok
  exact SeqAt.in_listAt e l h1 ⟨.bl _, H, I, rfl, by rw [h2]; simpa using q⟩
 | true =>
  obtain ⟨its, r, l⟩ := PSeq.isTup I hs
  obtain ⟨e, h1, h2⟩ := in_items I hu vx rx p r ok
  exact SeqAt.in_tupleAt e l h1 ⟨.bl _, H, I, rfl, by rw [h2]; simpa using q⟩
theorem op_notInP (hu : X.A.units + 64 < cLine) : OpR X (compareOp .NotIn) (rInP X.K true) := by
 rintro pins s σ H x y v u Q I rx ry ⟨T, t, Us, vx, vy, ok, q⟩
 obtain ⟨a, ys, rfl, hs, z, p⟩ := vy.seqI
 cases ry
 cases t with
 | false =>
  obtain ⟨its, r, l⟩ := PSeq.isList I hs
  obtain ⟨e, h1, h2⟩ := in_items I hu vx rx p r ok
  exact SeqAt.notIn_listAt e l h1 ⟨.bl _, H, I, rfl, by rw [h2]; simpa using q⟩
 | true =>
  obtain ⟨its, r, l⟩ := PSeq.isTup I hs
  obtain ⟨e, h1, h2⟩ := in_items I hu vx rx p r ok
  exact SeqAt.notIn_tupleAt e l h1 ⟨.bl _, H, I, rfl, by rw [h2]; simpa using q⟩
def rNotInD : R2 := fun y x H Q => ∃ a o, x = .ref a /\ DGet H a y o /\ Q (.bl (!o.isSome)) H
theorem op_notin_dict (hu : X.A.units + 1 < cLine) : OpR X (compareOp .NotIn) rNotInD := by
 rintro pins s σ H y _ u v Q I ry rx ⟨a, o, rfl, g, q⟩
 cases rx
 exact d_notIn hu I g ry fun s' I' => ⟨.bl _, H, I', rfl, q⟩
def inS (i j : Str) : Bool := !(Builtin.Str.occurrences j i 0 j.length 1).isEmpty
def pInB (neg : Bool) : P2
 | T, .seq _ Us, Q => InOk T Us /\ Q (bT (neg != Us.any fun U => eqT U T))
 | .leaf (.str i), .leaf (.str j), Q => Q (bT (neg != inS i j))
 | .leaf (.str k), .dct kts, Q => Q (bT (neg != (lookD kts k).isSome))
 | _, _, _ => False
abbrev pIn : P2 := pInB false
abbrev pNotIn : P2 := pInB true
theorem pu_in (hu : X.A.units + 64 < cLine) : PuCmp X (compareOp .In) pIn := ⟨_, (op_inP hu).or (op_in_str.or (op_in_dict (by omega))), fun x y T U H Q QQ vx vy h k => by
 unfold pIn pInB at h
 split at h
 ·exact .inl ⟨_, _, _, vx, vy, h.1, k _ _ _ (Same.refl _) (.flat rfl) h.2⟩
 ·obtain ⟨rfl, _⟩ := vx.leafI
  obtain ⟨rfl, _⟩ := vy.leafI
  exact .inr (.inl ⟨_, _, rfl, rfl, k _ _ _ (Same.refl _) (.flat rfl) (by simpa [inS] using h)⟩)
 ·rename_i kk kts
  obtain ⟨rfl, _⟩ := vx.leafI
  obtain ⟨a, kvs, rfl, ⟨ob, hd⟩, n, z, p⟩ := vy.dctI
  refine .inr (.inr ⟨a, _, rfl, .inl ⟨kvs, .inr kk, .inr ⟨ob, hd⟩, rfl, rfl⟩, k _ _ _ (Same.refl _) (.flat rfl) ?_⟩)
  rcases look_at p kk with ⟨e1, e2⟩ | ⟨U, v, e1, e2, _⟩
  ·rw [e2]; rw [e1] at h; exact h
  ·rw [e2]; rw [e1] at h; exact h
 ·exact False.elim h⟩
theorem pu_notin (hu : X.A.units + 64 < cLine) : PuCmp X (compareOp .NotIn) pNotIn := ⟨_, (op_notInP hu).or (op_notIn_str.or (op_notin_dict (by omega))), fun x y T U H Q QQ vx vy h k => by
 unfold pNotIn pInB at h
 split at h
 ·exact .inl ⟨_, _, _, vx, vy, h.1, k _ _ _ (Same.refl _) (.flat rfl) h.2⟩
 ·obtain ⟨rfl, _⟩ := vx.leafI
  obtain ⟨rfl, _⟩ := vy.leafI
  exact .inr (.inl ⟨_, _, rfl, rfl, k _ _ _ (Same.refl _) (.flat rfl) (by simpa [inS] using h)⟩)
 ·rename_i kk kts
  obtain ⟨rfl, _⟩ := vx.leafI
  obtain ⟨a, kvs, rfl, ⟨ob, hd⟩, n, z, p⟩ := vy.dctI
  refine .inr (.inr ⟨a, _, rfl, .inl ⟨kvs, .inr kk, .inr ⟨ob, hd⟩, rfl, rfl⟩, k _ _ _ (Same.refl _) (.flat rfl) ?_⟩)
  rcases look_at p kk with ⟨e1, e2⟩ | ⟨U, v, e1, e2, _⟩
  ·rw [e2]; rw [e1] at h; exact h
  ·rw [e2]; rw [e1] at h; exact h
 ·exact False.elim h⟩
def pIx : P2
 | .seq _ Ts, .leaf (.int i), Q => ∃ U, atI Ts i = some U /\ Q U
 | .leaf (.str z), .leaf (.int i), Q => z.length <= 100000 /\ ∃ c, atI z.cps.toList i = some c /\ Q (sT ⟨#[c]⟩)
 | .dct kts, .leaf (.str k), Q => ∃ U, lookD kts k = some U /\ Q U
 | _, _, _ => False
theorem atI_paired {α β : Type} {R : α -> β -> Prop} {xs : List α} {ys : List β} {i : Int} {y : β} (p : Paired R xs ys) (h : atI ys i = some y) : ∃ x, atI xs i = some x /\ R x y := by
 unfold atI at h ⊢
 rw [Paired.length p]
 cases e : ixN ys.length i with
 | none => rw [e] at h; cases h
 | some j =>
  rw [e] at h
  obtain ⟨x, ex, r⟩ := paired_getR p (show ys[j]? = some y from h)
  exact ⟨x, ex, r⟩
theorem pu_ix (hu : X.A.units + 64 < cLine) : PuIx X pIx := ⟨_, ix_seq.or (ix_dict (by omega)), fun x y T U H Q QQ vx vy h k => by
 unfold pIx at h
 split at h
 ·rename_i t Ts i
  obtain ⟨rfl, _⟩ := vy.leafI
  obtain ⟨a, xs, rfl, hs, z, p⟩ := vx.seqI
  obtain ⟨U, e, q⟩ := h
  obtain ⟨x, ex, v⟩ := atI_paired p e
  cases t with
  | false => exact .inl (.inl ⟨a, xs, i, x, rfl, rfl, seq_of hs, ex, k _ _ _ (.va v) q⟩)
  | true => exact .inl (.inr (.inl ⟨a, xs, i, x, rfl, rfl, hs, ex, k _ _ _ (.va v) q⟩))
 ·obtain ⟨rfl, _⟩ := vx.leafI
  obtain ⟨rfl, _⟩ := vy.leafI
  obtain ⟨l, c, e, q⟩ := h
  exact .inl (.inr (.inr ⟨_, _, c, rfl, rfl, line_of l, e, k _ _ _ (.flat rfl) q⟩))
 ·rename_i kts kk
  obtain ⟨rfl, _⟩ := vy.leafI
  obtain ⟨a, kvs, rfl, ⟨ob, hd⟩, n, z, p⟩ := vx.dctI
  obtain ⟨U, e, q⟩ := h
  rcases look_at p kk with ⟨e1, e2⟩ | ⟨U', v, e1, e2, vv⟩
  ·rw [e1] at e; cases e
  ·rw [e1] at e; cases e
   exact .inr ⟨a, v, rfl, .inl ⟨kvs, .inr kk, .inr ⟨ob, hd⟩, rfl, e2.symm⟩, k _ _ _ (.va vv) q⟩
 ·exact False.elim h⟩
def cutT {α : Type} (xs : List α) (lo hi : Option Int) : List α := (xs.drop (HT.sIx xs.length 0 lo)).take (HT.sIx xs.length xs.length hi - HT.sIx xs.length 0 lo)
theorem paired_drop {α β : Type} {R : α -> β -> Prop} : ∀ {l : List α} {m : List β} (n : Nat), Paired R l m -> Paired R (l.drop n) (m.drop n)
 | _, _, 0, p => p
 | _, _, _ + 1, .nil => .nil
 | _, _, n + 1, .cons _ t => paired_drop n t
theorem paired_tk {α β : Type} {R : α -> β -> Prop} : ∀ {l : List α} {m : List β} (n : Nat), Paired R l m -> Paired R (l.take n) (m.take n)
 | _, _, 0, p => by rw [List.take_zero, List.take_zero]; exact .nil
 | _, _, _ + 1, .nil => .nil
 | _, _, n + 1, .cons r t => .cons r (paired_tk n t)
theorem paired_cut {α β : Type} {R : α -> β -> Prop} {l : List α} {m : List β} (lo hi : Option Int) (p : Paired R l m) : Paired R (cutT l lo hi) (cutT m lo hi) := by
 unfold cutT
 rw [Paired.length p]
 exact paired_tk _ (paired_drop _ p)
theorem cutT_len {α : Type} (xs : List α) (lo hi : Option Int) : (cutT xs lo hi).length <= xs.length := by
 unfold cutT
 rw [List.length_take, List.length_drop]
 omega
def pSlc : PSl
 | .seq t Ts, lo, hi, Q => Q (.seq t (cutT Ts lo hi))
 | .leaf (.str z), lo, hi, Q => z.length <= 100000 /\ Q (sT (Txt.slice z lo hi))
 | _, _, _, _ => False
theorem pu_sl : PuSl X pSlc := ⟨_, sl_list.or (sl_tupW.or sl_str), fun x T lo hi H Q QQ vx h k => by
 cases T with
 | seq t Ts =>
  have h : Q (.seq t (cutT Ts lo hi)) := h
  obtain ⟨a, xs, rfl, hs, z, p⟩ := vx.seqI
  have z' : (cutT Ts lo hi).length <= 100000 := Nat.le_trans (cutT_len _ _ _) z
  cases t with
  | false => exact .inl ⟨a, xs, rfl, seq_of hs, fun r n => k _ _ _ (Raw.lst n z' (paired_cut lo hi p)) h⟩
  | true => exact .inr (.inl ⟨a, xs, rfl, hs, fun r H' sm hr => k _ _ _ ⟨sm, .inl (VA.seq (t := true) hr z' (Paired.mapP (paired_cut lo hi p) fun _ _ q => VA.hs sm.hs q))⟩ h⟩)
 | leaf w =>
  cases w with
  | str zz =>
   have h : zz.length <= 100000 /\ Q (sT (Txt.slice zz lo hi)) := h
   obtain ⟨rfl, _⟩ := vx.leafI
   exact .inr (.inr ⟨_, rfl, line_of h.1, k _ _ _ (.flat rfl) h.2⟩)
  | _ => exact False.elim h
 | dct kts => exact False.elim h⟩
def pLen : Pn
 | [.seq _ Ts], Q => Q (iT Ts.length)
 | [.leaf (.str z)], Q => z.length <= 100000 /\ Q (iT z.length)
 | [.dct kts], Q => Q (iT kts.length)
 | _, _ => False
theorem pu_len : PuCall X (.builtin "len") pLen := ⟨_, call_len_seq.or (call_len_str.or call_lenDK), fun xs Ts H Q QQ vx h k => by
 unfold pLen at h
 split at h
 ·rename_i t Ts
  obtain ⟨x, rfl, v⟩ := vas1 vx
  obtain ⟨a, xs, rfl, hs, z, p⟩ := v.seqI
  have l : xs.length = _ := Paired.length p
  refine .inl ⟨a, xs, rfl, ?_, k _ _ _ (.flat rfl) (by rw [l]; exact h)⟩
  cases t with
  | false => exact .inl (seq_of hs)
  | true => exact .inr hs
 ·obtain ⟨x, rfl, v⟩ := vas1 vx
  obtain ⟨rfl, _⟩ := v.leafI
  exact .inr (.inl ⟨_, rfl, line_of h.1, k _ _ _ (.flat rfl) h.2⟩)
 ·obtain ⟨x, rfl, v⟩ := vas1 vx
  obtain ⟨a, kvs, rfl, ⟨ob, hd⟩, n, z, p⟩ := v.dctI
  have l : kvs.length = _ := Paired.length p
  exact .inr (.inr ⟨a, kvs, rfl, .inr ⟨ob, hd⟩, k _ _ _ (.flat rfl) (by rw [l]; exact h)⟩)
 ·exact False.elim h⟩
def isiT (T : String) : Tv -> Bool
 | .leaf .non => false
 | .leaf (.bl _) => T == "bool" || T == "int"
 | .leaf (.int _) => T == "int"
 | .leaf (.str _) => T == "str"
 | .leaf _ => false
 | .seq false _ => T == "list"
 | .seq true _ => T == "tuple"
 | .dct _ => T == "dict"
theorem vals_bl {K : PySem.W.Frag} {H : Hp} : ∀ {xs : List V} {bs : List Bool}, VAs K H xs (bs.map bT) -> xs = bs.map V.bl
 | [], [], _ => rfl
 | _ :: _, _ :: _, .cons r t => by rw [List.map_cons, <- vals_bl t, (VA.leafI r).1]
theorem vals_int {K : PySem.W.Frag} {H : Hp} : ∀ {xs : List V} {ns : List Int}, VAs K H xs (ns.map iT) -> xs = ns.map V.int
 | [], [], _ => rfl
 | _ :: _, _ :: _, .cons r t => by rw [List.map_cons, <- vals_int t, (VA.leafI r).1]
theorem vals_str {K : PySem.W.Frag} {H : Hp} : ∀ {xs : List V} {ss : List Str}, VAs K H xs (ss.map sT) -> xs = ss.map V.str
 | [], [], _ => rfl
 | _ :: _, _ :: _, .cons r t => by rw [List.map_cons, <- vals_str t, (VA.leafI r).1]
theorem vas_int {K : PySem.W.Frag} {H : Hp} : ∀ (ns : List Int), VAs K H (ns.map V.int) (ns.map iT)
 | [] => .nil
 | _ :: ns => .cons (.flat rfl) (vas_int ns)
theorem vas_str {K : PySem.W.Frag} {H : Hp} : ∀ (ss : List Str), VAs K H (ss.map V.str) (ss.map sT)
 | [] => .nil
 | _ :: ss => .cons (.flat rfl) (vas_str ss)
def pAny : Pn := fun Ts Q => ∃ bs : List Bool, Ts = [.seq false (bs.map bT)] /\ Q (bT (bs.any id))
theorem pu_any (hc : X.calm = true) : PuCall X (.builtin "any") pAny := ⟨_, call_anyL hc, fun xs Ts H Q QQ vx h k => by
 obtain ⟨bs, rfl, q⟩ := h
 obtain ⟨x, rfl, v⟩ := vas1 vx
 obtain ⟨a, ys, rfl, hs, z, p⟩ := v.seqI
 rw [vals_bl p] at hs
 exact ⟨a, bs, rfl, seq_of hs, k _ _ _ (.flat rfl) q⟩⟩
def pMin : Pn := fun Ts Q => (∃ i j : Int, Ts = [iT i, iT j] /\ Q (iT (min i j))) \/ (∃ ns : List Int, Ts = [.seq false (ns.map iT)] /\ 0 < ns.length /\ ∀ M, M ∈ ns -> (∀ a ∈ ns, M <= a) -> Q (iT M)) \/
 ∃ ss : List Str, Ts = [.seq false (ss.map sT)] /\ 0 < ss.length /\ ∀ x, x ∈ ss -> (∀ y ∈ ss, x.cps.toList <= y.cps.toList) -> Q (sT x)
def pMax : Pn := fun Ts Q => (∃ i j : Int, Ts = [iT i, iT j] /\ Q (iT (max i j))) \/ (∃ ns : List Int, Ts = [.seq false (ns.map iT)] /\ 0 < ns.length /\ ∀ M, M ∈ ns -> (∀ a ∈ ns, a <= M) -> Q (iT M)) \/
 ∃ ss : List Str, Ts = [.seq false (ss.map sT)] /\ 0 < ss.length /\ ∀ x, x ∈ ss -> (∀ y ∈ ss, y.cps.toList <= x.cps.toList) -> Q (sT x)
theorem pu_min (hc : X.calm = true) : PuCall X (.builtin "min") pMin := ⟨_, (call_min2 hc).or ((call_min1 hc).or (call_min1S hc)), fun xs Ts H Q QQ vx h k => by
 rcases h with ⟨i, j, rfl, q⟩ | ⟨ns, rfl, l, q⟩ | ⟨ss, rfl, l, q⟩
 ·obtain ⟨x, y, rfl, v, v'⟩ := vas2 vx
  obtain ⟨rfl, _⟩ := v.leafI
  obtain ⟨rfl, _⟩ := v'.leafI
  refine .inl ⟨i, j, rfl, k _ _ _ (.flat rfl) ?_⟩
  have e : (if j < i then j else i) = min i j := by split <;> omega
  rw [e]; exact q
 ·obtain ⟨x, rfl, v⟩ := vas1 vx
  obtain ⟨a, ys, rfl, hs, z, p⟩ := v.seqI
  rw [vals_int p] at hs
  exact .inr (.inl ⟨a, ns, rfl, seq_of hs, l, fun M h1 h2 => k _ _ _ (.flat rfl) (q M h1 h2)⟩)
 ·obtain ⟨x, rfl, v⟩ := vas1 vx
  obtain ⟨a, ys, rfl, hs, z, p⟩ := v.seqI
  rw [vals_str p] at hs
  exact .inr (.inr ⟨a, ss, rfl, seq_of hs, l, fun M h1 h2 => k _ _ _ (.flat rfl) (q M h1 h2)⟩)⟩
theorem pu_max (hc : X.calm = true) : PuCall X (.builtin "max") pMax := ⟨_, (call_max2 hc).or ((call_max1 hc).or (call_max1S hc)), fun xs Ts H Q QQ vx h k => by
 rcases h with ⟨i, j, rfl, q⟩ | ⟨ns, rfl, l, q⟩ | ⟨ss, rfl, l, q⟩
 ·obtain ⟨x, y, rfl, v, v'⟩ := vas2 vx
  obtain ⟨rfl, _⟩ := v.leafI
  obtain ⟨rfl, _⟩ := v'.leafI
  refine .inl ⟨i, j, rfl, k _ _ _ (.flat rfl) ?_⟩
  have e : (if j > i then j else i) = max i j := by split <;> omega
  rw [e]; exact q
 ·obtain ⟨x, rfl, v⟩ := vas1 vx
  obtain ⟨a, ys, rfl, hs, z, p⟩ := v.seqI
  rw [vals_int p] at hs
  exact .inr (.inl ⟨a, ns, rfl, seq_of hs, l, fun M h1 h2 => k _ _ _ (.flat rfl) (q M h1 h2)⟩)
 ·obtain ⟨x, rfl, v⟩ := vas1 vx
  obtain ⟨a, ys, rfl, hs, z, p⟩ := v.seqI
  rw [vals_str p] at hs
  exact .inr (.inr ⟨a, ss, rfl, seq_of hs, l, fun M h1 h2 => k _ _ _ (.flat rfl) (q M h1 h2)⟩)⟩
def pListOf : List Tv -> (List Tv -> Prop) -> Prop := fun Ts Q => ∃ t Us, Ts = [.seq t Us] /\ Q Us
theorem pu_listOf : PuCallL X (.type "list") pListOf := ⟨_, call_list_of, fun xs Ts H Q QQ vx h k => by
 obtain ⟨t, Us, rfl, q⟩ := h
 obtain ⟨x, rfl, v⟩ := vas1 vx
 obtain ⟨a, ys, rfl, hs, z, p⟩ := v.seqI
 refine ⟨a, ys, rfl, ?_, fun l n => k l ys Us _ (same_new n) n upd_same z (VAs.hs (hs_new n) p) q⟩
 cases t with
 | false => exact .inl (seq_of hs)
 | true => exact .inr hs⟩
def pTupOf : Pn := fun Ts Q => ∃ t Us, Ts = [.seq t Us] /\ Q (.seq true Us)
theorem pu_tupOf : PuCall X (.type "tuple") pTupOf := ⟨_, call_tuple_of, fun xs Ts H Q QQ vx h k => by
 obtain ⟨t, Us, rfl, q⟩ := h
 obtain ⟨x, rfl, v⟩ := vas1 vx
 obtain ⟨a, ys, rfl, hs, z, p⟩ := v.seqI
 refine ⟨a, ys, rfl, ?_⟩
 cases t with
 | false => exact .inl ⟨seq_of hs, fun l n => k _ _ _ (Raw.tup n z p) q⟩
 | true => exact .inr ⟨hs, k _ _ _ (.va v) q⟩⟩
def pSorted : List Tv -> (List Tv -> Prop) -> Prop := fun Ts Q => (∃ ns : List Int, Ts = [.seq false (ns.map iT)] /\ ns.length < 64 /\ ∀ ms : List Int, ms.Perm ns -> ms.Pairwise (· <= ·) -> Q (ms.map iT)) \/
 (∃ ss : List Str, Ts = [.seq false (ss.map sT)] /\ ss.length < 64 /\ Q ((sortS ss).map sT)) \/ ∃ kts, Ts = [.dct kts] /\ Q ((sortS (kts.map (·.1))).map sT)
theorem vak_keys {K : PySem.W.Frag} {H : Hp} {kvs : List (Key × V)} {kts : List (Str × Tv)} (p : VAk K H kvs kts) : kvs.map (·.1) = (kts.map (·.1)).map Sum.inr := by
 unfold VAk at p
 induction p with
 | nil => rfl
 | cons r _ ih => rw [List.map_cons, List.map_cons, List.map_cons, ih, r.1]
theorem sortS_len (us : List Str) : (sortS us).length = us.length := (sortS_perm us).length_eq
theorem pu_sorted (hc : X.calm = true) : PuCallL X (.builtin "sorted") pSorted := ⟨_, call_sortedI.or (call_sortedS.or (call_sortedD hc)), fun xs Ts H Q QQ vx h k => by
 rcases h with ⟨ns, rfl, l, q⟩ | ⟨ss, rfl, l, q⟩ | ⟨kts, rfl, q⟩
 ·obtain ⟨x, rfl, v⟩ := vas1 vx
  obtain ⟨a, ys, rfl, hs, z, p⟩ := v.seqI
  rw [vals_int p] at hs
  refine .inl ⟨a, ns, rfl, seq_of hs, l, fun ms b h1 h2 n => k b _ _ _ (same_new n) n upd_same (by rw [List.length_map, h1.length_eq]; omega) (vas_int ms) (q ms h1 h2)⟩
 ·obtain ⟨x, rfl, v⟩ := vas1 vx
  obtain ⟨a, ys, rfl, hs, z, p⟩ := v.seqI
  rw [vals_str p] at hs
  refine .inr (.inl ⟨a, ss, rfl, seq_of hs, l, fun ms b h1 h2 n => k b _ _ _ (same_new n) n upd_same (by rw [List.length_map, h1.length_eq]; omega) (vas_str ms) (by rw [sortS_eq h1 h2]; exact q)⟩)
 ·obtain ⟨x, rfl, v⟩ := vas1 vx
  obtain ⟨a, kvs, rfl, ⟨ob, hd⟩, nd, z, p⟩ := v.dctI
  refine .inr (.inr ⟨a, ob, kvs, kts.map (·.1), rfl, hd, vak_keys p, by rw [List.length_map]; exact z, fun ms b h1 h2 n => k b _ _ _ (same_new n) n upd_same (by rw [List.length_map, h1.length_eq, List.length_map]; omega) (vas_str ms) (by rw [sortS_eq h1 h2]; exact q)⟩)⟩
def uBM (T : String) (r : Tv -> List Tv -> (Tv -> Prop) -> Prop) (u : UT) (ua : UTa) : UT := fun ρ Q => u ρ fun W ρ1 => isiT T W = true /\ uVs ua ρ1 fun Ts ρ2 => r W Ts fun W' => Q W' ρ2
theorem tyV_str {K : PySem.W.Frag} {H : Hp} {x : V} {W : Tv} (v : VA K H x W) (h : isiT "str" W = true) : tyV K "str" x H := by
 cases W with
 | leaf w =>
  obtain ⟨rfl, f⟩ := v.leafI
  rcases flat_cases f with rfl | ⟨b, rfl⟩ | ⟨b, rfl⟩ | ⟨b, rfl⟩
  ·cases h
  ·cases h
  ·cases h
  ·rfl
 | seq t Ts => cases t <;> cases h
 | dct kts => cases h
theorem ue_bmS {name : Str} {id : String} {r : Tv -> List Tv -> (Tv -> Prop) -> Prop} {o e : Expr} {es : List Expr} {u : UT} {ua : UTa} {apos cpos : Pos} (slot : Slot "str" name id) (hty : typeOf (.builtin id) = pure (.type "method_descriptor"))
  (hm : ∃ r', MtR X id r' /\ ∀ x W xs Ts H Q (QQ : VK), VA X.K H x W -> VAs X.K H xs Ts -> r W Ts Q -> (∀ z W H', Raw X.K H H' z W -> Q W -> QQ z H') -> r' x xs H QQ) (ho : UE X F o u) (ha : UA X F (e :: es) ua)
  (hbase : attributeBase o name X.env (eval o X.env) = eval o X.env := by rfl)
  (hfew : ((backTo cpos (starEach (e :: es) X.env)).all (fun x => !x.1) && (backToKw cpos (keywordEach [] X.env)).all (fun x => x.1.isSome) && decide ((e :: es).length + ([] : List Keyword).length + (if ([] : List Keyword).isEmpty then 0 else 1) < 30)) = true := by rfl)
  (hline : (apos.endLine == cpos.line) = true := by rfl) (hs : starEach (e :: es) X.env = (false, eval e X.env) :: starEach es X.env := by rfl) (hplain : (backTo cpos (starEach es X.env)).any (·.1) = false := by rfl) :
  UE X F (.Call (.Attribute o name apos) (e :: es) [] cpos) (uBM "str" r u ua) := by
 obtain ⟨r', m, hr⟩ := hm
 refine ⟨PE.imp (PE.fz (pe_bm PySem.F.plainAttrs_str slot hty m ho.pe ha.pa hbase hfew hline hs hplain)) fun σ H QQ ⟨ρ, Q, f, h, k⟩ => ⟨ρ, _, f, h, fun x W H1 ρ1 s1 v1 q1 => ⟨tyV_str v1 q1.1, ρ1, _, s1.fr, q1.2, fun xs as H2 ρ2 s2 p2 q2 => ?_⟩⟩⟩
 obtain ⟨Ts, rfl, q⟩ := vsK_ex q2
 exact hr x W xs Ts H2 _ _ (v1.hs (s2.hs s1.fr)) (vas_of p2) q fun z W' H' rw q => rw.fin s2.fr fun H'' s4 v4 => k _ _ _ _ ((s1.trans s2).trans s4) v4 q
def pStarts : Tv -> List Tv -> (Tv -> Prop) -> Prop := fun W Ts Q => ∃ i j : Str, W = sT i /\ Ts = [sT j] /\ Q (bT (decide (0 + j.length <= i.length) && Builtin.Str.subAt i j 0))
theorem pm_starts : ∃ r', MtR X "str.startswith" r' /\ ∀ x W xs Ts H Q (QQ : VK), VA X.K H x W -> VAs X.K H xs Ts -> pStarts W Ts Q -> (∀ z W H', Raw X.K H H' z W -> Q W -> QQ z H') -> r' x xs H QQ := ⟨_, mt_startswith, fun x W xs Ts H Q QQ v p h k => by
 obtain ⟨i, j, rfl, rfl, q⟩ := h
 obtain ⟨rfl, _⟩ := v.leafI
 obtain ⟨y, rfl, v'⟩ := vas1 p
 obtain ⟨rfl, _⟩ := v'.leafI
 exact ⟨i, j, rfl, rfl, k _ _ _ (.flat rfl) q⟩⟩
def pFind : Tv -> List Tv -> (Tv -> Prop) -> Prop := fun W Ts Q => ∃ i j : Str, W = sT i /\ Ts = [sT j] /\ ∀ n : Int, Q (iT n)
theorem pm_find : ∃ r', MtR X "str.find" r' /\ ∀ x W xs Ts H Q (QQ : VK), VA X.K H x W -> VAs X.K H xs Ts -> pFind W Ts Q -> (∀ z W H', Raw X.K H H' z W -> Q W -> QQ z H') -> r' x xs H QQ := ⟨_, mt_find, fun x W xs Ts H Q QQ v p h k => by
 obtain ⟨i, j, rfl, rfl, q⟩ := h
 obtain ⟨rfl, _⟩ := v.leafI
 obtain ⟨y, rfl, v'⟩ := vas1 p
 obtain ⟨rfl, _⟩ := v'.leafI
 exact ⟨i, j, rfl, rfl, fun n => k _ _ _ (.flat rfl) (q n)⟩⟩
def pJoin : Tv -> List Tv -> (Tv -> Prop) -> Prop := fun W Ts Q => ∃ ss : List Str, W = sT ⟨#[]⟩ /\ Ts = [.seq false (ss.map sT)] /\ (catS ss).length <= 100000 /\ Q (sT ⟨(catS ss).toArray⟩)
theorem pm_join : ∃ r', MtR X "str.join" r' /\ ∀ x W xs Ts H Q (QQ : VK), VA X.K H x W -> VAs X.K H xs Ts -> pJoin W Ts Q -> (∀ z W H', Raw X.K H H' z W -> Q W -> QQ z H') -> r' x xs H QQ := ⟨_, mt_join, fun x W xs Ts H Q QQ v p h k => by
 obtain ⟨ss, rfl, rfl, l, q⟩ := h
 obtain ⟨rfl, _⟩ := v.leafI
 obtain ⟨y, rfl, v'⟩ := vas1 p
 obtain ⟨a, ys, rfl, hs, z, p'⟩ := v'.seqI
 rw [vals_str p'] at hs
 refine ⟨a, ss, rfl, rfl, seq_of hs, l, fun z e => k _ _ _ (.flat rfl) ?_⟩
 have : z = ⟨(catS ss).toArray⟩ := by
  cases z with
  | mk c => congr 1; have e : c.toList = catS ss := e; rw [<- e]
 rw [this]; exact q⟩
end
end L2
namespace L2
open PySem PySem.Spec PyProof.Rows WordM
section
variable {X : Cx} {F : Fm} {pos : Pos}
def GlobT (K : PySem.W.Frag) (mg : Str -> Option Value) (x : Str) (T : Tv) : Prop := ∃ v u, mg x = some u /\ RelV v u /\ ∀ H, VA K H v T
theorem ue_gl {x : Str} {T : Tv} (G : GlobT X.K X.mg x T) (hg : Gl X x) (hd : (x == ("__debug__" : Str)) = false := by decide) : UE X F (.Name x pos) (uC T) := by
 obtain ⟨v, u, m, r, h⟩ := G
 exact ue_glob hg m r h hd
def GlobD (K : PySem.W.Frag) (prm : Params) (mg : Str -> Option Value) (x : Str) (kvs : List (Str × Str)) : Prop := ∃ d, mg x = some (.ref d) /\ KDict K prm d kvs
def uKD (kvs : List (Str × Str)) (u : UT) : UT := fun ρ Q => u ρ fun T ρ1 => ∃ i j, T = sT i /\ getS kvs i = some j /\ Q (sT j) ρ1
theorem ue_kd {x : Str} {p : Pos} {e : Expr} {u : UT} {kvs : List (Str × Str)} (G : GlobD X.K X.w.params X.mg x kvs) (hg : Gl X x) (he : UE X F e u) (hs : PlainIx e := by intro _ _; rfl) (hd : (x == ("__debug__" : Str)) = false := by decide) : UE X F (.Subscript (.Name x p) e pos) (uKD kvs u) := by
 obtain ⟨d, m, D⟩ := G
 refine ⟨PE.imp (pe_ix (ix_kd D) (pe_glob (v := .ref d) hg m rfl hd) he.pe hs) fun σ H QQ ⟨ρ, Q, f, h, k⟩ => ⟨ρ, _, f, h, fun y T H1 ρ1 s1 v1 q1 => ?_⟩⟩
 obtain ⟨i, j, rfl, ej, q⟩ := q1
 obtain ⟨rfl, _⟩ := v1.leafI
 exact ⟨i, j, rfl, rfl, ej, k _ _ _ _ s1 (.flat rfl) q⟩
def uSortSet (u : UT) : UTl := fun ρ Q => u ρ fun T ρ1 => ∃ ss : List Str, T = .seq false (ss.map sT) /\ ss.length < 4000 /\ (setL ss).length < 64 /\ Q ((sortS (setL ss)).map sT) ρ1
theorem ul_sortSet {e : Expr} {u : UT} {p p' pos' : Pos} (hc : X.calm = true) (hg : Gl X "sorted") (hm : X.mg "sorted" = none) (hg' : Gl X "set") (hm' : X.mg "set" = none) (he : UE X F e u) (hst : isStar e = false := by rfl)
  (hpl : (backTo pos (starEach [] X.env)).any (·.1) = false := by rfl) (hpl' : (backTo pos' (starEach [] X.env)).any (·.1) = false := by rfl) :
  UL X F (.Call (.Name "sorted" p) [.Call (.Name "set" p') [e] [] pos'] [] pos) (uSortSet u) := ⟨PE.imp (pe_callB (call_sortedU hc) hg hm boot_sorted (pa_c (pe_callTy (call_setS hc) hg' hm' L2.boot_set (pa_c he.pe pa_nil hst) (by decide) (by decide) (star_cons hst) hpl') pa_nil rfl) (by decide) (by decide) rfl hpl) fun σ H QQ ⟨ρ, Q, f, h, k⟩ => by
 refine ⟨ρ, _, f, h, fun x T H1 ρ1 s1 v1 q1 => ?_⟩
 obtain ⟨ss, rfl, l1, l2, q⟩ := q1
 obtain ⟨a, ys, rfl, hs, z, p⟩ := v1.seqI
 rw [vals_str p] at hs
 refine ⟨a, ss, rfl, seq_of hs, l1, fun b nb => ⟨b, setL ss, rfl, upd_same, l2, fun ms c h1 h2 nc => ?_⟩⟩
 have sm := (same_new (o := setH X.prog X.w b (setL ss)) nb).trans (same_new (o := .lst (ms.map V.str)) nc)
 refine k _ _ _ _ _ (s1.trans (Stp.same s1.fr sm)) (s1.non ((same_new nb).free nc)) upd_same (by rw [List.length_map, h1.length_eq]; omega) (vas_str ms) ?_
 rw [sortS_eq h1 h2]
 exact q⟩
end
def compS (own : Nat) (fr : List Nat) (g : UG) (tf : UTt) (ue : UT) (T : Tv) (ρ : PEnv) (R : Option Tv -> PEnv -> Prop) : Prop := g T (blk own fr ρ) fun ρ1 => tf ρ1 fun b ρ2 => if b = true then ue ρ2 fun U ρ3 => R (some U) (bck own fr ρ ρ3) else R none (bck own fr ρ ρ2)
section
variable {own : Nat} {fr : List Nat} {g : UG} {tf : UTt} {ue : UT}
def compK (own : Nat) (fr : List Nat) (g : UG) (tf : UTt) (ue : UT) (Ts : List Tv) (Q : List Tv -> PEnv -> Prop) (o : Option Tv) (ρ : PEnv) : Prop := match o with
 | some U => compT own fr g tf ue Ts ρ fun Us ρ4 => Q (U :: Us) ρ4
 | none => compT own fr g tf ue Ts ρ Q
theorem compT_cons (T : Tv) (Ts : List Tv) (ρ : PEnv) (Q : List Tv -> PEnv -> Prop) : compT own fr g tf ue (T :: Ts) ρ Q = compS own fr g tf ue T ρ (compK own fr g tf ue Ts Q) := rfl
theorem forT_inv {g : UG} {ub : UTs} {Ts : List Tv} {P : PEnds} {ρ : PEnv} (J : Nat -> PEnv -> Prop) (h0 : J 0 ρ) (hs : ∀ i T ρ' (N : PEnv -> Prop), Ts[i]? = some T -> J i ρ' -> (∀ ρ'', J (i + 1) ρ'' -> N ρ'') -> g T ρ' fun ρ1 => ub { P with nx := N, ct := N, bk := P.nx } ρ1)
  (hd : ∀ ρ', J Ts.length ρ' -> P.nx ρ') : forT g ub Ts P ρ := by
 have key : ∀ (n i : Nat) (ρ : PEnv), n + i = Ts.length -> J i ρ -> forT g ub (Ts.drop i) P ρ := by
  intro n
  induction n with
  | zero =>
   intro i ρ e j
   have : i = Ts.length := by omega
   subst this
   rw [List.drop_length]
   exact hd ρ j
  | succ n ih =>
   intro i ρ e j
   have hi : i < Ts.length := by omega
   rw [List.drop_eq_getElem_cons hi]
   exact hs i _ ρ (fun ρ' => forT g ub (Ts.drop (i + 1)) P ρ') (List.getElem?_eq_getElem hi) j fun ρ'' j' => ih (i + 1) ρ'' (by omega) j'
 exact key Ts.length 0 ρ (by omega) h0
end
end L2
namespace L2
open PySem PySem.Spec PyProof.Rows WordM
def ptTake : PSp := fun as R => ∃ m : Int, as = [.dk, .va (iT m)] /\ 0 < m /\ BigOk m /\ ∀ r : Int, 0 <= r -> r < m -> R (iT r)
theorem On.kp {p c : Addr} {H H' : Hp} (o : On p c H H') : Kp (some (p, c)) none H H' := ⟨fun b u e n _ => o.e b u e (n p c rfl).1 (n p c rfl).2, fun p' c' e => by cases e; exact o.d, fun _ _ z => (nomatch z)⟩
theorem Good.take {P : Program} {w : World} {K : PySem.W.Frag} {mg : Str -> Option Value} {base : Heap} {k : Nat} {x : Str} {ps : List Str} (G : Good P w K mg base k x ps spTake) : PGood P w K mg base k x ps ptTake := Good.imp G fun vs H Q E ⟨dk, as, R, d, p, ⟨m, e, hm, hb, q⟩, kk⟩ => by
 subst e
 cases p with
 | cons r1 t1 =>
  cases t1 with
  | cons r2 t2 =>
   cases t2
   obtain ⟨p, c, ed, rfl⟩ := r1
   subst ed
   obtain ⟨rfl, _⟩ := VA.leafI r2
   exact ⟨p, c, m, rfl, d p c rfl, hm, hb, fun r H' h1 h2 o => kk _ _ _ o.kp (.flat rfl) (q r h1 h2)⟩
theorem big_of {j : Int} (h1 : -(10 ^ 100) < j) (h2 : j < 10 ^ 100) : BigOk j := by
 unfold BigOk
 have : j.natAbs < 10 ^ 100 := by omega
 exact Nat.lt_trans this (by decide +kernel)
section
variable {own : Nat} {fr : List Nat} {g : UG} {tf : UTt} {ue : UT} {α : Type}
theorem compT_ofm {ρ : PEnv} (c : α -> Tv) (f : α -> Option Tv) : ∀ {l : List α} {Q : List Tv -> PEnv -> Prop}, (∀ a ∈ l, ∀ R : Option Tv -> PEnv -> Prop, R (f a) ρ -> compS own fr g tf ue (c a) ρ R) -> Q (l.filterMap f) ρ -> compT own fr g tf ue (l.map c) ρ Q
 | [], _, _, q => q
 | a :: l, Q, h, q => by
  rw [List.map_cons, compT_cons]
  refine h a (.head _) _ ?_
  rw [List.filterMap_cons] at q
  cases e : f a with
  | none => rw [e] at q; exact compT_ofm c f (fun b hb => h b (.tail _ hb)) q
  | some U => rw [e] at q; exact compT_ofm (Q := fun Us ρ4 => Q (U :: Us) ρ4) c f (fun b hb => h b (.tail _ hb)) q
theorem compT_of {ρ : PEnv} (c f : α -> Tv) {l : List α} {Q : List Tv -> PEnv -> Prop} (h : ∀ a ∈ l, ∀ R : Option Tv -> PEnv -> Prop, R (some (f a)) ρ -> compS own fr g tf ue (c a) ρ R) (q : Q (l.map f) ρ) : compT own fr g tf ue (l.map c) ρ Q :=
 compT_ofm c (fun a => some (f a)) h (by rw [show l.filterMap (fun a => some (f a)) = l.map f from List.filterMap_eq_map' ▸ rfl]; exact q)
theorem forT_of {g : UG} {ub : UTs} {P : PEnds} {ρ : PEnv} (c : α -> Tv) {l : List α} (J : Nat -> PEnv -> Prop) (h0 : J 0 ρ) (hs : ∀ i a ρ' (N : PEnv -> Prop), l[i]? = some a -> J i ρ' -> (∀ ρ'', J (i + 1) ρ'' -> N ρ'') -> g (c a) ρ' fun ρ1 => ub { P with nx := N, ct := N, bk := P.nx } ρ1)
  (hd : ∀ ρ', J l.length ρ' -> P.nx ρ') : forT g ub (l.map c) P ρ :=
 forT_inv J h0 (fun i T ρ' N e j hN => by
  rw [List.getElem?_map] at e
  obtain ⟨a, ea, rfl⟩ := Option.map_eq_some_iff.mp e
  exact hs i a ρ' N ea j hN) (by rw [List.length_map]; exact hd)
end
theorem eqT_str (x y : Str) : eqT (sT x) (sT y) = decide (x = y) := by
 rw [eqT]
 show (x == y) = _
 exact Bool.beq_eq_decide_eq x y
theorem any_str {x : Str} {ss : List Str} : ((ss.map sT).any fun U => eqT U (sT x)) = decide (x ∈ ss) := by
 rw [List.any_map, Bool.eq_iff_iff, List.any_eq_true, decide_eq_true_iff]
 constructor
 ·rintro ⟨y, hy, e⟩
  have e : eqT (sT y) (sT x) = true := e
  rw [eqT_str, decide_eq_true_iff] at e
  rw [<- e]; exact hy
 ·intro h
  exact ⟨x, h, by show eqT (sT x) (sT x) = true; rw [eqT_str, decide_eq_true_iff]⟩
theorem inok_str {x : Str} {ss : List Str} : InOk (sT x) (ss.map sT) := ⟨trivial, fun U hU => by
 obtain ⟨s, _, rfl⟩ := List.mem_map.mp hU
 trivial⟩
theorem sif {b : Bool} {A B : Prop} (h1 : b = true -> A) (h2 : b = false -> B) : if b = true then A else B := by
 cases b with
 | true => exact (if_pos rfl).mpr (h1 rfl)
 | false => exact (if_neg Bool.false_ne_true).mpr (h2 rfl)
theorem sifd {p : Prop} [Decidable p] {A B : Prop} (h1 : p -> A) (h2 : ¬ p -> B) : if decide p = true then A else B := sif (fun h => h1 (of_decide_eq_true h)) fun h => h2 (of_decide_eq_false h)
end L2
namespace L2
open PySem PySem.Spec PyProof.Rows WordM
section
variable {X : Cx} {F : Fm}
def rRepR : R2 := fun x y H Q => ∃ l k xs, x = .ref l /\ y = .int k /\ Rd H l (.lst xs) /\ -(2 ^ 63) <= k /\ k < 2 ^ 63 /\ xs.length * k.toNat <= sizeLine /\ ∀ p, H p = none -> Q (.ref p) (upd H p (.lst (List.replicate k.toNat xs).flatten))
theorem op_repR : OpR X (binaryOp .Mult) rRepR := by
 rintro pins s σ H _ _ v u Q I rx ry ⟨l, k, xs, rfl, rfl, hH, h1, h2, hz, q⟩
 cases rx
 obtain ⟨t, rfl⟩ := ry
 obtain ⟨z, its, n, r, e⟩ := hH.ok I.hok
 have hl := r.length
 have hlen : its.toArray.size * k.toNat <= sizeLine := by rw [List.size_toArray, <- hl]; exact hz
 have hcap : ¬ its.toArray.size * k.toNat > (2 ^ 63 - 1) / 8 := by
  have : (sizeLine : Nat) <= (2 ^ 63 - 1) / 8 := by decide
  omega
 have hfit : ¬ (!Builtin.List.listFitsIndex k) = true := by
  rw [fitsIndex_both h1 h2]
  exact Bool.false_ne_true
 have hlong : ¬ Builtin.List.listTooLong (its.toArray.size * k.toNat) = true := by
  rw [notLongL hlen]
  exact Bool.false_ne_true
 have hnew : List.foldl (fun x1 x2 => x1 ++ x2) #[] (List.replicate (if its.toArray.isEmpty = true then 0 else k.toNat) its.toArray) = (List.replicate k.toNat its).flatten.toArray := by
  have f0 : ∀ m : Nat, List.foldl (fun x1 x2 => x1 ++ x2) #[] (List.replicate m its.toArray) = (List.replicate m its).flatten.toArray := fun m => by
   have := foldl_rep its m []
   rw [List.nil_append] at this
   exact this
  rw [f0]
  cases its with
  | nil => simp
  | cons a r' => rw [if_neg (by simp)]
 refine wpAny_binaryOp_repeat_ref (T := "list") (U := "int") (by decide) ⟨_, e, rfl⟩ (fun s' => typeIs_int s' k t) noFill_list_mul F.fills_int_mul F.slot_int_rmul repeat_list F.slot_int_index.lookup
  (call_meets F.slot_int_rmul (typeIs_int s k t) F.entry_int_rmul (F.args_int_rmul_2 _ _) (int___rmul___int_list k t l its.toArray n)
   ⟨e, rfl, ⟨_, e, rfl⟩, call_meets F.slot_list_mul ⟨_, e, rfl⟩ F.entry_list_mul (F.args_list_mul_2 _ _) (AutoListH.list___mul___list_int_3 l its.toArray n k t hfit hcap hlong) ⟨e, ?_⟩⟩)
 rw [hnew]
 exact ⟨.ref _, _, I.lnew (t' := s.toks) (r.rep k.toNat) (by rw [len_rep, Nat.mul_comm]; exact hz), rfl, q _ I.fresh⟩
theorem paired_rep {α β : Type} {R : α -> β -> Prop} {l : List α} {m : List β} (p : Paired R l m) : ∀ k : Nat, Paired R (List.replicate k l).flatten (List.replicate k m).flatten
 | 0 => .nil
 | k + 1 => by rw [List.replicate_succ, List.replicate_succ, List.flatten_cons, List.flatten_cons]; exact paired_app p (paired_rep p k)
def pMul2 : P2
 | .seq false xs, .leaf (.int k), Q => (xs.length * k.toNat <= 100000 /\ -(2 ^ 62) <= k /\ k < 2 ^ 62) /\ Q (.seq false (List.replicate k.toNat xs).flatten)
 | T, U, Q => pMul T U Q
theorem pu_mul2 : PuOp X (binaryOp .Mult) pMul2 := by
 obtain ⟨a, oa, ra⟩ := pu_mul (X := X)
 refine ⟨_, oa.or op_repR, fun x y T U H Q QQ vx vy h k => ?_⟩
 unfold pMul2 at h
 split at h
 ·obtain ⟨a, xs, rfl, ⟨ob, hs⟩, z, p⟩ := vx.seqI
  obtain ⟨rfl, _⟩ := vy.leafI
  obtain ⟨⟨h1, h2, h3⟩, q⟩ := h
  have l1 : xs.length = _ := Paired.length p
  refine .inr ⟨a, _, xs, rfl, rfl, .inr ⟨ob, hs⟩, by omega, by omega, line_of (by rw [l1]; exact h1), fun b n => k _ _ _ (Raw.lst n ?_ (paired_rep p _)) q⟩
  rw [len_rep, Nat.mul_comm]; exact h1
 ·exact .inl (ra x y T U H Q QQ vx vy h k)
end
end L2
namespace L2
open PySem PySem.Spec PyProof.Rows WordM
inductive Wd where
 | few (ts : List Str)
 | make (h : Str) (a b : Int) (ms : List Str)
def encW : Wd -> Tv
 | .few ts => .seq true [sT "few", .seq true (ts.map sT)]
 | .make h a b ms => .seq true [sT "make", sT h, iT a, iT b, .seq true (ms.map sT)]
theorem sifI {a b : Int} {A B : Prop} (h1 : a = b -> A) (h2 : a ≠ b -> B) : if (false != eqV (.int a) (.int b)) = true then A else B := sif (fun z => h1 (by simpa [eqV] using z)) fun z => h2 (by simpa [eqV] using z)
theorem sifS {a b : Str} {A B : Prop} (h1 : a = b -> A) (h2 : a ≠ b -> B) : if (false != eqV (.str a) (.str b)) = true then A else B := sif (fun z => h1 (by simpa [eqV] using z)) fun z => h2 (by simpa [eqV] using z)
def TxOk (s : Str) : Prop := Sg s /\ s.length <= 50
def rise (l : List Str) : Prop := l.Pairwise fun a b => cs a < cs b
def WdOk : Wd -> Prop
 | .few ts => 1 <= ts.length /\ ts.length <= 6 /\ rise ts /\ ∀ t ∈ ts, TxOk t
 | .make h a b ms => TxOk h /\ 0 <= a /\ a <= b /\ 1 <= b /\ b <= 100 /\ ms.Sublist MK /\ ms ≠ []
theorem lt_of_le_ne {a b : Str} (h : cs a <= cs b) (n : a ≠ b) : cs a < cs b := by
 refine Classical.byContradiction fun z => n (str_ext (List.le_antisymm h (List.not_lt.mp z)))
theorem sort_ex (l : List Str) : ∃ ss : List Str, ss.Perm l /\ sortedS ss = true := by
 refine ⟨l.mergeSort fun a b => decide (cs a <= cs b), List.mergeSort_perm _ _, PyProof.Rows.sortedS_of_pairwise _ ?_⟩
 refine (List.pairwise_mergeSort (fun a b c h1 h2 => ?_) (fun a b => ?_) l).imp fun {a b} h => ?_
 ·exact decide_eq_true (List.le_trans (of_decide_eq_true h1) (of_decide_eq_true h2))
 ·rcases List.le_total (cs a) (cs b) with z | z <;> simp [z]
 ·rw [ltCps_eq]
  exact decide_eq_false (List.not_lt.mpr (of_decide_eq_true h))
theorem sort_pw (l : List Str) : (sortS l).Pairwise fun a b => cs a <= cs b := by
 obtain ⟨ss, h1, h2⟩ := sort_ex l
 rw [<- sortS_eq h1 h2]
 exact sorted_pw' _ h2
theorem sort_rise {l : List Str} (n : l.Nodup) : rise (sortS l) := by
 have h2 : (sortS l).Nodup := (sortS_perm l).nodup_iff.mpr n
 exact List.Pairwise.imp₂ (fun a b h n => lt_of_le_ne h n) (sort_pw l) h2
theorem rise_nodup {l : List Str} (h : rise l) : l.Nodup := List.Pairwise.imp (fun {a b} h e => by rw [e] at h; exact List.lt_irrefl _ h) h
end L2
namespace L2
open PySem PySem.Spec PyProof.Rows WordM
def stW (x y : Str) : Bool := decide (0 + y.length <= x.length) && Builtin.Str.subAt x y 0
def restW (x hd : Str) : Str := Txt.slice x (some (hd.length : Int)) none
def letW : Wd -> Str -> Bool
 | .few ss, x => decide (x ∈ ss)
 | .make hd lo hi ms, x => stW x hd && ((decide (lo <= ((restW x hd).length : Int)) && decide (((restW x hd).length : Int) <= hi)) && (cs (restW x hd)).all fun c => decide (markC c ∈ ms))
end L2
namespace L2
open PySem PySem.Spec PyProof.Rows WordM
def spLaw (K : PySem.W.Frag) : Sp := fun vs H Q _ => ∃ (a : Addr) (ns : List Int), vs = [.ref a] /\ SqL K H a (ns.map V.int) /\ ns.length <= 63 /\ ∀ H', Q (.bl true) H'
def lawP (n : Nat) : PEnv := .no :: .dk :: List.replicate (n - 2) .no
theorem fr_law {K : PySem.W.Frag} {H : Hp} {p c : Addr} {N : List Str} {x : V} (hN : 2 <= N.length) (d : DeckAt H p c) : FrOk K ⟨H, some (p, c), none⟩ (lawP N.length) ((start N [x]).set 1 (some (.ref p))) H := by
 have nm : ∀ (i : Nat) (s : Sl), (lawP N.length)[i]? = some s -> (s = .dk /\ i = 1) \/ s = .no := fun i s e => by
  unfold lawP at e
  match i, e with
  | 0, e => exact .inr (by simpa using e.symm)
  | 1, e => exact .inl ⟨by simpa using e.symm, rfl⟩
  | i + 2, e =>
   have e : (List.replicate (N.length - 2) Sl.no)[i]? = some s := by simpa using e
   exact .inr (List.eq_of_mem_replicate (List.mem_of_getElem? e))
 refine ⟨fun p' c' e => by cases e; exact d, fun _ _ z => (nomatch z), ⟨fun _ _ e _ _ => e, fun p' c' e => by cases e; exact d, fun _ _ z => (nomatch z)⟩, ?_, fun i s e => ?_, fun i j a s t e _ m _ _ _ => ?_⟩
 ·unfold lawP start
  simp
  omega
 ·rcases nm i s e with ⟨rfl, rfl⟩ | rfl
  ·refine ⟨p, c, rfl, ?_⟩
   unfold ixv start
   rw [List.getElem?_set_self (by simp; omega)]
   rfl
  ·trivial
 ·rcases nm i s e with ⟨rfl, _⟩ | rfl <;> cases m
theorem glob_tup {K : PySem.W.Frag} {mg : Str -> Option Value} {x : Str} {a : Addr} {ss : List Str} (m : mg x = some (.ref a)) (T : ∀ H, SqT K H a (ss.map V.str)) (l : ss.length <= 100000 := by decide) : GlobT K mg x (.seq true (ss.map sT)) := by
 refine ⟨.ref a, .ref a, m, rfl, fun H => VA.seq (T H) (by rw [List.length_map]; exact l) ?_⟩
 have key : ∀ ss : List Str, VAs K H (ss.map V.str) (ss.map sT) := fun ss => by
  induction ss with
  | nil => exact .nil
  | cons s ss ih => exact .cons (.flat rfl) ih
 exact key ss
theorem pss_any {X : Cx} {st : List Stmt} {us : UTs} (h : ∀ F, USs X F st us) : PSs X st (fun D σ H => ∃ F, liftS X.K F us D σ H) := fun pins s σ H D I ⟨F, q⟩ => (h F).ps pins s σ H D I q
theorem law_end {X : Cx} {us : UTs} {D : Ends} {p c : Addr} {H : Hp} {N : List Str} {x : V} (hN : 2 <= N.length) (d : DeckAt H p c) (q : ∀ H', D.rt (.bl true) H') (h : us { nx := fun _ => False, rt := fun T => T = bT true } (lawP N.length)) :
  ∃ F, liftS X.K F us D ((start N [x]).set 1 (some (.ref p))) H := ⟨⟨H, some (p, c), none⟩, lawP N.length, _, fr_law hN d, h, fun _ _ _ _ _ z => z.elim, fun x T H' _ _ _ v e => by
 have e : T = bT true := e.elim id False.elim
 subst e
 obtain ⟨rfl, _⟩ := v.leafI
 exact q H', fun _ _ _ _ _ z => z.elim, fun _ _ _ _ _ z => z.elim⟩
end L2
namespace L2
open PySem PySem.Spec PyProof.Rows WordM
section
variable {X : Cx} {F : Fm}
variable {x : Str} {p apos cpos pos : Pos} {st : Stmt}
theorem us_nev : US X F st (fun _ _ => False) := ⟨fun pins s σ H D I ⟨_, _, _, h, _⟩ => h.elim⟩
end
end L2
namespace L2
open PySem PySem.Spec PyProof.Rows
@[reducible] def sortB : PyProof.Rows.KeyKind where
 α := Bool
 blt a b := !a && b
 irrefl a := by cases a <;> rfl
 trans a b c h1 h2 := by cases a <;> cases b <;> cases c <;> simp_all
 negTrans a b c h := by cases a <;> cases b <;> cases c <;> simp_all
 total a b h1 h2 := by cases a <;> cases b <;> simp_all
 keyOf v := match v with | .bool b => some b | _ => none
 dflt := false
end L2
namespace L2
open PySem PySem.Spec PyProof.Rows
section
variable {X : Cx} {F : Fm}
def rSetS2 (P : Program) (w : World) (K : PySem.W.Frag) : List V -> Hp -> VK -> Prop := fun xs H Q => ∃ (p : Addr) (ss : List Str), xs = [.ref p] /\ SqL K H p (ss.map V.str) /\ (setL ss).length < 4000 /\ ∀ a : Addr, H a = none -> Q (.ref a) (upd H a (setH P w a (setL ss)))
theorem call_setS2 (hc : X.calm = true) : CallR X (.type "set") (rSetS2 X.prog X.w X.K) := by
 intro pins s σ H xs us Q I r h
 obtain ⟨p, ss, rfl, hq, hz, q⟩ := h
 obtain ⟨u, rfl, rx⟩ := vals1 r
 cases rx
 obtain ⟨its, rv, pl, hz'⟩ := I.list hq
 have hi : StrsAre its.toArray.toList ss := strsAre_of rv
 refine any_setList2 (I.ok.hd hc) pl.isList hi (by show (setL ss).length + 1 < 4096; omega) fun h' tk S k => ?_
 refine ⟨.ref s.heap.objs.size, _, I.laid (t' := tk) (o := setH X.prog X.w s.heap.objs.size (setL ss)) (fun b o e => k b o (Heap.lt_size e) e) (Nat.le_refl _) ⟨S, ?_, fun h1 h2 z k' => z.kept k'⟩, rfl, q _ I.fresh⟩
 obtain ⟨es, ep, t, e, _⟩ := S
 exact ⟨_, e⟩
variable {pos : Pos}
def uSortSet2 (u : UT) : UTl := fun ρ Q => u ρ fun T ρ1 => ∃ ss : List Str, T = .seq false (ss.map sT) /\ (setL ss).length < 64 /\ Q ((sortS (setL ss)).map sT) ρ1
theorem ul_sortSet2 {e : Expr} {u : UT} {p p' pos' : Pos} (hc : X.calm = true) (hg : Gl X "sorted") (hm : X.mg "sorted" = none) (hg' : Gl X "set") (hm' : X.mg "set" = none) (he : UE X F e u) (hst : isStar e = false := by rfl)
  (hpl : (backTo pos (starEach [] X.env)).any (·.1) = false := by rfl) (hpl' : (backTo pos' (starEach [] X.env)).any (·.1) = false := by rfl) :
  UL X F (.Call (.Name "sorted" p) [.Call (.Name "set" p') [e] [] pos'] [] pos) (uSortSet2 u) := ⟨PE.imp (pe_callB (call_sortedU hc) hg hm boot_sorted (pa_c (pe_callTy (call_setS2 hc) hg' hm' L2.boot_set (pa_c he.pe pa_nil hst) (by decide) (by decide) (star_cons hst) hpl') pa_nil rfl) (by decide) (by decide) rfl hpl) fun σ H QQ ⟨ρ, Q, f, h, k⟩ => by
 refine ⟨ρ, _, f, h, fun x T H1 ρ1 s1 v1 q1 => ?_⟩
 obtain ⟨ss, rfl, l2, q⟩ := q1
 obtain ⟨a, ys, rfl, hs, z, p⟩ := v1.seqI
 rw [vals_str p] at hs
 refine ⟨a, ss, rfl, seq_of hs, by omega, fun b nb => ⟨b, setL ss, rfl, upd_same, l2, fun ms c h1 h2 nc => ?_⟩⟩
 have sm := (same_new (o := setH X.prog X.w b (setL ss)) nb).trans (same_new (o := .lst (ms.map V.str)) nc)
 refine k _ _ _ _ _ (s1.trans (Stp.same s1.fr sm)) (s1.non ((same_new nb).free nc)) upd_same (by rw [List.length_map, h1.length_eq]; omega) (vas_str ms) ?_
 rw [sortS_eq h1 h2]
 exact q⟩
end
end L2
namespace L2
open PySem PySem.Spec PyProof.Rows
section
variable {X : Cx} {F : Fm}
theorem str_app_len (a b : Str) : (a ++ b).length = a.length + b.length := by
 show (a.cps ++ b.cps).size = _
 rw [Array.size_append]; rfl
end
end L2
namespace L2
open PySem PySem.Spec WordM
theorem ofS_cps (z : String) : cs (Str.ofString z) = z.toList.map Char.toNat := by
 rw [Str.ofString_eq_toList]
theorem int_chars (i : Int) (h : i.natAbs < 10 ^ 100) : (∀ c ∈ (toString i).toList, c.isDigit = true \/ c = '-') /\ (toString i).toList.length <= 101 := by
 cases i with
 | ofNat m =>
  show (∀ c ∈ m.repr.toList, _) /\ m.repr.toList.length <= 101
  rw [Nat.toList_repr]
  refine ⟨fun c hc => .inl (Nat.isDigit_of_mem_toDigits (by decide) (by decide) hc), ?_⟩
  have := (Nat.length_toDigits_le_iff (b := 10) (n := m) (k := 100) (by decide) (by decide)).mpr h
  omega
 | negSucc m =>
  show (∀ c ∈ ("-" ++ m.succ.repr).toList, _) /\ ("-" ++ m.succ.repr).toList.length <= 101
  rw [String.toList_append, Nat.toList_repr]
  refine ⟨fun c hc => ?_, ?_⟩
  ·rcases List.mem_append.mp hc with z | z
   ·exact .inr (by simpa using z)
   ·exact .inl (Nat.isDigit_of_mem_toDigits (by decide) (by decide) z)
  ·have := (Nat.length_toDigits_le_iff (b := 10) (n := m.succ) (k := 100) (by decide) (by decide)).mpr h
   rw [List.length_append]
   have e : ("-" : String).toList.length = 1 := by decide
   omega
end L2
namespace L2
open PySem PySem.Spec PyProof.Rows WordM
theorem stW_iff {x y : Str} : stW x y = true ↔ ∃ r, cs x = cs y ++ r := by
 unfold stW
 rw [StrLaws.subAt_eq, Bool.and_eq_true, decide_eq_true_iff, List.drop_zero, beq_iff_eq, WordM.len, WordM.len]
 constructor
 ·rintro ⟨h1, h2⟩
  have h2 : (cs x).take (cs y).length = cs y := h2
  exact ⟨(cs x).drop (cs y).length, (List.take_append_drop (cs y).length (cs x)).symm.trans (by rw [h2])⟩
 ·rintro ⟨r, e⟩
  show _ /\ (cs x).take _ = _
  rw [e]
  exact ⟨by rw [List.length_append]; omega, by rw [List.take_left']; rfl⟩
theorem restW_of {x y : Str} {r : List Nat} (e : cs x = cs y ++ r) : cs (restW x y) = r := by
 have hl : x.length = (cs y).length + r.length := by rw [WordM.len, e, List.length_append]
 unfold restW
 rw [PyProof.Rows.slice_from_eq (b := (x.length : Int)) (by omega) (by rw [hl, WordM.len]; omega) rfl]
 show ((cs x).drop _).take _ = r
 rw [hl, WordM.len y, e, show (((cs y).length : Nat) : Int).toNat = (cs y).length by omega, List.drop_left, List.take_of_length_le]
 omega
theorem slice_last {x : Str} (h : 0 < x.length) : cs (Txt.slice x none (some (-1))) = (cs x).take (x.length - 1) := by
 have e := beq_iff_eq.mp (PyProof.Rows.slice_closes_to_neg (x := x) (j := -1) (k := -1 + x.length) (by decide) (by omega) rfl)
 rw [e]
 show ((cs x).drop 0).take _ = _
 rw [List.drop_zero]
 congr 1
 omega
theorem slice_last_len {x : Str} (h : 0 < x.length) : (Txt.slice x none (some (-1))).length = x.length - 1 := by
 rw [WordM.len, slice_last h, List.length_take, <- WordM.len]; omega
theorem lt_ne {a b : Str} (h : cs a < cs b) : a ≠ b := fun e => by rw [e] at h; exact List.lt_irrefl _ h
theorem rise_sub : ∀ {ys xs : List Str}, rise xs -> rise ys -> (∀ x ∈ xs, x ∈ ys) -> xs.Sublist ys
 | [], xs, _, _, h => by
  cases xs with
  | nil => exact .slnil
  | cons x xs => exact absurd (h x (.head _)) (by simp)
 | y :: ys, [], _, _, _ => List.nil_sublist _
 | y :: ys, x :: xs, hx, hy, h => by
  have hx' := List.pairwise_cons.mp hx
  have hy' := List.pairwise_cons.mp hy
  by_cases e : x = y
  ·subst e
   refine List.Sublist.cons_cons x (rise_sub hx'.2 hy'.2 fun z hz => ?_)
   rcases List.mem_cons.mp (h z (.tail _ hz)) with q | q
   ·exact absurd q.symm (lt_ne (hx'.1 z hz))
   ·exact q
  ·have hxy : x ∈ ys := (List.mem_cons.mp (h x (.head _))).resolve_left e
   have yx : cs y < cs x := hy'.1 x hxy
   refine List.Sublist.cons y (rise_sub hx hy'.2 fun z hz => ?_)
   rcases List.mem_cons.mp (h z hz) with q | q
   ·subst q
    rcases List.mem_cons.mp hz with q | q
    ·exact absurd q.symm e
    ·exact absurd (List.lt_trans yx (hx'.1 z q)) (List.lt_irrefl _)
   ·exact q
theorem mk_rise : rise MK := by unfold rise; decide +kernel
theorem sort_set_mem {ss : List Str} {x : Str} : x ∈ sortS (setL ss) ↔ x ∈ ss := (sortS_perm _).mem_iff.trans (setL_mem ss x)
theorem sort_set_rise (ss : List Str) : rise (sortS (setL ss)) := sort_rise (setL_nd ss)
end L2
namespace L2
open PySem PySem.Spec PyProof.Rows PySem.SeqAt
section
variable {X : Cx} {F : Fm}
def rSetT (P : Program) (w : World) (K : PySem.W.Frag) : List V -> Hp -> VK -> Prop := fun xs H Q => ∃ (p : Addr) (ss : List Str), xs = [.ref p] /\ SqT K H p (ss.map V.str) /\ ss.length < 4000 /\ ∀ a : Addr, H a = none -> Q (.ref a) (upd H a (setH P w a (setL ss)))
end
end L2
namespace L2
open PySem PySem.Spec PyProof.Rows WordM
section
variable {X : Cx} {F : Fm} {pos p : Pos} {e a b elt iter : Expr} {es ifs : List Expr} {x : Str} {u ua ub ue : UT} {ut : UTa} {ui : UTl} {tf : UTt} {sc scope : Scope} {XN N : List Str} {fr : List Nat}
theorem ue_fm {k m : Nat} {ps : List Str} {psp : PSp} (G : PGood X.prog X.w X.K X.mg X.base k x ps psp) (hr : Room m X.A) (ha : UA X F (e :: es) ut) (hm : k <= m := by omega) (hg : Gl X x := by exact rfl) (hdb : (x == ("__debug__" : Str)) = false := by decide)
  (hst : isStar e = false := by rfl) (hpl : (backTo pos (starEach es X.env)).any (·.1) = false := by rfl) : UE X F (.Call (.Name x p) (e :: es) [] pos) (uCall psp ut) := ue_fn G (hr.mono hm) hg ha hdb hst hpl
theorem us_s (i : Nat) {pos' : Pos} (hN : X.N.Nodup) (he : UE X F e u) (hi : X.N[i]? = some x := by rfl) (hx : Loc X.env.scope x := by first | exact Or.inl rfl | exact Or.inr rfl) (hs : swapsWith e (some (.Name x pos')) pos.line X.env = pure false := by rfl) (hf : X.fn x = true \/ X.env.scope.names.lookup x = some .local := by first | exact .inl rfl | exact .inr rfl | assumption) :
  US X F (.Assign [.Name x pos'] e pos) (sSet i u) := us_set hN hi hx he hs hf
theorem us_o (i : Nat) {ul : UTl} {pos' : Pos} (hN : X.N.Nodup) (he : UL X F e ul) (hi : X.N[i]? = some x := by rfl) (hx : Loc X.env.scope x := by first | exact Or.inl rfl | exact Or.inr rfl) (hs : swapsWith e (some (.Name x pos')) pos.line X.env = pure false := by rfl) (hf : X.fn x = true \/ X.env.scope.names.lookup x = some .local := by first | exact .inl rfl | exact .inr rfl | assumption) :
  US X F (.Assign [.Name x pos'] e pos) (sOwn i ul) := us_own hN hi hx he hs hf
theorem ub_cp {op : CmpOp} {r : P2} (ho : PuCmp X (compareOp op) r) (ha : UE X F a ua) (hb : UE X F b ub) (hm : behindInMarks op b = false := by exact nomark _) : UB X F (.Compare a [op] [b] pos) (uB (uOp r ua ub)) := ub_cmp ho ha hb hm
theorem ue_cp {op : CmpOp} {r : P2} (ho : PuOp X (compareOp op) r) (ha : UE X F a ua) (hb : UE X F b ub) (hm : behindInMarks op b = false := by exact nomark _) : UE X F (.Compare a [op] [b] pos) (uOp r ua ub) := ue_cmp ho ha hb hm
structure Cq (X : Cx) (sc scope : Scope) (XN N : List Str) (fr : List Nat) (x : Str) (iter : Expr) : Prop where
 hc : X.calm = true := by rfl
 k1 : scope.kind = .function := by rfl
 k2 : ∀ y ∈ scope.names, y.2 ≠ .cell := by decide +kernel
 k3 : ∀ y ∈ scope.names, y.2 = .free -> sc.names.lookup y.1 = some .cell \/ sc.names.lookup y.1 = some .free := by decide +kernel
 k4 : ∀ y ∈ scope.names, y.2 = .local -> scope.names.lookup y.1 = some .local := by decide +kernel
 k5 : N.drop 1 = fr.filterMap fun i => XN[i]? := by rfl
 k6 : ∀ i ∈ fr, i < XN.length := by decide +kernel
 k7 : 1 <= N.length := by decide
 k8 : ∀ x ∈ N.drop 1, scope.names.lookup x = some .free := by decide +kernel
 nd : fr.Nodup := by decide
 nN : N.Nodup := by decide +kernel
 h0 : N[0]? = some x := by rfl
 hl : ∀ cl C fp s H, Loc (cxComp X N scope cl C fp s H).env.scope x := by intros; first | exact Or.inl rfl | exact Or.inr rfl
 hfn : ∀ cl C fp s H, (cxComp X N scope cl C fp s H).fn x = true \/ (cxComp X N scope cl C fp s H).env.scope.names.lookup x = some .local := by intros; first | exact .inl rfl | exact .inr rfl
 hs : ∀ x, foldedSetIterable iter X.env x = pure x := by intro _; rfl
 hsc : X.env.scope = sc := by rfl
 hxn : X.N = XN := by rfl
section
variable {z : Str} {pos' spos : Pos} (i : Nat) (hN : X.N.Nodup) (hi : UI X F (.Name x p) iter ui) (hf : ∀ cl C fp s H, UF (cxComp X N scope cl C fp s H) F ifs tf) (he : ∀ cl C fp s H, UE (cxComp X N scope cl C fp s H) F elt ue)
include hi hf he
theorem ul_c1 (c : Cq X sc scope XN N fr x iter := by exact {}) : UL X F (.ListComp elt [⟨.Name x p, iter, ifs, 0⟩] scope pos) (uComp 1 fr ui (gN 0) tf ue) :=
 ul_comp c.hc ⟨c.k1, c.k2, c.k3, c.k4, c.k5, c.k6, c.k7, c.k8⟩ c.nd hi (fun cl C fp s H => ug_name 0 (by decide) c.nN c.h0 (c.hl cl C fp s H) (c.hfn cl C fp s H)) hf he c.hs c.hsc c.hxn
include hN
theorem us_c1 (c : Cq X sc scope XN N fr x iter := by exact {}) (hz : X.N[i]? = some z := by rfl) (hzl : Loc X.env.scope z := by first | exact Or.inl rfl | exact Or.inr rfl)
  (hsw : swapsWith (.ListComp elt [⟨.Name x p, iter, ifs, 0⟩] scope pos) (some (.Name z pos')) spos.line X.env = pure true := by rfl)
  (hf' : X.fn z = true \/ X.env.scope.names.lookup z = some .local := by first | exact .inl rfl | exact .inr rfl | assumption) : US X F (.Assign [.Name z pos'] (.ListComp elt [⟨.Name x p, iter, ifs, 0⟩] scope pos) spos) (sSet i (uL (uComp 1 fr ui (gN 0) tf ue))) :=
 us_setc c.hc hN hz hzl ⟨c.k1, c.k2, c.k3, c.k4, c.k5, c.k6, c.k7, c.k8⟩ c.nd hi (fun cl C fp s H => ug_name 0 (by decide) c.nN c.h0 (c.hl cl C fp s H) (c.hfn cl C fp s H)) hf he hsw hf' c.hs c.hsc c.hxn
end
theorem ul_c0 (hi : UI X F (.Name x p) iter ui) (he : ∀ cl C fp s H, UE (cxComp X N scope cl C fp s H) F elt ue) (c : Cq X sc scope XN N fr x iter := by exact {}) : UL X F (.ListComp elt [⟨.Name x p, iter, [], 0⟩] scope pos) (uComp 1 fr ui (gN 0) tYes ue) := ul_c1 hi (fun _ _ _ _ _ => uf_nil) he c
theorem ue_x {m : Nat} (hr : Room m X.A) (ha : UE X F a ua) (hb : UE X F b ub) (hs : PlainIx b := by intro _ _; rfl) : UE X F (.Subscript a b pos) (uOp pIx ua ub) := ue_ix (pu_ix hr.units) ha hb hs
theorem ub_q {m : Nat} (hr : Room m X.A) (ha : UE X F a ua) (hb : UE X F b ub) : UB X F (.Compare a [.Eq] [b] pos) (uB (uOp pEq ua ub)) := ub_cmp (pu_eq hr.units) ha hb (nomark _)
theorem ub_n {m : Nat} (hr : Room m X.A) (ha : UE X F a ua) (hb : UE X F b ub) : UB X F (.Compare a [.NotEq] [b] pos) (uB (uOp pNe ua ub)) := ub_cmp (pu_ne hr.units) ha hb (nomark _)
end
end L2
namespace L2
open PySem
namespace Lay
def stp (mask : Nat) (i : Nat) : Nat := (i * 5 + 1) % (mask + 1)
def itr (mask : Nat) : Nat -> Nat -> Nat
 | 0, i => i
 | k + 1, i => itr mask k (stp mask i)
def allHit (mask : Nat) : Bool := (List.range (mask + 1)).all fun i => (List.range (mask + 1)).all fun j => (List.range (mask + 1)).any fun k => itr mask k i == j
def Cyc (mask : Nat) : Prop := ∀ i j, i <= mask -> j <= mask -> ∃ k, k <= mask /\ itr mask k i = j
theorem cyc_of {mask : Nat} (h : allHit mask = true) : Cyc mask := fun i j hi hj => by
 unfold allHit at h
 have := List.all_eq_true.mp (List.all_eq_true.mp h i (List.mem_range.mpr (by omega))) j (List.mem_range.mpr (by omega))
 obtain ⟨k, hk, e⟩ := List.any_eq_true.mp this
 exact ⟨k, by have := List.mem_range.mp hk; omega, by simpa using e⟩
theorem cyc7 : Cyc 7 := cyc_of (by decide +kernel)
theorem cyc15 : Cyc 15 := cyc_of (by decide +kernel)
theorem cyc31 : Cyc 31 := cyc_of (by decide +kernel)
theorem cyc63 : Cyc 63 := cyc_of (by decide +kernel)
def lp (mask : Nat) : Nat -> Nat × Nat -> Nat × Nat
 | 0, x => x
 | k + 1, x => lp mask k (SetTable.leap mask x.1 x.2)
theorem lp_add (mask : Nat) : ∀ (a b : Nat) (x : Nat × Nat), lp mask (a + b) x = lp mask b (lp mask a x)
 | 0, b, x => by rw [Nat.zero_add]; rfl
 | a + 1, b, x => by rw [Nat.succ_add]; exact lp_add mask a b _
theorem lp_pert (mask : Nat) : ∀ (k : Nat) (x : Nat × Nat), (lp mask k x).2 = x.2 / 32 ^ k
 | 0, x => by simp [lp]
 | k + 1, x => by
  show (lp mask k _).2 = _
  rw [lp_pert mask k]
  show x.2 / 32 / 32 ^ k = _
  rw [Nat.div_div_eq_div_mul, Nat.pow_succ, Nat.mul_comm]
theorem lp_le (mask : Nat) : ∀ (k : Nat) (x : Nat × Nat), x.1 <= mask -> (lp mask k x).1 <= mask
 | 0, x, h => h
 | k + 1, x, h => lp_le mask k _ (Nat.le_of_lt_succ (Nat.mod_lt _ (Nat.succ_pos mask)))
theorem lp_zero (mask : Nat) : ∀ (k i : Nat), lp mask k (i, 0) = (itr mask k i, 0)
 | 0, i => rfl
 | k + 1, i => by
  show lp mask k (SetTable.leap mask i 0) = _
  have : SetTable.leap mask i 0 = (stp mask i, 0) := by
   unfold SetTable.leap stp
   simp
  rw [this, lp_zero mask k]
  rfl
theorem bits_lt (h : Int) : SetTable.bits h < 2 ^ 64 := by
 unfold SetTable.bits
 have := Int.emod_lt_of_pos h (show (0 : Int) < 2 ^ 64 by decide)
 have := Int.emod_nonneg h (show (2 ^ 64 : Int) ≠ 0 by decide)
 omega
theorem hit {mask : Nat} (C : Cyc mask) {i p j : Nat} (hi : i <= mask) (hp : p < 2 ^ 64) (hj : j <= mask) : ∃ n, n < SetTable.turns mask /\ (lp mask n (i, p)).1 = j := by
 have e13 : lp mask 13 (i, p) = ((lp mask 13 (i, p)).1, 0) := by
  have : (lp mask 13 (i, p)).2 = 0 := by
   rw [lp_pert]
   exact Nat.div_eq_of_lt (Nat.lt_of_lt_of_le hp (by decide))
  rw [<- this]
 obtain ⟨k, hk, e⟩ := C (lp mask 13 (i, p)).1 j (lp_le mask 13 _ hi) hj
 refine ⟨13 + k, by unfold SetTable.turns; omega, ?_⟩
 rw [lp_add, e13, lp_zero]
 exact e
theorem free_some {mask : Nat} (owner : Array (Option Nat)) : ∀ (fuel i p : Nat), (∃ n, n < fuel /\ owner.getD (lp mask n (i, p)).1 (some 0) = none) -> ∃ j, SetTable.layClean.free mask owner fuel i p = some j /\ owner.getD j (some 0) = none
 | 0, i, p, ⟨n, h, _⟩ => absurd h (Nat.not_lt_zero _)
 | fuel + 1, i, p, ⟨n, hn, h⟩ => by
  unfold SetTable.layClean.free
  cases e : (List.range (SetTable.runEnd mask i + 1 - i)).find? fun k => (owner.getD (i + k) (some 0)).isNone with
  | some k =>
   have := List.find?_some e
   exact ⟨i + k, rfl, by simpa using this⟩
  | none =>
   dsimp only
   cases n with
   | zero =>
    have := List.find?_eq_none.mp e 0 (List.mem_range.mpr (by unfold SetTable.runEnd; split <;> omega))
    have h : owner.getD i (some 0) = none := h
    rw [Nat.add_zero, h] at this
    exact absurd rfl this
   | succ n => exact free_some owner fuel _ _ ⟨n, by omega, h⟩
theorem set_perm : ∀ (l : List (Option Nat)) (j k : Nat), l[j]? = some none -> ((l.set j (some k)).filterMap id).Perm (k :: l.filterMap id)
 | [], j, k, h => by simp at h
 | x :: l, 0, k, h => by
  have : x = none := by simpa using h
  subst this
  simp
 | x :: l, j + 1, k, h => by
  have ih := set_perm l j k (by simpa using h)
  rw [List.set_cons_succ]
  cases x with
  | none => simpa using ih
  | some y =>
   simp only [List.filterMap_cons_some (f := id) (a := some y) rfl]
   exact (ih.cons y).trans (.swap _ _ _)
theorem none_in : ∀ (l : List (Option Nat)), (l.filterMap id).length < l.length -> ∃ j : Nat, l[j]? = some none
 | [], h => by simp at h
 | none :: l, h => ⟨0, rfl⟩
 | some y :: l, h => by
  obtain ⟨j, hj⟩ := none_in l (by simpa using h)
  exact ⟨j + 1, by simpa using hj⟩
structure Own (mask k : Nat) (owner : Array (Option Nat)) : Prop where
 sz : owner.size = mask + 1
 pm : (owner.toList.filterMap id).Perm (List.range k)
theorem own_step {mask : Nat} (C : Cyc mask) {k : Nat} {owner : Array (Option Nat)} (O : Own mask k owner) (hk : k <= mask) (h : Int) : ∃ j, SetTable.layClean.free mask owner (SetTable.turns mask) (SetTable.bits h % (mask + 1)) (SetTable.bits h) = some j /\ Own mask (k + 1) (owner.setIfInBounds j (some k)) := by
 have len : owner.toList.length = mask + 1 := by rw [Array.length_toList, O.sz]
 obtain ⟨j, hj⟩ := none_in owner.toList (by rw [O.pm.length_eq, List.length_range, len]; omega)
 have gd : ∀ i, owner.getD i (some 0) = none ↔ owner.toList[i]? = some none := fun i => by
  rw [Array.getD_eq_getD_getElem?, Array.getElem?_toList]
  cases owner[i]? with
  | none => simp
  | some x => simp
 have hjl : j <= mask := by
  have := (List.getElem?_eq_some_iff.mp hj).1
  omega
 obtain ⟨n, hn, en⟩ := hit C (i := SetTable.bits h % (mask + 1)) (p := SetTable.bits h) (Nat.le_of_lt_succ (Nat.mod_lt _ (Nat.succ_pos mask))) (bits_lt h) hjl
 obtain ⟨j', ej, hj'⟩ := free_some owner (SetTable.turns mask) _ _ ⟨n, hn, by rw [en]; exact (gd j).mpr hj⟩
 refine ⟨j', ej, by rw [Array.size_setIfInBounds, O.sz], ?_⟩
 rw [Array.toList_setIfInBounds]
 refine (set_perm _ _ _ ((gd j').mp hj')).trans ((O.pm.cons k).trans ?_)
 rw [List.range_succ]
 exact (List.perm_append_singleton k (List.range k)).symm
theorem lay_fold {mask : Nat} (C : Cyc mask) : ∀ (hs : List Int) (k : Nat) (owner : Array (Option Nat)), Own mask k owner -> k + hs.length <= mask + 1 -> ∃ o', hs.foldl (init := some (owner, k)) (fun acc h => do
  let (owner, k) <- acc
  let j <- SetTable.layClean.free mask owner (SetTable.turns mask) (SetTable.bits h % (mask + 1)) (SetTable.bits h)
  pure (owner.setIfInBounds j (some k), k + 1)) = some (o', k + hs.length) /\ Own mask (k + hs.length) o'
 | [], k, owner, O, _ => ⟨owner, rfl, O⟩
 | h :: hs, k, owner, O, hl => by
  rw [List.length_cons] at hl
  obtain ⟨j, ej, O'⟩ := own_step C O (by omega) h
  obtain ⟨o', e, O2⟩ := lay_fold C hs (k + 1) _ O' (by omega)
  refine ⟨o', ?_, by rw [List.length_cons, show k + (hs.length + 1) = k + 1 + hs.length by omega]; exact O2⟩
  rw [List.foldl_cons, List.length_cons, show k + (hs.length + 1) = k + 1 + hs.length by omega, <- e]
  congr 1
  simp [ej]
theorem lay_clean {mask : Nat} (C : Cyc mask) (hs : Array Int) (hl : hs.size <= mask) : ∃ o, SetTable.layClean mask hs = some o /\ Own mask hs.size o := by
 have O : Own mask 0 (Array.replicate (mask + 1) none) := ⟨by simp, by
  have : ∀ n : Nat, (List.replicate n (none : Option Nat)).filterMap id = [] := fun n => by
   induction n with
   | zero => rfl
   | succ n ih => rw [List.replicate_succ, List.filterMap_cons]; exact ih
  rw [Array.toList_replicate, this]
  exact .refl _⟩
 obtain ⟨o, e, O'⟩ := lay_fold C hs.toList 0 _ O (by rw [Array.length_toList]; omega)
 rw [Nat.zero_add, Array.length_toList] at e O'
 refine ⟨o, ?_, O'⟩
 unfold SetTable.layClean
 rw [<- Array.foldl_toList, e]
 rfl
theorem live_snd (mask : Nat) (o : Array (Option Nat)) (hz : o.size = mask + 1) : ((List.range (mask + 1)).filterMap fun j => (o.getD j none).map (j, ·)).map (·.2) = o.toList.filterMap id := by
 rw [List.map_filterMap]
 have e : o.toList = (List.range (mask + 1)).map fun j => o.getD j none := by
  apply List.ext_getElem?
  intro i
  rw [List.getElem?_map]
  by_cases hi : i < mask + 1
  ·rw [List.getElem?_range hi, Array.getElem?_toList, Array.getElem?_eq_getElem (by omega), Option.map_some]
   rw [Array.getD_eq_getD_getElem?, Array.getElem?_eq_getElem (by omega)]
   rfl
  ·rw [List.getElem?_eq_none (by rw [Array.length_toList]; omega), List.getElem?_eq_none (by rw [List.length_range]; omega)]
   rfl
 rw [e, List.filterMap_map]
 congr 1
 funext j
 simp only [Function.comp, id, Option.map_map]
 cases o.getD j none <;> rfl
theorem laid_ok {mask : Nat} (C : Cyc mask) (f mv : Nat) (ld pl : Bool) (hs : Array Int) (hl : hs.size <= mask) : ∃ t order, SetTable.laid mask f mv ld pl hs = some (t, order) /\ order.toList.Perm (List.range hs.size) /\ t.fits hs.size = true /\ t.mask = mask /\ t.dummies = #[] /\ t.led = ld /\ t.plain = pl := by
 obtain ⟨o, e, O⟩ := lay_clean C hs hl
 unfold SetTable.laid
 rw [e]
 have p : (((List.range (mask + 1)).filterMap fun j => (o.getD j none).map (j, ·)).map (·.2)).Perm (List.range hs.size) := by rw [live_snd mask o O.sz]; exact O.pm
 have ln : ((List.range (mask + 1)).filterMap fun j => (o.getD j none).map (j, ·)).length = hs.size := by
  have := p.length_eq
  rwa [List.length_map, List.length_range] at this
 refine ⟨_, _, rfl, by rw [List.toList_toArray]; exact p, ?_, rfl, rfl, rfl, rfl⟩
 unfold SetTable.fits SetTable.fill
 simp only [List.size_toArray, List.length_map, ln]
 simp [hl]
theorem order_perm {α : Type} (es : Array α) {order : Array Nat} (h : order.toList.Perm (List.range es.size)) : (order.filterMap (es[·]?)).toList.Perm es.toList := by
 rw [Array.toList_filterMap]
 refine (h.filterMap _).trans ?_
 have : (List.range es.size).filterMap (es[·]?) = es.toList := by
  have e : es.toList = (List.range es.size).filterMap fun i => es.toList[i]? := by
   have : ∀ l : List α, (List.range l.length).filterMap (fun i => l[i]?) = l := by
    intro l
    induction l with
    | nil => rfl
    | cons x l ih =>
     rw [List.length_cons, List.range_succ_eq_map, List.filterMap_cons, List.filterMap_map]
     simp only [List.getElem?_cons_zero]
     congr 1
   have := this es.toList
   rw [Array.length_toList] at this
   exact this.symm
  rw [e]
  congr 1
  funext i
  rw [Array.getElem?_toList]
 rw [this]
theorem above (n : Nat) (h : n < 64) : Cyc (SetTable.sizeAbove n - 1) /\ n < SetTable.sizeAbove n /\ SetTable.sizeAbove n <= 64 := by
 have : ∀ n < 64, (SetTable.sizeAbove n = 8 \/ SetTable.sizeAbove n = 16 \/ SetTable.sizeAbove n = 32 \/ SetTable.sizeAbove n = 64) /\ n < SetTable.sizeAbove n := by decide +kernel
 obtain ⟨h1, h2⟩ := this n h
 refine ⟨?_, h2, by omega⟩
 rcases h1 with e | e | e | e <;> rw [e]
 ·exact cyc7
 ·exact cyc15
 ·exact cyc31
 ·exact cyc63
end Lay
end L2
namespace L2
open PySem PySem.Spec PyProof.Rows
section
variable {prog : Program} {w : World} {A : Around} {E : Value -> Shared -> Prop} {s : Shared} {a : Addr} {us : List Str}
def reord (es : Array (Int × Value)) (laid : Option (SetTable × Array Nat)) : Sem (Array (Int × Value) × SetTable) := do
 let some (t, order) := laid | unsupported "internal:set-table-without-room"
 let es' := order.filterMap (es[·]?)
 if es'.size != es.size then unsupported "internal:set-table-lost-an-element"
 pure (es', t)
theorem any_reord {es : Array (Int × Value)} {t' : SetTable} {order : Array Nat} {Q : Array (Int × Value) × SetTable -> Shared -> Prop} (pm : order.toList.Perm (List.range es.size))
  (h : ∀ es' : Array (Int × Value), es'.toList.Perm es.toList -> Q (es', t') s) : wpAny (model prog w) A (reord es (some (t', order))) Q E s := by
 have p := Lay.order_perm es pm
 have sz : (order.filterMap (es[·]?)).size = es.size := by have := p.length_eq; rwa [Array.length_toList, Array.length_toList] at this
 unfold reord
 dsimp only
 rw [if_neg (by rw [sz]; simp)]
 exact wpAny_bind (wpAny_pure (wpAny_pure (h _ p)))
theorem SetT.perm {es es' : Array (Int × Value)} {t t' : SetTable} (T : SetT prog w us es t) (p : es'.toList.Perm es.toList) (ft : t'.fits es'.size = true) (pl : t'.plain = t.plain) (ld : t'.led = t.led) : SetT prog w us es' t' := by
 obtain ⟨vs, hv, pv⟩ := T.tx
 obtain ⟨vs', hv', pv'⟩ := strs_perm (p.map (·.2)) hv
 have sz : es'.size = es.size := by have := p.length_eq; simpa using this
 exact ⟨T.el.perm p, ⟨vs', hv', pv'.trans pv⟩, T.nd, by rw [sz]; exact T.lt, ft, by rw [sz, pl]; exact T.pl, by rw [ld]; exact T.ld⟩
def SetF (prog : Program) (w : World) (a : Addr) (us : List Str) (h : Heap) : Prop := ∃ es ep t, h.get? a = some (setO es ep t) /\ SetT prog w us es t /\ (us = [] -> t.mask = 7)
theorem SetF.sets {h : Heap} : SetF prog w a us h -> SetS prog w a us h := fun ⟨es, ep, t, ho, T, _⟩ => ⟨es, ep, t, ho, T⟩
theorem any_room {k : Nat} {Q : Unit -> Shared -> Prop} (S : SetF prog w a us s.heap) (hk : us.length + k < 32)
  (h : ∀ h' es ep t, Heap.SameBut a s.heap h' -> h'.get? a = some (setO es ep t) -> SetT prog w us es t -> (us = [] -> Lay.Cyc t.mask /\ k <= t.mask) -> Q () { s with heap := h' }) : wpAny (model prog w) A (setRoomFor a k) Q E s := by
 obtain ⟨es, ep, t, ho, T, hm⟩ := S
 unfold setRoomFor
 refine wpAny_bind (wpAny_setState_of ho rfl T.fit ?_)
 dsimp only
 have fz : t.place.size = us.length := by
  have := T.fit
  simp only [SetTable.fits, Bool.and_eq_true, beq_iff_eq] at this
  rw [this.1, T.size]
 cases e : t.roomFor k with
 | none =>
  dsimp only
  have es' : s = { s with heap := s.heap } := by cases s; rfl
  rw [es']
  refine wpAny_pure (h _ es ep t (Heap.SameBut.refl a s.heap) ho T fun z => ?_)
  have hm := hm z
  unfold SetTable.roomFor at e
  split at e
  ·cases e
  ·rename_i z2
   rw [hm]
   refine ⟨Lay.cyc7, ?_⟩
   unfold SetTable.fill at z2
   rw [hm] at z2
   omega
 | some wanted =>
  dsimp only
  have ew : wanted = (us.length + k) * 2 := by
   unfold SetTable.roomFor at e
   split at e
   ·injection e with e; rw [<- e, fz]
   ·cases e
  obtain ⟨C, lt, le⟩ := Lay.above wanted (by omega)
  have hz : (es.map (·.1)).size = us.length := by rw [Array.size_map, T.size]
  obtain ⟨t', order, e, pm, ft, mk, _, ld, pl⟩ := Lay.laid_ok C t.finger (t.movedTo (SetTable.sizeAbove wanted - 1)) t.led t.plain (es.map (·.1)) (by omega)
  rw [Array.size_map] at pm ft
  unfold setRelay
  refine wpAny_bind (wpAny_setState_of ho rfl T.fit ?_)
  dsimp only
  rw [if_neg (by rw [sizeLine_eq]; omega)]
  unfold SetTable.relaid
  rw [e]
  refine wpAny_bind (m := reord es (some (t', order))) (any_reord pm fun es' p => ?_)
  have sz : es'.size = es.size := by have := p.length_eq; simpa using this
  have T' : SetT prog w us es' t' := T.perm p (by rw [sz]; exact ft) pl ld
  refine wpAny_storeSet_of ho rfl (h _ es' (ep + 1) t' (Heap.SameBut.update s.heap a _) (Heap.get?_update_self (Obj.putSet es' t') ho rfl) T' fun z => ?_) (fits_of_scanBound T'.lt)
  rw [mk]
  exact ⟨C, by omega⟩
theorem any_walk {es : Array (Int × Value)} {ep : Nat} {t : SetTable} {Q : Array (Int × Value) -> Shared -> Prop} (ho : s.heap.get? a = some (setO es ep t)) (T : SetT prog w us es t)
  (h : ∀ (out : Array (Int × Value)) d, out.toList.Perm es.toList -> Q out { s with drawn := d }) : wpAny (model prog w) A (setWalk a) Q E s := by
 have es' : s = { s with drawn := s.drawn } := by cases s; rfl
 unfold setWalk
 refine wpAny_bind (wpAny_setState_of ho rfl T.fit ?_)
 dsimp only
 refine wpAny_bind (any_byText ?_)
 cases hb : byT w with
 | true =>
  rw [if_pos rfl]
  refine wpAny_bind (wpAny_askSetting (wpAny_pure ?_))
  rw [es']
  exact h _ _ (pick_perm _ _)
 | false =>
  rw [if_neg Bool.false_ne_true]
  split
  ·refine wpAny_bind (any_drawOrder _ _ _ (by simp) fun ys d p => wpAny_pure ?_)
   exact h _ d (by rw [List.toList_toArray]; exact p)
  ·have hl : t.led = true := by rw [T.ld, hb]; rfl
   have : (!t.led && decide (es.size > 1)) = false := by rw [hl]; rfl
   refine wpAny_bind (m := (if (!t.led && decide (es.size > 1)) = true then unsupported "set:maker-not-led" else pure PUnit.unit)) ?_
   rw [this, if_neg Bool.false_ne_true]
   refine wpAny_pure (wpAny_pure ?_)
   rw [es']
   exact h _ _ (.refl _)
theorem any_quiet {o : Addr} {vs : List Str} {Q : Bool -> Shared -> Prop} (S : SetS prog w a us s.heap) (O : SetS prog w o vs s.heap) (h : Q true s) : wpAny (model prog w) A (setsQuiet [o, a]) Q E s := by
 unfold setsQuiet
 refine wpAny_bind (wpAny_forIn_list _ (fun l b s' => b.1 = none /\ s' = s /\ ∀ x ∈ l, x = o \/ x = a) _ ?_ ?_ _ _ ⟨rfl, rfl, fun x hx => by simpa using hx⟩)
 ·rintro x rest b s' ⟨hb, rfl, hx⟩
  obtain ⟨us', es, ep, t, ho, T⟩ : ∃ us', SetS prog w x us' s'.heap := by
   rcases hx x (.head _) with rfl | rfl
   ·exact ⟨_, O⟩
   ·exact ⟨_, S⟩
  refine wpAny_bind (any_entries ho T.fit ?_)
  refine wpAny_bind (PySem.MeetsSeq2.wpAny_forIn_array _ (fun l b s'' => b.1 = none /\ s'' = s' /\ ∀ e ∈ l, e ∈ es.toList) _ ?_ ?_ _ _ ⟨rfl, rfl, fun e he => he⟩)
  ·rintro ⟨hh, v⟩ rest' b' s'' ⟨hb', rfl, he⟩
   obtain ⟨⟨k, hk, _⟩, _⟩ := T.el (hh, v) (he _ (.head _))
   obtain ⟨tk, ev⟩ := Value.isStrOf_shape (show Value.isStrOf k v = true from hk)
   subst ev
   exact wpAny_pure ⟨rfl, rfl, fun e h => he e (.tail _ h)⟩
  ·rintro b' s'' ⟨hb', rfl, _⟩
   dsimp only
   rw [hb']
   exact wpAny_pure ⟨rfl, rfl, fun x h => hx x (.tail _ h)⟩
 ·rintro b s' ⟨hb, rfl, _⟩
  dsimp only
  rw [hb]
  exact wpAny_pure h
theorem any_walkU {o : Addr} {vs : List Str} {es : Array (Int × Value)} {ep : Nat} {t : SetTable} {Q : Array (Int × Value) -> Shared -> Prop} (S : SetS prog w a us s.heap) (ho : s.heap.get? o = some (setO es ep t)) (T : SetT prog w vs es t)
  (h : ∀ (out : Array (Int × Value)) h' d, out.toList.Perm es.toList -> Heap.SameBut a s.heap h' -> SetS prog w a us h' -> Q out { s with heap := h', drawn := d }) : wpAny (model prog w) A (setWalkUnseen o [a] (some a)) Q E s := by
 have wk : wpAny (model prog w) A (setWalk o) Q E s := any_walk ho T fun out d p => h out s.heap d p (Heap.SameBut.refl a s.heap) S
 unfold setWalkUnseen
 refine wpAny_bind (wpAny_setState_of ho rfl T.fit ?_)
 dsimp only
 refine wpAny_bind (any_byText ?_)
 split
 ·exact wk
 ·rename_i z
  have hsz : 1 < es.size := by
   apply Nat.lt_of_not_le
   intro z2
   apply z
   rw [decide_eq_true z2, Bool.or_true]
  have hp : t.plain = false := T.pl.resolve_left (by omega)
  refine wpAny_bind (any_quiet S ⟨es, ep, t, ho, T⟩ ?_)
  rw [if_neg (by simp)]
  obtain ⟨ef, epf, tf, hf, F⟩ := id S
  refine wpAny_bind (wpAny_rule ?_)
  refine wpAny_bind (wpAny_setState_of hf rfl F.fit ?_)
  dsimp only
  split
  ·have F' : SetT prog w us ef { tf with led := tf.led && t.led, plain := tf.plain && t.plain } := ⟨F.el, F.tx, F.nd, F.lt, F.fit, .inr (by show (tf.plain && t.plain) = false; rw [hp, Bool.and_false]), by show (tf.led && t.led) = _; rw [F.ld, T.ld, Bool.and_self]⟩
   refine wpAny_bind (wpAny_storeSet_of hf rfl ?_ (fits_of_scanBound F.lt))
   have e : ∀ hp' : Heap, ({ s with heap := hp' } : Shared) = { s with heap := hp', drawn := s.drawn } := fun _ => rfl
   rw [e]
   exact wpAny_pure (h _ _ _ (.refl _) (Heap.SameBut.update s.heap a _) ⟨ef, epf + 1, _, Heap.get?_update_self (Obj.putSet ef _) hf rfl, F'⟩)
  ·have e : s = { s with heap := s.heap, drawn := s.drawn } := by cases s; rfl
   rw [e]
   exact wpAny_pure (h _ _ _ (.refl _) (Heap.SameBut.refl a s.heap) S)
theorem SetS.same {h : Heap} {us' : List Str} (S : SetS prog w a us h) (n : us'.Nodup) (e : ∀ x, x ∈ us ↔ x ∈ us') : SetS prog w a us' h := by
 obtain ⟨es, ep, t, ho, T⟩ := S
 obtain ⟨vs, hv, pv⟩ := T.tx
 exact ⟨es, ep, t, ho, T.el, ⟨vs, hv, pv.trans ((List.perm_ext_iff_of_nodup T.nd n).mpr e)⟩, n, T.lt, T.fit, T.pl, T.ld⟩
theorem any_merge {o : Addr} {vs : List Str} {each : Sem Unit} {Q : Unit -> Shared -> Prop} (ne : a ≠ o) (S : SetF prog w a us s.heap) (O : SetS prog w o vs s.heap) (hl : us.length + vs.length < 32)
  (he : ∀ (s' : Shared) (Q' : Unit -> Shared -> Prop), s'.heap.get? o = s.heap.get? o -> Q' () s' -> wpAny (model prog w) A each Q' E s')
  (h : ∀ h' d, Heap.SameBut a s.heap h' -> SetF prog w a (setL (us ++ vs)) h' -> Q () { s with heap := h', drawn := d }) : wpAny (model prog w) A (setMerge a o each) Q E s := by
 obtain ⟨es, ep, t, ho, T⟩ := id O
 have e0 : ∀ s : Shared, s = { s with heap := s.heap, drawn := s.drawn } := fun s => by cases s; rfl
 unfold setMerge
 rw [if_neg (by simpa using ne)]
 refine wpAny_bind (wpAny_setState_of ho rfl T.fit ?_)
 dsimp only
 by_cases z0 : es.size = 0
 ·rw [if_pos (by simpa [Array.isEmpty_iff_size_eq_zero] using z0)]
  have ev : vs = [] := List.eq_nil_of_length_eq_zero (by rw [<- T.size]; exact z0)
  subst ev
  rw [e0 s]
  refine wpAny_pure (h _ _ (Heap.SameBut.refl a s.heap) ?_)
  obtain ⟨es1, ep1, t1, h1, T1, m1⟩ := S
  have en : ∀ x, x ∈ us ↔ x ∈ setL (us ++ []) := fun x => by rw [setL_mem, List.append_nil]
  obtain ⟨vs1, hv1, pv1⟩ := T1.tx
  refine ⟨es1, ep1, t1, h1, ⟨T1.el, ⟨vs1, hv1, pv1.trans ((List.perm_ext_iff_of_nodup T1.nd (setL_nd _)).mpr en)⟩, setL_nd _, T1.lt, T1.fit, T1.pl, T1.ld⟩, fun z => m1 ?_⟩
  refine List.eq_nil_iff_forall_not_mem.mpr fun x hx => ?_
  have := (en x).mp hx
  rw [z] at this
  exact nomatch this
 rw [if_neg (by simpa [Array.isEmpty_iff_size_eq_zero] using z0)]
 have hp : t.plain = false := T.pl.resolve_left z0
 have hv0 : vs ≠ [] := fun z => z0 (by rw [T.size, z]; rfl)
 have nn : setL (us ++ vs) ≠ [] := fun z => by
  obtain ⟨x, hx⟩ := List.exists_mem_of_ne_nil _ hv0
  have := (setL_mem (us ++ vs) x).mpr (List.mem_append_right _ hx)
  rw [z] at this
  exact nomatch this
 have full : ∀ h', SetS prog w a (setL (us ++ vs)) h' -> SetF prog w a (setL (us ++ vs)) h' := fun h' ⟨es, ep, t, ho, T⟩ => ⟨es, ep, t, ho, T, fun z => absurd z nn⟩
 refine wpAny_bind (any_room S (by rw [T.size]; exact hl) fun h1 es1 ep1 t1 b1 g1 T1 m1 => ?_)
 have ho1 : h1.get? o = some (setO es ep t) := by rw [b1.2 o (Ne.symm ne)]; exact ho
 refine wpAny_bind (wpAny_setState_of (s := { s with heap := h1 }) g1 rfl T1.fit ?_)
 dsimp only
 have fz : t1.place.size = us.length := by
  have := T1.fit
  simp only [SetTable.fits, Bool.and_eq_true, beq_iff_eq] at this
  rw [this.1, T1.size]
 have nil : t1.fill = 0 -> us = [] := fun z => List.eq_nil_of_length_eq_zero (by unfold SetTable.fill at z; omega)
 cases er : t1.road t with
 | slotForSlot =>
  dsimp only
  have f0 : t1.fill = 0 := by
   unfold SetTable.road at er
   split at er
   ·cases er
   ·rename_i q; simpa using q
  have eu := nil f0
  subst eu
  have T2 : SetT prog w (setL ([] ++ vs)) es { t with finger := t1.finger, led := t1.led && t.led, moves := t1.moves, plain := t1.plain && t.plain } := by
   obtain ⟨vs1, hv1, pv1⟩ := T.tx
   exact ⟨T.el, ⟨vs1, hv1, pv1.trans ((List.perm_ext_iff_of_nodup T.nd (setL_nd _)).mpr fun x => by rw [setL_mem, List.nil_append])⟩, setL_nd _, T.lt, T.fit, .inr (by show (t1.plain && t.plain) = false; rw [hp, Bool.and_false]), by show (t1.led && t.led) = _; rw [T1.ld, T.ld, Bool.and_self]⟩
  refine wpAny_storeSet_of g1 rfl ?_ (fits_of_scanBound T.lt)
  exact h _ s.drawn (b1.trans (Heap.SameBut.update h1 a _)) (full _ ⟨es, ep1 + 1, _, Heap.get?_update_self (Obj.putSet es _) g1 rfl, T2⟩)
 | clean =>
  dsimp only
  have f0 : t1.fill = 0 := by
   unfold SetTable.road at er
   split at er
   ·cases er
   ·rename_i q; simpa using q
  have eu := nil f0
  subst eu
  obtain ⟨C, hk⟩ := m1 rfl
  obtain ⟨t', order, e, pm, ft, mk, _, ld, pl⟩ := Lay.laid_ok C t1.finger t1.moves (t1.led && t.led) (t1.plain && t.plain) (es.map (·.1)) (by rw [Array.size_map]; exact hk)
  rw [Array.size_map] at pm ft
  rw [e]
  refine wpAny_bind (m := reord es (some (t', order))) (any_reord pm fun es' p => ?_)
  have sz : es'.size = es.size := by have := p.length_eq; simpa using this
  have T2 : SetT prog w (setL ([] ++ vs)) es' t' := by
   obtain ⟨vs1, hv1, pv1⟩ := T.tx
   obtain ⟨vs', hv', pv'⟩ := strs_perm (p.map (·.2)) hv1
   exact ⟨T.el.perm p, ⟨vs', hv', (pv'.trans pv1).trans ((List.perm_ext_iff_of_nodup T.nd (setL_nd _)).mpr fun x => by rw [setL_mem, List.nil_append])⟩, setL_nd _, by rw [sz]; exact T.lt, by rw [sz]; exact ft, .inr (by rw [pl, hp, Bool.and_false]), by rw [ld, T1.ld, T.ld, Bool.and_self]⟩
  refine wpAny_storeSet_of g1 rfl ?_ (fits_of_scanBound T2.lt)
  exact h _ s.drawn (b1.trans (Heap.SameBut.update h1 a _)) (full _ ⟨es', ep1 + 1, _, Heap.get?_update_self (Obj.putSet es' _) g1 rfl, T2⟩)
 | oneByOne =>
  dsimp only
  refine wpAny_bind (any_walkU (s := { s with heap := h1 }) ⟨es1, ep1, t1, g1, T1⟩ ho1 T fun out h2 d p b2 S2 => ?_)
  have ho2 : h2.get? o = some (setO es ep t) := by rw [b2.2 o (Ne.symm ne)]; exact ho1
  have b12 := b1.trans b2
  refine wpAny_bind (PySem.MeetsSeq2.wpAny_forIn_array _ (fun l _ s' => ∃ (us' : List Str) (h' : Heap), s' = { s with heap := h', drawn := d } /\ Heap.SameBut a s.heap h' /\ SetS prog w a us' h' /\ (∀ e ∈ l, e ∈ es.toList) /\ us'.length + l.length < 32 /\ ∀ y, (y ∈ us' \/ ∃ e ∈ l, (PySem.strKind prog w).is y e.2 = true) ↔ (y ∈ us \/ y ∈ vs)) _ ?_ ?_ _ _ ?_)
  ·rintro ⟨hh, v⟩ rest b s' ⟨us', h', rfl, b', S', hm, hlen, hy⟩
   obtain ⟨⟨k, hk, eh⟩, _⟩ := T.el (hh, v) (hm _ (.head _))
   obtain ⟨tk, ev⟩ := Value.isStrOf_shape (show Value.isStrOf k v = true from hk)
   subst ev
   have eh : hh = (PySem.strKind prog w).hash k := eh
   subst eh
   rw [List.length_cons] at hlen
   have hb4 : scanBound = 4096 := rfl
   refine wpAny_bind (wpAny_holding (any_addT (s := { s with heap := h', drawn := d }) S' (by omega) fun bb h3 b3 S3 => ?_))
   have b13 := b'.trans b3
   have ho3 : h3.get? o = some (setO es ep t) := by rw [b13.2 o (Ne.symm ne)]; exact ho
   refine wpAny_bind (he _ _ (by show h3.get? o = s.heap.get? o; rw [ho3, ho]) ?_)
   refine wpAny_bind (wpAny_setState_of (s := { s with heap := h3, drawn := d }) ho3 rfl T.fit ?_)
   rw [if_neg (by simp)]
   refine wpAny_pure ⟨addS us' k, h3, rfl, b13, S3, fun e q => hm e (.tail _ q), ?_, fun y => ?_⟩
   ·have : (addS us' k).length <= us'.length + 1 := by
     unfold addS
     split
     ·omega
     ·rw [List.length_append]; exact Nat.le_refl _
    omega
   ·rw [addS_mem, <- hy y]
    have isk : (PySem.strKind prog w).is y (.str k tk) = true ↔ y = k := ⟨fun q => by
     obtain ⟨u, q⟩ := Value.isStrOf_shape (show Value.isStrOf y (.str k tk) = true from q)
     injection q with q1 q2
     exact q1.symm, fun q => by subst q; exact hk⟩
    constructor
    ·rintro ((q | q) | ⟨e, q1, q2⟩)
     ·exact .inl q
     ·exact .inr ⟨_, .head _, isk.mpr q⟩
     ·exact .inr ⟨e, .tail _ q1, q2⟩
    ·rintro (q | ⟨e, q1, q2⟩)
     ·exact .inl (.inl q)
     ·rcases List.mem_cons.mp q1 with rfl | q1
      ·exact .inl (.inr (isk.mp q2))
      ·exact .inr ⟨e, q1, q2⟩
  ·rintro b s' ⟨us', h', rfl, b', S', _, _, hy⟩
   refine wpAny_pure (h h' d b' (full _ (S'.same (setL_nd _) fun x => ?_)))
   rw [setL_mem, List.mem_append, <- hy x]
   exact ⟨.inl, fun q => q.elim id fun ⟨_, q, _⟩ => nomatch q⟩
  ·refine ⟨us, h2, rfl, b12, S2, fun e q => p.mem_iff.mp q, ?_, fun y => ?_⟩
   ·have h1 := p.length_eq
    have h2 : es.toList.length = vs.length := by rw [Array.length_toList, T.size]
    omega
   ·rw [T.mem y]
    exact ⟨fun q => q.imp id fun ⟨e, q1, q2⟩ => ⟨e, p.mem_iff.mp q1, q2⟩, fun q => q.imp id fun ⟨e, q1, q2⟩ => ⟨e, p.mem_iff.mpr q1, q2⟩⟩
end
end L2
namespace L2
open PySem PySem.Spec PyProof.Rows
theorem en_or : entryFor table "set.__or__" = some Builtin.«frozenset.__or__» := entryFor_alias (id' := "frozenset.__or__") (by kernel_rfl) rfl (by decide +kernel) (by kernel_rfl)
section
variable {prog : Program} {w : World} {A : Around} {E : Value -> Shared -> Prop} {s : Shared} {a : Addr} {us : List Str}
open PySem.Builtin.Frozenset in
def unionB (id : String) (l : Addr) (r : Value) : Sem Value := do
 let result <- copyOf l
 if r != .ref l then holding [result] (updateFrom id (<- addrOf result) r)
 return result
open PySem.Builtin.Frozenset in
def orB (args : Args) : Sem Fin := do
 let (self, other) <- slot1 "__or__" args
 let (l, r) := if false then (other, self) else (self, other)
 if !(<- isAnySet l <&&> isAnySet r) then rule s!"frozenset.{"__or__"}.declined"; return <- ret .notImplemented
 ret (<- unionB s!"frozenset.{"__or__"}" (<- addrOf l) r)
theorem or_is : Builtin.«frozenset.__or__» = orB := rfl
theorem any_anySet {Q : Bool -> Shared -> Prop} (ht : s.TypeIs (.ref a) "set") (h : Q true s) : wpAny (model prog w) A (Builtin.Frozenset.isAnySet (.ref a)) Q E s := by
 unfold Builtin.Frozenset.isAnySet
 refine wpAny_bind (wpAny_isInstance (T := "set") (b := true) ht sub_ss ?_)
 exact wpAny_pure h
theorem SetS.ty {h : Heap} (S : SetS prog w a us s.heap) : s.TypeIs (.ref a) "set" := by
 obtain ⟨es, ep, t, ho, T⟩ := S
 exact ⟨_, ho, rfl⟩
theorem any_copy {Q : Value -> Shared -> Prop} (S : SetS prog w a us s.heap) (hl : us.length < 32)
  (h : ∀ h' d, SetF prog w s.heap.objs.size (setL us) h' -> s.heap.objs.size < h'.objs.size -> (∀ b o, b < s.heap.objs.size -> s.heap.get? b = some o -> h'.get? b = some o) -> Q (.ref s.heap.objs.size) { s with heap := h', drawn := d }) :
  wpAny (model prog w) A (Builtin.Frozenset.copyOf a) Q E s := by
 have ht : s.TypeIs (.ref a) "set" := SetS.ty (h := s.heap) S
 obtain ⟨es, ep, t, ho, T⟩ := id S
 have la : a < s.heap.objs.size := Heap.lt_size ho
 unfold Builtin.Frozenset.copyOf Builtin.Frozenset.baseOf newSet
 refine wpAny_bind (wpAny_bind (wpAny_isInstance (T := "set") (b := true) ht sub_ss (wpAny_pure ?_)))
 rw [if_pos rfl]
 refine wpAny_bind (wpAny_bind (any_byText ?_))
 dsimp only
 refine wpAny_newObj_type ?_ (by size_fits)
 refine wpAny_bind (wpAny_pure ?_)
 have g0 : (s.heap.push (setO #[] 0 (.fresh 0 0 (!byT w)))).get? s.heap.objs.size = some (setO #[] 0 (.fresh 0 0 (!byT w))) := Heap.get?_push_size _ rfl
 have F0 : SetF prog w s.heap.objs.size [] (s.heap.push (setO #[] 0 (.fresh 0 0 (!byT w)))) := ⟨#[], 0, .fresh 0 0 (!byT w), g0, ⟨fun e he => by simp at he, ⟨[], .nil, .refl _⟩, List.nodup_nil, by decide, by simp [SetTable.fits, SetTable.fresh, SetTable.fill], .inl rfl, rfl⟩, fun _ => rfl⟩
 have S1 : SetS prog w a us (s.heap.push (setO #[] 0 (.fresh 0 0 (!byT w)))) := ⟨es, ep, t, Heap.get?_push_of_some _ ho, T⟩
 refine wpAny_bind (any_merge (s := { s with heap := s.heap.push (setO #[] 0 (.fresh 0 0 (!byT w))) }) (Nat.ne_of_gt la) F0 S1 (by simpa using hl) (fun s' Q' _ q => wpAny_pure q) fun h' d b F => ?_)
 rw [List.nil_append] at F
 refine wpAny_pure (h h' d F (by rw [b.1, Heap.size_push]; omega) fun x o hx e => ?_)
 rw [b.2 x (Nat.ne_of_lt hx)]
 exact Heap.get?_push_of_some _ e
theorem any_or {o : Addr} {vs : List Str} {Q : Value -> Shared -> Prop} (ne : o ≠ a) (S : SetS prog w a us s.heap) (O : SetS prog w o vs s.heap) (hl : us.length + vs.length < 32)
  (h : ∀ h' d, SetS prog w s.heap.objs.size (setL (us ++ vs)) h' -> (∀ b o, b < s.heap.objs.size -> s.heap.get? b = some o -> h'.get? b = some o) -> Q (.ref s.heap.objs.size) { s with heap := h', drawn := d }) :
  wpAny (model prog w) A (binaryOp .BitOr (.ref a) (.ref o)) Q E s := by
 have ht : s.TypeIs (.ref a) "set" := SetS.ty (h := s.heap) S
 have ht2 : s.TypeIs (.ref o) "set" := SetS.ty (h := s.heap) O
 obtain ⟨es, ep, t, ho, T⟩ := id O
 refine wpAny_binaryOp_same (op := .BitOr) (T := "set") ht ht2 F.fills_set_or F.slot_set_or (wpAny_call_entry F.slot_set_or ht en_or ?_ (F.args_set_or_2 _ _))
 rw [or_is]
 show wpAny _ _ (do
  if !(<- Builtin.Frozenset.isAnySet (.ref a) <&&> Builtin.Frozenset.isAnySet (.ref o)) then rule s!"frozenset.{"__or__"}.declined"; return <- ret .notImplemented
  ret (<- unionB s!"frozenset.{"__or__"}" (<- Builtin.Frozenset.addrOf (.ref a)) (.ref o))) _ _ _
 refine wpAny_bind (wpAny_bind (any_anySet ht ?_))
 refine any_anySet ht2 ?_
 rw [if_neg (by simp)]
 refine wpAny_bind (wpAny_pure ?_)
 have lo : o < s.heap.objs.size := Heap.lt_size ho
 unfold unionB
 refine wpAny_bind (wpAny_bind (any_copy S (by omega) fun h1 d1 F1 z1 k1 => ?_))
 rw [if_pos (by simpa using ne)]
 have ho1 : h1.get? o = some (setO es ep t) := k1 o _ lo ho
 have ht3 : Shared.TypeIs { s with heap := h1, drawn := d1 } (.ref o) "set" := ⟨_, ho1, rfl⟩
 unfold Builtin.Frozenset.updateFrom
 refine wpAny_bind (wpAny_pure (wpAny_bind (wpAny_holding (wpAny_bind (any_anySet ht3 ?_)))))
 rw [if_pos rfl]
 refine wpAny_bind (wpAny_pure ?_)
 unfold Builtin.Frozenset.merge
 refine wpAny_bind (wpAny_setEpoch_of (s := { s with heap := h1, drawn := d1 }) ho1 rfl T.fit ?_)
 have ln : (setL us).length <= us.length := by
  have : ∀ (l m : List Str), (l.foldl addS m).length <= m.length + l.length := by
   intro l
   induction l with
   | nil => exact fun m => Nat.le_refl _
   | cons x l ih =>
    intro m
    rw [List.foldl_cons, List.length_cons]
    refine Nat.le_trans (ih _) ?_
    unfold addS
    split
    ·omega
    ·rw [List.length_append, List.length_singleton]; omega
  have := this us []
  simpa [setL] using this
 refine any_merge (s := { s with heap := h1, drawn := d1 }) (Nat.ne_of_gt lo) F1 ⟨es, ep, t, ho1, T⟩ (by omega) (fun s' Q' e q => ?_) fun h2 d2 b2 F2 => ?_
 ·unfold Builtin.Frozenset.unchanged
  refine wpAny_bind (wpAny_setEpoch_of (s := s') (by rw [e]; exact ho1) rfl T.fit ?_)
  rw [if_neg (by simp)]
  exact wpAny_pure q
 ·refine wpAny_pure ?_
  refine wpAny_pure ⟨_, rfl, by simp, h h2 d2 (F2.sets.same (setL_nd _) fun x => ?_) fun b o' hb e => ?_⟩
  ·rw [setL_mem, setL_mem, List.mem_append, List.mem_append, setL_mem]
  ·rw [b2.2 b (Nat.ne_of_lt hb)]
   exact k1 b o' hb e
end
end L2
namespace L2
open PySem PySem.Spec PyProof.Rows
section
variable {prog : Program} {w : World} {A : Around} {E : Value -> Shared -> Prop} {s : Shared}
section
variable {l : Addr} {items : Array Value} {Q : Value -> Shared -> Prop} (hh : A.handled = none) (hl : s.heap.IsTuple l items)
include hh hl
theorem any_setTW {R : Heap -> Prop} (hw : ∀ (o : Obj) (lt : l < s.heap.objs.size) (hh3 : A.in1.in1.in1.handled = none) (ne : l ≠ (s.heap.push (set0 w)).objs.size) (nf : s.heap.objs.size ∉ [(s.heap.push (set0 w)).objs.size, l]) (s1 : Shared), s1 = { s with heap := (s.heap.push (set0 w)).push { cls := .type "tuple_iterator", data := .fields #[.ref l, .int 0 0] } } -> s1.heap.get? s.heap.objs.size = some (set0 w) -> s1.heap.IsTupleIter (s.heap.push (set0 w)).objs.size l 0 /\ s1.heap.IsTuple l items ->
   codeAny (model prog w) A.in1.in1 (.builtin "set.update.loop" ⟨[.ref s.heap.objs.size, .ref (s.heap.push (set0 w)).objs.size], []⟩) (wants (fun _ s' => SetK s R s') E) s1)
  (h : ∀ (h' : Heap) (tk : Nat), R h' -> (∀ b o, b < s.heap.objs.size -> s.heap.get? b = some o -> h'.get? b = some o) -> Q (.ref s.heap.objs.size) { s with heap := h', toks := tk }) : wpAny (model prog w) A (call (.type "set") [.ref l]) Q E s := by
 obtain ⟨ol, hol, hcl, nl, hdl⟩ := id hl
 have hlS : l < s.heap.objs.size := Heap.lt_size hol
 refine any_setW (R := SetK s R) hol hcl F.sub_tuple_set F.sub_tuple_frozenset (by decide) (wpAny_pyIter_tuple (hl.push _) (wpAny_runValue ?_)) fun s' ⟨h', tk, e, p, k⟩ => by subst e; exact h h' tk p k
 refine hw ol hlS (by simp [hh]) ?_ ?_ _ rfl (Heap.get?_push_of_some _ (Heap.get?_push_size _ rfl)) ⟨⟨_, Heap.get?_push_size _ rfl, rfl, rfl⟩, (hl.push _).push _⟩
 ·rw [Heap.size_push]; exact Nat.ne_of_lt (Nat.lt_succ_of_lt hlS)
 ·rw [Heap.size_push]
  simp only [List.mem_cons, List.not_mem_nil, or_false, not_or]
  exact ⟨Nat.ne_of_lt (Nat.lt_succ_self _), Nat.ne_of_gt hlS⟩
theorem any_setTup {ss : List Str} (hi : StrsAre items.toList ss) (hb : ss.length + 1 < scanBound)
  (h : ∀ (h' : Heap) (tk : Nat), SetS prog w s.heap.objs.size (setL ss) h' -> (∀ b o, b < s.heap.objs.size -> s.heap.get? b = some o -> h'.get? b = some o) -> Q (.ref s.heap.objs.size) { s with heap := h', toks := tk }) :
  wpAny (model prog w) A (call (.type "set") [.ref l]) Q E s := by
 have hz : items.size = ss.length := by have := strs_len hi; simpa using this
 have hm : metS (fun i => ss.getD i ⟨#[]⟩) items.size = setL ss := by rw [hz]; exact metS_all fun i hi => by simp [hi]
 refine any_setTW hh hl (fun o lt hh3 ne nf s1 e1 g1 st => ?_) h
 subst e1
 exact loopSetS2 ((Walks.tuple hh3 _ l ne items).toS) s.heap.objs.size nf (fun i => ss.getD i ⟨#[]⟩) (fun i v hv => strs_at hi i v (by rw [Array.getElem?_toList]; exact hv)) (by rw [hm]; exact Nat.lt_of_le_of_lt (Nat.succ_le_succ (WordM.nodup_len (setL_nd ss) fun x hx => (setL_mem ss x).mp hx)) hb) (items.size - 0) 0 _ (by omega) (Nat.zero_le _) st (set0_S g1) fun s' m S' => set_moved m m.gens (by rw [hm] at S'; exact S')
end
end
end L2
namespace L2
open PySem PySem.Spec PyProof.Rows
theorem sub_df : isSubtype (.type "dict") (.type "frozenset") = pure false := by rw [isSubtype_type]; kernel_rfl
section
variable {prog : Program} {w : World} {A : Around} {E : Value -> Shared -> Prop} {s : Shared} {a : Addr} {us : List Str}
theorem pairs_at : ∀ {l : List DictEntry} {kvs : List (Key × Value)}, Pairs (mixKind prog w) l kvs -> ∀ {us : List Str}, kvs.map (·.1) = us.map Sum.inr -> l.length = us.length /\ ∀ (i : Nat) (e : DictEntry), l[i]? = some e -> ∃ x, us[i]? = some x /\ (mixKind prog w).is (Sum.inr x) e.key = true
 | _, _, .nil, us, h => by
  cases us with
  | nil => exact ⟨rfl, fun i e z => by simp at z⟩
  | cons x us => simp at h
 | _, _, .cons hk hv r, us, h => by
  cases us with
  | nil => simp at h
  | cons x us =>
   simp only [List.map_cons, List.cons.injEq] at h
   obtain ⟨h1, h2⟩ := h
   obtain ⟨a, b⟩ := pairs_at r h2
   refine ⟨by simp [a], fun i e z => ?_⟩
   cases i with
   | zero =>
    simp only [List.getElem?_cons_zero, Option.some.injEq] at z
    subst z
    refine ⟨x, rfl, ?_⟩
    rw [<- h1]
    first | exact hk | exact hv
   | succ i => exact b i e (by simpa using z)
theorem any_dictLoop {d : Addr} {ob : Obj} {es : Array DictEntry} {ep : Nat} {us : List Str} {Q : PUnit -> Shared -> Prop} (ne : d ≠ a) (hob : s.heap.get? d = some ob) (hd : ob.data = .dict es ep) (hk : KeysOf (mixKind prog w) es) (hl : es.size = us.length)
    (hi : ∀ (i : Nat) (e : DictEntry), es[i]? = some e -> ∃ x, us[i]? = some x /\ (mixKind prog w).is (Sum.inr x) e.key = true) (S : SetS prog w a [] s.heap) (hb : us.length < 4000)
    (h : ∀ h', Heap.SameBut a s.heap h' -> SetS prog w a (setL us) h' -> Q ⟨⟩ { s with heap := h' }) :
    wpAny (model prog w) A (forIn [:es.size] PUnit.unit fun i __s => do
              let __do_lift <- dictEntries d
              match __do_lift[i]? with
                | some e => do
                  let _ <- holding [e.key] (setAddHashed a e.key e.hash)
                  let __do_lift <- dictEpoch d
                  if (__do_lift != ep) = true then do
                      unsupported (toString "set.__init__" ++ toString ":changed-during-callback")
                      pure (ForInStep.yield PUnit.unit)
                    else pure (ForInStep.yield PUnit.unit)
                | x => do
                  unsupported "internal:set-from-dict"
                  pure (ForInStep.yield PUnit.unit)) Q E s := by
  rw [Std.Legacy.Range.forIn_eq_forIn_range']
  have hb4 : scanBound = 4096 := rfl
  refine wpAny_forIn_list _ (fun l _ s' => ∃ (k : Nat) (h' : Heap), l = List.range' k (es.size - k) 1 /\ k <= es.size /\ s' = { s with heap := h' } /\ Heap.SameBut a s.heap h' /\ SetS prog w a (setL (us.take k)) h') Q ?_ ?_ _ _ ?_
  · rintro x rest b s' ⟨k, h', el, hk', rfl, b', S'⟩
    have hlt : k < es.size := by
      apply Nat.lt_of_not_le
      intro z
      rw [show es.size - k = 0 by omega] at el
      cases el
    rw [show es.size - k = (es.size - (k + 1)) + 1 by omega, List.range'_succ] at el
    obtain ⟨rfl, rfl⟩ : x = k /\ rest = List.range' (k + 1) (es.size - (k + 1)) 1 := by injection el with e1 e2; exact ⟨e1, e2⟩
    have ho' : h'.get? d = some ob := by rw [b'.2 d ne]; exact hob
    refine wpAny_bind (wpAny_dictEntries (s := { s with heap := h' }) ho' hd ?_)
    have ee : es[x]? = some es[x] := Array.getElem?_eq_getElem hlt
    rw [ee]
    dsimp only
    obtain ⟨y, ey, iy⟩ := hi x _ ee
    obtain ⟨key, hkk, hh⟩ := hk es[x] (Array.getElem_mem hlt)
    have : key = Sum.inr y := (mixKind prog w).inj _ _ _ hkk iy
    subst this
    obtain ⟨tk, ev⟩ := Value.isStrOf_shape (show Value.isStrOf y es[x].key = true from iy)
    rw [ev, hh]
    have ln : (setL (us.take x)).length <= x := by
      have := WordM.nodup_len (setL_nd (us.take x)) (m := us.take x) fun z hz => (setL_mem _ z).mp hz
      rw [List.length_take] at this
      omega
    refine wpAny_bind (wpAny_holding (any_addT (s := { s with heap := h' }) (x := y) S' (by omega) fun bb h3 b3 S3 => ?_))
    have b13 := b'.trans b3
    have ho3 : h3.get? d = some ob := by rw [b13.2 d ne]; exact hob
    refine wpAny_bind (wpAny_dictEpoch (s := { s with heap := h3 }) ho3 hd ?_)
    rw [if_neg (by simp)]
    refine wpAny_pure ⟨x + 1, h3, rfl, hlt, rfl, b13, ?_⟩
    have : setL (us.take (x + 1)) = addS (setL (us.take x)) y := by
      rw [List.take_add_one, ey]
      unfold setL
      rw [List.foldl_append]
      rfl
    rw [this]
    exact S3
  · rintro b s' ⟨k, h', el, hk', rfl, b', S'⟩
    have : k = es.size := by
      apply Nat.le_antisymm hk'
      apply Nat.le_of_not_lt
      intro z
      have := congrArg List.length el
      rw [List.length_range'] at this
      simp at this
      omega
    subst this
    rw [hl, List.take_length] at S'
    exact h h' b' S'
  · refine ⟨0, s.heap, ?_, Nat.zero_le _, rfl, Heap.SameBut.refl a s.heap, S⟩
    show List.range' 0 ((es.size - 0 + 1 - 1) / 1) 1 = _
    rw [Nat.div_one, Nat.add_sub_cancel]
theorem any_setDict {d : Addr} {kvs : List (Key × Value)} {ep : Nat} {us : List Str} {Q : Value -> Shared -> Prop} (hsm : (d == sysModules) = false) (D : s.heap.DictAt (mixKind prog w) d kvs ep) (hks : kvs.map (·.1) = us.map Sum.inr) (hb : us.length < 32)
  (h : ∀ (h' : Heap), SetS prog w s.heap.objs.size (setL us) h' -> (∀ b o, b < s.heap.objs.size -> s.heap.get? b = some o -> h'.get? b = some o) -> Q (.ref s.heap.objs.size) { s with heap := h' }) :
  wpAny (model prog w) A (call (.type "set") [.ref d]) Q E s := by
 obtain ⟨ob, es, hob, hex, hd, hk, hp, hnd⟩ := id D
 have ld : d < s.heap.objs.size := Heap.lt_size hob
 refine any_setC (P := fun s' => ∃ h', s' = { s with heap := h' } /\ SetS prog w s.heap.objs.size (setL us) h' /\ ∀ b o, b < s.heap.objs.size -> s.heap.get? b = some o -> h'.get? b = some o) (fun s' ⟨h', e, p, k⟩ => by subst e; exact h h' p k) ?_
 have hS : (s.heap.push (set0 w)).get? s.heap.objs.size = some (set0 w) := Heap.get?_push_size _ rfl
 have hT : Shared.TypeIs { s with heap := s.heap.push (set0 w) } (.ref s.heap.objs.size) "set" := ⟨_, hS, rfl⟩
 have hob' : (s.heap.push (set0 w)).get? d = some ob := Heap.get?_push_of_some _ hob
 have htd : Shared.TypeIs { s with heap := s.heap.push (set0 w) } (.ref d) "dict" := ⟨_, hob', hex.1⟩
 have hsds := F.sub_dict_set
 have hsdf := sub_df
 unfold Builtin.«set.__init__» noKeywords Builtin.Frozenset.updateFrom
 have hdt : (Value.type "dict" == Value.type "dict") = true := by decide
 generalize hRM : setRoomFor = RM
 wp_walk
 subst hRM
 rw [hd]
 refine wpAny_pure (wpAny_bind (wpAny_dictEntries hob' hd ?_))
 obtain ⟨el, ei⟩ := pairs_at hp hks
 rw [Array.length_toList] at el
 have F0 : SetF prog w s.heap.objs.size [] (s.heap.push (setO #[] 0 (.fresh 0 0 (!byT w)))) := ⟨#[], 0, .fresh 0 0 (!byT w), hS, ⟨fun e he => by simp at he, ⟨[], .nil, .refl _⟩, List.nodup_nil, by decide, by simp [SetTable.fits, SetTable.fresh, SetTable.fill], .inl rfl, rfl⟩, fun _ => rfl⟩
 refine wpAny_bind (any_room (s := { s with heap := s.heap.push (setO #[] 0 (.fresh 0 0 (!byT w))) }) F0 (by simpa [el] using hb) fun h1 es1 ep1 t1 b1 g1 T1 _ => ?_)
 have ne : d ≠ s.heap.objs.size := Nat.ne_of_lt ld
 have ob1 : h1.get? d = some ob := by rw [b1.2 d ne]; exact hob'
 refine wpAny_bind (wpAny_dictEntries (s := { s with heap := h1 }) ob1 hd ?_)
 refine wpAny_bind (any_dictLoop (s := { s with heap := h1 }) ne ob1 hd hk el (fun i e q => ei i e (by rw [Array.getElem?_toList]; exact q)) ⟨es1, ep1, t1, g1, T1⟩ (by omega) fun h2 b2 S2 => ?_)
 have b12 := b1.trans b2
 refine wpAny_pure (wpAny_pure ?_)
 refine ⟨rfl, h2, rfl, S2, fun b o hb e => ?_⟩
 rw [b12.2 b (Nat.ne_of_lt hb)]
 exact Heap.get?_push_of_some _ e
end
end L2
namespace L2
open PySem PySem.Spec PyProof.Rows
section
variable {X : Cx} {F : Fm}
theorem call_setT2 (hc : X.calm = true) : CallR X (.type "set") (rSetT X.prog X.w X.K) := by
 intro pins s σ H xs us Q I r h
 obtain ⟨p, ss, rfl, hq, hz, q⟩ := h
 obtain ⟨u, rfl, rx⟩ := vals1 r
 cases rx
 obtain ⟨its, rv, pl, hz'⟩ := I.tuple hq
 refine any_setTup (I.ok.hd hc) pl (strsAre_of rv) (by show ss.length + 1 < 4096; omega) fun h' tk S k => ?_
 refine ⟨.ref s.heap.objs.size, _, I.laid (t' := tk) (o := setH X.prog X.w s.heap.objs.size (setL ss)) (fun b o e => k b o (Heap.lt_size e) e) (Nat.le_refl _) ⟨S, ?_, fun h1 h2 z k' => z.kept k'⟩, rfl, q _ I.fresh⟩
 obtain ⟨es, ep, t, e, _⟩ := S
 exact ⟨_, e⟩
def rOrS (P : Program) (w : World) : R2 := fun x y H Q => ∃ (a b : Addr) (us vs : List Str), x = .ref a /\ y = .ref b /\ b ≠ a /\ H a = some (setH P w a us) /\ H b = some (setH P w b vs) /\ us.length + vs.length < 32 /\ ∀ c : Addr, H c = none -> Q (.ref c) (upd H c (setH P w c (setL (us ++ vs))))
theorem op_orS : OpR X (binaryOp .BitOr) (rOrS X.prog X.w) := by
 intro pins s σ H x y v u Q I rx ry h
 obtain ⟨a, b, us, vs, rfl, rfl, ne, ha, hb, hl, q⟩ := h
 cases rx
 cases ry
 refine any_or ne (I.hok a _ ha).1 (I.hok b _ hb).1 hl fun h' d S k => ?_
 refine ⟨.ref s.heap.objs.size, _, (I.laid (t' := s.toks) (o := setH X.prog X.w s.heap.objs.size (setL (us ++ vs))) (fun b o e => k b o (Heap.lt_size e) e) (Nat.le_refl _) ⟨S, ?_, fun h1 h2 z k' => z.kept k'⟩).draw d, rfl, q _ I.fresh⟩
 obtain ⟨es, ep, t, e, _⟩ := S
 exact ⟨_, e⟩
def rSetDc (P : Program) (w : World) : List V -> Hp -> VK -> Prop := fun xs H Q => ∃ (p : Addr) (ob : Obj) (kvs : List (Key × V)) (us : List Str), xs = [.ref p] /\ FzD H p ob kvs /\ kvs.map (·.1) = us.map Sum.inr /\ us.length < 32 /\ ∀ a : Addr, H a = none -> Q (.ref a) (upd H a (setH P w a (setL us)))
theorem call_setDc : CallR X (.type "set") (rSetDc X.prog X.w) := by
 intro pins s σ H xs us Q I r h
 obtain ⟨p, ob, kvs, uu, rfl, hz, hk, hl, q⟩ := h
 obtain ⟨u, rfl, rx⟩ := vals1 r
 cases rx
 obtain ⟨e, hs, _, vs, es, ep, rr, dd, hd⟩ := fz_dict I hz
 have hkv : vs.map (·.1) = uu.map Sum.inr := by rw [<- kv_keys rr]; exact hk
 refine any_setDict hs dd hkv hl fun h' S k => ?_
 refine ⟨.ref s.heap.objs.size, _, I.laid (t' := s.toks) (o := setH X.prog X.w s.heap.objs.size (setL uu)) (fun b o e => k b o (Heap.lt_size e) e) (Nat.le_refl _) ⟨S, ?_, fun h1 h2 z k' => z.kept k'⟩, rfl, q _ I.fresh⟩
 obtain ⟨es, ep, t, e, _⟩ := S
 exact ⟨_, e⟩
def SrcS (T : Tv) (ss : List Str) : Prop := T = .seq true (ss.map sT) \/ ∃ kts, T = .dct kts /\ ss = kts.map (·.1)
def uSortOr (u v : UT) : UTl := fun ρ Q => u ρ fun T ρ1 => ∃ ss : List Str, SrcS T ss /\ ss.length < 32 /\ v ρ1 fun U ρ2 => ∃ ts : List Str, SrcS U ts /\ ss.length + ts.length < 32 /\ Q ((sortS (setL (ss ++ ts))).map sT) ρ2
theorem setL_le (l : List Str) : (setL l).length <= l.length := by
 have : ∀ (l m : List Str), (l.foldl addS m).length <= m.length + l.length := by
  intro l
  induction l with
  | nil => exact fun m => Nat.le_refl _
  | cons x l ih =>
   intro m
   rw [List.foldl_cons, List.length_cons]
   refine Nat.le_trans (ih _) ?_
   unfold addS
   split
   ·omega
   ·rw [List.length_append, List.length_singleton]; omega
 have := this l []
 simpa [setL] using this
theorem Stp.keep {K : PySem.W.Frag} {ρ ρ2 : PEnv} {σ : St} {H H1 H2 : Hp} {b : Addr} {o : HO} (f : FrOk K F ρ σ H) (n : H b = none) (e : H1 b = some o) (s : Stp K F σ ρ H1 ρ2 H2) : H2 b = some o :=
 s.st b o e (f.none_nodk n) fun i sl e1 m q => by
  obtain ⟨o', e2, _⟩ := f.mut_at e1 m q
  rw [n] at e2
  cases e2
theorem src_ok {K : PySem.W.Frag} {P : Program} {w : World} {H : Hp} {x : V} {T : Tv} {ss : List Str} {Q : VK} (sr : SrcS T ss) (v : VA K H x T) (l : ss.length < 32) (h : ∀ b : Addr, H b = none -> Q (.ref b) (upd H b (setH P w b (setL ss)))) : rSetT P w K [x] H Q \/ rSetDc P w [x] H Q := by
 rcases sr with rfl | ⟨kts, rfl, rfl⟩
 ·obtain ⟨a, ys, rfl, hs, z, p⟩ := v.seqI
  rw [vals_str p] at hs
  exact .inl ⟨a, ss, rfl, hs, by omega, h⟩
 ·obtain ⟨a, kvs, rfl, ⟨ob, hd⟩, nd, z, p⟩ := v.dctI
  exact .inr ⟨a, ob, kvs, _, rfl, hd, vak_keys p, l, h⟩
theorem ul_sortOr {e e' : Expr} {u v : UT} {p p1 p2 pos pos1 pos2 pos3 : Pos} (hc : X.calm = true) (hg : Gl X "sorted") (hm : X.mg "sorted" = none) (hg' : Gl X "set") (hm' : X.mg "set" = none) (he : UE X F e u) (he' : UE X F e' v) (hst : isStar e = false := by rfl) (hst' : isStar e' = false := by rfl)
  (hpl : (backTo pos (starEach [] X.env)).any (·.1) = false := by rfl) (hpl1 : (backTo pos1 (starEach [] X.env)).any (·.1) = false := by rfl) (hpl2 : (backTo pos2 (starEach [] X.env)).any (·.1) = false := by rfl) :
  UL X F (.Call (.Name "sorted" p) [.BinOp (.Call (.Name "set" p1) [e] [] pos1) .BitOr (.Call (.Name "set" p2) [e'] [] pos2) pos3] [] pos) (uSortOr u v) := ⟨PE.imp (pe_callB (call_sortedU hc) hg hm boot_sorted (pa_c (pe_op op_orS (pe_callTy ((call_setT2 hc).or call_setDc) hg' hm' L2.boot_set (pa_c he.pe pa_nil hst) (by decide) (by decide) (star_cons hst) hpl1) (pe_callTy ((call_setT2 hc).or call_setDc) hg' hm' L2.boot_set (pa_c he'.pe pa_nil hst') (by decide) (by decide) (star_cons hst') hpl2)) pa_nil rfl) (by decide) (by decide) rfl hpl) fun σ H QQ ⟨ρ, Q, f, h, k⟩ => by
 refine ⟨ρ, _, f, h, fun x T H1 ρ1 s1 v1 q1 => ?_⟩
 obtain ⟨ss, sr, l1, h2⟩ := q1
 refine src_ok sr v1 (by omega) fun b nb => ?_
 have sm1 := same_new (o := setH X.prog X.w b (setL ss)) nb
 have t1 := Stp.same s1.fr sm1
 refine ⟨ρ1, _, t1.fr, h2, fun x' U H2 ρ2 s2 v2 q2 => ?_⟩
 obtain ⟨ts, sr', hl, q⟩ := q2
 refine src_ok sr' v2 (by omega) fun b' nb' => ?_
 have kb : H2 b = some (setH X.prog X.w b (setL ss)) := Stp.keep s1.fr nb upd_same s2
 have ne : b' ≠ b := fun z => by rw [z, kb] at nb'; cases nb'
 have e1 := setL_le ss
 have e2 := setL_le ts
 refine ⟨b, b', setL ss, setL ts, rfl, rfl, ne, by rw [upd_ne ne.symm]; exact kb, upd_same, by omega, fun c nc => ?_⟩
 have e3 := setL_le (setL ss ++ setL ts)
 rw [List.length_append] at e3
 refine ⟨c, _, rfl, upd_same, by omega, fun ms d h1 h2' nd => ?_⟩
 have sm := ((same_new (o := setH X.prog X.w b' (setL ts)) nb').trans (same_new (o := setH X.prog X.w c (setL (setL ss ++ setL ts))) nc)).trans (same_new (o := .lst (ms.map V.str)) nd)
 have sall := (s1.trans t1).trans (s2.trans (Stp.same s2.fr sm))
 refine k _ _ _ _ _ sall ?_ upd_same (by rw [List.length_map, h1.length_eq]; omega) (vas_str ms) ?_
 ·exact ((s1.trans t1).trans s2).non ((same_new (o := setH X.prog X.w b' (setL ts)) nb').free ((same_new (o := setH X.prog X.w c (setL (setL ss ++ setL ts))) nc).free nd))
 ·rw [sortS_eq (h1.trans ((List.perm_ext_iff_of_nodup (setL_nd _) (setL_nd (ss ++ ts))).mpr fun x => by rw [setL_mem, setL_mem, List.mem_append, List.mem_append, setL_mem, setL_mem])) h2']
  exact q⟩
end
end L2
namespace L2
open PySem PySem.Spec PyProof.Rows
section
variable {prog : Program} {w : World} {A : Around} {E : Value -> Shared -> Prop} {s : Shared} {l : Addr} {its : Array Value} {ss : List Str}
theorem iter_tupG {Q : Value -> Shared -> Prop} (hl : s.heap.IsTuple l its)
  (h : ∀ s₂ : Shared, s₂ = { s with heap := s.heap.push { cls := .type "tuple_iterator", data := .fields #[.ref l, .int 0 0] } } ->
   (s₂.heap.IsTupleIter s.heap.objs.size l 0 /\ s₂.heap.IsTuple l its) -> (∀ b ∈ [s.heap.objs.size, l], b < s₂.heap.objs.size) -> l ≠ s.heap.objs.size -> Q (.ref s.heap.objs.size) s₂) :
  wpAny (model prog w) A (pyIter (.ref l)) Q E s := by
 have hlt : l < s.heap.objs.size := by obtain ⟨_, e, _⟩ := hl; exact Heap.lt_size e
 refine wpAny_pyIter_tuple hl (h _ rfl ⟨⟨_, Heap.get?_push_size _ rfl, rfl, rfl⟩, hl.push _⟩ (fun b hb => ?_) (Nat.ne_of_lt hlt))
 show b < (s.heap.push _).objs.size
 rw [Heap.size_push]
 simp only [List.mem_cons, List.not_mem_nil, or_false] at hb
 rcases hb with z | z
 ·rw [z]; exact Nat.lt_succ_self _
 ·rw [z]; exact Nat.lt_succ_of_lt hlt
theorem min_tups {Q : Value -> Shared -> Prop} (hh : A.handled = none) (hl : s.heap.IsTuple l its) (hi : StrsAre its.toList ss) (hne : 0 < ss.length)
  (h : ∀ x t h' tk, x ∈ ss -> (∀ y ∈ ss, x.cps.toList <= y.cps.toList) -> (∀ b o, s.heap.get? b = some o -> h'.get? b = some o) -> Q (.str x t) { s with heap := h', toks := tk }) :
  wpAny (model prog w) A (call (.builtin "min") [.ref l]) Q E s := by
 have hsz : its.size = ss.length := by rw [<- Array.length_toList, strs_len hi]
 refine call_min_walk (iter_tupG hl fun s₂ e st hfp hlI => ?_)
 subst e
 refine ⟨_, _, _, _, _, _, _, rfl, Walks.tuple (A := A.in1) hh _ l hlI its, st, hfp, by omega, cmp_strs_lt (fun i => ss.getD i ⟨#[]⟩) (fun i v hv => strs_at hi i v (by rw [Array.getElem?_toList]; exact hv)), fun v h' tk hP hk => ?_⟩
 obtain ⟨t, rfl⟩ := strs_at hi _ v (by rw [Array.getElem?_toList]; exact hP)
 obtain ⟨b1, b2⟩ := best_lt (fun i => (ss.getD i ⟨#[]⟩).cps.toList) (its.size - 1)
 refine h _ t h' tk (getD_memS (by omega)) (fun y hy => ?_) (fun b o e => hk b o (fun z => by rw [List.mem_singleton] at z; subst z; have := Heap.lt_size e; exact Nat.lt_irrefl _ this) (Heap.get?_push_of_some _ e))
 obtain ⟨j, hj, rfl⟩ := mem_getDS hy
 exact b2 j (by omega)
theorem max_tups {Q : Value -> Shared -> Prop} (hh : A.handled = none) (hl : s.heap.IsTuple l its) (hi : StrsAre its.toList ss) (hne : 0 < ss.length)
  (h : ∀ x t h' tk, x ∈ ss -> (∀ y ∈ ss, y.cps.toList <= x.cps.toList) -> (∀ b o, s.heap.get? b = some o -> h'.get? b = some o) -> Q (.str x t) { s with heap := h', toks := tk }) :
  wpAny (model prog w) A (call (.builtin "max") [.ref l]) Q E s := by
 have hsz : its.size = ss.length := by rw [<- Array.length_toList, strs_len hi]
 refine call_max_walk (iter_tupG hl fun s₂ e st hfp hlI => ?_)
 subst e
 refine ⟨_, _, _, _, _, _, _, rfl, Walks.tuple (A := A.in1) hh _ l hlI its, st, hfp, by omega, cmp_strs_gt (fun i => ss.getD i ⟨#[]⟩) (fun i v hv => strs_at hi i v (by rw [Array.getElem?_toList]; exact hv)), fun v h' tk hP hk => ?_⟩
 obtain ⟨t, rfl⟩ := strs_at hi _ v (by rw [Array.getElem?_toList]; exact hP)
 obtain ⟨b1, b2⟩ := best_gt (fun i => (ss.getD i ⟨#[]⟩).cps.toList) (its.size - 1)
 refine h _ t h' tk (getD_memS (by omega)) (fun y hy => ?_) (fun b o e => hk b o (fun z => by rw [List.mem_singleton] at z; subst z; have := Heap.lt_size e; exact Nat.lt_irrefl _ this) (Heap.get?_push_of_some _ e))
 obtain ⟨j, hj, rfl⟩ := mem_getDS hy
 exact b2 j (by omega)
end
section
variable {X : Cx}
theorem call_min1T (hc : X.calm = true) : CallR X (.builtin "min") (fun xs H Q => ∃ (p : Addr) (ss : List Str), xs = [.ref p] /\ SqT X.K H p (ss.map V.str) /\ 0 < ss.length /\ ∀ x, x ∈ ss -> (∀ y ∈ ss, x.cps.toList <= y.cps.toList) -> Q (.str x) H) := by
 intro pins s σ H xs us Q I r h
 obtain ⟨p, ss, rfl, hq, hn, q⟩ := h
 obtain ⟨u, rfl, rx⟩ := vals1 r
 cases rx
 obtain ⟨its, rv, pl, hz⟩ := I.tuple hq
 refine min_tups (I.ok.hd hc) pl (strsAre_of rv) hn fun x t h' tk h1 h2 hk => ?_
 exact ⟨.str _, H, I.kept hk, ⟨t, rfl⟩, q _ h1 h2⟩
theorem call_max1T (hc : X.calm = true) : CallR X (.builtin "max") (fun xs H Q => ∃ (p : Addr) (ss : List Str), xs = [.ref p] /\ SqT X.K H p (ss.map V.str) /\ 0 < ss.length /\ ∀ x, x ∈ ss -> (∀ y ∈ ss, y.cps.toList <= x.cps.toList) -> Q (.str x) H) := by
 intro pins s σ H xs us Q I r h
 obtain ⟨p, ss, rfl, hq, hn, q⟩ := h
 obtain ⟨u, rfl, rx⟩ := vals1 r
 cases rx
 obtain ⟨its, rv, pl, hz⟩ := I.tuple hq
 refine max_tups (I.ok.hd hc) pl (strsAre_of rv) hn fun x t h' tk h1 h2 hk => ?_
 exact ⟨.str _, H, I.kept hk, ⟨t, rfl⟩, q _ h1 h2⟩
def pMinT : Pn := fun Ts Q => ∃ (t : Bool) (ss : List Str), Ts = [.seq t (ss.map sT)] /\ 0 < ss.length /\ ∀ x, x ∈ ss -> (∀ y ∈ ss, x.cps.toList <= y.cps.toList) -> Q (sT x)
def pMaxT : Pn := fun Ts Q => ∃ (t : Bool) (ss : List Str), Ts = [.seq t (ss.map sT)] /\ 0 < ss.length /\ ∀ x, x ∈ ss -> (∀ y ∈ ss, y.cps.toList <= x.cps.toList) -> Q (sT x)
theorem pu_minT (hc : X.calm = true) : PuCall X (.builtin "min") pMinT := ⟨_, (call_min1S hc).or (call_min1T hc), fun xs Ts H Q QQ vx h k => by
 obtain ⟨t, ss, rfl, l, q⟩ := h
 obtain ⟨x, rfl, v⟩ := vas1 vx
 obtain ⟨a, ys, rfl, hs, z, p⟩ := v.seqI
 rw [vals_str p] at hs
 cases t with
 | false => exact .inl ⟨a, ss, rfl, seq_of hs, l, fun M h1 h2 => k _ _ _ (.flat rfl) (q M h1 h2)⟩
 | true => exact .inr ⟨a, ss, rfl, hs, l, fun M h1 h2 => k _ _ _ (.flat rfl) (q M h1 h2)⟩⟩
theorem pu_maxT (hc : X.calm = true) : PuCall X (.builtin "max") pMaxT := ⟨_, (call_max1S hc).or (call_max1T hc), fun xs Ts H Q QQ vx h k => by
 obtain ⟨t, ss, rfl, l, q⟩ := h
 obtain ⟨x, rfl, v⟩ := vas1 vx
 obtain ⟨a, ys, rfl, hs, z, p⟩ := v.seqI
 rw [vals_str p] at hs
 cases t with
 | false => exact .inl ⟨a, ss, rfl, seq_of hs, l, fun M h1 h2 => k _ _ _ (.flat rfl) (q M h1 h2)⟩
 | true => exact .inr ⟨a, ss, rfl, hs, l, fun M h1 h2 => k _ _ _ (.flat rfl) (q M h1 h2)⟩⟩
end
end L2
namespace ShowM
variable {M : Type} [DecidableEq M]
def MkL (mk : Nat -> M) (hd : List Nat) (lo hi : Int) (ms : List M) (x : List Nat) : Prop := ∃ r, x = hd ++ r /\ lo <= (r.length : Int) /\ (r.length : Int) <= hi /\ ∀ c ∈ r, mk c ∈ ms
structure Tells (mk : Nat -> M) (hd : List Nat) (lo hi : Int) (ms : List M) (S : List (List Nat)) : Prop where
 some : ∃ (n : Nat) (G : List Nat), 1 <= n /\ 7 <= G.length /\ G.Nodup /\ (∀ m ∈ ms, ∃ c ∈ G, mk c = m) /\ ∀ g ∈ G, hd ++ List.replicate n g ∈ S
 low : ∃ r : List Nat, (r.length : Int) <= lo /\ hd ++ r ∈ S
 high : ∃ r : List Nat, hi <= (r.length : Int) /\ hd ++ r ∈ S
theorem nodup_le {α : Type} [DecidableEq α] : ∀ {l m : List α}, l.Nodup -> (∀ x ∈ l, x ∈ m) -> l.length <= m.length
 | [], m, _, _ => Nat.zero_le _
 | x :: l, m, hn, hs => by
  have hx := hs x List.mem_cons_self
  have h2 := List.nodup_cons.mp hn
  have ih := nodup_le (l := l) (m := m.erase x) h2.2 fun y hy => (List.mem_erase_of_ne (show y ≠ x from fun e => h2.1 (by rw [<- e]; exact hy))).mpr (hs y (List.mem_cons_of_mem _ hy))
  rw [List.length_erase_of_mem hx] at ih
  have : 0 < m.length := List.length_pos_of_mem hx
  rw [List.length_cons]
  omega
theorem Tells.few {mk : Nat -> M} {hd : List Nat} {lo hi : Int} {ms : List M} {S : List (List Nat)} (T : Tells mk hd lo hi ms S) {ss : List (List Nat)} (h6 : ss.length <= 6) (h : ∀ x ∈ S, x ∈ ss) : False := by
 obtain ⟨n, G, n1, g7, nd, _, hG⟩ := T.some
 have hn : (G.map fun g => hd ++ List.replicate n g).Nodup := by
  unfold List.Nodup
  rw [List.pairwise_map]
  refine nd.imp fun {a b} ne e => ne ?_
  have e := List.append_cancel_left e
  obtain ⟨k, rfl⟩ : ∃ k, n = k + 1 := ⟨n - 1, by omega⟩
  rw [List.replicate_succ, List.replicate_succ] at e
  exact (List.cons.inj e).1
 have := nodup_le hn fun x hx => by
  obtain ⟨g, hg, rfl⟩ := List.mem_map.mp hx
  exact h _ (hG g hg)
 rw [List.length_map] at this
 omega
theorem Tells.make {mk : Nat -> M} {hd hd2 : List Nat} {lo hi lo2 hi2 : Int} {ms ms2 : List M} {S : List (List Nat)} (T : Tells mk hd lo hi ms S) (h : ∀ x ∈ S, MkL mk hd2 lo2 hi2 ms2 x) : ∀ x, MkL mk hd lo hi ms x -> MkL mk hd2 lo2 hi2 ms2 x := by
 obtain ⟨n, G, n1, g7, nd, cov, hG⟩ := T.some
 obtain ⟨d, hd'⟩ : ∃ d, hd = hd2 ++ d := by
  match G, g7, nd, hG with
  | g1 :: g2 :: G', _, nd, hG =>
   obtain ⟨r1, e1, _⟩ := h _ (hG g1 (by simp))
   obtain ⟨r2, e2, _⟩ := h _ (hG g2 (by simp))
   have ne : g1 ≠ g2 := by
    have := (List.nodup_cons.mp nd).1
    simp at this
    exact this.1
   obtain ⟨k, rfl⟩ : ∃ k, n = k + 1 := ⟨n - 1, by omega⟩
   rw [List.append_eq_append_iff] at e1 e2
   rcases e1 with ⟨a, ha, hb⟩ | ⟨a, ha, hb⟩
   ·rcases e2 with ⟨a', ha', hb'⟩ | ⟨a', ha', hb'⟩
    ·have : a = a' := List.append_cancel_left (ha.symm.trans ha')
     subst this
     cases a with
     | nil => exact ⟨[], by simpa using ha.symm⟩
     | cons y a =>
      rw [List.replicate_succ, List.cons_append] at hb hb'
      exact absurd ((List.cons.inj hb).1.trans (List.cons.inj hb').1.symm) ne
    ·exact ⟨a', ha'⟩
   ·exact ⟨a, ha⟩
 subst hd'
 have strip : ∀ {r : List Nat}, (hd2 ++ d) ++ r ∈ S -> lo2 <= ((d ++ r).length : Int) /\ ((d ++ r).length : Int) <= hi2 /\ ∀ c ∈ d ++ r, mk c ∈ ms2 := fun {r} hr => by
  obtain ⟨r', e, h1, h2, h3⟩ := h _ hr
  rw [List.append_assoc] at e
  have := List.append_cancel_left e
  rw [this]
  exact ⟨h1, h2, h3⟩
 obtain ⟨rl, l1, l2⟩ := T.low
 obtain ⟨rh, h1, h2⟩ := T.high
 have sl := strip l2
 have sh := strip h2
 rintro x ⟨r, rfl, r1, r2, r3⟩
 refine ⟨d ++ r, by rw [List.append_assoc], ?_, ?_, fun c hc => ?_⟩
 ·have := sl.1
  rw [List.length_append] at this ⊢
  omega
 ·have := sh.2.1
  rw [List.length_append] at this ⊢
  omega
 ·rcases List.mem_append.mp hc with z | z
  ·exact sl.2.2 c (List.mem_append_left _ z)
  ·obtain ⟨g, hg, e⟩ := cov _ (r3 c z)
   rw [<- e]
   obtain ⟨k, rfl⟩ : ∃ k, n = k + 1 := ⟨n - 1, by omega⟩
   exact (strip (hG g hg)).2.2 g (List.mem_append_right _ (by rw [List.replicate_succ]; exact List.mem_cons_self))
end ShowM
namespace L2
open PySem PySem.Spec PyProof.Rows WordM
def minI : List Int -> Int
 | [] => 0
 | [x] => x
 | x :: y :: l => min x (minI (y :: l))
def maxI : List Int -> Int
 | [] => 0
 | [x] => x
 | x :: y :: l => max x (maxI (y :: l))
theorem minI_ok : ∀ {l : List Int}, l ≠ [] -> minI l ∈ l /\ ∀ x ∈ l, minI l <= x
 | [], h => absurd rfl h
 | [x], _ => ⟨.head _, fun y hy => by rw [List.mem_singleton.mp hy]; exact Int.le_refl _⟩
 | x :: y :: l, _ => by
  obtain ⟨a, b⟩ := minI_ok (l := y :: l) (by simp)
  rw [minI]
  refine ⟨?_, fun z hz => ?_⟩
  ·by_cases h : x <= minI (y :: l)
   ·rw [Int.min_eq_left h]; exact .head _
   ·rw [Int.min_eq_right (by omega)]; exact .tail _ a
  ·rcases List.mem_cons.mp hz with rfl | hz
   ·omega
   ·have := b z hz; omega
theorem maxI_ok : ∀ {l : List Int}, l ≠ [] -> maxI l ∈ l /\ ∀ x ∈ l, x <= maxI l
 | [], h => absurd rfl h
 | [x], _ => ⟨.head _, fun y hy => by rw [List.mem_singleton.mp hy]; exact Int.le_refl _⟩
 | x :: y :: l, _ => by
  obtain ⟨a, b⟩ := maxI_ok (l := y :: l) (by simp)
  rw [maxI]
  refine ⟨?_, fun z hz => ?_⟩
  ·by_cases h : x <= maxI (y :: l)
   ·rw [Int.max_eq_right h]; exact .tail _ a
   ·rw [Int.max_eq_left (by omega)]; exact .head _
  ·rcases List.mem_cons.mp hz with rfl | hz
   ·omega
   ·have := b z hz; omega
def lcp : List Nat -> List Nat -> List Nat
 | a :: x, b :: y => if a = b then a :: lcp x y else []
 | _, _ => []
theorem lcp_left : ∀ x y : List Nat, ∃ r, x = lcp x y ++ r
 | [], y => ⟨[], by cases y <;> rfl⟩
 | a :: x, [] => ⟨a :: x, rfl⟩
 | a :: x, b :: y => by
  rw [lcp]
  split
  ·obtain ⟨r, e⟩ := lcp_left x y; exact ⟨r, by rw [List.cons_append, <- e]⟩
  ·exact ⟨a :: x, rfl⟩
theorem lcp_right : ∀ x y : List Nat, ∃ r, y = lcp x y ++ r
 | [], y => ⟨y, by cases y <;> rfl⟩
 | a :: x, [] => ⟨[], rfl⟩
 | a :: x, b :: y => by
  rw [lcp]
  split
  ·rename_i h; obtain ⟨r, e⟩ := lcp_right x y; exact ⟨r, by rw [List.cons_append, <- e, h]⟩
  ·exact ⟨b :: y, rfl⟩
theorem lcp_top : ∀ (h x y r1 r2 : List Nat), x = h ++ r1 -> y = h ++ r2 -> ∃ r, lcp x y = h ++ r
 | [], x, y, _, _, _, _ => ⟨lcp x y, rfl⟩
 | a :: h, x, y, r1, r2, e1, e2 => by
  subst e1 e2
  obtain ⟨r, e⟩ := lcp_top h (h ++ r1) (h ++ r2) r1 r2 rfl rfl
  exact ⟨r, by rw [List.cons_append, List.cons_append, lcp, if_pos rfl, e]; rfl⟩
structure IsHead (ts : List Str) (hd : Str) : Prop where
 all : ∀ t ∈ ts, ∃ r, cs t = cs hd ++ r
 top : ∀ h : List Nat, (∀ t ∈ ts, ∃ r, cs t = h ++ r) -> h.length <= (cs hd).length
theorem pre_le {x y : List Nat} {z : List Nat} {r1 r2 : List Nat} (e1 : z = x ++ r1) (e2 : z = y ++ r2) (l : x.length <= y.length) : ∃ r, y = x ++ r := by
 refine ⟨y.drop x.length, ?_⟩
 have : y.take x.length = x := by
  have h1 : z.take x.length = x := by rw [e1, List.take_left]
  have h2 : z.take x.length = y.take x.length := by rw [e2, List.take_append_of_le_length l]
  rw [<- h2, h1]
 exact (List.take_append_drop x.length y).symm.trans (by rw [this])
theorem IsHead.pre {ts : List Str} {hd : Str} (ne : ts ≠ []) (a : IsHead ts hd) {h : List Nat} (k : ∀ t ∈ ts, ∃ r, cs t = h ++ r) : ∃ r, cs hd = h ++ r := by
 obtain ⟨t, ht⟩ := List.exists_mem_of_ne_nil _ ne
 obtain ⟨r1, e1⟩ := k t ht
 obtain ⟨r2, e2⟩ := a.all t ht
 exact pre_le e1 e2 (a.top h k)
theorem head_uniq {ts : List Str} {h1 h2 : Str} (ne : ts ≠ []) (a : IsHead ts h1) (b : IsHead ts h2) : h1 = h2 := by
 obtain ⟨t, ht⟩ := List.exists_mem_of_ne_nil _ ne
 obtain ⟨r1, e1⟩ := a.all t ht
 obtain ⟨r2, e2⟩ := b.all t ht
 have l1 := a.top _ b.all
 have l2 := b.top _ a.all
 exact str_ext (List.append_inj_left (e1.symm.trans e2) (by omega))
theorem IsHead.same {ts us : List Str} {hd : Str} (a : IsHead ts hd) (h : ∀ x, x ∈ ts ↔ x ∈ us) : IsHead us hd := ⟨fun t ht => a.all t ((h t).mpr ht), fun k hk => a.top k fun t ht => hk t ((h t).mp ht)⟩
def headL : List Str -> List Nat
 | [] => []
 | [t] => cs t
 | t :: u :: l => lcp (cs t) (headL (u :: l))
theorem headL_is : ∀ {ts : List Str}, ts ≠ [] -> IsHead ts ⟨(headL ts).toArray⟩
 | [], h => absurd rfl h
 | [t], _ => ⟨fun u hu => ⟨[], by rw [List.mem_singleton.mp hu, List.append_nil]; rfl⟩, fun h k => by
  obtain ⟨r, e⟩ := k t (.head _)
  show h.length <= (cs t).length
  rw [e, List.length_append]; omega⟩
 | t :: u :: l, _ => by
  have ih := headL_is (ts := u :: l) (by simp)
  have eh : cs ⟨(headL (t :: u :: l)).toArray⟩ = lcp (cs t) (headL (u :: l)) := rfl
  have eh' : cs ⟨(headL (u :: l)).toArray⟩ = headL (u :: l) := rfl
  refine ⟨fun x hx => ?_, fun h k => ?_⟩
  ·rw [eh]
   rcases List.mem_cons.mp hx with rfl | hx
   ·exact lcp_left _ _
   ·obtain ⟨r, e⟩ := ih.all x hx
    obtain ⟨r', e'⟩ := lcp_right (cs t) (headL (u :: l))
    rw [eh'] at e
    exact ⟨r' ++ r, by rw [e, <- List.append_assoc, <- e']⟩
  ·obtain ⟨r1, e1⟩ := k t (.head _)
   obtain ⟨r2, e2⟩ := ih.pre (by simp) fun x hx => k x (.tail _ hx)
   rw [eh'] at e2
   obtain ⟨r, e⟩ := lcp_top h _ _ r1 r2 e1 e2
   rw [eh, e, List.length_append]; omega
theorem head_app {A B : List Str} {h1 h2 hd : Str} (n1 : A ≠ []) (n2 : B ≠ []) (a : IsHead A h1) (b : IsHead B h2) (h : IsHead [h1, h2] hd) : IsHead (A ++ B) hd := by
 obtain ⟨r1, e1⟩ := h.all h1 (.head _)
 obtain ⟨r2, e2⟩ := h.all h2 (.tail _ (.head _))
 refine ⟨fun t ht => ?_, fun k hk => h.top k fun t ht => ?_⟩
 ·rcases List.mem_append.mp ht with ht | ht
  ·obtain ⟨r, e⟩ := a.all t ht
   exact ⟨r1 ++ r, by rw [e, e1, List.append_assoc]⟩
  ·obtain ⟨r, e⟩ := b.all t ht
   exact ⟨r2 ++ r, by rw [e, e2, List.append_assoc]⟩
 ·simp only [List.mem_cons, List.not_mem_nil, or_false] at ht
  rcases ht with rfl | rfl
  ·exact a.pre n1 fun x hx => hk x (List.mem_append_left _ hx)
  ·exact b.pre n2 fun x hx => hk x (List.mem_append_right _ hx)
def marksOf (ts : List Str) (hd : Str) : List Str := MK.filter fun m => ts.any fun t => (cs (restW t hd)).any fun c => decide (markC c = m)
theorem marksOf_mem {ts : List Str} {hd m : Str} : m ∈ marksOf ts hd ↔ ∃ t ∈ ts, ∃ c ∈ cs (restW t hd), markC c = m := by
 unfold marksOf
 rw [List.mem_filter, List.any_eq_true]
 constructor
 ·rintro ⟨_, t, ht, h⟩
  obtain ⟨c, hc, e⟩ := List.any_eq_true.mp h
  exact ⟨t, ht, c, hc, of_decide_eq_true e⟩
 ·rintro ⟨t, ht, c, hc, rfl⟩
  exact ⟨mark_in c, t, ht, List.any_eq_true.mpr ⟨c, hc, decide_eq_true rfl⟩⟩
theorem marksOf_rise (ts : List Str) (hd : Str) : rise (marksOf ts hd) := List.Pairwise.sublist List.filter_sublist mk_rise
structure MOf (ts : List Str) (hd : Str) (lo hi : Int) (ms : List Str) : Prop where
 he : IsHead ts hd
 lo1 : ∃ t ∈ ts, (t.length : Int) - (hd.length : Int) = lo
 lo2 : ∀ t ∈ ts, lo <= (t.length : Int) - (hd.length : Int)
 hi1 : ∃ t ∈ ts, (t.length : Int) - (hd.length : Int) = hi
 hi2 : ∀ t ∈ ts, (t.length : Int) - (hd.length : Int) <= hi
 mks : ms = marksOf ts hd
theorem rise_ext' {xs ys : List Str} (hx : rise xs) (hy : rise ys) (h : ∀ x, x ∈ xs ↔ x ∈ ys) : xs = ys :=
 (rise_sub hx hy fun x hx => (h x).mp hx).eq_of_length_le (rise_sub hy hx fun x hx => (h x).mpr hx).length_le
theorem MOf.same {ts us : List Str} {hd : Str} {lo hi : Int} {ms : List Str} (m : MOf ts hd lo hi ms) (h : ∀ x, x ∈ ts ↔ x ∈ us) : MOf us hd lo hi ms := by
 obtain ⟨t1, a1, b1⟩ := m.lo1
 obtain ⟨t2, a2, b2⟩ := m.hi1
 refine ⟨m.he.same h, ⟨t1, (h _).mp a1, b1⟩, fun t ht => m.lo2 t ((h t).mpr ht), ⟨t2, (h _).mp a2, b2⟩, fun t ht => m.hi2 t ((h t).mpr ht), ?_⟩
 rw [m.mks]
 refine rise_ext' (marksOf_rise _ _) (marksOf_rise _ _) fun x => ?_
 rw [marksOf_mem, marksOf_mem]
 exact ⟨fun ⟨t, ht, z⟩ => ⟨t, (h t).mp ht, z⟩, fun ⟨t, ht, z⟩ => ⟨t, (h t).mpr ht, z⟩⟩
theorem MOf.ne {ts : List Str} {hd : Str} {lo hi : Int} {ms : List Str} (m : MOf ts hd lo hi ms) : ts ≠ [] := fun z => by
 obtain ⟨t, ht, _⟩ := m.lo1
 rw [z] at ht
 exact nomatch ht
theorem MOf.uniq {ts : List Str} {hd hd2 : Str} {lo hi lo2 hi2 : Int} {ms ms2 : List Str} (a : MOf ts hd lo hi ms) (b : MOf ts hd2 lo2 hi2 ms2) : hd = hd2 /\ lo = lo2 /\ hi = hi2 /\ ms = ms2 := by
 have e := head_uniq a.ne a.he b.he
 subst e
 obtain ⟨t1, a1, b1⟩ := a.lo1
 obtain ⟨t2, a2, b2⟩ := a.hi1
 obtain ⟨u1, c1, d1⟩ := b.lo1
 obtain ⟨u2, c2, d2⟩ := b.hi1
 have x1 := b.lo2 t1 a1
 have x2 := a.lo2 u1 c1
 have x3 := b.hi2 t2 a2
 have x4 := a.hi2 u2 c2
 exact ⟨rfl, by omega, by omega, by rw [a.mks, b.mks]⟩
theorem rest_app {t h1 hd : Str} {r1 r : List Nat} (e1 : cs h1 = cs hd ++ r1) (e : cs t = cs h1 ++ r) : cs (restW t hd) = cs (restW h1 hd) ++ cs (restW t h1) := by
 rw [restW_of e, restW_of e1, restW_of (show cs t = cs hd ++ (r1 ++ r) by rw [e, e1, List.append_assoc])]
theorem sg_rest {t hd : Str} (h : Sg t) {r : List Nat} (e : cs t = cs hd ++ r) : Sg (restW t hd) := fun c hc => by
 rw [restW_of e] at hc
 exact h c (by rw [e]; exact List.mem_append_right _ hc)
theorem marksS_mem {x m : Str} (h : Sg x) : m ∈ marksS x ↔ ∃ c ∈ cs x, markC c = m := by
 rw [marksS, List.mem_filter, hasM, List.any_eq_true]
 constructor
 ·rintro ⟨hm, c, hc, hd⟩
  exact ⟨c, hc, (mark_of (h c hc) m hm).mp (of_decide_eq_true hd)⟩
 ·rintro ⟨c, hc, rfl⟩
  exact ⟨mark_in c, c, hc, decide_eq_true ((mark_of (h c hc) _ (mark_in c)).mpr rfl)⟩
noncomputable def jnM (ms ms' : List Str) : List Str := sortS (setL (ms ++ ms'))
theorem MOf.shorter {A : List Str} {h1 hd : Str} {lo hi : Int} {ms : List Str} (a : MOf A h1 lo hi ms) (sg : Sg h1) {r1 : List Nat} (e1 : cs h1 = cs hd ++ r1) :
  (∃ t ∈ A, (t.length : Int) - (hd.length : Int) = lo + (restW h1 hd).length) /\ (∀ t ∈ A, lo + (restW h1 hd).length <= (t.length : Int) - (hd.length : Int)) /\ (∃ t ∈ A, (t.length : Int) - (hd.length : Int) = hi + (restW h1 hd).length) /\ (∀ t ∈ A, (t.length : Int) - (hd.length : Int) <= hi + (restW h1 hd).length) /\ ∀ m, m ∈ jnM ms (marksS (restW h1 hd)) ↔ ∃ t ∈ A, ∃ c ∈ cs (restW t hd), markC c = m := by
 have el : (h1.length : Int) = hd.length + (restW h1 hd).length := by
  rw [WordM.len h1, WordM.len hd, WordM.len (restW h1 hd), restW_of e1, e1, List.length_append]; push_cast; rfl
 obtain ⟨t1, a1, b1⟩ := a.lo1
 obtain ⟨t2, a2, b2⟩ := a.hi1
 refine ⟨⟨t1, a1, by omega⟩, fun t ht => by have := a.lo2 t ht; omega, ⟨t2, a2, by omega⟩, fun t ht => by have := a.hi2 t ht; omega, fun m => ?_⟩
 unfold jnM
 rw [sort_set_mem, List.mem_append, a.mks, marksOf_mem, marksS_mem (sg_rest sg e1)]
 constructor
 ·rintro (⟨t, ht, c, hc, e⟩ | ⟨c, hc, e⟩)
  ·obtain ⟨r, er⟩ := a.he.all t ht
   exact ⟨t, ht, c, by rw [rest_app e1 er]; exact List.mem_append_right _ hc, e⟩
  ·obtain ⟨r, er⟩ := a.he.all t1 a1
   exact ⟨t1, a1, c, by rw [rest_app e1 er]; exact List.mem_append_left _ hc, e⟩
 ·rintro ⟨t, ht, c, hc, e⟩
  obtain ⟨r, er⟩ := a.he.all t ht
  rw [rest_app e1 er] at hc
  rcases List.mem_append.mp hc with hc | hc
  ·exact .inr ⟨c, hc, e⟩
  ·exact .inl ⟨t, ht, c, hc, e⟩
theorem MOf.app {A B : List Str} {h1 h2 hd : Str} {lo1 hi1 lo2 hi2 : Int} {ms1 ms2 : List Str} (a : MOf A h1 lo1 hi1 ms1) (b : MOf B h2 lo2 hi2 ms2) (s1 : Sg h1) (s2 : Sg h2) (h : IsHead [h1, h2] hd) :
  MOf (A ++ B) hd (min (lo1 + (restW h1 hd).length) (lo2 + (restW h2 hd).length)) (max (hi1 + (restW h1 hd).length) (hi2 + (restW h2 hd).length)) (jnM (jnM ms1 (marksS (restW h1 hd))) (jnM ms2 (marksS (restW h2 hd)))) := by
 obtain ⟨r1, e1⟩ := h.all h1 (.head _)
 obtain ⟨r2, e2⟩ := h.all h2 (.tail _ (.head _))
 obtain ⟨⟨t1, p1, q1⟩, x1, ⟨u1, p2, q2⟩, y1, m1⟩ := a.shorter s1 e1
 obtain ⟨⟨t2, p3, q3⟩, x2, ⟨u2, p4, q4⟩, y2, m2⟩ := b.shorter s2 e2
 generalize lo1 + ((restW h1 hd).length : Int) = l1 at *
 generalize hi1 + ((restW h1 hd).length : Int) = g1 at *
 generalize lo2 + ((restW h2 hd).length : Int) = l2 at *
 generalize hi2 + ((restW h2 hd).length : Int) = g2 at *
 refine ⟨head_app a.ne b.ne a.he b.he h, ?_, fun t ht => ?_, ?_, fun t ht => ?_, ?_⟩
 ·by_cases z : l1 <= l2
  ·exact ⟨t1, List.mem_append_left _ p1, by omega⟩
  ·exact ⟨t2, List.mem_append_right _ p3, by omega⟩
 ·rcases List.mem_append.mp ht with ht | ht
  ·have := x1 t ht; omega
  ·have := x2 t ht; omega
 ·by_cases z : g1 <= g2
  ·exact ⟨u2, List.mem_append_right _ p4, by omega⟩
  ·exact ⟨u1, List.mem_append_left _ p2, by omega⟩
 ·rcases List.mem_append.mp ht with ht | ht
  ·have := y1 t ht; omega
  ·have := y2 t ht; omega
 ·refine rise_ext' (sort_set_rise _) (marksOf_rise _ _) fun m => ?_
  have jm : m ∈ jnM (jnM ms1 (marksS (restW h1 hd))) (jnM ms2 (marksS (restW h2 hd))) ↔ m ∈ jnM ms1 (marksS (restW h1 hd)) ++ jnM ms2 (marksS (restW h2 hd)) := sort_set_mem
  rw [jm, List.mem_append, m1, m2, marksOf_mem]
  constructor
  ·rintro (⟨t, ht, z⟩ | ⟨t, ht, z⟩)
   ·exact ⟨t, List.mem_append_left _ ht, z⟩
   ·exact ⟨t, List.mem_append_right _ ht, z⟩
  ·rintro ⟨t, ht, z⟩
   rcases List.mem_append.mp ht with ht | ht
   ·exact .inl ⟨t, ht, z⟩
   ·exact .inr ⟨t, ht, z⟩
def WOf (ts : List Str) : Wd -> Prop
 | .few ss => ss = sortS (setL ts) /\ (setL ts).length < 7
 | .make hd lo hi ms => 7 <= (setL ts).length /\ MOf ts hd lo hi ms
theorem setS_same {ts us : List Str} (h : ∀ x, x ∈ ts ↔ x ∈ us) : (setL ts).length = (setL us).length /\ sortS (setL ts) = sortS (setL us) := by
 have p : (setL ts).Perm (setL us) := (List.perm_ext_iff_of_nodup (setL_nd _) (setL_nd _)).mpr fun x => by rw [setL_mem, setL_mem, h]
 exact ⟨p.length_eq, rise_ext' (sort_set_rise _) (sort_set_rise _) fun x => by rw [sort_set_mem, sort_set_mem, h]⟩
theorem WOf.same {ts us : List Str} (h : ∀ x, x ∈ ts ↔ x ∈ us) : ∀ {W : Wd}, WOf ts W -> WOf us W
 | .few ss, w => ⟨by rw [<- (setS_same h).2]; exact w.1, by rw [<- (setS_same h).1]; exact w.2⟩
 | .make .., w => ⟨by rw [<- (setS_same h).1]; exact w.1, w.2.same h⟩
theorem WOf.uniq {ts : List Str} : ∀ {W W2 : Wd}, WOf ts W -> WOf ts W2 -> W = W2
 | .few ss, .few ss2, a, b => by rw [a.1, b.1]
 | .few ss, .make .., a, b => by have := a.2; have := b.1; omega
 | .make .., .few ss, a, b => by have := a.1; have := b.2; omega
 | .make .., .make .., a, b => by
  obtain ⟨e1, e2, e3, e4⟩ := a.2.uniq b.2
  rw [e1, e2, e3, e4]
def mkOf (ts : List Str) : Wd :=
 .make ⟨(headL ts).toArray⟩ (minI (ts.map fun t => (t.length : Int) - ((⟨(headL ts).toArray⟩ : Str).length : Int))) (maxI (ts.map fun t => (t.length : Int) - ((⟨(headL ts).toArray⟩ : Str).length : Int))) (marksOf ts ⟨(headL ts).toArray⟩)
theorem mkOf_is {ts : List Str} (h : ts ≠ []) : ∃ hd lo hi ms, mkOf ts = .make hd lo hi ms /\ MOf ts hd lo hi ms := by
 refine ⟨_, _, _, _, rfl, headL_is h, ?_, fun t ht => ?_, ?_, fun t ht => ?_, rfl⟩
 ·obtain ⟨t, ht, e⟩ := List.mem_map.mp (minI_ok (l := ts.map fun t => (t.length : Int) - ((⟨(headL ts).toArray⟩ : Str).length : Int)) (by simpa using h)).1
  exact ⟨t, ht, e⟩
 ·exact (minI_ok (l := ts.map fun t => (t.length : Int) - ((⟨(headL ts).toArray⟩ : Str).length : Int)) (by simpa using h)).2 _ (List.mem_map.mpr ⟨t, ht, rfl⟩)
 ·obtain ⟨t, ht, e⟩ := List.mem_map.mp (maxI_ok (l := ts.map fun t => (t.length : Int) - ((⟨(headL ts).toArray⟩ : Str).length : Int)) (by simpa using h)).1
  exact ⟨t, ht, e⟩
 ·exact (maxI_ok (l := ts.map fun t => (t.length : Int) - ((⟨(headL ts).toArray⟩ : Str).length : Int)) (by simpa using h)).2 _ (List.mem_map.mpr ⟨t, ht, rfl⟩)
noncomputable def wdOf (ts : List Str) : Wd := if (setL ts).length < 7 then .few (sortS (setL ts)) else mkOf ts
theorem wdOf_is {ts : List Str} (h : ts ≠ []) : WOf ts (wdOf ts) := by
 unfold wdOf
 split
 ·rename_i z; exact ⟨rfl, z⟩
 ·obtain ⟨hd, lo, hi, ms, e, m⟩ := mkOf_is h
  rw [e]
  exact ⟨by omega, m⟩
theorem wdOf_eq {ts : List Str} (h : ts ≠ []) {W : Wd} (w : WOf ts W) : W = wdOf ts := w.uniq (wdOf_is h)
theorem wdOf_same {ts us : List Str} (h : ∀ x, x ∈ ts ↔ x ∈ us) : wdOf ts = wdOf us := by
 by_cases e : ts = []
 ·subst e
  cases us with
  | nil => rfl
  | cons x m => exact nomatch (h x).mpr (.head _)
 ·have ne : us ≠ [] := fun z => by
   obtain ⟨x, hx⟩ := List.exists_mem_of_ne_nil _ e
   have := (h x).mp hx
   rw [z] at this
   exact nomatch this
  exact wdOf_eq ne ((wdOf_is e).same h)
end L2
namespace SrtP
open PySem PyProof.Rows
def gallop' : Bool -> Keyed -> Array Keyed -> Nat -> Nat -> Nat -> StateT SortSt Sem (Option Nat) := sortPriv% PySem.Builtin.gallop
def mergeLo' : Array Keyed -> Array Keyed -> StateT SortSt Sem (Array Keyed) := sortPriv% PySem.Builtin.mergeLo
def mergeHi' : Array Keyed -> Array Keyed -> StateT SortSt Sem (Array Keyed) := sortPriv% PySem.Builtin.mergeHi
section
variable {prog : Program} {w : World} {A : Around} {E : Value -> Shared -> Prop} {s : Shared}
def SK (p : Keyed) : Prop := ∃ s t, p.1 = .str s t
def AS (a : Array Keyed) : Prop := ∀ p ∈ a.toList, SK p
theorem AS.at_ {a : Array Keyed} (h : AS a) {i : Nat} (hi : i < a.size) : ∃ p, a[i]? = some p /\ SK p :=
 ⟨a[i], by simp [hi], h _ (by simp)⟩
theorem lt_any {x y : Keyed} {st : SortSt} {Q : Option Bool -> SortSt -> Prop} (hk : kindOf st = oneType') (hx : SK x) (hy : SK y) (h : ∀ b, Q (some b) st) : wpS (model prog w) A E s (lt' x y) Q st := by
 obtain ⟨a, t, ex⟩ := hx
 obtain ⟨c, u, ey⟩ := hy
 rw [lt'_eq]
 refine wpS_bind (wpS_get ?_)
 rw [hk, keyLt'_oneType, ex, ey]
 exact wpS_bind (wpS_lift (wpAny_attempt (oneLt_str ⟨rfl, wpS_pure (h _)⟩)))
theorem elem_at {arr : Array Keyed} {i : Nat} {p : Keyed} {st : SortSt} {Q : Keyed -> SortSt -> Prop} (hp : arr[i]? = some p) (h : Q p st) : wpS (model prog w) A E s (elem' arr i) Q st := by
 rw [elem'_eq, hp]
 exact wpS_pure h
theorem gallop_le {left : Bool} {key : Keyed} {arr : Array Keyed} {base n hint : Nat} {st : SortSt} {Q : Option Nat -> SortSt -> Prop} (hk : kindOf st = oneType') (hy : SK key) (ha : AS arr) (hb : base + n <= arr.size) (hh : hint < n)
  (h : ∀ k, k <= n -> Q (some k) st) : wpS (model prog w) A E s (gallop' left key arr base n hint) Q st := by
 have by_ : ∀ i, i < n -> ∀ {R : Option Bool -> SortSt -> Prop}, (∀ b, R (some b) st) -> wpS (model prog w) A E s (do let x <- elem' arr (base + i); if left then lt' x key else return (<- lt' key x).map (!·)) R st := by
  intro i hi R hR
  obtain ⟨p, hp, sp⟩ := ha.at_ (i := base + i) (by omega)
  refine wpS_bind (elem_at hp ?_)
  cases left with
  | true => exact lt_any hk sp hy hR
  | false => exact wpS_bind (lt_any hk hy sp fun b => wpS_pure (hR _))
 unfold gallop'
 refine wpS_bind (by_ hint hh fun b => ?_)
 cases b with
 | true =>
  refine wpS_bind (wpS_mono (wpS_forRange (I := fun _ c st' => st' = st /\ ∃ l o, c = (none, l, o) /\ l < n - hint) (Q := fun c st' => st' = st /\ ∃ l o, c = (none, l, o) /\ l < n - hint) ?_ (fun _ _ z => z) ⟨rfl, 0, 1, rfl, by omega⟩) ?_)
  ·rintro x c st' _ hx ⟨rfl, l, o, rfl, hl⟩
   dsimp only
   split
   ·exact wpS_pure ⟨rfl, l, o, rfl, hl⟩
   ·refine wpS_bind (by_ (hint + o) (by omega) fun b => ?_)
    cases b with
    | true => exact wpS_pure ⟨rfl, o, _, rfl, by omega⟩
    | false => exact wpS_pure ⟨rfl, l, o, rfl, hl⟩
  ·rintro c st' ⟨rfl, l, o, rfl, hl⟩
   dsimp only
   refine wpS_bind (wpS_mono (wpS_forRange (I := fun _ c st'' => st'' = st' /\ ∃ l o, c = (none, l, o) /\ o <= n) (Q := fun c st'' => st'' = st' /\ ∃ l o, c = (none, l, o) /\ o <= n) ?_ (fun _ _ z => z) ⟨rfl, _, _, rfl, by omega⟩) ?_)
   ·rintro x c st'' _ hx ⟨rfl, l, o, rfl, hl⟩
    dsimp only
    split
    ·exact wpS_pure ⟨rfl, l, o, rfl, hl⟩
    ·refine wpS_bind (by_ (l + (o - l) / 2) (by omega) fun b => ?_)
     cases b with
     | true => exact wpS_pure ⟨rfl, _, o, rfl, hl⟩
     | false => exact wpS_pure ⟨rfl, l, _, rfl, by omega⟩
   ·rintro c st'' ⟨rfl, l, o, rfl, hl⟩
    exact wpS_pure (h _ hl)
 | false =>
  refine wpS_bind (wpS_mono (wpS_forRange (I := fun _ c st' => st' = st /\ ∃ l o, c = (none, l, o)) (Q := fun c st' => st' = st /\ ∃ l o, c = (none, l, o)) ?_ (fun _ _ z => z) ⟨rfl, 0, 1, rfl⟩) ?_)
  ·rintro x c st' _ hx ⟨rfl, l, o, rfl⟩
   dsimp only
   split
   ·exact wpS_pure ⟨rfl, l, o, rfl⟩
   ·refine wpS_bind (by_ (hint - o) (by omega) fun b => ?_)
    cases b with
    | true => exact wpS_pure ⟨rfl, l, o, rfl⟩
    | false => exact wpS_pure ⟨rfl, o, _, rfl⟩
  ·rintro c st' ⟨rfl, l, o, rfl⟩
   dsimp only
   refine wpS_bind (wpS_mono (wpS_forRange (I := fun _ c st'' => st'' = st' /\ ∃ l o, c = (none, l, o) /\ o <= n) (Q := fun c st'' => st'' = st' /\ ∃ l o, c = (none, l, o) /\ o <= n) ?_ (fun _ _ z => z) ⟨rfl, _, _, rfl, by omega⟩) ?_)
   ·rintro x c st'' _ hx ⟨rfl, l, o, rfl, hl⟩
    dsimp only
    split
    ·exact wpS_pure ⟨rfl, l, o, rfl, hl⟩
    ·refine wpS_bind (by_ (l + (o - l) / 2) (by omega) fun b => ?_)
     cases b with
     | true => exact wpS_pure ⟨rfl, _, o, rfl, hl⟩
     | false => exact wpS_pure ⟨rfl, l, _, rfl, by omega⟩
   ·rintro c st'' ⟨rfl, l, o, rfl, hl⟩
    exact wpS_pure (h _ hl)
def setG (st : SortSt) (g : Nat) : SortSt := SortSt.mk' (kindOf st) (arrOf st) (pendingOf st) g (failedOf st)
end
theorem one_take {α : Type} {B : List α} {j : Nat} {p : α} (h : B[j]? = some p) : (B.drop j).take 1 = [p] := by
 obtain ⟨hj, rfl⟩ := List.getElem?_eq_some_iff.mp h
 rw [List.drop_eq_getElem_cons hj]
 rfl
def PL {α : Type} (A B O : List α) (i j : Nat) : Prop := (O ++ (A.drop i ++ B.drop j)).Perm (A ++ B)
theorem PL.ta {α : Type} {A B O : List α} {i j : Nat} (h : PL A B O i j) (k : Nat) : PL A B (O ++ (A.drop i).take k) (i + k) j := by
 unfold PL at h ⊢
 rw [List.append_assoc, <- List.append_assoc ((A.drop i).take k), <- List.drop_drop, List.take_append_drop]
 exact h
theorem PL.tb {α : Type} {A B O : List α} {i j : Nat} (h : PL A B O i j) (k : Nat) : PL A B (O ++ (B.drop j).take k) i (j + k) := by
 unfold PL at h ⊢
 rw [List.append_assoc]
 refine List.Perm.trans (List.Perm.append_left O ?_) h
 refine (List.perm_append_comm_assoc _ _ _).trans ?_
 rw [<- List.drop_drop, List.take_append_drop]
theorem PL.sw {α : Type} {A B O : List α} {i j : Nat} (h : PL A B O i j) : (O ++ (B.drop j ++ A.drop i)).Perm (A ++ B) :=
 (List.Perm.append_left O List.perm_append_comm).trans h
theorem ext_to (a : Array Keyed) (i j : Nat) : (a.extract i j).toList = (a.toList.drop i).take (j - i) := by
 rw [Array.toList_extract]
theorem ext_end (a : Array Keyed) (i : Nat) : (a.extract i a.size).toList = a.toList.drop i := by
 rw [ext_to]
 exact List.take_of_length_le (by rw [List.length_drop, Array.length_toList]; exact Nat.le_refl _)
theorem PL.dn {a b O : Array Keyed} {i j : Nat} (h : PL a.toList b.toList O.toList i j) : (O ++ a.extract i a.size ++ b.extract j b.size).toList.Perm (a.toList ++ b.toList) := by
 rw [Array.toList_append, Array.toList_append, ext_end, ext_end, List.append_assoc]; exact h
theorem PL.la {a b O : Array Keyed} {i j : Nat} (h : PL a.toList b.toList O.toList i j) : (O ++ b.extract j b.size ++ a.extract i a.size).toList.Perm (a.toList ++ b.toList) := by
 rw [Array.toList_append, Array.toList_append, ext_end, ext_end, List.append_assoc]; exact h.sw
theorem PL.pa {a b O : Array Keyed} {i j : Nat} {p : Keyed} (h : PL a.toList b.toList O.toList i j) (e : a[i]? = some p) : PL a.toList b.toList (O.push p).toList (i + 1) j := by
 rw [Array.toList_push, <- one_take (B := a.toList) (by rw [<- e, Array.getElem?_toList])]
 exact h.ta 1
theorem PL.pb {a b O : Array Keyed} {i j : Nat} {p : Keyed} (h : PL a.toList b.toList O.toList i j) (e : b[j]? = some p) : PL a.toList b.toList (O.push p).toList i (j + 1) := by
 rw [Array.toList_push, <- one_take (B := b.toList) (by rw [<- e, Array.getElem?_toList])]
 exact h.tb 1
theorem PL.xa {a b O : Array Keyed} {i j : Nat} (h : PL a.toList b.toList O.toList i j) (k : Nat) : PL a.toList b.toList (O ++ a.extract i (i + k)).toList (i + k) j := by
 rw [Array.toList_append, ext_to, Nat.add_sub_cancel_left]; exact h.ta k
theorem PL.xb {a b O : Array Keyed} {i j : Nat} (h : PL a.toList b.toList O.toList i j) (k : Nat) : PL a.toList b.toList (O ++ b.extract j (j + k)).toList i (j + k) := by
 rw [Array.toList_append, ext_to, Nat.add_sub_cancel_left]; exact h.tb k
section
variable {prog : Program} {w : World} {A : Around} {E : Value -> Shared -> Prop} {s : Shared}
def setGm : Nat -> StateT SortSt Sem Unit := sortPriv% PySem.Builtin.setMinGallop
theorem setG_at {st : SortSt} {g : Nat} {Q : Unit -> SortSt -> Prop} (h : Q () (setG st g)) : wpS (model prog w) A E s (setGm g) Q st := by
 show wpS _ _ _ _ (modify fun s => setG s g) Q st
 exact wpS_modify h
theorem ite_s {α : Type} {c : Prop} [Decidable c] {x y : StateT SortSt Sem α} {Q : α -> SortSt -> Prop} {st : SortSt} (hx : c -> wpS (model prog w) A E s x Q st) (hy : ¬ c -> wpS (model prog w) A E s y Q st) : wpS (model prog w) A E s (if c then x else y) Q st := by
 by_cases z : c
 ·rw [if_pos z]; exact hx z
 ·rw [if_neg z]; exact hy z
def Lo (a b : Array Keyed) (x : Nat) (out : Array Keyed) (ia ib : Nat) : Prop := PL a.toList b.toList out.toList ia ib /\ ia + 1 < a.size /\ ib < b.size /\ x <= ia + ib
theorem mergeLo_perm {a b : Array Keyed} {st : SortSt} {Q : Array Keyed -> SortSt -> Prop} (hk : kindOf st = oneType') (ha : AS a) (hb : AS b) (a1 : 1 <= a.size) (b1 : 1 <= b.size)
  (h : ∀ out g, out.toList.Perm (a.toList ++ b.toList) -> Q out (setG st g)) : wpS (model prog w) A E s (mergeLo' a b) Q st := by
 unfold mergeLo'
 refine wpS_bind (wpS_lift (wpAny_rule ⟨rfl, ?_⟩))
 obtain ⟨p0, hp0, sp0⟩ := hb.at_ (i := 0) (by omega)
 refine wpS_bind (elem_at hp0 ?_)
 have i0 : PL a.toList b.toList (#[p0] : Array Keyed).toList 0 1 := PL.pb (O := #[]) (List.Perm.refl _) hp0
 refine ite_s (fun _ => wpS_pure (h _ (gallopOf st) i0.dn)) fun z1 => ?_
 refine ite_s (fun _ => wpS_pure (h _ (gallopOf st) i0.la)) fun z2 => ?_
 have z1 : 1 ≠ b.size := by simpa using z1
 have z2 : 0 + 1 ≠ a.size := by simpa using z2
 refine wpS_bind (wpS_get ?_)
 refine wpS_bind (wpS_mono (wpS_forRange (I := fun x c st' => ∃ g out ia ib m, st' = setG st g /\ c = (none, out, ia, ib, m) /\ Lo a b (x + 1) out ia ib)
  (Q := fun c st' => ∃ g R c', st' = setG st g /\ c = (some R, c') /\ R.toList.Perm (a.toList ++ b.toList)) ?step ?fin ⟨gallopOf st, _, _, _, _, rfl, rfl, i0, by omega, by omega, by omega⟩) ?post)
 case fin =>
  rintro c st' ⟨g, out, ia, ib, m, _, _, l⟩
  have := l.2
  omega
 case post =>
  rintro c st' ⟨g, R, c', rfl, rfl, p⟩
  exact wpS_pure (h _ _ p)
 case step =>
  rintro x c st' _ _ ⟨g, out, ia, ib, m, rfl, rfl, l⟩
  refine wpS_bind (wpS_mono (wpS_forRange (I := fun y c st' => ∃ out ia ib p q, st' = setG st g /\ c = (none, out, ia, ib, p, q) /\ Lo a b (x + 1 + y) out ia ib)
   (Q := fun c st' => st' = setG st g /\ ((∃ R c', c = (some R, c') /\ R.toList.Perm (a.toList ++ b.toList)) \/ ∃ out ia ib p q, c = (none, out, ia, ib, p, q) /\ Lo a b (x + 2) out ia ib)) ?s1 ?f1 ⟨_, _, _, _, _, rfl, rfl, l⟩) ?p1)
  case f1 =>
   rintro c st' ⟨out, ia, ib, p, q, _, _, l⟩
   have := l.2
   omega
  case s1 =>
   rintro y c st' _ _ ⟨out, ia, ib, p, q, rfl, rfl, l, l1, l2, l3⟩
   obtain ⟨pb, eb, sb⟩ := hb.at_ (i := ib) (by omega)
   obtain ⟨pa, ea, sa⟩ := ha.at_ (i := ia) (by omega)
   refine wpS_bind (elem_at eb (wpS_bind (elem_at ea (wpS_bind (lt_any hk sb sa fun bb => ?_)))))
   cases bb with
   | true =>
    refine wpS_bind (elem_at eb ?_)
    refine ite_s (fun _ => wpS_pure ⟨rfl, .inl ⟨_, _, rfl, (l.pb eb).dn⟩⟩) fun n1 => ?_
    have n1 : ib + 1 ≠ b.size := by simpa using n1
    refine ite_s (fun _ => ?_) fun _ => ?_
    ·exact wpS_pure ⟨rfl, .inr ⟨_, _, _, _, _, rfl, l.pb eb, l1, (show ib + 1 < b.size by omega), (show x + 2 <= ia + (ib + 1) by omega)⟩⟩
    ·exact wpS_pure ⟨_, _, _, _, _, rfl, rfl, l.pb eb, l1, (show ib + 1 < b.size by omega), (show x + 1 + (y + 1) <= ia + (ib + 1) by omega)⟩
   | false =>
    refine wpS_bind (elem_at ea ?_)
    refine ite_s (fun _ => wpS_pure ⟨rfl, .inl ⟨_, _, rfl, (l.pa ea).la⟩⟩) fun n1 => ?_
    have n1 : ia + 1 + 1 ≠ a.size := by simpa using n1
    refine ite_s (fun _ => ?_) fun _ => ?_
    ·exact wpS_pure ⟨rfl, .inr ⟨_, _, _, _, _, rfl, l.pa ea, (show ia + 1 + 1 < a.size by omega), l2, (show x + 2 <= ia + 1 + ib by omega)⟩⟩
    ·exact wpS_pure ⟨_, _, _, _, _, rfl, rfl, l.pa ea, (show ia + 1 + 1 < a.size by omega), l2, (show x + 1 + (y + 1) <= ia + 1 + ib by omega)⟩
  case p1 =>
   rintro c st' ⟨rfl, ⟨R, c', rfl, pR⟩ | ⟨out, ia, ib, p, q, rfl, l⟩⟩
   ·exact wpS_pure ⟨g, R, _, rfl, rfl, pR⟩
   refine wpS_bind (wpS_lift (wpAny_rule ⟨rfl, ?_⟩))
   refine wpS_bind (wpS_mono (wpS_forRange (I := fun y c st' => ∃ g out ia ib m p q, st' = setG st g /\ c = (none, out, ia, ib, m, p, q) /\ Lo a b (x + 2) out ia ib)
    (Q := fun c st' => ∃ g, st' = setG st g /\ ((∃ R c', c = (some R, c') /\ R.toList.Perm (a.toList ++ b.toList)) \/ ∃ out ia ib m p q, c = (none, out, ia, ib, m, p, q) /\ Lo a b (x + 2) out ia ib)) ?s2 ?f2 ⟨g, _, _, _, _, _, _, rfl, rfl, l⟩) ?p2)
   case f2 =>
    rintro c st' ⟨g, out, ia, ib, m, p, q, rfl, rfl, l⟩
    exact ⟨g, rfl, .inr ⟨_, _, _, _, _, _, rfl, l⟩⟩
   case p2 =>
    rintro c st' ⟨g, rfl, ⟨R, c', rfl, pR⟩ | ⟨out, ia, ib, m, p, q, rfl, l⟩⟩
    ·exact wpS_pure ⟨g, R, _, rfl, rfl, pR⟩
    ·exact wpS_bind (setG_at (wpS_pure ⟨_, _, _, _, _, rfl, rfl, l⟩))
   case s2 =>
    rintro y c st' _ _ ⟨g, out, ia, ib, m, p, q, rfl, rfl, l, l1, l2, l3⟩
    obtain ⟨pb, eb, sb⟩ := hb.at_ (i := ib) (by omega)
    refine ite_s (fun _ => ?_) fun _ => ?_
    all_goals
     refine wpS_bind (setG_at (wpS_bind (elem_at eb (wpS_bind (gallop_le hk sb ha (show ia + (a.size - ia) <= a.size by omega) (show 0 < a.size - ia by omega) fun k (hk1 : k <= a.size - ia) => ?_)))))
     refine ite_s (fun kz => ?_) (fun _ => ?_)
     ·refine ite_s (fun _ => wpS_pure ⟨_, rfl, .inl ⟨_, _, rfl, (l.xa k).la⟩⟩) fun n1 => ?_
      have n1 : ia + k + 1 ≠ a.size := fun e => n1 (beq_iff_eq.mpr e)
      refine ite_s (fun _ => wpS_pure ⟨_, rfl, .inl ⟨_, _, rfl, (l.xa k).dn⟩⟩) fun n2 => ?_
      have n2 : ia + k ≠ a.size := fun e => n2 (beq_iff_eq.mpr e)
      have l := l.xa k
      have l1 : ia + k + 1 < a.size := by omega
      have l3 : x + 2 <= ia + k + ib := by omega
      obtain ⟨pa, ea, sa⟩ := ha.at_ (Nat.lt_of_succ_lt l1)
      refine wpS_bind (elem_at eb ?_)
      refine ite_s (fun _ => wpS_pure ⟨_, rfl, .inl ⟨_, _, rfl, (l.pb eb).dn⟩⟩) fun n1 => ?_
      have n1 : ib + 1 ≠ b.size := fun e => n1 (beq_iff_eq.mpr e)
      refine wpS_bind (elem_at ea (wpS_bind (gallop_le hk sa hb (show ib + 1 + (b.size - (ib + 1)) <= b.size by omega) (show 0 < b.size - (ib + 1) by omega) fun k (hk2 : k <= b.size - (ib + 1)) => ?_)))
      have l := l.pb eb
      refine ite_s (fun kz => ?_) (fun _ => ?_)
      ·refine ite_s (fun _ => wpS_pure ⟨_, rfl, .inl ⟨_, _, rfl, (l.xb k).dn⟩⟩) fun n1 => ?_
       have n1 : ib + 1 + k ≠ b.size := fun e => n1 (beq_iff_eq.mpr e)
       have l := l.xb k
       have l2 : ib + 1 + k < b.size := by omega
       have l3 := Nat.le_trans l3 (Nat.add_le_add_left (show ib <= ib + 1 + k by omega) _)
       refine wpS_bind (elem_at ea ?_)
       refine ite_s (fun _ => wpS_pure ⟨_, rfl, .inl ⟨_, _, rfl, (l.pa ea).la⟩⟩) fun n1 => ?_
       have n2 := Nat.lt_of_le_of_ne (Nat.succ_le_of_lt l1) fun e => n1 (beq_iff_eq.mpr e)
       have n3 := Nat.le_trans l3 (Nat.add_le_add_right (Nat.le_succ _) _)
       exact ite_s (fun _ => wpS_pure ⟨_, rfl, .inr ⟨_, _, _, _, _, _, rfl, l.pa ea, n2, l2, n3⟩⟩) fun _ => wpS_pure ⟨_, _, _, _, _, _, _, rfl, rfl, l.pa ea, n2, l2, n3⟩
      ·have l2 : ib + 1 < b.size := by omega
       have l3 := Nat.le_trans l3 (Nat.add_le_add_left (show ib <= ib + 1 by omega) _)
       refine wpS_bind (elem_at ea ?_)
       refine ite_s (fun _ => wpS_pure ⟨_, rfl, .inl ⟨_, _, rfl, (l.pa ea).la⟩⟩) fun n1 => ?_
       have n2 := Nat.lt_of_le_of_ne (Nat.succ_le_of_lt l1) fun e => n1 (beq_iff_eq.mpr e)
       have n3 := Nat.le_trans l3 (Nat.add_le_add_right (Nat.le_succ _) _)
       exact ite_s (fun _ => wpS_pure ⟨_, rfl, .inr ⟨_, _, _, _, _, _, rfl, l.pa ea, n2, l2, n3⟩⟩) fun _ => wpS_pure ⟨_, _, _, _, _, _, _, rfl, rfl, l.pa ea, n2, l2, n3⟩
     ·obtain ⟨pa, ea, sa⟩ := ha.at_ (Nat.lt_of_succ_lt l1)
      refine wpS_bind (elem_at eb ?_)
      refine ite_s (fun _ => wpS_pure ⟨_, rfl, .inl ⟨_, _, rfl, (l.pb eb).dn⟩⟩) fun n1 => ?_
      have n1 : ib + 1 ≠ b.size := fun e => n1 (beq_iff_eq.mpr e)
      refine wpS_bind (elem_at ea (wpS_bind (gallop_le hk sa hb (show ib + 1 + (b.size - (ib + 1)) <= b.size by omega) (show 0 < b.size - (ib + 1) by omega) fun k (hk2 : k <= b.size - (ib + 1)) => ?_)))
      have l := l.pb eb
      refine ite_s (fun kz => ?_) (fun _ => ?_)
      ·refine ite_s (fun _ => wpS_pure ⟨_, rfl, .inl ⟨_, _, rfl, (l.xb k).dn⟩⟩) fun n1 => ?_
       have n1 : ib + 1 + k ≠ b.size := fun e => n1 (beq_iff_eq.mpr e)
       have l := l.xb k
       have l2 : ib + 1 + k < b.size := by omega
       have l3 := Nat.le_trans l3 (Nat.add_le_add_left (show ib <= ib + 1 + k by omega) _)
       refine wpS_bind (elem_at ea ?_)
       refine ite_s (fun _ => wpS_pure ⟨_, rfl, .inl ⟨_, _, rfl, (l.pa ea).la⟩⟩) fun n1 => ?_
       have n2 := Nat.lt_of_le_of_ne (Nat.succ_le_of_lt l1) fun e => n1 (beq_iff_eq.mpr e)
       have n3 := Nat.le_trans l3 (Nat.add_le_add_right (Nat.le_succ _) _)
       exact ite_s (fun _ => wpS_pure ⟨_, rfl, .inr ⟨_, _, _, _, _, _, rfl, l.pa ea, n2, l2, n3⟩⟩) fun _ => wpS_pure ⟨_, _, _, _, _, _, _, rfl, rfl, l.pa ea, n2, l2, n3⟩
      ·have l2 : ib + 1 < b.size := by omega
       have l3 := Nat.le_trans l3 (Nat.add_le_add_left (show ib <= ib + 1 by omega) _)
       refine wpS_bind (elem_at ea ?_)
       refine ite_s (fun _ => wpS_pure ⟨_, rfl, .inl ⟨_, _, rfl, (l.pa ea).la⟩⟩) fun n1 => ?_
       have n2 := Nat.lt_of_le_of_ne (Nat.succ_le_of_lt l1) fun e => n1 (beq_iff_eq.mpr e)
       have n3 := Nat.le_trans l3 (Nat.add_le_add_right (Nat.le_succ _) _)
       exact ite_s (fun _ => wpS_pure ⟨_, rfl, .inr ⟨_, _, _, _, _, _, rfl, l.pa ea, n2, l2, n3⟩⟩) fun _ => wpS_pure ⟨_, _, _, _, _, _, _, rfl, rfl, l.pa ea, n2, l2, n3⟩
end
def PH {α : Type} (A B O : List α) (i j : Nat) : Prop := (A.take i ++ (B.take j ++ O)).Perm (A ++ B)
theorem take_at {α : Type} (A : List α) {k i : Nat} (h : k <= i) : A.take i = A.take k ++ (A.drop k).take (i - k) := by
 rw [<- List.take_add, Nat.add_sub_cancel' h]
theorem PH.ta {α : Type} {A B O : List α} {i j k : Nat} (h : PH A B O i j) (hk : k <= i) : PH A B (O ++ ((A.drop k).take (i - k)).reverse) k j := by
 unfold PH at h ⊢
 rw [take_at A hk, List.append_assoc] at h
 refine List.Perm.trans (List.Perm.append_left _ ?_) h
 rw [<- List.append_assoc]
 exact (List.Perm.append_left _ (List.reverse_perm _)).trans List.perm_append_comm
theorem PH.tb {α : Type} {A B O : List α} {i j k : Nat} (h : PH A B O i j) (hk : k <= j) : PH A B (O ++ ((B.drop k).take (j - k)).reverse) i k := by
 unfold PH at h ⊢
 rw [take_at B hk, List.append_assoc] at h
 refine List.Perm.trans (List.Perm.append_left _ (List.Perm.append_left _ ?_)) h
 exact (List.Perm.append_left _ (List.reverse_perm _)).trans List.perm_append_comm
theorem ext_beg (a : Array Keyed) (i : Nat) : (a.extract 0 i).toList = a.toList.take i := by
 rw [ext_to]; rfl
theorem PH.dn {a b O : Array Keyed} {i j : Nat} (h : PH a.toList b.toList O.toList i j) : (a.extract 0 i ++ b.extract 0 j ++ O.reverse).toList.Perm (a.toList ++ b.toList) := by
 rw [Array.toList_append, Array.toList_append, ext_beg, ext_beg, List.append_assoc, Array.toList_reverse]
 exact (List.Perm.append_left _ (List.Perm.append_left _ (List.reverse_perm _))).trans h
theorem PH.la {a b O : Array Keyed} {i j : Nat} (h : PH a.toList b.toList O.toList i j) : (b.extract 0 j ++ a.extract 0 i ++ O.reverse).toList.Perm (a.toList ++ b.toList) := by
 rw [Array.toList_append, Array.toList_append, ext_beg, ext_beg, List.append_assoc, Array.toList_reverse]
 exact (List.perm_append_comm_assoc _ _ _).trans ((List.Perm.append_left _ (List.Perm.append_left _ (List.reverse_perm _))).trans h)
theorem PH.xa {a b O : Array Keyed} {i j k : Nat} (h : PH a.toList b.toList O.toList i j) (hk : k <= i) : PH a.toList b.toList (O ++ (a.extract k i).reverse).toList k j := by
 rw [Array.toList_append, Array.toList_reverse, ext_to]; exact h.ta hk
theorem PH.xb {a b O : Array Keyed} {i j k : Nat} (h : PH a.toList b.toList O.toList i j) (hk : k <= j) : PH a.toList b.toList (O ++ (b.extract k j).reverse).toList i k := by
 rw [Array.toList_append, Array.toList_reverse, ext_to]; exact h.tb hk
theorem PH.pa {a b O : Array Keyed} {i j : Nat} {p : Keyed} (h : PH a.toList b.toList O.toList i j) (i1 : 1 <= i) (e : a[i - 1]? = some p) : PH a.toList b.toList (O.push p).toList (i - 1) j := by
 have q := h.ta (Nat.sub_le i 1)
 rw [show i - (i - 1) = 1 by omega, one_take (B := a.toList) (by rw [<- e, Array.getElem?_toList])] at q
 rw [Array.toList_push]
 exact q
theorem PH.pb {a b O : Array Keyed} {i j : Nat} {p : Keyed} (h : PH a.toList b.toList O.toList i j) (i1 : 1 <= j) (e : b[j - 1]? = some p) : PH a.toList b.toList (O.push p).toList i (j - 1) := by
 have q := h.tb (Nat.sub_le j 1)
 rw [show j - (j - 1) = 1 by omega, one_take (B := b.toList) (by rw [<- e, Array.getElem?_toList])] at q
 rw [Array.toList_push]
 exact q
section
variable {prog : Program} {w : World} {A : Around} {E : Value -> Shared -> Prop} {s : Shared}
def Hi (a b : Array Keyed) (x : Nat) (out : Array Keyed) (na nb : Nat) : Prop := PH a.toList b.toList out.toList na nb /\ (1 <= na /\ na <= a.size) /\ (2 <= nb /\ nb <= b.size) /\ na + nb + x <= a.size + b.size
theorem mergeHi_perm {a b : Array Keyed} {st : SortSt} {Q : Array Keyed -> SortSt -> Prop} (hk : kindOf st = oneType') (ha : AS a) (hb : AS b) (a1 : 1 <= a.size) (b1 : 1 <= b.size)
  (h : ∀ out g, out.toList.Perm (a.toList ++ b.toList) -> Q out (setG st g)) : wpS (model prog w) A E s (mergeHi' a b) Q st := by
 unfold mergeHi'
 refine wpS_bind (wpS_lift (wpAny_rule ⟨rfl, ?_⟩))
 obtain ⟨p0, hp0, sp0⟩ := ha.at_ (i := a.size - 1) (by omega)
 refine wpS_bind (elem_at hp0 ?_)
 have i0 : PH a.toList b.toList (#[p0] : Array Keyed).toList (a.size - 1) b.size := by
  refine PH.pa (O := #[]) ?_ a1 hp0
  unfold PH
  rw [<- Array.length_toList, <- Array.length_toList, List.take_length, List.take_length, List.append_nil]
 refine ite_s (fun _ => wpS_pure (h _ (gallopOf st) i0.dn)) fun z1 => ?_
 refine ite_s (fun _ => wpS_pure (h _ (gallopOf st) i0.la)) fun z2 => ?_
 have z1 : a.size - 1 ≠ 0 := fun e => z1 (beq_iff_eq.mpr e)
 have z2 : b.size ≠ 1 := fun e => z2 (beq_iff_eq.mpr e)
 refine wpS_bind (wpS_get ?_)
 refine wpS_bind (wpS_mono (wpS_forRange (I := fun x c st' => ∃ g out ia ib m, st' = setG st g /\ c = (none, ia, ib, out, m) /\ Hi a b (x + 1) out ia ib)
  (Q := fun c st' => ∃ g R c', st' = setG st g /\ c = (some R, c') /\ R.toList.Perm (a.toList ++ b.toList)) ?step ?fin ⟨gallopOf st, _, _, _, _, rfl, rfl, i0, by omega, by omega, by omega⟩) ?post)
 case fin =>
  rintro c st' ⟨g, out, ia, ib, m, _, _, l⟩
  have := l.2
  omega
 case post =>
  rintro c st' ⟨g, R, c', rfl, rfl, p⟩
  exact wpS_pure (h _ _ p)
 case step =>
  rintro x c st' _ _ ⟨g, out, ia, ib, m, rfl, rfl, l⟩
  refine wpS_bind (wpS_mono (wpS_forRange (I := fun y c st' => ∃ out ia ib p q, st' = setG st g /\ c = (none, ia, ib, out, p, q) /\ Hi a b (x + 1 + y) out ia ib)
   (Q := fun c st' => st' = setG st g /\ ((∃ R c', c = (some R, c') /\ R.toList.Perm (a.toList ++ b.toList)) \/ ∃ out ia ib p q, c = (none, ia, ib, out, p, q) /\ Hi a b (x + 2) out ia ib)) ?s1 ?f1 ⟨_, _, _, _, _, rfl, rfl, l⟩) ?p1)
  case f1 =>
   rintro c st' ⟨out, ia, ib, p, q, _, _, l⟩
   have := l.2
   omega
  case s1 =>
   rintro y c st' _ _ ⟨out, ia, ib, p, q, rfl, rfl, l, l1, l2, l3⟩
   obtain ⟨pb, eb, sb⟩ := hb.at_ (i := ib - 1) (by omega)
   obtain ⟨pa, ea, sa⟩ := ha.at_ (i := ia - 1) (by omega)
   refine wpS_bind (elem_at eb (wpS_bind (elem_at ea (wpS_bind (lt_any hk sb sa fun bb => ?_)))))
   cases bb with
   | true =>
    refine wpS_bind (elem_at ea ?_)
    have l := l.pa l1.1 ea
    refine ite_s (fun _ => wpS_pure ⟨rfl, .inl ⟨_, _, rfl, l.dn⟩⟩) fun n1 => ?_
    have n1 : ia - 1 ≠ 0 := fun e => n1 (beq_iff_eq.mpr e)
    refine ite_s (fun _ => ?_) fun _ => ?_
    ·exact wpS_pure ⟨rfl, .inr ⟨_, _, _, _, _, rfl, l, (show 1 <= ia - 1 /\ ia - 1 <= a.size by omega), l2, (show ia - 1 + ib + (x + 2) <= a.size + b.size by omega)⟩⟩
    ·exact wpS_pure ⟨_, _, _, _, _, rfl, rfl, l, (show 1 <= ia - 1 /\ ia - 1 <= a.size by omega), l2, (show ia - 1 + ib + (x + 1 + (y + 1)) <= a.size + b.size by omega)⟩
   | false =>
    refine wpS_bind (elem_at eb ?_)
    have l := l.pb (by omega) eb
    refine ite_s (fun _ => wpS_pure ⟨rfl, .inl ⟨_, _, rfl, l.la⟩⟩) fun n1 => ?_
    have n1 : ib - 1 ≠ 1 := fun e => n1 (beq_iff_eq.mpr e)
    refine ite_s (fun _ => ?_) fun _ => ?_
    ·exact wpS_pure ⟨rfl, .inr ⟨_, _, _, _, _, rfl, l, l1, (show 2 <= ib - 1 /\ ib - 1 <= b.size by omega), (show ia + (ib - 1) + (x + 2) <= a.size + b.size by omega)⟩⟩
    ·exact wpS_pure ⟨_, _, _, _, _, rfl, rfl, l, l1, (show 2 <= ib - 1 /\ ib - 1 <= b.size by omega), (show ia + (ib - 1) + (x + 1 + (y + 1)) <= a.size + b.size by omega)⟩
  case p1 =>
   rintro c st' ⟨rfl, ⟨R, c', rfl, pR⟩ | ⟨out, ia, ib, p, q, rfl, l⟩⟩
   ·exact wpS_pure ⟨g, R, _, rfl, rfl, pR⟩
   refine wpS_bind (wpS_lift (wpAny_rule ⟨rfl, ?_⟩))
   refine wpS_bind (wpS_mono (wpS_forRange (I := fun y c st' => ∃ g out ia ib m p q, st' = setG st g /\ c = (none, ia, ib, out, m, p, q) /\ Hi a b (x + 2) out ia ib)
    (Q := fun c st' => ∃ g, st' = setG st g /\ ((∃ R c', c = (some R, c') /\ R.toList.Perm (a.toList ++ b.toList)) \/ ∃ out ia ib m p q, c = (none, ia, ib, out, m, p, q) /\ Hi a b (x + 2) out ia ib)) ?s2 ?f2 ⟨g, _, _, _, _, _, _, rfl, rfl, l⟩) ?p2)
   case f2 =>
    rintro c st' ⟨g, out, ia, ib, m, p, q, rfl, rfl, l⟩
    exact ⟨g, rfl, .inr ⟨_, _, _, _, _, _, rfl, l⟩⟩
   case p2 =>
    rintro c st' ⟨g, rfl, ⟨R, c', rfl, pR⟩ | ⟨out, ia, ib, m, p, q, rfl, l⟩⟩
    ·exact wpS_pure ⟨g, R, _, rfl, rfl, pR⟩
    ·exact wpS_bind (setG_at (wpS_pure ⟨_, _, _, _, _, rfl, rfl, l⟩))
   case s2 =>
    rintro y c st' _ _ ⟨g, out, ia, ib, m, p, q, rfl, rfl, l, l1, l2, l3⟩
    obtain ⟨pb, eb, sb⟩ := hb.at_ (i := ib - 1) (by omega)
    refine ite_s (fun _ => ?_) fun _ => ?_
    all_goals
     refine wpS_bind (setG_at (wpS_bind (elem_at eb (wpS_bind (gallop_le hk sb ha (show 0 + ia <= a.size by omega) (show ia - 1 < ia by omega) fun k (hk1 : k <= ia) => ?_)))))
     refine ite_s (fun kz => ?_) (fun _ => ?_)
     ·have l := l.xa hk1
      refine ite_s (fun _ => wpS_pure ⟨_, rfl, .inl ⟨_, _, rfl, l.dn⟩⟩) fun n1 => ?_
      have n1 : k ≠ 0 := fun e => n1 (beq_iff_eq.mpr e)
      have l1 : 1 <= k /\ k <= a.size := by omega
      have l3 : k + ib + (x + 2) <= a.size + b.size := by omega
      obtain ⟨pa, ea, sa⟩ := ha.at_ (Nat.lt_of_lt_of_le (Nat.sub_lt l1.1 Nat.one_pos) l1.2)
      refine wpS_bind (elem_at eb ?_)
      have l := l.pb (by omega) eb
      refine ite_s (fun _ => wpS_pure ⟨_, rfl, .inl ⟨_, _, rfl, l.la⟩⟩) fun n1 => ?_
      have n1 : ib - 1 ≠ 1 := fun e => n1 (beq_iff_eq.mpr e)
      refine wpS_bind (elem_at ea (wpS_bind (gallop_le hk sa hb (show 0 + (ib - 1) <= b.size by omega) (show ib - 1 - 1 < ib - 1 by omega) fun k (hk2 : k <= ib - 1) => ?_)))
      refine ite_s (fun kz => ?_) (fun _ => ?_)
      ·have l := l.xb hk2
       refine ite_s (fun _ => wpS_pure ⟨_, rfl, .inl ⟨_, _, rfl, l.la⟩⟩) fun n1 => ?_
       have n1 : k ≠ 1 := fun e => n1 (beq_iff_eq.mpr e)
       refine ite_s (fun _ => wpS_pure ⟨_, rfl, .inl ⟨_, _, rfl, l.dn⟩⟩) fun n2 => ?_
       have n2 : k ≠ 0 := fun e => n2 (beq_iff_eq.mpr e)
       have l2 : 2 <= k /\ k <= b.size := by omega
       have l3 := Nat.le_trans (Nat.add_le_add_right (Nat.add_le_add_left (show k <= ib by omega) _) _) l3
       refine wpS_bind (elem_at ea ?_)
       have l := l.pa l1.1 ea
       refine ite_s (fun _ => wpS_pure ⟨_, rfl, .inl ⟨_, _, rfl, l.dn⟩⟩) fun n1 => ?_
       have n2 := Nat.pos_of_ne_zero fun e => n1 (beq_iff_eq.mpr e)
       have n3 := Nat.le_trans (Nat.sub_le _ 1) l1.2
       have n4 := Nat.le_trans (Nat.add_le_add_right (Nat.add_le_add_right (Nat.sub_le _ 1) _) _) l3
       exact ite_s (fun _ => wpS_pure ⟨_, rfl, .inr ⟨_, _, _, _, _, _, rfl, l, ⟨n2, n3⟩, l2, n4⟩⟩) fun _ => wpS_pure ⟨_, _, _, _, _, _, _, rfl, rfl, l, ⟨n2, n3⟩, l2, n4⟩
      ·have l2 : 2 <= ib - 1 /\ ib - 1 <= b.size := by omega
       have l3 := Nat.le_trans (Nat.add_le_add_right (Nat.add_le_add_left (show ib - 1 <= ib by omega) _) _) l3
       refine wpS_bind (elem_at ea ?_)
       have l := l.pa l1.1 ea
       refine ite_s (fun _ => wpS_pure ⟨_, rfl, .inl ⟨_, _, rfl, l.dn⟩⟩) fun n1 => ?_
       have n2 := Nat.pos_of_ne_zero fun e => n1 (beq_iff_eq.mpr e)
       have n3 := Nat.le_trans (Nat.sub_le _ 1) l1.2
       have n4 := Nat.le_trans (Nat.add_le_add_right (Nat.add_le_add_right (Nat.sub_le _ 1) _) _) l3
       exact ite_s (fun _ => wpS_pure ⟨_, rfl, .inr ⟨_, _, _, _, _, _, rfl, l, ⟨n2, n3⟩, l2, n4⟩⟩) fun _ => wpS_pure ⟨_, _, _, _, _, _, _, rfl, rfl, l, ⟨n2, n3⟩, l2, n4⟩
     ·obtain ⟨pa, ea, sa⟩ := ha.at_ (Nat.lt_of_lt_of_le (Nat.sub_lt l1.1 Nat.one_pos) l1.2)
      refine wpS_bind (elem_at eb ?_)
      have l := l.pb (by omega) eb
      refine ite_s (fun _ => wpS_pure ⟨_, rfl, .inl ⟨_, _, rfl, l.la⟩⟩) fun n1 => ?_
      have n1 : ib - 1 ≠ 1 := fun e => n1 (beq_iff_eq.mpr e)
      refine wpS_bind (elem_at ea (wpS_bind (gallop_le hk sa hb (show 0 + (ib - 1) <= b.size by omega) (show ib - 1 - 1 < ib - 1 by omega) fun k (hk2 : k <= ib - 1) => ?_)))
      refine ite_s (fun kz => ?_) (fun _ => ?_)
      ·have l := l.xb hk2
       refine ite_s (fun _ => wpS_pure ⟨_, rfl, .inl ⟨_, _, rfl, l.la⟩⟩) fun n1 => ?_
       have n1 : k ≠ 1 := fun e => n1 (beq_iff_eq.mpr e)
       refine ite_s (fun _ => wpS_pure ⟨_, rfl, .inl ⟨_, _, rfl, l.dn⟩⟩) fun n2 => ?_
       have n2 : k ≠ 0 := fun e => n2 (beq_iff_eq.mpr e)
       have l2 : 2 <= k /\ k <= b.size := by omega
       have l3 := Nat.le_trans (Nat.add_le_add_right (Nat.add_le_add_left (show k <= ib by omega) _) _) l3
       refine wpS_bind (elem_at ea ?_)
       have l := l.pa l1.1 ea
       refine ite_s (fun _ => wpS_pure ⟨_, rfl, .inl ⟨_, _, rfl, l.dn⟩⟩) fun n1 => ?_
       have n2 := Nat.pos_of_ne_zero fun e => n1 (beq_iff_eq.mpr e)
       have n3 := Nat.le_trans (Nat.sub_le _ 1) l1.2
       have n4 := Nat.le_trans (Nat.add_le_add_right (Nat.add_le_add_right (Nat.sub_le _ 1) _) _) l3
       exact ite_s (fun _ => wpS_pure ⟨_, rfl, .inr ⟨_, _, _, _, _, _, rfl, l, ⟨n2, n3⟩, l2, n4⟩⟩) fun _ => wpS_pure ⟨_, _, _, _, _, _, _, rfl, rfl, l, ⟨n2, n3⟩, l2, n4⟩
      ·have l2 : 2 <= ib - 1 /\ ib - 1 <= b.size := by omega
       have l3 := Nat.le_trans (Nat.add_le_add_right (Nat.add_le_add_left (show ib - 1 <= ib by omega) _) _) l3
       refine wpS_bind (elem_at ea ?_)
       have l := l.pa l1.1 ea
       refine ite_s (fun _ => wpS_pure ⟨_, rfl, .inl ⟨_, _, rfl, l.dn⟩⟩) fun n1 => ?_
       have n2 := Nat.pos_of_ne_zero fun e => n1 (beq_iff_eq.mpr e)
       have n3 := Nat.le_trans (Nat.sub_le _ 1) l1.2
       have n4 := Nat.le_trans (Nat.add_le_add_right (Nat.add_le_add_right (Nat.sub_le _ 1) _) _) l3
       exact ite_s (fun _ => wpS_pure ⟨_, rfl, .inr ⟨_, _, _, _, _, _, rfl, l, ⟨n2, n3⟩, l2, n4⟩⟩) fun _ => wpS_pure ⟨_, _, _, _, _, _, _, rfl, rfl, l, ⟨n2, n3⟩, l2, n4⟩
end
end SrtP
namespace SrtP
open PySem PyProof.Rows
def Ch : List (Nat × Nat × Nat) -> Nat -> Nat -> Prop
 | [], s, e => s = e
 | (a, n, _) :: r, s, e => a = s /\ 1 <= n /\ Ch r (s + n) e
theorem Ch.le : ∀ {l : List (Nat × Nat × Nat)} {s e : Nat}, Ch l s e -> s <= e
 | [], _, _, h => Nat.le_of_eq h
 | (_, n, _) :: _, s, _, h => Nat.le_trans (Nat.le_add_right s n) (Ch.le h.2.2)
theorem Ch.app {l r : List (Nat × Nat × Nat)} : ∀ {s e : Nat}, Ch (l ++ r) s e ↔ ∃ m, Ch l s m /\ Ch r m e := by
 induction l with
 | nil => exact fun {s e} => ⟨fun h => ⟨s, rfl, h⟩, fun ⟨_, rfl, h⟩ => h⟩
 | cons x l ih =>
  obtain ⟨a, n, q⟩ := x
  intro s e
  constructor
  ·rintro ⟨h1, h2, h3⟩
   obtain ⟨m, h4, h5⟩ := ih.mp h3
   exact ⟨m, ⟨h1, h2, h4⟩, h5⟩
  ·rintro ⟨m, ⟨h1, h2, h4⟩, h5⟩
   exact ⟨h1, h2, ih.mpr ⟨m, h4, h5⟩⟩
theorem Ch.join {l : List (Nat × Nat × Nat)} {i e : Nat} {sa na q sb nb q' : Nat} (h : Ch l 0 e) (h1 : l[i]? = some (sa, na, q)) (h2 : l[i + 1]? = some (sb, nb, q')) :
  sb = sa + na /\ 1 <= na /\ 1 <= nb /\ sb + nb <= e /\ Ch ((l.set i (sa, na + nb, q)).eraseIdx (i + 1)) 0 e := by
 obtain ⟨hi, e1⟩ := List.getElem?_eq_some_iff.mp h1
 obtain ⟨hj, e2⟩ := List.getElem?_eq_some_iff.mp h2
 have sp : l = l.take i ++ (sa, na, q) :: (sb, nb, q') :: l.drop (i + 2) := by
  rw [<- e1, <- e2, <- List.drop_eq_getElem_cons hj, <- List.drop_eq_getElem_cons hi, List.take_append_drop]
 have hl : (l.take i).length = i := by rw [List.length_take]; omega
 have sp2 : (l.set i (sa, na + nb, q)).eraseIdx (i + 1) = l.take i ++ (sa, na + nb, q) :: l.drop (i + 2) := by
  conv => lhs; rw [sp]
  generalize l.take i = u at hl
  subst hl
  rw [List.set_append_right _ _ (Nat.le_refl _), Nat.sub_self, List.set_cons_zero, List.eraseIdx_append_of_length_le (Nat.le_succ _), Nat.succ_sub (Nat.le_refl _), Nat.sub_self]
  rfl
 rw [sp] at h
 rw [sp2]
 obtain ⟨m, c1, rfl, c2, rfl, c4, c5⟩ := Ch.app.mp h
 refine ⟨rfl, c2, c4, c5.le, Ch.app.mpr ⟨_, c1, rfl, by omega, ?_⟩⟩
 rw [<- Nat.add_assoc]
 exact c5
theorem sets_from (sa : Nat) : ∀ (L : List Keyed) (n : Nat) (arr : Array Keyed), sa + n + L.length <= arr.size ->
  ((L.zipIdx n).foldl (fun a (x : Keyed × Nat) => a.setIfInBounds (sa + x.2) x.1) arr).toList = arr.toList.take (sa + n) ++ (L ++ arr.toList.drop (sa + n + L.length))
 | [], n, arr, h => by
  show arr.toList = _
  rw [List.nil_append, List.length_nil, Nat.add_zero, List.take_append_drop]
 | x :: L, n, arr, h => by
  rw [List.length_cons] at h
  show ((L.zipIdx (n + 1)).foldl _ (arr.setIfInBounds (sa + n) x)).toList = _
  rw [sets_from sa L (n + 1) _ (by rw [Array.size_setIfInBounds]; omega), Array.toList_setIfInBounds, List.length_cons]
  have hn : sa + n < arr.toList.length := by rw [Array.length_toList]; omega
  rw [show sa + (n + 1) = sa + n + 1 by omega, List.take_succ_eq_append_getElem (by rw [List.length_set]; exact hn), List.getElem_set_self, List.take_set_of_le (Nat.le_refl _), List.drop_set_of_lt (by omega), List.append_assoc]
  rw [show sa + n + 1 + L.length = sa + n + (L.length + 1) by omega]
  rfl
theorem merge_perm {arr : Array Keyed} {sa na nb : Nat} {M : List Keyed} (hz : sa + na + nb <= arr.size) (h : M.Perm ((arr.extract sa (sa + na)).toList ++ (arr.extract (sa + na) (sa + na + nb)).toList)) :
  (M.zipIdx.foldl (fun a (x : Keyed × Nat) => a.setIfInBounds (sa + x.2) x.1) arr).Perm arr := by
 rw [ext_to, ext_to, Nat.add_sub_cancel_left, Nat.add_sub_cancel_left] at h
 have hl : M.length = na + nb := by
  rw [h.length_eq, List.length_append, List.length_take, List.length_take, List.length_drop, List.length_drop, Array.length_toList]; omega
 rw [Array.perm_iff_toList_perm, sets_from sa M 0 arr (by omega), hl]
 have sp : arr.toList = arr.toList.take sa ++ (((arr.toList.drop sa).take na ++ (arr.toList.drop (sa + na)).take nb) ++ arr.toList.drop (sa + (na + nb))) := by
  rw [List.append_assoc, <- Nat.add_assoc, <- List.drop_drop (i := nb) (j := sa + na), List.take_append_drop, <- List.drop_drop, List.take_append_drop, List.take_append_drop]
 conv => rhs; rw [sp]
 exact List.Perm.append_left _ (h.append_right _)
section
variable {prog : Program} {w : World} {A : Around} {E : Value -> Shared -> Prop} {s : Shared} {a₀ : Array Keyed}
structure Rb (a₀ : Array Keyed) (st : SortSt) : Prop where
 perm : (arrOf st).Perm a₀
 kind : kindOf st = oneType'
 fail : failedOf st = none
theorem Rb.size {st : SortSt} (h : Rb a₀ st) : (arrOf st).size = a₀.size := h.perm.size_eq
theorem Rb.as {st : SortSt} (h : Rb a₀ st) (h0 : AS a₀) : AS (arrOf st) := fun p hp => h0 p ((Array.perm_iff_toList_perm.mp h.perm).mem_iff.mp hp)
theorem AS.ext {a : Array Keyed} (h : AS a) (i j : Nat) : AS (a.extract i j) := fun p hp => h p (by
 rw [ext_to] at hp
 exact List.mem_of_mem_drop (List.mem_of_mem_take hp))
theorem set_s {σ : Type} {M : Model} {v st : σ} {Q : PUnit -> σ -> Prop} (h : Q ⟨⟩ v) : wpS M A E s (set v : StateT σ Sem PUnit) Q st := by
 unfold wpS; rw [StateT.run_set]; exact wpAny_pure ⟨rfl, h⟩
theorem mergeAt_perm {st : SortSt} {i e : Nat} {Q : Bool -> SortSt -> Prop} (h0 : AS a₀) (hB : Rb a₀ st) (hc : Ch (pendingOf st).toList 0 e) (he : e <= a₀.size) (hi : i + 1 < (pendingOf st).size)
  (h : ∀ st', Rb a₀ st' -> Ch (pendingOf st').toList 0 e -> Q true st') : wpS (model prog w) A E s (mergeAt' i) Q st := by
 unfold mergeAt'
 obtain ⟨⟨sa, na, pw⟩, h1⟩ : ∃ x, (pendingOf st)[i]? = some x := ⟨_, getElem?_pos (pendingOf st) i (by omega)⟩
 obtain ⟨⟨sb, nb, pw'⟩, h2⟩ : ∃ x, (pendingOf st)[i + 1]? = some x := ⟨_, getElem?_pos (pendingOf st) (i + 1) hi⟩
 obtain ⟨rfl, na1, nb1, le, ch⟩ := hc.join (by rw [Array.getElem?_toList]; exact h1) (by rw [Array.getElem?_toList]; exact h2)
 have hz := hB.size
 have ha := hB.as h0
 refine wpS_bind (wpS_get ?_)
 rw [h1, h2]
 refine wpS_bind (set_s ?_)
 have ch : Ch (((pendingOf st).setIfInBounds i (sa, na + nb, pw)).eraseIdxIfInBounds (i + 1)).toList 0 e := by
  rw [Array.toList_eraseIdxIfInBounds, Array.toList_setIfInBounds]; exact ch
 obtain ⟨p1, e1, s1⟩ := ha.at_ (i := sa + na) (by omega)
 refine wpS_bind (elem_at e1 (wpS_bind (gallop_le hB.kind s1 ha (show sa + na <= (arrOf st).size by omega) (by omega) fun k hk => ?_)))
 refine ite_s (fun _ => wpS_pure (h _ ⟨hB.perm, hB.kind, hB.fail⟩ ch)) fun z => ?_
 have z : na - k ≠ 0 := fun e => z (beq_iff_eq.mpr e)
 obtain ⟨p2, e2, s2⟩ := ha.at_ (i := sa + k + (na - k) - 1) (by omega)
 refine wpS_bind (elem_at e2 (wpS_bind (gallop_le hB.kind s2 ha (show sa + na + nb <= (arrOf st).size by omega) (by omega) fun m hm => ?_)))
 refine ite_s (fun _ => wpS_pure (h _ ⟨hB.perm, hB.kind, hB.fail⟩ ch)) fun z' => ?_
 have z' : m ≠ 0 := fun e => z' (beq_iff_eq.mpr e)
 have fin : ∀ (M : Array Keyed), M.toList.Perm (((arrOf st).extract (sa + k) (sa + na)).toList ++ ((arrOf st).extract (sa + na) (sa + na + m)).toList) -> ∀ (R : Array Keyed), R = M.toList.zipIdx.foldl (fun a (x : Keyed × Nat) => a.setIfInBounds (sa + k + x.2) x.1) (arrOf st) -> R.Perm a₀ := by
  intro M hM R e
  rw [e]
  rw [show sa + na = sa + k + (na - k) by omega] at hM
  exact (merge_perm (by omega) hM).trans hB.perm
 have z1 : 1 <= ((arrOf st).extract (sa + k) (sa + na)).size := by rw [Array.size_extract]; omega
 have z2 : 1 <= ((arrOf st).extract (sa + na) (sa + na + m)).size := by rw [Array.size_extract]; omega
 refine ite_s (fun _ => wpS_bind ?_) fun _ => wpS_bind ?_
 ·refine mergeLo_perm hB.kind (ha.ext _ _) (ha.ext _ _) z1 z2 fun out g hp => ?_
  refine wpS_bind (wpS_modify (wpS_bind (wpS_get (wpS_pure ?_))))
  show Q (failedOf st).isNone _
  rw [hB.fail]
  exact h _ ⟨fin out hp _ rfl, hB.kind, hB.fail⟩ ch
 ·refine mergeHi_perm hB.kind (ha.ext _ _) (ha.ext _ _) z1 z2 fun out g hp => ?_
  refine wpS_bind (wpS_modify (wpS_bind (wpS_get (wpS_pure ?_))))
  show Q (failedOf st).isNone _
  rw [hB.fail]
  exact h _ ⟨fin out hp _ rfl, hB.kind, hB.fail⟩ ch
theorem Rb.arr {st : SortSt} (h : Rb a₀ st) {xs : Array Keyed} (hp : xs.Perm (arrOf st)) : Rb a₀ (setArr st xs) := ⟨hp.trans h.perm, h.kind, h.fail⟩
theorem ltAt_any {st : SortSt} {i j : Nat} {Q : Option Bool -> SortSt -> Prop} (h0 : AS a₀) (hB : Rb a₀ st) (hi : i < a₀.size) (hj : j < a₀.size) (h : ∀ b, Q (some b) st) : wpS (model prog w) A E s (ltAt' i j) Q st := by
 rw [ltAt'_eq]
 have hz := hB.size
 obtain ⟨p, e1, s1⟩ := (hB.as h0).at_ (i := i) (by omega)
 obtain ⟨q, e2, s2⟩ := (hB.as h0).at_ (i := j) (by omega)
 exact wpS_bind (wpS_get (wpS_bind (elem_at e1 (wpS_bind (elem_at e2 (lt_any hB.kind s1 s2 h))))))
theorem move_s {st : SortSt} {i j : Nat} {Q : Unit -> SortSt -> Prop} (h : Q () (setArr st (bubble (arrOf st) i (i - j)))) : wpS (model prog w) A E s (moveDown' i j) Q st := by
 rw [moveDown'_eq]; exact wpS_modify h
theorem bin_perm {st : SortSt} {lo n ok : Nat} {Q : Bool -> SortSt -> Prop} (h0 : AS a₀) (hB : Rb a₀ st) (hn : lo + n <= a₀.size) (h : ∀ st', Rb a₀ st' -> pendingOf st' = pendingOf st -> Q true st') : wpS (model prog w) A E s (binarySort' lo n ok) Q st := by
 rw [binarySort'_eq]
 refine wpS_bind (wpS_mono (wpS_forRange (I := fun _ c st' => c = (none, ()) /\ Rb a₀ st' /\ pendingOf st' = pendingOf st) (Q := fun c st' => c = (none, ()) /\ Rb a₀ st' /\ pendingOf st' = pendingOf st) ?_ (fun _ _ z => z) ⟨rfl, hB, rfl⟩) ?_)
 ·rintro k c st' _ hk ⟨rfl, hB', hp⟩
  refine wpS_bind (wpS_mono (wpS_forRange (I := fun _ c st'' => st'' = st' /\ ∃ l r, c = (none, l, r) /\ r <= k) (Q := fun c st'' => st'' = st' /\ ∃ l r, c = (none, l, r) /\ r <= k) ?_ (fun _ _ z => z) ⟨rfl, 0, k, rfl, Nat.le_refl _⟩) ?_)
  ·rintro x c st'' _ _ ⟨rfl, l, r, rfl, hr⟩
   refine ite_s (fun _ => wpS_pure ⟨rfl, l, r, rfl, hr⟩) fun z => ?_
   have z : ¬ l >= r := z
   refine wpS_bind (ltAt_any h0 hB' (show lo + k < a₀.size by omega) (show lo + (l + r) / 2 < a₀.size by omega) fun b => ?_)
   cases b with
   | true => exact wpS_pure ⟨rfl, l, _, rfl, (show (l + r) / 2 <= k by omega)⟩
   | false => exact wpS_pure ⟨rfl, _, r, rfl, hr⟩
  ·rintro c st'' ⟨rfl, l, r, rfl, hr⟩
   exact wpS_bind (move_s (wpS_pure ⟨rfl, hB'.arr (bubble_perm _ _ _), hp⟩))
 ·rintro c st' ⟨rfl, hB', hp⟩
  exact wpS_pure (h _ hB' hp)
theorem rev_s {st : SortSt} {i j : Nat} {p : Array (Nat × Nat × Nat)} {Q : Unit -> SortSt -> Prop} (hB : Rb a₀ st /\ pendingOf st = p) (h : ∀ st', Rb a₀ st' /\ pendingOf st' = p -> Q () st') : wpS (model prog w) A E s (reverseSlice' i j) Q st :=
 wpS_reverse (h _ ⟨hB.1.arr (mirror_perm _ _ _ _), hB.2⟩)
theorem count_perm {st : SortSt} {lo nrem : Nat} {Q : Option Nat -> SortSt -> Prop} (h0 : AS a₀) (hB : Rb a₀ st) (hn : lo + nrem <= a₀.size) (n1 : 1 <= nrem) (h : ∀ m st', 1 <= m -> m <= nrem -> Rb a₀ st' -> pendingOf st' = pendingOf st -> Q (some m) st') : wpS (model prog w) A E s (countRun' lo nrem) Q st := by
 rw [countRun'_eq]
 refine wpS_bind (wpS_mono (wpS_forRange (I := fun x c st' => st' = st /\ c = (none, x)) (Q := fun c st' => st' = st /\ ∃ n, c = (none, n) /\ 1 <= n /\ n <= nrem) ?_ ?_ ⟨rfl, rfl⟩) ?_)
 ·rintro x c st' hx hx2 ⟨rfl, rfl⟩
  refine wpS_bind (ltAt_any h0 hB (show lo + x < a₀.size by omega) (show lo + x - 1 < a₀.size by omega) fun b => ?_)
  cases b with
  | true => exact wpS_pure ⟨rfl, x, rfl, hx, by omega⟩
  | false => exact wpS_pure ⟨rfl, rfl⟩
 ·rintro c st' ⟨rfl, rfl⟩
  exact ⟨rfl, _, rfl, by omega, by omega⟩
 ·rintro c st' ⟨rfl, n, rfl, l1, l2⟩
  refine ite_s (fun _ => wpS_pure (h _ _ l1 l2 hB rfl)) fun z => ?_
  have z : n ≠ nrem := fun e => z (beq_iff_eq.mpr e)
  refine ite_s (fun g1 => ?_) fun _ => ?_
  ·have g1 : n > 1 := g1
   refine wpS_bind (ltAt_any h0 hB (show lo < a₀.size by omega) (show lo + n - 1 < a₀.size by omega) fun b => ?_)
   cases b with
   | true => exact wpS_pure (h _ _ l1 l2 hB rfl)
   | false =>
    refine wpS_bind (rev_s ⟨hB, rfl⟩ fun st1 hB => ?_)
    refine wpS_bind (wpS_lift (wpAny_rule ⟨rfl, ?_⟩))
    refine wpS_bind (wpS_mono (wpS_forRange (I := fun x c st'' => (Rb a₀ st'' /\ pendingOf st'' = pendingOf st') /\ ∃ q, c = (none, x, q)) (Q := fun c st'' => (Rb a₀ st'' /\ pendingOf st'' = pendingOf st') /\ ∃ x q, c = (none, x, q) /\ n + 1 <= x /\ x <= nrem) ?_ ?_ ⟨hB, 0, rfl⟩) ?_)
    ·rintro x c st'' (hx : n + 1 <= x) hx2 ⟨hB, q, rfl⟩
     refine wpS_bind (ltAt_any h0 hB.1 (show lo + x < a₀.size by omega) (show lo + x - 1 < a₀.size by omega) fun b => ?_)
     cases b with
     | true =>
      refine ite_s (fun _ => ite_s (fun _ => ?_) fun _ => ?_) fun z => absurd rfl z
      ·exact wpS_bind (rev_s hB fun st2 hB => wpS_pure ⟨hB, _, rfl⟩)
      ·exact wpS_pure ⟨hB, _, rfl⟩
     | false =>
      refine wpS_bind (ltAt_any h0 hB.1 (show lo + x - 1 < a₀.size by omega) (show lo + x < a₀.size by omega) fun b => ?_)
      cases b with
      | true => exact wpS_pure ⟨hB, x, q, rfl, hx, by omega⟩
      | false => exact wpS_pure ⟨hB, _, rfl⟩
    ·rintro c st'' ⟨hB, q, rfl⟩
     have e : max (n + 1) nrem = nrem := by omega
     exact ⟨hB, _, q, rfl, (show n + 1 <= max (n + 1) nrem by omega), (show max (n + 1) nrem <= nrem by omega)⟩
    ·rintro c st'' ⟨hB, x, q, rfl, l1, l2⟩
     refine ite_s (fun _ => wpS_bind (rev_s hB fun st2 hB => ?_)) fun _ => ?_
     ·refine wpS_bind (rev_s hB fun st3 hB => ?_)
      refine wpS_bind (wpS_mono (wpS_forRange (I := fun y c st'' => (Rb a₀ st'' /\ pendingOf st'' = pendingOf st') /\ c = (none, y)) (Q := fun c st'' => (Rb a₀ st'' /\ pendingOf st'' = pendingOf st') /\ ∃ y, c = (none, y) /\ 1 <= y /\ y <= nrem) ?_ ?_ ⟨hB, rfl⟩) ?_)
      ·rintro y c st'' (hx : x <= y) hx2 ⟨hB, rfl⟩
       refine wpS_bind (ltAt_any h0 hB.1 (show lo + y < a₀.size by omega) (show lo + y - 1 < a₀.size by omega) fun b => ?_)
       cases b with
       | true => exact wpS_pure ⟨hB, y, rfl, by omega, by omega⟩
       | false => exact wpS_pure ⟨hB, rfl⟩
      ·rintro c st'' ⟨hB, rfl⟩
       exact ⟨hB, _, rfl, (show 1 <= max x nrem by omega), (show max x nrem <= nrem by omega)⟩
      ·rintro c st'' ⟨hB, y, rfl, y1, y2⟩
       exact wpS_pure (h _ _ y1 y2 hB.1 hB.2)
     ·refine wpS_bind (rev_s hB fun st3 hB => ?_)
      refine wpS_bind (wpS_mono (wpS_forRange (I := fun y c st'' => (Rb a₀ st'' /\ pendingOf st'' = pendingOf st') /\ c = (none, y)) (Q := fun c st'' => (Rb a₀ st'' /\ pendingOf st'' = pendingOf st') /\ ∃ y, c = (none, y) /\ 1 <= y /\ y <= nrem) ?_ ?_ ⟨hB, rfl⟩) ?_)
      ·rintro y c st'' (hx : x <= y) hx2 ⟨hB, rfl⟩
       refine wpS_bind (ltAt_any h0 hB.1 (show lo + y < a₀.size by omega) (show lo + y - 1 < a₀.size by omega) fun b => ?_)
       cases b with
       | true => exact wpS_pure ⟨hB, y, rfl, by omega, by omega⟩
       | false => exact wpS_pure ⟨hB, rfl⟩
      ·rintro c st'' ⟨hB, rfl⟩
       exact ⟨hB, _, rfl, (show 1 <= max x nrem by omega), (show max x nrem <= nrem by omega)⟩
      ·rintro c st'' ⟨hB, y, rfl, y1, y2⟩
       exact wpS_pure (h _ _ y1 y2 hB.1 hB.2)
  ·have hB : Rb a₀ st' /\ pendingOf st' = pendingOf st' := ⟨hB, rfl⟩
   refine wpS_bind (wpS_lift (wpAny_rule ⟨rfl, ?_⟩))
   refine wpS_bind (wpS_mono (wpS_forRange (I := fun x c st'' => (Rb a₀ st'' /\ pendingOf st'' = pendingOf st') /\ ∃ q, c = (none, x, q)) (Q := fun c st'' => (Rb a₀ st'' /\ pendingOf st'' = pendingOf st') /\ ∃ x q, c = (none, x, q) /\ n + 1 <= x /\ x <= nrem) ?_ ?_ ⟨hB, 0, rfl⟩) ?_)
   ·rintro x c st'' (hx : n + 1 <= x) hx2 ⟨hB, q, rfl⟩
    refine wpS_bind (ltAt_any h0 hB.1 (show lo + x < a₀.size by omega) (show lo + x - 1 < a₀.size by omega) fun b => ?_)
    cases b with
    | true =>
     refine ite_s (fun _ => ite_s (fun _ => ?_) fun _ => ?_) fun z => absurd rfl z
     ·exact wpS_bind (rev_s hB fun st2 hB => wpS_pure ⟨hB, _, rfl⟩)
     ·exact wpS_pure ⟨hB, _, rfl⟩
    | false =>
     refine wpS_bind (ltAt_any h0 hB.1 (show lo + x - 1 < a₀.size by omega) (show lo + x < a₀.size by omega) fun b => ?_)
     cases b with
     | true => exact wpS_pure ⟨hB, x, q, rfl, hx, by omega⟩
     | false => exact wpS_pure ⟨hB, _, rfl⟩
   ·rintro c st'' ⟨hB, q, rfl⟩
    have e : max (n + 1) nrem = nrem := by omega
    exact ⟨hB, _, q, rfl, (show n + 1 <= max (n + 1) nrem by omega), (show max (n + 1) nrem <= nrem by omega)⟩
   ·rintro c st'' ⟨hB, x, q, rfl, l1, l2⟩
    refine ite_s (fun _ => wpS_bind (rev_s hB fun st2 hB => ?_)) fun _ => ?_
    ·refine wpS_bind (rev_s hB fun st3 hB => ?_)
     refine wpS_bind (wpS_mono (wpS_forRange (I := fun y c st'' => (Rb a₀ st'' /\ pendingOf st'' = pendingOf st') /\ c = (none, y)) (Q := fun c st'' => (Rb a₀ st'' /\ pendingOf st'' = pendingOf st') /\ ∃ y, c = (none, y) /\ 1 <= y /\ y <= nrem) ?_ ?_ ⟨hB, rfl⟩) ?_)
     ·rintro y c st'' (hx : x <= y) hx2 ⟨hB, rfl⟩
      refine wpS_bind (ltAt_any h0 hB.1 (show lo + y < a₀.size by omega) (show lo + y - 1 < a₀.size by omega) fun b => ?_)
      cases b with
      | true => exact wpS_pure ⟨hB, y, rfl, by omega, by omega⟩
      | false => exact wpS_pure ⟨hB, rfl⟩
     ·rintro c st'' ⟨hB, rfl⟩
      exact ⟨hB, _, rfl, (show 1 <= max x nrem by omega), (show max x nrem <= nrem by omega)⟩
     ·rintro c st'' ⟨hB, y, rfl, y1, y2⟩
      exact wpS_pure (h _ _ y1 y2 hB.1 hB.2)
    ·refine wpS_bind (rev_s hB fun st3 hB => ?_)
     refine wpS_bind (wpS_mono (wpS_forRange (I := fun y c st'' => (Rb a₀ st'' /\ pendingOf st'' = pendingOf st') /\ c = (none, y)) (Q := fun c st'' => (Rb a₀ st'' /\ pendingOf st'' = pendingOf st') /\ ∃ y, c = (none, y) /\ 1 <= y /\ y <= nrem) ?_ ?_ ⟨hB, rfl⟩) ?_)
     ·rintro y c st'' (hx : x <= y) hx2 ⟨hB, rfl⟩
      refine wpS_bind (ltAt_any h0 hB.1 (show lo + y < a₀.size by omega) (show lo + y - 1 < a₀.size by omega) fun b => ?_)
      cases b with
      | true => exact wpS_pure ⟨hB, y, rfl, by omega, by omega⟩
      | false => exact wpS_pure ⟨hB, rfl⟩
     ·rintro c st'' ⟨hB, rfl⟩
      exact ⟨hB, _, rfl, (show 1 <= max x nrem by omega), (show max x nrem <= nrem by omega)⟩
     ·rintro c st'' ⟨hB, y, rfl, y1, y2⟩
      exact wpS_pure (h _ _ y1 y2 hB.1 hB.2)
end
end SrtP
namespace SrtP
open PySem PyProof.Rows
section
variable {prog : Program} {w : World} {A : Around} {E : Value -> Shared -> Prop} {s : Shared} {a₀ : Array Keyed}
theorem minRun_pos : ∀ (f n r : Nat), 1 <= n -> 1 <= minRun' f n r
 | 0, n, r, h => Nat.le_trans h (Nat.le_add_right n r)
 | f + 1, n, r, h => by
  rw [minRun'_succ]
  split
  ·omega
  ·exact minRun_pos f _ _ (by omega)
theorem ch_mod {p : Array (Nat × Nat × Nat)} {e pw : Nat} (h : Ch p.toList 0 e) : Ch (p.modify (p.size - 1) fun x => (x.1, x.2.1, pw)).toList 0 e := by
 have go : ∀ (l : List (Nat × Nat × Nat)) (i a b : Nat), Ch l a b -> Ch (l.modify i fun x => (x.1, x.2.1, pw)) a b := by
  intro l
  induction l with
  | nil => intro i a b h; cases i <;> exact h
  | cons x l ih =>
   intro i a b h
   obtain ⟨x1, x2, x3⟩ := x
   cases i with
   | zero => exact h
   | succ i => exact ⟨h.1, h.2.1, ih i _ _ h.2.2⟩
 rw [Array.toList_modify]
 exact go _ _ _ _ h
theorem ix_lt {c : Prop} [Decidable c] {n : Nat} (h : ¬ n <= 1) : (if c then n - 2 - 1 else n - 2) + 1 < n := by split <;> omega
def Sf (a₀ : Array Keyed) (lo : Nat) (st : SortSt) : Prop := Rb a₀ st /\ Ch (pendingOf st).toList 0 lo /\ lo <= a₀.size
theorem runs_perm {st : SortSt} {Q : Unit -> SortSt -> Prop} (h0 : AS a₀) (hB : Rb a₀ st) (hp : pendingOf st = #[]) (h : ∀ st', (arrOf st').Perm a₀ -> failedOf st' = none -> Q () st') : wpS (model prog w) A E s sortRuns' Q st := by
 unfold sortRuns'
 refine wpS_bind (wpS_get ?_)
 have hz := hB.size
 refine wpS_bind (wpS_mono (wpS_forRange (I := fun _ c st' => ∃ lo, c = (none, lo) /\ Sf a₀ lo st') (Q := fun c st' => ∃ lo, c = (none, lo) /\ Sf a₀ lo st') ?step (fun _ _ z => z) ⟨0, rfl, hB, by rw [hp]; rfl, Nat.zero_le _⟩) ?post)
 case step =>
  rintro x c st' _ _ ⟨lo, rfl, hS⟩
  refine ite_s (fun _ => wpS_pure ⟨lo, rfl, hS⟩) fun z => ?_
  have z : ¬ lo >= (arrOf st).size := z
  refine wpS_bind (count_perm h0 hS.1 (show lo + ((arrOf st).size - lo) <= a₀.size by omega) (show 1 <= (arrOf st).size - lo by omega) fun m st1 m1 m2 hB1 hp1 => ?_)
  have m2 : m <= (arrOf st).size - lo := m2
  have hc : Ch (pendingOf st1).toList 0 lo := by rw [hp1]; exact hS.2.1
  have hl := hS.2.2
  refine ite_s (fun _ => wpS_bind (wpS_lift (wpAny_rule ⟨rfl, ?_⟩))) fun _ => ?_
  ·have mp := minRun_pos (arrOf st).size (arrOf st).size 0 (by omega)
   refine wpS_bind (bin_perm h0 hB1 (show lo + min ((arrOf st).size - lo) (minRun' (arrOf st).size (arrOf st).size 0) <= a₀.size by omega) fun st2 hB2 hp2 => ?_)
   have hc : Ch (pendingOf st2).toList 0 lo := by rw [hp2]; exact hc
   have N1 : 1 <= min ((arrOf st).size - lo) (minRun' (arrOf st).size (arrOf st).size 0) := by omega
   have N2 : lo + min ((arrOf st).size - lo) (minRun' (arrOf st).size (arrOf st).size 0) <= a₀.size := by omega
   refine wpS_bind (wpS_get ?_)
   have psh : ∀ {st2 : SortSt}, Rb a₀ st2 -> Ch (pendingOf st2).toList 0 lo -> Sf a₀ _ (setPending st2 ((pendingOf st2).push (lo, _, 0))) := fun hB hc => ⟨⟨hB.perm, hB.kind, hB.fail⟩, by rw [Array.toList_push]; exact Ch.app.mpr ⟨lo, hc, rfl, N1, rfl⟩, N2⟩
   cases hb : (pendingOf _).back? with
   | none =>
    exact wpS_bind (wpS_modify (wpS_pure ⟨_, rfl, psh hB2 hc⟩))
   | some y =>
    refine wpS_bind (wpS_mono (wpS_forRange (I := fun _ c st'' => c = (none, ()) /\ Sf a₀ lo st'') (Q := fun c st'' => c = (none, ()) /\ Sf a₀ lo st'') ?_ (fun _ _ z => z) ⟨rfl, hB2, hc, hl⟩) ?_)
    ·rintro x c st'' _ _ ⟨rfl, hS⟩
     refine wpS_bind (wpS_get ?_)
     dsimp only
     by_cases g : (pendingOf st'').size > 1
     ·have e := getElem?_pos (pendingOf st'') ((pendingOf st'').size - 2) (by omega)
      rw [if_pos g, e]
      refine ite_s (fun _ => wpS_pure ⟨rfl, hS⟩) fun _ => ?_
      exact wpS_bind (mergeAt_perm h0 hS.1 hS.2.1 hS.2.2 (show (pendingOf st'').size - 2 + 1 < (pendingOf st'').size by omega) fun st3 hB3 hc3 => wpS_pure ⟨rfl, hB3, hc3, hl⟩)
     ·rw [if_neg g]
      exact wpS_pure ⟨rfl, hS⟩
    ·rintro c st'' ⟨rfl, hS⟩
     exact wpS_bind (wpS_modify (wpS_bind (wpS_modify (wpS_pure ⟨_, rfl, psh ⟨hS.1.perm, hS.1.kind, hS.1.fail⟩ (ch_mod hS.2.1)⟩))))
  ·have hB2 := hB1
   have N1 := m1
   have N2 : lo + m <= a₀.size := by omega
   refine wpS_bind (wpS_get ?_)
   have psh : ∀ {st2 : SortSt}, Rb a₀ st2 -> Ch (pendingOf st2).toList 0 lo -> Sf a₀ _ (setPending st2 ((pendingOf st2).push (lo, _, 0))) := fun hB hc => ⟨⟨hB.perm, hB.kind, hB.fail⟩, by rw [Array.toList_push]; exact Ch.app.mpr ⟨lo, hc, rfl, N1, rfl⟩, N2⟩
   cases hb : (pendingOf _).back? with
   | none =>
    exact wpS_bind (wpS_modify (wpS_pure ⟨_, rfl, psh hB2 hc⟩))
   | some y =>
    refine wpS_bind (wpS_mono (wpS_forRange (I := fun _ c st'' => c = (none, ()) /\ Sf a₀ lo st'') (Q := fun c st'' => c = (none, ()) /\ Sf a₀ lo st'') ?_ (fun _ _ z => z) ⟨rfl, hB2, hc, hl⟩) ?_)
    ·rintro x c st'' _ _ ⟨rfl, hS⟩
     refine wpS_bind (wpS_get ?_)
     dsimp only
     by_cases g : (pendingOf st'').size > 1
     ·have e := getElem?_pos (pendingOf st'') ((pendingOf st'').size - 2) (by omega)
      rw [if_pos g, e]
      refine ite_s (fun _ => wpS_pure ⟨rfl, hS⟩) fun _ => ?_
      exact wpS_bind (mergeAt_perm h0 hS.1 hS.2.1 hS.2.2 (show (pendingOf st'').size - 2 + 1 < (pendingOf st'').size by omega) fun st3 hB3 hc3 => wpS_pure ⟨rfl, hB3, hc3, hl⟩)
     ·rw [if_neg g]
      exact wpS_pure ⟨rfl, hS⟩
    ·rintro c st'' ⟨rfl, hS⟩
     exact wpS_bind (wpS_modify (wpS_bind (wpS_modify (wpS_pure ⟨_, rfl, psh ⟨hS.1.perm, hS.1.kind, hS.1.fail⟩ (ch_mod hS.2.1)⟩))))
 case post =>
  rintro c st' ⟨lo, rfl, hS⟩
  refine wpS_bind (wpS_mono (wpS_forRange (I := fun _ c st'' => c = (none, ()) /\ Sf a₀ lo st'') (Q := fun c st'' => c = (none, ()) /\ Sf a₀ lo st'') ?_ (fun _ _ z => z) ⟨rfl, hS⟩) ?_)
  ·rintro x c st'' _ _ ⟨rfl, hS⟩
   refine wpS_bind (wpS_get ?_)
   refine ite_s (fun _ => wpS_pure ⟨rfl, hS⟩) fun z => ?_
   have z : ¬ (pendingOf st'').size <= 1 := z
   refine wpS_bind (mergeAt_perm h0 hS.1 hS.2.1 hS.2.2 ?_ fun st3 hB3 hc3 => wpS_pure ⟨rfl, hB3, hc3, hS.2.2⟩)
   exact ix_lt z
  ·rintro c st'' ⟨rfl, hS⟩
   exact wpS_pure (h _ hS.1.perm hS.1.fail)
end
end SrtP
namespace SrtP
open PySem PySem.Spec PyProof.Rows L2
section
variable {prog : Program} {w : World} {A : Around} {E : Value -> Shared -> Prop} {s : Shared}
theorem strs_as {vs : List Value} {ss : List Str} (h : StrsAre vs ss) : AS (pairsOf vs) := by
 intro p hp
 rw [pairsOf_toList] at hp
 exact h.all _ (mem_zip_self hp).2
theorem out_perm {vs : List Value} {xs : Array Keyed} (h : xs.Perm (pairsOf vs)) : (xs.map (·.2)).toList.Perm vs := by
 have q := (Array.perm_iff_toList_perm.mp h).map (·.2)
 rw [pairsOf_toList, List.map_snd_zip (Nat.le_refl _)] at q
 rw [Array.toList_map]
 exact q
theorem sort_strs {a : Addr} {x y : Value} {r : List Value} {ss : List Str} {n : Nat} {P : PySem.Fin -> Shared -> Prop} (ho : s.heap.get? a = some (seqObj "list" (x :: y :: r).toArray n)) (hs : StrsAre (x :: y :: r) ss) (big : (x :: y :: r).length <= sizeLine)
  (h : ∀ t : SortSt, (arrOf t).Perm (pairsOf (x :: y :: r)) -> P (.done (.ret .none)) { s with heap := sortedHeap s.heap a (x :: y :: r) ((arrOf t).map (·.2)) }) :
  wpAny (model prog w) A (Builtin.«list.sort» ⟨[.ref a], []⟩) P E s := by
 rw [list_sort_plain]
 refine wpAny_bind (listItems_at ho rfl (wpAny_bind (listUpdate_at ho rfl ?_)))
 obtain ⟨ep, h1⟩ : ∃ ep, (s.heap.update a (Obj.mapSeq fun _ => #[])).get? a = some (seqObj "list" #[] ep) := ⟨_, get?_update_seq ho (fun _ => #[])⟩
 refine wpAny_bind (seqEpoch_at h1 rfl (wpAny_bind (wpAny_newTuple (wpAny_bind (wpAny_newList (wpAny_holding ?_)))) ))
 have h2 : (((s.heap.update a (Obj.mapSeq fun _ => #[])).push (seqObj "tuple" (x :: y :: r).toArray 0)).push (seqObj "list" #[] 0)).get? a = some (seqObj "list" #[] ep) := Heap.get?_push_of_some _ (Heap.get?_push_of_some _ h1)
 show wpAny (model prog w) A _ P E { s with heap := ((s.heap.update a (Obj.mapSeq fun _ => #[])).push (seqObj "tuple" (x :: y :: r).toArray 0)).push (seqObj "list" #[] 0) }
 have no : ¬ (x :: y :: r).toArray.size < 2 := by simp
 rw [if_neg no, if_neg no, keyKind_strs hs]
 refine wpAny_bind (wpAny_pure (wpAny_bind (wpAny_mono (runs_perm (a₀ := pairsOf (x :: y :: r)) (st := SortSt.mk' oneType' ((x :: y :: r).toArray.zip (x :: y :: r).toArray) #[] 7 none)
  (Q := fun _ t => (arrOf t).Perm (pairsOf (x :: y :: r)) /\ failedOf t = none) (strs_as hs) ⟨Array.Perm.refl _, rfl, rfl⟩ rfl fun t a1 a2 => ⟨a1, a2⟩) ?_ fun _ _ e => e)))
 rintro ⟨⟨⟩, t⟩ s' ⟨rfl, p, nf⟩
 dsimp only
 refine wpAny_bind (seqEpoch_at h2 rfl (wpAny_bind (listUpdate_at h2 rfl ?_ (hsz2 := by rw [Array.size_map, p.size_eq, pairsOf_size]; exact Nat.le_succ_of_le big))))
 rw [nf]
 simp only [bne_self_eq_false, Bool.false_eq_true, if_false]
 exact wpAny_pure (h t p)
theorem any_sortedSetB {a : Addr} {us : List Str} {Q : Value -> Shared -> Prop} (hh : A.handled = none) (S : SetS prog w a us s.heap) (hn : us.length <= 100000)
  (h : ∀ h' d tk (l : Addr) (out : List Value) (ss : List Str) (e : Nat), StrsAre out ss -> ss.Perm us -> (us.length < 64 -> sortedS ss = true) -> h'.get? l = some (seqObj "list" out.toArray e) -> s.heap.objs.size <= l -> (∀ b o, s.heap.get? b = some o -> h'.get? b = some o) ->
   Q (.ref l) { s with heap := h', drawn := d, toks := tk }) : wpAny (model prog w) A (call (.builtin "sorted") [.ref a]) Q E s := by
 by_cases h64 : us.length < 64
 ·exact any_sortedSet hh S h64 fun h' d tk l out ss e p1 p2 p3 => h h' d tk l out ss e p1 p2 fun _ => p3
 refine Calls.call_function_entry kind_sorted plain_sorted entry_sorted (args_sorted1 _) ?_
 unfold Builtin.«sorted»
 refine wpAny_bind (m := checkCount "sorted" 1 1 _) (wpAny_pure ?_)
 obtain ⟨es, ep, t, ho, T⟩ := S
 refine wpAny_bind (any_collectV (by simp [hh]) ho T.fit T.lt T.ld T.rises fun h1 d tk acc pa le kp => ?_)
 obtain ⟨vs0, hv0, pv0⟩ := T.tx
 obtain ⟨vs, hs, hp0⟩ := strs_perm pa hv0
 have hp := hp0.trans pv0
 have hlen : acc.length = us.length := by rw [strs_len hs, hp.length_eq]
 have big : acc.length <= sizeLine := by rw [hlen, sizeLine_eq]; omega
 refine wpAny_bind (wpAny_newList ?_ big)
 have hoL : (h1.push (seqObj "list" acc.toArray 0)).get? h1.objs.size = some (seqObj "list" acc.toArray 0) := Heap.get?_push_size _ rfl
 obtain ⟨x, y, r, rfl⟩ : ∃ x y r, acc = x :: y :: r := by
  rcases acc with _ | ⟨x, _ | ⟨y, r⟩⟩
  ·simp at hlen; omega
  ·simp at hlen; omega
  ·exact ⟨x, y, r, rfl⟩
 refine wpAny_bind (wpAny_holding (wpAny_call_entry slot_list_sort ⟨_, hoL, rfl⟩ entry_list_sort (sort_strs hoL hs big fun st' a1 => ⟨_, rfl, ?_⟩) (args_list_sort _)))
 obtain ⟨ss', b1, b2⟩ := strs_perm (out_perm a1) hs
 obtain ⟨e, he⟩ := sortedHeap_at (out := (arrOf st').map (·.2)) hoL
 refine wpAny_pure ⟨_, rfl, h _ _ _ _ ((arrOf st').map (·.2)).toList ss' e b1 (b2.trans hp) (fun z => absurd z h64) (by rw [Array.toArray_toList]; exact he) (Nat.le_of_lt le) fun b o q => ?_⟩
 have lt := Heap.lt_size (kp b o q)
 rw [sortedHeap_old (Nat.ne_of_lt lt) (by rw [Heap.size_push]; exact Nat.lt_succ_of_lt lt)]
 exact Heap.get?_push_of_some _ (kp b o q)
end
end SrtP
namespace L2
open PySem PySem.Spec PyProof.Rows WordM
section
variable {X : Cx} {F : Fm} {e : Expr} {pos : Pos}
def rSortUP (P : Program) (w : World) : List V -> Hp -> VK -> Prop := fun xs H Q => ∃ (a : Addr) (us : List Str), xs = [.ref a] /\ H a = some (setH P w a us) /\ us.length <= 100000 /\
  ∀ (ss : List Str) (l : Addr), ss.Perm us -> (us.length < 64 -> sortedS ss = true) -> H l = none -> Q (.ref l) (upd H l (.lst (ss.map V.str)))
theorem call_sortedUP (hc : X.calm = true) : CallR X (.builtin "sorted") (rSortUP X.prog X.w) := by
 intro pins s σ H xs us Q I r h
 obtain ⟨a, uu, rfl, hq, hn, q⟩ := h
 obtain ⟨u, rfl, rx⟩ := vals1 r
 cases rx
 refine SrtP.any_sortedSetB (I.ok.hd hc) (I.hok a _ hq).1 hn fun h' d tk l out ss e hs hp hso hl le k => ?_
 refine ⟨.ref l, _, (I.laid (t' := tk) (o := .lst (ss.map V.str)) k le ⟨?_, out, e, vals_ofStrs hs, hl⟩).draw d, rfl, q ss l hp hso (I.hok.fresh le)⟩
 rw [List.length_map, hp.length_eq]
 exact Nat.le_trans hn (by decide)
def uSortSetP (u : UT) : UTl := fun ρ Q => u ρ fun T ρ1 => ∃ ss : List Str, T = .seq false (ss.map sT) /\ ss.length < 4000 /\ ∀ ms : List Str, ms.Perm (setL ss) -> ((setL ss).length < 64 -> ms = sortS (setL ss)) -> Q (ms.map sT) ρ1
theorem ul_sortSetP {u : UT} {p p' pos' : Pos} (hc : X.calm = true) (hg : Gl X "sorted") (hm : X.mg "sorted" = none) (hg' : Gl X "set") (hm' : X.mg "set" = none) (he : UE X F e u) (hst : isStar e = false := by rfl)
  (hpl : (backTo pos (starEach [] X.env)).any (·.1) = false := by rfl) (hpl' : (backTo pos' (starEach [] X.env)).any (·.1) = false := by rfl) :
  UL X F (.Call (.Name "sorted" p) [.Call (.Name "set" p') [e] [] pos'] [] pos) (uSortSetP u) := ⟨PE.imp (pe_callB (call_sortedUP hc) hg hm boot_sorted (pa_c (pe_callTy (call_setS hc) hg' hm' L2.boot_set (pa_c he.pe pa_nil hst) (by decide) (by decide) (star_cons hst) hpl') pa_nil rfl) (by decide) (by decide) rfl hpl) fun σ H QQ ⟨ρ, Q, f, h, k⟩ => by
 refine ⟨ρ, _, f, h, fun x T H1 ρ1 s1 v1 q1 => ?_⟩
 obtain ⟨ss, rfl, l1, q⟩ := q1
 obtain ⟨a, ys, rfl, hs, z, p⟩ := v1.seqI
 rw [vals_str p] at hs
 have sl : (setL ss).length <= ss.length := WordM.nodup_len (setL_nd ss) fun x hx => (setL_mem ss x).mp hx
 refine ⟨a, ss, rfl, seq_of hs, l1, fun b nb => ⟨b, setL ss, rfl, upd_same, by omega, fun ms c h1 h2 nc => ?_⟩⟩
 have sm := (same_new (o := setH X.prog X.w b (setL ss)) nb).trans (same_new (o := .lst (ms.map V.str)) nc)
 exact k _ _ _ _ _ (s1.trans (Stp.same s1.fr sm)) (s1.non ((same_new nb).free nc)) upd_same (by rw [List.length_map, h1.length_eq]; omega) (vas_str ms) (q ms h1 fun z => sortS_eq h1 (h2 z))⟩
end
end L2
namespace L2
open PySem PySem.Spec PyProof.Rows WordM
def rT : Nat -> Tv -> Str
 | 0, _ => ""
 | _ + 1, .leaf .non => "None"
 | _ + 1, .leaf (.bl b) => if b = true then "True" else "False"
 | _ + 1, .leaf (.int i) => toString i
 | _ + 1, .leaf (.str x) => reprText x
 | n + 1, .seq true xs => tupleText (xs.map (rT n))
 | _ + 1, _ => ""
def RpD : Nat -> Tv -> Prop
 | 0, _ => False
 | _ + 1, .leaf .non => True
 | _ + 1, .leaf (.bl _) => True
 | _ + 1, .leaf (.int i) => i.natAbs.log2 < 1920
 | _ + 1, .leaf (.str x) => (reprText x).length <= 100000
 | n + 1, .seq true xs => (tupleText (xs.map (rT n))).length <= 100000 /\ ∀ x ∈ xs, RpD n x
 | _ + 1, _ => False
theorem EqD.up : ∀ {n m : Nat} {T : Tv}, n <= m -> EqD n T -> EqD m T
 | 0, _, _, _, h => False.elim h
 | _ + 1, 0, _, l, _ => absurd l (by omega)
 | n + 1, m + 1, .leaf _, _, _ => trivial
 | n + 1, m + 1, .seq _ xs, l, h => fun U hU => EqD.up (by omega) (h U hU)
 | n + 1, m + 1, .dct _, _, h => False.elim h
theorem RpD.eqd : ∀ {n : Nat} {T : Tv}, RpD n T -> EqD n T
 | 0, _, h => h
 | n + 1, .leaf _, _ => trivial
 | n + 1, .seq true xs, h => fun U hU => RpD.eqd (h.2 U hU)
 | n + 1, .seq false xs, h => False.elim h
 | n + 1, .dct _, h => False.elim h
section
variable {X : Cx}
def RpT (X : Cx) (H : Hp) (s : Shared) (n : Nat) : Prop := ∀ {T : Tv} {x : V} {u : Value}, RpD n T -> VA X.K H x T -> RelV x u ->
  ∃ as : List Addr, (∀ b ∈ as, ∃ T' m, VA X.K H (.ref b) T' /\ EqD m T' /\ sizeOf T' <= sizeOf T) /\ ReprK X.prog X.w as s.heap n u (rT n T)
theorem repr_all {pins : List (Addr × Obj)} {σ : St} {H : Hp} {s : Shared} (I : Inv X pins σ H s) {n : Nat} (ih : RpT X H s n) {Ts : List Tv} {a : Addr} {xs : List V} {its : List Value} (h : RpD (n + 1) (.seq true Ts)) (vx : VA X.K H (.ref a) (.seq true Ts)) (p : VAs X.K H xs Ts) (rv : Vals xs its) :
  ∃ as : List Addr, a ∉ as /\ (∀ b ∈ as, ∃ T' m, VA X.K H (.ref b) T' /\ EqD m T' /\ sizeOf T' < sizeOf (Tv.seq true Ts)) /\ ReprAllK X.prog X.w as s.heap n its (Ts.map (rT n)) := by
 have all : ∀ (Ts' : List Tv) (xs : List V) (us : List Value), (∀ T ∈ Ts', T ∈ Ts) -> VAs X.K H xs Ts' -> Vals xs us -> ∃ as : List Addr, (∀ b ∈ as, ∃ T' m, VA X.K H (.ref b) T' /\ EqD m T' /\ sizeOf T' < sizeOf (Tv.seq true Ts)) /\ ∀ as', (∀ b ∈ as, b ∈ as') -> ReprAllK X.prog X.w as' s.heap n us (Ts'.map (rT n)) := by
  intro Ts'
  induction Ts' with
  | nil =>
   intro xs us _ p rv
   cases p
   cases rv
   exact ⟨[], (fun b hb => nomatch hb), fun _ _ => .nil⟩
  | cons T Ts' ih2 =>
   intro xs us sub p rv
   cases p with
   | cons p1 p2 =>
    cases rv with
    | cons r1 r2 =>
     have hT := sub T (.head _)
     obtain ⟨as1, h1, k1⟩ := ih (h.2 T hT) p1 r1
     obtain ⟨as2, h2, k2⟩ := ih2 _ _ (fun U hU => sub U (.tail _ hU)) p2 r2
     refine ⟨as1 ++ as2, fun b hb => ?_, fun as' hs => .cons (k1.more fun b hb => hs b (List.mem_append_left _ hb)) (k2 as' fun b hb => hs b (List.mem_append_right _ hb))⟩
     rcases List.mem_append.mp hb with z | z
     ·obtain ⟨T', m, v, e, l⟩ := h1 b z
      have := List.sizeOf_lt_of_mem hT
      exact ⟨T', m, v, e, by rw [Tv.seq.sizeOf_spec]; omega⟩
     ·exact h2 b z
 obtain ⟨as, h1, k1⟩ := all Ts xs its (fun _ z => z) p rv
 refine ⟨as, fun z => ?_, h1, k1 as fun _ z => z⟩
 obtain ⟨T', m, v, e, l⟩ := h1 a z
 obtain ⟨d1, v1⟩ := v
 obtain ⟨d2, v2⟩ := vx
 have e1 : EqD (max m (n + 1)) T' := e.up (Nat.le_max_left _ _)
 have e2 : EqD (max m (n + 1)) (.seq true Ts) := (RpD.eqd h).up (Nat.le_max_right _ _)
 have := vp_inj I e1 e2 (e1.vp v1) (e2.vp v2)
 rw [this] at l
 omega
theorem repr_tree {pins : List (Addr × Obj)} {σ : St} {H : Hp} {s : Shared} (I : Inv X pins σ H s) : ∀ n : Nat, RpT X H s n
 | 0, _, _, _, h, _, _ => False.elim h
 | n + 1, .leaf v, x, u, h, vx, r => by
  obtain ⟨rfl, _⟩ := vx.leafI
  cases x with
  | non => cases r; exact ⟨[], (fun b hb => nomatch hb), .of_is ReprIs.none [] _ _⟩
  | bl b => cases r; exact ⟨[], (fun b hb => nomatch hb), .of_is (ReprIs.bool b) [] _ _⟩
  | int i => obtain ⟨t, rfl⟩ := r; exact ⟨[], (fun b hb => nomatch hb), .of_is (ReprIs.int t h) [] _ _⟩
  | str y => obtain ⟨t, rfl⟩ := r; exact ⟨[], (fun b hb => nomatch hb), .of_is (ReprIs.str y t (Nat.le_trans h (by decide))) [] _ _⟩
  | _ => exact False.elim h
 | n + 1, .seq true Ts, x, u, h, vx, r => by
  obtain ⟨a, xs, rfl, hq, _, p⟩ := vx.seqI
  cases r
  obtain ⟨its, rv, ht, _⟩ := I.tuple hq
  obtain ⟨o, ho, hc, k, hd⟩ := ht
  obtain ⟨as, na, h1, k1⟩ := repr_all I (repr_tree I n) h vx p rv
  refine ⟨a :: as, fun b hb => ?_, ReprK.tuple ho hc hd na (by simpa using k1)⟩
  rcases List.mem_cons.mp hb with rfl | hb
  ·exact ⟨.seq true Ts, n + 1, vx, RpD.eqd h, Nat.le_refl _⟩
  ·obtain ⟨T', m, v, e, l⟩ := h1 b hb
   exact ⟨T', m, v, e, Nat.le_of_lt l⟩
 | n + 1, .seq false Ts, _, _, h, _, _ => False.elim h
 | n + 1, .dct _, _, _, h, _, _ => False.elim h
def rReprN (K : PySem.W.Frag) : List V -> Hp -> VK -> Prop := fun xs H Q => ∃ (x : V) (n : Nat) (Ts : List Tv), xs = [x] /\ n <= 30 /\ RpD (n + 1) (.seq true Ts) /\ VA K H x (.seq true Ts) /\ Q (.str (rT (n + 1) (.seq true Ts))) H
theorem call_reprN (hg : X.A.guards = some []) (hu : X.A.units + 64 < cLine) : CallR X (.builtin "repr") (rReprN X.K) := by
 intro pins s σ H xs us Q I r h
 obtain ⟨x, n, Ts, rfl, ln, hR, vx, q⟩ := h
 obtain ⟨u, rfl, rx⟩ := vals1 r
 obtain ⟨a, xs, rfl, hq, _, p⟩ := vx.seqI
 cases rx
 obtain ⟨its, rv, ht, _⟩ := I.tuple hq
 obtain ⟨o, ho, hc, k, hd⟩ := id ht
 have hT : s.TypeIs (.ref a) "tuple" := ⟨o, ho, hc⟩
 obtain ⟨as, na, h1, k1⟩ := repr_all I (repr_tree I n) hR vx p rv
 refine Calls.call_function_entry F.kind_repr F.plain_repr F.entry_repr (F.args_repr1 _) ?_
 unfold Builtin.«repr»
 have u1 : X.A.in1.units = X.A.units + 1 := rfl
 refine wpAny_bind (m := oneArg "repr" _) (wpAny_pure (wpAny_bind (wpAny_cRoomFor (by rw [u1]; omega) ?_)))
 refine wpAny_bind (wpAny_specialOf (name := Str.ofString "__repr__") hT F.slot_tuple_repr.lookup ?_)
 refine wpAny_bind (m := callSpecialIfBound? _ (Str.ofString "__repr__")) (wpAny_callSpecialIfBound?_slotG (name := Str.ofString "__repr__") hT F.slot_tuple_repr (call_tuple_reprK ho hc hd na (by simpa using k1) (A := X.A.in1) (g := []) hg (fun b _ => Clear.nil b) (by rw [u1]; omega) (fun _ _ e => e) (fun h' u tk k => ?_) (Nat.le_trans hR.1 (by decide))))
 exact wpAny_bind (wpAny_isInstance (T := "str") (b := true) rfl isSubtype_str_str (wpAny_pure ⟨_, rfl, .str _, H, I.kept (t' := tk) k, ⟨u, rfl⟩, q⟩))
def pReprN : Pn := fun Ts Q => ∃ (n : Nat) (Us : List Tv), Ts = [.seq true Us] /\ n <= 30 /\ RpD (n + 1) (.seq true Us) /\ Q (sT (rT (n + 1) (.seq true Us)))
theorem pu_reprN (hg : X.A.guards = some []) (hu : X.A.units + 64 < cLine) : PuCall X (.builtin "repr") pReprN := ⟨_, call_reprN hg hu, fun xs Ts H Q QQ vx h k => by
 obtain ⟨n, Us, rfl, ln, hR, q⟩ := h
 obtain ⟨x, rfl, v⟩ := vas1 vx
 exact ⟨x, n, Us, rfl, ln, hR, v, k _ _ _ (.flat rfl) q⟩⟩
end
end L2
namespace My
open PySem L2 PyProof.Rows WordM
def top (i : Nat) : Stmt := PySem.Challenge.pw_leastform_k23_words_joined.main.body.getD i (.Pass ⟨0, 0, 0, 0⟩)
abbrev s0_ : Stmt := top 7
abbrev s1_ : Stmt := top 8
abbrev s2_ : Stmt := top 9
abbrev s3_ : Stmt := top 10
abbrev s4_ : Stmt := top 11
abbrev s5_ : Stmt := top 12
abbrev s6_ : Stmt := top 13
abbrev s7_ : Stmt := top 14
abbrev s8_ : Stmt := top 15
abbrev s9_ : Stmt := top 16
abbrev s10_ : Stmt := top 18
abbrev s11_ : Stmt := top 19
abbrev s12_ : Stmt := top 20
abbrev s13_ : Stmt := top 21
abbrev s14_ : Stmt := top 22
abbrev s15_ : Stmt := top 23
abbrev s16_ : Stmt := top 24
abbrev s17_ : Stmt := top 26
abbrev s18_ : Stmt := top 27
abbrev s19_ : Stmt := top 28
abbrev s20_ : Stmt := top 29
abbrev s21_ : Stmt := top 30
abbrev s22_ : Stmt := top 31
section
variable {P : Program} {w : World} {K : PySem.W.Frag} {mg : Str -> Option Value} {base : Heap}
theorem _root_.L2.On.put {p c : Addr} {H : Hp} (d : DeckAt H p c) (S k : Int) : On p c H (upd H p (.lst [.ref c, .int S, .int k])) := by
 obtain ⟨ns, e', l⟩ := d.cs
 exact ⟨⟨d.ne, ⟨S, k, upd_same⟩, ns, by rw [upd_ne d.ne.symm]; exact e', l⟩, fun b o h hp _ => by rw [upd_ne hp]; exact h⟩
theorem _root_.L2.On.cut {p c : Addr} {H : Hp} (d : DeckAt H p c) (ns : List Int) (h : ns.length <= 64) : On p c H (upd H c (.lst (ns.map V.int))) := by
 obtain ⟨S, k, e⟩ := d.dk
 exact ⟨⟨d.ne, ⟨S, k, by rw [upd_ne d.ne]; exact e⟩, ns, upd_same, h⟩, fun b o h _ hc => by rw [upd_ne hc]; exact h⟩
theorem flat_ints (ns : List Int) : (ns.map V.int).all flatV = true := by
 rw [List.all_map]
 exact List.all_eq_true.mpr fun _ _ => rfl
theorem eqVs_nil (ns : List Int) : eqVs (ns.map V.int) [] = ns.isEmpty := by cases ns <;> rfl
theorem sc_mixed : FnScope ["_law_number", "_law_k"] ["_law_number", "_law_k"] (defScope s10_) := fsc (by decide +kernel)
theorem g_mixed (h : Has K mg "_law_mixed" s10_) : Good P w K mg base 1 "_law_mixed" ["_law_number", "_law_k"] spMixed := by
 refine h.good sc_mixed (fun|_,_,_,_,_,_,[_,_],_=>rfl) (fun vs H Q E q => ?_) (fun f cdv A outer s H vs Q E hr q => ?_)
 ·obtain ⟨n, k, rfl, _⟩ := q
  rfl
 ·obtain ⟨n, k, rfl, q⟩ := q
  have nd := sc_mixed.nd
  refine ⟨_, (pss_cons (ps_set (i := 0) nd rfl (by first | exact Or.inl rfl | exact Or.inr rfl) (pe_op op_mod (pe_op op_mul (pe_op op_add (pe_op op_add (pe_op op_mod (pv 0) pe_int) (pe_op op_mul pe_int (pv 1))) pe_int) pe_int) pe_int))
   (pss_cons (ps_set (i := 0) nd rfl (by first | exact Or.inl rfl | exact Or.inr rfl) (pe_op op_mod (pe_op op_add (pe_op op_add (pe_op op_mul (pv 0) (pv 0)) (pe_op op_mul pe_int (pv 1))) pe_int) pe_int))
   (pss_one (ps_ret (pe_op op_fdiv (pe_op op_mod (pe_op op_mul (pe_op op_add (pe_op op_mul (pe_op op_mod (pv 0) pe_int) pe_int) (pe_op op_fdiv (pv 0) pe_int)) pe_int) pe_int) pe_int))))), ?_⟩
  refine ⟨_, rfl, _, _, rfl, rfl, (by show (0 : Int) < _; decide), _, rfl, _, _, rfl, rfl, .inl ⟨by decide, by decide⟩, _, _, rfl, rfl, _, _, rfl, rfl, _, _, rfl, rfl, .inr ⟨by decide, by decide⟩, _, _, rfl, rfl, (by show (0 : Int) < _; decide), ?_⟩
  refine ⟨_, rfl, _, rfl, _, _, rfl, rfl, ?c, _, rfl, _, _, rfl, rfl, .inl ⟨by decide, by decide⟩, _, _, rfl, rfl, _, _, rfl, rfl, _, _, rfl, rfl, (by show (0 : Int) < _; decide), ?_⟩
  case c =>
   refine .inl ⟨?_, ?_⟩
   ·exact Int.lt_of_lt_of_le (by decide) (Int.emod_nonneg _ (by decide))
   ·exact Int.lt_trans (Int.emod_lt_of_pos _ (by decide)) (by decide)
  refine ⟨_, rfl, _, _, rfl, rfl, (by show (0 : Int) < _; decide), _, _, rfl, rfl, .inr ⟨by decide, by decide⟩, _, rfl, _, _, rfl, rfl, ⟨by decide, by decide⟩, _, _, rfl, rfl, _, _, rfl, rfl, .inr ⟨by decide, by decide⟩, _, _, rfl, rfl, (by show (0 : Int) < _; decide), _, _, rfl, rfl, ⟨by decide, by decide⟩, ?_⟩
  exact q _
theorem sc_deck : FnScope ["_law_script", "_law_cells"] ["_law_script"] (defScope s11_) := fsc (by decide +kernel)
theorem cut63 (ns : List Int) : cutV (ns.map V.int) none (some 63) = (ns.take 63).map V.int := by
 unfold cutV
 have e1 : HT.sIx (ns.map V.int).length 0 none = 0 := rfl
 rw [e1, List.drop_zero, Nat.sub_zero, List.map_take]
 by_cases h : ns.length <= 63
 ·rw [List.take_of_length_le (by simp [HT.sIx] <;> omega), List.take_of_length_le (by simpa using h)]
 ·congr 1
  simp [HT.sIx] <;> omega
theorem g_deck (h : Has K mg "_law_deck" s11_) (B : Own mg) : Good P w K mg base 1 "_law_deck" ["_law_script"] (spDeck K) := by
 refine h.good sc_deck (fun|_,_,_,_,_,_,[_],_=>rfl) (fun vs H Q E q => ?_) (fun f cdv A outer s H vs Q E hr q => ?_)
 ·obtain ⟨a, ns, rfl, _⟩ := q
  rfl
 ·obtain ⟨a, ns, rfl, hS, q⟩ := q
  have nd := sc_deck.nd
  refine ⟨_, (pss_cons (ps_set (i := 1) nd rfl (by first | exact Or.inl rfl | exact Or.inr rfl) (pe_callTy call_list_of rfl B.list_ boot_list (pa_c (pe_slice sl_list (pv 0) po_none (po_some pe_int)) pa_nil)))
   (pss_one (ps_ret (@pe_lstQ _ _ _ _ (@qa_c _ _ _ _ _ (pe_rev (pv 1) (pe_un un_neg pe_int)) (@qa_c _ _ _ _ _ (pe_op op_add (pe_callB (call_sumL rfl) rfl B.sum boot_sum (pa_c (pv 1) pa_nil)) (pe_op op_mul pe_int (pe_callB call_len_seq rfl B.len PySem.boot_len (pa_c (pv 1) pa_nil)))) (@qa_c _ _ _ _ _ pe_int qa_nil rfl) rfl) rfl))))), ?_⟩
  refine ⟨_, rfl, _, rfl, a, _, rfl, hS, fun l1 h1 => ?_⟩
  have e1 : upd H l1 (.lst (cutV (ns.map V.int) none (some 63))) = upd H l1 (.lst ((ns.take 63).map V.int)) := by rw [cut63]
  rw [e1]
  refine ⟨l1, _, rfl, .inl (SqL.of upd_same), fun l2 h2 => ?_⟩
  refine ⟨_, rfl, _, rfl, rfl, l2, _, rfl, SqL.of upd_same, fun l3 h3 => ?_⟩
  have n23 : l2 ≠ l3 := ne_of_none upd_same h3
  refine ⟨_, rfl, l2, ns.take 63, rfl, SqL.of (by rw [upd_ne n23]; exact upd_same), _, rfl, l2, _, rfl, .inl (SqL.of (by rw [upd_ne n23]; exact upd_same)), _, _, rfl, rfl, .inl ⟨by decide, by decide⟩, _, _, rfl, rfl, (by show 3 <= sizeLine; decide), fun l4 h4 => ?_⟩
  have n34 : l3 ≠ l4 := ne_of_none upd_same h4
  have f1 : ∀ b o, H b = some o -> upd H l1 (.lst ((ns.take 63).map V.int)) b = some o := fun b o e => by rw [upd_ne (ne_of_none e h1)]; exact e
  have s1 : Same H (upd H l1 (.lst ((ns.take 63).map V.int))) := f1
  have s2 : Same H (upd (upd H l1 (.lst ((ns.take 63).map V.int))) l2 (.lst ((ns.take 63).map V.int))) := fun b o e => by rw [upd_ne (ne_of_none (s1 b o e) h2)]; exact s1 b o e
  have s3 : Same H (upd (upd (upd H l1 (.lst ((ns.take 63).map V.int))) l2 (.lst ((ns.take 63).map V.int))) l3 (.lst ((ns.take 63).map V.int).reverse)) := fun b o e => by rw [upd_ne (ne_of_none (s2 b o e) h3)]; exact s2 b o e
  refine q l4 l3 _ (s3.free h4) (s2.free h3) ⟨n34.symm, ⟨_, _, upd_same⟩, (ns.take 63).reverse, ?_, ?_⟩ fun b o e => ?_
  ·rw [upd_ne n34, upd_same, List.map_reverse]
  ·rw [List.length_reverse, List.length_take]; omega
  ·rw [upd_ne (ne_of_none (s3 b o e) h4)]; exact s3 b o e
theorem sc_take : FnScope ["_law_deck_here", "_law_most", "_law_cell"] ["_law_deck_here", "_law_most"] (defScope s12_) := fsc (by decide +kernel)
theorem g_take (h : Has K mg "_law_take" s12_) (G10_ : Good P w K mg base 1 "_law_mixed" ["_law_number", "_law_k"] spMixed) : Good P w K mg base 2 "_law_take" ["_law_deck_here", "_law_most"] spTake := by
 refine h.good sc_take (fun|_,_,_,_,_,_,[_,_],_=>rfl) (fun vs H Q E q => ?_) (fun f cdv A outer s H vs Q E hr q => ?_)
 ·obtain ⟨p, c, m, rfl, _⟩ := q
  rfl
 ·obtain ⟨p, c, m, rfl, d, hm, hB, q⟩ := q
  have nd := sc_take.nd
  have hu := Nat.lt_of_succ_lt (hu_of hr)
  obtain ⟨hne, ⟨S, k, hp⟩, ns, hc, hl⟩ := id d
  refine ⟨_, (pss_cons (ps_asg (pe_op op_add (pe_ix ix_list (pv 0) pe_int (fun _ _ => rfl)) pe_int) (pg_sub (pv 0) pe_int set_list))
   (pss_cons (ps_if (pt_cmpR (op_eqL hu) (pe_ix ix_list (pv 0) pe_int (fun _ _ => rfl)) (@pe_lstQ _ _ _ _ qa_nil) (nomark _))
    (pss_one (ps_ret (pe_op op_mod (pe_fn G10_ (hr.mono (by first | decide | omega)) rfl (pa_c (pe_ix ix_list (pv 0) pe_int (fun _ _ => rfl)) (pa_c (pe_ix ix_list (pv 0) pe_int (fun _ _ => rfl)) pa_nil))) (pv 1))))
    pss_nil)
   (pss_cons (ps_set (i := 2) nd rfl (by first | exact Or.inl rfl | exact Or.inr rfl) (pe_bm0 PySem.F.plainAttrs_list PySem.F.slot_list_pop PySem.F.type_list_pop mt_pop (pe_ix ix_list (pv 0) pe_int (fun _ _ => rfl))))
   (pss_cons (ps_if (pt_cmpR op_lt (pv 2) (pe_op op_pow pe_int pe_int) (nomark _))
    (pss_one (ps_ret (pe_op op_mod (pe_fn G10_ (hr.mono (by first | decide | omega)) rfl (pa_c (pv 2) (pa_c (pe_ix ix_list (pv 0) pe_int (fun _ _ => rfl)) pa_nil))) (pv 1))))
    pss_nil)
   (pss_cons (ps_expr (pe_bm PySem.F.plainAttrs_list PySem.F.slot_list_append PySem.F.type_list_append mt_append (pe_ix ix_list (pv 0) pe_int (fun _ _ => rfl)) (pa_c (pe_op op_fdivL (pv 2) (pv 1)) pa_nil)))
   (pss_one (ps_ret (pe_op op_mod (pv 2) (pv 1))))))))), ?_⟩
  -- deck[2] = deck[2] + 1
  refine ⟨_, rfl, p, _, _, _, rfl, rfl, SqL.of hp, rfl, _, _, rfl, rfl, _, rfl, p, _, _, 2, rfl, rfl, hp, rfl, ?_⟩
  have o1 : On p c H (upd H p (.lst [.ref c, .int S, .int (k + 1)])) := On.put d S (k + 1)
  have hc1 : upd H p (.lst [.ref c, .int S, .int (k + 1)]) c = some (.lst (ns.map V.int)) := by rw [upd_ne hne.symm]; exact hc
  -- if deck[0] == []
  refine ⟨_, rfl, p, _, _, _, rfl, rfl, SqL.of upd_same, rfl, Nat.zero_le _, fun l hfree => ?_⟩
  have npl : p ≠ l := (o1.d.nep hfree).symm
  have ncl : c ≠ l := (o1.d.nec hfree).symm
  have o2 := o1.alloc (o := .lst []) hfree
  have hp2 : upd (upd H p (.lst [.ref c, .int S, .int (k + 1)])) l (.lst []) p = some (.lst [.ref c, .int S, .int (k + 1)]) := by rw [upd_ne npl]; exact upd_same
  have hc2 : upd (upd H p (.lst [.ref c, .int S, .int (k + 1)])) l (.lst []) c = some (.lst (ns.map V.int)) := by rw [upd_ne ncl]; exact hc1
  refine ⟨c, l, _, [], rfl, rfl, SqL.of hc2, SqL.of upd_same, flat_ints ns, rfl, _, rfl, ?_⟩
  rw [show (if false = true then !eqVs (ns.map V.int) [] else eqVs (ns.map V.int) []) = ns.isEmpty from eqVs_nil ns]
  have fin : ∀ r H', On p c H H' -> Q (.int (r % m)) H' := fun r H' o => q (r % m) H' (Int.emod_nonneg _ (by omega)) (Int.emod_lt_of_pos _ hm) o
  rcases List.eq_nil_or_concat ns with e | ⟨init, z, e⟩
  ·subst e
   refine iteT ?_
   refine ⟨_, rfl, p, _, _, _, rfl, rfl, SqL.of hp2, rfl, _, rfl, p, _, _, _, rfl, rfl, SqL.of hp2, rfl, _, _, rfl, fun r => ?_⟩
   exact ⟨_, rfl, _, _, rfl, rfl, hm, fin r _ o2⟩
  ·rw [List.concat_eq_append] at e
   subst e
   rw [show (init ++ [z]).isEmpty = false by simp]
   refine iteF ?_
   have hlast : ((init ++ [z]).map V.int)[((init ++ [z]).map V.int).length - 1]? = some (.int z) := by simp
   have hdrop : ((init ++ [z]).map V.int).dropLast = init.map V.int := by simp
   -- cell = deck[0].pop()
   refine ⟨_, rfl, p, _, _, _, rfl, rfl, SqL.of hp2, rfl, .inl ⟨rfl, _, SqL.of hc2⟩, c, _, _, rfl, rfl, hc2, hlast, ?_⟩
   rw [hdrop]
   have hli : init.length <= 63 := by rw [List.length_append, List.length_singleton] at hl; omega
   have o3 := o2.trans (On.cut o2.d init (by omega))
   have hp3 : upd (upd (upd H p (.lst [.ref c, .int S, .int (k + 1)])) l (.lst [])) c (.lst (init.map V.int)) p = some (.lst [.ref c, .int S, .int (k + 1)]) := by rw [upd_ne hne]; exact hp2
   -- if cell < 10 ** 18
   refine ⟨_, rfl, _, _, rfl, rfl, ⟨by decide, by decide, by decide⟩, _, _, rfl, rfl, _, rfl, ?_⟩
   refine ite2 (fun _ => ?_) (fun _ => ?_)
   ·refine ⟨_, rfl, _, rfl, p, _, _, _, rfl, rfl, SqL.of hp3, rfl, _, _, rfl, fun r => ?_⟩
    exact ⟨_, rfl, _, _, rfl, rfl, hm, fin r _ o3⟩
   ·refine ⟨_, rfl, p, _, _, _, rfl, rfl, SqL.of hp3, rfl, .inl ⟨rfl, _, SqL.of upd_same⟩, _, rfl, _, rfl, _, _, rfl, rfl, ⟨hm, hB⟩, c, _, _, rfl, rfl, upd_same, small1000 (by rw [List.length_map]; omega), ?_⟩
    rw [show init.map V.int ++ [V.int (z / m)] = (init ++ [z / m]).map V.int by simp]
    have o4 := o3.trans (On.cut o3.d (init ++ [z / m]) (by rw [List.length_append, List.length_singleton]; omega))
    exact ⟨_, rfl, _, rfl, _, _, rfl, rfl, hm, fin z _ o4⟩
end
end My
namespace My
open PySem L2 PyProof.Rows WordM
section
variable {P : Program} {w : World} {K : PySem.W.Frag} {mg : Str -> Option Value} {base : Heap}
def ptSigns : PSp := fun as R => as = [] /\ R (sT SIG)
theorem C13_ : FnScope ["_law_signs_here"] [] (defScope s13_) := fsc (by decide +kernel)
theorem g13_ (h : Has K mg "_law_signs" s13_) (B : Own mg)    : PGood P w K mg base 1 "_law_signs" [] ptSigns := by
 have nd := C13_.nd
 refine h.pgood C13_ (fun|_,_,_,_,_,_,[],_=>rfl) (fun f cdv A outer s H E F hr =>
   (us_cons (us_s 0 nd ue_str)
   (us_one (us_ret (ue_op pu_add (ue_var 0) ue_str))))) (fun as R q => ?_)
 obtain ⟨rfl, q⟩ := q
 exact ⟨rfl, show sigA.length + sigB.length <= 100000 by decide +kernel, q⟩
def ptText : PSp := fun as R => ∃ m : Int, as = [.dk, .va (iT m)] /\ 0 <= m /\ m <= 1000 /\ ∀ x : Str, Sg x -> (x.length : Int) <= m -> R (sT x)
theorem at_sgn {z : Str} {r : Int} (h0 : 0 <= r) (h1 : r < z.length) : ∃ c, atI z.cps.toList r = some c /\ c ∈ cs z := by
 have hl : r.toNat < (cs z).length := by rw [<- WordM.len]; omega
 refine ⟨(cs z)[r.toNat], ?_, List.getElem_mem hl⟩
 have := atI_nat (xs := cs z) (j := r.toNat) (List.getElem?_eq_getElem hl)
 rw [show ((r.toNat : Nat) : Int) = r by omega] at this
 exact this
theorem menu {α : Type} {l : List α} {r : Int} (h0 : 0 <= r) (h1 : r < l.length) : ∃ m, atI l r = some m /\ m ∈ l := by
 have hl : r.toNat < l.length := by omega
 refine ⟨l[r.toNat], ?_, List.getElem_mem hl⟩
 have := atI_nat (xs := l) (j := r.toNat) (List.getElem?_eq_getElem hl)
 rw [show ((r.toNat : Nat) : Int) = r by omega] at this
 exact this
theorem C14_ : FnScope ["_law_deck_here", "_law_most", "_law_signs_here", "_law_some", "_law_text_here", "_law_k"] ["_law_deck_here", "_law_most"] (defScope s14_) := fsc (by decide +kernel)
theorem g14_ (h : Has K mg "_law_text" s14_) (B : Own mg) (G13_ : PGood P w K mg base 1 "_law_signs" [] ptSigns) (G12_ : PGood P w K mg base 2 "_law_take" ["_law_deck_here", "_law_most"] ptTake)   : PGood P w K mg base 3 "_law_text" ["_law_deck_here", "_law_most"] ptText := by
 have nd := C14_.nd
 refine h.pgood C14_ (fun|_,_,_,_,_,_,[_,_],_=>rfl) (fun f cdv A outer s H E F hr =>
   (us_cons (us_s 2 nd (ue_fn0 G13_ (hr.mono (by omega)) rfl))
   (us_cons (us_s 3 nd (ue_x hr (ue_ul (ul_lst (ua_c (ue_var 2) (ua_c (ue_var 2) (ua_c ue_str (ua_c ue_str (ua_c ue_str (ua_c ue_str ua_nil)))))))) (ue_fm G12_ hr (ua_dk 0 (ua_c ue_int ua_nil)))))
   (us_cons (us_s 4 nd ue_str)
   (us_cons (us_for (m := 6) PassesOwn.never rfl (ui_range1 rfl B.range (ua_c (ue_fm G12_ hr (ua_dk 0 (ua_c (ue_op pu_add (ue_var 1) ue_int) ua_nil))) ua_nil)) (ug_name 5 (by decide) nd rfl (.inl rfl))
    (us_one (us_s 4 nd (ue_op pu_add (ue_var 4) (ue_x hr (ue_var 3) (ue_fm G12_ hr (ua_dk 0 (ua_c (ue_callB pu_len rfl B.len PySem.boot_len (ua_c (ue_var 3) ua_nil)) ua_nil))))))))
   (us_one (us_ret (ue_var 4)))))))) (fun as R q => ?_)
 obtain ⟨m, rfl, m0, m1, q⟩ := q
 refine ⟨rfl, rfl, ?_⟩
 refine ⟨by decide, rfl, 6, rfl, by decide, big_of (by decide) (by decide), fun r r0 r6 => ?_⟩
 obtain ⟨z, hz, hzm⟩ := menu (l := [sT SIG, sT SIG, sT "0123456789", sT "abc", sT "XYZ", sT "a1"]) r0 r6
 refine ⟨z, hz, ?_⟩
 have hzs : ∃ y, z = sT y /\ Sg y /\ 0 < y.length /\ y.length <= 100 := by
  simp only [List.mem_cons, List.not_mem_nil, or_false] at hzm
  rcases hzm with e | e | e | e | e | e <;> subst e
  ·exact ⟨_, rfl, fun _ h => h, by decide +kernel, by decide +kernel⟩
  ·exact ⟨_, rfl, fun _ h => h, by decide +kernel, by decide +kernel⟩
  ·exact ⟨_, rfl, by decide +kernel, by decide +kernel, by decide +kernel⟩
  ·exact ⟨_, rfl, by decide +kernel, by decide +kernel, by decide +kernel⟩
  ·exact ⟨_, rfl, by decide +kernel, by decide +kernel, by decide +kernel⟩
  ·exact ⟨_, rfl, by decide +kernel, by decide +kernel, by decide +kernel⟩
 clear hz hzm
 obtain ⟨y, rfl, y1, y2, y3⟩ := hzs
 refine ⟨rfl, m + 1, rfl, by omega, big_of (by omega) (by omega), fun n n0 n1 => ⟨n, rfl, by omega, by omega, ?_⟩⟩
 refine forT_inv (fun i ρ => ∃ (x : Str) (s : Sl), Sg x /\ x.length = i /\ ρ = [.dk, .va (iT m), .va (sT SIG), .va (sT y), .va (sT x), s]) ⟨⟨#[]⟩, .no, sg_nil, rfl, rfl⟩ ?_ ?_
 ·rintro i T _ N hT ⟨x, s, sx, lx, rfl⟩ hN
  have hi := (rngT_get hT).1
  refine ⟨rfl, by omega, ?_⟩
  refine ⟨y.length, rfl, by omega, big_of (by omega) (by omega), fun k k0 k1 => ⟨by omega, ?_⟩⟩
  obtain ⟨c, hc, hcm⟩ := at_sgn (z := y) k0 k1
  refine ⟨c, hc, by show x.length + 1 <= 100000; omega, hN _ ⟨x ++ ⟨#[c]⟩, _, sx.app (y1.one hcm), ?_, rfl⟩⟩
  rw [WordM.len, WordM.app, List.length_append, <- WordM.len, lx]
  rfl
 ·rintro _ ⟨x, s, sx, lx, rfl⟩
  refine q x sx ?_
  rw [lx, rngT_len]
  omega
end
section
variable {P : Program} {w : World} {K : PySem.W.Frag} {mg : Str -> Option Value} {base : Heap}
theorem sg_sig (a : Int) : Sg ⟨#[sigAt a]⟩ := fun cc hc => by
 have e : cc = sigAt a := by simpa using hc
 rw [e]
 exact sigAt_mem _
def Txts (m : Int) (ss : List Str) : Prop := ss.Nodup /\ ∀ s ∈ ss, Sg s /\ (s.length : Int) <= (if m < 1 then 1 else m)
def ptUnlike : PSp := fun as R => ∃ n m : Int, as = [.dk, .va (iT n), .va (iT m)] /\ 0 <= n /\ n <= 63 /\ 0 <= m /\ m <= 1000 /\ ∀ ss : List Str, (ss.length : Int) = n -> Txts m ss -> R (.seq false (ss.map sT))
theorem C15_ : FnScope ["_law_deck_here", "_law_many", "_law_most", "_law_signs_here", "_law_found", "_law_k", "_law_text_here", "_law_at"] ["_law_deck_here", "_law_many", "_law_most"] (defScope s15_) := fsc (by decide +kernel)
theorem g15_ (h : Has K mg "_law_unlike" s15_) (B : Own mg) (G13_ : PGood P w K mg base 1 "_law_signs" [] ptSigns) (G14_ : PGood P w K mg base 3 "_law_text" ["_law_deck_here", "_law_most"] ptText)   : PGood P w K mg base 4 "_law_unlike" ["_law_deck_here", "_law_many", "_law_most"] ptUnlike := by
 have nd := C15_.nd
 refine h.pgood C15_ (fun|_,_,_,_,_,_,[_,_,_],_=>rfl) (fun f cdv A outer s H E F hr =>
   (us_cons (us_s 3 nd (ue_fn0 G13_ (hr.mono (by omega)) rfl))
   (us_cons (us_o 4 nd (ul_lst ua_nil))
   (us_cons (us_for (m := 8) PassesOwn.never rfl (ui_range1 rfl B.range (ua_c (ue_var 1) ua_nil)) (ug_name 5 (by decide) nd rfl (.inl rfl))
    (us_cons (us_s 6 nd (ue_fm G14_ hr (ua_dk 0 (ua_c (ue_var 2) ua_nil))))
    (us_cons (us_s 7 nd (ue_bmS PySem.F.slot_str_find PySem.F.type_str_find pm_find (ue_var 3) (ua_c (ue_slice pu_sl (ue_var 6) uo_none (uo_some ue_int)) ua_nil)))
    (us_cons (us_while PassesOwn.never (ub_peek fun F => (ub_cp (pu_in hr.units) (ue_var 6) (ue_var 4) rfl))
     (us_cons (us_s 7 nd (ue_op pu_mod (ue_op pu_add (ue_var 7) ue_int) (ue_callB pu_len rfl B.len PySem.boot_len (ua_c (ue_var 3) ua_nil))))
     (us_one (us_s 6 nd (ue_op pu_add (ue_x hr (ue_var 3) (ue_var 7)) (ue_slice pu_sl (ue_var 6) (uo_some ue_int) uo_none))))))
    (us_one (us_expr (ue_append 4 (ue_var 6))))))))
   (us_one (us_ret (ue_var 4))))))) (fun as R q => ?_)
 obtain ⟨n, m, rfl, n0, n63, m0, m1, q⟩ := q
 have hsl : SIG.length = 94 := sig_len
 refine ⟨rfl, rfl, by decide, n, rfl, by omega, by omega, ?_⟩
 refine forT_inv (fun i ρ => ∃ (ss : List Str) (s5 s6 s7 : Sl), ss.length = i /\ Txts m ss /\ ρ = [.dk, .va (iT n), .va (iT m), .va (sT SIG), .own (ss.map sT), s5, s6, s7]) ⟨[], .no, .no, .no, rfl, ⟨List.nodup_nil, fun s hs => nomatch hs⟩, rfl⟩ ?_ ?_
 ·rintro i T _ N hT ⟨ss, s5, s6, s7, hlen, htx, rfl⟩ hN
  obtain ⟨hi, rfl⟩ := rngT_get hT
  refine ⟨rfl, m, rfl, m0, m1, fun x0 sx0 hx0 => ?_⟩
  refine ⟨rfl, 1, rfl, by omega, SIG, _, rfl, rfl, fun a0 => ?_⟩
  let r : Str := Txt.slice x0 (some 1) none
  have hr1 : r.length + 1 <= (if x0.length < 1 then 1 else x0.length) := slice1_len x0
  have sr : Sg r := sx0.slice _ _
  refine ⟨fun M ρ => ∃ (j : Nat) (x : Str), M + j = ss.length + 2 /\ j <= ss.length + 1 /\ (∀ i, 1 <= i -> i < j -> tryT a0 r i ∈ ss) /\ (j = 0 /\ x = x0 \/ 1 <= j /\ x = tryT a0 r j) /\
    ρ = [.dk, .va (iT n), .va (iT m), .va (sT SIG), .own (ss.map sT), .va (iT (0 + (i : Int))), .va (sT x), .va (iT (if j = 0 then a0 else (a0 + j) % 94))],
   ⟨ss.length + 2, 0, x0, rfl, Nat.zero_le _, fun i h1 h2 => absurd h2 (Nat.not_lt_zero _), .inl ⟨rfl, rfl⟩, rfl⟩, ?_⟩
  rintro M _ ⟨j, x, hM, hj, htr, hx, rfl⟩
  have hxl : Sg x /\ (x.length : Int) <= (if m < 1 then 1 else m) /\ Txt.slice x (some 1) none = r := by
   rcases hx with ⟨_, rfl⟩ | ⟨_, rfl⟩
   ·refine ⟨sx0, ?_, rfl⟩
    split <;> omega
   ·refine ⟨Sg.app (sg_sig _) sr, ?_, slice_tail⟩
    have : (tryT a0 r j).length = r.length + 1 := by
     unfold tryT
     rw [WordM.len, WordM.app, WordM.len, List.length_append]
     simp
     omega
    rw [this]
    split at hr1 <;> split <;> omega
  obtain ⟨sx, hxm, hxr⟩ := hxl
  have hx1000 : x.length <= 1000 := by split at hxm <;> omega
  refine ⟨inok_str, _, rfl, ?_⟩
  rw [any_str]
  refine sif (fun h1 => ?_) (fun h1 => ?_)
  ·have h1 : x ∈ ss := by simpa using h1
   have hall : ∀ i, 1 <= i -> i <= j -> tryT a0 r i ∈ ss := fun i i1 i2 => by
    rcases Nat.lt_or_eq_of_le i2 with z | z
    ·exact htr i i1 z
    ·rcases hx with ⟨z0, _⟩ | ⟨_, e⟩
     ·omega
     ·rw [z, <- e]; exact h1
   have hjs : j <= ss.length := tried_le (by omega) hall
   have hmod : ((if j = 0 then a0 else (a0 + (j : Int)) % 94) + 1) % 94 = (a0 + ((j + 1 : Nat) : Int)) % 94 := by
    split
    ·rename_i z; subst z; congr 1
    ·push_cast; omega
   have hsl' : ((SIG.length : Nat) : Int) = 94 := by rw [hsl]; rfl
   have e1 : ((if j = 0 then a0 else (a0 + (j : Int)) % 94) + 1) % ((SIG.length : Nat) : Int) = (a0 + ((j + 1 : Nat) : Int)) % 94 := by rw [hsl', hmod]
   have hat : atI SIG.cps.toList (((if j = 0 then a0 else (a0 + (j : Int)) % 94) + 1) % ((SIG.length : Nat) : Int)) = some (sigAt (a0 + ((j + 1 : Nat) : Int))) := by
    rw [e1]
    have b1 := Int.emod_lt_of_pos (a0 + ((j + 1 : Nat) : Int)) (show (0 : Int) < 94 by decide)
    have b2 := Int.emod_nonneg (a0 + ((j + 1 : Nat) : Int)) (show (94 : Int) ≠ 0 by decide)
    have hlt : ((a0 + ((j + 1 : Nat) : Int)) % 94).toNat < (cs SIG).length := by rw [<- WordM.len]; omega
    have := atI_nat (xs := cs SIG) (j := ((a0 + ((j + 1 : Nat) : Int)) % 94).toNat) (List.getElem?_eq_getElem hlt)
    rw [show ((((a0 + ((j + 1 : Nat) : Int)) % 94).toNat : Nat) : Int) = (a0 + ((j + 1 : Nat) : Int)) % 94 by omega] at this
    rw [this]
    unfold sigAt
    rw [List.getD_eq_getElem?_getD, List.getElem?_eq_getElem hlt]
    rfl
   refine ⟨by omega, by omega, by omega, _, hat, 1, rfl, by omega, ?_, ?_⟩
   ·show 1 + (Txt.slice x (some 1) none).length <= 100000
    rw [hxr]
    split at hr1 <;> omega
   ·refine ⟨ss.length + 2 - (j + 1), by omega, j + 1, tryT a0 r (j + 1), by omega, by omega, fun i i1 i2 => hall i i1 (by omega), .inr ⟨by omega, rfl⟩, ?_⟩
    show [Sl.dk, .va (iT n), .va (iT m), .va (sT SIG), .own (ss.map sT), .va (iT (0 + (i : Int))), .va (sT ((⟨#[sigAt (a0 + ((j + 1 : Nat) : Int))]⟩ : Str) ++ Txt.slice x (some 1) none)), .va (iT (((if j = 0 then a0 else (a0 + (j : Int)) % 94) + 1) % ((SIG.length : Nat) : Int)))] = _
    rw [e1, if_neg (by omega), hxr]
    rfl
  ·have h1 : x ∉ ss := by simpa using h1
   refine ⟨⟨_, rfl⟩, _, rfl, by rw [List.length_map]; omega, hN _ ⟨ss ++ [x], .va (iT (0 + (i : Int))), .va (sT x), .va (iT (if j = 0 then a0 else (a0 + j) % 94)), by rw [List.length_append, hlen]; rfl, ⟨?_, fun s hs => ?_⟩, ?_⟩⟩
   ·rw [List.nodup_append]
    exact ⟨htx.1, by simp, fun a ha b hb => by rw [List.mem_singleton] at hb; subst hb; rintro rfl; exact h1 ha⟩
   ·rcases List.mem_append.mp hs with z | z
    ·exact htx.2 s z
    ·rw [List.mem_singleton] at z; subst z; exact ⟨sx, hxm⟩
   ·rw [List.map_append]; rfl
 ·rintro _ ⟨ss, s5, s6, s7, hlen, htx, rfl⟩
  rw [rngT_len] at hlen
  exact q ss (by omega) htx
end
end My
namespace My
open PySem L2 PyProof.Rows WordM
section
variable {P : Program} {w : World} {K : PySem.W.Frag} {mg : Str -> Option Value} {base : Heap}
def ptHasMark : PSp := fun as R => ∃ x m : Str, as = [.va (sT x), .va (sT m)] /\ m ∈ MK /\ x.length <= 4000 /\ R (bT (hasM x m))
theorem C0_ : FnScope ["text", "mark"] ["text", "mark"] (defScope s0_) := fsc (by decide +kernel)
theorem g0_ (h : Has K mg "has_mark" s0_) (B : Own mg)  (GSIGNS : GlobD K w.params mg "SIGNS" SGN)  : PGood P w K mg base 1 "has_mark" ["text", "mark"] ptHasMark := by
 have nd := C0_.nd
 refine h.pgood C0_ (fun|_,_,_,_,_,_,[_,_],_=>rfl) (fun f cdv A outer s H E F hr =>
   (us_one (us_ret (ue_callB (pu_any rfl) rfl B.any boot_any (ua_c (ue_ul (ul_c0 (sc := defScope s0_) (XN := ["text", "mark"]) (N := ["sign", "mark"]) (fr := [1]) (ui_val (ue_var 0)) (fun _ _ _ _ _ => (ue_cp (pu_in hr.units).op (ue_var 0) (ue_kd GSIGNS rfl (ue_var 1)) rfl)))) ua_nil))))) (fun as R q => ?_)
 obtain ⟨x, m, rfl, hm, hx, q⟩ := q
 obtain ⟨S, hS⟩ : ∃ S, getS SGN m = some S := by
  simp only [MK, List.mem_cons, List.not_mem_nil, or_false] at hm
  rcases hm with e | e | e | e <;> subst e <;> exact ⟨_, rfl⟩
 refine ⟨rfl, by rw [List.length_map, <- WordM.len]; omega, ?_⟩
 refine compT_of (fun c => sT ⟨#[c]⟩) (fun c => bT (decide (c ∈ cs S))) (fun c hc R q => ⟨m, S, rfl, hS, ?_⟩) ?_
 ·have e : (false != inS ⟨#[c]⟩ S) = decide (c ∈ cs S) := by
   unfold inS
   rw [StrLaws.found_one]
   simp
  show R (some (bT (false != inS ⟨#[c]⟩ S))) _
  rw [e]
  exact q
 ·refine ⟨(cs x).map fun c => decide (c ∈ cs S), by rw [List.map_map]; rfl, ?_⟩
  have e : ((cs x).map fun c => decide (c ∈ cs S)).any id = hasM x m := by
   rw [List.any_map, hasM, hS]
   rfl
  rw [e]
  exact q
def ptMarksOf : PSp := fun as R => ∃ x : Str, as = [.va (sT x)] /\ x.length <= 4000 /\ R (.seq true ((marksS x).map sT))
theorem C1_ : FnScope ["text"] ["text"] (defScope s1_) := fsc (by decide +kernel)
theorem g1_ (h : Has K mg "marks_of" s1_) (B : Own mg) (G0_ : PGood P w K mg base 1 "has_mark" ["text", "mark"] ptHasMark) (GMARKS : GlobT K mg "MARKS" (.seq true (MK.map sT)))  : PGood P w K mg base 2 "marks_of" ["text"] ptMarksOf := by
 have nd := C1_.nd
 refine h.pgood C1_ (fun|_,_,_,_,_,_,[_],_=>rfl) (fun f cdv A outer s H E F hr =>
   (us_one (us_ret (ue_callTy pu_tupOf rfl B.tuple_ boot_tuple (ua_c (ue_ul (ul_c1 (sc := defScope s1_) (XN := ["text"]) (N := ["mark", "text"]) (fr := [0]) (ui_val (ue_gl GMARKS rfl)) (fun _ _ _ _ _ => (uf_one (ub_val (ue_fm G0_ hr (ua_c (ue_var 1) (ua_c (ue_var 0) ua_nil)))))) (fun _ _ _ _ _ => (ue_var 0)))) ua_nil))))) (fun as R q => ?_)
 obtain ⟨x, rfl, hx, q⟩ := q
 refine ⟨rfl, by decide, ?_⟩
 refine compT_ofm (l := MK) sT (fun m => if hasM x m = true then some (sT m) else none) (fun m hm R q => ⟨x, m, rfl, hm, hx, _, rfl, sif (fun z => ?_) (fun z => ?_)⟩) ?_
 ·rw [if_pos z] at q; exact q
 ·rw [if_neg (by rw [z]; exact Bool.false_ne_true)] at q; exact q
 ·refine ⟨false, _, rfl, ?_⟩
  have e : (MK.filterMap fun m => if hasM x m = true then some (sT m) else none) = (marksS x).map sT := by
   unfold marksS
   generalize MK = l
   induction l with
   | nil => rfl
   | cons a l ih =>
    rw [List.filterMap_cons, List.filter_cons, ih]
    cases hasM x a <;> simp
  rw [e]
  exact q
end
end My
namespace My
open PySem L2 PyProof.Rows WordM
section
variable {P : Program} {w : World} {K : PySem.W.Frag} {mg : Str -> Option Value} {base : Heap}
variable {n : Nat}
theorem at0 {α : Type} {x : α} {r : List α} : atI (x :: r) 0 = some x := atI_nat (j := 0) rfl
end
section
variable {P : Program} {w : World} {K : PySem.W.Frag} {mg : Str -> Option Value} {base : Heap}
theorem sN {a b : Str} {A B : Prop} (h : a ≠ b) (k : B) : if (false != eqV (.str a) (.str b)) = true then A else B := sifS (fun z => absurd z h) fun _ => k
theorem sY {a : Str} {A B : Prop} (k : A) : if (false != eqV (.str a) (.str a)) = true then A else B := sifS (fun _ => k) fun z => absurd rfl z
theorem sNn {a : Str} {A B : Prop} (k : B) : if (true != eqV (.str a) (.str a)) = true then A else B := sif (fun z => absurd z (by simp [eqV])) fun _ => k
end
section
variable {P : Program} {w : World} {K : PySem.W.Frag} {mg : Str -> Option Value} {base : Heap}
theorem nxE {N : PEnv -> Prop} {ρ ρ' : PEnv} (e : ρ = ρ') (h : N ρ') : N ρ := e ▸ h
def ptMJ : PSp := fun as R => ∃ ms ms' : List Str, as = [.va (.seq true (ms.map sT)), .va (.seq true (ms'.map sT))] /\ ms.length <= 4 /\ ms'.length <= 4 /\ R (.seq true ((jnM ms ms').map sT))
theorem C2_ : FnScope ["one", "other"] ["one", "other"] (defScope s2_) := fsc (by decide +kernel)
theorem g2_ (h : Has K mg "marks_joined" s2_) (B : Own mg)    : PGood P w K mg base 1 "marks_joined" ["one", "other"] ptMJ := by
 have nd := C2_.nd
 refine h.pgood C2_ (fun|_,_,_,_,_,_,[_,_],_=>rfl) (fun f cdv A outer s H E F hr =>
   (us_one (us_ret (ue_callTy pu_tupOf rfl B.tuple_ boot_tuple (ua_c (ue_ul (ul_sortOr rfl rfl B.sorted rfl B.set_ (ue_var 0) (ue_var 1))) ua_nil))))) (fun as R q => ?_)
 obtain ⟨ms, ms', rfl, l1, l2, q⟩ := q
 exact ⟨rfl, ms, .inl rfl, by omega, ms', .inl rfl, by omega, _, _, rfl, q⟩
theorem lcp_at : ∀ (k : Nat) (x y : List Nat), x.take k = y.take k -> k <= x.length -> k <= y.length -> (k = x.length \/ k = y.length \/ x[k]? ≠ y[k]?) -> lcp x y = x.take k
 | 0, [], y, _, _, _, _ => by cases y <;> rfl
 | 0, a :: x, [], _, _, _, _ => rfl
 | 0, a :: x, b :: y, _, _, _, h => by
  rcases h with h | h | h
  ·simp at h
  ·simp at h
  ·have : a ≠ b := by simpa using h
   rw [lcp, if_neg this]
   rfl
 | k + 1, [], y, _, h, _, _ => by simp at h
 | k + 1, a :: x, [], _, _, h, _ => by simp at h
 | k + 1, a :: x, b :: y, e, h1, h2, h3 => by
  simp only [List.take_succ_cons, List.cons.injEq] at e
  rw [lcp, if_pos e.1, lcp_at k x y e.2 (by simpa using h1) (by simpa using h2) (by simpa using h3)]
  rfl
def shH (x y : Str) : Str := ⟨(lcp (cs x) (cs y)).toArray⟩
theorem shH_is (x y : Str) : IsHead [x, y] (shH x y) := headL_is (ts := [x, y]) (by simp)
theorem sandwich : ∀ (h a b y : List Nat), h ++ a <= y -> y <= h ++ b -> ∃ r, y = h ++ r
 | [], a, b, y, _, _ => ⟨y, rfl⟩
 | c :: h, a, b, [], h1, _ => absurd (List.nil_lt_cons c (h ++ a)) (List.not_lt.mpr h1)
 | c :: h, a, b, d :: y, h1, h2 => by
  rw [List.cons_append] at h1 h2
  have e : c = d := by
   rcases Nat.lt_trichotomy c d with z | z | z
   ·exact absurd (List.cons_lt_cons_iff.mpr (.inl z)) (List.not_lt.mpr h2)
   ·exact z
   ·exact absurd (List.cons_lt_cons_iff.mpr (.inl z)) (List.not_lt.mpr h1)
  subst e
  obtain ⟨r, e⟩ := sandwich h a b y (List.not_lt.mp fun z => List.not_lt.mpr h1 (List.cons_lt_cons_iff.mpr (.inr ⟨rfl, z⟩))) (List.not_lt.mp fun z => List.not_lt.mpr h2 (List.cons_lt_cons_iff.mpr (.inr ⟨rfl, z⟩)))
  exact ⟨r, by rw [e]; rfl⟩
theorem head_ends {ts : List Str} {x y hd : Str} (hx : x ∈ ts) (hy : y ∈ ts) (lx : ∀ t ∈ ts, cs x <= cs t) (ly : ∀ t ∈ ts, cs t <= cs y) (h : IsHead [x, y] hd) : IsHead ts hd := by
 refine ⟨fun t ht => ?_, fun h' hh => h.top h' fun t ht => ?_⟩
 ·obtain ⟨a, ea⟩ := h.all x (by simp)
  obtain ⟨b, eb⟩ := h.all y (by simp)
  exact sandwich (cs hd) a b (cs t) (by rw [<- ea]; exact lx t ht) (by rw [<- eb]; exact ly t ht)
 ·rcases List.mem_cons.mp ht with z | z
  ·rw [z]; exact hh x hx
  ·rw [show t = y by simpa using z]; exact hh y hy
theorem slice_to {x : Str} {n : Nat} (h : n <= x.length) : cs (Txt.slice x none (some (n : Int))) = (cs x).take n := by
 have e := beq_iff_eq.mp (PyProof.Rows.slice_closes_toL (x := x) (j := (n : Int)) (by omega) (by omega))
 rw [e]
 show ((cs x).drop 0).take _ = _
 rw [List.drop_zero]
 congr 1
theorem marks_cat {us : List Str} {hd z : Str} (hs : ∀ t ∈ us, Sg t) (e : cs z = catS (us.map fun t => restW t hd)) : marksS z = marksOf us hd := by
 unfold marksS marksOf
 refine List.filter_congr fun m hm => ?_
 rw [Bool.eq_iff_iff, hasM, List.any_eq_true, List.any_eq_true, e]
 unfold catS
 have sg : ∀ t ∈ us, ∀ c ∈ cs (restW t hd), c ∈ cs SIG := fun t ht c hc => (hs t ht).slice _ _ c hc
 constructor
 ·rintro ⟨c, hc, h2⟩
  obtain ⟨l, hl, hc⟩ := List.mem_flatten.mp hc
  obtain ⟨t', ht', rfl⟩ := List.mem_map.mp hl
  obtain ⟨t, ht, rfl⟩ := List.mem_map.mp ht'
  exact ⟨t, ht, List.any_eq_true.mpr ⟨c, hc, decide_eq_true ((mark_of (sg t ht c hc) m hm).mp (of_decide_eq_true h2))⟩⟩
 ·rintro ⟨t, ht, h2⟩
  obtain ⟨c, hc, h3⟩ := List.any_eq_true.mp h2
  exact ⟨c, List.mem_flatten.mpr ⟨_, List.mem_map.mpr ⟨_, List.mem_map.mpr ⟨t, ht, rfl⟩, rfl⟩, hc⟩, decide_eq_true ((mark_of (sg t ht c hc) m hm).mpr (of_decide_eq_true h3))⟩
theorem cat_lenM (us : List Str) (n : Nat) (h : ∀ t ∈ us, t.length <= n) : (catS us).length <= us.length * n := by
 induction us with
 | nil => simp [catS]
 | cons t us ih =>
  have e : catS (t :: us) = cs t ++ catS us := rfl
  rw [e, List.length_append, <- WordM.len, List.length_cons, Nat.succ_mul]
  have := ih fun x hx => h x (List.mem_cons_of_mem _ hx)
  have := h t List.mem_cons_self
  omega
def ptSh : PSp := fun as R => ∃ x y : Str, as = [.va (sT x), .va (sT y)] /\ x.length <= 1000 /\ y.length <= 1000 /\ R (sT (shH x y))
theorem C3_ : FnScope ["one", "other", "size"] ["one", "other"] (defScope s3_) := fsc (by decide +kernel)
theorem g3_ (h : Has K mg "shared_head" s3_) (B : Own mg)    : PGood P w K mg base 1 "shared_head" ["one", "other"] ptSh := by
 have nd := C3_.nd
 refine h.pgood C3_ (fun|_,_,_,_,_,_,[_,_],_=>rfl) (fun f cdv A outer s H E F hr =>
   (us_cons (us_s 2 nd ue_int)
   (us_cons (us_while PassesOwn.never (ub_w (uw_and (ub_cp pu_lt (ue_var 2) (ue_callB pu_len rfl B.len PySem.boot_len (ua_c (ue_var 0) ua_nil))) (uw_and (ub_cp pu_lt (ue_var 2) (ue_callB pu_len rfl B.len PySem.boot_len (ua_c (ue_var 1) ua_nil))) (uw_and1 (ub_q hr (ue_x hr (ue_var 0) (ue_var 2)) (ue_x hr (ue_var 1) (ue_var 2)))))))
    (us_one (us_s 2 nd (ue_op pu_add (ue_var 2) ue_int))))
   (us_one (us_ret (ue_slice pu_sl (ue_var 0) uo_none (uo_some (ue_var 2)))))))) (fun as R q => ?_)
 obtain ⟨x, y, rfl, lx, ly, q⟩ := q
 have ex : x.length = (cs x).length := WordM.len x
 have ey : y.length = (cs y).length := WordM.len y
 refine ⟨rfl, fun m ρ => ∃ k : Nat, m = x.length - k /\ k <= x.length /\ k <= y.length /\ (cs x).take k = (cs y).take k /\ ρ = [.va (sT x), .va (sT y), .va (iT (k : Nat))], ⟨_, 0, rfl, Nat.zero_le _, Nat.zero_le _, rfl, rfl⟩, ?_⟩
 rintro m _ ⟨k, rfl, k1, k2, e, rfl⟩
 have fin : (k = (cs x).length \/ k = (cs y).length \/ (cs x)[k]? ≠ (cs y)[k]?) -> R (sT (Txt.slice x none (some (k : Int)))) := fun h => by
  have e2 : Txt.slice x none (some (k : Int)) = shH x y := str_ext (by rw [slice_to k1]; exact (lcp_at k (cs x) (cs y) e (by omega) (by omega) h).symm)
  rw [e2]; exact q
 refine ⟨by show x.length <= _; omega, _, rfl, sifd (fun z1 => ⟨by show y.length <= _; omega, _, rfl, sifd (fun z2 => ?_) (fun z2 => ?_)⟩) (fun z1 => ?_)⟩
 ·have z1 : (k : Int) < (x.length : Nat) := z1
  have z2 : (k : Int) < (y.length : Nat) := z2
  have gx : (cs x)[k]? = some (cs x)[k] := List.getElem?_eq_getElem (by omega)
  have gy : (cs y)[k]? = some (cs y)[k] := List.getElem?_eq_getElem (by omega)
  refine ⟨by show x.length <= _; omega, (cs x)[k], atI_nat (j := k) gx, by show y.length <= _; omega, (cs y)[k], atI_nat (j := k) gy, _, rfl, ?_⟩
  refine sifS (fun z => ?_) (fun z => ?_)
  ·have ee : (cs x)[k] = (cs y)[k] := by simpa using z
   refine ⟨x.length - (k + 1), by omega, k + 1, rfl, by omega, by omega, ?_, by push_cast; rfl⟩
   rw [List.take_add_one, List.take_add_one, e, gx, gy, ee]
  ·refine ⟨_, rfl, by show x.length <= _; omega, fin (.inr (.inr fun h => z ?_))⟩
   rw [gx, gy] at h
   injection h with h
   rw [h]
 ·have z2 : ¬ (k : Int) < (y.length : Nat) := z2
  exact ⟨_, rfl, by show x.length <= _; omega, fin (.inr (.inl (by omega)))⟩
 ·have z1 : ¬ (k : Int) < (x.length : Nat) := z1
  exact ⟨_, rfl, by show x.length <= _; omega, fin (.inl (by omega))⟩
def ptMakeOf : PSp := fun as R => ∃ (t : Bool) (us : List Str), as = [.va (.seq t (us.map sT))] /\ us ≠ [] /\ us.length <= 63 /\ (∀ t ∈ us, TxOk t) /\ R (encW (mkOf us))
theorem mkOf_eq {us : List Str} {hd : Str} {lo hi : Int} {ms : List Str} (m : MOf us hd lo hi ms) : Wd.make hd lo hi ms = mkOf us := by
 obtain ⟨h2, l2, u2, m2, e, k⟩ := mkOf_is m.ne
 obtain ⟨e1, e2, e3, e4⟩ := m.uniq k
 rw [e, e1, e2, e3, e4]
theorem C4_ : FnScope ["texts", "head", "tails", "sizes"] ["texts"] (defScope s4_) := fsc (by decide +kernel)
theorem g4_ (h : Has K mg "make_of" s4_) (B : Own mg) (G3_ : PGood P w K mg base 1 "shared_head" ["one", "other"] ptSh) (G1_ : PGood P w K mg base 2 "marks_of" ["text"] ptMarksOf)   : PGood P w K mg base 3 "make_of" ["texts"] ptMakeOf := by
 have nd := C4_.nd
 refine h.pgood C4_ (fun|_,_,_,_,_,_,[_],_=>rfl) (fun f cdv A outer s H E F hr =>
   (us_cons (us_s 1 nd (ue_fm G3_ hr (ua_c (ue_callB (pu_minT rfl) rfl B.min boot_min (ua_c (ue_var 0) ua_nil)) (ua_c (ue_callB (pu_maxT rfl) rfl B.max boot_max (ua_c (ue_var 0) ua_nil)) ua_nil))))
   (us_cons (us_c1 (sc := defScope s4_) (XN := ["texts", "head", "tails", "sizes"]) (N := ["text", "head"]) (fr := [1]) 2 nd (ui_val (ue_var 0)) (fun _ _ _ _ _ => uf_nil) (fun _ _ _ _ _ => (ue_slice pu_sl (ue_var 0) (uo_some (ue_callB pu_len rfl B.len PySem.boot_len (ua_c (ue_var 1) ua_nil))) uo_none)))
   (us_cons (us_c1 (sc := defScope s4_) (XN := ["texts", "head", "tails", "sizes"]) (N := ["tail"]) (fr := []) 3 nd (ui_val (ue_var 2)) (fun _ _ _ _ _ => uf_nil) (fun _ _ _ _ _ => (ue_callB pu_len rfl B.len PySem.boot_len (ua_c (ue_var 0) ua_nil))))
   (us_one (us_ret (ue_tup (ua_c ue_str (ua_c (ue_var 1) (ua_c (ue_callB (pu_min rfl) rfl B.min boot_min (ua_c (ue_var 3) ua_nil)) (ua_c (ue_callB (pu_max rfl) rfl B.max boot_max (ua_c (ue_var 3) ua_nil)) (ua_c (ue_fm G1_ hr (ua_c (ue_bmS PySem.F.slot_str_join PySem.F.type_str_join pm_join ue_str (ua_c (ue_var 2) ua_nil)) ua_nil)) ua_nil)))))))))))) (fun as R q => ?_)
 obtain ⟨t, us, rfl, ne, l64, hu, q⟩ := q
 have l0 : 0 < us.length := List.length_pos_iff.mpr ne
 refine ⟨rfl, t, us, rfl, l0, fun x x1 x2 => ⟨t, us, rfl, l0, fun y y1 y2 => ⟨x, y, rfl, by have := (hu x x1).2; omega, by have := (hu y y1).2; omega, ?_⟩⟩⟩
 have hh : IsHead us (shH x y) := head_ends x1 y1 x2 y2 (shH_is x y)
 generalize shH x y = hd at hh
 show PEnds.nx _ _
 refine nxE (ρ' := [.va (.seq t (us.map sT)), .va (sT hd), .no, .no]) rfl ?_
 have rl : ∀ t ∈ us, ((restW t hd).length : Int) = (t.length : Int) - (hd.length : Int) /\ (restW t hd).length <= 50 := fun t ht => by
  obtain ⟨r, e⟩ := hh.all t ht
  have h1 := restW_of e
  have h2 := congrArg List.length e
  rw [List.length_append] at h2
  have h3 := (hu t ht).2
  rw [WordM.len] at h3
  rw [WordM.len, WordM.len t, WordM.len hd, h1]
  omega
 have hl : hd.length <= 50 := by
  obtain ⟨t, ht⟩ := List.exists_mem_of_ne_nil _ ne
  have := (rl t ht).1
  have := (hu t ht).2
  omega
 refine ⟨by rw [List.length_map]; omega, compT_of sT (fun t => sT (restW t hd)) (fun t ht R q => ⟨by show hd.length <= _; omega, _, rfl, by have := (hu t ht).2; show t.length <= _; omega, q⟩) ?_⟩
 show PEnds.nx _ _
 refine nxE (ρ' := [.va (.seq t (us.map sT)), .va (sT hd), .va (.seq false ((us.map fun t => restW t hd).map sT)), .no]) (by rw [List.map_map]; rfl) ?_
 refine ⟨by rw [List.length_map, List.length_map]; omega, compT_of sT (fun t => iT (t.length : Nat)) (fun t ht R q => ?_) ?_⟩
 ·obtain ⟨u, hu', rfl⟩ := List.mem_map.mp ht
  exact ⟨by have := (rl u hu').2; show (restW u hd).length <= _; omega, q⟩
 have es : ((us.map fun t => restW t hd).map fun t => iT (t.length : Nat)) = ((us.map fun t => (t.length : Int) - (hd.length : Int))).map iT := by
  rw [List.map_map, List.map_map]
  apply List.map_congr_left
  intro t ht
  show iT ((restW t hd).length : Nat) = iT _
  rw [(rl t ht).1]
 rw [es]
 have ne2 : (us.map fun t => (t.length : Int) - (hd.length : Int)) ≠ [] := by simpa using ne
 refine .inr (.inl ⟨_, rfl, List.length_pos_iff.mpr ne2, fun lo lo1 lo2 => .inr (.inl ⟨_, rfl, List.length_pos_iff.mpr ne2, fun hi hi1 hi2 => ?_⟩)⟩)
 have cl : (catS (us.map fun t => restW t hd)).length <= 4000 := by
  have := cat_lenM (us.map fun t => restW t hd) 50 fun t ht => by
   obtain ⟨u, hu', rfl⟩ := List.mem_map.mp ht
   exact (rl u hu').2
  rw [List.length_map] at this
  omega
 refine ⟨rfl, us.map fun t => restW t hd, rfl, rfl, by omega, _, rfl, by show (catS (us.map fun t => restW t hd)).length <= _; exact cl, by simp, ?_⟩
 rw [marks_cat (us := us) (hd := hd) (z := ⟨(catS (us.map fun t => restW t hd)).toArray⟩) (fun t ht => (hu t ht).1) rfl]
 have m : MOf us hd lo hi (marksOf us hd) := by
  refine ⟨hh, ?_, fun t ht => lo2 _ (List.mem_map.mpr ⟨t, ht, rfl⟩), ?_, fun t ht => hi2 _ (List.mem_map.mpr ⟨t, ht, rfl⟩), rfl⟩
  ·obtain ⟨t, ht, e⟩ := List.mem_map.mp lo1; exact ⟨t, ht, e⟩
  ·obtain ⟨t, ht, e⟩ := List.mem_map.mp hi1; exact ⟨t, ht, e⟩
 rw [<- mkOf_eq m] at q
 exact q
def ptWordsOf : PSp := fun as R => ∃ ts : List Str, as = [.va (.seq false (ts.map sT))] /\ ts ≠ [] /\ ts.length <= 1000 /\ (setL ts).length <= 63 /\ (∀ t ∈ ts, TxOk t) /\ R (encW (wdOf ts))
theorem mk_same {ts us : List Str} (ne : ts ≠ []) (h : ∀ x, x ∈ ts ↔ x ∈ us) : mkOf ts = mkOf us := by
 obtain ⟨hd, lo, hi, ms, e, m⟩ := mkOf_is ne
 rw [e]
 exact mkOf_eq (m.same h)
theorem C5_ : FnScope ["texts", "unlike"] ["texts"] (defScope s5_) := fsc (by decide +kernel)
theorem g5_ (h : Has K mg "words_of" s5_) (B : Own mg) (G4_ : PGood P w K mg base 3 "make_of" ["texts"] ptMakeOf) (GMOST_FEW : GlobT K mg "MOST_FEW" (iT 6))  : PGood P w K mg base 4 "words_of" ["texts"] ptWordsOf := by
 have nd := C5_.nd
 refine h.pgood C5_ (fun|_,_,_,_,_,_,[_],_=>rfl) (fun f cdv A outer s H E F hr =>
   (us_cons (us_if (ub_q hr (ue_callB pu_len rfl B.len PySem.boot_len (ua_c (ue_var 0) ua_nil)) ue_int)
    (us_one us_nev)
    us_nil)
   (us_cons (us_s 1 nd (ue_ul (ul_sortSet2 rfl rfl B.sorted rfl B.set_ (ue_var 0))))
   (us_cons (us_if (ub_cp pu_le (ue_callB pu_len rfl B.len PySem.boot_len (ua_c (ue_var 1) ua_nil)) (ue_gl GMOST_FEW rfl))
    (us_one (us_ret (ue_tup (ua_c ue_str (ua_c (ue_callTy pu_tupOf rfl B.tuple_ boot_tuple (ua_c (ue_var 1) ua_nil)) ua_nil)))))
    us_nil)
   (us_one (us_ret (ue_fm G4_ hr (ua_c (ue_var 1) ua_nil)))))))) (fun as R q => ?_)
 obtain ⟨ts, rfl, ne, lt, l20, ht, q⟩ := q
 have l0 : 0 < ts.length := List.length_pos_iff.mpr ne
 refine ⟨rfl, _, rfl, sifI (fun z => absurd z (by rw [List.length_map]; omega)) (fun _ => ?_)⟩
 have sl : (sortS (setL ts)).length = (setL ts).length := (sortS_perm _).length_eq
 refine ⟨ts, rfl, by omega, ?_⟩
 show PEnds.nx _ _
 refine nxE (ρ' := [.va (.seq false (ts.map sT)), .va (.seq false ((sortS (setL ts)).map sT))]) rfl ?_
 refine ⟨_, rfl, sifd (fun z => ?_) (fun z => ?_)⟩
 ·have z : (((sortS (setL ts)).map sT).length : Int) <= 6 := z
  rw [List.length_map, sl] at z
  unfold wdOf at q
  rw [if_pos (by omega)] at q
  exact ⟨_, _, rfl, by simp, q⟩
 ·have z : ¬ (((sortS (setL ts)).map sT).length : Int) <= 6 := z
  rw [List.length_map, sl] at z
  unfold wdOf at q
  rw [if_neg (by omega), mk_same (us := sortS (setL ts)) ne fun x => sort_set_mem.symm] at q
  exact ⟨false, _, rfl, fun e => by rw [e] at sl; simp at sl; omega, by omega, fun t h => ht t (sort_set_mem.mp h), q⟩
def HdOk (ts : List Str) : Prop := ∀ h lo hi ms, mkOf ts = .make h lo hi ms -> TxOk h
structure TsOk (ts : List Str) : Prop where
 ne : ts ≠ []
 hd : HdOk ts
 ok : (setL ts).length < 7 -> ∀ t ∈ ts, TxOk t
def ptAsMake : PSp := fun as R => ∃ ts : List Str, as = [.va (encW (wdOf ts))] /\ TsOk ts /\ R (encW (mkOf ts))
theorem sort_ne {ts : List Str} (h : ts ≠ []) : sortS (setL ts) ≠ [] := fun e => by
 obtain ⟨x, hx⟩ := List.exists_mem_of_ne_nil _ h
 have := sort_set_mem.mpr hx
 rw [e] at this
 exact nomatch this
theorem C6_ : FnScope ["words"] ["words"] (defScope s6_) := fsc (by decide +kernel)
theorem g6_ (h : Has K mg "as_make" s6_) (B : Own mg) (G4_ : PGood P w K mg base 3 "make_of" ["texts"] ptMakeOf)   : PGood P w K mg base 4 "as_make" ["words"] ptAsMake := by
 have nd := C6_.nd
 refine h.pgood C6_ (fun|_,_,_,_,_,_,[_],_=>rfl) (fun f cdv A outer s H E F hr =>
   (us_one (us_ret (ue_ifExp (ub_q hr (ue_x hr (ue_var 0) ue_int) ue_str) (ue_fm G4_ hr (ua_c (ue_x hr (ue_var 0) ue_int) ua_nil)) (ue_var 0))))) (fun as R q => ?_)
 obtain ⟨ts, rfl, ok, q⟩ := q
 unfold wdOf
 split
 ·rename_i z
  rw [mk_same (us := sortS (setL ts)) ok.ne fun x => sort_set_mem.symm] at q
  exact ⟨rfl, _, at0, _, rfl, sY ⟨_, atI_nat (j := 1) rfl, true, _, rfl, sort_ne ok.ne, by rw [(sortS_perm _).length_eq]; omega, fun t h => ok.ok z t (sort_set_mem.mp h), q⟩⟩
 ·obtain ⟨hd, lo, hi, ms, e, m⟩ := mkOf_is ok.ne
  rw [e] at q ⊢
  exact ⟨rfl, _, at0, _, rfl, sN (by decide +kernel) q⟩
def ptShorter : PSp := fun as R => ∃ (h1 : Str) (lo hi : Int) (ms : List Str) (hd : Str), as = [.va (encW (.make h1 lo hi ms)), .va (sT hd)] /\ h1.length <= 50 /\ hd.length <= 50 /\ ms.length <= 4 /\ R (encW (.make hd (lo + (restW h1 hd).length) (hi + (restW h1 hd).length) (jnM ms (marksS (restW h1 hd)))))
theorem C7_ : FnScope ["make", "head", "tail", "marks"] ["make", "head"] (defScope s7_) := fsc (by decide +kernel)
theorem g7_ (h : Has K mg "with_shorter_head" s7_) (B : Own mg) (G2_ : PGood P w K mg base 1 "marks_joined" ["one", "other"] ptMJ) (G1_ : PGood P w K mg base 2 "marks_of" ["text"] ptMarksOf)   : PGood P w K mg base 3 "with_shorter_head" ["make", "head"] ptShorter := by
 have nd := C7_.nd
 refine h.pgood C7_ (fun|_,_,_,_,_,_,[_,_],_=>rfl) (fun f cdv A outer s H E F hr =>
   (us_cons (us_s 2 nd (ue_slice pu_sl (ue_x hr (ue_var 0) ue_int) (uo_some (ue_callB pu_len rfl B.len PySem.boot_len (ua_c (ue_var 1) ua_nil))) uo_none))
   (us_cons (us_s 3 nd (ue_fm G2_ hr (ua_c (ue_x hr (ue_var 0) ue_int) (ua_c (ue_fm G1_ hr (ua_c (ue_var 2) ua_nil)) ua_nil))))
   (us_one (us_ret (ue_tup (ua_c ue_str (ua_c (ue_var 1) (ua_c (ue_op pu_add (ue_x hr (ue_var 0) ue_int) (ue_callB pu_len rfl B.len PySem.boot_len (ua_c (ue_var 2) ua_nil))) (ua_c (ue_op pu_add (ue_x hr (ue_var 0) ue_int) (ue_callB pu_len rfl B.len PySem.boot_len (ua_c (ue_var 2) ua_nil))) (ua_c (ue_var 3) ua_nil))))))))))) (fun as R q => ?_)
 obtain ⟨h1, lo, hi, ms, hd, rfl, l1, l2, l3, q⟩ := q
 have rl : (restW h1 hd).length <= 50 := Nat.le_trans (WordM.slice_len ..) l1
 have ml : (marksS (restW h1 hd)).length <= 4 := by
  unfold marksS
  exact Nat.le_trans (List.length_filter_le _ _) (by simp [MK])
 refine ⟨rfl, _, atI_nat (j := 1) rfl, by show hd.length <= _; omega, _, rfl, by show h1.length <= _; omega, ?_⟩
 show PEnds.nx _ _
 refine nxE (ρ' := [.va (encW (.make h1 lo hi ms)), .va (sT hd), .va (sT (restW h1 hd)), .no]) rfl ?_
 refine ⟨_, atI_nat (j := 4) rfl, restW h1 hd, rfl, by omega, ms, marksS (restW h1 hd), rfl, l3, ml, ?_⟩
 show PEnds.nx _ _
 refine nxE (ρ' := [.va (encW (.make h1 lo hi ms)), .va (sT hd), .va (sT (restW h1 hd)), .va (.seq true ((jnM ms (marksS (restW h1 hd))).map sT))]) rfl ?_
 exact ⟨_, atI_nat (j := 2) rfl, by show (restW h1 hd).length <= _; omega, _, atI_nat (j := 3) rfl, by show (restW h1 hd).length <= _; omega, by simp, q⟩
theorem jn_len {ms ms' : List Str} (h1 : ∀ m ∈ ms, m ∈ MK) (h2 : ∀ m ∈ ms', m ∈ MK) : (jnM ms ms').length <= 4 /\ ∀ m ∈ jnM ms ms', m ∈ MK := by
 have h : ∀ m ∈ jnM ms ms', m ∈ MK := fun m hm => by
  rcases List.mem_append.mp (sort_set_mem.mp hm) with z | z
  ·exact h1 m z
  ·exact h2 m z
 exact ⟨WordM.nodup_len (rise_nodup (sort_set_rise _)) h, h⟩
theorem mof_marks {ts : List Str} {hd : Str} {lo hi : Int} {ms : List Str} (m : MOf ts hd lo hi ms) : ms.length <= 4 /\ ∀ x ∈ ms, x ∈ MK := by
 have hk : ∀ x ∈ ms, x ∈ MK := fun x hx => by rw [m.mks] at hx; exact (List.mem_filter.mp hx).1
 exact ⟨by rw [m.mks]; exact Nat.le_trans (List.length_filter_le _ _) (by simp [MK]), hk⟩
def ptMakesJ : PSp := fun as R => ∃ A B : List Str, as = [.va (encW (mkOf A)), .va (encW (mkOf B))] /\ A ≠ [] /\ B ≠ [] /\ HdOk A /\ HdOk B /\ R (encW (mkOf (A ++ B)))
theorem C8_ : FnScope ["one", "other", "head", "first", "second", "least", "most"] ["one", "other"] (defScope s8_) := fsc (by decide +kernel)
theorem g8_ (h : Has K mg "makes_joined" s8_) (B : Own mg) (G3_ : PGood P w K mg base 1 "shared_head" ["one", "other"] ptSh) (G7_ : PGood P w K mg base 3 "with_shorter_head" ["make", "head"] ptShorter) (G2_ : PGood P w K mg base 1 "marks_joined" ["one", "other"] ptMJ)   : PGood P w K mg base 4 "makes_joined" ["one", "other"] ptMakesJ := by
 have nd := C8_.nd
 refine h.pgood C8_ (fun|_,_,_,_,_,_,[_,_],_=>rfl) (fun f cdv A outer s H E F hr =>
   (us_cons (us_s 2 nd (ue_fm G3_ hr (ua_c (ue_x hr (ue_var 0) ue_int) (ua_c (ue_x hr (ue_var 1) ue_int) ua_nil))))
   (us_cons (us_s 3 nd (ue_fm G7_ hr (ua_c (ue_var 0) (ua_c (ue_var 2) ua_nil))))
   (us_cons (us_s 4 nd (ue_fm G7_ hr (ua_c (ue_var 1) (ua_c (ue_var 2) ua_nil))))
   (us_cons (us_s 5 nd (ue_callB (pu_min rfl) rfl B.min boot_min (ua_c (ue_x hr (ue_var 3) ue_int) (ua_c (ue_x hr (ue_var 4) ue_int) ua_nil))))
   (us_cons (us_s 6 nd (ue_callB (pu_max rfl) rfl B.max boot_max (ua_c (ue_x hr (ue_var 3) ue_int) (ua_c (ue_x hr (ue_var 4) ue_int) ua_nil))))
   (us_one (us_ret (ue_tup (ua_c ue_str (ua_c (ue_var 2) (ua_c (ue_var 5) (ua_c (ue_var 6) (ua_c (ue_fm G2_ hr (ua_c (ue_x hr (ue_var 3) ue_int) (ua_c (ue_x hr (ue_var 4) ue_int) ua_nil))) ua_nil)))))))))))))) (fun as R q => ?_)
 obtain ⟨A, B, rfl, na, nb, ha, hb, q⟩ := q
 obtain ⟨h1, lo1, hi1, ms1, e1, m1⟩ := mkOf_is na
 obtain ⟨h2, lo2, hi2, ms2, e2, m2⟩ := mkOf_is nb
 obtain ⟨s1, b1⟩ := ha _ _ _ _ e1
 obtain ⟨s2, b2⟩ := hb _ _ _ _ e2
 obtain ⟨c1, k1⟩ := mof_marks m1
 obtain ⟨c2, k2⟩ := mof_marks m2
 have hh := shH_is h1 h2
 have app := m1.app m2 s1 s2 hh
 rw [<- mkOf_eq app] at q
 obtain ⟨r1, er1⟩ := hh.all h1 (.head _)
 have lh : (shH h1 h2).length <= 50 := by
  rw [WordM.len] at b1 ⊢
  rw [er1, List.length_append] at b1
  omega
 rw [e1, e2]
 refine ⟨rfl, _, atI_nat (j := 1) rfl, _, atI_nat (j := 1) rfl, h1, h2, rfl, by omega, by omega, ?_⟩
 generalize shH h1 h2 = hd at q lh
 have mk1 : ∀ x : Str, ∀ m ∈ marksS x, m ∈ MK := fun x m hm => (List.mem_filter.mp hm).1
 have j1 := (jn_len k1 (mk1 (restW h1 hd))).1
 have j2 := (jn_len k2 (mk1 (restW h2 hd))).1
 show PEnds.nx _ _
 refine nxE (ρ' := [.va (encW (.make h1 lo1 hi1 ms1)), .va (encW (.make h2 lo2 hi2 ms2)), .va (sT hd), .no, .no, .no, .no]) rfl ?_
 refine ⟨h1, lo1, hi1, ms1, hd, rfl, b1, lh, c1, ?_⟩
 generalize jnM ms1 (marksS (restW h1 hd)) = n1 at q j1
 generalize lo1 + ((restW h1 hd).length : Int) = l1 at q
 generalize hi1 + ((restW h1 hd).length : Int) = g1 at q
 show PEnds.nx _ _
 refine nxE (ρ' := [.va (encW (.make h1 lo1 hi1 ms1)), .va (encW (.make h2 lo2 hi2 ms2)), .va (sT hd), .va (encW (.make hd l1 g1 n1)), .no, .no, .no]) rfl ?_
 refine ⟨h2, lo2, hi2, ms2, hd, rfl, b2, lh, c2, ?_⟩
 generalize jnM ms2 (marksS (restW h2 hd)) = n2 at q j2
 generalize lo2 + ((restW h2 hd).length : Int) = l2 at q
 generalize hi2 + ((restW h2 hd).length : Int) = g2 at q
 show PEnds.nx _ _
 refine nxE (ρ' := [.va (encW (.make h1 lo1 hi1 ms1)), .va (encW (.make h2 lo2 hi2 ms2)), .va (sT hd), .va (encW (.make hd l1 g1 n1)), .va (encW (.make hd l2 g2 n2)), .no, .no]) rfl ?_
 refine ⟨_, atI_nat (j := 2) rfl, _, atI_nat (j := 2) rfl, .inl ⟨_, _, rfl, _, atI_nat (j := 3) rfl, _, atI_nat (j := 3) rfl, .inl ⟨_, _, rfl, ?_⟩⟩⟩
 exact ⟨_, atI_nat (j := 4) rfl, _, atI_nat (j := 4) rfl, n1, n2, rfl, j1, j2, by simp, q⟩
def ptWordsJ : PSp := fun as R => ∃ A B : List Str, as = [.va (encW (wdOf A)), .va (encW (wdOf B))] /\ TsOk A /\ TsOk B /\ R (encW (wdOf (A ++ B)))
theorem set_le {A C : List Str} (h : ∀ x ∈ A, x ∈ C) : (setL A).length <= (setL C).length := WordM.nodup_len (setL_nd A) fun x hx => (setL_mem C x).mpr (h x ((setL_mem A x).mp hx))
theorem C9_ : FnScope ["one", "other"] ["one", "other"] (defScope s9_) := fsc (by decide +kernel)
theorem g9_ (h : Has K mg "words_joined" s9_) (B : Own mg) (G5_ : PGood P w K mg base 4 "words_of" ["texts"] ptWordsOf) (G8_ : PGood P w K mg base 4 "makes_joined" ["one", "other"] ptMakesJ) (G6_ : PGood P w K mg base 4 "as_make" ["words"] ptAsMake)   : PGood P w K mg base 5 "words_joined" ["one", "other"] ptWordsJ := by
 have nd := C9_.nd
 refine h.pgood C9_ (fun|_,_,_,_,_,_,[_,_],_=>rfl) (fun f cdv A outer s H E F hr =>
   (us_cons (us_if (ub_w (uw_and (ub_q hr (ue_x hr (ue_var 0) ue_int) ue_str) (uw_and1 (ub_q hr (ue_x hr (ue_var 1) ue_int) ue_str))))
    (us_one (us_ret (ue_fm G5_ hr (ua_c (ue_op pu_add (ue_ul (ul_callTy pu_listOf rfl B.list_ boot_list (ua_c (ue_x hr (ue_var 0) ue_int) ua_nil))) (ue_ul (ul_callTy pu_listOf rfl B.list_ boot_list (ua_c (ue_x hr (ue_var 1) ue_int) ua_nil)))) ua_nil))))
    us_nil)
   (us_one (us_ret (ue_fm G8_ hr (ua_c (ue_fm G6_ hr (ua_c (ue_var 0) ua_nil)) (ua_c (ue_fm G6_ hr (ua_c (ue_var 1) ua_nil)) ua_nil))))))) (fun as R q => ?_)
 obtain ⟨A, B, rfl, oA, oB, q⟩ := q
 have na := oA.ne
 have nb := oB.ne
 have fin : 7 <= (setL (A ++ B)).length -> R (encW (mkOf (A ++ B))) := fun h => by
  unfold wdOf at q
  rw [if_neg (by omega)] at q
  exact q
 by_cases zA : (setL A).length < 7
 ·have eA : wdOf A = .few (sortS (setL A)) := by unfold wdOf; rw [if_pos zA]
  by_cases zB : (setL B).length < 7
  ·have eB : wdOf B = .few (sortS (setL B)) := by unfold wdOf; rw [if_pos zB]
   rw [eA, eB]
   have es : ∀ x, x ∈ sortS (setL A) ++ sortS (setL B) ↔ x ∈ A ++ B := fun x => by rw [List.mem_append, List.mem_append, sort_set_mem, sort_set_mem]
   have l1 : (sortS (setL A)).length = (setL A).length := (sortS_perm _).length_eq
   have l2 : (sortS (setL B)).length = (setL B).length := (sortS_perm _).length_eq
   rw [<- wdOf_same es] at q
   refine ⟨rfl, _, at0, _, rfl, sY ⟨_, at0, _, rfl, sY ⟨_, atI_nat (j := 1) rfl, _, _, rfl, _, atI_nat (j := 1) rfl, _, _, rfl, ?_⟩⟩⟩
   refine ⟨by rw [List.length_map, List.length_map]; omega, sortS (setL A) ++ sortS (setL B), by rw [List.map_append], ?_, ?_, ?_, fun t ht => (List.mem_append.mp ((es t).mp ht)).elim (oA.ok zA t) (oB.ok zB t), q⟩
   ·intro e
    exact sort_ne na (List.append_eq_nil_iff.mp e).1
   ·rw [List.length_append]; omega
   ·have := WordM.nodup_len (setL_nd (sortS (setL A) ++ sortS (setL B))) fun x hx => (setL_mem _ x).mp hx
    rw [List.length_append] at this
    omega
  ·have q := fin (Nat.le_trans (by omega) (set_le (A := B) (C := A ++ B) fun x hx => List.mem_append_right _ hx))
   have eB : wdOf B = mkOf B := by unfold wdOf; rw [if_neg zB]
   obtain ⟨h2, lo2, hi2, ms2, e2, m2⟩ := mkOf_is nb
   have aA : [Ar.va (encW (.few (sortS (setL A))))] = [.va (encW (wdOf A))] := by rw [eA]
   have aB : [Ar.va (encW (.make h2 lo2 hi2 ms2))] = [.va (encW (wdOf B))] := by rw [eB, e2]
   rw [eB, eA, e2]
   exact ⟨rfl, _, at0, _, rfl, sY ⟨_, at0, _, rfl, sN (by decide +kernel) ⟨A, aA, oA, B, aB, oB, A, B, rfl, na, nb, oA.hd, oB.hd, q⟩⟩⟩
 ·have q := fin (Nat.le_trans (by omega) (set_le (A := A) (C := A ++ B) fun x hx => List.mem_append_left _ hx))
  have eA : wdOf A = mkOf A := by unfold wdOf; rw [if_neg zA]
  obtain ⟨h1, lo1, hi1, ms1, e1, m1⟩ := mkOf_is na
  have aA : [Ar.va (encW (.make h1 lo1 hi1 ms1))] = [.va (encW (wdOf A))] := by rw [eA, e1]
  rw [eA, e1]
  exact ⟨rfl, _, at0, _, rfl, sN (by decide +kernel) (iteF ⟨A, aA, oA, B, rfl, oB, A, B, rfl, na, nb, oA.hd, oB.hd, q⟩)⟩
end
end My
namespace My
open PySem L2 PyProof.Rows WordM
section
variable {P : Program} {w : World} {K : PySem.W.Frag} {mg : Str -> Option Value} {base : Heap}
open WordM ShowM
theorem letW_make {hd x : Str} {lo hi : Int} {ms : List Str} : letW (.make hd lo hi ms) x = true ↔ MkL markC (cs hd) lo hi ms (cs x) := by
 unfold letW MkL
 rw [Bool.and_eq_true, Bool.and_eq_true, Bool.and_eq_true, decide_eq_true_iff, decide_eq_true_iff, List.all_eq_true, stW_iff, WordM.len]
 constructor
 ·rintro ⟨⟨r, e⟩, ⟨h1, h2⟩, h3⟩
  rw [restW_of e] at h1 h2 h3
  exact ⟨r, e, h1, h2, fun c hc => of_decide_eq_true (h3 c hc)⟩
 ·rintro ⟨r, e, h1, h2, h3⟩
  rw [restW_of e]
  exact ⟨⟨r, e⟩, ⟨h1, h2⟩, fun c hc => decide_eq_true (h3 c hc)⟩
def Shows (W : Wd) (ts : List Str) : Prop := (∀ t ∈ ts, letW W t = true /\ Sg t /\ t.length <= 200) /\ ∀ W2, WdOk W2 -> (∀ t ∈ ts, letW W2 t = true) -> ∀ x, letW W x = true -> letW W2 x = true
theorem shows_few {ss : List Str} (h : WdOk (.few ss)) : Shows (.few ss) ss :=
 ⟨fun t ht => ⟨decide_eq_true ht, (h.2.2.2 t ht).1, Nat.le_trans (h.2.2.2 t ht).2 (by decide)⟩, fun W2 _ k x hx => k x (of_decide_eq_true hx)⟩
theorem shows_make {hd : Str} {lo hi : Int} {ms : List Str} {ts : List Str} (T : Tells markC (cs hd) lo hi ms (ts.map cs)) (h : ∀ t ∈ ts, letW (.make hd lo hi ms) t = true /\ Sg t /\ t.length <= 200) : Shows (.make hd lo hi ms) ts := by
 refine ⟨h, fun W2 ok k x hx => ?_⟩
 cases W2 with
 | few ss =>
  refine (T.few (ss := ss.map cs) (by rw [List.length_map]; exact ok.2.1) fun y hy => ?_).elim
  obtain ⟨t, ht, rfl⟩ := List.mem_map.mp hy
  exact List.mem_map.mpr ⟨t, of_decide_eq_true (k t ht), rfl⟩
 | make hd2 lo2 hi2 ms2 =>
  rw [letW_make] at hx ⊢
  refine T.make (fun y hy => ?_) _ hx
  obtain ⟨t, ht, rfl⟩ := List.mem_map.mp hy
  exact letW_make.mp (k t ht)
def repC (c : Nat) (n : Int) : Str := repS ⟨#[c]⟩ n
theorem cs_rep (c : Nat) (n : Int) : cs (repC c n) = List.replicate n.toNat c := by
 show ((List.replicate n.toNat [c]).flatten.toArray).toList = _
 rw [List.toList_toArray]
 induction n.toNat with
 | zero => rfl
 | succ k ih => rw [List.replicate_succ, List.flatten_cons, ih, List.replicate_succ]; rfl
theorem rep_len (c : Nat) (n : Int) : (repC c n).length = n.toNat := by rw [WordM.len, cs_rep, List.length_replicate]
theorem sg_rep {c : Nat} (h : c ∈ cs SIG) (n : Int) : Sg (repC c n) := fun d hd => by
 rw [cs_rep] at hd
 rw [(List.mem_replicate.mp hd).2]
 exact h
def signsM (m : Str) : List Nat := cs ((L2.getS SGN m).getD ⟨#[]⟩)
def sgM : List Str -> List Nat
 | [] => []
 | m :: r => (signsM m).take 7 ++ r.map fun m => (signsM m).headD 0
def goodM (ms : List Str) : List Nat := (cs SIG).filter fun c => decide (markC c ∈ ms)
structure Signs (ms : List Str) (G : List Nat) : Prop where
 many : 7 <= G.length
 nd : G.Nodup
 cov : ∀ m ∈ ms, ∃ c ∈ G, markC c = m
 mine : ∀ c ∈ G, markC c ∈ ms
 sg : ∀ c ∈ G, c ∈ cs SIG
instance (ms : List Str) (G : List Nat) : Decidable (Signs ms G) :=
 decidable_of_iff (7 <= G.length /\ G.Nodup /\ (∀ m ∈ ms, ∃ c ∈ G, markC c = m) /\ (∀ c ∈ G, markC c ∈ ms) /\ ∀ c ∈ G, c ∈ cs SIG) ⟨fun ⟨a, b, c, d, e⟩ => ⟨a, b, c, d, e⟩, fun ⟨a, b, c, d, e⟩ => ⟨a, b, c, d, e⟩⟩
def selM (a b c d : Bool) : List Str := (if a then [("figure" : Str)] else []) ++ ((if b then [("great" : Str)] else []) ++ ((if c then [("other" : Str)] else []) ++ (if d then [("small" : Str)] else [])))
theorem sub_cons {x : Str} {l ms : List Str} (h : ms.Sublist (x :: l)) : ∃ (a : Bool) (ms' : List Str), ms'.Sublist l /\ ms = (if a then [x] else []) ++ ms' := by
 cases h with
 | cons _ h => exact ⟨false, _, h, rfl⟩
 | cons_cons _ h => exact ⟨true, _, h, rfl⟩
theorem sub_mk {ms : List Str} (h : ms.Sublist MK) : ∃ a b c d, ms = selM a b c d := by
 obtain ⟨a, m1, h1, e1⟩ := sub_cons h
 obtain ⟨b, m2, h2, e2⟩ := sub_cons h1
 obtain ⟨c, m3, h3, e3⟩ := sub_cons h2
 obtain ⟨d, m4, h4, e4⟩ := sub_cons h3
 have e5 := List.sublist_nil.mp h4
 exact ⟨a, b, c, d, by rw [e1, e2, e3, e4, e5]; unfold selM; rw [List.append_nil]⟩
theorem signs_ok {ms : List Str} (h1 : ms.Sublist MK) (h2 : ms ≠ []) : Signs ms (sgM ms) /\ Signs ms (goodM ms) /\ (sgM ms).length <= 10 := by
 obtain ⟨a, b, c, d, rfl⟩ := sub_mk h1
 revert h2
 cases a <;> cases b <;> cases c <;> cases d <;> intro h2 <;> first | exact absurd rfl h2 | decide +kernel
def textsW : Wd -> List Str
 | .few ss => ss
 | .make hd lo hi ms => ((sgM ms).map fun c => hd ++ repC c hi) ++ (if lo < hi then [hd ++ repC ((sgM ms).headD 0) lo] else [])
def witW : Wd -> List Str
 | .few ss => ss
 | .make hd lo hi ms => (((goodM ms).map fun c => hd ++ repC c (if lo > 1 then lo else 1)) ++ (if lo = 0 then [hd] else [])) ++ [hd ++ repC ((goodM ms).headD 0) hi]
theorem head_in {G : List Nat} (h : 7 <= G.length) : G.headD 0 ∈ G := by
 cases G with
 | nil => simp at h
 | cons c G => exact List.mem_cons_self
theorem let_rep {hd : Str} {lo hi n : Int} {ms : List Str} {G : List Nat} (S : Signs ms G) (shd : Sg hd) (hl : hd.length <= 50) {c : Nat} (hc : c ∈ G) (h0 : 0 <= n) (h1 : lo <= n) (h2 : n <= hi) (h3 : hi <= 100) :
  letW (.make hd lo hi ms) (hd ++ repC c n) = true /\ Sg (hd ++ repC c n) /\ (hd ++ repC c n).length <= 200 := by
 refine ⟨letW_make.mpr ⟨_, by rw [WordM.app, cs_rep], ?_, ?_, fun d hd => ?_⟩, shd.app (sg_rep (S.sg c hc) n), ?_⟩
 ·rw [List.length_replicate]; omega
 ·rw [List.length_replicate]; omega
 ·rw [(List.mem_replicate.mp hd).2]; exact S.mine c hc
 ·rw [WordM.len, WordM.app, List.length_append, <- WordM.len, <- WordM.len, rep_len]; omega
theorem texts_show : ∀ {W : Wd}, WdOk W -> Shows W (textsW W)
 | .few ss, h => shows_few h
 | .make hd lo hi ms, ⟨⟨shd, hl⟩, lo0, lohi, hi1, hi62, b1, b2⟩ => by
  obtain ⟨S, _, _⟩ := signs_ok b1 b2
  have m1 : ∀ g ∈ sgM ms, hd ++ repC g hi ∈ textsW (.make hd lo hi ms) := fun g hg => List.mem_append_left _ (List.mem_map.mpr ⟨g, hg, rfl⟩)
  refine shows_make ⟨⟨hi.toNat, sgM ms, by omega, S.many, S.nd, S.cov, fun g hg => ?_⟩, ?_, ?_⟩ fun t ht => ?_
  ·exact List.mem_map.mpr ⟨_, m1 g hg, by rw [WordM.app, cs_rep]⟩
  ·by_cases h : lo < hi
   ·refine ⟨List.replicate lo.toNat ((sgM ms).headD 0), by rw [List.length_replicate]; omega, List.mem_map.mpr ⟨hd ++ repC ((sgM ms).headD 0) lo, ?_, by rw [WordM.app, cs_rep]⟩⟩
    show _ ∈ _ ++ (if lo < hi then _ else _)
    rw [if_pos h]
    exact List.mem_append_right _ List.mem_cons_self
   ·exact ⟨List.replicate hi.toNat ((sgM ms).headD 0), by rw [List.length_replicate]; omega, List.mem_map.mpr ⟨_, m1 _ (head_in S.many), by rw [WordM.app, cs_rep]⟩⟩
  ·exact ⟨List.replicate hi.toNat ((sgM ms).headD 0), by rw [List.length_replicate]; omega, List.mem_map.mpr ⟨_, m1 _ (head_in S.many), by rw [WordM.app, cs_rep]⟩⟩
  ·have ht : t ∈ ((sgM ms).map fun c => hd ++ repC c hi) ++ (if lo < hi then [hd ++ repC ((sgM ms).headD 0) lo] else []) := ht
   rcases List.mem_append.mp ht with z | z
   ·obtain ⟨c, hc, rfl⟩ := List.mem_map.mp z
    exact let_rep S shd hl hc (by omega) lohi (by omega) hi62
   ·split at z
    ·have : t = hd ++ repC ((sgM ms).headD 0) lo := by simpa using z
     subst this
     exact let_rep S shd hl (head_in S.many) lo0 (by omega) lohi hi62
    ·simp at z
theorem wit_show : ∀ {W : Wd}, WdOk W -> Shows W (witW W)
 | .few ss, h => shows_few h
 | .make hd lo hi ms, ⟨⟨shd, hl⟩, lo0, lohi, hi1, hi62, b1, b2⟩ => by
  obtain ⟨_, S, _⟩ := signs_ok b1 b2
  have m1 : ∀ g ∈ goodM ms, hd ++ repC g (if lo > 1 then lo else 1) ∈ witW (.make hd lo hi ms) := fun g hg => List.mem_append_left _ (List.mem_append_left _ (List.mem_map.mpr ⟨g, hg, rfl⟩))
  have m3 : hd ++ repC ((goodM ms).headD 0) hi ∈ witW (.make hd lo hi ms) := List.mem_append_right _ List.mem_cons_self
  refine shows_make ⟨⟨(if lo > 1 then lo else 1).toNat, goodM ms, by split <;> omega, S.many, S.nd, S.cov, fun g hg => ?_⟩, ?_, ?_⟩ fun t ht => ?_
  ·exact List.mem_map.mpr ⟨_, m1 g hg, by rw [WordM.app, cs_rep]⟩
  ·by_cases h : lo = 0
   ·refine ⟨[], by rw [h]; exact Int.le_refl _, List.mem_map.mpr ⟨hd, ?_, by rw [List.append_nil]⟩⟩
    refine List.mem_append_left _ (List.mem_append_right _ ?_)
    rw [if_pos h]
    exact List.mem_cons_self
   ·exact ⟨List.replicate (if lo > 1 then lo else 1).toNat ((goodM ms).headD 0), by rw [List.length_replicate]; split <;> omega, List.mem_map.mpr ⟨_, m1 _ (head_in S.many), by rw [WordM.app, cs_rep]⟩⟩
  ·exact ⟨List.replicate hi.toNat ((goodM ms).headD 0), by rw [List.length_replicate]; omega, List.mem_map.mpr ⟨_, m3, by rw [WordM.app, cs_rep]⟩⟩
  ·have ht : t ∈ (((goodM ms).map fun c => hd ++ repC c (if lo > 1 then lo else 1)) ++ (if lo = 0 then [hd] else [])) ++ [hd ++ repC ((goodM ms).headD 0) hi] := ht
   rcases List.mem_append.mp ht with z | z
   ·rcases List.mem_append.mp z with z | z
    ·obtain ⟨c, hc, rfl⟩ := List.mem_map.mp z
     exact let_rep S shd hl hc (by split <;> omega) (by split <;> omega) (by split <;> omega) hi62
    ·split at z
     ·rename_i h
      have : t = hd := by simpa using z
      subst this
      exact ⟨letW_make.mpr ⟨[], by simp, by rw [h]; exact Int.le_refl _, by show (0 : Int) <= hi; omega, fun c hc => nomatch hc⟩, shd, by omega⟩
     ·simp at z
   ·have : t = hd ++ repC ((goodM ms).headD 0) hi := by simpa using z
    subst this
    exact let_rep S shd hl (head_in S.many) (by omega) lohi (by omega) hi62
end
end My
namespace My
open PySem L2 PyProof.Rows WordM
section
variable {P : Program} {w : World} {K : PySem.W.Frag} {mg : Str -> Option Value} {base : Heap}
variable {n : Nat}
theorem sifIn {c : Nat} {S : Str} {A B : Prop} (h1 : c ∈ cs S -> A) (h2 : c ∉ cs S -> B) : if (false != inS ⟨#[c]⟩ S) = true then A else B := by
 have : (false != inS ⟨#[c]⟩ S) = decide (c ∈ cs S) := by unfold inS; rw [StrLaws.found_one]; simp
 rw [this]
 exact sifd h1 h2
def ptMark : PSp := fun as R => ∃ c : Nat, as = [.va (sT ⟨#[c]⟩)] /\ R (sT (markC c))
theorem C16_ : FnScope ["_law_sign"] ["_law_sign"] (defScope s16_) := fsc (by decide +kernel)
theorem g16_ (h : Has K mg "_law_mark" s16_) (B : Own mg)    : PGood P w K mg base 1 "_law_mark" ["_law_sign"] ptMark := by
 have nd := C16_.nd
 refine h.pgood C16_ (fun|_,_,_,_,_,_,[_],_=>rfl) (fun f cdv A outer s H E F hr =>
   (us_cons (us_if (ub_cp (pu_in hr.units) (ue_var 0) ue_str rfl)
    (us_one (us_ret ue_str))
    us_nil)
   (us_cons (us_if (ub_cp (pu_in hr.units) (ue_var 0) ue_str rfl)
    (us_one (us_ret ue_str))
    us_nil)
   (us_cons (us_if (ub_cp (pu_in hr.units) (ue_var 0) ue_str rfl)
    (us_one (us_ret ue_str))
    us_nil)
   (us_one (us_ret ue_str)))))) (fun as R q => ?_)
 obtain ⟨c, rfl, q⟩ := q
 unfold markC at q
 refine ⟨rfl, _, rfl, sifIn (fun a => ?_) (fun a => ⟨_, rfl, sifIn (fun b => ?_) (fun b => ⟨_, rfl, sifIn (fun d => ?_) (fun d => ?_)⟩)⟩)⟩
 ·rw [if_pos (show c ∈ cs sFig from a)] at q; exact q
 ·rw [if_neg (show c ∉ cs sFig from a), if_pos (show c ∈ cs sGreat from b)] at q; exact q
 ·rw [if_neg (show c ∉ cs sFig from a), if_neg (show c ∉ cs sGreat from b), if_pos (show c ∈ cs sSmall from d)] at q; exact q
 ·rw [if_neg (show c ∉ cs sFig from a), if_neg (show c ∉ cs sGreat from b), if_neg (show c ∉ cs sSmall from d)] at q; exact q
end
section
variable {P : Program} {w : World} {K : PySem.W.Frag} {mg : Str -> Option Value} {base : Heap}
variable {n : Nat}
def ptWit : PSp := fun as R => ∃ W : Wd, as = [.va (encW W)] /\ WdOk W /\ R (.seq false ((witW W).map sT))
theorem C21_ : FnScope ["_law_words_here", "_law_good", "_law_found"] ["_law_words_here"] (defScope s21_) := fsc (by decide +kernel)
theorem g21_ (h : Has K mg "_law_witness" s21_) (B : Own mg) (G13_ : PGood P w K mg base 1 "_law_signs" [] ptSigns) (G16_ : PGood P w K mg base 1 "_law_mark" ["_law_sign"] ptMark)   : PGood P w K mg base 2 "_law_witness" ["_law_words_here"] ptWit := by
 have nd := C21_.nd
 refine h.pgood C21_ (fun|_,_,_,_,_,_,[_],_=>rfl) (fun f cdv A outer s H E F hr =>
   (us_cons (us_if (ub_q hr (ue_x hr (ue_var 0) ue_int) ue_str)
    (us_one (us_ret (ue_ul (ul_callTy pu_listOf rfl B.list_ boot_list (ua_c (ue_x hr (ue_var 0) ue_int) ua_nil)))))
    us_nil)
   (us_cons (us_c1 (sc := defScope s21_) (XN := ["_law_words_here", "_law_good", "_law_found"]) (N := ["_law_sign", "_law_words_here"]) (fr := [0]) 1 nd (ui_val (ue_fn0 G13_ (hr.mono (by omega)) rfl)) (fun _ _ _ _ _ => (uf_one (ub_cp (pu_in hr.units) (ue_fm G16_ hr (ua_c (ue_var 0) ua_nil)) (ue_x hr (ue_var 1) ue_int) rfl))) (fun _ _ _ _ _ => (ue_var 0)))
   (us_cons (us_ownc (i := 2) (sc := defScope s21_) (XN := ["_law_words_here", "_law_good", "_law_found"]) (N := ["_law_sign", "_law_words_here"]) (own := 1) (fr := [0]) rfl nd rfl (.inl rfl) ⟨rfl, by decide +kernel, by decide +kernel, by decide +kernel, rfl, by decide +kernel, by decide, by decide +kernel⟩ (by decide) (ui_val (ue_var 1)) (fun _ _ _ _ _ => (ug_name 0 (by decide) (show (["_law_sign", "_law_words_here"] : List Str).Nodup by decide +kernel) rfl (by first | exact Or.inl rfl | exact Or.inr rfl))) (fun _ _ _ _ _ => uf_nil) (fun _ _ _ _ _ => (ue_op pu_add (ue_x hr (ue_var 1) ue_int) (ue_op pu_mul2 (ue_var 0) (ue_callB (pu_max rfl) rfl B.max boot_max (ua_c ue_int (ua_c (ue_x hr (ue_var 1) ue_int) ua_nil)))))))
   (us_cons (us_if (ub_q hr (ue_x hr (ue_var 0) ue_int) ue_int)
    (us_one (us_expr (ue_append 2 (ue_x hr (ue_var 0) ue_int))))
    us_nil)
   (us_one (us_ret (ue_op pu_add (ue_var 2) (ue_ul (ul_lst (ua_c (ue_op pu_add (ue_x hr (ue_var 0) ue_int) (ue_op pu_mul2 (ue_x hr (ue_var 1) ue_int) (ue_x hr (ue_var 0) ue_int))) ua_nil))))))))))) (fun as R q => ?_)
 obtain ⟨W, rfl, ok, q⟩ := q
 cases W with
 | few ss => exact ⟨rfl, _, rfl, _, rfl, sifS (fun _ => ⟨_, rfl, _, _, rfl, q⟩) (fun h => absurd rfl h)⟩
 | make hd lo hi ms =>
  obtain ⟨⟨shd, hl⟩, lo0, lohi, hi1, hi2, sub, ne⟩ := ok
  obtain ⟨_, S, _⟩ := signs_ok sub ne
  refine ⟨rfl, _, rfl, _, rfl, sifS (fun h => absurd h (by decide +kernel)) (fun _ => ?_)⟩
  have l94 : SIG.cps.toList.length = 94 := (WordM.len SIG).symm.trans sig_len
  refine ⟨rfl, by rw [List.length_map, l94]; decide, compT_ofm (fun c : Nat => sT ⟨#[c]⟩) (fun c => if markC c ∈ ms then some (sT ⟨#[c]⟩) else none) (fun c hc R q => ?_) ?_⟩
  ·refine ⟨c, rfl, _, rfl, inok_str, _, rfl, ?_⟩
   rw [any_str]
   refine sif (fun z => ?_) (fun z => ?_)
   ·have z : markC c ∈ ms := by simpa using z
    rw [if_pos z] at q; exact q
   ·have z : markC c ∉ ms := by simpa using z
    rw [if_neg z] at q; exact q
  have eg : (SIG.cps.toList.filterMap fun c => if markC c ∈ ms then some (sT ⟨#[c]⟩) else none) = (goodM ms).map fun c => sT ⟨#[c]⟩ := by
   unfold goodM
   show (cs SIG).filterMap _ = _
   induction cs SIG with
   | nil => rfl
   | cons a l ih =>
    rw [List.filterMap_cons, List.filter_cons, ih]
    by_cases z : markC a ∈ ms
    ·simp [z]
    ·simp [z]
  have gl : (goodM ms).length <= 94 := by
   refine Nat.le_trans (List.length_filter_le _ _) ?_
   show SIG.cps.toList.length <= 94
   omega
  show PEnds.nx _ _
  rw [eg]
  let W : Tv := encW (.make hd lo hi ms)
  refine nxE (ρ' := [.va W, .va (.seq false ((goodM ms).map fun c => sT ⟨#[c]⟩)), .no]) rfl ?_
  refine ⟨by rw [List.length_map]; omega, compT_of (fun c : Nat => sT ⟨#[c]⟩) (fun c => sT (hd ++ repC c (if lo > 1 then lo else 1))) (fun c hc R q => ?_) ?_⟩
  ·refine ⟨_, rfl, _, rfl, .inl ⟨_, _, rfl, ⟨by show 1 <= 1000; decide, by omega, by omega⟩, ?_⟩⟩
   rw [show max 1 lo = (if lo > 1 then lo else 1) by split <;> omega]
   exact ⟨by rw [show ∀ n, repS ⟨#[c]⟩ n = repC c n from fun _ => rfl, rep_len]; split <;> omega, q⟩
  have T0 : (goodM ms).map (fun c => sT (hd ++ repC c (if lo > 1 then lo else 1))) = ((goodM ms).map fun c => hd ++ repC c (if lo > 1 then lo else 1)).map sT := by rw [List.map_map]; rfl
  rw [T0]
  have q : R (.seq false (((((goodM ms).map fun c => hd ++ repC c (if lo > 1 then lo else 1)) ++ (if lo = 0 then [hd] else [])) ++ [hd ++ repC ((goodM ms).headD 0) hi]).map sT)) := q
  have l0 : ((goodM ms).map fun c => hd ++ repC c (if lo > 1 then lo else 1)).length <= 94 := by rw [List.length_map]; exact gl
  generalize ((goodM ms).map fun c => hd ++ repC c (if lo > 1 then lo else 1)) = L at q l0
  have g0 : atI ((goodM ms).map fun c => sT ⟨#[c]⟩) 0 = some (sT ⟨#[(goodM ms).headD 0]⟩) := by
   have := head_in S.many
   cases hq : goodM ms with
   | nil => rw [hq] at this; cases this
   | cons x y => exact atI_nat (j := 0) rfl
  show PEnds.nx _ _
  refine nxE (ρ' := [.va W, .va (.seq false ((goodM ms).map fun c => sT ⟨#[c]⟩)), .own (L.map sT)]) rfl ?_
  have fin : ∀ M : List Str, M.length <= 95 -> R (.seq false ((M ++ [hd ++ repC ((goodM ms).headD 0) hi]).map sT)) -> sRet (uOp pAdd (uVar 2) (uL (uLst (uCons (uOp pAdd (uOp pIx (uVar 0) (uC (iT 1))) (uOp pMul2 (uOp pIx (uVar 1) (uC (iT 0))) (uOp pIx (uVar 0) (uC (iT 3))))) uNil)))) { nx := fun x => R nT, rt := R } [.va W, .va (.seq false ((goodM ms).map fun c => sT ⟨#[c]⟩)), .own (M.map sT)] := fun M hM q => by
   rw [List.map_append] at q
   exact ⟨_, rfl, _, g0, _, rfl, ⟨by show 1 <= 1000; decide, by omega, by omega⟩, by rw [show ∀ c n, repS ⟨#[c]⟩ n = repC c n from fun _ _ => rfl, rep_len]; omega, by simp, by rw [List.length_map]; show M.length + 1 <= _; omega, q⟩
  refine ⟨_, rfl, _, rfl, sifI (fun z => ?_) (fun z => ?_)⟩
  ·rw [if_pos z] at q
   refine ⟨⟨_, rfl⟩, _, rfl, _, rfl, by rw [List.length_map]; omega, ?_⟩
   rw [show L.map sT ++ [sT hd] = (L ++ [hd]).map sT by rw [List.map_append]; rfl]
   exact fin (L ++ [hd]) (by rw [List.length_append]; show _ + 1 <= 95; omega) q
  ·rw [if_neg z, List.append_nil] at q
   exact fin L (by omega) q
end
end My
namespace My
open PySem L2 PyProof.Rows WordM
section
variable {P : Program} {w : World} {K : PySem.W.Frag} {mg : Str -> Option Value} {base : Heap}
open WordM ShowM
theorem rise_set {ss : List Str} (h : rise ss) : sortS (setL ss) = ss := rise_ext' (sort_set_rise _) h fun x => sort_set_mem
theorem set_len {ss : List Str} (h : rise ss) : (setL ss).length = ss.length := by
 have := congrArg List.length (rise_set h)
 rwa [(sortS_perm _).length_eq] at this
theorem mks_rise {ms : List Str} (h : ms.Sublist MK) : rise ms := List.Pairwise.sublist h mk_rise
theorem texts_mof {hd : Str} {lo hi : Int} {ms : List Str} (ok : WdOk (.make hd lo hi ms)) : 7 <= (setL (textsW (.make hd lo hi ms))).length /\ MOf (textsW (.make hd lo hi ms)) hd lo hi ms := by
 have sh := texts_show ok
 obtain ⟨⟨shd, hl⟩, lo0, lohi, hi1, hi62, b1, b2⟩ := ok
 obtain ⟨S, _, _⟩ := signs_ok b1 b2
 have m1 : ∀ g ∈ sgM ms, hd ++ repC g hi ∈ textsW (.make hd lo hi ms) := fun g hg => List.mem_append_left _ (List.mem_map.mpr ⟨g, hg, rfl⟩)
 have inj : ∀ c d : Nat, hd ++ repC c hi = hd ++ repC d hi -> c = d := fun c d e => by
  have e := congrArg cs e
  rw [WordM.app, WordM.app, cs_rep, cs_rep] at e
  have e := List.append_cancel_left e
  obtain ⟨k, ek⟩ : ∃ k, hi.toNat = k + 1 := ⟨hi.toNat - 1, by omega⟩
  rw [ek, List.replicate_succ, List.replicate_succ] at e
  injection e
 have len : ∀ t ∈ textsW (.make hd lo hi ms), ∃ r, cs t = cs hd ++ r /\ lo <= (r.length : Int) /\ (r.length : Int) <= hi /\ ∀ c ∈ r, markC c ∈ ms := fun t ht => letW_make.mp (sh.1 t ht).1
 have dl : ∀ {t : Str} {r : List Nat}, cs t = cs hd ++ r -> (t.length : Int) - (hd.length : Int) = r.length := fun {t r} e => by
  rw [WordM.len t, WordM.len hd, e, List.length_append]; push_cast; omega
 have mlo : ∃ t ∈ textsW (.make hd lo hi ms), (t.length : Int) - (hd.length : Int) = lo := by
  by_cases z : lo < hi
  ·refine ⟨hd ++ repC ((sgM ms).headD 0) lo, ?_, ?_⟩
   ·show _ ∈ _ ++ (if lo < hi then _ else _)
    rw [if_pos z]
    exact List.mem_append_right _ (.head _)
   ·rw [dl (WordM.app _ _), cs_rep, List.length_replicate]; omega
  ·refine ⟨_, m1 _ (head_in S.many), ?_⟩
   rw [dl (WordM.app _ _), cs_rep, List.length_replicate]; omega
 have mhi : ∃ t ∈ textsW (.make hd lo hi ms), (t.length : Int) - (hd.length : Int) = hi := ⟨_, m1 _ (head_in S.many), by rw [dl (WordM.app _ _), cs_rep, List.length_replicate]; omega⟩
 refine ⟨?_, ⟨fun t ht => ?_, fun k hk => ?_⟩, mlo, fun t ht => ?_, mhi, fun t ht => ?_, ?_⟩
 ·have nd : ((sgM ms).map fun c => hd ++ repC c hi).Nodup := by
   rw [List.nodup_iff_pairwise_ne, List.pairwise_map]
   exact (List.nodup_iff_pairwise_ne.mp S.nd).imp fun h e => h (inj _ _ e)
  have := WordM.nodup_len nd (m := setL (textsW (.make hd lo hi ms))) fun x hx => (setL_mem _ x).mpr (List.mem_append_left _ hx)
  rw [List.length_map] at this
  have := S.many
  omega
 ·obtain ⟨r, e, _⟩ := len t ht; exact ⟨r, e⟩
 ·have m7 := S.many
  have nd := S.nd
  match hG : sgM ms, m7 with
  | c :: d :: G, _ =>
   rw [hG] at nd m1
   have ne : c ≠ d := fun z => by subst z; exact (List.nodup_cons.mp nd).1 (.head _)
   obtain ⟨r1, e1⟩ := hk _ (m1 c (.head _))
   obtain ⟨r2, e2⟩ := hk _ (m1 d (.tail _ (.head _)))
   obtain ⟨n, en⟩ : ∃ n, hi.toNat = n + 1 := ⟨hi.toNat - 1, by omega⟩
   rw [WordM.app, cs_rep, en, List.replicate_succ] at e1 e2
   apply Nat.le_of_not_lt
   intro lt
   have g1 : (k ++ r1)[(cs hd).length]? = some c := by rw [<- e1]; simp
   have g2 : (k ++ r2)[(cs hd).length]? = some d := by rw [<- e2]; simp
   rw [List.getElem?_append_left lt] at g1 g2
   rw [g1] at g2
   exact ne (Option.some.inj g2)
  | [_], h => simp at h
  | [], h => simp at h
 ·obtain ⟨r, e, h1, h2, _⟩ := len t ht
  rw [dl e]; exact h1
 ·obtain ⟨r, e, h1, h2, _⟩ := len t ht
  rw [dl e]; exact h2
 ·refine rise_ext' (mks_rise b1) (marksOf_rise _ _) fun m => ?_
  rw [marksOf_mem]
  constructor
  ·intro hm
   obtain ⟨c, hc, e⟩ := S.cov m hm
   obtain ⟨n, en⟩ : ∃ n, hi.toNat = n + 1 := ⟨hi.toNat - 1, by omega⟩
   refine ⟨_, m1 c hc, c, ?_, e⟩
   rw [restW_of (WordM.app hd (repC c hi)), cs_rep, en, List.replicate_succ]
   exact .head _
  ·rintro ⟨t, ht, c, hc, rfl⟩
   obtain ⟨r, e, _, _, h3⟩ := len t ht
   rw [restW_of e] at hc
   exact h3 c hc
theorem rep_is : ∀ {W : Wd}, WdOk W -> wdOf (textsW W) = W
 | .few ss, h => by
  have hs := set_len h.2.2.1
  show wdOf ss = _
  unfold wdOf
  rw [if_pos (by rw [hs]; have := h.2.1; omega), rise_set h.2.2.1]
 | .make hd lo hi ms, h => by
  obtain ⟨h7, m⟩ := texts_mof h
  unfold wdOf
  rw [if_neg (by omega)]
  exact (mkOf_eq m).symm
theorem rep_ne {W : Wd} (h : WdOk W) : textsW W ≠ [] := fun z => by
 cases W with
 | few ss => have : ss = [] := z; have h1 := h.1; rw [this] at h1; simp at h1
 | make hd lo hi ms => have := (texts_mof h).2.ne; exact this z
theorem wd_lets {T : List Str} (hs : ∀ t ∈ T, Sg t) {t : Str} (ht : t ∈ T) : letW (wdOf T) t = true := by
 have ne : T ≠ [] := fun z => by rw [z] at ht; exact nomatch ht
 have w := wdOf_is ne
 generalize wdOf T = W at w
 cases W with
 | few ss => exact decide_eq_true (by rw [w.1]; exact sort_set_mem.mpr ht)
 | make hd lo hi ms =>
  obtain ⟨_, m⟩ := w
  obtain ⟨r, e⟩ := m.he.all t ht
  have el : (t.length : Int) - (hd.length : Int) = r.length := by rw [WordM.len t, WordM.len hd, e, List.length_append]; push_cast; omega
  have h1 := m.lo2 t ht
  have h2 := m.hi2 t ht
  refine letW_make.mpr ⟨r, e, by omega, by omega, fun c hc => ?_⟩
  rw [m.mks, marksOf_mem]
  exact ⟨t, ht, c, by rw [restW_of e]; exact hc, rfl⟩
theorem wd_more {T A : List Str} (ne : T ≠ []) (h : ∀ t ∈ A, letW (wdOf T) t = true) : wdOf (A ++ T) = wdOf T := by
 have w := wdOf_is ne
 have ne2 : A ++ T ≠ [] := fun z => ne (List.append_eq_nil_iff.mp z).2
 refine (wdOf_eq ne2 ?_).symm
 generalize wdOf T = W at w h
 cases W with
 | few ss =>
  refine w.same fun x => ⟨fun hx => List.mem_append_right _ hx, fun hx => ?_⟩
  rcases List.mem_append.mp hx with q | q
  ·have := of_decide_eq_true (h x q)
   rw [w.1] at this
   exact sort_set_mem.mp this
  ·exact q
 | make hd lo hi ms =>
  obtain ⟨h7, m⟩ := w
  have hA : ∀ t ∈ A, ∃ r, cs t = cs hd ++ r /\ (t.length : Int) - (hd.length : Int) = r.length /\ lo <= (r.length : Int) /\ (r.length : Int) <= hi /\ ∀ c ∈ r, markC c ∈ ms := fun t ht => by
   obtain ⟨r, e, a, b, c⟩ := letW_make.mp (h t ht)
   exact ⟨r, e, by rw [WordM.len t, WordM.len hd, e, List.length_append]; push_cast; omega, a, b, c⟩
  obtain ⟨t1, p1, q1⟩ := m.lo1
  obtain ⟨t2, p2, q2⟩ := m.hi1
  refine ⟨Nat.le_trans h7 (set_le fun x hx => List.mem_append_right _ hx), ⟨fun t ht => ?_, fun k hk => m.he.top k fun t ht => hk t (List.mem_append_right _ ht)⟩, ⟨t1, List.mem_append_right _ p1, q1⟩, fun t ht => ?_, ⟨t2, List.mem_append_right _ p2, q2⟩, fun t ht => ?_, ?_⟩
  ·rcases List.mem_append.mp ht with q | q
   ·obtain ⟨r, e, _⟩ := hA t q; exact ⟨r, e⟩
   ·exact m.he.all t q
  ·rcases List.mem_append.mp ht with q | q
   ·obtain ⟨r, e, el, a, b, _⟩ := hA t q; omega
   ·exact m.lo2 t q
  ·rcases List.mem_append.mp ht with q | q
   ·obtain ⟨r, e, el, a, b, _⟩ := hA t q; omega
   ·exact m.hi2 t q
  ·rw [m.mks]
   refine rise_ext' (marksOf_rise _ _) (marksOf_rise _ _) fun x => ?_
   rw [marksOf_mem, marksOf_mem]
   constructor
   ·rintro ⟨t, ht, z⟩; exact ⟨t, List.mem_append_right _ ht, z⟩
   ·rintro ⟨t, ht, c, hc, rfl⟩
    rcases List.mem_append.mp ht with q | q
    ·obtain ⟨r, e, el, a, b, k⟩ := hA t q
     rw [restW_of e] at hc
     have := k c hc
     rw [m.mks, marksOf_mem] at this
     exact this
    ·exact ⟨t, q, c, hc, rfl⟩
theorem head_sg {T : List Str} {hd : Str} (h : IsHead T hd) (ne : T ≠ []) (hs : ∀ t ∈ T, Sg t) : Sg hd := by
 obtain ⟨t, ht⟩ := List.exists_mem_of_ne_nil _ ne
 obtain ⟨r, e⟩ := h.all t ht
 exact fun c hc => hs t ht c (by rw [e]; exact List.mem_append_left _ hc)
end
end My
namespace My
open PySem L2 PyProof.Rows WordM
section
variable {P : Program} {w : World} {K : PySem.W.Frag} {mg : Str -> Option Value} {base : Heap}
theorem bits_marks {R : Tv -> Prop} (b : Int) (h1 : 1 <= b) (h2 : b <= 15) (q : ∀ ms : List Str, ms.Sublist MK -> ms ≠ [] -> R (.seq true (ms.map sT))) : R (.seq true ((List.range 4).filterMap fun (k : Nat) => if eqV (.int (Builtin.bitAnd (b / 2 ^ (0 + (k : Int)).toNat) 1)) (.int 1) = true then some (sT (MK.getD k "")) else none)) := by
 have : b = 1 \/ b = 2 \/ b = 3 \/ b = 4 \/ b = 5 \/ b = 6 \/ b = 7 \/ b = 8 \/ b = 9 \/ b = 10 \/ b = 11 \/ b = 12 \/ b = 13 \/ b = 14 \/ b = 15 := by omega
 rcases this with e | e | e | e | e | e | e | e | e | e | e | e | e | e | e <;> subst e
 ·exact q ["figure"] (by decide) (by decide)
 ·exact q ["great"] (by decide) (by decide)
 ·exact q ["figure", "great"] (by decide) (by decide)
 ·exact q ["other"] (by decide) (by decide)
 ·exact q ["figure", "other"] (by decide) (by decide)
 ·exact q ["great", "other"] (by decide) (by decide)
 ·exact q ["figure", "great", "other"] (by decide) (by decide)
 ·exact q ["small"] (by decide) (by decide)
 ·exact q ["figure", "small"] (by decide) (by decide)
 ·exact q ["great", "small"] (by decide) (by decide)
 ·exact q ["figure", "great", "small"] (by decide) (by decide)
 ·exact q ["other", "small"] (by decide) (by decide)
 ·exact q ["figure", "other", "small"] (by decide) (by decide)
 ·exact q ["great", "other", "small"] (by decide) (by decide)
 ·exact q ["figure", "great", "other", "small"] (by decide) (by decide)
def ptSomeM : PSp := fun as R => as = [.dk] /\ ∀ ms : List Str, ms.Sublist MK -> ms ≠ [] -> R (.seq true (ms.map sT))
theorem C17_ : FnScope ["_law_deck_here", "_law_bits", "_law_marks"] ["_law_deck_here"] (defScope s17_) := fsc (by decide +kernel)
theorem g17_ (h : Has K mg "_law_some_marks" s17_) (B : Own mg) (G12_ : PGood P w K mg base 2 "_law_take" ["_law_deck_here", "_law_most"] ptTake)   : PGood P w K mg base 3 "_law_some_marks" ["_law_deck_here"] ptSomeM := by
 have nd := C17_.nd
 refine h.pgood C17_ (fun|_,_,_,_,_,_,[_],_=>rfl) (fun f cdv A outer s H E F hr =>
   (us_cons (us_s 1 nd (ue_op pu_add ue_int (ue_fm G12_ hr (ua_dk 0 (ua_c ue_int ua_nil)))))
   (us_cons (us_s 2 nd (ue_ul (ul_lst (ua_c ue_str (ua_c ue_str (ua_c ue_str (ua_c ue_str ua_nil)))))))
   (us_one (us_ret (ue_callTy pu_tupOf rfl B.tuple_ boot_tuple (ua_c (ue_ul (ul_c1 (sc := defScope s17_) (XN := ["_law_deck_here", "_law_bits", "_law_marks"]) (N := ["_law_k", "_law_bits", "_law_marks"]) (fr := [1, 2]) (ui_range1 rfl B.range (ua_c ue_int ua_nil)) (fun _ _ _ _ _ => (uf_one (ub_q hr (ue_op pu_band (ue_op pu_shr (ue_var 1) (ue_var 0)) ue_int) ue_int))) (fun _ _ _ _ _ => (ue_x hr (ue_var 2) (ue_var 0))))) ua_nil))))))) (fun as R q => ?_)
 obtain ⟨rfl, q⟩ := q
 refine ⟨rfl, rfl, 15, rfl, by decide, big_of (by decide) (by decide), fun r r0 r1 => ?_⟩
 refine ⟨by simp, 4, rfl, by decide, by decide, by rw [rngT_len]; decide, ?_⟩
 refine compT_ofm (fun k : Nat => iT (0 + (k : Int))) (fun k => if eqV (.int (Builtin.bitAnd ((1 + r) / 2 ^ (0 + (k : Int)).toNat) 1)) (.int 1) = true then some (sT (MK.getD k "")) else none) (l := List.range 4) (fun k hk R q => ?_) ?_
 ·have hk := List.mem_range.mp hk
  refine ⟨by omega, _, rfl, ?_⟩
  cases d : eqV (.int (Builtin.bitAnd ((1 + r) / 2 ^ (0 + (k : Int)).toNat) 1)) (.int 1) with
  | true =>
   rw [d, if_pos rfl] at q
   have g : (MK.map sT)[k]? = some (sT (MK.getD k "")) := by
    match k, hk with
    | 0, _ => rfl
    | 1, _ => rfl
    | 2, _ => rfl
    | 3, _ => rfl
   rw [show (0 : Int) + (k : Int) = (k : Int) by omega]
   exact iteT ⟨_, atI_nat g, q⟩
  | false =>
   rw [d, if_neg Bool.false_ne_true] at q
   exact iteF q
 ·exact ⟨_, _, rfl, bits_marks (1 + r) (by omega) (by omega) q⟩
def WdN : Wd -> Prop
 | .few ss => WdOk (.few ss)
 | .make h a b ms => WdOk (.make h a b ms) /\ h.length + b <= 100
theorem WdN.ok : ∀ {W : Wd}, WdN W -> WdOk W
 | .few _, h => h
 | .make .., h => h.1
theorem few_ok {ss : List Str} (n : ss.Nodup) (l0 : ss ≠ []) (l6 : ss.length <= 6) (h : ∀ s ∈ ss, TxOk s) : WdOk (.few (sortS ss)) := by
 have := List.length_pos_iff.mpr l0
 exact ⟨by rw [sortS_len]; omega, by rw [sortS_len]; omega, sort_rise n, fun t ht => h t ((sortS_perm _).mem_iff.mp ht)⟩
theorem app_nd {hd : Str} {ss : List Str} (n : ss.Nodup) : (ss.map (hd ++ ·)).Nodup := by
 rw [List.nodup_iff_pairwise_ne, List.pairwise_map]
 refine (List.nodup_iff_pairwise_ne.mp n).imp fun h e => h (str_ext ?_)
 have := congrArg cs e
 rw [WordM.app, WordM.app] at this
 exact List.append_cancel_left this
def F23 : Wd -> Prop
 | .few ss => WdOk (.few ss) /\ ∀ t ∈ ss, t.length <= 36
 | .make h a b ms => WdOk (.make h a b ms) /\ h.length <= 30 /\ b <= 60
def ptWordsX : PSp := fun as R => as = [.dk] /\ ∀ W, WdN W -> F23 W -> R (encW W)
theorem C18_ : FnScope ["_law_deck_here", "_law_head", "_law_some", "_law_upper"] ["_law_deck_here"] (defScope s18_) := fsc (by decide +kernel)
theorem g18_ (h : Has K mg "_law_words" s18_) (B : Own mg) (G12_ : PGood P w K mg base 2 "_law_take" ["_law_deck_here", "_law_most"] ptTake) (G14_ : PGood P w K mg base 3 "_law_text" ["_law_deck_here", "_law_most"] ptText) (G15_ : PGood P w K mg base 4 "_law_unlike" ["_law_deck_here", "_law_many", "_law_most"] ptUnlike) (G17_ : PGood P w K mg base 3 "_law_some_marks" ["_law_deck_here"] ptSomeM)   : PGood P w K mg base 5 "_law_words" ["_law_deck_here"] ptWordsX := by
 have nd := C18_.nd
 refine h.pgood C18_ (fun|_,_,_,_,_,_,[_],_=>rfl) (fun f cdv A outer s H E F hr =>
   (us_cons (us_if (ub_q hr (ue_fm G12_ hr (ua_dk 0 (ua_c ue_int ua_nil))) ue_int)
    (us_cons (us_s 1 nd (ue_fm G14_ hr (ua_dk 0 (ua_c (ue_op pu_mul2 ue_int (ue_fm G12_ hr (ua_dk 0 (ua_c ue_int ua_nil)))) ua_nil))))
    (us_cons (us_s 2 nd (ue_fm G15_ hr (ua_dk 0 (ua_c (ue_op pu_add ue_int (ue_fm G12_ hr (ua_dk 0 (ua_c ue_int ua_nil)))) (ua_c (ue_x hr (ue_ul (ul_lst (ua_c ue_int (ua_c ue_int (ua_c ue_int (ua_c ue_int ua_nil)))))) (ue_fm G12_ hr (ua_dk 0 (ua_c ue_int ua_nil)))) ua_nil)))))
    (us_one (us_ret (ue_tup (ua_c ue_str (ua_c (ue_callTy pu_tupOf rfl B.tuple_ boot_tuple (ua_c (ue_ul (ul_callB (pu_sorted rfl) rfl B.sorted boot_sorted (ua_c (ue_ul (ul_c0 (sc := defScope s18_) (XN := ["_law_deck_here", "_law_head", "_law_some", "_law_upper"]) (N := ["_law_text_here", "_law_head"]) (fr := [1]) (ui_val (ue_var 2)) (fun _ _ _ _ _ => (ue_op pu_add (ue_var 1) (ue_var 0))))) ua_nil))) ua_nil)) ua_nil)))))))
    us_nil)
   (us_cons (us_s 1 nd (ue_fm G14_ hr (ua_dk 0 (ua_c (ue_x hr (ue_ul (ul_lst (ua_c ue_int (ua_c ue_int (ua_c ue_int (ua_c ue_int ua_nil)))))) (ue_fm G12_ hr (ua_dk 0 (ua_c ue_int ua_nil)))) ua_nil))))
   (us_cons (us_s 3 nd (ue_op pu_add ue_int (ue_fm G12_ hr (ua_dk 0 (ua_c (ue_x hr (ue_ul (ul_lst (ua_c ue_int (ua_c ue_int (ua_c ue_int (ua_c (ue_op pu_sub ue_int (ue_callB pu_len rfl B.len PySem.boot_len (ua_c (ue_var 1) ua_nil))) ua_nil)))))) (ue_fm G12_ hr (ua_dk 0 (ua_c ue_int ua_nil)))) ua_nil)))))
   (us_one (us_ret (ue_tup (ua_c ue_str (ua_c (ue_var 1) (ua_c (ue_fm G12_ hr (ua_dk 0 (ua_c (ue_op pu_add (ue_var 3) ue_int) ua_nil))) (ua_c (ue_var 3) (ua_c (ue_fm G17_ hr (ua_dk 0 ua_nil)) ua_nil)))))))))))) (fun as R q => ?_)
 obtain ⟨rfl, q⟩ := q
 refine ⟨rfl, rfl, 2, rfl, by decide, big_of (by decide) (by decide), fun r r0 r1 => ⟨_, rfl, sifI (fun e => ?_) (fun e => ?_)⟩⟩
 ·refine ⟨rfl, rfl, 2, rfl, by decide, big_of (by decide) (by decide), fun k k0 k1 => ⟨.inr ⟨big_of (by decide) (by decide), big_of (by omega) (by omega)⟩, 3 * k, rfl, by omega, by omega, fun hd sg hl => ?_⟩⟩
  refine ⟨rfl, rfl, 6, rfl, by decide, big_of (by decide) (by decide), fun a a0 a1 => ?_⟩
  refine ⟨by simp, rfl, 4, rfl, by decide, big_of (by decide) (by decide), fun b b0 b1 => ?_⟩
  obtain ⟨U, hU, hm⟩ := menu (l := [iT 2, iT 3, iT 1, iT 20]) b0 b1
  have : ∃ m : Int, U = iT m /\ 0 <= m /\ m <= 20 := by
   simp only [List.mem_cons, List.not_mem_nil, or_false] at hm
   rcases hm with rfl | rfl | rfl | rfl <;> exact ⟨_, rfl, by decide, by decide⟩
  obtain ⟨m, rfl, m0, m1⟩ := this
  refine ⟨_, hU, 1 + a, m, rfl, by omega, by omega, by omega, by omega, fun ss ls tx => ?_⟩
  have sl : ∀ s ∈ ss, s.length <= 20 := fun s hs => by have := (tx.2 s hs).2; split at this <;> omega
  refine ⟨by rw [List.length_map]; omega, compT_of sT (fun s => sT (hd ++ s)) (fun s hs R q => ⟨by have := sl s hs; omega, q⟩) ?_⟩
  have tl : ∀ s ∈ ss.map (hd ++ ·), Sg s /\ s.length <= 36 := fun s hs => by
   obtain ⟨z, hz, rfl⟩ := List.mem_map.mp hs
   have := sl z hz
   exact ⟨sg.app (tx.2 z hz).1, by rw [str_app_len]; omega⟩
  have ok := few_ok (ss := ss.map (hd ++ ·)) (app_nd tx.1) (fun z => by rw [List.map_eq_nil_iff] at z; rw [z] at ls; simp at ls; omega) (by rw [List.length_map]; omega) fun s hs => ⟨(tl s hs).1, Nat.le_trans (tl s hs).2 (by decide)⟩
  exact .inr (.inl ⟨ss.map (hd ++ ·), by rw [List.map_map]; rfl, by rw [List.length_map]; omega, ⟨false, _, rfl, by simp, q (.few (sortS (ss.map (hd ++ ·)))) ok ⟨ok, fun t ht => (tl t ((sortS_perm _).mem_iff.mp ht)).2⟩⟩⟩)
 ·refine ⟨rfl, by simp, rfl, 4, rfl, by decide, big_of (by decide) (by decide), fun b b0 b1 => ?_⟩
  obtain ⟨U, hU, hm⟩ := menu (l := [iT 0, iT 2, iT 3, iT 30]) b0 b1
  have : ∃ m : Int, U = iT m /\ 0 <= m /\ m <= 30 := by
   simp only [List.mem_cons, List.not_mem_nil, or_false] at hm
   rcases hm with rfl | rfl | rfl | rfl <;> exact ⟨_, rfl, by decide, by decide⟩
  obtain ⟨m, rfl, m0, m1⟩ := this
  refine ⟨_, hU, m, rfl, by omega, by omega, fun hd sg hl => ?_⟩
  refine ⟨rfl, by show hd.length <= _; omega, by simp, rfl, 4, rfl, by decide, big_of (by decide) (by decide), fun c c0 c1 => ?_⟩
  obtain ⟨V, hV, hn⟩ := menu (l := [iT 3, iT 3, iT 3, iT (60 - (hd.length : Nat))]) c0 c1
  have : ∃ u : Int, V = iT u /\ 0 < u /\ u <= 60 := by
   simp only [List.mem_cons, List.not_mem_nil, or_false] at hn
   rcases hn with rfl | rfl | rfl | rfl <;> exact ⟨_, rfl, by omega, by omega⟩
  obtain ⟨u, rfl, u0, u1⟩ := this
  refine ⟨_, hV, u, rfl, u0, big_of (by omega) (by omega), fun d d0 d1 => ?_⟩
  refine ⟨rfl, 1 + d + 1, rfl, by omega, big_of (by omega) (by omega), fun g g0 g1 => ⟨rfl, rfl, fun ms sub ne => ⟨by simp, q (.make hd g (1 + d) ms) ⟨⟨⟨sg, by omega⟩, g0, by omega, by omega, by omega, sub, ne⟩, by omega⟩ ⟨⟨⟨sg, by omega⟩, g0, by omega, by omega, by omega, sub, ne⟩, by omega, by omega⟩⟩⟩⟩
end
end My
namespace My
open PySem L2 PyProof.Rows WordM
section
variable {P : Program} {w : World} {K : PySem.W.Frag} {mg : Str -> Option Value} {base : Heap}
theorem seq_share {s t : UTs} {P : PEnds} {ρ : PEnv} {J : PEnv -> Prop} (rest : ∀ ρ', J ρ' -> t P ρ') (main : (∀ ρ', J ρ' -> t P ρ') -> sSeq s t P ρ) : sSeq s t P ρ := main rest
def ptNear23 : PSp := fun as R => ∃ W, as = [.dk, .va (encW W)] /\ F23 W /\ ∀ V, WdN V -> R (encW V)
theorem C19_ : FnScope ["_law_deck_here", "_law_words_here", "_law_way", "_law_at", "_law_some", "_law_head", "_law_more", "_law_upper", "_law_least"] ["_law_deck_here", "_law_words_here"] (defScope s19_) := fsc (by decide +kernel)
theorem g19_ (h : Has K mg "_law_near" s19_) (B : Own mg) (G12_ : PGood P w K mg base 2 "_law_take" ["_law_deck_here", "_law_most"] ptTake) (G18_ : PGood P w K mg base 5 "_law_words" ["_law_deck_here"] ptWordsX) (G15_ : PGood P w K mg base 4 "_law_unlike" ["_law_deck_here", "_law_many", "_law_most"] ptUnlike) (G17_ : PGood P w K mg base 3 "_law_some_marks" ["_law_deck_here"] ptSomeM) (G14_ : PGood P w K mg base 3 "_law_text" ["_law_deck_here", "_law_most"] ptText)   : PGood P w K mg base 6 "_law_near" ["_law_deck_here", "_law_words_here"] ptNear23 := by
 have nd := C19_.nd
 refine h.pgood C19_ (fun|_,_,_,_,_,_,[_,_],_=>rfl) (fun f cdv A outer s H E F hr =>
   (us_cons (us_s 2 nd (ue_fm G12_ hr (ua_dk 0 (ua_c ue_int ua_nil))))
   (us_cons (us_if (ub_q hr (ue_var 2) ue_int)
    (us_one (us_ret (ue_fm G18_ hr (ua_dk 0 ua_nil))))
    us_nil)
   (us_cons (us_if (ub_q hr (ue_x hr (ue_var 1) ue_int) ue_str)
    (us_cons (us_s 3 nd (ue_fm G12_ hr (ua_dk 0 (ua_c (ue_callB pu_len rfl B.len PySem.boot_len (ua_c (ue_x hr (ue_var 1) ue_int) ua_nil)) ua_nil))))
    (us_cons (us_s 4 nd (ue_op pu_add (ue_ul (ul_callTy pu_listOf rfl B.list_ boot_list (ua_c (ue_slice pu_sl (ue_x hr (ue_var 1) ue_int) (uo_some (ue_var 3)) uo_none) ua_nil))) (ue_fm G15_ hr (ua_dk 0 (ua_c (ue_x hr (ue_ul (ul_lst (ua_c ue_int (ua_c ue_int (ua_c ue_int (ua_c ue_int (ua_c ue_int ua_nil))))))) (ue_var 2)) (ua_c ue_int ua_nil))))))
    (us_cons (us_if (ub_cp pu_lt (ue_var 2) ue_int)
     (us_one (us_ret (ue_tup (ua_c ue_str (ua_c (ue_callTy pu_tupOf rfl B.tuple_ boot_tuple (ua_c (ue_slice pu_sl (ue_ul (ul_sortSet rfl rfl B.sorted rfl B.set_ (ue_var 4))) uo_none (uo_some ue_int)) ua_nil)) ua_nil)))))
     us_nil)
    (us_cons (us_s 5 nd (ue_slice pu_sl (ue_x hr (ue_x hr (ue_var 1) ue_int) (ue_var 3)) uo_none (uo_some (ue_fm G12_ hr (ua_dk 0 (ua_c ue_int ua_nil))))))
    (us_one (us_ret (ue_tup (ua_c ue_str (ua_c (ue_var 5) (ua_c (ue_fm G12_ hr (ua_dk 0 (ua_c ue_int ua_nil))) (ua_c (ue_op pu_add ue_int (ue_fm G12_ hr (ua_dk 0 (ua_c ue_int ua_nil)))) (ua_c (ue_fm G17_ hr (ua_dk 0 ua_nil)) ua_nil))))))))))))
    us_nil)
   (us_cons (us_s 5 nd (ue_x hr (ue_var 1) ue_int))
   (us_cons (us_if (ub_q hr (ue_var 2) ue_int)
    (us_one (us_s 5 nd (ue_slice pu_sl (ue_var 5) uo_none (uo_some (ue_fm G12_ hr (ua_dk 0 (ua_c (ue_op pu_add (ue_callB pu_len rfl B.len PySem.boot_len (ua_c (ue_var 5) ua_nil)) ue_int) ua_nil)))))))
    us_nil)
   (us_cons (us_if (ub_q hr (ue_var 2) ue_int)
    (us_one (us_s 5 nd (ue_slice pu_sl (ue_op pu_add (ue_var 5) (ue_fm G14_ hr (ua_dk 0 (ua_c ue_int ua_nil)))) uo_none (uo_some ue_int))))
    us_nil)
   (us_cons (us_if (ub_q hr (ue_var 2) ue_int)
    (us_cons (us_c1 (sc := defScope s19_) (XN := ["_law_deck_here", "_law_words_here", "_law_way", "_law_at", "_law_some", "_law_head", "_law_more", "_law_upper", "_law_least"]) (N := ["_law_text_here", "_law_head"]) (fr := [5]) 6 nd (ui_val (ue_fm G15_ hr (ua_dk 0 (ua_c (ue_op pu_add ue_int (ue_fm G12_ hr (ua_dk 0 (ua_c ue_int ua_nil)))) (ua_c ue_int ua_nil))))) (fun _ _ _ _ _ => uf_nil) (fun _ _ _ _ _ => (ue_op pu_add (ue_var 1) (ue_var 0))))
    (us_one (us_ret (ue_tup (ua_c ue_str (ua_c (ue_callTy pu_tupOf rfl B.tuple_ boot_tuple (ua_c (ue_ul (ul_callB (pu_sorted rfl) rfl B.sorted boot_sorted (ua_c (ue_var 6) ua_nil))) ua_nil)) ua_nil))))))
    us_nil)
   (us_cons (us_s 7 nd (ue_callB (pu_max rfl) rfl B.max boot_max (ua_c ue_int (ua_c (ue_callB (pu_min rfl) rfl B.min boot_min (ua_c (ue_op pu_sub ue_int (ue_callB pu_len rfl B.len PySem.boot_len (ua_c (ue_var 5) ua_nil))) (ua_c (ue_op pu_sub (ue_op pu_add (ue_x hr (ue_var 1) ue_int) (ue_fm G12_ hr (ua_dk 0 (ua_c ue_int ua_nil)))) ue_int) ua_nil))) ua_nil))))
   (us_cons (us_s 8 nd (ue_callB (pu_max rfl) rfl B.max boot_max (ua_c ue_int (ua_c (ue_callB (pu_min rfl) rfl B.min boot_min (ua_c (ue_var 7) (ua_c (ue_op pu_sub (ue_op pu_add (ue_x hr (ue_var 1) ue_int) (ue_fm G12_ hr (ua_dk 0 (ua_c ue_int ua_nil)))) ue_int) ua_nil))) ua_nil))))
   (us_one (us_ret (ue_tup (ua_c ue_str (ua_c (ue_var 5) (ua_c (ue_var 8) (ua_c (ue_var 7) (ua_c (ue_x hr (ue_ul (ul_lst (ua_c (ue_x hr (ue_var 1) ue_int) (ua_c (ue_fm G17_ hr (ua_dk 0 ua_nil)) ua_nil)))) (ue_fm G12_ hr (ua_dk 0 (ua_c ue_int ua_nil)))) ua_nil)))))))))))))))))) (fun as R q => ?_)
 obtain ⟨W, rfl, hW, q⟩ := q
 refine ⟨rfl, rfl, 5, rfl, by decide, big_of (by decide) (by decide), fun r r0 r1 => ⟨_, rfl, sifI (fun e => ⟨rfl, rfl, fun V hV _ => q V hV⟩) (fun e => ?_)⟩⟩
 cases W with
 | few ss =>
  obtain ⟨ok, l23⟩ := hW
  obtain ⟨l1, l6, ri, tx⟩ := ok
  refine ⟨_, rfl, _, rfl, sY ?_⟩
  refine ⟨rfl, _, rfl, ((ss.map sT).length : Int), rfl, by rw [List.length_map]; omega, by rw [List.length_map]; exact big_of (by omega) (by omega), fun k k0 k1 => ?_⟩
  rw [List.length_map] at k1
  show PEnds.nx _ _
  refine nxE (ρ' := [.dk, .va (encW (.few ss)), .va (iT r), .va (iT k), .no, .no, .no, .no, .no]) rfl ?_
  have ecut : cutT (ss.map sT) (some k) none = (ss.drop k.toNat).map sT := by
   unfold cutT
   obtain ⟨j, rfl⟩ : ∃ j : Nat, k = (j : Int) := ⟨k.toNat, by omega⟩
   rw [HT.sIx_none, HT.sIx_nat, List.length_map, Nat.min_eq_left (by omega), <- List.map_drop]
   exact List.take_of_length_le (by rw [List.length_map, List.length_drop]; omega)
  obtain ⟨U, hU, hm⟩ := menu (l := [iT 0, iT 1, iT 6, iT 1, iT 0]) (r := r) r0 (by show r < 5; omega)
  have : ∃ m : Int, U = iT m /\ 0 <= m /\ m <= 6 := by
   simp only [List.mem_cons, List.not_mem_nil, or_false] at hm
   rcases hm with rfl | rfl | rfl | rfl | rfl <;> exact ⟨_, rfl, by decide, by decide⟩
  obtain ⟨m, rfl, m0, m1⟩ := this
  have ld : (ss.drop k.toNat).length <= 6 := by rw [List.length_drop]; omega
  refine ⟨_, rfl, _, rfl, _, _, rfl, rfl, by simp, _, hU, m, 3, rfl, m0, by omega, by decide, by decide, fun us lu tu => ?_⟩
  rw [ecut]
  refine ⟨by rw [List.length_map, List.length_map]; omega, ?_⟩
  rw [<- List.map_append]
  show PEnds.nx _ _
  have hsome : ∀ s ∈ ss.drop k.toNat ++ us, TxOk s := fun s hs => by
   rcases List.mem_append.mp hs with z | z
   ·exact tx s (List.mem_of_mem_drop z)
   ·have := (tu.2 s z).2
    rw [if_neg (by decide)] at this
    exact ⟨(tu.2 s z).1, by omega⟩
  have nsome : ss.drop k.toNat ++ us ≠ [] := fun z => by
   have := congrArg List.length (List.append_eq_nil_iff.mp z).1
   rw [List.length_drop] at this
   simp at this
   omega
  have lsome : (ss.drop k.toNat ++ us).length <= 12 := by rw [List.length_append]; omega
  refine nxE (ρ' := [.dk, .va (encW (.few ss)), .va (iT r), .va (iT k), .va (.seq false ((ss.drop k.toNat ++ us).map sT)), .no, .no, .no, .no]) rfl ?_
  generalize ss.drop k.toNat ++ us = so at hsome nsome lsome
  refine ⟨_, rfl, sifd (fun z => ?_) (fun z => ?_)⟩
  ·have e6 : cutT ((sortS (setL so)).map sT) none (some 6) = ((sortS (setL so)).take 6).map sT := by
    unfold cutT
    rw [show HT.sIx ((sortS (setL so)).map sT).length 0 none = 0 from rfl, List.drop_zero, Nat.sub_zero, show (some (6 : Int)) = some ((6 : Nat) : Int) from rfl, HT.sIx_nat, <- List.map_take]
    congr 1
    rw [List.length_map]
    exact List.take_eq_take_iff.mpr (by omega)
   have lp := List.length_pos_iff.mpr (sort_ne nsome)
   have sl : (setL so).length <= so.length := WordM.nodup_len (setL_nd so) fun x hx => (setL_mem so x).mp hx
   have q2 : R (.seq true [sT "few", .seq true (((sortS (setL so)).take 6).map sT)]) := q (.few ((sortS (setL so)).take 6)) ⟨by rw [List.length_take]; omega, by rw [List.length_take]; omega, List.Pairwise.sublist (List.take_sublist _ _) (sort_set_rise so), fun t ht => hsome t (sort_set_mem.mp (List.mem_of_mem_take ht))⟩
   rw [<- e6] at q2
   exact ⟨so, rfl, by omega, by omega, _, rfl, _, _, rfl, by simp, q2⟩
  ·obtain ⟨j, rfl⟩ : ∃ j : Nat, k = (j : Int) := ⟨k.toNat, by omega⟩
   have ej : ss[j]? = some (ss[j]'(by omega)) := List.getElem?_eq_getElem _
   have es : atI (ss.map sT) (j : Int) = some (sT (ss[j]'(by omega))) := atI_nat (by rw [List.getElem?_map, ej]; rfl)
   have hs := List.getElem_mem (l := ss) (n := j) (by omega)
   generalize ss[j]'(by omega) = s at ej es hs
   have h23 := l23 s hs
   refine ⟨_, rfl, _, es, rfl, 4, rfl, by decide, big_of (by decide) (by decide), fun d d0 d1 => ⟨d, rfl, by show s.length <= _; omega, ?_⟩⟩
   show PEnds.nx _ _
   refine nxE (ρ' := [.dk, .va (encW (.few ss)), .va (iT r), .va (iT j), .va (.seq false (so.map sT)), .va (sT (Txt.slice s none (some d))), .no, .no, .no]) rfl ?_
   have lh : (Txt.slice s none (some d)).length <= 36 := Nat.le_trans (WordM.slice_len ..) h23
   refine ⟨rfl, 2, rfl, by decide, big_of (by decide) (by decide), fun g g0 g1 => ⟨rfl, 20, rfl, by decide, big_of (by decide) (by decide), fun u u0 u1 => ⟨rfl, rfl, fun ms sub ne => ⟨by simp, q (.make (Txt.slice s none (some d)) g (2 + u) ms) ⟨⟨⟨(tx s hs).1.slice _ _, by omega⟩, g0, by omega, by omega, by omega, sub, ne⟩, by omega⟩⟩⟩⟩⟩
 | make h a b ms =>
  obtain ⟨⟨⟨sh, lh⟩, a0, ab, b1, b100, sub, ne⟩, h23, b23⟩ := hW
  refine ⟨_, rfl, _, rfl, sN (by decide +kernel) ?_⟩
  show PEnds.nx _ _
  refine nxE (ρ' := [.dk, .va (encW (.make h a b ms)), .va (iT r), .no, .no, .no, .no, .no, .no]) rfl ?_
  refine ⟨_, rfl, ?_⟩
  show PEnds.nx _ _
  refine nxE (ρ' := [.dk, .va (encW (.make h a b ms)), .va (iT r), .no, .no, .va (sT h), .no, .no, .no]) rfl ?_
  dsimp only
  refine seq_share (J := fun ρ' => ∃ g : Str, (Sg g /\ g.length <= 30) /\ ρ' = [.dk, .va (encW (.make h a b ms)), .va (iT r), .no, .no, .va (sT g), .no, .no, .no]) ?rest (fun rest => ?main)
  case main =>
   refine ⟨_, rfl, sifI (fun z => ?_) (fun z => rest _ ⟨h, ⟨sh, h23⟩, rfl⟩)⟩
   refine ⟨rfl, by show h.length <= _; omega, ((h.length : Nat) : Int) + 1, rfl, by omega, big_of (by omega) (by omega), fun d d0 d1 => ⟨d, rfl, by show h.length <= _; omega, rest _ ⟨Txt.slice h none (some d), ⟨sh.slice _ _, Nat.le_trans (WordM.slice_len ..) h23⟩, rfl⟩⟩⟩
  case rest =>
   rintro _ ⟨g, ⟨sg, lg⟩, rfl⟩
   refine seq_share (J := fun ρ' => ∃ g : Str, (Sg g /\ g.length <= 32) /\ ρ' = [.dk, .va (encW (.make h a b ms)), .va (iT r), .no, .no, .va (sT g), .no, .no, .no]) ?rest2 (fun rest => ?main2)
   case main2 =>
    refine ⟨_, rfl, sifI (fun z => ?_) (fun z => rest _ ⟨g, ⟨sg, by omega⟩, rfl⟩)⟩
    refine ⟨rfl, 2, rfl, by decide, by decide, fun x sx lx => ⟨by show g.length + x.length <= _; omega, _, rfl, by show (g ++ x).length <= _; rw [str_app_len]; omega, rest _ ⟨Txt.slice (g ++ x) none (some 50), ⟨(sg.app sx).slice _ _, ?_⟩, rfl⟩⟩⟩
    refine Nat.le_trans (WordM.slice_len ..) ?_
    rw [str_app_len]; omega
   case rest2 =>
    rintro _ ⟨g, ⟨sg, lg⟩, rfl⟩
    refine ⟨_, rfl, sifI (fun z => ?_) (fun z => ?_)⟩
    ·refine ⟨rfl, rfl, 6, rfl, by decide, big_of (by decide) (by decide), fun c c0 c1 => ⟨1 + c, 3, rfl, by omega, by omega, by decide, by decide, fun ss ls tx => ?_⟩⟩
     have sl : ∀ s ∈ ss, s.length <= 3 := fun s hs => by have := (tx.2 s hs).2; rw [if_neg (by decide)] at this; omega
     refine ⟨by rw [List.length_map]; omega, compT_of sT (fun s => sT (g ++ s)) (fun s hs R q => ⟨by have := sl s hs; show g.length + s.length <= _; omega, q⟩) ?_⟩
     refine .inr (.inl ⟨ss.map (g ++ ·), by rw [List.map_map]; rfl, by rw [List.length_map]; omega, ⟨false, _, rfl, by simp, q (.few (sortS (ss.map (g ++ ·)))) (few_ok (app_nd tx.1) (fun z => by rw [List.map_eq_nil_iff] at z; rw [z] at ls; simp at ls; omega) (by rw [List.length_map]; omega) fun s hs => ?_)⟩⟩)
     obtain ⟨z, hz, rfl⟩ := List.mem_map.mp hs
     have := sl z hz
     exact ⟨sg.app (tx.2 z hz).1, by show (g ++ z).length <= 50; rw [str_app_len]; omega⟩
    ·refine ⟨by show g.length <= _; omega, _, rfl, rfl, 4, rfl, by decide, big_of (by decide) (by decide), fun c c0 c1 => .inl ⟨_, _, rfl, .inl ⟨_, _, rfl, ?_⟩⟩⟩
     show PEnds.nx _ _
     have hu : ∃ u : Int, max 1 (min (60 - ((g.length : Nat) : Int)) (b + c - 1)) = u /\ 1 <= u /\ u <= 60 := ⟨_, rfl, by omega, by omega⟩
     obtain ⟨u, eu, u1, u60⟩ := hu
     refine nxE (ρ' := [.dk, .va (encW (.make h a b ms)), .va (iT r), .no, .no, .va (sT g), .no, .va (iT u), .no]) (by rw [<- eu]; rfl) ?_
     refine ⟨_, rfl, rfl, 3, rfl, by decide, big_of (by decide) (by decide), fun e e0 e1 => .inl ⟨_, _, rfl, .inl ⟨_, _, rfl, ?_⟩⟩⟩
     show PEnds.nx _ _
     have hv : ∃ v : Int, max 0 (min u (a + e - 1)) = v /\ 0 <= v /\ v <= u := ⟨_, rfl, by omega, by omega⟩
     obtain ⟨v, ev, v0, vu⟩ := hv
     refine nxE (ρ' := [.dk, .va (encW (.make h a b ms)), .va (iT r), .no, .no, .va (sT g), .no, .va (iT u), .va (iT v)]) (by rw [<- ev]; rfl) ?_
     refine ⟨_, rfl, rfl, rfl, fun ns sub' ne' => ⟨by simp, rfl, 2, rfl, by decide, big_of (by decide) (by decide), fun d d0 d1 => ?_⟩⟩
     obtain ⟨U, hU, hm⟩ := menu (l := [Tv.seq true (ms.map sT), Tv.seq true (ns.map sT)]) d0 d1
     have : ∃ ks : List Str, U = Tv.seq true (ks.map sT) /\ ks.Sublist MK /\ ks ≠ [] := by
      simp only [List.mem_cons, List.not_mem_nil, or_false] at hm
      rcases hm with rfl | rfl
      ·exact ⟨_, rfl, sub, ne⟩
      ·exact ⟨_, rfl, sub', ne'⟩
     obtain ⟨ks, rfl, k1, k2⟩ := this
     exact ⟨_, hU, by simp, q (.make g v u ks) ⟨⟨⟨sg, by omega⟩, v0, vu, u1, by omega, k1, k2⟩, by omega⟩⟩
end
end My
namespace My
open PySem L2 PyProof.Rows WordM
section
variable {P : Program} {w : World} {K : PySem.W.Frag} {mg : Str -> Option Value} {base : Heap}
theorem rest_facts {t h : Str} (e : stW t h = true) : cs t = cs h ++ cs (restW t h) /\ (restW t h).length + h.length = t.length := by
 obtain ⟨r, er⟩ := stW_iff.mp e
 have := restW_of er
 refine ⟨by rw [this]; exact er, ?_⟩
 have l := congrArg List.length er
 rw [List.length_append, <- WordM.len, <- WordM.len] at l
 rw [WordM.len (restW t h), this]
 omega
theorem fb_ (b : Bool) : (false != b) = b := by cases b <;> rfl
theorem mk_fresh {i : Nat} {m : Str} (h : MK[i]? = some m) : m ∉ MK.take i := by
 have nd : MK.Nodup := by decide +kernel
 intro z
 obtain ⟨j, hj, e⟩ := List.mem_take_iff_getElem.mp z
 obtain ⟨hi, e2⟩ := List.getElem?_eq_some_iff.mp h
 have := (List.getElem_inj nd).mp (e.trans e2.symm)
 omega
def ptWof : PSp := fun as R => ∃ ss : List Str, as = [.va (.seq false (ss.map sT))] /\ ss ≠ [] /\ (∀ s ∈ ss, Sg s /\ s.length <= 130) /\ ss.length <= 250 /\ R (encW (wdOf ss))
theorem C20_ : FnScope ["_law_texts", "_law_few", "_law_head", "_law_sizes", "_law_marks", "_law_mark_here", "_law_text_here"] ["_law_texts"] (defScope s20_) := fsc (by decide +kernel)
theorem g20_ (h : Has K mg "_law_words_of" s20_) (B : Own mg) (G16_ : PGood P w K mg base 1 "_law_mark" ["_law_sign"] ptMark)   : PGood P w K mg base 2 "_law_words_of" ["_law_texts"] ptWof := by
 have nd := C20_.nd
 refine h.pgood C20_ (fun|_,_,_,_,_,_,[_],_=>rfl) (fun f cdv A outer s H E F hr =>
   (us_cons (us_s 1 nd (ue_ul (ul_sortSetP rfl rfl B.sorted rfl B.set_ (ue_var 0))))
   (us_cons (us_if (ub_cp pu_lt (ue_callB pu_len rfl B.len PySem.boot_len (ua_c (ue_var 1) ua_nil)) ue_int)
    (us_one (us_ret (ue_tup (ua_c ue_str (ua_c (ue_callTy pu_tupOf rfl B.tuple_ boot_tuple (ua_c (ue_var 1) ua_nil)) ua_nil)))))
    us_nil)
   (us_cons (us_s 2 nd (ue_x hr (ue_var 1) ue_int))
   (us_cons (us_while PassesOwn.never (ub_n hr (ue_ul (ul_c1 (sc := defScope s20_) (XN := ["_law_texts", "_law_few", "_law_head", "_law_sizes", "_law_marks", "_law_mark_here", "_law_text_here"]) (N := ["_law_text_here", "_law_head"]) (fr := [2]) (ui_val (ue_var 1)) (fun _ _ _ _ _ => (uf_one (ub_not (ub_val (ue_bmS PySem.F.slot_str_startswith PySem.F.type_str_startswith pm_starts (ue_var 0) (ua_c (ue_var 1) ua_nil)))))) (fun _ _ _ _ _ => (ue_var 0)))) (ue_ul (ul_lst ua_nil)))
    (us_one (us_s 2 nd (ue_slice pu_sl (ue_var 2) uo_none (uo_some (ue_un pu_neg ue_int))))))
   (us_cons (us_c1 (sc := defScope s20_) (XN := ["_law_texts", "_law_few", "_law_head", "_law_sizes", "_law_marks", "_law_mark_here", "_law_text_here"]) (N := ["_law_text_here", "_law_head"]) (fr := [2]) 3 nd (ui_val (ue_var 1)) (fun _ _ _ _ _ => uf_nil) (fun _ _ _ _ _ => (ue_op pu_sub (ue_callB pu_len rfl B.len PySem.boot_len (ua_c (ue_var 0) ua_nil)) (ue_callB pu_len rfl B.len PySem.boot_len (ua_c (ue_var 1) ua_nil)))))
   (us_cons (us_o 4 nd (ul_lst ua_nil))
   (us_cons (us_for (m := 7) PassesOwn.never rfl (ui_val (ue_ul (ul_lst (ua_c ue_str (ua_c ue_str (ua_c ue_str (ua_c ue_str ua_nil))))))) (ug_name 5 (by decide) nd rfl (.inl rfl))
    (us_one (us_for (m := 7) PassesOwn.never rfl (ui_val (ue_var 1)) (ug_name 6 (by decide) nd rfl (.inl rfl))
     (us_one (us_if (ub_w (uw_and (ub_peek fun F => (ub_cp (pu_notin hr.units) (ue_var 5) (ue_var 4) rfl)) (uw_and1 (ub_cp (pu_in hr.units) (ue_var 5) (ue_ul (ul_c0 (sc := defScope s20_) (XN := ["_law_texts", "_law_few", "_law_head", "_law_sizes", "_law_marks", "_law_mark_here", "_law_text_here"]) (N := ["_law_sign"]) (fr := []) (ui_val (ue_slice pu_sl (ue_var 6) (uo_some (ue_callB pu_len rfl B.len PySem.boot_len (ua_c (ue_var 2) ua_nil))) uo_none)) (fun _ _ _ _ _ => (ue_fm G16_ hr (ua_c (ue_var 0) ua_nil))))) rfl))))
      (us_one (us_expr (ue_append 4 (ue_var 5))))
      us_nil)))))
   (us_one (us_ret (ue_tup (ua_c ue_str (ua_c (ue_var 2) (ua_c (ue_callB (pu_min rfl) rfl B.min boot_min (ua_c (ue_var 3) ua_nil)) (ua_c (ue_callB (pu_max rfl) rfl B.max boot_max (ua_c (ue_var 3) ua_nil)) (ua_c (ue_callTy pu_tupOf rfl B.tuple_ boot_tuple (ua_c (ue_var 4) ua_nil)) ua_nil)))))))))))))))) (fun as R q => ?_)
 obtain ⟨ss, rfl, ne, ht, l64, q⟩ := q
 have hne : 0 < (setL ss).length := by
  obtain ⟨x, hx⟩ := List.exists_mem_of_ne_nil _ ne
  exact List.length_pos_of_mem ((setL_mem ss x).mpr hx)
 have ewd : wdOf ss = if (setL ss).length < 7 then .few (sortS (setL ss)) else mkOf ss := rfl
 refine ⟨rfl, ss, rfl, by omega, fun us hp hso => ?_⟩
 have hl : us.length = (setL ss).length := hp.length_eq
 have ul : us.length <= 250 := by
  have : (setL ss).length <= ss.length := WordM.nodup_len (setL_nd ss) fun x hx => (setL_mem ss x).mp hx
  omega
 have hm : ∀ x, x ∈ us ↔ x ∈ ss := fun x => hp.mem_iff.trans (setL_mem ss x)
 have hu : ∀ t ∈ us, Sg t /\ t.length <= 130 := fun t h => ht t ((hm t).mp h)
 refine ⟨_, rfl, sif (fun z => ?_) (fun z => ?_)⟩
 ·have z : ((us.map sT).length : Int) < 7 := by simpa using z
  rw [List.length_map] at z
  rw [ewd, if_pos (by omega), <- hso (by omega)] at q
  exact ⟨_, _, rfl, by simp, q⟩
 have z : ¬ ((us.map sT).length : Int) < 7 := by simpa using z
 rw [List.length_map] at z
 have nd : us.Nodup := hp.nodup_iff.mpr (setL_nd ss)
 obtain ⟨x0, hx0⟩ : ∃ x0, us[0]? = some x0 := ⟨_, List.getElem?_eq_getElem (by omega)⟩
 have at0 : atI (us.map sT) 0 = some (sT x0) := atI_nat (j := 0) (by rw [List.getElem?_map, hx0]; rfl)
 have x0m := List.mem_of_getElem? hx0
 refine ⟨_, at0, ?_⟩
 refine ⟨fun m ρ => ∃ (h : Str) (s3 s4 s5 s6 : Sl), m = h.length /\ Sg h /\ h.length <= 130 /\ ((∃ r, cs x0 = cs h ++ r) /\ ∀ h' : List Nat, (∀ t ∈ us, ∃ r, cs t = h' ++ r) -> h'.length <= (cs h).length) /\ ρ = [.va (.seq false (ss.map sT)), .va (.seq false (us.map sT)), .va (sT h), s3, s4, s5, s6], ⟨_, x0, _, _, _, _, rfl, (hu x0 x0m).1, (hu x0 x0m).2, ⟨⟨[], by rw [List.append_nil]⟩, fun h' hh => by obtain ⟨r, e⟩ := hh x0 x0m; rw [e, List.length_append]; omega⟩, rfl⟩, ?_⟩
 rintro m _ ⟨h, s3, s4, s5, s6, rfl, sh, lh, ⟨hpre, htop⟩, rfl⟩
 refine ⟨by rw [List.length_map]; omega, ?_⟩
 refine compT_ofm sT (fun t => if stW t h = true then none else some (sT t)) (fun t ht' R q => ⟨rfl, _, _, rfl, rfl, _, rfl, sif (fun z => ?_) (fun z => ?_)⟩) ?_
 ·have z : (!stW t h) = true := z
  have z : stW t h = false := by cases e : stW t h with | false => rfl | true => rw [e] at z; cases z
  rw [if_neg (by rw [z]; exact Bool.false_ne_true)] at q
  exact q
 ·have z : (!stW t h) = false := z
  have z : stW t h = true := by cases e : stW t h with | true => rfl | false => rw [e] at z; cases z
  rw [if_pos z] at q
  exact q
 refine ⟨by simp, .inr (.inl rfl), _, rfl, sif (fun z => ?_) (fun z => ?_)⟩
 ·have hpos : 0 < h.length := by
   refine Nat.pos_of_ne_zero fun e => ?_
   have : (us.filterMap fun t => if stW t h = true then none else some (sT t)) = [] := List.filterMap_eq_nil_iff.mpr fun t _ => by
    rw [if_pos]
    refine stW_iff.mpr ⟨cs t, ?_⟩
    rw [WordM.len] at e
    rw [List.eq_nil_of_length_eq_zero e]; rfl
   rw [this] at z
   simp [eqTs] at z
  have l' := slice_last_len hpos
  have cl' := slice_last hpos
  have hlen : h.length = (cs h).length := WordM.len h
  have nst : ¬ ∀ t ∈ us, stW t h = true := fun hall => by
   have : (us.filterMap fun t => if stW t h = true then none else some (sT t)) = [] := List.filterMap_eq_nil_iff.mpr fun t ht' => by rw [if_pos (hall t ht')]
   rw [this] at z
   simp [eqTs] at z
  refine ⟨_, rfl, by omega, _, by rw [l']; omega, Txt.slice h none (some (-1)), _, _, _, _, rfl, sh.slice _ _, by rw [l']; omega, ⟨?_, fun h' hh => ?_⟩, rfl⟩
  ·obtain ⟨r, e⟩ := hpre
   refine ⟨(cs h).drop (h.length - 1) ++ r, ?_⟩
   rw [cl', <- List.append_assoc, List.take_append_drop]
   exact e
  ·rw [cl', List.length_take]
   have h1 := htop h' hh
   have : h'.length ≠ (cs h).length := fun e => nst fun t ht' => by
    obtain ⟨r1, e1⟩ := hpre
    obtain ⟨r2, e2⟩ := hh x0 x0m
    have eh : h' = cs h := List.append_inj_left (e2.symm.trans e1) e
    obtain ⟨r, e3⟩ := hh t ht'
    exact stW_iff.mpr ⟨r, by rw [e3, eh]⟩
   omega
 have hall : ∀ t ∈ us, stW t h = true := by
  have : (us.filterMap fun t => if stW t h = true then none else some (sT t)) = [] := by
   generalize (us.filterMap fun t => if stW t h = true then none else some (sT t)) = L at z
   cases L with
   | nil => rfl
   | cons a L => simp [eqTs] at z
  intro t ht'
  have := List.filterMap_eq_nil_iff.mp this t ht'
  cases e : stW t h with
  | true => rfl
  | false => rw [e] at this; simp at this
 have rl : ∀ t ∈ us, (restW t h).length <= 130 := fun t ht' => by
  have := (rest_facts (hall t ht')).2
  have := (hu t ht').2
  omega
 have rf : ∀ t ∈ us, (t.length : Int) - (h.length : Int) = ((restW t h).length : Nat) := fun t ht' => by have := (rest_facts (hall t ht')).2; omega
 refine ⟨by rw [List.length_map]; omega, compT_of sT (fun t => iT ((restW t h).length : Nat)) (fun t ht' R q => ⟨by have := (hu t ht').2; omega, by omega, by rw [<- rf t ht'] at q; exact q⟩) ?_⟩
 show PEnds.nx _ _
 refine nxE (ρ' := [.va (.seq false (ss.map sT)), .va (.seq false (us.map sT)), .va (sT h), .va (.seq false (us.map fun t => iT ((restW t h).length : Nat))), s4, s5, s6]) rfl ?_
 refine ⟨by simp, ?_⟩
 let pm : Str -> List Str -> Prop := fun m l => ∃ t ∈ l, ∃ c ∈ cs (restW t h), markC c = m
 show PEnds.nx _ _
 refine nxE (ρ' := [.va (.seq false (ss.map sT)), .va (.seq false (us.map sT)), .va (sT h), .va (.seq false (us.map fun t => iT ((restW t h).length : Nat))), .own [], s5, s6]) rfl ?_
 refine ⟨by simp, ?_⟩
 refine forT_inv (fun i ρ => ∃ (ms : List Str) (s5 s6 : Sl), ms.Sublist (MK.take i) /\ (∀ m ∈ MK.take i, m ∈ ms ↔ pm m us) /\ ρ = [.va (.seq false (ss.map sT)), .va (.seq false (us.map sT)), .va (sT h), .va (.seq false (us.map fun t => iT ((restW t h).length : Nat))), .own (ms.map sT), s5, s6]) ⟨[], s5, s6, List.Sublist.refl _, (fun m hm => nomatch hm), rfl⟩ ?_ ?_
 ·rintro i T _ N hT ⟨ms, s5, s6, sub, iff, rfl⟩ hN
  have hT : (MK.map sT)[i]? = some T := hT
  rw [List.getElem?_map] at hT
  obtain ⟨m, hm, rfl⟩ := Option.map_eq_some_iff.mp hT
  refine forT_of sT (l := us) (fun j ρ => ∃ (ms' : List Str) (s6 : Sl), (ms' = ms /\ ¬ pm m (us.take j) \/ ms' = ms ++ [m] /\ pm m (us.take j)) /\ ρ = [.va (.seq false (ss.map sT)), .va (.seq false (us.map sT)), .va (sT h), .va (.seq false (us.map fun t => iT ((restW t h).length : Nat))), .own (ms'.map sT), .va (sT m), s6]) ⟨ms, s6, .inl ⟨rfl, fun ⟨_, z, _⟩ => nomatch z⟩, rfl⟩ ?_ ?_
  ·rintro j x _ N' hx ⟨ms', s6, hms, rfl⟩ hN'
   refine ⟨inok_str, _, rfl, ?_⟩
   rw [any_str]
   have xm := List.mem_of_getElem? hx
   have tk : us.take (j + 1) = us.take j ++ [x] := by rw [List.take_add_one, hx]; rfl
   have nx : pm m (us.take (j + 1)) ↔ pm m (us.take j) \/ ∃ c ∈ cs (restW x h), markC c = m := by
    rw [tk]
    constructor
    ·rintro ⟨t, ht', c⟩
     rcases List.mem_append.mp ht' with z | z
     ·exact .inl ⟨t, z, c⟩
     ·rw [List.mem_singleton.mp z] at c; exact .inr c
    ·rintro (⟨t, z, c⟩ | c)
     ·exact ⟨t, List.mem_append_left _ z, c⟩
     ·exact ⟨x, List.mem_append_right _ (.head _), c⟩
   refine sif (fun z => ?_) (fun z => ?_)
   ·have z : m ∉ ms' := by simpa using z
    refine ⟨by omega, _, rfl, by have := (hu x xm).2; omega, ?_⟩
    refine ⟨by rw [List.length_map]; exact Nat.le_trans (rl x xm) (by decide), compT_of (fun c : Nat => sT ⟨#[c]⟩) (fun c => sT (markC c)) (fun c hc R q => ⟨c, rfl, q⟩) ?_⟩
    have em : ((restW x h).cps.toList.map fun c => sT (markC c)) = ((cs (restW x h)).map markC).map sT := by rw [List.map_map]; rfl
    have io : InOk (sT m) (((cs (restW x h)).map markC).map sT) := inok_str
    rw [<- em] at io
    refine ⟨io, _, rfl, ?_⟩
    have an : (false != ((restW x h).cps.toList.map fun c => sT (markC c)).any fun U => L2.eqT U (sT m)) = decide (m ∈ (cs (restW x h)).map markC) := (fb_ _).trans (by rw [em]; exact any_str)
    refine sif (fun y => ?_) (fun y => ?_)
    ·have y : ∃ c ∈ cs (restW x h), markC c = m := List.mem_map.mp (of_decide_eq_true (an.symm.trans y))
     have ml : ms'.length <= 5 := by
      have := sub.length_le
      rw [List.length_take] at this
      have e4 : MK.length = 4 := by decide +kernel
      rcases hms with ⟨rfl, _⟩ | ⟨rfl, _⟩
      ·omega
      ·rw [List.length_append]; show ms.length + 1 <= 5; omega
     refine ⟨⟨_, rfl⟩, _, rfl, by rw [List.length_map]; omega, ?_⟩
     rcases hms with ⟨rfl, no⟩ | ⟨rfl, yes⟩
     ·exact hN' _ ⟨ms' ++ [m], _, .inr ⟨rfl, nx.mpr (.inr y)⟩, by rw [List.map_append]; rfl⟩
     ·exact absurd (List.mem_append_right _ (.head _)) z
    ·have y : ¬ ∃ c ∈ cs (restW x h), markC c = m := fun e => of_decide_eq_false (an.symm.trans y) (List.mem_map.mpr e)
     rcases hms with ⟨rfl, no⟩ | ⟨rfl, yes⟩
     ·exact hN' _ ⟨_, _, .inl ⟨rfl, fun e => (nx.mp e).elim no y⟩, rfl⟩
     ·exact hN' _ ⟨_, _, .inr ⟨rfl, nx.mpr (.inl yes)⟩, rfl⟩
   ·have z : m ∈ ms' := by simpa using z
    rcases hms with ⟨rfl, no⟩ | ⟨rfl, yes⟩
    ·exact absurd (sub.subset z) (mk_fresh hm)
    ·exact hN' _ ⟨_, _, .inr ⟨rfl, nx.mpr (.inl yes)⟩, rfl⟩
  ·rintro _ ⟨ms', s6, hms, rfl⟩
   rw [List.take_length] at hms
   have tk : MK.take (i + 1) = MK.take i ++ [m] := by rw [List.take_add_one, hm]; rfl
   rcases hms with ⟨rfl, no⟩ | ⟨rfl, yes⟩
   ·refine hN _ ⟨_, _, _, by rw [tk]; exact sub.trans (List.sublist_append_left _ _), fun y hy => ?_, rfl⟩
    rw [tk] at hy
    rcases List.mem_append.mp hy with z | z
    ·exact iff y z
    ·rw [List.mem_singleton.mp z]
     exact ⟨fun z => absurd (sub.subset z) (mk_fresh hm), fun z => absurd z no⟩
   ·refine hN _ ⟨_, _, _, by rw [tk]; exact sub.append (List.Sublist.refl _), fun y hy => ?_, rfl⟩
    rw [tk] at hy
    rcases List.mem_append.mp hy with z | z
    ·rw [List.mem_append, List.mem_singleton]
     exact ⟨fun w => w.elim (iff y z).mp fun e => absurd (e ▸ z) (mk_fresh hm), fun w => .inl ((iff y z).mpr w)⟩
    ·rw [List.mem_singleton.mp z]
     exact ⟨fun _ => yes, fun _ => List.mem_append_right _ (.head _)⟩
 ·rintro _ ⟨ms, s5, s6, sub, iff, rfl⟩
  have en : (us.map fun t => iT ((restW t h).length : Nat)) = (us.map fun t => (((restW t h).length : Nat) : Int)).map iT := by rw [List.map_map]; rfl
  refine .inr (.inl ⟨us.map fun t => (((restW t h).length : Nat) : Int), by rw [<- en], by rw [List.length_map]; omega, fun lo lo1 lo2 => .inr (.inl ⟨us.map fun t => (((restW t h).length : Nat) : Int), by rw [<- en], by rw [List.length_map]; omega, fun hi hi1 hi2 => ⟨_, _, rfl, by simp, ?_⟩⟩)⟩)
  have mkall : ∀ m, pm m us -> m ∈ MK := fun m ⟨t, _, c, _, e⟩ => by rw [<- e]; exact WordM.mark_in c
  have mo : MOf us h lo hi ms := by
   obtain ⟨t1, t1m, e1⟩ := List.mem_map.mp lo1
   obtain ⟨t2, t2m, e2⟩ := List.mem_map.mp hi1
   refine ⟨⟨fun t ht' => ⟨_, (rest_facts (hall t ht')).1⟩, htop⟩, ⟨t1, t1m, by rw [rf t1 t1m]; exact e1⟩, fun t ht' => by rw [rf t ht']; exact lo2 _ (List.mem_map.mpr ⟨t, ht', rfl⟩), ⟨t2, t2m, by rw [rf t2 t2m]; exact e2⟩, fun t ht' => by rw [rf t ht']; exact hi2 _ (List.mem_map.mpr ⟨t, ht', rfl⟩), ?_⟩
   refine rise_ext' (List.Pairwise.sublist sub (by decide +kernel)) (marksOf_rise _ _) fun m => ?_
   rw [marksOf_mem]
   exact ⟨fun z => (iff m (sub.subset z)).mp z, fun z => (iff m (mkall m z)).mpr z⟩
  rw [ewd, if_neg (by omega), mk_same (us := us) ne fun x => (hm x).symm, <- mkOf_eq mo] at q
  exact q
end
end My
namespace My
open PySem L2 PyProof.Rows WordM
section
variable {P : Program} {w : World} {K : PySem.W.Frag} {mg : Str -> Option Value} {base : Heap}
open WordM ShowM
theorem hd_ok {T : List Str} (ne : T ≠ []) (ht : ∀ t ∈ T, TxOk t) : HdOk T := fun h lo hi ms e => by
 obtain ⟨h', lo', hi', ms', e', m⟩ := mkOf_is ne
 rw [e'] at e
 cases e
 obtain ⟨t, pt⟩ := List.exists_mem_of_ne_nil _ ne
 obtain ⟨r, er⟩ := m.he.all t pt
 refine ⟨head_sg m.he ne fun t h => (ht t h).1, ?_⟩
 have := (ht t pt).2
 rw [WordM.len, er, List.length_append] at this
 rw [WordM.len]
 omega
theorem ts_ok {T : List Str} (ne : T ≠ []) (ht : ∀ t ∈ T, TxOk t) : TsOk T := ⟨ne, hd_ok ne ht, fun _ => ht⟩
theorem hd_app {A B : List Str} (ne : A ≠ []) (h : HdOk A) : HdOk (A ++ B) := fun h' lo hi ms e => by
 have n2 : A ++ B ≠ [] := fun z => ne (List.append_eq_nil_iff.mp z).1
 obtain ⟨h1, lo1, hi1, ms1, e1, m1⟩ := mkOf_is n2
 rw [e1] at e
 cases e
 obtain ⟨h2, lo2, hi2, ms2, e2, m2⟩ := mkOf_is ne
 obtain ⟨s2, l2⟩ := h _ _ _ _ e2
 obtain ⟨r, er⟩ := m2.he.pre ne fun t ht => m1.he.all t (List.mem_append_left _ ht)
 refine ⟨fun c hc => s2 c (by rw [er]; exact List.mem_append_left _ hc), ?_⟩
 rw [WordM.len, er, List.length_append] at l2
 rw [WordM.len]
 omega
theorem wd_ok2 {T : List Str} (ne : T ≠ []) (hs : ∀ t ∈ T, Sg t) (hl : ∀ t ∈ T, t.length <= 100) (hd : HdOk T) (hf : (setL T).length < 7 -> ∀ t ∈ T, TxOk t) : WdOk (wdOf T) := by
 have w := wdOf_is ne
 generalize wdOf T = W at w
 cases W with
 | few ss =>
  obtain ⟨e, l⟩ := w
  subst e
  have sl : (sortS (setL T)).length = (setL T).length := (sortS_perm _).length_eq
  have := List.length_pos_iff.mpr (sort_ne ne)
  exact ⟨by omega, by omega, sort_set_rise _, fun t h => hf l t (sort_set_mem.mp h)⟩
 | make h lo hi ms =>
  obtain ⟨h7, m⟩ := w
  obtain ⟨t1, p1, q1⟩ := m.lo1
  obtain ⟨t2, p2, q2⟩ := m.hi1
  have rl : ∀ t ∈ T, ∃ r, cs t = cs h ++ r /\ (t.length : Int) - (h.length : Int) = r.length := fun t ht => by
   obtain ⟨r, e⟩ := m.he.all t ht
   exact ⟨r, e, by rw [WordM.len t, WordM.len h, e, List.length_append]; push_cast; omega⟩
  obtain ⟨r1, e1, l1⟩ := rl t1 p1
  have h2 := hl t2 p2
  have lohi := m.hi2 t1 p1
  have some1 : ∃ t ∈ T, ∃ c r, cs t = cs h ++ c :: r := by
   apply Classical.byContradiction
   intro z
   have al : ∀ t ∈ T, t = h := fun t ht => by
    obtain ⟨r, e, _⟩ := rl t ht
    cases r with
    | nil => exact str_ext (by rw [e, List.append_nil])
    | cons c r => exact absurd ⟨t, ht, c, r, e⟩ z
   have := WordM.nodup_len (setL_nd T) (m := [h]) fun x hx => by rw [al x ((setL_mem T x).mp hx)]; exact .head _
   simp at this
   omega
  obtain ⟨t, pt, c, r, e⟩ := some1
  have hi1 : 1 <= hi := by
   have := m.hi2 t pt
   rw [WordM.len t, WordM.len h, e, List.length_append, List.length_cons] at this
   push_cast at this
   omega
  refine ⟨hd _ _ _ _ (mkOf_eq m).symm, by omega, by omega, hi1, by omega, by rw [m.mks]; exact List.filter_sublist, fun z => ?_⟩
  have : markC c ∈ ms := by
   rw [m.mks, marksOf_mem]
   exact ⟨t, pt, c, by rw [restW_of e]; exact .head _, rfl⟩
  rw [z] at this
  exact nomatch this
theorem wit_two {hd : Str} {lo hi : Int} {ms : List Str} (ok : WdOk (.make hd lo hi ms)) : 7 <= (setL (witW (.make hd lo hi ms))).length /\ ∀ k : List Nat, (∀ t ∈ witW (.make hd lo hi ms), ∃ r, cs t = k ++ r) -> k.length <= (cs hd).length := by
 obtain ⟨⟨shd, hl⟩, lo0, lohi, hi1, hi62, b1, b2⟩ := ok
 obtain ⟨_, S, _⟩ := signs_ok b1 b2
 have m1 : ∀ g ∈ goodM ms, hd ++ repC g (if lo > 1 then lo else 1) ∈ witW (.make hd lo hi ms) := fun g hg => List.mem_append_left _ (List.mem_append_left _ (List.mem_map.mpr ⟨g, hg, rfl⟩))
 obtain ⟨n, en⟩ : ∃ n, (if lo > 1 then lo else 1).toNat = n + 1 := ⟨(if lo > 1 then lo else 1).toNat - 1, by split <;> omega⟩
 have inj : ∀ c d : Nat, hd ++ repC c (if lo > 1 then lo else 1) = hd ++ repC d (if lo > 1 then lo else 1) -> c = d := fun c d e => by
  have e := congrArg cs e
  rw [WordM.app, WordM.app, cs_rep, cs_rep] at e
  have e := List.append_cancel_left e
  rw [en, List.replicate_succ, List.replicate_succ] at e
  injection e
 refine ⟨?_, fun k hk => ?_⟩
 ·have nd : ((goodM ms).map fun c => hd ++ repC c (if lo > 1 then lo else 1)).Nodup := by
   rw [List.nodup_iff_pairwise_ne, List.pairwise_map]
   exact (List.nodup_iff_pairwise_ne.mp S.nd).imp fun h e => h (inj _ _ e)
  have := WordM.nodup_len nd (m := setL (witW (.make hd lo hi ms))) fun x hx => (setL_mem _ x).mpr (List.mem_append_left _ (List.mem_append_left _ hx))
  rw [List.length_map] at this
  have := S.many
  omega
 ·have m7 := S.many
  have nd := S.nd
  match hG : goodM ms, m7 with
  | c :: d :: G, _ =>
   rw [hG] at nd m1
   have ne : c ≠ d := fun z => by subst z; exact (List.nodup_cons.mp nd).1 (.head _)
   obtain ⟨r1, e1⟩ := hk _ (m1 c (.head _))
   obtain ⟨r2, e2⟩ := hk _ (m1 d (.tail _ (.head _)))
   rw [WordM.app, cs_rep, en, List.replicate_succ] at e1 e2
   apply Nat.le_of_not_lt
   intro lt
   have g1 : (k ++ r1)[(cs hd).length]? = some c := by rw [<- e1]; simp
   have g2 : (k ++ r2)[(cs hd).length]? = some d := by rw [<- e2]; simp
   rw [List.getElem?_append_left lt] at g1 g2
   rw [g1] at g2
   exact ne (Option.some.inj g2)
  | [_], h => simp at h
  | [], h => simp at h
theorem wit_ne {W : Wd} (h : WdOk W) : witW W ≠ [] := fun z => by
 cases W with
 | few ss => have : ss = [] := z; have h1 := h.1; rw [this] at h1; simp at h1
 | make hd lo hi ms => have := (wit_two h).1; rw [z] at this; simp [setL] at this
theorem wit_sg {W : Wd} (h : WdOk W) : ∀ t ∈ witW W, Sg t := fun t ht => ((wit_show h).1 t ht).2.1
theorem wit_ts {W : Wd} (h : WdOk W) : TsOk (witW W) := by
 cases W with
 | few ss => exact ts_ok (wit_ne h) h.2.2.2
 | make hd lo hi ms =>
  obtain ⟨h7, top⟩ := wit_two h
  refine ⟨wit_ne h, fun h' lo' hi' ms' e => ?_, fun z => by omega⟩
  obtain ⟨h2, lo2, hi2, ms2, e2, m⟩ := mkOf_is (wit_ne h)
  rw [e2] at e
  cases e
  have l := top _ m.he.all
  rw [<- WordM.len, <- WordM.len] at l
  have := h.1.2
  exact ⟨head_sg m.he (wit_ne h) (wit_sg h), by omega⟩
theorem ts_app {A B : List Str} (a : TsOk A) (b : TsOk B) : TsOk (A ++ B) :=
 ⟨fun z => a.ne (List.append_eq_nil_iff.mp z).1, hd_app a.ne a.hd, fun z t ht => (List.mem_append.mp ht).elim (a.ok (Nat.lt_of_le_of_lt (set_le fun x hx => List.mem_append_left _ hx) z) t) (b.ok (Nat.lt_of_le_of_lt (set_le fun x hx => List.mem_append_right _ hx) z) t)⟩
theorem wit_l100 {W : Wd} (h : WdN W) : ∀ t ∈ witW W, t.length <= 100 := fun t ht => by
 cases W with
 | few ss => have := ((WdN.ok h).2.2.2 t ht).2; omega
 | make hd lo hi ms =>
  obtain ⟨r, e, _, h2, _⟩ := letW_make.mp ((wit_show h.1).1 t ht).1
  have := h.2
  rw [WordM.len, e, List.length_append, <- WordM.len]
  omega
theorem wit_rep {W : Wd} (n : WdN W) : wdOf (witW W) = W := by
 have h := WdN.ok n
 have sh := wit_show h
 have ts := wit_ts h
 have e1 := wd_more (T := textsW W) (A := witW W) (rep_ne h) (by rw [rep_is h]; exact fun t ht => (sh.1 t ht).1)
 rw [rep_is h] at e1
 have ok := wd_ok2 (wit_ne h) (wit_sg h) (wit_l100 n) ts.hd ts.ok
 have e2 := wd_more (T := witW W) (A := textsW W) (wit_ne h) fun t ht => sh.2 _ ok (fun t ht => wd_lets (wit_sg h) ht) t ((texts_show h).1 t ht).1
 exact e2.symm.trans ((wdOf_same fun x => by rw [List.mem_append, List.mem_append]; exact Or.comm).trans e1)
theorem wit_l {W : Wd} (oW : WdOk W) : (witW W).length <= 100 := by
 cases W with
 | few ss => have := oW.2.1; show ss.length <= 100; omega
 | make hd lo hi ms =>
  have : (goodM ms).length <= 94 := Nat.le_trans (List.length_filter_le _ _) (by rw [<- WordM.len, sig_len]; decide)
  show ((((goodM ms).map fun c => hd ++ repC c (if lo > 1 then lo else 1)) ++ (if lo = 0 then [hd] else [])) ++ [hd ++ repC ((goodM ms).headD 0) hi]).length <= 100
  rw [List.length_append, List.length_append, List.length_map]
  split <;> simp <;> omega
end
section
variable {P : Program} {w : World} {K : PySem.W.Frag} {mg : Str -> Option Value} {base : Heap}
open WordM
def RB (n L : Nat) (T : Tv) : Prop := RpD n T /\ (rT n T).length <= L
theorem RB.le {n L M : Nat} {T : Tv} (h : RB n L T) (l : L <= M) : RB n M T := ⟨h.1, Nat.le_trans h.2 l⟩
theorem sg_smallR {x : Str} (h : Sg x) : ∀ c ∈ x.cps.toList, c < 16 ^ 8 := fun c hc => by
 have : ∀ c ∈ cs SIG, c < 16 ^ 8 := by decide +kernel
 exact this c (h c hc)
theorem repr50 {x : Str} (h : Sg x) (hl : x.length <= 50) : (reprText x).length <= 502 := Nat.le_trans (PySem.StrLaws.reprText_len x (sg_smallR h)) (by omega)
theorem mk50 : ∀ m ∈ MK, (reprText m).length <= 502 := by decide +kernel
theorem log_small {i : Int} (h1 : -(10 ^ 100) < i) (h2 : i < 10 ^ 100) : i.natAbs.log2 < 1920 := by
 have : i.natAbs < 2 ^ 1920 := Nat.lt_of_lt_of_le (show i.natAbs < 10 ^ 100 by omega) (by decide +kernel)
 by_cases z : i.natAbs = 0
 ·rw [z]; decide
 ·exact (Nat.log2_lt z).mpr this
theorem rb_int (n : Nat) {i : Int} (h1 : -(10 ^ 100) < i) (h2 : i < 10 ^ 100) : RB (n + 1) 502 (iT i) := by
 refine ⟨log_small h1 h2, ?_⟩
 have := (int_chars i (by omega)).2
 show (Str.ofString (toString i)).length <= 502
 rw [WordM.len, ofS_cps, List.length_map]
 omega
theorem rb_str (n : Nat) {x : Str} (h : (reprText x).length <= 502) : RB (n + 1) 502 (sT x) := ⟨Nat.le_trans h (by decide), h⟩
theorem rb_tup {n L M : Nat} {xs : List Tv} (h : ∀ x ∈ xs, RB n L x) (hm : xs.length * (L + 2) + 4 <= M) (h1 : M <= 100000) : RB (n + 1) M (.seq true xs) := by
 have := tupleText_le (B := L) (ts := xs.map (rT n)) fun t ht => by
  obtain ⟨x, hx, rfl⟩ := List.mem_map.mp ht
  exact (h x hx).2
 rw [List.length_map] at this
 exact ⟨⟨by omega, fun x hx => (h x hx).1⟩, by show (tupleText _).length <= _; omega⟩
theorem rb_wd {w : Wd} (h : WdOk w) : RpD 3 (encW w) := by
 refine (show RB 3 50000 (encW w) from ?_).1
 cases w with
 | few ss =>
  refine rb_tup (L := 3100) (fun x hx => ?_) (by simp) (by decide)
  simp only [List.mem_cons, List.not_mem_nil, or_false] at hx
  rcases hx with rfl | rfl
  ·exact (rb_str 1 (by decide +kernel)).le (by decide)
  ·refine rb_tup (L := 502) (fun x hx => ?_) (by rw [List.length_map]; have := h.2.1; omega) (by decide)
   obtain ⟨s, hs, rfl⟩ := List.mem_map.mp hx
   exact rb_str 0 (repr50 (h.2.2.2 s hs).1 (h.2.2.2 s hs).2)
 | make hd lo hi ms =>
  obtain ⟨hh, a0, ab, b1, b6, sub, ne⟩ := h
  refine rb_tup (L := 2100) (fun x hx => ?_) (by simp) (by decide)
  simp only [List.mem_cons, List.not_mem_nil, or_false] at hx
  rcases hx with rfl | rfl | rfl | rfl | rfl
  ·exact (rb_str 1 (by decide +kernel)).le (by decide)
  ·exact (rb_str 1 (repr50 hh.1 hh.2)).le (by decide)
  ·exact (rb_int 1 (by omega) (by omega)).le (by decide)
  ·exact (rb_int 1 (by omega) (by omega)).le (by decide)
  ·refine rb_tup (L := 502) (fun x hx => ?_) (by rw [List.length_map]; have := sub.length_le; simp [MK] at this; omega) (by decide)
   obtain ⟨s, hs, rfl⟩ := List.mem_map.mp hx
   exact rb_str 0 (mk50 s (sub.mem hs))
end
end My
namespace My
open PySem L2 PyProof.Rows WordM
section
variable {P : Program} {w : World} {K : PySem.W.Frag} {mg : Str -> Option Value} {base : Heap}
open WordM ShowM
theorem enc_seq (W : Wd) : ∃ Us, encW W = .seq true Us := by cases W <;> exact ⟨_, rfl⟩
theorem C22_ : FnScope ["_law_script", "_law_deck_here", "_law_turn", "_law_one", "_law_other", "_law_due", "_law_pair"] ["_law_script"] (defScope s22_) := fsc (by decide +kernel)
theorem ok_law {f : Addr} {fd : FuncData} (F : Fun K "law" "law" s22_ f fd) (B : Own mg) (G11_ : Good P w K mg base 1 "_law_deck" ["_law_script"] (spDeck K)) (G18_ : PGood P w K mg base 5 "_law_words" ["_law_deck_here"] ptWordsX) (G19_ : PGood P w K mg base 6 "_law_near" ["_law_deck_here", "_law_words_here"] ptNear23) (G20_ : PGood P w K mg base 2 "_law_words_of" ["_law_texts"] ptWof) (G21_ : PGood P w K mg base 2 "_law_witness" ["_law_words_here"] ptWit) (G9_ : PGood P w K mg base 5 "words_joined" ["one", "other"] ptWordsJ)  (Brepr : mg "repr" = none) : FnOk P w K mg base CX0 9 f fd ["_law_script"] (spLaw K) := by
 refine F.ok C22_ (fun vs H Q E q => ?_) (fun cdv A outer s H vs Q E hr q => ?_)
 ·obtain ⟨a, ns, rfl, _⟩ := q
  rfl
 ·obtain ⟨aa, ns, rfl, hS, hlen, q⟩ := q
  have nd := C22_.nd
  refine ⟨_, (pss_cons (ps_set (i := 1) nd rfl (by first | exact Or.inl rfl | exact Or.inr rfl) (pe_fn G11_ (hr.mono (by omega)) rfl (pa_c (pv 0) pa_nil)))
   (pss_any fun F => (us_cons (us_for (m := 7) PassesOwn.never rfl (ui_range1 rfl B.range (ua_c ue_int ua_nil)) (ug_name 2 (by decide) nd rfl (.inl rfl))
    (us_cons (us_s 3 nd (ue_fm G18_ hr (ua_dk 1 ua_nil)))
    (us_cons (us_s 4 nd (ue_fm G19_ hr (ua_dk 1 (ua_c (ue_var 3) ua_nil))))
    (us_cons (us_s 5 nd (ue_fm G20_ hr (ua_c (ue_op pu_add (ue_fm G21_ hr (ua_c (ue_var 3) ua_nil)) (ue_fm G21_ hr (ua_c (ue_var 4) ua_nil))) ua_nil)))
    (us_cons (us_for (m := 7) PassesOwn.never rfl (ui_val (ue_ul (ul_lst (ua_c (ue_tup (ua_c (ue_var 3) (ua_c (ue_var 4) ua_nil))) (ua_c (ue_tup (ua_c (ue_var 4) (ua_c (ue_var 3) ua_nil))) (ua_c (ue_tup (ua_c (ue_var 3) (ua_c (ue_var 4) ua_nil))) (ua_c (ue_tup (ua_c (ue_var 5) (ua_c (ue_var 3) ua_nil))) (ua_c (ue_tup (ua_c (ue_var 4) (ua_c (ue_var 5) ua_nil))) (ua_c (ue_tup (ua_c (ue_var 5) (ua_c (ue_var 5) ua_nil))) ua_nil))))))))) (ug_name 6 (by decide) nd rfl (.inl rfl))
     (us_one (us_if (ub_n hr (ue_callB (pu_reprN hr.gd hr.units) rfl Brepr L2.boot_repr (ua_c (ue_fm G9_ hr (ua_c (ue_x hr (ue_var 6) ue_int) (ua_c (ue_x hr (ue_var 6) ue_int) ua_nil))) ua_nil)) (ue_callB (pu_reprN hr.gd hr.units) rfl Brepr L2.boot_repr (ua_c (ue_var 5) ua_nil)))
      (us_one (us_ret ue_bl))
      us_nil)))
    (us_one (us_if (ub_n hr (ue_callB (pu_reprN hr.gd hr.units) rfl Brepr L2.boot_repr (ua_c (ue_fm G9_ hr (ua_c (ue_var 3) (ua_c (ue_var 3) ua_nil))) ua_nil)) (ue_callB (pu_reprN hr.gd hr.units) rfl Brepr L2.boot_repr (ua_c (ue_var 3) ua_nil)))
     (us_one (us_ret ue_bl))
     us_nil)))))))
   (us_one (us_ret ue_bl))))), ?_⟩
  refine ⟨_, rfl, aa, ns, rfl, hS, fun p c H1 np nc d1 s1 => ?_⟩
  refine law_end (N := ["_law_script", "_law_deck_here", "_law_turn", "_law_one", "_law_other", "_law_due", "_law_pair"]) (by decide) d1 q ?_
  clear q hS hlen hr d1 s1 np nc
  refine ⟨_, rfl, by decide, by decide, ?_⟩
  refine forT_inv (fun i ρ => ∃ s2 s3 s4 s5 s6 : Sl, ρ = [.no, .dk, s2, s3, s4, s5, s6]) ⟨_, _, _, _, _, rfl⟩ ?_ (fun _ ⟨_, _, _, _, _, e⟩ => by subst e; rfl)
  rintro i T _ N hT ⟨s2, s3, s4, s5, s6, rfl⟩ hN
  refine ⟨rfl, rfl, fun W hW fW => ?_⟩
  have hk : ∃ k : Int, T = iT k := by
   obtain ⟨k, _, e⟩ := List.mem_map.mp (List.mem_of_getElem? hT)
   exact ⟨_, e.symm⟩
  obtain ⟨k, rfl⟩ := hk
  have oW := WdN.ok hW
  show PEnds.nx _ _
  refine nxE (ρ' := [.no, .dk, .va (iT k), .va (encW W), s4, s5, s6]) rfl ?_
  refine ⟨rfl, W, rfl, fW, fun V hV => ?_⟩
  have oV := WdN.ok hV
  show PEnds.nx _ _
  refine nxE (ρ' := [.no, .dk, .va (iT k), .va (encW W), .va (encW V), s5, s6]) rfl ?_
  have l1 := wit_l oW
  have l2 := wit_l oV
  refine ⟨W, rfl, oW, V, rfl, oV, by rw [List.length_map, List.length_map]; omega, ?_⟩
  have tW := wit_ts oW
  have tV := wit_ts oV
  have tD := ts_app tW tV
  have sD : ∀ t ∈ witW W ++ witW V, Sg t := fun t ht => (List.mem_append.mp ht).elim (wit_sg oW t) (wit_sg oV t)
  have lD : ∀ t ∈ witW W ++ witW V, t.length <= 100 := fun t ht => (List.mem_append.mp ht).elim (wit_l100 hW t) (wit_l100 hV t)
  have oD := wd_ok2 tD.ne sD lD tD.hd tD.ok
  have eW := wit_rep hW
  have eV := wit_rep hV
  refine ⟨witW W ++ witW V, by rw [List.map_append], tD.ne, fun s hs => ⟨sD s hs, by have := lD s hs; omega⟩, by rw [List.length_append]; omega, ?_⟩
  show PEnds.nx _ _
  generalize eD : wdOf (witW W ++ witW V) = D at oD
  refine nxE (ρ' := [.no, .dk, .va (iT k), .va (encW W), .va (encW V), .va (encW D), s6]) rfl ?_
  have sm : ∀ {A : List Str}, (∀ x, x ∈ A ↔ x ∈ witW W ++ witW V) -> wdOf A = D := fun {A} h => (wdOf_same h).trans eD
  have prs : ∀ U ∈ [Tv.seq true [encW W, encW V], .seq true [encW V, encW W], .seq true [encW W, encW V], .seq true [encW D, encW W], .seq true [encW V, encW D], .seq true [encW D, encW D]], ∃ A B : List Str, U = .seq true [encW (wdOf A), encW (wdOf B)] /\ TsOk A /\ TsOk B /\ wdOf (A ++ B) = D := by
   intro U hU
   simp only [List.mem_cons, List.not_mem_nil, or_false] at hU
   rcases hU with rfl | rfl | rfl | rfl | rfl | rfl
   ·exact ⟨witW W, witW V, by rw [eW, eV], tW, tV, eD⟩
   ·exact ⟨witW V, witW W, by rw [eW, eV], tV, tW, sm fun x => by simp [or_comm]⟩
   ·exact ⟨witW W, witW V, by rw [eW, eV], tW, tV, eD⟩
   ·exact ⟨witW W ++ witW V, witW W, by rw [eW, eD], tD, tW, sm fun x => by rw [List.mem_append]; exact ⟨fun h => h.elim id fun h => List.mem_append_left _ h, .inl⟩⟩
   ·exact ⟨witW V, witW W ++ witW V, by rw [eV, eD], tV, tD, sm fun x => by rw [List.mem_append]; exact ⟨fun h => h.elim (fun h => List.mem_append_right _ h) id, .inr⟩⟩
   ·exact ⟨witW W ++ witW V, witW W ++ witW V, by rw [eD], tD, tD, sm fun x => by rw [List.mem_append, or_self]⟩
  refine ⟨by simp, by simp, by simp, by simp, by simp, by simp, by simp, ?_⟩
  refine forT_inv (fun i ρ => ∃ s6 : Sl, ρ = [.no, .dk, .va (iT k), .va (encW W), .va (encW V), .va (encW D), s6]) ⟨_, rfl⟩ ?_ ?_
  ·rintro i U _ M hU ⟨s6, rfl⟩ hM
   obtain ⟨A, B, rfl, tA, tB, eAB⟩ := prs U (List.mem_of_getElem? hU)
   refine ⟨_, rfl, _, rfl, A, B, rfl, tA, tB, ?_⟩
   rw [eAB]
   obtain ⟨Us, eu⟩ := enc_seq D
   have ru := rb_wd oD
   rw [eu] at ru
   exact ⟨2, Us, by rw [eu], by decide, ru, 2, Us, by rw [eu], by decide, ru, _, rfl, sNn (hM _ ⟨_, rfl⟩)⟩
  ·rintro _ ⟨s6, rfl⟩
   refine ⟨witW W, witW W, by rw [eW], tW, tW, ?_⟩
   rw [wdOf_same (fun x => by simp : ∀ x, x ∈ witW W ++ witW W ↔ x ∈ witW W), eW]
   obtain ⟨Us, eu⟩ := enc_seq W
   have ru := rb_wd oW
   rw [eu] at ru
   exact ⟨2, Us, by rw [eu], by decide, ru, 2, Us, by rw [eu], by decide, ru, _, rfl, sNn (hN _ ⟨_, _, _, _, _, rfl⟩)⟩
end
end My
namespace My
open PySem L2 PyProof.Rows
open WordM
open PySem
theorem all_mk {l : PySem.W.OpenLaw} {w : World} {K : PySem.W.Frag} {h : Heap} {mg : Str -> Option Value} {fa : Addr} (X : K.In h) (G : h.Ns mainGlobals mg) (hfa : mg "law" = some (.ref fa)) {f22 : Addr} {v_22 t_22 : Option Addr} {p_22 : Array (Option Value)} {u_22 w_22 x_22 y_22 r_22 q_22 : Value}
 (h0_ : Has K mg "has_mark" s0_)
 (h1_ : Has K mg "marks_of" s1_)
 (h2_ : Has K mg "marks_joined" s2_)
 (h3_ : Has K mg "shared_head" s3_)
 (h4_ : Has K mg "make_of" s4_)
 (h5_ : Has K mg "words_of" s5_)
 (h6_ : Has K mg "as_make" s6_)
 (h7_ : Has K mg "with_shorter_head" s7_)
 (h8_ : Has K mg "makes_joined" s8_)
 (h9_ : Has K mg "words_joined" s9_)
 (h10_ : Has K mg "_law_mixed" s10_)
 (h11_ : Has K mg "_law_deck" s11_)
 (h12_ : Has K mg "_law_take" s12_)
 (h13_ : Has K mg "_law_signs" s13_)
 (h14_ : Has K mg "_law_text" s14_)
 (h15_ : Has K mg "_law_unlike" s15_)
 (h16_ : Has K mg "_law_mark" s16_)
 (h17_ : Has K mg "_law_some_marks" s17_)
 (h18_ : Has K mg "_law_words" s18_)
 (h19_ : Has K mg "_law_near" s19_)
 (h20_ : Has K mg "_law_words_of" s20_)
 (h21_ : Has K mg "_law_witness" s21_)
 (a22 : PySem.W.nsIn K mainGlobals "law" = some (some (.ref f22))) (l22 : K.lookup f22 = some ⟨u_22, v_22, .func (PySem.W.fnOf "law" "law" (defArgs s22_) (defBody s22_) (defScope s22_) .none w_22 x_22 y_22 t_22 r_22 q_22), p_22⟩) (c22 : PySem.W.codeIn K r_22 "law" = true) (k22 : PySem.W.keepIn K (.ref f22) = true)
    (z0 : PySem.W.nsIn K mainGlobals "len" = some none) (z1 : PySem.W.nsIn K mainGlobals "range" = some none) (z2 : PySem.W.nsIn K mainGlobals "isinstance" = some none) (z3 : PySem.W.nsIn K mainGlobals "int" = some none) (z4 : PySem.W.nsIn K mainGlobals "bool" = some none) (z5 : PySem.W.nsIn K mainGlobals "str" = some none) (z6 : PySem.W.nsIn K mainGlobals "list" = some none) (z7 : PySem.W.nsIn K mainGlobals "tuple" = some none) (z8 : PySem.W.nsIn K mainGlobals "dict" = some none) (z9 : PySem.W.nsIn K mainGlobals "sum" = some none) (z10 : PySem.W.nsIn K mainGlobals "min" = some none) (z11 : PySem.W.nsIn K mainGlobals "max" = some none) (z12 : PySem.W.nsIn K mainGlobals "all" = some none) (z13 : PySem.W.nsIn K mainGlobals "any" = some none) (z14 : PySem.W.nsIn K mainGlobals "abs" = some none) (z15 : PySem.W.nsIn K mainGlobals "zip" = some none) (z16 : PySem.W.nsIn K mainGlobals "sorted" = some none) (z17 : PySem.W.nsIn K mainGlobals "set" = some none) (z18 : PySem.W.nsIn K mainGlobals "enumerate" = some none) {aSIGNS aMARKS : Addr} {tk1 tk2 tk3 tk4 tk5 tk6 tk7 tk8 um1 um2 um3 um4 : Tok} {epS nM : Nat} {ddM : Option Addr} {slM : Array (Option Value)} {tkF : Tok}
    (aS : PySem.W.nsIn K mainGlobals "SIGNS" = some (some (.ref aSIGNS)))
    (lS : K.lookup aSIGNS = some ⟨.type "dict", none, .dict #[{ hash := PyData.keyHash w.params ("figure" : Str), key := .str "figure" tk1, val := .str "0123456789" tk2 }, { hash := PyData.keyHash w.params ("great" : Str), key := .str "great" tk3, val := .str "ABCDEFGHIJKLMNOPQRSTUVWXYZ" tk4 }, { hash := PyData.keyHash w.params ("other" : Str), key := .str "other" tk5, val := .str " !\"#$&'()*+,-./:;<=>?\x40[\\]^_`{|}~" tk6 }, { hash := PyData.keyHash w.params ("small" : Str), key := .str "small" tk7, val := .str "abcdefghijklmnopqrstuvwxyz" tk8 }] epS, #[]⟩)
    (aM : PySem.W.nsIn K mainGlobals "MARKS" = some (some (.ref aMARKS)))
    (lM : K.lookup aMARKS = some ⟨.type "tuple", ddM, .seq #[.str "figure" um1, .str "great" um2, .str "other" um3, .str "small" um4] nM, slM⟩)
    (aF : PySem.W.nsIn K mainGlobals "MOST_FEW" = some (some (.int 6 tkF)))
    (zr : PySem.W.nsIn K mainGlobals "repr" = some none) :
    ∃ fd : FuncData, (∀ (s : Shared) (v : Value), BindsTo s fd ⟨[v], []⟩ [("_law_script", v)]) /\ ∀ base : Heap, K.In base -> base.Ns mainGlobals mg -> FnOk l.prog w K mg base CX0 9 fa fd ["_law_script"] (spLaw K) := by
  have e := hfa.symm.trans (PySem.W.mg_of X G a22)
  cases e
  have B : Own mg := own_mk X G z0 z1 z2 z3 z4 z5 z6 z7 z8 z9 z10 z11 z12 z13 z14 z15 z16 z17 z18
  refine ⟨PySem.W.fnOf "law" "law" (defArgs s22_) (defBody s22_) (defScope s22_) .none w_22 x_22 y_22 t_22 r_22 q_22, fun s v => .of_eq rfl, fun base KB GB => ?_⟩
  have GSIGNS : GlobD K w.params mg "SIGNS" SGN := ⟨aSIGNS, PySem.W.mg_of X G aS, ⟨⟨_, _, lS, ⟨rfl, ⟨_, rfl⟩, ⟨_, rfl⟩, rfl, ⟨_, rfl⟩, ⟨_, rfl⟩, rfl, ⟨_, rfl⟩, ⟨_, rfl⟩, rfl, ⟨_, rfl⟩, ⟨_, rfl⟩, trivial⟩⟩, by decide +kernel⟩⟩
  have TM : ∀ H, SqT K H aMARKS (MK.map V.str) := fun H => .inr ⟨_, _, _, lM, rfl, rfl, by show 4 <= sizeLine; decide, .cons ⟨_, rfl⟩ (.cons ⟨_, rfl⟩ (.cons ⟨_, rfl⟩ (.cons ⟨_, rfl⟩ .nil)))⟩
  have GMARKS : GlobT K mg "MARKS" (.seq true (MK.map sT)) := glob_tup (PySem.W.mg_of X G aM) TM
  have GMOST_FEW : GlobT K mg "MOST_FEW" (iT 6) := ⟨.int 6, _, PySem.W.mg_of X G aF, ⟨_, rfl⟩, fun H => .flat rfl⟩
  have Brepr : mg "repr" = none := PySem.W.mg_none_of X G zr
  have G12_ : PGood l.prog w K mg base 2 "_law_take" ["_law_deck_here", "_law_most"] ptTake := Good.take (g_take h12_ (g_mixed h10_))
  have G13_ : PGood l.prog w K mg base 1 "_law_signs" [] ptSigns := g13_ h13_ B 
  have G14_ : PGood l.prog w K mg base 3 "_law_text" ["_law_deck_here", "_law_most"] ptText := g14_ h14_ B G13_ G12_
  have G15_ : PGood l.prog w K mg base 4 "_law_unlike" ["_law_deck_here", "_law_many", "_law_most"] ptUnlike := g15_ h15_ B G13_ G14_
  have G0_ : PGood l.prog w K mg base 1 "has_mark" ["text", "mark"] ptHasMark := g0_ h0_ B GSIGNS
  have G1_ : PGood l.prog w K mg base 2 "marks_of" ["text"] ptMarksOf := g1_ h1_ B G0_ GMARKS
  have G2_ : PGood l.prog w K mg base 1 "marks_joined" ["one", "other"] ptMJ := g2_ h2_ B 
  have G3_ : PGood l.prog w K mg base 1 "shared_head" ["one", "other"] ptSh := g3_ h3_ B 
  have G4_ : PGood l.prog w K mg base 3 "make_of" ["texts"] ptMakeOf := g4_ h4_ B G3_ G1_
  have G5_ : PGood l.prog w K mg base 4 "words_of" ["texts"] ptWordsOf := g5_ h5_ B G4_ GMOST_FEW
  have G6_ : PGood l.prog w K mg base 4 "as_make" ["words"] ptAsMake := g6_ h6_ B G4_
  have G7_ : PGood l.prog w K mg base 3 "with_shorter_head" ["make", "head"] ptShorter := g7_ h7_ B G2_ G1_
  have G8_ : PGood l.prog w K mg base 4 "makes_joined" ["one", "other"] ptMakesJ := g8_ h8_ B G3_ G7_ G2_
  have G9_ : PGood l.prog w K mg base 5 "words_joined" ["one", "other"] ptWordsJ := g9_ h9_ B G5_ G8_ G6_
  have G16_ : PGood l.prog w K mg base 1 "_law_mark" ["_law_sign"] ptMark := g16_ h16_ B 
  have G21_ : PGood l.prog w K mg base 2 "_law_witness" ["_law_words_here"] ptWit := g21_ h21_ B G13_ G16_
  have G17_ : PGood l.prog w K mg base 3 "_law_some_marks" ["_law_deck_here"] ptSomeM := g17_ h17_ B G12_
  have G18_ : PGood l.prog w K mg base 5 "_law_words" ["_law_deck_here"] ptWordsX := g18_ h18_ B G12_ G14_ G15_ G17_
  have G19_ : PGood l.prog w K mg base 6 "_law_near" ["_law_deck_here", "_law_words_here"] ptNear23 := g19_ h19_ B G12_ G18_ G15_ G17_ G14_
  have G20_ : PGood l.prog w K mg base 2 "_law_words_of" ["_law_texts"] ptWof := g20_ h20_ B G16_
  exact ok_law (fun_mk (st := s22_) l22 c22 k22) B (g_deck h11_ B) G18_ G19_ G20_ G21_ G9_ Brepr
theorem walk {l : PySem.W.OpenLaw} {q : Program} {loose : List Str} {XP : (Str -> Option Value) -> Heap -> Prop} {YP : World -> Heap -> Prop} {d : DefRec} {K : Params -> PySem.W.Frag} (hn : l.most = some 63) (hdf : d.params.defaults = [])
  (hY : ∀ (w : World) (h : Heap), YP w h -> (K w.params).In h)
  (F : ∀ (w : World) (mg : Str -> Option Value) (fa : Addr) (h : Heap), (K w.params).In h -> h.Ns mainGlobals mg -> mg d.name = some (.ref fa) ->
   ∃ fd : FuncData, (∀ (s : Shared) (u : Value), BindsTo s fd ⟨[u], []⟩ [("_law_script", u)]) /\ ∀ base : Heap, (K w.params).In base -> base.Ns mainGlobals mg -> FnOk l.prog w (K w.params) mg base CX0 9 fa fd ["_law_script"] (spLaw (K w.params))) :
  PySem.W.WalkO q loose XP YP l.row.toRowW d [] (fun f vs => PySem.call f vs) :=
 L2.walk_of (n := 63) (k := 9) (x := "_law_script") (CX := fun _ => CX0) (sp := fun w => spLaw (K w.params)) hn (by decide) hdf ⟨rfl, by decide, by decide, rfl⟩ hY F (fun _ _ a ns hl _ hS => ⟨a, ns, rfl, hS, hl, fun _ => rfl⟩) fun _ _ _ _ _ z => z
end My
inductive PySem.W.Fast : Prop
|tw4156297249467836050
|tw11511076776987785216
|tw17701073919783396449
|tw7204370245102124161
|tw13891027830579349729
|tw16527691516163947297
|tw14102362453407257473
|tw13956333436843563490
|tw12869273015072929730
|tw5140959446081123427
|tw10174552247454091651
|tw2120592712352653987
|tw13733610117076243107
|tw15978859378697290659
|tw8458594803778252900
|tw4416982867865824580
|tw13648822129724071460
|tw2628249027303619397
|tw1825691747100147878
|tw4821435039087800038
|tw14656866585483187014
|tw15393398156862386247
|tw8439596459540742247
|tw13688175450253040871
|tw11695134925896714535
|tw15899919926062085160
|tw4092392238805590248
|tw5426133103810958696
|tw13612117292553181928
|tw3675606723539887785
|tw14116097633677311722
|tw4360210668552672491
|tw18275171811630374411
|tw2467715544003429259
|tw2355454696057357644
|tw12187978944616615532
|tw6428408803018176172
|tw10132014159413760175
|tw14274221157429841199
|tw6417325849560325487
|tw8240373551233881807
|tw3159374384977371600
|tw9554518755898402161
|tw16960383194835315186
|tw17497777102360770963
|tw9239607272896484438
|tw1910149187255230294
|tw10316370102831698806
|tw6829973854429922103
|tw2291396086140756280
|tw567592386773151352
|tw1829421459940956313
|tw14373141313648647129
|tw5231482314279046137
|tw791469788593243482
|tw8218500958501373626
|tw8405153352200386234
|tw1023485490022292282
|tw150131887537309562
|tw16827718891710838811
|tw9131853136541198523
|tw3195446016573748923
|tw18332020095032298427
|tw14452496885106707260
|tw16686580767144739708
|tw10526158457464869758
|tw5432376023775864702
|tw9841603420289161823
|tw899786753266497471
open PySem PySem.W PyProof.Rows
set_option maxRecDepth 100000 in
set_option maxHeartbeats 0 in
theorem PySem.Challenge.cw_leastform_k23_words_joined_holds : PySem.Challenge.rw_leastform_k23_words_joined.Holds := by
 w_on; o_law; k_head; (case hw => w_witness2)
 k_fill
 refine My.walk (l := PySem.Challenge.rw_leastform_k23_words_joined) rfl rfl (fun w h Y => PySem.W.kIn_of Y) ?F
 case F =>
  intro w mg fa h KX G hmg
  refine' My.all_mk KX G hmg (L2.has_mk KX G ?a0 ?l0 ?c0 ?k0) (L2.has_mk KX G ?a1 ?l1 ?c1 ?k1) (L2.has_mk KX G ?a2 ?l2 ?c2 ?k2) (L2.has_mk KX G ?a3 ?l3 ?c3 ?k3) (L2.has_mk KX G ?a4 ?l4 ?c4 ?k4) (L2.has_mk KX G ?a5 ?l5 ?c5 ?k5) (L2.has_mk KX G ?a6 ?l6 ?c6 ?k6) (L2.has_mk KX G ?a7 ?l7 ?c7 ?k7) (L2.has_mk KX G ?a8 ?l8 ?c8 ?k8) (L2.has_mk KX G ?a9 ?l9 ?c9 ?k9) (L2.has_mk KX G ?a10 ?l10 ?c10 ?k10) (L2.has_mk KX G ?a11 ?l11 ?c11 ?k11) (L2.has_mk KX G ?a12 ?l12 ?c12 ?k12) (L2.has_mk KX G ?a13 ?l13 ?c13 ?k13) (L2.has_mk KX G ?a14 ?l14 ?c14 ?k14) (L2.has_mk KX G ?a15 ?l15 ?c15 ?k15) (L2.has_mk KX G ?a16 ?l16 ?c16 ?k16) (L2.has_mk KX G ?a17 ?l17 ?c17 ?k17) (L2.has_mk KX G ?a18 ?l18 ?c18 ?k18) (L2.has_mk KX G ?a19 ?l19 ?c19 ?k19) (L2.has_mk KX G ?a20 ?l20 ?c20 ?k20) (L2.has_mk KX G ?a21 ?l21 ?c21 ?k21) ?a22 ?l22 ?c22 ?k22 ?z0 ?z1 ?z2 ?z3 ?z4 ?z5 ?z6 ?z7 ?z8 ?z9 ?z10 ?z11 ?z12 ?z13 ?z14 ?z15 ?z16 ?z17 ?z18 ?aS ?lS ?aM ?lM ?aF ?zr
  any_goals k_is
