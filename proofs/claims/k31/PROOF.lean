import PyProof.Rows.All
import Wide.All
import OpenK.AllK
import Wide.FinOn
import Lean
import PyProof.EqAt
import PyProof.EqKinds
import PyProof.TupleCall
import PyProof.NeKinds
import PyProof.IsiTupleOf
import PyProof.IsiHeapPairs
import PyProof.IsiPairs
import PyProof.ConsumeWalk
import PyProof.Rows.SumAny
import PyProof.FitsBits
import PyProof.Rows.SeqMore
import PyProof.ZipIter
import PyProof.TupleIter
import PyProof.LongRange
import PyProof.Rows.Range3
import PyProof.Rows.SortWalk
import PyProof.Rows.SortStr
import PyProof.StrWalks
import PyProof.DictRoads
import PyProof.MeetsStr
import PyProof.Rows.StrNews2
import PyProof.StrLawsIn
import PyProof.StrLaws
import PyProof.Rows.CatFin
import PyProof.Rows.StrClose5
import PyProof.SetKind
import PyProof.CollectWalk
import PyProof.Seq
import PyProof.ForAny
import PyProof.MakeMany
import PyProof.DictKinds
import PyProof.Rows.StrInSeq
import PyProof.WalkLemmas
import PyProof.Rows.SortShell
import PyProof.Rows.SetFrom
import PyProof.StrOps2
import PyProof.ReprNest
import PyProof.CallFns
import PyProof.StrLawsRepr
import PyProof.FString5
import OpenK.KOwn
import KE.KIsAll
import PyProof.ExcArgsOwn
import KE.RegKIsAll
import PyProof.DictIter
import PyProof.DictItems
import PyProof.DictItemsLoops
import PyProof.DictWalks
import KE.KDictList
import KE.KMinKey
import PyProof.ListRange
import PyProof.Rows.CallKwBuiltin
import KE.KDictOf
import PyProof.AttrMissHeap
import PyProof.EnumMake
import PyProof.EnumFor
import PyProof.Rows.RuleB_bool
import KE.KEqDict
import PyProof.StrCalls6
import PyProof.StrLawsReplace
import PyProof.Rows.FStr
import PyProof.Rows.StrJoin2
import PyProof.WalksMore
import PyProof.TupleOfStr
import KE.KUnpack
import PySem.Challenge.RW_leastform_k31_what_is_a_form
set_option Elab.async false
set_option linter.all false
set_option maxRecDepth 100000
set_option maxHeartbeats 4000000
namespace L2
open PySem PySem.Spec PyProof.Rows
abbrev Key := Sum Int Str
def keyIs : Key -> Value -> Bool
 | .inl k, v => Value.isInt k v
 | .inr x, v => Value.isStrOf x v
def keyH (w : World) : Key -> Int
 | .inl k => hashInt k
 | .inr x => hashStr w x
theorem keyIs_shape : ∀ {k : Key} {v : Value}, keyIs k v = true -> (∃ i t, k = Sum.inl i /\ v = Value.int i t) \/ (∃ x t, k = Sum.inr x /\ v = Value.str x t)
 | .inl i, v, h => by
  obtain ⟨t, e⟩ := Value.isInt_shape (k := i) (v := v) h
  exact .inl ⟨i, t, rfl, e⟩
 | .inr x, v, h => by
  obtain ⟨t, e⟩ := Value.isStrOf_shape (x := x) (v := v) h
  exact .inr ⟨x, t, rfl, e⟩
theorem keyIs_int (i : Int) (t : Tok) : keyIs (.inl i) (.int i t) = true := by simp [keyIs, Value.isInt]
theorem keyIs_str (x : Str) (t : Tok) : keyIs (.inr x) (.str x t) = true := by simp [keyIs, Value.isStrOf]
theorem key_ll (a b : Int) : decide ((Sum.inl a : Key) = Sum.inl b) = (a == b) := by
 by_cases e : a = b
 ·subst e; simp
 ·have h : ¬ (Sum.inl a : Key) = Sum.inl b := fun q => e (Sum.inl.inj q)
  rw [decide_eq_false h]
  exact (beq_eq_false_iff_ne.mpr e).symm
theorem key_rr (a b : Str) : decide ((Sum.inr a : Key) = Sum.inr b) = decide (a = b) := by
 by_cases e : a = b
 ·subst e; simp
 ·have h : ¬ (Sum.inr a : Key) = Sum.inr b := fun q => e (Sum.inr.inj q)
  rw [decide_eq_false h, decide_eq_false e]
theorem key_lr (a : Int) (b : Str) : decide ((Sum.inl a : Key) = Sum.inr b) = false := decide_eq_false (fun q => nomatch q)
theorem key_rl (a : Str) (b : Int) : decide ((Sum.inr a : Key) = Sum.inl b) = false := decide_eq_false (fun q => nomatch q)
def mixKind (prog : Program) (w : World) : PySem.KeyKind prog w Key where
 is := keyIs
 hash := keyH w
 inj := fun v a b ha hb => by
  rcases keyIs_shape ha with ⟨i, t, rfl, rfl⟩ | ⟨x, t, rfl, rfl⟩
  ·rcases keyIs_shape hb with ⟨j, u, rfl, e⟩ | ⟨y, u, rfl, e⟩
   ·injection e with e1 _; rw [e1]
   ·exact nomatch e
  ·rcases keyIs_shape hb with ⟨j, u, rfl, e⟩ | ⟨y, u, rfl, e⟩
   ·exact nomatch e
   ·injection e with e1 _; rw [e1]
 byValue := fun k v h => by
  rcases keyIs_shape h with ⟨i, t, rfl, rfl⟩ | ⟨x, t, rfl, rfl⟩ <;> rfl
 pyHash := fun hv h => by
  rcases keyIs_shape hv with ⟨i, t, rfl, rfl⟩ | ⟨x, t, rfl, rfl⟩
  ·exact wpAny_pyHash_int h
  ·exact wpAny_pyHash_str h
 eqBool := fun hu hv h => by
  rcases keyIs_shape hu with ⟨i, t, rfl, rfl⟩ | ⟨x, t, rfl, rfl⟩
  ·rcases keyIs_shape hv with ⟨j, u, rfl, rfl⟩ | ⟨y, u, rfl, rfl⟩
   ·rw [key_ll] at h; exact wpAny_eqBool_int h
   ·rw [key_lr] at h; exact SeqAt.EqAt.int_str i t y u _ _ _ _ h
  ·rcases keyIs_shape hv with ⟨j, u, rfl, rfl⟩ | ⟨y, u, rfl, rfl⟩
   ·rw [key_rl] at h; exact SeqAt.EqAt.str_int x t j u _ _ _ _ h
   ·rw [key_rr] at h; exact wpAny_eqBool_str h
 «strs» := fun k x t v h => by
  rcases keyIs_shape h with ⟨i, u, rfl, e⟩ | ⟨y, u, rfl, e⟩
  ·exact nomatch e
  ·injection e with e1 _
   subst e1
   cases v <;> rfl
theorem mixKind_int (prog : Program) (w : World) (i : Int) (t : Tok) : (mixKind prog w).is (.inl i) (.int i t) = true := keyIs_int i t
theorem mixKind_str (prog : Program) (w : World) (x : Str) (t : Tok) : (mixKind prog w).is (.inr x) (.str x t) = true := keyIs_str x t
end L2
namespace L2
open PySem PySem.Spec PyProof.Rows
inductive V where
 | non | bl (b : Bool) | int (i : Int) | str (x : Str) | byt (b : Array UInt8) | flt (b : UInt64) | ref (a : Addr) | ty (n : String)
 deriving DecidableEq
def RelV : V -> Value -> Prop
 | .non, u => u = Value.none
 | .bl b, u => u = Value.bool b
 | .int i, u => ∃ t, u = Value.int i t
 | .str x, u => ∃ t, u = Value.str x t
 | .byt b, u => ∃ t, u = Value.bytes b t
 | .flt b, u => ∃ t, u = Value.float b t
 | .ref a, u => u = Value.ref a
 | .ty n, u => u = Value.type n
abbrev Vals : List V -> List Value -> Prop := Paired RelV
theorem Vals.length {xs : List V} {us : List Value} (r : Vals xs us) : xs.length = us.length := Paired.length r
theorem Vals.get : ∀ {xs : List V} {us : List Value} {i : Nat} {x : V}, Vals xs us -> xs[i]? = some x -> ∃ u, us[i]? = some u /\ RelV x u
 | _, _, _, _, .nil, e => by simp at e
 | _, _, 0, _, .cons r _, e => by simp at e; subst e; exact ⟨_, rfl, r⟩
 | _, _, i + 1, x, .cons _ t, e => by
  obtain ⟨u, h1, h2⟩ := Vals.get (i := i) (x := x) t (by simpa using e)
  exact ⟨u, by simpa using h1, h2⟩
theorem Vals.set {x : V} {u : Value} (r : RelV x u) : ∀ {xs : List V} {us : List Value} (i : Nat), Vals xs us -> Vals (xs.set i x) (us.set i u)
 | _, _, _, .nil => .nil
 | _, _, 0, .cons _ t => .cons r t
 | _, _, i + 1, .cons q t => .cons q (Vals.set r i t)
theorem Vals.append : ∀ {xs ys : List V} {us ws : List Value}, Vals xs us -> Vals ys ws -> Vals (xs ++ ys) (us ++ ws)
 | _, _, _, _, .nil, s => s
 | _, _, _, _, .cons r t, s => .cons r (Vals.append t s)
theorem Vals.take : ∀ {xs : List V} {us : List Value} (n : Nat), Vals xs us -> Vals (xs.take n) (us.take n)
 | _, _, 0, _ => .nil
 | _, _, _ + 1, .nil => .nil
 | _, _, n + 1, .cons r t => .cons r (Vals.take n t)
theorem Vals.drop : ∀ {xs : List V} {us : List Value} (n : Nat), Vals xs us -> Vals (xs.drop n) (us.drop n)
 | _, _, 0, r => r
 | _, _, _ + 1, .nil => .nil
 | _, _, n + 1, .cons _ t => Vals.drop n t
def RelO : Option V -> Option Value -> Prop
 | some v, some u => RelV v u
 | none, none => True
 | _, _ => False
def KV {κ : Type} : List (κ × V) -> List (κ × Value) -> Prop := Paired fun (p : κ × V) (q : κ × Value) => p.1 = q.1 /\ RelV p.2 q.2
def kV : Key -> V
 | .inl i => .int i
 | .inr x => .str x
inductive HO where
 /-- a list -/
 | lst (xs : List V)
 /-- a tuple (never changes) -/
 | tup (xs : List V)
 /-- a dict whose keys are ints and texts; one whose keys are tuples of ints and texts (the empty one is both) -/
 | dK (kvs : List (Key × V)) | dT (kvs : List (List Key × V))
 /-- a set of ints: its members, its size -/
 | set (S : Int -> Bool) (n : Nat)
 /-- an instance of the class at C, its dict at dx, its attributes -/
 | ins (C dx : Addr) (fs : List (Str × V))
 /-- the dict of the instance at x -/
 | own (x : Addr)
 /-- the dict of an exception -/
 | xd (fs : List (Str × V))
 /-- a bound method, f of x -/
 | met (f x : Addr)
 /-- a range object lo, lo + 1, .. below hi -/
 | rng (lo hi : Int)
 /-- a thing that is known to the object (the script; a dict while a loop walks it): read, never written while it is so -/
 | frz (o : Obj) (u : HO)
 /-- a code object's table -/
 | tbl (ps : Array Value)
 /-- any other thing, by what is true of its one object (a def of one's own: SetO a S n := HO.ext fun h => ..) -/
 | ext (φ : Heap -> Prop)
abbrev Hp := Addr -> Option HO
def upd (H : Hp) (a : Addr) (o : HO) : Hp := fun b => if b = a then some o else H b
theorem upd_same {H : Hp} {a : Addr} {o : HO} : upd H a o a = some o := by unfold upd; rw [if_pos rfl]
theorem upd_ne {H : Hp} {a b : Addr} {o : HO} (h : b ≠ a) : upd H a o b = H b := by unfold upd; rw [if_neg h]
theorem ne_of_none {H : Hp} {a b : Addr} {o : HO} (h : H a = some o) (h' : H b = none) : a ≠ b := by
 intro e; subst e; rw [h] at h'; cases h'
section
variable (P : Program) (w : World)
def ObjOk (H : Hp) (h : Heap) (a : Addr) : HO -> Prop
 | .lst xs => xs.length <= sizeLine /\ ∃ (its : List Value) (n : Nat), Vals xs its /\ h.get? a = some { cls := .type "list", data := .seq its.toArray n }
 | .tup xs => xs.length <= sizeLine /\ ∃ its : List Value, Vals xs its /\ IsTup h a its.toArray
 | .dK kvs => kvs.length <= sizeLine /\ (a == sysModules) = false /\ ∃ vs, KV kvs vs /\ h.DictOf (mixKind P w) a vs
 | .dT kvs => kvs.length <= sizeLine /\ (a == sysModules) = false /\ ∃ xs : List (List Key × Addr × Value),
   Paired (fun (p : List Key × V) (q : List Key × Addr × Value) => p.1 = q.1 /\ H q.2.1 = some (.tup (p.1.map kV)) /\ RelV p.2 q.2.2) kvs xs /\
   ∃ o es ep, h.get? a = some o /\ o.ExactDict /\ o.data = .dict es ep /\ es.toList = xs.map (entryOfKey (tupleKind (mixKind P w))) /\ (xs.map (·.1)).Nodup
 | .set S n => h.SetOf (intKind P w) a S n
 | .ins C dx fs => H dx = some (.own a) /\ fs.length <= 1000 /\ dx ≠ a /\ h.get? a = some (PySem.W.instObj C dx) /\
   ∃ mA, h.Ns1 dx mA /\ (∀ f, RelO (fs.lookup f) (mA f)) /\ PySem.Within mA (fs.map (·.1))
 | .own _ => ∃ o, h.get? a = some o
 | .xd fs => ∃ mA, h.Ns1 a mA /\ ∀ f, RelO (fs.lookup f) (mA f)
 | .rng lo hi => ∃ t u v, h.get? a = some { cls := .type "range", data := .fields #[.int lo t, .int hi u, .int 1 v] }
 | .frz o u => h.get? a = some o /\ ObjOk H h a u
 | .tbl ps => h.get? a = some { cls := .none, data := .fields ps }
 | .met f x => h.get? a = some (PySem.W.methodObj (.ref f) (.ref x))
 | .ext φ => φ h /\ (∃ o, h.get? a = some o) /\ ∀ h1 h2 : Heap, φ h1 -> (∀ o, h1.get? a = some o -> h2.get? a = some o) -> φ h2
def HOk (H : Hp) (h : Heap) : Prop := ∀ a o, H a = some o -> ObjOk P w H h a o
end
section
variable {P : Program} {w : World} {H H' : Hp} {h h' : Heap} {a : Addr} {o : HO}
theorem ObjOk.lt (x : ObjOk P w H h a o) : a < h.objs.size := by
 cases o with
 | lst xs => obtain ⟨_, _, _, _, e⟩ := x; exact Heap.lt_size e
 | tup xs => obtain ⟨_, _, _, p⟩ := x; exact p.lt
 | dK kvs => obtain ⟨_, _, _, _, o, _, _, e, _⟩ := x; exact Heap.lt_size e
 | dT kvs => obtain ⟨_, _, _, _, o, _, _, e, _⟩ := x; exact Heap.lt_size e
 | set S n => obtain ⟨o, _, _, _, e, _⟩ := x; exact Heap.lt_size e
 | ins C dx fs => obtain ⟨_, _, _, e, _⟩ := x; exact Heap.lt_size e
 | own y => obtain ⟨_, e⟩ := x; exact Heap.lt_size e
 | xd fs => obtain ⟨_, ⟨_, _, _, e, _⟩, _⟩ := x; exact Heap.lt_size e
 | rng lo hi => obtain ⟨_, _, _, e⟩ := x; exact Heap.lt_size e
 | frz ob u => obtain ⟨e, _⟩ := x; exact Heap.lt_size e
 | tbl ps => exact Heap.lt_size (show h.get? a = some _ from x)
 | met f y => exact Heap.lt_size (show h.get? a = some _ from x)
 | ext φ => obtain ⟨_, ⟨_, e⟩, _⟩ := x; exact Heap.lt_size e
theorem Paired.mapP {α β : Type} {F G : α -> β -> Prop} : ∀ {l₁ : List α} {l₂ : List β}, Paired F l₁ l₂ -> (∀ a b, F a b -> G a b) -> Paired G l₁ l₂
 | _, _, .nil, _ => .nil
 | _, _, .cons r t, f => .cons (f _ _ r) (Paired.mapP t f)
theorem ObjOk.stay (x : ObjOk P w H h a o) (k : ∀ b u, (b = a \/ H b = some (.own a)) -> h.get? b = some u -> h'.get? b = some u)
  (ho : ∀ b, H b = some (.own a) -> H' b = some (.own a)) (ht : ∀ b xs, H b = some (.tup xs) -> H' b = some (.tup xs)) : ObjOk P w H' h' a o := by
 induction o with
 | lst xs => obtain ⟨z, its, n, r, e⟩ := x; exact ⟨z, its, n, r, k _ _ (.inl rfl) e⟩
 | tup xs => obtain ⟨z, its, r, ob, e, c⟩ := x; exact ⟨z, its, r, ob, k _ _ (.inl rfl) e, c⟩
 | dK kvs => obtain ⟨z, y, vs, r, ob, es, ep, e, c⟩ := x; exact ⟨z, y, vs, r, ob, es, ep, k _ _ (.inl rfl) e, c⟩
 | dT kvs =>
  obtain ⟨z, y, xs, r, ob, es, ep, e, c⟩ := x
  exact ⟨z, y, xs, Paired.mapP r fun p q z => ⟨z.1, ht _ _ z.2.1, z.2.2⟩, ob, es, ep, k _ _ (.inl rfl) e, c⟩
 | set S n => obtain ⟨ob, es, ep, t, e, c⟩ := x; exact ⟨ob, es, ep, t, k _ _ (.inl rfl) e, c⟩
 | ins C dx fs =>
  obtain ⟨d, z, ne, e, mA, ⟨od, es, ep, e2, c⟩, r⟩ := x
  exact ⟨ho _ d, z, ne, k _ _ (.inl rfl) e, mA, ⟨od, es, ep, k _ _ (.inr d) e2, c⟩, r⟩
 | own y => obtain ⟨ob, e⟩ := x; exact ⟨ob, k _ _ (.inl rfl) e⟩
 | xd fs => obtain ⟨mA, ⟨od, es, ep, e, c⟩, r⟩ := x; exact ⟨mA, ⟨od, es, ep, k _ _ (.inl rfl) e, c⟩, r⟩
 | rng lo hi => obtain ⟨t, u, v, e⟩ := x; exact ⟨t, u, v, k _ _ (.inl rfl) e⟩
 | frz ob u ih => obtain ⟨e, q⟩ := x; exact ⟨k _ _ (.inl rfl) e, ih q⟩
 | tbl ps =>
  have e : h.get? a = some { cls := .none, data := .fields ps } := x
  show h'.get? a = some { cls := .none, data := .fields ps }
  exact k a _ (.inl rfl) e
 | met f y =>
  have e : h.get? a = some (PySem.W.methodObj (.ref f) (.ref y)) := x
  show h'.get? a = some (PySem.W.methodObj (.ref f) (.ref y))
  exact k a _ (.inl rfl) e
 | ext φ => obtain ⟨p, ⟨o, e⟩, st⟩ := x; exact ⟨st _ _ p fun o q => k _ _ (.inl rfl) q, ⟨o, k _ _ (.inl rfl) e⟩, st⟩
theorem HOk.lt (x : HOk P w H h) (e : H a = some o) : a < h.objs.size := (x a o e).lt
theorem HOk.fresh (x : HOk P w H h) (e : h.objs.size <= a) : H a = none := by
 cases q : H a with
 | none => rfl
 | some u => exact absurd (Nat.lt_of_lt_of_le (x.lt q) e) (Nat.lt_irrefl _)
theorem HOk.kept (x : HOk P w H h) (k : ∀ b u, h.get? b = some u -> h'.get? b = some u) : HOk P w H h' := fun a o e =>
 (x a o e).stay (fun b u _ q => k b u q) (fun _ q => q) fun _ _ q => q
theorem HOk.laid (x : HOk P w H h) (k : ∀ b u, h.get? b = some u -> h'.get? b = some u) (hp : h.objs.size <= a) (new : ObjOk P w (upd H a o) h' a o) : HOk P w (upd H a o) h' := fun b u e => by
 have hn := x.fresh hp
 by_cases hb : b = a
 ·subst hb; rw [upd_same] at e; cases e; exact new
 ·rw [upd_ne hb] at e
  exact (x b u e).stay (fun c v _ q => k c v q) (fun c q => by rw [upd_ne (ne_of_none q hn)]; exact q) fun c xs q => by rw [upd_ne (ne_of_none q hn)]; exact q
end
def Rd (H : Hp) (a : Addr) (u : HO) : Prop := H a = some u \/ ∃ o, H a = some (.frz o u)
theorem Rd.ok {P : Program} {w : World} {H : Hp} {h : Heap} {a : Addr} {u : HO} (r : Rd H a u) (x : HOk P w H h) : ObjOk P w H h a u := by
 rcases r with r | ⟨o, r⟩
 ·exact x a u r
 ·obtain ⟨_, q⟩ := x a _ r
  exact q
def Mut : Option HO -> Prop
 | some (.lst _) => True
 | some (.dK _) => True
 | some (.dT _) => True
 | some (.set _ _) => True
 | some (.ins _ _ _) => True
 | some (.ext _) => True
 | _ => False
section
variable {P : Program} {w : World} {H : Hp} {h h' : Heap} {x e : Addr} {o' : HO}
theorem HOk.write (ok : HOk P w H h) (mu : Mut (H x)) (he : e = x \/ H e = some (.own x)) (k : ∀ b u, b ≠ e -> h.get? b = some u -> h'.get? b = some u) (heo : ∃ u, h'.get? e = some u)
  (new : ObjOk P w (upd H x o') h' x o') : HOk P w (upd H x o') h' := fun b u q => by
 have nown : ∀ c y, H c = some (.own y) -> c ≠ x := fun c y r z => by subst z; rw [r] at mu; exact mu
 have ntup : ∀ c xs, H c = some (.tup xs) -> c ≠ x := fun c xs r z => by subst z; rw [r] at mu; exact mu
 by_cases hb : b = x
 ·subst hb; rw [upd_same] at q; cases q; exact new
 ·rw [upd_ne hb] at q
  by_cases hbe : b = e
  ·have q' : H b = some (.own x) := by
    rcases he with z | z
    ·exact absurd (hbe.trans z) hb
    ·rw [hbe]; exact z
   rw [q] at q'; cases q'
   obtain ⟨v, hv⟩ := heo
   exact ⟨v, by rw [hbe]; exact hv⟩
  ·refine (ok b u q).stay (fun c v hc r => k c v ?_ r) (fun c r => by rw [upd_ne (nown c b r)]; exact r) fun c xs r => by rw [upd_ne (ntup c xs r)]; exact r
   rcases hc with rfl | hc
   ·exact hbe
   ·rintro rfl
    rcases he with z | z
    ·exact nown c b hc z
    ·rw [hc] at z; cases z; exact hb rfl
end
structure Un (fs ex : List Addr) (H H' : Hp) (h h' : Heap) : Prop where
 keep : ∀ b o, h.get? b = some o -> H b = none -> b ∉ fs -> b ∉ ex -> h'.get? b = some o
 slot : ∀ b o, h.get? b = some o -> H b = none -> b ∈ fs -> b ∉ ex -> ∃ sl, h'.get? b = some { o with slots := sl }
 free : ∀ b o, h.get? b = some o -> H b = none -> b ∉ ex -> H' b = none
 there : ∀ b o, h.get? b = some o -> b ∉ ex -> ∃ o', h'.get? b = some o'
 tups : ∀ b xs, H b = some (.tup xs) -> H' b = some (.tup xs)
 frzs : ∀ b o u, H b = some (.frz o u) -> H' b = some (.frz o u)
 tbls : ∀ b ps, H b = some (.tbl ps) -> ∃ more, H' b = some (.tbl (ps ++ more))
section
variable {fs fs' ex ex' : List Addr} {H H1 H2 : Hp} {h h1 h2 h' : Heap} {a x e : Addr} {o : HO}
theorem Un.any (u : Un fs ex H H1 h h1) {b : Addr} {ob : Obj} (q : h.get? b = some ob) (n : H b = none) (hx : b ∉ ex) : ∃ sl, h1.get? b = some { ob with slots := sl } := by
 by_cases hb : b ∈ fs
 ·exact u.slot b ob q n hb hx
 ·exact ⟨ob.slots, u.keep b ob q n hb hx⟩
theorem Un.kept (k : ∀ b u, h.get? b = some u -> h'.get? b = some u) : Un fs ex H H h h' :=
 ⟨fun b ob q _ _ _ => k b ob q, fun b ob q _ _ _ => ⟨ob.slots, k b ob q⟩, fun _ _ _ n _ => n, fun b ob q _ => ⟨ob, k b ob q⟩, fun _ _ q => q, fun _ _ _ q => q, fun _ ps q => ⟨#[], by rw [q]; simp⟩⟩
theorem Un.refl : Un fs ex H H h h := Un.kept fun _ _ q => q
theorem Un.laid (k : ∀ b u, h.get? b = some u -> h'.get? b = some u) (hp : h.objs.size <= a) (hn : H a = none) : Un fs ex H (upd H a o) h h' where
 keep := fun b u q _ _ _ => k b u q
 slot := fun b u q _ _ _ => ⟨u.slots, k b u q⟩
 free := fun b u q n _ => by rw [upd_ne (Nat.ne_of_lt (Nat.lt_of_lt_of_le (Heap.lt_size q) hp))]; exact n
 there := fun b u q _ => ⟨u, k b u q⟩
 tups := fun b xs q => by rw [upd_ne (ne_of_none q hn)]; exact q
 frzs := fun b u xs q => by rw [upd_ne (ne_of_none q hn)]; exact q
 tbls := fun b ps q => ⟨#[], by rw [upd_ne (ne_of_none q hn), q]; simp⟩
theorem Un.write (mu : Mut (H x)) (he : e = x \/ H e = some (.own x)) (k : ∀ b u, b ≠ e -> h.get? b = some u -> h'.get? b = some u) (heo : ∃ u, h'.get? e = some u) : Un fs ex H (upd H x o) h h' := by
 have hx : ∀ b, H b = none -> b ≠ x := fun b n z => by subst z; rw [n] at mu; exact mu
 have hb : ∀ b, H b = none -> b ≠ e := fun b n z => by
  subst z
  rcases he with r | r
  ·exact hx b n r
  ·rw [n] at r; cases r
 have hm : ∀ b u, H b = some u -> ¬ Mut (some u) -> b ≠ x := fun b u q nm z => by subst z; rw [q] at mu; exact nm mu
 refine ⟨fun b u q n _ _ => k b u (hb b n) q, fun b u q n _ _ => ⟨u.slots, k b u (hb b n) q⟩, fun b u q n _ => by rw [upd_ne (hx b n)]; exact n, fun b u q _ => ?_,
  fun b xs q => by rw [upd_ne (hm b _ q fun z => z)]; exact q, fun b u xs q => by rw [upd_ne (hm b _ q fun z => z)]; exact q, fun b ps q => ⟨#[], by rw [upd_ne (hm b _ q fun z => z), q]; simp⟩⟩
 by_cases hbe : b = e
 ·subst hbe; exact heo
 ·exact ⟨u, k b u hbe q⟩
end
def trk (h : Heap) (H : Hp) : List Addr := (List.range h.objs.size).filter fun a => (H a).isSome
def hidT (h : Heap) (H : Hp) : Heap := PySem.W.hideAll h (trk h H)
theorem hidT_size (h : Heap) (H : Hp) : (hidT h H).objs.size = h.objs.size := PySem.W.hideAll_size _ _
theorem hidT_get {h : Heap} {H : Hp} {b : Addr} {o : Obj} (e : h.get? b = some o) (n : H b = none) : (hidT h H).get? b = some o :=
 PySem.W.hideAll_get _ e fun hm => by
  have q : (H b).isSome = true := (List.mem_filter.mp hm).2
  rw [n] at q; simp at q
theorem of_hidT {h : Heap} {H : Hp} {b : Addr} {o : Obj} (e : (hidT h H).get? b = some o) : h.get? b = some o /\ H b = none := by
 have e' : h.get? b = some o := PySem.W.of_hideAll (trk h H) e
 refine ⟨e', ?_⟩
 cases q : H b with
 | none => rfl
 | some x =>
  have hm : b ∈ trk h H := List.mem_filter.mpr ⟨List.mem_range.mpr (Heap.lt_size e'), by simp [q]⟩
  have z : (hidT h H).get? b = none := PySem.W.hideAll_none (trk h H) hm
  rw [z] at e; cases e
end L2
namespace L2
open PySem PySem.Spec PyProof.Rows
structure Mod (K : PySem.W.Frag) (mg : Str -> Option Value) (base : Heap) : Prop where
 kin : K.In base
 glob : base.Ns mainGlobals mg
 blt : ∃ mb, base.Ns builtinsNs mb /\ ∀ x : Str, x ≠ "__name__" -> mb x = bootBuiltins x
 nolimit : base.NoLimit
structure Cx where
 prog : Program
 w : World
 K : PySem.W.Frag
 mg : Str -> Option Value
 base : Heap
 A : Around
 N : List Str
 s₀ : Shared
 H₀ : Hp
 env : Env
 outer : List Env
 stack : List Env
 ex : List Addr
 fn : Str -> Bool
 calm : Bool
 pn : List (Addr × Obj)
 xe : Value -> Shared -> Prop
def frs (l : List Env) : List Addr := l.filterMap (·.frame)
abbrev Cx.fs (X : Cx) : List Addr := frs X.outer
def Vis (sc : Scope) (x : Str) : Prop := sc.names.lookup x = some .local \/ sc.names.lookup x = some .cell \/ sc.names.lookup x = some .free
def Loc (sc : Scope) (x : Str) : Prop := sc.names.lookup x = some .local \/ sc.names.lookup x = some .cell
def Look (env : Env) (h : Heap) (m : Str -> Option Value) (x : Str) (u : Value) : Prop :=
 (env.kindOf x = some .local /\ m x = some u) \/ ((env.kindOf x = some .cell \/ env.kindOf x = some .free) /\ ∃ c, env.cells.lookup x = some c /\ h.IsCell c (some u))
structure Cx.Ok (X : Cx) : Prop where
 mod : Mod X.K X.mg X.base
 kind : X.env.scope.kind = .function
 glob : X.env.globals = mainGlobals
 blt : X.env.builtins = builtinsNs
 above : X.s₀.heap.objs.size <= X.env.locals
 inj : ∀ x y c, X.env.cells.lookup x = some c -> X.env.cells.lookup y = some c -> x = y
 has : ∀ x, (X.env.kindOf x = some .cell \/ X.env.kindOf x = some .free) -> ∃ c, X.env.cells.lookup x = some c
 cab : ∀ x c, X.fn x = true -> X.env.cells.lookup x = some c -> X.s₀.heap.objs.size <= c
 hd : X.calm = true -> X.A.handled = none
 frames : X.A.frames = some X.stack
 stk : X.stack = X.outer \/ (X.stack = X.env :: X.outer /\ X.env.frame = some X.env.locals)
 exf : ∀ b ∈ X.ex, b ≠ X.env.locals /\ ∀ x c, X.env.cells.lookup x = some c -> c ≠ b
 bs : ∀ b o, X.base.get? b = some o -> X.s₀.heap.get? b = some o /\ X.H₀ b = none
 bsz : X.base.objs.size <= X.s₀.heap.objs.size
 noex : ∀ b o, X.base.get? b = some o -> b ∉ X.ex
 exfs : ∀ b ∈ X.ex, b ∉ X.fs
 funs : X.s₀.heap.FunFrames X.base X.outer
 frf : ∀ b ∈ X.fs, X.H₀ b = none
structure Inv (X : Cx) (pins : List (Addr × Obj)) (σ : List (Option V)) (H : Hp) (s : Shared) : Prop where
 ok : X.Ok
 os : s.os = X.s₀.os
 bare : AllBare s.gens
 base : Un X.fs X.ex X.H₀ H X.s₀.heap s.heap
 loc : ∃ m, s.heap.Ns X.env.locals m /\ ∀ (i : Nat) (x : Str) (v : V), X.N[i]? = some x -> σ[i]? = some (some v) -> Vis X.env.scope x -> ∃ u, RelV v u /\ Look X.env s.heap m x u
 cell : ∀ x c, X.env.cells.lookup x = some c -> ∃ v, s.heap.IsCell c v
 free : H X.env.locals = none
 freeC : ∀ x c, X.env.cells.lookup x = some c -> H c = none
 pin : ∀ p ∈ X.pn ++ pins, s.heap.get? p.1 = some p.2 /\ H p.1 = none /\ p.1 ≠ X.env.locals /\ p.1 ∉ X.fs /\ ∀ v, p.2.data ≠ .cell v
 hok : HOk X.prog X.w H s.heap
 len : σ.length = X.N.length
section
variable {X : Cx} {pins : List (Addr × Obj)} {σ : List (Option V)} {H H' : Hp} {s : Shared} {h' : Heap}
theorem Cx.Ok.nofr (ok : X.Ok) {b : Addr} {o : Obj} (e : X.base.get? b = some o) : b ∉ X.fs := fun hb => by
 have := (ok.funs.mem hb).1
 rw [e] at this; cases this
theorem Inv.bs (I : Inv X pins σ H s) : ∀ b o, X.base.get? b = some o -> s.heap.get? b = some o /\ H b = none := fun b o e =>
 ⟨I.base.keep b o (I.ok.bs b o e).1 (I.ok.bs b o e).2 (I.ok.nofr e) (I.ok.noex b o e), I.base.free b o (I.ok.bs b o e).1 (I.ok.bs b o e).2 (I.ok.noex b o e)⟩
theorem Inv.bk (I : Inv X pins σ H s) : ∀ b o, X.base.get? b = some o -> s.heap.get? b = some o := fun b o e => (I.bs b o e).1
theorem Inv.mod (I : Inv X pins σ H s) : Mod X.K X.mg X.base := I.ok.mod
theorem Inv.kIn (I : Inv X pins σ H s) : X.K.In s.heap := I.ok.mod.kin.keeps I.bk
theorem Inv.lt (I : Inv X pins σ H s) : X.env.locals < s.heap.objs.size := let ⟨_, hn, _⟩ := I.loc; hn.lt
theorem Inv.sz (I : Inv X pins σ H s) : X.s₀.heap.objs.size <= s.heap.objs.size := Nat.le_trans I.ok.above (Nat.le_of_lt I.lt)
theorem Inv.nofs (I : Inv X pins σ H s) {a : Addr} (h : s.heap.objs.size <= a) : a ∉ X.fs := fun hb => by
 obtain ⟨_, o, ho, _⟩ := I.ok.funs.mem hb
 exact absurd (Nat.lt_of_lt_of_le (Heap.lt_size ho) (Nat.le_trans I.sz h)) (Nat.lt_irrefl _)
theorem Inv.cne (I : Inv X pins σ H s) : ∀ x c, X.env.cells.lookup x = some c -> c ≠ X.env.locals := fun x c e z => by
 obtain ⟨v, o, ho, hd⟩ := I.cell x c e
 obtain ⟨m, ⟨o', es, ep, ho', hd', _⟩, _⟩ := I.loc
 rw [z, ho'] at ho; cases ho; rw [hd'] at hd; cases hd
theorem Inv.funs (I : Inv X pins σ H s) : s.heap.FunFrames X.base X.outer := by
 have all : ∀ (l : List Env), (∀ b ∈ frs l, b ∈ X.fs) -> X.s₀.heap.FunFrames X.base l -> s.heap.FunFrames X.base l := by
  intro l
  induction l with
  | nil => intro _ _; trivial
  | cons env r ih =>
   intro hs hl
   obtain ⟨hk, ⟨L, o, hf, hn, ho, hd⟩, hr⟩ := hl
   have hL : L ∈ X.fs := hs L (by unfold frs; rw [List.filterMap_cons, hf]; exact List.mem_cons_self)
   obtain ⟨sl, e⟩ := I.base.slot L o ho (I.ok.frf L hL) hL fun z => I.ok.exfs L z hL
   exact ⟨hk, ⟨L, _, hf, hn, e, hd⟩, ih (fun b hb => hs b (by unfold frs; rw [List.filterMap_cons, hf]; exact List.mem_cons_of_mem _ hb)) hr⟩
 exact all X.outer (fun _ hb => hb) I.ok.funs
theorem Inv.stack (I : Inv X pins σ H s) : s.heap.FunFrames X.base X.stack := by
 rcases I.ok.stk with e | ⟨e, hf⟩
 ·rw [e]; exact I.funs
 ·rw [e]
  obtain ⟨m, hn, _⟩ := I.loc
  refine .cons (by rw [I.ok.kind]; decide) hf hn ?_ I.funs
  exact Heap.get?_none_of_le (Nat.le_trans I.ok.bsz I.ok.above)
theorem Inv.stkSub (I : Inv X pins σ H s) : ∀ b ∈ frs X.stack, b ∈ X.env.locals :: X.fs := fun b hb => by
 rcases I.ok.stk with e | ⟨e, hf⟩
 ·rw [e] at hb; exact List.mem_cons_of_mem _ hb
 ·rw [e] at hb
  unfold frs at hb
  rw [List.filterMap_cons, hf] at hb
  exact hb
theorem Inv.stkFree (I : Inv X pins σ H s) : ∀ b ∈ frs X.stack, H b = none := fun b hb => by
 rcases List.mem_cons.mp (I.stkSub b hb) with e | hb
 ·rw [e]; exact I.free
 ·obtain ⟨_, o, ho, _⟩ := I.ok.funs.mem hb
  exact I.base.free b o ho (I.ok.frf b hb) fun z => I.ok.exfs b z hb
theorem Inv.step {g' : Array GenState} {t' : Nat} {d' : Drawn} {ch : List Addr} (I : Inv X pins σ H s)
  (hch : ∀ b ∈ ch, (b ∈ X.ex \/ X.s₀.heap.objs.size <= b) /\ b ≠ X.env.locals /\ (∀ x c, X.env.cells.lookup x = some c -> c ≠ b) /\ ∀ p ∈ X.pn ++ pins, p.1 ≠ b)
  (keep : ∀ b o, b ≠ X.env.locals -> b ∉ X.fs -> b ∉ ch -> s.heap.get? b = some o -> H b = none -> h'.get? b = some o)
  (slot : ∀ b o, b ≠ X.env.locals -> b ∈ X.fs -> b ∉ ch -> s.heap.get? b = some o -> H b = none -> ∃ sl, h'.get? b = some { o with slots := sl }) (free : ∀ b o, b ∉ ch -> s.heap.get? b = some o -> H b = none -> H' b = none)
  (there : ∀ b o, b ∉ ch -> s.heap.get? b = some o -> ∃ o', h'.get? b = some o')
  (tups : ∀ b xs, H b = some (.tup xs) -> H' b = some (.tup xs)) (frzs : ∀ b o u, H b = some (.frz o u) -> H' b = some (.frz o u)) (tbls : ∀ b ps, H b = some (.tbl ps) -> ∃ more, H' b = some (.tbl (ps ++ more)))
  (ns : ∀ m, s.heap.Ns X.env.locals m -> h'.Ns X.env.locals m) (hok : HOk X.prog X.w H' h') (hg : AllBare g') :
  Inv X pins σ H' { s with heap := h', gens := g', drawn := d', toks := t' } := by
 have neL : ∀ b o, X.s₀.heap.get? b = some o -> b ≠ X.env.locals := fun b o e => Nat.ne_of_lt (Nat.lt_of_lt_of_le (Heap.lt_size e) I.ok.above)
 have neC : ∀ b o, X.s₀.heap.get? b = some o -> b ∉ X.ex -> b ∉ ch := fun b o e hx hb => by
  rcases (hch b hb).1 with z | z
  ·exact hx z
  ·exact absurd (Nat.lt_of_lt_of_le (Heap.lt_size e) z) (Nat.lt_irrefl _)
 have cellK : ∀ x c, X.env.cells.lookup x = some c -> ∀ v, s.heap.IsCell c v -> h'.IsCell c v := fun x c e v ⟨o, ho, hd⟩ => by
  have nch : c ∉ ch := fun z => (hch c z).2.2.1 x c e rfl
  by_cases hc : c ∈ X.fs
  ·obtain ⟨sl, q⟩ := slot c o (I.cne x c e) hc nch ho (I.freeC x c e)
   exact ⟨_, q, hd⟩
  ·exact ⟨o, keep c o (I.cne x c e) hc nch ho (I.freeC x c e), hd⟩
 refine ⟨I.ok, I.os, hg, ⟨fun b o e n hb hx => ?_, fun b o e n hb hx => ?_, fun b o e n hx => ?_, fun b o e hx => ?_, fun b xs e => tups b xs (I.base.tups b xs e), fun b o xs e => frzs b o xs (I.base.frzs b o xs e), fun b ps e => ?_⟩, ?_, fun x c e => ?_, ?_, fun x c e => ?_, fun p hp => ?_, hok, I.len⟩
 ·exact keep b o (neL b o e) hb (neC b o e hx) (I.base.keep b o e n hb hx) (I.base.free b o e n hx)
 ·obtain ⟨sl, e1⟩ := I.base.slot b o e n hb hx
  obtain ⟨sl', e2⟩ := slot b _ (neL b o e) hb (neC b o e hx) e1 (I.base.free b o e n hx)
  exact ⟨sl', e2⟩
 ·obtain ⟨o', e1⟩ := I.base.there b o e hx
  exact free b o' (neC b o e hx) e1 (I.base.free b o e n hx)
 ·obtain ⟨o', e1⟩ := I.base.there b o e hx
  exact there b o' (neC b o e hx) e1
 ·obtain ⟨m1, e1⟩ := I.base.tbls b ps e
  obtain ⟨m2, e2⟩ := tbls b _ e1
  exact ⟨m1 ++ m2, by rw [e2, Array.append_assoc]⟩
 ·obtain ⟨m, hn, hl⟩ := I.loc
  refine ⟨m, ns m hn, fun i x v e1 e2 e3 => ?_⟩
  obtain ⟨u, r, l⟩ := hl i x v e1 e2 e3
  refine ⟨u, r, ?_⟩
  rcases l with l | ⟨k, c, e, z⟩
  ·exact .inl l
  ·exact .inr ⟨k, c, e, cellK x c e _ z⟩
 ·obtain ⟨v, z⟩ := I.cell x c e
  exact ⟨v, cellK x c e v z⟩
 ·obtain ⟨m, ⟨o, _, _, ho, _⟩, _⟩ := I.loc
  exact free _ o (fun z => (hch _ z).2.1 rfl) ho I.free
 ·obtain ⟨v, o, ho, hd⟩ := I.cell x c e
  exact free c o (fun z => (hch c z).2.2.1 x c e rfl) ho (I.freeC x c e)
 ·obtain ⟨e, n, ne, nf, d⟩ := I.pin p hp
  have nch : p.1 ∉ ch := fun z => (hch p.1 z).2.2.2 p hp rfl
  exact ⟨keep p.1 p.2 ne nf nch e n, free p.1 p.2 nch e n, ne, nf, d⟩
theorem Inv.un {t' : Nat} (I : Inv X pins σ H s) (u : Un X.fs [] H H' s.heap h') (hok : HOk X.prog X.w H' h') : Inv X pins σ H' { s with heap := h', toks := t' } := by
 obtain ⟨m, ⟨o, es, ep, ho, r⟩, _⟩ := id I.loc
 obtain ⟨sl, hL⟩ := u.any ho I.free (by simp)
 exact I.step (g' := s.gens) (d' := s.drawn) (ch := []) (fun _ z => nomatch z) (fun b o _ hb _ e n => u.keep b o e n hb (by simp)) (fun b o _ hb _ e n => u.slot b o e n hb (by simp)) (fun b o _ e n => u.free b o e n (by simp)) (fun b o _ e => u.there b o e (by simp)) u.tups u.frzs u.tbls (fun m' hm => by
  obtain ⟨o', es', ep', ho', r'⟩ := hm
  rw [ho] at ho'; cases ho'
  exact ⟨_, es', ep', hL, r'⟩) hok I.bare
theorem Inv.call {g' : Array GenState} {t' : Nat} {d' : Drawn} {ch : List Addr} (I : Inv X pins σ H s) (u : Un (frs X.stack) ch H H' s.heap h') (hok : HOk X.prog X.w H' h') (hg : AllBare g')
  (hch : ∀ b ∈ ch, (b ∈ X.ex \/ X.s₀.heap.objs.size <= b) /\ b ≠ X.env.locals /\ (∀ x c, X.env.cells.lookup x = some c -> c ≠ b) /\ ∀ p ∈ X.pn ++ pins, p.1 ≠ b) :
  Inv X pins σ H' { s with heap := h', gens := g', drawn := d', toks := t' } := by
 obtain ⟨m, ⟨o, es, ep, ho, r⟩, _⟩ := id I.loc
 obtain ⟨sl, hL⟩ := u.any ho I.free fun z => (hch _ z).2.1 rfl
 exact I.step (ch := ch) hch (fun b o hL hb hc e n => u.keep b o e n (fun z => (List.mem_cons.mp (I.stkSub b z)).elim hL hb) hc) (fun b o _ _ hc e n => u.any e n hc) (fun b o hc e n => u.free b o e n hc) (fun b o hc e => u.there b o e hc) u.tups u.frzs u.tbls (fun m' hm => by
  obtain ⟨o', es', ep', ho', r'⟩ := hm
  rw [ho] at ho'; cases ho'
  exact ⟨_, es', ep', hL, r'⟩) hok hg
theorem Inv.turned {t' : Nat} {it : Addr} (I : Inv X pins σ H s) (k : ∀ b o, b ≠ it -> s.heap.get? b = some o -> h'.get? b = some o) (hn : H it = none) (hL : it ≠ X.env.locals)
  (h1 : it ∈ X.ex \/ X.s₀.heap.objs.size <= it) (h2 : ∀ x c, X.env.cells.lookup x = some c -> c ≠ it) (h3 : ∀ p ∈ X.pn ++ pins, p.1 ≠ it) : Inv X pins σ H { s with heap := h', toks := t' } := by
 have nit : ∀ b u, H b = some u -> b ≠ it := fun b u e z => by rw [z, hn] at e; cases e
 refine I.step (g' := s.gens) (d' := s.drawn) (ch := [it]) (fun b hb => ?_) (fun b o _ _ hc e _ => k b o (fun z => hc (by simp [z])) e) (fun b o _ _ hc e _ => ⟨o.slots, k b o (fun z => hc (by simp [z])) e⟩) (fun _ _ _ _ n => n)
  (fun b o hc e => ⟨o, k b o (fun z => hc (by simp [z])) e⟩) (fun _ _ e => e) (fun _ _ _ e => e) (fun b ps e => ⟨#[], by rw [e]; simp⟩) (fun m hm => ?_) (fun b u e => ?_) I.bare
 ·have e : b = it := by simpa using hb
  subst e
  exact ⟨h1, hL, h2, h3⟩
 ·obtain ⟨o, es, ep, ho, r⟩ := hm
  exact ⟨o, es, ep, k _ o (Ne.symm hL) ho, r⟩
 ·refine (I.hok b u e).stay (fun c v hc q => k c v ?_ q) (fun _ q => q) fun _ _ q => q
  rcases hc with z | z
  ·rw [z]; exact nit b u e
  ·exact nit c _ z
theorem Inv.tok (I : Inv X pins σ H s) (t : Nat) : Inv X pins σ H { s with toks := t } := I.un (h' := s.heap) (t' := t) Un.refl I.hok
theorem Inv.kept {t' : Nat} (I : Inv X pins σ H s) (k : ∀ b u, s.heap.get? b = some u -> h'.get? b = some u) : Inv X pins σ H { s with heap := h', toks := t' } := I.un (Un.kept k) (I.hok.kept k)
theorem Inv.laid {a : Addr} {o : HO} {t' : Nat} (I : Inv X pins σ H s) (k : ∀ b u, s.heap.get? b = some u -> h'.get? b = some u) (hp : s.heap.objs.size <= a) (new : ObjOk X.prog X.w (upd H a o) h' a o) :
  Inv X pins σ (upd H a o) { s with heap := h', toks := t' } := I.un (Un.laid k hp (I.hok.fresh hp)) (I.hok.laid k hp new)
theorem Inv.write {x e : Addr} {o : HO} {t' : Nat} (I : Inv X pins σ H s) (mu : Mut (H x)) (he : e = x \/ H e = some (.own x)) (k : ∀ b u, b ≠ e -> s.heap.get? b = some u -> h'.get? b = some u) (heo : ∃ u, h'.get? e = some u)
  (new : ObjOk X.prog X.w (upd H x o) h' x o) : Inv X pins σ (upd H x o) { s with heap := h', toks := t' } := I.un (Un.write mu he k heo) (I.hok.write mu he k heo new)
theorem Inv.weak {σ' : List (Option V)} (I : Inv X pins σ H s) (hl : σ'.length = σ.length) (w : ∀ (i : Nat) v, σ'[i]? = some (some v) -> σ[i]? = some (some v)) : Inv X pins σ' H s :=
 ⟨I.ok, I.os, I.bare, I.base, let ⟨m, hn, hl'⟩ := I.loc; ⟨m, hn, fun i x v e1 e2 e3 => hl' i x v e1 (w i v e2) e3⟩, I.cell, I.free, I.freeC, I.pin, I.hok, hl.trans I.len⟩
theorem Inv.pins_of {pins' : List (Addr × Obj)} (I : Inv X pins σ H s) (h : ∀ p ∈ pins', s.heap.get? p.1 = some p.2 /\ H p.1 = none /\ p.1 ≠ X.env.locals /\ p.1 ∉ X.fs /\ ∀ v, p.2.data ≠ .cell v) : Inv X pins' σ H s :=
 ⟨I.ok, I.os, I.bare, I.base, I.loc, I.cell, I.free, I.freeC, fun p hp => (List.mem_append.mp hp).elim (fun z => I.pin p (List.mem_append_left _ z)) (h p), I.hok, I.len⟩
theorem nodup_ix {N : List Str} (hN : N.Nodup) {i j : Nat} {x : Str} (a : N[i]? = some x) (b : N[j]? = some x) : i = j := by
 obtain ⟨h1, e1⟩ := List.getElem?_eq_some_iff.mp a
 obtain ⟨h2, e2⟩ := List.getElem?_eq_some_iff.mp b
 exact (List.getElem_inj hN).mp (e1.trans e2.symm)
theorem store_ok2 {M : Model} {A : Around} {E : Value -> Shared -> Prop} {i : Nat} {x : Str} {v : V} {u : Value} {Q : Unit -> Shared -> Prop} (I : Inv X pins σ H s) (hN : X.N.Nodup) (hi : X.N[i]? = some x) (hx : Loc X.env.scope x) (r : RelV v u)
  (h : ∀ s', Inv X pins (σ.set i (some v)) H s' -> (∃ a, Heap.SameBut a s.heap s'.heap /\ (a = X.env.locals \/ X.env.cells.lookup x = some a)) -> Q () s') (hf : X.fn x = true \/ X.env.scope.names.lookup x = some .local := by first | exact .inl rfl | exact .inr rfl | assumption) : wpAny M A (storeName X.env x u) Q E s := by
 obtain ⟨m, hn, hl⟩ := id I.loc
 have hcls : (X.env.scope.kind == .class || (X.env.scope.kind == .module && X.env.locals != X.env.globals)) = false := by rw [I.ok.kind]; rfl
 have hiσ : i < σ.length := by rw [I.len]; exact (List.getElem?_eq_some_iff.mp hi).1
 have cne := I.cne
 have tracked : ∀ {a : Addr} {h' : Heap}, (∃ o, s.heap.get? a = some o /\ H a = none) -> Heap.SameBut a s.heap h' -> HOk X.prog X.w H h' := fun {a h'} ha hs b ob e => by
  obtain ⟨_, _, hfree⟩ := ha
  refine (I.hok b ob e).stay (fun c w' hc q => (hs.2 c ?_).trans q) (fun _ q => q) fun _ _ q => q
  rintro rfl
  rcases hc with rfl | hc
  ·rw [hfree] at e; cases e
  ·rw [hfree] at hc; cases hc
 rcases hx with hk | hk
 ·refine wpAny_storeName_local hk hn (fun h' hn' hs => ?_) hcls
  obtain ⟨oL, _, _, hoL, _⟩ := id hn
  refine h _ ⟨I.ok, I.os, I.bare, ⟨fun b o e n hb hx => ?_, fun b o e n hb hx => ?_, I.base.free, fun b o e hx => ?_, I.base.tups, I.base.frzs, I.base.tbls⟩, ⟨_, hn', fun j y v' e1 e2 e3 => ?_⟩, fun y c e => ?_, I.free, I.freeC, fun p hp => ?_, tracked ⟨oL, hoL, I.free⟩ hs, by simpa using I.len⟩ ⟨_, hs, .inl rfl⟩
  ·exact (hs.2 b (Nat.ne_of_lt (Nat.lt_of_lt_of_le (Heap.lt_size e) I.ok.above))).trans (I.base.keep b o e n hb hx)
  ·obtain ⟨sl, e1⟩ := I.base.slot b o e n hb hx
   exact ⟨sl, (hs.2 b (Nat.ne_of_lt (Nat.lt_of_lt_of_le (Heap.lt_size e) I.ok.above))).trans e1⟩
  ·obtain ⟨o', e1⟩ := I.base.there b o e hx
   exact ⟨o', (hs.2 b (Nat.ne_of_lt (Nat.lt_of_lt_of_le (Heap.lt_size e) I.ok.above))).trans e1⟩
  ·by_cases hj : j = i
   ·subst hj
    rw [hi] at e1; cases e1
    rw [List.getElem?_set_self hiσ] at e2
    cases e2
    exact ⟨u, r, .inl ⟨hk, by simp⟩⟩
   ·rw [List.getElem?_set_ne (Ne.symm hj)] at e2
    obtain ⟨u', r', q⟩ := hl j y v' e1 e2 e3
    refine ⟨u', r', ?_⟩
    rcases q with ⟨k, e⟩ | ⟨k, c, e, z⟩
    ·refine .inl ⟨k, ?_⟩
     have : y ≠ x := fun e => hj (nodup_ix hN e1 (e ▸ hi))
     simp [this, e]
    ·exact .inr ⟨k, c, e, z.sameBut hs (cne y c e)⟩
  ·obtain ⟨w', z⟩ := I.cell y c e
   exact ⟨w', z.sameBut hs (cne y c e)⟩
  ·obtain ⟨e, n, ne, nf, d⟩ := I.pin p hp
   exact ⟨(hs.2 p.1 ne).trans e, n, ne, nf, d⟩
 ·have hfn : X.fn x = true := by
   rcases hf with z | z
   ·exact z
   ·rw [z] at hk; cases hk
  obtain ⟨c, hc⟩ := I.ok.has x (.inl hk)
  obtain ⟨w', z⟩ := I.cell x c hc
  refine wpAny_storeName_cell I.ok.kind hk hc z (fun h' hc' hs => ?_)
  obtain ⟨oc, hoc, hocd⟩ := id z
  refine h { s with heap := h' } ⟨I.ok, I.os, I.bare, ⟨fun b o e n hb hx => ?_, fun b o e n hb hx => ?_, I.base.free, fun b o e hx => ?_, I.base.tups, I.base.frzs, I.base.tbls⟩, ⟨m, hn.sameBut hs (Ne.symm (cne x c hc)), fun j y v' e1 e2 e3 => ?_⟩, fun y c' e => ?_, I.free, I.freeC, fun p hp => ?_, tracked ⟨oc, hoc, I.freeC x c hc⟩ hs, by simpa using I.len⟩ ⟨c, hs, .inr hc⟩
  ·exact (hs.2 b (Nat.ne_of_lt (Nat.lt_of_lt_of_le (Heap.lt_size e) (I.ok.cab x c hfn hc)))).trans (I.base.keep b o e n hb hx)
  ·obtain ⟨sl, e1⟩ := I.base.slot b o e n hb hx
   exact ⟨sl, (hs.2 b (Nat.ne_of_lt (Nat.lt_of_lt_of_le (Heap.lt_size e) (I.ok.cab x c hfn hc)))).trans e1⟩
  ·obtain ⟨o', e1⟩ := I.base.there b o e hx
   exact ⟨o', (hs.2 b (Nat.ne_of_lt (Nat.lt_of_lt_of_le (Heap.lt_size e) (I.ok.cab x c hfn hc)))).trans e1⟩
  ·by_cases hj : j = i
   ·subst hj
    rw [hi] at e1; cases e1
    rw [List.getElem?_set_self hiσ] at e2
    cases e2
    exact ⟨u, r, .inr ⟨.inl hk, c, hc, hc'⟩⟩
   ·rw [List.getElem?_set_ne (Ne.symm hj)] at e2
    obtain ⟨u', r', q⟩ := hl j y v' e1 e2 e3
    refine ⟨u', r', ?_⟩
    rcases q with q | ⟨k, c', e, z'⟩
    ·exact .inl q
    ·refine .inr ⟨k, c', e, z'.sameBut hs ?_⟩
     rintro rfl
     exact hj (nodup_ix hN e1 (I.ok.inj _ _ _ e hc ▸ hi))
  ·by_cases hcc : c' = c
   ·subst hcc; exact ⟨_, hc'⟩
   ·obtain ⟨w2, z2⟩ := I.cell y c' e
    exact ⟨w2, z2.sameBut hs hcc⟩
  ·obtain ⟨e, n, ne, nf, d⟩ := I.pin p hp
   refine ⟨(hs.2 p.1 ?_).trans e, n, ne, nf, d⟩
   intro q
   rw [q, hoc] at e
   have q' : oc = p.2 := Option.some.inj e
   exact d w' (by rw [<- q']; exact hocd)
theorem store_ok {M : Model} {A : Around} {E : Value -> Shared -> Prop} {i : Nat} {x : Str} {v : V} {u : Value} {Q : Unit -> Shared -> Prop} (I : Inv X pins σ H s) (hN : X.N.Nodup) (hi : X.N[i]? = some x) (hx : Loc X.env.scope x) (r : RelV v u)
  (h : ∀ s', Inv X pins (σ.set i (some v)) H s' -> Q () s') (hf : X.fn x = true \/ X.env.scope.names.lookup x = some .local := by first | exact .inl rfl | exact .inr rfl | assumption) : wpAny M A (storeName X.env x u) Q E s :=
 store_ok2 I hN hi hx r (fun s' I' _ => h s' I') hf
theorem Inv.call' {s' : Shared} {ch : List Addr} (I : Inv X pins σ H s) (ho : s'.os = s.os) (u : Un (frs X.stack) ch H H' s.heap s'.heap) (hok : HOk X.prog X.w H' s'.heap) (hg : AllBare s'.gens)
  (hch : ∀ b ∈ ch, (b ∈ X.ex \/ X.s₀.heap.objs.size <= b) /\ b ≠ X.env.locals /\ (∀ x c, X.env.cells.lookup x = some c -> c ≠ b) /\ ∀ p ∈ X.pn ++ pins, p.1 ≠ b) : Inv X pins σ H' s' := by
 obtain ⟨h', g', d', t', o'⟩ := s'
 have e : o' = s.os := ho
 subst e
 exact I.call (g' := g') (t' := t') (d' := d') u hok hg hch
end
abbrev XK := Value -> Option Addr -> Hp -> Prop
abbrev St := List (Option V)
abbrev VK := V -> Hp -> Prop
abbrev TE := St -> Hp -> VK -> Prop
abbrev TT := St -> Hp -> (Bool -> Hp -> Prop) -> Prop
abbrev TA := St -> Hp -> (List V -> Hp -> Prop) -> Prop
structure Ends where
 nx : St -> Hp -> Prop
 rt : VK
 bk : St -> Hp -> Prop := fun _ _ => False
 ct : St -> Hp -> Prop := fun _ _ => False
abbrev TS := Ends -> St -> Hp -> Prop
def EP (X : Cx) (pins : List (Addr × Obj)) (σ : St) (Q : VK) (u : Value) (s' : Shared) : Prop := ∃ v H', Inv X pins σ H' s' /\ RelV v u /\ Q v H'
def TP (X : Cx) (pins : List (Addr × Obj)) (σ : St) (Q : Bool -> Hp -> Prop) (b : Bool) (s' : Shared) : Prop := ∃ H', Inv X pins σ H' s' /\ Q b H'
def AP (X : Cx) (pins : List (Addr × Obj)) (σ : St) (Q : List V -> Hp -> Prop) (us : List Value) (s' : Shared) : Prop := ∃ vs H', Inv X pins σ H' s' /\ Vals vs us /\ Q vs H'
def SP (X : Cx) (pins : List (Addr × Obj)) (D : Ends) (f : Flow) (s' : Shared) : Prop :=
 match f with
 | .next => ∃ σ' H', Inv X pins σ' H' s' /\ D.nx σ' H'
 | .brk => ∃ σ' H', Inv X pins σ' H' s' /\ D.bk σ' H'
 | .cont => ∃ σ' H', Inv X pins σ' H' s' /\ D.ct σ' H'
 | .ret u => ∃ v σ' H', Inv X pins σ' H' s' /\ RelV v u /\ D.rt v H'
def PE (X : Cx) (e : Expr) (t : TE) : Prop :=
 ∀ (pins : List (Addr × Obj)) (s : Shared) (σ : St) (H : Hp) (Q : VK), Inv X pins σ H s -> t σ H Q -> wpAny (model X.prog X.w) X.A (eval e X.env) (EP X pins σ Q) X.xe s
def PT (X : Cx) (e : Expr) (t : TT) : Prop :=
 ∀ (pins : List (Addr × Obj)) (s : Shared) (σ : St) (H : Hp) (Q : Bool -> Hp -> Prop), Inv X pins σ H s -> t σ H Q -> wpAny (model X.prog X.w) X.A (isTrue e X.env (eval e X.env)) (TP X pins σ Q) X.xe s
def PW (X : Cx) (e : Expr) (t : TT) : Prop :=
 ∀ (whole : Sem Value) (pins : List (Addr × Obj)) (s : Shared) (σ : St) (H : Hp) (Q : Bool -> Hp -> Prop), Inv X pins σ H s -> t σ H Q -> wpAny (model X.prog X.w) X.A (isTrue e X.env whole) (TP X pins σ Q) X.xe s
theorem PW.pt {X : Cx} {e : Expr} {t : TT} (h : PW X e t) : PT X e t := h _
def PA (X : Cx) (es : List Expr) (t : TA) : Prop :=
 ∀ (pos : Pos) (pins : List (Addr × Obj)) (s : Shared) (σ : St) (H : Hp) (Q : List V -> Hp -> Prop), Inv X pins σ H s -> t σ H Q -> wpAny (model X.prog X.w) X.A (spliced (backTo pos (starEach es X.env))) (AP X pins σ Q) X.xe s
def PS (X : Cx) (st : Stmt) (t : TS) : Prop :=
 ∀ (pins : List (Addr × Obj)) (s : Shared) (σ : St) (H : Hp) (D : Ends), Inv X pins σ H s -> t D σ H -> wpAny (model X.prog X.w) X.A (exec st X.env) (SP X pins D) X.xe s
def PSs (X : Cx) (st : List Stmt) (t : TS) : Prop :=
 ∀ (pins : List (Addr × Obj)) (s : Shared) (σ : St) (H : Hp) (D : Ends), Inv X pins σ H s -> t D σ H -> wpAny (model X.prog X.w) X.A (execs st X.env) (SP X pins D) X.xe s
theorem thn {α : Type} {t : Sem α} {Q Q' : α -> Shared -> Prop} {M : Model} {A : Around} {E : Value -> Shared -> Prop} {s : Shared} (h : wpAny M A t Q E s) (hQ : ∀ a s, Q a s -> Q' a s) : wpAny M A t Q' E s := wpAny_mono h hQ fun _ _ x => x
end L2
namespace L2
open PySem PySem.Spec PyProof.Rows
section
variable {X : Cx}
def tVar (i : Nat) : TE := fun σ H Q => ∃ v, σ[i]? = some (some v) /\ Q v H
def tC (v : V) : TE := fun _ H Q => Q v H
theorem pe_var {i : Nat} {x : Str} {pos : Pos} (hN : X.N[i]? = some x) (hv : Vis X.env.scope x) (hd : (x == ("__debug__" : Str)) = false := by decide) (hcd : (x == ("__classdict__" : Str)) = false := by decide) : PE X (.Name x pos) (tVar i) := by
 intro pins s σ H Q I h
 obtain ⟨v, e, h⟩ := h
 obtain ⟨m, hn, hl⟩ := I.loc
 obtain ⟨u, r, l⟩ := hl i x v hN e hv
 have fin : EP X pins σ Q u s := ⟨v, H, I, r, h⟩
 rcases l with ⟨hk, hm⟩ | ⟨hk, c, hc, hcell⟩
 ·exact wpAny_Name (wpAny_loadName_local I.ok.kind hk hn hm fin) hd
 ·rcases hk with hk | hk
  ·exact wpAny_Name (wpAny_loadName_cell I.ok.kind hk hc hcell fin) hd
  ·exact wpAny_Name (wpAny_loadName_free I.ok.kind hk hc hcell fin hcd) hd
theorem pe_int {i j pos} : PE X (.Constant (.int i) j pos) (tC (.int i)) := fun _ _ _ H _ I h => wpAny_Constant_int ⟨.int i, H, I.tok _, ⟨_, rfl⟩, h⟩
theorem pe_bl {b j pos} : PE X (.Constant (.bool b) j pos) (tC (.bl b)) := fun _ _ _ H _ I h => Constant_bool ⟨.bl b, H, I, rfl, h⟩
theorem pe_non {j pos} : PE X (.Constant .none j pos) (tC .non) := fun _ _ _ H _ I h => Constant_none ⟨.non, H, I, rfl, h⟩
theorem pe_str {x j pos} : PE X (.Constant (.str x) j pos) (tC (.str x)) := fun _ _ _ H _ I h => Calls.Constant_str ⟨.str x, H, I.tok _, ⟨_, rfl⟩, h⟩
def Gl (X : Cx) (x : Str) : Prop := X.env.kindOf x = some .globalImplicit
theorem ld_glob {E : Value -> Shared -> Prop} {pins : List (Addr × Obj)} {s : Shared} {σ : St} {H : Hp} {x : Str} {u : Value} {pos : Pos} {Q : Value -> Shared -> Prop} (I : Inv X pins σ H s) (hg : Gl X x) (hm : X.mg x = some u) (h : Q u s)
  (hd : (x == ("__debug__" : Str)) = false := by decide) : wpAny (model X.prog X.w) X.A (eval (.Name x pos) X.env) Q E s :=
 Calls.Name_function_global I.ok.kind hg (Calls.loadGlobal_global (by rw [I.ok.glob]; exact I.mod.glob.keeps I.bk) hm h) hd
theorem ld_blt {E : Value -> Shared -> Prop} {pins : List (Addr × Obj)} {s : Shared} {σ : St} {H : Hp} {x : Str} {u : Value} {pos : Pos} {Q : Value -> Shared -> Prop} (I : Inv X pins σ H s) (hg : Gl X x) (hm : X.mg x = none) (hv : bootBuiltins x = some u) (h : Q u s)
  (hn : x ≠ "__name__" := by decide) (hd : (x == ("__debug__" : Str)) = false := by decide) : wpAny (model X.prog X.w) X.A (eval (.Name x pos) X.env) Q E s := by
 obtain ⟨mb, h1, h2⟩ := I.mod.blt
 exact Calls.Name_function_global I.ok.kind hg (Calls.loadGlobal_builtin (by rw [I.ok.glob]; exact I.mod.glob.keeps I.bk) hm (by rw [I.ok.blt]; exact h1.keeps I.bk) ((h2 x hn).trans hv) h) hd
theorem pe_glob {x : Str} {v : V} {u : Value} {pos : Pos} (hg : Gl X x) (hm : X.mg x = some u) (r : RelV v u) (hd : (x == ("__debug__" : Str)) = false := by decide) : PE X (.Name x pos) (tC v) :=
 fun _ _ _ H _ I h => ld_glob I hg hm ⟨v, H, I, r, h⟩ hd
theorem pe_bltn {x : Str} {v : V} {u : Value} {pos : Pos} (hg : Gl X x) (hm : X.mg x = none) (hv : bootBuiltins x = some u) (r : RelV v u) (hn : x ≠ "__name__" := by decide) (hd : (x == ("__debug__" : Str)) = false := by decide) : PE X (.Name x pos) (tC v) :=
 fun _ _ _ H _ I h => ld_blt I hg hm hv ⟨v, H, I, r, h⟩ hn hd
variable {a b : Expr} {ta tb : TE} {pos : Pos}
def tB (t : TE) : TT := fun σ H Q => t σ H fun x H1 => ∃ c, x = .bl c /\ Q c H1
theorem pt_val {e : Expr} {t : TE} (h : PE X e t) (he : ∀ whole, isTrue e X.env whole = (do let v <- whole; standAt e.pos; holding [v] (truthy v)) := by intro _; rfl) : PT X e (tB t) := by
 intro pins s σ H Q I hw
 refine isTrue_plain (thn (h pins s σ H _ I hw) fun v s1 ⟨x, H1, I1, r1, q1⟩ => ?_) (he _)
 obtain ⟨d, rfl, q⟩ := q1
 cases r1
 exact wpAny_truthy_bool ⟨H1, I1, q⟩
variable {tA tB' : TT} {rest : List Expr}
def tAnd (t u : TT) : TT := fun σ H Q => t σ H fun c H1 => if c = true then u σ H1 Q else Q false H1
def tOr (t u : TT) : TT := fun σ H Q => t σ H fun c H1 => if c = true then Q true H1 else u σ H1 Q
def tNot (t : TT) : TT := fun σ H Q => t σ H fun c H1 => Q (!c) H1
theorem pw_and1 (ha : PT X a tA) : PW X (.BoolOp .And [a] pos) tA := by
 intro wh pins s σ H Q I h
 refine isTrue_and (thn (ha pins s σ H Q I h) fun c s1 e => ?_)
 cases c with
 | true => exact isTrue_and_nil e
 | false => exact e
theorem pw_or1 (ha : PT X a tA) : PW X (.BoolOp .Or [a] pos) tA := by
 intro wh pins s σ H Q I h
 refine isTrue_or (thn (ha pins s σ H Q I h) fun c s1 e => ?_)
 cases c with
 | false => exact isTrue_or_nil e
 | true => exact e
theorem pw_and (ha : PT X a tA) (hb : PW X (.BoolOp .And (b :: rest) pos) tB') : PW X (.BoolOp .And (a :: b :: rest) pos) (tAnd tA tB') := by
 intro wh pins s σ H Q I h
 refine isTrue_and (thn (ha pins s σ H _ I h) fun c s1 ⟨H1, I1, q1⟩ => ?_)
 cases c with
 | true => exact hb wh pins s1 σ H1 Q I1 q1
 | false => exact ⟨H1, I1, q1⟩
theorem pw_or (ha : PT X a tA) (hb : PW X (.BoolOp .Or (b :: rest) pos) tB') : PW X (.BoolOp .Or (a :: b :: rest) pos) (tOr tA tB') := by
 intro wh pins s σ H Q I h
 refine isTrue_or (thn (ha pins s σ H _ I h) fun c s1 ⟨H1, I1, q1⟩ => ?_)
 cases c with
 | true => exact ⟨H1, I1, q1⟩
 | false => exact hb wh pins s1 σ H1 Q I1 q1
theorem pt_not (ha : PT X a tA) : PT X (.UnaryOp .Not a pos) (tNot tA) := by
 intro pins s σ H Q I h
 exact isTrue_not (ha pins s σ H (fun c H1 => Q (!c) H1) I h)
def tAndV (ta tb : TE) : TE := fun σ H Q => ta σ H fun x H1 => ∃ c, x = .bl c /\ if c = true then tb σ H1 Q else Q (.bl false) H1
def tNotV (ta : TE) : TE := fun σ H Q => ta σ H fun x H1 => ∃ c, x = .bl c /\ Q (.bl (!c)) H1
theorem pe_one {op} {t : TE} (h : PE X a t) : PE X (.BoolOp op [a] pos) t := fun pins s σ H Q I hw => BoolOp_one (h pins s σ H Q I hw)
theorem pe_and (ha : PE X a ta) (hb : PE X (.BoolOp .And (b :: rest) pos) tb) : PE X (.BoolOp .And (a :: b :: rest) pos) (tAndV ta tb) := by
 intro pins s σ H Q I h
 refine BoolOp_and (thn (ha pins s σ H _ I h) fun v s1 ⟨x, H1, I1, r1, q1⟩ => ?_)
 obtain ⟨c, rfl, q1⟩ := q1
 cases r1
 refine wpAny_truthy_bool ?_
 cases c with
 | true => exact hb pins s1 σ H1 Q I1 q1
 | false => exact ⟨.bl false, H1, I1, rfl, q1⟩
theorem pe_not (ha : PE X a ta) : PE X (.UnaryOp .Not a pos) (tNotV ta) := by
 intro pins s σ H Q I h
 refine UnaryOp_ (thn (ha pins s σ H _ I h) fun v s1 ⟨x, H1, I1, r1, q1⟩ => ?_)
 obtain ⟨c, rfl, q1⟩ := q1
 cases r1
 exact not_of (wpAny_truthy_bool ⟨.bl (!c), H1, I1, rfl, q1⟩)
def tIf (t : TT) (ta tb : TE) : TE := fun σ H Q => t σ H fun c H1 => if c = true then ta σ H1 Q else tb σ H1 Q
theorem pe_ifExp {c : Expr} (hc : PT X c tA) (ha : PE X a ta) (hb : PE X b tb) : PE X (.IfExp c a b pos) (tIf tA ta tb) := by
 intro pins s σ H Q I h
 refine wpAny_IfExp (thn (hc pins s σ H _ I h) fun d s1 ⟨H1, I1, q1⟩ => ?_)
 cases d with
 | true => exact ha pins s1 σ H1 Q I1 q1
 | false => exact hb pins s1 σ H1 Q I1 q1
end
end L2
namespace L2
open PySem PySem.Spec PyProof.Rows
def SqL (K : PySem.W.Frag) (H : Hp) (a : Addr) (xs : List V) : Prop :=
 Rd H a (.lst xs) \/
  ∃ (o : Obj) (its : Array Value) (n : Nat), K.lookup a = some o /\ o.cls = .type "list" /\ o.dict = none /\ o.data = .seq its n /\ its.size <= sizeLine /\ Vals xs its.toList
def SqT (K : PySem.W.Frag) (H : Hp) (a : Addr) (xs : List V) : Prop :=
 Rd H a (.tup xs) \/
  ∃ (o : Obj) (its : Array Value) (n : Nat), K.lookup a = some o /\ o.cls = .type "tuple" /\ o.data = .seq its n /\ its.size <= sizeLine /\ Vals xs its.toList
def absV : Value -> Option V
 | .none => some .non
 | .bool b => some (.bl b)
 | .int i _ => some (.int i)
 | .str x _ => some (.str x)
 | .bytes b _ => some (.byt b)
 | .float b _ => some (.flt b)
 | .ref a => some (.ref a)
 | .type n => some (.ty n)
 | _ => none
theorem RelV.abs {x : V} {u : Value} (r : RelV x u) : absV u = some x := by
 cases x with
 | non => cases r; rfl
 | bl _ => cases r; rfl
 | int _ => obtain ⟨t, rfl⟩ := r; rfl
 | str _ => obtain ⟨t, rfl⟩ := r; rfl
 | byt _ => obtain ⟨t, rfl⟩ := r; rfl
 | flt _ => obtain ⟨t, rfl⟩ := r; rfl
 | ref _ => cases r; rfl
 | ty _ => cases r; rfl
theorem RelV.inj {x y : V} {u : Value} (r : RelV x u) (q : RelV y u) : x = y := Option.some.inj (r.abs.symm.trans q.abs)
theorem Vals.inj : ∀ {xs ys : List V} {us : List Value}, Vals xs us -> Vals ys us -> xs = ys
 | _, _, _, .nil, .nil => rfl
 | _, _, _, .cons r t, .cons r' t' => by rw [r.inj r', Vals.inj t t']
section
variable {X : Cx} {pins : List (Addr × Obj)} {σ : St} {H : Hp} {s : Shared} {a : Addr} {xs ys : List V}
theorem SqL.of {K : PySem.W.Frag} (h : H a = some (.lst xs)) : SqL K H a xs := .inl (.inl h)
theorem SqT.of {K : PySem.W.Frag} (h : H a = some (.tup xs)) : SqT K H a xs := .inl (.inl h)
theorem Inv.list (I : Inv X pins σ H s) (h : SqL X.K H a xs) : ∃ its : List Value, Vals xs its /\ PlainL s.heap a its.toArray /\ xs.length <= sizeLine := by
 rcases h with h | ⟨o, its, n, hk, hc, hd, hs, hz, r⟩
 ·obtain ⟨z, its, n, r, e⟩ := h.ok I.hok
  exact ⟨its, r, ⟨_, n, e, rfl, rfl, rfl⟩, z⟩
 ·refine ⟨its.toList, r, ⟨o, n, I.kIn a o hk, hc, hd, by simpa using hs⟩, ?_⟩
  have e := r.length
  simp only [Array.length_toList] at e
  omega
theorem Inv.tuple (I : Inv X pins σ H s) (h : SqT X.K H a xs) : ∃ its : List Value, Vals xs its /\ IsTup s.heap a its.toArray /\ xs.length <= sizeLine := by
 rcases h with h | ⟨o, its, n, hk, hc, hs, hz, r⟩
 ·obtain ⟨z, its, r, p⟩ := h.ok I.hok
  exact ⟨its, r, p, z⟩
 ·refine ⟨its.toList, r, ⟨o, I.kIn a o hk, hc, n, by simpa using hs⟩, ?_⟩
  have e := r.length
  simp only [Array.length_toList] at e
  omega
theorem Inv.list_inj (I : Inv X pins σ H s) (h : SqL X.K H a xs) (h' : SqL X.K H a ys) : xs = ys := by
 obtain ⟨its, r, ⟨o, n, e, _, _, d⟩, _⟩ := I.list h
 obtain ⟨its', r', ⟨o', n', e', _, _, d'⟩, _⟩ := I.list h'
 rw [e] at e'; cases e'
 rw [d] at d'
 injection d' with d1 _
 have : its = its' := by simpa using congrArg Array.toList d1
 subst this
 exact r.inj r'
theorem Inv.tuple_inj (I : Inv X pins σ H s) (h : SqT X.K H a xs) (h' : SqT X.K H a ys) : xs = ys := by
 obtain ⟨its, r, ⟨o, e, _, n, d⟩, _⟩ := I.tuple h
 obtain ⟨its', r', ⟨o', e', _, n', d'⟩, _⟩ := I.tuple h'
 rw [e] at e'; cases e'
 rw [d] at d'
 injection d' with d1 _
 have : its = its' := by simpa using congrArg Array.toList d1
 subst this
 exact r.inj r'
end
abbrev Cx.wish (X : Cx) (E : Value -> Shared -> Prop) : Cx := { X with xe := E }
abbrev Cx.nox (X : Cx) : Cx := X.wish fun _ _ => False
theorem Cx.Ok.wish {X : Cx} (ok : X.Ok) (E : Value -> Shared -> Prop) : (X.wish E).Ok :=
 ⟨ok.mod, ok.kind, ok.glob, ok.blt, ok.above, ok.inj, ok.has, ok.cab, ok.hd, ok.frames, ok.stk, ok.exf, ok.bs, ok.bsz, ok.noex, ok.exfs, ok.funs, ok.frf⟩
theorem Cx.Ok.unwish {X : Cx} {E : Value -> Shared -> Prop} (ok : (X.wish E).Ok) : X.Ok :=
 ⟨ok.mod, ok.kind, ok.glob, ok.blt, ok.above, ok.inj, ok.has, ok.cab, ok.hd, ok.frames, ok.stk, ok.exf, ok.bs, ok.bsz, ok.noex, ok.exfs, ok.funs, ok.frf⟩
section
variable {X : Cx} {pins : List (Addr × Obj)} {σ : St} {H : Hp} {s : Shared} {E : Value -> Shared -> Prop}
theorem Inv.wish (I : Inv X pins σ H s) (E : Value -> Shared -> Prop) : Inv (X.wish E) pins σ H s := ⟨I.ok.wish E, I.os, I.bare, I.base, I.loc, I.cell, I.free, I.freeC, I.pin, I.hok, I.len⟩
theorem Inv.unwish (I : Inv (X.wish E) pins σ H s) : Inv X pins σ H s := ⟨I.ok.unwish, I.os, I.bare, I.base, I.loc, I.cell, I.free, I.freeC, I.pin, I.hok, I.len⟩
theorem SP.unwish {D : Ends} {f : Flow} {s' : Shared} (h : SP (X.wish E) pins D f s') : SP X pins D f s' := by
 cases f with
 | next => obtain ⟨σ', H', I, q⟩ := h; exact ⟨σ', H', I.unwish, q⟩
 | brk => obtain ⟨σ', H', I, q⟩ := h; exact ⟨σ', H', I.unwish, q⟩
 | cont => obtain ⟨σ', H', I, q⟩ := h; exact ⟨σ', H', I.unwish, q⟩
 | ret u => obtain ⟨v, σ', H', I, r, q⟩ := h; exact ⟨v, σ', H', I.unwish, r, q⟩
theorem PSs.nox {st : List Stmt} {t : TS} (h : PSs X.nox st t) : PSs X st t := fun pins s σ H D I hw =>
 wpAny_mono (h pins s σ H D (I.wish _) hw) (fun _ _ q => q.unwish) fun _ _ z => False.elim z
end
section
variable {X : Cx} {st : Stmt} {rest : List Stmt} {t u : TS} {e : Expr} {te : TE} {pos : Pos}
def tNext : TS := fun D σ H => D.nx σ H
def tSeq (t u : TS) : TS := fun D σ H => t { D with nx := u D } σ H
theorem pss_nil : PSs X [] tNext := fun _ _ σ H _ I h => wpAny_execs_nil ⟨σ, H, I, h⟩
theorem pss_cons (h1 : PS X st t) (h2 : PSs X rest u) : PSs X (st :: rest) (tSeq t u) := by
 intro pins s σ H D I h
 refine wpAny_execs_cons (thn (h1 pins s σ H { D with nx := u D } I h) fun f s1 q => ?_)
 cases f with
 | next =>
  obtain ⟨σ', H', I', q⟩ := q
  exact h2 pins s1 σ' H' D I' q
 | ret v => exact q
 | brk => exact q
 | cont => exact q
theorem pss_one (h1 : PS X st t) : PSs X [st] t := by
 intro pins s σ H D I h
 refine wpAny_execs_cons (thn (h1 pins s σ H D I h) fun f s1 q => ?_)
 cases f with
 | next => exact wpAny_execs_nil q
 | ret v => exact q
 | brk => exact q
 | cont => exact q
theorem Inv.quiet {pins : List (Addr × Obj)} {σ : St} {H : Hp} {s : Shared} (I : Inv X pins σ H s) : interactive X.env = false := by simp [interactive, I.ok.kind]
def tDrop (te : TE) : TS := fun D σ H => te σ H fun _ H1 => D.nx σ H1
theorem ps_expr (he : PE X e te) (hs : swapsWith e none pos.line X.env = pure false := by rfl) : PS X (.Expr e pos) (tDrop te) := by
 intro pins s σ H D I h
 exact wpAny_Expr_any (thn (he pins s σ H _ I h) fun v s1 ⟨x, H1, I1, r1, q1⟩ => ⟨σ, H1, I1, q1⟩) I.quiet hs
def tRet (te : TE) : TS := fun D σ H => te σ H D.rt
theorem ps_ret (he : PE X e te) : PS X (.Return (some e) pos) (tRet te) := by
 intro pins s σ H D I h
 exact wpAny_Return_some (thn (he pins s σ H _ I h) fun v s1 ⟨x, H1, I1, r1, q1⟩ => ⟨x, σ, H1, I1, r1, q1⟩)
def tIfS (c : TT) (t u : TS) : TS := fun D σ H => c σ H fun b H1 => if b = true then t D σ H1 else u D σ H1
theorem ps_if {c : Expr} {a b : List Stmt} {tc : TT} (hc : PT X c tc) (ha : PSs X a t) (hb : PSs X b u) : PS X (.If c a b pos) (tIfS tc t u) := by
 intro pins s σ H D I h
 refine wpAny_If (thn (hc pins s σ H _ I h) fun d s1 ⟨H1, I1, q1⟩ => ?_)
 cases d with
 | true => exact ha pins s1 σ H1 D I1 q1
 | false => exact hb pins s1 σ H1 D I1 q1
def tNever : TS := fun _ _ _ => False
theorem pss_never {sts : List Stmt} : PSs X sts tNever := fun _ _ _ _ _ _ h => h.elim
end
abbrev TG := V -> St -> Hp -> (St -> Hp -> Prop) -> Prop
abbrev TGs := List V -> St -> Hp -> (St -> Hp -> Prop) -> Prop
def PG (X : Cx) (target : Expr) (t : TG) : Prop :=
 ∀ (pins : List (Addr × Obj)) (s : Shared) (σ : St) (H : Hp) (v : V) (u : Value) (Q : St -> Hp -> Prop), Inv X pins σ H s -> RelV v u -> t v σ H Q ->
  wpAny (model X.prog X.w) X.A (assign target X.env u) (fun _ s' => ∃ σ' H', Inv X pins σ' H' s' /\ Q σ' H') X.xe s
def PGs (X : Cx) (ts : List Expr) (t : TGs) : Prop :=
 ∀ (pins : List (Addr × Obj)) (s : Shared) (σ : St) (H : Hp) (vs : List V) (us : List Value) (Q : St -> Hp -> Prop), Inv X pins σ H s -> Vals vs us -> t vs σ H Q ->
  wpAny (model X.prog X.w) X.A (assignInOrder ((assignEach ts X.env).map (·.2)) us) (fun _ s' => ∃ σ' H', Inv X pins σ' H' s' /\ Q σ' H') X.xe s
abbrev TSet := V -> V -> V -> Hp -> (Hp -> Prop) -> Prop
def PSet (X : Cx) (t : TSet) : Prop :=
 ∀ (pins : List (Addr × Obj)) (s : Shared) (σ : St) (H : Hp) (o i v : V) (ov iv u : Value) (Q : Hp -> Prop), Inv X pins σ H s -> RelV o ov -> RelV i iv -> RelV v u -> t o i v H Q ->
  wpAny (model X.prog X.w) X.A (setItem ov iv u) (fun _ s' => ∃ H', Inv X pins σ H' s' /\ Q H') X.xe s
section
variable {X : Cx} {pos : Pos}
def gName (i : Nat) : TG := fun v σ H Q => Q (σ.set i (some v)) H
theorem pg_name {i : Nat} {x : Str} (hN : X.N.Nodup) (hi : X.N[i]? = some x) (hx : Loc X.env.scope x) (hf : X.fn x = true \/ X.env.scope.names.lookup x = some .local := by first | exact .inl rfl | exact .inr rfl | assumption) : PG X (.Name x pos) (gName i) := by
 intro pins s σ H v u Q I r h
 exact wpAny_assign_Name (store_ok I hN hi hx r (fun s' I' => ⟨_, H, I', h⟩) hf)
def gNil : TGs := fun vs σ H Q => vs = [] /\ Q σ H
def gCons (t : TG) (u : TGs) : TGs := fun vs σ H Q => ∃ v r, vs = v :: r /\ t v σ H fun σ' H' => u r σ' H' Q
theorem pgs_nil : PGs X [] gNil := by
 intro pins s σ H vs us Q I r h
 obtain ⟨e, h⟩ := h
 subst e
 cases r
 exact assignInOrder_nil ⟨σ, H, I, h⟩
theorem pgs_cons {e : Expr} {es : List Expr} {t : TG} {u : TGs} (h1 : PG X e t) (h2 : PGs X es u)
  (hs : (assignEach (e :: es) X.env).map (·.2) = assign e X.env :: (assignEach es X.env).map (·.2) := by rfl) : PGs X (e :: es) (gCons t u) := by
 intro pins s σ H vs us Q I r h
 obtain ⟨v, vr, e1, h⟩ := h
 subst e1
 cases r with
 | cons r rr =>
  rw [hs]
  refine assignInOrder_cons (thn (h1 pins s σ H _ _ _ I r h) fun _ s1 ⟨σ1, H1, I1, q1⟩ => ?_)
  exact h2 pins s1 σ1 H1 _ _ Q I1 rr q1
def gTup (K : PySem.W.Frag) (n : Nat) (t : TGs) : TG := fun v σ H Q => ∃ a xs, v = .ref a /\ SqT K H a xs /\ xs.length = n /\ t xs σ H Q
theorem pg_tup {es : List Expr} {k : Nat} {t : TGs} {n : Nat} (hc : X.calm = true) (h : PGs X es t)
  (hn : (assignEach es X.env).length = n := by rfl) (hst : (assignEach es X.env).findIdx? (·.1) = none := by rfl) : PG X (.Tuple es k pos) (gTup X.K n t) := by
 intro pins s σ H v u Q I r hw
 obtain ⟨a, xs, e1, hq, hl, hw⟩ := hw
 subst e1
 cases r
 obtain ⟨its, rv, ht, hz⟩ := I.tuple hq
 refine assign_Tuple_tuple (I.ok.hd hc) ht (by simp [hn, <- hl, rv.length]) hst fun h' hx => ?_
 have I1 : Inv X pins σ H { s with heap := h' } := I.kept (t' := s.toks) fun b o e => hx b o (Nat.ne_of_lt (Heap.lt_size e)) e
 exact h pins _ σ H xs _ Q I1 (by simpa using rv) hw
def gSub (to ti : TE) (t : TSet) : TG := fun v σ H Q => to σ H fun o H1 => ti σ H1 fun i H2 => t o i v H2 fun H3 => Q σ H3
theorem pg_sub {o i : Expr} {to ti : TE} {t : TSet} (ho : PE X o to) (hi : PE X i ti) (hs : PSet X t)
  (ha : ∀ v, assign (.Subscript o i pos) X.env v = (do
   let ov <- holding [v] (eval o X.env)
   let iv <- holding [v, ov] (eval i X.env)
   standAt pos
   holding [v, ov, iv] (setItem ov iv v)
   release [v, ov, iv] []) := by intro _; rfl) : PG X (.Subscript o i pos) (gSub to ti t) := by
 intro pins s σ H v u Q I r h
 rw [ha]
 refine wpAny_bind (wpAny_holding (thn (ho pins s σ H _ I h) fun ov s1 ⟨x, H1, I1, r1, q1⟩ => ?_))
 refine wpAny_bind (wpAny_holding (thn (hi pins s1 σ H1 _ I1 q1) fun iv s2 ⟨y, H2, I2, r2, q2⟩ => ?_))
 refine wpAny_bind (wpAny_standAt (wpAny_bind (wpAny_holding (thn (hs pins s2 σ H2 x y v ov iv u _ I2 r1 r2 r q2) fun _ s3 ⟨H3, I3, q3⟩ => ?_))))
 exact wpAny_release ⟨σ, H3, I3, q3⟩
def tAsg (te : TE) (g : TG) : TS := fun D σ H => te σ H fun x H1 => g x σ H1 D.nx
theorem ps_asg {tg e : Expr} {te : TE} {g : TG} (he : PE X e te) (hg : PG X tg g) (hs : swapsWithSole [tg] e pos.line X.env = pure false := by rfl) (hw : swappedStores [tg] e X.env = pure none := by rfl)
  (h1 : (assignEach [tg] X.env).map (·.2) = [assign tg X.env] := by rfl) : PS X (.Assign [tg] e pos) (tAsg te g) := by
 intro pins s σ H D I h
 refine wpAny_Assign_stores (thn (he pins s σ H _ I h) fun v s1 ⟨x, H1, I1, r1, q1⟩ => ?_) hs hw
 rw [h1]
 exact thn (hg pins s1 σ H1 x v _ I1 r1 q1) fun _ s2 q => q
theorem ps_set {i : Nat} {x : Str} {e : Expr} {te : TE} {pos' : Pos} (hN : X.N.Nodup) (hi : X.N[i]? = some x) (hx : Loc X.env.scope x) (he : PE X e te) (hs : swapsWith e (some (.Name x pos')) pos.line X.env = pure false := by rfl) (hf : X.fn x = true \/ X.env.scope.names.lookup x = some .local := by first | exact .inl rfl | exact .inr rfl | assumption) :
  PS X (.Assign [.Name x pos'] e pos) (tAsg te (gName i)) := by
 intro pins s σ H D I h
 refine wpAny_Assign_Name (thn (he pins s σ H _ I h) fun v s1 ⟨y, H1, I1, r1, q1⟩ => ?_) hs
 exact store_ok I1 hN hi hx r1 (fun s2 I2 => ⟨_, H1, I2, q1⟩) hf
end
section
variable {X : Cx} {pos : Pos}
def tWhile (c : TT) (tb : TS) : TS := fun D σ H => ∃ W : Nat -> St -> Hp -> Prop, (∃ m, W m σ H) /\ ∀ m σ H, W m σ H ->
 c σ H fun b H1 => if b = true then ∃ N : St -> Hp -> Prop, (∀ σ' H', N σ' H' -> ∃ m', m' < m /\ W m' σ' H') /\ tb { D with nx := N, ct := N, bk := D.nx } σ H1 else D.nx σ H1
theorem ps_while {c : Expr} {body : List Stmt} {tc : TT} {tb : TS} (hp : PassesOwn (model X.prog X.w) X.A X.env X.xe) (hc : PT X c tc) (hb : PSs X body tb) : PS X (.While c body [] pos) (tWhile tc tb) := by
 intro pins s σ H D I h
 obtain ⟨W, ⟨m0, w0⟩, turn⟩ := h
 refine wpAny_While (codeAny_whileLoop (fun n s' => ∃ σ' H', Inv X pins σ' H' s' /\ W n σ' H') ?_ m0 ⟨σ, H, I, w0⟩)
 rintro n s1 ⟨σ1, H1, I1, w1⟩
 refine wpAny_passesOwn hp (thn (hc pins s1 σ1 H1 _ I1 (turn n σ1 H1 w1)) fun b s2 ⟨H2, I2, q2⟩ => ?_)
 cases b with
 | true =>
  obtain ⟨N, hN, q2⟩ := q2
  rw [if_pos rfl]
  refine wpAny_passesOwn hp (thn (hb pins s2 σ1 H2 _ I2 q2) fun f s3 q3 => ?_)
  cases f with
  | next =>
   obtain ⟨σ3, H3, I3, n3⟩ := q3
   obtain ⟨m', hm, w3⟩ := hN σ3 H3 n3
   exact ⟨m', hm, σ3, H3, I3, w3⟩
  | cont =>
   obtain ⟨σ3, H3, I3, n3⟩ := q3
   obtain ⟨m', hm, w3⟩ := hN σ3 H3 n3
   exact ⟨m', hm, σ3, H3, I3, w3⟩
  | brk => exact q3
  | ret v => exact q3
 | false =>
  rw [if_neg Bool.false_ne_true]
  exact wpAny_execs_nil ⟨σ1, H2, I2, q2⟩
end
structure It where
 go : Nat -> Hp -> Prop
 yld : Nat -> Hp -> V -> Hp -> Prop
 stop : Nat -> Hp -> Prop
def FpOk (X : Cx) (pins : List (Addr × Obj)) (H : Hp) (b : Addr) : Prop :=
 H b = none /\ b ≠ X.env.locals /\ b ∉ X.fs /\ (b ∈ X.ex \/ X.s₀.heap.objs.size <= b) /\ (∀ x c, X.env.cells.lookup x = some c -> c ≠ b) /\ ∀ p ∈ X.pn ++ pins, p.1 ≠ b
theorem Inv.fpOk {X : Cx} {pins : List (Addr × Obj)} {σ : St} {H H' : Hp} {s : Shared} {b : Addr} (I : Inv X pins σ H s) (hb : s.heap.objs.size <= b) (hn : H' b = none) : FpOk X pins H' b := by
 refine ⟨hn, Nat.ne_of_gt (Nat.lt_of_lt_of_le I.lt hb), I.nofs hb, .inr (Nat.le_trans I.sz hb), fun x c e z => ?_, fun p hp z => ?_⟩
 ·obtain ⟨v, q⟩ := I.cell x c e
  exact absurd (Nat.lt_of_lt_of_le q.lt (by rw [z]; exact hb)) (Nat.lt_irrefl _)
 ·exact absurd (Nat.lt_of_lt_of_le (Heap.lt_size (I.pin p hp).1) (by rw [z]; exact hb)) (Nat.lt_irrefl _)
structure Turn (P : Program) (w : World) (K : PySem.W.Frag) (tg : Expr) (J : It) (fp : List Addr) (it : Addr) (tn : Nat -> Heap -> Prop) : Prop where
 mem : it ∈ fp
 obj : ∀ i h, tn i h -> ∀ b ∈ fp, ∃ o, h.get? b = some o /\ ∀ v, o.data ≠ .cell v
 keep : ∀ i h h', tn i h -> (∀ b ∈ fp, ∀ o, h.get? b = some o -> h'.get? b = some o) -> tn i h'
 item : ∀ (X : Cx), X.prog = P -> X.w = w -> X.K = K -> X.calm = true -> ∀ (i : Nat) (pins : List (Addr × Obj)) (s : Shared) (σ : St) (H : Hp) (E : Value -> Shared -> Prop), Inv X pins σ H s -> (∀ b ∈ fp, FpOk X pins H b) -> tn i s.heap -> J.go i H ->
  wpAny (model P w) X.A (pyNext (.ref it)) (fun r s1 => ∃ u, r = some u /\
   wpAny (model P w) X.A (letOwnedTupleGo tg (.ref it) u) (fun _ s2 => ∃ x H', Inv X pins σ H' s2 /\ RelV x u /\ J.yld i H x H' /\ tn (i + 1) s2.heap /\ ∀ b ∈ fp, H' b = none) E s1) E s
 done : ∀ (X : Cx), X.prog = P -> X.w = w -> X.K = K -> X.calm = true -> ∀ (i : Nat) (pins : List (Addr × Obj)) (s : Shared) (σ : St) (H : Hp) (E : Value -> Shared -> Prop), Inv X pins σ H s -> (∀ b ∈ fp, FpOk X pins H b) -> tn i s.heap -> J.stop i H ->
  wpAny (model P w) X.A (pyNext (.ref it)) (fun r s1 => r = none /\ Inv X pins σ H s1) E s
 self : ∀ (A : Around) (i : Nat) (s : Shared) (Q : Value -> Shared -> Prop) (E : Value -> Shared -> Prop), tn i s.heap -> Q (.ref it) s -> wpAny (model P w) A (pyIter (.ref it)) Q E s
abbrev TI := St -> Hp -> (It -> Hp -> Prop) -> Prop
def PIE (X : Cx) (pins : List (Addr × Obj)) (σ : St) (tg : Expr) (R : It -> Hp -> Prop) (itv : Value) (s2 : Shared) : Prop :=
 ∃ (it : Addr) (fp : List Addr) (tn : Nat -> Heap -> Prop) (J : It) (H' : Hp), itv = .ref it /\ Inv X pins σ H' s2 /\ Turn X.prog X.w X.K tg J fp it tn /\ tn 0 s2.heap /\ (∀ b ∈ fp, FpOk X pins H' b) /\ R J H'
def PI (X : Cx) (tg iter : Expr) (wi : TI) : Prop :=
 ∀ (pins : List (Addr × Obj)) (s : Shared) (σ : St) (H : Hp) (R : It -> Hp -> Prop), Inv X pins σ H s -> wi σ H R ->
  wpAny (model X.prog X.w) X.A (eval iter X.env) (fun v s1 => wpAny (model X.prog X.w) X.A (pyIter v) (PIE X pins σ tg R) X.xe s1) X.xe s
theorem go_of {M : Model} {A : Around} {E : Value -> Shared -> Prop} {s : Shared} {tg : Expr} {it : Addr} {u : Value} {o : Obj} {n : String} {vs : Array Value} {Q : Unit -> Shared -> Prop} (ho : s.heap.get? it = some o) (hc : o.cls = .type n) (hd : o.data = .fields vs)
    (hn : ["enumerate", "zip", "dict_itemiterator", "dict_reverseitemiterator", "odict_iterator", "itertools.zip_longest", "itertools.pairwise"].contains n = false) (hQ : Q () s) : wpAny M A (letOwnedTupleGo tg (.ref it) u) Q E s := by
  unfold letOwnedTupleGo
  cases tg <;> first
    | exact wpAny_pure hQ
    | (cases u <;> first
        | exact wpAny_pure hQ
        | (refine wpAny_bind (wpAny_load ho ?_)
           rw [hc, hd]
           show wpAny M A (if (["enumerate", "zip", "dict_itemiterator", "dict_reverseitemiterator", "odict_iterator", "itertools.zip_longest", "itertools.pairwise"].contains n && vs[0]? == some (rawInt _)) = true then _ else _) Q E s
           rw [if_neg (by intro h; rw [hn, Bool.false_and] at h; cases h)]
           exact wpAny_pure hQ))
def Itl (K : PySem.W.Frag) (a : Addr) : It :=
 ⟨fun i H => ∃ xs x, SqL K H a xs /\ xs[i]? = some x, fun i H x H' => H' = H /\ ∀ xs, SqL K H a xs -> xs[i]? = some x, fun i H => ∃ xs, SqL K H a xs /\ xs.length <= i⟩
def Itt (K : PySem.W.Frag) (a : Addr) : It :=
 ⟨fun i H => ∃ xs x, SqT K H a xs /\ xs[i]? = some x, fun i H x H' => H' = H /\ ∀ xs, SqT K H a xs -> xs[i]? = some x, fun i H => ∃ xs, SqT K H a xs /\ xs.length <= i⟩
def Itr (lo : Int) (n : Nat) : It := ⟨fun i _ => i < n, fun i H x H' => H' = H /\ x = .int (lo + i), fun i _ => n <= i⟩
theorem turn_list {P : Program} {w : World} {K : PySem.W.Frag} {tg : Expr} (a it : Addr) : Turn P w K tg (Itl K a) [it] it (fun i h => h.IsListIter it a i) where
 mem := by simp
 obj := fun i h st b hb => by
  have e : b = it := by simpa using hb
  subst e
  obtain ⟨o, e, c, d⟩ := st
  exact ⟨o, e, fun v z => by rw [d] at z; cases z⟩
 keep := fun i h h' st k => st.at fun o e => k it (by simp) o e
 item := by
  intro X hP hw hK hc i pins s σ H E I hf st hg
  subst hP hw hK
  obtain ⟨xs, x, hq, hx⟩ := hg
  obtain ⟨its, rv, p, hz⟩ := I.list hq
  obtain ⟨u, hu, ru⟩ := rv.get hx
  obtain ⟨f0, f1, f2, f3, f4, f5⟩ := hf it (by simp)
  refine wpAny_pyNext_list_item st p.isList (x := u) (by simpa using hu) fun h' st' sb => ?_
  have I1 : Inv X pins σ H { s with heap := h' } := I.turned (t' := s.toks) (fun b o hb e => (sb.2 b hb).trans e) f0 f1 f3 f4 f5
  obtain ⟨o, e, c, d⟩ := id st'
  exact ⟨u, rfl, go_of (s := { s with heap := h' }) e c d (by decide) ⟨x, H, I1, ru, ⟨rfl, fun ys hy => by rw [I.list_inj hy hq]; exact hx⟩, st', fun b hb => (hf b hb).1⟩⟩
 done := by
  intro X hP hw hK hc i pins s σ H E I hf st hg
  subst hP hw hK
  obtain ⟨xs, hq, hx⟩ := hg
  obtain ⟨its, rv, p, hz⟩ := I.list hq
  obtain ⟨f0, f1, f2, f3, f4, f5⟩ := hf it (by simp)
  have hl := rv.length
  exact wpAny_pyNext_list_end (I.ok.hd hc) st p.isList (by simp; omega) fun h' eb => ⟨rfl, I.turned (t' := s.toks) (fun b o hb e => eb b o hb e) f0 f1 f3 f4 f5⟩
 self := fun _ _ _ _ _ st h => wpAny_pyIter_listiter st h
theorem turn_tuple {P : Program} {w : World} {K : PySem.W.Frag} {tg : Expr} (a it : Addr) : Turn P w K tg (Itt K a) [it] it (fun i h => h.IsTupleIter it a i) where
 mem := by simp
 obj := fun i h st b hb => by
  have e : b = it := by simpa using hb
  subst e
  obtain ⟨o, e, c, d⟩ := st
  exact ⟨o, e, fun v z => by rw [d] at z; cases z⟩
 keep := fun i h h' st k => st.at fun o e => k it (by simp) o e
 item := by
  intro X hP hw hK hc i pins s σ H E I hf st hg
  subst hP hw hK
  obtain ⟨xs, x, hq, hx⟩ := hg
  obtain ⟨its, rv, p, hz⟩ := I.tuple hq
  obtain ⟨u, hu, ru⟩ := rv.get hx
  obtain ⟨f0, f1, f2, f3, f4, f5⟩ := hf it (by simp)
  refine wpAny_pyNext_tuple_item st (show s.heap.IsTuple a its.toArray from p) (x := u) (by simpa using hu) fun h' st' sb => ?_
  have I1 : Inv X pins σ H { s with heap := h' } := I.turned (t' := s.toks) (fun b o hb e => (sb.2 b hb).trans e) f0 f1 f3 f4 f5
  obtain ⟨o, e, c, d⟩ := id st'
  exact ⟨u, rfl, go_of (s := { s with heap := h' }) e c d (by decide) ⟨x, H, I1, ru, ⟨rfl, fun ys hy => by rw [I.tuple_inj hy hq]; exact hx⟩, st', fun b hb => (hf b hb).1⟩⟩
 done := by
  intro X hP hw hK hc i pins s σ H E I hf st hg
  subst hP hw hK
  obtain ⟨xs, hq, hx⟩ := hg
  obtain ⟨its, rv, p, hz⟩ := I.tuple hq
  obtain ⟨f0, f1, f2, f3, f4, f5⟩ := hf it (by simp)
  have hl := rv.length
  exact wpAny_pyNext_tuple_end (I.ok.hd hc) st (show s.heap.IsTuple a its.toArray from p) (by simp; omega) fun h' eb => ⟨rfl, I.turned (t' := s.toks) (fun b o hb e => eb b o hb e) f0 f1 f3 f4 f5⟩
 self := fun _ _ _ _ _ st h => wpAny_pyIter_tupleiter st h
theorem turn_range {P : Program} {w : World} {K : PySem.W.Frag} {tg : Expr} (it : Addr) (lo : Int) (n : Nat) : Turn P w K tg (Itr lo n) [it] it (fun i h => IsRangeIter h it (lo + (i : Nat) * 1) ((n : Int) - (i : Nat)) 1) where
 mem := by simp
 obj := fun i h st b hb => by
  have e : b = it := by simpa using hb
  subst e
  exact ⟨_, st, fun v z => by
   have z' : Data.fields _ = Data.cell v := z
   cases z'⟩
 keep := fun i h h' st k => k it (by simp) _ st
 item := by
  intro X hP hw hK hc i pins s σ H E I hf st hg
  subst hP hw hK
  obtain ⟨f0, f1, f2, f3, f4, f5⟩ := hf it (by simp)
  have W := Walks.range (prog := X.prog) (w := X.w) (I.ok.hd hc) it lo 1 n
  refine W.item i s _ _ hg st fun v h' tk hv st' kk => ?_
  obtain ⟨t, rfl⟩ := hv
  have I1 : Inv X pins σ H { s with heap := h', toks := tk } := I.turned (fun b o hb e => kk b o (by simpa using hb) e) f0 f1 f3 f4 f5
  refine ⟨_, rfl, go_of (s := { s with heap := h', toks := tk }) (n := "range_iterator") st' rfl rfl (by decide) ⟨.int (lo + i), H, I1, ⟨t, ?_⟩, ⟨rfl, rfl⟩, st', fun b hb => (hf b hb).1⟩⟩
  rw [Int.mul_one]
 done := by
  intro X hP hw hK hc i pins s σ H E I hf st hg
  subst hP hw hK
  obtain ⟨f0, f1, f2, f3, f4, f5⟩ := hf it (by simp)
  exact wpAny_pyNext_range_end (I.ok.hd hc) st (by have : n <= i := hg; omega) fun h' eb => ⟨rfl, I.turned (t' := s.toks) (fun b o hb e => eb b o hb e) f0 f1 f3 f4 f5⟩
 self := fun _ _ _ _ _ st h => wpAny_pyIter_rangeiter st h
end L2
namespace L2
open PySem PySem.Spec PyProof.Rows
section
variable {X : Cx} {tg : Expr}
theorem range_it {pins : List (Addr × Obj)} {σ : St} {H : Hp} {s : Shared} {R : It -> Hp -> Prop} {E : Value -> Shared -> Prop} {lo hi : Int} {t u v : Tok} {tk : Nat} (I : Inv X pins σ H s) (h1 : -(2 ^ 62) <= lo) (h2 : lo < 2 ^ 62) (h3 : -(2 ^ 62) <= hi) (h4 : hi < 2 ^ 62)
  (q : R (Itr lo (hi - lo).toNat) H) : wpAny (model X.prog X.w) X.A (pyIter (.ref s.heap.objs.size)) (PIE X pins σ tg R) E { s with heap := s.heap.push { cls := .type "range", data := .fields #[.int lo t, .int hi u, .int 1 v] }, toks := tk } := by
 refine wpAny_pyIter_range (IsRange.new ..) (small_one h1 h2 h3 h4) ?_
 have I1 : Inv X pins σ H { s with heap := s.heap.push { cls := .type "range", data := .fields #[.int lo t, .int hi u, .int 1 v] }, toks := tk } := I.kept fun b o e => Heap.get?_push_of_some _ e
 refine ⟨(s.heap.push { cls := .type "range", data := .fields #[.int lo t, .int hi u, .int 1 v] }).objs.size, [(s.heap.push { cls := .type "range", data := .fields #[.int lo t, .int hi u, .int 1 v] }).objs.size], _, _, H, rfl,
  I1.kept (t' := tk) fun b o e => Heap.get?_push_of_some _ e, turn_range _ lo (hi - lo).toNat, ?_, fun b hb => ?_, q⟩
 ·have e1 : lo + ((0 : Nat) : Int) * 1 = lo := by simp
  have e2 : (((hi - lo).toNat : Nat) : Int) - ((0 : Nat) : Int) = Builtin.Range.rangeSize lo hi 1 := by rw [rangeSize_one]; split <;> omega
  show IsRangeIter _ _ (lo + ((0 : Nat) : Int) * 1) ((((hi - lo).toNat : Nat) : Int) - ((0 : Nat) : Int)) 1
  rw [e1, e2]
  exact Heap.get?_push_size _ rfl
 ·have e : b = (s.heap.push { cls := .type "range", data := .fields #[.int lo t, .int hi u, .int 1 v] }).objs.size := by simpa using hb
  subst e
  exact I1.fpOk (Nat.le_refl _) (I1.hok.fresh (Nat.le_refl _))
def iRng1 (ta : TA) : TI := fun σ H R => ta σ H fun vs H1 => ∃ j : Int, vs = [.int j] /\ -(2 ^ 62) <= j /\ j < 2 ^ 62 /\ R (Itr 0 j.toNat) H1
theorem pi_range1 {a : Expr} {ta : TA} {p pos : Pos} (hg : Gl X "range") (hm : X.mg "range" = none) (ha : PA X [a] ta) (hs : starEach [a] X.env = [(false, eval a X.env)] := by rfl) : PI X tg (.Call (.Name "range" p) [a] [] pos) (iRng1 ta) := by
 intro pins s σ H R I h
 refine Call_ (ld_blt I hg hm boot_range (PyProof.Rows.callWith_type1 (thn (ha pos pins s σ H _ I h) fun us s1 ⟨vs, H1, I1, r1, q1⟩ => ?_) hs rfl))
 obtain ⟨j, e, q1, q2, q⟩ := q1
 subst e
 cases r1 with
 | cons r rr =>
  cases rr
  obtain ⟨t, rfl⟩ := r
  exact call_range_1 (range_it I1 (by omega) (by omega) q1 q2 (by simpa using q))
def tFor (wi : TI) (g : TG) (tb : TS) : TS := fun D σ H => wi σ H fun J H1 => ∃ W : Nat -> Nat -> St -> Hp -> Prop, (∃ m, W 0 m σ H1) /\ ∀ i m σ H, W i m σ H ->
 (J.stop i H /\ D.nx σ H) \/ (J.go i H /\ ∃ N : St -> Hp -> Prop, (∀ σ' H', N σ' H' -> ∃ m', m' < m /\ W (i + 1) m' σ' H') /\ ∀ x H', J.yld i H x H' -> g x σ H' fun σ2 H2 => tb { D with nx := N, ct := N, bk := D.nx } σ2 H2)
def pinsAt (fp : List Addr) (h : Heap) : List (Addr × Obj) := fp.filterMap fun b => (h.get? b).map fun o => (b, o)
theorem mem_pinsAt {fp : List Addr} {h : Heap} {b : Addr} {o : Obj} (hb : b ∈ fp) (e : h.get? b = some o) : (b, o) ∈ pinsAt fp h := List.mem_filterMap.mpr ⟨b, hb, by rw [e]; rfl⟩
theorem of_pinsAt {fp : List Addr} {h : Heap} {p : Addr × Obj} (hp : p ∈ pinsAt fp h) : p.1 ∈ fp /\ h.get? p.1 = some p.2 := by
 obtain ⟨b, hb, e⟩ := List.mem_filterMap.mp hp
 cases q : h.get? b with
 | none => rw [q] at e; cases e
 | some o =>
  rw [q] at e
  have e' : (b, o) = p := Option.some.inj e
  subst e'
  exact ⟨hb, q⟩
theorem Inv.pinned {pins : List (Addr × Obj)} {σ : St} {H : Hp} {s : Shared} {fp : List Addr} (I : Inv X pins σ H s) (hf : ∀ b ∈ fp, FpOk X pins H b) (ho : ∀ b ∈ fp, ∃ o, s.heap.get? b = some o /\ ∀ v, o.data ≠ .cell v) : Inv X (pins ++ pinsAt fp s.heap) σ H s :=
 I.pins_of fun p hp => (List.mem_append.mp hp).elim (fun z => I.pin p (List.mem_append_right _ z)) fun z => by
  obtain ⟨hb, e⟩ := of_pinsAt z
  obtain ⟨f0, f1, f2, _⟩ := hf p.1 hb
  obtain ⟨o, e', d⟩ := ho p.1 hb
  rw [e] at e'; cases e'
  exact ⟨e, f0, f1, f2, d⟩
theorem Inv.unpinned {pins pl : List (Addr × Obj)} {σ : St} {H : Hp} {s : Shared} (I : Inv X (pins ++ pl) σ H s) : Inv X pins σ H s := I.pins_of fun p hp => I.pin p (List.mem_append_right _ (List.mem_append_left _ hp))
theorem ps_for {iter : Expr} {body : List Stmt} {wi : TI} {g : TG} {tb : TS} {pos : Pos} (hp : PassesOwn (model X.prog X.w) X.A X.env X.xe) (hc : X.calm = true) (hi : PI X tg iter wi) (hg : PG X tg g) (hb : PSs X body tb)
  (hs : ∀ x, foldedSetIterable iter X.env x = pure x := by intro _; rfl) : PS X (.For tg iter body [] pos) (tFor wi g tb) := by
 intro pins s σ H D I h
 refine wpAny_For (thn (hi pins s σ H _ I h) fun v s1 h1 => thn h1 fun itv s2 h2 => ?_) hs
 obtain ⟨it, fp, tn, J, H2, e, I2, T, st2, f2, W, ⟨m0, w0⟩, turn⟩ := h2
 subst e
 -- what stays true of the iterator's objects through the loop
 have stat : ∀ {H' : Hp}, (∀ b ∈ fp, H' b = none) -> ∀ b ∈ fp, FpOk X pins H' b := fun hn b hb => ⟨hn b hb, (f2 b hb).2⟩
 refine codeAny_forLoop_any (fun n s' => ∃ i σ' H', Inv X pins σ' H' s' /\ tn i s'.heap /\ (∀ b ∈ fp, H' b = none) /\ W i n σ' H') ?_ m0 ⟨0, σ, H2, I2, st2, fun b hb => (f2 b hb).1, w0⟩
 rintro n s3 ⟨i, σ3, H3, I3, st3, fr3, w3⟩
 rcases turn i n σ3 H3 w3 with ⟨stop, qn⟩ | ⟨go, N, hN, step⟩
 ·refine wpAny_passesOwn hp (thn (T.done X rfl rfl rfl hc i pins s3 σ3 H3 X.xe I3 (stat fr3) st3 stop) fun r s4 ⟨hr, I4⟩ => ?_)
  subst hr
  exact wpAny_execs_nil ⟨σ3, H3, I4, qn⟩
 ·refine wpAny_passesOwn hp (thn (T.item X rfl rfl rfl hc i pins s3 σ3 H3 X.xe I3 (stat fr3) st3 go) fun r s4 ⟨u, hr, h4⟩ => ?_)
  subst hr
  refine wpAny_passesOwn hp (thn h4 fun _ s5 ⟨x, H5, I5, r5, y5, st5, fr5⟩ => ?_)
  have I5' := I5.pinned (stat fr5) (T.obj _ _ st5)
  refine wpAny_passesOwn hp (thn (hg _ s5 σ3 H5 x u _ I5' r5 (step x H5 y5)) fun _ s6 ⟨σ6, H6, I6, q6⟩ => ?_)
  refine wpAny_passesOwn hp (thn (hb _ s6 σ6 H6 _ I6 q6) fun f s7 q7 => ?_)
  have again : ∀ {σ7 : St} {H7 : Hp}, Inv X (pins ++ pinsAt fp s5.heap) σ7 H7 s7 -> N σ7 H7 -> ∃ m, m < n /\ ∃ i σ' H', Inv X pins σ' H' s7 /\ tn i s7.heap /\ (∀ b ∈ fp, H' b = none) /\ W i m σ' H' := fun {σ7 H7} I7 n7 => by
   obtain ⟨m', hm, w7⟩ := hN σ7 H7 n7
   refine ⟨m', hm, i + 1, σ7, H7, I7.unpinned, T.keep _ _ _ st5 fun b hb o e => (I7.pin (b, o) (List.mem_append_right _ (List.mem_append_right _ (mem_pinsAt hb e)))).1, fun b hb => ?_, w7⟩
   obtain ⟨o, e, d⟩ := T.obj _ _ st5 b hb
   exact (I7.pin (b, o) (List.mem_append_right _ (List.mem_append_right _ (mem_pinsAt hb e)))).2.1
  cases f with
  | next => obtain ⟨σ7, H7, I7, n7⟩ := q7; exact again I7 n7
  | cont => obtain ⟨σ7, H7, I7, n7⟩ := q7; exact again I7 n7
  | brk => obtain ⟨σ7, H7, I7, q7⟩ := q7; exact ⟨σ7, H7, I7.unpinned, q7⟩
  | ret v => obtain ⟨x7, σ7, H7, I7, r7, q7⟩ := q7; exact ⟨x7, σ7, H7, I7.unpinned, r7, q7⟩
end
end L2
namespace L2
open PySem PySem.Spec PyProof.Rows
abbrev R2 := V -> V -> Hp -> VK -> Prop
def OpR (X : Cx) (f : Value -> Value -> Sem Value) (r : R2) : Prop :=
 ∀ (pins : List (Addr × Obj)) (s : Shared) (σ : St) (H : Hp) (x y : V) (v u : Value) (Q : VK), Inv X pins σ H s -> RelV x v -> RelV y u -> r x y H Q ->
  wpAny (model X.prog X.w) X.A (f v u) (EP X pins σ Q) X.xe s
def UnR (X : Cx) (f : Value -> Sem Value) (r : V -> Hp -> VK -> Prop) : Prop :=
 ∀ (pins : List (Addr × Obj)) (s : Shared) (σ : St) (H : Hp) (x : V) (v : Value) (Q : VK), Inv X pins σ H s -> RelV x v -> r x H Q ->
  wpAny (model X.prog X.w) X.A (f v) (EP X pins σ Q) X.xe s
def CallR (X : Cx) (f : Value) (r : List V -> Hp -> VK -> Prop) : Prop :=
 ∀ (pins : List (Addr × Obj)) (s : Shared) (σ : St) (H : Hp) (xs : List V) (us : List Value) (Q : VK), Inv X pins σ H s -> Vals xs us -> r xs H Q ->
  wpAny (model X.prog X.w) X.A (call f us) (EP X pins σ Q) X.xe s
def tOp (r : R2) (ta tb : TE) : TE := fun σ H Q => ta σ H fun x H1 => tb σ H1 fun y H2 => r x y H2 Q
def tUn (r : V -> Hp -> VK -> Prop) (ta : TE) : TE := fun σ H Q => ta σ H fun x H1 => r x H1 Q
def rI (C : Int -> Int -> Prop) (g : Int -> Int -> V) : R2 := fun x y H Q => ∃ i j, x = .int i /\ y = .int j /\ C i j /\ Q (g i j) H
def rI0 (g : Int -> Int -> V) : R2 := fun x y H Q => ∃ i j, x = .int i /\ y = .int j /\ Q (g i j) H
def rU (g : Int -> V) : V -> Hp -> VK -> Prop := fun x H Q => ∃ i, x = .int i /\ Q (g i) H
section
variable {X : Cx} {a b c : Expr} {ta tb tc : TE} {pos : Pos}
theorem binT (ha : PE X a ta) (hb : PE X b tb) {pins : List (Addr × Obj)} {s : Shared} {σ : St} {H : Hp} {R : V -> V -> Hp -> Prop} (I : Inv X pins σ H s)
  (h : ta σ H fun x H1 => tb σ H1 fun y H2 => R x y H2) {Q : Value -> Shared -> Prop} {f : Value -> Value -> Sem Value}
  (hf : ∀ v u s2 x y H2, Inv X pins σ H2 s2 -> RelV x v -> RelV y u -> R x y H2 -> wpAny (model X.prog X.w) X.A (f v u) Q X.xe s2) :
  wpAny (model X.prog X.w) X.A (eval a X.env) (fun v s₁ => wpAny (model X.prog X.w) X.A (eval b X.env) (fun u s₂ => wpAny (model X.prog X.w) X.A (f v u) Q X.xe s₂) X.xe s₁) X.xe s := by
 refine thn (ha pins s σ H _ I h) fun v s1 ⟨x, H1, I1, r1, q1⟩ => ?_
 refine thn (hb pins s1 σ H1 _ I1 q1) fun u s2 ⟨y, H2, I2, r2, q2⟩ => ?_
 exact hf v u s2 x y H2 I2 r1 r2 q2
theorem pe_op {op : Operator} {r : R2} (ho : OpR X (binaryOp op) r) (ha : PE X a ta) (hb : PE X b tb) : PE X (.BinOp a op b pos) (tOp r ta tb) := by
 intro pins s σ H Q I h
 exact wpAny_BinOp (binT ha hb I h fun v u s2 x y H2 I2 rx ry q => ho pins s2 σ H2 x y v u Q I2 rx ry q)
theorem pe_un {op : UnaryOp} {r : V -> Hp -> VK -> Prop} (ho : UnR X (unaryOp op) r) (ha : PE X a ta) : PE X (.UnaryOp op a pos) (tUn r ta) := by
 intro pins s σ H Q I h
 exact UnaryOp_ (thn (ha pins s σ H _ I h) fun v s1 ⟨x, H1, I1, r1, q1⟩ => ho pins s1 σ H1 x v Q I1 r1 q1)
theorem opI {f : Value -> Value -> Sem Value} {C : Int -> Int -> Prop} {g : Int -> Int -> Int}
  (rule : ∀ (i j : Int) (t u : Tok) (s : Shared) (Q : Value -> Shared -> Prop) (E : Value -> Shared -> Prop), C i j -> Q (.int (g i j) s.toks) { s with toks := s.toks + 1 } -> wpAny (model X.prog X.w) X.A (f (.int i t) (.int j u)) Q E s) :
  OpR X f (rI C fun i j => .int (g i j)) := by
 intro pins s σ H x y v u Q I rx ry h
 obtain ⟨i, j, rfl, rfl, hc, q⟩ := h
 obtain ⟨t, rfl⟩ := rx
 obtain ⟨t', rfl⟩ := ry
 exact rule i j t t' s _ _ hc ⟨.int (g i j), H, I.tok _, ⟨_, rfl⟩, q⟩
theorem opI0 {f : Value -> Value -> Sem Value} {g : Int -> Int -> Int}
  (rule : ∀ (i j : Int) (t u : Tok) (s : Shared) (Q : Value -> Shared -> Prop) (E : Value -> Shared -> Prop), Q (.int (g i j) s.toks) { s with toks := s.toks + 1 } -> wpAny (model X.prog X.w) X.A (f (.int i t) (.int j u)) Q E s) :
  OpR X f (rI0 fun i j => .int (g i j)) := by
 intro pins s σ H x y v u Q I rx ry h
 obtain ⟨i, j, rfl, rfl, q⟩ := h
 obtain ⟨t, rfl⟩ := rx
 obtain ⟨t', rfl⟩ := ry
 exact rule i j t t' s _ _ ⟨.int (g i j), H, I.tok _, ⟨_, rfl⟩, q⟩
theorem opB0 {f : Value -> Value -> Sem Value} {g : Int -> Int -> Bool}
  (rule : ∀ (i j : Int) (t u : Tok) (s : Shared) (Q : Value -> Shared -> Prop) (E : Value -> Shared -> Prop), Q (.bool (g i j)) s -> wpAny (model X.prog X.w) X.A (f (.int i t) (.int j u)) Q E s) :
  OpR X f (rI0 fun i j => .bl (g i j)) := by
 intro pins s σ H x y v u Q I rx ry h
 obtain ⟨i, j, rfl, rfl, q⟩ := h
 obtain ⟨t, rfl⟩ := rx
 obtain ⟨t', rfl⟩ := ry
 exact rule i j t t' s _ _ ⟨.bl (g i j), H, I, rfl, q⟩
def CDiv (i j : Int) : Prop := 0 < j /\ j < 1073741824
def CPow (i j : Int) : Prop := 0 <= j /\ j <= 1000000 /\ i.natAbs < 2 ^ 64
def CMul (i j : Int) : Prop := (-(2 ^ 64) < i /\ i < 2 ^ 64) \/ (-(2 ^ 64) < j /\ j < 2 ^ 64)
theorem CMul.ok {i j : Int} (h : CMul i j) : IntMulOk i j := by
 rcases h with ⟨h1, h2⟩ | ⟨h1, h2⟩
 ·exact .of_left (intBits_le_64 h1 h2)
 ·exact .of_right (intBits_le_64 h1 h2)
theorem op_add : OpR X (binaryOp .Add) (rI0 fun i j => .int (i + j)) := opI0 fun _ _ _ _ _ _ _ q => add_int q
theorem op_sub : OpR X (binaryOp .Sub) (rI0 fun i j => .int (i - j)) := opI0 fun _ _ _ _ _ _ _ q => sub_int q
theorem op_mul : OpR X (binaryOp .Mult) (rI CMul fun i j => .int (i * j)) := opI fun _ _ _ _ _ _ _ hc q => mul_int q hc.ok
theorem op_fdiv : OpR X (binaryOp .FloorDiv) (rI CDiv fun i j => .int (i / j)) := opI fun i j _ _ _ _ _ hc q => by
 have h1 : (0 : Int) < j := hc.1
 have h2 : j < 1073741824 := hc.2
 exact floordiv_int (by omega) (by rw [Int.fdiv_eq_ediv_of_nonneg i (by omega)]; exact q) (.inl (PyProof.noPylong_small (by omega)))
theorem op_mod : OpR X (binaryOp .Mod) (rI (fun _ j => 0 < j) fun i j => .int (i % j)) := opI fun i j _ _ _ _ _ hc q => by
 have h1 : (0 : Int) < j := hc
 exact mod_int' (by omega) (by rw [Int.fmod_eq_emod_of_nonneg i (by omega)]; exact q)
theorem op_pow : OpR X (binaryOp .Pow) (rI CPow fun i j => .int (i ^ j.toNat)) := opI fun _ _ _ _ _ _ _ hc q => pow_int_small hc.1 hc.2.1 hc.2.2 q
theorem unI {f : Value -> Sem Value} {g : Int -> Int}
  (rule : ∀ (i : Int) (t : Tok) (s : Shared) (Q : Value -> Shared -> Prop) (E : Value -> Shared -> Prop), Q (.int (g i) s.toks) { s with toks := s.toks + 1 } -> wpAny (model X.prog X.w) X.A (f (.int i t)) Q E s) :
  UnR X f (rU fun i => .int (g i)) := by
 intro pins s σ H x v Q I rx h
 obtain ⟨i, rfl, q⟩ := h
 obtain ⟨t, rfl⟩ := rx
 exact rule i t s _ _ ⟨.int (g i), H, I.tok _, ⟨_, rfl⟩, q⟩
theorem un_neg : UnR X (unaryOp .USub) (rU fun i => .int (-i)) := unI fun _ _ _ _ _ q => neg_int q
end
section
variable {X : Cx} {a b c : Expr} {ta tb tc : TE} {pos : Pos}
theorem fin_bl {pins : List (Addr × Obj)} {σ : St} {H : Hp} {s : Shared} {Q : VK} {k k' : Bool} (I : Inv X pins σ H s) (q : Q (.bl k) H) (e : k = k') : EP X pins σ Q (.bool k') s := by
 subst e
 exact ⟨.bl k, H, I, rfl, q⟩
theorem op_lt : OpR X (compareOp .Lt) (rI0 fun i j => .bl (decide (i < j))) := opB0 fun _ _ _ _ _ _ _ q => lt_int q
theorem op_le : OpR X (compareOp .LtE) (rI0 fun i j => .bl (decide (i <= j))) := opB0 fun _ _ _ _ _ _ _ q => le_int q
theorem op_gt : OpR X (compareOp .Gt) (rI0 fun i j => .bl (decide (j < i))) := opB0 fun _ _ _ _ _ _ _ q => gt_int q
theorem op_ge : OpR X (compareOp .GtE) (rI0 fun i j => .bl (decide (j <= i))) := opB0 fun _ _ _ _ _ _ _ q => ge_int q
theorem op_lt_str : OpR X (compareOp .Lt) (fun x y H Q => ∃ i j, x = .str i /\ y = .str j /\ Q (.bl (decide (i.cps.toList < j.cps.toList))) H) := by
 intro pins s σ H x y v u Q I rx ry h
 obtain ⟨i, j, rfl, rfl, q⟩ := h
 obtain ⟨t, rfl⟩ := rx
 obtain ⟨t', rfl⟩ := ry
 exact lt_str (fin_bl I q rfl)
theorem op_in_str : OpR X (compareOp .In) (fun x y H Q => ∃ i j, x = .str i /\ y = .str j /\ Q (.bl (!(Builtin.Str.occurrences j i 0 j.length 1).isEmpty)) H) := by
 intro pins s σ H x y v u Q I rx ry h
 obtain ⟨i, j, rfl, rfl, q⟩ := h
 obtain ⟨t, rfl⟩ := rx
 obtain ⟨t', rfl⟩ := ry
 exact in_str (fin_bl I q rfl)
theorem op_notN : OpR X (compareOp .IsNot) (fun x y H Q => y = .non /\ Q (.bl (!decide (x = .non))) H) := by
 intro pins s σ H x y v u Q I rx ry h
 obtain ⟨rfl, q⟩ := h
 cases ry
 refine isnot_none_gen (fin_bl I q ?_)
 cases x <;> first
  | (cases rx; rfl)
  | (obtain ⟨t, rfl⟩ := rx; rfl)
theorem OpR.or {f : Value -> Value -> Sem Value} {r r' : R2} (h : OpR X f r) (h' : OpR X f r') : OpR X f (fun x y H Q => r x y H Q \/ r' x y H Q) := by
 intro pins s σ H x y v u Q I rx ry q
 rcases q with q | q
 ·exact h pins s σ H x y v u Q I rx ry q
 ·exact h' pins s σ H x y v u Q I rx ry q
theorem nomark (b : Expr) {op : CmpOp} (h : op ≠ .In := by decide) (h2 : op ≠ .NotIn := by decide) : behindInMarks op b = false := by
 have e1 : (op == CmpOp.In) = false := by cases op <;> first | rfl | exact absurd rfl h
 have e2 : (op == CmpOp.NotIn) = false := by cases op <;> first | rfl | exact absurd rfl h2
 cases b <;> simp [behindInMarks, e1, e2]
theorem pe_cmpR {op : CmpOp} {r : R2} (ho : OpR X (compareOp op) r) (ha : PE X a ta) (hb : PE X b tb) (hm : behindInMarks op b = false) : PE X (.Compare a [op] [b] pos) (tOp r ta tb) := by
 intro pins s σ H Q I h
 exact wpAny_Compare1 (binT ha hb I h fun v u s2 x y H2 I2 rx ry q => ho pins s2 σ H2 x y v u Q I2 rx ry q) hm
def tTest (t : TE) : TT := fun σ H Q => t σ H fun x H' => ∃ k, x = .bl k /\ Q k H'
theorem pt_cmpR {op : CmpOp} {r : R2} (ho : OpR X (compareOp op) r) (ha : PE X a ta) (hb : PE X b tb) (hm : behindInMarks op b = false) : PT X (.Compare a [op] [b] pos) (tTest (tOp r ta tb)) := by
 intro pins s σ H Q I h
 refine wpAny_isTrue_Compare1 (thn (ha pins s σ H _ I h) fun v s1 ⟨x, H1, I1, r1, q1⟩ => thn (hb pins s1 σ H1 _ I1 q1) fun u s2 ⟨y, H2, I2, r2, q2⟩ =>
  thn (ho pins s2 σ H2 x y v u _ I2 r1 r2 q2) fun c s3 ⟨z, H3, I3, r3, k, e, q3⟩ => ?_) hm
 subst e
 cases r3
 exact wpAny_truthy_bool ⟨H3, I3, q3⟩
def tChain (r r' : R2) (ta tb tc : TE) : TE := fun σ H Q => ta σ H fun x H1 => tb σ H1 fun y H2 => r x y H2 fun z H3 => ∃ k, z = .bl k /\
 (if k = true then tc σ H3 fun w' H4 => r' y w' H4 Q else Q (.bl false) H3)
theorem pe_chain {op op' : CmpOp} {r r' : R2} (ho : OpR X (compareOp op) r) (ho' : OpR X (compareOp op') r') (ha : PE X a ta) (hb : PE X b tb) (hc : PE X c tc)
  (hm : lastMarks [op, op'] [b, c] = false := by with_unfolding_all rfl) : PE X (.Compare a [op, op'] [b, c] pos) (tChain r r' ta tb tc) := by
 intro pins s σ H Q I h
 refine Compare_chain (thn (ha pins s σ H _ I h) fun v s1 ⟨x, H1, I1, r1, q1⟩ => chain_link (thn (hb pins s1 σ H1 _ I1 q1) fun u s2 ⟨y, H2, I2, r2, q2⟩ =>
  thn (ho pins s2 σ H2 x y v u _ I2 r1 r2 q2) fun d s3 ⟨z, H3, I3, r3, k, e, q3⟩ => ?_)) hm
 subst e
 cases r3
 refine wpAny_truthy_bool ?_
 cases k with
 | false => exact ite_ff ⟨.bl false, H3, I3, rfl, q3⟩
 | true => exact ite_tt (chain_last (thn (hc pins s3 σ H3 _ I3 q3) fun w' s4 ⟨z', H4, I4, r4, q4⟩ => ho' pins s4 σ H4 y z' u w' Q I4 r2 r4 q4))
theorem line63 : (sizeLine : Nat) < 2 ^ 63 := by rw [sizeLine_eq]; decide
theorem op_add_str : OpR X (binaryOp .Add) (fun x y H Q => ∃ i j, x = .str i /\ y = .str j /\ i.length + j.length <= sizeLine /\ Q (.str (i ++ j)) H) := by
 intro pins s σ H x y v u Q I rx ry h
 obtain ⟨i, j, rfl, rfl, hz, q⟩ := h
 obtain ⟨t, rfl⟩ := rx
 obtain ⟨t', rfl⟩ := ry
 exact add_str (fun t' tk => ⟨.str (i ++ j), H, I.tok _, ⟨_, rfl⟩, q⟩) hz
theorem vals1 {x : V} {us : List Value} (r : Vals [x] us) : ∃ u, us = [u] /\ RelV x u := by
 cases r with
 | cons r1 r2 => cases r2; exact ⟨_, rfl, r1⟩
theorem vals2 {x y : V} {us : List Value} (r : Vals [x, y] us) : ∃ u w', us = [u, w'] /\ RelV x u /\ RelV y w' := by
 cases r with
 | cons r1 r2 =>
  cases r2 with
  | cons r3 r4 => cases r4; exact ⟨_, _, rfl, r1, r3⟩
theorem call_min2 (hc : X.calm = true) : CallR X (.builtin "min") (fun xs H Q => ∃ i j, xs = [.int i, .int j] /\ Q (.int (if j < i then j else i)) H) := by
 intro pins s σ H xs us Q I r h
 obtain ⟨i, j, rfl, q⟩ := h
 obtain ⟨u, w', rfl, ⟨t, rfl⟩, ⟨t', rfl⟩⟩ := vals2 r
 refine min_two_ints (I.ok.hd hc) fun h' tk k => ⟨_, H, I.kept k, ?_, q⟩
 by_cases hj : j < i
 ·rw [if_pos hj, if_pos hj]; exact ⟨_, rfl⟩
 ·rw [if_neg hj, if_neg hj]; exact ⟨_, rfl⟩
theorem call_ord : CallR X (.builtin "ord") (fun xs H Q => ∃ x, xs = [.str x] /\ x.length = 1 /\ Q (.int (x.cps.getD 0 0 : Nat)) H) := by
 intro pins s σ H xs us Q I r h
 obtain ⟨x, rfl, hz, q⟩ := h
 obtain ⟨u, rfl, t, rfl⟩ := vals1 r
 exact ord_of_one hz ⟨.int _, H, I.tok _, ⟨_, rfl⟩, q⟩
end
end L2
namespace L2
open PySem PySem.Spec PyProof.Rows
theorem RelO.some_of {v : V} {o : Option Value} (r : RelO (some v) o) : ∃ u, o = some u /\ RelV v u := by
 cases o with
 | none => exact (show False from r).elim
 | some u => exact ⟨u, rfl, r⟩
end L2
namespace L2
open PySem PySem.Spec PyProof.Rows
structure Room (k : Nat) (A : Around) : Prop where
 hd : A.handled = none
 dp : A.depth + 3 * k + 5 < recursionLimit
 un : A.units + 16 * k + 200 < cLine
 gd : A.guards = some []
theorem Room.mono {j k : Nat} {A : Around} (r : Room k A) (h : j <= k) : Room j A := ⟨r.hd, by have := r.dp; omega, by have := r.un; omega, r.gd⟩
theorem Room.deeper {k : Nat} {A : Around} (r : Room (k + 1) A) (env : Env) : Room k (A.deeper env) :=
 ⟨r.hd, by have := r.dp; show A.depth + 1 + 3 * k + 5 < _; omega, by have := r.un; show A.units + 3 + 16 * k + 200 < _; omega, r.gd⟩
theorem Room.depth {k : Nat} {A : Around} (r : Room k A) : A.depth < recursionLimit := by have := r.dp; omega
theorem Room.units {k : Nat} {A : Around} (r : Room k A) : A.units + 64 < cLine := by have := r.un; omega
def tNil : TA := fun _ H Q => Q [] H
def tCons (ta : TE) (tr : TA) : TA := fun σ H Q => ta σ H fun x H1 => tr σ H1 fun xs H2 => Q (x :: xs) H2
section
variable {X : Cx} {e : Expr} {es : List Expr} {te : TE} {t : TA} {pos : Pos}
theorem pa_nil : PA X [] tNil := fun _ _ _ _ H Q I h => Calls.spliced_nil ⟨[], H, I, .nil, h⟩
theorem pa_cons (ha : PE X e te) (hr : PA X es t) (hs : starEach (e :: es) X.env = (false, eval e X.env) :: starEach es X.env := by rfl) : PA X (e :: es) (tCons te t) := by
 intro pos pins s σ H Q I h
 rw [hs]
 show wpAny _ _ (spliced ((false, eval e X.env) :: backTo pos (starEach es X.env))) _ _ s
 refine Calls.spliced_cons (thn (ha pins s σ H _ I h) fun u s1 ⟨x, H1, I1, r1, q1⟩ => ?_)
 exact thn (hr pos pins s1 σ H1 _ I1 q1) fun us s2 ⟨xs, H2, I2, r2, q2⟩ => ⟨x :: xs, H2, I2, .cons r1 r2, q2⟩
def tTup (t : TA) : TE := fun σ H Q => t σ H fun xs H1 => xs.length <= sizeLine /\ ∀ p, H1 p = none -> Q (.ref p) (upd H1 p (.tup xs))
def tLst (t : TA) : TE := fun σ H Q => t σ H fun xs H1 => xs.length <= sizeLine /\ ∀ p, H1 p = none -> Q (.ref p) (upd H1 p (.lst xs))
theorem pe_tup {x1} (h : PA X es t) : PE X (.Tuple es x1 pos) (tTup t) := by
 intro pins s σ H Q I hq
 refine wpAny_Tuple_spliced (thn (h pos pins s σ H _ I hq) fun us s1 ⟨xs, H1, I1, r, z, q⟩ => ⟨by rw [<- r.length]; exact z, ?_⟩)
 have hf : H1 s1.heap.objs.size = none := I1.hok.fresh (Nat.le_refl _)
 refine ⟨.ref s1.heap.objs.size, upd H1 s1.heap.objs.size (.tup xs), I1.laid (t' := s1.toks) (fun b u e => Heap.get?_push_of_some _ e) (Nat.le_refl _) ?_, rfl, q _ hf⟩
 exact ⟨z, us, r, ⟨_, Heap.get?_push_size _ rfl, rfl, _, rfl⟩⟩
theorem pe_lst (h : PA X es t) : PE X (.List es pos) (tLst t) := by
 intro pins s σ H Q I hq
 refine wpAny_List_spliced (thn (h pos pins s σ H _ I hq) fun us s1 ⟨xs, H1, I1, r, z, q⟩ => ⟨by rw [<- r.length]; exact z, ?_⟩)
 have hf : H1 s1.heap.objs.size = none := I1.hok.fresh (Nat.le_refl _)
 refine ⟨.ref s1.heap.objs.size, upd H1 s1.heap.objs.size (.lst xs), I1.laid (t' := s1.toks) (fun b u e => Heap.get?_push_of_some _ e) (Nat.le_refl _) ?_, rfl, q _ hf⟩
 exact ⟨z, us, 0, r, Heap.get?_push_size _ rfl⟩
end
abbrev Sp := List V -> Hp -> VK -> XK -> Prop
abbrev CXT := List Env -> Hp -> Shared -> XK -> Value -> Shared -> Prop
structure Env0 (P : Program) (w : World) (K : PySem.W.Frag) (mg : Str -> Option Value) (base : Heap) (A : Around) (outer : List Env) (s : Shared) (H : Hp) : Prop where
 frames : A.frames = some outer
 mod : Mod K mg base
 bs : ∀ b o, base.get? b = some o -> s.heap.get? b = some o /\ H b = none
 bsz : base.objs.size <= s.heap.objs.size
 funs : s.heap.FunFrames base outer
 frf : ∀ b ∈ frs outer, H b = none
 hok : HOk P w H s.heap
 bare : AllBare s.gens
def CE (outer : List Env) (P : Program) (w : World) (H : Hp) (s : Shared) (Q : VK) (u : Value) (s' : Shared) : Prop :=
 ∃ v H', s'.os = s.os /\ AllBare s'.gens /\ Un (frs outer) [] H H' s.heap s'.heap /\ HOk P w H' s'.heap /\ RelV v u /\ Q v H'
def CR (CX : CXT) (outer : List Env) (P : Program) (w : World) (H : Hp) (s : Shared) (Q : VK) (E : XK) (r : Result) (s' : Shared) : Prop :=
 match r with
 | .ok (.ret u) => CE outer P w H s Q u s'
 | .ok _ => False
 | .error e => CX outer H s E e s'
structure FnOk (P : Program) (w : World) (K : PySem.W.Frag) (mg : Str -> Option Value) (base : Heap) (CX : CXT) (k : Nat) (f : Addr) (fd : FuncData) (ps : List Str) (sp : Sp) : Prop where
 len : ∀ vs H Q E, sp vs H Q E -> vs.length = ps.length
 run : ∀ (A : Around) (outer : List Env) (s : Shared) (H : Hp) (args : Args) (us : List Value) (vs : List V) (Q : VK) (E : XK), Room k A -> Env0 P w K mg base A outer s H -> BindsTo s fd args (ps.zip us) -> Vals vs us -> sp vs H Q E ->
  codeAny (model P w) A (.call (.ref f) args) (CR CX outer P w H s Q E) s
theorem FnOk.imp {P : Program} {w : World} {K : PySem.W.Frag} {mg : Str -> Option Value} {base : Heap} {CX : CXT} {k : Nat} {f : Addr} {fd : FuncData} {ps : List Str} {sp sp' : Sp} (F : FnOk P w K mg base CX k f fd ps sp)
  (h : ∀ vs H Q E, sp' vs H Q E -> sp vs H Q E) : FnOk P w K mg base CX k f fd ps sp' :=
 ⟨fun vs H Q E q => F.len vs H Q E (h _ _ _ _ q), fun A outer s H args us vs Q E hr he hb hv hs => F.run A outer s H args us vs Q E hr he hb hv (h _ _ _ _ hs)⟩
section
variable {X : Cx} {pins : List (Addr × Obj)} {σ : St} {H : Hp} {s s' : Shared}
theorem Inv.env0 (I : Inv X pins σ H s) : Env0 X.prog X.w X.K X.mg X.base X.A X.stack s H :=
 ⟨I.ok.frames, I.ok.mod, I.bs, Nat.le_trans I.ok.bsz I.sz, I.stack, I.stkFree, I.hok, I.bare⟩
theorem Inv.after {Q : VK} {u : Value} (I : Inv X pins σ H s) (h : CE X.stack X.prog X.w H s Q u s') : EP X pins σ Q u s' := by
 obtain ⟨v, H', os, bare, un, hok, r, q⟩ := h
 obtain ⟨hh, g, d, t, os'⟩ := s'
 obtain rfl : os' = s.os := os
 exact ⟨v, H', I.call (h' := hh) (g' := g) (d' := d) (t' := t) (ch := []) un hok bare (fun b z => absurd z (by simp)), r, q⟩
end
def tCall (sp : Sp) (dvs : List V) (E : XK) (t : TA) : TE := fun σ H Q => t σ H fun vs H1 => sp (vs ++ dvs) H1 Q E
def Binds (K : PySem.W.Frag) (fd : FuncData) (ps : List Str) (ds : List Value) : Prop :=
 ∀ (s : Shared) (us : List Value), K.In s.heap -> (us ++ ds).length = ps.length -> BindsTo s fd ⟨us, []⟩ (ps.zip (us ++ ds))
theorem Binds.all {K : PySem.W.Frag} {fd : FuncData} {ps : List Str} (h : ∀ us : List Value, us.length = ps.length -> bindArgs fd ⟨us, []⟩ = pure (ps.zip us)) : Binds K fd ps [] := fun s us _ hl => by
 rw [List.append_nil] at hl ⊢
 exact .of_eq (h us hl)
def Passes (CX : CXT) (X : Cx) (E : XK) : Prop := ∀ (pins : List (Addr × Obj)) (σ : St) (H : Hp) (s : Shared) (e : Value) (s' : Shared), Inv X pins σ H s -> CX X.stack H s E e s' -> X.xe e s'
section
variable {X : Cx} {CX : CXT} {k : Nat} {f C : Addr} {fd : FuncData} {ps : List Str} {sp : Sp} {dvs : List V} {ds : List Value} {E : XK} {x m : Str} {p pos apos : Pos} {e o : Expr} {es : List Expr} {ta : TE} {t : TA}
theorem run_fn {pins : List (Addr × Obj)} {σ : St} {H : Hp} {s : Shared} {Q : VK} {us : List Value} {vs : List V} (F : FnOk X.prog X.w X.K X.mg X.base CX k f fd ps sp) (hr : Room k X.A) (hb : Binds X.K fd ps ds) (hd : Vals dvs ds) (hx : Passes CX X E)
  (I : Inv X pins σ H s) (r : Vals vs us) (h : sp (vs ++ dvs) H Q E) : wpAny (model X.prog X.w) X.A (call (.ref f) us) (EP X pins σ Q) X.xe s := by
 have r2 : Vals (vs ++ dvs) (us ++ ds) := r.append hd
 have hl : (us ++ ds).length = ps.length := by rw [<- r2.length]; exact F.len _ _ _ _ h
 refine wpAny_call (codeAny_mono (F.run X.A X.stack s H ⟨us, []⟩ (us ++ ds) (vs ++ dvs) Q E hr I.env0 (hb s us I.kIn hl) r2 h) fun r s' hq => ?_)
 cases r with
 | error e => exact hx pins σ H s e s' I hq
 | ok fl =>
  cases fl with
  | ret u => exact I.after hq
  | next => exact False.elim hq
  | brk => exact False.elim hq
  | cont => exact False.elim hq
theorem pe_call (F : FnOk X.prog X.w X.K X.mg X.base CX k f fd ps sp) (hr : Room k X.A) (hg : Gl X x) (hm : X.mg x = some (.ref f)) (hk : PySem.W.keepIn X.K (.ref f) = true) (hb : Binds X.K fd ps ds) (hd : Vals dvs ds) (hx : Passes CX X E)
  (ha : PA X (e :: es) t) (hdb : (x == ("__debug__" : Str)) = false := by decide) (he : starEach (e :: es) X.env = (false, eval e X.env) :: starEach es X.env := by rfl) (hpl : (backTo pos (starEach es X.env)).any (·.1) = false := by rfl) :
  PE X (.Call (.Name x p) (e :: es) [] pos) (tCall sp dvs E t) := by
 intro pins s σ H Q I h
 refine wpAny_Call_Name_kw (ld_glob I hg hm ?_ hdb)
 refine PySem.W.callWith_K (h₀ := X.base) I.ok.mod.kin hk (thn (ha pos pins s σ H _ I h) fun us s1 ⟨vs, H1, I1, r, q⟩ => ⟨I1.kIn, ?_⟩) he hpl
 exact run_fn F hr hb hd hx I1 r q
theorem pe_call0 (F : FnOk X.prog X.w X.K X.mg X.base CX k f fd ps sp) (hr : Room k X.A) (hg : Gl X x) (hm : X.mg x = some (.ref f)) (hk : PySem.W.keepIn X.K (.ref f) = true) (hb : Binds X.K fd ps ds) (hd : Vals dvs ds) (hx : Passes CX X E)
  (hdb : (x == ("__debug__" : Str)) = false := by decide) : PE X (.Call (.Name x p) [] [] pos) (tCall sp dvs E tNil) := by
 intro pins s σ H Q I h
 refine wpAny_Call_Name_kw (ld_glob I hg hm ?_ hdb)
 exact PySem.W.callWith_K0 I.kIn hk (run_fn (us := []) F hr hb hd hx I .nil h)
end
structure FnScope (N P : List Str) (sc : Scope) : Prop where
 kind : sc.kind = .function
 co : sc.isCoroutine = false
 gen : sc.isGenerator = false
 nd : N.Nodup
 pre : N.take P.length = P
 par : ∀ x ∈ P, sc.names.lookup x = some .local \/ sc.names.lookup x = some .cell
 nofree : ∀ y ∈ sc.names, y.2 ≠ .free
theorem fsc {N P : List Str} {sc : Scope} (h : sc.kind = .function /\ sc.isCoroutine = false /\ sc.isGenerator = false /\ N.Nodup /\ N.take P.length = P /\ (∀ x ∈ P, sc.names.lookup x = some .local \/ sc.names.lookup x = some .cell) /\ ∀ y ∈ sc.names, y.2 ≠ .free) : FnScope N P sc := ⟨h.1, h.2.1, h.2.2.1, h.2.2.2.1, h.2.2.2.2.1, h.2.2.2.2.2.1, h.2.2.2.2.2.2⟩
theorem bindL_out {kindOf : Str -> Option NameKind} {x : Str} : ∀ {binds : List (Str × Value)} {m : Str -> Option Value}, (∀ v, (x, v) ∉ binds) -> bindL kindOf binds m x = m x
 | [], _, _ => rfl
 | (n, v) :: r, m, h => by
  unfold bindL
  rw [bindL_out fun w hw => h w (List.mem_cons_of_mem _ hw)]
  split
  ·have : x ≠ n := by rintro rfl; exact h v List.mem_cons_self
   simp [this]
  ·rfl
theorem bindC_out {kindOf : Str -> Option NameKind} {x : Str} : ∀ {binds : List (Str × Value)} {m : Str -> Option Value}, (∀ v, (x, v) ∉ binds) -> bindC kindOf binds m x = m x
 | [], _, _ => rfl
 | (n, v) :: r, m, h => by
  unfold bindC
  rw [bindC_out fun w hw => h w (List.mem_cons_of_mem _ hw)]
  split
  ·rfl
  ·have : x ≠ n := by rintro rfl; exact h v List.mem_cons_self
   simp [this]
theorem bindL_get {kindOf : Str -> Option NameKind} {x : Str} {v : Value} : ∀ {P : List Str} {vs : List Value} {i : Nat} {m : Str -> Option Value}, P.Nodup -> P[i]? = some x -> vs[i]? = some v -> kindOf x = some .local ->
  bindL kindOf (P.zip vs) m x = some v
 | [], _, _, _, _, h, _, _ => by simp at h
 | _ :: _, [], _, _, _, _, h, _ => by simp at h
 | p :: P, w :: vs, 0, m, nd, h1, h2, hk => by
  simp at h1 h2; subst h1; subst h2
  show bindL kindOf ((p, w) :: P.zip vs) m p = _
  unfold bindL
  rw [bindL_out fun v hv => (List.nodup_cons.mp nd).1 (List.of_mem_zip hv).1, if_pos hk]
  simp
 | p :: P, w :: vs, i + 1, m, nd, h1, h2, hk => by
  show bindL kindOf ((p, w) :: P.zip vs) m x = _
  unfold bindL
  exact bindL_get (i := i) (List.nodup_cons.mp nd).2 (by simpa using h1) (by simpa using h2) hk
theorem bindC_get {kindOf : Str -> Option NameKind} {x : Str} {v : Value} : ∀ {P : List Str} {vs : List Value} {i : Nat} {m : Str -> Option Value}, P.Nodup -> P[i]? = some x -> vs[i]? = some v -> kindOf x ≠ some .local ->
  bindC kindOf (P.zip vs) m x = some v
 | [], _, _, _, _, h, _, _ => by simp at h
 | _ :: _, [], _, _, _, _, h, _ => by simp at h
 | p :: P, w :: vs, 0, m, nd, h1, h2, hk => by
  simp at h1 h2; subst h1; subst h2
  show bindC kindOf ((p, w) :: P.zip vs) m p = _
  unfold bindC
  rw [bindC_out fun v hv => (List.nodup_cons.mp nd).1 (List.of_mem_zip hv).1, if_neg hk]
  simp
 | p :: P, w :: vs, i + 1, m, nd, h1, h2, hk => by
  show bindC kindOf ((p, w) :: P.zip vs) m x = _
  unfold bindC
  exact bindC_get (i := i) (List.nodup_cons.mp nd).2 (by simpa using h1) (by simpa using h2) hk
def start (N : List Str) (vs : List V) : St := vs.map some ++ List.replicate (N.length - vs.length) none
def cxOf (CX : CXT) (P : Program) (w : World) (K : PySem.W.Frag) (mg : Str -> Option Value) (base : Heap) (N : List Str) (qual : Str) (scope : Scope) (f : Addr) (cd : Value) (A : Around) (outer : List Env) (s : Shared) (H : Hp) (E : XK) : Cx where
 prog := P
 w := w
 K := K
 mg := mg
 base := base
 A := A.deeper (envOfC qual scope s.heap.objs.size f cd)
 N := N
 s₀ := s
 H₀ := H
 env := envOfC qual scope s.heap.objs.size f cd
 outer := outer
 stack := envOfC qual scope s.heap.objs.size f cd :: outer
 ex := []
 calm := true
 fn := fun _ => true
 pn := []
 xe := fun e s' => wpAny (model P w) (A.deeper (envOfC qual scope s.heap.objs.size f cd)) (leaving (envOfC qual scope s.heap.objs.size f cd) e) (fun _ s'' => CX outer H s E e s'') (fun e' s'' => CX outer H s E e' s'') s'
theorem cell_has {sc : Scope} {n : Nat} {x : Str} (h : sc.names.lookup x = some .cell) : ∃ c, (cellsFrom n sc.names []).lookup x = some c := by
 have q := PySem.W.cellsFrom_some sc.names n [] (.inl h)
 exact Option.isSome_iff_exists.mp q
theorem inv_start {CX : CXT} {P : Program} {w : World} {K : PySem.W.Frag} {mg : Str -> Option Value} {base : Heap} {N ps : List Str} {qual : Str} {scope : Scope} {f : Addr} {cd : Value} {A : Around} {outer : List Env} {s s1 : Shared} {H : Hp} {E : XK} {us : List Value} {vs : List V}
  (S : FnScope N ps scope) (hd : A.handled = none) (e0 : Env0 P w K mg base A outer s H) (hl : vs.length = ps.length) (r : Vals vs us)
  (x : InCallC s s.heap.objs.size (bindL (envOfC qual scope s.heap.objs.size f cd).kindOf (ps.zip us) fun _ => none) (cellsFrom (s.heap.objs.size + 1) scope.names []) (bindC (envOfC qual scope s.heap.objs.size f cd).kindOf (ps.zip us) fun _ => none) s1) :
  Inv (cxOf CX P w K mg base N qual scope f cd A outer s H E) [] (start N vs) H s1 := by
 have hpl : ps.length <= N.length := by have := congrArg List.length S.pre; rw [List.length_take] at this; omega
 obtain ⟨h1, tk, rfl, hk⟩ := x.done
 have noA : ∀ b : Addr, b ∉ (cxOf CX P w K mg base N qual scope f cd A outer s H E).ex := fun b z => absurd (show b ∈ ([] : List Addr) from z) (by simp)
 refine ⟨⟨e0.mod, S.kind, rfl, rfl, Nat.le_refl _, fun y z c h1 h2 => ?_, fun y hy => ?_, fun y c _ h => ?_, fun _ => hd, Around.frames_deeper e0.frames, .inr ⟨rfl, rfl⟩, fun b z => absurd z (noA b), e0.bs, e0.bsz, fun b _ _ => noA b, fun b z => absurd z (noA b), e0.funs, e0.frf⟩,
  rfl, e0.bare, Un.kept hk, ⟨_, x.toInCall.ns, fun i y v h1 h2 h3 => ?_⟩, fun y c h => ⟨_, x.cell y c h⟩, e0.hok.fresh (Nat.le_refl _), fun y c h => ?_, fun p hp => absurd (show p ∈ ([] : List (Addr × Obj)) from hp) (by simp), e0.hok.kept hk, ?_⟩
 ·exact name_of_addr x.apart (PySem.mem_of_lookup h1) (PySem.mem_of_lookup h2)
 ·have hy : scope.names.lookup y = some .cell \/ scope.names.lookup y = some .free := hy
  rcases hy with hy | hy
  ·exact cell_has hy
  ·exact absurd rfl (S.nofree _ (PySem.mem_of_lookup hy))
 ·exact Nat.le_of_lt (x.above y c (PySem.mem_of_lookup h))
 ·have hi : i < vs.length := by
   unfold start at h2
   by_cases hi : i < vs.length
   ·exact hi
   ·rw [List.getElem?_append_right (by simpa using hi)] at h2
    rw [List.getElem?_replicate] at h2
    split at h2 <;> cases h2
  have ha : vs[i]? = some v := by
   unfold start at h2
   rw [List.getElem?_append_left (by simpa using hi), List.getElem?_map] at h2
   cases e : vs[i]? with
   | none => rw [e] at h2; cases h2
   | some a => rw [e] at h2; cases h2; rfl
  obtain ⟨u, hu, rv⟩ := r.get ha
  have hp : ps[i]? = some y := by
   rw [<- S.pre, List.getElem?_take_of_lt (by omega)]; exact h1
  have ndP : ps.Nodup := by rw [<- S.pre]; exact S.nd.sublist (List.take_sublist _ _)
  refine ⟨u, rv, ?_⟩
  rcases S.par y (List.mem_of_getElem? hp) with k | k
  ·exact .inl ⟨k, bindL_get ndP hp hu k⟩
  ·obtain ⟨c, e⟩ := cell_has (n := s.heap.objs.size + 1) k
   refine .inr ⟨.inl k, c, e, ?_⟩
   have q := x.cell y c e
   rw [bindC_get ndP hp hu (by show scope.names.lookup y ≠ _; rw [k]; decide)] at q
   exact q
 ·exact e0.hok.fresh (Nat.le_of_lt (x.above y c (PySem.mem_of_lookup h)))
 ·unfold start
  show _ = N.length
  rw [List.length_append, List.length_map, List.length_replicate]
  omega
theorem fn_of {CX : CXT} {P : Program} {w : World} {K : PySem.W.Frag} {mg : Str -> Option Value} {base : Heap} {k : Nat} {f : Addr} {name qual : Str} {params : Arguments} {body : List Stmt} {scope : Scope} {dV kV doc pm cdv ct oc : Value} {an od : Option Addr}
  {osl : Array (Option Value)} {N ps : List Str} {sp : Sp} (lk : K.lookup f = some ⟨oc, od, .func (PySem.W.fnOf name qual params body scope dV kV doc pm an cdv ct), osl⟩) (hcd : PySem.W.codeIn K cdv qual = true) (S : FnScope N ps scope)
  (len : ∀ vs H Q E, sp vs H Q E -> vs.length = ps.length)
  (hbody : ∀ (A : Around) (outer : List Env) (s : Shared) (H : Hp) (vs : List V) (Q : VK) (E : XK), Room k (A.deeper (envOfC qual scope s.heap.objs.size f cdv)) -> sp vs H Q E ->
   ∃ t, PSs (cxOf CX P w K mg base N qual scope f cdv A outer s H E) body t /\ t { nx := fun _ H' => Q .non H', rt := Q } (start N vs) H) :
  FnOk P w K mg base CX (k + 1) f (PySem.W.fnOf name qual params body scope dV kV doc pm an cdv ct) ps sp := by
 refine ⟨len, fun A outer s H args us vs Q E hr e0 hb r hsp => ?_⟩
 have hl := len _ _ _ _ hsp
 have KX : K.In s.heap := e0.mod.kin.keeps fun b o e => (e0.bs b o e).1
 have lim : s.heap.NoLimit := e0.mod.nolimit.keeps fun b o e => (e0.bs b o e).1
 have hkind : ∀ y ∈ ps.zip us, scope.names.lookup y.1 = some .local \/ (scope.names.lookup y.1 = some .cell /\ ((cellsFrom (s.heap.objs.size + 1) scope.names []).lookup y.1).isSome = true) := fun ⟨n, v⟩ hy => by
  rcases S.par n (List.of_mem_zip hy).1 with q | q
  ·exact .inl q
  ·exact .inr ⟨q, PySem.W.cellsFrom_some _ _ _ (.inl q)⟩
 refine codeAny_call_function hr.depth (KX _ _ lk) rfl S.co S.gen rfl (PySem.W.codeRec_of KX hcd) (hb _ _ _ _ ?_)
 refine wpAny_newFunctionEnv_cells S.kind hkind fun env he s1 x => ?_
 subst he
 refine ⟨lim.keeps x.toInCall.keep, codeAny_func ?_⟩
 obtain ⟨t, ht, hq⟩ := hbody A outer s H vs Q E (hr.deeper _) hsp
 have I : Inv (cxOf CX P w K mg base N qual scope f cdv A outer s H E) [] (start N vs) H s1 := inv_start S hr.hd e0 hl r x
 refine wpAny_mono (ht [] s1 (start N vs) H _ I hq) (fun fl s' hs => ?_) fun e s' hs => hs
 have fin : ∀ {σ' : St} {H' : Hp} {v : V} {u : Value}, Inv (cxOf CX P w K mg base N qual scope f cdv A outer s H E) [] σ' H' s' -> RelV v u -> Q v H' -> CE outer P w H s Q u s' :=
  fun {σ' H' v u} J rv q => ⟨v, H', J.os, J.bare, J.base, J.hok, rv, q⟩
 cases fl with
 | ret u =>
  obtain ⟨v, σ', H', J, rv, q⟩ := hs
  exact fin J rv q
 | next =>
  obtain ⟨σ', H', J, q⟩ := hs
  exact fin (v := V.non) (u := Value.none) J rfl q
 | brk =>
  obtain ⟨_, _, _, q⟩ := hs
  exact False.elim q
 | cont =>
  obtain ⟨_, _, _, q⟩ := hs
  exact False.elim q
end L2
namespace L2
open PySem PySem.Spec PyProof.Rows
section
variable {X : Cx} {x : Str} {p pos : Pos} {e : Expr} {es : List Expr} {t : TA} {id T : String} {r : List V -> Hp -> VK -> Prop}
def tCB (r : List V -> Hp -> VK -> Prop) (t : TA) : TE := fun σ H Q => t σ H fun vs H1 => r vs H1 Q
theorem pe_callB (hc : CallR X (.builtin id) r) (hg : Gl X x) (hm : X.mg x = none) (hv : bootBuiltins x = some (.builtin id)) (ha : PA X (e :: es) t) (hn : x ≠ "__name__" := by decide) (hdb : (x == ("__debug__" : Str)) = false := by decide)
  (he : starEach (e :: es) X.env = (false, eval e X.env) :: starEach es X.env := by rfl) (hpl : (backTo pos (starEach es X.env)).any (·.1) = false := by rfl) : PE X (.Call (.Name x p) (e :: es) [] pos) (tCB r t) := by
 intro pins s σ H Q I h
 refine wpAny_Call_Name_kw (ld_blt I hg hm hv ?_ hn hdb)
 exact PyProof.Rows.callWith_builtin1 (thn (ha pos pins s σ H _ I h) fun us s1 ⟨vs, H1, I1, r1, q1⟩ => hc pins s1 σ H1 vs us Q I1 r1 q1) he hpl
theorem pe_callTy (hc : CallR X (.type T) r) (hg : Gl X x) (hm : X.mg x = none) (hv : bootBuiltins x = some (.type T)) (ha : PA X (e :: es) t) (hn : x ≠ "__name__" := by decide) (hdb : (x == ("__debug__" : Str)) = false := by decide)
  (he : starEach (e :: es) X.env = (false, eval e X.env) :: starEach es X.env := by rfl) (hpl : (backTo pos (starEach es X.env)).any (·.1) = false := by rfl) : PE X (.Call (.Name x p) (e :: es) [] pos) (tCB r t) := by
 intro pins s σ H Q I h
 refine wpAny_Call_Name_kw (ld_blt I hg hm hv ?_ hn hdb)
 exact PyProof.Rows.callWith_type1 (thn (ha pos pins s σ H _ I h) fun us s1 ⟨vs, H1, I1, r1, q1⟩ => hc pins s1 σ H1 vs us Q I1 r1 q1) he hpl
end
end L2
namespace HT
open PySem PyProof.Rows
section
variable {prog : Program} {w : World} {A : Around} {E : Value -> Shared -> Prop} {s : Shared}
theorem cat_tup {t b : Addr} {vs ws : List Value} {Q : Value -> Shared -> Prop} (ht : IsTup s.heap t vs.toArray) (hb : IsTup s.heap b ws.toArray) (hv : vs ≠ [])
  (h1 : ws = [] -> Q (.ref t) s) (h2 : ws ≠ [] -> Q (.ref s.heap.objs.size) { s with heap := s.heap.push { cls := .type "tuple", data := .seq (vs ++ ws).toArray } })
  (hsz : vs.length + ws.length <= sizeLine) : wpAny (model prog w) A (binaryOp .Add (.ref t) (.ref b)) Q E s := by
 obtain ⟨⟨cls, dd, data, sl⟩, ho, hc, n, hd⟩ := id ht
 obtain ⟨⟨cls2, dd2, data2, sl2⟩, ho2, hc2, n2, hd2⟩ := id hb
 simp only at hc hd hc2 hd2
 subst hc hd hc2 hd2
 have e : vs.toArray ++ ws.toArray = (vs ++ ws).toArray := by simp
 by_cases hw : ws = []
 ·exact concat_meets ⟨_, ho, rfl⟩ ⟨_, ho2, rfl⟩ noFill_tuple_add seq_tuple_add PySem.F.slot_tuple_add PySem.F.entry_tuple_add (PySem.F.args_tuple_add_2 _ _)
   (tuple_addW1 t b vs.toArray ws.toArray n n2 dd dd2 sl sl2 (by simpa using hv) (by simp [hw])) ⟨ho, ho2, h1 hw⟩
 ·refine concat_meets ⟨_, ho, rfl⟩ ⟨_, ho2, rfl⟩ noFill_tuple_add seq_tuple_add PySem.F.slot_tuple_add PySem.F.entry_tuple_add (PySem.F.args_tuple_add_2 _ _)
   (tuple_addW2 t b vs.toArray ws.toArray n n2 dd dd2 sl sl2 (by simpa using hv) (by simpa using hw) (by rw [List.size_toArray, List.size_toArray]; exact hsz)) ⟨ho, ho2, ?_⟩
  rw [e]
  exact h2 hw
def sIx (n d : Nat) : Option Int -> Nat
 | none => d
 | some v => if v < 0 then (v + (n : Int)).toNat else min v.toNat n
theorem sIx_none (n d : Nat) : sIx n d none = d := rfl
theorem sIx_nat (n d k : Nat) : sIx n d (some (k : Int)) = min k n := by
 show (if (k : Int) < 0 then ((k : Int) + (n : Int)).toNat else min (k : Int).toNat n) = min k n
 rw [if_neg (by omega), Int.toNat_natCast]
theorem sIx_le (n d : Nat) (hd : d <= n) (o : Option Int) : sIx n d o <= n := by
 cases o with
 | none => exact hd
 | some v =>
  show (if v < 0 then (v + (n : Int)).toNat else min v.toNat n) <= n
  by_cases hv : v < 0
  ·rw [if_pos hv]; omega
  ·rw [if_neg hv]; exact Nat.min_le_right _ _
theorem clip_eq (v : Int) (n d : Nat) : (if v < 0 then max (v + (n : Int)) 0 else min v (n : Int)) = ((sIx n d (some v) : Nat) : Int) := by
 show (if v < 0 then max (v + (n : Int)) 0 else min v (n : Int)) = (((if v < 0 then (v + (n : Int)).toNat else min v.toNat n) : Nat) : Int)
 by_cases hv : v < 0
 ·simp only [if_pos hv]; omega
 ·simp only [if_neg hv]; omega
theorem adjust_gen (lo hi : Option Int) (n : Nat) : Builtin.Slice.sliceAdjust lo hi 1 (n : Int) = (((sIx n 0 lo : Nat) : Int), ((sIx n n hi : Nat) : Int)) := by
 have h1 : ¬ ((1 : Int) < 0) := by omega
 unfold Builtin.Slice.sliceAdjust
 simp only [h1, if_false]
 refine Prod.ext ?_ ?_
 ·cases lo with
  | none => rfl
  | some v => exact clip_eq v n 0
 ·cases hi with
  | none => rfl
  | some v => exact clip_eq v n n
theorem places_gen (i j : Nat) : Builtin.Slice.slicePlaces (i : Int) (j : Int) 1 = j - i := by
 unfold Builtin.Slice.slicePlaces
 have h1 : (1 : Int) > 0 := by omega
 simp only [h1, if_true, Int.ediv_one]
 split <;> omega
theorem slicePart_ {v : Value} {o : Option Int} {Q : Option Int -> Shared -> Prop} (p : IsPart v o) (h : Q o s) : wpAny (model prog w) A (Builtin.Slice.slicePartIndex v) Q E s := by
 cases p with
 | none => exact slicePart_none h
 | int i t => exact slicePart_int h
theorem sliceApplied_gen {sl : Addr} {vl vu : Value} {lo hi : Option Int} {n : Nat} {Q : Int × Int × Nat -> Shared -> Prop} (hs : s.heap.IsSliceOf sl vl vu .none) (pl : IsPart vl lo) (pu : IsPart vu hi)
  (h : Q (((sIx n 0 lo : Nat) : Int), 1, sIx n n hi - sIx n 0 lo) s) : wpAny (model prog w) A (Builtin.Slice.sliceApplied (.ref sl) (pure (n : Int))) Q E s := by
 obtain ⟨os, hos, hcs, hds⟩ := id hs
 unfold Builtin.Slice.sliceApplied Builtin.Slice.sliceFields
 refine wpAny_bind (wpAny_bind (wpAny_field hos hds (x := vl) rfl (wpAny_bind (wpAny_field hos hds (x := vu) rfl (wpAny_bind (wpAny_field hos hds (x := .none) rfl (wpAny_pure ?_)))))))
 refine wpAny_bind (slicePart_none ?_)
 show wpAny _ _ (if ((1 : Int) == 0) = true then _ else _) _ _ s
 rw [if_neg (by decide)]
 refine wpAny_bind (slicePart_ pl (wpAny_bind (slicePart_ pu (wpAny_bind (wpAny_pure ?_)))))
 show wpAny _ _ (match Builtin.Slice.sliceAdjust lo hi 1 (n : Int) with | (lo, hi) => pure (lo, (1 : Int), Builtin.Slice.slicePlaces lo hi 1)) _ _ s
 rw [adjust_gen lo hi n]
 show wpAny _ _ (pure (((sIx n 0 lo : Nat) : Int), (1 : Int), Builtin.Slice.slicePlaces ((sIx n 0 lo : Nat) : Int) ((sIx n n hi : Nat) : Int) 1)) _ _ s
 rw [places_gen]
 exact wpAny_pure h
theorem pick_gen (xs : Array Value) (i k : Nat) : ((List.range k).filterMap fun (m : Nat) => xs[((i : Int) + (m : Int) * 1).toNat]?).toArray = ((xs.toList.drop i).take k).toArray := by
 have e : (fun (m : Nat) => xs[((i : Int) + (m : Int) * 1).toNat]?) = fun m => xs[i + m]? := by
  funext m
  have : ((i : Int) + (m : Int) * 1).toNat = i + m := by omega
  rw [this]
 rw [e]
 have := pick_run xs i k
 rw [List.filterMap_map] at this
 have e2 : ((fun x => xs[x]?) ∘ fun x => i + x) = fun m => xs[i + m]? := rfl
 rw [e2] at this
 rw [this]
theorem getItem_tuple_cut {t sl : Addr} {items : Array Value} {vl vu : Value} {lo hi : Option Int} {Q : Value -> Shared -> Prop} (ht : IsTup s.heap t items) (hs : s.heap.IsSliceOf sl vl vu .none) (pl : IsPart vl lo) (pu : IsPart vu hi)
  (hw : ¬ (sIx items.size 0 lo = 0 /\ sIx items.size items.size hi = items.size))
  (h : Q (.ref s.heap.objs.size) { s with heap := s.heap.push { cls := .type "tuple", data := .seq ((items.toList.drop (sIx items.size 0 lo)).take (sIx items.size items.size hi - sIx items.size 0 lo)).toArray } })
  (hsz : items.size <= sizeLine) : wpAny (model prog w) A (getItem (.ref t) (.ref sl)) Q E s := by
 have htake : sizeOk (.seq ((items.toList.drop (sIx items.size 0 lo)).take (sIx items.size items.size hi - sIx items.size 0 lo)).toArray) := by
  show ((items.toList.drop (sIx items.size 0 lo)).take (sIx items.size items.size hi - sIx items.size 0 lo)).toArray.size <= sizeLine
  rw [List.size_toArray, List.length_take, List.length_drop, Array.length_toList]
  omega
 have hj : sIx items.size items.size hi <= items.size := sIx_le _ _ (Nat.le_refl _) hi
 obtain ⟨os, hos, hcs, hds⟩ := id hs
 have hTs : s.TypeIs (.ref sl) "slice" := ⟨os, hos, hcs⟩
 unfold getItem
 try with_reducible refine wpAny_holding ?_
 first | refine wpAny_bind (wpAny_pure ?_) | skip
 refine wpAny_bind (wpAny_sequenceKey ht.typeIs (by decide) ?_)
 refine wpAny_bind (wpAny_callSpecial?_slot (name := Str.ofString "__getitem__") ht.typeIs PyProof.Rows.slot_tuple_getitem
  (wpAny_call_entry PyProof.Rows.slot_tuple_getitem ht.typeIs entry_tuple_getitem ?_ (args_tuple_getitem _ _)))
 show wpAny _ _ (Builtin.Tuple.tupleItemsOf (.ref t) >>= _) _ _ s
 refine wpAny_bind (tupleItemsOf_ ht ?_)
 refine wpAny_bind (wpAny_typeOf hTs ?_)
 rw [if_pos (by decide)]
 refine wpAny_bind (sliceApplied_gen hs pl pu ?_)
 have hno : ¬ ((((sIx items.size 0 lo : Nat) : Int) == 0 && (1 : Int) == 1 && (sIx items.size items.size hi - sIx items.size 0 lo) == items.size) = true) := by
  intro q
  rw [Bool.and_eq_true, Bool.and_eq_true] at q
  have q1 : ((sIx items.size 0 lo : Nat) : Int) = 0 := eq_of_beq q.1.1
  have q2 : sIx items.size items.size hi - sIx items.size 0 lo = items.size := eq_of_beq q.2
  exact hw ⟨by omega, by omega⟩
 show wpAny _ _ (if (((sIx items.size 0 lo : Nat) : Int) == 0 && (1 : Int) == 1 && (sIx items.size items.size hi - sIx items.size 0 lo) == items.size) = true then _ else _) _ _ s
 rw [if_neg hno, pick_gen]
 first
  | exact wpAny_bind (m := Builtin.Tuple.tupleExact _) (wpAny_newObj_type (wpAny_pure ⟨_, rfl, wpAny_pure h⟩) htake)
  | exact wpAny_bind (m := Builtin.Tuple.tupleExact _) (wpAny_newObj_type (wpAny_bind (wpAny_pure (wpAny_pure ⟨_, rfl, wpAny_pure h⟩))) htake)
  | exact wpAny_bind (wpAny_bind (m := Builtin.Tuple.tupleExact _) (wpAny_newObj_type (wpAny_pure (wpAny_pure ⟨_, rfl, wpAny_pure h⟩)) htake))
  | exact wpAny_bind (wpAny_bind (m := Builtin.Tuple.tupleExact _) (wpAny_newObj_type (wpAny_pure ⟨_, rfl, wpAny_pure h⟩) htake))
end
end HT
namespace L2
open PySem PySem.Spec PyProof.Rows
abbrev TO := St -> Hp -> (Option Int -> Hp -> Prop) -> Prop
def PO (X : Cx) (e : Option Expr) (t : TO) : Prop :=
 ∀ (pins : List (Addr × Obj)) (s : Shared) (σ : St) (H : Hp) (Q : Option Int -> Hp -> Prop), Inv X pins σ H s -> t σ H Q ->
  wpAny (model X.prog X.w) X.A (evalPart e X.env) (fun u s' => ∃ o H', Inv X pins σ H' s' /\ IsPart u o /\ Q o H') X.xe s
def tNoPart : TO := fun _ H Q => Q none H
def tPart (t : TE) : TO := fun σ H Q => t σ H fun x H1 => ∃ i, x = .int i /\ Q (some i) H1
theorem intsAre_of {ns : List Int} : ∀ {us : List Value}, Vals (ns.map V.int) us -> IntsAre us ns := by
 induction ns with
 | nil => intro us r; rw [List.map_nil] at r; cases r; exact .nil
 | cons n ns ih =>
  intro us r
  rw [List.map_cons] at r
  cases r with
  | cons r1 r2 =>
   obtain ⟨t, e⟩ := r1
   subst e
   exact .cons n t (ih r2)
section
variable {X : Cx} {e : Expr} {te : TE} {lo hi : Option Expr} {tl th : TO} {pos p2 : Pos}
theorem po_none : PO X none tNoPart := by
 intro pins s σ H Q I h
 rw [evalPart_none]
 exact wpAny_pure ⟨none, H, I, .none, h⟩
theorem po_some (h : PE X e te) : PO X (some e) (tPart te) := by
 intro pins s σ H Q I hw
 rw [evalPart_some]
 refine thn (h pins s σ H _ I hw) fun u s1 ⟨x, H1, I1, r1, q1⟩ => ?_
 obtain ⟨i, rfl, q⟩ := q1
 obtain ⟨t, rfl⟩ := r1
 exact ⟨some i, H1, I1, .int i t, q⟩
def SlR (X : Cx) (r : V -> Option Int -> Option Int -> Hp -> VK -> Prop) : Prop :=
 ∀ (pins : List (Addr × Obj)) (s : Shared) (σ : St) (H : Hp) (x : V) (v vl vu : Value) (lo hi : Option Int) (sl : Addr) (Q : VK), Inv X pins σ H s -> RelV x v -> s.heap.IsSliceOf sl vl vu .none -> IsPart vl lo -> IsPart vu hi -> r x lo hi H Q ->
  ∃ T id, typeLookup (.type T) "__getitem__" = pure (some (.builtin id)) /\ s.TypeIs v T /\ wpAny (model X.prog X.w) X.A (getItem v (.ref sl)) (EP X pins σ Q) X.xe s
theorem SlR.or {r r' : V -> Option Int -> Option Int -> Hp -> VK -> Prop} (h : SlR X r) (h' : SlR X r') : SlR X (fun x lo hi H Q => r x lo hi H Q \/ r' x lo hi H Q) := by
 intro pins s σ H x v vl vu lo hi sl Q I rx hs pl pu q
 rcases q with q | q
 ·exact h pins s σ H x v vl vu lo hi sl Q I rx hs pl pu q
 ·exact h' pins s σ H x v vl vu lo hi sl Q I rx hs pl pu q
def tSl (r : V -> Option Int -> Option Int -> Hp -> VK -> Prop) (te : TE) (tl th : TO) : TE := fun σ H Q => te σ H fun x H1 => tl σ H1 fun l H2 => th σ H2 fun u H3 => r x l u H3 Q
theorem pe_slice {r : V -> Option Int -> Option Int -> Hp -> VK -> Prop} (hr : SlR X r) (he : PE X e te) (hl : PO X lo tl) (hu : PO X hi th) : PE X (.Subscript e (.Slice lo hi none p2) pos) (tSl r te tl th) := by
 intro pins s σ H Q I h
 refine Subscript_ (thn (he pins s σ H _ I h) fun v s1 ⟨x, H1, I1, r1, q1⟩ => ?_)
 refine wpAny_Slice (thn (hl pins s1 σ H1 _ I1 q1) fun vl s2 ⟨l, H2, I2, pl, q2⟩ => thn (hu pins s2 σ H2 _ I2 q2) fun vu s3 ⟨u, H3, I3, pu, q3⟩ => ?_)
 rw [evalPart_none]
 refine wpAny_pure ?_
 have I4 : Inv X pins σ H3 { s3 with heap := s3.heap.push { cls := .type "slice", data := .fields #[vl, vu, .none] } } := I3.kept (t' := s3.toks) fun b ob q => Heap.get?_push_of_some _ q
 obtain ⟨T, id, hT, ht, hg⟩ := hr pins { s3 with heap := s3.heap.push { cls := .type "slice", data := .fields #[vl, vu, .none] } } σ H3 x v vl vu l u s3.heap.objs.size Q I4 r1 (Heap.IsSliceOf.new ..) pl pu q3
 show wpAny (model X.prog X.w) X.A (subscriptTail e (.Slice lo hi none p2) v (.ref s3.heap.objs.size)) (EP X pins σ Q) X.xe { s3 with heap := s3.heap.push { cls := .type "slice", data := .fields #[vl, vu, .none] } }
 exact tail_any (ops := [.ref s3.heap.objs.size, v]) ht hT hg (by with_unfolding_all rfl)
def cutV (xs : List V) (lo hi : Option Int) : List V := (xs.drop (HT.sIx xs.length 0 lo)).take (HT.sIx xs.length xs.length hi - HT.sIx xs.length 0 lo)
theorem cutV_length (xs : List V) (lo hi : Option Int) : (cutV xs lo hi).length <= xs.length := by
 unfold cutV
 rw [List.length_take, List.length_drop]
 omega
def rSlT (K : PySem.W.Frag) : V -> Option Int -> Option Int -> Hp -> VK -> Prop := fun x lo hi H Q => ∃ a xs, x = .ref a /\ SqT K H a xs /\
 ¬ (HT.sIx xs.length 0 lo = 0 /\ HT.sIx xs.length xs.length hi = xs.length) /\ ∀ p, H p = none -> Q (.ref p) (upd H p (.tup (cutV xs lo hi)))
theorem sl_tup : SlR X (rSlT X.K) := by
 intro pins s σ H x v vl vu lo hi sl Q I rx hs pl pu h
 obtain ⟨a, xs, rfl, hx, hw, q⟩ := h
 cases rx
 obtain ⟨its, r, ht, hz⟩ := I.tuple hx
 have hlen : its.toArray.size = xs.length := by rw [List.size_toArray]; exact r.length.symm
 refine ⟨"tuple", _, PyProof.Rows.slot_tuple_getitem.lookup, ht.typeIs, ?_⟩
 refine HT.getItem_tuple_cut ht hs pl pu (by rw [hlen]; exact hw) ?_ (by rw [hlen]; exact hz)
 rw [hlen]
 refine ⟨.ref s.heap.objs.size, _, I.laid (t' := s.toks) (o := .tup (cutV xs lo hi)) (fun b ob q => Heap.get?_push_of_some _ q) (Nat.le_refl _) ?_, rfl, q _ (I.hok.fresh (Nat.le_refl _))⟩
 exact ⟨Nat.le_trans (cutV_length xs lo hi) hz, _, (r.drop (HT.sIx xs.length 0 lo)).take (HT.sIx xs.length xs.length hi - HT.sIx xs.length 0 lo), IsTup.new _ _⟩
def rCatT (K : PySem.W.Frag) : R2 := fun x y H Q => ∃ a b xs ys, x = .ref a /\ y = .ref b /\ SqT K H a xs /\ SqT K H b ys /\ xs ≠ [] /\ xs.length + ys.length <= sizeLine /\
 (ys = [] -> Q (.ref a) H) /\ (ys ≠ [] -> ∀ p, H p = none -> Q (.ref p) (upd H p (.tup (xs ++ ys))))
theorem Vals.nil_iff {xs : List V} {us : List Value} (r : Vals xs us) : us = [] ↔ xs = [] := by
 cases r with
 | nil => simp
 | cons _ _ => simp
theorem op_catT : OpR X (binaryOp .Add) (rCatT X.K) := by
 intro pins s σ H x y v u Q I rx ry h
 obtain ⟨a, b, xs, ys, rfl, rfl, ha, hb, hx, hz, q1, q2⟩ := h
 cases rx
 cases ry
 obtain ⟨its, r1, p1, _⟩ := I.tuple ha
 obtain ⟨its2, r2, p2, _⟩ := I.tuple hb
 refine HT.cat_tup p1 p2 (fun z => hx (r1.nil_iff.mp z)) (fun z => ⟨.ref a, H, I, rfl, q1 (r2.nil_iff.mp z)⟩) (fun z => ?_) (by rw [<- r1.length, <- r2.length]; exact hz)
 refine ⟨.ref s.heap.objs.size, _, I.laid (t' := s.toks) (o := .tup (xs ++ ys)) (fun b ob q => Heap.get?_push_of_some _ q) (Nat.le_refl _) ?_, rfl, q2 (fun w => z (r2.nil_iff.mpr w)) _ (I.hok.fresh (Nat.le_refl _))⟩
 exact ⟨by rw [List.length_append]; exact hz, _, r1.append r2, IsTup.new _ _⟩
end
end L2
namespace L2
open PySem PySem.Spec PyProof.Rows
def ixN (n : Nat) (i : Int) : Option Nat := if 0 <= i then (if i < n then some i.toNat else none) else if -(n : Int) <= i then some (i + n).toNat else none
def atI {α : Type} (xs : List α) (i : Int) : Option α := (ixN xs.length i).bind fun j => xs[j]?
theorem ixN_seq {n : Nat} {i : Int} {j : Nat} (h : ixN n i = some j) : seqIndex? i n = some j /\ j < n /\ -(n : Int) <= i /\ i < n := by
 unfold ixN at h
 by_cases h0 : 0 <= i
 ·rw [if_pos h0] at h
  by_cases h1 : i < n
  ·rw [if_pos h1] at h
   have e : i.toNat = j := Option.some.inj h
   exact ⟨by rw [seqIndex_of h0 h1, e], by omega, by omega, h1⟩
  ·rw [if_neg h1] at h; cases h
 ·rw [if_neg h0] at h
  by_cases h1 : -(n : Int) <= i
  ·rw [if_pos h1] at h
   have e : (i + n).toNat = j := Option.some.inj h
   exact ⟨by rw [seqIndex_neg (by omega) h1, e], by omega, h1, by omega⟩
  ·rw [if_neg h1] at h; cases h
theorem atI_get {α : Type} {xs : List α} {i : Int} {v : α} (h : atI xs i = some v) : ∃ j, seqIndex? i xs.length = some j /\ xs[j]? = some v /\ j < xs.length /\ -(xs.length : Int) <= i /\ i < xs.length := by
 unfold atI at h
 cases e : ixN xs.length i with
 | none => rw [e] at h; cases h
 | some j =>
  rw [e] at h
  obtain ⟨h1, h2, h3, h4⟩ := ixN_seq e
  exact ⟨j, h1, h, h2, h3, h4⟩
theorem atI_nat {α : Type} {xs : List α} {j : Nat} {v : α} (h : xs[j]? = some v) : atI xs (j : Int) = some v := by
 have hj : j < xs.length := (List.getElem?_eq_some_iff.mp h).1
 have e : ixN xs.length (j : Int) = some j := by
  unfold ixN
  rw [if_pos (by omega), if_pos (by omega)]; simp
 unfold atI; rw [e]; exact h
def PlainIx (b : Expr) : Prop := ∀ o i, subscripted b false o i = operate [o, i] (getItem o i)
def IxR (X : Cx) (r : R2) : Prop :=
 ∀ (value slice : Expr) (pins : List (Addr × Obj)) (s : Shared) (σ : St) (H : Hp) (x y : V) (v u : Value) (Q : VK), Inv X pins σ H s -> RelV x v -> RelV y u -> r x y H Q ->
  subscripted slice false v u = operate [v, u] (getItem v u) -> wpAny (model X.prog X.w) X.A (subscriptTail value slice v u) (EP X pins σ Q) X.xe s
def MtR (X : Cx) (id : String) (r : V -> List V -> Hp -> VK -> Prop) : Prop :=
 ∀ (pins : List (Addr × Obj)) (s : Shared) (σ : St) (H : Hp) (x : V) (xs : List V) (v : Value) (us : List Value) (Q : VK), Inv X pins σ H s -> RelV x v -> Vals xs us -> r x xs H Q ->
  wpAny (model X.prog X.w) X.A (call (.builtin id) (v :: us)) (EP X pins σ Q) X.xe s
section
variable {X : Cx} {a b : Expr} {ta tb : TE} {pos : Pos}
theorem IxR.or {r r' : R2} (h : IxR X r) (h' : IxR X r') : IxR X (fun x y H Q => r x y H Q \/ r' x y H Q) := by
 intro value slice pins s σ H x y v u Q I rx ry q hs
 rcases q with q | q
 ·exact h value slice pins s σ H x y v u Q I rx ry q hs
 ·exact h' value slice pins s σ H x y v u Q I rx ry q hs
theorem pe_ix {r : R2} (hr : IxR X r) (ha : PE X a ta) (hb : PE X b tb) (hs : PlainIx b) : PE X (.Subscript a b pos) (tOp r ta tb) := by
 intro pins s σ H Q I h
 exact Subscript_ (binT ha hb I h fun v u s2 x y H2 I2 rx ry q => hr a b pins s2 σ H2 x y v u Q I2 rx ry q (hs _ _))
def rIxL (K : PySem.W.Frag) : R2 := fun x y H Q => ∃ p xs i v, x = .ref p /\ y = .int i /\ SqL K H p xs /\ atI xs i = some v /\ Q v H
def rIxT (K : PySem.W.Frag) : R2 := fun x y H Q => ∃ p xs i v, x = .ref p /\ y = .int i /\ SqT K H p xs /\ atI xs i = some v /\ Q v H
def rIxS : R2 := fun x y H Q => ∃ z i c, x = .str z /\ y = .int i /\ z.length <= sizeLine /\ atI z.cps.toList i = some c /\ Q (.str ⟨#[c]⟩) H
theorem ix_list : IxR X (rIxL X.K) := by
 intro value slice pins s σ H x y v u Q I rx ry h hs
 obtain ⟨p, xs, i, z, rfl, rfl, hq, he, q⟩ := h
 cases rx
 obtain ⟨t, rfl⟩ := ry
 obtain ⟨its, r, pl, hz⟩ := I.list hq
 obtain ⟨j, h1, h2, h3, h4, h5⟩ := atI_get he
 obtain ⟨w, ew, rw'⟩ := r.get h2
 have hl := r.length
 have hn := line63
 have fin : EP X pins σ Q w s := ⟨z, H, I, rw', q⟩
 by_cases h0 : 0 <= i
 ·have hj : i.toNat = j := by
   rw [seqIndex_of h0 h5] at h1
   exact Option.some.inj h1
  exact item_listR pl.isList h0 (by omega) (by rw [hj]; simpa using ew) fin hs
 ·have hj : (i + (its.toArray.size : Int)).toNat = j := by
   rw [seqIndex_neg (by omega) h4] at h1
   rw [List.size_toArray, <- hl]
   exact Option.some.inj h1
  exact subscriptTail_builtinR (x := w) pl.isList.typeIs slot_list_getitem.lookup
   (wpAny_getItem_list_neg (Q := fun r s' => r = w /\ EP X pins σ Q r s') pl.isList (by omega) (by rw [List.size_toArray] <;> omega) (by omega) (by rw [hj]; simpa using ew) ⟨rfl, fin⟩) hs
theorem ix_tup : IxR X (rIxT X.K) := by
 intro value slice pins s σ H x y v u Q I rx ry h hs
 obtain ⟨p, xs, i, z, rfl, rfl, hq, he, q⟩ := h
 cases rx
 obtain ⟨t, rfl⟩ := ry
 obtain ⟨its, r, pl, hz⟩ := I.tuple hq
 obtain ⟨j, h1, h2, h3, h4, h5⟩ := atI_get he
 obtain ⟨w, ew, rw'⟩ := r.get h2
 have hl := r.length
 have hn := line63
 have fin : EP X pins σ Q w s := ⟨z, H, I, rw', q⟩
 exact subscriptTail_builtinR (x := w) pl.typeIs slot_tuple_getitem.lookup
  (getItem_tuple (j := j) (Q := fun r s' => r = w /\ EP X pins σ Q r s') pl (by omega) (by omega) (by rw [List.size_toArray, <- hl]; exact h1) (by simpa using ew) ⟨rfl, fin⟩) hs
theorem ix_str : IxR X rIxS := by
 intro value slice pins s σ H x y v u Q I rx ry h hs
 obtain ⟨z, i, c, rfl, rfl, hz, he, q⟩ := h
 obtain ⟨t, rfl⟩ := rx
 obtain ⟨t', rfl⟩ := ry
 obtain ⟨j, h1, h2, h3, h4, h5⟩ := atI_get he
 have hl : z.cps.toList.length = z.length := by simp [Str.length]
 rw [hl] at h1 h4 h5
 have hn := line63
 exact tail_any (typeIs_str s z t) slot_str_getitem.lookup (getItem_str (c := c) (by
  have e1 : decide (i < -(2 ^ 63 : Int)) = false := decide_eq_false (by omega)
  have e2 : decide (i >= 2 ^ 63) = false := decide_eq_false (by omega)
  rw [e1, e2, Bool.or_false]) (by rw [h1]; simpa using h2) ⟨.str ⟨#[c]⟩, H, I.tok _, ⟨_, rfl⟩, q⟩) hs
def rIx (K : PySem.W.Frag) : R2 := fun x y H Q => rIxL K x y H Q \/ rIxT K x y H Q \/ rIxS x y H Q
theorem ix_seq : IxR X (rIx X.K) := ix_list.or (ix_tup.or ix_str)
theorem mapSeq_set (its : List Value) (n j : Nat) (u : Value) : Obj.mapSeq (·.setIfInBounds j u) { cls := .type "list", data := .seq its.toArray n } = { cls := .type "list", data := .seq (its.set j u).toArray n } := by
 simp [Obj.mapSeq]
theorem Inv.lst {pins : List (Addr × Obj)} {σ : St} {H : Hp} {s : Shared} {p : Addr} {xs : List V} (I : Inv X pins σ H s) (h : H p = some (.lst xs)) :
  ∃ (its : List Value) (n : Nat), Vals xs its /\ s.heap.get? p = some { cls := .type "list", data := .seq its.toArray n } /\ xs.length <= sizeLine := by
 obtain ⟨z, its, n, r, e⟩ := I.hok p _ h
 exact ⟨its, n, r, e, z⟩
theorem Inv.lstUpd {pins : List (Addr × Obj)} {σ : St} {H : Hp} {s : Shared} {p : Addr} {xs ys : List V} {its its' : List Value} {n n' : Nat} {f : Obj -> Obj} (I : Inv X pins σ H s) (h : H p = some (.lst xs))
  (ho : s.heap.get? p = some { cls := .type "list", data := .seq its.toArray n }) (hf : f { cls := .type "list", data := .seq its.toArray n } = { cls := .type "list", data := .seq its'.toArray n' }) (r : Vals ys its') (hz : ys.length <= sizeLine) (t : Nat) :
  Inv X pins σ (upd H p (.lst ys)) { s with heap := s.heap.update p f, toks := t } := by
 have e : (s.heap.update p f).get? p = some { cls := .type "list", data := .seq its'.toArray n' } := by
  rw [Heap.get?_update_self f ho (by rw [hf] <;> rfl), hf]
 refine I.write (x := p) (e := p) (by rw [h]; trivial) (.inl rfl) (fun b u hb q => (Heap.get?_update_other _ _ (Ne.symm hb)).trans q) ⟨_, e⟩ ?_
 exact ⟨hz, its', n', r, e⟩
def rSetL : V -> V -> V -> Hp -> (Hp -> Prop) -> Prop := fun o i v H Q => ∃ p xs k j, o = .ref p /\ i = .int k /\ H p = some (.lst xs) /\ ixN xs.length k = some j /\ Q (upd H p (.lst (xs.set j v)))
theorem set_list : PSet X rSetL := by
 intro pins s σ H o i v ov iv u Q I ro ri rv h
 obtain ⟨p, xs, k, j, rfl, rfl, hp, hj, q⟩ := h
 cases ro
 obtain ⟨t, rfl⟩ := ri
 obtain ⟨its, n, r, ho, hz⟩ := I.lst hp
 obtain ⟨h1, h2, h3, h4⟩ := ixN_seq hj
 have hl := r.length
 have hn := line63
 have I' : Inv X pins σ (upd H p (.lst (xs.set j v))) { s with heap := s.heap.update p (Obj.mapSeq (·.setIfInBounds j u)) } :=
  I.lstUpd hp ho (mapSeq_set its n j u) (r.set rv j) (by rw [List.length_set]; exact hz) s.toks
 by_cases h0 : 0 <= k
 ·have hk : k.toNat = j := by
   rw [seqIndex_of h0 h4] at h1
   exact Option.some.inj h1
  exact PySem.W.ki_setAt ho h0 (by omega) (by rw [List.size_toArray, <- hl]; exact h4) (by rw [hk]; exact ⟨_, I', q⟩)
 ·have hk : (k + (its.toArray.size : Int)).toNat = j := by
   rw [seqIndex_neg (by omega) h3] at h1
   rw [List.size_toArray, <- hl]
   exact Option.some.inj h1
  exact PySem.W.ki_setBack ho (by omega) (by rw [List.size_toArray, <- hl]; exact h3) (by omega) (by rw [hk]; exact ⟨_, I', q⟩)
theorem slice_bounds (lo hi : Option Int) (n : Nat) : (sliceBounds lo hi none n).1 = ((HT.sIx n 0 lo : Nat) : Int) /\ (sliceBounds lo hi none n).2.1 = ((HT.sIx n n hi : Nat) : Int) /\ (sliceBounds lo hi none n).2.2 = 1 := by
 refine ⟨?_, ?_, rfl⟩
 ·cases lo with
  | none => simp [sliceBounds, HT.sIx]
  | some i =>
   simp only [sliceBounds, HT.sIx, Option.getD_none, show (1 : Int) > 0 by decide, if_true]
   by_cases h : i < 0
   ·simp only [h, if_true] <;> omega
   ·simp only [h, if_false] <;> omega
 ·cases hi with
  | none => simp [sliceBounds, HT.sIx]
  | some i =>
   simp only [sliceBounds, HT.sIx, Option.getD_none, show (1 : Int) > 0 by decide, if_true]
   by_cases h : i < 0
   ·simp only [h, if_true] <;> omega
   ·simp only [h, if_false] <;> omega
theorem slicePick_cut (its : List Value) (lo hi : Option Int) : slicePick its.toArray lo hi none = ((its.drop (HT.sIx its.length 0 lo)).take (HT.sIx its.length its.length hi - HT.sIx its.length 0 lo)).toArray := by
 obtain ⟨h1, h2, h3⟩ := slice_bounds lo hi its.toArray.size
 unfold slicePick
 rw [h1, h2, h3]
 simp only [sliceRange_one, pick_run, List.size_toArray] <;> rfl
def rSlL (K : PySem.W.Frag) : V -> Option Int -> Option Int -> Hp -> VK -> Prop := fun x lo hi H Q => ∃ a xs, x = .ref a /\ SqL K H a xs /\ ∀ p, H p = none -> Q (.ref p) (upd H p (.lst (cutV xs lo hi)))
theorem sl_list : SlR X (rSlL X.K) := by
 intro pins s σ H x v vl vu lo hi sl Q I rx hs pl pu h
 obtain ⟨a, xs, rfl, hx, q⟩ := h
 cases rx
 obtain ⟨its, r, ht, hz⟩ := I.list hx
 have hlen := r.length
 refine ⟨"list", _, slot_list_getitem.lookup, ht.isList.typeIs, ?_⟩
 refine wpAny_getItem_list_slice ht.isList hs pl pu .none (by simp) ?_ (by rw [List.size_toArray] <;> omega)
 rw [slicePick_cut, <- hlen]
 refine ⟨.ref s.heap.objs.size, _, I.laid (t' := s.toks) (o := .lst (cutV xs lo hi)) (fun b ob q => Heap.get?_push_of_some _ q) (Nat.le_refl _) ?_, rfl, q _ (I.hok.fresh (Nat.le_refl _))⟩
 exact ⟨Nat.le_trans (cutV_length xs lo hi) hz, _, 0, (r.drop (HT.sIx xs.length 0 lo)).take (HT.sIx xs.length xs.length hi - HT.sIx xs.length 0 lo), Heap.get?_push_size _ rfl⟩
def flatV : V -> Bool
 | .non => true
 | .bl _ => true
 | .int _ => true
 | .str _ => true
 | _ => false
def eqV : V -> V -> Bool
 | .non, .non => true
 | .bl a, .bl b => a == b
 | .bl a, .int b => (if a then 1 else 0) == b
 | .int a, .bl b => a == (if b then 1 else 0)
 | .int a, .int b => a == b
 | .str a, .str b => a == b
 | _, _ => false
theorem eqAt_V {A : Around} {s : Shared} {y x : V} {u v : Value} (ry : RelV y u) (rx : RelV x v) (fy : flatV y = true) (fx : flatV x = true) : SeqAt.EqAt A s u v (eqV y x) := by
 cases y with
 | non =>
  cases ry
  cases x with
  | non => cases rx; exact SeqAt.EqAt.same _
  | bl b => cases rx; exact SeqAt.EqAt.none_bool b
  | int b => obtain ⟨t, rfl⟩ := rx; exact SeqAt.EqAt.none_int b t
  | str b => obtain ⟨t, rfl⟩ := rx; exact SeqAt.EqAt.none_str b t
  | _ => exact absurd (show false = true from fx) Bool.false_ne_true
 | bl a =>
  cases ry
  cases x with
  | non => cases rx; exact SeqAt.EqAt.bool_none a
  | bl b => cases rx; exact SeqAt.EqAt.bool_bool a b
  | int b => obtain ⟨t, rfl⟩ := rx; exact SeqAt.EqAt.bool_int a b t
  | str b => obtain ⟨t, rfl⟩ := rx; exact SeqAt.EqAt.bool_str a b t
  | _ => exact absurd (show false = true from fx) Bool.false_ne_true
 | int a =>
  obtain ⟨t', rfl⟩ := ry
  cases x with
  | non => cases rx; exact SeqAt.EqAt.int_none a t'
  | bl b => cases rx; exact SeqAt.EqAt.int_bool a t' b
  | int b => obtain ⟨t, rfl⟩ := rx; exact SeqAt.EqAt.int_int a t' b t
  | str b => obtain ⟨t, rfl⟩ := rx; exact SeqAt.EqAt.int_str a t' b t
  | _ => exact absurd (show false = true from fx) Bool.false_ne_true
 | str a =>
  obtain ⟨t', rfl⟩ := ry
  cases x with
  | non => cases rx; exact SeqAt.EqAt.str_none a t'
  | bl b => cases rx; exact SeqAt.EqAt.str_bool a t' b
  | int b => obtain ⟨t, rfl⟩ := rx; exact SeqAt.EqAt.str_int a t' b t
  | str b => obtain ⟨t, rfl⟩ := rx; exact SeqAt.EqAt.str_str a t' b t
  | _ => exact absurd (show false = true from fx) Bool.false_ne_true
 | _ => exact absurd (show false = true from fy) Bool.false_ne_true
theorem call_len_seq : CallR X (.builtin "len") (fun xs H Q => ∃ p ys, xs = [.ref p] /\ (SqL X.K H p ys \/ SqT X.K H p ys) /\ Q (.int ys.length) H) := by
 intro pins s σ H xs us Q I r h
 obtain ⟨p, ys, rfl, hq, q⟩ := h
 obtain ⟨u, rfl, rx⟩ := vals1 r
 cases rx
 have hn := line63
 rcases hq with hq | hq
 ·obtain ⟨its, r', pl, hz⟩ := I.list hq
  have hlen := r'.length
  exact Calls.call_len_list pl.isList (by simp only [List.size_toArray] <;> omega) ⟨.int ys.length, H, I.tok _, ⟨s.toks + 1, by rw [List.size_toArray, hlen]⟩, q⟩
 ·obtain ⟨its, r', pl, hz⟩ := I.tuple hq
  have hlen := r'.length
  exact len_tuple pl (by simp only [List.size_toArray] <;> omega) ⟨.int ys.length, H, I.tok _, ⟨s.toks + 1, by rw [List.size_toArray, hlen]⟩, q⟩
theorem call_len_str : CallR X (.builtin "len") (fun xs H Q => ∃ z, xs = [.str z] /\ z.length <= sizeLine /\ Q (.int z.length) H) := by
 intro pins s σ H xs us Q I r h
 obtain ⟨z, rfl, hz, q⟩ := h
 obtain ⟨u, rfl, t, rfl⟩ := vals1 r
 have hn := line63
 exact len_str (by omega) ⟨.int z.length, H, I.tok _, ⟨_, rfl⟩, q⟩
theorem CallR.or {f : Value} {r r' : List V -> Hp -> VK -> Prop} (h : CallR X f r) (h' : CallR X f r') : CallR X f (fun xs H Q => r xs H Q \/ r' xs H Q) := by
 intro pins s σ H xs us Q I rs q
 rcases q with q | q
 ·exact h pins s σ H xs us Q I rs q
 ·exact h' pins s σ H xs us Q I rs q
theorem call_list_of : CallR X (.type "list") (fun xs H Q => ∃ p ys, xs = [.ref p] /\ (SqL X.K H p ys \/ SqT X.K H p ys) /\ ∀ l, H l = none -> Q (.ref l) (upd H l (.lst ys))) := by
 intro pins s σ H xs us Q I r h
 obtain ⟨p, ys, rfl, hq, q⟩ := h
 obtain ⟨u, rfl, rx⟩ := vals1 r
 cases rx
 have fin : ∀ (its : List Value), Vals ys its -> ys.length <= sizeLine -> ∀ (h' : Heap) (c' : Nat), (∀ b o', s.heap.get? b = some o' -> h'.get? b = some o') ->
   h'.get? s.heap.objs.size = some { cls := .type "list", dict := none, data := .seq its.toArray c', slots := #[] } -> EP X pins σ Q (.ref s.heap.objs.size) { s with heap := h' } := fun its r' hz h' c' kp e =>
  ⟨.ref s.heap.objs.size, _, I.laid (t' := s.toks) kp (Nat.le_refl _) (show ObjOk X.prog X.w _ h' _ (.lst ys) from ⟨hz, its, c', r', e⟩), rfl, q _ (I.hok.fresh (Nat.le_refl _))⟩
 rcases hq with hq | hq
 ·obtain ⟨its, r', pl, hz⟩ := I.list hq
  have hlen := r'.length
  obtain ⟨o, ho, hc, n, hd⟩ := pl.isList
  exact call_list_seq p (.inl rfl) ho hc hd (fun h' c' kp e => fin its r' hz h' c' kp e) (by simp only [List.size_toArray] <;> omega)
 ·obtain ⟨its, r', pl, hz⟩ := I.tuple hq
  have hlen := r'.length
  obtain ⟨o, ho, hc, n, hd⟩ := pl
  exact call_list_seq p (.inr rfl) ho hc hd (fun h' c' kp e => fin its r' hz h' c' kp e) (by simp only [List.size_toArray] <;> omega)
theorem call_tuple_of : CallR X (.type "tuple") (fun xs H Q => ∃ p ys, xs = [.ref p] /\ ((SqL X.K H p ys /\ ∀ l, H l = none -> Q (.ref l) (upd H l (.tup ys))) \/ (SqT X.K H p ys /\ Q (.ref p) H))) := by
 intro pins s σ H xs us Q I r h
 obtain ⟨p, ys, rfl, h⟩ := h
 obtain ⟨u, rfl, rx⟩ := vals1 r
 cases rx
 rcases h with ⟨hq, q⟩ | ⟨hq, q⟩
 ·obtain ⟨its, r', pl, hz⟩ := I.list hq
  have hlen := r'.length
  refine call_tuple_list pl.isList (fun h' kp => ?_) (by simp only [List.size_toArray] <;> omega)
  have I1 : Inv X pins σ H { s with heap := h' } := I.kept (t' := s.toks) kp
  have I2 : Inv X pins σ (upd H h'.objs.size (.tup ys)) { s with heap := h'.push { cls := .type "tuple", data := .seq its.toArray } } :=
   I1.laid (t' := s.toks) (fun b o e => Heap.get?_push_of_some _ e) (Nat.le_refl _) (show ObjOk X.prog X.w _ _ _ (.tup ys) from ⟨hz, its, r', IsTup.new _ _⟩)
  exact ⟨.ref h'.objs.size, _, I2, rfl, q _ (I1.hok.fresh (Nat.le_refl _))⟩
 ·obtain ⟨its, r', pl, hz⟩ := I.tuple hq
  exact call_tuple_same pl ⟨.ref p, H, I, rfl, q⟩
def tyV (K : PySem.W.Frag) (T : String) (x : V) (H : Hp) : Prop := match x with
 | .str _ => T = "str"
 | .int _ => T = "int"
 | .ref p => (T = "list" /\ ∃ xs, SqL K H p xs) \/ (T = "tuple" /\ ∃ o, K.lookup p = some o /\ o.cls = .type "tuple" /\ o.dict = none) \/
   (T = "dict" /\ ((∃ kvs, H p = some (.dK kvs)) \/ ∃ kvs, H p = some (.dT kvs))) \/ (T = "set" /\ ∃ S n, H p = some (.set S n))
 | _ => False
theorem tyV_is {pins : List (Addr × Obj)} {σ : St} {H : Hp} {s : Shared} {T : String} {x : V} {v : Value} (I : Inv X pins σ H s) (r : RelV x v) (ty : tyV X.K T x H) :
  s.TypeIs v T /\ ∀ a, v = .ref a -> ∃ ob, s.heap.get? a = some ob /\ ob.dict = none := by
 cases x with
 | str z =>
  obtain ⟨t, rfl⟩ := r
  cases (show T = "str" from ty)
  exact ⟨typeIs_str s z t, fun _ e => nomatch e⟩
 | int i =>
  obtain ⟨t, rfl⟩ := r
  cases (show T = "int" from ty)
  exact ⟨typeIs_int s i t, fun _ e => nomatch e⟩
 | ref p =>
  cases r
  rcases ty with ⟨rfl, xs, hq⟩ | ⟨rfl, o, hk, hc, hd⟩ | ⟨rfl, hk⟩ | ⟨rfl, S, n, hk⟩
  ·obtain ⟨its, _, pl, _⟩ := I.list hq
   refine ⟨pl.isList.typeIs, fun a e => ?_⟩
   cases e
   obtain ⟨o, n, e, c, hd, _⟩ := pl
   exact ⟨o, e, hd⟩
  ·refine ⟨⟨o, I.kIn p o hk, hc⟩, fun a e => ?_⟩
   cases e
   exact ⟨o, I.kIn _ o hk, hd⟩
  ·have z : ∃ o, s.heap.get? p = some o /\ o.ExactDict := by
    rcases hk with ⟨kvs, hk⟩ | ⟨kvs, hk⟩
    ·obtain ⟨_, _, _, _, o, _, _, e, ex, _⟩ := I.hok p _ hk
     exact ⟨o, e, ex⟩
    ·obtain ⟨_, _, _, _, o, _, _, e, ex, _⟩ := I.hok p _ hk
     exact ⟨o, e, ex⟩
   obtain ⟨o, e, ex⟩ := z
   refine ⟨⟨o, e, ex.1⟩, fun a e2 => ?_⟩
   cases e2
   exact ⟨o, e, ex.2.1⟩
  ·obtain ⟨o, _, _, _, e, ex, _⟩ := I.hok p _ hk
   refine ⟨⟨o, e, ex.1⟩, fun a e2 => ?_⟩
   cases e2
   exact ⟨o, e, ex.2.1⟩
 | _ => exact False.elim ty
def tBM0 (K : PySem.W.Frag) (T : String) (r : V -> List V -> Hp -> VK -> Prop) (to : TE) : TE := fun σ H Q => to σ H fun x H1 => tyV K T x H1 /\ r x [] H1 Q
def tBM (K : PySem.W.Frag) (T : String) (r : V -> List V -> Hp -> VK -> Prop) (to : TE) (t : TA) : TE := fun σ H Q => to σ H fun x H1 => tyV K T x H1 /\ t σ H1 fun xs H2 => r x xs H2 Q
variable {o e : Expr} {es : List Expr} {to : TE} {t : TA} {name : Str} {apos cpos : Pos} {T id : String} {r : V -> List V -> Hp -> VK -> Prop}
theorem pe_bm0 (pa : PlainAttrs T) (slot : Slot T name id) (hty : typeOf (.builtin id) = pure (.type "method_descriptor")) (hm : MtR X id r) (ho : PE X o to)
  (hbase : attributeBase o name X.env (eval o X.env) = eval o X.env := by rfl) (hline : (apos.endLine == cpos.line) = true := by rfl) : PE X (.Call (.Attribute o name apos) [] [] cpos) (tBM0 X.K T r to) := by
 intro pins s σ H Q I h
 refine wpAny_Call_method0_late hbase hline (thn (ho pins s σ H _ I h) fun v s1 ⟨x, H1, I1, r1, ty, q1⟩ => ?_)
 obtain ⟨h1, h2⟩ := tyV_is I1 r1 ty
 exact ⟨T, id, pa, slot, hty, h1, h2, Calls.callWith_builtin rfl (PySem.evalArgs_none (hm pins s1 σ H1 x [] v [] Q I1 r1 .nil q1))⟩
theorem pe_bm (pa : PlainAttrs T) (slot : Slot T name id) (hty : typeOf (.builtin id) = pure (.type "method_descriptor")) (hm : MtR X id r) (ho : PE X o to) (ha : PA X (e :: es) t)
  (hbase : attributeBase o name X.env (eval o X.env) = eval o X.env := by rfl)
  (hfew : ((backTo cpos (starEach (e :: es) X.env)).all (fun x => !x.1) && (backToKw cpos (keywordEach [] X.env)).all (fun x => x.1.isSome)
   && decide ((e :: es).length + ([] : List Keyword).length + (if ([] : List Keyword).isEmpty then 0 else 1) < 30)) = true := by rfl)
  (hline : (apos.endLine == cpos.line) = true := by rfl) (hs : starEach (e :: es) X.env = (false, eval e X.env) :: starEach es X.env := by rfl) (hplain : (backTo cpos (starEach es X.env)).any (·.1) = false := by rfl) :
  PE X (.Call (.Attribute o name apos) (e :: es) [] cpos) (tBM X.K T r to t) := by
 intro pins s σ H Q I h
 refine wpAny_Call_method_late hbase hfew hline rfl (thn (ho pins s σ H _ I h) fun v s1 ⟨x, H1, I1, r1, ty, q1⟩ => ?_)
 obtain ⟨h1, h2⟩ := tyV_is I1 r1 ty
 refine ⟨T, id, pa, slot, hty, h1, h2, ?_⟩
 have hA := ha cpos pins s1 σ H1 _ I1 q1
 rw [hs] at hA ⊢
 refine Calls.callWith_builtin (by show (false || (backTo cpos (starEach es X.env)).any (·.1)) = false; rw [hplain] <;> rfl) (Calls.evalArgs_plain ?_)
 exact thn hA fun us s2 ⟨vs, H2, I2, r2, q2⟩ => hm pins s2 σ H2 x vs v us Q I2 r1 r2 q2
end
end L2
namespace L2
open PySem PySem.Spec PyProof.Rows
def MtM (X : Cx) (id : String) (r : V -> List V -> Hp -> VK -> Prop) : Prop :=
 ∀ (pins : List (Addr × Obj)) (s : Shared) (σ : St) (H : Hp) (x : V) (xs : List V) (v : Value) (us : List Value) (Q : VK), Inv X pins σ H s -> RelV x v -> Vals xs us -> r x xs H Q ->
  wpAny (model X.prog X.w) X.A (call (.builtin id) (v :: us)) (EP X pins σ Q) X.xe s
theorem Vals.one : ∀ {x : V} {us : List Value}, Vals [x] us -> ∃ u, us = [u] /\ RelV x u
 | _, _, .cons r .nil => ⟨_, rfl, r⟩
theorem Vals.zero : ∀ {us : List Value}, Vals [] us -> us = []
 | _, .nil => rfl
theorem Vals.dropLast {xs : List V} {us : List Value} (h : Vals xs us) : Vals xs.dropLast us.dropLast := by
 induction h with
 | nil => exact .nil
 | cons r t ih =>
  cases t with
  | nil => exact .nil
  | cons q t' => exact .cons r ih
theorem Vals.reverse {xs : List V} {us : List Value} (h : Vals xs us) : Vals xs.reverse us.reverse := by
 induction h with
 | nil => exact .nil
 | cons r t ih => rw [List.reverse_cons, List.reverse_cons]; exact Vals.append ih (.cons r .nil)
theorem Vals.rep {xs : List V} {us : List Value} (h : Vals xs us) : ∀ k : Nat, Vals (List.replicate k xs).flatten (List.replicate k us).flatten
 | 0 => .nil
 | k + 1 => by
  rw [List.replicate_succ, List.replicate_succ, List.flatten_cons, List.flatten_cons]
  exact Vals.append h (Vals.rep h k)
theorem erase_last {α : Type} (l : List α) : l.eraseIdx (l.length - 1) = l.dropLast := by
 induction l with
 | nil => rfl
 | cons a r ih =>
  cases r with
  | nil => rfl
  | cons b r =>
   have e : (a :: b :: r).length - 1 = ((b :: r).length - 1) + 1 := by
    have h1 : (a :: b :: r).length = r.length + 2 := rfl
    have h2 : (b :: r).length = r.length + 1 := rfl
    omega
   rw [e, List.eraseIdx_cons_succ, ih]
   all_goals rfl
theorem foldl_rep (its : List Value) : ∀ (k : Nat) (acc : List Value),
  List.foldl (fun x1 x2 => x1 ++ x2) acc.toArray (List.replicate k its.toArray) = (acc ++ (List.replicate k its).flatten).toArray
 | 0, acc => by simp
 | k + 1, acc => by
  have e : acc.toArray ++ its.toArray = (acc ++ its).toArray := by simp
  have e2 : (acc ++ its) ++ (List.replicate k its).flatten = acc ++ (List.replicate (k + 1) its).flatten := by
   rw [List.replicate_succ, List.flatten_cons, List.append_assoc]
  rw [<- e2, <- foldl_rep its k (acc ++ its), <- e, List.replicate_succ, List.foldl_cons]
section
variable {X : Cx} {pins : List (Addr × Obj)} {σ : St} {H : Hp} {s : Shared} {l b : Addr} {xs ys zs : List V}
theorem Inv.lset {its its' : List Value} {n : Nat} {f : Array Value -> Array Value} {t' : Nat} (I : Inv X pins σ H s) (hH : H l = some (.lst xs))
  (e : s.heap.get? l = some { cls := .type "list", data := .seq its.toArray n }) (hf : f its.toArray = its'.toArray) (hv : Vals ys its') (hz : ys.length <= sizeLine) :
  Inv X pins σ (upd H l (.lst ys)) { s with heap := s.heap.update l (Obj.mapSeq f), toks := t' } := by
 have q := PySem.IsL.update e f
 rw [hf] at q
 refine I.write (x := l) (e := l) (by rw [hH]; exact trivial) (.inl rfl) (fun b' u hb hu => (Heap.get?_update_other s.heap (Obj.mapSeq f) (Ne.symm hb)).trans hu) ⟨_, q⟩ ?_
 exact ⟨hz, its', _, hv, q⟩
theorem Inv.lnew {its : List Value} {t' : Nat} (I : Inv X pins σ H s) (hv : Vals ys its) (hz : ys.length <= sizeLine) :
  Inv X pins σ (upd H s.heap.objs.size (.lst ys)) { s with heap := s.heap.push { cls := .type "list", data := .seq its.toArray }, toks := t' } :=
 I.laid (fun _ _ q => Heap.get?_push_of_some _ q) (Nat.le_refl _) ⟨hz, its, 0, hv, Heap.get?_push_size _ rfl⟩
theorem Inv.fresh (I : Inv X pins σ H s) : H s.heap.objs.size = none := I.hok.fresh (Nat.le_refl _)
theorem Inv.lstM (I : Inv X pins σ H s) (hH : H l = some (.lst xs)) : xs.length <= sizeLine /\ ∃ (its : List Value) (n : Nat), Vals xs its /\ xs.length = its.length /\ s.heap.get? l = some { cls := .type "list", data := .seq its.toArray n } := by
 obtain ⟨z, its, n, r, e⟩ := I.hok l _ hH
 exact ⟨z, its, n, r, r.length, e⟩
theorem notLongL {n : Nat} (h : n <= sizeLine) : Builtin.List.listTooLong n = false := by
 unfold Builtin.List.listTooLong
 exact decide_eq_false (by omega)
end
section
variable {X : Cx}
def rAppend : V -> List V -> Hp -> VK -> Prop := fun x vs H Q => ∃ l xs y, x = .ref l /\ vs = [y] /\ H l = some (.lst xs) /\ xs.length < sizeLine /\ Q .non (upd H l (.lst (xs ++ [y])))
theorem mt_append : MtM X "list.append" rAppend := by
 intro pins s σ H x vs v us Q I rx rv h
 obtain ⟨l, xs, y, rfl, rfl, hH, hz, q⟩ := h
 cases rx
 obtain ⟨u, rfl, ru⟩ := rv.one
 obtain ⟨z, its, n, r, hl, e⟩ := I.lstM hH
 refine call_meets F.slot_list_append ⟨_, e, rfl⟩ F.entry_list_append (F.args_list_append_2 _ _) (PySem.list_append l its.toArray n u (by rw [List.size_toArray]; omega)) ⟨e, ?_⟩
 refine ⟨.non, _, I.lset (its' := its ++ [u]) hH e (by simp) (r.append (.cons ru .nil)) ?_, rfl, q⟩
 rw [List.length_append, List.length_singleton]
 omega
def rPop : V -> List V -> Hp -> VK -> Prop := fun x vs H Q => ∃ l xs y, x = .ref l /\ vs = [] /\ H l = some (.lst xs) /\ xs[xs.length - 1]? = some y /\ Q y (upd H l (.lst xs.dropLast))
theorem mt_pop : MtM X "list.pop" rPop := by
 intro pins s σ H x vs v us Q I rx rv h
 obtain ⟨l, xs, y, rfl, rfl, hH, hy, q⟩ := h
 cases rx
 have hus := rv.zero
 subst hus
 obtain ⟨z, its, n, r, hl, e⟩ := I.lstM hH
 obtain ⟨u, hu, ru⟩ := r.get hy
 have hy' : its.toArray[its.toArray.size - 1]? = some u := by
  show its.toArray[its.length - 1]? = some u
  rw [<- Array.getElem?_toList, <- hl]
  exact hu
 refine call_meets F.slot_list_pop ⟨_, e, rfl⟩ F.entry_list_pop (F.args_list_pop_1 _) (MeetsSeq.list_pop_last l its.toArray n u hy' (by rw [List.size_toArray]; omega)) ⟨e, ?_⟩
 refine ⟨y, _, I.lset (its' := its.dropLast) hH e ?_ r.dropLast ?_, ru, q⟩
 ·show its.toArray.eraseIdxIfInBounds (its.toArray.size - 1) = its.dropLast.toArray
  rw [List.size_toArray, List.eraseIdxIfInBounds_toArray, erase_last]
 ·rw [List.length_dropLast]
  omega
theorem len_rep {α : Type} (xs : List α) (k : Nat) : (List.replicate k xs).flatten.length = k * xs.length := by
 induction k with
 | zero => simp
 | succ k ih => rw [List.replicate_succ, List.flatten_cons, List.length_append, ih, Nat.succ_mul, Nat.add_comm]
end
end L2
namespace Att
open PySem PySem.W PySem.Calls PyProof.Rows
theorem ints_of_wellAll {P : Params} {h : Heap} : ∀ (ns : List Int) (vs : List Value), WellAll P h vs (ns.map WData.int) -> IntsAre vs ns := by
 intro ns
 induction ns with
 | nil =>
  intro vs w
  rw [List.map_nil] at w
  cases w
  exact .nil
 | cons n ns ih =>
  intro vs w
  rw [List.map_cons] at w
  cases w with
  | cons a b =>
   cases a
   exact .cons _ _ (ih _ b)
theorem script_of {l : OpenLaw} {n : Nat} (hn : l.most = some n) {P : Params} {h : Heap} {args : List WData} {vals : List Value}
  (hpre : l.row.toRowW.claim.pre args = true) (hwl : WellAll P h vals args) :
  ∃ a vs ns, vals = [Value.ref a] /\ args = [WData.list (ns.map WData.int)] /\ h.get? a = some { cls := .type "list", data := .seq vs.toArray } /\ IntsAre vs ns /\ ns.length <= n := by
 have hsh : WShape.hasAll [] args [.list .int] = true := (pre_splitW hpre).1
 have hc : l.pre.holds [] { args := args } = true := (pre_splitW hpre).2
 obtain ⟨d, r, rfl, h1, h2⟩ := hasAllW_cons hsh
 obtain rfl := hasAllW_nil h2
 obtain ⟨xs, rfl, h3⟩ := hasW_list h1
 obtain ⟨ns, rfl⟩ := items_int h3
 have hlen : ns.length <= n := by
  unfold OpenLaw.pre at hc
  have h4 : (WTm.not (.lt (.lit (.int (n : Int))) (.len (.arg 0)))).holds [] { args := [.list (ns.map .int)] } = true := by
   have h4 := (holds_andW hc).1
   rw [hn] at h4
   exact h4
  have h5 := condW_of h4 (w_not (w_lt w_lit (w_len_list (w_arg rfl))))
  rw [List.length_map] at h5
  refine Nat.le_of_not_lt fun q => ?_
  have q' : (n : Int) < ((ns.length : Nat) : Int) := by omega
  first
   | (rw [decide_eq_true q'] at h5; exact absurd h5 (by decide))
   | (simp at h5; omega)
 cases hwl with
 | cons w1 w2 =>
  cases w2
  cases w1 with
  | list ho hall => exact ⟨_, _, ns, rfl, rfl, ho, ints_of_wellAll ns _ hall, hlen⟩
theorem post_true (l : OpenLaw) (args : List WData) : l.row.toRowW.claim.post args (.bool true) args = true :=
 postW_of (r := l.row.toRowW) (X := (true == true))
  (show WShape.has [] (.bool true) .bool = true by first | rfl | decide | simp [WShape.has, WShape.arms, WShape.armsAll])
  (show (WTm.eq .res (.lit (.bool true))).value [] { args := args, res := some (.bool true), after := args } = some (.bool (true == true)) from w_eq_bool (w_res rfl) w_lit) rfl
theorem attach_call {l : OpenLaw} {n : Nat} {q : Program} {loose : List Str} {XP : (Str -> Option Value) -> Heap -> Prop} {YP : World -> Heap -> Prop} {d : DefRec}
  (hn : l.most = some n) (hdf : d.params.defaults = [])
  (call : ∀ (w : World) (s₀ s₁ : Shared) (mg mb : Str -> Option Value) (fa : Addr) (o : Obj) (pm cd doc : Value) (a : Addr) (vs : List Value) (ns : List Int),
   Ground q loose [] XP w s₀ mg mb s₁.heap -> YP w s₁.heap ->
   s₁.heap.get? fa = some o -> o.data = .func (docDef d.name d.params d.body d.scope pm cd doc) -> s₁.heap.CodeRec cd d.name -> mg d.name = some (.ref fa) ->
   s₁.heap.get? a = some { cls := .type "list", data := .seq vs.toArray } -> IntsAre vs ns -> ns.length <= n -> s₁.gens = #[] ->
   codeAny (model l.prog w) callerA (.call (.ref fa) ⟨[.ref a], []⟩) (fun r s' => r = .ok (.ret (.bool true)) /\ OldK s₁.heap s'.heap /\ s'.os = s₁.os /\ AllBare s'.gens) s₁) :
  WalkO q loose XP YP l.row.toRowW d [] (fun f vs => PySem.call f vs) := by
 intro w s₀ s₁ mg mb G Y fa o pm cd doc dV kV ho hd hcd hD hmg hg args vals as hpre hlay hrd hwl hlo
 obtain rfl : dV = .none := Dflts.none hD hdf
 obtain rfl : kV = .none := Dflts.noKw hD
 obtain ⟨a, vs, ns, rfl, rfl, hobj, hints, hlen⟩ := script_of hn hpre hwl
 refine enter_call (codeAny_mono (call w s₀ s₁ mg mb fa o pm cd doc a vs ns G Y ho (fd_plain hd) hcd hmg hobj hints hlen hg) fun r s' hq => ?_)
 obtain ⟨rfl, h2, h3, h4⟩ := hq
 exact ⟨.inl ⟨.bool true, .bool true, [], rfl, fun _ => rfl, .bool true, post_true l _, fun _ => ⟨List.Pairwise.nil, fun _ hm => (nomatch hm)⟩⟩, h2, h3, h4⟩
end Att
namespace L2
open PySem PySem.Spec PyProof.Rows
theorem vals_ints : ∀ {vs : List Value} {ns : List Int}, IntsAre vs ns -> Vals (ns.map V.int) vs
 | _, _, .nil => .nil
 | _, _, .cons n t h => .cons ⟨t, rfl⟩ (vals_ints h)
def Only (H : Hp) : Prop := ∀ b, H b = none \/ ∃ o xs, H b = some (.frz o (.lst xs))
theorem law_call {P : Program} {w : World} {K : PySem.W.Frag} {mg mb : Str -> Option Value} {CX : CXT} {k : Nat} {fa a : Addr} {fd : FuncData} {x : Str} {sp : Sp} {s₁ : Shared} {vs : List Value} {ns : List Int}
  (KX : K.In s₁.heap) (hns : s₁.heap.Ns mainGlobals mg) (hb : s₁.heap.Ns builtinsNs mb) (hbb : ∀ x : Str, x ≠ "__name__" -> mb x = bootBuiltins x) (hlim : s₁.heap.NoLimit) (hg : s₁.gens = #[])
  (ha : s₁.heap.get? a = some { cls := .type "list", data := .seq vs.toArray }) (hi : IntsAre vs ns) (hl : ns.length <= sizeLine) (hr : Room k callerA)
  (F : ∀ base : Heap, K.In base -> base.Ns mainGlobals mg -> FnOk P w K mg base CX k fa fd [x] sp) (hbind : ∀ (s : Shared) (u : Value), BindsTo s fd ⟨[u], []⟩ [(x, u)])
  (hsp : ∀ H : Hp, Only H -> SqL K H a (ns.map V.int) -> sp [.ref a] H (fun v _ => v = .bl true) fun _ _ _ => False)
  (hCX : ∀ H e s', CX [] H s₁ (fun _ _ _ => False) e s' -> False) :
  codeAny (model P w) callerA (.call (.ref fa) ⟨[.ref a], []⟩) (fun r s' => r = .ok (.ret (.bool true)) /\ OldK s₁.heap s'.heap /\ s'.os = s₁.os /\ AllBare s'.gens) s₁ := by
 have rv := vals_ints hi
 have lenV := hi.length
 -- from an abstract heap in which nothing but the script may be tracked
 have core : ∀ H : Hp, Only H -> SqL K H a (ns.map V.int) -> HOk P w H s₁.heap -> (∀ b, H b ≠ none -> b = a) -> (H a ≠ none -> K.lookup a = none) ->
   codeAny (model P w) callerA (.call (.ref fa) ⟨[.ref a], []⟩) (fun r s' => r = .ok (.ret (.bool true)) /\ OldK s₁.heap s'.heap /\ s'.os = s₁.os /\ AllBare s'.gens) s₁ := by
  intro H hO hS hok hA hK
  have base_of : ∀ {b : Addr} {o : Obj}, s₁.heap.get? b = some o -> H b = none -> (hidT s₁.heap H).get? b = some o := fun e n => hidT_get e n
  have noA : ∀ {b : Addr} {o : Obj} {es : Array DictEntry} {ep : Nat}, s₁.heap.get? b = some o -> o.data = .dict es ep -> H b = none := fun {b o es ep} e d => by
   cases q : H b with
   | none => rfl
   | some u =>
    have e' : b = a := hA b (by rw [q]; simp)
    subst e'
    rw [ha] at e; cases e
    have d' : Data.seq vs.toArray _ = Data.dict es ep := d
    cases d'
  have nsK : ∀ {b : Addr} {m : Str -> Option Value}, s₁.heap.Ns b m -> (hidT s₁.heap H).Ns b m := fun {b m} ⟨o, es, ep, e, d, r⟩ => ⟨o, es, ep, base_of e (noA e d), d, r⟩
  have hKb : K.In (hidT s₁.heap H) := fun b o e => base_of (KX b o e) (by
   cases q : H b with
   | none => rfl
   | some u =>
    have e' : b = a := hA b (by rw [q]; simp)
    subst e'
    rw [hK (by rw [q]; simp)] at e; cases e)
  have hM : Mod K mg (hidT s₁.heap H) := ⟨hKb, nsK hns, ⟨mb, nsK hb, hbb⟩, let ⟨mc, h1, h2⟩ := hlim; ⟨mc, nsK h1, h2⟩⟩
  have e0 : Env0 P w K mg (hidT s₁.heap H) callerA [] s₁ H := ⟨rfl, hM, fun b o e => of_hidT e, Nat.le_of_eq (hidT_size _ _), trivial, fun b hb => absurd (show b ∈ ([] : List Addr) from hb) (by simp), hok, .of_eq hg⟩
  refine codeAny_mono ((F _ hKb (nsK hns)).run callerA [] s₁ H ⟨[.ref a], []⟩ [.ref a] [.ref a] _ _ hr e0 (hbind s₁ (.ref a)) (.cons rfl .nil) (hsp H hO hS)) fun r s' h => ?_
  cases r with
  | error e => exact (hCX H e s' h).elim
  | ok fl =>
   cases fl with
   | next => exact False.elim h
   | brk => exact False.elim h
   | cont => exact False.elim h
   | ret u =>
    obtain ⟨v, H', os, bare, un, hok', r', q⟩ := h
    have q' : v = .bl true := q
    subst q'
    obtain rfl : u = Value.bool true := r'
    refine ⟨rfl, OldK.of_keep fun b o e => ?_, os, bare⟩
    cases q : H b with
    | none => exact un.keep b o e q (by intro z; exact absurd (show b ∈ ([] : List Addr) from z) (by simp)) (by simp)
    | some u =>
     rcases hO b with z | ⟨ob, xs, z⟩
     ·rw [q] at z; cases z
     ·have z2 := un.frzs b ob _ z
      obtain ⟨e1, _⟩ := hok b _ z
      obtain ⟨e2, _⟩ := hok' b _ z2
      rw [e] at e1; cases e1
      exact e2
 cases hk : K.lookup a with
 | some o =>
  -- the script is one of the module's own objects
  have e := KX a o hk
  rw [ha] at e
  cases e
  refine core (fun _ => none) (fun _ => .inl rfl) (.inr ⟨_, vs.toArray, _, hk, rfl, rfl, rfl, by rw [List.size_toArray, lenV]; exact hl, by simpa using rv⟩) (fun b u z => by have z' : (none : Option HO) = some u := z; cases z') (fun b z => absurd rfl z) fun z => absurd rfl z
 | none =>
  refine core (fun b => if b = a then some (.frz { cls := .type "list", data := .seq vs.toArray } (.lst (ns.map V.int))) else none) (fun b => ?_) (.inl (.inr ⟨{ cls := .type "list", data := .seq vs.toArray }, if_pos rfl⟩)) (fun b u z => ?_) (fun b z => ?_) fun _ => hk
  ·by_cases hb : b = a
   ·exact .inr ⟨_, _, if_pos hb⟩
   ·exact .inl (if_neg hb)
  ·by_cases hb : b = a
   ·have z' := (if_pos hb).symm.trans z
    cases z'
    subst hb
    exact ⟨ha, by rw [List.length_map]; exact hl, vs, _, rv, ha⟩
   ·have z' := (if_neg hb).symm.trans z
    cases z'
  ·by_cases hb : b = a
   ·exact hb
   ·exact absurd (if_neg hb) z
end L2
namespace L2
open PySem PySem.Spec PyProof.Rows
theorem walk_of {l : PySem.W.OpenLaw} {n k : Nat} {q : Program} {loose : List Str} {XP : (Str -> Option Value) -> Heap -> Prop} {YP : World -> Heap -> Prop} {d : DefRec} {K : Params -> PySem.W.Frag} {CX : World -> CXT} {sp : World -> Sp} {x : Str}
  (hn : l.most = some n) (hn2 : n <= sizeLine) (hdf : d.params.defaults = []) (hr : Room k callerA)
  (hY : ∀ (w : World) (h : Heap), YP w h -> (K w.params).In h)
  (F : ∀ (w : World) (mg : Str -> Option Value) (fa : Addr) (h : Heap), (K w.params).In h -> h.Ns mainGlobals mg -> mg d.name = some (.ref fa) ->
   ∃ fd : FuncData, (∀ (s : Shared) (u : Value), BindsTo s fd ⟨[u], []⟩ [(x, u)]) /\
    ∀ base : Heap, (K w.params).In base -> base.Ns mainGlobals mg -> FnOk l.prog w (K w.params) mg base (CX w) k fa fd [x] (sp w))
  (hsp : ∀ (w : World) (H : Hp) (a : Addr) (ns : List Int), ns.length <= n -> Only H -> SqL (K w.params) H a (ns.map V.int) -> sp w [.ref a] H (fun v _ => v = .bl true) fun _ _ _ => False)
  (hCX : ∀ (w : World) (H : Hp) (s : Shared) (e : Value) (s' : Shared), CX w [] H s (fun _ _ _ => False) e s' -> False) :
  PySem.W.WalkO q loose XP YP l.row.toRowW d [] (fun f vs => PySem.call f vs) := by
 refine Att.attach_call hn hdf fun w s₀ s₁ mg mb fa o pm cd doc a vs ns G Y ho hd hcd hmg hobj hints hlen hg => ?_
 have KX := hY w _ Y
 obtain ⟨fd, hb, hF⟩ := F w mg fa _ KX G.T.g hmg
 exact law_call KX G.T.g G.T.b G.T.builtins G.T.nolimit hg hobj hints (Nat.le_trans hlen hn2) hr hF hb (fun H hO hS => hsp w H a ns hlen hO hS) fun H e s' => hCX w H s₁ e s'
end L2
namespace L2
open PySem PySem.Spec PyProof.Rows
def defArgs (s : Stmt) : Arguments := match s with
 | .FunctionDef _ a _ _ _ _ _ _ _ _ => a
 | _ => { posonlyargs := [], args := [], vararg := none, kwonlyargs := [], kw_defaults := [], kwarg := none, defaults := [] }
def defBody (s : Stmt) : List Stmt := match s with
 | .FunctionDef _ _ b _ _ _ _ _ _ _ => b
 | _ => []
def defScope (s : Stmt) : Scope := match s with
 | .FunctionDef _ _ _ _ _ _ sc _ _ _ => sc
 | _ => { kind := .function, names := [], isGenerator := false, isCoroutine := false }
abbrev CX0 : CXT := fun _ _ _ _ _ _ => False
abbrev E0 : XK := fun _ _ _ => False
theorem pass0 {X : Cx} : Passes CX0 X E0 := fun _ _ _ _ _ _ _ h => h.elim
structure Fun (K : PySem.W.Frag) (x qual : Str) (st : Stmt) (f : Addr) (fd : FuncData) : Prop where
 ex : ∃ (oc : Value) (od : Option Addr) (kV doc pm : Value) (an : Option Addr) (cdv ct : Value) (osl : Array (Option Value)),
  fd = PySem.W.fnOf x qual (defArgs st) (defBody st) (defScope st) .none kV doc pm an cdv ct /\ K.lookup f = some ⟨oc, od, .func fd, osl⟩ /\ PySem.W.codeIn K cdv qual = true
 kp : PySem.W.keepIn K (.ref f) = true
section
variable {P : Program} {w : World} {K : PySem.W.Frag} {mg : Str -> Option Value} {base : Heap}
theorem Fun.ok {x qual : Str} {st : Stmt} {f : Addr} {fd : FuncData} {N ps : List Str} {k : Nat} {sp : Sp} (F : Fun K x qual st f fd) (S : FnScope N ps (defScope st)) (len : ∀ vs H Q E, sp vs H Q E -> vs.length = ps.length)
  (hbody : ∀ (cdv : Value) (A : Around) (outer : List Env) (s : Shared) (H : Hp) (vs : List V) (Q : VK) (E : XK), Room k (A.deeper (envOfC qual (defScope st) s.heap.objs.size f cdv)) -> sp vs H Q E ->
   ∃ t, PSs (cxOf CX0 P w K mg base N qual (defScope st) f cdv A outer s H E).nox (defBody st) t /\ t { nx := fun _ H' => Q .non H', rt := Q } (start N vs) H) : FnOk P w K mg base CX0 (k + 1) f fd ps sp := by
 obtain ⟨oc, od, kV, doc, pm, an, cdv, ct, osl, rfl, lk, hcd⟩ := F.ex
 refine fn_of lk hcd S len fun A outer s H vs Q E hr hsp => ?_
 obtain ⟨t, h, q⟩ := hbody cdv A outer s H vs Q E hr hsp
 exact ⟨t, h.nox, q⟩
theorem Fun.binds {x qual : Str} {st : Stmt} {f : Addr} {fd : FuncData} {ps : List Str} (F : Fun K x qual st f fd)
  (h : ∀ (kV doc pm : Value) (an : Option Addr) (cdv ct : Value) (us : List Value), us.length = ps.length -> bindArgs (PySem.W.fnOf x qual (defArgs st) (defBody st) (defScope st) .none kV doc pm an cdv ct) ⟨us, []⟩ = pure (ps.zip us)) : Binds K fd ps [] := by
 obtain ⟨oc, od, kV, doc, pm, an, cdv, ct, osl, rfl, lk, hcd⟩ := F.ex
 exact .all (h kV doc pm an cdv ct)
theorem fun_mk {x qual : Str} {st : Stmt} {f : Addr} {oc : Value} {od an : Option Addr} {osl : Array (Option Value)} {kV doc pm cdv ct : Value} (l : K.lookup f = some ⟨oc, od, .func (PySem.W.fnOf x qual (defArgs st) (defBody st) (defScope st) .none kV doc pm an cdv ct), osl⟩)
  (c : PySem.W.codeIn K cdv qual = true) (k : PySem.W.keepIn K (.ref f) = true) : Fun K x qual st f (PySem.W.fnOf x qual (defArgs st) (defBody st) (defScope st) .none kV doc pm an cdv ct) := ⟨⟨oc, od, kV, doc, pm, an, cdv, ct, osl, rfl, l, c⟩, k⟩
end
theorem hu_of {A : Around} {k : Nat} (hr : Room k A) : A.units + 1 < cLine := Nat.lt_of_le_of_lt (Nat.add_le_add_left (by decide : 1 <= 64) _) hr.units
theorem small1000 {n : Nat} (h : n <= 1000) : n < sizeLine := Nat.lt_of_le_of_lt h (by decide)
section
variable {X : Cx}
theorem pv (i : Nat) {x : Str} {pos : Pos} (hN : X.N[i]? = some x := by rfl) (hv : Vis X.env.scope x := by first | exact Or.inl rfl | exact Or.inr (Or.inl rfl) | exact Or.inr (Or.inr rfl)) (hd : (x == ("__debug__" : Str)) = false := by decide)
  (hcd : (x == ("__classdict__" : Str)) = false := by decide) : PE X (.Name x pos) (tVar i) := pe_var hN hv hd hcd
end
theorem iteF {A B : Prop} (h : B) : if false = true then A else B := by
 rw [if_neg Bool.false_ne_true]
 exact h
theorem iteT {A B : Prop} (h : A) : if true = true then A else B := by
 rw [if_pos rfl]
 exact h
theorem ite2 {c A B : Prop} [Decidable c] (h1 : c -> A) (h2 : ¬ c -> B) : if c then A else B := by
 by_cases h : c
 ·rw [if_pos h]
  exact h1 h
 ·rw [if_neg h]
  exact h2 h
def Same (H H' : Hp) : Prop := ∀ b o, H b = some o -> H' b = some o
theorem Same.refl (H : Hp) : Same H H := fun _ _ h => h
theorem Same.free {H H' : Hp} (e : Same H H') {l : Addr} (h : H' l = Option.none) : H l = Option.none := by
 cases q : H l with
 | none => rfl
 | some o =>
  rw [e l o q] at h
  cases h
end L2
namespace L2
open PySem PySem.Spec PyProof.Rows
theorem closure_names {env : Env} : ∀ (names : List (Str × NameKind)) (acc : List (Str × Addr)), (∀ y ∈ names, y.2 = .free -> ∃ c, env.cells.lookup y.1 = some c) ->
  ∃ cl, (forIn names acc (fun (x : Str × NameKind) (cs : List (Str × Addr)) => if (x.2 == NameKind.free) = true then (do let c <- cellOf env x.1; pure (ForInStep.yield ((x.1, c) :: cs))) else pure (ForInStep.yield cs)) : Sem (List (Str × Addr))) = pure cl /\
   (∀ x c, cl.lookup x = some c -> env.cells.lookup x = some c \/ acc.lookup x = some c) /\ (∀ x c, acc.lookup x = some c -> ∃ c', cl.lookup x = some c') /\ ∀ y ∈ names, y.2 = .free -> ∃ c, cl.lookup y.1 = some c
 | [], acc, _ => ⟨acc, rfl, fun _ _ h => .inr h, fun _ c h => ⟨c, h⟩, fun _ h => nomatch h⟩
 | (n, k) :: r, acc, h => by
  rw [List.forIn_cons]
  by_cases hk : k = .free
  ·subst hk
   obtain ⟨c, hc⟩ := h (n, .free) List.mem_cons_self rfl
   obtain ⟨cl, h1, h2, h3, h4⟩ := closure_names r ((n, c) :: acc) fun y hy => h y (List.mem_cons_of_mem _ hy)
   refine ⟨cl, ?_, fun x d e => ?_, fun x d e => ?_, fun y hy e => ?_⟩
   ·have e1 : cellOf env n = pure c := by unfold cellOf; rw [hc]
    simp only [beq_self_eq_true, if_true, e1, pure_bind]
    exact h1
   ·rcases h2 x d e with z | z
    ·exact .inl z
    ·rw [List.lookup_cons] at z
     split at z
     ·rename_i hx
      cases z
      have : x = n := eq_of_beq hx
      subst this
      exact .inl hc
     ·exact .inr z
   ·refine h3 x (if x == n then c else d) ?_
    rw [List.lookup_cons]
    cases hx : x == n with
    | true => simp [hx]
    | false => simp [hx, e]
   ·rcases List.mem_cons.mp hy with z | z
    ·subst z
     exact h3 n c (by simp [List.lookup_cons])
    ·exact h4 y z e
  ·have hb : (k == NameKind.free) = false := by simpa using hk
   obtain ⟨cl, h1, h2, h3, h4⟩ := closure_names r acc fun y hy => h y (List.mem_cons_of_mem _ hy)
   refine ⟨cl, ?_, h2, h3, fun y hy e => ?_⟩
   ·simp only [hb, Bool.false_eq_true, if_false, pure_bind]
    exact h1
   ·rcases List.mem_cons.mp hy with z | z
    ·subst z
     exact absurd e hk
    ·exact h4 y z e
theorem closure_ok {scope : Scope} {env : Env} (h : ∀ y ∈ scope.names, y.2 = .free -> ∃ c, env.cells.lookup y.1 = some c) :
  ∃ cl, closureFor scope env = pure cl /\ (∀ x c, cl.lookup x = some c -> env.cells.lookup x = some c) /\ ∀ y ∈ scope.names, y.2 = .free -> ∃ c, cl.lookup y.1 = some c := by
 obtain ⟨cl, h1, h2, h3, h4⟩ := closure_names scope.names [] h
 refine ⟨cl, ?_, fun x c e => (h2 x c e).elim id fun z => (by cases z), h4⟩
 unfold closureFor
 refine Eq.trans ?_ h1
 refine Eq.trans (bind_pure _) ?_
 rfl
theorem lookup_relabel_free {env : Env} : ∀ {names : List (Str × NameKind)} {x : Str}, names.lookup x = some .free ->
  (names.map fun (n, k) => if (k == NameKind.free && env.scope.kind == .function && env.kindOf n == some .cell) then (n, NameKind.cell) else (n, k)).lookup x = some .cell \/
  (names.map fun (n, k) => if (k == NameKind.free && env.scope.kind == .function && env.kindOf n == some .cell) then (n, NameKind.cell) else (n, k)).lookup x = some .free
 | [], _, h => by simp at h
 | (n, k) :: r, x, h => by
  have ih := @lookup_relabel_free env r x
  show List.lookup x ((if (k == NameKind.free && env.scope.kind == .function && env.kindOf n == some .cell) = true then (n, NameKind.cell) else (n, k)) :: _) = _ \/ List.lookup x ((if (k == NameKind.free && env.scope.kind == .function && env.kindOf n == some .cell) = true then (n, NameKind.cell) else (n, k)) :: _) = _
  by_cases hc : (k == NameKind.free && env.scope.kind == .function && env.kindOf n == some .cell) = true
  ·rw [if_pos hc]
   cases hx : x == n with
   | true => simp only [List.lookup_cons, hx]; exact .inl trivial
   | false =>
    simp only [List.lookup_cons, hx] at h ⊢
    exact ih h
  ·rw [if_neg hc]
   cases hx : x == n with
   | true =>
    simp only [List.lookup_cons, hx] at h ⊢
    exact .inr h
   | false =>
    simp only [List.lookup_cons, hx] at h ⊢
    exact ih h
theorem mem_relabel {env : Env} {names : List (Str × NameKind)} (hn : ∀ y ∈ names, y.2 ≠ .cell) {x : Str} {k : NameKind} (hk : k = .cell \/ k = .free)
  (h : (names.map fun (n, k) => if (k == NameKind.free && env.scope.kind == .function && env.kindOf n == some .cell) then (n, NameKind.cell) else (n, k)).lookup x = some k) : (x, NameKind.free) ∈ names := by
 obtain ⟨⟨n, k'⟩, hm, e⟩ := List.mem_map.mp (PySem.mem_of_lookup h)
 simp only at e
 split at e
 ·rename_i hc
  rw [Bool.and_eq_true, Bool.and_eq_true] at hc
  have : k' = .free := eq_of_beq hc.1.1
  subst this
  injection e with e1 _
  subst e1
  exact hm
 ·injection e with e1 e2
  subst e1 e2
  rcases hk with z | z
  ·exact absurd z (hn _ hm)
  ·subst z; exact hm
def cxComp (X : Cx) (N : List Str) (scope : Scope) (cl : List (Str × Addr)) (C : Addr) (fp : List Addr) (s : Shared) (H : Hp) : Cx where
 prog := X.prog
 w := X.w
 K := X.K
 mg := X.mg
 base := X.base
 A := X.A
 N := N
 s₀ := s
 H₀ := H
 env := compEnvC scope cl C X.env
 outer := X.stack
 stack := X.stack
 ex := fp
 fn := fun _ => false
 calm := X.calm
 pn := []
 xe := fun _ _ => False
structure CompScope (sc : Scope) (XN N : List Str) (own : Nat) (fr : List Nat) (scope : Scope) : Prop where
 kind : scope.kind = .function
 nocell : ∀ y ∈ scope.names, y.2 ≠ .cell
 free : ∀ y ∈ scope.names, y.2 = .free -> sc.names.lookup y.1 = some .cell \/ sc.names.lookup y.1 = some .free
 loc : ∀ y ∈ scope.names, y.2 = .local -> scope.names.lookup y.1 = some .local
 names : N.drop own = fr.filterMap fun i => XN[i]?
 frl : ∀ i ∈ fr, i < XN.length
 len : own <= N.length
 vis : ∀ x ∈ N.drop own, scope.names.lookup x = some .free
def σf (fr : List Nat) (σ : St) : St := fr.map fun i => σ.getD i none
def σc (own : Nat) (fr : List Nat) (σ : St) : St := List.replicate own none ++ σf fr σ
section
variable {X : Cx} {pins : List (Addr × Obj)} {σ : St} {H : Hp} {s : Shared} {N : List Str} {own : Nat} {fr : List Nat} {scope : Scope}
theorem filterMap_all {XN : List Str} : ∀ {fr : List Nat}, (∀ i ∈ fr, i < XN.length) -> ∀ (j : Nat), (fr.filterMap fun i => XN[i]?)[j]? = (fr[j]?).bind fun i => XN[i]?
 | [], _, j => by simp
 | i :: r, h, j => by
  have hi : i < XN.length := h i List.mem_cons_self
  rw [List.filterMap_cons, List.getElem?_eq_getElem hi]
  cases j with
  | zero => simp [hi]
  | succ j => simpa using filterMap_all (fun k hk => h k (List.mem_cons_of_mem _ hk)) j
theorem inv_comp {cl : List (Str × Addr)} {fp : List Addr} {h' : Heap} (I : Inv X pins σ H s) (S : CompScope X.env.scope X.N N own fr scope) (hcl : ∀ x c, cl.lookup x = some c -> X.env.cells.lookup x = some c)
  (hcf : ∀ y ∈ scope.names, y.2 = .free -> ∃ c, cl.lookup y.1 = some c) (hfp : ∀ b ∈ fp, FpOk X pins H b) (hfo : ∀ b ∈ fp, ∃ o, s.heap.get? b = some o)
  (hns : h'.Ns s.heap.objs.size fun _ => none) (hk : ∀ b o, s.heap.get? b = some o -> h'.get? b = some o) :
  Inv (cxComp X N scope cl s.heap.objs.size fp s H) [] (σc own fr σ) H { s with heap := h' } := by
 have kindE : ∀ x, (Env.kindOf (compEnvC scope cl s.heap.objs.size X.env) x) = (relabel scope X.env).names.lookup x := fun x => rfl
 have memF : ∀ x, (Env.kindOf (compEnvC scope cl s.heap.objs.size X.env) x = some .cell \/ Env.kindOf (compEnvC scope cl s.heap.objs.size X.env) x = some .free) -> (x, NameKind.free) ∈ scope.names := fun x hx => by
  rcases hx with z | z
  ·exact mem_relabel (env := X.env) S.nocell (.inl rfl) z
  ·exact mem_relabel (env := X.env) S.nocell (.inr rfl) z
 refine ⟨⟨I.ok.mod, S.kind, I.ok.glob, I.ok.blt, Nat.le_refl _, fun x y c h1 h2 => I.ok.inj x y c (hcl x c h1) (hcl y c h2), fun x hx => hcf (x, .free) (memF x hx) rfl, fun x c h => absurd (show false = true from h) (by decide), I.ok.hd, I.ok.frames, .inl rfl, fun b hb => ?_, I.bs, Nat.le_trans I.ok.bsz I.sz, fun b o e hb => ?_, fun b hb z => ?_, I.stack, I.stkFree⟩,
  rfl, I.bare, Un.kept hk, ⟨_, hns, fun i x v e1 e2 e3 => ?_⟩, fun x c e => ?_, I.hok.fresh (Nat.le_refl _), fun x c e => I.freeC x c (hcl x c e), fun p hp => absurd (show p ∈ ([] : List (Addr × Obj)) from hp) (by simp), I.hok.kept hk, ?_⟩
 ·obtain ⟨o, ho⟩ := hfo b hb
  exact ⟨Nat.ne_of_lt (Heap.lt_size ho), fun x c e => (hfp b hb).2.2.2.2.1 x c (hcl x c e)⟩
 ·rcases (hfp b hb).2.2.2.1 with z | z
  ·exact I.ok.noex b o e z
  ·exact absurd (Nat.lt_of_lt_of_le (Heap.lt_size (I.ok.bs b o e).1) z) (Nat.lt_irrefl _)
 ·rcases List.mem_cons.mp (I.stkSub b z) with q | q
  ·exact (hfp b hb).2.1 q
  ·exact (hfp b hb).2.2.1 q
 ·have hi : own <= i := by
   rcases Nat.lt_or_ge i own with z | z
   ·have e2' : (σc own fr σ)[i]? = some (some v) := e2
    unfold σc at e2'
    rw [List.getElem?_append_left (by simpa using z), List.getElem?_replicate] at e2'
    split at e2' <;> cases e2'
   ·exact z
  have e2' : (σf fr σ)[i - own]? = some (some v) := by
   have e2' : (σc own fr σ)[i]? = some (some v) := e2
   unfold σc at e2'
   rw [List.getElem?_append_right (by simpa using hi)] at e2'
   simpa using e2'
  have e1' : (N.drop own)[i - own]? = some x := by
   have e1' : N[i]? = some x := e1
   rw [List.getElem?_drop]
   rw [show own + (i - own) = i by omega]
   exact e1'
  have hv : scope.names.lookup x = some .free := S.vis x (List.mem_of_getElem? e1')
  have hx : X.env.scope.names.lookup x = some .cell \/ X.env.scope.names.lookup x = some .free := S.free (x, .free) (PySem.mem_of_lookup hv) rfl
  rw [S.names, filterMap_all S.frl] at e1'
  unfold σf at e2'
  rw [List.getElem?_map] at e2'
  cases q : fr[i - own]? with
  | none => rw [q] at e2'; cases e2'
  | some j =>
   rw [q] at e1' e2'
   have e1'' : X.N[j]? = some x := e1'
   have e2'' : σ.getD j none = some v := Option.some.inj e2'
   have e3' : σ[j]? = some (some v) := by
    rw [List.getD_eq_getElem?_getD] at e2''
    cases z : σ[j]? with
    | none => rw [z] at e2''; cases e2''
    | some y => rw [z] at e2''; exact congrArg some e2''
   obtain ⟨m, hn, hl⟩ := I.loc
   obtain ⟨u, r, l⟩ := hl j x v e1'' e3' (.inr hx)
   refine ⟨u, r, .inr ⟨lookup_relabel_free (env := X.env) hv, ?_⟩⟩
   rcases l with ⟨k, _⟩ | ⟨_, c, hc, z⟩
   ·have k' : X.env.scope.names.lookup x = some .local := k
    rw [k'] at hx
    rcases hx with z | z <;> cases z
   ·obtain ⟨c', hc'⟩ := hcf (x, .free) (PySem.mem_of_lookup hv) rfl
    have := hcl x c' hc'
    rw [hc] at this
    cases this
    exact ⟨c, hc', z.keeps hk⟩
 ·obtain ⟨v, z⟩ := I.cell x c (hcl x c e)
  exact ⟨v, z.keeps hk⟩
 ·show (σc own fr σ).length = N.length
  unfold σc σf
  have h1 := congrArg List.length S.names
  have h2 : (fr.filterMap fun i => X.N[i]?).length = fr.length := by
   have : ∀ (l : List Nat), (∀ i ∈ l, i < X.N.length) -> (l.filterMap fun i => X.N[i]?).length = l.length := by
    intro l
    induction l with
    | nil => intro _; rfl
    | cons i r ih =>
     intro h
     rw [List.filterMap_cons, List.getElem?_eq_getElem (h i List.mem_cons_self)]
     simp [ih fun k hk => h k (List.mem_cons_of_mem _ hk)]
   exact this fr S.frl
  rw [List.length_drop, h2] at h1
  rw [List.length_append, List.length_replicate, List.length_map]
  have := S.len
  omega
end
section
variable {prog : Program} {w : World} {A : Around} {R : Result -> Shared -> Prop} {s : Shared}
theorem compLoop_any {elt target iter : Expr} {ifs : List Expr} {scope : Scope} {pos : Pos} {it acc : Value} {env : Env} (I : Nat -> Shared -> Prop)
  (turn : ∀ n s, I n s -> wpAny (model prog w) A (pyNext it) (fun r s₁ => match r with
   | none => R (.ok .next) s₁
   | some v => wpAny (model prog w) A (letOwnedTupleGo target it v) (fun _ s' => wpAny (model prog w) A (assign target env v) (fun _ s₂ =>
     wpAny (model prog w) A (forIn ifs true fun c r => if r = true then do let ok <- isTrue c env (eval c env); pure (ForInStep.yield ok) else pure (ForInStep.yield r)) (fun ok s₃ =>
      if ok = true then wpAny (model prog w) A (eval elt env) (fun x s₄ =>
       wpAny (model prog w) A (call (.builtin "list.append") [acc, x]) (fun _ s₅ => ∃ m, m < n /\ I m s₅) (fun _ _ => False) s₄) (fun _ _ => False) s₃
      else ∃ m, m < n /\ I m s₃) (fun _ _ => False) s₂) (fun _ _ => False) s') (fun _ _ => False) s₁) (fun _ _ => False) s)
  (n : Nat) (h : I n s) : codeAny (model prog w) A (.compLoop (.ListComp elt [⟨target, iter, ifs, 0⟩] scope pos) 0 it acc env) R s := by
 refine codeAny_loop rfl I (fun n s hI => ?_) n h
 show wpAny _ A ((compTurn (.ListComp elt [⟨target, iter, ifs, 0⟩] scope pos) 0 it acc env).onRaise (fun x => do noteFrame x env; theTreesLotGoes x)) _ _ s
 refine wpAny_noted ?_
 rw [compTurn_list]
 refine wpAny_bind (wpAny_standAt (wpAny_bind (wpAny_mono (turn n s hI) (fun r s₁ h₁ => ?_) fun _ _ z => False.elim z)))
 cases r with
 | none => exact wpAny_pure h₁
 | some v =>
  refine wpAny_bind (wpAny_mono h₁ (fun _ s' h' => ?_) fun _ _ z => False.elim z)
  refine wpAny_bind (wpAny_mono h' (fun _ s₂ h₂ => wpAny_bind (wpAny_mono h₂ (fun ok s₃ h₃ => ?_) fun _ _ z => False.elim z)) fun _ _ z => False.elim z)
  cases ok with
  | false => exact wpAny_pure ⟨rfl, h₃⟩
  | true =>
   exact wpAny_bind (wpAny_bind (wpAny_mono h₃ (fun x s₄ h₄ => wpAny_bind (wpAny_mono h₄ (fun _ s₅ h₅ => wpAny_pure (wpAny_pure ⟨rfl, h₅⟩)) fun _ _ z => False.elim z)) fun _ _ z => False.elim z))
end
def CompW (J : It) (a : Addr) (own : Nat) (fr : List Nat) (g : TG) (tf : TT) (te : TE) (σ : St) (H1 : Hp) (Q : VK) : Prop :=
 ∃ (n : Nat) (Pv : Nat -> List V -> Hp -> Prop), Pv 0 [] (upd H1 a (.lst [])) /\ ∀ i ys H2, i <= n -> H2 a = some (.lst ys) -> Pv i ys H2 ->
  (J.stop i H2 /\ Q (.ref a) H2) \/ (i < n /\ J.go i H2 /\ ∀ x H3, J.yld i H2 x H3 -> g x (σc own fr σ) H3 fun σ4 H4 => (∃ ow, ow.length = own /\ σ4 = ow ++ σf fr σ) /\ tf σ4 H4 fun b H5 =>
   if b = true then te σ4 H5 fun y H6 => H6 a = some (.lst ys) /\ ys.length < sizeLine /\ Pv (i + 1) (ys ++ [y]) (upd H6 a (.lst (ys ++ [y])))
   else H5 a = some (.lst ys) /\ Pv (i + 1) ys H5)
def PFs (X : Cx) (ifs : List Expr) (t : TT) : Prop :=
 ∀ (pins : List (Addr × Obj)) (s : Shared) (σ : St) (H : Hp) (Q : Bool -> Hp -> Prop), Inv X pins σ H s -> t σ H Q ->
  wpAny (model X.prog X.w) X.A (forIn ifs true fun c r => if r = true then do let ok <- isTrue c X.env (eval c X.env); pure (ForInStep.yield ok) else pure (ForInStep.yield r)) (TP X pins σ Q) X.xe s
def tNoIf : TT := fun _ H Q => Q true H
theorem pf_nil {X : Cx} : PFs X [] tNoIf := fun pins s σ H Q I h => wpAny_tests_nil ⟨H, I, h⟩
theorem pf_one {X : Cx} {c : Expr} {t : TT} (h : PT X c t) : PFs X [c] t := fun pins s σ H Q I hw => wpAny_tests_one (h pins s σ H Q I hw)
section
variable {X : Cx} {pins : List (Addr × Obj)} {σ : St} {H : Hp} {s : Shared} {N : List Str} {own : Nat} {fr : List Nat} {scope : Scope} {cl : List (Str × Addr)} {elt tg iter : Expr} {ifs : List Expr} {pos : Pos}
 {it : Addr} {fp : List Addr} {tn : Nat -> Heap -> Prop} {J : It} {g : TG} {tf : TT} {te : TE} {Q : VK} {E : Value -> Shared -> Prop}
theorem comp_block {RR : Value -> Addr -> Result -> Shared -> Prop} (hc : X.calm = true) (S : CompScope X.env.scope X.N N own fr scope) (hcl : ∀ x c, cl.lookup x = some c -> X.env.cells.lookup x = some c)
  (hcf : ∀ y ∈ scope.names, y.2 = .free -> ∃ c, cl.lookup y.1 = some c)
  (hg : ∀ C s H, PG (cxComp X N scope cl C fp s H) tg g) (hf : ∀ C s H, PFs (cxComp X N scope cl C fp s H) ifs tf) (he : ∀ C s H, PE (cxComp X N scope cl C fp s H) elt te)
  (I : Inv X pins σ H s) (T : Turn X.prog X.w X.K tg J fp it tn) (st : tn 0 s.heap) (hfp : ∀ b ∈ fp, FpOk X pins H b) (hw : ∀ a, H a = none -> CompW J a own fr g tf te σ H Q)
  (hRR : ∀ a C s' H', Inv X pins σ H' s' -> Q (.ref a) H' -> FpOk X pins H' C -> (∃ m, s'.heap.Ns C m) -> RR (.ref a) C (.ok .next) s') :
  wpAny (model X.prog X.w) X.A (newList []) (fun acc s₃ => wpAny (model X.prog X.w) X.A (newFunctionEnv scope X.env.globals cl [] X.env.qual none .none (some X.env)) (fun cenv s₄ =>
   codeAny (model X.prog X.w) X.A (.compStart (.ListComp elt [⟨tg, iter, ifs, 0⟩] scope pos) 0 (.ref it) acc { cenv with scope := relabel scope X.env }) (RR acc cenv.locals) s₄) E s₃) E s := by
 refine wpAny_newObj_type (wpAny_newFunctionEnv S.nocell (by intro y hy; simp at hy) (fun h₁ hns₁ hsb₁ => ?_) S.kind)
 dsimp only at hns₁ hsb₁ ⊢
 have I3 : Inv X pins σ (upd H s.heap.objs.size (.lst [])) { s with heap := s.heap.push { cls := .type "list", dict := none, data := .seq ([] : List Value).toArray } } := I.lnew (ys := []) (t' := s.toks) .nil (Nat.zero_le _)
 have hfo : ∀ b ∈ fp, ∃ o, s.heap.get? b = some o := fun b hb => let ⟨o, ho, _⟩ := T.obj _ _ st b hb; ⟨o, ho⟩
 have hlt : ∀ b ∈ fp, b < s.heap.objs.size := fun b hb => let ⟨o, ho⟩ := hfo b hb; Heap.lt_size ho
 have fp3 : ∀ b ∈ fp, FpOk X pins (upd H s.heap.objs.size (.lst [])) b := fun b hb => ⟨by rw [upd_ne (Nat.ne_of_lt (hlt b hb))]; exact (hfp b hb).1, (hfp b hb).2⟩
 obtain ⟨n0, W, w0, turn⟩ := hw s.heap.objs.size I.fresh
 generalize hs3 : ({ s with heap := s.heap.push { cls := .type "list", dict := none, data := .seq ([] : List Value).toArray } } : Shared) = s3 at I3
 have eh : s3.heap = s.heap.push { cls := .type "list", dict := none, data := .seq ([] : List Value).toArray } := by rw [<- hs3]
 rw [<- eh] at hns₁ hsb₁ ⊢
 have hk : ∀ b o, s3.heap.get? b = some o -> h₁.get? b = some o := fun b o e => hsb₁.extBut b o (Nat.ne_of_lt (Heap.lt_size e)) (Heap.get?_push_of_some _ e)
 have hk0 : ∀ b o, s.heap.get? b = some o -> s3.heap.get? b = some o := fun b o e => by rw [eh]; exact Heap.get?_push_of_some _ e
 have J0 : Inv (cxComp X N scope cl s3.heap.objs.size fp s3 (upd H s.heap.objs.size (.lst []))) [] (σc own fr σ) (upd H s.heap.objs.size (.lst [])) { s3 with heap := h₁ } :=
  inv_comp I3 S hcl hcf fp3 (fun b hb => let ⟨o, ho⟩ := hfo b hb; ⟨o, hk0 b o ho⟩) hns₁ hk
 have st0 : tn 0 h₁ := T.keep _ _ _ st fun b _ o e => hk b o (hk0 b o e)
 have stat : ∀ {H' : Hp}, (∀ b ∈ fp, H' b = none) -> ∀ b ∈ fp, FpOk (cxComp X N scope cl s3.heap.objs.size fp s3 (upd H s.heap.objs.size (.lst []))) [] H' b := fun hn b hb =>
  ⟨hn b hb, (J0.ok.exf b hb).1, J0.ok.exfs b hb, .inl hb, (J0.ok.exf b hb).2, fun p hp => absurd (show p ∈ ([] : List (Addr × Obj)) from hp) (by simp)⟩
 have loop : ∀ s4 : Shared, s4 = { s3 with heap := h₁ } -> codeAny (model X.prog X.w) X.A (.compLoop (.ListComp elt [⟨tg, iter, ifs, 0⟩] scope pos) 0 (.ref it) (.ref s.heap.objs.size) (compEnvC scope cl s3.heap.objs.size X.env))
   (RR (.ref s.heap.objs.size) s3.heap.objs.size) s4 := by
  rintro s4 rfl
  refine compLoop_any (fun n s' => ∃ i ow H' ys, Inv (cxComp X N scope cl s3.heap.objs.size fp s3 (upd H s.heap.objs.size (.lst []))) [] (ow ++ σf fr σ) H' s' /\ ow.length = own /\ tn i s'.heap /\ (∀ b ∈ fp, H' b = none) /\ H' s.heap.objs.size = some (.lst ys) /\ (n = n0 - i /\ i <= n0) /\ W i ys H') ?_ n0
   ⟨0, List.replicate own none, _, [], J0, by simp, st0, fun b hb => (fp3 b hb).1, upd_same, ⟨rfl, Nat.zero_le _⟩, w0⟩
  rintro n s5 ⟨i, ow, H5, ys, I5, hlo, st5, fr5, ha5, ⟨rfl, hi5⟩, w5⟩
  rcases turn i ys H5 hi5 ha5 w5 with ⟨stop, qn⟩ | ⟨hin, go, step⟩
  ·refine thn (T.done (cxComp X N scope cl s3.heap.objs.size fp s3 (upd H s.heap.objs.size (.lst []))) rfl rfl rfl hc i [] s5 _ H5 (fun _ _ => False) I5 (stat fr5) st5 stop) fun r s6 ⟨hr, I6⟩ => ?_
   subst hr
   have IX : Inv X pins σ H5 s6 := I3.call' I6.os I6.base I6.hok I6.bare fun b hb => let ⟨_, f2, _, f4, f5, f6⟩ := fp3 b hb; ⟨f4, f2, f5, f6⟩
   refine hRR _ _ s6 H5 IX qn (I3.fpOk (Nat.le_refl _) I6.free) ?_
   obtain ⟨m, hn, _⟩ := I6.loc
   exact ⟨m, hn⟩
  ·refine thn (T.item (cxComp X N scope cl s3.heap.objs.size fp s3 (upd H s.heap.objs.size (.lst []))) rfl rfl rfl hc i [] s5 _ H5 (fun _ _ => False) I5 (stat fr5) st5 go) fun r s6 ⟨u, hr, h6⟩ => ?_
   subst hr
   refine thn h6 fun _ s7 ⟨x, H7, I7, r7, y7, st7, fr7⟩ => ?_
   have I7' := (I7.pinned (stat fr7) (T.obj _ _ st7)).weak (σ' := σc own fr σ) (by unfold σc; simp [hlo]) (fun j v e => by
    unfold σc at e
    rcases Nat.lt_or_ge j own with z | z
    ·rw [List.getElem?_append_left (by simpa using z), List.getElem?_replicate] at e
     split at e <;> cases e
    ·rw [List.getElem?_append_right (by simpa using z)] at e
     rw [List.getElem?_append_right (by rw [hlo]; exact z), hlo]
     simpa using e)
   refine thn (hg _ _ _ _ s7 _ H7 x u _ I7' r7 (step x H7 y7)) fun _ s8 ⟨σ8, H8, I8, ⟨ow8, hl8, e8⟩, q8⟩ => ?_
   refine thn (hf _ _ _ _ s8 _ H8 _ I8 q8) fun ok s9 ⟨H9, I9, q9⟩ => ?_
   have again : ∀ {H' : Hp} {s' : Shared}, Inv (cxComp X N scope cl s3.heap.objs.size fp s3 (upd H s.heap.objs.size (.lst []))) ([] ++ pinsAt fp s7.heap) σ8 H' s' -> ∀ {ys' : List V}, H' s.heap.objs.size = some (.lst ys') -> W (i + 1) ys' H' ->
     ∃ m, m < n0 - i /\ ∃ i ow H' ys, Inv (cxComp X N scope cl s3.heap.objs.size fp s3 (upd H s.heap.objs.size (.lst []))) [] (ow ++ σf fr σ) H' s' /\ ow.length = own /\ tn i s'.heap /\ (∀ b ∈ fp, H' b = none) /\ H' s.heap.objs.size = some (.lst ys) /\ (m = n0 - i /\ i <= n0) /\ W i ys H' := fun {H' s'} I' {ys'} ha hw' => by
    refine ⟨n0 - (i + 1), by omega, i + 1, ow8, H', ys', e8 ▸ I'.unpinned, hl8, T.keep _ _ _ st7 fun b hb o e => (I'.pin (b, o) (List.mem_append_right _ (List.mem_append_right _ (mem_pinsAt hb e)))).1, fun b hb => ?_, ha, ⟨rfl, hin⟩, hw'⟩
    obtain ⟨o, e, _⟩ := T.obj _ _ st7 b hb
    exact (I'.pin (b, o) (List.mem_append_right _ (List.mem_append_right _ (mem_pinsAt hb e)))).2.1
   cases ok with
   | false =>
    have q9' : H9 s.heap.objs.size = some (.lst ys) /\ W (i + 1) ys H9 := by simpa using q9
    obtain ⟨ha, hw'⟩ := q9'
    show if false = true then _ else _
    rw [if_neg (by decide)]
    exact again I9 ha hw'
   | true =>
    rw [if_pos rfl] at q9
    show if true = true then _ else _
    rw [if_pos rfl]
    refine thn (he _ _ _ _ s9 _ H9 _ I9 q9) fun y s10 ⟨v10, H10, I10, r10, ha10, hz10, hw'⟩ => ?_
    refine thn (mt_append _ s10 _ H10 (.ref s.heap.objs.size) [v10] (.ref s.heap.objs.size) [y] (fun _ H' => H' = upd H10 s.heap.objs.size (.lst (ys ++ [v10]))) I10 rfl (.cons r10 .nil) ⟨_, ys, v10, rfl, rfl, ha10, hz10, rfl⟩) fun _ s11 ⟨_, H11, I11, _, e11⟩ => ?_
    subst e11
    exact again I11 upd_same hw'
 exact codeAny_compStart_list (loop _ (by rw [<- hs3]; rfl)) (T.self X.A 0 _ _ _ st0 (loop _ (by rw [<- hs3]; rfl)))
end
def tComp (own : Nat) (fr : List Nat) (wi : TI) (g : TG) (tf : TT) (te : TE) : TE := fun σ H Q => wi σ H fun J H1 => ∀ a, H1 a = none -> CompW J a own fr g tf te σ H1 Q
section
variable {X : Cx} {sc : Scope} {XN N : List Str} {own : Nat} {fr : List Nat} {scope : Scope} {elt tg iter : Expr} {ifs : List Expr} {pos : Pos} {wi : TI} {g : TG} {tf : TT} {te : TE}
theorem pe_comp (hc : X.calm = true) (S : CompScope sc XN N own fr scope) (hi : PI X tg iter wi)
  (hg : ∀ cl C fp s H, PG (cxComp X N scope cl C fp s H) tg g) (hf : ∀ cl C fp s H, PFs (cxComp X N scope cl C fp s H) ifs tf) (he : ∀ cl C fp s H, PE (cxComp X N scope cl C fp s H) elt te)
  (hs : ∀ x, foldedSetIterable iter X.env x = pure x := by intro _; rfl) (hsc : X.env.scope = sc := by rfl) (hxn : X.N = XN := by rfl) : PE X (.ListComp elt [⟨tg, iter, ifs, 0⟩] scope pos) (tComp own fr wi g tf te) := by
 subst hsc hxn
 intro pins s σ H Q I h
 obtain ⟨cl, c1, c2, c3⟩ := closure_ok (scope := scope) (env := X.env) fun y hy e => I.ok.has y.1 (S.free y hy e)
 rw [eval_ListComp]
 refine wpAny_comprehension_free (use := none) rfl hs c1 S.kind S.loc (thn (hi pins s σ H _ I h) fun xv s1 h1 => thn h1 fun itv s2 h2 => ?_)
 obtain ⟨it, fp, tn, J, H2, e, I2, T, st2, f2, hw⟩ := h2
 subst e
 refine comp_block hc S c2 c3 (fun C s H => hg cl C fp s H) (fun C s H => hf cl C fp s H) (fun C s H => he cl C fp s H) I2 T st2 f2 hw fun a C s' H' I' q fC ⟨m, hn⟩ => ?_
 refine ⟨m, hn, fun h' hs' => ?_⟩
 obtain ⟨f0, f1, _, f3, f4, f5⟩ := fC
 exact ⟨.ref a, H', I'.turned (t' := s'.toks) (fun b o hb e => hs'.extBut b o hb e) f0 f1 f3 f4 f5, rfl, q⟩
theorem ps_setc {i : Nat} {x : Str} {pos' spos : Pos} (hc : X.calm = true) (hN : X.N.Nodup) (hx : X.N[i]? = some x) (hl : Loc X.env.scope x) (S : CompScope sc XN N own fr scope) (hi : PI X tg iter wi)
  (hg : ∀ cl C fp s H, PG (cxComp X N scope cl C fp s H) tg g) (hf : ∀ cl C fp s H, PFs (cxComp X N scope cl C fp s H) ifs tf) (he : ∀ cl C fp s H, PE (cxComp X N scope cl C fp s H) elt te)
  (hsw : swapsWith (.ListComp elt [⟨tg, iter, ifs, 0⟩] scope pos) (some (.Name x pos')) spos.line X.env = pure true := by rfl)
  (hf' : X.fn x = true \/ X.env.scope.names.lookup x = some .local := by first | exact .inl rfl | exact .inr rfl | assumption)
  (hs : ∀ x, foldedSetIterable iter X.env x = pure x := by intro _; rfl) (hsc : X.env.scope = sc := by rfl) (hxn : X.N = XN := by rfl) : PS X (.Assign [.Name x pos'] (.ListComp elt [⟨tg, iter, ifs, 0⟩] scope pos) spos) (tAsg (tComp own fr wi g tf te) (gName i)) := by
 subst hsc hxn
 intro pins s σ H D I h
 obtain ⟨cl, c1, c2, c3⟩ := closure_ok (scope := scope) (env := X.env) fun y hy e => I.ok.has y.1 (S.free y hy e)
 rw [exec_Assign_Name_used _ _ _ _ hsw]
 refine wpAny_bind (wpAny_standAt (wpAny_bind ?_))
 show wpAny _ X.A (do let _ <- comprehension (.ListComp elt [⟨tg, iter, ifs, 0⟩] scope pos) scope X.env _ (newList []) false (eval iter X.env) (some (assign (.Name x pos') X.env))) _ _ s
 refine wpAny_bind (wpAny_mono (wpAny_comprehension_free (use := some (assign (.Name x pos') X.env)) (Q := fun _ s' => SP X pins D .next s') rfl hs c1 S.kind S.loc
  (thn (hi pins s σ H _ I h) fun xv s1 h1 => thn h1 fun itv s2 h2 => ?_)) (fun _ s' hq => wpAny_pure (wpAny_pure hq)) fun _ _ e => e)
 obtain ⟨it, fp, tn, J, H2, e, I2, T, st2, f2, hw⟩ := h2
 subst e
 refine comp_block hc S c2 c3 (fun C s H => hg cl C fp s H) (fun C s H => hf cl C fp s H) (fun C s H => he cl C fp s H) I2 T st2 f2 hw fun a C s' H' I' q fC ⟨m, hn⟩ => ?_
 obtain ⟨f0, f1, f2', f3, f4, f5⟩ := fC
 show wpAny _ _ (assign (.Name x pos') X.env (.ref a)) _ _ _
 refine wpAny_assign_Name (store_ok2 I' hN hx hl (show RelV (.ref a) (.ref a) from rfl) (fun s2 J2 ⟨b, hb, hb'⟩ => ?_) hf')
 have hbC : C ≠ b := by
  rcases hb' with z | z
  ·rw [z]; exact f1
  ·exact fun e => f4 _ _ z e.symm
 refine ⟨m, hn.sameBut hb hbC, fun h' hs' => ?_⟩
 exact ⟨_, H', J2.turned (t' := s2.toks) (fun b o hb e => hs'.extBut b o hb e) f0 f1 f3 f4 f5, q⟩
end
end L2
namespace L2
open PySem PySem.Spec PyProof.Rows
section
variable {X : Cx}
def TyV (K : PySem.W.Frag) (T : String) (x : V) (H : Hp) (b : Bool) : Prop := match x with
 | .non => b = false
 | .bl _ => b = (T == "bool" || T == "int")
 | .int _ => b = (T == "int")
 | .str _ => b = (T == "str")
 | .ref a => (∃ xs, SqL K H a xs /\ b = (T == "list")) \/ (∃ xs, SqT K H a xs /\ b = (T == "tuple")) \/ (∃ kvs, Rd H a (.dK kvs) /\ b = (T == "dict"))
 | _ => False
theorem isi_none {prog : Program} {w : World} {A : Around} {E : Value -> Shared -> Prop} {s : Shared} {Q : Value -> Shared -> Prop} {T : String} (hne : (Value.type "NoneType" == Value.type T) = false) (hty : typeOf (.type T) = pure (.type "type"))
  (hsub : isSubtype (.type "NoneType") (.type T) = pure false) (h : Q (.bool false) { s with toks := s.toks + 1 }) : wpAny (model prog w) A (call (.builtin "isinstance") [.none, .type T]) Q E s :=
 call_isinstance (S := fun _ R s => R (.ok (.ret (.bool false))) { s with toks := s.toks + 1 }) (fun _ _ _ _ s hs => by
  obtain ⟨h, g, d, t, os⟩ := s
  exact isinstance_outer (isinstance_nested_false_none hne hty hsub hs)) h
theorem Inv.lcls {pins : List (Addr × Obj)} {σ : St} {H : Hp} {s : Shared} {a : Addr} {xs : List V} (I : Inv X pins σ H s) (h : SqL X.K H a xs) : ∃ o, s.heap.get? a = some o /\ o.cls = .type "list" := by
 obtain ⟨its, r, pl, hz⟩ := I.list h
 obtain ⟨o, ho, hc, _⟩ := pl.isList
 exact ⟨o, ho, hc⟩
theorem Inv.tcls {pins : List (Addr × Obj)} {σ : St} {H : Hp} {s : Shared} {a : Addr} {xs : List V} (I : Inv X pins σ H s) (h : SqT X.K H a xs) : ∃ o, s.heap.get? a = some o /\ o.cls = .type "tuple" := by
 obtain ⟨its, r, ⟨o, ho, hc, _⟩, hz⟩ := I.tuple h
 exact ⟨o, ho, hc⟩
theorem Inv.dcls {pins : List (Addr × Obj)} {σ : St} {H : Hp} {s : Shared} {a : Addr} {kvs : List (Key × V)} (I : Inv X pins σ H s) (h : Rd H a (.dK kvs)) : ∃ o, s.heap.get? a = some o /\ o.cls = .type "dict" := by
 obtain ⟨_, _, vs, _, dd⟩ := h.ok I.hok
 obtain ⟨o, ho, hc⟩ := dd.typeIs
 exact ⟨o, ho, hc⟩
theorem call_isi_int : CallR X (.builtin "isinstance") (fun xs H Q => ∃ x b, xs = [x, .ty "int"] /\ TyV X.K "int" x H b /\ Q (.bl b) H) := by
 intro pins s σ H xs us Q I r h
 obtain ⟨x, b, rfl, hx, q⟩ := h
 obtain ⟨u, w', rfl, rx, ry⟩ := vals2 r
 cases ry
 cases x with
 | non => cases rx; cases hx; exact isi_none (by decide +kernel) F.isi_meta_int F.sub_NoneType_int ⟨.bl _, H, I.tok _, rfl, q⟩
 | bl k => cases rx; cases hx; exact IsiPair.bool_int ⟨.bl _, H, I, rfl, q⟩
 | int i => obtain ⟨t, rfl⟩ := rx; cases hx; exact IsiPair.int_int ⟨.bl _, H, I, rfl, q⟩
 | str i => obtain ⟨t, rfl⟩ := rx; cases hx; exact IsiPair.str_int ⟨.bl _, H, I.tok _, rfl, q⟩
 | ref a =>
  cases rx
  rcases hx with ⟨xs, hx, rfl⟩ | ⟨xs, hx, rfl⟩ | ⟨xs, hx, rfl⟩
  ·obtain ⟨o, ho, hc⟩ := I.lcls hx; exact IsiPair.list_int ho hc ⟨.bl _, H, I.tok _, rfl, q⟩
  ·obtain ⟨o, ho, hc⟩ := I.tcls hx; exact IsiPair.tuple_int ho hc ⟨.bl _, H, I.tok _, rfl, q⟩
  ·obtain ⟨o, ho, hc⟩ := I.dcls hx; exact IsiPair.dict_int ho hc ⟨.bl _, H, I.tok _, rfl, q⟩
 | _ => exact False.elim hx
theorem call_isi_bool : CallR X (.builtin "isinstance") (fun xs H Q => ∃ x b, xs = [x, .ty "bool"] /\ TyV X.K "bool" x H b /\ Q (.bl b) H) := by
 intro pins s σ H xs us Q I r h
 obtain ⟨x, b, rfl, hx, q⟩ := h
 obtain ⟨u, w', rfl, rx, ry⟩ := vals2 r
 cases ry
 cases x with
 | non => cases rx; cases hx; exact isi_none (by decide +kernel) F.isi_meta_bool F.sub_NoneType_bool ⟨.bl _, H, I.tok _, rfl, q⟩
 | bl k => cases rx; cases hx; exact IsiPair.bool_bool ⟨.bl _, H, I, rfl, q⟩
 | int i => obtain ⟨t, rfl⟩ := rx; cases hx; exact IsiPair.int_bool ⟨.bl _, H, I.tok _, rfl, q⟩
 | str i => obtain ⟨t, rfl⟩ := rx; cases hx; exact IsiPair.str_bool ⟨.bl _, H, I.tok _, rfl, q⟩
 | ref a =>
  cases rx
  rcases hx with ⟨xs, hx, rfl⟩ | ⟨xs, hx, rfl⟩ | ⟨xs, hx, rfl⟩
  ·obtain ⟨o, ho, hc⟩ := I.lcls hx; exact IsiPair.list_bool ho hc ⟨.bl _, H, I.tok _, rfl, q⟩
  ·obtain ⟨o, ho, hc⟩ := I.tcls hx; exact IsiPair.tuple_bool ho hc ⟨.bl _, H, I.tok _, rfl, q⟩
  ·obtain ⟨o, ho, hc⟩ := I.dcls hx; exact IsiPair.dict_bool ho hc ⟨.bl _, H, I.tok _, rfl, q⟩
 | _ => exact False.elim hx
theorem call_isi_str : CallR X (.builtin "isinstance") (fun xs H Q => ∃ x b, xs = [x, .ty "str"] /\ TyV X.K "str" x H b /\ Q (.bl b) H) := by
 intro pins s σ H xs us Q I r h
 obtain ⟨x, b, rfl, hx, q⟩ := h
 obtain ⟨u, w', rfl, rx, ry⟩ := vals2 r
 cases ry
 cases x with
 | non => cases rx; cases hx; exact isi_none (by decide +kernel) F.isi_meta_str F.sub_NoneType_str ⟨.bl _, H, I.tok _, rfl, q⟩
 | bl k => cases rx; cases hx; exact IsiPair.bool_str ⟨.bl _, H, I.tok _, rfl, q⟩
 | int i => obtain ⟨t, rfl⟩ := rx; cases hx; exact IsiPair.int_str ⟨.bl _, H, I.tok _, rfl, q⟩
 | str i => obtain ⟨t, rfl⟩ := rx; cases hx; exact IsiPair.str_str ⟨.bl _, H, I, rfl, q⟩
 | ref a =>
  cases rx
  rcases hx with ⟨xs, hx, rfl⟩ | ⟨xs, hx, rfl⟩ | ⟨xs, hx, rfl⟩
  ·obtain ⟨o, ho, hc⟩ := I.lcls hx; exact IsiPair.list_str ho hc ⟨.bl _, H, I.tok _, rfl, q⟩
  ·obtain ⟨o, ho, hc⟩ := I.tcls hx; exact IsiPair.tuple_str ho hc ⟨.bl _, H, I.tok _, rfl, q⟩
  ·obtain ⟨o, ho, hc⟩ := I.dcls hx; exact IsiPair.dict_str ho hc ⟨.bl _, H, I.tok _, rfl, q⟩
 | _ => exact False.elim hx
theorem call_isi_tuple : CallR X (.builtin "isinstance") (fun xs H Q => ∃ x b, xs = [x, .ty "tuple"] /\ TyV X.K "tuple" x H b /\ Q (.bl b) H) := by
 intro pins s σ H xs us Q I r h
 obtain ⟨x, b, rfl, hx, q⟩ := h
 obtain ⟨u, w', rfl, rx, ry⟩ := vals2 r
 cases ry
 cases x with
 | non => cases rx; cases hx; exact isi_none (by decide +kernel) F.isi_meta_tuple F.sub_NoneType_tuple ⟨.bl _, H, I.tok _, rfl, q⟩
 | bl k => cases rx; cases hx; exact IsiPair.bool_tuple ⟨.bl _, H, I.tok _, rfl, q⟩
 | int i => obtain ⟨t, rfl⟩ := rx; cases hx; exact IsiPair.int_tuple ⟨.bl _, H, I.tok _, rfl, q⟩
 | str i => obtain ⟨t, rfl⟩ := rx; cases hx; exact IsiPair.str_tuple ⟨.bl _, H, I.tok _, rfl, q⟩
 | ref a =>
  cases rx
  rcases hx with ⟨xs, hx, rfl⟩ | ⟨xs, hx, rfl⟩ | ⟨xs, hx, rfl⟩
  ·obtain ⟨o, ho, hc⟩ := I.lcls hx; exact IsiPair.list_tuple ho hc ⟨.bl _, H, I.tok _, rfl, q⟩
  ·obtain ⟨o, ho, hc⟩ := I.tcls hx; exact IsiPair.tuple_tuple ho hc ⟨.bl _, H, I, rfl, q⟩
  ·obtain ⟨o, ho, hc⟩ := I.dcls hx; exact IsiPair.dict_tuple ho hc ⟨.bl _, H, I.tok _, rfl, q⟩
 | _ => exact False.elim hx
theorem call_sumL (hc : X.calm = true) : CallR X (.builtin "sum") (fun xs H Q => ∃ (p : Addr) (ns : List Int), xs = [.ref p] /\ SqL X.K H p (ns.map V.int) /\ Q (.int ns.sum) H) := by
 intro pins s σ H xs us Q I r h
 obtain ⟨p, ns, rfl, hq, q⟩ := h
 obtain ⟨u, rfl, rx⟩ := vals1 r
 cases rx
 obtain ⟨its, rv, pl, hz⟩ := I.list hq
 have hi : IntsAre its ns := intsAre_of rv
 have hall := hi.allInts
 have e0 := hi.numsOf
 obtain ⟨xs, ex⟩ := hall.items
 have e1 : numsOf (intItems xs).toList = ns := by rw [<- ex]; exact e0
 rw [nums_intItems] at e1
 have hl := pl.isList
 rw [ex] at hl
 refine sum_intListG (I.ok.hd hc) hl fun h' tk t' hk => ⟨.int ns.sum, H, I.kept hk, ⟨t', ?_⟩, q⟩
 rw [preSum_eq, List.take_of_length_le (by simp), e1]
theorem truth_bools {prog : Program} {w : World} {A : Around} {bs : List Bool} {its : List Value} (rv : Vals (bs.map V.bl) its) : TruthOf prog w A (fun i v => its.toArray[i]? = some v) fun i => bs.getD i false := by
 intro i v s Q E hP hQ
 have hi : its[i]? = some v := by simpa using hP
 have hl := rv.length
 rw [List.length_map] at hl
 have hlt : i < bs.length := by rw [hl]; exact (List.getElem?_eq_some_iff.mp hi).1
 obtain ⟨u, hu, ru⟩ := rv.get (i := i) (x := V.bl (bs.getD i false)) (by rw [List.getElem?_map, List.getD_eq_getElem?_getD, List.getElem?_eq_getElem hlt]; rfl)
 rw [hi] at hu
 cases hu
 cases ru
 exact wpAny_truthy_bool hQ
theorem range_all (bs : List Bool) : (List.range bs.length).all (fun i => bs.getD i false) = bs.all id := by
 induction bs with
 | nil => rfl
 | cons b r ih =>
  rw [List.length_cons, List.range_succ_eq_map, List.all_cons, List.all_cons, List.all_map]
  rw [<- ih]
  rfl
theorem call_allL (hc : X.calm = true) : CallR X (.builtin "all") (fun xs H Q => ∃ (p : Addr) (bs : List Bool), xs = [.ref p] /\ SqL X.K H p (bs.map V.bl) /\ Q (.bl (bs.all id)) H) := by
 intro pins s σ H xs us Q I r h
 obtain ⟨p, bs, rfl, hq, q⟩ := h
 obtain ⟨u, rfl, rx⟩ := vals1 r
 cases rx
 obtain ⟨its, rv, pl, hz⟩ := I.list hq
 have hlt : p < s.heap.objs.size := by obtain ⟨_, e, _⟩ := pl.isList; exact Heap.lt_size e
 have hll := rv.length
 rw [List.length_map] at hll
 refine call_all_walk (wpAny_pyIter_list pl.isList ?_)
 refine ⟨s.heap.objs.size, _, _, _, _, _, fun i => bs.getD i false, rfl, Walks.list (A := X.A.in1) (I.ok.hd hc) _ p (Nat.ne_of_lt hlt) its.toArray, ⟨⟨_, Heap.get?_push_size _ rfl, rfl, rfl⟩, pl.isList.at fun o e => Heap.get?_push_of_some _ e⟩, truth_bools rv, fun h' tk hk => ?_⟩
 refine ⟨.bl (bs.all id), H, I.kept fun b o e => hk b o (by simpa using Nat.ne_of_lt (Heap.lt_size e)) (Heap.get?_push_of_some _ e), ?_, q⟩
 show Value.bool _ = Value.bool _
 rw [List.size_toArray, <- hll, range_all]
def eqVs : List V -> List V -> Bool
 | [], [] => true
 | x :: xs, y :: ys => eqV x y && eqVs xs ys
 | _, _ => false
theorem eqVs_len : ∀ {xs ys : List V}, xs.length ≠ ys.length -> eqVs xs ys = false
 | [], [], h => absurd rfl h
 | [], _ :: _, _ => rfl
 | _ :: _, [], _ => rfl
 | x :: xs, y :: ys, h => by
  have := eqVs_len (xs := xs) (ys := ys) (fun e => h (by simp [e]))
  simp [eqVs, this]
theorem eqVs_range : ∀ {xs ys : List V}, xs.length = ys.length -> (List.range xs.length).all (fun i => eqV (xs.getD i .non) (ys.getD i .non)) = eqVs xs ys
 | [], [], _ => rfl
 | [], _ :: _, h => by simp at h
 | _ :: _, [], h => by simp at h
 | x :: xs, y :: ys, h => by
  have ih := eqVs_range (xs := xs) (ys := ys) (by simpa using h)
  rw [List.length_cons, List.range_succ_eq_map, List.all_cons, List.all_map]
  show (eqV x y && (List.range xs.length).all fun i => eqV (xs.getD i .non) (ys.getD i .non)) = (eqV x y && eqVs xs ys)
  rw [ih]
theorem vals_at {A : Around} {s : Shared} {xs ys : List V} {us ws : List Value} (r : Vals xs us) (r' : Vals ys ws) (fx : xs.all flatV = true) (fy : ys.all flatV = true) (j : Nat) (h1 : j < us.toArray.size) (h2 : j < ws.toArray.size) :
  SeqAt.EqAt A s us.toArray[j] ws.toArray[j] (eqV (xs.getD j .non) (ys.getD j .non)) := by
 have l1 := r.length
 have l2 := r'.length
 have k1 : j < xs.length := by rw [l1]; simpa using h1
 have k2 : j < ys.length := by rw [l2]; simpa using h2
 obtain ⟨u, hu, ru⟩ := r.get (i := j) (x := xs.getD j .non) (by rw [List.getD_eq_getElem?_getD, List.getElem?_eq_getElem k1]; rfl)
 obtain ⟨w', hw, rw'⟩ := r'.get (i := j) (x := ys.getD j .non) (by rw [List.getD_eq_getElem?_getD, List.getElem?_eq_getElem k2]; rfl)
 have e1 : us.toArray[j] = u := by
  obtain ⟨_, e⟩ := List.getElem?_eq_some_iff.mp hu
  simpa using e
 have e2 : ws.toArray[j] = w' := by
  obtain ⟨_, e⟩ := List.getElem?_eq_some_iff.mp hw
  simpa using e
 rw [e1, e2]
 refine eqAt_V ru rw' (List.all_eq_true.mp fx _ ?_) (List.all_eq_true.mp fy _ ?_)
 ·rw [List.getD_eq_getElem?_getD, List.getElem?_eq_getElem k1]; exact List.getElem_mem k1
 ·rw [List.getD_eq_getElem?_getD, List.getElem?_eq_getElem k2]; exact List.getElem_mem k2
def rEqL (K : PySem.W.Frag) (neg : Bool) : R2 := fun x y H Q => ∃ p q xs ys, x = .ref p /\ y = .ref q /\ SqL K H p xs /\ SqL K H q ys /\ xs.all flatV = true /\ ys.all flatV = true /\ Q (.bl (if neg then !eqVs xs ys else eqVs xs ys)) H
theorem op_eqL (hu : X.A.units < cLine) : OpR X (compareOp .Eq) (rEqL X.K false) := by
 intro pins s σ H x y v u Q I rx ry h
 obtain ⟨p, q, xs, ys, rfl, rfl, hx, hy, fx, fy, k⟩ := h
 cases rx
 cases ry
 obtain ⟨us, r1, p1, z1⟩ := I.list hx
 obtain ⟨ws, r2, p2, z2⟩ := I.list hy
 by_cases hl : xs.length = ys.length
 ·refine SeqAt.eq_listAt p1.isList p2.isList (by simp [<- r1.length, <- r2.length, hl]) hu (fun j h1 h2 => vals_at r1 r2 fx fy j h1 h2) ⟨.bl (eqVs xs ys), H, I, ?_, k⟩
  show Value.bool _ = Value.bool _
  rw [List.size_toArray, <- r1.length, eqVs_range hl]
 ·refine SeqAt.eq_list_lengthsAt p1.isList p2.isList (by simp [<- r1.length, <- r2.length, hl]) hu ⟨.bl (eqVs xs ys), H, I, ?_, k⟩
  rw [eqVs_len hl]; rfl
theorem sliceRev (n : Nat) : sliceRange (sliceBounds none none (some (-1)) n).1 (sliceBounds none none (some (-1)) n).2.1 (sliceBounds none none (some (-1)) n).2.2 = (List.range n).map fun k => n - 1 - k := by
 have e : sliceBounds none none (some (-1)) n = ((n : Int) - 1, -1, -1) := by simp [sliceBounds]
 rw [e]
 unfold sliceRange
 simp only [show ¬ ((-1 : Int) > 0) by decide, if_false]
 by_cases hn : n = 0
 ·subst hn; simp
 ·have h1 : (n : Int) - 1 > -1 := by omega
  rw [if_pos h1]
  have h2 : (((n : Int) - 1 - -1 - -1 - 1) / (- -1)).toNat = n := by
   rw [show (n : Int) - 1 - -1 - -1 - 1 = n by omega, show (- -1 : Int) = 1 by decide, Int.ediv_one]
   exact Int.toNat_natCast n
  rw [h2]
  refine List.map_congr_left fun k hk => ?_
  have := List.mem_range.mp hk
  omega
theorem fm_congr {α β : Type} {f g : α -> Option β} : ∀ {l : List α}, (∀ x ∈ l, f x = g x) -> l.filterMap f = l.filterMap g
 | [], _ => rfl
 | x :: r, h => by rw [List.filterMap_cons, List.filterMap_cons, h x List.mem_cons_self, fm_congr fun y hy => h y (List.mem_cons_of_mem _ hy)]
theorem pick_rev' {α : Type} : ∀ zs : List α, (List.range zs.length).filterMap (fun k => zs.reverse[zs.length - 1 - k]?) = zs
 | [] => rfl
 | z :: r => by
  rw [List.length_cons, List.range_succ_eq_map, List.filterMap_cons, List.filterMap_map]
  have h0 : (z :: r).reverse[r.length + 1 - 1 - 0]? = some z := by simp
  rw [h0]
  have h1 : List.filterMap ((fun k => (z :: r).reverse[r.length + 1 - 1 - k]?) ∘ Nat.succ) (List.range r.length) = List.filterMap (fun k => r.reverse[r.length - 1 - k]?) (List.range r.length) := by
   apply fm_congr
   intro k hk
   have hk := List.mem_range.mp hk
   show (z :: r).reverse[r.length + 1 - 1 - (k + 1)]? = r.reverse[r.length - 1 - k]?
   rw [List.reverse_cons, List.getElem?_append_left (by simp; omega)]
   rw [show r.length + 1 - 1 - (k + 1) = r.length - 1 - k by omega]
  rw [h1, pick_rev' r]
theorem pick_rev {α : Type} (xs : List α) : ((List.range xs.length).map fun k => xs.length - 1 - k).filterMap (fun i => xs[i]?) = xs.reverse := by
 have := pick_rev' xs.reverse
 rw [List.length_reverse, List.reverse_reverse] at this
 rw [List.filterMap_map]
 exact this
theorem slicePick_rev (its : List Value) : slicePick its.toArray none none (some (-1)) = its.reverse.toArray := by
 unfold slicePick
 rw [List.size_toArray, sliceRev]
 congr 1
 have := pick_rev its
 simpa using this
def tRev (K : PySem.W.Frag) (te tst : TE) : TE := fun σ H Q => te σ H fun x H1 => tst σ H1 fun y H2 => y = .int (-1) /\ ∃ p xs, x = .ref p /\ SqL K H2 p xs /\ ∀ l, H2 l = none -> Q (.ref l) (upd H2 l (.lst xs.reverse))
theorem pe_rev {e st : Expr} {te tst : TE} {pos p2 : Pos} (he : PE X e te) (hst : PE X st tst) (ht : ∀ o r, letTemporaryGo e o r = pure () := by intro _ _; rfl) : PE X (.Subscript e (.Slice none none (some st) p2) pos) (tRev X.K te tst) := by
 intro pins s σ H Q I h
 refine wpAny_Subscript_Slice_step (T := "list") slot_list_getitem.lookup (thn (he pins s σ H _ I h) fun v s1 ⟨x, H1, I1, r1, q1⟩ => ?_) ht
 refine wpAny_Slice ?_
 rw [evalPart_none, evalPart_some]
 refine wpAny_pure (wpAny_pure (thn (hst pins s1 σ H1 _ I1 q1) fun vs s2 ⟨y, H2, I2, r2, q2⟩ => ?_))
 obtain ⟨rfl, p, xs, rfl, hx, q⟩ := q2
 obtain ⟨t, rfl⟩ := r2
 cases r1
 have I3 : Inv X pins σ H2 { s2 with heap := s2.heap.push { cls := .type "slice", data := .fields #[.none, .none, .int (-1) t] } } := I2.kept (t' := s2.toks) fun b ob q => Heap.get?_push_of_some _ q
 obtain ⟨its, rv, pl, hz⟩ := I3.list hx
 refine ⟨pl.isList.typeIs, ?_⟩
 refine wpAny_getItem_list_slice pl.isList (Heap.IsSliceOf.new ..) .none .none (.int (-1) t) (by decide) ?_ (by rw [List.size_toArray, <- rv.length]; exact hz)
 rw [slicePick_rev]
 refine ⟨.ref _, _, I3.laid (t' := s2.toks) (o := .lst xs.reverse) (fun b ob q => Heap.get?_push_of_some _ q) (Nat.le_refl _) ?_, rfl, q _ (I3.hok.fresh (Nat.le_refl _))⟩
 exact ⟨by rw [List.length_reverse]; exact hz, _, 0, rv.reverse, Heap.get?_push_size _ rfl⟩
theorem op_isnotB : OpR X (compareOp .IsNot) (fun x y H Q => ∃ b, y = .bl b /\ Q (.bl (!decide (x = .bl b))) H) := by
 intro pins s σ H x y v u Q I rx ry h
 obtain ⟨b, rfl, q⟩ := h
 cases ry
 cases x with
 | non => cases rx; exact wpAny_isNot_plain rfl ⟨.bl _, H, I, (by simp [RelV]), q⟩
 | bl k => cases rx; exact wpAny_isNot_plain rfl ⟨.bl _, H, I, (by cases k <;> cases b <;> rfl), q⟩
 | int i => obtain ⟨t, rfl⟩ := rx; exact wpAny_isNot_plain rfl ⟨.bl _, H, I, (by simp [RelV]), q⟩
 | str i => obtain ⟨t, rfl⟩ := rx; exact wpAny_isNot_plain rfl ⟨.bl _, H, I, (by simp [RelV]), q⟩
 | byt i => obtain ⟨t, rfl⟩ := rx; exact wpAny_isNot_plain rfl ⟨.bl _, H, I, (by simp [RelV]), q⟩
 | flt i => obtain ⟨t, rfl⟩ := rx; exact wpAny_isNot_plain rfl ⟨.bl _, H, I, (by simp [RelV]), q⟩
 | ref i => cases rx; exact wpAny_isNot_plain rfl ⟨.bl _, H, I, (by simp [RelV]), q⟩
 | ty i => cases rx; exact wpAny_isNot_plain rfl ⟨.bl _, H, I, (by simp [RelV]), q⟩
def BigOk (j : Int) : Prop := j.natAbs < 2 ^ 1024
theorem BigOk.log {j : Int} (h : BigOk j) : j.natAbs.log2 < 9000 := by
 by_cases h0 : j.natAbs = 0
 ·rw [h0]; decide +kernel
 ·have : j.natAbs.log2 < 1024 := (Nat.log2_lt h0).mpr h
  omega
theorem op_mulB : OpR X (binaryOp .Mult) (rI (fun i j => BigOk i /\ BigOk j) fun i j => .int (i * j)) := opI fun i j _ _ _ _ _ hc q => by
 have bits : ∀ {x : Int}, BigOk x -> Builtin.Int.intBits x <= 2 ^ 20 := fun {x} h => by
  unfold Builtin.Int.intBits
  split
  ·exact Nat.zero_le _
  ·rename_i h0
   have h0' : x.natAbs ≠ 0 := fun z => h0 (by simpa using z)
   have : x.natAbs.log2 < 1024 := (Nat.log2_lt h0').mpr h
   omega
 exact mul_int q (.of_bits (bits hc.1) (bits hc.2))
theorem op_fdivL : OpR X (binaryOp .FloorDiv) (rI (fun _ j => 0 < j /\ BigOk j) fun i j => .int (i / j)) := opI fun i j _ _ _ _ _ hc q => by
 have h1 : (0 : Int) < j := hc.1
 exact floordiv_int (by omega) (by rw [Int.fdiv_eq_ediv_of_nonneg i (by omega)]; exact q) (.inl (PyProof.noPylong_of_log2 hc.2.log))
end
end L2
namespace L2
open PySem PySem.Spec PyProof.Rows
def isStar : Expr -> Bool
 | .Starred .. => true
 | _ => false
theorem star_cons {e : Expr} {rest : List Expr} {env : Env} (h : isStar e = false) : starEach (e :: rest) env = (false, eval e env) :: starEach rest env := by
 cases e <;> first | rfl | exact Bool.noConfusion h
theorem pa_c {X : Cx} {e : Expr} {es : List Expr} {te : TE} {t : TA} (ha : PE X e te) (hr : PA X es t) (h : isStar e = false := by rfl) : PA X (e :: es) (tCons te t) := pa_cons ha hr (star_cons h)
def Good (P : Program) (w : World) (K : PySem.W.Frag) (mg : Str -> Option Value) (base : Heap) (k : Nat) (x : Str) (ps : List Str) (sp : Sp) : Prop :=
 ∃ (f : Addr) (fd : FuncData), FnOk P w K mg base CX0 k f fd ps sp /\ Binds K fd ps [] /\ mg x = some (.ref f) /\ PySem.W.keepIn K (.ref f) = true
section
variable {X : Cx} {k : Nat} {x : Str} {ps : List Str} {sp : Sp} {e : Expr} {es : List Expr} {t : TA} {p pos : Pos}
theorem pe_fn (G : Good X.prog X.w X.K X.mg X.base k x ps sp) (hr : Room k X.A) (hg : Gl X x) (ha : PA X (e :: es) t) (hdb : (x == ("__debug__" : Str)) = false := by decide)
  (hst : isStar e = false := by rfl) (hpl : (backTo pos (starEach es X.env)).any (·.1) = false := by rfl) : PE X (.Call (.Name x p) (e :: es) [] pos) (tCall sp [] E0 t) := by
 obtain ⟨f, fd, F, b, m, kp⟩ := G
 exact pe_call F hr hg m kp b .nil pass0 ha hdb (star_cons hst) hpl
theorem pe_fn0 (G : Good X.prog X.w X.K X.mg X.base k x ps sp) (hr : Room k X.A) (hg : Gl X x) (hdb : (x == ("__debug__" : Str)) = false := by decide) : PE X (.Call (.Name x p) [] [] pos) (tCall sp [] E0 tNil) := by
 obtain ⟨f, fd, F, b, m, kp⟩ := G
 exact pe_call0 F hr hg m kp b .nil pass0 hdb
end
def Has (K : PySem.W.Frag) (mg : Str -> Option Value) (x : Str) (st : Stmt) : Prop := ∃ (f : Addr) (fd : FuncData), Fun K x x st f fd /\ mg x = some (.ref f)
theorem Has.good {P : Program} {w : World} {K : PySem.W.Frag} {mg : Str -> Option Value} {base : Heap} {x : Str} {st : Stmt} {N ps : List Str} {k : Nat} {sp : Sp} (h : Has K mg x st) (S : FnScope N ps (defScope st))
  (hb : ∀ (kV doc pm : Value) (an : Option Addr) (cdv ct : Value) (us : List Value), us.length = ps.length -> bindArgs (PySem.W.fnOf x x (defArgs st) (defBody st) (defScope st) .none kV doc pm an cdv ct) ⟨us, []⟩ = pure (ps.zip us))
  (len : ∀ vs H Q E, sp vs H Q E -> vs.length = ps.length)
  (hbody : ∀ (f : Addr) (cdv : Value) (A : Around) (outer : List Env) (s : Shared) (H : Hp) (vs : List V) (Q : VK) (E : XK), Room k (A.deeper (envOfC x (defScope st) s.heap.objs.size f cdv)) -> sp vs H Q E ->
   ∃ t, PSs (cxOf CX0 P w K mg base N x (defScope st) f cdv A outer s H E).nox (defBody st) t /\ t { nx := fun _ H' => Q .non H', rt := Q } (start N vs) H) : Good P w K mg base (k + 1) x ps sp := by
 obtain ⟨f, fd, F, m⟩ := h
 exact ⟨f, fd, F.ok S len fun cdv A outer s H vs Q E hr q => hbody f cdv A outer s H vs Q E hr q, F.binds hb, m, F.kp⟩
theorem has_mk {K : PySem.W.Frag} {h : Heap} {mg : Str -> Option Value} {x : Str} {st : Stmt} {f : Addr} {oc : Value} {od an : Option Addr} {osl : Array (Option Value)} {kV doc pm cdv ct : Value} (X : K.In h) (G : h.Ns mainGlobals mg)
  (a : PySem.W.nsIn K mainGlobals x = some (some (.ref f))) (l : K.lookup f = some ⟨oc, od, .func (PySem.W.fnOf x x (defArgs st) (defBody st) (defScope st) .none kV doc pm an cdv ct), osl⟩)
  (c : PySem.W.codeIn K cdv x = true) (k : PySem.W.keepIn K (.ref f) = true) : Has K mg x st := ⟨f, _, fun_mk l c k, PySem.W.mg_of X G a⟩
structure Own (mg : Str -> Option Value) : Prop where
 len : mg "len" = none
 range : mg "range" = none
 isinstance : mg "isinstance" = none
 int_ : mg "int" = none
 bool_ : mg "bool" = none
 str_ : mg "str" = none
 list_ : mg "list" = none
 tuple_ : mg "tuple" = none
 dict_ : mg "dict" = none
 sum : mg "sum" = none
 min : mg "min" = none
 max : mg "max" = none
 all : mg "all" = none
 any : mg "any" = none
 abs : mg "abs" = none
 zip : mg "zip" = none
 sorted : mg "sorted" = none
 set_ : mg "set" = none
 enumerate : mg "enumerate" = none
theorem own_mk {K : PySem.W.Frag} {h : Heap} {mg : Str -> Option Value} (X : K.In h) (G : h.Ns mainGlobals mg) (z1 : PySem.W.nsIn K mainGlobals "len" = some none) (z2 : PySem.W.nsIn K mainGlobals "range" = some none)
    (z3 : PySem.W.nsIn K mainGlobals "isinstance" = some none) (z4 : PySem.W.nsIn K mainGlobals "int" = some none) (z5 : PySem.W.nsIn K mainGlobals "bool" = some none) (z6 : PySem.W.nsIn K mainGlobals "str" = some none)
    (z7 : PySem.W.nsIn K mainGlobals "list" = some none) (z8 : PySem.W.nsIn K mainGlobals "tuple" = some none) (z9 : PySem.W.nsIn K mainGlobals "dict" = some none) (z10 : PySem.W.nsIn K mainGlobals "sum" = some none)
    (z11 : PySem.W.nsIn K mainGlobals "min" = some none) (z12 : PySem.W.nsIn K mainGlobals "max" = some none) (z13 : PySem.W.nsIn K mainGlobals "all" = some none) (z14 : PySem.W.nsIn K mainGlobals "any" = some none)
    (z15 : PySem.W.nsIn K mainGlobals "abs" = some none) (z16 : PySem.W.nsIn K mainGlobals "zip" = some none) (z17 : PySem.W.nsIn K mainGlobals "sorted" = some none) (z18 : PySem.W.nsIn K mainGlobals "set" = some none)
    (z19 : PySem.W.nsIn K mainGlobals "enumerate" = some none) : Own mg :=
  ⟨PySem.W.mg_none_of X G z1, PySem.W.mg_none_of X G z2, PySem.W.mg_none_of X G z3, PySem.W.mg_none_of X G z4, PySem.W.mg_none_of X G z5, PySem.W.mg_none_of X G z6, PySem.W.mg_none_of X G z7, PySem.W.mg_none_of X G z8, PySem.W.mg_none_of X G z9, PySem.W.mg_none_of X G z10,
   PySem.W.mg_none_of X G z11, PySem.W.mg_none_of X G z12, PySem.W.mg_none_of X G z13, PySem.W.mg_none_of X G z14, PySem.W.mg_none_of X G z15, PySem.W.mg_none_of X G z16, PySem.W.mg_none_of X G z17, PySem.W.mg_none_of X G z18, PySem.W.mg_none_of X G z19⟩
structure DeckAt (H : Hp) (p c : Addr) : Prop where
 ne : p ≠ c
 dk : ∃ S k : Int, H p = some (.lst [.ref c, .int S, .int k])
 cs : ∃ ns : List Int, H c = some (.lst (ns.map V.int)) /\ ns.length <= 64
structure On (p c : Addr) (H H' : Hp) : Prop where
 d : DeckAt H' p c
 e : ∀ b o, H b = some o -> b ≠ p -> b ≠ c -> H' b = some o
section
variable {p c a : Addr} {H H1 H2 : Hp} {o : HO}
theorem DeckAt.nep (d : DeckAt H p c) (h : H a = none) : a ≠ p := fun z => by
 obtain ⟨S, k, e⟩ := d.dk
 rw [z, e] at h; cases h
theorem DeckAt.nec (d : DeckAt H p c) (h : H a = none) : a ≠ c := fun z => by
 obtain ⟨ns, e, _⟩ := d.cs
 rw [z, e] at h; cases h
theorem DeckAt.alloc (d : DeckAt H p c) (h : H a = none) : DeckAt (upd H a o) p c := by
 obtain ⟨S, k, e⟩ := d.dk
 obtain ⟨ns, e', l⟩ := d.cs
 exact ⟨d.ne, ⟨S, k, by rw [upd_ne (d.nep h).symm]; exact e⟩, ns, by rw [upd_ne (d.nec h).symm]; exact e', l⟩
theorem On.trans (x : On p c H H1) (y : On p c H1 H2) : On p c H H2 := ⟨y.d, fun b o h hp hc => y.e b o (x.e b o h hp hc) hp hc⟩
theorem On.alloc (x : On p c H H1) (h : H1 a = none) : On p c H (upd H1 a o) :=
 ⟨x.d.alloc h, fun b u q hp hc => by rw [upd_ne (ne_of_none (x.e b u q hp hc) h)]; exact x.e b u q hp hc⟩
end
def spMixed : Sp := fun vs H Q _ => ∃ n k : Int, vs = [.int n, .int k] /\ ∀ r : Int, Q (.int r) H
def spDeck (K : PySem.W.Frag) : Sp := fun vs H Q _ => ∃ (a : Addr) (ns : List Int), vs = [.ref a] /\ SqL K H a (ns.map V.int) /\ ∀ (p c : Addr) (H' : Hp), H p = none -> H c = none -> DeckAt H' p c -> Same H H' -> Q (.ref p) H'
def spTake : Sp := fun vs H Q _ => ∃ (p c : Addr) (m : Int), vs = [.ref p, .int m] /\ DeckAt H p c /\ 0 < m /\ BigOk m /\ ∀ (r : Int) (H' : Hp), 0 <= r -> r < m -> On p c H H' -> Q (.int r) H'
end L2
namespace L2
open PySem PySem.Spec PyProof.Rows
theorem ObjOk.there {P : Program} {w : World} {H : Hp} {h : Heap} {a : Addr} {o : HO} (x : ObjOk P w H h a o) : ∃ ob, h.get? a = some ob := by
 cases o with
 | lst xs => obtain ⟨_, _, _, _, e⟩ := x; exact ⟨_, e⟩
 | tup xs => obtain ⟨_, _, _, ob, e, _⟩ := x; exact ⟨_, e⟩
 | dK kvs => obtain ⟨_, _, _, _, o, _, _, e, _⟩ := x; exact ⟨_, e⟩
 | dT kvs => obtain ⟨_, _, _, _, o, _, _, e, _⟩ := x; exact ⟨_, e⟩
 | set S n => obtain ⟨o, _, _, _, e, _⟩ := x; exact ⟨_, e⟩
 | ins C dx fs => obtain ⟨_, _, _, e, _⟩ := x; exact ⟨_, e⟩
 | own y => obtain ⟨_, e⟩ := x; exact ⟨_, e⟩
 | xd fs => obtain ⟨_, ⟨_, _, _, e, _⟩, _⟩ := x; exact ⟨_, e⟩
 | rng lo hi => obtain ⟨_, _, _, e⟩ := x; exact ⟨_, e⟩
 | frz ob u => obtain ⟨e, _⟩ := x; exact ⟨_, e⟩
 | tbl ps => exact ⟨_, (show h.get? a = some _ from x)⟩
 | met f y => exact ⟨_, (show h.get? a = some _ from x)⟩
 | ext φ => obtain ⟨_, ⟨_, e⟩, _⟩ := x; exact ⟨_, e⟩
end L2
namespace L2
open PySem PySem.Spec PyProof.Rows
section
variable {X : Cx}
theorem same_new {H : Hp} {a : Addr} {o : HO} (h : H a = none) : Same H (upd H a o) := fun b u q => by rw [upd_ne (ne_of_none q h)]; exact q
def rCatG (K : PySem.W.Frag) : R2 := fun x y H Q => ∃ a b xs ys, x = .ref a /\ y = .ref b /\ SqT K H a xs /\ SqT K H b ys /\ xs.length + ys.length <= sizeLine /\ ∀ r H', SqT K H' r (xs ++ ys) -> Same H H' -> Q (.ref r) H'
theorem op_catG : OpR X (binaryOp .Add) (rCatG X.K) := by
 intro pins s σ H x y v u Q I rx ry h
 obtain ⟨a, b, xs, ys, rfl, rfl, ha, hb, hz, q⟩ := h
 by_cases hx : xs = []
 ·subst hx
  cases rx
  cases ry
  obtain ⟨its, r1, p1, _⟩ := I.tuple ha
  obtain ⟨its2, r2, p2, _⟩ := I.tuple hb
  obtain ⟨⟨cls, dd, data, sl⟩, ho, hc, n, hd⟩ := id p1
  obtain ⟨⟨cls2, dd2, data2, sl2⟩, ho2, hc2, n2, hd2⟩ := id p2
  simp only at hc hd hc2 hd2
  subst hc hd hc2 hd2
  have e1 : its = [] := r1.nil_iff.mpr rfl
  exact concat_meets ⟨_, ho, rfl⟩ ⟨_, ho2, rfl⟩ noFill_tuple_add seq_tuple_add PySem.F.slot_tuple_add PySem.F.entry_tuple_add (PySem.F.args_tuple_add_2 _ _)
   (tuple_addW0 a b its.toArray its2.toArray n n2 dd dd2 sl sl2 (by simp [e1])) ⟨ho, ho2, ⟨.ref b, H, I, rfl, q b H hb (Same.refl H)⟩⟩
 ·refine op_catT pins s σ H (.ref a) (.ref b) v u Q I rx ry ⟨a, b, xs, ys, rfl, rfl, ha, hb, hx, hz, fun e => q a H (by rw [e, List.append_nil]; exact ha) (Same.refl H), fun _ p hp => q p _ (SqT.of upd_same) (same_new hp)⟩
theorem pick_back (its : List Value) : ((List.range its.length).filterMap fun (k : Nat) => its.toArray[(((its.length : Int) - 1) + (k : Int) * (-1)).toNat]?) = its.reverse := by
 have := pick_rev its
 rw [List.filterMap_map] at this
 rw [<- this]
 refine fm_congr fun k hk => ?_
 have hk := List.mem_range.mp hk
 have e : (((its.length : Int) - 1) + (k : Int) * (-1)).toNat = its.length - 1 - k := by omega
 rw [e]
 simp
theorem getItem_tuple_rev {prog : Program} {w : World} {A : Around} {E : Value -> Shared -> Prop} {s : Shared} {t sl : Addr} {its : List Value} {tk : Tok} {Q : Value -> Shared -> Prop} (ht : IsTup s.heap t its.toArray) (hs : s.heap.IsSliceOf sl .none .none (.int (-1) tk))
  (h : Q (.ref s.heap.objs.size) { s with heap := s.heap.push { cls := .type "tuple", data := .seq its.reverse.toArray } }) (hsz : its.length <= sizeLine) : wpAny (model prog w) A (getItem (.ref t) (.ref sl)) Q E s := by
 have htake : sizeOk (.seq its.reverse.toArray) := by
  show its.reverse.toArray.size <= sizeLine
  rw [List.size_toArray, List.length_reverse]
  exact hsz
 obtain ⟨os, hos, hcs, hds⟩ := id hs
 have hTs : s.TypeIs (.ref sl) "slice" := ⟨os, hos, hcs⟩
 unfold getItem
 try with_reducible refine wpAny_holding ?_
 first | refine wpAny_bind (wpAny_pure ?_) | skip
 refine wpAny_bind (wpAny_sequenceKey ht.typeIs (by decide) ?_)
 refine wpAny_bind (wpAny_callSpecial?_slot (name := Str.ofString "__getitem__") ht.typeIs PyProof.Rows.slot_tuple_getitem
  (wpAny_call_entry PyProof.Rows.slot_tuple_getitem ht.typeIs entry_tuple_getitem ?_ (args_tuple_getitem _ _)))
 show wpAny _ _ (Builtin.Tuple.tupleItemsOf (.ref t) >>= _) _ _ s
 refine wpAny_bind (PyProof.Rows.tupleItemsOf_ ht ?_)
 refine wpAny_bind (wpAny_typeOf hTs ?_)
 rw [if_pos (by decide)]
 have happ : ∀ Q' : Int × Int × Nat -> Shared -> Prop, Q' ((its.length : Int) - 1, -1, its.length) s -> wpAny (model prog w) A.in1 (Builtin.Slice.sliceApplied (.ref sl) (pure (its.toArray.size : Int))) Q' (fun e s' => (wants Q E) (.error e) s') s := fun Q' hq => by
  unfold Builtin.Slice.sliceApplied Builtin.Slice.sliceFields
  refine wpAny_bind (wpAny_bind (wpAny_field hos hds (x := .none) rfl (wpAny_bind (wpAny_field hos hds (x := .none) rfl (wpAny_bind (wpAny_field hos hds (x := .int (-1) tk) rfl (wpAny_pure ?_)))))))
  refine wpAny_bind (HT.slicePart_ (.int (-1) tk) ?_)
  show wpAny _ _ (if ((-1 : Int) == 0) = true then _ else _) _ _ s
  rw [if_neg (by decide)]
  refine wpAny_bind (HT.slicePart_ .none (wpAny_bind (HT.slicePart_ .none (wpAny_bind (wpAny_pure ?_)))))
  show wpAny _ _ (match Builtin.Slice.sliceAdjust none none (-1) (its.toArray.size : Int) with | (lo, hi) => pure (lo, (-1 : Int), Builtin.Slice.slicePlaces lo hi (-1))) _ _ s
  have e1 : Builtin.Slice.sliceAdjust none none (-1) (its.toArray.size : Int) = ((its.length : Int) - 1, -1) := by
   unfold Builtin.Slice.sliceAdjust
   simp
  have e2 : Builtin.Slice.slicePlaces ((its.length : Int) - 1) (-1) (-1) = its.length := by
   unfold Builtin.Slice.slicePlaces
   simp only [show ¬ ((-1 : Int) > 0) by decide, if_false, show (- (-1) : Int) = 1 by decide, Int.ediv_one]
   split <;> omega
  rw [e1]
  show wpAny _ _ (pure ((its.length : Int) - 1, (-1 : Int), Builtin.Slice.slicePlaces ((its.length : Int) - 1) (-1) (-1))) _ _ s
  rw [e2]
  exact wpAny_pure hq
 refine wpAny_bind (happ _ ?_)
 have hno : ¬ ((((its.length : Int) - 1) == 0 && (-1 : Int) == 1 && its.length == its.toArray.size) = true) := by
  intro q
  rw [Bool.and_eq_true, Bool.and_eq_true] at q
  exact absurd q.1.2 (by decide)
 show wpAny _ _ (if (((its.length : Int) - 1) == 0 && (-1 : Int) == 1 && its.length == its.toArray.size) = true then _ else _) _ _ s
 rw [if_neg hno, pick_back]
 first
  | exact wpAny_bind (m := Builtin.Tuple.tupleExact _) (wpAny_newObj_type (wpAny_pure ⟨_, rfl, wpAny_pure h⟩) htake)
  | exact wpAny_bind (m := Builtin.Tuple.tupleExact _) (wpAny_newObj_type (wpAny_bind (wpAny_pure (wpAny_pure ⟨_, rfl, wpAny_pure h⟩))) htake)
  | exact wpAny_bind (wpAny_bind (m := Builtin.Tuple.tupleExact _) (wpAny_newObj_type (wpAny_pure (wpAny_pure ⟨_, rfl, wpAny_pure h⟩)) htake))
  | exact wpAny_bind (wpAny_bind (m := Builtin.Tuple.tupleExact _) (wpAny_newObj_type (wpAny_pure ⟨_, rfl, wpAny_pure h⟩) htake))
def tRevT (K : PySem.W.Frag) (te tst : TE) : TE := fun σ H Q => te σ H fun x H1 => tst σ H1 fun y H2 => y = .int (-1) /\ ∃ p xs, x = .ref p /\ SqT K H2 p xs /\ ∀ l, H2 l = none -> Q (.ref l) (upd H2 l (.tup xs.reverse))
theorem pe_revT {e st : Expr} {te tst : TE} {pos p2 : Pos} (he : PE X e te) (hst : PE X st tst) (ht : ∀ o r, letTemporaryGo e o r = pure () := by intro _ _; rfl) : PE X (.Subscript e (.Slice none none (some st) p2) pos) (tRevT X.K te tst) := by
 intro pins s σ H Q I h
 refine wpAny_Subscript_Slice_step (T := "tuple") PyProof.Rows.slot_tuple_getitem.lookup (thn (he pins s σ H _ I h) fun v s1 ⟨x, H1, I1, r1, q1⟩ => ?_) ht
 refine wpAny_Slice ?_
 rw [evalPart_none, evalPart_some]
 refine wpAny_pure (wpAny_pure (thn (hst pins s1 σ H1 _ I1 q1) fun vs s2 ⟨y, H2, I2, r2, q2⟩ => ?_))
 obtain ⟨rfl, p, xs, rfl, hx, q⟩ := q2
 obtain ⟨t, rfl⟩ := r2
 cases r1
 have I3 : Inv X pins σ H2 { s2 with heap := s2.heap.push { cls := .type "slice", data := .fields #[.none, .none, .int (-1) t] } } := I2.kept (t' := s2.toks) fun b ob q => Heap.get?_push_of_some _ q
 obtain ⟨its, rv, pl, hz⟩ := I3.tuple hx
 refine ⟨pl.typeIs, ?_⟩
 refine getItem_tuple_rev pl (Heap.IsSliceOf.new ..) ?_ (by rw [<- rv.length]; exact hz)
 refine ⟨.ref _, _, I3.laid (t' := s2.toks) (o := .tup xs.reverse) (fun b ob q => Heap.get?_push_of_some _ q) (Nat.le_refl _) ?_, rfl, q _ (I3.hok.fresh (Nat.le_refl _))⟩
 exact ⟨by rw [List.length_reverse]; exact hz, _, rv.reverse, IsTup.new _ _⟩
structure QA (X : Cx) (es : List Expr) (t : TA) : Prop where
 p : PA X es t
theorem qa_nil : QA X [] tNil := ⟨pa_nil⟩
theorem qa_c {e : Expr} {es : List Expr} {te : TE} {t : TA} (ha : PE X e te) (hr : QA X es t) (h : isStar e = false := by rfl) : QA X (e :: es) (tCons te t) := ⟨pa_c ha hr.p h⟩
theorem pe_lstQ {es : List Expr} {t : TA} {pos : Pos} (h : QA X es t) : PE X (.List es pos) (tLst t) := pe_lst h.p
theorem Inv.big {pins : List (Addr × Obj)} {σ : St} {H : Hp} {s : Shared} (I : Inv X pins σ H s) : sysModules < s.heap.objs.size := by
 have h : mainGlobals < s.heap.objs.size := (I.mod.glob.keeps I.bk).lt
 exact Nat.lt_trans (by decide) h
theorem dk_empty {P : Program} {w : World} {H : Hp} (h : Heap) (hb : sysModules < h.objs.size) : ObjOk P w H (h.push { cls := .type "dict", data := .dict #[] }) h.objs.size (.dK []) :=
 ⟨Nat.zero_le _, beq_eq_false_iff_ne.mpr (Ne.symm (Nat.ne_of_lt hb)), [], .nil, Heap.DictOf.new h⟩
def tDNewK : TE := fun _ H Q => ∀ p, H p = none -> Q (.ref p) (upd H p (.dK []))
theorem pe_dnewK {pos : Pos} : PE X (.Dict [] [] pos) tDNewK := fun pins s σ H Q I h =>
 wpAny_Dict_empty ⟨.ref s.heap.objs.size, _, I.laid (a := s.heap.objs.size) (o := .dK []) (t' := s.toks) (fun _ _ q => Heap.get?_push_of_some _ q) (Nat.le_refl _) (dk_empty s.heap I.big), rfl, h _ (I.hok.fresh (Nat.le_refl _))⟩
end
end L2
namespace L2
open PySem PySem.Spec PyProof.Rows
section
variable {X : Cx} {pins : List (Addr × Obj)} {σ : St} {H : Hp} {s : Shared} {h' : Heap}
theorem Inv.turnedL {t' : Nat} {ch : List Addr} (I : Inv X pins σ H s) (hf : ∀ b ∈ ch, FpOk X pins H b) (k : ∀ b o, b ∉ ch -> s.heap.get? b = some o -> h'.get? b = some o) : Inv X pins σ H { s with heap := h', toks := t' } := by
 have nit : ∀ b u, H b = some u -> b ∉ ch := fun b u e z => by rw [(hf b z).1] at e; cases e
 refine I.step (g' := s.gens) (d' := s.drawn) (ch := ch) (fun b hb => ?_) (fun b o _ _ hc e _ => k b o hc e) (fun b o _ _ hc e _ => ⟨o.slots, k b o hc e⟩) (fun _ _ _ _ n => n)
  (fun b o hc e => ⟨o, k b o hc e⟩) (fun _ _ e => e) (fun _ _ _ e => e) (fun b ps e => ⟨#[], by rw [e]; simp⟩) (fun m hm => ?_) (fun b u e => ?_) I.bare
 ·obtain ⟨_, f1, _, f3, f4, f5⟩ := hf b hb
  exact ⟨f3, f1, f4, f5⟩
 ·obtain ⟨o, es, ep, ho, r⟩ := hm
  exact ⟨o, es, ep, k _ o (fun z => (hf _ z).2.1 rfl) ho, r⟩
 ·refine (I.hok b u e).stay (fun c v hc q => k c v ?_ q) (fun _ q => q) fun _ _ q => q
  rcases hc with z | z
  ·rw [z]; exact nit b u e
  ·exact nit c _ z
end
section
variable {X : Cx}
theorem call_min1 (hc : X.calm = true) : CallR X (.builtin "min") (fun xs H Q => ∃ (p : Addr) (ns : List Int), xs = [.ref p] /\ SqL X.K H p (ns.map V.int) /\ 0 < ns.length /\ ∀ M, M ∈ ns -> (∀ a ∈ ns, M <= a) -> Q (.int M) H) := by
 intro pins s σ H xs us Q I r h
 obtain ⟨p, ns, rfl, hq, hn, q⟩ := h
 obtain ⟨u, rfl, rx⟩ := vals1 r
 cases rx
 obtain ⟨its, rv, pl, hz⟩ := I.list hq
 have hi : IntsAre its ns := intsAre_of rv
 obtain ⟨zs, ez⟩ := hi.allInts.items
 have en : ns = zs.toList.map (·.1) := by rw [<- hi.numsOf, <- nums_intItems, <- ez]
 have hz0 : 0 < zs.size := by rw [en, List.length_map, Array.length_toList] at hn; exact hn
 have hl := pl.isList
 rw [ez] at hl
 refine min_intList (I.ok.hd hc) hl hz0 fun v h' tk hv hk => ?_
 obtain ⟨t, rfl⟩ := intItems_at hv
 obtain ⟨h1, h2⟩ := argBest_lt (numAt zs) (zs.size - 1)
 refine ⟨.int _, H, I.kept hk, ⟨t, rfl⟩, q _ ?_ fun a ha => ?_⟩
 ·rw [en, numAt_eq]
  exact getD_mem (by rw [List.length_map, Array.length_toList]; omega)
 ·rw [en] at ha
  obtain ⟨j, hj, rfl⟩ := mem_getD ha
  rw [List.length_map, Array.length_toList] at hj
  have := h2 j (by omega)
  rw [numAt_eq zs j] at this
  exact this
end
end L2
namespace L2
open PySem PySem.Spec PyProof.Rows
theorem vals_ofInts {us : List Value} {ns : List Int} (h : IntsAre us ns) : Vals (ns.map V.int) us := by
 induction h with
 | nil => exact .nil
 | cons n t _ ih => exact .cons ⟨t, rfl⟩ ih
section
variable {X : Cx}
theorem call_sortedI : CallR X (.builtin "sorted") (fun xs H Q => ∃ (p : Addr) (ns : List Int), xs = [.ref p] /\ SqL X.K H p (ns.map V.int) /\ ns.length < 64 /\
  ∀ (ns' : List Int) (l : Addr), ns'.Perm ns -> ns'.Pairwise (· <= ·) -> H l = none -> Q (.ref l) (upd H l (.lst (ns'.map V.int)))) := by
 intro pins s σ H xs us Q I r h
 obtain ⟨p, ns, rfl, hq, h64, q⟩ := h
 obtain ⟨u, rfl, rx⟩ := vals1 r
 cases rx
 obtain ⟨its, rv, pl, hz⟩ := I.list hq
 have hi : IntsAre its ns := intsAre_of rv
 have hll := rv.length
 rw [List.length_map] at hll
 refine sorted_ints pl.isList hi (by omega) fun out ns' a1 a2 a3 => ?_
 obtain ⟨e, he⟩ := sortedAll_at s.heap its out
 have hlen := a2.length_eq
 refine ⟨.ref (s.heap.objs.size + 1), _, I.laid (t' := s.toks) (fun b o e => sortedAll_old e) (Nat.le_succ _) (show ObjOk X.prog X.w _ _ _ (.lst (ns'.map V.int)) from ⟨?_, out.toList, e, vals_ofInts a1, he⟩), rfl, q ns' _ a2 a3 (I.hok.fresh (Nat.le_succ _))⟩
 rw [List.length_map, hlen]
 exact Nat.le_of_lt (Nat.lt_trans h64 (by decide))
end
end L2
namespace L2
open PySem PySem.Spec PyProof.Rows
def Its (x : Str) : It := ⟨fun i _ => i < x.cps.size, fun i H v H' => H' = H /\ ∃ c, x.cps[i]? = some c /\ v = .str ⟨#[c]⟩, fun i _ => x.cps.size <= i⟩
theorem turn_strA {P : Program} {w : World} {K : PySem.W.Frag} {tg : Expr} (it : Addr) (x : Str) (t : Tok) : Turn P w K tg (Its x) [it] it (fun i h => h.IsStrIter it "str_ascii_iterator" x t i) where
 mem := by simp
 obj := fun i h st b hb => by
  have e : b = it := by simpa using hb
  subst e
  obtain ⟨o, e, c, d⟩ := st
  exact ⟨o, e, fun v z => by rw [d] at z; cases z⟩
 keep := fun i h h' st k => let ⟨o, ho, r⟩ := st; ⟨o, k it (by simp) o ho, r⟩
 item := by
  intro X hP hw hK hc i pins s σ H E I hf st hg
  subst hP hw hK
  obtain ⟨f0, f1, f2, f3, f4, f5⟩ := hf it (by simp)
  have W := Walks.strAscii (prog := X.prog) (w := X.w) (I.ok.hd hc) it x t
  refine W.item i s _ _ hg st fun v h' tk hv st' kk => ?_
  obtain ⟨c, u, hc', rfl⟩ := hv
  have I1 : Inv X pins σ H { s with heap := h', toks := tk } := I.turned (fun b o hb e => kk b o (by simpa using hb) e) f0 f1 f3 f4 f5
  obtain ⟨o, e, c1, d⟩ := id st'
  exact ⟨_, rfl, go_of (s := { s with heap := h', toks := tk }) e c1 d (by decide) ⟨.str ⟨#[c]⟩, H, I1, ⟨u, rfl⟩, ⟨rfl, c, hc', rfl⟩, st', fun b hb => (hf b hb).1⟩⟩
 done := by
  intro X hP hw hK hc i pins s σ H E I hf st hg
  subst hP hw hK
  obtain ⟨f0, f1, f2, f3, f4, f5⟩ := hf it (by simp)
  exact wpAny_pyNext_ascii_end (I.ok.hd hc) st (by have : x.cps.size <= i := hg; simp; omega) fun h' eb => ⟨rfl, I.turned (t' := s.toks) (fun b o hb e => eb b o hb e) f0 f1 f3 f4 f5⟩
 self := fun _ _ _ _ _ st h => wpAny_pyIter_striter_ascii st h
theorem turn_strW {P : Program} {w : World} {K : PySem.W.Frag} {tg : Expr} (it : Addr) (x : Str) (t : Tok) : Turn P w K tg (Its x) [it] it (fun i h => h.IsStrIter it "str_iterator" x t i) where
 mem := by simp
 obj := fun i h st b hb => by
  have e : b = it := by simpa using hb
  subst e
  obtain ⟨o, e, c, d⟩ := st
  exact ⟨o, e, fun v z => by rw [d] at z; cases z⟩
 keep := fun i h h' st k => let ⟨o, ho, r⟩ := st; ⟨o, k it (by simp) o ho, r⟩
 item := by
  intro X hP hw hK hc i pins s σ H E I hf st hg
  subst hP hw hK
  obtain ⟨f0, f1, f2, f3, f4, f5⟩ := hf it (by simp)
  have W := Walks.strWide (prog := X.prog) (w := X.w) (I.ok.hd hc) it x t
  refine W.item i s _ _ hg st fun v h' tk hv st' kk => ?_
  obtain ⟨c, u, hc', rfl⟩ := hv
  have I1 : Inv X pins σ H { s with heap := h', toks := tk } := I.turned (fun b o hb e => kk b o (by simpa using hb) e) f0 f1 f3 f4 f5
  obtain ⟨o, e, c1, d⟩ := id st'
  exact ⟨_, rfl, go_of (s := { s with heap := h', toks := tk }) e c1 d (by decide) ⟨.str ⟨#[c]⟩, H, I1, ⟨u, rfl⟩, ⟨rfl, c, hc', rfl⟩, st', fun b hb => (hf b hb).1⟩⟩
 done := by
  intro X hP hw hK hc i pins s σ H E I hf st hg
  subst hP hw hK
  obtain ⟨f0, f1, f2, f3, f4, f5⟩ := hf it (by simp)
  exact wpAny_pyNext_wide_end (I.ok.hd hc) st (by have : x.cps.size <= i := hg; simp; omega) fun h' eb => ⟨rfl, I.turned (t' := s.toks) (fun b o hb e => eb b o hb e) f0 f1 f3 f4 f5⟩
 self := fun _ _ _ _ _ st h => wpAny_pyIter_striter_wide st h
section
variable {X : Cx}
def rFind : V -> List V -> Hp -> VK -> Prop := fun x vs H Q => ∃ i j, x = .str i /\ vs = [.str j] /\ ∀ n : Int, Q (.int n) H
theorem mt_find : MtM X "str.find" rFind := by
 intro pins s σ H x vs v us Q I rx rv h
 obtain ⟨i, j, rfl, rfl, q⟩ := h
 obtain ⟨t, rfl⟩ := rx
 obtain ⟨u, rfl, t', rfl⟩ := rv.one
 exact call_gives F.slot_str_find (typeIs_str _ _ _) F.entry_str_find (F.args_str_find_2 _ _) (gives_str_find i j t t') ⟨.int _, H, I.tok _, ⟨_, rfl⟩, q _⟩
end
def KD (prm : Params) : List DictEntry -> List (Str × Str) -> Prop
 | [], [] => True
 | e :: es, kv :: kvs => e.hash = PyData.keyHash prm kv.1 /\ (∃ t, e.key = .str kv.1 t) /\ (∃ t, e.val = .str kv.2 t) /\ KD prm es kvs
 | _, _ => False
structure KDict (K : PySem.W.Frag) (prm : Params) (d : Addr) (kvs : List (Str × Str)) : Prop where
 obj : ∃ (es : Array DictEntry) (ep : Nat), K.lookup d = some ⟨.type "dict", none, .dict es ep, #[]⟩ /\ KD prm es.toList kvs
 nd : (kvs.map (·.1)).Nodup
def getS (kvs : List (Str × Str)) (x : Str) : Option Str := (kvs.find? fun kv => kv.1 = x).map (·.2)
theorem KD.keys {P : Program} {w : World} : ∀ {es : List DictEntry} {kvs : List (Str × Str)}, KD w.params es kvs -> ∀ e ∈ es, ∃ k, (mixKind P w).is k e.key = true /\ e.hash = (mixKind P w).hash k
 | [], [], _, e, he => nomatch he
 | a :: es, kv :: kvs, ⟨h1, ⟨t, h2⟩, _, h4⟩, e, he => by
  rcases List.mem_cons.mp he with z | z
  ·subst z
   exact ⟨.inr kv.1, by rw [h2]; exact mixKind_str P w kv.1 t, by rw [h1]; rfl⟩
  ·exact KD.keys h4 e z
theorem KD.pairs {P : Program} {w : World} : ∀ {es : List DictEntry} {kvs : List (Str × Str)}, KD w.params es kvs -> ∃ vs : List (Key × Value), Pairs (mixKind P w) es vs /\ vs.map (·.1) = kvs.map (fun kv => Sum.inr kv.1) /\
  ∀ x y, getS kvs x = some y -> ∃ t, valueAt vs (.inr x) = some (.str y t)
 | [], [], _ => ⟨[], .nil, rfl, fun x y h => nomatch h⟩
 | a :: es, kv :: kvs, ⟨h1, ⟨t, h2⟩, ⟨t', h3⟩, h4⟩ => by
  obtain ⟨vs, p, m, g⟩ := KD.pairs (P := P) h4
  refine ⟨(.inr kv.1, .str kv.2 t') :: vs, .cons (by rw [h2]; exact mixKind_str P w kv.1 t) h3 p, by simp [m], fun x y h => ?_⟩
  by_cases e : kv.1 = x
  ·subst e
   have : kv.2 = y := by simpa [getS] using h
   subst this
   exact ⟨t', by simp [valueAt]⟩
  ·have h' : getS kvs x = some y := by simpa [getS, e] using h
   obtain ⟨t'', h''⟩ := g x y h'
   exact ⟨t'', by
    have : (Sum.inr kv.1 : Key) ≠ .inr x := fun z => e (Sum.inr.inj z)
    simpa [valueAt, this] using h''⟩
section
variable {X : Cx}
def rKD (d : Addr) (kvs : List (Str × Str)) : R2 := fun x y H Q => ∃ i j, x = .ref d /\ y = .str i /\ getS kvs i = some j /\ Q (.str j) H
theorem ix_kd {d : Addr} {kvs : List (Str × Str)} (D : KDict X.K X.w.params d kvs) : IxR X (rKD d kvs) := by
 intro value slice pins s σ H x y v u Q I rx ry h hs
 obtain ⟨i, j, rfl, rfl, hg, q⟩ := h
 cases rx
 obtain ⟨t, rfl⟩ := ry
 obtain ⟨es, ep, lk, kd⟩ := D.obj
 obtain ⟨vs, hp, hm, hv⟩ := KD.pairs (P := X.prog) kd
 obtain ⟨t', hv⟩ := hv i j hg
 have ho := I.kIn d _ lk
 have hnd : (vs.map (·.1)).Nodup := by
  rw [hm, show kvs.map (fun kv => (Sum.inr kv.1 : Key)) = (kvs.map (·.1)).map Sum.inr by simp]
  unfold List.Nodup
  rw [List.pairwise_map]
  exact D.nd.imp fun h z => h (Sum.inr.inj z)
 have dd : s.heap.DictOf (mixKind X.prog X.w) d vs := ⟨_, es, ep, ho, ⟨rfl, rfl, rfl⟩, rfl, fun e he => KD.keys kd e (by simpa using he), hp, hnd⟩
 exact tail_any ⟨_, ho, rfl⟩ slot_dict_getitem.lookup (wpAny_getItem_of (mixKind_str _ _ i t) dd.mapOf hv ⟨.str j, H, I.tok _, ⟨t', rfl⟩, q⟩) hs
end
section
variable {X : Cx}
def rSlS : V -> Option Int -> Option Int -> Hp -> VK -> Prop := fun x lo hi H Q => ∃ z, x = .str z /\ z.length <= sizeLine /\ Q (.str (Txt.slice z lo hi)) H
theorem sl_str : SlR X rSlS := by
 intro pins s σ H x v vl vu lo hi sl Q I rx hs pl pu h
 obtain ⟨z, rfl, hz, q⟩ := h
 obtain ⟨t, rfl⟩ := rx
 obtain ⟨o, ho, hc, hd⟩ := hs
 refine ⟨"str", _, F.slot_str_getitem.lookup, typeIs_str _ _ _, ?_⟩
 have fin : ∀ t' k, EP X pins σ Q (.str (Txt.slice z lo hi) t') { s with toks := k } := fun t' k => ⟨.str _, H, I.tok k, ⟨t', rfl⟩, q⟩
 cases pl with
 | none => cases pu with
  | none => exact wpAny_getItem_str_slice (l := none) (u := none) (st := none) ⟨o, ho, hc, hd⟩ rfl (post_val_or_str ⟨Nat.le_trans (Txt.slice_le z _ _) hz, fin⟩)
  | int j uj => exact wpAny_getItem_str_slice (l := none) (u := some (j, uj)) (st := none) ⟨o, ho, hc, hd⟩ rfl (post_val_or_str ⟨Nat.le_trans (Txt.slice_le z _ _) hz, fin⟩)
 | int i ui => cases pu with
  | none => exact wpAny_getItem_str_slice (l := some (i, ui)) (u := none) (st := none) ⟨o, ho, hc, hd⟩ rfl (post_val_or_str ⟨Nat.le_trans (Txt.slice_le z _ _) hz, fin⟩)
  | int j uj => exact wpAny_getItem_str_slice (l := some (i, ui)) (u := some (j, uj)) (st := none) ⟨o, ho, hc, hd⟩ rfl (post_val_or_str ⟨Nat.le_trans (Txt.slice_le z _ _) hz, fin⟩)
theorem strsAre_of {ss : List Str} : ∀ {us : List Value}, Vals (ss.map V.str) us -> StrsAre us ss := by
 induction ss with
 | nil => intro us r; rw [List.map_nil] at r; cases r; exact .nil
 | cons n ns ih =>
  intro us r
  rw [List.map_cons] at r
  cases r with
  | cons r1 r2 =>
   obtain ⟨t, e⟩ := r1
   subst e
   exact .cons n t (ih r2)
theorem vals_ofStrs {us : List Value} {ss : List Str} (h : StrsAre us ss) : Vals (ss.map V.str) us := by
 induction h with
 | nil => exact .nil
 | cons n t _ ih => exact .cons ⟨t, rfl⟩ ih
theorem call_sortedS : CallR X (.builtin "sorted") (fun xs H Q => ∃ (p : Addr) (ss : List Str), xs = [.ref p] /\ SqL X.K H p (ss.map V.str) /\ ss.length < 64 /\
  ∀ (ss' : List Str) (l : Addr), ss'.Perm ss -> sortedS ss' = true -> H l = none -> Q (.ref l) (upd H l (.lst (ss'.map V.str)))) := by
 intro pins s σ H xs us Q I r h
 obtain ⟨p, ns, rfl, hq, h64, q⟩ := h
 obtain ⟨u, rfl, rx⟩ := vals1 r
 cases rx
 obtain ⟨its, rv, pl, hz⟩ := I.list hq
 have hi : StrsAre its ns := strsAre_of rv
 have hll := rv.length
 rw [List.length_map] at hll
 refine sorted_strs pl.isList hi (by omega) fun out ns' a1 a2 a3 => ?_
 obtain ⟨e, he⟩ := sortedAll_at s.heap its out
 have hlen := a2.length_eq
 refine ⟨.ref (s.heap.objs.size + 1), _, I.laid (t' := s.toks) (fun b o e => sortedAll_old e) (Nat.le_succ _) (show ObjOk X.prog X.w _ _ _ (.lst (ns'.map V.str)) from ⟨?_, out.toList, e, vals_ofStrs a1, he⟩), rfl, q ns' _ a2 a3 (I.hok.fresh (Nat.le_succ _))⟩
 rw [List.length_map, hlen]
 exact Nat.le_of_lt (Nat.lt_trans h64 (by decide))
def catS (ss : List Str) : List Nat := (ss.map fun s => s.cps.toList).flatten
theorem toks_of : ∀ {us : List Value} {ss : List Str}, StrsAre us ss -> ∃ l : List (Str × Tok), us = strValues l /\ l.map (·.1) = ss
 | _, _, .nil => ⟨[], rfl, rfl⟩
 | _, _, .cons y t h => by
  obtain ⟨l, e1, e2⟩ := toks_of h
  exact ⟨(y, t) :: l, by rw [e1]; rfl, by simp [e2]⟩
theorem join_cat : ∀ ss : List Str, (Str.join ⟨#[]⟩ ss).cps.toList = catS ss
 | [] => rfl
 | [x] => by simp [Str.join, catS]
 | x :: y :: r => by
  have ih := join_cat (y :: r)
  show ((x ++ (⟨#[]⟩ : Str) ++ Str.join ⟨#[]⟩ (y :: r)) : Str).cps.toList = _
  have e : ∀ a b : Str, (a ++ b).cps.toList = a.cps.toList ++ b.cps.toList := fun a b => by
   show (a.cps ++ b.cps).toList = _
   simp
  rw [e, e, ih]
  simp [catS]
theorem sum_len : ∀ (ss : List Str) (n : Nat), ss.foldl (fun a s => a + s.length + 0) n = n + (catS ss).length
 | [], n => by simp [catS]
 | s :: r, n => by
  rw [List.foldl_cons, sum_len r]
  simp [catS, Str.length]
  omega
def rJoin (K : PySem.W.Frag) : V -> List V -> Hp -> VK -> Prop := fun x vs H Q => ∃ p ss, x = .str ⟨#[]⟩ /\ vs = [.ref p] /\ SqL K H p (ss.map V.str) /\ (catS ss).length <= 100000 /\ ∀ z : Str, z.cps.toList = catS ss -> Q (.str z) H
theorem mt_join : MtM X "str.join" (rJoin X.K) := by
 intro pins s σ H x vs v us Q I rx rv h
 obtain ⟨p, ss, rfl, rfl, hq, hz, q⟩ := h
 obtain ⟨t, rfl⟩ := rx
 obtain ⟨u, rfl, ru⟩ := rv.one
 cases ru
 obtain ⟨its, rv, pl, hz'⟩ := I.list hq
 obtain ⟨l, e1, e2⟩ := toks_of (strsAre_of rv)
 have hl := pl.isList
 rw [e1] at hl
 have hlen : ((l.map (·.1)).toArray.foldl (fun a s => a + s.length + (⟨#[]⟩ : Str).length) 0) = (catS ss).length := by
  rw [e2, List.foldl_toArray]
  show ss.foldl (fun a s => a + s.length + 0) 0 = _
  rw [sum_len]
  omega
 refine call_meets F.slot_str_join (typeIs_str _ _ _) F.entry_str_join (F.args_str_join_2 _ _) (meets_str_join_list ⟨#[]⟩ t p l (by
  rw [hlen]
  show decide (_ > sizeLine) = false
  exact decide_eq_false (Nat.not_lt.mpr (Nat.le_trans hz (by decide))))) ⟨hl, ?_⟩
 have hj : ∀ z : Str, z = Str.join ⟨#[]⟩ ss -> ∀ t' k, EP X pins σ Q (.str z t') { s with toks := k } := fun z e t' k => ⟨.str z, H, I.tok k, ⟨t', rfl⟩, q z (by rw [e, join_cat])⟩
 have hlz : (Str.join ⟨#[]⟩ ss).length <= sizeLine := by
  show (Str.join ⟨#[]⟩ ss).cps.size <= _
  rw [<- Array.length_toList, join_cat]
  exact Nat.le_trans hz (by decide)
 match l, e2 with
 | [], e2 => exact ⟨by rw [StrLaws.glued_eq_join]; exact Nat.zero_le _, hj _ (by rw [<- e2]; rw [StrLaws.glued_eq_join]) _ _⟩
 | [pp], e2 => exact hj _ (by rw [<- e2]; rfl) _ s.toks
 | a :: b :: r, e2 => exact ⟨by rw [StrLaws.glued_eq_join, e2]; exact hlz, hj _ (by rw [StrLaws.glued_eq_join, e2]) _ _⟩
end
end L2
namespace L2
open PySem PySem.Spec PyProof.Rows
theorem strs_len : ∀ {vs : List Value} {ss : List Str}, StrsAre vs ss -> vs.length = ss.length
 | _, _, .nil => rfl
 | _, _, .cons _ _ h => by simp [strs_len h]
end L2
namespace L2
open PySem PySem.Spec PyProof.Rows
theorem strs_at : ∀ {vs : List Value} {ss : List Str}, StrsAre vs ss -> ∀ (i : Nat) (v : Value), vs[i]? = some v -> ∃ t, v = .str (ss.getD i ⟨#[]⟩) t
 | _, _, .nil, i, v, h => by simp at h
 | _, _, .cons y t hr, 0, v, h => by
  simp at h
  exact ⟨t, by rw [<- h]; rfl⟩
 | _, _, .cons y t hr, i + 1, v, h => by
  simp only [List.getElem?_cons_succ] at h
  obtain ⟨u, e⟩ := strs_at hr i v h
  exact ⟨u, by rw [e]; rfl⟩
end L2
namespace L2
open PySem PySem.Spec PyProof.Rows
section
variable {X : Cx}
theorem Inv.draw {pins : List (Addr × Obj)} {σ : St} {H : Hp} {s : Shared} (I : Inv X pins σ H s) (d : Drawn) : Inv X pins σ H { s with drawn := d } :=
 ⟨I.ok, I.os, I.bare, I.base, I.loc, I.cell, I.free, I.freeC, I.pin, I.hok, I.len⟩
def repS (x : Str) (n : Int) : Str := ⟨(List.replicate n.toNat x.cps.toList).flatten.toArray⟩
def rMulS : R2 := fun x y H Q => ∃ (z : Str) (n : Int), x = .str z /\ y = .int n /\ z.length <= 1000 /\ n <= 1000 /\ -1000 <= n /\ Q (.str (repS z n)) H
theorem fold_rep (x : Array Nat) : ∀ n (acc : Array Nat), ((List.replicate n x).foldl (· ++ ·) acc) = (acc.toList ++ (List.replicate n x.toList).flatten).toArray
 | 0, acc => by simp
 | n + 1, acc => by
  rw [List.replicate_succ, List.foldl_cons, fold_rep x n, List.replicate_succ, List.flatten_cons]
  simp
theorem op_mulS : OpR X (binaryOp .Mult) rMulS := by
 intro pins s σ H x y v u Q I rx ry h
 obtain ⟨z, n, rfl, rfl, hz, n1, n0, q⟩ := h
 obtain ⟨t, rfl⟩ := rx
 obtain ⟨t', rfl⟩ := ry
 have fin : ∀ (w : Str) (k : Tok) (tk : Nat), w = repS z n -> EP X pins σ Q (.str w k) { s with toks := tk } := fun w k tk e => ⟨.str w, H, I.tok tk, ⟨k, rfl⟩, by rw [e]; exact q⟩
 have pos : ∀ m : Nat, m <= 1000 -> z.length * m <= 1000000 := fun m hm => Nat.mul_le_mul hz hm
 refine P.mul_str (by rw [decide_eq_false (by omega), decide_eq_false (by omega)]; rfl) (fun h1 _ h2 => ?_) (fun h1 _ => ?_) ?_
 ·have : (2 ^ 63 - 1) / n >= 1000 := by
   have h3 : n <= 1000 := n1
   have h4 : 0 < n := by omega
   rw [ge_iff_le, Int.le_ediv_iff_mul_le h4]
   omega
  omega
 ·show decide (_ > sizeLine) = false
  refine decide_eq_false (Nat.not_lt.mpr (Nat.le_trans (pos n.toNat (by omega)) (by decide)))
 ·split
  ·refine ⟨by decide, fin _ _ _ ?_⟩
   unfold repS
   rw [show n.toNat = 0 by omega]
   rfl
  ·split
   ·rename_i h1 h2
    refine fin _ _ s.toks ?_
    rw [Bool.or_eq_true] at h2
    unfold repS
    rcases h2 with h3 | h3
    ·have : n = 1 := by simpa using h3
     rw [this]
     simp
    ·have hz0 : z.cps = #[] := by
      have : z.cps.size = 0 := by simpa [Str.length] using h3
      exact Array.size_eq_zero_iff.mp this
     have e : ∀ m : Nat, (List.replicate m ([] : List Nat)).flatten = [] := fun m => by
      induction m with
      | zero => rfl
      | succ m ih => rw [List.replicate_succ, List.flatten_cons, ih]; rfl
     obtain ⟨zc⟩ := z
     have hz0 : zc = #[] := hz0
     subst hz0
     show (⟨#[]⟩ : Str) = ⟨(List.replicate n.toNat ([] : List Nat)).flatten.toArray⟩
     rw [e]
   ·refine ⟨?_, fin _ _ _ ?_⟩
    ·show (List.foldl (fun x1 x2 => x1 ++ x2) #[] (List.replicate n.toNat z.cps)).size <= _
     rw [fold_rep, List.size_toArray, List.length_append, len_rep]
     show 0 + n.toNat * z.cps.toList.length <= _
     have := pos n.toNat (by omega)
     rw [Nat.mul_comm] at this
     have e : z.cps.toList.length = z.length := by simp [Str.length]
     rw [e]
     exact Nat.le_trans (by omega) (show 1000000 <= sizeLine by decide)
    ·unfold repS
     rw [fold_rep]
     simp
def rSlW (K : PySem.W.Frag) : V -> Option Int -> Option Int -> Hp -> VK -> Prop := fun x lo hi H Q => ∃ a xs, x = .ref a /\ SqT K H a xs /\ ∀ p H', Same H H' -> SqT K H' p (cutV xs lo hi) -> Q (.ref p) H'
theorem getItem_whole {prog : Program} {w : World} {A : Around} {E : Value -> Shared -> Prop} {s : Shared} {t sl : Addr} {items : Array Value} {vl vu : Value} {lo hi : Option Int} {Q : Value -> Shared -> Prop} (ht : IsTup s.heap t items) (hs : s.heap.IsSliceOf sl vl vu .none) (pl : IsPart vl lo) (pu : IsPart vu hi)
  (hw : HT.sIx items.size 0 lo = 0 /\ HT.sIx items.size items.size hi = items.size) (h : Q (.ref t) s) : wpAny (model prog w) A (getItem (.ref t) (.ref sl)) Q E s := by
 obtain ⟨os, hos, hcs, hds⟩ := id hs
 have hTs : s.TypeIs (.ref sl) "slice" := ⟨os, hos, hcs⟩
 unfold getItem
 try with_reducible refine wpAny_holding ?_
 first | refine wpAny_bind (wpAny_pure ?_) | skip
 refine wpAny_bind (wpAny_sequenceKey ht.typeIs (by decide) ?_)
 refine wpAny_bind (wpAny_callSpecial?_slot (name := Str.ofString "__getitem__") ht.typeIs PyProof.Rows.slot_tuple_getitem (wpAny_call_entry PyProof.Rows.slot_tuple_getitem ht.typeIs entry_tuple_getitem ?_ (args_tuple_getitem _ _)))
 show wpAny _ _ (Builtin.Tuple.tupleItemsOf (.ref t) >>= _) _ _ s
 refine wpAny_bind (tupleItemsOf_ ht (wpAny_bind (wpAny_typeOf hTs ?_)))
 rw [if_pos (by decide)]
 refine wpAny_bind (HT.sliceApplied_gen hs pl pu ?_)
 rw [hw.1, hw.2]
 dsimp only
 rw [if_pos (by simp)]
 unfold Builtin.Tuple.tupleIsExact
 refine wpAny_bind (wpAny_bind (wpAny_typeOf ht.typeIs (wpAny_pure ?_)))
 rw [if_pos (by decide)]
 exact wpAny_bind (wpAny_rule (wpAny_pure ⟨_, rfl, wpAny_pure h⟩))
theorem cut_all {xs : List V} {lo hi : Option Int} (hw : HT.sIx xs.length 0 lo = 0 /\ HT.sIx xs.length xs.length hi = xs.length) : cutV xs lo hi = xs := by
 unfold cutV
 rw [hw.1, hw.2, List.drop_zero, Nat.sub_zero, List.take_length]
theorem sl_tupW : SlR X (rSlW X.K) := by
 intro pins s σ H x v vl vu lo hi sl Q I rx hs pl pu h
 obtain ⟨a, xs, rfl, hx, q⟩ := h
 by_cases hw : HT.sIx xs.length 0 lo = 0 /\ HT.sIx xs.length xs.length hi = xs.length
 ·cases rx
  obtain ⟨its, r, ht, hz⟩ := I.tuple hx
  have hlen : its.toArray.size = xs.length := by rw [List.size_toArray]; exact r.length.symm
  refine ⟨"tuple", _, PyProof.Rows.slot_tuple_getitem.lookup, ht.typeIs, ?_⟩
  exact getItem_whole ht hs pl pu (by rw [hlen]; exact hw) ⟨.ref a, H, I, rfl, q a H (fun _ _ e => e) (by rw [cut_all hw]; exact hx)⟩
 ·exact sl_tup pins s σ H _ v vl vu lo hi sl Q I rx hs pl pu ⟨a, xs, rfl, hx, hw, fun p np => q p _ (fun b o e => by rw [upd_ne (ne_of_none e np)]; exact e) (SqT.of upd_same)⟩
end
end L2
namespace L2
open PySem PySem.Spec PyProof.Rows
theorem best_lt (f : Nat -> List Nat) : ∀ n, argBest (fun i j => decide (f i < f j)) n <= n /\ ∀ j, j <= n -> f (argBest (fun i j => decide (f i < f j)) n) <= f j
 | 0 => ⟨Nat.le_refl _, fun j hj => by rw [Nat.le_zero.mp hj]; exact List.le_refl _⟩
 | n + 1 => by
  obtain ⟨h1, h2⟩ := best_lt f n
  show (if decide (f (n + 1) < f (argBest _ n)) = true then n + 1 else argBest _ n) <= n + 1 /\ ∀ j, j <= n + 1 -> f (if decide (f (n + 1) < f (argBest _ n)) = true then n + 1 else argBest _ n) <= f j
  by_cases h : f (n + 1) < f (argBest (fun i j => decide (f i < f j)) n)
  ·rw [if_pos (decide_eq_true h)]
   refine ⟨Nat.le_refl _, fun j hj => ?_⟩
   rcases Nat.lt_or_eq_of_le hj with z | z
   ·exact List.le_trans (List.le_of_lt h) (h2 j (by omega))
   ·rw [z]; exact List.le_refl _
  ·rw [if_neg (fun z => h (of_decide_eq_true z))]
   refine ⟨by omega, fun j hj => ?_⟩
   rcases Nat.lt_or_eq_of_le hj with z | z
   ·exact h2 j (by omega)
   ·rw [z]; exact List.not_lt.mp h
theorem getD_memS {l : List Str} {i : Nat} (h : i < l.length) : l.getD i ⟨#[]⟩ ∈ l := by
 rw [List.getD_eq_getElem?_getD, List.getElem?_eq_getElem h]
 exact List.getElem_mem h
theorem mem_getDS {l : List Str} {a : Str} (h : a ∈ l) : ∃ j, j < l.length /\ l.getD j ⟨#[]⟩ = a := by
 obtain ⟨j, hj, e⟩ := List.mem_iff_getElem.mp h
 exact ⟨j, hj, by rw [List.getD_eq_getElem?_getD, List.getElem?_eq_getElem hj]; exact e⟩
section
variable {prog : Program} {w : World} {A : Around} {E : Value -> Shared -> Prop} {s : Shared} {l : Addr} {its : Array Value} {ss : List Str}
theorem cmp_strs_lt {P : Nat -> Value -> Prop} (val : Nat -> Str) (hval : ∀ i v, P i v -> ∃ t, v = .str (val i) t) : CmpOf prog w A .Lt P (fun i j => decide ((val i).cps.toList < (val j).cps.toList)) := fun i j vi vj s Q E hi hj h => by
 obtain ⟨t, rfl⟩ := hval i vi hi
 obtain ⟨u, rfl⟩ := hval j vj hj
 exact richCompare_gives (op := .Lt) (typeIs_str s _ t) (typeIs_str s _ u) F.slot_str_lt F.entry_str_lt (F.args_str_lt_2 _ _) (gives_str_lt _ _ t u) (fun x => nomatch x) h
theorem iter_listG {Q : Value -> Shared -> Prop} (hl : s.heap.IsList l its)
  (h : ∀ s₂ : Shared, s₂ = { s with heap := s.heap.push { cls := .type "list_iterator", data := .fields #[.ref l, .int 0 0] } } ->
   (s₂.heap.IsListIter s.heap.objs.size l 0 /\ s₂.heap.IsList l its) -> (∀ b ∈ [s.heap.objs.size, l], b < s₂.heap.objs.size) -> l ≠ s.heap.objs.size -> Q (.ref s.heap.objs.size) s₂) :
  wpAny (model prog w) A (pyIter (.ref l)) Q E s := by
 have hlt : l < s.heap.objs.size := by obtain ⟨_, e, _⟩ := hl; exact Heap.lt_size e
 refine wpAny_pyIter_list hl (h _ rfl ⟨⟨_, Heap.get?_push_size _ rfl, rfl, rfl⟩, hl.push _⟩ (fun b hb => ?_) (Nat.ne_of_lt hlt))
 show b < (s.heap.push _).objs.size
 rw [Heap.size_push]
 simp only [List.mem_cons, List.not_mem_nil, or_false] at hb
 rcases hb with z | z
 ·rw [z]; exact Nat.lt_succ_self _
 ·rw [z]; exact Nat.lt_succ_of_lt hlt
theorem min_strs {Q : Value -> Shared -> Prop} (hh : A.handled = none) (hl : s.heap.IsList l its) (hi : StrsAre its.toList ss) (hne : 0 < ss.length)
  (h : ∀ x t h' tk, x ∈ ss -> (∀ y ∈ ss, x.cps.toList <= y.cps.toList) -> (∀ b o, s.heap.get? b = some o -> h'.get? b = some o) -> Q (.str x t) { s with heap := h', toks := tk }) :
  wpAny (model prog w) A (call (.builtin "min") [.ref l]) Q E s := by
 have hsz : its.size = ss.length := by rw [<- Array.length_toList, strs_len hi]
 refine call_min_walk (iter_listG hl fun s₂ e st hfp hlI => ?_)
 subst e
 refine ⟨_, _, _, _, _, _, _, rfl, Walks.list (A := A.in1) hh _ l hlI its, st, hfp, by omega, cmp_strs_lt (fun i => ss.getD i ⟨#[]⟩) (fun i v hv => strs_at hi i v (by rw [Array.getElem?_toList]; exact hv)), fun v h' tk hP hk => ?_⟩
 obtain ⟨t, rfl⟩ := strs_at hi _ v (by rw [Array.getElem?_toList]; exact hP)
 obtain ⟨b1, b2⟩ := best_lt (fun i => (ss.getD i ⟨#[]⟩).cps.toList) (its.size - 1)
 refine h _ t h' tk (getD_memS (by omega)) (fun y hy => ?_) (old_kept hk)
 obtain ⟨j, hj, rfl⟩ := mem_getDS hy
 exact b2 j (by omega)
end
section
variable {X : Cx}
theorem call_min1S (hc : X.calm = true) : CallR X (.builtin "min") (fun xs H Q => ∃ (p : Addr) (ss : List Str), xs = [.ref p] /\ SqL X.K H p (ss.map V.str) /\ 0 < ss.length /\ ∀ x, x ∈ ss -> (∀ y ∈ ss, x.cps.toList <= y.cps.toList) -> Q (.str x) H) := by
 intro pins s σ H xs us Q I r h
 obtain ⟨p, ss, rfl, hq, hn, q⟩ := h
 obtain ⟨u, rfl, rx⟩ := vals1 r
 cases rx
 obtain ⟨its, rv, pl, hz⟩ := I.list hq
 refine min_strs (I.ok.hd hc) pl.isList (strsAre_of rv) hn fun x t h' tk h1 h2 hk => ?_
 exact ⟨.str _, H, I.kept hk, ⟨t, rfl⟩, q _ h1 h2⟩
end
end L2
namespace L2
open PySem PySem.Spec PyProof.Rows
open PySem PySem.Spec PyProof.Rows
section
variable {κ : Type} [DecidableEq κ]
def valV (kvs : List (κ × V)) (k : κ) : Option V := (kvs.find? fun kv => decide (kv.1 = k)).map (·.2)
theorem valV_pos {p : κ × V} {r : List (κ × V)} {k : κ} (e : p.1 = k) : valV (p :: r) k = some p.2 := by simp [valV, List.find?_cons, e]
theorem valV_neg {p : κ × V} {r : List (κ × V)} {k : κ} (e : ¬ p.1 = k) : valV (p :: r) k = valV r k := by simp [valV, List.find?_cons, e]
theorem RelO.isSome_eq {o : Option V} {u : Option Value} (r : RelO o u) : o.isSome = u.isSome := by
 cases o with
 | none => cases u with
  | none => rfl
  | some _ => exact (show False from r).elim
 | some _ => cases u with
  | none => exact (show False from r).elim
  | some _ => rfl
theorem KV.val {kvs : List (κ × V)} {vs : List (κ × Value)} (r : KV kvs vs) (k : κ) : RelO (valV kvs k) (valueAt vs k) := by
 unfold KV at r
 induction r with
 | nil => exact True.intro
 | @cons p q ps qs h t ih =>
  obtain ⟨h1, h2⟩ := h
  by_cases e : p.1 = k
  ·have e' : q.1 = k := h1.symm.trans e
   have b : valueAt (q :: qs) k = some q.2 := by simp [valueAt, List.find?_cons, e']
   rw [valV_pos e, b]; exact h2
  ·have e' : ¬ q.1 = k := fun z => e (h1.trans z)
   have b : valueAt (q :: qs) k = valueAt qs k := by simp [valueAt, List.find?_cons, e']
   rw [valV_neg e, b]; exact ih
theorem KV.length {kvs : List (κ × V)} {vs : List (κ × Value)} (r : KV kvs vs) : kvs.length = vs.length := Paired.length r
end
theorem kV_is {P : Program} {w : World} {k : Key} {u : Value} (r : RelV (kV k) u) : (mixKind P w).is k u = true := by
 cases k with
 | inl i => obtain ⟨t, e⟩ := (show ∃ t, u = Value.int i t from r); subst e; exact mixKind_int P w i t
 | inr x => obtain ⟨t, e⟩ := (show ∃ t, u = Value.str x t from r); subst e; exact mixKind_str P w x t
theorem items_are {P : Program} {w : World} : ∀ {ks : List Key} {us : List Value}, Vals (ks.map kV) us -> ItemsAre (mixKind P w) ks us
 | [], _, r => by rw [List.map_nil] at r; cases r; exact .nil
 | k :: ks, _, r => by
  rw [List.map_cons] at r
  cases r with
  | cons h t => exact .cons (kV_is h) (items_are t)
abbrev KT (H : Hp) : List (List Key × V) -> List (List Key × Addr × Value) -> Prop := Paired fun p q => p.1 = q.1 /\ H q.2.1 = some (.tup (p.1.map kV)) /\ RelV p.2 q.2.2
theorem KT.val {H : Hp} {kvs : List (List Key × V)} {xs : List (List Key × Addr × Value)} (r : KT H kvs xs) (k : List Key) : RelO (valV kvs k) ((atKey xs k).map (·.2)) := by
 induction r with
 | nil => exact True.intro
 | @cons p q ps qs h t ih =>
  obtain ⟨h1, _, h2⟩ := h
  by_cases e : p.1 = k
  ·have e' : q.1 = k := h1.symm.trans e
   have b : atKey (q :: qs) k = some q.2 := by simp [atKey, List.find?_cons, e']
   rw [valV_pos e, b]; exact h2
  ·have e' : ¬ q.1 = k := fun z => e (h1.trans z)
   have b : atKey (q :: qs) k = atKey qs k := by simp [atKey, List.find?_cons, e']
   rw [valV_neg e, b]; exact ih
section
variable {P : Program} {w : World} {H : Hp} {h : Heap} {a : Addr}
theorem rd_of {u : HO} (ok : HOk P w H h) (e : Rd H a u) : ObjOk P w H h a u := e.ok ok
theorem dk_rd {kvs : List (Key × V)} (ok : HOk P w H h) (e : Rd H a (.dK kvs)) : kvs.length <= sizeLine /\ (a == sysModules) = false /\ ∃ vs, KV kvs vs /\ h.DictOf (mixKind P w) a vs :=
 show ObjOk P w H h a (.dK kvs) from rd_of ok e
theorem key_of {ks : List Key} (ok : HOk P w H h) (e : H a = some (.tup (ks.map kV))) : (tupleKind (mixKind P w)).is h ks a := by
 obtain ⟨_, its, r, o, h1, h2, n, h3⟩ := (show ObjOk P w H h a (.tup (ks.map kV)) from ok a _ e)
 exact ⟨o, its.toArray, n, h1, h2, h3, by simpa using items_are r⟩
theorem dt_rd {kvs : List (List Key × V)} (ok : HOk P w H h) (e : Rd H a (.dT kvs)) : kvs.length <= sizeLine /\ (a == sysModules) = false /\
  ∃ xs, KT H kvs xs /\ h.DictOfH (tupleKind (mixKind P w)) a xs := by
 obtain ⟨z, y, xs, r, o, es, ep, h1, h2, h3, h4, h5⟩ := (show ObjOk P w H h a (.dT kvs) from rd_of ok e)
 refine ⟨z, y, xs, r, o, es, ep, h1, h2, h3, h4, fun x hx => ?_, h5⟩
 have all : ∀ {l : List (List Key × V)} {m : List (List Key × Addr × Value)}, KT H l m -> ∀ x ∈ m, (tupleKind (mixKind P w)).is h x.1 x.2.1 := by
  intro l m q
  induction q with
  | nil => intro x hx; exact nomatch hx
  | @cons p q ps qs hq t ih =>
   intro x hx
   rcases List.mem_cons.mp hx with e | hx
   ·subst e
    exact key_of ok (by rw [<- hq.1]; exact hq.2.1)
   ·exact ih x hx
 exact all r x hx
end
def DGet (H : Hp) (a : Addr) (y : V) (r : Option V) : Prop :=
 (∃ kvs k, Rd H a (.dK kvs) /\ y = kV k /\ r = valV kvs k) \/ ∃ kvs k b, Rd H a (.dT kvs) /\ y = .ref b /\ H b = some (.tup (k.map kV)) /\ r = valV kvs k
section
variable {X : Cx} {pins : List (Addr × Obj)} {σ : St} {H : Hp} {s : Shared} {a : Addr} {y v : V} {u r : Value} {o : Option V} {A : Around} {E : Value -> Shared -> Prop}
theorem d_getItem {Q : Value -> Shared -> Prop} (hu : A.units + 1 < cLine) (I : Inv X pins σ H s) (g : DGet H a y (some v)) (ry : RelV y u) (h : ∀ w' s', Inv X pins σ H s' -> RelV v w' -> Q w' s') :
  wpAny (model X.prog X.w) A (getItem (.ref a) u) Q E s := by
 rcases g with ⟨kvs, k, e, ey, l⟩ | ⟨kvs, k, b, e, ey, eb, l⟩
 ·subst ey
  obtain ⟨z, hd, vs, rel, dd⟩ := dk_rd I.hok e
  obtain ⟨w', hw, rw'⟩ := RelO.some_of (v := v) (o := valueAt vs k) (by rw [l]; exact rel.val k)
  exact wpAny_getItem_of (kV_is ry) dd.mapOf hw (h w' _ (I.tok _) rw')
 ·subst ey
  cases (show u = Value.ref b from ry)
  obtain ⟨z, hd, xs, rel, dd⟩ := dt_rd I.hok e
  obtain ⟨w', hw, rw'⟩ := RelO.some_of (v := v) (o := (atKey xs k).map (·.2)) (by rw [l]; exact rel.val k)
  obtain ⟨p, hp, hp2⟩ := Option.map_eq_some_iff.mp hw
  refine wpAny_getItem_heap (tupleKind_room_in1 hu) (key_of I.hok eb) dd hp ?_
  rw [hp2]
  exact h w' _ (I.tok _) rw'
theorem d_in {Q : Value -> Shared -> Prop} (hu : A.units + 1 < cLine) (I : Inv X pins σ H s) (g : DGet H a y o) (ry : RelV y u) (h : ∀ s', Inv X pins σ H s' -> Q (.bool o.isSome) s') :
  wpAny (model X.prog X.w) A (compareOp .In u (.ref a)) Q E s := by
 rcases g with ⟨kvs, k, e, ey, l⟩ | ⟨kvs, k, b, e, ey, eb, l⟩
 ·subst ey
  obtain ⟨z, hd, vs, rel, dd⟩ := dk_rd I.hok e
  refine wpAny_in_of (kV_is ry) hd dd.mapOf ?_
  rw [<- (rel.val k).isSome_eq, <- l]
  exact h _ (I.tok _)
 ·subst ey
  cases (show u = Value.ref b from ry)
  obtain ⟨z, hd, xs, rel, dd⟩ := dt_rd I.hok e
  refine wpAny_in_heap (tupleKind_room_in1 hu) (key_of I.hok eb) hd dd ?_
  have q := (rel.val k).isSome_eq
  rw [Option.isSome_map] at q
  rw [<- q, <- l]
  exact h _ (I.tok _)
end
section
variable {X : Cx} {pins : List (Addr × Obj)} {σ : St} {H : Hp} {s : Shared} {a : Addr} {kvs : List (Key × V)} {k : Key} {u : Value} {A : Around} {E : Value -> Shared -> Prop}
theorem d_len {Q : Value -> Shared -> Prop} (I : Inv X pins σ H s) (e : Rd H a (.dK kvs)) (h : ∀ t s', Inv X pins σ H s' -> Q (.int kvs.length t) s') : wpAny (model X.prog X.w) A (call (.builtin "len") [.ref a]) Q E s := by
 obtain ⟨z, hd, vs, rel, dd⟩ := dk_rd I.hok e
 refine call_len_dict hd dd (by rw [<- rel.length]; rw [sizeLine_eq] at z; omega) ?_
 rw [<- rel.length]
 exact h _ _ (I.tok _)
end
theorem dict_typeIs {X : Cx} {pins : List (Addr × Obj)} {σ : St} {H : Hp} {s : Shared} {a : Addr} {y : V} {o : Option V} (I : Inv X pins σ H s) (g : DGet H a y o) : s.TypeIs (.ref a) "dict" := by
 rcases g with ⟨kvs, k, e, _, _⟩ | ⟨kvs, k, b, e, _, _, _⟩
 ·obtain ⟨_, _, vs, _, dd⟩ := dk_rd I.hok e
  exact dd.typeIs
 ·obtain ⟨_, _, xs, _, dd⟩ := dt_rd I.hok e
  exact dd.typeIs
end L2
namespace L2
open PySem PySem.Spec PyProof.Rows
def FzD (H : Hp) (a : Addr) (ob : Obj) (kvs : List (Key × V)) : Prop := H a = some (.frz ob (.dK kvs))
theorem kv_len {kvs : List (Key × V)} {vs : List (Key × Value)} (r : KV kvs vs) : kvs.length = vs.length := Paired.length r
theorem kv_get : ∀ {kvs : List (Key × V)} {vs : List (Key × Value)} {i : Nat} {k : Key} {v : V}, KV kvs vs -> kvs[i]? = some (k, v) -> ∃ u, vs[i]? = some (k, u) /\ RelV v u
 | _, _, 0, _, _, .cons (b := b) r _, h => by
  cases h
  obtain ⟨e, r⟩ := r
  exact ⟨b.2, by show some b = _; rw [show b = (b.1, b.2) from rfl, <- e], r⟩
 | _, _, i + 1, _, _, .cons _ rs, h => kv_get (i := i) rs (by simpa using h)
theorem key_rel {k : Key} {u : Value} (h : keyIs k u = true) : RelV (kV k) u := by
 rcases keyIs_shape h with ⟨i, t, rfl, rfl⟩ | ⟨x, t, rfl, rfl⟩
 ·exact ⟨t, rfl⟩
 ·exact ⟨t, rfl⟩
section
variable {X : Cx} {pins : List (Addr × Obj)} {σ : St} {H : Hp} {s : Shared} {a : Addr} {ob : Obj} {kvs : List (Key × V)}
theorem fz_dict (I : Inv X pins σ H s) (h : FzD H a ob kvs) : s.heap.get? a = some ob /\ (a == sysModules) = false /\ kvs.length <= sizeLine /\ ∃ vs es ep, KV kvs vs /\ s.heap.DictAt (mixKind X.prog X.w) a vs ep /\ ob.data = .dict es ep := by
 obtain ⟨e, hl, hs, vs, r, o, es, ep, e', x1, x2, x3⟩ := (show ObjOk X.prog X.w H s.heap a (.frz ob (.dK kvs)) from I.hok a _ h)
 rw [e] at e'
 cases e'
 exact ⟨e, hs, hl, vs, es, ep, r, ⟨ob, es, e, x1, x2, x3⟩, x2⟩
end
def ItD (a : Addr) (ob : Obj) (kvs : List (Key × V)) : It :=
 ⟨fun i H => FzD H a ob kvs /\ i < kvs.length, fun i H x H' => H' = H /\ ∃ k v, kvs[i]? = some (k, v) /\ x = kV k, fun i H => FzD H a ob kvs /\ kvs.length <= i⟩
theorem turn_dict {P : Program} {w : World} {K : PySem.W.Frag} {tg : Expr} {a it : Addr} {ob : Obj} {kvs : List (Key × V)} {es : Array DictEntry} {ep : Nat} (hep : ob.data = .dict es ep) :
  Turn P w K tg (ItD a ob kvs) [it] it (fun i h => h.IsKeyIter it a i kvs.length ep) where
 mem := by simp
 obj := fun i h st b hb => by
  have e : b = it := by simpa using hb
  subst e
  obtain ⟨o, e, c, d⟩ := st
  exact ⟨o, e, fun v z => by rw [d] at z; cases z⟩
 keep := fun i h h' st k => st.at fun o e => k it (by simp) o e
 item := by
  intro X hP hw hK hc i pins s σ H E I hf st hg
  subst hP hw hK
  obtain ⟨hz, hi⟩ := hg
  obtain ⟨e, hs, hl, vs, es', ep', r, dd, hd'⟩ := fz_dict I hz
  rw [hep] at hd'
  cases hd'
  obtain ⟨f0, f1, f2, f3, f4, f5⟩ := hf it (by simp)
  obtain ⟨⟨k, v⟩, hx⟩ : ∃ p, kvs[i]? = some p := ⟨kvs[i], by simp [hi]⟩
  obtain ⟨u, hu, ru⟩ := kv_get r hx
  have st' : s.heap.IsKeyIter it a i vs.length ep := by rw [<- kv_len r]; exact st
  refine wpAny_pyNext_dict_item st' dd hu fun key h' hkey hit' sb => ?_
  have I1 : Inv X pins σ H { s with heap := h' } := I.turned (t' := s.toks) (fun b o hb e => (sb.2 b hb).trans e) f0 f1 f3 f4 f5
  obtain ⟨o, e, c, d⟩ := id hit'
  exact ⟨key, rfl, go_of (s := { s with heap := h' }) e c d (by decide) ⟨kV k, H, I1, key_rel hkey, ⟨rfl, k, v, hx, rfl⟩, by rw [kv_len r]; exact hit', fun b hb => (hf b hb).1⟩⟩
 done := by
  intro X hP hw hK hc i pins s σ H E I hf st hg
  subst hP hw hK
  obtain ⟨hz, hi⟩ := hg
  obtain ⟨e, hs, hl, vs, es', ep', r, dd, hd'⟩ := fz_dict I hz
  rw [hep] at hd'
  cases hd'
  obtain ⟨f0, f1, f2, f3, f4, f5⟩ := hf it (by simp)
  have st' : s.heap.IsKeyIter it a i vs.length ep := by rw [<- kv_len r]; exact st
  have hn : vs[i]? = none := List.getElem?_eq_none (by rw [<- kv_len r]; exact hi)
  exact wpAny_pyNext_dict_end (I.ok.hd hc) st' dd hn fun h' eb => ⟨rfl, I.turned (t' := s.toks) (fun b o hb e => eb b o hb e) f0 f1 f3 f4 f5⟩
 self := fun _ _ _ _ _ st h => wpAny_pyIter_keyiter st h
end L2
namespace L2
open PySem PySem.Spec PyProof.Rows
theorem strs_of_keys {prog : Program} {w : World} : ∀ {kvs : List (Key × Value)} {us : List Str} {acc : Array Value}, kvs.map (·.1) = us.map Sum.inr ->
  ItemsOf (fun i v => ∃ k x, kvs[i]? = some (k, x) /\ (mixKind prog w).is k v = true) acc kvs.length -> StrsAre acc.toList us := by
 intro kvs us acc hk h
 obtain ⟨hn, hp⟩ := h
 have key : ∀ (us : List Str) (l : List Value) (kvs : List (Key × Value)), kvs.map (·.1) = us.map Sum.inr -> l.length = kvs.length -> (∀ (j : Nat) (v : Value), l[j]? = some v -> ∃ k x, kvs[j]? = some (k, x) /\ (mixKind prog w).is k v = true) -> StrsAre l us := by
  intro us
  induction us with
  | nil =>
   intro l kvs hk hl _
   have : kvs = [] := by simpa using hk
   subst this
   have : l = [] := List.eq_nil_of_length_eq_zero hl
   subst this
   exact .nil
  | cons y ys ih =>
   intro l kvs hk hl hp
   cases kvs with
   | nil => simp at hk
   | cons p kvs =>
    cases l with
    | nil => simp at hl
    | cons v l =>
     simp only [List.map_cons, List.cons.injEq] at hk
     obtain ⟨k, x, e, q⟩ := hp 0 v rfl
     have e : p = (k, x) := by simpa using e
     subst e
     have hk1 : k = Sum.inr y := hk.1
     subst hk1
     rcases keyIs_shape (show keyIs (Sum.inr y) v = true from q) with ⟨i, t, z, _⟩ | ⟨z, t, e1, rfl⟩
     ·cases z
     ·cases e1
      exact .cons _ _ (ih l kvs hk.2 (by simpa using hl) fun j v hj => hp (j + 1) v hj)
 refine key us acc.toList kvs hk (by simpa using hn) fun j v hj => hp j v (by simpa using hj)
section
variable {prog : Program} {w : World} {A : Around} {E : Value -> Shared -> Prop} {s : Shared} {a : Addr} {us : List Str}
theorem sub_dd : isSubtype (.type "dict") (.type "dict") = pure true := by rw [isSubtype_type]; kernel_rfl
theorem any_hintD {Q : Bool -> Shared -> Prop} (ht : s.TypeIs (.ref a) "dict") (h : Q false s) : wpAny (model prog w) A (Builtin.List.listLengthHint (.ref a)) Q E s := by
 unfold Builtin.List.listLengthHint
 refine wpAny_bind (wpAny_specialOf ht PySem.F.slot_dict_len.lookup ?_)
 have e1 : splitId "dict.__len__" = some ("dict", "__len__") := by decide +kernel
 dsimp only
 rw [e1]
 dsimp only
 refine wpAny_bind (wpAny_isInstance ht sub_dd ?_)
 simp only [Bool.not_true, Bool.false_eq_true, if_false]
 refine wpAny_ite ?_
 rw [if_pos (by decide +kernel)]
 refine wpAny_bind (wpAny_typeOf ht ?_)
 exact wpAny_pure h
theorem any_collectDict {kvs : List (Key × Value)} {ep : Nat} {Q : List Value -> Shared -> Prop} (hh : A.handled = none) (hsm : (a == sysModules) = false) (S : s.heap.DictAt (mixKind prog w) a kvs ep) (hks : kvs.map (·.1) = us.map Sum.inr) (hl : us.length <= sizeLine)
  (hQ : ∀ h' d tk (acc : List Value) vs, StrsAre acc vs -> vs.Perm us -> s.heap.objs.size < h'.objs.size -> (∀ b o, s.heap.get? b = some o -> h'.get? b = some o) -> Q acc { s with heap := h', drawn := d, toks := tk }) :
  wpAny (model prog w) A (collect (.ref a)) Q E s := by
 have alt : a < s.heap.objs.size := S.lt_size
 have hkl : kvs.length = us.length := by have := congrArg List.length hks; simpa using this
 unfold collect
 refine wpAny_bind (wpAny_runValue (codeAny_builtin F.entry_proto_collect ?_))
 rw [Around.under_plainId F.plain_proto_collect _]
 show wpAny _ A.in1 (newList [] >>= fun l => again (.builtin "list.__iadd__" ⟨[l, .ref a], []⟩)) _ _ s
 refine wpAny_bind (wpAny_newObj_type ?_ (by size_fits))
 refine wpAny_pure ⟨plainId_quiet F.plain_list_iadd _, codeAny_builtin F.entry_list_iadd ?_⟩
 rw [Around.under_plainId F.plain_list_iadd _]
 show wpAny _ A.in1 (Builtin.List.listExtendWith (.ref s.heap.objs.size) (.ref a) (.ref s.heap.objs.size)) _ _ _
 unfold Builtin.List.listExtendWith
 have S1 := S.push { cls := .type "list", data := .seq ([] : List Value).toArray }
 have ht : Shared.TypeIs { s with heap := s.heap.push { cls := .type "list", data := .seq ([] : List Value).toArray } } (.ref a) "dict" := S1.dictOf.typeIs
 refine wpAny_bind (wpAny_typeOf ht ?_)
 have h1 : Builtin.List.listSameRef (.ref s.heap.objs.size) (.ref a) = false := by simp [Builtin.List.listSameRef]; exact Nat.ne_of_gt alt
 have h2 : (Value.type "dict" == Value.type "list") = false := by decide
 have h3 : (Value.type "dict" == Value.type "tuple") = false := by decide
 simp only [h1, h2, h3, Bool.or_false, Bool.false_eq_true, if_false]
 refine wpAny_bind (wpAny_pyIter_dict hsm S1 ?_)
 generalize hh' : ((s.heap.push { cls := .type "list", data := .seq ([] : List Value).toArray }).push { cls := .type "dict_keyiterator", data := .fields #[.ref a, .int 0 0, .int kvs.length 0, .int ep 0] }) = h'
 have sz1 : (s.heap.push { cls := .type "list", data := .seq ([] : List Value).toArray }).objs.size = s.heap.objs.size + 1 := Heap.size_push ..
 have kp : ∀ b o, (s.heap.push { cls := .type "list", data := .seq ([] : List Value).toArray }).get? b = some o -> h'.get? b = some o := fun b o e => by rw [<- hh']; exact Heap.get?_push_of_some _ e
 have ht' : Shared.TypeIs { s with heap := h' } (.ref a) "dict" := by
  obtain ⟨o, e, c⟩ := ht
  exact ⟨o, kp _ _ e, c⟩
 have st0 : h'.IsKeyIter (s.heap.objs.size + 1) a 0 kvs.length ep /\ h'.DictAt (mixKind prog w) a kvs ep := by
  refine ⟨⟨{ cls := .type "dict_keyiterator", data := .fields #[.ref a, .int 0 0, .int kvs.length 0, .int ep 0] }, ?_, rfl, rfl⟩, S1.keep kp⟩
  rw [<- hh', <- sz1]
  exact Heap.get?_push_size _ rfl
 rw [sz1]
 refine wpAny_bind (wpAny_holding (any_hintD ht' ?_))
 have hA : A.in1.handled = none := by simp [hh]
 have W := (Walks.dictKeys (prog := prog) (w := w) (A := A.in1) (knd := mixKind prog w) hA (s.heap.objs.size + 1) a (fun z => absurd alt (by rw [z]; exact Nat.not_lt.mpr (Nat.le_succ _))) kvs ep).toS
 refine wpAny_ite ?_
 rw [if_pos (by decide +kernel)]
 refine wpAny_bind (wpAny_rule ?_)
 have g0 : h'.get? s.heap.objs.size = some { cls := .type "list", data := .seq ([] : List Value).toArray } := kp _ _ (Heap.get?_push_size _ rfl)
 have nf : s.heap.objs.size ∉ [s.heap.objs.size + 1, a] := fun m => by
  simp only [List.mem_cons, List.not_mem_nil, or_false] at m
  rcases m with z | z
  ·omega
  ·rw [<- z] at alt; exact Nat.lt_irrefl _ alt
 refine wpAny_bind ?_
 show wpAny _ A.in1 (updateSeq s.heap.objs.size (·.push .none) >>= fun _ => updateSeq s.heap.objs.size (·.pop)) _ _ _
 refine wpAny_bind (wpAny_updateSeq g0 rfl ?_)
 have g1 := Heap.get?_update_self (Obj.mapSeq (·.push Value.none)) g0 rfl
 refine wpAny_updateSeq g1 rfl ?_
 have g2 := Heap.get?_update_self (Obj.mapSeq (·.pop)) g1 rfl
 have oth : ∀ b o, b ≠ s.heap.objs.size -> h'.get? b = some o -> ((h'.update s.heap.objs.size (Obj.mapSeq (·.push Value.none))).update s.heap.objs.size (Obj.mapSeq (·.pop))).get? b = some o :=
  fun b o hb e => (Heap.get?_update_other _ _ (Ne.symm hb)).trans ((Heap.get?_update_other _ _ (Ne.symm hb)).trans e)
 refine wpAny_pure ⟨plainId_quiet F.plain_extend_loop _, codeAny_extend_loopS W (by rw [hkl]; exact hl) _ nf _ kvs.length 0 _ _ _ rfl (Nat.zero_le _)
  (W.frame 0 { s with heap := h' } _ s.toks st0 (Nat.le_refl _) fun b hb o e => oth b o (fun z => nf (z ▸ hb)) e) g2 (ItemsOf.nil _) fun s' acc' c' hm g' hacc => ?_⟩
 show wpAny _ A (load s.heap.objs.size >>= _) _ _ s'
 refine wpAny_bind (wpAny_load g' ?_)
 have hs := strs_of_keys hks hacc
 obtain ⟨h'', g'', d'', tk'', os''⟩ := s'
 have e1 : g'' = s.gens := hm.gens
 have e2 : os'' = s.os := hm.os
 subst e1 e2
 refine wpAny_pure (hQ h'' d'' tk'' acc'.toList us hs (List.Perm.refl _) (Heap.lt_size g') fun b o e => hm.heap b o (fun m => ?_) (oth b o (Nat.ne_of_lt (Heap.lt_size e)) (kp b o (Heap.get?_push_of_some _ e))))
 have lt := Heap.lt_size e
 simp only [List.mem_cons, List.not_mem_nil, or_false] at m
 rcases m with m | m
 ·rw [m] at lt; exact Nat.lt_irrefl _ lt
 ·rw [m] at lt; exact absurd lt (Nat.not_lt.mpr (Nat.le_succ _))
theorem any_sortedDict {kvs : List (Key × Value)} {ep : Nat} {Q : Value -> Shared -> Prop} (hh : A.handled = none) (hsm : (a == sysModules) = false) (S : s.heap.DictAt (mixKind prog w) a kvs ep) (hks : kvs.map (·.1) = us.map Sum.inr) (h64 : us.length < 64)
  (h : ∀ h' d tk (l : Addr) (out : List Value) (ss : List Str) (e : Nat), StrsAre out ss -> ss.Perm us -> sortedS ss = true -> h'.get? l = some (seqObj "list" out.toArray e) -> s.heap.objs.size <= l -> (∀ b o, s.heap.get? b = some o -> h'.get? b = some o) ->
   Q (.ref l) { s with heap := h', drawn := d, toks := tk }) : wpAny (model prog w) A (call (.builtin "sorted") [.ref a]) Q E s := by
 refine Calls.call_function_entry kind_sorted plain_sorted entry_sorted (args_sorted1 _) ?_
 unfold Builtin.«sorted»
 refine wpAny_bind (m := checkCount "sorted" 1 1 _) (wpAny_pure ?_)
 refine wpAny_bind (any_collectDict (by simp [hh]) hsm S hks (Nat.le_of_lt (Nat.lt_trans h64 (by decide))) fun h1 d tk acc vs hs hp le kp => ?_)
 have hlen : acc.length < 64 := by rw [strs_len hs, hp.length_eq]; exact h64
 refine wpAny_bind (wpAny_newList ?_ (Nat.le_of_lt (Nat.lt_trans hlen (by decide))))
 have hoL : (h1.push (seqObj "list" acc.toArray 0)).get? h1.objs.size = some (seqObj "list" acc.toArray 0) := Heap.get?_push_size _ rfl
 refine wpAny_bind (wpAny_holding (wpAny_call_entry slot_list_sort ⟨_, hoL, rfl⟩ entry_list_sort (list_sort_treeK strKind_oneLt hoL hs.keysOf (fun v₁ v₂ rest e => keyKind_strs (by rw [<- e]; exact hs)) hlen fun st' a1 a2 => ⟨_, rfl, ?_⟩) (args_list_sort _)))
 obtain ⟨ss', b1, b2, b3⟩ := sorted_out_str hs a1 a2
 obtain ⟨e, he⟩ := sortedHeap_at (out := (arrOf st').map (·.2)) hoL
 refine wpAny_pure ⟨_, rfl, h _ _ _ _ ((arrOf st').map (·.2)).toList ss' e b1 (b2.trans hp) b3 (by rw [Array.toArray_toList]; exact he) (Nat.le_of_lt le) fun b o q => ?_⟩
 have lt := Heap.lt_size (kp b o q)
 rw [sortedHeap_old (Nat.ne_of_lt lt) (by rw [Heap.size_push]; exact Nat.lt_succ_of_lt lt)]
 exact Heap.get?_push_of_some _ (kp b o q)
end
section
variable {X : Cx}
def rSortD : List V -> Hp -> VK -> Prop := fun xs H Q => ∃ (a : Addr) (ob : Obj) (kvs : List (Key × V)) (us : List Str), xs = [.ref a] /\ FzD H a ob kvs /\ kvs.map (·.1) = us.map Sum.inr /\ us.length < 64 /\
  ∀ (ss : List Str) (l : Addr), ss.Perm us -> sortedS ss = true -> H l = none -> Q (.ref l) (upd H l (.lst (ss.map V.str)))
theorem kv_keys : ∀ {kvs : List (Key × V)} {vs : List (Key × Value)}, KV kvs vs -> kvs.map (·.1) = vs.map (·.1)
 | [], _, .nil => rfl
 | _ :: _, _, .cons r rs => by rw [List.map_cons, List.map_cons, r.1, kv_keys rs]
theorem call_sortedD (hc : X.calm = true) : CallR X (.builtin "sorted") rSortD := by
 intro pins s σ H xs us Q I r h
 obtain ⟨a, ob, kvs, uu, rfl, hz, hk, h64, q⟩ := h
 obtain ⟨u, rfl, rx⟩ := vals1 r
 cases rx
 obtain ⟨e, hs, hl, vs, es, ep, rr, dd, hd⟩ := fz_dict I hz
 refine any_sortedDict (I.ok.hd hc) hs dd (by rw [<- kv_keys rr]; exact hk) h64 fun h' d tk l out ss e hs hp hso hl le k => ?_
 refine ⟨.ref l, _, (I.laid (t' := tk) (o := .lst (ss.map V.str)) k le ?_).draw d, rfl, q ss l hp hso (I.hok.fresh le)⟩
 refine ⟨?_, out, e, vals_ofStrs hs, hl⟩
 rw [List.length_map, hp.length_eq]
 exact Nat.le_of_lt (Nat.lt_trans h64 (by decide))
end
end L2
namespace L2
open PySem PySem.Spec PyProof.Rows
section
variable {X : Cx}
def rLenD : List V -> Hp -> VK -> Prop := fun xs H Q => ∃ (a : Addr) (kvs : List (Key × V)), xs = [.ref a] /\ Rd H a (.dK kvs) /\ Q (.int kvs.length) H
theorem call_lenDK : CallR X (.builtin "len") rLenD := by
 intro pins s σ H xs us Q I r h
 obtain ⟨a, kvs, rfl, e, q⟩ := h
 obtain ⟨u, rfl, rx⟩ := vals1 r
 cases rx
 exact d_len I e fun t s' I' => ⟨.int kvs.length, H, I', ⟨t, rfl⟩, q⟩
def rIxD : R2 := fun x y H Q => ∃ a v, x = .ref a /\ DGet H a y (some v) /\ Q v H
theorem ix_dict (hu : X.A.units + 1 < cLine) : IxR X rIxD := by
 intro value slice pins s σ H x y v u Q I rx ry h hs
 obtain ⟨a, z, rfl, g, q⟩ := h
 cases rx
 have hT := dict_typeIs I g
 unfold subscriptTail
 refine wpAny_bind ?_
 rw [getitemInPython_of_ne hT.not_modules]
 refine wpAny_bind (wpAny_specialOf hT PySem.F.slot_dict_getitem.lookup ?_)
 have fin : wpAny (model X.prog X.w) X.A (subscripted slice false (.ref a) u) (fun r s₃ => wpAny (model X.prog X.w) X.A (letTemporaryGo value (.ref a) r >>= fun _ => pure r) (EP X pins σ Q) X.xe s₃) X.xe s := by
  rw [hs]
  exact wpAny_operating (d_getItem hu I g ry fun w' s3 I3 rw' => wpAny_bind (wpAny_letTemporaryGo (wpAny_pure ⟨z, H, I3, rw', q⟩)))
 first
  | exact wpAny_pure (wpAny_bind fin)
  | exact wpAny_bind (wpAny_pure (wpAny_bind fin))
  | exact wpAny_bind fin
def rInD : R2 := fun y x H Q => ∃ a o, x = .ref a /\ DGet H a y o /\ Q (.bl o.isSome) H
theorem op_in_dict (hu : X.A.units + 1 < cLine) : OpR X (compareOp .In) rInD := by
 intro pins s σ H y x u v Q I ry rx h
 obtain ⟨a, o, rfl, g, q⟩ := h
 cases rx
 exact d_in hu I g ry fun s' I' => ⟨.bl _, H, I', rfl, q⟩
end
end L2
namespace L2
open PySem PySem.Spec PyProof.Rows
def fzb : HO -> Bool
 | .lst _ => true
 | .dK _ => true
 | _ => false
def FrozenA (H H1 H2 : Hp) : Prop := ∀ b, (H b = none /\ ∃ o ob, fzb o = true /\ H1 b = some o /\ H2 b = some (.frz ob o)) \/ (¬ (H b = none /\ ∃ o, fzb o = true /\ H1 b = some o) /\ H2 b = H1 b)
section
variable {H H1 H2 : Hp} {b : Addr} {o : HO}
theorem FrozenA.keep (f : FrozenA H H1 H2) (h : H1 b = some o) (n : fzb o = false) : H2 b = some o := by
 rcases f b with ⟨_, o', ob, z, e, _⟩ | ⟨_, z⟩
 ·rw [h] at e; cases e; rw [n] at z; exact absurd z Bool.false_ne_true
 ·rw [z]; exact h
theorem FrozenA.fz (f : FrozenA H H1 H2) (hn : H b = none) (h : H1 b = some o) (n : fzb o = true) : ∃ ob, H2 b = some (.frz ob o) := by
 rcases f b with ⟨_, o', ob, z, e, e2⟩ | ⟨z, _⟩
 ·rw [h] at e; cases e; exact ⟨ob, e2⟩
 ·exact absurd ⟨hn, o, n, h⟩ z
theorem FrozenA.none_of (f : FrozenA H H1 H2) (h : H1 b = none) : H2 b = none := by
 rcases f b with ⟨_, o', ob, z, e, e2⟩ | ⟨_, z⟩
 ·rw [h] at e; cases e
 ·rw [z]; exact h
end
theorem Good.imp {P : Program} {w : World} {K : PySem.W.Frag} {mg : Str -> Option Value} {base : Heap} {k : Nat} {x : Str} {ps : List Str} {sp sp' : Sp} (G : Good P w K mg base k x ps sp) (h : ∀ vs H Q E, sp' vs H Q E -> sp vs H Q E) : Good P w K mg base k x ps sp' := by
 obtain ⟨f, fd, F, b, m, kp⟩ := G
 exact ⟨f, fd, F.imp h, b, m, kp⟩
def hardb : HO -> Bool
 | .frz _ _ => true
 | .tup _ => true
 | _ => false
def HS (H H' : Hp) : Prop := ∀ b o, hardb o = true -> H b = some o -> H' b = some o
section
variable {H H1 H2 : Hp} {a p c : Addr} {o : HO}
theorem HS.refl (H : Hp) : HS H H := fun _ _ _ e => e
theorem HS.trans (x : HS H H1) (y : HS H1 H2) : HS H H2 := fun b o h e => y b o h (x b o h e)
theorem Same.hs (s : Same H H1) : HS H H1 := fun b o _ e => s b o e
theorem FrozenA.hs (f : FrozenA H H1 H2) : HS H1 H2 := fun b o h e => f.keep e (by cases o <;> first | rfl | exact absurd h Bool.false_ne_true)
theorem hs_new (h : H a = none) : HS H (upd H a o) := fun b u _ e => by rw [upd_ne (ne_of_none e h)]; exact e
theorem hs_put {u : HO} (h : H a = some u) (n : hardb u = false) : HS H (upd H a o) := fun b v hv e => by
 by_cases z : b = a
 ·subst z; rw [h] at e; cases e; rw [n] at hv; exact absurd hv Bool.false_ne_true
 ·rw [upd_ne z]; exact e
end
end L2
namespace WordM
open PySem
def sigA : Str := " !\"#$&'()*+,-./0123456789:;<=>?@ABCDEFGHIJKLMNOPQRSTUVWXYZ[\\]^_`"
def sigB : Str := "abcdefghijklmnopqrstuvwxyz{|}~"
def SIG : Str := sigA ++ sigB
abbrev cs (x : Str) : List Nat := x.cps.toList
def sFig : Str := "0123456789"
def sGreat : Str := "ABCDEFGHIJKLMNOPQRSTUVWXYZ"
def sOther : Str := " !\"#$&'()*+,-./:;<=>?\x40[\\]^_`{|}~"
def sSmall : Str := "abcdefghijklmnopqrstuvwxyz"
def SGN : List (Str × Str) := [("figure", sFig), ("great", sGreat), ("other", sOther), ("small", sSmall)]
def MK : List Str := ["figure", "great", "other", "small"]
def Sg (x : Str) : Prop := ∀ c ∈ cs x, c ∈ cs SIG
instance (x : Str) : Decidable (Sg x) := by unfold Sg; infer_instance
theorem app (a b : Str) : cs (a ++ b) = cs a ++ cs b := by
 show (a.cps ++ b.cps).toList = _
 simp
theorem len (a : Str) : a.length = (cs a).length := by simp [Str.length]
theorem Sg.app {a b : Str} (ha : Sg a) (hb : Sg b) : Sg (a ++ b) := fun c hc => by
 rw [WordM.app] at hc
 rcases List.mem_append.mp hc with z | z
 ·exact ha c z
 ·exact hb c z
theorem Sg.one {x : Str} (h : Sg x) {c : Nat} (hc : c ∈ cs x) : Sg ⟨#[c]⟩ := fun d hd => by
 have : d = c := by simpa using hd
 rw [this]
 exact h c hc
theorem sg_nil : Sg ⟨#[]⟩ := fun c hc => by simp at hc
theorem slice_mem {x : Str} {l u : Option Int} {c : Nat} (h : c ∈ cs (Txt.slice x l u)) : c ∈ cs x := by
 unfold Txt.slice at h
 split at h
 ·exact h
 ·simp only [cs, List.toList_toArray, List.mem_filterMap] at h
  obtain ⟨i, _, hi⟩ := h
  obtain ⟨hlt, e⟩ := Array.getElem?_eq_some_iff.mp hi
  rw [<- e]
  simp
theorem Sg.slice {x : Str} (h : Sg x) (l u : Option Int) : Sg (Txt.slice x l u) := fun c hc => h c (slice_mem hc)
theorem slice_len (x : Str) (l u : Option Int) : (Txt.slice x l u).length <= x.length := Txt.slice_le x l u
theorem str_ext {a b : Str} (h : cs a = cs b) : a = b := by
 obtain ⟨a⟩ := a
 obtain ⟨b⟩ := b
 have : a = b := Array.toList_inj.mp h
 rw [this]
theorem slice_tail {c : Nat} {r : Str} : Txt.slice ((⟨#[c]⟩ : Str) ++ r) (some 1) none = r := by
 refine str_ext ?_
 have hl : (((⟨#[c]⟩ : Str) ++ r).length) = 1 + r.length := by rw [len, app, len]; simp
 rw [PyProof.Rows.slice_from_eq (b := ((((⟨#[c]⟩ : Str) ++ r).length : Nat) : Int)) (by decide) (by omega) rfl]
 show ((cs ((⟨#[c]⟩ : Str) ++ r)).drop 1).take _ = _
 rw [app]
 show ((c :: cs r).drop 1).take _ = cs r
 rw [List.drop_one, List.tail_cons, List.take_of_length_le]
 rw [hl, len]
 omega
theorem slice_tail0 {x : Str} (h : x.length = 0) : Txt.slice x (some 1) none = x := by
 have h1 := slice_len x (some 1) none
 refine str_ext ?_
 have e1 : cs (Txt.slice x (some 1) none) = [] := List.eq_nil_of_length_eq_zero (by rw [<- len]; omega)
 have e2 : cs x = [] := List.eq_nil_of_length_eq_zero (by rw [<- len]; omega)
 rw [e1, e2]
theorem sig_len : SIG.length = 94 := by decide +kernel
theorem sig_nodup : (cs SIG).Nodup := by decide +kernel
theorem slice1_len (x : Str) : (Txt.slice x (some 1) none).length + 1 <= (if x.length < 1 then 1 else x.length) := by
 by_cases h : x.length = 0
 ·rw [slice_tail0 h, if_pos (by omega)]
  omega
 ·rw [if_neg (by omega)]
  rw [PyProof.Rows.slice_from_eq (b := (x.length : Int)) (by decide) (by omega) rfl]
  show (((cs x).drop 1).take _).toArray.size + 1 <= _
  rw [List.size_toArray, List.length_take, List.length_drop, <- len]
  omega
theorem nodup_len {α : Type} [DecidableEq α] : ∀ {l m : List α}, l.Nodup -> (∀ x ∈ l, x ∈ m) -> l.length <= m.length
 | [], m, _, _ => Nat.zero_le _
 | x :: l, m, hn, hs => by
  have hx := hs x List.mem_cons_self
  have h2 := List.nodup_cons.mp hn
  have ih := nodup_len (l := l) (m := m.erase x) h2.2 fun y hy => by
   have hne : y ≠ x := fun e => h2.1 (e ▸ hy)
   exact (List.mem_erase_of_ne hne).mpr (hs y (List.mem_cons_of_mem _ hy))
  rw [List.length_erase_of_mem hx] at ih
  have : 0 < m.length := List.length_pos_of_mem hx
  rw [List.length_cons]
  omega
def sigAt (a : Int) : Nat := (cs SIG).getD (a % 94).toNat 0
theorem sigAt_mem (a : Int) : sigAt a ∈ cs SIG := by
 have hl : (a % 94).toNat < (cs SIG).length := by
  rw [<- len, sig_len]
  have := Int.emod_lt_of_pos a (show (0 : Int) < 94 by decide)
  have := Int.emod_nonneg a (show (94 : Int) ≠ 0 by decide)
  omega
 unfold sigAt
 rw [List.getD_eq_getElem?_getD, List.getElem?_eq_getElem hl]
 exact List.getElem_mem hl
theorem sigAt_inj {a b : Int} (h : sigAt a = sigAt b) : a % 94 = b % 94 := by
 have b1 := Int.emod_lt_of_pos a (show (0 : Int) < 94 by decide)
 have b2 := Int.emod_nonneg a (show (94 : Int) ≠ 0 by decide)
 have b3 := Int.emod_lt_of_pos b (show (0 : Int) < 94 by decide)
 have b4 := Int.emod_nonneg b (show (94 : Int) ≠ 0 by decide)
 have hl : (cs SIG).length = 94 := by rw [<- len]; exact sig_len
 unfold sigAt at h
 rw [List.getD_eq_getElem?_getD, List.getD_eq_getElem?_getD, List.getElem?_eq_getElem (by omega), List.getElem?_eq_getElem (by omega)] at h
 have h : (cs SIG)[(a % 94).toNat] = (cs SIG)[(b % 94).toNat] := h
 have hp := List.pairwise_iff_getElem.mp sig_nodup
 rcases Nat.lt_trichotomy (a % 94).toNat (b % 94).toNat with z | z | z
 ·exact absurd h (hp _ _ (by omega) (by omega) z)
 ·omega
 ·exact absurd h.symm (hp _ _ (by omega) (by omega) z)
def tryT (a : Int) (r : Str) (i : Nat) : Str := (⟨#[sigAt (a + i)]⟩ : Str) ++ r
theorem tryT_inj {a : Int} {r : Str} {i j : Nat} (hi : i < 90) (hj : j < 90) (h : tryT a r i = tryT a r j) : i = j := by
 have h1 : cs (tryT a r i) = cs (tryT a r j) := by rw [h]
 unfold tryT at h1
 rw [app, app] at h1
 have h2 : sigAt (a + i) = sigAt (a + j) := by
  have := List.cons.inj h1
  exact this.1
 have := sigAt_inj h2
 omega
theorem tried_le {a : Int} {r : Str} {ss : List Str} {j : Nat} (hj : j < 80) (h : ∀ i, 1 <= i -> i <= j -> tryT a r i ∈ ss) : j <= ss.length := by
 have := nodup_len (l := (List.range j).map fun i => tryT a r (i + 1)) (m := ss) (by
  unfold List.Nodup
  rw [List.pairwise_map]
  refine List.Pairwise.imp_of_mem (fun {x y} hx hy hlt e => ?_) List.pairwise_lt_range
  have hx := List.mem_range.mp hx
  have hy := List.mem_range.mp hy
  have := tryT_inj (by omega) (by omega) e
  omega) (fun x hx => by
  obtain ⟨i, hi, rfl⟩ := List.mem_map.mp hx
  have := List.mem_range.mp hi
  exact h (i + 1) (by omega) (by omega))
 simpa using this
end WordM
namespace L2
open PySem PySem.Spec PyProof.Rows WordM
section
variable {α β : Type} {F G : α -> β -> Prop}
theorem paired_get : ∀ {xs : List α} {ys : List β} {i : Nat} {x : α}, Paired F xs ys -> xs[i]? = some x -> ∃ y, ys[i]? = some y /\ F x y
 | _, _, _, _, .nil, e => by simp at e
 | _, _, 0, _, .cons r _, e => by simp at e; subst e; exact ⟨_, rfl, r⟩
 | _, _, i + 1, x, .cons _ t, e => by
  obtain ⟨u, h1, h2⟩ := paired_get (i := i) (x := x) t (by simpa using e)
  exact ⟨u, by simpa using h1, h2⟩
end
inductive Tv where
 | leaf (v : V)
 | seq (t : Bool) (xs : List Tv)
 | dct (kts : List (Str × Tv))
def VT (S : Bool -> Addr -> List V -> Prop) (D : Addr -> List (Key × V) -> Prop) : Nat -> V -> Tv -> Prop
 | 0, _, _ => False
 | d + 1, x, T => (flatV x = true /\ T = .leaf x) \/ (∃ t a xs Ts, x = .ref a /\ S t a xs /\ T = .seq t Ts /\ Ts.length <= 100000 /\ Paired (VT S D d) xs Ts) \/
   ∃ a kvs kts, x = .ref a /\ D a kvs /\ T = .dct kts /\ (kts.map (·.1)).Nodup /\ kts.length < 64 /\ Paired (fun (kv : Key × V) (kt : Str × Tv) => kv.1 = .inr kt.1 /\ VT S D d kv.2 kt.2) kvs kts
section
variable {S S' : Bool -> Addr -> List V -> Prop} {D D' : Addr -> List (Key × V) -> Prop}
theorem VT.mono (hs : ∀ t a xs, S t a xs -> S' t a xs) (hd : ∀ a kvs, D a kvs -> D' a kvs) : ∀ {d : Nat} {x : V} {T : Tv}, VT S D d x T -> VT S' D' d x T
 | 0, _, _, h => False.elim h
 | d + 1, x, T, h => by
  rcases h with h | ⟨t, a, xs, Ts, h1, h2, h3, hz, h4⟩ | ⟨a, kvs, kts, h1, h2, h3, h4, h5, h6⟩
  ·exact .inl h
  ·exact .inr (.inl ⟨t, a, xs, Ts, h1, hs _ _ _ h2, h3, hz, Paired.mapP h4 fun _ _ q => VT.mono hs hd q⟩)
  ·exact .inr (.inr ⟨a, kvs, kts, h1, hd _ _ h2, h3, h4, h5, Paired.mapP h6 fun _ _ q => ⟨q.1, VT.mono hs hd q.2⟩⟩)
theorem VT.more : ∀ {d : Nat} {x : V} {T : Tv}, VT S D d x T -> VT S D (d + 1) x T
 | 0, _, _, h => False.elim h
 | d + 1, x, T, h => by
  rcases h with h | ⟨t, a, xs, Ts, h1, h2, h3, hz, h4⟩ | ⟨a, kvs, kts, h1, h2, h3, h4, h5, h6⟩
  ·exact .inl h
  ·exact .inr (.inl ⟨t, a, xs, Ts, h1, h2, h3, hz, Paired.mapP h4 fun _ _ q => VT.more q⟩)
  ·exact .inr (.inr ⟨a, kvs, kts, h1, h2, h3, h4, h5, Paired.mapP h6 fun _ _ q => ⟨q.1, VT.more q.2⟩⟩)
theorem VT.le {d e : Nat} (h : d <= e) {x : V} {T : Tv} (q : VT S D d x T) : VT S D e x T := by
 obtain ⟨k, rfl⟩ := Nat.le.dest h
 clear h
 induction k with
 | zero => exact q
 | succ k ih => exact VT.more ih
end
def HDct (H : Hp) (a : Addr) (kvs : List (Key × V)) : Prop := ∃ ob, FzD H a ob kvs
section
variable {K : PySem.W.Frag} {H H' : Hp} {d : Nat} {x : V} {T : Tv}
theorem HDct.hs (e : HS H H') {a : Addr} {kvs : List (Key × V)} (h : HDct H a kvs) : HDct H' a kvs := by
 obtain ⟨ob, h⟩ := h
 exact ⟨ob, e _ _ rfl h⟩
end
theorem rising_pw' : ∀ (p : Str) (l : List Str), risingS p l = true -> ∀ x ∈ l, (cs x < cs p) -> False := by
 intro p l
 induction l generalizing p with
 | nil => intro _ x hx; simp at hx
 | cons y l ih =>
  intro h x hx hlt
  have h : (!PySem.Spec.ltCps y.cps.toList p.cps.toList && risingS y l) = true := h
  rw [Bool.and_eq_true] at h
  have hy : ¬ (cs y < cs p) := by
   have := h.1
   rw [ltCps_eq] at this
   simpa using this
  rcases List.mem_cons.mp hx with z | z
  ·subst z; exact hy hlt
  ·have hxy : ¬ (cs x < cs y) := fun q => ih y h.2 x z q
   have h1 : cs p <= cs y := List.not_lt.mp hy
   have h2 : cs y <= cs x := List.not_lt.mp hxy
   exact absurd hlt (List.not_lt.mpr (List.le_trans h1 h2))
theorem sorted_pw' : ∀ (l : List Str), sortedS l = true -> l.Pairwise fun a b => cs a <= cs b
 | [], _ => .nil
 | x :: l, h => by
  have h : risingS x l = true := h
  refine .cons (fun y hy => List.not_lt.mp fun z => rising_pw' x l h y hy z) (sorted_pw' l ?_)
  cases l with
  | nil => rfl
  | cons y l =>
   have h : (!PySem.Spec.ltCps y.cps.toList x.cps.toList && risingS y l) = true := h
   rw [Bool.and_eq_true] at h
   exact h.2
open Classical in
noncomputable def sortS (us : List Str) : List Str := if h : ∃ ss : List Str, ss.Perm us /\ sortedS ss = true then h.choose else us
theorem sortS_perm (us : List Str) : (sortS us).Perm us := by
 unfold sortS
 split
 ·rename_i h; exact h.choose_spec.1
 ·exact .refl _
theorem sortS_eq {us ss : List Str} (h1 : ss.Perm us) (h2 : sortedS ss = true) : ss = sortS us := by
 have ex : ∃ ss : List Str, ss.Perm us /\ sortedS ss = true := ⟨ss, h1, h2⟩
 have e : sortS us = ex.choose := by unfold sortS; rw [dif_pos ex]
 rw [e]
 exact List.Perm.eq_of_pairwise (fun a b _ _ h1 h2 => str_ext (List.le_antisymm h1 h2)) (sorted_pw' _ h2) (sorted_pw' _ ex.choose_spec.2) (h1.trans ex.choose_spec.1.symm)
def lookD (kts : List (Str × Tv)) (k : Str) : Option Tv := (kts.find? fun kt => decide (kt.1 = k)).map (·.2)
section
variable {S : Bool -> Addr -> List V -> Prop} {D : Addr -> List (Key × V) -> Prop} {d : Nat}
theorem look_at {kvs : List (Key × V)} {kts : List (Str × Tv)} {R : V -> Tv -> Prop} (h : Paired (fun (kv : Key × V) (kt : Str × Tv) => kv.1 = .inr kt.1 /\ R kv.2 kt.2) kvs kts) (k : Str) :
  (lookD kts k = none /\ valV kvs (.inr k) = none) \/ ∃ U v, lookD kts k = some U /\ valV kvs (.inr k) = some v /\ R v U := by
 induction h with
 | nil => exact .inl ⟨rfl, rfl⟩
 | @cons kv kt l1 l2 h _ ih =>
  obtain ⟨e, r⟩ := h
  by_cases z : kt.1 = k
  ·refine .inr ⟨kt.2, kv.2, ?_, valV_pos (by rw [e, z]), r⟩
   unfold lookD
   rw [List.find?_cons, decide_eq_true z]
   rfl
  ·have e2 : lookD (kt :: l2) k = lookD l2 k := by
    unfold lookD
    rw [List.find?_cons, decide_eq_false z]
   have e3 : valV (kv :: l1) (.inr k) = valV l1 (.inr k) := valV_neg (by rw [e]; exact fun q => z (Sum.inr.inj q))
   rw [e2, e3]
   exact ih
end
theorem SqT.hs {K : PySem.W.Frag} {H H' : Hp} {a : Addr} {xs : List V} (e : HS H H') (h : SqT K H a xs) : SqT K H' a xs := by
 rcases h with (h | ⟨o, h⟩) | h
 ·exact .inl (.inl (e _ _ rfl h))
 ·exact .inl (.inr ⟨o, e _ _ rfl h⟩)
 ·exact .inr h
theorem paired_app {α β : Type} {F : α -> β -> Prop} {a c : List α} {b d : List β} (h1 : Paired F a b) (h2 : Paired F c d) : Paired F (a ++ c) (b ++ d) := by
 induction h1 with
 | nil => exact h2
 | cons r _ ih => exact .cons r ih
end L2
namespace L2
open PySem PySem.Spec PyProof.Rows
abbrev noHp : Hp := fun _ => none
def Thaw (H H3 H4 : Hp) : Prop := ∀ b, (∃ o ob, fzb o = true /\ H b = some o /\ H3 b = some (.frz ob o) /\ H4 b = some o) \/ ((¬ ∃ o ob, fzb o = true /\ H b = some o /\ H3 b = some (.frz ob o)) /\ H4 b = H3 b)
theorem thaw_is (H H3 : Hp) : ∃ H4, Thaw H H3 H4 := by
 classical
 refine ⟨fun b => if h : ∃ o ob, fzb o = true /\ H b = some o /\ H3 b = some (.frz ob o) then some h.choose else H3 b, fun b => ?_⟩
 by_cases h : ∃ o ob, fzb o = true /\ H b = some o /\ H3 b = some (.frz ob o)
 ·obtain ⟨ob, h1, h2, h3⟩ := h.choose_spec
  exact .inl ⟨h.choose, ob, h1, h2, h3, by dsimp only; rw [dif_pos h]⟩
 ·exact .inr ⟨h, by dsimp only; rw [dif_neg h]⟩
theorem frozen_is {P : Program} {w : World} {H : Hp} {h : Heap} (hok : HOk P w H h) : ∃ H2, FrozenA noHp H H2 /\ HOk P w H2 h := by
 let H2 : Hp := fun b => match H b with
  | none => none
  | some o => match fzb o with
   | false => some o
   | true => match h.get? b with
    | some ob => some (.frz ob o)
    | none => some o
 have new : ∀ b o ob, H b = some o -> fzb o = true -> h.get? b = some ob -> H2 b = some (.frz ob o) := fun b o ob h1 n e => by
  show (match H b with | none => none | some o => _) = _
  rw [h1]
  dsimp only
  rw [n, e]
 have rest : ∀ b, (∀ o, H b = some o -> fzb o = false) -> H2 b = H b := fun b hn => by
  show (match H b with | none => none | some o => _) = _
  cases e : H b with
  | none => rfl
  | some o =>
   dsimp only
   rw [hn o e]
 have fro : FrozenA noHp H H2 := fun b => by
  cases h1 : H b with
  | none => exact .inr ⟨(fun ⟨_, _, _, z⟩ => by cases z), by rw [rest b (fun o z => by rw [h1] at z; cases z), h1]⟩
  | some o =>
   cases n : fzb o with
   | true =>
    obtain ⟨ob, e⟩ := (hok b o h1).there
    exact .inl ⟨rfl, o, ob, n, rfl, new b o ob h1 n e⟩
   | false => exact .inr ⟨(fun ⟨_, o', n', z⟩ => by cases z; rw [n] at n'; exact absurd n' Bool.false_ne_true), by rw [rest b (fun o' z => by rw [h1] at z; cases z; exact n), h1]⟩
 refine ⟨H2, fro, fun b o e => ?_⟩
 have st : ∀ o, ObjOk P w H h b o -> ObjOk P w H2 h b o := fun o x => x.stay (fun _ _ _ r => r) (fun d r => fro.keep r rfl) fun d xs r => fro.keep r rfl
 rcases fro b with ⟨hn, o', ob, n, z, z'⟩ | ⟨_, z'⟩
 ·obtain ⟨ob2, e2⟩ := (hok b o' z).there
  have q2 := new b o' ob2 z n e2
  rw [e] at q2
  cases q2
  exact ⟨e2, st _ (hok b _ z)⟩
 ·rw [z'] at e
  exact st o (hok b o e)
section
variable {H H2 H3 H4 : Hp} {b : Addr} {o : HO}
theorem Thaw.same (f : FrozenA noHp H H2) (s : Same H2 H3) (t : Thaw H H3 H4) : Same H H4 := fun b o e => by
 cases n : fzb o with
 | true =>
  obtain ⟨ob, e2⟩ := f.fz (b := b) rfl e n
  have e3 := s b _ e2
  rcases t b with ⟨u, ob', _, z, _, z'⟩ | ⟨z, _⟩
  ·rw [e] at z; cases z; exact z'
  ·exact absurd ⟨o, ob, n, e, e3⟩ z
 | false =>
  have e3 := s b _ (f.keep e n)
  rcases t b with ⟨u, ob', n', z, _⟩ | ⟨_, z⟩
  ·rw [e] at z; cases z; rw [n] at n'; exact absurd n' Bool.false_ne_true
  ·rw [z]; exact e3
end
end L2
namespace L2
open PySem PySem.Spec PyProof.Rows
def ItE (K : PySem.W.Frag) (a : Addr) : It :=
  ⟨fun i H => ∃ xs x, SqL K H a xs /\ xs[i]? = some x,
   fun i H v H' => ∃ p x, v = .ref p /\ H p = none /\ H' = upd H p (.tup [.int (i : Int), x]) /\ ∀ xs, SqL K H a xs -> xs[i]? = some x,
   fun i H => ∃ xs, SqL K H a xs /\ xs.length <= i⟩
theorem turn_enum {P : Program} {w : World} {K : PySem.W.Frag} {es : List Expr} {ek : Nat} {pos : Pos} (a e it : Addr) (hei : e ≠ it) (hae : a ≠ e) (hai : a ≠ it) :
  Turn P w K (.Tuple es ek pos) (ItE K a) [e, it] e (fun i h => (∃ old, IsEnum h e it (i : Int) old) /\ h.IsListIter it a i) where
 mem := by simp
 obj := fun i h st b hb => by
  obtain ⟨⟨old, st⟩, j⟩ := st
  rcases List.mem_cons.mp hb with rfl | hb
  ·exact ⟨_, st, fun v z => by
    have z' : Data.fields _ = Data.cell v := z
    cases z'⟩
  ·have q : b = it := by simpa using hb
   subst q
   obtain ⟨o, e', c, d⟩ := j
   exact ⟨o, e', fun v z => by rw [d] at z; cases z⟩
 keep := fun i h h' ⟨⟨old, st⟩, j⟩ k => ⟨⟨old, k e (by simp) _ st⟩, j.at fun o e' => k it (by simp) o e'⟩
 item := by
  intro X hP hw hK hc i pins s σ H E I hf st hg
  subst hP hw hK
  obtain ⟨xs, x, hx, hi⟩ := hg
  obtain ⟨⟨old, st⟩, j⟩ := st
  obtain ⟨its, r, pl, hz⟩ := I.list hx
  obtain ⟨u, hu, ru⟩ := r.get hi
  refine wpAny_pyNext_enum_item st j pl.isList (x := u) (by simpa using hu) hei fun h' a1 a2 a3 a4 a5 => ⟨_, rfl, ?_⟩
  refine wpAny_letOwnedTupleGo_enum (s := { s with heap := h', toks := s.toks + 1 }) a1 fun h2 b1 b2 => ?_
  have hne : e ≠ s.heap.objs.size := Nat.ne_of_lt (Heap.lt_size st)
  have hni : it ≠ s.heap.objs.size := by obtain ⟨o, e', _⟩ := id j; exact Nat.ne_of_lt (Heap.lt_size e')
  have hn : ∀ c ∈ [e, it], c ≠ s.heap.objs.size := fun c hc' => by
   simp only [List.mem_cons, List.not_mem_nil, or_false] at hc'
   rcases hc' with q | q
   ·rw [q]; exact hne
   ·rw [q]; exact hni
  have I0 : Inv X pins σ (upd H s.heap.objs.size (.tup [.int (i : Int), x])) { s with heap := s.heap.push { cls := .type "tuple", data := .seq #[.int (i : Int) s.toks, u] } } :=
   I.laid (t' := s.toks) (fun c o e => Heap.get?_push_of_some _ e) (Nat.le_refl _) ⟨by show 2 <= sizeLine; decide, [.int (i : Int) s.toks, u], .cons ⟨_, rfl⟩ (.cons ru .nil), IsTup.new _ _⟩
  have hf0 : ∀ c ∈ [e, it], FpOk X pins (upd H s.heap.objs.size (.tup [.int (i : Int), x])) c := fun c hc' => ⟨by rw [upd_ne (hn c hc')]; exact (hf c hc').1, (hf c hc').2⟩
  have I1 : Inv X pins σ (upd H s.heap.objs.size (.tup [.int (i : Int), x])) { s with heap := h2, toks := s.toks + 1 } := Inv.turnedL (s := { s with heap := s.heap.push { cls := .type "tuple", data := .seq #[.int (i : Int) s.toks, u] } }) (t' := s.toks + 1) (ch := [e, it]) I0 hf0 fun c o hc' e' => by
   simp only [List.mem_cons, List.not_mem_nil, or_false, not_or] at hc'
   obtain ⟨c1, c2⟩ := hc'
   by_cases hcn : c = s.heap.objs.size
   ·subst hcn
    have e'' : (s.heap.push { cls := .type "tuple", data := .seq #[.int (i : Int) s.toks, u] }).get? s.heap.objs.size = some o := e'
    rw [Heap.get?_push_size _ rfl] at e''
    cases e''
    exact b2.extBut _ _ c1 a3
   ·refine b2.extBut _ _ c1 (a5 c o c1 c2 ?_)
    have e'' : (s.heap.push { cls := .type "tuple", data := .seq #[.int (i : Int) s.toks, u] }).get? c = some o := e'
    rw [Heap.get?_push_ne _ _ _ hcn] at e''
    exact e''
  refine ⟨.ref s.heap.objs.size, _, I1, rfl, ⟨_, x, rfl, I.hok.fresh (Nat.le_refl _), rfl, fun xs' h => by rw [I.list_inj h hx]; exact hi⟩, ⟨⟨u, by have := b1; push_cast; exact this⟩, a2.at fun o e' => b2.extBut _ _ (Ne.symm hei) e'⟩, fun c hc' => (hf0 c hc').1⟩
 done := by
  intro X hP hw hK hc i pins s σ H E I hf st hg
  subst hP hw hK
  obtain ⟨xs, hx, hi⟩ := hg
  obtain ⟨⟨old, st⟩, j⟩ := st
  obtain ⟨its, r, pl, hz⟩ := I.list hx
  have la := r.length
  refine wpAny_pyNext_enum_end (I.ok.hd hc) st j pl.isList (by simp; omega) fun h' eb => ⟨rfl, I.turnedL (t' := s.toks) hf fun c o hc' e' => ?_⟩
  simp only [List.mem_cons, List.not_mem_nil, or_false, not_or] at hc'
  exact eb c o hc'.2 e'
 self := fun _ _ _ _ _ ⟨⟨_, st⟩, _⟩ h => wpAny_pyIter_enum st h
theorem boot_enumerate : bootBuiltins "enumerate" = some (.type "enumerate") := by decide +kernel
section
variable {X : Cx}
def iEnum (K : PySem.W.Frag) (ta : TA) : TI := fun σ H R => ta σ H fun vs H1 => ∃ a : Addr, vs = [.ref a] /\ (∃ xs, SqL K H1 a xs) /\ R (ItE K a) H1
theorem pi_enum {a : Expr} {ta : TA} {es : List Expr} {ek : Nat} {p pos pos' : Pos} (hg : Gl X "enumerate") (hm : X.mg "enumerate" = none) (ha : PA X [a] ta) (hs : starEach [a] X.env = [(false, eval a X.env)] := by rfl) :
  PI X (.Tuple es ek pos') (.Call (.Name "enumerate" p) [a] [] pos) (iEnum X.K ta) := by
 intro pins s σ H R I h
 refine Call_ (ld_blt I hg hm boot_enumerate (PyProof.Rows.callWith_type1 (thn (ha pos pins s σ H _ I h) fun us s1 ⟨vs, H1, I1, r1, q1⟩ => ?_) (by rw [hs]; rfl) (by rfl)))
 obtain ⟨a, e, ⟨xs, hx⟩, q⟩ := q1
 subst e
 obtain ⟨u, rfl, rx⟩ := vals1 r1
 cases rx
 obtain ⟨its, r, pl, hz⟩ := I1.list hx
 have la : a < s1.heap.objs.size := by obtain ⟨o, e, _⟩ := pl.isList; exact Heap.lt_size e
 refine call_enumerate_list pl.isList fun h' e1 e2 _ k => ?_
 refine wpAny_pyIter_enum e1 ?_
 refine ⟨_, [s1.heap.objs.size + 1, s1.heap.objs.size], _, _, H1, rfl, I1.kept (t' := s1.toks) k, turn_enum a _ _ (by intro (e : (_ : Nat) = _); omega) (Nat.ne_of_lt (Nat.lt_succ_of_lt la)) (Nat.ne_of_lt la), ⟨⟨_, e1⟩, e2⟩, fun c hc => ?_, q⟩
 have : s1.heap.objs.size <= c := by
  simp only [List.mem_cons, List.not_mem_nil, or_false] at hc
  rcases hc with e | e <;> (rw [e]; first | exact Nat.le_refl _ | exact Nat.le_add_right _ _)
 exact I1.fpOk this (I1.hok.fresh this)
end
end L2
namespace L2
open PySem PySem.Spec PyProof.Rows WordM
def PSeq (K : PySem.W.Frag) (H : Hp) (t : Bool) (a : Addr) (xs : List V) : Prop := match t with
 | false => ∃ ob, H a = some (.frz ob (.lst xs))
 | true => SqT K H a xs
abbrev VP (K : PySem.W.Frag) (H : Hp) : Nat -> V -> Tv -> Prop := VT (PSeq K H) (HDct H)
def VA (K : PySem.W.Frag) (H : Hp) (x : V) (T : Tv) : Prop := ∃ d, VP K H d x T
abbrev VAs (K : PySem.W.Frag) (H : Hp) : List V -> List Tv -> Prop := Paired (VA K H)
def VAk (K : PySem.W.Frag) (H : Hp) : List (Key × V) -> List (Str × Tv) -> Prop := Paired fun (kv : Key × V) (kt : Str × Tv) => kv.1 = .inr kt.1 /\ VA K H kv.2 kt.2
section
variable {K : PySem.W.Frag} {H H' H1 H2 : Hp} {x y v : V} {T U : Tv} {a : Addr} {xs : List V} {Ts : List Tv} {t : Bool} {kvs : List (Key × V)} {kts : List (Str × Tv)}
theorem PSeq.hs (e : HS H H') (h : PSeq K H t a xs) : PSeq K H' t a xs := by
 cases t with
 | false => obtain ⟨ob, h⟩ := h; exact ⟨ob, e _ _ rfl h⟩
 | true => exact SqT.hs e h
theorem VA.hs (e : HS H H') (h : VA K H x T) : VA K H' x T := by
 obtain ⟨d, h⟩ := h
 exact ⟨d, h.mono (fun _ _ _ q => q.hs e) fun _ _ q => q.hs e⟩
theorem VAs.hs (e : HS H H') (h : VAs K H xs Ts) : VAs K H' xs Ts := Paired.mapP h fun _ _ q => q.hs e
theorem VAk.hs (e : HS H H') (h : VAk K H kvs kts) : VAk K H' kvs kts := Paired.mapP h fun _ _ q => ⟨q.1, q.2.hs e⟩
theorem VAs.deep (h : VAs K H xs Ts) : ∃ d, Paired (VP K H d) xs Ts := by
 induction h with
 | nil => exact ⟨0, .nil⟩
 | cons r _ ih =>
  obtain ⟨d, r⟩ := r
  obtain ⟨e, ih⟩ := ih
  exact ⟨max d e, .cons (r.le (Nat.le_max_left _ _)) (Paired.mapP ih fun _ _ q => VT.le (Nat.le_max_right _ _) q)⟩
theorem VAk.deep (h : VAk K H kvs kts) : ∃ d, Paired (fun (kv : Key × V) (kt : Str × Tv) => kv.1 = .inr kt.1 /\ VP K H d kv.2 kt.2) kvs kts := by
 unfold VAk at h
 induction h with
 | nil => exact ⟨0, .nil⟩
 | cons r _ ih =>
  obtain ⟨k, d, r⟩ := r
  obtain ⟨e, ih⟩ := ih
  exact ⟨max d e, .cons ⟨k, r.le (Nat.le_max_left _ _)⟩ (Paired.mapP ih fun _ _ q => ⟨q.1, VT.le (Nat.le_max_right _ _) q.2⟩)⟩
theorem VA.flat (h : flatV x = true) : VA K H x (.leaf x) := ⟨1, .inl ⟨h, rfl⟩⟩
theorem VA.seq (h : PSeq K H t a xs) (z : Ts.length <= 100000) (p : VAs K H xs Ts) : VA K H (.ref a) (.seq t Ts) := by
 obtain ⟨d, p⟩ := p.deep
 exact ⟨d + 1, .inr (.inl ⟨t, a, xs, Ts, rfl, h, rfl, z, p⟩)⟩
theorem VA.dct (h : HDct H a kvs) (n : (kts.map (·.1)).Nodup) (z : kts.length < 64) (p : VAk K H kvs kts) : VA K H (.ref a) (.dct kts) := by
 obtain ⟨d, p⟩ := p.deep
 exact ⟨d + 1, .inr (.inr ⟨a, kvs, kts, rfl, h, rfl, n, z, p⟩)⟩
theorem VA.leafI (h : VA K H x (.leaf v)) : x = v /\ flatV v = true := by
 obtain ⟨d, h⟩ := h
 cases d with
 | zero => exact False.elim h
 | succ d =>
  rcases h with ⟨f, e⟩ | ⟨_, _, _, _, _, _, e, _⟩ | ⟨_, _, _, _, _, e, _⟩
  ·cases e; exact ⟨rfl, f⟩
  ·cases e
  ·cases e
theorem VA.seqI (h : VA K H x (.seq t Ts)) : ∃ a xs, x = .ref a /\ PSeq K H t a xs /\ Ts.length <= 100000 /\ VAs K H xs Ts := by
 obtain ⟨d, h⟩ := h
 cases d with
 | zero => exact False.elim h
 | succ d =>
  rcases h with ⟨_, e⟩ | ⟨t', a, xs, Ts', e1, hs, e, z, p⟩ | ⟨_, _, _, _, _, e, _⟩
  ·cases e
  ·cases e; exact ⟨a, xs, e1, hs, z, Paired.mapP p fun _ _ q => ⟨d, q⟩⟩
  ·cases e
theorem VA.dctI (h : VA K H x (.dct kts)) : ∃ a kvs, x = .ref a /\ HDct H a kvs /\ (kts.map (·.1)).Nodup /\ kts.length < 64 /\ VAk K H kvs kts := by
 obtain ⟨d, h⟩ := h
 cases d with
 | zero => exact False.elim h
 | succ d =>
  rcases h with ⟨_, e⟩ | ⟨_, _, _, _, _, _, e, _⟩ | ⟨a, kvs, kts', e1, hd, e, n, z, p⟩
  ·cases e
  ·cases e
  ·cases e; exact ⟨a, kvs, e1, hd, n, z, Paired.mapP p fun _ _ q => ⟨q.1, d, q.2⟩⟩
end
inductive Sl where
 | no
 | va (T : Tv)
 | own (xs : List Tv)
 | dct (kts : List (Str × Tv))
 | dk
abbrev PEnv := List Sl
def mutb : Sl -> Bool
 | .own _ => true
 | .dct _ => true
 | _ => false
structure Fm where
 H0 : Hp
 dk : Option (Addr × Addr)
structure Kp (dk : Option (Addr × Addr)) (H H' : Hp) : Prop where
 st : ∀ b o, H b = some o -> (∀ p c, dk = some (p, c) -> b ≠ p /\ b ≠ c) -> H' b = some o
 dkk : ∀ p c, dk = some (p, c) -> DeckAt H' p c
theorem Kp.tr {dk : Option (Addr × Addr)} {H H' : Hp} (k : Kp dk H H') (b : Addr) (o : HO) (e : H b = some o) : ∃ o', H' b = some o' := by
 cases d : dk with
 | none => exact ⟨o, k.st b o e fun p c z => by rw [d] at z; cases z⟩
 | some pc =>
  obtain ⟨p, c⟩ := pc
  obtain ⟨_, ⟨S, i, e1⟩, ns, e2, _⟩ := k.dkk p c d
  by_cases h1 : b = p
  ·subst h1; exact ⟨_, e1⟩
  ·by_cases h2 : b = c
   ·subst h2; exact ⟨_, e2⟩
   ·exact ⟨o, k.st b o e fun p' c' z => by rw [d] at z; cases z; exact ⟨h1, h2⟩⟩
def SlAt (K : PySem.W.Frag) (F : Fm) (H : Hp) (ox : Option V) : Sl -> Prop
 | .no => True
 | .va T => ∃ x, ox = some x /\ VA K H x T
 | .own Ts => ∃ a xs, ox = some (.ref a) /\ H a = some (.lst xs) /\ F.H0 a = none /\ Ts.length <= 100000 /\ VAs K H xs Ts
 | .dct kts => ∃ a kvs, ox = some (.ref a) /\ H a = some (.dK kvs) /\ F.H0 a = none /\ (kts.map (·.1)).Nodup /\ kts.length < 64 /\ VAk K H kvs kts
 | .dk => ∃ p c, F.dk = some (p, c) /\ ox = some (.ref p)
def ixv (σ : St) (i : Nat) : Option V := (σ[i]?).join
structure FrOk (K : PySem.W.Frag) (F : Fm) (ρ : PEnv) (σ : St) (H : Hp) : Prop where
 d0 : ∀ p c, F.dk = some (p, c) -> DeckAt F.H0 p c
 kp : Kp F.dk F.H0 H
 len : ρ.length = σ.length
 at_ : ∀ (i : Nat) (s : Sl), ρ[i]? = some s -> SlAt K F H (ixv σ i) s
 ap : ∀ (i j : Nat) (a : Addr) (s t : Sl), ρ[i]? = some s -> ρ[j]? = some t -> mutb s = true -> mutb t = true -> ixv σ i = some (.ref a) -> ixv σ j = some (.ref a) -> i = j
def Stay (F : Fm) (ρ : PEnv) (σ : St) (H H' : Hp) : Prop := ∀ b o, H b = some o -> (∀ p c, F.dk = some (p, c) -> b ≠ p /\ b ≠ c) -> (∀ (i : Nat) (s : Sl), ρ[i]? = some s -> mutb s = true -> ixv σ i ≠ some (.ref b)) -> H' b = some o
def Sbv (ρ' ρ : PEnv) : Prop := ∀ (i : Nat) (s' : Sl), ρ'[i]? = some s' -> mutb s' = true -> ∃ s, ρ[i]? = some s /\ mutb s = true
structure Stp (K : PySem.W.Frag) (F : Fm) (σ : St) (ρ : PEnv) (H : Hp) (ρ' : PEnv) (H' : Hp) : Prop where
 fr : FrOk K F ρ' σ H'
 st : Stay F ρ σ H H'
 sub : Sbv ρ' ρ
 tr : ∀ b o, H b = some o -> ∃ o', H' b = some o'
section
variable {K : PySem.W.Frag} {F : Fm} {ρ ρ1 ρ2 : PEnv} {σ : St} {H H' H1 H2 : Hp} {x y v : V} {T U : Tv} {a b : Addr} {o : HO}
theorem Sbv.refl (ρ : PEnv) : Sbv ρ ρ := fun i s e m => ⟨s, e, m⟩
theorem Sbv.trans (h1 : Sbv ρ1 ρ) (h2 : Sbv ρ2 ρ1) : Sbv ρ2 ρ := fun i s e m => by
 obtain ⟨s1, e1, m1⟩ := h2 i s e m
 exact h1 i s1 e1 m1
theorem FrOk.own_at (fr : FrOk K F ρ σ H) {i : Nat} {s : Sl} (e : ρ[i]? = some s) (m : mutb s = true) (q : ixv σ i = some (.ref a)) : (∃ o, H a = some o /\ fzb o = true) /\ F.H0 a = none := by
 have h := fr.at_ i s e
 cases s with
 | own Ts => obtain ⟨a', xs, e1, e2, e3, _⟩ := h; rw [q] at e1; cases e1; exact ⟨⟨_, e2, rfl⟩, e3⟩
 | dct kts => obtain ⟨a', xs, e1, e2, e3, _⟩ := h; rw [q] at e1; cases e1; exact ⟨⟨_, e2, rfl⟩, e3⟩
 | no => cases m
 | va _ => cases m
 | dk => cases m
theorem FrOk.fresh_nodk (fr : FrOk K F ρ σ H) (h : F.H0 a = none) : ∀ p c, F.dk = some (p, c) -> a ≠ p /\ a ≠ c := fun p c e => by
 obtain ⟨_, ⟨S, k, e1⟩, ns, e2, _⟩ := fr.d0 p c e
 exact ⟨fun z => (by rw [z, e1] at h; cases h), fun z => (by rw [z, e2] at h; cases h)⟩
theorem FrOk.none_nodk (fr : FrOk K F ρ σ H) (h : H a = none) : ∀ p c, F.dk = some (p, c) -> a ≠ p /\ a ≠ c := fun p c e => by
 obtain ⟨_, ⟨S, k, e1⟩, ns, e2, _⟩ := fr.kp.dkk p c e
 exact ⟨fun z => (by rw [z, e1] at h; cases h), fun z => (by rw [z, e2] at h; cases h)⟩
theorem FrOk.none0 (fr : FrOk K F ρ σ H) (h : H a = none) : F.H0 a = none := by
 cases q : F.H0 a with
 | none => rfl
 | some o => rw [fr.kp.st a o q (fr.none_nodk h)] at h; cases h
theorem Stay.hs (fr : FrOk K F ρ σ H) (s : Stay F ρ σ H H') : HS H H' := fun b o h e => s b o e
 (fun p c d => by
  obtain ⟨_, ⟨S, k, e1⟩, ns, e2, _⟩ := fr.kp.dkk p c d
  exact ⟨fun z => (by subst z; rw [e1] at e; cases e; cases h), fun z => (by subst z; rw [e2] at e; cases e; cases h)⟩)
 fun i s e1 m q => by
  obtain ⟨⟨o', e2, n⟩, _⟩ := fr.own_at e1 m q
  rw [e] at e2; cases e2
  cases o <;> first | exact absurd h Bool.false_ne_true | exact absurd n Bool.false_ne_true
theorem Stay.trans (s1 : Stay F ρ σ H H1) (sb : Sbv ρ1 ρ) (s2 : Stay F ρ1 σ H1 H2) : Stay F ρ σ H H2 := fun b o e d n =>
 s2 b o (s1 b o e d n) d fun i s e1 m => by
  obtain ⟨s', e2, m'⟩ := sb i s e1 m
  exact n i s' e2 m'
theorem Stp.trans (a : Stp K F σ ρ H ρ1 H1) (b : Stp K F σ ρ1 H1 ρ2 H2) : Stp K F σ ρ H ρ2 H2 := ⟨b.fr, a.st.trans a.sub b.st, a.sub.trans b.sub, fun c o e => let ⟨o1, e1⟩ := a.tr c o e; b.tr c o1 e1⟩
theorem Stp.refl (fr : FrOk K F ρ σ H) : Stp K F σ ρ H ρ H := ⟨fr, fun _ _ e _ _ => e, Sbv.refl _, fun _ o e => ⟨o, e⟩⟩
theorem Stp.hs (a : Stp K F σ ρ H ρ1 H1) (fr : FrOk K F ρ σ H) : HS H H1 := a.st.hs fr
theorem FrOk.call (fr : FrOk K F ρ σ H) (k : Kp F.dk H H') : FrOk K F ρ σ H' := by
 have own : ∀ i s a o, ρ[i]? = some s -> mutb s = true -> ixv σ i = some (.ref a) -> H a = some o -> H' a = some o := fun i s a o e m q h =>
  k.st a o h (fr.fresh_nodk (fr.own_at e m q).2)
 have hs : HS H H' := fun b o h e => k.st b o e fun p c d => by
  obtain ⟨_, ⟨S, k, e1⟩, ns, e2, _⟩ := fr.kp.dkk p c d
  exact ⟨fun z => (by subst z; rw [e1] at e; cases e; cases h), fun z => (by subst z; rw [e2] at e; cases e; cases h)⟩
 refine ⟨fr.d0, ⟨fun b o e n => k.st b o (fr.kp.st b o e n) n, k.dkk⟩, fr.len, fun i s e => ?_, fr.ap⟩
 have h := fr.at_ i s e
 cases s with
 | no => trivial
 | va T => obtain ⟨x, e1, v⟩ := h; exact ⟨x, e1, v.hs hs⟩
 | own Ts => obtain ⟨a, xs, e1, e2, e3, z, p⟩ := h; exact ⟨a, xs, e1, own i _ a _ e rfl e1 e2, e3, z, p.hs hs⟩
 | dct kts => obtain ⟨a, kvs, e1, e2, e3, n, z, p⟩ := h; exact ⟨a, kvs, e1, own i _ a _ e rfl e1 e2, e3, n, z, p.hs hs⟩
 | dk => exact h
theorem Kp.of_same (fr : FrOk K F ρ σ H) (s : Same H H') : Kp F.dk H H' := ⟨fun b o e _ => s b o e, fun p c d => by
 obtain ⟨ne, ⟨S, k, e1⟩, ns, e2, l⟩ := fr.kp.dkk p c d
 exact ⟨ne, ⟨S, k, s _ _ e1⟩, ns, s _ _ e2, l⟩⟩
theorem Stp.call (fr : FrOk K F ρ σ H) (k : Kp F.dk H H') : Stp K F σ ρ H ρ H' := ⟨fr.call k, fun b o e d _ => k.st b o e d, Sbv.refl _, fun b o e => k.tr b o e⟩
theorem Stp.same (fr : FrOk K F ρ σ H) (s : Same H H') : Stp K F σ ρ H ρ H' := Stp.call fr (Kp.of_same fr s)
end
theorem Stp.non {K : PySem.W.Frag} {F : Fm} {ρ ρ1 : PEnv} {σ : St} {H H1 : Hp} {a : Addr} (s : Stp K F σ ρ H ρ1 H1) (n : H1 a = none) : H a = none := by
 cases e : H a with
 | none => rfl
 | some o =>
  obtain ⟨o', e'⟩ := s.tr a o e
  rw [n] at e'; cases e'
abbrev UT := PEnv -> (Tv -> PEnv -> Prop) -> Prop
abbrev UTt := PEnv -> (Bool -> PEnv -> Prop) -> Prop
abbrev UTl := PEnv -> (List Tv -> PEnv -> Prop) -> Prop
inductive Ar where
 | va (T : Tv)
 | dk
abbrev UTa := PEnv -> (List Ar -> PEnv -> Prop) -> Prop
def ArAt (K : PySem.W.Frag) (dk : Option (Addr × Addr)) (H : Hp) (x : V) : Ar -> Prop
 | .va T => VA K H x T
 | .dk => ∃ p c, dk = some (p, c) /\ x = .ref p
def liftE (K : PySem.W.Frag) (F : Fm) (u : UT) : TE := fun σ H QQ => ∃ ρ Q, FrOk K F ρ σ H /\ u ρ Q /\ ∀ x T H' ρ', Stp K F σ ρ H ρ' H' -> VA K H' x T -> Q T ρ' -> QQ x H'
def liftT (K : PySem.W.Frag) (F : Fm) (u : UTt) : TT := fun σ H QQ => ∃ ρ Q, FrOk K F ρ σ H /\ u ρ Q /\ ∀ b H' ρ', Stp K F σ ρ H ρ' H' -> Q b ρ' -> QQ b H'
def liftL (K : PySem.W.Frag) (F : Fm) (u : UTl) : TE := fun σ H QQ => ∃ ρ Q, FrOk K F ρ σ H /\ u ρ Q /\ ∀ a xs Ts H' ρ', Stp K F σ ρ H ρ' H' -> H a = none -> H' a = some (.lst xs) -> Ts.length <= 100000 -> VAs K H' xs Ts -> Q Ts ρ' -> QQ (.ref a) H'
def liftA (K : PySem.W.Frag) (F : Fm) (u : UTa) : TA := fun σ H QQ => ∃ ρ Q, FrOk K F ρ σ H /\ u ρ Q /\ ∀ xs as H' ρ', Stp K F σ ρ H ρ' H' -> Paired (ArAt K F.dk H') xs as -> Q as ρ' -> QQ xs H'
structure UE (X : Cx) (F : Fm) (e : Expr) (u : UT) : Prop where
 pe : PE X e (liftE X.K F u)
structure UB (X : Cx) (F : Fm) (e : Expr) (u : UTt) : Prop where
 pt : PT X e (liftT X.K F u)
structure UW (X : Cx) (F : Fm) (e : Expr) (u : UTt) : Prop where
 pw : PW X e (liftT X.K F u)
structure UL (X : Cx) (F : Fm) (e : Expr) (u : UTl) : Prop where
 pe : PE X e (liftL X.K F u)
structure UA (X : Cx) (F : Fm) (es : List Expr) (u : UTa) : Prop where
 pa : PA X es (liftA X.K F u)
theorem PE.imp {X : Cx} {e : Expr} {t t' : TE} (h : PE X e t) (i : ∀ σ H Q, t' σ H Q -> t σ H Q) : PE X e t' := fun pins s σ H Q I q => h pins s σ H Q I (i σ H Q q)
theorem PT.imp {X : Cx} {e : Expr} {t t' : TT} (h : PT X e t) (i : ∀ σ H Q, t' σ H Q -> t σ H Q) : PT X e t' := fun pins s σ H Q I q => h pins s σ H Q I (i σ H Q q)
theorem PW.imp {X : Cx} {e : Expr} {t t' : TT} (h : PW X e t) (i : ∀ σ H Q, t' σ H Q -> t σ H Q) : PW X e t' := fun wh pins s σ H Q I q => h wh pins s σ H Q I (i σ H Q q)
theorem PA.imp {X : Cx} {es : List Expr} {t t' : TA} (h : PA X es t) (i : ∀ σ H Q, t' σ H Q -> t σ H Q) : PA X es t' := fun pos pins s σ H Q I q => h pos pins s σ H Q I (i σ H Q q)
theorem Inv.fz {X : Cx} {pins : List (Addr × Obj)} {σ : St} {H : Hp} {s : Shared} {a : Addr} {o : HO} (I : Inv X pins σ H s) (h : H a = some o) (n : fzb o = true) : ∃ ob, Inv X pins σ (upd H a (.frz ob o)) s := by
 obtain ⟨ob, eo⟩ := (I.hok a o h).there
 refine ⟨ob, ?_⟩
 have keep : ∀ b u, H b = some u -> fzb u = false -> upd H a (.frz ob o) b = some u := fun b u e m => by
  rw [upd_ne (fun z => by subst z; rw [h] at e; cases e; rw [n] at m; cases m)]; exact e
 have non : ∀ b, H b = none -> upd H a (.frz ob o) b = none := fun b e => by
  rw [upd_ne (fun z => by subst z; rw [h] at e; cases e)]; exact e
 refine ⟨I.ok, I.os, I.bare, ⟨I.base.keep, I.base.slot, fun b o e n hx => non b (I.base.free b o e n hx), I.base.there, fun b xs e => keep b _ (I.base.tups b xs e) rfl, fun b o u e => keep b _ (I.base.frzs b o u e) rfl, fun b ps e => ?_⟩, I.loc, I.cell, non _ I.free, fun x c e => non c (I.freeC x c e), fun p hp => ?_, fun b u e => ?_, I.len⟩
 ·obtain ⟨more, z⟩ := I.base.tbls b ps e
  exact ⟨more, keep b _ z rfl⟩
 ·obtain ⟨p1, p2, p3⟩ := I.pin p hp
  exact ⟨p1, non _ p2, p3⟩
 ·have st : ∀ b u, ObjOk X.prog X.w H s.heap b u -> ObjOk X.prog X.w (upd H a (.frz ob o)) s.heap b u := fun b u x => x.stay (fun _ _ _ r => r) (fun d r => keep d _ r rfl) fun d xs r => keep d _ r rfl
  by_cases z : b = a
  ·subst z
   rw [upd_same] at e
   cases e
   exact ⟨eo, st _ _ (I.hok b o h)⟩
  ·rw [upd_ne z] at e
   exact st _ _ (I.hok b u e)
def FzQ (Q : VK) : VK := fun z H => Q z H \/ ∃ a o, z = .ref a /\ H a = some o /\ fzb o = true /\ ∀ ob, Q z (upd H a (.frz ob o))
def tFz (t : TE) : TE := fun σ H Q => t σ H (FzQ Q)
theorem EP.fz {X : Cx} {pins : List (Addr × Obj)} {σ : St} {Q : VK} {u : Value} {s : Shared} (h : EP X pins σ (FzQ Q) u s) : EP X pins σ Q u s := by
 obtain ⟨x, H', I, r, q⟩ := h
 rcases q with q | ⟨a, o, rfl, e, n, q⟩
 ·exact ⟨x, H', I, r, q⟩
 ·obtain ⟨ob, I'⟩ := I.fz e n
  exact ⟨_, _, I', r, q ob⟩
theorem PE.fz {X : Cx} {e : Expr} {t : TE} (h : PE X e t) : PE X e (tFz t) := fun pins s σ H Q I q => thn (h pins s σ H _ I q) fun _ _ z => z.fz
def Raw (K : PySem.W.Frag) (H H' : Hp) (z : V) (W : Tv) : Prop := Same H H' /\ (VA K H' z W \/ ∃ a, z = .ref a /\ H a = none /\
 ((∃ xs Ts, H' a = some (.lst xs) /\ W = .seq false Ts /\ Ts.length <= 100000 /\ VAs K H' xs Ts) \/ ∃ kvs kts, H' a = some (.dK kvs) /\ W = .dct kts /\ (kts.map (·.1)).Nodup /\ kts.length < 64 /\ VAk K H' kvs kts))
section
variable {K : PySem.W.Frag} {F : Fm} {ρ ρ1 ρ2 : PEnv} {σ : St} {H H' H1 H2 : Hp} {x y v z : V} {T U W : Tv} {a b : Addr} {o : HO}
theorem Raw.va (v : VA K H z W) : Raw K H H z W := ⟨Same.refl _, .inl v⟩
theorem Raw.flat (h : flatV z = true) : Raw K H H z (.leaf z) := .va (.flat h)
theorem Raw.lst {xs : List V} {Ts : List Tv} (n : H a = none) (z : Ts.length <= 100000) (p : VAs K H xs Ts) : Raw K H (upd H a (.lst xs)) (.ref a) (.seq false Ts) :=
 ⟨same_new n, .inr ⟨a, rfl, n, .inl ⟨xs, Ts, upd_same, rfl, z, p.hs (hs_new n)⟩⟩⟩
theorem Raw.tup {xs : List V} {Ts : List Tv} (n : H a = none) (z : Ts.length <= 100000) (p : VAs K H xs Ts) : Raw K H (upd H a (.tup xs)) (.ref a) (.seq true Ts) :=
 ⟨same_new n, .inl (VA.seq (t := true) (SqT.of upd_same) z (p.hs (hs_new n)))⟩
theorem Stp.frz (fr : FrOk K F ρ σ H) (s : Same H H') (n : H a = none) (e : H' a = some o) (m : fzb o = true) (ob : Obj) : Stp K F σ ρ H ρ (upd H' a (.frz ob o)) :=
 Stp.same fr fun b u q => by rw [upd_ne (ne_of_none q n)]; exact s b u q
theorem Raw.fin (fr : FrOk K F ρ σ H) (r : Raw K H H' z W) {QQ : VK} (k : ∀ H'', Stp K F σ ρ H ρ H'' -> VA K H'' z W -> QQ z H'') : FzQ QQ z H' := by
 obtain ⟨s, v | ⟨a, rfl, n, ⟨xs, Ts, e, rfl, l, p⟩ | ⟨kvs, kts, e, rfl, nd, l, p⟩⟩⟩ := r
 ·exact .inl (k H' (Stp.same fr s) v)
 ·refine .inr ⟨a, _, rfl, e, rfl, fun ob => k _ (Stp.frz fr s n e rfl ob) (VA.seq (t := false) ⟨ob, upd_same⟩ l (p.hs (hs_put e rfl)))⟩
 ·refine .inr ⟨a, _, rfl, e, rfl, fun ob => k _ (Stp.frz fr s n e rfl ob) (VA.dct ⟨ob, upd_same⟩ nd l (p.hs (hs_put e rfl)))⟩
end
end L2
namespace L2
open PySem PySem.Spec PyProof.Rows WordM
abbrev iT (i : Int) : Tv := .leaf (.int i)
abbrev sT (x : Str) : Tv := .leaf (.str x)
abbrev bT (b : Bool) : Tv := .leaf (.bl b)
abbrev nT : Tv := .leaf .non
abbrev P1 := Tv -> (Tv -> Prop) -> Prop
abbrev P2 := Tv -> Tv -> (Tv -> Prop) -> Prop
abbrev Pn := List Tv -> (Tv -> Prop) -> Prop
section
variable {X : Cx} {F : Fm}
def uVar (i : Nat) : UT := fun ρ Q => match ρ[i]? with
 | some (.va T) => Q T ρ
 | some (.own Ts) => Q (.seq false Ts) (ρ.set i (.va (.seq false Ts)))
 | some (.dct kts) => Q (.dct kts) (ρ.set i (.va (.dct kts)))
 | _ => False
theorem ixv_some {σ : St} {i : Nat} {x : V} (h : ixv σ i = some x) : σ[i]? = some (some x) := by
 unfold ixv at h
 cases q : σ[i]? with
 | none => rw [q] at h; cases h
 | some o => rw [q] at h; cases o with
  | none => cases h
  | some y => cases h; rfl
theorem ixv_of {σ : St} {i : Nat} {x : V} (h : σ[i]? = some (some x)) : ixv σ i = some x := by
 unfold ixv; rw [h]; rfl
theorem FrOk.fzs {K : PySem.W.Frag} {ρ : PEnv} {σ : St} {H : Hp} {i : Nat} {s : Sl} {a : Addr} {o : HO} {T : Tv} (fr : FrOk K F ρ σ H) (e : ρ[i]? = some s) (m : mutb s = true) (q : ixv σ i = some (.ref a)) (h : H a = some o) (n : fzb o = true) (ob : Obj)
  (v : VA K (upd H a (.frz ob o)) (.ref a) T) : Stp K F σ ρ H (ρ.set i (.va T)) (upd H a (.frz ob o)) := by
 have hi : i < ρ.length := (List.getElem?_eq_some_iff.mp e).1
 have h0 := (fr.own_at e m q).2
 have hd := fr.fresh_nodk h0
 have hs : HS H (upd H a (.frz ob o)) := hs_put h (by cases o <;> first | rfl | exact absurd n Bool.false_ne_true)
 have st : ∀ b u, b ≠ a -> H b = some u -> upd H a (.frz ob o) b = some u := fun b u z e => by rw [upd_ne z]; exact e
 refine ⟨⟨fr.d0, ⟨fun b u e1 n1 => st b u (fun z => by rw [z, h0] at e1; cases e1) (fr.kp.st b u e1 n1), fun p c d => ?_⟩, by rw [List.length_set]; exact fr.len, fun j s' e' => ?_, fun j k b s' t' e1 e2 m1 m2 q1 q2 => ?_⟩, fun b u e1 _ n1 => st b u (fun z => n1 i s e m (by rw [z]; exact q)) e1, fun j s' e' m' => ?_, fun b u e1 => if z : b = a then ⟨.frz ob o, z ▸ upd_same⟩ else ⟨u, st b u z e1⟩⟩
 ·obtain ⟨ne, ⟨S, k, e1⟩, ns, e2, l⟩ := fr.kp.dkk p c d
  exact ⟨ne, ⟨S, k, st _ _ (hd p c d).1.symm e1⟩, ns, st _ _ (hd p c d).2.symm e2, l⟩
 ·by_cases z : i = j
  ·subst z
   rw [List.getElem?_set_self hi] at e'
   cases e'
   exact ⟨_, q, v⟩
  ·rw [List.getElem?_set_ne z] at e'
   have x := fr.at_ j s' e'
   cases s' with
   | no => trivial
   | va T => obtain ⟨y, e1, v⟩ := x; exact ⟨y, e1, v.hs hs⟩
   | own Ts => obtain ⟨b, xs, e1, e2, e3, z', p⟩ := x; exact ⟨b, xs, e1, st _ _ (fun y => z (fr.ap i j a s _ e e' m rfl q (by rw [e1, y]))) e2, e3, z', p.hs hs⟩
   | dct kts => obtain ⟨b, kvs, e1, e2, e3, n', z', p⟩ := x; exact ⟨b, kvs, e1, st _ _ (fun y => z (fr.ap i j a s _ e e' m rfl q (by rw [e1, y]))) e2, e3, n', z', p.hs hs⟩
   | dk => exact x
 ·by_cases z1 : i = j
  ·subst z1; rw [List.getElem?_set_self hi] at e1; cases e1; cases m1
  ·by_cases z2 : i = k
   ·subst z2; rw [List.getElem?_set_self hi] at e2; cases e2; cases m2
   ·rw [List.getElem?_set_ne z1] at e1
    rw [List.getElem?_set_ne z2] at e2
    exact fr.ap j k b s' t' e1 e2 m1 m2 q1 q2
 ·by_cases z : i = j
  ·subst z; rw [List.getElem?_set_self hi] at e'; cases e'; cases m'
  ·rw [List.getElem?_set_ne z] at e'; exact ⟨s', e', m'⟩
theorem ue_var (i : Nat) {x : Str} {pos : Pos} (hN : X.N[i]? = some x := by rfl) (hv : Vis X.env.scope x := by first | exact Or.inl rfl | exact Or.inr (Or.inl rfl) | exact Or.inr (Or.inr rfl)) (hd : (x == ("__debug__" : Str)) = false := by decide) (hcd : (x == ("__classdict__" : Str)) = false := by decide) :
  UE X F (.Name x pos) (uVar i) := by
 refine ⟨PE.imp (PE.fz (pe_var hN hv hd hcd)) ?_⟩
 rintro σ H QQ ⟨ρ, Q, fr, h, k⟩
 unfold uVar at h
 split at h
 ·rename_i T e
  obtain ⟨y, e1, v⟩ := fr.at_ i _ e
  exact ⟨y, ixv_some e1, .inl (k y T H ρ (Stp.refl fr) v h)⟩
 ·rename_i Ts e
  obtain ⟨a, xs, e1, e2, e3, z, p⟩ := fr.at_ i _ e
  refine ⟨_, ixv_some e1, .inr ⟨a, _, rfl, e2, rfl, fun ob => ?_⟩⟩
  have v : VA X.K (upd H a (.frz ob (.lst xs))) (.ref a) (.seq false Ts) := VA.seq (t := false) ⟨ob, upd_same⟩ z (p.hs (hs_put e2 rfl))
  exact k _ _ _ _ (fr.fzs e rfl e1 e2 rfl ob v) v h
 ·rename_i kts e
  obtain ⟨a, kvs, e1, e2, e3, n, z, p⟩ := fr.at_ i _ e
  refine ⟨_, ixv_some e1, .inr ⟨a, _, rfl, e2, rfl, fun ob => ?_⟩⟩
  have v : VA X.K (upd H a (.frz ob (.dK kvs))) (.ref a) (.dct kts) := VA.dct ⟨ob, upd_same⟩ n z (p.hs (hs_put e2 rfl))
  exact k _ _ _ _ (fr.fzs e rfl e1 e2 rfl ob v) v h
 ·exact False.elim h
def uC (T : Tv) : UT := fun ρ Q => Q T ρ
theorem ue_c {e : Expr} {v : V} (h : PE X e (tC v)) (f : flatV v = true) : UE X F e (uC (.leaf v)) := ⟨PE.imp h fun σ H QQ ⟨ρ, Q, fr, h, k⟩ => k v (.leaf v) H ρ (Stp.refl fr) (.flat f) h⟩
theorem ue_int {i j pos} : UE X F (.Constant (.int i) j pos) (uC (iT i)) := ue_c pe_int rfl
theorem ue_bl {b j pos} : UE X F (.Constant (.bool b) j pos) (uC (bT b)) := ue_c pe_bl rfl
theorem ue_non {j pos} : UE X F (.Constant .none j pos) (uC nT) := ue_c pe_non rfl
theorem ue_str {x j pos} : UE X F (.Constant (.str x) j pos) (uC (sT x)) := ue_c pe_str rfl
theorem ue_glob {x : Str} {v : V} {u : Value} {T : Tv} {pos : Pos} (hg : Gl X x) (hm : X.mg x = some u) (r : RelV v u) (hv : ∀ H, VA X.K H v T) (hd : (x == ("__debug__" : Str)) = false := by decide) : UE X F (.Name x pos) (uC T) :=
 ⟨PE.imp (pe_glob hg hm r hd) fun σ H QQ ⟨ρ, Q, fr, h, k⟩ => k v T H ρ (Stp.refl fr) (hv H) h⟩
def PuR2 (K : PySem.W.Frag) (r : P2) (r' : R2) : Prop := ∀ x y T U H Q (QQ : VK), VA K H x T -> VA K H y U -> r T U Q -> (∀ z W H', Raw K H H' z W -> Q W -> QQ z H') -> r' x y H QQ
def PuOp (X : Cx) (f : Value -> Value -> Sem Value) (r : P2) : Prop := ∃ r', OpR X f r' /\ PuR2 X.K r r'
def uOp (r : P2) (ua ub : UT) : UT := fun ρ Q => ua ρ fun a ρ1 => ub ρ1 fun b ρ2 => r a b fun c => Q c ρ2
theorem lift_op {r : P2} {r' : R2} {ua ub : UT} (hr : PuR2 X.K r r') (σ : St) (H : Hp) (QQ : VK) (h : liftE X.K F (uOp r ua ub) σ H QQ) : tFz (tOp r' (liftE X.K F ua) (liftE X.K F ub)) σ H QQ := by
 obtain ⟨ρ, Q, fr, h, k⟩ := h
 refine ⟨ρ, _, fr, h, fun x T H1 ρ1 s1 v1 q1 => ⟨ρ1, _, s1.fr, q1, fun y U H2 ρ2 s2 v2 q2 => ?_⟩⟩
 refine hr x y T U H2 _ _ (v1.hs (s2.hs s1.fr)) v2 q2 fun z W H' rw q => rw.fin s2.fr fun H'' s3 v3 => k _ _ _ _ ((s1.trans s2).trans s3) v3 q
variable {a b c : Expr} {ua ub uc : UT} {pos : Pos}
theorem ue_op {op : Operator} {r : P2} (ho : PuOp X (binaryOp op) r) (ha : UE X F a ua) (hb : UE X F b ub) : UE X F (.BinOp a op b pos) (uOp r ua ub) := by
 obtain ⟨r', o, hr⟩ := ho
 exact ⟨PE.imp (PE.fz (pe_op o ha.pe hb.pe)) (lift_op hr)⟩
theorem ue_cmp {op : CmpOp} {r : P2} (ho : PuOp X (compareOp op) r) (ha : UE X F a ua) (hb : UE X F b ub) (hm : behindInMarks op b = false) : UE X F (.Compare a [op] [b] pos) (uOp r ua ub) := by
 obtain ⟨r', o, hr⟩ := ho
 exact ⟨PE.imp (PE.fz (pe_cmpR o ha.pe hb.pe hm)) (lift_op hr)⟩
def uB (u : UT) : UTt := fun ρ Q => u ρ fun T ρ' => ∃ b, T = bT b /\ Q b ρ'
theorem ub_of {e : Expr} {t : TE} {u : UT} (h : PT X e (tTest t)) (i : ∀ σ H QQ, liftE X.K F u σ H QQ -> t σ H QQ) : UB X F e (uB u) := ⟨PT.imp h fun σ H QQ ⟨ρ, Q, fr, h, k⟩ => by
 refine i σ H _ ⟨ρ, _, fr, h, fun x T H' ρ' s v q => ?_⟩
 obtain ⟨b, rfl, q⟩ := q
 obtain ⟨e, _⟩ := v.leafI
 exact ⟨b, e, k b H' ρ' s q⟩⟩
def PuR2f (K : PySem.W.Frag) (r : P2) (r' : R2) : Prop := ∀ x y T U H Q (QQ : VK), VA K H x T -> VA K H y U -> r T U Q -> (∀ z W H', Same H H' -> VA K H' z W -> Q W -> QQ z H') -> r' x y H QQ
def PuCmp (X : Cx) (f : Value -> Value -> Sem Value) (r : P2) : Prop := ∃ r', OpR X f r' /\ PuR2f X.K r r'
theorem PuR2f.raw {K : PySem.W.Frag} {r : P2} {r' : R2} (h : PuR2f K r r') : PuR2 K r r' := fun x y T U H Q QQ vx vy q k => h x y T U H Q QQ vx vy q fun z W H' s v q' => k z W H' ⟨s, .inl v⟩ q'
theorem PuCmp.op {f : Value -> Value -> Sem Value} {r : P2} (h : PuCmp X f r) : PuOp X f r := by
 obtain ⟨r', o, h⟩ := h
 exact ⟨r', o, h.raw⟩
theorem lift_opf {r : P2} {r' : R2} {ua ub : UT} (hr : PuR2f X.K r r') (σ : St) (H : Hp) (QQ : VK) (h : liftE X.K F (uOp r ua ub) σ H QQ) : tOp r' (liftE X.K F ua) (liftE X.K F ub) σ H QQ := by
 obtain ⟨ρ, Q, fr, h, k⟩ := h
 refine ⟨ρ, _, fr, h, fun x T H1 ρ1 s1 v1 q1 => ⟨ρ1, _, s1.fr, q1, fun y U H2 ρ2 s2 v2 q2 => ?_⟩⟩
 exact hr x y T U H2 _ _ (v1.hs (s2.hs s1.fr)) v2 q2 fun z W H' s v q => k _ _ _ _ ((s1.trans s2).trans (Stp.same s2.fr s)) v q
theorem ub_cmp {op : CmpOp} {r : P2} (ho : PuCmp X (compareOp op) r) (ha : UE X F a ua) (hb : UE X F b ub) (hm : behindInMarks op b = false) : UB X F (.Compare a [op] [b] pos) (uB (uOp r ua ub)) := by
 obtain ⟨r', o, hr⟩ := ho
 exact ub_of (pt_cmpR o ha.pe hb.pe hm) (lift_opf hr)
def uChain (r r' : P2) (ua ub uc : UT) : UT := fun ρ Q => ua ρ fun a ρ1 => ub ρ1 fun b ρ2 => r a b fun z => ∃ k, z = bT k /\ (if k = true then uc ρ2 fun c ρ3 => r' b c fun w => Q w ρ3 else Q (bT false) ρ2)
theorem lift_chain {r r' : P2} {s s' : R2} (hr : PuR2f X.K r s) (hr' : PuR2f X.K r' s') (σ : St) (H : Hp) (QQ : VK) (h : liftE X.K F (uChain r r' ua ub uc) σ H QQ) : tChain s s' (liftE X.K F ua) (liftE X.K F ub) (liftE X.K F uc) σ H QQ := by
 obtain ⟨ρ, Q, fr, h, k⟩ := h
 refine ⟨ρ, _, fr, h, fun x T H1 ρ1 s1 v1 q1 => ⟨ρ1, _, s1.fr, q1, fun y U H2 ρ2 s2 v2 q2 => ?_⟩⟩
 refine hr x y T U H2 _ _ (v1.hs (s2.hs s1.fr)) v2 q2 fun z W H3 ss v3 q3 => ?_
 obtain ⟨b, rfl, q3⟩ := q3
 obtain ⟨e, _⟩ := v3.leafI
 have s3 := Stp.same s2.fr ss
 refine ⟨b, e, ?_⟩
 cases b with
 | false =>
  rw [if_neg Bool.false_ne_true] at q3 ⊢
  exact k _ _ _ _ ((s1.trans s2).trans s3) (.flat rfl) q3
 | true =>
  rw [if_pos rfl] at q3 ⊢
  refine ⟨ρ2, _, s3.fr, q3, fun z' W' H4 ρ4 s4 v4 q4 => ?_⟩
  exact hr' y z' U W' H4 _ _ ((v2.hs (s3.hs s2.fr)).hs (s4.hs s3.fr)) v4 q4 fun z5 W5 H5 s5 v5 q5 => k _ _ _ _ (((s1.trans s2).trans s3).trans (s4.trans (Stp.same s4.fr s5))) v5 q5
theorem ue_chain {op op' : CmpOp} {r r' : P2} (ho : PuCmp X (compareOp op) r) (ho' : PuCmp X (compareOp op') r') (ha : UE X F a ua) (hb : UE X F b ub) (hc : UE X F c uc) (hm : lastMarks [op, op'] [b, c] = false := by with_unfolding_all rfl) :
  UE X F (.Compare a [op, op'] [b, c] pos) (uChain r r' ua ub uc) := by
 obtain ⟨s, o, hr⟩ := ho
 obtain ⟨s', o', hr'⟩ := ho'
 exact ⟨PE.imp (pe_chain o o' ha.pe hb.pe hc.pe hm) (lift_chain hr hr')⟩
def PuUn (X : Cx) (f : Value -> Sem Value) (r : P1) : Prop := ∃ r', UnR X f r' /\ ∀ x T H Q (QQ : VK), VA X.K H x T -> r T Q -> (∀ z W, VA X.K H z W -> Q W -> QQ z H) -> r' x H QQ
def uUn (r : P1) (ua : UT) : UT := fun ρ Q => ua ρ fun a ρ1 => r a fun c => Q c ρ1
theorem ue_un {op : UnaryOp} {r : P1} (ho : PuUn X (unaryOp op) r) (ha : UE X F a ua) : UE X F (.UnaryOp op a pos) (uUn r ua) := by
 obtain ⟨r', o, hr⟩ := ho
 refine ⟨PE.imp (pe_un o ha.pe) ?_⟩
 rintro σ H QQ ⟨ρ, Q, fr, h, k⟩
 exact ⟨ρ, _, fr, h, fun x T H1 ρ1 s1 v1 q1 => hr x T H1 _ _ v1 q1 fun z W v q => k _ _ _ _ s1 v q⟩
def pNeg : P1
 | .leaf (.int i), Q => Q (iT (-i))
 | _, _ => False
theorem pu_neg : PuUn X (unaryOp .USub) pNeg := ⟨_, un_neg, fun x T H Q QQ v h k => by
 unfold pNeg at h
 split at h
 ·obtain ⟨rfl, _⟩ := v.leafI
  exact ⟨_, rfl, k _ _ (.flat rfl) h⟩
 ·exact False.elim h⟩
def uAndV (ua ub : UT) : UT := fun ρ Q => ua ρ fun a ρ1 => ∃ c, a = bT c /\ if c = true then ub ρ1 Q else Q (bT false) ρ1
def uNotV (ua : UT) : UT := fun ρ Q => ua ρ fun a ρ1 => ∃ c, a = bT c /\ Q (bT (!c)) ρ1
theorem ue_one {op} {u : UT} (h : UE X F a u) : UE X F (.BoolOp op [a] pos) u := ⟨pe_one h.pe⟩
theorem ue_and {rest : List Expr} (ha : UE X F a ua) (hb : UE X F (.BoolOp .And (b :: rest) pos) ub) : UE X F (.BoolOp .And (a :: b :: rest) pos) (uAndV ua ub) := ⟨PE.imp (pe_and ha.pe hb.pe) fun σ H QQ ⟨ρ, Q, fr, h, k⟩ => by
 refine ⟨ρ, _, fr, h, fun x T H1 ρ1 s1 v1 q1 => ?_⟩
 obtain ⟨c, rfl, q1⟩ := q1
 obtain ⟨e, _⟩ := v1.leafI
 refine ⟨c, e, ?_⟩
 cases c with
 | false => rw [if_neg Bool.false_ne_true] at q1 ⊢; exact k _ _ _ _ s1 (.flat rfl) q1
 | true => rw [if_pos rfl] at q1 ⊢; exact ⟨ρ1, _, s1.fr, q1, fun y U H2 ρ2 s2 v2 q2 => k _ _ _ _ (s1.trans s2) v2 q2⟩⟩
theorem ue_not (ha : UE X F a ua) : UE X F (.UnaryOp .Not a pos) (uNotV ua) := ⟨PE.imp (pe_not ha.pe) fun σ H QQ ⟨ρ, Q, fr, h, k⟩ => by
 refine ⟨ρ, _, fr, h, fun x T H1 ρ1 s1 v1 q1 => ?_⟩
 obtain ⟨c, rfl, q1⟩ := q1
 obtain ⟨e, _⟩ := v1.leafI
 exact ⟨c, e, k _ _ _ _ s1 (.flat rfl) q1⟩⟩
def uAnd (t u : UTt) : UTt := fun ρ Q => t ρ fun c ρ1 => if c = true then u ρ1 Q else Q false ρ1
def uOr (t u : UTt) : UTt := fun ρ Q => t ρ fun c ρ1 => if c = true then Q true ρ1 else u ρ1 Q
def uNot (t : UTt) : UTt := fun ρ Q => t ρ fun c ρ1 => Q (!c) ρ1
variable {ta tb : UTt} {rest : List Expr}
theorem uw_and1 (ha : UB X F a ta) : UW X F (.BoolOp .And [a] pos) ta := ⟨pw_and1 ha.pt⟩
theorem uw_or1 (ha : UB X F a ta) : UW X F (.BoolOp .Or [a] pos) ta := ⟨pw_or1 ha.pt⟩
theorem uw_and (ha : UB X F a ta) (hb : UW X F (.BoolOp .And (b :: rest) pos) tb) : UW X F (.BoolOp .And (a :: b :: rest) pos) (uAnd ta tb) := ⟨PW.imp (pw_and ha.pt hb.pw) fun σ H QQ ⟨ρ, Q, fr, h, k⟩ => by
 refine ⟨ρ, _, fr, h, fun c H1 ρ1 s1 q1 => ?_⟩
 cases c with
 | false => rw [if_neg Bool.false_ne_true] at q1 ⊢; exact k _ _ _ s1 q1
 | true => rw [if_pos rfl] at q1 ⊢; exact ⟨ρ1, _, s1.fr, q1, fun y H2 ρ2 s2 q2 => k _ _ _ (s1.trans s2) q2⟩⟩
theorem uw_or (ha : UB X F a ta) (hb : UW X F (.BoolOp .Or (b :: rest) pos) tb) : UW X F (.BoolOp .Or (a :: b :: rest) pos) (uOr ta tb) := ⟨PW.imp (pw_or ha.pt hb.pw) fun σ H QQ ⟨ρ, Q, fr, h, k⟩ => by
 refine ⟨ρ, _, fr, h, fun c H1 ρ1 s1 q1 => ?_⟩
 cases c with
 | true => rw [if_pos rfl] at q1 ⊢; exact k _ _ _ s1 q1
 | false => rw [if_neg Bool.false_ne_true] at q1 ⊢; exact ⟨ρ1, _, s1.fr, q1, fun y H2 ρ2 s2 q2 => k _ _ _ (s1.trans s2) q2⟩⟩
theorem ub_w {e : Expr} {t : UTt} (h : UW X F e t) : UB X F e t := ⟨h.pw.pt⟩
theorem ub_not (ha : UB X F a ta) : UB X F (.UnaryOp .Not a pos) (uNot ta) := ⟨PT.imp (pt_not ha.pt) fun σ H QQ ⟨ρ, Q, fr, h, k⟩ => ⟨ρ, _, fr, h, fun c H1 ρ1 s1 q1 => k _ _ _ s1 q1⟩⟩
theorem ub_val {e : Expr} {u : UT} (h : UE X F e u) (he : ∀ whole, isTrue e X.env whole = (do let v <- whole; standAt e.pos; holding [v] (truthy v)) := by intro _; rfl) : UB X F e (uB u) := ⟨PT.imp (pt_val h.pe he) fun σ H QQ ⟨ρ, Q, fr, h, k⟩ => by
 refine ⟨ρ, _, fr, h, fun x T H' ρ' s v q => ?_⟩
 obtain ⟨b, rfl, q⟩ := q
 obtain ⟨e, _⟩ := v.leafI
 exact ⟨b, e, k b H' ρ' s q⟩⟩
def uIf (t : UTt) (ua ub : UT) : UT := fun ρ Q => t ρ fun c ρ1 => if c = true then ua ρ1 Q else ub ρ1 Q
theorem ue_ifExp (hc : UB X F c ta) (ha : UE X F a ua) (hb : UE X F b ub) : UE X F (.IfExp c a b pos) (uIf ta ua ub) := ⟨PE.imp (pe_ifExp hc.pt ha.pe hb.pe) fun σ H QQ ⟨ρ, Q, fr, h, k⟩ => by
 refine ⟨ρ, _, fr, h, fun c H1 ρ1 s1 q1 => ?_⟩
 cases c with
 | true => rw [if_pos rfl] at q1 ⊢; exact ⟨ρ1, _, s1.fr, q1, fun y U H2 ρ2 s2 v2 q2 => k _ _ _ _ (s1.trans s2) v2 q2⟩
 | false => rw [if_neg Bool.false_ne_true] at q1 ⊢; exact ⟨ρ1, _, s1.fr, q1, fun y U H2 ρ2 s2 v2 q2 => k _ _ _ _ (s1.trans s2) v2 q2⟩⟩
def uNil : UTa := fun ρ Q => Q [] ρ
def uCons (u : UT) (t : UTa) : UTa := fun ρ Q => u ρ fun T ρ1 => t ρ1 fun as ρ2 => Q (.va T :: as) ρ2
def uDk (i : Nat) (t : UTa) : UTa := fun ρ Q => ρ[i]? = some .dk /\ t ρ fun as ρ2 => Q (.dk :: as) ρ2
theorem ua_nil : UA X F [] uNil := ⟨PA.imp pa_nil fun σ H QQ ⟨ρ, Q, fr, h, k⟩ => k [] [] H ρ (Stp.refl fr) .nil h⟩
theorem ua_c {e : Expr} {es : List Expr} {u : UT} {t : UTa} (ha : UE X F e u) (hr : UA X F es t) (h : isStar e = false := by rfl) : UA X F (e :: es) (uCons u t) := ⟨PA.imp (pa_c ha.pe hr.pa h) fun σ H QQ ⟨ρ, Q, fr, h, k⟩ => by
 refine ⟨ρ, _, fr, h, fun x T H1 ρ1 s1 v1 q1 => ⟨ρ1, _, s1.fr, q1, fun xs as H2 ρ2 s2 p2 q2 => ?_⟩⟩
 exact k _ _ _ _ (s1.trans s2) (.cons (b := Ar.va T) (v1.hs (s2.hs s1.fr)) p2) q2⟩
theorem ua_dk (i : Nat) {x : Str} {pos : Pos} {es : List Expr} {t : UTa} (hr : UA X F es t) (hN : X.N[i]? = some x := by rfl) (hv : Vis X.env.scope x := by first | exact Or.inl rfl | exact Or.inr (Or.inl rfl) | exact Or.inr (Or.inr rfl)) (hd : (x == ("__debug__" : Str)) = false := by decide) (hcd : (x == ("__classdict__" : Str)) = false := by decide) :
  UA X F (.Name x pos :: es) (uDk i t) := ⟨PA.imp (pa_c (pe_var hN hv hd hcd) hr.pa rfl) fun σ H QQ ⟨ρ, Q, fr, ⟨e, h⟩, k⟩ => by
 obtain ⟨p, c, ed, ex⟩ := fr.at_ i _ e
 refine ⟨_, ixv_some ex, ρ, _, fr, h, fun xs as H2 ρ2 s2 p2 q2 => ?_⟩
 exact k _ _ _ _ s2 (.cons (b := Ar.dk) ⟨p, c, ed, rfl⟩ p2) q2⟩
def vsK : List Ar -> (List Tv -> Prop) -> Prop
 | [], Q => Q []
 | .va T :: as, Q => vsK as fun Ts => Q (T :: Ts)
 | .dk :: _, _ => False
theorem vsK_ex : ∀ {as : List Ar} {Q : List Tv -> Prop}, vsK as Q -> ∃ Ts, as = Ts.map Ar.va /\ Q Ts
 | [], _, h => ⟨[], rfl, h⟩
 | .va T :: as, Q, h => by
  obtain ⟨Ts, rfl, q⟩ := vsK_ex (as := as) (Q := fun Ts => Q (T :: Ts)) h
  exact ⟨T :: Ts, rfl, q⟩
 | .dk :: _, _, h => False.elim h
def uVs (ua : UTa) : UTl := fun ρ Q => ua ρ fun as ρ1 => vsK as fun Ts => Q Ts ρ1
theorem vas_of {K : PySem.W.Frag} {dk : Option (Addr × Addr)} {H : Hp} : ∀ {xs : List V} {Ts : List Tv}, Paired (ArAt K dk H) xs (Ts.map Ar.va) -> VAs K H xs Ts
 | [], [], _ => .nil
 | _ :: _, _ :: _, .cons r t => .cons r (vas_of t)
def uTup (ua : UTa) : UT := fun ρ Q => uVs ua ρ fun Ts ρ1 => Ts.length <= 100000 /\ Q (.seq true Ts) ρ1
def uLst (ua : UTa) : UTl := fun ρ Q => uVs ua ρ fun Ts ρ1 => Ts.length <= 100000 /\ Q Ts ρ1
theorem line_of {n : Nat} (h : n <= 100000) : n <= sizeLine := by rw [sizeLine_eq]; omega
theorem line_lt {n : Nat} (h : n < 100000) : n < sizeLine := by rw [sizeLine_eq]; omega
theorem ue_tup {es : List Expr} {t : UTa} {x1} (h : UA X F es t) : UE X F (.Tuple es x1 pos) (uTup t) := ⟨PE.imp (pe_tup h.pa) fun σ H QQ ⟨ρ, Q, fr, h, k⟩ => by
 refine ⟨ρ, _, fr, h, fun xs as H1 ρ1 s1 p1 q1 => ?_⟩
 obtain ⟨Ts, rfl, z, q⟩ := vsK_ex q1
 have p := vas_of p1
 have l : xs.length = Ts.length := Paired.length p
 refine ⟨line_of (by omega), fun a n => ?_⟩
 have r := Raw.tup (K := X.K) n z p
 exact k _ _ _ _ (s1.trans (Stp.same s1.fr r.1)) (VA.seq (t := true) (SqT.of upd_same) z (p.hs (hs_new n))) q⟩
theorem ul_lst {es : List Expr} {t : UTa} (h : UA X F es t) : UL X F (.List es pos) (uLst t) := ⟨PE.imp (pe_lst h.pa) fun σ H QQ ⟨ρ, Q, fr, h, k⟩ => by
 refine ⟨ρ, _, fr, h, fun xs as H1 ρ1 s1 p1 q1 => ?_⟩
 obtain ⟨Ts, rfl, z, q⟩ := vsK_ex q1
 have p := vas_of p1
 have l : xs.length = Ts.length := Paired.length p
 refine ⟨line_of (by omega), fun a n => ?_⟩
 exact k _ _ _ _ _ (s1.trans (Stp.same s1.fr (same_new n))) (s1.non n) upd_same z (p.hs (hs_new n)) q⟩
end
end L2
namespace L2
open PySem PySem.Spec PyProof.Rows WordM
theorem FrOk.fzn {K : PySem.W.Frag} {F : Fm} {ρ : PEnv} {σ : St} {H : Hp} {a : Addr} {o : HO} (fr : FrOk K F ρ σ H) (h : H a = some o) (n : fzb o = true) (h0 : F.H0 a = none) (na : ∀ (i : Nat) (s : Sl), ρ[i]? = some s -> mutb s = true -> ixv σ i ≠ some (.ref a)) (o' : HO) : FrOk K F ρ σ (upd H a o') := by
 have hd := fr.fresh_nodk h0
 have hs : HS H (upd H a o') := hs_put h (by cases o <;> first | rfl | exact absurd n Bool.false_ne_true)
 have st : ∀ b u, b ≠ a -> H b = some u -> upd H a o' b = some u := fun b u z e => by rw [upd_ne z]; exact e
 refine ⟨fr.d0, ⟨fun b u e1 n1 => st b u (fun z => by rw [z, h0] at e1; cases e1) (fr.kp.st b u e1 n1), fun p c d => ?_⟩, fr.len, fun j s' e' => ?_, fr.ap⟩
 ·obtain ⟨ne, ⟨S, k, e1⟩, ns, e2, l⟩ := fr.kp.dkk p c d
  exact ⟨ne, ⟨S, k, st _ _ (hd p c d).1.symm e1⟩, ns, st _ _ (hd p c d).2.symm e2, l⟩
 ·have x := fr.at_ j s' e'
  cases s' with
  | no => trivial
  | va T => obtain ⟨y, e1, v⟩ := x; exact ⟨y, e1, v.hs hs⟩
  | own Ts => obtain ⟨b, xs, e1, e2, e3, z', p⟩ := x; exact ⟨b, xs, e1, st _ _ (fun y => na j _ e' rfl (by rw [e1, y])) e2, e3, z', p.hs hs⟩
  | dct kts => obtain ⟨b, kvs, e1, e2, e3, n', z', p⟩ := x; exact ⟨b, kvs, e1, st _ _ (fun y => na j _ e' rfl (by rw [e1, y])) e2, e3, n', z', p.hs hs⟩
  | dk => exact x
theorem Stp.notown {K : PySem.W.Frag} {F : Fm} {ρ ρ1 : PEnv} {σ : St} {H H1 : Hp} {a : Addr} (s : Stp K F σ ρ H ρ1 H1) (fr : FrOk K F ρ σ H) (n : H a = none) : ∀ (i : Nat) (s : Sl), ρ1[i]? = some s -> mutb s = true -> ixv σ i ≠ some (.ref a) := fun i s' e m q => by
 obtain ⟨s0, e0, m0⟩ := s.sub i s' e m
 obtain ⟨⟨o, e1, _⟩, _⟩ := fr.own_at e0 m0 q
 rw [n] at e1; cases e1
theorem Stp.put {K : PySem.W.Frag} {F : Fm} {ρ ρ1 : PEnv} {σ : St} {H H1 : Hp} {a : Addr} {o : HO} (s : Stp K F σ ρ H ρ1 H1) (fr : FrOk K F ρ σ H) (n : H a = none) (e : H1 a = some o) (m : fzb o = true) (o' : HO) : Stp K F σ ρ H ρ1 (upd H1 a o') :=
 ⟨s.fr.fzn e m (fr.none0 n) (s.notown fr n) o', fun b u q d n1 => by rw [upd_ne (ne_of_none q n)]; exact s.st b u q d n1, s.sub, fun b u q => by rw [upd_ne (ne_of_none q n)]; exact s.tr b u q⟩
section
variable {X : Cx} {F : Fm} {e : Expr} {pos : Pos}
def uL (u : UTl) : UT := fun ρ Q => u ρ fun Ts ρ1 => Q (.seq false Ts) ρ1
theorem ue_ul {u : UTl} (h : UL X F e u) : UE X F e (uL u) := ⟨PE.imp (PE.fz h.pe) fun σ H QQ ⟨ρ, Q, fr, h, k⟩ => ⟨ρ, _, fr, h, fun a xs Ts H' ρ' s n e z p q =>
 .inr ⟨a, _, rfl, e, rfl, fun ob => k _ _ _ _ (s.put fr n e rfl (.frz ob (.lst xs))) (VA.seq (t := false) ⟨ob, upd_same⟩ z (p.hs (hs_put e rfl))) q⟩⟩⟩
def PuRn (K : PySem.W.Frag) (r : Pn) (r' : List V -> Hp -> VK -> Prop) : Prop := ∀ xs Ts H Q (QQ : VK), VAs K H xs Ts -> r Ts Q -> (∀ z W H', Raw K H H' z W -> Q W -> QQ z H') -> r' xs H QQ
def PuCall (X : Cx) (f : Value) (r : Pn) : Prop := ∃ r', CallR X f r' /\ PuRn X.K r r'
def uCB (r : Pn) (ua : UTa) : UT := fun ρ Q => uVs ua ρ fun Ts ρ1 => r Ts fun W => Q W ρ1
theorem lift_cb {r : Pn} {r' : List V -> Hp -> VK -> Prop} {ua : UTa} (hr : PuRn X.K r r') (σ : St) (H : Hp) (QQ : VK) (h : liftE X.K F (uCB r ua) σ H QQ) : tFz (tCB r' (liftA X.K F ua)) σ H QQ := by
 obtain ⟨ρ, Q, fr, h, k⟩ := h
 refine ⟨ρ, _, fr, h, fun xs as H1 ρ1 s1 p1 q1 => ?_⟩
 obtain ⟨Ts, rfl, q⟩ := vsK_ex q1
 exact hr xs Ts H1 _ _ (vas_of p1) q fun z W H' rw q => rw.fin s1.fr fun H'' s3 v3 => k _ _ _ _ (s1.trans s3) v3 q
variable {es : List Expr} {x : Str} {p : Pos} {ua : UTa}
theorem ue_callB {id : String} {r : Pn} (hc : PuCall X (.builtin id) r) (hg : Gl X x) (hm : X.mg x = none) (hv : bootBuiltins x = some (.builtin id)) (ha : UA X F (e :: es) ua) (hn : x ≠ "__name__" := by decide) (hdb : (x == ("__debug__" : Str)) = false := by decide)
  (he : starEach (e :: es) X.env = (false, eval e X.env) :: starEach es X.env := by rfl) (hpl : (backTo pos (starEach es X.env)).any (·.1) = false := by rfl) : UE X F (.Call (.Name x p) (e :: es) [] pos) (uCB r ua) := by
 obtain ⟨r', o, hr⟩ := hc
 exact ⟨PE.imp (PE.fz (pe_callB o hg hm hv ha.pa hn hdb he hpl)) (lift_cb hr)⟩
theorem ue_callTy {id : String} {r : Pn} (hc : PuCall X (.type id) r) (hg : Gl X x) (hm : X.mg x = none) (hv : bootBuiltins x = some (.type id)) (ha : UA X F (e :: es) ua) (hn : x ≠ "__name__" := by decide) (hdb : (x == ("__debug__" : Str)) = false := by decide)
  (he : starEach (e :: es) X.env = (false, eval e X.env) :: starEach es X.env := by rfl) (hpl : (backTo pos (starEach es X.env)).any (·.1) = false := by rfl) : UE X F (.Call (.Name x p) (e :: es) [] pos) (uCB r ua) := by
 obtain ⟨r', o, hr⟩ := hc
 exact ⟨PE.imp (PE.fz (pe_callTy o hg hm hv ha.pa hn hdb he hpl)) (lift_cb hr)⟩
def PuRl (K : PySem.W.Frag) (r : List Tv -> (List Tv -> Prop) -> Prop) (r' : List V -> Hp -> VK -> Prop) : Prop := ∀ xs Ts H Q (QQ : VK), VAs K H xs Ts -> r Ts Q -> (∀ a ys Us H', Same H H' -> H a = none -> H' a = some (.lst ys) -> Us.length <= 100000 -> VAs K H' ys Us -> Q Us -> QQ (.ref a) H') -> r' xs H QQ
def PuCallL (X : Cx) (f : Value) (r : List Tv -> (List Tv -> Prop) -> Prop) : Prop := ∃ r', CallR X f r' /\ PuRl X.K r r'
def uCL (r : List Tv -> (List Tv -> Prop) -> Prop) (ua : UTa) : UTl := fun ρ Q => uVs ua ρ fun Ts ρ1 => r Ts fun Us => Q Us ρ1
theorem lift_cl {r : List Tv -> (List Tv -> Prop) -> Prop} {r' : List V -> Hp -> VK -> Prop} {ua : UTa} (hr : PuRl X.K r r') (σ : St) (H : Hp) (QQ : VK) (h : liftL X.K F (uCL r ua) σ H QQ) : tCB r' (liftA X.K F ua) σ H QQ := by
 obtain ⟨ρ, Q, fr, h, k⟩ := h
 refine ⟨ρ, _, fr, h, fun xs as H1 ρ1 s1 p1 q1 => ?_⟩
 obtain ⟨Ts, rfl, q⟩ := vsK_ex q1
 exact hr xs Ts H1 _ _ (vas_of p1) q fun a ys Us H' sm n e z p q => k _ _ _ _ _ (s1.trans (Stp.same s1.fr sm)) (s1.non n) e z p q
theorem ul_callB {id : String} {r : List Tv -> (List Tv -> Prop) -> Prop} (hc : PuCallL X (.builtin id) r) (hg : Gl X x) (hm : X.mg x = none) (hv : bootBuiltins x = some (.builtin id)) (ha : UA X F (e :: es) ua) (hn : x ≠ "__name__" := by decide) (hdb : (x == ("__debug__" : Str)) = false := by decide)
  (he : starEach (e :: es) X.env = (false, eval e X.env) :: starEach es X.env := by rfl) (hpl : (backTo pos (starEach es X.env)).any (·.1) = false := by rfl) : UL X F (.Call (.Name x p) (e :: es) [] pos) (uCL r ua) := by
 obtain ⟨r', o, hr⟩ := hc
 exact ⟨PE.imp (pe_callB o hg hm hv ha.pa hn hdb he hpl) (lift_cl hr)⟩
theorem ul_callTy {id : String} {r : List Tv -> (List Tv -> Prop) -> Prop} (hc : PuCallL X (.type id) r) (hg : Gl X x) (hm : X.mg x = none) (hv : bootBuiltins x = some (.type id)) (ha : UA X F (e :: es) ua) (hn : x ≠ "__name__" := by decide) (hdb : (x == ("__debug__" : Str)) = false := by decide)
  (he : starEach (e :: es) X.env = (false, eval e X.env) :: starEach es X.env := by rfl) (hpl : (backTo pos (starEach es X.env)).any (·.1) = false := by rfl) : UL X F (.Call (.Name x p) (e :: es) [] pos) (uCL r ua) := by
 obtain ⟨r', o, hr⟩ := hc
 exact ⟨PE.imp (pe_callTy o hg hm hv ha.pa hn hdb he hpl) (lift_cl hr)⟩
abbrev PSp := List Ar -> (Tv -> Prop) -> Prop
def liftP (K : PySem.W.Frag) (psp : PSp) : Sp := fun vs H Q _ => ∃ dk as R, (∀ p c, dk = some (p, c) -> DeckAt H p c) /\ Paired (ArAt K dk H) vs as /\ psp as R /\ ∀ x T H', Kp dk H H' -> VA K H' x T -> R T -> Q x H'
def PGood (P : Program) (w : World) (K : PySem.W.Frag) (mg : Str -> Option Value) (base : Heap) (k : Nat) (x : Str) (ps : List Str) (psp : PSp) : Prop := Good P w K mg base k x ps (liftP K psp)
def uCall (psp : PSp) (ua : UTa) : UT := fun ρ Q => ua ρ fun as ρ1 => psp as fun W => Q W ρ1
theorem lift_call {psp : PSp} {ua : UTa} (σ : St) (H : Hp) (QQ : VK) (h : liftE X.K F (uCall psp ua) σ H QQ) : tCall (liftP X.K psp) [] E0 (liftA X.K F ua) σ H QQ := by
 obtain ⟨ρ, Q, fr, h, k⟩ := h
 refine ⟨ρ, _, fr, h, fun xs as H1 ρ1 s1 p1 q1 => ?_⟩
 show liftP X.K psp (xs ++ []) H1 QQ E0
 rw [List.append_nil]
 exact ⟨F.dk, as, _, s1.fr.kp.dkk, p1, q1, fun z W H' kp v q => k _ _ _ _ (s1.trans (Stp.call s1.fr kp)) v q⟩
theorem ue_fn {k : Nat} {ps : List Str} {psp : PSp} (G : PGood X.prog X.w X.K X.mg X.base k x ps psp) (hr : Room k X.A) (hg : Gl X x) (ha : UA X F (e :: es) ua) (hdb : (x == ("__debug__" : Str)) = false := by decide)
  (hst : isStar e = false := by rfl) (hpl : (backTo pos (starEach es X.env)).any (·.1) = false := by rfl) : UE X F (.Call (.Name x p) (e :: es) [] pos) (uCall psp ua) :=
 ⟨PE.imp (pe_fn G hr hg ha.pa hdb hst hpl) lift_call⟩
theorem ue_fn0 {k : Nat} {ps : List Str} {psp : PSp} (G : PGood X.prog X.w X.K X.mg X.base k x ps psp) (hr : Room k X.A) (hg : Gl X x) (hdb : (x == ("__debug__" : Str)) = false := by decide) : UE X F (.Call (.Name x p) [] [] pos) (uCall psp uNil) :=
 ⟨PE.imp (pe_fn0 G hr hg hdb) fun σ H QQ ⟨ρ, Q, fr, h, k⟩ => ⟨F.dk, [], _, fr.kp.dkk, .nil, h, fun z W H' kp v q => k _ _ _ _ (Stp.call fr kp) v q⟩⟩
def PuIx (X : Cx) (r : P2) : Prop := ∃ r', IxR X r' /\ PuR2 X.K r r'
variable {a b : Expr} {va vb : UT}
theorem ue_ix {r : P2} (ho : PuIx X r) (ha : UE X F a va) (hb : UE X F b vb) (hs : PlainIx b := by intro _ _; rfl) : UE X F (.Subscript a b pos) (uOp r va vb) := by
 obtain ⟨r', o, hr⟩ := ho
 exact ⟨PE.imp (PE.fz (pe_ix o ha.pe hb.pe hs)) (lift_op hr)⟩
abbrev UTo := PEnv -> (Option Int -> PEnv -> Prop) -> Prop
def liftO (K : PySem.W.Frag) (F : Fm) (u : UTo) : TO := fun σ H QQ => ∃ ρ Q, FrOk K F ρ σ H /\ u ρ Q /\ ∀ o H' ρ', Stp K F σ ρ H ρ' H' -> Q o ρ' -> QQ o H'
structure UO (X : Cx) (F : Fm) (e : Option Expr) (u : UTo) : Prop where
 po : PO X e (liftO X.K F u)
theorem PO.imp {e : Option Expr} {t t' : TO} (h : PO X e t) (i : ∀ σ H Q, t' σ H Q -> t σ H Q) : PO X e t' := fun pins s σ H Q I q => h pins s σ H Q I (i σ H Q q)
def uoN : UTo := fun ρ Q => Q none ρ
def uoS (u : UT) : UTo := fun ρ Q => u ρ fun T ρ1 => ∃ i, T = iT i /\ Q (some i) ρ1
theorem uo_none : UO X F none uoN := ⟨PO.imp po_none fun σ H QQ ⟨ρ, Q, fr, h, k⟩ => k _ _ _ (Stp.refl fr) h⟩
theorem uo_some {u : UT} (h : UE X F e u) : UO X F (some e) (uoS u) := ⟨PO.imp (po_some h.pe) fun σ H QQ ⟨ρ, Q, fr, h, k⟩ => ⟨ρ, _, fr, h, fun x T H1 ρ1 s1 v1 q1 => by
 obtain ⟨i, rfl, q⟩ := q1
 exact ⟨i, v1.leafI.1, k _ _ _ s1 q⟩⟩⟩
abbrev PSl := Tv -> Option Int -> Option Int -> (Tv -> Prop) -> Prop
def PuSl (X : Cx) (r : PSl) : Prop := ∃ r', SlR X r' /\ ∀ x T lo hi H Q (QQ : VK), VA X.K H x T -> r T lo hi Q -> (∀ z W H', Raw X.K H H' z W -> Q W -> QQ z H') -> r' x lo hi H QQ
def uSl (r : PSl) (u : UT) (lo hi : UTo) : UT := fun ρ Q => u ρ fun T ρ1 => lo ρ1 fun l ρ2 => hi ρ2 fun h ρ3 => r T l h fun W => Q W ρ3
theorem ue_slice {r : PSl} {lo hi : Option Expr} {ul uh : UTo} {p2 : Pos} (ho : PuSl X r) (ha : UE X F a va) (hl : UO X F lo ul) (hh : UO X F hi uh) : UE X F (.Subscript a (.Slice lo hi none p2) pos) (uSl r va ul uh) := by
 obtain ⟨r', o, hr⟩ := ho
 refine ⟨PE.imp (PE.fz (pe_slice o ha.pe hl.po hh.po)) ?_⟩
 rintro σ H QQ ⟨ρ, Q, fr, h, k⟩
 refine ⟨ρ, _, fr, h, fun x T H1 ρ1 s1 v1 q1 => ⟨ρ1, _, s1.fr, q1, fun l H2 ρ2 s2 q2 => ⟨ρ2, _, s2.fr, q2, fun u H3 ρ3 s3 q3 => ?_⟩⟩⟩
 exact hr x T l u H3 _ _ ((v1.hs (s2.hs s1.fr)).hs (s3.hs s2.fr)) q3 fun z W H' rw q => rw.fin s3.fr fun H'' s4 v4 => k _ _ _ _ ((s1.trans s2).trans (s3.trans s4)) v4 q
end
structure PEnds where
 nx : PEnv -> Prop
 rt : Tv -> Prop
 bk : PEnv -> Prop := fun _ => False
 ct : PEnv -> Prop := fun _ => False
abbrev UTs := PEnds -> PEnv -> Prop
def liftS (K : PySem.W.Frag) (F : Fm) (u : UTs) : TS := fun D σ H => ∃ ρ P, FrOk K F ρ σ H /\ u P ρ /\ (∀ σ' H' ρ', FrOk K F ρ' σ' H' -> HS H H' -> P.nx ρ' -> D.nx σ' H') /\ (∀ x T H', Kp F.dk F.H0 H' -> VA K H' x T -> P.rt T -> D.rt x H') /\
 (∀ σ' H' ρ', FrOk K F ρ' σ' H' -> HS H H' -> P.bk ρ' -> D.bk σ' H') /\ ∀ σ' H' ρ', FrOk K F ρ' σ' H' -> HS H H' -> P.ct ρ' -> D.ct σ' H'
structure US (X : Cx) (F : Fm) (st : Stmt) (u : UTs) : Prop where
 ps : PS X st (liftS X.K F u)
structure USs (X : Cx) (F : Fm) (st : List Stmt) (u : UTs) : Prop where
 ps : PSs X st (liftS X.K F u)
theorem PS.imp {X : Cx} {st : Stmt} {t t' : TS} (h : PS X st t) (i : ∀ D σ H, t' D σ H -> t D σ H) : PS X st t' := fun pins s σ H D I q => h pins s σ H D I (i D σ H q)
theorem PSs.imp {X : Cx} {st : List Stmt} {t t' : TS} (h : PSs X st t) (i : ∀ D σ H, t' D σ H -> t D σ H) : PSs X st t' := fun pins s σ H D I q => h pins s σ H D I (i D σ H q)
section
variable {X : Cx} {F : Fm} {e : Expr} {pos : Pos} {st : Stmt} {rest : List Stmt} {u : UT}
def sNil : UTs := fun P ρ => P.nx ρ
def sSeq (s t : UTs) : UTs := fun P ρ => s { P with nx := fun ρ' => t P ρ' } ρ
theorem us_nil : USs X F [] sNil := ⟨PSs.imp pss_nil fun D σ H ⟨ρ, P, fr, h, k1, _⟩ => k1 σ H ρ fr (HS.refl _) h⟩
theorem us_one {s : UTs} (h : US X F st s) : USs X F [st] s := ⟨pss_one h.ps⟩
theorem us_cons {s t : UTs} (h : US X F st s) (hr : USs X F rest t) : USs X F (st :: rest) (sSeq s t) := ⟨PSs.imp (pss_cons h.ps hr.ps) fun D σ H ⟨ρ, P, fr, h, k1, k2, k3, k4⟩ => by
 refine ⟨ρ, _, fr, h, fun σ' H' ρ' fr' hs q => ?_, k2, k3, k4⟩
 exact ⟨ρ', P, fr', q, fun σ2 H2 ρ2 f2 h2 q2 => k1 _ _ _ f2 (hs.trans h2) q2, k2, fun σ2 H2 ρ2 f2 h2 q2 => k3 _ _ _ f2 (hs.trans h2) q2, fun σ2 H2 ρ2 f2 h2 q2 => k4 _ _ _ f2 (hs.trans h2) q2⟩⟩
def sRet (u : UT) : UTs := fun P ρ => u ρ fun T _ => P.rt T
theorem us_ret (h : UE X F e u) : US X F (.Return (some e) pos) (sRet u) := ⟨PS.imp (ps_ret h.pe) fun D σ H ⟨ρ, P, fr, h, _, k2, _⟩ => ⟨ρ, _, fr, h, fun x T H' ρ' s v q => k2 x T H' s.fr.kp v q⟩⟩
def sIf (t : UTt) (s r : UTs) : UTs := fun P ρ => t ρ fun b ρ1 => if b = true then s P ρ1 else r P ρ1
theorem us_if {c : Expr} {a b : List Stmt} {t : UTt} {s r : UTs} (hc : UB X F c t) (ha : USs X F a s) (hb : USs X F b r) : US X F (.If c a b pos) (sIf t s r) := ⟨PS.imp (ps_if hc.pt ha.ps hb.ps) fun D σ H ⟨ρ, P, fr, h, k1, k2, k3, k4⟩ => by
 refine ⟨ρ, _, fr, h, fun b H1 ρ1 s1 q1 => ?_⟩
 have hs := s1.hs fr
 have fin : ∀ {v : UTs}, v P ρ1 -> liftS X.K F v D σ H1 := fun q => ⟨ρ1, P, s1.fr, q, fun σ2 H2 ρ2 f2 h2 q2 => k1 _ _ _ f2 (hs.trans h2) q2, k2, fun σ2 H2 ρ2 f2 h2 q2 => k3 _ _ _ f2 (hs.trans h2) q2, fun σ2 H2 ρ2 f2 h2 q2 => k4 _ _ _ f2 (hs.trans h2) q2⟩
 cases b with
 | true => exact iteT (fin (by rw [if_pos rfl] at q1; exact q1))
 | false => exact iteF (fin (by rw [if_neg Bool.false_ne_true] at q1; exact q1))⟩
def sExpr (u : UT) : UTs := fun P ρ => u ρ fun _ ρ1 => P.nx ρ1
theorem us_expr (h : UE X F e u) (hs : swapsWith e none pos.line X.env = pure false := by rfl) : US X F (.Expr e pos) (sExpr u) := ⟨PS.imp (ps_expr h.pe hs) fun D σ H ⟨ρ, P, fr, h, k1, _⟩ => ⟨ρ, _, fr, h, fun x T H' ρ' s v q => k1 _ _ _ s.fr (s.hs fr) q⟩⟩
theorem FrOk.set {K : PySem.W.Frag} {ρ : PEnv} {σ : St} {H : Hp} {i : Nat} {s : Sl} {x : V} (fr : FrOk K F ρ σ H) (v : i < ρ.length -> SlAt K F H (some x) s) (na : mutb s = true -> ∀ a, x = .ref a -> ∀ (j : Nat) (t : Sl), ρ[j]? = some t -> mutb t = true -> ixv σ j ≠ some (.ref a)) : FrOk K F (ρ.set i s) (σ.set i (some x)) H := by
 have ne : ∀ j, i ≠ j -> ixv (σ.set i (some x)) j = ixv σ j := fun j z => by unfold ixv; rw [List.getElem?_set_ne z]
 have self : ∀ (h : i < ρ.length), ixv (σ.set i (some x)) i = some x := fun h => by unfold ixv; rw [List.getElem?_set_self (by rw [<- fr.len]; exact h)]; rfl
 have get : ∀ (j : Nat) (t : Sl), (ρ.set i s)[j]? = some t -> (i = j /\ i < ρ.length /\ t = s) \/ (i ≠ j /\ ρ[j]? = some t) := fun j t e => by
  by_cases z : i = j
  ·subst z
   have hi : i < ρ.length := by
    have := (List.getElem?_eq_some_iff.mp e).1
    rwa [List.length_set] at this
   rw [List.getElem?_set_self hi] at e
   exact .inl ⟨rfl, hi, (Option.some.inj e).symm⟩
  ·rw [List.getElem?_set_ne z] at e; exact .inr ⟨z, e⟩
 refine ⟨fr.d0, fr.kp, by rw [List.length_set, List.length_set]; exact fr.len, fun j t e => ?_, fun j k a t t' e1 e2 m1 m2 q1 q2 => ?_⟩
 ·rcases get j t e with ⟨rfl, hi, rfl⟩ | ⟨z, e⟩
  ·rw [self hi]; exact v hi
  ·rw [ne j z]; exact fr.at_ j t e
 ·rcases get j t e1 with ⟨rfl, hi, rfl⟩ | ⟨z1, e1⟩
  ·rcases get k t' e2 with ⟨rfl, _, rfl⟩ | ⟨z2, e2⟩
   ·rfl
   ·rw [self hi] at q1
    rw [ne k z2] at q2
    exact absurd q2 (na m1 a (Option.some.inj q1) k t' e2 m2)
  ·rcases get k t' e2 with ⟨rfl, hi, rfl⟩ | ⟨z2, e2⟩
   ·rw [self hi] at q2
    rw [ne j z1] at q1
    exact absurd q1 (na m2 a (Option.some.inj q2) j t (by first | exact e1 | assumption) m1)
   ·rw [ne j z1] at q1
    rw [ne k z2] at q2
    exact fr.ap j k a t t' e1 e2 m1 m2 q1 q2
def sSet (i : Nat) (u : UT) : UTs := fun P ρ => u ρ fun T ρ1 => P.nx (ρ1.set i (.va T))
theorem us_set {i : Nat} {x : Str} {pos' : Pos} (hN : X.N.Nodup) (hi : X.N[i]? = some x) (hx : Loc X.env.scope x) (he : UE X F e u) (hs : swapsWith e (some (.Name x pos')) pos.line X.env = pure false := by rfl) (hf : X.fn x = true \/ X.env.scope.names.lookup x = some .local := by first | exact .inl rfl | exact .inr rfl | assumption) :
  US X F (.Assign [.Name x pos'] e pos) (sSet i u) := ⟨PS.imp (ps_set hN hi hx he.pe hs hf) fun D σ H ⟨ρ, P, fr, h, k1, _⟩ => by
 refine ⟨ρ, _, fr, h, fun x T H' ρ' s v q => ?_⟩
 exact k1 _ _ _ (s.fr.set (s := .va T) (fun _ => ⟨x, rfl, v⟩) (fun z => absurd z Bool.false_ne_true)) (s.hs fr) q⟩
def sOwn (i : Nat) (u : UTl) : UTs := fun P ρ => u ρ fun Ts ρ1 => P.nx (ρ1.set i (.own Ts))
theorem lift_own {i : Nat} {u : UTl} {t : TE} (ht : ∀ σ H QQ, liftL X.K F u σ H QQ -> t σ H QQ) (D : Ends) (σ : St) (H : Hp) (h : liftS X.K F (sOwn i u) D σ H) : tAsg t (gName i) D σ H := by
 obtain ⟨ρ, P, fr, h, k1, _⟩ := h
 refine ht σ H _ ⟨ρ, _, fr, h, fun a xs Ts H' ρ' s n e z p q => ?_⟩
 exact k1 _ _ _ (s.fr.set (s := .own Ts) (fun _ => ⟨a, xs, rfl, e, fr.none0 n, z, p⟩) (fun _ b eb j t ej mj qj => by cases eb; exact s.notown fr n j t ej mj qj)) (s.hs fr) q
theorem us_own {i : Nat} {x : Str} {u : UTl} {pos' : Pos} (hN : X.N.Nodup) (hi : X.N[i]? = some x) (hx : Loc X.env.scope x) (he : UL X F e u) (hs : swapsWith e (some (.Name x pos')) pos.line X.env = pure false := by rfl) (hf : X.fn x = true \/ X.env.scope.names.lookup x = some .local := by first | exact .inl rfl | exact .inr rfl | assumption) :
  US X F (.Assign [.Name x pos'] e pos) (sOwn i u) := ⟨PS.imp (ps_set hN hi hx he.pe hs hf) (lift_own fun _ _ _ h => h)⟩
end
def arSl : Ar -> Sl
 | .va T => .va T
 | .dk => .dk
def startP (n : Nat) (as : List Ar) : PEnv := as.map arSl ++ List.replicate (n - as.length) .no
theorem fr_start {K : PySem.W.Frag} {H : Hp} {dk : Option (Addr × Addr)} {N : List Str} {vs : List V} {as : List Ar} (hd : ∀ p c, dk = some (p, c) -> DeckAt H p c) (p : Paired (ArAt K dk H) vs as) : FrOk K ⟨H, dk⟩ (startP N.length as) (start N vs) H := by
 have l : vs.length = as.length := Paired.length p
 refine ⟨hd, ⟨fun _ _ e _ => e, hd⟩, ?_, fun i s e => ?_, fun i j a s t e _ m _ _ _ => ?_⟩
 ·unfold startP start
  rw [List.length_append, List.length_append, List.length_map, List.length_map, List.length_replicate, List.length_replicate, l]
 ·unfold startP at e
  by_cases hi : i < as.length
  ·rw [List.getElem?_append_left (by simpa using hi), List.getElem?_map] at e
   obtain ⟨r, er, rfl⟩ := Option.map_eq_some_iff.mp e
   have hv : i < vs.length := by omega
   obtain ⟨r', er', h⟩ := paired_get p (List.getElem?_eq_getElem hv)
   rw [er] at er'; cases er'
   have ex : ixv (start N vs) i = some vs[i] := by
    refine ixv_of ?_
    unfold start
    rw [List.getElem?_append_left (by simpa using hv), List.getElem?_map, List.getElem?_eq_getElem hv]
    rfl
   rw [ex]
   cases r with
   | va T => exact ⟨_, rfl, h⟩
   | dk => obtain ⟨p, c, e1, e2⟩ := h; exact ⟨p, c, e1, by rw [e2]⟩
  ·rw [List.getElem?_append_right (by simpa using hi), List.getElem?_replicate] at e
   split at e
   ·cases e; trivial
   ·cases e
 ·unfold startP at e
  by_cases hi : i < as.length
  ·rw [List.getElem?_append_left (by simpa using hi), List.getElem?_map] at e
   obtain ⟨r, er, rfl⟩ := Option.map_eq_some_iff.mp e
   cases r <;> cases m
  ·rw [List.getElem?_append_right (by simpa using hi), List.getElem?_replicate] at e
   split at e
   ·cases e; cases m
   ·cases e
theorem Has.pgood {P : Program} {w : World} {K : PySem.W.Frag} {mg : Str -> Option Value} {base : Heap} {x : Str} {st : Stmt} {N ps : List Str} {k : Nat} {psp : PSp} {us : UTs} (h : Has K mg x st) (S : FnScope N ps (defScope st))
  (hb : ∀ (kV doc pm : Value) (an : Option Addr) (cdv ct : Value) (us : List Value), us.length = ps.length -> bindArgs (PySem.W.fnOf x x (defArgs st) (defBody st) (defScope st) .none kV doc pm an cdv ct) ⟨us, []⟩ = pure (ps.zip us))
  (hbody : ∀ (f : Addr) (cdv : Value) (A : Around) (outer : List Env) (s : Shared) (H : Hp) (E : XK) (F : Fm), Room k (A.deeper (envOfC x (defScope st) s.heap.objs.size f cdv)) -> USs (cxOf CX0 P w K mg base N x (defScope st) f cdv A outer s H E).nox F (defBody st) us)
  (hp : ∀ as R, psp as R -> as.length = ps.length /\ us { nx := fun _ => R nT, rt := R } (startP N.length as)) : PGood P w K mg base (k + 1) x ps psp := by
 refine h.good S hb (fun vs H Q E q => ?_) (fun f cdv A outer s H vs Q E hr q => ?_)
 ·obtain ⟨dk, as, R, d, p, q, _⟩ := q
  rw [Paired.length p]
  exact (hp as R q).1
 ·obtain ⟨dk, as, R, d, p, q, k⟩ := q
  refine ⟨_, (hbody f cdv A outer s H E ⟨H, dk⟩ hr).ps, startP N.length as, _, fr_start d p, (hp as R q).2, fun σ' H' ρ' fr _ q => k _ _ _ fr.kp (.flat rfl) q, fun x T H' kp v q => k x T H' kp v q, fun _ _ _ _ _ z => z, fun _ _ _ _ _ z => z⟩
end L2
namespace L2
open PySem PySem.Spec PyProof.Rows WordM
def ItIs (K : PySem.W.Frag) (J : It) (H : Hp) (Ts : List Tv) : Prop := ∀ H1, HS H H1 -> (∀ i, i < Ts.length -> J.go i H1) /\ (∀ i x H2, i < Ts.length -> J.yld i H1 x H2 -> Same H1 H2 /\ ∃ T, Ts[i]? = some T /\ VA K H2 x T) /\ J.stop Ts.length H1
def liftI (K : PySem.W.Frag) (F : Fm) (u : UTl) : TI := fun σ H R => ∃ ρ Q, FrOk K F ρ σ H /\ u ρ Q /\ ∀ J Ts H' ρ', Stp K F σ ρ H ρ' H' -> ItIs K J H' Ts -> Q Ts ρ' -> R J H'
structure UI (X : Cx) (F : Fm) (tg e : Expr) (u : UTl) : Prop where
 pi : PI X tg e (liftI X.K F u)
theorem PI.imp {X : Cx} {tg e : Expr} {t t' : TI} (h : PI X tg e t) (i : ∀ σ H Q, t' σ H Q -> t σ H Q) : PI X tg e t' := fun pins s σ H Q I q => h pins s σ H Q I (i σ H Q q)
def ItR (X : Cx) (tg : Expr) (r : V -> Hp -> (It -> Hp -> Prop) -> Prop) : Prop := ∀ (pins : List (Addr × Obj)) (s : Shared) (σ : St) (H : Hp) (x : V) (v : Value) (R : It -> Hp -> Prop), Inv X pins σ H s -> RelV x v -> r x H R -> wpAny (model X.prog X.w) X.A (pyIter v) (PIE X pins σ tg R) X.xe s
section
variable {X : Cx} {F : Fm} {tg e : Expr}
theorem ItR.or {r r' : V -> Hp -> (It -> Hp -> Prop) -> Prop} (h : ItR X tg r) (h' : ItR X tg r') : ItR X tg (fun x H R => r x H R \/ r' x H R) := fun pins s σ H x v R I rx q => by
 rcases q with q | q
 ·exact h pins s σ H x v R I rx q
 ·exact h' pins s σ H x v R I rx q
theorem fp_one {pins : List (Addr × Obj)} {σ : St} {H : Hp} {s : Shared} (I : Inv X pins σ H s) : ∀ b ∈ [s.heap.objs.size], FpOk X pins H b := fun b hb => by
 rw [List.mem_singleton.mp hb]
 exact I.fpOk (Nat.le_refl _) (I.hok.fresh (Nat.le_refl _))
theorem it_list : ItR X tg (fun x H R => ∃ a xs, x = .ref a /\ SqL X.K H a xs /\ R (Itl X.K a) H) := by
 rintro pins s σ H _ v R I r ⟨a, xs, rfl, hq, q⟩
 cases r
 obtain ⟨its, rv, p, hz⟩ := I.list hq
 exact wpAny_pyIter_list p.isList ⟨_, [s.heap.objs.size], _, _, H, rfl, I.kept (t' := s.toks) fun b o => Heap.get?_push_of_some _, turn_list a _, ⟨_, Heap.get?_push_size _ rfl, rfl, rfl⟩, fp_one I, q⟩
theorem it_tup : ItR X tg (fun x H R => ∃ a xs, x = .ref a /\ SqT X.K H a xs /\ R (Itt X.K a) H) := by
 rintro pins s σ H _ v R I r ⟨a, xs, rfl, hq, q⟩
 cases r
 obtain ⟨its, rv, p, hz⟩ := I.tuple hq
 exact wpAny_pyIter_tuple (show s.heap.IsTuple a its.toArray from p) ⟨_, [s.heap.objs.size], _, _, H, rfl, I.kept (t' := s.toks) fun b o => Heap.get?_push_of_some _, turn_tuple a _, ⟨_, Heap.get?_push_size _ rfl, rfl, rfl⟩, fp_one I, q⟩
theorem it_str : ItR X tg (fun x H R => ∃ z, x = .str z /\ R (Its z) H) := by
 rintro pins s σ H _ v R I r ⟨z, rfl, q⟩
 obtain ⟨t, rfl⟩ := r
 cases ha : z.cps.all (· < 128) with
 | true => exact wpAny_pyIter_ascii ha ⟨_, [s.heap.objs.size], _, _, H, rfl, I.kept (t' := s.toks) fun b o => Heap.get?_push_of_some _, turn_strA _ z t, ⟨_, Heap.get?_push_size _ rfl, rfl, rfl⟩, fp_one I, q⟩
 | false => exact wpAny_pyIter_wide ha ⟨_, [s.heap.objs.size], _, _, H, rfl, I.kept (t' := s.toks) fun b o => Heap.get?_push_of_some _, turn_strW _ z t, ⟨_, Heap.get?_push_size _ rfl, rfl, rfl⟩, fp_one I, q⟩
theorem it_dict : ItR X tg (fun x H R => ∃ a ob kvs, x = .ref a /\ FzD H a ob kvs /\ R (ItD a ob kvs) H) := by
 rintro pins s σ H _ v R I r ⟨a, ob, kvs, rfl, hz, q⟩
 cases r
 obtain ⟨e, hs, hl, vs, es, ep, r, dd, hd⟩ := fz_dict I hz
 exact wpAny_pyIter_dict hs dd ⟨_, [s.heap.objs.size], _, _, H, rfl, I.kept (t' := s.toks) fun b o => Heap.get?_push_of_some _, turn_dict (a := a) (ob := ob) (kvs := kvs) hd, ⟨_, Heap.get?_push_size _ rfl, rfl, by rw [<- kv_len r]; rfl⟩, fp_one I, q⟩
def pIt : Tv -> (List Tv -> Prop) -> Prop
 | .seq _ Ts, Q => Q Ts
 | .leaf (.str z), Q => Q (z.cps.toList.map fun c => sT ⟨#[c]⟩)
 | .dct kts, Q => Q (kts.map fun kt => sT kt.1)
 | _, _ => False
theorem seq_of {K : PySem.W.Frag} {H : Hp} {a : Addr} {xs : List V} (h : PSeq K H false a xs) : SqL K H a xs := by
 obtain ⟨ob, h⟩ := h
 exact .inl (.inr ⟨ob, h⟩)
theorem is_list {K : PySem.W.Frag} {H : Hp} {a : Addr} {xs : List V} {Ts : List Tv} (h : PSeq K H false a xs) (p : VAs K H xs Ts) : ItIs K (Itl K a) H Ts := fun H1 hs => by
 have l : xs.length = Ts.length := Paired.length p
 have q := seq_of (h.hs hs)
 refine ⟨fun i hi => ⟨xs, xs[i]'(by omega), q, List.getElem?_eq_getElem _⟩, fun i x H2 hi ⟨e, y⟩ => ?_, ⟨xs, q, by omega⟩⟩
 subst e
 obtain ⟨T, eT, v⟩ := paired_get (p.hs hs) (y xs q)
 exact ⟨Same.refl _, T, eT, v⟩
theorem is_tup {K : PySem.W.Frag} {H : Hp} {a : Addr} {xs : List V} {Ts : List Tv} (h : PSeq K H true a xs) (p : VAs K H xs Ts) : ItIs K (Itt K a) H Ts := fun H1 hs => by
 have l : xs.length = Ts.length := Paired.length p
 have q : SqT K H1 a xs := h.hs hs
 refine ⟨fun i hi => ⟨xs, xs[i]'(by omega), q, List.getElem?_eq_getElem _⟩, fun i x H2 hi ⟨e, y⟩ => ?_, ⟨xs, q, by omega⟩⟩
 subst e
 obtain ⟨T, eT, v⟩ := paired_get (p.hs hs) (y xs q)
 exact ⟨Same.refl _, T, eT, v⟩
theorem is_str {K : PySem.W.Frag} {H : Hp} {z : Str} : ItIs K (Its z) H (z.cps.toList.map fun c => sT ⟨#[c]⟩) := fun H1 hs => by
 refine ⟨fun i hi => (show i < z.cps.size by simpa using hi), fun i x H2 hi ⟨e, c, ec, ex⟩ => ?_, by simp [Its]⟩
 subst e ex
 refine ⟨Same.refl _, sT ⟨#[c]⟩, ?_, .flat rfl⟩
 rw [List.getElem?_map, Array.getElem?_toList, ec]
 rfl
theorem is_dict {K : PySem.W.Frag} {H : Hp} {a : Addr} {ob : Obj} {kvs : List (Key × V)} {kts : List (Str × Tv)} (h : FzD H a ob kvs) (p : VAk K H kvs kts) : ItIs K (ItD a ob kvs) H (kts.map fun kt => sT kt.1) := fun H1 hs => by
 have l : kvs.length = kts.length := Paired.length p
 have q : FzD H1 a ob kvs := hs _ _ rfl h
 refine ⟨fun i hi => ⟨q, by rw [List.length_map] at hi; omega⟩, fun i x H2 hi ⟨e, k, v, ek, ex⟩ => ?_, ⟨q, by rw [List.length_map]; omega⟩⟩
 subst e ex
 obtain ⟨kt, ekt, e1, _⟩ := paired_get p ek
 refine ⟨Same.refl _, sT kt.1, by rw [List.getElem?_map, ekt]; rfl, ?_⟩
 have e1 : k = .inr kt.1 := e1
 rw [e1]
 exact .flat rfl
def uIt (u : UT) : UTl := fun ρ Q => u ρ fun T ρ1 => pIt T fun Ts => Q Ts ρ1
theorem ui_val {u : UT} (h : UE X F e u) : UI X F tg e (uIt u) := ⟨fun pins s σ H R I ⟨ρ, Q, fr, hu, k⟩ => by
 have IT : ItR X tg _ := it_list.or (it_tup.or (it_str.or it_dict))
 refine thn (h.pe pins s σ H (fun x H1 => _) I ⟨ρ, _, fr, hu, fun x T H' ρ' s v q => ?_⟩) fun v s1 ⟨x, H1, I1, r1, q1⟩ => IT pins s1 σ H1 x v R I1 r1 q1
 unfold pIt at q
 split at q
 ·rename_i t Ts
  obtain ⟨a, xs, rfl, hs, z, p⟩ := v.seqI
  cases t with
  | false => exact .inl ⟨a, xs, rfl, seq_of hs, k _ _ _ _ s (is_list hs p) q⟩
  | true => exact .inr (.inl ⟨a, xs, rfl, hs, k _ _ _ _ s (is_tup hs p) q⟩)
 ·obtain ⟨rfl, _⟩ := v.leafI
  exact .inr (.inr (.inl ⟨_, rfl, k _ _ _ _ s is_str q⟩))
 ·obtain ⟨a, kvs, rfl, ⟨ob, hd⟩, n, z, p⟩ := v.dctI
  exact .inr (.inr (.inr ⟨a, ob, kvs, rfl, hd, k _ _ _ _ s (is_dict hd p) q⟩))
 ·exact False.elim q⟩
def rngT (lo : Int) (n : Nat) : List Tv := (List.range n).map fun (i : Nat) => iT (lo + i)
theorem rngT_len (lo : Int) (n : Nat) : (rngT lo n).length = n := by simp [rngT]
theorem rngT_get {lo : Int} {n i : Nat} {T : Tv} (h : (rngT lo n)[i]? = some T) : i < n /\ T = iT (lo + i) := by
 have l := (List.getElem?_eq_some_iff.mp h).1
 rw [rngT_len] at l
 refine ⟨l, ?_⟩
 simp only [rngT, List.getElem?_map, List.getElem?_range l] at h
 exact (Option.some.inj h).symm
theorem is_range {K : PySem.W.Frag} {H : Hp} {lo : Int} {n : Nat} : ItIs K (Itr lo n) H (rngT lo n) := fun H1 hs => by
 have l : (rngT lo n).length = n := by simp [rngT]
 refine ⟨fun i hi => by rw [l] at hi; exact hi, fun i x H2 hi ⟨e, ex⟩ => ?_, by rw [l]; exact Nat.le_refl _⟩
 subst e ex
 rw [l] at hi
 exact ⟨Same.refl _, iT (lo + i), by simp [rngT, hi], .flat rfl⟩
def uRng1 (ua : UTa) : UTl := fun ρ Q => uVs ua ρ fun Ts ρ1 => ∃ j : Int, Ts = [iT j] /\ -(2 ^ 62) <= j /\ j < 2 ^ 62 /\ Q (rngT 0 j.toNat) ρ1
theorem ui_range1 {a : Expr} {ua : UTa} {p pos : Pos} (hg : Gl X "range") (hm : X.mg "range" = none) (ha : UA X F [a] ua) (hs : starEach [a] X.env = [(false, eval a X.env)] := by rfl) : UI X F tg (.Call (.Name "range" p) [a] [] pos) (uRng1 ua) := ⟨PI.imp (pi_range1 hg hm ha.pa hs) fun σ H R ⟨ρ, Q, fr, hu, k⟩ => by
 refine ⟨ρ, _, fr, hu, fun xs as H1 ρ1 s1 p1 q1 => ?_⟩
 obtain ⟨Ts, rfl, j, rfl, h1, h2, q⟩ := vsK_ex q1
 cases vas_of p1 with
 | cons v t =>
  cases t
  obtain ⟨rfl, _⟩ := v.leafI
  exact ⟨j, rfl, h1, h2, k _ _ _ _ s1 is_range q⟩⟩
theorem is_enum {K : PySem.W.Frag} {H : Hp} {a : Addr} {xs : List V} {Ts : List Tv} (h : PSeq K H false a xs) (p : VAs K H xs Ts) : ItIs K (ItE K a) H (Ts.mapIdx fun i T => .seq true [iT (i : Nat), T]) := fun H1 hs => by
 have l : xs.length = Ts.length := Paired.length p
 have q := seq_of (h.hs hs)
 refine ⟨fun i hi => ⟨xs, xs[i]'(by simpa [l] using hi), q, List.getElem?_eq_getElem _⟩, fun i x H2 hi ⟨b, y, ex, nb, e, hy⟩ => ?_, ⟨xs, q, by simp [l]⟩⟩
 subst e ex
 obtain ⟨T, eT, v⟩ := paired_get (p.hs hs) (hy xs q)
 refine ⟨same_new nb, .seq true [iT (i : Nat), T], by rw [List.getElem?_mapIdx, eT]; rfl, VA.seq (t := true) (SqT.of upd_same) (show 2 <= 100000 by decide) (.cons (.flat rfl) (.cons (v.hs (hs_new nb)) .nil))⟩
def uEnum (ua : UTa) : UTl := fun ρ Q => uVs ua ρ fun Ts ρ1 => ∃ Us, Ts = [.seq false Us] /\ Q (Us.mapIdx fun i T => .seq true [iT (i : Nat), T]) ρ1
theorem ui_enum {a : Expr} {ua : UTa} {es : List Expr} {ek : Nat} {p pos pos' : Pos} (hg : Gl X "enumerate") (hm : X.mg "enumerate" = none) (ha : UA X F [a] ua) (hs : starEach [a] X.env = [(false, eval a X.env)] := by rfl) : UI X F (.Tuple es ek pos') (.Call (.Name "enumerate" p) [a] [] pos) (uEnum ua) := ⟨PI.imp (pi_enum hg hm ha.pa hs) fun σ H R ⟨ρ, Q, fr, hu, k⟩ => by
 refine ⟨ρ, _, fr, hu, fun xs as H1 ρ1 s1 p1 q1 => ?_⟩
 obtain ⟨Ts, rfl, Us, rfl, q⟩ := vsK_ex q1
 cases vas_of p1 with
 | cons v t =>
  cases t
  obtain ⟨a, xs, rfl, hq, z, p⟩ := v.seqI
  exact ⟨a, rfl, ⟨xs, seq_of hq⟩, k _ _ _ _ s1 (is_enum hq p) q⟩⟩
end
abbrev UG := Tv -> PEnv -> (PEnv -> Prop) -> Prop
abbrev UGs := List Tv -> PEnv -> (PEnv -> Prop) -> Prop
def liftG (K : PySem.W.Frag) (F : Fm) (m : Nat) (g : UG) : TG := fun v σ H QQ => ∃ T ρ Q, VA K H v T /\ FrOk K F ρ σ H /\ g T ρ Q /\ ∀ σ' ρ', FrOk K F ρ' σ' H -> σ'.length = σ.length -> σ'.drop m = σ.drop m -> ρ'.drop m = ρ.drop m -> Sbv ρ' ρ -> Q ρ' -> QQ σ' H
def liftGs (K : PySem.W.Frag) (F : Fm) (m : Nat) (g : UGs) : TGs := fun vs σ H QQ => ∃ Ts ρ Q, VAs K H vs Ts /\ FrOk K F ρ σ H /\ g Ts ρ Q /\ ∀ σ' ρ', FrOk K F ρ' σ' H -> σ'.length = σ.length -> σ'.drop m = σ.drop m -> ρ'.drop m = ρ.drop m -> Sbv ρ' ρ -> Q ρ' -> QQ σ' H
structure UGt (X : Cx) (F : Fm) (m : Nat) (tg : Expr) (g : UG) : Prop where
 pg : PG X tg (liftG X.K F m g)
structure UGts (X : Cx) (F : Fm) (m : Nat) (tgs : List Expr) (g : UGs) : Prop where
 pg : PGs X tgs (liftGs X.K F m g)
theorem PG.imp {X : Cx} {tg : Expr} {t t' : TG} (h : PG X tg t) (i : ∀ v σ H Q, t' v σ H Q -> t v σ H Q) : PG X tg t' := fun pins s σ H v u Q I r q => h pins s σ H v u Q I r (i v σ H Q q)
theorem PGs.imp {X : Cx} {tg : List Expr} {t t' : TGs} (h : PGs X tg t) (i : ∀ v σ H Q, t' v σ H Q -> t v σ H Q) : PGs X tg t' := fun pins s σ H v u Q I r q => h pins s σ H v u Q I r (i v σ H Q q)
section
variable {X : Cx} {F : Fm} {pos : Pos} {m : Nat}
def gN (i : Nat) : UG := fun T ρ Q => Q (ρ.set i (.va T))
theorem drop_set {α : Type} {l : List α} {i m : Nat} {x : α} (h : i < m) : (l.set i x).drop m = l.drop m := by
 rw [List.drop_set, if_pos h]
theorem sbv_set {ρ : PEnv} {i : Nat} {T : Tv} : Sbv (ρ.set i (.va T)) ρ := fun j s e mm => by
 by_cases z : i = j
 ·subst z
  have hi : i < ρ.length := by
   have := (List.getElem?_eq_some_iff.mp e).1
   rwa [List.length_set] at this
  rw [List.getElem?_set_self hi] at e
  cases e; cases mm
 ·rw [List.getElem?_set_ne z] at e; exact ⟨s, e, mm⟩
theorem ug_name (i : Nat) {x : Str} (hm : i < m) (hN : X.N.Nodup) (hi : X.N[i]? = some x) (hx : Loc X.env.scope x) (hf : X.fn x = true \/ X.env.scope.names.lookup x = some .local := by first | exact .inl rfl | exact .inr rfl | assumption) : UGt X F m (.Name x pos) (gN i) := ⟨PG.imp (pg_name hN hi hx hf) fun v σ H QQ ⟨T, ρ, Q, vv, fr, h, k⟩ =>
 k _ _ (fr.set (s := .va T) (fun _ => ⟨v, rfl, vv⟩) (fun z => absurd z Bool.false_ne_true)) List.length_set (drop_set hm) (drop_set hm) sbv_set h⟩
def gT (n : Nat) (g : UGs) : UG := fun T ρ Q => ∃ Ts, T = .seq true Ts /\ Ts.length = n /\ g Ts ρ Q
def gNl : UGs := fun Ts ρ Q => Ts = [] /\ Q ρ
def gCn (g : UG) (gs : UGs) : UGs := fun Ts ρ Q => ∃ T r, Ts = T :: r /\ g T ρ fun ρ1 => gs r ρ1 Q
theorem ugs_nil : UGts X F m [] gNl := ⟨PGs.imp pgs_nil fun vs σ H QQ ⟨Ts, ρ, Q, vv, fr, ⟨e, h⟩, k⟩ => by
 subst e
 cases vv
 exact ⟨rfl, k _ _ fr rfl rfl rfl (Sbv.refl _) h⟩⟩
theorem ugs_cons {e : Expr} {es : List Expr} {g : UG} {gs : UGs} (h1 : UGt X F m e g) (h2 : UGts X F m es gs) (hs : (assignEach (e :: es) X.env).map (·.2) = assign e X.env :: (assignEach es X.env).map (·.2) := by rfl) : UGts X F m (e :: es) (gCn g gs) := ⟨PGs.imp (pgs_cons h1.pg h2.pg hs) fun vs σ H QQ ⟨Ts, ρ, Q, vv, fr, ⟨T, r, e, h⟩, k⟩ => by
 subst e
 cases vv with
 | cons v vs' =>
  refine ⟨_, _, rfl, T, ρ, _, v, fr, h, fun σ' ρ' f' l d dr sb q => ⟨r, ρ', Q, vs', f', q, fun σ2 ρ2 f2 l2 d2 dr2 sb2 q2 => ?_⟩⟩
  exact k _ _ f2 (l2.trans l) (d2.trans d) (dr2.trans dr) (sb.trans sb2) q2⟩
theorem ug_tup {es : List Expr} {k : Nat} {g : UGs} (n : Nat) (hc : X.calm = true) (h : UGts X F m es g) (hn : (assignEach es X.env).length = n := by rfl) (hst : (assignEach es X.env).findIdx? (·.1) = none := by rfl) : UGt X F m (.Tuple es k pos) (gT n g) := ⟨PG.imp (pg_tup hc h.pg hn hst) fun v σ H QQ ⟨T, ρ, Q, vv, fr, ⟨Ts, e, el, h⟩, k⟩ => by
 subst e
 obtain ⟨a, xs, rfl, hq, z, p⟩ := vv.seqI
 exact ⟨a, xs, rfl, hq, (Paired.length p).trans el, Ts, ρ, Q, p, fr, h, k⟩⟩
end
def blk (own : Nat) (fr : List Nat) (ρ : PEnv) : PEnv := List.replicate own .no ++ fr.map fun i => ρ.getD i .no
def putBack : List Nat -> List Sl -> PEnv -> PEnv
 | i :: fr, s :: ss, ρ => putBack fr ss (ρ.set i s)
 | _, _, ρ => ρ
def bck (own : Nat) (fr : List Nat) (ρ ρ' : PEnv) : PEnv := putBack fr (ρ'.drop own) ρ
def compT (own : Nat) (fr : List Nat) (g : UG) (tf : UTt) (ue : UT) : List Tv -> PEnv -> (List Tv -> PEnv -> Prop) -> Prop
 | [], ρ, Q => Q [] ρ
 | T :: Ts, ρ, Q => g T (blk own fr ρ) fun ρ1 => tf ρ1 fun b ρ2 => if b = true then ue ρ2 fun U ρ3 => compT own fr g tf ue Ts (bck own fr ρ ρ3) fun Us ρ4 => Q (U :: Us) ρ4 else compT own fr g tf ue Ts (bck own fr ρ ρ2) Q
def uComp (own : Nat) (fr : List Nat) (ui : UTl) (g : UG) (tf : UTt) (ue : UT) : UTl := fun ρ Q => ui ρ fun Ts ρ1 => Ts.length <= 100000 /\ compT own fr g tf ue Ts ρ1 Q
theorem putBack_len : ∀ (fr : List Nat) (ss : List Sl) (ρ : PEnv), (putBack fr ss ρ).length = ρ.length
 | [], _, _ => rfl
 | _ :: _, [], _ => rfl
 | i :: fr, s :: ss, ρ => by show (putBack fr ss _).length = _; rw [putBack_len fr ss, List.length_set]
theorem putBack_get : ∀ (fr : List Nat) (ss : List Sl) (ρ : PEnv) (i : Nat) (s : Sl), fr.length <= ss.length -> (putBack fr ss ρ)[i]? = some s -> (∃ j : Nat, fr[j]? = some i /\ ss[j]? = some s) \/ (i ∉ fr /\ ρ[i]? = some s)
 | [], _, _, i, s, _, h => .inr ⟨by simp, h⟩
 | _ :: _, [], _, _, _, l, _ => by simp at l
 | i0 :: fr, s0 :: ss, ρ, i, s, l, h => by
  rcases putBack_get fr ss (ρ.set i0 s0) i s (by simpa using l) h with ⟨j, e1, e2⟩ | ⟨n, e⟩
  ·exact .inl ⟨j + 1, by simpa using e1, by simpa using e2⟩
  ·by_cases z : i0 = i
   ·subst z
    have hi : i0 < ρ.length := by
     have := (List.getElem?_eq_some_iff.mp e).1
     rwa [List.length_set] at this
    rw [List.getElem?_set_self hi] at e
    exact .inl ⟨0, rfl, by simpa using e⟩
   ·rw [List.getElem?_set_ne z] at e
    exact .inr ⟨by simp [n, Ne.symm z], e⟩
theorem ixv_block {own : Nat} {fr : List Nat} {σ ow : St} (ho : ow.length = own) {j i : Nat} (h : fr[j]? = some i) : ixv (ow ++ σf fr σ) (own + j) = ixv σ i := by
 unfold ixv σf
 rw [List.getElem?_append_right (by omega), show own + j - ow.length = j by omega, List.getElem?_map, h]
 show (some (σ.getD i none)).join = _
 rw [List.getD_eq_getElem?_getD]
 cases σ[i]? with
 | none => rfl
 | some o => rfl
section
variable {K : PySem.W.Frag} {F : Fm} {ρ ρ4 ρ6 : PEnv} {σ ow : St} {H H6 : Hp} {own : Nat} {fr : List Nat}
theorem blk_get {i : Nat} {s : Sl} (h : (blk own fr ρ)[i]? = some s) : (i < own /\ s = .no) \/ ∃ j k, i = own + j /\ fr[j]? = some k /\ s = ρ.getD k .no := by
 unfold blk at h
 by_cases hi : i < own
 ·rw [List.getElem?_append_left (by simpa using hi), List.getElem?_replicate, if_pos hi] at h
  exact .inl ⟨hi, (Option.some.inj h).symm⟩
 ·rw [List.getElem?_append_right (by simpa using hi), List.length_replicate, List.getElem?_map] at h
  obtain ⟨k, e, rfl⟩ := Option.map_eq_some_iff.mp h
  exact .inr ⟨i - own, k, by omega, e, rfl⟩
theorem getD_mut {k : Nat} {s : Sl} (e : s = ρ.getD k .no) (m : s ≠ .no) : ρ[k]? = some s := by
 rw [List.getD_eq_getElem?_getD] at e
 cases q : ρ[k]? with
 | none => rw [q] at e; exact absurd e m
 | some t => rw [q] at e; rw [e]; rfl
theorem FrOk.pick (f : FrOk K F ρ σ H) (nd : fr.Nodup) : FrOk K F (blk own fr ρ) (σc own fr σ) H := by
 have val : ∀ {j k : Nat}, fr[j]? = some k -> ixv (σc own fr σ) (own + j) = ixv σ k := fun h => ixv_block (List.length_replicate) h
 refine ⟨f.d0, f.kp, ?_, fun i s e => ?_, fun i i' a s t e e' m m' q q' => ?_⟩
 ·unfold blk σc σf
  simp
 ·rcases blk_get e with ⟨_, rfl⟩ | ⟨j, k, rfl, ek, es⟩
  ·trivial
  ·rw [val ek]
   cases s with
   | no => trivial
   | _ => exact f.at_ k _ (getD_mut es (fun z => by cases z))
 ·rcases blk_get e with ⟨_, rfl⟩ | ⟨j, k, rfl, ek, es⟩
  ·cases m
  ·rcases blk_get e' with ⟨_, rfl⟩ | ⟨j', k', rfl, ek', es'⟩
   ·cases m'
   ·rw [val ek] at q
    rw [val ek'] at q'
    have := f.ap k k' a s t (getD_mut es (fun z => by rw [z] at m; cases m)) (getD_mut es' (fun z => by rw [z] at m'; cases m')) m m' q q'
    subst this
    have h1 := (List.getElem?_eq_some_iff.mp ek).1
    rw [(List.getElem?_inj h1 nd).mp (ek.trans ek'.symm)]
theorem Stp.back (f : FrOk K F ρ σ H) (nd : fr.Nodup) (s : Stp K F (ow ++ σf fr σ) ρ4 H ρ6 H6) (f4 : FrOk K F ρ4 (ow ++ σf fr σ) H) (ho : ow.length = own) (hd : ρ4.drop own = (blk own fr ρ).drop own) (sb : Sbv ρ4 (blk own fr ρ)) : Stp K F σ ρ H (bck own fr ρ ρ6) H6 := by
 -- a slot of the block that is one's own is the def's own
 have dm : ∀ (i : Nat) (t : Sl) (a : Addr), ρ4[i]? = some t -> mutb t = true -> ixv (ow ++ σf fr σ) i = some (.ref a) -> ∃ k u, k ∈ fr /\ ρ[k]? = some u /\ mutb u = true /\ ixv σ k = some (.ref a) := fun i t a e m q => by
  obtain ⟨u, eu, mu⟩ := sb i t e m
  rcases blk_get eu with ⟨_, rfl⟩ | ⟨j, k, rfl, ek, es⟩
  ·cases mu
  ·exact ⟨k, u, List.mem_of_getElem? ek, getD_mut es (fun z => by rw [z] at mu; cases mu), mu, by rw [<- ixv_block ho ek]; exact q⟩
 have st : Stay F ρ σ H H6 := fun b o e d n => s.st b o e d fun i t e1 m q => by
  obtain ⟨k, u, _, eu, mu, qu⟩ := dm i t b e1 m q
  exact n k u eu mu qu
 have l6 : fr.length <= (ρ6.drop own).length := by
  have := s.fr.len
  rw [List.length_append] at this
  rw [List.length_drop, this, ho]
  unfold σf
  rw [List.length_map]
  omega
 have sub : Sbv (bck own fr ρ ρ6) ρ := fun i t e m => by
  rcases putBack_get fr _ ρ i t l6 e with ⟨j, ej, et⟩ | ⟨_, e⟩
  ·rw [List.getElem?_drop] at et
   obtain ⟨u, eu, mu⟩ := s.sub _ t et m
   have : (ρ4.drop own)[j]? = some u := by rw [List.getElem?_drop]; exact eu
   rw [hd, List.getElem?_drop] at this
   rcases blk_get this with ⟨z, _⟩ | ⟨j', k, ejj, ek, es⟩
   ·omega
   ·have : j' = j := by omega
    subst this
    rw [ej] at ek; cases ek
    exact ⟨u, getD_mut es (fun z => by rw [z] at mu; cases mu), mu⟩
  ·exact ⟨t, e, m⟩
 have hs : HS H H6 := s.hs f4
 refine ⟨⟨f.d0, s.fr.kp, by unfold bck; rw [putBack_len]; exact f.len, fun i t e => ?_, fun i i' a t t' e e' m m' q q' => ?_⟩, st, sub, s.tr⟩
 ·rcases putBack_get fr _ ρ i t l6 e with ⟨j, ej, et⟩ | ⟨ni, e⟩
  ·rw [List.getElem?_drop] at et
   have := s.fr.at_ _ t et
   rwa [ixv_block ho ej] at this
  ·have h := f.at_ i t e
   have keep : ∀ a o, mutb t = true -> ixv σ i = some (.ref a) -> H a = some o -> H6 a = some o := fun a o m q e1 => s.st a o e1 (f.fresh_nodk (f.own_at e m q).2) fun i' t' e2 m2 q2 => by
    obtain ⟨k, u, hk, eu, mu, qu⟩ := dm i' t' a e2 m2 q2
    have := f.ap k i a u t eu e mu m qu q
    subst this
    exact ni hk
   cases t with
   | no => trivial
   | va T => obtain ⟨y, e1, v⟩ := h; exact ⟨y, e1, v.hs hs⟩
   | own Ts => obtain ⟨a, xs, e1, e2, e3, z, p⟩ := h; exact ⟨a, xs, e1, keep a _ rfl e1 e2, e3, z, p.hs hs⟩
   | dct kts => obtain ⟨a, kvs, e1, e2, e3, n, z, p⟩ := h; exact ⟨a, kvs, e1, keep a _ rfl e1 e2, e3, n, z, p.hs hs⟩
   | dk => exact h
 ·obtain ⟨u, eu, mu⟩ := sub i t e m
  obtain ⟨u', eu', mu'⟩ := sub i' t' e' m'
  exact f.ap i i' a u u' eu eu' mu mu' q q'
end
theorem lift_comp {K : PySem.W.Frag} {F : Fm} {own : Nat} {fr : List Nat} {ui : UTl} {g : UG} {tf : UTt} {ue : UT} (nd : fr.Nodup) (σ : St) (H : Hp) (QQ : VK) (h : liftL K F (uComp own fr ui g tf ue) σ H QQ) : tComp own fr (liftI K F ui) (liftG K F own g) (liftT K F tf) (liftE K F ue) σ H QQ := by
 obtain ⟨ρ, Q, f, h, k⟩ := h
 refine ⟨ρ, _, f, h, fun J Ts H1 ρ1 s1 it q1 a na => ?_⟩
 obtain ⟨len, q1⟩ := q1
 refine ⟨Ts.length, fun i ys H2 => ∃ Us ρi, Stp K F σ ρ1 H1 ρi H2 /\ VAs K H2 ys Us /\ Us.length <= i /\ compT own fr g tf ue (Ts.drop i) ρi (fun Vs ρ' => Q (Us ++ Vs) ρ'), ⟨[], ρ1, Stp.same s1.fr (same_new na), .nil, Nat.le_refl _, q1⟩, ?_⟩
 rintro i ys H2 hi ha ⟨Us, ρi, si, p, hl, q⟩
 have hs1 := si.hs s1.fr
 obtain ⟨go, yld, stop⟩ := it H2 hs1
 by_cases hlt : i < Ts.length
 ·refine .inr ⟨hlt, go i hlt, fun x H3 hy => ?_⟩
  obtain ⟨sm, T, eT, vx⟩ := yld i x H3 hlt hy
  have s3 := si.trans (Stp.same si.fr sm)
  have ha3 := sm _ _ ha
  have ed : Ts.drop i = T :: Ts.drop (i + 1) := by
   rw [List.drop_eq_getElem_cons hlt]
   congr 1
   rw [List.getElem?_eq_getElem hlt] at eT
   exact Option.some.inj eT
  rw [ed] at q
  have nodk := s1.fr.none_nodk na
  have nown := s3.notown s1.fr na
  refine ⟨T, blk own fr ρi, _, vx, s3.fr.pick nd, q, fun σ4 ρ4 f4 l4 d4 dr4 sb4 q4 => ?_⟩
  have e4 : σ4 = σ4.take own ++ σf fr σ := by
   have : σ4.drop own = σf fr σ := by
    rw [d4]
    unfold σc
    rw [List.drop_append_of_le_length (by simp), List.drop_of_length_le (by simp), List.nil_append]
   rw [<- this, List.take_append_drop]
  have lo : (σ4.take own).length = own := by
   rw [List.length_take, l4]
   unfold σc
   simp
  have notin : ∀ (j : Nat) (t : Sl), ρ4[j]? = some t -> mutb t = true -> ixv σ4 j ≠ some (.ref a) := fun j t e m z => by
   obtain ⟨u, eu, mu⟩ := sb4 j t e m
   rcases blk_get eu with ⟨_, rfl⟩ | ⟨j', k, rfl, ek, es⟩
   ·cases mu
   ·rw [e4, ixv_block lo ek] at z
    exact nown k u (getD_mut es (fun z => by rw [z] at mu; cases mu)) mu z
  refine ⟨⟨σ4.take own, lo, e4⟩, ρ4, _, f4, q4, fun b H5 ρ5 s5 q5 => ?_⟩
  have a5 : H5 a = some (.lst ys) := s5.st a _ ha3 nodk notin
  cases b with
  | true =>
   refine iteT ?_
   rw [if_pos rfl] at q5
   refine ⟨ρ5, _, s5.fr, q5, fun y U H6 ρ6 s6 v6 q6 => ?_⟩
   have s46 := s5.trans s6
   have a6 : H6 a = some (.lst ys) := s46.st a _ ha3 nodk notin
   have lys : ys.length = Us.length := Paired.length p
   refine ⟨a6, line_lt (by omega), Us ++ [U], bck own fr ρi ρ6, ?_, ?_, by rw [List.length_append, List.length_singleton]; omega, ?_⟩
   ·rw [e4] at s46 f4
    exact (s3.trans (Stp.back s3.fr nd s46 f4 lo dr4 sb4)).put s1.fr na a6 rfl _
   ·have h36 := s46.hs f4
    exact VAs.hs (hs_put a6 rfl) (Paired.snoc ((p.hs sm.hs).hs h36) v6)
   ·simpa using q6
  | false =>
   refine iteF ?_
   rw [if_neg Bool.false_ne_true] at q5
   refine ⟨a5, Us, bck own fr ρi ρ5, ?_, ?_, by omega, q5⟩
   ·rw [e4] at s5 f4
    exact s3.trans (Stp.back s3.fr nd s5 f4 lo dr4 sb4)
   ·exact (p.hs sm.hs).hs (s5.hs f4)
 ·have e : i = Ts.length := by omega
  subst e
  rw [List.drop_length] at q
  have q : Q (Us ++ []) ρi := q
  rw [List.append_nil] at q
  exact .inl ⟨stop, k a ys Us H2 ρi (s1.trans si) (s1.non na) ha (by omega) p q⟩
section
variable {X : Cx} {F : Fm} {sc : Scope} {XN N : List Str} {own : Nat} {fr : List Nat} {scope : Scope} {elt tg iter : Expr} {ifs : List Expr} {pos : Pos} {ui : UTl} {g : UG} {tf : UTt} {ue : UT}
structure UF (X : Cx) (F : Fm) (ifs : List Expr) (u : UTt) : Prop where
 pf : PFs X ifs (liftT X.K F u)
def tYes : UTt := fun ρ Q => Q true ρ
theorem uf_nil : UF X F [] tYes := ⟨fun pins s σ H Q I ⟨ρ, Q', f, h, k⟩ => pf_nil pins s σ H Q I (k _ _ _ (Stp.refl f) h)⟩
theorem uf_one {c : Expr} {t : UTt} (h : UB X F c t) : UF X F [c] t := ⟨pf_one h.pt⟩
theorem ul_comp (hc : X.calm = true) (S : CompScope sc XN N own fr scope) (nd : fr.Nodup) (hi : UI X F tg iter ui)
  (hg : ∀ cl C fp s H, UGt (cxComp X N scope cl C fp s H) F own tg g) (hf : ∀ cl C fp s H, UF (cxComp X N scope cl C fp s H) F ifs tf) (he : ∀ cl C fp s H, UE (cxComp X N scope cl C fp s H) F elt ue)
  (hs : ∀ x, foldedSetIterable iter X.env x = pure x := by intro _; rfl) (hsc : X.env.scope = sc := by rfl) (hxn : X.N = XN := by rfl) : UL X F (.ListComp elt [⟨tg, iter, ifs, 0⟩] scope pos) (uComp own fr ui g tf ue) :=
 ⟨PE.imp (pe_comp hc S hi.pi (fun cl C fp s H => (hg cl C fp s H).pg) (fun cl C fp s H => (hf cl C fp s H).pf) (fun cl C fp s H => (he cl C fp s H).pe) hs hsc hxn) (lift_comp nd)⟩
theorem PS.fz {st : Stmt} {t : TS} (h : PS X st t) : PS X st (fun D σ H => t { D with nx := fun σ' H' => D.nx σ' H' \/ ∃ a o, H' a = some o /\ fzb o = true /\ ∀ ob, D.nx σ' (upd H' a (.frz ob o)) } σ H) := fun pins s σ H D I q => thn (h pins s σ H _ I q) fun fl s' z => by
 cases fl with
 | next =>
  obtain ⟨σ', H', I', q⟩ := z
  rcases q with q | ⟨a, o, e, n, q⟩
  ·exact ⟨σ', H', I', q⟩
  ·obtain ⟨ob, I2⟩ := I'.fz e n
   exact ⟨σ', _, I2, q ob⟩
 | brk => exact z
 | cont => exact z
 | ret u => exact z
theorem us_setc {i : Nat} {x : Str} {pos' spos : Pos} (hc : X.calm = true) (hN : X.N.Nodup) (hx : X.N[i]? = some x) (hl : Loc X.env.scope x) (S : CompScope sc XN N own fr scope) (nd : fr.Nodup) (hi : UI X F tg iter ui)
  (hg : ∀ cl C fp s H, UGt (cxComp X N scope cl C fp s H) F own tg g) (hf : ∀ cl C fp s H, UF (cxComp X N scope cl C fp s H) F ifs tf) (he : ∀ cl C fp s H, UE (cxComp X N scope cl C fp s H) F elt ue)
  (hsw : swapsWith (.ListComp elt [⟨tg, iter, ifs, 0⟩] scope pos) (some (.Name x pos')) spos.line X.env = pure true := by rfl)
  (hf' : X.fn x = true \/ X.env.scope.names.lookup x = some .local := by first | exact .inl rfl | exact .inr rfl | assumption)
  (hs : ∀ x, foldedSetIterable iter X.env x = pure x := by intro _; rfl) (hsc : X.env.scope = sc := by rfl) (hxn : X.N = XN := by rfl) : US X F (.Assign [.Name x pos'] (.ListComp elt [⟨tg, iter, ifs, 0⟩] scope pos) spos) (sSet i (uL (uComp own fr ui g tf ue))) :=
 ⟨PS.imp (PS.fz (ps_setc hc hN hx hl S hi.pi (fun cl C fp s H => (hg cl C fp s H).pg) (fun cl C fp s H => (hf cl C fp s H).pf) (fun cl C fp s H => (he cl C fp s H).pe) hsw hf' hs hsc hxn)) fun D σ H ⟨ρ, P, f, h, k1, _⟩ => by
  refine lift_comp nd σ H _ ⟨ρ, _, f, h, fun a xs Ts H' ρ' s n e z p q => ?_⟩
  refine .inr ⟨a, _, e, rfl, fun ob => ?_⟩
  have s2 := s.put f n e rfl (.frz ob (.lst xs))
  exact k1 _ _ _ (s2.fr.set (s := .va (.seq false Ts)) (fun _ => ⟨_, rfl, VA.seq (t := false) ⟨ob, upd_same⟩ z (p.hs (hs_put e rfl))⟩) (fun z => absurd z Bool.false_ne_true)) (s2.hs f) q⟩
def forT (g : UG) (ub : UTs) : List Tv -> PEnds -> PEnv -> Prop
 | [], P, ρ => P.nx ρ
 | T :: Ts, P, ρ => g T ρ fun ρ1 => ub { P with nx := fun ρ' => forT g ub Ts P ρ', ct := fun ρ' => forT g ub Ts P ρ', bk := P.nx } ρ1
def sFor (ui : UTl) (g : UG) (ub : UTs) : UTs := fun P ρ => ui ρ fun Ts ρ1 => forT g ub Ts P ρ1
theorem us_for {body : List Stmt} {ub : UTs} {m : Nat} (hp : PassesOwn (model X.prog X.w) X.A X.env X.xe) (hc : X.calm = true) (hi : UI X F tg iter ui) (hg : UGt X F m tg g) (hb : USs X F body ub)
  (hs : ∀ x, foldedSetIterable iter X.env x = pure x := by intro _; rfl) : US X F (.For tg iter body [] pos) (sFor ui g ub) := ⟨PS.imp (ps_for hp hc hi.pi hg.pg hb.ps hs) fun D σ H ⟨ρ, P, f, h, k1, k2, k3, k4⟩ => by
 refine ⟨ρ, _, f, h, fun J Ts H1 ρ1 s1 it q1 => ?_⟩
 have h01 := s1.hs f
 refine ⟨fun i m σ' H' => m = Ts.length - i /\ i <= Ts.length /\ HS H1 H' /\ ∃ ρi, FrOk X.K F ρi σ' H' /\ forT g ub (Ts.drop i) P ρi, ⟨_, rfl, Nat.zero_le _, HS.refl _, ρ1, s1.fr, q1⟩, ?_⟩
 rintro i m σ' H' ⟨rfl, hi, hs, ρi, fi, q⟩
 obtain ⟨go, yld, stop⟩ := it H' hs
 by_cases hlt : i < Ts.length
 ·refine .inr ⟨go i hlt, fun σ2 H2 => HS H1 H2 /\ ∃ ρ2, FrOk X.K F ρ2 σ2 H2 /\ forT g ub (Ts.drop (i + 1)) P ρ2, fun σ2 H2 ⟨hs2, ρ2, f2, q2⟩ => ⟨_, by omega, rfl, hlt, hs2, ρ2, f2, q2⟩, fun x H3 hy => ?_⟩
  obtain ⟨sm, T, eT, vx⟩ := yld i x H3 hlt hy
  have ed : Ts.drop i = T :: Ts.drop (i + 1) := by
   rw [List.drop_eq_getElem_cons hlt]
   congr 1
   rw [List.getElem?_eq_getElem hlt] at eT
   exact Option.some.inj eT
  rw [ed] at q
  have f3 := (Stp.same fi sm).fr
  refine ⟨T, ρi, _, vx, f3, q, fun σ4 ρ4 f4 _ _ _ _ q4 => ?_⟩
  have h13 := hs.trans sm.hs
  exact ⟨ρ4, _, f4, q4, fun σ5 H5 ρ5 f5 hs5 q5 => ⟨h13.trans hs5, ρ5, f5, q5⟩, k2, fun σ5 H5 ρ5 f5 hs5 q5 => k1 _ _ _ f5 (h01.trans (h13.trans hs5)) q5, fun σ5 H5 ρ5 f5 hs5 q5 => ⟨h13.trans hs5, ρ5, f5, q5⟩⟩
 ·have e : i = Ts.length := by omega
  subst e
  rw [List.drop_length] at q
  exact .inl ⟨stop, k1 _ _ _ fi (h01.trans hs) q⟩⟩
def sWhile (t : UTt) (ub : UTs) : UTs := fun P ρ => ∃ W : Nat -> PEnv -> Prop, (∃ m, W m ρ) /\ ∀ m ρ, W m ρ -> t ρ fun b ρ1 => if b = true then ub { P with nx := fun ρ' => ∃ m', m' < m /\ W m' ρ', ct := fun ρ' => ∃ m', m' < m /\ W m' ρ', bk := P.nx } ρ1 else P.nx ρ1
theorem us_while {c : Expr} {body : List Stmt} {t : UTt} {ub : UTs} (hp : PassesOwn (model X.prog X.w) X.A X.env X.xe) (hc : UB X F c t) (hb : USs X F body ub) : US X F (.While c body [] pos) (sWhile t ub) := ⟨PS.imp (ps_while hp hc.pt hb.ps) fun D σ H ⟨ρ, P, f, ⟨W, ⟨m0, w0⟩, h⟩, k1, k2, k3, k4⟩ => by
 refine ⟨fun m σ' H' => HS H H' /\ ∃ ρ', FrOk X.K F ρ' σ' H' /\ W m ρ', ⟨m0, HS.refl _, ρ, f, w0⟩, ?_⟩
 rintro m σ' H' ⟨hs, ρ', f', w⟩
 refine ⟨ρ', _, f', h m ρ' w, fun b H1 ρ1 s1 q1 => ?_⟩
 have h1 := hs.trans (s1.hs f')
 cases b with
 | true =>
  rw [if_pos rfl] at q1
  refine iteT ⟨fun σ2 H2 => HS H H2 /\ ∃ m', m' < m /\ ∃ ρ2, FrOk X.K F ρ2 σ2 H2 /\ W m' ρ2, fun σ2 H2 ⟨hs2, m', lt, ρ2, f2, w2⟩ => ⟨m', lt, hs2, ρ2, f2, w2⟩, ?_⟩
  exact ⟨ρ1, _, s1.fr, q1, fun σ5 H5 ρ5 f5 hs5 ⟨m', lt, w5⟩ => ⟨h1.trans hs5, m', lt, ρ5, f5, w5⟩, k2, fun σ5 H5 ρ5 f5 hs5 q5 => k1 _ _ _ f5 (h1.trans hs5) q5, fun σ5 H5 ρ5 f5 hs5 ⟨m', lt, w5⟩ => ⟨h1.trans hs5, m', lt, ρ5, f5, w5⟩⟩
 | false =>
  rw [if_neg Bool.false_ne_true] at q1
  exact iteF (k1 _ _ _ s1.fr h1 q1)⟩
end
end L2
namespace L2
open PySem PySem.Spec PyProof.Rows WordM
section
variable {K : PySem.W.Frag} {F : Fm} {ρ : PEnv} {σ : St} {H : Hp} {i : Nat} {s s' : Sl} {a : Addr} {o o' : HO}
theorem FrOk.put (fr : FrOk K F ρ σ H) (e : ρ[i]? = some s) (m : mutb s = true) (q : ixv σ i = some (.ref a)) (h : H a = some o) (n : fzb o = true) (v : HS H (upd H a o') -> F.H0 a = none -> SlAt K F (upd H a o') (some (.ref a)) s') : Stp K F σ ρ H (ρ.set i s') (upd H a o') := by
 have hi : i < ρ.length := (List.getElem?_eq_some_iff.mp e).1
 have h0 := (fr.own_at e m q).2
 have hd := fr.fresh_nodk h0
 have hs : HS H (upd H a o') := hs_put h (by cases o <;> first | rfl | exact absurd n Bool.false_ne_true)
 have st : ∀ b u, b ≠ a -> H b = some u -> upd H a o' b = some u := fun b u z e => by rw [upd_ne z]; exact e
 have get : ∀ (j : Nat) (t : Sl), (ρ.set i s')[j]? = some t -> (i = j /\ t = s') \/ (i ≠ j /\ ρ[j]? = some t) := fun j t e' => by
  by_cases z : i = j
  ·subst z
   rw [List.getElem?_set_self hi] at e'
   exact .inl ⟨rfl, (Option.some.inj e').symm⟩
  ·rw [List.getElem?_set_ne z] at e'; exact .inr ⟨z, e'⟩
 have sub : Sbv (ρ.set i s') ρ := fun j t e' m' => by
  rcases get j t e' with ⟨rfl, rfl⟩ | ⟨z, e'⟩
  ·exact ⟨s, e, m⟩
  ·exact ⟨t, e', m'⟩
 refine ⟨⟨fr.d0, ⟨fun b u e1 n1 => st b u (fun z => by rw [z, h0] at e1; cases e1) (fr.kp.st b u e1 n1), fun p c d => ?_⟩, by rw [List.length_set]; exact fr.len, fun j t e' => ?_, fun j k b t t' e1 e2 m1 m2 q1 q2 => ?_⟩, fun b u e1 _ n1 => st b u (fun z => n1 i s e m (by rw [z]; exact q)) e1, sub, fun b u e1 => if z : b = a then ⟨o', z ▸ upd_same⟩ else ⟨u, st b u z e1⟩⟩
 ·obtain ⟨ne, ⟨S, k, e1⟩, ns, e2, l⟩ := fr.kp.dkk p c d
  exact ⟨ne, ⟨S, k, st _ _ (hd p c d).1.symm e1⟩, ns, st _ _ (hd p c d).2.symm e2, l⟩
 ·rcases get j t e' with ⟨rfl, rfl⟩ | ⟨z, e'⟩
  ·rw [q]; exact v hs h0
  ·have x := fr.at_ j t e'
   cases t with
   | no => trivial
   | va T => obtain ⟨y, e1, v⟩ := x; exact ⟨y, e1, v.hs hs⟩
   | own Ts => obtain ⟨b, xs, e1, e2, e3, z', p⟩ := x; exact ⟨b, xs, e1, st _ _ (fun y => z (fr.ap i j a s _ e e' m rfl q (by rw [e1, y]))) e2, e3, z', p.hs hs⟩
   | dct kts => obtain ⟨b, kvs, e1, e2, e3, n', z', p⟩ := x; exact ⟨b, kvs, e1, st _ _ (fun y => z (fr.ap i j a s _ e e' m rfl q (by rw [e1, y]))) e2, e3, n', z', p.hs hs⟩
   | dk => exact x
 ·obtain ⟨u, eu, mu⟩ := sub j t e1 m1
  obtain ⟨u', eu', mu'⟩ := sub k t' e2 m2
  exact fr.ap j k b u u' eu eu' mu mu' q1 q2
end
section
variable {X : Cx} {F : Fm} {e : Expr} {u : UT} {x : Str} {p apos cpos pos : Pos}
def uAppend (i : Nat) (u : UT) : UT := fun ρ Q => (∃ Ts, ρ[i]? = some (.own Ts)) /\ u ρ fun T ρ1 => ∃ Ts, ρ1[i]? = some (.own Ts) /\ Ts.length < 100000 /\ Q nT (ρ1.set i (.own (Ts ++ [T])))
theorem ue_append (i : Nat) (h : UE X F e u) (hN : X.N[i]? = some x := by rfl) (hv : Vis X.env.scope x := by first | exact Or.inl rfl | exact Or.inr (Or.inl rfl) | exact Or.inr (Or.inr rfl)) (hd : (x == ("__debug__" : Str)) = false := by decide) (hcd : (x == ("__classdict__" : Str)) = false := by decide)
  (hbase : attributeBase (.Name x p) "append" X.env (eval (.Name x p) X.env) = eval (.Name x p) X.env := by rfl)
  (hfew : ((backTo cpos (starEach [e] X.env)).all (fun x => !x.1) && (backToKw cpos (keywordEach [] X.env)).all (fun x => x.1.isSome) && decide (([e] : List Expr).length + ([] : List Keyword).length + (if ([] : List Keyword).isEmpty then 0 else 1) < 30)) = true := by rfl)
  (hline : (apos.endLine == cpos.line) = true := by rfl) (hs : starEach [e] X.env = (false, eval e X.env) :: starEach [] X.env := by rfl) (hplain : (backTo cpos (starEach [] X.env)).any (·.1) = false := by rfl) (hst : isStar e = false := by rfl) :
  UE X F (.Call (.Attribute (.Name x p) "append" apos) [e] [] cpos) (uAppend i u) := ⟨PE.imp (pe_bm PySem.F.plainAttrs_list PySem.F.slot_list_append PySem.F.type_list_append mt_append (pe_var hN hv hd hcd) (ua_c h ua_nil hst).pa hbase hfew hline hs hplain) fun σ H QQ ⟨ρ, Q, f, ⟨⟨Ts0, e0⟩, hu⟩, k⟩ => by
 obtain ⟨a, xs, ea, eH, e3, z, pv⟩ := f.at_ i _ e0
 refine ⟨_, ixv_some ea, .inl ⟨rfl, xs, SqL.of eH⟩, ρ, fun as ρ1 => ∃ T, as = [.va T] /\ ∃ Ts, ρ1[i]? = some (.own Ts) /\ Ts.length < 100000 /\ Q nT (ρ1.set i (.own (Ts ++ [T]))), f, ?_, fun vs as H1 ρ1 s1 p1 q1 => ?_⟩
 ·show u ρ _
  have : (fun T ρ1 => ∃ Ts, ρ1[i]? = some (.own Ts) /\ Ts.length < 100000 /\ Q nT (ρ1.set i (.own (Ts ++ [T])))) = (fun T (ρ1 : PEnv) => (uNil ρ1 fun as ρ2 => ∃ T', Ar.va T :: as = [.va T'] /\ ∃ Ts, ρ2[i]? = some (.own Ts) /\ Ts.length < 100000 /\ Q nT (ρ2.set i (.own (Ts ++ [T'])))) ) := by
   funext T ρ1
   apply propext
   constructor
   ·intro z; exact ⟨T, rfl, z⟩
   ·rintro ⟨T', e, z⟩; cases e; exact z
  rw [this] at hu
  exact hu
 ·obtain ⟨T, rfl, Ts, e1, lt, q⟩ := q1
  cases p1 with
  | cons v t =>
   cases t
   obtain ⟨a', ys, ea', eH1, e3', z', pv'⟩ := s1.fr.at_ i _ e1
   rw [ea] at ea'; cases ea'
   have ll : ys.length = Ts.length := Paired.length pv'
   refine ⟨a, ys, _, rfl, rfl, eH1, line_lt (by omega), k _ _ _ _ (s1.trans (s1.fr.put (s' := .own (Ts ++ [T])) e1 rfl ea eH1 rfl fun hs h0 => ⟨a, _, rfl, upd_same, h0, by rw [List.length_append, List.length_singleton]; omega, VAs.hs hs (Paired.snoc pv' v)⟩)) (.flat rfl) q⟩⟩
theorem paired_getR {α β : Type} {R : α -> β -> Prop} : ∀ {l : List α} {m : List β} {n : Nat} {y : β}, Paired R l m -> m[n]? = some y -> ∃ x, l[n]? = some x /\ R x y
 | _, _, _, _, .nil, e => by simp at e
 | _, _, 0, _, .cons r _, e => by simp at e; subst e; exact ⟨_, rfl, r⟩
 | _, _, n + 1, _, .cons _ t, e => by
  obtain ⟨x, h1, h2⟩ := paired_getR (n := n) t (by simpa using e)
  exact ⟨x, by simpa using h1, h2⟩
end
theorem Inv.frozen {X : Cx} {pins : List (Addr × Obj)} {σ : St} {H H2 : Hp} {s : Shared} (I : Inv X pins σ H s) (fro : FrozenA noHp H H2) (ok2 : HOk X.prog X.w H2 s.heap) : Inv X pins σ H2 s := by
 refine ⟨I.ok, I.os, I.bare, ⟨I.base.keep, I.base.slot, fun b o e n hx => fro.none_of (I.base.free b o e n hx), I.base.there, fun b xs e => fro.keep (I.base.tups b xs e) rfl, fun b o u e => fro.keep (I.base.frzs b o u e) rfl, fun b ps e => ?_⟩, I.loc, I.cell, fro.none_of I.free, fun x c e => fro.none_of (I.freeC x c e), fun p hp => ?_, ok2, I.len⟩
 ·obtain ⟨more, z⟩ := I.base.tbls b ps e
  exact ⟨more, fro.keep z rfl⟩
 ·obtain ⟨p1, p2, p3⟩ := I.pin p hp
  exact ⟨p1, fro.none_of p2, p3⟩
theorem Inv.thaw {X : Cx} {pins : List (Addr × Obj)} {σ : St} {H H3 H4 : Hp} {s s' : Shared} (I : Inv X pins σ H s) (I3 : Inv X pins σ H3 s') (th : Thaw H H3 H4) : Inv X pins σ H4 s' := by
 have stay : ∀ b o, H3 b = some o -> (∀ u ob, o ≠ .frz ob u) -> H4 b = some o := fun b o e n => by
  rcases th b with ⟨u, ob, _, _, z, _⟩ | ⟨_, z⟩
  ·rw [e] at z; cases z; exact absurd rfl (n u ob)
  ·rw [z]; exact e
 have none4 : ∀ b, H3 b = none -> H4 b = none := fun b e => by
  rcases th b with ⟨u, ob, _, _, z, _⟩ | ⟨_, z⟩
  ·rw [e] at z; cases z
  ·rw [z]; exact e
 refine ⟨I3.ok, I3.os, I3.bare, ⟨I3.base.keep, I3.base.slot, fun b o e n hx => none4 b (I3.base.free b o e n hx), I3.base.there, fun b xs e => stay b _ (I3.base.tups b xs e) (fun _ _ z => by cases z), fun b o u e => ?_, fun b ps e => ?_⟩, I3.loc, I3.cell, none4 _ I3.free, fun x c e => none4 c (I3.freeC x c e), fun p hp => ?_, fun b o e => ?_, I3.len⟩
 ·rcases th b with ⟨o', ob, n, z, _⟩ | ⟨_, z⟩
  ·rw [I.base.frzs b o u e] at z; cases z; exact absurd n Bool.false_ne_true
  ·rw [z]; exact I3.base.frzs b o u e
 ·obtain ⟨more, z⟩ := I3.base.tbls b ps e
  exact ⟨more, stay b _ z (fun _ _ z => by cases z)⟩
 ·obtain ⟨p1, p2, p3⟩ := I3.pin p hp
  exact ⟨p1, none4 _ p2, p3⟩
 ·have st : ∀ o, ObjOk X.prog X.w H3 s'.heap b o -> ObjOk X.prog X.w H4 s'.heap b o := fun o x => x.stay (fun _ _ _ r => r) (fun d r => stay d _ r (fun _ _ z => by cases z)) fun d xs r => stay d _ r (fun _ _ z => by cases z)
  rcases th b with ⟨o', ob, n, _, z, z'⟩ | ⟨_, z⟩
  ·rw [z'] at e
   cases e
   obtain ⟨_, y⟩ := (show ObjOk X.prog X.w H3 s'.heap b (.frz ob o) from I3.hok b _ z)
   exact st o y
  ·rw [z] at e
   exact st o (I3.hok b o e)
def pkS : Sl -> Sl
 | .own Ts => .va (.seq false Ts)
 | .dct kts => .va (.dct kts)
 | .dk => .no
 | s => s
def pkE (ρ : PEnv) : PEnv := ρ.map pkS
theorem fr_pk {K : PySem.W.Frag} {F : Fm} {ρ : PEnv} {σ : St} {H H2 : Hp} (f : FrOk K F ρ σ H) (fro : FrozenA noHp H H2) : FrOk K ⟨H2, none⟩ (pkE ρ) σ H2 := by
 have hs := fro.hs
 refine ⟨fun _ _ z => (nomatch z), ⟨fun _ _ e _ => e, fun _ _ z => (nomatch z)⟩, by unfold pkE; rw [List.length_map]; exact f.len, fun i s e => ?_, fun i j a s t e _ m _ _ _ => ?_⟩
 ·unfold pkE at e
  rw [List.getElem?_map] at e
  obtain ⟨s0, e0, rfl⟩ := Option.map_eq_some_iff.mp e
  have h := f.at_ i s0 e0
  cases s0 with
  | no => trivial
  | va T => obtain ⟨y, e1, v⟩ := h; exact ⟨y, e1, v.hs hs⟩
  | own Ts =>
   obtain ⟨a, xs, e1, e2, e3, z, p⟩ := h
   obtain ⟨ob, e4⟩ := fro.fz (b := a) rfl e2 rfl
   exact ⟨_, e1, VA.seq (t := false) ⟨ob, e4⟩ z (p.hs hs)⟩
  | dct kts =>
   obtain ⟨a, kvs, e1, e2, e3, n, z, p⟩ := h
   obtain ⟨ob, e4⟩ := fro.fz (b := a) rfl e2 rfl
   exact ⟨_, e1, VA.dct ⟨ob, e4⟩ n z (p.hs hs)⟩
  | dk => trivial
 ·unfold pkE at e
  rw [List.getElem?_map] at e
  obtain ⟨s0, e0, rfl⟩ := Option.map_eq_some_iff.mp e
  cases s0 <;> cases m
theorem pk_same {K : PySem.W.Frag} {ρ ρ' : PEnv} {σ : St} {H2 H3 : Hp} {H0 : Hp} (s : Stp K ⟨H0, none⟩ σ (pkE ρ) H2 ρ' H3) : Same H2 H3 := fun b o e => s.st b o e (fun _ _ z => (nomatch z)) fun i t e1 m => by
 unfold pkE at e1
 rw [List.getElem?_map] at e1
 obtain ⟨s0, e0, rfl⟩ := Option.map_eq_some_iff.mp e1
 cases s0 <;> cases m
section
variable {X : Cx} {F : Fm} {e : Expr}
def uPeekT (u : UTt) : UTt := fun ρ Q => u (pkE ρ) fun b _ => Q b ρ
theorem ub_peek {u : UTt} (h : ∀ F, UB X F e u) : UB X F e (uPeekT u) := ⟨fun pins s σ H QQ I ⟨ρ, Q, f, hu, k⟩ => by
 obtain ⟨H2, fro, ok2⟩ := frozen_is I.hok
 have f2 := fr_pk f fro
 refine thn ((h ⟨H2, none⟩).pt pins s σ H2 (fun b H3 => ∃ ρ', Stp X.K ⟨H2, none⟩ σ (pkE ρ) H2 ρ' H3 /\ Q b ρ) (I.frozen fro ok2) ⟨_, _, f2, hu, fun b H' ρ' st q => ⟨ρ', st, q⟩⟩) fun b s' ⟨H3, I3, q⟩ => ?_
 obtain ⟨ρ', st, q⟩ := q
 obtain ⟨H4, th⟩ := thaw_is H H3
 exact ⟨H4, I.thaw I3 th, k _ _ _ (Stp.same f (Thaw.same fro (pk_same st) th)) q⟩⟩
end
end L2
namespace L2
open PySem PySem.Spec PyProof.Rows WordM
mutual
def eqT : Tv -> Tv -> Bool
 | .leaf v, .leaf w => eqV v w
 | .seq s xs, .seq t ys => s == t && eqTs xs ys
 | _, _ => false
def eqTs : List Tv -> List Tv -> Bool
 | [], [] => true
 | x :: xs, y :: ys => eqT x y && eqTs xs ys
 | _, _ => false
end
def EqD : Nat -> Tv -> Prop
 | 0, _ => False
 | _ + 1, .leaf _ => True
 | n + 1, .seq _ xs => ∀ U ∈ xs, EqD n U
 | _ + 1, .dct _ => False
theorem eqTs_len : ∀ {xs ys : List Tv}, xs.length ≠ ys.length -> eqTs xs ys = false
 | [], [], h => absurd rfl h
 | [], _ :: _, _ => by simp [eqTs]
 | _ :: _, [], _ => by simp [eqTs]
 | x :: xs, y :: ys, h => by
  have := eqTs_len (xs := xs) (ys := ys) (fun e => h (by simp [e]))
  simp [eqTs, this]
theorem eqTs_range : ∀ {xs ys : List Tv}, xs.length = ys.length -> (List.range xs.length).all (fun i => eqT (xs.getD i nT) (ys.getD i nT)) = eqTs xs ys
 | [], [], _ => by simp [eqTs]
 | [], _ :: _, h => by simp at h
 | _ :: _, [], h => by simp at h
 | x :: xs, y :: ys, h => by
  have ih := eqTs_range (xs := xs) (ys := ys) (by simpa using h)
  rw [List.length_cons, List.range_succ_eq_map, List.all_cons, List.all_map]
  show (eqT x y && (List.range xs.length).all fun i => eqT (xs.getD i nT) (ys.getD i nT)) = eqTs (x :: xs) (y :: ys)
  rw [ih]
  simp [eqTs]
theorem EqD.vp {K : PySem.W.Frag} {H : Hp} : ∀ {n d : Nat} {x : V} {T : Tv}, EqD n T -> VP K H d x T -> VP K H n x T
 | 0, _, _, _, h, _ => False.elim h
 | _ + 1, 0, _, _, _, h => False.elim h
 | n + 1, d + 1, x, T, h, v => by
  rcases v with v | ⟨t, a, xs, Ts, e1, e2, rfl, z, p⟩ | ⟨a, kvs, kts, e1, e2, rfl, _⟩
  ·exact .inl v
  ·have g : ∀ U ∈ Ts, EqD n U := h
   refine .inr (.inl ⟨t, a, xs, Ts, e1, e2, rfl, z, ?_⟩)
   clear e2 z h
   induction p with
   | nil => exact .nil
   | cons r _ ih => exact .cons ((g _ (.head _)).vp r) (ih fun U hU => g U (.tail _ hU))
  ·exact False.elim h
section
variable {X : Cx} {pins : List (Addr × Obj)} {σ : St} {H : Hp} {s : Shared}
theorem eqV_refl {v : V} (h : flatV v = true) : eqV v v = true := by
 cases v <;> first | exact absurd h Bool.false_ne_true | simp [eqV]
theorem PSeq.isList {a : Addr} {xs : List V} (I : Inv X pins σ H s) (h : PSeq X.K H false a xs) : ∃ its : List Value, Vals xs its /\ s.heap.IsList a its.toArray := by
 obtain ⟨its, r, p, _⟩ := I.list (seq_of h)
 exact ⟨its, r, p.isList⟩
theorem PSeq.isTup {a : Addr} {xs : List V} (I : Inv X pins σ H s) (h : PSeq X.K H true a xs) : ∃ its : List Value, Vals xs its /\ s.heap.IsTuple a its.toArray := by
 obtain ⟨its, r, p, _⟩ := I.tuple h
 exact ⟨its, r, p⟩
theorem eq_self (I : Inv X pins σ H s) : ∀ {n : Nat} {x : V} {T U : Tv}, VP X.K H n x T -> VP X.K H n x U -> EqD n T -> EqD n U -> eqT T U = true
 | 0, _, _, _, h, _, _, _ => False.elim h
 | n + 1, x, T, U, h, h', d, d' => by
  rcases h with ⟨f, rfl⟩ | ⟨t, a, xs, Ts, rfl, e2, rfl, z, p⟩ | ⟨a, kvs, kts, rfl, e2, rfl, _⟩
  ·rcases h' with ⟨_, rfl⟩ | ⟨t', a', xs', Ts', rfl, _⟩ | ⟨a', kvs', kts', rfl, _⟩
   ·simp [eqT, eqV_refl f]
   ·cases f
   ·cases f
  ·rcases h' with ⟨f, rfl⟩ | ⟨t', a', xs', Ts', e1', e2', rfl, z', p'⟩ | ⟨a', kvs', kts', e1', e2', rfl, _⟩
   ·cases f
   ·cases e1'
    have tt : t = t' := by
     cases t <;> cases t' <;> first | rfl | skip
     ·obtain ⟨_, _, l1⟩ := PSeq.isList I e2
      obtain ⟨_, _, l2⟩ := PSeq.isTup I e2'
      exact absurd rfl (SeqAt.ne_of_list_tuple l1 l2)
     ·obtain ⟨_, _, l1⟩ := PSeq.isList I e2'
      obtain ⟨_, _, l2⟩ := PSeq.isTup I e2
      exact absurd rfl (SeqAt.ne_of_list_tuple l1 l2)
    subst tt
    have ex : xs = xs' := by
     cases t with
     | false => exact I.list_inj (seq_of e2) (seq_of e2')
     | true => exact I.tuple_inj e2 e2'
    subst ex
    have d : ∀ U ∈ Ts, EqD n U := d
    have d' : ∀ U ∈ Ts', EqD n U := d'
    have key : ∀ {xs : List V} {Ts Ts' : List Tv}, Paired (VP X.K H n) xs Ts -> Paired (VP X.K H n) xs Ts' -> (∀ U ∈ Ts, EqD n U) -> (∀ U ∈ Ts', EqD n U) -> eqTs Ts Ts' = true := by
     intro xs Ts Ts' p
     induction p generalizing Ts' with
     | nil => intro p' _ _; cases p'; simp [eqTs]
     | cons r _ ih =>
      intro p' d d'
      cases p' with
      | cons r' t' => simp [eqTs, eq_self I r r' (d _ (.head _)) (d' _ (.head _)), ih t' (fun U hU => d U (.tail _ hU)) (fun U hU => d' U (.tail _ hU))]
    simp [eqT, key p p' d d']
   ·exact False.elim d'
  ·exact False.elim d
theorem flat_cases {x : V} (h : flatV x = true) : x = .non \/ (∃ b, x = .bl b) \/ (∃ i, x = .int i) \/ ∃ z, x = .str z := by
 cases x with
 | non => exact .inl rfl
 | bl b => exact .inr (.inl ⟨b, rfl⟩)
 | int i => exact .inr (.inr (.inl ⟨i, rfl⟩))
 | str z => exact .inr (.inr (.inr ⟨z, rfl⟩))
 | _ => exact absurd (show false = true from h) Bool.false_ne_true
open SeqAt in
theorem eq_leaf_seq (I : Inv X pins σ H s) {A : Around} (hu : A.units < cLine) {x : V} {v : Value} {t : Bool} {a : Addr} {xs : List V} (f : flatV x = true) (r : RelV x v) (h : PSeq X.K H t a xs) :
  EqAt A s v (.ref a) false /\ EqAt A s (.ref a) v false /\ RcAt A s v (.ref a) false /\ RcAt A s (.ref a) v false /\ RcNeAt A s v (.ref a) true /\ RcNeAt A s (.ref a) v true := by
 cases t with
 | false =>
  obtain ⟨_, _, l⟩ := PSeq.isList I h
  rcases flat_cases f with rfl | ⟨b, rfl⟩ | ⟨b, rfl⟩ | ⟨b, rfl⟩
  ·cases r; exact ⟨.none_list l hu, .list_none l hu, .none_list l hu, .list_none l hu, .none_list l hu, .list_none l hu⟩
  ·cases r; exact ⟨.bool_list b l hu, .list_bool b l hu, .bool_list b l hu, .list_bool b l hu, .bool_list b l hu, .list_bool b l hu⟩
  ·obtain ⟨t, rfl⟩ := r; exact ⟨.int_list b t l hu, .list_int b t l hu, .int_list b t l hu, .list_int b t l hu, .int_list b t l hu, .list_int b t l hu⟩
  ·obtain ⟨t, rfl⟩ := r; exact ⟨.str_list b t l hu, .list_str b t l hu, .str_list b t l hu, .list_str b t l hu, .str_list b t l hu, .list_str b t l hu⟩
 | true =>
  obtain ⟨_, _, l⟩ := PSeq.isTup I h
  rcases flat_cases f with rfl | ⟨b, rfl⟩ | ⟨b, rfl⟩ | ⟨b, rfl⟩
  ·cases r; exact ⟨.none_tuple l hu, .tuple_none l hu, .none_tuple l hu, .tuple_none l hu, .none_tuple l hu, .tuple_none l hu⟩
  ·cases r; exact ⟨.bool_tuple b l hu, .tuple_bool b l hu, .bool_tuple b l hu, .tuple_bool b l hu, .bool_tuple b l hu, .tuple_bool b l hu⟩
  ·obtain ⟨t, rfl⟩ := r; exact ⟨.int_tuple b t l hu, .tuple_int b t l hu, .int_tuple b t l hu, .tuple_int b t l hu, .int_tuple b t l hu, .tuple_int b t l hu⟩
  ·obtain ⟨t, rfl⟩ := r; exact ⟨.str_tuple b t l hu, .tuple_str b t l hu, .str_tuple b t l hu, .tuple_str b t l hu, .str_tuple b t l hu, .tuple_str b t l hu⟩
open SeqAt in
theorem rc_leaf {A : Around} {x y : V} {v u : Value} (fx : flatV x = true) (fy : flatV y = true) (rx : RelV x v) (ry : RelV y u) : RcAt A s v u (eqV x y) /\ RcNeAt A s v u (!eqV x y) := by
 rcases flat_cases fx with rfl | ⟨a, rfl⟩ | ⟨a, rfl⟩ | ⟨a, rfl⟩ <;> rcases flat_cases fy with rfl | ⟨b, rfl⟩ | ⟨b, rfl⟩ | ⟨b, rfl⟩
 ·cases rx; cases ry; exact ⟨.none_none, .none_none⟩
 ·cases rx; cases ry; exact ⟨.none_bool b, .none_bool b⟩
 ·cases rx; obtain ⟨t, rfl⟩ := ry; exact ⟨.none_int b t, .none_int b t⟩
 ·cases rx; obtain ⟨t, rfl⟩ := ry; exact ⟨.none_str b t, .none_str b t⟩
 ·cases rx; cases ry; exact ⟨.bool_none a, .bool_none a⟩
 ·cases rx; cases ry; exact ⟨.bool_bool a b, .bool_bool a b⟩
 ·cases rx; obtain ⟨t, rfl⟩ := ry; exact ⟨.bool_int a b t, .bool_int a b t⟩
 ·cases rx; obtain ⟨t, rfl⟩ := ry; exact ⟨.bool_str a b t, .bool_str a b t⟩
 ·obtain ⟨t', rfl⟩ := rx; cases ry; exact ⟨.int_none a t', .int_none a t'⟩
 ·obtain ⟨t', rfl⟩ := rx; cases ry; exact ⟨.int_bool a t' b, .int_bool a t' b⟩
 ·obtain ⟨t', rfl⟩ := rx; obtain ⟨t, rfl⟩ := ry; exact ⟨.int_int a t' b t, .int_int a t' b t⟩
 ·obtain ⟨t', rfl⟩ := rx; obtain ⟨t, rfl⟩ := ry; exact ⟨.int_str a t' b t, .int_str a t' b t⟩
 ·obtain ⟨t', rfl⟩ := rx; cases ry; exact ⟨.str_none a t', .str_none a t'⟩
 ·obtain ⟨t', rfl⟩ := rx; cases ry; exact ⟨.str_bool a t' b, .str_bool a t' b⟩
 ·obtain ⟨t', rfl⟩ := rx; obtain ⟨t, rfl⟩ := ry; exact ⟨.str_int a t' b t, .str_int a t' b t⟩
 ·obtain ⟨t', rfl⟩ := rx; obtain ⟨t, rfl⟩ := ry; exact ⟨.str_str a t' b t, .str_str a t' b t⟩
theorem vals_nth {xs : List V} {us : List Value} (r : Vals xs us) {j : Nat} (h : j < us.toArray.size) : ∃ x, xs[j]? = some x /\ RelV x us.toArray[j] := by
 have l := r.length
 have k : j < xs.length := by rw [l]; simpa using h
 obtain ⟨u, hu, ru⟩ := r.get (i := j) (x := xs[j]) (List.getElem?_eq_getElem k)
 refine ⟨_, List.getElem?_eq_getElem k, ?_⟩
 have e1 : us.toArray[j] = u := by
  obtain ⟨_, e⟩ := List.getElem?_eq_some_iff.mp hu
  simpa using e
 rw [e1]; exact ru
open SeqAt in
theorem rc_seq (I : Inv X pins σ H s) {A : Around} (hu : A.units < cLine) {t : Bool} {a b : Addr} {xs ys : List V} {Ts Us : List Tv} (ha : PSeq X.K H t a xs) (hb : PSeq X.K H t b ys) (lx : xs.length = Ts.length) (ly : ys.length = Us.length)
  (it : ∀ (j : Nat) (x y : V) (T U : Tv) (v u : Value), xs[j]? = some x -> ys[j]? = some y -> Ts[j]? = some T -> Us[j]? = some U -> RelV x v -> RelV y u -> EqAt A.in1 s v u (eqT T U)) : RcAt A s (.ref a) (.ref b) (eqTs Ts Us) /\ RcNeAt A s (.ref a) (.ref b) (!eqTs Ts Us) := by
 have item : ∀ {vs us : List Value}, Vals xs vs -> Vals ys us -> ∀ j (h1 : j < vs.toArray.size) (h2 : j < us.toArray.size), EqAt A.in1 s vs.toArray[j] us.toArray[j] (eqT (Ts.getD j nT) (Us.getD j nT)) := fun {vs us} r1 r2 j h1 h2 => by
  obtain ⟨x, ex, rx⟩ := vals_nth r1 h1
  obtain ⟨y, ey, ry⟩ := vals_nth r2 h2
  have k1 := (List.getElem?_eq_some_iff.mp ex).1
  have k2 := (List.getElem?_eq_some_iff.mp ey).1
  refine it j x y _ _ _ _ ex ey ?_ ?_ rx ry
  ·rw [List.getD_eq_getElem?_getD, List.getElem?_eq_getElem (by omega)]; rfl
  ·rw [List.getD_eq_getElem?_getD, List.getElem?_eq_getElem (by omega)]; rfl
 cases t with
 | false =>
  obtain ⟨vs, r1, l1⟩ := PSeq.isList I ha
  obtain ⟨us, r2, l2⟩ := PSeq.isList I hb
  have n1 := r1.length
  have n2 := r2.length
  by_cases hl : Ts.length = Us.length
  ·have e1 := RcAt.lists l1 l2 (by simp only [List.size_toArray]; omega) hu (item r1 r2)
   have e2 := RcNeAt.lists l1 l2 (by simp only [List.size_toArray]; omega) hu (item r1 r2)
   rw [show vs.toArray.size = Ts.length by rw [List.size_toArray]; omega, eqTs_range hl] at e1 e2
   exact ⟨e1, e2⟩
  ·rw [eqTs_len hl]
   have hne : (vs.toArray.size != us.toArray.size) = true := by
    rw [bne_iff_ne, List.size_toArray, List.size_toArray]; omega
   exact ⟨.lists_lengths l1 l2 hne hu, .lists_lengths l1 l2 hne hu⟩
 | true =>
  obtain ⟨vs, r1, l1⟩ := PSeq.isTup I ha
  obtain ⟨us, r2, l2⟩ := PSeq.isTup I hb
  have n1 := r1.length
  have n2 := r2.length
  have e1 := RcAt.tuples l1 l2 hu (item r1 r2)
  have e2 := RcNeAt.tuples l1 l2 hu (item r1 r2)
  have ee : ((List.range (min vs.toArray.size us.toArray.size)).all (fun i => eqT (Ts.getD i nT) (Us.getD i nT)) && vs.toArray.size == us.toArray.size) = eqTs Ts Us := by
   rw [show vs.toArray.size = Ts.length by rw [List.size_toArray]; omega, show us.toArray.size = Us.length by rw [List.size_toArray]; omega]
   by_cases hl : Ts.length = Us.length
   ·rw [<- hl, Nat.min_self, eqTs_range hl]; simp
   ·rw [eqTs_len hl, beq_eq_false_iff_ne.mpr hl, Bool.and_false]
  rw [ee] at e1 e2
  exact ⟨e1, e2⟩
open SeqAt in
theorem eq_tree (I : Inv X pins σ H s) : ∀ (n : Nat) {A : Around} {x y : V} {T U : Tv} {v u : Value}, A.units + n < cLine -> EqD n T -> EqD n U -> VP X.K H n x T -> VP X.K H n y U -> RelV x v -> RelV y u -> EqAt A s v u (eqT T U)
 | 0, _, _, _, _, _, _, _, _, h, _, _, _, _, _ => False.elim h
 | n + 1, A, x, y, T, U, v, u, hu, d, d', h, h', rx, ry => by
  have hu0 : A.units < cLine := by omega
  have hh := h
  have hh' := h'
  rcases h with ⟨f, rfl⟩ | ⟨t, a, xs, Ts, rfl, e2, rfl, z, p⟩ | ⟨a, kvs, kts, rfl, e2, rfl, _⟩
  ·rcases h' with ⟨f', rfl⟩ | ⟨t', a', xs', Ts', rfl, e2', rfl, z', p'⟩ | ⟨a', kvs', kts', rfl, _, rfl, _⟩
   ·have := eqAt_V (A := A) (s := s) rx ry f f'
    simpa [eqT] using this
   ·cases ry
    have := (eq_leaf_seq I hu0 f rx e2').1
    simpa [eqT] using this
   ·exact False.elim d'
  ·rcases h' with ⟨f', rfl⟩ | ⟨t', b, ys, Us, rfl, e2', rfl, z', p'⟩ | ⟨a', kvs', kts', rfl, _, rfl, _⟩
   ·cases rx
    have := (eq_leaf_seq I hu0 f' ry e2).2.1
    simpa [eqT] using this
   ·cases rx
    cases ry
    by_cases ab : a = b
    ·subst ab
     have := eq_self I hh hh' d d'
     rw [this]
     exact EqAt.same _
    ·by_cases tt : t = t'
     ·subst tt
      have d : ∀ U ∈ Ts, EqD n U := d
      have d' : ∀ U ∈ Us, EqD n U := d'
      have := (rc_seq I hu0 e2 e2' (Paired.length p) (Paired.length p') fun j x y T U v u ex ey eT eU rx ry => by
       obtain ⟨T', eT', vx⟩ := paired_get p ex
       obtain ⟨U', eU', vy⟩ := paired_get p' ey
       rw [eT] at eT'; cases eT'
       rw [eU] at eU'; cases eU'
       exact eq_tree I n (by show A.units + 1 + n < _; omega) (d _ (List.mem_of_getElem? eT)) (d' _ (List.mem_of_getElem? eU)) vx vy rx ry).1
      have r := EqAt.of_refs ab this
      simpa [eqT] using r
     ·have e : eqT (.seq t Ts) (.seq t' Us) = false := by simp [eqT, tt]
      rw [e]
      refine EqAt.of_refs ab ?_
      cases t <;> cases t' <;> first | exact absurd rfl tt | skip
      ·obtain ⟨_, _, l1⟩ := PSeq.isList I e2
       obtain ⟨_, _, l2⟩ := PSeq.isTup I e2'
       exact .list_tuple l1 l2 hu0
      ·obtain ⟨_, _, l1⟩ := PSeq.isTup I e2
       obtain ⟨_, _, l2⟩ := PSeq.isList I e2'
       exact .tuple_list l1 l2 hu0
   ·exact False.elim d'
  ·exact False.elim d
end
def EqOk (Ts Us : List Tv) : Prop := Ts = [] \/ Us = [] \/ ((∀ T ∈ Ts, EqD 40 T) /\ ∀ U ∈ Us, EqD 40 U)
def pEqB (neg : Bool) : P2
 | .leaf v, .leaf w, Q => Q (bT (neg != eqV v w))
 | .leaf _, .seq _ _, Q => Q (bT neg)
 | .seq _ _, .leaf _, Q => Q (bT neg)
 | .seq s xs, .seq t ys, Q => EqOk xs ys /\ Q (bT (neg != (s == t && eqTs xs ys)))
 | _, _, _ => False
section
variable {X : Cx}
open SeqAt in
theorem eq_pure {pins : List (Addr × Obj)} {σ : St} {H : Hp} {s : Shared} (I : Inv X pins σ H s) (hu : X.A.units + 64 < cLine) {neg : Bool} {x y : V} {T U : Tv} {v u : Value} {Q : Tv -> Prop} (vx : VA X.K H x T) (vy : VA X.K H y U) (rx : RelV x v) (ry : RelV y u) (h : pEqB neg T U Q) :
  ∃ b, Q (bT (neg != b)) /\ RcAt X.A s v u b /\ RcNeAt X.A s v u (!b) := by
 have hu0 : X.A.units < cLine := by omega
 unfold pEqB at h
 split at h
 ·obtain ⟨rfl, f⟩ := vx.leafI
  obtain ⟨rfl, f'⟩ := vy.leafI
  exact ⟨_, h, rc_leaf f f' rx ry⟩
 ·obtain ⟨rfl, f⟩ := vx.leafI
  obtain ⟨a, xs, rfl, hs, _⟩ := vy.seqI
  cases ry
  have r := eq_leaf_seq I hu0 f rx hs
  exact ⟨false, by simpa using h, r.2.2.1, r.2.2.2.2.1⟩
 ·obtain ⟨rfl, f⟩ := vy.leafI
  obtain ⟨a, xs, rfl, hs, _⟩ := vx.seqI
  cases rx
  have r := eq_leaf_seq I hu0 f ry hs
  exact ⟨false, by simpa using h, r.2.2.2.1, r.2.2.2.2.2⟩
 ·rename_i t Ts t' Us
  obtain ⟨ok, q⟩ := h
  obtain ⟨a, xs, rfl, hs, z, p⟩ := vx.seqI
  obtain ⟨b, ys, rfl, hs', z', p'⟩ := vy.seqI
  cases rx
  cases ry
  refine ⟨_, q, ?_⟩
  by_cases tt : t = t'
  ·subst tt
   have e : (t == t && eqTs Ts Us) = eqTs Ts Us := by simp
   rw [e]
   refine rc_seq I hu0 hs hs' (Paired.length p) (Paired.length p') fun j x y T U v u ex ey eT eU rx ry => ?_
   rcases ok with rfl | rfl | ⟨o1, o2⟩
   ·cases eT
   ·cases eU
   ·obtain ⟨T', eT', d, vx⟩ := paired_get p ex
    obtain ⟨U', eU', d', vy⟩ := paired_get p' ey
    rw [eT] at eT'; cases eT'
    rw [eU] at eU'; cases eU'
    have k1 := o1 _ (List.mem_of_getElem? eT)
    have k2 := o2 _ (List.mem_of_getElem? eU)
    exact eq_tree I 40 (by show X.A.units + 1 + 40 < _; omega) k1 k2 (k1.vp vx) (k2.vp vy) rx ry
  ·have e : (t == t' && eqTs Ts Us) = false := by simp [tt]
   rw [e]
   cases t <;> cases t' <;> first | exact absurd rfl tt | skip
   ·obtain ⟨_, _, l1⟩ := PSeq.isList I hs
    obtain ⟨_, _, l2⟩ := PSeq.isTup I hs'
    exact ⟨.list_tuple l1 l2 hu0, .list_tuple l1 l2 hu0⟩
   ·obtain ⟨_, _, l1⟩ := PSeq.isTup I hs
    obtain ⟨_, _, l2⟩ := PSeq.isList I hs'
    exact ⟨.tuple_list l1 l2 hu0, .tuple_list l1 l2 hu0⟩
 ·exact False.elim h
def rEqP (K : PySem.W.Frag) (neg : Bool) : R2 := fun x y H Q => ∃ T U, VA K H x T /\ VA K H y U /\ pEqB neg T U fun W => ∃ b, W = bT b /\ Q (.bl b) H
theorem op_eqP (hu : X.A.units + 64 < cLine) : OpR X (compareOp .Eq) (rEqP X.K false) := by
 rintro pins s σ H x y v u Q I rx ry ⟨T, U, vx, vy, h⟩
 obtain ⟨b, ⟨b', e, q⟩, r, _⟩ := eq_pure I hu vx vy rx ry h
 cases e
 exact r X.prog X.w X.xe _ ⟨.bl b, H, I, rfl, by simpa using q⟩
theorem op_neP (hu : X.A.units + 64 < cLine) : OpR X (compareOp .NotEq) (rEqP X.K true) := by
 rintro pins s σ H x y v u Q I rx ry ⟨T, U, vx, vy, h⟩
 obtain ⟨b, ⟨b', e, q⟩, _, r⟩ := eq_pure I hu vx vy rx ry h
 cases e
 exact r X.prog X.w X.xe _ ⟨.bl (!b), H, I, rfl, by simpa using q⟩
theorem pEqB_mono {neg : Bool} {T U : Tv} {Q Q' : Tv -> Prop} (h : pEqB neg T U Q) (i : ∀ b, Q (bT b) -> Q' (bT b)) : pEqB neg T U Q' := by
 unfold pEqB at h ⊢
 split at h
 ·exact i _ h
 ·exact i _ h
 ·exact i _ h
 ·exact ⟨h.1, i _ h.2⟩
 ·exact False.elim h
abbrev pEq : P2 := pEqB false
abbrev pNe : P2 := pEqB true
theorem pu_eq (hu : X.A.units + 64 < cLine) : PuCmp X (compareOp .Eq) pEq := ⟨_, op_eqP hu, fun x y T U H Q QQ vx vy h k => ⟨T, U, vx, vy, pEqB_mono h fun b q => ⟨b, rfl, k _ _ _ (Same.refl _) (.flat rfl) q⟩⟩⟩
theorem pu_ne (hu : X.A.units + 64 < cLine) : PuCmp X (compareOp .NotEq) pNe := ⟨_, op_neP hu, fun x y T U H Q QQ vx vy h k => ⟨T, U, vx, vy, pEqB_mono h fun b q => ⟨b, rfl, k _ _ _ (Same.refl _) (.flat rfl) q⟩⟩⟩
end
end L2
namespace L2
open PySem PySem.Spec PyProof.Rows WordM
section
variable {X : Cx} {F : Fm}
theorem vas1 {K : PySem.W.Frag} {H : Hp} {xs : List V} {T : Tv} (h : VAs K H xs [T]) : ∃ x, xs = [x] /\ VA K H x T := by
 cases h with
 | cons r t => cases t; exact ⟨_, rfl, r⟩
theorem vas2 {K : PySem.W.Frag} {H : Hp} {xs : List V} {T U : Tv} (h : VAs K H xs [T, U]) : ∃ x y, xs = [x, y] /\ VA K H x T /\ VA K H y U := by
 cases h with
 | cons r t =>
  obtain ⟨y, rfl, v⟩ := vas1 t
  exact ⟨_, y, rfl, r, v⟩
def rCatL (K : PySem.W.Frag) : R2 := fun x y H Q => ∃ l b xs zs, x = .ref l /\ y = .ref b /\ Rd H l (.lst xs) /\ Rd H b (.lst zs) /\ xs.length + zs.length <= sizeLine /\ ∀ p, H p = none -> Q (.ref p) (upd H p (.lst (xs ++ zs)))
theorem op_catL : OpR X (binaryOp .Add) (rCatL X.K) := by
 rintro pins s σ H _ _ v u Q I rx ry ⟨l, b, xs, zs, rfl, rfl, hH, hB, hz, q⟩
 cases rx
 cases ry
 obtain ⟨z, its, n, r, e⟩ := hH.ok I.hok
 obtain ⟨z2, its2, n2, r2, e2⟩ := hB.ok I.hok
 have l1 := r.length
 have l2 := r2.length
 refine PySem.P.add_list e e2 ?_ (by rw [List.size_toArray, List.size_toArray]; omega)
 rw [show its.toArray ++ its2.toArray = (its ++ its2).toArray by simp]
 exact ⟨.ref _, _, I.lnew (t' := s.toks) (r.append r2) (by rw [List.length_append]; omega), rfl, q _ I.fresh⟩
def pAdd : P2
 | .leaf (.int i), .leaf (.int j), Q => Q (iT (i + j))
 | .leaf (.str x), .leaf (.str y), Q => x.length + y.length <= 100000 /\ Q (sT (x ++ y))
 | .seq true xs, .seq true ys, Q => xs.length + ys.length <= 100000 /\ Q (.seq true (xs ++ ys))
 | .seq false xs, .seq false ys, Q => xs.length + ys.length <= 100000 /\ Q (.seq false (xs ++ ys))
 | _, _, _ => False
theorem pu_add : PuOp X (binaryOp .Add) pAdd := ⟨_, op_add.or (op_add_str.or (op_catG.or op_catL)), fun x y T U H Q QQ vx vy h k => by
 unfold pAdd at h
 split at h
 ·obtain ⟨rfl, _⟩ := vx.leafI
  obtain ⟨rfl, _⟩ := vy.leafI
  exact .inl ⟨_, _, rfl, rfl, k _ _ _ (.flat rfl) h⟩
 ·obtain ⟨rfl, _⟩ := vx.leafI
  obtain ⟨rfl, _⟩ := vy.leafI
  exact .inr (.inl ⟨_, _, rfl, rfl, line_of h.1, k _ _ _ (.flat rfl) h.2⟩)
 ·obtain ⟨a, xs, rfl, hs, z, p⟩ := vx.seqI
  obtain ⟨b, ys, rfl, hs', z', p'⟩ := vy.seqI
  have l1 : xs.length = _ := Paired.length p
  have l2 : ys.length = _ := Paired.length p'
  refine .inr (.inr (.inl ⟨a, b, xs, ys, rfl, rfl, hs, hs', line_of (by omega), fun r H' hr sm => k _ _ _ ⟨sm, .inl (VA.seq (t := true) hr (by rw [List.length_append]; exact h.1) (paired_app (p.hs sm.hs) (p'.hs sm.hs)))⟩ h.2⟩))
 ·obtain ⟨a, xs, rfl, ⟨ob, hs⟩, z, p⟩ := vx.seqI
  obtain ⟨b, ys, rfl, ⟨ob', hs'⟩, z', p'⟩ := vy.seqI
  have l1 : xs.length = _ := Paired.length p
  have l2 : ys.length = _ := Paired.length p'
  refine .inr (.inr (.inr ⟨a, b, xs, ys, rfl, rfl, .inr ⟨ob, hs⟩, .inr ⟨ob', hs'⟩, line_of (by omega), fun r n => k _ _ _ (Raw.lst n (by rw [List.length_append]; exact h.1) (paired_app p p')) h.2⟩))
 ·exact False.elim h⟩
def uCat (ua ub : UT) : UTl := fun ρ Q => ua ρ fun a ρ1 => ub ρ1 fun b ρ2 => ∃ As Bs, a = .seq false As /\ b = .seq false Bs /\ As.length + Bs.length <= 100000 /\ Q (As ++ Bs) ρ2
theorem ul_cat {a b : Expr} {ua ub : UT} {pos : Pos} (ha : UE X F a ua) (hb : UE X F b ub) : UL X F (.BinOp a .Add b pos) (uCat ua ub) := ⟨PE.imp (pe_op op_catL ha.pe hb.pe) fun σ H QQ ⟨ρ, Q, f, h, k⟩ => by
 refine ⟨ρ, _, f, h, fun x T H1 ρ1 s1 v1 q1 => ⟨ρ1, _, s1.fr, q1, fun y U H2 ρ2 s2 v2 q2 => ?_⟩⟩
 obtain ⟨As, Bs, rfl, rfl, l, q⟩ := q2
 obtain ⟨a, xs, rfl, ⟨ob, hs⟩, z, p⟩ := (v1.hs (s2.hs s1.fr)).seqI
 obtain ⟨b, ys, rfl, ⟨ob', hs'⟩, z', p'⟩ := v2.seqI
 have l1 : xs.length = _ := Paired.length p
 have l2 : ys.length = _ := Paired.length p'
 refine ⟨a, b, xs, ys, rfl, rfl, .inr ⟨ob, hs⟩, .inr ⟨ob', hs'⟩, line_of (by omega), fun r n => ?_⟩
 exact k _ _ _ _ _ ((s1.trans s2).trans (Stp.same s2.fr (same_new n))) ((s1.trans s2).non n) upd_same (by rw [List.length_append]; exact l) (VAs.hs (hs_new n) (paired_app p p')) q⟩
def pI2 (C : Int -> Int -> Prop) (g : Int -> Int -> V) : P2
 | .leaf (.int i), .leaf (.int j), Q => C i j /\ Q (.leaf (g i j))
 | _, _, _ => False
theorem pu_i2 {f : Value -> Value -> Sem Value} {C : Int -> Int -> Prop} {g : Int -> Int -> V} (h : OpR X f (rI C g)) (fl : ∀ i j, flatV (g i j) = true) : PuCmp X f (pI2 C g) := ⟨_, h, fun x y T U H Q QQ vx vy h k => by
 unfold pI2 at h
 split at h
 ·obtain ⟨rfl, _⟩ := vx.leafI
  obtain ⟨rfl, _⟩ := vy.leafI
  exact ⟨_, _, rfl, rfl, h.1, k _ _ _ (Same.refl _) (.flat (fl _ _)) h.2⟩
 ·exact False.elim h⟩
def pI20 (g : Int -> Int -> V) : P2
 | .leaf (.int i), .leaf (.int j), Q => Q (.leaf (g i j))
 | _, _, _ => False
theorem pu_i20 {f : Value -> Value -> Sem Value} {g : Int -> Int -> V} (h : OpR X f (rI0 g)) (fl : ∀ i j, flatV (g i j) = true) : PuCmp X f (pI20 g) := ⟨_, h, fun x y T U H Q QQ vx vy h k => by
 unfold pI20 at h
 split at h
 ·obtain ⟨rfl, _⟩ := vx.leafI
  obtain ⟨rfl, _⟩ := vy.leafI
  exact ⟨_, _, rfl, rfl, k _ _ _ (Same.refl _) (.flat (fl _ _)) h⟩
 ·exact False.elim h⟩
abbrev pSub : P2 := pI20 fun i j => .int (i - j)
theorem pu_sub : PuOp X (binaryOp .Sub) pSub := (pu_i20 op_sub fun _ _ => rfl).op
def MulOk (i j : Int) : Prop := CMul i j \/ (BigOk i /\ BigOk j)
def pMul : P2
 | .leaf (.int i), .leaf (.int j), Q => MulOk i j /\ Q (iT (i * j))
 | .leaf (.str z), .leaf (.int n), Q => (z.length <= 1000 /\ n <= 1000 /\ -1000 <= n) /\ Q (sT (repS z n))
 | _, _, _ => False
theorem pu_mul : PuOp X (binaryOp .Mult) pMul := ⟨_, op_mul.or (op_mulB.or op_mulS), fun x y T U H Q QQ vx vy h k => by
 unfold pMul at h
 split at h
 ·obtain ⟨rfl, _⟩ := vx.leafI
  obtain ⟨rfl, _⟩ := vy.leafI
  rcases h.1 with c | c
  ·exact .inl ⟨_, _, rfl, rfl, c, k _ _ _ (.flat rfl) h.2⟩
  ·exact .inr (.inl ⟨_, _, rfl, rfl, c, k _ _ _ (.flat rfl) h.2⟩)
 ·obtain ⟨rfl, _⟩ := vx.leafI
  obtain ⟨rfl, _⟩ := vy.leafI
  exact .inr (.inr ⟨_, _, rfl, rfl, h.1.1, h.1.2.1, h.1.2.2, k _ _ _ (.flat rfl) h.2⟩)
 ·exact False.elim h⟩
abbrev pFdiv : P2 := pI2 (fun _ j => 0 < j /\ BigOk j) fun i j => .int (i / j)
theorem pu_fdiv : PuOp X (binaryOp .FloorDiv) pFdiv := (pu_i2 op_fdivL fun _ _ => rfl).op
abbrev pMod : P2 := pI2 (fun _ j => 0 < j) fun i j => .int (i % j)
theorem pu_mod : PuOp X (binaryOp .Mod) pMod := (pu_i2 op_mod fun _ _ => rfl).op
abbrev pPow : P2 := pI2 CPow fun i j => .int (i ^ j.toNat)
theorem pu_pow : PuOp X (binaryOp .Pow) pPow := (pu_i2 op_pow fun _ _ => rfl).op
def pLt : P2
 | .leaf (.int i), .leaf (.int j), Q => Q (bT (decide (i < j)))
 | .leaf (.str x), .leaf (.str y), Q => Q (bT (decide (x.cps.toList < y.cps.toList)))
 | _, _, _ => False
theorem pu_lt : PuCmp X (compareOp .Lt) pLt := ⟨_, op_lt.or op_lt_str, fun x y T U H Q QQ vx vy h k => by
 unfold pLt at h
 split at h
 ·obtain ⟨rfl, _⟩ := vx.leafI
  obtain ⟨rfl, _⟩ := vy.leafI
  exact .inl ⟨_, _, rfl, rfl, k _ _ _ (Same.refl _) (.flat rfl) h⟩
 ·obtain ⟨rfl, _⟩ := vx.leafI
  obtain ⟨rfl, _⟩ := vy.leafI
  exact .inr ⟨_, _, rfl, rfl, k _ _ _ (Same.refl _) (.flat rfl) h⟩
 ·exact False.elim h⟩
abbrev pLe : P2 := pI20 fun i j => .bl (decide (i <= j))
theorem pu_le : PuCmp X (compareOp .LtE) pLe := pu_i20 op_le fun _ _ => rfl
abbrev pGt : P2 := pI20 fun i j => .bl (decide (j < i))
theorem pu_gt : PuCmp X (compareOp .Gt) pGt := pu_i20 op_gt fun _ _ => rfl
abbrev pGe : P2 := pI20 fun i j => .bl (decide (j <= i))
theorem pu_ge : PuCmp X (compareOp .GtE) pGe := pu_i20 op_ge fun _ _ => rfl
def isV (v : V) : Tv -> Bool
 | .leaf w => decide (w = v)
 | _ => false
theorem isV_of {K : PySem.W.Frag} {H : Hp} {x v : V} {T : Tv} (f : flatV v = true) (h : VA K H x T) : decide (x = v) = isV v T := by
 cases T with
 | leaf w => obtain ⟨rfl, _⟩ := h.leafI; rfl
 | seq t Ts =>
  obtain ⟨a, _, rfl, _⟩ := h.seqI
  exact decide_eq_false (fun z => by rw [<- z] at f; cases f)
 | dct kts =>
  obtain ⟨a, _, rfl, _⟩ := h.dctI
  exact decide_eq_false (fun z => by rw [<- z] at f; cases f)
def pIsB (neg : Bool) : P2
 | T, .leaf .non, Q => Q (bT (neg != isV .non T))
 | T, .leaf (.bl b), Q => Q (bT (neg != isV (.bl b) T))
 | _, _, _ => False
abbrev pIsNot : P2 := pIsB true
theorem pu_isnot : PuCmp X (compareOp .IsNot) pIsNot := ⟨_, op_notN.or op_isnotB, fun x y T U H Q QQ vx vy h k => by
 unfold pIsNot pIsB at h
 split at h
 ·obtain ⟨rfl, _⟩ := vy.leafI
  exact .inl ⟨rfl, k _ _ _ (Same.refl _) (.flat rfl) (by rw [isV_of rfl vx]; simpa using h)⟩
 ·obtain ⟨rfl, _⟩ := vy.leafI
  exact .inr ⟨_, rfl, k _ _ _ (Same.refl _) (.flat rfl) (by rw [isV_of rfl vx]; simpa using h)⟩
 ·exact False.elim h⟩
theorem vp_inj {pins : List (Addr × Obj)} {σ : St} {H : Hp} {s : Shared} (I : Inv X pins σ H s) : ∀ {n : Nat} {x : V} {T U : Tv}, EqD n T -> EqD n U -> VP X.K H n x T -> VP X.K H n x U -> T = U
 | 0, _, _, _, h, _, _, _ => False.elim h
 | n + 1, x, T, U, d, d', h, h' => by
  rcases h with ⟨f, rfl⟩ | ⟨t, a, xs, Ts, rfl, e2, rfl, z, p⟩ | ⟨a, kvs, kts, rfl, e2, rfl, _⟩
  ·rcases h' with ⟨_, rfl⟩ | ⟨t', a', xs', Ts', rfl, _⟩ | ⟨a', kvs', kts', rfl, _⟩
   ·rfl
   ·cases f
   ·cases f
  ·rcases h' with ⟨f, rfl⟩ | ⟨t', a', xs', Ts', e1', e2', rfl, z', p'⟩ | ⟨a', kvs', kts', e1', e2', rfl, _⟩
   ·cases f
   ·cases e1'
    have tt : t = t' := by
     cases t <;> cases t' <;> first | rfl | skip
     ·obtain ⟨_, _, l1⟩ := PSeq.isList I e2
      obtain ⟨_, _, l2⟩ := PSeq.isTup I e2'
      exact absurd rfl (SeqAt.ne_of_list_tuple l1 l2)
     ·obtain ⟨_, _, l1⟩ := PSeq.isList I e2'
      obtain ⟨_, _, l2⟩ := PSeq.isTup I e2
      exact absurd rfl (SeqAt.ne_of_list_tuple l1 l2)
    subst tt
    have ex : xs = xs' := by
     cases t with
     | false => exact I.list_inj (seq_of e2) (seq_of e2')
     | true => exact I.tuple_inj e2 e2'
    subst ex
    have g : ∀ U ∈ Ts, EqD n U := d
    have g' : ∀ U ∈ Ts', EqD n U := d'
    have key : ∀ {xs : List V} {Ts Ts' : List Tv}, Paired (VP X.K H n) xs Ts -> Paired (VP X.K H n) xs Ts' -> (∀ U ∈ Ts, EqD n U) -> (∀ U ∈ Ts', EqD n U) -> Ts = Ts' := by
     intro xs Ts Ts' p
     induction p generalizing Ts' with
     | nil => intro p' _ _; cases p'; rfl
     | cons r _ ih =>
      intro p' d d'
      cases p' with
      | cons r' t' => rw [vp_inj I (d _ (.head _)) (d' _ (.head _)) r r', ih t' (fun U hU => d U (.tail _ hU)) (fun U hU => d' U (.tail _ hU))]
    rw [key p p' g g']
   ·exact False.elim d'
  ·exact False.elim d
def InOk (T : Tv) (Us : List Tv) : Prop := EqD 40 T /\ ∀ U ∈ Us, EqD 40 U
open Classical in
theorem in_items {pins : List (Addr × Obj)} {σ : St} {H : Hp} {s : Shared} (I : Inv X pins σ H s) (hu : X.A.units + 64 < cLine) {x : V} {T : Tv} {v : Value} {ys : List V} {Us : List Tv} {its : List Value} (vx : VA X.K H x T) (rx : RelV x v) (p : VAs X.K H ys Us) (r : Vals ys its) (ok : InOk T Us) :
  ∃ e : Value -> Bool, (∀ y, y ∈ its.toArray -> SeqAt.EqAt X.A.in1 s y v (e y)) /\ its.toArray.any e = Us.any fun U => eqT U T := by
 obtain ⟨dx, vx⟩ := vx
 have hx := ok.1.vp vx
 refine ⟨fun w => decide (∃ y U, RelV y w /\ VP X.K H 40 y U /\ EqD 40 U /\ eqT U T = true), fun w hw => ?_, ?_⟩
 ·have hw : w ∈ its := by simpa using hw
  obtain ⟨j, hj, rfl⟩ := List.mem_iff_getElem.mp hw
  have hj' : j < ys.length := by rw [r.length]; exact hj
  obtain ⟨u, eu, ru⟩ := r.get (List.getElem?_eq_getElem hj')
  rw [List.getElem?_eq_getElem hj] at eu
  cases eu
  obtain ⟨U, eU, d, vU⟩ := paired_get p (List.getElem?_eq_getElem hj')
  have dU := ok.2 U (List.mem_of_getElem? eU)
  have e := eq_tree I 40 (A := X.A.in1) (by show X.A.units + 1 + 40 < _; omega) dU ok.1 (dU.vp vU) hx ru rx
  have ee : decide (∃ y U, RelV y its[j] /\ VP X.K H 40 y U /\ EqD 40 U /\ eqT U T = true) = eqT U T := by
   rw [Bool.eq_iff_iff, decide_eq_true_iff]
   constructor
   ·rintro ⟨y, U', ry, vy, dy, z⟩
    have := RelV.inj ry ru
    subst this
    rw [vp_inj I dU dy (dU.vp vU) vy]
    exact z
   ·intro z
    exact ⟨_, U, ru, dU.vp vU, dU, z⟩
  show SeqAt.EqAt X.A.in1 s its[j] v (decide (∃ y U, RelV y its[j] /\ VP X.K H 40 y U /\ EqD 40 U /\ eqT U T = true))
  rw [ee]
  exact e
 ·rw [Bool.eq_iff_iff, Array.any_eq_true', List.any_eq_true]
  constructor
  ·rintro ⟨w, hw, z⟩
   rw [decide_eq_true_iff] at z
   obtain ⟨y, U', ry, vy, dy, z⟩ := z
   have hw : w ∈ its := by simpa using hw
   obtain ⟨j, hj, rfl⟩ := List.mem_iff_getElem.mp hw
   have hj' : j < ys.length := by rw [r.length]; exact hj
   obtain ⟨u, eu, ru⟩ := r.get (List.getElem?_eq_getElem hj')
   rw [List.getElem?_eq_getElem hj] at eu
   cases eu
   obtain ⟨U, eU, d, vU⟩ := paired_get p (List.getElem?_eq_getElem hj')
   have dU := ok.2 U (List.mem_of_getElem? eU)
   have := RelV.inj ry ru
   subst this
   refine ⟨U, List.mem_of_getElem? eU, ?_⟩
   rw [vp_inj I dU dy (dU.vp vU) vy]
   exact z
  ·rintro ⟨U, hU, z⟩
   obtain ⟨j, hj, rfl⟩ := List.mem_iff_getElem.mp hU
   obtain ⟨y, ey, d, vy⟩ := paired_getR p (List.getElem?_eq_getElem hj)
   obtain ⟨u, eu, ru⟩ := r.get ey
   have dU := ok.2 _ hU
   exact ⟨u, by simpa using List.mem_of_getElem? eu, decide_eq_true ⟨y, _, ru, dU.vp vy, dU, z⟩⟩
def rInP (K : PySem.W.Frag) (neg : Bool) : R2 := fun x y H Q => ∃ T t Us, VA K H x T /\ VA K H y (.seq t Us) /\ InOk T Us /\ Q (.bl (neg != Us.any fun U => eqT U T)) H
theorem op_inP (hu : X.A.units + 64 < cLine) : OpR X (compareOp .In) (rInP X.K false) := by
 rintro pins s σ H x y v u Q I rx ry ⟨T, t, Us, vx, vy, ok, q⟩
 obtain ⟨a, ys, rfl, hs, z, p⟩ := vy.seqI
 cases ry
 cases t with
 | false =>
  obtain ⟨its, r, l⟩ := PSeq.isList I hs
  obtain ⟨e, h1, h2⟩ := in_items I hu vx rx p r ok
  exact SeqAt.in_listAt e l h1 ⟨.bl _, H, I, rfl, by rw [h2]; simpa using q⟩
 | true =>
  obtain ⟨its, r, l⟩ := PSeq.isTup I hs
  obtain ⟨e, h1, h2⟩ := in_items I hu vx rx p r ok
  exact SeqAt.in_tupleAt e l h1 ⟨.bl _, H, I, rfl, by rw [h2]; simpa using q⟩
def inS (i j : Str) : Bool := !(Builtin.Str.occurrences j i 0 j.length 1).isEmpty
def pInB (neg : Bool) : P2
 | T, .seq _ Us, Q => InOk T Us /\ Q (bT (neg != Us.any fun U => eqT U T))
 | .leaf (.str i), .leaf (.str j), Q => Q (bT (neg != inS i j))
 | .leaf (.str k), .dct kts, Q => Q (bT (neg != (lookD kts k).isSome))
 | _, _, _ => False
abbrev pIn : P2 := pInB false
theorem pu_in (hu : X.A.units + 64 < cLine) : PuCmp X (compareOp .In) pIn := ⟨_, (op_inP hu).or (op_in_str.or (op_in_dict (by omega))), fun x y T U H Q QQ vx vy h k => by
 unfold pIn pInB at h
 split at h
 ·exact .inl ⟨_, _, _, vx, vy, h.1, k _ _ _ (Same.refl _) (.flat rfl) h.2⟩
 ·obtain ⟨rfl, _⟩ := vx.leafI
  obtain ⟨rfl, _⟩ := vy.leafI
  exact .inr (.inl ⟨_, _, rfl, rfl, k _ _ _ (Same.refl _) (.flat rfl) (by simpa [inS] using h)⟩)
 ·rename_i kk kts
  obtain ⟨rfl, _⟩ := vx.leafI
  obtain ⟨a, kvs, rfl, ⟨ob, hd⟩, n, z, p⟩ := vy.dctI
  refine .inr (.inr ⟨a, _, rfl, .inl ⟨kvs, .inr kk, .inr ⟨ob, hd⟩, rfl, rfl⟩, k _ _ _ (Same.refl _) (.flat rfl) ?_⟩)
  rcases look_at p kk with ⟨e1, e2⟩ | ⟨U, v, e1, e2, _⟩
  ·rw [e2]; rw [e1] at h; exact h
  ·rw [e2]; rw [e1] at h; exact h
 ·exact False.elim h⟩
def pIx : P2
 | .seq _ Ts, .leaf (.int i), Q => ∃ U, atI Ts i = some U /\ Q U
 | .leaf (.str z), .leaf (.int i), Q => z.length <= 100000 /\ ∃ c, atI z.cps.toList i = some c /\ Q (sT ⟨#[c]⟩)
 | .dct kts, .leaf (.str k), Q => ∃ U, lookD kts k = some U /\ Q U
 | _, _, _ => False
theorem atI_paired {α β : Type} {R : α -> β -> Prop} {xs : List α} {ys : List β} {i : Int} {y : β} (p : Paired R xs ys) (h : atI ys i = some y) : ∃ x, atI xs i = some x /\ R x y := by
 unfold atI at h ⊢
 rw [Paired.length p]
 cases e : ixN ys.length i with
 | none => rw [e] at h; cases h
 | some j =>
  rw [e] at h
  obtain ⟨x, ex, r⟩ := paired_getR p (show ys[j]? = some y from h)
  exact ⟨x, ex, r⟩
theorem pu_ix (hu : X.A.units + 64 < cLine) : PuIx X pIx := ⟨_, ix_seq.or (ix_dict (by omega)), fun x y T U H Q QQ vx vy h k => by
 unfold pIx at h
 split at h
 ·rename_i t Ts i
  obtain ⟨rfl, _⟩ := vy.leafI
  obtain ⟨a, xs, rfl, hs, z, p⟩ := vx.seqI
  obtain ⟨U, e, q⟩ := h
  obtain ⟨x, ex, v⟩ := atI_paired p e
  cases t with
  | false => exact .inl (.inl ⟨a, xs, i, x, rfl, rfl, seq_of hs, ex, k _ _ _ (.va v) q⟩)
  | true => exact .inl (.inr (.inl ⟨a, xs, i, x, rfl, rfl, hs, ex, k _ _ _ (.va v) q⟩))
 ·obtain ⟨rfl, _⟩ := vx.leafI
  obtain ⟨rfl, _⟩ := vy.leafI
  obtain ⟨l, c, e, q⟩ := h
  exact .inl (.inr (.inr ⟨_, _, c, rfl, rfl, line_of l, e, k _ _ _ (.flat rfl) q⟩))
 ·rename_i kts kk
  obtain ⟨rfl, _⟩ := vy.leafI
  obtain ⟨a, kvs, rfl, ⟨ob, hd⟩, n, z, p⟩ := vx.dctI
  obtain ⟨U, e, q⟩ := h
  rcases look_at p kk with ⟨e1, e2⟩ | ⟨U', v, e1, e2, vv⟩
  ·rw [e1] at e; cases e
  ·rw [e1] at e; cases e
   exact .inr ⟨a, v, rfl, .inl ⟨kvs, .inr kk, .inr ⟨ob, hd⟩, rfl, e2.symm⟩, k _ _ _ (.va vv) q⟩
 ·exact False.elim h⟩
def cutT {α : Type} (xs : List α) (lo hi : Option Int) : List α := (xs.drop (HT.sIx xs.length 0 lo)).take (HT.sIx xs.length xs.length hi - HT.sIx xs.length 0 lo)
theorem paired_drop {α β : Type} {R : α -> β -> Prop} : ∀ {l : List α} {m : List β} (n : Nat), Paired R l m -> Paired R (l.drop n) (m.drop n)
 | _, _, 0, p => p
 | _, _, _ + 1, .nil => .nil
 | _, _, n + 1, .cons _ t => paired_drop n t
theorem paired_tk {α β : Type} {R : α -> β -> Prop} : ∀ {l : List α} {m : List β} (n : Nat), Paired R l m -> Paired R (l.take n) (m.take n)
 | _, _, 0, p => by rw [List.take_zero, List.take_zero]; exact .nil
 | _, _, _ + 1, .nil => .nil
 | _, _, n + 1, .cons r t => .cons r (paired_tk n t)
theorem paired_cut {α β : Type} {R : α -> β -> Prop} {l : List α} {m : List β} (lo hi : Option Int) (p : Paired R l m) : Paired R (cutT l lo hi) (cutT m lo hi) := by
 unfold cutT
 rw [Paired.length p]
 exact paired_tk _ (paired_drop _ p)
theorem cutT_len {α : Type} (xs : List α) (lo hi : Option Int) : (cutT xs lo hi).length <= xs.length := by
 unfold cutT
 rw [List.length_take, List.length_drop]
 omega
def pSlc : PSl
 | .seq t Ts, lo, hi, Q => Q (.seq t (cutT Ts lo hi))
 | .leaf (.str z), lo, hi, Q => z.length <= 100000 /\ Q (sT (Txt.slice z lo hi))
 | _, _, _, _ => False
theorem pu_sl : PuSl X pSlc := ⟨_, sl_list.or (sl_tupW.or sl_str), fun x T lo hi H Q QQ vx h k => by
 cases T with
 | seq t Ts =>
  have h : Q (.seq t (cutT Ts lo hi)) := h
  obtain ⟨a, xs, rfl, hs, z, p⟩ := vx.seqI
  have z' : (cutT Ts lo hi).length <= 100000 := Nat.le_trans (cutT_len _ _ _) z
  cases t with
  | false => exact .inl ⟨a, xs, rfl, seq_of hs, fun r n => k _ _ _ (Raw.lst n z' (paired_cut lo hi p)) h⟩
  | true => exact .inr (.inl ⟨a, xs, rfl, hs, fun r H' sm hr => k _ _ _ ⟨sm, .inl (VA.seq (t := true) hr z' (Paired.mapP (paired_cut lo hi p) fun _ _ q => VA.hs sm.hs q))⟩ h⟩)
 | leaf w =>
  cases w with
  | str zz =>
   have h : zz.length <= 100000 /\ Q (sT (Txt.slice zz lo hi)) := h
   obtain ⟨rfl, _⟩ := vx.leafI
   exact .inr (.inr ⟨_, rfl, line_of h.1, k _ _ _ (.flat rfl) h.2⟩)
  | _ => exact False.elim h
 | dct kts => exact False.elim h⟩
def pLen : Pn
 | [.seq _ Ts], Q => Q (iT Ts.length)
 | [.leaf (.str z)], Q => z.length <= 100000 /\ Q (iT z.length)
 | [.dct kts], Q => Q (iT kts.length)
 | _, _ => False
theorem pu_len : PuCall X (.builtin "len") pLen := ⟨_, call_len_seq.or (call_len_str.or call_lenDK), fun xs Ts H Q QQ vx h k => by
 unfold pLen at h
 split at h
 ·rename_i t Ts
  obtain ⟨x, rfl, v⟩ := vas1 vx
  obtain ⟨a, xs, rfl, hs, z, p⟩ := v.seqI
  have l : xs.length = _ := Paired.length p
  refine .inl ⟨a, xs, rfl, ?_, k _ _ _ (.flat rfl) (by rw [l]; exact h)⟩
  cases t with
  | false => exact .inl (seq_of hs)
  | true => exact .inr hs
 ·obtain ⟨x, rfl, v⟩ := vas1 vx
  obtain ⟨rfl, _⟩ := v.leafI
  exact .inr (.inl ⟨_, rfl, line_of h.1, k _ _ _ (.flat rfl) h.2⟩)
 ·obtain ⟨x, rfl, v⟩ := vas1 vx
  obtain ⟨a, kvs, rfl, ⟨ob, hd⟩, n, z, p⟩ := v.dctI
  have l : kvs.length = _ := Paired.length p
  exact .inr (.inr ⟨a, kvs, rfl, .inr ⟨ob, hd⟩, k _ _ _ (.flat rfl) (by rw [l]; exact h)⟩)
 ·exact False.elim h⟩
def isiT (T : String) : Tv -> Bool
 | .leaf .non => false
 | .leaf (.bl _) => T == "bool" || T == "int"
 | .leaf (.int _) => T == "int"
 | .leaf (.str _) => T == "str"
 | .leaf _ => false
 | .seq false _ => T == "list"
 | .seq true _ => T == "tuple"
 | .dct _ => T == "dict"
theorem ty_of {K : PySem.W.Frag} {H : Hp} {x : V} {W : Tv} (T : String) (v : VA K H x W) : TyV K T x H (isiT T W) := by
 cases W with
 | leaf w =>
  obtain ⟨rfl, f⟩ := v.leafI
  rcases flat_cases f with rfl | ⟨b, rfl⟩ | ⟨b, rfl⟩ | ⟨b, rfl⟩ <;> rfl
 | seq t Ts =>
  obtain ⟨a, xs, rfl, hs, z, p⟩ := v.seqI
  cases t with
  | false => exact .inl ⟨xs, seq_of hs, rfl⟩
  | true => exact .inr (.inl ⟨xs, hs, rfl⟩)
 | dct kts =>
  obtain ⟨a, kvs, rfl, ⟨ob, hd⟩, n, z, p⟩ := v.dctI
  exact .inr (.inr ⟨kvs, .inr ⟨ob, hd⟩, rfl⟩)
def uIsi (T : String) (u : UT) : UT := fun ρ Q => u ρ fun W ρ1 => Q (bT (isiT T W)) ρ1
theorem ue_isi {e t : Expr} {u : UT} {p pos : Pos} (T : String) (hc : CallR X (.builtin "isinstance") (fun xs H Q => ∃ x b, xs = [x, .ty T] /\ TyV X.K T x H b /\ Q (.bl b) H)) (hg : Gl X "isinstance") (hm : X.mg "isinstance" = none) (he : UE X F e u) (ht : PE X t (tC (.ty T)))
  (h1 : isStar e = false := by rfl) (h2 : isStar t = false := by rfl) (hpl : (backTo pos (starEach [t] X.env)).any (·.1) = false := by rfl) : UE X F (.Call (.Name "isinstance" p) [e, t] [] pos) (uIsi T u) :=
 ⟨PE.imp (pe_callB hc hg hm boot_isinstance (pa_c he.pe (pa_c ht pa_nil h2) h1) (by decide) (by decide) (star_cons h1) hpl) fun σ H QQ ⟨ρ, Q, f, h, k⟩ =>
  ⟨ρ, _, f, h, fun x W H1 ρ1 s1 v1 q1 => ⟨x, _, rfl, ty_of T v1, k _ _ _ _ s1 (.flat rfl) q1⟩⟩⟩
theorem vals_bl {K : PySem.W.Frag} {H : Hp} : ∀ {xs : List V} {bs : List Bool}, VAs K H xs (bs.map bT) -> xs = bs.map V.bl
 | [], [], _ => rfl
 | _ :: _, _ :: _, .cons r t => by rw [List.map_cons, <- vals_bl t, (VA.leafI r).1]
theorem vals_int {K : PySem.W.Frag} {H : Hp} : ∀ {xs : List V} {ns : List Int}, VAs K H xs (ns.map iT) -> xs = ns.map V.int
 | [], [], _ => rfl
 | _ :: _, _ :: _, .cons r t => by rw [List.map_cons, <- vals_int t, (VA.leafI r).1]
theorem vals_str {K : PySem.W.Frag} {H : Hp} : ∀ {xs : List V} {ss : List Str}, VAs K H xs (ss.map sT) -> xs = ss.map V.str
 | [], [], _ => rfl
 | _ :: _, _ :: _, .cons r t => by rw [List.map_cons, <- vals_str t, (VA.leafI r).1]
theorem vas_int {K : PySem.W.Frag} {H : Hp} : ∀ (ns : List Int), VAs K H (ns.map V.int) (ns.map iT)
 | [] => .nil
 | _ :: ns => .cons (.flat rfl) (vas_int ns)
theorem vas_str {K : PySem.W.Frag} {H : Hp} : ∀ (ss : List Str), VAs K H (ss.map V.str) (ss.map sT)
 | [] => .nil
 | _ :: ss => .cons (.flat rfl) (vas_str ss)
def pAll : Pn := fun Ts Q => ∃ bs : List Bool, Ts = [.seq false (bs.map bT)] /\ Q (bT (bs.all id))
theorem pu_all (hc : X.calm = true) : PuCall X (.builtin "all") pAll := ⟨_, call_allL hc, fun xs Ts H Q QQ vx h k => by
 obtain ⟨bs, rfl, q⟩ := h
 obtain ⟨x, rfl, v⟩ := vas1 vx
 obtain ⟨a, ys, rfl, hs, z, p⟩ := v.seqI
 rw [vals_bl p] at hs
 exact ⟨a, bs, rfl, seq_of hs, k _ _ _ (.flat rfl) q⟩⟩
def pMin : Pn := fun Ts Q => (∃ i j : Int, Ts = [iT i, iT j] /\ Q (iT (min i j))) \/ (∃ ns : List Int, Ts = [.seq false (ns.map iT)] /\ 0 < ns.length /\ ∀ M, M ∈ ns -> (∀ a ∈ ns, M <= a) -> Q (iT M)) \/
 ∃ ss : List Str, Ts = [.seq false (ss.map sT)] /\ 0 < ss.length /\ ∀ x, x ∈ ss -> (∀ y ∈ ss, x.cps.toList <= y.cps.toList) -> Q (sT x)
theorem pu_min (hc : X.calm = true) : PuCall X (.builtin "min") pMin := ⟨_, (call_min2 hc).or ((call_min1 hc).or (call_min1S hc)), fun xs Ts H Q QQ vx h k => by
 rcases h with ⟨i, j, rfl, q⟩ | ⟨ns, rfl, l, q⟩ | ⟨ss, rfl, l, q⟩
 ·obtain ⟨x, y, rfl, v, v'⟩ := vas2 vx
  obtain ⟨rfl, _⟩ := v.leafI
  obtain ⟨rfl, _⟩ := v'.leafI
  refine .inl ⟨i, j, rfl, k _ _ _ (.flat rfl) ?_⟩
  have e : (if j < i then j else i) = min i j := by split <;> omega
  rw [e]; exact q
 ·obtain ⟨x, rfl, v⟩ := vas1 vx
  obtain ⟨a, ys, rfl, hs, z, p⟩ := v.seqI
  rw [vals_int p] at hs
  exact .inr (.inl ⟨a, ns, rfl, seq_of hs, l, fun M h1 h2 => k _ _ _ (.flat rfl) (q M h1 h2)⟩)
 ·obtain ⟨x, rfl, v⟩ := vas1 vx
  obtain ⟨a, ys, rfl, hs, z, p⟩ := v.seqI
  rw [vals_str p] at hs
  exact .inr (.inr ⟨a, ss, rfl, seq_of hs, l, fun M h1 h2 => k _ _ _ (.flat rfl) (q M h1 h2)⟩)⟩
def pListOf : List Tv -> (List Tv -> Prop) -> Prop := fun Ts Q => ∃ t Us, Ts = [.seq t Us] /\ Q Us
theorem pu_listOf : PuCallL X (.type "list") pListOf := ⟨_, call_list_of, fun xs Ts H Q QQ vx h k => by
 obtain ⟨t, Us, rfl, q⟩ := h
 obtain ⟨x, rfl, v⟩ := vas1 vx
 obtain ⟨a, ys, rfl, hs, z, p⟩ := v.seqI
 refine ⟨a, ys, rfl, ?_, fun l n => k l ys Us _ (same_new n) n upd_same z (VAs.hs (hs_new n) p) q⟩
 cases t with
 | false => exact .inl (seq_of hs)
 | true => exact .inr hs⟩
def pTupOf : Pn := fun Ts Q => ∃ t Us, Ts = [.seq t Us] /\ Q (.seq true Us)
theorem pu_tupOf : PuCall X (.type "tuple") pTupOf := ⟨_, call_tuple_of, fun xs Ts H Q QQ vx h k => by
 obtain ⟨t, Us, rfl, q⟩ := h
 obtain ⟨x, rfl, v⟩ := vas1 vx
 obtain ⟨a, ys, rfl, hs, z, p⟩ := v.seqI
 refine ⟨a, ys, rfl, ?_⟩
 cases t with
 | false => exact .inl ⟨seq_of hs, fun l n => k _ _ _ (Raw.tup n z p) q⟩
 | true => exact .inr ⟨hs, k _ _ _ (.va v) q⟩⟩
def pSorted : List Tv -> (List Tv -> Prop) -> Prop := fun Ts Q => (∃ ns : List Int, Ts = [.seq false (ns.map iT)] /\ ns.length < 64 /\ ∀ ms : List Int, ms.Perm ns -> ms.Pairwise (· <= ·) -> Q (ms.map iT)) \/
 (∃ ss : List Str, Ts = [.seq false (ss.map sT)] /\ ss.length < 64 /\ Q ((sortS ss).map sT)) \/ ∃ kts, Ts = [.dct kts] /\ Q ((sortS (kts.map (·.1))).map sT)
theorem vak_keys {K : PySem.W.Frag} {H : Hp} {kvs : List (Key × V)} {kts : List (Str × Tv)} (p : VAk K H kvs kts) : kvs.map (·.1) = (kts.map (·.1)).map Sum.inr := by
 unfold VAk at p
 induction p with
 | nil => rfl
 | cons r _ ih => rw [List.map_cons, List.map_cons, List.map_cons, ih, r.1]
theorem sortS_len (us : List Str) : (sortS us).length = us.length := (sortS_perm us).length_eq
theorem pu_sorted (hc : X.calm = true) : PuCallL X (.builtin "sorted") pSorted := ⟨_, call_sortedI.or (call_sortedS.or (call_sortedD hc)), fun xs Ts H Q QQ vx h k => by
 rcases h with ⟨ns, rfl, l, q⟩ | ⟨ss, rfl, l, q⟩ | ⟨kts, rfl, q⟩
 ·obtain ⟨x, rfl, v⟩ := vas1 vx
  obtain ⟨a, ys, rfl, hs, z, p⟩ := v.seqI
  rw [vals_int p] at hs
  refine .inl ⟨a, ns, rfl, seq_of hs, l, fun ms b h1 h2 n => k b _ _ _ (same_new n) n upd_same (by rw [List.length_map, h1.length_eq]; omega) (vas_int ms) (q ms h1 h2)⟩
 ·obtain ⟨x, rfl, v⟩ := vas1 vx
  obtain ⟨a, ys, rfl, hs, z, p⟩ := v.seqI
  rw [vals_str p] at hs
  refine .inr (.inl ⟨a, ss, rfl, seq_of hs, l, fun ms b h1 h2 n => k b _ _ _ (same_new n) n upd_same (by rw [List.length_map, h1.length_eq]; omega) (vas_str ms) (by rw [sortS_eq h1 h2]; exact q)⟩)
 ·obtain ⟨x, rfl, v⟩ := vas1 vx
  obtain ⟨a, kvs, rfl, ⟨ob, hd⟩, nd, z, p⟩ := v.dctI
  refine .inr (.inr ⟨a, ob, kvs, kts.map (·.1), rfl, hd, vak_keys p, by rw [List.length_map]; exact z, fun ms b h1 h2 n => k b _ _ _ (same_new n) n upd_same (by rw [List.length_map, h1.length_eq, List.length_map]; omega) (vas_str ms) (by rw [sortS_eq h1 h2]; exact q)⟩)⟩
def pOrd : Pn := fun Ts Q => ∃ z : Str, Ts = [sT z] /\ z.length = 1 /\ Q (iT (z.cps.getD 0 0 : Nat))
theorem pu_ord : PuCall X (.builtin "ord") pOrd := ⟨_, call_ord, fun xs Ts H Q QQ vx h k => by
 obtain ⟨z, rfl, l, q⟩ := h
 obtain ⟨x, rfl, v⟩ := vas1 vx
 obtain ⟨rfl, _⟩ := v.leafI
 exact ⟨z, rfl, l, k _ _ _ (.flat rfl) q⟩⟩
def uBM (T : String) (r : Tv -> List Tv -> (Tv -> Prop) -> Prop) (u : UT) (ua : UTa) : UT := fun ρ Q => u ρ fun W ρ1 => isiT T W = true /\ uVs ua ρ1 fun Ts ρ2 => r W Ts fun W' => Q W' ρ2
theorem tyV_str {K : PySem.W.Frag} {H : Hp} {x : V} {W : Tv} (v : VA K H x W) (h : isiT "str" W = true) : tyV K "str" x H := by
 cases W with
 | leaf w =>
  obtain ⟨rfl, f⟩ := v.leafI
  rcases flat_cases f with rfl | ⟨b, rfl⟩ | ⟨b, rfl⟩ | ⟨b, rfl⟩
  ·cases h
  ·cases h
  ·cases h
  ·rfl
 | seq t Ts => cases t <;> cases h
 | dct kts => cases h
theorem ue_bmS {name : Str} {id : String} {r : Tv -> List Tv -> (Tv -> Prop) -> Prop} {o e : Expr} {es : List Expr} {u : UT} {ua : UTa} {apos cpos : Pos} (slot : Slot "str" name id) (hty : typeOf (.builtin id) = pure (.type "method_descriptor"))
  (hm : ∃ r', MtR X id r' /\ ∀ x W xs Ts H Q (QQ : VK), VA X.K H x W -> VAs X.K H xs Ts -> r W Ts Q -> (∀ z W H', Raw X.K H H' z W -> Q W -> QQ z H') -> r' x xs H QQ) (ho : UE X F o u) (ha : UA X F (e :: es) ua)
  (hbase : attributeBase o name X.env (eval o X.env) = eval o X.env := by rfl)
  (hfew : ((backTo cpos (starEach (e :: es) X.env)).all (fun x => !x.1) && (backToKw cpos (keywordEach [] X.env)).all (fun x => x.1.isSome) && decide ((e :: es).length + ([] : List Keyword).length + (if ([] : List Keyword).isEmpty then 0 else 1) < 30)) = true := by rfl)
  (hline : (apos.endLine == cpos.line) = true := by rfl) (hs : starEach (e :: es) X.env = (false, eval e X.env) :: starEach es X.env := by rfl) (hplain : (backTo cpos (starEach es X.env)).any (·.1) = false := by rfl) :
  UE X F (.Call (.Attribute o name apos) (e :: es) [] cpos) (uBM "str" r u ua) := by
 obtain ⟨r', m, hr⟩ := hm
 refine ⟨PE.imp (PE.fz (pe_bm PySem.F.plainAttrs_str slot hty m ho.pe ha.pa hbase hfew hline hs hplain)) fun σ H QQ ⟨ρ, Q, f, h, k⟩ => ⟨ρ, _, f, h, fun x W H1 ρ1 s1 v1 q1 => ⟨tyV_str v1 q1.1, ρ1, _, s1.fr, q1.2, fun xs as H2 ρ2 s2 p2 q2 => ?_⟩⟩⟩
 obtain ⟨Ts, rfl, q⟩ := vsK_ex q2
 exact hr x W xs Ts H2 _ _ (v1.hs (s2.hs s1.fr)) (vas_of p2) q fun z W' H' rw q => rw.fin s2.fr fun H'' s4 v4 => k _ _ _ _ ((s1.trans s2).trans s4) v4 q
def pFind : Tv -> List Tv -> (Tv -> Prop) -> Prop := fun W Ts Q => ∃ i j : Str, W = sT i /\ Ts = [sT j] /\ ∀ n : Int, Q (iT n)
theorem pm_find : ∃ r', MtR X "str.find" r' /\ ∀ x W xs Ts H Q (QQ : VK), VA X.K H x W -> VAs X.K H xs Ts -> pFind W Ts Q -> (∀ z W H', Raw X.K H H' z W -> Q W -> QQ z H') -> r' x xs H QQ := ⟨_, mt_find, fun x W xs Ts H Q QQ v p h k => by
 obtain ⟨i, j, rfl, rfl, q⟩ := h
 obtain ⟨rfl, _⟩ := v.leafI
 obtain ⟨y, rfl, v'⟩ := vas1 p
 obtain ⟨rfl, _⟩ := v'.leafI
 exact ⟨i, j, rfl, rfl, fun n => k _ _ _ (.flat rfl) (q n)⟩⟩
def pJoin : Tv -> List Tv -> (Tv -> Prop) -> Prop := fun W Ts Q => ∃ ss : List Str, W = sT ⟨#[]⟩ /\ Ts = [.seq false (ss.map sT)] /\ (catS ss).length <= 100000 /\ Q (sT ⟨(catS ss).toArray⟩)
theorem pm_join : ∃ r', MtR X "str.join" r' /\ ∀ x W xs Ts H Q (QQ : VK), VA X.K H x W -> VAs X.K H xs Ts -> pJoin W Ts Q -> (∀ z W H', Raw X.K H H' z W -> Q W -> QQ z H') -> r' x xs H QQ := ⟨_, mt_join, fun x W xs Ts H Q QQ v p h k => by
 obtain ⟨ss, rfl, rfl, l, q⟩ := h
 obtain ⟨rfl, _⟩ := v.leafI
 obtain ⟨y, rfl, v'⟩ := vas1 p
 obtain ⟨a, ys, rfl, hs, z, p'⟩ := v'.seqI
 rw [vals_str p'] at hs
 refine ⟨a, ss, rfl, rfl, seq_of hs, l, fun z e => k _ _ _ (.flat rfl) ?_⟩
 have : z = ⟨(catS ss).toArray⟩ := by
  cases z with
  | mk c => congr 1; have e : c.toList = catS ss := e; rw [<- e]
 rw [this]; exact q⟩
end
end L2
namespace L2
open PySem PySem.Spec PyProof.Rows WordM
section
variable {X : Cx} {F : Fm} {pos : Pos}
def sAsg (u : UT) (g : UG) : UTs := fun P ρ => u ρ fun T ρ1 => g T ρ1 P.nx
theorem us_asg {tg e : Expr} {u : UT} {g : UG} {m : Nat} (he : UE X F e u) (hg : UGt X F m tg g) (hs : swapsWithSole [tg] e pos.line X.env = pure false := by rfl) (hw : swappedStores [tg] e X.env = pure none := by rfl)
  (h1 : (assignEach [tg] X.env).map (·.2) = [assign tg X.env] := by rfl) : US X F (.Assign [tg] e pos) (sAsg u g) := ⟨PS.imp (ps_asg he.pe hg.pg hs hw h1) fun D σ H ⟨ρ, P, f, h, k1, _⟩ => by
 refine ⟨ρ, _, f, h, fun x T H1 ρ1 s1 v1 q1 => ⟨T, ρ1, _, v1, s1.fr, q1, fun σ' ρ' f' _ _ _ _ q => ?_⟩⟩
 exact k1 _ _ _ f' (s1.hs f) q⟩
def GlobT (K : PySem.W.Frag) (mg : Str -> Option Value) (x : Str) (T : Tv) : Prop := ∃ v u, mg x = some u /\ RelV v u /\ ∀ H, VA K H v T
theorem ue_gl {x : Str} {T : Tv} (G : GlobT X.K X.mg x T) (hg : Gl X x) (hd : (x == ("__debug__" : Str)) = false := by decide) : UE X F (.Name x pos) (uC T) := by
 obtain ⟨v, u, m, r, h⟩ := G
 exact ue_glob hg m r h hd
def GlobD (K : PySem.W.Frag) (prm : Params) (mg : Str -> Option Value) (x : Str) (kvs : List (Str × Str)) : Prop := ∃ d, mg x = some (.ref d) /\ KDict K prm d kvs
def uKD (kvs : List (Str × Str)) (u : UT) : UT := fun ρ Q => u ρ fun T ρ1 => ∃ i j, T = sT i /\ getS kvs i = some j /\ Q (sT j) ρ1
theorem ue_kd {x : Str} {p : Pos} {e : Expr} {u : UT} {kvs : List (Str × Str)} (G : GlobD X.K X.w.params X.mg x kvs) (hg : Gl X x) (he : UE X F e u) (hs : PlainIx e := by intro _ _; rfl) (hd : (x == ("__debug__" : Str)) = false := by decide) : UE X F (.Subscript (.Name x p) e pos) (uKD kvs u) := by
 obtain ⟨d, m, D⟩ := G
 refine ⟨PE.imp (pe_ix (ix_kd D) (pe_glob (v := .ref d) hg m rfl hd) he.pe hs) fun σ H QQ ⟨ρ, Q, f, h, k⟩ => ⟨ρ, _, f, h, fun y T H1 ρ1 s1 v1 q1 => ?_⟩⟩
 obtain ⟨i, j, rfl, ej, q⟩ := q1
 obtain ⟨rfl, _⟩ := v1.leafI
 exact ⟨i, j, rfl, rfl, ej, k _ _ _ _ s1 (.flat rfl) q⟩
end
def compS (own : Nat) (fr : List Nat) (g : UG) (tf : UTt) (ue : UT) (T : Tv) (ρ : PEnv) (R : Option Tv -> PEnv -> Prop) : Prop := g T (blk own fr ρ) fun ρ1 => tf ρ1 fun b ρ2 => if b = true then ue ρ2 fun U ρ3 => R (some U) (bck own fr ρ ρ3) else R none (bck own fr ρ ρ2)
section
variable {own : Nat} {fr : List Nat} {g : UG} {tf : UTt} {ue : UT}
def compK (own : Nat) (fr : List Nat) (g : UG) (tf : UTt) (ue : UT) (Ts : List Tv) (Q : List Tv -> PEnv -> Prop) (o : Option Tv) (ρ : PEnv) : Prop := match o with
 | some U => compT own fr g tf ue Ts ρ fun Us ρ4 => Q (U :: Us) ρ4
 | none => compT own fr g tf ue Ts ρ Q
theorem compT_cons (T : Tv) (Ts : List Tv) (ρ : PEnv) (Q : List Tv -> PEnv -> Prop) : compT own fr g tf ue (T :: Ts) ρ Q = compS own fr g tf ue T ρ (compK own fr g tf ue Ts Q) := rfl
theorem compT_fm {ρ : PEnv} (f : Tv -> Option Tv) : ∀ {Ts : List Tv} {Q : List Tv -> PEnv -> Prop}, (∀ T ∈ Ts, ∀ R : Option Tv -> PEnv -> Prop, R (f T) ρ -> compS own fr g tf ue T ρ R) -> Q (Ts.filterMap f) ρ -> compT own fr g tf ue Ts ρ Q
 | [], _, _, q => q
 | T :: Ts, Q, h, q => by
  rw [compT_cons]
  refine h T (.head _) _ ?_
  rw [List.filterMap_cons] at q
  cases e : f T with
  | none => rw [e] at q; exact compT_fm f (fun T' hT' => h T' (.tail _ hT')) q
  | some U => rw [e] at q; exact compT_fm (Q := fun Us ρ4 => Q (U :: Us) ρ4) f (fun T' hT' => h T' (.tail _ hT')) q
theorem compT_map {ρ : PEnv} (f : Tv -> Tv) {Ts : List Tv} {Q : List Tv -> PEnv -> Prop} (h : ∀ T ∈ Ts, ∀ R : Option Tv -> PEnv -> Prop, R (some (f T)) ρ -> compS own fr g tf ue T ρ R) (q : Q (Ts.map f) ρ) : compT own fr g tf ue Ts ρ Q :=
 compT_fm (fun T => some (f T)) h (by rw [show Ts.filterMap (fun T => some (f T)) = Ts.map f from List.filterMap_eq_map' ▸ rfl]; exact q)
theorem forT_inv {g : UG} {ub : UTs} {Ts : List Tv} {P : PEnds} {ρ : PEnv} (J : Nat -> PEnv -> Prop) (h0 : J 0 ρ) (hs : ∀ i T ρ' (N : PEnv -> Prop), Ts[i]? = some T -> J i ρ' -> (∀ ρ'', J (i + 1) ρ'' -> N ρ'') -> g T ρ' fun ρ1 => ub { P with nx := N, ct := N, bk := P.nx } ρ1)
  (hd : ∀ ρ', J Ts.length ρ' -> P.nx ρ') : forT g ub Ts P ρ := by
 have key : ∀ (n i : Nat) (ρ : PEnv), n + i = Ts.length -> J i ρ -> forT g ub (Ts.drop i) P ρ := by
  intro n
  induction n with
  | zero =>
   intro i ρ e j
   have : i = Ts.length := by omega
   subst this
   rw [List.drop_length]
   exact hd ρ j
  | succ n ih =>
   intro i ρ e j
   have hi : i < Ts.length := by omega
   rw [List.drop_eq_getElem_cons hi]
   exact hs i _ ρ (fun ρ' => forT g ub (Ts.drop (i + 1)) P ρ') (List.getElem?_eq_getElem hi) j fun ρ'' j' => ih (i + 1) ρ'' (by omega) j'
 exact key Ts.length 0 ρ (by omega) h0
end
end L2
namespace L2
open PySem PySem.Spec PyProof.Rows WordM
def ptTake : PSp := fun as R => ∃ m : Int, as = [.dk, .va (iT m)] /\ 0 < m /\ BigOk m /\ ∀ r : Int, 0 <= r -> r < m -> R (iT r)
theorem On.kp {p c : Addr} {H H' : Hp} (o : On p c H H') : Kp (some (p, c)) H H' := ⟨fun b u e n => o.e b u e (n p c rfl).1 (n p c rfl).2, fun p' c' e => by cases e; exact o.d⟩
theorem Good.take {P : Program} {w : World} {K : PySem.W.Frag} {mg : Str -> Option Value} {base : Heap} {k : Nat} {x : Str} {ps : List Str} (G : Good P w K mg base k x ps spTake) : PGood P w K mg base k x ps ptTake := Good.imp G fun vs H Q E ⟨dk, as, R, d, p, ⟨m, e, hm, hb, q⟩, kk⟩ => by
 subst e
 cases p with
 | cons r1 t1 =>
  cases t1 with
  | cons r2 t2 =>
   cases t2
   obtain ⟨p, c, ed, rfl⟩ := r1
   subst ed
   obtain ⟨rfl, _⟩ := VA.leafI r2
   exact ⟨p, c, m, rfl, d p c rfl, hm, hb, fun r H' h1 h2 o => kk _ _ _ o.kp (.flat rfl) (q r h1 h2)⟩
theorem us_never {X : Cx} {F : Fm} {st : List Stmt} : USs X F st (fun _ _ => False) := ⟨PSs.imp pss_never fun D σ H ⟨_, _, _, h, _⟩ => h⟩
theorem Has.pfalse {P : Program} {w : World} {K : PySem.W.Frag} {mg : Str -> Option Value} {base : Heap} {x : Str} {st : Stmt} {N ps : List Str} {k : Nat} {psp : PSp} (h : Has K mg x st) (S : FnScope N ps (defScope st))
  (hb : ∀ (kV doc pm : Value) (an : Option Addr) (cdv ct : Value) (us : List Value), us.length = ps.length -> bindArgs (PySem.W.fnOf x x (defArgs st) (defBody st) (defScope st) .none kV doc pm an cdv ct) ⟨us, []⟩ = pure (ps.zip us)) (hf : ∀ as R, psp as R -> False) : PGood P w K mg base (k + 1) x ps psp :=
 h.pgood S hb (fun _ _ _ _ _ _ _ _ _ => us_never) fun as R q => (hf as R q).elim
theorem big_of {j : Int} (h1 : -(10 ^ 100) < j) (h2 : j < 10 ^ 100) : BigOk j := by
 unfold BigOk
 have : j.natAbs < 10 ^ 100 := by omega
 exact Nat.lt_trans this (by decide +kernel)
section
variable {own : Nat} {fr : List Nat} {g : UG} {tf : UTt} {ue : UT} {α : Type}
theorem compT_ofm {ρ : PEnv} (c : α -> Tv) (f : α -> Option Tv) : ∀ {l : List α} {Q : List Tv -> PEnv -> Prop}, (∀ a ∈ l, ∀ R : Option Tv -> PEnv -> Prop, R (f a) ρ -> compS own fr g tf ue (c a) ρ R) -> Q (l.filterMap f) ρ -> compT own fr g tf ue (l.map c) ρ Q
 | [], _, _, q => q
 | a :: l, Q, h, q => by
  rw [List.map_cons, compT_cons]
  refine h a (.head _) _ ?_
  rw [List.filterMap_cons] at q
  cases e : f a with
  | none => rw [e] at q; exact compT_ofm c f (fun b hb => h b (.tail _ hb)) q
  | some U => rw [e] at q; exact compT_ofm (Q := fun Us ρ4 => Q (U :: Us) ρ4) c f (fun b hb => h b (.tail _ hb)) q
theorem compT_of {ρ : PEnv} (c f : α -> Tv) {l : List α} {Q : List Tv -> PEnv -> Prop} (h : ∀ a ∈ l, ∀ R : Option Tv -> PEnv -> Prop, R (some (f a)) ρ -> compS own fr g tf ue (c a) ρ R) (q : Q (l.map f) ρ) : compT own fr g tf ue (l.map c) ρ Q :=
 compT_ofm c (fun a => some (f a)) h (by rw [show l.filterMap (fun a => some (f a)) = l.map f from List.filterMap_eq_map' ▸ rfl]; exact q)
end
theorem eqT_str (x y : Str) : eqT (sT x) (sT y) = decide (x = y) := by
 rw [eqT]
 show (x == y) = _
 exact Bool.beq_eq_decide_eq x y
theorem any_str {x : Str} {ss : List Str} : ((ss.map sT).any fun U => eqT U (sT x)) = decide (x ∈ ss) := by
 rw [List.any_map, Bool.eq_iff_iff, List.any_eq_true, decide_eq_true_iff]
 constructor
 ·rintro ⟨y, hy, e⟩
  have e : eqT (sT y) (sT x) = true := e
  rw [eqT_str, decide_eq_true_iff] at e
  rw [<- e]; exact hy
 ·intro h
  exact ⟨x, h, by show eqT (sT x) (sT x) = true; rw [eqT_str, decide_eq_true_iff]⟩
theorem inok_str {x : Str} {ss : List Str} : InOk (sT x) (ss.map sT) := ⟨trivial, fun U hU => by
 obtain ⟨s, _, rfl⟩ := List.mem_map.mp hU
 trivial⟩
theorem sif {b : Bool} {A B : Prop} (h1 : b = true -> A) (h2 : b = false -> B) : if b = true then A else B := by
 cases b with
 | true => exact (if_pos rfl).mpr (h1 rfl)
 | false => exact (if_neg Bool.false_ne_true).mpr (h2 rfl)
theorem sifd {p : Prop} [Decidable p] {A B : Prop} (h1 : p -> A) (h2 : ¬ p -> B) : if decide p = true then A else B := sif (fun h => h1 (of_decide_eq_true h)) fun h => h2 (of_decide_eq_false h)
end L2
namespace L2
open PySem PySem.Spec PyProof.Rows WordM
abbrev UTd := PEnv -> (List (Str × Tv) -> PEnv -> Prop) -> Prop
def liftD (K : PySem.W.Frag) (F : Fm) (u : UTd) : TE := fun σ H QQ => ∃ ρ Q, FrOk K F ρ σ H /\ u ρ Q /\ ∀ a kvs kts H' ρ', Stp K F σ ρ H ρ' H' -> H a = none -> H' a = some (.dK kvs) -> (kts.map (·.1)).Nodup -> kts.length < 64 -> VAk K H' kvs kts -> Q kts ρ' -> QQ (.ref a) H'
structure UD (X : Cx) (F : Fm) (e : Expr) (u : UTd) : Prop where
 pe : PE X e (liftD X.K F u)
section
variable {X : Cx} {F : Fm} {e : Expr} {pos : Pos}
def uD (u : UTd) : UT := fun ρ Q => u ρ fun kts ρ1 => Q (.dct kts) ρ1
theorem ue_ud {u : UTd} (h : UD X F e u) : UE X F e (uD u) := ⟨PE.imp (PE.fz h.pe) fun σ H QQ ⟨ρ, Q, fr, h, k⟩ => ⟨ρ, _, fr, h, fun a kvs kts H' ρ' s n e nd z p q =>
 .inr ⟨a, _, rfl, e, rfl, fun ob => k _ _ _ _ (s.put fr n e rfl (.frz ob (.dK kvs))) (VA.dct ⟨ob, upd_same⟩ nd z (VAk.hs (hs_put e rfl) p)) q⟩⟩⟩
variable {u : UT} {p : Pos}
variable {x : Str} {apos cpos : Pos}
end
section
variable {X : Cx} {F : Fm}
def rRepR : R2 := fun x y H Q => ∃ l k xs, x = .ref l /\ y = .int k /\ Rd H l (.lst xs) /\ -(2 ^ 63) <= k /\ k < 2 ^ 63 /\ xs.length * k.toNat <= sizeLine /\ ∀ p, H p = none -> Q (.ref p) (upd H p (.lst (List.replicate k.toNat xs).flatten))
theorem op_repR : OpR X (binaryOp .Mult) rRepR := by
 rintro pins s σ H _ _ v u Q I rx ry ⟨l, k, xs, rfl, rfl, hH, h1, h2, hz, q⟩
 cases rx
 obtain ⟨t, rfl⟩ := ry
 obtain ⟨z, its, n, r, e⟩ := hH.ok I.hok
 have hl := r.length
 have hlen : its.toArray.size * k.toNat <= sizeLine := by rw [List.size_toArray, <- hl]; exact hz
 have hcap : ¬ its.toArray.size * k.toNat > (2 ^ 63 - 1) / 8 := by
  have : (sizeLine : Nat) <= (2 ^ 63 - 1) / 8 := by decide
  omega
 have hfit : ¬ (!Builtin.List.listFitsIndex k) = true := by
  rw [fitsIndex_both h1 h2]
  exact Bool.false_ne_true
 have hlong : ¬ Builtin.List.listTooLong (its.toArray.size * k.toNat) = true := by
  rw [notLongL hlen]
  exact Bool.false_ne_true
 have hnew : List.foldl (fun x1 x2 => x1 ++ x2) #[] (List.replicate (if its.toArray.isEmpty = true then 0 else k.toNat) its.toArray) = (List.replicate k.toNat its).flatten.toArray := by
  have f0 : ∀ m : Nat, List.foldl (fun x1 x2 => x1 ++ x2) #[] (List.replicate m its.toArray) = (List.replicate m its).flatten.toArray := fun m => by
   have := foldl_rep its m []
   rw [List.nil_append] at this
   exact this
  rw [f0]
  cases its with
  | nil => simp
  | cons a r' => rw [if_neg (by simp)]
 refine wpAny_binaryOp_repeat_ref (T := "list") (U := "int") (by decide) ⟨_, e, rfl⟩ (fun s' => typeIs_int s' k t) noFill_list_mul F.fills_int_mul F.slot_int_rmul repeat_list F.slot_int_index.lookup
  (call_meets F.slot_int_rmul (typeIs_int s k t) F.entry_int_rmul (F.args_int_rmul_2 _ _) (int___rmul___int_list k t l its.toArray n)
   ⟨e, rfl, ⟨_, e, rfl⟩, call_meets F.slot_list_mul ⟨_, e, rfl⟩ F.entry_list_mul (F.args_list_mul_2 _ _) (AutoListH.list___mul___list_int_3 l its.toArray n k t hfit hcap hlong) ⟨e, ?_⟩⟩)
 rw [hnew]
 exact ⟨.ref _, _, I.lnew (t' := s.toks) (r.rep k.toNat) (by rw [len_rep, Nat.mul_comm]; exact hz), rfl, q _ I.fresh⟩
theorem paired_rep {α β : Type} {R : α -> β -> Prop} {l : List α} {m : List β} (p : Paired R l m) : ∀ k : Nat, Paired R (List.replicate k l).flatten (List.replicate k m).flatten
 | 0 => .nil
 | k + 1 => by rw [List.replicate_succ, List.replicate_succ, List.flatten_cons, List.flatten_cons]; exact paired_app p (paired_rep p k)
def pMul2 : P2
 | .seq false xs, .leaf (.int k), Q => (xs.length * k.toNat <= 100000 /\ -(2 ^ 62) <= k /\ k < 2 ^ 62) /\ Q (.seq false (List.replicate k.toNat xs).flatten)
 | T, U, Q => pMul T U Q
theorem pu_mul2 : PuOp X (binaryOp .Mult) pMul2 := by
 obtain ⟨a, oa, ra⟩ := pu_mul (X := X)
 refine ⟨_, oa.or op_repR, fun x y T U H Q QQ vx vy h k => ?_⟩
 unfold pMul2 at h
 split at h
 ·obtain ⟨a, xs, rfl, ⟨ob, hs⟩, z, p⟩ := vx.seqI
  obtain ⟨rfl, _⟩ := vy.leafI
  obtain ⟨⟨h1, h2, h3⟩, q⟩ := h
  have l1 : xs.length = _ := Paired.length p
  refine .inr ⟨a, _, xs, rfl, rfl, .inr ⟨ob, hs⟩, by omega, by omega, line_of (by rw [l1]; exact h1), fun b n => k _ _ _ (Raw.lst n ?_ (paired_rep p _)) q⟩
  rw [len_rep, Nat.mul_comm]; exact h1
 ·exact .inl (ra x y T U H Q QQ vx vy h k)
end
end L2
namespace L2
open PySem PySem.Spec PyProof.Rows WordM
def spLaw (K : PySem.W.Frag) : Sp := fun vs H Q _ => ∃ (a : Addr) (ns : List Int), vs = [.ref a] /\ SqL K H a (ns.map V.int) /\ ns.length <= 63 /\ ∀ H', Q (.bl true) H'
def lawP (n : Nat) : PEnv := .no :: .dk :: List.replicate (n - 2) .no
theorem fr_law {K : PySem.W.Frag} {H : Hp} {p c : Addr} {N : List Str} {x : V} (hN : 2 <= N.length) (d : DeckAt H p c) : FrOk K ⟨H, some (p, c)⟩ (lawP N.length) ((start N [x]).set 1 (some (.ref p))) H := by
 have nm : ∀ (i : Nat) (s : Sl), (lawP N.length)[i]? = some s -> (s = .dk /\ i = 1) \/ s = .no := fun i s e => by
  unfold lawP at e
  match i, e with
  | 0, e => exact .inr (by simpa using e.symm)
  | 1, e => exact .inl ⟨by simpa using e.symm, rfl⟩
  | i + 2, e =>
   have e : (List.replicate (N.length - 2) Sl.no)[i]? = some s := by simpa using e
   exact .inr (List.eq_of_mem_replicate (List.mem_of_getElem? e))
 refine ⟨fun p' c' e => by cases e; exact d, ⟨fun _ _ e _ => e, fun p' c' e => by cases e; exact d⟩, ?_, fun i s e => ?_, fun i j a s t e _ m _ _ _ => ?_⟩
 ·unfold lawP start
  simp
  omega
 ·rcases nm i s e with ⟨rfl, rfl⟩ | rfl
  ·refine ⟨p, c, rfl, ?_⟩
   unfold ixv start
   rw [List.getElem?_set_self (by simp; omega)]
   rfl
  ·trivial
 ·rcases nm i s e with ⟨rfl, _⟩ | rfl <;> cases m
theorem glob_tup {K : PySem.W.Frag} {mg : Str -> Option Value} {x : Str} {a : Addr} {ss : List Str} (m : mg x = some (.ref a)) (T : ∀ H, SqT K H a (ss.map V.str)) (l : ss.length <= 100000 := by decide) : GlobT K mg x (.seq true (ss.map sT)) := by
 refine ⟨.ref a, .ref a, m, rfl, fun H => VA.seq (T H) (by rw [List.length_map]; exact l) ?_⟩
 have key : ∀ ss : List Str, VAs K H (ss.map V.str) (ss.map sT) := fun ss => by
  induction ss with
  | nil => exact .nil
  | cons s ss ih => exact .cons (.flat rfl) ih
 exact key ss
theorem pss_any {X : Cx} {st : List Stmt} {us : UTs} (h : ∀ F, USs X F st us) : PSs X st (fun D σ H => ∃ F, liftS X.K F us D σ H) := fun pins s σ H D I ⟨F, q⟩ => (h F).ps pins s σ H D I q
theorem law_end {X : Cx} {us : UTs} {D : Ends} {p c : Addr} {H : Hp} {N : List Str} {x : V} (hN : 2 <= N.length) (d : DeckAt H p c) (q : ∀ H', D.rt (.bl true) H') (h : us { nx := fun _ => False, rt := fun T => T = bT true } (lawP N.length)) :
  ∃ F, liftS X.K F us D ((start N [x]).set 1 (some (.ref p))) H := ⟨⟨H, some (p, c)⟩, lawP N.length, _, fr_law hN d, h, fun _ _ _ _ _ z => z.elim, fun x T H' _ v e => by
 subst e
 obtain ⟨rfl, _⟩ := v.leafI
 exact q H', fun _ _ _ _ _ z => z.elim, fun _ _ _ _ _ z => z.elim⟩
end L2
namespace L2
open PySem PySem.Spec PyProof.Rows WordM
section
variable {X : Cx} {F : Fm} {e ke ve : Expr} {pos : Pos} {uk uv : UT}
def uNo : UTd := fun ρ Q => Q [] ρ
theorem ud_nil : UD X F (.Dict [] [] pos) uNo := ⟨PE.imp pe_dnewK fun σ H QQ ⟨ρ, Q, f, h, k⟩ a n => k a [] [] _ ρ (Stp.same f (same_new n)) n upd_same .nil (by decide) .nil h⟩
end
end L2
namespace L2
open PySem PySem.Spec PyProof.Rows
@[reducible] def sortB : PyProof.Rows.KeyKind where
 α := Bool
 blt a b := !a && b
 irrefl a := by cases a <;> rfl
 trans a b c h1 h2 := by cases a <;> cases b <;> cases c <;> simp_all
 negTrans a b c h := by cases a <;> cases b <;> cases c <;> simp_all
 total a b h1 h2 := by cases a <;> cases b <;> simp_all
 keyOf v := match v with | .bool b => some b | _ => none
 dflt := false
end L2
namespace L2
open PySem PySem.Spec PyProof.Rows
section
variable {X : Cx} {F : Fm} {pos : Pos}
theorem pe_m1 {k : Nat} {p p' : Pos} : PE X (.UnaryOp .USub (.Constant (.int 1) k p) p') (tC (.int (-1))) := PE.imp (pe_un un_neg pe_int) fun σ H Q h => ⟨1, rfl, h⟩
end
end L2
namespace L2
open PySem PySem.Spec PyProof.Rows PySem.SeqAt
section
variable {prog : Program} {w : World} {A : Around} {E : Value -> Shared -> Prop} {s : Shared}
theorem dict_eq_declines {d : Addr} {v : Value} {T : String} {Q : Value -> Shared -> Prop} (hd : s.TypeIs (.ref d) "dict") (hv : s.TypeIs v T) (hsub : isSubtype (.type T) (.type "dict") = pure false) (h : Q .notImplemented s) :
  wpAny (model prog w) A (call (.builtin "dict.__eq__") [.ref d, v]) Q E s := by
 refine wpAny_call_entry PySem.F.slot_dict_eq_refl hd PySem.F.entry_dict_eq ?_ (PySem.F.args_dict_eq_2 _ _)
 show wpAny _ _ (Builtin.Dict.dictSlotArgs "__eq__" ⟨[.ref d, v], []⟩ >>= _) _ _ s
 refine wpAny_bind ?_
 unfold Builtin.Dict.dictSlotArgs
 refine wpAny_bind (wpAny_notOrdered_dict hd ?_)
 show wpAny _ _ (pure (Value.ref d, v)) _ _ s
 refine wpAny_pure ?_
 refine wpAny_bind (wpAny_isInstance (T := T) hv hsub ?_)
 simp only [Bool.not_false, if_true]
 exact wpAny_bind (wpAny_rule (wpAny_pure ⟨_, rfl, h⟩))
theorem str_eq_declines_dict (b : Str) (u : Tok) (l : Addr) (c : Value) (es : Array DictEntry) (n : Nat) (dd : Option Addr) (sl : Array (Option Value)) :
  Meets (Builtin.«str.__eq__» ⟨[.str b u, .ref l], []⟩) (fun _ R s => s.heap.get? l = some { cls := c, dict := dd, data := .dict es n, slots := sl } /\ R (.ok (.ret .notImplemented)) s) :=
 .of_wp fun prog w A R s h => by obtain ⟨hp, g, d, tk, os⟩ := s; obtain ⟨hl, h⟩ := h; wp_walk using AutoSeq1.wpAny_loadPart' hl, wpAny_load hl; exact ⟨_, rfl, h⟩
end
section
variable {prog : Program} {w : World} {κ : Type} [DecidableEq κ] {knd : KeyKind prog w κ} {A : Around} {s : Shared} {d : Addr} {kvs : List (κ × Value)}
theorem rc_str_dict (b : Str) (u : Tok) (hd : s.heap.DictOf knd d kvs) (hu : A.units < cLine) : RcAt A s (.str b u) (.ref d) false := fun prog w E Q h => by
 obtain ⟨⟨cls, dd, data, sl⟩, es, ep, ho, ⟨hc, hdn, hsl⟩, hda, _⟩ := id hd
 simp only at hc hda hdn hsl
 subst hc hda hdn hsl
 exact rc_eq_decline_or (k := false) (typeIs_str s b u) ⟨_, ho, rfl⟩ (by decide) F.sub_dict_str F.slot_str_eq F.slot_dict_eq_refl
  (fun _ hq => call_meets F.slot_str_eq (typeIs_str s b u) F.entry_str_eq (F.args_str_eq_2 _ _) (str_eq_declines_dict b u d _ es ep none #[]) ⟨ho, hq⟩)
  (fun _ hq => dict_eq_declines ⟨_, ho, rfl⟩ (typeIs_str s b u) F.sub_str_dict hq)
  (fun _ hq => wpAny_of_eq (rfl : isSame (.str b u) (.ref d) = pure false) hq) (.inr hu) h
theorem eq_str_dict (b : Str) (u : Tok) (hd : s.heap.DictOf knd d kvs) (hu : A.units < cLine) : EqAt A s (.str b u) (.ref d) false := fun prog w E Q h => by
 unfold eqBool
 refine wpAny_holding ?_
 refine wpAny_ite_split (fun hab => absurd (eq_of_beq hab) nofun) (fun _ => ?_)
 exact wpAny_bind (rc_str_dict b u hd hu prog w E _ (wpAny_truthy_bool h))
end
section
variable {X : Cx} {pins : List (Addr × Obj)} {σ : St} {H : Hp} {s : Shared}
theorem va_dict (I : Inv X pins σ H s) {x : V} {kts : List (Str × Tv)} {u : Value} (v : VA X.K H x (.dct kts)) (r : RelV x u) : ∃ a vs, u = .ref a /\ s.heap.DictOf (mixKind X.prog X.w) a vs := by
 obtain ⟨a, kvs, rfl, ⟨ob, hd⟩, _⟩ := v.dctI
 cases r
 obtain ⟨_, _, vs, _, d⟩ := (show ObjOk X.prog X.w H s.heap a (.frz ob (.dK kvs)) from I.hok a _ hd).2
 exact ⟨a, vs, rfl, d⟩
theorem eq_str_any (I : Inv X pins σ H s) {A : Around} (hu : A.units < cLine) {z : Str} {v : Value} {y : V} {U : Tv} {u : Value} (rx : RelV (.str z) v) (vy : VA X.K H y U) (ry : RelV y u) : EqAt A s v u (eqT (sT z) U) := by
 cases U with
 | leaf w =>
  obtain ⟨rfl, f⟩ := vy.leafI
  obtain ⟨t, rfl⟩ := rx
  rw [show eqT (sT z) (.leaf y) = eqV (.str z) y by simp [eqT]]
  rcases flat_cases f with rfl | ⟨b, rfl⟩ | ⟨b, rfl⟩ | ⟨b, rfl⟩
  ·cases ry; exact EqAt.str_none z t
  ·cases ry; exact EqAt.str_bool z t b
  ·obtain ⟨t', rfl⟩ := ry; exact EqAt.str_int z t b t'
  ·obtain ⟨t', rfl⟩ := ry; exact EqAt.str_str z t b t'
 | seq t Us =>
  obtain ⟨a, ys, rfl, hs, _⟩ := vy.seqI
  cases ry
  rw [show eqT (sT z) (.seq t Us) = false by simp [eqT]]
  exact (eq_leaf_seq I hu (x := .str z) rfl rx hs).1
 | dct kts =>
  obtain ⟨a, vs, rfl, d⟩ := va_dict I vy ry
  obtain ⟨t, rfl⟩ := rx
  rw [show eqT (sT z) (.dct kts) = false by simp [eqT]]
  exact eq_str_dict z t d hu
end
end L2
namespace L2
open PySem PySem.Spec PyProof.Rows WordM
theorem sifI {a b : Int} {A B : Prop} (h1 : a = b -> A) (h2 : a ≠ b -> B) : if (false != eqV (.int a) (.int b)) = true then A else B := sif (fun z => h1 (by simpa [eqV] using z)) fun z => h2 (by simpa [eqV] using z)
theorem sifS {a b : Str} {A B : Prop} (h1 : a = b -> A) (h2 : a ≠ b -> B) : if (false != eqV (.str a) (.str b)) = true then A else B := sif (fun z => h1 (by simpa [eqV] using z)) fun z => h2 (by simpa [eqV] using z)
def rise (l : List Str) : Prop := l.Pairwise fun a b => cs a < cs b
theorem lt_of_le_ne {a b : Str} (h : cs a <= cs b) (n : a ≠ b) : cs a < cs b := by
 refine Classical.byContradiction fun z => n (str_ext (List.le_antisymm h (List.not_lt.mp z)))
theorem sort_ex (l : List Str) : ∃ ss : List Str, ss.Perm l /\ sortedS ss = true := by
 refine ⟨l.mergeSort fun a b => decide (cs a <= cs b), List.mergeSort_perm _ _, PyProof.Rows.sortedS_of_pairwise _ ?_⟩
 refine (List.pairwise_mergeSort (fun a b c h1 h2 => ?_) (fun a b => ?_) l).imp fun {a b} h => ?_
 ·exact decide_eq_true (List.le_trans (of_decide_eq_true h1) (of_decide_eq_true h2))
 ·rcases List.le_total (cs a) (cs b) with z | z <;> simp [z]
 ·rw [ltCps_eq]
  exact decide_eq_false (List.not_lt.mpr (of_decide_eq_true h))
theorem sort_pw (l : List Str) : (sortS l).Pairwise fun a b => cs a <= cs b := by
 obtain ⟨ss, h1, h2⟩ := sort_ex l
 rw [<- sortS_eq h1 h2]
 exact sorted_pw' _ h2
theorem sort_rise {l : List Str} (n : l.Nodup) : rise (sortS l) := by
 have h2 : (sortS l).Nodup := (sortS_perm l).nodup_iff.mpr n
 exact List.Pairwise.imp₂ (fun a b h n => lt_of_le_ne h n) (sort_pw l) h2
end L2
namespace L2
open PySem PySem.Spec PyProof.Rows WordM
theorem lt_ne {a b : Str} (h : cs a < cs b) : a ≠ b := fun e => by rw [e] at h; exact List.lt_irrefl _ h
end L2
namespace L2
open PySem PySem.Spec PyProof.Rows PySem.SeqAt
section
variable {X : Cx} {F : Fm}
def pLeS : P2
 | .leaf (.str x), .leaf (.str y), Q => Q (bT (!decide (y.cps.toList < x.cps.toList)))
 | _, _, _ => False
theorem op_le_str : OpR X (compareOp .LtE) (fun x y H Q => ∃ i j, x = .str i /\ y = .str j /\ Q (.bl (!decide (j.cps.toList < i.cps.toList))) H) := by
 intro pins s σ H x y v u Q I rx ry h
 obtain ⟨i, j, rfl, rfl, q⟩ := h
 obtain ⟨t, rfl⟩ := rx
 obtain ⟨t', rfl⟩ := ry
 exact PySem.P.le_str (fin_bl I q rfl)
theorem pu_leS : PuCmp X (compareOp .LtE) pLeS := ⟨_, op_le_str, fun x y T U H Q QQ vx vy h k => by
 unfold pLeS at h
 split at h
 ·obtain ⟨rfl, _⟩ := vx.leafI
  obtain ⟨rfl, _⟩ := vy.leafI
  exact ⟨_, _, rfl, rfl, k _ _ _ (Same.refl _) (.flat rfl) h⟩
 ·exact False.elim h⟩
end
section
variable {prog : Program} {w : World} {A : Around} {E : Value -> Shared -> Prop} {s : Shared}
theorem dict_ne_declines {d : Addr} {v : Value} {T : String} {Q : Value -> Shared -> Prop} (hd : s.TypeIs (.ref d) "dict") (hv : s.TypeIs v T) (hsub : isSubtype (.type T) (.type "dict") = pure false) (h : Q .notImplemented s) :
  wpAny (model prog w) A (call (.builtin "dict.__ne__") [.ref d, v]) Q E s := by
 refine wpAny_call_entry PySem.F.slot_dict_ne hd PySem.F.entry_dict_ne ?_ (PySem.F.args_dict_ne_2 _ _)
 show wpAny _ _ (Builtin.Dict.dictSlotArgs "__ne__" ⟨[.ref d, v], []⟩ >>= _) _ _ s
 refine wpAny_bind ?_
 unfold Builtin.Dict.dictSlotArgs
 refine wpAny_bind (wpAny_notOrdered_dict hd ?_)
 show wpAny _ _ (pure (Value.ref d, v)) _ _ s
 refine wpAny_pure ?_
 refine wpAny_bind (wpAny_isInstance (T := T) hv hsub ?_)
 simp only [Bool.not_false, if_true]
 exact wpAny_bind (wpAny_rule (wpAny_pure ⟨_, rfl, h⟩))
theorem str_ne_declines_dict (b : Str) (u : Tok) (l : Addr) (c : Value) (es : Array DictEntry) (n : Nat) (dd : Option Addr) (sl : Array (Option Value)) :
  Meets (Builtin.«str.__ne__» ⟨[.str b u, .ref l], []⟩) (fun _ R s => s.heap.get? l = some { cls := c, dict := dd, data := .dict es n, slots := sl } /\ R (.ok (.ret .notImplemented)) s) :=
 .of_wp fun prog w A R s h => by obtain ⟨hp, g, d, tk, os⟩ := s; obtain ⟨hl, h⟩ := h; wp_walk using AutoSeq1.wpAny_loadPart' hl, wpAny_load hl; exact ⟨_, rfl, h⟩
variable {κ : Type} [DecidableEq κ] {knd : KeyKind prog w κ} {d : Addr} {kvs : List (κ × Value)}
theorem rc_dict_str (b : Str) (u : Tok) (hd : s.heap.DictOf knd d kvs) (hu : A.units < cLine) : RcAt A s (.ref d) (.str b u) false /\ RcNeAt A s (.ref d) (.str b u) true := by
 obtain ⟨⟨cls, dd, data, sl⟩, es, ep, ho, ⟨hc, hdn, hsl⟩, hda, _⟩ := id hd
 simp only at hc hda hdn hsl
 subst hc hda hdn hsl
 refine ⟨fun prog w E Q h => ?_, fun prog w E Q h => ?_⟩
 ·exact rc_eq_decline_or (k := false) ⟨_, ho, rfl⟩ (typeIs_str s b u) (by decide) F.sub_str_dict F.slot_dict_eq F.slot_str_eq_refl
   (fun _ hq => dict_eq_declines ⟨_, ho, rfl⟩ (typeIs_str s b u) F.sub_str_dict hq)
   (fun _ hq => call_meets F.slot_str_eq_refl (typeIs_str s b u) F.entry_str_eq (F.args_str_eq_2 _ _) (str_eq_declines_dict b u d _ es ep none #[]) ⟨ho, hq⟩)
   (fun _ hq => wpAny_of_eq (rfl : isSame (.ref d) (.str b u) = pure false) hq) (.inr hu) h
 ·exact rc_ne_decline_or (k := false) ⟨_, ho, rfl⟩ (typeIs_str s b u) (by decide) F.sub_str_dict F.slot_dict_ne F.slot_str_ne_refl
   (fun _ hq => dict_ne_declines ⟨_, ho, rfl⟩ (typeIs_str s b u) F.sub_str_dict hq)
   (fun _ hq => call_meets F.slot_str_ne_refl (typeIs_str s b u) F.entry_str_ne (F.args_str_ne_2 _ _) (str_ne_declines_dict b u d _ es ep none #[]) ⟨ho, hq⟩)
   (fun _ hq => wpAny_of_eq (rfl : isSame (.ref d) (.str b u) = pure false) hq) (.inr hu) h
end
section
variable {X : Cx} {F : Fm}
def pEqA (neg : Bool) : P2 := fun T U Q => ∃ z : Str, U = sT z /\ Q (bT (neg != eqT T (sT z)))
theorem any_str_rc {pins : List (Addr × Obj)} {σ : St} {H : Hp} {s : Shared} (I : Inv X pins σ H s) (hu : X.A.units < cLine) {x : V} {T : Tv} {v : Value} {z : Str} {u : Value} (vx : VA X.K H x T) (rx : RelV x v) (ry : RelV (.str z) u) : RcAt X.A s v u (eqT T (sT z)) /\ RcNeAt X.A s v u (!eqT T (sT z)) := by
 cases T with
 | leaf w =>
  obtain ⟨rfl, f⟩ := vx.leafI
  rw [show eqT (.leaf x) (sT z) = eqV x (.str z) by simp [eqT]]
  exact rc_leaf f (y := .str z) rfl rx ry
 | seq t Ts =>
  obtain ⟨a, xs, rfl, hs, _⟩ := vx.seqI
  cases rx
  have r := eq_leaf_seq I hu (x := .str z) rfl ry hs
  rw [show eqT (.seq t Ts) (sT z) = false by simp [eqT]]
  exact ⟨r.2.2.2.1, r.2.2.2.2.2⟩
 | dct kts =>
  obtain ⟨a, vs, rfl, d⟩ := va_dict I vx rx
  obtain ⟨t, rfl⟩ := ry
  rw [show eqT (.dct kts) (sT z) = false by simp [eqT]]
  exact rc_dict_str z t d hu
def rEqA (K : PySem.W.Frag) (neg : Bool) : R2 := fun x y H Q => ∃ (T : Tv) (z : Str), VA K H x T /\ y = .str z /\ Q (.bl (neg != eqT T (sT z))) H
theorem op_eqA (hu : X.A.units + 64 < cLine) : OpR X (compareOp .Eq) (rEqA X.K false) := by
 rintro pins s σ H x y v u Q I rx ry ⟨T, z, vx, rfl, q⟩
 exact (any_str_rc I (by omega) vx rx ry).1 X.prog X.w X.xe _ ⟨.bl _, H, I, rfl, by simpa using q⟩
theorem pu_eqA (hu : X.A.units + 64 < cLine) : PuCmp X (compareOp .Eq) (pEqA false) := ⟨_, op_eqA hu, fun x y T U H Q QQ vx vy h k => by
 obtain ⟨z, rfl, q⟩ := h
 obtain ⟨rfl, _⟩ := vy.leafI
 exact ⟨T, z, vx, rfl, k _ _ _ (Same.refl _) (.flat rfl) q⟩⟩
def pInA : P2 := fun T U Q => ∃ ks : List Str, U = .seq true (ks.map sT) /\ Q (bT ((ks.map sT).any fun k => eqT k T))
def rInA (K : PySem.W.Frag) : R2 := fun x y H Q => ∃ (T : Tv) (ks : List Str), VA K H x T /\ VA K H y (.seq true (ks.map sT)) /\ Q (.bl ((ks.map sT).any fun k => eqT k T)) H
theorem op_inA (hu : X.A.units + 64 < cLine) : OpR X (compareOp .In) (rInA X.K) := by
 rintro pins s σ H x y v u Q I rx ry ⟨T, ks, vx, vy, q⟩
 obtain ⟨a, ys, rfl, hs, z, p⟩ := vy.seqI
 cases ry
 rw [vals_str p] at hs
 obtain ⟨its, r, l⟩ := PSeq.isTup I hs
 let e : Value -> Bool := fun w => match w with | .str k _ => eqT (sT k) T | _ => false
 have key : ∀ {ks : List Str} {its : List Value}, Vals (ks.map V.str) its -> (∀ y ∈ its, EqAt X.A.in1 s y v (e y)) /\ its.any e = (ks.map sT).any fun k => eqT k T := by
  intro ks
  induction ks with
  | nil => intro its r; cases r; exact ⟨(fun y hy => nomatch hy), rfl⟩
  | cons k ks ih =>
   intro its r
   cases r with
   | cons r0 rs =>
    obtain ⟨i1, i2⟩ := ih rs
    obtain ⟨t, rfl⟩ := id r0
    refine ⟨fun y hy => ?_, ?_⟩
    ·rcases List.mem_cons.mp hy with rfl | hy
     ·exact eq_str_any I (by show X.A.units + 1 < _; omega) r0 vx rx
     ·exact i1 y hy
    ·rw [List.any_cons, i2, List.map_cons, List.any_cons]
 obtain ⟨k1, k2⟩ := key r
 refine in_tupleAt e l (fun y hy => k1 y (by simpa using hy)) ⟨.bl _, H, I, rfl, ?_⟩
 rw [List.any_toArray, k2]; exact q
theorem pu_inA (hu : X.A.units + 64 < cLine) : PuCmp X (compareOp .In) pInA := ⟨_, op_inA hu, fun x y T U H Q QQ vx vy h k => by
 obtain ⟨ks, rfl, q⟩ := h
 exact ⟨T, ks, vx, vy, k _ _ _ (Same.refl _) (.flat rfl) q⟩⟩
end
end L2
namespace L2
open PySem PySem.Spec PyProof.Rows PySem.SeqAt
open AutoSeq1 (wpAny_loadPart')
theorem wpAny_forIn_rng {M : Model} {A : Around} {E : Value -> Shared -> Prop} {s : Shared} {β : Type} (f : Nat -> β -> Sem (ForInStep β)) (I : List Nat -> β -> Shared -> Prop) (Q : β -> Shared -> Prop)
  (turn : ∀ x rest b s, I (x :: rest) b s -> wpAny M A (f x b) (fun r s' => match r with | .yield b' => I rest b' s' | .done b' => Q b' s') E s)
  (fin : ∀ b s, I [] b s -> Q b s) (n : Nat) (b : β) (h : I (List.range n) b s) : wpAny M A (forIn [:n] b f) Q E s := by
 rw [Std.Legacy.Range.forIn_eq_forIn_range']
 refine wpAny_forIn_list f I Q turn fin _ b ?_
 have : List.range' ([:n] : Std.Legacy.Range).start ([:n] : Std.Legacy.Range).size ([:n] : Std.Legacy.Range).step = List.range n := by
  simp [Std.Legacy.Range.size, List.range_eq_range']
 rw [this]
 exact h
theorem tuple_indexAt (l : Addr) (items : Array Value) (n : Nat) (dd : Option Addr) (sl : Array (Option Value)) (x : Value) (e : Value -> Bool) (j : Nat) (hj : j < items.size)
  (hit : e items[j] = true) (hno : ∀ m (hm : m < items.size), m < j -> e items[m] = false) :
  Meets (Builtin.«tuple.index» ⟨[.ref l, x], []⟩)
   (fun A R s => s.heap.get? l = some { cls := .type "tuple", dict := dd, data := .seq items n, slots := sl } /\ (∀ y, y ∈ items -> EqAt A.in1 s y x (e y)) /\ R (.ok (.ret (.int j s.toks))) { s with toks := s.toks + 1 }) :=
 .of_wp fun prog w A R s h => by
  obtain ⟨hp, g, d, tk, os⟩ := s; obtain ⟨hl, he, h⟩ := h
  wp_walk using wpAny_loadPart' hl, wpAny_forIn_rng _ (fun rest b s' => b.1 = none /\ s' = ⟨hp, g, d, tk, os⟩ /\ ∃ i, i <= j /\ rest = (List.range (min items.size items.size)).drop i) _
  case turn =>
   rintro k rest b s' ⟨hb, rfl, i, hi, hr⟩
   rw [Nat.min_self] at hr ⊢
   have hlt : i < items.size := by omega
   rw [List.drop_eq_getElem_cons (by rw [List.length_range]; exact hlt), List.getElem_range] at hr
   obtain ⟨rfl, rfl⟩ := List.cons.inj hr
   rw [Array.getElem?_eq_getElem hlt]
   refine wpAny_bind (he _ (Array.getElem_mem hlt) prog w _ _ ?_)
   by_cases hk : k = j
   ·subst hk
    rw [hit]
    wp_walk
    exact ⟨_, rfl, h⟩
   ·rw [hno k hlt (by omega)]
    wp_walk
    exact ⟨rfl, rfl, k + 1, by omega, rfl⟩
  case fin =>
   rintro ⟨b1, b2⟩ s' ⟨hb, rfl, i, hi, hr⟩
   rw [Nat.min_self] at hr
   have := congrArg List.length hr
   rw [List.length_drop, List.length_range, List.length_nil] at this
   omega
  case h =>
   exact ⟨rfl, rfl, 0, Nat.zero_le _, rfl⟩
section
variable {X : Cx} {F : Fm}
def rTix (K : PySem.W.Frag) : V -> List V -> Hp -> VK -> Prop := fun x vs H Q => ∃ (p : Addr) (ss : List Str) (y : Str) (j : Nat), x = .ref p /\ vs = [.str y] /\ SqT K H p (ss.map V.str) /\ ss[j]? = some y /\ (∀ i, i < j -> ss[i]? ≠ some y) /\ Q (.int (j : Nat)) H
theorem mt_tix (hu : X.A.units + 8 < cLine) : MtM X "tuple.index" (rTix X.K) := by
 intro pins s σ H x vs v us Q I rx rv h
 obtain ⟨p, ss, y, j, rfl, rfl, hq, hj, hno, q⟩ := h
 cases rx
 obtain ⟨u, rfl, t, rfl⟩ := rv.one
 obtain ⟨its, rv, pl, hz⟩ := I.tuple hq
 obtain ⟨⟨cls, dd, data, sl⟩, ho, hc, n, hd⟩ := id pl
 simp only at hc hd
 subst hc hd
 have rl := rv.length
 have key : ∀ (m : Nat) (hm : m < its.length), ∃ z t', ss[m]? = some z /\ its[m] = .str z t' := fun m hm => by
  have hs : m < ss.length := by rw [List.length_map] at rl; omega
  obtain ⟨u, e1, t', e2⟩ := Vals.get rv (i := m) (x := .str ss[m]) (by rw [List.getElem?_map, List.getElem?_eq_getElem hs]; rfl)
  rw [List.getElem?_eq_getElem hm] at e1
  exact ⟨ss[m], t', List.getElem?_eq_getElem hs, by rw [Option.some.inj e1, e2]⟩
 let e : Value -> Bool := fun w => match w with | .str z _ => decide (z = y) | _ => false
 have jl : j < its.length := by
  have := (List.getElem?_eq_some_iff.mp hj).1
  rw [List.length_map] at rl; omega
 refine call_meets PySem.F.slot_tuple_index ⟨_, ho, rfl⟩ PySem.F.entry_tuple_index (PySem.F.args_tuple_index_2 _ _) (tuple_indexAt p its.toArray n dd sl (.str y t) e j (by simpa using jl) ?_ ?_) ⟨ho, ?_, ⟨.int (j : Nat), H, I.tok _, ⟨_, rfl⟩, q⟩⟩
 ·obtain ⟨z, t', h1, h2⟩ := key j jl
  rw [hj] at h1
  cases h1
  show e its[j] = true
  rw [h2]
  exact decide_eq_true rfl
 ·intro m hm hmj
  have hm : m < its.length := by simpa using hm
  obtain ⟨z, t', h1, h2⟩ := key m hm
  show e its[m] = false
  rw [h2]
  exact decide_eq_false fun c => hno m hmj (by rw [h1, c])
 ·intro w hw
  obtain ⟨m, hm, rfl⟩ := List.getElem_of_mem (by simpa using hw)
  obtain ⟨z, t', h1, h2⟩ := key m hm
  rw [h2]
  have := eq_str_any I (A := X.A.in1) (by have : X.A.in1.units = X.A.units + 1 := rfl; omega) (z := z) (v := .str z t') (y := .str y) (U := sT y) (u := .str y t) ⟨_, rfl⟩ (.flat rfl) ⟨_, rfl⟩
  rw [show eqT (sT z) (sT y) = decide (z = y) by
   simp only [eqT, eqV]
   by_cases h : z = y
   ·subst h; simp
   ·rw [decide_eq_false h]; simpa using h] at this
  exact this
def GlobI (K : PySem.W.Frag) (mg : Str -> Option Value) (x : Str) (ss : List Str) : Prop := ∃ (a : Addr) (its : Array Value) (n : Nat) (sl : Array (Option Value)), mg x = some (.ref a) /\ K.lookup a = some ⟨.type "tuple", none, .seq its n, sl⟩ /\ its.size <= sizeLine /\ Vals (ss.map V.str) its.toList
def uTix (ss : List Str) (u : UT) : UT := fun ρ Q => u ρ fun T ρ1 => ∃ (y : Str) (j : Nat), T = sT y /\ ss[j]? = some y /\ (∀ i, i < j -> ss[i]? ≠ some y) /\ Q (iT (j : Nat)) ρ1
theorem ue_tix {x : Str} {ss : List Str} {p apos cpos : Pos} {e : Expr} {u : UT} (hu : X.A.units + 64 < cLine) (G : GlobI X.K X.mg x ss) (hg : Gl X x) (he : UE X F e u) (hst : isStar e = false := by rfl) (hd : (x == ("__debug__" : Str)) = false := by decide)
  (hbase : attributeBase (.Name x p) "index" X.env (eval (.Name x p) X.env) = eval (.Name x p) X.env := by rfl)
  (hfew : ((backTo cpos (starEach [e] X.env)).all (fun x => !x.1) && (backToKw cpos (keywordEach [] X.env)).all (fun x => x.1.isSome) && decide ([e].length + ([] : List Keyword).length + (if ([] : List Keyword).isEmpty then 0 else 1) < 30)) = true := by rfl)
  (hline : (apos.endLine == cpos.line) = true := by rfl) (hs : starEach [e] X.env = (false, eval e X.env) :: starEach [] X.env := by rfl) (hplain : (backTo cpos (starEach [] X.env)).any (·.1) = false := by rfl) :
  UE X F (.Call (.Attribute (.Name x p) "index" apos) [e] [] cpos) (uTix ss u) := by
 obtain ⟨a, its, n, sl, m, lk, z, vs⟩ := G
 refine ⟨PE.imp (pe_bm PySem.F.plainAttrs_tuple PySem.F.slot_tuple_index PySem.F.type_tuple_index (mt_tix (by omega)) (pe_glob (v := .ref a) hg m rfl hd) (pa_c he.pe pa_nil hst) hbase hfew hline hs hplain) fun σ H QQ ⟨ρ, Q, f, h, k⟩ => ?_⟩
 refine ⟨.inr (.inl ⟨rfl, _, lk, rfl, rfl⟩), ρ, _, f, h, fun w T H1 ρ1 s1 v1 q1 => ?_⟩
 obtain ⟨y, j, rfl, hj, hno, q⟩ := q1
 obtain ⟨rfl, _⟩ := v1.leafI
 exact ⟨a, ss, y, j, rfl, rfl, .inr ⟨_, _, _, lk, rfl, rfl, z, vs⟩, hj, hno, k _ _ _ _ s1 (.flat rfl) q⟩
end
end L2
namespace L2
open PySem PySem.Spec PyProof.Rows PySem.SeqAt
section
variable {X : Cx} {F : Fm}
theorem op_ltB : OpR X (compareOp .Lt) (fun x y H Q => ∃ i j : Bool, x = .bl i /\ y = .bl j /\ Q (.bl (!i && j)) H) := by
 intro pins s σ H x y v u Q I rx ry h
 obtain ⟨i, j, rfl, rfl, q⟩ := h
 cases rx
 cases ry
 refine lt_bool (fin_bl I q ?_)
 cases i <;> cases j <;> rfl
def pLtB : P2
 | .leaf (.bl i), .leaf (.bl j), Q => Q (bT (!i && j))
 | T, U, Q => pLt T U Q
theorem pu_ltB : PuCmp X (compareOp .Lt) pLtB := by
 obtain ⟨a, oa, ra⟩ := pu_lt (X := X)
 refine ⟨_, oa.or op_ltB, fun x y T U H Q QQ vx vy h k => ?_⟩
 unfold pLtB at h
 split at h
 ·obtain ⟨rfl, _⟩ := vx.leafI
  obtain ⟨rfl, _⟩ := vy.leafI
  exact .inr ⟨_, _, rfl, rfl, k _ _ _ (Same.refl _) (.flat rfl) h⟩
 ·exact .inl (ra x y T U H Q QQ vx vy h k)
end
end L2
namespace L2
open PySem PySem.Spec PyProof.Rows PySem.SeqAt
section
variable {X : Cx} {F : Fm}
def uRevT (u : UT) : UT := fun ρ Q => u ρ fun T ρ1 => ∃ Ts, T = .seq true Ts /\ Q (.seq true Ts.reverse) ρ1
theorem paired_rev {α β : Type} {R : α -> β -> Prop} {l : List α} {m : List β} (p : Paired R l m) : Paired R l.reverse m.reverse := by
 induction p with
 | nil => exact .nil
 | cons r _ ih => rw [List.reverse_cons, List.reverse_cons]; exact Paired.snoc ih r
theorem ue_revT {e : Expr} {u : UT} {pos p2 : Pos} {st : Expr} (he : UE X F e u) (hst : PE X st (tC (.int (-1)))) (ht : ∀ o r, letTemporaryGo e o r = pure () := by intro _ _; rfl) : UE X F (.Subscript e (.Slice none none (some st) p2) pos) (uRevT u) := ⟨PE.imp (pe_revT he.pe hst ht) fun σ H QQ ⟨ρ, Q, f, h, k⟩ => by
 refine ⟨ρ, _, f, h, fun x T H1 ρ1 s1 v1 q1 => ?_⟩
 obtain ⟨Ts, rfl, q⟩ := q1
 obtain ⟨a, ys, rfl, hs, z, p⟩ := v1.seqI
 have p := paired_rev p
 have z' : Ts.reverse.length <= 100000 := by rw [List.length_reverse]; exact z
 refine ⟨rfl, a, ys, rfl, hs, fun l n => ?_⟩
 have r := Raw.tup (K := X.K) n z' p
 exact k _ _ _ _ (s1.trans (Stp.same s1.fr r.1)) (VA.seq (t := true) (SqT.of upd_same) z' (VAs.hs (hs_new n) p)) q⟩
def gLst (K : PySem.W.Frag) (n : Nat) (t : TGs) : TG := fun v σ H Q => ∃ a xs, v = .ref a /\ SqL K H a xs /\ xs.length = n /\ t xs σ H Q
theorem pg_lst {es : List Expr} {k : Nat} {pos : Pos} {t : TGs} {n : Nat} (hc : X.calm = true) (h : PGs X es t)
  (hn : (assignEach es X.env).length = n := by rfl) (hst : (assignEach es X.env).findIdx? (·.1) = none := by rfl) : PG X (.Tuple es k pos) (gLst X.K n t) := by
 intro pins s σ H v u Q I r hw
 obtain ⟨a, xs, e1, hq, hl, hw⟩ := hw
 subst e1
 cases r
 obtain ⟨its, rv, ⟨o, m, e, c, d, dd⟩, hz⟩ := I.list hq
 have ht : s.heap.IsList a its.toArray := ⟨o, e, c, m, dd⟩
 have hs : (assignEach es X.env).length = its.toArray.size := by simp [hn, <- hl, rv.length]
 rw [assign_Tuple]
 refine wpAny_bind (wpAny_standAt ?_)
 unfold unpack
 rw [hs, hst]
 refine wpAny_bind (wpAny_holding (PySem.W.kun_itemsOf (I.ok.hd hc) ht fun h' hx => ?_))
 have I1 : Inv X pins σ H { s with heap := h' } := I.kept (t' := s.toks) fun b o e => hx b o (Nat.ne_of_lt (Heap.lt_size e)) e
 exact h pins _ σ H xs _ Q I1 (by simpa using rv) hw
def gL (n : Nat) (g : UGs) : UG := fun T ρ Q => ∃ Ts, T = .seq false Ts /\ Ts.length = n /\ g Ts ρ Q
theorem ug_lst {m : Nat} {es : List Expr} {k : Nat} {pos : Pos} {g : UGs} (n : Nat) (hc : X.calm = true) (h : UGts X F m es g) (hn : (assignEach es X.env).length = n := by rfl) (hst : (assignEach es X.env).findIdx? (·.1) = none := by rfl) : UGt X F m (.Tuple es k pos) (gL n g) := ⟨PG.imp (pg_lst hc h.pg hn hst) fun v σ H QQ ⟨T, ρ, Q, vv, fr, ⟨Ts, e, el, h⟩, k⟩ => by
 subst e
 obtain ⟨a, xs, rfl, hq, z, p⟩ := vv.seqI
 exact ⟨a, xs, rfl, seq_of hq, (Paired.length p).trans el, Ts, ρ, Q, p, fr, h, k⟩⟩
end
end L2
namespace My
open PySem L2 PyProof.Rows WordM
def top (i : Nat) : Stmt := PySem.Challenge.pw_leastform_k31_what_is_a_form.main.body.getD i (.Pass ⟨0, 0, 0, 0⟩)
abbrev s0_ : Stmt := top 2
abbrev s1_ : Stmt := top 3
abbrev s2_ : Stmt := top 4
abbrev s3_ : Stmt := top 6
abbrev s4_ : Stmt := top 11
abbrev s5_ : Stmt := top 12
abbrev s6_ : Stmt := top 13
abbrev s7_ : Stmt := top 14
abbrev s8_ : Stmt := top 15
abbrev s9_ : Stmt := top 16
abbrev s10_ : Stmt := top 17
abbrev s11_ : Stmt := top 18
abbrev s12_ : Stmt := top 23
abbrev s13_ : Stmt := top 24
abbrev s14_ : Stmt := top 25
abbrev s15_ : Stmt := top 26
abbrev s16_ : Stmt := top 27
abbrev s17_ : Stmt := top 28
abbrev s18_ : Stmt := top 29
abbrev s19_ : Stmt := top 30
abbrev s20_ : Stmt := top 31
abbrev s21_ : Stmt := top 32
abbrev s22_ : Stmt := top 33
abbrev s23_ : Stmt := top 35
abbrev s24_ : Stmt := top 36
abbrev s25_ : Stmt := top 37
abbrev s26_ : Stmt := top 38
abbrev s27_ : Stmt := top 39
abbrev s28_ : Stmt := top 40
abbrev s29_ : Stmt := top 41
abbrev s30_ : Stmt := top 42
abbrev s31_ : Stmt := top 44
abbrev s32_ : Stmt := top 45
abbrev s33_ : Stmt := top 46
abbrev s34_ : Stmt := top 47
abbrev s35_ : Stmt := top 48
abbrev s36_ : Stmt := top 49
abbrev s37_ : Stmt := top 50
abbrev s38_ : Stmt := top 51
section
variable {P : Program} {w : World} {K : PySem.W.Frag} {mg : Str -> Option Value} {base : Heap}
theorem _root_.L2.On.put {p c : Addr} {H : Hp} (d : DeckAt H p c) (S k : Int) : On p c H (upd H p (.lst [.ref c, .int S, .int k])) := by
 obtain ⟨ns, e', l⟩ := d.cs
 exact ⟨⟨d.ne, ⟨S, k, upd_same⟩, ns, by rw [upd_ne d.ne.symm]; exact e', l⟩, fun b o h hp _ => by rw [upd_ne hp]; exact h⟩
theorem _root_.L2.On.cut {p c : Addr} {H : Hp} (d : DeckAt H p c) (ns : List Int) (h : ns.length <= 64) : On p c H (upd H c (.lst (ns.map V.int))) := by
 obtain ⟨S, k, e⟩ := d.dk
 exact ⟨⟨d.ne, ⟨S, k, by rw [upd_ne d.ne]; exact e⟩, ns, upd_same, h⟩, fun b o h _ hc => by rw [upd_ne hc]; exact h⟩
theorem flat_ints (ns : List Int) : (ns.map V.int).all flatV = true := by
 rw [List.all_map]
 exact List.all_eq_true.mpr fun _ _ => rfl
theorem eqVs_nil (ns : List Int) : eqVs (ns.map V.int) [] = ns.isEmpty := by cases ns <;> rfl
theorem sc_mixed : FnScope ["_law_number_here", "_law_k"] ["_law_number_here", "_law_k"] (defScope s23_) := fsc (by decide +kernel)
theorem g_mixed (h : Has K mg "_law_mixed" s23_) : Good P w K mg base 1 "_law_mixed" ["_law_number_here", "_law_k"] spMixed := by
 refine h.good sc_mixed (fun|_,_,_,_,_,_,[_,_],_=>rfl) (fun vs H Q E q => ?_) (fun f cdv A outer s H vs Q E hr q => ?_)
 ·obtain ⟨n, k, rfl, _⟩ := q
  rfl
 ·obtain ⟨n, k, rfl, q⟩ := q
  have nd := sc_mixed.nd
  refine ⟨_, (pss_cons (ps_set (i := 0) nd rfl (by first | exact Or.inl rfl | exact Or.inr rfl) (pe_op op_mod (pe_op op_mul (pe_op op_add (pe_op op_add (pe_op op_mod (pv 0) pe_int) (pe_op op_mul pe_int (pv 1))) pe_int) pe_int) pe_int))
   (pss_cons (ps_set (i := 0) nd rfl (by first | exact Or.inl rfl | exact Or.inr rfl) (pe_op op_mod (pe_op op_add (pe_op op_add (pe_op op_mul (pv 0) (pv 0)) (pe_op op_mul pe_int (pv 1))) pe_int) pe_int))
   (pss_one (ps_ret (pe_op op_fdiv (pe_op op_mod (pe_op op_mul (pe_op op_add (pe_op op_mul (pe_op op_mod (pv 0) pe_int) pe_int) (pe_op op_fdiv (pv 0) pe_int)) pe_int) pe_int) pe_int))))), ?_⟩
  refine ⟨_, rfl, _, _, rfl, rfl, (by show (0 : Int) < _; decide), _, rfl, _, _, rfl, rfl, .inl ⟨by decide, by decide⟩, _, _, rfl, rfl, _, _, rfl, rfl, _, _, rfl, rfl, .inr ⟨by decide, by decide⟩, _, _, rfl, rfl, (by show (0 : Int) < _; decide), ?_⟩
  refine ⟨_, rfl, _, rfl, _, _, rfl, rfl, ?c, _, rfl, _, _, rfl, rfl, .inl ⟨by decide, by decide⟩, _, _, rfl, rfl, _, _, rfl, rfl, _, _, rfl, rfl, (by show (0 : Int) < _; decide), ?_⟩
  case c =>
   refine .inl ⟨?_, ?_⟩
   ·exact Int.lt_of_lt_of_le (by decide) (Int.emod_nonneg _ (by decide))
   ·exact Int.lt_trans (Int.emod_lt_of_pos _ (by decide)) (by decide)
  refine ⟨_, rfl, _, _, rfl, rfl, (by show (0 : Int) < _; decide), _, _, rfl, rfl, .inr ⟨by decide, by decide⟩, _, rfl, _, _, rfl, rfl, ⟨by decide, by decide⟩, _, _, rfl, rfl, _, _, rfl, rfl, .inr ⟨by decide, by decide⟩, _, _, rfl, rfl, (by show (0 : Int) < _; decide), _, _, rfl, rfl, ⟨by decide, by decide⟩, ?_⟩
  exact q _
theorem sc_deck : FnScope ["_law_script", "_law_cells"] ["_law_script"] (defScope s24_) := fsc (by decide +kernel)
theorem cut63 (ns : List Int) : cutV (ns.map V.int) none (some 63) = (ns.take 63).map V.int := by
 unfold cutV
 have e1 : HT.sIx (ns.map V.int).length 0 none = 0 := rfl
 rw [e1, List.drop_zero, Nat.sub_zero, List.map_take]
 by_cases h : ns.length <= 63
 ·rw [List.take_of_length_le (by simp [HT.sIx] <;> omega), List.take_of_length_le (by simpa using h)]
 ·congr 1
  simp [HT.sIx] <;> omega
theorem g_deck (h : Has K mg "_law_deck" s24_) (B : Own mg) : Good P w K mg base 1 "_law_deck" ["_law_script"] (spDeck K) := by
 refine h.good sc_deck (fun|_,_,_,_,_,_,[_],_=>rfl) (fun vs H Q E q => ?_) (fun f cdv A outer s H vs Q E hr q => ?_)
 ·obtain ⟨a, ns, rfl, _⟩ := q
  rfl
 ·obtain ⟨a, ns, rfl, hS, q⟩ := q
  have nd := sc_deck.nd
  refine ⟨_, (pss_cons (ps_set (i := 1) nd rfl (by first | exact Or.inl rfl | exact Or.inr rfl) (pe_callTy call_list_of rfl B.list_ boot_list (pa_c (pe_slice sl_list (pv 0) po_none (po_some pe_int)) pa_nil)))
   (pss_one (ps_ret (@pe_lstQ _ _ _ _ (@qa_c _ _ _ _ _ (pe_rev (pv 1) (pe_un un_neg pe_int)) (@qa_c _ _ _ _ _ (pe_op op_add (pe_callB (call_sumL rfl) rfl B.sum boot_sum (pa_c (pv 1) pa_nil)) (pe_op op_mul pe_int (pe_callB call_len_seq rfl B.len PySem.boot_len (pa_c (pv 1) pa_nil)))) (@qa_c _ _ _ _ _ pe_int qa_nil rfl) rfl) rfl))))), ?_⟩
  refine ⟨_, rfl, _, rfl, a, _, rfl, hS, fun l1 h1 => ?_⟩
  have e1 : upd H l1 (.lst (cutV (ns.map V.int) none (some 63))) = upd H l1 (.lst ((ns.take 63).map V.int)) := by rw [cut63]
  rw [e1]
  refine ⟨l1, _, rfl, .inl (SqL.of upd_same), fun l2 h2 => ?_⟩
  refine ⟨_, rfl, _, rfl, rfl, l2, _, rfl, SqL.of upd_same, fun l3 h3 => ?_⟩
  have n23 : l2 ≠ l3 := ne_of_none upd_same h3
  refine ⟨_, rfl, l2, ns.take 63, rfl, SqL.of (by rw [upd_ne n23]; exact upd_same), _, rfl, l2, _, rfl, .inl (SqL.of (by rw [upd_ne n23]; exact upd_same)), _, _, rfl, rfl, .inl ⟨by decide, by decide⟩, _, _, rfl, rfl, (by show 3 <= sizeLine; decide), fun l4 h4 => ?_⟩
  have n34 : l3 ≠ l4 := ne_of_none upd_same h4
  have f1 : ∀ b o, H b = some o -> upd H l1 (.lst ((ns.take 63).map V.int)) b = some o := fun b o e => by rw [upd_ne (ne_of_none e h1)]; exact e
  have s1 : Same H (upd H l1 (.lst ((ns.take 63).map V.int))) := f1
  have s2 : Same H (upd (upd H l1 (.lst ((ns.take 63).map V.int))) l2 (.lst ((ns.take 63).map V.int))) := fun b o e => by rw [upd_ne (ne_of_none (s1 b o e) h2)]; exact s1 b o e
  have s3 : Same H (upd (upd (upd H l1 (.lst ((ns.take 63).map V.int))) l2 (.lst ((ns.take 63).map V.int))) l3 (.lst ((ns.take 63).map V.int).reverse)) := fun b o e => by rw [upd_ne (ne_of_none (s2 b o e) h3)]; exact s2 b o e
  refine q l4 l3 _ (s3.free h4) (s2.free h3) ⟨n34.symm, ⟨_, _, upd_same⟩, (ns.take 63).reverse, ?_, ?_⟩ fun b o e => ?_
  ·rw [upd_ne n34, upd_same, List.map_reverse]
  ·rw [List.length_reverse, List.length_take]; omega
  ·rw [upd_ne (ne_of_none (s3 b o e) h4)]; exact s3 b o e
theorem sc_take : FnScope ["_law_deck_here", "_law_most", "_law_cell"] ["_law_deck_here", "_law_most"] (defScope s25_) := fsc (by decide +kernel)
theorem g_take (h : Has K mg "_law_take" s25_) (G23_ : Good P w K mg base 1 "_law_mixed" ["_law_number_here", "_law_k"] spMixed) : Good P w K mg base 2 "_law_take" ["_law_deck_here", "_law_most"] spTake := by
 refine h.good sc_take (fun|_,_,_,_,_,_,[_,_],_=>rfl) (fun vs H Q E q => ?_) (fun f cdv A outer s H vs Q E hr q => ?_)
 ·obtain ⟨p, c, m, rfl, _⟩ := q
  rfl
 ·obtain ⟨p, c, m, rfl, d, hm, hB, q⟩ := q
  have nd := sc_take.nd
  have hu := Nat.lt_of_succ_lt (hu_of hr)
  obtain ⟨hne, ⟨S, k, hp⟩, ns, hc, hl⟩ := id d
  refine ⟨_, (pss_cons (ps_asg (pe_op op_add (pe_ix ix_list (pv 0) pe_int (fun _ _ => rfl)) pe_int) (pg_sub (pv 0) pe_int set_list))
   (pss_cons (ps_if (pt_cmpR (op_eqL hu) (pe_ix ix_list (pv 0) pe_int (fun _ _ => rfl)) (@pe_lstQ _ _ _ _ qa_nil) (nomark _))
    (pss_one (ps_ret (pe_op op_mod (pe_fn G23_ (hr.mono (by first | decide | omega)) rfl (pa_c (pe_ix ix_list (pv 0) pe_int (fun _ _ => rfl)) (pa_c (pe_ix ix_list (pv 0) pe_int (fun _ _ => rfl)) pa_nil))) (pv 1))))
    pss_nil)
   (pss_cons (ps_set (i := 2) nd rfl (by first | exact Or.inl rfl | exact Or.inr rfl) (pe_bm0 PySem.F.plainAttrs_list PySem.F.slot_list_pop PySem.F.type_list_pop mt_pop (pe_ix ix_list (pv 0) pe_int (fun _ _ => rfl))))
   (pss_cons (ps_if (pt_cmpR op_lt (pv 2) (pe_op op_pow pe_int pe_int) (nomark _))
    (pss_one (ps_ret (pe_op op_mod (pe_fn G23_ (hr.mono (by first | decide | omega)) rfl (pa_c (pv 2) (pa_c (pe_ix ix_list (pv 0) pe_int (fun _ _ => rfl)) pa_nil))) (pv 1))))
    pss_nil)
   (pss_cons (ps_expr (pe_bm PySem.F.plainAttrs_list PySem.F.slot_list_append PySem.F.type_list_append mt_append (pe_ix ix_list (pv 0) pe_int (fun _ _ => rfl)) (pa_c (pe_op op_fdivL (pv 2) (pv 1)) pa_nil)))
   (pss_one (ps_ret (pe_op op_mod (pv 2) (pv 1))))))))), ?_⟩
  -- deck[2] = deck[2] + 1
  refine ⟨_, rfl, p, _, _, _, rfl, rfl, SqL.of hp, rfl, _, _, rfl, rfl, _, rfl, p, _, _, 2, rfl, rfl, hp, rfl, ?_⟩
  have o1 : On p c H (upd H p (.lst [.ref c, .int S, .int (k + 1)])) := On.put d S (k + 1)
  have hc1 : upd H p (.lst [.ref c, .int S, .int (k + 1)]) c = some (.lst (ns.map V.int)) := by rw [upd_ne hne.symm]; exact hc
  -- if deck[0] == []
  refine ⟨_, rfl, p, _, _, _, rfl, rfl, SqL.of upd_same, rfl, Nat.zero_le _, fun l hfree => ?_⟩
  have npl : p ≠ l := (o1.d.nep hfree).symm
  have ncl : c ≠ l := (o1.d.nec hfree).symm
  have o2 := o1.alloc (o := .lst []) hfree
  have hp2 : upd (upd H p (.lst [.ref c, .int S, .int (k + 1)])) l (.lst []) p = some (.lst [.ref c, .int S, .int (k + 1)]) := by rw [upd_ne npl]; exact upd_same
  have hc2 : upd (upd H p (.lst [.ref c, .int S, .int (k + 1)])) l (.lst []) c = some (.lst (ns.map V.int)) := by rw [upd_ne ncl]; exact hc1
  refine ⟨c, l, _, [], rfl, rfl, SqL.of hc2, SqL.of upd_same, flat_ints ns, rfl, _, rfl, ?_⟩
  rw [show (if false = true then !eqVs (ns.map V.int) [] else eqVs (ns.map V.int) []) = ns.isEmpty from eqVs_nil ns]
  have fin : ∀ r H', On p c H H' -> Q (.int (r % m)) H' := fun r H' o => q (r % m) H' (Int.emod_nonneg _ (by omega)) (Int.emod_lt_of_pos _ hm) o
  rcases List.eq_nil_or_concat ns with e | ⟨init, z, e⟩
  ·subst e
   refine iteT ?_
   refine ⟨_, rfl, p, _, _, _, rfl, rfl, SqL.of hp2, rfl, _, rfl, p, _, _, _, rfl, rfl, SqL.of hp2, rfl, _, _, rfl, fun r => ?_⟩
   exact ⟨_, rfl, _, _, rfl, rfl, hm, fin r _ o2⟩
  ·rw [List.concat_eq_append] at e
   subst e
   rw [show (init ++ [z]).isEmpty = false by simp]
   refine iteF ?_
   have hlast : ((init ++ [z]).map V.int)[((init ++ [z]).map V.int).length - 1]? = some (.int z) := by simp
   have hdrop : ((init ++ [z]).map V.int).dropLast = init.map V.int := by simp
   -- cell = deck[0].pop()
   refine ⟨_, rfl, p, _, _, _, rfl, rfl, SqL.of hp2, rfl, .inl ⟨rfl, _, SqL.of hc2⟩, c, _, _, rfl, rfl, hc2, hlast, ?_⟩
   rw [hdrop]
   have hli : init.length <= 63 := by rw [List.length_append, List.length_singleton] at hl; omega
   have o3 := o2.trans (On.cut o2.d init (by omega))
   have hp3 : upd (upd (upd H p (.lst [.ref c, .int S, .int (k + 1)])) l (.lst [])) c (.lst (init.map V.int)) p = some (.lst [.ref c, .int S, .int (k + 1)]) := by rw [upd_ne hne]; exact hp2
   -- if cell < 10 ** 18
   refine ⟨_, rfl, _, _, rfl, rfl, ⟨by decide, by decide, by decide⟩, _, _, rfl, rfl, _, rfl, ?_⟩
   refine ite2 (fun _ => ?_) (fun _ => ?_)
   ·refine ⟨_, rfl, _, rfl, p, _, _, _, rfl, rfl, SqL.of hp3, rfl, _, _, rfl, fun r => ?_⟩
    exact ⟨_, rfl, _, _, rfl, rfl, hm, fin r _ o3⟩
   ·refine ⟨_, rfl, p, _, _, _, rfl, rfl, SqL.of hp3, rfl, .inl ⟨rfl, _, SqL.of upd_same⟩, _, rfl, _, rfl, _, _, rfl, rfl, ⟨hm, hB⟩, c, _, _, rfl, rfl, upd_same, small1000 (by rw [List.length_map]; omega), ?_⟩
    rw [show init.map V.int ++ [V.int (z / m)] = (init ++ [z / m]).map V.int by simp]
    have o4 := o3.trans (On.cut o3.d (init ++ [z / m]) (by rw [List.length_append, List.length_singleton]; omega))
    exact ⟨_, rfl, _, rfl, _, _, rfl, rfl, hm, fin z _ o4⟩
end
end My
namespace My
open PySem L2 PyProof.Rows WordM
section
variable {P : Program} {w : World} {K : PySem.W.Frag} {mg : Str -> Option Value} {base : Heap}
def ptSigns : PSp := fun as R => as = [] /\ R (sT SIG)
theorem C26_ : FnScope ["_law_signs_here"] [] (defScope s26_) := fsc (by decide +kernel)
theorem g26_ (h : Has K mg "_law_signs" s26_) (B : Own mg)    : PGood P w K mg base 1 "_law_signs" [] ptSigns := by
 have nd := C26_.nd
 refine h.pgood C26_ (fun|_,_,_,_,_,_,[],_=>rfl) (fun f cdv A outer s H E F hr =>
   (us_cons (us_set (i := 0) nd rfl (.inl rfl) ue_str)
   (us_one (us_ret (ue_op pu_add (ue_var 0) ue_str))))) (fun as R q => ?_)
 obtain ⟨rfl, q⟩ := q
 exact ⟨rfl, show sigA.length + sigB.length <= 100000 by decide +kernel, q⟩
def ptText : PSp := fun as R => ∃ m : Int, as = [.dk, .va (iT m)] /\ 0 <= m /\ m <= 1000 /\ ∀ x : Str, Sg x -> (x.length : Int) <= m -> R (sT x)
theorem at_sgn {z : Str} {r : Int} (h0 : 0 <= r) (h1 : r < z.length) : ∃ c, atI z.cps.toList r = some c /\ c ∈ cs z := by
 have hl : r.toNat < (cs z).length := by rw [<- WordM.len]; omega
 refine ⟨(cs z)[r.toNat], ?_, List.getElem_mem hl⟩
 have := atI_nat (xs := cs z) (j := r.toNat) (List.getElem?_eq_getElem hl)
 rw [show ((r.toNat : Nat) : Int) = r by omega] at this
 exact this
theorem menu {α : Type} {l : List α} {r : Int} (h0 : 0 <= r) (h1 : r < l.length) : ∃ m, atI l r = some m /\ m ∈ l := by
 have hl : r.toNat < l.length := by omega
 refine ⟨l[r.toNat], ?_, List.getElem_mem hl⟩
 have := atI_nat (xs := l) (j := r.toNat) (List.getElem?_eq_getElem hl)
 rw [show ((r.toNat : Nat) : Int) = r by omega] at this
 exact this
theorem C27_ : FnScope ["_law_deck_here", "_law_most", "_law_signs_here", "_law_some", "_law_text_here", "_law_k"] ["_law_deck_here", "_law_most"] (defScope s27_) := fsc (by decide +kernel)
theorem g27_ (h : Has K mg "_law_text" s27_) (B : Own mg) (G26_ : PGood P w K mg base 1 "_law_signs" [] ptSigns) (G25_ : PGood P w K mg base 2 "_law_take" ["_law_deck_here", "_law_most"] ptTake)   : PGood P w K mg base 3 "_law_text" ["_law_deck_here", "_law_most"] ptText := by
 have nd := C27_.nd
 refine h.pgood C27_ (fun|_,_,_,_,_,_,[_,_],_=>rfl) (fun f cdv A outer s H E F hr =>
   (us_cons (us_set (i := 2) nd rfl (.inl rfl) (ue_fn0 G26_ (hr.mono (by omega)) rfl))
   (us_cons (us_set (i := 3) nd rfl (.inl rfl) (ue_ix (pu_ix hr.units) (ue_ul (ul_lst (ua_c (ue_var 2) (ua_c (ue_var 2) (ua_c ue_str (ua_c ue_str (ua_c ue_str (ua_c ue_str ua_nil)))))))) (ue_fn G25_ (hr.mono (by omega)) rfl (ua_dk 0 (ua_c ue_int ua_nil)))))
   (us_cons (us_set (i := 4) nd rfl (.inl rfl) ue_str)
   (us_cons (us_for (m := 6) PassesOwn.never rfl (ui_range1 rfl B.range (ua_c (ue_fn G25_ (hr.mono (by omega)) rfl (ua_dk 0 (ua_c (ue_op pu_add (ue_var 1) ue_int) ua_nil))) ua_nil)) (ug_name 5 (by decide) nd rfl (.inl rfl))
    (us_one (us_set (i := 4) nd rfl (.inl rfl) (ue_op pu_add (ue_var 4) (ue_ix (pu_ix hr.units) (ue_var 3) (ue_fn G25_ (hr.mono (by omega)) rfl (ua_dk 0 (ua_c (ue_callB pu_len rfl B.len PySem.boot_len (ua_c (ue_var 3) ua_nil)) ua_nil))))))))
   (us_one (us_ret (ue_var 4)))))))) (fun as R q => ?_)
 obtain ⟨m, rfl, m0, m1, q⟩ := q
 refine ⟨rfl, rfl, ?_⟩
 refine ⟨by decide, rfl, 6, rfl, by decide, big_of (by decide) (by decide), fun r r0 r6 => ?_⟩
 obtain ⟨z, hz, hzm⟩ := menu (l := [sT SIG, sT SIG, sT "0123456789", sT "abc", sT "XYZ", sT "a1"]) r0 r6
 refine ⟨z, hz, ?_⟩
 have hzs : ∃ y, z = sT y /\ Sg y /\ 0 < y.length /\ y.length <= 100 := by
  simp only [List.mem_cons, List.not_mem_nil, or_false] at hzm
  rcases hzm with e | e | e | e | e | e <;> subst e
  ·exact ⟨_, rfl, fun _ h => h, by decide +kernel, by decide +kernel⟩
  ·exact ⟨_, rfl, fun _ h => h, by decide +kernel, by decide +kernel⟩
  ·exact ⟨_, rfl, by decide +kernel, by decide +kernel, by decide +kernel⟩
  ·exact ⟨_, rfl, by decide +kernel, by decide +kernel, by decide +kernel⟩
  ·exact ⟨_, rfl, by decide +kernel, by decide +kernel, by decide +kernel⟩
  ·exact ⟨_, rfl, by decide +kernel, by decide +kernel, by decide +kernel⟩
 clear hz hzm
 obtain ⟨y, rfl, y1, y2, y3⟩ := hzs
 refine ⟨rfl, m + 1, rfl, by omega, big_of (by omega) (by omega), fun n n0 n1 => ⟨n, rfl, by omega, by omega, ?_⟩⟩
 refine forT_inv (fun i ρ => ∃ (x : Str) (s : Sl), Sg x /\ x.length = i /\ ρ = [.dk, .va (iT m), .va (sT SIG), .va (sT y), .va (sT x), s]) ⟨⟨#[]⟩, .no, sg_nil, rfl, rfl⟩ ?_ ?_
 ·rintro i T _ N hT ⟨x, s, sx, lx, rfl⟩ hN
  have hi := (rngT_get hT).1
  refine ⟨rfl, by omega, ?_⟩
  refine ⟨y.length, rfl, by omega, big_of (by omega) (by omega), fun k k0 k1 => ⟨by omega, ?_⟩⟩
  obtain ⟨c, hc, hcm⟩ := at_sgn (z := y) k0 k1
  refine ⟨c, hc, by show x.length + 1 <= 100000; omega, hN _ ⟨x ++ ⟨#[c]⟩, _, sx.app (y1.one hcm), ?_, rfl⟩⟩
  rw [WordM.len, WordM.app, List.length_append, <- WordM.len, lx]
  rfl
 ·rintro _ ⟨x, s, sx, lx, rfl⟩
  refine q x sx ?_
  rw [lx, rngT_len]
  omega
end
section
variable {P : Program} {w : World} {K : PySem.W.Frag} {mg : Str -> Option Value} {base : Heap}
theorem sg_sig (a : Int) : Sg ⟨#[sigAt a]⟩ := fun cc hc => by
 have e : cc = sigAt a := by simpa using hc
 rw [e]
 exact sigAt_mem _
def Txts (m : Int) (ss : List Str) : Prop := ss.Nodup /\ ∀ s ∈ ss, Sg s /\ (s.length : Int) <= (if m < 1 then 1 else m)
def ptUnlike : PSp := fun as R => ∃ n m : Int, as = [.dk, .va (iT n), .va (iT m)] /\ 0 <= n /\ n <= 63 /\ 0 <= m /\ m <= 1000 /\ ∀ ss : List Str, (ss.length : Int) = n -> Txts m ss -> R (.seq false (ss.map sT))
theorem C28_ : FnScope ["_law_deck_here", "_law_many", "_law_most", "_law_signs_here", "_law_found", "_law_k", "_law_text_here", "_law_at"] ["_law_deck_here", "_law_many", "_law_most"] (defScope s28_) := fsc (by decide +kernel)
theorem g28_ (h : Has K mg "_law_unlike" s28_) (B : Own mg) (G26_ : PGood P w K mg base 1 "_law_signs" [] ptSigns) (G27_ : PGood P w K mg base 3 "_law_text" ["_law_deck_here", "_law_most"] ptText)   : PGood P w K mg base 4 "_law_unlike" ["_law_deck_here", "_law_many", "_law_most"] ptUnlike := by
 have nd := C28_.nd
 refine h.pgood C28_ (fun|_,_,_,_,_,_,[_,_,_],_=>rfl) (fun f cdv A outer s H E F hr =>
   (us_cons (us_set (i := 3) nd rfl (.inl rfl) (ue_fn0 G26_ (hr.mono (by omega)) rfl))
   (us_cons (us_own (i := 4) nd rfl (.inl rfl) (ul_lst ua_nil))
   (us_cons (us_for (m := 8) PassesOwn.never rfl (ui_range1 rfl B.range (ua_c (ue_var 1) ua_nil)) (ug_name 5 (by decide) nd rfl (.inl rfl))
    (us_cons (us_set (i := 6) nd rfl (.inl rfl) (ue_fn G27_ (hr.mono (by omega)) rfl (ua_dk 0 (ua_c (ue_var 2) ua_nil))))
    (us_cons (us_set (i := 7) nd rfl (.inl rfl) (ue_bmS PySem.F.slot_str_find PySem.F.type_str_find pm_find (ue_var 3) (ua_c (ue_slice pu_sl (ue_var 6) uo_none (uo_some ue_int)) ua_nil)))
    (us_cons (us_while PassesOwn.never (ub_peek fun F => (ub_cmp (pu_in hr.units) (ue_var 6) (ue_var 4) rfl))
     (us_cons (us_set (i := 7) nd rfl (.inl rfl) (ue_op pu_mod (ue_op pu_add (ue_var 7) ue_int) (ue_callB pu_len rfl B.len PySem.boot_len (ua_c (ue_var 3) ua_nil))))
     (us_one (us_set (i := 6) nd rfl (.inl rfl) (ue_op pu_add (ue_ix (pu_ix hr.units) (ue_var 3) (ue_var 7)) (ue_slice pu_sl (ue_var 6) (uo_some ue_int) uo_none))))))
    (us_one (us_expr (ue_append 4 (ue_var 6))))))))
   (us_one (us_ret (ue_var 4))))))) (fun as R q => ?_)
 obtain ⟨n, m, rfl, n0, n63, m0, m1, q⟩ := q
 have hsl : SIG.length = 94 := sig_len
 refine ⟨rfl, rfl, by decide, n, rfl, by omega, by omega, ?_⟩
 refine forT_inv (fun i ρ => ∃ (ss : List Str) (s5 s6 s7 : Sl), ss.length = i /\ Txts m ss /\ ρ = [.dk, .va (iT n), .va (iT m), .va (sT SIG), .own (ss.map sT), s5, s6, s7]) ⟨[], .no, .no, .no, rfl, ⟨List.nodup_nil, fun s hs => nomatch hs⟩, rfl⟩ ?_ ?_
 ·rintro i T _ N hT ⟨ss, s5, s6, s7, hlen, htx, rfl⟩ hN
  obtain ⟨hi, rfl⟩ := rngT_get hT
  refine ⟨rfl, m, rfl, m0, m1, fun x0 sx0 hx0 => ?_⟩
  refine ⟨rfl, 1, rfl, by omega, SIG, _, rfl, rfl, fun a0 => ?_⟩
  let r : Str := Txt.slice x0 (some 1) none
  have hr1 : r.length + 1 <= (if x0.length < 1 then 1 else x0.length) := slice1_len x0
  have sr : Sg r := sx0.slice _ _
  refine ⟨fun M ρ => ∃ (j : Nat) (x : Str), M + j = ss.length + 2 /\ j <= ss.length + 1 /\ (∀ i, 1 <= i -> i < j -> tryT a0 r i ∈ ss) /\ (j = 0 /\ x = x0 \/ 1 <= j /\ x = tryT a0 r j) /\
    ρ = [.dk, .va (iT n), .va (iT m), .va (sT SIG), .own (ss.map sT), .va (iT (0 + (i : Int))), .va (sT x), .va (iT (if j = 0 then a0 else (a0 + j) % 94))],
   ⟨ss.length + 2, 0, x0, rfl, Nat.zero_le _, fun i h1 h2 => absurd h2 (Nat.not_lt_zero _), .inl ⟨rfl, rfl⟩, rfl⟩, ?_⟩
  rintro M _ ⟨j, x, hM, hj, htr, hx, rfl⟩
  have hxl : Sg x /\ (x.length : Int) <= (if m < 1 then 1 else m) /\ Txt.slice x (some 1) none = r := by
   rcases hx with ⟨_, rfl⟩ | ⟨_, rfl⟩
   ·refine ⟨sx0, ?_, rfl⟩
    split <;> omega
   ·refine ⟨Sg.app (sg_sig _) sr, ?_, slice_tail⟩
    have : (tryT a0 r j).length = r.length + 1 := by
     unfold tryT
     rw [WordM.len, WordM.app, WordM.len, List.length_append]
     simp
     omega
    rw [this]
    split at hr1 <;> split <;> omega
  obtain ⟨sx, hxm, hxr⟩ := hxl
  have hx1000 : x.length <= 1000 := by split at hxm <;> omega
  refine ⟨inok_str, _, rfl, ?_⟩
  rw [any_str]
  refine sif (fun h1 => ?_) (fun h1 => ?_)
  ·have h1 : x ∈ ss := by simpa using h1
   have hall : ∀ i, 1 <= i -> i <= j -> tryT a0 r i ∈ ss := fun i i1 i2 => by
    rcases Nat.lt_or_eq_of_le i2 with z | z
    ·exact htr i i1 z
    ·rcases hx with ⟨z0, _⟩ | ⟨_, e⟩
     ·omega
     ·rw [z, <- e]; exact h1
   have hjs : j <= ss.length := tried_le (by omega) hall
   have hmod : ((if j = 0 then a0 else (a0 + (j : Int)) % 94) + 1) % 94 = (a0 + ((j + 1 : Nat) : Int)) % 94 := by
    split
    ·rename_i z; subst z; congr 1
    ·push_cast; omega
   have hsl' : ((SIG.length : Nat) : Int) = 94 := by rw [hsl]; rfl
   have e1 : ((if j = 0 then a0 else (a0 + (j : Int)) % 94) + 1) % ((SIG.length : Nat) : Int) = (a0 + ((j + 1 : Nat) : Int)) % 94 := by rw [hsl', hmod]
   have hat : atI SIG.cps.toList (((if j = 0 then a0 else (a0 + (j : Int)) % 94) + 1) % ((SIG.length : Nat) : Int)) = some (sigAt (a0 + ((j + 1 : Nat) : Int))) := by
    rw [e1]
    have b1 := Int.emod_lt_of_pos (a0 + ((j + 1 : Nat) : Int)) (show (0 : Int) < 94 by decide)
    have b2 := Int.emod_nonneg (a0 + ((j + 1 : Nat) : Int)) (show (94 : Int) ≠ 0 by decide)
    have hlt : ((a0 + ((j + 1 : Nat) : Int)) % 94).toNat < (cs SIG).length := by rw [<- WordM.len]; omega
    have := atI_nat (xs := cs SIG) (j := ((a0 + ((j + 1 : Nat) : Int)) % 94).toNat) (List.getElem?_eq_getElem hlt)
    rw [show ((((a0 + ((j + 1 : Nat) : Int)) % 94).toNat : Nat) : Int) = (a0 + ((j + 1 : Nat) : Int)) % 94 by omega] at this
    rw [this]
    unfold sigAt
    rw [List.getD_eq_getElem?_getD, List.getElem?_eq_getElem hlt]
    rfl
   refine ⟨by omega, by omega, by omega, _, hat, 1, rfl, by omega, ?_, ?_⟩
   ·show 1 + (Txt.slice x (some 1) none).length <= 100000
    rw [hxr]
    split at hr1 <;> omega
   ·refine ⟨ss.length + 2 - (j + 1), by omega, j + 1, tryT a0 r (j + 1), by omega, by omega, fun i i1 i2 => hall i i1 (by omega), .inr ⟨by omega, rfl⟩, ?_⟩
    show [Sl.dk, .va (iT n), .va (iT m), .va (sT SIG), .own (ss.map sT), .va (iT (0 + (i : Int))), .va (sT ((⟨#[sigAt (a0 + ((j + 1 : Nat) : Int))]⟩ : Str) ++ Txt.slice x (some 1) none)), .va (iT (((if j = 0 then a0 else (a0 + (j : Int)) % 94) + 1) % ((SIG.length : Nat) : Int)))] = _
    rw [e1, if_neg (by omega), hxr]
    rfl
  ·have h1 : x ∉ ss := by simpa using h1
   refine ⟨⟨_, rfl⟩, _, rfl, by rw [List.length_map]; omega, hN _ ⟨ss ++ [x], .va (iT (0 + (i : Int))), .va (sT x), .va (iT (if j = 0 then a0 else (a0 + j) % 94)), by rw [List.length_append, hlen]; rfl, ⟨?_, fun s hs => ?_⟩, ?_⟩⟩
   ·rw [List.nodup_append]
    exact ⟨htx.1, by simp, fun a ha b hb => by rw [List.mem_singleton] at hb; subst hb; rintro rfl; exact h1 ha⟩
   ·rcases List.mem_append.mp hs with z | z
    ·exact htx.2 s z
    ·rw [List.mem_singleton] at z; subst z; exact ⟨sx, hxm⟩
   ·rw [List.map_append]; rfl
 ·rintro _ ⟨ss, s5, s6, s7, hlen, htx, rfl⟩
  rw [rngT_len] at hlen
  exact q ss (by omega) htx
def ptFar : PSp := fun as R => as = [.dk] /\ ∀ r : Int, -(10 ^ 60) < r -> r < 10 ^ 60 -> R (iT r)
theorem C29_ : FnScope ["_law_deck_here", "_law_number_here", "_law_k"] ["_law_deck_here"] (defScope s29_) := fsc (by decide +kernel)
theorem g29_ (h : Has K mg "_law_far" s29_) (B : Own mg) (G25_ : PGood P w K mg base 2 "_law_take" ["_law_deck_here", "_law_most"] ptTake)   : PGood P w K mg base 3 "_law_far" ["_law_deck_here"] ptFar := by
 have nd := C29_.nd
 refine h.pgood C29_ (fun|_,_,_,_,_,_,[_],_=>rfl) (fun f cdv A outer s H E F hr =>
   (us_cons (us_set (i := 1) nd rfl (.inl rfl) ue_int)
   (us_cons (us_for (m := 3) PassesOwn.never rfl (ui_range1 rfl B.range (ua_c ue_int ua_nil)) (ug_name 2 (by decide) nd rfl (.inl rfl))
    (us_one (us_set (i := 1) nd rfl (.inl rfl) (ue_op pu_add (ue_op pu_mul2 (ue_var 1) (ue_op pu_pow ue_int ue_int)) (ue_fn G25_ (hr.mono (by omega)) rfl (ua_dk 0 (ua_c (ue_op pu_pow ue_int ue_int) ua_nil)))))))
   (us_one (us_ret (ue_op pu_add (ue_op pu_sub (ue_op pu_mod (ue_var 1) (ue_op pu_sub (ue_op pu_mul2 ue_int (ue_op pu_pow ue_int ue_int)) ue_int)) (ue_op pu_pow ue_int ue_int)) ue_int)))))) (fun as R q => ?_)
 obtain ⟨rfl, q⟩ := q
 refine ⟨rfl, 8, rfl, by decide, by decide, ?_⟩
 refine forT_inv (fun i ρ => ∃ (x : Int) (s : Sl), 0 <= x /\ x < 10 ^ (8 * i) /\ ρ = [.dk, .va (iT x), s]) ⟨0, .no, by decide, by decide, rfl⟩ ?_ ?_
 ·rintro i T _ N hT ⟨x, s, x0, x1, rfl⟩ hN
  obtain ⟨hi, rfl⟩ := rngT_get hT
  have hi : i < 8 := hi
  have xb : x < 10 ^ 64 := Int.lt_of_lt_of_le x1 (by
   have : i = 0 \/ i = 1 \/ i = 2 \/ i = 3 \/ i = 4 \/ i = 5 \/ i = 6 \/ i = 7 := by omega
   rcases this with e | e | e | e | e | e | e | e <;> subst e <;> decide)
  refine ⟨⟨by decide, by decide, by decide⟩, .inr ⟨big_of (by omega) (by omega), big_of (by decide) (by decide)⟩, rfl, ⟨by decide, by decide, by decide⟩, 10 ^ 8, rfl, by decide, big_of (by decide) (by decide), fun r r0 r1 => hN _ ⟨_, _, ?_, ?_, rfl⟩⟩
  ·show 0 <= x * (10 ^ 8 : Int) + r
   omega
  ·show x * (10 ^ 8 : Int) + r < 10 ^ (8 * (i + 1))
   have e : (10 : Int) ^ (8 * (i + 1)) = 10 ^ (8 * i) * 10 ^ 8 := by rw [Nat.mul_add, Int.pow_add]
   rw [e]
   have h8 : r < (10 : Int) ^ 8 := r1
   generalize (10 : Int) ^ (8 * i) = y at x1
   omega
 ·rintro _ ⟨x, s, x0, x1, rfl⟩
  refine ⟨⟨by decide, by decide, by decide⟩, .inl (.inl ⟨by decide, by decide⟩), (show (0 : Int) < 2 * 10 ^ 60 - 1 by decide), ⟨by decide, by decide, by decide⟩, ?_⟩
  have h1 := Int.emod_nonneg x (show (2 * 10 ^ 60 - 1 : Int) ≠ 0 by decide)
  have h2 := Int.emod_lt_of_pos x (show (0 : Int) < 2 * 10 ^ 60 - 1 by decide)
  refine q _ ?_ ?_
  ·show -(10 ^ 60) < x % (2 * 10 ^ 60 - 1) - 10 ^ 60 + 1
   omega
  ·show x % (2 * 10 ^ 60 - 1) - 10 ^ 60 + 1 < 10 ^ 60
   omega
end
section
variable {P : Program} {w : World} {K : PySem.W.Frag} {mg : Str -> Option Value} {base : Heap}
structure WorldOk (nm tx : List Str) (st sp : Int) : Prop where
 n11 : nm.length = 11
 t9 : tx.length = 9
 nd : nm.Nodup
 ndt : tx.Nodup
 ns : ∀ s ∈ nm, Sg s /\ s.length <= 40
 ts : ∀ s ∈ tx, Sg s /\ s.length <= 43
 st1 : -(10 ^ 57) <= st
 st2 : st <= 10 ^ 57
 sp1 : 1 <= sp
 sp2 : sp <= 10 ^ 20
def worldT (nm tx : List Str) (st sp : Int) : Tv := .seq false [.seq false (nm.map sT), .seq false (tx.map sT), iT st, iT sp]
def ptWorld : PSp := fun as R => as = [.dk] /\ ∀ nm tx st sp, WorldOk nm tx st sp -> R (worldT nm tx st sp)
theorem app_inj {a b c : Str} (h : a ++ b = a ++ c) : b = c := by
 have := congrArg cs h
 rw [WordM.app, WordM.app] at this
 exact str_ext (List.append_cancel_left this)
theorem C30_ : FnScope ["_law_deck_here", "_law_most", "_law_names", "_law_head", "_law_texts", "_law_start"] ["_law_deck_here"] (defScope s30_) := fsc (by decide +kernel)
theorem g30_ (h : Has K mg "_law_world" s30_) (B : Own mg) (G25_ : PGood P w K mg base 2 "_law_take" ["_law_deck_here", "_law_most"] ptTake) (G28_ : PGood P w K mg base 4 "_law_unlike" ["_law_deck_here", "_law_many", "_law_most"] ptUnlike) (G27_ : PGood P w K mg base 3 "_law_text" ["_law_deck_here", "_law_most"] ptText) (G29_ : PGood P w K mg base 3 "_law_far" ["_law_deck_here"] ptFar)   : PGood P w K mg base 5 "_law_world" ["_law_deck_here"] ptWorld := by
 have nd := C30_.nd
 refine h.pgood C30_ (fun|_,_,_,_,_,_,[_],_=>rfl) (fun f cdv A outer s H E F hr =>
   (us_cons (us_set (i := 1) nd rfl (.inl rfl) (ue_ix (pu_ix hr.units) (ue_ul (ul_lst (ua_c ue_int (ua_c ue_int (ua_c ue_int (ua_c ue_int (ua_c ue_int (ua_c ue_int (ua_c ue_int (ua_c ue_int ua_nil)))))))))) (ue_fn G25_ (hr.mono (by omega)) rfl (ua_dk 0 (ua_c ue_int ua_nil)))))
   (us_cons (us_set (i := 2) nd rfl (.inl rfl) (ue_fn G28_ (hr.mono (by omega)) rfl (ua_dk 0 (ua_c ue_int (ua_c (ue_var 1) ua_nil)))))
   (us_cons (us_set (i := 3) nd rfl (.inr rfl) (ue_fn G27_ (hr.mono (by omega)) rfl (ua_dk 0 (ua_c (ue_op pu_mul2 ue_int (ue_fn G25_ (hr.mono (by omega)) rfl (ua_dk 0 (ua_c ue_int ua_nil)))) ua_nil))))
   (us_cons (us_setc (i := 4) (sc := defScope s30_) (XN := ["_law_deck_here", "_law_most", "_law_names", "_law_head", "_law_texts", "_law_start"]) (N := ["_law_text_here", "_law_head"]) (own := 1) (fr := [3]) rfl nd rfl (.inl rfl) ⟨rfl, by decide +kernel, by decide +kernel, by decide +kernel, rfl, by decide +kernel, by decide, by decide +kernel⟩ (by decide) (ui_val (ue_fn G28_ (hr.mono (by omega)) rfl (ua_dk 0 (ua_c ue_int (ua_c (ue_var 1) ua_nil))))) (fun _ _ _ _ _ => (ug_name 0 (by decide) (show (["_law_text_here", "_law_head"] : List Str).Nodup by decide +kernel) rfl (by first | exact Or.inl rfl | exact Or.inr rfl))) (fun _ _ _ _ _ => uf_nil) (fun _ _ _ _ _ => (ue_op pu_add (ue_var 1) (ue_var 0))))
   (us_cons (us_set (i := 5) nd rfl (.inl rfl) (ue_ix (pu_ix hr.units) (ue_ul (ul_lst (ua_c ue_int (ua_c ue_int (ua_c (ue_un pu_neg ue_int) (ua_c (ue_op pu_fdiv (ue_fn G29_ (hr.mono (by omega)) rfl (ua_dk 0 ua_nil)) ue_int) ua_nil)))))) (ue_fn G25_ (hr.mono (by omega)) rfl (ua_dk 0 (ua_c ue_int ua_nil)))))
   (us_one (us_ret (ue_ul (ul_lst (ua_c (ue_var 2) (ua_c (ue_var 4) (ua_c (ue_var 5) (ua_c (ue_op pu_add ue_int (ue_fn G25_ (hr.mono (by omega)) rfl (ua_dk 0 (ua_c (ue_ix (pu_ix hr.units) (ue_ul (ul_lst (ua_c ue_int (ua_c (ue_op pu_pow ue_int ue_int) ua_nil)))) (ue_fn G25_ (hr.mono (by omega)) rfl (ua_dk 0 (ua_c ue_int ua_nil)))) ua_nil)))) ua_nil)))))))))))))) (fun as R q => ?_)
 obtain ⟨rfl, q⟩ := q
 refine ⟨rfl, by decide, rfl, 8, rfl, by decide, big_of (by decide) (by decide), fun r r0 r1 => ?_⟩
 obtain ⟨M, hM, hMm⟩ := menu (l := [iT 4, iT 3, iT 5, iT 1, iT 4, iT 3, iT 6, iT 40]) r0 r1
 have hm : ∃ m : Int, M = iT m /\ 1 <= m /\ m <= 40 := by
  simp only [List.mem_cons, List.not_mem_nil, or_false] at hMm
  rcases hMm with e | e | e | e | e | e | e | e <;> subst e <;> exact ⟨_, rfl, by decide, by decide⟩
 obtain ⟨m, rfl, m1, m2⟩ := hm
 refine ⟨_, hM, ?_⟩
 clear hM hMm
 refine ⟨rfl, 11, m, rfl, by decide, by decide, by omega, by omega, fun nm hnm tnm => ?_⟩
 refine ⟨rfl, rfl, 2, rfl, by decide, big_of (by decide) (by decide), fun r2 a0 a1 => ⟨.inl (.inl ⟨by decide, by decide⟩), _, rfl, by omega, by omega, fun hd shd lhd => ?_⟩⟩
 refine ⟨rfl, 9, m, rfl, by decide, by decide, by omega, by omega, fun tx htx ttx => ⟨by rw [List.length_map]; omega, ?_⟩⟩
 have lt : ∀ s ∈ tx, Sg s /\ s.length <= 40 := fun s hs => by
  have := ttx.2 s hs
  refine ⟨this.1, ?_⟩
  have := this.2
  split at this <;> omega
 refine compT_of sT (fun s => sT (hd ++ s)) (fun s hs R q => ?_) ?_
 ·have := (lt s hs).2
  exact ⟨show hd.length + s.length <= 100000 by omega, q⟩
 refine ⟨rfl, rfl, fun fr fr0 fr1 => ⟨⟨by decide, big_of (by decide) (by decide)⟩, (show 4 <= 100000 by decide), rfl, 4, rfl, by decide, big_of (by decide) (by decide), fun r3 b0 b1 => ?_⟩⟩
 obtain ⟨S, hS, hSm⟩ := menu (l := [iT 0, iT 7, iT (-40), iT (fr / 1000)]) b0 b1
 have hs : ∃ st : Int, S = iT st /\ -(10 ^ 57) <= st /\ st <= 10 ^ 57 := by
  simp only [List.mem_cons, List.not_mem_nil, or_false] at hSm
  rcases hSm with e | e | e | e <;> subst e
  ·exact ⟨_, rfl, by decide, by decide⟩
  ·exact ⟨_, rfl, by decide, by decide⟩
  ·exact ⟨_, rfl, by decide, by decide⟩
  ·exact ⟨_, rfl, by omega, by omega⟩
 obtain ⟨st, rfl, st1, st2⟩ := hs
 refine ⟨_, hS, ?_⟩
 clear hS hSm
 refine ⟨rfl, ⟨by decide, by decide, by decide⟩, by decide, rfl, 2, rfl, by decide, big_of (by decide) (by decide), fun r4 c0 c1 => ?_⟩
 obtain ⟨W, hW, hWm⟩ := menu (l := [iT 6, iT (10 ^ 20)]) c0 c1
 have hw : ∃ wi : Int, W = iT wi /\ 1 <= wi /\ wi <= 10 ^ 20 := by
  simp only [List.mem_cons, List.not_mem_nil, or_false] at hWm
  rcases hWm with e | e <;> subst e <;> exact ⟨_, rfl, by decide, by decide⟩
 obtain ⟨wi, rfl, w1, w2⟩ := hw
 refine ⟨_, hW, wi, rfl, by omega, big_of (by omega) (by omega), fun sp sp0 sp1 => ⟨(show 4 <= 100000 by decide), ?_⟩⟩
 have := q nm (tx.map fun s => hd ++ s) st (1 + sp) ⟨by omega, by rw [List.length_map]; omega, tnm.1, ?_, fun s hs => ?_, fun s hs => ?_, st1, st2, by omega, by omega⟩
 ·show R (.seq false [.seq false (nm.map sT), .seq false (tx.map fun s => sT (hd ++ s)), iT st, iT (1 + sp)])
  rw [worldT, List.map_map] at this
  exact this
 ·unfold List.Nodup
  rw [List.pairwise_map]
  exact ttx.1.imp fun h e => h (app_inj e)
 ·have := tnm.2 s hs
  refine ⟨this.1, ?_⟩
  have := this.2
  split at this <;> omega
 ·obtain ⟨z, hz, rfl⟩ := List.mem_map.mp hs
  refine ⟨shd.app (lt z hz).1, ?_⟩
  rw [WordM.len, WordM.app, List.length_append, <- WordM.len, <- WordM.len]
  have := (lt z hz).2
  omega
end
end My
namespace My
open PySem L2 PyProof.Rows WordM
section
variable {P : Program} {w : World} {K : PySem.W.Frag} {mg : Str -> Option Value} {base : Heap}
def okU (U : Tv) : Prop := ∀ v, U = .leaf v -> flatV v = true
def isW : Tv -> Bool
 | .leaf (.int _) => true
 | _ => false
theorem anyU {U : Tv} (h : okU U) : U = nT \/ (∃ b, U = bT b) \/ (∃ i, U = iT i) \/ (∃ s, U = sT s) \/ (∃ t xs, U = .seq t xs) \/ ∃ kts, U = .dct kts := by
 cases U with
 | leaf v =>
  rcases flat_cases (h v rfl) with rfl | ⟨b, rfl⟩ | ⟨b, rfl⟩ | ⟨b, rfl⟩
  ·exact .inl rfl
  ·exact .inr (.inl ⟨_, rfl⟩)
  ·exact .inr (.inr (.inl ⟨_, rfl⟩))
  ·exact .inr (.inr (.inr (.inl ⟨_, rfl⟩)))
 | seq t xs => exact .inr (.inr (.inr (.inr (.inl ⟨_, _, rfl⟩))))
 | dct k => exact .inr (.inr (.inr (.inr (.inr ⟨_, rfl⟩))))
def ptWhole : PSp := fun as R => ∃ U, as = [.va U] /\ okU U /\ R (bT (isW U))
theorem C0_ : FnScope ["thing"] ["thing"] (defScope s0_) := fsc (by decide +kernel)
theorem g0_ (h : Has K mg "is_whole" s0_) (B : Own mg)    : PGood P w K mg base 1 "is_whole" ["thing"] ptWhole := by
 have nd := C0_.nd
 refine h.pgood C0_ (fun|_,_,_,_,_,_,[_],_=>rfl) (fun f cdv A outer s H E F hr =>
   (us_one (us_ret (ue_and (ue_isi "int" call_isi_int rfl B.isinstance (ue_var 0) (pe_bltn (v := .ty "int") rfl B.int_ boot_int rfl)) (ue_one (ue_not (ue_isi "bool" call_isi_bool rfl B.isinstance (ue_var 0) (pe_bltn (v := .ty "bool") rfl B.bool_ boot_bool rfl)))))))) (fun as R q => ?_)
 obtain ⟨U, rfl, ok, q⟩ := q
 rcases anyU ok with rfl | ⟨b, rfl⟩ | ⟨i, rfl⟩ | ⟨s, rfl⟩ | ⟨t, xs, rfl⟩ | ⟨kts, rfl⟩
 ·exact ⟨rfl, _, rfl, iteF q⟩
 ·exact ⟨rfl, _, rfl, iteT ⟨_, rfl, q⟩⟩
 ·exact ⟨rfl, _, rfl, iteT ⟨_, rfl, q⟩⟩
 ·exact ⟨rfl, _, rfl, iteF q⟩
 ·cases t <;> exact ⟨rfl, _, rfl, iteF q⟩
 ·exact ⟨rfl, _, rfl, iteF q⟩
def FlD : Nat -> Tv -> Prop
 | 0, _ => True
 | _ + 1, .leaf v => flatV v = true /\ ∀ s, v = .str s -> s.length <= 1000
 | n + 1, .seq _ l => l.length <= 100 /\ ∀ x ∈ l, FlD n x
 | _ + 1, .dct _ => True
theorem FlD.ok {n : Nat} {U : Tv} (h : FlD (n + 1) U) : okU U := fun v e => by subst e; exact h.1
theorem FlD.tx {n : Nat} {U : Tv} (h : FlD (n + 1) U) : ∀ s, U = sT s -> s.length <= 1000 := fun s e => by subst e; exact h.2 s rfl
def signC (c : Nat) : Bool := decide (32 <= c) && decide (c <= 126) && decide (c ≠ 37)
def txB : Tv -> Bool
 | .leaf (.str s) => (cs s).all signC
 | _ => false
theorem lt_one (a b : Nat) : decide (([a] : List Nat) < [b]) = decide (a < b) := by
 rw [decide_eq_decide, List.cons_lt_cons_iff]
 exact ⟨fun h => h.elim id fun h => absurd h.2 (List.not_lt_nil _), .inl⟩
def ptSign : PSp := fun as R => ∃ c : Nat, as = [.va (sT ⟨#[c]⟩)] /\ R (bT (signC c))
theorem C1_ : FnScope ["sign"] ["sign"] (defScope s1_) := fsc (by decide +kernel)
theorem g1_ (h : Has K mg "is_sign" s1_) (B : Own mg)  (GPERCENT : GlobT K mg "PERCENT" (iT 37)) (Bord : mg "ord" = none) : PGood P w K mg base 1 "is_sign" ["sign"] ptSign := by
 have nd := C1_.nd
 refine h.pgood C1_ (fun|_,_,_,_,_,_,[_],_=>rfl) (fun f cdv A outer s H E F hr =>
   (us_one (us_ret (ue_and (ue_chain pu_leS pu_leS ue_str (ue_var 0) ue_str) (ue_one (ue_cmp (pu_ne hr.units).op (ue_callB pu_ord rfl Bord boot_ord (ua_c (ue_var 0) ua_nil)) (ue_gl GPERCENT rfl) (nomark _))))))) (fun as R q => ?_)
 obtain ⟨c, rfl, q⟩ := q
 have e1 : (!decide (([c] : List Nat) < (Str.ofString " ").cps.toList)) = decide (32 <= c) := by
  rw [show (Str.ofString " ").cps.toList = [32] by decide, lt_one]
  by_cases h : c < 32
  ·rw [decide_eq_true h, decide_eq_false (by omega)]; rfl
  ·rw [decide_eq_false h, decide_eq_true (by omega)]; rfl
 have e2 : (!decide ((Str.ofString "~").cps.toList < ([c] : List Nat))) = decide (c <= 126) := by
  rw [show (Str.ofString "~").cps.toList = [126] by decide, lt_one]
  by_cases h : 126 < c
  ·rw [decide_eq_true h, decide_eq_false (by omega)]; rfl
  ·rw [decide_eq_false h, decide_eq_true (by omega)]; rfl
 refine ⟨rfl, _, rfl, ?_⟩
 show if (!decide (([c] : List Nat) < (Str.ofString " ").cps.toList)) = true then _ else _
 rw [e1]
 unfold signC at q
 refine sifd (fun h1 => ?_) (fun h1 => ?_)
 ·show ∃ b, bT (!decide ((Str.ofString "~").cps.toList < ([c] : List Nat))) = bT b /\ _
  rw [e2]
  rw [decide_eq_true h1, Bool.true_and] at q
  refine ⟨_, rfl, sifd (fun h2 => ?_) (fun h2 => ?_)⟩
  ·rw [decide_eq_true h2, Bool.true_and] at q
   refine ⟨_, rfl, rfl, ?_⟩
   show R (bT (true != eqV (.int ((#[c].getD 0 0 : Nat) : Int)) (.int 37)))
   rw [show (true != eqV (.int ((#[c].getD 0 0 : Nat) : Int)) (.int 37)) = decide (c ≠ 37) by
    by_cases h : c = 37
    ·subst h; decide
    ·rw [decide_eq_true h]; simp [eqV]; omega]
   exact q
  ·rw [decide_eq_false h2, Bool.false_and] at q
   exact q
 ·rw [decide_eq_false h1, Bool.false_and, Bool.false_and] at q
  exact ⟨_, rfl, iteF q⟩
def ptIsText : PSp := fun as R => ∃ U, as = [.va U] /\ okU U /\ (∀ s, U = sT s -> s.length <= 1000) /\ R (bT (txB U))
theorem C2_ : FnScope ["thing"] ["thing"] (defScope s2_) := fsc (by decide +kernel)
theorem g2_ (h : Has K mg "is_text" s2_) (B : Own mg) (G1_ : PGood P w K mg base 1 "is_sign" ["sign"] ptSign)   : PGood P w K mg base 2 "is_text" ["thing"] ptIsText := by
 have nd := C2_.nd
 refine h.pgood C2_ (fun|_,_,_,_,_,_,[_],_=>rfl) (fun f cdv A outer s H E F hr =>
   (us_one (us_ret (ue_and (ue_isi "str" call_isi_str rfl B.isinstance (ue_var 0) (pe_bltn (v := .ty "str") rfl B.str_ boot_str rfl)) (ue_one (ue_callB (pu_all rfl) rfl B.all boot_all (ua_c (ue_ul (ul_comp (sc := defScope s2_) (XN := ["thing"]) (N := ["sign"]) (own := 1) (fr := []) rfl ⟨rfl, by decide +kernel, by decide +kernel, by decide +kernel, rfl, by decide +kernel, by decide, by decide +kernel⟩ (by decide) (ui_val (ue_var 0)) (fun _ _ _ _ _ => (ug_name 0 (by decide) (show (["sign"] : List Str).Nodup by decide +kernel) rfl (by first | exact Or.inl rfl | exact Or.inr rfl))) (fun _ _ _ _ _ => uf_nil) (fun _ _ _ _ _ => (ue_fn G1_ (hr.mono (by omega)) rfl (ua_c (ue_var 0) ua_nil))))) ua_nil))))))) (fun as R q => ?_)
 obtain ⟨U, rfl, ok, l, q⟩ := q
 rcases anyU ok with rfl | ⟨b, rfl⟩ | ⟨i, rfl⟩ | ⟨s, rfl⟩ | ⟨t, xs, rfl⟩ | ⟨kts, rfl⟩
 ·exact ⟨rfl, _, rfl, iteF q⟩
 ·exact ⟨rfl, _, rfl, iteF q⟩
 ·exact ⟨rfl, _, rfl, iteF q⟩
 ·have ls := l s rfl
  refine ⟨rfl, _, rfl, iteT ⟨?_, compT_of (fun c : Nat => sT ⟨#[c]⟩) (fun c => bT (signC c)) (fun c hc R q => ⟨c, rfl, q⟩) ?_⟩⟩
  ·rw [List.length_map, <- WordM.len]; omega
  ·refine ⟨s.cps.toList.map signC, by rw [List.map_map]; rfl, ?_⟩
   rw [List.all_map]
   exact q
 ·cases t <;> exact ⟨rfl, _, rfl, iteF q⟩
 ·exact ⟨rfl, _, rfl, iteF q⟩
def riseB : List Str -> Bool
 | a :: b :: r => decide (cs a < cs b) && riseB (b :: r)
 | _ => true
theorem riseB_iff : ∀ (ss : List Str), riseB ss = true ↔ rise ss
 | [] => ⟨fun _ => .nil, fun _ => rfl⟩
 | [a] => ⟨fun _ => List.pairwise_singleton _ _, fun _ => rfl⟩
 | a :: b :: r => by
  rw [riseB, Bool.and_eq_true, decide_eq_true_iff, riseB_iff (b :: r)]
  constructor
  ·rintro ⟨h1, h2⟩
   refine List.pairwise_cons.mpr ⟨fun x hx => ?_, h2⟩
   rcases List.mem_cons.mp hx with rfl | hx
   ·exact h1
   ·exact List.lt_trans h1 ((List.pairwise_cons.mp h2).1 x hx)
  ·intro h
   exact ⟨(List.pairwise_cons.mp h).1 b (List.mem_cons_self ..), (List.pairwise_cons.mp h).2⟩
def riseI : List Int -> Bool
 | a :: b :: r => decide (a < b) && riseI (b :: r)
 | _ => true
def riseT : List Bool -> Bool
 | a :: b :: r => (!a && b) && riseT (b :: r)
 | _ => true
def riseG {α : Type} (d : α) (f : α -> α -> Bool) : List α -> Bool
 | a :: b :: r => f a b && riseG d f (b :: r)
 | _ => true
theorem riseG_range {α : Type} (d : α) (f : α -> α -> Bool) : ∀ (ss : List α), (List.range (ss.length - 1)).all (fun i => f (ss.getD i d) (ss.getD (i + 1) d)) = riseG d f ss
 | [] => rfl
 | [a] => rfl
 | a :: b :: r => by
  have ih := riseG_range d f (b :: r)
  show (List.range (r.length + 1)).all _ = _
  rw [List.range_succ_eq_map, List.all_cons, List.all_map, riseG, <- ih]
  rfl
theorem riseG_S : ∀ ss : List Str, riseG ⟨#[]⟩ (fun a b => decide (cs a < cs b)) ss = riseB ss
 | [] => rfl
 | [_] => rfl
 | a :: b :: r => by rw [riseG, riseB, riseG_S (b :: r)]
theorem riseG_I : ∀ ss : List Int, riseG 0 (fun a b => decide (a < b)) ss = riseI ss
 | [] => rfl
 | [_] => rfl
 | a :: b :: r => by rw [riseG, riseI, riseG_I (b :: r)]
theorem riseG_T : ∀ ss : List Bool, riseG false (fun a b => !a && b) ss = riseT ss
 | [] => rfl
 | [_] => rfl
 | a :: b :: r => by rw [riseG, riseT, riseG_T (b :: r)]
def ptRises3 : PSp := fun as R => (∃ (t : Bool) (ss : List Str), as = [.va (.seq t (ss.map sT))] /\ ss.length <= 1000 /\ R (bT (riseB ss))) \/ (∃ (t : Bool) (ss : List Int), as = [.va (.seq t (ss.map iT))] /\ ss.length <= 1000 /\ R (bT (riseI ss))) \/ ∃ (t : Bool) (ss : List Bool), as = [.va (.seq t (ss.map bT))] /\ ss.length <= 1000 /\ R (bT (riseT ss))
def ptRisesG : PSp := fun as R => ∃ (α : Type) (d : α) (f : α -> α -> Bool) (c : α -> Tv) (t : Bool) (ss : List α), as = [.va (.seq t (ss.map c))] /\ (∀ a b Q, Q (bT (f a b)) -> pLtB (c a) (c b) Q) /\ ss.length <= 1000 /\ R (bT (riseG d f ss))
theorem rises3G {as : List Ar} {R : Tv -> Prop} (h : ptRises3 as R) : ptRisesG as R := by
 rcases h with ⟨t, ss, e, l, q⟩ | ⟨t, ss, e, l, q⟩ | ⟨t, ss, e, l, q⟩
 ·exact ⟨Str, _, _, sT, t, ss, e, fun a b Q q => q, l, by rw [riseG_S]; exact q⟩
 ·exact ⟨Int, _, _, iT, t, ss, e, fun a b Q q => q, l, by rw [riseG_I]; exact q⟩
 ·exact ⟨Bool, _, _, bT, t, ss, e, fun a b Q q => q, l, by rw [riseG_T]; exact q⟩
theorem C4_ : FnScope ["things"] ["things"] (defScope s4_) := fsc (by decide +kernel)
theorem g4_ (h : Has K mg "rises" s4_) (B : Own mg)    : PGood P w K mg base 1 "rises" ["things"] ptRises3 := by
 have nd := C4_.nd
 refine h.pgood C4_ (fun|_,_,_,_,_,_,[_],_=>rfl) (fun f cdv A outer s H E F hr =>
   (us_one (us_ret (ue_callB (pu_all rfl) rfl B.all boot_all (ua_c (ue_ul (ul_comp (sc := defScope s4_) (XN := ["things"]) (N := ["place", "things"]) (own := 1) (fr := [0]) rfl ⟨rfl, by decide +kernel, by decide +kernel, by decide +kernel, rfl, by decide +kernel, by decide, by decide +kernel⟩ (by decide) (ui_range1 rfl B.range (ua_c (ue_op pu_sub (ue_callB pu_len rfl B.len PySem.boot_len (ua_c (ue_var 0) ua_nil)) ue_int) ua_nil)) (fun _ _ _ _ _ => (ug_name 0 (by decide) (show (["place", "things"] : List Str).Nodup by decide +kernel) rfl (by first | exact Or.inl rfl | exact Or.inr rfl))) (fun _ _ _ _ _ => uf_nil) (fun _ _ _ _ _ => (ue_cmp (pu_ltB).op (ue_ix (pu_ix hr.units) (ue_var 1) (ue_var 0)) (ue_ix (pu_ix hr.units) (ue_var 1) (ue_op pu_add (ue_var 0) ue_int)) (nomark _))))) ua_nil))))) (fun as R q => ?_)
 obtain ⟨α, d, f, c, t, ss, rfl, hlt, l, q⟩ := rises3G q
 have e : (((ss.map c).length : Int) - 1).toNat = ss.length - 1 := by rw [List.length_map]; omega
 refine ⟨rfl, _, rfl, by rw [List.length_map]; omega, by rw [List.length_map]; omega, ?_⟩
 rw [e]
 refine ⟨by rw [rngT_len]; omega, ?_⟩
 refine compT_of (fun k : Nat => iT (0 + (k : Int))) (fun k => bT (f (ss.getD k d) (ss.getD (k + 1) d))) (l := List.range (ss.length - 1)) (fun k hk R q => ?_) ⟨(List.range (ss.length - 1)).map fun k => f (ss.getD k d) (ss.getD (k + 1) d), by rw [List.map_map]; rfl, ?_⟩
 ·have hk := List.mem_range.mp hk
  have e0 : (0 : Int) + (k : Int) = (k : Int) := by omega
  rw [e0]
  have g1 : (ss.map c)[k]? = some (c (ss.getD k d)) := by rw [List.getElem?_map, List.getD_eq_getElem?_getD, List.getElem?_eq_getElem (by omega)]; rfl
  have g2 : (ss.map c)[k + 1]? = some (c (ss.getD (k + 1) d)) := by rw [List.getElem?_map, List.getD_eq_getElem?_getD, List.getElem?_eq_getElem (by omega)]; rfl
  exact ⟨_, atI_nat g1, _, atI_nat g2, hlt _ _ _ q⟩
 ·rw [List.all_map]
  rw [<- riseG_range] at q
  exact q
def strOf : Tv -> Str
 | .leaf (.str s) => s
 | _ => ⟨#[]⟩
theorem txB_str {U : Tv} (h : txB U = true) : U = sT (strOf U) := by
 cases U with
 | leaf v => cases v <;> first | rfl | cases h
 | _ => cases h
theorem all_tx {ts : List Tv} (h : ts.all txB = true) : ts = (ts.map strOf).map sT := by
 rw [List.map_map]
 have : ts = ts.map id := (List.map_id ts).symm
 rw [List.all_eq_true] at h
 exact (List.map_id ts).symm.trans (List.map_congr_left fun x hx => txB_str (h x hx))
def fewB : Tv -> Bool
 | .seq true ts => decide (1 <= ts.length) && decide (ts.length <= 6) && (ts.all txB && riseB (ts.map strOf))
 | _ => false
def fewW : List Tv -> Bool
 | [_, b] => fewB b
 | _ => false
def ptFew : PSp := fun as R => ∃ L, as = [.va (.seq true L)] /\ FlD 3 (.seq true L) /\ R (bT (fewW L))
theorem C5_ : FnScope ["thing", "texts"] ["thing"] (defScope s5_) := fsc (by decide +kernel)
theorem g5_ (h : Has K mg "is_few" s5_) (B : Own mg) (G4_ : PGood P w K mg base 1 "rises" ["things"] ptRises3) (G2_ : PGood P w K mg base 2 "is_text" ["thing"] ptIsText) (GMOST_FEW : GlobT K mg "MOST_FEW" (iT 6))  : PGood P w K mg base 3 "is_few" ["thing"] ptFew := by
 have nd := C5_.nd
 refine h.pgood C5_ (fun|_,_,_,_,_,_,[_],_=>rfl) (fun f cdv A outer s H E F hr =>
   (us_cons (us_if (ub_w (uw_or (ub_cmp (pu_ne hr.units) (ue_callB pu_len rfl B.len PySem.boot_len (ua_c (ue_var 0) ua_nil)) ue_int (nomark _)) (uw_or1 (ub_not (ub_val (ue_isi "tuple" call_isi_tuple rfl B.isinstance (ue_ix (pu_ix hr.units) (ue_var 0) ue_int) (pe_bltn (v := .ty "tuple") rfl B.tuple_ boot_tuple rfl)))))))
    (us_one (us_ret ue_bl))
    us_nil)
   (us_cons (us_set (i := 1) nd rfl (.inl rfl) (ue_ix (pu_ix hr.units) (ue_var 0) ue_int))
   (us_one (us_ret (ue_and (ue_chain pu_le pu_le ue_int (ue_callB pu_len rfl B.len PySem.boot_len (ua_c (ue_var 1) ua_nil)) (ue_gl GMOST_FEW rfl)) (ue_and (ue_callB (pu_all rfl) rfl B.all boot_all (ua_c (ue_ul (ul_comp (sc := defScope s5_) (XN := ["thing", "texts"]) (N := ["text"]) (own := 1) (fr := []) rfl ⟨rfl, by decide +kernel, by decide +kernel, by decide +kernel, rfl, by decide +kernel, by decide, by decide +kernel⟩ (by decide) (ui_val (ue_var 1)) (fun _ _ _ _ _ => (ug_name 0 (by decide) (show (["text"] : List Str).Nodup by decide +kernel) rfl (by first | exact Or.inl rfl | exact Or.inr rfl))) (fun _ _ _ _ _ => uf_nil) (fun _ _ _ _ _ => (ue_fn G2_ (hr.mono (by omega)) rfl (ua_c (ue_var 0) ua_nil))))) ua_nil)) (ue_one (ue_fn G4_ (hr.mono (by omega)) rfl (ua_c (ue_var 1) ua_nil)))))))))) (fun as R q => ?_)
 obtain ⟨L, rfl, fl, q⟩ := q
 by_cases l2 : L.length = 2
 ·match L, l2 with
  | [a, b], _ =>
   have fb : FlD 2 b := fl.2 b (by simp)
   refine ⟨rfl, _, rfl, sif (fun z => absurd z (by simp [eqV])) fun _ => ?_⟩
   rcases anyU fb.ok with rfl | ⟨c, rfl⟩ | ⟨i, rfl⟩ | ⟨s, rfl⟩ | ⟨t, ts, rfl⟩ | ⟨kts, rfl⟩
   ·exact ⟨_, rfl, _, rfl, iteT q⟩
   ·exact ⟨_, rfl, _, rfl, iteT q⟩
   ·exact ⟨_, rfl, _, rfl, iteT q⟩
   ·exact ⟨_, rfl, _, rfl, iteT q⟩
   ·cases t with
    | false => exact ⟨_, rfl, _, rfl, iteT q⟩
    | true =>
     have q : R (bT (decide (1 <= ts.length) && decide (ts.length <= 6) && (ts.all txB && riseB (ts.map strOf)))) := q
     have ft : ts.length <= 100 /\ ∀ x ∈ ts, FlD 1 x := fb
     refine ⟨_, rfl, _, rfl, iteF ⟨_, rfl, _, rfl, sifd (fun h1 => ?_) (fun h1 => ⟨_, rfl, iteF ?_⟩)⟩⟩
     ·have h1' : 1 <= ts.length := by have h1 : (1 : Int) <= (ts.length : Nat) := h1; omega
      rw [decide_eq_true h1', Bool.true_and] at q
      refine ⟨_, rfl, sifd (fun h2 => ?_) (fun h2 => ?_)⟩
      ·have h2' : ts.length <= 6 := by have h2 : ((ts.length : Nat) : Int) <= 6 := h2; omega
       rw [decide_eq_true h2', Bool.true_and] at q
       refine ⟨by omega, compT_map (fun x => bT (txB x)) (fun x hx R q => ⟨x, rfl, (ft.2 x hx).ok, (ft.2 x hx).tx, q⟩) ⟨ts.map txB, by rw [List.map_map]; rfl, ?_⟩⟩
       rw [List.all_map]
       refine ⟨_, rfl, sif (fun h3 => ?_) (fun h3 => ?_)⟩
       ·have h3 : ts.all txB = true := h3
        rw [h3, Bool.true_and] at q
        exact .inl ⟨true, ts.map strOf, by rw [<- all_tx h3], by rw [List.length_map]; omega, q⟩
       ·have h3 : ts.all txB = false := h3
        rw [h3, Bool.false_and] at q
        exact q
      ·have h2' : ¬ ts.length <= 6 := by have h2 : ¬ ((ts.length : Nat) : Int) <= 6 := h2; omega
       rw [decide_eq_false h2', Bool.false_and] at q
       exact q
     ·have h1' : ¬ 1 <= ts.length := by have h1 : ¬ (1 : Int) <= (ts.length : Nat) := h1; omega
      rw [decide_eq_false h1', Bool.false_and, Bool.false_and] at q
      exact q
   ·exact ⟨_, rfl, _, rfl, iteT q⟩
 ·have e : fewW L = false := by
   match L, l2 with
   | [], _ => rfl
   | [_], _ => rfl
   | [_, _], h => exact absurd rfl h
   | _ :: _ :: _ :: _, _ => rfl
  rw [e] at q
  refine ⟨rfl, _, rfl, sif (fun z => q) fun z => ?_⟩
  have z : (true != eqV (.int (L.length : Nat)) (.int 2)) = false := z
  exact absurd (by simpa [eqV] using z) (show ¬ ((L.length : Int) = 2) by omega)
def mkB (U : Tv) : Bool := (MK.map sT).any fun k => L2.eqT k U
theorem mkB_str {U : Tv} (h : mkB U = true) : U = sT (strOf U) /\ strOf U ∈ MK := by
 obtain ⟨k, hk, e⟩ := List.any_eq_true.mp h
 obtain ⟨x, hx, rfl⟩ := List.mem_map.mp hk
 cases U with
 | leaf v =>
  cases v with
  | str s => simp [L2.eqT, eqV] at e; subst e; exact ⟨rfl, hx⟩
  | _ => simp [L2.eqT, eqV] at e
 | _ => simp [L2.eqT] at e
theorem all_mk' {ts : List Tv} (h : ts.all mkB = true) : ts = (ts.map strOf).map sT := by
 rw [List.map_map]
 rw [List.all_eq_true] at h
 exact (List.map_id ts).symm.trans (List.map_congr_left fun x hx => (mkB_str (h x hx)).1)
def marksB : Tv -> Bool
 | .seq true ms => decide (ms ≠ []) && (ms.all mkB && riseB (ms.map strOf))
 | _ => false
def ptAreMarks : PSp := fun as R => ∃ U, as = [.va U] /\ FlD 2 U /\ R (bT (marksB U))
theorem C6_ : FnScope ["thing"] ["thing"] (defScope s6_) := fsc (by decide +kernel)
theorem g6_ (h : Has K mg "are_marks" s6_) (B : Own mg) (G4_ : PGood P w K mg base 1 "rises" ["things"] ptRises3) (GMARKS : GlobT K mg "MARKS" (.seq true (MK.map sT)))  : PGood P w K mg base 2 "are_marks" ["thing"] ptAreMarks := by
 have nd := C6_.nd
 refine h.pgood C6_ (fun|_,_,_,_,_,_,[_],_=>rfl) (fun f cdv A outer s H E F hr =>
   (us_cons (us_if (ub_w (uw_or (ub_not (ub_val (ue_isi "tuple" call_isi_tuple rfl B.isinstance (ue_var 0) (pe_bltn (v := .ty "tuple") rfl B.tuple_ boot_tuple rfl)))) (uw_or1 (ub_cmp (pu_eq hr.units) (ue_callB pu_len rfl B.len PySem.boot_len (ua_c (ue_var 0) ua_nil)) ue_int (nomark _)))))
    (us_one (us_ret ue_bl))
    us_nil)
   (us_one (us_ret (ue_and (ue_callB (pu_all rfl) rfl B.all boot_all (ua_c (ue_ul (ul_comp (sc := defScope s6_) (XN := ["thing"]) (N := ["mark"]) (own := 1) (fr := []) rfl ⟨rfl, by decide +kernel, by decide +kernel, by decide +kernel, rfl, by decide +kernel, by decide, by decide +kernel⟩ (by decide) (ui_val (ue_var 0)) (fun _ _ _ _ _ => (ug_name 0 (by decide) (show (["mark"] : List Str).Nodup by decide +kernel) rfl (by first | exact Or.inl rfl | exact Or.inr rfl))) (fun _ _ _ _ _ => uf_nil) (fun _ _ _ _ _ => (ue_cmp (pu_inA hr.units).op (ue_var 0) (ue_gl GMARKS rfl) rfl)))) ua_nil)) (ue_one (ue_fn G4_ (hr.mono (by omega)) rfl (ua_c (ue_var 0) ua_nil)))))))) (fun as R q => ?_)
 obtain ⟨U, rfl, fb, q⟩ := q
 rcases anyU fb.ok with rfl | ⟨c, rfl⟩ | ⟨i, rfl⟩ | ⟨s, rfl⟩ | ⟨t, ts, rfl⟩ | ⟨kts, rfl⟩
 ·exact ⟨rfl, _, rfl, iteT q⟩
 ·exact ⟨rfl, _, rfl, iteT q⟩
 ·exact ⟨rfl, _, rfl, iteT q⟩
 ·exact ⟨rfl, _, rfl, iteT q⟩
 ·cases t with
  | false => exact ⟨rfl, _, rfl, iteT q⟩
  | true =>
   have q : R (bT (decide (ts ≠ []) && (ts.all mkB && riseB (ts.map strOf)))) := q
   have ft : ts.length <= 100 /\ ∀ x ∈ ts, FlD 1 x := fb
   cases ts with
   | nil => exact ⟨rfl, _, rfl, iteF ⟨_, rfl, iteT q⟩⟩
   | cons x ts =>
    rw [decide_eq_true (by simp), Bool.true_and] at q
    refine ⟨rfl, _, rfl, iteF ⟨_, rfl, sifI (fun z => absurd z (by simp; omega)) fun _ => ?_⟩⟩
    refine ⟨by omega, compT_map (fun x => bT (mkB x)) (fun x hx R q => ⟨MK, rfl, q⟩) ⟨(x :: ts).map mkB, by rw [List.map_map]; rfl, ?_⟩⟩
    rw [List.all_map]
    refine ⟨_, rfl, sif (fun h3 => ?_) (fun h3 => ?_)⟩
    ·have h3 : (x :: ts).all mkB = true := h3
     rw [h3, Bool.true_and] at q
     exact .inl ⟨true, (x :: ts).map strOf, by rw [<- all_mk' h3], by rw [List.length_map]; omega, q⟩
    ·have h3 : (x :: ts).all mkB = false := h3
     rw [h3, Bool.false_and] at q
     exact q
 ·exact ⟨rfl, _, rfl, iteT q⟩
def numW : Tv -> Tv -> Bool
 | .leaf (.int a), .leaf (.int b) => decide (0 <= a) && decide (a <= b) && decide (1 <= b)
 | _, _ => false
def makeW : List Tv -> Bool
 | [_, h, lo, hi, ms] => txB h && (marksB ms && numW lo hi)
 | _ => false
theorem isW_int {U : Tv} (h : isW U = true) : ∃ i, U = iT i := by
 cases U with
 | leaf v => cases v <;> first | exact ⟨_, rfl⟩ | cases h
 | _ => cases h
theorem numW_l {U V : Tv} (h : isW U = false) : numW U V = false := by
 cases U with
 | leaf v => cases v <;> first | rfl | cases h
 | _ => rfl
theorem numW_r {U V : Tv} (h : isW V = false) : numW U V = false := by
 cases U with
 | leaf v =>
  cases v <;> first | rfl | skip
  cases V with
  | leaf v => cases v <;> first | rfl | cases h
  | _ => rfl
 | _ => rfl
def ptMakeW : PSp := fun as R => ∃ L, as = [.va (.seq true L)] /\ FlD 3 (.seq true L) /\ R (bT (makeW L))
theorem C7_ : FnScope ["thing", "least", "most"] ["thing"] (defScope s7_) := fsc (by decide +kernel)
theorem g7_ (h : Has K mg "is_make" s7_) (B : Own mg) (G6_ : PGood P w K mg base 2 "are_marks" ["thing"] ptAreMarks) (G2_ : PGood P w K mg base 2 "is_text" ["thing"] ptIsText) (G0_ : PGood P w K mg base 1 "is_whole" ["thing"] ptWhole)   : PGood P w K mg base 3 "is_make" ["thing"] ptMakeW := by
 have nd := C7_.nd
 refine h.pgood C7_ (fun|_,_,_,_,_,_,[_],_=>rfl) (fun f cdv A outer s H E F hr =>
   (us_cons (us_if (ub_w (uw_or (ub_cmp (pu_ne hr.units) (ue_callB pu_len rfl B.len PySem.boot_len (ua_c (ue_var 0) ua_nil)) ue_int (nomark _)) (uw_or (ub_not (ub_val (ue_fn G2_ (hr.mono (by omega)) rfl (ua_c (ue_ix (pu_ix hr.units) (ue_var 0) ue_int) ua_nil)))) (uw_or1 (ub_not (ub_val (ue_fn G6_ (hr.mono (by omega)) rfl (ua_c (ue_ix (pu_ix hr.units) (ue_var 0) ue_int) ua_nil))))))))
    (us_one (us_ret ue_bl))
    us_nil)
   (us_cons (us_set (i := 1) nd rfl (.inl rfl) (ue_ix (pu_ix hr.units) (ue_var 0) ue_int))
   (us_cons (us_set (i := 2) nd rfl (.inl rfl) (ue_ix (pu_ix hr.units) (ue_var 0) ue_int))
   (us_one (us_ret (ue_and (ue_fn G0_ (hr.mono (by omega)) rfl (ua_c (ue_var 1) ua_nil)) (ue_and (ue_fn G0_ (hr.mono (by omega)) rfl (ua_c (ue_var 2) ua_nil)) (ue_and (ue_chain pu_le pu_le ue_int (ue_var 1) (ue_var 2)) (ue_one (ue_cmp (pu_ge).op (ue_var 2) ue_int (nomark _)))))))))))) (fun as R q => ?_)
 obtain ⟨L, rfl, fl, q⟩ := q
 by_cases l5 : L.length = 5
 ·match L, l5 with
  | [a, h, lo, hi, ms], _ =>
   have fh : FlD 2 h := fl.2 h (by simp)
   have flo : FlD 2 lo := fl.2 lo (by simp)
   have fhi : FlD 2 hi := fl.2 hi (by simp)
   have fm : FlD 2 ms := fl.2 ms (by simp)
   have q : R (bT (txB h && (marksB ms && numW lo hi))) := q
   refine ⟨rfl, _, rfl, sif (fun z => absurd z (by simp [eqV])) fun _ => ⟨_, rfl, h, rfl, fh.ok, fh.tx, _, rfl, ?_⟩⟩
   cases th : txB h with
   | false => rw [th, Bool.false_and] at q; exact iteT q
   | true =>
    rw [th, Bool.true_and] at q
    refine iteF ⟨_, rfl, ms, rfl, fm, _, rfl, ?_⟩
    cases tm : marksB ms with
    | false => rw [tm, Bool.false_and] at q; exact iteT q
    | true =>
     rw [tm, Bool.true_and] at q
     refine iteF ⟨_, rfl, _, rfl, lo, rfl, flo.ok, _, rfl, ?_⟩
     cases wl : isW lo with
     | false => rw [numW_l wl] at q; exact iteF q
     | true =>
      refine iteT ⟨hi, rfl, fhi.ok, _, rfl, ?_⟩
      cases wh : isW hi with
      | false => rw [numW_r wh] at q; exact iteF q
      | true =>
       obtain ⟨x, rfl⟩ := isW_int wl
       obtain ⟨y, rfl⟩ := isW_int wh
       have q : R (bT (decide (0 <= x) && decide (x <= y) && decide (1 <= y))) := q
       refine iteT ⟨_, rfl, sifd (fun h1 => ?_) (fun h1 => ⟨_, rfl, iteF ?_⟩)⟩
       ·rw [decide_eq_true h1, Bool.true_and] at q
        refine ⟨_, rfl, sifd (fun h2 => ?_) (fun h2 => ?_)⟩
        ·rw [decide_eq_true h2, Bool.true_and] at q
         exact q
        ·rw [decide_eq_false h2, Bool.false_and] at q
         exact q
       ·rw [decide_eq_false h1, Bool.false_and, Bool.false_and] at q
        exact q
 ·have e : makeW L = false := by
   match L, l5 with
   | [], _ => rfl
   | [_], _ => rfl
   | [_, _], _ => rfl
   | [_, _, _], _ => rfl
   | [_, _, _, _], _ => rfl
   | [_, _, _, _, _], h => exact absurd rfl h
   | _ :: _ :: _ :: _ :: _ :: _ :: _, _ => rfl
  rw [e] at q
  refine ⟨rfl, _, rfl, sif (fun z => q) fun z => ?_⟩
  have z : (true != eqV (.int (L.length : Nat)) (.int 5)) = false := z
  exact absurd (by simpa [eqV] using z) (show ¬ ((L.length : Int) = 5) by omega)
def wordsB : Tv -> Bool
 | .seq true (a :: l) => if L2.eqT a (sT "few") = true then fewW (a :: l) else (L2.eqT a (sT "make") && makeW (a :: l))
 | _ => false
def ptWordsB : PSp := fun as R => ∃ U, as = [.va U] /\ FlD 3 U /\ R (bT (wordsB U))
theorem C8_ : FnScope ["thing"] ["thing"] (defScope s8_) := fsc (by decide +kernel)
theorem g8_ (h : Has K mg "is_words" s8_) (B : Own mg) (G5_ : PGood P w K mg base 3 "is_few" ["thing"] ptFew) (G7_ : PGood P w K mg base 3 "is_make" ["thing"] ptMakeW)   : PGood P w K mg base 4 "is_words" ["thing"] ptWordsB := by
 have nd := C8_.nd
 refine h.pgood C8_ (fun|_,_,_,_,_,_,[_],_=>rfl) (fun f cdv A outer s H E F hr =>
   (us_cons (us_if (ub_w (uw_or (ub_not (ub_val (ue_isi "tuple" call_isi_tuple rfl B.isinstance (ue_var 0) (pe_bltn (v := .ty "tuple") rfl B.tuple_ boot_tuple rfl)))) (uw_or1 (ub_cmp (pu_eq hr.units) (ue_callB pu_len rfl B.len PySem.boot_len (ua_c (ue_var 0) ua_nil)) ue_int (nomark _)))))
    (us_one (us_ret ue_bl))
    us_nil)
   (us_cons (us_if (ub_cmp (pu_eqA hr.units) (ue_ix (pu_ix hr.units) (ue_var 0) ue_int) ue_str (nomark _))
    (us_one (us_ret (ue_fn G5_ (hr.mono (by omega)) rfl (ua_c (ue_var 0) ua_nil))))
    us_nil)
   (us_one (us_ret (ue_and (ue_cmp (pu_eqA hr.units).op (ue_ix (pu_ix hr.units) (ue_var 0) ue_int) ue_str (nomark _)) (ue_one (ue_fn G7_ (hr.mono (by omega)) rfl (ua_c (ue_var 0) ua_nil))))))))) (fun as R q => ?_)
 obtain ⟨U, rfl, fb, q⟩ := q
 rcases anyU fb.ok with rfl | ⟨c, rfl⟩ | ⟨i, rfl⟩ | ⟨s, rfl⟩ | ⟨t, ts, rfl⟩ | ⟨kts, rfl⟩
 ·exact ⟨rfl, _, rfl, iteT q⟩
 ·exact ⟨rfl, _, rfl, iteT q⟩
 ·exact ⟨rfl, _, rfl, iteT q⟩
 ·exact ⟨rfl, _, rfl, iteT q⟩
 ·cases t with
  | false => exact ⟨rfl, _, rfl, iteT q⟩
  | true =>
   cases ts with
   | nil => exact ⟨rfl, _, rfl, iteF ⟨_, rfl, iteT q⟩⟩
   | cons a l =>
    refine ⟨rfl, _, rfl, iteF ⟨_, rfl, sifI (fun z => absurd z (by simp; omega)) fun _ => ?_⟩⟩
    have q : R (bT (if L2.eqT a (sT "few") = true then fewW (a :: l) else (L2.eqT a (sT "make") && makeW (a :: l)))) := q
    refine ⟨_, atI_nat (j := 0) rfl, "few", rfl, _, rfl, ?_⟩
    cases ef : L2.eqT a (sT "few") with
    | true => rw [ef, if_pos rfl] at q; exact iteT ⟨_, rfl, fb, q⟩
    | false =>
     rw [ef, if_neg Bool.false_ne_true] at q
     refine iteF ⟨_, atI_nat (j := 0) rfl, "make", rfl, _, rfl, ?_⟩
     cases em : L2.eqT a (sT "make") with
     | true => rw [em, Bool.true_and] at q; exact iteT ⟨_, rfl, fb, q⟩
     | false => rw [em, Bool.false_and] at q; exact iteF q
 ·exact ⟨rfl, _, rfl, iteT q⟩
end
end My
namespace My
open PySem L2 PyProof.Rows WordM
section
variable {P : Program} {w : World} {K : PySem.W.Frag} {mg : Str -> Option Value} {base : Heap}
def runW : List Tv -> Bool
 | [.leaf (.int a), .leaf (.int b), .leaf (.int c)] => if a = b then decide (c = 0) else (decide (a < b) && (decide (1 <= c) && decide ((b - a) % c = 0)))
 | _ => false
def runB : Tv -> Bool
 | .seq true L => runW L
 | _ => false
theorem runW_len {L : List Tv} (h : L.length ≠ 3) : runW L = false := by
 match L, h with
 | [], _ => rfl
 | [_], _ => unfold runW; split <;> simp_all
 | [_, _], _ => unfold runW; split <;> simp_all
 | [_, _, _], h => exact absurd rfl h
 | _ :: _ :: _ :: _ :: _, _ => unfold runW; split <;> simp_all
theorem runW_int {L : List Tv} (h : L.all isW = false) : runW L = false := by
 unfold runW
 split
 ·simp [isW] at h
 ·rfl
def ptIsRun : PSp := fun as R => ∃ U, as = [.va U] /\ FlD 2 U /\ R (bT (runB U))
theorem C3_ : FnScope ["thing", "lo", "hi", "step"] ["thing"] (defScope s3_) := fsc (by decide +kernel)
theorem g3_ (h : Has K mg "is_run" s3_) (B : Own mg) (G0_ : PGood P w K mg base 1 "is_whole" ["thing"] ptWhole)   : PGood P w K mg base 2 "is_run" ["thing"] ptIsRun := by
 have nd := C3_.nd
 refine h.pgood C3_ (fun|_,_,_,_,_,_,[_],_=>rfl) (fun f cdv A outer s H E F hr =>
   (us_cons (us_if (ub_w (uw_or (ub_not (ub_val (ue_isi "tuple" call_isi_tuple rfl B.isinstance (ue_var 0) (pe_bltn (v := .ty "tuple") rfl B.tuple_ boot_tuple rfl)))) (uw_or (ub_cmp (pu_ne hr.units) (ue_callB pu_len rfl B.len PySem.boot_len (ua_c (ue_var 0) ua_nil)) ue_int (nomark _)) (uw_or1 (ub_not (ub_val (ue_callB (pu_all rfl) rfl B.all boot_all (ua_c (ue_ul (ul_comp (sc := defScope s3_) (XN := ["thing", "lo", "hi", "step"]) (N := ["part"]) (own := 1) (fr := []) rfl ⟨rfl, by decide +kernel, by decide +kernel, by decide +kernel, rfl, by decide +kernel, by decide, by decide +kernel⟩ (by decide) (ui_val (ue_var 0)) (fun _ _ _ _ _ => (ug_name 0 (by decide) (show (["part"] : List Str).Nodup by decide +kernel) rfl (by first | exact Or.inl rfl | exact Or.inr rfl))) (fun _ _ _ _ _ => uf_nil) (fun _ _ _ _ _ => (ue_fn G0_ (hr.mono (by omega)) rfl (ua_c (ue_var 0) ua_nil))))) ua_nil))))))))
    (us_one (us_ret ue_bl))
    us_nil)
   (us_cons (us_set (i := 1) nd rfl (.inl rfl) (ue_ix (pu_ix hr.units) (ue_var 0) ue_int))
   (us_cons (us_set (i := 2) nd rfl (.inl rfl) (ue_ix (pu_ix hr.units) (ue_var 0) ue_int))
   (us_cons (us_set (i := 3) nd rfl (.inl rfl) (ue_ix (pu_ix hr.units) (ue_var 0) ue_int))
   (us_cons (us_if (ub_cmp (pu_eq hr.units) (ue_var 1) (ue_var 2) (nomark _))
    (us_one (us_ret (ue_cmp (pu_eq hr.units).op (ue_var 3) ue_int (nomark _))))
    us_nil)
   (us_one (us_ret (ue_and (ue_cmp (pu_lt).op (ue_var 1) (ue_var 2) (nomark _)) (ue_and (ue_cmp (pu_ge).op (ue_var 3) ue_int (nomark _)) (ue_one (ue_cmp (pu_eq hr.units).op (ue_op pu_mod (ue_op pu_sub (ue_var 2) (ue_var 1)) (ue_var 3)) ue_int (nomark _))))))))))))) (fun as R q => ?_)
 obtain ⟨U, rfl, fb, q⟩ := q
 rcases anyU fb.ok with rfl | ⟨c, rfl⟩ | ⟨i, rfl⟩ | ⟨s, rfl⟩ | ⟨t, L, rfl⟩ | ⟨kts, rfl⟩
 ·exact ⟨rfl, _, rfl, iteT q⟩
 ·exact ⟨rfl, _, rfl, iteT q⟩
 ·exact ⟨rfl, _, rfl, iteT q⟩
 ·exact ⟨rfl, _, rfl, iteT q⟩
 ·cases t with
  | false => exact ⟨rfl, _, rfl, iteT q⟩
  | true =>
   have q : R (bT (runW L)) := q
   have fl : L.length <= 100 /\ ∀ x ∈ L, FlD 1 x := fb
   refine ⟨rfl, _, rfl, iteF ⟨_, rfl, ?_⟩⟩
   by_cases l3 : L.length = 3
   ·match L, l3 with
    | [x, y, z], _ =>
     refine iteF ⟨by simp, compT_map (fun x => bT (isW x)) (fun x hx R q => ⟨x, rfl, (fl.2 x hx).ok, q⟩) ⟨[x, y, z].map isW, by rw [List.map_map]; rfl, ?_⟩⟩
     rw [List.all_map]
     cases w : [x, y, z].all isW with
     | false =>
      rw [runW_int w] at q
      exact ⟨_, rfl, by show if (!([x, y, z].all isW)) = true then _ else _; rw [w]; exact iteT q⟩
     | true =>
      have w3 := w
      simp only [List.all_cons, List.all_nil, Bool.and_true, Bool.and_eq_true] at w3
      obtain ⟨a, rfl⟩ := isW_int w3.1
      obtain ⟨b, rfl⟩ := isW_int w3.2.1
      obtain ⟨c, rfl⟩ := isW_int w3.2.2
      have q : R (bT (if a = b then decide (c = 0) else (decide (a < b) && (decide (1 <= c) && decide ((b - a) % c = 0))))) := q
      refine ⟨_, rfl, iteF ⟨_, rfl, _, rfl, _, rfl, _, rfl, sifI (fun e => ?_) (fun e => ⟨_, rfl, sifd (fun h1 => ⟨_, rfl, sifd (fun h2 => ?_) (fun h2 => ?_)⟩) (fun h1 => ?_)⟩)⟩⟩
      ·rw [if_pos e] at q
       have : (false != eqV (.int c) (.int 0)) = decide (c = 0) := by
        by_cases z : c = 0
        ·subst z; rfl
        ·rw [decide_eq_false z]; simpa [eqV] using z
       show R (bT (false != eqV (.int c) (.int 0)))
       rw [this]; exact q
      ·rw [if_neg e, decide_eq_true h1, Bool.true_and, decide_eq_true h2, Bool.true_and] at q
       refine ⟨by omega, ?_⟩
       have : (false != eqV (.int ((b - a) % c)) (.int 0)) = decide ((b - a) % c = 0) := by
        by_cases z : (b - a) % c = 0
        ·rw [z]; rfl
        ·rw [decide_eq_false z]; simpa [eqV] using z
       show R (bT (false != eqV (.int ((b - a) % c)) (.int 0)))
       rw [this]; exact q
      ·rw [if_neg e, decide_eq_true h1, Bool.true_and, decide_eq_false h2, Bool.false_and] at q
       exact q
      ·rw [if_neg e, decide_eq_false h1, Bool.false_and] at q
       exact q
   ·rw [runW_len l3] at q
    show if (true != eqV (.int (L.length : Nat)) (.int 3)) = true then _ else _
    rw [show (true != eqV (.int (L.length : Nat)) (.int 3)) = true by
     have : ¬ ((L.length : Nat) : Int) = 3 := by omega
     simpa [eqV] using this]
    exact iteT q
 ·exact ⟨rfl, _, rfl, iteT q⟩
def blOf : Tv -> Bool
 | .leaf (.bl b) => b
 | _ => false
theorem bl_of {T : Tv} (h : isiT "bool" T = true) : T = bT (blOf T) := by
 cases T with
 | leaf v => cases v <;> first | rfl | (simp [isiT] at h)
 | seq t xs => cases t <;> simp [isiT] at h
 | dct k => simp [isiT] at h
def trW (ts : List Tv) : Bool := decide (ts ≠ []) && (ts.all (fun T => isiT "bool" T) && riseT (ts.map blOf))
def trB : Tv -> Bool
 | .seq true ts => trW ts
 | _ => false
def ptAreTruths : PSp := fun as R => ∃ U, as = [.va U] /\ FlD 2 U /\ R (bT (trB U))
theorem C13_ : FnScope ["thing"] ["thing"] (defScope s13_) := fsc (by decide +kernel)
theorem g13_ (h : Has K mg "are_truths" s13_) (B : Own mg) (G4_ : PGood P w K mg base 1 "rises" ["things"] ptRises3)   : PGood P w K mg base 2 "are_truths" ["thing"] ptAreTruths := by
 have nd := C13_.nd
 refine h.pgood C13_ (fun|_,_,_,_,_,_,[_],_=>rfl) (fun f cdv A outer s H E F hr =>
   (us_cons (us_if (ub_w (uw_or (ub_not (ub_val (ue_isi "tuple" call_isi_tuple rfl B.isinstance (ue_var 0) (pe_bltn (v := .ty "tuple") rfl B.tuple_ boot_tuple rfl)))) (uw_or1 (ub_cmp (pu_eq hr.units) (ue_callB pu_len rfl B.len PySem.boot_len (ua_c (ue_var 0) ua_nil)) ue_int (nomark _)))))
    (us_one (us_ret ue_bl))
    us_nil)
   (us_one (us_ret (ue_and (ue_callB (pu_all rfl) rfl B.all boot_all (ua_c (ue_ul (ul_comp (sc := defScope s13_) (XN := ["thing"]) (N := ["truth"]) (own := 1) (fr := []) rfl ⟨rfl, by decide +kernel, by decide +kernel, by decide +kernel, rfl, by decide +kernel, by decide, by decide +kernel⟩ (by decide) (ui_val (ue_var 0)) (fun _ _ _ _ _ => (ug_name 0 (by decide) (show (["truth"] : List Str).Nodup by decide +kernel) rfl (by first | exact Or.inl rfl | exact Or.inr rfl))) (fun _ _ _ _ _ => uf_nil) (fun _ _ _ _ _ => (ue_isi "bool" call_isi_bool rfl B.isinstance (ue_var 0) (pe_bltn (v := .ty "bool") rfl B.bool_ boot_bool rfl))))) ua_nil)) (ue_one (ue_fn G4_ (hr.mono (by omega)) rfl (ua_c (ue_var 0) ua_nil)))))))) (fun as R q => ?_)
 obtain ⟨U, rfl, fb, q⟩ := q
 rcases anyU fb.ok with rfl | ⟨c, rfl⟩ | ⟨i, rfl⟩ | ⟨s, rfl⟩ | ⟨t, L, rfl⟩ | ⟨kts, rfl⟩
 ·exact ⟨rfl, _, rfl, iteT q⟩
 ·exact ⟨rfl, _, rfl, iteT q⟩
 ·exact ⟨rfl, _, rfl, iteT q⟩
 ·exact ⟨rfl, _, rfl, iteT q⟩
 ·cases t with
  | false => exact ⟨rfl, _, rfl, iteT q⟩
  | true =>
   have fl : L.length <= 100 /\ ∀ x ∈ L, FlD 1 x := fb
   have q : R (bT (trW L)) := q
   refine ⟨rfl, _, rfl, iteF ⟨_, rfl, ?_⟩⟩
   cases L with
   | nil => exact iteT q
   | cons x ts =>
    unfold trW at q
    rw [decide_eq_true (by simp), Bool.true_and] at q
    refine sifI (fun z => absurd z (by simp; omega)) fun _ => ?_
    refine ⟨by omega, compT_map (fun x => bT (isiT "bool" x)) (fun x hx R q => q) ⟨(x :: ts).map (isiT "bool"), by rw [List.map_map]; rfl, ?_⟩⟩
    rw [List.all_map]
    refine ⟨_, rfl, sif (fun h3 => ?_) (fun h3 => ?_)⟩
    ·have h3 : ((x :: ts).all fun T => isiT "bool" T) = true := h3
     rw [h3, Bool.true_and] at q
     refine .inr (.inr ⟨true, _, ?_, by rw [List.length_map]; omega, q⟩)
     rw [List.map_map]
     exact congrArg (fun l => [Ar.va (Tv.seq true l)]) ((List.map_id _).symm.trans (List.map_congr_left fun T hT => bl_of (List.all_eq_true.mp h3 T hT)))
    ·have h3 : ((x :: ts).all fun T => isiT "bool" T) = false := h3
     rw [h3, Bool.false_and] at q
     exact q
 ·exact ⟨rfl, _, rfl, iteT q⟩
def bndB : Tv -> Tv -> Bool
 | .leaf (.int a), .leaf (.int b) => decide (0 <= a) && decide (a <= b)
 | _, _ => false
theorem bndB_l {U V : Tv} (h : isW U = false) : bndB U V = false := by
 unfold bndB
 split
 ·cases h
 ·rfl
theorem bndB_r {U V : Tv} (h : isW V = false) : bndB U V = false := by
 unfold bndB
 split
 ·cases h
 ·rfl
def ptBounds : PSp := fun as R => ∃ U V, as = [.va U, .va V] /\ okU U /\ okU V /\ R (bT (bndB U V))
theorem C14_ : FnScope ["least", "most"] ["least", "most"] (defScope s14_) := fsc (by decide +kernel)
theorem g14_ (h : Has K mg "are_bounds" s14_) (B : Own mg) (G0_ : PGood P w K mg base 1 "is_whole" ["thing"] ptWhole)   : PGood P w K mg base 2 "are_bounds" ["least", "most"] ptBounds := by
 have nd := C14_.nd
 refine h.pgood C14_ (fun|_,_,_,_,_,_,[_,_],_=>rfl) (fun f cdv A outer s H E F hr =>
   (us_one (us_ret (ue_and (ue_fn G0_ (hr.mono (by omega)) rfl (ua_c (ue_var 0) ua_nil)) (ue_and (ue_fn G0_ (hr.mono (by omega)) rfl (ua_c (ue_var 1) ua_nil)) (ue_one (ue_chain pu_le pu_le ue_int (ue_var 0) (ue_var 1)))))))) (fun as R q => ?_)
 obtain ⟨U, V, rfl, fu, fv, q⟩ := q
 refine ⟨rfl, U, rfl, fu, _, rfl, ?_⟩
 cases wl : isW U with
 | false => rw [bndB_l wl] at q; exact iteF q
 | true =>
  refine iteT ⟨V, rfl, fv, _, rfl, ?_⟩
  cases wh : isW V with
  | false => rw [bndB_r wh] at q; exact iteF q
  | true =>
   obtain ⟨a, rfl⟩ := isW_int wl
   obtain ⟨b, rfl⟩ := isW_int wh
   have q : R (bT (decide (0 <= a) && decide (a <= b))) := q
   refine iteT ⟨_, rfl, sifd (fun h1 => ?_) (fun h1 => ?_)⟩
   ·rw [decide_eq_true h1, Bool.true_and] at q; exact q
   ·rw [decide_eq_false h1, Bool.false_and] at q; exact q
end
end My
namespace My
open PySem L2 PyProof.Rows WordM
section
variable {P : Program} {w : World} {K : PySem.W.Frag} {mg : Str -> Option Value} {base : Heap}
def tl : Nat -> Int -> Int -> Int -> Int -> Int -> Int -> Int -> Int
 | 0, _, _, _, _, many, _, _ => many
 | k + 1, n, lo, hi, most, many, power, len =>
  if len <= hi then (if most <= many + power then most else tl k n lo hi most (if lo <= len then many + power else many) (power * n) (len + 1)) else many
def ptTails : PSp := fun as R => ∃ (S : Str) (lo hi most : Int), as = [.va (sT S), .va (iT lo), .va (iT hi), .va (iT most)] /\ 2 <= S.length /\ S.length <= 1000 /\ most < 10 ^ 90 /\ R (iT (tl 400 S.length lo hi most 0 1 0))
theorem C9_ : FnScope ["signs", "shortest", "longest", "most", "many", "power", "length"] ["signs", "shortest", "longest", "most"] (defScope s9_) := fsc (by decide +kernel)
theorem g9_ (h : Has K mg "tails_many" s9_) (B : Own mg)    : PGood P w K mg base 1 "tails_many" ["signs", "shortest", "longest", "most"] ptTails := by
 have nd := C9_.nd
 refine h.pgood C9_ (fun|_,_,_,_,_,_,[_,_,_,_],_=>rfl) (fun f cdv A outer s H E F hr =>
   (us_cons (us_set (i := 4) nd rfl (.inl rfl) ue_int)
   (us_cons (us_set (i := 5) nd rfl (.inl rfl) ue_int)
   (us_cons (us_set (i := 6) nd rfl (.inl rfl) ue_int)
   (us_cons (us_while PassesOwn.never (ub_cmp pu_le (ue_var 6) (ue_var 2) (nomark _))
    (us_cons (us_if (ub_cmp pu_ge (ue_op pu_add (ue_var 4) (ue_var 5)) (ue_var 3) (nomark _))
     (us_one (us_ret (ue_var 3)))
     us_nil)
    (us_cons (us_if (ub_cmp pu_ge (ue_var 6) (ue_var 1) (nomark _))
     (us_one (us_set (i := 4) nd rfl (.inl rfl) (ue_op pu_add (ue_var 4) (ue_var 5))))
     us_nil)
    (us_cons (us_set (i := 5) nd rfl (.inl rfl) (ue_op pu_mul2 (ue_var 5) (ue_callB pu_len rfl B.len PySem.boot_len (ua_c (ue_var 0) ua_nil))))
    (us_one (us_set (i := 6) nd rfl (.inl rfl) (ue_op pu_add (ue_var 6) ue_int)))))))
   (us_one (us_ret (ue_var 4)))))))) (fun as R q => ?_)
 obtain ⟨S, lo, hi, most, rfl, s2, s1, hm, q⟩ := q
 refine ⟨rfl, fun M ρ => ∃ many power len : Int, ρ = [.va (sT S), .va (iT lo), .va (iT hi), .va (iT most), .va (iT many), .va (iT power), .va (iT len)] /\ 0 <= many /\ (2 : Int) ^ (400 - M) <= power /\ 1 <= M /\ M <= 400 /\ R (iT (tl M S.length lo hi most many power len)), ⟨400, 0, 1, 0, rfl, by decide, by decide, by decide, by decide, q⟩, ?_⟩
 rintro M _ ⟨many, power, len, rfl, m0, hp, M1, M4, q⟩
 obtain ⟨M, rfl⟩ : ∃ M', M = M' + 1 := ⟨M - 1, by omega⟩
 rw [tl] at q
 refine ⟨_, rfl, sifd (fun h1 => ?_) (fun h1 => ?_)⟩
 ·rw [if_pos h1] at q
  refine ⟨_, rfl, sifd (fun h2 => ?_) (fun h2 => ?_)⟩
  ·rw [if_pos h2] at q; exact q
  ·rw [if_neg h2] at q
   have pm : power < 10 ^ 90 := by omega
   have hM : 400 - (M + 1) < 300 := by
    refine Nat.lt_of_not_le fun z => ?_
    have a : (2 : Int) ^ 300 <= 2 ^ (400 - (M + 1)) := by exact_mod_cast Nat.pow_le_pow_right (n := 2) (by decide) z
    have b : (10 : Int) ^ 90 < 2 ^ 300 := by decide
    omega
   have p0 : 0 < power := Int.lt_of_lt_of_le (Int.pow_pos (by decide)) hp
   have hp2 : (2 : Int) ^ (400 - M) <= power * (S.length : Nat) := by
    have e : 400 - M = (400 - (M + 1)) + 1 := by omega
    rw [e, Int.pow_succ]
    exact Int.mul_le_mul hp (by omega) (by decide) (by omega)
   refine ⟨_, rfl, sifd (fun h3 => ?_) (fun h3 => ?_)⟩
   ·rw [if_pos h3] at q
    exact ⟨by show S.length <= _; omega, .inr ⟨big_of (by omega) (by omega), big_of (by omega) (by omega)⟩, M, by omega, _, _, _, rfl, by omega, hp2, by omega, by omega, q⟩
   ·rw [if_neg h3] at q
    exact ⟨by show S.length <= _; omega, .inr ⟨big_of (by omega) (by omega), big_of (by omega) (by omega)⟩, M, by omega, _, _, _, rfl, m0, hp2, by omega, by omega, q⟩
 ·rw [if_neg h1] at q
  exact q
def sgsOf (ms : List Str) : List Str := ms.map fun m => (getS SGN m).getD ⟨#[]⟩
theorem getS_mk {m : Str} (h : m ∈ MK) : getS SGN m = some ((getS SGN m).getD ⟨#[]⟩) := by
 simp only [MK, List.mem_cons, List.not_mem_nil, or_false] at h
 rcases h with rfl | rfl | rfl | rfl <;> rfl
theorem sgs_one {m : Str} (h : m ∈ MK) : 10 <= (cs ((getS SGN m).getD ⟨#[]⟩)).length /\ (cs ((getS SGN m).getD ⟨#[]⟩)).length <= 40 := by
 simp only [MK, List.mem_cons, List.not_mem_nil, or_false] at h
 rcases h with rfl | rfl | rfl | rfl <;> decide +kernel
theorem sgs_len : ∀ {ms : List Str}, (∀ m ∈ ms, m ∈ MK) -> 10 * ms.length <= (catS (sgsOf ms)).length /\ (catS (sgsOf ms)).length <= 40 * ms.length
 | [], _ => ⟨Nat.le_refl _, Nat.le_refl _⟩
 | m :: ms, h => by
  have ih := sgs_len fun x hx => h x (List.mem_cons_of_mem _ hx)
  have o := sgs_one (h m (List.mem_cons_self ..))
  have e : (catS (sgsOf (m :: ms))).length = (cs ((getS SGN m).getD ⟨#[]⟩)).length + (catS (sgsOf ms)).length := by
   show (catS (_ :: sgsOf ms)).length = _
   simp [catS]
  rw [e, List.length_cons]
  omega
def ptSignsOf : PSp := fun as R => ∃ (t : Bool) (ms : List Str), as = [.va (.seq t (ms.map sT))] /\ ms.length <= 4 /\ (∀ m ∈ ms, m ∈ MK) /\ R (sT ⟨(catS (sgsOf ms)).toArray⟩)
theorem C10_ : FnScope ["marks"] ["marks"] (defScope s10_) := fsc (by decide +kernel)
theorem g10_ (h : Has K mg "signs_of" s10_) (B : Own mg)  (GSIGNS : GlobD K w.params mg "SIGNS" SGN)  : PGood P w K mg base 1 "signs_of" ["marks"] ptSignsOf := by
 have nd := C10_.nd
 refine h.pgood C10_ (fun|_,_,_,_,_,_,[_],_=>rfl) (fun f cdv A outer s H E F hr =>
   (us_one (us_ret (ue_bmS PySem.F.slot_str_join PySem.F.type_str_join pm_join ue_str (ua_c (ue_ul (ul_comp (sc := defScope s10_) (XN := ["marks"]) (N := ["mark"]) (own := 1) (fr := []) rfl ⟨rfl, by decide +kernel, by decide +kernel, by decide +kernel, rfl, by decide +kernel, by decide, by decide +kernel⟩ (by decide) (ui_val (ue_var 0)) (fun _ _ _ _ _ => (ug_name 0 (by decide) (show (["mark"] : List Str).Nodup by decide +kernel) rfl (by first | exact Or.inl rfl | exact Or.inr rfl))) (fun _ _ _ _ _ => uf_nil) (fun _ _ _ _ _ => (ue_kd GSIGNS rfl (ue_var 0))))) ua_nil))))) (fun as R q => ?_)
 obtain ⟨t, ms, rfl, l4, hm, q⟩ := q
 refine ⟨rfl, rfl, by rw [List.length_map]; omega, compT_of sT (fun m => sT ((getS SGN m).getD ⟨#[]⟩)) (fun m hm' R q => ⟨m, _, rfl, getS_mk (hm m hm'), q⟩) ⟨sgsOf ms, rfl, ?_, ?_, q⟩⟩
 ·unfold sgsOf; rw [List.map_map]; rfl
 ·have := (sgs_len hm).2; omega
def manyW (lo hi : Int) (ms : List Str) (most : Int) : Int := tl 400 ((catS (sgsOf ms)).length : Nat) lo hi most 0 1 0
def ptManyM : PSp := fun as R => ∃ (hd : Tv) (lo hi most : Int) (ms : List Str), as = [.va (.seq true [sT "make", hd, iT lo, iT hi, .seq true (ms.map sT)]), .va (iT most)] /\ ms ≠ [] /\ ms.length <= 4 /\ (∀ m ∈ ms, m ∈ MK) /\ most < 10 ^ 90 /\ R (iT (manyW lo hi ms most))
theorem C11_ : FnScope ["words", "most"] ["words", "most"] (defScope s11_) := fsc (by decide +kernel)
theorem g11_ (h : Has K mg "words_many" s11_) (B : Own mg) (G9_ : PGood P w K mg base 1 "tails_many" ["signs", "shortest", "longest", "most"] ptTails) (G10_ : PGood P w K mg base 1 "signs_of" ["marks"] ptSignsOf)   : PGood P w K mg base 2 "words_many" ["words", "most"] ptManyM := by
 have nd := C11_.nd
 refine h.pgood C11_ (fun|_,_,_,_,_,_,[_,_],_=>rfl) (fun f cdv A outer s H E F hr =>
   (us_cons (us_if (ub_cmp (pu_eq hr.units) (ue_ix (pu_ix hr.units) (ue_var 0) ue_int) ue_str (nomark _))
    (us_one (us_ret (ue_callB (pu_min rfl) rfl B.min boot_min (ua_c (ue_callB pu_len rfl B.len PySem.boot_len (ua_c (ue_ix (pu_ix hr.units) (ue_var 0) ue_int) ua_nil)) (ua_c (ue_var 1) ua_nil)))))
    us_nil)
   (us_one (us_ret (ue_fn G9_ (hr.mono (by omega)) rfl (ua_c (ue_fn G10_ (hr.mono (by omega)) rfl (ua_c (ue_ix (pu_ix hr.units) (ue_var 0) ue_int) ua_nil)) (ua_c (ue_ix (pu_ix hr.units) (ue_var 0) ue_int) (ua_c (ue_ix (pu_ix hr.units) (ue_var 0) ue_int) (ua_c (ue_var 1) ua_nil))))))))) (fun as R q => ?_)
 obtain ⟨hd, lo, hi, most, ms, rfl, n0, l4, hm, h9, q⟩ := q
 have sl := sgs_len hm
 have p : 0 < ms.length := List.length_pos_iff.mpr n0
 refine ⟨rfl, _, rfl, _, rfl, sifS (fun e => absurd e (by decide +kernel)) fun _ => ⟨_, rfl, true, ms, rfl, l4, hm, _, rfl, _, rfl, ⟨(catS (sgsOf ms)).toArray⟩, lo, hi, most, rfl, ?_, ?_, h9, q⟩⟩
 ·show 2 <= (catS (sgsOf ms)).length; omega
 ·show (catS (sgsOf ms)).length <= _; omega
end
end My
namespace My
open PySem L2 PyProof.Rows WordM
section
variable {P : Program} {w : World} {K : PySem.W.Frag} {mg : Str -> Option Value} {base : Heap}
def FlE : Nat -> Tv -> Prop
 | 0, _ => False
 | _ + 1, .leaf v => flatV v = true /\ (∀ s, v = .str s -> s.length <= 1000) /\ ∀ i, v = .int i -> i < 10 ^ 90
 | n + 1, .seq _ l => l.length <= 100 /\ (∀ x ∈ l, FlE n x) /\ ∀ a b f, l = [a, b, iT 0, f] -> ∀ kts, f ≠ .dct kts
 | _ + 1, .dct _ => True
theorem FlE.up : ∀ {n : Nat} {U : Tv}, FlE n U -> FlE (n + 1) U
 | 0, _, h => False.elim h
 | n + 1, .leaf v, h => h
 | n + 1, .seq _ l, h => ⟨h.1, fun x hx => (h.2.1 x hx).up, h.2.2⟩
 | n + 1, .dct _, _ => trivial
theorem FlE.le {n m : Nat} {U : Tv} (h : n <= m) (f : FlE n U) : FlE m U := by
 induction m with
 | zero => rw [Nat.le_zero.mp h] at f; exact f
 | succ m ih =>
  rcases Nat.lt_or_eq_of_le h with z | z
  ·exact (ih (by omega)).up
  ·rw [<- z]; exact f
theorem FlE.fld : ∀ {n j : Nat} {U : Tv}, FlE n U -> FlD j U
 | 0, _, _, h => False.elim h
 | n + 1, 0, _, _ => trivial
 | n + 1, j + 1, .leaf v, h => ⟨h.1, h.2.1⟩
 | n + 1, j + 1, .seq _ l, h => ⟨h.1, fun x hx => (h.2.1 x hx).fld⟩
 | n + 1, j + 1, .dct _, _ => trivial
variable {k : Nat}
def someB (fm : Tv -> Bool) (U : Tv) : Bool := fm U && (match U with | .seq true [] => false | _ => true)
def KNS : List Str := ["nothing", "truth", "number", "text", "list", "dict"]
def ptForm (k : Nat) (fm : Tv -> Bool) : PSp := fun as R => ∃ U, as = [.va U] /\ FlE (2 * k) U /\ R (bT (fm U))
def Tup (fm : Tv -> Bool) : Prop := ∀ U, fm U = true -> ∃ l, U = .seq true l
variable {fm : Tv -> Bool} {L : Nat}
def ptSome (k : Nat) (fm : Tv -> Bool) : PSp := fun as R => ∃ U, as = [.va U] /\ FlE (2 * k) U /\ R (bT (someB fm U))
theorem C15_ : FnScope ["thing"] ["thing"] (defScope s15_) := fsc (by decide +kernel)
theorem g15_ (h : Has K mg "lets_some_by" s15_) (B : Own mg) (G22_ : PGood P w K mg base (L + 6) "is_form" ["thing"] (ptForm k fm))  (tp : Tup fm) : PGood P w K mg base (L + 7) "lets_some_by" ["thing"] (ptSome k fm) := by
 have nd := C15_.nd
 refine h.pgood C15_ (fun|_,_,_,_,_,_,[_],_=>rfl) (fun f cdv A outer s H E F hr =>
   (us_one (us_ret (ue_and (ue_fn G22_ (hr.mono (by omega)) rfl (ua_c (ue_var 0) ua_nil)) (ue_one (ue_cmp (pu_ne hr.units).op (ue_var 0) (ue_tup ua_nil) (nomark _))))))) (fun as R q => ?_)
 obtain ⟨U, rfl, fu, q⟩ := q
 refine ⟨rfl, U, rfl, fu, _, rfl, ?_⟩
 cases e : fm U with
 | false =>
  unfold someB at q
  rw [e, Bool.false_and] at q
  exact iteF q
 | true =>
  obtain ⟨l, rfl⟩ := tp U e
  unfold someB at q
  rw [e, Bool.true_and] at q
  refine iteT ⟨by simp, .inr (.inl rfl), ?_⟩
  cases l with
  | nil => exact q
  | cons x l => exact q
def nilB : Tv -> Bool
 | .seq true [] => true
 | _ => false
def zeroB : Tv -> Bool
 | .leaf (.int i) => decide (i = 0)
 | _ => false
def listsF (fm : Tv -> Bool) : List Tv -> Bool
 | [_, lo, hi, f] => bndB lo hi && (if zeroB hi then nilB f else someB fm f)
 | _ => false
theorem listsF_len {l : List Tv} (h : l.length ≠ 4) : listsF fm l = false := by
 match l, h with
 | [], _ => rfl
 | [_], _ => rfl
 | [_, _], _ => rfl
 | [_, _, _], _ => rfl
 | [_, _, _, _], h => exact absurd rfl h
 | _ :: _ :: _ :: _ :: _ :: _, _ => rfl
theorem ne_len {l : List Tv} {m : Nat} (h : l.length ≠ m) : (true != eqV (.int (l.length : Nat)) (.int (m : Nat))) = true := by
 have : ¬ ((l.length : Nat) : Int) = (m : Nat) := by omega
 simpa [eqV] using this
theorem bnd_int {U V : Tv} (h : bndB U V = true) : ∃ a b, U = iT a /\ V = iT b /\ 0 <= a /\ a <= b := by
 unfold bndB at h
 split at h
 ·simp only [Bool.and_eq_true, decide_eq_true_iff] at h
  exact ⟨_, _, rfl, rfl, h.1, h.2⟩
 ·cases h
theorem eq_zero (i : Int) : (false != eqV (.int i) (.int 0)) = decide (i = 0) := by
 by_cases z : i = 0
 ·subst z; rfl
 ·rw [decide_eq_false z]; simpa [eqV] using z
def ptLists (k : Nat) (fm : Tv -> Bool) : PSp := fun as R => ∃ l, as = [.va (.seq true l)] /\ FlE (2 * k + 1) (.seq true l) /\ R (bT (listsF fm l))
theorem C16_ : FnScope ["thing"] ["thing"] (defScope s16_) := fsc (by decide +kernel)
theorem g16_ (h : Has K mg "is_lists" s16_) (B : Own mg) (G14_ : PGood P w K mg base 2 "are_bounds" ["least", "most"] ptBounds) (G15_ : PGood P w K mg base (L + 7) "lets_some_by" ["thing"] (ptSome k fm))   : PGood P w K mg base (L + 8) "is_lists" ["thing"] (ptLists k fm) := by
 have nd := C16_.nd
 refine h.pgood C16_ (fun|_,_,_,_,_,_,[_],_=>rfl) (fun f cdv A outer s H E F hr =>
   (us_cons (us_if (ub_w (uw_or (ub_cmp (pu_ne hr.units) (ue_callB pu_len rfl B.len PySem.boot_len (ua_c (ue_var 0) ua_nil)) ue_int (nomark _)) (uw_or1 (ub_not (ub_val (ue_fn G14_ (hr.mono (by omega)) rfl (ua_c (ue_ix (pu_ix hr.units) (ue_var 0) ue_int) (ua_c (ue_ix (pu_ix hr.units) (ue_var 0) ue_int) ua_nil))))))))
    (us_one (us_ret ue_bl))
    us_nil)
   (us_one (us_ret (ue_ifExp (ub_cmp (pu_eq hr.units) (ue_ix (pu_ix hr.units) (ue_var 0) ue_int) ue_int (nomark _)) (ue_cmp (pu_eq hr.units).op (ue_ix (pu_ix hr.units) (ue_var 0) ue_int) (ue_tup ua_nil) (nomark _)) (ue_fn G15_ (hr.mono (by omega)) rfl (ua_c (ue_ix (pu_ix hr.units) (ue_var 0) ue_int) ua_nil))))))) (fun as R q => ?_)
 obtain ⟨l, rfl, fl, q⟩ := q
 by_cases l4 : l.length = 4
 ·match l, l4 with
  | [w, lo, hi, f], _ =>
   have flo : FlE (2 * k) lo := fl.2.1 lo (by simp)
   have fhi : FlE (2 * k) hi := fl.2.1 hi (by simp)
   have ff : FlE (2 * k) f := fl.2.1 f (by simp)
   have q2 : R (bT (bndB lo hi && (if zeroB hi then nilB f else someB fm f))) := q
   refine ⟨rfl, _, rfl, iteF ⟨_, rfl, _, rfl, lo, hi, rfl, (flo.fld (j := 1)).ok, (fhi.fld (j := 1)).ok, _, rfl, ?_⟩⟩
   cases bb : bndB lo hi with
   | false => rw [bb, Bool.false_and] at q2; exact iteT q2
   | true =>
    rw [bb, Bool.true_and] at q2
    obtain ⟨a, b, rfl, rfl, a0, ab⟩ := bnd_int bb
    refine iteF ⟨_, rfl, _, rfl, ?_⟩
    have q3 : R (bT (if decide (b = 0) then nilB f else someB fm f)) := q2
    rw [eq_zero]
    by_cases z : b = 0
    ·rw [decide_eq_true z, if_pos rfl] at q3
     rw [decide_eq_true z]
     subst z
     refine iteT ⟨_, rfl, by simp, ?_⟩
     cases f with
     | leaf v => exact q3
     | dct kts => exact absurd rfl (fl.2.2 w (iT a) _ rfl kts)
     | seq t xs =>
      refine ⟨.inr (.inl rfl), ?_⟩
      show R (bT (false != ((t == true) && eqTs xs [])))
      have e : (false != ((t == true) && eqTs xs [])) = nilB (.seq t xs) := by
       cases t <;> cases xs <;> simp [eqTs, nilB]
      rw [e]; exact q3
    ·rw [decide_eq_false z, if_neg Bool.false_ne_true] at q3
     rw [decide_eq_false z]
     exact iteF ⟨_, rfl, f, rfl, ff, q3⟩
 ·rw [listsF_len l4] at q
  refine ⟨rfl, _, rfl, ?_⟩
  show if (true != eqV (.int (l.length : Nat)) (.int (4 : Nat))) = true then _ else _
  rw [ne_len l4]
  exact iteT q
def fieldF (fm : Tv -> Bool) : Tv -> Bool
 | .seq true [n, m, f] => txB n && (isiT "bool" m && someB fm f)
 | _ => false
def ptField (k : Nat) (fm : Tv -> Bool) : PSp := fun as R => ∃ U, as = [.va U] /\ FlE (2 * k + 1) U /\ R (bT (fieldF fm U))
theorem C17_ : FnScope ["thing"] ["thing"] (defScope s17_) := fsc (by decide +kernel)
theorem g17_ (h : Has K mg "is_field" s17_) (B : Own mg) (G15_ : PGood P w K mg base (L + 7) "lets_some_by" ["thing"] (ptSome k fm)) (G2_ : PGood P w K mg base 2 "is_text" ["thing"] ptIsText)   : PGood P w K mg base (L + 8) "is_field" ["thing"] (ptField k fm) := by
 have nd := C17_.nd
 refine h.pgood C17_ (fun|_,_,_,_,_,_,[_],_=>rfl) (fun f cdv A outer s H E F hr =>
   (us_cons (us_if (ub_w (uw_or (ub_not (ub_val (ue_isi "tuple" call_isi_tuple rfl B.isinstance (ue_var 0) (pe_bltn (v := .ty "tuple") rfl B.tuple_ boot_tuple rfl)))) (uw_or1 (ub_cmp (pu_ne hr.units) (ue_callB pu_len rfl B.len PySem.boot_len (ua_c (ue_var 0) ua_nil)) ue_int (nomark _)))))
    (us_one (us_ret ue_bl))
    us_nil)
   (us_one (us_ret (ue_and (ue_fn G2_ (hr.mono (by omega)) rfl (ua_c (ue_ix (pu_ix hr.units) (ue_var 0) ue_int) ua_nil)) (ue_and (ue_isi "bool" call_isi_bool rfl B.isinstance (ue_ix (pu_ix hr.units) (ue_var 0) ue_int) (pe_bltn (v := .ty "bool") rfl B.bool_ boot_bool rfl)) (ue_one (ue_fn G15_ (hr.mono (by omega)) rfl (ua_c (ue_ix (pu_ix hr.units) (ue_var 0) ue_int) ua_nil))))))))) (fun as R q => ?_)
 obtain ⟨U, rfl, fb, q⟩ := q
 rcases anyU (fb.fld (j := 1)).ok with rfl | ⟨c, rfl⟩ | ⟨i, rfl⟩ | ⟨s, rfl⟩ | ⟨t, l, rfl⟩ | ⟨kts, rfl⟩
 ·exact ⟨rfl, _, rfl, iteT q⟩
 ·exact ⟨rfl, _, rfl, iteT q⟩
 ·exact ⟨rfl, _, rfl, iteT q⟩
 ·exact ⟨rfl, _, rfl, iteT q⟩
 ·cases t with
  | false => exact ⟨rfl, _, rfl, iteT q⟩
  | true =>
   by_cases l3 : l.length = 3
   ·match l, l3 with
    | [n, m, f], _ =>
     have fn : FlE (2 * k) n := fb.2.1 n (by simp)
     have ff : FlE (2 * k) f := fb.2.1 f (by simp)
     have q : R (bT (txB n && (isiT "bool" m && someB fm f))) := q
     refine ⟨rfl, _, rfl, iteF ⟨_, rfl, iteF ⟨_, rfl, n, rfl, (fn.fld (j := 1)).ok, (fn.fld (j := 1)).tx, _, rfl, ?_⟩⟩⟩
     cases tn : txB n with
     | false => rw [tn, Bool.false_and] at q; exact iteF q
     | true =>
      rw [tn, Bool.true_and] at q
      refine iteT ⟨_, rfl, _, rfl, ?_⟩
      cases tm : isiT "bool" m with
      | false => rw [tm, Bool.false_and] at q; exact iteF q
      | true =>
       rw [tm, Bool.true_and] at q
       exact iteT ⟨_, rfl, f, rfl, ff, q⟩
   ·have e : fieldF fm (.seq true l) = false := by
     match l, l3 with
     | [], _ => rfl
     | [_], _ => rfl
     | [_, _], _ => rfl
     | [_, _, _], h => exact absurd rfl h
     | _ :: _ :: _ :: _ :: _, _ => rfl
    rw [e] at q
    refine ⟨rfl, _, rfl, iteF ⟨_, rfl, ?_⟩⟩
    show if (true != eqV (.int (l.length : Nat)) (.int (3 : Nat))) = true then _ else _
    rw [ne_len l3]
    exact iteT q
 ·exact ⟨rfl, _, rfl, iteT q⟩
def nmOf : Tv -> Tv
 | .seq _ (n :: _) => n
 | _ => nT
def fieldsF (fm : Tv -> Bool) : Tv -> Bool
 | .seq true fs => decide (fs.length <= 8) && (fs.all (fieldF fm) && riseB (fs.map fun f => strOf (nmOf f)))
 | _ => false
theorem field_nm {U : Tv} (h : fieldF fm U = true) : ∃ n m f, U = .seq true [sT n, m, f] := by
 unfold fieldF at h
 split at h
 ·rename_i n m f
  exact ⟨strOf n, m, f, by rw [<- txB_str (Bool.and_eq_true_iff.mp h).1]⟩
 ·cases h
def ptFields (k : Nat) (fm : Tv -> Bool) : PSp := fun as R => ∃ U, as = [.va U] /\ FlE (2 * k + 2) U /\ R (bT (fieldsF fm U))
theorem C18_ : FnScope ["thing"] ["thing"] (defScope s18_) := fsc (by decide +kernel)
theorem g18_ (h : Has K mg "are_fields" s18_) (B : Own mg) (G4_ : PGood P w K mg base 1 "rises" ["things"] ptRises3) (G17_ : PGood P w K mg base (L + 8) "is_field" ["thing"] (ptField k fm)) (GMOST_FIELDS : GlobT K mg "MOST_FIELDS" (iT 8))  : PGood P w K mg base (L + 9) "are_fields" ["thing"] (ptFields k fm) := by
 have nd := C18_.nd
 refine h.pgood C18_ (fun|_,_,_,_,_,_,[_],_=>rfl) (fun f cdv A outer s H E F hr =>
   (us_cons (us_if (ub_w (uw_or (ub_not (ub_val (ue_isi "tuple" call_isi_tuple rfl B.isinstance (ue_var 0) (pe_bltn (v := .ty "tuple") rfl B.tuple_ boot_tuple rfl)))) (uw_or1 (ub_cmp pu_gt (ue_callB pu_len rfl B.len PySem.boot_len (ua_c (ue_var 0) ua_nil)) (ue_gl GMOST_FIELDS rfl) (nomark _)))))
    (us_one (us_ret ue_bl))
    us_nil)
   (us_one (us_ret (ue_and (ue_callB (pu_all rfl) rfl B.all boot_all (ua_c (ue_ul (ul_comp (sc := defScope s18_) (XN := ["thing"]) (N := ["field"]) (own := 1) (fr := []) rfl ⟨rfl, by decide +kernel, by decide +kernel, by decide +kernel, rfl, by decide +kernel, by decide, by decide +kernel⟩ (by decide) (ui_val (ue_var 0)) (fun _ _ _ _ _ => (ug_name 0 (by decide) (show (["field"] : List Str).Nodup by decide +kernel) rfl (by first | exact Or.inl rfl | exact Or.inr rfl))) (fun _ _ _ _ _ => uf_nil) (fun _ _ _ _ _ => (ue_fn G17_ (hr.mono (by omega)) rfl (ua_c (ue_var 0) ua_nil))))) ua_nil)) (ue_one (ue_fn G4_ (hr.mono (by omega)) rfl (ua_c (ue_ul (ul_comp (sc := defScope s18_) (XN := ["thing"]) (N := ["field"]) (own := 1) (fr := []) rfl ⟨rfl, by decide +kernel, by decide +kernel, by decide +kernel, rfl, by decide +kernel, by decide, by decide +kernel⟩ (by decide) (ui_val (ue_var 0)) (fun _ _ _ _ _ => (ug_name 0 (by decide) (show (["field"] : List Str).Nodup by decide +kernel) rfl (by first | exact Or.inl rfl | exact Or.inr rfl))) (fun _ _ _ _ _ => uf_nil) (fun _ _ _ _ _ => (ue_ix (pu_ix hr.units) (ue_var 0) ue_int)))) ua_nil)))))))) (fun as R q => ?_)
 obtain ⟨U, rfl, fb, q⟩ := q
 rcases anyU (fb.fld (j := 1)).ok with rfl | ⟨c, rfl⟩ | ⟨i, rfl⟩ | ⟨s, rfl⟩ | ⟨t, fs, rfl⟩ | ⟨kts, rfl⟩
 ·exact ⟨rfl, _, rfl, iteT q⟩
 ·exact ⟨rfl, _, rfl, iteT q⟩
 ·exact ⟨rfl, _, rfl, iteT q⟩
 ·exact ⟨rfl, _, rfl, iteT q⟩
 ·cases t with
  | false => exact ⟨rfl, _, rfl, iteT q⟩
  | true =>
   have q : R (bT (decide (fs.length <= 8) && (fs.all (fieldF fm) && riseB (fs.map fun f => strOf (nmOf f))))) := q
   refine ⟨rfl, _, rfl, iteF ⟨_, rfl, sifd (fun h8 => ?_) (fun h8 => ?_)⟩⟩
   ·have h8' : ¬ fs.length <= 8 := by have h8 : (8 : Int) < (fs.length : Nat) := h8; omega
    rw [decide_eq_false h8', Bool.false_and] at q
    exact q
   ·have h8' : fs.length <= 8 := by have h8 : ¬ (8 : Int) < (fs.length : Nat) := h8; omega
    rw [decide_eq_true h8', Bool.true_and] at q
    refine ⟨by omega, compT_map (fun f => bT (fieldF fm f)) (fun f hf R q => ⟨f, rfl, fb.2.1 f hf, q⟩) ⟨fs.map (fieldF fm), by rw [List.map_map]; rfl, ?_⟩⟩
    rw [List.all_map]
    refine ⟨_, rfl, sif (fun h3 => ?_) (fun h3 => ?_)⟩
    ·have h3 : fs.all (fieldF fm) = true := h3
     rw [h3, Bool.true_and] at q
     have h3 := List.all_eq_true.mp h3
     refine ⟨by omega, compT_map nmOf (fun f hf R q => ?_) ?_⟩
     ·obtain ⟨n, m, g, rfl⟩ := field_nm (h3 f hf)
      exact ⟨_, rfl, q⟩
     ·refine .inl ⟨false, fs.map fun f => strOf (nmOf f), ?_, by rw [List.length_map]; omega, q⟩
      rw [List.map_map]
      refine congrArg (fun l => [Ar.va (Tv.seq false l)]) (List.map_congr_left fun f hf => ?_)
      obtain ⟨n, m, g, rfl⟩ := field_nm (h3 f hf)
      rfl
    ·have h3 : fs.all (fieldF fm) = false := h3
     rw [h3, Bool.false_and] at q
     exact q
 ·exact ⟨rfl, _, rfl, iteT q⟩
end
end My
namespace My
open PySem L2 PyProof.Rows WordM
section
variable {P : Program} {w : World} {K : PySem.W.Frag} {mg : Str -> Option Value} {base : Heap}
variable {k L : Nat} {fm : Tv -> Bool}
theorem nxE {N : PEnv -> Prop} {ρ ρ' : PEnv} (e : ρ = ρ') (h : N ρ') : N ρ := e ▸ h
def mustF : Tv -> Bool
 | .seq _ (_ :: m :: _) => blOf m
 | _ => false
def recN (lo hi : Tv) (F : List Tv) : Bool := match lo, hi with
 | .leaf (.int a), .leaf (.int b) =>
  let m : Int := ((F.filter mustF).length : Nat)
  let n : Int := (F.length : Nat)
  if m < n /\ (a = n \/ b = m) then false else decide (m <= a) && decide (b <= n)
 | _, _ => false
def recM (lo hi : Tv) : Tv -> Bool
 | .seq _ F => recN lo hi F
 | _ => false
def recF (fm : Tv -> Bool) : List Tv -> Bool
 | [_, lo, hi, fs] => bndB lo hi && (fieldsF fm fs && recM lo hi fs)
 | _ => false
theorem recF_len {l : List Tv} (h : l.length ≠ 4) : recF fm l = false := by
 match l, h with
 | [], _ => rfl
 | [_], _ => rfl
 | [_, _], _ => rfl
 | [_, _, _], _ => rfl
 | [_, _, _, _], h => exact absurd rfl h
 | _ :: _ :: _ :: _ :: _ :: _, _ => rfl
theorem fields_tup {U : Tv} (h : fieldsF fm U = true) : ∃ F, U = .seq true F /\ F.length <= 8 /\ ∀ f ∈ F, ∃ n b g, f = .seq true [n, bT b, g] := by
 unfold fieldsF at h
 split at h
 ·rename_i fs
  have h1 := Bool.and_eq_true_iff.mp h
  have h2 := Bool.and_eq_true_iff.mp h1.2
  refine ⟨_, rfl, of_decide_eq_true h1.1, fun f hf => ?_⟩
  have hf := List.all_eq_true.mp h2.1 f hf
  unfold fieldF at hf
  split at hf
  ·rename_i n m g _
   have e := Bool.and_eq_true_iff.mp hf
   have e := Bool.and_eq_true_iff.mp e.2
   exact ⟨n, blOf m, g, by rw [<- bl_of e.1]⟩
  ·cases hf
 ·cases h
def ptRecord (k : Nat) (fm : Tv -> Bool) : PSp := fun as R => ∃ l, as = [.va (.seq true l)] /\ FlE (2 * k + 1) (.seq true l) /\ R (bT (recF fm l))
theorem C19_ : FnScope ["thing", "least", "most", "names", "musts"] ["thing"] (defScope s19_) := fsc (by decide +kernel)
theorem g19_ (h : Has K mg "is_record" s19_) (B : Own mg) (G18_ : PGood P w K mg base (L + 9) "are_fields" ["thing"] (ptFields k fm)) (G14_ : PGood P w K mg base 2 "are_bounds" ["least", "most"] ptBounds)   : PGood P w K mg base (L + 10) "is_record" ["thing"] (ptRecord k fm) := by
 have nd := C19_.nd
 refine h.pgood C19_ (fun|_,_,_,_,_,_,[_],_=>rfl) (fun f cdv A outer s H E F hr =>
   (us_cons (us_if (ub_w (uw_or (ub_cmp (pu_ne hr.units) (ue_callB pu_len rfl B.len PySem.boot_len (ua_c (ue_var 0) ua_nil)) ue_int (nomark _)) (uw_or (ub_not (ub_val (ue_fn G14_ (hr.mono (by omega)) rfl (ua_c (ue_ix (pu_ix hr.units) (ue_var 0) ue_int) (ua_c (ue_ix (pu_ix hr.units) (ue_var 0) ue_int) ua_nil))))) (uw_or1 (ub_not (ub_val (ue_fn G18_ (hr.mono (by omega)) rfl (ua_c (ue_ix (pu_ix hr.units) (ue_var 0) ue_int) ua_nil))))))))
    (us_one (us_ret ue_bl))
    us_nil)
   (us_cons (us_set (i := 1) nd rfl (.inl rfl) (ue_ix (pu_ix hr.units) (ue_var 0) ue_int))
   (us_cons (us_set (i := 2) nd rfl (.inl rfl) (ue_ix (pu_ix hr.units) (ue_var 0) ue_int))
   (us_cons (us_set (i := 3) nd rfl (.inl rfl) (ue_callB pu_len rfl B.len PySem.boot_len (ua_c (ue_ix (pu_ix hr.units) (ue_var 0) ue_int) ua_nil)))
   (us_cons (us_set (i := 4) nd rfl (.inl rfl) (ue_callB pu_len rfl B.len PySem.boot_len (ua_c (ue_ul (ul_comp (sc := defScope s19_) (XN := ["thing", "least", "most", "names", "musts"]) (N := ["field"]) (own := 1) (fr := []) rfl ⟨rfl, by decide +kernel, by decide +kernel, by decide +kernel, rfl, by decide +kernel, by decide, by decide +kernel⟩ (by decide) (ui_val (ue_ix (pu_ix hr.units) (ue_var 0) ue_int)) (fun _ _ _ _ _ => (ug_name 0 (by decide) (show (["field"] : List Str).Nodup by decide +kernel) rfl (by first | exact Or.inl rfl | exact Or.inr rfl))) (fun _ _ _ _ _ => (uf_one (ub_val (ue_ix (pu_ix hr.units) (ue_var 0) ue_int)))) (fun _ _ _ _ _ => (ue_var 0)))) ua_nil)))
   (us_cons (us_if (ub_w (uw_and (ub_cmp pu_lt (ue_var 4) (ue_var 3) (nomark _)) (uw_and1 (ub_w (uw_or (ub_cmp (pu_eq hr.units) (ue_var 1) (ue_var 3) (nomark _)) (uw_or1 (ub_cmp (pu_eq hr.units) (ue_var 2) (ue_var 4) (nomark _))))))))
    (us_one (us_ret ue_bl))
    us_nil)
   (us_one (us_ret (ue_and (ue_cmp (pu_le).op (ue_var 4) (ue_var 1) (nomark _)) (ue_one (ue_cmp (pu_le).op (ue_var 2) (ue_var 3) (nomark _))))))))))))) (fun as R q => ?_)
 obtain ⟨l, rfl, fl, q⟩ := q
 by_cases l4 : l.length = 4
 ·match l, l4 with
  | [w, lo, hi, fs], _ =>
   have flo : FlE (2 * k) lo := fl.2.1 lo (by simp)
   have fhi : FlE (2 * k) hi := fl.2.1 hi (by simp)
   have ff : FlE (2 * k + 2) fs := (fl.2.1 fs (by simp)).le (by omega)
   have q2 : R (bT (bndB lo hi && (fieldsF fm fs && recM lo hi fs))) := q
   refine ⟨rfl, _, rfl, iteF ⟨_, rfl, _, rfl, lo, hi, rfl, (flo.fld (j := 1)).ok, (fhi.fld (j := 1)).ok, _, rfl, ?_⟩⟩
   cases bb : bndB lo hi with
   | false => rw [bb, Bool.false_and] at q2; exact iteT q2
   | true =>
    rw [bb, Bool.true_and] at q2
    obtain ⟨a, b, rfl, rfl, a0, ab⟩ := bnd_int bb
    refine iteF ⟨_, rfl, fs, rfl, ff, _, rfl, ?_⟩
    cases ef : fieldsF fm fs with
    | false => rw [ef, Bool.false_and] at q2; exact iteT q2
    | true =>
     rw [ef, Bool.true_and] at q2
     obtain ⟨F, rfl, F8, hF⟩ := fields_tup ef
     have q3 : R (bT (recN (iT a) (iT b) F)) := q2
     refine iteF ⟨_, rfl, _, rfl, _, rfl, _, rfl, by omega, compT_fm (fun f => if mustF f = true then some f else none) (fun f hf R q => ?_) ?_⟩
     ·obtain ⟨n, c, g, rfl⟩ := hF f hf
      refine ⟨_, rfl, _, rfl, ?_⟩
      cases c
      ·exact iteF q
      ·exact iteT q
     show PEnds.nx _ _
     have ll : (F.filterMap fun f => if mustF f = true then some f else none).length = (F.filter mustF).length := by
      generalize F = l
      induction l with
      | nil => rfl
      | cons x l ih =>
       rw [List.filterMap_cons, List.filter_cons]
       cases mustF x with
       | true => rw [if_pos rfl, if_pos rfl]; simpa using ih
       | false => rw [if_neg Bool.false_ne_true, if_neg Bool.false_ne_true]; exact ih
     rw [ll]
     refine nxE (ρ' := [.va (.seq true [w, iT a, iT b, .seq true F]), .va (iT a), .va (iT b), .va (iT (F.length : Nat)), .va (iT ((F.filter mustF).length : Nat))]) rfl ?_
     generalize hm : (F.filter mustF).length = m at ll
     have q4 : R (bT (if ((m : Nat) : Int) < (F.length : Nat) /\ (a = (F.length : Nat) \/ b = (m : Nat)) then false else decide (((m : Nat) : Int) <= a) && decide (b <= (F.length : Nat)))) := by
      rw [<- hm]; exact q3
     refine ⟨_, rfl, sifd (fun h1 => ⟨_, rfl, sifI (fun h2 => ?_) (fun h2 => ⟨_, rfl, sifI (fun h3 => ?_) (fun h3 => ?_)⟩)⟩) (fun h1 => ?_)⟩
     ·rw [if_pos ⟨h1, .inl h2⟩] at q4; exact q4
     ·rw [if_pos ⟨h1, .inr h3⟩] at q4; exact q4
     ·rw [if_neg (fun z => z.2.elim h2 h3)] at q4
      exact ⟨_, rfl, sifd (fun g => by rw [decide_eq_true g, Bool.true_and] at q4; exact q4) (fun g => by rw [decide_eq_false g, Bool.false_and] at q4; exact q4)⟩
     ·rw [if_neg (fun z => h1 z.1)] at q4
      exact ⟨_, rfl, sifd (fun g => by rw [decide_eq_true g, Bool.true_and] at q4; exact q4) (fun g => by rw [decide_eq_false g, Bool.false_and] at q4; exact q4)⟩
 ·rw [recF_len l4] at q
  refine ⟨rfl, _, rfl, ?_⟩
  show if (true != eqV (.int (l.length : Nat)) (.int (4 : Nat))) = true then _ else _
  rw [ne_len l4]
  exact iteT q
def tabN : Tv -> Tv -> Bool
 | .leaf (.int b), .seq true [_, _, .leaf (.int lo), .leaf (.int hi), .seq true ms] => decide (b ≠ 0) && decide (b <= manyW lo hi (ms.map strOf) b)
 | _, _ => false
theorem tabN_zero {wd : Tv} : tabN (iT 0) wd = false := by
 unfold tabN
 split
 ·rename_i b _ _ lo hi ms e
  have : b = 0 := by cases e; rfl
  subst this; rfl
 ·rfl
def tabF (fm : Tv -> Bool) : List Tv -> Bool
 | [_, lo, hi, wd, f] => bndB lo hi && (wordsB wd && (tabN hi wd && someB fm f))
 | _ => false
theorem tabF_len {l : List Tv} (h : l.length ≠ 5) : tabF fm l = false := by
 match l, h with
 | [], _ => rfl
 | [_], _ => rfl
 | [_, _], _ => rfl
 | [_, _, _], _ => rfl
 | [_, _, _, _], _ => rfl
 | [_, _, _, _, _], h => exact absurd rfl h
 | _ :: _ :: _ :: _ :: _ :: _ :: _, _ => rfl
theorem eqT_is {a : Tv} {s : Str} (h : L2.eqT a (sT s) = true) : a = sT s := by
 cases a with
 | leaf v =>
  cases v with
  | str z => simp [L2.eqT, eqV] at h; subst h; rfl
  | _ => simp [L2.eqT, eqV] at h
 | _ => simp [L2.eqT] at h
theorem words_two {U : Tv} (h : wordsB U = true) : (∃ b, U = .seq true [sT "few", b]) \/ ∃ hd lo hi ms, U = .seq true [sT "make", hd, iT lo, iT hi, .seq true (ms.map sT)] /\ ms ≠ [] /\ ms.length <= 4 /\ ∀ m ∈ ms, m ∈ MK := by
 unfold wordsB at h
 split at h
 ·rename_i a l
  split at h
  ·rename_i ef
   unfold fewW at h
   split at h
   ·rename_i b e
    obtain ⟨rfl, rfl⟩ := List.cons.inj e
    exact .inl ⟨b, by rw [eqT_is ef]⟩
   ·cases h
  ·obtain ⟨em, h2⟩ := Bool.and_eq_true_iff.mp h
   clear h
   unfold makeW at h2
   split at h2
   ·rename_i hd lo hi ms e
    obtain ⟨rfl, rfl⟩ := List.cons.inj e
    obtain ⟨t1, t2⟩ := Bool.and_eq_true_iff.mp h2
    obtain ⟨hm, hn⟩ := Bool.and_eq_true_iff.mp t2
    unfold numW at hn
    split at hn
    ·unfold marksB at hm
     split at hm
     ·rename_i ts
      obtain ⟨n0, hm⟩ := Bool.and_eq_true_iff.mp hm
      obtain ⟨am, rs⟩ := Bool.and_eq_true_iff.mp hm
      have mm : ∀ m ∈ ts.map strOf, m ∈ MK := fun x hx => by
       obtain ⟨U, hU, rfl⟩ := List.mem_map.mp hx
       exact (mkB_str (List.all_eq_true.mp am U hU)).2
      have nd : (ts.map strOf).Nodup := ((riseB_iff _).mp rs).imp fun h e => lt_ne h e
      refine .inr ⟨hd, _, _, ts.map strOf, by rw [eqT_is em, <- all_mk' am], ?_, WordM.nodup_len nd mm, mm⟩
      intro e
      exact of_decide_eq_true n0 (List.map_eq_nil_iff.mp e)
     ·cases hm
    ·cases hn
   ·cases h2
 ·cases h
theorem strs_of (ms : List Str) : (ms.map sT).map strOf = ms := by
 rw [List.map_map]; exact List.map_id ms
def ptTable (k : Nat) (fm : Tv -> Bool) : PSp := fun as R => ∃ l, as = [.va (.seq true l)] /\ FlE (2 * k + 1) (.seq true l) /\ R (bT (tabF fm l))
theorem C20_ : FnScope ["thing", "most", "make"] ["thing"] (defScope s20_) := fsc (by decide +kernel)
theorem g20_ (h : Has K mg "is_table" s20_) (B : Own mg) (G8_ : PGood P w K mg base 4 "is_words" ["thing"] ptWordsB) (G14_ : PGood P w K mg base 2 "are_bounds" ["least", "most"] ptBounds) (G11_ : PGood P w K mg base 2 "words_many" ["words", "most"] ptManyM) (G15_ : PGood P w K mg base (L + 7) "lets_some_by" ["thing"] (ptSome k fm))   : PGood P w K mg base (L + 8) "is_table" ["thing"] (ptTable k fm) := by
 have nd := C20_.nd
 refine h.pgood C20_ (fun|_,_,_,_,_,_,[_],_=>rfl) (fun f cdv A outer s H E F hr =>
   (us_cons (us_if (ub_w (uw_or (ub_cmp (pu_ne hr.units) (ue_callB pu_len rfl B.len PySem.boot_len (ua_c (ue_var 0) ua_nil)) ue_int (nomark _)) (uw_or (ub_not (ub_val (ue_fn G14_ (hr.mono (by omega)) rfl (ua_c (ue_ix (pu_ix hr.units) (ue_var 0) ue_int) (ua_c (ue_ix (pu_ix hr.units) (ue_var 0) ue_int) ua_nil))))) (uw_or1 (ub_not (ub_val (ue_fn G8_ (hr.mono (by omega)) rfl (ua_c (ue_ix (pu_ix hr.units) (ue_var 0) ue_int) ua_nil))))))))
    (us_one (us_ret ue_bl))
    us_nil)
   (us_cons (us_set (i := 1) nd rfl (.inl rfl) (ue_ix (pu_ix hr.units) (ue_var 0) ue_int))
   (us_cons (us_set (i := 2) nd rfl (.inl rfl) (ue_ix (pu_ix hr.units) (ue_var 0) ue_int))
   (us_cons (us_if (ub_w (uw_or (ub_cmp (pu_eq hr.units) (ue_var 1) ue_int (nomark _)) (uw_or (ub_cmp (pu_ne hr.units) (ue_ix (pu_ix hr.units) (ue_var 2) ue_int) ue_str (nomark _)) (uw_or1 (ub_cmp pu_lt (ue_fn G11_ (hr.mono (by omega)) rfl (ua_c (ue_var 2) (ua_c (ue_var 1) ua_nil))) (ue_var 1) (nomark _))))))
    (us_one (us_ret ue_bl))
    us_nil)
   (us_one (us_ret (ue_fn G15_ (hr.mono (by omega)) rfl (ua_c (ue_ix (pu_ix hr.units) (ue_var 0) ue_int) ua_nil))))))))) (fun as R q => ?_)
 obtain ⟨l, rfl, fl, q⟩ := q
 by_cases l5 : l.length = 5
 ·match l, l5 with
  | [w, lo, hi, wd, f], _ =>
   have flo : FlE (2 * k) lo := fl.2.1 lo (by simp)
   have fhi : FlE (2 * k) hi := fl.2.1 hi (by simp)
   have fw : FlE (2 * k) wd := fl.2.1 wd (by simp)
   have ff : FlE (2 * k) f := fl.2.1 f (by simp)
   have q2 : R (bT (bndB lo hi && (wordsB wd && (tabN hi wd && someB fm f)))) := q
   refine ⟨rfl, _, rfl, iteF ⟨_, rfl, _, rfl, lo, hi, rfl, (flo.fld (j := 1)).ok, (fhi.fld (j := 1)).ok, _, rfl, ?_⟩⟩
   cases bb : bndB lo hi with
   | false => rw [bb, Bool.false_and] at q2; exact iteT q2
   | true =>
    rw [bb, Bool.true_and] at q2
    obtain ⟨a, b, rfl, rfl, a0, ab⟩ := bnd_int bb
    have b9 : b < 10 ^ 90 := by
     have : FlE (2 * k) (iT b) := fhi
     cases hk : 2 * k with
     | zero => rw [hk] at this; exact False.elim this
     | succ j => rw [hk] at this; exact this.2.2 b rfl
    refine iteF ⟨_, rfl, wd, rfl, fw.fld, _, rfl, ?_⟩
    cases ew : wordsB wd with
    | false => rw [ew, Bool.false_and] at q2; exact iteT q2
    | true =>
     rw [ew, Bool.true_and] at q2
     refine iteF ⟨_, rfl, _, rfl, _, rfl, ?_⟩
     rw [eq_zero]
     by_cases z : b = 0
     ·rw [decide_eq_true z]
      subst z
      have e : tabN (iT 0) wd = false := tabN_zero
      rw [e, Bool.false_and] at q2
      exact iteT q2
     ·rw [decide_eq_false z]
      rcases words_two ew with ⟨x, rfl⟩ | ⟨hd, lo, hi, ms, rfl, n0, l4, hm⟩
      ·exact iteF ⟨_, rfl, _, rfl, iteT q2⟩
      ·have q3 : R (bT (decide (b ≠ 0) && decide (b <= manyW lo hi ((ms.map sT).map strOf) b) && someB fm f)) := q2
       rw [strs_of, decide_eq_true z, Bool.true_and] at q3
       refine iteF ⟨_, rfl, _, rfl, iteF ⟨hd, lo, hi, b, ms, rfl, n0, l4, hm, b9, _, rfl, sifd (fun h1 => ?_) (fun h1 => ?_)⟩⟩
       ·rw [decide_eq_false (by omega), Bool.false_and] at q3
        exact q3
       ·rw [decide_eq_true (by omega), Bool.true_and] at q3
        exact ⟨_, rfl, f, rfl, ff, q3⟩
 ·rw [tabF_len l5] at q
  refine ⟨rfl, _, rfl, ?_⟩
  show if (true != eqV (.int (l.length : Nat)) (.int (5 : Nat))) = true then _ else _
  rw [ne_len l5]
  exact iteT q
end
end My
namespace My
open PySem L2 PyProof.Rows WordM
section
variable {P : Program} {w : World} {K : PySem.W.Frag} {mg : Str -> Option Value} {base : Heap}
variable {k L : Nat} {fm : Tv -> Bool}
theorem cut_fld {n : Nat} {t : Bool} {l : List Tv} {lo hi : Option Int} (h : FlD (n + 1) (.seq t l)) : FlD (n + 1) (.seq t (cutT l lo hi)) := ⟨Nat.le_trans (cutT_len _ _ _) h.1, fun x hx => h.2 x (by unfold cutT at hx; exact List.mem_of_mem_drop (List.mem_of_mem_take hx))⟩
theorem cutT_one (w : Tv) (l : List Tv) : cutT (w :: l) (some 1) none = l := by
 unfold cutT
 have a : HT.sIx (w :: l).length 0 (some 1) = 1 := by unfold HT.sIx; simp
 have b : HT.sIx (w :: l).length (w :: l).length none = l.length + 1 := by unfold HT.sIx; simp
 rw [a, b]
 show List.take (l.length + 1 - 1) l = l
 rw [Nat.add_sub_cancel]; exact List.take_length
def oneB (g : Tv -> Bool) : List Tv -> Bool
 | [x] => g x
 | _ => false
def partL (fm : Tv -> Bool) (w : Tv) (l : List Tv) : Bool := if L2.eqT w (sT "nothing") = true then decide (l.length = 0) else if L2.eqT w (sT "truths") = true then oneB trB l else if L2.eqT w (sT "numbers") = true then runW l else if L2.eqT w (sT "texts") = true then oneB wordsB l else
  if L2.eqT w (sT "lists") = true then listsF fm (w :: l) else if L2.eqT w (sT "record") = true then recF fm (w :: l) else (L2.eqT w (sT "table") && tabF fm (w :: l))
def partF (fm : Tv -> Bool) : Tv -> Bool
 | .seq true (w :: l) => partL fm w l
 | _ => false
theorem one_len {g : Tv -> Bool} {l : List Tv} (h : ¬ l.length = 1) : oneB g l = false := by
 match l, h with
 | [], _ => rfl
 | [_], h => exact absurd rfl h
 | _ :: _ :: _, _ => rfl
theorem len_is (w : Tv) (l : List Tv) (n : Nat) : (false != eqV (.int ((w :: l).length : Nat)) (.int ((n + 1 : Nat) : Int))) = decide (l.length = n) := by
 by_cases z : l.length = n
 ·rw [decide_eq_true z, List.length_cons, z]; simp [eqV]
 ·rw [decide_eq_false z, List.length_cons]; simp [eqV]; omega
def ptPart (k : Nat) (fm : Tv -> Bool) : PSp := fun as R => ∃ U, as = [.va U] /\ FlE (2 * k + 1) U /\ R (bT (partF fm U))
theorem C21_ : FnScope ["thing"] ["thing"] (defScope s21_) := fsc (by decide +kernel)
theorem g21_ (h : Has K mg "is_part" s21_) (B : Own mg) (G13_ : PGood P w K mg base 2 "are_truths" ["thing"] ptAreTruths) (G3_ : PGood P w K mg base 2 "is_run" ["thing"] ptIsRun) (G8_ : PGood P w K mg base 4 "is_words" ["thing"] ptWordsB) (G16_ : PGood P w K mg base (L + 8) "is_lists" ["thing"] (ptLists k fm)) (G19_ : PGood P w K mg base (L + 10) "is_record" ["thing"] (ptRecord k fm)) (G20_ : PGood P w K mg base (L + 8) "is_table" ["thing"] (ptTable k fm))   : PGood P w K mg base (L + 11) "is_part" ["thing"] (ptPart k fm) := by
 have nd := C21_.nd
 refine h.pgood C21_ (fun|_,_,_,_,_,_,[_],_=>rfl) (fun f cdv A outer s H E F hr =>
   (us_cons (us_if (ub_w (uw_or (ub_not (ub_val (ue_isi "tuple" call_isi_tuple rfl B.isinstance (ue_var 0) (pe_bltn (v := .ty "tuple") rfl B.tuple_ boot_tuple rfl)))) (uw_or1 (ub_cmp (pu_eq hr.units) (ue_callB pu_len rfl B.len PySem.boot_len (ua_c (ue_var 0) ua_nil)) ue_int (nomark _)))))
    (us_one (us_ret ue_bl))
    us_nil)
   (us_cons (us_if (ub_cmp (pu_eqA hr.units) (ue_ix (pu_ix hr.units) (ue_var 0) ue_int) ue_str (nomark _))
    (us_one (us_ret (ue_cmp (pu_eq hr.units).op (ue_callB pu_len rfl B.len PySem.boot_len (ua_c (ue_var 0) ua_nil)) ue_int (nomark _))))
    us_nil)
   (us_cons (us_if (ub_cmp (pu_eqA hr.units) (ue_ix (pu_ix hr.units) (ue_var 0) ue_int) ue_str (nomark _))
    (us_one (us_ret (ue_and (ue_cmp (pu_eq hr.units).op (ue_callB pu_len rfl B.len PySem.boot_len (ua_c (ue_var 0) ua_nil)) ue_int (nomark _)) (ue_one (ue_fn G13_ (hr.mono (by omega)) rfl (ua_c (ue_ix (pu_ix hr.units) (ue_var 0) ue_int) ua_nil))))))
    us_nil)
   (us_cons (us_if (ub_cmp (pu_eqA hr.units) (ue_ix (pu_ix hr.units) (ue_var 0) ue_int) ue_str (nomark _))
    (us_one (us_ret (ue_fn G3_ (hr.mono (by omega)) rfl (ua_c (ue_slice pu_sl (ue_var 0) (uo_some ue_int) uo_none) ua_nil))))
    us_nil)
   (us_cons (us_if (ub_cmp (pu_eqA hr.units) (ue_ix (pu_ix hr.units) (ue_var 0) ue_int) ue_str (nomark _))
    (us_one (us_ret (ue_and (ue_cmp (pu_eq hr.units).op (ue_callB pu_len rfl B.len PySem.boot_len (ua_c (ue_var 0) ua_nil)) ue_int (nomark _)) (ue_one (ue_fn G8_ (hr.mono (by omega)) rfl (ua_c (ue_ix (pu_ix hr.units) (ue_var 0) ue_int) ua_nil))))))
    us_nil)
   (us_cons (us_if (ub_cmp (pu_eqA hr.units) (ue_ix (pu_ix hr.units) (ue_var 0) ue_int) ue_str (nomark _))
    (us_one (us_ret (ue_fn G16_ (hr.mono (by omega)) rfl (ua_c (ue_var 0) ua_nil))))
    us_nil)
   (us_cons (us_if (ub_cmp (pu_eqA hr.units) (ue_ix (pu_ix hr.units) (ue_var 0) ue_int) ue_str (nomark _))
    (us_one (us_ret (ue_fn G19_ (hr.mono (by omega)) rfl (ua_c (ue_var 0) ua_nil))))
    us_nil)
   (us_one (us_ret (ue_and (ue_cmp (pu_eqA hr.units).op (ue_ix (pu_ix hr.units) (ue_var 0) ue_int) ue_str (nomark _)) (ue_one (ue_fn G20_ (hr.mono (by omega)) rfl (ua_c (ue_var 0) ua_nil)))))))))))))) (fun as R q => ?_)
 obtain ⟨U, rfl, fb, q⟩ := q
 rcases anyU (fb.fld (j := 1)).ok with rfl | ⟨c, rfl⟩ | ⟨i, rfl⟩ | ⟨s, rfl⟩ | ⟨t, l, rfl⟩ | ⟨kts, rfl⟩
 ·exact ⟨rfl, _, rfl, iteT q⟩
 ·exact ⟨rfl, _, rfl, iteT q⟩
 ·exact ⟨rfl, _, rfl, iteT q⟩
 ·exact ⟨rfl, _, rfl, iteT q⟩
 ·cases t with
  | false => exact ⟨rfl, _, rfl, iteT q⟩
  | true =>
   cases l with
   | nil => exact ⟨rfl, _, rfl, iteF ⟨_, rfl, iteT q⟩⟩
   | cons w l =>
    have q : R (bT (partL fm w l)) := q
    unfold partL at q
    refine ⟨rfl, _, rfl, iteF ⟨_, rfl, sifI (fun z => absurd z (by simp; omega)) fun _ => ?_⟩⟩
    refine ⟨_, atI_nat (j := 0) rfl, "nothing", rfl, _, rfl, ?_⟩
    cases e0 : L2.eqT w (sT "nothing") with
    | true =>
     rw [e0, if_pos rfl] at q
     refine iteT ?_
     show R (bT (false != eqV (.int ((w :: l).length : Nat)) (.int ((0 + 1 : Nat) : Int))))
     rw [len_is]
     exact q
    | false =>
     rw [e0, if_neg Bool.false_ne_true] at q
     refine iteF ⟨_, atI_nat (j := 0) rfl, "truths", rfl, _, rfl, ?_⟩
     cases e1 : L2.eqT w (sT "truths") with
     | true =>
      rw [e1, if_pos rfl] at q
      refine iteT ⟨_, rfl, ?_⟩
      show if (false != eqV (.int ((w :: l).length : Nat)) (.int ((1 + 1 : Nat) : Int))) = true then _ else _
      rw [len_is]
      refine sifd (fun h1 => ?_) (fun h1 => ?_)
      ·match l, h1 with
       | [x], _ => exact ⟨_, rfl, x, rfl, (fb.2.1 x (by simp)).fld, q⟩
      ·rw [one_len h1] at q; exact q
     | false =>
      rw [e1, if_neg Bool.false_ne_true] at q
      refine iteF ⟨_, atI_nat (j := 0) rfl, "numbers", rfl, _, rfl, ?_⟩
      cases e2 : L2.eqT w (sT "numbers") with
      | true =>
       rw [e2, if_pos rfl] at q
       have cl : cutT (w :: l) (some 1) none = l := by
        have := cutT_one w l
        exact this
       refine iteT ⟨1, rfl, _, rfl, ?_, ?_⟩
       ·exact cut_fld (fb.fld (j := 2))
       ·rw [cl]; exact q
      | false =>
       rw [e2, if_neg Bool.false_ne_true] at q
       refine iteF ⟨_, atI_nat (j := 0) rfl, "texts", rfl, _, rfl, ?_⟩
       cases e3 : L2.eqT w (sT "texts") with
       | true =>
        rw [e3, if_pos rfl] at q
        refine iteT ⟨_, rfl, ?_⟩
        show if (false != eqV (.int ((w :: l).length : Nat)) (.int ((1 + 1 : Nat) : Int))) = true then _ else _
        rw [len_is]
        refine sifd (fun h1 => ?_) (fun h1 => ?_)
        ·match l, h1 with
         | [x], _ => exact ⟨_, rfl, x, rfl, (fb.2.1 x (by simp)).fld, q⟩
        ·rw [one_len h1] at q; exact q
       | false =>
        rw [e3, if_neg Bool.false_ne_true] at q
        refine iteF ⟨_, atI_nat (j := 0) rfl, "lists", rfl, _, rfl, ?_⟩
        cases e4 : L2.eqT w (sT "lists") with
        | true =>
         rw [e4, if_pos rfl] at q
         exact iteT ⟨_, rfl, fb, q⟩
        | false =>
         rw [e4, if_neg Bool.false_ne_true] at q
         refine iteF ⟨_, atI_nat (j := 0) rfl, "record", rfl, _, rfl, ?_⟩
         cases e5 : L2.eqT w (sT "record") with
         | true =>
          rw [e5, if_pos rfl] at q
          exact iteT ⟨_, rfl, fb, q⟩
         | false =>
          rw [e5, if_neg Bool.false_ne_true] at q
          refine iteF ⟨_, atI_nat (j := 0) rfl, "table", rfl, _, rfl, ?_⟩
          cases e6 : L2.eqT w (sT "table") with
          | true =>
           rw [e6, Bool.true_and] at q
           exact iteT ⟨_, rfl, fb, q⟩
          | false =>
           rw [e6, Bool.false_and] at q
           exact iteF q
 ·exact ⟨rfl, _, rfl, iteT q⟩
def KNDS : List (Str × Str) := [("nothing", "nothing"), ("truths", "truth"), ("numbers", "number"), ("texts", "text"), ("lists", "list"), ("record", "dict"), ("table", "dict")]
def kixS (w : Str) : Int := if w = "nothing" then 0 else if w = "truths" then 1 else if w = "numbers" then 2 else if w = "texts" then 3 else if w = "lists" then 4 else 5
def kix (U : Tv) : Int := kixS (strOf (nmOf U))
def ptPartK : PSp := fun as R => ∃ (w : Str) (l : List Tv) (c : Str), as = [.va (.seq true (sT w :: l))] /\ getS KNDS w = some c /\ R (sT c)
theorem C12_ : FnScope ["part"] ["part"] (defScope s12_) := fsc (by decide +kernel)
theorem g12_ (h : Has K mg "part_kind" s12_) (B : Own mg)  (GPART_KINDS : GlobD K w.params mg "PART_KINDS" KNDS)  : PGood P w K mg base 1 "part_kind" ["part"] ptPartK := by
 have nd := C12_.nd
 refine h.pgood C12_ (fun|_,_,_,_,_,_,[_],_=>rfl) (fun f cdv A outer s H E F hr =>
   (us_one (us_ret (ue_kd GPART_KINDS rfl (ue_ix (pu_ix hr.units) (ue_var 0) ue_int))))) (fun as R q => ?_)
 obtain ⟨w, l, c, rfl, e, q⟩ := q
 exact ⟨rfl, _, atI_nat (j := 0) rfl, w, c, rfl, e, q⟩
theorem kn_at {j : Nat} {c : Str} (h : KNS[j]? = some c) : ∀ i, i < j -> KNS[i]? ≠ some c := fun i hi e => by
 have nd : KNS.Nodup := by decide +kernel
 have h1 := List.getElem?_eq_some_iff.mp h
 have h2 := List.getElem?_eq_some_iff.mp e
 obtain ⟨a1, a2⟩ := h1
 obtain ⟨b1, b2⟩ := h2
 exact (List.pairwise_iff_getElem.mp nd) i j b1 a1 hi (b2.trans a2.symm)
theorem part_word {U : Tv} (h : partF fm U = true) : ∃ (w : Str) (l : List Tv) (c : Str) (j : Nat), U = .seq true (sT w :: l) /\ getS KNDS w = some c /\ KNS[j]? = some c /\ kix U = (j : Int) := by
 unfold partF at h
 split at h
 ·rename_i w l
  unfold partL at h
  split at h
  ·rename_i e; exact ⟨"nothing", l, "nothing", 0, by rw [eqT_is e], rfl, rfl, by rw [eqT_is e]; rfl⟩
  ·split at h
   ·rename_i e; exact ⟨"truths", l, "truth", 1, by rw [eqT_is e], rfl, rfl, by rw [eqT_is e]; show kixS "truths" = 1; decide +kernel⟩
   ·split at h
    ·rename_i e; exact ⟨"numbers", l, "number", 2, by rw [eqT_is e], rfl, rfl, by rw [eqT_is e]; show kixS "numbers" = 2; decide +kernel⟩
    ·split at h
     ·rename_i e; exact ⟨"texts", l, "text", 3, by rw [eqT_is e], rfl, rfl, by rw [eqT_is e]; show kixS "texts" = 3; decide +kernel⟩
     ·split at h
      ·rename_i e; exact ⟨"lists", l, "list", 4, by rw [eqT_is e], rfl, rfl, by rw [eqT_is e]; show kixS "lists" = 4; decide +kernel⟩
      ·split at h
       ·rename_i e; exact ⟨"record", l, "dict", 5, by rw [eqT_is e], rfl, rfl, by rw [eqT_is e]; show kixS "record" = 5; decide +kernel⟩
       ·have e := (Bool.and_eq_true_iff.mp h).1
        exact ⟨"table", l, "dict", 5, by rw [eqT_is e], rfl, rfl, by rw [eqT_is e]; show kixS "table" = 5; decide +kernel⟩
 ·cases h
def formF (fm : Tv -> Bool) : Tv -> Bool
 | .seq true ps => ps.all (partF fm) && riseI (ps.map kix)
 | _ => false
theorem formF_tup : Tup (formF fm) := fun U h => by
 cases U with
 | leaf v => cases h
 | dct k => cases h
 | seq t l => cases t with
  | true => exact ⟨l, rfl⟩
  | false => cases h
theorem C22_ : FnScope ["thing"] ["thing"] (defScope s22_) := fsc (by decide +kernel)
theorem g22_ (h : Has K mg "is_form" s22_) (B : Own mg) (G21_ : PGood P w K mg base (L + 11) "is_part" ["thing"] (ptPart k fm)) (G4_ : PGood P w K mg base 1 "rises" ["things"] ptRises3) (G12_ : PGood P w K mg base 1 "part_kind" ["part"] ptPartK) (GKINDS : GlobI K mg "KINDS" KNS)  : PGood P w K mg base (L + 12) "is_form" ["thing"] (ptForm (k + 1) (formF fm)) := by
 have nd := C22_.nd
 refine h.pgood C22_ (fun|_,_,_,_,_,_,[_],_=>rfl) (fun f cdv A outer s H E F hr =>
   (us_cons (us_if (ub_w (uw_or (ub_not (ub_val (ue_isi "tuple" call_isi_tuple rfl B.isinstance (ue_var 0) (pe_bltn (v := .ty "tuple") rfl B.tuple_ boot_tuple rfl)))) (uw_or1 (ub_not (ub_val (ue_callB (pu_all rfl) rfl B.all boot_all (ua_c (ue_ul (ul_comp (sc := defScope s22_) (XN := ["thing"]) (N := ["part"]) (own := 1) (fr := []) rfl ⟨rfl, by decide +kernel, by decide +kernel, by decide +kernel, rfl, by decide +kernel, by decide, by decide +kernel⟩ (by decide) (ui_val (ue_var 0)) (fun _ _ _ _ _ => (ug_name 0 (by decide) (show (["part"] : List Str).Nodup by decide +kernel) rfl (by first | exact Or.inl rfl | exact Or.inr rfl))) (fun _ _ _ _ _ => uf_nil) (fun _ _ _ _ _ => (ue_fn G21_ (hr.mono (by omega)) rfl (ua_c (ue_var 0) ua_nil))))) ua_nil)))))))
    (us_one (us_ret ue_bl))
    us_nil)
   (us_one (us_ret (ue_fn G4_ (hr.mono (by omega)) rfl (ua_c (ue_ul (ul_comp (sc := defScope s22_) (XN := ["thing"]) (N := ["part"]) (own := 1) (fr := []) rfl ⟨rfl, by decide +kernel, by decide +kernel, by decide +kernel, rfl, by decide +kernel, by decide, by decide +kernel⟩ (by decide) (ui_val (ue_var 0)) (fun _ _ _ _ _ => (ug_name 0 (by decide) (show (["part"] : List Str).Nodup by decide +kernel) rfl (by first | exact Or.inl rfl | exact Or.inr rfl))) (fun _ _ _ _ _ => uf_nil) (fun _ _ _ _ _ => (ue_tix hr.units GKINDS rfl (ue_fn G12_ (hr.mono (by omega)) rfl (ua_c (ue_var 0) ua_nil)))))) ua_nil)))))) (fun as R q => ?_)
 obtain ⟨U, rfl, fb, q⟩ := q
 rcases anyU (fb.fld (j := 1)).ok with rfl | ⟨c, rfl⟩ | ⟨i, rfl⟩ | ⟨s, rfl⟩ | ⟨t, ps, rfl⟩ | ⟨kts, rfl⟩
 ·exact ⟨rfl, _, rfl, iteT q⟩
 ·exact ⟨rfl, _, rfl, iteT q⟩
 ·exact ⟨rfl, _, rfl, iteT q⟩
 ·exact ⟨rfl, _, rfl, iteT q⟩
 ·cases t with
  | false => exact ⟨rfl, _, rfl, iteT q⟩
  | true =>
   have q : R (bT (ps.all (partF fm) && riseI (ps.map kix))) := q
   have fl : ps.length <= 100 /\ (∀ x ∈ ps, FlE (2 * k + 1) x) /\ _ := fb
   refine ⟨rfl, _, rfl, iteF ⟨by omega, compT_map (fun f => bT (partF fm f)) (fun f hf R q => ⟨f, rfl, fl.2.1 f hf, q⟩) ⟨ps.map (partF fm), by rw [List.map_map]; rfl, ?_⟩⟩⟩
   rw [List.all_map]
   cases h3 : ps.all (partF fm) with
   | false =>
    rw [h3, Bool.false_and] at q
    exact ⟨_, rfl, by show if (!(ps.all (partF fm))) = true then _ else _; rw [h3]; exact iteT q⟩
   | true =>
    rw [h3, Bool.true_and] at q
    have h3' := List.all_eq_true.mp h3
    refine ⟨_, rfl, ?_⟩
    show if (!(ps.all (partF fm))) = true then _ else _
    rw [h3]
    refine iteF ⟨by omega, compT_map (fun f => iT (kix f)) (fun f hf R q => ?_) ?_⟩
    ·obtain ⟨w, l, c, j, rfl, e1, e2, e3⟩ := part_word (h3' f hf)
     rw [e3] at q
     exact ⟨w, l, c, rfl, e1, c, j, rfl, e2, kn_at e2, q⟩
    ·exact .inr (.inl ⟨false, ps.map kix, by rw [List.map_map]; rfl, by rw [List.length_map]; omega, q⟩)
 ·exact ⟨rfl, _, rfl, iteT q⟩
end
end My
namespace My
open PySem L2 PyProof.Rows WordM
section
variable {P : Program} {w : World} {K : PySem.W.Frag} {mg : Str -> Option Value} {base : Heap}
def formB : Nat -> Tv -> Bool
 | 0 => fun _ => false
 | k + 1 => formF (formB k)
theorem formB_tup : ∀ k, Tup (formB k)
 | 0 => fun U h => by cases h
 | k + 1 => formF_tup
theorem g_isforms (hf : Has K mg "is_form" s22_) (hp : Has K mg "is_part" s21_) (hl : Has K mg "is_lists" s16_) (hfd : Has K mg "is_field" s17_) (hfs : Has K mg "are_fields" s18_) (hr : Has K mg "is_record" s19_) (ht : Has K mg "is_table" s20_) (hs : Has K mg "lets_some_by" s15_) (B : Own mg)
  (Gpk : PGood P w K mg base 1 "part_kind" ["part"] ptPartK) (Grs : PGood P w K mg base 1 "rises" ["things"] ptRises3) (Gab : PGood P w K mg base 2 "are_bounds" ["least", "most"] ptBounds) (Git : PGood P w K mg base 2 "is_text" ["thing"] ptIsText) (Giw : PGood P w K mg base 4 "is_words" ["thing"] ptWordsB)
  (Gmy : PGood P w K mg base 2 "words_many" ["words", "most"] ptManyM) (Gat : PGood P w K mg base 2 "are_truths" ["thing"] ptAreTruths) (Gir : PGood P w K mg base 2 "is_run" ["thing"] ptIsRun) (GK : GlobI K mg "KINDS" KNS) (GF : GlobT K mg "MOST_FIELDS" (iT 8)) : ∀ k : Nat, PGood P w K mg base (6 * k + 6) "is_form" ["thing"] (ptForm k (formB k))
 | 0 => hf.pfalse C22_ (fun|_,_,_,_,_,_,[_],_=>rfl) fun as R ⟨_, _, h, _⟩ => h
 | k + 1 => by
  have G := g_isforms hf hp hl hfd hfs hr ht hs B Gpk Grs Gab Git Giw Gmy Gat Gir GK GF k
  have S := g15_ (L := 6 * k) hs B G (formB_tup k)
  have Gl := g16_ (L := 6 * k) hl B Gab S
  have Gd := g17_ (L := 6 * k) hfd B S Git
  have Gs := g18_ (L := 6 * k) hfs B Grs Gd GF
  have Gr := g19_ (L := 6 * k) hr B Gs Gab
  have Gt := g20_ (L := 6 * k) ht B Giw Gab Gmy S
  have Gp := g21_ (L := 6 * k) hp B Gat Gir Giw Gl Gr Gt
  exact g22_ (L := 6 * k) hf B Gp Grs Gpk GK
end
end My
namespace My
open PySem L2 PyProof.Rows WordM
section
variable {P : Program} {w : World} {K : PySem.W.Frag} {mg : Str -> Option Value} {base : Heap}
def BadP (b : Tv) : Prop := FlE 7 b /\ ∀ fm, Tup fm -> partF fm b = false
def consT (w : Str) : Tv -> Tv
 | .seq t l => .seq t (sT w :: l)
 | T => T
theorem part_lists (fm : Tv -> Bool) (l : List Tv) : partF fm (.seq true (sT "lists" :: l)) = listsF fm (sT "lists" :: l) := by
 show partL fm (sT "lists") l = _
 unfold partL
 rw [if_neg (by decide), if_neg (by decide), if_neg (by decide), if_neg (by decide), if_pos (by decide)]
theorem someB_no {fm : Tv -> Bool} {U : Tv} (tp : Tup fm) (h : ∀ l, U ≠ .seq true l) : someB fm U = false := by
 unfold someB
 cases e : fm U with
 | false => rfl
 | true => obtain ⟨l, rfl⟩ := tp U e; exact absurd rfl (h l)
def rowsA (I : List Tv) (m : Int) : List Tv := [.seq true [iT (m + 1), iT m, .seq true I], .seq true [iT 0, iT 0, .seq true I], .seq true [iT 0, iT m, .seq true []], .seq true [iT (-1), iT m, .seq true I], .seq true [bT false, iT m, .seq true I]]
def rowsB (I : List Tv) (m : Int) : List Tv := [.seq true [iT 0, bT true, .seq true I], .seq true [iT 0, iT m, .seq false I], .seq true [iT 0, iT m], .seq true [iT 0, iT m, .seq true I, .seq true I], .seq true [iT 0, iT m, nT]]
theorem fle_i {n : Nat} {i : Int} (h : i < 10 ^ 90) : FlE (n + 1) (iT i) := ⟨rfl, (fun _ e => nomatch e), fun j e => by cases e; exact h⟩
theorem fle_b {n : Nat} {b : Bool} : FlE (n + 1) (bT b) := ⟨rfl, (fun _ e => nomatch e), (fun _ e => nomatch e)⟩
theorem fle_n {n : Nat} : FlE (n + 1) nT := ⟨rfl, (fun _ e => nomatch e), (fun _ e => nomatch e)⟩
theorem fle_s {n : Nat} {s : Str} (h : s.length <= 1000) : FlE (n + 1) (sT s) := ⟨rfl, fun z e => by cases e; exact h, (fun _ e => nomatch e)⟩
def ptBadRows : PSp := fun as R => ∃ (I : List Tv) (m : Int), as = [.va (.seq true I), .va (iT m)] /\ 1 <= m /\ m <= 1000 /\ I ≠ [] /\ I.length <= 3 /\ (∀ i ∈ I, FlE 3 i) /\ ∀ Bs, (∀ b ∈ Bs, BadP b) -> Bs.length <= 100 -> R (.seq false Bs)
theorem rows_bad {I : List Tv} {m : Int} (m1 : 1 <= m) (m2 : m <= 1000) (i0 : I ≠ []) (il : I.length <= 3) (fi : ∀ i ∈ I, FlE 3 i) : ∀ r ∈ rowsA I m ++ rowsB I m, BadP (consT "lists" r) := fun r hr => by
 have fI : ∀ t, FlE 6 (.seq t I) := fun t => ⟨by omega, fun x hx => (fi x hx).le (by decide), fun a b f e => by subst e; simp at il⟩
 have fN : FlE 6 (.seq true []) := ⟨by simp, (fun x hx => nomatch hx), (fun a b f e => nomatch e)⟩
 have fm' : ∀ i : Int, i <= 1001 -> FlE 6 (iT i) := fun i h => fle_i (by omega)
 unfold rowsA rowsB at hr
 simp only [List.cons_append, List.nil_append, List.mem_cons, List.not_mem_nil, or_false] at hr
 have sl : FlE 6 (sT "lists") := fle_s (by decide)
 rcases hr with rfl | rfl | rfl | rfl | rfl | rfl | rfl | rfl | rfl | rfl
 all_goals refine ⟨⟨by simp, ?_, fun a b f e kts z => by subst z; simp at e⟩, fun fm tp => (part_lists fm _).trans ?_⟩
 case inl.refine_2 => show (bndB (iT (m + 1)) (iT m) && _) = false; rw [show bndB (iT (m + 1)) (iT m) = false by simp [bndB]; omega]; rfl
 case inr.inl.refine_2 => show (bndB (iT 0) (iT 0) && nilB (.seq true I)) = false; cases I with | nil => exact absurd rfl i0 | cons x l => rfl
 case inr.inr.inl.refine_2 =>
  show (bndB (iT 0) (iT m) && (if zeroB (iT m) then true else someB fm (.seq true []))) = false
  rw [show zeroB (iT m) = false by simp [zeroB]; omega]
  show (_ && (fm (.seq true []) && false)) = false
  rw [Bool.and_false, Bool.and_false]
 case inr.inr.inr.inr.inr.inr.inl.refine_2 =>
  show (bndB (iT 0) (iT m) && (if zeroB (iT m) then false else someB fm (.seq false I))) = false
  rw [someB_no tp fun l e => by cases e]; simp
 case inr.inr.inr.inr.inr.inr.inr.inr.inr.refine_2 =>
  show (bndB (iT 0) (iT m) && (if zeroB (iT m) then false else someB fm nT)) = false
  rw [someB_no tp fun l e => by cases e]; simp
 all_goals first | rfl | skip
 all_goals repeat (first | exact (fun _ h => absurd h (List.not_mem_nil)) | refine List.forall_mem_cons.mpr ⟨by first | exact sl | exact fI _ | exact fN | exact fle_b | exact fle_n | exact fm' _ (by omega), ?_⟩)
theorem C33_ : FnScope ["_law_inner", "_law_many", "_law_found"] ["_law_inner", "_law_many"] (defScope s33_) := fsc (by decide +kernel)
theorem g33_ (h : Has K mg "_law_bad_rows" s33_) (B : Own mg)    : PGood P w K mg base 1 "_law_bad_rows" ["_law_inner", "_law_many"] ptBadRows := by
 have nd := C33_.nd
 refine h.pgood C33_ (fun|_,_,_,_,_,_,[_,_],_=>rfl) (fun f cdv A outer s H E F hr =>
   (us_cons (us_set (i := 2) nd rfl (.inl rfl) (ue_ul (ul_lst (ua_c (ue_tup (ua_c (ue_op pu_add (ue_var 1) ue_int) (ua_c (ue_var 1) (ua_c (ue_var 0) ua_nil)))) (ua_c (ue_tup (ua_c ue_int (ua_c ue_int (ua_c (ue_var 0) ua_nil)))) (ua_c (ue_tup (ua_c ue_int (ua_c (ue_var 1) (ua_c (ue_tup ua_nil) ua_nil)))) (ua_c (ue_tup (ua_c (ue_un pu_neg ue_int) (ua_c (ue_var 1) (ua_c (ue_var 0) ua_nil)))) (ua_c (ue_tup (ua_c ue_bl (ua_c (ue_var 1) (ua_c (ue_var 0) ua_nil)))) ua_nil))))))))
   (us_cons (us_set (i := 2) nd rfl (.inl rfl) (ue_op pu_add (ue_var 2) (ue_ul (ul_lst (ua_c (ue_tup (ua_c ue_int (ua_c ue_bl (ua_c (ue_var 0) ua_nil)))) (ua_c (ue_tup (ua_c ue_int (ua_c (ue_var 1) (ua_c (ue_ul (ul_callTy pu_listOf rfl B.list_ boot_list (ua_c (ue_var 0) ua_nil))) ua_nil)))) (ua_c (ue_tup (ua_c ue_int (ua_c (ue_var 1) ua_nil))) (ua_c (ue_tup (ua_c ue_int (ua_c (ue_var 1) (ua_c (ue_var 0) (ua_c (ue_var 0) ua_nil))))) (ua_c (ue_tup (ua_c ue_int (ua_c (ue_var 1) (ua_c ue_non ua_nil)))) ua_nil)))))))))
   (us_one (us_ret (ue_ul (ul_comp (sc := defScope s33_) (XN := ["_law_inner", "_law_many", "_law_found"]) (N := ["_law_one"]) (own := 1) (fr := []) rfl ⟨rfl, by decide +kernel, by decide +kernel, by decide +kernel, rfl, by decide +kernel, by decide, by decide +kernel⟩ (by decide) (ui_val (ue_var 2)) (fun _ _ _ _ _ => (ug_name 0 (by decide) (show (["_law_one"] : List Str).Nodup by decide +kernel) rfl (by first | exact Or.inl rfl | exact Or.inr rfl))) (fun _ _ _ _ _ => uf_nil) (fun _ _ _ _ _ => (ue_op pu_add (ue_tup (ua_c ue_str ua_nil)) (ue_var 0)))))))))) (fun as R q => ?_)
 obtain ⟨I, m, rfl, m1, m2, i0, il, fi, q⟩ := q
 refine ⟨rfl, by simp, by simp, by simp, by simp, by simp, by simp, by simp, ?_⟩
 show PEnds.nx _ _
 refine nxE (ρ' := [.va (.seq true I), .va (iT m), .va (.seq false (rowsA I m))]) rfl ?_
 refine ⟨by simp, _, _, rfl, by simp, by simp, by simp, by simp, by simp, by simp [rowsA], ?_⟩
 show PEnds.nx _ _
 refine nxE (ρ' := [.va (.seq true I), .va (iT m), .va (.seq false (rowsA I m ++ rowsB I m))]) rfl ?_
 refine ⟨by simp [rowsA, rowsB], compT_map (consT "lists") (fun r hr R q => ?_) (q _ (fun b hb => ?_) (by simp [rowsA, rowsB]))⟩
 ·unfold rowsA rowsB at hr
  simp only [List.cons_append, List.nil_append, List.mem_cons, List.not_mem_nil, or_false] at hr
  rcases hr with rfl | rfl | rfl | rfl | rfl | rfl | rfl | rfl | rfl | rfl <;> exact ⟨by simp, by simp, q⟩
 ·obtain ⟨r, hr, rfl⟩ := List.mem_map.mp hb
  exact rows_bad m1 m2 i0 il fi r hr
theorem part_record (fm : Tv -> Bool) (l : List Tv) : partF fm (.seq true (sT "record" :: l)) = recF fm (sT "record" :: l) := by
 show partL fm (sT "record") l = _
 unfold partL
 rw [if_neg (by decide), if_neg (by decide), if_neg (by decide), if_neg (by decide), if_neg (by decide), if_pos (by decide)]
theorem part_table (fm : Tv -> Bool) (l : List Tv) : partF fm (.seq true (sT "table" :: l)) = tabF fm (sT "table" :: l) := by
 show partL fm (sT "table") l = _
 unfold partL
 rw [if_neg (by decide), if_neg (by decide), if_neg (by decide), if_neg (by decide), if_neg (by decide), if_neg (by decide)]
 rw [show L2.eqT (sT "table") (sT "table") = true by decide, Bool.true_and]
theorem fle_t {n : Nat} {t : Bool} {l : List Tv} (h1 : l.length <= 100) (h2 : ∀ x ∈ l, FlE n x) (h3 : ∀ a b kts, l ≠ [a, b, iT 0, .dct kts]) : FlE (n + 1) (.seq t l) := ⟨h1, h2, fun a b f e kts z => by subst z; exact h3 a b kts e⟩
theorem all_nil {p : Tv -> Prop} : ∀ x ∈ ([] : List Tv), p x := fun _ h => absurd h (List.not_mem_nil)
theorem all_cons {p : Tv -> Prop} {x : Tv} {l : List Tv} (h : p x) (k : ∀ y ∈ l, p y) : ∀ y ∈ x :: l, p y := List.forall_mem_cons.mpr ⟨h, k⟩
def NoForm (U : Tv) : Prop := FlE 14 U /\ formB 7 U = false
theorem form_bad {k : Nat} {b : Tv} (h : partF (formB k) b = false) : formB (k + 1) (.seq true [b]) = false := by
 show ([b].all (partF (formB k)) && _) = false
 rw [show [b].all (partF (formB k)) = false by simp [h]]
 rfl
def wthT (b : Tv) (n : Str) : List Tv := [.seq true [b], .seq true [.seq true [sT "lists", iT 0, iT 3, .seq true [b]]], .seq true [.seq true [sT "record", iT 1, iT 1, .seq true [.seq true [sT n, bT true, .seq true [b]]]]],
 .seq true [.seq true [sT "table", iT 0, iT 1, .seq true [sT "make", sT "", iT 0, iT 9, .seq true [sT "great"]], .seq true [b]]]]
theorem wth_bad {b : Tv} {n : Str} (h : BadP b) (hn : n.length <= 1000) : ∀ U ∈ wthT b n, NoForm U := fun U hU => by
 have p : ∀ k, partF (formB k) b = false := fun k => h.2 _ (formB_tup k)
 have f1 : ∀ j, 8 <= j -> FlE j (.seq true [b]) := fun j hj => FlE.le hj ⟨by simp, List.forall_mem_cons.mpr ⟨h.1, fun _ h => absurd h (List.not_mem_nil)⟩, fun a b f e => nomatch e⟩
 have s1 : someB (formB 6) (.seq true [b]) = false := by
  unfold someB
  rw [form_bad (p 5)]; rfl
 unfold wthT at hU
 simp only [List.mem_cons, List.not_mem_nil, or_false] at hU
 rcases hU with rfl | rfl | rfl | rfl
 ·exact ⟨f1 14 (by decide), form_bad (p 6)⟩
 ·refine ⟨?_, form_bad (k := 6) ?_⟩
  ·exact fle_t (by simp) (all_cons (fle_t (by simp) (all_cons (fle_s (by decide)) (all_cons (fle_i (by decide)) (all_cons (fle_i (by decide)) (all_cons (f1 _ (by decide)) all_nil)))) (by simp)) all_nil) (by simp)
  ·rw [part_lists]
   show (bndB (iT 0) (iT 3) && someB (formB 6) (.seq true [b])) = false
   rw [s1, Bool.and_false]
 ·refine ⟨?_, form_bad (k := 6) ?_⟩
  ·exact fle_t (by simp) (all_cons (fle_t (by simp) (all_cons (fle_s (by decide)) (all_cons (fle_i (by decide)) (all_cons (fle_i (by decide)) (all_cons (fle_t (by simp) (all_cons (fle_t (by simp) (all_cons (fle_s hn) (all_cons fle_b (all_cons (f1 _ (by decide)) all_nil))) (by simp)) all_nil) (by simp)) all_nil)))) (by simp)) all_nil) (by simp)
  ·rw [part_record]
   show (bndB (iT 1) (iT 1) && (fieldsF (formB 6) (.seq true [.seq true [sT n, bT true, .seq true [b]]]) && _)) = false
   have : fieldsF (formB 6) (.seq true [.seq true [sT n, bT true, .seq true [b]]]) = false := by
    have hf : fieldF (formB 6) (.seq true [sT n, bT true, .seq true [b]]) = false := by
     show (txB (sT n) && (isiT "bool" (bT true) && someB (formB 6) (.seq true [b]))) = false
     rw [s1, Bool.and_false, Bool.and_false]
    unfold fieldsF
    simp only [List.all_cons, hf, Bool.false_and, Bool.and_false]
   rw [this, Bool.false_and, Bool.and_false]
 ·refine ⟨?_, form_bad (k := 6) ?_⟩
  ·exact fle_t (by simp) (all_cons (fle_t (by simp) (all_cons (fle_s (by decide)) (all_cons (fle_i (by decide)) (all_cons (fle_i (by decide)) (all_cons (fle_t (by simp) (all_cons (fle_s (by decide)) (all_cons (fle_s (by decide)) (all_cons (fle_i (by decide)) (all_cons (fle_i (by decide)) (all_cons (fle_t (by simp) (all_cons (fle_s (by decide)) all_nil) (by simp)) all_nil))))) (by simp)) (all_cons (f1 _ (by decide)) all_nil))))) (by simp)) all_nil) (by simp)
  ·rw [part_table]
   show (bndB (iT 0) (iT 1) && (_ && (_ && someB (formB 6) (.seq true [b])))) = false
   rw [s1, Bool.and_false, Bool.and_false, Bool.and_false]
def ptWithin : PSp := fun as R => ∃ (b : Tv) (n : Str) (r : List Tv), as = [.va b, .va (.seq false (sT n :: r))] /\ BadP b /\ n.length <= 1000 /\ ∀ Us, (∀ U ∈ Us, NoForm U) -> Us.length <= 100 -> R (.seq false Us)
theorem C37_ : FnScope ["_law_bad", "_law_names", "_law_form", "_law_field", "_law_make"] ["_law_bad", "_law_names"] (defScope s37_) := fsc (by decide +kernel)
theorem g37_ (h : Has K mg "_law_within" s37_) (B : Own mg)    : PGood P w K mg base 1 "_law_within" ["_law_bad", "_law_names"] ptWithin := by
 have nd := C37_.nd
 refine h.pgood C37_ (fun|_,_,_,_,_,_,[_,_],_=>rfl) (fun f cdv A outer s H E F hr =>
   (us_cons (us_set (i := 2) nd rfl (.inl rfl) (ue_tup (ua_c (ue_var 0) ua_nil)))
   (us_cons (us_set (i := 3) nd rfl (.inl rfl) (ue_tup (ua_c (ue_ix (pu_ix hr.units) (ue_var 1) ue_int) (ua_c ue_bl (ua_c (ue_var 2) ua_nil)))))
   (us_cons (us_set (i := 4) nd rfl (.inl rfl) (ue_tup (ua_c ue_str (ua_c ue_str (ua_c ue_int (ua_c ue_int (ua_c (ue_tup (ua_c ue_str ua_nil)) ua_nil)))))))
   (us_one (us_ret (ue_ul (ul_lst (ua_c (ue_var 2) (ua_c (ue_tup (ua_c (ue_tup (ua_c ue_str (ua_c ue_int (ua_c ue_int (ua_c (ue_var 2) ua_nil))))) ua_nil)) (ua_c (ue_tup (ua_c (ue_tup (ua_c ue_str (ua_c ue_int (ua_c ue_int (ua_c (ue_tup (ua_c (ue_var 3) ua_nil)) ua_nil))))) ua_nil)) (ua_c (ue_tup (ua_c (ue_tup (ua_c ue_str (ua_c ue_int (ua_c ue_int (ua_c (ue_var 4) (ua_c (ue_var 2) ua_nil)))))) ua_nil)) ua_nil)))))))))))) (fun as R q => ?_)
 obtain ⟨b, n, r, rfl, hb, hn, q⟩ := q
 exact ⟨rfl, by simp, _, atI_nat (j := 0) rfl, by simp, by simp, by simp, by simp, by simp, by simp, by simp, by simp, by simp, by simp, by simp, q (wthT b n) (wth_bad hb hn) (by simp [wthT])⟩
end
end My
namespace My
open PySem L2 PyProof.Rows WordM
section
variable {P : Program} {w : World} {K : PySem.W.Frag} {mg : Str -> Option Value} {base : Heap}
def mkT (x : Str) (lo hi : Int) (ms : List Tv) : Tv := .seq true [sT "make", sT x, iT lo, iT hi, .seq true ms]
def tabsA (x : Str) (I : List Tv) (m : Int) : List Tv := [.seq true [iT 0, iT 0, mkT x 1 1 [sT "figure"], .seq true I], .seq true [iT 0, iT 11, mkT x 1 1 [sT "figure"], .seq true I], .seq true [iT (m + 1), iT m, mkT x 1 1 [sT "figure"], .seq true I], .seq true [iT 0, iT m, mkT x 1 1 [sT "figure"], .seq true []]]
def tabsB (x : Str) (I : List Tv) (m : Int) : List Tv := [.seq true [iT (-1), iT m, mkT x 1 1 [sT "figure"], .seq true I], .seq true [iT 0, iT m, .seq true [sT "few", .seq true [sT x]], .seq true I], .seq true [iT 0, iT m, mkT x 1 1 [sT "figure"]]]
def tabsC (x : Str) (I : List Tv) (m : Int) : List Tv := [.seq true [iT 0, iT m, nT, .seq true I], .seq true [iT 0, iT m, .seq true [], .seq true I], .seq true [iT 0, iT m, mkT x 0 0 [sT "figure"], .seq true I]]
def tabsD (x : Str) (I : List Tv) (m : Int) : List Tv := [.seq true [iT 0, iT m, mkT x 1 1 [sT "small", sT "figure"], .seq true I], .seq true [iT 0, iT m, mkT x 1 1 [], .seq true I]]
def tabsE (x : Str) (I : List Tv) (m : Int) : List Tv := [.seq true [iT 0, iT m, mkT x 1 1 [sT "figure"], .seq true I, .seq true I], .seq true [iT 0, bT true, mkT x 1 1 [sT "figure"], .seq true I]]
def tabsT (x : Str) (I : List Tv) (m : Int) : List Tv := (((tabsA x I m ++ tabsB x I m) ++ tabsC x I m) ++ tabsD x I m) ++ tabsE x I m
theorem tab_mk (x : Str) (lo hi : Int) (ms : List Tv) : wordsB (mkT x lo hi ms) = (txB (sT x) && (marksB (.seq true ms) && numW (iT lo) (iT hi))) := by
 show (if L2.eqT (sT "make") (sT "few") = true then false else (L2.eqT (sT "make") (sT "make") && (txB (sT x) && (marksB (.seq true ms) && numW (iT lo) (iT hi))))) = _
 rw [if_neg (by decide), show L2.eqT (sT "make") (sT "make") = true by decide, Bool.true_and]
theorem tabF_eq (fm : Tv -> Bool) (w lo hi wd f : Tv) : tabF fm [w, lo, hi, wd, f] = (bndB lo hi && (wordsB wd && (tabN hi wd && someB fm f))) := rfl
theorem tabs_bad {x : Str} {I : List Tv} {m : Int} (m1 : 1 <= m) (m2 : m <= 1000) (hx : x.length <= 1000) (il : I.length <= 3) (fi : ∀ i ∈ I, FlE 3 i) : ∀ r ∈ tabsT x I m, BadP (consT "table" r) := fun r hr => by
 have fI : FlE 6 (.seq true I) := ⟨by omega, fun x hx => (fi x hx).le (by decide), fun a b f e => by subst e; simp at il⟩
 have fN : FlE 6 (.seq true []) := fle_t (by simp) all_nil (by simp)
 have fm' : ∀ i : Int, i <= 1001 -> FlE 6 (iT i) := fun i h => fle_i (by omega)
 have fk : ∀ (lo hi : Int) (ms : List Tv), lo <= 1000 -> hi <= 1000 -> ms.length <= 2 -> (∀ y ∈ ms, FlE 4 y) -> FlE 6 (mkT x lo hi ms) := fun lo hi ms a b c d =>
  fle_t (by simp) (all_cons (fle_s (by decide)) (all_cons (fle_s hx) (all_cons (fle_i (by omega)) (all_cons (fle_i (by omega)) (all_cons (fle_t (by omega) d (fun a b k e => by subst e; simp at c)) all_nil))))) (by simp)
 have k1 : FlE 6 (mkT x 1 1 [sT "figure"]) := fk _ _ _ (by decide) (by decide) (by simp) (all_cons (fle_s (by decide)) all_nil)
 have k2 : FlE 6 (mkT x 0 0 [sT "figure"]) := fk _ _ _ (by decide) (by decide) (by simp) (all_cons (fle_s (by decide)) all_nil)
 have k3 : FlE 6 (mkT x 1 1 [sT "small", sT "figure"]) := fk _ _ _ (by decide) (by decide) (by simp) (all_cons (fle_s (by decide)) (all_cons (fle_s (by decide)) all_nil))
 have k4 : FlE 6 (mkT x 1 1 []) := fk _ _ _ (by decide) (by decide) (by simp) all_nil
 have kf : FlE 6 (.seq true [sT "few", .seq true [sT x]]) := fle_t (by simp) (all_cons (fle_s (by decide)) (all_cons (fle_t (by simp) (all_cons (fle_s hx) all_nil) (by simp)) all_nil)) (by simp)
 have sl : FlE 6 (sT "table") := fle_s (by decide)
 unfold tabsT tabsA tabsB tabsC tabsD tabsE at hr
 simp only [List.cons_append, List.nil_append, List.mem_cons, List.not_mem_nil, or_false] at hr
 have go : ∀ l : List Tv, (∀ y ∈ sT "table" :: l, FlE 6 y) -> l.length <= 50 -> (∀ a b kts, sT "table" :: l ≠ [a, b, iT 0, .dct kts]) -> (∀ fm, Tup fm -> tabF fm (sT "table" :: l) = false) -> BadP (consT "table" (.seq true l)) := fun l a b c d => ⟨fle_t (by rw [List.length_cons]; omega) a c, fun fm tp => (part_table fm l).trans (d fm tp)⟩
 rcases hr with rfl | rfl | rfl | rfl | rfl | rfl | rfl | rfl | rfl | rfl | rfl | rfl | rfl | rfl
 all_goals refine go _ ?_ (by simp) (by simp [mkT]) fun fm tp => ?_
 case inl.refine_2 => rw [tabF_eq, tabN_zero, Bool.false_and, Bool.and_false, Bool.and_false]
 case inr.inl.refine_2 =>
  rw [tabF_eq, show tabN (iT 11) (mkT x 1 1 [sT "figure"]) = false from show (decide ((11 : Int) ≠ 0) && decide ((11 : Int) <= manyW 1 1 ["figure"] 11)) = false by decide +kernel, Bool.false_and, Bool.and_false, Bool.and_false]
 case inr.inr.inl.refine_2 => show (bndB (iT (m + 1)) (iT m) && _) = false; rw [show bndB (iT (m + 1)) (iT m) = false by simp [bndB]; omega]; rfl
 case inr.inr.inr.inl.refine_2 =>
  show (_ && (_ && (_ && (fm (.seq true []) && false)))) = false
  rw [Bool.and_false, Bool.and_false, Bool.and_false, Bool.and_false]
 case inr.inr.inr.inr.inr.inl.refine_2 =>
  show (_ && (_ && (tabN (iT m) (.seq true [sT "few", .seq true [sT x]]) && _))) = false
  rw [show tabN (iT m) (.seq true [sT "few", .seq true [sT x]]) = false from rfl, Bool.false_and, Bool.and_false, Bool.and_false]
 case inr.inr.inr.inr.inr.inr.inr.inl.refine_2 => show (_ && (wordsB nT && _)) = false; rw [show wordsB nT = false from rfl, Bool.false_and, Bool.and_false]
 case inr.inr.inr.inr.inr.inr.inr.inr.inl.refine_2 => show (_ && (wordsB (.seq true []) && _)) = false; rw [show wordsB (.seq true []) = false from rfl, Bool.false_and, Bool.and_false]
 case inr.inr.inr.inr.inr.inr.inr.inr.inr.inl.refine_2 =>
  show (_ && (wordsB (mkT x 0 0 [sT "figure"]) && _)) = false
  rw [tab_mk, show numW (iT 0) (iT 0) = false from rfl, Bool.and_false, Bool.and_false, Bool.false_and, Bool.and_false]
 case inr.inr.inr.inr.inr.inr.inr.inr.inr.inr.inl.refine_2 =>
  show (_ && (wordsB (mkT x 1 1 [sT "small", sT "figure"]) && _)) = false
  rw [tab_mk, show marksB (.seq true [sT "small", sT "figure"]) = false by decide +kernel, Bool.false_and, Bool.and_false, Bool.false_and, Bool.and_false]
 case inr.inr.inr.inr.inr.inr.inr.inr.inr.inr.inr.inl.refine_2 =>
  show (_ && (wordsB (mkT x 1 1 []) && _)) = false
  rw [tab_mk, show marksB (.seq true []) = false from rfl, Bool.false_and, Bool.and_false, Bool.false_and, Bool.and_false]
 all_goals first | rfl | skip
 all_goals repeat (first | exact all_nil | refine all_cons (by first | exact sl | exact fI | exact fN | exact fle_b | exact fle_n | exact k1 | exact k2 | exact k3 | exact k4 | exact kf | exact fm' _ (by omega)) ?_)
def ptBadTables : PSp := fun as R => ∃ (x : Str) (I : List Tv) (m : Int), as = [.va (sT x), .va (.seq true I), .va (iT m)] /\ x.length <= 1000 /\ 1 <= m /\ m <= 1000 /\ I.length <= 3 /\ (∀ i ∈ I, FlE 3 i) /\ ∀ Bs, (∀ b ∈ Bs, BadP b) -> Bs.length <= 100 -> R (.seq false Bs)
theorem C35_ : FnScope ["_law_text_here", "_law_inner", "_law_many", "_law_make", "_law_found"] ["_law_text_here", "_law_inner", "_law_many"] (defScope s35_) := fsc (by decide +kernel)
theorem g35_ (h : Has K mg "_law_bad_tables" s35_) (B : Own mg)    : PGood P w K mg base 1 "_law_bad_tables" ["_law_text_here", "_law_inner", "_law_many"] ptBadTables := by
 have nd := C35_.nd
 refine h.pgood C35_ (fun|_,_,_,_,_,_,[_,_,_],_=>rfl) (fun f cdv A outer s H E F hr =>
   (us_cons (us_set (i := 3) nd rfl (.inl rfl) (ue_tup (ua_c ue_str (ua_c (ue_var 0) (ua_c ue_int (ua_c ue_int (ua_c (ue_tup (ua_c ue_str ua_nil)) ua_nil)))))))
   (us_cons (us_set (i := 4) nd rfl (.inl rfl) (ue_ul (ul_lst (ua_c (ue_tup (ua_c ue_int (ua_c ue_int (ua_c (ue_var 3) (ua_c (ue_var 1) ua_nil))))) (ua_c (ue_tup (ua_c ue_int (ua_c ue_int (ua_c (ue_var 3) (ua_c (ue_var 1) ua_nil))))) (ua_c (ue_tup (ua_c (ue_op pu_add (ue_var 2) ue_int) (ua_c (ue_var 2) (ua_c (ue_var 3) (ua_c (ue_var 1) ua_nil))))) (ua_c (ue_tup (ua_c ue_int (ua_c (ue_var 2) (ua_c (ue_var 3) (ua_c (ue_tup ua_nil) ua_nil))))) ua_nil)))))))
   (us_cons (us_set (i := 4) nd rfl (.inl rfl) (ue_op pu_add (ue_var 4) (ue_ul (ul_lst (ua_c (ue_tup (ua_c (ue_un pu_neg ue_int) (ua_c (ue_var 2) (ua_c (ue_var 3) (ua_c (ue_var 1) ua_nil))))) (ua_c (ue_tup (ua_c ue_int (ua_c (ue_var 2) (ua_c (ue_tup (ua_c ue_str (ua_c (ue_tup (ua_c (ue_var 0) ua_nil)) ua_nil))) (ua_c (ue_var 1) ua_nil))))) (ua_c (ue_tup (ua_c ue_int (ua_c (ue_var 2) (ua_c (ue_var 3) ua_nil)))) ua_nil)))))))
   (us_cons (us_set (i := 4) nd rfl (.inl rfl) (ue_op pu_add (ue_var 4) (ue_ul (ul_lst (ua_c (ue_tup (ua_c ue_int (ua_c (ue_var 2) (ua_c ue_non (ua_c (ue_var 1) ua_nil))))) (ua_c (ue_tup (ua_c ue_int (ua_c (ue_var 2) (ua_c (ue_tup ua_nil) (ua_c (ue_var 1) ua_nil))))) (ua_c (ue_tup (ua_c ue_int (ua_c (ue_var 2) (ua_c (ue_op pu_add (ue_op pu_add (ue_slice pu_sl (ue_var 3) uo_none (uo_some ue_int)) (ue_tup (ua_c ue_int (ua_c ue_int ua_nil)))) (ue_slice pu_sl (ue_var 3) (uo_some ue_int) uo_none)) (ua_c (ue_var 1) ua_nil))))) ua_nil)))))))
   (us_cons (us_set (i := 4) nd rfl (.inl rfl) (ue_op pu_add (ue_var 4) (ue_ul (ul_lst (ua_c (ue_tup (ua_c ue_int (ua_c (ue_var 2) (ua_c (ue_op pu_add (ue_slice pu_sl (ue_var 3) uo_none (uo_some ue_int)) (ue_tup (ua_c (ue_tup (ua_c ue_str (ua_c ue_str ua_nil))) ua_nil))) (ua_c (ue_var 1) ua_nil))))) (ua_c (ue_tup (ua_c ue_int (ua_c (ue_var 2) (ua_c (ue_op pu_add (ue_slice pu_sl (ue_var 3) uo_none (uo_some ue_int)) (ue_tup (ua_c (ue_tup ua_nil) ua_nil))) (ua_c (ue_var 1) ua_nil))))) ua_nil))))))
   (us_one (us_ret (ue_ul (ul_comp (sc := defScope s35_) (XN := ["_law_text_here", "_law_inner", "_law_many", "_law_make", "_law_found"]) (N := ["_law_one"]) (own := 1) (fr := []) rfl ⟨rfl, by decide +kernel, by decide +kernel, by decide +kernel, rfl, by decide +kernel, by decide, by decide +kernel⟩ (by decide) (ui_val (ue_op pu_add (ue_var 4) (ue_ul (ul_lst (ua_c (ue_tup (ua_c ue_int (ua_c (ue_var 2) (ua_c (ue_var 3) (ua_c (ue_var 1) (ua_c (ue_var 1) ua_nil)))))) (ua_c (ue_tup (ua_c ue_int (ua_c ue_bl (ua_c (ue_var 3) (ua_c (ue_var 1) ua_nil))))) ua_nil)))))) (fun _ _ _ _ _ => (ug_name 0 (by decide) (show (["_law_one"] : List Str).Nodup by decide +kernel) rfl (by first | exact Or.inl rfl | exact Or.inr rfl))) (fun _ _ _ _ _ => uf_nil) (fun _ _ _ _ _ => (ue_op pu_add (ue_tup (ua_c ue_str ua_nil)) (ue_var 0))))))))))))) (fun as R q => ?_)
 obtain ⟨x, I, m, rfl, hx, m1, m2, il, fi, q⟩ := q
 refine ⟨rfl, by simp, by simp, ?_⟩
 show PEnds.nx _ _
 refine nxE (ρ' := [.va (sT x), .va (.seq true I), .va (iT m), .va (mkT x 1 1 [sT "figure"]), .no]) rfl ?_
 refine ⟨by simp, by simp, by simp, by simp, by simp, by simp, ?_⟩
 show PEnds.nx _ _
 refine nxE (ρ' := [.va (sT x), .va (.seq true I), .va (iT m), .va (mkT x 1 1 [sT "figure"]), .va (.seq false (tabsA x I m))]) rfl ?_
 refine ⟨by simp, by simp, by simp, by simp, by simp, by simp, by simp [tabsA], ?_⟩
 show PEnds.nx _ _
 refine nxE (ρ' := [.va (sT x), .va (.seq true I), .va (iT m), .va (mkT x 1 1 [sT "figure"]), .va (.seq false (tabsA x I m ++ tabsB x I m))]) rfl ?_
 refine ⟨by simp, by simp, by simp, 2, rfl, by simp, by simp [cutT, HT.sIx], 4, rfl, by simp [cutT, HT.sIx], by simp, by simp, by simp [tabsA, tabsB], ?_⟩
 show PEnds.nx _ _
 refine nxE (ρ' := [.va (sT x), .va (.seq true I), .va (iT m), .va (mkT x 1 1 [sT "figure"]), .va (.seq false ((tabsA x I m ++ tabsB x I m) ++ tabsC x I m))]) rfl ?_
 refine ⟨4, rfl, by simp, by simp, by simp [cutT, HT.sIx], by simp, 4, rfl, by simp, by simp, by simp [cutT, HT.sIx], by simp, by simp, by simp [tabsA, tabsB, tabsC], ?_⟩
 show PEnds.nx _ _
 refine nxE (ρ' := [.va (sT x), .va (.seq true I), .va (iT m), .va (mkT x 1 1 [sT "figure"]), .va (.seq false (((tabsA x I m ++ tabsB x I m) ++ tabsC x I m) ++ tabsD x I m))]) rfl ?_
 refine ⟨by simp, by simp, by simp, by simp [tabsA, tabsB, tabsC, tabsD], by simp [tabsA, tabsB, tabsC, tabsD], ?_⟩
 refine compT_map (Ts := tabsT x I m) (consT "table") (fun r hr R q => ?_) (q _ (fun b hb => ?_) (by simp [tabsT, tabsA, tabsB, tabsC, tabsD, tabsE]))
 ·unfold tabsT tabsA tabsB tabsC tabsD tabsE at hr
  simp only [List.cons_append, List.nil_append, List.mem_cons, List.not_mem_nil, or_false] at hr
  rcases hr with rfl | rfl | rfl | rfl | rfl | rfl | rfl | rfl | rfl | rfl | rfl | rfl | rfl | rfl <;> exact ⟨by simp, by simp, q⟩
 ·obtain ⟨r, hr, rfl⟩ := List.mem_map.mp hb
  exact tabs_bad m1 m2 hx il fi r hr
end
end My
namespace My
open PySem L2 PyProof.Rows WordM
section
variable {P : Program} {w : World} {K : PySem.W.Frag} {mg : Str -> Option Value} {base : Heap}
theorem part_nothing (fm : Tv -> Bool) (l : List Tv) : partF fm (.seq true (sT "nothing" :: l)) = decide (l.length = 0) := by
 show partL fm (sT "nothing") l = _
 unfold partL
 rw [if_pos (by decide)]
theorem part_truths (fm : Tv -> Bool) (l : List Tv) : partF fm (.seq true (sT "truths" :: l)) = oneB trB l := by
 show partL fm (sT "truths") l = _
 unfold partL
 rw [if_neg (by decide), if_pos (by decide)]
theorem part_numbers (fm : Tv -> Bool) (l : List Tv) : partF fm (.seq true (sT "numbers" :: l)) = runW l := by
 show partL fm (sT "numbers") l = _
 unfold partL
 rw [if_neg (by decide), if_neg (by decide), if_pos (by decide)]
theorem run3 (a b c : Int) : runW [iT a, iT b, iT c] = if a = b then decide (c = 0) else (decide (a < b) && (decide (1 <= c) && decide ((b - a) % c = 0))) := rfl
def plA : List Tv := [.seq true [sT "nothing", nT], .seq true [sT "nothing", .seq true []], .seq true [sT "truths", .seq true []], .seq true [sT "truths", .seq true [bT true, bT false]], .seq true [sT "truths", .seq true [bT false, bT false]]]
def plB : List Tv := [.seq true [sT "truths", .seq true [iT 0]], .seq true [sT "truths", .seq true [bT false, iT 1]], .seq true [sT "truths", .seq false [bT true]], .seq true [sT "truths", bT true], .seq true [sT "truths"]]
def plC (a b c : Int) : List Tv := [.seq true [sT "numbers", iT b, iT a, iT c], .seq true [sT "numbers", iT a, iT b, iT 0], .seq true [sT "numbers", iT a, iT a, iT c], .seq true [sT "numbers", iT a, iT b, iT (-c)]]
def plD (a b c : Int) : List Tv := [.seq true [sT "numbers", iT a, iT (b + 1), iT c], .seq true [sT "numbers", iT a, iT b], .seq true [sT "numbers", .seq true [iT a, iT b, iT c]], .seq true [sT "numbers"]]
def plE (a b c : Int) : List Tv := [.seq true [sT "numbers", bT true, bT true, iT 0], .seq true [sT "numbers", iT 0, iT 0, bT false], .seq true [sT "numbers", sT "1", sT "2", iT 1], .seq true [sT "numbers", iT a, iT b, iT c, iT 0]]
def plT (a b c : Int) : List Tv := (((plA ++ plB) ++ plC a b c) ++ plD a b c) ++ plE a b c
theorem pl_bad {a c m : Int} (a2 : a < 10 ^ 80) (c1 : 2 <= c) (c2 : c < 10 ^ 30) (m1 : 1 <= m) (b2 : a + c * m < 10 ^ 81) : ∀ r ∈ plT a (a + c * m) c, BadP r := fun r hr => by
 have cm : c <= c * m := by
  have := Int.mul_le_mul_of_nonneg_left m1 (show 0 <= c by omega)
  omega
 have md : (a + c * m + 1 - a) % c = 1 := by
  rw [show a + c * m + 1 - a = 1 + c * m by omega, Int.add_mul_emod_self_left]
  exact Int.emod_eq_of_lt (by decide) (by omega)
 generalize hb : a + c * m = b at b2 hr md
 have ab : a < b := by omega
 unfold plT plA plB plC plD plE at hr
 simp only [List.cons_append, List.nil_append, List.mem_cons, List.not_mem_nil, or_false] at hr
 have sn : ∀ j, FlE (j + 1) (sT "numbers") := fun j => fle_s (by decide)
 have st : ∀ j, FlE (j + 1) (sT "truths") := fun j => fle_s (by decide)
 have so : ∀ j, FlE (j + 1) (sT "nothing") := fun j => fle_s (by decide)
 have ii : ∀ (j : Nat) (i : Int), i < 10 ^ 90 -> FlE (j + 1) (iT i) := fun j i h => fle_i h
 have A : FlE 7 r := by
  rcases hr with rfl | rfl | rfl | rfl | rfl | rfl | rfl | rfl | rfl | rfl | rfl | rfl | rfl | rfl | rfl | rfl | rfl | rfl | rfl | rfl | rfl | rfl
  all_goals refine fle_t (by simp) ?_ (by simp)
  all_goals repeat (first | exact all_nil | refine all_cons (by first | exact sn _ | exact st _ | exact so _ | exact fle_b | exact fle_n | exact ii _ _ (by omega) | exact fle_s (by decide) | (refine fle_t (by simp) ?_ (by simp); repeat (first | exact all_nil | refine all_cons (by first | exact fle_b | exact ii _ _ (by omega)) ?_))) ?_)
 refine ⟨A, fun fm tp => ?_⟩
 clear A
 rcases hr with rfl | rfl | rfl | rfl | rfl | rfl | rfl | rfl | rfl | rfl | rfl | rfl | rfl | rfl | rfl | rfl | rfl | rfl | rfl | rfl | rfl | rfl
 all_goals first | rw [part_nothing] | rw [part_truths] | rw [part_numbers]
 all_goals first | rfl | skip
 ·rw [run3, if_neg (by omega), decide_eq_false (show ¬ b < a by omega), Bool.false_and]
 ·rw [run3, if_neg (by omega), decide_eq_true ab, Bool.true_and, decide_eq_false (show ¬ (1 : Int) <= 0 by decide), Bool.false_and]
 ·rw [run3, if_pos rfl, decide_eq_false (by omega)]
 ·rw [run3, if_neg (by omega), decide_eq_true ab, Bool.true_and, decide_eq_false (show ¬ 1 <= -c by omega), Bool.false_and]
 ·rw [run3, if_neg (by omega), md, decide_eq_false (show ¬ (1 : Int) = 0 by decide), Bool.and_false, Bool.and_false]
def ptBadPlain : PSp := fun as R => ∃ a c m : Int, as = [.va (iT a), .va (iT c), .va (iT m)] /\ -10 ^ 80 < a /\ a < 10 ^ 80 /\ 2 <= c /\ c < 10 ^ 30 /\ 1 <= m /\ m <= 1000 /\ ∀ Bs, (∀ b ∈ Bs, BadP b) -> Bs.length <= 100 -> R (.seq false Bs)
theorem C31_ : FnScope ["_law_low", "_law_step", "_law_many", "_law_high", "_law_word", "_law_found"] ["_law_low", "_law_step", "_law_many"] (defScope s31_) := fsc (by decide +kernel)
theorem g31_ (h : Has K mg "_law_bad_plain" s31_) (B : Own mg)    : PGood P w K mg base 1 "_law_bad_plain" ["_law_low", "_law_step", "_law_many"] ptBadPlain := by
 have nd := C31_.nd
 refine h.pgood C31_ (fun|_,_,_,_,_,_,[_,_,_],_=>rfl) (fun f cdv A outer s H E F hr =>
   (us_cons (us_set (i := 3) nd rfl (.inl rfl) (ue_op pu_add (ue_var 0) (ue_op pu_mul2 (ue_var 1) (ue_var 2))))
   (us_cons (us_set (i := 4) nd rfl (.inl rfl) ue_str)
   (us_cons (us_set (i := 5) nd rfl (.inl rfl) (ue_ul (ul_lst (ua_c (ue_tup (ua_c ue_str (ua_c ue_non ua_nil))) (ua_c (ue_tup (ua_c ue_str (ua_c (ue_tup ua_nil) ua_nil))) (ua_c (ue_tup (ua_c ue_str (ua_c (ue_tup ua_nil) ua_nil))) (ua_c (ue_tup (ua_c ue_str (ua_c (ue_tup (ua_c ue_bl (ua_c ue_bl ua_nil))) ua_nil))) (ua_c (ue_tup (ua_c ue_str (ua_c (ue_tup (ua_c ue_bl (ua_c ue_bl ua_nil))) ua_nil))) ua_nil))))))))
   (us_cons (us_set (i := 5) nd rfl (.inl rfl) (ue_op pu_add (ue_var 5) (ue_ul (ul_lst (ua_c (ue_tup (ua_c ue_str (ua_c (ue_tup (ua_c ue_int ua_nil)) ua_nil))) (ua_c (ue_tup (ua_c ue_str (ua_c (ue_tup (ua_c ue_bl (ua_c ue_int ua_nil))) ua_nil))) (ua_c (ue_tup (ua_c ue_str (ua_c (ue_ul (ul_lst (ua_c ue_bl ua_nil))) ua_nil))) (ua_c (ue_tup (ua_c ue_str (ua_c ue_bl ua_nil))) (ua_c (ue_tup (ua_c ue_str ua_nil)) ua_nil)))))))))
   (us_cons (us_set (i := 5) nd rfl (.inl rfl) (ue_op pu_add (ue_var 5) (ue_ul (ul_lst (ua_c (ue_tup (ua_c (ue_var 4) (ua_c (ue_var 3) (ua_c (ue_var 0) (ua_c (ue_var 1) ua_nil))))) (ua_c (ue_tup (ua_c (ue_var 4) (ua_c (ue_var 0) (ua_c (ue_var 3) (ua_c ue_int ua_nil))))) (ua_c (ue_tup (ua_c (ue_var 4) (ua_c (ue_var 0) (ua_c (ue_var 0) (ua_c (ue_var 1) ua_nil))))) (ua_c (ue_tup (ua_c (ue_var 4) (ua_c (ue_var 0) (ua_c (ue_var 3) (ua_c (ue_un pu_neg (ue_var 1)) ua_nil))))) ua_nil))))))))
   (us_cons (us_set (i := 5) nd rfl (.inl rfl) (ue_op pu_add (ue_var 5) (ue_ul (ul_lst (ua_c (ue_tup (ua_c (ue_var 4) (ua_c (ue_var 0) (ua_c (ue_op pu_add (ue_var 3) ue_int) (ua_c (ue_var 1) ua_nil))))) (ua_c (ue_tup (ua_c (ue_var 4) (ua_c (ue_var 0) (ua_c (ue_var 3) ua_nil)))) (ua_c (ue_tup (ua_c (ue_var 4) (ua_c (ue_tup (ua_c (ue_var 0) (ua_c (ue_var 3) (ua_c (ue_var 1) ua_nil)))) ua_nil))) (ua_c (ue_tup (ua_c (ue_var 4) ua_nil)) ua_nil))))))))
   (us_one (us_ret (ue_op pu_add (ue_var 5) (ue_ul (ul_lst (ua_c (ue_tup (ua_c (ue_var 4) (ua_c ue_bl (ua_c ue_bl (ua_c ue_int ua_nil))))) (ua_c (ue_tup (ua_c (ue_var 4) (ua_c ue_int (ua_c ue_int (ua_c ue_bl ua_nil))))) (ua_c (ue_tup (ua_c (ue_var 4) (ua_c ue_str (ua_c ue_str (ua_c ue_int ua_nil))))) (ua_c (ue_tup (ua_c (ue_var 4) (ua_c (ue_var 0) (ua_c (ue_var 3) (ua_c (ue_var 1) (ua_c ue_int ua_nil)))))) ua_nil)))))))))))))))) (fun as R q => ?_)
 obtain ⟨a, c, m, rfl, a1, a2, c1, c2, m1, m2, q⟩ := q
 have bb : a + c * m < 10 ^ 81 := by
  have : c * m <= c * 1000 := Int.mul_le_mul_of_nonneg_left m2 (by omega)
  omega
 have pb := pl_bad a2 c1 c2 m1 bb
 refine ⟨rfl, .inr ⟨big_of (by omega) (by omega), big_of (by omega) (by omega)⟩, ?_⟩
 show PEnds.nx _ _
 refine nxE (ρ' := [.va (iT a), .va (iT c), .va (iT m), .va (iT (a + c * m)), .no, .no]) rfl ?_
 generalize a + c * m = b at pb
 refine ⟨by simp, by simp, by simp, by simp, by simp, by simp, by simp, by simp, by simp, by simp, ?_⟩
 show PEnds.nx _ _
 refine nxE (ρ' := [.va (iT a), .va (iT c), .va (iT m), .va (iT b), .va (sT "numbers"), .va (.seq false plA)]) rfl ?_
 refine ⟨by simp, by simp, by simp, by simp, by simp, by simp, by simp, by simp, by simp, by simp [plA], ?_⟩
 show PEnds.nx _ _
 refine nxE (ρ' := [.va (iT a), .va (iT c), .va (iT m), .va (iT b), .va (sT "numbers"), .va (.seq false (plA ++ plB))]) rfl ?_
 refine ⟨by simp, by simp, by simp, by simp, by simp, by simp [plA, plB], ?_⟩
 show PEnds.nx _ _
 refine nxE (ρ' := [.va (iT a), .va (iT c), .va (iT m), .va (iT b), .va (sT "numbers"), .va (.seq false ((plA ++ plB) ++ plC a b c))]) rfl ?_
 refine ⟨by simp, by simp, by simp, by simp, by simp, by simp, by simp [plA, plB, plC], ?_⟩
 show PEnds.nx _ _
 refine nxE (ρ' := [.va (iT a), .va (iT c), .va (iT m), .va (iT b), .va (sT "numbers"), .va (.seq false (((plA ++ plB) ++ plC a b c) ++ plD a b c))]) rfl ?_
 exact ⟨by simp, by simp, by simp, by simp, by simp, by simp [plA, plB, plC, plD], q (plT a b c) pb (by simp [plT, plA, plB, plC, plD, plE])⟩
end
end My
namespace My
open PySem L2 PyProof.Rows WordM
section
variable {P : Program} {w : World} {K : PySem.W.Frag} {mg : Str -> Option Value} {base : Heap}
def goodP (a b c m : Int) (ts ns : List Str) : List Tv := [.seq true [sT "nothing"], .seq true [sT "truths", .seq true [bT false, bT true]], .seq true [sT "numbers", iT a, iT b, iT c], .seq true [sT "texts", .seq true [sT "few", .seq true (ts.map sT)]],
 .seq true [sT "lists", iT 0, iT m, .seq true [.seq true [sT "truths", .seq true [bT true]]]], .seq true [sT "record", iT 5, iT 7, .seq true (ns.mapIdx fun i n => .seq true [sT n, bT (decide (2 < (i : Int))), .seq true [.seq true [sT "nothing"]]])]]
def fldOf : Tv -> Tv
 | .seq _ [.leaf (.int i), n] => .seq true [n, bT (decide (2 < i)), .seq true [.seq true [sT "nothing"]]]
 | T => T
def ptGood : PSp := fun as R => ∃ (a c m : Int) (nm tx : List Str), as = [.va (iT a), .va (iT c), .va (iT m), .va (.seq false (nm.map sT)), .va (.seq false (tx.map sT))] /\ -10 ^ 80 < a /\ a < 10 ^ 80 /\ 2 <= c /\ c < 10 ^ 30 /\ 1 <= m /\ m <= 1000 /\ nm.length = 11 /\ tx.length = 9 /\ R (.seq true (goodP a (a + c * m) c m (sortS (tx.take 6)) (sortS (nm.take 8))))
theorem C36_ : FnScope ["_law_low", "_law_step", "_law_many", "_law_names", "_law_texts", "_law_inner", "_law_form", "_law_fields"] ["_law_low", "_law_step", "_law_many", "_law_names", "_law_texts"] (defScope s36_) := fsc (by decide +kernel)
theorem g36_ (h : Has K mg "_law_good" s36_) (B : Own mg)    : PGood P w K mg base 1 "_law_good" ["_law_low", "_law_step", "_law_many", "_law_names", "_law_texts"] ptGood := by
 have nd := C36_.nd
 refine h.pgood C36_ (fun|_,_,_,_,_,_,[_,_,_,_,_],_=>rfl) (fun f cdv A outer s H E F hr =>
   (us_cons (us_set (i := 5) nd rfl (.inl rfl) (ue_tup (ua_c (ue_tup (ua_c ue_str (ua_c (ue_var 0) (ua_c (ue_op pu_add (ue_var 0) (ue_op pu_mul2 (ue_var 1) (ue_var 2))) (ua_c (ue_var 1) ua_nil))))) ua_nil)))
   (us_cons (us_set (i := 6) nd rfl (.inl rfl) (ue_op pu_add (ue_op pu_add (ue_tup (ua_c (ue_tup (ua_c ue_str ua_nil)) (ua_c (ue_tup (ua_c ue_str (ua_c (ue_tup (ua_c ue_bl (ua_c ue_bl ua_nil))) ua_nil))) ua_nil))) (ue_var 5)) (ue_tup (ua_c (ue_tup (ua_c ue_str (ua_c (ue_tup (ua_c ue_str (ua_c (ue_callTy pu_tupOf rfl B.tuple_ boot_tuple (ua_c (ue_ul (ul_callB (pu_sorted rfl) rfl B.sorted boot_sorted (ua_c (ue_slice pu_sl (ue_var 4) uo_none (uo_some ue_int)) ua_nil))) ua_nil)) ua_nil))) ua_nil))) ua_nil))))
   (us_cons (us_set (i := 6) nd rfl (.inl rfl) (ue_op pu_add (ue_var 6) (ue_tup (ua_c (ue_tup (ua_c ue_str (ua_c ue_int (ua_c (ue_var 2) (ua_c (ue_tup (ua_c (ue_tup (ua_c ue_str (ua_c (ue_tup (ua_c ue_bl ua_nil)) ua_nil))) ua_nil)) ua_nil))))) ua_nil))))
   (us_cons (us_setc (i := 7) (sc := defScope s36_) (XN := ["_law_low", "_law_step", "_law_many", "_law_names", "_law_texts", "_law_inner", "_law_form", "_law_fields"]) (N := ["_law_k", "_law_name"]) (own := 2) (fr := []) rfl nd rfl (.inl rfl) ⟨rfl, by decide +kernel, by decide +kernel, by decide +kernel, rfl, by decide +kernel, by decide, by decide +kernel⟩ (by decide) (ui_enum rfl B.enumerate (ua_c (ue_ul (ul_callB (pu_sorted rfl) rfl B.sorted boot_sorted (ua_c (ue_slice pu_sl (ue_var 3) uo_none (uo_some ue_int)) ua_nil))) ua_nil)) (fun _ _ _ _ _ => (ug_tup 2 rfl (ugs_cons (ug_name 0 (by decide) (show (["_law_k", "_law_name"] : List Str).Nodup by decide +kernel) rfl (by first | exact Or.inl rfl | exact Or.inr rfl)) (ugs_cons (ug_name 1 (by decide) (show (["_law_k", "_law_name"] : List Str).Nodup by decide +kernel) rfl (by first | exact Or.inl rfl | exact Or.inr rfl)) ugs_nil)))) (fun _ _ _ _ _ => uf_nil) (fun _ _ _ _ _ => (ue_tup (ua_c (ue_var 1) (ua_c (ue_cmp (pu_gt).op (ue_var 0) ue_int (nomark _)) (ua_c (ue_tup (ua_c (ue_tup (ua_c ue_str ua_nil)) ua_nil)) ua_nil))))))
   (us_one (us_ret (ue_op pu_add (ue_var 6) (ue_tup (ua_c (ue_tup (ua_c ue_str (ua_c ue_int (ua_c ue_int (ua_c (ue_callTy pu_tupOf rfl B.tuple_ boot_tuple (ua_c (ue_var 7) ua_nil)) ua_nil))))) ua_nil)))))))))) (fun as R q => ?_)
 obtain ⟨a, c, m, nm, tx, rfl, a1, a2, c1, c2, m1, m2, ln, lt, q⟩ := q
 refine ⟨rfl, .inr ⟨big_of (by omega) (by omega), big_of (by omega) (by omega)⟩, by simp, by simp, ?_⟩
 show PEnds.nx _ _
 generalize hb : a + c * m = b at q
 refine nxE (ρ' := [.va (iT a), .va (iT c), .va (iT m), .va (.seq false (nm.map sT)), .va (.seq false (tx.map sT)), .va (.seq true [.seq true [sT "numbers", iT a, iT b, iT c]]), .no, .no]) (by rw [<- hb]; rfl) ?_
 have cut : ∀ (l : List Str) (k : Nat), cutT (l.map sT) none (some (k : Int)) = (l.take k).map sT := fun l k => by
  unfold cutT
  rw [HT.sIx_none, HT.sIx_nat, List.drop_zero, Nat.sub_zero, List.map_take, List.length_map]
  rcases Nat.le_total k l.length with h | h
  ·rw [Nat.min_eq_left h]
  ·rw [Nat.min_eq_right h, List.take_of_length_le (by rw [List.length_map]; exact Nat.le_refl _), List.take_of_length_le (by rw [List.length_map]; exact h)]
 refine ⟨by simp, by simp, by simp, by simp, by simp, 6, rfl, .inr (.inl ⟨tx.take 6, by rw [<- cut tx 6]; rfl, by rw [List.length_take]; omega, false, _, rfl, by simp, by simp, by simp, by simp, ?_⟩)⟩
 have l6 : (sortS (tx.take 6)).length = 6 := by rw [sortS_len, List.length_take]; omega
 have l8 : (sortS (nm.take 8)).length = 8 := by rw [sortS_len, List.length_take]; omega
 show PEnds.nx _ _
 refine nxE (ρ' := [.va (iT a), .va (iT c), .va (iT m), .va (.seq false (nm.map sT)), .va (.seq false (tx.map sT)), .va (.seq true [.seq true [sT "numbers", iT a, iT b, iT c]]), .va (.seq true ((goodP a b c m (sortS (tx.take 6)) (sortS (nm.take 8))).take 4)), .no]) rfl ?_
 refine ⟨by simp, by simp, by simp, by simp, by simp, by simp [goodP], ?_⟩
 show PEnds.nx _ _
 refine nxE (ρ' := [.va (iT a), .va (iT c), .va (iT m), .va (.seq false (nm.map sT)), .va (.seq false (tx.map sT)), .va (.seq true [.seq true [sT "numbers", iT a, iT b, iT c]]), .va (.seq true ((goodP a b c m (sortS (tx.take 6)) (sortS (nm.take 8))).take 5)), .no]) rfl ?_
 refine ⟨8, rfl, .inr (.inl ⟨nm.take 8, by rw [<- cut nm 8]; rfl, by rw [List.length_take]; omega, ?_⟩)⟩
 generalize hN : sortS (nm.take 8) = N at q l8
 refine ⟨_, rfl, by rw [List.length_mapIdx, List.length_map]; omega, compT_map fldOf (fun T hT R q => ?_) ?_⟩
 ·obtain ⟨i, hi, rfl⟩ := List.mem_mapIdx.mp hT
  rw [List.getElem_map] at q ⊢
  exact ⟨_, rfl, by simp, _, _, rfl, _, _, rfl, by simp, by simp, by simp, by simp, q⟩
 ·refine ⟨false, _, rfl, by simp, by simp, by simp [goodP], ?_⟩
  have e : ((N.map sT).mapIdx fun i T => (.seq true [iT (i : Nat), T] : Tv)).map fldOf = N.mapIdx fun i n => .seq true [sT n, bT (decide (2 < (i : Int))), .seq true [.seq true [sT "nothing"]]] := by
   apply List.ext_getElem
   ·simp
   ·intro i h1 h2
    simp [fldOf]
  rw [e]
  exact q
end
end My
namespace My
open PySem L2 PyProof.Rows WordM
section
variable {P : Program} {w : World} {K : PySem.W.Frag} {mg : Str -> Option Value} {base : Heap}
def BadW (U : Tv) : Prop := FlE 6 U /\ wordsB U = false
theorem part_texts (fm : Tv -> Bool) (l : List Tv) : partF fm (.seq true (sT "texts" :: l)) = oneB wordsB l := by
 show partL fm (sT "texts") l = _
 unfold partL
 rw [if_neg (by decide), if_neg (by decide), if_neg (by decide), if_pos (by decide)]
theorem BadW.part {U : Tv} (h : BadW U) : BadP (.seq true [sT "texts", U]) := ⟨fle_t (by simp) (all_cons (fle_s (by decide)) (all_cons h.1 all_nil)) (by simp), fun fm tp => by rw [part_texts]; exact h.2⟩
def FS : Tv := .seq true [sT "figure", sT "small"]
def fwT (U : Tv) : Tv := .seq true [sT "few", U]
def mkU (h lo hi ms : Tv) : Tv := .seq true [sT "make", h, lo, hi, ms]
def wdA (a b c : Str) : List Tv := [fwT (.seq true []), fwT (.seq true [sT c, sT b, sT a]), fwT (.seq true [sT a, sT a, sT b, sT c]), fwT (.seq false [sT a, sT b, sT c]), fwT (.seq true [iT 1])]
def wdB (a b c : Str) (sv : List Str) : List Tv := [fwT (.seq true (sv.map sT)), .seq true [sT "some", .seq true [sT a, sT b, sT c]], .seq true [sT "few"], fwT (sT a), .seq true [sT "few", .seq true [sT a, sT b, sT c], iT 1]]
def wdC (t : Str) : List Tv := [mkU (sT t) (iT 0) (iT 0) FS, mkU (sT t) (iT 3) (iT 2) FS, mkU (sT t) (iT (-1)) (iT 2) FS]
def wdD (t : Str) : List Tv := [mkU (sT t) (iT 1) (iT 2) (.seq true []), mkU (sT t) (iT 1) (iT 2) (.seq true [sT "small", sT "figure"]), mkU (sT t) (iT 1) (iT 2) (.seq true [sT "small", sT "small"])]
def wdE (t : Str) : List Tv := [mkU (sT t) (iT 1) (iT 2) (.seq true [sT "tall"]), mkU (sT t) (iT 1) (iT 2) (.seq false [sT "small"]), mkU nT (iT 1) (iT 2) FS, .seq true [sT "make", sT t, iT 1, iT 2]]
def wdF (t : Str) : List Tv := [mkU (sT t) (iT 1) (iT 2) (.seq true [.seq false [sT "small"]]), fwT (.seq true [.seq false [sT "a"]]), fwT (.seq true [.dct []]), mkU (.seq false []) (iT 1) (iT 2) FS]
noncomputable def wdG (t o : Str) : List Tv := [fwT (.seq true [sT o]), mkU (sT o) (iT 1) (iT 2) FS, fwT (.seq true ((sortS [o, t]).map sT))]
def wdH (t : Str) : List Tv := [mkU (sT t) (bT false) (iT 2) FS, mkU (sT t) (iT 1) (bT true) FS, .seq true [sT "make", sT t, iT 1, iT 2, FS, iT 0], .seq false [sT "make", sT t, iT 1, iT 2, FS]]
theorem fw_eq (U : Tv) : wordsB (fwT U) = fewB U := by
 show (if L2.eqT (sT "few") (sT "few") = true then fewB U else (L2.eqT (sT "few") (sT "make") && false)) = _
 rw [if_pos (by decide)]
theorem mk_eq (h lo hi ms : Tv) : wordsB (mkU h lo hi ms) = (txB h && (marksB ms && numW lo hi)) := by
 show (if L2.eqT (sT "make") (sT "few") = true then false else (L2.eqT (sT "make") (sT "make") && (txB h && (marksB ms && numW lo hi)))) = _
 rw [if_neg (by decide), show L2.eqT (sT "make") (sT "make") = true by decide, Bool.true_and]
theorem few_mem {p : List Tv} {x : Tv} (hx : x ∈ p) (h : txB x = false) : fewB (.seq true p) = false := by
 show (_ && (p.all txB && _)) = false
 have : p.all txB = false := by
  rw [List.all_eq_false]
  exact ⟨x, hx, by rw [h]; exact Bool.false_ne_true⟩
 rw [this, Bool.false_and, Bool.and_false]
theorem few_rise {p : List Str} (h : riseB p = false) : fewB (.seq true (p.map sT)) = false := by
 show (_ && (_ && riseB ((p.map sT).map strOf))) = false
 rw [strs_of, h, Bool.and_false, Bool.and_false]
theorem fle_d {n : Nat} {kts : List (Str × Tv)} : FlE (n + 1) (.dct kts) := trivial
theorem wds_bad {a b c t : Str} {sv : List Str} (ha : a.length <= 1000) (hb : b.length <= 1000) (hc : c.length <= 1000) (ht : t.length <= 1000) (bc : ¬ cs c < cs b) (hs : sv.length = 7) (hv : ∀ s ∈ sv, s.length <= 1000) : ∀ U ∈ (((((wdA a b c ++ wdB a b c sv) ++ wdC t) ++ wdD t) ++ wdE t) ++ wdF t) ++ wdH t, BadW U := fun U hU => by
 have fv : FlE 5 (.seq true (sv.map sT)) := fle_t (by rw [List.length_map]; omega) (fun x hx => by obtain ⟨s, hs, rfl⟩ := List.mem_map.mp hx; exact fle_s (hv s hs)) (fun a b k e => by have := congrArg List.length e; rw [List.length_map, hs] at this; simp at this)
 unfold wdA wdB wdC wdD wdE wdF wdH at hU
 simp only [List.cons_append, List.nil_append, List.mem_cons, List.not_mem_nil, or_false] at hU
 have A : FlE 6 U := by
  rcases hU with rfl | rfl | rfl | rfl | rfl | rfl | rfl | rfl | rfl | rfl | rfl | rfl | rfl | rfl | rfl | rfl | rfl | rfl | rfl | rfl | rfl | rfl | rfl | rfl | rfl | rfl | rfl | rfl
  all_goals (try unfold fwT); (try unfold mkU); (try unfold FS)
  all_goals repeat' (first | exact fv | exact all_nil | exact fle_b | exact fle_n | exact fle_d | exact fle_i (by decide) | exact fle_s (by first | assumption | decide) | refine all_cons ?_ ?_ | refine fle_t (by simp) ?_ (by simp))
 refine ⟨A, ?_⟩
 clear A
 have r1 : riseB [c, b, a] = false := by
  show (decide (cs c < cs b) && _) = false
  rw [decide_eq_false bc, Bool.false_and]
 have r2 : riseB [a, a, b, c] = false := by
  show (decide (cs a < cs a) && _) = false
  rw [decide_eq_false (List.lt_irrefl _), Bool.false_and]
 rcases hU with rfl | rfl | rfl | rfl | rfl | rfl | rfl | rfl | rfl | rfl | rfl | rfl | rfl | rfl | rfl | rfl | rfl | rfl | rfl | rfl | rfl | rfl | rfl | rfl | rfl | rfl | rfl | rfl
 all_goals first | rw [fw_eq] | rw [mk_eq] | skip
 all_goals first | rfl | skip
 ·exact few_rise r1
 ·exact few_rise r2
 ·show (_ && decide ((sv.map sT).length <= 6) && _) = false
  rw [List.length_map, hs, show decide (7 <= 6) = false from rfl, Bool.and_false, Bool.false_and]
 all_goals (cases txB (sT t) <;> first | rfl | decide +kernel)
theorem odd_bad {t o : Str} (ht : t.length <= 1000) (h1 : o.length <= 1000) (h2 : txB (sT o) = false) : ∀ U ∈ wdG t o, BadW U := fun U hU => by
 have fv : FlE 5 (.seq true ((sortS [o, t]).map sT)) := by
  have l : ((sortS [o, t]).map sT).length = 2 := by rw [List.length_map, sortS_len]; rfl
  refine fle_t (by omega) (fun x hx => ?_) (fun a b k e => by rw [e] at l; simp at l)
  obtain ⟨s, hs, rfl⟩ := List.mem_map.mp hx
  have := (sortS_perm _).mem_iff.mp hs
  simp at this
  rcases this with rfl | rfl <;> exact fle_s (by assumption)
 unfold wdG at hU
 simp only [List.mem_cons, List.not_mem_nil, or_false] at hU
 rcases hU with rfl | rfl | rfl
 ·refine ⟨?_, by rw [fw_eq]; exact few_mem (List.mem_cons_self ..) h2⟩
  unfold fwT
  repeat' (first | exact all_nil | exact fle_s (by first | assumption | decide) | refine all_cons ?_ ?_ | refine fle_t (by simp) ?_ (by simp))
 ·refine ⟨?_, by rw [mk_eq, h2, Bool.false_and]⟩
  unfold mkU FS
  repeat' (first | exact all_nil | exact fle_i (by decide) | exact fle_s (by first | assumption | decide) | refine all_cons ?_ ?_ | refine fle_t (by simp) ?_ (by simp))
 ·refine ⟨?_, by rw [fw_eq]; exact few_mem (x := sT o) (List.mem_map.mpr ⟨o, (sortS_perm _).mem_iff.mpr (List.mem_cons_self ..), rfl⟩) h2⟩
  unfold fwT
  repeat' (first | exact fv | exact all_nil | exact fle_s (by first | assumption | decide) | refine all_cons ?_ ?_ | refine fle_t (by simp) ?_ (by simp))
def ptBadWords : PSp := fun as R => ∃ tx : List Str, as = [.va (.seq false (tx.map sT))] /\ tx.length = 9 /\ (∀ s ∈ tx, s.length <= 1000) /\ ∀ Bs, (∀ b ∈ Bs, BadP b) -> Bs.length <= 100 -> R (.seq false Bs)
theorem cut_take (l : List Str) (k : Nat) : cutT (l.map sT) none (some (k : Int)) = (l.take k).map sT := by
 unfold cutT
 rw [HT.sIx_none, HT.sIx_nat, List.drop_zero, Nat.sub_zero, List.map_take, List.length_map]
 rcases Nat.le_total k l.length with h | h
 ·rw [Nat.min_eq_left h]
 ·rw [Nat.min_eq_right h, List.take_of_length_le (by rw [List.length_map]; exact Nat.le_refl _), List.take_of_length_le (by rw [List.length_map]; exact h)]
theorem C32_ : FnScope ["_law_texts", "_law_some", "_law_found", "_law_text_here", "_law_make", "_law_odd"] ["_law_texts"] (defScope s32_) := fsc (by decide +kernel)
theorem g32_ (h : Has K mg "_law_bad_words" s32_) (B : Own mg)    : PGood P w K mg base 1 "_law_bad_words" ["_law_texts"] ptBadWords := by
 have nd := C32_.nd
 refine h.pgood C32_ (fun|_,_,_,_,_,_,[_],_=>rfl) (fun f cdv A outer s H E F hr =>
   (us_cons (us_set (i := 1) nd rfl (.inl rfl) (ue_callTy pu_tupOf rfl B.tuple_ boot_tuple (ua_c (ue_ul (ul_callB (pu_sorted rfl) rfl B.sorted boot_sorted (ua_c (ue_slice pu_sl (ue_var 0) uo_none (uo_some ue_int)) ua_nil))) ua_nil)))
   (us_cons (us_set (i := 2) nd rfl (.inl rfl) (ue_ul (ul_lst (ua_c (ue_tup (ua_c ue_str (ua_c (ue_tup ua_nil) ua_nil))) (ua_c (ue_tup (ua_c ue_str (ua_c (ue_revT (ue_var 1) pe_m1) ua_nil))) (ua_c (ue_tup (ua_c ue_str (ua_c (ue_op pu_add (ue_slice pu_sl (ue_var 1) uo_none (uo_some ue_int)) (ue_var 1)) ua_nil))) (ua_c (ue_tup (ua_c ue_str (ua_c (ue_ul (ul_callTy pu_listOf rfl B.list_ boot_list (ua_c (ue_var 1) ua_nil))) ua_nil))) (ua_c (ue_tup (ua_c ue_str (ua_c (ue_tup (ua_c ue_int ua_nil)) ua_nil))) ua_nil))))))))
   (us_cons (us_set (i := 2) nd rfl (.inl rfl) (ue_op pu_add (ue_var 2) (ue_ul (ul_lst (ua_c (ue_tup (ua_c ue_str (ua_c (ue_callTy pu_tupOf rfl B.tuple_ boot_tuple (ua_c (ue_ul (ul_callB (pu_sorted rfl) rfl B.sorted boot_sorted (ua_c (ue_slice pu_sl (ue_var 0) uo_none (uo_some ue_int)) ua_nil))) ua_nil)) ua_nil))) (ua_c (ue_tup (ua_c ue_str (ua_c (ue_var 1) ua_nil))) (ua_c (ue_tup (ua_c ue_str ua_nil)) (ua_c (ue_tup (ua_c ue_str (ua_c (ue_ix (pu_ix hr.units) (ue_var 1) ue_int) ua_nil))) (ua_c (ue_tup (ua_c ue_str (ua_c (ue_var 1) (ua_c ue_int ua_nil)))) ua_nil)))))))))
   (us_cons (us_set (i := 3) nd rfl (.inl rfl) (ue_ix (pu_ix hr.units) (ue_var 0) ue_int))
   (us_cons (us_set (i := 4) nd rfl (.inl rfl) (ue_tup (ua_c ue_str (ua_c (ue_var 3) (ua_c ue_int (ua_c ue_int (ua_c (ue_tup (ua_c ue_str (ua_c ue_str ua_nil))) ua_nil)))))))
   (us_cons (us_set (i := 2) nd rfl (.inl rfl) (ue_op pu_add (ue_var 2) (ue_ul (ul_lst (ua_c (ue_op pu_add (ue_op pu_add (ue_slice pu_sl (ue_var 4) uo_none (uo_some ue_int)) (ue_tup (ua_c ue_int (ua_c ue_int ua_nil)))) (ue_slice pu_sl (ue_var 4) (uo_some ue_int) uo_none)) (ua_c (ue_op pu_add (ue_op pu_add (ue_slice pu_sl (ue_var 4) uo_none (uo_some ue_int)) (ue_tup (ua_c ue_int (ua_c ue_int ua_nil)))) (ue_slice pu_sl (ue_var 4) (uo_some ue_int) uo_none)) (ua_c (ue_op pu_add (ue_op pu_add (ue_slice pu_sl (ue_var 4) uo_none (uo_some ue_int)) (ue_tup (ua_c (ue_un pu_neg ue_int) (ua_c ue_int ua_nil)))) (ue_slice pu_sl (ue_var 4) (uo_some ue_int) uo_none)) ua_nil)))))))
   (us_cons (us_set (i := 2) nd rfl (.inl rfl) (ue_op pu_add (ue_var 2) (ue_ul (ul_lst (ua_c (ue_op pu_add (ue_slice pu_sl (ue_var 4) uo_none (uo_some ue_int)) (ue_tup (ua_c (ue_tup ua_nil) ua_nil))) (ua_c (ue_op pu_add (ue_slice pu_sl (ue_var 4) uo_none (uo_some ue_int)) (ue_tup (ua_c (ue_tup (ua_c ue_str (ua_c ue_str ua_nil))) ua_nil))) (ua_c (ue_op pu_add (ue_slice pu_sl (ue_var 4) uo_none (uo_some ue_int)) (ue_tup (ua_c (ue_tup (ua_c ue_str (ua_c ue_str ua_nil))) ua_nil))) ua_nil)))))))
   (us_cons (us_set (i := 2) nd rfl (.inl rfl) (ue_op pu_add (ue_var 2) (ue_ul (ul_lst (ua_c (ue_op pu_add (ue_slice pu_sl (ue_var 4) uo_none (uo_some ue_int)) (ue_tup (ua_c (ue_tup (ua_c ue_str ua_nil)) ua_nil))) (ua_c (ue_op pu_add (ue_slice pu_sl (ue_var 4) uo_none (uo_some ue_int)) (ue_tup (ua_c (ue_ul (ul_lst (ua_c ue_str ua_nil))) ua_nil))) (ua_c (ue_op pu_add (ue_op pu_add (ue_slice pu_sl (ue_var 4) uo_none (uo_some ue_int)) (ue_tup (ua_c ue_non ua_nil))) (ue_slice pu_sl (ue_var 4) (uo_some ue_int) uo_none)) (ua_c (ue_slice pu_sl (ue_var 4) uo_none (uo_some ue_int)) ua_nil))))))))
   (us_cons (us_set (i := 2) nd rfl (.inl rfl) (ue_op pu_add (ue_var 2) (ue_ul (ul_lst (ua_c (ue_op pu_add (ue_slice pu_sl (ue_var 4) uo_none (uo_some ue_int)) (ue_tup (ua_c (ue_tup (ua_c (ue_ul (ul_lst (ua_c ue_str ua_nil))) ua_nil)) ua_nil))) (ua_c (ue_tup (ua_c ue_str (ua_c (ue_tup (ua_c (ue_ul (ul_lst (ua_c ue_str ua_nil))) ua_nil)) ua_nil))) (ua_c (ue_tup (ua_c ue_str (ua_c (ue_tup (ua_c (ue_ud ud_nil) ua_nil)) ua_nil))) (ua_c (ue_op pu_add (ue_op pu_add (ue_slice pu_sl (ue_var 4) uo_none (uo_some ue_int)) (ue_tup (ua_c (ue_ul (ul_lst ua_nil)) ua_nil))) (ue_slice pu_sl (ue_var 4) (uo_some ue_int) uo_none)) ua_nil))))))))
   (us_cons (us_for (m := 6) PassesOwn.never rfl (ui_val (ue_tup (ua_c ue_str (ua_c ue_str (ua_c ue_str ua_nil))))) (ug_name 5 (by decide) nd rfl (.inl rfl))
    (us_one (us_set (i := 2) nd rfl (.inl rfl) (ue_op pu_add (ue_var 2) (ue_ul (ul_lst (ua_c (ue_tup (ua_c ue_str (ua_c (ue_tup (ua_c (ue_var 5) ua_nil)) ua_nil))) (ua_c (ue_op pu_add (ue_op pu_add (ue_slice pu_sl (ue_var 4) uo_none (uo_some ue_int)) (ue_tup (ua_c (ue_var 5) ua_nil))) (ue_slice pu_sl (ue_var 4) (uo_some ue_int) uo_none)) (ua_c (ue_tup (ua_c ue_str (ua_c (ue_callTy pu_tupOf rfl B.tuple_ boot_tuple (ua_c (ue_ul (ul_callB (pu_sorted rfl) rfl B.sorted boot_sorted (ua_c (ue_ul (ul_lst (ua_c (ue_var 5) (ua_c (ue_var 3) ua_nil)))) ua_nil))) ua_nil)) ua_nil))) ua_nil)))))))))
   (us_cons (us_set (i := 2) nd rfl (.inl rfl) (ue_op pu_add (ue_var 2) (ue_ul (ul_lst (ua_c (ue_op pu_add (ue_op pu_add (ue_slice pu_sl (ue_var 4) uo_none (uo_some ue_int)) (ue_tup (ua_c ue_bl (ua_c ue_int ua_nil)))) (ue_slice pu_sl (ue_var 4) (uo_some ue_int) uo_none)) (ua_c (ue_op pu_add (ue_op pu_add (ue_slice pu_sl (ue_var 4) uo_none (uo_some ue_int)) (ue_tup (ua_c ue_bl ua_nil))) (ue_slice pu_sl (ue_var 4) (uo_some ue_int) uo_none)) (ua_c (ue_op pu_add (ue_var 4) (ue_tup (ua_c ue_int ua_nil))) (ua_c (ue_ul (ul_callTy pu_listOf rfl B.list_ boot_list (ua_c (ue_var 4) ua_nil))) ua_nil))))))))
   (us_one (us_ret (ue_op pu_add (ue_ul (ul_comp (sc := defScope s32_) (XN := ["_law_texts", "_law_some", "_law_found", "_law_text_here", "_law_make", "_law_odd"]) (N := ["_law_words"]) (own := 1) (fr := []) rfl ⟨rfl, by decide +kernel, by decide +kernel, by decide +kernel, rfl, by decide +kernel, by decide, by decide +kernel⟩ (by decide) (ui_val (ue_var 2)) (fun _ _ _ _ _ => (ug_name 0 (by decide) (show (["_law_words"] : List Str).Nodup by decide +kernel) rfl (by first | exact Or.inl rfl | exact Or.inr rfl))) (fun _ _ _ _ _ => uf_nil) (fun _ _ _ _ _ => (ue_tup (ua_c ue_str (ua_c (ue_var 0) ua_nil)))))) (ue_ul (ul_lst (ua_c (ue_tup (ua_c ue_str ua_nil)) (ua_c (ue_tup (ua_c ue_str (ua_c (ue_var 4) (ua_c (ue_var 4) ua_nil)))) (ua_c (ue_op pu_add (ue_tup (ua_c ue_str ua_nil)) (ue_var 4)) ua_nil)))))))))))))))))))) (fun as R q => ?_)
 obtain ⟨tx, rfl, lt, tl, q⟩ := q
 have l3 : (sortS (tx.take 3)).length = 3 := by rw [sortS_len, List.length_take]; omega
 have l7 : (sortS (tx.take 7)).length = 7 := by rw [sortS_len, List.length_take]; omega
 have m3 : ∀ s ∈ sortS (tx.take 3), s.length <= 1000 := fun s hs => tl s (List.mem_of_mem_take ((sortS_perm _).mem_iff.mp hs))
 have m7 : ∀ s ∈ sortS (tx.take 7), s.length <= 1000 := fun s hs => tl s (List.mem_of_mem_take ((sortS_perm _).mem_iff.mp hs))
 have p3 := sort_pw (tx.take 3)
 obtain ⟨t, ht⟩ : ∃ t, tx[3]? = some t := ⟨_, List.getElem?_eq_getElem (by omega)⟩
 have tt : t.length <= 1000 := tl t (List.mem_of_getElem? ht)
 refine ⟨rfl, 3, rfl, .inr (.inl ⟨tx.take 3, by rw [<- cut_take tx 3]; rfl, by rw [List.length_take]; omega, false, _, rfl, ?_⟩)⟩
 show PEnds.nx _ _
 generalize sortS (tx.take 3) = S3 at l3 m3 p3
 match S3, l3, m3, p3 with
 | [a, b, c], _, m3, p3 =>
 have bc : ¬ cs c < cs b := by
  have := (List.pairwise_cons.mp (List.pairwise_cons.mp p3).2).1 c (by simp)
  exact this
 refine nxE (ρ' := [.va (.seq false (tx.map sT)), .va (.seq true [sT a, sT b, sT c]), .no, .no, .no, .no]) rfl ?_
 let e1 (L : List Tv) (x y : Sl) (z : Sl) : PEnv := [.va (.seq false (tx.map sT)), .va (.seq true [sT a, sT b, sT c]), .va (.seq false L), x, y, z]
 refine ⟨by simp, by simp, _, rfl, by simp, 1, rfl, by simp [cutT, HT.sIx], by simp, _, _, rfl, by simp, by simp, by simp, by simp, ?_⟩
 show PEnds.nx _ _
 refine nxE (ρ' := e1 (wdA a b c) .no .no .no) rfl ?_
 refine ⟨7, rfl, .inr (.inl ⟨tx.take 7, by rw [<- cut_take tx 7]; rfl, by rw [List.length_take]; omega, false, _, rfl, by simp, by simp, by simp, _, rfl, by simp, by simp, by simp, by simp [wdA], ?_⟩)⟩
 show PEnds.nx _ _
 refine nxE (ρ' := e1 (wdA a b c ++ wdB a b c (sortS (tx.take 7))) .no .no .no) rfl ?_
 refine ⟨_, atI_nat (j := 3) (show (tx.map sT)[3]? = some (sT t) by rw [List.getElem?_map, ht]; rfl), ?_⟩
 generalize sortS (tx.take 7) = S7 at l7 m7
 show PEnds.nx _ _
 refine nxE (ρ' := e1 (wdA a b c ++ wdB a b c S7) (.va (sT t)) .no .no) rfl ?_
 refine ⟨by simp, by simp, ?_⟩
 show PEnds.nx _ _
 let mk : Tv := .seq true [sT "make", sT t, iT 1, iT 2, FS]
 refine nxE (ρ' := e1 (wdA a b c ++ wdB a b c S7) (.va (sT t)) (.va mk) .no) rfl ?_
 have wb := wds_bad (m3 a (by simp)) (m3 b (by simp)) (m3 c (by simp)) tt bc l7 m7
 have lb : (wdA a b c ++ wdB a b c S7).length = 10 := rfl
 generalize wdA a b c ++ wdB a b c S7 = L0 at lb wb
 refine ⟨2, rfl, by simp, by simp [cutT, HT.sIx], 4, rfl, by simp [cutT, HT.sIx], 2, rfl, by simp, by simp [cutT, HT.sIx], 4, rfl, by simp [cutT, HT.sIx], 2, rfl, by simp, by simp [cutT, HT.sIx], 4, rfl, by simp [cutT, HT.sIx], by simp, by rw [lb]; simp, ?_⟩
 show PEnds.nx _ _
 refine nxE (ρ' := e1 (L0 ++ wdC t) (.va (sT t)) (.va mk) .no) rfl ?_
 have lb1 : (L0 ++ wdC t).length = 13 := by rw [List.length_append, lb]; rfl
 generalize L0 ++ wdC t = L1 at lb1 wb
 refine ⟨4, rfl, by simp, by simp, by simp [cutT, HT.sIx], 4, rfl, by simp, by simp, by simp [cutT, HT.sIx], 4, rfl, by simp, by simp, by simp [cutT, HT.sIx], by simp, by rw [lb1]; simp, ?_⟩
 show PEnds.nx _ _
 refine nxE (ρ' := e1 (L1 ++ wdD t) (.va (sT t)) (.va mk) .no) rfl ?_
 have lb2 : (L1 ++ wdD t).length = 16 := by rw [List.length_append, lb1]; rfl
 generalize L1 ++ wdD t = L2 at lb2 wb
 refine ⟨4, rfl, by simp, by simp, by simp [cutT, HT.sIx], 4, rfl, by simp, by simp, by simp [cutT, HT.sIx], 1, rfl, by simp, by simp [cutT, HT.sIx], 2, rfl, by simp [cutT, HT.sIx], 4, rfl, by simp, by rw [lb2]; simp, ?_⟩
 show PEnds.nx _ _
 refine nxE (ρ' := e1 (L2 ++ wdE t) (.va (sT t)) (.va mk) .no) rfl ?_
 have lb3 : (L2 ++ wdE t).length = 20 := by rw [List.length_append, lb2]; rfl
 generalize L2 ++ wdE t = L3 at lb3 wb
 refine ⟨4, rfl, by simp, by simp, by simp, by simp [cutT, HT.sIx], by simp, by simp, by simp, by simp, by simp, 1, rfl, by simp, by simp, by simp [cutT, HT.sIx], 2, rfl, by simp [cutT, HT.sIx], by simp, by rw [lb3]; simp, ?_⟩
 show PEnds.nx _ _
 refine nxE (ρ' := e1 (L3 ++ wdF t) (.va (sT t)) (.va mk) .no) rfl ?_
 have lb4 : (L3 ++ wdF t).length = 24 := by rw [List.length_append, lb3]; rfl
 generalize L3 ++ wdF t = L4 at lb4 wb
 refine ⟨by simp, ?_⟩
 have w4 : ∀ U ∈ L4, BadW U := fun U hU => wb U (List.mem_append_left _ hU)
 refine forT_inv (fun i ρ => ∃ (L : List Tv) (z : Sl), L.length = 24 + 3 * i /\ (∀ U ∈ L, BadW U) /\ ρ = e1 L (.va (sT t)) (.va mk) z) ⟨L4, .no, lb4, w4, rfl⟩ ?_ ?_
 ·rintro i T _ N hT ⟨L, z, ll, wl, rfl⟩ hN
  have hi : i < 3 := (List.getElem?_eq_some_iff.mp hT).1
  have ho : ∃ o : Str, T = sT o /\ o.length <= 1000 /\ txB (sT o) = false := by
   have := List.mem_of_getElem? hT
   simp only [List.mem_cons, List.not_mem_nil, or_false] at this
   rcases this with rfl | rfl | rfl <;> exact ⟨_, rfl, by decide, by decide +kernel⟩
  obtain ⟨o, rfl, ol, ob⟩ := ho
  refine ⟨by simp, by simp, 1, rfl, by simp, by simp [cutT, HT.sIx], 2, rfl, by simp [cutT, HT.sIx], by simp, .inr (.inl ⟨[o, t], rfl, by simp, false, _, rfl, by simp, by simp, ?_, ?_⟩)⟩
  ·show L.length + 3 <= 100000
   omega
  ·refine hN _ ⟨L ++ wdG t o, .va (sT o), by rw [List.length_append, ll]; show 24 + 3 * i + 3 = _; omega, fun U hU => ?_, rfl⟩
   rcases List.mem_append.mp hU with h | h
   ·exact wl U h
   ·exact odd_bad tt ol ob U h
 ·rintro _ ⟨L, z, ll, wl, rfl⟩
  have ll : L.length = 33 := ll
  refine ⟨2, rfl, by simp, by simp [cutT, HT.sIx], 4, rfl, by simp [cutT, HT.sIx], 3, rfl, by simp, by simp [cutT, HT.sIx], 4, rfl, by simp [cutT, HT.sIx], by simp, by simp [cutT, HT.sIx], _, _, rfl, by simp, by rw [ll]; simp, ?_⟩
  show PEnds.nx _ _
  refine nxE (ρ' := e1 (L ++ wdH t) (.va (sT t)) (.va mk) z) rfl ?_
  have l8 : (L ++ wdH t).length = 37 := by rw [List.length_append, ll]; rfl
  have w8 : ∀ U ∈ L ++ wdH t, BadW U := fun U hU => (List.mem_append.mp hU).elim (wl U) fun h => wb U (List.mem_append_right _ h)
  generalize L ++ wdH t = L8 at l8 w8
  clear wb wl w4
  refine ⟨by rw [l8]; simp, compT_map (fun U => .seq true [sT "texts", U]) (fun U hU R q => ⟨by simp, q⟩) ?_⟩
  refine ⟨by simp, by simp, by simp, by simp, by simp, by rw [List.length_map, l8]; simp, q (L8.map (fun U => .seq true [sT "texts", U]) ++ [.seq true [sT "texts"], .seq true [sT "texts", mk, mk], .seq true [sT "texts", sT "make", sT t, iT 1, iT 2, FS]]) (fun r hr => ?_) (by rw [List.length_append, List.length_map, l8]; simp)⟩
  rcases List.mem_append.mp hr with h | h
  ·obtain ⟨U, hU, rfl⟩ := List.mem_map.mp h
   exact (w8 U hU).part
  ·have fk : FlE 6 mk := by
    show FlE 6 (.seq true [sT "make", sT t, iT 1, iT 2, .seq true [sT "figure", sT "small"]])
    repeat' (first | exact all_nil | exact fle_i (by decide) | exact fle_s (by first | assumption | decide) | refine all_cons ?_ ?_ | refine fle_t (by simp) ?_ (by simp))
   have fs : FlE 6 FS := by
    unfold FS
    repeat' (first | exact all_nil | exact fle_s (by decide) | refine all_cons ?_ ?_ | refine fle_t (by simp) ?_ (by simp))
   simp only [List.mem_cons, List.not_mem_nil, or_false] at h
   rcases h with rfl | rfl | rfl
   ·exact ⟨fle_t (by simp) (all_cons (fle_s (by decide)) all_nil) (by simp), fun fm tp => by rw [part_texts]; rfl⟩
   ·exact ⟨fle_t (by simp) (all_cons (fle_s (by decide)) (all_cons fk (all_cons fk all_nil))) (by simp), fun fm tp => by rw [part_texts]; rfl⟩
   ·exact ⟨fle_t (by simp) (all_cons (fle_s (by decide)) (all_cons (fle_s (by decide)) (all_cons (fle_s tt) (all_cons (fle_i (by decide)) (all_cons (fle_i (by decide)) (all_cons fs all_nil)))))) (by simp), fun fm tp => by rw [part_texts]; rfl⟩
end
end My
namespace My
open PySem L2 PyProof.Rows WordM
section
variable {P : Program} {w : World} {K : PySem.W.Frag} {mg : Str -> Option Value} {base : Heap}
def fldT (x : Str) (m : Tv) (I : List Tv) : Tv := .seq true [sT x, m, .seq true I]
def recA (x y : Str) (nine : List Tv) (I : List Tv) : List Tv := [.seq true [iT 9, iT 9, .seq true nine], .seq true [iT 2, iT 2, .seq true [fldT y (bT true) I, fldT x (bT true) I]], .seq true [iT 2, iT 2, .seq true [fldT x (bT true) I, fldT x (bT true) I]], .seq true [iT 2, iT 2, .seq false [fldT x (bT true) I, fldT y (bT true) I]], .seq true [iT 2, iT 2, .seq true [fldT x (bT true) I, fldT y (iT 1) I]]]
def recB (x y : Str) (I : List Tv) : List Tv := [.seq true [iT 2, iT 2, .seq true [fldT x (bT true) I, fldT y (bT true) []]], .seq true [iT 2, iT 2, .seq true [fldT x (bT true) I, .seq true [sT y, bT true]]], .seq true [iT 1, iT 2, .seq true [fldT x (bT true) I, fldT y (bT true) I]], .seq true [iT 2, iT 3, .seq true [fldT x (bT true) I, fldT y (bT true) I]], .seq true [iT 2, iT 2, .seq true [fldT x (bT true) I, fldT y (bT false) I]]]
def recC (x y : Str) (I : List Tv) : List Tv := [.seq true [iT 1, iT 1, .seq true [fldT x (bT true) I, fldT y (bT false) I]], .seq true [iT 0, iT 2, .seq true [fldT x (bT true) I, fldT y (bT false) I]], .seq true [iT 2, iT 1, .seq true [fldT x (bT true) I, fldT y (bT false) I]], .seq true [bT true, iT 2, .seq true [fldT x (bT true) I, fldT y (bT false) I]], .seq true [iT 0, iT 0], .seq true [iT 0, iT 0, .seq true [.seq true []]]]
def recD (x y : Str) (I : List Tv) : List Tv := [.seq true [iT 1, iT 1, .seq true [.seq true [iT 1, bT true, .seq true I]]], .seq true [iT 0, iT 1, .seq true []], .seq true [iT 2, iT 2, .seq true [fldT x (bT true) I, .seq false [sT y, bT true, .seq true I]]], .seq true [iT 2, iT 2, .seq true [fldT x (bT true) I, fldT y (bT true) I], .seq true []], .seq true [iT 0, iT 0, nT]]
def recE (I : List Tv) (o : Str) : Tv := .seq true [iT 1, iT 1, .seq true [fldT o (bT true) I]]
def recT (x y : Str) (nine I : List Tv) : List Tv := ((((recA x y nine I ++ recB x y I) ++ recC x y I) ++ recD x y I) ++ (["a\n", "\t", "\na"] : List Str).map (recE I))
theorem fields_bad {fm : Tv -> Bool} {fs : List Tv} {f : Tv} (hf : f ∈ fs) (h : fieldF fm f = false) : fieldsF fm (.seq true fs) = false := by
 show (_ && (fs.all (fieldF fm) && _)) = false
 have : fs.all (fieldF fm) = false := by
  rw [List.all_eq_false]
  exact ⟨f, hf, by rw [h]; exact Bool.false_ne_true⟩
 rw [this, Bool.false_and, Bool.and_false]
theorem fields_rise {fm : Tv -> Bool} {fs : List Tv} (h : riseB (fs.map fun f => strOf (nmOf f)) = false) : fieldsF fm (.seq true fs) = false := by
 show (_ && (_ && riseB (fs.map fun f => strOf (nmOf f)))) = false
 rw [h, Bool.and_false, Bool.and_false]
theorem recs_bad {x y : Str} {nine I : List Tv} (hx : x.length <= 1000) (hy : y.length <= 1000) (xy : ¬ cs y < cs x) (n9 : nine.length = 9) (fn : ∀ f ∈ nine, FlE 5 f) (il : I.length <= 3) (fi : ∀ i ∈ I, FlE 3 i) : ∀ r ∈ recT x y nine I, BadP (consT "record" r) := fun r hr => by
 have fI : FlE 4 (.seq true I) := ⟨by omega, fi, fun a b f e => by subst e; simp at il⟩
 have f9 : FlE 6 (.seq true nine) := fle_t (by omega) fn (fun a b k e => by rw [e] at n9; simp at n9)
 have ff : ∀ (z : Str) (m : Tv), z.length <= 1000 -> FlE 4 m -> FlE 5 (fldT z m I) := fun z m a b => fle_t (by simp) (all_cons (fle_s a) (all_cons b (all_cons fI all_nil))) (by simp)
 have go : ∀ l : List Tv, (∀ y ∈ sT "record" :: l, FlE 6 y) -> l.length <= 50 -> (∀ a b kts, sT "record" :: l ≠ [a, b, iT 0, .dct kts]) -> (∀ fm, Tup fm -> recF fm (sT "record" :: l) = false) -> BadP (consT "record" (.seq true l)) := fun l a b c d => ⟨fle_t (by rw [List.length_cons]; omega) a c, fun fm tp => (part_record fm l).trans (d fm tp)⟩
 unfold recT recA recB recC recD at hr
 simp only [List.cons_append, List.nil_append, List.map_cons, List.map_nil, List.mem_cons, List.not_mem_nil, or_false] at hr
 have go2 : ∀ {fm : Tv -> Bool} {w lo hi fs : Tv}, fieldsF fm fs = false -> recF fm [w, lo, hi, fs] = false := fun {fm w lo hi fs} h => by
  show (_ && (fieldsF fm fs && _)) = false
  rw [h, Bool.false_and, Bool.and_false]
 have go3 : ∀ {fm : Tv -> Bool} {w lo hi fs : Tv}, recM lo hi fs = false -> recF fm [w, lo, hi, fs] = false := fun {fm w lo hi fs} h => by
  show (_ && (fieldsF fm fs && recM lo hi fs)) = false
  rw [h, Bool.and_false, Bool.and_false]
 have r1 : riseB [y, x] = false := by
  show (decide (cs y < cs x) && _) = false
  rw [decide_eq_false xy, Bool.false_and]
 have r2 : riseB [x, x] = false := by
  show (decide (cs x < cs x) && _) = false
  rw [decide_eq_false (List.lt_irrefl _), Bool.false_and]
 rcases hr with rfl | rfl | rfl | rfl | rfl | rfl | rfl | rfl | rfl | rfl | rfl | rfl | rfl | rfl | rfl | rfl | rfl | rfl | rfl | rfl | rfl | rfl | rfl | rfl
 all_goals refine go _ (by repeat' (first | exact f9 | exact fI | exact all_nil | exact fle_b | exact fle_n | exact fle_i (by decide) | exact fle_s (by first | assumption | decide) | exact ff _ _ (by first | assumption | decide) (by first | exact fle_b | exact fle_i (by decide)) | refine all_cons ?_ ?_ | refine fle_t (by simp) ?_ (by simp))) (by simp) (by simp) fun fm tp => ?_
 all_goals first | rfl | skip
 ·refine go2 ?_
  show (decide (nine.length <= 8) && _) = false
  rw [n9, show decide (9 <= 8) = false from rfl, Bool.false_and]
 ·exact go2 (fields_rise r1)
 ·exact go2 (fields_rise r2)
 ·refine go2 (fields_bad (f := fldT y (iT 1) I) (by simp) ?_)
  show (_ && (false && _)) = false
  rw [Bool.false_and, Bool.and_false]
 ·refine go2 (fields_bad (f := fldT y (bT true) []) (by simp) ?_)
  show (_ && (_ && (_ && false))) = false
  rw [Bool.and_false, Bool.and_false, Bool.and_false]
 ·exact go2 (fields_bad (f := .seq true [sT y, bT true]) (by simp) rfl)
 ·exact go3 rfl
 ·exact go3 rfl
 ·exact go3 rfl
 ·exact go3 rfl
 ·exact go3 rfl
 ·exact go2 (fields_bad (f := .seq false [sT y, bT true, .seq true I]) (by simp) rfl)
def ptBadRecords : PSp := fun as R => ∃ (nm : List Str) (I : List Tv), as = [.va (.seq false (nm.map sT)), .va (.seq true I)] /\ nm.length = 11 /\ (∀ s ∈ nm, s.length <= 1000) /\ I.length <= 3 /\ (∀ i ∈ I, FlE 3 i) /\ ∀ Bs, (∀ b ∈ Bs, BadP b) -> Bs.length <= 100 -> R (.seq false Bs)
theorem C34_ : FnScope ["_law_names", "_law_inner", "_law_a", "_law_b", "_law_may", "_law_nine", "_law_found"] ["_law_names", "_law_inner"] (defScope s34_) := fsc (by decide +kernel)
theorem g34_ (h : Has K mg "_law_bad_records" s34_) (B : Own mg)    : PGood P w K mg base 1 "_law_bad_records" ["_law_names", "_law_inner"] ptBadRecords := by
 have nd := C34_.nd
 refine h.pgood C34_ (fun|_,_,_,_,_,_,[_,_],_=>rfl) (fun f cdv A outer s H E F hr =>
   (us_cons (us_asg (m := 7) (ue_ul (ul_comp (sc := defScope s34_) (XN := ["_law_names", "_law_inner", "_law_a", "_law_b", "_law_may", "_law_nine", "_law_found"]) (N := ["_law_name", "_law_inner"]) (own := 1) (fr := [1]) rfl ⟨rfl, by decide +kernel, by decide +kernel, by decide +kernel, rfl, by decide +kernel, by decide, by decide +kernel⟩ (by decide) (ui_val (ue_ul (ul_callB (pu_sorted rfl) rfl B.sorted boot_sorted (ua_c (ue_slice pu_sl (ue_var 0) uo_none (uo_some ue_int)) ua_nil)))) (fun _ _ _ _ _ => (ug_name 0 (by decide) (show (["_law_name", "_law_inner"] : List Str).Nodup by decide +kernel) rfl (by first | exact Or.inl rfl | exact Or.inr rfl))) (fun _ _ _ _ _ => uf_nil) (fun _ _ _ _ _ => (ue_tup (ua_c (ue_var 0) (ua_c ue_bl (ua_c (ue_var 1) ua_nil))))))) (ug_lst 2 rfl (ugs_cons (ug_name 2 (by decide) nd rfl (.inl rfl)) (ugs_cons (ug_name 3 (by decide) nd rfl (.inl rfl)) ugs_nil))))
   (us_cons (us_set (i := 4) nd rfl (.inl rfl) (ue_op pu_add (ue_slice pu_sl (ue_var 3) uo_none (uo_some ue_int)) (ue_tup (ua_c ue_bl (ua_c (ue_var 1) ua_nil)))))
   (us_cons (us_set (i := 5) nd rfl (.inl rfl) (ue_callTy pu_tupOf rfl B.tuple_ boot_tuple (ua_c (ue_ul (ul_comp (sc := defScope s34_) (XN := ["_law_names", "_law_inner", "_law_a", "_law_b", "_law_may", "_law_nine", "_law_found"]) (N := ["_law_name", "_law_inner"]) (own := 1) (fr := [1]) rfl ⟨rfl, by decide +kernel, by decide +kernel, by decide +kernel, rfl, by decide +kernel, by decide, by decide +kernel⟩ (by decide) (ui_val (ue_ul (ul_callB (pu_sorted rfl) rfl B.sorted boot_sorted (ua_c (ue_slice pu_sl (ue_var 0) uo_none (uo_some ue_int)) ua_nil)))) (fun _ _ _ _ _ => (ug_name 0 (by decide) (show (["_law_name", "_law_inner"] : List Str).Nodup by decide +kernel) rfl (by first | exact Or.inl rfl | exact Or.inr rfl))) (fun _ _ _ _ _ => uf_nil) (fun _ _ _ _ _ => (ue_tup (ua_c (ue_var 0) (ua_c ue_bl (ua_c (ue_var 1) ua_nil))))))) ua_nil)))
   (us_cons (us_set (i := 6) nd rfl (.inl rfl) (ue_ul (ul_lst (ua_c (ue_tup (ua_c ue_int (ua_c ue_int (ua_c (ue_var 5) ua_nil)))) (ua_c (ue_tup (ua_c ue_int (ua_c ue_int (ua_c (ue_tup (ua_c (ue_var 3) (ua_c (ue_var 2) ua_nil))) ua_nil)))) (ua_c (ue_tup (ua_c ue_int (ua_c ue_int (ua_c (ue_tup (ua_c (ue_var 2) (ua_c (ue_var 2) ua_nil))) ua_nil)))) (ua_c (ue_tup (ua_c ue_int (ua_c ue_int (ua_c (ue_ul (ul_lst (ua_c (ue_var 2) (ua_c (ue_var 3) ua_nil)))) ua_nil)))) (ua_c (ue_tup (ua_c ue_int (ua_c ue_int (ua_c (ue_tup (ua_c (ue_var 2) (ua_c (ue_op pu_add (ue_slice pu_sl (ue_var 3) uo_none (uo_some ue_int)) (ue_tup (ua_c ue_int (ua_c (ue_var 1) ua_nil)))) ua_nil))) ua_nil)))) ua_nil))))))))
   (us_cons (us_set (i := 6) nd rfl (.inl rfl) (ue_op pu_add (ue_var 6) (ue_ul (ul_lst (ua_c (ue_tup (ua_c ue_int (ua_c ue_int (ua_c (ue_tup (ua_c (ue_var 2) (ua_c (ue_op pu_add (ue_slice pu_sl (ue_var 3) uo_none (uo_some ue_int)) (ue_tup (ua_c (ue_tup ua_nil) ua_nil))) ua_nil))) ua_nil)))) (ua_c (ue_tup (ua_c ue_int (ua_c ue_int (ua_c (ue_tup (ua_c (ue_var 2) (ua_c (ue_slice pu_sl (ue_var 3) uo_none (uo_some ue_int)) ua_nil))) ua_nil)))) (ua_c (ue_tup (ua_c ue_int (ua_c ue_int (ua_c (ue_tup (ua_c (ue_var 2) (ua_c (ue_var 3) ua_nil))) ua_nil)))) (ua_c (ue_tup (ua_c ue_int (ua_c ue_int (ua_c (ue_tup (ua_c (ue_var 2) (ua_c (ue_var 3) ua_nil))) ua_nil)))) (ua_c (ue_tup (ua_c ue_int (ua_c ue_int (ua_c (ue_tup (ua_c (ue_var 2) (ua_c (ue_var 4) ua_nil))) ua_nil)))) ua_nil)))))))))
   (us_cons (us_set (i := 6) nd rfl (.inl rfl) (ue_op pu_add (ue_var 6) (ue_ul (ul_lst (ua_c (ue_tup (ua_c ue_int (ua_c ue_int (ua_c (ue_tup (ua_c (ue_var 2) (ua_c (ue_var 4) ua_nil))) ua_nil)))) (ua_c (ue_tup (ua_c ue_int (ua_c ue_int (ua_c (ue_tup (ua_c (ue_var 2) (ua_c (ue_var 4) ua_nil))) ua_nil)))) (ua_c (ue_tup (ua_c ue_int (ua_c ue_int (ua_c (ue_tup (ua_c (ue_var 2) (ua_c (ue_var 4) ua_nil))) ua_nil)))) (ua_c (ue_tup (ua_c ue_bl (ua_c ue_int (ua_c (ue_tup (ua_c (ue_var 2) (ua_c (ue_var 4) ua_nil))) ua_nil)))) (ua_c (ue_tup (ua_c ue_int (ua_c ue_int ua_nil))) (ua_c (ue_tup (ua_c ue_int (ua_c ue_int (ua_c (ue_tup (ua_c (ue_tup ua_nil) ua_nil)) ua_nil)))) ua_nil))))))))))
   (us_cons (us_set (i := 6) nd rfl (.inl rfl) (ue_op pu_add (ue_var 6) (ue_ul (ul_lst (ua_c (ue_tup (ua_c ue_int (ua_c ue_int (ua_c (ue_tup (ua_c (ue_tup (ua_c ue_int (ua_c ue_bl (ua_c (ue_var 1) ua_nil)))) ua_nil)) ua_nil)))) (ua_c (ue_tup (ua_c ue_int (ua_c ue_int (ua_c (ue_tup ua_nil) ua_nil)))) (ua_c (ue_tup (ua_c ue_int (ua_c ue_int (ua_c (ue_tup (ua_c (ue_var 2) (ua_c (ue_ul (ul_callTy pu_listOf rfl B.list_ boot_list (ua_c (ue_var 3) ua_nil))) ua_nil))) ua_nil)))) (ua_c (ue_tup (ua_c ue_int (ua_c ue_int (ua_c (ue_tup (ua_c (ue_var 2) (ua_c (ue_var 3) ua_nil))) (ua_c (ue_tup ua_nil) ua_nil))))) (ua_c (ue_tup (ua_c ue_int (ua_c ue_int (ua_c ue_non ua_nil)))) ua_nil)))))))))
   (us_cons (us_set (i := 6) nd rfl (.inl rfl) (ue_op pu_add (ue_var 6) (ue_ul (ul_comp (sc := defScope s34_) (XN := ["_law_names", "_law_inner", "_law_a", "_law_b", "_law_may", "_law_nine", "_law_found"]) (N := ["_law_odd", "_law_inner"]) (own := 1) (fr := [1]) rfl ⟨rfl, by decide +kernel, by decide +kernel, by decide +kernel, rfl, by decide +kernel, by decide, by decide +kernel⟩ (by decide) (ui_val (ue_tup (ua_c ue_str (ua_c ue_str (ua_c ue_str ua_nil))))) (fun _ _ _ _ _ => (ug_name 0 (by decide) (show (["_law_odd", "_law_inner"] : List Str).Nodup by decide +kernel) rfl (by first | exact Or.inl rfl | exact Or.inr rfl))) (fun _ _ _ _ _ => uf_nil) (fun _ _ _ _ _ => (ue_tup (ua_c ue_int (ua_c ue_int (ua_c (ue_tup (ua_c (ue_tup (ua_c (ue_var 0) (ua_c ue_bl (ua_c (ue_var 1) ua_nil)))) ua_nil)) ua_nil)))))))))
   (us_one (us_ret (ue_ul (ul_comp (sc := defScope s34_) (XN := ["_law_names", "_law_inner", "_law_a", "_law_b", "_law_may", "_law_nine", "_law_found"]) (N := ["_law_one"]) (own := 1) (fr := []) rfl ⟨rfl, by decide +kernel, by decide +kernel, by decide +kernel, rfl, by decide +kernel, by decide, by decide +kernel⟩ (by decide) (ui_val (ue_var 6)) (fun _ _ _ _ _ => (ug_name 0 (by decide) (show (["_law_one"] : List Str).Nodup by decide +kernel) rfl (by first | exact Or.inl rfl | exact Or.inr rfl))) (fun _ _ _ _ _ => uf_nil) (fun _ _ _ _ _ => (ue_op pu_add (ue_tup (ua_c ue_str ua_nil)) (ue_var 0)))))))))))))))) (fun as R q => ?_)
 obtain ⟨nm, I, rfl, ln, nl, il, fi, q⟩ := q
 have l2 : (sortS (nm.take 2)).length = 2 := by rw [sortS_len, List.length_take]; omega
 have l9 : (sortS (nm.take 9)).length = 9 := by rw [sortS_len, List.length_take]; omega
 have m2 : ∀ s ∈ sortS (nm.take 2), s.length <= 1000 := fun s hs => nl s (List.mem_of_mem_take ((sortS_perm _).mem_iff.mp hs))
 have m9 : ∀ s ∈ sortS (nm.take 9), s.length <= 1000 := fun s hs => nl s (List.mem_of_mem_take ((sortS_perm _).mem_iff.mp hs))
 have p2 := sort_pw (nm.take 2)
 refine ⟨rfl, 2, rfl, .inr (.inl ⟨nm.take 2, by rw [<- cut_take nm 2]; rfl, by rw [List.length_take]; omega, ?_⟩)⟩
 generalize sortS (nm.take 2) = S2 at l2 m2 p2
 match S2, l2, m2, p2 with
 | [x, y], _, m2, p2 =>
 have xy : ¬ cs y < cs x := (List.pairwise_cons.mp p2).1 y (by simp)
 refine ⟨by simp, compT_map (fun T => .seq true [T, bT true, .seq true I]) (fun T hT R q => ⟨by simp, q⟩) ?_⟩
 refine ⟨_, rfl, rfl, _, _, rfl, _, _, rfl, rfl, ?_⟩
 let e1 (a b c : Sl) : PEnv := [.va (.seq false (nm.map sT)), .va (.seq true I), .va (fldT x (bT true) I), .va (fldT y (bT true) I), a, b, c]
 show PEnds.nx _ _
 refine nxE (ρ' := e1 .no .no .no) rfl ?_
 refine ⟨1, rfl, by simp, by simp [cutT, HT.sIx], ?_⟩
 show PEnds.nx _ _
 refine nxE (ρ' := e1 (.va (fldT y (bT false) I)) .no .no) rfl ?_
 refine ⟨9, rfl, .inr (.inl ⟨nm.take 9, by rw [<- cut_take nm 9]; rfl, by rw [List.length_take]; omega, by rw [List.length_map, l9]; simp, compT_map (fun T => .seq true [T, bT true, .seq true I]) (fun T hT R q => ⟨by simp, q⟩) ⟨false, _, rfl, ?_⟩⟩)⟩
 let nine : List Tv := ((sortS (nm.take 9)).map sT).map fun T => .seq true [T, bT true, .seq true I]
 show PEnds.nx _ _
 refine nxE (ρ' := e1 (.va (fldT y (bT false) I)) (.va (.seq true nine)) .no) rfl ?_
 have n9 : nine.length = 9 := by rw [List.length_map, List.length_map, l9]
 have f9 : ∀ f ∈ nine, FlE 5 f := fun f hf => by
  obtain ⟨T, hT, rfl⟩ := List.mem_map.mp hf
  obtain ⟨z, hz, rfl⟩ := List.mem_map.mp hT
  refine fle_t (by simp) (all_cons (fle_s (m9 z hz)) (all_cons fle_b (all_cons ⟨by omega, fi, fun a b f e => by subst e; simp at il⟩ all_nil))) (by simp)
 generalize nine = N9 at n9 f9
 have rb := recs_bad (m2 x (by simp)) (m2 y (by simp)) xy n9 f9 il fi
 let m := fldT y (bT false) I
 refine ⟨by simp, by simp, by simp, by simp, by simp, by simp, by simp, 1, rfl, by simp, by simp [cutT, HT.sIx], by simp, by simp, by simp, ?_⟩
 show PEnds.nx _ _
 refine nxE (ρ' := e1 (.va m) (.va (.seq true N9)) (.va (.seq false (recA x y N9 I)))) rfl ?_
 refine ⟨2, rfl, by simp, by simp, by simp [cutT, HT.sIx], by simp, by simp, 2, rfl, by simp, by simp, by simp, by simp, by simp, by simp, by simp, by simp, by simp, by simp [recA], ?_⟩
 show PEnds.nx _ _
 refine nxE (ρ' := e1 (.va m) (.va (.seq true N9)) (.va (.seq false (recA x y N9 I ++ recB x y I)))) rfl ?_
 refine ⟨by simp, by simp, by simp, by simp, by simp, by simp, by simp, by simp, by simp, by simp, by simp, by simp, by simp, by simp [recA, recB], ?_⟩
 show PEnds.nx _ _
 refine nxE (ρ' := e1 (.va m) (.va (.seq true N9)) (.va (.seq false ((recA x y N9 I ++ recB x y I) ++ recC x y I)))) rfl ?_
 refine ⟨by simp, by simp, by simp, by simp, by simp, _, _, rfl, by simp, by simp, by simp, by simp, by simp, by simp, by simp, by simp [recA, recB, recC], ?_⟩
 show PEnds.nx _ _
 refine nxE (ρ' := e1 (.va m) (.va (.seq true N9)) (.va (.seq false (((recA x y N9 I ++ recB x y I) ++ recC x y I) ++ recD x y I)))) rfl ?_
 refine ⟨by simp, by simp, compT_of sT (recE I) (l := (["a\n", "\t", "\na"] : List Str)) (fun o ho R q => ⟨by simp, by simp, by simp, q⟩) ⟨by simp [recA, recB, recC, recD], ?_⟩⟩
 show PEnds.nx _ _
 refine nxE (ρ' := e1 (.va m) (.va (.seq true N9)) (.va (.seq false (recT x y N9 I)))) rfl ?_
 have lr : (recT x y N9 I).length = 24 := rfl
 have tp : ∀ r ∈ recT x y N9 I, ∃ l, r = .seq true l /\ l.length <= 50 := fun r hr => by
  unfold recT recA recB recC recD at hr
  simp only [List.cons_append, List.nil_append, List.map_cons, List.map_nil, List.mem_cons, List.not_mem_nil, or_false] at hr
  rcases hr with rfl | rfl | rfl | rfl | rfl | rfl | rfl | rfl | rfl | rfl | rfl | rfl | rfl | rfl | rfl | rfl | rfl | rfl | rfl | rfl | rfl | rfl | rfl | rfl <;> exact ⟨_, rfl, by simp⟩
 generalize recT x y N9 I = L at lr rb tp
 refine ⟨by omega, compT_map (consT "record") (fun r hr R q => ?_) (q _ (fun b hb => ?_) (by rw [List.length_map]; omega))⟩
 ·obtain ⟨l, rfl, ll⟩ := tp r hr
  exact ⟨by simp, by simp; omega, q⟩
 ·obtain ⟨r, hr, rfl⟩ := List.mem_map.mp hb
  exact rb r hr
end
end My
namespace My
open PySem L2 PyProof.Rows WordM
section
variable {P : Program} {w : World} {K : PySem.W.Frag} {mg : Str -> Option Value} {base : Heap}
theorem sg_tx {s : Str} (h : Sg s) : txB (sT s) = true := by
 show (cs s).all signC = true
 exact List.all_eq_true.mpr fun c hc => (show ∀ c ∈ cs SIG, signC c = true by decide +kernel) c (h c hc)
def nothF : Tv := .seq true [.seq true [sT "nothing"]]
def trueF : Tv := .seq true [.seq true [sT "truths", .seq true [bT true]]]
structure GoodOk (a b c m : Int) (ts ns : List Str) : Prop where
 c1 : 2 <= c
 c2 : c < 10 ^ 30
 m1 : 1 <= m
 m2 : m <= 1000
 a2 : a < 10 ^ 80
 hb : b = a + c * m
 lt : ts.length = 6
 rt : riseB ts = true
 st : ∀ s ∈ ts, Sg s /\ s.length <= 1000
 ln : ns.length = 8
 rn : riseB ns = true
 sn : ∀ s ∈ ns, Sg s /\ s.length <= 1000
theorem goodP_part {fm : Tv -> Bool} (f1 : fm nothF = true) (f2 : fm trueF = true) {a b c m : Int} {ts ns : List Str} (G : GoodOk a b c m ts ns) : ∀ p ∈ goodP a b c m ts ns, partF fm p = true := by
 obtain ⟨c1, c2, m1, m2, a2, rfl, lt, rt, st, ln, rn, sn⟩ := G
 have cm : c <= c * m := by
  have := Int.mul_le_mul_of_nonneg_left m1 (show 0 <= c by omega)
  omega
 have s1 : someB fm nothF = true := by unfold someB; rw [f1]; rfl
 have s2 : someB fm trueF = true := by unfold someB; rw [f2]; rfl
 intro p hp
 unfold goodP at hp
 simp only [List.mem_cons, List.not_mem_nil, or_false] at hp
 rcases hp with rfl | rfl | rfl | rfl | rfl | rfl
 ·rw [part_nothing]; rfl
 ·rw [part_truths]; rfl
 ·rw [part_numbers, run3, if_neg (by omega), decide_eq_true (by omega), decide_eq_true (by omega), decide_eq_true (by rw [show a + c * m - a = c * m by omega]; exact Int.mul_emod_right c m)]
  rfl
 ·rw [part_texts]
  show wordsB (fwT (.seq true (ts.map sT))) = true
  rw [fw_eq]
  show (decide (1 <= (ts.map sT).length) && decide ((ts.map sT).length <= 6) && ((ts.map sT).all txB && riseB ((ts.map sT).map strOf))) = true
  rw [List.length_map, lt, strs_of, rt, List.all_eq_true.mpr (fun x hx => by obtain ⟨s, hs, rfl⟩ := List.mem_map.mp hx; exact sg_tx (st s hs).1)]
  rfl
 ·rw [part_lists]
  show (bndB (iT 0) (iT m) && (if zeroB (iT m) then _ else someB fm trueF)) = true
  rw [show zeroB (iT m) = false by simp [zeroB]; omega, s2, show bndB (iT 0) (iT m) = true by simp [bndB]; omega]
  rfl
 ·rw [part_record]
  match ns, ln, rn, sn with
  | [n0, n1, n2, n3, n4, n5, n6, n7], _, rn, sn =>
  have ff : ∀ (n : Str) (b : Bool), Sg n -> fieldF fm (.seq true [sT n, bT b, nothF]) = true := fun n b h => by
   show (txB (sT n) && (true && someB fm nothF)) = true
   rw [sg_tx h, s1]; rfl
  have fs : fieldsF fm (.seq true ([n0, n1, n2, n3, n4, n5, n6, n7].mapIdx fun i n => .seq true [sT n, bT (decide (2 < (i : Int))), nothF])) = true := by
   show (true && (List.all [.seq true [sT n0, bT false, nothF], .seq true [sT n1, bT false, nothF], .seq true [sT n2, bT false, nothF], .seq true [sT n3, bT true, nothF], .seq true [sT n4, bT true, nothF], .seq true [sT n5, bT true, nothF], .seq true [sT n6, bT true, nothF], .seq true [sT n7, bT true, nothF]] (fieldF fm) && riseB [n0, n1, n2, n3, n4, n5, n6, n7])) = true
   rw [rn]
   simp only [List.all_cons, List.all_nil, ff n0 _ (sn n0 (by simp)).1, ff n1 _ (sn n1 (by simp)).1, ff n2 _ (sn n2 (by simp)).1, ff n3 _ (sn n3 (by simp)).1, ff n4 _ (sn n4 (by simp)).1, ff n5 _ (sn n5 (by simp)).1, ff n6 _ (sn n6 (by simp)).1, ff n7 _ (sn n7 (by simp)).1, Bool.and_true]
  show (bndB (iT 5) (iT 7) && (fieldsF fm _ && recM (iT 5) (iT 7) _)) = true
  erw [fs]
  rfl
theorem goodP_fle {a b c m : Int} {ts ns : List Str} (G : GoodOk a b c m ts ns) : ∀ p ∈ goodP a b c m ts ns, FlE 6 p := by
 obtain ⟨c1, c2, m1, m2, a2, rfl, lt, rt, st, ln, rn, sn⟩ := G
 have bb : a + c * m < 10 ^ 81 := by
  have : c * m <= c * 1000 := Int.mul_le_mul_of_nonneg_left m2 (by omega)
  omega
 generalize a + c * m = b at bb
 have ft : FlE 4 (.seq true (ts.map sT)) := fle_t (by rw [List.length_map]; omega) (fun x hx => by obtain ⟨s, hs, rfl⟩ := List.mem_map.mp hx; exact fle_s (st s hs).2) (fun a b k e => by have := congrArg List.length e; rw [List.length_map, lt] at this; simp at this)
 have fn : FlE 5 (.seq true (ns.mapIdx fun i n => .seq true [sT n, bT (decide (2 < (i : Int))), .seq true [.seq true [sT "nothing"]]])) := fle_t (by rw [List.length_mapIdx]; omega) (fun x hx => by
  obtain ⟨i, hi, rfl⟩ := List.mem_mapIdx.mp hx
  have := (sn _ (List.getElem_mem hi)).2
  repeat' (first | exact all_nil | exact fle_b | exact fle_s (by first | assumption | decide) | refine all_cons ?_ ?_ | refine fle_t (by simp) ?_ (by simp))) (fun a b k e => by have := congrArg List.length e; rw [List.length_mapIdx, ln] at this; simp at this)
 intro p hp
 unfold goodP at hp
 simp only [List.mem_cons, List.not_mem_nil, or_false] at hp
 rcases hp with rfl | rfl | rfl | rfl | rfl | rfl
 all_goals repeat' (first | exact ft | exact fn | exact all_nil | exact fle_b | exact fle_i (by omega) | exact fle_s (by decide) | refine all_cons ?_ ?_ | refine fle_t (by simp) ?_ (by simp))
def YesF (U : Tv) : Prop := FlE 14 U /\ formB 7 U = true
theorem yes_of {L : List Tv} (h1 : ∀ p ∈ L, FlE 13 p) (h2 : ∀ p ∈ L, partF (formB 6) p = true) (h3 : riseI (L.map kix) = true) (hl : L.length <= 100) (h4 : ∀ a b kts, L ≠ [a, b, iT 0, .dct kts]) : YesF (.seq true L) := ⟨fle_t hl h1 h4, by
 show (L.all (partF (formB 6)) && riseI (L.map kix)) = true
 rw [List.all_eq_true.mpr h2, h3]; rfl⟩
theorem no_of {L : List Tv} (h1 : ∀ p ∈ L, FlE 13 p) (h3 : riseI (L.map kix) = false) (hl : L.length <= 100) (h4 : ∀ a b kts, L ≠ [a, b, iT 0, .dct kts]) : NoForm (.seq true L) := ⟨fle_t hl h1 h4, by
 show (L.all (partF (formB 6)) && riseI (L.map kix)) = false
 rw [h3, Bool.and_false]⟩
def tabG (x : Str) (F : List Tv) : Tv := .seq true [sT "table", iT 0, iT 10, mkT x 1 1 [sT "figure"], .seq true F]
theorem tl_more {n lo hi most : Int} : ∀ (k j : Nat) (many power len : Int), 0 <= many -> 1 <= power -> most <= power * n ^ k -> len + k <= hi -> 1 <= n -> tl (k + 1 + j) n lo hi most many power len = most
 | 0, j, many, power, len, h0, hp, h1, h2, hn => by
  rw [show 0 + 1 + j = j + 1 by omega, tl, if_pos (by omega), if_pos (by rw [Int.pow_zero, Int.mul_one] at h1; omega)]
 | k + 1, j, many, power, len, h0, hp, h1, h2, hn => by
  rw [show k + 1 + 1 + j = (k + 1 + j) + 1 by omega, tl, if_pos (by omega)]
  split
  ·rfl
  ·refine tl_more k j _ _ _ (by split <;> omega) ?_ ?_ (by omega) hn
   ·have := Int.mul_le_mul_of_nonneg_left hn (show 0 <= power by omega)
    omega
   ·rw [Int.mul_assoc, show n * n ^ k = n ^ (k + 1) by rw [Int.pow_succ, Int.mul_comm]]
    exact h1
theorem far_many {f : Int} (f1 : 61 <= f) (f2 : f < 10 ^ 21) : manyW 0 f ["small"] f = f := by
 unfold manyW
 rw [show (catS (sgsOf ["small"])).length = 26 by decide +kernel]
 exact tl_more (n := 26) 16 383 0 1 0 (by decide) (by decide) (by omega) (by omega) (by decide)
theorem noth_yes : ∀ k, formB (k + 1) nothF = true := fun k => rfl
theorem true_yes : ∀ k, formB (k + 1) trueF = true := fun k => rfl
section
variable {a b c m : Int} {ts ns : List Str} (G : GoodOk a b c m ts ns)
include G
theorem good_form (k : Nat) : formB (k + 2) (.seq true (goodP a b c m ts ns)) = true := by
 show ((goodP a b c m ts ns).all (partF (formB (k + 1))) && riseI ((goodP a b c m ts ns).map kix)) = true
 rw [List.all_eq_true.mpr (goodP_part (noth_yes k) (true_yes k) G)]
 rfl
theorem tab_part {x : Str} (hx : Sg x) : partF (formB 6) (tabG x (goodP a b c m ts ns)) = true := by
 rw [tabG, part_table, tabF_eq, tab_mk, sg_tx hx, show bndB (iT 0) (iT 10) = true from rfl, show marksB (.seq true [sT "figure"]) = true by decide +kernel, show numW (iT 1) (iT 1) = true from rfl,
  show tabN (iT 10) (mkT x 1 1 [sT "figure"]) = true from show (decide ((10 : Int) ≠ 0) && decide ((10 : Int) <= manyW 1 1 ["figure"] 10)) = true by decide +kernel]
 have : someB (formB 6) (.seq true (goodP a b c m ts ns)) = true := by
  unfold someB
  rw [good_form G 4]; rfl
 rw [this]; rfl
theorem form_fle : FlE 7 (.seq true (goodP a b c m ts ns)) := fle_t (by simp [goodP]) (goodP_fle G) (by simp [goodP])
theorem tab_fle {x : Str} (hx : x.length <= 1000) : FlE 8 (tabG x (goodP a b c m ts ns)) := fle_t (by simp) (all_cons (fle_s (by decide)) (all_cons (fle_i (by decide)) (all_cons (fle_i (by decide)) (all_cons (fle_t (by simp) (all_cons (fle_s (by decide)) (all_cons (fle_s hx) (all_cons (fle_i (by decide)) (all_cons (fle_i (by decide)) (all_cons (fle_t (by simp) (all_cons (fle_s (by decide)) all_nil) (by simp)) all_nil))))) (by simp)) (all_cons (form_fle G) all_nil))))) (by simp)
theorem good_in {p : Tv} (h : p ∈ goodP a b c m ts ns) : FlE 13 p /\ partF (formB 6) p = true := ⟨(goodP_fle G p h).le (by decide), goodP_part (noth_yes 5) (true_yes 5) G p h⟩
theorem yes_good : YesF (.seq true (goodP a b c m ts ns)) := yes_of (fun p h => (good_in G h).1) (fun p h => (good_in G h).2) rfl (by simp [goodP]) (by simp [goodP])
theorem yes_cut (k : Nat) (hk : k < 6) : YesF (.seq true ((goodP a b c m ts ns).take k ++ (goodP a b c m ts ns).drop (k + 1))) := by
 have hm : ∀ p ∈ (goodP a b c m ts ns).take k ++ (goodP a b c m ts ns).drop (k + 1), p ∈ goodP a b c m ts ns := fun p hp => (List.mem_append.mp hp).elim List.mem_of_mem_take List.mem_of_mem_drop
 refine yes_of (fun p h => (good_in G (hm p h)).1) (fun p h => (good_in G (hm p h)).2) ?_ ?_ ?_
 all_goals
  have : k = 0 \/ k = 1 \/ k = 2 \/ k = 3 \/ k = 4 \/ k = 5 := by omega
  rcases this with rfl | rfl | rfl | rfl | rfl | rfl <;> first | rfl | simp [goodP]
theorem yes_tab {x : Str} (hx : Sg x) (hl : x.length <= 1000) : YesF (.seq true ((goodP a b c m ts ns).take 5 ++ [tabG x (goodP a b c m ts ns)])) := by
 have hm : ∀ p ∈ (goodP a b c m ts ns).take 5 ++ [tabG x (goodP a b c m ts ns)], FlE 13 p /\ partF (formB 6) p = true := fun p hp => by
  rcases List.mem_append.mp hp with h | h
  ·exact good_in G (List.mem_of_mem_take h)
  ·rw [List.mem_singleton] at h; subst h; exact ⟨(tab_fle G hl).le (by decide), tab_part G hx⟩
 exact yes_of (fun p h => (hm p h).1) (fun p h => (hm p h).2) rfl (by simp [goodP]) (by simp [goodP])
def numP (a b c : Int) : Tv := .seq true [sT "numbers", iT a, iT b, iT c]
theorem num_fle3 : FlE 3 (numP a b c) := by
 obtain ⟨c1, c2, m1, m2, a2, rfl, lt, rt, st, ln, rn, sn⟩ := G
 have bb : a + c * m < 10 ^ 81 := by
  have : c * m <= c * 1000 := Int.mul_le_mul_of_nonneg_left m2 (by omega)
  omega
 exact fle_t (by simp) (all_cons (fle_s (by decide)) (all_cons (fle_i (by omega)) (all_cons (fle_i (by omega)) (all_cons (fle_i (by omega)) all_nil)))) (by simp)
theorem num_in : numP a b c ∈ goodP a b c m ts ns := by simp [goodP, numP]
theorem num_yes (k : Nat) : formB (k + 2) (.seq true [numP a b c]) = true := by
 show ([numP a b c].all (partF (formB (k + 1))) && true) = true
 rw [List.all_cons, goodP_part (noth_yes k) (true_yes k) G _ (num_in G)]
 rfl
theorem num_some : someB (formB 6) (.seq true [numP a b c]) = true := by unfold someB; rw [num_yes G 4]; rfl
theorem num_fle : FlE 7 (.seq true [numP a b c]) := fle_t (by simp) (all_cons (goodP_fle G _ (num_in G)) all_nil) (by simp)
theorem yes_lists {f : Int} (f1 : 61 <= f) (f2 : f < 10 ^ 21) : YesF (.seq true [.seq true [sT "lists", iT f, iT (2 * f), .seq true [numP a b c]]]) := by
 refine yes_of (all_cons (fle_t (by simp) (all_cons (fle_s (by decide)) (all_cons (fle_i (by omega)) (all_cons (fle_i (by omega)) (all_cons ((num_fle G).le (by decide)) all_nil)))) (by simp)) all_nil) (all_cons ?_ all_nil) rfl (by simp) (by simp)
 rw [part_lists]
 show (bndB (iT f) (iT (2 * f)) && (if zeroB (iT (2 * f)) then _ else someB (formB 6) (.seq true [numP a b c]))) = true
 rw [show zeroB (iT (2 * f)) = false by simp [zeroB]; omega, num_some G, show bndB (iT f) (iT (2 * f)) = true by simp [bndB]; omega]
 rfl
theorem yes_table {f : Int} (f1 : 61 <= f) (f2 : f < 10 ^ 21) {z : Str} (hz : txB (sT z) = true) (lz : z.length <= 1000) : YesF (.seq true [.seq true [sT "table", iT 61, iT f, mkT z 0 f [sT "small"], .seq true [numP a b c]]]) := by
 refine yes_of (all_cons (fle_t (by simp) (all_cons (fle_s (by decide)) (all_cons (fle_i (by decide)) (all_cons (fle_i (by omega)) (all_cons (fle_t (by simp) (all_cons (fle_s (by decide)) (all_cons (fle_s lz) (all_cons (fle_i (by decide)) (all_cons (fle_i (by omega)) (all_cons (fle_t (by simp) (all_cons (fle_s (by decide)) all_nil) (by simp)) all_nil))))) (by simp)) (all_cons ((num_fle G).le (by decide)) all_nil))))) (by simp)) all_nil) (all_cons ?_ all_nil) rfl (by simp) (by simp)
 rw [part_table, tabF_eq, tab_mk, hz, show bndB (iT 61) (iT f) = true by simp [bndB]; omega, show marksB (.seq true [sT "small"]) = true by decide +kernel, show numW (iT 0) (iT f) = true by simp [numW]; omega, num_some G,
  show tabN (iT f) (mkT z 0 f [sT "small"]) = (decide (f ≠ 0) && decide (f <= manyW 0 f ["small"] f)) from rfl, far_many f1 f2, decide_eq_true (show f ≠ 0 by omega), decide_eq_true (Int.le_refl f)]
 rfl
end
theorem yes_empty : YesF (.seq true [.seq true [sT "lists", iT 0, iT 0, .seq true []], .seq true [sT "record", iT 0, iT 0, .seq true []]]) := by
 refine yes_of ?_ (all_cons (by rw [part_lists]; rfl) (all_cons (by rw [part_record]; rfl) all_nil)) rfl (by simp) (by simp)
 repeat' (first | exact all_nil | exact fle_i (by decide) | exact fle_s (by decide) | refine all_cons ?_ ?_ | refine fle_t (by simp) ?_ (by simp))
theorem yes_texts : YesF (.seq true [.seq true [sT "texts", .seq true [sT "few", .seq true [sT (repS "a" 61), sT (repS "b" 100)]]]]) := by
 refine yes_of ?_ (all_cons (by rw [part_texts]; decide +kernel) all_nil) rfl (by simp) (by simp)
 repeat' (first | exact all_nil | exact fle_s (by decide +kernel) | refine all_cons ?_ ?_ | refine fle_t (by simp) ?_ (by simp))
end
end My
namespace My
open PySem L2 PyProof.Rows WordM
section
variable {P : Program} {w : World} {K : PySem.W.Frag} {mg : Str -> Option Value} {base : Heap}
section
variable {a b c m : Int} {ts ns : List Str} (G : GoodOk a b c m ts ns)
include G
theorem no_swap (k : Nat) (hk : k < 5) : NoForm (.seq true ((goodP a b c m ts ns).take k ++ (((goodP a b c m ts ns).drop k).take 2).reverse ++ (goodP a b c m ts ns).drop (k + 2))) := by
 have hm : ∀ p ∈ (goodP a b c m ts ns).take k ++ (((goodP a b c m ts ns).drop k).take 2).reverse ++ (goodP a b c m ts ns).drop (k + 2), p ∈ goodP a b c m ts ns := fun p hp => by
  rcases List.mem_append.mp hp with h | h
  ·rcases List.mem_append.mp h with h | h
   ·exact List.mem_of_mem_take h
   ·exact List.mem_of_mem_drop (List.mem_of_mem_take (List.mem_reverse.mp h))
  ·exact List.mem_of_mem_drop h
 refine no_of (fun p h => (good_in G (hm p h)).1) ?_ ?_ ?_
 all_goals
  have : k = 0 \/ k = 1 \/ k = 2 \/ k = 3 \/ k = 4 := by omega
  rcases this with rfl | rfl | rfl | rfl | rfl <;> first | rfl | simp [goodP]
theorem no_twice (k : Nat) (hk : k < 6) : NoForm (.seq true ((goodP a b c m ts ns).take (k + 1) ++ (goodP a b c m ts ns).drop k)) := by
 have hm : ∀ p ∈ (goodP a b c m ts ns).take (k + 1) ++ (goodP a b c m ts ns).drop k, p ∈ goodP a b c m ts ns := fun p hp => (List.mem_append.mp hp).elim List.mem_of_mem_take List.mem_of_mem_drop
 refine no_of (fun p h => (good_in G (hm p h)).1) ?_ ?_ ?_
 all_goals
  have : k = 0 \/ k = 1 \/ k = 2 \/ k = 3 \/ k = 4 \/ k = 5 := by omega
  rcases this with rfl | rfl | rfl | rfl | rfl | rfl <;> first | rfl | simp [goodP]
theorem no_tab {x : Str} (hl : x.length <= 1000) : NoForm (.seq true (goodP a b c m ts ns ++ [tabG x (goodP a b c m ts ns)])) := by
 refine no_of (fun p hp => ?_) rfl (by simp [goodP]) (by simp [goodP])
 rcases List.mem_append.mp hp with h | h
 ·exact (good_in G h).1
 ·rw [List.mem_singleton] at h; subst h; exact (tab_fle G hl).le (by decide)
theorem no_list : NoForm (.seq false (goodP a b c m ts ns)) := ⟨fle_t (by simp [goodP]) (fun p h => (good_in G h).1) (by simp [goodP]), rfl⟩
theorem no_one : NoForm (.seq true [.seq true (goodP a b c m ts ns)]) := ⟨fle_t (by simp) (all_cons ((form_fle G).le (by decide)) all_nil) (by simp), form_bad rfl⟩
end
def oddE : List Tv := [nT, iT 0, sT "", sT "nothing", .dct [], .seq false [], bT true]
def oddF : List Tv := [.seq false [.seq true []], .seq true [.seq true []], .seq true [sT "nothing"]]
theorem odd_no : ∀ U ∈ oddE ++ oddF, NoForm U := fun U hU => by
 unfold oddE oddF at hU
 simp only [List.cons_append, List.nil_append, List.mem_cons, List.not_mem_nil, or_false] at hU
 rcases hU with rfl | rfl | rfl | rfl | rfl | rfl | rfl | rfl | rfl | rfl
 all_goals refine ⟨?_, by first | rfl | decide +kernel⟩
 all_goals repeat' (first | exact all_nil | exact fle_b | exact fle_n | exact fle_d | exact fle_i (by decide) | exact fle_s (by decide) | refine all_cons ?_ ?_ | refine fle_t (by simp) ?_ (by simp))
def badE : List Tv := [.seq true [], .seq true [sT "none"], .seq true [sT "list", iT 0, iT 0, .seq true []], .seq true [iT 1], .seq true [.seq true []], nT, sT "nothing", .seq false [sT "nothing"], .seq true [nT, iT 1]]
def badF (I : Tv) : List Tv := [.seq true [.seq false []], .seq true [.seq false [sT "nothing"]], .seq true [.dct [], iT 1], .seq true [sT "record", iT 1, iT 1, .seq true [.seq true [.seq false [sT "a"], bT true, I]]]]
theorem badEF {I : Tv} (hI : FlE 4 I) : ∀ U ∈ badE ++ badF I, BadP U := fun U hU => by
 unfold badE badF at hU
 simp only [List.cons_append, List.nil_append, List.mem_cons, List.not_mem_nil, or_false] at hU
 rcases hU with rfl | rfl | rfl | rfl | rfl | rfl | rfl | rfl | rfl | rfl | rfl | rfl | rfl
 all_goals refine ⟨?_, fun fm tp => ?_⟩
 case inr.inr.inr.inr.inr.inr.inr.inr.inr.inr.inr.inr.refine_2 =>
  rw [part_record]
  have go : ∀ fs, fieldsF fm fs = false -> recF fm [sT "record", iT 1, iT 1, fs] = false := fun fs h => by
   show (bndB (iT 1) (iT 1) && (fieldsF fm fs && recM (iT 1) (iT 1) fs)) = false
   rw [h, Bool.false_and, Bool.and_false]
  exact go _ (fields_bad (f := .seq true [.seq false [sT "a"], bT true, I]) (by simp) rfl)
 all_goals first | rfl | skip
 all_goals repeat' (first | exact hI | exact all_nil | exact fle_b | exact fle_n | exact fle_d | exact fle_i (by decide) | exact fle_s (by decide) | refine all_cons ?_ ?_ | refine fle_t (by simp) ?_ (by simp))
theorem cut_to {α : Type} (l : List α) (k : Nat) : cutT l none (some (k : Int)) = l.take k := by
 unfold cutT
 rw [HT.sIx_none, HT.sIx_nat, List.drop_zero, Nat.sub_zero]
 rcases Nat.le_total k l.length with h | h
 ·rw [Nat.min_eq_left h]
 ·rw [Nat.min_eq_right h, List.take_of_length_le (Nat.le_refl _), List.take_of_length_le h]
theorem cut_from {α : Type} (l : List α) (k : Nat) : cutT l (some (k : Int)) none = l.drop k := by
 unfold cutT
 rw [HT.sIx_none, HT.sIx_nat]
 rcases Nat.le_total k l.length with h | h
 ·rw [Nat.min_eq_left h]; exact List.take_of_length_le (by rw [List.length_drop]; exact Nat.le_refl _)
 ·rw [Nat.min_eq_right h, Nat.sub_self, List.drop_eq_nil_of_le h]; rfl
theorem cut_mid {α : Type} (l : List α) (k : Nat) (h : k + 2 <= l.length) : cutT l (some (k : Int)) (some ((k : Int) + 2)) = (l.drop k).take 2 := by
 unfold cutT
 rw [show ((k : Int) + 2) = ((k + 2 : Nat) : Int) by push_cast; rfl, HT.sIx_nat, HT.sIx_nat, Nat.min_eq_left h, Nat.min_eq_left (show k <= l.length by omega), show k + 2 - k = 2 by omega]
theorem comp_yes {own : Nat} {fr : List Nat} {g : UG} {tf : UTt} {ue : UT} {ρ : PEnv} {Ts : List Tv} {Q : List Tv -> PEnv -> Prop} (h : ∀ T ∈ Ts, ∀ R : Option Tv -> PEnv -> Prop, R none ρ -> compS own fr g tf ue T ρ R) (q : Q [] ρ) : compT own fr g tf ue Ts ρ Q :=
 compT_fm (fun _ => none) h (by rw [show Ts.filterMap (fun _ => (none : Option Tv)) = [] from List.filterMap_eq_nil_iff.mpr fun _ _ => rfl]; exact q)
theorem C38_ : FnScope ["_law_script", "_law_deck_here", "_law_world_here", "_law_names", "_law_texts", "_law_step", "_law_many", "_law_form", "_law_table", "_law_goods", "_law_far_here", "_law_inner", "_law_bads", "_law_bad", "_law_k", "_law_two", "_law_odd"] ["_law_script"] (defScope s38_) := fsc (by decide +kernel)
theorem ok_law {f : Addr} {fd : FuncData} (F : Fun K "law" "law" s38_ f fd) (B : Own mg) (G24_ : Good P w K mg base 1 "_law_deck" ["_law_script"] (spDeck K)) (G30_ : PGood P w K mg base 5 "_law_world" ["_law_deck_here"] ptWorld) (G25_ : PGood P w K mg base 2 "_law_take" ["_law_deck_here", "_law_most"] ptTake) (G36_ : PGood P w K mg base 1 "_law_good" ["_law_low", "_law_step", "_law_many", "_law_names", "_law_texts"] ptGood) (G22_ : PGood P w K mg base 48 "is_form" ["thing"] (ptForm 7 (formB 7))) (G31_ : PGood P w K mg base 1 "_law_bad_plain" ["_law_low", "_law_step", "_law_many"] ptBadPlain) (G32_ : PGood P w K mg base 1 "_law_bad_words" ["_law_texts"] ptBadWords) (G33_ : PGood P w K mg base 1 "_law_bad_rows" ["_law_inner", "_law_many"] ptBadRows) (G34_ : PGood P w K mg base 1 "_law_bad_records" ["_law_names", "_law_inner"] ptBadRecords) (G35_ : PGood P w K mg base 1 "_law_bad_tables" ["_law_text_here", "_law_inner", "_law_many"] ptBadTables) (G37_ : PGood P w K mg base 1 "_law_within" ["_law_bad", "_law_names"] ptWithin)   : FnOk P w K mg base CX0 50 f fd ["_law_script"] (spLaw K) := by
 refine F.ok C38_ (fun vs H Q E q => ?_) (fun cdv A outer s H vs Q E hr q => ?_)
 ·obtain ⟨a, ns, rfl, _⟩ := q
  rfl
 ·obtain ⟨aa, ns, rfl, hS, hlen, q⟩ := q
  have nd := C38_.nd
  refine ⟨_, (pss_cons (ps_set (i := 1) nd rfl (by first | exact Or.inl rfl | exact Or.inr rfl) (pe_fn G24_ (hr.mono (by omega)) rfl (pa_c (pv 0) pa_nil)))
   (pss_any fun F => (us_cons (us_set (i := 2) nd rfl (.inl rfl) (ue_fn G30_ (hr.mono (by omega)) rfl (ua_dk 1 ua_nil)))
   (us_cons (us_asg (m := 17) (ue_slice pu_sl (ue_var 2) uo_none (uo_some ue_int)) (ug_lst 2 rfl (ugs_cons (ug_name 3 (by decide) nd rfl (.inl rfl)) (ugs_cons (ug_name 4 (by decide) nd rfl (.inl rfl)) ugs_nil))))
   (us_cons (us_set (i := 5) nd rfl (.inl rfl) (ue_op pu_add ue_int (ue_ix (pu_ix hr.units) (ue_var 2) ue_int)))
   (us_cons (us_set (i := 6) nd rfl (.inl rfl) (ue_op pu_add ue_int (ue_fn G25_ (hr.mono (by omega)) rfl (ua_dk 1 (ua_c ue_int ua_nil)))))
   (us_cons (us_set (i := 7) nd rfl (.inr rfl) (ue_fn G36_ (hr.mono (by omega)) rfl (ua_c (ue_ix (pu_ix hr.units) (ue_var 2) ue_int) (ua_c (ue_var 5) (ua_c (ue_var 6) (ua_c (ue_var 3) (ua_c (ue_var 4) ua_nil)))))))
   (us_cons (us_set (i := 8) nd rfl (.inl rfl) (ue_tup (ua_c ue_str (ua_c ue_int (ua_c ue_int (ua_c (ue_tup (ua_c ue_str (ua_c (ue_ix (pu_ix hr.units) (ue_var 4) ue_int) (ua_c ue_int (ua_c ue_int (ua_c (ue_tup (ua_c ue_str ua_nil)) ua_nil)))))) (ua_c (ue_var 7) ua_nil)))))))
   (us_cons (us_own (i := 9) nd rfl (.inl rfl) (ul_lst (ua_c (ue_tup ua_nil) (ua_c (ue_var 7) (ua_c (ue_op pu_add (ue_slice pu_sl (ue_var 7) uo_none (uo_some ue_int)) (ue_tup (ua_c (ue_var 8) ua_nil))) (ua_c (ue_tup (ua_c (ue_tup (ua_c ue_str (ua_c ue_int (ua_c ue_int (ua_c (ue_tup ua_nil) ua_nil))))) (ua_c (ue_tup (ua_c ue_str (ua_c ue_int (ua_c ue_int (ua_c (ue_tup ua_nil) ua_nil))))) ua_nil))) ua_nil))))))
   (us_cons (us_own (i := 9) nd rfl (.inl rfl) (ul_cat (ue_var 9) (ue_ul (ul_comp (sc := defScope s38_) (XN := ["_law_script", "_law_deck_here", "_law_world_here", "_law_names", "_law_texts", "_law_step", "_law_many", "_law_form", "_law_table", "_law_goods", "_law_far_here", "_law_inner", "_law_bads", "_law_bad", "_law_k", "_law_two", "_law_odd"]) (N := ["_law_k", "_law_form"]) (own := 1) (fr := [7]) rfl ⟨rfl, by decide +kernel, by decide +kernel, by decide +kernel, rfl, by decide +kernel, by decide, by decide +kernel⟩ (by decide) (ui_range1 rfl B.range (ua_c ue_int ua_nil)) (fun _ _ _ _ _ => (ug_name 0 (by decide) (show (["_law_k", "_law_form"] : List Str).Nodup by decide +kernel) rfl (by first | exact Or.inl rfl | exact Or.inr rfl))) (fun _ _ _ _ _ => uf_nil) (fun _ _ _ _ _ => (ue_op pu_add (ue_slice pu_sl (ue_var 1) uo_none (uo_some (ue_var 0))) (ue_slice pu_sl (ue_var 1) (uo_some (ue_op pu_add (ue_var 0) ue_int)) uo_none)))))))
   (us_cons (us_set (i := 10) nd rfl (.inl rfl) (ue_op pu_add ue_int (ue_fn G25_ (hr.mono (by omega)) rfl (ua_dk 1 (ua_c (ue_op pu_pow ue_int ue_int) ua_nil)))))
   (us_cons (us_own (i := 9) nd rfl (.inl rfl) (ul_cat (ue_var 9) (ue_ul (ul_lst (ua_c (ue_tup (ua_c (ue_tup (ua_c ue_str (ua_c (ue_tup (ua_c ue_str (ua_c (ue_tup (ua_c (ue_op pu_mul2 ue_str ue_int) (ua_c (ue_op pu_mul2 ue_str ue_int) ua_nil))) ua_nil))) ua_nil))) ua_nil)) (ua_c (ue_tup (ua_c (ue_tup (ua_c ue_str (ua_c (ue_var 10) (ua_c (ue_op pu_mul2 ue_int (ue_var 10)) (ua_c (ue_tup (ua_c (ue_ix (pu_ix hr.units) (ue_var 7) ue_int) ua_nil)) ua_nil))))) ua_nil)) ua_nil))))))
   (us_cons (us_expr (ue_append 9 (ue_tup (ua_c (ue_tup (ua_c ue_str (ua_c ue_int (ua_c (ue_var 10) (ua_c (ue_tup (ua_c ue_str (ua_c (ue_op pu_mul2 ue_str ue_int) (ua_c ue_int (ua_c (ue_var 10) (ua_c (ue_tup (ua_c ue_str ua_nil)) ua_nil)))))) (ua_c (ue_tup (ua_c (ue_ix (pu_ix hr.units) (ue_var 7) ue_int) ua_nil)) ua_nil)))))) ua_nil))))
   (us_cons (us_if (ub_cmp (pu_ne hr.units) (ue_ul (ul_comp (sc := defScope s38_) (XN := ["_law_script", "_law_deck_here", "_law_world_here", "_law_names", "_law_texts", "_law_step", "_law_many", "_law_form", "_law_table", "_law_goods", "_law_far_here", "_law_inner", "_law_bads", "_law_bad", "_law_k", "_law_two", "_law_odd"]) (N := ["_law_one"]) (own := 1) (fr := []) rfl ⟨rfl, by decide +kernel, by decide +kernel, by decide +kernel, rfl, by decide +kernel, by decide, by decide +kernel⟩ (by decide) (ui_val (ue_var 9)) (fun _ _ _ _ _ => (ug_name 0 (by decide) (show (["_law_one"] : List Str).Nodup by decide +kernel) rfl (by first | exact Or.inl rfl | exact Or.inr rfl))) (fun _ _ _ _ _ => (uf_one (ub_cmp pu_isnot (ue_fn G22_ (hr.mono (by omega)) rfl (ua_c (ue_var 0) ua_nil)) ue_bl (nomark _)))) (fun _ _ _ _ _ => (ue_var 0)))) (ue_ul (ul_lst ua_nil)) (nomark _))
    (us_one (us_ret ue_bl))
    us_nil)
   (us_cons (us_set (i := 11) nd rfl (.inl rfl) (ue_tup (ua_c (ue_ix (pu_ix hr.units) (ue_var 7) ue_int) ua_nil)))
   (us_cons (us_set (i := 12) nd rfl (.inl rfl) (ue_op pu_add (ue_op pu_add (ue_fn G31_ (hr.mono (by omega)) rfl (ua_c (ue_ix (pu_ix hr.units) (ue_var 2) ue_int) (ua_c (ue_var 5) (ua_c (ue_var 6) ua_nil)))) (ue_fn G32_ (hr.mono (by omega)) rfl (ua_c (ue_var 4) ua_nil))) (ue_fn G33_ (hr.mono (by omega)) rfl (ua_c (ue_var 11) (ua_c (ue_var 6) ua_nil)))))
   (us_cons (us_set (i := 12) nd rfl (.inl rfl) (ue_op pu_add (ue_op pu_add (ue_var 12) (ue_fn G34_ (hr.mono (by omega)) rfl (ua_c (ue_var 3) (ua_c (ue_var 11) ua_nil)))) (ue_fn G35_ (hr.mono (by omega)) rfl (ua_c (ue_ix (pu_ix hr.units) (ue_var 4) ue_int) (ua_c (ue_var 11) (ua_c (ue_var 6) ua_nil))))))
   (us_cons (us_set (i := 12) nd rfl (.inl rfl) (ue_op pu_add (ue_var 12) (ue_ul (ul_lst (ua_c (ue_tup ua_nil) (ua_c (ue_tup (ua_c ue_str ua_nil)) (ua_c (ue_tup (ua_c ue_str (ua_c ue_int (ua_c ue_int (ua_c (ue_tup ua_nil) ua_nil))))) (ua_c (ue_tup (ua_c ue_int ua_nil)) (ua_c (ue_tup (ua_c (ue_tup ua_nil) ua_nil)) (ua_c ue_non (ua_c ue_str (ua_c (ue_ul (ul_lst (ua_c ue_str ua_nil))) (ua_c (ue_tup (ua_c ue_non (ua_c ue_int ua_nil))) ua_nil)))))))))))))
   (us_cons (us_set (i := 12) nd rfl (.inl rfl) (ue_op pu_add (ue_var 12) (ue_ul (ul_lst (ua_c (ue_tup (ua_c (ue_ul (ul_lst ua_nil)) ua_nil)) (ua_c (ue_tup (ua_c (ue_ul (ul_lst (ua_c ue_str ua_nil))) ua_nil)) (ua_c (ue_tup (ua_c (ue_ud ud_nil) (ua_c ue_int ua_nil))) (ua_c (ue_tup (ua_c ue_str (ua_c ue_int (ua_c ue_int (ua_c (ue_tup (ua_c (ue_tup (ua_c (ue_ul (ul_lst (ua_c ue_str ua_nil))) (ua_c ue_bl (ua_c (ue_var 11) ua_nil)))) ua_nil)) ua_nil))))) ua_nil))))))))
   (us_cons (us_for (m := 17) PassesOwn.never rfl (ui_val (ue_var 12)) (ug_name 13 (by decide) nd rfl (.inl rfl))
    (us_one (us_if (ub_cmp (pu_ne hr.units) (ue_ul (ul_comp (sc := defScope s38_) (XN := ["_law_script", "_law_deck_here", "_law_world_here", "_law_names", "_law_texts", "_law_step", "_law_many", "_law_form", "_law_table", "_law_goods", "_law_far_here", "_law_inner", "_law_bads", "_law_bad", "_law_k", "_law_two", "_law_odd"]) (N := ["_law_one"]) (own := 1) (fr := []) rfl ⟨rfl, by decide +kernel, by decide +kernel, by decide +kernel, rfl, by decide +kernel, by decide, by decide +kernel⟩ (by decide) (ui_val (ue_fn G37_ (hr.mono (by omega)) rfl (ua_c (ue_var 13) (ua_c (ue_var 3) ua_nil)))) (fun _ _ _ _ _ => (ug_name 0 (by decide) (show (["_law_one"] : List Str).Nodup by decide +kernel) rfl (by first | exact Or.inl rfl | exact Or.inr rfl))) (fun _ _ _ _ _ => (uf_one (ub_cmp pu_isnot (ue_fn G22_ (hr.mono (by omega)) rfl (ua_c (ue_var 0) ua_nil)) ue_bl (nomark _)))) (fun _ _ _ _ _ => (ue_var 0)))) (ue_ul (ul_lst ua_nil)) (nomark _))
     (us_one (us_ret ue_bl))
     us_nil)))
   (us_cons (us_set (i := 14) nd rfl (.inl rfl) (ue_fn G25_ (hr.mono (by omega)) rfl (ua_dk 1 (ua_c ue_int ua_nil))))
   (us_cons (us_set (i := 15) nd rfl (.inl rfl) (ue_slice pu_sl (ue_var 7) (uo_some (ue_var 14)) (uo_some (ue_op pu_add (ue_var 14) ue_int))))
   (us_cons (us_set (i := 16) nd rfl (.inl rfl) (ue_ul (ul_lst (ua_c (ue_op pu_add (ue_op pu_add (ue_slice pu_sl (ue_var 7) uo_none (uo_some (ue_var 14))) (ue_revT (ue_var 15) pe_m1)) (ue_slice pu_sl (ue_var 7) (uo_some (ue_op pu_add (ue_var 14) ue_int)) uo_none)) (ua_c (ue_op pu_add (ue_var 7) (ue_tup (ua_c (ue_var 8) ua_nil))) (ua_c (ue_op pu_add (ue_var 7) (ue_slice pu_sl (ue_var 7) (uo_some ue_int) uo_none)) (ua_c (ue_ul (ul_callTy pu_listOf rfl B.list_ boot_list (ua_c (ue_var 7) ua_nil))) (ua_c (ue_op pu_add (ue_slice pu_sl (ue_var 7) uo_none (uo_some (ue_op pu_add (ue_var 14) ue_int))) (ue_slice pu_sl (ue_var 7) (uo_some (ue_var 14)) uo_none)) ua_nil))))))))
   (us_cons (us_set (i := 16) nd rfl (.inl rfl) (ue_op pu_add (ue_var 16) (ue_ul (ul_lst (ua_c ue_non (ua_c ue_int (ua_c ue_str (ua_c ue_str (ua_c (ue_ud ud_nil) (ua_c (ue_ul (ul_lst ua_nil)) (ua_c ue_bl (ua_c (ue_tup (ua_c (ue_var 7) ua_nil)) (ua_c (ue_ul (ul_lst (ua_c (ue_tup ua_nil) ua_nil))) (ua_c (ue_tup (ua_c (ue_tup ua_nil) ua_nil)) (ua_c (ue_tup (ua_c ue_str ua_nil)) ua_nil)))))))))))))))
   (us_one (us_ret (ue_cmp (pu_eq hr.units).op (ue_ul (ul_comp (sc := defScope s38_) (XN := ["_law_script", "_law_deck_here", "_law_world_here", "_law_names", "_law_texts", "_law_step", "_law_many", "_law_form", "_law_table", "_law_goods", "_law_far_here", "_law_inner", "_law_bads", "_law_bad", "_law_k", "_law_two", "_law_odd"]) (N := ["_law_one"]) (own := 1) (fr := []) rfl ⟨rfl, by decide +kernel, by decide +kernel, by decide +kernel, rfl, by decide +kernel, by decide, by decide +kernel⟩ (by decide) (ui_val (ue_var 16)) (fun _ _ _ _ _ => (ug_name 0 (by decide) (show (["_law_one"] : List Str).Nodup by decide +kernel) rfl (by first | exact Or.inl rfl | exact Or.inr rfl))) (fun _ _ _ _ _ => (uf_one (ub_cmp pu_isnot (ue_fn G22_ (hr.mono (by omega)) rfl (ua_c (ue_var 0) ua_nil)) ue_bl (nomark _)))) (fun _ _ _ _ _ => (ue_var 0)))) (ue_ul (ul_lst ua_nil)) (nomark _)))))))))))))))))))))))))))), ?_⟩
  refine ⟨_, rfl, aa, ns, rfl, hS, fun p c H1 np nc d1 s1 => ?_⟩
  refine law_end (N := ["_law_script", "_law_deck_here", "_law_world_here", "_law_names", "_law_texts", "_law_step", "_law_many", "_law_form", "_law_table", "_law_goods", "_law_far_here", "_law_inner", "_law_bads", "_law_bad", "_law_k", "_law_two", "_law_odd"]) (by decide) d1 q ?_
  clear q hS hlen hr d1 s1 np nc
  refine ⟨rfl, rfl, fun nm tx st sp wd => ?_⟩
  obtain ⟨n11, t9, nnd, tnd, nS, tS, st1, st2, sp1, sp2⟩ := wd
  let W := worldT nm tx st sp
  let NM : Tv := .seq false (nm.map sT)
  let TX : Tv := .seq false (tx.map sT)
  refine ⟨2, rfl, _, rfl, rfl, _, _, rfl, _, _, rfl, rfl, ?_⟩
  show PEnds.nx _ _
  refine nxE (ρ' := [.no, .dk, .va W, .va NM, .va TX, .no, .no, .no, .no, .no, .no, .no, .no, .no, .no, .no, .no]) rfl ?_
  refine ⟨_, rfl, ?_⟩
  show PEnds.nx _ _
  refine nxE (ρ' := [.no, .dk, .va W, .va NM, .va TX, .va (iT (1 + sp)), .no, .no, .no, .no, .no, .no, .no, .no, .no, .no, .no]) rfl ?_
  refine ⟨rfl, 9, rfl, by decide, big_of (by decide) (by decide), fun r r0 r1 => ?_⟩
  show PEnds.nx _ _
  refine nxE (ρ' := [.no, .dk, .va W, .va NM, .va TX, .va (iT (1 + sp)), .va (iT (1 + r)), .no, .no, .no, .no, .no, .no, .no, .no, .no, .no]) rfl ?_
  generalize hc : 1 + sp = c
  generalize hm : 1 + r = m
  refine ⟨_, rfl, st, c, m, nm, tx, rfl, by omega, by omega, by omega, by omega, by omega, by omega, n11, t9, ?_⟩
  have G : GoodOk st (st + c * m) c m (sortS (tx.take 6)) (sortS (nm.take 8)) := ⟨by omega, by omega, by omega, by omega, by omega, rfl, by rw [sortS_len, List.length_take]; omega, (riseB_iff _).mpr (sort_rise (tnd.sublist (List.take_sublist ..))), fun s hs => ?_, by rw [sortS_len, List.length_take]; omega, (riseB_iff _).mpr (sort_rise (nnd.sublist (List.take_sublist ..))), fun s hs => ?_⟩
  rotate_left
  ·have := tS s (List.mem_of_mem_take ((sortS_perm _).mem_iff.mp hs)); exact ⟨this.1, by omega⟩
  ·have := nS s (List.mem_of_mem_take ((sortS_perm _).mem_iff.mp hs)); exact ⟨this.1, by omega⟩
  generalize st + c * m = b at G
  generalize sortS (tx.take 6) = ts at G
  generalize sortS (nm.take 8) = ns at G
  obtain ⟨t0, ht0⟩ : ∃ t, tx[0]? = some t := ⟨_, List.getElem?_eq_getElem (by omega)⟩
  have t0S := tS t0 (List.mem_of_getElem? ht0)
  have t0x : (tx.map sT)[0]? = some (sT t0) := by rw [List.getElem?_map, ht0]; rfl
  let FT : Tv := .seq true (goodP st b c m ts ns)
  let TT : Tv := tabG t0 (goodP st b c m ts ns)
  let e1 (s8 s9 s10 s11 s12 s13 s14 s15 s16 : Sl) : PEnv := [.no, .dk, .va W, .va NM, .va TX, .va (iT c), .va (iT m), .va FT, s8, s9, s10, s11, s12, s13, s14, s15, s16]
  show PEnds.nx _ _
  refine nxE (ρ' := e1 .no .no .no .no .no .no .no .no .no) rfl ?_
  refine ⟨_, atI_nat (j := 0) t0x, by simp, by simp, by simp, ?_⟩
  show PEnds.nx _ _
  refine nxE (ρ' := e1 (.va TT) .no .no .no .no .no .no .no .no) rfl ?_
  refine ⟨by simp, 5, rfl, by simp, by simp [cutT, HT.sIx, goodP], by simp, by simp, by simp, by simp, by simp, by simp, ?_⟩
  let g0 : List Tv := [.seq true [], FT, .seq true ((goodP st b c m ts ns).take 5 ++ [TT]), .seq true [.seq true [sT "lists", iT 0, iT 0, .seq true []], .seq true [sT "record", iT 0, iT 0, .seq true []]]]
  have y0 : ∀ U ∈ g0, YesF U := all_cons (yes_of all_nil all_nil rfl (by simp) (by simp)) (all_cons (yes_good G) (all_cons (yes_tab G t0S.1 (by omega)) (all_cons yes_empty all_nil)))
  show PEnds.nx _ _
  refine nxE (ρ' := e1 (.va TT) (.own g0) .no .no .no .no .no .no .no) rfl ?_
  have gl : (goodP st b c m ts ns).length = 6 := rfl
  have fle := form_fle G
  have yc := yes_cut G
  have n1 := no_swap G
  have n2 := no_twice G
  have n3 := no_tab G (x := t0) (by omega)
  have n4 := no_list G
  have n5 := no_one G
  have yl := fun f => yes_lists G (f := f)
  have yt := fun f => yes_table G (f := f)
  have nf := num_fle G
  have g2 : (goodP st b c m ts ns)[2]? = some (numP st b c) := rfl
  have g5 : (goodP st b c m ts ns).drop 5 ≠ [] := by simp [goodP]
  refine ⟨6, rfl, by decide, by decide, by rw [rngT_len]; decide, ?_⟩
  refine compT_of (fun k : Nat => iT (0 + (k : Int))) (fun k => .seq true ((goodP st b c m ts ns).take k ++ (goodP st b c m ts ns).drop (k + 1))) (l := List.range 6) (fun k hk R q => ?_) ?_
  ·have hk := List.mem_range.mp hk
   refine ⟨_, rfl, _, rfl, ?_⟩
   show (cutT (goodP st b c m ts ns) none (some (0 + (k : Int)))).length + (cutT (goodP st b c m ts ns) (some (0 + (k : Int) + 1)) none).length <= 100000 /\ R (some (.seq true (cutT (goodP st b c m ts ns) none (some (0 + (k : Int))) ++ cutT (goodP st b c m ts ns) (some (0 + (k : Int) + 1)) none))) _
   rw [show (0 : Int) + (k : Int) = (k : Int) by omega, cut_to, show ((k : Int) + 1) = ((k + 1 : Nat) : Int) by push_cast; rfl, cut_from]
   exact ⟨by rw [List.length_take, List.length_drop]; omega, q⟩
  refine ⟨_, _, rfl, rfl, by simp [g0], ?_⟩
  let g1 : List Tv := g0 ++ (List.range 6).map fun k => .seq true ((goodP st b c m ts ns).take k ++ (goodP st b c m ts ns).drop (k + 1))
  have l1 : g1.length = 10 := rfl
  have y1 : ∀ U ∈ g1, YesF U := fun U hU => by
   rcases List.mem_append.mp hU with h | h
   ·exact y0 U h
   ·obtain ⟨k, hk, rfl⟩ := List.mem_map.mp h
    exact yc k (List.mem_range.mp hk)
  show PEnds.nx _ _
  refine nxE (ρ' := e1 (.va TT) (.own g1) .no .no .no .no .no .no .no) rfl ?_
  clear_value g1
  refine ⟨rfl, ⟨by decide, by decide, by decide⟩, 10 ^ 20, rfl, by decide, big_of (by decide) (by decide), fun f0 f1 f2 => ?_⟩
  show PEnds.nx _ _
  generalize hf : 61 + f0 = f
  have fa : 61 <= f := by omega
  have fb : f < 10 ^ 21 := by
   have : f0 < 10 ^ 20 := f2
   omega
  refine nxE (ρ' := e1 (.va TT) (.own g1) (.va (iT f)) .no .no .no .no .no .no) (by rw [<- hf]; rfl) ?_
  refine ⟨⟨by decide, by decide, by decide⟩, ⟨by decide, by decide, by decide⟩, by simp, by simp, by simp, by simp, .inr ⟨big_of (by omega) (by omega), big_of (by omega) (by omega)⟩, _, rfl, by simp, by simp, by simp, by simp, _, _, rfl, rfl, by simp [l1], ?_⟩
  let g2 : List Tv := g1 ++ [.seq true [.seq true [sT "texts", .seq true [sT "few", .seq true [sT (repS "a" 61), sT (repS "b" 100)]]]], .seq true [.seq true [sT "lists", iT f, iT (2 * f), .seq true [numP st b c]]]]
  have l2 : g2.length = 12 := by rw [List.length_append, l1]; rfl
  have y2 : ∀ U ∈ g2, YesF U := fun U hU => by
   rcases List.mem_append.mp hU with h | h
   ·exact y1 U h
   ·exact all_cons (p := YesF) yes_texts (all_cons (yl f fa fb) all_nil) U h
  show PEnds.nx _ _
  refine nxE (ρ' := e1 (.va TT) (.own g2) (.va (iT f)) .no .no .no .no .no .no) rfl ?_
  clear_value g2
  refine ⟨⟨_, rfl⟩, ⟨by decide, by decide, by decide⟩, by simp, by simp, _, rfl, by simp, by simp, by simp, _, rfl, by omega, ?_⟩
  let g3 : List Tv := g2 ++ [.seq true [.seq true [sT "table", iT 61, iT f, mkT (repS "c" 90) 0 f [sT "small"], .seq true [numP st b c]]]]
  have l3 : g3.length = 13 := by rw [List.length_append, l2]; rfl
  have y3 : ∀ U ∈ g3, YesF U := fun U hU => by
   rcases List.mem_append.mp hU with h | h
   ·exact y2 U h
   ·exact all_cons (p := YesF) (yt f fa fb (z := repS "c" 90) (by decide +kernel) (by decide +kernel)) all_nil U h
  show PEnds.nx _ _
  refine nxE (ρ' := e1 (.va TT) (.own g3) (.va (iT f)) .no .no .no .no .no .no) rfl ?_
  clear_value g3
  refine ⟨by omega, comp_yes (fun U hU R q => ?_) ⟨by simp, .inr (.inl rfl), _, rfl, iteF ?_⟩⟩
  ·obtain ⟨fU, wU⟩ := y3 U hU
   refine ⟨U, rfl, fU, ?_⟩
   rw [wU]
   exact ⟨_, rfl, iteF q⟩
  refine ⟨_, rfl, by simp, ?_⟩
  let IT : Tv := .seq true [numP st b c]
  show PEnds.nx _ _
  refine nxE (ρ' := e1 (.va TT) (.va (.seq false g3)) (.va (iT f)) (.va IT) .no .no .no .no .no) rfl ?_
  have n3f := num_fle3 G
  have nl : ∀ s ∈ nm, s.length <= 1000 := fun s hs => Nat.le_trans (nS s hs).2 (by decide)
  have tl : ∀ s ∈ tx, s.length <= 1000 := fun s hs => Nat.le_trans (tS s hs).2 (by decide)
  refine ⟨_, rfl, st, c, m, rfl, by omega, by omega, by omega, by omega, by omega, by omega, fun B1 b1 k1 => ⟨tx, rfl, t9, tl, fun B2 b2 k2 => ⟨by omega, [numP st b c], m, rfl, by omega, by omega, by simp, by simp, all_cons n3f all_nil, fun B3 b3 k3 => ⟨by rw [List.length_append]; omega, ?_⟩⟩⟩⟩
  show PEnds.nx _ _
  refine nxE (ρ' := e1 (.va TT) (.va (.seq false g3)) (.va (iT f)) (.va IT) (.va (.seq false ((B1 ++ B2) ++ B3))) .no .no .no .no) rfl ?_
  have d1 : ∀ r ∈ (B1 ++ B2) ++ B3, BadP r := fun r hr => (List.mem_append.mp hr).elim (fun h => (List.mem_append.mp h).elim (b1 r) (b2 r)) (b3 r)
  have d2 : ((B1 ++ B2) ++ B3).length <= 300 := by rw [List.length_append, List.length_append]; omega
  generalize (B1 ++ B2) ++ B3 = D1 at d1 d2
  refine ⟨nm, [numP st b c], rfl, n11, nl, by simp, all_cons n3f all_nil, fun B4 b4 k4 => ⟨by omega, _, atI_nat (j := 0) t0x, t0, [numP st b c], m, rfl, by omega, by omega, by omega, by simp, all_cons n3f all_nil, fun B5 b5 k5 => ⟨by rw [List.length_append]; omega, ?_⟩⟩⟩
  show PEnds.nx _ _
  refine nxE (ρ' := e1 (.va TT) (.va (.seq false g3)) (.va (iT f)) (.va IT) (.va (.seq false ((D1 ++ B4) ++ B5))) .no .no .no .no) rfl ?_
  have d3 : ∀ r ∈ (D1 ++ B4) ++ B5, BadP r := fun r hr => (List.mem_append.mp hr).elim (fun h => (List.mem_append.mp h).elim (d1 r) (b4 r)) (b5 r)
  have d4 : ((D1 ++ B4) ++ B5).length <= 500 := by rw [List.length_append, List.length_append]; omega
  generalize (D1 ++ B4) ++ B5 = D2 at d3 d4
  refine ⟨by simp, by simp, by simp, by simp, by simp, by simp, by simp, by simp, by simp, by simp, by show D2.length + 9 <= 100000; omega, ?_⟩
  show PEnds.nx _ _
  refine nxE (ρ' := e1 (.va TT) (.va (.seq false g3)) (.va (iT f)) (.va IT) (.va (.seq false (D2 ++ badE))) .no .no .no .no) rfl ?_
  have l9 : badE.length = 9 := rfl
  refine ⟨by simp, by simp, by simp, by simp, by simp, by simp, by simp, by simp, by simp, by simp, by rw [List.length_append, l9]; show D2.length + 9 + 4 <= 100000; omega, ?_⟩
  show PEnds.nx _ _
  refine nxE (ρ' := e1 (.va TT) (.va (.seq false g3)) (.va (iT f)) (.va IT) (.va (.seq false ((D2 ++ badE) ++ badF IT))) .no .no .no .no) rfl ?_
  have d5 : ∀ r ∈ (D2 ++ badE) ++ badF IT, BadP r := fun r hr => by
   rw [List.append_assoc] at hr
   exact (List.mem_append.mp hr).elim (d3 r) (badEF (fle_t (by simp) (all_cons n3f all_nil) (by simp)) r)
  generalize (D2 ++ badE) ++ badF IT = D3 at d5
  obtain ⟨n0, nr, rfl⟩ : ∃ n r, nm = n :: r := by
   match nm, n11 with
   | n :: r, _ => exact ⟨n, r, rfl⟩
  refine forT_inv (fun i ρ => ∃ s13 : Sl, ρ = e1 (.va TT) (.va (.seq false g3)) (.va (iT f)) (.va IT) (.va (.seq false D3)) s13 .no .no .no) ⟨_, rfl⟩ ?_ ?_
  ·rintro i T _ N hT ⟨s13, rfl⟩ hN
   refine ⟨T, n0, nr.map sT, rfl, d5 T (List.mem_of_getElem? hT), nl n0 (by simp), fun Us hU lU => ⟨by omega, comp_yes (fun U hU' R q => ?_) ⟨by simp, .inr (.inl rfl), _, rfl, iteF (hN _ ⟨_, rfl⟩)⟩⟩⟩
   obtain ⟨fU, wU⟩ := hU U hU'
   refine ⟨U, rfl, fU, ?_⟩
   rw [wU]
   exact ⟨_, rfl, iteF q⟩
  rintro _ ⟨s13, rfl⟩
  refine ⟨rfl, 5, rfl, by decide, big_of (by decide) (by decide), fun k0 k1 k2 => ?_⟩
  obtain ⟨k, rfl⟩ : ∃ k : Nat, k0 = k := ⟨k0.toNat, by omega⟩
  have k5 : k < 5 := by omega
  let e2 (s15 s16 : Sl) : PEnv := e1 (.va TT) (.va (.seq false g3)) (.va (iT f)) (.va IT) (.va (.seq false D3)) s13 (.va (iT k)) s15 s16
  show PEnds.nx _ _
  refine nxE (ρ' := e2 .no .no) rfl ?_
  refine ⟨_, rfl, _, rfl, ?_⟩
  show PEnds.nx _ _
  refine nxE (ρ' := e2 (.va (.seq true (((goodP st b c m ts ns).drop k).take 2))) .no) (by rw [<- cut_mid _ k (by omega)]; rfl) ?_
  have cl := fun lo hi => cutT_len (goodP st b c m ts ns) lo hi
  have tw : (((goodP st b c m ts ns).drop k).take 2).reverse.length <= 2 := by rw [List.length_reverse, List.length_take]; omega
  refine ⟨_, rfl, _, rfl, by have := cl none (some (k : Int)); omega, _, rfl, by rw [List.length_append]; have := cl none (some (k : Int)); have := cl (some ((k : Int) + 2)) none; omega, by simp, by simp [gl], 5, rfl, by have := cl (some 5) none; omega, _, _, rfl, _, rfl, _, rfl, by have := cl none (some ((k : Int) + 1)); have := cl (some (k : Int)) none; omega, by simp, ?_⟩
  let od : List Tv := [.seq true ((goodP st b c m ts ns).take k ++ (((goodP st b c m ts ns).drop k).take 2).reverse ++ (goodP st b c m ts ns).drop (k + 2)), .seq true (goodP st b c m ts ns ++ [TT]), .seq true ((goodP st b c m ts ns).take (5 + 1) ++ (goodP st b c m ts ns).drop 5), .seq false (goodP st b c m ts ns), .seq true ((goodP st b c m ts ns).take (k + 1) ++ (goodP st b c m ts ns).drop k)]
  have od1 : ∀ U ∈ od, NoForm U := all_cons (n1 k k5) (all_cons n3 (all_cons (n2 5 (by decide)) (all_cons n4 (all_cons (n2 k (by omega)) all_nil))))
  show PEnds.nx _ _
  refine nxE (ρ' := e2 (.va (.seq true (((goodP st b c m ts ns).drop k).take 2))) (.va (.seq false od))) (by
   show e2 _ (.va (.seq false [.seq true (cutT (goodP st b c m ts ns) none (some (k : Int)) ++ (((goodP st b c m ts ns).drop k).take 2).reverse ++ cutT (goodP st b c m ts ns) (some ((k : Int) + 2)) none), .seq true (goodP st b c m ts ns ++ [TT]), .seq true (goodP st b c m ts ns ++ (goodP st b c m ts ns).drop 5), .seq false (goodP st b c m ts ns), .seq true (cutT (goodP st b c m ts ns) none (some ((k : Int) + 1)) ++ cutT (goodP st b c m ts ns) (some (k : Int)) none)])) = _
   rw [cut_to, cut_from, show ((k : Int) + 2) = ((k + 2 : Nat) : Int) by push_cast; rfl, cut_from, show ((k : Int) + 1) = ((k + 1 : Nat) : Int) by push_cast; rfl, cut_to]
   rfl) ?_
  have lo : od.length = 5 := rfl
  clear_value od
  refine ⟨by simp, by simp, by simp, by simp, by simp, by simp, by simp, by simp, by show od.length + 11 <= 100000; omega, ?_⟩
  let ol : List Tv := od ++ (oddE ++ [.seq true [FT]] ++ oddF)
  have no : ∀ U ∈ ol, NoForm U := fun U hU => by
   rcases List.mem_append.mp hU with h | h
   ·exact od1 U h
   ·rcases List.mem_append.mp h with h | h
    ·rcases List.mem_append.mp h with h | h
     ·exact odd_no U (List.mem_append_left _ h)
     ·rw [List.mem_singleton] at h; subst h; exact n5
    ·exact odd_no U (List.mem_append_right _ h)
  have ll : ol.length = 16 := by rw [List.length_append, lo]; rfl
  show PEnds.nx _ _
  refine nxE (ρ' := e2 (.va (.seq true (((goodP st b c m ts ns).drop k).take 2))) (.va (.seq false ol))) rfl ?_
  clear_value ol
  refine ⟨by omega, comp_yes (fun U hU R q => ?_) ?_⟩
  ·obtain ⟨fU, wU⟩ := no U hU
   refine ⟨U, rfl, fU, ?_⟩
   rw [wU]
   exact ⟨_, rfl, iteF q⟩
  exact ⟨by simp, .inr (.inl rfl), rfl⟩
end
end My
namespace My
open PySem L2 PyProof.Rows
open WordM
open PySem
theorem all_mk {l : PySem.W.OpenLaw} {w : World} {K : PySem.W.Frag} {h : Heap} {mg : Str -> Option Value} {fa : Addr} (X : K.In h) (G : h.Ns mainGlobals mg) (hfa : mg "law" = some (.ref fa)) {f38 : Addr} {v_38 t_38 : Option Addr} {p_38 : Array (Option Value)} {u_38 w_38 x_38 y_38 r_38 q_38 : Value}
 (h0_ : Has K mg "is_whole" s0_)
 (h1_ : Has K mg "is_sign" s1_)
 (h2_ : Has K mg "is_text" s2_)
 (h3_ : Has K mg "is_run" s3_)
 (h4_ : Has K mg "rises" s4_)
 (h5_ : Has K mg "is_few" s5_)
 (h6_ : Has K mg "are_marks" s6_)
 (h7_ : Has K mg "is_make" s7_)
 (h8_ : Has K mg "is_words" s8_)
 (h9_ : Has K mg "tails_many" s9_)
 (h10_ : Has K mg "signs_of" s10_)
 (h11_ : Has K mg "words_many" s11_)
 (h12_ : Has K mg "part_kind" s12_)
 (h13_ : Has K mg "are_truths" s13_)
 (h14_ : Has K mg "are_bounds" s14_)
 (h15_ : Has K mg "lets_some_by" s15_)
 (h16_ : Has K mg "is_lists" s16_)
 (h17_ : Has K mg "is_field" s17_)
 (h18_ : Has K mg "are_fields" s18_)
 (h19_ : Has K mg "is_record" s19_)
 (h20_ : Has K mg "is_table" s20_)
 (h21_ : Has K mg "is_part" s21_)
 (h22_ : Has K mg "is_form" s22_)
 (h23_ : Has K mg "_law_mixed" s23_)
 (h24_ : Has K mg "_law_deck" s24_)
 (h25_ : Has K mg "_law_take" s25_)
 (h26_ : Has K mg "_law_signs" s26_)
 (h27_ : Has K mg "_law_text" s27_)
 (h28_ : Has K mg "_law_unlike" s28_)
 (h29_ : Has K mg "_law_far" s29_)
 (h30_ : Has K mg "_law_world" s30_)
 (h31_ : Has K mg "_law_bad_plain" s31_)
 (h32_ : Has K mg "_law_bad_words" s32_)
 (h33_ : Has K mg "_law_bad_rows" s33_)
 (h34_ : Has K mg "_law_bad_records" s34_)
 (h35_ : Has K mg "_law_bad_tables" s35_)
 (h36_ : Has K mg "_law_good" s36_)
 (h37_ : Has K mg "_law_within" s37_)
 (a38 : PySem.W.nsIn K mainGlobals "law" = some (some (.ref f38))) (l38 : K.lookup f38 = some ⟨u_38, v_38, .func (PySem.W.fnOf "law" "law" (defArgs s38_) (defBody s38_) (defScope s38_) .none w_38 x_38 y_38 t_38 r_38 q_38), p_38⟩) (c38 : PySem.W.codeIn K r_38 "law" = true) (k38 : PySem.W.keepIn K (.ref f38) = true)
    (z0 : PySem.W.nsIn K mainGlobals "len" = some none) (z1 : PySem.W.nsIn K mainGlobals "range" = some none) (z2 : PySem.W.nsIn K mainGlobals "isinstance" = some none) (z3 : PySem.W.nsIn K mainGlobals "int" = some none) (z4 : PySem.W.nsIn K mainGlobals "bool" = some none) (z5 : PySem.W.nsIn K mainGlobals "str" = some none) (z6 : PySem.W.nsIn K mainGlobals "list" = some none) (z7 : PySem.W.nsIn K mainGlobals "tuple" = some none) (z8 : PySem.W.nsIn K mainGlobals "dict" = some none) (z9 : PySem.W.nsIn K mainGlobals "sum" = some none) (z10 : PySem.W.nsIn K mainGlobals "min" = some none) (z11 : PySem.W.nsIn K mainGlobals "max" = some none) (z12 : PySem.W.nsIn K mainGlobals "all" = some none) (z13 : PySem.W.nsIn K mainGlobals "any" = some none) (z14 : PySem.W.nsIn K mainGlobals "abs" = some none) (z15 : PySem.W.nsIn K mainGlobals "zip" = some none) (z16 : PySem.W.nsIn K mainGlobals "sorted" = some none) (z17 : PySem.W.nsIn K mainGlobals "set" = some none) (z18 : PySem.W.nsIn K mainGlobals "enumerate" = some none) {aSIGNS aMARKS aPK : Addr} {tk1 tk2 tk3 tk4 tk5 tk6 tk7 tk8 um1 um2 um3 um4 tp1 tp2 tp3 tp4 tp5 tp6 tp7 tp8 tp9 tp10 tp11 tp12 tp13 tp14 : Tok} {epS nM epP : Nat} {ddM : Option Addr} {slM : Array (Option Value)} {aKN : Addr} {tkP tkF tkM uk1 uk2 uk3 uk4 uk5 uk6 : Tok} {nK : Nat} {slK : Array (Option Value)}
    (aS : PySem.W.nsIn K mainGlobals "SIGNS" = some (some (.ref aSIGNS)))
    (lS : K.lookup aSIGNS = some ⟨.type "dict", none, .dict #[{ hash := PyData.keyHash w.params ("figure" : Str), key := .str "figure" tk1, val := .str "0123456789" tk2 }, { hash := PyData.keyHash w.params ("great" : Str), key := .str "great" tk3, val := .str "ABCDEFGHIJKLMNOPQRSTUVWXYZ" tk4 }, { hash := PyData.keyHash w.params ("other" : Str), key := .str "other" tk5, val := .str " !\"#$&'()*+,-./:;<=>?\x40[\\]^_`{|}~" tk6 }, { hash := PyData.keyHash w.params ("small" : Str), key := .str "small" tk7, val := .str "abcdefghijklmnopqrstuvwxyz" tk8 }] epS, #[]⟩)
    (aM : PySem.W.nsIn K mainGlobals "MARKS" = some (some (.ref aMARKS)))
    (lM : K.lookup aMARKS = some ⟨.type "tuple", ddM, .seq #[.str "figure" um1, .str "great" um2, .str "other" um3, .str "small" um4] nM, slM⟩)
    (aP : PySem.W.nsIn K mainGlobals "PART_KINDS" = some (some (.ref aPK)))
    (lP : K.lookup aPK = some ⟨.type "dict", none, .dict #[{ hash := PyData.keyHash w.params ("nothing" : Str), key := .str "nothing" tp1, val := .str "nothing" tp2 }, { hash := PyData.keyHash w.params ("truths" : Str), key := .str "truths" tp3, val := .str "truth" tp4 }, { hash := PyData.keyHash w.params ("numbers" : Str), key := .str "numbers" tp5, val := .str "number" tp6 }, { hash := PyData.keyHash w.params ("texts" : Str), key := .str "texts" tp7, val := .str "text" tp8 }, { hash := PyData.keyHash w.params ("lists" : Str), key := .str "lists" tp9, val := .str "list" tp10 }, { hash := PyData.keyHash w.params ("record" : Str), key := .str "record" tp11, val := .str "dict" tp12 }, { hash := PyData.keyHash w.params ("table" : Str), key := .str "table" tp13, val := .str "dict" tp14 }] epP, #[]⟩)
    (aPC : PySem.W.nsIn K mainGlobals "PERCENT" = some (some (.int 37 tkP)))
    (aF : PySem.W.nsIn K mainGlobals "MOST_FEW" = some (some (.int 6 tkF)))
    (aMF : PySem.W.nsIn K mainGlobals "MOST_FIELDS" = some (some (.int 8 tkM)))
    (aK : PySem.W.nsIn K mainGlobals "KINDS" = some (some (.ref aKN)))
    (lK : K.lookup aKN = some ⟨.type "tuple", none, .seq #[.str "nothing" uk1, .str "truth" uk2, .str "number" uk3, .str "text" uk4, .str "list" uk5, .str "dict" uk6] nK, slK⟩)
    (zo : PySem.W.nsIn K mainGlobals "ord" = some none) :
    ∃ fd : FuncData, (∀ (s : Shared) (v : Value), BindsTo s fd ⟨[v], []⟩ [("_law_script", v)]) /\ ∀ base : Heap, K.In base -> base.Ns mainGlobals mg -> FnOk l.prog w K mg base CX0 50 fa fd ["_law_script"] (spLaw K) := by
  have e := hfa.symm.trans (PySem.W.mg_of X G a38)
  cases e
  have B : Own mg := own_mk X G z0 z1 z2 z3 z4 z5 z6 z7 z8 z9 z10 z11 z12 z13 z14 z15 z16 z17 z18
  refine ⟨PySem.W.fnOf "law" "law" (defArgs s38_) (defBody s38_) (defScope s38_) .none w_38 x_38 y_38 t_38 r_38 q_38, fun s v => .of_eq rfl, fun base KB GB => ?_⟩
  have GSIGNS : GlobD K w.params mg "SIGNS" SGN := ⟨aSIGNS, PySem.W.mg_of X G aS, ⟨⟨_, _, lS, ⟨rfl, ⟨_, rfl⟩, ⟨_, rfl⟩, rfl, ⟨_, rfl⟩, ⟨_, rfl⟩, rfl, ⟨_, rfl⟩, ⟨_, rfl⟩, rfl, ⟨_, rfl⟩, ⟨_, rfl⟩, trivial⟩⟩, by decide +kernel⟩⟩
  have GPART_KINDS : GlobD K w.params mg "PART_KINDS" KNDS := ⟨aPK, PySem.W.mg_of X G aP, ⟨⟨_, _, lP, ⟨rfl, ⟨_, rfl⟩, ⟨_, rfl⟩, rfl, ⟨_, rfl⟩, ⟨_, rfl⟩, rfl, ⟨_, rfl⟩, ⟨_, rfl⟩, rfl, ⟨_, rfl⟩, ⟨_, rfl⟩, rfl, ⟨_, rfl⟩, ⟨_, rfl⟩, rfl, ⟨_, rfl⟩, ⟨_, rfl⟩, rfl, ⟨_, rfl⟩, ⟨_, rfl⟩, trivial⟩⟩, by decide +kernel⟩⟩
  have TM : ∀ H, SqT K H aMARKS (MK.map V.str) := fun H => .inr ⟨_, _, _, lM, rfl, rfl, by show 4 <= sizeLine; decide, .cons ⟨_, rfl⟩ (.cons ⟨_, rfl⟩ (.cons ⟨_, rfl⟩ (.cons ⟨_, rfl⟩ .nil)))⟩
  have GMARKS : GlobT K mg "MARKS" (.seq true (MK.map sT)) := glob_tup (PySem.W.mg_of X G aM) TM
  have GPERCENT : GlobT K mg "PERCENT" (iT 37) := ⟨.int 37, _, PySem.W.mg_of X G aPC, ⟨_, rfl⟩, fun H => .flat rfl⟩
  have GMOST_FEW : GlobT K mg "MOST_FEW" (iT 6) := ⟨.int 6, _, PySem.W.mg_of X G aF, ⟨_, rfl⟩, fun H => .flat rfl⟩
  have GMOST_FIELDS : GlobT K mg "MOST_FIELDS" (iT 8) := ⟨.int 8, _, PySem.W.mg_of X G aMF, ⟨_, rfl⟩, fun H => .flat rfl⟩
  have GKINDS : GlobI K mg "KINDS" KNS := ⟨aKN, _, _, _, PySem.W.mg_of X G aK, lK, by show 6 <= sizeLine; decide, .cons ⟨_, rfl⟩ (.cons ⟨_, rfl⟩ (.cons ⟨_, rfl⟩ (.cons ⟨_, rfl⟩ (.cons ⟨_, rfl⟩ (.cons ⟨_, rfl⟩ .nil)))))⟩
  have Bord : mg "ord" = none := PySem.W.mg_none_of X G zo
  have G25_ : PGood l.prog w K mg base 2 "_law_take" ["_law_deck_here", "_law_most"] ptTake := Good.take (g_take h25_ (g_mixed h23_))
  have G26_ : PGood l.prog w K mg base 1 "_law_signs" [] ptSigns := g26_ h26_ B 
  have G27_ : PGood l.prog w K mg base 3 "_law_text" ["_law_deck_here", "_law_most"] ptText := g27_ h27_ B G26_ G25_
  have G28_ : PGood l.prog w K mg base 4 "_law_unlike" ["_law_deck_here", "_law_many", "_law_most"] ptUnlike := g28_ h28_ B G26_ G27_
  have G29_ : PGood l.prog w K mg base 3 "_law_far" ["_law_deck_here"] ptFar := g29_ h29_ B G25_
  have G30_ : PGood l.prog w K mg base 5 "_law_world" ["_law_deck_here"] ptWorld := g30_ h30_ B G25_ G28_ G27_ G29_
  have G0_ : PGood l.prog w K mg base 1 "is_whole" ["thing"] ptWhole := g0_ h0_ B 
  have G1_ : PGood l.prog w K mg base 1 "is_sign" ["sign"] ptSign := g1_ h1_ B GPERCENT Bord
  have G2_ : PGood l.prog w K mg base 2 "is_text" ["thing"] ptIsText := g2_ h2_ B G1_
  have G4_ : PGood l.prog w K mg base 1 "rises" ["things"] ptRises3 := g4_ h4_ B 
  have G5_ : PGood l.prog w K mg base 3 "is_few" ["thing"] ptFew := g5_ h5_ B G4_ G2_ GMOST_FEW
  have G6_ : PGood l.prog w K mg base 2 "are_marks" ["thing"] ptAreMarks := g6_ h6_ B G4_ GMARKS
  have G7_ : PGood l.prog w K mg base 3 "is_make" ["thing"] ptMakeW := g7_ h7_ B G6_ G2_ G0_
  have G8_ : PGood l.prog w K mg base 4 "is_words" ["thing"] ptWordsB := g8_ h8_ B G5_ G7_
  have G3_ : PGood l.prog w K mg base 2 "is_run" ["thing"] ptIsRun := g3_ h3_ B G0_
  have G13_ : PGood l.prog w K mg base 2 "are_truths" ["thing"] ptAreTruths := g13_ h13_ B G4_
  have G14_ : PGood l.prog w K mg base 2 "are_bounds" ["least", "most"] ptBounds := g14_ h14_ B G0_
  have G9_ : PGood l.prog w K mg base 1 "tails_many" ["signs", "shortest", "longest", "most"] ptTails := g9_ h9_ B 
  have G10_ : PGood l.prog w K mg base 1 "signs_of" ["marks"] ptSignsOf := g10_ h10_ B GSIGNS
  have G11_ : PGood l.prog w K mg base 2 "words_many" ["words", "most"] ptManyM := g11_ h11_ B G9_ G10_
  have G12_ : PGood l.prog w K mg base 1 "part_kind" ["part"] ptPartK := g12_ h12_ B GPART_KINDS
  have G22_ : PGood l.prog w K mg base 48 "is_form" ["thing"] (ptForm 7 (formB 7)) := g_isforms h22_ h21_ h16_ h17_ h18_ h19_ h20_ h15_ B G12_ G4_ G14_ G2_ G8_ G11_ G13_ G3_ GKINDS GMOST_FIELDS 7
  have G33_ : PGood l.prog w K mg base 1 "_law_bad_rows" ["_law_inner", "_law_many"] ptBadRows := g33_ h33_ B 
  have G37_ : PGood l.prog w K mg base 1 "_law_within" ["_law_bad", "_law_names"] ptWithin := g37_ h37_ B 
  have G35_ : PGood l.prog w K mg base 1 "_law_bad_tables" ["_law_text_here", "_law_inner", "_law_many"] ptBadTables := g35_ h35_ B 
  have G31_ : PGood l.prog w K mg base 1 "_law_bad_plain" ["_law_low", "_law_step", "_law_many"] ptBadPlain := g31_ h31_ B 
  have G36_ : PGood l.prog w K mg base 1 "_law_good" ["_law_low", "_law_step", "_law_many", "_law_names", "_law_texts"] ptGood := g36_ h36_ B 
  have G32_ : PGood l.prog w K mg base 1 "_law_bad_words" ["_law_texts"] ptBadWords := g32_ h32_ B 
  have G34_ : PGood l.prog w K mg base 1 "_law_bad_records" ["_law_names", "_law_inner"] ptBadRecords := g34_ h34_ B 
  exact ok_law (fun_mk (st := s38_) l38 c38 k38) B (g_deck h24_ B) G30_ G25_ G36_ G22_ G31_ G32_ G33_ G34_ G35_ G37_ 
theorem walk {l : PySem.W.OpenLaw} {q : Program} {loose : List Str} {XP : (Str -> Option Value) -> Heap -> Prop} {YP : World -> Heap -> Prop} {d : DefRec} {K : Params -> PySem.W.Frag} (hn : l.most = some 63) (hdf : d.params.defaults = [])
  (hY : ∀ (w : World) (h : Heap), YP w h -> (K w.params).In h)
  (F : ∀ (w : World) (mg : Str -> Option Value) (fa : Addr) (h : Heap), (K w.params).In h -> h.Ns mainGlobals mg -> mg d.name = some (.ref fa) ->
   ∃ fd : FuncData, (∀ (s : Shared) (u : Value), BindsTo s fd ⟨[u], []⟩ [("_law_script", u)]) /\ ∀ base : Heap, (K w.params).In base -> base.Ns mainGlobals mg -> FnOk l.prog w (K w.params) mg base CX0 50 fa fd ["_law_script"] (spLaw (K w.params))) :
  PySem.W.WalkO q loose XP YP l.row.toRowW d [] (fun f vs => PySem.call f vs) :=
 L2.walk_of (n := 63) (k := 50) (x := "_law_script") (CX := fun _ => CX0) (sp := fun w => spLaw (K w.params)) hn (by decide) hdf ⟨rfl, by decide, by decide, rfl⟩ hY F (fun _ _ a ns hl _ hS => ⟨a, ns, rfl, hS, hl, fun _ => rfl⟩) fun _ _ _ _ _ z => z
end My
inductive PySem.W.Fast : Prop
|tw9035343773791671406
|tw5368063288337411104
|tw10645222240335476480
|tw5880349654660767905
|tw17542049179337724705
|tw17375997619906854754
|tw10740471271574246306
|tw7990655916289360995
|tw6640779450989098147
|tw12537079530373906915
|tw16218259677392901667
|tw16238431153616586403
|tw15830776368792918755
|tw1052498138005827620
|tw5618658192336591684
|tw17995410531457408868
|tw4276702001867932741
|tw17402742890199196037
|tw1948186312113277765
|tw15167786455667569702
|tw15613140861701924198
|tw5928240620921784487
|tw721353181335854279
|tw11700865578027226599
|tw17224825279090874183
|tw2002509929338840935
|tw15259550120850179240
|tw5764679102536832616
|tw7754203069408398312
|tw2365326501795023913
|tw1054406886462005385
|tw10426961292238364137
|tw5569448787955911305
|tw1895417825778184041
|tw1511801983050219882
|tw2356055280673717259
|tw3376477523115182123
|tw8965750494517118475
|tw2973410556927916140
|tw17170895616918696332
|tw13961527471078502701
|tw5616551635136086381
|tw6719603983692693069
|tw16157465606197437069
|tw6966984451852565646
|tw4780441268007998094
|tw11208330093954585551
|tw13768085895258738384
|tw11066401811235601264
|tw16682435579030116240
|tw1800242291607333393
|tw7761002724785038929
|tw5535157028312205362
|tw429776001796771250
|tw17202044623002742450
|tw9740452666751278771
|tw11199521027416183603
|tw3008901107555737940
|tw4174988085864422836
|tw1959095061617506868
|tw1910853174236002996
|tw11583005561504780052
|tw5787839148538095925
|tw6032270678181462677
|tw16047703781860445941
|tw13711115249007355669
|tw16787633773134730165
|tw14334268385781263382
|tw5606665422501068406
|tw9510669112568482486
|tw11917316159546247447
|tw5015127170315649048
|tw17832341036129719320
|tw3879488300710406072
|tw5934274896414852409
|tw7563378709033505466
|tw13574027871373911227
|tw5313682390881946139
|tw5421857606069211003
|tw13495098573789260892
|tw17245930980992897212
|tw17311127110654479772
|tw12927250328391541308
|tw2976070006733178812
|tw4435334688052759548
|tw9189002760501334173
|tw3459426680746283293
|tw8160798471216790941
|tw9434435690248722141
|tw11475283381982952317
|tw11606642655560071101
|tw2912237011570310334
|tw13845880906678555070
|tw323589267190061630
|tw12988978504962129534
|tw18290713142273299294
|tw16690681757520073375
|tw2523985582759155359
open PySem PySem.W PyProof.Rows
set_option maxRecDepth 100000 in
set_option maxHeartbeats 0 in
theorem PySem.Challenge.cw_leastform_k31_what_is_a_form_holds : PySem.Challenge.rw_leastform_k31_what_is_a_form.Holds := by
 w_on; o_law; k_head; (case hw => w_witness2)
 k_fill
 refine My.walk (l := PySem.Challenge.rw_leastform_k31_what_is_a_form) rfl rfl (fun w h Y => PySem.W.kIn_of Y) ?F
 case F =>
  intro w mg fa h KX G hmg
  refine' My.all_mk KX G hmg (L2.has_mk KX G ?a0 ?l0 ?c0 ?k0) (L2.has_mk KX G ?a1 ?l1 ?c1 ?k1) (L2.has_mk KX G ?a2 ?l2 ?c2 ?k2) (L2.has_mk KX G ?a3 ?l3 ?c3 ?k3) (L2.has_mk KX G ?a4 ?l4 ?c4 ?k4) (L2.has_mk KX G ?a5 ?l5 ?c5 ?k5) (L2.has_mk KX G ?a6 ?l6 ?c6 ?k6) (L2.has_mk KX G ?a7 ?l7 ?c7 ?k7) (L2.has_mk KX G ?a8 ?l8 ?c8 ?k8) (L2.has_mk KX G ?a9 ?l9 ?c9 ?k9) (L2.has_mk KX G ?a10 ?l10 ?c10 ?k10) (L2.has_mk KX G ?a11 ?l11 ?c11 ?k11) (L2.has_mk KX G ?a12 ?l12 ?c12 ?k12) (L2.has_mk KX G ?a13 ?l13 ?c13 ?k13) (L2.has_mk KX G ?a14 ?l14 ?c14 ?k14) (L2.has_mk KX G ?a15 ?l15 ?c15 ?k15) (L2.has_mk KX G ?a16 ?l16 ?c16 ?k16) (L2.has_mk KX G ?a17 ?l17 ?c17 ?k17) (L2.has_mk KX G ?a18 ?l18 ?c18 ?k18) (L2.has_mk KX G ?a19 ?l19 ?c19 ?k19) (L2.has_mk KX G ?a20 ?l20 ?c20 ?k20) (L2.has_mk KX G ?a21 ?l21 ?c21 ?k21) (L2.has_mk KX G ?a22 ?l22 ?c22 ?k22) (L2.has_mk KX G ?a23 ?l23 ?c23 ?k23) (L2.has_mk KX G ?a24 ?l24 ?c24 ?k24) (L2.has_mk KX G ?a25 ?l25 ?c25 ?k25) (L2.has_mk KX G ?a26 ?l26 ?c26 ?k26) (L2.has_mk KX G ?a27 ?l27 ?c27 ?k27) (L2.has_mk KX G ?a28 ?l28 ?c28 ?k28) (L2.has_mk KX G ?a29 ?l29 ?c29 ?k29) (L2.has_mk KX G ?a30 ?l30 ?c30 ?k30) (L2.has_mk KX G ?a31 ?l31 ?c31 ?k31) (L2.has_mk KX G ?a32 ?l32 ?c32 ?k32) (L2.has_mk KX G ?a33 ?l33 ?c33 ?k33) (L2.has_mk KX G ?a34 ?l34 ?c34 ?k34) (L2.has_mk KX G ?a35 ?l35 ?c35 ?k35) (L2.has_mk KX G ?a36 ?l36 ?c36 ?k36) (L2.has_mk KX G ?a37 ?l37 ?c37 ?k37) ?a38 ?l38 ?c38 ?k38 ?z0 ?z1 ?z2 ?z3 ?z4 ?z5 ?z6 ?z7 ?z8 ?z9 ?z10 ?z11 ?z12 ?z13 ?z14 ?z15 ?z16 ?z17 ?z18 ?aS ?lS ?aM ?lM ?aP ?lP ?aPC ?aF ?aMF ?aK ?lK ?zo
  any_goals k_is
