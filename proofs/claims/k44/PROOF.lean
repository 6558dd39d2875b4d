import PyProof.Rows.All
import Wide.All
import OpenK.AllK
import Wide.FinOn
import Lean
import PyProof.EqAt
import PyProof.EqKinds
import PyProof.TupleCall
import PyProof.NeKinds
import PyProof.IsiTupleOf
import PyProof.IsiHeapPairs
import PyProof.IsiPairs
import PyProof.ConsumeWalk
import PyProof.Rows.SumAny
import PyProof.FitsBits
import PyProof.Rows.SeqMore
import PyProof.ZipIter
import PyProof.TupleIter
import PyProof.LongRange
import PyProof.Rows.Range3
import PyProof.Rows.SortWalk
import PyProof.Rows.SortStr
import PyProof.StrWalks
import PyProof.DictRoads
import PyProof.MeetsStr
import PyProof.Rows.StrNews2
import PyProof.StrLawsIn
import PyProof.StrLaws
import PyProof.Rows.CatFin
import PyProof.Rows.StrClose5
import PyProof.SetKind
import PyProof.CollectWalk
import PyProof.Seq
import PyProof.ForAny
import PyProof.MakeMany
import PyProof.DictKinds
import PyProof.Rows.StrInSeq
import PyProof.WalkLemmas
import PyProof.Rows.SortShell
import PyProof.Rows.SetFrom
import PyProof.StrOps2
import PyProof.ReprNest
import PyProof.CallFns
import PyProof.StrLawsRepr
import PyProof.FString5
import OpenK.KOwn
import KE.KIsAll
import PyProof.ExcArgsOwn
import KE.RegKIsAll
import PyProof.DictIter
import PyProof.DictItems
import PyProof.DictItemsLoops
import PyProof.DictWalks
import KE.KDictList
import KE.KMinKey
import PyProof.ListRange
import PyProof.Rows.CallKwBuiltin
import KE.KDictOf
import PyProof.AttrMissHeap
import PyProof.EnumMake
import PyProof.EnumFor
import PyProof.Rows.RuleB_bool
import KE.KEqDict
import PyProof.StrCalls6
import PyProof.StrLawsReplace
import PyProof.Rows.FStr
import PyProof.Rows.StrJoin2
import PyProof.WalksMore
import PyProof.TupleOfStr
import KE.KUnpack
import PyProof.MaxThree
import KE.KSortTup
import PyProof.MeetsSeq2
import PyProof.FactsAll.set_2
import PyProof.FactsAll.subtypes_5
import PySem.Challenge.RW_leastform_k44_six_texts_and_eight_names
set_option Elab.async false
set_option linter.all false
set_option maxRecDepth 100000
set_option maxHeartbeats 4000000
def qa_:=@PySem.wpAny_bind
def qb_:=@PySem.wpAny_pure
def qc_:=@List.length_map
def qd_:=@PySem.Heap.get?_push_of_some
def qe_:=@Nat.le_refl
def qf_:=@PySem.Heap.lt_size
def qg_:=@List.mem_map
def qh_:=@List.length_append
def qi_:=@Nat.le_trans
def qj_:=@PySem.Heap.get?_push_size
def qk_:=@List.getElem?_eq_getElem
def ql_:=@Bool.false_ne_true
def qm_:=@Nat.ne_of_lt
def qn_:=@PySem.boot_len
def qo_:=@List.size_toArray
def qp_:=@List.mem_append
def qq_:=@List.mem_append_right
def qr_:=@Array.getElem?_toList
def qs_:=@PySem.wpAny_setState_of
def qt_:=@Array.length_toList
def qu_:=@Nat.zero_le
def qv_:=@List.getElem?_map
def qw_:=@List.getElem?_eq_some_iff
def qx_:=@PySem.Heap.size_push
def qy_:=@List.mem_cons
def qz_:=@List.mem_of_getElem?
def qA_:=@List.map_map
def qB_:=@List.mem_append_left
def qC_:=@PySem.wpAny_holding
def qD_:=@PySem.PassesOwn.never
def qE_:=@Nat.ne_of_gt
def qF_:=@List.map_cons
def qG_:=@List.map_append
def qH_:=@decide_eq_false
def qI_:=@List.length_cons
def qJ_:=@PySem.wpAny_call_entry
def qK_:=@List.filterMap_cons
def qL_:=@List.filterMap_append
def qM_:=@PySem.W.mg_none_of
def qN_:=@List.append_nil
def qO_:=@List.length_take
def qP_:=@Array.getElem?_eq_getElem
def qQ_:=@List.any_eq_true
def qR_:=@PySem.wpAny_newObj_type
def qS_:=@decide_eq_true
def qT_:=@Nat.lt_of_lt_of_le
def qU_:=@PySem.Heap.get?_update_self
def qV_:=@List.getD_eq_getElem?_getD
def qW_:=@List.mem_singleton
def qX_:=@PySem.wpAny_setField_rec
def qY_:=@PySem.codeAny_builtin
def qZ_:=@Nat.le_of_lt
def qa1_:=@List.not_lt
def qb1_:=@List.mem_cons_of_mem
def qc1_:=@List.mem_filterMap
def qd1_:=@List.take_length
def qe1_:=@of_decide_eq_true
def qf1_:=@Nat.lt_irrefl
def qg1_:=@Option.map_eq_some_iff
def qh1_:=@PySem.Around.under_plainId
def qi1_:=@List.mem_cons_self
def qj1_:=@List.getElem?_set_self
def qk1_:=@Nat.lt_succ_of_lt
def ql1_:=@List.nil_append
def qm1_:=@List.getElem?_set_ne
def qn1_:=@List.replicate_succ
def qo1_:=@List.flatten_cons
def qp1_:=@Nat.le_succ
def qq1_:=@Nat.lt_trans
def qr1_:=@List.take_add_one
def qs1_:=@List.mem_flatMap
def qt1_:=@List.mem_flatten
def qu1_:=@List.mem_range
def qv1_:=@List.length_set
def qw1_:=@List.foldl_cons
def qx1_:=@Nat.mul_comm
def qy1_:=@Bool.eq_iff_iff
def qz1_:=@Int.dvd_zero
def qA1_:=@List.append_assoc
def qB1_:=@List.any_cons
def qC1_:=@Int.emod_lt_of_pos
def qD1_:=@Int.emod_nonneg
def qE1_:=@Int.dvd_sub
def qF1_:=@List.exists_mem_of_ne_nil
def qG1_:=@List.getElem?_append_right
def qH1_:=@List.getElem?_append_left
def qI1_:=@List.length_drop
def qJ1_:=@PySem.Heap.get?_update_other
def qK1_:=@List.all_eq_true
def qL1_:=@List.getElem_mem
def qM1_:=@List.eq_nil_of_length_eq_zero
def qN1_:=@List.nodup_nil
def qO1_:=@List.length_pos_iff
def qP1_:=@Nat.mul_le_mul_right
def qQ1_:=@List.nodup_cons
def qR1_:=@Bool.and_eq_true
def qS1_:=@List.length_singleton
def qT1_:=@List.getElem?_eq_none
def qU1_:=@List.find?_cons
def qV1_:=@Int.le_refl
def qW1_:=@Int.dvd_trans
def qX1_:=@List.perm_ext_iff_of_nodup
def qY1_:=@List.eq_nil_iff_forall_not_mem
def qZ1_:=@List.cons_append
def qa2_:=@List.append_eq_nil_iff
def qb2_:=@List.filterMap_eq_nil_iff
def qc2_:=@List.mem_of_mem_take
def qd2_:=@List.mem_filter
def qe2_:=@List.getElem?_replicate
def qf2_:=@List.length_replicate
def qg2_:=@List.take_of_length_le
def qh2_:=@Nat.not_lt
def qi2_:=@Array.getElem?_eq_none
def qj2_:=@List.length_range
def qk2_:=@Nat.lt_succ_self
def ql2_:=@List.drop_zero
def qm2_:=@Int.dvd_add
def qn2_:=@Int.sub_self
def qo2_:=@Nat.pow_succ
def qp2_:=@List.any_append
def qq2_:=@List.length_filterMap_le
def qr2_:=@List.filterMap_map
def qs2_:=@List.map_nil
def qt2_:=@Bool.or_false
def qu2_:=@Nat.lt_of_le_of_lt
def qv2_:=@List.getElem?_drop
def qw2_:=@List.range_succ_eq_map
def qx2_:=@List.map_congr_left
def qy2_:=@List.nodup_append
def qz2_:=@Array.toArray_toList
def qA2_:=@Nat.lt_or_eq_of_le
def qB2_:=@List.mem_iff_getElem
def qC2_:=@List.drop_eq_getElem_cons
def qD2_:=@List.take_append_drop
def qE2_:=@Bool.and_false
def qF2_:=@Nat.one_le_pow
def qG2_:=@Nat.mul_assoc
def qH2_:=@List.map_eq_nil_iff
def qI2_:=@List.pairwise_map
def qJ2_:=@Nat.mod_lt
def qK2_:=@List.ext_getElem?
def qL2_:=@List.foldl_append
def qM2_:=@List.le_refl
def qN2_:=@List.le_trans
def qO2_:=@Bool.false_or
def qP2_:=@List.drop_length
def qQ2_:=@List.sizeOf_lt_of_mem
def qR2_:=@List.take_succ_eq_append_getElem
def qS2_:=@Int.dvd_refl
def qT2_:=@Int.dvd_mul_right
def qU2_:=@Array.size_map
def qV2_:=@List.cons_lt_cons_iff
def qW2_:=@List.flatMap_append
def qX2_:=@List.flatten_append
def qY2_:=@Nat.le_mul_of_pos_right
def qZ2_:=@List.of_mem_zip
def qa3_:=@Nat.min_le_right
def qb3_:=@List.reverse_cons
def qc3_:=@List.length_reverse
def qd3_:=@Option.isSome_map
def qe3_:=@List.take_zero
def qf3_:=@List.lt_irrefl
def qg3_:=@List.find?_some
def qh3_:=@Nat.not_lt_zero
def qi3_:=@List.find?_eq_none
def qj3_:=@List.length_filter_le
def qk3_:=@Int.fdiv_eq_ediv_of_nonneg
def ql3_:=@List.eraseIdxIfInBounds_toArray
def qm3_:=@List.length_eraseIdx_of_lt
def qn3_:=@List.findIdx?_eq_none_iff
def qo3_:=@Array.getElem?_eq_some_iff
def qp3_:=@List.mem_of_find?_eq_some
def qq3_:=@Array.getD_eq_getD_getElem?
def qr3_:=@Int.mul_le_mul_of_nonneg_left
namespace L2
open PySem PySem.Spec PyProof.Rows
abbrev Key:=Sum Int Str
def jR:Key->Value->Bool
 |.inl k,v=>Value.isInt k v
 |.inr x,v=>Value.isStrOf x v
def zK6(w:World):Key->Int
 |.inl k=>hashInt k
 |.inr x=>hashStr w x
theorem gE:∀{k:Key}{v:Value},jR k v=true->(∃i t,k=Sum.inl i/\v=Value.int i t)\/(∃x t,k=Sum.inr x/\v=Value.str x t)
 |.inl i,v,h=>by
  obtain⟨t,e⟩:=Value.isInt_shape (k:=i) (v:=v) h
  exact .inl ⟨i,t,rfl,e⟩
 |.inr x,v,h=>by
  obtain⟨t,e⟩:=Value.isStrOf_shape (x:=x) (v:=v) h
  exact .inr ⟨x,t,rfl,e⟩
theorem zEY(i:Int)(t:Tok):jR (.inl i) (.int i t)=true:=by simp[jR,Value.isInt]
theorem zEX(x:Str)(t:Tok):jR (.inr x) (.str x t)=true:=by simp[jR,Value.isStrOf]
theorem zI7(a b:Int):decide ((Sum.inl a:Key)=Sum.inl b)=(a==b):=by
 by_cases e:a=b
 ·subst e;simp
 ·have h:¬ (Sum.inl a:Key)=Sum.inl b:=λq=>e (Sum.inl.inj q)
  rw[qH_ h]
  exact(beq_eq_false_iff_ne.mpr e).symm
theorem zI4(a b:Str):decide ((Sum.inr a:Key)=Sum.inr b)=decide (a=b):=by
 by_cases e:a=b
 ·subst e;simp
 ·have h:¬ (Sum.inr a:Key)=Sum.inr b:=λq=>e (Sum.inr.inj q)
  rw[qH_ h,qH_ e]
theorem zI6(a:Int)(b:Str):decide ((Sum.inl a:Key)=Sum.inr b)=false:=qH_ (λq=>nomatch q)
theorem zI5(a:Str)(b:Int):decide ((Sum.inr a:Key)=Sum.inl b)=false:=qH_ (λq=>nomatch q)
def bN(prog:Program)(w:World):PySem.KeyKind prog w Key where
 is:=jR
 hash:=zK6 w
 inj:=λv a b ha hb=>by
  rcases gE ha with⟨i,t,rfl,rfl⟩|⟨x,t,rfl,rfl⟩
  ·rcases gE hb with⟨j,u,rfl,e⟩|⟨y,u,rfl,e⟩
   ·injection e with e1 _;rw[e1]
   ·exact nomatch e
  ·rcases gE hb with⟨j,u,rfl,e⟩|⟨y,u,rfl,e⟩
   ·exact nomatch e
   ·injection e with e1 _;rw[e1]
 byValue:=λk v h=>by
  rcases gE h with⟨i,t,rfl,rfl⟩|⟨x,t,rfl,rfl⟩<;>rfl
 pyHash:=λhv h=>by
  rcases gE hv with⟨i,t,rfl,rfl⟩|⟨x,t,rfl,rfl⟩
  ·exact wpAny_pyHash_int h
  ·exact wpAny_pyHash_str h
 eqBool:=λhu hv h=>by
  rcases gE hu with⟨i,t,rfl,rfl⟩|⟨x,t,rfl,rfl⟩
  ·rcases gE hv with⟨j,u,rfl,rfl⟩|⟨y,u,rfl,rfl⟩
   ·rw[zI7]at h;exact wpAny_eqBool_int h
   ·rw[zI6]at h;exact SeqAt.EqAt.int_str i t y u _ _ _ _ h
  ·rcases gE hv with⟨j,u,rfl,rfl⟩|⟨y,u,rfl,rfl⟩
   ·rw[zI5]at h;exact SeqAt.EqAt.str_int x t j u _ _ _ _ h
   ·rw[zI4]at h;exact wpAny_eqBool_str h
 «strs»:=λk x t v h=>by
  rcases gE h with⟨i,u,rfl,e⟩|⟨y,u,rfl,e⟩
  ·exact nomatch e
  ·injection e with e1 _
   subst e1
   cases v<;>rfl
theorem zDN(prog:Program)(w:World)(i:Int)(t:Tok):(bN prog w).is (.inl i) (.int i t)=true:=zEY i t
theorem pL(prog:Program)(w:World)(x:Str)(t:Tok):(bN prog w).is (.inr x) (.str x t)=true:=zEX x t
end L2
namespace L2
open PySem PySem.Spec PyProof.Rows
inductive V where
 |non|bl (b:Bool)|int (i:Int)|str (x:Str)|byt (b:Array UInt8)|flt (b:UInt64)|ref (a:Addr)|ty (n:String)
 deriving DecidableEq
def RelV:V->Value->Prop
 |.non,u=>u=Value.none
 |.bl b,u=>u=Value.bool b
 |.int i,u=>∃t,u=Value.int i t
 |.str x,u=>∃t,u=Value.str x t
 |.byt b,u=>∃t,u=Value.bytes b t
 |.flt b,u=>∃t,u=Value.float b t
 |.ref a,u=>u=Value.ref a
 |.ty n,u=>u=Value.type n
abbrev Vals:List V->List Value->Prop:=Paired RelV
theorem Vals.length{xs:List V}{us:List Value}(r:Vals xs us):xs.length=us.length:=Paired.length r
theorem Vals.get:∀{xs:List V}{us:List Value}{i:Nat}{x:V},Vals xs us->xs[i]?=some x->∃u,us[i]?=some u/\RelV x u
 |_,_,_,_,.nil,e=>by simp at e
 |_,_,0,_,.cons r _,e=>by simp at e;subst e;exact⟨_,rfl,r⟩
 |_,_,i+1,x,.cons _ t,e=>by
  obtain⟨u,h1,h2⟩:=Vals.get (i:=i) (x:=x) t (by simpa using e)
  exact⟨u,by simpa using h1,h2⟩
theorem Vals.set{x:V}{u:Value}(r:RelV x u):∀{xs:List V}{us:List Value}(i:Nat),Vals xs us->Vals (xs.set i x) (us.set i u)
 |_,_,_,.nil=>.nil
 |_,_,0,.cons _ t=>.cons r t
 |_,_,i+1,.cons q t=>.cons q (Vals.set r i t)
theorem Vals.append:∀{xs ys:List V}{us ws:List Value},Vals xs us->Vals ys ws->Vals (xs++ys) (us++ws)
 |_,_,_,_,.nil,s=>s
 |_,_,_,_,.cons r t,s=>.cons r (Vals.append t s)
theorem Vals.take:∀{xs:List V}{us:List Value}(n:Nat),Vals xs us->Vals (xs.take n) (us.take n)
 |_,_,0,_=>.nil
 |_,_,_+1,.nil=>.nil
 |_,_,n+1,.cons r t=>.cons r (Vals.take n t)
theorem Vals.drop:∀{xs:List V}{us:List Value}(n:Nat),Vals xs us->Vals (xs.drop n) (us.drop n)
 |_,_,0,r=>r
 |_,_,_+1,.nil=>.nil
 |_,_,n+1,.cons _ t=>Vals.drop n t
def RelO:Option V->Option Value->Prop
 |some v,some u=>RelV v u
 |none,none=>True
 |_,_=>False
def KV{κ:Type}:List (κ×V)->List (κ×Value)->Prop:=Paired λ(p:κ×V) (q:κ×Value)=>p.1=q.1/\RelV p.2 q.2
def kV:Key->V
 |.inl i=>.int i
 |.inr x=>.str x
inductive HO where
 /-- a list -/
 |lst (xs:List V)
 /-- a tuple (never changes) -/
 |tup (xs:List V)
 /-- a dict whose keys are ints and texts; one whose keys are tuples of ints and texts (the empty one is both) -/
 |dK (kvs:List (Key×V))|dT (kvs:List (List Key×V))
 /-- a set of ints: its members, its size -/
 |set (S:Int->Bool) (n:Nat)
 /-- an instance of the class at C, its dict at dx, its attributes -/
 |ins (C dx:Addr) (fs:List (Str×V))
 /-- the dict of the instance at x -/
 |own (x:Addr)
 /-- the dict of an exception -/
 |xd (fs:List (Str×V))
 /-- a bound method, f of x -/
 |met (f x:Addr)
 /-- a range object lo, lo + 1, .. below hi -/
 |rng (lo hi:Int)
 /-- a thing that is known to the object (the script; a dict while a loop walks it): read, never written while it is so -/
 |frz (o:Obj) (u:HO)
 /-- a code object's table -/
 |tbl (ps:Array Value)
 /-- any other thing, by what is true of its one object (a def of one's own: SetO a S n := HO.ext fun h => ..) -/
 |ext (φ:Heap->Prop)
abbrev Hp:=Addr->Option HO
def upd(H:Hp)(a:Addr)(o:HO):Hp:=λb=>if b=a then some o else H b
theorem aZ{H:Hp}{a:Addr}{o:HO}:upd H a o a=some o:=by unfold upd;rw[if_pos rfl]
theorem bL{H:Hp}{a b:Addr}{o:HO}(h:b≠a):upd H a o b=H b:=by unfold upd;rw[if_neg h]
theorem zJ8{H:Hp}{a b:Addr}{o u:HO}(h:H a=some o)(h':H b=some u)(d:o≠u):a≠b:=by
 intro e;subst e;rw[h]at h';exact d (Option.some.inj h')
theorem dR{H:Hp}{a b:Addr}{o:HO}(h:H a=some o)(h':H b=none):a≠b:=by
 intro e;subst e;rw[h]at h';cases h'
section
variable(P:Program)(w:World)
def ObjOk(H:Hp)(h:Heap)(a:Addr):HO->Prop
 |.lst xs=>xs.length<=sizeLine/\∃(its:List Value) (n:Nat),Vals xs its/\h.get? a=some {cls:=.type "list",data:=.seq its.toArray n}
 |.tup xs=>xs.length<=sizeLine/\∃its:List Value,Vals xs its/\IsTup h a its.toArray
 |.dK kvs=>kvs.length<=sizeLine/\(a==sysModules)=false/\∃vs,KV kvs vs/\h.DictOf (bN P w) a vs
 |.dT kvs=>kvs.length<=sizeLine/\(a==sysModules)=false/\∃xs:List (List Key×Addr×Value),
   Paired (λ(p:List Key×V) (q:List Key×Addr×Value)=>p.1=q.1/\H q.2.1=some (.tup (p.1.map kV))/\RelV p.2 q.2.2) kvs xs /\
   ∃o es ep,h.get? a=some o/\o.ExactDict/\o.data=.dict es ep/\es.toList=xs.map (entryOfKey (tupleKind (bN P w)))/\(xs.map (·.1)).Nodup
 |.set S n=>h.SetOf (intKind P w) a S n
 |.ins C dx fs=>H dx=some (.own a)/\fs.length<=1000/\dx≠a/\h.get? a=some (PySem.W.instObj C dx) /\
   ∃mA,h.Ns1 dx mA/\(∀f,RelO (fs.lookup f) (mA f))/\PySem.Within mA (fs.map (·.1))
 |.own _=>∃o,h.get? a=some o
 |.xd fs=>∃mA,h.Ns1 a mA/\∀f,RelO (fs.lookup f) (mA f)
 |.rng lo hi=>∃t u v,h.get? a=some {cls:=.type "range",data:=.fields #[.int lo t,.int hi u,.int 1 v]}
 |.frz o u=>h.get? a=some o/\ObjOk H h a u
 |.tbl ps=>h.get? a=some {cls:=.none,data:=.fields ps}
 |.met f x=>h.get? a=some (PySem.W.methodObj (.ref f) (.ref x))
 |.ext φ=>φ h/\(∃o,h.get? a=some o)/\∀h1 h2:Heap,φ h1->(∀o,h1.get? a=some o->h2.get? a=some o)->φ h2
def HOk(H:Hp)(h:Heap):Prop:=∀a o,H a=some o->ObjOk P w H h a o
end
section
variable{P:Program}{w:World}{H H':Hp}{h h':Heap}{a:Addr}{o:HO}
theorem ObjOk.lt(x:ObjOk P w H h a o):a<h.objs.size:=by
 cases o with
 |lst xs=>obtain⟨_,_,_,_,e⟩:=x;exact qf_ e
 |tup xs=>obtain⟨_,_,_,p⟩:=x;exact p.lt
 |dK kvs=>obtain⟨_,_,_,_,o,_,_,e,_⟩:=x;exact qf_ e
 |dT kvs=>obtain⟨_,_,_,_,o,_,_,e,_⟩:=x;exact qf_ e
 |set S n=>obtain⟨o,_,_,_,e,_⟩:=x;exact qf_ e
 |ins C dx fs=>obtain⟨_,_,_,e,_⟩:=x;exact qf_ e
 |own y=>obtain⟨_,e⟩:=x;exact qf_ e
 |xd fs=>obtain⟨_,⟨_,_,_,e,_⟩,_⟩:=x;exact qf_ e
 |rng lo hi=>obtain⟨_,_,_,e⟩:=x;exact qf_ e
 |frz ob u=>obtain⟨e,_⟩:=x;exact qf_ e
 |tbl ps=>exact qf_ (show h.get? a=some _ from x)
 |met f y=>exact qf_ (show h.get? a=some _ from x)
 |ext φ=>obtain⟨_,⟨_,e⟩,_⟩:=x;exact qf_ e
theorem Paired.mapP{α β:Type}{F G:α->β->Prop}:∀{l₁:List α}{l₂:List β},Paired F l₁ l₂->(∀a b,F a b->G a b)->Paired G l₁ l₂
 |_,_,.nil,_=>.nil
 |_,_,.cons r t,f=>.cons (f _ _ r) (Paired.mapP t f)
theorem ObjOk.stay(x:ObjOk P w H h a o)(k:∀b u,(b=a\/H b=some (.own a))->h.get? b=some u->h'.get? b=some u)
  (ho:∀b,H b=some (.own a)->H' b=some (.own a)) (ht:∀b xs,H b=some (.tup xs)->H' b=some (.tup xs)):ObjOk P w H' h' a o:=by
 induction o with
 |lst xs=>obtain⟨z,its,n,r,e⟩:=x;exact⟨z,its,n,r,k _ _ (.inl rfl) e⟩
 |tup xs=>obtain⟨z,its,r,ob,e,c⟩:=x;exact⟨z,its,r,ob,k _ _ (.inl rfl) e,c⟩
 |dK kvs=>obtain⟨z,y,vs,r,ob,es,ep,e,c⟩:=x;exact⟨z,y,vs,r,ob,es,ep,k _ _ (.inl rfl) e,c⟩
 |dT kvs=>
  obtain⟨z,y,xs,r,ob,es,ep,e,c⟩:=x
  exact⟨z,y,xs,Paired.mapP r λp q z=>⟨z.1,ht _ _ z.2.1,z.2.2⟩,ob,es,ep,k _ _ (.inl rfl) e,c⟩
 |set S n=>obtain⟨ob,es,ep,t,e,c⟩:=x;exact⟨ob,es,ep,t,k _ _ (.inl rfl) e,c⟩
 |ins C dx fs=>
  obtain⟨d,z,ne,e,mA,⟨od,es,ep,e2,c⟩,r⟩:=x
  exact⟨ho _ d,z,ne,k _ _ (.inl rfl) e,mA,⟨od,es,ep,k _ _ (.inr d) e2,c⟩,r⟩
 |own y=>obtain⟨ob,e⟩:=x;exact⟨ob,k _ _ (.inl rfl) e⟩
 |xd fs=>obtain⟨mA,⟨od,es,ep,e,c⟩,r⟩:=x;exact⟨mA,⟨od,es,ep,k _ _ (.inl rfl) e,c⟩,r⟩
 |rng lo hi=>obtain⟨t,u,v,e⟩:=x;exact⟨t,u,v,k _ _ (.inl rfl) e⟩
 |frz ob u ih=>obtain⟨e,q⟩:=x;exact⟨k _ _ (.inl rfl) e,ih q⟩
 |tbl ps=>
  have e:h.get? a=some {cls:=.none,data:=.fields ps}:=x
  show h'.get? a=some {cls:=.none,data:=.fields ps}
  exact k a _ (.inl rfl) e
 |met f y=>
  have e:h.get? a=some (PySem.W.methodObj (.ref f) (.ref y)):=x
  show h'.get? a=some (PySem.W.methodObj (.ref f) (.ref y))
  exact k a _ (.inl rfl) e
 |ext φ=>obtain⟨p,⟨o,e⟩,st⟩:=x;exact⟨st _ _ p λo q=>k _ _ (.inl rfl) q,⟨o,k _ _ (.inl rfl) e⟩,st⟩
theorem HOk.lt(x:HOk P w H h)(e:H a=some o):a<h.objs.size:=(x a o e).lt
theorem HOk.fresh(x:HOk P w H h)(e:h.objs.size<=a):H a=none:=by
 cases q:H a with
 |none=>rfl
 |some u=>exact absurd (qT_ (x.lt q) e) (qf1_ _)
theorem HOk.kept(x:HOk P w H h)(k:∀b u,h.get? b=some u->h'.get? b=some u):HOk P w H h':=λa o e=>
 (x a o e).stay (λb u _ q=>k b u q) (λ_ q=>q) λ_ _ q=>q
theorem HOk.laid(x:HOk P w H h)(k:∀b u,h.get? b=some u->h'.get? b=some u)(hp:h.objs.size<=a)(new:ObjOk P w (upd H a o) h' a o):HOk P w (upd H a o) h':=λb u e=>by
 have hn:=x.fresh hp
 by_cases hb:b=a
 ·subst hb;rw[aZ]at e;cases e;exact new
 ·rw[bL hb]at e
  exact(x b u e).stay (λc v _ q=>k c v q) (λc q=>by rw[bL (dR q hn)];exact q) λc xs q=>by rw[bL (dR q hn)];exact q
end
def Rd(H:Hp)(a:Addr)(u:HO):Prop:=H a=some u\/∃o,H a=some (.frz o u)
theorem Rd.ok{P:Program}{w:World}{H:Hp}{h:Heap}{a:Addr}{u:HO}(r:Rd H a u)(x:HOk P w H h):ObjOk P w H h a u:=by
 rcases r with r|⟨o,r⟩
 ·exact x a u r
 ·obtain⟨_,q⟩:=x a _ r
  exact q
def Mut:Option HO->Prop
 |some (.lst _)=>True
 |some (.dK _)=>True
 |some (.dT _)=>True
 |some (.set _ _)=>True
 |some (.ins _ _ _)=>True
 |some (.ext _)=>True
 |_=>False
section
variable{P:Program}{w:World}{H:Hp}{h h':Heap}{x e:Addr}{o':HO}
theorem HOk.write(ok:HOk P w H h)(mu:Mut (H x))(he:e=x\/H e=some (.own x))(k:∀b u,b≠e->h.get? b=some u->h'.get? b=some u)(heo:∃u,h'.get? e=some u)
  (new:ObjOk P w (upd H x o') h' x o'):HOk P w (upd H x o') h':=λb u q=>by
 have nown:∀c y,H c=some (.own y)->c≠x:=λc y r z=>by subst z;rw[r]at mu;exact mu
 have ntup:∀c xs,H c=some (.tup xs)->c≠x:=λc xs r z=>by subst z;rw[r]at mu;exact mu
 by_cases hb:b=x
 ·subst hb;rw[aZ]at q;cases q;exact new
 ·rw[bL hb]at q
  by_cases hbe:b=e
  ·have q':H b=some (.own x):=by
    rcases he with z|z
    ·exact absurd (hbe.trans z) hb
    ·rw[hbe];exact z
   rw[q]at q';cases q'
   obtain⟨v,hv⟩:=heo
   exact⟨v,by rw[hbe];exact hv⟩
  ·refine(ok b u q).stay (λc v hc r=>k c v ?_ r) (λc r=>by rw[bL (nown c b r)];exact r) λc xs r=>by rw[bL (ntup c xs r)];exact r
   rcases hc with rfl|hc
   ·exact hbe
   ·rintro rfl
    rcases he with z|z
    ·exact nown c b hc z
    ·rw[hc]at z;cases z;exact hb rfl
end
structure Un (fs ex:List Addr) (H H':Hp) (h h':Heap):Prop where
 keep:∀b o,h.get? b=some o->H b=none->b∉fs->b∉ex->h'.get? b=some o
 slot:∀b o,h.get? b=some o->H b=none->b∈fs->b∉ex->∃sl,h'.get? b=some {o with slots:=sl}
 free:∀b o,h.get? b=some o->H b=none->b∉ex->H' b=none
 there:∀b o,h.get? b=some o->b∉ex->∃o',h'.get? b=some o'
 tups:∀b xs,H b=some (.tup xs)->H' b=some (.tup xs)
 frzs:∀b o u,H b=some (.frz o u)->H' b=some (.frz o u)
 tbls:∀b ps,H b=some (.tbl ps)->∃more,H' b=some (.tbl (ps++more))
section
variable{fs fs' ex ex':List Addr}{H H1 H2:Hp}{h h1 h2 h':Heap}{a x e:Addr}{o:HO}
theorem Un.any(u:Un fs ex H H1 h h1){b:Addr}{ob:Obj}(q:h.get? b=some ob)(n:H b=none)(hx:b∉ex):∃sl,h1.get? b=some {ob with slots:=sl}:=by
 by_cases hb:b∈fs
 ·exact u.slot b ob q n hb hx
 ·exact⟨ob.slots,u.keep b ob q n hb hx⟩
theorem Un.kept(k:∀b u,h.get? b=some u->h'.get? b=some u):Un fs ex H H h h':=
 ⟨λb ob q _ _ _=>k b ob q,λb ob q _ _ _=>⟨ob.slots,k b ob q⟩,λ_ _ _ n _=>n,λb ob q _=>⟨ob,k b ob q⟩,λ_ _ q=>q,λ_ _ _ q=>q,λ_ ps q=>⟨#[],by rw[q];simp⟩⟩
theorem Un.refl:Un fs ex H H h h:=Un.kept λ_ _ q=>q
theorem Un.laid(k:∀b u,h.get? b=some u->h'.get? b=some u)(hp:h.objs.size<=a)(hn:H a=none):Un fs ex H (upd H a o) h h' where
 keep:=λb u q _ _ _=>k b u q
 slot:=λb u q _ _ _=>⟨u.slots,k b u q⟩
 free:=λb u q n _=>by rw[bL (qm_ (qT_ (qf_ q) hp))];exact n
 there:=λb u q _=>⟨u,k b u q⟩
 tups:=λb xs q=>by rw[bL (dR q hn)];exact q
 frzs:=λb u xs q=>by rw[bL (dR q hn)];exact q
 tbls:=λb ps q=>⟨#[],by rw[bL (dR q hn),q];simp⟩
theorem Un.write(mu:Mut (H x))(he:e=x\/H e=some (.own x))(k:∀b u,b≠e->h.get? b=some u->h'.get? b=some u)(heo:∃u,h'.get? e=some u):Un fs ex H (upd H x o) h h':=by
 have hx:∀b,H b=none->b≠x:=λb n z=>by subst z;rw[n]at mu;exact mu
 have hb:∀b,H b=none->b≠e:=λb n z=>by
  subst z
  rcases he with r|r
  ·exact hx b n r
  ·rw[n]at r;cases r
 have hm:∀b u,H b=some u->¬ Mut (some u)->b≠x:=λb u q nm z=>by subst z;rw[q]at mu;exact nm mu
 refine⟨λb u q n _ _=>k b u (hb b n) q,λb u q n _ _=>⟨u.slots,k b u (hb b n) q⟩,λb u q n _=>by rw[bL (hx b n)];exact n,λb u q _=>?_,
  λb xs q=>by rw[bL (hm b _ q λz=>z)];exact q,λb u xs q=>by rw[bL (hm b _ q λz=>z)];exact q,λb ps q=>⟨#[],by rw[bL (hm b _ q λz=>z),q];simp⟩⟩
 by_cases hbe:b=e
 ·subst hbe;exact heo
 ·exact⟨u,k b u hbe q⟩
end
def trk(h:Heap)(H:Hp):List Addr:=(List.range h.objs.size).filter λa=>(H a).isSome
def jD(h:Heap)(H:Hp):Heap:=PySem.W.hideAll h (trk h H)
theorem zE2(h:Heap)(H:Hp):(jD h H).objs.size=h.objs.size:=PySem.W.hideAll_size _ _
theorem zGb{h:Heap}{H:Hp}{b:Addr}{o:Obj}(e:h.get? b=some o)(n:H b=none):(jD h H).get? b=some o:=
 PySem.W.hideAll_get _ e λhm=>by
  have q:(H b).isSome=true:=(qd2_.mp hm).2
  rw[n]at q;simp at q
theorem zHh{h:Heap}{H:Hp}{b:Addr}{o:Obj}(e:(jD h H).get? b=some o):h.get? b=some o/\H b=none:=by
 have e':h.get? b=some o:=PySem.W.of_hideAll (trk h H) e
 refine⟨e',?_⟩
 cases q:H b with
 |none=>rfl
 |some x=>
  have hm:b∈trk h H:=qd2_.mpr ⟨qu1_.mpr (qf_ e'),by simp[q]⟩
  have z:(jD h H).get? b=none:=PySem.W.hideAll_none (trk h H) hm
  rw[z]at e;cases e
end L2
namespace L2
open PySem PySem.Spec PyProof.Rows
structure Mod (K:W.Frag) (mg:Str->Option Value) (base:Heap):Prop where
 kin:K.In base
 glob:base.Ns mainGlobals mg
 blt:∃mb,base.Ns builtinsNs mb/\∀x:Str,x≠"__name__"->mb x=bootBuiltins x
 nolimit:base.NoLimit
structure Cx where
 prog:Program
 w:World
 K:W.Frag
 mg:Str->Option Value
 base:Heap
 A:Around
 N:List Str
 s₀:Shared
 H₀:Hp
 env:Env
 outer:List Env
 stack:List Env
 ex:List Addr
 fn:Str->Bool
 calm:Bool
 pn:List (Addr×Obj)
 xe:Value->Shared->Prop
def frs(l:List Env):List Addr:=l.filterMap (·.frame)
abbrev Cx.fs(X:Cx):List Addr:=frs X.outer
def Vis(sc:Scope)(x:Str):Prop:=sc.names.lookup x=some .local\/sc.names.lookup x=some .cell\/sc.names.lookup x=some .free
def Loc(sc:Scope)(x:Str):Prop:=sc.names.lookup x=some .local\/sc.names.lookup x=some .cell
def zLQ(env:Env)(h:Heap)(m:Str->Option Value)(x:Str)(u:Value):Prop:=
 (env.kindOf x=some .local/\m x=some u)\/((env.kindOf x=some .cell\/env.kindOf x=some .free)/\∃c,env.cells.lookup x=some c/\h.IsCell c (some u))
structure Cx.Ok (X:Cx):Prop where
 mod:Mod X.K X.mg X.base
 kind:X.env.scope.kind=.function
 glob:X.env.globals=mainGlobals
 blt:X.env.builtins=builtinsNs
 above:X.s₀.heap.objs.size<=X.env.locals
 inj:∀x y c,X.env.cells.lookup x=some c->X.env.cells.lookup y=some c->x=y
 has:∀x,(X.env.kindOf x=some .cell\/X.env.kindOf x=some .free)->∃c,X.env.cells.lookup x=some c
 cab:∀x c,X.fn x=true->X.env.cells.lookup x=some c->X.s₀.heap.objs.size<=c
 hd:X.calm=true->X.A.handled=none
 frames:X.A.frames=some X.stack
 stk:X.stack=X.outer\/(X.stack=X.env::X.outer/\X.env.frame=some X.env.locals)
 exf:∀b∈X.ex,b≠X.env.locals/\∀x c,X.env.cells.lookup x=some c->c≠b
 bs:∀b o,X.base.get? b=some o->X.s₀.heap.get? b=some o/\X.H₀ b=none
 bsz:X.base.objs.size<=X.s₀.heap.objs.size
 noex:∀b o,X.base.get? b=some o->b∉X.ex
 exfs:∀b∈X.ex,b∉X.fs
 funs:X.s₀.heap.FunFrames X.base X.outer
 frf:∀b∈X.fs,X.H₀ b=none
structure Inv (X:Cx) (pins:List (Addr×Obj)) (σ:List (Option V)) (H:Hp) (s:Shared):Prop where
 ok:X.Ok
 os:s.os=X.s₀.os
 bare:AllBare s.gens
 base:Un X.fs X.ex X.H₀ H X.s₀.heap s.heap
 loc:∃m,s.heap.Ns X.env.locals m/\∀(i:Nat) (x:Str) (v:V),X.N[i]?=some x->σ[i]?=some (some v)->Vis X.env.scope x->∃u,RelV v u/\zLQ X.env s.heap m x u
 cell:∀x c,X.env.cells.lookup x=some c->∃v,s.heap.IsCell c v
 free:H X.env.locals=none
 freeC:∀x c,X.env.cells.lookup x=some c->H c=none
 pin:∀p∈X.pn++pins,s.heap.get? p.1=some p.2/\H p.1=none/\p.1≠X.env.locals/\p.1∉X.fs/\∀v,p.2.data≠.cell v
 hok:HOk X.prog X.w H s.heap
 len:σ.length=X.N.length
section
variable{X:Cx}{pins:List (Addr×Obj)}{σ:List (Option V)}{H H':Hp}{s:Shared}{h':Heap}
theorem Cx.Ok.nofr(ok:X.Ok){b:Addr}{o:Obj}(e:X.base.get? b=some o):b∉X.fs:=λhb=>by
 have:=(ok.funs.mem hb).1
 rw[e]at this;cases this
theorem Inv.bs(I:Inv X pins σ H s):∀b o,X.base.get? b=some o->s.heap.get? b=some o/\H b=none:=λb o e=>
 ⟨I.base.keep b o (I.ok.bs b o e).1 (I.ok.bs b o e).2 (I.ok.nofr e) (I.ok.noex b o e),I.base.free b o (I.ok.bs b o e).1 (I.ok.bs b o e).2 (I.ok.noex b o e)⟩
theorem Inv.bk(I:Inv X pins σ H s):∀b o,X.base.get? b=some o->s.heap.get? b=some o:=λb o e=>(I.bs b o e).1
theorem Inv.mod(I:Inv X pins σ H s):Mod X.K X.mg X.base:=I.ok.mod
theorem Inv.kIn(I:Inv X pins σ H s):X.K.In s.heap:=I.ok.mod.kin.keeps I.bk
theorem Inv.lt(I:Inv X pins σ H s):X.env.locals<s.heap.objs.size:=let ⟨_,hn,_⟩:=I.loc;hn.lt
theorem Inv.sz(I:Inv X pins σ H s):X.s₀.heap.objs.size<=s.heap.objs.size:=qi_ I.ok.above (qZ_ I.lt)
theorem Inv.nofs(I:Inv X pins σ H s){a:Addr}(h:s.heap.objs.size<=a):a∉X.fs:=λhb=>by
 obtain⟨_,o,ho,_⟩:=I.ok.funs.mem hb
 exact absurd (qT_ (qf_ ho) (qi_ I.sz h)) (qf1_ _)
theorem Inv.cne(I:Inv X pins σ H s):∀x c,X.env.cells.lookup x=some c->c≠X.env.locals:=λx c e z=>by
 obtain⟨v,o,ho,hd⟩:=I.cell x c e
 obtain⟨m,⟨o',es,ep,ho',hd',_⟩,_⟩:=I.loc
 rw[z,ho']at ho;cases ho;rw[hd']at hd;cases hd
theorem Inv.funs(I:Inv X pins σ H s):s.heap.FunFrames X.base X.outer:=by
 have all:∀(l:List Env),(∀b∈frs l,b∈X.fs)->X.s₀.heap.FunFrames X.base l->s.heap.FunFrames X.base l:=by
  intro l
  induction l with
  |nil=>intro _ _;trivial
  |cons env r ih=>
   intro hs hl
   obtain⟨hk,⟨L,o,hf,hn,ho,hd⟩,hr⟩:=hl
   have hL:L∈X.fs:=hs L (by unfold frs;rw[qK_,hf];exact qi1_)
   obtain⟨sl,e⟩:=I.base.slot L o ho (I.ok.frf L hL) hL λz=>I.ok.exfs L z hL
   exact⟨hk,⟨L,_,hf,hn,e,hd⟩,ih (λb hb=>hs b (by unfold frs;rw[qK_,hf];exact qb1_ _ hb)) hr⟩
 exact all X.outer (λ_ hb=>hb) I.ok.funs
theorem Inv.stack(I:Inv X pins σ H s):s.heap.FunFrames X.base X.stack:=by
 rcases I.ok.stk with e|⟨e,hf⟩
 ·rw[e];exact I.funs
 ·rw[e]
  obtain⟨m,hn,_⟩:=I.loc
  refine .cons (by rw[I.ok.kind];decide) hf hn ?_ I.funs
  exact Heap.get?_none_of_le (qi_ I.ok.bsz I.ok.above)
theorem Inv.stkSub(I:Inv X pins σ H s):∀b∈frs X.stack,b∈X.env.locals::X.fs:=λb hb=>by
 rcases I.ok.stk with e|⟨e,hf⟩
 ·rw[e]at hb;exact qb1_ _ hb
 ·rw[e]at hb
  unfold frs at hb
  rw[qK_,hf]at hb
  exact hb
theorem Inv.stkFree(I:Inv X pins σ H s):∀b∈frs X.stack,H b=none:=λb hb=>by
 rcases qy_.mp (I.stkSub b hb) with e|hb
 ·rw[e];exact I.free
 ·obtain⟨_,o,ho,_⟩:=I.ok.funs.mem hb
  exact I.base.free b o ho (I.ok.frf b hb) λz=>I.ok.exfs b z hb
theorem Inv.step{g':Array GenState}{t':Nat}{d':Drawn}{ch:List Addr}(I:Inv X pins σ H s)
  (hch:∀b∈ch,(b∈X.ex\/X.s₀.heap.objs.size<=b)/\b≠X.env.locals/\(∀x c,X.env.cells.lookup x=some c->c≠b)/\∀p∈X.pn++pins,p.1≠b)
  (keep:∀b o,b≠X.env.locals->b∉X.fs->b∉ch->s.heap.get? b=some o->H b=none->h'.get? b=some o)
  (slot:∀b o,b≠X.env.locals->b∈X.fs->b∉ch->s.heap.get? b=some o->H b=none->∃sl,h'.get? b=some {o with slots:=sl}) (free:∀b o,b∉ch->s.heap.get? b=some o->H b=none->H' b=none)
  (there:∀b o,b∉ch->s.heap.get? b=some o->∃o',h'.get? b=some o')
  (tups:∀b xs,H b=some (.tup xs)->H' b=some (.tup xs)) (frzs:∀b o u,H b=some (.frz o u)->H' b=some (.frz o u)) (tbls:∀b ps,H b=some (.tbl ps)->∃more,H' b=some (.tbl (ps++more)))
  (ns:∀m,s.heap.Ns X.env.locals m->h'.Ns X.env.locals m) (hok:HOk X.prog X.w H' h') (hg:AllBare g'):
  Inv X pins σ H' {s with heap:=h',gens:=g',drawn:=d',toks:=t'}:=by
 have neL:∀b o,X.s₀.heap.get? b=some o->b≠X.env.locals:=λb o e=>qm_ (qT_ (qf_ e) I.ok.above)
 have neC:∀b o,X.s₀.heap.get? b=some o->b∉X.ex->b∉ch:=λb o e hx hb=>by
  rcases (hch b hb).1 with z|z
  ·exact hx z
  ·exact absurd (qT_ (qf_ e) z) (qf1_ _)
 have cellK:∀x c,X.env.cells.lookup x=some c->∀v,s.heap.IsCell c v->h'.IsCell c v:=λx c e v ⟨o,ho,hd⟩=>by
  have nch:c∉ch:=λz=>(hch c z).2.2.1 x c e rfl
  by_cases hc:c∈X.fs
  ·obtain⟨sl,q⟩:=slot c o (I.cne x c e) hc nch ho (I.freeC x c e)
   exact⟨_,q,hd⟩
  ·exact⟨o,keep c o (I.cne x c e) hc nch ho (I.freeC x c e),hd⟩
 refine⟨I.ok,I.os,hg,⟨λb o e n hb hx=>?_,λb o e n hb hx=>?_,λb o e n hx=>?_,λb o e hx=>?_,λb xs e=>tups b xs (I.base.tups b xs e),λb o xs e=>frzs b o xs (I.base.frzs b o xs e),λb ps e=>?_⟩,?_,λx c e=>?_,?_,λx c e=>?_,λp hp=>?_,hok,I.len⟩
 ·exact keep b o (neL b o e) hb (neC b o e hx) (I.base.keep b o e n hb hx) (I.base.free b o e n hx)
 ·obtain⟨sl,e1⟩:=I.base.slot b o e n hb hx
  obtain⟨sl',e2⟩:=slot b _ (neL b o e) hb (neC b o e hx) e1 (I.base.free b o e n hx)
  exact⟨sl',e2⟩
 ·obtain⟨o',e1⟩:=I.base.there b o e hx
  exact free b o' (neC b o e hx) e1 (I.base.free b o e n hx)
 ·obtain⟨o',e1⟩:=I.base.there b o e hx
  exact there b o' (neC b o e hx) e1
 ·obtain⟨m1,e1⟩:=I.base.tbls b ps e
  obtain⟨m2,e2⟩:=tbls b _ e1
  exact⟨m1++m2,by rw[e2,Array.append_assoc]⟩
 ·obtain⟨m,hn,hl⟩:=I.loc
  refine⟨m,ns m hn,λi x v e1 e2 e3=>?_⟩
  obtain⟨u,r,l⟩:=hl i x v e1 e2 e3
  refine⟨u,r,?_⟩
  rcases l with l|⟨k,c,e,z⟩
  ·exact .inl l
  ·exact .inr ⟨k,c,e,cellK x c e _ z⟩
 ·obtain⟨v,z⟩:=I.cell x c e
  exact⟨v,cellK x c e v z⟩
 ·obtain⟨m,⟨o,_,_,ho,_⟩,_⟩:=I.loc
  exact free _ o (λz=>(hch _ z).2.1 rfl) ho I.free
 ·obtain⟨v,o,ho,hd⟩:=I.cell x c e
  exact free c o (λz=>(hch c z).2.2.1 x c e rfl) ho (I.freeC x c e)
 ·obtain⟨e,n,ne,nf,d⟩:=I.pin p hp
  have nch:p.1∉ch:=λz=>(hch p.1 z).2.2.2 p hp rfl
  exact⟨keep p.1 p.2 ne nf nch e n,free p.1 p.2 nch e n,ne,nf,d⟩
theorem Inv.un{t':Nat}(I:Inv X pins σ H s)(u:Un X.fs [] H H' s.heap h')(hok:HOk X.prog X.w H' h'):Inv X pins σ H' {s with heap:=h',toks:=t'}:=by
 obtain⟨m,⟨o,es,ep,ho,r⟩,_⟩:=id I.loc
 obtain⟨sl,hL⟩:=u.any ho I.free (by simp)
 exact I.step (g':=s.gens) (d':=s.drawn) (ch:=[]) (λ_ z=>nomatch z) (λb o _ hb _ e n=>u.keep b o e n hb (by simp)) (λb o _ hb _ e n=>u.slot b o e n hb (by simp)) (λb o _ e n=>u.free b o e n (by simp)) (λb o _ e=>u.there b o e (by simp)) u.tups u.frzs u.tbls (λm' hm=>by
  obtain⟨o',es',ep',ho',r'⟩:=hm
  rw[ho]at ho';cases ho'
  exact⟨_,es',ep',hL,r'⟩) hok I.bare
theorem Inv.call{g':Array GenState}{t':Nat}{d':Drawn}{ch:List Addr}(I:Inv X pins σ H s)(u:Un (frs X.stack) ch H H' s.heap h')(hok:HOk X.prog X.w H' h')(hg:AllBare g')
  (hch:∀b∈ch,(b∈X.ex\/X.s₀.heap.objs.size<=b)/\b≠X.env.locals/\(∀x c,X.env.cells.lookup x=some c->c≠b)/\∀p∈X.pn++pins,p.1≠b):
  Inv X pins σ H' {s with heap:=h',gens:=g',drawn:=d',toks:=t'}:=by
 obtain⟨m,⟨o,es,ep,ho,r⟩,_⟩:=id I.loc
 obtain⟨sl,hL⟩:=u.any ho I.free λz=>(hch _ z).2.1 rfl
 exact I.step (ch:=ch) hch (λb o hL hb hc e n=>u.keep b o e n (λz=>(qy_.mp (I.stkSub b z)).elim hL hb) hc) (λb o _ _ hc e n=>u.any e n hc) (λb o hc e n=>u.free b o e n hc) (λb o hc e=>u.there b o e hc) u.tups u.frzs u.tbls (λm' hm=>by
  obtain⟨o',es',ep',ho',r'⟩:=hm
  rw[ho]at ho';cases ho'
  exact⟨_,es',ep',hL,r'⟩) hok hg
theorem Inv.turned{t':Nat}{it:Addr}(I:Inv X pins σ H s)(k:∀b o,b≠it->s.heap.get? b=some o->h'.get? b=some o)(hn:H it=none)(hL:it≠X.env.locals)
  (h1:it∈X.ex\/X.s₀.heap.objs.size<=it) (h2:∀x c,X.env.cells.lookup x=some c->c≠it) (h3:∀p∈X.pn++pins,p.1≠it):Inv X pins σ H {s with heap:=h',toks:=t'}:=by
 have nit:∀b u,H b=some u->b≠it:=λb u e z=>by rw[z,hn]at e;cases e
 refine I.step (g':=s.gens) (d':=s.drawn) (ch:=[it]) (λb hb=>?_) (λb o _ _ hc e _=>k b o (λz=>hc (by simp[z])) e) (λb o _ _ hc e _=>⟨o.slots,k b o (λz=>hc (by simp[z])) e⟩) (λ_ _ _ _ n=>n)
  (λb o hc e=>⟨o,k b o (λz=>hc (by simp[z])) e⟩) (λ_ _ e=>e) (λ_ _ _ e=>e) (λb ps e=>⟨#[],by rw[e];simp⟩) (λm hm=>?_) (λb u e=>?_) I.bare
 ·have e:b=it:=by simpa using hb
  subst e
  exact⟨h1,hL,h2,h3⟩
 ·obtain⟨o,es,ep,ho,r⟩:=hm
  exact⟨o,es,ep,k _ o (Ne.symm hL) ho,r⟩
 ·refine(I.hok b u e).stay (λc v hc q=>k c v ?_ q) (λ_ q=>q) λ_ _ q=>q
  rcases hc with z|z
  ·rw[z];exact nit b u e
  ·exact nit c _ z
theorem Inv.tok(I:Inv X pins σ H s)(t:Nat):Inv X pins σ H {s with toks:=t}:=I.un (h':=s.heap) (t':=t) Un.refl I.hok
theorem Inv.kept{t':Nat}(I:Inv X pins σ H s)(k:∀b u,s.heap.get? b=some u->h'.get? b=some u):Inv X pins σ H {s with heap:=h',toks:=t'}:=I.un (Un.kept k) (I.hok.kept k)
theorem Inv.laid{a:Addr}{o:HO}{t':Nat}(I:Inv X pins σ H s)(k:∀b u,s.heap.get? b=some u->h'.get? b=some u)(hp:s.heap.objs.size<=a)(new:ObjOk X.prog X.w (upd H a o) h' a o):
  Inv X pins σ (upd H a o) {s with heap:=h',toks:=t'}:=I.un (Un.laid k hp (I.hok.fresh hp)) (I.hok.laid k hp new)
theorem Inv.write{x e:Addr}{o:HO}{t':Nat}(I:Inv X pins σ H s)(mu:Mut (H x))(he:e=x\/H e=some (.own x))(k:∀b u,b≠e->s.heap.get? b=some u->h'.get? b=some u)(heo:∃u,h'.get? e=some u)
  (new:ObjOk X.prog X.w (upd H x o) h' x o):Inv X pins σ (upd H x o) {s with heap:=h',toks:=t'}:=I.un (Un.write mu he k heo) (I.hok.write mu he k heo new)
theorem Inv.weak{σ':List (Option V)}(I:Inv X pins σ H s)(hl:σ'.length=σ.length)(w:∀(i:Nat) v,σ'[i]?=some (some v)->σ[i]?=some (some v)):Inv X pins σ' H s:=
 ⟨I.ok,I.os,I.bare,I.base,let ⟨m,hn,hl'⟩:=I.loc;⟨m,hn,λi x v e1 e2 e3=>hl' i x v e1 (w i v e2) e3⟩,I.cell,I.free,I.freeC,I.pin,I.hok,hl.trans I.len⟩
theorem Inv.pins_of{pins':List (Addr×Obj)}(I:Inv X pins σ H s)(h:∀p∈pins',s.heap.get? p.1=some p.2/\H p.1=none/\p.1≠X.env.locals/\p.1∉X.fs/\∀v,p.2.data≠.cell v):Inv X pins' σ H s:=
 ⟨I.ok,I.os,I.bare,I.base,I.loc,I.cell,I.free,I.freeC,λp hp=>(qp_.mp hp).elim (λz=>I.pin p (qB_ _ z)) (h p),I.hok,I.len⟩
theorem zAS{N:List Str}(hN:N.Nodup){i j:Nat}{x:Str}(a:N[i]?=some x)(b:N[j]?=some x):i=j:=by
 obtain⟨h1,e1⟩:=qw_.mp a
 obtain⟨h2,e2⟩:=qw_.mp b
 exact(List.getElem_inj hN).mp (e1.trans e2.symm)
theorem zU{M:Model}{A:Around}{E:Value->Shared->Prop}{i:Nat}{x:Str}{v:V}{u:Value}{Q:Unit->Shared->Prop}(I:Inv X pins σ H s)(hN:X.N.Nodup)(hi:X.N[i]?=some x)(hx:Loc X.env.scope x)(r:RelV v u)
  (h:∀s',Inv X pins (σ.set i (some v)) H s'->(∃a,Heap.SameBut a s.heap s'.heap/\(a=X.env.locals\/X.env.cells.lookup x=some a))->Q () s') (hf:X.fn x=true\/X.env.scope.names.lookup x=some .local:=by first|exact .inl rfl|exact .inr rfl|assumption):wpAny M A (storeName X.env x u) Q E s:=by
 obtain⟨m,hn,hl⟩:=id I.loc
 have hcls:(X.env.scope.kind==.class || (X.env.scope.kind==.module&&X.env.locals != X.env.globals))=false:=by rw[I.ok.kind];rfl
 have hiσ:i<σ.length:=by rw[I.len];exact(qw_.mp hi).1
 have cne:=I.cne
 have tracked:∀{a:Addr} {h':Heap},(∃o,s.heap.get? a=some o/\H a=none)->Heap.SameBut a s.heap h'->HOk X.prog X.w H h':=λ{a h'} ha hs b ob e=>by
  obtain⟨_,_,hfree⟩:=ha
  refine(I.hok b ob e).stay (λc w' hc q=>(hs.2 c ?_).trans q) (λ_ q=>q) λ_ _ q=>q
  rintro rfl
  rcases hc with rfl|hc
  ·rw[hfree]at e;cases e
  ·rw[hfree]at hc;cases hc
 rcases hx with hk|hk
 ·refine wpAny_storeName_local hk hn (λh' hn' hs=>?_) hcls
  obtain⟨oL,_,_,hoL,_⟩:=id hn
  refine h _ ⟨I.ok,I.os,I.bare,⟨λb o e n hb hx=>?_,λb o e n hb hx=>?_,I.base.free,λb o e hx=>?_,I.base.tups,I.base.frzs,I.base.tbls⟩,⟨_,hn',λj y v' e1 e2 e3=>?_⟩,λy c e=>?_,I.free,I.freeC,λp hp=>?_,tracked ⟨oL,hoL,I.free⟩ hs,by simpa using I.len⟩ ⟨_,hs,.inl rfl⟩
  ·exact(hs.2 b (qm_ (qT_ (qf_ e) I.ok.above))).trans (I.base.keep b o e n hb hx)
  ·obtain⟨sl,e1⟩:=I.base.slot b o e n hb hx
   exact⟨sl,(hs.2 b (qm_ (qT_ (qf_ e) I.ok.above))).trans e1⟩
  ·obtain⟨o',e1⟩:=I.base.there b o e hx
   exact⟨o',(hs.2 b (qm_ (qT_ (qf_ e) I.ok.above))).trans e1⟩
  ·by_cases hj:j=i
   ·subst hj
    rw[hi]at e1;cases e1
    rw[qj1_ hiσ]at e2
    cases e2
    exact⟨u,r,.inl ⟨hk,by simp⟩⟩
   ·rw[qm1_ (Ne.symm hj)]at e2
    obtain⟨u',r',q⟩:=hl j y v' e1 e2 e3
    refine⟨u',r',?_⟩
    rcases q with⟨k,e⟩|⟨k,c,e,z⟩
    ·refine .inl ⟨k,?_⟩
     have:y≠x:=λe=>hj (zAS hN e1 (e▸hi))
     simp[this,e]
    ·exact .inr ⟨k,c,e,z.sameBut hs (cne y c e)⟩
  ·obtain⟨w',z⟩:=I.cell y c e
   exact⟨w',z.sameBut hs (cne y c e)⟩
  ·obtain⟨e,n,ne,nf,d⟩:=I.pin p hp
   exact⟨(hs.2 p.1 ne).trans e,n,ne,nf,d⟩
 ·have hfn:X.fn x=true:=by
   rcases hf with z|z
   ·exact z
   ·rw[z]at hk;cases hk
  obtain⟨c,hc⟩:=I.ok.has x (.inl hk)
  obtain⟨w',z⟩:=I.cell x c hc
  refine wpAny_storeName_cell I.ok.kind hk hc z (λh' hc' hs=>?_)
  obtain⟨oc,hoc,hocd⟩:=id z
  refine h {s with heap:=h'} ⟨I.ok,I.os,I.bare,⟨λb o e n hb hx=>?_,λb o e n hb hx=>?_,I.base.free,λb o e hx=>?_,I.base.tups,I.base.frzs,I.base.tbls⟩,⟨m,hn.sameBut hs (Ne.symm (cne x c hc)),λj y v' e1 e2 e3=>?_⟩,λy c' e=>?_,I.free,I.freeC,λp hp=>?_,tracked ⟨oc,hoc,I.freeC x c hc⟩ hs,by simpa using I.len⟩ ⟨c,hs,.inr hc⟩
  ·exact(hs.2 b (qm_ (qT_ (qf_ e) (I.ok.cab x c hfn hc)))).trans (I.base.keep b o e n hb hx)
  ·obtain⟨sl,e1⟩:=I.base.slot b o e n hb hx
   exact⟨sl,(hs.2 b (qm_ (qT_ (qf_ e) (I.ok.cab x c hfn hc)))).trans e1⟩
  ·obtain⟨o',e1⟩:=I.base.there b o e hx
   exact⟨o',(hs.2 b (qm_ (qT_ (qf_ e) (I.ok.cab x c hfn hc)))).trans e1⟩
  ·by_cases hj:j=i
   ·subst hj
    rw[hi]at e1;cases e1
    rw[qj1_ hiσ]at e2
    cases e2
    exact⟨u,r,.inr ⟨.inl hk,c,hc,hc'⟩⟩
   ·rw[qm1_ (Ne.symm hj)]at e2
    obtain⟨u',r',q⟩:=hl j y v' e1 e2 e3
    refine⟨u',r',?_⟩
    rcases q with q|⟨k,c',e,z'⟩
    ·exact .inl q
    ·refine .inr ⟨k,c',e,z'.sameBut hs ?_⟩
     rintro rfl
     exact hj (zAS hN e1 (I.ok.inj _ _ _ e hc▸hi))
  ·by_cases hcc:c'=c
   ·subst hcc;exact⟨_,hc'⟩
   ·obtain⟨w2,z2⟩:=I.cell y c' e
    exact⟨w2,z2.sameBut hs hcc⟩
  ·obtain⟨e,n,ne,nf,d⟩:=I.pin p hp
   refine⟨(hs.2 p.1 ?_).trans e,n,ne,nf,d⟩
   intro q
   rw[q,hoc]at e
   have q':oc=p.2:=Option.some.inj e
   exact d w' (by rw[<-q'];exact hocd)
theorem qG{M:Model}{A:Around}{E:Value->Shared->Prop}{i:Nat}{x:Str}{v:V}{u:Value}{Q:Unit->Shared->Prop}(I:Inv X pins σ H s)(hN:X.N.Nodup)(hi:X.N[i]?=some x)(hx:Loc X.env.scope x)(r:RelV v u)
  (h:∀s',Inv X pins (σ.set i (some v)) H s'->Q () s') (hf:X.fn x=true\/X.env.scope.names.lookup x=some .local:=by first|exact .inl rfl|exact .inr rfl|assumption):wpAny M A (storeName X.env x u) Q E s:=
 zU I hN hi hx r (λs' I' _=>h s' I') hf
theorem Inv.call'{s':Shared}{ch:List Addr}(I:Inv X pins σ H s)(ho:s'.os=s.os)(u:Un (frs X.stack) ch H H' s.heap s'.heap)(hok:HOk X.prog X.w H' s'.heap)(hg:AllBare s'.gens)
  (hch:∀b∈ch,(b∈X.ex\/X.s₀.heap.objs.size<=b)/\b≠X.env.locals/\(∀x c,X.env.cells.lookup x=some c->c≠b)/\∀p∈X.pn++pins,p.1≠b):Inv X pins σ H' s':=by
 obtain⟨h',g',d',t',o'⟩:=s'
 have e:o'=s.os:=ho
 subst e
 exact I.call (g':=g') (t':=t') (d':=d') u hok hg hch
end
abbrev XK:=Value->Option Addr->Hp->Prop
abbrev St:=List (Option V)
abbrev VK:=V->Hp->Prop
abbrev TE:=St->Hp->VK->Prop
abbrev TT:=St->Hp->(Bool->Hp->Prop)->Prop
abbrev TA:=St->Hp->(List V->Hp->Prop)->Prop
structure kS where
 nx:St->Hp->Prop
 rt:VK
 bk:St->Hp->Prop:=λ_ _=>False
 ct:St->Hp->Prop:=λ_ _=>False
abbrev TS:=kS->St->Hp->Prop
def EP(X:Cx)(pins:List (Addr×Obj))(σ:St)(Q:VK)(u:Value)(s':Shared):Prop:=∃v H',Inv X pins σ H' s'/\RelV v u/\Q v H'
def TP(X:Cx)(pins:List (Addr×Obj))(σ:St)(Q:Bool->Hp->Prop)(b:Bool)(s':Shared):Prop:=∃H',Inv X pins σ H' s'/\Q b H'
def AP(X:Cx)(pins:List (Addr×Obj))(σ:St)(Q:List V->Hp->Prop)(us:List Value)(s':Shared):Prop:=∃vs H',Inv X pins σ H' s'/\Vals vs us/\Q vs H'
def SP(X:Cx)(pins:List (Addr×Obj))(D:kS)(f:Flow)(s':Shared):Prop:=
 match f with
 |.next=>∃σ' H',Inv X pins σ' H' s'/\D.nx σ' H'
 |.brk=>∃σ' H',Inv X pins σ' H' s'/\D.bk σ' H'
 |.cont=>∃σ' H',Inv X pins σ' H' s'/\D.ct σ' H'
 |.ret u=>∃v σ' H',Inv X pins σ' H' s'/\RelV v u/\D.rt v H'
def PE(X:Cx)(e:Expr)(t:TE):Prop:=
 ∀(pins:List (Addr×Obj)) (s:Shared) (σ:St) (H:Hp) (Q:VK),Inv X pins σ H s->t σ H Q->wpAny (model X.prog X.w) X.A (eval e X.env) (EP X pins σ Q) X.xe s
def PT(X:Cx)(e:Expr)(t:TT):Prop:=
 ∀(pins:List (Addr×Obj)) (s:Shared) (σ:St) (H:Hp) (Q:Bool->Hp->Prop),Inv X pins σ H s->t σ H Q->wpAny (model X.prog X.w) X.A (isTrue e X.env (eval e X.env)) (TP X pins σ Q) X.xe s
def PW(X:Cx)(e:Expr)(t:TT):Prop:=
 ∀(whole:Sem Value) (pins:List (Addr×Obj)) (s:Shared) (σ:St) (H:Hp) (Q:Bool->Hp->Prop),Inv X pins σ H s->t σ H Q->wpAny (model X.prog X.w) X.A (isTrue e X.env whole) (TP X pins σ Q) X.xe s
theorem PW.pt{X:Cx}{e:Expr}{t:TT}(h:PW X e t):PT X e t:=h _
def PA(X:Cx)(es:List Expr)(t:TA):Prop:=
 ∀(pos:Pos) (pins:List (Addr×Obj)) (s:Shared) (σ:St) (H:Hp) (Q:List V->Hp->Prop),Inv X pins σ H s->t σ H Q->wpAny (model X.prog X.w) X.A (spliced (backTo pos (starEach es X.env))) (AP X pins σ Q) X.xe s
def PS(X:Cx)(st:Stmt)(t:TS):Prop:=
 ∀(pins:List (Addr×Obj)) (s:Shared) (σ:St) (H:Hp) (D:kS),Inv X pins σ H s->t D σ H->wpAny (model X.prog X.w) X.A (exec st X.env) (SP X pins D) X.xe s
def PSs(X:Cx)(st:List Stmt)(t:TS):Prop:=
 ∀(pins:List (Addr×Obj)) (s:Shared) (σ:St) (H:Hp) (D:kS),Inv X pins σ H s->t D σ H->wpAny (model X.prog X.w) X.A (execs st X.env) (SP X pins D) X.xe s
theorem thn{α:Type}{t:Sem α}{Q Q':α->Shared->Prop}{M:Model}{A:Around}{E:Value->Shared->Prop}{s:Shared}(h:wpAny M A t Q E s)(hQ:∀a s,Q a s->Q' a s):wpAny M A t Q' E s:=wpAny_mono h hQ λ_ _ x=>x
end L2
namespace L2
open PySem PySem.Spec PyProof.Rows
section
variable{X:Cx}
def zCW(i:Nat):TE:=λσ H Q=>∃v,σ[i]?=some (some v)/\Q v H
def tC(v:V):TE:=λ_ H Q=>Q v H
theorem kG{i:Nat}{x:Str}{pos:Pos}(hN:X.N[i]?=some x)(hv:Vis X.env.scope x)(hd:(x==("__debug__":Str))=false:=by decide)(hcd:(x==("__classdict__":Str))=false:=by decide):PE X (.Name x pos) (zCW i):=by
 intro pins s σ H Q I h
 obtain⟨v,e,h⟩:=h
 obtain⟨m,hn,hl⟩:=I.loc
 obtain⟨u,r,l⟩:=hl i x v hN e hv
 have fin:EP X pins σ Q u s:=⟨v,H,I,r,h⟩
 rcases l with⟨hk,hm⟩|⟨hk,c,hc,hcell⟩
 ·exact wpAny_Name (wpAny_loadName_local I.ok.kind hk hn hm fin) hd
 ·rcases hk with hk|hk
  ·exact wpAny_Name (wpAny_loadName_cell I.ok.kind hk hc hcell fin) hd
  ·exact wpAny_Name (wpAny_loadName_free I.ok.kind hk hc hcell fin hcd) hd
theorem cK{i j pos}:PE X (.Constant (.int i) j pos) (tC (.int i)):=λ_ _ _ H _ I h=>wpAny_Constant_int ⟨.int i,H,I.tok _,⟨_,rfl⟩,h⟩
theorem zJY{b j pos}:PE X (.Constant (.bool b) j pos) (tC (.bl b)):=λ_ _ _ H _ I h=>Constant_bool ⟨.bl b,H,I,rfl,h⟩
theorem zIJ{j pos}:PE X (.Constant .none j pos) (tC .non):=λ_ _ _ H _ I h=>Constant_none ⟨.non,H,I,rfl,h⟩
theorem zIG{x j pos}:PE X (.Constant (.str x) j pos) (tC (.str x)):=λ_ _ _ H _ I h=>Calls.Constant_str ⟨.str x,H,I.tok _,⟨_,rfl⟩,h⟩
def Gl(X:Cx)(x:Str):Prop:=X.env.kindOf x=some .globalImplicit
theorem vQ{E:Value->Shared->Prop}{pins:List (Addr×Obj)}{s:Shared}{σ:St}{H:Hp}{x:Str}{u:Value}{pos:Pos}{Q:Value->Shared->Prop}(I:Inv X pins σ H s)(hg:Gl X x)(hm:X.mg x=some u)(h:Q u s)
  (hd:(x==("__debug__":Str))=false:=by decide):wpAny (model X.prog X.w) X.A (eval (.Name x pos) X.env) Q E s:=
 Calls.Name_function_global I.ok.kind hg (Calls.loadGlobal_global (by rw[I.ok.glob];exact I.mod.glob.keeps I.bk) hm h) hd
theorem oF{E:Value->Shared->Prop}{pins:List (Addr×Obj)}{s:Shared}{σ:St}{H:Hp}{x:Str}{u:Value}{pos:Pos}{Q:Value->Shared->Prop}(I:Inv X pins σ H s)(hg:Gl X x)(hm:X.mg x=none)(hv:bootBuiltins x=some u)(h:Q u s)
  (hn:x≠"__name__":=by decide) (hd:(x==("__debug__":Str))=false:=by decide):wpAny (model X.prog X.w) X.A (eval (.Name x pos) X.env) Q E s:=by
 obtain⟨mb,h1,h2⟩:=I.mod.blt
 exact Calls.Name_function_global I.ok.kind hg (Calls.loadGlobal_builtin (by rw[I.ok.glob];exact I.mod.glob.keeps I.bk) hm (by rw[I.ok.blt];exact h1.keeps I.bk) ((h2 x hn).trans hv) h) hd
theorem zBE{x:Str}{v:V}{u:Value}{pos:Pos}(hg:Gl X x)(hm:X.mg x=some u)(r:RelV v u)(hd:(x==("__debug__":Str))=false:=by decide):PE X (.Name x pos) (tC v):=
 λ_ _ _ H _ I h=>vQ I hg hm ⟨v,H,I,r,h⟩ hd
theorem cI{x:Str}{v:V}{u:Value}{pos:Pos}(hg:Gl X x)(hm:X.mg x=none)(hv:bootBuiltins x=some u)(r:RelV v u)(hn:x≠"__name__":=by decide)(hd:(x==("__debug__":Str))=false:=by decide):PE X (.Name x pos) (tC v):=
 λ_ _ _ H _ I h=>oF I hg hm hv ⟨v,H,I,r,h⟩ hn hd
variable{a b:Expr}{ta tb:TE}{pos:Pos}
def tB(t:TE):TT:=λσ H Q=>t σ H λx H1=>∃c,x=.bl c/\Q c H1
theorem zIu{e:Expr}{t:TE}(h:PE X e t)(he:∀whole,isTrue e X.env whole=(do let v <- whole;standAt e.pos;holding [v] (truthy v)):=by intro _;rfl):PT X e (tB t):=by
 intro pins s σ H Q I hw
 refine isTrue_plain (thn (h pins s σ H _ I hw) λv s1 ⟨x,H1,I1,r1,q1⟩=>?_) (he _)
 obtain⟨d,rfl,q⟩:=q1
 cases r1
 exact wpAny_truthy_bool ⟨H1,I1,q⟩
variable{tA tB':TT}{rest:List Expr}
def zKJ(t u:TT):TT:=λσ H Q=>t σ H λc H1=>if c=true then u σ H1 Q else Q false H1
def tOr(t u:TT):TT:=λσ H Q=>t σ H λc H1=>if c=true then Q true H1 else u σ H1 Q
def zKF(t:TT):TT:=λσ H Q=>t σ H λc H1=>Q (!c) H1
theorem zGT(ha:PT X a tA):PW X (.BoolOp .And [a] pos) tA:=by
 intro wh pins s σ H Q I h
 refine isTrue_and (thn (ha pins s σ H Q I h) λc s1 e=>?_)
 cases c with
 |true=>exact isTrue_and_nil e
 |false=>exact e
theorem zIp(ha:PT X a tA):PW X (.BoolOp .Or [a] pos) tA:=by
 intro wh pins s σ H Q I h
 refine isTrue_or (thn (ha pins s σ H Q I h) λc s1 e=>?_)
 cases c with
 |false=>exact isTrue_or_nil e
 |true=>exact e
theorem zIq(ha:PT X a tA)(hb:PW X (.BoolOp .And (b::rest) pos) tB'):PW X (.BoolOp .And (a::b::rest) pos) (zKJ tA tB'):=by
 intro wh pins s σ H Q I h
 refine isTrue_and (thn (ha pins s σ H _ I h) λc s1 ⟨H1,I1,q1⟩=>?_)
 cases c with
 |true=>exact hb wh pins s1 σ H1 Q I1 q1
 |false=>exact⟨H1,I1,q1⟩
theorem zJU(ha:PT X a tA)(hb:PW X (.BoolOp .Or (b::rest) pos) tB'):PW X (.BoolOp .Or (a::b::rest) pos) (tOr tA tB'):=by
 intro wh pins s σ H Q I h
 refine isTrue_or (thn (ha pins s σ H _ I h) λc s1 ⟨H1,I1,q1⟩=>?_)
 cases c with
 |true=>exact⟨H1,I1,q1⟩
 |false=>exact hb wh pins s1 σ H1 Q I1 q1
theorem zIv(ha:PT X a tA):PT X (.UnaryOp .Not a pos) (zKF tA):=by
 intro pins s σ H Q I h
 exact isTrue_not (ha pins s σ H (λc H1=>Q (!c) H1) I h)
def zJF(ta tb:TE):TE:=λσ H Q=>ta σ H λx H1=>∃c,x=.bl c/\if c=true then tb σ H1 Q else Q (.bl false) H1
theorem zII{op}{t:TE}(h:PE X a t):PE X (.BoolOp op [a] pos) t:=λpins s σ H Q I hw=>BoolOp_one (h pins s σ H Q I hw)
theorem zIM(ha:PE X a ta)(hb:PE X (.BoolOp .And (b::rest) pos) tb):PE X (.BoolOp .And (a::b::rest) pos) (zJF ta tb):=by
 intro pins s σ H Q I h
 refine BoolOp_and (thn (ha pins s σ H _ I h) λv s1 ⟨x,H1,I1,r1,q1⟩=>?_)
 obtain⟨c,rfl,q1⟩:=q1
 cases r1
 refine wpAny_truthy_bool ?_
 cases c with
 |true=>exact hb pins s1 σ H1 Q I1 q1
 |false=>exact⟨.bl false,H1,I1,rfl,q1⟩
def tIf(t:TT)(ta tb:TE):TE:=λσ H Q=>t σ H λc H1=>if c=true then ta σ H1 Q else tb σ H1 Q
theorem zFS{c:Expr}(hc:PT X c tA)(ha:PE X a ta)(hb:PE X b tb):PE X (.IfExp c a b pos) (tIf tA ta tb):=by
 intro pins s σ H Q I h
 refine wpAny_IfExp (thn (hc pins s σ H _ I h) λd s1 ⟨H1,I1,q1⟩=>?_)
 cases d with
 |true=>exact ha pins s1 σ H1 Q I1 q1
 |false=>exact hb pins s1 σ H1 Q I1 q1
end
end L2
namespace L2
open PySem PySem.Spec PyProof.Rows
def SqL(K:W.Frag)(H:Hp)(a:Addr)(xs:List V):Prop:=
 Rd H a (.lst xs) \/
  ∃(o:Obj) (its:Array Value) (n:Nat),K.lookup a=some o/\o.cls=.type "list"/\o.dict=none/\o.data=.seq its n/\its.size<=sizeLine/\Vals xs its.toList
def SqT(K:W.Frag)(H:Hp)(a:Addr)(xs:List V):Prop:=
 Rd H a (.tup xs) \/
  ∃(o:Obj) (its:Array Value) (n:Nat),K.lookup a=some o/\o.cls=.type "tuple"/\o.data=.seq its n/\its.size<=sizeLine/\Vals xs its.toList
def zLN:Value->Option V
 |.none=>some .non
 |.bool b=>some (.bl b)
 |.int i _=>some (.int i)
 |.str x _=>some (.str x)
 |.bytes b _=>some (.byt b)
 |.float b _=>some (.flt b)
 |.ref a=>some (.ref a)
 |.type n=>some (.ty n)
 |_=>none
theorem RelV.abs{x:V}{u:Value}(r:RelV x u):zLN u=some x:=by
 cases x with
 |non=>cases r;rfl
 |bl _=>cases r;rfl
 |int _=>obtain⟨t,rfl⟩:=r;rfl
 |str _=>obtain⟨t,rfl⟩:=r;rfl
 |byt _=>obtain⟨t,rfl⟩:=r;rfl
 |flt _=>obtain⟨t,rfl⟩:=r;rfl
 |ref _=>cases r;rfl
 |ty _=>cases r;rfl
theorem RelV.inj{x y:V}{u:Value}(r:RelV x u)(q:RelV y u):x=y:=Option.some.inj (r.abs.symm.trans q.abs)
theorem Vals.inj:∀{xs ys:List V}{us:List Value},Vals xs us->Vals ys us->xs=ys
 |_,_,_,.nil,.nil=>rfl
 |_,_,_,.cons r t,.cons r' t'=>by rw[r.inj r',Vals.inj t t']
section
variable{X:Cx}{pins:List (Addr×Obj)}{σ:St}{H:Hp}{s:Shared}{a:Addr}{xs ys:List V}
theorem SqL.of{K:W.Frag}(h:H a=some (.lst xs)):SqL K H a xs:=.inl (.inl h)
theorem SqT.of{K:W.Frag}(h:H a=some (.tup xs)):SqT K H a xs:=.inl (.inl h)
theorem Inv.list(I:Inv X pins σ H s)(h:SqL X.K H a xs):∃its:List Value,Vals xs its/\PlainL s.heap a its.toArray/\xs.length<=sizeLine:=by
 rcases h with h|⟨o,its,n,hk,hc,hd,hs,hz,r⟩
 ·obtain⟨z,its,n,r,e⟩:=h.ok I.hok
  exact⟨its,r,⟨_,n,e,rfl,rfl,rfl⟩,z⟩
 ·refine⟨its.toList,r,⟨o,n,I.kIn a o hk,hc,hd,by simpa using hs⟩,?_⟩
  have e:=r.length
  simp only[Array.length_toList]at e
  omega
theorem Inv.tuple(I:Inv X pins σ H s)(h:SqT X.K H a xs):∃its:List Value,Vals xs its/\IsTup s.heap a its.toArray/\xs.length<=sizeLine:=by
 rcases h with h|⟨o,its,n,hk,hc,hs,hz,r⟩
 ·obtain⟨z,its,r,p⟩:=h.ok I.hok
  exact⟨its,r,p,z⟩
 ·refine⟨its.toList,r,⟨o,I.kIn a o hk,hc,n,by simpa using hs⟩,?_⟩
  have e:=r.length
  simp only[Array.length_toList]at e
  omega
theorem Inv.list_inj(I:Inv X pins σ H s)(h:SqL X.K H a xs)(h':SqL X.K H a ys):xs=ys:=by
 obtain⟨its,r,⟨o,n,e,_,_,d⟩,_⟩:=I.list h
 obtain⟨its',r',⟨o',n',e',_,_,d'⟩,_⟩:=I.list h'
 rw[e]at e';cases e'
 rw[d]at d'
 injection d' with d1 _
 have:its=its':=by simpa using congrArg Array.toList d1
 subst this
 exact r.inj r'
theorem Inv.tuple_inj(I:Inv X pins σ H s)(h:SqT X.K H a xs)(h':SqT X.K H a ys):xs=ys:=by
 obtain⟨its,r,⟨o,e,_,n,d⟩,_⟩:=I.tuple h
 obtain⟨its',r',⟨o',e',_,n',d'⟩,_⟩:=I.tuple h'
 rw[e]at e';cases e'
 rw[d]at d'
 injection d' with d1 _
 have:its=its':=by simpa using congrArg Array.toList d1
 subst this
 exact r.inj r'
end
abbrev Cx.wish(X:Cx)(E:Value->Shared->Prop):Cx:={X with xe:=E}
abbrev Cx.nox(X:Cx):Cx:=X.wish λ_ _=>False
theorem Cx.Ok.wish{X:Cx}(ok:X.Ok)(E:Value->Shared->Prop):(X.wish E).Ok:=
 ⟨ok.mod,ok.kind,ok.glob,ok.blt,ok.above,ok.inj,ok.has,ok.cab,ok.hd,ok.frames,ok.stk,ok.exf,ok.bs,ok.bsz,ok.noex,ok.exfs,ok.funs,ok.frf⟩
theorem Cx.Ok.unwish{X:Cx}{E:Value->Shared->Prop}(ok:(X.wish E).Ok):X.Ok:=
 ⟨ok.mod,ok.kind,ok.glob,ok.blt,ok.above,ok.inj,ok.has,ok.cab,ok.hd,ok.frames,ok.stk,ok.exf,ok.bs,ok.bsz,ok.noex,ok.exfs,ok.funs,ok.frf⟩
section
variable{X:Cx}{pins:List (Addr×Obj)}{σ:St}{H:Hp}{s:Shared}{E:Value->Shared->Prop}
theorem Inv.wish(I:Inv X pins σ H s)(E:Value->Shared->Prop):Inv (X.wish E) pins σ H s:=⟨I.ok.wish E,I.os,I.bare,I.base,I.loc,I.cell,I.free,I.freeC,I.pin,I.hok,I.len⟩
theorem Inv.unwish(I:Inv (X.wish E) pins σ H s):Inv X pins σ H s:=⟨I.ok.unwish,I.os,I.bare,I.base,I.loc,I.cell,I.free,I.freeC,I.pin,I.hok,I.len⟩
theorem SP.unwish{D:kS}{f:Flow}{s':Shared}(h:SP (X.wish E) pins D f s'):SP X pins D f s':=by
 cases f with
 |next=>obtain⟨σ',H',I,q⟩:=h;exact⟨σ',H',I.unwish,q⟩
 |brk=>obtain⟨σ',H',I,q⟩:=h;exact⟨σ',H',I.unwish,q⟩
 |cont=>obtain⟨σ',H',I,q⟩:=h;exact⟨σ',H',I.unwish,q⟩
 |ret u=>obtain⟨v,σ',H',I,r,q⟩:=h;exact⟨v,σ',H',I.unwish,r,q⟩
theorem PSs.nox{st:List Stmt}{t:TS}(h:PSs X.nox st t):PSs X st t:=λpins s σ H D I hw=>
 wpAny_mono (h pins s σ H D (I.wish _) hw) (λ_ _ q=>q.unwish) λ_ _ z=>False.elim z
end
section
variable{X:Cx}{st:Stmt}{rest:List Stmt}{t u:TS}{e:Expr}{te:TE}{pos:Pos}
def zJC:TS:=λD σ H=>D.nx σ H
def zKB(t u:TS):TS:=λD σ H=>t {D with nx:=u D} σ H
theorem vM:PSs X [] zJC:=λ_ _ σ H _ I h=>wpAny_execs_nil ⟨σ,H,I,h⟩
theorem gW(h1:PS X st t)(h2:PSs X rest u):PSs X (st::rest) (zKB t u):=by
 intro pins s σ H D I h
 refine wpAny_execs_cons (thn (h1 pins s σ H {D with nx:=u D} I h) λf s1 q=>?_)
 cases f with
 |next=>
  obtain⟨σ',H',I',q⟩:=q
  exact h2 pins s1 σ' H' D I' q
 |ret v=>exact q
 |brk=>exact q
 |cont=>exact q
theorem lH(h1:PS X st t):PSs X [st] t:=by
 intro pins s σ H D I h
 refine wpAny_execs_cons (thn (h1 pins s σ H D I h) λf s1 q=>?_)
 cases f with
 |next=>exact wpAny_execs_nil q
 |ret v=>exact q
 |brk=>exact q
 |cont=>exact q
theorem Inv.quiet{pins:List (Addr×Obj)}{σ:St}{H:Hp}{s:Shared}(I:Inv X pins σ H s):interactive X.env=false:=by simp[interactive,I.ok.kind]
def zJD(te:TE):TS:=λD σ H=>te σ H λ_ H1=>D.nx σ H1
theorem zBx(he:PE X e te)(hs:swapsWith e none pos.line X.env=pure false:=by rfl):PS X (.Expr e pos) (zJD te):=by
 intro pins s σ H D I h
 exact wpAny_Expr_any (thn (he pins s σ H _ I h) λv s1 ⟨x,H1,I1,r1,q1⟩=>⟨σ,H1,I1,q1⟩) I.quiet hs
def zKD(te:TE):TS:=λD σ H=>te σ H D.rt
theorem lR(he:PE X e te):PS X (.Return (some e) pos) (zKD te):=by
 intro pins s σ H D I h
 exact wpAny_Return_some (thn (he pins s σ H _ I h) λv s1 ⟨x,H1,I1,r1,q1⟩=>⟨x,σ,H1,I1,r1,q1⟩)
def zKG(c:TT)(t u:TS):TS:=λD σ H=>c σ H λb H1=>if b=true then t D σ H1 else u D σ H1
theorem wN{c:Expr}{a b:List Stmt}{tc:TT}(hc:PT X c tc)(ha:PSs X a t)(hb:PSs X b u):PS X (.If c a b pos) (zKG tc t u):=by
 intro pins s σ H D I h
 refine wpAny_If (thn (hc pins s σ H _ I h) λd s1 ⟨H1,I1,q1⟩=>?_)
 cases d with
 |true=>exact ha pins s1 σ H1 D I1 q1
 |false=>exact hb pins s1 σ H1 D I1 q1
def zH3:TS:=λ_ _ _=>False
theorem zEJ{sts:List Stmt}:PSs X sts zH3:=λ_ _ _ _ _ _ h=>h.elim
end
abbrev TG:=V->St->Hp->(St->Hp->Prop)->Prop
abbrev TGs:=List V->St->Hp->(St->Hp->Prop)->Prop
def PG(X:Cx)(target:Expr)(t:TG):Prop:=
 ∀(pins:List (Addr×Obj)) (s:Shared) (σ:St) (H:Hp) (v:V) (u:Value) (Q:St->Hp->Prop),Inv X pins σ H s->RelV v u->t v σ H Q ->
  wpAny (model X.prog X.w) X.A (assign target X.env u) (λ_ s'=>∃σ' H',Inv X pins σ' H' s'/\Q σ' H') X.xe s
def PGs(X:Cx)(ts:List Expr)(t:TGs):Prop:=
 ∀(pins:List (Addr×Obj)) (s:Shared) (σ:St) (H:Hp) (vs:List V) (us:List Value) (Q:St->Hp->Prop),Inv X pins σ H s->Vals vs us->t vs σ H Q ->
  wpAny (model X.prog X.w) X.A (assignInOrder ((assignEach ts X.env).map (·.2)) us) (λ_ s'=>∃σ' H',Inv X pins σ' H' s'/\Q σ' H') X.xe s
abbrev xV:=V->V->V->Hp->(Hp->Prop)->Prop
def zDl(X:Cx)(t:xV):Prop:=
 ∀(pins:List (Addr×Obj)) (s:Shared) (σ:St) (H:Hp) (o i v:V) (ov iv u:Value) (Q:Hp->Prop),Inv X pins σ H s->RelV o ov->RelV i iv->RelV v u->t o i v H Q ->
  wpAny (model X.prog X.w) X.A (setItem ov iv u) (λ_ s'=>∃H',Inv X pins σ H' s'/\Q H') X.xe s
section
variable{X:Cx}{pos:Pos}
def rY(i:Nat):TG:=λv σ H Q=>Q (σ.set i (some v)) H
theorem zG3{i:Nat}{x:Str}(hN:X.N.Nodup)(hi:X.N[i]?=some x)(hx:Loc X.env.scope x)(hf:X.fn x=true\/X.env.scope.names.lookup x=some .local:=by first|exact .inl rfl|exact .inr rfl|assumption):PG X (.Name x pos) (rY i):=by
 intro pins s σ H v u Q I r h
 exact wpAny_assign_Name (qG I hN hi hx r (λs' I'=>⟨_,H,I',h⟩) hf)
def zLb:TGs:=λvs σ H Q=>vs=[]/\Q σ H
def zKg(t:TG)(u:TGs):TGs:=λvs σ H Q=>∃v r,vs=v::r/\t v σ H λσ' H'=>u r σ' H' Q
theorem zG2:PGs X [] zLb:=by
 intro pins s σ H vs us Q I r h
 obtain⟨e,h⟩:=h
 subst e
 cases r
 exact assignInOrder_nil ⟨σ,H,I,h⟩
theorem zFQ{e:Expr}{es:List Expr}{t:TG}{u:TGs}(h1:PG X e t)(h2:PGs X es u)
  (hs:(assignEach (e::es) X.env).map (·.2)=assign e X.env::(assignEach es X.env).map (·.2):=by rfl):PGs X (e::es) (zKg t u):=by
 intro pins s σ H vs us Q I r h
 obtain⟨v,vr,e1,h⟩:=h
 subst e1
 cases r with
 |cons r rr=>
  rw[hs]
  refine assignInOrder_cons (thn (h1 pins s σ H _ _ _ I r h) λ_ s1 ⟨σ1,H1,I1,q1⟩=>?_)
  exact h2 pins s1 σ1 H1 _ _ Q I1 rr q1
def zK9(K:W.Frag)(n:Nat)(t:TGs):TG:=λv σ H Q=>∃a xs,v=.ref a/\SqT K H a xs/\xs.length=n/\t xs σ H Q
theorem zIB{es:List Expr}{k:Nat}{t:TGs}{n:Nat}(hc:X.calm=true)(h:PGs X es t)
  (hn:(assignEach es X.env).length=n:=by rfl) (hst:(assignEach es X.env).findIdx? (·.1)=none:=by rfl):PG X (.Tuple es k pos) (zK9 X.K n t):=by
 intro pins s σ H v u Q I r hw
 obtain⟨a,xs,e1,hq,hl,hw⟩:=hw
 subst e1
 cases r
 obtain⟨its,rv,ht,hz⟩:=I.tuple hq
 refine assign_Tuple_tuple (I.ok.hd hc) ht (by simp[hn,<-hl,rv.length]) hst λh' hx=>?_
 have I1:Inv X pins σ H {s with heap:=h'}:=I.kept (t':=s.toks) λb o e=>hx b o (qm_ (qf_ e)) e
 exact h pins _ σ H xs _ Q I1 (by simpa using rv) hw
def zLa(to ti:TE)(t:xV):TG:=λv σ H Q=>to σ H λo H1=>ti σ H1 λi H2=>t o i v H2 λH3=>Q σ H3
theorem zIC{o i:Expr}{to ti:TE}{t:xV}(ho:PE X o to)(hi:PE X i ti)(hs:zDl X t)
  (ha:∀v,assign (.Subscript o i pos) X.env v=(do
   let ov <- holding [v] (eval o X.env)
   let iv <- holding [v,ov] (eval i X.env)
   standAt pos
   holding [v,ov,iv] (setItem ov iv v)
   release [v,ov,iv] []):=by intro _;rfl):PG X (.Subscript o i pos) (zLa to ti t):=by
 intro pins s σ H v u Q I r h
 rw[ha]
 refine qa_ (qC_ (thn (ho pins s σ H _ I h) λov s1 ⟨x,H1,I1,r1,q1⟩=>?_))
 refine qa_ (qC_ (thn (hi pins s1 σ H1 _ I1 q1) λiv s2 ⟨y,H2,I2,r2,q2⟩=>?_))
 refine qa_ (wpAny_standAt (qa_ (qC_ (thn (hs pins s2 σ H2 x y v ov iv u _ I2 r1 r2 r q2) λ_ s3 ⟨H3,I3,q3⟩=>?_))))
 exact wpAny_release ⟨σ,H3,I3,q3⟩
def sB(te:TE)(g:TG):TS:=λD σ H=>te σ H λx H1=>g x σ H1 D.nx
theorem zIy{tg e:Expr}{te:TE}{g:TG}(he:PE X e te)(hg:PG X tg g)(hs:swapsWithSole [tg] e pos.line X.env=pure false:=by rfl)(hw:swappedStores [tg] e X.env=pure none:=by rfl)
  (h1:(assignEach [tg] X.env).map (·.2)=[assign tg X.env]:=by rfl):PS X (.Assign [tg] e pos) (sB te g):=by
 intro pins s σ H D I h
 refine wpAny_Assign_stores (thn (he pins s σ H _ I h) λv s1 ⟨x,H1,I1,r1,q1⟩=>?_) hs hw
 rw[h1]
 exact thn (hg pins s1 σ H1 x v _ I1 r1 q1) λ_ s2 q=>q
theorem iV{i:Nat}{x:Str}{e:Expr}{te:TE}{pos':Pos}(hN:X.N.Nodup)(hi:X.N[i]?=some x)(hx:Loc X.env.scope x)(he:PE X e te)(hs:swapsWith e (some (.Name x pos')) pos.line X.env=pure false:=by rfl)(hf:X.fn x=true\/X.env.scope.names.lookup x=some .local:=by first|exact .inl rfl|exact .inr rfl|assumption):
  PS X (.Assign [.Name x pos'] e pos) (sB te (rY i)):=by
 intro pins s σ H D I h
 refine wpAny_Assign_Name (thn (he pins s σ H _ I h) λv s1 ⟨y,H1,I1,r1,q1⟩=>?_) hs
 exact qG I1 hN hi hx r1 (λs2 I2=>⟨_,H1,I2,q1⟩) hf
def zKE(i j:Nat)(ta:TA):TS:=λD σ H=>ta σ H λvs H1=>∃v w,vs=[v,w]/\D.nx ((σ.set i (some v)).set j (some w)) H1
theorem zIw{i j:Nat}{x y:Str}{a b:Expr}{ta:TA}{px py pt:Pos}{kt k2 pt2}(hc:X.calm=true)(hN:X.N.Nodup)(hi:X.N[i]?=some x)(hj:X.N[j]?=some y)(hij:i≠j)
  (hx:X.env.scope.names.lookup x=some .local) (hy:X.env.scope.names.lookup y=some .local) (ha:PA X [a,b] ta)
  (hw:swappedStores [.Tuple [.Name x px,.Name y py] kt pt] (.Tuple [a,b] k2 pt2) X.env=pure (some [x,y]))
  (hs:swapsWithSole [.Tuple [.Name x px,.Name y py] kt pt] (.Tuple [a,b] k2 pt2) pos.line X.env=pure false:=by rfl):
  PS X (.Assign [.Tuple [.Name x px,.Name y py] kt pt] (.Tuple [a,b] k2 pt2) pos) (zKE i j ta):=by
 intro pins s σ H D I h
 rw[exec_Assign_arm]
 refine qa_ (wpAny_standAt ?_)
 rw[hs]
 refine qa_ (qb_ ?_)
 rw[if_neg (by decide)]
 refine qa_ (Tuple_ (thn (ha _ pins s σ H _ I h) λus s1 ⟨vs,H1,I1,r1,q1⟩=>?_))
 obtain⟨v,w,e1,q1⟩:=q1
 subst e1
 obtain⟨u1,u2,rfl,rv,rw'⟩:∃u1 u2,us=[u1,u2]/\RelV v u1/\RelV w u2:=by
  cases r1 with
  |cons p q=>
   cases q with
   |cons p' q'=>
    cases q'
    exact⟨_,_,rfl,p,p'⟩
 refine qR_ ?_ (by show 2<=sizeLine;decide)
 have I2:Inv X pins σ H1 {s1 with heap:=s1.heap.push {cls:=.type "tuple",data:=.seq [u1,u2].toArray}}:=I1.kept (t':=s1.toks) λb o e=>qd_ _ e
 rw[hw]
 refine qa_ (qb_ ?_)
 show wpAny (model X.prog X.w) X.A (do rule "assign.swapped-stores";let items <- unpackItems (.ref s1.heap.objs.size) 2 none;assignInOrder [λv=>bindName X.env y v,λv=>bindName X.env x v] items.reverse;pure Flow.next) _ _ _
 refine qa_ (wpAny_rule (qa_ (unpackItems_tuple (items:=#[u1,u2]) (I.ok.hd hc) (IsTup.new s1.heap _) λh' hx'=>?_)))
 have I3:=I2.kept (h':=h') (t':=s1.toks) λb o e=>hx' b o (qm_ (qf_ e)) e
 show wpAny _ _ (assignInOrder [λv=>bindName X.env y v,λv=>bindName X.env x v] [u2,u1] >>= λ_=>pure Flow.next) _ _ _
 refine qa_ (assignInOrder_cons (wpAny_bindName (qG I3 hN hj (.inl hy) rw' (λs2 I4=>?_) (.inr hy))))
 refine assignInOrder_cons (wpAny_bindName (qG I4 hN hi (.inl hx) rv (λs3 I5=>assignInOrder_nil (qb_ ?_)) (.inr hx)))
 rw[List.set_comm _ _ (Ne.symm hij)]at I5
 exact⟨_,H1,I5,q1⟩
end
section
variable{X:Cx}{pos:Pos}
def zH2(c:TT)(tb:TS):TS:=λD σ H=>∃W:Nat->St->Hp->Prop,(∃m,W m σ H)/\∀m σ H,W m σ H ->
 c σ H λb H1=>if b=true then ∃N:St->Hp->Prop,(∀σ' H',N σ' H'->∃m',m'<m/\W m' σ' H')/\tb {D with nx:=N,ct:=N,bk:=D.nx} σ H1 else D.nx σ H1
theorem zFM{c:Expr}{body:List Stmt}{tc:TT}{tb:TS}(hp:PassesOwn (model X.prog X.w) X.A X.env X.xe)(hc:PT X c tc)(hb:PSs X body tb):PS X (.While c body [] pos) (zH2 tc tb):=by
 intro pins s σ H D I h
 obtain⟨W,⟨m0,w0⟩,turn⟩:=h
 refine wpAny_While (codeAny_whileLoop (λn s'=>∃σ' H',Inv X pins σ' H' s'/\W n σ' H') ?_ m0 ⟨σ,H,I,w0⟩)
 rintro n s1 ⟨σ1,H1,I1,w1⟩
 refine wpAny_passesOwn hp (thn (hc pins s1 σ1 H1 _ I1 (turn n σ1 H1 w1)) λb s2 ⟨H2,I2,q2⟩=>?_)
 cases b with
 |true=>
  obtain⟨N,hN,q2⟩:=q2
  rw[if_pos rfl]
  refine wpAny_passesOwn hp (thn (hb pins s2 σ1 H2 _ I2 q2) λf s3 q3=>?_)
  cases f with
  |next=>
   obtain⟨σ3,H3,I3,n3⟩:=q3
   obtain⟨m',hm,w3⟩:=hN σ3 H3 n3
   exact⟨m',hm,σ3,H3,I3,w3⟩
  |cont=>
   obtain⟨σ3,H3,I3,n3⟩:=q3
   obtain⟨m',hm,w3⟩:=hN σ3 H3 n3
   exact⟨m',hm,σ3,H3,I3,w3⟩
  |brk=>exact q3
  |ret v=>exact q3
 |false=>
  rw[if_neg ql_]
  exact wpAny_execs_nil ⟨σ1,H2,I2,q2⟩
end
structure It where
 go:Nat->Hp->Prop
 yld:Nat->Hp->V->Hp->Prop
 stop:Nat->Hp->Prop
def eY(X:Cx)(pins:List (Addr×Obj))(H:Hp)(b:Addr):Prop:=
 H b=none/\b≠X.env.locals/\b∉X.fs/\(b∈X.ex\/X.s₀.heap.objs.size<=b)/\(∀x c,X.env.cells.lookup x=some c->c≠b)/\∀p∈X.pn++pins,p.1≠b
theorem Inv.fpOk{X:Cx}{pins:List (Addr×Obj)}{σ:St}{H H':Hp}{s:Shared}{b:Addr}(I:Inv X pins σ H s)(hb:s.heap.objs.size<=b)(hn:H' b=none):eY X pins H' b:=by
 refine⟨hn,qE_ (qT_ I.lt hb),I.nofs hb,.inr (qi_ I.sz hb),λx c e z=>?_,λp hp z=>?_⟩
 ·obtain⟨v,q⟩:=I.cell x c e
  exact absurd (qT_ q.lt (by rw[z];exact hb)) (qf1_ _)
 ·exact absurd (qT_ (qf_ (I.pin p hp).1) (by rw[z];exact hb)) (qf1_ _)
structure jG (P:Program) (w:World) (K:W.Frag) (tg:Expr) (J:It) (fp:List Addr) (it:Addr) (tn:Nat->Heap->Prop):Prop where
 mem:it∈fp
 obj:∀i h,tn i h->∀b∈fp,∃o,h.get? b=some o/\∀v,o.data≠.cell v
 keep:∀i h h',tn i h->(∀b∈fp,∀o,h.get? b=some o->h'.get? b=some o)->tn i h'
 item:∀(X:Cx),X.prog=P->X.w=w->X.K=K->X.calm=true->∀(i:Nat) (pins:List (Addr×Obj)) (s:Shared) (σ:St) (H:Hp) (E:Value->Shared->Prop),Inv X pins σ H s->(∀b∈fp,eY X pins H b)->tn i s.heap->J.go i H ->
  wpAny (model P w) X.A (pyNext (.ref it)) (λr s1=>∃u,r=some u /\
   wpAny (model P w) X.A (letOwnedTupleGo tg (.ref it) u) (λ_ s2=>∃x H',Inv X pins σ H' s2/\RelV x u/\J.yld i H x H'/\tn (i+1) s2.heap/\∀b∈fp,H' b=none) E s1) E s
 done:∀(X:Cx),X.prog=P->X.w=w->X.K=K->X.calm=true->∀(i:Nat) (pins:List (Addr×Obj)) (s:Shared) (σ:St) (H:Hp) (E:Value->Shared->Prop),Inv X pins σ H s->(∀b∈fp,eY X pins H b)->tn i s.heap->J.stop i H ->
  wpAny (model P w) X.A (pyNext (.ref it)) (λr s1=>r=none/\Inv X pins σ H s1) E s
 self:∀(A:Around) (i:Nat) (s:Shared) (Q:Value->Shared->Prop) (E:Value->Shared->Prop),tn i s.heap->Q (.ref it) s->wpAny (model P w) A (pyIter (.ref it)) Q E s
abbrev TI:=St->Hp->(It->Hp->Prop)->Prop
def PIE(X:Cx)(pins:List (Addr×Obj))(σ:St)(tg:Expr)(R:It->Hp->Prop)(itv:Value)(s2:Shared):Prop:=
 ∃(it:Addr) (fp:List Addr) (tn:Nat->Heap->Prop) (J:It) (H':Hp),itv=.ref it/\Inv X pins σ H' s2/\jG X.prog X.w X.K tg J fp it tn/\tn 0 s2.heap/\(∀b∈fp,eY X pins H' b)/\R J H'
def PI(X:Cx)(tg iter:Expr)(wi:TI):Prop:=
 ∀(pins:List (Addr×Obj)) (s:Shared) (σ:St) (H:Hp) (R:It->Hp->Prop),Inv X pins σ H s->wi σ H R ->
  wpAny (model X.prog X.w) X.A (eval iter X.env) (λv s1=>wpAny (model X.prog X.w) X.A (pyIter v) (PIE X pins σ tg R) X.xe s1) X.xe s
theorem mD{M:Model}{A:Around}{E:Value->Shared->Prop}{s:Shared}{tg:Expr}{it:Addr}{u:Value}{o:Obj}{n:String}{vs:Array Value}{Q:Unit->Shared->Prop}(ho:s.heap.get? it=some o)(hc:o.cls=.type n)(hd:o.data=.fields vs)
    (hn:["enumerate","zip","dict_itemiterator","dict_reverseitemiterator","odict_iterator","itertools.zip_longest","itertools.pairwise"].contains n=false) (hQ:Q () s):wpAny M A (letOwnedTupleGo tg (.ref it) u) Q E s:=by
  unfold letOwnedTupleGo
  cases tg<;>first
    |exact qb_ hQ
    |(cases u<;>first
        |exact qb_ hQ
        | (refine qa_ (wpAny_load ho ?_)
           rw[hc,hd]
           show wpAny M A (if (["enumerate","zip","dict_itemiterator","dict_reverseitemiterator","odict_iterator","itertools.zip_longest","itertools.pairwise"].contains n&&vs[0]? == some (rawInt _))=true then _ else _) Q E s
           rw[if_neg (by intro h;rw[hn,Bool.false_and]at h;cases h)]
           exact qb_ hQ))
def Itl(K:W.Frag)(a:Addr):It:=
 ⟨λi H=>∃xs x,SqL K H a xs/\xs[i]?=some x,λi H x H'=>H'=H/\∀xs,SqL K H a xs->xs[i]?=some x,λi H=>∃xs,SqL K H a xs/\xs.length<=i⟩
def Itt(K:W.Frag)(a:Addr):It:=
 ⟨λi H=>∃xs x,SqT K H a xs/\xs[i]?=some x,λi H x H'=>H'=H/\∀xs,SqT K H a xs->xs[i]?=some x,λi H=>∃xs,SqT K H a xs/\xs.length<=i⟩
def Itr(lo:Int)(n:Nat):It:=⟨λi _=>i<n,λi H x H'=>H'=H/\x=.int (lo+i),λi _=>n<=i⟩
theorem zEu{P:Program}{w:World}{K:W.Frag}{tg:Expr}(a it:Addr):jG P w K tg (Itl K a) [it] it (λi h=>h.IsListIter it a i) where
 mem:=by simp
 obj:=λi h st b hb=>by
  have e:b=it:=by simpa using hb
  subst e
  obtain⟨o,e,c,d⟩:=st
  exact⟨o,e,λv z=>by rw[d]at z;cases z⟩
 keep:=λi h h' st k=>st.at λo e=>k it (by simp) o e
 item:=by
  intro X hP hw hK hc i pins s σ H E I hf st hg
  subst hP hw hK
  obtain⟨xs,x,hq,hx⟩:=hg
  obtain⟨its,rv,p,hz⟩:=I.list hq
  obtain⟨u,hu,ru⟩:=rv.get hx
  obtain⟨f0,f1,f2,f3,f4,f5⟩:=hf it (by simp)
  refine wpAny_pyNext_list_item st p.isList (x:=u) (by simpa using hu) λh' st' sb=>?_
  have I1:Inv X pins σ H {s with heap:=h'}:=I.turned (t':=s.toks) (λb o hb e=>(sb.2 b hb).trans e) f0 f1 f3 f4 f5
  obtain⟨o,e,c,d⟩:=id st'
  exact⟨u,rfl,mD (s:={s with heap:=h'}) e c d (by decide) ⟨x,H,I1,ru,⟨rfl,λys hy=>by rw[I.list_inj hy hq];exact hx⟩,st',λb hb=>(hf b hb).1⟩⟩
 done:=by
  intro X hP hw hK hc i pins s σ H E I hf st hg
  subst hP hw hK
  obtain⟨xs,hq,hx⟩:=hg
  obtain⟨its,rv,p,hz⟩:=I.list hq
  obtain⟨f0,f1,f2,f3,f4,f5⟩:=hf it (by simp)
  have hl:=rv.length
  exact wpAny_pyNext_list_end (I.ok.hd hc) st p.isList (by simp;omega) λh' eb=>⟨rfl,I.turned (t':=s.toks) (λb o hb e=>eb b o hb e) f0 f1 f3 f4 f5⟩
 self:=λ_ _ _ _ _ st h=>wpAny_pyIter_listiter st h
theorem zDX{P:Program}{w:World}{K:W.Frag}{tg:Expr}(a it:Addr):jG P w K tg (Itt K a) [it] it (λi h=>h.IsTupleIter it a i) where
 mem:=by simp
 obj:=λi h st b hb=>by
  have e:b=it:=by simpa using hb
  subst e
  obtain⟨o,e,c,d⟩:=st
  exact⟨o,e,λv z=>by rw[d]at z;cases z⟩
 keep:=λi h h' st k=>st.at λo e=>k it (by simp) o e
 item:=by
  intro X hP hw hK hc i pins s σ H E I hf st hg
  subst hP hw hK
  obtain⟨xs,x,hq,hx⟩:=hg
  obtain⟨its,rv,p,hz⟩:=I.tuple hq
  obtain⟨u,hu,ru⟩:=rv.get hx
  obtain⟨f0,f1,f2,f3,f4,f5⟩:=hf it (by simp)
  refine wpAny_pyNext_tuple_item st (show s.heap.IsTuple a its.toArray from p) (x:=u) (by simpa using hu) λh' st' sb=>?_
  have I1:Inv X pins σ H {s with heap:=h'}:=I.turned (t':=s.toks) (λb o hb e=>(sb.2 b hb).trans e) f0 f1 f3 f4 f5
  obtain⟨o,e,c,d⟩:=id st'
  exact⟨u,rfl,mD (s:={s with heap:=h'}) e c d (by decide) ⟨x,H,I1,ru,⟨rfl,λys hy=>by rw[I.tuple_inj hy hq];exact hx⟩,st',λb hb=>(hf b hb).1⟩⟩
 done:=by
  intro X hP hw hK hc i pins s σ H E I hf st hg
  subst hP hw hK
  obtain⟨xs,hq,hx⟩:=hg
  obtain⟨its,rv,p,hz⟩:=I.tuple hq
  obtain⟨f0,f1,f2,f3,f4,f5⟩:=hf it (by simp)
  have hl:=rv.length
  exact wpAny_pyNext_tuple_end (I.ok.hd hc) st (show s.heap.IsTuple a its.toArray from p) (by simp;omega) λh' eb=>⟨rfl,I.turned (t':=s.toks) (λb o hb e=>eb b o hb e) f0 f1 f3 f4 f5⟩
 self:=λ_ _ _ _ _ st h=>wpAny_pyIter_tupleiter st h
theorem zDY{P:Program}{w:World}{K:W.Frag}{tg:Expr}(it:Addr)(lo:Int)(n:Nat):jG P w K tg (Itr lo n) [it] it (λi h=>IsRangeIter h it (lo+(i:Nat)*1) ((n:Int)-(i:Nat)) 1) where
 mem:=by simp
 obj:=λi h st b hb=>by
  have e:b=it:=by simpa using hb
  subst e
  exact⟨_,st,λv z=>by
   have z':Data.fields _=Data.cell v:=z
   cases z'⟩
 keep:=λi h h' st k=>k it (by simp) _ st
 item:=by
  intro X hP hw hK hc i pins s σ H E I hf st hg
  subst hP hw hK
  obtain⟨f0,f1,f2,f3,f4,f5⟩:=hf it (by simp)
  have W:=Walks.range (prog:=X.prog) (w:=X.w) (I.ok.hd hc) it lo 1 n
  refine W.item i s _ _ hg st λv h' tk hv st' kk=>?_
  obtain⟨t,rfl⟩:=hv
  have I1:Inv X pins σ H {s with heap:=h',toks:=tk}:=I.turned (λb o hb e=>kk b o (by simpa using hb) e) f0 f1 f3 f4 f5
  refine⟨_,rfl,mD (s:={s with heap:=h',toks:=tk}) (n:="range_iterator") st' rfl rfl (by decide) ⟨.int (lo+i),H,I1,⟨t,?_⟩,⟨rfl,rfl⟩,st',λb hb=>(hf b hb).1⟩⟩
  rw[Int.mul_one]
 done:=by
  intro X hP hw hK hc i pins s σ H E I hf st hg
  subst hP hw hK
  obtain⟨f0,f1,f2,f3,f4,f5⟩:=hf it (by simp)
  exact wpAny_pyNext_range_end (I.ok.hd hc) st (by have:n<=i:=hg;omega) λh' eb=>⟨rfl,I.turned (t':=s.toks) (λb o hb e=>eb b o hb e) f0 f1 f3 f4 f5⟩
 self:=λ_ _ _ _ _ st h=>wpAny_pyIter_rangeiter st h
end L2
namespace L2
open PySem PySem.Spec PyProof.Rows
section
variable{X:Cx}{tg:Expr}
theorem zFH{pins:List (Addr×Obj)}{σ:St}{H:Hp}{s:Shared}{R:It->Hp->Prop}{E:Value->Shared->Prop}{lo hi:Int}{t u v:Tok}{tk:Nat}(I:Inv X pins σ H s)(h1:-(2 ^ 62)<=lo)(h2:lo<2 ^ 62)(h3:-(2 ^ 62)<=hi)(h4:hi<2 ^ 62)
  (q:R (Itr lo (hi-lo).toNat) H):wpAny (model X.prog X.w) X.A (pyIter (.ref s.heap.objs.size)) (PIE X pins σ tg R) E {s with heap:=s.heap.push {cls:=.type "range",data:=.fields #[.int lo t,.int hi u,.int 1 v]},toks:=tk}:=by
 refine wpAny_pyIter_range (IsRange.new ..) (small_one h1 h2 h3 h4) ?_
 have I1:Inv X pins σ H {s with heap:=s.heap.push {cls:=.type "range",data:=.fields #[.int lo t,.int hi u,.int 1 v]},toks:=tk}:=I.kept λb o e=>qd_ _ e
 refine⟨(s.heap.push {cls:=.type "range",data:=.fields #[.int lo t,.int hi u,.int 1 v]}).objs.size,[(s.heap.push {cls:=.type "range",data:=.fields #[.int lo t,.int hi u,.int 1 v]}).objs.size],_,_,H,rfl,
  I1.kept (t':=tk) λb o e=>qd_ _ e,zDY _ lo (hi-lo).toNat,?_,λb hb=>?_,q⟩
 ·have e1:lo+((0:Nat):Int)*1=lo:=by simp
  have e2:(((hi-lo).toNat:Nat):Int)-((0:Nat):Int)=Builtin.Range.rangeSize lo hi 1:=by rw[rangeSize_one];split<;>omega
  show IsRangeIter _ _ (lo+((0:Nat):Int)*1) ((((hi-lo).toNat:Nat):Int)-((0:Nat):Int)) 1
  rw[e1,e2]
  exact qj_ _ rfl
 ·have e:b=(s.heap.push {cls:=.type "range",data:=.fields #[.int lo t,.int hi u,.int 1 v]}).objs.size:=by simpa using hb
  subst e
  exact I1.fpOk (qe_ _) (I1.hok.fresh (qe_ _))
def zKe(ta:TA):TI:=λσ H R=>ta σ H λvs H1=>∃j:Int,vs=[.int j] /\ -(2 ^ 62)<=j/\j<2 ^ 62/\R (Itr 0 j.toNat) H1
theorem zEM{a:Expr}{ta:TA}{p pos:Pos}(hg:Gl X "range")(hm:X.mg "range"=none)(ha:PA X [a] ta)(hs:starEach [a] X.env=[(false,eval a X.env)]:=by rfl):PI X tg (.Call (.Name "range" p) [a] [] pos) (zKe ta):=by
 intro pins s σ H R I h
 refine Call_ (oF I hg hm boot_range (PyProof.Rows.callWith_type1 (thn (ha pos pins s σ H _ I h) λus s1 ⟨vs,H1,I1,r1,q1⟩=>?_) hs rfl))
 obtain⟨j,e,q1,q2,q⟩:=q1
 subst e
 cases r1 with
 |cons r rr=>
  cases rr
  obtain⟨t,rfl⟩:=r
  exact call_range_1 (zFH I1 (by omega) (by omega) q1 q2 (by simpa using q))
def zKH(wi:TI)(g:TG)(tb:TS):TS:=λD σ H=>wi σ H λJ H1=>∃W:Nat->Nat->St->Hp->Prop,(∃m,W 0 m σ H1)/\∀i m σ H,W i m σ H ->
 (J.stop i H/\D.nx σ H)\/(J.go i H/\∃N:St->Hp->Prop,(∀σ' H',N σ' H'->∃m',m'<m/\W (i+1) m' σ' H')/\∀x H',J.yld i H x H'->g x σ H' λσ2 H2=>tb {D with nx:=N,ct:=N,bk:=D.nx} σ2 H2)
def oE(fp:List Addr)(h:Heap):List (Addr×Obj):=fp.filterMap λb=>(h.get? b).map λo=>(b,o)
theorem pQ{fp:List Addr}{h:Heap}{b:Addr}{o:Obj}(hb:b∈fp)(e:h.get? b=some o):(b,o)∈oE fp h:=qc1_.mpr ⟨b,hb,by rw[e];rfl⟩
theorem zEQ{fp:List Addr}{h:Heap}{p:Addr×Obj}(hp:p∈oE fp h):p.1∈fp/\h.get? p.1=some p.2:=by
 obtain⟨b,hb,e⟩:=qc1_.mp hp
 cases q:h.get? b with
 |none=>rw[q]at e;cases e
 |some o=>
  rw[q]at e
  have e':(b,o)=p:=Option.some.inj e
  subst e'
  exact⟨hb,q⟩
theorem Inv.pinned{pins:List (Addr×Obj)}{σ:St}{H:Hp}{s:Shared}{fp:List Addr}(I:Inv X pins σ H s)(hf:∀b∈fp,eY X pins H b)(ho:∀b∈fp,∃o,s.heap.get? b=some o/\∀v,o.data≠.cell v):Inv X (pins++oE fp s.heap) σ H s:=
 I.pins_of λp hp=>(qp_.mp hp).elim (λz=>I.pin p (qq_ _ z)) λz=>by
  obtain⟨hb,e⟩:=zEQ z
  obtain⟨f0,f1,f2,_⟩:=hf p.1 hb
  obtain⟨o,e',d⟩:=ho p.1 hb
  rw[e]at e';cases e'
  exact⟨e,f0,f1,f2,d⟩
theorem Inv.unpinned{pins pl:List (Addr×Obj)}{σ:St}{H:Hp}{s:Shared}(I:Inv X (pins++pl) σ H s):Inv X pins σ H s:=I.pins_of λp hp=>I.pin p (qq_ _ (qB_ _ hp))
theorem zIx{iter:Expr}{body:List Stmt}{wi:TI}{g:TG}{tb:TS}{pos:Pos}(hp:PassesOwn (model X.prog X.w) X.A X.env X.xe)(hc:X.calm=true)(hi:PI X tg iter wi)(hg:PG X tg g)(hb:PSs X body tb)
  (hs:∀x,foldedSetIterable iter X.env x=pure x:=by intro _;rfl):PS X (.For tg iter body [] pos) (zKH wi g tb):=by
 intro pins s σ H D I h
 refine wpAny_For (thn (hi pins s σ H _ I h) λv s1 h1=>thn h1 λitv s2 h2=>?_) hs
 obtain⟨it,fp,tn,J,H2,e,I2,T,st2,f2,W,⟨m0,w0⟩,turn⟩:=h2
 subst e
 -- what stays true of the iterator's objects through the loop
 have stat:∀{H':Hp},(∀b∈fp,H' b=none)->∀b∈fp,eY X pins H' b:=λhn b hb=>⟨hn b hb,(f2 b hb).2⟩
 refine codeAny_forLoop_any (λn s'=>∃i σ' H',Inv X pins σ' H' s'/\tn i s'.heap/\(∀b∈fp,H' b=none)/\W i n σ' H') ?_ m0 ⟨0,σ,H2,I2,st2,λb hb=>(f2 b hb).1,w0⟩
 rintro n s3 ⟨i,σ3,H3,I3,st3,fr3,w3⟩
 rcases turn i n σ3 H3 w3 with⟨stop,qn⟩|⟨go,N,hN,step⟩
 ·refine wpAny_passesOwn hp (thn (T.done X rfl rfl rfl hc i pins s3 σ3 H3 X.xe I3 (stat fr3) st3 stop) λr s4 ⟨hr,I4⟩=>?_)
  subst hr
  exact wpAny_execs_nil ⟨σ3,H3,I4,qn⟩
 ·refine wpAny_passesOwn hp (thn (T.item X rfl rfl rfl hc i pins s3 σ3 H3 X.xe I3 (stat fr3) st3 go) λr s4 ⟨u,hr,h4⟩=>?_)
  subst hr
  refine wpAny_passesOwn hp (thn h4 λ_ s5 ⟨x,H5,I5,r5,y5,st5,fr5⟩=>?_)
  have I5':=I5.pinned (stat fr5) (T.obj _ _ st5)
  refine wpAny_passesOwn hp (thn (hg _ s5 σ3 H5 x u _ I5' r5 (step x H5 y5)) λ_ s6 ⟨σ6,H6,I6,q6⟩=>?_)
  refine wpAny_passesOwn hp (thn (hb _ s6 σ6 H6 _ I6 q6) λf s7 q7=>?_)
  have again:∀{σ7:St} {H7:Hp},Inv X (pins++oE fp s5.heap) σ7 H7 s7->N σ7 H7->∃m,m<n/\∃i σ' H',Inv X pins σ' H' s7/\tn i s7.heap/\(∀b∈fp,H' b=none)/\W i m σ' H':=λ{σ7 H7} I7 n7=>by
   obtain⟨m',hm,w7⟩:=hN σ7 H7 n7
   refine⟨m',hm,i+1,σ7,H7,I7.unpinned,T.keep _ _ _ st5 λb hb o e=>(I7.pin (b,o) (qq_ _ (qq_ _ (pQ hb e)))).1,λb hb=>?_,w7⟩
   obtain⟨o,e,d⟩:=T.obj _ _ st5 b hb
   exact(I7.pin (b,o) (qq_ _ (qq_ _ (pQ hb e)))).2.1
  cases f with
  |next=>obtain⟨σ7,H7,I7,n7⟩:=q7;exact again I7 n7
  |cont=>obtain⟨σ7,H7,I7,n7⟩:=q7;exact again I7 n7
  |brk=>obtain⟨σ7,H7,I7,q7⟩:=q7;exact⟨σ7,H7,I7.unpinned,q7⟩
  |ret v=>obtain⟨x7,σ7,H7,I7,r7,q7⟩:=q7;exact⟨x7,σ7,H7,I7.unpinned,r7,q7⟩
end
end L2
namespace L2
open PySem PySem.Spec PyProof.Rows
abbrev R2:=V->V->Hp->VK->Prop
def OpR(X:Cx)(f:Value->Value->Sem Value)(r:R2):Prop:=
 ∀(pins:List (Addr×Obj)) (s:Shared) (σ:St) (H:Hp) (x y:V) (v u:Value) (Q:VK),Inv X pins σ H s->RelV x v->RelV y u->r x y H Q ->
  wpAny (model X.prog X.w) X.A (f v u) (EP X pins σ Q) X.xe s
def UnR(X:Cx)(f:Value->Sem Value)(r:V->Hp->VK->Prop):Prop:=
 ∀(pins:List (Addr×Obj)) (s:Shared) (σ:St) (H:Hp) (x:V) (v:Value) (Q:VK),Inv X pins σ H s->RelV x v->r x H Q ->
  wpAny (model X.prog X.w) X.A (f v) (EP X pins σ Q) X.xe s
def CallR(X:Cx)(f:Value)(r:List V->Hp->VK->Prop):Prop:=
 ∀(pins:List (Addr×Obj)) (s:Shared) (σ:St) (H:Hp) (xs:List V) (us:List Value) (Q:VK),Inv X pins σ H s->Vals xs us->r xs H Q ->
  wpAny (model X.prog X.w) X.A (call f us) (EP X pins σ Q) X.xe s
def tOp(r:R2)(ta tb:TE):TE:=λσ H Q=>ta σ H λx H1=>tb σ H1 λy H2=>r x y H2 Q
def tUn(r:V->Hp->VK->Prop)(ta:TE):TE:=λσ H Q=>ta σ H λx H1=>r x H1 Q
def rI(C:Int->Int->Prop)(g:Int->Int->V):R2:=λx y H Q=>∃i j,x=.int i/\y=.int j/\C i j/\Q (g i j) H
def rI0(g:Int->Int->V):R2:=λx y H Q=>∃i j,x=.int i/\y=.int j/\Q (g i j) H
def rU(g:Int->V):V->Hp->VK->Prop:=λx H Q=>∃i,x=.int i/\Q (g i) H
section
variable{X:Cx}{a b c:Expr}{ta tb tc:TE}{pos:Pos}
theorem xU(ha:PE X a ta)(hb:PE X b tb){pins:List (Addr×Obj)}{s:Shared}{σ:St}{H:Hp}{R:V->V->Hp->Prop}(I:Inv X pins σ H s)
  (h:ta σ H λx H1=>tb σ H1 λy H2=>R x y H2) {Q:Value->Shared->Prop} {f:Value->Value->Sem Value}
  (hf:∀v u s2 x y H2,Inv X pins σ H2 s2->RelV x v->RelV y u->R x y H2->wpAny (model X.prog X.w) X.A (f v u) Q X.xe s2):
  wpAny (model X.prog X.w) X.A (eval a X.env) (λv s₁=>wpAny (model X.prog X.w) X.A (eval b X.env) (λu s₂=>wpAny (model X.prog X.w) X.A (f v u) Q X.xe s₂) X.xe s₁) X.xe s:=by
 refine thn (ha pins s σ H _ I h) λv s1 ⟨x,H1,I1,r1,q1⟩=>?_
 refine thn (hb pins s1 σ H1 _ I1 q1) λu s2 ⟨y,H2,I2,r2,q2⟩=>?_
 exact hf v u s2 x y H2 I2 r1 r2 q2
theorem cL{op:Operator}{r:R2}(ho:OpR X (binaryOp op) r)(ha:PE X a ta)(hb:PE X b tb):PE X (.BinOp a op b pos) (tOp r ta tb):=by
 intro pins s σ H Q I h
 exact wpAny_BinOp (xU ha hb I h λv u s2 x y H2 I2 rx ry q=>ho pins s2 σ H2 x y v u Q I2 rx ry q)
theorem zCH{op:UnaryOp}{r:V->Hp->VK->Prop}(ho:UnR X (unaryOp op) r)(ha:PE X a ta):PE X (.UnaryOp op a pos) (tUn r ta):=by
 intro pins s σ H Q I h
 exact UnaryOp_ (thn (ha pins s σ H _ I h) λv s1 ⟨x,H1,I1,r1,q1⟩=>ho pins s1 σ H1 x v Q I1 r1 q1)
theorem opI{f:Value->Value->Sem Value}{C:Int->Int->Prop}{g:Int->Int->Int}
  (rule:∀(i j:Int) (t u:Tok) (s:Shared) (Q:Value->Shared->Prop) (E:Value->Shared->Prop),C i j->Q (.int (g i j) s.toks) {s with toks:=s.toks+1}->wpAny (model X.prog X.w) X.A (f (.int i t) (.int j u)) Q E s):
  OpR X f (rI C λi j=>.int (g i j)):=by
 intro pins s σ H x y v u Q I rx ry h
 obtain⟨i,j,rfl,rfl,hc,q⟩:=h
 obtain⟨t,rfl⟩:=rx
 obtain⟨t',rfl⟩:=ry
 exact rule i j t t' s _ _ hc ⟨.int (g i j),H,I.tok _,⟨_,rfl⟩,q⟩
theorem zDa{f:Value->Value->Sem Value}{g:Int->Int->Int}
  (rule:∀(i j:Int) (t u:Tok) (s:Shared) (Q:Value->Shared->Prop) (E:Value->Shared->Prop),Q (.int (g i j) s.toks) {s with toks:=s.toks+1}->wpAny (model X.prog X.w) X.A (f (.int i t) (.int j u)) Q E s):
  OpR X f (rI0 λi j=>.int (g i j)):=by
 intro pins s σ H x y v u Q I rx ry h
 obtain⟨i,j,rfl,rfl,q⟩:=h
 obtain⟨t,rfl⟩:=rx
 obtain⟨t',rfl⟩:=ry
 exact rule i j t t' s _ _ ⟨.int (g i j),H,I.tok _,⟨_,rfl⟩,q⟩
theorem xR{f:Value->Value->Sem Value}{g:Int->Int->Bool}
  (rule:∀(i j:Int) (t u:Tok) (s:Shared) (Q:Value->Shared->Prop) (E:Value->Shared->Prop),Q (.bool (g i j)) s->wpAny (model X.prog X.w) X.A (f (.int i t) (.int j u)) Q E s):
  OpR X f (rI0 λi j=>.bl (g i j)):=by
 intro pins s σ H x y v u Q I rx ry h
 obtain⟨i,j,rfl,rfl,q⟩:=h
 obtain⟨t,rfl⟩:=rx
 obtain⟨t',rfl⟩:=ry
 exact rule i j t t' s _ _ ⟨.bl (g i j),H,I,rfl,q⟩
def zLS(i j:Int):Prop:=0<j/\j<1073741824
def zDm(i j:Int):Prop:=0<=j/\j<=1000000/\i.natAbs<2 ^ 64
def CMul(i j:Int):Prop:=(-(2 ^ 64)<i/\i<2 ^ 64)\/(-(2 ^ 64)<j/\j<2 ^ 64)
theorem CMul.ok{i j:Int}(h:CMul i j):IntMulOk i j:=by
 rcases h with⟨h1,h2⟩|⟨h1,h2⟩
 ·exact .of_left (intBits_le_64 h1 h2)
 ·exact .of_right (intBits_le_64 h1 h2)
theorem op_add:OpR X (binaryOp .Add) (rI0 λi j=>.int (i+j)):=zDa λ_ _ _ _ _ _ _ q=>add_int q
theorem zIP:OpR X (binaryOp .Sub) (rI0 λi j=>.int (i-j)):=zDa λ_ _ _ _ _ _ _ q=>sub_int q
theorem op_mul:OpR X (binaryOp .Mult) (rI CMul λi j=>.int (i*j)):=opI λ_ _ _ _ _ _ _ hc q=>mul_int q hc.ok
theorem zBG:OpR X (binaryOp .FloorDiv) (rI zLS λi j=>.int (i / j)):=opI λi j _ _ _ _ _ hc q=>by
 have h1:(0:Int)<j:=hc.1
 have h2:j<1073741824:=hc.2
 exact floordiv_int (by omega) (by rw[qk3_ i (by omega)];exact q) (.inl (PyProof.noPylong_small (by omega)))
theorem iW:OpR X (binaryOp .Mod) (rI (λ_ j=>0<j) λi j=>.int (i % j)):=opI λi j _ _ _ _ _ hc q=>by
 have h1:(0:Int)<j:=hc
 exact mod_int' (by omega) (by rw[Int.fmod_eq_emod_of_nonneg i (by omega)];exact q)
theorem zHe:OpR X (binaryOp .Mod) (rI (λ_ j=>j≠0) λi j=>.int (i.fmod j)):=opI λ_ _ _ _ _ _ _ hc q=>mod_int' hc q
theorem zCl:OpR X (binaryOp .Pow) (rI zDm λi j=>.int (i ^ j.toNat)):=opI λ_ _ _ _ _ _ _ hc q=>pow_int_small hc.1 hc.2.1 hc.2.2 q
theorem unI{f:Value->Sem Value}{g:Int->Int}
  (rule:∀(i:Int) (t:Tok) (s:Shared) (Q:Value->Shared->Prop) (E:Value->Shared->Prop),Q (.int (g i) s.toks) {s with toks:=s.toks+1}->wpAny (model X.prog X.w) X.A (f (.int i t)) Q E s):
  UnR X f (rU λi=>.int (g i)):=by
 intro pins s σ H x v Q I rx h
 obtain⟨i,rfl,q⟩:=h
 obtain⟨t,rfl⟩:=rx
 exact rule i t s _ _ ⟨.int (g i),H,I.tok _,⟨_,rfl⟩,q⟩
theorem zB5:UnR X (unaryOp .USub) (rU λi=>.int (-i)):=unI λ_ _ _ _ _ q=>neg_int q
end
section
variable{X:Cx}{a b c:Expr}{ta tb tc:TE}{pos:Pos}
theorem rJ{pins:List (Addr×Obj)}{σ:St}{H:Hp}{s:Shared}{Q:VK}{k k':Bool}(I:Inv X pins σ H s)(q:Q (.bl k) H)(e:k=k'):EP X pins σ Q (.bool k') s:=by
 subst e
 exact⟨.bl k,H,I,rfl,q⟩
theorem op_lt:OpR X (compareOp .Lt) (rI0 λi j=>.bl (decide (i<j))):=xR λ_ _ _ _ _ _ _ q=>lt_int q
theorem zJ5:OpR X (compareOp .LtE) (rI0 λi j=>.bl (decide (i<=j))):=xR λ_ _ _ _ _ _ _ q=>le_int q
theorem zJ6:OpR X (compareOp .Gt) (rI0 λi j=>.bl (decide (j<i))):=xR λ_ _ _ _ _ _ _ q=>gt_int q
theorem zEO:OpR X (compareOp .Lt) (λx y H Q=>∃i j,x=.str i/\y=.str j/\Q (.bl (decide (i.cps.toList<j.cps.toList))) H):=by
 intro pins s σ H x y v u Q I rx ry h
 obtain⟨i,j,rfl,rfl,q⟩:=h
 obtain⟨t,rfl⟩:=rx
 obtain⟨t',rfl⟩:=ry
 exact lt_str (rJ I q rfl)
theorem op_in_str:OpR X (compareOp .In) (λx y H Q=>∃i j,x=.str i/\y=.str j/\Q (.bl (!(Builtin.Str.occurrences j i 0 j.length 1).isEmpty)) H):=by
 intro pins s σ H x y v u Q I rx ry h
 obtain⟨i,j,rfl,rfl,q⟩:=h
 obtain⟨t,rfl⟩:=rx
 obtain⟨t',rfl⟩:=ry
 exact in_str (rJ I q rfl)
theorem op_isN:OpR X (compareOp .Is) (λx y H Q=>y=.non/\Q (.bl (decide (x=.non))) H):=by
 intro pins s σ H x y v u Q I rx ry h
 obtain⟨rfl,q⟩:=h
 cases ry
 refine is_none_gen (rJ I q ?_)
 cases x<;>first
  |(cases rx;rfl)
  |(obtain⟨t,rfl⟩:=rx;rfl)
theorem op_notN:OpR X (compareOp .IsNot) (λx y H Q=>y=.non/\Q (.bl (!decide (x=.non))) H):=by
 intro pins s σ H x y v u Q I rx ry h
 obtain⟨rfl,q⟩:=h
 cases ry
 refine isnot_none_gen (rJ I q ?_)
 cases x<;>first
  |(cases rx;rfl)
  |(obtain⟨t,rfl⟩:=rx;rfl)
theorem OpR.or{f:Value->Value->Sem Value}{r r':R2}(h:OpR X f r)(h':OpR X f r'):OpR X f (λx y H Q=>r x y H Q\/r' x y H Q):=by
 intro pins s σ H x y v u Q I rx ry q
 rcases q with q|q
 ·exact h pins s σ H x y v u Q I rx ry q
 ·exact h' pins s σ H x y v u Q I rx ry q
theorem lT(b:Expr){op:CmpOp}(h:op≠.In:=by decide)(h2:op≠.NotIn:=by decide):behindInMarks op b=false:=by
 have e1:(op==CmpOp.In)=false:=by cases op<;>first|rfl|exact absurd rfl h
 have e2:(op==CmpOp.NotIn)=false:=by cases op<;>first|rfl|exact absurd rfl h2
 cases b<;>simp[behindInMarks,e1,e2]
theorem zG7{op:CmpOp}{r:R2}(ho:OpR X (compareOp op) r)(ha:PE X a ta)(hb:PE X b tb)(hm:behindInMarks op b=false):PE X (.Compare a [op] [b] pos) (tOp r ta tb):=by
 intro pins s σ H Q I h
 exact wpAny_Compare1 (xU ha hb I h λv u s2 x y H2 I2 rx ry q=>ho pins s2 σ H2 x y v u Q I2 rx ry q) hm
def zCD(t:TE):TT:=λσ H Q=>t σ H λx H'=>∃k,x=.bl k/\Q k H'
theorem vI{op:CmpOp}{r:R2}(ho:OpR X (compareOp op) r)(ha:PE X a ta)(hb:PE X b tb)(hm:behindInMarks op b=false):PT X (.Compare a [op] [b] pos) (zCD (tOp r ta tb)):=by
 intro pins s σ H Q I h
 refine wpAny_isTrue_Compare1 (thn (ha pins s σ H _ I h) λv s1 ⟨x,H1,I1,r1,q1⟩=>thn (hb pins s1 σ H1 _ I1 q1) λu s2 ⟨y,H2,I2,r2,q2⟩=>
  thn (ho pins s2 σ H2 x y v u _ I2 r1 r2 q2) λc s3 ⟨z,H3,I3,r3,k,e,q3⟩=>?_) hm
 subst e
 cases r3
 exact wpAny_truthy_bool ⟨H3,I3,q3⟩
theorem lU:(sizeLine:Nat)<2 ^ 63:=by rw[sizeLine_eq];decide
theorem op_add_str:OpR X (binaryOp .Add) (λx y H Q=>∃i j,x=.str i/\y=.str j/\i.length+j.length<=sizeLine/\Q (.str (i++j)) H):=by
 intro pins s σ H x y v u Q I rx ry h
 obtain⟨i,j,rfl,rfl,hz,q⟩:=h
 obtain⟨t,rfl⟩:=rx
 obtain⟨t',rfl⟩:=ry
 exact add_str (λt' tk=>⟨.str (i++j),H,I.tok _,⟨_,rfl⟩,q⟩) hz
theorem cQ{x:V}{us:List Value}(r:Vals [x] us):∃u,us=[u]/\RelV x u:=by
 cases r with
 |cons r1 r2=>cases r2;exact⟨_,rfl,r1⟩
theorem iX{x y:V}{us:List Value}(r:Vals [x,y] us):∃u w',us=[u,w']/\RelV x u/\RelV y w':=by
 cases r with
 |cons r1 r2=>
  cases r2 with
  |cons r3 r4=>cases r4;exact⟨_,_,rfl,r1,r3⟩
theorem zGl:CallR X (.builtin "abs") (λxs H Q=>∃i,xs=[.int i]/\Q (.int (if i<0 then -i else i)) H):=by
 intro pins s σ H xs us Q I r h
 obtain⟨i,rfl,q⟩:=h
 obtain⟨u,rfl,t,rfl⟩:=cQ r
 exact call_abs_int λu tk=>⟨.int (if i<0 then -i else i),H,I.tok _,⟨_,rfl⟩,q⟩
theorem zFj(hc:X.calm=true):CallR X (.builtin "max") (λxs H Q=>∃i j,xs=[.int i,.int j]/\Q (.int (if j > i then j else i)) H):=by
 intro pins s σ H xs us Q I r h
 obtain⟨i,j,rfl,q⟩:=h
 obtain⟨u,w',rfl,⟨t,rfl⟩,⟨t',rfl⟩⟩:=iX r
 refine max_two_ints (I.ok.hd hc) λh' tk k=>⟨_,H,I.kept k,?_,q⟩
 by_cases hj:j > i
 ·rw[if_pos hj,if_pos hj];exact⟨_,rfl⟩
 ·rw[if_neg hj,if_neg hj];exact⟨_,rfl⟩
theorem zFh(hc:X.calm=true):CallR X (.builtin "min") (λxs H Q=>∃i j,xs=[.int i,.int j]/\Q (.int (if j<i then j else i)) H):=by
 intro pins s σ H xs us Q I r h
 obtain⟨i,j,rfl,q⟩:=h
 obtain⟨u,w',rfl,⟨t,rfl⟩,⟨t',rfl⟩⟩:=iX r
 refine min_two_ints (I.ok.hd hc) λh' tk k=>⟨_,H,I.kept k,?_,q⟩
 by_cases hj:j<i
 ·rw[if_pos hj,if_pos hj];exact⟨_,rfl⟩
 ·rw[if_neg hj,if_neg hj];exact⟨_,rfl⟩
end
end L2
namespace L2
open PySem PySem.Spec PyProof.Rows
theorem RelO.some_of{v:V}{o:Option Value}(r:RelO (some v) o):∃u,o=some u/\RelV v u:=by
 cases o with
 |none=>exact(show False from r).elim
 |some u=>exact⟨u,rfl,r⟩
end L2
namespace L2
open PySem PySem.Spec PyProof.Rows
structure Room (k:Nat) (A:Around):Prop where
 hd:A.handled=none
 dp:A.depth+3*k+5<recursionLimit
 un:A.units+16*k+200<cLine
 gd:A.guards=some []
theorem Room.mono{j k:Nat}{A:Around}(r:Room k A)(h:j<=k):Room j A:=⟨r.hd,by have:=r.dp;omega,by have:=r.un;omega,r.gd⟩
theorem Room.deeper{k:Nat}{A:Around}(r:Room (k+1) A)(env:Env):Room k (A.deeper env):=
 ⟨r.hd,by have:=r.dp;show A.depth+1+3*k+5<_;omega,by have:=r.un;show A.units+3+16*k+200<_;omega,r.gd⟩
theorem Room.depth{k:Nat}{A:Around}(r:Room k A):A.depth<recursionLimit:=by have:=r.dp;omega
theorem Room.units{k:Nat}{A:Around}(r:Room k A):A.units+64<cLine:=by have:=r.un;omega
def sA:TA:=λ_ H Q=>Q [] H
def wH(ta:TE)(tr:TA):TA:=λσ H Q=>ta σ H λx H1=>tr σ H1 λxs H2=>Q (x::xs) H2
section
variable{X:Cx}{e:Expr}{es:List Expr}{te:TE}{t:TA}{pos:Pos}
theorem dD:PA X [] sA:=λ_ _ _ _ H Q I h=>Calls.spliced_nil ⟨[],H,I,.nil,h⟩
theorem zG9(ha:PE X e te)(hr:PA X es t)(hs:starEach (e::es) X.env=(false,eval e X.env)::starEach es X.env:=by rfl):PA X (e::es) (wH te t):=by
 intro pos pins s σ H Q I h
 rw[hs]
 show wpAny _ _ (spliced ((false,eval e X.env)::backTo pos (starEach es X.env))) _ _ s
 refine Calls.spliced_cons (thn (ha pins s σ H _ I h) λu s1 ⟨x,H1,I1,r1,q1⟩=>?_)
 exact thn (hr pos pins s1 σ H1 _ I1 q1) λus s2 ⟨xs,H2,I2,r2,q2⟩=>⟨x::xs,H2,I2,.cons r1 r2,q2⟩
def zKA(t:TA):TE:=λσ H Q=>t σ H λxs H1=>xs.length<=sizeLine/\∀p,H1 p=none->Q (.ref p) (upd H1 p (.tup xs))
def zCX(t:TA):TE:=λσ H Q=>t σ H λxs H1=>xs.length<=sizeLine/\∀p,H1 p=none->Q (.ref p) (upd H1 p (.lst xs))
theorem zIF{x1}(h:PA X es t):PE X (.Tuple es x1 pos) (zKA t):=by
 intro pins s σ H Q I hq
 refine wpAny_Tuple_spliced (thn (h pos pins s σ H _ I hq) λus s1 ⟨xs,H1,I1,r,z,q⟩=>⟨by rw[<-r.length];exact z,?_⟩)
 have hf:H1 s1.heap.objs.size=none:=I1.hok.fresh (qe_ _)
 refine⟨.ref s1.heap.objs.size,upd H1 s1.heap.objs.size (.tup xs),I1.laid (t':=s1.toks) (λb u e=>qd_ _ e) (qe_ _) ?_,rfl,q _ hf⟩
 exact⟨z,us,r,⟨_,qj_ _ rfl,rfl,_,rfl⟩⟩
theorem zCh(h:PA X es t):PE X (.List es pos) (zCX t):=by
 intro pins s σ H Q I hq
 refine wpAny_List_spliced (thn (h pos pins s σ H _ I hq) λus s1 ⟨xs,H1,I1,r,z,q⟩=>⟨by rw[<-r.length];exact z,?_⟩)
 have hf:H1 s1.heap.objs.size=none:=I1.hok.fresh (qe_ _)
 refine⟨.ref s1.heap.objs.size,upd H1 s1.heap.objs.size (.lst xs),I1.laid (t':=s1.toks) (λb u e=>qd_ _ e) (qe_ _) ?_,rfl,q _ hf⟩
 exact⟨z,us,0,r,qj_ _ rfl⟩
end
abbrev Sp:=List V->Hp->VK->XK->Prop
abbrev CXT:=List Env->Hp->Shared->XK->Value->Shared->Prop
structure tE (P:Program) (w:World) (K:W.Frag) (mg:Str->Option Value) (base:Heap) (A:Around) (outer:List Env) (s:Shared) (H:Hp):Prop where
 frames:A.frames=some outer
 mod:Mod K mg base
 bs:∀b o,base.get? b=some o->s.heap.get? b=some o/\H b=none
 bsz:base.objs.size<=s.heap.objs.size
 funs:s.heap.FunFrames base outer
 frf:∀b∈frs outer,H b=none
 hok:HOk P w H s.heap
 bare:AllBare s.gens
def CE(outer:List Env)(P:Program)(w:World)(H:Hp)(s:Shared)(Q:VK)(u:Value)(s':Shared):Prop:=
 ∃v H',s'.os=s.os/\AllBare s'.gens/\Un (frs outer) [] H H' s.heap s'.heap/\HOk P w H' s'.heap/\RelV v u/\Q v H'
def CR(CX:CXT)(outer:List Env)(P:Program)(w:World)(H:Hp)(s:Shared)(Q:VK)(E:XK)(r:Result)(s':Shared):Prop:=
 match r with
 |.ok (.ret u)=>CE outer P w H s Q u s'
 |.ok _=>False
 |.error e=>CX outer H s E e s'
structure FnOk (P:Program) (w:World) (K:W.Frag) (mg:Str->Option Value) (base:Heap) (CX:CXT) (k:Nat) (f:Addr) (fd:FuncData) (ps:List Str) (sp:Sp):Prop where
 len:∀vs H Q E,sp vs H Q E->vs.length=ps.length
 run:∀(A:Around) (outer:List Env) (s:Shared) (H:Hp) (args:Args) (us:List Value) (vs:List V) (Q:VK) (E:XK),Room k A->tE P w K mg base A outer s H->BindsTo s fd args (ps.zip us)->Vals vs us->sp vs H Q E ->
  codeAny (model P w) A (.call (.ref f) args) (CR CX outer P w H s Q E) s
theorem FnOk.mono{P:Program}{w:World}{K:W.Frag}{mg:Str->Option Value}{base:Heap}{CX:CXT}{j k:Nat}{f:Addr}{fd:FuncData}{ps:List Str}{sp:Sp}(F:FnOk P w K mg base CX j f fd ps sp)(h:j<=k):
  FnOk P w K mg base CX k f fd ps sp:=⟨F.len,λA outer s H args us vs Q E hr=>F.run A outer s H args us vs Q E (hr.mono h)⟩
theorem FnOk.imp{P:Program}{w:World}{K:W.Frag}{mg:Str->Option Value}{base:Heap}{CX:CXT}{k:Nat}{f:Addr}{fd:FuncData}{ps:List Str}{sp sp':Sp}(F:FnOk P w K mg base CX k f fd ps sp)
  (h:∀vs H Q E,sp' vs H Q E->sp vs H Q E):FnOk P w K mg base CX k f fd ps sp':=
 ⟨λvs H Q E q=>F.len vs H Q E (h _ _ _ _ q),λA outer s H args us vs Q E hr he hb hv hs=>F.run A outer s H args us vs Q E hr he hb hv (h _ _ _ _ hs)⟩
section
variable{X:Cx}{pins:List (Addr×Obj)}{σ:St}{H:Hp}{s s':Shared}
theorem Inv.env0(I:Inv X pins σ H s):tE X.prog X.w X.K X.mg X.base X.A X.stack s H:=
 ⟨I.ok.frames,I.ok.mod,I.bs,qi_ I.ok.bsz I.sz,I.stack,I.stkFree,I.hok,I.bare⟩
theorem Inv.after{Q:VK}{u:Value}(I:Inv X pins σ H s)(h:CE X.stack X.prog X.w H s Q u s'):EP X pins σ Q u s':=by
 obtain⟨v,H',os,bare,un,hok,r,q⟩:=h
 obtain⟨hh,g,d,t,os'⟩:=s'
 obtain rfl:os'=s.os:=os
 exact⟨v,H',I.call (h':=hh) (g':=g) (d':=d) (t':=t) (ch:=[]) un hok bare (λb z=>absurd z (by simp)),r,q⟩
end
def oJ(sp:Sp)(dvs:List V)(E:XK)(t:TA):TE:=λσ H Q=>t σ H λvs H1=>sp (vs++dvs) H1 Q E
def Binds(K:W.Frag)(fd:FuncData)(ps:List Str)(ds:List Value):Prop:=
 ∀(s:Shared) (us:List Value),K.In s.heap->(us++ds).length=ps.length->BindsTo s fd ⟨us,[]⟩ (ps.zip (us++ds))
theorem Binds.all{K:W.Frag}{fd:FuncData}{ps:List Str}(h:∀us:List Value,us.length=ps.length->bindArgs fd ⟨us,[]⟩=pure (ps.zip us)):Binds K fd ps []:=λs us _ hl=>by
 rw[qN_]at hl ⊢
 exact .of_eq (h us hl)
def rM(CX:CXT)(X:Cx)(E:XK):Prop:=∀(pins:List (Addr×Obj)) (σ:St) (H:Hp) (s:Shared) (e:Value) (s':Shared),Inv X pins σ H s->CX X.stack H s E e s'->X.xe e s'
section
variable{X:Cx}{CX:CXT}{k:Nat}{f C:Addr}{fd:FuncData}{ps:List Str}{sp:Sp}{dvs:List V}{ds:List Value}{E:XK}{x m:Str}{p pos apos:Pos}{e o:Expr}{es:List Expr}{ta:TE}{t:TA}
theorem zCc{pins:List (Addr×Obj)}{σ:St}{H:Hp}{s:Shared}{Q:VK}{us:List Value}{vs:List V}(F:FnOk X.prog X.w X.K X.mg X.base CX k f fd ps sp)(hr:Room k X.A)(hb:Binds X.K fd ps ds)(hd:Vals dvs ds)(hx:rM CX X E)
  (I:Inv X pins σ H s) (r:Vals vs us) (h:sp (vs++dvs) H Q E):wpAny (model X.prog X.w) X.A (call (.ref f) us) (EP X pins σ Q) X.xe s:=by
 have r2:Vals (vs++dvs) (us++ds):=r.append hd
 have hl:(us++ds).length=ps.length:=by rw[<-r2.length];exact F.len _ _ _ _ h
 refine wpAny_call (codeAny_mono (F.run X.A X.stack s H ⟨us,[]⟩ (us++ds) (vs++dvs) Q E hr I.env0 (hb s us I.kIn hl) r2 h) λr s' hq=>?_)
 cases r with
 |error e=>exact hx pins σ H s e s' I hq
 |ok fl=>
  cases fl with
  |ret u=>exact I.after hq
  |next=>exact False.elim hq
  |brk=>exact False.elim hq
  |cont=>exact False.elim hq
theorem zG8(F:FnOk X.prog X.w X.K X.mg X.base CX k f fd ps sp)(hr:Room k X.A)(hg:Gl X x)(hm:X.mg x=some (.ref f))(hk:W.keepIn X.K (.ref f)=true)(hb:Binds X.K fd ps ds)(hd:Vals dvs ds)(hx:rM CX X E)
  (ha:PA X (e::es) t) (hdb:(x==("__debug__":Str))=false:=by decide) (he:starEach (e::es) X.env=(false,eval e X.env)::starEach es X.env:=by rfl) (hpl:(backTo pos (starEach es X.env)).any (·.1)=false:=by rfl):
  PE X (.Call (.Name x p) (e::es) [] pos) (oJ sp dvs E t):=by
 intro pins s σ H Q I h
 refine wpAny_Call_Name_kw (vQ I hg hm ?_ hdb)
 refine PySem.W.callWith_K (h₀:=X.base) I.ok.mod.kin hk (thn (ha pos pins s σ H _ I h) λus s1 ⟨vs,H1,I1,r,q⟩=>⟨I1.kIn,?_⟩) he hpl
 exact zCc F hr hb hd hx I1 r q
theorem zFU(F:FnOk X.prog X.w X.K X.mg X.base CX k f fd ps sp)(hr:Room k X.A)(hg:Gl X x)(hm:X.mg x=some (.ref f))(hk:W.keepIn X.K (.ref f)=true)(hb:Binds X.K fd ps ds)(hd:Vals dvs ds)(hx:rM CX X E)
  (hdb:(x==("__debug__":Str))=false:=by decide):PE X (.Call (.Name x p) [] [] pos) (oJ sp dvs E sA):=by
 intro pins s σ H Q I h
 refine wpAny_Call_Name_kw (vQ I hg hm ?_ hdb)
 exact PySem.W.callWith_K0 I.kIn hk (zCc (us:=[]) F hr hb hd hx I .nil h)
end
structure bC (N P:List Str) (sc:Scope):Prop where
 kind:sc.kind=.function
 co:sc.isCoroutine=false
 gen:sc.isGenerator=false
 nd:N.Nodup
 pre:N.take P.length=P
 par:∀x∈P,sc.names.lookup x=some .local\/sc.names.lookup x=some .cell
 nofree:∀y∈sc.names,y.2≠.free
theorem fsc{N P:List Str}{sc:Scope}(h:sc.kind=.function/\sc.isCoroutine=false/\sc.isGenerator=false/\N.Nodup/\N.take P.length=P/\(∀x∈P,sc.names.lookup x=some .local\/sc.names.lookup x=some .cell)/\∀y∈sc.names,y.2≠.free):bC N P sc:=⟨h.1,h.2.1,h.2.2.1,h.2.2.2.1,h.2.2.2.2.1,h.2.2.2.2.2.1,h.2.2.2.2.2.2⟩
theorem zAq{kindOf:Str->Option NameKind}{x:Str}:∀{binds:List (Str×Value)}{m:Str->Option Value},(∀v,(x,v)∉binds)->bindL kindOf binds m x=m x
 |[],_,_=>rfl
 |(n,v)::r,m,h=>by
  unfold bindL
  rw[zAq λw hw=>h w (qb1_ _ hw)]
  split
  ·have:x≠n:=by rintro rfl;exact h v qi1_
   simp[this]
  ·rfl
theorem zAs{kindOf:Str->Option NameKind}{x:Str}:∀{binds:List (Str×Value)}{m:Str->Option Value},(∀v,(x,v)∉binds)->bindC kindOf binds m x=m x
 |[],_,_=>rfl
 |(n,v)::r,m,h=>by
  unfold bindC
  rw[zAs λw hw=>h w (qb1_ _ hw)]
  split
  ·rfl
  ·have:x≠n:=by rintro rfl;exact h v qi1_
   simp[this]
theorem zAr{kindOf:Str->Option NameKind}{x:Str}{v:Value}:∀{P:List Str}{vs:List Value}{i:Nat}{m:Str->Option Value},P.Nodup->P[i]?=some x->vs[i]?=some v->kindOf x=some .local ->
  bindL kindOf (P.zip vs) m x=some v
 |[],_,_,_,_,h,_,_=>by simp at h
 |_::_,[],_,_,_,_,h,_=>by simp at h
 |p::P,w::vs,0,m,nd,h1,h2,hk=>by
  simp at h1 h2;subst h1;subst h2
  show bindL kindOf ((p,w)::P.zip vs) m p=_
  unfold bindL
  rw[zAq λv hv=>(qQ1_.mp nd).1 (qZ2_ hv).1,if_pos hk]
  simp
 |p::P,w::vs,i+1,m,nd,h1,h2,hk=>by
  show bindL kindOf ((p,w)::P.zip vs) m x=_
  unfold bindL
  exact zAr (i:=i) (qQ1_.mp nd).2 (by simpa using h1) (by simpa using h2) hk
theorem zAt{kindOf:Str->Option NameKind}{x:Str}{v:Value}:∀{P:List Str}{vs:List Value}{i:Nat}{m:Str->Option Value},P.Nodup->P[i]?=some x->vs[i]?=some v->kindOf x≠some .local ->
  bindC kindOf (P.zip vs) m x=some v
 |[],_,_,_,_,h,_,_=>by simp at h
 |_::_,[],_,_,_,_,h,_=>by simp at h
 |p::P,w::vs,0,m,nd,h1,h2,hk=>by
  simp at h1 h2;subst h1;subst h2
  show bindC kindOf ((p,w)::P.zip vs) m p=_
  unfold bindC
  rw[zAs λv hv=>(qQ1_.mp nd).1 (qZ2_ hv).1,if_neg hk]
  simp
 |p::P,w::vs,i+1,m,nd,h1,h2,hk=>by
  show bindC kindOf ((p,w)::P.zip vs) m x=_
  unfold bindC
  exact zAt (i:=i) (qQ1_.mp nd).2 (by simpa using h1) (by simpa using h2) hk
def dZ(N:List Str)(vs:List V):St:=vs.map some++List.replicate (N.length-vs.length) none
def jV(CX:CXT)(P:Program)(w:World)(K:W.Frag)(mg:Str->Option Value)(base:Heap)(N:List Str)(qual:Str)(scope:Scope)(f:Addr)(cd:Value)(A:Around)(outer:List Env)(s:Shared)(H:Hp)(E:XK):Cx where
 prog:=P
 w:=w
 K:=K
 mg:=mg
 base:=base
 A:=A.deeper (envOfC qual scope s.heap.objs.size f cd)
 N:=N
 s₀:=s
 H₀:=H
 env:=envOfC qual scope s.heap.objs.size f cd
 outer:=outer
 stack:=envOfC qual scope s.heap.objs.size f cd::outer
 ex:=[]
 calm:=true
 fn:=λ_=>true
 pn:=[]
 xe:=λe s'=>wpAny (model P w) (A.deeper (envOfC qual scope s.heap.objs.size f cd)) (leaving (envOfC qual scope s.heap.objs.size f cd) e) (λ_ s''=>CX outer H s E e s'') (λe' s''=>CX outer H s E e' s'') s'
theorem zBa{sc:Scope}{n:Nat}{x:Str}(h:sc.names.lookup x=some .cell):∃c,(cellsFrom n sc.names []).lookup x=some c:=by
 have q:=PySem.W.cellsFrom_some sc.names n [] (.inl h)
 exact Option.isSome_iff_exists.mp q
theorem zE1{CX:CXT}{P:Program}{w:World}{K:W.Frag}{mg:Str->Option Value}{base:Heap}{N ps:List Str}{qual:Str}{scope:Scope}{f:Addr}{cd:Value}{A:Around}{outer:List Env}{s s1:Shared}{H:Hp}{E:XK}{us:List Value}{vs:List V}
  (S:bC N ps scope) (hd:A.handled=none) (e0:tE P w K mg base A outer s H) (hl:vs.length=ps.length) (r:Vals vs us)
  (x:InCallC s s.heap.objs.size (bindL (envOfC qual scope s.heap.objs.size f cd).kindOf (ps.zip us) λ_=>none) (cellsFrom (s.heap.objs.size+1) scope.names []) (bindC (envOfC qual scope s.heap.objs.size f cd).kindOf (ps.zip us) λ_=>none) s1):
  Inv (jV CX P w K mg base N qual scope f cd A outer s H E) [] (dZ N vs) H s1:=by
 have hpl:ps.length<=N.length:=by have:=congrArg List.length S.pre;rw[qO_]at this;omega
 obtain⟨h1,tk,rfl,hk⟩:=x.done
 have noA:∀b:Addr,b∉(jV CX P w K mg base N qual scope f cd A outer s H E).ex:=λb z=>absurd (show b∈([]:List Addr) from z) (by simp)
 refine⟨⟨e0.mod,S.kind,rfl,rfl,qe_ _,λy z c h1 h2=>?_,λy hy=>?_,λy c _ h=>?_,λ_=>hd,Around.frames_deeper e0.frames,.inr ⟨rfl,rfl⟩,λb z=>absurd z (noA b),e0.bs,e0.bsz,λb _ _=>noA b,λb z=>absurd z (noA b),e0.funs,e0.frf⟩,
  rfl,e0.bare,Un.kept hk,⟨_,x.toInCall.ns,λi y v h1 h2 h3=>?_⟩,λy c h=>⟨_,x.cell y c h⟩,e0.hok.fresh (qe_ _),λy c h=>?_,λp hp=>absurd (show p∈([]:List (Addr×Obj)) from hp) (by simp),e0.hok.kept hk,?_⟩
 ·exact name_of_addr x.apart (PySem.mem_of_lookup h1) (PySem.mem_of_lookup h2)
 ·have hy:scope.names.lookup y=some .cell\/scope.names.lookup y=some .free:=hy
  rcases hy with hy|hy
  ·exact zBa hy
  ·exact absurd rfl (S.nofree _ (PySem.mem_of_lookup hy))
 ·exact qZ_ (x.above y c (PySem.mem_of_lookup h))
 ·have hi:i<vs.length:=by
   unfold dZ at h2
   by_cases hi:i<vs.length
   ·exact hi
   ·rw[qG1_ (by simpa using hi)]at h2
    rw[qe2_]at h2
    split at h2<;>cases h2
  have ha:vs[i]?=some v:=by
   unfold dZ at h2
   rw[qH1_ (by simpa using hi),qv_]at h2
   cases e:vs[i]? with
   |none=>rw[e]at h2;cases h2
   |some a=>rw[e]at h2;cases h2;rfl
  obtain⟨u,hu,rv⟩:=r.get ha
  have hp:ps[i]?=some y:=by
   rw[<-S.pre,List.getElem?_take_of_lt (by omega)];exact h1
  have ndP:ps.Nodup:=by rw[<-S.pre];exact S.nd.sublist (List.take_sublist _ _)
  refine⟨u,rv,?_⟩
  rcases S.par y (qz_ hp) with k|k
  ·exact .inl ⟨k,zAr ndP hp hu k⟩
  ·obtain⟨c,e⟩:=zBa (n:=s.heap.objs.size+1) k
   refine .inr ⟨.inl k,c,e,?_⟩
   have q:=x.cell y c e
   rw[zAt ndP hp hu (by show scope.names.lookup y≠_;rw[k];decide)]at q
   exact q
 ·exact e0.hok.fresh (qZ_ (x.above y c (PySem.mem_of_lookup h)))
 ·unfold dZ
  show _=N.length
  rw[qh_,qc_,qf2_]
  omega
theorem zKi{CX:CXT}{P:Program}{w:World}{K:W.Frag}{mg:Str->Option Value}{base:Heap}{k:Nat}{f:Addr}{name qual:Str}{params:Arguments}{body:List Stmt}{scope:Scope}{dV kV doc pm cdv ct oc:Value}{an od:Option Addr}
  {osl:Array (Option Value)} {N ps:List Str} {sp:Sp} (lk:K.lookup f=some ⟨oc,od,.func (W.fnOf name qual params body scope dV kV doc pm an cdv ct),osl⟩) (hcd:W.codeIn K cdv qual=true) (S:bC N ps scope)
  (len:∀vs H Q E,sp vs H Q E->vs.length=ps.length)
  (hbody:∀(A:Around) (outer:List Env) (s:Shared) (H:Hp) (vs:List V) (Q:VK) (E:XK),Room k (A.deeper (envOfC qual scope s.heap.objs.size f cdv))->sp vs H Q E ->
   ∃t,PSs (jV CX P w K mg base N qual scope f cdv A outer s H E) body t/\t {nx:=λ_ H'=>Q .non H',rt:=Q} (dZ N vs) H):
  FnOk P w K mg base CX (k+1) f (W.fnOf name qual params body scope dV kV doc pm an cdv ct) ps sp:=by
 refine⟨len,λA outer s H args us vs Q E hr e0 hb r hsp=>?_⟩
 have hl:=len _ _ _ _ hsp
 have KX:K.In s.heap:=e0.mod.kin.keeps λb o e=>(e0.bs b o e).1
 have lim:s.heap.NoLimit:=e0.mod.nolimit.keeps λb o e=>(e0.bs b o e).1
 have hkind:∀y∈ps.zip us,scope.names.lookup y.1=some .local\/(scope.names.lookup y.1=some .cell/\((cellsFrom (s.heap.objs.size+1) scope.names []).lookup y.1).isSome=true):=λ⟨n,v⟩ hy=>by
  rcases S.par n (qZ2_ hy).1 with q|q
  ·exact .inl q
  ·exact .inr ⟨q,PySem.W.cellsFrom_some _ _ _ (.inl q)⟩
 refine codeAny_call_function hr.depth (KX _ _ lk) rfl S.co S.gen rfl (PySem.W.codeRec_of KX hcd) (hb _ _ _ _ ?_)
 refine wpAny_newFunctionEnv_cells S.kind hkind λenv he s1 x=>?_
 subst he
 refine⟨lim.keeps x.toInCall.keep,codeAny_func ?_⟩
 obtain⟨t,ht,hq⟩:=hbody A outer s H vs Q E (hr.deeper _) hsp
 have I:Inv (jV CX P w K mg base N qual scope f cdv A outer s H E) [] (dZ N vs) H s1:=zE1 S hr.hd e0 hl r x
 refine wpAny_mono (ht [] s1 (dZ N vs) H _ I hq) (λfl s' hs=>?_) λe s' hs=>hs
 have fin:∀{σ':St} {H':Hp} {v:V} {u:Value},Inv (jV CX P w K mg base N qual scope f cdv A outer s H E) [] σ' H' s'->RelV v u->Q v H'->CE outer P w H s Q u s':=
  λ{σ' H' v u} J rv q=>⟨v,H',J.os,J.bare,J.base,J.hok,rv,q⟩
 cases fl with
 |ret u=>
  obtain⟨v,σ',H',J,rv,q⟩:=hs
  exact fin J rv q
 |next=>
  obtain⟨σ',H',J,q⟩:=hs
  exact fin (v:=V.non) (u:=Value.none) J rfl q
 |brk=>
  obtain⟨_,_,_,q⟩:=hs
  exact False.elim q
 |cont=>
  obtain⟨_,_,_,q⟩:=hs
  exact False.elim q
end L2
namespace L2
open PySem PySem.Spec PyProof.Rows
section
variable{X:Cx}{x:Str}{p pos:Pos}{e:Expr}{es:List Expr}{t:TA}{id T:String}{r:List V->Hp->VK->Prop}
def tCB(r:List V->Hp->VK->Prop)(t:TA):TE:=λσ H Q=>t σ H λvs H1=>r vs H1 Q
theorem iL(hc:CallR X (.builtin id) r)(hg:Gl X x)(hm:X.mg x=none)(hv:bootBuiltins x=some (.builtin id))(ha:PA X (e::es) t)(hn:x≠"__name__":=by decide)(hdb:(x==("__debug__":Str))=false:=by decide)
  (he:starEach (e::es) X.env=(false,eval e X.env)::starEach es X.env:=by rfl) (hpl:(backTo pos (starEach es X.env)).any (·.1)=false:=by rfl):PE X (.Call (.Name x p) (e::es) [] pos) (tCB r t):=by
 intro pins s σ H Q I h
 refine wpAny_Call_Name_kw (oF I hg hm hv ?_ hn hdb)
 exact PyProof.Rows.callWith_builtin1 (thn (ha pos pins s σ H _ I h) λus s1 ⟨vs,H1,I1,r1,q1⟩=>hc pins s1 σ H1 vs us Q I1 r1 q1) he hpl
theorem gF(hc:CallR X (.type T) r)(hg:Gl X x)(hm:X.mg x=none)(hv:bootBuiltins x=some (.type T))(ha:PA X (e::es) t)(hn:x≠"__name__":=by decide)(hdb:(x==("__debug__":Str))=false:=by decide)
  (he:starEach (e::es) X.env=(false,eval e X.env)::starEach es X.env:=by rfl) (hpl:(backTo pos (starEach es X.env)).any (·.1)=false:=by rfl):PE X (.Call (.Name x p) (e::es) [] pos) (tCB r t):=by
 intro pins s σ H Q I h
 refine wpAny_Call_Name_kw (oF I hg hm hv ?_ hn hdb)
 exact PyProof.Rows.callWith_type1 (thn (ha pos pins s σ H _ I h) λus s1 ⟨vs,H1,I1,r1,q1⟩=>hc pins s1 σ H1 vs us Q I1 r1 q1) he hpl
end
end L2
namespace HT
open PySem PyProof.Rows
section
variable{prog:Program}{w:World}{A:Around}{E:Value->Shared->Prop}{s:Shared}
theorem cat_tup{t b:Addr}{vs ws:List Value}{Q:Value->Shared->Prop}(ht:IsTup s.heap t vs.toArray)(hb:IsTup s.heap b ws.toArray)(hv:vs≠[])
  (h1:ws=[]->Q (.ref t) s) (h2:ws≠[]->Q (.ref s.heap.objs.size) {s with heap:=s.heap.push {cls:=.type "tuple",data:=.seq (vs++ws).toArray}})
  (hsz:vs.length+ws.length<=sizeLine):wpAny (model prog w) A (binaryOp .Add (.ref t) (.ref b)) Q E s:=by
 obtain⟨⟨cls,dd,data,sl⟩,ho,hc,n,hd⟩:=id ht
 obtain⟨⟨cls2,dd2,data2,sl2⟩,ho2,hc2,n2,hd2⟩:=id hb
 simp only at hc hd hc2 hd2
 subst hc hd hc2 hd2
 have e:vs.toArray++ws.toArray=(vs++ws).toArray:=by simp
 by_cases hw:ws=[]
 ·exact concat_meets ⟨_,ho,rfl⟩ ⟨_,ho2,rfl⟩ noFill_tuple_add seq_tuple_add PySem.F.slot_tuple_add PySem.F.entry_tuple_add (PySem.F.args_tuple_add_2 _ _)
   (tuple_addW1 t b vs.toArray ws.toArray n n2 dd dd2 sl sl2 (by simpa using hv) (by simp[hw])) ⟨ho,ho2,h1 hw⟩
 ·refine concat_meets ⟨_,ho,rfl⟩ ⟨_,ho2,rfl⟩ noFill_tuple_add seq_tuple_add PySem.F.slot_tuple_add PySem.F.entry_tuple_add (PySem.F.args_tuple_add_2 _ _)
   (tuple_addW2 t b vs.toArray ws.toArray n n2 dd dd2 sl sl2 (by simpa using hv) (by simpa using hw) (by rw[List.size_toArray,List.size_toArray];exact hsz)) ⟨ho,ho2,?_⟩
  rw[e]
  exact h2 hw
def sIx(n d:Nat):Option Int->Nat
 |none=>d
 |some v=>if v<0 then(v+(n:Int)).toNat else min v.toNat n
theorem zIf(n d:Nat)(hd:d<=n)(o:Option Int):sIx n d o<=n:=by
 cases o with
 |none=>exact hd
 |some v=>
  show(if v<0 then(v+(n:Int)).toNat else min v.toNat n)<=n
  by_cases hv:v<0
  ·rw[if_pos hv];omega
  ·rw[if_neg hv];exact qa3_ _ _
theorem zB1(v:Int)(n d:Nat):(if v<0 then max (v+(n:Int)) 0 else min v (n:Int))=((sIx n d (some v):Nat):Int):=by
 show(if v<0 then max (v+(n:Int)) 0 else min v (n:Int))=(((if v<0 then(v+(n:Int)).toNat else min v.toNat n):Nat):Int)
 by_cases hv:v<0
 ·simp only[if_pos hv];omega
 ·simp only[if_neg hv];omega
theorem zEo(lo hi:Option Int)(n:Nat):Builtin.Slice.sliceAdjust lo hi 1 (n:Int)=(((sIx n 0 lo:Nat):Int),((sIx n n hi:Nat):Int)):=by
 have h1:¬ ((1:Int)<0):=by omega
 unfold Builtin.Slice.sliceAdjust
 simp only[h1,if_false]
 refine Prod.ext ?_ ?_
 ·cases lo with
  |none=>rfl
  |some v=>exact zB1 v n 0
 ·cases hi with
  |none=>rfl
  |some v=>exact zB1 v n n
theorem zD3(i j:Nat):Builtin.Slice.slicePlaces (i:Int) (j:Int) 1=j-i:=by
 unfold Builtin.Slice.slicePlaces
 have h1:(1:Int) > 0:=by omega
 simp only[h1,if_true,Int.ediv_one]
 split<;>omega
theorem yY{v:Value}{o:Option Int}{Q:Option Int->Shared->Prop}(p:IsPart v o)(h:Q o s):wpAny (model prog w) A (Builtin.Slice.slicePartIndex v) Q E s:=by
 cases p with
 |none=>exact slicePart_none h
 |int i t=>exact slicePart_int h
theorem sliceApplied_gen{sl:Addr}{vl vu:Value}{lo hi:Option Int}{n:Nat}{Q:Int×Int×Nat->Shared->Prop}(hs:s.heap.IsSliceOf sl vl vu .none)(pl:IsPart vl lo)(pu:IsPart vu hi)
  (h:Q (((sIx n 0 lo:Nat):Int),1,sIx n n hi-sIx n 0 lo) s):wpAny (model prog w) A (Builtin.Slice.sliceApplied (.ref sl) (pure (n:Int))) Q E s:=by
 obtain⟨os,hos,hcs,hds⟩:=id hs
 unfold Builtin.Slice.sliceApplied Builtin.Slice.sliceFields
 refine qa_ (qa_ (wpAny_field hos hds (x:=vl) rfl (qa_ (wpAny_field hos hds (x:=vu) rfl (qa_ (wpAny_field hos hds (x:=.none) rfl (qb_ ?_)))))))
 refine qa_ (slicePart_none ?_)
 show wpAny _ _ (if ((1:Int)==0)=true then _ else _) _ _ s
 rw[if_neg (by decide)]
 refine qa_ (yY pl (qa_ (yY pu (qa_ (qb_ ?_)))))
 show wpAny _ _ (match Builtin.Slice.sliceAdjust lo hi 1 (n:Int) with|(lo,hi)=>pure (lo,(1:Int),Builtin.Slice.slicePlaces lo hi 1)) _ _ s
 rw[zEo lo hi n]
 show wpAny _ _ (pure (((sIx n 0 lo:Nat):Int),(1:Int),Builtin.Slice.slicePlaces ((sIx n 0 lo:Nat):Int) ((sIx n n hi:Nat):Int) 1)) _ _ s
 rw[zD3]
 exact qb_ h
theorem zFP(xs:Array Value)(i k:Nat):((List.range k).filterMap λ(m:Nat)=>xs[((i:Int)+(m:Int)*1).toNat]?).toArray=((xs.toList.drop i).take k).toArray:=by
 have e:(λ(m:Nat)=>xs[((i:Int)+(m:Int)*1).toNat]?)=λm=>xs[i+m]?:=by
  funext m
  have:((i:Int)+(m:Int)*1).toNat=i+m:=by omega
  rw[this]
 rw[e]
 have:=pick_run xs i k
 rw[qr2_]at this
 have e2:((λx=>xs[x]?)∘λx=>i+x)=λm=>xs[i+m]?:=rfl
 rw[e2]at this
 rw[this]
theorem getItem_tuple_cut{t sl:Addr}{items:Array Value}{vl vu:Value}{lo hi:Option Int}{Q:Value->Shared->Prop}(ht:IsTup s.heap t items)(hs:s.heap.IsSliceOf sl vl vu .none)(pl:IsPart vl lo)(pu:IsPart vu hi)
  (hw:¬ (sIx items.size 0 lo=0/\sIx items.size items.size hi=items.size))
  (h:Q (.ref s.heap.objs.size) {s with heap:=s.heap.push {cls:=.type "tuple",data:=.seq ((items.toList.drop (sIx items.size 0 lo)).take (sIx items.size items.size hi-sIx items.size 0 lo)).toArray}})
  (hsz:items.size<=sizeLine):wpAny (model prog w) A (getItem (.ref t) (.ref sl)) Q E s:=by
 have htake:sizeOk (.seq ((items.toList.drop (sIx items.size 0 lo)).take (sIx items.size items.size hi-sIx items.size 0 lo)).toArray):=by
  show((items.toList.drop (sIx items.size 0 lo)).take (sIx items.size items.size hi-sIx items.size 0 lo)).toArray.size<=sizeLine
  rw[qo_,qO_,qI1_,qt_]
  omega
 have hj:sIx items.size items.size hi<=items.size:=zIf _ _ (qe_ _) hi
 obtain⟨os,hos,hcs,hds⟩:=id hs
 have hTs:s.TypeIs (.ref sl) "slice":=⟨os,hos,hcs⟩
 unfold getItem
 try with_reducible refine qC_ ?_
 first|refine qa_ (qb_ ?_)|skip
 refine qa_ (wpAny_sequenceKey ht.typeIs (by decide) ?_)
 refine qa_ (wpAny_callSpecial?_slot (name:=Str.ofString "__getitem__") ht.typeIs PyProof.Rows.slot_tuple_getitem
  (qJ_ PyProof.Rows.slot_tuple_getitem ht.typeIs entry_tuple_getitem ?_ (args_tuple_getitem _ _)))
 show wpAny _ _ (Builtin.Tuple.tupleItemsOf (.ref t) >>= _) _ _ s
 refine qa_ (tupleItemsOf_ ht ?_)
 refine qa_ (wpAny_typeOf hTs ?_)
 rw[if_pos (by decide)]
 refine qa_ (sliceApplied_gen hs pl pu ?_)
 have hno:¬ ((((sIx items.size 0 lo:Nat):Int)==0&&(1:Int)==1&&(sIx items.size items.size hi-sIx items.size 0 lo)==items.size)=true):=by
  intro q
  rw[qR1_,qR1_]at q
  have q1:((sIx items.size 0 lo:Nat):Int)=0:=eq_of_beq q.1.1
  have q2:sIx items.size items.size hi-sIx items.size 0 lo=items.size:=eq_of_beq q.2
  exact hw ⟨by omega,by omega⟩
 show wpAny _ _ (if (((sIx items.size 0 lo:Nat):Int)==0&&(1:Int)==1&&(sIx items.size items.size hi-sIx items.size 0 lo)==items.size)=true then _ else _) _ _ s
 rw[if_neg hno,zFP]
 first
  |exact qa_ (m:=Builtin.Tuple.tupleExact _) (qR_ (qb_ ⟨_,rfl,qb_ h⟩) htake)
  |exact qa_ (m:=Builtin.Tuple.tupleExact _) (qR_ (qa_ (qb_ (qb_ ⟨_,rfl,qb_ h⟩))) htake)
  |exact qa_ (qa_ (m:=Builtin.Tuple.tupleExact _) (qR_ (qb_ (qb_ ⟨_,rfl,qb_ h⟩)) htake))
  |exact qa_ (qa_ (m:=Builtin.Tuple.tupleExact _) (qR_ (qb_ ⟨_,rfl,qb_ h⟩) htake))
end
end HT
namespace L2
open PySem PySem.Spec PyProof.Rows
abbrev TO:=St->Hp->(Option Int->Hp->Prop)->Prop
def PO(X:Cx)(e:Option Expr)(t:TO):Prop:=
 ∀(pins:List (Addr×Obj)) (s:Shared) (σ:St) (H:Hp) (Q:Option Int->Hp->Prop),Inv X pins σ H s->t σ H Q ->
  wpAny (model X.prog X.w) X.A (evalPart e X.env) (λu s'=>∃o H',Inv X pins σ H' s'/\IsPart u o/\Q o H') X.xe s
def zGH:TO:=λ_ H Q=>Q none H
def zJA(t:TE):TO:=λσ H Q=>t σ H λx H1=>∃i,x=.int i/\Q (some i) H1
theorem pR{ns:List Int}:∀{us:List Value},Vals (ns.map V.int) us->IntsAre us ns:=by
 induction ns with
 |nil=>intro us r;rw[qs2_]at r;cases r;exact .nil
 |cons n ns ih=>
  intro us r
  rw[qF_]at r
  cases r with
  |cons r1 r2=>
   obtain⟨t,e⟩:=r1
   subst e
   exact .cons n t (ih r2)
section
variable{X:Cx}{e:Expr}{te:TE}{lo hi:Option Expr}{tl th:TO}{pos p2:Pos}
theorem zBz:PO X none zGH:=by
 intro pins s σ H Q I h
 rw[evalPart_none]
 exact qb_ ⟨none,H,I,.none,h⟩
theorem zBy(h:PE X e te):PO X (some e) (zJA te):=by
 intro pins s σ H Q I hw
 rw[evalPart_some]
 refine thn (h pins s σ H _ I hw) λu s1 ⟨x,H1,I1,r1,q1⟩=>?_
 obtain⟨i,rfl,q⟩:=q1
 obtain⟨t,rfl⟩:=r1
 exact⟨some i,H1,I1,.int i t,q⟩
def SlR(X:Cx)(r:V->Option Int->Option Int->Hp->VK->Prop):Prop:=
 ∀(pins:List (Addr×Obj)) (s:Shared) (σ:St) (H:Hp) (x:V) (v vl vu:Value) (lo hi:Option Int) (sl:Addr) (Q:VK),Inv X pins σ H s->RelV x v->s.heap.IsSliceOf sl vl vu .none->IsPart vl lo->IsPart vu hi->r x lo hi H Q ->
  ∃T id,typeLookup (.type T) "__getitem__"=pure (some (.builtin id))/\s.TypeIs v T/\wpAny (model X.prog X.w) X.A (getItem v (.ref sl)) (EP X pins σ Q) X.xe s
theorem SlR.or{r r':V->Option Int->Option Int->Hp->VK->Prop}(h:SlR X r)(h':SlR X r'):SlR X (λx lo hi H Q=>r x lo hi H Q\/r' x lo hi H Q):=by
 intro pins s σ H x v vl vu lo hi sl Q I rx hs pl pu q
 rcases q with q|q
 ·exact h pins s σ H x v vl vu lo hi sl Q I rx hs pl pu q
 ·exact h' pins s σ H x v vl vu lo hi sl Q I rx hs pl pu q
def tSl(r:V->Option Int->Option Int->Hp->VK->Prop)(te:TE)(tl th:TO):TE:=λσ H Q=>te σ H λx H1=>tl σ H1 λl H2=>th σ H2 λu H3=>r x l u H3 Q
theorem zAM{r:V->Option Int->Option Int->Hp->VK->Prop}(hr:SlR X r)(he:PE X e te)(hl:PO X lo tl)(hu:PO X hi th):PE X (.Subscript e (.Slice lo hi none p2) pos) (tSl r te tl th):=by
 intro pins s σ H Q I h
 refine Subscript_ (thn (he pins s σ H _ I h) λv s1 ⟨x,H1,I1,r1,q1⟩=>?_)
 refine wpAny_Slice (thn (hl pins s1 σ H1 _ I1 q1) λvl s2 ⟨l,H2,I2,pl,q2⟩=>thn (hu pins s2 σ H2 _ I2 q2) λvu s3 ⟨u,H3,I3,pu,q3⟩=>?_)
 rw[evalPart_none]
 refine qb_ ?_
 have I4:Inv X pins σ H3 {s3 with heap:=s3.heap.push {cls:=.type "slice",data:=.fields #[vl,vu,.none]}}:=I3.kept (t':=s3.toks) λb ob q=>qd_ _ q
 obtain⟨T,id,hT,ht,hg⟩:=hr pins {s3 with heap:=s3.heap.push {cls:=.type "slice",data:=.fields #[vl,vu,.none]}} σ H3 x v vl vu l u s3.heap.objs.size Q I4 r1 (Heap.IsSliceOf.new ..) pl pu q3
 show wpAny (model X.prog X.w) X.A (subscriptTail e (.Slice lo hi none p2) v (.ref s3.heap.objs.size)) (EP X pins σ Q) X.xe {s3 with heap:=s3.heap.push {cls:=.type "slice",data:=.fields #[vl,vu,.none]}}
 exact tail_any (ops:=[.ref s3.heap.objs.size,v]) ht hT hg (by with_unfolding_all rfl)
def gB(xs:List V)(lo hi:Option Int):List V:=(xs.drop (HT.sIx xs.length 0 lo)).take (HT.sIx xs.length xs.length hi-HT.sIx xs.length 0 lo)
theorem yS(xs:List V)(lo hi:Option Int):(gB xs lo hi).length<=xs.length:=by
 unfold gB
 rw[qO_,qI1_]
 omega
def zKN(K:W.Frag):V->Option Int->Option Int->Hp->VK->Prop:=λx lo hi H Q=>∃a xs,x=.ref a/\SqT K H a xs /\
 ¬ (HT.sIx xs.length 0 lo=0/\HT.sIx xs.length xs.length hi=xs.length)/\∀p,H p=none->Q (.ref p) (upd H p (.tup (gB xs lo hi)))
theorem zH8:SlR X (zKN X.K):=by
 intro pins s σ H x v vl vu lo hi sl Q I rx hs pl pu h
 obtain⟨a,xs,rfl,hx,hw,q⟩:=h
 cases rx
 obtain⟨its,r,ht,hz⟩:=I.tuple hx
 have hlen:its.toArray.size=xs.length:=by rw[qo_];exact r.length.symm
 refine⟨"tuple",_,PyProof.Rows.slot_tuple_getitem.lookup,ht.typeIs,?_⟩
 refine HT.getItem_tuple_cut ht hs pl pu (by rw[hlen];exact hw) ?_ (by rw[hlen];exact hz)
 rw[hlen]
 refine⟨.ref s.heap.objs.size,_,I.laid (t':=s.toks) (o:=.tup (gB xs lo hi)) (λb ob q=>qd_ _ q) (qe_ _) ?_,rfl,q _ (I.hok.fresh (qe_ _))⟩
 exact⟨qi_ (yS xs lo hi) hz,_,(r.drop (HT.sIx xs.length 0 lo)).take (HT.sIx xs.length xs.length hi-HT.sIx xs.length 0 lo),IsTup.new _ _⟩
def zJR(K:W.Frag):R2:=λx y H Q=>∃a b xs ys,x=.ref a/\y=.ref b/\SqT K H a xs/\SqT K H b ys/\xs≠[]/\xs.length+ys.length<=sizeLine /\
 (ys=[]->Q (.ref a) H)/\(ys≠[]->∀p,H p=none->Q (.ref p) (upd H p (.tup (xs++ys))))
theorem Vals.nil_iff{xs:List V}{us:List Value}(r:Vals xs us):us=[]↔xs=[]:=by
 cases r with
 |nil=>simp
 |cons _ _=>simp
theorem zHf:OpR X (binaryOp .Add) (zJR X.K):=by
 intro pins s σ H x y v u Q I rx ry h
 obtain⟨a,b,xs,ys,rfl,rfl,ha,hb,hx,hz,q1,q2⟩:=h
 cases rx
 cases ry
 obtain⟨its,r1,p1,_⟩:=I.tuple ha
 obtain⟨its2,r2,p2,_⟩:=I.tuple hb
 refine HT.cat_tup p1 p2 (λz=>hx (r1.nil_iff.mp z)) (λz=>⟨.ref a,H,I,rfl,q1 (r2.nil_iff.mp z)⟩) (λz=>?_) (by rw[<-r1.length,<-r2.length];exact hz)
 refine⟨.ref s.heap.objs.size,_,I.laid (t':=s.toks) (o:=.tup (xs++ys)) (λb ob q=>qd_ _ q) (qe_ _) ?_,rfl,q2 (λw=>z (r2.nil_iff.mpr w)) _ (I.hok.fresh (qe_ _))⟩
 exact⟨by rw[qh_];exact hz,_,r1.append r2,IsTup.new _ _⟩
end
end L2
namespace L2
open PySem PySem.Spec PyProof.Rows
def ixN(n:Nat)(i:Int):Option Nat:=if 0<=i then(if i<n then some i.toNat else none) else if -(n:Int)<=i then some (i+n).toNat else none
def atI{α:Type}(xs:List α)(i:Int):Option α:=(ixN xs.length i).bind λj=>xs[j]?
theorem zBO{n:Nat}{i:Int}{j:Nat}(h:ixN n i=some j):seqIndex? i n=some j/\j<n /\ -(n:Int)<=i/\i<n:=by
 unfold ixN at h
 by_cases h0:0<=i
 ·rw[if_pos h0]at h
  by_cases h1:i<n
  ·rw[if_pos h1]at h
   have e:i.toNat=j:=Option.some.inj h
   exact⟨by rw[seqIndex_of h0 h1,e],by omega,by omega,h1⟩
  ·rw[if_neg h1]at h;cases h
 ·rw[if_neg h0]at h
  by_cases h1:-(n:Int)<=i
  ·rw[if_pos h1]at h
   have e:(i+n).toNat=j:=Option.some.inj h
   exact⟨by rw[seqIndex_neg (by omega) h1,e],by omega,h1,by omega⟩
  ·rw[if_neg h1]at h;cases h
theorem vX{α:Type}{xs:List α}{i:Int}{v:α}(h:atI xs i=some v):∃j,seqIndex? i xs.length=some j/\xs[j]?=some v/\j<xs.length /\ -(xs.length:Int)<=i/\i<xs.length:=by
 unfold atI at h
 cases e:ixN xs.length i with
 |none=>rw[e]at h;cases h
 |some j=>
  rw[e]at h
  obtain⟨h1,h2,h3,h4⟩:=zBO e
  exact⟨j,h1,h,h2,h3,h4⟩
theorem bG{α:Type}{xs:List α}{j:Nat}{v:α}(h:xs[j]?=some v):atI xs (j:Int)=some v:=by
 have hj:j<xs.length:=(qw_.mp h).1
 have e:ixN xs.length (j:Int)=some j:=by
  unfold ixN
  rw[if_pos (by omega),if_pos (by omega)];simp
 unfold atI;rw[e];exact h
def qZ(b:Expr):Prop:=∀o i,subscripted b false o i=operate [o,i] (getItem o i)
def IxR(X:Cx)(r:R2):Prop:=
 ∀(value slice:Expr) (pins:List (Addr×Obj)) (s:Shared) (σ:St) (H:Hp) (x y:V) (v u:Value) (Q:VK),Inv X pins σ H s->RelV x v->RelV y u->r x y H Q ->
  subscripted slice false v u=operate [v,u] (getItem v u)->wpAny (model X.prog X.w) X.A (subscriptTail value slice v u) (EP X pins σ Q) X.xe s
def MtR(X:Cx)(id:String)(r:V->List V->Hp->VK->Prop):Prop:=
 ∀(pins:List (Addr×Obj)) (s:Shared) (σ:St) (H:Hp) (x:V) (xs:List V) (v:Value) (us:List Value) (Q:VK),Inv X pins σ H s->RelV x v->Vals xs us->r x xs H Q ->
  wpAny (model X.prog X.w) X.A (call (.builtin id) (v::us)) (EP X pins σ Q) X.xe s
section
variable{X:Cx}{a b:Expr}{ta tb:TE}{pos:Pos}
theorem IxR.or{r r':R2}(h:IxR X r)(h':IxR X r'):IxR X (λx y H Q=>r x y H Q\/r' x y H Q):=by
 intro value slice pins s σ H x y v u Q I rx ry q hs
 rcases q with q|q
 ·exact h value slice pins s σ H x y v u Q I rx ry q hs
 ·exact h' value slice pins s σ H x y v u Q I rx ry q hs
theorem jA{r:R2}(hr:IxR X r)(ha:PE X a ta)(hb:PE X b tb)(hs:qZ b):PE X (.Subscript a b pos) (tOp r ta tb):=by
 intro pins s σ H Q I h
 exact Subscript_ (xU ha hb I h λv u s2 x y H2 I2 rx ry q=>hr a b pins s2 σ H2 x y v u Q I2 rx ry q (hs _ _))
def zC0(K:W.Frag):R2:=λx y H Q=>∃p xs i v,x=.ref p/\y=.int i/\SqL K H p xs/\atI xs i=some v/\Q v H
def zCY(K:W.Frag):R2:=λx y H Q=>∃p xs i v,x=.ref p/\y=.int i/\SqT K H p xs/\atI xs i=some v/\Q v H
def zCZ:R2:=λx y H Q=>∃z i c,x=.str z/\y=.int i/\z.length<=sizeLine/\atI z.cps.toList i=some c/\Q (.str ⟨#[c]⟩) H
theorem ix_list:IxR X (zC0 X.K):=by
 intro value slice pins s σ H x y v u Q I rx ry h hs
 obtain⟨p,xs,i,z,rfl,rfl,hq,he,q⟩:=h
 cases rx
 obtain⟨t,rfl⟩:=ry
 obtain⟨its,r,pl,hz⟩:=I.list hq
 obtain⟨j,h1,h2,h3,h4,h5⟩:=vX he
 obtain⟨w,ew,rw'⟩:=r.get h2
 have hl:=r.length
 have hn:=lU
 have fin:EP X pins σ Q w s:=⟨z,H,I,rw',q⟩
 by_cases h0:0<=i
 ·have hj:i.toNat=j:=by
   rw[seqIndex_of h0 h5]at h1
   exact Option.some.inj h1
  exact item_listR pl.isList h0 (by omega) (by rw[hj];simpa using ew) fin hs
 ·have hj:(i+(its.toArray.size:Int)).toNat=j:=by
   rw[seqIndex_neg (by omega) h4]at h1
   rw[qo_,<-hl]
   exact Option.some.inj h1
  exact subscriptTail_builtinR (x:=w) pl.isList.typeIs slot_list_getitem.lookup
   (wpAny_getItem_list_neg (Q:=λr s'=>r=w/\EP X pins σ Q r s') pl.isList (by omega) (by rw[qo_]<;>omega) (by omega) (by rw[hj];simpa using ew) ⟨rfl,fin⟩) hs
theorem ix_tup:IxR X (zCY X.K):=by
 intro value slice pins s σ H x y v u Q I rx ry h hs
 obtain⟨p,xs,i,z,rfl,rfl,hq,he,q⟩:=h
 cases rx
 obtain⟨t,rfl⟩:=ry
 obtain⟨its,r,pl,hz⟩:=I.tuple hq
 obtain⟨j,h1,h2,h3,h4,h5⟩:=vX he
 obtain⟨w,ew,rw'⟩:=r.get h2
 have hl:=r.length
 have hn:=lU
 have fin:EP X pins σ Q w s:=⟨z,H,I,rw',q⟩
 exact subscriptTail_builtinR (x:=w) pl.typeIs slot_tuple_getitem.lookup
  (getItem_tuple (j:=j) (Q:=λr s'=>r=w/\EP X pins σ Q r s') pl (by omega) (by omega) (by rw[qo_,<-hl];exact h1) (by simpa using ew) ⟨rfl,fin⟩) hs
theorem zJa:IxR X zCZ:=by
 intro value slice pins s σ H x y v u Q I rx ry h hs
 obtain⟨z,i,c,rfl,rfl,hz,he,q⟩:=h
 obtain⟨t,rfl⟩:=rx
 obtain⟨t',rfl⟩:=ry
 obtain⟨j,h1,h2,h3,h4,h5⟩:=vX he
 have hl:z.cps.toList.length=z.length:=by simp[Str.length]
 rw[hl]at h1 h4 h5
 have hn:=lU
 exact tail_any (typeIs_str s z t) slot_str_getitem.lookup (getItem_str (c:=c) (by
  have e1:decide (i < -(2 ^ 63:Int))=false:=qH_ (by omega)
  have e2:decide (i>=2 ^ 63)=false:=qH_ (by omega)
  rw[e1,e2,qt2_]) (by rw[h1];simpa using h2) ⟨.str ⟨#[c]⟩,H,I.tok _,⟨_,rfl⟩,q⟩) hs
def rIx(K:W.Frag):R2:=λx y H Q=>zC0 K x y H Q\/zCY K x y H Q\/zCZ x y H Q
theorem ix_seq:IxR X (rIx X.K):=ix_list.or (ix_tup.or zJa)
theorem zEa(its:List Value)(n j:Nat)(u:Value):Obj.mapSeq (·.setIfInBounds j u) {cls:=.type "list",data:=.seq its.toArray n}={cls:=.type "list",data:=.seq (its.set j u).toArray n}:=by
 simp[Obj.mapSeq]
theorem Inv.lst{pins:List (Addr×Obj)}{σ:St}{H:Hp}{s:Shared}{p:Addr}{xs:List V}(I:Inv X pins σ H s)(h:H p=some (.lst xs)):
  ∃(its:List Value) (n:Nat),Vals xs its/\s.heap.get? p=some {cls:=.type "list",data:=.seq its.toArray n}/\xs.length<=sizeLine:=by
 obtain⟨z,its,n,r,e⟩:=I.hok p _ h
 exact⟨its,n,r,e,z⟩
theorem Inv.lstUpd{pins:List (Addr×Obj)}{σ:St}{H:Hp}{s:Shared}{p:Addr}{xs ys:List V}{its its':List Value}{n n':Nat}{f:Obj->Obj}(I:Inv X pins σ H s)(h:H p=some (.lst xs))
  (ho:s.heap.get? p=some {cls:=.type "list",data:=.seq its.toArray n}) (hf:f {cls:=.type "list",data:=.seq its.toArray n}={cls:=.type "list",data:=.seq its'.toArray n'}) (r:Vals ys its') (hz:ys.length<=sizeLine) (t:Nat):
  Inv X pins σ (upd H p (.lst ys)) {s with heap:=s.heap.update p f,toks:=t}:=by
 have e:(s.heap.update p f).get? p=some {cls:=.type "list",data:=.seq its'.toArray n'}:=by
  rw[qU_ f ho (by rw[hf]<;>rfl),hf]
 refine I.write (x:=p) (e:=p) (by rw[h];trivial) (.inl rfl) (λb u hb q=>(qJ1_ _ _ (Ne.symm hb)).trans q) ⟨_,e⟩ ?_
 exact⟨hz,its',n',r,e⟩
def zJK:V->V->V->Hp->(Hp->Prop)->Prop:=λo i v H Q=>∃p xs k j,o=.ref p/\i=.int k/\H p=some (.lst xs)/\ixN xs.length k=some j/\Q (upd H p (.lst (xs.set j v)))
theorem zFG:zDl X zJK:=by
 intro pins s σ H o i v ov iv u Q I ro ri rv h
 obtain⟨p,xs,k,j,rfl,rfl,hp,hj,q⟩:=h
 cases ro
 obtain⟨t,rfl⟩:=ri
 obtain⟨its,n,r,ho,hz⟩:=I.lst hp
 obtain⟨h1,h2,h3,h4⟩:=zBO hj
 have hl:=r.length
 have hn:=lU
 have I':Inv X pins σ (upd H p (.lst (xs.set j v))) {s with heap:=s.heap.update p (Obj.mapSeq (·.setIfInBounds j u))}:=
  I.lstUpd hp ho (zEa its n j u) (r.set rv j) (by rw[qv1_];exact hz) s.toks
 by_cases h0:0<=k
 ·have hk:k.toNat=j:=by
   rw[seqIndex_of h0 h4]at h1
   exact Option.some.inj h1
  exact PySem.W.ki_setAt ho h0 (by omega) (by rw[qo_,<-hl];exact h4) (by rw[hk];exact⟨_,I',q⟩)
 ·have hk:(k+(its.toArray.size:Int)).toNat=j:=by
   rw[seqIndex_neg (by omega) h3]at h1
   rw[qo_,<-hl]
   exact Option.some.inj h1
  exact PySem.W.ki_setBack ho (by omega) (by rw[qo_,<-hl];exact h3) (by omega) (by rw[hk];exact⟨_,I',q⟩)
theorem zDA(lo hi:Option Int)(n:Nat):(sliceBounds lo hi none n).1=((HT.sIx n 0 lo:Nat):Int)/\(sliceBounds lo hi none n).2.1=((HT.sIx n n hi:Nat):Int)/\(sliceBounds lo hi none n).2.2=1:=by
 refine⟨?_,?_,rfl⟩
 ·cases lo with
  |none=>simp[sliceBounds,HT.sIx]
  |some i=>
   simp only[sliceBounds,HT.sIx,Option.getD_none,show(1:Int) > 0 by decide,if_true]
   by_cases h:i<0
   ·simp only[h,if_true]<;>omega
   ·simp only[h,if_false]<;>omega
 ·cases hi with
  |none=>simp[sliceBounds,HT.sIx]
  |some i=>
   simp only[sliceBounds,HT.sIx,Option.getD_none,show(1:Int) > 0 by decide,if_true]
   by_cases h:i<0
   ·simp only[h,if_true]<;>omega
   ·simp only[h,if_false]<;>omega
theorem zDt(its:List Value)(lo hi:Option Int):slicePick its.toArray lo hi none=((its.drop (HT.sIx its.length 0 lo)).take (HT.sIx its.length its.length hi-HT.sIx its.length 0 lo)).toArray:=by
 obtain⟨h1,h2,h3⟩:=zDA lo hi its.toArray.size
 unfold slicePick
 rw[h1,h2,h3]
 simp only[sliceRange_one,pick_run,List.size_toArray]<;>rfl
def zKP(K:W.Frag):V->Option Int->Option Int->Hp->VK->Prop:=λx lo hi H Q=>∃a xs,x=.ref a/\SqL K H a xs/\∀p,H p=none->Q (.ref p) (upd H p (.lst (gB xs lo hi)))
theorem sl_list:SlR X (zKP X.K):=by
 intro pins s σ H x v vl vu lo hi sl Q I rx hs pl pu h
 obtain⟨a,xs,rfl,hx,q⟩:=h
 cases rx
 obtain⟨its,r,ht,hz⟩:=I.list hx
 have hlen:=r.length
 refine⟨"list",_,slot_list_getitem.lookup,ht.isList.typeIs,?_⟩
 refine wpAny_getItem_list_slice ht.isList hs pl pu .none (by simp) ?_ (by rw[List.size_toArray]<;>omega)
 rw[zDt,<-hlen]
 refine⟨.ref s.heap.objs.size,_,I.laid (t':=s.toks) (o:=.lst (gB xs lo hi)) (λb ob q=>qd_ _ q) (qe_ _) ?_,rfl,q _ (I.hok.fresh (qe_ _))⟩
 exact⟨qi_ (yS xs lo hi) hz,_,0,(r.drop (HT.sIx xs.length 0 lo)).take (HT.sIx xs.length xs.length hi-HT.sIx xs.length 0 lo),qj_ _ rfl⟩
def dJ:V->Bool
 |.non=>true
 |.bl _=>true
 |.int _=>true
 |.str _=>true
 |_=>false
def eqV:V->V->Bool
 |.non,.non=>true
 |.bl a,.bl b=>a==b
 |.bl a,.int b=>(if a then 1 else 0)==b
 |.int a,.bl b=>a==(if b then 1 else 0)
 |.int a,.int b=>a==b
 |.str a,.str b=>a==b
 |_,_=>false
theorem zCt{A:Around}{s:Shared}{y x:V}{u v:Value}(ry:RelV y u)(rx:RelV x v)(fy:dJ y=true)(fx:dJ x=true):SeqAt.EqAt A s u v (eqV y x):=by
 cases y with
 |non=>
  cases ry
  cases x with
  |non=>cases rx;exact SeqAt.EqAt.same _
  |bl b=>cases rx;exact SeqAt.EqAt.none_bool b
  |int b=>obtain⟨t,rfl⟩:=rx;exact SeqAt.EqAt.none_int b t
  |str b=>obtain⟨t,rfl⟩:=rx;exact SeqAt.EqAt.none_str b t
  |_=>exact absurd (show false=true from fx) ql_
 |bl a=>
  cases ry
  cases x with
  |non=>cases rx;exact SeqAt.EqAt.bool_none a
  |bl b=>cases rx;exact SeqAt.EqAt.bool_bool a b
  |int b=>obtain⟨t,rfl⟩:=rx;exact SeqAt.EqAt.bool_int a b t
  |str b=>obtain⟨t,rfl⟩:=rx;exact SeqAt.EqAt.bool_str a b t
  |_=>exact absurd (show false=true from fx) ql_
 |int a=>
  obtain⟨t',rfl⟩:=ry
  cases x with
  |non=>cases rx;exact SeqAt.EqAt.int_none a t'
  |bl b=>cases rx;exact SeqAt.EqAt.int_bool a t' b
  |int b=>obtain⟨t,rfl⟩:=rx;exact SeqAt.EqAt.int_int a t' b t
  |str b=>obtain⟨t,rfl⟩:=rx;exact SeqAt.EqAt.int_str a t' b t
  |_=>exact absurd (show false=true from fx) ql_
 |str a=>
  obtain⟨t',rfl⟩:=ry
  cases x with
  |non=>cases rx;exact SeqAt.EqAt.str_none a t'
  |bl b=>cases rx;exact SeqAt.EqAt.str_bool a t' b
  |int b=>obtain⟨t,rfl⟩:=rx;exact SeqAt.EqAt.str_int a t' b t
  |str b=>obtain⟨t,rfl⟩:=rx;exact SeqAt.EqAt.str_str a t' b t
  |_=>exact absurd (show false=true from fx) ql_
 |_=>exact absurd (show false=true from fy) ql_
theorem op_notIn_str:OpR X (compareOp .NotIn) (λx y H Q=>∃i j,x=.str i/\y=.str j/\Q (.bl (!(!(Builtin.Str.occurrences j i 0 j.length 1).isEmpty))) H):=by
 intro pins s σ H x y v u Q I rx ry h
 obtain⟨i,j,rfl,rfl,q⟩:=h
 obtain⟨t,rfl⟩:=rx
 obtain⟨t',rfl⟩:=ry
 exact notIn_str ⟨.bl _,H,I,rfl,q⟩
theorem call_len_seq:CallR X (.builtin "len") (λxs H Q=>∃p ys,xs=[.ref p]/\(SqL X.K H p ys\/SqT X.K H p ys)/\Q (.int ys.length) H):=by
 intro pins s σ H xs us Q I r h
 obtain⟨p,ys,rfl,hq,q⟩:=h
 obtain⟨u,rfl,rx⟩:=cQ r
 cases rx
 have hn:=lU
 rcases hq with hq|hq
 ·obtain⟨its,r',pl,hz⟩:=I.list hq
  have hlen:=r'.length
  exact Calls.call_len_list pl.isList (by simp only[List.size_toArray]<;>omega) ⟨.int ys.length,H,I.tok _,⟨s.toks+1,by rw[qo_,hlen]⟩,q⟩
 ·obtain⟨its,r',pl,hz⟩:=I.tuple hq
  have hlen:=r'.length
  exact len_tuple pl (by simp only[List.size_toArray]<;>omega) ⟨.int ys.length,H,I.tok _,⟨s.toks+1,by rw[qo_,hlen]⟩,q⟩
theorem call_len_str:CallR X (.builtin "len") (λxs H Q=>∃z,xs=[.str z]/\z.length<=sizeLine/\Q (.int z.length) H):=by
 intro pins s σ H xs us Q I r h
 obtain⟨z,rfl,hz,q⟩:=h
 obtain⟨u,rfl,t,rfl⟩:=cQ r
 have hn:=lU
 exact len_str (by omega) ⟨.int z.length,H,I.tok _,⟨_,rfl⟩,q⟩
theorem CallR.or{f:Value}{r r':List V->Hp->VK->Prop}(h:CallR X f r)(h':CallR X f r'):CallR X f (λxs H Q=>r xs H Q\/r' xs H Q):=by
 intro pins s σ H xs us Q I rs q
 rcases q with q|q
 ·exact h pins s σ H xs us Q I rs q
 ·exact h' pins s σ H xs us Q I rs q
theorem yM:CallR X (.type "list") (λxs H Q=>∃p ys,xs=[.ref p]/\(SqL X.K H p ys\/SqT X.K H p ys)/\∀l,H l=none->Q (.ref l) (upd H l (.lst ys))):=by
 intro pins s σ H xs us Q I r h
 obtain⟨p,ys,rfl,hq,q⟩:=h
 obtain⟨u,rfl,rx⟩:=cQ r
 cases rx
 have fin:∀(its:List Value),Vals ys its->ys.length<=sizeLine->∀(h':Heap) (c':Nat),(∀b o',s.heap.get? b=some o'->h'.get? b=some o') ->
   h'.get? s.heap.objs.size=some {cls:=.type "list",dict:=none,data:=.seq its.toArray c',slots:=#[]}->EP X pins σ Q (.ref s.heap.objs.size) {s with heap:=h'}:=λits r' hz h' c' kp e=>
  ⟨.ref s.heap.objs.size,_,I.laid (t':=s.toks) kp (qe_ _) (show ObjOk X.prog X.w _ h' _ (.lst ys) from ⟨hz,its,c',r',e⟩),rfl,q _ (I.hok.fresh (qe_ _))⟩
 rcases hq with hq|hq
 ·obtain⟨its,r',pl,hz⟩:=I.list hq
  have hlen:=r'.length
  obtain⟨o,ho,hc,n,hd⟩:=pl.isList
  exact call_list_seq p (.inl rfl) ho hc hd (λh' c' kp e=>fin its r' hz h' c' kp e) (by simp only[List.size_toArray]<;>omega)
 ·obtain⟨its,r',pl,hz⟩:=I.tuple hq
  have hlen:=r'.length
  obtain⟨o,ho,hc,n,hd⟩:=pl
  exact call_list_seq p (.inr rfl) ho hc hd (λh' c' kp e=>fin its r' hz h' c' kp e) (by simp only[List.size_toArray]<;>omega)
theorem zDx:CallR X (.type "tuple") (λxs H Q=>∃p ys,xs=[.ref p]/\((SqL X.K H p ys/\∀l,H l=none->Q (.ref l) (upd H l (.tup ys)))\/(SqT X.K H p ys/\Q (.ref p) H))):=by
 intro pins s σ H xs us Q I r h
 obtain⟨p,ys,rfl,h⟩:=h
 obtain⟨u,rfl,rx⟩:=cQ r
 cases rx
 rcases h with⟨hq,q⟩|⟨hq,q⟩
 ·obtain⟨its,r',pl,hz⟩:=I.list hq
  have hlen:=r'.length
  refine call_tuple_list pl.isList (λh' kp=>?_) (by simp only[List.size_toArray]<;>omega)
  have I1:Inv X pins σ H {s with heap:=h'}:=I.kept (t':=s.toks) kp
  have I2:Inv X pins σ (upd H h'.objs.size (.tup ys)) {s with heap:=h'.push {cls:=.type "tuple",data:=.seq its.toArray}}:=
   I1.laid (t':=s.toks) (λb o e=>qd_ _ e) (qe_ _) (show ObjOk X.prog X.w _ _ _ (.tup ys) from ⟨hz,its,r',IsTup.new _ _⟩)
  exact⟨.ref h'.objs.size,_,I2,rfl,q _ (I1.hok.fresh (qe_ _))⟩
 ·obtain⟨its,r',pl,hz⟩:=I.tuple hq
  exact call_tuple_same pl ⟨.ref p,H,I,rfl,q⟩
def tyV(K:W.Frag)(T:String)(x:V)(H:Hp):Prop:=match x with
 |.str _=>T="str"
 |.int _=>T="int"
 |.ref p=>(T="list"/\∃xs,SqL K H p xs)\/(T="tuple"/\∃o,K.lookup p=some o/\o.cls=.type "tuple"/\o.dict=none) \/
   (T="dict"/\((∃kvs,H p=some (.dK kvs))\/∃kvs,H p=some (.dT kvs)))\/(T="set"/\∃S n,H p=some (.set S n))
 |_=>False
theorem zB7{pins:List (Addr×Obj)}{σ:St}{H:Hp}{s:Shared}{T:String}{x:V}{v:Value}(I:Inv X pins σ H s)(r:RelV x v)(ty:tyV X.K T x H):
  s.TypeIs v T/\∀a,v=.ref a->∃ob,s.heap.get? a=some ob/\ob.dict=none:=by
 cases x with
 |str z=>
  obtain⟨t,rfl⟩:=r
  cases (show T="str" from ty)
  exact⟨typeIs_str s z t,λ_ e=>nomatch e⟩
 |int i=>
  obtain⟨t,rfl⟩:=r
  cases (show T="int" from ty)
  exact⟨typeIs_int s i t,λ_ e=>nomatch e⟩
 |ref p=>
  cases r
  rcases ty with⟨rfl,xs,hq⟩|⟨rfl,o,hk,hc,hd⟩|⟨rfl,hk⟩|⟨rfl,S,n,hk⟩
  ·obtain⟨its,_,pl,_⟩:=I.list hq
   refine⟨pl.isList.typeIs,λa e=>?_⟩
   cases e
   obtain⟨o,n,e,c,hd,_⟩:=pl
   exact⟨o,e,hd⟩
  ·refine⟨⟨o,I.kIn p o hk,hc⟩,λa e=>?_⟩
   cases e
   exact⟨o,I.kIn _ o hk,hd⟩
  ·have z:∃o,s.heap.get? p=some o/\o.ExactDict:=by
    rcases hk with⟨kvs,hk⟩|⟨kvs,hk⟩
    ·obtain⟨_,_,_,_,o,_,_,e,ex,_⟩:=I.hok p _ hk
     exact⟨o,e,ex⟩
    ·obtain⟨_,_,_,_,o,_,_,e,ex,_⟩:=I.hok p _ hk
     exact⟨o,e,ex⟩
   obtain⟨o,e,ex⟩:=z
   refine⟨⟨o,e,ex.1⟩,λa e2=>?_⟩
   cases e2
   exact⟨o,e,ex.2.1⟩
  ·obtain⟨o,_,_,_,e,ex,_⟩:=I.hok p _ hk
   refine⟨⟨o,e,ex.1⟩,λa e2=>?_⟩
   cases e2
   exact⟨o,e,ex.2.1⟩
 |_=>exact False.elim ty
def zKI(K:W.Frag)(T:String)(r:V->List V->Hp->VK->Prop)(to:TE):TE:=λσ H Q=>to σ H λx H1=>tyV K T x H1/\r x [] H1 Q
def tBM(K:W.Frag)(T:String)(r:V->List V->Hp->VK->Prop)(to:TE)(t:TA):TE:=λσ H Q=>to σ H λx H1=>tyV K T x H1/\t σ H1 λxs H2=>r x xs H2 Q
variable{o e:Expr}{es:List Expr}{to:TE}{t:TA}{name:Str}{apos cpos:Pos}{T id:String}{r:V->List V->Hp->VK->Prop}
theorem zIL(pa:PlainAttrs T)(slot:Slot T name id)(hty:typeOf (.builtin id)=pure (.type "method_descriptor"))(hm:MtR X id r)(ho:PE X o to)
  (hbase:attributeBase o name X.env (eval o X.env)=eval o X.env:=by rfl) (hline:(apos.endLine==cpos.line)=true:=by rfl):PE X (.Call (.Attribute o name apos) [] [] cpos) (zKI X.K T r to):=by
 intro pins s σ H Q I h
 refine wpAny_Call_method0_late hbase hline (thn (ho pins s σ H _ I h) λv s1 ⟨x,H1,I1,r1,ty,q1⟩=>?_)
 obtain⟨h1,h2⟩:=zB7 I1 r1 ty
 exact⟨T,id,pa,slot,hty,h1,h2,Calls.callWith_builtin rfl (PySem.evalArgs_none (hm pins s1 σ H1 x [] v [] Q I1 r1 .nil q1))⟩
theorem oK(pa:PlainAttrs T)(slot:Slot T name id)(hty:typeOf (.builtin id)=pure (.type "method_descriptor"))(hm:MtR X id r)(ho:PE X o to)(ha:PA X (e::es) t)
  (hbase:attributeBase o name X.env (eval o X.env)=eval o X.env:=by rfl)
  (hfew:((backTo cpos (starEach (e::es) X.env)).all (λx=>!x.1)&&(backToKw cpos (keywordEach [] X.env)).all (λx=>x.1.isSome)
   && decide ((e::es).length+([]:List Keyword).length+(if ([]:List Keyword).isEmpty then 0 else 1)<30))=true:=by rfl)
  (hline:(apos.endLine==cpos.line)=true:=by rfl) (hs:starEach (e::es) X.env=(false,eval e X.env)::starEach es X.env:=by rfl) (hplain:(backTo cpos (starEach es X.env)).any (·.1)=false:=by rfl):
  PE X (.Call (.Attribute o name apos) (e::es) [] cpos) (tBM X.K T r to t):=by
 intro pins s σ H Q I h
 refine wpAny_Call_method_late hbase hfew hline rfl (thn (ho pins s σ H _ I h) λv s1 ⟨x,H1,I1,r1,ty,q1⟩=>?_)
 obtain⟨h1,h2⟩:=zB7 I1 r1 ty
 refine⟨T,id,pa,slot,hty,h1,h2,?_⟩
 have hA:=ha cpos pins s1 σ H1 _ I1 q1
 rw[hs]at hA ⊢
 refine Calls.callWith_builtin (by show(false || (backTo cpos (starEach es X.env)).any (·.1))=false;rw[hplain]<;>rfl) (Calls.evalArgs_plain ?_)
 exact thn hA λus s2 ⟨vs,H2,I2,r2,q2⟩=>hm pins s2 σ H2 x vs v us Q I2 r1 r2 q2
end
end L2
namespace L2
open PySem PySem.Spec PyProof.Rows
def MtM(X:Cx)(id:String)(r:V->List V->Hp->VK->Prop):Prop:=
 ∀(pins:List (Addr×Obj)) (s:Shared) (σ:St) (H:Hp) (x:V) (xs:List V) (v:Value) (us:List Value) (Q:VK),Inv X pins σ H s->RelV x v->Vals xs us->r x xs H Q ->
  wpAny (model X.prog X.w) X.A (call (.builtin id) (v::us)) (EP X pins σ Q) X.xe s
theorem Vals.one:∀{x:V}{us:List Value},Vals [x] us->∃u,us=[u]/\RelV x u
 |_,_,.cons r .nil=>⟨_,rfl,r⟩
theorem Vals.zero:∀{us:List Value},Vals [] us->us=[]
 |_,.nil=>rfl
theorem Vals.dropLast{xs:List V}{us:List Value}(h:Vals xs us):Vals xs.dropLast us.dropLast:=by
 induction h with
 |nil=>exact .nil
 |cons r t ih=>
  cases t with
  |nil=>exact .nil
  |cons q t'=>exact .cons r ih
theorem Vals.eraseIdx:∀{xs:List V}{us:List Value}(i:Nat),Vals xs us->Vals (xs.eraseIdx i) (us.eraseIdx i)
 |_,_,_,.nil=>.nil
 |_,_,0,.cons _ t=>t
 |_,_,i+1,.cons r t=>.cons r (Vals.eraseIdx i t)
theorem Vals.reverse{xs:List V}{us:List Value}(h:Vals xs us):Vals xs.reverse us.reverse:=by
 induction h with
 |nil=>exact .nil
 |cons r t ih=>rw[qb3_,qb3_];exact Vals.append ih (.cons r .nil)
theorem Vals.rep{xs:List V}{us:List Value}(h:Vals xs us):∀k:Nat,Vals (List.replicate k xs).flatten (List.replicate k us).flatten
 |0=>.nil
 |k+1=>by
  rw[qn1_,qn1_,qo1_,qo1_]
  exact Vals.append h (Vals.rep h k)
theorem zEc{α:Type}(l:List α):l.eraseIdx (l.length-1)=l.dropLast:=by
 induction l with
 |nil=>rfl
 |cons a r ih=>
  cases r with
  |nil=>rfl
  |cons b r=>
   have e:(a::b::r).length-1=((b::r).length-1)+1:=by
    have h1:(a::b::r).length=r.length+2:=rfl
    have h2:(b::r).length=r.length+1:=rfl
    omega
   rw[e,List.eraseIdx_cons_succ,ih]
   all_goals rfl
theorem zAg{α:Type}:∀(l:List α) (i:Nat),(l.eraseIdx i).length<=l.length
 |[],_=>qe_ _
 |_::_,0=>qp1_ _
 |_::r,i+1=>Nat.succ_le_succ (zAg r i)
theorem zAm(its:List Value):∀(k:Nat) (acc:List Value),
  List.foldl (λx1 x2=>x1++x2) acc.toArray (List.replicate k its.toArray)=(acc++(List.replicate k its).flatten).toArray
 |0,acc=>by simp
 |k+1,acc=>by
  have e:acc.toArray++its.toArray=(acc++its).toArray:=by simp
  have e2:(acc++its)++(List.replicate k its).flatten=acc++(List.replicate (k+1) its).flatten:=by
   rw[qn1_,qo1_,qA1_]
  rw[<-e2,<-zAm its k (acc++its),<-e,qn1_,qw1_]
section
variable{X:Cx}{pins:List (Addr×Obj)}{σ:St}{H:Hp}{s:Shared}{l b:Addr}{xs ys zs:List V}
theorem Inv.lset{its its':List Value}{n:Nat}{f:Array Value->Array Value}{t':Nat}(I:Inv X pins σ H s)(hH:H l=some (.lst xs))
  (e:s.heap.get? l=some {cls:=.type "list",data:=.seq its.toArray n}) (hf:f its.toArray=its'.toArray) (hv:Vals ys its') (hz:ys.length<=sizeLine):
  Inv X pins σ (upd H l (.lst ys)) {s with heap:=s.heap.update l (Obj.mapSeq f),toks:=t'}:=by
 have q:=PySem.IsL.update e f
 rw[hf]at q
 refine I.write (x:=l) (e:=l) (by rw[hH];exact trivial) (.inl rfl) (λb' u hb hu=>(qJ1_ s.heap (Obj.mapSeq f) (Ne.symm hb)).trans hu) ⟨_,q⟩ ?_
 exact⟨hz,its',_,hv,q⟩
theorem Inv.lnew{its:List Value}{t':Nat}(I:Inv X pins σ H s)(hv:Vals ys its)(hz:ys.length<=sizeLine):
  Inv X pins σ (upd H s.heap.objs.size (.lst ys)) {s with heap:=s.heap.push {cls:=.type "list",data:=.seq its.toArray},toks:=t'}:=
 I.laid (λ_ _ q=>qd_ _ q) (qe_ _) ⟨hz,its,0,hv,qj_ _ rfl⟩
theorem Inv.fresh(I:Inv X pins σ H s):H s.heap.objs.size=none:=I.hok.fresh (qe_ _)
theorem Inv.lstM(I:Inv X pins σ H s)(hH:H l=some (.lst xs)):xs.length<=sizeLine/\∃(its:List Value) (n:Nat),Vals xs its/\xs.length=its.length/\s.heap.get? l=some {cls:=.type "list",data:=.seq its.toArray n}:=by
 obtain⟨z,its,n,r,e⟩:=I.hok l _ hH
 exact⟨z,its,n,r,r.length,e⟩
theorem zAR{n:Nat}(h:n<=sizeLine):Builtin.List.listTooLong n=false:=by
 unfold Builtin.List.listTooLong
 exact qH_ (by omega)
end
section
variable{X:Cx}
def zGS:V->List V->Hp->VK->Prop:=λx vs H Q=>∃l xs y,x=.ref l/\vs=[y]/\H l=some (.lst xs)/\xs.length<sizeLine/\Q .non (upd H l (.lst (xs++[y])))
theorem uE:MtM X "list.append" zGS:=by
 intro pins s σ H x vs v us Q I rx rv h
 obtain⟨l,xs,y,rfl,rfl,hH,hz,q⟩:=h
 cases rx
 obtain⟨u,rfl,ru⟩:=rv.one
 obtain⟨z,its,n,r,hl,e⟩:=I.lstM hH
 refine call_meets F.slot_list_append ⟨_,e,rfl⟩ F.entry_list_append (F.args_list_append_2 _ _) (PySem.list_append l its.toArray n u (by rw[qo_];omega)) ⟨e,?_⟩
 refine⟨.non,_,I.lset (its':=its++[u]) hH e (by simp) (r.append (.cons ru .nil)) ?_,rfl,q⟩
 rw[qh_,qS1_]
 omega
def zKQ:V->List V->Hp->VK->Prop:=λx vs H Q=>∃l xs y,x=.ref l/\vs=[]/\H l=some (.lst xs)/\xs[xs.length-1]?=some y/\Q y (upd H l (.lst xs.dropLast))
theorem zI0:MtM X "list.pop" zKQ:=by
 intro pins s σ H x vs v us Q I rx rv h
 obtain⟨l,xs,y,rfl,rfl,hH,hy,q⟩:=h
 cases rx
 have hus:=rv.zero
 subst hus
 obtain⟨z,its,n,r,hl,e⟩:=I.lstM hH
 obtain⟨u,hu,ru⟩:=r.get hy
 have hy':its.toArray[its.toArray.size-1]?=some u:=by
  show its.toArray[its.length-1]?=some u
  rw[<-qr_,<-hl]
  exact hu
 refine call_meets F.slot_list_pop ⟨_,e,rfl⟩ F.entry_list_pop (F.args_list_pop_1 _) (MeetsSeq.list_pop_last l its.toArray n u hy' (by rw[qo_];omega)) ⟨e,?_⟩
 refine⟨y,_,I.lset (its':=its.dropLast) hH e ?_ r.dropLast ?_,ru,q⟩
 ·show its.toArray.eraseIdxIfInBounds (its.toArray.size-1)=its.dropLast.toArray
  rw[qo_,ql3_,zEc]
 ·rw[List.length_dropLast]
  omega
def zIl:V->List V->Hp->VK->Prop:=λx vs H Q=>∃l xs i k y,x=.ref l/\vs=[.int i]/\H l=some (.lst xs) /\ -(2 ^ 63)<=i/\i<2 ^ 63/\seqIndex? i xs.length=some k/\xs[k]?=some y/\Q y (upd H l (.lst (xs.eraseIdx k)))
theorem zFW:MtM X "list.pop" zIl:=by
 intro pins s σ H x vs v us Q I rx rv h
 obtain⟨l,xs,i,k,y,rfl,rfl,hH,h1,h2,hk,hy,q⟩:=h
 cases rx
 obtain⟨u,rfl,ru⟩:=rv.one
 obtain⟨t,rfl⟩:=ru
 obtain⟨z,its,n,r,hl,e⟩:=I.lstM hH
 obtain⟨w,hw,rw'⟩:=r.get hy
 refine call_meets F.slot_list_pop ⟨_,e,rfl⟩ F.entry_list_pop (F.args_list_pop_2 _ _)
  (MeetsSeq.list_pop_at l its.toArray n i t k w (fitsIndex_both h1 h2) (by rw[qo_,<-hl];exact hk) (by rw[<-qr_];exact hw) (by rw[qo_];omega)) ⟨e,?_⟩
 refine⟨y,_,I.lset (its':=its.eraseIdx k) hH e ?_ (r.eraseIdx k) ?_,rw',q⟩
 ·show its.toArray.eraseIdxIfInBounds k=(its.eraseIdx k).toArray
  rw[ql3_]
 ·have:=zAg xs k
  omega
theorem qW{α:Type}(xs:List α)(k:Nat):(List.replicate k xs).flatten.length=k*xs.length:=by
 induction k with
 |zero=>simp
 |succ k ih=>rw[qn1_,qo1_,qh_,ih,Nat.succ_mul,Nat.add_comm]
end
end L2
namespace Att
open PySem PySem.W PySem.Calls PyProof.Rows
theorem zDn{P:Params}{h:Heap}:∀(ns:List Int) (vs:List Value),WellAll P h vs (ns.map WData.int)->IntsAre vs ns:=by
 intro ns
 induction ns with
 |nil=>
  intro vs w
  rw[qs2_]at w
  cases w
  exact .nil
 |cons n ns ih=>
  intro vs w
  rw[qF_]at w
  cases w with
  |cons a b=>
   cases a
   exact .cons _ _ (ih _ b)
theorem zEE{l:OpenLaw}{n:Nat}(hn:l.most=some n){P:Params}{h:Heap}{args:List WData}{vals:List Value}
  (hpre:l.row.toRowW.claim.pre args=true) (hwl:WellAll P h vals args):
  ∃a vs ns,vals=[Value.ref a]/\args=[WData.list (ns.map WData.int)]/\h.get? a=some {cls:=.type "list",data:=.seq vs.toArray}/\IntsAre vs ns/\ns.length<=n:=by
 have hsh:WShape.hasAll [] args [.list .int]=true:=(pre_splitW hpre).1
 have hc:l.pre.holds [] {args:=args}=true:=(pre_splitW hpre).2
 obtain⟨d,r,rfl,h1,h2⟩:=hasAllW_cons hsh
 obtain rfl:=hasAllW_nil h2
 obtain⟨xs,rfl,h3⟩:=hasW_list h1
 obtain⟨ns,rfl⟩:=items_int h3
 have hlen:ns.length<=n:=by
  unfold OpenLaw.pre at hc
  have h4:(WTm.not (.lt (.lit (.int (n:Int))) (.len (.arg 0)))).holds [] {args:=[.list (ns.map .int)]}=true:=by
   have h4:=(holds_andW hc).1
   rw[hn]at h4
   exact h4
  have h5:=condW_of h4 (w_not (w_lt w_lit (w_len_list (w_arg rfl))))
  rw[qc_]at h5
  refine Nat.le_of_not_lt λq=>?_
  have q':(n:Int)<((ns.length:Nat):Int):=by omega
  first
   |(rw[qS_ q']at h5;exact absurd h5 (by decide))
   |(simp at h5;omega)
 cases hwl with
 |cons w1 w2=>
  cases w2
  cases w1 with
  |list ho hall=>exact⟨_,_,ns,rfl,rfl,ho,zDn ns _ hall,hlen⟩
theorem zEK(l:OpenLaw)(args:List WData):l.row.toRowW.claim.post args (.bool true) args=true:=
 postW_of (r:=l.row.toRowW) (X:=(true==true))
  (show WShape.has [] (.bool true) .bool=true by first|rfl|decide|simp[WShape.has,WShape.arms,WShape.armsAll])
  (show(WTm.eq .res (.lit (.bool true))).value [] {args:=args,res:=some (.bool true),after:=args}=some (.bool (true==true)) from w_eq_bool (w_res rfl) w_lit) rfl
theorem attach_call{l:OpenLaw}{n:Nat}{q:Program}{loose:List Str}{XP:(Str->Option Value)->Heap->Prop}{YP:World->Heap->Prop}{d:DefRec}
  (hn:l.most=some n) (hdf:d.params.defaults=[])
  (call:∀(w:World) (s₀ s₁:Shared) (mg mb:Str->Option Value) (fa:Addr) (o:Obj) (pm cd doc:Value) (a:Addr) (vs:List Value) (ns:List Int),
   Ground q loose [] XP w s₀ mg mb s₁.heap->YP w s₁.heap ->
   s₁.heap.get? fa=some o->o.data=.func (docDef d.name d.params d.body d.scope pm cd doc)->s₁.heap.CodeRec cd d.name->mg d.name=some (.ref fa) ->
   s₁.heap.get? a=some {cls:=.type "list",data:=.seq vs.toArray}->IntsAre vs ns->ns.length<=n->s₁.gens=#[] ->
   codeAny (model l.prog w) callerA (.call (.ref fa) ⟨[.ref a],[]⟩) (λr s'=>r=.ok (.ret (.bool true))/\OldK s₁.heap s'.heap/\s'.os=s₁.os/\AllBare s'.gens) s₁):
  WalkO q loose XP YP l.row.toRowW d [] (λf vs=>PySem.call f vs):=by
 intro w s₀ s₁ mg mb G Y fa o pm cd doc dV kV ho hd hcd hD hmg hg args vals as hpre hlay hrd hwl hlo
 obtain rfl:dV=.none:=Dflts.none hD hdf
 obtain rfl:kV=.none:=Dflts.noKw hD
 obtain⟨a,vs,ns,rfl,rfl,hobj,hints,hlen⟩:=zEE hn hpre hwl
 refine enter_call (codeAny_mono (call w s₀ s₁ mg mb fa o pm cd doc a vs ns G Y ho (fd_plain hd) hcd hmg hobj hints hlen hg) λr s' hq=>?_)
 obtain⟨rfl,h2,h3,h4⟩:=hq
 exact⟨.inl ⟨.bool true,.bool true,[],rfl,λ_=>rfl,.bool true,zEK l _,λ_=>⟨List.Pairwise.nil,λ_ hm=>(nomatch hm)⟩⟩,h2,h3,h4⟩
end Att
namespace L2
open PySem PySem.Spec PyProof.Rows
theorem zQ:∀{vs:List Value}{ns:List Int},IntsAre vs ns->Vals (ns.map V.int) vs
 |_,_,.nil=>.nil
 |_,_,.cons n t h=>.cons ⟨t,rfl⟩ (zQ h)
def xZ(H:Hp):Prop:=∀b,H b=none\/∃o xs,H b=some (.frz o (.lst xs))
theorem zF4{P:Program}{w:World}{K:W.Frag}{mg mb:Str->Option Value}{CX:CXT}{k:Nat}{fa a:Addr}{fd:FuncData}{x:Str}{sp:Sp}{s₁:Shared}{vs:List Value}{ns:List Int}
  (KX:K.In s₁.heap) (hns:s₁.heap.Ns mainGlobals mg) (hb:s₁.heap.Ns builtinsNs mb) (hbb:∀x:Str,x≠"__name__"->mb x=bootBuiltins x) (hlim:s₁.heap.NoLimit) (hg:s₁.gens=#[])
  (ha:s₁.heap.get? a=some {cls:=.type "list",data:=.seq vs.toArray}) (hi:IntsAre vs ns) (hl:ns.length<=sizeLine) (hr:Room k callerA)
  (F:∀base:Heap,K.In base->base.Ns mainGlobals mg->FnOk P w K mg base CX k fa fd [x] sp) (hbind:∀(s:Shared) (u:Value),BindsTo s fd ⟨[u],[]⟩ [(x,u)])
  (hsp:∀H:Hp,xZ H->SqL K H a (ns.map V.int)->sp [.ref a] H (λv _=>v=.bl true) λ_ _ _=>False)
  (hCX:∀H e s',CX [] H s₁ (λ_ _ _=>False) e s'->False):
  codeAny (model P w) callerA (.call (.ref fa) ⟨[.ref a],[]⟩) (λr s'=>r=.ok (.ret (.bool true))/\OldK s₁.heap s'.heap/\s'.os=s₁.os/\AllBare s'.gens) s₁:=by
 have rv:=zQ hi
 have lenV:=hi.length
 -- from an abstract heap in which nothing but the script may be tracked
 have core:∀H:Hp,xZ H->SqL K H a (ns.map V.int)->HOk P w H s₁.heap->(∀b,H b≠none->b=a)->(H a≠none->K.lookup a=none) ->
   codeAny (model P w) callerA (.call (.ref fa) ⟨[.ref a],[]⟩) (λr s'=>r=.ok (.ret (.bool true))/\OldK s₁.heap s'.heap/\s'.os=s₁.os/\AllBare s'.gens) s₁:=by
  intro H hO hS hok hA hK
  have base_of:∀{b:Addr} {o:Obj},s₁.heap.get? b=some o->H b=none->(jD s₁.heap H).get? b=some o:=λe n=>zGb e n
  have noA:∀{b:Addr} {o:Obj} {es:Array DictEntry} {ep:Nat},s₁.heap.get? b=some o->o.data=.dict es ep->H b=none:=λ{b o es ep} e d=>by
   cases q:H b with
   |none=>rfl
   |some u=>
    have e':b=a:=hA b (by rw[q];simp)
    subst e'
    rw[ha]at e;cases e
    have d':Data.seq vs.toArray _=Data.dict es ep:=d
    cases d'
  have nsK:∀{b:Addr} {m:Str->Option Value},s₁.heap.Ns b m->(jD s₁.heap H).Ns b m:=λ{b m} ⟨o,es,ep,e,d,r⟩=>⟨o,es,ep,base_of e (noA e d),d,r⟩
  have hKb:K.In (jD s₁.heap H):=λb o e=>base_of (KX b o e) (by
   cases q:H b with
   |none=>rfl
   |some u=>
    have e':b=a:=hA b (by rw[q];simp)
    subst e'
    rw[hK (by rw[q];simp)]at e;cases e)
  have hM:Mod K mg (jD s₁.heap H):=⟨hKb,nsK hns,⟨mb,nsK hb,hbb⟩,let ⟨mc,h1,h2⟩:=hlim;⟨mc,nsK h1,h2⟩⟩
  have e0:tE P w K mg (jD s₁.heap H) callerA [] s₁ H:=⟨rfl,hM,λb o e=>zHh e,Nat.le_of_eq (zE2 _ _),trivial,λb hb=>absurd (show b∈([]:List Addr) from hb) (by simp),hok,.of_eq hg⟩
  refine codeAny_mono ((F _ hKb (nsK hns)).run callerA [] s₁ H ⟨[.ref a],[]⟩ [.ref a] [.ref a] _ _ hr e0 (hbind s₁ (.ref a)) (.cons rfl .nil) (hsp H hO hS)) λr s' h=>?_
  cases r with
  |error e=>exact(hCX H e s' h).elim
  |ok fl=>
   cases fl with
   |next=>exact False.elim h
   |brk=>exact False.elim h
   |cont=>exact False.elim h
   |ret u=>
    obtain⟨v,H',os,bare,un,hok',r',q⟩:=h
    have q':v=.bl true:=q
    subst q'
    obtain rfl:u=Value.bool true:=r'
    refine⟨rfl,OldK.of_keep λb o e=>?_,os,bare⟩
    cases q:H b with
    |none=>exact un.keep b o e q (by intro z;exact absurd (show b∈([]:List Addr) from z) (by simp)) (by simp)
    |some u=>
     rcases hO b with z|⟨ob,xs,z⟩
     ·rw[q]at z;cases z
     ·have z2:=un.frzs b ob _ z
      obtain⟨e1,_⟩:=hok b _ z
      obtain⟨e2,_⟩:=hok' b _ z2
      rw[e]at e1;cases e1
      exact e2
 cases hk:K.lookup a with
 |some o=>
  -- the script is one of the module's own objects
  have e:=KX a o hk
  rw[ha]at e
  cases e
  refine core (λ_=>none) (λ_=>.inl rfl) (.inr ⟨_,vs.toArray,_,hk,rfl,rfl,rfl,by rw[qo_,lenV];exact hl,by simpa using rv⟩) (λb u z=>by have z':(none:Option HO)=some u:=z;cases z') (λb z=>absurd rfl z) λz=>absurd rfl z
 |none=>
  refine core (λb=>if b=a then some (.frz {cls:=.type "list",data:=.seq vs.toArray} (.lst (ns.map V.int))) else none) (λb=>?_) (.inl (.inr ⟨{cls:=.type "list",data:=.seq vs.toArray},if_pos rfl⟩)) (λb u z=>?_) (λb z=>?_) λ_=>hk
  ·by_cases hb:b=a
   ·exact .inr ⟨_,_,if_pos hb⟩
   ·exact .inl (if_neg hb)
  ·by_cases hb:b=a
   ·have z':=(if_pos hb).symm.trans z
    cases z'
    subst hb
    exact⟨ha,by rw[qc_];exact hl,vs,_,rv,ha⟩
   ·have z':=(if_neg hb).symm.trans z
    cases z'
  ·by_cases hb:b=a
   ·exact hb
   ·exact absurd (if_neg hb) z
end L2
namespace L2
open PySem PySem.Spec PyProof.Rows
theorem walk_of{l:W.OpenLaw}{n k:Nat}{q:Program}{loose:List Str}{XP:(Str->Option Value)->Heap->Prop}{YP:World->Heap->Prop}{d:DefRec}{K:Params->W.Frag}{CX:World->CXT}{sp:World->Sp}{x:Str}
  (hn:l.most=some n) (hn2:n<=sizeLine) (hdf:d.params.defaults=[]) (hr:Room k callerA)
  (hY:∀(w:World) (h:Heap),YP w h->(K w.params).In h)
  (F:∀(w:World) (mg:Str->Option Value) (fa:Addr) (h:Heap),(K w.params).In h->h.Ns mainGlobals mg->mg d.name=some (.ref fa) ->
   ∃fd:FuncData,(∀(s:Shared) (u:Value),BindsTo s fd ⟨[u],[]⟩ [(x,u)]) /\
    ∀base:Heap,(K w.params).In base->base.Ns mainGlobals mg->FnOk l.prog w (K w.params) mg base (CX w) k fa fd [x] (sp w))
  (hsp:∀(w:World) (H:Hp) (a:Addr) (ns:List Int),ns.length<=n->xZ H->SqL (K w.params) H a (ns.map V.int)->sp w [.ref a] H (λv _=>v=.bl true) λ_ _ _=>False)
  (hCX:∀(w:World) (H:Hp) (s:Shared) (e:Value) (s':Shared),CX w [] H s (λ_ _ _=>False) e s'->False):
  PySem.W.WalkO q loose XP YP l.row.toRowW d [] (λf vs=>PySem.call f vs):=by
 refine Att.attach_call hn hdf λw s₀ s₁ mg mb fa o pm cd doc a vs ns G Y ho hd hcd hmg hobj hints hlen hg=>?_
 have KX:=hY w _ Y
 obtain⟨fd,hb,hF⟩:=F w mg fa _ KX G.T.g hmg
 exact zF4 KX G.T.g G.T.b G.T.builtins G.T.nolimit hg hobj hints (qi_ hlen hn2) hr hF hb (λH hO hS=>hsp w H a ns hlen hO hS) λH e s'=>hCX w H s₁ e s'
end L2
namespace L2
open PySem PySem.Spec PyProof.Rows
def hC(s:Stmt):Arguments:=match s with
 |.FunctionDef _ a _ _ _ _ _ _ _ _=>a
 |_=>{posonlyargs:=[],args:=[],vararg:=none,kwonlyargs:=[],kw_defaults:=[],kwarg:=none,defaults:=[]}
def fD(s:Stmt):List Stmt:=match s with
 |.FunctionDef _ _ b _ _ _ _ _ _ _=>b
 |_=>[]
def aN(s:Stmt):Scope:=match s with
 |.FunctionDef _ _ _ _ _ _ sc _ _ _=>sc
 |_=>{kind:=.function,names:=[],isGenerator:=false,isCoroutine:=false}
abbrev CX0:CXT:=λ_ _ _ _ _ _=>False
abbrev E0:XK:=λ_ _ _=>False
theorem zCI{X:Cx}:rM CX0 X E0:=λ_ _ _ _ _ _ _ h=>h.elim
structure Fun (K:W.Frag) (x qual:Str) (st:Stmt) (f:Addr) (fd:FuncData):Prop where
 ex:∃(oc:Value) (od:Option Addr) (kV doc pm:Value) (an:Option Addr) (cdv ct:Value) (osl:Array (Option Value)),
  fd=W.fnOf x qual (hC st) (fD st) (aN st) .none kV doc pm an cdv ct/\K.lookup f=some ⟨oc,od,.func fd,osl⟩/\W.codeIn K cdv qual=true
 kp:W.keepIn K (.ref f)=true
section
variable{P:Program}{w:World}{K:W.Frag}{mg:Str->Option Value}{base:Heap}
theorem Fun.ok{x qual:Str}{st:Stmt}{f:Addr}{fd:FuncData}{N ps:List Str}{k:Nat}{sp:Sp}(F:Fun K x qual st f fd)(S:bC N ps (aN st))(len:∀vs H Q E,sp vs H Q E->vs.length=ps.length)
  (hbody:∀(cdv:Value) (A:Around) (outer:List Env) (s:Shared) (H:Hp) (vs:List V) (Q:VK) (E:XK),Room k (A.deeper (envOfC qual (aN st) s.heap.objs.size f cdv))->sp vs H Q E ->
   ∃t,PSs (jV CX0 P w K mg base N qual (aN st) f cdv A outer s H E).nox (fD st) t/\t {nx:=λ_ H'=>Q .non H',rt:=Q} (dZ N vs) H):FnOk P w K mg base CX0 (k+1) f fd ps sp:=by
 obtain⟨oc,od,kV,doc,pm,an,cdv,ct,osl,rfl,lk,hcd⟩:=F.ex
 refine zKi lk hcd S len λA outer s H vs Q E hr hsp=>?_
 obtain⟨t,h,q⟩:=hbody cdv A outer s H vs Q E hr hsp
 exact⟨t,h.nox,q⟩
theorem Fun.binds{x qual:Str}{st:Stmt}{f:Addr}{fd:FuncData}{ps:List Str}(F:Fun K x qual st f fd)
  (h:∀(kV doc pm:Value) (an:Option Addr) (cdv ct:Value) (us:List Value),us.length=ps.length->bindArgs (W.fnOf x qual (hC st) (fD st) (aN st) .none kV doc pm an cdv ct) ⟨us,[]⟩=pure (ps.zip us)):Binds K fd ps []:=by
 obtain⟨oc,od,kV,doc,pm,an,cdv,ct,osl,rfl,lk,hcd⟩:=F.ex
 exact .all (h kV doc pm an cdv ct)
theorem zCr{x qual:Str}{st:Stmt}{f:Addr}{oc:Value}{od an:Option Addr}{osl:Array (Option Value)}{kV doc pm cdv ct:Value}(l:K.lookup f=some ⟨oc,od,.func (W.fnOf x qual (hC st) (fD st) (aN st) .none kV doc pm an cdv ct),osl⟩)
  (c:W.codeIn K cdv qual=true) (k:W.keepIn K (.ref f)=true):Fun K x qual st f (W.fnOf x qual (hC st) (fD st) (aN st) .none kV doc pm an cdv ct):=⟨⟨oc,od,kV,doc,pm,an,cdv,ct,osl,rfl,l,c⟩,k⟩
end
theorem oM{A:Around}{k:Nat}(hr:Room k A):A.units+1<cLine:=qu2_ (Nat.add_le_add_left (by decide:1<=64) _) hr.units
theorem zEy{n:Nat}(h:n<=1000):n<sizeLine:=Nat.lt_of_le_of_lt h (by decide)
section
variable{X:Cx}
theorem pv(i:Nat){x:Str}{pos:Pos}(hN:X.N[i]?=some x:=by rfl)(hv:Vis X.env.scope x:=by first|exact Or.inl rfl|exact Or.inr (Or.inl rfl)|exact Or.inr (Or.inr rfl))(hd:(x==("__debug__":Str))=false:=by decide)
  (hcd:(x==("__classdict__":Str))=false:=by decide):PE X (.Name x pos) (zCW i):=kG hN hv hd hcd
end
theorem aW{A B:Prop}(h:B):if false=true then A else B:=by
 rw[if_neg ql_]
 exact h
theorem cB{A B:Prop}(h:A):if true=true then A else B:=by
 rw[if_pos rfl]
 exact h
theorem zK7{c A B:Prop}[Decidable c](h1:c->A)(h2:¬ c->B):if c then A else B:=by
 by_cases h:c
 ·rw[if_pos h]
  exact h1 h
 ·rw[if_neg h]
  exact h2 h
def Same(H H':Hp):Prop:=∀b o,H b=some o->H' b=some o
theorem Same.refl(H:Hp):Same H H:=λ_ _ h=>h
theorem Same.trans{H H1 H2:Hp}(a:Same H H1)(b:Same H1 H2):Same H H2:=λc o h=>b c o (a c o h)
theorem Same.free{H H':Hp}(e:Same H H'){l:Addr}(h:H' l=Option.none):H l=Option.none:=by
 cases q:H l with
 |none=>rfl
 |some o=>
  rw[e l o q]at h
  cases h
end L2
namespace L2
open PySem PySem.Spec PyProof.Rows
theorem tH{env:Env}:∀(names:List (Str×NameKind)) (acc:List (Str×Addr)),(∀y∈names,y.2=.free->∃c,env.cells.lookup y.1=some c) ->
  ∃cl,(forIn names acc (λ(x:Str×NameKind) (cs:List (Str×Addr))=>if (x.2==NameKind.free)=true then(do let c <- cellOf env x.1;pure (ForInStep.yield ((x.1,c)::cs))) else pure (ForInStep.yield cs)):Sem (List (Str×Addr)))=pure cl /\
   (∀x c,cl.lookup x=some c->env.cells.lookup x=some c\/acc.lookup x=some c)/\(∀x c,acc.lookup x=some c->∃c',cl.lookup x=some c')/\∀y∈names,y.2=.free->∃c,cl.lookup y.1=some c
 |[],acc,_=>⟨acc,rfl,λ_ _ h=>.inr h,λ_ c h=>⟨c,h⟩,λ_ h=>nomatch h⟩
 |(n,k)::r,acc,h=>by
  rw[List.forIn_cons]
  by_cases hk:k=.free
  ·subst hk
   obtain⟨c,hc⟩:=h (n,.free) qi1_ rfl
   obtain⟨cl,h1,h2,h3,h4⟩:=tH r ((n,c)::acc) λy hy=>h y (qb1_ _ hy)
   refine⟨cl,?_,λx d e=>?_,λx d e=>?_,λy hy e=>?_⟩
   ·have e1:cellOf env n=pure c:=by unfold cellOf;rw[hc]
    simp only[beq_self_eq_true,if_true,e1,pure_bind]
    exact h1
   ·rcases h2 x d e with z|z
    ·exact .inl z
    ·rw[List.lookup_cons]at z
     split at z
     ·rename_i hx
      cases z
      have:x=n:=eq_of_beq hx
      subst this
      exact .inl hc
     ·exact .inr z
   ·refine h3 x (if x==n then c else d) ?_
    rw[List.lookup_cons]
    cases hx:x==n with
    |true=>simp[hx]
    |false=>simp[hx,e]
   ·rcases qy_.mp hy with z|z
    ·subst z
     exact h3 n c (by simp[List.lookup_cons])
    ·exact h4 y z e
  ·have hb:(k==NameKind.free)=false:=by simpa using hk
   obtain⟨cl,h1,h2,h3,h4⟩:=tH r acc λy hy=>h y (qb1_ _ hy)
   refine⟨cl,?_,h2,h3,λy hy e=>?_⟩
   ·simp only[hb,Bool.false_eq_true,if_false,pure_bind]
    exact h1
   ·rcases qy_.mp hy with z|z
    ·subst z
     exact absurd e hk
    ·exact h4 y z e
theorem zH{scope:Scope}{env:Env}(h:∀y∈scope.names,y.2=.free->∃c,env.cells.lookup y.1=some c):
  ∃cl,closureFor scope env=pure cl/\(∀x c,cl.lookup x=some c->env.cells.lookup x=some c)/\∀y∈scope.names,y.2=.free->∃c,cl.lookup y.1=some c:=by
 obtain⟨cl,h1,h2,h3,h4⟩:=tH scope.names [] h
 refine⟨cl,?_,λx c e=>(h2 x c e).elim id λz=>(by cases z),h4⟩
 unfold closureFor
 refine Eq.trans ?_ h1
 refine Eq.trans (bind_pure _) ?_
 rfl
theorem yC{env:Env}:∀{names:List (Str×NameKind)}{x:Str},names.lookup x=some .free ->
  (names.map λ(n,k)=>if (k==NameKind.free&&env.scope.kind==.function&&env.kindOf n==some .cell) then(n,NameKind.cell) else(n,k)).lookup x=some .cell \/
  (names.map λ(n,k)=>if (k==NameKind.free&&env.scope.kind==.function&&env.kindOf n==some .cell) then(n,NameKind.cell) else(n,k)).lookup x=some .free
 |[],_,h=>by simp at h
 |(n,k)::r,x,h=>by
  have ih:=@yC env r x
  show List.lookup x ((if (k==NameKind.free&&env.scope.kind==.function&&env.kindOf n==some .cell)=true then(n,NameKind.cell) else(n,k))::_)=_\/List.lookup x ((if (k==NameKind.free&&env.scope.kind==.function&&env.kindOf n==some .cell)=true then(n,NameKind.cell) else(n,k))::_)=_
  by_cases hc:(k==NameKind.free&&env.scope.kind==.function&&env.kindOf n==some .cell)=true
  ·rw[if_pos hc]
   cases hx:x==n with
   |true=>simp only[List.lookup_cons,hx];exact .inl trivial
   |false=>
    simp only[List.lookup_cons,hx]at h ⊢
    exact ih h
  ·rw[if_neg hc]
   cases hx:x==n with
   |true=>
    simp only[List.lookup_cons,hx]at h ⊢
    exact .inr h
   |false=>
    simp only[List.lookup_cons,hx]at h ⊢
    exact ih h
theorem yR{env:Env}{names:List (Str×NameKind)}(hn:∀y∈names,y.2≠.cell){x:Str}{k:NameKind}(hk:k=.cell\/k=.free)
  (h:(names.map λ(n,k)=>if (k==NameKind.free&&env.scope.kind==.function&&env.kindOf n==some .cell) then(n,NameKind.cell) else(n,k)).lookup x=some k):(x,NameKind.free)∈names:=by
 obtain⟨⟨n,k'⟩,hm,e⟩:=qg_.mp (PySem.mem_of_lookup h)
 simp only at e
 split at e
 ·rename_i hc
  rw[qR1_,qR1_]at hc
  have:k'=.free:=eq_of_beq hc.1.1
  subst this
  injection e with e1 _
  subst e1
  exact hm
 ·injection e with e1 e2
  subst e1 e2
  rcases hk with z|z
  ·exact absurd z (hn _ hm)
  ·subst z;exact hm
def cG(X:Cx)(N:List Str)(scope:Scope)(cl:List (Str×Addr))(C:Addr)(fp:List Addr)(s:Shared)(H:Hp):Cx where
 prog:=X.prog
 w:=X.w
 K:=X.K
 mg:=X.mg
 base:=X.base
 A:=X.A
 N:=N
 s₀:=s
 H₀:=H
 env:=compEnvC scope cl C X.env
 outer:=X.stack
 stack:=X.stack
 ex:=fp
 fn:=λ_=>false
 calm:=X.calm
 pn:=[]
 xe:=λ_ _=>False
structure kA (sc:Scope) (XN N:List Str) (own:Nat) (fr:List Nat) (scope:Scope):Prop where
 kind:scope.kind=.function
 nocell:∀y∈scope.names,y.2≠.cell
 free:∀y∈scope.names,y.2=.free->sc.names.lookup y.1=some .cell\/sc.names.lookup y.1=some .free
 loc:∀y∈scope.names,y.2=.local->scope.names.lookup y.1=some .local
 names:N.drop own=fr.filterMap λi=>XN[i]?
 frl:∀i∈fr,i<XN.length
 len:own<=N.length
 vis:∀x∈N.drop own,scope.names.lookup x=some .free
def σf(fr:List Nat)(σ:St):St:=fr.map λi=>σ.getD i none
def σc(own:Nat)(fr:List Nat)(σ:St):St:=List.replicate own none++σf fr σ
section
variable{X:Cx}{pins:List (Addr×Obj)}{σ:St}{H:Hp}{s:Shared}{N:List Str}{own:Nat}{fr:List Nat}{scope:Scope}
theorem yG{XN:List Str}:∀{fr:List Nat},(∀i∈fr,i<XN.length)->∀(j:Nat),(fr.filterMap λi=>XN[i]?)[j]?=(fr[j]?).bind λi=>XN[i]?
 |[],_,j=>by simp
 |i::r,h,j=>by
  have hi:i<XN.length:=h i qi1_
  rw[qK_,qk_ hi]
  cases j with
  |zero=>simp[hi]
  |succ j=>simpa using yG (λk hk=>h k (qb1_ _ hk)) j
theorem zF7{cl:List (Str×Addr)}{fp:List Addr}{h':Heap}(I:Inv X pins σ H s)(S:kA X.env.scope X.N N own fr scope)(hcl:∀x c,cl.lookup x=some c->X.env.cells.lookup x=some c)
  (hcf:∀y∈scope.names,y.2=.free->∃c,cl.lookup y.1=some c) (hfp:∀b∈fp,eY X pins H b) (hfo:∀b∈fp,∃o,s.heap.get? b=some o)
  (hns:h'.Ns s.heap.objs.size λ_=>none) (hk:∀b o,s.heap.get? b=some o->h'.get? b=some o):
  Inv (cG X N scope cl s.heap.objs.size fp s H) [] (σc own fr σ) H {s with heap:=h'}:=by
 have kindE:∀x,(Env.kindOf (compEnvC scope cl s.heap.objs.size X.env) x)=(relabel scope X.env).names.lookup x:=λx=>rfl
 have memF:∀x,(Env.kindOf (compEnvC scope cl s.heap.objs.size X.env) x=some .cell\/Env.kindOf (compEnvC scope cl s.heap.objs.size X.env) x=some .free)->(x,NameKind.free)∈scope.names:=λx hx=>by
  rcases hx with z|z
  ·exact yR (env:=X.env) S.nocell (.inl rfl) z
  ·exact yR (env:=X.env) S.nocell (.inr rfl) z
 refine⟨⟨I.ok.mod,S.kind,I.ok.glob,I.ok.blt,qe_ _,λx y c h1 h2=>I.ok.inj x y c (hcl x c h1) (hcl y c h2),λx hx=>hcf (x,.free) (memF x hx) rfl,λx c h=>absurd (show false=true from h) (by decide),I.ok.hd,I.ok.frames,.inl rfl,λb hb=>?_,I.bs,qi_ I.ok.bsz I.sz,λb o e hb=>?_,λb hb z=>?_,I.stack,I.stkFree⟩,
  rfl,I.bare,Un.kept hk,⟨_,hns,λi x v e1 e2 e3=>?_⟩,λx c e=>?_,I.hok.fresh (qe_ _),λx c e=>I.freeC x c (hcl x c e),λp hp=>absurd (show p∈([]:List (Addr×Obj)) from hp) (by simp),I.hok.kept hk,?_⟩
 ·obtain⟨o,ho⟩:=hfo b hb
  exact⟨qm_ (qf_ ho),λx c e=>(hfp b hb).2.2.2.2.1 x c (hcl x c e)⟩
 ·rcases (hfp b hb).2.2.2.1 with z|z
  ·exact I.ok.noex b o e z
  ·exact absurd (qT_ (qf_ (I.ok.bs b o e).1) z) (qf1_ _)
 ·rcases qy_.mp (I.stkSub b z) with q|q
  ·exact(hfp b hb).2.1 q
  ·exact(hfp b hb).2.2.1 q
 ·have hi:own<=i:=by
   rcases Nat.lt_or_ge i own with z|z
   ·have e2':(σc own fr σ)[i]?=some (some v):=e2
    unfold σc at e2'
    rw[qH1_ (by simpa using z),qe2_]at e2'
    split at e2'<;>cases e2'
   ·exact z
  have e2':(σf fr σ)[i-own]?=some (some v):=by
   have e2':(σc own fr σ)[i]?=some (some v):=e2
   unfold σc at e2'
   rw[qG1_ (by simpa using hi)]at e2'
   simpa using e2'
  have e1':(N.drop own)[i-own]?=some x:=by
   have e1':N[i]?=some x:=e1
   rw[qv2_]
   rw[show own+(i-own)=i by omega]
   exact e1'
  have hv:scope.names.lookup x=some .free:=S.vis x (qz_ e1')
  have hx:X.env.scope.names.lookup x=some .cell\/X.env.scope.names.lookup x=some .free:=S.free (x,.free) (PySem.mem_of_lookup hv) rfl
  rw[S.names,yG S.frl]at e1'
  unfold σf at e2'
  rw[qv_]at e2'
  cases q:fr[i-own]? with
  |none=>rw[q]at e2';cases e2'
  |some j=>
   rw[q]at e1' e2'
   have e1'':X.N[j]?=some x:=e1'
   have e2'':σ.getD j none=some v:=Option.some.inj e2'
   have e3':σ[j]?=some (some v):=by
    rw[qV_]at e2''
    cases z:σ[j]? with
    |none=>rw[z]at e2'';cases e2''
    |some y=>rw[z]at e2'';exact congrArg some e2''
   obtain⟨m,hn,hl⟩:=I.loc
   obtain⟨u,r,l⟩:=hl j x v e1'' e3' (.inr hx)
   refine⟨u,r,.inr ⟨yC (env:=X.env) hv,?_⟩⟩
   rcases l with⟨k,_⟩|⟨_,c,hc,z⟩
   ·have k':X.env.scope.names.lookup x=some .local:=k
    rw[k']at hx
    rcases hx with z|z<;>cases z
   ·obtain⟨c',hc'⟩:=hcf (x,.free) (PySem.mem_of_lookup hv) rfl
    have:=hcl x c' hc'
    rw[hc]at this
    cases this
    exact⟨c,hc',z.keeps hk⟩
 ·obtain⟨v,z⟩:=I.cell x c (hcl x c e)
  exact⟨v,z.keeps hk⟩
 ·show(σc own fr σ).length=N.length
  unfold σc σf
  have h1:=congrArg List.length S.names
  have h2:(fr.filterMap λi=>X.N[i]?).length=fr.length:=by
   have:∀(l:List Nat),(∀i∈l,i<X.N.length)->(l.filterMap λi=>X.N[i]?).length=l.length:=by
    intro l
    induction l with
    |nil=>intro _;rfl
    |cons i r ih=>
     intro h
     rw[qK_,qk_ (h i qi1_)]
     simp[ih λk hk=>h k (List.mem_cons_of_mem _ hk)]
   exact this fr S.frl
  rw[qI1_,h2]at h1
  rw[qh_,qf2_,qc_]
  have:=S.len
  omega
end
section
variable{prog:Program}{w:World}{A:Around}{R:Result->Shared->Prop}{s:Shared}
theorem zDC{elt target iter:Expr}{ifs:List Expr}{scope:Scope}{pos:Pos}{it acc:Value}{env:Env}(I:Nat->Shared->Prop)
  (turn:∀n s,I n s->wpAny (model prog w) A (pyNext it) (λr s₁=>match r with
   |none=>R (.ok .next) s₁
   |some v=>wpAny (model prog w) A (letOwnedTupleGo target it v) (λ_ s'=>wpAny (model prog w) A (assign target env v) (λ_ s₂=>
     wpAny (model prog w) A (forIn ifs true λc r=>if r=true then do let ok <- isTrue c env (eval c env);pure (ForInStep.yield ok) else pure (ForInStep.yield r)) (λok s₃=>
      if ok=true then wpAny (model prog w) A (eval elt env) (λx s₄=>
       wpAny (model prog w) A (call (.builtin "list.append") [acc,x]) (λ_ s₅=>∃m,m<n/\I m s₅) (λ_ _=>False) s₄) (λ_ _=>False) s₃
      else ∃m,m<n/\I m s₃) (λ_ _=>False) s₂) (λ_ _=>False) s') (λ_ _=>False) s₁) (λ_ _=>False) s)
  (n:Nat) (h:I n s):codeAny (model prog w) A (.compLoop (.ListComp elt [⟨target,iter,ifs,0⟩] scope pos) 0 it acc env) R s:=by
 refine codeAny_loop rfl I (λn s hI=>?_) n h
 show wpAny _ A ((compTurn (.ListComp elt [⟨target,iter,ifs,0⟩] scope pos) 0 it acc env).onRaise (λx=>do noteFrame x env;theTreesLotGoes x)) _ _ s
 refine wpAny_noted ?_
 rw[compTurn_list]
 refine qa_ (wpAny_standAt (qa_ (wpAny_mono (turn n s hI) (λr s₁ h₁=>?_) λ_ _ z=>False.elim z)))
 cases r with
 |none=>exact qb_ h₁
 |some v=>
  refine qa_ (wpAny_mono h₁ (λ_ s' h'=>?_) λ_ _ z=>False.elim z)
  refine qa_ (wpAny_mono h' (λ_ s₂ h₂=>qa_ (wpAny_mono h₂ (λok s₃ h₃=>?_) λ_ _ z=>False.elim z)) λ_ _ z=>False.elim z)
  cases ok with
  |false=>exact qb_ ⟨rfl,h₃⟩
  |true=>
   exact qa_ (qa_ (wpAny_mono h₃ (λx s₄ h₄=>qa_ (wpAny_mono h₄ (λ_ s₅ h₅=>qb_ (qb_ ⟨rfl,h₅⟩)) λ_ _ z=>False.elim z)) λ_ _ z=>False.elim z))
end
def zCU(J:It)(a:Addr)(own:Nat)(fr:List Nat)(g:TG)(tf:TT)(te:TE)(σ:St)(H1:Hp)(Q:VK):Prop:=
 ∃(n:Nat) (Pv:Nat->List V->Hp->Prop),Pv 0 [] (upd H1 a (.lst []))/\∀i ys H2,i<=n->H2 a=some (.lst ys)->Pv i ys H2 ->
  (J.stop i H2/\Q (.ref a) H2)\/(i<n/\J.go i H2/\∀x H3,J.yld i H2 x H3->g x (σc own fr σ) H3 λσ4 H4=>(∃ow,ow.length=own/\σ4=ow++σf fr σ)/\tf σ4 H4 λb H5=>
   if b=true then te σ4 H5 λy H6=>H6 a=some (.lst ys)/\ys.length<sizeLine/\Pv (i+1) (ys++[y]) (upd H6 a (.lst (ys++[y])))
   else H5 a=some (.lst ys)/\Pv (i+1) ys H5)
def PFs(X:Cx)(ifs:List Expr)(t:TT):Prop:=
 ∀(pins:List (Addr×Obj)) (s:Shared) (σ:St) (H:Hp) (Q:Bool->Hp->Prop),Inv X pins σ H s->t σ H Q ->
  wpAny (model X.prog X.w) X.A (forIn ifs true λc r=>if r=true then do let ok <- isTrue c X.env (eval c X.env);pure (ForInStep.yield ok) else pure (ForInStep.yield r)) (TP X pins σ Q) X.xe s
def zJB:TT:=λ_ H Q=>Q true H
theorem zIE{X:Cx}:PFs X [] zJB:=λpins s σ H Q I h=>wpAny_tests_nil ⟨H,I,h⟩
theorem zID{X:Cx}{c:Expr}{t:TT}(h:PT X c t):PFs X [c] t:=λpins s σ H Q I hw=>wpAny_tests_one (h pins s σ H Q I hw)
section
variable{X:Cx}{pins:List (Addr×Obj)}{σ:St}{H:Hp}{s:Shared}{N:List Str}{own:Nat}{fr:List Nat}{scope:Scope}{cl:List (Str×Addr)}{elt tg iter:Expr}{ifs:List Expr}{pos:Pos}
 {it:Addr} {fp:List Addr} {tn:Nat->Heap->Prop} {J:It} {g:TG} {tf:TT} {te:TE} {Q:VK} {E:Value->Shared->Prop}
theorem zG{RR:Value->Addr->Result->Shared->Prop}(hc:X.calm=true)(S:kA X.env.scope X.N N own fr scope)(hcl:∀x c,cl.lookup x=some c->X.env.cells.lookup x=some c)
  (hcf:∀y∈scope.names,y.2=.free->∃c,cl.lookup y.1=some c)
  (hg:∀C s H,PG (cG X N scope cl C fp s H) tg g) (hf:∀C s H,PFs (cG X N scope cl C fp s H) ifs tf) (he:∀C s H,PE (cG X N scope cl C fp s H) elt te)
  (I:Inv X pins σ H s) (T:jG X.prog X.w X.K tg J fp it tn) (st:tn 0 s.heap) (hfp:∀b∈fp,eY X pins H b) (hw:∀a,H a=none->zCU J a own fr g tf te σ H Q)
  (hRR:∀a C s' H',Inv X pins σ H' s'->Q (.ref a) H'->eY X pins H' C->(∃m,s'.heap.Ns C m)->RR (.ref a) C (.ok .next) s'):
  wpAny (model X.prog X.w) X.A (newList []) (λacc s₃=>wpAny (model X.prog X.w) X.A (newFunctionEnv scope X.env.globals cl [] X.env.qual none .none (some X.env)) (λcenv s₄=>
   codeAny (model X.prog X.w) X.A (.compStart (.ListComp elt [⟨tg,iter,ifs,0⟩] scope pos) 0 (.ref it) acc {cenv with scope:=relabel scope X.env}) (RR acc cenv.locals) s₄) E s₃) E s:=by
 refine qR_ (wpAny_newFunctionEnv S.nocell (by intro y hy;simp at hy) (λh₁ hns₁ hsb₁=>?_) S.kind)
 dsimp only at hns₁ hsb₁ ⊢
 have I3:Inv X pins σ (upd H s.heap.objs.size (.lst [])) {s with heap:=s.heap.push {cls:=.type "list",dict:=none,data:=.seq ([]:List Value).toArray}}:=I.lnew (ys:=[]) (t':=s.toks) .nil (qu_ _)
 have hfo:∀b∈fp,∃o,s.heap.get? b=some o:=λb hb=>let ⟨o,ho,_⟩:=T.obj _ _ st b hb;⟨o,ho⟩
 have hlt:∀b∈fp,b<s.heap.objs.size:=λb hb=>let ⟨o,ho⟩:=hfo b hb;qf_ ho
 have fp3:∀b∈fp,eY X pins (upd H s.heap.objs.size (.lst [])) b:=λb hb=>⟨by rw[bL (qm_ (hlt b hb))];exact(hfp b hb).1,(hfp b hb).2⟩
 obtain⟨n0,W,w0,turn⟩:=hw s.heap.objs.size I.fresh
 generalize hs3:({s with heap:=s.heap.push {cls:=.type "list",dict:=none,data:=.seq ([]:List Value).toArray}}:Shared)=s3 at I3
 have eh:s3.heap=s.heap.push {cls:=.type "list",dict:=none,data:=.seq ([]:List Value).toArray}:=by rw[<-hs3]
 rw[<-eh]at hns₁ hsb₁ ⊢
 have hk:∀b o,s3.heap.get? b=some o->h₁.get? b=some o:=λb o e=>hsb₁.extBut b o (qm_ (qf_ e)) (qd_ _ e)
 have hk0:∀b o,s.heap.get? b=some o->s3.heap.get? b=some o:=λb o e=>by rw[eh];exact qd_ _ e
 have J0:Inv (cG X N scope cl s3.heap.objs.size fp s3 (upd H s.heap.objs.size (.lst []))) [] (σc own fr σ) (upd H s.heap.objs.size (.lst [])) {s3 with heap:=h₁}:=
  zF7 I3 S hcl hcf fp3 (λb hb=>let ⟨o,ho⟩:=hfo b hb;⟨o,hk0 b o ho⟩) hns₁ hk
 have st0:tn 0 h₁:=T.keep _ _ _ st λb _ o e=>hk b o (hk0 b o e)
 have stat:∀{H':Hp},(∀b∈fp,H' b=none)->∀b∈fp,eY (cG X N scope cl s3.heap.objs.size fp s3 (upd H s.heap.objs.size (.lst []))) [] H' b:=λhn b hb=>
  ⟨hn b hb,(J0.ok.exf b hb).1,J0.ok.exfs b hb,.inl hb,(J0.ok.exf b hb).2,λp hp=>absurd (show p∈([]:List (Addr×Obj)) from hp) (by simp)⟩
 have loop:∀s4:Shared,s4={s3 with heap:=h₁}->codeAny (model X.prog X.w) X.A (.compLoop (.ListComp elt [⟨tg,iter,ifs,0⟩] scope pos) 0 (.ref it) (.ref s.heap.objs.size) (compEnvC scope cl s3.heap.objs.size X.env))
   (RR (.ref s.heap.objs.size) s3.heap.objs.size) s4:=by
  rintro s4 rfl
  refine zDC (λn s'=>∃i ow H' ys,Inv (cG X N scope cl s3.heap.objs.size fp s3 (upd H s.heap.objs.size (.lst []))) [] (ow++σf fr σ) H' s'/\ow.length=own/\tn i s'.heap/\(∀b∈fp,H' b=none)/\H' s.heap.objs.size=some (.lst ys)/\(n=n0-i/\i<=n0)/\W i ys H') ?_ n0
   ⟨0,List.replicate own none,_,[],J0,by simp,st0,λb hb=>(fp3 b hb).1,aZ,⟨rfl,qu_ _⟩,w0⟩
  rintro n s5 ⟨i,ow,H5,ys,I5,hlo,st5,fr5,ha5,⟨rfl,hi5⟩,w5⟩
  rcases turn i ys H5 hi5 ha5 w5 with⟨stop,qn⟩|⟨hin,go,step⟩
  ·refine thn (T.done (cG X N scope cl s3.heap.objs.size fp s3 (upd H s.heap.objs.size (.lst []))) rfl rfl rfl hc i [] s5 _ H5 (λ_ _=>False) I5 (stat fr5) st5 stop) λr s6 ⟨hr,I6⟩=>?_
   subst hr
   have IX:Inv X pins σ H5 s6:=I3.call' I6.os I6.base I6.hok I6.bare λb hb=>let ⟨_,f2,_,f4,f5,f6⟩:=fp3 b hb;⟨f4,f2,f5,f6⟩
   refine hRR _ _ s6 H5 IX qn (I3.fpOk (qe_ _) I6.free) ?_
   obtain⟨m,hn,_⟩:=I6.loc
   exact⟨m,hn⟩
  ·refine thn (T.item (cG X N scope cl s3.heap.objs.size fp s3 (upd H s.heap.objs.size (.lst []))) rfl rfl rfl hc i [] s5 _ H5 (λ_ _=>False) I5 (stat fr5) st5 go) λr s6 ⟨u,hr,h6⟩=>?_
   subst hr
   refine thn h6 λ_ s7 ⟨x,H7,I7,r7,y7,st7,fr7⟩=>?_
   have I7':=(I7.pinned (stat fr7) (T.obj _ _ st7)).weak (σ':=σc own fr σ) (by unfold σc;simp[hlo]) (λj v e=>by
    unfold σc at e
    rcases Nat.lt_or_ge j own with z|z
    ·rw[qH1_ (by simpa using z),qe2_]at e
     split at e<;>cases e
    ·rw[qG1_ (by simpa using z)]at e
     rw[qG1_ (by rw[hlo];exact z),hlo]
     simpa using e)
   refine thn (hg _ _ _ _ s7 _ H7 x u _ I7' r7 (step x H7 y7)) λ_ s8 ⟨σ8,H8,I8,⟨ow8,hl8,e8⟩,q8⟩=>?_
   refine thn (hf _ _ _ _ s8 _ H8 _ I8 q8) λok s9 ⟨H9,I9,q9⟩=>?_
   have again:∀{H':Hp} {s':Shared},Inv (cG X N scope cl s3.heap.objs.size fp s3 (upd H s.heap.objs.size (.lst []))) ([]++oE fp s7.heap) σ8 H' s'->∀{ys':List V},H' s.heap.objs.size=some (.lst ys')->W (i+1) ys' H' ->
     ∃m,m<n0-i/\∃i ow H' ys,Inv (cG X N scope cl s3.heap.objs.size fp s3 (upd H s.heap.objs.size (.lst []))) [] (ow++σf fr σ) H' s'/\ow.length=own/\tn i s'.heap/\(∀b∈fp,H' b=none)/\H' s.heap.objs.size=some (.lst ys)/\(m=n0-i/\i<=n0)/\W i ys H':=λ{H' s'} I' {ys'} ha hw'=>by
    refine⟨n0-(i+1),by omega,i+1,ow8,H',ys',e8▸I'.unpinned,hl8,T.keep _ _ _ st7 λb hb o e=>(I'.pin (b,o) (qq_ _ (qq_ _ (pQ hb e)))).1,λb hb=>?_,ha,⟨rfl,hin⟩,hw'⟩
    obtain⟨o,e,_⟩:=T.obj _ _ st7 b hb
    exact(I'.pin (b,o) (qq_ _ (qq_ _ (pQ hb e)))).2.1
   cases ok with
   |false=>
    have q9':H9 s.heap.objs.size=some (.lst ys)/\W (i+1) ys H9:=by simpa using q9
    obtain⟨ha,hw'⟩:=q9'
    show if false=true then _ else _
    rw[if_neg (by decide)]
    exact again I9 ha hw'
   |true=>
    rw[if_pos rfl]at q9
    show if true=true then _ else _
    rw[if_pos rfl]
    refine thn (he _ _ _ _ s9 _ H9 _ I9 q9) λy s10 ⟨v10,H10,I10,r10,ha10,hz10,hw'⟩=>?_
    refine thn (uE _ s10 _ H10 (.ref s.heap.objs.size) [v10] (.ref s.heap.objs.size) [y] (λ_ H'=>H'=upd H10 s.heap.objs.size (.lst (ys++[v10]))) I10 rfl (.cons r10 .nil) ⟨_,ys,v10,rfl,rfl,ha10,hz10,rfl⟩) λ_ s11 ⟨_,H11,I11,_,e11⟩=>?_
    subst e11
    exact again I11 aZ hw'
 exact codeAny_compStart_list (loop _ (by rw[<-hs3];rfl)) (T.self X.A 0 _ _ _ st0 (loop _ (by rw[<-hs3];rfl)))
end
def wI(own:Nat)(fr:List Nat)(wi:TI)(g:TG)(tf:TT)(te:TE):TE:=λσ H Q=>wi σ H λJ H1=>∀a,H1 a=none->zCU J a own fr g tf te σ H1 Q
section
variable{X:Cx}{sc:Scope}{XN N:List Str}{own:Nat}{fr:List Nat}{scope:Scope}{elt tg iter:Expr}{ifs:List Expr}{pos:Pos}{wi:TI}{g:TG}{tf:TT}{te:TE}
theorem zG6(hc:X.calm=true)(S:kA sc XN N own fr scope)(hi:PI X tg iter wi)
  (hg:∀cl C fp s H,PG (cG X N scope cl C fp s H) tg g) (hf:∀cl C fp s H,PFs (cG X N scope cl C fp s H) ifs tf) (he:∀cl C fp s H,PE (cG X N scope cl C fp s H) elt te)
  (hs:∀x,foldedSetIterable iter X.env x=pure x:=by intro _;rfl) (hsc:X.env.scope=sc:=by rfl) (hxn:X.N=XN:=by rfl):PE X (.ListComp elt [⟨tg,iter,ifs,0⟩] scope pos) (wI own fr wi g tf te):=by
 subst hsc hxn
 intro pins s σ H Q I h
 obtain⟨cl,c1,c2,c3⟩:=zH (scope:=scope) (env:=X.env) λy hy e=>I.ok.has y.1 (S.free y hy e)
 rw[eval_ListComp]
 refine wpAny_comprehension_free (use:=none) rfl hs c1 S.kind S.loc (thn (hi pins s σ H _ I h) λxv s1 h1=>thn h1 λitv s2 h2=>?_)
 obtain⟨it,fp,tn,J,H2,e,I2,T,st2,f2,hw⟩:=h2
 subst e
 refine zG hc S c2 c3 (λC s H=>hg cl C fp s H) (λC s H=>hf cl C fp s H) (λC s H=>he cl C fp s H) I2 T st2 f2 hw λa C s' H' I' q fC ⟨m,hn⟩=>?_
 refine⟨m,hn,λh' hs'=>?_⟩
 obtain⟨f0,f1,_,f3,f4,f5⟩:=fC
 exact⟨.ref a,H',I'.turned (t':=s'.toks) (λb o hb e=>hs'.extBut b o hb e) f0 f1 f3 f4 f5,rfl,q⟩
theorem zBw{i:Nat}{x:Str}{pos' spos:Pos}(hc:X.calm=true)(hN:X.N.Nodup)(hx:X.N[i]?=some x)(hl:Loc X.env.scope x)(S:kA sc XN N own fr scope)(hi:PI X tg iter wi)
  (hg:∀cl C fp s H,PG (cG X N scope cl C fp s H) tg g) (hf:∀cl C fp s H,PFs (cG X N scope cl C fp s H) ifs tf) (he:∀cl C fp s H,PE (cG X N scope cl C fp s H) elt te)
  (hsw:swapsWith (.ListComp elt [⟨tg,iter,ifs,0⟩] scope pos) (some (.Name x pos')) spos.line X.env=pure true:=by rfl)
  (hf':X.fn x=true\/X.env.scope.names.lookup x=some .local:=by first|exact .inl rfl|exact .inr rfl|assumption)
  (hs:∀x,foldedSetIterable iter X.env x=pure x:=by intro _;rfl) (hsc:X.env.scope=sc:=by rfl) (hxn:X.N=XN:=by rfl):PS X (.Assign [.Name x pos'] (.ListComp elt [⟨tg,iter,ifs,0⟩] scope pos) spos) (sB (wI own fr wi g tf te) (rY i)):=by
 subst hsc hxn
 intro pins s σ H D I h
 obtain⟨cl,c1,c2,c3⟩:=zH (scope:=scope) (env:=X.env) λy hy e=>I.ok.has y.1 (S.free y hy e)
 rw[exec_Assign_Name_used _ _ _ _ hsw]
 refine qa_ (wpAny_standAt (qa_ ?_))
 show wpAny _ X.A (do let _ <- comprehension (.ListComp elt [⟨tg,iter,ifs,0⟩] scope pos) scope X.env _ (newList []) false (eval iter X.env) (some (assign (.Name x pos') X.env))) _ _ s
 refine qa_ (wpAny_mono (wpAny_comprehension_free (use:=some (assign (.Name x pos') X.env)) (Q:=λ_ s'=>SP X pins D .next s') rfl hs c1 S.kind S.loc
  (thn (hi pins s σ H _ I h) λxv s1 h1=>thn h1 λitv s2 h2=>?_)) (λ_ s' hq=>qb_ (qb_ hq)) λ_ _ e=>e)
 obtain⟨it,fp,tn,J,H2,e,I2,T,st2,f2,hw⟩:=h2
 subst e
 refine zG hc S c2 c3 (λC s H=>hg cl C fp s H) (λC s H=>hf cl C fp s H) (λC s H=>he cl C fp s H) I2 T st2 f2 hw λa C s' H' I' q fC ⟨m,hn⟩=>?_
 obtain⟨f0,f1,f2',f3,f4,f5⟩:=fC
 show wpAny _ _ (assign (.Name x pos') X.env (.ref a)) _ _ _
 refine wpAny_assign_Name (zU I' hN hx hl (show RelV (.ref a) (.ref a) from rfl) (λs2 J2 ⟨b,hb,hb'⟩=>?_) hf')
 have hbC:C≠b:=by
  rcases hb' with z|z
  ·rw[z];exact f1
  ·exact λe=>f4 _ _ z e.symm
 refine⟨m,hn.sameBut hb hbC,λh' hs'=>?_⟩
 exact⟨_,H',J2.turned (t':=s2.toks) (λb o hb e=>hs'.extBut b o hb e) f0 f1 f3 f4 f5,q⟩
end
end L2
namespace L2
open PySem PySem.Spec PyProof.Rows
section
variable{X:Cx}
def TyV(K:W.Frag)(T:String)(x:V)(H:Hp)(b:Bool):Prop:=match x with
 |.non=>b=false
 |.bl _=>b=(T=="bool" || T=="int")
 |.int _=>b=(T=="int")
 |.str _=>b=(T=="str")
 |.ref a=>(∃xs,SqL K H a xs/\b=(T=="list"))\/(∃xs,SqT K H a xs/\b=(T=="tuple"))\/(∃kvs,Rd H a (.dK kvs)/\b=(T=="dict"))
 |_=>False
theorem lE{prog:Program}{w:World}{A:Around}{E:Value->Shared->Prop}{s:Shared}{Q:Value->Shared->Prop}{T:String}(hne:(Value.type "NoneType"==Value.type T)=false)(hty:typeOf (.type T)=pure (.type "type"))
  (hsub:isSubtype (.type "NoneType") (.type T)=pure false) (h:Q (.bool false) {s with toks:=s.toks+1}):wpAny (model prog w) A (call (.builtin "isinstance") [.none,.type T]) Q E s:=
 call_isinstance (S:=λ_ R s=>R (.ok (.ret (.bool false))) {s with toks:=s.toks+1}) (λ_ _ _ _ s hs=>by
  obtain⟨h,g,d,t,os⟩:=s
  exact isinstance_outer (isinstance_nested_false_none hne hty hsub hs)) h
theorem Inv.lcls{pins:List (Addr×Obj)}{σ:St}{H:Hp}{s:Shared}{a:Addr}{xs:List V}(I:Inv X pins σ H s)(h:SqL X.K H a xs):∃o,s.heap.get? a=some o/\o.cls=.type "list":=by
 obtain⟨its,r,pl,hz⟩:=I.list h
 obtain⟨o,ho,hc,_⟩:=pl.isList
 exact⟨o,ho,hc⟩
theorem Inv.tcls{pins:List (Addr×Obj)}{σ:St}{H:Hp}{s:Shared}{a:Addr}{xs:List V}(I:Inv X pins σ H s)(h:SqT X.K H a xs):∃o,s.heap.get? a=some o/\o.cls=.type "tuple":=by
 obtain⟨its,r,⟨o,ho,hc,_⟩,hz⟩:=I.tuple h
 exact⟨o,ho,hc⟩
theorem Inv.dcls{pins:List (Addr×Obj)}{σ:St}{H:Hp}{s:Shared}{a:Addr}{kvs:List (Key×V)}(I:Inv X pins σ H s)(h:Rd H a (.dK kvs)):∃o,s.heap.get? a=some o/\o.cls=.type "dict":=by
 obtain⟨_,_,vs,_,dd⟩:=h.ok I.hok
 obtain⟨o,ho,hc⟩:=dd.typeIs
 exact⟨o,ho,hc⟩
theorem kU:CallR X (.builtin "isinstance") (λxs H Q=>∃x b,xs=[x,.ty "int"]/\TyV X.K "int" x H b/\Q (.bl b) H):=by
 intro pins s σ H xs us Q I r h
 obtain⟨x,b,rfl,hx,q⟩:=h
 obtain⟨u,w',rfl,rx,ry⟩:=iX r
 cases ry
 cases x with
 |non=>cases rx;cases hx;exact lE (by decide +kernel) F.isi_meta_int F.sub_NoneType_int ⟨.bl _,H,I.tok _,rfl,q⟩
 |bl k=>cases rx;cases hx;exact IsiPair.bool_int ⟨.bl _,H,I,rfl,q⟩
 |int i=>obtain⟨t,rfl⟩:=rx;cases hx;exact IsiPair.int_int ⟨.bl _,H,I,rfl,q⟩
 |str i=>obtain⟨t,rfl⟩:=rx;cases hx;exact IsiPair.str_int ⟨.bl _,H,I.tok _,rfl,q⟩
 |ref a=>
  cases rx
  rcases hx with⟨xs,hx,rfl⟩|⟨xs,hx,rfl⟩|⟨xs,hx,rfl⟩
  ·obtain⟨o,ho,hc⟩:=I.lcls hx;exact IsiPair.list_int ho hc ⟨.bl _,H,I.tok _,rfl,q⟩
  ·obtain⟨o,ho,hc⟩:=I.tcls hx;exact IsiPair.tuple_int ho hc ⟨.bl _,H,I.tok _,rfl,q⟩
  ·obtain⟨o,ho,hc⟩:=I.dcls hx;exact IsiPair.dict_int ho hc ⟨.bl _,H,I.tok _,rfl,q⟩
 |_=>exact False.elim hx
theorem jW:CallR X (.builtin "isinstance") (λxs H Q=>∃x b,xs=[x,.ty "bool"]/\TyV X.K "bool" x H b/\Q (.bl b) H):=by
 intro pins s σ H xs us Q I r h
 obtain⟨x,b,rfl,hx,q⟩:=h
 obtain⟨u,w',rfl,rx,ry⟩:=iX r
 cases ry
 cases x with
 |non=>cases rx;cases hx;exact lE (by decide +kernel) F.isi_meta_bool F.sub_NoneType_bool ⟨.bl _,H,I.tok _,rfl,q⟩
 |bl k=>cases rx;cases hx;exact IsiPair.bool_bool ⟨.bl _,H,I,rfl,q⟩
 |int i=>obtain⟨t,rfl⟩:=rx;cases hx;exact IsiPair.int_bool ⟨.bl _,H,I.tok _,rfl,q⟩
 |str i=>obtain⟨t,rfl⟩:=rx;cases hx;exact IsiPair.str_bool ⟨.bl _,H,I.tok _,rfl,q⟩
 |ref a=>
  cases rx
  rcases hx with⟨xs,hx,rfl⟩|⟨xs,hx,rfl⟩|⟨xs,hx,rfl⟩
  ·obtain⟨o,ho,hc⟩:=I.lcls hx;exact IsiPair.list_bool ho hc ⟨.bl _,H,I.tok _,rfl,q⟩
  ·obtain⟨o,ho,hc⟩:=I.tcls hx;exact IsiPair.tuple_bool ho hc ⟨.bl _,H,I.tok _,rfl,q⟩
  ·obtain⟨o,ho,hc⟩:=I.dcls hx;exact IsiPair.dict_bool ho hc ⟨.bl _,H,I.tok _,rfl,q⟩
 |_=>exact False.elim hx
theorem kT:CallR X (.builtin "isinstance") (λxs H Q=>∃x b,xs=[x,.ty "str"]/\TyV X.K "str" x H b/\Q (.bl b) H):=by
 intro pins s σ H xs us Q I r h
 obtain⟨x,b,rfl,hx,q⟩:=h
 obtain⟨u,w',rfl,rx,ry⟩:=iX r
 cases ry
 cases x with
 |non=>cases rx;cases hx;exact lE (by decide +kernel) F.isi_meta_str F.sub_NoneType_str ⟨.bl _,H,I.tok _,rfl,q⟩
 |bl k=>cases rx;cases hx;exact IsiPair.bool_str ⟨.bl _,H,I.tok _,rfl,q⟩
 |int i=>obtain⟨t,rfl⟩:=rx;cases hx;exact IsiPair.int_str ⟨.bl _,H,I.tok _,rfl,q⟩
 |str i=>obtain⟨t,rfl⟩:=rx;cases hx;exact IsiPair.str_str ⟨.bl _,H,I,rfl,q⟩
 |ref a=>
  cases rx
  rcases hx with⟨xs,hx,rfl⟩|⟨xs,hx,rfl⟩|⟨xs,hx,rfl⟩
  ·obtain⟨o,ho,hc⟩:=I.lcls hx;exact IsiPair.list_str ho hc ⟨.bl _,H,I.tok _,rfl,q⟩
  ·obtain⟨o,ho,hc⟩:=I.tcls hx;exact IsiPair.tuple_str ho hc ⟨.bl _,H,I.tok _,rfl,q⟩
  ·obtain⟨o,ho,hc⟩:=I.dcls hx;exact IsiPair.dict_str ho hc ⟨.bl _,H,I.tok _,rfl,q⟩
 |_=>exact False.elim hx
theorem pF:CallR X (.builtin "isinstance") (λxs H Q=>∃x b,xs=[x,.ty "list"]/\TyV X.K "list" x H b/\Q (.bl b) H):=by
 intro pins s σ H xs us Q I r h
 obtain⟨x,b,rfl,hx,q⟩:=h
 obtain⟨u,w',rfl,rx,ry⟩:=iX r
 cases ry
 cases x with
 |non=>cases rx;cases hx;exact lE (by decide +kernel) F.isi_meta_list F.sub_NoneType_list ⟨.bl _,H,I.tok _,rfl,q⟩
 |bl k=>cases rx;cases hx;exact IsiPair.bool_list ⟨.bl _,H,I.tok _,rfl,q⟩
 |int i=>obtain⟨t,rfl⟩:=rx;cases hx;exact IsiPair.int_list ⟨.bl _,H,I.tok _,rfl,q⟩
 |str i=>obtain⟨t,rfl⟩:=rx;cases hx;exact IsiPair.str_list ⟨.bl _,H,I.tok _,rfl,q⟩
 |ref a=>
  cases rx
  rcases hx with⟨xs,hx,rfl⟩|⟨xs,hx,rfl⟩|⟨xs,hx,rfl⟩
  ·obtain⟨o,ho,hc⟩:=I.lcls hx;exact IsiPair.list_list ho hc ⟨.bl _,H,I,rfl,q⟩
  ·obtain⟨o,ho,hc⟩:=I.tcls hx;exact IsiPair.tuple_list ho hc ⟨.bl _,H,I.tok _,rfl,q⟩
  ·obtain⟨o,ho,hc⟩:=I.dcls hx;exact IsiPair.dict_list ho hc ⟨.bl _,H,I.tok _,rfl,q⟩
 |_=>exact False.elim hx
theorem yE:CallR X (.builtin "isinstance") (λxs H Q=>∃x b,xs=[x,.ty "tuple"]/\TyV X.K "tuple" x H b/\Q (.bl b) H):=by
 intro pins s σ H xs us Q I r h
 obtain⟨x,b,rfl,hx,q⟩:=h
 obtain⟨u,w',rfl,rx,ry⟩:=iX r
 cases ry
 cases x with
 |non=>cases rx;cases hx;exact lE (by decide +kernel) F.isi_meta_tuple F.sub_NoneType_tuple ⟨.bl _,H,I.tok _,rfl,q⟩
 |bl k=>cases rx;cases hx;exact IsiPair.bool_tuple ⟨.bl _,H,I.tok _,rfl,q⟩
 |int i=>obtain⟨t,rfl⟩:=rx;cases hx;exact IsiPair.int_tuple ⟨.bl _,H,I.tok _,rfl,q⟩
 |str i=>obtain⟨t,rfl⟩:=rx;cases hx;exact IsiPair.str_tuple ⟨.bl _,H,I.tok _,rfl,q⟩
 |ref a=>
  cases rx
  rcases hx with⟨xs,hx,rfl⟩|⟨xs,hx,rfl⟩|⟨xs,hx,rfl⟩
  ·obtain⟨o,ho,hc⟩:=I.lcls hx;exact IsiPair.list_tuple ho hc ⟨.bl _,H,I.tok _,rfl,q⟩
  ·obtain⟨o,ho,hc⟩:=I.tcls hx;exact IsiPair.tuple_tuple ho hc ⟨.bl _,H,I,rfl,q⟩
  ·obtain⟨o,ho,hc⟩:=I.dcls hx;exact IsiPair.dict_tuple ho hc ⟨.bl _,H,I.tok _,rfl,q⟩
 |_=>exact False.elim hx
theorem mQ:CallR X (.builtin "isinstance") (λxs H Q=>∃x b,xs=[x,.ty "dict"]/\TyV X.K "dict" x H b/\Q (.bl b) H):=by
 intro pins s σ H xs us Q I r h
 obtain⟨x,b,rfl,hx,q⟩:=h
 obtain⟨u,w',rfl,rx,ry⟩:=iX r
 cases ry
 cases x with
 |non=>cases rx;cases hx;exact lE (by decide +kernel) F.isi_meta_dict F.sub_NoneType_dict ⟨.bl _,H,I.tok _,rfl,q⟩
 |bl k=>cases rx;cases hx;exact IsiPair.bool_dict ⟨.bl _,H,I.tok _,rfl,q⟩
 |int i=>obtain⟨t,rfl⟩:=rx;cases hx;exact IsiPair.int_dict ⟨.bl _,H,I.tok _,rfl,q⟩
 |str i=>obtain⟨t,rfl⟩:=rx;cases hx;exact IsiPair.str_dict ⟨.bl _,H,I.tok _,rfl,q⟩
 |ref a=>
  cases rx
  rcases hx with⟨xs,hx,rfl⟩|⟨xs,hx,rfl⟩|⟨xs,hx,rfl⟩
  ·obtain⟨o,ho,hc⟩:=I.lcls hx;exact IsiPair.list_dict ho hc ⟨.bl _,H,I.tok _,rfl,q⟩
  ·obtain⟨o,ho,hc⟩:=I.tcls hx;exact IsiPair.tuple_dict ho hc ⟨.bl _,H,I.tok _,rfl,q⟩
  ·obtain⟨o,ho,hc⟩:=I.dcls hx;exact IsiPair.dict_dict ho hc ⟨.bl _,H,I,rfl,q⟩
 |_=>exact False.elim hx
theorem zFf(hc:X.calm=true):CallR X (.builtin "sum") (λxs H Q=>∃(p:Addr) (ns:List Int),xs=[.ref p]/\SqL X.K H p (ns.map V.int)/\Q (.int ns.sum) H):=by
 intro pins s σ H xs us Q I r h
 obtain⟨p,ns,rfl,hq,q⟩:=h
 obtain⟨u,rfl,rx⟩:=cQ r
 cases rx
 obtain⟨its,rv,pl,hz⟩:=I.list hq
 have hi:IntsAre its ns:=pR rv
 have hall:=hi.allInts
 have e0:=hi.numsOf
 obtain⟨xs,ex⟩:=hall.items
 have e1:numsOf (intItems xs).toList=ns:=by rw[<-ex];exact e0
 rw[nums_intItems]at e1
 have hl:=pl.isList
 rw[ex]at hl
 refine sum_intListG (I.ok.hd hc) hl λh' tk t' hk=>⟨.int ns.sum,H,I.kept hk,⟨t',?_⟩,q⟩
 rw[preSum_eq,qg2_ (by simp),e1]
theorem zDK{prog:Program}{w:World}{A:Around}{bs:List Bool}{its:List Value}(rv:Vals (bs.map V.bl) its):TruthOf prog w A (λi v=>its.toArray[i]?=some v) λi=>bs.getD i false:=by
 intro i v s Q E hP hQ
 have hi:its[i]?=some v:=by simpa using hP
 have hl:=rv.length
 rw[qc_]at hl
 have hlt:i<bs.length:=by rw[hl];exact(qw_.mp hi).1
 obtain⟨u,hu,ru⟩:=rv.get (i:=i) (x:=V.bl (bs.getD i false)) (by rw[qv_,qV_,qk_ hlt];rfl)
 rw[hi]at hu
 cases hu
 cases ru
 exact wpAny_truthy_bool hQ
theorem zEH(bs:List Bool):(List.range bs.length).any (λi=>bs.getD i false)=bs.any id:=by
 induction bs with
 |nil=>rfl
 |cons b r ih=>
  rw[qI_,qw2_,qB1_,qB1_,List.any_map]
  rw[<-ih]
  rfl
theorem zFl(hc:X.calm=true):CallR X (.builtin "any") (λxs H Q=>∃(p:Addr) (bs:List Bool),xs=[.ref p]/\SqL X.K H p (bs.map V.bl)/\Q (.bl (bs.any id)) H):=by
 intro pins s σ H xs us Q I r h
 obtain⟨p,bs,rfl,hq,q⟩:=h
 obtain⟨u,rfl,rx⟩:=cQ r
 cases rx
 obtain⟨its,rv,pl,hz⟩:=I.list hq
 have hlt:p<s.heap.objs.size:=by obtain⟨_,e,_⟩:=pl.isList;exact qf_ e
 have hll:=rv.length
 rw[qc_]at hll
 refine call_any_walk (wpAny_pyIter_list pl.isList ?_)
 refine⟨s.heap.objs.size,_,_,_,_,_,λi=>bs.getD i false,rfl,Walks.list (A:=X.A.in1) (I.ok.hd hc) _ p (qm_ hlt) its.toArray,⟨⟨_,qj_ _ rfl,rfl,rfl⟩,pl.isList.at λo e=>qd_ _ e⟩,zDK rv,λh' tk hk=>?_⟩
 refine⟨.bl (bs.any id),H,I.kept λb o e=>hk b o (by simpa using qm_ (qf_ e)) (qd_ _ e),?_,q⟩
 show Value.bool _=Value.bool _
 rw[qo_,<-hll,zEH]
def gA:List V->List V->Bool
 |[],[]=>true
 |x::xs,y::ys=>eqV x y&&gA xs ys
 |_,_=>false
theorem zA5:∀{xs ys:List V},xs.length≠ys.length->gA xs ys=false
 |[],[],h=>absurd rfl h
 |[],_::_,_=>rfl
 |_::_,[],_=>rfl
 |x::xs,y::ys,h=>by
  have:=zA5 (xs:=xs) (ys:=ys) (λe=>h (by simp[e]))
  simp[gA,this]
theorem zF:∀{xs ys:List V},xs.length=ys.length->(List.range xs.length).all (λi=>eqV (xs.getD i .non) (ys.getD i .non))=gA xs ys
 |[],[],_=>rfl
 |[],_::_,h=>by simp at h
 |_::_,[],h=>by simp at h
 |x::xs,y::ys,h=>by
  have ih:=zF (xs:=xs) (ys:=ys) (by simpa using h)
  rw[qI_,qw2_,List.all_cons,List.all_map]
  show(eqV x y&&(List.range xs.length).all λi=>eqV (xs.getD i .non) (ys.getD i .non))=(eqV x y&&gA xs ys)
  rw[ih]
theorem zGu{A:Around}{s:Shared}{xs ys:List V}{us ws:List Value}(r:Vals xs us)(r':Vals ys ws)(fx:xs.all dJ=true)(fy:ys.all dJ=true)(j:Nat)(h1:j<us.toArray.size)(h2:j<ws.toArray.size):
  SeqAt.EqAt A s us.toArray[j] ws.toArray[j] (eqV (xs.getD j .non) (ys.getD j .non)):=by
 have l1:=r.length
 have l2:=r'.length
 have k1:j<xs.length:=by rw[l1];simpa using h1
 have k2:j<ys.length:=by rw[l2];simpa using h2
 obtain⟨u,hu,ru⟩:=r.get (i:=j) (x:=xs.getD j .non) (by rw[qV_,qk_ k1];rfl)
 obtain⟨w',hw,rw'⟩:=r'.get (i:=j) (x:=ys.getD j .non) (by rw[qV_,qk_ k2];rfl)
 have e1:us.toArray[j]=u:=by
  obtain⟨_,e⟩:=qw_.mp hu
  simpa using e
 have e2:ws.toArray[j]=w':=by
  obtain⟨_,e⟩:=qw_.mp hw
  simpa using e
 rw[e1,e2]
 refine zCt ru rw' (qK1_.mp fx _ ?_) (qK1_.mp fy _ ?_)
 ·rw[qV_,qk_ k1];exact qL1_ k1
 ·rw[qV_,qk_ k2];exact qL1_ k2
def zKV(K:W.Frag)(neg:Bool):R2:=λx y H Q=>∃p q xs ys,x=.ref p/\y=.ref q/\SqL K H p xs/\SqL K H q ys/\xs.all dJ=true/\ys.all dJ=true/\Q (.bl (if neg then !gA xs ys else gA xs ys)) H
theorem zIW(hu:X.A.units<cLine):OpR X (compareOp .Eq) (zKV X.K false):=by
 intro pins s σ H x y v u Q I rx ry h
 obtain⟨p,q,xs,ys,rfl,rfl,hx,hy,fx,fy,k⟩:=h
 cases rx
 cases ry
 obtain⟨us,r1,p1,z1⟩:=I.list hx
 obtain⟨ws,r2,p2,z2⟩:=I.list hy
 by_cases hl:xs.length=ys.length
 ·refine SeqAt.eq_listAt p1.isList p2.isList (by simp[<-r1.length,<-r2.length,hl]) hu (λj h1 h2=>zGu r1 r2 fx fy j h1 h2) ⟨.bl (gA xs ys),H,I,?_,k⟩
  show Value.bool _=Value.bool _
  rw[qo_,<-r1.length,zF hl]
 ·refine SeqAt.eq_list_lengthsAt p1.isList p2.isList (by simp[<-r1.length,<-r2.length,hl]) hu ⟨.bl (gA xs ys),H,I,?_,k⟩
  rw[zA5 hl];rfl
theorem zFF(n:Nat):sliceRange (sliceBounds none none (some (-1)) n).1 (sliceBounds none none (some (-1)) n).2.1 (sliceBounds none none (some (-1)) n).2.2=(List.range n).map λk=>n-1-k:=by
 have e:sliceBounds none none (some (-1)) n=((n:Int)-1,-1,-1):=by simp[sliceBounds]
 rw[e]
 unfold sliceRange
 simp only[show ¬ ((-1:Int) > 0) by decide,if_false]
 by_cases hn:n=0
 ·subst hn;simp
 ·have h1:(n:Int)-1 > -1:=by omega
  rw[if_pos h1]
  have h2:(((n:Int)-1 - -1 - -1-1) / (- -1)).toNat=n:=by
   rw[show(n:Int)-1 - -1 - -1-1=n by omega,show(- -1:Int)=1 by decide,Int.ediv_one]
   exact Int.toNat_natCast n
  rw[h2]
  refine qx2_ λk hk=>?_
  have:=qu1_.mp hk
  omega
theorem zA3{α β:Type}{f g:α->Option β}:∀{l:List α},(∀x∈l,f x=g x)->l.filterMap f=l.filterMap g
 |[],_=>rfl
 |x::r,h=>by rw[qK_,qK_,h x qi1_,zA3 λy hy=>h y (qb1_ _ hy)]
theorem zY{α:Type}:∀zs:List α,(List.range zs.length).filterMap (λk=>zs.reverse[zs.length-1-k]?)=zs
 |[]=>rfl
 |z::r=>by
  rw[qI_,qw2_,qK_,qr2_]
  have h0:(z::r).reverse[r.length+1-1-0]?=some z:=by simp
  rw[h0]
  have h1:List.filterMap ((λk=>(z::r).reverse[r.length+1-1-k]?)∘Nat.succ) (List.range r.length)=List.filterMap (λk=>r.reverse[r.length-1-k]?) (List.range r.length):=by
   apply zA3
   intro k hk
   have hk:=qu1_.mp hk
   show(z::r).reverse[r.length+1-1-(k+1)]?=r.reverse[r.length-1-k]?
   rw[qb3_,qH1_ (by simp;omega)]
   rw[show r.length+1-1-(k+1)=r.length-1-k by omega]
  rw[h1,zY r]
theorem zFO{α:Type}(xs:List α):((List.range xs.length).map λk=>xs.length-1-k).filterMap (λi=>xs[i]?)=xs.reverse:=by
 have:=zY xs.reverse
 rw[qc3_,List.reverse_reverse]at this
 rw[qr2_]
 exact this
theorem zDs(its:List Value):slicePick its.toArray none none (some (-1))=its.reverse.toArray:=by
 unfold slicePick
 rw[qo_,zFF]
 congr 1
 have:=zFO its
 simpa using this
def zKC(K:W.Frag)(te tst:TE):TE:=λσ H Q=>te σ H λx H1=>tst σ H1 λy H2=>y=.int (-1)/\∃p xs,x=.ref p/\SqL K H2 p xs/\∀l,H2 l=none->Q (.ref l) (upd H2 l (.lst xs.reverse))
theorem zIH{e st:Expr}{te tst:TE}{pos p2:Pos}(he:PE X e te)(hst:PE X st tst)(ht:∀o r,letTemporaryGo e o r=pure ():=by intro _ _;rfl):PE X (.Subscript e (.Slice none none (some st) p2) pos) (zKC X.K te tst):=by
 intro pins s σ H Q I h
 refine wpAny_Subscript_Slice_step (T:="list") slot_list_getitem.lookup (thn (he pins s σ H _ I h) λv s1 ⟨x,H1,I1,r1,q1⟩=>?_) ht
 refine wpAny_Slice ?_
 rw[evalPart_none,evalPart_some]
 refine qb_ (qb_ (thn (hst pins s1 σ H1 _ I1 q1) λvs s2 ⟨y,H2,I2,r2,q2⟩=>?_))
 obtain⟨rfl,p,xs,rfl,hx,q⟩:=q2
 obtain⟨t,rfl⟩:=r2
 cases r1
 have I3:Inv X pins σ H2 {s2 with heap:=s2.heap.push {cls:=.type "slice",data:=.fields #[.none,.none,.int (-1) t]}}:=I2.kept (t':=s2.toks) λb ob q=>qd_ _ q
 obtain⟨its,rv,pl,hz⟩:=I3.list hx
 refine⟨pl.isList.typeIs,?_⟩
 refine wpAny_getItem_list_slice pl.isList (Heap.IsSliceOf.new ..) .none .none (.int (-1) t) (by decide) ?_ (by rw[qo_,<-rv.length];exact hz)
 rw[zDs]
 refine⟨.ref _,_,I3.laid (t':=s2.toks) (o:=.lst xs.reverse) (λb ob q=>qd_ _ q) (qe_ _) ?_,rfl,q _ (I3.hok.fresh (qe_ _))⟩
 exact⟨by rw[qc3_];exact hz,_,0,rv.reverse,qj_ _ rfl⟩
theorem zIT:OpR X (compareOp .Is) (λx y H Q=>∃b,y=.bl b/\Q (.bl (decide (x=.bl b))) H):=by
 intro pins s σ H x y v u Q I rx ry h
 obtain⟨b,rfl,q⟩:=h
 cases ry
 cases x with
 |non=>cases rx;exact wpAny_is_plain rfl ⟨.bl _,H,I,(by simp[RelV]),q⟩
 |bl k=>cases rx;exact wpAny_is_plain rfl ⟨.bl _,H,I,(by cases k<;>cases b<;>rfl),q⟩
 |int i=>obtain⟨t,rfl⟩:=rx;exact wpAny_is_plain rfl ⟨.bl _,H,I,(by simp[RelV]),q⟩
 |str i=>obtain⟨t,rfl⟩:=rx;exact wpAny_is_plain rfl ⟨.bl _,H,I,(by simp[RelV]),q⟩
 |byt i=>obtain⟨t,rfl⟩:=rx;exact wpAny_is_plain rfl ⟨.bl _,H,I,(by simp[RelV]),q⟩
 |flt i=>obtain⟨t,rfl⟩:=rx;exact wpAny_is_plain rfl ⟨.bl _,H,I,(by simp[RelV]),q⟩
 |ref i=>cases rx;exact wpAny_is_plain rfl ⟨.bl _,H,I,(by simp[RelV]),q⟩
 |ty i=>cases rx;exact wpAny_is_plain rfl ⟨.bl _,H,I,(by simp[RelV]),q⟩
theorem zEP:OpR X (compareOp .IsNot) (λx y H Q=>∃b,y=.bl b/\Q (.bl (!decide (x=.bl b))) H):=by
 intro pins s σ H x y v u Q I rx ry h
 obtain⟨b,rfl,q⟩:=h
 cases ry
 cases x with
 |non=>cases rx;exact wpAny_isNot_plain rfl ⟨.bl _,H,I,(by simp[RelV]),q⟩
 |bl k=>cases rx;exact wpAny_isNot_plain rfl ⟨.bl _,H,I,(by cases k<;>cases b<;>rfl),q⟩
 |int i=>obtain⟨t,rfl⟩:=rx;exact wpAny_isNot_plain rfl ⟨.bl _,H,I,(by simp[RelV]),q⟩
 |str i=>obtain⟨t,rfl⟩:=rx;exact wpAny_isNot_plain rfl ⟨.bl _,H,I,(by simp[RelV]),q⟩
 |byt i=>obtain⟨t,rfl⟩:=rx;exact wpAny_isNot_plain rfl ⟨.bl _,H,I,(by simp[RelV]),q⟩
 |flt i=>obtain⟨t,rfl⟩:=rx;exact wpAny_isNot_plain rfl ⟨.bl _,H,I,(by simp[RelV]),q⟩
 |ref i=>cases rx;exact wpAny_isNot_plain rfl ⟨.bl _,H,I,(by simp[RelV]),q⟩
 |ty i=>cases rx;exact wpAny_isNot_plain rfl ⟨.bl _,H,I,(by simp[RelV]),q⟩
def BigOk(j:Int):Prop:=j.natAbs<2 ^ 1024
theorem BigOk.log{j:Int}(h:BigOk j):j.natAbs.log2<9000:=by
 by_cases h0:j.natAbs=0
 ·rw[h0];decide +kernel
 ·have:j.natAbs.log2<1024:=(Nat.log2_lt h0).mpr h
  omega
theorem op_mulB:OpR X (binaryOp .Mult) (rI (λi j=>BigOk i/\BigOk j) λi j=>.int (i*j)):=opI λi j _ _ _ _ _ hc q=>by
 have bits:∀{x:Int},BigOk x->Builtin.Int.intBits x<=2 ^ 20:=λ{x} h=>by
  unfold Builtin.Int.intBits
  split
  ·exact qu_ _
  ·rename_i h0
   have h0':x.natAbs≠0:=λz=>h0 (by simpa using z)
   have:x.natAbs.log2<1024:=(Nat.log2_lt h0').mpr h
   omega
 exact mul_int q (.of_bits (bits hc.1) (bits hc.2))
theorem zAQ:OpR X (binaryOp .FloorDiv) (rI (λ_ j=>0<j/\BigOk j) λi j=>.int (i / j)):=opI λi j _ _ _ _ _ hc q=>by
 have h1:(0:Int)<j:=hc.1
 exact floordiv_int (by omega) (by rw[qk3_ i (by omega)];exact q) (.inl (PyProof.noPylong_of_log2 hc.2.log))
end
end L2
namespace L2
open PySem PySem.Spec PyProof.Rows
def dO:Expr->Bool
 |.Starred ..=>true
 |_=>false
theorem gU{e:Expr}{rest:List Expr}{env:Env}(h:dO e=false):starEach (e::rest) env=(false,eval e env)::starEach rest env:=by
 cases e<;>first|rfl|exact Bool.noConfusion h
theorem cT{X:Cx}{e:Expr}{es:List Expr}{te:TE}{t:TA}(ha:PE X e te)(hr:PA X es t)(h:dO e=false:=by rfl):PA X (e::es) (wH te t):=zG9 ha hr (gU h)
def Good(P:Program)(w:World)(K:W.Frag)(mg:Str->Option Value)(base:Heap)(k:Nat)(x:Str)(ps:List Str)(sp:Sp):Prop:=
 ∃(f:Addr) (fd:FuncData),FnOk P w K mg base CX0 k f fd ps sp/\Binds K fd ps []/\mg x=some (.ref f)/\W.keepIn K (.ref f)=true
section
variable{X:Cx}{k:Nat}{x:Str}{ps:List Str}{sp:Sp}{e:Expr}{es:List Expr}{t:TA}{p pos:Pos}
theorem rT(G:Good X.prog X.w X.K X.mg X.base k x ps sp)(hr:Room k X.A)(hg:Gl X x)(ha:PA X (e::es) t)(hdb:(x==("__debug__":Str))=false:=by decide)
  (hst:dO e=false:=by rfl) (hpl:(backTo pos (starEach es X.env)).any (·.1)=false:=by rfl):PE X (.Call (.Name x p) (e::es) [] pos) (oJ sp [] E0 t):=by
 obtain⟨f,fd,F,b,m,kp⟩:=G
 exact zG8 F hr hg m kp b .nil zCI ha hdb (gU hst) hpl
theorem zIK(G:Good X.prog X.w X.K X.mg X.base k x ps sp)(hr:Room k X.A)(hg:Gl X x)(hdb:(x==("__debug__":Str))=false:=by decide):PE X (.Call (.Name x p) [] [] pos) (oJ sp [] E0 sA):=by
 obtain⟨f,fd,F,b,m,kp⟩:=G
 exact zFU F hr hg m kp b .nil zCI hdb
end
def Has(K:W.Frag)(mg:Str->Option Value)(x:Str)(st:Stmt):Prop:=∃(f:Addr) (fd:FuncData),Fun K x x st f fd/\mg x=some (.ref f)
theorem Has.good{P:Program}{w:World}{K:W.Frag}{mg:Str->Option Value}{base:Heap}{x:Str}{st:Stmt}{N ps:List Str}{k:Nat}{sp:Sp}(h:Has K mg x st)(S:bC N ps (aN st))
  (hb:∀(kV doc pm:Value) (an:Option Addr) (cdv ct:Value) (us:List Value),us.length=ps.length->bindArgs (W.fnOf x x (hC st) (fD st) (aN st) .none kV doc pm an cdv ct) ⟨us,[]⟩=pure (ps.zip us))
  (len:∀vs H Q E,sp vs H Q E->vs.length=ps.length)
  (hbody:∀(f:Addr) (cdv:Value) (A:Around) (outer:List Env) (s:Shared) (H:Hp) (vs:List V) (Q:VK) (E:XK),Room k (A.deeper (envOfC x (aN st) s.heap.objs.size f cdv))->sp vs H Q E ->
   ∃t,PSs (jV CX0 P w K mg base N x (aN st) f cdv A outer s H E).nox (fD st) t/\t {nx:=λ_ H'=>Q .non H',rt:=Q} (dZ N vs) H):Good P w K mg base (k+1) x ps sp:=by
 obtain⟨f,fd,F,m⟩:=h
 exact⟨f,fd,F.ok S len λcdv A outer s H vs Q E hr q=>hbody f cdv A outer s H vs Q E hr q,F.binds hb,m,F.kp⟩
theorem has_mk{K:W.Frag}{h:Heap}{mg:Str->Option Value}{x:Str}{st:Stmt}{f:Addr}{oc:Value}{od an:Option Addr}{osl:Array (Option Value)}{kV doc pm cdv ct:Value}(X:K.In h)(G:h.Ns mainGlobals mg)
  (a:W.nsIn K mainGlobals x=some (some (.ref f))) (l:K.lookup f=some ⟨oc,od,.func (W.fnOf x x (hC st) (fD st) (aN st) .none kV doc pm an cdv ct),osl⟩)
  (c:W.codeIn K cdv x=true) (k:W.keepIn K (.ref f)=true):Has K mg x st:=⟨f,_,zCr l c k,PySem.W.mg_of X G a⟩
structure Own (mg:Str->Option Value):Prop where
 len:mg "len"=none
 range:mg "range"=none
 isinstance:mg "isinstance"=none
 int_:mg "int"=none
 bool_:mg "bool"=none
 str_:mg "str"=none
 list_:mg "list"=none
 tuple_:mg "tuple"=none
 dict_:mg "dict"=none
 sum:mg "sum"=none
 min:mg "min"=none
 max:mg "max"=none
 all:mg "all"=none
 any:mg "any"=none
 abs:mg "abs"=none
 zip:mg "zip"=none
 sorted:mg "sorted"=none
 set_:mg "set"=none
 enumerate:mg "enumerate"=none
theorem zIO{K:W.Frag}{h:Heap}{mg:Str->Option Value}(X:K.In h)(G:h.Ns mainGlobals mg)(z1:W.nsIn K mainGlobals "len"=some none)(z2:W.nsIn K mainGlobals "range"=some none)
    (z3:W.nsIn K mainGlobals "isinstance"=some none) (z4:W.nsIn K mainGlobals "int"=some none) (z5:W.nsIn K mainGlobals "bool"=some none) (z6:W.nsIn K mainGlobals "str"=some none)
    (z7:W.nsIn K mainGlobals "list"=some none) (z8:W.nsIn K mainGlobals "tuple"=some none) (z9:W.nsIn K mainGlobals "dict"=some none) (z10:W.nsIn K mainGlobals "sum"=some none)
    (z11:W.nsIn K mainGlobals "min"=some none) (z12:W.nsIn K mainGlobals "max"=some none) (z13:W.nsIn K mainGlobals "all"=some none) (z14:W.nsIn K mainGlobals "any"=some none)
    (z15:W.nsIn K mainGlobals "abs"=some none) (z16:W.nsIn K mainGlobals "zip"=some none) (z17:W.nsIn K mainGlobals "sorted"=some none) (z18:W.nsIn K mainGlobals "set"=some none)
    (z19:W.nsIn K mainGlobals "enumerate"=some none):Own mg:=
  ⟨qM_ X G z1,qM_ X G z2,qM_ X G z3,qM_ X G z4,qM_ X G z5,qM_ X G z6,qM_ X G z7,qM_ X G z8,qM_ X G z9,qM_ X G z10,
   qM_ X G z11,qM_ X G z12,qM_ X G z13,qM_ X G z14,qM_ X G z15,qM_ X G z16,qM_ X G z17,qM_ X G z18,qM_ X G z19⟩
structure DeckAt (H:Hp) (p c:Addr):Prop where
 ne:p≠c
 dk:∃S k:Int,H p=some (.lst [.ref c,.int S,.int k])
 cs:∃ns:List Int,H c=some (.lst (ns.map V.int))/\ns.length<=64
structure On (p c:Addr) (H H':Hp):Prop where
 d:DeckAt H' p c
 e:∀b o,H b=some o->b≠p->b≠c->H' b=some o
section
variable{p c a:Addr}{H H1 H2:Hp}{o:HO}
theorem DeckAt.nep(d:DeckAt H p c)(h:H a=none):a≠p:=λz=>by
 obtain⟨S,k,e⟩:=d.dk
 rw[z,e]at h;cases h
theorem DeckAt.nec(d:DeckAt H p c)(h:H a=none):a≠c:=λz=>by
 obtain⟨ns,e,_⟩:=d.cs
 rw[z,e]at h;cases h
theorem DeckAt.alloc(d:DeckAt H p c)(h:H a=none):DeckAt (upd H a o) p c:=by
 obtain⟨S,k,e⟩:=d.dk
 obtain⟨ns,e',l⟩:=d.cs
 exact⟨d.ne,⟨S,k,by rw[bL (d.nep h).symm];exact e⟩,ns,by rw[bL (d.nec h).symm];exact e',l⟩
theorem On.trans(x:On p c H H1)(y:On p c H1 H2):On p c H H2:=⟨y.d,λb o h hp hc=>y.e b o (x.e b o h hp hc) hp hc⟩
theorem On.alloc(x:On p c H H1)(h:H1 a=none):On p c H (upd H1 a o):=
 ⟨x.d.alloc h,λb u q hp hc=>by rw[bL (dR (x.e b u q hp hc) h)];exact x.e b u q hp hc⟩
end
def zBr:Sp:=λvs H Q _=>∃n k:Int,vs=[.int n,.int k]/\∀r:Int,Q (.int r) H
def zCa(K:W.Frag):Sp:=λvs H Q _=>∃(a:Addr) (ns:List Int),vs=[.ref a]/\SqL K H a (ns.map V.int)/\∀(p c:Addr) (H':Hp),H p=none->H c=none->DeckAt H' p c->Same H H'->Q (.ref p) H'
def zB9:Sp:=λvs H Q _=>∃(p c:Addr) (m:Int),vs=[.ref p,.int m]/\DeckAt H p c/\0<m/\BigOk m/\∀(r:Int) (H':Hp),0<=r->r<m->On p c H H'->Q (.int r) H'
end L2
namespace L2
open PySem PySem.Spec PyProof.Rows
theorem ObjOk.there{P:Program}{w:World}{H:Hp}{h:Heap}{a:Addr}{o:HO}(x:ObjOk P w H h a o):∃ob,h.get? a=some ob:=by
 cases o with
 |lst xs=>obtain⟨_,_,_,_,e⟩:=x;exact⟨_,e⟩
 |tup xs=>obtain⟨_,_,_,ob,e,_⟩:=x;exact⟨_,e⟩
 |dK kvs=>obtain⟨_,_,_,_,o,_,_,e,_⟩:=x;exact⟨_,e⟩
 |dT kvs=>obtain⟨_,_,_,_,o,_,_,e,_⟩:=x;exact⟨_,e⟩
 |set S n=>obtain⟨o,_,_,_,e,_⟩:=x;exact⟨_,e⟩
 |ins C dx fs=>obtain⟨_,_,_,e,_⟩:=x;exact⟨_,e⟩
 |own y=>obtain⟨_,e⟩:=x;exact⟨_,e⟩
 |xd fs=>obtain⟨_,⟨_,_,_,e,_⟩,_⟩:=x;exact⟨_,e⟩
 |rng lo hi=>obtain⟨_,_,_,e⟩:=x;exact⟨_,e⟩
 |frz ob u=>obtain⟨e,_⟩:=x;exact⟨_,e⟩
 |tbl ps=>exact⟨_,(show h.get? a=some _ from x)⟩
 |met f y=>exact⟨_,(show h.get? a=some _ from x)⟩
 |ext φ=>obtain⟨_,⟨_,e⟩,_⟩:=x;exact⟨_,e⟩
end L2
namespace L2
open PySem PySem.Spec PyProof.Rows
section
variable{X:Cx}
theorem bZ{H:Hp}{a:Addr}{o:HO}(h:H a=none):Same H (upd H a o):=λb u q=>by rw[bL (dR q h)];exact q
def zJT(K:W.Frag):R2:=λx y H Q=>∃a b xs ys,x=.ref a/\y=.ref b/\SqT K H a xs/\SqT K H b ys/\xs.length+ys.length<=sizeLine/\∀r H',SqT K H' r (xs++ys)->Same H H'->Q (.ref r) H'
theorem op_catG:OpR X (binaryOp .Add) (zJT X.K):=by
 intro pins s σ H x y v u Q I rx ry h
 obtain⟨a,b,xs,ys,rfl,rfl,ha,hb,hz,q⟩:=h
 by_cases hx:xs=[]
 ·subst hx
  cases rx
  cases ry
  obtain⟨its,r1,p1,_⟩:=I.tuple ha
  obtain⟨its2,r2,p2,_⟩:=I.tuple hb
  obtain⟨⟨cls,dd,data,sl⟩,ho,hc,n,hd⟩:=id p1
  obtain⟨⟨cls2,dd2,data2,sl2⟩,ho2,hc2,n2,hd2⟩:=id p2
  simp only at hc hd hc2 hd2
  subst hc hd hc2 hd2
  have e1:its=[]:=r1.nil_iff.mpr rfl
  exact concat_meets ⟨_,ho,rfl⟩ ⟨_,ho2,rfl⟩ noFill_tuple_add seq_tuple_add PySem.F.slot_tuple_add PySem.F.entry_tuple_add (PySem.F.args_tuple_add_2 _ _)
   (tuple_addW0 a b its.toArray its2.toArray n n2 dd dd2 sl sl2 (by simp[e1])) ⟨ho,ho2,⟨.ref b,H,I,rfl,q b H hb (Same.refl H)⟩⟩
 ·refine zHf pins s σ H (.ref a) (.ref b) v u Q I rx ry ⟨a,b,xs,ys,rfl,rfl,ha,hb,hx,hz,λe=>q a H (by rw[e,qN_];exact ha) (Same.refl H),λ_ p hp=>q p _ (SqT.of aZ) (bZ hp)⟩
structure QA (X:Cx) (es:List Expr) (t:TA):Prop where
 p:PA X es t
theorem zCf:QA X [] sA:=⟨dD⟩
theorem xM{e:Expr}{es:List Expr}{te:TE}{t:TA}(ha:PE X e te)(hr:QA X es t)(h:dO e=false:=by rfl):QA X (e::es) (wH te t):=⟨cT ha hr.p h⟩
theorem zBD{es:List Expr}{t:TA}{pos:Pos}(h:QA X es t):PE X (.List es pos) (zCX t):=zCh h.p
theorem Inv.big{pins:List (Addr×Obj)}{σ:St}{H:Hp}{s:Shared}(I:Inv X pins σ H s):sysModules<s.heap.objs.size:=by
 have h:mainGlobals<s.heap.objs.size:=(I.mod.glob.keeps I.bk).lt
 exact qq1_ (by decide) h
theorem zA9{P:Program}{w:World}{H:Hp}(h:Heap)(hb:sysModules<h.objs.size):ObjOk P w H (h.push {cls:=.type "dict",data:=.dict #[]}) h.objs.size (.dK []):=
 ⟨qu_ _,beq_eq_false_iff_ne.mpr (Ne.symm (qm_ hb)),[],.nil,Heap.DictOf.new h⟩
def zH4:TE:=λ_ H Q=>∀p,H p=none->Q (.ref p) (upd H p (.dK []))
theorem zAN{pos:Pos}:PE X (.Dict [] [] pos) zH4:=λpins s σ H Q I h=>
 wpAny_Dict_empty ⟨.ref s.heap.objs.size,_,I.laid (a:=s.heap.objs.size) (o:=.dK []) (t':=s.toks) (λ_ _ q=>qd_ _ q) (qe_ _) (zA9 s.heap I.big),rfl,h _ (I.hok.fresh (qe_ _))⟩
end
end L2
namespace L2
open PySem PySem.Spec PyProof.Rows
section
variable{prog:Program}{w:World}{A:Around}{E:Value->Shared->Prop}{s:Shared}
theorem zD7{j t:Addr}{k:Nat}{vs:Array Value}{v:Value}{Q:Value->Shared->Prop}(hj:s.heap.IsTupleIter j t k)(ht:s.heap.IsTuple t vs)(hv:vs[k]?=some v)
  (q:∀h',h'.IsTupleIter j t (k+1)->Heap.SameBut j s.heap h'->Q v {s with heap:=h'}):wpAny (model prog w) A (Builtin.SmallTypes.nextOf (.ref j)) Q E s:=by
 obtain⟨oj,ej,cj,dj⟩:=id hj
 obtain⟨ot,et,_,nt,dt⟩:=id ht
 unfold Builtin.SmallTypes.nextOf
 refine qa_ (wpAny_callSpecial?_slot (name:=Str.ofString "__next__") hj.typeIs F.slot_tuple_iterator_next (qJ_ F.slot_tuple_iterator_next hj.typeIs F.entry_tuple_iterator_next ?_ (F.args_tuple_iterator_next_1 _)))
 refine qa_ (m:=field (.ref j) 0) (wpAny_field ej dj (x:=.ref t) rfl ?_)
 have nn:¬ ((Value.ref t==Value.none)=true):=ql_
 show wpAny (model prog w) A.in1 (if (Value.ref t==Value.none)=true then _ else _) _ _ s
 rw[if_neg nn]
 refine qa_ (m:=field (.ref j) 1) (wpAny_field ej dj (x:=.int k 0) rfl (qa_ (m:=seqItems? (.ref t)) (wpAny_seqItems et dt ?_)))
 simp only[Int.toNat_natCast,hv]
 refine qa_ (wpAny_setField ej dj (by simp) (qb_ ⟨v,rfl,qb_ (q _ ⟨_,qU_ _ ej (Obj.isFreed_of_fields (Obj.data_mapFields dj _)),(Obj.cls_mapFields ..).trans cj,?_⟩ (Heap.SameBut.update ..))⟩))
 rw[Obj.data_mapFields dj]
 simp[rawInt]
theorem zER{j t:Addr}{k:Nat}{vs:Array Value}{Q:Value->Shared->Prop}(hh:A.handled=none)(hj:s.heap.IsTupleIter j t k)(ht:s.heap.IsTuple t vs)(hv:vs[k]?=none)
  (q:∀h' e,Heap.ExtBut j s.heap h'->(∃o,h'.get? e=some o/\o.cls=.type "StopIteration")->E (.ref e) {s with heap:=h'}):wpAny (model prog w) A (Builtin.SmallTypes.nextOf (.ref j)) Q E s:=by
 obtain⟨oj,ej,cj,dj⟩:=id hj
 obtain⟨ot,et,_,nt,dt⟩:=id ht
 unfold Builtin.SmallTypes.nextOf
 refine qa_ (wpAny_callSpecial?_slot (name:=Str.ofString "__next__") hj.typeIs F.slot_tuple_iterator_next (qJ_ F.slot_tuple_iterator_next hj.typeIs F.entry_tuple_iterator_next ?_ (F.args_tuple_iterator_next_1 _)))
 refine qa_ (m:=field (.ref j) 0) (wpAny_field ej dj (x:=.ref t) rfl ?_)
 have nn:¬ ((Value.ref t==Value.none)=true):=ql_
 show wpAny (model prog w) A.in1 (if (Value.ref t==Value.none)=true then _ else _) _ _ s
 rw[if_neg nn]
 refine qa_ (m:=field (.ref j) 1) (wpAny_field ej dj (x:=.int k 0) rfl (qa_ (m:=seqItems? (.ref t)) (wpAny_seqItems et dt ?_)))
 simp only[Int.toNat_natCast,hv]
 refine qa_ (wpAny_rule (qa_ (wpAny_setField ej dj (by simp) (wpAny_bind (m:=newExc (.type "StopIteration") []) ?_))))
 unfold newExc newTuple
 refine qa_ (qR_ (qa_ (m:=firstArgMember _ _) (wpAny_of_eq (a:=Value.none) (by first|rfl|(simp only[firstArgMember];rfl)) (qR_ ?_ (by size_fits)))) (by size_fits))
 unfold raiseNew
 refine qa_ (wpAny_handled ?_)
 rw[show A.in1.handled=none from hh]
 exact qa_ (qb_ (wpAny_throw (q _ _ (((Heap.SameBut.update ..).extBut.push _).push _) ⟨_,qj_ _ rfl,rfl⟩)))
structure kQ (prog:Program) (w:World) (i l:Addr) (it:Nat->Heap->Prop) (sq:Heap->Array Value->Prop):Prop where
 obj:∀k h,it k h->∃o,h.get? i=some o/\∀v,o.data≠.cell v
 itk:∀k h h',it k h->(∀o,h.get? i=some o->h'.get? i=some o)->it k h'
 sqk:∀h h' vs,sq h vs->(∀o,h.get? l=some o->h'.get? l=some o)->sq h' vs
 item:∀(A:Around) (E:Value->Shared->Prop) (s:Shared) (k:Nat) (vs:Array Value) (v:Value) (Q:Value->Shared->Prop),it k s.heap->sq s.heap vs->vs[k]?=some v ->
  (∀h',it (k+1) h'->Heap.SameBut i s.heap h'->Q v {s with heap:=h'})->wpAny (model prog w) A (Builtin.SmallTypes.nextOf (.ref i)) Q E s
 done:∀(A:Around) (E:Value->Shared->Prop) (s:Shared) (k:Nat) (vs:Array Value) (Q:Value->Shared->Prop),A.handled=none->it k s.heap->sq s.heap vs->vs[k]?=none ->
  (∀h' e,Heap.ExtBut i s.heap h'->(∃o,h'.get? e=some o/\o.cls=.type "StopIteration")->E (.ref e) {s with heap:=h'})->wpAny (model prog w) A (Builtin.SmallTypes.nextOf (.ref i)) Q E s
theorem zEx(i l:Addr):kQ prog w i l (λk h=>h.IsListIter i l k) (λh vs=>h.IsList l vs) where
 obj:=λk h x=>let ⟨o,e,_,d⟩:=x;⟨o,e,λv z=>by rw[d]at z;cases z⟩
 itk:=λk h h' x f=>let ⟨o,e,r⟩:=x;⟨o,f o e,r⟩
 sqk:=λh h' vs x f=>let ⟨o,e,r⟩:=x;⟨o,f o e,r⟩
 item:=λA E s k vs v Q a b c q=>wpAny_nextOf_list_item a b c q
 done:=λA E s k vs Q hh a b c q=>wpAny_nextOf_list_end hh a b c q
theorem zFD(i l:Addr):kQ prog w i l (λk h=>h.IsTupleIter i l k) (λh vs=>h.IsTuple l vs) where
 obj:=λk h x=>let ⟨o,e,_,d⟩:=x;⟨o,e,λv z=>by rw[d]at z;cases z⟩
 itk:=λk h h' x f=>let ⟨o,e,r⟩:=x;⟨o,f o e,r⟩
 sqk:=λh h' vs x f=>let ⟨o,e,r⟩:=x;⟨o,f o e,r⟩
 item:=λA E s k vs v Q a b c q=>zD7 a b c q
 done:=λA E s k vs Q hh a b c q=>zER hh a b c q
section
variable{z TI TO i1 i2 l1 l2:Addr}{it1 it2:Nat->Heap->Prop}{sq1 sq2:Heap->Array Value->Prop}
theorem zGs(S1:kQ prog w i1 l1 it1 sq1)(S2:kQ prog w i2 l2 it2 sq2)(D:ZipApart z TI TO i1 i2 l1 l2){k1 k2:Nat}{xs ys:Array Value}{x y a b:Value}{Q:Value->Shared->Prop}
  (hz:IsZip s.heap z TI TO .none) (hI:IsPair s.heap TI (.ref i1) (.ref i2)) (hO:IsPair s.heap TO a b) (j1:it1 k1 s.heap) (j2:it2 k2 s.heap) (q1:sq1 s.heap xs) (q2:sq2 s.heap ys)
  (hx:xs[k1]?=some x) (hy:ys[k2]?=some y)
  (q:∀h',IsZip h' z TI TO (rawInt s.heap.objs.size)->IsPair h' TO x y->it1 (k1+1) h'->it2 (k2+1) h'->IsPair h' s.heap.objs.size x y->h'.objs.size=s.heap.objs.size+1 ->
   (∀c o,c≠z->c≠TO->c≠i1->c≠i2->s.heap.get? c=some o->h'.get? c=some o)->Q (.ref s.heap.objs.size) {s with heap:=h'}):
  wpAny (model prog w) A (Builtin.«zip.__next__» ⟨[.ref z],[]⟩) (λf s'=>∃v,f=.done (.ret v)/\Q v s') E s:=by
 refine qa_ (m:=field (.ref z) 2) (wpAny_field hz rfl (x:=.bool false) rfl (qa_ (m:=field (.ref z) 3) (wpAny_field hz rfl (x:=.ref TI) rfl (qa_ (wpAny_seqItems hI rfl ?_)))))
 refine qa_ (m:=Builtin.SmallTypes.ownedTupleIsFree (.ref z)) (qa_ (wpAny_field hz rfl (x:=.none) rfl (qb_ ?_)))
 simp only[if_true]
 refine qa_ (wpAny_rule (qa_ (wpAny_field hz rfl (x:=.ref TO) rfl (qa_ (qX_ hz (by simp) λh1 hz1 s1=>?_)))))
 have hz1:IsZip h1 z TI TO .ellipsis:=hz1
 refine qa_ ?_
 simp only[List.zipIdx_cons,List.zipIdx_nil,List.forIn_cons,List.forIn_nil]
 have e1:∀c o,c≠z->s.heap.get? c=some o->h1.get? c=some o:=λc o hc e=>s1.extBut _ _ hc e
 refine qa_ (qa_ (wpAny_onRaise (qa_ (m:=Builtin.SmallTypes.nextOf (.ref i1)) (S1.item _ _ _ k1 xs x _ (S1.itk _ _ _ j1 λo e=>e1 _ o D.i1z e) (S1.sqk _ _ _ q1 λo e=>e1 _ o D.l1z e) hx λh2 j1' s2=>qb_ ?_))))
 have e2:∀c o,c≠z->c≠i1->s.heap.get? c=some o->h2.get? c=some o:=λc o c1 c2 e=>s2.extBut _ _ c2 (e1 c o c1 e)
 have hO2:IsPair h2 TO a b:=e2 _ _ D.TOz D.TOi1 hO
 refine qa_ (wpAny_seqItems hO2 rfl (qa_ (wpAny_updateSeq_pair hO2 λh3 hO3 s3=>qa_ (wpAny_letGo (qb_ ?_)))))
 have hO3:IsPair h3 TO x b:=hO3
 have e3:∀c o,c≠z->c≠i1->c≠TO->s.heap.get? c=some o->h3.get? c=some o:=λc o c1 c2 c3 e=>s3.extBut _ _ c3 (e2 c o c1 c2 e)
 refine qa_ (qa_ (wpAny_onRaise (qa_ (m:=Builtin.SmallTypes.nextOf (.ref i2)) (S2.item _ _ _ k2 ys y _ (S2.itk _ _ _ j2 λo e=>e3 _ o D.i2z D.i12.symm D.TOi2.symm e) (S2.sqk _ _ _ q2 λo e=>e3 _ o D.l2z D.l2i1 D.l2TO e) hy λh4 j2' s4=>qb_ ?_))))
 have hO4:IsPair h4 TO x b:=s4.extBut _ _ D.TOi2 hO3
 refine qa_ (wpAny_seqItems hO4 rfl (qa_ (wpAny_updateSeq_pair hO4 λh5 hO5 s5=>qa_ (wpAny_letGo (qb_ (qb_ ?_))))))
 have hO5:IsPair h5 TO x y:=hO5
 refine qa_ (wpAny_seqItems hO5 rfl (qa_ (wpAny_newTuple ?_)))
 have hs5:h5.objs.size=s.heap.objs.size:=by rw[s5.1,s4.1,s3.1,s2.1,s1.1]
 have hz5:IsZip h5 z TI TO .ellipsis:=s5.extBut _ _ D.TOz.symm (s4.extBut _ _ D.i2z.symm (s3.extBut _ _ D.TOz.symm (s2.extBut _ _ D.i1z.symm hz1)))
 have e5:∀c o,c≠z->c≠TO->c≠i1->c≠i2->s.heap.get? c=some o->h5.get? c=some o:=λc o c1 c2 c3 c4 e=>s5.extBut _ _ c2 (s4.extBut _ _ c4 (e3 c o c1 c3 c2 e))
 have lz:z<h5.objs.size:=qf_ hz5
 refine qa_ (m:=Builtin.SmallTypes.ownedTupleHandOut (.ref z) (.ref h5.objs.size)) ?_
 unfold Builtin.SmallTypes.ownedTupleHandOut
 have hz6:IsZip (h5.push {cls:=.type "tuple",data:=.seq #[x,y]}) z TI TO .ellipsis:=qd_ _ hz5
 refine qa_ (qX_ hz6 (by simp) λh7 hz7 s7=>?_)
 have hz7:IsZip h7 z TI TO (rawInt h5.objs.size):=hz7
 refine qX_ hz7 (by simp) λh8 hz8 s8=>?_
 have hz8:IsZip h8 z TI TO (rawInt h5.objs.size):=hz8
 have e8:∀c o,c≠z->h5.get? c=some o->h8.get? c=some o:=λc o c1 e=>s8.extBut _ _ c1 (s7.extBut _ _ c1 (qd_ _ e))
 have p8:IsPair h8 h5.objs.size x y:=s8.extBut _ _ (qE_ lz) (s7.extBut _ _ (qE_ lz) (qj_ _ rfl))
 have n8:h8.objs.size=h5.objs.size+1:=by rw[s8.1,s7.1,qx_]
 rw[hs5]at hz8 p8 n8
 refine qb_ ⟨_,rfl,?_⟩
 show Q (Value.ref h5.objs.size) _
 rw[hs5]
 exact q h8 hz8 (e8 _ _ D.TOz hO5) (S1.itk _ _ _ j1' λo e=>e8 _ o D.i1z (s5.extBut _ _ D.TOi1.symm (s4.extBut _ _ D.i12 (s3.extBut _ _ D.TOi1.symm e)))) (S2.itk _ _ _ j2' λo e=>e8 _ o D.i2z (s5.extBut _ _ D.TOi2.symm e)) p8 n8
  λc o c1 c2 c3 c4 e=>e8 c o c1 (e5 c o c1 c2 c3 c4 e)
theorem zHJ(S1:kQ prog w i1 l1 it1 sq1)(S2:kQ prog w i2 l2 it2 sq2)(D:ZipApart z TI TO i1 i2 l1 l2)(hh:A.handled=none){k1 k2:Nat}{xs ys:Array Value}{a b:Value}{Q:Fin->Shared->Prop}
  (hz:IsZip s.heap z TI TO .none) (hI:IsPair s.heap TI (.ref i1) (.ref i2)) (hO:IsPair s.heap TO a b) (j1:it1 k1 s.heap) (j2:it2 k2 s.heap) (q1:sq1 s.heap xs) (q2:sq2 s.heap ys)
  (hn:xs[k1]?=none\/ys[k2]?=none)
  (q:∀h' e,(∀c o,c≠z->c≠TO->c≠i1->c≠i2->s.heap.get? c=some o->h'.get? c=some o)->(∃o,h'.get? e=some o/\o.cls=.type "StopIteration")->E (.ref e) {s with heap:=h'}):
  wpAny (model prog w) A (Builtin.«zip.__next__» ⟨[.ref z],[]⟩) Q E s:=by
 refine qa_ (m:=field (.ref z) 2) (wpAny_field hz rfl (x:=.bool false) rfl (qa_ (m:=field (.ref z) 3) (wpAny_field hz rfl (x:=.ref TI) rfl (qa_ (wpAny_seqItems hI rfl ?_)))))
 refine qa_ (m:=Builtin.SmallTypes.ownedTupleIsFree (.ref z)) (qa_ (wpAny_field hz rfl (x:=.none) rfl (qb_ ?_)))
 simp only[if_true]
 refine qa_ (wpAny_rule (qa_ (wpAny_field hz rfl (x:=.ref TO) rfl (qa_ (qX_ hz (by simp) λh1 hz1 s1=>?_)))))
 have hz1:IsZip h1 z TI TO .ellipsis:=hz1
 refine qa_ ?_
 simp only[List.zipIdx_cons,List.zipIdx_nil,List.forIn_cons,List.forIn_nil]
 have e1:∀c o,c≠z->s.heap.get? c=some o->h1.get? c=some o:=λc o hc e=>s1.extBut _ _ hc e
 have ez:∀{h:Heap} {e:Addr} {o:Obj},IsZip h z TI TO .ellipsis->h.get? e=some o->o.cls=.type "StopIteration"->e≠z:=λhz ho hc x=>by
  subst x
  rw[hz]at ho
  cases ho
  simp at hc
 cases hx:xs[k1]? with
 |none=>
  refine qa_ (qa_ (wpAny_onRaise (qa_ (m:=Builtin.SmallTypes.nextOf (.ref i1)) (S1.done _ _ _ k1 xs _ hh (S1.itk _ _ _ j1 λo e=>e1 _ o D.i1z e) (S1.sqk _ _ _ q1 λo e=>e1 _ o D.l1z e) hx λh2 e s2 he=>?_))))
  obtain⟨oe,ho,hc⟩:=he
  have hz2:IsZip h2 z TI TO .ellipsis:=s2 _ _ D.i1z.symm hz1
  exact qX_ hz2 (by simp) λh3 _ s3=>q h3 e (λc o c1 _ c3 _ u=>s3.extBut _ _ c1 (s2 _ _ c3 (e1 c o c1 u))) ⟨oe,s3.extBut _ _ (ez hz2 ho hc) ho,hc⟩
 |some x=>
  have hy:ys[k2]?=none:=by
   rcases hn with h|h
   ·rw[hx]at h;cases h
   ·exact h
  refine qa_ (qa_ (wpAny_onRaise (qa_ (m:=Builtin.SmallTypes.nextOf (.ref i1)) (S1.item _ _ _ k1 xs x _ (S1.itk _ _ _ j1 λo e=>e1 _ o D.i1z e) (S1.sqk _ _ _ q1 λo e=>e1 _ o D.l1z e) hx λh2 j1' s2=>qb_ ?_))))
  have e2:∀c o,c≠z->c≠i1->s.heap.get? c=some o->h2.get? c=some o:=λc o c1 c2 e=>s2.extBut _ _ c2 (e1 c o c1 e)
  have hO2:IsPair h2 TO a b:=e2 _ _ D.TOz D.TOi1 hO
  refine qa_ (wpAny_seqItems hO2 rfl (qa_ (wpAny_updateSeq_pair hO2 λh3 hO3 s3=>qa_ (wpAny_letGo (qb_ ?_)))))
  have e3:∀c o,c≠z->c≠i1->c≠TO->s.heap.get? c=some o->h3.get? c=some o:=λc o c1 c2 c3 e=>s3.extBut _ _ c3 (e2 c o c1 c2 e)
  refine qa_ (qa_ (wpAny_onRaise (qa_ (m:=Builtin.SmallTypes.nextOf (.ref i2)) (S2.done _ _ _ k2 ys _ hh (S2.itk _ _ _ j2 λo e=>e3 _ o D.i2z D.i12.symm D.TOi2.symm e) (S2.sqk _ _ _ q2 λo e=>e3 _ o D.l2z D.l2i1 D.l2TO e) hy λh4 e s4 he=>?_))))
  obtain⟨oe,ho,hc⟩:=he
  have hz4:IsZip h4 z TI TO .ellipsis:=s4 _ _ D.i2z.symm (s3.extBut _ _ D.TOz.symm (s2.extBut _ _ D.i1z.symm hz1))
  exact qX_ hz4 (by simp) λh5 _ s5=>q h5 e (λc o c1 c2 c3 c4 u=>s5.extBut _ _ c1 (s4 _ _ c4 (e3 c o c1 c3 c2 u))) ⟨oe,s5.extBut _ _ (ez hz4 ho hc) ho,hc⟩
end
abbrev zT1(hp:Heap)(a b:Addr):Heap:=hp.push {cls:=.type "tuple_iterator",data:=.fields #[.ref a,.int 0 0]}
abbrev zT2(hp:Heap)(a b:Addr):Heap:=(zT1 hp a b).push {cls:=.type "tuple_iterator",data:=.fields #[.ref b,.int 0 0]}
abbrev zT3(hp:Heap)(a b:Addr):Heap:=(zT2 hp a b).push {cls:=.type "tuple",data:=.seq #[.ref hp.objs.size,.ref (zT1 hp a b).objs.size]}
abbrev zT4(hp:Heap)(a b:Addr):Heap:=(zT3 hp a b).push {cls:=.type "tuple",data:=.seq #[.none,.none]}
abbrev zT5(hp:Heap)(a b:Addr):Heap:=(zT4 hp a b).push {cls:=.type "zip",data:=.fields #[.none,.bool false,.bool false,.ref (zT2 hp a b).objs.size,.ref (zT3 hp a b).objs.size]}
theorem zFt(a b:Addr)(xs ys:Array Value):Meets (Builtin.«zip.__new__» ⟨[.type "zip",.ref a,.ref b],[]⟩) (λ_ R s=>s.heap.IsTuple a xs/\s.heap.IsTuple b ys/\R (.ok (.ret (.ref (zT4 s.heap a b).objs.size))) {s with heap:=zT5 s.heap a b}):=
 .of_wp λprog w A R s h=>by
  obtain⟨hp,g,d,tk,os⟩:=s
  obtain⟨ha,hb,h⟩:=h
  have sz:=sub_zip
  have ha:Heap.IsTuple (Shared.heap ⟨hp,g,d,tk,os⟩) a xs:=ha
  have hb:Heap.IsTuple (Shared.heap ⟨hp.push {cls:=.type "tuple_iterator",data:=.fields #[.ref a,.int 0 0]},g,d,tk,os⟩) b ys:=Heap.IsTuple.push hb _
  wp_walk using wpAny_pyIter_tuple ha,wpAny_pyIter_tuple hb
  exact⟨_,rfl,h⟩
theorem zFe{a b:Addr}{xs ys:Array Value}{Q:Value->Shared->Prop}(ha:s.heap.IsTuple a xs)(hb:s.heap.IsTuple b ys)
  (q:∀h',IsZip h' (s.heap.objs.size+4) (s.heap.objs.size+2) (s.heap.objs.size+3) .none->IsPair h' (s.heap.objs.size+2) (.ref s.heap.objs.size) (.ref (s.heap.objs.size+1))->IsPair h' (s.heap.objs.size+3) .none .none ->
   h'.IsTupleIter s.heap.objs.size a 0->h'.IsTupleIter (s.heap.objs.size+1) b 0->h'.objs.size=s.heap.objs.size+5->(∀c o,s.heap.get? c=some o->h'.get? c=some o)->Q (.ref (s.heap.objs.size+4)) {s with heap:=h'}):
  wpAny (model prog w) A (call (.type "zip") [.ref a,.ref b]) Q E s:=by
 refine callType_new F.called_zip (by decide) (F.typeCall_zip_2 _ _) (F.newCall_zip_2 _ _) (λo=>F.args_object_init_3 o _ _) F.entry_zip_new (zFt a b xs ys) ⟨ha,hb,?_⟩
 have n1:(zT1 s.heap a b).objs.size=s.heap.objs.size+1:=qx_ ..
 have n2:(zT2 s.heap a b).objs.size=s.heap.objs.size+2:=by rw[qx_,n1]
 have n3:(zT3 s.heap a b).objs.size=s.heap.objs.size+3:=by rw[qx_,n2]
 have n4:(zT4 s.heap a b).objs.size=s.heap.objs.size+4:=by rw[qx_,n3]
 have n5:(zT5 s.heap a b).objs.size=s.heap.objs.size+5:=by rw[qx_,n4]
 have p5:(zT5 s.heap a b).get? (zT4 s.heap a b).objs.size=some _:=qj_ _ rfl
 have p4:(zT5 s.heap a b).get? (zT3 s.heap a b).objs.size=some _:=qd_ _ (qj_ _ rfl)
 have p3:(zT5 s.heap a b).get? (zT2 s.heap a b).objs.size=some _:=qd_ _ (qd_ _ (qj_ _ rfl))
 have p2:(zT5 s.heap a b).get? (zT1 s.heap a b).objs.size=some _:=qd_ _ (qd_ _ (qd_ _ (qj_ _ rfl)))
 have p1:(zT5 s.heap a b).get? s.heap.objs.size=some _:=qd_ _ (qd_ _ (qd_ _ (qd_ _ (qj_ _ rfl))))
 show _/\_
 rw[n2,n3,n4]at p5
 rw[n1,n2]at p3
 rw[n3]at p4
 rw[n1]at p2
 rw[n4]
 exact⟨⟨_,p5,rfl⟩,q _ p5 p3 p4 ⟨_,p1,rfl,rfl⟩ ⟨_,p2,rfl,rfl⟩ n5 λc o e=>qd_ _ (qd_ _ (qd_ _ (qd_ _ (qd_ _ e))))⟩
end
section
variable{X:Cx}{pins:List (Addr×Obj)}{σ:St}{H:Hp}{s:Shared}{h':Heap}
theorem Inv.turnedL{t':Nat}{ch:List Addr}(I:Inv X pins σ H s)(hf:∀b∈ch,eY X pins H b)(k:∀b o,b∉ch->s.heap.get? b=some o->h'.get? b=some o):Inv X pins σ H {s with heap:=h',toks:=t'}:=by
 have nit:∀b u,H b=some u->b∉ch:=λb u e z=>by rw[(hf b z).1]at e;cases e
 refine I.step (g':=s.gens) (d':=s.drawn) (ch:=ch) (λb hb=>?_) (λb o _ _ hc e _=>k b o hc e) (λb o _ _ hc e _=>⟨o.slots,k b o hc e⟩) (λ_ _ _ _ n=>n)
  (λb o hc e=>⟨o,k b o hc e⟩) (λ_ _ e=>e) (λ_ _ _ e=>e) (λb ps e=>⟨#[],by rw[e];simp⟩) (λm hm=>?_) (λb u e=>?_) I.bare
 ·obtain⟨_,f1,_,f3,f4,f5⟩:=hf b hb
  exact⟨f3,f1,f4,f5⟩
 ·obtain⟨o,es,ep,ho,r⟩:=hm
  exact⟨o,es,ep,k _ o (λz=>(hf _ z).2.1 rfl) ho,r⟩
 ·refine(I.hok b u e).stay (λc v hc q=>k c v ?_ q) (λ_ q=>q) λ_ _ q=>q
  rcases hc with z|z
  ·rw[z];exact nit b u e
  ·exact nit c _ z
end
def SqX(t:Bool)(K:W.Frag)(H:Hp)(a:Addr)(xs:List V):Prop:=match t with
 |false=>SqL K H a xs
 |true=>SqT K H a xs
def Itz(t:Bool)(K:W.Frag)(a b:Addr):It:=
  ⟨λi H=>∃xs ys x y,SqX t K H a xs/\SqX t K H b ys/\xs[i]?=some x/\ys[i]?=some y,
   λi H v H'=>∃p x y,v=.ref p/\H p=none/\H'=upd H p (.tup [x,y])/\(∀xs,SqX t K H a xs->xs[i]?=some x)/\∀ys,SqX t K H b ys->ys[i]?=some y,
   λi H=>∃xs ys,SqX t K H a xs/\SqX t K H b ys/\(xs.length<=i\/ys.length<=i)⟩
def itX(t:Bool)(i a:Addr)(k:Nat)(h:Heap):Prop:=match t with
 |false=>h.IsListIter i a k
 |true=>h.IsTupleIter i a k
def sqX(t:Bool)(a:Addr)(h:Heap)(vs:Array Value):Prop:=match t with
 |false=>h.IsList a vs
 |true=>h.IsTuple a vs
theorem fT{prog:Program}{w:World}(t:Bool)(i a:Addr):kQ prog w i a (itX t i a) (sqX t a):=by
 cases t
 ·exact zEx i a
 ·exact zFD i a
section
variable{X:Cx}{pins:List (Addr×Obj)}{σ:St}{H:Hp}{s:Shared}
theorem Inv.sqX{t:Bool}{a:Addr}{xs:List V}(I:Inv X pins σ H s)(h:SqX t X.K H a xs):∃vs:List Value,Vals xs vs/\L2.sqX t a s.heap vs.toArray/\xs.length<=sizeLine:=by
 cases t
 ·obtain⟨its,r,p,hz⟩:=I.list h
  exact⟨its,r,p.isList,hz⟩
 ·obtain⟨its,r,p,hz⟩:=I.tuple h
  exact⟨its,r,p,hz⟩
theorem Inv.sqX_inj{t:Bool}{a:Addr}{xs ys:List V}(I:Inv X pins σ H s)(h:SqX t X.K H a xs)(h':SqX t X.K H a ys):xs=ys:=by
 cases t
 ·exact I.list_inj h h'
 ·exact I.tuple_inj h h'
end
theorem zFA{P:Program}{w:World}{K:W.Frag}{es:List Expr}{ek:Nat}{pos:Pos}(t:Bool)(a b z TI TO i1 i2:Addr)(D:ZipApart z TI TO i1 i2 a b):
  jG P w K (.Tuple es ek pos) (Itz t K a b) [z,TI,TO,i1,i2] z (λi h=>IsZip h z TI TO .none/\IsPair h TI (.ref i1) (.ref i2)/\(∃x y,IsPair h TO x y)/\itX t i1 a i h/\itX t i2 b i h) where
 mem:=by simp
 obj:=λi h st c hc=>by
  obtain⟨hz,hI,⟨x,y,hO⟩,j1,j2⟩:=st
  simp only[List.mem_cons,List.not_mem_nil,or_false]at hc
  rcases hc with e|e|e|e|e<;>subst e
  ·exact⟨_,hz,λv u=>by cases u⟩
  ·exact⟨_,hI,λv u=>by cases u⟩
  ·exact⟨_,hO,λv u=>by cases u⟩
  ·exact(fT (prog:=P) (w:=w) t _ a).obj _ _ j1
  ·exact(fT (prog:=P) (w:=w) t _ b).obj _ _ j2
 keep:=λi h h' st k=>by
  obtain⟨hz,hI,⟨x,y,hO⟩,j1,j2⟩:=st
  exact⟨k z (by simp) _ hz,k TI (by simp) _ hI,⟨x,y,k TO (by simp) _ hO⟩,(fT (prog:=P) (w:=w) t i1 a).itk _ _ _ j1 λo e=>k i1 (by simp) o e,(fT (prog:=P) (w:=w) t i2 b).itk _ _ _ j2 λo e=>k i2 (by simp) o e⟩
 item:=by
  intro X hP hw hK hc i pins s σ H E I hf st hg
  subst hP hw hK
  obtain⟨xs,ys,x,y,qa,qb,hx,hy⟩:=hg
  obtain⟨hz,hI,⟨x0,y0,hO⟩,j1,j2⟩:=st
  obtain⟨va,ra,pa,za⟩:=I.sqX qa
  obtain⟨vb,rb,pb,zb⟩:=I.sqX qb
  obtain⟨u,hu,ru⟩:=ra.get hx
  obtain⟨v,hv,rv⟩:=rb.get hy
  have hT:s.TypeIs (.ref z) "zip":=⟨_,hz,rfl⟩
  unfold pyNext
  refine qa_ (wpAny_attempt (wpAny_callSpecial?_slot (name:=Str.ofString "__next__") hT F.slot_zip_next (qJ_ F.slot_zip_next hT F.entry_zip_next (zGs (fT t i1 a) (fT t i2 b) D hz hI hO j1 j2 pa pb (x:=u) (y:=v) (by simpa using hu) (by simpa using hv)
   λh' a1 a2 a3 a4 a5 a6 a7=>qb_ ⟨_,rfl,?_⟩) (F.args_zip_next_1 _))))
  refine wpAny_letOwnedTupleGo_zip (s:={s with heap:=h'}) a1 λh2 b1 b2=>?_
  have hn:∀c∈[z,TI,TO,i1,i2],c≠s.heap.objs.size:=λc hc' e=>by
   obtain⟨o,ho,_⟩:∃o,s.heap.get? c=some o/\True:=by
    simp only[List.mem_cons,List.not_mem_nil,or_false]at hc'
    rcases hc' with q|q|q|q|q
    ·exact⟨_,q▸hz,trivial⟩
    ·exact⟨_,q▸hI,trivial⟩
    ·exact⟨_,q▸hO,trivial⟩
    ·obtain⟨o,ho,_⟩:=(fT (prog:=X.prog) (w:=X.w) t i1 a).obj _ _ j1;exact⟨o,q▸ho,trivial⟩
    ·obtain⟨o,ho,_⟩:=(fT (prog:=X.prog) (w:=X.w) t i2 b).obj _ _ j2;exact⟨o,q▸ho,trivial⟩
   exact absurd (qf_ ho) (by rw[e];exact qf1_ _)
  have I0:Inv X pins σ (upd H s.heap.objs.size (.tup [x,y])) {s with heap:=s.heap.push {cls:=.type "tuple",data:=.seq #[u,v]}}:=
   I.laid (t':=s.toks) (λc o e=>qd_ _ e) (qe_ _) ⟨by show 2<=sizeLine;decide,[u,v],.cons ru (.cons rv .nil),IsTup.new _ _⟩
  have hf0:∀c∈[z,TI,TO,i1,i2],eY X pins (upd H s.heap.objs.size (.tup [x,y])) c:=λc hc'=>⟨by rw[bL (hn c hc')];exact(hf c hc').1,(hf c hc').2⟩
  have I1:Inv X pins σ (upd H s.heap.objs.size (.tup [x,y])) {s with heap:=h2}:=Inv.turnedL (s:={s with heap:=s.heap.push {cls:=.type "tuple",data:=.seq #[u,v]}}) (t':=s.toks) (ch:=[z,TI,TO,i1,i2]) I0 hf0 λc o hc' e=>by
   simp only[List.mem_cons,List.not_mem_nil,or_false,not_or]at hc'
   obtain⟨c1,c2,c3,c4,c5⟩:=hc'
   by_cases hcn:c=s.heap.objs.size
   ·subst hcn
    have e':(s.heap.push {cls:=.type "tuple",data:=.seq #[u,v]}).get? s.heap.objs.size=some o:=e
    rw[qj_ _ rfl]at e'
    cases e'
    exact b2.extBut _ _ c1 a5
   ·refine b2.extBut _ _ c1 (a7 c o c1 c3 c4 c5 ?_)
    have e':(s.heap.push {cls:=.type "tuple",data:=.seq #[u,v]}).get? c=some o:=e
    rw[Heap.get?_push_ne _ _ _ hcn]at e'
    exact e'
  refine⟨.ref s.heap.objs.size,_,I1,rfl,⟨_,x,y,rfl,I.hok.fresh (qe_ _),rfl,λxs' h=>by rw[I.sqX_inj h qa];exact hx,λys' h=>by rw[I.sqX_inj h qb];exact hy⟩,⟨b1,?_,⟨u,v,b2.extBut _ _ D.TOz a2⟩,?_,?_⟩,λc hc'=>(hf0 c hc').1⟩
  ·exact b2.extBut _ _ D.TIz (a7 _ _ D.TIz D.TITO D.TIi1 D.TIi2 hI)
  ·exact(fT (prog:=X.prog) (w:=X.w) t i1 a).itk _ _ _ a3 λo e=>b2.extBut _ _ D.i1z e
  ·exact(fT (prog:=X.prog) (w:=X.w) t i2 b).itk _ _ _ a4 λo e=>b2.extBut _ _ D.i2z e
 done:=by
  intro X hP hw hK hc i pins s σ H E I hf st hg
  subst hP hw hK
  obtain⟨xs,ys,qa,qb,hl⟩:=hg
  obtain⟨hz,hI,⟨x0,y0,hO⟩,j1,j2⟩:=st
  obtain⟨va,ra,pa,za⟩:=I.sqX qa
  obtain⟨vb,rb,pb,zb⟩:=I.sqX qb
  have la:=ra.length
  have lb:=rb.length
  have hT:s.TypeIs (.ref z) "zip":=⟨_,hz,rfl⟩
  unfold pyNext
  refine qa_ (wpAny_attempt (wpAny_callSpecial?_slot (name:=Str.ofString "__next__") hT F.slot_zip_next (qJ_ F.slot_zip_next hT F.entry_zip_next (zHJ (fT t i1 a) (fT t i2 b) D (show X.A.in1.handled=none from I.ok.hd hc) hz hI hO j1 j2 pa pb
   (hl.elim (λh=>.inl (by simp;omega)) λh=>.inr (by simp;omega)) λh' e k he=>?_) (F.args_zip_next_1 _))))
  obtain⟨o,ho,hce⟩:=he
  refine qa_ (wpAny_isInstance (T:="StopIteration") (b:=true) ⟨o,ho,hce⟩ isSubtype_stop (qb_ ⟨rfl,I.turnedL (t':=s.toks) hf λc o hc' e=>?_⟩))
  simp only[List.mem_cons,List.not_mem_nil,or_false,not_or]at hc'
  exact k c o hc'.1 hc'.2.2.1 hc'.2.2.2.1 hc'.2.2.2.2 e
 self:=λ_ _ _ _ _ st h=>wpAny_pyIter_zip st.1 h
theorem zHK{n a b:Nat}(ha:a<n)(hb:b<n):ZipApart (n+4) (n+2) (n+3) n (n+1) a b:=by
 constructor<;>(intro (e:(_:Nat)=_);omega)
theorem zFm:bootBuiltins "zip"=some (.type "zip"):=by decide +kernel
section
variable{X:Cx}
def zK8(K:W.Frag)(ta:TA):TI:=λσ H R=>ta σ H λvs H1=>∃(t:Bool) (a b:Addr),vs=[.ref a,.ref b]/\(∃xs,SqX t K H1 a xs)/\(∃ys,SqX t K H1 b ys)/\R (Itz t K a b) H1
theorem zIA{a b:Expr}{ta:TA}{es:List Expr}{ek:Nat}{p pos pos':Pos}(hg:Gl X "zip")(hm:X.mg "zip"=none)(ha:PA X [a,b] ta)(hs:starEach [a,b] X.env=[(false,eval a X.env),(false,eval b X.env)]:=by rfl)(hs2:starEach [b] X.env=[(false,eval b X.env)]:=by rfl):
  PI X (.Tuple es ek pos') (.Call (.Name "zip" p) [a,b] [] pos) (zK8 X.K ta):=by
 intro pins s σ H R I h
 refine Call_ (oF I hg hm zFm (PyProof.Rows.callWith_type1 (thn (ha pos pins s σ H _ I h) λus s1 ⟨vs,H1,I1,r1,q1⟩=>?_) (by rw[hs,hs2]) (by rw[hs2];rfl)))
 obtain⟨t,a,b,e,⟨xs,hx⟩,⟨ys,hy⟩,q⟩:=q1
 subst e
 obtain⟨u,w',rfl,rx,ry⟩:=iX r1
 cases rx
 cases ry
 obtain⟨va,ra,pa,za⟩:=I1.sqX hx
 obtain⟨vb,rb,pb,zb⟩:=I1.sqX hy
 have la:a<s1.heap.objs.size:=by
  cases t
  ·obtain⟨o,e,_⟩:=pa;exact qf_ e
  ·obtain⟨o,e,_⟩:=pa;exact qf_ e
 have lb:b<s1.heap.objs.size:=by
  cases t
  ·obtain⟨o,e,_⟩:=pb;exact qf_ e
  ·obtain⟨o,e,_⟩:=pb;exact qf_ e
 have fin:∀h':Heap,IsZip h' (s1.heap.objs.size+4) (s1.heap.objs.size+2) (s1.heap.objs.size+3) .none->IsPair h' (s1.heap.objs.size+2) (.ref s1.heap.objs.size) (.ref (s1.heap.objs.size+1))->IsPair h' (s1.heap.objs.size+3) .none .none ->
   itX t s1.heap.objs.size a 0 h'->itX t (s1.heap.objs.size+1) b 0 h'->h'.objs.size=s1.heap.objs.size+5->(∀c o,s1.heap.get? c=some o->h'.get? c=some o) ->
   wpAny (model X.prog X.w) X.A (pyIter (.ref (s1.heap.objs.size+4))) (PIE X pins σ (.Tuple es ek pos') R) X.xe {s1 with heap:=h'}:=by
  intro h' hz hI hO j1 j2 _ k
  refine wpAny_pyIter_zip hz ?_
  refine⟨_,[s1.heap.objs.size+4,s1.heap.objs.size+2,s1.heap.objs.size+3,s1.heap.objs.size,s1.heap.objs.size+1],_,_,H1,rfl,I1.kept (t':=s1.toks) k,zFA t a b _ _ _ _ _ ?_,⟨hz,hI,⟨_,_,hO⟩,j1,j2⟩,λc hc=>?_,q⟩
  ·exact zHK la lb
  ·have:s1.heap.objs.size<=c:=by
    simp only[List.mem_cons,List.not_mem_nil,or_false]at hc
    rcases hc with e|e|e|e|e<;>(rw[e];first|exact qe_ _|exact Nat.le_add_right _ _)
   exact I1.fpOk this (I1.hok.fresh this)
 cases t
 ·exact call_zip_2 pa pb fin
 ·exact zFe pa pb fin
end
section
variable{X:Cx}
theorem zFi(hc:X.calm=true):CallR X (.builtin "min") (λxs H Q=>∃(p:Addr) (ns:List Int),xs=[.ref p]/\SqL X.K H p (ns.map V.int)/\0<ns.length/\∀M,M∈ns->(∀a∈ns,M<=a)->Q (.int M) H):=by
 intro pins s σ H xs us Q I r h
 obtain⟨p,ns,rfl,hq,hn,q⟩:=h
 obtain⟨u,rfl,rx⟩:=cQ r
 cases rx
 obtain⟨its,rv,pl,hz⟩:=I.list hq
 have hi:IntsAre its ns:=pR rv
 obtain⟨zs,ez⟩:=hi.allInts.items
 have en:ns=zs.toList.map (·.1):=by rw[<-hi.numsOf,<-nums_intItems,<-ez]
 have hz0:0<zs.size:=by rw[en,qc_,qt_]at hn;exact hn
 have hl:=pl.isList
 rw[ez]at hl
 refine min_intList (I.ok.hd hc) hl hz0 λv h' tk hv hk=>?_
 obtain⟨t,rfl⟩:=intItems_at hv
 obtain⟨h1,h2⟩:=argBest_lt (numAt zs) (zs.size-1)
 refine⟨.int _,H,I.kept hk,⟨t,rfl⟩,q _ ?_ λa ha=>?_⟩
 ·rw[en,numAt_eq]
  exact getD_mem (by rw[qc_,qt_];omega)
 ·rw[en]at ha
  obtain⟨j,hj,rfl⟩:=mem_getD ha
  rw[qc_,qt_]at hj
  have:=h2 j (by omega)
  rw[numAt_eq zs j]at this
  exact this
theorem zFk(hc:X.calm=true):CallR X (.builtin "max") (λxs H Q=>∃(p:Addr) (ns:List Int),xs=[.ref p]/\SqL X.K H p (ns.map V.int)/\0<ns.length/\∀M,M∈ns->(∀a∈ns,a<=M)->Q (.int M) H):=by
 intro pins s σ H xs us Q I r h
 obtain⟨p,ns,rfl,hq,hn,q⟩:=h
 obtain⟨u,rfl,rx⟩:=cQ r
 cases rx
 obtain⟨its,rv,pl,hz⟩:=I.list hq
 have hi:IntsAre its ns:=pR rv
 obtain⟨zs,ez⟩:=hi.allInts.items
 have en:ns=zs.toList.map (·.1):=by rw[<-hi.numsOf,<-nums_intItems,<-ez]
 have hz0:0<zs.size:=by rw[en,qc_,qt_]at hn;exact hn
 have hl:=pl.isList
 rw[ez]at hl
 refine max_intList (I.ok.hd hc) hl hz0 λv h' tk hv hk=>?_
 obtain⟨t,rfl⟩:=intItems_at hv
 obtain⟨h1,h2⟩:=argBest_gt (numAt zs) (zs.size-1)
 refine⟨.int _,H,I.kept hk,⟨t,rfl⟩,q _ ?_ λa ha=>?_⟩
 ·rw[en,numAt_eq]
  exact getD_mem (by rw[qc_,qt_];omega)
 ·rw[en]at ha
  obtain⟨j,hj,rfl⟩:=mem_getD ha
  rw[qc_,qt_]at hj
  have:=h2 j (by omega)
  rw[numAt_eq zs j]at this
  exact this
end
end L2
namespace L2
open PySem PySem.Spec PyProof.Rows
theorem zDI{us:List Value}{ns:List Int}(h:IntsAre us ns):Vals (ns.map V.int) us:=by
 induction h with
 |nil=>exact .nil
 |cons n t _ ih=>exact .cons ⟨t,rfl⟩ ih
section
variable{X:Cx}
theorem call_sortedI:CallR X (.builtin "sorted") (λxs H Q=>∃(p:Addr) (ns:List Int),xs=[.ref p]/\SqL X.K H p (ns.map V.int)/\ns.length<64 /\
  ∀(ns':List Int) (l:Addr),ns'.Perm ns->ns'.Pairwise (·<=·)->H l=none->Q (.ref l) (upd H l (.lst (ns'.map V.int)))):=by
 intro pins s σ H xs us Q I r h
 obtain⟨p,ns,rfl,hq,h64,q⟩:=h
 obtain⟨u,rfl,rx⟩:=cQ r
 cases rx
 obtain⟨its,rv,pl,hz⟩:=I.list hq
 have hi:IntsAre its ns:=pR rv
 have hll:=rv.length
 rw[qc_]at hll
 refine sorted_ints pl.isList hi (by omega) λout ns' a1 a2 a3=>?_
 obtain⟨e,he⟩:=sortedAll_at s.heap its out
 have hlen:=a2.length_eq
 refine⟨.ref (s.heap.objs.size+1),_,I.laid (t':=s.toks) (λb o e=>sortedAll_old e) (qp1_ _) (show ObjOk X.prog X.w _ _ _ (.lst (ns'.map V.int)) from ⟨?_,out.toList,e,zDI a1,he⟩),rfl,q ns' _ a2 a3 (I.hok.fresh (qp1_ _))⟩
 rw[qc_,hlen]
 exact qZ_ (qq1_ h64 (by decide))
end
end L2
namespace L2
open PySem PySem.Spec PyProof.Rows
def Its(x:Str):It:=⟨λi _=>i<x.cps.size,λi H v H'=>H'=H/\∃c,x.cps[i]?=some c/\v=.str ⟨#[c]⟩,λi _=>x.cps.size<=i⟩
theorem zEt{P:Program}{w:World}{K:W.Frag}{tg:Expr}(it:Addr)(x:Str)(t:Tok):jG P w K tg (Its x) [it] it (λi h=>h.IsStrIter it "str_ascii_iterator" x t i) where
 mem:=by simp
 obj:=λi h st b hb=>by
  have e:b=it:=by simpa using hb
  subst e
  obtain⟨o,e,c,d⟩:=st
  exact⟨o,e,λv z=>by rw[d]at z;cases z⟩
 keep:=λi h h' st k=>let ⟨o,ho,r⟩:=st;⟨o,k it (by simp) o ho,r⟩
 item:=by
  intro X hP hw hK hc i pins s σ H E I hf st hg
  subst hP hw hK
  obtain⟨f0,f1,f2,f3,f4,f5⟩:=hf it (by simp)
  have W:=Walks.strAscii (prog:=X.prog) (w:=X.w) (I.ok.hd hc) it x t
  refine W.item i s _ _ hg st λv h' tk hv st' kk=>?_
  obtain⟨c,u,hc',rfl⟩:=hv
  have I1:Inv X pins σ H {s with heap:=h',toks:=tk}:=I.turned (λb o hb e=>kk b o (by simpa using hb) e) f0 f1 f3 f4 f5
  obtain⟨o,e,c1,d⟩:=id st'
  exact⟨_,rfl,mD (s:={s with heap:=h',toks:=tk}) e c1 d (by decide) ⟨.str ⟨#[c]⟩,H,I1,⟨u,rfl⟩,⟨rfl,c,hc',rfl⟩,st',λb hb=>(hf b hb).1⟩⟩
 done:=by
  intro X hP hw hK hc i pins s σ H E I hf st hg
  subst hP hw hK
  obtain⟨f0,f1,f2,f3,f4,f5⟩:=hf it (by simp)
  exact wpAny_pyNext_ascii_end (I.ok.hd hc) st (by have:x.cps.size<=i:=hg;simp;omega) λh' eb=>⟨rfl,I.turned (t':=s.toks) (λb o hb e=>eb b o hb e) f0 f1 f3 f4 f5⟩
 self:=λ_ _ _ _ _ st h=>wpAny_pyIter_striter_ascii st h
theorem zEs{P:Program}{w:World}{K:W.Frag}{tg:Expr}(it:Addr)(x:Str)(t:Tok):jG P w K tg (Its x) [it] it (λi h=>h.IsStrIter it "str_iterator" x t i) where
 mem:=by simp
 obj:=λi h st b hb=>by
  have e:b=it:=by simpa using hb
  subst e
  obtain⟨o,e,c,d⟩:=st
  exact⟨o,e,λv z=>by rw[d]at z;cases z⟩
 keep:=λi h h' st k=>let ⟨o,ho,r⟩:=st;⟨o,k it (by simp) o ho,r⟩
 item:=by
  intro X hP hw hK hc i pins s σ H E I hf st hg
  subst hP hw hK
  obtain⟨f0,f1,f2,f3,f4,f5⟩:=hf it (by simp)
  have W:=Walks.strWide (prog:=X.prog) (w:=X.w) (I.ok.hd hc) it x t
  refine W.item i s _ _ hg st λv h' tk hv st' kk=>?_
  obtain⟨c,u,hc',rfl⟩:=hv
  have I1:Inv X pins σ H {s with heap:=h',toks:=tk}:=I.turned (λb o hb e=>kk b o (by simpa using hb) e) f0 f1 f3 f4 f5
  obtain⟨o,e,c1,d⟩:=id st'
  exact⟨_,rfl,mD (s:={s with heap:=h',toks:=tk}) e c1 d (by decide) ⟨.str ⟨#[c]⟩,H,I1,⟨u,rfl⟩,⟨rfl,c,hc',rfl⟩,st',λb hb=>(hf b hb).1⟩⟩
 done:=by
  intro X hP hw hK hc i pins s σ H E I hf st hg
  subst hP hw hK
  obtain⟨f0,f1,f2,f3,f4,f5⟩:=hf it (by simp)
  exact wpAny_pyNext_wide_end (I.ok.hd hc) st (by have:x.cps.size<=i:=hg;simp;omega) λh' eb=>⟨rfl,I.turned (t':=s.toks) (λb o hb e=>eb b o hb e) f0 f1 f3 f4 f5⟩
 self:=λ_ _ _ _ _ st h=>wpAny_pyIter_striter_wide st h
section
variable{X:Cx}
def zGP:V->List V->Hp->VK->Prop:=λx vs H Q=>∃i j,x=.str i/\vs=[.str j]/\Q (.bl (decide (0+j.length<=i.length)&&Builtin.Str.subAt i j 0)) H
theorem zDv:MtM X "str.startswith" zGP:=by
 intro pins s σ H x vs v us Q I rx rv h
 obtain⟨i,j,rfl,rfl,q⟩:=h
 obtain⟨t,rfl⟩:=rx
 obtain⟨u,rfl,t',rfl⟩:=rv.one
 exact call_gives F.slot_str_startswith (typeIs_str _ _ _) F.entry_str_startswith (F.args_str_startswith_2 _ _) (gives_str_startswith i j t t') ⟨.bl _,H,I,rfl,q⟩
def zJQ:V->List V->Hp->VK->Prop:=λx vs H Q=>∃i j,x=.str i/\vs=[.str j]/\∀n:Int,Q (.int n) H
theorem zHj:MtM X "str.find" zJQ:=by
 intro pins s σ H x vs v us Q I rx rv h
 obtain⟨i,j,rfl,rfl,q⟩:=h
 obtain⟨t,rfl⟩:=rx
 obtain⟨u,rfl,t',rfl⟩:=rv.one
 exact call_gives F.slot_str_find (typeIs_str _ _ _) F.entry_str_find (F.args_str_find_2 _ _) (gives_str_find i j t t') ⟨.int _,H,I.tok _,⟨_,rfl⟩,q _⟩
end
def KD(prm:Params):List DictEntry->List (Str×Str)->Prop
 |[],[]=>True
 |e::es,kv::kvs=>e.hash=PyData.keyHash prm kv.1/\(∃t,e.key=.str kv.1 t)/\(∃t,e.val=.str kv.2 t)/\KD prm es kvs
 |_,_=>False
structure zCT (K:W.Frag) (prm:Params) (d:Addr) (kvs:List (Str×Str)):Prop where
 obj:∃(es:Array DictEntry) (ep:Nat),K.lookup d=some ⟨.type "dict",none,.dict es ep,#[]⟩/\KD prm es.toList kvs
 nd:(kvs.map (·.1)).Nodup
def getS(kvs:List (Str×Str))(x:Str):Option Str:=(kvs.find? λkv=>kv.1=x).map (·.2)
theorem KD.keys{P:Program}{w:World}:∀{es:List DictEntry}{kvs:List (Str×Str)},KD w.params es kvs->∀e∈es,∃k,(bN P w).is k e.key=true/\e.hash=(bN P w).hash k
 |[],[],_,e,he=>nomatch he
 |a::es,kv::kvs,⟨h1,⟨t,h2⟩,_,h4⟩,e,he=>by
  rcases qy_.mp he with z|z
  ·subst z
   exact⟨.inr kv.1,by rw[h2];exact pL P w kv.1 t,by rw[h1];rfl⟩
  ·exact KD.keys h4 e z
theorem KD.pairs{P:Program}{w:World}:∀{es:List DictEntry}{kvs:List (Str×Str)},KD w.params es kvs->∃vs:List (Key×Value),Pairs (bN P w) es vs/\vs.map (·.1)=kvs.map (λkv=>Sum.inr kv.1) /\
  ∀x y,getS kvs x=some y->∃t,valueAt vs (.inr x)=some (.str y t)
 |[],[],_=>⟨[],.nil,rfl,λx y h=>nomatch h⟩
 |a::es,kv::kvs,⟨h1,⟨t,h2⟩,⟨t',h3⟩,h4⟩=>by
  obtain⟨vs,p,m,g⟩:=KD.pairs (P:=P) h4
  refine⟨(.inr kv.1,.str kv.2 t')::vs,.cons (by rw[h2];exact pL P w kv.1 t) h3 p,by simp[m],λx y h=>?_⟩
  by_cases e:kv.1=x
  ·subst e
   have:kv.2=y:=by simpa[getS]using h
   subst this
   exact⟨t',by simp[valueAt]⟩
  ·have h':getS kvs x=some y:=by simpa[getS,e]using h
   obtain⟨t'',h''⟩:=g x y h'
   exact⟨t'',by
    have:(Sum.inr kv.1:Key)≠.inr x:=λz=>e (Sum.inr.inj z)
    simpa[valueAt,this]using h''⟩
section
variable{X:Cx}
def rKD(d:Addr)(kvs:List (Str×Str)):R2:=λx y H Q=>∃i j,x=.ref d/\y=.str i/\getS kvs i=some j/\Q (.str j) H
theorem zKd{d:Addr}{kvs:List (Str×Str)}(D:zCT X.K X.w.params d kvs):IxR X (rKD d kvs):=by
 intro value slice pins s σ H x y v u Q I rx ry h hs
 obtain⟨i,j,rfl,rfl,hg,q⟩:=h
 cases rx
 obtain⟨t,rfl⟩:=ry
 obtain⟨es,ep,lk,kd⟩:=D.obj
 obtain⟨vs,hp,hm,hv⟩:=KD.pairs (P:=X.prog) kd
 obtain⟨t',hv⟩:=hv i j hg
 have ho:=I.kIn d _ lk
 have hnd:(vs.map (·.1)).Nodup:=by
  rw[hm,show kvs.map (λkv=>(Sum.inr kv.1:Key))=(kvs.map (·.1)).map Sum.inr by simp]
  unfold List.Nodup
  rw[qI2_]
  exact D.nd.imp λh z=>h (Sum.inr.inj z)
 have dd:s.heap.DictOf (bN X.prog X.w) d vs:=⟨_,es,ep,ho,⟨rfl,rfl,rfl⟩,rfl,λe he=>KD.keys kd e (by simpa using he),hp,hnd⟩
 exact tail_any ⟨_,ho,rfl⟩ slot_dict_getitem.lookup (wpAny_getItem_of (pL _ _ i t) dd.mapOf hv ⟨.str j,H,I.tok _,⟨t',rfl⟩,q⟩) hs
end
section
variable{X:Cx}
def zKO:V->Option Int->Option Int->Hp->VK->Prop:=λx lo hi H Q=>∃z,x=.str z/\z.length<=sizeLine/\Q (.str (Txt.slice z lo hi)) H
theorem zH9:SlR X zKO:=by
 intro pins s σ H x v vl vu lo hi sl Q I rx hs pl pu h
 obtain⟨z,rfl,hz,q⟩:=h
 obtain⟨t,rfl⟩:=rx
 obtain⟨o,ho,hc,hd⟩:=hs
 refine⟨"str",_,F.slot_str_getitem.lookup,typeIs_str _ _ _,?_⟩
 have fin:∀t' k,EP X pins σ Q (.str (Txt.slice z lo hi) t') {s with toks:=k}:=λt' k=>⟨.str _,H,I.tok k,⟨t',rfl⟩,q⟩
 cases pl with
 |none=>cases pu with
  |none=>exact wpAny_getItem_str_slice (l:=none) (u:=none) (st:=none) ⟨o,ho,hc,hd⟩ rfl (post_val_or_str ⟨qi_ (Txt.slice_le z _ _) hz,fin⟩)
  |int j uj=>exact wpAny_getItem_str_slice (l:=none) (u:=some (j,uj)) (st:=none) ⟨o,ho,hc,hd⟩ rfl (post_val_or_str ⟨qi_ (Txt.slice_le z _ _) hz,fin⟩)
 |int i ui=>cases pu with
  |none=>exact wpAny_getItem_str_slice (l:=some (i,ui)) (u:=none) (st:=none) ⟨o,ho,hc,hd⟩ rfl (post_val_or_str ⟨qi_ (Txt.slice_le z _ _) hz,fin⟩)
  |int j uj=>exact wpAny_getItem_str_slice (l:=some (i,ui)) (u:=some (j,uj)) (st:=none) ⟨o,ho,hc,hd⟩ rfl (post_val_or_str ⟨qi_ (Txt.slice_le z _ _) hz,fin⟩)
theorem jI{ss:List Str}:∀{us:List Value},Vals (ss.map V.str) us->StrsAre us ss:=by
 induction ss with
 |nil=>intro us r;rw[qs2_]at r;cases r;exact .nil
 |cons n ns ih=>
  intro us r
  rw[qF_]at r
  cases r with
  |cons r1 r2=>
   obtain⟨t,e⟩:=r1
   subst e
   exact .cons n t (ih r2)
theorem pH{us:List Value}{ss:List Str}(h:StrsAre us ss):Vals (ss.map V.str) us:=by
 induction h with
 |nil=>exact .nil
 |cons n t _ ih=>exact .cons ⟨t,rfl⟩ ih
theorem call_sortedS:CallR X (.builtin "sorted") (λxs H Q=>∃(p:Addr) (ss:List Str),xs=[.ref p]/\SqL X.K H p (ss.map V.str)/\ss.length<64 /\
  ∀(ss':List Str) (l:Addr),ss'.Perm ss->sortedS ss'=true->H l=none->Q (.ref l) (upd H l (.lst (ss'.map V.str)))):=by
 intro pins s σ H xs us Q I r h
 obtain⟨p,ns,rfl,hq,h64,q⟩:=h
 obtain⟨u,rfl,rx⟩:=cQ r
 cases rx
 obtain⟨its,rv,pl,hz⟩:=I.list hq
 have hi:StrsAre its ns:=jI rv
 have hll:=rv.length
 rw[qc_]at hll
 refine sorted_strs pl.isList hi (by omega) λout ns' a1 a2 a3=>?_
 obtain⟨e,he⟩:=sortedAll_at s.heap its out
 have hlen:=a2.length_eq
 refine⟨.ref (s.heap.objs.size+1),_,I.laid (t':=s.toks) (λb o e=>sortedAll_old e) (qp1_ _) (show ObjOk X.prog X.w _ _ _ (.lst (ns'.map V.str)) from ⟨?_,out.toList,e,pH a1,he⟩),rfl,q ns' _ a2 a3 (I.hok.fresh (qp1_ _))⟩
 rw[qc_,hlen]
 exact qZ_ (qq1_ h64 (by decide))
def cD(ss:List Str):List Nat:=(ss.map λs=>s.cps.toList).flatten
theorem zBn:∀{us:List Value}{ss:List Str},StrsAre us ss->∃l:List (Str×Tok),us=strValues l/\l.map (·.1)=ss
 |_,_,.nil=>⟨[],rfl,rfl⟩
 |_,_,.cons y t h=>by
  obtain⟨l,e1,e2⟩:=zBn h
  exact⟨(y,t)::l,by rw[e1];rfl,by simp[e2]⟩
theorem uW:∀ss:List Str,(Str.join ⟨#[]⟩ ss).cps.toList=cD ss
 |[]=>rfl
 |[x]=>by simp[Str.join,cD]
 |x::y::r=>by
  have ih:=uW (y::r)
  show((x++(⟨#[]⟩:Str)++Str.join ⟨#[]⟩ (y::r)):Str).cps.toList=_
  have e:∀a b:Str,(a++b).cps.toList=a.cps.toList++b.cps.toList:=λa b=>by
   show(a.cps++b.cps).toList=_
   simp
  rw[e,e,ih]
  simp[cD]
theorem zBq:∀(ss:List Str) (n:Nat),ss.foldl (λa s=>a+s.length+0) n=n+(cD ss).length
 |[],n=>by simp[cD]
 |s::r,n=>by
  rw[qw1_,zBq r]
  simp[cD,Str.length]
  omega
def zJP(K:W.Frag):V->List V->Hp->VK->Prop:=λx vs H Q=>∃p ss,x=.str ⟨#[]⟩/\vs=[.ref p]/\SqL K H p (ss.map V.str)/\(cD ss).length<=100000/\∀z:Str,z.cps.toList=cD ss->Q (.str z) H
theorem zHi:MtM X "str.join" (zJP X.K):=by
 intro pins s σ H x vs v us Q I rx rv h
 obtain⟨p,ss,rfl,rfl,hq,hz,q⟩:=h
 obtain⟨t,rfl⟩:=rx
 obtain⟨u,rfl,ru⟩:=rv.one
 cases ru
 obtain⟨its,rv,pl,hz'⟩:=I.list hq
 obtain⟨l,e1,e2⟩:=zBn (jI rv)
 have hl:=pl.isList
 rw[e1]at hl
 have hlen:((l.map (·.1)).toArray.foldl (λa s=>a+s.length+(⟨#[]⟩:Str).length) 0)=(cD ss).length:=by
  rw[e2,List.foldl_toArray]
  show ss.foldl (λa s=>a+s.length+0) 0=_
  rw[zBq]
  omega
 refine call_meets F.slot_str_join (typeIs_str _ _ _) F.entry_str_join (F.args_str_join_2 _ _) (meets_str_join_list ⟨#[]⟩ t p l (by
  rw[hlen]
  show decide (_ > sizeLine)=false
  exact qH_ (qh2_.mpr (qi_ hz (by decide))))) ⟨hl,?_⟩
 have hj:∀z:Str,z=Str.join ⟨#[]⟩ ss->∀t' k,EP X pins σ Q (.str z t') {s with toks:=k}:=λz e t' k=>⟨.str z,H,I.tok k,⟨t',rfl⟩,q z (by rw[e,uW])⟩
 have hlz:(Str.join ⟨#[]⟩ ss).length<=sizeLine:=by
  show(Str.join ⟨#[]⟩ ss).cps.size<=_
  rw[<-qt_,uW]
  exact qi_ hz (by decide)
 match l,e2 with
 |[],e2=>exact⟨by rw[StrLaws.glued_eq_join];exact qu_ _,hj _ (by rw[<-e2];rw[StrLaws.glued_eq_join]) _ _⟩
 |[pp],e2=>exact hj _ (by rw[<-e2];rfl) _ s.toks
 |a::b::r,e2=>exact⟨by rw[StrLaws.glued_eq_join,e2];exact hlz,hj _ (by rw[StrLaws.glued_eq_join,e2]) _ _⟩
end
end L2
namespace L2
open PySem
theorem pS{α:Type}:∀(l:List α) (i:Nat) (h:i<l.length),(l[i]::l.eraseIdx i).Perm l
 |[],i,h=>by simp at h
 |x::l,0,h=>by simp
 |x::l,i+1,h=>by
  have h':i<l.length:=by simpa using h
  simp only[List.getElem_cons_succ,List.eraseIdx_cons_succ]
  exact(List.Perm.swap _ _ _).trans (.cons _ (pS l i h'))
section
variable{M:Model}{A:Around}{E:Value->Shared->Prop}{s:Shared}
theorem zEn{src:Source}{n:Nat}{Q:Nat->Shared->Prop}(hn:n≠0)(h:∀i d,i<n->Q i {s with drawn:=d}):wpAny M A (choose src n) Q E s:=λΓ p _=>by
 unfold choose
 rw[Sem.wp_choose]
 exact⟨hn,h _ _ (qJ2_ _ (Nat.pos_of_ne_zero hn))⟩
theorem tI{α:Type}:∀(n:Nat) (xs:List α) (s:Shared) {Q:List α->Shared->Prop},xs.length=n->(∀ys d,ys.Perm xs->Q ys {s with drawn:=d})->wpAny M A (drawOrder n xs) Q E s
 |0,xs,s,Q,hl,h=>by
  have e:xs=[]:=qM1_ hl
  subst e
  exact qb_ (h [] s.drawn (.refl _))
 |n+1,[],s,Q,hl,h=>by simp at hl
 |n+1,x::xs,s,Q,hl,h=>by
  show wpAny M A (do
   let i <- choose .order (x::xs).length
   match (x::xs)[i]? with
   |some x'=>return x'::(<- drawOrder n ((x::xs).eraseIdx i))
   |none=>unsupported "internal:drawOrder") Q E s
  refine qa_ (zEn (by simp) λi d hi=>?_)
  rw[qk_ hi]
  refine qa_ (tI n _ _ (by rw[qm3_ hi];simp at hl ⊢;exact hl) λys d' hp=>?_)
  refine qb_ (h _ d' ((List.Perm.cons _ hp).trans ?_))
  exact pS (x::xs) i hi
end
theorem zBC{α:Type}(next:Nat->Nat):∀(fuel k:Nat) (left:List α) (out:Array α),fuel=left.length->(pickOrder.go next fuel k left out).toList.Perm (out.toList++left)
 |0,k,left,out,h=>by
  have e:left=[]:=qM1_ h.symm
  subst e
  unfold pickOrder.go
  simp
 |fuel+1,k,left,out,h=>by
  unfold pickOrder.go
  have hlt:next k % left.length<left.length:=qJ2_ _ (by omega)
  rw[qk_ hlt]
  refine(zBC next fuel (k+1) _ _ (by rw[qm3_ hlt];omega)).trans ?_
  rw[Array.toList_push,qA1_]
  exact List.Perm.append_left _ (pS _ _ hlt)
theorem jK{α:Type}(next:Nat->Nat)(xs:Array α):(pickOrder next xs).toList.Perm xs.toList:=by
 unfold pickOrder
 have:=zBC next xs.size 0 xs.toList #[] (by simp)
 simpa using this
end L2
namespace L2
open PySem PySem.Spec PyProof.Rows
abbrev byT(w:World):Bool:=w.params.followText "set-order"
structure SetT (prog:Program) (w:World) (us:List Str) (es:Array (Int×Value)) (t:SetTable):Prop where
 el:ElemsOf (PySem.strKind prog w) es.toList
 tx:∃vs:List Str,StrsAre (es.toList.map (·.2)) vs/\vs.Perm us
 nd:us.Nodup
 lt:es.size<scanBound
 fit:t.fits es.size=true
 pl:es.size=0\/t.plain=false
 ld:t.led=!byT w
abbrev bK(es:Array (Int×Value))(ep:Nat)(t:SetTable):Obj:={cls:=.type "set",dict:=none,data:=.set es ep t,slots:=#[]}
def SetS(prog:Program)(w:World)(a:Addr)(us:List Str)(h:Heap):Prop:=∃es ep t,h.get? a=some (bK es ep t)/\SetT prog w us es t
def cV(us:List Str)(x:Str):List Str:=if x∈us then us else us++[x]
theorem gV:∀{vs:List Value}{ss:List Str},StrsAre vs ss->vs.length=ss.length
 |_,_,.nil=>rfl
 |_,_,.cons _ _ h=>by simp[gV h]
theorem zAF:∀{vs:List Value}{ss:List Str},StrsAre vs ss->∀x,x∈ss↔∃v∈vs,Value.isStrOf x v=true
 |_,_,.nil,x=>by simp
 |_,_,.cons y t h,x=>by
  have ih:=zAF h x
  have e:Value.isStrOf x (.str y t)=true↔x=y:=⟨λh=>by
   obtain⟨u,h⟩:=Value.isStrOf_shape h
   injection h with h1 h2
   exact h1.symm,λh=>by subst h;simp[Value.isStrOf]⟩
  simp only[List.mem_cons,exists_eq_or_imp,ih,e]
theorem lA:∀{vs us:List Value},us.Perm vs->∀{ss:List Str},StrsAre vs ss->∃ss',StrsAre us ss'/\ss'.Perm ss:=by
 intro vs us p
 induction p with
 |nil=>intro ss h;exact⟨ss,h,.refl _⟩
 |cons x p ih=>
  intro ss h
  cases h with
  |cons y t h=>obtain⟨ss',a,b⟩:=ih h;exact⟨y::ss',.cons y t a,.cons _ b⟩
 |swap x y l=>
  intro ss h
  cases h with
  |cons a t h=>cases h with
   |cons b u h=>exact⟨b::a::_,.cons b u (.cons a t h),.swap _ _ _⟩
 |trans p q ihp ihq=>
  intro ss h
  obtain⟨s1,a1,b1⟩:=ihq h
  obtain⟨s2,a2,b2⟩:=ihp a1
  exact⟨s2,a2,b2.trans b1⟩
theorem zT:∀{vs:List Value}{ss:List Str}(x:Str) (t:Tok),StrsAre vs ss->StrsAre (vs++[.str x t]) (ss++[x])
 |_,_,x,t,.nil=>.cons x t .nil
 |_,_,x,t,.cons y u h=>.cons y u (zT x t h)
theorem zEb(t:SetTable)(es:Array (Int×Value))(h:Int)(x:Value):(layNew t es h x).2.1.led=t.led:=by
 have so:∀(u:SetTable) (n:Nat),(u.orStandIn n).led=u.led:=λu n=>by
  unfold SetTable.orStandIn
  split<;>rfl
 unfold layNew
 split
 ·dsimp only
  rw[so]
  rfl
 ·rfl
theorem zEG(t:SetTable)(es:Array (Int×Value))(n:Nat):(relayAll t es n).2.1.led=t.led/\(t.plain=false->(relayAll t es n).2.1.plain=false):=by
 have la:∀m f mv ld pl hs t' o,SetTable.laid m f mv ld pl hs=some (t',o)->t'.led=ld/\t'.plain=pl:=λm f mv ld pl hs t' o e=>by
  unfold SetTable.laid at e
  cases q:SetTable.layClean m hs with
  |none=>rw[q]at e;cases e
  |some ow=>
   rw[q]at e
   simp only[Option.bind_eq_bind,Option.bind_some,Option.pure_def,Option.some.injEq,Prod.mk.injEq]at e
   obtain⟨e,_⟩:=e
   subst e
   exact⟨rfl,rfl⟩
 unfold relayAll
 split
 ·rename_i t' order e
  have:=la _ _ _ _ _ _ _ _ e
  dsimp only
  split
  ·exact⟨this.1,λz=>by rw[<-z];exact this.2⟩
  ·exact⟨rfl,λ_=>rfl⟩
 ·exact⟨rfl,λ_=>rfl⟩
section
variable{prog:Program}{w:World}{A:Around}{E:Value->Shared->Prop}{s:Shared}{a:Addr}{us:List Str}{x:Str}{tk:Tok}
theorem SetT.mem{es:Array (Int×Value)}{t:SetTable}(T:SetT prog w us es t)(x:Str):x∈us↔∃e∈es.toList,(PySem.strKind prog w).is x e.2=true:=by
 obtain⟨vs,h,p⟩:=T.tx
 rw[<-p.mem_iff,zAF h x]
 simp only[List.mem_map]
 exact⟨λ⟨v,⟨e,he,z⟩,q⟩=>⟨e,he,by subst z;exact q⟩,λ⟨e,he,q⟩=>⟨e.2,⟨e,he,rfl⟩,q⟩⟩
theorem SetT.size{es:Array (Int×Value)}{t:SetTable}(T:SetT prog w us es t):es.size=us.length:=by
 obtain⟨vs,h,p⟩:=T.tx
 have:=gV h
 rw[qc_,qt_]at this
 rw[this,p.length_eq]
theorem zBb{g:Bool->Sem Unit}(hg:∀(b:Bool) (s₁:Shared) (R:Unit->Shared->Prop),R () s₁->wpAny (model prog w) A (g b) R E s₁){es es1:Array (Int×Value)}{ep:Nat}{t t2:SetTable}{wd:Bool}{R:Option Bool->Shared->Prop}
  (ho:s.heap.get? a=some (bK es ep t)) (T:SetT prog w us es1 t2) (np:t2.plain=false)
  (h:∀h',Heap.SameBut a s.heap h'->SetS prog w a us h'->R (some true) {s with heap:=h'}):
  wpAny (model prog w) A (do
   storeSet a es1 t2
   if (!wd&&t2.tooFull)=true then do
     g (relayAll t2 es1 (SetTable.grown es1.size)).2.2
     storeSet a (relayAll t2 es1 (SetTable.grown es1.size)).1 (relayAll t2 es1 (SetTable.grown es1.size)).2.1
     pure (some true)
    else pure (some true)) R E s:=by
 refine qa_ (wpAny_storeSet_of ho rfl ?_ (fits_of_scanBound T.lt))
 have o1:(s.heap.update a (Obj.putSet es1 t2)).get? a=some (bK es1 (ep+1) t2):=qU_ (Obj.putSet es1 t2) ho rfl
 have b1:=Heap.SameBut.update s.heap a (Obj.putSet es1 t2)
 split
 ·have hp:=relayAll_perm t2 es1 (SetTable.grown es1.size)
  have hf:=relayAll_fits t2 es1 (SetTable.grown es1.size)
  obtain⟨hl,hq⟩:=zEG t2 es1 (SetTable.grown es1.size)
  have hq:=hq np
  generalize relayAll t2 es1 (SetTable.grown es1.size)=Rl at hp hf hl hq ⊢
  obtain⟨es2,t3,g2⟩:=Rl
  dsimp only at hp hf hl hq ⊢
  have sz:es2.size=es1.size:=by have:=hp.length_eq;simpa using this
  have T2:SetT prog w us es2 t3:=by
   obtain⟨vs,hv,pv⟩:=T.tx
   obtain⟨vs',hv',pv'⟩:=lA (hp.map (·.2)) hv
   exact⟨T.el.perm hp,⟨vs',hv',pv'.trans pv⟩,T.nd,by rw[sz];exact T.lt,hf,.inr hq,hl.trans T.ld⟩
  refine qa_ (hg _ _ _ ?_)
  refine qa_ (wpAny_storeSet_of o1 rfl ?_ (fits_of_scanBound T2.lt))
  exact qb_ (h _ (b1.trans (Heap.SameBut.update _ a _)) ⟨es2,ep+1+1,t3,qU_ (Obj.putSet es2 t3) o1 rfl,T2⟩)
 ·exact qb_ (h _ b1 ⟨es1,ep+1,t2,o1,T⟩)
theorem vD{Q:Bool->Shared->Prop}(S:SetS prog w a us s.heap)(room:us.length+1<scanBound)(h:∀b h',Heap.SameBut a s.heap h'->SetS prog w a (cV us x) h'->Q b {s with heap:=h'}):
  wpAny (model prog w) A (setAddHashed a (.str x tk) ((PySem.strKind prog w).hash x)) Q E s:=by
 obtain⟨es,ep,t,ho,T⟩:=id S
 have hk:(PySem.strKind prog w).is x (.str x tk)=true:=by show Value.isStrOf x (.str x tk)=true;simp[Value.isStrOf]
 have sc:(Value.str x tk).scannable=true:=rfl
 unfold setAddHashed setAddHashedIn
 refine qC_ (qa_ (qs_ ho rfl T.fit ?_))
 dsimp only
 rw[byScan_of sc T.lt T.el,if_pos rfl]
 unfold setAddByScan
 refine qa_ (qa_ (wpAny_rule ?_))
 refine qa_ (wpAny_setScan_of hk ho rfl T.fit T.el ?_)
 cases hr:es.toList.findIdx? (λe=>(PySem.strKind prog w).is x e.2) with
 |some j=>
  dsimp only
  obtain⟨hj,hp,_⟩:=List.findIdx?_eq_some_iff_getElem.mp hr
  have hin:x∈us:=(T.mem x).mpr ⟨_,qL1_ hj,hp⟩
  refine qb_ (qb_ ?_)
  have e:s={s with heap:=s.heap}:=by cases s;rfl
  rw[e]
  refine h false s.heap (Heap.SameBut.refl a s.heap) ?_
  rw[cV,if_pos hin]
  exact S
 |none=>
  dsimp only
  have hout:x∉us:=λz=>by
   obtain⟨e,he,hp⟩:=(T.mem x).mp z
   have:=qn3_.mp hr e he
   rw[hp]at this;cases this
  have eA:cV us x=us++[x]:=by rw[cV,if_neg hout]
  have pm:=layNew_perm t es ((PySem.strKind prog w).hash x) (.str x tk)
  have ft:=layNew_fits t es ((PySem.strKind prog w).hash x) (.str x tk)
  have ld:=zEb t es ((PySem.strKind prog w).hash x) (.str x tk)
  generalize layNew t es ((PySem.strKind prog w).hash x) (.str x tk)=L at pm ft ld ⊢
  obtain⟨es1,t1,wd,gv⟩:=L
  dsimp only at pm ft ld ⊢
  rw[Array.toList_push]at pm
  have sz:es1.size=us.length+1:=by
   have:=pm.length_eq
   rw[<-qt_,this,qh_,qt_,T.size];rfl
  have base:∀t2:SetTable,t2.fits es1.size=true->t2.plain=false->t2.led=t.led->SetT prog w (cV us x) es1 t2:=λt2 f2 p2 l2=>by
   obtain⟨vs,hv,pv⟩:=T.tx
   have h1:=zT x tk hv
   have h2:(es.toList.map (·.2))++[Value.str x tk]=(es.toList++[((PySem.strKind prog w).hash x,Value.str x tk)]).map (·.2):=by simp
   rw[h2]at h1
   obtain⟨vs',hv',pv'⟩:=lA (pm.map (·.2)) h1
   refine⟨(T.el.push hk sc).perm pm,⟨vs',hv',?_⟩,?_,by rw[sz];exact room,f2,.inr p2,l2.trans T.ld⟩
   ·rw[eA];exact pv'.trans (pv.append_right _)
   ·rw[eA,qy2_]
    refine⟨T.nd,by simp,λy hy z hz e=>hout ?_⟩
    have q:z=x:=by simpa using hz
    rw[<-q,<-e]
    exact hy
  have gw:∀(b:Bool) (s₁:Shared) (R:Unit->Shared->Prop),R () s₁->wpAny (model prog w) A (match b with|true=>rule "set.scan.the-table-gave-way"|false=>pure ()) R E s₁:=
   λb s₁ R q=>by
    cases b
    ·exact qb_ q
    ·exact wpAny_rule q
  refine qa_ (gw _ _ _ ?_)
  have fin:∀h',Heap.SameBut a s.heap h'->SetS prog w a (cV us x) h'->wpAny (model prog w) A (pure true) Q E {s with heap:=h'}:=λh' b S'=>qb_ (h true h' b S')
  split
  ·refine qa_ ?_
   rw[hashByValue_scannable 8 sc]
   refine qb_ ?_
   rw[if_neg (by simp[plainKind])]
   exact zBb (g:=λb=>match b with|true=>rule "set.scan.the-table-gave-way"|false=>pure ()) gw ho (base _ (SetTable.fits_plain_off ft) rfl ld) rfl λh' b S'=>fin h' b S'
  ·rename_i hp
   refine qa_ (qb_ ?_)
   rw[if_pos rfl]
   exact zBb (g:=λb=>match b with|true=>rule "set.scan.the-table-gave-way"|false=>pure ()) gw ho (base _ ft (by simpa using hp) ld) (by simpa using hp) λh' b S'=>fin h' b S'
end
end L2
namespace L2
open PySem PySem.Spec PyProof.Rows
theorem qN:Slot "set" "__iter__" "set.__iter__":=
 Slot.of (owner:="set") (n:="__iter__") (by rw[typeLookup_type,builtinLookup_eq_fast];kernel_rfl) (by decide +kernel) (by decide +kernel) (by decide +kernel) (by first|exact .inl (by decide +kernel)|exact .inr (by decide +kernel)) (by rw[isSubtype_type];kernel_rfl)
theorem zBZ:entryFor table "set.__iter__"=some Builtin.«frozenset.__iter__»:=entryFor_alias (id':="frozenset.__iter__") (by kernel_rfl) rfl (by decide +kernel) (by kernel_rfl)
theorem zB3(a:Value):argsOk "set.__iter__" ⟨[a],[]⟩:=by
 unfold argsOk
 kernel_rfl
theorem st_next:Slot "set_iterator" "__next__" "set_iterator.__next__":=
 Slot.of (owner:="set_iterator") (n:="__next__") (by rw[typeLookup_type,builtinLookup_eq_fast];kernel_rfl) (by decide +kernel) (by decide +kernel) (by decide +kernel) (by first|exact .inl (by decide +kernel)|exact .inr (by decide +kernel)) (by rw[isSubtype_type];kernel_rfl)
theorem zHv:entryFor table "set_iterator.__next__"=some Builtin.«set_iterator.__next__»:=entryFor_of_fast (by kernel_rfl)
theorem zHD(a:Value):argsOk "set_iterator.__next__" ⟨[a],[]⟩:=by
 unfold argsOk
 kernel_rfl
theorem gY:Slot "set_iterator" "__iter__" "set_iterator.__iter__":=
 Slot.of (owner:="set_iterator") (n:="__iter__") (by rw[typeLookup_type,builtinLookup_eq_fast];kernel_rfl) (by decide +kernel) (by decide +kernel) (by decide +kernel) (by first|exact .inl (by decide +kernel)|exact .inr (by decide +kernel)) (by rw[isSubtype_type];kernel_rfl)
theorem nP:entryFor table "set_iterator.__iter__"=some Builtin.«dict_keyiterator.__iter__»:=entryFor_alias (id':="dict_keyiterator.__iter__") (by kernel_rfl) rfl (by decide +kernel) (by kernel_rfl)
theorem nQ(a:Value):argsOk "set_iterator.__iter__" ⟨[a],[]⟩:=by
 unfold argsOk
 kernel_rfl
section
variable{prog:Program}{w:World}{A:Around}{E:Value->Shared->Prop}{s:Shared}
theorem zGn{α:Type}{Q:α->Shared->Prop}(hh:A.handled=none)
  (h:∀e h',(∀b o,s.heap.get? b=some o->h'.get? b=some o)->Shared.TypeIs {s with heap:=h'} (.ref e) "StopIteration"->E (.ref e) {s with heap:=h'}):
  wpAny (model prog w) A (newExc (.type "StopIteration") [] >>= λe=>raiseNew e) Q E s:=by
 refine qa_ ?_
 simp only[newExc,newTuple]
 refine qa_ (qR_ ?_ (by size_fits))
 refine qa_ (m:=firstArgMember _ _) (wpAny_of_eq (a:=Value.none) (by first|rfl|(simp only[firstArgMember];rfl)) ?_)
 refine qR_ ?_ (by size_fits)
 simp only[raiseNew]
 refine qa_ (wpAny_handled ?_)
 rw[hh]
 refine qa_ (qb_ (wpAny_throw ?_))
 exact h _ _ (λb o e=>qd_ _ (qd_ _ e)) ⟨_,qj_ _ rfl,rfl⟩
theorem gX{it:Addr}{o:Obj}{Q:Option Value->Shared->Prop}(ho:s.heap.get? it=some o)(hc:o.cls=.type "set_iterator")
  (h:wpAny (model prog w) A.in1 (Builtin.«set_iterator.__next__» ⟨[.ref it],[]⟩) (λr s'=>∃v,r=.done (.ret v)/\Q (some v) s') (λe s'=>s'.TypeIs e "StopIteration"/\Q none s') s):
  wpAny (model prog w) A (pyNext (.ref it)) Q E s:=by
 have ht:s.TypeIs (.ref it) "set_iterator":=⟨o,ho,hc⟩
 unfold pyNext
 refine qa_ (wpAny_attempt (wpAny_callSpecial?_slot (name:=Str.ofString "__next__") ht st_next (qJ_ st_next ht zHv ?_ (zHD _))))
 refine wpAny_mono h (λr s' ⟨v,e,q⟩=>⟨v,e,qb_ q⟩) λe s' ⟨t,q⟩=>?_
 exact qa_ (wpAny_isInstance (T:="StopIteration") (b:=true) t isSubtype_stop (qb_ q))
end
end L2
namespace L2
open PySem PySem.Spec PyProof.Rows
abbrev itO(first:Value)(i:Nat)(a:Addr)(n ep:Nat):Obj:={cls:=.type "set_iterator",data:=.fields #[first,.int (i:Int) 0,.ref a,.int (n:Int) 0,.int (ep:Int) 0]}
section
variable{prog:Program}{w:World}{A:Around}{E:Value->Shared->Prop}{s:Shared}{it a:Addr}{us:List Str}{es:Array (Int×Value)}{ep:Nat}{t:SetTable}
theorem mS{Q:Array (Int×Value)->Shared->Prop}(ho:s.heap.get? a=some (bK es ep t))(hf:t.fits es.size=true)(h:Q es s):wpAny (model prog w) A (setEntries a) Q E s:=by
 unfold setEntries
 exact qa_ (qs_ ho rfl hf (qb_ h))
theorem dS{Q:Bool->Shared->Prop}(h:Q (byT w) s):wpAny (model prog w) A setsByText Q E s:=by
 unfold setsByText
 exact qa_ (wpAny_askSetting (qb_ h))
theorem jJ{i slot:Nat}{n:Nat}{Q:Fin->Shared->Prop}(hi:s.heap.get? it=some (itO (.int (slot:Int) 0) i a n ep))(ho:s.heap.get? a=some (bK es ep t))(hf:t.fits es.size=true)(hn:es.size=n)
  (h:wpAny (model prog w) A (setNext a slot i ep) (λr s'=>wpAny (model prog w) A (match r with
   |some (x,next)=>do
    setField (.ref it) 0 (rawInt next)
    setField (.ref it) 1 (rawInt (i+1))
    ret x
   |none=>do setField (.ref it) 2 .none;raiseNew (<- newExc (.type "StopIteration") [])) Q E s') E s):
  wpAny (model prog w) A (Builtin.«set_iterator.__next__» ⟨[.ref it],[]⟩) Q E s:=by
 unfold Builtin.«set_iterator.__next__»
 refine qa_ (m:=slotArgs "__next__" 0 ⟨[.ref it],[]⟩) (qb_ ?_)
 dsimp only
 refine qa_ (wpAny_fieldsOf hi rfl ?_)
 show wpAny _ _ (setEntries a >>= _) _ _ s
 refine qa_ (mS ho hf ?_)
 rw[hn]
 simp only[bne_self_eq_false,Bool.false_eq_true,if_false]
 refine qa_ (m:=setNext a slot i ep) h
end
end L2
namespace L2
open PySem PySem.Spec PyProof.Rows
section
variable{prog:Program}{w:World}{A:Around}{E:Value->Shared->Prop}{s:Shared}{it a:Addr}{us:List Str}{es:Array (Int×Value)}{ep:Nat}{t:SetTable}
theorem mX{o:Obj}{vs:Array Value}{k:Nat}{Q:Fin->Shared->Prop}(hh:A.handled=none)(hi:s.heap.get? it=some o)(hd:o.data=.fields vs)(hk:k<vs.size)
  (h:∀e h',(∀b u,b≠it->s.heap.get? b=some u->h'.get? b=some u)->Shared.TypeIs {s with heap:=h'} (.ref e) "StopIteration"->E (.ref e) {s with heap:=h'}):
  wpAny (model prog w) A (do setField (.ref it) k .none;raiseNew (<- newExc (.type "StopIteration") [])) Q E s:=by
 refine qa_ (wpAny_setField hi hd hk ?_)
 refine zGn hh λe h' kp ty=>h e h' (λb u hb q=>kp b u ?_) ty
 rw[(Heap.SameBut.update s.heap it _).2 b hb];exact q
theorem zJr(hh:A.handled=none)(hb:byT w=true)(T:SetT prog w us es t)(it a:Addr)(ne:it≠a):
  WalksS prog w A it [it,a] [it] Eq es.size (λi v=>(pickOrder (w.params.setOrder a ep) es)[i]?.map (·.2)=some v)
   (λi s=>s.heap.get? it=some (itO (.int 0 0) i a es.size ep)/\s.heap.get? a=some (bK es ep t)) where
 sub:=λb hb=>by simp at hb;simp[hb]
 grefl:=λ_=>rfl
 gtrans:=λ_ _ _ x y=>x.trans y
 frame:=λi s h' tk st _ k=>⟨k it (by simp) _ st.1,k a (by simp) _ st.2⟩
 item:=λi s Q E hi st hQ=>by
  refine gX st.1 rfl (jJ (slot:=0) st.1 st.2 T.fit rfl ?_)
  have sz:(pickOrder (w.params.setOrder a ep) es).size=es.size:=by have:=(jK (w.params.setOrder a ep) es).length_eq;simpa using this
  unfold setNext
  refine qa_ (qs_ st.2 rfl T.fit ?_)
  dsimp only
  refine qa_ (dS ?_)
  rw[if_pos hb]
  simp only[bne_self_eq_false,Bool.false_eq_true,if_false]
  unfold setWalk
  refine qa_ (qa_ (qs_ st.2 rfl T.fit ?_))
  dsimp only
  refine qa_ (dS ?_)
  rw[if_pos hb]
  refine qa_ (wpAny_askSetting (qb_ ?_))
  refine qb_ ?_
  have hlt:i<(pickOrder (w.params.setOrder a ep) es).size:=by rw[sz];exact hi
  show wpAny _ _ (match Option.map (λe=>(e.2,0)) (pickOrder (w.params.setOrder a ep) es)[i]? with
   |some (x,next)=>do
    setField (.ref it) 0 (rawInt (next:Nat))
    setField (.ref it) 1 (rawInt (i+1))
    ret x
   |none=>do setField (.ref it) 2 .none;raiseNew (<- newExc (.type "StopIteration") [])) _ _ _
  rw[qP_ hlt]
  dsimp only[Option.map_some]
  refine qa_ (qX_ st.1 (by simp) λh1 g1 b1=>?_)
  refine qa_ (qX_ g1 (by simp) λh2 g2 b2=>?_)
  refine qb_ ⟨_,rfl,hQ _ _ (by rw[qP_ hlt];rfl) ⟨?_,?_⟩ ⟨?_,rfl,rfl,rfl,qe_ _⟩⟩
  ·rw[g2];rfl
  ·rw[b2.2 a ne.symm,b1.2 a ne.symm];exact st.2
  ·intro b o hb e
   have hb':b≠it:=by simpa using hb
   rw[b2.2 b hb',b1.2 b hb'];exact e
 done:=λs Q E st hQ=>by
  refine gX st.1 rfl (jJ (slot:=0) st.1 st.2 T.fit rfl ?_)
  have sz:(pickOrder (w.params.setOrder a ep) es).size=es.size:=by have:=(jK (w.params.setOrder a ep) es).length_eq;simpa using this
  unfold setNext
  refine qa_ (qs_ st.2 rfl T.fit ?_)
  dsimp only
  refine qa_ (dS ?_)
  rw[if_pos hb]
  simp only[bne_self_eq_false,Bool.false_eq_true,if_false]
  unfold setWalk
  refine qa_ (qa_ (qs_ st.2 rfl T.fit ?_))
  dsimp only
  refine qa_ (dS ?_)
  rw[if_pos hb]
  refine qa_ (wpAny_askSetting (qb_ ?_))
  refine qb_ ?_
  show wpAny _ _ (match Option.map (λe=>(e.2,0)) (pickOrder (w.params.setOrder a ep) es)[es.size]? with
   |some (x,next)=>do
    setField (.ref it) 0 (rawInt (next:Nat))
    setField (.ref it) 1 (rawInt ((es.size:Int)+1))
    ret x
   |none=>do setField (.ref it) 2 .none;raiseNew (<- newExc (.type "StopIteration") [])) _ _ _
  rw[qi2_ (show(pickOrder (w.params.setOrder a ep) es).size<=es.size by rw[sz];exact qe_ _)]
  dsimp only[Option.map_none]
  refine mX hh st.1 rfl (by simp) λe h' kp ty=>⟨ty,hQ _ ⟨λb o hb q=>kp b o (by simpa using hb) q,rfl,rfl,rfl,qe_ _⟩⟩
 self:=λi s Q E st hQ=>by
  have ht:s.TypeIs (.ref it) "set_iterator":=⟨_,st.1,rfl⟩
  refine wpAny_pyIter_slot ht gY (qJ_ gY ht nP ?_ (nQ _))
  show wpAny _ _ (ret (.ref it)) _ _ s
  exact qb_ ⟨_,rfl,"set_iterator",_,ht,st_next.lookup,hQ⟩
end
end L2
namespace L2
open PySem PySem.Spec PyProof.Rows
theorem zAu(p:Nat):SetTable.below #[p] 0=0/\SetTable.below #[p] (p+1)=1:=by
 constructor
 ·show SetTable.below.go #[p] 0 1 0 1=0
  simp[SetTable.below.go]
 ·show SetTable.below.go #[p] (p+1) 1 0 1=1
  simp[SetTable.below.go]
section
variable{prog:Program}{w:World}{A:Around}{E:Value->Shared->Prop}{s:Shared}{it a:Addr}{us:List Str}{es:Array (Int×Value)}{ep:Nat}{t:SetTable}
theorem yO{slot i:Nat}{Q:Option (Value×Nat)->Shared->Prop}(hb:byT w=false)(T:SetT prog w us es t)(h1:es.size<=1)(ho:s.heap.get? a=some (bK es ep t))
  (h:Q (match es[SetTable.below t.place slot]?,t.place[SetTable.below t.place slot]? with
  |some (_,x),some j=>some (x,j+1)
  |_,_=>none) s):wpAny (model prog w) A (setNext a slot i ep) Q E s:=by
 have ld:t.led=true:=by rw[T.ld,hb];rfl
 unfold setNext
 refine qa_ (qs_ ho rfl T.fit ?_)
 dsimp only
 refine qa_ (dS ?_)
 rw[hb]
 simp only[Bool.false_eq_true,if_false]
 show wpAny _ _ (if (!t.plain&&decide (es.size > 1))=true then _ else(do
  (if (!t.led&&!es.isEmpty)=true then unsupported "set:maker-not-led" else pure ():Sem Unit)
  pure (match es[SetTable.below t.place slot]?,t.place[SetTable.below t.place slot]? with
   |some (_,x),some j=>some (x,j+1)
   |_,_=>none))) _ _ _
 rw[if_neg (by rw[show decide (es.size > 1)=false from qH_ (by omega)];simp)]
 refine qa_ ?_
 rw[if_neg (by rw[ld];simp)]
 exact qb_ (qb_ h)
theorem zJq(hh:A.handled=none)(hb:byT w=false)(T:SetT prog w us es t)(h1:es.size<=1)(it a:Addr)(ne:it≠a):
  WalksS prog w A it [it,a] [it] Eq es.size (λi v=>es[i]?.map (·.2)=some v)
   (λi s=>s.heap.get? it=some (itO (.int ((if i=0 then 0 else t.place.getD 0 0+1:Nat):Int) 0) i a es.size ep)/\s.heap.get? a=some (bK es ep t)) where
 sub:=λb hb=>by simp at hb;simp[hb]
 grefl:=λ_=>rfl
 gtrans:=λ_ _ _ x y=>x.trans y
 frame:=λi s h' tk st _ k=>⟨k it (by simp) _ st.1,k a (by simp) _ st.2⟩
 item:=λi s Q E hi st hQ=>by
  have i0:i=0:=by omega
  subst i0
  have e1:es.size=1:=by omega
  have pz:t.place.size=1:=by have:=T.fit;simp only[SetTable.fits,Bool.and_eq_true,beq_iff_eq]at this;rw[this.1,e1]
  obtain⟨p,hp⟩:∃p,t.place=#[p]:=by
   refine⟨t.place[0],?_⟩
   apply Array.ext
   ·simp[pz]
   ·intro j h1 h2
    have:j=0:=by simp at h2;exact h2
    subst this
    simp
  refine gX st.1 rfl (jJ (slot:=0) (by simpa using st.1) st.2 T.fit rfl ?_)
  refine yO hb T h1 st.2 ?_
  rw[hp,(zAu p).1]
  have hl0:0<es.size:=by omega
  rw[qP_ hl0]
  show wpAny _ _ (do
    setField (.ref it) 0 (rawInt ((p+1:Nat):Int))
    setField (.ref it) 1 (rawInt ((0:Nat)+1:Int))
    ret es[0].2) _ _ _
  refine qa_ (qX_ st.1 (by simp) λh1 g1 b1=>?_)
  refine qa_ (qX_ g1 (by simp) λh2 g2 b2=>?_)
  refine qb_ ⟨_,rfl,hQ _ _ (by rw[qP_ hl0];rfl) ⟨?_,?_⟩ ⟨?_,rfl,rfl,rfl,qe_ _⟩⟩
  ·rw[g2,hp];rfl
  ·rw[b2.2 a ne.symm,b1.2 a ne.symm];exact st.2
  ·intro b o hb e
   have hb':b≠it:=by simpa using hb
   rw[b2.2 b hb',b1.2 b hb'];exact e
 done:=λs Q E st hQ=>by
  refine gX st.1 rfl (jJ st.1 st.2 T.fit rfl ?_)
  refine yO hb T h1 st.2 ?_
  have pz:t.place.size=es.size:=by have:=T.fit;simp only[SetTable.fits,Bool.and_eq_true,beq_iff_eq]at this;exact this.1
  have hn:es[SetTable.below t.place (if es.size=0 then 0 else t.place.getD 0 0+1)]?=none:=by
   by_cases z:es.size=0
   ·have:es=#[]:=Array.size_eq_zero_iff.mp z
    subst this
    simp
   ·rw[if_neg z]
    have e1:es.size=1:=by omega
    obtain⟨p,hp⟩:∃p,t.place=#[p]:=by
     refine⟨t.place[0]'(by omega),?_⟩
     apply Array.ext
     ·simp[pz,e1]
     ·intro j h1 h2
      have:j=0:=by simp at h2;exact h2
      subst this
      simp
    rw[hp]
    show es[SetTable.below #[p] (p+1)]?=none
    rw[(zAu p).2]
    exact qi2_ (by omega)
  rw[hn]
  dsimp only
  exact mX hh st.1 rfl (by simp) λe h' kp ty=>⟨ty,hQ _ ⟨λb o hb q=>kp b o (by simpa using hb) q,rfl,rfl,rfl,qe_ _⟩⟩
 self:=λi s Q E st hQ=>by
  have ht:s.TypeIs (.ref it) "set_iterator":=⟨_,st.1,rfl⟩
  refine wpAny_pyIter_slot ht gY (qJ_ gY ht nP ?_ (nQ _))
  show wpAny _ _ (ret (.ref it)) _ _ s
  exact qb_ ⟨_,rfl,"set_iterator",_,ht,st_next.lookup,hQ⟩
abbrev mG(ps:List Nat):Obj:={cls:=.type "tuple",data:=.seq (ps.map λ(i:Nat)=>rawInt (i:Int)).toArray}
theorem zO{i:Nat}{n:Nat}{tu:Addr}{ps:List Nat}{Q:Fin->Shared->Prop}(hi:s.heap.get? it=some (itO (.ref tu) i a n ep))(ho:s.heap.get? a=some (bK es ep t))(hu:s.heap.get? tu=some (mG ps))(hf:t.fits es.size=true)(hn:es.size=n)
  (h:match ps[i]? with
   |some pl=>∃e,es[pl]?=some e/\wpAny (model prog w) A (do
    setField (.ref it) 1 (rawInt (i+1))
    ret e.2) Q E s
   |none=>wpAny (model prog w) A (do setField (.ref it) 0 (rawInt 0);setField (.ref it) 2 .none;raiseNew (<- newExc (.type "StopIteration") [])) Q E s):
  wpAny (model prog w) A (Builtin.«set_iterator.__next__» ⟨[.ref it],[]⟩) Q E s:=by
 unfold Builtin.«set_iterator.__next__»
 refine qa_ (m:=slotArgs "__next__" 0 ⟨[.ref it],[]⟩) (qb_ ?_)
 dsimp only
 refine qa_ (wpAny_fieldsOf hi rfl ?_)
 show wpAny _ _ (setEntries a >>= _) _ _ s
 refine qa_ (mS ho hf ?_)
 rw[hn]
 simp only[bne_self_eq_false,Bool.false_eq_true,if_false]
 show wpAny _ _ (seqItems? (.ref tu) >>= _) _ _ s
 refine qa_ (wpAny_seqItems hu rfl ?_)
 dsimp only
 have e:(ps.map λ(i:Nat)=>rawInt (i:Int)).toArray[((i:Int)).toNat]?=ps[i]?.map λ(i:Nat)=>rawInt (i:Int):=by simp
 rw[e]
 cases q:ps[i]? with
 |none=>
  rw[q]at h
  exact h
 |some pl=>
  rw[q]at h
  obtain⟨en,he,h⟩:=h
  show wpAny _ _ (setNextDrawn a ((pl:Int)).toNat ((ep:Int)).toNat >>= _) _ _ s
  unfold setNextDrawn
  refine qa_ (qa_ (qs_ ho rfl hf ?_))
  dsimp only
  rw[show((ep:Int)).toNat=ep by simp,show((pl:Int)).toNat=pl by simp]
  simp only[bne_self_eq_false,Bool.false_eq_true,if_false]
  rw[he]
  exact qb_ h
theorem zJp(hh:A.handled=none)(T:SetT prog w us es t)(it a tu:Addr)(ne:it≠a)(nu:it≠tu)(ps:List Nat)(hp:ps.Perm (List.range es.size)):
  WalksS prog w A it [it,a,tu] [it] Eq es.size (λi v=>∃pl e,ps[i]?=some pl/\es[pl]?=some e/\v=e.2)
   (λi s=>s.heap.get? it=some (itO (.ref tu) i a es.size ep)/\s.heap.get? a=some (bK es ep t)/\s.heap.get? tu=some (mG ps)) where
 sub:=λb hb=>by simp at hb;simp[hb]
 grefl:=λ_=>rfl
 gtrans:=λ_ _ _ x y=>x.trans y
 frame:=λi s h' tk st _ k=>⟨k it (by simp) _ st.1,k a (by simp) _ st.2.1,k tu (by simp) _ st.2.2⟩
 item:=λi s Q E hi st hQ=>by
  have pl:ps.length=es.size:=by rw[hp.length_eq,qj2_]
  have hlt:i<ps.length:=by omega
  have hm:ps[i]<es.size:=by have:=hp.mem_iff.mp (qL1_ hlt);simpa using this
  refine gX st.1 rfl (zO st.1 st.2.1 st.2.2 T.fit rfl ?_)
  rw[qk_ hlt]
  refine⟨es[ps[i]],qP_ hm,?_⟩
  refine qa_ (qX_ st.1 (by simp) λh1 g1 b1=>?_)
  refine qb_ ⟨_,rfl,hQ _ _ ⟨_,_,qk_ hlt,qP_ hm,rfl⟩ ⟨?_,?_,?_⟩ ⟨?_,rfl,rfl,rfl,qe_ _⟩⟩
  ·rw[g1];rfl
  ·rw[b1.2 a ne.symm];exact st.2.1
  ·rw[b1.2 tu nu.symm];exact st.2.2
  ·intro b o hb e
   have hb':b≠it:=by simpa using hb
   rw[b1.2 b hb'];exact e
 done:=λs Q E st hQ=>by
  have pl:ps.length=es.size:=by rw[hp.length_eq,qj2_]
  refine gX st.1 rfl (zO st.1 st.2.1 st.2.2 T.fit rfl ?_)
  rw[qT1_ (by omega)]
  refine qa_ (qX_ st.1 (by simp) λh1 g1 b1=>?_)
  refine mX hh g1 rfl (by simp) λe h' kp ty=>⟨ty,hQ _ ⟨λb o hb q=>kp b o (by simpa using hb) ?_,rfl,rfl,rfl,qe_ _⟩⟩
  have hb':b≠it:=by simpa using hb
  show h1.get? b=some o
  rw[b1.2 b hb'];exact q
 self:=λi s Q E st hQ=>by
  have ht:s.TypeIs (.ref it) "set_iterator":=⟨_,st.1,rfl⟩
  refine wpAny_pyIter_slot ht gY (qJ_ gY ht nP ?_ (nQ _))
  show wpAny _ _ (ret (.ref it)) _ _ s
  exact qb_ ⟨_,rfl,"set_iterator",_,ht,st_next.lookup,hQ⟩
end
end L2
namespace L2
open PySem PySem.Spec PyProof.Rows
def zDf(P:Nat->Value->Prop)(us:List Str):Prop:=∀acc:Array Value,ItemsOf P acc us.length->∃vs,StrsAre acc.toList vs/\vs.Perm us
theorem vF{P:Nat->Value->Prop}{us:List Str}{out:List Value}{vs:List Str}(hl:out.length=us.length)(h:∀i v,P i v->out[i]?=some v)(hs:StrsAre out vs)(hp:vs.Perm us):zDf P us:=λacc ⟨h1,h2⟩=>by
 have e:acc.toList=out:=by
  apply qK2_
  intro i
  by_cases hi:i<acc.size
  ·rw[h i acc[i] (h2 i _ (qP_ hi)),qr_,qP_ hi]
  ·rw[qr_,qi2_ (by omega),qT1_ (by omega)]
 rw[e]
 exact⟨vs,hs,hp⟩
section
variable{prog:Program}{w:World}{A:Around}{E:Value->Shared->Prop}{s:Shared}{a:Addr}{us:List Str}
theorem zDV{Q:Value->Shared->Prop}(S:SetS prog w a us s.heap)
  (h:∀(it:Addr) (fp:List Addr) (P:Nat->Value->Prop) (St:Nat->Shared->Prop) (h':Heap) (d:Drawn),(∀A':Around,A'.handled=none->∃n,n=us.length/\WalksS prog w A' it fp [it] Eq n P St)->St 0 {s with heap:=h',drawn:=d}->zDf P us ->
   (∀b∈fp,b=a\/s.heap.objs.size<=b)->s.heap.objs.size<=it->(∀b o,s.heap.get? b=some o->h'.get? b=some o)->Q (.ref it) {s with heap:=h',drawn:=d}):
  wpAny (model prog w) A (pyIter (.ref a)) Q E s:=by
 obtain⟨es,ep,t,ho,T⟩:=id S
 have alt:a<s.heap.objs.size:=qf_ ho
 have ht:s.TypeIs (.ref a) "set":=⟨_,ho,rfl⟩
 have sz:=T.size
 obtain⟨vs,hv,pv⟩:=T.tx
 refine wpAny_pyIter_slot ht qN (qJ_ qN ht zBZ ?_ (zB3 _))
 unfold Builtin.«frozenset.__iter__» Builtin.Frozenset.slot0
 refine qa_ (qa_ (m:=slotArgs "__iter__" 0 ⟨[.ref a],[]⟩) (qb_ ?_))
 show wpAny _ _ (pure a) _ _ s
 refine qb_ ?_
 unfold Builtin.Frozenset.sizeOf
 refine qa_ (qa_ (mS ho T.fit (qb_ ?_)))
 unfold setDrawn
 refine qa_ (qa_ (qs_ ho rfl T.fit ?_))
 dsimp only
 refine qa_ (dS (qb_ ?_))
 show wpAny _ _ (if (!byT w&&(!t.plain&&decide (es.size > 1)))=true then _ else _) _ _ s
 have fin:∀(first:Value) (h1:Heap) (d:Drawn) (St:Nat->Shared->Prop),(∀b o,s.heap.get? b=some o->h1.get? b=some o)->s.heap.objs.size<=h1.objs.size ->
   (∀s2:Shared,s2.heap.get? h1.objs.size=some (itO first 0 a es.size ep)->(∀b o,h1.get? b=some o->s2.heap.get? b=some o) ->
    Q (.ref h1.objs.size) {s with heap:=h1.push (itO first 0 a es.size ep),drawn:=d})->wpAny (model prog w) A.in1 (do
   ret (<- newFields "set_iterator" [first,rawInt 0,.ref a,rawInt es.size,rawInt (<- setEpoch a)])) (λfin s'=>∃v,fin=.done (.ret v)/\∃T' r,s'.TypeIs v T'/\typeLookup (.type T') "__next__"=pure (some r)/\Q v s') E {s with heap:=h1,drawn:=d}:=by
  intro first h1 d St k le q
  refine qa_ (wpAny_setEpoch_of (k a _ ho) rfl T.fit ?_)
  refine qa_ (qR_ ?_ (by size_fits))
  exact qb_ ⟨_,rfl,"set_iterator",_,⟨_,qj_ _ rfl,rfl⟩,st_next.lookup,q {s with heap:=h1.push (itO first 0 a es.size ep)} (qj_ _ rfl) λb o e=>qd_ _ e⟩
 cases hb:byT w with
 |true=>
  rw[if_neg (by simp)]
  refine qa_ (qb_ ?_)
  have e:s={s with heap:=s.heap,drawn:=s.drawn}:=by cases s;rfl
  have hp:=jK (w.params.setOrder a ep) es
  obtain⟨vs',hv',pv'⟩:=lA (hp.map (·.2)) hv
  have nea:s.heap.objs.size≠a:=qE_ alt
  refine fin (.int 0 0) s.heap s.drawn (λ_ _=>True) (λ_ _ e=>e) (qe_ _) λs2 g k=>?_
  refine h s.heap.objs.size [s.heap.objs.size,a] _ _ _ _ (λA' hA=>⟨es.size,sz,zJr (ep:=ep) hA hb T _ a nea⟩) ⟨qj_ _ rfl,qd_ _ ho⟩ ?_ (λb m=>?_) (qe_ _) λb o e=>qd_ _ e
  ·refine vF (out:=(pickOrder (w.params.setOrder a ep) es).toList.map (·.2)) (vs:=vs') (by rw[qc_,hp.length_eq,qt_,sz]) (λi v q=>?_) hv' (pv'.trans pv)
   rw[qv_,qr_]
   exact q
  ·simp only[List.mem_cons,List.not_mem_nil,or_false]at m
   rcases m with m|m
   ·exact .inr (by rw[m];exact qe_ _)
   ·exact .inl m
 |false=>
  by_cases h1:es.size<=1
  ·rw[if_neg (by simp[show ¬ es.size > 1 by omega])]
   refine qa_ (qb_ ?_)
   have nea:s.heap.objs.size≠a:=qE_ alt
   refine fin (.int 0 0) s.heap s.drawn (λ_ _=>True) (λ_ _ e=>e) (qe_ _) λs2 g k=>?_
   refine h s.heap.objs.size [s.heap.objs.size,a] _ _ _ _ (λA' hA=>⟨es.size,sz,zJq (ep:=ep) hA hb T h1 _ a nea⟩) ⟨qj_ _ rfl,qd_ _ ho⟩ ?_ (λb m=>?_) (qe_ _) λb o e=>qd_ _ e
   ·refine vF (out:=es.toList.map (·.2)) (vs:=vs) (by rw[qc_,qt_,sz]) (λi v q=>?_) hv pv
    rw[qv_,qr_]
    exact q
   ·simp only[List.mem_cons,List.not_mem_nil,or_false]at m
    rcases m with m|m
    ·exact .inr (by rw[m];exact qe_ _)
    ·exact .inl m
  ·have np:t.plain=false:=T.pl.resolve_left (by omega)
   rw[if_pos (by simp[np];omega)]
   refine qa_ (tI es.size (List.range es.size) s (by simp) λps d hp=>?_)
   refine qa_ (wpAny_newTuple ?_ (by rw[qc_,hp.length_eq,qj2_];exact fits_of_scanBound T.lt))
   have nea:s.heap.objs.size≠a:=qE_ alt
   have e2:(s.heap.push (mG ps)).objs.size=s.heap.objs.size+1:=qx_ ..
   refine fin (.ref s.heap.objs.size) (s.heap.push (mG ps)) d (λ_ _=>True) (λ_ _ e=>qd_ _ e) (by rw[e2];omega) λs2 g k=>?_
   refine h (s.heap.push (mG ps)).objs.size [(s.heap.push (mG ps)).objs.size,a,s.heap.objs.size] _ _ _ _ (λA' hA=>⟨es.size,sz,zJp (ep:=ep) hA T _ a s.heap.objs.size (by rw[e2];exact qE_ (qk1_ alt)) (by rw[e2];exact qE_ (qk2_ _)) ps hp⟩) ⟨qj_ _ rfl,qd_ _ (qd_ _ ho),qd_ _ (qj_ _ rfl)⟩ ?_ (λb m=>?_) (by rw[e2];omega) λb o e=>qd_ _ (qd_ _ e)
   ·have hfm:(ps.filterMap λp=>es[p]?).Perm es.toList:=(hp.filterMap _).trans (by rw[filterMap_getElem?_range])
    obtain⟨vs',hv',pv'⟩:=lA (hfm.map (·.2)) hv
    have hmm:∀p∈ps,p<es.size:=λp m=>by have:=hp.mem_iff.mp m;simpa using this
    have hall:∀(l:List Nat),(∀p∈l,p<es.size)->∀i:Nat,(l.filterMap λp=>es[p]?)[i]?=(l[i]?).bind λp=>es[p]?:=by
     intro l
     induction l with
     |nil=>intro _ i;simp
     |cons x l ih=>
      intro hx i
      have hx0:=hx x (by simp)
      rw[qK_,qP_ hx0]
      cases i with
      |zero=>simp[hx0]
      |succ i=>simp only[List.getElem?_cons_succ];exact ih (λp m=>hx p (qb1_ _ m)) i
    refine vF (out:=(ps.filterMap λp=>es[p]?).map (·.2)) (vs:=vs') (by rw[qc_,hfm.length_eq,qt_,sz]) (λi v ⟨pl,e,q1,q2,q3⟩=>?_) hv' (pv'.trans pv)
    rw[qv_,hall ps hmm,q1]
    simp[q2,q3]
   ·simp only[List.mem_cons,List.not_mem_nil,or_false]at m
    rcases m with m|m|m
    ·exact .inr (by rw[m,e2];omega)
    ·exact .inl m
    ·exact .inr (by rw[m];exact qe_ _)
end
end L2
namespace L2
open PySem PySem.Spec PyProof.Rows
theorem st_len:Slot "set" "__len__" "set.__len__":=
 Slot.of (owner:="set") (n:="__len__") (by rw[typeLookup_type,builtinLookup_eq_fast];kernel_rfl) (by decide +kernel) (by decide +kernel) (by decide +kernel) (by first|exact .inl (by decide +kernel)|exact .inr (by decide +kernel)) (by rw[isSubtype_type];kernel_rfl)
theorem nV:isSubtype (.type "set") (.type "set")=pure true:=by rw[isSubtype_type];kernel_rfl
section
variable{prog:Program}{w:World}{A:Around}{E:Value->Shared->Prop}{s:Shared}{a:Addr}{us:List Str}
theorem zBe{Q:Bool->Shared->Prop}(ht:s.TypeIs (.ref a) "set")(h:Q false s):wpAny (model prog w) A (Builtin.List.listLengthHint (.ref a)) Q E s:=by
 unfold Builtin.List.listLengthHint
 refine qa_ (wpAny_specialOf ht st_len.lookup ?_)
 have e1:splitId "set.__len__"=some ("set","__len__"):=by decide +kernel
 dsimp only
 rw[e1]
 dsimp only
 refine qa_ (wpAny_isInstance ht nV ?_)
 simp only[Bool.not_true,Bool.false_eq_true,if_false]
 refine wpAny_ite ?_
 rw[if_pos (by decide +kernel)]
 refine qa_ (wpAny_typeOf ht ?_)
 exact qb_ h
end
end L2
namespace L2
open PySem PySem.Spec PyProof.Rows
section
variable{prog:Program}{w:World}{A:Around}{E:Value->Shared->Prop}{s:Shared}{a:Addr}{us:List Str}
theorem zDr{Q:List Value->Shared->Prop}(hh:A.handled=none)(S:SetS prog w a us s.heap)
  (hQ:∀h' d tk (acc:List Value) vs,StrsAre acc vs->vs.Perm us->s.heap.objs.size<h'.objs.size->(∀b o,s.heap.get? b=some o->h'.get? b=some o)->Q acc {s with heap:=h',drawn:=d,toks:=tk}):
  wpAny (model prog w) A (collect (.ref a)) Q E s:=by
 have hl:us.length<=sizeLine:=by
  obtain⟨es,ep,t,ho,T⟩:=id S
  rw[<-T.size];exact fits_of_scanBound T.lt
 have alt:a<s.heap.objs.size:=by
  obtain⟨es,ep,t,ho,T⟩:=id S
  exact qf_ ho
 unfold collect
 refine qa_ (wpAny_runValue (qY_ F.entry_proto_collect ?_))
 rw[qh1_ F.plain_proto_collect _]
 show wpAny _ A.in1 (newList [] >>= λl=>again (.builtin "list.__iadd__" ⟨[l,.ref a],[]⟩)) _ _ s
 refine qa_ (qR_ ?_ (by size_fits))
 refine qb_ ⟨plainId_quiet F.plain_list_iadd _,qY_ F.entry_list_iadd ?_⟩
 rw[qh1_ F.plain_list_iadd _]
 show wpAny _ A.in1 (Builtin.List.listExtendWith (.ref s.heap.objs.size) (.ref a) (.ref s.heap.objs.size)) _ _ _
 unfold Builtin.List.listExtendWith
 have S1:SetS prog w a us (s.heap.push {cls:=.type "list",data:=.seq ([]:List Value).toArray}):=by
  obtain⟨es,ep,t,ho,T⟩:=id S
  exact⟨es,ep,t,qd_ _ ho,T⟩
 have ht:Shared.TypeIs {s with heap:=s.heap.push {cls:=.type "list",data:=.seq ([]:List Value).toArray}} (.ref a) "set":=by
  obtain⟨es,ep,t,ho,T⟩:=id S1
  exact⟨_,ho,rfl⟩
 refine qa_ (wpAny_typeOf ht ?_)
 have h1:Builtin.List.listSameRef (.ref s.heap.objs.size) (.ref a)=false:=by simp[Builtin.List.listSameRef];exact qE_ alt
 have h2:(Value.type "set"==Value.type "list")=false:=by decide
 have h3:(Value.type "set"==Value.type "tuple")=false:=by decide
 simp only[h1,h2,h3,Bool.or_false,Bool.false_eq_true,if_false]
 refine qa_ (zDV S1 λit fp P St h' d W st0 td hfp hit kp=>?_)
 have ht':Shared.TypeIs {s with heap:=h',drawn:=d} (.ref a) "set":=by
  obtain⟨o,e,c⟩:=ht
  exact⟨o,kp _ _ e,c⟩
 refine qa_ (qC_ (zBe ht' ?_))
 have hA:A.in1.in1.handled=none:=by simp[hh]
 obtain⟨n,hn,W⟩:=W A.in1 (by simp[hh])
 subst hn
 refine wpAny_ite ?_
 rw[if_pos (by decide +kernel)]
 refine qa_ (wpAny_rule ?_)
 have sz1:(s.heap.push {cls:=.type "list",data:=.seq ([]:List Value).toArray}).objs.size=s.heap.objs.size+1:=qx_ ..
 have g0:h'.get? s.heap.objs.size=some {cls:=.type "list",data:=.seq ([]:List Value).toArray}:=kp _ _ (qj_ _ rfl)
 have nf:s.heap.objs.size∉fp:=λm=>by
  rcases hfp _ m with z|z
  ·exact absurd z (qE_ alt)
  ·rw[sz1]at z;omega
 refine qa_ ?_
 show wpAny _ A.in1 (updateSeq s.heap.objs.size (·.push .none) >>= λ_=>updateSeq s.heap.objs.size (·.pop)) _ _ _
 refine qa_ (wpAny_updateSeq g0 rfl ?_)
 have g1:=qU_ (Obj.mapSeq (·.push Value.none)) g0 rfl
 refine wpAny_updateSeq g1 rfl ?_
 have g2:=qU_ (Obj.mapSeq (·.pop)) g1 rfl
 have oth:∀b o,b≠s.heap.objs.size->h'.get? b=some o->((h'.update s.heap.objs.size (Obj.mapSeq (·.push Value.none))).update s.heap.objs.size (Obj.mapSeq (·.pop))).get? b=some o:=
  λb o hb e=>(qJ1_ _ _ (Ne.symm hb)).trans ((qJ1_ _ _ (Ne.symm hb)).trans e)
 refine qb_ ⟨plainId_quiet F.plain_extend_loop _,codeAny_extend_loopS W hl _ nf _ us.length 0 _ _ _ rfl (qu_ _)
  (W.frame 0 {s with heap:=h',drawn:=d} _ s.toks st0 (qe_ _) λb hb o e=>oth b o (λz=>nf (z▸hb)) e) g2 (ItemsOf.nil P) λs' acc' c' hm g' hacc=>?_⟩
 show wpAny _ A (load s.heap.objs.size >>= _) _ _ s'
 refine qa_ (wpAny_load g' ?_)
 obtain⟨vs,hs,hp⟩:=td acc' hacc
 obtain⟨h'',g'',d'',tk'',os''⟩:=s'
 have e1:g''=s.gens:=hm.gens.symm
 have e2:os''=s.os:=hm.os
 subst e1 e2
 refine qb_ (hQ h'' d'' tk'' acc'.toList vs hs hp (qf_ g') λb o e=>hm.heap b o (λm=>?_) (oth b o (qm_ (qf_ e)) (kp b o (qd_ _ e))))
 have lt:=qf_ e
 simp only[List.mem_cons,List.not_mem_nil,or_false]at m
 rcases m with m|m
 ·rw[m]at lt;exact qf1_ _ lt
 ·rw[m]at lt;rw[sz1]at hit;exact absurd lt (qh2_.mpr (Nat.le_of_succ_le hit))
end
end L2
namespace L2
open PySem PySem.Spec PyProof.Rows
section
variable{prog:Program}{w:World}{A:Around}{E:Value->Shared->Prop}{s:Shared}{a:Addr}{us:List Str}
theorem zDy{Q:Value->Shared->Prop}(hh:A.handled=none)(S:SetS prog w a us s.heap)(h64:us.length<64)
  (h:∀h' d tk (l:Addr) (out:List Value) (ss:List Str) (e:Nat),StrsAre out ss->ss.Perm us->sortedS ss=true->h'.get? l=some (seqObj "list" out.toArray e)->s.heap.objs.size<=l->(∀b o,s.heap.get? b=some o->h'.get? b=some o) ->
   Q (.ref l) {s with heap:=h',drawn:=d,toks:=tk}):wpAny (model prog w) A (call (.builtin "sorted") [.ref a]) Q E s:=by
 refine Calls.call_function_entry kind_sorted plain_sorted entry_sorted (args_sorted1 _) ?_
 unfold Builtin.«sorted»
 refine qa_ (m:=checkCount "sorted" 1 1 _) (qb_ ?_)
 refine qa_ (zDr (by simp[hh]) S λh1 d tk acc vs hs hp le kp=>?_)
 have hlen:acc.length<64:=by rw[gV hs,hp.length_eq];exact h64
 refine qa_ (wpAny_newList ?_ (qZ_ (qq1_ hlen (by decide))))
 have hoL:(h1.push (seqObj "list" acc.toArray 0)).get? h1.objs.size=some (seqObj "list" acc.toArray 0):=qj_ _ rfl
 refine qa_ (qC_ (qJ_ slot_list_sort ⟨_,hoL,rfl⟩ entry_list_sort (list_sort_treeK strKind_oneLt hoL hs.keysOf (λv₁ v₂ rest e=>keyKind_strs (by rw[<-e];exact hs)) hlen λst' a1 a2=>⟨_,rfl,?_⟩) (args_list_sort _)))
 obtain⟨ss',b1,b2,b3⟩:=sorted_out_str hs a1 a2
 obtain⟨e,he⟩:=sortedHeap_at (out:=(arrOf st').map (·.2)) hoL
 refine qb_ ⟨_,rfl,h _ _ _ _ ((arrOf st').map (·.2)).toList ss' e b1 (b2.trans hp) b3 (by rw[qz2_];exact he) (qZ_ le) λb o q=>?_⟩
 have lt:=qf_ (kp b o q)
 rw[sortedHeap_old (qm_ lt) (by rw[qx_];exact qk1_ lt)]
 exact qd_ _ (kp b o q)
end
end L2
namespace L2
open PySem PySem.Spec PyProof.Rows
def eW(val:Nat->Str)(i:Nat):List Str:=((List.range i).map val).foldl cV []
theorem zAc(val:Nat->Str)(i:Nat):eW val (i+1)=cV (eW val i) (val i):=by
 unfold eW
 rw[List.range_succ,qG_,qL2_]
 rfl
theorem zBh(us:List Str)(x y:Str):y∈cV us x↔y∈us\/y=x:=by
 unfold cV
 split
 ·exact⟨.inl,λh=>h.elim id λe=>by subst e;assumption⟩
 ·simp
theorem zHI{us:List Str}(h:us.Nodup)(x:Str):(cV us x).Nodup:=by
 unfold cV
 split
 ·exact h
 ·rename_i n
  rw[qy2_]
  exact⟨h,by simp,λa ha b hb e=>n (by rw[<-show b=x by simpa using hb,<-e];exact ha)⟩
def aG(ss:List Str):List Str:=ss.foldl cV []
theorem zAo:∀(ss us:List Str) (y:Str),y∈ss.foldl cV us↔y∈us\/y∈ss
 |[],us,y=>by simp
 |x::ss,us,y=>by rw[qw1_,zAo ss,zBh,qy_,or_assoc]
theorem zA2:∀(ss us:List Str),us.Nodup->(ss.foldl cV us).Nodup
 |[],us,h=>h
 |x::ss,us,h=>zA2 ss _ (zHI h x)
theorem cM(ss:List Str)(y:Str):y∈aG ss↔y∈ss:=by rw[aG,zAo];simp
theorem cZ(ss:List Str):(aG ss).Nodup:=zA2 ss [] qN1_
theorem uV{val:Nat->Str}{ss:List Str}(h:∀i (hi:i<ss.length),val i=ss[i]):eW val ss.length=aG ss:=by
 unfold eW aG
 congr 1
 apply List.ext_getElem
 ·simp
 ·intro i h1 h2
  simp[h i h2]
section
variable{prog:Program}{w:World}{A:Around}{R:Result->Shared->Prop}{I:Addr}{fp wr:List Addr}{G:Array GenState->Array GenState->Prop}{n:Nat}{P:Nat->Value->Prop}{St:Nat->Shared->Prop}
theorem SetS.kept{a:Addr}{us:List Str}{h h':Heap}(S:SetS prog w a us h)(k:∀o,h.get? a=some o->h'.get? a=some o):SetS prog w a us h':=by
 obtain⟨es,ep,t,ho,T⟩:=S
 exact⟨es,ep,t,k _ ho,T⟩
end
section
variable{prog:Program}{w:World}{A:Around}{E:Value->Shared->Prop}{s:Shared}
theorem tM(a:Value){Q₁:Value->Shared->Prop}(h:Q₁ (.ref s.heap.objs.size) {s with heap:=s.heap.push (bK #[] 0 (.fresh 0 0 (!byT w)))}):
  codeAny (model prog w) A (.call (.builtin "set.__new__") ⟨[.type "set",a],[]⟩) (wants Q₁ E) s:=by
 refine codeAny_of_tree ?_
 show wpAny _ A.in1 (do checkBuiltinCall "set.__new__" ⟨[.type "set",a],[]⟩;again (.builtin "set.__new__" ⟨[.type "set",a],[]⟩)) _ _ s
 refine qa_ (wpAny_of_eq (F.newCall_set_1 a) (qb_ ⟨plainId_quiet F.plain_set_new _,qY_ F.entry_set_new ?_⟩))
 rw[qh1_ F.plain_set_new _]
 unfold Builtin.«set.__new__» Builtin.Frozenset.newClass
 have hsub:=nV
 obtain⟨hp,g,d,tk,os⟩:=s
 dsimp only
 wp_walk
 refine wpAny_askSetting (qb_ ?_)
 dsimp only
 simp only[newObj]
 refine qa_ (wpAny_alloc (qb_ ?_))
 exact qb_ h
end
end L2
namespace L2
open PySem PySem.Spec PyProof.Rows
theorem gG:∀{vs:List Value}{ss:List Str},StrsAre vs ss->∀(i:Nat) (v:Value),vs[i]?=some v->∃t,v=.str (ss.getD i ⟨#[]⟩) t
 |_,_,.nil,i,v,h=>by simp at h
 |_,_,.cons y t hr,0,v,h=>by
  simp at h
  exact⟨t,by rw[<-h];rfl⟩
 |_,_,.cons y t hr,i+1,v,h=>by
  simp only[List.getElem?_cons_succ]at h
  obtain⟨u,e⟩:=gG hr i v h
  exact⟨u,by rw[e];rfl⟩
end L2
namespace L2
open PySem PySem.Spec PyProof.Rows
theorem boot_set:bootBuiltins "set"=some (.type "set"):=by decide +kernel
def dQ(P:Program)(w:World)(a:Addr)(us:List Str):HO:=.ext (SetS P w a us)
section
variable{X:Cx}
theorem Inv.draw{pins:List (Addr×Obj)}{σ:St}{H:Hp}{s:Shared}(I:Inv X pins σ H s)(d:Drawn):Inv X pins σ H {s with drawn:=d}:=
 ⟨I.ok,I.os,I.bare,I.base,I.loc,I.cell,I.free,I.freeC,I.pin,I.hok,I.len⟩
def zIh(P:Program)(w:World):List V->Hp->VK->Prop:=λxs H Q=>∃(a:Addr) (us:List Str),xs=[.ref a]/\H a=some (dQ P w a us)/\us.length<64 /\
  ∀(ss:List Str) (l:Addr),ss.Perm us->sortedS ss=true->H l=none->Q (.ref l) (upd H l (.lst (ss.map V.str)))
theorem yL(hc:X.calm=true):CallR X (.builtin "sorted") (zIh X.prog X.w):=by
 intro pins s σ H xs us Q I r h
 obtain⟨a,uu,rfl,hq,h64,q⟩:=h
 obtain⟨u,rfl,rx⟩:=cQ r
 cases rx
 have S:SetS X.prog X.w a uu s.heap:=(I.hok a _ hq).1
 refine zDy (I.ok.hd hc) S h64 λh' d tk l out ss e hs hp hso hl le k=>?_
 refine⟨.ref l,_,(I.laid (t':=tk) (o:=.lst (ss.map V.str)) k le ?_).draw d,rfl,q ss l hp hso (I.hok.fresh le)⟩
 refine⟨?_,out,e,pH hs,hl⟩
 rw[qc_,hp.length_eq]
 exact qZ_ (qq1_ h64 (by decide))
def mM(x:Str)(n:Int):Str:=⟨(List.replicate n.toNat x.cps.toList).flatten.toArray⟩
def zJN:R2:=λx y H Q=>∃(z:Str) (n:Int),x=.str z/\y=.int n/\z.length<=1000/\n<=1000 /\ -1000<=n/\Q (.str (mM z n)) H
theorem uY(x:Array Nat):∀n (acc:Array Nat),((List.replicate n x).foldl (·++·) acc)=(acc.toList++(List.replicate n x.toList).flatten).toArray
 |0,acc=>by simp
 |n+1,acc=>by
  rw[qn1_,qw1_,uY x n,qn1_,qo1_]
  simp
theorem zHd:OpR X (binaryOp .Mult) zJN:=by
 intro pins s σ H x y v u Q I rx ry h
 obtain⟨z,n,rfl,rfl,hz,n1,n0,q⟩:=h
 obtain⟨t,rfl⟩:=rx
 obtain⟨t',rfl⟩:=ry
 have fin:∀(w:Str) (k:Tok) (tk:Nat),w=mM z n->EP X pins σ Q (.str w k) {s with toks:=tk}:=λw k tk e=>⟨.str w,H,I.tok tk,⟨k,rfl⟩,by rw[e];exact q⟩
 have pos:∀m:Nat,m<=1000->z.length*m<=1000000:=λm hm=>Nat.mul_le_mul hz hm
 refine P.mul_str (by rw[qH_ (by omega),qH_ (by omega)];rfl) (λh1 _ h2=>?_) (λh1 _=>?_) ?_
 ·have:(2 ^ 63-1) / n>=1000:=by
   have h3:n<=1000:=n1
   have h4:0<n:=by omega
   rw[ge_iff_le,Int.le_ediv_iff_mul_le h4]
   omega
  omega
 ·show decide (_ > sizeLine)=false
  refine qH_ (qh2_.mpr (qi_ (pos n.toNat (by omega)) (by decide)))
 ·split
  ·refine⟨by decide,fin _ _ _ ?_⟩
   unfold mM
   rw[show n.toNat=0 by omega]
   rfl
  ·split
   ·rename_i h1 h2
    refine fin _ _ s.toks ?_
    rw[Bool.or_eq_true]at h2
    unfold mM
    rcases h2 with h3|h3
    ·have:n=1:=by simpa using h3
     rw[this]
     simp
    ·have hz0:z.cps=#[]:=by
      have:z.cps.size=0:=by simpa[Str.length]using h3
      exact Array.size_eq_zero_iff.mp this
     have e:∀m:Nat,(List.replicate m ([]:List Nat)).flatten=[]:=λm=>by
      induction m with
      |zero=>rfl
      |succ m ih=>rw[qn1_,qo1_,ih];rfl
     obtain⟨zc⟩:=z
     have hz0:zc=#[]:=hz0
     subst hz0
     show(⟨#[]⟩:Str)=⟨(List.replicate n.toNat ([]:List Nat)).flatten.toArray⟩
     rw[e]
   ·refine⟨?_,fin _ _ _ ?_⟩
    ·show(List.foldl (λx1 x2=>x1++x2) #[] (List.replicate n.toNat z.cps)).size<=_
     rw[uY,qo_,qh_,qW]
     show 0+n.toNat*z.cps.toList.length<=_
     have:=pos n.toNat (by omega)
     rw[qx1_]at this
     have e:z.cps.toList.length=z.length:=by simp[Str.length]
     rw[e]
     exact qi_ (by omega) (show 1000000<=sizeLine by decide)
    ·unfold mM
     rw[uY]
     simp
def zKM(K:W.Frag):V->Option Int->Option Int->Hp->VK->Prop:=λx lo hi H Q=>∃a xs,x=.ref a/\SqT K H a xs/\∀p H',Same H H'->SqT K H' p (gB xs lo hi)->Q (.ref p) H'
theorem zDw{prog:Program}{w:World}{A:Around}{E:Value->Shared->Prop}{s:Shared}{t sl:Addr}{items:Array Value}{vl vu:Value}{lo hi:Option Int}{Q:Value->Shared->Prop}(ht:IsTup s.heap t items)(hs:s.heap.IsSliceOf sl vl vu .none)(pl:IsPart vl lo)(pu:IsPart vu hi)
  (hw:HT.sIx items.size 0 lo=0/\HT.sIx items.size items.size hi=items.size) (h:Q (.ref t) s):wpAny (model prog w) A (getItem (.ref t) (.ref sl)) Q E s:=by
 obtain⟨os,hos,hcs,hds⟩:=id hs
 have hTs:s.TypeIs (.ref sl) "slice":=⟨os,hos,hcs⟩
 unfold getItem
 try with_reducible refine qC_ ?_
 first|refine qa_ (qb_ ?_)|skip
 refine qa_ (wpAny_sequenceKey ht.typeIs (by decide) ?_)
 refine qa_ (wpAny_callSpecial?_slot (name:=Str.ofString "__getitem__") ht.typeIs PyProof.Rows.slot_tuple_getitem (qJ_ PyProof.Rows.slot_tuple_getitem ht.typeIs entry_tuple_getitem ?_ (args_tuple_getitem _ _)))
 show wpAny _ _ (Builtin.Tuple.tupleItemsOf (.ref t) >>= _) _ _ s
 refine qa_ (tupleItemsOf_ ht (qa_ (wpAny_typeOf hTs ?_)))
 rw[if_pos (by decide)]
 refine qa_ (HT.sliceApplied_gen hs pl pu ?_)
 rw[hw.1,hw.2]
 dsimp only
 rw[if_pos (by simp)]
 unfold Builtin.Tuple.tupleIsExact
 refine qa_ (qa_ (wpAny_typeOf ht.typeIs (qb_ ?_)))
 rw[if_pos (by decide)]
 exact qa_ (wpAny_rule (qb_ ⟨_,rfl,qb_ h⟩))
theorem zHx{xs:List V}{lo hi:Option Int}(hw:HT.sIx xs.length 0 lo=0/\HT.sIx xs.length xs.length hi=xs.length):gB xs lo hi=xs:=by
 unfold gB
 rw[hw.1,hw.2,ql2_,Nat.sub_zero,qd1_]
theorem sl_tupW:SlR X (zKM X.K):=by
 intro pins s σ H x v vl vu lo hi sl Q I rx hs pl pu h
 obtain⟨a,xs,rfl,hx,q⟩:=h
 by_cases hw:HT.sIx xs.length 0 lo=0/\HT.sIx xs.length xs.length hi=xs.length
 ·cases rx
  obtain⟨its,r,ht,hz⟩:=I.tuple hx
  have hlen:its.toArray.size=xs.length:=by rw[qo_];exact r.length.symm
  refine⟨"tuple",_,PyProof.Rows.slot_tuple_getitem.lookup,ht.typeIs,?_⟩
  exact zDw ht hs pl pu (by rw[hlen];exact hw) ⟨.ref a,H,I,rfl,q a H (λ_ _ e=>e) (by rw[zHx hw];exact hx)⟩
 ·exact zH8 pins s σ H _ v vl vu lo hi sl Q I rx hs pl pu ⟨a,xs,rfl,hx,hw,λp np=>q p _ (λb o e=>by rw[bL (dR e np)];exact e) (SqT.of aZ)⟩
end
end L2
namespace L2
open PySem PySem.Spec PyProof.Rows
theorem vT(f:Nat->List Nat):∀n,argBest (λi j=>decide (f i<f j)) n<=n/\∀j,j<=n->f (argBest (λi j=>decide (f i<f j)) n)<=f j
 |0=>⟨qe_ _,λj hj=>by rw[Nat.le_zero.mp hj];exact qM2_ _⟩
 |n+1=>by
  obtain⟨h1,h2⟩:=vT f n
  show(if decide (f (n+1)<f (argBest _ n))=true then n+1 else argBest _ n)<=n+1/\∀j,j<=n+1->f (if decide (f (n+1)<f (argBest _ n))=true then n+1 else argBest _ n)<=f j
  by_cases h:f (n+1)<f (argBest (λi j=>decide (f i<f j)) n)
  ·rw[if_pos (qS_ h)]
   refine⟨qe_ _,λj hj=>?_⟩
   rcases qA2_ hj with z|z
   ·exact qN2_ (List.le_of_lt h) (h2 j (by omega))
   ·rw[z];exact qM2_ _
  ·rw[if_neg (λz=>h (qe1_ z))]
   refine⟨by omega,λj hj=>?_⟩
   rcases qA2_ hj with z|z
   ·exact h2 j (by omega)
   ·rw[z];exact qa1_.mp h
theorem vV(f:Nat->List Nat):∀n,argBest (λi j=>decide (f j<f i)) n<=n/\∀j,j<=n->f j<=f (argBest (λi j=>decide (f j<f i)) n)
 |0=>⟨qe_ _,λj hj=>by rw[Nat.le_zero.mp hj];exact qM2_ _⟩
 |n+1=>by
  obtain⟨h1,h2⟩:=vV f n
  show(if decide (f (argBest _ n)<f (n+1))=true then n+1 else argBest _ n)<=n+1/\∀j,j<=n+1->f j<=f (if decide (f (argBest _ n)<f (n+1))=true then n+1 else argBest _ n)
  by_cases h:f (argBest (λi j=>decide (f j<f i)) n)<f (n+1)
  ·rw[if_pos (qS_ h)]
   refine⟨qe_ _,λj hj=>?_⟩
   rcases qA2_ hj with z|z
   ·exact qN2_ (h2 j (by omega)) (List.le_of_lt h)
   ·rw[z];exact qM2_ _
  ·rw[if_neg (λz=>h (qe1_ z))]
   refine⟨by omega,λj hj=>?_⟩
   rcases qA2_ hj with z|z
   ·exact h2 j (by omega)
   ·rw[z];exact qa1_.mp h
theorem pY{l:List Str}{i:Nat}(h:i<l.length):l.getD i ⟨#[]⟩∈l:=by
 rw[qV_,qk_ h]
 exact qL1_ h
theorem pW{l:List Str}{a:Str}(h:a∈l):∃j,j<l.length/\l.getD j ⟨#[]⟩=a:=by
 obtain⟨j,hj,e⟩:=qB2_.mp h
 exact⟨j,hj,by rw[qV_,qk_ hj];exact e⟩
section
variable{prog:Program}{w:World}{A:Around}{E:Value->Shared->Prop}{s:Shared}{l:Addr}{its:Array Value}{ss:List Str}
theorem yT{P:Nat->Value->Prop}(val:Nat->Str)(hval:∀i v,P i v->∃t,v=.str (val i) t):CmpOf prog w A .Lt P (λi j=>decide ((val i).cps.toList<(val j).cps.toList)):=λi j vi vj s Q E hi hj h=>by
 obtain⟨t,rfl⟩:=hval i vi hi
 obtain⟨u,rfl⟩:=hval j vj hj
 exact richCompare_gives (op:=.Lt) (typeIs_str s _ t) (typeIs_str s _ u) F.slot_str_lt F.entry_str_lt (F.args_str_lt_2 _ _) (gives_str_lt _ _ t u) (λx=>nomatch x) h
theorem yU{P:Nat->Value->Prop}(val:Nat->Str)(hval:∀i v,P i v->∃t,v=.str (val i) t):CmpOf prog w A .Gt P (λi j=>decide ((val j).cps.toList<(val i).cps.toList)):=λi j vi vj s Q E hi hj h=>by
 obtain⟨t,rfl⟩:=hval i vi hi
 obtain⟨u,rfl⟩:=hval j vj hj
 exact richCompare_gives (op:=.Gt) (typeIs_str s _ t) (typeIs_str s _ u) F.slot_str_gt F.entry_str_gt (F.args_str_gt_2 _ _) (gives_str_gt _ _ t u) (λx=>nomatch x) h
theorem zE{Q:Value->Shared->Prop}(hl:s.heap.IsList l its)
  (h:∀s₂:Shared,s₂={s with heap:=s.heap.push {cls:=.type "list_iterator",data:=.fields #[.ref l,.int 0 0]}} ->
   (s₂.heap.IsListIter s.heap.objs.size l 0/\s₂.heap.IsList l its)->(∀b∈[s.heap.objs.size,l],b<s₂.heap.objs.size)->l≠s.heap.objs.size->Q (.ref s.heap.objs.size) s₂):
  wpAny (model prog w) A (pyIter (.ref l)) Q E s:=by
 have hlt:l<s.heap.objs.size:=by obtain⟨_,e,_⟩:=hl;exact qf_ e
 refine wpAny_pyIter_list hl (h _ rfl ⟨⟨_,qj_ _ rfl,rfl,rfl⟩,hl.push _⟩ (λb hb=>?_) (qm_ hlt))
 show b<(s.heap.push _).objs.size
 rw[qx_]
 simp only[List.mem_cons,List.not_mem_nil,or_false]at hb
 rcases hb with z|z
 ·rw[z];exact qk2_ _
 ·rw[z];exact qk1_ hlt
theorem zFY{Q:Value->Shared->Prop}(hh:A.handled=none)(hl:s.heap.IsList l its)(hi:StrsAre its.toList ss)(hne:0<ss.length)
  (h:∀x t h' tk,x∈ss->(∀y∈ss,x.cps.toList<=y.cps.toList)->(∀b o,s.heap.get? b=some o->h'.get? b=some o)->Q (.str x t) {s with heap:=h',toks:=tk}):
  wpAny (model prog w) A (call (.builtin "min") [.ref l]) Q E s:=by
 have hsz:its.size=ss.length:=by rw[<-qt_,gV hi]
 refine call_min_walk (zE hl λs₂ e st hfp hlI=>?_)
 subst e
 refine⟨_,_,_,_,_,_,_,rfl,Walks.list (A:=A.in1) hh _ l hlI its,st,hfp,by omega,yT (λi=>ss.getD i ⟨#[]⟩) (λi v hv=>gG hi i v (by rw[qr_];exact hv)),λv h' tk hP hk=>?_⟩
 obtain⟨t,rfl⟩:=gG hi _ v (by rw[qr_];exact hP)
 obtain⟨b1,b2⟩:=vT (λi=>(ss.getD i ⟨#[]⟩).cps.toList) (its.size-1)
 refine h _ t h' tk (pY (by omega)) (λy hy=>?_) (old_kept hk)
 obtain⟨j,hj,rfl⟩:=pW hy
 exact b2 j (by omega)
theorem zF0{Q:Value->Shared->Prop}(hh:A.handled=none)(hl:s.heap.IsList l its)(hi:StrsAre its.toList ss)(hne:0<ss.length)
  (h:∀x t h' tk,x∈ss->(∀y∈ss,y.cps.toList<=x.cps.toList)->(∀b o,s.heap.get? b=some o->h'.get? b=some o)->Q (.str x t) {s with heap:=h',toks:=tk}):
  wpAny (model prog w) A (call (.builtin "max") [.ref l]) Q E s:=by
 have hsz:its.size=ss.length:=by rw[<-qt_,gV hi]
 refine call_max_walk (zE hl λs₂ e st hfp hlI=>?_)
 subst e
 refine⟨_,_,_,_,_,_,_,rfl,Walks.list (A:=A.in1) hh _ l hlI its,st,hfp,by omega,yU (λi=>ss.getD i ⟨#[]⟩) (λi v hv=>gG hi i v (by rw[qr_];exact hv)),λv h' tk hP hk=>?_⟩
 obtain⟨t,rfl⟩:=gG hi _ v (by rw[qr_];exact hP)
 obtain⟨b1,b2⟩:=vV (λi=>(ss.getD i ⟨#[]⟩).cps.toList) (its.size-1)
 refine h _ t h' tk (pY (by omega)) (λy hy=>?_) (old_kept hk)
 obtain⟨j,hj,rfl⟩:=pW hy
 exact b2 j (by omega)
end
section
variable{X:Cx}
theorem zM(hc:X.calm=true):CallR X (.builtin "min") (λxs H Q=>∃(p:Addr) (ss:List Str),xs=[.ref p]/\SqL X.K H p (ss.map V.str)/\0<ss.length/\∀x,x∈ss->(∀y∈ss,x.cps.toList<=y.cps.toList)->Q (.str x) H):=by
 intro pins s σ H xs us Q I r h
 obtain⟨p,ss,rfl,hq,hn,q⟩:=h
 obtain⟨u,rfl,rx⟩:=cQ r
 cases rx
 obtain⟨its,rv,pl,hz⟩:=I.list hq
 refine zFY (I.ok.hd hc) pl.isList (jI rv) hn λx t h' tk h1 h2 hk=>?_
 exact⟨.str _,H,I.kept hk,⟨t,rfl⟩,q _ h1 h2⟩
theorem zN(hc:X.calm=true):CallR X (.builtin "max") (λxs H Q=>∃(p:Addr) (ss:List Str),xs=[.ref p]/\SqL X.K H p (ss.map V.str)/\0<ss.length/\∀x,x∈ss->(∀y∈ss,y.cps.toList<=x.cps.toList)->Q (.str x) H):=by
 intro pins s σ H xs us Q I r h
 obtain⟨p,ss,rfl,hq,hn,q⟩:=h
 obtain⟨u,rfl,rx⟩:=cQ r
 cases rx
 obtain⟨its,rv,pl,hz⟩:=I.list hq
 refine zF0 (I.ok.hd hc) pl.isList (jI rv) hn λx t h' tk h1 h2 hk=>?_
 exact⟨.str _,H,I.kept hk,⟨t,rfl⟩,q _ h1 h2⟩
end
end L2
namespace L2
open PySem PySem.Spec PyProof.Rows
open PySem PySem.Spec PyProof.Rows
section
variable{κ:Type}[DecidableEq κ]
def dW(kvs:List (κ×V))(k:κ):Option V:=(kvs.find? λkv=>decide (kv.1=k)).map (·.2)
def dF(kvs:List (κ×V))(k:κ)(v:V):List (κ×V):=
 if (kvs.any λkv=>decide (kv.1=k))=true then kvs.map (λkv=>if kv.1=k then(kv.1,v) else kv) else kvs++[(k,v)]
theorem qC{p:κ×V}{r:List (κ×V)}{k:κ}(e:p.1=k):dW (p::r) k=some p.2:=by simp[dW,List.find?_cons,e]
theorem qD{p:κ×V}{r:List (κ×V)}{k:κ}(e:¬ p.1=k):dW (p::r) k=dW r k:=by simp[dW,List.find?_cons,e]
theorem qE(k:κ):∀kvs:List (κ×V),(kvs.any λkv=>decide (kv.1=k))=(dW kvs k).isSome
 |[]=>rfl
 |p::r=>by
  rw[qB1_]
  by_cases e:p.1=k
  ·simp only[qC e,decide_eq_true e,Bool.true_or,Option.isSome_some]
  ·rw[qD e,qH_ e,qO2_];exact qE k r
theorem tL(kvs:List (κ×V))(k:κ)(v:V):(dF kvs k v).length<=kvs.length+1:=by
 unfold dF
 split
 ·rw[qc_];omega
 ·rw[qh_,qI_,List.length_nil];omega
theorem zFJ{kvs:List (κ×V)}{k:κ}(v:V)(h:dW kvs k=none):dF kvs k v=kvs++[(k,v)]:=by
 unfold dF
 rw[qE,h]
 exact if_neg (by decide)
theorem RelO.isSome_eq{o:Option V}{u:Option Value}(r:RelO o u):o.isSome=u.isSome:=by
 cases o with
 |none=>cases u with
  |none=>rfl
  |some _=>exact(show False from r).elim
 |some _=>cases u with
  |none=>exact(show False from r).elim
  |some _=>rfl
theorem RelO.getD{o:Option V}{u:Option Value}{d:V}{d':Value}(r:RelO o u)(rd:RelV d d'):RelV (o.getD d) (u.getD d'):=by
 cases o with
 |none=>cases u with
  |none=>exact rd
  |some _=>exact(show False from r).elim
 |some _=>cases u with
  |none=>exact(show False from r).elim
  |some _=>exact r
theorem KV.val{kvs:List (κ×V)}{vs:List (κ×Value)}(r:KV kvs vs)(k:κ):RelO (dW kvs k) (valueAt vs k):=by
 unfold KV at r
 induction r with
 |nil=>exact True.intro
 |@cons p q ps qs h t ih=>
  obtain⟨h1,h2⟩:=h
  by_cases e:p.1=k
  ·have e':q.1=k:=h1.symm.trans e
   have b:valueAt (q::qs) k=some q.2:=by simp[valueAt,List.find?_cons,e']
   rw[qC e,b];exact h2
  ·have e':¬ q.1=k:=λz=>e (h1.trans z)
   have b:valueAt (q::qs) k=valueAt qs k:=by simp[valueAt,List.find?_cons,e']
   rw[qD e,b];exact ih
theorem KV.any{kvs:List (κ×V)}{vs:List (κ×Value)}(r:KV kvs vs)(k:κ):(kvs.any λkv=>decide (kv.1=k))=vs.any λkv=>decide (kv.1=k):=by
 unfold KV at r
 induction r with
 |nil=>rfl
 |cons h t ih=>rw[qB1_,qB1_,ih,h.1]
theorem KV.repl{kvs:List (κ×V)}{vs:List (κ×Value)}(r:KV kvs vs)(k:κ){y:V}{u:Value}(ry:RelV y u):
  KV (kvs.map λkv=>if kv.1=k then(kv.1,y) else kv) (vs.map λkv=>if kv.1=k then(kv.1,u) else kv):=by
 unfold KV at r ⊢
 induction r with
 |nil=>exact .nil
 |@cons p q ps qs h t ih=>
  rw[qF_,qF_]
  refine .cons ?_ ih
  obtain⟨h1,h2⟩:=h
  by_cases e:p.1=k
  ·rw[if_pos e,if_pos (h1.symm.trans e)];exact⟨h1,ry⟩
  ·rw[if_neg e,if_neg (λz=>e (h1.trans z))];exact⟨h1,h2⟩
theorem KV.put{kvs:List (κ×V)}{vs:List (κ×Value)}(r:KV kvs vs)(k:κ){y:V}{u:Value}(ry:RelV y u):KV (dF kvs k y) (stored vs k u):=by
 unfold dF stored
 rw[r.any k]
 by_cases e:(vs.any λkv=>decide (kv.1=k))=true
 ·rw[if_pos e,if_pos e];exact r.repl k ry
 ·rw[if_neg e,if_neg e];exact Paired.snoc r ⟨rfl,ry⟩
theorem KV.length{kvs:List (κ×V)}{vs:List (κ×Value)}(r:KV kvs vs):kvs.length=vs.length:=Paired.length r
end
theorem jS{P:Program}{w:World}{k:Key}{u:Value}(r:RelV (kV k) u):(bN P w).is k u=true:=by
 cases k with
 |inl i=>obtain⟨t,e⟩:=(show ∃t,u=Value.int i t from r);subst e;exact zDN P w i t
 |inr x=>obtain⟨t,e⟩:=(show ∃t,u=Value.str x t from r);subst e;exact pL P w x t
theorem zAj{P:Program}{w:World}:∀{ks:List Key}{us:List Value},Vals (ks.map kV) us->ItemsAre (bN P w) ks us
 |[],_,r=>by rw[qs2_]at r;cases r;exact .nil
 |k::ks,_,r=>by
  rw[qF_]at r
  cases r with
  |cons h t=>exact .cons (jS h) (zAj t)
abbrev KT(H:Hp):List (List Key×V)->List (List Key×Addr×Value)->Prop:=Paired λp q=>p.1=q.1/\H q.2.1=some (.tup (p.1.map kV))/\RelV p.2 q.2.2
theorem KT.val{H:Hp}{kvs:List (List Key×V)}{xs:List (List Key×Addr×Value)}(r:KT H kvs xs)(k:List Key):RelO (dW kvs k) ((atKey xs k).map (·.2)):=by
 induction r with
 |nil=>exact True.intro
 |@cons p q ps qs h t ih=>
  obtain⟨h1,_,h2⟩:=h
  by_cases e:p.1=k
  ·have e':q.1=k:=h1.symm.trans e
   have b:atKey (q::qs) k=some q.2:=by simp[atKey,List.find?_cons,e']
   rw[qC e,b];exact h2
  ·have e':¬ q.1=k:=λz=>e (h1.trans z)
   have b:atKey (q::qs) k=atKey qs k:=by simp[atKey,List.find?_cons,e']
   rw[qD e,b];exact ih
theorem KT.repl{H:Hp}{kvs:List (List Key×V)}{xs:List (List Key×Addr×Value)}(r:KT H kvs xs)(k:List Key){y:V}{u:Value}(ry:RelV y u):
  KT H (kvs.map λkv=>if kv.1=k then(kv.1,y) else kv) (xs.map (putAt k u)):=by
 induction r with
 |nil=>exact .nil
 |@cons p q ps qs h t ih=>
  rw[qF_,qF_]
  refine .cons ?_ ih
  obtain⟨h1,h2,h3⟩:=h
  unfold putAt
  by_cases e:p.1=k
  ·rw[if_pos e,if_pos (h1.symm.trans e)];exact⟨h1,h2,ry⟩
  ·rw[if_neg e,if_neg (λz=>e (h1.trans z))];exact⟨h1,h2,h3⟩
theorem KT.put{H:Hp}{kvs:List (List Key×V)}{xs:List (List Key×Addr×Value)}(r:KT H kvs xs)(k:List Key){b:Addr}{y:V}{u:Value}(hb:H b=some (.tup (k.map kV)))(ry:RelV y u):
  KT H (dF kvs k y) (storedH xs k b u):=by
 have e:(kvs.any λkv=>decide (kv.1=k))=(atKey xs k).isSome:=by
  rw[qE,(r.val k).isSome_eq,qd3_]
 unfold dF storedH
 rw[e]
 by_cases q:(atKey xs k).isSome=true
 ·rw[if_pos q,if_pos q];exact r.repl k ry
 ·rw[if_neg q,if_neg q];exact Paired.snoc r ⟨rfl,hb,ry⟩
theorem KT.keeps{H H':Hp}{kvs:List (List Key×V)}{xs:List (List Key×Addr×Value)}(r:KT H kvs xs)(ht:∀b ys,H b=some (.tup ys)->H' b=some (.tup ys)):KT H' kvs xs:=
 Paired.mapP r λ_ _ z=>⟨z.1,ht _ _ z.2.1,z.2.2⟩
section
variable{P:Program}{w:World}{H:Hp}{h:Heap}{a:Addr}
theorem zCE{u:HO}(ok:HOk P w H h)(e:Rd H a u):ObjOk P w H h a u:=e.ok ok
theorem jT{kvs:List (Key×V)}(ok:HOk P w H h)(e:Rd H a (.dK kvs)):kvs.length<=sizeLine/\(a==sysModules)=false/\∃vs,KV kvs vs/\h.DictOf (bN P w) a vs:=
 show ObjOk P w H h a (.dK kvs) from zCE ok e
theorem zCS{kvs:List (Key×V)}(ok:HOk P w H h)(e:H a=some (.dK kvs)):kvs.length<=sizeLine/\(a==sysModules)=false/\∃vs,KV kvs vs/\h.DictOf (bN P w) a vs:=jT ok (.inl e)
theorem lV{ks:List Key}(ok:HOk P w H h)(e:H a=some (.tup (ks.map kV))):(tupleKind (bN P w)).is h ks a:=by
 obtain⟨_,its,r,o,h1,h2,n,h3⟩:=(show ObjOk P w H h a (.tup (ks.map kV)) from ok a _ e)
 exact⟨o,its.toArray,n,h1,h2,h3,by simpa using zAj r⟩
theorem kM{kvs:List (List Key×V)}(ok:HOk P w H h)(e:Rd H a (.dT kvs)):kvs.length<=sizeLine/\(a==sysModules)=false /\
  ∃xs,KT H kvs xs/\h.DictOfH (tupleKind (bN P w)) a xs:=by
 obtain⟨z,y,xs,r,o,es,ep,h1,h2,h3,h4,h5⟩:=(show ObjOk P w H h a (.dT kvs) from zCE ok e)
 refine⟨z,y,xs,r,o,es,ep,h1,h2,h3,h4,λx hx=>?_,h5⟩
 have all:∀{l:List (List Key×V)} {m:List (List Key×Addr×Value)},KT H l m->∀x∈m,(tupleKind (bN P w)).is h x.1 x.2.1:=by
  intro l m q
  induction q with
  |nil=>intro x hx;exact nomatch hx
  |@cons p q ps qs hq t ih=>
   intro x hx
   rcases qy_.mp hx with e|hx
   ·subst e
    exact lV ok (by rw[<-hq.1];exact hq.2.1)
   ·exact ih x hx
 exact all r x hx
theorem zKj{kvs:List (List Key×V)}(ok:HOk P w H h)(e:H a=some (.dT kvs)):kvs.length<=sizeLine/\(a==sysModules)=false /\
  ∃xs,KT H kvs xs/\h.DictOfH (tupleKind (bN P w)) a xs:=kM ok (.inl e)
end
def jH(H:Hp)(a:Addr)(y:V)(r:Option V):Prop:=
 (∃kvs k,Rd H a (.dK kvs)/\y=kV k/\r=dW kvs k)\/∃kvs k b,Rd H a (.dT kvs)/\y=.ref b/\H b=some (.tup (k.map kV))/\r=dW kvs k
def DPut(H:Hp)(a:Addr)(y v:V)(H':Hp):Prop:=
 (∃kvs k,H a=some (.dK kvs)/\y=kV k/\kvs.length<sizeLine/\H'=upd H a (.dK (dF kvs k v))) \/
 ∃kvs k b,H a=some (.dT kvs)/\y=.ref b/\H b=some (.tup (k.map kV))/\kvs.length<sizeLine/\H'=upd H a (.dT (dF kvs k v))
theorem DPut.k{H:Hp}{a:Addr}{kvs:List (Key×V)}{k:Key}{v:V}(e:H a=some (.dK kvs))(hl:kvs.length<sizeLine):DPut H a (kV k) v (upd H a (.dK (dF kvs k v))):=.inl ⟨kvs,k,e,rfl,hl,rfl⟩
section
variable{X:Cx}{pins:List (Addr×Obj)}{σ:St}{H:Hp}{s:Shared}{a:Addr}{y v:V}{u r:Value}{o:Option V}{A:Around}{E:Value->Shared->Prop}
theorem zFc{Q:Value->Shared->Prop}(hu:A.units+1<cLine)(I:Inv X pins σ H s)(g:jH H a y (some v))(ry:RelV y u)(h:∀w' s',Inv X pins σ H s'->RelV v w'->Q w' s'):
  wpAny (model X.prog X.w) A (getItem (.ref a) u) Q E s:=by
 rcases g with⟨kvs,k,e,ey,l⟩|⟨kvs,k,b,e,ey,eb,l⟩
 ·subst ey
  obtain⟨z,hd,vs,rel,dd⟩:=jT I.hok e
  obtain⟨w',hw,rw'⟩:=RelO.some_of (v:=v) (o:=valueAt vs k) (by rw[l];exact rel.val k)
  exact wpAny_getItem_of (jS ry) dd.mapOf hw (h w' _ (I.tok _) rw')
 ·subst ey
  cases (show u=Value.ref b from ry)
  obtain⟨z,hd,xs,rel,dd⟩:=kM I.hok e
  obtain⟨w',hw,rw'⟩:=RelO.some_of (v:=v) (o:=(atKey xs k).map (·.2)) (by rw[l];exact rel.val k)
  obtain⟨p,hp,hp2⟩:=qg1_.mp hw
  refine wpAny_getItem_heap (tupleKind_room_in1 hu) (lV I.hok eb) dd hp ?_
  rw[hp2]
  exact h w' _ (I.tok _) rw'
theorem zLL{Q:Value->Shared->Prop}(hu:A.units+1<cLine)(I:Inv X pins σ H s)(g:jH H a y o)(ry:RelV y u)(h:∀s',Inv X pins σ H s'->Q (.bool o.isSome) s'):
  wpAny (model X.prog X.w) A (compareOp .In u (.ref a)) Q E s:=by
 rcases g with⟨kvs,k,e,ey,l⟩|⟨kvs,k,b,e,ey,eb,l⟩
 ·subst ey
  obtain⟨z,hd,vs,rel,dd⟩:=jT I.hok e
  refine wpAny_in_of (jS ry) hd dd.mapOf ?_
  rw[<-(rel.val k).isSome_eq,<-l]
  exact h _ (I.tok _)
 ·subst ey
  cases (show u=Value.ref b from ry)
  obtain⟨z,hd,xs,rel,dd⟩:=kM I.hok e
  refine wpAny_in_heap (tupleKind_room_in1 hu) (lV I.hok eb) hd dd ?_
  have q:=(rel.val k).isSome_eq
  rw[qd3_]at q
  rw[<-q,<-l]
  exact h _ (I.tok _)
theorem zHw{Q:Value->Shared->Prop}(hu:A.units+1<cLine)(I:Inv X pins σ H s)(g:jH H a y o)(ry:RelV y u)(h:∀s',Inv X pins σ H s'->Q (.bool (!o.isSome)) s'):
  wpAny (model X.prog X.w) A (compareOp .NotIn u (.ref a)) Q E s:=by
 rcases g with⟨kvs,k,e,ey,l⟩|⟨kvs,k,b,e,ey,eb,l⟩
 ·subst ey
  obtain⟨z,hd,vs,rel,dd⟩:=jT I.hok e
  refine wpAny_notIn_of (jS ry) hd dd.mapOf ?_
  rw[<-(rel.val k).isSome_eq,<-l]
  exact h _ (I.tok _)
 ·subst ey
  cases (show u=Value.ref b from ry)
  obtain⟨z,hd,xs,rel,dd⟩:=kM I.hok e
  refine wpAny_notIn_heap (tupleKind_room_in1 hu) (lV I.hok eb) hd dd ?_
  have q:=(rel.val k).isSome_eq
  rw[qd3_]at q
  rw[<-q,<-l]
  exact h _ (I.tok _)
theorem vS{h':Heap}{t':Nat}{ob:HO}(I:Inv X pins σ H s)(mu:Mut (H a))(hs:Heap.SameBut a s.heap h')(he:∃q,h'.get? a=some q)(new:ObjOk X.prog X.w (upd H a ob) h' a ob):
  Inv X pins σ (upd H a ob) {s with heap:=h',toks:=t'}:=
 I.write (x:=a) (e:=a) mu (.inl rfl) (λb q hb z=>(hs.2 b hb).trans z) he new
theorem zCv{P:Program}{w:World}{H':Hp}{h':Heap}{kvs:List (Key×V)}{vs:List (Key×Value)}(z:kvs.length<=sizeLine)(hd:(a==sysModules)=false)(rel:KV kvs vs)(dd:h'.DictOf (bN P w) a vs):
  ObjOk P w H' h' a (.dK kvs):=⟨z,hd,vs,rel,dd⟩
theorem zFb{H':Hp}{Q:Unit->Shared->Prop}(hu:A.units+1<cLine)(I:Inv X pins σ H s)(g:DPut H a y v H')(ry:RelV y u)(rv:RelV v r)(h:∀s',Inv X pins σ H' s'->Q () s'):
  wpAny (model X.prog X.w) A (setItem (.ref a) u r) Q E s:=by
 rcases g with⟨kvs,k,e,ey,l,eH⟩|⟨kvs,k,b,e,ey,eb,l,eH⟩
 ·subst ey eH
  obtain⟨z,hd,vs,rel,dd⟩:=zCS I.hok e
  have hz:vs.length<=sizeLine:=by rw[<-rel.length];exact z
  have hl:(dF kvs k v).length<=sizeLine:=by have:=tL kvs k v;omega
  refine wpAny_setItem_pairs (hsz:=hz) (jS ry) dd λh' dd' hs=>h _ ?_
  have he:∃q,h'.get? a=some q:=let ⟨q,_,_,hq,_⟩:=dd';⟨q,hq⟩
  exact vS I (by rw[e];exact True.intro) hs he (zCv hl hd (rel.put k rv) dd')
 ·subst ey eH
  cases (show u=Value.ref b from ry)
  obtain⟨z,hd,xs,rel,dd⟩:=zKj I.hok e
  have hz:xs.length<=sizeLine:=by rw[<-Paired.length rel];exact z
  have hl:(dF kvs k v).length<=sizeLine:=by have:=tL kvs k v;omega
  refine wpAny_setItem_heap (hsz:=hz) (tupleKind_room_in1 hu) (lV I.hok eb) dd λh' dd' hs=>h _ ?_
  obtain⟨q,es,ep,hq,h2,h3,h4,_,h5⟩:=dd'
  refine vS I (by rw[e];exact True.intro) hs ⟨q,hq⟩ ⟨hl,hd,_,(rel.put k eb rv).keeps λc ys ec=>?_,q,es,ep,hq,h2,h3,h4,h5⟩
  rw[bL (zJ8 ec e (λz=>nomatch z))]
  exact ec
end
section
variable{X:Cx}{pins:List (Addr×Obj)}{σ:St}{H:Hp}{s:Shared}{a:Addr}{kvs:List (Key×V)}{k:Key}{u:Value}{A:Around}{E:Value->Shared->Prop}
theorem zKk{Q:Value->Shared->Prop}(I:Inv X pins σ H s)(e:Rd H a (.dK kvs))(h:∀t s',Inv X pins σ H s'->Q (.int kvs.length t) s'):wpAny (model X.prog X.w) A (call (.builtin "len") [.ref a]) Q E s:=by
 obtain⟨z,hd,vs,rel,dd⟩:=jT I.hok e
 refine call_len_dict hd dd (by rw[<-rel.length];rw[sizeLine_eq]at z;omega) ?_
 rw[<-rel.length]
 exact h _ _ (I.tok _)
end
theorem zDR{X:Cx}{pins:List (Addr×Obj)}{σ:St}{H:Hp}{s:Shared}{a:Addr}{y:V}{o:Option V}(I:Inv X pins σ H s)(g:jH H a y o):s.TypeIs (.ref a) "dict":=by
 rcases g with⟨kvs,k,e,_,_⟩|⟨kvs,k,b,e,_,_,_⟩
 ·obtain⟨_,_,vs,_,dd⟩:=jT I.hok e
  exact dd.typeIs
 ·obtain⟨_,_,xs,_,dd⟩:=kM I.hok e
  exact dd.typeIs
def zJI(td ty tv:TE):TS:=λD σ H=>tv σ H λv H1=>td σ H1 λx H2=>ty σ H2 λy H3=>∃a H4,x=.ref a/\DPut H3 a y v H4/\D.nx σ H4
section
variable{X:Cx}{o i e value:Expr}{pos pos' tpos:Pos}{td ty tv:TE}
theorem zGZ(hu:X.A.units+1<cLine)(ho:PE X o td)(hi:PE X i ty)(hv:PE X value tv)(hs:swapsWith value (some (.Subscript o i pos')) pos.line X.env=pure false):
  PS X (.Assign [.Subscript o i pos'] value pos) (zJI td ty tv):=by
 intro pins s σ H D I h
 refine wpAny_Assign_Subscript (thn (hv pins s σ H _ I h) λr s1 ⟨v,H1,I1,rv,q1⟩=>thn (ho pins s1 σ H1 _ I1 q1) λu s2 ⟨x,H2,I2,rx,q2⟩=>thn (hi pins s2 σ H2 _ I2 q2) λiv s3 ⟨y,H3,I3,ry,a,H4,ex,g,q3⟩=>?_) hs
 subst ex
 obtain rfl:u=Value.ref a:=rx
 exact zFb hu I3 g ry rv λs4 I4=>⟨σ,H4,I4,q3⟩
end
def wB:List (TE×TE)->St->Hp->(List (V×V)->Hp->Prop)->Prop
 |[],_,H,Q=>Q [] H
 |(tk,tv)::r,σ,H,Q=>tk σ H λx H1=>tv σ H1 λy H2=>wB r σ H2 λps H3=>Q ((x,y)::ps) H3
abbrev VV:List (V×V)->List (Value×Value)->Prop:=Paired λp q=>RelV p.1 q.1/\RelV p.2 q.2
def PPs(X:Cx)(pos:Pos)(keys:List (Option Expr))(values:List Expr)(trs:List (TE×TE)):Prop:=
 ∀(pins:List (Addr×Obj)) (s:Shared) (σ:St) (H:Hp) (Q:List (V×V)->Hp->Prop),Inv X pins σ H s->wB trs σ H Q ->
  wpAny (model X.prog X.w) X.A (evalPairs (pairTrees keys values X.env pos)) (λvs s'=>∃ps H',Inv X pins σ H' s'/\VV ps vs/\Q ps H') X.xe s
theorem zG0{X:Cx}{pos:Pos}:PPs X pos [] [] []:=λpins s σ H Q I h=>pairTrees_nil_walk ⟨[],H,I,.nil,h⟩
theorem zFN{X:Cx}{pos:Pos}{k v:Expr}{ks:List (Option Expr)}{vs:List Expr}{tk tv:TE}{trs:List (TE×TE)}(hk:PE X k tk)(hv:PE X v tv)(hr:PPs X pos ks vs trs):
  PPs X pos (some k::ks) (v::vs) ((tk,tv)::trs):=λpins s σ H Q I h=>
 pairTrees_cons_walk (thn (hk pins s σ H _ I h) λu s1 ⟨x,H1,I1,rx,q1⟩=>thn (hv pins s1 σ H1 _ I1 q1) λw2 s2 ⟨y,H2,I2,ry,q2⟩=>
  thn (hr pins s2 σ H2 _ I2 q2) λws s3 ⟨ps,H3,I3,rel,q3⟩=>⟨(x,y)::ps,H3,I3,.cons ⟨rx,ry⟩ rel,q3⟩)
def hZ(kvs more:List (Key×V)):List (Key×V):=more.foldl (λacc kv=>dF acc kv.1 kv.2) kvs
theorem KV.merge:∀{more:List (Key×V)}{rs:List (Key×Value)}{kvs:List (Key×V)}{vs:List (Key×Value)},KV more rs->KV kvs vs->KV (hZ kvs more) (merged vs rs):=by
 intro more rs kvs vs r
 unfold KV at r
 induction r generalizing kvs vs with
 |nil=>intro q;exact q
 |@cons p q ps qs h t ih=>
  intro r0
  have e:KV (dF kvs p.1 p.2) (stored vs q.1 q.2):=by
   have:=r0.put p.1 h.2
   rw[<-h.1];exact this
  exact ih e
theorem tG:∀(more kvs:List (Key×V)),(hZ kvs more).length<=kvs.length+more.length
 |[],kvs=>by show kvs.length<=kvs.length+0;omega
 |p::r,kvs=>by
  have h1:=tG r (dF kvs p.1 p.2)
  have h2:=tL kvs p.1 p.2
  show(hZ (dF kvs p.1 p.2) r).length<=_
  rw[qI_];omega
theorem zI{P:Program}{w:World}:∀{kvs:List (Key×V)}{ws:List (Value×Value)},VV (kvs.map λkv=>(kV kv.1,kv.2)) ws->∃rs,Carries (bN P w) ws rs/\KV kvs rs
 |[],_,r=>by rw[qs2_]at r;cases r;exact⟨[],True.intro,.nil⟩
 |p::kvs,_,r=>by
  rw[qF_]at r
  cases r with
  |@cons a b as bs h t=>
   obtain⟨rs,c,q⟩:=zI (P:=P) (w:=w) t
   obtain⟨b1,b2⟩:=b
   exact⟨(p.1,b2)::rs,⟨jS h.1,rfl,c⟩,.cons ⟨rfl,h.2⟩ q⟩
def zJE(trs:List (TE×TE)):TE:=λσ H Q=>∀p,H p=none->wB trs σ (upd H p (.dK [])) λps H2=>H2 p=some (.dK [])/\∃kvs:List (Key×V),ps=kvs.map (λkv=>(kV kv.1,kv.2))/\kvs.length<=15/\Q (.ref p) (upd H2 p (.dK (hZ [] kvs)))
theorem zG5{X:Cx}{pos:Pos}{keys:List (Option Expr)}{values:List Expr}{trs:List (TE×TE)}(h:PPs X pos keys values trs)(hall:keys.all (·.isSome)=true)(hl:keys.length=values.length)(h0:keys≠[])
  (h15:keys.length<=15):PE X (.Dict keys values pos) (zJE trs):=by
 intro pins s σ H Q I q
 have hn:=I.hok.fresh (qe_ s.heap.objs.size)
 have I1:=I.laid (a:=s.heap.objs.size) (o:=.dK []) (h':=s.heap.push {cls:=.type "dict",data:=.dict #[]}) (t':=s.toks) (λ_ _ q=>qd_ _ q) (qe_ _) (zA9 s.heap I.big)
 refine wpAny_Dict_walk (knd:=bN X.prog X.w) hall hl h0 h15 (thn (h pins _ σ _ _ I1 (q _ hn)) λws s2 ⟨ps,H2,I2,rel,e,kvs,ep,lk,q2⟩=>?_)
 subst ep
 obtain⟨rs,c,rk⟩:=zI (P:=X.prog) (w:=X.w) rel
 obtain⟨z,hd,vs0,r0,dd⟩:=zCS I2.hok e
 cases r0
 refine⟨rs,c,dd,λh' dd' hs=>⟨.ref s.heap.objs.size,_,?_,rfl,q2⟩⟩
 have hz:(hZ [] kvs).length<=sizeLine:=by
  have h1:=tG kvs []
  rw[List.length_nil]at h1
  rw[sizeLine_eq];omega
 have he:∃q,h'.get? s.heap.objs.size=some q:=let ⟨q,_,_,hq,_⟩:=dd';⟨q,hq⟩
 exact vS I2 (by rw[e];exact True.intro) hs he (zCv hz hd (rk.merge .nil) dd')
structure M2 (X:Cx) (o:Expr) (m:Str) (apos:Pos) (e f:Expr) (cpos:Pos):Prop where
 base:attributeBase o m X.env (eval o X.env)=eval o X.env
 few:((backTo cpos (starEach [e,f] X.env)).all (λx=>!x.1)&&(backToKw cpos (keywordEach [] X.env)).all (λx=>x.1.isSome)
  && decide (([e,f]:List Expr).length+([]:List Keyword).length+(if ([]:List Keyword).isEmpty then 0 else 1)<30))=true
 line:(apos.endLine==cpos.line)=true
 trees:backTo cpos (starEach [e,f] X.env)=[(false,eval e X.env),(false,eval f X.env)]
def IsD(H:Hp)(a:Addr):Prop:=(∃kvs,Rd H a (.dK kvs))\/∃kvs,Rd H a (.dT kvs)
theorem zJe{X:Cx}{pins:List (Addr×Obj)}{σ:St}{H:Hp}{s:Shared}{a:Addr}(I:Inv X pins σ H s)(d:IsD H a):
  s.TypeIs (.ref a) "dict"/\(∀b,Value.ref a=.ref b->∃ob,s.heap.get? b=some ob/\ob.dict=none)/\(a==sysModules)=false:=by
 rcases d with⟨kvs,e⟩|⟨kvs,e⟩
 ·obtain⟨_,hd,vs,_,dd⟩:=jT I.hok e
  refine⟨dd.typeIs,λb q=>?_,hd⟩
  cases q
  obtain⟨ob,_,_,h1,h2,_⟩:=dd
  exact⟨ob,h1,h2.2.1⟩
 ·obtain⟨_,hd,xs,_,dd⟩:=kM I.hok e
  refine⟨dd.typeIs,λb q=>?_,hd⟩
  cases q
  obtain⟨ob,_,_,h1,h2,_⟩:=dd
  exact⟨ob,h1,h2.2.1⟩
section
variable{X:Cx}{pins:List (Addr×Obj)}{σ:St}{H:Hp}{s:Shared}{a:Addr}{y d:V}{u r:Value}{o:Option V}{A:Around}{E:Value->Shared->Prop}
theorem zJm{Q:Value->Shared->Prop}(hu:A.units+1<cLine)(I:Inv X pins σ H s)(g:jH H a y o)(ry:RelV y u)(rd:RelV d r)(h:∀w' s',Inv X pins σ H s'->RelV (o.getD d) w'->Q w' s'):
  wpAny (model X.prog X.w) A (call (.builtin "dict.get") [.ref a,u,r]) Q E s:=by
 rcases g with⟨kvs,k,e,ey,l⟩|⟨kvs,k,b,e,ey,eb,l⟩
 ·subst ey
  obtain⟨z,hd,vs,rel,dd⟩:=jT I.hok e
  refine call_meetsIn PySem.F.slot_dict_get dd.typeIs PySem.F.entry_dict_get (PySem.F.args_dict_get_3 _ _ _) (meets_dict_get_default (bN X.prog X.w) a (jS ry) hd r) ⟨_,dd.mapOf,h _ _ (I.tok _) ?_⟩
  rw[l]
  exact(rel.val k).getD rd
 ·subst ey
  cases (show u=Value.ref b from ry)
  obtain⟨z,hd,xs,rel,dd⟩:=kM I.hok e
  refine call_meetsIn PySem.F.slot_dict_get dd.typeIs PySem.F.entry_dict_get (PySem.F.args_dict_get_3 _ _ _) (meetsH_dict_get_default (tupleKind (bN X.prog X.w)) a b hd r) ⟨tupleKind_room_in1 hu,k,xs,lV I.hok eb,dd,h _ _ (I.tok _) ?_⟩
  rw[l]
  exact(rel.val k).getD rd
end
def zH5(td ty tx:TE):TE:=λσ H Q=>td σ H λx H1=>∃a,x=.ref a/\IsD H1 a/\ty σ H1 λy H2=>tx σ H2 λz H3=>∃o,jH H3 a y o/\Q (o.getD z) H3
section
variable{X:Cx}{o e f:Expr}{apos cpos:Pos}{td ty tx:TE}
theorem zFT(hu:X.A.units+1<cLine)(ho:PE X o td)(he:PE X e ty)(hf:PE X f tx)(m:M2 X o "get" apos e f cpos):PE X (.Call (.Attribute o "get" apos) [e,f] [] cpos) (zH5 td ty tx):=by
 intro pins s σ H Q I h
 refine wpAny_Call_method m.base m.few m.line PySem.F.plainAttrs_dict PySem.F.slot_dict_get PySem.F.type_dict_get (thn (ho pins s σ H _ I h) λu s1 ⟨x,H1,I1,rx,a,ex,d,q1⟩=>?_)
 subst ex
 obtain rfl:u=Value.ref a:=rx
 obtain⟨t1,t2,_⟩:=zJe I1 d
 refine⟨t1,t2,?_⟩
 rw[m.trees]
 refine Calls.callWith_builtin rfl (Calls.evalArgs_plain (Calls.spliced_cons (thn (he pins s1 σ H1 _ I1 q1) λiv s2 ⟨y,H2,I2,ry,q2⟩=>
  Calls.spliced_cons (thn (hf pins s2 σ H2 _ I2 q2) λfv s3 ⟨z,H3,I3,rz,ov,g,q3⟩=>Calls.spliced_nil ?_))))
 exact zJm hu I3 g ry rz λw' s4 I4 rw'=>⟨_,H3,I4,rw',q3⟩
end
section
variable{κ:Type}[DecidableEq κ]
theorem zGv{kvs:List (κ×V)}{k:κ}{v:V}(h:dW kvs k=some v):k∈kvs.map (·.1):=by
 have q:(kvs.any λkv=>decide (kv.1=k))=true:=by
  rw[qE,h]
  all_goals rfl
 obtain⟨p,hp,e⟩:=qQ_.mp q
 exact qg_.mpr ⟨p,hp,qe1_ e⟩
end
end L2
namespace L2
open PySem PySem.Spec PyProof.Rows
def FzD(H:Hp)(a:Addr)(ob:Obj)(kvs:List (Key×V)):Prop:=H a=some (.frz ob (.dK kvs))
theorem kH{kvs:List (Key×V)}{vs:List (Key×Value)}(r:KV kvs vs):kvs.length=vs.length:=Paired.length r
theorem zCp:∀{kvs:List (Key×V)}{vs:List (Key×Value)}{i:Nat}{k:Key}{v:V},KV kvs vs->kvs[i]?=some (k,v)->∃u,vs[i]?=some (k,u)/\RelV v u
 |_,_,0,_,_,.cons (b:=b) r _,h=>by
  cases h
  obtain⟨e,r⟩:=r
  exact⟨b.2,by show some b=_;rw[show b=(b.1,b.2) from rfl,<-e],r⟩
 |_,_,i+1,_,_,.cons _ rs,h=>zCp (i:=i) rs (by simpa using h)
theorem zHm{k:Key}{u:Value}(h:jR k u=true):RelV (kV k) u:=by
 rcases gE h with⟨i,t,rfl,rfl⟩|⟨x,t,rfl,rfl⟩
 ·exact⟨t,rfl⟩
 ·exact⟨t,rfl⟩
section
variable{X:Cx}{pins:List (Addr×Obj)}{σ:St}{H:Hp}{s:Shared}{a:Addr}{ob:Obj}{kvs:List (Key×V)}
theorem jO(I:Inv X pins σ H s)(h:FzD H a ob kvs):s.heap.get? a=some ob/\(a==sysModules)=false/\kvs.length<=sizeLine/\∃vs es ep,KV kvs vs/\s.heap.DictAt (bN X.prog X.w) a vs ep/\ob.data=.dict es ep:=by
 obtain⟨e,hl,hs,vs,r,o,es,ep,e',x1,x2,x3⟩:=(show ObjOk X.prog X.w H s.heap a (.frz ob (.dK kvs)) from I.hok a _ h)
 rw[e]at e'
 cases e'
 exact⟨e,hs,hl,vs,es,ep,r,⟨ob,es,e,x1,x2,x3⟩,x2⟩
end
def ItD(a:Addr)(ob:Obj)(kvs:List (Key×V)):It:=
 ⟨λi H=>FzD H a ob kvs/\i<kvs.length,λi H x H'=>H'=H/\∃k v,kvs[i]?=some (k,v)/\x=kV k,λi H=>FzD H a ob kvs/\kvs.length<=i⟩
theorem zEv{P:Program}{w:World}{K:W.Frag}{tg:Expr}{a it:Addr}{ob:Obj}{kvs:List (Key×V)}{es:Array DictEntry}{ep:Nat}(hep:ob.data=.dict es ep):
  jG P w K tg (ItD a ob kvs) [it] it (λi h=>h.IsKeyIter it a i kvs.length ep) where
 mem:=by simp
 obj:=λi h st b hb=>by
  have e:b=it:=by simpa using hb
  subst e
  obtain⟨o,e,c,d⟩:=st
  exact⟨o,e,λv z=>by rw[d]at z;cases z⟩
 keep:=λi h h' st k=>st.at λo e=>k it (by simp) o e
 item:=by
  intro X hP hw hK hc i pins s σ H E I hf st hg
  subst hP hw hK
  obtain⟨hz,hi⟩:=hg
  obtain⟨e,hs,hl,vs,es',ep',r,dd,hd'⟩:=jO I hz
  rw[hep]at hd'
  cases hd'
  obtain⟨f0,f1,f2,f3,f4,f5⟩:=hf it (by simp)
  obtain⟨⟨k,v⟩,hx⟩:∃p,kvs[i]?=some p:=⟨kvs[i],by simp[hi]⟩
  obtain⟨u,hu,ru⟩:=zCp r hx
  have st':s.heap.IsKeyIter it a i vs.length ep:=by rw[<-kH r];exact st
  refine wpAny_pyNext_dict_item st' dd hu λkey h' hkey hit' sb=>?_
  have I1:Inv X pins σ H {s with heap:=h'}:=I.turned (t':=s.toks) (λb o hb e=>(sb.2 b hb).trans e) f0 f1 f3 f4 f5
  obtain⟨o,e,c,d⟩:=id hit'
  exact⟨key,rfl,mD (s:={s with heap:=h'}) e c d (by decide) ⟨kV k,H,I1,zHm hkey,⟨rfl,k,v,hx,rfl⟩,by rw[kH r];exact hit',λb hb=>(hf b hb).1⟩⟩
 done:=by
  intro X hP hw hK hc i pins s σ H E I hf st hg
  subst hP hw hK
  obtain⟨hz,hi⟩:=hg
  obtain⟨e,hs,hl,vs,es',ep',r,dd,hd'⟩:=jO I hz
  rw[hep]at hd'
  cases hd'
  obtain⟨f0,f1,f2,f3,f4,f5⟩:=hf it (by simp)
  have st':s.heap.IsKeyIter it a i vs.length ep:=by rw[<-kH r];exact st
  have hn:vs[i]?=none:=qT1_ (by rw[<-kH r];exact hi)
  exact wpAny_pyNext_dict_end (I.ok.hd hc) st' dd hn λh' eb=>⟨rfl,I.turned (t':=s.toks) (λb o hb e=>eb b o hb e) f0 f1 f3 f4 f5⟩
 self:=λ_ _ _ _ _ st h=>wpAny_pyIter_keyiter st h
end L2
namespace L2
open PySem PySem.Spec PyProof.Rows
theorem yI{prog:Program}{w:World}:∀{kvs:List (Key×Value)}{us:List Str}{acc:Array Value},kvs.map (·.1)=us.map Sum.inr ->
  ItemsOf (λi v=>∃k x,kvs[i]?=some (k,x)/\(bN prog w).is k v=true) acc kvs.length->StrsAre acc.toList us:=by
 intro kvs us acc hk h
 obtain⟨hn,hp⟩:=h
 have key:∀(us:List Str) (l:List Value) (kvs:List (Key×Value)),kvs.map (·.1)=us.map Sum.inr->l.length=kvs.length->(∀(j:Nat) (v:Value),l[j]?=some v->∃k x,kvs[j]?=some (k,x)/\(bN prog w).is k v=true)->StrsAre l us:=by
  intro us
  induction us with
  |nil=>
   intro l kvs hk hl _
   have:kvs=[]:=by simpa using hk
   subst this
   have:l=[]:=qM1_ hl
   subst this
   exact .nil
  |cons y ys ih=>
   intro l kvs hk hl hp
   cases kvs with
   |nil=>simp at hk
   |cons p kvs=>
    cases l with
    |nil=>simp at hl
    |cons v l=>
     simp only[List.map_cons,List.cons.injEq]at hk
     obtain⟨k,x,e,q⟩:=hp 0 v rfl
     have e:p=(k,x):=by simpa using e
     subst e
     have hk1:k=Sum.inr y:=hk.1
     subst hk1
     rcases gE (show jR (Sum.inr y) v=true from q) with⟨i,t,z,_⟩|⟨z,t,e1,rfl⟩
     ·cases z
     ·cases e1
      exact .cons _ _ (ih l kvs hk.2 (by simpa using hl) λj v hj=>hp (j+1) v hj)
 refine key us acc.toList kvs hk (by simpa using hn) λj v hj=>hp j v (by simpa using hj)
section
variable{prog:Program}{w:World}{A:Around}{E:Value->Shared->Prop}{s:Shared}{a:Addr}{us:List Str}
theorem zH7:isSubtype (.type "dict") (.type "dict")=pure true:=by rw[isSubtype_type];kernel_rfl
theorem zFq{Q:Bool->Shared->Prop}(ht:s.TypeIs (.ref a) "dict")(h:Q false s):wpAny (model prog w) A (Builtin.List.listLengthHint (.ref a)) Q E s:=by
 unfold Builtin.List.listLengthHint
 refine qa_ (wpAny_specialOf ht PySem.F.slot_dict_len.lookup ?_)
 have e1:splitId "dict.__len__"=some ("dict","__len__"):=by decide +kernel
 dsimp only
 rw[e1]
 dsimp only
 refine qa_ (wpAny_isInstance ht zH7 ?_)
 simp only[Bool.not_true,Bool.false_eq_true,if_false]
 refine wpAny_ite ?_
 rw[if_pos (by decide +kernel)]
 refine qa_ (wpAny_typeOf ht ?_)
 exact qb_ h
theorem zDo{kvs:List (Key×Value)}{ep:Nat}{Q:List Value->Shared->Prop}(hh:A.handled=none)(hsm:(a==sysModules)=false)(S:s.heap.DictAt (bN prog w) a kvs ep)(hks:kvs.map (·.1)=us.map Sum.inr)(hl:us.length<=sizeLine)
  (hQ:∀h' d tk (acc:List Value) vs,StrsAre acc vs->vs.Perm us->s.heap.objs.size<h'.objs.size->(∀b o,s.heap.get? b=some o->h'.get? b=some o)->Q acc {s with heap:=h',drawn:=d,toks:=tk}):
  wpAny (model prog w) A (collect (.ref a)) Q E s:=by
 have alt:a<s.heap.objs.size:=S.lt_size
 have hkl:kvs.length=us.length:=by have:=congrArg List.length hks;simpa using this
 unfold collect
 refine qa_ (wpAny_runValue (qY_ F.entry_proto_collect ?_))
 rw[qh1_ F.plain_proto_collect _]
 show wpAny _ A.in1 (newList [] >>= λl=>again (.builtin "list.__iadd__" ⟨[l,.ref a],[]⟩)) _ _ s
 refine qa_ (qR_ ?_ (by size_fits))
 refine qb_ ⟨plainId_quiet F.plain_list_iadd _,qY_ F.entry_list_iadd ?_⟩
 rw[qh1_ F.plain_list_iadd _]
 show wpAny _ A.in1 (Builtin.List.listExtendWith (.ref s.heap.objs.size) (.ref a) (.ref s.heap.objs.size)) _ _ _
 unfold Builtin.List.listExtendWith
 have S1:=S.push {cls:=.type "list",data:=.seq ([]:List Value).toArray}
 have ht:Shared.TypeIs {s with heap:=s.heap.push {cls:=.type "list",data:=.seq ([]:List Value).toArray}} (.ref a) "dict":=S1.dictOf.typeIs
 refine qa_ (wpAny_typeOf ht ?_)
 have h1:Builtin.List.listSameRef (.ref s.heap.objs.size) (.ref a)=false:=by simp[Builtin.List.listSameRef];exact qE_ alt
 have h2:(Value.type "dict"==Value.type "list")=false:=by decide
 have h3:(Value.type "dict"==Value.type "tuple")=false:=by decide
 simp only[h1,h2,h3,Bool.or_false,Bool.false_eq_true,if_false]
 refine qa_ (wpAny_pyIter_dict hsm S1 ?_)
 generalize hh':((s.heap.push {cls:=.type "list",data:=.seq ([]:List Value).toArray}).push {cls:=.type "dict_keyiterator",data:=.fields #[.ref a,.int 0 0,.int kvs.length 0,.int ep 0]})=h'
 have sz1:(s.heap.push {cls:=.type "list",data:=.seq ([]:List Value).toArray}).objs.size=s.heap.objs.size+1:=qx_ ..
 have kp:∀b o,(s.heap.push {cls:=.type "list",data:=.seq ([]:List Value).toArray}).get? b=some o->h'.get? b=some o:=λb o e=>by rw[<-hh'];exact qd_ _ e
 have ht':Shared.TypeIs {s with heap:=h'} (.ref a) "dict":=by
  obtain⟨o,e,c⟩:=ht
  exact⟨o,kp _ _ e,c⟩
 have st0:h'.IsKeyIter (s.heap.objs.size+1) a 0 kvs.length ep/\h'.DictAt (bN prog w) a kvs ep:=by
  refine⟨⟨{cls:=.type "dict_keyiterator",data:=.fields #[.ref a,.int 0 0,.int kvs.length 0,.int ep 0]},?_,rfl,rfl⟩,S1.keep kp⟩
  rw[<-hh',<-sz1]
  exact qj_ _ rfl
 rw[sz1]
 refine qa_ (qC_ (zFq ht' ?_))
 have hA:A.in1.handled=none:=by simp[hh]
 have W:=(Walks.dictKeys (prog:=prog) (w:=w) (A:=A.in1) (knd:=bN prog w) hA (s.heap.objs.size+1) a (λz=>absurd alt (by rw[z];exact qh2_.mpr (qp1_ _))) kvs ep).toS
 refine wpAny_ite ?_
 rw[if_pos (by decide +kernel)]
 refine qa_ (wpAny_rule ?_)
 have g0:h'.get? s.heap.objs.size=some {cls:=.type "list",data:=.seq ([]:List Value).toArray}:=kp _ _ (qj_ _ rfl)
 have nf:s.heap.objs.size∉[s.heap.objs.size+1,a]:=λm=>by
  simp only[List.mem_cons,List.not_mem_nil,or_false]at m
  rcases m with z|z
  ·omega
  ·rw[<-z]at alt;exact qf1_ _ alt
 refine qa_ ?_
 show wpAny _ A.in1 (updateSeq s.heap.objs.size (·.push .none) >>= λ_=>updateSeq s.heap.objs.size (·.pop)) _ _ _
 refine qa_ (wpAny_updateSeq g0 rfl ?_)
 have g1:=qU_ (Obj.mapSeq (·.push Value.none)) g0 rfl
 refine wpAny_updateSeq g1 rfl ?_
 have g2:=qU_ (Obj.mapSeq (·.pop)) g1 rfl
 have oth:∀b o,b≠s.heap.objs.size->h'.get? b=some o->((h'.update s.heap.objs.size (Obj.mapSeq (·.push Value.none))).update s.heap.objs.size (Obj.mapSeq (·.pop))).get? b=some o:=
  λb o hb e=>(qJ1_ _ _ (Ne.symm hb)).trans ((qJ1_ _ _ (Ne.symm hb)).trans e)
 refine qb_ ⟨plainId_quiet F.plain_extend_loop _,codeAny_extend_loopS W (by rw[hkl];exact hl) _ nf _ kvs.length 0 _ _ _ rfl (qu_ _)
  (W.frame 0 {s with heap:=h'} _ s.toks st0 (qe_ _) λb hb o e=>oth b o (λz=>nf (z▸hb)) e) g2 (ItemsOf.nil _) λs' acc' c' hm g' hacc=>?_⟩
 show wpAny _ A (load s.heap.objs.size >>= _) _ _ s'
 refine qa_ (wpAny_load g' ?_)
 have hs:=yI hks hacc
 obtain⟨h'',g'',d'',tk'',os''⟩:=s'
 have e1:g''=s.gens:=hm.gens
 have e2:os''=s.os:=hm.os
 subst e1 e2
 refine qb_ (hQ h'' d'' tk'' acc'.toList us hs (List.Perm.refl _) (qf_ g') λb o e=>hm.heap b o (λm=>?_) (oth b o (qm_ (qf_ e)) (kp b o (qd_ _ e))))
 have lt:=qf_ e
 simp only[List.mem_cons,List.not_mem_nil,or_false]at m
 rcases m with m|m
 ·rw[m]at lt;exact qf1_ _ lt
 ·rw[m]at lt;exact absurd lt (qh2_.mpr (qp1_ _))
theorem zDq{kvs:List (Key×Value)}{ep:Nat}{Q:Value->Shared->Prop}(hh:A.handled=none)(hsm:(a==sysModules)=false)(S:s.heap.DictAt (bN prog w) a kvs ep)(hks:kvs.map (·.1)=us.map Sum.inr)(h64:us.length<64)
  (h:∀h' d tk (l:Addr) (out:List Value) (ss:List Str) (e:Nat),StrsAre out ss->ss.Perm us->sortedS ss=true->h'.get? l=some (seqObj "list" out.toArray e)->s.heap.objs.size<=l->(∀b o,s.heap.get? b=some o->h'.get? b=some o) ->
   Q (.ref l) {s with heap:=h',drawn:=d,toks:=tk}):wpAny (model prog w) A (call (.builtin "sorted") [.ref a]) Q E s:=by
 refine Calls.call_function_entry kind_sorted plain_sorted entry_sorted (args_sorted1 _) ?_
 unfold Builtin.«sorted»
 refine qa_ (m:=checkCount "sorted" 1 1 _) (qb_ ?_)
 refine qa_ (zDo (by simp[hh]) hsm S hks (qZ_ (qq1_ h64 (by decide))) λh1 d tk acc vs hs hp le kp=>?_)
 have hlen:acc.length<64:=by rw[gV hs,hp.length_eq];exact h64
 refine qa_ (wpAny_newList ?_ (qZ_ (qq1_ hlen (by decide))))
 have hoL:(h1.push (seqObj "list" acc.toArray 0)).get? h1.objs.size=some (seqObj "list" acc.toArray 0):=qj_ _ rfl
 refine qa_ (qC_ (qJ_ slot_list_sort ⟨_,hoL,rfl⟩ entry_list_sort (list_sort_treeK strKind_oneLt hoL hs.keysOf (λv₁ v₂ rest e=>keyKind_strs (by rw[<-e];exact hs)) hlen λst' a1 a2=>⟨_,rfl,?_⟩) (args_list_sort _)))
 obtain⟨ss',b1,b2,b3⟩:=sorted_out_str hs a1 a2
 obtain⟨e,he⟩:=sortedHeap_at (out:=(arrOf st').map (·.2)) hoL
 refine qb_ ⟨_,rfl,h _ _ _ _ ((arrOf st').map (·.2)).toList ss' e b1 (b2.trans hp) b3 (by rw[qz2_];exact he) (qZ_ le) λb o q=>?_⟩
 have lt:=qf_ (kp b o q)
 rw[sortedHeap_old (qm_ lt) (by rw[qx_];exact qk1_ lt)]
 exact qd_ _ (kp b o q)
end
section
variable{X:Cx}
def zIi:List V->Hp->VK->Prop:=λxs H Q=>∃(a:Addr) (ob:Obj) (kvs:List (Key×V)) (us:List Str),xs=[.ref a]/\FzD H a ob kvs/\kvs.map (·.1)=us.map Sum.inr/\us.length<64 /\
  ∀(ss:List Str) (l:Addr),ss.Perm us->sortedS ss=true->H l=none->Q (.ref l) (upd H l (.lst (ss.map V.str)))
theorem qX:∀{kvs:List (Key×V)}{vs:List (Key×Value)},KV kvs vs->kvs.map (·.1)=vs.map (·.1)
 |[],_,.nil=>rfl
 |_::_,_,.cons r rs=>by rw[qF_,qF_,r.1,qX rs]
theorem zDD(hc:X.calm=true):CallR X (.builtin "sorted") zIi:=by
 intro pins s σ H xs us Q I r h
 obtain⟨a,ob,kvs,uu,rfl,hz,hk,h64,q⟩:=h
 obtain⟨u,rfl,rx⟩:=cQ r
 cases rx
 obtain⟨e,hs,hl,vs,es,ep,rr,dd,hd⟩:=jO I hz
 refine zDq (I.ok.hd hc) hs dd (by rw[<-qX rr];exact hk) h64 λh' d tk l out ss e hs hp hso hl le k=>?_
 refine⟨.ref l,_,(I.laid (t':=tk) (o:=.lst (ss.map V.str)) k le ?_).draw d,rfl,q ss l hp hso (I.hok.fresh le)⟩
 refine⟨?_,out,e,pH hs,hl⟩
 rw[qc_,hp.length_eq]
 exact qZ_ (qq1_ h64 (by decide))
end
end L2
namespace L2
open PySem PySem.Spec PyProof.Rows
section
variable{X:Cx}
def zJO:List V->Hp->VK->Prop:=λxs H Q=>∃(a:Addr) (kvs:List (Key×V)),xs=[.ref a]/\Rd H a (.dK kvs)/\Q (.int kvs.length) H
theorem zEi:CallR X (.builtin "len") zJO:=by
 intro pins s σ H xs us Q I r h
 obtain⟨a,kvs,rfl,e,q⟩:=h
 obtain⟨u,rfl,rx⟩:=cQ r
 cases rx
 exact zKk I e λt s' I'=>⟨.int kvs.length,H,I',⟨t,rfl⟩,q⟩
def zKT:R2:=λx y H Q=>∃a v,x=.ref a/\jH H a y (some v)/\Q v H
theorem zHn(hu:X.A.units+1<cLine):IxR X zKT:=by
 intro value slice pins s σ H x y v u Q I rx ry h hs
 obtain⟨a,z,rfl,g,q⟩:=h
 cases rx
 have hT:=zDR I g
 unfold subscriptTail
 refine qa_ ?_
 rw[getitemInPython_of_ne hT.not_modules]
 refine qa_ (wpAny_specialOf hT PySem.F.slot_dict_getitem.lookup ?_)
 have fin:wpAny (model X.prog X.w) X.A (subscripted slice false (.ref a) u) (λr s₃=>wpAny (model X.prog X.w) X.A (letTemporaryGo value (.ref a) r >>= λ_=>pure r) (EP X pins σ Q) X.xe s₃) X.xe s:=by
  rw[hs]
  exact wpAny_operating (zFc hu I g ry λw' s3 I3 rw'=>qa_ (wpAny_letTemporaryGo (qb_ ⟨z,H,I3,rw',q⟩)))
 first
  |exact qb_ (qa_ fin)
  |exact qa_ (qb_ (qa_ fin))
  |exact qa_ fin
def zKU:R2:=λy x H Q=>∃a o,x=.ref a/\jH H a y o/\Q (.bl o.isSome) H
theorem zD5(hu:X.A.units+1<cLine):OpR X (compareOp .In) zKU:=by
 intro pins s σ H y x u v Q I ry rx h
 obtain⟨a,o,rfl,g,q⟩:=h
 cases rx
 exact zLL hu I g ry λs' I'=>⟨.bl _,H,I',rfl,q⟩
end
end L2
namespace L2
open PySem PySem.Spec PyProof.Rows
def fzb:HO->Bool
 |.lst _=>true
 |.dK _=>true
 |_=>false
def FrozenA(H H1 H2:Hp):Prop:=∀b,(H b=none/\∃o ob,fzb o=true/\H1 b=some o/\H2 b=some (.frz ob o))\/(¬ (H b=none/\∃o,fzb o=true/\H1 b=some o)/\H2 b=H1 b)
section
variable{H H1 H2:Hp}{b:Addr}{o:HO}
theorem FrozenA.keep(f:FrozenA H H1 H2)(h:H1 b=some o)(n:fzb o=false):H2 b=some o:=by
 rcases f b with⟨_,o',ob,z,e,_⟩|⟨_,z⟩
 ·rw[h]at e;cases e;rw[n]at z;exact absurd z ql_
 ·rw[z];exact h
theorem FrozenA.fz(f:FrozenA H H1 H2)(hn:H b=none)(h:H1 b=some o)(n:fzb o=true):∃ob,H2 b=some (.frz ob o):=by
 rcases f b with⟨_,o',ob,z,e,e2⟩|⟨z,_⟩
 ·rw[h]at e;cases e;exact⟨ob,e2⟩
 ·exact absurd ⟨hn,o,n,h⟩ z
theorem FrozenA.none_of(f:FrozenA H H1 H2)(h:H1 b=none):H2 b=none:=by
 rcases f b with⟨_,o',ob,z,e,e2⟩|⟨_,z⟩
 ·rw[h]at e;cases e
 ·rw[z];exact h
end
theorem Good.imp{P:Program}{w:World}{K:W.Frag}{mg:Str->Option Value}{base:Heap}{k:Nat}{x:Str}{ps:List Str}{sp sp':Sp}(G:Good P w K mg base k x ps sp)(h:∀vs H Q E,sp' vs H Q E->sp vs H Q E):Good P w K mg base k x ps sp':=by
 obtain⟨f,fd,F,b,m,kp⟩:=G
 exact⟨f,fd,F.imp h,b,m,kp⟩
theorem Good.mono{P:Program}{w:World}{K:W.Frag}{mg:Str->Option Value}{base:Heap}{j k:Nat}{x:Str}{ps:List Str}{sp:Sp}(G:Good P w K mg base j x ps sp)(h:j<=k):Good P w K mg base k x ps sp:=by
 obtain⟨f,fd,F,b,m,kp⟩:=G
 exact⟨f,fd,F.mono h,b,m,kp⟩
def zCO:HO->Bool
 |.frz _ _=>true
 |.tup _=>true
 |_=>false
def HS(H H':Hp):Prop:=∀b o,zCO o=true->H b=some o->H' b=some o
section
variable{H H1 H2:Hp}{a p c:Addr}{o:HO}
theorem HS.refl(H:Hp):HS H H:=λ_ _ _ e=>e
theorem HS.trans(x:HS H H1)(y:HS H1 H2):HS H H2:=λb o h e=>y b o h (x b o h e)
theorem Same.hs(s:Same H H1):HS H H1:=λb o _ e=>s b o e
theorem FrozenA.hs(f:FrozenA H H1 H2):HS H1 H2:=λb o h e=>f.keep e (by cases o<;>first|rfl|exact absurd h ql_)
theorem gK(h:H a=none):HS H (upd H a o):=λb u _ e=>by rw[bL (dR e h)];exact e
theorem fU{u:HO}(h:H a=some u)(n:zCO u=false):HS H (upd H a o):=λb v hv e=>by
 by_cases z:b=a
 ·subst z;rw[h]at e;cases e;rw[n]at hv;exact absurd hv ql_
 ·rw[bL z];exact e
end
end L2
namespace L2
open PySem PySem.Spec PyProof.Rows
theorem zDB:typeLookup (.type "list") "keys"=pure none:=by rw[typeLookup_type,builtinLookup_eq_fast];kernel_rfl
section
variable{prog:Program}{w:World}{A:Around}{E:Value->Shared->Prop}{s:Shared}
theorem zEm{a:Addr}{xs:Array Value}{n:Nat}{Q:Option Value->Shared->Prop}(hA:A.handled=none)(hx:s.heap.get? a=some {cls:=.type "list",data:=.seq xs n})
  (h:∀h' tk,(∀b o,s.heap.get? b=some o->h'.get? b=some o)->Q none {s with heap:=h',toks:=tk}):wpAny (model prog w) A (getAttr? (.ref a) "keys") Q E s:=by
 obtain⟨hp,g,d,tk,os⟩:=s
 have ty:∀t',(⟨hp,g,d,t',os⟩:Shared).TypeIs (.ref a) "list":=λ_=>⟨_,hx,rfl⟩
 have e1:=sub_AttributeError
 have e2:=F.slot_list_getattribute.lookup
 have e3:=F.slot_list_getattribute.bind (.ref a)
 have e4:=am_list_getattr_none
 unfold getAttr? getAttrBy? getAttrBy
 repeat (any_goals (first|assumption|exact ty _|((with_reducible show wpAny _ _ (call (Value.builtin "list.__getattribute__") _ _) _ _ _);refine call_meets F.slot_list_getattribute (ty _) am_entry_list_getattribute (F.args_list_getattribute_2 _ _) (meets_getattribute_miss_list a xs n #[] "keys" _ zDB (by decide +kernel)) ⟨hx,hA,λh' tk' e ne=>?_⟩)|wp_step))
 obtain⟨t',u',he⟩:=ne.there
 show wpAny _ _ (getattributeRaised _ _ _ _ _ _ _) _ _ _
 unfold getattributeRaised
 repeat (any_goals (first|assumption|wp_step))
 all_goals exact h _ _ ne.keeps
theorem zCu:entryFor table "dict.update.loop"=some Builtin.«dict.update.loop»:=entryFor_of_tree (by kernel_rfl)
theorem rF:plainId "dict.update.loop"=true:=by decide +kernel
theorem uJ{h h':Heap}{a:Addr}{kvs:List (Key×Value)}(hd:h.DictOf (bN prog w) a kvs)(k:∀o,h.get? a=some o->h'.get? a=some o):h'.DictOf (bN prog w) a kvs:=by
 obtain⟨o,es,ep,e,r⟩:=hd
 exact⟨o,es,ep,k o e,r⟩
def TupsAt(prog:Program)(w:World)(h:Heap)(its:Array Value)(ps:List (Key×Value)):Prop:=
 its.size=ps.length/\∀(j:Nat) (k:Key) (v:Value),ps[j]?=some (k,v)->∃t key,its[j]?=some (.ref t)/\IsTup h t #[key,v]/\(bN prog w).is k key=true
theorem TupsAt.keep{h h':Heap}{its:Array Value}{ps:List (Key×Value)}(x:TupsAt prog w h its ps)(k:∀t o,h.get? t=some o->o.cls=.type "tuple"->h'.get? t=some o):TupsAt prog w h' its ps:=
 ⟨x.1,λj kk v e=>by
  obtain⟨t,key,a,⟨o,b,c,d⟩,f⟩:=x.2 j kk v e
  exact⟨t,key,a,⟨o,k t o b c,c,d⟩,f⟩⟩
theorem zD4{R:Result->Shared->Prop}{it l dd:Addr}{its:Array Value}{ps:List (Key×Value)}(hh:A.handled=none)(hli:l≠it)(hdi:dd≠it)(hdl:dd≠l)(hsz:ps.length<=1000):
  ∀(m i:Nat) (s:Shared) (kvs:List (Key×Value)) (tk:Tok),ps.length=i+m->s.heap.IsListIter it l i/\s.heap.IsList l its->TupsAt prog w s.heap its ps->s.heap.DictOf (bN prog w) dd kvs->kvs.length<=i ->
   (∀h' tk',h'.DictOf (bN prog w) dd ((ps.drop i).foldl (λacc kv=>stored acc kv.1 kv.2) kvs)->(∀b o,b≠it->b≠dd->s.heap.get? b=some o->h'.get? b=some o)->R (.ok (.ret .none)) {s with heap:=h',toks:=tk'}) ->
   codeAny (model prog w) A (.builtin "dict.update.loop" ⟨[.ref dd,.ref it,.int i tk,.none],[]⟩) R s:=by
 have W:=Walks.list (prog:=prog) (w:=w) (A:=A.in1) (by simp[hh]) it l hli its
 intro m
 induction m with
 |zero=>
  intro i s kvs tk hm st ht hd hl hR
  refine qY_ zCu ?_
  rw[qh1_ rF _]
  unfold Builtin.«dict.update.loop»
  refine qa_ (W.done s _ _ (by rw[ht.1,hm];exact st) λh' tk' k=>?_)
  refine qa_ (qb_ (qb_ ?_))
  have e:ps.drop i=[]:=List.drop_of_length_le (by omega)
  rw[e]at hR
  refine hR h' tk' (uJ hd λo e=>k dd o (by simp[hdi]) e) λb o n1 _ e=>k b o (by simp[n1]) e
 |succ m ih=>
  intro i s kvs tk hm st ht hd hl hR
  have hi:i<ps.length:=by omega
  have hp:ps[i]?=some (ps[i].1,ps[i].2):=qk_ hi
  obtain⟨t,key,e1,htt,hkey⟩:=ht.2 i _ _ hp
  refine qY_ zCu ?_
  rw[qh1_ rF _]
  unfold Builtin.«dict.update.loop»
  refine qa_ (W.item i s _ _ (by rw[ht.1];exact hi) st λv h' tk' hv st' k=>?_)
  have hv:v=.ref t:=by rw[e1]at hv;exact(Option.some.inj hv).symm
  subst hv
  have nti:∀b o,s.heap.get? b=some o->o.cls=.type "tuple"->b≠it:=λb o e c z=>by
   obtain⟨o',e',c',_⟩:=st.1
   rw[<-z,e]at e'
   cases e'
   rw[c]at c'
   exact absurd c' (by decide)
  have ntd:∀b o,s.heap.get? b=some o->o.cls=.type "tuple"->b≠dd:=λb o e c z=>by
   obtain⟨o',e',c'⟩:=hd.typeIs
   rw[<-z,e]at e'
   cases e'
   rw[c]at c'
   exact absurd c' (by decide)
  obtain⟨ot,et,ct,nt,dt⟩:=htt
  have et':=k t ot (by simp[nti t ot et ct]) et
  have hd':h'.DictOf (bN prog w) dd kvs:=uJ hd λo e=>k dd o (by simp[hdi]) e
  have ty:Shared.TypeIs {s with heap:=h',toks:=tk'} (.ref t) "tuple":=⟨ot,et',ct⟩
  refine qa_ (qC_ ?_)
  refine qa_ (wpAny_tryCatch ?_)
  unfold Builtin.Dict.pairItems
  refine qa_ (wpAny_typeOf ty ?_)
  rw[if_pos (by decide)]
  refine qa_ (wpAny_seqItems et' dt (qb_ ?_))
  refine qC_ (wpAny_dictSet_pairs hkey hd' (λh2 hd2 sb=>?_) (by rw[sizeLine_eq];omega))
  refine qb_ ⟨plainId_quiet rF _,?_⟩
  have l2:=sb.2 l hdl.symm
  refine ih (i+1) _ (stored kvs ps[i].1 ps[i].2) _ (by omega) ?_ ?_ hd2 ?_ λh3 tk3 hd3 k3=>?_
  ·refine W.frame (i+1) h' h2 st' λb hb o e=>?_
   rcases qy_.mp hb with z|z
   ·rw[z]at e ⊢;exact(sb.2 it hdi.symm).trans e
   ·rw[qW_.mp z]at e ⊢;exact l2.trans e
  ·exact ht.keep λb o e c=>(sb.2 b (ntd b o e c)).trans (k b o (by simp[nti b o e c]) e)
  ·unfold stored
   split
   ·rw[qc_];omega
   ·rw[qh_];show kvs.length+1<=_;omega
  ·refine hR h3 tk3 ?_ λb o n1 n2 e=>k3 b o n1 n2 ((sb.2 b n2).trans (k b o (by simp[n1]) e))
   rw[show ps.drop i=ps[i]::ps.drop (i+1) from qC2_ hi]
   exact hd3
theorem zDz{l:Addr}{its:Array Value}{nl:Nat}{ps:List (Key×Value)}{Q:Value->Shared->Prop}(hh:A.handled=none)(hl:s.heap.get? l=some {cls:=.type "list",data:=.seq its nl})(ht:TupsAt prog w s.heap its ps)(hsz:ps.length<=1000)
  (h:∀h' tk,h'.DictOf (bN prog w) s.heap.objs.size (ps.foldl (λacc kv=>stored acc kv.1 kv.2) [])->(∀b o,s.heap.get? b=some o->h'.get? b=some o)->Q (.ref s.heap.objs.size) {s with heap:=h',toks:=tk}):
  wpAny (model prog w) A (call (.type "dict") [.ref l]) Q E s:=by
 refine callType_codes (Q₁:=λobj s₁=>obj=.ref s.heap.objs.size/\s₁={s with heap:=s.heap.push {cls:=.type "dict",data:=.dict #[]}}) F.kt_called_dict (F.kt_typeCall_dict_1 _) F.entry_dict_init (kt_code_dict_new _ ⟨rfl,rfl⟩) ?_
 rintro obj s₁ ⟨rfl,rfl⟩
 have new:(s.heap.push {cls:=.type "dict",data:=.dict #[]}).DictOf (bN prog w) s.heap.objs.size []:=Heap.DictOf.new s.heap
 have hl1:(s.heap.push {cls:=.type "dict",data:=.dict #[]}).get? l=some {cls:=.type "list",data:=.seq its nl}:=qd_ _ hl
 have llt:=qf_ hl
 refine⟨new.typeIs,F.args_dict_init_2 _ _,?_⟩
 unfold Builtin.«dict.__init__»
 refine qa_ ?_
 unfold Builtin.Dict.selfAndRest
 refine qa_ (wpAny_notOrdered_dict new.typeIs ?_)
 show wpAny _ _ (pure (s.heap.objs.size,[Value.ref l])) _ _ _
 refine qb_ ?_
 show wpAny _ _ (Builtin.Dict.updateFrom "dict.__init__" s.heap.objs.size (.ref l) [] .none) _ _ _
 unfold Builtin.Dict.updateFrom
 refine qa_ (wpAny_typeOf (T:="list") ⟨_,hl1,rfl⟩ ?_)
 rw[if_pos (by decide)]
 refine qa_ (zEm (by simp[hh]) hl1 λh2 tk2 k2=>?_)
 rw[if_pos (by decide)]
 refine qa_ (wpAny_rule ?_)
 have hl2:=k2 _ _ hl1
 have isl:Heap.IsList h2 l its:=⟨_,hl2,rfl,nl,rfl⟩
 refine qa_ (wpAny_pyIter_list isl ?_)
 have sz2:s.heap.objs.size<h2.objs.size:=by
  have:(s.heap.push {cls:=.type "dict",data:=.dict #[]}).get? s.heap.objs.size=some _:=qj_ _ rfl
  exact qf_ (k2 _ _ this)
 refine qb_ ⟨plainId_quiet rF _,zD4 (A:=A.in1) (its:=its) (ps:=ps) (by simp[hh]) (qm_ (qf_ hl2)) (qm_ sz2) (qE_ llt) hsz ps.length 0 _ [] _ (by simp) ⟨⟨_,qj_ _ rfl,rfl,rfl⟩,isl.push _⟩ ?_ ?_ (qu_ _) λh3 tk3 hd3 k3=>?_⟩
 ·exact ht.keep λb o e _=>qd_ _ (k2 _ _ (qd_ _ e))
 ·exact(uJ new λo e=>k2 _ _ e).push _
 ·refine⟨rfl,h h3 tk3 hd3 λb o e=>?_⟩
  have lt:=qf_ e
  exact k3 b o (qm_ (qq1_ lt sz2)) (qm_ lt) (qd_ _ (k2 _ _ (qd_ _ e)))
end
section
variable{X:Cx}
theorem zHt:∀{ps:List (Key×V)}{qs:List (Key×Value)}{kvs:List (Key×V)}{vs:List (Key×Value)},KV ps qs->KV kvs vs->KV (hZ kvs ps) (qs.foldl (λacc kv=>stored acc kv.1 kv.2) vs):=by
 intro ps qs kvs vs r
 unfold KV at r
 induction r generalizing kvs vs with
 |nil=>intro q;exact q
 |@cons p q ps qs h t ih=>
  intro r0
  refine ih (kvs:=dF kvs p.1 p.2) (vs:=stored vs q.1 q.2) ?_
  rw[<-h.1]
  exact r0.put p.1 h.2
end
end L2
namespace WordM
open PySem
def sigA:Str:=" !\"#$&'()*+,-./0123456789:;<=>?@ABCDEFGHIJKLMNOPQRSTUVWXYZ[\\]^_`"
def sigB:Str:="abcdefghijklmnopqrstuvwxyz{|}~"
def SIG:Str:=sigA++sigB
abbrev cs(x:Str):List Nat:=x.cps.toList
def mH:Str:="0123456789"
def nX:Str:="ABCDEFGHIJKLMNOPQRSTUVWXYZ"
def zIe:Str:=" !\"#$&'()*+,-./:;<=>?\x40[\\]^_`{|}~"
def rB:Str:="abcdefghijklmnopqrstuvwxyz"
def SGN:List (Str×Str):=[("figure",mH),("great",nX),("other",zIe),("small",rB)]
def MK:List Str:=["figure","great","other","small"]
def Sg(x:Str):Prop:=∀c∈cs x,c∈cs SIG
instance (x:Str):Decidable (Sg x):=by unfold Sg;infer_instance
def eP(c:Nat):Str:=if c∈cs mH then "figure" else if c∈cs nX then "great" else if c∈cs rB then "small" else "other"
def jE(x m:Str):Bool:=(cs x).any λc=>decide (c∈cs ((L2.getS SGN m).getD ⟨#[]⟩))
def dE(x:Str):List Str:=MK.filter λm=>jE x m
theorem app(a b:Str):cs (a++b)=cs a++cs b:=by
 show(a.cps++b.cps).toList=_
 simp
theorem len(a:Str):a.length=(cs a).length:=by simp[Str.length]
theorem Sg.app{a b:Str}(ha:Sg a)(hb:Sg b):Sg (a++b):=λc hc=>by
 rw[WordM.app]at hc
 rcases qp_.mp hc with z|z
 ·exact ha c z
 ·exact hb c z
theorem Sg.one{x:Str}(h:Sg x){c:Nat}(hc:c∈cs x):Sg ⟨#[c]⟩:=λd hd=>by
 have:d=c:=by simpa using hd
 rw[this]
 exact h c hc
theorem zIb:Sg ⟨#[]⟩:=λc hc=>by simp at hc
theorem zEz{x:Str}{l u:Option Int}{c:Nat}(h:c∈cs (Txt.slice x l u)):c∈cs x:=by
 unfold Txt.slice at h
 split at h
 ·exact h
 ·simp only[cs,List.toList_toArray,List.mem_filterMap]at h
  obtain⟨i,_,hi⟩:=h
  obtain⟨hlt,e⟩:=qo3_.mp hi
  rw[<-e]
  simp
theorem Sg.slice{x:Str}(h:Sg x)(l u:Option Int):Sg (Txt.slice x l u):=λc hc=>h c (zEz hc)
theorem slice_len(x:Str)(l u:Option Int):(Txt.slice x l u).length<=x.length:=Txt.slice_le x l u
theorem kD{a b:Str}(h:cs a=cs b):a=b:=by
 obtain⟨a⟩:=a
 obtain⟨b⟩:=b
 have:a=b:=Array.toList_inj.mp h
 rw[this]
theorem zDZ{c:Nat}{r:Str}:Txt.slice ((⟨#[c]⟩:Str)++r) (some 1) none=r:=by
 refine kD ?_
 have hl:(((⟨#[c]⟩:Str)++r).length)=1+r.length:=by rw[len,app,len];simp
 rw[PyProof.Rows.slice_from_eq (b:=((((⟨#[c]⟩:Str)++r).length:Nat):Int)) (by decide) (by omega) rfl]
 show((cs ((⟨#[c]⟩:Str)++r)).drop 1).take _=_
 rw[app]
 show((c::cs r).drop 1).take _=cs r
 rw[List.drop_one,List.tail_cons,qg2_]
 rw[hl,len]
 omega
theorem zDM{x:Str}(h:x.length=0):Txt.slice x (some 1) none=x:=by
 have h1:=slice_len x (some 1) none
 refine kD ?_
 have e1:cs (Txt.slice x (some 1) none)=[]:=qM1_ (by rw[<-len];omega)
 have e2:cs x=[]:=qM1_ (by rw[<-len];omega)
 rw[e1,e2]
theorem qS{c:Nat}(h:c∈cs SIG):∀m∈MK,(c∈cs ((L2.getS SGN m).getD ⟨#[]⟩)↔eP c=m):=by
 revert c
 decide +kernel
theorem mark_in(c:Nat):eP c∈MK:=by
 unfold eP
 split
 ·decide
 ·split
  ·decide
  ·split
   ·decide
   ·decide
theorem vG:SIG.length=94:=by decide +kernel
theorem zEA:(cs SIG).Nodup:=by decide +kernel
theorem zD0(x:Str):(Txt.slice x (some 1) none).length+1<=(if x.length<1 then 1 else x.length):=by
 by_cases h:x.length=0
 ·rw[zDM h,if_pos (by omega)]
  omega
 ·rw[if_neg (by omega)]
  rw[PyProof.Rows.slice_from_eq (b:=(x.length:Int)) (by decide) (by omega) rfl]
  show(((cs x).drop 1).take _).toArray.size+1<=_
  rw[qo_,qO_,qI1_,<-len]
  omega
theorem nodup_len{α:Type}[DecidableEq α]:∀{l m:List α},l.Nodup->(∀x∈l,x∈m)->l.length<=m.length
 |[],m,_,_=>qu_ _
 |x::l,m,hn,hs=>by
  have hx:=hs x qi1_
  have h2:=qQ1_.mp hn
  have ih:=nodup_len (l:=l) (m:=m.erase x) h2.2 λy hy=>by
   have hne:y≠x:=λe=>h2.1 (e▸hy)
   exact(List.mem_erase_of_ne hne).mpr (hs y (qb1_ _ hy))
  rw[List.length_erase_of_mem hx]at ih
  have:0<m.length:=List.length_pos_of_mem hx
  rw[qI_]
  omega
def fF(a:Int):Nat:=(cs SIG).getD (a % 94).toNat 0
theorem zEB(a:Int):fF a∈cs SIG:=by
 have hl:(a % 94).toNat<(cs SIG).length:=by
  rw[<-len,vG]
  have:=qC1_ a (show(0:Int)<94 by decide)
  have:=qD1_ a (show(94:Int)≠0 by decide)
  omega
 unfold fF
 rw[qV_,qk_ hl]
 exact qL1_ hl
theorem zEC{a b:Int}(h:fF a=fF b):a % 94=b % 94:=by
 have b1:=qC1_ a (show(0:Int)<94 by decide)
 have b2:=qD1_ a (show(94:Int)≠0 by decide)
 have b3:=qC1_ b (show(0:Int)<94 by decide)
 have b4:=qD1_ b (show(94:Int)≠0 by decide)
 have hl:(cs SIG).length=94:=by rw[<-len];exact vG
 unfold fF at h
 rw[qV_,qV_,qk_ (by omega),qk_ (by omega)]at h
 have h:(cs SIG)[(a % 94).toNat]=(cs SIG)[(b % 94).toNat]:=h
 have hp:=List.pairwise_iff_getElem.mp zEA
 rcases Nat.lt_trichotomy (a % 94).toNat (b % 94).toNat with z|z|z
 ·exact absurd h (hp _ _ (by omega) (by omega) z)
 ·omega
 ·exact absurd h.symm (hp _ _ (by omega) (by omega) z)
def fI(a:Int)(r:Str)(i:Nat):Str:=(⟨#[fF (a+i)]⟩:Str)++r
theorem zFB{a:Int}{r:Str}{i j:Nat}(hi:i<90)(hj:j<90)(h:fI a r i=fI a r j):i=j:=by
 have h1:cs (fI a r i)=cs (fI a r j):=by rw[h]
 unfold fI at h1
 rw[app,app]at h1
 have h2:fF (a+i)=fF (a+j):=by
  have:=List.cons.inj h1
  exact this.1
 have:=zEC h2
 omega
theorem zFC{a:Int}{r:Str}{ss:List Str}{j:Nat}(hj:j<80)(h:∀i,1<=i->i<=j->fI a r i∈ss):j<=ss.length:=by
 have:=nodup_len (l:=(List.range j).map λi=>fI a r (i+1)) (m:=ss) (by
  unfold List.Nodup
  rw[qI2_]
  refine List.Pairwise.imp_of_mem (λ{x y} hx hy hlt e=>?_) List.pairwise_lt_range
  have hx:=qu1_.mp hx
  have hy:=qu1_.mp hy
  have:=zFB (by omega) (by omega) e
  omega) (λx hx=>by
  obtain⟨i,hi,rfl⟩:=qg_.mp hx
  have:=qu1_.mp hi
  exact h (i+1) (by omega) (by omega))
 simpa using this
end WordM
namespace L2
open PySem PySem.Spec PyProof.Rows WordM
section
variable{α β:Type}{F G:α->β->Prop}
theorem eZ:∀{xs:List α}{ys:List β}{i:Nat}{x:α},Paired F xs ys->xs[i]?=some x->∃y,ys[i]?=some y/\F x y
 |_,_,_,_,.nil,e=>by simp at e
 |_,_,0,_,.cons r _,e=>by simp at e;subst e;exact⟨_,rfl,r⟩
 |_,_,i+1,x,.cons _ t,e=>by
  obtain⟨u,h1,h2⟩:=eZ (i:=i) (x:=x) t (by simpa using e)
  exact⟨u,by simpa using h1,h2⟩
end
inductive Tv where
 |leaf (v:V)
 |seq (t:Bool) (xs:List Tv)
 |dct (kts:List (Str×Tv))
def VT(S:Bool->Addr->List V->Prop)(D:Addr->List (Key×V)->Prop):Nat->V->Tv->Prop
 |0,_,_=>False
 |d+1,x,T=>(dJ x=true/\T=.leaf x)\/(∃t a xs Ts,x=.ref a/\S t a xs/\T=.seq t Ts/\Ts.length<=100000/\Paired (VT S D d) xs Ts) \/
   ∃a kvs kts,x=.ref a/\D a kvs/\T=.dct kts/\(kts.map (·.1)).Nodup/\kts.length<64/\Paired (λ(kv:Key×V) (kt:Str×Tv)=>kv.1=.inr kt.1/\VT S D d kv.2 kt.2) kvs kts
section
variable{S S':Bool->Addr->List V->Prop}{D D':Addr->List (Key×V)->Prop}
theorem VT.mono(hs:∀t a xs,S t a xs->S' t a xs)(hd:∀a kvs,D a kvs->D' a kvs):∀{d:Nat}{x:V}{T:Tv},VT S D d x T->VT S' D' d x T
 |0,_,_,h=>False.elim h
 |d+1,x,T,h=>by
  rcases h with h|⟨t,a,xs,Ts,h1,h2,h3,hz,h4⟩|⟨a,kvs,kts,h1,h2,h3,h4,h5,h6⟩
  ·exact .inl h
  ·exact .inr (.inl ⟨t,a,xs,Ts,h1,hs _ _ _ h2,h3,hz,Paired.mapP h4 λ_ _ q=>VT.mono hs hd q⟩)
  ·exact .inr (.inr ⟨a,kvs,kts,h1,hd _ _ h2,h3,h4,h5,Paired.mapP h6 λ_ _ q=>⟨q.1,VT.mono hs hd q.2⟩⟩)
theorem VT.more:∀{d:Nat}{x:V}{T:Tv},VT S D d x T->VT S D (d+1) x T
 |0,_,_,h=>False.elim h
 |d+1,x,T,h=>by
  rcases h with h|⟨t,a,xs,Ts,h1,h2,h3,hz,h4⟩|⟨a,kvs,kts,h1,h2,h3,h4,h5,h6⟩
  ·exact .inl h
  ·exact .inr (.inl ⟨t,a,xs,Ts,h1,h2,h3,hz,Paired.mapP h4 λ_ _ q=>VT.more q⟩)
  ·exact .inr (.inr ⟨a,kvs,kts,h1,h2,h3,h4,h5,Paired.mapP h6 λ_ _ q=>⟨q.1,VT.more q.2⟩⟩)
theorem VT.le{d e:Nat}(h:d<=e){x:V}{T:Tv}(q:VT S D d x T):VT S D e x T:=by
 obtain⟨k,rfl⟩:=Nat.le.dest h
 clear h
 induction k with
 |zero=>exact q
 |succ k ih=>exact VT.more ih
end
def HDct(H:Hp)(a:Addr)(kvs:List (Key×V)):Prop:=∃ob,FzD H a ob kvs
section
variable{K:W.Frag}{H H':Hp}{d:Nat}{x:V}{T:Tv}
theorem HDct.hs(e:HS H H'){a:Addr}{kvs:List (Key×V)}(h:HDct H a kvs):HDct H' a kvs:=by
 obtain⟨ob,h⟩:=h
 exact⟨ob,e _ _ rfl h⟩
end
theorem zD2:∀(p:Str) (l:List Str),risingS p l=true->∀x∈l,(cs x<cs p)->False:=by
 intro p l
 induction l generalizing p with
 |nil=>intro _ x hx;simp at hx
 |cons y l ih=>
  intro h x hx hlt
  have h:(!PySem.Spec.ltCps y.cps.toList p.cps.toList&&risingS y l)=true:=h
  rw[qR1_]at h
  have hy:¬ (cs y<cs p):=by
   have:=h.1
   rw[ltCps_eq]at this
   simpa using this
  rcases qy_.mp hx with z|z
  ·subst z;exact hy hlt
  ·have hxy:¬ (cs x<cs y):=λq=>ih y h.2 x z q
   have h1:cs p<=cs y:=qa1_.mp hy
   have h2:cs y<=cs x:=qa1_.mp hxy
   exact absurd hlt (qa1_.mpr (qN2_ h1 h2))
theorem pO:∀(l:List Str),sortedS l=true->l.Pairwise λa b=>cs a<=cs b
 |[],_=>.nil
 |x::l,h=>by
  have h:risingS x l=true:=h
  refine .cons (λy hy=>qa1_.mp λz=>zD2 x l h y hy z) (pO l ?_)
  cases l with
  |nil=>rfl
  |cons y l=>
   have h:(!PySem.Spec.ltCps y.cps.toList x.cps.toList&&risingS y l)=true:=h
   rw[qR1_]at h
   exact h.2
open Classical in
noncomputable def aV(us:List Str):List Str:=if h:∃ss:List Str,ss.Perm us/\sortedS ss=true then h.choose else us
theorem eM(us:List Str):(aV us).Perm us:=by
 unfold aV
 split
 ·rename_i h;exact h.choose_spec.1
 ·exact .refl _
theorem mZ{us ss:List Str}(h1:ss.Perm us)(h2:sortedS ss=true):ss=aV us:=by
 have ex:∃ss:List Str,ss.Perm us/\sortedS ss=true:=⟨ss,h1,h2⟩
 have e:aV us=ex.choose:=by unfold aV;rw[dif_pos ex]
 rw[e]
 exact List.Perm.eq_of_pairwise (λa b _ _ h1 h2=>kD (List.le_antisymm h1 h2)) (pO _ h2) (pO _ ex.choose_spec.2) (h1.trans ex.choose_spec.1.symm)
def bY(kts:List (Str×Tv))(k:Str):Option Tv:=(kts.find? λkt=>decide (kt.1=k)).map (·.2)
section
variable{S:Bool->Addr->List V->Prop}{D:Addr->List (Key×V)->Prop}{d:Nat}
theorem qU{kvs:List (Key×V)}{kts:List (Str×Tv)}{R:V->Tv->Prop}(h:Paired (λ(kv:Key×V) (kt:Str×Tv)=>kv.1=.inr kt.1/\R kv.2 kt.2) kvs kts)(k:Str):
  (bY kts k=none/\dW kvs (.inr k)=none)\/∃U v,bY kts k=some U/\dW kvs (.inr k)=some v/\R v U:=by
 induction h with
 |nil=>exact .inl ⟨rfl,rfl⟩
 |@cons kv kt l1 l2 h _ ih=>
  obtain⟨e,r⟩:=h
  by_cases z:kt.1=k
  ·refine .inr ⟨kt.2,kv.2,?_,qC (by rw[e,z]),r⟩
   unfold bY
   rw[qU1_,qS_ z]
   rfl
  ·have e2:bY (kt::l2) k=bY l2 k:=by
    unfold bY
    rw[qU1_,qH_ z]
   have e3:dW (kv::l1) (.inr k)=dW l1 (.inr k):=qD (by rw[e];exact λq=>z (Sum.inr.inj q))
   rw[e2,e3]
   exact ih
theorem look_mem{kts:List (Str×Tv)}{k:Str}(h:k∈kts.map (·.1)):∃U,bY kts k=some U:=by
 induction kts with
 |nil=>cases h
 |cons kt l ih=>
  by_cases z:kt.1=k
  ·exact⟨kt.2,by unfold bY;rw[qU1_,qS_ z];rfl⟩
  ·rcases qy_.mp h with q|q
   ·exact absurd q.symm z
   ·obtain⟨U,hU⟩:=ih q
    refine⟨U,?_⟩
    unfold bY at hU ⊢
    rw[qU1_,qH_ z]
    exact hU
end
theorem SqT.hs{K:W.Frag}{H H':Hp}{a:Addr}{xs:List V}(e:HS H H')(h:SqT K H a xs):SqT K H' a xs:=by
 rcases h with (h|⟨o,h⟩)|h
 ·exact .inl (.inl (e _ _ rfl h))
 ·exact .inl (.inr ⟨o,e _ _ rfl h⟩)
 ·exact .inr h
theorem pP{α β:Type}{F:α->β->Prop}{a c:List α}{b d:List β}(h1:Paired F a b)(h2:Paired F c d):Paired F (a++c) (b++d):=by
 induction h1 with
 |nil=>exact h2
 |cons r _ ih=>exact .cons r ih
end L2
namespace L2
open PySem PySem.Spec PyProof.Rows
abbrev pB:Hp:=λ_=>none
def Thaw(H H3 H4:Hp):Prop:=∀b,(∃o ob,fzb o=true/\H b=some o/\H3 b=some (.frz ob o)/\H4 b=some o)\/((¬ ∃o ob,fzb o=true/\H b=some o/\H3 b=some (.frz ob o))/\H4 b=H3 b)
theorem zBo(H H3:Hp):∃H4,Thaw H H3 H4:=by
 classical
 refine⟨λb=>if h:∃o ob,fzb o=true/\H b=some o/\H3 b=some (.frz ob o) then some h.choose else H3 b,λb=>?_⟩
 by_cases h:∃o ob,fzb o=true/\H b=some o/\H3 b=some (.frz ob o)
 ·obtain⟨ob,h1,h2,h3⟩:=h.choose_spec
  exact .inl ⟨h.choose,ob,h1,h2,h3,by dsimp only;rw[dif_pos h]⟩
 ·exact .inr ⟨h,by dsimp only;rw[dif_neg h]⟩
theorem zAk{P:Program}{w:World}{H:Hp}{h:Heap}(hok:HOk P w H h):∃H2,FrozenA pB H H2/\HOk P w H2 h:=by
 let H2:Hp:=λb=>match H b with
  |none=>none
  |some o=>match fzb o with
   |false=>some o
   |true=>match h.get? b with
    |some ob=>some (.frz ob o)
    |none=>some o
 have new:∀b o ob,H b=some o->fzb o=true->h.get? b=some ob->H2 b=some (.frz ob o):=λb o ob h1 n e=>by
  show(match H b with|none=>none|some o=>_)=_
  rw[h1]
  dsimp only
  rw[n,e]
 have rest:∀b,(∀o,H b=some o->fzb o=false)->H2 b=H b:=λb hn=>by
  show(match H b with|none=>none|some o=>_)=_
  cases e:H b with
  |none=>rfl
  |some o=>
   dsimp only
   rw[hn o e]
 have fro:FrozenA pB H H2:=λb=>by
  cases h1:H b with
  |none=>exact .inr ⟨(λ⟨_,_,_,z⟩=>by cases z),by rw[rest b (λo z=>by rw[h1]at z;cases z),h1]⟩
  |some o=>
   cases n:fzb o with
   |true=>
    obtain⟨ob,e⟩:=(hok b o h1).there
    exact .inl ⟨rfl,o,ob,n,rfl,new b o ob h1 n e⟩
   |false=>exact .inr ⟨(λ⟨_,o',n',z⟩=>by cases z;rw[n]at n';exact absurd n' ql_),by rw[rest b (λo' z=>by rw[h1]at z;cases z;exact n),h1]⟩
 refine⟨H2,fro,λb o e=>?_⟩
 have st:∀o,ObjOk P w H h b o->ObjOk P w H2 h b o:=λo x=>x.stay (λ_ _ _ r=>r) (λd r=>fro.keep r rfl) λd xs r=>fro.keep r rfl
 rcases fro b with⟨hn,o',ob,n,z,z'⟩|⟨_,z'⟩
 ·obtain⟨ob2,e2⟩:=(hok b o' z).there
  have q2:=new b o' ob2 z n e2
  rw[e]at q2
  cases q2
  exact⟨e2,st _ (hok b _ z)⟩
 ·rw[z']at e
  exact st o (hok b o e)
section
variable{H H2 H3 H4:Hp}{b:Addr}{o:HO}
theorem Thaw.same(f:FrozenA pB H H2)(s:Same H2 H3)(t:Thaw H H3 H4):Same H H4:=λb o e=>by
 cases n:fzb o with
 |true=>
  obtain⟨ob,e2⟩:=f.fz (b:=b) rfl e n
  have e3:=s b _ e2
  rcases t b with⟨u,ob',_,z,_,z'⟩|⟨z,_⟩
  ·rw[e]at z;cases z;exact z'
  ·exact absurd ⟨o,ob,n,e,e3⟩ z
 |false=>
  have e3:=s b _ (f.keep e n)
  rcases t b with⟨u,ob',n',z,_⟩|⟨_,z⟩
  ·rw[e]at z;cases z;rw[n]at n';exact absurd n' ql_
  ·rw[z];exact e3
end
theorem zAd:∀{ps kvs:List (Key×V)},((kvs++ps).map (·.1)).Nodup->hZ kvs ps=kvs++ps
 |[],kvs,_=>by show kvs=kvs++[];rw[qN_]
 |p::ps,kvs,h=>by
  have hv:dW kvs p.1=none:=by
   cases e:dW kvs p.1 with
   |none=>rfl
   |some v=>
    have:=zGv e
    rw[qG_,qy2_]at h
    exact absurd rfl (h.2.2 p.1 this p.1 (by simp))
  show hZ (dF kvs p.1 p.2) ps=_
  rw[zFJ p.2 hv,zAd (by simpa using h),qA1_]
  rfl
end L2
namespace L2
open PySem PySem.Spec PyProof.Rows WordM
def PSeq(K:W.Frag)(H:Hp)(t:Bool)(a:Addr)(xs:List V):Prop:=match t with
 |false=>∃ob,H a=some (.frz ob (.lst xs))
 |true=>SqT K H a xs
abbrev VP(K:W.Frag)(H:Hp):Nat->V->Tv->Prop:=VT (PSeq K H) (HDct H)
def VA(K:W.Frag)(H:Hp)(x:V)(T:Tv):Prop:=∃d,VP K H d x T
abbrev VAs(K:W.Frag)(H:Hp):List V->List Tv->Prop:=Paired (VA K H)
def VAk(K:W.Frag)(H:Hp):List (Key×V)->List (Str×Tv)->Prop:=Paired λ(kv:Key×V) (kt:Str×Tv)=>kv.1=.inr kt.1/\VA K H kv.2 kt.2
section
variable{K:W.Frag}{H H' H1 H2:Hp}{x y v:V}{T U:Tv}{a:Addr}{xs:List V}{Ts:List Tv}{t:Bool}{kvs:List (Key×V)}{kts:List (Str×Tv)}
theorem PSeq.hs(e:HS H H')(h:PSeq K H t a xs):PSeq K H' t a xs:=by
 cases t with
 |false=>obtain⟨ob,h⟩:=h;exact⟨ob,e _ _ rfl h⟩
 |true=>exact SqT.hs e h
theorem VA.hs(e:HS H H')(h:VA K H x T):VA K H' x T:=by
 obtain⟨d,h⟩:=h
 exact⟨d,h.mono (λ_ _ _ q=>q.hs e) λ_ _ q=>q.hs e⟩
theorem VAs.hs(e:HS H H')(h:VAs K H xs Ts):VAs K H' xs Ts:=Paired.mapP h λ_ _ q=>q.hs e
theorem VAk.hs(e:HS H H')(h:VAk K H kvs kts):VAk K H' kvs kts:=Paired.mapP h λ_ _ q=>⟨q.1,q.2.hs e⟩
theorem VAs.deep(h:VAs K H xs Ts):∃d,Paired (VP K H d) xs Ts:=by
 induction h with
 |nil=>exact⟨0,.nil⟩
 |cons r _ ih=>
  obtain⟨d,r⟩:=r
  obtain⟨e,ih⟩:=ih
  exact⟨max d e,.cons (r.le (Nat.le_max_left _ _)) (Paired.mapP ih λ_ _ q=>VT.le (Nat.le_max_right _ _) q)⟩
theorem VAk.deep(h:VAk K H kvs kts):∃d,Paired (λ(kv:Key×V) (kt:Str×Tv)=>kv.1=.inr kt.1/\VP K H d kv.2 kt.2) kvs kts:=by
 unfold VAk at h
 induction h with
 |nil=>exact⟨0,.nil⟩
 |cons r _ ih=>
  obtain⟨k,d,r⟩:=r
  obtain⟨e,ih⟩:=ih
  exact⟨max d e,.cons ⟨k,r.le (Nat.le_max_left _ _)⟩ (Paired.mapP ih λ_ _ q=>⟨q.1,VT.le (Nat.le_max_right _ _) q.2⟩)⟩
theorem VA.flat(h:dJ x=true):VA K H x (.leaf x):=⟨1,.inl ⟨h,rfl⟩⟩
theorem VA.seq(h:PSeq K H t a xs)(z:Ts.length<=100000)(p:VAs K H xs Ts):VA K H (.ref a) (.seq t Ts):=by
 obtain⟨d,p⟩:=p.deep
 exact⟨d+1,.inr (.inl ⟨t,a,xs,Ts,rfl,h,rfl,z,p⟩)⟩
theorem VA.dct(h:HDct H a kvs)(n:(kts.map (·.1)).Nodup)(z:kts.length<64)(p:VAk K H kvs kts):VA K H (.ref a) (.dct kts):=by
 obtain⟨d,p⟩:=p.deep
 exact⟨d+1,.inr (.inr ⟨a,kvs,kts,rfl,h,rfl,n,z,p⟩)⟩
theorem VA.leafI(h:VA K H x (.leaf v)):x=v/\dJ v=true:=by
 obtain⟨d,h⟩:=h
 cases d with
 |zero=>exact False.elim h
 |succ d=>
  rcases h with⟨f,e⟩|⟨_,_,_,_,_,_,e,_⟩|⟨_,_,_,_,_,e,_⟩
  ·cases e;exact⟨rfl,f⟩
  ·cases e
  ·cases e
theorem VA.seqI(h:VA K H x (.seq t Ts)):∃a xs,x=.ref a/\PSeq K H t a xs/\Ts.length<=100000/\VAs K H xs Ts:=by
 obtain⟨d,h⟩:=h
 cases d with
 |zero=>exact False.elim h
 |succ d=>
  rcases h with⟨_,e⟩|⟨t',a,xs,Ts',e1,hs,e,z,p⟩|⟨_,_,_,_,_,e,_⟩
  ·cases e
  ·cases e;exact⟨a,xs,e1,hs,z,Paired.mapP p λ_ _ q=>⟨d,q⟩⟩
  ·cases e
theorem VA.dctI(h:VA K H x (.dct kts)):∃a kvs,x=.ref a/\HDct H a kvs/\(kts.map (·.1)).Nodup/\kts.length<64/\VAk K H kvs kts:=by
 obtain⟨d,h⟩:=h
 cases d with
 |zero=>exact False.elim h
 |succ d=>
  rcases h with⟨_,e⟩|⟨_,_,_,_,_,_,e,_⟩|⟨a,kvs,kts',e1,hd,e,n,z,p⟩
  ·cases e
  ·cases e
  ·cases e;exact⟨a,kvs,e1,hd,n,z,Paired.mapP p λ_ _ q=>⟨q.1,d,q.2⟩⟩
end
inductive Sl where
 |no
 |va (T:Tv)
 |own (xs:List Tv)
 |dct (kts:List (Str×Tv))
 |dk
abbrev aQ:=List Sl
def eC:Sl->Bool
 |.own _=>true
 |.dct _=>true
 |_=>false
structure Fm where
 H0:Hp
 dk:Option (Addr×Addr)
structure Kp (dk:Option (Addr×Addr)) (H H':Hp):Prop where
 st:∀b o,H b=some o->(∀p c,dk=some (p,c)->b≠p/\b≠c)->H' b=some o
 dkk:∀p c,dk=some (p,c)->DeckAt H' p c
theorem Kp.tr{dk:Option (Addr×Addr)}{H H':Hp}(k:Kp dk H H')(b:Addr)(o:HO)(e:H b=some o):∃o',H' b=some o':=by
 cases d:dk with
 |none=>exact⟨o,k.st b o e λp c z=>by rw[d]at z;cases z⟩
 |some pc=>
  obtain⟨p,c⟩:=pc
  obtain⟨_,⟨S,i,e1⟩,ns,e2,_⟩:=k.dkk p c d
  by_cases h1:b=p
  ·subst h1;exact⟨_,e1⟩
  ·by_cases h2:b=c
   ·subst h2;exact⟨_,e2⟩
   ·exact⟨o,k.st b o e λp' c' z=>by rw[d]at z;cases z;exact⟨h1,h2⟩⟩
def xX(K:W.Frag)(F:Fm)(H:Hp)(ox:Option V):Sl->Prop
 |.no=>True
 |.va T=>∃x,ox=some x/\VA K H x T
 |.own Ts=>∃a xs,ox=some (.ref a)/\H a=some (.lst xs)/\F.H0 a=none/\Ts.length<=100000/\VAs K H xs Ts
 |.dct kts=>∃a kvs,ox=some (.ref a)/\H a=some (.dK kvs)/\F.H0 a=none/\(kts.map (·.1)).Nodup/\kts.length<64/\VAk K H kvs kts
 |.dk=>∃p c,F.dk=some (p,c)/\ox=some (.ref p)
def ixv(σ:St)(i:Nat):Option V:=(σ[i]?).join
structure FrOk (K:W.Frag) (F:Fm) (ρ:aQ) (σ:St) (H:Hp):Prop where
 d0:∀p c,F.dk=some (p,c)->DeckAt F.H0 p c
 kp:Kp F.dk F.H0 H
 len:ρ.length=σ.length
 at_:∀(i:Nat) (s:Sl),ρ[i]?=some s->xX K F H (ixv σ i) s
 ap:∀(i j:Nat) (a:Addr) (s t:Sl),ρ[i]?=some s->ρ[j]?=some t->eC s=true->eC t=true->ixv σ i=some (.ref a)->ixv σ j=some (.ref a)->i=j
def Stay(F:Fm)(ρ:aQ)(σ:St)(H H':Hp):Prop:=∀b o,H b=some o->(∀p c,F.dk=some (p,c)->b≠p/\b≠c)->(∀(i:Nat) (s:Sl),ρ[i]?=some s->eC s=true->ixv σ i≠some (.ref b))->H' b=some o
def Sbv(ρ' ρ:aQ):Prop:=∀(i:Nat) (s':Sl),ρ'[i]?=some s'->eC s'=true->∃s,ρ[i]?=some s/\eC s=true
structure Stp (K:W.Frag) (F:Fm) (σ:St) (ρ:aQ) (H:Hp) (ρ':aQ) (H':Hp):Prop where
 fr:FrOk K F ρ' σ H'
 st:Stay F ρ σ H H'
 sub:Sbv ρ' ρ
 tr:∀b o,H b=some o->∃o',H' b=some o'
section
variable{K:W.Frag}{F:Fm}{ρ ρ1 ρ2:aQ}{σ:St}{H H' H1 H2:Hp}{x y v:V}{T U:Tv}{a b:Addr}{o:HO}
theorem Sbv.refl(ρ:aQ):Sbv ρ ρ:=λi s e m=>⟨s,e,m⟩
theorem Sbv.trans(h1:Sbv ρ1 ρ)(h2:Sbv ρ2 ρ1):Sbv ρ2 ρ:=λi s e m=>by
 obtain⟨s1,e1,m1⟩:=h2 i s e m
 exact h1 i s1 e1 m1
theorem FrOk.own_at(fr:FrOk K F ρ σ H){i:Nat}{s:Sl}(e:ρ[i]?=some s)(m:eC s=true)(q:ixv σ i=some (.ref a)):(∃o,H a=some o/\fzb o=true)/\F.H0 a=none:=by
 have h:=fr.at_ i s e
 cases s with
 |own Ts=>obtain⟨a',xs,e1,e2,e3,_⟩:=h;rw[q]at e1;cases e1;exact⟨⟨_,e2,rfl⟩,e3⟩
 |dct kts=>obtain⟨a',xs,e1,e2,e3,_⟩:=h;rw[q]at e1;cases e1;exact⟨⟨_,e2,rfl⟩,e3⟩
 |no=>cases m
 |va _=>cases m
 |dk=>cases m
theorem FrOk.fresh_nodk(fr:FrOk K F ρ σ H)(h:F.H0 a=none):∀p c,F.dk=some (p,c)->a≠p/\a≠c:=λp c e=>by
 obtain⟨_,⟨S,k,e1⟩,ns,e2,_⟩:=fr.d0 p c e
 exact⟨λz=>(by rw[z,e1]at h;cases h),λz=>(by rw[z,e2]at h;cases h)⟩
theorem FrOk.none_nodk(fr:FrOk K F ρ σ H)(h:H a=none):∀p c,F.dk=some (p,c)->a≠p/\a≠c:=λp c e=>by
 obtain⟨_,⟨S,k,e1⟩,ns,e2,_⟩:=fr.kp.dkk p c e
 exact⟨λz=>(by rw[z,e1]at h;cases h),λz=>(by rw[z,e2]at h;cases h)⟩
theorem FrOk.none0(fr:FrOk K F ρ σ H)(h:H a=none):F.H0 a=none:=by
 cases q:F.H0 a with
 |none=>rfl
 |some o=>rw[fr.kp.st a o q (fr.none_nodk h)]at h;cases h
theorem Stay.hs(fr:FrOk K F ρ σ H)(s:Stay F ρ σ H H'):HS H H':=λb o h e=>s b o e
 (λp c d=>by
  obtain⟨_,⟨S,k,e1⟩,ns,e2,_⟩:=fr.kp.dkk p c d
  exact⟨λz=>(by subst z;rw[e1]at e;cases e;cases h),λz=>(by subst z;rw[e2]at e;cases e;cases h)⟩)
 λi s e1 m q=>by
  obtain⟨⟨o',e2,n⟩,_⟩:=fr.own_at e1 m q
  rw[e]at e2;cases e2
  cases o<;>first|exact absurd h ql_|exact absurd n ql_
theorem Stay.trans(s1:Stay F ρ σ H H1)(sb:Sbv ρ1 ρ)(s2:Stay F ρ1 σ H1 H2):Stay F ρ σ H H2:=λb o e d n=>
 s2 b o (s1 b o e d n) d λi s e1 m=>by
  obtain⟨s',e2,m'⟩:=sb i s e1 m
  exact n i s' e2 m'
theorem Stp.trans(a:Stp K F σ ρ H ρ1 H1)(b:Stp K F σ ρ1 H1 ρ2 H2):Stp K F σ ρ H ρ2 H2:=⟨b.fr,a.st.trans a.sub b.st,a.sub.trans b.sub,λc o e=>let ⟨o1,e1⟩:=a.tr c o e;b.tr c o1 e1⟩
theorem Stp.refl(fr:FrOk K F ρ σ H):Stp K F σ ρ H ρ H:=⟨fr,λ_ _ e _ _=>e,Sbv.refl _,λ_ o e=>⟨o,e⟩⟩
theorem Stp.hs(a:Stp K F σ ρ H ρ1 H1)(fr:FrOk K F ρ σ H):HS H H1:=a.st.hs fr
theorem FrOk.call(fr:FrOk K F ρ σ H)(k:Kp F.dk H H'):FrOk K F ρ σ H':=by
 have own:∀i s a o,ρ[i]?=some s->eC s=true->ixv σ i=some (.ref a)->H a=some o->H' a=some o:=λi s a o e m q h=>
  k.st a o h (fr.fresh_nodk (fr.own_at e m q).2)
 have hs:HS H H':=λb o h e=>k.st b o e λp c d=>by
  obtain⟨_,⟨S,k,e1⟩,ns,e2,_⟩:=fr.kp.dkk p c d
  exact⟨λz=>(by subst z;rw[e1]at e;cases e;cases h),λz=>(by subst z;rw[e2]at e;cases e;cases h)⟩
 refine⟨fr.d0,⟨λb o e n=>k.st b o (fr.kp.st b o e n) n,k.dkk⟩,fr.len,λi s e=>?_,fr.ap⟩
 have h:=fr.at_ i s e
 cases s with
 |no=>trivial
 |va T=>obtain⟨x,e1,v⟩:=h;exact⟨x,e1,v.hs hs⟩
 |own Ts=>obtain⟨a,xs,e1,e2,e3,z,p⟩:=h;exact⟨a,xs,e1,own i _ a _ e rfl e1 e2,e3,z,p.hs hs⟩
 |dct kts=>obtain⟨a,kvs,e1,e2,e3,n,z,p⟩:=h;exact⟨a,kvs,e1,own i _ a _ e rfl e1 e2,e3,n,z,p.hs hs⟩
 |dk=>exact h
theorem Kp.of_same(fr:FrOk K F ρ σ H)(s:Same H H'):Kp F.dk H H':=⟨λb o e _=>s b o e,λp c d=>by
 obtain⟨ne,⟨S,k,e1⟩,ns,e2,l⟩:=fr.kp.dkk p c d
 exact⟨ne,⟨S,k,s _ _ e1⟩,ns,s _ _ e2,l⟩⟩
theorem Stp.call(fr:FrOk K F ρ σ H)(k:Kp F.dk H H'):Stp K F σ ρ H ρ H':=⟨fr.call k,λb o e d _=>k.st b o e d,Sbv.refl _,λb o e=>k.tr b o e⟩
theorem Stp.same(fr:FrOk K F ρ σ H)(s:Same H H'):Stp K F σ ρ H ρ H':=Stp.call fr (Kp.of_same fr s)
end
theorem Stp.non{K:W.Frag}{F:Fm}{ρ ρ1:aQ}{σ:St}{H H1:Hp}{a:Addr}(s:Stp K F σ ρ H ρ1 H1)(n:H1 a=none):H a=none:=by
 cases e:H a with
 |none=>rfl
 |some o=>
  obtain⟨o',e'⟩:=s.tr a o e
  rw[n]at e';cases e'
abbrev UT:=aQ->(Tv->aQ->Prop)->Prop
abbrev UTt:=aQ->(Bool->aQ->Prop)->Prop
abbrev UTl:=aQ->(List Tv->aQ->Prop)->Prop
inductive Ar where
 |va (T:Tv)
 |dk
abbrev UTa:=aQ->(List Ar->aQ->Prop)->Prop
def tF(K:W.Frag)(dk:Option (Addr×Addr))(H:Hp)(x:V):Ar->Prop
 |.va T=>VA K H x T
 |.dk=>∃p c,dk=some (p,c)/\x=.ref p
def gP(K:W.Frag)(F:Fm)(u:UT):TE:=λσ H QQ=>∃ρ Q,FrOk K F ρ σ H/\u ρ Q/\∀x T H' ρ',Stp K F σ ρ H ρ' H'->VA K H' x T->Q T ρ'->QQ x H'
def rV(K:W.Frag)(F:Fm)(u:UTt):TT:=λσ H QQ=>∃ρ Q,FrOk K F ρ σ H/\u ρ Q/\∀b H' ρ',Stp K F σ ρ H ρ' H'->Q b ρ'->QQ b H'
def rW(K:W.Frag)(F:Fm)(u:UTl):TE:=λσ H QQ=>∃ρ Q,FrOk K F ρ σ H/\u ρ Q/\∀a xs Ts H' ρ',Stp K F σ ρ H ρ' H'->H a=none->H' a=some (.lst xs)->Ts.length<=100000->VAs K H' xs Ts->Q Ts ρ'->QQ (.ref a) H'
def rX(K:W.Frag)(F:Fm)(u:UTa):TA:=λσ H QQ=>∃ρ Q,FrOk K F ρ σ H/\u ρ Q/\∀xs as H' ρ',Stp K F σ ρ H ρ' H'->Paired (tF K F.dk H') xs as->Q as ρ'->QQ xs H'
structure UE (X:Cx) (F:Fm) (e:Expr) (u:UT):Prop where
 pe:PE X e (gP X.K F u)
structure UB (X:Cx) (F:Fm) (e:Expr) (u:UTt):Prop where
 pt:PT X e (rV X.K F u)
structure UW (X:Cx) (F:Fm) (e:Expr) (u:UTt):Prop where
 pw:PW X e (rV X.K F u)
structure UL (X:Cx) (F:Fm) (e:Expr) (u:UTl):Prop where
 pe:PE X e (rW X.K F u)
structure UA (X:Cx) (F:Fm) (es:List Expr) (u:UTa):Prop where
 pa:PA X es (rX X.K F u)
theorem PE.imp{X:Cx}{e:Expr}{t t':TE}(h:PE X e t)(i:∀σ H Q,t' σ H Q->t σ H Q):PE X e t':=λpins s σ H Q I q=>h pins s σ H Q I (i σ H Q q)
theorem PT.imp{X:Cx}{e:Expr}{t t':TT}(h:PT X e t)(i:∀σ H Q,t' σ H Q->t σ H Q):PT X e t':=λpins s σ H Q I q=>h pins s σ H Q I (i σ H Q q)
theorem PW.imp{X:Cx}{e:Expr}{t t':TT}(h:PW X e t)(i:∀σ H Q,t' σ H Q->t σ H Q):PW X e t':=λwh pins s σ H Q I q=>h wh pins s σ H Q I (i σ H Q q)
theorem PA.imp{X:Cx}{es:List Expr}{t t':TA}(h:PA X es t)(i:∀σ H Q,t' σ H Q->t σ H Q):PA X es t':=λpos pins s σ H Q I q=>h pos pins s σ H Q I (i σ H Q q)
theorem Inv.fz{X:Cx}{pins:List (Addr×Obj)}{σ:St}{H:Hp}{s:Shared}{a:Addr}{o:HO}(I:Inv X pins σ H s)(h:H a=some o)(n:fzb o=true):∃ob,Inv X pins σ (upd H a (.frz ob o)) s:=by
 obtain⟨ob,eo⟩:=(I.hok a o h).there
 refine⟨ob,?_⟩
 have keep:∀b u,H b=some u->fzb u=false->upd H a (.frz ob o) b=some u:=λb u e m=>by
  rw[bL (λz=>by subst z;rw[h]at e;cases e;rw[n]at m;cases m)];exact e
 have non:∀b,H b=none->upd H a (.frz ob o) b=none:=λb e=>by
  rw[bL (λz=>by subst z;rw[h]at e;cases e)];exact e
 refine⟨I.ok,I.os,I.bare,⟨I.base.keep,I.base.slot,λb o e n hx=>non b (I.base.free b o e n hx),I.base.there,λb xs e=>keep b _ (I.base.tups b xs e) rfl,λb o u e=>keep b _ (I.base.frzs b o u e) rfl,λb ps e=>?_⟩,I.loc,I.cell,non _ I.free,λx c e=>non c (I.freeC x c e),λp hp=>?_,λb u e=>?_,I.len⟩
 ·obtain⟨more,z⟩:=I.base.tbls b ps e
  exact⟨more,keep b _ z rfl⟩
 ·obtain⟨p1,p2,p3⟩:=I.pin p hp
  exact⟨p1,non _ p2,p3⟩
 ·have st:∀b u,ObjOk X.prog X.w H s.heap b u->ObjOk X.prog X.w (upd H a (.frz ob o)) s.heap b u:=λb u x=>x.stay (λ_ _ _ r=>r) (λd r=>keep d _ r rfl) λd xs r=>keep d _ r rfl
  by_cases z:b=a
  ·subst z
   rw[aZ]at e
   cases e
   exact⟨eo,st _ _ (I.hok b o h)⟩
  ·rw[bL z]at e
   exact st _ _ (I.hok b u e)
def FzQ(Q:VK):VK:=λz H=>Q z H\/∃a o,z=.ref a/\H a=some o/\fzb o=true/\∀ob,Q z (upd H a (.frz ob o))
def tFz(t:TE):TE:=λσ H Q=>t σ H (FzQ Q)
theorem EP.fz{X:Cx}{pins:List (Addr×Obj)}{σ:St}{Q:VK}{u:Value}{s:Shared}(h:EP X pins σ (FzQ Q) u s):EP X pins σ Q u s:=by
 obtain⟨x,H',I,r,q⟩:=h
 rcases q with q|⟨a,o,rfl,e,n,q⟩
 ·exact⟨x,H',I,r,q⟩
 ·obtain⟨ob,I'⟩:=I.fz e n
  exact⟨_,_,I',r,q ob⟩
theorem PE.fz{X:Cx}{e:Expr}{t:TE}(h:PE X e t):PE X e (tFz t):=λpins s σ H Q I q=>thn (h pins s σ H _ I q) λ_ _ z=>z.fz
def Raw(K:W.Frag)(H H':Hp)(z:V)(W:Tv):Prop:=Same H H'/\(VA K H' z W\/∃a,z=.ref a/\H a=none /\
 ((∃xs Ts,H' a=some (.lst xs)/\W=.seq false Ts/\Ts.length<=100000/\VAs K H' xs Ts)\/∃kvs kts,H' a=some (.dK kvs)/\W=.dct kts/\(kts.map (·.1)).Nodup/\kts.length<64/\VAk K H' kvs kts))
section
variable{K:W.Frag}{F:Fm}{ρ ρ1 ρ2:aQ}{σ:St}{H H' H1 H2:Hp}{x y v z:V}{T U W:Tv}{a b:Addr}{o:HO}
theorem Raw.va(v:VA K H z W):Raw K H H z W:=⟨Same.refl _,.inl v⟩
theorem Raw.flat(h:dJ z=true):Raw K H H z (.leaf z):=.va (.flat h)
theorem Raw.lst{xs:List V}{Ts:List Tv}(n:H a=none)(z:Ts.length<=100000)(p:VAs K H xs Ts):Raw K H (upd H a (.lst xs)) (.ref a) (.seq false Ts):=
 ⟨bZ n,.inr ⟨a,rfl,n,.inl ⟨xs,Ts,aZ,rfl,z,p.hs (gK n)⟩⟩⟩
theorem Raw.tup{xs:List V}{Ts:List Tv}(n:H a=none)(z:Ts.length<=100000)(p:VAs K H xs Ts):Raw K H (upd H a (.tup xs)) (.ref a) (.seq true Ts):=
 ⟨bZ n,.inl (VA.seq (t:=true) (SqT.of aZ) z (p.hs (gK n)))⟩
theorem Stp.frz(fr:FrOk K F ρ σ H)(s:Same H H')(n:H a=none)(e:H' a=some o)(m:fzb o=true)(ob:Obj):Stp K F σ ρ H ρ (upd H' a (.frz ob o)):=
 Stp.same fr λb u q=>by rw[bL (dR q n)];exact s b u q
theorem Raw.fin(fr:FrOk K F ρ σ H)(r:Raw K H H' z W){QQ:VK}(k:∀H'',Stp K F σ ρ H ρ H''->VA K H'' z W->QQ z H''):FzQ QQ z H':=by
 obtain⟨s,v|⟨a,rfl,n,⟨xs,Ts,e,rfl,l,p⟩|⟨kvs,kts,e,rfl,nd,l,p⟩⟩⟩:=r
 ·exact .inl (k H' (Stp.same fr s) v)
 ·refine .inr ⟨a,_,rfl,e,rfl,λob=>k _ (Stp.frz fr s n e rfl ob) (VA.seq (t:=false) ⟨ob,aZ⟩ l (p.hs (fU e rfl)))⟩
 ·refine .inr ⟨a,_,rfl,e,rfl,λob=>k _ (Stp.frz fr s n e rfl ob) (VA.dct ⟨ob,aZ⟩ nd l (p.hs (fU e rfl)))⟩
end
end L2
namespace L2
open PySem PySem.Spec PyProof.Rows WordM
abbrev iT(i:Int):Tv:=.leaf (.int i)
abbrev sT(x:Str):Tv:=.leaf (.str x)
abbrev bT(b:Bool):Tv:=.leaf (.bl b)
abbrev nT:Tv:=.leaf .non
abbrev P1:=Tv->(Tv->Prop)->Prop
abbrev P2:=Tv->Tv->(Tv->Prop)->Prop
abbrev Pn:=List Tv->(Tv->Prop)->Prop
section
variable{X:Cx}{F:Fm}
def fZ(i:Nat):UT:=λρ Q=>match ρ[i]? with
 |some (.va T)=>Q T ρ
 |some (.own Ts)=>Q (.seq false Ts) (ρ.set i (.va (.seq false Ts)))
 |some (.dct kts)=>Q (.dct kts) (ρ.set i (.va (.dct kts)))
 |_=>False
theorem jL{σ:St}{i:Nat}{x:V}(h:ixv σ i=some x):σ[i]?=some (some x):=by
 unfold ixv at h
 cases q:σ[i]? with
 |none=>rw[q]at h;cases h
 |some o=>rw[q]at h;cases o with
  |none=>cases h
  |some y=>cases h;rfl
theorem zI9{σ:St}{i:Nat}{x:V}(h:σ[i]?=some (some x)):ixv σ i=some x:=by
 unfold ixv;rw[h];rfl
theorem FrOk.fzs{K:W.Frag}{ρ:aQ}{σ:St}{H:Hp}{i:Nat}{s:Sl}{a:Addr}{o:HO}{T:Tv}(fr:FrOk K F ρ σ H)(e:ρ[i]?=some s)(m:eC s=true)(q:ixv σ i=some (.ref a))(h:H a=some o)(n:fzb o=true)(ob:Obj)
  (v:VA K (upd H a (.frz ob o)) (.ref a) T):Stp K F σ ρ H (ρ.set i (.va T)) (upd H a (.frz ob o)):=by
 have hi:i<ρ.length:=(qw_.mp e).1
 have h0:=(fr.own_at e m q).2
 have hd:=fr.fresh_nodk h0
 have hs:HS H (upd H a (.frz ob o)):=fU h (by cases o<;>first|rfl|exact absurd n ql_)
 have st:∀b u,b≠a->H b=some u->upd H a (.frz ob o) b=some u:=λb u z e=>by rw[bL z];exact e
 refine⟨⟨fr.d0,⟨λb u e1 n1=>st b u (λz=>by rw[z,h0]at e1;cases e1) (fr.kp.st b u e1 n1),λp c d=>?_⟩,by rw[qv1_];exact fr.len,λj s' e'=>?_,λj k b s' t' e1 e2 m1 m2 q1 q2=>?_⟩,λb u e1 _ n1=>st b u (λz=>n1 i s e m (by rw[z];exact q)) e1,λj s' e' m'=>?_,λb u e1=>if z:b=a then⟨.frz ob o,z▸aZ⟩ else⟨u,st b u z e1⟩⟩
 ·obtain⟨ne,⟨S,k,e1⟩,ns,e2,l⟩:=fr.kp.dkk p c d
  exact⟨ne,⟨S,k,st _ _ (hd p c d).1.symm e1⟩,ns,st _ _ (hd p c d).2.symm e2,l⟩
 ·by_cases z:i=j
  ·subst z
   rw[qj1_ hi]at e'
   cases e'
   exact⟨_,q,v⟩
  ·rw[qm1_ z]at e'
   have x:=fr.at_ j s' e'
   cases s' with
   |no=>trivial
   |va T=>obtain⟨y,e1,v⟩:=x;exact⟨y,e1,v.hs hs⟩
   |own Ts=>obtain⟨b,xs,e1,e2,e3,z',p⟩:=x;exact⟨b,xs,e1,st _ _ (λy=>z (fr.ap i j a s _ e e' m rfl q (by rw[e1,y]))) e2,e3,z',p.hs hs⟩
   |dct kts=>obtain⟨b,kvs,e1,e2,e3,n',z',p⟩:=x;exact⟨b,kvs,e1,st _ _ (λy=>z (fr.ap i j a s _ e e' m rfl q (by rw[e1,y]))) e2,e3,n',z',p.hs hs⟩
   |dk=>exact x
 ·by_cases z1:i=j
  ·subst z1;rw[qj1_ hi]at e1;cases e1;cases m1
  ·by_cases z2:i=k
   ·subst z2;rw[qj1_ hi]at e2;cases e2;cases m2
   ·rw[qm1_ z1]at e1
    rw[qm1_ z2]at e2
    exact fr.ap j k b s' t' e1 e2 m1 m2 q1 q2
 ·by_cases z:i=j
  ·subst z;rw[qj1_ hi]at e';cases e';cases m'
  ·rw[qm1_ z]at e';exact⟨s',e',m'⟩
theorem aC(i:Nat){x:Str}{pos:Pos}(hN:X.N[i]?=some x:=by rfl)(hv:Vis X.env.scope x:=by first|exact Or.inl rfl|exact Or.inr (Or.inl rfl)|exact Or.inr (Or.inr rfl))(hd:(x==("__debug__":Str))=false:=by decide)(hcd:(x==("__classdict__":Str))=false:=by decide):
  UE X F (.Name x pos) (fZ i):=by
 refine⟨PE.imp (PE.fz (kG hN hv hd hcd)) ?_⟩
 rintro σ H QQ ⟨ρ,Q,fr,h,k⟩
 unfold fZ at h
 split at h
 ·rename_i T e
  obtain⟨y,e1,v⟩:=fr.at_ i _ e
  exact⟨y,jL e1,.inl (k y T H ρ (Stp.refl fr) v h)⟩
 ·rename_i Ts e
  obtain⟨a,xs,e1,e2,e3,z,p⟩:=fr.at_ i _ e
  refine⟨_,jL e1,.inr ⟨a,_,rfl,e2,rfl,λob=>?_⟩⟩
  have v:VA X.K (upd H a (.frz ob (.lst xs))) (.ref a) (.seq false Ts):=VA.seq (t:=false) ⟨ob,aZ⟩ z (p.hs (fU e2 rfl))
  exact k _ _ _ _ (fr.fzs e rfl e1 e2 rfl ob v) v h
 ·rename_i kts e
  obtain⟨a,kvs,e1,e2,e3,n,z,p⟩:=fr.at_ i _ e
  refine⟨_,jL e1,.inr ⟨a,_,rfl,e2,rfl,λob=>?_⟩⟩
  have v:VA X.K (upd H a (.frz ob (.dK kvs))) (.ref a) (.dct kts):=VA.dct ⟨ob,aZ⟩ n z (p.hs (fU e2 rfl))
  exact k _ _ _ _ (fr.fzs e rfl e1 e2 rfl ob v) v h
 ·exact False.elim h
def uC(T:Tv):UT:=λρ Q=>Q T ρ
theorem rZ{e:Expr}{v:V}(h:PE X e (tC v))(f:dJ v=true):UE X F e (uC (.leaf v)):=⟨PE.imp h λσ H QQ ⟨ρ,Q,fr,h,k⟩=>k v (.leaf v) H ρ (Stp.refl fr) (.flat f) h⟩
theorem aH{i j pos}:UE X F (.Constant (.int i) j pos) (uC (iT i)):=rZ cK rfl
theorem iD{b j pos}:UE X F (.Constant (.bool b) j pos) (uC (bT b)):=rZ zJY rfl
theorem iS{j pos}:UE X F (.Constant .none j pos) (uC nT):=rZ zIJ rfl
theorem aY{x j pos}:UE X F (.Constant (.str x) j pos) (uC (sT x)):=rZ zIG rfl
theorem zGC{x:Str}{v:V}{u:Value}{T:Tv}{pos:Pos}(hg:Gl X x)(hm:X.mg x=some u)(r:RelV v u)(hv:∀H,VA X.K H v T)(hd:(x==("__debug__":Str))=false:=by decide):UE X F (.Name x pos) (uC T):=
 ⟨PE.imp (zBE hg hm r hd) λσ H QQ ⟨ρ,Q,fr,h,k⟩=>k v T H ρ (Stp.refl fr) (hv H) h⟩
def tD(K:W.Frag)(r:P2)(r':R2):Prop:=∀x y T U H Q (QQ:VK),VA K H x T->VA K H y U->r T U Q->(∀z W H',Raw K H H' z W->Q W->QQ z H')->r' x y H QQ
def gC(X:Cx)(f:Value->Value->Sem Value)(r:P2):Prop:=∃r',OpR X f r'/\tD X.K r r'
def uOp(r:P2)(ua ub:UT):UT:=λρ Q=>ua ρ λa ρ1=>ub ρ1 λb ρ2=>r a b λc=>Q c ρ2
theorem vP{r:P2}{r':R2}{ua ub:UT}(hr:tD X.K r r')(σ:St)(H:Hp)(QQ:VK)(h:gP X.K F (uOp r ua ub) σ H QQ):tFz (tOp r' (gP X.K F ua) (gP X.K F ub)) σ H QQ:=by
 obtain⟨ρ,Q,fr,h,k⟩:=h
 refine⟨ρ,_,fr,h,λx T H1 ρ1 s1 v1 q1=>⟨ρ1,_,s1.fr,q1,λy U H2 ρ2 s2 v2 q2=>?_⟩⟩
 refine hr x y T U H2 _ _ (v1.hs (s2.hs s1.fr)) v2 q2 λz W H' rw q=>rw.fin s2.fr λH'' s3 v3=>k _ _ _ _ ((s1.trans s2).trans s3) v3 q
variable{a b c:Expr}{ua ub uc:UT}{pos:Pos}
theorem bO{op:Operator}{r:P2}(ho:gC X (binaryOp op) r)(ha:UE X F a ua)(hb:UE X F b ub):UE X F (.BinOp a op b pos) (uOp r ua ub):=by
 obtain⟨r',o,hr⟩:=ho
 exact⟨PE.imp (PE.fz (cL o ha.pe hb.pe)) (vP hr)⟩
theorem zHU{op:CmpOp}{r:P2}(ho:gC X (compareOp op) r)(ha:UE X F a ua)(hb:UE X F b ub)(hm:behindInMarks op b=false):UE X F (.Compare a [op] [b] pos) (uOp r ua ub):=by
 obtain⟨r',o,hr⟩:=ho
 exact⟨PE.imp (PE.fz (zG7 o ha.pe hb.pe hm)) (vP hr)⟩
def uB(u:UT):UTt:=λρ Q=>u ρ λT ρ'=>∃b,T=bT b/\Q b ρ'
theorem zJu{e:Expr}{t:TE}{u:UT}(h:PT X e (zCD t))(i:∀σ H QQ,gP X.K F u σ H QQ->t σ H QQ):UB X F e (uB u):=⟨PT.imp h λσ H QQ ⟨ρ,Q,fr,h,k⟩=>by
 refine i σ H _ ⟨ρ,_,fr,h,λx T H' ρ' s v q=>?_⟩
 obtain⟨b,rfl,q⟩:=q
 obtain⟨e,_⟩:=v.leafI
 exact⟨b,e,k b H' ρ' s q⟩⟩
def PuR2f(K:W.Frag)(r:P2)(r':R2):Prop:=∀x y T U H Q (QQ:VK),VA K H x T->VA K H y U->r T U Q->(∀z W H',Same H H'->VA K H' z W->Q W->QQ z H')->r' x y H QQ
def PuCmp(X:Cx)(f:Value->Value->Sem Value)(r:P2):Prop:=∃r',OpR X f r'/\PuR2f X.K r r'
theorem PuR2f.raw{K:W.Frag}{r:P2}{r':R2}(h:PuR2f K r r'):tD K r r':=λx y T U H Q QQ vx vy q k=>h x y T U H Q QQ vx vy q λz W H' s v q'=>k z W H' ⟨s,.inl v⟩ q'
theorem PuCmp.op{f:Value->Value->Sem Value}{r:P2}(h:PuCmp X f r):gC X f r:=by
 obtain⟨r',o,h⟩:=h
 exact⟨r',o,h.raw⟩
theorem zF2{r:P2}{r':R2}{ua ub:UT}(hr:PuR2f X.K r r')(σ:St)(H:Hp)(QQ:VK)(h:gP X.K F (uOp r ua ub) σ H QQ):tOp r' (gP X.K F ua) (gP X.K F ub) σ H QQ:=by
 obtain⟨ρ,Q,fr,h,k⟩:=h
 refine⟨ρ,_,fr,h,λx T H1 ρ1 s1 v1 q1=>⟨ρ1,_,s1.fr,q1,λy U H2 ρ2 s2 v2 q2=>?_⟩⟩
 exact hr x y T U H2 _ _ (v1.hs (s2.hs s1.fr)) v2 q2 λz W H' s v q=>k _ _ _ _ ((s1.trans s2).trans (Stp.same s2.fr s)) v q
theorem wA{op:CmpOp}{r:P2}(ho:PuCmp X (compareOp op) r)(ha:UE X F a ua)(hb:UE X F b ub)(hm:behindInMarks op b=false):UB X F (.Compare a [op] [b] pos) (uB (uOp r ua ub)):=by
 obtain⟨r',o,hr⟩:=ho
 exact zJu (vI o ha.pe hb.pe hm) (zF2 hr)
def zDg(X:Cx)(f:Value->Sem Value)(r:P1):Prop:=∃r',UnR X f r'/\∀x T H Q (QQ:VK),VA X.K H x T->r T Q->(∀z W,VA X.K H z W->Q W->QQ z H)->r' x H QQ
def uUn(r:P1)(ua:UT):UT:=λρ Q=>ua ρ λa ρ1=>r a λc=>Q c ρ1
theorem zCA{op:UnaryOp}{r:P1}(ho:zDg X (unaryOp op) r)(ha:UE X F a ua):UE X F (.UnaryOp op a pos) (uUn r ua):=by
 obtain⟨r',o,hr⟩:=ho
 refine⟨PE.imp (zCH o ha.pe) ?_⟩
 rintro σ H QQ ⟨ρ,Q,fr,h,k⟩
 exact⟨ρ,_,fr,h,λx T H1 ρ1 s1 v1 q1=>hr x T H1 _ _ v1 q1 λz W v q=>k _ _ _ _ s1 v q⟩
def zC8:P1
 |.leaf (.int i),Q=>Q (iT (-i))
 |_,_=>False
theorem zCg:zDg X (unaryOp .USub) zC8:=⟨_,zB5,λx T H Q QQ v h k=>by
 unfold zC8 at h
 split at h
 ·obtain⟨rfl,_⟩:=v.leafI
  exact⟨_,rfl,k _ _ (.flat rfl) h⟩
 ·exact False.elim h⟩
def zJx(ua ub:UT):UT:=λρ Q=>ua ρ λa ρ1=>∃c,a=bT c/\if c=true then ub ρ1 Q else Q (bT false) ρ1
theorem kE{op}{u:UT}(h:UE X F a u):UE X F (.BoolOp op [a] pos) u:=⟨zII h.pe⟩
theorem gJ{rest:List Expr}(ha:UE X F a ua)(hb:UE X F (.BoolOp .And (b::rest) pos) ub):UE X F (.BoolOp .And (a::b::rest) pos) (zJx ua ub):=⟨PE.imp (zIM ha.pe hb.pe) λσ H QQ ⟨ρ,Q,fr,h,k⟩=>by
 refine⟨ρ,_,fr,h,λx T H1 ρ1 s1 v1 q1=>?_⟩
 obtain⟨c,rfl,q1⟩:=q1
 obtain⟨e,_⟩:=v1.leafI
 refine⟨c,e,?_⟩
 cases c with
 |false=>rw[if_neg ql_]at q1 ⊢;exact k _ _ _ _ s1 (.flat rfl) q1
 |true=>rw[if_pos rfl]at q1 ⊢;exact⟨ρ1,_,s1.fr,q1,λy U H2 ρ2 s2 v2 q2=>k _ _ _ _ (s1.trans s2) v2 q2⟩⟩
def zKz(t u:UTt):UTt:=λρ Q=>t ρ λc ρ1=>if c=true then u ρ1 Q else Q false ρ1
def uOr(t u:UTt):UTt:=λρ Q=>t ρ λc ρ1=>if c=true then Q true ρ1 else u ρ1 Q
def zKw(t:UTt):UTt:=λρ Q=>t ρ λc ρ1=>Q (!c) ρ1
variable{ta tb:UTt}{rest:List Expr}
theorem qL(ha:UB X F a ta):UW X F (.BoolOp .And [a] pos) ta:=⟨zGT ha.pt⟩
theorem jP(ha:UB X F a ta):UW X F (.BoolOp .Or [a] pos) ta:=⟨zIp ha.pt⟩
theorem nS(ha:UB X F a ta)(hb:UW X F (.BoolOp .And (b::rest) pos) tb):UW X F (.BoolOp .And (a::b::rest) pos) (zKz ta tb):=⟨PW.imp (zIq ha.pt hb.pw) λσ H QQ ⟨ρ,Q,fr,h,k⟩=>by
 refine⟨ρ,_,fr,h,λc H1 ρ1 s1 q1=>?_⟩
 cases c with
 |false=>rw[if_neg ql_]at q1 ⊢;exact k _ _ _ s1 q1
 |true=>rw[if_pos rfl]at q1 ⊢;exact⟨ρ1,_,s1.fr,q1,λy H2 ρ2 s2 q2=>k _ _ _ (s1.trans s2) q2⟩⟩
theorem iY(ha:UB X F a ta)(hb:UW X F (.BoolOp .Or (b::rest) pos) tb):UW X F (.BoolOp .Or (a::b::rest) pos) (uOr ta tb):=⟨PW.imp (zJU ha.pt hb.pw) λσ H QQ ⟨ρ,Q,fr,h,k⟩=>by
 refine⟨ρ,_,fr,h,λc H1 ρ1 s1 q1=>?_⟩
 cases c with
 |true=>rw[if_pos rfl]at q1 ⊢;exact k _ _ _ s1 q1
 |false=>rw[if_neg ql_]at q1 ⊢;exact⟨ρ1,_,s1.fr,q1,λy H2 ρ2 s2 q2=>k _ _ _ (s1.trans s2) q2⟩⟩
theorem fX{e:Expr}{t:UTt}(h:UW X F e t):UB X F e t:=⟨h.pw.pt⟩
theorem jQ(ha:UB X F a ta):UB X F (.UnaryOp .Not a pos) (zKw ta):=⟨PT.imp (zIv ha.pt) λσ H QQ ⟨ρ,Q,fr,h,k⟩=>⟨ρ,_,fr,h,λc H1 ρ1 s1 q1=>k _ _ _ s1 q1⟩⟩
theorem cS{e:Expr}{u:UT}(h:UE X F e u)(he:∀whole,isTrue e X.env whole=(do let v <- whole;standAt e.pos;holding [v] (truthy v)):=by intro _;rfl):UB X F e (uB u):=⟨PT.imp (zIu h.pe he) λσ H QQ ⟨ρ,Q,fr,h,k⟩=>by
 refine⟨ρ,_,fr,h,λx T H' ρ' s v q=>?_⟩
 obtain⟨b,rfl,q⟩:=q
 obtain⟨e,_⟩:=v.leafI
 exact⟨b,e,k b H' ρ' s q⟩⟩
def uIf(t:UTt)(ua ub:UT):UT:=λρ Q=>t ρ λc ρ1=>if c=true then ua ρ1 Q else ub ρ1 Q
theorem uM(hc:UB X F c ta)(ha:UE X F a ua)(hb:UE X F b ub):UE X F (.IfExp c a b pos) (uIf ta ua ub):=⟨PE.imp (zFS hc.pt ha.pe hb.pe) λσ H QQ ⟨ρ,Q,fr,h,k⟩=>by
 refine⟨ρ,_,fr,h,λc H1 ρ1 s1 q1=>?_⟩
 cases c with
 |true=>rw[if_pos rfl]at q1 ⊢;exact⟨ρ1,_,s1.fr,q1,λy U H2 ρ2 s2 v2 q2=>k _ _ _ _ (s1.trans s2) v2 q2⟩
 |false=>rw[if_neg ql_]at q1 ⊢;exact⟨ρ1,_,s1.fr,q1,λy U H2 ρ2 s2 v2 q2=>k _ _ _ _ (s1.trans s2) v2 q2⟩⟩
def gQ:UTa:=λρ Q=>Q [] ρ
def iE(u:UT)(t:UTa):UTa:=λρ Q=>u ρ λT ρ1=>t ρ1 λas ρ2=>Q (.va T::as) ρ2
def uDk(i:Nat)(t:UTa):UTa:=λρ Q=>ρ[i]?=some .dk/\t ρ λas ρ2=>Q (.dk::as) ρ2
theorem aE:UA X F [] gQ:=⟨PA.imp dD λσ H QQ ⟨ρ,Q,fr,h,k⟩=>k [] [] H ρ (Stp.refl fr) .nil h⟩
theorem aD{e:Expr}{es:List Expr}{u:UT}{t:UTa}(ha:UE X F e u)(hr:UA X F es t)(h:dO e=false:=by rfl):UA X F (e::es) (iE u t):=⟨PA.imp (cT ha.pe hr.pa h) λσ H QQ ⟨ρ,Q,fr,h,k⟩=>by
 refine⟨ρ,_,fr,h,λx T H1 ρ1 s1 v1 q1=>⟨ρ1,_,s1.fr,q1,λxs as H2 ρ2 s2 p2 q2=>?_⟩⟩
 exact k _ _ _ _ (s1.trans s2) (.cons (b:=Ar.va T) (v1.hs (s2.hs s1.fr)) p2) q2⟩
theorem cC(i:Nat){x:Str}{pos:Pos}{es:List Expr}{t:UTa}(hr:UA X F es t)(hN:X.N[i]?=some x:=by rfl)(hv:Vis X.env.scope x:=by first|exact Or.inl rfl|exact Or.inr (Or.inl rfl)|exact Or.inr (Or.inr rfl))(hd:(x==("__debug__":Str))=false:=by decide)(hcd:(x==("__classdict__":Str))=false:=by decide):
  UA X F (.Name x pos::es) (uDk i t):=⟨PA.imp (cT (kG hN hv hd hcd) hr.pa rfl) λσ H QQ ⟨ρ,Q,fr,⟨e,h⟩,k⟩=>by
 obtain⟨p,c,ed,ex⟩:=fr.at_ i _ e
 refine⟨_,jL ex,ρ,_,fr,h,λxs as H2 ρ2 s2 p2 q2=>?_⟩
 exact k _ _ _ _ s2 (.cons (b:=Ar.dk) ⟨p,c,ed,rfl⟩ p2) q2⟩
def vsK:List Ar->(List Tv->Prop)->Prop
 |[],Q=>Q []
 |.va T::as,Q=>vsK as λTs=>Q (T::Ts)
 |.dk::_,_=>False
theorem iQ:∀{as:List Ar}{Q:List Tv->Prop},vsK as Q->∃Ts,as=Ts.map Ar.va/\Q Ts
 |[],_,h=>⟨[],rfl,h⟩
 |.va T::as,Q,h=>by
  obtain⟨Ts,rfl,q⟩:=iQ (as:=as) (Q:=λTs=>Q (T::Ts)) h
  exact⟨T::Ts,rfl,q⟩
 |.dk::_,_,h=>False.elim h
def uVs(ua:UTa):UTl:=λρ Q=>ua ρ λas ρ1=>vsK as λTs=>Q Ts ρ1
theorem iR{K:W.Frag}{dk:Option (Addr×Addr)}{H:Hp}:∀{xs:List V}{Ts:List Tv},Paired (tF K dk H) xs (Ts.map Ar.va)->VAs K H xs Ts
 |[],[],_=>.nil
 |_::_,_::_,.cons r t=>.cons r (iR t)
def zKt(ua:UTa):UT:=λρ Q=>uVs ua ρ λTs ρ1=>Ts.length<=100000/\Q (.seq true Ts) ρ1
def zKx(ua:UTa):UTl:=λρ Q=>uVs ua ρ λTs ρ1=>Ts.length<=100000/\Q Ts ρ1
theorem gH{n:Nat}(h:n<=100000):n<=sizeLine:=by rw[sizeLine_eq];omega
theorem vO{n:Nat}(h:n<100000):n<sizeLine:=by rw[sizeLine_eq];omega
theorem bX{es:List Expr}{t:UTa}{x1}(h:UA X F es t):UE X F (.Tuple es x1 pos) (zKt t):=⟨PE.imp (zIF h.pa) λσ H QQ ⟨ρ,Q,fr,h,k⟩=>by
 refine⟨ρ,_,fr,h,λxs as H1 ρ1 s1 p1 q1=>?_⟩
 obtain⟨Ts,rfl,z,q⟩:=iQ q1
 have p:=iR p1
 have l:xs.length=Ts.length:=Paired.length p
 refine⟨gH (by omega),λa n=>?_⟩
 have r:=Raw.tup (K:=X.K) n z p
 exact k _ _ _ _ (s1.trans (Stp.same s1.fr r.1)) (VA.seq (t:=true) (SqT.of aZ) z (p.hs (gK n))) q⟩
theorem cF{es:List Expr}{t:UTa}(h:UA X F es t):UL X F (.List es pos) (zKx t):=⟨PE.imp (zCh h.pa) λσ H QQ ⟨ρ,Q,fr,h,k⟩=>by
 refine⟨ρ,_,fr,h,λxs as H1 ρ1 s1 p1 q1=>?_⟩
 obtain⟨Ts,rfl,z,q⟩:=iQ q1
 have p:=iR p1
 have l:xs.length=Ts.length:=Paired.length p
 refine⟨gH (by omega),λa n=>?_⟩
 exact k _ _ _ _ _ (s1.trans (Stp.same s1.fr (bZ n))) (s1.non n) aZ z (p.hs (gK n)) q⟩
end
end L2
namespace L2
open PySem PySem.Spec PyProof.Rows WordM
theorem FrOk.fzn{K:W.Frag}{F:Fm}{ρ:aQ}{σ:St}{H:Hp}{a:Addr}{o:HO}(fr:FrOk K F ρ σ H)(h:H a=some o)(n:fzb o=true)(h0:F.H0 a=none)(na:∀(i:Nat) (s:Sl),ρ[i]?=some s->eC s=true->ixv σ i≠some (.ref a))(o':HO):FrOk K F ρ σ (upd H a o'):=by
 have hd:=fr.fresh_nodk h0
 have hs:HS H (upd H a o'):=fU h (by cases o<;>first|rfl|exact absurd n ql_)
 have st:∀b u,b≠a->H b=some u->upd H a o' b=some u:=λb u z e=>by rw[bL z];exact e
 refine⟨fr.d0,⟨λb u e1 n1=>st b u (λz=>by rw[z,h0]at e1;cases e1) (fr.kp.st b u e1 n1),λp c d=>?_⟩,fr.len,λj s' e'=>?_,fr.ap⟩
 ·obtain⟨ne,⟨S,k,e1⟩,ns,e2,l⟩:=fr.kp.dkk p c d
  exact⟨ne,⟨S,k,st _ _ (hd p c d).1.symm e1⟩,ns,st _ _ (hd p c d).2.symm e2,l⟩
 ·have x:=fr.at_ j s' e'
  cases s' with
  |no=>trivial
  |va T=>obtain⟨y,e1,v⟩:=x;exact⟨y,e1,v.hs hs⟩
  |own Ts=>obtain⟨b,xs,e1,e2,e3,z',p⟩:=x;exact⟨b,xs,e1,st _ _ (λy=>na j _ e' rfl (by rw[e1,y])) e2,e3,z',p.hs hs⟩
  |dct kts=>obtain⟨b,kvs,e1,e2,e3,n',z',p⟩:=x;exact⟨b,kvs,e1,st _ _ (λy=>na j _ e' rfl (by rw[e1,y])) e2,e3,n',z',p.hs hs⟩
  |dk=>exact x
theorem Stp.notown{K:W.Frag}{F:Fm}{ρ ρ1:aQ}{σ:St}{H H1:Hp}{a:Addr}(s:Stp K F σ ρ H ρ1 H1)(fr:FrOk K F ρ σ H)(n:H a=none):∀(i:Nat) (s:Sl),ρ1[i]?=some s->eC s=true->ixv σ i≠some (.ref a):=λi s' e m q=>by
 obtain⟨s0,e0,m0⟩:=s.sub i s' e m
 obtain⟨⟨o,e1,_⟩,_⟩:=fr.own_at e0 m0 q
 rw[n]at e1;cases e1
theorem Stp.put{K:W.Frag}{F:Fm}{ρ ρ1:aQ}{σ:St}{H H1:Hp}{a:Addr}{o:HO}(s:Stp K F σ ρ H ρ1 H1)(fr:FrOk K F ρ σ H)(n:H a=none)(e:H1 a=some o)(m:fzb o=true)(o':HO):Stp K F σ ρ H ρ1 (upd H1 a o'):=
 ⟨s.fr.fzn e m (fr.none0 n) (s.notown fr n) o',λb u q d n1=>by rw[bL (dR q n)];exact s.st b u q d n1,s.sub,λb u q=>by rw[bL (dR q n)];exact s.tr b u q⟩
section
variable{X:Cx}{F:Fm}{e:Expr}{pos:Pos}
def uL(u:UTl):UT:=λρ Q=>u ρ λTs ρ1=>Q (.seq false Ts) ρ1
theorem bI{u:UTl}(h:UL X F e u):UE X F e (uL u):=⟨PE.imp (PE.fz h.pe) λσ H QQ ⟨ρ,Q,fr,h,k⟩=>⟨ρ,_,fr,h,λa xs Ts H' ρ' s n e z p q=>
 .inr ⟨a,_,rfl,e,rfl,λob=>k _ _ _ _ (s.put fr n e rfl (.frz ob (.lst xs))) (VA.seq (t:=false) ⟨ob,aZ⟩ z (p.hs (fU e rfl))) q⟩⟩⟩
def zDi(K:W.Frag)(r:Pn)(r':List V->Hp->VK->Prop):Prop:=∀xs Ts H Q (QQ:VK),VAs K H xs Ts->r Ts Q->(∀z W H',Raw K H H' z W->Q W->QQ z H')->r' xs H QQ
def iA(X:Cx)(f:Value)(r:Pn):Prop:=∃r',CallR X f r'/\zDi X.K r r'
def uCB(r:Pn)(ua:UTa):UT:=λρ Q=>uVs ua ρ λTs ρ1=>r Ts λW=>Q W ρ1
theorem zBM{r:Pn}{r':List V->Hp->VK->Prop}{ua:UTa}(hr:zDi X.K r r')(σ:St)(H:Hp)(QQ:VK)(h:gP X.K F (uCB r ua) σ H QQ):tFz (tCB r' (rX X.K F ua)) σ H QQ:=by
 obtain⟨ρ,Q,fr,h,k⟩:=h
 refine⟨ρ,_,fr,h,λxs as H1 ρ1 s1 p1 q1=>?_⟩
 obtain⟨Ts,rfl,q⟩:=iQ q1
 exact hr xs Ts H1 _ _ (iR p1) q λz W H' rw q=>rw.fin s1.fr λH'' s3 v3=>k _ _ _ _ (s1.trans s3) v3 q
variable{es:List Expr}{x:Str}{p:Pos}{ua:UTa}
theorem bB{id:String}{r:Pn}(hc:iA X (.builtin id) r)(hg:Gl X x)(hm:X.mg x=none)(hv:bootBuiltins x=some (.builtin id))(ha:UA X F (e::es) ua)(hn:x≠"__name__":=by decide)(hdb:(x==("__debug__":Str))=false:=by decide)
  (he:starEach (e::es) X.env=(false,eval e X.env)::starEach es X.env:=by rfl) (hpl:(backTo pos (starEach es X.env)).any (·.1)=false:=by rfl):UE X F (.Call (.Name x p) (e::es) [] pos) (uCB r ua):=by
 obtain⟨r',o,hr⟩:=hc
 exact⟨PE.imp (PE.fz (iL o hg hm hv ha.pa hn hdb he hpl)) (zBM hr)⟩
theorem fM{id:String}{r:Pn}(hc:iA X (.type id) r)(hg:Gl X x)(hm:X.mg x=none)(hv:bootBuiltins x=some (.type id))(ha:UA X F (e::es) ua)(hn:x≠"__name__":=by decide)(hdb:(x==("__debug__":Str))=false:=by decide)
  (he:starEach (e::es) X.env=(false,eval e X.env)::starEach es X.env:=by rfl) (hpl:(backTo pos (starEach es X.env)).any (·.1)=false:=by rfl):UE X F (.Call (.Name x p) (e::es) [] pos) (uCB r ua):=by
 obtain⟨r',o,hr⟩:=hc
 exact⟨PE.imp (PE.fz (gF o hg hm hv ha.pa hn hdb he hpl)) (zBM hr)⟩
def zDj(K:W.Frag)(r:List Tv->(List Tv->Prop)->Prop)(r':List V->Hp->VK->Prop):Prop:=∀xs Ts H Q (QQ:VK),VAs K H xs Ts->r Ts Q->(∀a ys Us H',Same H H'->H a=none->H' a=some (.lst ys)->Us.length<=100000->VAs K H' ys Us->Q Us->QQ (.ref a) H')->r' xs H QQ
def nR(X:Cx)(f:Value)(r:List Tv->(List Tv->Prop)->Prop):Prop:=∃r',CallR X f r'/\zDj X.K r r'
def uCL(r:List Tv->(List Tv->Prop)->Prop)(ua:UTa):UTl:=λρ Q=>uVs ua ρ λTs ρ1=>r Ts λUs=>Q Us ρ1
theorem zBL{r:List Tv->(List Tv->Prop)->Prop}{r':List V->Hp->VK->Prop}{ua:UTa}(hr:zDj X.K r r')(σ:St)(H:Hp)(QQ:VK)(h:rW X.K F (uCL r ua) σ H QQ):tCB r' (rX X.K F ua) σ H QQ:=by
 obtain⟨ρ,Q,fr,h,k⟩:=h
 refine⟨ρ,_,fr,h,λxs as H1 ρ1 s1 p1 q1=>?_⟩
 obtain⟨Ts,rfl,q⟩:=iQ q1
 exact hr xs Ts H1 _ _ (iR p1) q λa ys Us H' sm n e z p q=>k _ _ _ _ _ (s1.trans (Stp.same s1.fr sm)) (s1.non n) e z p q
theorem uK{id:String}{r:List Tv->(List Tv->Prop)->Prop}(hc:nR X (.builtin id) r)(hg:Gl X x)(hm:X.mg x=none)(hv:bootBuiltins x=some (.builtin id))(ha:UA X F (e::es) ua)(hn:x≠"__name__":=by decide)(hdb:(x==("__debug__":Str))=false:=by decide)
  (he:starEach (e::es) X.env=(false,eval e X.env)::starEach es X.env:=by rfl) (hpl:(backTo pos (starEach es X.env)).any (·.1)=false:=by rfl):UL X F (.Call (.Name x p) (e::es) [] pos) (uCL r ua):=by
 obtain⟨r',o,hr⟩:=hc
 exact⟨PE.imp (iL o hg hm hv ha.pa hn hdb he hpl) (zBL hr)⟩
theorem mT{id:String}{r:List Tv->(List Tv->Prop)->Prop}(hc:nR X (.type id) r)(hg:Gl X x)(hm:X.mg x=none)(hv:bootBuiltins x=some (.type id))(ha:UA X F (e::es) ua)(hn:x≠"__name__":=by decide)(hdb:(x==("__debug__":Str))=false:=by decide)
  (he:starEach (e::es) X.env=(false,eval e X.env)::starEach es X.env:=by rfl) (hpl:(backTo pos (starEach es X.env)).any (·.1)=false:=by rfl):UL X F (.Call (.Name x p) (e::es) [] pos) (uCL r ua):=by
 obtain⟨r',o,hr⟩:=hc
 exact⟨PE.imp (gF o hg hm hv ha.pa hn hdb he hpl) (zBL hr)⟩
abbrev PSp:=List Ar->(Tv->Prop)->Prop
def wO(K:W.Frag)(psp:PSp):Sp:=λvs H Q _=>∃dk as R,(∀p c,dk=some (p,c)->DeckAt H p c)/\Paired (tF K dk H) vs as/\psp as R/\∀x T H',Kp dk H H'->VA K H' x T->R T->Q x H'
def PGood(P:Program)(w:World)(K:W.Frag)(mg:Str->Option Value)(base:Heap)(k:Nat)(x:Str)(ps:List Str)(psp:PSp):Prop:=Good P w K mg base k x ps (wO K psp)
theorem PGood.imp{P:Program}{w:World}{K:W.Frag}{mg:Str->Option Value}{base:Heap}{k:Nat}{ps:List Str}{psp psp':PSp}(G:PGood P w K mg base k x ps psp)(h:∀as R,psp' as R->psp as R):PGood P w K mg base k x ps psp':=
 Good.imp G λvs H Q E ⟨dk,as,R,d,p,q,r⟩=>⟨dk,as,R,d,p,h as R q,r⟩
theorem PGood.mono{P:Program}{w:World}{K:W.Frag}{mg:Str->Option Value}{base:Heap}{j k:Nat}{ps:List Str}{psp:PSp}(G:PGood P w K mg base j x ps psp)(h:j<=k):PGood P w K mg base k x ps psp:=Good.mono G h
def kK(psp:PSp)(ua:UTa):UT:=λρ Q=>ua ρ λas ρ1=>psp as λW=>Q W ρ1
theorem zEU{psp:PSp}{ua:UTa}(σ:St)(H:Hp)(QQ:VK)(h:gP X.K F (kK psp ua) σ H QQ):oJ (wO X.K psp) [] E0 (rX X.K F ua) σ H QQ:=by
 obtain⟨ρ,Q,fr,h,k⟩:=h
 refine⟨ρ,_,fr,h,λxs as H1 ρ1 s1 p1 q1=>?_⟩
 show wO X.K psp (xs++[]) H1 QQ E0
 rw[qN_]
 exact⟨F.dk,as,_,s1.fr.kp.dkk,p1,q1,λz W H' kp v q=>k _ _ _ _ (s1.trans (Stp.call s1.fr kp)) v q⟩
theorem zJt{k:Nat}{ps:List Str}{psp:PSp}(G:PGood X.prog X.w X.K X.mg X.base k x ps psp)(hr:Room k X.A)(hg:Gl X x)(ha:UA X F (e::es) ua)(hdb:(x==("__debug__":Str))=false:=by decide)
  (hst:dO e=false:=by rfl) (hpl:(backTo pos (starEach es X.env)).any (·.1)=false:=by rfl):UE X F (.Call (.Name x p) (e::es) [] pos) (kK psp ua):=
 ⟨PE.imp (rT G hr hg ha.pa hdb hst hpl) zEU⟩
theorem zB6{k:Nat}{ps:List Str}{psp:PSp}(G:PGood X.prog X.w X.K X.mg X.base k x ps psp)(hr:Room k X.A)(hg:Gl X x)(hdb:(x==("__debug__":Str))=false:=by decide):UE X F (.Call (.Name x p) [] [] pos) (kK psp gQ):=
 ⟨PE.imp (zIK G hr hg hdb) λσ H QQ ⟨ρ,Q,fr,h,k⟩=>⟨F.dk,[],_,fr.kp.dkk,.nil,h,λz W H' kp v q=>k _ _ _ _ (Stp.call fr kp) v q⟩⟩
def zDk(X:Cx)(r:P2):Prop:=∃r',IxR X r'/\tD X.K r r'
variable{a b:Expr}{va vb:UT}
theorem zJs{r:P2}(ho:zDk X r)(ha:UE X F a va)(hb:UE X F b vb)(hs:qZ b:=by intro _ _;rfl):UE X F (.Subscript a b pos) (uOp r va vb):=by
 obtain⟨r',o,hr⟩:=ho
 exact⟨PE.imp (PE.fz (jA o ha.pe hb.pe hs)) (vP hr)⟩
abbrev UTo:=aQ->(Option Int->aQ->Prop)->Prop
def zKa(K:W.Frag)(F:Fm)(u:UTo):TO:=λσ H QQ=>∃ρ Q,FrOk K F ρ σ H/\u ρ Q/\∀o H' ρ',Stp K F σ ρ H ρ' H'->Q o ρ'->QQ o H'
structure UO (X:Cx) (F:Fm) (e:Option Expr) (u:UTo):Prop where
 po:PO X e (zKa X.K F u)
theorem PO.imp{e:Option Expr}{t t':TO}(h:PO X e t)(i:∀σ H Q,t' σ H Q->t σ H Q):PO X e t':=λpins s σ H Q I q=>h pins s σ H Q I (i σ H Q q)
def uoN:UTo:=λρ Q=>Q none ρ
def uoS(u:UT):UTo:=λρ Q=>u ρ λT ρ1=>∃i,T=iT i/\Q (some i) ρ1
theorem fR:UO X F none uoN:=⟨PO.imp zBz λσ H QQ ⟨ρ,Q,fr,h,k⟩=>k _ _ _ (Stp.refl fr) h⟩
theorem fQ{u:UT}(h:UE X F e u):UO X F (some e) (uoS u):=⟨PO.imp (zBy h.pe) λσ H QQ ⟨ρ,Q,fr,h,k⟩=>⟨ρ,_,fr,h,λx T H1 ρ1 s1 v1 q1=>by
 obtain⟨i,rfl,q⟩:=q1
 exact⟨i,v1.leafI.1,k _ _ _ s1 q⟩⟩⟩
abbrev PSl:=Tv->Option Int->Option Int->(Tv->Prop)->Prop
def zDh(X:Cx)(r:PSl):Prop:=∃r',SlR X r'/\∀x T lo hi H Q (QQ:VK),VA X.K H x T->r T lo hi Q->(∀z W H',Raw X.K H H' z W->Q W->QQ z H')->r' x lo hi H QQ
def uSl(r:PSl)(u:UT)(lo hi:UTo):UT:=λρ Q=>u ρ λT ρ1=>lo ρ1 λl ρ2=>hi ρ2 λh ρ3=>r T l h λW=>Q W ρ3
theorem fO{r:PSl}{lo hi:Option Expr}{ul uh:UTo}{p2:Pos}(ho:zDh X r)(ha:UE X F a va)(hl:UO X F lo ul)(hh:UO X F hi uh):UE X F (.Subscript a (.Slice lo hi none p2) pos) (uSl r va ul uh):=by
 obtain⟨r',o,hr⟩:=ho
 refine⟨PE.imp (PE.fz (zAM o ha.pe hl.po hh.po)) ?_⟩
 rintro σ H QQ ⟨ρ,Q,fr,h,k⟩
 refine⟨ρ,_,fr,h,λx T H1 ρ1 s1 v1 q1=>⟨ρ1,_,s1.fr,q1,λl H2 ρ2 s2 q2=>⟨ρ2,_,s2.fr,q2,λu H3 ρ3 s3 q3=>?_⟩⟩⟩
 exact hr x T l u H3 _ _ ((v1.hs (s2.hs s1.fr)).hs (s3.hs s2.fr)) q3 λz W H' rw q=>rw.fin s3.fr λH'' s4 v4=>k _ _ _ _ ((s1.trans s2).trans (s3.trans s4)) v4 q
end
structure PEnds where
 nx:aQ->Prop
 rt:Tv->Prop
 bk:aQ->Prop:=λ_=>False
 ct:aQ->Prop:=λ_=>False
abbrev UTs:=PEnds->aQ->Prop
def mB(K:W.Frag)(F:Fm)(u:UTs):TS:=λD σ H=>∃ρ P,FrOk K F ρ σ H/\u P ρ/\(∀σ' H' ρ',FrOk K F ρ' σ' H'->HS H H'->P.nx ρ'->D.nx σ' H')/\(∀x T H',Kp F.dk F.H0 H'->VA K H' x T->P.rt T->D.rt x H') /\
 (∀σ' H' ρ',FrOk K F ρ' σ' H'->HS H H'->P.bk ρ'->D.bk σ' H')/\∀σ' H' ρ',FrOk K F ρ' σ' H'->HS H H'->P.ct ρ'->D.ct σ' H'
structure US (X:Cx) (F:Fm) (st:Stmt) (u:UTs):Prop where
 ps:PS X st (mB X.K F u)
structure USs (X:Cx) (F:Fm) (st:List Stmt) (u:UTs):Prop where
 ps:PSs X st (mB X.K F u)
theorem PS.imp{X:Cx}{st:Stmt}{t t':TS}(h:PS X st t)(i:∀D σ H,t' D σ H->t D σ H):PS X st t':=λpins s σ H D I q=>h pins s σ H D I (i D σ H q)
theorem PSs.imp{X:Cx}{st:List Stmt}{t t':TS}(h:PSs X st t)(i:∀D σ H,t' D σ H->t D σ H):PSs X st t':=λpins s σ H D I q=>h pins s σ H D I (i D σ H q)
section
variable{X:Cx}{F:Fm}{e:Expr}{pos:Pos}{st:Stmt}{rest:List Stmt}{u:UT}
def sH:UTs:=λP ρ=>P.nx ρ
def sE(s t:UTs):UTs:=λP ρ=>s {P with nx:=λρ'=>t P ρ'} ρ
theorem bE:USs X F [] sH:=⟨PSs.imp vM λD σ H ⟨ρ,P,fr,h,k1,_⟩=>k1 σ H ρ fr (HS.refl _) h⟩
theorem aJ{s:UTs}(h:US X F st s):USs X F [st] s:=⟨lH h.ps⟩
theorem aI{s t:UTs}(h:US X F st s)(hr:USs X F rest t):USs X F (st::rest) (sE s t):=⟨PSs.imp (gW h.ps hr.ps) λD σ H ⟨ρ,P,fr,h,k1,k2,k3,k4⟩=>by
 refine⟨ρ,_,fr,h,λσ' H' ρ' fr' hs q=>?_,k2,k3,k4⟩
 exact⟨ρ',P,fr',q,λσ2 H2 ρ2 f2 h2 q2=>k1 _ _ _ f2 (hs.trans h2) q2,k2,λσ2 H2 ρ2 f2 h2 q2=>k3 _ _ _ f2 (hs.trans h2) q2,λσ2 H2 ρ2 f2 h2 q2=>k4 _ _ _ f2 (hs.trans h2) q2⟩⟩
def sF(u:UT):UTs:=λP ρ=>u ρ λT _=>P.rt T
theorem aR(h:UE X F e u):US X F (.Return (some e) pos) (sF u):=⟨PS.imp (lR h.pe) λD σ H ⟨ρ,P,fr,h,_,k2,_⟩=>⟨ρ,_,fr,h,λx T H' ρ' s v q=>k2 x T H' s.fr.kp v q⟩⟩
def sIf(t:UTt)(s r:UTs):UTs:=λP ρ=>t ρ λb ρ1=>if b=true then s P ρ1 else r P ρ1
theorem bF{c:Expr}{a b:List Stmt}{t:UTt}{s r:UTs}(hc:UB X F c t)(ha:USs X F a s)(hb:USs X F b r):US X F (.If c a b pos) (sIf t s r):=⟨PS.imp (wN hc.pt ha.ps hb.ps) λD σ H ⟨ρ,P,fr,h,k1,k2,k3,k4⟩=>by
 refine⟨ρ,_,fr,h,λb H1 ρ1 s1 q1=>?_⟩
 have hs:=s1.hs fr
 have fin:∀{v:UTs},v P ρ1->mB X.K F v D σ H1:=λq=>⟨ρ1,P,s1.fr,q,λσ2 H2 ρ2 f2 h2 q2=>k1 _ _ _ f2 (hs.trans h2) q2,k2,λσ2 H2 ρ2 f2 h2 q2=>k3 _ _ _ f2 (hs.trans h2) q2,λσ2 H2 ρ2 f2 h2 q2=>k4 _ _ _ f2 (hs.trans h2) q2⟩
 cases b with
 |true=>exact cB (fin (by rw[if_pos rfl]at q1;exact q1))
 |false=>exact aW (fin (by rw[if_neg ql_]at q1;exact q1))⟩
def wK(u:UT):UTs:=λP ρ=>u ρ λ_ ρ1=>P.nx ρ1
theorem eI(h:UE X F e u)(hs:swapsWith e none pos.line X.env=pure false:=by rfl):US X F (.Expr e pos) (wK u):=⟨PS.imp (zBx h.pe hs) λD σ H ⟨ρ,P,fr,h,k1,_⟩=>⟨ρ,_,fr,h,λx T H' ρ' s v q=>k1 _ _ _ s.fr (s.hs fr) q⟩⟩
theorem FrOk.set{K:W.Frag}{ρ:aQ}{σ:St}{H:Hp}{i:Nat}{s:Sl}{x:V}(fr:FrOk K F ρ σ H)(v:i<ρ.length->xX K F H (some x) s)(na:eC s=true->∀a,x=.ref a->∀(j:Nat) (t:Sl),ρ[j]?=some t->eC t=true->ixv σ j≠some (.ref a)):FrOk K F (ρ.set i s) (σ.set i (some x)) H:=by
 have ne:∀j,i≠j->ixv (σ.set i (some x)) j=ixv σ j:=λj z=>by unfold ixv;rw[qm1_ z]
 have self:∀(h:i<ρ.length),ixv (σ.set i (some x)) i=some x:=λh=>by unfold ixv;rw[qj1_ (by rw[<-fr.len];exact h)];rfl
 have get:∀(j:Nat) (t:Sl),(ρ.set i s)[j]?=some t->(i=j/\i<ρ.length/\t=s)\/(i≠j/\ρ[j]?=some t):=λj t e=>by
  by_cases z:i=j
  ·subst z
   have hi:i<ρ.length:=by
    have:=(qw_.mp e).1
    rwa[qv1_]at this
   rw[qj1_ hi]at e
   exact .inl ⟨rfl,hi,(Option.some.inj e).symm⟩
  ·rw[qm1_ z]at e;exact .inr ⟨z,e⟩
 refine⟨fr.d0,fr.kp,by rw[qv1_,qv1_];exact fr.len,λj t e=>?_,λj k a t t' e1 e2 m1 m2 q1 q2=>?_⟩
 ·rcases get j t e with⟨rfl,hi,rfl⟩|⟨z,e⟩
  ·rw[self hi];exact v hi
  ·rw[ne j z];exact fr.at_ j t e
 ·rcases get j t e1 with⟨rfl,hi,rfl⟩|⟨z1,e1⟩
  ·rcases get k t' e2 with⟨rfl,_,rfl⟩|⟨z2,e2⟩
   ·rfl
   ·rw[self hi]at q1
    rw[ne k z2]at q2
    exact absurd q2 (na m1 a (Option.some.inj q1) k t' e2 m2)
  ·rcases get k t' e2 with⟨rfl,hi,rfl⟩|⟨z2,e2⟩
   ·rw[self hi]at q2
    rw[ne j z1]at q1
    exact absurd q1 (na m2 a (Option.some.inj q2) j t (by first|exact e1|assumption) m1)
   ·rw[ne j z1]at q1
    rw[ne k z2]at q2
    exact fr.ap j k a t t' e1 e2 m1 m2 q1 q2
def sD(i:Nat)(u:UT):UTs:=λP ρ=>u ρ λT ρ1=>P.nx (ρ1.set i (.va T))
theorem zHN{i:Nat}{x:Str}{pos':Pos}(hN:X.N.Nodup)(hi:X.N[i]?=some x)(hx:Loc X.env.scope x)(he:UE X F e u)(hs:swapsWith e (some (.Name x pos')) pos.line X.env=pure false:=by rfl)(hf:X.fn x=true\/X.env.scope.names.lookup x=some .local:=by first|exact .inl rfl|exact .inr rfl|assumption):
  US X F (.Assign [.Name x pos'] e pos) (sD i u):=⟨PS.imp (iV hN hi hx he.pe hs hf) λD σ H ⟨ρ,P,fr,h,k1,_⟩=>by
 refine⟨ρ,_,fr,h,λx T H' ρ' s v q=>?_⟩
 exact k1 _ _ _ (s.fr.set (s:=.va T) (λ_=>⟨x,rfl,v⟩) (λz=>absurd z ql_)) (s.hs fr) q⟩
def sG(i:Nat)(u:UTl):UTs:=λP ρ=>u ρ λTs ρ1=>P.nx (ρ1.set i (.own Ts))
theorem zAX{i:Nat}{u:UTl}{t:TE}(ht:∀σ H QQ,rW X.K F u σ H QQ->t σ H QQ)(D:kS)(σ:St)(H:Hp)(h:mB X.K F (sG i u) D σ H):sB t (rY i) D σ H:=by
 obtain⟨ρ,P,fr,h,k1,_⟩:=h
 refine ht σ H _ ⟨ρ,_,fr,h,λa xs Ts H' ρ' s n e z p q=>?_⟩
 exact k1 _ _ _ (s.fr.set (s:=.own Ts) (λ_=>⟨a,xs,rfl,e,fr.none0 n,z,p⟩) (λ_ b eb j t ej mj qj=>by cases eb;exact s.notown fr n j t ej mj qj)) (s.hs fr) q
theorem zHP{i:Nat}{x:Str}{u:UTl}{pos':Pos}(hN:X.N.Nodup)(hi:X.N[i]?=some x)(hx:Loc X.env.scope x)(he:UL X F e u)(hs:swapsWith e (some (.Name x pos')) pos.line X.env=pure false:=by rfl)(hf:X.fn x=true\/X.env.scope.names.lookup x=some .local:=by first|exact .inl rfl|exact .inr rfl|assumption):
  US X F (.Assign [.Name x pos'] e pos) (sG i u):=⟨PS.imp (iV hN hi hx he.pe hs hf) (zAX λ_ _ _ h=>h)⟩
end
def zLM:Ar->Sl
 |.va T=>.va T
 |.dk=>.dk
def lN(n:Nat)(as:List Ar):aQ:=as.map zLM++List.replicate (n-as.length) .no
theorem zGd{K:W.Frag}{H:Hp}{dk:Option (Addr×Addr)}{N:List Str}{vs:List V}{as:List Ar}(hd:∀p c,dk=some (p,c)->DeckAt H p c)(p:Paired (tF K dk H) vs as):FrOk K ⟨H,dk⟩ (lN N.length as) (dZ N vs) H:=by
 have l:vs.length=as.length:=Paired.length p
 refine⟨hd,⟨λ_ _ e _=>e,hd⟩,?_,λi s e=>?_,λi j a s t e _ m _ _ _=>?_⟩
 ·unfold lN dZ
  rw[qh_,qh_,qc_,qc_,qf2_,qf2_,l]
 ·unfold lN at e
  by_cases hi:i<as.length
  ·rw[qH1_ (by simpa using hi),qv_]at e
   obtain⟨r,er,rfl⟩:=qg1_.mp e
   have hv:i<vs.length:=by omega
   obtain⟨r',er',h⟩:=eZ p (qk_ hv)
   rw[er]at er';cases er'
   have ex:ixv (dZ N vs) i=some vs[i]:=by
    refine zI9 ?_
    unfold dZ
    rw[qH1_ (by simpa using hv),qv_,qk_ hv]
    rfl
   rw[ex]
   cases r with
   |va T=>exact⟨_,rfl,h⟩
   |dk=>obtain⟨p,c,e1,e2⟩:=h;exact⟨p,c,e1,by rw[e2]⟩
  ·rw[qG1_ (by simpa using hi),qe2_]at e
   split at e
   ·cases e;trivial
   ·cases e
 ·unfold lN at e
  by_cases hi:i<as.length
  ·rw[qH1_ (by simpa using hi),qv_]at e
   obtain⟨r,er,rfl⟩:=qg1_.mp e
   cases r<;>cases m
  ·rw[qG1_ (by simpa using hi),qe2_]at e
   split at e
   ·cases e;cases m
   ·cases e
theorem Has.pgood{P:Program}{w:World}{K:W.Frag}{mg:Str->Option Value}{base:Heap}{x:Str}{st:Stmt}{N ps:List Str}{k:Nat}{psp:PSp}{us:UTs}(h:Has K mg x st)(S:bC N ps (aN st))
  (hb:∀(kV doc pm:Value) (an:Option Addr) (cdv ct:Value) (us:List Value),us.length=ps.length->bindArgs (W.fnOf x x (hC st) (fD st) (aN st) .none kV doc pm an cdv ct) ⟨us,[]⟩=pure (ps.zip us))
  (hbody:∀(f:Addr) (cdv:Value) (A:Around) (outer:List Env) (s:Shared) (H:Hp) (E:XK) (F:Fm),Room k (A.deeper (envOfC x (aN st) s.heap.objs.size f cdv))->USs (jV CX0 P w K mg base N x (aN st) f cdv A outer s H E).nox F (fD st) us)
  (hp:∀as R,psp as R->as.length=ps.length/\us {nx:=λ_=>R nT,rt:=R} (lN N.length as)):PGood P w K mg base (k+1) x ps psp:=by
 refine h.good S hb (λvs H Q E q=>?_) (λf cdv A outer s H vs Q E hr q=>?_)
 ·obtain⟨dk,as,R,d,p,q,_⟩:=q
  rw[Paired.length p]
  exact(hp as R q).1
 ·obtain⟨dk,as,R,d,p,q,k⟩:=q
  refine⟨_,(hbody f cdv A outer s H E ⟨H,dk⟩ hr).ps,lN N.length as,_,zGd d p,(hp as R q).2,λσ' H' ρ' fr _ q=>k _ _ _ fr.kp (.flat rfl) q,λx T H' kp v q=>k x T H' kp v q,λ_ _ _ _ _ z=>z,λ_ _ _ _ _ z=>z⟩
end L2
namespace L2
open PySem PySem.Spec PyProof.Rows WordM
def kR(K:W.Frag)(J:It)(H:Hp)(Ts:List Tv):Prop:=∀H1,HS H H1->(∀i,i<Ts.length->J.go i H1)/\(∀i x H2,i<Ts.length->J.yld i H1 x H2->Same H1 H2/\∃T,Ts[i]?=some T/\VA K H2 x T)/\J.stop Ts.length H1
def zCM(K:W.Frag)(F:Fm)(u:UTl):TI:=λσ H R=>∃ρ Q,FrOk K F ρ σ H/\u ρ Q/\∀J Ts H' ρ',Stp K F σ ρ H ρ' H'->kR K J H' Ts->Q Ts ρ'->R J H'
structure UI (X:Cx) (F:Fm) (tg e:Expr) (u:UTl):Prop where
 pi:PI X tg e (zCM X.K F u)
theorem PI.imp{X:Cx}{tg e:Expr}{t t':TI}(h:PI X tg e t)(i:∀σ H Q,t' σ H Q->t σ H Q):PI X tg e t':=λpins s σ H Q I q=>h pins s σ H Q I (i σ H Q q)
def ItR(X:Cx)(tg:Expr)(r:V->Hp->(It->Hp->Prop)->Prop):Prop:=∀(pins:List (Addr×Obj)) (s:Shared) (σ:St) (H:Hp) (x:V) (v:Value) (R:It->Hp->Prop),Inv X pins σ H s->RelV x v->r x H R->wpAny (model X.prog X.w) X.A (pyIter v) (PIE X pins σ tg R) X.xe s
section
variable{X:Cx}{F:Fm}{tg e:Expr}
theorem ItR.or{r r':V->Hp->(It->Hp->Prop)->Prop}(h:ItR X tg r)(h':ItR X tg r'):ItR X tg (λx H R=>r x H R\/r' x H R):=λpins s σ H x v R I rx q=>by
 rcases q with q|q
 ·exact h pins s σ H x v R I rx q
 ·exact h' pins s σ H x v R I rx q
theorem oG{pins:List (Addr×Obj)}{σ:St}{H:Hp}{s:Shared}(I:Inv X pins σ H s):∀b∈[s.heap.objs.size],eY X pins H b:=λb hb=>by
 rw[qW_.mp hb]
 exact I.fpOk (qe_ _) (I.hok.fresh (qe_ _))
theorem it_list:ItR X tg (λx H R=>∃a xs,x=.ref a/\SqL X.K H a xs/\R (Itl X.K a) H):=by
 rintro pins s σ H _ v R I r ⟨a,xs,rfl,hq,q⟩
 cases r
 obtain⟨its,rv,p,hz⟩:=I.list hq
 exact wpAny_pyIter_list p.isList ⟨_,[s.heap.objs.size],_,_,H,rfl,I.kept (t':=s.toks) λb o=>qd_ _,zEu a _,⟨_,qj_ _ rfl,rfl,rfl⟩,oG I,q⟩
theorem it_tup:ItR X tg (λx H R=>∃a xs,x=.ref a/\SqT X.K H a xs/\R (Itt X.K a) H):=by
 rintro pins s σ H _ v R I r ⟨a,xs,rfl,hq,q⟩
 cases r
 obtain⟨its,rv,p,hz⟩:=I.tuple hq
 exact wpAny_pyIter_tuple (show s.heap.IsTuple a its.toArray from p) ⟨_,[s.heap.objs.size],_,_,H,rfl,I.kept (t':=s.toks) λb o=>qd_ _,zDX a _,⟨_,qj_ _ rfl,rfl,rfl⟩,oG I,q⟩
theorem it_str:ItR X tg (λx H R=>∃z,x=.str z/\R (Its z) H):=by
 rintro pins s σ H _ v R I r ⟨z,rfl,q⟩
 obtain⟨t,rfl⟩:=r
 cases ha:z.cps.all (· < 128) with
 |true=>exact wpAny_pyIter_ascii ha ⟨_,[s.heap.objs.size],_,_,H,rfl,I.kept (t':=s.toks) λb o=>qd_ _,zEt _ z t,⟨_,qj_ _ rfl,rfl,rfl⟩,oG I,q⟩
 |false=>exact wpAny_pyIter_wide ha ⟨_,[s.heap.objs.size],_,_,H,rfl,I.kept (t':=s.toks) λb o=>qd_ _,zEs _ z t,⟨_,qj_ _ rfl,rfl,rfl⟩,oG I,q⟩
theorem zHo:ItR X tg (λx H R=>∃a ob kvs,x=.ref a/\FzD H a ob kvs/\R (ItD a ob kvs) H):=by
 rintro pins s σ H _ v R I r ⟨a,ob,kvs,rfl,hz,q⟩
 cases r
 obtain⟨e,hs,hl,vs,es,ep,r,dd,hd⟩:=jO I hz
 exact wpAny_pyIter_dict hs dd ⟨_,[s.heap.objs.size],_,_,H,rfl,I.kept (t':=s.toks) λb o=>qd_ _,zEv (a:=a) (ob:=ob) (kvs:=kvs) hd,⟨_,qj_ _ rfl,rfl,by rw[<-kH r];rfl⟩,oG I,q⟩
def pIt:Tv->(List Tv->Prop)->Prop
 |.seq _ Ts,Q=>Q Ts
 |.leaf (.str z),Q=>Q (z.cps.toList.map λc=>sT ⟨#[c]⟩)
 |.dct kts,Q=>Q (kts.map λkt=>sT kt.1)
 |_,_=>False
theorem cP{K:W.Frag}{H:Hp}{a:Addr}{xs:List V}(h:PSeq K H false a xs):SqL K H a xs:=by
 obtain⟨ob,h⟩:=h
 exact .inl (.inr ⟨ob,h⟩)
theorem zHp{K:W.Frag}{H:Hp}{a:Addr}{xs:List V}{Ts:List Tv}(h:PSeq K H false a xs)(p:VAs K H xs Ts):kR K (Itl K a) H Ts:=λH1 hs=>by
 have l:xs.length=Ts.length:=Paired.length p
 have q:=cP (h.hs hs)
 refine⟨λi hi=>⟨xs,xs[i]'(by omega),q,qk_ _⟩,λi x H2 hi ⟨e,y⟩=>?_,⟨xs,q,by omega⟩⟩
 subst e
 obtain⟨T,eT,v⟩:=eZ (p.hs hs) (y xs q)
 exact⟨Same.refl _,T,eT,v⟩
theorem zJc{K:W.Frag}{H:Hp}{a:Addr}{xs:List V}{Ts:List Tv}(h:PSeq K H true a xs)(p:VAs K H xs Ts):kR K (Itt K a) H Ts:=λH1 hs=>by
 have l:xs.length=Ts.length:=Paired.length p
 have q:SqT K H1 a xs:=h.hs hs
 refine⟨λi hi=>⟨xs,xs[i]'(by omega),q,qk_ _⟩,λi x H2 hi ⟨e,y⟩=>?_,⟨xs,q,by omega⟩⟩
 subst e
 obtain⟨T,eT,v⟩:=eZ (p.hs hs) (y xs q)
 exact⟨Same.refl _,T,eT,v⟩
theorem zJd{K:W.Frag}{H:Hp}{z:Str}:kR K (Its z) H (z.cps.toList.map λc=>sT ⟨#[c]⟩):=λH1 hs=>by
 refine⟨λi hi=>(show i<z.cps.size by simpa using hi),λi x H2 hi ⟨e,c,ec,ex⟩=>?_,by simp[Its]⟩
 subst e ex
 refine⟨Same.refl _,sT ⟨#[c]⟩,?_,.flat rfl⟩
 rw[qv_,qr_,ec]
 rfl
theorem zHq{K:W.Frag}{H:Hp}{a:Addr}{ob:Obj}{kvs:List (Key×V)}{kts:List (Str×Tv)}(h:FzD H a ob kvs)(p:VAk K H kvs kts):kR K (ItD a ob kvs) H (kts.map λkt=>sT kt.1):=λH1 hs=>by
 have l:kvs.length=kts.length:=Paired.length p
 have q:FzD H1 a ob kvs:=hs _ _ rfl h
 refine⟨λi hi=>⟨q,by rw[qc_]at hi;omega⟩,λi x H2 hi ⟨e,k,v,ek,ex⟩=>?_,⟨q,by rw[qc_];omega⟩⟩
 subst e ex
 obtain⟨kt,ekt,e1,_⟩:=eZ p ek
 refine⟨Same.refl _,sT kt.1,by rw[qv_,ekt];rfl,?_⟩
 have e1:k=.inr kt.1:=e1
 rw[e1]
 exact .flat rfl
def uIt(u:UT):UTl:=λρ Q=>u ρ λT ρ1=>pIt T λTs=>Q Ts ρ1
theorem bU{u:UT}(h:UE X F e u):UI X F tg e (uIt u):=⟨λpins s σ H R I ⟨ρ,Q,fr,hu,k⟩=>by
 have IT:ItR X tg _:=it_list.or (it_tup.or (it_str.or zHo))
 refine thn (h.pe pins s σ H (λx H1=>_) I ⟨ρ,_,fr,hu,λx T H' ρ' s v q=>?_⟩) λv s1 ⟨x,H1,I1,r1,q1⟩=>IT pins s1 σ H1 x v R I1 r1 q1
 unfold pIt at q
 split at q
 ·rename_i t Ts
  obtain⟨a,xs,rfl,hs,z,p⟩:=v.seqI
  cases t with
  |false=>exact .inl ⟨a,xs,rfl,cP hs,k _ _ _ _ s (zHp hs p) q⟩
  |true=>exact .inr (.inl ⟨a,xs,rfl,hs,k _ _ _ _ s (zJc hs p) q⟩)
 ·obtain⟨rfl,_⟩:=v.leafI
  exact .inr (.inr (.inl ⟨_,rfl,k _ _ _ _ s zJd q⟩))
 ·obtain⟨a,kvs,rfl,⟨ob,hd⟩,n,z,p⟩:=v.dctI
  exact .inr (.inr (.inr ⟨a,ob,kvs,rfl,hd,k _ _ _ _ s (zHq hd p) q⟩))
 ·exact False.elim q⟩
def jC(lo:Int)(n:Nat):List Tv:=(List.range n).map λ(i:Nat)=>iT (lo+i)
theorem kB(lo:Int)(n:Nat):(jC lo n).length=n:=by simp[jC]
theorem nC{lo:Int}{n i:Nat}{T:Tv}(h:(jC lo n)[i]?=some T):i<n/\T=iT (lo+i):=by
 have l:=(qw_.mp h).1
 rw[kB]at l
 refine⟨l,?_⟩
 simp only[jC,List.getElem?_map,List.getElem?_range l]at h
 exact(Option.some.inj h).symm
theorem zF6{K:W.Frag}{H:Hp}{lo:Int}{n:Nat}:kR K (Itr lo n) H (jC lo n):=λH1 hs=>by
 have l:(jC lo n).length=n:=by simp[jC]
 refine⟨λi hi=>by rw[l]at hi;exact hi,λi x H2 hi ⟨e,ex⟩=>?_,by rw[l];exact qe_ _⟩
 subst e ex
 rw[l]at hi
 exact⟨Same.refl _,iT (lo+i),by simp[jC,hi],.flat rfl⟩
def zJv(ua:UTa):UTl:=λρ Q=>uVs ua ρ λTs ρ1=>∃j:Int,Ts=[iT j] /\ -(2 ^ 62)<=j/\j<2 ^ 62/\Q (jC 0 j.toNat) ρ1
theorem mU{a:Expr}{ua:UTa}{p pos:Pos}(hg:Gl X "range")(hm:X.mg "range"=none)(ha:UA X F [a] ua)(hs:starEach [a] X.env=[(false,eval a X.env)]:=by rfl):UI X F tg (.Call (.Name "range" p) [a] [] pos) (zJv ua):=⟨PI.imp (zEM hg hm ha.pa hs) λσ H R ⟨ρ,Q,fr,hu,k⟩=>by
 refine⟨ρ,_,fr,hu,λxs as H1 ρ1 s1 p1 q1=>?_⟩
 obtain⟨Ts,rfl,j,rfl,h1,h2,q⟩:=iQ q1
 cases iR p1 with
 |cons v t=>
  cases t
  obtain⟨rfl,_⟩:=v.leafI
  exact⟨j,rfl,h1,h2,k _ _ _ _ s1 zF6 q⟩⟩
theorem zJb{K:W.Frag}{H:Hp}{t:Bool}{a b:Addr}{xs ys:List V}{Ts Us:List Tv}(h:PSeq K H t a xs)(p:VAs K H xs Ts)(h':PSeq K H t b ys)(p':VAs K H ys Us):kR K (Itz t K a b) H (List.zipWith (λT U=>.seq true [T,U]) Ts Us):=λH1 hs=>by
 have l:xs.length=Ts.length:=Paired.length p
 have l':ys.length=Us.length:=Paired.length p'
 have sq:∀{c:Addr} {zs:List V},PSeq K H t c zs->SqX t K H1 c zs:=λ{c zs} h=>by
  have h:=h.hs hs
  cases t with
  |false=>exact cP h
  |true=>exact h
 have q:=sq h
 have q':=sq h'
 refine⟨λi hi=>?_,λi x H2 hi ⟨c,y,z,ex,nc,e,hy,hz⟩=>?_,⟨xs,ys,q,q',by rw[List.length_zipWith];omega⟩⟩
 ·rw[List.length_zipWith]at hi
  exact⟨xs,ys,xs[i]'(by omega),ys[i]'(by omega),q,q',qk_ _,qk_ _⟩
 ·subst e ex
  obtain⟨T,eT,v⟩:=eZ (p.hs hs) (hy xs q)
  obtain⟨U,eU,v'⟩:=eZ (p'.hs hs) (hz ys q')
  refine⟨bZ nc,.seq true [T,U],by rw[List.getElem?_zipWith,eT,eU],VA.seq (t:=true) (SqT.of aZ) (show 2<=100000 by decide) (.cons (v.hs (gK nc)) (.cons (v'.hs (gK nc)) .nil))⟩
def zKs(ua:UTa):UTl:=λρ Q=>uVs ua ρ λTs ρ1=>∃t As Bs,Ts=[.seq t As,.seq t Bs]/\Q (List.zipWith (λT U=>.seq true [T,U]) As Bs) ρ1
theorem zHS{a b:Expr}{ua:UTa}{es:List Expr}{ek:Nat}{p pos pos':Pos}(hg:Gl X "zip")(hm:X.mg "zip"=none)(ha:UA X F [a,b] ua)(hs:starEach [a,b] X.env=[(false,eval a X.env),(false,eval b X.env)]:=by rfl)(hs2:starEach [b] X.env=[(false,eval b X.env)]:=by rfl):
  UI X F (.Tuple es ek pos') (.Call (.Name "zip" p) [a,b] [] pos) (zKs ua):=⟨PI.imp (zIA hg hm ha.pa hs hs2) λσ H R ⟨ρ,Q,fr,hu,k⟩=>by
 refine⟨ρ,_,fr,hu,λxs as H1 ρ1 s1 p1 q1=>?_⟩
 obtain⟨Ts,rfl,t,As,Bs,rfl,q⟩:=iQ q1
 have sq:∀{c:Addr} {zs:List V},PSeq X.K H1 t c zs->SqX t X.K H1 c zs:=λ{c zs} h=>by
  cases t with
  |false=>exact cP h
  |true=>exact h
 cases iR p1 with
 |cons v r=>
  cases r with
  |cons v' r=>
   cases r
   obtain⟨a,xs,rfl,hq,z,p⟩:=v.seqI
   obtain⟨b,ys,rfl,hq',z',p'⟩:=v'.seqI
   exact⟨t,a,b,rfl,⟨xs,sq hq⟩,⟨ys,sq hq'⟩,k _ _ _ _ s1 (zJb hq p hq' p') q⟩⟩
end
abbrev UG:=Tv->aQ->(aQ->Prop)->Prop
abbrev UGs:=List Tv->aQ->(aQ->Prop)->Prop
def zCN(K:W.Frag)(F:Fm)(m:Nat)(g:UG):TG:=λv σ H QQ=>∃T ρ Q,VA K H v T/\FrOk K F ρ σ H/\g T ρ Q/\∀σ' ρ',FrOk K F ρ' σ' H->σ'.length=σ.length->σ'.drop m=σ.drop m->ρ'.drop m=ρ.drop m->Sbv ρ' ρ->Q ρ'->QQ σ' H
def zI1(K:W.Frag)(F:Fm)(m:Nat)(g:UGs):TGs:=λvs σ H QQ=>∃Ts ρ Q,VAs K H vs Ts/\FrOk K F ρ σ H/\g Ts ρ Q/\∀σ' ρ',FrOk K F ρ' σ' H->σ'.length=σ.length->σ'.drop m=σ.drop m->ρ'.drop m=ρ.drop m->Sbv ρ' ρ->Q ρ'->QQ σ' H
structure UGt (X:Cx) (F:Fm) (m:Nat) (tg:Expr) (g:UG):Prop where
 pg:PG X tg (zCN X.K F m g)
structure sZ (X:Cx) (F:Fm) (m:Nat) (tgs:List Expr) (g:UGs):Prop where
 pg:PGs X tgs (zI1 X.K F m g)
theorem PG.imp{X:Cx}{tg:Expr}{t t':TG}(h:PG X tg t)(i:∀v σ H Q,t' v σ H Q->t v σ H Q):PG X tg t':=λpins s σ H v u Q I r q=>h pins s σ H v u Q I r (i v σ H Q q)
theorem PGs.imp{X:Cx}{tg:List Expr}{t t':TGs}(h:PGs X tg t)(i:∀v σ H Q,t' v σ H Q->t v σ H Q):PGs X tg t':=λpins s σ H v u Q I r q=>h pins s σ H v u Q I r (i v σ H Q q)
section
variable{X:Cx}{F:Fm}{pos:Pos}{m:Nat}
def gN(i:Nat):UG:=λT ρ Q=>Q (ρ.set i (.va T))
theorem drop_set{α:Type}{l:List α}{i m:Nat}{x:α}(h:i<m):(l.set i x).drop m=l.drop m:=by
 rw[List.drop_set,if_pos h]
theorem zGL{ρ:aQ}{i:Nat}{T:Tv}:Sbv (ρ.set i (.va T)) ρ:=λj s e mm=>by
 by_cases z:i=j
 ·subst z
  have hi:i<ρ.length:=by
   have:=(qw_.mp e).1
   rwa[qv1_]at this
  rw[qj1_ hi]at e
  cases e;cases mm
 ·rw[qm1_ z]at e;exact⟨s,e,mm⟩
theorem cW(i:Nat){x:Str}(hm:i<m)(hN:X.N.Nodup)(hi:X.N[i]?=some x)(hx:Loc X.env.scope x)(hf:X.fn x=true\/X.env.scope.names.lookup x=some .local:=by first|exact .inl rfl|exact .inr rfl|assumption):UGt X F m (.Name x pos) (gN i):=⟨PG.imp (zG3 hN hi hx hf) λv σ H QQ ⟨T,ρ,Q,vv,fr,h,k⟩=>
 k _ _ (fr.set (s:=.va T) (λ_=>⟨v,rfl,vv⟩) (λz=>absurd z ql_)) qv1_ (drop_set hm) (drop_set hm) zGL h⟩
def gT(n:Nat)(g:UGs):UG:=λT ρ Q=>∃Ts,T=.seq true Ts/\Ts.length=n/\g Ts ρ Q
def gNl:UGs:=λTs ρ Q=>Ts=[]/\Q ρ
def gCn(g:UG)(gs:UGs):UGs:=λTs ρ Q=>∃T r,Ts=T::r/\g T ρ λρ1=>gs r ρ1 Q
theorem zGB:sZ X F m [] gNl:=⟨PGs.imp zG2 λvs σ H QQ ⟨Ts,ρ,Q,vv,fr,⟨e,h⟩,k⟩=>by
 subst e
 cases vv
 exact⟨rfl,k _ _ fr rfl rfl rfl (Sbv.refl _) h⟩⟩
theorem zAB{e:Expr}{es:List Expr}{g:UG}{gs:UGs}(h1:UGt X F m e g)(h2:sZ X F m es gs)(hs:(assignEach (e::es) X.env).map (·.2)=assign e X.env::(assignEach es X.env).map (·.2):=by rfl):sZ X F m (e::es) (gCn g gs):=⟨PGs.imp (zFQ h1.pg h2.pg hs) λvs σ H QQ ⟨Ts,ρ,Q,vv,fr,⟨T,r,e,h⟩,k⟩=>by
 subst e
 cases vv with
 |cons v vs'=>
  refine⟨_,_,rfl,T,ρ,_,v,fr,h,λσ' ρ' f' l d dr sb q=>⟨r,ρ',Q,vs',f',q,λσ2 ρ2 f2 l2 d2 dr2 sb2 q2=>?_⟩⟩
  exact k _ _ f2 (l2.trans l) (d2.trans d) (dr2.trans dr) (sb.trans sb2) q2⟩
theorem zHT{es:List Expr}{k:Nat}{g:UGs}(n:Nat)(hc:X.calm=true)(h:sZ X F m es g)(hn:(assignEach es X.env).length=n:=by rfl)(hst:(assignEach es X.env).findIdx? (·.1)=none:=by rfl):UGt X F m (.Tuple es k pos) (gT n g):=⟨PG.imp (zIB hc h.pg hn hst) λv σ H QQ ⟨T,ρ,Q,vv,fr,⟨Ts,e,el,h⟩,k⟩=>by
 subst e
 obtain⟨a,xs,rfl,hq,z,p⟩:=vv.seqI
 exact⟨a,xs,rfl,hq,(Paired.length p).trans el,Ts,ρ,Q,p,fr,h,k⟩⟩
end
def blk(own:Nat)(fr:List Nat)(ρ:aQ):aQ:=List.replicate own .no++fr.map λi=>ρ.getD i .no
def nH:List Nat->List Sl->aQ->aQ
 |i::fr,s::ss,ρ=>nH fr ss (ρ.set i s)
 |_,_,ρ=>ρ
def bck(own:Nat)(fr:List Nat)(ρ ρ':aQ):aQ:=nH fr (ρ'.drop own) ρ
def fH(own:Nat)(fr:List Nat)(g:UG)(tf:UTt)(ue:UT):List Tv->aQ->(List Tv->aQ->Prop)->Prop
 |[],ρ,Q=>Q [] ρ
 |T::Ts,ρ,Q=>g T (blk own fr ρ) λρ1=>tf ρ1 λb ρ2=>if b=true then ue ρ2 λU ρ3=>fH own fr g tf ue Ts (bck own fr ρ ρ3) λUs ρ4=>Q (U::Us) ρ4 else fH own fr g tf ue Ts (bck own fr ρ ρ2) Q
def kJ(own:Nat)(fr:List Nat)(ui:UTl)(g:UG)(tf:UTt)(ue:UT):UTl:=λρ Q=>ui ρ λTs ρ1=>Ts.length<=100000/\fH own fr g tf ue Ts ρ1 Q
theorem yP:∀(fr:List Nat) (ss:List Sl) (ρ:aQ),(nH fr ss ρ).length=ρ.length
 |[],_,_=>rfl
 |_::_,[],_=>rfl
 |i::fr,s::ss,ρ=>by show(nH fr ss _).length=_;rw[yP fr ss,qv1_]
theorem tK:∀(fr:List Nat) (ss:List Sl) (ρ:aQ) (i:Nat) (s:Sl),fr.length<=ss.length->(nH fr ss ρ)[i]?=some s->(∃j:Nat,fr[j]?=some i/\ss[j]?=some s)\/(i∉fr/\ρ[i]?=some s)
 |[],_,_,i,s,_,h=>.inr ⟨by simp,h⟩
 |_::_,[],_,_,_,l,_=>by simp at l
 |i0::fr,s0::ss,ρ,i,s,l,h=>by
  rcases tK fr ss (ρ.set i0 s0) i s (by simpa using l) h with⟨j,e1,e2⟩|⟨n,e⟩
  ·exact .inl ⟨j+1,by simpa using e1,by simpa using e2⟩
  ·by_cases z:i0=i
   ·subst z
    have hi:i0<ρ.length:=by
     have:=(qw_.mp e).1
     rwa[qv1_]at this
    rw[qj1_ hi]at e
    exact .inl ⟨0,rfl,by simpa using e⟩
   ·rw[qm1_ z]at e
    exact .inr ⟨by simp[n,Ne.symm z],e⟩
theorem pX{own:Nat}{fr:List Nat}{σ ow:St}(ho:ow.length=own){j i:Nat}(h:fr[j]?=some i):ixv (ow++σf fr σ) (own+j)=ixv σ i:=by
 unfold ixv σf
 rw[qG1_ (by omega),show own+j-ow.length=j by omega,qv_,h]
 show(some (σ.getD i none)).join=_
 rw[qV_]
 cases σ[i]? with
 |none=>rfl
 |some o=>rfl
section
variable{K:W.Frag}{F:Fm}{ρ ρ4 ρ6:aQ}{σ ow:St}{H H6:Hp}{own:Nat}{fr:List Nat}
theorem lJ{i:Nat}{s:Sl}(h:(blk own fr ρ)[i]?=some s):(i<own/\s=.no)\/∃j k,i=own+j/\fr[j]?=some k/\s=ρ.getD k .no:=by
 unfold blk at h
 by_cases hi:i<own
 ·rw[qH1_ (by simpa using hi),qe2_,if_pos hi]at h
  exact .inl ⟨hi,(Option.some.inj h).symm⟩
 ·rw[qG1_ (by simpa using hi),qf2_,qv_]at h
  obtain⟨k,e,rfl⟩:=qg1_.mp h
  exact .inr ⟨i-own,k,by omega,e,rfl⟩
theorem lF{k:Nat}{s:Sl}(e:s=ρ.getD k .no)(m:s≠.no):ρ[k]?=some s:=by
 rw[qV_]at e
 cases q:ρ[k]? with
 |none=>rw[q]at e;exact absurd e m
 |some t=>rw[q]at e;rw[e];rfl
theorem FrOk.pick(f:FrOk K F ρ σ H)(nd:fr.Nodup):FrOk K F (blk own fr ρ) (σc own fr σ) H:=by
 have val:∀{j k:Nat},fr[j]?=some k->ixv (σc own fr σ) (own+j)=ixv σ k:=λh=>pX (qf2_) h
 refine⟨f.d0,f.kp,?_,λi s e=>?_,λi i' a s t e e' m m' q q'=>?_⟩
 ·unfold blk σc σf
  simp
 ·rcases lJ e with⟨_,rfl⟩|⟨j,k,rfl,ek,es⟩
  ·trivial
  ·rw[val ek]
   cases s with
   |no=>trivial
   |_=>exact f.at_ k _ (lF es (λz=>by cases z))
 ·rcases lJ e with⟨_,rfl⟩|⟨j,k,rfl,ek,es⟩
  ·cases m
  ·rcases lJ e' with⟨_,rfl⟩|⟨j',k',rfl,ek',es'⟩
   ·cases m'
   ·rw[val ek]at q
    rw[val ek']at q'
    have:=f.ap k k' a s t (lF es (λz=>by rw[z]at m;cases m)) (lF es' (λz=>by rw[z]at m';cases m')) m m' q q'
    subst this
    have h1:=(qw_.mp ek).1
    rw[(List.getElem?_inj h1 nd).mp (ek.trans ek'.symm)]
theorem Stp.back(f:FrOk K F ρ σ H)(nd:fr.Nodup)(s:Stp K F (ow++σf fr σ) ρ4 H ρ6 H6)(f4:FrOk K F ρ4 (ow++σf fr σ) H)(ho:ow.length=own)(hd:ρ4.drop own=(blk own fr ρ).drop own)(sb:Sbv ρ4 (blk own fr ρ)):Stp K F σ ρ H (bck own fr ρ ρ6) H6:=by
 -- a slot of the block that is one's own is the def's own
 have dm:∀(i:Nat) (t:Sl) (a:Addr),ρ4[i]?=some t->eC t=true->ixv (ow++σf fr σ) i=some (.ref a)->∃k u,k∈fr/\ρ[k]?=some u/\eC u=true/\ixv σ k=some (.ref a):=λi t a e m q=>by
  obtain⟨u,eu,mu⟩:=sb i t e m
  rcases lJ eu with⟨_,rfl⟩|⟨j,k,rfl,ek,es⟩
  ·cases mu
  ·exact⟨k,u,qz_ ek,lF es (λz=>by rw[z]at mu;cases mu),mu,by rw[<-pX ho ek];exact q⟩
 have st:Stay F ρ σ H H6:=λb o e d n=>s.st b o e d λi t e1 m q=>by
  obtain⟨k,u,_,eu,mu,qu⟩:=dm i t b e1 m q
  exact n k u eu mu qu
 have l6:fr.length<=(ρ6.drop own).length:=by
  have:=s.fr.len
  rw[qh_]at this
  rw[qI1_,this,ho]
  unfold σf
  rw[qc_]
  omega
 have sub:Sbv (bck own fr ρ ρ6) ρ:=λi t e m=>by
  rcases tK fr _ ρ i t l6 e with⟨j,ej,et⟩|⟨_,e⟩
  ·rw[qv2_]at et
   obtain⟨u,eu,mu⟩:=s.sub _ t et m
   have:(ρ4.drop own)[j]?=some u:=by rw[qv2_];exact eu
   rw[hd,qv2_]at this
   rcases lJ this with⟨z,_⟩|⟨j',k,ejj,ek,es⟩
   ·omega
   ·have:j'=j:=by omega
    subst this
    rw[ej]at ek;cases ek
    exact⟨u,lF es (λz=>by rw[z]at mu;cases mu),mu⟩
  ·exact⟨t,e,m⟩
 have hs:HS H H6:=s.hs f4
 refine⟨⟨f.d0,s.fr.kp,by unfold bck;rw[yP];exact f.len,λi t e=>?_,λi i' a t t' e e' m m' q q'=>?_⟩,st,sub,s.tr⟩
 ·rcases tK fr _ ρ i t l6 e with⟨j,ej,et⟩|⟨ni,e⟩
  ·rw[qv2_]at et
   have:=s.fr.at_ _ t et
   rwa[pX ho ej]at this
  ·have h:=f.at_ i t e
   have keep:∀a o,eC t=true->ixv σ i=some (.ref a)->H a=some o->H6 a=some o:=λa o m q e1=>s.st a o e1 (f.fresh_nodk (f.own_at e m q).2) λi' t' e2 m2 q2=>by
    obtain⟨k,u,hk,eu,mu,qu⟩:=dm i' t' a e2 m2 q2
    have:=f.ap k i a u t eu e mu m qu q
    subst this
    exact ni hk
   cases t with
   |no=>trivial
   |va T=>obtain⟨y,e1,v⟩:=h;exact⟨y,e1,v.hs hs⟩
   |own Ts=>obtain⟨a,xs,e1,e2,e3,z,p⟩:=h;exact⟨a,xs,e1,keep a _ rfl e1 e2,e3,z,p.hs hs⟩
   |dct kts=>obtain⟨a,kvs,e1,e2,e3,n,z,p⟩:=h;exact⟨a,kvs,e1,keep a _ rfl e1 e2,e3,n,z,p.hs hs⟩
   |dk=>exact h
 ·obtain⟨u,eu,mu⟩:=sub i t e m
  obtain⟨u',eu',mu'⟩:=sub i' t' e' m'
  exact f.ap i i' a u u' eu eu' mu mu' q q'
end
theorem uH{K:W.Frag}{F:Fm}{own:Nat}{fr:List Nat}{ui:UTl}{g:UG}{tf:UTt}{ue:UT}(nd:fr.Nodup)(σ:St)(H:Hp)(QQ:VK)(h:rW K F (kJ own fr ui g tf ue) σ H QQ):wI own fr (zCM K F ui) (zCN K F own g) (rV K F tf) (gP K F ue) σ H QQ:=by
 obtain⟨ρ,Q,f,h,k⟩:=h
 refine⟨ρ,_,f,h,λJ Ts H1 ρ1 s1 it q1 a na=>?_⟩
 obtain⟨len,q1⟩:=q1
 refine⟨Ts.length,λi ys H2=>∃Us ρi,Stp K F σ ρ1 H1 ρi H2/\VAs K H2 ys Us/\Us.length<=i/\fH own fr g tf ue (Ts.drop i) ρi (λVs ρ'=>Q (Us++Vs) ρ'),⟨[],ρ1,Stp.same s1.fr (bZ na),.nil,qe_ _,q1⟩,?_⟩
 rintro i ys H2 hi ha ⟨Us,ρi,si,p,hl,q⟩
 have hs1:=si.hs s1.fr
 obtain⟨go,yld,stop⟩:=it H2 hs1
 by_cases hlt:i<Ts.length
 ·refine .inr ⟨hlt,go i hlt,λx H3 hy=>?_⟩
  obtain⟨sm,T,eT,vx⟩:=yld i x H3 hlt hy
  have s3:=si.trans (Stp.same si.fr sm)
  have ha3:=sm _ _ ha
  have ed:Ts.drop i=T::Ts.drop (i+1):=by
   rw[qC2_ hlt]
   congr 1
   rw[qk_ hlt]at eT
   exact Option.some.inj eT
  rw[ed]at q
  have nodk:=s1.fr.none_nodk na
  have nown:=s3.notown s1.fr na
  refine⟨T,blk own fr ρi,_,vx,s3.fr.pick nd,q,λσ4 ρ4 f4 l4 d4 dr4 sb4 q4=>?_⟩
  have e4:σ4=σ4.take own++σf fr σ:=by
   have:σ4.drop own=σf fr σ:=by
    rw[d4]
    unfold σc
    rw[List.drop_append_of_le_length (by simp),List.drop_of_length_le (by simp),ql1_]
   rw[<-this,qD2_]
  have lo:(σ4.take own).length=own:=by
   rw[qO_,l4]
   unfold σc
   simp
  have notin:∀(j:Nat) (t:Sl),ρ4[j]?=some t->eC t=true->ixv σ4 j≠some (.ref a):=λj t e m z=>by
   obtain⟨u,eu,mu⟩:=sb4 j t e m
   rcases lJ eu with⟨_,rfl⟩|⟨j',k,rfl,ek,es⟩
   ·cases mu
   ·rw[e4,pX lo ek]at z
    exact nown k u (lF es (λz=>by rw[z]at mu;cases mu)) mu z
  refine⟨⟨σ4.take own,lo,e4⟩,ρ4,_,f4,q4,λb H5 ρ5 s5 q5=>?_⟩
  have a5:H5 a=some (.lst ys):=s5.st a _ ha3 nodk notin
  cases b with
  |true=>
   refine cB ?_
   rw[if_pos rfl]at q5
   refine⟨ρ5,_,s5.fr,q5,λy U H6 ρ6 s6 v6 q6=>?_⟩
   have s46:=s5.trans s6
   have a6:H6 a=some (.lst ys):=s46.st a _ ha3 nodk notin
   have lys:ys.length=Us.length:=Paired.length p
   refine⟨a6,vO (by omega),Us++[U],bck own fr ρi ρ6,?_,?_,by rw[qh_,qS1_];omega,?_⟩
   ·rw[e4]at s46 f4
    exact(s3.trans (Stp.back s3.fr nd s46 f4 lo dr4 sb4)).put s1.fr na a6 rfl _
   ·have h36:=s46.hs f4
    exact VAs.hs (fU a6 rfl) (Paired.snoc ((p.hs sm.hs).hs h36) v6)
   ·simpa using q6
  |false=>
   refine aW ?_
   rw[if_neg ql_]at q5
   refine⟨a5,Us,bck own fr ρi ρ5,?_,?_,by omega,q5⟩
   ·rw[e4]at s5 f4
    exact s3.trans (Stp.back s3.fr nd s5 f4 lo dr4 sb4)
   ·exact(p.hs sm.hs).hs (s5.hs f4)
 ·have e:i=Ts.length:=by omega
  subst e
  rw[qP2_]at q
  have q:Q (Us++[]) ρi:=q
  rw[qN_]at q
  exact .inl ⟨stop,k a ys Us H2 ρi (s1.trans si) (s1.non na) ha (by omega) p q⟩
section
variable{X:Cx}{F:Fm}{sc:Scope}{XN N:List Str}{own:Nat}{fr:List Nat}{scope:Scope}{elt tg iter:Expr}{ifs:List Expr}{pos:Pos}{ui:UTl}{g:UG}{tf:UTt}{ue:UT}
structure UF (X:Cx) (F:Fm) (ifs:List Expr) (u:UTt):Prop where
 pf:PFs X ifs (rV X.K F u)
def zCV:UTt:=λρ Q=>Q true ρ
theorem gI:UF X F [] zCV:=⟨λpins s σ H Q I ⟨ρ,Q',f,h,k⟩=>zIE pins s σ H Q I (k _ _ _ (Stp.refl f) h)⟩
theorem hG{c:Expr}{t:UTt}(h:UB X F c t):UF X F [c] t:=⟨zID h.pt⟩
theorem zBm(hc:X.calm=true)(S:kA sc XN N own fr scope)(nd:fr.Nodup)(hi:UI X F tg iter ui)
  (hg:∀cl C fp s H,UGt (cG X N scope cl C fp s H) F own tg g) (hf:∀cl C fp s H,UF (cG X N scope cl C fp s H) F ifs tf) (he:∀cl C fp s H,UE (cG X N scope cl C fp s H) F elt ue)
  (hs:∀x,foldedSetIterable iter X.env x=pure x:=by intro _;rfl) (hsc:X.env.scope=sc:=by rfl) (hxn:X.N=XN:=by rfl):UL X F (.ListComp elt [⟨tg,iter,ifs,0⟩] scope pos) (kJ own fr ui g tf ue):=
 ⟨PE.imp (zG6 hc S hi.pi (λcl C fp s H=>(hg cl C fp s H).pg) (λcl C fp s H=>(hf cl C fp s H).pf) (λcl C fp s H=>(he cl C fp s H).pe) hs hsc hxn) (uH nd)⟩
theorem zGz{i:Nat}{x:Str}{pos' spos:Pos}(hc:X.calm=true)(hN:X.N.Nodup)(hx:X.N[i]?=some x)(hl:Loc X.env.scope x)(S:kA sc XN N own fr scope)(nd:fr.Nodup)(hi:UI X F tg iter ui)
  (hg:∀cl C fp s H,UGt (cG X N scope cl C fp s H) F own tg g) (hf:∀cl C fp s H,UF (cG X N scope cl C fp s H) F ifs tf) (he:∀cl C fp s H,UE (cG X N scope cl C fp s H) F elt ue)
  (hsw:swapsWith (.ListComp elt [⟨tg,iter,ifs,0⟩] scope pos) (some (.Name x pos')) spos.line X.env=pure true:=by rfl)
  (hf':X.fn x=true\/X.env.scope.names.lookup x=some .local:=by first|exact .inl rfl|exact .inr rfl|assumption)
  (hs:∀x,foldedSetIterable iter X.env x=pure x:=by intro _;rfl) (hsc:X.env.scope=sc:=by rfl) (hxn:X.N=XN:=by rfl):US X F (.Assign [.Name x pos'] (.ListComp elt [⟨tg,iter,ifs,0⟩] scope pos) spos) (sG i (kJ own fr ui g tf ue)):=
 ⟨PS.imp (zBw hc hN hx hl S hi.pi (λcl C fp s H=>(hg cl C fp s H).pg) (λcl C fp s H=>(hf cl C fp s H).pf) (λcl C fp s H=>(he cl C fp s H).pe) hsw hf' hs hsc hxn) (zAX (uH nd))⟩
theorem PS.fz{st:Stmt}{t:TS}(h:PS X st t):PS X st (λD σ H=>t {D with nx:=λσ' H'=>D.nx σ' H'\/∃a o,H' a=some o/\fzb o=true/\∀ob,D.nx σ' (upd H' a (.frz ob o))} σ H):=λpins s σ H D I q=>thn (h pins s σ H _ I q) λfl s' z=>by
 cases fl with
 |next=>
  obtain⟨σ',H',I',q⟩:=z
  rcases q with q|⟨a,o,e,n,q⟩
  ·exact⟨σ',H',I',q⟩
  ·obtain⟨ob,I2⟩:=I'.fz e n
   exact⟨σ',_,I2,q ob⟩
 |brk=>exact z
 |cont=>exact z
 |ret u=>exact z
theorem zGy{i:Nat}{x:Str}{pos' spos:Pos}(hc:X.calm=true)(hN:X.N.Nodup)(hx:X.N[i]?=some x)(hl:Loc X.env.scope x)(S:kA sc XN N own fr scope)(nd:fr.Nodup)(hi:UI X F tg iter ui)
  (hg:∀cl C fp s H,UGt (cG X N scope cl C fp s H) F own tg g) (hf:∀cl C fp s H,UF (cG X N scope cl C fp s H) F ifs tf) (he:∀cl C fp s H,UE (cG X N scope cl C fp s H) F elt ue)
  (hsw:swapsWith (.ListComp elt [⟨tg,iter,ifs,0⟩] scope pos) (some (.Name x pos')) spos.line X.env=pure true:=by rfl)
  (hf':X.fn x=true\/X.env.scope.names.lookup x=some .local:=by first|exact .inl rfl|exact .inr rfl|assumption)
  (hs:∀x,foldedSetIterable iter X.env x=pure x:=by intro _;rfl) (hsc:X.env.scope=sc:=by rfl) (hxn:X.N=XN:=by rfl):US X F (.Assign [.Name x pos'] (.ListComp elt [⟨tg,iter,ifs,0⟩] scope pos) spos) (sD i (uL (kJ own fr ui g tf ue))):=
 ⟨PS.imp (PS.fz (zBw hc hN hx hl S hi.pi (λcl C fp s H=>(hg cl C fp s H).pg) (λcl C fp s H=>(hf cl C fp s H).pf) (λcl C fp s H=>(he cl C fp s H).pe) hsw hf' hs hsc hxn)) λD σ H ⟨ρ,P,f,h,k1,_⟩=>by
  refine uH nd σ H _ ⟨ρ,_,f,h,λa xs Ts H' ρ' s n e z p q=>?_⟩
  refine .inr ⟨a,_,e,rfl,λob=>?_⟩
  have s2:=s.put f n e rfl (.frz ob (.lst xs))
  exact k1 _ _ _ (s2.fr.set (s:=.va (.seq false Ts)) (λ_=>⟨_,rfl,VA.seq (t:=false) ⟨ob,aZ⟩ z (p.hs (fU e rfl))⟩) (λz=>absurd z ql_)) (s2.hs f) q⟩
def jF(g:UG)(ub:UTs):List Tv->PEnds->aQ->Prop
 |[],P,ρ=>P.nx ρ
 |T::Ts,P,ρ=>g T ρ λρ1=>ub {P with nx:=λρ'=>jF g ub Ts P ρ',ct:=λρ'=>jF g ub Ts P ρ',bk:=P.nx} ρ1
def zKL(ui:UTl)(g:UG)(ub:UTs):UTs:=λP ρ=>ui ρ λTs ρ1=>jF g ub Ts P ρ1
theorem dN{body:List Stmt}{ub:UTs}{m:Nat}(hp:PassesOwn (model X.prog X.w) X.A X.env X.xe)(hc:X.calm=true)(hi:UI X F tg iter ui)(hg:UGt X F m tg g)(hb:USs X F body ub)
  (hs:∀x,foldedSetIterable iter X.env x=pure x:=by intro _;rfl):US X F (.For tg iter body [] pos) (zKL ui g ub):=⟨PS.imp (zIx hp hc hi.pi hg.pg hb.ps hs) λD σ H ⟨ρ,P,f,h,k1,k2,k3,k4⟩=>by
 refine⟨ρ,_,f,h,λJ Ts H1 ρ1 s1 it q1=>?_⟩
 have h01:=s1.hs f
 refine⟨λi m σ' H'=>m=Ts.length-i/\i<=Ts.length/\HS H1 H'/\∃ρi,FrOk X.K F ρi σ' H'/\jF g ub (Ts.drop i) P ρi,⟨_,rfl,qu_ _,HS.refl _,ρ1,s1.fr,q1⟩,?_⟩
 rintro i m σ' H' ⟨rfl,hi,hs,ρi,fi,q⟩
 obtain⟨go,yld,stop⟩:=it H' hs
 by_cases hlt:i<Ts.length
 ·refine .inr ⟨go i hlt,λσ2 H2=>HS H1 H2/\∃ρ2,FrOk X.K F ρ2 σ2 H2/\jF g ub (Ts.drop (i+1)) P ρ2,λσ2 H2 ⟨hs2,ρ2,f2,q2⟩=>⟨_,by omega,rfl,hlt,hs2,ρ2,f2,q2⟩,λx H3 hy=>?_⟩
  obtain⟨sm,T,eT,vx⟩:=yld i x H3 hlt hy
  have ed:Ts.drop i=T::Ts.drop (i+1):=by
   rw[qC2_ hlt]
   congr 1
   rw[qk_ hlt]at eT
   exact Option.some.inj eT
  rw[ed]at q
  have f3:=(Stp.same fi sm).fr
  refine⟨T,ρi,_,vx,f3,q,λσ4 ρ4 f4 _ _ _ _ q4=>?_⟩
  have h13:=hs.trans sm.hs
  exact⟨ρ4,_,f4,q4,λσ5 H5 ρ5 f5 hs5 q5=>⟨h13.trans hs5,ρ5,f5,q5⟩,k2,λσ5 H5 ρ5 f5 hs5 q5=>k1 _ _ _ f5 (h01.trans (h13.trans hs5)) q5,λσ5 H5 ρ5 f5 hs5 q5=>⟨h13.trans hs5,ρ5,f5,q5⟩⟩
 ·have e:i=Ts.length:=by omega
  subst e
  rw[qP2_]at q
  exact .inl ⟨stop,k1 _ _ _ fi (h01.trans hs) q⟩⟩
def zId(t:UTt)(ub:UTs):UTs:=λP ρ=>∃W:Nat->aQ->Prop,(∃m,W m ρ)/\∀m ρ,W m ρ->t ρ λb ρ1=>if b=true then ub {P with nx:=λρ'=>∃m',m'<m/\W m' ρ',ct:=λρ'=>∃m',m'<m/\W m' ρ',bk:=P.nx} ρ1 else P.nx ρ1
theorem mY{c:Expr}{body:List Stmt}{t:UTt}{ub:UTs}(hp:PassesOwn (model X.prog X.w) X.A X.env X.xe)(hc:UB X F c t)(hb:USs X F body ub):US X F (.While c body [] pos) (zId t ub):=⟨PS.imp (zFM hp hc.pt hb.ps) λD σ H ⟨ρ,P,f,⟨W,⟨m0,w0⟩,h⟩,k1,k2,k3,k4⟩=>by
 refine⟨λm σ' H'=>HS H H'/\∃ρ',FrOk X.K F ρ' σ' H'/\W m ρ',⟨m0,HS.refl _,ρ,f,w0⟩,?_⟩
 rintro m σ' H' ⟨hs,ρ',f',w⟩
 refine⟨ρ',_,f',h m ρ' w,λb H1 ρ1 s1 q1=>?_⟩
 have h1:=hs.trans (s1.hs f')
 cases b with
 |true=>
  rw[if_pos rfl]at q1
  refine cB ⟨λσ2 H2=>HS H H2/\∃m',m'<m/\∃ρ2,FrOk X.K F ρ2 σ2 H2/\W m' ρ2,λσ2 H2 ⟨hs2,m',lt,ρ2,f2,w2⟩=>⟨m',lt,hs2,ρ2,f2,w2⟩,?_⟩
  exact⟨ρ1,_,s1.fr,q1,λσ5 H5 ρ5 f5 hs5 ⟨m',lt,w5⟩=>⟨h1.trans hs5,m',lt,ρ5,f5,w5⟩,k2,λσ5 H5 ρ5 f5 hs5 q5=>k1 _ _ _ f5 (h1.trans hs5) q5,λσ5 H5 ρ5 f5 hs5 ⟨m',lt,w5⟩=>⟨h1.trans hs5,m',lt,ρ5,f5,w5⟩⟩
 |false=>
  rw[if_neg ql_]at q1
  exact aW (k1 _ _ _ s1.fr h1 q1)⟩
end
end L2
namespace L2
open PySem PySem.Spec PyProof.Rows WordM
section
variable{K:W.Frag}{F:Fm}{ρ:aQ}{σ:St}{H:Hp}{i:Nat}{s s':Sl}{a:Addr}{o o':HO}
theorem FrOk.put(fr:FrOk K F ρ σ H)(e:ρ[i]?=some s)(m:eC s=true)(q:ixv σ i=some (.ref a))(h:H a=some o)(n:fzb o=true)(v:HS H (upd H a o')->F.H0 a=none->xX K F (upd H a o') (some (.ref a)) s'):Stp K F σ ρ H (ρ.set i s') (upd H a o'):=by
 have hi:i<ρ.length:=(qw_.mp e).1
 have h0:=(fr.own_at e m q).2
 have hd:=fr.fresh_nodk h0
 have hs:HS H (upd H a o'):=fU h (by cases o<;>first|rfl|exact absurd n ql_)
 have st:∀b u,b≠a->H b=some u->upd H a o' b=some u:=λb u z e=>by rw[bL z];exact e
 have get:∀(j:Nat) (t:Sl),(ρ.set i s')[j]?=some t->(i=j/\t=s')\/(i≠j/\ρ[j]?=some t):=λj t e'=>by
  by_cases z:i=j
  ·subst z
   rw[qj1_ hi]at e'
   exact .inl ⟨rfl,(Option.some.inj e').symm⟩
  ·rw[qm1_ z]at e';exact .inr ⟨z,e'⟩
 have sub:Sbv (ρ.set i s') ρ:=λj t e' m'=>by
  rcases get j t e' with⟨rfl,rfl⟩|⟨z,e'⟩
  ·exact⟨s,e,m⟩
  ·exact⟨t,e',m'⟩
 refine⟨⟨fr.d0,⟨λb u e1 n1=>st b u (λz=>by rw[z,h0]at e1;cases e1) (fr.kp.st b u e1 n1),λp c d=>?_⟩,by rw[qv1_];exact fr.len,λj t e'=>?_,λj k b t t' e1 e2 m1 m2 q1 q2=>?_⟩,λb u e1 _ n1=>st b u (λz=>n1 i s e m (by rw[z];exact q)) e1,sub,λb u e1=>if z:b=a then⟨o',z▸aZ⟩ else⟨u,st b u z e1⟩⟩
 ·obtain⟨ne,⟨S,k,e1⟩,ns,e2,l⟩:=fr.kp.dkk p c d
  exact⟨ne,⟨S,k,st _ _ (hd p c d).1.symm e1⟩,ns,st _ _ (hd p c d).2.symm e2,l⟩
 ·rcases get j t e' with⟨rfl,rfl⟩|⟨z,e'⟩
  ·rw[q];exact v hs h0
  ·have x:=fr.at_ j t e'
   cases t with
   |no=>trivial
   |va T=>obtain⟨y,e1,v⟩:=x;exact⟨y,e1,v.hs hs⟩
   |own Ts=>obtain⟨b,xs,e1,e2,e3,z',p⟩:=x;exact⟨b,xs,e1,st _ _ (λy=>z (fr.ap i j a s _ e e' m rfl q (by rw[e1,y]))) e2,e3,z',p.hs hs⟩
   |dct kts=>obtain⟨b,kvs,e1,e2,e3,n',z',p⟩:=x;exact⟨b,kvs,e1,st _ _ (λy=>z (fr.ap i j a s _ e e' m rfl q (by rw[e1,y]))) e2,e3,n',z',p.hs hs⟩
   |dk=>exact x
 ·obtain⟨u,eu,mu⟩:=sub j t e1 m1
  obtain⟨u',eu',mu'⟩:=sub k t' e2 m2
  exact fr.ap j k b u u' eu eu' mu mu' q1 q2
end
section
variable{X:Cx}{F:Fm}{e:Expr}{u:UT}{x:Str}{p apos cpos pos:Pos}
def vE(i:Nat)(u:UT):UT:=λρ Q=>(∃Ts,ρ[i]?=some (.own Ts))/\u ρ λT ρ1=>∃Ts,ρ1[i]?=some (.own Ts)/\Ts.length<100000/\Q nT (ρ1.set i (.own (Ts++[T])))
theorem fN(i:Nat)(h:UE X F e u)(hN:X.N[i]?=some x:=by rfl)(hv:Vis X.env.scope x:=by first|exact Or.inl rfl|exact Or.inr (Or.inl rfl)|exact Or.inr (Or.inr rfl))(hd:(x==("__debug__":Str))=false:=by decide)(hcd:(x==("__classdict__":Str))=false:=by decide)
  (hbase:attributeBase (.Name x p) "append" X.env (eval (.Name x p) X.env)=eval (.Name x p) X.env:=by rfl)
  (hfew:((backTo cpos (starEach [e] X.env)).all (λx=>!x.1)&&(backToKw cpos (keywordEach [] X.env)).all (λx=>x.1.isSome)&&decide (([e]:List Expr).length+([]:List Keyword).length+(if ([]:List Keyword).isEmpty then 0 else 1)<30))=true:=by rfl)
  (hline:(apos.endLine==cpos.line)=true:=by rfl) (hs:starEach [e] X.env=(false,eval e X.env)::starEach [] X.env:=by rfl) (hplain:(backTo cpos (starEach [] X.env)).any (·.1)=false:=by rfl) (hst:dO e=false:=by rfl):
  UE X F (.Call (.Attribute (.Name x p) "append" apos) [e] [] cpos) (vE i u):=⟨PE.imp (oK PySem.F.plainAttrs_list PySem.F.slot_list_append PySem.F.type_list_append uE (kG hN hv hd hcd) (aD h aE hst).pa hbase hfew hline hs hplain) λσ H QQ ⟨ρ,Q,f,⟨⟨Ts0,e0⟩,hu⟩,k⟩=>by
 obtain⟨a,xs,ea,eH,e3,z,pv⟩:=f.at_ i _ e0
 refine⟨_,jL ea,.inl ⟨rfl,xs,SqL.of eH⟩,ρ,λas ρ1=>∃T,as=[.va T]/\∃Ts,ρ1[i]?=some (.own Ts)/\Ts.length<100000/\Q nT (ρ1.set i (.own (Ts++[T]))),f,?_,λvs as H1 ρ1 s1 p1 q1=>?_⟩
 ·show u ρ _
  have:(λT ρ1=>∃Ts,ρ1[i]?=some (.own Ts)/\Ts.length<100000/\Q nT (ρ1.set i (.own (Ts++[T]))))=(λT (ρ1:aQ)=>(gQ ρ1 λas ρ2=>∃T',Ar.va T::as=[.va T']/\∃Ts,ρ2[i]?=some (.own Ts)/\Ts.length<100000/\Q nT (ρ2.set i (.own (Ts++[T'])))) ):=by
   funext T ρ1
   apply propext
   constructor
   ·intro z;exact⟨T,rfl,z⟩
   ·rintro⟨T',e,z⟩;cases e;exact z
  rw[this]at hu
  exact hu
 ·obtain⟨T,rfl,Ts,e1,lt,q⟩:=q1
  cases p1 with
  |cons v t=>
   cases t
   obtain⟨a',ys,ea',eH1,e3',z',pv'⟩:=s1.fr.at_ i _ e1
   rw[ea]at ea';cases ea'
   have ll:ys.length=Ts.length:=Paired.length pv'
   refine⟨a,ys,_,rfl,rfl,eH1,vO (by omega),k _ _ _ _ (s1.trans (s1.fr.put (s':=.own (Ts++[T])) e1 rfl ea eH1 rfl λhs h0=>⟨a,_,rfl,aZ,h0,by rw[qh_,qS1_];omega,VAs.hs hs (Paired.snoc pv' v)⟩)) (.flat rfl) q⟩⟩
def zFI:V->List V->Hp->VK->Prop:=λx vs H Q=>∃l b xs zs,x=.ref l/\vs=[.ref b]/\H l=some (.lst xs)/\Rd H b (.lst zs)/\xs.length+zs.length<=sizeLine/\Q .non (upd H l (.lst (xs++zs)))
theorem zD8:MtM X "list.extend" zFI:=by
 rintro pins s σ H _ _ v us Q I rx rv ⟨l,b,xs,zs,rfl,rfl,hH,hB,hz,q⟩
 cases rx
 obtain⟨u,rfl,ru⟩:=rv.one
 cases ru
 obtain⟨z,its,n,r,hl,e⟩:=I.lstM hH
 obtain⟨z2,its2,n2,r2,e2⟩:=hB.ok I.hok
 have hl2:=r2.length
 have hlong:¬ (!its.toArray.isEmpty&&Builtin.List.listTooLong (its.toArray.size+its2.toArray.size))=true:=by
  rw[zAR (by rw[qo_,qo_];omega),qE2_]
  exact ql_
 refine call_meets F.slot_list_extend ⟨_,e,rfl⟩ F.entry_list_extend (F.args_list_extend_2 _ _) (AutoSeq1.list_extend_list_list_0 l its.toArray n b its2.toArray n2 hlong (by rw[qo_];omega) (by rw[qo_,qo_];omega)) ⟨e,e2,?_⟩
 exact⟨.non,_,I.lset (its':=its++its2) hH e (by simp) (r.append r2) (by rw[List.length_append];omega),rfl,q⟩
def zGF(i:Nat)(u:UT):UT:=λρ Q=>(∃Ts,ρ[i]?=some (.own Ts))/\u ρ λT ρ1=>∃Ts Us,ρ1[i]?=some (.own Ts)/\T=.seq false Us/\Ts.length+Us.length<=100000/\Q nT (ρ1.set i (.own (Ts++Us)))
theorem tT(i:Nat)(h:UE X F e u)(hN:X.N[i]?=some x:=by rfl)(hv:Vis X.env.scope x:=by first|exact Or.inl rfl|exact Or.inr (Or.inl rfl)|exact Or.inr (Or.inr rfl))(hd:(x==("__debug__":Str))=false:=by decide)(hcd:(x==("__classdict__":Str))=false:=by decide)
  (hbase:attributeBase (.Name x p) "extend" X.env (eval (.Name x p) X.env)=eval (.Name x p) X.env:=by rfl)
  (hfew:((backTo cpos (starEach [e] X.env)).all (λx=>!x.1)&&(backToKw cpos (keywordEach [] X.env)).all (λx=>x.1.isSome)&&decide (([e]:List Expr).length+([]:List Keyword).length+(if ([]:List Keyword).isEmpty then 0 else 1)<30))=true:=by rfl)
  (hline:(apos.endLine==cpos.line)=true:=by rfl) (hs:starEach [e] X.env=(false,eval e X.env)::starEach [] X.env:=by rfl) (hplain:(backTo cpos (starEach [] X.env)).any (·.1)=false:=by rfl) (hst:dO e=false:=by rfl):
  UE X F (.Call (.Attribute (.Name x p) "extend" apos) [e] [] cpos) (zGF i u):=⟨PE.imp (oK PySem.F.plainAttrs_list PySem.F.slot_list_extend PySem.F.type_list_extend zD8 (kG hN hv hd hcd) (aD h aE hst).pa hbase hfew hline hs hplain) λσ H QQ ⟨ρ,Q,f,⟨⟨Ts0,e0⟩,hu⟩,k⟩=>by
 obtain⟨a,xs,ea,eH,e3,z,pv⟩:=f.at_ i _ e0
 refine⟨_,jL ea,.inl ⟨rfl,xs,SqL.of eH⟩,ρ,λas ρ1=>∃T,as=[.va T]/\∃Ts Us,ρ1[i]?=some (.own Ts)/\T=.seq false Us/\Ts.length+Us.length<=100000/\Q nT (ρ1.set i (.own (Ts++Us))),f,?_,λvs as H1 ρ1 s1 p1 q1=>?_⟩
 ·show u ρ _
  have:(λT ρ1=>∃Ts Us,ρ1[i]?=some (.own Ts)/\T=.seq false Us/\Ts.length+Us.length<=100000/\Q nT (ρ1.set i (.own (Ts++Us))))=(λT (ρ1:aQ)=>(gQ ρ1 λas ρ2=>∃T',Ar.va T::as=[.va T']/\∃Ts Us,ρ2[i]?=some (.own Ts)/\T'=.seq false Us/\Ts.length+Us.length<=100000/\Q nT (ρ2.set i (.own (Ts++Us)))) ):=by
   funext T ρ1
   apply propext
   constructor
   ·intro z;exact⟨T,rfl,z⟩
   ·rintro⟨T',e,z⟩;cases e;exact z
  rw[this]at hu
  exact hu
 ·obtain⟨T,rfl,Ts,Us,e1,rfl,le,q⟩:=q1
  cases p1 with
  |cons v t=>
   cases t
   have v:VA X.K H1 _ (.seq false Us):=v
   obtain⟨b,zs,rfl,⟨ob,hb⟩,_,pz⟩:=v.seqI
   obtain⟨a',ys,ea',eH1,e3',z',pv'⟩:=s1.fr.at_ i _ e1
   rw[ea]at ea';cases ea'
   have ll:ys.length=Ts.length:=Paired.length pv'
   have lz:zs.length=Us.length:=Paired.length pz
   refine⟨a,b,ys,zs,rfl,rfl,eH1,.inr ⟨ob,hb⟩,gH (by omega),k _ _ _ _ (s1.trans (s1.fr.put (s':=.own (Ts++Us)) e1 rfl ea eH1 rfl λhs h0=>⟨a,_,rfl,aZ,h0,by rw[qh_];omega,VAs.hs hs (pP pv' pz)⟩)) (.flat rfl) q⟩⟩
def zHX(i:Nat)(u:UT):UT:=λρ Q=>(∃Ts,ρ[i]?=some (.own Ts))/\u ρ λJ ρ1=>∃(j:Int) (Ts:List Tv) (T:Tv),J=iT j/\ρ1[i]?=some (.own Ts)/\0<=j/\Ts[j.toNat]?=some T/\Q T (ρ1.set i (.own (Ts.eraseIdx j.toNat)))
theorem yJ{α β:Type}{R:α->β->Prop}:∀{l:List α}{m:List β}(n:Nat),Paired R l m->Paired R (l.eraseIdx n) (m.eraseIdx n)
 |_,_,_,.nil=>.nil
 |_,_,0,.cons _ t=>t
 |_,_,n+1,.cons r t=>.cons r (yJ n t)
theorem pK{α β:Type}{R:α->β->Prop}:∀{l:List α}{m:List β}{n:Nat}{y:β},Paired R l m->m[n]?=some y->∃x,l[n]?=some x/\R x y
 |_,_,_,_,.nil,e=>by simp at e
 |_,_,0,_,.cons r _,e=>by simp at e;subst e;exact⟨_,rfl,r⟩
 |_,_,n+1,_,.cons _ t,e=>by
  obtain⟨x,h1,h2⟩:=pK (n:=n) t (by simpa using e)
  exact⟨x,by simpa using h1,h2⟩
theorem zAC(i:Nat)(h:UE X F e u)(hN:X.N[i]?=some x:=by rfl)(hv:Vis X.env.scope x:=by first|exact Or.inl rfl|exact Or.inr (Or.inl rfl)|exact Or.inr (Or.inr rfl))(hd:(x==("__debug__":Str))=false:=by decide)(hcd:(x==("__classdict__":Str))=false:=by decide)
  (hbase:attributeBase (.Name x p) "pop" X.env (eval (.Name x p) X.env)=eval (.Name x p) X.env:=by rfl)
  (hfew:((backTo cpos (starEach [e] X.env)).all (λx=>!x.1)&&(backToKw cpos (keywordEach [] X.env)).all (λx=>x.1.isSome)&&decide (([e]:List Expr).length+([]:List Keyword).length+(if ([]:List Keyword).isEmpty then 0 else 1)<30))=true:=by rfl)
  (hline:(apos.endLine==cpos.line)=true:=by rfl) (hs:starEach [e] X.env=(false,eval e X.env)::starEach [] X.env:=by rfl) (hplain:(backTo cpos (starEach [] X.env)).any (·.1)=false:=by rfl) (hst:dO e=false:=by rfl):
  UE X F (.Call (.Attribute (.Name x p) "pop" apos) [e] [] cpos) (zHX i u):=⟨PE.imp (oK PySem.F.plainAttrs_list PySem.F.slot_list_pop PySem.F.type_list_pop zFW (kG hN hv hd hcd) (aD h aE hst).pa hbase hfew hline hs hplain) λσ H QQ ⟨ρ,Q,f,⟨⟨Ts0,e0⟩,hu⟩,k⟩=>by
 obtain⟨a,xs,ea,eH,e3,z,pv⟩:=f.at_ i _ e0
 refine⟨_,jL ea,.inl ⟨rfl,xs,SqL.of eH⟩,ρ,λas ρ1=>∃J,as=[.va J]/\∃(j:Int) (Ts:List Tv) (T:Tv),J=iT j/\ρ1[i]?=some (.own Ts)/\0<=j/\Ts[j.toNat]?=some T/\Q T (ρ1.set i (.own (Ts.eraseIdx j.toNat))),f,?_,λvs as H1 ρ1 s1 p1 q1=>?_⟩
 ·show u ρ _
  have:(λJ ρ1=>∃(j:Int) (Ts:List Tv) (T:Tv),J=iT j/\ρ1[i]?=some (.own Ts)/\0<=j/\Ts[j.toNat]?=some T/\Q T (ρ1.set i (.own (Ts.eraseIdx j.toNat))))=(λJ (ρ1:aQ)=>(gQ ρ1 λas ρ2=>∃J',Ar.va J::as=[.va J']/\∃(j:Int) (Ts:List Tv) (T:Tv),J'=iT j/\ρ2[i]?=some (.own Ts)/\0<=j/\Ts[j.toNat]?=some T/\Q T (ρ2.set i (.own (Ts.eraseIdx j.toNat)))) ):=by
   funext T ρ1
   apply propext
   constructor
   ·intro z;exact⟨T,rfl,z⟩
   ·rintro⟨T',e,z⟩;cases e;exact z
  rw[this]at hu
  exact hu
 ·obtain⟨J,rfl,j,Ts,T,rfl,e1,h0,eT,q⟩:=q1
  cases p1 with
  |cons v t=>
   cases t
   obtain⟨rfl,_⟩:=VA.leafI v
   obtain⟨a',ys,ea',eH1,e3',z',pv'⟩:=s1.fr.at_ i _ e1
   rw[ea]at ea';cases ea'
   have ll:ys.length=Ts.length:=Paired.length pv'
   have lt:=(qw_.mp eT).1
   obtain⟨y,ey,vy⟩:=pK pv' eT
   have s:=s1.fr.put (o':=.lst (ys.eraseIdx j.toNat)) e1 rfl ea eH1 rfl (s':=.own (Ts.eraseIdx j.toNat)) λhs h0=>⟨a,_,rfl,aZ,h0,by rw[List.length_eraseIdx];split<;>omega,VAs.hs hs (yJ _ pv')⟩
   refine⟨a,ys,j,j.toNat,y,rfl,rfl,eH1,by omega,by omega,PySem.StrLaws.seqIndex_nonneg h0 (by omega),ey,k _ _ _ _ (s1.trans s) (vy.hs (s.hs s1.fr)) q⟩⟩
def zIg(i:Nat):UTs:=λP ρ=>P.nx (ρ.set i (.dct []))
theorem zFw{i:Nat}{pos' dpos:Pos}(hN:X.N.Nodup)(hi:X.N[i]?=some x)(hx:Loc X.env.scope x)(hs:swapsWith (.Dict [] [] dpos) (some (.Name x pos')) pos.line X.env=pure false:=by rfl)(hf:X.fn x=true\/X.env.scope.names.lookup x=some .local:=by first|exact .inl rfl|exact .inr rfl|assumption):
  US X F (.Assign [.Name x pos'] (.Dict [] [] dpos) pos) (zIg i):=⟨PS.imp (iV hN hi hx zAN hs hf) λD σ H ⟨ρ,P,f,h,k1,_⟩ a n=>by
 have s:=Stp.same f (bZ (o:=.dK []) n)
 exact k1 _ _ _ (s.fr.set (s:=.dct []) (λ_=>⟨a,[],rfl,aZ,f.none0 n,.nil,by decide,.nil⟩) (λ_ b eb j t ej mj qj=>by cases eb;exact s.notown f n j t ej mj qj)) (s.hs f) h⟩
def eR(kts:List (Str×Tv))(k:Str)(T:Tv):List (Str×Tv):=if (kts.any λkt=>decide (kt.1=k))=true then kts.map (λkt=>if kt.1=k then(kt.1,T) else kt) else kts++[(k,T)]
theorem zGx{K:W.Frag}{H:Hp}{kvs:List (Key×V)}{kts:List (Str×Tv)}(p:VAk K H kvs kts)(k:Str):(kvs.any λkv=>decide (kv.1=.inr k))=kts.any λkt=>decide (kt.1=k):=by
 unfold VAk at p
 induction p with
 |nil=>rfl
 |cons r _ ih=>
  rw[qB1_,qB1_,ih,r.1]
  congr 1
  rw[qy1_,decide_eq_true_iff,decide_eq_true_iff]
  exact⟨λz=>Sum.inr.inj z,λz=>by rw[z]⟩
theorem zGw{K:W.Frag}{H:Hp}{kvs:List (Key×V)}{kts:List (Str×Tv)}(p:VAk K H kvs kts){k:Str}{v:V}{T:Tv}(q:VA K H v T):VAk K H (dF kvs (.inr k) v) (eR kts k T):=by
 unfold dF eR
 rw[zGx p k]
 split
 ·rename_i zz
  clear zz
  unfold VAk at p ⊢
  induction p with
  |nil=>exact .nil
  |@cons kv kt _ _ r _ ih=>
   refine .cons ?_ ih
   dsimp only
   by_cases z:kt.1=k
   ·rw[if_pos z,if_pos (by rw[r.1,z])];exact⟨r.1,q⟩
   ·rw[if_neg z,if_neg (by rw[r.1];exact λy=>z (Sum.inr.inj y))];exact r
 ·exact Paired.snoc p ⟨rfl,q⟩
theorem zEI(kts:List (Str×Tv))(k:Str)(T:Tv):(eR kts k T).map (·.1)=if (kts.any λkt=>decide (kt.1=k))=true then kts.map (·.1) else kts.map (·.1)++[k]:=by
 unfold eR
 split
 ·rw[qA_]
  refine qx2_ λkt _=>?_
  show(if kt.1=k then(kt.1,T) else kt).1=kt.1
  split<;>rfl
 ·rw[qG_];rfl
theorem tO{kts:List (Str×Tv)}{k:Str}{T:Tv}(h:(kts.map (·.1)).Nodup):((eR kts k T).map (·.1)).Nodup:=by
 rw[zEI]
 split
 ·exact h
 ·rename_i n
  rw[qy2_]
  refine⟨h,by simp,λa ha b hb=>?_⟩
  rw[qW_]at hb
  subst hb
  rintro rfl
  obtain⟨kt,hk,rfl⟩:=qg_.mp ha
  exact n (qQ_.mpr ⟨kt,hk,by simp⟩)
def zJH(i:Nat)(uk uv:UT):UTs:=λP ρ=>uv ρ λT ρ1=>(∃kts,ρ1[i]?=some (.dct kts))/\uk ρ1 λk ρ2=>∃kts s,ρ2[i]?=some (.dct kts)/\k=sT s/\(eR kts s T).length<64/\P.nx (ρ2.set i (.dct (eR kts s T)))
theorem zBl{i:Nat}{k:Expr}{uk uv:UT}{pos':Pos}(hu:X.A.units+1<cLine)(hN:X.N[i]?=some x)(hv:Vis X.env.scope x)(hk:UE X F k uk)(he:UE X F e uv)(hs:swapsWith e (some (.Subscript (.Name x p) k pos')) pos.line X.env=pure false:=by rfl)(hd:(x==("__debug__":Str))=false:=by decide)(hcd:(x==("__classdict__":Str))=false:=by decide):
  US X F (.Assign [.Subscript (.Name x p) k pos'] e pos) (zJH i uk uv):=⟨PS.imp (zGZ hu (kG hN hv hd hcd) hk.pe he.pe hs) λD σ H ⟨ρ,P,f,h,k1,_⟩=>by
 refine⟨ρ,_,f,h,λv T H1 ρ1 s1 v1 q1=>?_⟩
 obtain⟨⟨kts0,e0⟩,q1⟩:=q1
 obtain⟨a,kvs0,ea,eH0,_⟩:=s1.fr.at_ i _ e0
 refine⟨_,jL ea,ρ1,_,s1.fr,q1,λy Ky H2 ρ2 s2 v2 q2=>?_⟩
 obtain⟨kts,s,e2,rfl,lt,q⟩:=q2
 obtain⟨rfl,_⟩:=v2.leafI
 obtain⟨a',kvs,ea',eH,h0,nd,l64,p⟩:=s2.fr.at_ i _ e2
 rw[ea]at ea';cases ea'
 have ll:kvs.length=kts.length:=Paired.length p
 refine⟨a,_,rfl,DPut.k (k:=.inr s) eH (vO (by omega)),?_⟩
 have st:=s2.fr.put (o':=.dK (dF kvs (.inr s) v)) e2 rfl ea eH rfl (s':=.dct (eR kts s T)) λhs h0=>⟨a,_,rfl,aZ,h0,tO nd,lt,VAk.hs hs (zGw p (v1.hs (s2.hs s1.fr)))⟩
 exact k1 _ _ _ st.fr (((s1.trans s2).trans st).hs f) q⟩
end
theorem Inv.frozen{X:Cx}{pins:List (Addr×Obj)}{σ:St}{H H2:Hp}{s:Shared}(I:Inv X pins σ H s)(fro:FrozenA pB H H2)(ok2:HOk X.prog X.w H2 s.heap):Inv X pins σ H2 s:=by
 refine⟨I.ok,I.os,I.bare,⟨I.base.keep,I.base.slot,λb o e n hx=>fro.none_of (I.base.free b o e n hx),I.base.there,λb xs e=>fro.keep (I.base.tups b xs e) rfl,λb o u e=>fro.keep (I.base.frzs b o u e) rfl,λb ps e=>?_⟩,I.loc,I.cell,fro.none_of I.free,λx c e=>fro.none_of (I.freeC x c e),λp hp=>?_,ok2,I.len⟩
 ·obtain⟨more,z⟩:=I.base.tbls b ps e
  exact⟨more,fro.keep z rfl⟩
 ·obtain⟨p1,p2,p3⟩:=I.pin p hp
  exact⟨p1,fro.none_of p2,p3⟩
theorem Inv.thaw{X:Cx}{pins:List (Addr×Obj)}{σ:St}{H H3 H4:Hp}{s s':Shared}(I:Inv X pins σ H s)(I3:Inv X pins σ H3 s')(th:Thaw H H3 H4):Inv X pins σ H4 s':=by
 have stay:∀b o,H3 b=some o->(∀u ob,o≠.frz ob u)->H4 b=some o:=λb o e n=>by
  rcases th b with⟨u,ob,_,_,z,_⟩|⟨_,z⟩
  ·rw[e]at z;cases z;exact absurd rfl (n u ob)
  ·rw[z];exact e
 have none4:∀b,H3 b=none->H4 b=none:=λb e=>by
  rcases th b with⟨u,ob,_,_,z,_⟩|⟨_,z⟩
  ·rw[e]at z;cases z
  ·rw[z];exact e
 refine⟨I3.ok,I3.os,I3.bare,⟨I3.base.keep,I3.base.slot,λb o e n hx=>none4 b (I3.base.free b o e n hx),I3.base.there,λb xs e=>stay b _ (I3.base.tups b xs e) (λ_ _ z=>by cases z),λb o u e=>?_,λb ps e=>?_⟩,I3.loc,I3.cell,none4 _ I3.free,λx c e=>none4 c (I3.freeC x c e),λp hp=>?_,λb o e=>?_,I3.len⟩
 ·rcases th b with⟨o',ob,n,z,_⟩|⟨_,z⟩
  ·rw[I.base.frzs b o u e]at z;cases z;exact absurd n ql_
  ·rw[z];exact I3.base.frzs b o u e
 ·obtain⟨more,z⟩:=I3.base.tbls b ps e
  exact⟨more,stay b _ z (λ_ _ z=>by cases z)⟩
 ·obtain⟨p1,p2,p3⟩:=I3.pin p hp
  exact⟨p1,none4 _ p2,p3⟩
 ·have st:∀o,ObjOk X.prog X.w H3 s'.heap b o->ObjOk X.prog X.w H4 s'.heap b o:=λo x=>x.stay (λ_ _ _ r=>r) (λd r=>stay d _ r (λ_ _ z=>by cases z)) λd xs r=>stay d _ r (λ_ _ z=>by cases z)
  rcases th b with⟨o',ob,n,_,z,z'⟩|⟨_,z⟩
  ·rw[z']at e
   cases e
   obtain⟨_,y⟩:=(show ObjOk X.prog X.w H3 s'.heap b (.frz ob o) from I3.hok b _ z)
   exact st o y
  ·rw[z]at e
   exact st o (I3.hok b o e)
def pkS:Sl->Sl
 |.own Ts=>.va (.seq false Ts)
 |.dct kts=>.va (.dct kts)
 |.dk=>.no
 |s=>s
def pkE(ρ:aQ):aQ:=ρ.map pkS
theorem zCP{K:W.Frag}{F:Fm}{ρ:aQ}{σ:St}{H H2:Hp}(f:FrOk K F ρ σ H)(fro:FrozenA pB H H2):FrOk K ⟨H2,none⟩ (pkE ρ) σ H2:=by
 have hs:=fro.hs
 refine⟨λ_ _ z=>(nomatch z),⟨λ_ _ e _=>e,λ_ _ z=>(nomatch z)⟩,by unfold pkE;rw[qc_];exact f.len,λi s e=>?_,λi j a s t e _ m _ _ _=>?_⟩
 ·unfold pkE at e
  rw[qv_]at e
  obtain⟨s0,e0,rfl⟩:=qg1_.mp e
  have h:=f.at_ i s0 e0
  cases s0 with
  |no=>trivial
  |va T=>obtain⟨y,e1,v⟩:=h;exact⟨y,e1,v.hs hs⟩
  |own Ts=>
   obtain⟨a,xs,e1,e2,e3,z,p⟩:=h
   obtain⟨ob,e4⟩:=fro.fz (b:=a) rfl e2 rfl
   exact⟨_,e1,VA.seq (t:=false) ⟨ob,e4⟩ z (p.hs hs)⟩
  |dct kts=>
   obtain⟨a,kvs,e1,e2,e3,n,z,p⟩:=h
   obtain⟨ob,e4⟩:=fro.fz (b:=a) rfl e2 rfl
   exact⟨_,e1,VA.dct ⟨ob,e4⟩ n z (p.hs hs)⟩
  |dk=>trivial
 ·unfold pkE at e
  rw[qv_]at e
  obtain⟨s0,e0,rfl⟩:=qg1_.mp e
  cases s0<;>cases m
theorem zBB{K:W.Frag}{ρ ρ':aQ}{σ:St}{H2 H3:Hp}{H0:Hp}(s:Stp K ⟨H0,none⟩ σ (pkE ρ) H2 ρ' H3):Same H2 H3:=λb o e=>s.st b o e (λ_ _ z=>(nomatch z)) λi t e1 m=>by
 unfold pkE at e1
 rw[qv_]at e1
 obtain⟨s0,e0,rfl⟩:=qg1_.mp e1
 cases s0<;>cases m
section
variable{X:Cx}{F:Fm}{e:Expr}
def zJw(u:UT):UT:=λρ Q=>u (pkE ρ) λT _=>∃v,T=.leaf v/\Q T ρ
theorem qM{u:UT}(h:∀F,UE X F e u):UE X F e (zJw u):=⟨λpins s σ H QQ I ⟨ρ,Q,f,hu,k⟩=>by
 obtain⟨H2,fro,ok2⟩:=zAk I.hok
 have f2:=zCP f fro
 refine thn ((h ⟨H2,none⟩).pe pins s σ H2 (λx H3=>∃v ρ',Stp X.K ⟨H2,none⟩ σ (pkE ρ) H2 ρ' H3/\VA X.K H3 x (.leaf v)/\Q (.leaf v) ρ) (I.frozen fro ok2) ⟨_,_,f2,hu,λx T H' ρ' st v q=>?_⟩) λu s' ⟨x,H3,I3,r,q⟩=>?_
 ·obtain⟨w,rfl,q⟩:=q
  exact⟨w,ρ',st,v,q⟩
 ·obtain⟨v,ρ',st,va,q⟩:=q
  obtain⟨H4,th⟩:=zBo H H3
  obtain⟨rfl,fl⟩:=va.leafI
  exact⟨x,H4,I.thaw I3 th,r,k _ _ _ _ (Stp.same f (Thaw.same fro (zBB st) th)) (.flat fl) q⟩⟩
def zHY(u:UTt):UTt:=λρ Q=>u (pkE ρ) λb _=>Q b ρ
theorem zGD{u:UTt}(h:∀F,UB X F e u):UB X F e (zHY u):=⟨λpins s σ H QQ I ⟨ρ,Q,f,hu,k⟩=>by
 obtain⟨H2,fro,ok2⟩:=zAk I.hok
 have f2:=zCP f fro
 refine thn ((h ⟨H2,none⟩).pt pins s σ H2 (λb H3=>∃ρ',Stp X.K ⟨H2,none⟩ σ (pkE ρ) H2 ρ' H3/\Q b ρ) (I.frozen fro ok2) ⟨_,_,f2,hu,λb H' ρ' st q=>⟨ρ',st,q⟩⟩) λb s' ⟨H3,I3,q⟩=>?_
 obtain⟨ρ',st,q⟩:=q
 obtain⟨H4,th⟩:=zBo H H3
 exact⟨H4,I.thaw I3 th,k _ _ _ (Stp.same f (Thaw.same fro (zBB st) th)) q⟩⟩
end
end L2
namespace L2
open PySem PySem.Spec PyProof.Rows WordM
mutual
def eqT:Tv->Tv->Bool
 |.leaf v,.leaf w=>eqV v w
 |.seq s xs,.seq t ys=>s==t&&cO xs ys
 |_,_=>false
def cO:List Tv->List Tv->Bool
 |[],[]=>true
 |x::xs,y::ys=>eqT x y&&cO xs ys
 |_,_=>false
end
def EqD:Nat->Tv->Prop
 |0,_=>False
 |_+1,.leaf _=>True
 |n+1,.seq _ xs=>∀U∈xs,EqD n U
 |_+1,.dct _=>False
theorem uZ:∀{xs ys:List Tv},xs.length≠ys.length->cO xs ys=false
 |[],[],h=>absurd rfl h
 |[],_::_,_=>by simp[cO]
 |_::_,[],_=>by simp[cO]
 |x::xs,y::ys,h=>by
  have:=uZ (xs:=xs) (ys:=ys) (λe=>h (by simp[e]))
  simp[cO,this]
theorem tR:∀{xs ys:List Tv},xs.length=ys.length->(List.range xs.length).all (λi=>eqT (xs.getD i nT) (ys.getD i nT))=cO xs ys
 |[],[],_=>by simp[cO]
 |[],_::_,h=>by simp at h
 |_::_,[],h=>by simp at h
 |x::xs,y::ys,h=>by
  have ih:=tR (xs:=xs) (ys:=ys) (by simpa using h)
  rw[qI_,qw2_,List.all_cons,List.all_map]
  show(eqT x y&&(List.range xs.length).all λi=>eqT (xs.getD i nT) (ys.getD i nT))=cO (x::xs) (y::ys)
  rw[ih]
  simp[cO]
theorem EqD.vp{K:W.Frag}{H:Hp}:∀{n d:Nat}{x:V}{T:Tv},EqD n T->VP K H d x T->VP K H n x T
 |0,_,_,_,h,_=>False.elim h
 |_+1,0,_,_,_,h=>False.elim h
 |n+1,d+1,x,T,h,v=>by
  rcases v with v|⟨t,a,xs,Ts,e1,e2,rfl,z,p⟩|⟨a,kvs,kts,e1,e2,rfl,_⟩
  ·exact .inl v
  ·have g:∀U∈Ts,EqD n U:=h
   refine .inr (.inl ⟨t,a,xs,Ts,e1,e2,rfl,z,?_⟩)
   clear e2 z h
   induction p with
   |nil=>exact .nil
   |cons r _ ih=>exact .cons ((g _ (.head _)).vp r) (ih λU hU=>g U (.tail _ hU))
  ·exact False.elim h
section
variable{X:Cx}{pins:List (Addr×Obj)}{σ:St}{H:Hp}{s:Shared}
theorem zGg{v:V}(h:dJ v=true):eqV v v=true:=by
 cases v<;>first|exact absurd h ql_|simp[eqV]
theorem PSeq.isList{a:Addr}{xs:List V}(I:Inv X pins σ H s)(h:PSeq X.K H false a xs):∃its:List Value,Vals xs its/\s.heap.IsList a its.toArray:=by
 obtain⟨its,r,p,_⟩:=I.list (cP h)
 exact⟨its,r,p.isList⟩
theorem PSeq.isTup{a:Addr}{xs:List V}(I:Inv X pins σ H s)(h:PSeq X.K H true a xs):∃its:List Value,Vals xs its/\s.heap.IsTuple a its.toArray:=by
 obtain⟨its,r,p,_⟩:=I.tuple h
 exact⟨its,r,p⟩
theorem zBW(I:Inv X pins σ H s):∀{n:Nat}{x:V}{T U:Tv},VP X.K H n x T->VP X.K H n x U->EqD n T->EqD n U->eqT T U=true
 |0,_,_,_,h,_,_,_=>False.elim h
 |n+1,x,T,U,h,h',d,d'=>by
  rcases h with⟨f,rfl⟩|⟨t,a,xs,Ts,rfl,e2,rfl,z,p⟩|⟨a,kvs,kts,rfl,e2,rfl,_⟩
  ·rcases h' with⟨_,rfl⟩|⟨t',a',xs',Ts',rfl,_⟩|⟨a',kvs',kts',rfl,_⟩
   ·simp[eqT,zGg f]
   ·cases f
   ·cases f
  ·rcases h' with⟨f,rfl⟩|⟨t',a',xs',Ts',e1',e2',rfl,z',p'⟩|⟨a',kvs',kts',e1',e2',rfl,_⟩
   ·cases f
   ·cases e1'
    have tt:t=t':=by
     cases t<;>cases t'<;>first|rfl|skip
     ·obtain⟨_,_,l1⟩:=PSeq.isList I e2
      obtain⟨_,_,l2⟩:=PSeq.isTup I e2'
      exact absurd rfl (SeqAt.ne_of_list_tuple l1 l2)
     ·obtain⟨_,_,l1⟩:=PSeq.isList I e2'
      obtain⟨_,_,l2⟩:=PSeq.isTup I e2
      exact absurd rfl (SeqAt.ne_of_list_tuple l1 l2)
    subst tt
    have ex:xs=xs':=by
     cases t with
     |false=>exact I.list_inj (cP e2) (cP e2')
     |true=>exact I.tuple_inj e2 e2'
    subst ex
    have d:∀U∈Ts,EqD n U:=d
    have d':∀U∈Ts',EqD n U:=d'
    have key:∀{xs:List V} {Ts Ts':List Tv},Paired (VP X.K H n) xs Ts->Paired (VP X.K H n) xs Ts'->(∀U∈Ts,EqD n U)->(∀U∈Ts',EqD n U)->cO Ts Ts'=true:=by
     intro xs Ts Ts' p
     induction p generalizing Ts' with
     |nil=>intro p' _ _;cases p';simp[cO]
     |cons r _ ih=>
      intro p' d d'
      cases p' with
      |cons r' t'=>simp[cO,zBW I r r' (d _ (.head _)) (d' _ (.head _)),ih t' (λU hU=>d U (.tail _ hU)) (λU hU=>d' U (.tail _ hU))]
    simp[eqT,key p p' d d']
   ·exact False.elim d'
  ·exact False.elim d
theorem jX{x:V}(h:dJ x=true):x=.non\/(∃b,x=.bl b)\/(∃i,x=.int i)\/∃z,x=.str z:=by
 cases x with
 |non=>exact .inl rfl
 |bl b=>exact .inr (.inl ⟨b,rfl⟩)
 |int i=>exact .inr (.inr (.inl ⟨i,rfl⟩))
 |str z=>exact .inr (.inr (.inr ⟨z,rfl⟩))
 |_=>exact absurd (show false=true from h) ql_
open SeqAt in
theorem pM(I:Inv X pins σ H s){A:Around}(hu:A.units<cLine){x:V}{v:Value}{t:Bool}{a:Addr}{xs:List V}(f:dJ x=true)(r:RelV x v)(h:PSeq X.K H t a xs):
  EqAt A s v (.ref a) false/\EqAt A s (.ref a) v false/\RcAt A s v (.ref a) false/\RcAt A s (.ref a) v false/\RcNeAt A s v (.ref a) true/\RcNeAt A s (.ref a) v true:=by
 cases t with
 |false=>
  obtain⟨_,_,l⟩:=PSeq.isList I h
  rcases jX f with rfl|⟨b,rfl⟩|⟨b,rfl⟩|⟨b,rfl⟩
  ·cases r;exact⟨.none_list l hu,.list_none l hu,.none_list l hu,.list_none l hu,.none_list l hu,.list_none l hu⟩
  ·cases r;exact⟨.bool_list b l hu,.list_bool b l hu,.bool_list b l hu,.list_bool b l hu,.bool_list b l hu,.list_bool b l hu⟩
  ·obtain⟨t,rfl⟩:=r;exact⟨.int_list b t l hu,.list_int b t l hu,.int_list b t l hu,.list_int b t l hu,.int_list b t l hu,.list_int b t l hu⟩
  ·obtain⟨t,rfl⟩:=r;exact⟨.str_list b t l hu,.list_str b t l hu,.str_list b t l hu,.list_str b t l hu,.str_list b t l hu,.list_str b t l hu⟩
 |true=>
  obtain⟨_,_,l⟩:=PSeq.isTup I h
  rcases jX f with rfl|⟨b,rfl⟩|⟨b,rfl⟩|⟨b,rfl⟩
  ·cases r;exact⟨.none_tuple l hu,.tuple_none l hu,.none_tuple l hu,.tuple_none l hu,.none_tuple l hu,.tuple_none l hu⟩
  ·cases r;exact⟨.bool_tuple b l hu,.tuple_bool b l hu,.bool_tuple b l hu,.tuple_bool b l hu,.bool_tuple b l hu,.tuple_bool b l hu⟩
  ·obtain⟨t,rfl⟩:=r;exact⟨.int_tuple b t l hu,.tuple_int b t l hu,.int_tuple b t l hu,.tuple_int b t l hu,.int_tuple b t l hu,.tuple_int b t l hu⟩
  ·obtain⟨t,rfl⟩:=r;exact⟨.str_tuple b t l hu,.tuple_str b t l hu,.str_tuple b t l hu,.tuple_str b t l hu,.str_tuple b t l hu,.tuple_str b t l hu⟩
open SeqAt in
theorem zGO{A:Around}{x y:V}{v u:Value}(fx:dJ x=true)(fy:dJ y=true)(rx:RelV x v)(ry:RelV y u):RcAt A s v u (eqV x y)/\RcNeAt A s v u (!eqV x y):=by
 rcases jX fx with rfl|⟨a,rfl⟩|⟨a,rfl⟩|⟨a,rfl⟩<;>rcases jX fy with rfl|⟨b,rfl⟩|⟨b,rfl⟩|⟨b,rfl⟩
 ·cases rx;cases ry;exact⟨.none_none,.none_none⟩
 ·cases rx;cases ry;exact⟨.none_bool b,.none_bool b⟩
 ·cases rx;obtain⟨t,rfl⟩:=ry;exact⟨.none_int b t,.none_int b t⟩
 ·cases rx;obtain⟨t,rfl⟩:=ry;exact⟨.none_str b t,.none_str b t⟩
 ·cases rx;cases ry;exact⟨.bool_none a,.bool_none a⟩
 ·cases rx;cases ry;exact⟨.bool_bool a b,.bool_bool a b⟩
 ·cases rx;obtain⟨t,rfl⟩:=ry;exact⟨.bool_int a b t,.bool_int a b t⟩
 ·cases rx;obtain⟨t,rfl⟩:=ry;exact⟨.bool_str a b t,.bool_str a b t⟩
 ·obtain⟨t',rfl⟩:=rx;cases ry;exact⟨.int_none a t',.int_none a t'⟩
 ·obtain⟨t',rfl⟩:=rx;cases ry;exact⟨.int_bool a t' b,.int_bool a t' b⟩
 ·obtain⟨t',rfl⟩:=rx;obtain⟨t,rfl⟩:=ry;exact⟨.int_int a t' b t,.int_int a t' b t⟩
 ·obtain⟨t',rfl⟩:=rx;obtain⟨t,rfl⟩:=ry;exact⟨.int_str a t' b t,.int_str a t' b t⟩
 ·obtain⟨t',rfl⟩:=rx;cases ry;exact⟨.str_none a t',.str_none a t'⟩
 ·obtain⟨t',rfl⟩:=rx;cases ry;exact⟨.str_bool a t' b,.str_bool a t' b⟩
 ·obtain⟨t',rfl⟩:=rx;obtain⟨t,rfl⟩:=ry;exact⟨.str_int a t' b t,.str_int a t' b t⟩
 ·obtain⟨t',rfl⟩:=rx;obtain⟨t,rfl⟩:=ry;exact⟨.str_str a t' b t,.str_str a t' b t⟩
theorem zAA{xs:List V}{us:List Value}(r:Vals xs us){j:Nat}(h:j<us.toArray.size):∃x,xs[j]?=some x/\RelV x us.toArray[j]:=by
 have l:=r.length
 have k:j<xs.length:=by rw[l];simpa using h
 obtain⟨u,hu,ru⟩:=r.get (i:=j) (x:=xs[j]) (qk_ k)
 refine⟨_,qk_ k,?_⟩
 have e1:us.toArray[j]=u:=by
  obtain⟨_,e⟩:=qw_.mp hu
  simpa using e
 rw[e1];exact ru
open SeqAt in
theorem zCd(I:Inv X pins σ H s){A:Around}(hu:A.units<cLine){t:Bool}{a b:Addr}{xs ys:List V}{Ts Us:List Tv}(ha:PSeq X.K H t a xs)(hb:PSeq X.K H t b ys)(lx:xs.length=Ts.length)(ly:ys.length=Us.length)
  (it:∀(j:Nat) (x y:V) (T U:Tv) (v u:Value),xs[j]?=some x->ys[j]?=some y->Ts[j]?=some T->Us[j]?=some U->RelV x v->RelV y u->EqAt A.in1 s v u (eqT T U)):RcAt A s (.ref a) (.ref b) (cO Ts Us)/\RcNeAt A s (.ref a) (.ref b) (!cO Ts Us):=by
 have item:∀{vs us:List Value},Vals xs vs->Vals ys us->∀j (h1:j<vs.toArray.size) (h2:j<us.toArray.size),EqAt A.in1 s vs.toArray[j] us.toArray[j] (eqT (Ts.getD j nT) (Us.getD j nT)):=λ{vs us} r1 r2 j h1 h2=>by
  obtain⟨x,ex,rx⟩:=zAA r1 h1
  obtain⟨y,ey,ry⟩:=zAA r2 h2
  have k1:=(qw_.mp ex).1
  have k2:=(qw_.mp ey).1
  refine it j x y _ _ _ _ ex ey ?_ ?_ rx ry
  ·rw[qV_,qk_ (by omega)];rfl
  ·rw[qV_,qk_ (by omega)];rfl
 cases t with
 |false=>
  obtain⟨vs,r1,l1⟩:=PSeq.isList I ha
  obtain⟨us,r2,l2⟩:=PSeq.isList I hb
  have n1:=r1.length
  have n2:=r2.length
  by_cases hl:Ts.length=Us.length
  ·have e1:=RcAt.lists l1 l2 (by simp only[List.size_toArray];omega) hu (item r1 r2)
   have e2:=RcNeAt.lists l1 l2 (by simp only[List.size_toArray];omega) hu (item r1 r2)
   rw[show vs.toArray.size=Ts.length by rw[qo_];omega,tR hl]at e1 e2
   exact⟨e1,e2⟩
  ·rw[uZ hl]
   have hne:(vs.toArray.size != us.toArray.size)=true:=by
    rw[bne_iff_ne,qo_,qo_];omega
   exact⟨.lists_lengths l1 l2 hne hu,.lists_lengths l1 l2 hne hu⟩
 |true=>
  obtain⟨vs,r1,l1⟩:=PSeq.isTup I ha
  obtain⟨us,r2,l2⟩:=PSeq.isTup I hb
  have n1:=r1.length
  have n2:=r2.length
  have e1:=RcAt.tuples l1 l2 hu (item r1 r2)
  have e2:=RcNeAt.tuples l1 l2 hu (item r1 r2)
  have ee:((List.range (min vs.toArray.size us.toArray.size)).all (λi=>eqT (Ts.getD i nT) (Us.getD i nT))&&vs.toArray.size==us.toArray.size)=cO Ts Us:=by
   rw[show vs.toArray.size=Ts.length by rw[qo_];omega,show us.toArray.size=Us.length by rw[qo_];omega]
   by_cases hl:Ts.length=Us.length
   ·rw[<-hl,Nat.min_self,tR hl];simp
   ·rw[uZ hl,beq_eq_false_iff_ne.mpr hl,qE2_]
  rw[ee]at e1 e2
  exact⟨e1,e2⟩
open SeqAt in
theorem vR(I:Inv X pins σ H s):∀(n:Nat) {A:Around}{x y:V}{T U:Tv}{v u:Value},A.units+n<cLine->EqD n T->EqD n U->VP X.K H n x T->VP X.K H n y U->RelV x v->RelV y u->EqAt A s v u (eqT T U)
 |0,_,_,_,_,_,_,_,_,h,_,_,_,_,_=>False.elim h
 |n+1,A,x,y,T,U,v,u,hu,d,d',h,h',rx,ry=>by
  have hu0:A.units<cLine:=by omega
  have hh:=h
  have hh':=h'
  rcases h with⟨f,rfl⟩|⟨t,a,xs,Ts,rfl,e2,rfl,z,p⟩|⟨a,kvs,kts,rfl,e2,rfl,_⟩
  ·rcases h' with⟨f',rfl⟩|⟨t',a',xs',Ts',rfl,e2',rfl,z',p'⟩|⟨a',kvs',kts',rfl,_,rfl,_⟩
   ·have:=zCt (A:=A) (s:=s) rx ry f f'
    simpa[eqT]using this
   ·cases ry
    have:=(pM I hu0 f rx e2').1
    simpa[eqT]using this
   ·exact False.elim d'
  ·rcases h' with⟨f',rfl⟩|⟨t',b,ys,Us,rfl,e2',rfl,z',p'⟩|⟨a',kvs',kts',rfl,_,rfl,_⟩
   ·cases rx
    have:=(pM I hu0 f' ry e2).2.1
    simpa[eqT]using this
   ·cases rx
    cases ry
    by_cases ab:a=b
    ·subst ab
     have:=zBW I hh hh' d d'
     rw[this]
     exact EqAt.same _
    ·by_cases tt:t=t'
     ·subst tt
      have d:∀U∈Ts,EqD n U:=d
      have d':∀U∈Us,EqD n U:=d'
      have:=(zCd I hu0 e2 e2' (Paired.length p) (Paired.length p') λj x y T U v u ex ey eT eU rx ry=>by
       obtain⟨T',eT',vx⟩:=eZ p ex
       obtain⟨U',eU',vy⟩:=eZ p' ey
       rw[eT]at eT';cases eT'
       rw[eU]at eU';cases eU'
       exact vR I n (by show A.units+1+n<_;omega) (d _ (qz_ eT)) (d' _ (qz_ eU)) vx vy rx ry).1
      have r:=EqAt.of_refs ab this
      simpa[eqT]using r
     ·have e:eqT (.seq t Ts) (.seq t' Us)=false:=by simp[eqT,tt]
      rw[e]
      refine EqAt.of_refs ab ?_
      cases t<;>cases t'<;>first|exact absurd rfl tt|skip
      ·obtain⟨_,_,l1⟩:=PSeq.isList I e2
       obtain⟨_,_,l2⟩:=PSeq.isTup I e2'
       exact .list_tuple l1 l2 hu0
      ·obtain⟨_,_,l1⟩:=PSeq.isTup I e2
       obtain⟨_,_,l2⟩:=PSeq.isList I e2'
       exact .tuple_list l1 l2 hu0
   ·exact False.elim d'
  ·exact False.elim d
end
def zLR(Ts Us:List Tv):Prop:=Ts=[]\/Us=[]\/((∀T∈Ts,EqD 40 T)/\∀U∈Us,EqD 40 U)
def jU(neg:Bool):P2
 |.leaf v,.leaf w,Q=>Q (bT (neg != eqV v w))
 |.leaf _,.seq _ _,Q=>Q (bT neg)
 |.seq _ _,.leaf _,Q=>Q (bT neg)
 |.seq s xs,.seq t ys,Q=>zLR xs ys/\Q (bT (neg != (s==t&&cO xs ys)))
 |_,_,_=>False
section
variable{X:Cx}
open SeqAt in
theorem zBX{pins:List (Addr×Obj)}{σ:St}{H:Hp}{s:Shared}(I:Inv X pins σ H s)(hu:X.A.units+64<cLine){neg:Bool}{x y:V}{T U:Tv}{v u:Value}{Q:Tv->Prop}(vx:VA X.K H x T)(vy:VA X.K H y U)(rx:RelV x v)(ry:RelV y u)(h:jU neg T U Q):
  ∃b,Q (bT (neg != b))/\RcAt X.A s v u b/\RcNeAt X.A s v u (!b):=by
 have hu0:X.A.units<cLine:=by omega
 unfold jU at h
 split at h
 ·obtain⟨rfl,f⟩:=vx.leafI
  obtain⟨rfl,f'⟩:=vy.leafI
  exact⟨_,h,zGO f f' rx ry⟩
 ·obtain⟨rfl,f⟩:=vx.leafI
  obtain⟨a,xs,rfl,hs,_⟩:=vy.seqI
  cases ry
  have r:=pM I hu0 f rx hs
  exact⟨false,by simpa using h,r.2.2.1,r.2.2.2.2.1⟩
 ·obtain⟨rfl,f⟩:=vy.leafI
  obtain⟨a,xs,rfl,hs,_⟩:=vx.seqI
  cases rx
  have r:=pM I hu0 f ry hs
  exact⟨false,by simpa using h,r.2.2.2.1,r.2.2.2.2.2⟩
 ·rename_i t Ts t' Us
  obtain⟨ok,q⟩:=h
  obtain⟨a,xs,rfl,hs,z,p⟩:=vx.seqI
  obtain⟨b,ys,rfl,hs',z',p'⟩:=vy.seqI
  cases rx
  cases ry
  refine⟨_,q,?_⟩
  by_cases tt:t=t'
  ·subst tt
   have e:(t==t&&cO Ts Us)=cO Ts Us:=by simp
   rw[e]
   refine zCd I hu0 hs hs' (Paired.length p) (Paired.length p') λj x y T U v u ex ey eT eU rx ry=>?_
   rcases ok with rfl|rfl|⟨o1,o2⟩
   ·cases eT
   ·cases eU
   ·obtain⟨T',eT',d,vx⟩:=eZ p ex
    obtain⟨U',eU',d',vy⟩:=eZ p' ey
    rw[eT]at eT';cases eT'
    rw[eU]at eU';cases eU'
    have k1:=o1 _ (qz_ eT)
    have k2:=o2 _ (qz_ eU)
    exact vR I 40 (by show X.A.units+1+40<_;omega) k1 k2 (k1.vp vx) (k2.vp vy) rx ry
  ·have e:(t==t'&&cO Ts Us)=false:=by simp[tt]
   rw[e]
   cases t<;>cases t'<;>first|exact absurd rfl tt|skip
   ·obtain⟨_,_,l1⟩:=PSeq.isList I hs
    obtain⟨_,_,l2⟩:=PSeq.isTup I hs'
    exact⟨.list_tuple l1 l2 hu0,.list_tuple l1 l2 hu0⟩
   ·obtain⟨_,_,l1⟩:=PSeq.isTup I hs
    obtain⟨_,_,l2⟩:=PSeq.isList I hs'
    exact⟨.tuple_list l1 l2 hu0,.tuple_list l1 l2 hu0⟩
 ·exact False.elim h
def zC2(K:W.Frag)(neg:Bool):R2:=λx y H Q=>∃T U,VA K H x T/\VA K H y U/\jU neg T U λW=>∃b,W=bT b/\Q (.bl b) H
theorem zIV(hu:X.A.units+64<cLine):OpR X (compareOp .Eq) (zC2 X.K false):=by
 rintro pins s σ H x y v u Q I rx ry ⟨T,U,vx,vy,h⟩
 obtain⟨b,⟨b',e,q⟩,r,_⟩:=zBX I hu vx vy rx ry h
 cases e
 exact r X.prog X.w X.xe _ ⟨.bl b,H,I,rfl,by simpa using q⟩
theorem zIS(hu:X.A.units+64<cLine):OpR X (compareOp .NotEq) (zC2 X.K true):=by
 rintro pins s σ H x y v u Q I rx ry ⟨T,U,vx,vy,h⟩
 obtain⟨b,⟨b',e,q⟩,_,r⟩:=zBX I hu vx vy rx ry h
 cases e
 exact r X.prog X.w X.xe _ ⟨.bl (!b),H,I,rfl,by simpa using q⟩
theorem zAa{neg:Bool}{T U:Tv}{Q Q':Tv->Prop}(h:jU neg T U Q)(i:∀b,Q (bT b)->Q' (bT b)):jU neg T U Q':=by
 unfold jU at h ⊢
 split at h
 ·exact i _ h
 ·exact i _ h
 ·exact i _ h
 ·exact⟨h.1,i _ h.2⟩
 ·exact False.elim h
abbrev pEq:P2:=jU false
abbrev pNe:P2:=jU true
theorem kL(hu:X.A.units+64<cLine):PuCmp X (compareOp .Eq) pEq:=⟨_,zIV hu,λx y T U H Q QQ vx vy h k=>⟨T,U,vx,vy,zAa h λb q=>⟨b,rfl,k _ _ _ (Same.refl _) (.flat rfl) q⟩⟩⟩
theorem zJW(hu:X.A.units+64<cLine):PuCmp X (compareOp .NotEq) pNe:=⟨_,zIS hu,λx y T U H Q QQ vx vy h k=>⟨T,U,vx,vy,zAa h λb q=>⟨b,rfl,k _ _ _ (Same.refl _) (.flat rfl) q⟩⟩⟩
end
end L2
namespace L2
open PySem PySem.Spec PyProof.Rows WordM
section
variable{X:Cx}{F:Fm}
theorem dM{K:W.Frag}{H:Hp}{xs:List V}{T:Tv}(h:VAs K H xs [T]):∃x,xs=[x]/\VA K H x T:=by
 cases h with
 |cons r t=>cases t;exact⟨_,rfl,r⟩
theorem wQ{K:W.Frag}{H:Hp}{xs:List V}{T U:Tv}(h:VAs K H xs [T,U]):∃x y,xs=[x,y]/\VA K H x T/\VA K H y U:=by
 cases h with
 |cons r t=>
  obtain⟨y,rfl,v⟩:=dM t
  exact⟨_,y,rfl,r,v⟩
def zJS(K:W.Frag):R2:=λx y H Q=>∃l b xs zs,x=.ref l/\y=.ref b/\Rd H l (.lst xs)/\Rd H b (.lst zs)/\xs.length+zs.length<=sizeLine/\∀p,H p=none->Q (.ref p) (upd H p (.lst (xs++zs)))
theorem zHg:OpR X (binaryOp .Add) (zJS X.K):=by
 rintro pins s σ H _ _ v u Q I rx ry ⟨l,b,xs,zs,rfl,rfl,hH,hB,hz,q⟩
 cases rx
 cases ry
 obtain⟨z,its,n,r,e⟩:=hH.ok I.hok
 obtain⟨z2,its2,n2,r2,e2⟩:=hB.ok I.hok
 have l1:=r.length
 have l2:=r2.length
 refine PySem.P.add_list e e2 ?_ (by rw[qo_,qo_];omega)
 rw[show its.toArray++its2.toArray=(its++its2).toArray by simp]
 exact⟨.ref _,_,I.lnew (t':=s.toks) (r.append r2) (by rw[qh_];omega),rfl,q _ I.fresh⟩
def zC9:P2
 |.leaf (.int i),.leaf (.int j),Q=>Q (iT (i+j))
 |.leaf (.str x),.leaf (.str y),Q=>x.length+y.length<=100000/\Q (sT (x++y))
 |.seq true xs,.seq true ys,Q=>xs.length+ys.length<=100000/\Q (.seq true (xs++ys))
 |.seq false xs,.seq false ys,Q=>xs.length+ys.length<=100000/\Q (.seq false (xs++ys))
 |_,_,_=>False
theorem cU:gC X (binaryOp .Add) zC9:=⟨_,op_add.or (op_add_str.or (op_catG.or zHg)),λx y T U H Q QQ vx vy h k=>by
 unfold zC9 at h
 split at h
 ·obtain⟨rfl,_⟩:=vx.leafI
  obtain⟨rfl,_⟩:=vy.leafI
  exact .inl ⟨_,_,rfl,rfl,k _ _ _ (.flat rfl) h⟩
 ·obtain⟨rfl,_⟩:=vx.leafI
  obtain⟨rfl,_⟩:=vy.leafI
  exact .inr (.inl ⟨_,_,rfl,rfl,gH h.1,k _ _ _ (.flat rfl) h.2⟩)
 ·obtain⟨a,xs,rfl,hs,z,p⟩:=vx.seqI
  obtain⟨b,ys,rfl,hs',z',p'⟩:=vy.seqI
  have l1:xs.length=_:=Paired.length p
  have l2:ys.length=_:=Paired.length p'
  refine .inr (.inr (.inl ⟨a,b,xs,ys,rfl,rfl,hs,hs',gH (by omega),λr H' hr sm=>k _ _ _ ⟨sm,.inl (VA.seq (t:=true) hr (by rw[qh_];exact h.1) (pP (p.hs sm.hs) (p'.hs sm.hs)))⟩ h.2⟩))
 ·obtain⟨a,xs,rfl,⟨ob,hs⟩,z,p⟩:=vx.seqI
  obtain⟨b,ys,rfl,⟨ob',hs'⟩,z',p'⟩:=vy.seqI
  have l1:xs.length=_:=Paired.length p
  have l2:ys.length=_:=Paired.length p'
  refine .inr (.inr (.inr ⟨a,b,xs,ys,rfl,rfl,.inr ⟨ob,hs⟩,.inr ⟨ob',hs'⟩,gH (by omega),λr n=>k _ _ _ (Raw.lst n (by rw[qh_];exact h.1) (pP p p')) h.2⟩))
 ·exact False.elim h⟩
def pI2(C:Int->Int->Prop)(g:Int->Int->V):P2
 |.leaf (.int i),.leaf (.int j),Q=>C i j/\Q (.leaf (g i j))
 |_,_,_=>False
theorem rQ{f:Value->Value->Sem Value}{C:Int->Int->Prop}{g:Int->Int->V}(h:OpR X f (rI C g))(fl:∀i j,dJ (g i j)=true):PuCmp X f (pI2 C g):=⟨_,h,λx y T U H Q QQ vx vy h k=>by
 unfold pI2 at h
 split at h
 ·obtain⟨rfl,_⟩:=vx.leafI
  obtain⟨rfl,_⟩:=vy.leafI
  exact⟨_,_,rfl,rfl,h.1,k _ _ _ (Same.refl _) (.flat (fl _ _)) h.2⟩
 ·exact False.elim h⟩
def pA(g:Int->Int->V):P2
 |.leaf (.int i),.leaf (.int j),Q=>Q (.leaf (g i j))
 |_,_,_=>False
theorem wD{f:Value->Value->Sem Value}{g:Int->Int->V}(h:OpR X f (rI0 g))(fl:∀i j,dJ (g i j)=true):PuCmp X f (pA g):=⟨_,h,λx y T U H Q QQ vx vy h k=>by
 unfold pA at h
 split at h
 ·obtain⟨rfl,_⟩:=vx.leafI
  obtain⟨rfl,_⟩:=vy.leafI
  exact⟨_,_,rfl,rfl,k _ _ _ (Same.refl _) (.flat (fl _ _)) h⟩
 ·exact False.elim h⟩
abbrev zKW:P2:=pA λi j=>.int (i-j)
theorem lQ:gC X (binaryOp .Sub) zKW:=(wD zIP λ_ _=>rfl).op
def zKr(i j:Int):Prop:=CMul i j\/(BigOk i/\BigOk j)
def xQ:P2
 |.leaf (.int i),.leaf (.int j),Q=>zKr i j/\Q (iT (i*j))
 |.leaf (.str z),.leaf (.int n),Q=>(z.length<=1000/\n<=1000 /\ -1000<=n)/\Q (sT (mM z n))
 |_,_,_=>False
theorem zIr:gC X (binaryOp .Mult) xQ:=⟨_,op_mul.or (op_mulB.or zHd),λx y T U H Q QQ vx vy h k=>by
 unfold xQ at h
 split at h
 ·obtain⟨rfl,_⟩:=vx.leafI
  obtain⟨rfl,_⟩:=vy.leafI
  rcases h.1 with c|c
  ·exact .inl ⟨_,_,rfl,rfl,c,k _ _ _ (.flat rfl) h.2⟩
  ·exact .inr (.inl ⟨_,_,rfl,rfl,c,k _ _ _ (.flat rfl) h.2⟩)
 ·obtain⟨rfl,_⟩:=vx.leafI
  obtain⟨rfl,_⟩:=vy.leafI
  exact .inr (.inr ⟨_,_,rfl,rfl,h.1.1,h.1.2.1,h.1.2.2,k _ _ _ (.flat rfl) h.2⟩)
 ·exact False.elim h⟩
abbrev zJ4:P2:=pI2 (λ_ j=>0<j/\BigOk j) λi j=>.int (i / j)
theorem zGX:gC X (binaryOp .FloorDiv) zJ4:=(rQ zAQ λ_ _=>rfl).op
abbrev zKZ:P2:=pI2 (λ_ j=>0<j) λi j=>.int (i % j)
theorem wC:gC X (binaryOp .Mod) zKZ:=(rQ iW λ_ _=>rfl).op
abbrev zKY:P2:=pI2 zDm λi j=>.int (i ^ j.toNat)
theorem nY:gC X (binaryOp .Pow) zKY:=(rQ zCl λ_ _=>rfl).op
def pLt:P2
 |.leaf (.int i),.leaf (.int j),Q=>Q (bT (decide (i<j)))
 |.leaf (.str x),.leaf (.str y),Q=>Q (bT (decide (x.cps.toList<y.cps.toList)))
 |_,_,_=>False
theorem rP:PuCmp X (compareOp .Lt) pLt:=⟨_,op_lt.or zEO,λx y T U H Q QQ vx vy h k=>by
 unfold pLt at h
 split at h
 ·obtain⟨rfl,_⟩:=vx.leafI
  obtain⟨rfl,_⟩:=vy.leafI
  exact .inl ⟨_,_,rfl,rfl,k _ _ _ (Same.refl _) (.flat rfl) h⟩
 ·obtain⟨rfl,_⟩:=vx.leafI
  obtain⟨rfl,_⟩:=vy.leafI
  exact .inr ⟨_,_,rfl,rfl,k _ _ _ (Same.refl _) (.flat rfl) h⟩
 ·exact False.elim h⟩
abbrev pLe:P2:=pA λi j=>.bl (decide (i<=j))
theorem wL:PuCmp X (compareOp .LtE) pLe:=wD zJ5 λ_ _=>rfl
abbrev pGt:P2:=pA λi j=>.bl (decide (j<i))
theorem zCG:PuCmp X (compareOp .Gt) pGt:=wD zJ6 λ_ _=>rfl
def isV(v:V):Tv->Bool
 |.leaf w=>decide (w=v)
 |_=>false
theorem rH{K:W.Frag}{H:Hp}{x v:V}{T:Tv}(f:dJ v=true)(h:VA K H x T):decide (x=v)=isV v T:=by
 cases T with
 |leaf w=>obtain⟨rfl,_⟩:=h.leafI;rfl
 |seq t Ts=>
  obtain⟨a,_,rfl,_⟩:=h.seqI
  exact qH_ (λz=>by rw[<-z]at f;cases f)
 |dct kts=>
  obtain⟨a,_,rfl,_⟩:=h.dctI
  exact qH_ (λz=>by rw[<-z]at f;cases f)
def sV(neg:Bool):P2
 |T,.leaf .non,Q=>Q (bT (neg != isV .non T))
 |T,.leaf (.bl b),Q=>Q (bT (neg != isV (.bl b) T))
 |_,_,_=>False
abbrev pIs:P2:=sV false
abbrev zCk:P2:=sV true
theorem lX:PuCmp X (compareOp .Is) pIs:=⟨_,op_isN.or zIT,λx y T U H Q QQ vx vy h k=>by
 unfold pIs sV at h
 split at h
 ·obtain⟨rfl,_⟩:=vy.leafI
  exact .inl ⟨rfl,k _ _ _ (Same.refl _) (.flat rfl) (by rw[rH rfl vx];simpa using h)⟩
 ·obtain⟨rfl,_⟩:=vy.leafI
  exact .inr ⟨_,rfl,k _ _ _ (Same.refl _) (.flat rfl) (by rw[rH rfl vx];simpa using h)⟩
 ·exact False.elim h⟩
theorem zFL:PuCmp X (compareOp .IsNot) zCk:=⟨_,op_notN.or zEP,λx y T U H Q QQ vx vy h k=>by
 unfold zCk sV at h
 split at h
 ·obtain⟨rfl,_⟩:=vy.leafI
  exact .inl ⟨rfl,k _ _ _ (Same.refl _) (.flat rfl) (by rw[rH rfl vx];simpa using h)⟩
 ·obtain⟨rfl,_⟩:=vy.leafI
  exact .inr ⟨_,rfl,k _ _ _ (Same.refl _) (.flat rfl) (by rw[rH rfl vx];simpa using h)⟩
 ·exact False.elim h⟩
theorem vY{pins:List (Addr×Obj)}{σ:St}{H:Hp}{s:Shared}(I:Inv X pins σ H s):∀{n:Nat}{x:V}{T U:Tv},EqD n T->EqD n U->VP X.K H n x T->VP X.K H n x U->T=U
 |0,_,_,_,h,_,_,_=>False.elim h
 |n+1,x,T,U,d,d',h,h'=>by
  rcases h with⟨f,rfl⟩|⟨t,a,xs,Ts,rfl,e2,rfl,z,p⟩|⟨a,kvs,kts,rfl,e2,rfl,_⟩
  ·rcases h' with⟨_,rfl⟩|⟨t',a',xs',Ts',rfl,_⟩|⟨a',kvs',kts',rfl,_⟩
   ·rfl
   ·cases f
   ·cases f
  ·rcases h' with⟨f,rfl⟩|⟨t',a',xs',Ts',e1',e2',rfl,z',p'⟩|⟨a',kvs',kts',e1',e2',rfl,_⟩
   ·cases f
   ·cases e1'
    have tt:t=t':=by
     cases t<;>cases t'<;>first|rfl|skip
     ·obtain⟨_,_,l1⟩:=PSeq.isList I e2
      obtain⟨_,_,l2⟩:=PSeq.isTup I e2'
      exact absurd rfl (SeqAt.ne_of_list_tuple l1 l2)
     ·obtain⟨_,_,l1⟩:=PSeq.isList I e2'
      obtain⟨_,_,l2⟩:=PSeq.isTup I e2
      exact absurd rfl (SeqAt.ne_of_list_tuple l1 l2)
    subst tt
    have ex:xs=xs':=by
     cases t with
     |false=>exact I.list_inj (cP e2) (cP e2')
     |true=>exact I.tuple_inj e2 e2'
    subst ex
    have g:∀U∈Ts,EqD n U:=d
    have g':∀U∈Ts',EqD n U:=d'
    have key:∀{xs:List V} {Ts Ts':List Tv},Paired (VP X.K H n) xs Ts->Paired (VP X.K H n) xs Ts'->(∀U∈Ts,EqD n U)->(∀U∈Ts',EqD n U)->Ts=Ts':=by
     intro xs Ts Ts' p
     induction p generalizing Ts' with
     |nil=>intro p' _ _;cases p';rfl
     |cons r _ ih=>
      intro p' d d'
      cases p' with
      |cons r' t'=>rw[vY I (d _ (.head _)) (d' _ (.head _)) r r',ih t' (λU hU=>d U (.tail _ hU)) (λU hU=>d' U (.tail _ hU))]
    rw[key p p' g g']
   ·exact False.elim d'
  ·exact False.elim d
def pE(T:Tv)(Us:List Tv):Prop:=EqD 40 T/\∀U∈Us,EqD 40 U
open Classical in
theorem qK{pins:List (Addr×Obj)}{σ:St}{H:Hp}{s:Shared}(I:Inv X pins σ H s)(hu:X.A.units+64<cLine){x:V}{T:Tv}{v:Value}{ys:List V}{Us:List Tv}{its:List Value}(vx:VA X.K H x T)(rx:RelV x v)(p:VAs X.K H ys Us)(r:Vals ys its)(ok:pE T Us):
  ∃e:Value->Bool,(∀y,y∈its.toArray->SeqAt.EqAt X.A.in1 s y v (e y))/\its.toArray.any e=Us.any λU=>eqT U T:=by
 obtain⟨dx,vx⟩:=vx
 have hx:=ok.1.vp vx
 refine⟨λw=>decide (∃y U,RelV y w/\VP X.K H 40 y U/\EqD 40 U/\eqT U T=true),λw hw=>?_,?_⟩
 ·have hw:w∈its:=by simpa using hw
  obtain⟨j,hj,rfl⟩:=qB2_.mp hw
  have hj':j<ys.length:=by rw[r.length];exact hj
  obtain⟨u,eu,ru⟩:=r.get (qk_ hj')
  rw[qk_ hj]at eu
  cases eu
  obtain⟨U,eU,d,vU⟩:=eZ p (qk_ hj')
  have dU:=ok.2 U (qz_ eU)
  have e:=vR I 40 (A:=X.A.in1) (by show X.A.units+1+40<_;omega) dU ok.1 (dU.vp vU) hx ru rx
  have ee:decide (∃y U,RelV y its[j]/\VP X.K H 40 y U/\EqD 40 U/\eqT U T=true)=eqT U T:=by
   rw[qy1_,decide_eq_true_iff]
   constructor
   ·rintro⟨y,U',ry,vy,dy,z⟩
    have:=RelV.inj ry ru
    subst this
    rw[vY I dU dy (dU.vp vU) vy]
    exact z
   ·intro z
    exact⟨_,U,ru,dU.vp vU,dU,z⟩
  show SeqAt.EqAt X.A.in1 s its[j] v (decide (∃y U,RelV y its[j]/\VP X.K H 40 y U/\EqD 40 U/\eqT U T=true))
  rw[ee]
  exact e
 ·rw[qy1_,Array.any_eq_true',qQ_]
  constructor
  ·rintro⟨w,hw,z⟩
   rw[decide_eq_true_iff]at z
   obtain⟨y,U',ry,vy,dy,z⟩:=z
   have hw:w∈its:=by simpa using hw
   obtain⟨j,hj,rfl⟩:=qB2_.mp hw
   have hj':j<ys.length:=by rw[r.length];exact hj
   obtain⟨u,eu,ru⟩:=r.get (qk_ hj')
   rw[qk_ hj]at eu
   cases eu
   obtain⟨U,eU,d,vU⟩:=eZ p (qk_ hj')
   have dU:=ok.2 U (qz_ eU)
   have:=RelV.inj ry ru
   subst this
   refine⟨U,qz_ eU,?_⟩
   rw[vY I dU dy (dU.vp vU) vy]
   exact z
  ·rintro⟨U,hU,z⟩
   obtain⟨j,hj,rfl⟩:=qB2_.mp hU
   obtain⟨y,ey,d,vy⟩:=pK p (qk_ hj)
   obtain⟨u,eu,ru⟩:=r.get ey
   have dU:=ok.2 _ hU
   exact⟨u,by simpa using qz_ eu,qS_ ⟨y,_,ru,dU.vp vy,dU,z⟩⟩
def zC1(K:W.Frag)(neg:Bool):R2:=λx y H Q=>∃T t Us,VA K H x T/\VA K H y (.seq t Us)/\pE T Us/\Q (.bl (neg != Us.any λU=>eqT U T)) H
theorem zIU(hu:X.A.units+64<cLine):OpR X (compareOp .In) (zC1 X.K false):=by
 rintro pins s σ H x y v u Q I rx ry ⟨T,t,Us,vx,vy,ok,q⟩
 obtain⟨a,ys,rfl,hs,z,p⟩:=vy.seqI
 cases ry
 cases t with
 |false=>
  obtain⟨its,r,l⟩:=PSeq.isList I hs
  obtain⟨e,h1,h2⟩:=qK I hu vx rx p r ok
  exact SeqAt.in_listAt e l h1 ⟨.bl _,H,I,rfl,by rw[h2];simpa using q⟩
 |true=>
  obtain⟨its,r,l⟩:=PSeq.isTup I hs
  obtain⟨e,h1,h2⟩:=qK I hu vx rx p r ok
  exact SeqAt.in_tupleAt e l h1 ⟨.bl _,H,I,rfl,by rw[h2];simpa using q⟩
theorem zEN(hu:X.A.units+64<cLine):OpR X (compareOp .NotIn) (zC1 X.K true):=by
 rintro pins s σ H x y v u Q I rx ry ⟨T,t,Us,vx,vy,ok,q⟩
 obtain⟨a,ys,rfl,hs,z,p⟩:=vy.seqI
 cases ry
 cases t with
 |false=>
  obtain⟨its,r,l⟩:=PSeq.isList I hs
  obtain⟨e,h1,h2⟩:=qK I hu vx rx p r ok
  exact SeqAt.notIn_listAt e l h1 ⟨.bl _,H,I,rfl,by rw[h2];simpa using q⟩
 |true=>
  obtain⟨its,r,l⟩:=PSeq.isTup I hs
  obtain⟨e,h1,h2⟩:=qK I hu vx rx p r ok
  exact SeqAt.notIn_tupleAt e l h1 ⟨.bl _,H,I,rfl,by rw[h2];simpa using q⟩
def zGR:R2:=λy x H Q=>∃a o,x=.ref a/\jH H a y o/\Q (.bl (!o.isSome)) H
theorem zDu(hu:X.A.units+1<cLine):OpR X (compareOp .NotIn) zGR:=by
 rintro pins s σ H y _ u v Q I ry rx ⟨a,o,rfl,g,q⟩
 cases rx
 exact zHw hu I g ry λs' I'=>⟨.bl _,H,I',rfl,q⟩
def inS(i j:Str):Bool:=!(Builtin.Str.occurrences j i 0 j.length 1).isEmpty
def sW(neg:Bool):P2
 |T,.seq _ Us,Q=>pE T Us/\Q (bT (neg != Us.any λU=>eqT U T))
 |.leaf (.str i),.leaf (.str j),Q=>Q (bT (neg != inS i j))
 |.leaf (.str k),.dct kts,Q=>Q (bT (neg != (bY kts k).isSome))
 |_,_,_=>False
abbrev pIn:P2:=sW false
abbrev zCj:P2:=sW true
theorem lY(hu:X.A.units+64<cLine):PuCmp X (compareOp .In) pIn:=⟨_,(zIU hu).or (op_in_str.or (zD5 (by omega))),λx y T U H Q QQ vx vy h k=>by
 unfold pIn sW at h
 split at h
 ·exact .inl ⟨_,_,_,vx,vy,h.1,k _ _ _ (Same.refl _) (.flat rfl) h.2⟩
 ·obtain⟨rfl,_⟩:=vx.leafI
  obtain⟨rfl,_⟩:=vy.leafI
  exact .inr (.inl ⟨_,_,rfl,rfl,k _ _ _ (Same.refl _) (.flat rfl) (by simpa[inS]using h)⟩)
 ·rename_i kk kts
  obtain⟨rfl,_⟩:=vx.leafI
  obtain⟨a,kvs,rfl,⟨ob,hd⟩,n,z,p⟩:=vy.dctI
  refine .inr (.inr ⟨a,_,rfl,.inl ⟨kvs,.inr kk,.inr ⟨ob,hd⟩,rfl,rfl⟩,k _ _ _ (Same.refl _) (.flat rfl) ?_⟩)
  rcases qU p kk with⟨e1,e2⟩|⟨U,v,e1,e2,_⟩
  ·rw[e2];rw[e1]at h;exact h
  ·rw[e2];rw[e1]at h;exact h
 ·exact False.elim h⟩
theorem zAK(hu:X.A.units+64<cLine):PuCmp X (compareOp .NotIn) zCj:=⟨_,(zEN hu).or (op_notIn_str.or (zDu (by omega))),λx y T U H Q QQ vx vy h k=>by
 unfold zCj sW at h
 split at h
 ·exact .inl ⟨_,_,_,vx,vy,h.1,k _ _ _ (Same.refl _) (.flat rfl) h.2⟩
 ·obtain⟨rfl,_⟩:=vx.leafI
  obtain⟨rfl,_⟩:=vy.leafI
  exact .inr (.inl ⟨_,_,rfl,rfl,k _ _ _ (Same.refl _) (.flat rfl) (by simpa[inS]using h)⟩)
 ·rename_i kk kts
  obtain⟨rfl,_⟩:=vx.leafI
  obtain⟨a,kvs,rfl,⟨ob,hd⟩,n,z,p⟩:=vy.dctI
  refine .inr (.inr ⟨a,_,rfl,.inl ⟨kvs,.inr kk,.inr ⟨ob,hd⟩,rfl,rfl⟩,k _ _ _ (Same.refl _) (.flat rfl) ?_⟩)
  rcases qU p kk with⟨e1,e2⟩|⟨U,v,e1,e2,_⟩
  ·rw[e2];rw[e1]at h;exact h
  ·rw[e2];rw[e1]at h;exact h
 ·exact False.elim h⟩
def pIx:P2
 |.seq _ Ts,.leaf (.int i),Q=>∃U,atI Ts i=some U/\Q U
 |.leaf (.str z),.leaf (.int i),Q=>z.length<=100000/\∃c,atI z.cps.toList i=some c/\Q (sT ⟨#[c]⟩)
 |.dct kts,.leaf (.str k),Q=>∃U,bY kts k=some U/\Q U
 |_,_,_=>False
theorem zEk{α β:Type}{R:α->β->Prop}{xs:List α}{ys:List β}{i:Int}{y:β}(p:Paired R xs ys)(h:atI ys i=some y):∃x,atI xs i=some x/\R x y:=by
 unfold atI at h ⊢
 rw[Paired.length p]
 cases e:ixN ys.length i with
 |none=>rw[e]at h;cases h
 |some j=>
  rw[e]at h
  obtain⟨x,ex,r⟩:=pK p (show ys[j]?=some y from h)
  exact⟨x,ex,r⟩
theorem zJX(hu:X.A.units+64<cLine):zDk X pIx:=⟨_,ix_seq.or (zHn (by omega)),λx y T U H Q QQ vx vy h k=>by
 unfold pIx at h
 split at h
 ·rename_i t Ts i
  obtain⟨rfl,_⟩:=vy.leafI
  obtain⟨a,xs,rfl,hs,z,p⟩:=vx.seqI
  obtain⟨U,e,q⟩:=h
  obtain⟨x,ex,v⟩:=zEk p e
  cases t with
  |false=>exact .inl (.inl ⟨a,xs,i,x,rfl,rfl,cP hs,ex,k _ _ _ (.va v) q⟩)
  |true=>exact .inl (.inr (.inl ⟨a,xs,i,x,rfl,rfl,hs,ex,k _ _ _ (.va v) q⟩))
 ·obtain⟨rfl,_⟩:=vx.leafI
  obtain⟨rfl,_⟩:=vy.leafI
  obtain⟨l,c,e,q⟩:=h
  exact .inl (.inr (.inr ⟨_,_,c,rfl,rfl,gH l,e,k _ _ _ (.flat rfl) q⟩))
 ·rename_i kts kk
  obtain⟨rfl,_⟩:=vy.leafI
  obtain⟨a,kvs,rfl,⟨ob,hd⟩,n,z,p⟩:=vx.dctI
  obtain⟨U,e,q⟩:=h
  rcases qU p kk with⟨e1,e2⟩|⟨U',v,e1,e2,vv⟩
  ·rw[e1]at e;cases e
  ·rw[e1]at e;cases e
   exact .inr ⟨a,v,rfl,.inl ⟨kvs,.inr kk,.inr ⟨ob,hd⟩,rfl,e2.symm⟩,k _ _ _ (.va vv) q⟩
 ·exact False.elim h⟩
def fJ{α:Type}(xs:List α)(lo hi:Option Int):List α:=(xs.drop (HT.sIx xs.length 0 lo)).take (HT.sIx xs.length xs.length hi-HT.sIx xs.length 0 lo)
theorem yQ{α β:Type}{R:α->β->Prop}:∀{l:List α}{m:List β}(n:Nat),Paired R l m->Paired R (l.drop n) (m.drop n)
 |_,_,0,p=>p
 |_,_,_+1,.nil=>.nil
 |_,_,n+1,.cons _ t=>yQ n t
theorem zZ{α β:Type}{R:α->β->Prop}:∀{l:List α}{m:List β}(n:Nat),Paired R l m->Paired R (l.take n) (m.take n)
 |_,_,0,p=>by rw[qe3_,qe3_];exact .nil
 |_,_,_+1,.nil=>.nil
 |_,_,n+1,.cons r t=>.cons r (zZ n t)
theorem zC{α β:Type}{R:α->β->Prop}{l:List α}{m:List β}(lo hi:Option Int)(p:Paired R l m):Paired R (fJ l lo hi) (fJ m lo hi):=by
 unfold fJ
 rw[Paired.length p]
 exact zZ _ (yQ _ p)
theorem zGj{α:Type}(xs:List α)(lo hi:Option Int):(fJ xs lo hi).length<=xs.length:=by
 unfold fJ
 rw[qO_,qI1_]
 omega
def zKX:PSl
 |.seq t Ts,lo,hi,Q=>Q (.seq t (fJ Ts lo hi))
 |.leaf (.str z),lo,hi,Q=>z.length<=100000/\Q (sT (Txt.slice z lo hi))
 |_,_,_,_=>False
theorem fV:zDh X zKX:=⟨_,sl_list.or (sl_tupW.or zH9),λx T lo hi H Q QQ vx h k=>by
 cases T with
 |seq t Ts=>
  have h:Q (.seq t (fJ Ts lo hi)):=h
  obtain⟨a,xs,rfl,hs,z,p⟩:=vx.seqI
  have z':(fJ Ts lo hi).length<=100000:=qi_ (zGj _ _ _) z
  cases t with
  |false=>exact .inl ⟨a,xs,rfl,cP hs,λr n=>k _ _ _ (Raw.lst n z' (zC lo hi p)) h⟩
  |true=>exact .inr (.inl ⟨a,xs,rfl,hs,λr H' sm hr=>k _ _ _ ⟨sm,.inl (VA.seq (t:=true) hr z' (Paired.mapP (zC lo hi p) λ_ _ q=>VA.hs sm.hs q))⟩ h⟩)
 |leaf w=>
  cases w with
  |str zz=>
   have h:zz.length<=100000/\Q (sT (Txt.slice zz lo hi)):=h
   obtain⟨rfl,_⟩:=vx.leafI
   exact .inr (.inr ⟨_,rfl,gH h.1,k _ _ _ (.flat rfl) h.2⟩)
  |_=>exact False.elim h
 |dct kts=>exact False.elim h⟩
def sU:Pn
 |[.seq _ Ts],Q=>Q (iT Ts.length)
 |[.leaf (.str z)],Q=>z.length<=100000/\Q (iT z.length)
 |[.dct kts],Q=>Q (iT kts.length)
 |_,_=>False
theorem cA:iA X (.builtin "len") sU:=⟨_,call_len_seq.or (call_len_str.or zEi),λxs Ts H Q QQ vx h k=>by
 unfold sU at h
 split at h
 ·rename_i t Ts
  obtain⟨x,rfl,v⟩:=dM vx
  obtain⟨a,xs,rfl,hs,z,p⟩:=v.seqI
  have l:xs.length=_:=Paired.length p
  refine .inl ⟨a,xs,rfl,?_,k _ _ _ (.flat rfl) (by rw[l];exact h)⟩
  cases t with
  |false=>exact .inl (cP hs)
  |true=>exact .inr hs
 ·obtain⟨x,rfl,v⟩:=dM vx
  obtain⟨rfl,_⟩:=v.leafI
  exact .inr (.inl ⟨_,rfl,gH h.1,k _ _ _ (.flat rfl) h.2⟩)
 ·obtain⟨x,rfl,v⟩:=dM vx
  obtain⟨a,kvs,rfl,⟨ob,hd⟩,n,z,p⟩:=v.dctI
  have l:kvs.length=_:=Paired.length p
  exact .inr (.inr ⟨a,kvs,rfl,.inr ⟨ob,hd⟩,k _ _ _ (.flat rfl) (by rw[l];exact h)⟩)
 ·exact False.elim h⟩
def sX(T:String):Tv->Bool
 |.leaf .non=>false
 |.leaf (.bl _)=>T=="bool" || T=="int"
 |.leaf (.int _)=>T=="int"
 |.leaf (.str _)=>T=="str"
 |.leaf _=>false
 |.seq false _=>T=="list"
 |.seq true _=>T=="tuple"
 |.dct _=>T=="dict"
theorem zJy{K:W.Frag}{H:Hp}{x:V}{W:Tv}(T:String)(v:VA K H x W):TyV K T x H (sX T W):=by
 cases W with
 |leaf w=>
  obtain⟨rfl,f⟩:=v.leafI
  rcases jX f with rfl|⟨b,rfl⟩|⟨b,rfl⟩|⟨b,rfl⟩<;>rfl
 |seq t Ts=>
  obtain⟨a,xs,rfl,hs,z,p⟩:=v.seqI
  cases t with
  |false=>exact .inl ⟨xs,cP hs,rfl⟩
  |true=>exact .inr (.inl ⟨xs,hs,rfl⟩)
 |dct kts=>
  obtain⟨a,kvs,rfl,⟨ob,hd⟩,n,z,p⟩:=v.dctI
  exact .inr (.inr ⟨kvs,.inr ⟨ob,hd⟩,rfl⟩)
def zKy(T:String)(u:UT):UT:=λρ Q=>u ρ λW ρ1=>Q (bT (sX T W)) ρ1
theorem cJ{e t:Expr}{u:UT}{p pos:Pos}(T:String)(hc:CallR X (.builtin "isinstance") (λxs H Q=>∃x b,xs=[x,.ty T]/\TyV X.K T x H b/\Q (.bl b) H))(hg:Gl X "isinstance")(hm:X.mg "isinstance"=none)(he:UE X F e u)(ht:PE X t (tC (.ty T)))
  (h1:dO e=false:=by rfl) (h2:dO t=false:=by rfl) (hpl:(backTo pos (starEach [t] X.env)).any (·.1)=false:=by rfl):UE X F (.Call (.Name "isinstance" p) [e,t] [] pos) (zKy T u):=
 ⟨PE.imp (iL hc hg hm boot_isinstance (cT he.pe (cT ht dD h2) h1) (by decide) (by decide) (gU h1) hpl) λσ H QQ ⟨ρ,Q,f,h,k⟩=>
  ⟨ρ,_,f,h,λx W H1 ρ1 s1 v1 q1=>⟨x,_,rfl,zJy T v1,k _ _ _ _ s1 (.flat rfl) q1⟩⟩⟩
theorem nF{K:W.Frag}{H:Hp}:∀{xs:List V}{bs:List Bool},VAs K H xs (bs.map bT)->xs=bs.map V.bl
 |[],[],_=>rfl
 |_::_,_::_,.cons r t=>by rw[qF_,<-nF t,(VA.leafI r).1]
theorem qB{K:W.Frag}{H:Hp}:∀{xs:List V}{ns:List Int},VAs K H xs (ns.map iT)->xs=ns.map V.int
 |[],[],_=>rfl
 |_::_,_::_,.cons r t=>by rw[qF_,<-qB t,(VA.leafI r).1]
theorem iK{K:W.Frag}{H:Hp}:∀{xs:List V}{ss:List Str},VAs K H xs (ss.map sT)->xs=ss.map V.str
 |[],[],_=>rfl
 |_::_,_::_,.cons r t=>by rw[qF_,<-iK t,(VA.leafI r).1]
theorem vZ{K:W.Frag}{H:Hp}:∀(bs:List Bool),VAs K H (bs.map V.bl) (bs.map bT)
 |[]=>.nil
 |_::bs=>.cons (.flat rfl) (vZ bs)
theorem zBj{K:W.Frag}{H:Hp}:∀(ns:List Int),VAs K H (ns.map V.int) (ns.map iT)
 |[]=>.nil
 |_::ns=>.cons (.flat rfl) (zBj ns)
theorem lG{K:W.Frag}{H:Hp}:∀(ss:List Str),VAs K H (ss.map V.str) (ss.map sT)
 |[]=>.nil
 |_::ss=>.cons (.flat rfl) (lG ss)
def zK2:Pn:=λTs Q=>∃bs:List Bool,Ts=[.seq false (bs.map bT)]/\Q (bT (bs.any id))
theorem zIs(hc:X.calm=true):iA X (.builtin "any") zK2:=⟨_,zFl hc,λxs Ts H Q QQ vx h k=>by
 obtain⟨bs,rfl,q⟩:=h
 obtain⟨x,rfl,v⟩:=dM vx
 obtain⟨a,ys,rfl,hs,z,p⟩:=v.seqI
 rw[nF p]at hs
 exact⟨a,bs,rfl,cP hs,k _ _ _ (.flat rfl) q⟩⟩
def zK0:Pn:=λTs Q=>(∃i j:Int,Ts=[iT i,iT j]/\Q (iT (min i j)))\/(∃ns:List Int,Ts=[.seq false (ns.map iT)]/\0<ns.length/\∀M,M∈ns->(∀a∈ns,M<=a)->Q (iT M)) \/
 ∃ss:List Str,Ts=[.seq false (ss.map sT)]/\0<ss.length/\∀x,x∈ss->(∀y∈ss,x.cps.toList<=y.cps.toList)->Q (sT x)
def zK1:Pn:=λTs Q=>(∃i j:Int,Ts=[iT i,iT j]/\Q (iT (max i j)))\/(∃ns:List Int,Ts=[.seq false (ns.map iT)]/\0<ns.length/\∀M,M∈ns->(∀a∈ns,a<=M)->Q (iT M)) \/
 ∃ss:List Str,Ts=[.seq false (ss.map sT)]/\0<ss.length/\∀x,x∈ss->(∀y∈ss,y.cps.toList<=x.cps.toList)->Q (sT x)
theorem hJ(hc:X.calm=true):iA X (.builtin "min") zK0:=⟨_,(zFh hc).or ((zFi hc).or (zM hc)),λxs Ts H Q QQ vx h k=>by
 rcases h with⟨i,j,rfl,q⟩|⟨ns,rfl,l,q⟩|⟨ss,rfl,l,q⟩
 ·obtain⟨x,y,rfl,v,v'⟩:=wQ vx
  obtain⟨rfl,_⟩:=v.leafI
  obtain⟨rfl,_⟩:=v'.leafI
  refine .inl ⟨i,j,rfl,k _ _ _ (.flat rfl) ?_⟩
  have e:(if j<i then j else i)=min i j:=by split<;>omega
  rw[e];exact q
 ·obtain⟨x,rfl,v⟩:=dM vx
  obtain⟨a,ys,rfl,hs,z,p⟩:=v.seqI
  rw[qB p]at hs
  exact .inr (.inl ⟨a,ns,rfl,cP hs,l,λM h1 h2=>k _ _ _ (.flat rfl) (q M h1 h2)⟩)
 ·obtain⟨x,rfl,v⟩:=dM vx
  obtain⟨a,ys,rfl,hs,z,p⟩:=v.seqI
  rw[iK p]at hs
  exact .inr (.inr ⟨a,ss,rfl,cP hs,l,λM h1 h2=>k _ _ _ (.flat rfl) (q M h1 h2)⟩)⟩
theorem hX(hc:X.calm=true):iA X (.builtin "max") zK1:=⟨_,(zFj hc).or ((zFk hc).or (zN hc)),λxs Ts H Q QQ vx h k=>by
 rcases h with⟨i,j,rfl,q⟩|⟨ns,rfl,l,q⟩|⟨ss,rfl,l,q⟩
 ·obtain⟨x,y,rfl,v,v'⟩:=wQ vx
  obtain⟨rfl,_⟩:=v.leafI
  obtain⟨rfl,_⟩:=v'.leafI
  refine .inl ⟨i,j,rfl,k _ _ _ (.flat rfl) ?_⟩
  have e:(if j > i then j else i)=max i j:=by split<;>omega
  rw[e];exact q
 ·obtain⟨x,rfl,v⟩:=dM vx
  obtain⟨a,ys,rfl,hs,z,p⟩:=v.seqI
  rw[qB p]at hs
  exact .inr (.inl ⟨a,ns,rfl,cP hs,l,λM h1 h2=>k _ _ _ (.flat rfl) (q M h1 h2)⟩)
 ·obtain⟨x,rfl,v⟩:=dM vx
  obtain⟨a,ys,rfl,hs,z,p⟩:=v.seqI
  rw[iK p]at hs
  exact .inr (.inr ⟨a,ss,rfl,cP hs,l,λM h1 h2=>k _ _ _ (.flat rfl) (q M h1 h2)⟩)⟩
def zHc:List Tv->(List Tv->Prop)->Prop:=λTs Q=>∃t Us,Ts=[.seq t Us]/\Q Us
theorem pU:nR X (.type "list") zHc:=⟨_,yM,λxs Ts H Q QQ vx h k=>by
 obtain⟨t,Us,rfl,q⟩:=h
 obtain⟨x,rfl,v⟩:=dM vx
 obtain⟨a,ys,rfl,hs,z,p⟩:=v.seqI
 refine⟨a,ys,rfl,?_,λl n=>k l ys Us _ (bZ n) n aZ z (VAs.hs (gK n) p) q⟩
 cases t with
 |false=>exact .inl (cP hs)
 |true=>exact .inr hs⟩
def zCi:Pn:=λTs Q=>∃t Us,Ts=[.seq t Us]/\Q (.seq true Us)
theorem fP:iA X (.type "tuple") zCi:=⟨_,zDx,λxs Ts H Q QQ vx h k=>by
 obtain⟨t,Us,rfl,q⟩:=h
 obtain⟨x,rfl,v⟩:=dM vx
 obtain⟨a,ys,rfl,hs,z,p⟩:=v.seqI
 refine⟨a,ys,rfl,?_⟩
 cases t with
 |false=>exact .inl ⟨cP hs,λl n=>k _ _ _ (Raw.tup n z p) q⟩
 |true=>exact .inr ⟨hs,k _ _ _ (.va v) q⟩⟩
def zHb:List Tv->(List Tv->Prop)->Prop:=λTs Q=>(∃ns:List Int,Ts=[.seq false (ns.map iT)]/\ns.length<64/\∀ms:List Int,ms.Perm ns->ms.Pairwise (·<=·)->Q (ms.map iT)) \/
 (∃ss:List Str,Ts=[.seq false (ss.map sT)]/\ss.length<64/\Q ((aV ss).map sT))\/∃kts,Ts=[.dct kts]/\Q ((aV (kts.map (·.1))).map sT)
theorem qF{K:W.Frag}{H:Hp}{kvs:List (Key×V)}{kts:List (Str×Tv)}(p:VAk K H kvs kts):kvs.map (·.1)=(kts.map (·.1)).map Sum.inr:=by
 unfold VAk at p
 induction p with
 |nil=>rfl
 |cons r _ ih=>rw[qF_,qF_,qF_,ih,r.1]
theorem tU(us:List Str):(aV us).length=us.length:=(eM us).length_eq
theorem tV(hc:X.calm=true):nR X (.builtin "sorted") zHb:=⟨_,call_sortedI.or (call_sortedS.or (zDD hc)),λxs Ts H Q QQ vx h k=>by
 rcases h with⟨ns,rfl,l,q⟩|⟨ss,rfl,l,q⟩|⟨kts,rfl,q⟩
 ·obtain⟨x,rfl,v⟩:=dM vx
  obtain⟨a,ys,rfl,hs,z,p⟩:=v.seqI
  rw[qB p]at hs
  refine .inl ⟨a,ns,rfl,cP hs,l,λms b h1 h2 n=>k b _ _ _ (bZ n) n aZ (by rw[qc_,h1.length_eq];omega) (zBj ms) (q ms h1 h2)⟩
 ·obtain⟨x,rfl,v⟩:=dM vx
  obtain⟨a,ys,rfl,hs,z,p⟩:=v.seqI
  rw[iK p]at hs
  refine .inr (.inl ⟨a,ss,rfl,cP hs,l,λms b h1 h2 n=>k b _ _ _ (bZ n) n aZ (by rw[qc_,h1.length_eq];omega) (lG ms) (by rw[mZ h1 h2];exact q)⟩)
 ·obtain⟨x,rfl,v⟩:=dM vx
  obtain⟨a,kvs,rfl,⟨ob,hd⟩,nd,z,p⟩:=v.dctI
  refine .inr (.inr ⟨a,ob,kvs,kts.map (·.1),rfl,hd,qF p,by rw[qc_];exact z,λms b h1 h2 n=>k b _ _ _ (bZ n) n aZ (by rw[qc_,h1.length_eq,qc_];omega) (lG ms) (by rw[mZ h1 h2];exact q)⟩)⟩
def zK3:Pn:=λTs Q=>∃i:Int,Ts=[iT i]/\Q (iT (if i<0 then -i else i))
theorem zIt:iA X (.builtin "abs") zK3:=⟨_,zGl,λxs Ts H Q QQ vx h k=>by
 obtain⟨i,rfl,q⟩:=h
 obtain⟨x,rfl,v⟩:=dM vx
 obtain⟨rfl,_⟩:=v.leafI
 exact⟨i,rfl,k _ _ _ (.flat rfl) q⟩⟩
def uBM(T:String)(r:Tv->List Tv->(Tv->Prop)->Prop)(u:UT)(ua:UTa):UT:=λρ Q=>u ρ λW ρ1=>sX T W=true/\uVs ua ρ1 λTs ρ2=>r W Ts λW'=>Q W' ρ2
theorem zGG{K:W.Frag}{H:Hp}{x:V}{W:Tv}(v:VA K H x W)(h:sX "str" W=true):tyV K "str" x H:=by
 cases W with
 |leaf w=>
  obtain⟨rfl,f⟩:=v.leafI
  rcases jX f with rfl|⟨b,rfl⟩|⟨b,rfl⟩|⟨b,rfl⟩
  ·cases h
  ·cases h
  ·cases h
  ·rfl
 |seq t Ts=>cases t<;>cases h
 |dct kts=>cases h
theorem rA{name:Str}{id:String}{r:Tv->List Tv->(Tv->Prop)->Prop}{o e:Expr}{es:List Expr}{u:UT}{ua:UTa}{apos cpos:Pos}(slot:Slot "str" name id)(hty:typeOf (.builtin id)=pure (.type "method_descriptor"))
  (hm:∃r',MtR X id r'/\∀x W xs Ts H Q (QQ:VK),VA X.K H x W->VAs X.K H xs Ts->r W Ts Q->(∀z W H',Raw X.K H H' z W->Q W->QQ z H')->r' x xs H QQ) (ho:UE X F o u) (ha:UA X F (e::es) ua)
  (hbase:attributeBase o name X.env (eval o X.env)=eval o X.env:=by rfl)
  (hfew:((backTo cpos (starEach (e::es) X.env)).all (λx=>!x.1)&&(backToKw cpos (keywordEach [] X.env)).all (λx=>x.1.isSome)&&decide ((e::es).length+([]:List Keyword).length+(if ([]:List Keyword).isEmpty then 0 else 1)<30))=true:=by rfl)
  (hline:(apos.endLine==cpos.line)=true:=by rfl) (hs:starEach (e::es) X.env=(false,eval e X.env)::starEach es X.env:=by rfl) (hplain:(backTo cpos (starEach es X.env)).any (·.1)=false:=by rfl):
  UE X F (.Call (.Attribute o name apos) (e::es) [] cpos) (uBM "str" r u ua):=by
 obtain⟨r',m,hr⟩:=hm
 refine⟨PE.imp (PE.fz (oK PySem.F.plainAttrs_str slot hty m ho.pe ha.pa hbase hfew hline hs hplain)) λσ H QQ ⟨ρ,Q,f,h,k⟩=>⟨ρ,_,f,h,λx W H1 ρ1 s1 v1 q1=>⟨zGG v1 q1.1,ρ1,_,s1.fr,q1.2,λxs as H2 ρ2 s2 p2 q2=>?_⟩⟩⟩
 obtain⟨Ts,rfl,q⟩:=iQ q2
 exact hr x W xs Ts H2 _ _ (v1.hs (s2.hs s1.fr)) (iR p2) q λz W' H' rw q=>rw.fin s2.fr λH'' s4 v4=>k _ _ _ _ ((s1.trans s2).trans s4) v4 q
def zHa:Tv->List Tv->(Tv->Prop)->Prop:=λW Ts Q=>∃i j:Str,W=sT i/\Ts=[sT j]/\Q (bT (decide (0+j.length<=i.length)&&Builtin.Str.subAt i j 0))
theorem zEL:∃r',MtR X "str.startswith" r'/\∀x W xs Ts H Q (QQ:VK),VA X.K H x W->VAs X.K H xs Ts->zHa W Ts Q->(∀z W H',Raw X.K H H' z W->Q W->QQ z H')->r' x xs H QQ:=⟨_,zDv,λx W xs Ts H Q QQ v p h k=>by
 obtain⟨i,j,rfl,rfl,q⟩:=h
 obtain⟨rfl,_⟩:=v.leafI
 obtain⟨y,rfl,v'⟩:=dM p
 obtain⟨rfl,_⟩:=v'.leafI
 exact⟨i,j,rfl,rfl,k _ _ _ (.flat rfl) q⟩⟩
def zJ3:Tv->List Tv->(Tv->Prop)->Prop:=λW Ts Q=>∃i j:Str,W=sT i/\Ts=[sT j]/\∀n:Int,Q (iT n)
theorem zG1:∃r',MtR X "str.find" r'/\∀x W xs Ts H Q (QQ:VK),VA X.K H x W->VAs X.K H xs Ts->zJ3 W Ts Q->(∀z W H',Raw X.K H H' z W->Q W->QQ z H')->r' x xs H QQ:=⟨_,zHj,λx W xs Ts H Q QQ v p h k=>by
 obtain⟨i,j,rfl,rfl,q⟩:=h
 obtain⟨rfl,_⟩:=v.leafI
 obtain⟨y,rfl,v'⟩:=dM p
 obtain⟨rfl,_⟩:=v'.leafI
 exact⟨i,j,rfl,rfl,λn=>k _ _ _ (.flat rfl) (q n)⟩⟩
def zJ2:Tv->List Tv->(Tv->Prop)->Prop:=λW Ts Q=>∃ss:List Str,W=sT ⟨#[]⟩/\Ts=[.seq false (ss.map sT)]/\(cD ss).length<=100000/\Q (sT ⟨(cD ss).toArray⟩)
theorem zBA:∃r',MtR X "str.join" r'/\∀x W xs Ts H Q (QQ:VK),VA X.K H x W->VAs X.K H xs Ts->zJ2 W Ts Q->(∀z W H',Raw X.K H H' z W->Q W->QQ z H')->r' x xs H QQ:=⟨_,zHi,λx W xs Ts H Q QQ v p h k=>by
 obtain⟨ss,rfl,rfl,l,q⟩:=h
 obtain⟨rfl,_⟩:=v.leafI
 obtain⟨y,rfl,v'⟩:=dM p
 obtain⟨a,ys,rfl,hs,z,p'⟩:=v'.seqI
 rw[iK p']at hs
 refine⟨a,ss,rfl,rfl,cP hs,l,λz e=>k _ _ _ (.flat rfl) ?_⟩
 have:z=⟨(cD ss).toArray⟩:=by
  cases z with
  |mk c=>congr 1;have e:c.toList=cD ss:=e;rw[<-e]
 rw[this];exact q⟩
end
end L2
namespace L2
open PySem PySem.Spec PyProof.Rows WordM
section
variable{X:Cx}{F:Fm}{pos:Pos}
def zKK(i j:Nat)(ua:UTa):UTs:=λP ρ=>uVs ua ρ λTs ρ1=>∃T U,Ts=[T,U]/\P.nx ((ρ1.set i (.va T)).set j (.va U))
theorem zHO{i j:Nat}{x y:Str}{a b:Expr}{ua:UTa}{px py pt:Pos}{kt k2 pt2}(hc:X.calm=true)(hN:X.N.Nodup)(hi:X.N[i]?=some x)(hj:X.N[j]?=some y)(hij:i≠j)
  (hx:X.env.scope.names.lookup x=some .local) (hy:X.env.scope.names.lookup y=some .local) (ha:UA X F [a,b] ua)
  (hw:swappedStores [.Tuple [.Name x px,.Name y py] kt pt] (.Tuple [a,b] k2 pt2) X.env=pure (some [x,y]))
  (hs:swapsWithSole [.Tuple [.Name x px,.Name y py] kt pt] (.Tuple [a,b] k2 pt2) pos.line X.env=pure false:=by rfl):
  US X F (.Assign [.Tuple [.Name x px,.Name y py] kt pt] (.Tuple [a,b] k2 pt2) pos) (zKK i j ua):=⟨PS.imp (zIw hc hN hi hj hij hx hy ha.pa hw hs) λD σ H ⟨ρ,P,f,h,k1,_⟩=>by
 refine⟨ρ,_,f,h,λxs as H1 ρ1 s1 p1 q1=>?_⟩
 obtain⟨Ts,rfl,T,U,rfl,q⟩:=iQ q1
 obtain⟨v,w,rfl,vv,vw⟩:=wQ (iR p1)
 refine⟨v,w,rfl,k1 _ _ _ ?_ (s1.hs f) q⟩
 exact(s1.fr.set (s:=.va T) (λ_=>⟨v,rfl,vv⟩) (λz=>absurd z ql_)).set (s:=.va U) (λ_=>⟨w,rfl,vw⟩) (λz=>absurd z ql_)⟩
def eG(K:W.Frag)(mg:Str->Option Value)(x:Str)(T:Tv):Prop:=∃v u,mg x=some u/\RelV v u/\∀H,VA K H v T
theorem oI{x:Str}{T:Tv}(G:eG X.K X.mg x T)(hg:Gl X x)(hd:(x==("__debug__":Str))=false:=by decide):UE X F (.Name x pos) (uC T):=by
 obtain⟨v,u,m,r,h⟩:=G
 exact zGC hg m r h hd
def oO(K:W.Frag)(prm:Params)(mg:Str->Option Value)(x:Str)(kvs:List (Str×Str)):Prop:=∃d,mg x=some (.ref d)/\zCT K prm d kvs
def uKD(kvs:List (Str×Str))(u:UT):UT:=λρ Q=>u ρ λT ρ1=>∃i j,T=sT i/\getS kvs i=some j/\Q (sT j) ρ1
theorem zCC{x:Str}{p:Pos}{e:Expr}{u:UT}{kvs:List (Str×Str)}(G:oO X.K X.w.params X.mg x kvs)(hg:Gl X x)(he:UE X F e u)(hs:qZ e:=by intro _ _;rfl)(hd:(x==("__debug__":Str))=false:=by decide):UE X F (.Subscript (.Name x p) e pos) (uKD kvs u):=by
 obtain⟨d,m,D⟩:=G
 refine⟨PE.imp (jA (zKd D) (zBE (v:=.ref d) hg m rfl hd) he.pe hs) λσ H QQ ⟨ρ,Q,f,h,k⟩=>⟨ρ,_,f,h,λy T H1 ρ1 s1 v1 q1=>?_⟩⟩
 obtain⟨i,j,rfl,ej,q⟩:=q1
 obtain⟨rfl,_⟩:=v1.leafI
 exact⟨i,j,rfl,rfl,ej,k _ _ _ _ s1 (.flat rfl) q⟩
end
def mF(own:Nat)(fr:List Nat)(g:UG)(tf:UTt)(ue:UT)(T:Tv)(ρ:aQ)(R:Option Tv->aQ->Prop):Prop:=g T (blk own fr ρ) λρ1=>tf ρ1 λb ρ2=>if b=true then ue ρ2 λU ρ3=>R (some U) (bck own fr ρ ρ3) else R none (bck own fr ρ ρ2)
section
variable{own:Nat}{fr:List Nat}{g:UG}{tf:UTt}{ue:UT}
def zKp(own:Nat)(fr:List Nat)(g:UG)(tf:UTt)(ue:UT)(Ts:List Tv)(Q:List Tv->aQ->Prop)(o:Option Tv)(ρ:aQ):Prop:=match o with
 |some U=>fH own fr g tf ue Ts ρ λUs ρ4=>Q (U::Us) ρ4
 |none=>fH own fr g tf ue Ts ρ Q
theorem tS(T:Tv)(Ts:List Tv)(ρ:aQ)(Q:List Tv->aQ->Prop):fH own fr g tf ue (T::Ts) ρ Q=mF own fr g tf ue T ρ (zKp own fr g tf ue Ts Q):=rfl
theorem iM{ρ:aQ}(f:Tv->Option Tv):∀{Ts:List Tv}{Q:List Tv->aQ->Prop},(∀T∈Ts,∀R:Option Tv->aQ->Prop,R (f T) ρ->mF own fr g tf ue T ρ R)->Q (Ts.filterMap f) ρ->fH own fr g tf ue Ts ρ Q
 |[],_,_,q=>q
 |T::Ts,Q,h,q=>by
  rw[tS]
  refine h T (.head _) _ ?_
  rw[qK_]at q
  cases e:f T with
  |none=>rw[e]at q;exact iM f (λT' hT'=>h T' (.tail _ hT')) q
  |some U=>rw[e]at q;exact iM (Q:=λUs ρ4=>Q (U::Us) ρ4) f (λT' hT'=>h T' (.tail _ hT')) q
theorem zFd{ρ:aQ}(f:Tv->Tv){Ts:List Tv}{Q:List Tv->aQ->Prop}(h:∀T∈Ts,∀R:Option Tv->aQ->Prop,R (some (f T)) ρ->mF own fr g tf ue T ρ R)(q:Q (Ts.map f) ρ):fH own fr g tf ue Ts ρ Q:=
 iM (λT=>some (f T)) h (by rw[show Ts.filterMap (λT=>some (f T))=Ts.map f from List.filterMap_eq_map'▸rfl];exact q)
theorem zAp{ρ:aQ}{Ts:List Tv}{Q:List Tv->aQ->Prop}(J:Nat->List Tv->aQ->Prop)(h0:J 0 [] ρ)(hs:∀i T Us ρ',Ts[i]?=some T->J i Us ρ'->∀R:Option Tv->aQ->Prop,(∀o ρ'',J (i+1) (Us++o.toList) ρ''->R o ρ'')->mF own fr g tf ue T ρ' R)
  (hd:∀Us ρ',J Ts.length Us ρ'->Q Us ρ'):fH own fr g tf ue Ts ρ Q:=by
 have key:∀(n i:Nat) (Us:List Tv) (ρ:aQ) (Q:List Tv->aQ->Prop),n+i=Ts.length->J i Us ρ->(∀Vs ρ',J Ts.length (Us++Vs) ρ'->Q Vs ρ')->fH own fr g tf ue (Ts.drop i) ρ Q:=by
  intro n
  induction n with
  |zero=>
   intro i Us ρ Q e j hd
   have:i=Ts.length:=by omega
   subst this
   rw[qP2_]
   exact hd [] ρ (by rw[qN_];exact j)
  |succ n ih=>
   intro i Us ρ Q e j hd
   have hi:i<Ts.length:=by omega
   rw[qC2_ hi,tS]
   refine hs i _ Us ρ (qk_ hi) j _ λo ρ'' j'=>?_
   cases o with
   |none=>exact ih (i+1) _ ρ'' Q (by omega) j' λVs ρ' q=>hd Vs ρ' (by simpa using q)
   |some U=>exact ih (i+1) _ ρ'' (λUs ρ4=>Q (U::Us) ρ4) (by omega) j' λVs ρ' q=>hd (U::Vs) ρ' (by simpa using q)
 exact key Ts.length 0 [] ρ Q (by omega) h0 λVs ρ' q=>hd Vs ρ' (by simpa using q)
theorem jM{g:UG}{ub:UTs}{Ts:List Tv}{P:PEnds}{ρ:aQ}(J:Nat->aQ->Prop)(h0:J 0 ρ)(hs:∀i T ρ' (N:aQ->Prop),Ts[i]?=some T->J i ρ'->(∀ρ'',J (i+1) ρ''->N ρ'')->g T ρ' λρ1=>ub {P with nx:=N,ct:=N,bk:=P.nx} ρ1)
  (hd:∀ρ',J Ts.length ρ'->P.nx ρ'):jF g ub Ts P ρ:=by
 have key:∀(n i:Nat) (ρ:aQ),n+i=Ts.length->J i ρ->jF g ub (Ts.drop i) P ρ:=by
  intro n
  induction n with
  |zero=>
   intro i ρ e j
   have:i=Ts.length:=by omega
   subst this
   rw[qP2_]
   exact hd ρ j
  |succ n ih=>
   intro i ρ e j
   have hi:i<Ts.length:=by omega
   rw[qC2_ hi]
   exact hs i _ ρ (λρ'=>jF g ub (Ts.drop (i+1)) P ρ') (qk_ hi) j λρ'' j'=>ih (i+1) ρ'' (by omega) j'
 exact key Ts.length 0 ρ (by omega) h0
end
end L2
namespace L2
open PySem PySem.Spec PyProof.Rows WordM
def iU:PSp:=λas R=>∃m:Int,as=[.dk,.va (iT m)]/\0<m/\BigOk m/\∀r:Int,0<=r->r<m->R (iT r)
theorem On.kp{p c:Addr}{H H':Hp}(o:On p c H H'):Kp (some (p,c)) H H':=⟨λb u e n=>o.e b u e (n p c rfl).1 (n p c rfl).2,λp' c' e=>by cases e;exact o.d⟩
theorem Good.take{P:Program}{w:World}{K:W.Frag}{mg:Str->Option Value}{base:Heap}{k:Nat}{x:Str}{ps:List Str}(G:Good P w K mg base k x ps zB9):PGood P w K mg base k x ps iU:=Good.imp G λvs H Q E ⟨dk,as,R,d,p,⟨m,e,hm,hb,q⟩,kk⟩=>by
 subst e
 cases p with
 |cons r1 t1=>
  cases t1 with
  |cons r2 t2=>
   cases t2
   obtain⟨p,c,ed,rfl⟩:=r1
   subst ed
   obtain⟨rfl,_⟩:=VA.leafI r2
   exact⟨p,c,m,rfl,d p c rfl,hm,hb,λr H' h1 h2 o=>kk _ _ _ o.kp (.flat rfl) (q r h1 h2)⟩
theorem zFv{X:Cx}{F:Fm}{st:List Stmt}:USs X F st (λ_ _=>False):=⟨PSs.imp zEJ λD σ H ⟨_,_,_,h,_⟩=>h⟩
theorem Has.pfalse{P:Program}{w:World}{K:W.Frag}{mg:Str->Option Value}{base:Heap}{x:Str}{st:Stmt}{N ps:List Str}{k:Nat}{psp:PSp}(h:Has K mg x st)(S:bC N ps (aN st))
  (hb:∀(kV doc pm:Value) (an:Option Addr) (cdv ct:Value) (us:List Value),us.length=ps.length->bindArgs (W.fnOf x x (hC st) (fD st) (aN st) .none kV doc pm an cdv ct) ⟨us,[]⟩=pure (ps.zip us)) (hf:∀as R,psp as R->False):PGood P w K mg base (k+1) x ps psp:=
 h.pgood S hb (λ_ _ _ _ _ _ _ _ _=>zFv) λas R q=>(hf as R q).elim
theorem cN{j:Int}(h1:-(10 ^ 100)<j)(h2:j<10 ^ 100):BigOk j:=by
 unfold BigOk
 have:j.natAbs<10 ^ 100:=by omega
 exact qq1_ this (by decide +kernel)
section
variable{own:Nat}{fr:List Nat}{g:UG}{tf:UTt}{ue:UT}{α:Type}
theorem jZ{ρ:aQ}(c:α->Tv)(f:α->Option Tv):∀{l:List α}{Q:List Tv->aQ->Prop},(∀a∈l,∀R:Option Tv->aQ->Prop,R (f a) ρ->mF own fr g tf ue (c a) ρ R)->Q (l.filterMap f) ρ->fH own fr g tf ue (l.map c) ρ Q
 |[],_,_,q=>q
 |a::l,Q,h,q=>by
  rw[qF_,tS]
  refine h a (.head _) _ ?_
  rw[qK_]at q
  cases e:f a with
  |none=>rw[e]at q;exact jZ c f (λb hb=>h b (.tail _ hb)) q
  |some U=>rw[e]at q;exact jZ (Q:=λUs ρ4=>Q (U::Us) ρ4) c f (λb hb=>h b (.tail _ hb)) q
theorem dY{ρ:aQ}(c f:α->Tv){l:List α}{Q:List Tv->aQ->Prop}(h:∀a∈l,∀R:Option Tv->aQ->Prop,R (some (f a)) ρ->mF own fr g tf ue (c a) ρ R)(q:Q (l.map f) ρ):fH own fr g tf ue (l.map c) ρ Q:=
 jZ c (λa=>some (f a)) h (by rw[show l.filterMap (λa=>some (f a))=l.map f from List.filterMap_eq_map'▸rfl];exact q)
theorem fS{g:UG}{ub:UTs}{P:PEnds}{ρ:aQ}(c:α->Tv){l:List α}(J:Nat->aQ->Prop)(h0:J 0 ρ)(hs:∀i a ρ' (N:aQ->Prop),l[i]?=some a->J i ρ'->(∀ρ'',J (i+1) ρ''->N ρ'')->g (c a) ρ' λρ1=>ub {P with nx:=N,ct:=N,bk:=P.nx} ρ1)
  (hd:∀ρ',J l.length ρ'->P.nx ρ'):jF g ub (l.map c) P ρ:=
 jM J h0 (λi T ρ' N e j hN=>by
  rw[qv_]at e
  obtain⟨a,ea,rfl⟩:=qg1_.mp e
  exact hs i a ρ' N ea j hN) (by rw[qc_];exact hd)
end
theorem zBY(x y:Str):eqT (sT x) (sT y)=decide (x=y):=by
 rw[eqT]
 show(x==y)=_
 exact Bool.beq_eq_decide_eq x y
theorem zHF{x:Str}{ss:List Str}:((ss.map sT).any λU=>eqT U (sT x))=decide (x∈ss):=by
 rw[List.any_map,qy1_,qQ_,decide_eq_true_iff]
 constructor
 ·rintro⟨y,hy,e⟩
  have e:eqT (sT y) (sT x)=true:=e
  rw[zBY,decide_eq_true_iff]at e
  rw[<-e];exact hy
 ·intro h
  exact⟨x,h,by show eqT (sT x) (sT x)=true;rw[zBY,decide_eq_true_iff]⟩
theorem zF8{x:Str}{ss:List Str}:pE (sT x) (ss.map sT):=⟨trivial,λU hU=>by
 obtain⟨s,_,rfl⟩:=qg_.mp hU
 trivial⟩
theorem sif{b:Bool}{A B:Prop}(h1:b=true->A)(h2:b=false->B):if b=true then A else B:=by
 cases b with
 |true=>exact(if_pos rfl).mpr (h1 rfl)
 |false=>exact(if_neg ql_).mpr (h2 rfl)
theorem kN{p:Prop}[Decidable p]{A B:Prop}(h1:p->A)(h2:¬ p->B):if decide p=true then A else B:=sif (λh=>h1 (qe1_ h)) λh=>h2 (of_decide_eq_false h)
end L2
namespace L2
open PySem PySem.Spec PyProof.Rows WordM
abbrev UTd:=aQ->(List (Str×Tv)->aQ->Prop)->Prop
def zKb(K:W.Frag)(F:Fm)(u:UTd):TE:=λσ H QQ=>∃ρ Q,FrOk K F ρ σ H/\u ρ Q/\∀a kvs kts H' ρ',Stp K F σ ρ H ρ' H'->H a=none->H' a=some (.dK kvs)->(kts.map (·.1)).Nodup->kts.length<64->VAk K H' kvs kts->Q kts ρ'->QQ (.ref a) H'
structure UD (X:Cx) (F:Fm) (e:Expr) (u:UTd):Prop where
 pe:PE X e (zKb X.K F u)
section
variable{X:Cx}{F:Fm}{e:Expr}{pos:Pos}
def uD(u:UTd):UT:=λρ Q=>u ρ λkts ρ1=>Q (.dct kts) ρ1
theorem zCB{u:UTd}(h:UD X F e u):UE X F e (uD u):=⟨PE.imp (PE.fz h.pe) λσ H QQ ⟨ρ,Q,fr,h,k⟩=>⟨ρ,_,fr,h,λa kvs kts H' ρ' s n e nd z p q=>
 .inr ⟨a,_,rfl,e,rfl,λob=>k _ _ _ _ (s.put fr n e rfl (.frz ob (.dK kvs))) (VA.dct ⟨ob,aZ⟩ nd z (VAk.hs (fU e rfl) p)) q⟩⟩⟩
def zJG(i:Nat)(u:UTd):UTs:=λP ρ=>u ρ λkts ρ1=>P.nx (ρ1.set i (.dct kts))
theorem zGA{i:Nat}{x:Str}{u:UTd}{pos':Pos}(hN:X.N.Nodup)(hi:X.N[i]?=some x)(hx:Loc X.env.scope x)(he:UD X F e u)(hs:swapsWith e (some (.Name x pos')) pos.line X.env=pure false:=by rfl)(hf:X.fn x=true\/X.env.scope.names.lookup x=some .local:=by first|exact .inl rfl|exact .inr rfl|assumption):
  US X F (.Assign [.Name x pos'] e pos) (zJG i u):=⟨PS.imp (iV hN hi hx he.pe hs hf) λD σ H ⟨ρ,P,f,h,k1,_⟩=>by
 refine⟨ρ,_,f,h,λa kvs kts H' ρ' s n e nd z p q=>?_⟩
 exact k1 _ _ _ (s.fr.set (s:=.dct kts) (λ_=>⟨a,kvs,rfl,e,f.none0 n,nd,z,p⟩) (λ_ b eb j t ej mj qj=>by cases eb;exact s.notown f n j t ej mj qj)) (s.hs f) q⟩
variable{u:UT}{p:Pos}
def zIo(K:W.Frag):List V->Hp->VK->Prop:=λxs H Q=>∃(l:Addr) (ys:List V) (ps:List (Key×V)),xs=[.ref l]/\Rd H l (.lst ys)/\Paired (λy (p:Key×V)=>∃t,y=.ref t/\SqT K H t [kV p.1,p.2]) ys ps/\ps.length<=1000 /\
  ∀d,H d=none->Q (.ref d) (upd H d (.dK (hZ [] ps)))
theorem zEj(hc:X.calm=true):CallR X (.type "dict") (zIo X.K):=by
 rintro pins s σ H _ us Q I r ⟨l,ys,ps,rfl,hl,hp,hsz,q⟩
 obtain⟨u,rfl,rx⟩:=cQ r
 cases rx
 obtain⟨hz,its,n,hv,hget⟩:=(show ObjOk X.prog X.w H s.heap l (.lst ys) from hl.ok I.hok)
 have key:∀{ys:List V} {its:List Value} {ps:List (Key×V)},Vals ys its->Paired (λy (p:Key×V)=>∃t,y=.ref t/\SqT X.K H t [kV p.1,p.2]) ys ps ->
   ∃qs:List (Key×Value),KV ps qs/\its.length=qs.length/\∀(j:Nat) (k:Key) (v:Value),qs[j]?=some (k,v)->∃t kk,its[j]?=some (.ref t)/\IsTup s.heap t #[kk,v]/\(bN X.prog X.w).is k kk=true:=by
  intro ys its ps hv hp
  induction hp generalizing its with
  |nil=>cases hv;exact⟨[],.nil,rfl,λj k v e=>by simp at e⟩
  |@cons y p ys' ps' h _ ih=>
   cases hv with
   |cons r0 rs=>
    obtain⟨t,rfl,ht⟩:=h
    cases r0
    obtain⟨qs,kq,lq,fq⟩:=ih rs
    obtain⟨tits,tv,tt,_⟩:=I.tuple ht
    cases tv with
    |@cons _ kk _ _ r1 rs1=>
     cases rs1 with
     |@cons _ vv _ _ r2 rs2=>
      cases rs2
      refine⟨(p.1,vv)::qs,.cons ⟨rfl,r2⟩ kq,by rw[qI_,qI_,lq],λj k v e=>?_⟩
      cases j with
      |zero=>
       cases e
       exact⟨t,kk,rfl,tt,jS r1⟩
      |succ j=>exact fq j k v e
 obtain⟨qs,kq,lq,fq⟩:=key hv hp
 have hbig:=I.big
 have hps:ps.length=qs.length:=Paired.length kq
 refine zDz (ps:=qs) (I.ok.hd hc) hget ⟨by simpa using lq,λj k v e=>by obtain⟨t,kk,a,b,c⟩:=fq j k v e;exact⟨t,kk,by simpa using a,b,c⟩⟩ (by omega) λh' tk hd k=>?_
 have hlen:=tG ps []
 refine⟨.ref s.heap.objs.size,_,I.laid (t':=tk) (o:=.dK (hZ [] ps)) k (qe_ _) (show ObjOk _ _ _ h' _ (.dK _) from ⟨by rw[sizeLine_eq];have:=hlen;simp at this;omega,?_,_,zHt kq .nil,hd⟩),rfl,q _ I.fresh⟩
 exact beq_eq_false_iff_ne.mpr (qE_ hbig)
def zH0(u:UT):UTd:=λρ Q=>u ρ λT ρ1=>∃kts:List (Str×Tv),T=.seq false (kts.map λkt=>.seq true [sT kt.1,kt.2])/\(kts.map (·.1)).Nodup/\kts.length<64/\Q kts ρ1
theorem zAO{K:W.Frag}{H:Hp}:∀{ys:List V}{kts:List (Str×Tv)},VAs K H ys (kts.map λkt=>.seq true [sT kt.1,kt.2])->∃ps:List (Key×V),Paired (λy (p:Key×V)=>∃t,y=.ref t/\SqT K H t [kV p.1,p.2]) ys ps/\VAk K H ps kts
 |[],[],_=>⟨[],.nil,.nil⟩
 |y::ys,kt::kts,.cons r t=>by
  obtain⟨ps,h1,h2⟩:=zAO t
  obtain⟨a,xs,rfl,hs,z,p⟩:=VA.seqI r
  obtain⟨k,v,rfl,vk,vv⟩:∃k v,xs=[k,v]/\VA K H k (sT kt.1)/\VA K H v kt.2:=by
   cases p with
   |cons r1 t1=>
    cases t1 with
    |cons r2 t2=>cases t2;exact⟨_,_,rfl,r1,r2⟩
  obtain⟨rfl,_⟩:=vk.leafI
  exact⟨(.inr kt.1,v)::ps,.cons ⟨a,rfl,hs⟩ h1,.cons ⟨rfl,vv⟩ h2⟩
theorem zEp{K:W.Frag}{H:Hp}{kvs:List (Key×V)}{kts:List (Str×Tv)}(p:VAk K H kvs kts)(n:(kts.map (·.1)).Nodup):(kvs.map (·.1)).Nodup:=by
 rw[qF p]
 unfold List.Nodup at n ⊢
 rw[qI2_]
 exact n.imp λh e=>h (Sum.inr.inj e)
theorem zFy(hc:X.calm=true)(hg:Gl X "dict")(hm:X.mg "dict"=none)(he:UE X F e u)(hst:dO e=false:=by rfl)(hpl:(backTo pos (starEach [] X.env)).any (·.1)=false:=by rfl):UD X F (.Call (.Name "dict" p) [e] [] pos) (zH0 u):=
 ⟨PE.imp (gF (zEj hc) hg hm boot_dict (cT he.pe dD hst) (by decide) (by decide) (gU hst) hpl) λσ H QQ ⟨ρ,Q,f,h,k⟩=>by
  refine⟨ρ,_,f,h,λx T H1 ρ1 s1 v1 q1=>?_⟩
  obtain⟨kts,rfl,nd,z,q⟩:=q1
  obtain⟨a,xs,rfl,⟨ob,hs⟩,zz,p⟩:=v1.seqI
  obtain⟨ps,h1,h2⟩:=zAO p
  have l2:ps.length=kts.length:=Paired.length h2
  refine⟨a,xs,ps,rfl,.inr ⟨ob,hs⟩,h1,by omega,λd n=>?_⟩
  rw[zAd (kvs:=[]) (by simpa using zEp h2 nd),ql1_]
  exact k _ _ _ _ _ (s1.trans (Stp.same s1.fr (bZ n))) (s1.non n) aZ nd z (VAk.hs (gK n) h2) q⟩
variable{x:Str}{apos cpos:Pos}
def zH1(ud u ux:UT):UT:=λρ Q=>ud ρ λD ρ1=>∃kts,D=.dct kts/\u ρ1 λJ ρ2=>∃k:Str,J=sT k/\ux ρ2 λW ρ3=>Q ((bY kts k).getD W) ρ3
theorem zAD{o e2:Expr}{ud ux:UT}(hu:X.A.units+1<cLine)(ho:UE X F o ud)(h:UE X F e u)(hx:UE X F e2 ux)(m:M2 X o "get" apos e e2 cpos:=by exact⟨rfl,rfl,rfl,rfl⟩):UE X F (.Call (.Attribute o "get" apos) [e,e2] [] cpos) (zH1 ud u ux):=⟨PE.imp (zFT hu ho.pe h.pe hx.pe m) λσ H QQ ⟨ρ,Q,f,hu,k⟩=>by
 refine⟨ρ,_,f,hu,λx D H1 ρ1 s1 v1 q1=>?_⟩
 obtain⟨kts,rfl,q1⟩:=q1
 obtain⟨a,kvs,rfl,⟨ob,hd⟩,nd,z,p⟩:=v1.dctI
 refine⟨a,rfl,.inl ⟨kvs,.inr ⟨ob,hd⟩⟩,ρ1,_,s1.fr,q1,λy J H2 ρ2 s2 v2 q2=>?_⟩
 obtain⟨kk,rfl,q2⟩:=q2
 obtain⟨rfl,_⟩:=v2.leafI
 refine⟨ρ2,_,s2.fr,q2,λz W H3 ρ3 s3 v3 q=>?_⟩
 have hs:=(s2.hs s1.fr).trans (s3.hs s2.fr)
 refine⟨_,.inl ⟨kvs,.inr kk,.inr ⟨ob,hs _ _ rfl hd⟩,rfl,rfl⟩,?_⟩
 rcases qU (VAk.hs hs p) kk with⟨z1,z2⟩|⟨U,v,z1,z2,vv⟩
 ·rw[z2];rw[z1]at q;exact k _ _ _ _ ((s1.trans s2).trans s3) v3 q
 ·rw[z2];rw[z1]at q;exact k _ _ _ _ ((s1.trans s2).trans s3) vv q⟩
end
section
variable{X:Cx}{F:Fm}
def zJM:R2:=λx y H Q=>∃l k xs,x=.ref l/\y=.int k/\Rd H l (.lst xs) /\ -(2 ^ 63)<=k/\k<2 ^ 63/\xs.length*k.toNat<=sizeLine/\∀p,H p=none->Q (.ref p) (upd H p (.lst (List.replicate k.toNat xs).flatten))
theorem zBF:OpR X (binaryOp .Mult) zJM:=by
 rintro pins s σ H _ _ v u Q I rx ry ⟨l,k,xs,rfl,rfl,hH,h1,h2,hz,q⟩
 cases rx
 obtain⟨t,rfl⟩:=ry
 obtain⟨z,its,n,r,e⟩:=hH.ok I.hok
 have hl:=r.length
 have hlen:its.toArray.size*k.toNat<=sizeLine:=by rw[qo_,<-hl];exact hz
 have hcap:¬ its.toArray.size*k.toNat > (2 ^ 63-1) / 8:=by
  have:(sizeLine:Nat)<=(2 ^ 63-1) / 8:=by decide
  omega
 have hfit:¬ (!Builtin.List.listFitsIndex k)=true:=by
  rw[fitsIndex_both h1 h2]
  exact ql_
 have hlong:¬ Builtin.List.listTooLong (its.toArray.size*k.toNat)=true:=by
  rw[zAR hlen]
  exact ql_
 have hnew:List.foldl (λx1 x2=>x1++x2) #[] (List.replicate (if its.toArray.isEmpty=true then 0 else k.toNat) its.toArray)=(List.replicate k.toNat its).flatten.toArray:=by
  have f0:∀m:Nat,List.foldl (λx1 x2=>x1++x2) #[] (List.replicate m its.toArray)=(List.replicate m its).flatten.toArray:=λm=>by
   have:=zAm its m []
   rw[ql1_]at this
   exact this
  rw[f0]
  cases its with
  |nil=>simp
  |cons a r'=>rw[if_neg (by simp)]
 refine wpAny_binaryOp_repeat_ref (T:="list") (U:="int") (by decide) ⟨_,e,rfl⟩ (λs'=>typeIs_int s' k t) noFill_list_mul F.fills_int_mul F.slot_int_rmul repeat_list F.slot_int_index.lookup
  (call_meets F.slot_int_rmul (typeIs_int s k t) F.entry_int_rmul (F.args_int_rmul_2 _ _) (int___rmul___int_list k t l its.toArray n)
   ⟨e,rfl,⟨_,e,rfl⟩,call_meets F.slot_list_mul ⟨_,e,rfl⟩ F.entry_list_mul (F.args_list_mul_2 _ _) (AutoListH.list___mul___list_int_3 l its.toArray n k t hfit hcap hlong) ⟨e,?_⟩⟩)
 rw[hnew]
 exact⟨.ref _,_,I.lnew (t':=s.toks) (r.rep k.toNat) (by rw[qW,qx1_];exact hz),rfl,q _ I.fresh⟩
theorem tQ{α β:Type}{R:α->β->Prop}{l:List α}{m:List β}(p:Paired R l m):∀k:Nat,Paired R (List.replicate k l).flatten (List.replicate k m).flatten
 |0=>.nil
 |k+1=>by rw[qn1_,qn1_,qo1_,qo1_];exact pP p (tQ p k)
def zCJ:P2
 |.seq false xs,.leaf (.int k),Q=>(xs.length*k.toNat<=100000 /\ -(2 ^ 62)<=k/\k<2 ^ 62)/\Q (.seq false (List.replicate k.toNat xs).flatten)
 |T,U,Q=>xQ T U Q
theorem qP:gC X (binaryOp .Mult) zCJ:=by
 obtain⟨a,oa,ra⟩:=zIr (X:=X)
 refine⟨_,oa.or zBF,λx y T U H Q QQ vx vy h k=>?_⟩
 unfold zCJ at h
 split at h
 ·obtain⟨a,xs,rfl,⟨ob,hs⟩,z,p⟩:=vx.seqI
  obtain⟨rfl,_⟩:=vy.leafI
  obtain⟨⟨h1,h2,h3⟩,q⟩:=h
  have l1:xs.length=_:=Paired.length p
  refine .inr ⟨a,_,xs,rfl,rfl,.inr ⟨ob,hs⟩,by omega,by omega,gH (by rw[l1];exact h1),λb n=>k _ _ _ (Raw.lst n ?_ (tQ p _)) q⟩
  rw[qW,qx1_];exact h1
 ·exact .inl (ra x y T U H Q QQ vx vy h k)
end
end L2
namespace L2
open PySem PySem.Spec PyProof.Rows WordM
inductive Wd where
 |few (ts:List Str)
 |make (h:Str) (a b:Int) (ms:List Str)
inductive Pt where
 |nothing
 |truths (bs:List Bool)
 |numbers (lo hi st:Int)
 |texts (w:Wd)
 |lists (a b:Int) (f:List Pt)
 |record (a b:Int) (fs:List (Str×Bool×List Pt))
 |table (a b:Int) (w:Wd) (f:List Pt)
def bW:Wd->Tv
 |.few ts=>.seq true [sT "few",.seq true (ts.map sT)]
 |.make h a b ms=>.seq true [sT "make",sT h,iT a,iT b,.seq true (ms.map sT)]
def aX:Pt->Tv
 |.nothing=>.seq true [sT "nothing"]
 |.truths bs=>.seq true [sT "truths",.seq true (bs.map bT)]
 |.numbers lo hi st=>.seq true [sT "numbers",iT lo,iT hi,iT st]
 |.texts w=>.seq true [sT "texts",bW w]
 |.lists a b f=>.seq true [sT "lists",iT a,iT b,.seq true (f.map aX)]
 |.record a b fs=>.seq true [sT "record",iT a,iT b,.seq true (fs.map λx=>.seq true [sT x.1,bT x.2.1,.seq true (x.2.2.map aX)])]
 |.table a b w f=>.seq true [sT "table",iT a,iT b,bW w,.seq true (f.map aX)]
termination_by p=>sizeOf p
decreasing_by
 all_goals simp_wf
 ·have:=qQ2_ ‹_›;omega
 ·obtain⟨x1,x2,x3⟩:=x
  have h1:=qQ2_ ‹_∈fs›
  have h2:=qQ2_ ‹_∈x3›
  simp at h1
  omega
 ·have:=qQ2_ ‹_›;omega
abbrev bS(f:List Pt):Tv:=.seq true (f.map aX)
abbrev cE(x:Str×Bool×List Pt):Tv:=.seq true [sT x.1,bT x.2.1,bS x.2.2]
theorem iJ(a b:Int)(f:List Pt):aX (.lists a b f)=.seq true [sT "lists",iT a,iT b,bS f]:=by rw[aX]
theorem eK(a b:Int)(fs:List (Str×Bool×List Pt)):aX (.record a b fs)=.seq true [sT "record",iT a,iT b,.seq true (fs.map cE)]:=by rw[aX]
theorem fL(a b:Int)(w:Wd)(f:List Pt):aX (.table a b w f)=.seq true [sT "table",iT a,iT b,bW w,bS f]:=by rw[aX]
def wG:Pt->Str
 |.nothing=>"nothing"
 |.truths _=>"truths"
 |.numbers ..=>"numbers"
 |.texts _=>"texts"
 |.lists ..=>"lists"
 |.record ..=>"record"
 |.table ..=>"table"
def fG:Pt->Nat
 |.nothing=>0
 |.truths _=>1
 |.numbers ..=>2
 |.texts _=>3
 |.lists ..=>4
 |.record ..=>5
 |.table ..=>5
theorem eQ{a b:Int}{A B:Prop}(h1:a=b->A)(h2:a≠b->B):if (false != eqV (.int a) (.int b))=true then A else B:=sif (λz=>h1 (by simpa[eqV]using z)) λz=>h2 (by simpa[eqV]using z)
theorem sC{a b:Str}{A B:Prop}(h1:a=b->A)(h2:a≠b->B):if (false != eqV (.str a) (.str b))=true then A else B:=sif (λz=>h1 (by simpa[eqV]using z)) λz=>h2 (by simpa[eqV]using z)
def fK(s:Str):Prop:=Sg s/\s.length<=50
def iH(l:List Str):Prop:=l.Pairwise λa b=>cs a<cs b
theorem zDO{a b:Str}(h:cs a<=cs b)(n:a≠b):cs a<cs b:=by
 refine Classical.byContradiction λz=>n (kD (List.le_antisymm h (qa1_.mp z)))
theorem zGJ(l:List Str):∃ss:List Str,ss.Perm l/\sortedS ss=true:=by
 refine⟨l.mergeSort λa b=>decide (cs a<=cs b),List.mergeSort_perm _ _,PyProof.Rows.sortedS_of_pairwise _ ?_⟩
 refine(List.pairwise_mergeSort (λa b c h1 h2=>?_) (λa b=>?_) l).imp λ{a b} h=>?_
 ·exact qS_ (qN2_ (qe1_ h1) (qe1_ h2))
 ·rcases List.le_total (cs a) (cs b) with z|z<;>simp[z]
 ·rw[ltCps_eq]
  exact qH_ (qa1_.mpr (qe1_ h))
theorem zGI(l:List Str):(aV l).Pairwise λa b=>cs a<=cs b:=by
 obtain⟨ss,h1,h2⟩:=zGJ l
 rw[<-mZ h1 h2]
 exact pO _ h2
theorem zV{l:List Str}(n:l.Nodup):iH (aV l):=by
 have h2:(aV l).Nodup:=(eM l).nodup_iff.mpr n
 exact List.Pairwise.imp₂ (λa b h n=>zDO h n) (zGI l) h2
theorem kW{l:List Str}(h:iH l):l.Nodup:=List.Pairwise.imp (λ{a b} h e=>by rw[e]at h;exact qf3_ _ h) h
end L2
namespace L2
open PySem PySem.Spec PyProof.Rows WordM
def stW(x y:Str):Bool:=decide (0+y.length<=x.length)&&Builtin.Str.subAt x y 0
def aU(x hd:Str):Str:=Txt.slice x (some (hd.length:Int)) none
def dI:Tv->Nat
 |.leaf .non=>0
 |.leaf (.bl _)=>1
 |.leaf (.int _)=>2
 |.leaf (.str _)=>3
 |.leaf _=>5
 |.seq false _=>4
 |.seq true _=>5
 |.dct _=>5
def cR:Nat->Str
 |0=>"nothing"
 |1=>"truth"
 |2=>"number"
 |3=>"text"
 |4=>"list"
 |_=>"dict"
end L2
namespace L2
open PySem PySem.Spec PyProof.Rows WordM
theorem uG{kts:List (Str×Tv)}{k:Str}{U:Tv}(h:bY kts k=some U):(k,U)∈kts:=by
 unfold bY at h
 obtain⟨kt,h1,h2⟩:=qg1_.mp h
 have h3:=qg3_ h1
 have h4:=qp3_ h1
 have h5:kt.1=k:=by simpa using h3
 rw[<-h5,<-h2];exact h4
theorem lookD_none{kts:List (Str×Tv)}{k:Str}:bY kts k=none↔k∉kts.map (·.1):=by
 constructor
 ·intro h hk
  obtain⟨U,e⟩:=look_mem hk
  rw[h]at e;cases e
 ·intro h
  cases e:bY kts k with
  |none=>rfl
  |some U=>exact absurd (qg_.mpr ⟨_,uG e,rfl⟩) h
end L2
namespace L2
open PySem PySem.Spec PyProof.Rows WordM
def rN(K:W.Frag):Sp:=λvs H Q _=>∃(a:Addr) (ns:List Int),vs=[.ref a]/\SqL K H a (ns.map V.int)/\ns.length<=63/\∀H',Q (.bl true) H'
def mP(n:Nat):aQ:=.no::.dk::List.replicate (n-2) .no
theorem zJk{K:W.Frag}{H:Hp}{p c:Addr}{N:List Str}{x:V}(hN:2<=N.length)(d:DeckAt H p c):FrOk K ⟨H,some (p,c)⟩ (mP N.length) ((dZ N [x]).set 1 (some (.ref p))) H:=by
 have nm:∀(i:Nat) (s:Sl),(mP N.length)[i]?=some s->(s=.dk/\i=1)\/s=.no:=λi s e=>by
  unfold mP at e
  match i,e with
  |0,e=>exact .inr (by simpa using e.symm)
  |1,e=>exact .inl ⟨by simpa using e.symm,rfl⟩
  |i+2,e=>
   have e:(List.replicate (N.length-2) Sl.no)[i]?=some s:=by simpa using e
   exact .inr (List.eq_of_mem_replicate (qz_ e))
 refine⟨λp' c' e=>by cases e;exact d,⟨λ_ _ e _=>e,λp' c' e=>by cases e;exact d⟩,?_,λi s e=>?_,λi j a s t e _ m _ _ _=>?_⟩
 ·unfold mP dZ
  simp
  omega
 ·rcases nm i s e with⟨rfl,rfl⟩|rfl
  ·refine⟨p,c,rfl,?_⟩
   unfold ixv dZ
   rw[qj1_ (by simp;omega)]
   rfl
  ·trivial
 ·rcases nm i s e with⟨rfl,_⟩|rfl<;>cases m
theorem zA0{K:W.Frag}{mg:Str->Option Value}{x:Str}{a:Addr}{ss:List Str}(m:mg x=some (.ref a))(T:∀H,SqT K H a (ss.map V.str))(l:ss.length<=100000:=by decide):eG K mg x (.seq true (ss.map sT)):=by
 refine⟨.ref a,.ref a,m,rfl,λH=>VA.seq (T H) (by rw[qc_];exact l) ?_⟩
 have key:∀ss:List Str,VAs K H (ss.map V.str) (ss.map sT):=λss=>by
  induction ss with
  |nil=>exact .nil
  |cons s ss ih=>exact .cons (.flat rfl) ih
 exact key ss
theorem zGY{X:Cx}{st:List Stmt}{us:UTs}(h:∀F,USs X F st us):PSs X st (λD σ H=>∃F,mB X.K F us D σ H):=λpins s σ H D I ⟨F,q⟩=>(h F).ps pins s σ H D I q
theorem zHl{X:Cx}{us:UTs}{D:kS}{p c:Addr}{H:Hp}{N:List Str}{x:V}(hN:2<=N.length)(d:DeckAt H p c)(q:∀H',D.rt (.bl true) H')(h:us {nx:=λ_=>False,rt:=λT=>T=bT true} (mP N.length)):
  ∃F,mB X.K F us D ((dZ N [x]).set 1 (some (.ref p))) H:=⟨⟨H,some (p,c)⟩,mP N.length,_,zJk hN d,h,λ_ _ _ _ _ z=>z.elim,λx T H' _ v e=>by
 subst e
 obtain⟨rfl,_⟩:=v.leafI
 exact q H',λ_ _ _ _ _ z=>z.elim,λ_ _ _ _ _ z=>z.elim⟩
end L2
namespace L2
open PySem PySem.Spec PyProof.Rows WordM
section
variable{X:Cx}{F:Fm}{e ke ve:Expr}{pos:Pos}{uk uv:UT}
def uNo:UTd:=λρ Q=>Q [] ρ
theorem zHW:UD X F (.Dict [] [] pos) uNo:=⟨PE.imp zAN λσ H QQ ⟨ρ,Q,f,h,k⟩ a n=>k a [] [] _ ρ (Stp.same f (bZ n)) n aZ .nil (by decide) .nil h⟩
def zKv(uk uv:UT):UTd:=λρ Q=>uk ρ λK ρ1=>∃s,K=sT s/\uv ρ1 λT ρ2=>Q [(s,T)] ρ2
theorem zHV(hk:UE X F ke uk)(hv:UE X F ve uv):UD X F (.Dict [some ke] [ve] pos) (zKv uk uv):=⟨PE.imp (zG5 (zFN hk.pe hv.pe zG0) rfl rfl (λz=>nomatch z) (by simp)) λσ H QQ ⟨ρ,Q,f,h,k⟩ b nb=>by
 have s0:=Stp.same f (bZ (o:=.dK []) nb)
 refine⟨ρ,_,s0.fr,h,λy T H1 ρ1 s1 v1 q1=>?_⟩
 obtain⟨s,rfl,q1⟩:=q1
 obtain⟨rfl,_⟩:=v1.leafI
 refine⟨ρ1,_,s1.fr,q1,λz U H2 ρ2 s2 v2 q2=>?_⟩
 have s12:=s1.trans s2
 have hb:H2 b=some (.dK []):=s12.st b _ aZ (f.none_nodk nb) (s0.notown f nb)
 refine⟨hb,[(.inr s,z)],rfl,by simp,?_⟩
 exact k _ _ [(s,U)] _ _ ((s0.trans s12).put f nb hb rfl _) nb aZ (by simp) (by simp) (VAk.hs (fU hb rfl) (.cons ⟨rfl,v2⟩ .nil)) q2⟩
end
end L2
namespace L2
open PySem PySem.Spec PyProof.Rows WordM
section
variable{X:Cx}{F:Fm}
variable{x:Str}{p apos cpos pos:Pos}{st:Stmt}
theorem zB4:US X F st (λ_ _=>False):=⟨λpins s σ H D I ⟨_,_,_,h,_⟩=>h.elim⟩
end
end L2
namespace L2
open PySem PySem.Spec PyProof.Rows
def dX:Bool->Value->Bool
 |b,.bool c=>b==c
 |_,_=>false
theorem kX{b:Bool}{v:Value}(h:dX b v=true):v=.bool b:=by
 cases v<;>simp_all [dX]
def iF(b:Bool):Int:=if b then 1 else 0
section
variable{prog:Program}{w:World}{A:Around}{E:Value->Shared->Prop}{s:Shared}
theorem zFr{b:Bool}{Q:Int->Shared->Prop}(h:Q (iF b) {s with toks:=s.toks+1}):wpAny (model prog w) A (pyHash (.bool b)) Q E s:=by
 unfold pyHash
 have hv:[Value.bool b].any Value.onHeap=false:=rfl
 refine qa_ ?_
 rw[cRoomFor,if_neg (by rw[hv];exact ql_)];refine qb_ ?_
 refine qa_ (wpAny_specialOf (typeIs_bool' s b) F.slot_bool_hash.lookup ?_)
 show wpAny _ _ (if (some (Value.builtin "int.__hash__")==some Value.none)=true then _ else _) Q E s
 rw[if_neg (by rw[beq_builtin_none];exact ql_)]
 refine qa_ (wpAny_specialOf (typeIs_bool' s b) F.slot_bool_hash.lookup ?_)
 show wpAny _ _ (callSpecialIfBoundUnlessNone? (.bool b) "__hash__" _ >>= _) Q E s
 refine qa_ (wpAny_callSpecialIfBoundUnlessNone?_slot (typeIs_bool' s b) F.slot_bool_hash
  (qJ_ F.slot_bool_hash (typeIs_bool' s b) PySem.entry_int_hash
   (show wpAny _ _ (do ret (<- mkInt (rawHash (iF b)))) _ _ s from ?_) (PySem.args_int_hash _)))
 refine wpAny_ret_mkInt ?_
 cases b
 ·exact qb_ h
 ·exact qb_ h
theorem zHH{a b:Bool}{Q:Bool->Shared->Prop}(h:Q (decide (a=b)) s):wpAny (model prog w) A (eqBool (.bool a) (.bool b)) Q E s:=by
 refine SeqAt.EqAt.bool_bool a b _ _ _ _ ?_
 have e:(a==b)=decide (a=b):=by cases a<;>cases b<;>rfl
 rw[e];exact h
end
def kI(prog:Program)(w:World):PySem.KeyKind prog w Bool where
 is:=dX
 hash:=iF
 inj:=λv a b ha hb=>by
  have:=(kX ha).symm.trans (kX hb)
  injection this
 byValue:=λk v h=>by rw[kX h];rfl
 pyHash:=λhv h=>by rw[kX hv];exact zFr h
 eqBool:=λhu hv h=>by rw[kX hu,kX hv];exact zHH h
 «strs»:=λk x t v h=>by simp[dX]at h
def usB(f t:Bool):List Bool:=(if f then [false] else [])++(if t then [true] else [])
def esB(f t:Bool):Array (Int×Value):=((usB f t).map λb=>(iF b,Value.bool b)).toArray
def bV(l f t:Bool):SetTable:=⟨7,((usB f t).map λb=>if b then 1 else 0).toArray,#[],0,l,0,true⟩
theorem zK4(l f t b:Bool)(h:b∉usB f t):layNew (bV l f t) (esB f t) (iF b) (.bool b)=(esB (f || !b) (t || b),bV l (f || !b) (t || b),false,false):=by
 cases l<;>cases f<;>cases t<;>cases b<;>first|rfl|exact absurd (by simp[usB]) h
theorem eX(l f t:Bool):(bV l f t).fits (esB f t).size=true:=by cases l<;>cases f<;>cases t<;>rfl
theorem zKh(l f t:Bool):(bV l f t).tooFull=false:=by cases l<;>cases f<;>cases t<;>rfl
theorem lW(f t:Bool):(esB f t).size=(usB f t).length:=by simp[esB]
theorem iI(f t:Bool):(usB f t).length<=2:=by cases f<;>cases t<;>decide
def SetBl(w:World)(a:Addr)(f t:Bool)(h:Heap):Prop:=∃ep,h.get? a=some (bK (esB f t) ep (bV (!byT w) f t))
section
variable{prog:Program}{w:World}{A:Around}{E:Value->Shared->Prop}{s:Shared}{a:Addr}{f t b:Bool}
theorem SetBl.kept{h h':Heap}(S:SetBl w a f t h)(k:∀o,h.get? a=some o->h'.get? a=some o):SetBl w a f t h':=by
 obtain⟨ep,e⟩:=S
 exact⟨ep,k _ e⟩
theorem elB:ElemsOf (kI prog w) (esB f t).toList:=λe he=>by
 have he:e∈(usB f t).map λb=>(iF b,Value.bool b):=he
 obtain⟨b,_,rfl⟩:=qg_.mp he
 exact⟨⟨b,by show dX b (.bool b)=true;simp[dX],rfl⟩,rfl⟩
theorem findB:((esB f t).toList.findIdx? λe=>(kI prog w).is b e.2)=none↔b∉usB f t:=by
 rw[qn3_]
 constructor
 ·intro h hb
  have:=h (iF b,.bool b) (by simp only[esB];exact qg_.mpr ⟨b,hb,rfl⟩)
  exact absurd this (by show ¬ dX b (.bool b)=false;simp[dX])
 ·intro h e he
  have he:e∈(usB f t).map λb=>(iF b,Value.bool b):=he
  obtain⟨c,hc,rfl⟩:=qg_.mp he
  show dX b (.bool c)=false
  simp only[dX,beq_eq_false_iff_ne]
  exact λz=>h (z▸hc)
theorem inB{f t b:Bool}(h:b∈usB f t):(f || !b)=f/\(t || b)=t:=by
 cases f<;>cases t<;>cases b<;>simp_all [usB]
theorem zBf{Q:Bool->Shared->Prop}(S:SetBl w a f t s.heap)(h:∀r h',Heap.SameBut a s.heap h'->SetBl w a (f || !b) (t || b) h'->Q r {s with heap:=h'}):
  wpAny (model prog w) A (setAddHashed a (.bool b) ((kI prog w).hash b)) Q E s:=by
 obtain⟨ep,ho⟩:=id S
 have hk:(kI prog w).is b (.bool b)=true:=by show dX b (.bool b)=true;simp[dX]
 have lt:(esB f t).size<scanBound:=by rw[lW];have:=iI f t;show _<4096;omega
 unfold setAddHashed setAddHashedIn
 refine qC_ (qa_ (qs_ ho rfl (eX _ _ _) ?_))
 dsimp only
 rw[byScan_of (x:=.bool b) rfl lt (elB (prog:=prog) (w:=w)),if_pos rfl]
 unfold setAddByScan
 refine qa_ (qa_ (wpAny_rule ?_))
 refine qa_ (wpAny_setScan_of hk ho rfl (eX _ _ _) elB ?_)
 cases hr:(esB f t).toList.findIdx? (λe=>(kI prog w).is b e.2) with
 |some j=>
  dsimp only
  have hin:b∈usB f t:=Classical.byContradiction λz=>by rw[findB.mpr z]at hr;cases hr
  refine qb_ (qb_ ?_)
  have e:s={s with heap:=s.heap}:=by cases s;rfl
  rw[e]
  refine h false s.heap (Heap.SameBut.refl a s.heap) ?_
  rw[(inB hin).1,(inB hin).2]
  exact S
 |none=>
  dsimp only
  have hout:=findB.mp hr
  rw[show(kI prog w).hash b=iF b from rfl,zK4 _ _ _ _ hout]
  dsimp only
  refine qa_ (qb_ ?_)
  rw[if_pos (show(bV (!byT w) (f || !b) (t || b)).plain=true from rfl)]
  refine qa_ ?_
  rw[show hashByValue 8 (.bool b)=pure true from rfl]
  refine qb_ ?_
  rw[if_pos rfl]
  refine qa_ (wpAny_storeSet_of ho rfl ?_ (by rw[lW];have:=iI (f || !b) (t || b);exact qi_ this (by decide)))
  rw[zKh]
  have o1:=qU_ (Obj.putSet (esB (f || !b) (t || b)) (bV (!byT w) (f || !b) (t || b))) ho rfl
  exact qb_ (qb_ (h true _ (Heap.SameBut.update s.heap a _) ⟨ep+1,o1⟩))
end
end L2
namespace L2
open PySem PySem.Spec PyProof.Rows
def inF(bs:List Bool):Bool:=bs.any (!·)
def inT(bs:List Bool):Bool:=bs.any id
theorem zGa(bs:List Bool)(b:Bool):inF (bs++[b])=(inF bs || !b):=by simp[inF]
theorem zF9(bs:List Bool)(b:Bool):inT (bs++[b])=(inT bs || b):=by simp[inT]
section
variable{prog:Program}{w:World}{A:Around}{R:Result->Shared->Prop}{I:Addr}{fp wr:List Addr}{G:Array GenState->Array GenState->Prop}{n:Nat}{P:Nat->Value->Prop}{St:Nat->Shared->Prop}
theorem zAW(W:WalksS prog w A.in1 I fp wr G n P St)(S:Addr)(hf:S∉fp)(bs:List Bool)(hn:n=bs.length)(hv:∀i v,P i v->∃b,bs[i]?=some b/\v=.bool b):
  ∀(k i:Nat) (s:Shared),n-i=k->i<=n->St i s->SetBl w S (inF (bs.take i)) (inT (bs.take i)) s.heap ->
   (∀s',Moved (S::wr) G s s'->SetBl w S (inF bs) (inT bs) s'.heap->R (.ok (.ret .none)) s')->codeAny (model prog w) A (.builtin "set.update.loop" ⟨[.ref S,.ref I],[]⟩) R s:=by
 have nw:S∉wr:=λz=>hf (W.sub _ z)
 have sub:∀b∈wr,b∈S::wr:=λb z=>qb1_ _ z
 intro k
 induction k with
 |zero=>
  intro i s hk hi st hS hR
  have e:i=n:=by omega
  subst e
  rw[hn,qd1_]at hS
  refine qY_ F.entry_set_update_loop ?_
  rw[qh1_ F.plain_set_update_loop _]
  show wpAny _ A.in1 (pyNext (.ref I) >>= _) _ _ s
  refine qa_ (W.done s _ _ st λs' hm=>?_)
  show wpAny _ A.in1 (ret Value.none) _ _ s'
  exact qb_ (hR s' (hm.mono sub) (hS.kept λo q=>hm.heap S _ nw q))
 |succ k ih=>
  intro i s hk hi st hS hR
  have lt:i<n:=by omega
  refine qY_ F.entry_set_update_loop ?_
  rw[qh1_ F.plain_set_update_loop _]
  show wpAny _ A.in1 (pyNext (.ref I) >>= _) _ _ s
  refine qa_ (W.item i s _ _ lt st λv s' hP st' hm=>?_)
  obtain⟨b,hb,rfl⟩:=hv i v hP
  have hS':SetBl w S (inF (bs.take i)) (inT (bs.take i)) s'.heap:=hS.kept λo q=>hm.heap S _ nw q
  show wpAny _ A.in1 (holding [Value.bool b] (setAdd S (.bool b)) >>= _) _ _ s'
  refine qa_ (qC_ ?_)
  unfold setAdd
  refine qC_ (qa_ ((kI prog w).pyHash (k:=b) (by show dX b (.bool b)=true;simp[dX]) ?_))
  refine zBf (s:={s' with toks:=s'.toks+1}) hS' λr h' sb S2=>?_
  have et:bs.take (i+1)=bs.take i++[b]:=by
   obtain⟨hi',rfl⟩:=qw_.mp hb
   exact qR2_ hi'
  rw[<-zGa,<-zF9,<-et]at S2
  refine qb_ ⟨plainId_quiet F.plain_set_update_loop _,ih (i+1) _ (by omega) lt (W.frame _ s' _ _ st' (qp1_ _) λc hc o e=>?_) S2 λs'' hm'' S3=>?_⟩
  ·rw[sb.2 c (λz:c=S=>hf (by rw[<-z];exact hc))];exact e
  ·refine hR s'' (Moved.trans W.gtrans ((hm.mono sub).then_heap (qp1_ _) λc o hc e=>?_) hm'') S3
   rw[sb.2 c (λz:c=S=>hc (by rw[z];exact qi1_))];exact e
end
theorem zCx{vs:List Value}{bs:List Bool}(h:vs=bs.map Value.bool)(i:Nat)(v:Value)(e:vs[i]?=some v):∃b,bs[i]?=some b/\v=.bool b:=by
 subst h
 rw[qv_]at e
 obtain⟨b,hb,rfl⟩:=qg1_.mp e
 exact⟨b,hb,rfl⟩
section
variable{prog:Program}{w:World}{A:Around}{E:Value->Shared->Prop}{s:Shared}
theorem zDE{l:Addr}{items:Array Value}{bs:List Bool}{Q:Value->Shared->Prop}(hh:A.handled=none)(hl:s.heap.IsList l items)(hi:items.toList=bs.map Value.bool)
  (h:∀(h':Heap) (tk:Nat),SetBl w s.heap.objs.size (inF bs) (inT bs) h'->(∀b o,b<s.heap.objs.size->s.heap.get? b=some o->h'.get? b=some o)->Q (.ref s.heap.objs.size) {s with heap:=h',toks:=tk}):
  wpAny (model prog w) A (call (.type "set") [.ref l]) Q E s:=by
 have hz:items.size=bs.length:=by have:=congrArg List.length hi;simpa using this
 obtain⟨c,tl,hmro⟩:=F.called_set.mro
 have hmade:=F.called_set.made
 have hsub:=F.called_set.sub
 refine wpAny_call (codeAny_of_tree ?_)
 show wpAny _ _ (callAny (.type "set") _) _ _ _
 refine qb_ ⟨Code.quiet_builtin _ (by decide +kernel),qY_ F.entry_type_call ?_⟩
 rw[Around.under_plain (weight_type_call_type "set" [.ref l] []) rfl]
 have h1:=F.called_set.notType
 have h2:=F.called_set.canCreate
 have hct:=F.typeCall_set_1 (.ref l)
 repeat (any_goals (first|assumption|wp_step))
 refine codeAny_mono (tM (.ref l) (E:=E) (Q₁:=λobj s₁=>obj=.ref s.heap.objs.size/\s₁={s with heap:=s.heap.push (bK #[] 0 (.fresh 0 0 (!byT w)))}) ⟨rfl,rfl⟩) λr s₁ hr=>?_
 cases r with
 |error e=>exact hr
 |ok fl=>
  cases fl with
  |ret obj=>
   obtain⟨rfl,rfl⟩:=hr
   have hS:(s.heap.push (bK #[] 0 (.fresh 0 0 (!byT w)))).get? s.heap.objs.size=some (bK #[] 0 (.fresh 0 0 (!byT w))):=qj_ _ rfl
   have hT:Shared.TypeIs {s with heap:=s.heap.push (bK #[] 0 (.fresh 0 0 (!byT w)))} (.ref s.heap.objs.size) "set":=⟨_,hS,rfl⟩
   have hli:=F.called_set.init.lookup
   have hbi:=F.called_set.init.bind (.ref s.heap.objs.size)
   repeat (any_goals (first|assumption|wp_step))
   refine codeAny_mono (codeAny_call_builtin (R:=wants (λr s₂=>r=.none/\∃h' tk,s₂={s with heap:=h',toks:=tk}/\SetBl w s.heap.objs.size (inF bs) (inT bs) h' /\
     (∀b o,b<s.heap.objs.size->s.heap.get? b=some o->h'.get? b=some o)) E) F.called_set.init.plain F.entry_set_init (check_set_init_1 hT ?_)) λr₂ s₂ hr₂=>?_
   ·obtain⟨ol,hol,hcl,nl,hdl⟩:=hl
    obtain⟨ocls,odict,odata,oslots⟩:=ol
    simp only at hcl hdl
    subst hcl hdl
    have hol':(s.heap.push (bK #[] 0 (.fresh 0 0 (!byT w)))).get? l=some {cls:=.type "list",dict:=odict,data:=.seq items nl,slots:=oslots}:=qd_ _ hol
    have hsls:=F.sub_list_set
    have hslf:=F.sub_list_frozenset
    have hne:(Value.type "list"==Value.type "dict")=false:=by decide
    have hl1:(s.heap.push (bK #[] 0 (.fresh 0 0 (!byT w)))).IsList l items:=⟨_,hol',rfl,nl,rfl⟩
    unfold Builtin.«set.__init__» noKeywords Builtin.Frozenset.updateFrom
    generalize hPI:pyIter=PI
    wp_walk
    subst hPI
    refine wpAny_pyIter_list hl1 ?_
    refine qa_ (wpAny_runValue ?_)
    have hlS:l<s.heap.objs.size:=qf_ hol
    have hh3:A.in1.in1.in1.handled=none:=by simp[hh]
    have neI:l≠(s.heap.push (bK #[] 0 (.fresh 0 0 (!byT w)))).objs.size:=by
     rw[qx_]
     exact qm_ (qk1_ hlS)
    have nf:s.heap.objs.size∉[(s.heap.push (bK #[] 0 (.fresh 0 0 (!byT w)))).objs.size,l]:=by
     rw[qx_]
     simp only[List.mem_cons,List.not_mem_nil,or_false,not_or]
     exact⟨qm_ (qk2_ _),qE_ hlS⟩
    refine zAW ((Walks.list hh3 _ l neI items).toS) s.heap.objs.size nf bs hz (λi v hv=>zCx hi i v (by rw[qr_];exact hv)) (items.size-0) 0 _ (by omega) (qu_ _)
     ⟨⟨_,qj_ _ rfl,rfl,rfl⟩,hl1.push _⟩ ?_ λs' hm S'=>?_
    ·exact⟨0,qd_ _ hS⟩
    ·obtain⟨h',g',d',tk',os'⟩:=s'
     have eg:g'=s.gens:=hm.gens
     have ed:d'=s.drawn:=hm.drawn
     have eo:os'=s.os:=hm.os
     subst eg ed eo
     show wpAny _ _ _ _ _ _
     refine qb_ ?_
     show wpAny _ _ (ret Value.none) _ _ _
     refine qb_ ⟨rfl,h',tk',rfl,S',λb o hb e=>?_⟩
     have hb2:b≠(s.heap.push (bK #[] 0 (.fresh 0 0 (!byT w)))).objs.size:=by
      rw[qx_]
      exact qm_ (qk1_ hb)
     exact hm.heap b o (by simp only[List.mem_cons,List.not_mem_nil,or_false,not_or];exact⟨qm_ hb,hb2⟩) (qd_ _ (qd_ _ e))
   ·cases r₂ with
    |error e=>exact hr₂
    |ok fl₂=>
     cases fl₂ with
     |ret r=>
      obtain⟨rfl,h',tk,rfl,S',hk'⟩:=hr₂
      repeat (any_goals (first|assumption|wp_step))
      exact h _ _ S' hk'
     |_=>exact hr₂.elim
  |_=>exact hr.elim
end
end L2
namespace L2
open PySem PySem.Spec PyProof.Rows
def zKq(P:Nat->Value->Prop)(us:List Bool):Prop:=∀acc:Array Value,ItemsOf P acc us.length->∃bs:List Bool,acc.toList=bs.map Value.bool/\bs.Perm us
theorem yZ{vs:List Value}{us:List Bool}(h:vs.Perm (us.map Value.bool)):∃bs:List Bool,vs=bs.map Value.bool/\bs.Perm us:=by
 let g:Value->Bool:=λv=>match v with|.bool b=>b|_=>false
 refine⟨vs.map g,?_,?_⟩
 ·rw[qA_]
  conv=>lhs;rw[<-List.map_id vs]
  refine qx2_ λv hv=>?_
  obtain⟨b,_,rfl⟩:=qg_.mp (h.mem_iff.mp hv)
  rfl
 ·have:=h.map g
  rw[qA_]at this
  have e:us.map (g∘Value.bool)=us:=by
   conv=>rhs;rw[<-List.map_id us]
   exact qx2_ λb _=>rfl
  rwa[e]at this
section
variable{prog:Program}{w:World}{A:Around}{E:Value->Shared->Prop}{s:Shared}{it a:Addr}{es:Array (Int×Value)}{ep:Nat}{t:SetTable}
theorem zHM(hh:A.handled=none)(hb:byT w=true)(fit:t.fits es.size=true)(it a:Addr)(ne:it≠a):
  WalksS prog w A it [it,a] [it] Eq es.size (λi v=>(pickOrder (w.params.setOrder a ep) es)[i]?.map (·.2)=some v)
   (λi s=>s.heap.get? it=some (itO (.int 0 0) i a es.size ep)/\s.heap.get? a=some (bK es ep t)) where
 sub:=λb hb=>by simp at hb;simp[hb]
 grefl:=λ_=>rfl
 gtrans:=λ_ _ _ x y=>x.trans y
 frame:=λi s h' tk st _ k=>⟨k it (by simp) _ st.1,k a (by simp) _ st.2⟩
 item:=λi s Q E hi st hQ=>by
  refine gX st.1 rfl (jJ (slot:=0) st.1 st.2 fit rfl ?_)
  have sz:(pickOrder (w.params.setOrder a ep) es).size=es.size:=by have:=(jK (w.params.setOrder a ep) es).length_eq;simpa using this
  unfold setNext
  refine qa_ (qs_ st.2 rfl fit ?_)
  dsimp only
  refine qa_ (dS ?_)
  rw[if_pos hb]
  simp only[bne_self_eq_false,Bool.false_eq_true,if_false]
  unfold setWalk
  refine qa_ (qa_ (qs_ st.2 rfl fit ?_))
  dsimp only
  refine qa_ (dS ?_)
  rw[if_pos hb]
  refine qa_ (wpAny_askSetting (qb_ ?_))
  refine qb_ ?_
  have hlt:i<(pickOrder (w.params.setOrder a ep) es).size:=by rw[sz];exact hi
  show wpAny _ _ (match Option.map (λe=>(e.2,0)) (pickOrder (w.params.setOrder a ep) es)[i]? with
   |some (x,next)=>do
    setField (.ref it) 0 (rawInt (next:Nat))
    setField (.ref it) 1 (rawInt (i+1))
    ret x
   |none=>do setField (.ref it) 2 .none;raiseNew (<- newExc (.type "StopIteration") [])) _ _ _
  rw[qP_ hlt]
  dsimp only[Option.map_some]
  refine qa_ (qX_ st.1 (by simp) λh1 g1 b1=>?_)
  refine qa_ (qX_ g1 (by simp) λh2 g2 b2=>?_)
  refine qb_ ⟨_,rfl,hQ _ _ (by rw[qP_ hlt];rfl) ⟨?_,?_⟩ ⟨?_,rfl,rfl,rfl,qe_ _⟩⟩
  ·rw[g2];rfl
  ·rw[b2.2 a ne.symm,b1.2 a ne.symm];exact st.2
  ·intro b o hb e
   have hb':b≠it:=by simpa using hb
   rw[b2.2 b hb',b1.2 b hb'];exact e
 done:=λs Q E st hQ=>by
  refine gX st.1 rfl (jJ (slot:=0) st.1 st.2 fit rfl ?_)
  have sz:(pickOrder (w.params.setOrder a ep) es).size=es.size:=by have:=(jK (w.params.setOrder a ep) es).length_eq;simpa using this
  unfold setNext
  refine qa_ (qs_ st.2 rfl fit ?_)
  dsimp only
  refine qa_ (dS ?_)
  rw[if_pos hb]
  simp only[bne_self_eq_false,Bool.false_eq_true,if_false]
  unfold setWalk
  refine qa_ (qa_ (qs_ st.2 rfl fit ?_))
  dsimp only
  refine qa_ (dS ?_)
  rw[if_pos hb]
  refine qa_ (wpAny_askSetting (qb_ ?_))
  refine qb_ ?_
  show wpAny _ _ (match Option.map (λe=>(e.2,0)) (pickOrder (w.params.setOrder a ep) es)[es.size]? with
   |some (x,next)=>do
    setField (.ref it) 0 (rawInt (next:Nat))
    setField (.ref it) 1 (rawInt ((es.size:Int)+1))
    ret x
   |none=>do setField (.ref it) 2 .none;raiseNew (<- newExc (.type "StopIteration") [])) _ _ _
  rw[qi2_ (show(pickOrder (w.params.setOrder a ep) es).size<=es.size by rw[sz];exact qe_ _)]
  dsimp only[Option.map_none]
  refine mX hh st.1 rfl (by simp) λe h' kp ty=>⟨ty,hQ _ ⟨λb o hb q=>kp b o (by simpa using hb) q,rfl,rfl,rfl,qe_ _⟩⟩
 self:=λi s Q E st hQ=>by
  have ht:s.TypeIs (.ref it) "set_iterator":=⟨_,st.1,rfl⟩
  refine wpAny_pyIter_slot ht gY (qJ_ gY ht nP ?_ (nQ _))
  show wpAny _ _ (ret (.ref it)) _ _ s
  exact qb_ ⟨_,rfl,"set_iterator",_,ht,st_next.lookup,hQ⟩
end
section
variable{prog:Program}{w:World}{A:Around}{E:Value->Shared->Prop}{s:Shared}{it a:Addr}{ep:Nat}{f t:Bool}
theorem yN{slot i:Nat}{Q:Option (Value×Nat)->Shared->Prop}(hb:byT w=false)(ho:s.heap.get? a=some (bK (esB f t) ep (bV (!byT w) f t)))
  (h:Q (match (esB f t)[SetTable.below (bV true f t).place slot]?,(bV true f t).place[SetTable.below (bV true f t).place slot]? with
  |some (_,x),some j=>some (x,j+1)
  |_,_=>none) s):wpAny (model prog w) A (setNext a slot i ep) Q E s:=by
 unfold setNext
 refine qa_ (qs_ ho rfl (eX _ _ _) ?_)
 dsimp only
 refine qa_ (dS ?_)
 rw[hb]
 simp only[Bool.false_eq_true,if_false,Bool.not_false]
 show wpAny _ _ (if (!(bV true f t).plain&&decide ((esB f t).size > 1))=true then _ else(do
  (if (!(bV true f t).led&&!(esB f t).isEmpty)=true then unsupported "set:maker-not-led" else pure ():Sem Unit)
  pure (match (esB f t)[SetTable.below (bV true f t).place slot]?,(bV true f t).place[SetTable.below (bV true f t).place slot]? with
   |some (_,x),some j=>some (x,j+1)
   |_,_=>none))) _ _ _
 rw[if_neg (by rw[show(bV true f t).plain=true from rfl];simp)]
 refine qa_ ?_
 rw[if_neg (by rw[show(bV true f t).led=true from rfl];simp)]
 exact qb_ (qb_ h)
def iZ(f t:Bool)(i:Nat):Nat:=if i=0 then 0 else((usB f t)[i-1]?.map λb=>(if b then 1 else 0)+1).getD 0
theorem zJ7{f t:Bool}{i:Nat}(hi:i<(usB f t).length):∃b,(usB f t)[i]?=some b/\(match (esB f t)[SetTable.below (bV true f t).place (iZ f t i)]?,(bV true f t).place[SetTable.below (bV true f t).place (iZ f t i)]? with
  |some (_,x),some j=>some (x,j+1)
  |_,_=>none)=some (Value.bool b,iZ f t (i+1)):=by
 have h2:=iI f t
 have:i=0\/i=1:=by omega
 rcases this with e|e<;>subst e<;>cases f<;>cases t<;>first|exact⟨_,rfl,rfl⟩|exact absurd hi (by decide)
theorem zKc{f t:Bool}:(match (esB f t)[SetTable.below (bV true f t).place (iZ f t (usB f t).length)]?,(bV true f t).place[SetTable.below (bV true f t).place (iZ f t (usB f t).length)]? with
  |some (_,x),some j=>some (x,j+1)
  |_,_=>none)=(none:Option (Value×Nat)):=by cases f<;>cases t<;>rfl
theorem zHL(hh:A.handled=none)(hb:byT w=false)(it a:Addr)(ne:it≠a):
  WalksS prog w A it [it,a] [it] Eq (usB f t).length (λi v=>(usB f t)[i]?.map Value.bool=some v)
   (λi s=>s.heap.get? it=some (itO (.int ((iZ f t i:Nat):Int) 0) i a (usB f t).length ep)/\s.heap.get? a=some (bK (esB f t) ep (bV (!byT w) f t))) where
 sub:=λb hb=>by simp at hb;simp[hb]
 grefl:=λ_=>rfl
 gtrans:=λ_ _ _ x y=>x.trans y
 frame:=λi s h' tk st _ k=>⟨k it (by simp) _ st.1,k a (by simp) _ st.2⟩
 item:=λi s Q E hi st hQ=>by
  obtain⟨b,e1,e2⟩:=zJ7 hi
  refine gX st.1 rfl (jJ (slot:=iZ f t i) st.1 st.2 (eX _ _ _) (lW f t) ?_)
  refine yN hb st.2 ?_
  rw[e2]
  show wpAny _ _ (do
    setField (.ref it) 0 (rawInt ((iZ f t (i+1):Nat):Int))
    setField (.ref it) 1 (rawInt ((i:Nat)+1:Int))
    ret (Value.bool b)) _ _ _
  refine qa_ (qX_ st.1 (by simp) λh1 g1 b1=>?_)
  refine qa_ (qX_ g1 (by simp) λh2 g2 b2=>?_)
  refine qb_ ⟨_,rfl,hQ _ _ (by rw[e1];rfl) ⟨?_,?_⟩ ⟨?_,rfl,rfl,rfl,qe_ _⟩⟩
  ·rw[g2];rfl
  ·rw[b2.2 a ne.symm,b1.2 a ne.symm];exact st.2
  ·intro b o hb e
   have hb':b≠it:=by simpa using hb
   rw[b2.2 b hb',b1.2 b hb'];exact e
 done:=λs Q E st hQ=>by
  refine gX st.1 rfl (jJ (slot:=iZ f t (usB f t).length) st.1 st.2 (eX _ _ _) (lW f t) ?_)
  refine yN hb st.2 ?_
  rw[zKc]
  dsimp only
  exact mX hh st.1 rfl (by simp) λe h' kp ty=>⟨ty,hQ _ ⟨λb o hb q=>kp b o (by simpa using hb) q,rfl,rfl,rfl,qe_ _⟩⟩
 self:=λi s Q E st hQ=>by
  have ht:s.TypeIs (.ref it) "set_iterator":=⟨_,st.1,rfl⟩
  refine wpAny_pyIter_slot ht gY (qJ_ gY ht nP ?_ (nQ _))
  show wpAny _ _ (ret (.ref it)) _ _ s
  exact qb_ ⟨_,rfl,"set_iterator",_,ht,st_next.lookup,hQ⟩
end
section
variable{prog:Program}{w:World}{A:Around}{E:Value->Shared->Prop}{s:Shared}{a:Addr}{f t:Bool}
theorem zFp{Q:Value->Shared->Prop}(S:SetBl w a f t s.heap)
  (h:∀(it:Addr) (fp:List Addr) (P:Nat->Value->Prop) (St:Nat->Shared->Prop) (h':Heap) (d:Drawn),(∀A':Around,A'.handled=none->∃n,n=(usB f t).length/\WalksS prog w A' it fp [it] Eq n P St)->St 0 {s with heap:=h',drawn:=d}->zKq P (usB f t) ->
   (∀b∈fp,b=a\/s.heap.objs.size<=b)->s.heap.objs.size<=it->(∀b o,s.heap.get? b=some o->h'.get? b=some o)->Q (.ref it) {s with heap:=h',drawn:=d}):
  wpAny (model prog w) A (pyIter (.ref a)) Q E s:=by
 obtain⟨ep,ho⟩:=id S
 have alt:a<s.heap.objs.size:=qf_ ho
 have ht:s.TypeIs (.ref a) "set":=⟨_,ho,rfl⟩
 have fit:=eX (!byT w) f t
 have sz:=lW f t
 refine wpAny_pyIter_slot ht qN (qJ_ qN ht zBZ ?_ (zB3 _))
 unfold Builtin.«frozenset.__iter__» Builtin.Frozenset.slot0
 refine qa_ (qa_ (m:=slotArgs "__iter__" 0 ⟨[.ref a],[]⟩) (qb_ ?_))
 show wpAny _ _ (pure a) _ _ s
 refine qb_ ?_
 unfold Builtin.Frozenset.sizeOf
 refine qa_ (qa_ (mS ho fit (qb_ ?_)))
 unfold setDrawn
 refine qa_ (qa_ (qs_ ho rfl fit ?_))
 dsimp only
 refine qa_ (dS (qb_ ?_))
 show wpAny _ _ (if (!byT w&&(!(bV (!byT w) f t).plain&&decide ((esB f t).size > 1)))=true then _ else _) _ _ s
 have fin:∀(first:Value) (h1:Heap) (d:Drawn) (St:Nat->Shared->Prop),(∀b o,s.heap.get? b=some o->h1.get? b=some o)->s.heap.objs.size<=h1.objs.size ->
   (∀s2:Shared,s2.heap.get? h1.objs.size=some (itO first 0 a (esB f t).size ep)->(∀b o,h1.get? b=some o->s2.heap.get? b=some o) ->
    Q (.ref h1.objs.size) {s with heap:=h1.push (itO first 0 a (esB f t).size ep),drawn:=d})->wpAny (model prog w) A.in1 (do
   ret (<- newFields "set_iterator" [first,rawInt 0,.ref a,rawInt (esB f t).size,rawInt (<- setEpoch a)])) (λfin s'=>∃v,fin=.done (.ret v)/\∃T' r,s'.TypeIs v T'/\typeLookup (.type T') "__next__"=pure (some r)/\Q v s') E {s with heap:=h1,drawn:=d}:=by
  intro first h1 d St k le q
  refine qa_ (wpAny_setEpoch_of (k a _ ho) rfl fit ?_)
  refine qa_ (qR_ ?_ (by size_fits))
  exact qb_ ⟨_,rfl,"set_iterator",_,⟨_,qj_ _ rfl,rfl⟩,st_next.lookup,q {s with heap:=h1.push (itO first 0 a (esB f t).size ep)} (qj_ _ rfl) λb o e=>qd_ _ e⟩
 rw[if_neg (by rw[show(bV (!byT w) f t).plain=true from rfl];simp)]
 refine qa_ (qb_ ?_)
 have nea:s.heap.objs.size≠a:=qE_ alt
 refine fin (.int 0 0) s.heap s.drawn (λ_ _=>True) (λ_ _ e=>e) (qe_ _) λs2 g k=>?_
 have mem:∀b∈[s.heap.objs.size,a],b=a\/s.heap.objs.size<=b:=λb m=>by
  simp only[List.mem_cons,List.not_mem_nil,or_false]at m
  rcases m with m|m
  ·exact .inr (by rw[m];exact qe_ _)
  ·exact .inl m
 cases hb:byT w with
 |true=>
  have hp:=jK (w.params.setOrder a ep) (esB f t)
  refine h s.heap.objs.size [s.heap.objs.size,a] _ _ _ _ (λA' hA=>⟨(esB f t).size,sz,zHM (ep:=ep) hA hb fit _ a nea⟩) ⟨qj_ _ rfl,qd_ _ ho⟩ ?_ mem (qe_ _) λb o e=>qd_ _ e
  intro acc ⟨h1,h2⟩
  have e:acc.toList=(pickOrder (w.params.setOrder a ep) (esB f t)).toList.map (·.2):=by
   have lp:(pickOrder (w.params.setOrder a ep) (esB f t)).toList.length=(usB f t).length:=by rw[hp.length_eq,qt_,sz]
   apply qK2_
   intro i
   by_cases hi:i<acc.size
   ·rw[qv_,qr_,qr_]
    have:=h2 i acc[i] (qP_ hi)
    rw[this,qP_ hi]
   ·rw[qr_,qi2_ (by omega),qT1_ (by rw[qc_,lp];omega)]
  have pm:acc.toList.Perm ((usB f t).map Value.bool):=by
   rw[e]
   have:=hp.map (·.2)
   have q:(esB f t).toList.map (·.2)=(usB f t).map Value.bool:=by simp[esB,Function.comp_def]
   rwa[q]at this
  exact yZ pm
 |false=>
  refine h s.heap.objs.size [s.heap.objs.size,a] _ _ _ _ (λA' hA=>⟨(usB f t).length,rfl,zHL (ep:=ep) (f:=f) (t:=t) hA hb _ a nea⟩) ⟨?_,qd_ _ ho⟩ ?_ mem (qe_ _) λb o e=>qd_ _ e
  ·rw[<-sz];exact qj_ _ rfl
  intro acc ⟨h1,h2⟩
  refine⟨usB f t,?_,.refl _⟩
  apply qK2_
  intro i
  by_cases hi:i<acc.size
  ·have:=h2 i acc[i] (qP_ hi)
   rw[qr_,qP_ hi,<-this]
   rw[qv_]
  ·rw[qr_,qi2_ (by omega),qT1_ (by rw[qc_];omega)]
theorem zDH{Q:List Value->Shared->Prop}(hh:A.handled=none)(S:SetBl w a f t s.heap)
  (hQ:∀h' d tk (acc:List Value) (bs:List Bool),acc=bs.map Value.bool->bs.Perm (usB f t)->s.heap.objs.size<h'.objs.size->(∀b o,s.heap.get? b=some o->h'.get? b=some o)->Q acc {s with heap:=h',drawn:=d,toks:=tk}):
  wpAny (model prog w) A (collect (.ref a)) Q E s:=by
 have hl:(usB f t).length<=sizeLine:=qi_ (iI f t) (by decide)
 have alt:a<s.heap.objs.size:=by
  obtain⟨ep,ho⟩:=id S
  exact qf_ ho
 unfold collect
 refine qa_ (wpAny_runValue (qY_ F.entry_proto_collect ?_))
 rw[qh1_ F.plain_proto_collect _]
 show wpAny _ A.in1 (newList [] >>= λl=>again (.builtin "list.__iadd__" ⟨[l,.ref a],[]⟩)) _ _ s
 refine qa_ (qR_ ?_ (by size_fits))
 refine qb_ ⟨plainId_quiet F.plain_list_iadd _,qY_ F.entry_list_iadd ?_⟩
 rw[qh1_ F.plain_list_iadd _]
 show wpAny _ A.in1 (Builtin.List.listExtendWith (.ref s.heap.objs.size) (.ref a) (.ref s.heap.objs.size)) _ _ _
 unfold Builtin.List.listExtendWith
 have S1:SetBl w a f t (s.heap.push {cls:=.type "list",data:=.seq ([]:List Value).toArray}):=S.kept λo e=>qd_ _ e
 have ht:Shared.TypeIs {s with heap:=s.heap.push {cls:=.type "list",data:=.seq ([]:List Value).toArray}} (.ref a) "set":=by
  obtain⟨ep,ho⟩:=id S1
  exact⟨_,ho,rfl⟩
 refine qa_ (wpAny_typeOf ht ?_)
 have h1:Builtin.List.listSameRef (.ref s.heap.objs.size) (.ref a)=false:=by simp[Builtin.List.listSameRef];exact qE_ alt
 have h2:(Value.type "set"==Value.type "list")=false:=by decide
 have h3:(Value.type "set"==Value.type "tuple")=false:=by decide
 simp only[h1,h2,h3,Bool.or_false,Bool.false_eq_true,if_false]
 refine qa_ (zFp S1 λit fp P St h' d W st0 td hfp hit kp=>?_)
 have ht':Shared.TypeIs {s with heap:=h',drawn:=d} (.ref a) "set":=by
  obtain⟨o,e,c⟩:=ht
  exact⟨o,kp _ _ e,c⟩
 refine qa_ (qC_ (zBe ht' ?_))
 have hA:A.in1.in1.handled=none:=by simp[hh]
 obtain⟨n,hn,W⟩:=W A.in1 (by simp[hh])
 subst hn
 refine wpAny_ite ?_
 rw[if_pos (by decide +kernel)]
 refine qa_ (wpAny_rule ?_)
 have sz1:(s.heap.push {cls:=.type "list",data:=.seq ([]:List Value).toArray}).objs.size=s.heap.objs.size+1:=qx_ ..
 have g0:h'.get? s.heap.objs.size=some {cls:=.type "list",data:=.seq ([]:List Value).toArray}:=kp _ _ (qj_ _ rfl)
 have nf:s.heap.objs.size∉fp:=λm=>by
  rcases hfp _ m with z|z
  ·exact absurd z (qE_ alt)
  ·rw[sz1]at z;omega
 refine qa_ ?_
 show wpAny _ A.in1 (updateSeq s.heap.objs.size (·.push .none) >>= λ_=>updateSeq s.heap.objs.size (·.pop)) _ _ _
 refine qa_ (wpAny_updateSeq g0 rfl ?_)
 have g1:=qU_ (Obj.mapSeq (·.push Value.none)) g0 rfl
 refine wpAny_updateSeq g1 rfl ?_
 have g2:=qU_ (Obj.mapSeq (·.pop)) g1 rfl
 have oth:∀b o,b≠s.heap.objs.size->h'.get? b=some o->((h'.update s.heap.objs.size (Obj.mapSeq (·.push Value.none))).update s.heap.objs.size (Obj.mapSeq (·.pop))).get? b=some o:=
  λb o hb e=>(qJ1_ _ _ (Ne.symm hb)).trans ((qJ1_ _ _ (Ne.symm hb)).trans e)
 refine qb_ ⟨plainId_quiet F.plain_extend_loop _,codeAny_extend_loopS W hl _ nf _ (usB f t).length 0 _ _ _ rfl (qu_ _)
  (W.frame 0 {s with heap:=h',drawn:=d} _ s.toks st0 (qe_ _) λb hb o e=>oth b o (λz=>nf (z▸hb)) e) g2 (ItemsOf.nil P) λs' acc' c' hm g' hacc=>?_⟩
 show wpAny _ A (load s.heap.objs.size >>= _) _ _ s'
 refine qa_ (wpAny_load g' ?_)
 obtain⟨vs,hs,hp⟩:=td acc' hacc
 obtain⟨h'',g'',d'',tk'',os''⟩:=s'
 have e1:g''=s.gens:=hm.gens.symm
 have e2:os''=s.os:=hm.os
 subst e1 e2
 refine qb_ (hQ h'' d'' tk'' acc'.toList vs hs hp (qf_ g') λb o e=>hm.heap b o (λm=>?_) (oth b o (qm_ (qf_ e)) (kp b o (qd_ _ e))))
 have lt:=qf_ e
 simp only[List.mem_cons,List.not_mem_nil,or_false]at m
 rcases m with m|m
 ·rw[m]at lt;exact qf1_ _ lt
 ·rw[m]at lt;rw[sz1]at hit;exact absurd lt (qh2_.mpr (Nat.le_of_succ_le hit))
end
end L2
namespace L2
open PySem PySem.Spec PyProof.Rows
@[reducible] def sortB:PyProof.Rows.KeyKind where
 α:=Bool
 blt a b:=!a&&b
 irrefl a:=by cases a<;>rfl
 trans a b c h1 h2:=by cases a<;>cases b<;>cases c<;>simp_all
 negTrans a b c h:=by cases a<;>cases b<;>cases c<;>simp_all
 total a b h1 h2:=by cases a<;>cases b<;>simp_all
 keyOf v:=match v with|.bool b=>some b|_=>none
 dflt:=false
section
variable{prog:Program}{w:World}{A:Around}{E:Value->Shared->Prop}{s:Shared}
theorem zD6{a b:Bool}{Q:Bool->Shared->Prop}(h:Q (!a&&b) s):wpAny (model prog w) A (oneLt' true (.bool a) (.bool b)) Q E s:=by
 rw[oneLt'_eq]
 simp only[if_true]
 refine qa_ (wpAny_cRoomFor_byValue rfl ?_)
 refine qa_ (wpAny_callSpecialIfBound?_slot (typeIs_bool' s a) F.slot_bool_lt ?_)
 refine call_gives F.slot_bool_lt (typeIs_bool' s a) F.entry_int_lt (F.args_int_lt_2 _ _) (gives_int_lt_bools a b) ?_
 have e:decide (b2i a<b2i b)=(!a&&b):=by cases a<;>cases b<;>rfl
 show wpAny _ _ (truthOfDropped (.bool (decide (b2i a<b2i b)))) _ _ _
 rw[e]
 exact wpAny_truthy_bool h
end
theorem zDL:sortB.OneLt:=by
 intro prog w A E s x y a b Q ha hb h
 cases x<;>simp only[sortB,reduceCtorEq,Option.some.injEq]at ha
 cases y<;>simp only[sortB,reduceCtorEq,Option.some.injEq]at hb
 cases ha;cases hb
 exact zD6 h
theorem yD:∀(bs:List Bool),(bs.map Value.bool).mapM firstOfTuple'=pure ((bs.map Value.bool).map λ_=>none)
 |[]=>by simp
 |b::bs=>by rw[qF_,List.mapM_cons,show firstOfTuple' (.bool b)=pure none from rfl,yD bs];simp
theorem yF:∀(bs:List Bool),(bs.map Value.bool).mapM typeOf=pure ((bs.map Value.bool).map λ_=>Value.type "bool")
 |[]=>by simp
 |b::bs=>by
  rw[qF_,List.mapM_cons,yF bs]
  show(pure (Value.type "bool") >>= λb=>pure _ >>= λbs=>pure (b::bs))=_
  simp
theorem zDP{b c:Bool}{bs:List Bool}:keyKind' (((b::c::bs).map Value.bool).toArray)=pure oneType':=by
 rw[keyKind'_eq,List.mapM_toArray,yD]
 simp only[map_pure,pure_bind]
 rw[if_neg (by simp),if_neg (by simp)]
 rw[oneTypeOnly'_eq,List.mapM_toArray,yF]
 simp only[map_pure,pure_bind]
 have hall:((List.map (λ_=>Value.type "bool") ((b::c::bs).map Value.bool)).toArray.all λx=>x==Value.type "bool")=true:=by
  simp only[List.all_toArray,List.all_map,List.all_eq_true]
  intro _ _
  rfl
 have h0:(List.map (λ_=>Value.type "bool") ((b::c::bs).map Value.bool)).toArray[0]?=some (Value.type "bool"):=by simp
 rw[h0]
 simp only[hall,if_true,pure_bind,Option.isSome_some]
theorem zFR{f t:Bool}{bs:List Bool}(h:bs.Perm (usB f t))(s:∀i j:Nat,i<=j->∀a b,bs[i]?=some a->bs[j]?=some b->(!b&&a)=false):bs=usB f t:=by
 cases f<;>cases t
 ·exact List.perm_nil.mp h
 ·exact List.perm_singleton.mp h
 ·exact List.perm_singleton.mp h
 ·have l:bs.length=2:=h.length_eq
  match bs,l with
  |[a,b],_=>
   have:=s 0 1 (by decide) a b rfl rfl
   cases a<;>cases b
   ·exact absurd (h.mem_iff (a:=true)) (by simp[usB])
   ·rfl
   ·cases this
   ·exact absurd (h.mem_iff (a:=false)) (by simp[usB])
section
variable{prog:Program}{w:World}{A:Around}{E:Value->Shared->Prop}{s:Shared}{a:Addr}{f t:Bool}
theorem zDS{Q:Value->Shared->Prop}(hh:A.handled=none)(S:SetBl w a f t s.heap)
  (h:∀h' d tk (l:Addr) (e:Nat),h'.get? l=some (seqObj "list" ((usB f t).map Value.bool).toArray e)->s.heap.objs.size<=l->(∀b o,s.heap.get? b=some o->h'.get? b=some o) ->
   Q (.ref l) {s with heap:=h',drawn:=d,toks:=tk}):wpAny (model prog w) A (call (.builtin "sorted") [.ref a]) Q E s:=by
 refine Calls.call_function_entry kind_sorted plain_sorted entry_sorted (args_sorted1 _) ?_
 unfold Builtin.«sorted»
 refine qa_ (m:=checkCount "sorted" 1 1 _) (qb_ ?_)
 refine qa_ (zDH (by simp[hh]) S λh1 d tk acc bs hs hp le kp=>?_)
 subst hs
 have hlen:(bs.map Value.bool).length<64:=by rw[qc_,hp.length_eq];have:=iI f t;omega
 refine qa_ (wpAny_newList ?_ (qZ_ (qq1_ hlen (by decide))))
 have hoL:(h1.push (seqObj "list" (bs.map Value.bool).toArray 0)).get? h1.objs.size=some (seqObj "list" (bs.map Value.bool).toArray 0):=qj_ _ rfl
 have hko:KeysOf sortB (pairsOf (bs.map Value.bool)):=by
  intro p hp
  rw[pairsOf_toList]at hp
  obtain⟨b,_,e⟩:=qg_.mp (mem_zip_self hp).2
  exact⟨b,by rw[<-e]⟩
 refine qa_ (qC_ (qJ_ slot_list_sort ⟨_,hoL,rfl⟩ entry_list_sort (list_sort_treeK zDL hoL hko (λv₁ v₂ rest e=>?_) hlen λst' a1 a2=>⟨_,rfl,?_⟩) (args_list_sort _)))
 ·match bs,e with
  |b::c::bs,e=>rw[<-e];exact zDP
 have hl:(arrOf st').toList.Perm ((bs.map Value.bool).zip (bs.map Value.bool)):=by rw[<-pairsOf_toList];exact Array.perm_iff_toList_perm.mp a1
 have hmem:∀p,p∈(arrOf st').toList->p.1=p.2/\p.1∈bs.map Value.bool:=λp hp'=>mem_zip_self (hl.mem_iff.mp hp')
 have pm:((arrOf st').map (·.2)).toList.Perm ((usB f t).map Value.bool):=by
  rw[Array.toList_map]
  have:=hl.map (·.2)
  rw[List.map_snd_zip (qe_ _)]at this
  exact this.trans (hp.map _)
 obtain⟨cs,e1,e2⟩:=yZ pm
 have e3:cs=usB f t:=zFR e2 λi j hij x y hx hy=>by
  have kk:∀(i:Nat) (x:Bool),cs[i]?=some x->KK sortB (arrOf st') i=x/\i<(arrOf st').size:=λi x hx=>by
   have hv:((arrOf st').map (·.2)).toList[i]?=some (.bool x):=by rw[e1,qv_,hx];rfl
   rw[Array.toList_map,qv_]at hv
   obtain⟨p,hp1,hp2⟩:=qg1_.mp hv
   have hm:=hmem p (qz_ hp1)
   rw[qr_]at hp1
   refine⟨?_,(qo3_.mp hp1).1⟩
   unfold KK
   rw[hp1]
   show(sortB.keyOf p.1).getD false=x
   rw[hm.1,hp2]
   rfl
  have hi:=kk i x hx
  have hj:=kk j y hy
  have:=a2 i j hij (by rw[<-a1.size_eq];exact hj.2)
  rw[hi.1,hj.1]at this
  exact this
 subst e3
 obtain⟨e,he⟩:=sortedHeap_at (out:=(arrOf st').map (·.2)) hoL
 refine qb_ ⟨_,rfl,h _ _ _ _ e (by rw[<-e1,qz2_];exact he) (qZ_ le) λb o q=>?_⟩
 have lt:=qf_ (kp b o q)
 rw[sortedHeap_old (qm_ lt) (by rw[qx_];exact qk1_ lt)]
 exact qd_ _ (kp b o q)
end
end L2
namespace L2
open PySem PySem.Spec PyProof.Rows WordM
def eF(w:World)(a:Addr)(f t:Bool):HO:=.ext (SetBl w a f t)
section
variable{X:Cx}{F:Fm}
def zJL(w:World)(K:W.Frag):List V->Hp->VK->Prop:=λxs H Q=>∃(p:Addr) (bs:List Bool),xs=[.ref p]/\SqL K H p (bs.map V.bl)/\∀a:Addr,H a=none->Q (.ref a) (upd H a (eF w a (inF bs) (inT bs)))
theorem zCw{bs:List Bool}:∀{vs:List Value},Vals (bs.map V.bl) vs->vs=bs.map Value.bool:=by
 induction bs with
 |nil=>intro vs h;cases h;rfl
 |cons b bs ih=>
  intro vs h
  cases h with
  |cons r t=>
   rw[qF_,<-ih t]
   have:_=Value.bool b:=r
   rw[this]
theorem zFg(hc:X.calm=true):CallR X (.type "set") (zJL X.w X.K):=by
 intro pins s σ H xs us Q I r h
 obtain⟨p,bs,rfl,hq,q⟩:=h
 obtain⟨u,rfl,rx⟩:=cQ r
 cases rx
 obtain⟨its,rv,pl,hz'⟩:=I.list hq
 refine zDE (I.ok.hd hc) pl.isList (bs:=bs) (zCw rv) λh' tk S k=>?_
 refine⟨.ref s.heap.objs.size,_,I.laid (t':=tk) (o:=eF X.w s.heap.objs.size (inF bs) (inT bs)) (λb o e=>k b o (qf_ e) e) (qe_ _) ⟨S,?_,λh1 h2 z k'=>z.kept k'⟩,rfl,q _ I.fresh⟩
 obtain⟨ep,e⟩:=S
 exact⟨_,e⟩
def zGQ(w:World):List V->Hp->VK->Prop:=λxs H Q=>∃(a:Addr) (f t:Bool),xs=[.ref a]/\H a=some (eF w a f t)/\∀l:Addr,H l=none->Q (.ref l) (upd H l (.lst ((usB f t).map V.bl)))
theorem yV:∀(bs:List Bool),Vals (bs.map V.bl) (bs.map Value.bool)
 |[]=>.nil
 |b::bs=>.cons rfl (yV bs)
theorem yH(hc:X.calm=true):CallR X (.builtin "sorted") (zGQ X.w):=by
 intro pins s σ H xs us Q I r h
 obtain⟨a,f,t,rfl,hq,q⟩:=h
 obtain⟨u,rfl,rx⟩:=cQ r
 cases rx
 have S:SetBl X.w a f t s.heap:=(I.hok a _ hq).1
 refine zDS (I.ok.hd hc) S λh' d tk l e hl le k=>?_
 refine⟨.ref l,_,(I.laid (t':=tk) (o:=.lst ((usB f t).map V.bl)) k le ⟨?_,_,e,yV _,hl⟩).draw d,rfl,q l (I.hok.fresh le)⟩
 rw[qc_]
 exact qi_ (iI f t) (by decide)
variable{pos:Pos}
def zEq(u:UT):UTl:=λρ Q=>u ρ λT ρ1=>∃bs:List Bool,T=.seq false (bs.map bT)/\Q ((usB (inF bs) (inT bs)).map bT) ρ1
theorem zDJ{e:Expr}{u:UT}{p p' pos':Pos}(hc:X.calm=true)(hg:Gl X "sorted")(hm:X.mg "sorted"=none)(hg':Gl X "set")(hm':X.mg "set"=none)(he:UE X F e u)(hst:dO e=false:=by rfl)
  (hpl:(backTo pos (starEach [] X.env)).any (·.1)=false:=by rfl) (hpl':(backTo pos' (starEach [] X.env)).any (·.1)=false:=by rfl):
  UL X F (.Call (.Name "sorted" p) [.Call (.Name "set" p') [e] [] pos'] [] pos) (zEq u):=⟨PE.imp (iL (yH hc) hg hm boot_sorted (cT (gF (zFg hc) hg' hm' L2.boot_set (cT he.pe dD hst) (by decide) (by decide) (gU hst) hpl') dD rfl) (by decide) (by decide) rfl hpl) λσ H QQ ⟨ρ,Q,f,h,k⟩=>by
 refine⟨ρ,_,f,h,λx T H1 ρ1 s1 v1 q1=>?_⟩
 obtain⟨bs,rfl,q⟩:=q1
 obtain⟨a,ys,rfl,hs,z,p⟩:=v1.seqI
 rw[nF p]at hs
 refine⟨a,bs,rfl,cP hs,λb nb=>⟨b,_,_,rfl,aZ,λc nc=>?_⟩⟩
 have sm:=(bZ (o:=eF X.w b (inF bs) (inT bs)) nb).trans (bZ (o:=.lst ((usB (inF bs) (inT bs)).map V.bl)) nc)
 exact k _ _ _ _ _ (s1.trans (Stp.same s1.fr sm)) (s1.non ((bZ nb).free nc)) aZ (by rw[qc_];have:=iI (inF bs) (inT bs);omega) (vZ _) q⟩
def zIn:List V->Hp->VK->Prop:=λxs H Q=>∃(a:Addr) (ob:Obj) (kvs:List (Key×V)) (us:List Str),xs=[.ref a]/\FzD H a ob kvs/\kvs.map (·.1)=us.map Sum.inr/\∀l:Addr,H l=none->Q (.ref l) (upd H l (.lst (us.map V.str)))
theorem zEh(hc:X.calm=true):CallR X (.type "list") zIn:=by
 intro pins s σ H xs us Q I r h
 obtain⟨a,ob,kvs,uu,rfl,hz,hk,q⟩:=h
 obtain⟨u,rfl,rx⟩:=cQ r
 cases rx
 obtain⟨e,hs,hl,vs,es,ep,rr,dd,hd⟩:=jO I hz
 have hkv:vs.map (·.1)=uu.map Sum.inr:=by rw[<-qX rr];exact hk
 have hlen:vs.length=uu.length:=by have:=congrArg List.length hkv;simpa using this
 have lv:vs.length=kvs.length:=(kH rr).symm
 refine PySem.W.kdl_call (PySem.W.kdl_dict (knd:=bN X.prog X.w) (kvs:=vs) (ep:=ep) hs) (I.ok.hd hc) dd (by omega) λh' tk acc c k hl' ha=>?_
 refine⟨.ref _,_,I.laid (t':=tk) (o:=.lst (uu.map V.str)) k (qe_ _) ⟨by rw[qc_];omega,acc.toList,c,pH (yI hkv ha),by rw[qz2_];exact hl'⟩,rfl,q _ I.fresh⟩
def zIN:List Tv->(List Tv->Prop)->Prop:=λTs Q=>∃kts,Ts=[.dct kts]/\Q (kts.map λkt=>sT kt.1)
theorem zFK(hc:X.calm=true):nR X (.type "list") zIN:=⟨_,zEh hc,λxs Ts H Q QQ vx h k=>by
 obtain⟨kts,rfl,q⟩:=h
 obtain⟨x,rfl,v⟩:=dM vx
 obtain⟨a,kvs,rfl,⟨ob,hd⟩,nd,z,p⟩:=v.dctI
 refine⟨a,ob,kvs,kts.map (·.1),rfl,hd,qF p,λb n=>?_⟩
 have e:(kts.map λkt=>sT kt.1)=(kts.map (·.1)).map sT:=by rw[qA_];rfl
 rw[e]at q
 exact k b _ _ _ (bZ n) n aZ (by rw[qc_,qc_];omega) (lG _) q⟩
def oN(d v:Addr):HO:=.ext λh=>h.IsValuesView v d
def zJz(tl:TE):TE:=λσ H Q=>tl σ H λx H1=>∃a ob kvs,x=.ref a/\FzD H1 a ob kvs/\∀p,H1 p=none->Q (.ref p) (upd H1 p (oN a p))
theorem zG4{o:Expr}{tl:TE}{apos pos:Pos}(hl:PE X o tl)(hbase:attributeBase o "values" X.env (eval o X.env)=eval o X.env:=by rfl)(hline:(apos.endLine==pos.line)=true:=by rfl):
  PE X (.Call (.Attribute o "values" apos) [] [] pos) (zJz tl):=by
 intro pins s σ H Q I h
 refine wpAny_Call_method (T:="dict") (id:="dict.values") hbase rfl hline F.plainAttrs_dict F.slot_dict_values F.type_dict_values (thn (hl pins s σ H _ I h) λv s1 ⟨x,H1,I1,r1,q1⟩=>?_)
 obtain⟨a,ob,kvs,e,hz,q⟩:=q1
 subst e
 cases r1
 obtain⟨e,hs,hl,vs,es,ep,r,dd,hd⟩:=jO I1 hz
 have hm:=dd.dictOf
 refine⟨hm.typeIs,hm.mapOf.noDict,?_⟩
 show wpAny _ _ (callWith pos (.builtin "dict.values") [.ref a] [] []) _ _ s1
 refine method_meetsIn F.slot_dict_values F.entry_dict_values rfl (PySem.evalArgs_none ⟨rfl,hm.typeIs,F.args_dict_values_1 _,_,meets_dict_values (bN X.prog X.w) a hs,⟨vs,hm⟩,?_⟩)
 refine⟨.ref _,_,I1.laid (t':=s1.toks) (o:=oN a s1.heap.objs.size) (λb o e=>qd_ _ e) (qe_ _) ⟨⟨_,qj_ _ rfl,rfl,rfl⟩,⟨_,qj_ _ rfl⟩,?_⟩,rfl,q _ I1.fresh⟩
 rintro h1 h2 ⟨o,e,c⟩ k
 exact⟨o,k o e,c⟩
theorem zBk:∀{kvs:List (Key×V)}{vs:List (Key×Value)},KV kvs vs->Vals (kvs.map (·.2)) (vs.map (·.2))
 |[],_,.nil=>.nil
 |_::_,_,.cons r rs=>.cons r.2 (zBk rs)
def zIm:List V->Hp->VK->Prop:=λxs H Q=>∃(v a:Addr) (ob:Obj) (kvs:List (Key×V)),xs=[.ref v]/\H v=some (oN a v)/\FzD H a ob kvs/\∀l:Addr,H l=none->Q (.ref l) (upd H l (.lst (kvs.map (·.2))))
theorem zEg(hc:X.calm=true):CallR X (.type "list") zIm:=by
 intro pins s σ H xs us Q I r h
 obtain⟨v,a,ob,kvs,rfl,hv,hz,q⟩:=h
 obtain⟨u,rfl,rx⟩:=cQ r
 cases rx
 obtain⟨e,hs,hl,vs,es,ep,rr,dd,hd⟩:=jO I hz
 obtain⟨hvv,_⟩:=(show ObjOk X.prog X.w H s.heap v (oN a v) from I.hok v _ hv)
 have lv:vs.length=kvs.length:=(kH rr).symm
 refine PySem.W.kdl_call (PySem.W.kdl_values (knd:=bN X.prog X.w) (r:=v) (d:=a) (kvs:=vs) (ep:=ep)) (I.ok.hd hc) ⟨hvv,dd⟩ (by omega) λh' tk acc c k hl' ha=>?_
 have ev:acc.toList=vs.map (·.2):=PySem.W.kdl_vals_eq acc.toList (by rw[qt_];exact ha.1) λj v e=>ha.2 j v (by rw[<-qr_];exact e)
 refine⟨.ref _,_,I.laid (t':=tk) (o:=.lst (kvs.map (·.2))) k (qe_ _) ⟨by rw[qc_];omega,acc.toList,c,by rw[ev];exact zBk rr,by rw[qz2_];exact hl'⟩,rfl,q _ I.fresh⟩
theorem zFu{K:W.Frag}{H:Hp}{kvs:List (Key×V)}{kts:List (Str×Tv)}(p:VAk K H kvs kts):VAs K H (kvs.map (·.2)) (kts.map (·.2)):=by
 unfold VAk at p
 induction p with
 |nil=>exact .nil
 |cons r _ ih=>exact .cons r.2 ih
def zHZ(u:UT):UTl:=λρ Q=>u ρ λT ρ1=>∃kts,T=.dct kts/\Q (kts.map (·.2)) ρ1
theorem zFx{e:Expr}{u:UT}{p apos cpos:Pos}(hc:X.calm=true)(hg:Gl X "list")(hm:X.mg "list"=none)(he:UE X F e u)
  (hbase:attributeBase e "values" X.env (eval e X.env)=eval e X.env:=by rfl) (hline:(apos.endLine==cpos.line)=true:=by rfl) (hpl:(backTo pos (starEach [] X.env)).any (·.1)=false:=by rfl):
  UL X F (.Call (.Name "list" p) [.Call (.Attribute e "values" apos) [] [] cpos] [] pos) (zHZ u):=⟨PE.imp (gF (zEg hc) hg hm boot_list (cT (zG4 he.pe hbase hline) dD rfl) (by decide) (by decide) rfl hpl) λσ H QQ ⟨ρ,Q,f,h,k⟩=>by
 refine⟨ρ,_,f,h,λx T H1 ρ1 s1 v1 q1=>?_⟩
 obtain⟨kts,rfl,q⟩:=q1
 obtain⟨a,kvs,rfl,⟨ob,hd⟩,nd,z,p⟩:=v1.dctI
 refine⟨a,ob,kvs,rfl,hd,λb nb=>⟨b,a,ob,kvs,rfl,aZ,?_,λc nc=>?_⟩⟩
 ·exact(bZ nb) _ _ hd
 have sm:=(bZ (o:=oN a b) nb).trans (bZ (o:=.lst (kvs.map (·.2))) nc)
 have lk:kvs.length=kts.length:=Paired.length p
 exact k _ _ _ _ _ (s1.trans (Stp.same s1.fr sm)) (s1.non ((bZ nb).free nc)) aZ (by rw[qc_];omega) (VAs.hs ((gK nb).trans (gK nc)) (zFu p)) q⟩
end
end L2
namespace L2
open PySem PySem.Spec PyProof.Rows
theorem zGr(us:List Str)(x:Str):us.length<=(cV us x).length:=by
 unfold cV
 split
 ·exact qe_ _
 ·rw[qh_];omega
theorem zES(val:Nat->Str){i n:Nat}(h:i<=n):(eW val i).length<=(eW val n).length:=by
  induction n with
  | zero => have : i = 0 := by omega
            subst this;exact qe_ _
  |succ n ih=>
    by_cases e:i=n+1
    · subst e;exact qe_ _
    · have:=ih (by omega)
      rw[zAc]
      have:=zGr (eW val n) (val n)
      omega
section
variable{prog:Program}{w:World}{A:Around}{R:Result->Shared->Prop}{I:Addr}{fp wr:List Addr}{G:Array GenState->Array GenState->Prop}{n:Nat}{P:Nat->Value->Prop}{St:Nat->Shared->Prop}
theorem zAf(W:WalksS prog w A.in1 I fp wr G n P St)(S:Addr)(hf:S∉fp)(val:Nat->Str)(hv:∀i v,P i v->∃t,v=.str (val i) t)(hb:(eW val n).length+1<scanBound):
  ∀(k i:Nat) (s:Shared),n-i=k->i<=n->St i s->SetS prog w S (eW val i) s.heap ->
   (∀s',Moved (S::wr) G s s'->SetS prog w S (eW val n) s'.heap->R (.ok (.ret .none)) s')->codeAny (model prog w) A (.builtin "set.update.loop" ⟨[.ref S,.ref I],[]⟩) R s:=by
 have nw:S∉wr:=λz=>hf (W.sub _ z)
 have sub:∀b∈wr,b∈S::wr:=λb z=>qb1_ _ z
 intro k
 induction k with
 |zero=>
  intro i s hk hi st hS hR
  have e:i=n:=by omega
  subst e
  refine qY_ F.entry_set_update_loop ?_
  rw[qh1_ F.plain_set_update_loop _]
  show wpAny _ A.in1 (pyNext (.ref I) >>= _) _ _ s
  refine qa_ (W.done s _ _ st λs' hm=>?_)
  show wpAny _ A.in1 (ret Value.none) _ _ s'
  exact qb_ (hR s' (hm.mono sub) (hS.kept λo q=>hm.heap S _ nw q))
 |succ k ih=>
  intro i s hk hi st hS hR
  have lt:i<n:=by omega
  refine qY_ F.entry_set_update_loop ?_
  rw[qh1_ F.plain_set_update_loop _]
  show wpAny _ A.in1 (pyNext (.ref I) >>= _) _ _ s
  refine qa_ (W.item i s _ _ lt st λv s' hP st' hm=>?_)
  obtain⟨t,rfl⟩:=hv i v hP
  have hS':SetS prog w S (eW val i) s'.heap:=hS.kept λo q=>hm.heap S _ nw q
  show wpAny _ A.in1 (holding [Value.str (val i) t] (setAdd S (.str (val i) t)) >>= _) _ _ s'
  refine qa_ (qC_ ?_)
  unfold setAdd
  refine qC_ (qa_ ((PySem.strKind prog w).pyHash (k:=val i) (by show Value.isStrOf _ (.str _ t)=true;simp[Value.isStrOf]) ?_))
  have room:(eW val i).length+1<scanBound:=by have:=zES val (qZ_ lt);omega
  refine vD (s:={s' with toks:=s'.toks+1}) hS' room λb h' sb S2=>?_
  rw[<-zAc]at S2
  refine qb_ ⟨plainId_quiet F.plain_set_update_loop _,ih (i+1) _ (by omega) lt (W.frame _ s' _ _ st' (qp1_ _) λc hc o e=>?_) S2 λs'' hm'' S3=>?_⟩
  ·rw[sb.2 c (λz:c=S=>hf (by rw[<-z];exact hc))];exact e
  ·refine hR s'' (Moved.trans W.gtrans ((hm.mono sub).then_heap (qp1_ _) λc o hc e=>?_) hm'') S3
   rw[sb.2 c (λz:c=S=>hc (by rw[z];exact qi1_))];exact e
end
section
variable{prog:Program}{w:World}{A:Around}{E:Value->Shared->Prop}{s:Shared}
theorem zDF{l:Addr}{items:Array Value}{ss:List Str}{Q:Value->Shared->Prop}(hh:A.handled=none)(hl:s.heap.IsList l items)(hi:StrsAre items.toList ss)(hb:(aG ss).length+1<scanBound)
  (h:∀(h':Heap) (tk:Nat),SetS prog w s.heap.objs.size (aG ss) h'->(∀b o,b<s.heap.objs.size->s.heap.get? b=some o->h'.get? b=some o)->Q (.ref s.heap.objs.size) {s with heap:=h',toks:=tk}):
  wpAny (model prog w) A (call (.type "set") [.ref l]) Q E s:=by
 have hz:items.size=ss.length:=by have:=gV hi;simpa using this
 obtain⟨c,tl,hmro⟩:=F.called_set.mro
 have hmade:=F.called_set.made
 have hsub:=F.called_set.sub
 refine wpAny_call (codeAny_of_tree ?_)
 show wpAny _ _ (callAny (.type "set") _) _ _ _
 refine qb_ ⟨Code.quiet_builtin _ (by decide +kernel),qY_ F.entry_type_call ?_⟩
 rw[Around.under_plain (weight_type_call_type "set" [.ref l] []) rfl]
 have h1:=F.called_set.notType
 have h2:=F.called_set.canCreate
 have hct:=F.typeCall_set_1 (.ref l)
 repeat (any_goals (first|assumption|wp_step))
 refine codeAny_mono (tM (.ref l) (E:=E) (Q₁:=λobj s₁=>obj=.ref s.heap.objs.size/\s₁={s with heap:=s.heap.push (bK #[] 0 (.fresh 0 0 (!byT w)))}) ⟨rfl,rfl⟩) λr s₁ hr=>?_
 cases r with
 |error e=>exact hr
 |ok fl=>
  cases fl with
  |ret obj=>
   obtain⟨rfl,rfl⟩:=hr
   have hS:(s.heap.push (bK #[] 0 (.fresh 0 0 (!byT w)))).get? s.heap.objs.size=some (bK #[] 0 (.fresh 0 0 (!byT w))):=qj_ _ rfl
   have hT:Shared.TypeIs {s with heap:=s.heap.push (bK #[] 0 (.fresh 0 0 (!byT w)))} (.ref s.heap.objs.size) "set":=⟨_,hS,rfl⟩
   have hli:=F.called_set.init.lookup
   have hbi:=F.called_set.init.bind (.ref s.heap.objs.size)
   repeat (any_goals (first|assumption|wp_step))
   refine codeAny_mono (codeAny_call_builtin (R:=wants (λr s₂=>r=.none/\∃h' tk,s₂={s with heap:=h',toks:=tk}/\SetS prog w s.heap.objs.size (aG ss) h' /\
     (∀b o,b<s.heap.objs.size->s.heap.get? b=some o->h'.get? b=some o)) E) F.called_set.init.plain F.entry_set_init (check_set_init_1 hT ?_)) λr₂ s₂ hr₂=>?_
   ·obtain⟨ol,hol,hcl,nl,hdl⟩:=hl
    obtain⟨ocls,odict,odata,oslots⟩:=ol
    simp only at hcl hdl
    subst hcl hdl
    have hol':(s.heap.push (bK #[] 0 (.fresh 0 0 (!byT w)))).get? l=some {cls:=.type "list",dict:=odict,data:=.seq items nl,slots:=oslots}:=qd_ _ hol
    have hsls:=F.sub_list_set
    have hslf:=F.sub_list_frozenset
    have hne:(Value.type "list"==Value.type "dict")=false:=by decide
    have hl1:(s.heap.push (bK #[] 0 (.fresh 0 0 (!byT w)))).IsList l items:=⟨_,hol',rfl,nl,rfl⟩
    unfold Builtin.«set.__init__» noKeywords Builtin.Frozenset.updateFrom
    generalize hPI:pyIter=PI
    wp_walk
    subst hPI
    refine wpAny_pyIter_list hl1 ?_
    refine qa_ (wpAny_runValue ?_)
    have hlS:l<s.heap.objs.size:=qf_ hol
    have hh3:A.in1.in1.in1.handled=none:=by simp[hh]
    have neI:l≠(s.heap.push (bK #[] 0 (.fresh 0 0 (!byT w)))).objs.size:=by
     rw[qx_]
     exact qm_ (qk1_ hlS)
    have nf:s.heap.objs.size∉[(s.heap.push (bK #[] 0 (.fresh 0 0 (!byT w)))).objs.size,l]:=by
     rw[qx_]
     simp only[List.mem_cons,List.not_mem_nil,or_false,not_or]
     exact⟨qm_ (qk2_ _),qE_ hlS⟩
    refine zAf ((Walks.list hh3 _ l neI items).toS) s.heap.objs.size nf (λi=>ss.getD i ⟨#[]⟩) (λi v hv=>gG hi i v (by rw[qr_];exact hv)) (by rw[hz,uV (ss:=ss) (λi hi=>by simp[hi])];exact hb) (items.size-0) 0 _ (by omega) (qu_ _)
     ⟨⟨_,qj_ _ rfl,rfl,rfl⟩,hl1.push _⟩ ?_ λs' hm S'=>?_
    ·refine⟨#[],0,.fresh 0 0 (!byT w),qd_ _ hS,⟨λe he=>by simp at he,⟨[],.nil,.refl _⟩,qN1_,by decide,?_,.inl rfl,rfl⟩⟩
     simp[SetTable.fits,SetTable.fresh,SetTable.fill]
    ·obtain⟨h',g',d',tk',os'⟩:=s'
     have eg:g'=s.gens:=hm.gens
     have ed:d'=s.drawn:=hm.drawn
     have eo:os'=s.os:=hm.os
     subst eg ed eo
     rw[hz,uV (ss:=ss) (λi hi=>by simp[hi])]at S'
     show wpAny _ _ _ _ _ _
     refine qb_ ?_
     show wpAny _ _ (ret Value.none) _ _ _
     refine qb_ ⟨rfl,h',tk',rfl,S',λb o hb e=>?_⟩
     have hb2:b≠(s.heap.push (bK #[] 0 (.fresh 0 0 (!byT w)))).objs.size:=by
      rw[qx_]
      exact qm_ (qk1_ hb)
     exact hm.heap b o (by simp only[List.mem_cons,List.not_mem_nil,or_false,not_or];exact⟨qm_ hb,hb2⟩) (qd_ _ (qd_ _ e))
   ·cases r₂ with
    |error e=>exact hr₂
    |ok fl₂=>
     cases fl₂ with
     |ret r=>
      obtain⟨rfl,h',tk,rfl,S',hk'⟩:=hr₂
      repeat (any_goals (first|assumption|wp_step))
      exact h _ _ S' hk'
     |_=>exact hr₂.elim
  |_=>exact hr.elim
end
section
variable{X:Cx}{F:Fm}
def zIj(P:Program)(w:World)(K:W.Frag):List V->Hp->VK->Prop:=λxs H Q=>∃(p:Addr) (ss:List Str),xs=[.ref p]/\SqL K H p (ss.map V.str)/\(aG ss).length<4000/\∀a:Addr,H a=none->Q (.ref a) (upd H a (dQ P w a (aG ss)))
theorem zEd(hc:X.calm=true):CallR X (.type "set") (zIj X.prog X.w X.K):=by
 intro pins s σ H xs us Q I r h
 obtain⟨p,ss,rfl,hq,hz,q⟩:=h
 obtain⟨u,rfl,rx⟩:=cQ r
 cases rx
 obtain⟨its,rv,pl,hz'⟩:=I.list hq
 have hi:StrsAre its.toArray.toList ss:=jI rv
 refine zDF (I.ok.hd hc) pl.isList hi (by show(aG ss).length+1<4096;omega) λh' tk S k=>?_
 refine⟨.ref s.heap.objs.size,_,I.laid (t':=tk) (o:=dQ X.prog X.w s.heap.objs.size (aG ss)) (λb o e=>k b o (qf_ e) e) (qe_ _) ⟨S,?_,λh1 h2 z k'=>z.kept k'⟩,rfl,q _ I.fresh⟩
 obtain⟨es,ep,t,e,_⟩:=S
 exact⟨_,e⟩
variable{pos:Pos}
def zEr(u:UT):UTl:=λρ Q=>u ρ λT ρ1=>∃ss:List Str,T=.seq false (ss.map sT)/\(aG ss).length<64/\Q ((aV (aG ss)).map sT) ρ1
theorem pI{e:Expr}{u:UT}{p p' pos':Pos}(hc:X.calm=true)(hg:Gl X "sorted")(hm:X.mg "sorted"=none)(hg':Gl X "set")(hm':X.mg "set"=none)(he:UE X F e u)(hst:dO e=false:=by rfl)
  (hpl:(backTo pos (starEach [] X.env)).any (·.1)=false:=by rfl) (hpl':(backTo pos' (starEach [] X.env)).any (·.1)=false:=by rfl):
  UL X F (.Call (.Name "sorted" p) [.Call (.Name "set" p') [e] [] pos'] [] pos) (zEr u):=⟨PE.imp (iL (yL hc) hg hm boot_sorted (cT (gF (zEd hc) hg' hm' L2.boot_set (cT he.pe dD hst) (by decide) (by decide) (gU hst) hpl') dD rfl) (by decide) (by decide) rfl hpl) λσ H QQ ⟨ρ,Q,f,h,k⟩=>by
 refine⟨ρ,_,f,h,λx T H1 ρ1 s1 v1 q1=>?_⟩
 obtain⟨ss,rfl,l2,q⟩:=q1
 obtain⟨a,ys,rfl,hs,z,p⟩:=v1.seqI
 rw[iK p]at hs
 refine⟨a,ss,rfl,cP hs,by omega,λb nb=>⟨b,aG ss,rfl,aZ,l2,λms c h1 h2 nc=>?_⟩⟩
 have sm:=(bZ (o:=dQ X.prog X.w b (aG ss)) nb).trans (bZ (o:=.lst (ms.map V.str)) nc)
 refine k _ _ _ _ _ (s1.trans (Stp.same s1.fr sm)) (s1.non ((bZ nb).free nc)) aZ (by rw[qc_,h1.length_eq];omega) (lG ms) ?_
 rw[mZ h1 h2]
 exact q⟩
abbrev zJZ:P2:=pI2 (λ_ j=>j≠0) λi j=>.int (i.fmod j)
theorem zGU:gC X (binaryOp .Mod) zJZ:=(rQ zHe λ_ _=>rfl).op
end
end L2
namespace RunM
structure RunOk (lo hi st:Int):Prop where
 nn:0<=st
 z:st=0->lo=hi
 p:0<st->lo<hi/\st ∣ (hi-lo)
theorem RunOk.le{lo hi st:Int}(r:RunOk lo hi st):lo<=hi:=by
 rcases Int.lt_or_le 0 st with h|h
 ·exact Int.le_of_lt (r.p h).1
 ·have:=r.nn
  rw[r.z (by omega)]
  exact qV1_ _
end RunM
namespace GcdM
open RunM
def g(a b:Int):Int:=((Int.gcd a b:Nat):Int)
theorem g_nonneg(a b:Int):0<=g a b:=Int.natCast_nonneg _
theorem g_dvd{d a b:Int}:d ∣ g a b↔d ∣ a/\d ∣ b:=by
 unfold g
 constructor
 ·intro h
  exact⟨qW1_ h (Int.gcd_dvd_left ..),qW1_ h (Int.gcd_dvd_right ..)⟩
 ·rintro⟨h1,h2⟩
  exact Int.dvd_coe_gcd h1 h2
theorem zJf(a:Int)(h:0<=a):g a 0=a:=by
 unfold g
 rw[Int.gcd_zero_right]
 omega
theorem pZ{a b:Int}(ha:0<=a)(hb:0<=b)(h:∀d:Int,d ∣ a↔d ∣ b):a=b:=by
 have h1:a ∣ b:=(h a).mp (qS2_ _)
 have h2:b ∣ a:=(h b).mpr (qS2_ _)
 exact Int.dvd_antisymm ha hb h1 h2
theorem zJg{a b:Int}(hb:0<b):g b (a % b)=g a b:=by
 refine pZ (g_nonneg _ _) (g_nonneg _ _) λd=>?_
 rw[g_dvd,g_dvd]
 constructor
 ·rintro⟨h1,h2⟩
  refine⟨?_,h1⟩
  have:=qm2_ (qW1_ h1 (qT2_ b (a / b))) h2
  rw[Int.mul_ediv_add_emod]at this
  exact this
 ·rintro⟨h1,h2⟩
  refine⟨h2,?_⟩
  have:=qE1_ h1 (qW1_ h2 (qT2_ b (a / b)))
  rw[show a-b*(a / b)=a % b by have:=Int.mul_ediv_add_emod a b;omega]at this
  exact this
def stepOf(lo:Int)(ns:List Int):Int:=ns.foldl (λs n=>g (n-lo) s) 0
theorem uN{lo d:Int}:∀{ns:List Int}{s:Int},d ∣ ns.foldl (λs n=>g (n-lo) s) s↔d ∣ s/\∀n∈ns,d ∣ (n-lo)
 |[],s=>by simp
 |n::r,s=>by
  rw[qw1_,uN,g_dvd]
  constructor
  ·rintro⟨⟨h1,h2⟩,h3⟩
   refine⟨h2,λm hm=>?_⟩
   rcases qy_.mp hm with e|e
   ·rw[e];exact h1
   ·exact h3 m e
  ·rintro⟨h1,h2⟩
   exact⟨⟨h2 n qi1_,h1⟩,λm hm=>h2 m (qb1_ _ hm)⟩
theorem pJ{lo:Int}:∀{ns:List Int}{s:Int},0<=s->0<=ns.foldl (λs n=>g (n-lo) s) s
 |[],s,h=>h
 |n::r,s,_=>pJ (ns:=r) (g_nonneg _ _)
theorem zBt{lo hi st d m:Int}(ok:RunOk lo hi st):(d ∣ (lo-m)/\d ∣ (hi-m)/\d ∣ (lo+st-m))↔d ∣ (lo-m)/\d ∣ st:=by
 constructor
 ·rintro⟨h1,_,h3⟩
  refine⟨h1,?_⟩
  have:=qE1_ h3 h1
  rw[show lo+st-m-(lo-m)=st by omega]at this
  exact this
 ·rintro⟨h1,h2⟩
  refine⟨h1,?_,?_⟩
  ·by_cases hs:st=0
   ·rw[<-ok.z hs];exact h1
   ·have hp:0<st:=by have:=ok.nn;omega
    have:=qm2_ h1 (qW1_ h2 (ok.p hp).2)
    rw[show lo-m+(hi-lo)=hi-m by omega]at this
    exact this
  ·have:=qm2_ h1 h2
   rw[show lo-m+st=lo+st-m by omega]at this
   exact this
theorem zDQ{lo hi st lo' hi' st':Int}(ok:RunOk lo hi st)(ok':RunOk lo' hi' st'):
  stepOf (if lo'<lo then lo' else lo) [lo,hi,lo+st,lo',hi',lo'+st']=g (g st st') (lo-lo'):=by
 refine pZ (pJ (qV1_ 0)) (g_nonneg _ _) λd=>?_
 unfold stepOf
 rw[uN,g_dvd,g_dvd]
 have key:∀m:Int,(m=lo\/m=lo')->((d ∣ (0:Int)/\∀n∈[lo,hi,lo+st,lo',hi',lo'+st'],d ∣ (n-m))↔(d ∣ st/\d ∣ st')/\d ∣ (lo-lo')):=by
  intro m hm
  have r1:=@zBt lo hi st d m ok
  have r2:=@zBt lo' hi' st' d m ok'
  constructor
  ·rintro⟨_,h⟩
   have a1:=r1.mp ⟨h lo (by simp),h hi (by simp),h (lo+st) (by simp)⟩
   have a2:=r2.mp ⟨h lo' (by simp),h hi' (by simp),h (lo'+st') (by simp)⟩
   refine⟨⟨a1.2,a2.2⟩,?_⟩
   have:=qE1_ a1.1 a2.1
   rw[show lo-m-(lo'-m)=lo-lo' by omega]at this
   exact this
  ·rintro⟨⟨h1,h2⟩,h3⟩
   have b1:d ∣ (lo-m):=by
    rcases hm with e|e
    ·rw[e,qn2_];exact qz1_ _
    ·rw[e];exact h3
   have b2:d ∣ (lo'-m):=by
    rcases hm with e|e
    ·rw[e]
     have:=Int.dvd_neg.mpr h3
     rw[show -(lo-lo')=lo'-lo by omega]at this
     exact this
    ·rw[e,qn2_];exact qz1_ _
   have a1:=r1.mpr ⟨b1,h1⟩
   have a2:=r2.mpr ⟨b2,h2⟩
   refine⟨qz1_ _,λn hn=>?_⟩
   simp only[List.mem_cons,List.not_mem_nil,or_false]at hn
   rcases hn with e|e|e|e|e|e<;>rw[e]
   ·exact a1.1
   ·exact a1.2.1
   ·exact a1.2.2
   ·exact a2.1
   ·exact a2.2.1
   ·exact a2.2.2
 split
 ·exact key lo' (.inr rfl)
 ·exact key lo (.inl rfl)
theorem zBp{lo hi st:Int}(ok:RunOk lo hi st):lo<=hi/\lo+st<=hi:=by
 refine⟨ok.le,?_⟩
 by_cases hs:st=0
 ·rw[hs,<-ok.z hs];omega
 ·have hp:0<st:=by have:=ok.nn;omega
  have:=ok.p hp
  have:=Int.le_of_dvd (by omega) this.2
  omega
theorem zJj(a b:Int):g a b=g b a:=by unfold g;rw[Int.gcd_comm]
theorem zKf(a b:Int):g a (-b)=g a b:=by unfold g;rw[Int.gcd_neg]
theorem g_abs(a:Int):g a 0=if a<0 then -a else a:=by
 unfold g
 rw[Int.gcd_zero_right]
 split<;>omega
theorem g_turnF{a b:Int}(hb:b≠0):g b (a.fmod b)=g a b:=by
 refine pZ (g_nonneg _ _) (g_nonneg _ _) λd=>?_
 rw[g_dvd,g_dvd]
 have e:=Int.mul_fdiv_add_fmod a b
 constructor
 ·rintro⟨h1,h2⟩
  refine⟨?_,h1⟩
  have:=qm2_ (qW1_ h1 (qT2_ b (a.fdiv b))) h2
  rw[e]at this
  exact this
 ·rintro⟨h1,h2⟩
  refine⟨h2,?_⟩
  have:=qE1_ h1 (qW1_ h2 (qT2_ b (a.fdiv b)))
  rw[show a-b*(a.fdiv b)=a.fmod b by omega]at this
  exact this
theorem fmod_less{a b:Int}(hb:b≠0):(a.fmod b).natAbs<b.natAbs:=by
 rcases Int.lt_or_gt_of_ne hb with h|h
 ·have e:a.fmod b = -((-a).fmod (-b)):=by rw[Int.neg_fmod_neg];omega
  have h1:=Int.fmod_nonneg_of_pos (-a) (show 0 < -b by omega)
  have h2:=Int.fmod_lt_of_pos (-a) (show 0 < -b by omega)
  omega
 ·have h1:=Int.fmod_nonneg_of_pos a h
  have h2:=Int.fmod_lt_of_pos a h
  omega
abbrev R3:=Int×Int×Int
def Ok(a:R3):Prop:=RunOk a.1 a.2.1 a.2.2
def joinR(a b:R3):R3:=(if b.1<a.1 then b.1 else a.1,if b.2.1 > a.2.1 then b.2.1 else a.2.1,g (g a.2.2 b.2.2) (a.1-b.1))
structure Sub (b a:R3):Prop where
 lo:a.1<=b.1
 hi:b.2.1<=a.2.1
 far:a.2.2 ∣ (b.1-a.1)
 st:a.2.2 ∣ b.2.2
theorem zE0(a b:R3):joinR a b=joinR b a:=by
 unfold joinR
 have h1:(if b.1<a.1 then b.1 else a.1)=(if a.1<b.1 then a.1 else b.1):=by split<;>split<;>omega
 have h2:(if b.2.1 > a.2.1 then b.2.1 else a.2.1)=(if a.2.1 > b.2.1 then a.2.1 else b.2.1):=by split<;>split<;>omega
 rw[h1,h2,zJj a.2.2 b.2.2,show a.1-b.1 = -(b.1-a.1) by omega,zKf]
theorem zAE{a b:R3}:Sub a (joinR a b):=by
 have h:=(g_dvd (d:=g (g a.2.2 b.2.2) (a.1-b.1))).mp (qS2_ _)
 have h2:=g_dvd.mp h.1
 refine⟨?_,?_,?_,h2.1⟩
 ·show(if b.1<a.1 then b.1 else a.1)<=a.1
  split<;>omega
 ·show a.2.1<=(if b.2.1 > a.2.1 then b.2.1 else a.2.1)
  split<;>omega
 ·show g (g a.2.2 b.2.2) (a.1-b.1) ∣ (a.1-(if b.1<a.1 then b.1 else a.1))
  split
  ·exact h.2
  ·rw[qn2_];exact qz1_ _
theorem zEw{a b:R3}:Sub b (joinR a b):=by
 rw[zE0]
 exact zAE
theorem zEZ{a b:R3}(ha:Ok a)(hb:Ok b){m M:Int}(hm:m∈[a.1,a.2.1,a.1+a.2.2,b.1,b.2.1,b.1+b.2.2])(hm':∀x∈[a.1,a.2.1,a.1+a.2.2,b.1,b.2.1,b.1+b.2.2],m<=x)
  (hM:M∈[a.1,a.2.1,a.1+a.2.2,b.1,b.2.1,b.1+b.2.2]) (hM':∀x∈[a.1,a.2.1,a.1+a.2.2,b.1,b.2.1,b.1+b.2.2],x<=M):
  (m,M,stepOf m [a.1,a.2.1,a.1+a.2.2,b.1,b.2.1,b.1+b.2.2])=joinR a b:=by
 have ta:=zBp ha
 have tb:=zBp hb
 have na:=ha.nn
 have nb:=hb.nn
 have e1:m=if b.1<a.1 then b.1 else a.1:=by
  have y1:=hm' a.1 (by simp)
  have y2:=hm' b.1 (by simp)
  simp only[List.mem_cons,List.not_mem_nil,or_false]at hm
  split<;>omega
 have e2:M=if b.2.1 > a.2.1 then b.2.1 else a.2.1:=by
  have y1:=hM' a.2.1 (by simp)
  have y2:=hM' b.2.1 (by simp)
  simp only[List.mem_cons,List.not_mem_nil,or_false]at hM
  split<;>omega
 have e3:=zDQ ha hb
 rw[<-e1]at e3
 unfold joinR
 rw[e3,<-e1,<-e2]
end GcdM
namespace L2
open PySem PySem.Spec PyProof.Rows WordM
theorem stW_iff{x y:Str}:stW x y=true↔∃r,cs x=cs y++r:=by
 unfold stW
 rw[StrLaws.subAt_eq,qR1_,decide_eq_true_iff,ql2_,beq_iff_eq,WordM.len,WordM.len]
 constructor
 ·rintro⟨h1,h2⟩
  have h2:(cs x).take (cs y).length=cs y:=h2
  exact⟨(cs x).drop (cs y).length,(qD2_ (cs y).length (cs x)).symm.trans (by rw[h2])⟩
 ·rintro⟨r,e⟩
  show _/\(cs x).take _=_
  rw[e]
  exact⟨by rw[qh_];omega,by rw[List.take_left'];rfl⟩
theorem kC{x y:Str}{r:List Nat}(e:cs x=cs y++r):cs (aU x y)=r:=by
 have hl:x.length=(cs y).length+r.length:=by rw[WordM.len,e,qh_]
 unfold aU
 rw[PyProof.Rows.slice_from_eq (b:=(x.length:Int)) (by omega) (by rw[hl,WordM.len];omega) rfl]
 show((cs x).drop _).take _=r
 rw[hl,WordM.len y,e,show(((cs y).length:Nat):Int).toNat=(cs y).length by omega,List.drop_left,qg2_]
 omega
theorem yX{x:Str}(h:0<x.length):cs (Txt.slice x none (some (-1)))=(cs x).take (x.length-1):=by
 have e:=beq_iff_eq.mp (PyProof.Rows.slice_closes_to_neg (x:=x) (j:=-1) (k:=-1+x.length) (by decide) (by omega) rfl)
 rw[e]
 show((cs x).drop 0).take _=_
 rw[ql2_]
 congr 1
 omega
theorem zDp{x:Str}(h:0<x.length):(Txt.slice x none (some (-1))).length=x.length-1:=by
 rw[WordM.len,yX h,qO_,<-WordM.len];omega
theorem zJ9{a b:Str}(h:cs a<cs b):a≠b:=λe=>by rw[e]at h;exact qf3_ _ h
theorem qH:∀{ys xs:List Str},iH xs->iH ys->(∀x∈xs,x∈ys)->xs.Sublist ys
 |[],xs,_,_,h=>by
  cases xs with
  |nil=>exact .slnil
  |cons x xs=>exact absurd (h x (.head _)) (by simp)
 |y::ys,[],_,_,_=>List.nil_sublist _
 |y::ys,x::xs,hx,hy,h=>by
  have hx':=List.pairwise_cons.mp hx
  have hy':=List.pairwise_cons.mp hy
  by_cases e:x=y
  ·subst e
   refine List.Sublist.cons_cons x (qH hx'.2 hy'.2 λz hz=>?_)
   rcases qy_.mp (h z (.tail _ hz)) with q|q
   ·exact absurd q.symm (zJ9 (hx'.1 z hz))
   ·exact q
  ·have hxy:x∈ys:=(qy_.mp (h x (.head _))).resolve_left e
   have yx:cs y<cs x:=hy'.1 x hxy
   refine List.Sublist.cons y (qH hx hy'.2 λz hz=>?_)
   rcases qy_.mp (h z hz) with q|q
   ·subst q
    rcases qy_.mp hz with q|q
    ·exact absurd q.symm e
    ·exact absurd (List.lt_trans yx (hx'.1 z q)) (qf3_ _)
   ·exact q
theorem zHk:iH MK:=by unfold iH;decide +kernel
theorem sort_set_mem{ss:List Str}{x:Str}:x∈aV (aG ss)↔x∈ss:=(eM _).mem_iff.trans (cM ss x)
theorem gD(ss:List Str):iH (aV (aG ss)):=zV (cZ ss)
end L2
namespace L2
open PySem PySem.Spec PyProof.Rows PySem.SeqAt
section
variable{X:Cx}{F:Fm}
def zCF(P:Program)(w:World)(K:W.Frag):List V->Hp->VK->Prop:=λxs H Q=>∃(p:Addr) (ss:List Str),xs=[.ref p]/\SqT K H p (ss.map V.str)/\ss.length<4000/\∀a:Addr,H a=none->Q (.ref a) (upd H a (dQ P w a (aG ss)))
end
end L2
namespace L2
open PySem PySem.Spec PyProof.Rows WordM
section
variable{X:Cx}{F:Fm}{pos p:Pos}{e a b elt iter:Expr}{es ifs:List Expr}{x:Str}{u ua ub ue:UT}{ut:UTa}{ui:UTl}{tf:UTt}{sc scope:Scope}{XN N:List Str}{fr:List Nat}
theorem aL{k m:Nat}{ps:List Str}{psp:PSp}(G:PGood X.prog X.w X.K X.mg X.base k x ps psp)(hr:Room m X.A)(ha:UA X F (e::es) ut)(hm:k<=m:=by omega)(hg:Gl X x:=by exact rfl)(hdb:(x==("__debug__":Str))=false:=by decide)
  (hst:dO e=false:=by rfl) (hpl:(backTo pos (starEach es X.env)).any (·.1)=false:=by rfl):UE X F (.Call (.Name x p) (e::es) [] pos) (kK psp ut):=zJt G (hr.mono hm) hg ha hdb hst hpl
theorem bA(i:Nat){pos':Pos}(hN:X.N.Nodup)(he:UE X F e u)(hi:X.N[i]?=some x:=by rfl)(hx:Loc X.env.scope x:=by first|exact Or.inl rfl|exact Or.inr rfl)(hs:swapsWith e (some (.Name x pos')) pos.line X.env=pure false:=by rfl)(hf:X.fn x=true\/X.env.scope.names.lookup x=some .local:=by first|exact .inl rfl|exact .inr rfl|assumption):
  US X F (.Assign [.Name x pos'] e pos) (sD i u):=zHN hN hi hx he hs hf
theorem fW(i:Nat){ul:UTl}{pos':Pos}(hN:X.N.Nodup)(he:UL X F e ul)(hi:X.N[i]?=some x:=by rfl)(hx:Loc X.env.scope x:=by first|exact Or.inl rfl|exact Or.inr rfl)(hs:swapsWith e (some (.Name x pos')) pos.line X.env=pure false:=by rfl)(hf:X.fn x=true\/X.env.scope.names.lookup x=some .local:=by first|exact .inl rfl|exact .inr rfl|assumption):
  US X F (.Assign [.Name x pos'] e pos) (sG i ul):=zHP hN hi hx he hs hf
theorem dP{op:CmpOp}{r:P2}(ho:PuCmp X (compareOp op) r)(ha:UE X F a ua)(hb:UE X F b ub)(hm:behindInMarks op b=false:=by exact lT _):UB X F (.Compare a [op] [b] pos) (uB (uOp r ua ub)):=wA ho ha hb hm
theorem gO{op:CmpOp}{r:P2}(ho:gC X (compareOp op) r)(ha:UE X F a ua)(hb:UE X F b ub)(hm:behindInMarks op b=false:=by exact lT _):UE X F (.Compare a [op] [b] pos) (uOp r ua ub):=zHU ho ha hb hm
structure Cq (X:Cx) (sc scope:Scope) (XN N:List Str) (fr:List Nat) (x:Str) (iter:Expr):Prop where
 hc:X.calm=true:=by rfl
 k1:scope.kind=.function:=by rfl
 k2:∀y∈scope.names,y.2≠.cell:=by decide +kernel
 k3:∀y∈scope.names,y.2=.free->sc.names.lookup y.1=some .cell\/sc.names.lookup y.1=some .free:=by decide +kernel
 k4:∀y∈scope.names,y.2=.local->scope.names.lookup y.1=some .local:=by decide +kernel
 k5:N.drop 1=fr.filterMap λi=>XN[i]?:=by rfl
 k6:∀i∈fr,i<XN.length:=by decide +kernel
 k7:1<=N.length:=by decide
 k8:∀x∈N.drop 1,scope.names.lookup x=some .free:=by decide +kernel
 nd:fr.Nodup:=by decide
 nN:N.Nodup:=by decide +kernel
 h0:N[0]?=some x:=by rfl
 hl:∀cl C fp s H,Loc (cG X N scope cl C fp s H).env.scope x:=by intros;first|exact Or.inl rfl|exact Or.inr rfl
 hfn:∀cl C fp s H,(cG X N scope cl C fp s H).fn x=true\/(cG X N scope cl C fp s H).env.scope.names.lookup x=some .local:=by intros;first|exact .inl rfl|exact .inr rfl
 hs:∀x,foldedSetIterable iter X.env x=pure x:=by intro _;rfl
 hsc:X.env.scope=sc:=by rfl
 hxn:X.N=XN:=by rfl
section
variable{z:Str}{pos' spos:Pos}(i:Nat)(hN:X.N.Nodup)(hi:UI X F (.Name x p) iter ui)(hf:∀cl C fp s H,UF (cG X N scope cl C fp s H) F ifs tf)(he:∀cl C fp s H,UE (cG X N scope cl C fp s H) F elt ue)
include hi hf he
theorem oH(c:Cq X sc scope XN N fr x iter:=by exact {}):UL X F (.ListComp elt [⟨.Name x p,iter,ifs,0⟩] scope pos) (kJ 1 fr ui (gN 0) tf ue):=
 zBm c.hc ⟨c.k1,c.k2,c.k3,c.k4,c.k5,c.k6,c.k7,c.k8⟩ c.nd hi (λcl C fp s H=>cW 0 (by decide) c.nN c.h0 (c.hl cl C fp s H) (c.hfn cl C fp s H)) hf he c.hs c.hsc c.hxn
include hN
theorem eO(c:Cq X sc scope XN N fr x iter:=by exact {})(hz:X.N[i]?=some z:=by rfl)(hzl:Loc X.env.scope z:=by first|exact Or.inl rfl|exact Or.inr rfl)
  (hsw:swapsWith (.ListComp elt [⟨.Name x p,iter,ifs,0⟩] scope pos) (some (.Name z pos')) spos.line X.env=pure true:=by rfl)
  (hf':X.fn z=true\/X.env.scope.names.lookup z=some .local:=by first|exact .inl rfl|exact .inr rfl|assumption):US X F (.Assign [.Name z pos'] (.ListComp elt [⟨.Name x p,iter,ifs,0⟩] scope pos) spos) (sD i (uL (kJ 1 fr ui (gN 0) tf ue))):=
 zGy c.hc hN hz hzl ⟨c.k1,c.k2,c.k3,c.k4,c.k5,c.k6,c.k7,c.k8⟩ c.nd hi (λcl C fp s H=>cW 0 (by decide) c.nN c.h0 (c.hl cl C fp s H) (c.hfn cl C fp s H)) hf he hsw hf' c.hs c.hsc c.hxn
end
theorem iC(hi:UI X F (.Name x p) iter ui)(he:∀cl C fp s H,UE (cG X N scope cl C fp s H) F elt ue)(c:Cq X sc scope XN N fr x iter:=by exact {}):UL X F (.ListComp elt [⟨.Name x p,iter,[],0⟩] scope pos) (kJ 1 fr ui (gN 0) zCV ue):=oH hi (λ_ _ _ _ _=>gI) he c
theorem aT{m:Nat}(hr:Room m X.A)(ha:UE X F a ua)(hb:UE X F b ub)(hs:qZ b:=by intro _ _;rfl):UE X F (.Subscript a b pos) (uOp pIx ua ub):=zJs (zJX hr.units) ha hb hs
theorem cH{m:Nat}(hr:Room m X.A)(ha:UE X F a ua)(hb:UE X F b ub):UB X F (.Compare a [.Eq] [b] pos) (uB (uOp pEq ua ub)):=wA (kL hr.units) ha hb (lT _)
theorem fY{m:Nat}(hr:Room m X.A)(ha:UE X F a ua)(hb:UE X F b ub):UB X F (.Compare a [.NotEq] [b] pos) (uB (uOp pNe ua ub)):=wA (zJW hr.units) ha hb (lT _)
end
end L2
namespace L2
open PySem
namespace Lay
def stp(mask:Nat)(i:Nat):Nat:=(i*5+1) % (mask+1)
def itr(mask:Nat):Nat->Nat->Nat
 |0,i=>i
 |k+1,i=>itr mask k (stp mask i)
def zCz(mask:Nat):Bool:=(List.range (mask+1)).all λi=>(List.range (mask+1)).all λj=>(List.range (mask+1)).any λk=>itr mask k i==j
def Cyc(mask:Nat):Prop:=∀i j,i<=mask->j<=mask->∃k,k<=mask/\itr mask k i=j
theorem rK{mask:Nat}(h:zCz mask=true):Cyc mask:=λi j hi hj=>by
 unfold zCz at h
 have:=qK1_.mp (qK1_.mp h i (qu1_.mpr (by omega))) j (qu1_.mpr (by omega))
 obtain⟨k,hk,e⟩:=qQ_.mp this
 exact⟨k,by have:=qu1_.mp hk;omega,by simpa using e⟩
theorem cyc7:Cyc 7:=rK (by decide +kernel)
theorem zKn:Cyc 15:=rK (by decide +kernel)
theorem zKm:Cyc 31:=rK (by decide +kernel)
theorem zKl:Cyc 63:=rK (by decide +kernel)
def lp(mask:Nat):Nat->Nat×Nat->Nat×Nat
 |0,x=>x
 |k+1,x=>lp mask k (SetTable.leap mask x.1 x.2)
theorem zCn(mask:Nat):∀(a b:Nat) (x:Nat×Nat),lp mask (a+b) x=lp mask b (lp mask a x)
 |0,b,x=>by rw[Nat.zero_add];rfl
 |a+1,b,x=>by rw[Nat.succ_add];exact zCn mask a b _
theorem zBK(mask:Nat):∀(k:Nat) (x:Nat×Nat),(lp mask k x).2=x.2 / 32 ^ k
 |0,x=>by simp[lp]
 |k+1,x=>by
  show(lp mask k _).2=_
  rw[zBK mask k]
  show x.2 / 32 / 32 ^ k=_
  rw[Nat.div_div_eq_div_mul,qo2_,qx1_]
theorem zCL(mask:Nat):∀(k:Nat) (x:Nat×Nat),x.1<=mask->(lp mask k x).1<=mask
 |0,x,h=>h
 |k+1,x,h=>zCL mask k _ (Nat.le_of_lt_succ (qJ2_ _ (Nat.succ_pos mask)))
theorem zBJ(mask:Nat):∀(k i:Nat),lp mask k (i,0)=(itr mask k i,0)
 |0,i=>rfl
 |k+1,i=>by
  show lp mask k (SetTable.leap mask i 0)=_
  have:SetTable.leap mask i 0=(stp mask i,0):=by
   unfold SetTable.leap stp
   simp
  rw[this,zBJ mask k]
  rfl
theorem zHz(h:Int):SetTable.bits h<2 ^ 64:=by
 unfold SetTable.bits
 have:=qC1_ h (show(0:Int)<2 ^ 64 by decide)
 have:=qD1_ h (show(2 ^ 64:Int)≠0 by decide)
 omega
theorem hit{mask:Nat}(C:Cyc mask){i p j:Nat}(hi:i<=mask)(hp:p<2 ^ 64)(hj:j<=mask):∃n,n<SetTable.turns mask/\(lp mask n (i,p)).1=j:=by
 have e13:lp mask 13 (i,p)=((lp mask 13 (i,p)).1,0):=by
  have:(lp mask 13 (i,p)).2=0:=by
   rw[zBK]
   exact Nat.div_eq_of_lt (qT_ hp (by decide))
  rw[<-this]
 obtain⟨k,hk,e⟩:=C (lp mask 13 (i,p)).1 j (zCL mask 13 _ hi) hj
 refine⟨13+k,by unfold SetTable.turns;omega,?_⟩
 rw[zCn,e13,zBJ]
 exact e
theorem zAl{mask:Nat}(owner:Array (Option Nat)):∀(fuel i p:Nat),(∃n,n<fuel/\owner.getD (lp mask n (i,p)).1 (some 0)=none)->∃j,SetTable.layClean.free mask owner fuel i p=some j/\owner.getD j (some 0)=none
 |0,i,p,⟨n,h,_⟩=>absurd h (qh3_ _)
 |fuel+1,i,p,⟨n,hn,h⟩=>by
  unfold SetTable.layClean.free
  cases e:(List.range (SetTable.runEnd mask i+1-i)).find? λk=>(owner.getD (i+k) (some 0)).isNone with
  |some k=>
   have:=qg3_ e
   exact⟨i+k,rfl,by simpa using this⟩
  |none=>
   dsimp only
   cases n with
   |zero=>
    have:=qi3_.mp e 0 (qu1_.mpr (by unfold SetTable.runEnd;split<;>omega))
    have h:owner.getD i (some 0)=none:=h
    rw[Nat.add_zero,h]at this
    exact absurd rfl this
   |succ n=>exact zAl owner fuel _ _ ⟨n,by omega,h⟩
theorem zAG:∀(l:List (Option Nat)) (j k:Nat),l[j]?=some none->((l.set j (some k)).filterMap id).Perm (k::l.filterMap id)
 |[],j,k,h=>by simp at h
 |x::l,0,k,h=>by
  have:x=none:=by simpa using h
  subst this
  simp
 |x::l,j+1,k,h=>by
  have ih:=zAG l j k (by simpa using h)
  rw[List.set_cons_succ]
  cases x with
  |none=>simpa using ih
  |some y=>
   simp only[List.filterMap_cons_some (f:=id) (a:=some y) rfl]
   exact(ih.cons y).trans (.swap _ _ _)
theorem zBI:∀(l:List (Option Nat)),(l.filterMap id).length<l.length->∃j:Nat,l[j]?=some none
 |[],h=>by simp at h
 |none::l,h=>⟨0,rfl⟩
 |some y::l,h=>by
  obtain⟨j,hj⟩:=zBI l (by simpa using h)
  exact⟨j+1,by simpa using hj⟩
structure Own (mask k:Nat) (owner:Array (Option Nat)):Prop where
 sz:owner.size=mask+1
 pm:(owner.toList.filterMap id).Perm (List.range k)
theorem zFV{mask:Nat}(C:Cyc mask){k:Nat}{owner:Array (Option Nat)}(O:Own mask k owner)(hk:k<=mask)(h:Int):∃j,SetTable.layClean.free mask owner (SetTable.turns mask) (SetTable.bits h % (mask+1)) (SetTable.bits h)=some j/\Own mask (k+1) (owner.setIfInBounds j (some k)):=by
 have len:owner.toList.length=mask+1:=by rw[qt_,O.sz]
 obtain⟨j,hj⟩:=zBI owner.toList (by rw[O.pm.length_eq,qj2_,len];omega)
 have gd:∀i,owner.getD i (some 0)=none↔owner.toList[i]?=some none:=λi=>by
  rw[qq3_,qr_]
  cases owner[i]? with
  |none=>simp
  |some x=>simp
 have hjl:j<=mask:=by
  have:=(qw_.mp hj).1
  omega
 obtain⟨n,hn,en⟩:=hit C (i:=SetTable.bits h % (mask+1)) (p:=SetTable.bits h) (Nat.le_of_lt_succ (qJ2_ _ (Nat.succ_pos mask))) (zHz h) hjl
 obtain⟨j',ej,hj'⟩:=zAl owner (SetTable.turns mask) _ _ ⟨n,hn,by rw[en];exact(gd j).mpr hj⟩
 refine⟨j',ej,by rw[Array.size_setIfInBounds,O.sz],?_⟩
 rw[Array.toList_setIfInBounds]
 refine(zAG _ _ _ ((gd j').mp hj')).trans ((O.pm.cons k).trans ?_)
 rw[List.range_succ]
 exact(List.perm_append_singleton k (List.range k)).symm
theorem zAZ{mask:Nat}(C:Cyc mask):∀(hs:List Int) (k:Nat) (owner:Array (Option Nat)),Own mask k owner->k+hs.length<=mask+1->∃o',hs.foldl (init:=some (owner,k)) (λacc h=>do
  let (owner,k) <- acc
  let j <- SetTable.layClean.free mask owner (SetTable.turns mask) (SetTable.bits h % (mask+1)) (SetTable.bits h)
  pure (owner.setIfInBounds j (some k),k+1))=some (o',k+hs.length)/\Own mask (k+hs.length) o'
 |[],k,owner,O,_=>⟨owner,rfl,O⟩
 |h::hs,k,owner,O,hl=>by
  rw[qI_]at hl
  obtain⟨j,ej,O'⟩:=zFV C O (by omega) h
  obtain⟨o',e,O2⟩:=zAZ C hs (k+1) _ O' (by omega)
  refine⟨o',?_,by rw[qI_,show k+(hs.length+1)=k+1+hs.length by omega];exact O2⟩
  rw[qw1_,qI_,show k+(hs.length+1)=k+1+hs.length by omega,<-e]
  congr 1
  simp[ej]
theorem zEV{mask:Nat}(C:Cyc mask)(hs:Array Int)(hl:hs.size<=mask):∃o,SetTable.layClean mask hs=some o/\Own mask hs.size o:=by
 have O:Own mask 0 (Array.replicate (mask+1) none):=⟨by simp,by
  have:∀n:Nat,(List.replicate n (none:Option Nat)).filterMap id=[]:=λn=>by
   induction n with
   |zero=>rfl
   |succ n ih=>rw[qn1_,qK_];exact ih
  rw[Array.toList_replicate,this]
  exact .refl _⟩
 obtain⟨o,e,O'⟩:=zAZ C hs.toList 0 _ O (by rw[qt_];omega)
 rw[Nat.zero_add,qt_]at e O'
 refine⟨o,?_,O'⟩
 unfold SetTable.layClean
 rw[<-Array.foldl_toList,e]
 rfl
theorem zF1(mask:Nat)(o:Array (Option Nat))(hz:o.size=mask+1):((List.range (mask+1)).filterMap λj=>(o.getD j none).map (j,·)).map (·.2)=o.toList.filterMap id:=by
 rw[List.map_filterMap]
 have e:o.toList=(List.range (mask+1)).map λj=>o.getD j none:=by
  apply qK2_
  intro i
  rw[qv_]
  by_cases hi:i<mask+1
  ·rw[List.getElem?_range hi,qr_,qP_ (by omega),Option.map_some]
   rw[qq3_,qP_ (by omega)]
   rfl
  ·rw[qT1_ (by rw[qt_];omega),qT1_ (by rw[qj2_];omega)]
   rfl
 rw[e,qr2_]
 congr 1
 funext j
 simp only[Function.comp,id,Option.map_map]
 cases o.getD j none<;>rfl
theorem laid_ok{mask:Nat}(C:Cyc mask)(f mv:Nat)(ld pl:Bool)(hs:Array Int)(hl:hs.size<=mask):∃t order,SetTable.laid mask f mv ld pl hs=some (t,order)/\order.toList.Perm (List.range hs.size)/\t.fits hs.size=true/\t.mask=mask/\t.dummies=#[]/\t.led=ld/\t.plain=pl:=by
 obtain⟨o,e,O⟩:=zEV C hs hl
 unfold SetTable.laid
 rw[e]
 have p:(((List.range (mask+1)).filterMap λj=>(o.getD j none).map (j,·)).map (·.2)).Perm (List.range hs.size):=by rw[zF1 mask o O.sz];exact O.pm
 have ln:((List.range (mask+1)).filterMap λj=>(o.getD j none).map (j,·)).length=hs.size:=by
  have:=p.length_eq
  rwa[qc_,qj2_]at this
 refine⟨_,_,rfl,by rw[List.toList_toArray];exact p,?_,rfl,rfl,rfl,rfl⟩
 unfold SetTable.fits SetTable.fill
 simp only[List.size_toArray,List.length_map,ln]
 simp[hl]
theorem order_perm{α:Type}(es:Array α){order:Array Nat}(h:order.toList.Perm (List.range es.size)):(order.filterMap (es[·]?)).toList.Perm es.toList:=by
 rw[Array.toList_filterMap]
 refine(h.filterMap _).trans ?_
 have:(List.range es.size).filterMap (es[·]?)=es.toList:=by
  have e:es.toList=(List.range es.size).filterMap λi=>es.toList[i]?:=by
   have:∀l:List α,(List.range l.length).filterMap (λi=>l[i]?)=l:=by
    intro l
    induction l with
    |nil=>rfl
    |cons x l ih=>
     rw[qI_,qw2_,qK_,qr2_]
     simp only[List.getElem?_cons_zero]
     congr 1
   have:=this es.toList
   rw[qt_]at this
   exact this.symm
  rw[e]
  congr 1
  funext i
  rw[qr_]
 rw[this]
theorem above(n:Nat)(h:n<64):Cyc (SetTable.sizeAbove n-1)/\n<SetTable.sizeAbove n/\SetTable.sizeAbove n<=64:=by
 have:∀n<64,(SetTable.sizeAbove n=8\/SetTable.sizeAbove n=16\/SetTable.sizeAbove n=32\/SetTable.sizeAbove n=64)/\n<SetTable.sizeAbove n:=by decide +kernel
 obtain⟨h1,h2⟩:=this n h
 refine⟨?_,h2,by omega⟩
 rcases h1 with e|e|e|e<;>rw[e]
 ·exact cyc7
 ·exact zKn
 ·exact zKm
 ·exact zKl
end Lay
end L2
namespace L2
open PySem PySem.Spec PyProof.Rows
section
variable{prog:Program}{w:World}{A:Around}{E:Value->Shared->Prop}{s:Shared}{a:Addr}{us:List Str}
def rO(es:Array (Int×Value))(laid:Option (SetTable×Array Nat)):Sem (Array (Int×Value)×SetTable):=do
 let some (t,order):=laid|unsupported "internal:set-table-without-room"
 let es':=order.filterMap (es[·]?)
 if es'.size != es.size then unsupported "internal:set-table-lost-an-element"
 pure (es',t)
theorem zAw{es:Array (Int×Value)}{t':SetTable}{order:Array Nat}{Q:Array (Int×Value)×SetTable->Shared->Prop}(pm:order.toList.Perm (List.range es.size))
  (h:∀es':Array (Int×Value),es'.toList.Perm es.toList->Q (es',t') s):wpAny (model prog w) A (rO es (some (t',order))) Q E s:=by
 have p:=Lay.order_perm es pm
 have sz:(order.filterMap (es[·]?)).size=es.size:=by have:=p.length_eq;rwa[qt_,qt_]at this
 unfold rO
 dsimp only
 rw[if_neg (by rw[sz];simp)]
 exact qa_ (qb_ (qb_ (h _ p)))
theorem SetT.perm{es es':Array (Int×Value)}{t t':SetTable}(T:SetT prog w us es t)(p:es'.toList.Perm es.toList)(ft:t'.fits es'.size=true)(pl:t'.plain=t.plain)(ld:t'.led=t.led):SetT prog w us es' t':=by
 obtain⟨vs,hv,pv⟩:=T.tx
 obtain⟨vs',hv',pv'⟩:=lA (p.map (·.2)) hv
 have sz:es'.size=es.size:=by have:=p.length_eq;simpa using this
 exact⟨T.el.perm p,⟨vs',hv',pv'.trans pv⟩,T.nd,by rw[sz];exact T.lt,ft,by rw[sz,pl];exact T.pl,by rw[ld];exact T.ld⟩
def SetF(prog:Program)(w:World)(a:Addr)(us:List Str)(h:Heap):Prop:=∃es ep t,h.get? a=some (bK es ep t)/\SetT prog w us es t/\(us=[]->t.mask=7)
theorem SetF.sets{h:Heap}:SetF prog w a us h->SetS prog w a us h:=λ⟨es,ep,t,ho,T,_⟩=>⟨es,ep,t,ho,T⟩
theorem zBd{k:Nat}{Q:Unit->Shared->Prop}(S:SetF prog w a us s.heap)(hk:us.length+k<32)
  (h:∀h' es ep t,Heap.SameBut a s.heap h'->h'.get? a=some (bK es ep t)->SetT prog w us es t->(us=[]->Lay.Cyc t.mask/\k<=t.mask)->Q () {s with heap:=h'}):wpAny (model prog w) A (setRoomFor a k) Q E s:=by
 obtain⟨es,ep,t,ho,T,hm⟩:=S
 unfold setRoomFor
 refine qa_ (qs_ ho rfl T.fit ?_)
 dsimp only
 have fz:t.place.size=us.length:=by
  have:=T.fit
  simp only[SetTable.fits,Bool.and_eq_true,beq_iff_eq]at this
  rw[this.1,T.size]
 cases e:t.roomFor k with
 |none=>
  dsimp only
  have es':s={s with heap:=s.heap}:=by cases s;rfl
  rw[es']
  refine qb_ (h _ es ep t (Heap.SameBut.refl a s.heap) ho T λz=>?_)
  have hm:=hm z
  unfold SetTable.roomFor at e
  split at e
  ·cases e
  ·rename_i z2
   rw[hm]
   refine⟨Lay.cyc7,?_⟩
   unfold SetTable.fill at z2
   rw[hm]at z2
   omega
 |some wanted=>
  dsimp only
  have ew:wanted=(us.length+k)*2:=by
   unfold SetTable.roomFor at e
   split at e
   ·injection e with e;rw[<-e,fz]
   ·cases e
  obtain⟨C,lt,le⟩:=Lay.above wanted (by omega)
  have hz:(es.map (·.1)).size=us.length:=by rw[qU2_,T.size]
  obtain⟨t',order,e,pm,ft,mk,_,ld,pl⟩:=Lay.laid_ok C t.finger (t.movedTo (SetTable.sizeAbove wanted-1)) t.led t.plain (es.map (·.1)) (by omega)
  rw[qU2_]at pm ft
  unfold setRelay
  refine qa_ (qs_ ho rfl T.fit ?_)
  dsimp only
  rw[if_neg (by rw[sizeLine_eq];omega)]
  unfold SetTable.relaid
  rw[e]
  refine qa_ (m:=rO es (some (t',order))) (zAw pm λes' p=>?_)
  have sz:es'.size=es.size:=by have:=p.length_eq;simpa using this
  have T':SetT prog w us es' t':=T.perm p (by rw[sz];exact ft) pl ld
  refine wpAny_storeSet_of ho rfl (h _ es' (ep+1) t' (Heap.SameBut.update s.heap a _) (qU_ (Obj.putSet es' t') ho rfl) T' λz=>?_) (fits_of_scanBound T'.lt)
  rw[mk]
  exact⟨C,by omega⟩
theorem zGm{es:Array (Int×Value)}{ep:Nat}{t:SetTable}{Q:Array (Int×Value)->Shared->Prop}(ho:s.heap.get? a=some (bK es ep t))(T:SetT prog w us es t)
  (h:∀(out:Array (Int×Value)) d,out.toList.Perm es.toList->Q out {s with drawn:=d}):wpAny (model prog w) A (setWalk a) Q E s:=by
 have es':s={s with drawn:=s.drawn}:=by cases s;rfl
 unfold setWalk
 refine qa_ (qs_ ho rfl T.fit ?_)
 dsimp only
 refine qa_ (dS ?_)
 cases hb:byT w with
 |true=>
  rw[if_pos rfl]
  refine qa_ (wpAny_askSetting (qb_ ?_))
  rw[es']
  exact h _ _ (jK _ _)
 |false=>
  rw[if_neg ql_]
  split
  ·refine qa_ (tI _ _ _ (by simp) λys d p=>qb_ ?_)
   exact h _ d (by rw[List.toList_toArray];exact p)
  ·have hl:t.led=true:=by rw[T.ld,hb];rfl
   have:(!t.led&&decide (es.size > 1))=false:=by rw[hl];rfl
   refine qa_ (m:=(if (!t.led&&decide (es.size > 1))=true then unsupported "set:maker-not-led" else pure PUnit.unit)) ?_
   rw[this,if_neg ql_]
   refine qb_ (qb_ ?_)
   rw[es']
   exact h _ _ (.refl _)
theorem zFo{o:Addr}{vs:List Str}{Q:Bool->Shared->Prop}(S:SetS prog w a us s.heap)(O:SetS prog w o vs s.heap)(h:Q true s):wpAny (model prog w) A (setsQuiet [o,a]) Q E s:=by
 unfold setsQuiet
 refine qa_ (wpAny_forIn_list _ (λl b s'=>b.1=none/\s'=s/\∀x∈l,x=o\/x=a) _ ?_ ?_ _ _ ⟨rfl,rfl,λx hx=>by simpa using hx⟩)
 ·rintro x rest b s' ⟨hb,rfl,hx⟩
  obtain⟨us',es,ep,t,ho,T⟩:∃us',SetS prog w x us' s'.heap:=by
   rcases hx x (.head _) with rfl|rfl
   ·exact⟨_,O⟩
   ·exact⟨_,S⟩
  refine qa_ (mS ho T.fit ?_)
  refine qa_ (PySem.MeetsSeq2.wpAny_forIn_array _ (λl b s''=>b.1=none/\s''=s'/\∀e∈l,e∈es.toList) _ ?_ ?_ _ _ ⟨rfl,rfl,λe he=>he⟩)
  ·rintro⟨hh,v⟩ rest' b' s'' ⟨hb',rfl,he⟩
   obtain⟨⟨k,hk,_⟩,_⟩:=T.el (hh,v) (he _ (.head _))
   obtain⟨tk,ev⟩:=Value.isStrOf_shape (show Value.isStrOf k v=true from hk)
   subst ev
   exact qb_ ⟨rfl,rfl,λe h=>he e (.tail _ h)⟩
  ·rintro b' s'' ⟨hb',rfl,_⟩
   dsimp only
   rw[hb']
   exact qb_ ⟨rfl,rfl,λx h=>hx x (.tail _ h)⟩
 ·rintro b s' ⟨hb,rfl,_⟩
  dsimp only
  rw[hb]
  exact qb_ h
theorem zFn{o:Addr}{vs:List Str}{es:Array (Int×Value)}{ep:Nat}{t:SetTable}{Q:Array (Int×Value)->Shared->Prop}(S:SetS prog w a us s.heap)(ho:s.heap.get? o=some (bK es ep t))(T:SetT prog w vs es t)
  (h:∀(out:Array (Int×Value)) h' d,out.toList.Perm es.toList->Heap.SameBut a s.heap h'->SetS prog w a us h'->Q out {s with heap:=h',drawn:=d}):wpAny (model prog w) A (setWalkUnseen o [a] (some a)) Q E s:=by
 have wk:wpAny (model prog w) A (setWalk o) Q E s:=zGm ho T λout d p=>h out s.heap d p (Heap.SameBut.refl a s.heap) S
 unfold setWalkUnseen
 refine qa_ (qs_ ho rfl T.fit ?_)
 dsimp only
 refine qa_ (dS ?_)
 split
 ·exact wk
 ·rename_i z
  have hsz:1<es.size:=by
   apply Nat.lt_of_not_le
   intro z2
   apply z
   rw[qS_ z2,Bool.or_true]
  have hp:t.plain=false:=T.pl.resolve_left (by omega)
  refine qa_ (zFo S ⟨es,ep,t,ho,T⟩ ?_)
  rw[if_neg (by simp)]
  obtain⟨ef,epf,tf,hf,F⟩:=id S
  refine qa_ (wpAny_rule ?_)
  refine qa_ (qs_ hf rfl F.fit ?_)
  dsimp only
  split
  ·have F':SetT prog w us ef {tf with led:=tf.led&&t.led,plain:=tf.plain&&t.plain}:=⟨F.el,F.tx,F.nd,F.lt,F.fit,.inr (by show(tf.plain&&t.plain)=false;rw[hp,qE2_]),by show(tf.led&&t.led)=_;rw[F.ld,T.ld,Bool.and_self]⟩
   refine qa_ (wpAny_storeSet_of hf rfl ?_ (fits_of_scanBound F.lt))
   have e:∀hp':Heap,({s with heap:=hp'}:Shared)={s with heap:=hp',drawn:=s.drawn}:=λ_=>rfl
   rw[e]
   exact qb_ (h _ _ _ (.refl _) (Heap.SameBut.update s.heap a _) ⟨ef,epf+1,_,qU_ (Obj.putSet ef _) hf rfl,F'⟩)
  ·have e:s={s with heap:=s.heap,drawn:=s.drawn}:=by cases s;rfl
   rw[e]
   exact qb_ (h _ _ _ (.refl _) (Heap.SameBut.refl a s.heap) S)
theorem SetS.same{h:Heap}{us':List Str}(S:SetS prog w a us h)(n:us'.Nodup)(e:∀x,x∈us↔x∈us'):SetS prog w a us' h:=by
 obtain⟨es,ep,t,ho,T⟩:=S
 obtain⟨vs,hv,pv⟩:=T.tx
 exact⟨es,ep,t,ho,T.el,⟨vs,hv,pv.trans ((qX1_ T.nd n).mpr e)⟩,n,T.lt,T.fit,T.pl,T.ld⟩
theorem zAx{o:Addr}{vs:List Str}{each:Sem Unit}{Q:Unit->Shared->Prop}(ne:a≠o)(S:SetF prog w a us s.heap)(O:SetS prog w o vs s.heap)(hl:us.length+vs.length<32)
  (he:∀(s':Shared) (Q':Unit->Shared->Prop),s'.heap.get? o=s.heap.get? o->Q' () s'->wpAny (model prog w) A each Q' E s')
  (h:∀h' d,Heap.SameBut a s.heap h'->SetF prog w a (aG (us++vs)) h'->Q () {s with heap:=h',drawn:=d}):wpAny (model prog w) A (setMerge a o each) Q E s:=by
 obtain⟨es,ep,t,ho,T⟩:=id O
 have e0:∀s:Shared,s={s with heap:=s.heap,drawn:=s.drawn}:=λs=>by cases s;rfl
 unfold setMerge
 rw[if_neg (by simpa using ne)]
 refine qa_ (qs_ ho rfl T.fit ?_)
 dsimp only
 by_cases z0:es.size=0
 ·rw[if_pos (by simpa[Array.isEmpty_iff_size_eq_zero]using z0)]
  have ev:vs=[]:=qM1_ (by rw[<-T.size];exact z0)
  subst ev
  rw[e0 s]
  refine qb_ (h _ _ (Heap.SameBut.refl a s.heap) ?_)
  obtain⟨es1,ep1,t1,h1,T1,m1⟩:=S
  have en:∀x,x∈us↔x∈aG (us++[]):=λx=>by rw[cM,qN_]
  obtain⟨vs1,hv1,pv1⟩:=T1.tx
  refine⟨es1,ep1,t1,h1,⟨T1.el,⟨vs1,hv1,pv1.trans ((qX1_ T1.nd (cZ _)).mpr en)⟩,cZ _,T1.lt,T1.fit,T1.pl,T1.ld⟩,λz=>m1 ?_⟩
  refine qY1_.mpr λx hx=>?_
  have:=(en x).mp hx
  rw[z]at this
  exact nomatch this
 rw[if_neg (by simpa[Array.isEmpty_iff_size_eq_zero]using z0)]
 have hp:t.plain=false:=T.pl.resolve_left z0
 have hv0:vs≠[]:=λz=>z0 (by rw[T.size,z];rfl)
 have nn:aG (us++vs)≠[]:=λz=>by
  obtain⟨x,hx⟩:=qF1_ _ hv0
  have:=(cM (us++vs) x).mpr (qq_ _ hx)
  rw[z]at this
  exact nomatch this
 have full:∀h',SetS prog w a (aG (us++vs)) h'->SetF prog w a (aG (us++vs)) h':=λh' ⟨es,ep,t,ho,T⟩=>⟨es,ep,t,ho,T,λz=>absurd z nn⟩
 refine qa_ (zBd S (by rw[T.size];exact hl) λh1 es1 ep1 t1 b1 g1 T1 m1=>?_)
 have ho1:h1.get? o=some (bK es ep t):=by rw[b1.2 o (Ne.symm ne)];exact ho
 refine qa_ (qs_ (s:={s with heap:=h1}) g1 rfl T1.fit ?_)
 dsimp only
 have fz:t1.place.size=us.length:=by
  have:=T1.fit
  simp only[SetTable.fits,Bool.and_eq_true,beq_iff_eq]at this
  rw[this.1,T1.size]
 have nil:t1.fill=0->us=[]:=λz=>qM1_ (by unfold SetTable.fill at z;omega)
 cases er:t1.road t with
 |slotForSlot=>
  dsimp only
  have f0:t1.fill=0:=by
   unfold SetTable.road at er
   split at er
   ·cases er
   ·rename_i q;simpa using q
  have eu:=nil f0
  subst eu
  have T2:SetT prog w (aG ([]++vs)) es {t with finger:=t1.finger,led:=t1.led&&t.led,moves:=t1.moves,plain:=t1.plain&&t.plain}:=by
   obtain⟨vs1,hv1,pv1⟩:=T.tx
   exact⟨T.el,⟨vs1,hv1,pv1.trans ((qX1_ T.nd (cZ _)).mpr λx=>by rw[cM,ql1_])⟩,cZ _,T.lt,T.fit,.inr (by show(t1.plain&&t.plain)=false;rw[hp,qE2_]),by show(t1.led&&t.led)=_;rw[T1.ld,T.ld,Bool.and_self]⟩
  refine wpAny_storeSet_of g1 rfl ?_ (fits_of_scanBound T.lt)
  exact h _ s.drawn (b1.trans (Heap.SameBut.update h1 a _)) (full _ ⟨es,ep1+1,_,qU_ (Obj.putSet es _) g1 rfl,T2⟩)
 |clean=>
  dsimp only
  have f0:t1.fill=0:=by
   unfold SetTable.road at er
   split at er
   ·cases er
   ·rename_i q;simpa using q
  have eu:=nil f0
  subst eu
  obtain⟨C,hk⟩:=m1 rfl
  obtain⟨t',order,e,pm,ft,mk,_,ld,pl⟩:=Lay.laid_ok C t1.finger t1.moves (t1.led&&t.led) (t1.plain&&t.plain) (es.map (·.1)) (by rw[qU2_];exact hk)
  rw[qU2_]at pm ft
  rw[e]
  refine qa_ (m:=rO es (some (t',order))) (zAw pm λes' p=>?_)
  have sz:es'.size=es.size:=by have:=p.length_eq;simpa using this
  have T2:SetT prog w (aG ([]++vs)) es' t':=by
   obtain⟨vs1,hv1,pv1⟩:=T.tx
   obtain⟨vs',hv',pv'⟩:=lA (p.map (·.2)) hv1
   exact⟨T.el.perm p,⟨vs',hv',(pv'.trans pv1).trans ((qX1_ T.nd (cZ _)).mpr λx=>by rw[cM,ql1_])⟩,cZ _,by rw[sz];exact T.lt,by rw[sz];exact ft,.inr (by rw[pl,hp,qE2_]),by rw[ld,T1.ld,T.ld,Bool.and_self]⟩
  refine wpAny_storeSet_of g1 rfl ?_ (fits_of_scanBound T2.lt)
  exact h _ s.drawn (b1.trans (Heap.SameBut.update h1 a _)) (full _ ⟨es',ep1+1,_,qU_ (Obj.putSet es' _) g1 rfl,T2⟩)
 |oneByOne=>
  dsimp only
  refine qa_ (zFn (s:={s with heap:=h1}) ⟨es1,ep1,t1,g1,T1⟩ ho1 T λout h2 d p b2 S2=>?_)
  have ho2:h2.get? o=some (bK es ep t):=by rw[b2.2 o (Ne.symm ne)];exact ho1
  have b12:=b1.trans b2
  refine qa_ (PySem.MeetsSeq2.wpAny_forIn_array _ (λl _ s'=>∃(us':List Str) (h':Heap),s'={s with heap:=h',drawn:=d}/\Heap.SameBut a s.heap h'/\SetS prog w a us' h'/\(∀e∈l,e∈es.toList)/\us'.length+l.length<32/\∀y,(y∈us'\/∃e∈l,(PySem.strKind prog w).is y e.2=true)↔(y∈us\/y∈vs)) _ ?_ ?_ _ _ ?_)
  ·rintro⟨hh,v⟩ rest b s' ⟨us',h',rfl,b',S',hm,hlen,hy⟩
   obtain⟨⟨k,hk,eh⟩,_⟩:=T.el (hh,v) (hm _ (.head _))
   obtain⟨tk,ev⟩:=Value.isStrOf_shape (show Value.isStrOf k v=true from hk)
   subst ev
   have eh:hh=(PySem.strKind prog w).hash k:=eh
   subst eh
   rw[qI_]at hlen
   have hb4:scanBound=4096:=rfl
   refine qa_ (qC_ (vD (s:={s with heap:=h',drawn:=d}) S' (by omega) λbb h3 b3 S3=>?_))
   have b13:=b'.trans b3
   have ho3:h3.get? o=some (bK es ep t):=by rw[b13.2 o (Ne.symm ne)];exact ho
   refine qa_ (he _ _ (by show h3.get? o=s.heap.get? o;rw[ho3,ho]) ?_)
   refine qa_ (qs_ (s:={s with heap:=h3,drawn:=d}) ho3 rfl T.fit ?_)
   rw[if_neg (by simp)]
   refine qb_ ⟨cV us' k,h3,rfl,b13,S3,λe q=>hm e (.tail _ q),?_,λy=>?_⟩
   ·have:(cV us' k).length<=us'.length+1:=by
     unfold cV
     split
     ·omega
     ·rw[qh_];exact qe_ _
    omega
   ·rw[zBh,<-hy y]
    have isk:(PySem.strKind prog w).is y (.str k tk)=true↔y=k:=⟨λq=>by
     obtain⟨u,q⟩:=Value.isStrOf_shape (show Value.isStrOf y (.str k tk)=true from q)
     injection q with q1 q2
     exact q1.symm,λq=>by subst q;exact hk⟩
    constructor
    ·rintro ((q|q)|⟨e,q1,q2⟩)
     ·exact .inl q
     ·exact .inr ⟨_,.head _,isk.mpr q⟩
     ·exact .inr ⟨e,.tail _ q1,q2⟩
    ·rintro (q|⟨e,q1,q2⟩)
     ·exact .inl (.inl q)
     ·rcases qy_.mp q1 with rfl|q1
      ·exact .inl (.inr (isk.mp q2))
      ·exact .inr ⟨e,q1,q2⟩
  ·rintro b s' ⟨us',h',rfl,b',S',_,_,hy⟩
   refine qb_ (h h' d b' (full _ (S'.same (cZ _) λx=>?_)))
   rw[cM,qp_,<-hy x]
   exact⟨.inl,λq=>q.elim id λ⟨_,q,_⟩=>nomatch q⟩
  ·refine⟨us,h2,rfl,b12,S2,λe q=>p.mem_iff.mp q,?_,λy=>?_⟩
   ·have h1:=p.length_eq
    have h2:es.toList.length=vs.length:=by rw[qt_,T.size]
    omega
   ·rw[T.mem y]
    exact⟨λq=>q.imp id λ⟨e,q1,q2⟩=>⟨e,p.mem_iff.mp q1,q2⟩,λq=>q.imp id λ⟨e,q1,q2⟩=>⟨e,p.mem_iff.mpr q1,q2⟩⟩
end
end L2
namespace L2
open PySem PySem.Spec PyProof.Rows
theorem zCR:entryFor table "set.__or__"=some Builtin.«frozenset.__or__»:=entryFor_alias (id':="frozenset.__or__") (by kernel_rfl) rfl (by decide +kernel) (by kernel_rfl)
section
variable{prog:Program}{w:World}{A:Around}{E:Value->Shared->Prop}{s:Shared}{a:Addr}{us:List Str}
open PySem.Builtin.Frozenset in
def nU(id:String)(l:Addr)(r:Value):Sem Value:=do
 let result <- copyOf l
 if r != .ref l then holding [result] (updateFrom id (<- addrOf result) r)
 return result
open PySem.Builtin.Frozenset in
def orB(args:Args):Sem Fin:=do
 let (self,other) <- slot1 "__or__" args
 let (l,r):=if false then(other,self) else(self,other)
 if !(<- isAnySet l <&&> isAnySet r) then rule s!"frozenset.{"__or__"}.declined";return <- ret .notImplemented
 ret (<- nU s!"frozenset.{"__or__"}" (<- addrOf l) r)
theorem zCK:Builtin.«frozenset.__or__»=orB:=rfl
theorem kY{Q:Bool->Shared->Prop}(ht:s.TypeIs (.ref a) "set")(h:Q true s):wpAny (model prog w) A (Builtin.Frozenset.isAnySet (.ref a)) Q E s:=by
 unfold Builtin.Frozenset.isAnySet
 refine qa_ (wpAny_isInstance (T:="set") (b:=true) ht nV ?_)
 exact qb_ h
theorem SetS.ty{h:Heap}(S:SetS prog w a us s.heap):s.TypeIs (.ref a) "set":=by
 obtain⟨es,ep,t,ho,T⟩:=S
 exact⟨_,ho,rfl⟩
theorem zGp{Q:Value->Shared->Prop}(S:SetS prog w a us s.heap)(hl:us.length<32)
  (h:∀h' d,SetF prog w s.heap.objs.size (aG us) h'->s.heap.objs.size<h'.objs.size->(∀b o,b<s.heap.objs.size->s.heap.get? b=some o->h'.get? b=some o)->Q (.ref s.heap.objs.size) {s with heap:=h',drawn:=d}):
  wpAny (model prog w) A (Builtin.Frozenset.copyOf a) Q E s:=by
 have ht:s.TypeIs (.ref a) "set":=SetS.ty (h:=s.heap) S
 obtain⟨es,ep,t,ho,T⟩:=id S
 have la:a<s.heap.objs.size:=qf_ ho
 unfold Builtin.Frozenset.copyOf Builtin.Frozenset.baseOf newSet
 refine qa_ (qa_ (wpAny_isInstance (T:="set") (b:=true) ht nV (qb_ ?_)))
 rw[if_pos rfl]
 refine qa_ (qa_ (dS ?_))
 dsimp only
 refine qR_ ?_ (by size_fits)
 refine qa_ (qb_ ?_)
 have g0:(s.heap.push (bK #[] 0 (.fresh 0 0 (!byT w)))).get? s.heap.objs.size=some (bK #[] 0 (.fresh 0 0 (!byT w))):=qj_ _ rfl
 have F0:SetF prog w s.heap.objs.size [] (s.heap.push (bK #[] 0 (.fresh 0 0 (!byT w)))):=⟨#[],0,.fresh 0 0 (!byT w),g0,⟨λe he=>by simp at he,⟨[],.nil,.refl _⟩,qN1_,by decide,by simp[SetTable.fits,SetTable.fresh,SetTable.fill],.inl rfl,rfl⟩,λ_=>rfl⟩
 have S1:SetS prog w a us (s.heap.push (bK #[] 0 (.fresh 0 0 (!byT w)))):=⟨es,ep,t,qd_ _ ho,T⟩
 refine qa_ (zAx (s:={s with heap:=s.heap.push (bK #[] 0 (.fresh 0 0 (!byT w)))}) (qE_ la) F0 S1 (by simpa using hl) (λs' Q' _ q=>qb_ q) λh' d b F=>?_)
 rw[ql1_]at F
 refine qb_ (h h' d F (by rw[b.1,qx_];omega) λx o hx e=>?_)
 rw[b.2 x (qm_ hx)]
 exact qd_ _ e
theorem zJo{o:Addr}{vs:List Str}{Q:Value->Shared->Prop}(ne:o≠a)(S:SetS prog w a us s.heap)(O:SetS prog w o vs s.heap)(hl:us.length+vs.length<32)
  (h:∀h' d,SetS prog w s.heap.objs.size (aG (us++vs)) h'->(∀b o,b<s.heap.objs.size->s.heap.get? b=some o->h'.get? b=some o)->Q (.ref s.heap.objs.size) {s with heap:=h',drawn:=d}):
  wpAny (model prog w) A (binaryOp .BitOr (.ref a) (.ref o)) Q E s:=by
 have ht:s.TypeIs (.ref a) "set":=SetS.ty (h:=s.heap) S
 have ht2:s.TypeIs (.ref o) "set":=SetS.ty (h:=s.heap) O
 obtain⟨es,ep,t,ho,T⟩:=id O
 refine wpAny_binaryOp_same (op:=.BitOr) (T:="set") ht ht2 F.fills_set_or F.slot_set_or (qJ_ F.slot_set_or ht zCR ?_ (F.args_set_or_2 _ _))
 rw[zCK]
 show wpAny _ _ (do
  if !(<- Builtin.Frozenset.isAnySet (.ref a) <&&> Builtin.Frozenset.isAnySet (.ref o)) then rule s!"frozenset.{"__or__"}.declined";return <- ret .notImplemented
  ret (<- nU s!"frozenset.{"__or__"}" (<- Builtin.Frozenset.addrOf (.ref a)) (.ref o))) _ _ _
 refine qa_ (qa_ (kY ht ?_))
 refine kY ht2 ?_
 rw[if_neg (by simp)]
 refine qa_ (qb_ ?_)
 have lo:o<s.heap.objs.size:=qf_ ho
 unfold nU
 refine qa_ (qa_ (zGp S (by omega) λh1 d1 F1 z1 k1=>?_))
 rw[if_pos (by simpa using ne)]
 have ho1:h1.get? o=some (bK es ep t):=k1 o _ lo ho
 have ht3:Shared.TypeIs {s with heap:=h1,drawn:=d1} (.ref o) "set":=⟨_,ho1,rfl⟩
 unfold Builtin.Frozenset.updateFrom
 refine qa_ (qb_ (qa_ (qC_ (qa_ (kY ht3 ?_)))))
 rw[if_pos rfl]
 refine qa_ (qb_ ?_)
 unfold Builtin.Frozenset.merge
 refine qa_ (wpAny_setEpoch_of (s:={s with heap:=h1,drawn:=d1}) ho1 rfl T.fit ?_)
 have ln:(aG us).length<=us.length:=by
  have:∀(l m:List Str),(l.foldl cV m).length<=m.length+l.length:=by
   intro l
   induction l with
   |nil=>exact λm=>qe_ _
   |cons x l ih=>
    intro m
    rw[qw1_,qI_]
    refine qi_ (ih _) ?_
    unfold cV
    split
    ·omega
    ·rw[qh_,qS1_];omega
  have:=this us []
  simpa[aG]using this
 refine zAx (s:={s with heap:=h1,drawn:=d1}) (qE_ lo) F1 ⟨es,ep,t,ho1,T⟩ (by omega) (λs' Q' e q=>?_) λh2 d2 b2 F2=>?_
 ·unfold Builtin.Frozenset.unchanged
  refine qa_ (wpAny_setEpoch_of (s:=s') (by rw[e];exact ho1) rfl T.fit ?_)
  rw[if_neg (by simp)]
  exact qb_ q
 ·refine qb_ ?_
  refine qb_ ⟨_,rfl,by simp,h h2 d2 (F2.sets.same (cZ _) λx=>?_) λb o' hb e=>?_⟩
  ·rw[cM,cM,qp_,qp_,cM]
  ·rw[b2.2 b (qm_ hb)]
   exact k1 b o' hb e
end
end L2
namespace L2
open PySem PySem.Spec PyProof.Rows
section
variable{prog:Program}{w:World}{A:Around}{E:Value->Shared->Prop}{s:Shared}
abbrev dB(w:World):Obj:=bK #[] 0 (.fresh 0 0 (!byT w))
theorem zBc{x:Value}{P:Shared->Prop}{Q:Value->Shared->Prop}(hq:∀s',P s'->Q (.ref s.heap.objs.size) s')
  (hb:wpAny (model prog w) A.in1.in1 (Builtin.«set.__init__» ⟨[.ref s.heap.objs.size]++[x],[]⟩) (λr s'=>r=.done (.ret .none)/\P s') E {s with heap:=s.heap.push (dB w)}):
  wpAny (model prog w) A (call (.type "set") [x]) Q E s:=by
 obtain⟨c,tl,hmro⟩:=F.called_set.mro
 have hmade:=F.called_set.made
 have hsub:=F.called_set.sub
 refine wpAny_call (codeAny_of_tree ?_)
 show wpAny _ _ (callAny (.type "set") _) _ _ _
 refine qb_ ⟨Code.quiet_builtin _ (by decide +kernel),qY_ F.entry_type_call ?_⟩
 rw[Around.under_plain (weight_type_call_type "set" [x] []) rfl]
 have h1:=F.called_set.notType
 have h2:=F.called_set.canCreate
 have hct:=F.typeCall_set_1 x
 repeat (any_goals (first|assumption|wp_step))
 refine codeAny_mono (tM x (E:=E) (Q₁:=λobj s₁=>obj=.ref s.heap.objs.size/\s₁={s with heap:=s.heap.push (dB w)}) ⟨rfl,rfl⟩) λr s₁ hr=>?_
 cases r with
 |error e=>exact hr
 |ok fl=>
  cases fl with
  |ret obj=>
   obtain⟨rfl,rfl⟩:=hr
   have hS:(s.heap.push (dB w)).get? s.heap.objs.size=some (dB w):=qj_ _ rfl
   have hT:Shared.TypeIs {s with heap:=s.heap.push (dB w)} (.ref s.heap.objs.size) "set":=⟨_,hS,rfl⟩
   have hli:=F.called_set.init.lookup
   have hbi:=F.called_set.init.bind (.ref s.heap.objs.size)
   repeat (any_goals (first|assumption|wp_step))
   refine codeAny_mono (codeAny_call_builtin (R:=wants (λr s₂=>r=.none/\P s₂) E) F.called_set.init.plain F.entry_set_init (check_set_init_1 hT (wpAny_mono hb (λr s' ⟨e,p⟩=>?_) λ_ _ h=>h))) λr₂ s₂ hr₂=>?_
   ·subst e
    exact⟨rfl,p⟩
   ·cases r₂ with
    |error e=>exact hr₂
    |ok fl₂=>
     cases fl₂ with
     |ret r=>
      obtain⟨rfl,p⟩:=hr₂
      repeat (any_goals (first|assumption|wp_step))
      exact hq _ p
     |_=>exact hr₂.elim
  |_=>exact hr.elim
theorem zIc{h:Heap}{a:Addr}(e:h.get? a=some (dB w)):SetS prog w a [] h:=⟨#[],0,.fresh 0 0 (!byT w),e,⟨λe he=>by simp at he,⟨[],.nil,.refl _⟩,qN1_,by decide,by simp[SetTable.fits,SetTable.fresh,SetTable.fill],.inl rfl,rfl⟩⟩
theorem zGo{l:Addr}{o:Obj}{T:String}{R:Shared->Prop}{Q:Value->Shared->Prop}(ho:s.heap.get? l=some o)(hc:o.cls=.type T)(hs:isSubtype (.type T) (.type "set")=pure false)(hf:isSubtype (.type T) (.type "frozenset")=pure false)(hne:(Value.type T==Value.type "dict")=false)
  (hit:wpAny (model prog w) A.in1.in1 (pyIter (.ref l)) (λi s1=>wpAny (model prog w) A.in1.in1 (runValue (.builtin "set.update.loop" ⟨[.ref s.heap.objs.size,i],[]⟩)) (λ_ s'=>R s') E s1) E {s with heap:=s.heap.push (dB w)})
  (h:∀s',R s'->Q (.ref s.heap.objs.size) s'):wpAny (model prog w) A (call (.type "set") [.ref l]) Q E s:=by
 refine zBc h ?_
 have ho':(s.heap.push (dB w)).get? l=some o:=qd_ _ ho
 have hS:(s.heap.push (dB w)).get? s.heap.objs.size=some (dB w):=qj_ _ rfl
 obtain⟨ocls,odict,odata,oslots⟩:=o
 simp only at hc
 subst hc
 unfold Builtin.«set.__init__» noKeywords Builtin.Frozenset.updateFrom
 generalize hPI:pyIter=PI at hit
 wp_walk
 exact wpAny_mono hit (λa s1 h=>qa_ (wpAny_mono h (λ_ s2 r=>qb_ (qb_ ⟨rfl,r⟩)) λ_ _ h=>h)) λ_ _ h=>h
def xY(s:Shared)(P:Heap->Prop)(s':Shared):Prop:=∃h' tk,s'={s with heap:=h',toks:=tk}/\P h'/\∀b o,b<s.heap.objs.size->s.heap.get? b=some o->h'.get? b=some o
theorem zW{o:Obj}{G:Array GenState->Array GenState->Prop}{P:Heap->Prop}{s':Shared}(hm:Moved [s.heap.objs.size,(s.heap.push (dB w)).objs.size] G {s with heap:=(s.heap.push (dB w)).push o} s')(hg:s'.gens=s.gens)(p:P s'.heap):xY s P s':=by
 obtain⟨h',g',d',tk',os'⟩:=s'
 have ed:d'=s.drawn:=hm.drawn
 have eo:os'=s.os:=hm.os
 have hg:g'=s.gens:=hg
 subst hg ed eo
 refine⟨h',tk',rfl,p,λb o hb e=>hm.heap b o ?_ (qd_ _ (qd_ _ e))⟩
 rw[qx_]
 simp only[List.mem_cons,List.not_mem_nil,or_false,not_or]
 exact⟨qm_ hb,qm_ (qk1_ hb)⟩
section
variable{l:Addr}{items:Array Value}{Q:Value->Shared->Prop}(hh:A.handled=none)(hl:s.heap.IsTuple l items)
include hh hl
theorem zAv{R:Heap->Prop}(hw:∀(o:Obj) (lt:l<s.heap.objs.size) (hh3:A.in1.in1.in1.handled=none) (ne:l≠(s.heap.push (dB w)).objs.size) (nf:s.heap.objs.size∉[(s.heap.push (dB w)).objs.size,l]) (s1:Shared),s1={s with heap:=(s.heap.push (dB w)).push {cls:=.type "tuple_iterator",data:=.fields #[.ref l,.int 0 0]}}->s1.heap.get? s.heap.objs.size=some (dB w)->s1.heap.IsTupleIter (s.heap.push (dB w)).objs.size l 0/\s1.heap.IsTuple l items ->
   codeAny (model prog w) A.in1.in1 (.builtin "set.update.loop" ⟨[.ref s.heap.objs.size,.ref (s.heap.push (dB w)).objs.size],[]⟩) (wants (λ_ s'=>xY s R s') E) s1)
  (h:∀(h':Heap) (tk:Nat),R h'->(∀b o,b<s.heap.objs.size->s.heap.get? b=some o->h'.get? b=some o)->Q (.ref s.heap.objs.size) {s with heap:=h',toks:=tk}):wpAny (model prog w) A (call (.type "set") [.ref l]) Q E s:=by
 obtain⟨ol,hol,hcl,nl,hdl⟩:=id hl
 have hlS:l<s.heap.objs.size:=qf_ hol
 refine zGo (R:=xY s R) hol hcl F.sub_tuple_set F.sub_tuple_frozenset (by decide) (wpAny_pyIter_tuple (hl.push _) (wpAny_runValue ?_)) λs' ⟨h',tk,e,p,k⟩=>by subst e;exact h h' tk p k
 refine hw ol hlS (by simp[hh]) ?_ ?_ _ rfl (qd_ _ (qj_ _ rfl)) ⟨⟨_,qj_ _ rfl,rfl,rfl⟩,(hl.push _).push _⟩
 ·rw[qx_];exact qm_ (qk1_ hlS)
 ·rw[qx_]
  simp only[List.mem_cons,List.not_mem_nil,or_false,not_or]
  exact⟨qm_ (qk2_ _),qE_ hlS⟩
theorem zEl{ss:List Str}(hi:StrsAre items.toList ss)(hb:ss.length+1<scanBound)
  (h:∀(h':Heap) (tk:Nat),SetS prog w s.heap.objs.size (aG ss) h'->(∀b o,b<s.heap.objs.size->s.heap.get? b=some o->h'.get? b=some o)->Q (.ref s.heap.objs.size) {s with heap:=h',toks:=tk}):
  wpAny (model prog w) A (call (.type "set") [.ref l]) Q E s:=by
 have hz:items.size=ss.length:=by have:=gV hi;simpa using this
 have hm:eW (λi=>ss.getD i ⟨#[]⟩) items.size=aG ss:=by rw[hz];exact uV λi hi=>by simp[hi]
 refine zAv hh hl (λo lt hh3 ne nf s1 e1 g1 st=>?_) h
 subst e1
 exact zAf ((Walks.tuple hh3 _ l ne items).toS) s.heap.objs.size nf (λi=>ss.getD i ⟨#[]⟩) (λi v hv=>gG hi i v (by rw[qr_];exact hv)) (by rw[hm];exact qu2_ (Nat.succ_le_succ (WordM.nodup_len (cZ ss) λx hx=>(cM ss x).mp hx)) hb) (items.size-0) 0 _ (by omega) (qu_ _) st (zIc g1) λs' m S'=>zW m m.gens (by rw[hm]at S';exact S')
theorem zDT{bs:List Bool}(hi:items.toList=bs.map Value.bool)
  (h:∀(h':Heap) (tk:Nat),SetBl w s.heap.objs.size (inF bs) (inT bs) h'->(∀b o,b<s.heap.objs.size->s.heap.get? b=some o->h'.get? b=some o)->Q (.ref s.heap.objs.size) {s with heap:=h',toks:=tk}):
  wpAny (model prog w) A (call (.type "set") [.ref l]) Q E s:=by
 have hz:items.size=bs.length:=by have:=congrArg List.length hi;simpa using this
 refine zAv hh hl (λo lt hh3 ne nf s1 e1 g1 st=>?_) h
 subst e1
 exact zAW ((Walks.tuple hh3 _ l ne items).toS) s.heap.objs.size nf bs hz (λi v hv=>zCx hi i v (by rw[qr_];exact hv)) (items.size-0) 0 _ (by omega) (qu_ _) st ⟨0,g1⟩ λs' m S'=>zW m m.gens S'
end
end
end L2
namespace L2
open PySem PySem.Spec PyProof.Rows
theorem zH6:isSubtype (.type "dict") (.type "frozenset")=pure false:=by rw[isSubtype_type];kernel_rfl
section
variable{prog:Program}{w:World}{A:Around}{E:Value->Shared->Prop}{s:Shared}{a:Addr}{us:List Str}
theorem zAP:∀{l:List DictEntry}{kvs:List (Key×Value)},Pairs (bN prog w) l kvs->∀{us:List Str},kvs.map (·.1)=us.map Sum.inr->l.length=us.length/\∀(i:Nat) (e:DictEntry),l[i]?=some e->∃x,us[i]?=some x/\(bN prog w).is (Sum.inr x) e.key=true
 |_,_,.nil,us,h=>by
  cases us with
  |nil=>exact⟨rfl,λi e z=>by simp at z⟩
  |cons x us=>simp at h
 |_,_,.cons hk hv r,us,h=>by
  cases us with
  |nil=>simp at h
  |cons x us=>
   simp only[List.map_cons,List.cons.injEq]at h
   obtain⟨h1,h2⟩:=h
   obtain⟨a,b⟩:=zAP r h2
   refine⟨by simp[a],λi e z=>?_⟩
   cases i with
   |zero=>
    simp only[List.getElem?_cons_zero,Option.some.injEq]at z
    subst z
    refine⟨x,rfl,?_⟩
    rw[<-h1]
    first|exact hk|exact hv
   |succ i=>exact b i e (by simpa using z)
theorem zDG{d:Addr}{ob:Obj}{es:Array DictEntry}{ep:Nat}{us:List Str}{Q:PUnit->Shared->Prop}(ne:d≠a)(hob:s.heap.get? d=some ob)(hd:ob.data=.dict es ep)(hk:KeysOf (bN prog w) es)(hl:es.size=us.length)
    (hi:∀(i:Nat) (e:DictEntry),es[i]?=some e->∃x,us[i]?=some x/\(bN prog w).is (Sum.inr x) e.key=true) (S:SetS prog w a [] s.heap) (hb:us.length<4000)
    (h:∀h',Heap.SameBut a s.heap h'->SetS prog w a (aG us) h'->Q ⟨⟩ {s with heap:=h'}):
    wpAny (model prog w) A (forIn [:es.size] PUnit.unit λi __s=>do
              let __do_lift <- dictEntries d
              match __do_lift[i]? with
                |some e=>do
                  let _ <- holding [e.key] (setAddHashed a e.key e.hash)
                  let __do_lift <- dictEpoch d
                  if (__do_lift != ep) = true then do
                      unsupported (toString "set.__init__"++toString ":changed-during-callback")
                      pure (ForInStep.yield PUnit.unit)
                    else pure (ForInStep.yield PUnit.unit)
                |x=>do
                  unsupported "internal:set-from-dict"
                  pure (ForInStep.yield PUnit.unit)) Q E s:=by
  rw[Std.Legacy.Range.forIn_eq_forIn_range']
  have hb4:scanBound=4096:=rfl
  refine wpAny_forIn_list _ (λl _ s'=>∃(k:Nat) (h':Heap),l=List.range' k (es.size-k) 1/\k<=es.size/\s'={s with heap:=h'}/\Heap.SameBut a s.heap h'/\SetS prog w a (aG (us.take k)) h') Q ?_ ?_ _ _ ?_
  · rintro x rest b s' ⟨k,h',el,hk',rfl,b',S'⟩
    have hlt:k<es.size:=by
      apply Nat.lt_of_not_le
      intro z
      rw[show es.size-k=0 by omega]at el
      cases el
    rw[show es.size-k=(es.size-(k+1))+1 by omega,List.range'_succ]at el
    obtain⟨rfl,rfl⟩:x=k/\rest=List.range' (k+1) (es.size-(k+1)) 1:=by injection el with e1 e2;exact⟨e1,e2⟩
    have ho':h'.get? d=some ob:=by rw[b'.2 d ne];exact hob
    refine qa_ (wpAny_dictEntries (s:={s with heap:=h'}) ho' hd ?_)
    have ee:es[x]?=some es[x]:=qP_ hlt
    rw[ee]
    dsimp only
    obtain⟨y,ey,iy⟩:=hi x _ ee
    obtain⟨key,hkk,hh⟩:=hk es[x] (Array.getElem_mem hlt)
    have:key=Sum.inr y:=(bN prog w).inj _ _ _ hkk iy
    subst this
    obtain⟨tk,ev⟩:=Value.isStrOf_shape (show Value.isStrOf y es[x].key=true from iy)
    rw[ev,hh]
    have ln:(aG (us.take x)).length<=x:=by
      have:=WordM.nodup_len (cZ (us.take x)) (m:=us.take x) λz hz=>(cM _ z).mp hz
      rw[qO_]at this
      omega
    refine qa_ (qC_ (vD (s:={s with heap:=h'}) (x:=y) S' (by omega) λbb h3 b3 S3=>?_))
    have b13:=b'.trans b3
    have ho3:h3.get? d=some ob:=by rw[b13.2 d ne];exact hob
    refine qa_ (wpAny_dictEpoch (s:={s with heap:=h3}) ho3 hd ?_)
    rw[if_neg (by simp)]
    refine qb_ ⟨x+1,h3,rfl,hlt,rfl,b13,?_⟩
    have:aG (us.take (x+1))=cV (aG (us.take x)) y:=by
      rw[qr1_,ey]
      unfold aG
      rw[qL2_]
      rfl
    rw[this]
    exact S3
  · rintro b s' ⟨k,h',el,hk',rfl,b',S'⟩
    have:k=es.size:=by
      apply Nat.le_antisymm hk'
      apply Nat.le_of_not_lt
      intro z
      have:=congrArg List.length el
      rw[List.length_range']at this
      simp at this
      omega
    subst this
    rw[hl,qd1_]at S'
    exact h h' b' S'
  · refine⟨0,s.heap,?_,qu_ _,rfl,Heap.SameBut.refl a s.heap,S⟩
    show List.range' 0 ((es.size-0+1-1) / 1) 1=_
    rw[Nat.div_one,Nat.add_sub_cancel]
theorem zDU{d:Addr}{kvs:List (Key×Value)}{ep:Nat}{us:List Str}{Q:Value->Shared->Prop}(hsm:(d==sysModules)=false)(D:s.heap.DictAt (bN prog w) d kvs ep)(hks:kvs.map (·.1)=us.map Sum.inr)(hb:us.length<32)
  (h:∀(h':Heap),SetS prog w s.heap.objs.size (aG us) h'->(∀b o,b<s.heap.objs.size->s.heap.get? b=some o->h'.get? b=some o)->Q (.ref s.heap.objs.size) {s with heap:=h'}):
  wpAny (model prog w) A (call (.type "set") [.ref d]) Q E s:=by
 obtain⟨ob,es,hob,hex,hd,hk,hp,hnd⟩:=id D
 have ld:d<s.heap.objs.size:=qf_ hob
 refine zBc (P:=λs'=>∃h',s'={s with heap:=h'}/\SetS prog w s.heap.objs.size (aG us) h'/\∀b o,b<s.heap.objs.size->s.heap.get? b=some o->h'.get? b=some o) (λs' ⟨h',e,p,k⟩=>by subst e;exact h h' p k) ?_
 have hS:(s.heap.push (dB w)).get? s.heap.objs.size=some (dB w):=qj_ _ rfl
 have hT:Shared.TypeIs {s with heap:=s.heap.push (dB w)} (.ref s.heap.objs.size) "set":=⟨_,hS,rfl⟩
 have hob':(s.heap.push (dB w)).get? d=some ob:=qd_ _ hob
 have htd:Shared.TypeIs {s with heap:=s.heap.push (dB w)} (.ref d) "dict":=⟨_,hob',hex.1⟩
 have hsds:=F.sub_dict_set
 have hsdf:=zH6
 unfold Builtin.«set.__init__» noKeywords Builtin.Frozenset.updateFrom
 have hdt:(Value.type "dict"==Value.type "dict")=true:=by decide
 generalize hRM:setRoomFor=RM
 wp_walk
 subst hRM
 rw[hd]
 refine qb_ (qa_ (wpAny_dictEntries hob' hd ?_))
 obtain⟨el,ei⟩:=zAP hp hks
 rw[qt_]at el
 have F0:SetF prog w s.heap.objs.size [] (s.heap.push (bK #[] 0 (.fresh 0 0 (!byT w)))):=⟨#[],0,.fresh 0 0 (!byT w),hS,⟨λe he=>by simp at he,⟨[],.nil,.refl _⟩,qN1_,by decide,by simp[SetTable.fits,SetTable.fresh,SetTable.fill],.inl rfl,rfl⟩,λ_=>rfl⟩
 refine qa_ (zBd (s:={s with heap:=s.heap.push (bK #[] 0 (.fresh 0 0 (!byT w)))}) F0 (by simpa[el]using hb) λh1 es1 ep1 t1 b1 g1 T1 _=>?_)
 have ne:d≠s.heap.objs.size:=qm_ ld
 have ob1:h1.get? d=some ob:=by rw[b1.2 d ne];exact hob'
 refine qa_ (wpAny_dictEntries (s:={s with heap:=h1}) ob1 hd ?_)
 refine qa_ (zDG (s:={s with heap:=h1}) ne ob1 hd hk el (λi e q=>ei i e (by rw[qr_];exact q)) ⟨es1,ep1,t1,g1,T1⟩ (by omega) λh2 b2 S2=>?_)
 have b12:=b1.trans b2
 refine qb_ (qb_ ?_)
 refine⟨rfl,h2,rfl,S2,λb o hb e=>?_⟩
 rw[b12.2 b (qm_ hb)]
 exact qd_ _ e
end
end L2
namespace L2
open PySem PySem.Spec PyProof.Rows
section
variable{X:Cx}{F:Fm}
theorem zJ(hc:X.calm=true):CallR X (.type "set") (zCF X.prog X.w X.K):=by
 intro pins s σ H xs us Q I r h
 obtain⟨p,ss,rfl,hq,hz,q⟩:=h
 obtain⟨u,rfl,rx⟩:=cQ r
 cases rx
 obtain⟨its,rv,pl,hz'⟩:=I.tuple hq
 refine zEl (I.ok.hd hc) pl (jI rv) (by show ss.length+1<4096;omega) λh' tk S k=>?_
 refine⟨.ref s.heap.objs.size,_,I.laid (t':=tk) (o:=dQ X.prog X.w s.heap.objs.size (aG ss)) (λb o e=>k b o (qf_ e) e) (qe_ _) ⟨S,?_,λh1 h2 z k'=>z.kept k'⟩,rfl,q _ I.fresh⟩
 obtain⟨es,ep,t,e,_⟩:=S
 exact⟨_,e⟩
def zKR(P:Program)(w:World):R2:=λx y H Q=>∃(a b:Addr) (us vs:List Str),x=.ref a/\y=.ref b/\b≠a/\H a=some (dQ P w a us)/\H b=some (dQ P w b vs)/\us.length+vs.length<32/\∀c:Addr,H c=none->Q (.ref c) (upd H c (dQ P w c (aG (us++vs))))
theorem zIQ:OpR X (binaryOp .BitOr) (zKR X.prog X.w):=by
 intro pins s σ H x y v u Q I rx ry h
 obtain⟨a,b,us,vs,rfl,rfl,ne,ha,hb,hl,q⟩:=h
 cases rx
 cases ry
 refine zJo ne (I.hok a _ ha).1 (I.hok b _ hb).1 hl λh' d S k=>?_
 refine⟨.ref s.heap.objs.size,_,(I.laid (t':=s.toks) (o:=dQ X.prog X.w s.heap.objs.size (aG (us++vs))) (λb o e=>k b o (qf_ e) e) (qe_ _) ⟨S,?_,λh1 h2 z k'=>z.kept k'⟩).draw d,rfl,q _ I.fresh⟩
 obtain⟨es,ep,t,e,_⟩:=S
 exact⟨_,e⟩
def zCe(P:Program)(w:World):List V->Hp->VK->Prop:=λxs H Q=>∃(p:Addr) (ob:Obj) (kvs:List (Key×V)) (us:List Str),xs=[.ref p]/\FzD H p ob kvs/\kvs.map (·.1)=us.map Sum.inr/\us.length<32/\∀a:Addr,H a=none->Q (.ref a) (upd H a (dQ P w a (aG us)))
theorem zK:CallR X (.type "set") (zCe X.prog X.w):=by
 intro pins s σ H xs us Q I r h
 obtain⟨p,ob,kvs,uu,rfl,hz,hk,hl,q⟩:=h
 obtain⟨u,rfl,rx⟩:=cQ r
 cases rx
 obtain⟨e,hs,_,vs,es,ep,rr,dd,hd⟩:=jO I hz
 have hkv:vs.map (·.1)=uu.map Sum.inr:=by rw[<-qX rr];exact hk
 refine zDU hs dd hkv hl λh' S k=>?_
 refine⟨.ref s.heap.objs.size,_,I.laid (t':=s.toks) (o:=dQ X.prog X.w s.heap.objs.size (aG uu)) (λb o e=>k b o (qf_ e) e) (qe_ _) ⟨S,?_,λh1 h2 z k'=>z.kept k'⟩,rfl,q _ I.fresh⟩
 obtain⟨es,ep,t,e,_⟩:=S
 exact⟨_,e⟩
def xW(T:Tv)(ss:List Str):Prop:=T=.seq true (ss.map sT)\/∃kts,T=.dct kts/\ss=kts.map (·.1)
def zGE(u v:UT):UTl:=λρ Q=>u ρ λT ρ1=>∃ss:List Str,xW T ss/\ss.length<32/\v ρ1 λU ρ2=>∃ts:List Str,xW U ts/\ss.length+ts.length<32/\Q ((aV (aG (ss++ts))).map sT) ρ2
theorem qO(l:List Str):(aG l).length<=l.length:=by
 have:∀(l m:List Str),(l.foldl cV m).length<=m.length+l.length:=by
  intro l
  induction l with
  |nil=>exact λm=>qe_ _
  |cons x l ih=>
   intro m
   rw[qw1_,qI_]
   refine qi_ (ih _) ?_
   unfold cV
   split
   ·omega
   ·rw[qh_,qS1_];omega
 have:=this l []
 simpa[aG]using this
theorem Stp.keep{K:W.Frag}{ρ ρ2:aQ}{σ:St}{H H1 H2:Hp}{b:Addr}{o:HO}(f:FrOk K F ρ σ H)(n:H b=none)(e:H1 b=some o)(s:Stp K F σ ρ H1 ρ2 H2):H2 b=some o:=
 s.st b o e (f.none_nodk n) λi sl e1 m q=>by
  obtain⟨⟨o',e2,_⟩,_⟩:=f.own_at e1 m q
  rw[n]at e2
  cases e2
theorem zB8{K:W.Frag}{P:Program}{w:World}{H:Hp}{x:V}{T:Tv}{ss:List Str}{Q:VK}(sr:xW T ss)(v:VA K H x T)(l:ss.length<32)(h:∀b:Addr,H b=none->Q (.ref b) (upd H b (dQ P w b (aG ss)))):zCF P w K [x] H Q\/zCe P w [x] H Q:=by
 rcases sr with rfl|⟨kts,rfl,rfl⟩
 ·obtain⟨a,ys,rfl,hs,z,p⟩:=v.seqI
  rw[iK p]at hs
  exact .inl ⟨a,ss,rfl,hs,by omega,h⟩
 ·obtain⟨a,kvs,rfl,⟨ob,hd⟩,nd,z,p⟩:=v.dctI
  exact .inr ⟨a,ob,kvs,_,rfl,hd,qF p,l,h⟩
theorem zS{e e':Expr}{u v:UT}{p p1 p2 pos pos1 pos2 pos3:Pos}(hc:X.calm=true)(hg:Gl X "sorted")(hm:X.mg "sorted"=none)(hg':Gl X "set")(hm':X.mg "set"=none)(he:UE X F e u)(he':UE X F e' v)(hst:dO e=false:=by rfl)(hst':dO e'=false:=by rfl)
  (hpl:(backTo pos (starEach [] X.env)).any (·.1)=false:=by rfl) (hpl1:(backTo pos1 (starEach [] X.env)).any (·.1)=false:=by rfl) (hpl2:(backTo pos2 (starEach [] X.env)).any (·.1)=false:=by rfl):
  UL X F (.Call (.Name "sorted" p) [.BinOp (.Call (.Name "set" p1) [e] [] pos1) .BitOr (.Call (.Name "set" p2) [e'] [] pos2) pos3] [] pos) (zGE u v):=⟨PE.imp (iL (yL hc) hg hm boot_sorted (cT (cL zIQ (gF ((zJ hc).or zK) hg' hm' L2.boot_set (cT he.pe dD hst) (by decide) (by decide) (gU hst) hpl1) (gF ((zJ hc).or zK) hg' hm' L2.boot_set (cT he'.pe dD hst') (by decide) (by decide) (gU hst') hpl2)) dD rfl) (by decide) (by decide) rfl hpl) λσ H QQ ⟨ρ,Q,f,h,k⟩=>by
 refine⟨ρ,_,f,h,λx T H1 ρ1 s1 v1 q1=>?_⟩
 obtain⟨ss,sr,l1,h2⟩:=q1
 refine zB8 sr v1 (by omega) λb nb=>?_
 have sm1:=bZ (o:=dQ X.prog X.w b (aG ss)) nb
 have t1:=Stp.same s1.fr sm1
 refine⟨ρ1,_,t1.fr,h2,λx' U H2 ρ2 s2 v2 q2=>?_⟩
 obtain⟨ts,sr',hl,q⟩:=q2
 refine zB8 sr' v2 (by omega) λb' nb'=>?_
 have kb:H2 b=some (dQ X.prog X.w b (aG ss)):=Stp.keep s1.fr nb aZ s2
 have ne:b'≠b:=λz=>by rw[z,kb]at nb';cases nb'
 have e1:=qO ss
 have e2:=qO ts
 refine⟨b,b',aG ss,aG ts,rfl,rfl,ne,by rw[bL ne.symm];exact kb,aZ,by omega,λc nc=>?_⟩
 have e3:=qO (aG ss++aG ts)
 rw[qh_]at e3
 refine⟨c,_,rfl,aZ,by omega,λms d h1 h2' nd=>?_⟩
 have sm:=((bZ (o:=dQ X.prog X.w b' (aG ts)) nb').trans (bZ (o:=dQ X.prog X.w c (aG (aG ss++aG ts))) nc)).trans (bZ (o:=.lst (ms.map V.str)) nd)
 have sall:=(s1.trans t1).trans (s2.trans (Stp.same s2.fr sm))
 refine k _ _ _ _ _ sall ?_ aZ (by rw[qc_,h1.length_eq];omega) (lG ms) ?_
 ·exact((s1.trans t1).trans s2).non ((bZ (o:=dQ X.prog X.w b' (aG ts)) nb').free ((bZ (o:=dQ X.prog X.w c (aG (aG ss++aG ts))) nc).free nd))
 ·rw[mZ (h1.trans ((qX1_ (cZ _) (cZ (ss++ts))).mpr λx=>by rw[cM,cM,qp_,qp_,cM,cM])) h2']
  exact q⟩
end
end L2
namespace L2
open PySem PySem.Spec PyProof.Rows
section
variable{prog:Program}{w:World}{A:Around}{E:Value->Shared->Prop}{s:Shared}{a o:Addr}{f t f' t':Bool}
theorem zJl{f t:Bool}(h:(esB f t).isEmpty=true):f=false/\t=false:=by
 cases f<;>cases t<;>first|exact⟨rfl,rfl⟩|exact absurd h (by decide +kernel)
theorem zJJ(l f t f' t':Bool):(bV l f t).roomFor (esB f' t').size=none:=by cases l<;>cases f<;>cases t<;>cases f'<;>cases t'<;>rfl
theorem zP{each:Sem Unit}{Q:Unit->Shared->Prop}(ne:a≠o)(S:SetBl w a f t s.heap)(O:SetBl w o f' t' s.heap)
  (he:∀(s':Shared) (Q':Unit->Shared->Prop),s'.heap.get? o=s.heap.get? o->Q' () s'->wpAny (model prog w) A each Q' E s')
  (h:∀h',Heap.SameBut a s.heap h'->SetBl w a (f || f') (t || t') h'->Q () {s with heap:=h'}):wpAny (model prog w) A (setMerge a o each) Q E s:=by
 obtain⟨ep,ho⟩:=id O
 obtain⟨ea,ha⟩:=id S
 unfold setMerge
 rw[if_neg (by simpa using ne)]
 refine qa_ (qs_ ho rfl (eX _ _ _) ?_)
 dsimp only
 by_cases z0:(esB f' t').isEmpty=true
 ·rw[if_pos z0]
  obtain⟨rfl,rfl⟩:=zJl z0
  have e:s={s with heap:=s.heap}:=by cases s;rfl
  rw[e]
  exact qb_ (h _ (Heap.SameBut.refl a s.heap) (by rw[qt2_,qt2_];exact S))
 rw[if_neg z0]
 unfold setRoomFor
 refine qa_ (qa_ (qs_ ha rfl (eX _ _ _) ?_))
 dsimp only
 rw[zJJ]
 dsimp only
 refine qb_ (qa_ (qs_ ha rfl (eX _ _ _) ?_))
 dsimp only
 by_cases zs:f=false/\t=false
 ·obtain⟨rfl,rfl⟩:=zs
  have er:(bV (!byT w) false false).road (bV (!byT w) f' t')=.slotForSlot:=by cases byT w<;>cases f'<;>cases t'<;>rfl
  rw[er]
  dsimp only
  have et:({bV (!byT w) f' t' with finger:=(bV (!byT w) false false).finger,led:=(bV (!byT w) false false).led&&(bV (!byT w) f' t').led,moves:=(bV (!byT w) false false).moves,plain:=(bV (!byT w) false false).plain&&(bV (!byT w) f' t').plain}:SetTable)=bV (!byT w) f' t':=by cases byT w<;>rfl
  rw[et]
  refine wpAny_storeSet_of ha rfl ?_ (by rw[lW];exact qi_ (iI f' t') (by decide))
  exact h _ (Heap.SameBut.update s.heap a _) ⟨ea+1,qU_ (Obj.putSet (esB f' t') (bV (!byT w) f' t')) ha rfl⟩
 ·have er:(bV (!byT w) f t).road (bV (!byT w) f' t')=.oneByOne:=by
   cases f<;>cases t<;>first|exact absurd ⟨rfl,rfl⟩ zs|(cases byT w<;>rfl)
  rw[er]
  dsimp only
  have wk:∀{Q:Array (Int×Value)->Shared->Prop},(∀(out:Array (Int×Value)),out.toList.Perm (esB f' t').toList->Q out s)->wpAny (model prog w) A (setWalkUnseen o [a] (some a)) Q E s:=λ{Q} q=>by
   unfold setWalkUnseen
   refine qa_ (qs_ ho rfl (eX _ _ _) ?_)
   dsimp only
   refine qa_ (dS ?_)
   rw[if_pos (by show(byT w || (!byT w&&true) || _)=true;cases byT w<;>rfl)]
   unfold setWalk
   refine qa_ (qs_ ho rfl (eX _ _ _) ?_)
   dsimp only
   refine qa_ (dS ?_)
   cases hb:byT w with
   |true=>
    rw[if_pos rfl]
    exact qa_ (wpAny_askSetting (qb_ (q _ (jK _ _))))
   |false=>
    rw[if_neg ql_]
    split
    ·rename_i hz
     exact absurd (show(!true&&decide ((esB f' t').size > 1))=true from hz) (by simp)
    ·refine qa_ (m:=(if (!true&&decide ((esB f' t').size > 1))=true then unsupported "set:maker-not-led" else pure PUnit.unit)) ?_
     rw[if_neg (by simp)]
     exact qb_ (qb_ (q _ (.refl _)))
  refine qa_ (wk λout p=>?_)
  refine qa_ (PySem.MeetsSeq2.wpAny_forIn_array _ (λl _ s'=>∃(f1 t1:Bool) (h':Heap),s'={s with heap:=h'}/\Heap.SameBut a s.heap h'/\SetBl w a f1 t1 h'/\(∀e∈l,e∈(esB f' t').toList)/\(f1 || l.any λe=>dX false e.2)=(f || f')/\(t1 || l.any λe=>dX true e.2)=(t || t')) _ ?_ ?_ _ _ ?_)
  ·rintro⟨hh,v⟩ rest b s' ⟨f1,t1,h',rfl,b',S',hm,hf,ht⟩
   have hin:(hh,v)∈(usB f' t').map λb=>(iF b,Value.bool b):=hm _ (.head _)
   obtain⟨c,_,ec⟩:=qg_.mp hin
   cases ec
   refine qa_ (qC_ (zBf (prog:=prog) (s:={s with heap:=h'}) (b:=c) S' λr h3 b3 S3=>?_))
   have b13:=b'.trans b3
   have ho3:h3.get? o=some (bK (esB f' t') ep (bV (!byT w) f' t')):=by rw[b13.2 o (Ne.symm ne)];exact ho
   refine qa_ (he _ _ (by show h3.get? o=s.heap.get? o;rw[ho3,ho]) ?_)
   refine qa_ (qs_ (s:={s with heap:=h3}) ho3 rfl (eX _ _ _) ?_)
   rw[if_neg (by simp)]
   refine qb_ ⟨_,_,h3,rfl,b13,S3,λe q=>hm e (.tail _ q),?_,?_⟩
   ·rw[<-hf,qB1_,Bool.or_assoc]
    cases c<;>rfl
   ·rw[<-ht,qB1_,Bool.or_assoc]
    cases c<;>rfl
  ·rintro b s' ⟨f1,t1,h',rfl,b',S',_,hf,ht⟩
   rw[List.any_nil,qt2_]at hf ht
   subst hf ht
   exact qb_ (h h' b' S')
  ·refine⟨f,t,s.heap,by cases s;rfl,Heap.SameBut.refl a s.heap,S,λe q=>p.mem_iff.mp q,?_,?_⟩
   ·congr 1
    rw[qy1_,qQ_]
    simp only[p.mem_iff]
    cases f'<;>cases t'<;>simp[esB,usB,dX]
   ·congr 1
    rw[qy1_,qQ_]
    simp only[p.mem_iff]
    cases f'<;>cases t'<;>simp[esB,usB,dX]
theorem zFs{Q:Value->Shared->Prop}(S:SetBl w a f t s.heap)
  (h:∀h',SetBl w s.heap.objs.size f t h'->s.heap.objs.size<h'.objs.size->(∀b o,b<s.heap.objs.size->s.heap.get? b=some o->h'.get? b=some o)->Q (.ref s.heap.objs.size) {s with heap:=h'}):
  wpAny (model prog w) A (Builtin.Frozenset.copyOf a) Q E s:=by
 obtain⟨ep,ho⟩:=id S
 have ht:s.TypeIs (.ref a) "set":=⟨_,ho,rfl⟩
 have la:a<s.heap.objs.size:=qf_ ho
 unfold Builtin.Frozenset.copyOf Builtin.Frozenset.baseOf newSet
 refine qa_ (qa_ (wpAny_isInstance (T:="set") (b:=true) ht nV (qb_ ?_)))
 rw[if_pos rfl]
 refine qa_ (qa_ (dS ?_))
 dsimp only
 refine qR_ ?_ (by size_fits)
 refine qa_ (qb_ ?_)
 have F0:SetBl w s.heap.objs.size false false (s.heap.push (bK #[] 0 (.fresh 0 0 (!byT w)))):=⟨0,qj_ _ rfl⟩
 refine qa_ (zP (s:={s with heap:=s.heap.push (bK #[] 0 (.fresh 0 0 (!byT w)))}) (qE_ la) F0 ⟨ep,qd_ _ ho⟩ (λs' Q' _ q=>qb_ q) λh' b F=>?_)
 rw[qO2_,qO2_]at F
 refine qb_ (h h' F (by rw[b.1,qx_];omega) λx o hx e=>?_)
 rw[b.2 x (qm_ hx)]
 exact qd_ _ e
theorem zHG{Q:Value->Shared->Prop}(ne:o≠a)(S:SetBl w a f t s.heap)(O:SetBl w o f' t' s.heap)
  (h:∀h',SetBl w s.heap.objs.size (f || f') (t || t') h'->(∀b o,b<s.heap.objs.size->s.heap.get? b=some o->h'.get? b=some o)->Q (.ref s.heap.objs.size) {s with heap:=h'}):
  wpAny (model prog w) A (binaryOp .BitOr (.ref a) (.ref o)) Q E s:=by
 obtain⟨ep,ho⟩:=id O
 obtain⟨ea,ha⟩:=id S
 have ht:s.TypeIs (.ref a) "set":=⟨_,ha,rfl⟩
 have ht2:s.TypeIs (.ref o) "set":=⟨_,ho,rfl⟩
 refine wpAny_binaryOp_same (op:=.BitOr) (T:="set") ht ht2 F.fills_set_or F.slot_set_or (qJ_ F.slot_set_or ht zCR ?_ (F.args_set_or_2 _ _))
 rw[zCK]
 show wpAny _ _ (do
  if !(<- Builtin.Frozenset.isAnySet (.ref a) <&&> Builtin.Frozenset.isAnySet (.ref o)) then rule s!"frozenset.{"__or__"}.declined";return <- ret .notImplemented
  ret (<- nU s!"frozenset.{"__or__"}" (<- Builtin.Frozenset.addrOf (.ref a)) (.ref o))) _ _ _
 refine qa_ (qa_ (kY ht ?_))
 refine kY ht2 ?_
 rw[if_neg (by simp)]
 refine qa_ (qb_ ?_)
 have lo:o<s.heap.objs.size:=qf_ ho
 unfold nU
 refine qa_ (qa_ (zFs S λh1 F1 z1 k1=>?_))
 rw[if_pos (by simpa using ne)]
 have ho1:h1.get? o=some (bK (esB f' t') ep (bV (!byT w) f' t')):=k1 o _ lo ho
 have ht3:Shared.TypeIs {s with heap:=h1} (.ref o) "set":=⟨_,ho1,rfl⟩
 unfold Builtin.Frozenset.updateFrom
 refine qa_ (qb_ (qa_ (qC_ (qa_ (kY ht3 ?_)))))
 rw[if_pos rfl]
 refine qa_ (qb_ ?_)
 unfold Builtin.Frozenset.merge
 refine qa_ (wpAny_setEpoch_of (s:={s with heap:=h1}) ho1 rfl (eX _ _ _) ?_)
 refine zP (s:={s with heap:=h1}) (qE_ lo) F1 ⟨ep,ho1⟩ (λs' Q' e q=>?_) λh2 b2 F2=>?_
 ·unfold Builtin.Frozenset.unchanged
  refine qa_ (wpAny_setEpoch_of (s:=s') (by rw[e];exact ho1) rfl (eX _ _ _) ?_)
  rw[if_neg (by simp)]
  exact qb_ q
 ·refine qb_ ?_
  refine qb_ ⟨_,rfl,by simp,h h2 F2 λb o' hb e=>?_⟩
  rw[b2.2 b (qm_ hb)]
  exact k1 b o' hb e
end
section
variable{X:Cx}{F:Fm}
def zIk(w:World)(K:W.Frag):List V->Hp->VK->Prop:=λxs H Q=>∃(p:Addr) (bs:List Bool),xs=[.ref p]/\SqT K H p (bs.map V.bl)/\∀a:Addr,H a=none->Q (.ref a) (upd H a (eF w a (inF bs) (inT bs)))
theorem zL(hc:X.calm=true):CallR X (.type "set") (zIk X.w X.K):=by
 intro pins s σ H xs us Q I r h
 obtain⟨p,bs,rfl,hq,q⟩:=h
 obtain⟨u,rfl,rx⟩:=cQ r
 cases rx
 obtain⟨its,rv,pl,hz'⟩:=I.tuple hq
 refine zDT (I.ok.hd hc) pl (bs:=bs) (zCw rv) λh' tk S k=>?_
 refine⟨.ref s.heap.objs.size,_,I.laid (t':=tk) (o:=eF X.w s.heap.objs.size (inF bs) (inT bs)) (λb o e=>k b o (qf_ e) e) (qe_ _) ⟨S,?_,λh1 h2 z k'=>z.kept k'⟩,rfl,q _ I.fresh⟩
 obtain⟨ep,e⟩:=S
 exact⟨_,e⟩
def zKS(w:World):R2:=λx y H Q=>∃(a b:Addr) (f t f' t':Bool),x=.ref a/\y=.ref b/\b≠a/\H a=some (eF w a f t)/\H b=some (eF w b f' t')/\∀c:Addr,H c=none->Q (.ref c) (upd H c (eF w c (f || f') (t || t')))
theorem zIR:OpR X (binaryOp .BitOr) (zKS X.w):=by
 intro pins s σ H x y v u Q I rx ry h
 obtain⟨a,b,f,t,f',t',rfl,rfl,ne,ha,hb,q⟩:=h
 cases rx
 cases ry
 refine zHG ne (I.hok a _ ha).1 (I.hok b _ hb).1 λh' S k=>?_
 refine⟨.ref s.heap.objs.size,_,I.laid (t':=s.toks) (o:=eF X.w s.heap.objs.size (f || f') (t || t')) (λb o e=>k b o (qf_ e) e) (qe_ _) ⟨S,?_,λh1 h2 z k'=>z.kept k'⟩,rfl,q _ I.fresh⟩
 obtain⟨ep,e⟩:=S
 exact⟨_,e⟩
def zFz(u v:UT):UTl:=λρ Q=>u ρ λT ρ1=>∃bs:List Bool,T=.seq true (bs.map bT)/\v ρ1 λU ρ2=>∃cs:List Bool,U=.seq true (cs.map bT)/\Q ((usB (inF bs || inF cs) (inT bs || inT cs)).map bT) ρ2
theorem zDW{e e':Expr}{u v:UT}{p p1 p2 pos pos1 pos2 pos3:Pos}(hc:X.calm=true)(hg:Gl X "sorted")(hm:X.mg "sorted"=none)(hg':Gl X "set")(hm':X.mg "set"=none)(he:UE X F e u)(he':UE X F e' v)(hst:dO e=false:=by rfl)(hst':dO e'=false:=by rfl)
  (hpl:(backTo pos (starEach [] X.env)).any (·.1)=false:=by rfl) (hpl1:(backTo pos1 (starEach [] X.env)).any (·.1)=false:=by rfl) (hpl2:(backTo pos2 (starEach [] X.env)).any (·.1)=false:=by rfl):
  UL X F (.Call (.Name "sorted" p) [.BinOp (.Call (.Name "set" p1) [e] [] pos1) .BitOr (.Call (.Name "set" p2) [e'] [] pos2) pos3] [] pos) (zFz u v):=⟨PE.imp (iL (yH hc) hg hm boot_sorted (cT (cL zIR (gF (zL hc) hg' hm' L2.boot_set (cT he.pe dD hst) (by decide) (by decide) (gU hst) hpl1) (gF (zL hc) hg' hm' L2.boot_set (cT he'.pe dD hst') (by decide) (by decide) (gU hst') hpl2)) dD rfl) (by decide) (by decide) rfl hpl) λσ H QQ ⟨ρ,Q,f,h,k⟩=>by
 refine⟨ρ,_,f,h,λx T H1 ρ1 s1 v1 q1=>?_⟩
 obtain⟨bs,rfl,h2⟩:=q1
 obtain⟨a,ys,rfl,hs,z,p⟩:=v1.seqI
 rw[nF p]at hs
 refine⟨a,bs,rfl,hs,λb nb=>?_⟩
 have sm1:=bZ (o:=eF X.w b (inF bs) (inT bs)) nb
 have t1:=Stp.same s1.fr sm1
 refine⟨ρ1,_,t1.fr,h2,λx' U H2 ρ2 s2 v2 q2=>?_⟩
 obtain⟨cs,rfl,q⟩:=q2
 obtain⟨a',ys',rfl,hs',z',p'⟩:=v2.seqI
 rw[nF p']at hs'
 refine⟨a',cs,rfl,hs',λb' nb'=>?_⟩
 have kb:H2 b=some (eF X.w b (inF bs) (inT bs)):=Stp.keep s1.fr nb aZ s2
 have ne:b'≠b:=λz=>by rw[z,kb]at nb';cases nb'
 refine⟨b,b',_,_,_,_,rfl,rfl,ne,by rw[bL ne.symm];exact kb,aZ,λc nc=>?_⟩
 refine⟨c,_,_,rfl,aZ,λd nd=>?_⟩
 have sm:=((bZ (o:=eF X.w b' (inF cs) (inT cs)) nb').trans (bZ (o:=eF X.w c (inF bs || inF cs) (inT bs || inT cs)) nc)).trans (bZ (o:=.lst ((usB (inF bs || inF cs) (inT bs || inT cs)).map V.bl)) nd)
 have sall:=(s1.trans t1).trans (s2.trans (Stp.same s2.fr sm))
 refine k _ _ _ _ _ sall ?_ aZ (by rw[qc_];have:=iI (inF bs || inF cs) (inT bs || inT cs);omega) (vZ _) q
 exact((s1.trans t1).trans s2).non ((bZ (o:=eF X.w b' (inF cs) (inT cs)) nb').free ((bZ (o:=eF X.w c (inF bs || inF cs) (inT bs || inT cs)) nc).free nd))⟩
end
end L2
namespace L2
open PySem PySem.Spec PyProof.Rows
section
variable{prog:Program}{w:World}{A:Around}{E:Value->Shared->Prop}{s:Shared}{l:Addr}{its:Array Value}{ss:List Str}
theorem zAi{Q:Value->Shared->Prop}(hl:s.heap.IsTuple l its)
  (h:∀s₂:Shared,s₂={s with heap:=s.heap.push {cls:=.type "tuple_iterator",data:=.fields #[.ref l,.int 0 0]}} ->
   (s₂.heap.IsTupleIter s.heap.objs.size l 0/\s₂.heap.IsTuple l its)->(∀b∈[s.heap.objs.size,l],b<s₂.heap.objs.size)->l≠s.heap.objs.size->Q (.ref s.heap.objs.size) s₂):
  wpAny (model prog w) A (pyIter (.ref l)) Q E s:=by
 have hlt:l<s.heap.objs.size:=by obtain⟨_,e,_⟩:=hl;exact qf_ e
 refine wpAny_pyIter_tuple hl (h _ rfl ⟨⟨_,qj_ _ rfl,rfl,rfl⟩,hl.push _⟩ (λb hb=>?_) (qm_ hlt))
 show b<(s.heap.push _).objs.size
 rw[qx_]
 simp only[List.mem_cons,List.not_mem_nil,or_false]at hb
 rcases hb with z|z
 ·rw[z];exact qk2_ _
 ·rw[z];exact qk1_ hlt
theorem zFX{Q:Value->Shared->Prop}(hh:A.handled=none)(hl:s.heap.IsTuple l its)(hi:StrsAre its.toList ss)(hne:0<ss.length)
  (h:∀x t h' tk,x∈ss->(∀y∈ss,x.cps.toList<=y.cps.toList)->(∀b o,s.heap.get? b=some o->h'.get? b=some o)->Q (.str x t) {s with heap:=h',toks:=tk}):
  wpAny (model prog w) A (call (.builtin "min") [.ref l]) Q E s:=by
 have hsz:its.size=ss.length:=by rw[<-qt_,gV hi]
 refine call_min_walk (zAi hl λs₂ e st hfp hlI=>?_)
 subst e
 refine⟨_,_,_,_,_,_,_,rfl,Walks.tuple (A:=A.in1) hh _ l hlI its,st,hfp,by omega,yT (λi=>ss.getD i ⟨#[]⟩) (λi v hv=>gG hi i v (by rw[qr_];exact hv)),λv h' tk hP hk=>?_⟩
 obtain⟨t,rfl⟩:=gG hi _ v (by rw[qr_];exact hP)
 obtain⟨b1,b2⟩:=vT (λi=>(ss.getD i ⟨#[]⟩).cps.toList) (its.size-1)
 refine h _ t h' tk (pY (by omega)) (λy hy=>?_) (λb o e=>hk b o (λz=>by rw[qW_]at z;subst z;have:=qf_ e;exact qf1_ _ this) (qd_ _ e))
 obtain⟨j,hj,rfl⟩:=pW hy
 exact b2 j (by omega)
theorem zFZ{Q:Value->Shared->Prop}(hh:A.handled=none)(hl:s.heap.IsTuple l its)(hi:StrsAre its.toList ss)(hne:0<ss.length)
  (h:∀x t h' tk,x∈ss->(∀y∈ss,y.cps.toList<=x.cps.toList)->(∀b o,s.heap.get? b=some o->h'.get? b=some o)->Q (.str x t) {s with heap:=h',toks:=tk}):
  wpAny (model prog w) A (call (.builtin "max") [.ref l]) Q E s:=by
 have hsz:its.size=ss.length:=by rw[<-qt_,gV hi]
 refine call_max_walk (zAi hl λs₂ e st hfp hlI=>?_)
 subst e
 refine⟨_,_,_,_,_,_,_,rfl,Walks.tuple (A:=A.in1) hh _ l hlI its,st,hfp,by omega,yU (λi=>ss.getD i ⟨#[]⟩) (λi v hv=>gG hi i v (by rw[qr_];exact hv)),λv h' tk hP hk=>?_⟩
 obtain⟨t,rfl⟩:=gG hi _ v (by rw[qr_];exact hP)
 obtain⟨b1,b2⟩:=vV (λi=>(ss.getD i ⟨#[]⟩).cps.toList) (its.size-1)
 refine h _ t h' tk (pY (by omega)) (λy hy=>?_) (λb o e=>hk b o (λz=>by rw[qW_]at z;subst z;have:=qf_ e;exact qf1_ _ this) (qd_ _ e))
 obtain⟨j,hj,rfl⟩:=pW hy
 exact b2 j (by omega)
end
section
variable{X:Cx}
theorem zEe(hc:X.calm=true):CallR X (.builtin "min") (λxs H Q=>∃(p:Addr) (ss:List Str),xs=[.ref p]/\SqT X.K H p (ss.map V.str)/\0<ss.length/\∀x,x∈ss->(∀y∈ss,x.cps.toList<=y.cps.toList)->Q (.str x) H):=by
 intro pins s σ H xs us Q I r h
 obtain⟨p,ss,rfl,hq,hn,q⟩:=h
 obtain⟨u,rfl,rx⟩:=cQ r
 cases rx
 obtain⟨its,rv,pl,hz⟩:=I.tuple hq
 refine zFX (I.ok.hd hc) pl (jI rv) hn λx t h' tk h1 h2 hk=>?_
 exact⟨.str _,H,I.kept hk,⟨t,rfl⟩,q _ h1 h2⟩
theorem zEf(hc:X.calm=true):CallR X (.builtin "max") (λxs H Q=>∃(p:Addr) (ss:List Str),xs=[.ref p]/\SqT X.K H p (ss.map V.str)/\0<ss.length/\∀x,x∈ss->(∀y∈ss,y.cps.toList<=x.cps.toList)->Q (.str x) H):=by
 intro pins s σ H xs us Q I r h
 obtain⟨p,ss,rfl,hq,hn,q⟩:=h
 obtain⟨u,rfl,rx⟩:=cQ r
 cases rx
 obtain⟨its,rv,pl,hz⟩:=I.tuple hq
 refine zFZ (I.ok.hd hc) pl (jI rv) hn λx t h' tk h1 h2 hk=>?_
 exact⟨.str _,H,I.kept hk,⟨t,rfl⟩,q _ h1 h2⟩
def zJ0:Pn:=λTs Q=>∃(t:Bool) (ss:List Str),Ts=[.seq t (ss.map sT)]/\0<ss.length/\∀x,x∈ss->(∀y∈ss,x.cps.toList<=y.cps.toList)->Q (sT x)
def zJ1:Pn:=λTs Q=>∃(t:Bool) (ss:List Str),Ts=[.seq t (ss.map sT)]/\0<ss.length/\∀x,x∈ss->(∀y∈ss,y.cps.toList<=x.cps.toList)->Q (sT x)
theorem zGV(hc:X.calm=true):iA X (.builtin "min") zJ0:=⟨_,(zM hc).or (zEe hc),λxs Ts H Q QQ vx h k=>by
 obtain⟨t,ss,rfl,l,q⟩:=h
 obtain⟨x,rfl,v⟩:=dM vx
 obtain⟨a,ys,rfl,hs,z,p⟩:=v.seqI
 rw[iK p]at hs
 cases t with
 |false=>exact .inl ⟨a,ss,rfl,cP hs,l,λM h1 h2=>k _ _ _ (.flat rfl) (q M h1 h2)⟩
 |true=>exact .inr ⟨a,ss,rfl,hs,l,λM h1 h2=>k _ _ _ (.flat rfl) (q M h1 h2)⟩⟩
theorem zGW(hc:X.calm=true):iA X (.builtin "max") zJ1:=⟨_,(zN hc).or (zEf hc),λxs Ts H Q QQ vx h k=>by
 obtain⟨t,ss,rfl,l,q⟩:=h
 obtain⟨x,rfl,v⟩:=dM vx
 obtain⟨a,ys,rfl,hs,z,p⟩:=v.seqI
 rw[iK p]at hs
 cases t with
 |false=>exact .inl ⟨a,ss,rfl,cP hs,l,λM h1 h2=>k _ _ _ (.flat rfl) (q M h1 h2)⟩
 |true=>exact .inr ⟨a,ss,rfl,hs,l,λM h1 h2=>k _ _ _ (.flat rfl) (q M h1 h2)⟩⟩
end
end L2
namespace CutM
open RunM GcdM
structure IsR (S:Int->Prop) (r:R3):Prop where
 lo:S r.1
 lo':∀n,S n->r.1<=n
 hi:S r.2.1
 hi':∀n,S n->n<=r.2.1
 nn:0<=r.2.2
 dv:∀d,d ∣ r.2.2↔∀n,S n->d ∣ (n-r.1)
theorem isR_of{ns:List Int}{m M:Int}(h1:m∈ns)(h2:∀x∈ns,m<=x)(h3:M∈ns)(h4:∀x∈ns,x<=M):IsR (·∈ns) (m,M,stepOf m ns):=by
 refine⟨h1,h2,h3,h4,pJ (qV1_ 0),λd=>?_⟩
 show d ∣ stepOf m ns↔_
 unfold stepOf
 rw[uN]
 exact⟨λh=>h.2,λh=>⟨qz1_ _,h⟩⟩
theorem IsR.ok{S:Int->Prop}{r:R3}(h:IsR S r):Ok r:=by
 have key:r.2.1=r.1->r.2.2=0:=λe=>by
  have:(0:Int) ∣ r.2.2:=(h.dv 0).mpr λn hn=>by
   have h1:=h.lo' n hn
   have h2:=h.hi' n hn
   rw[show n-r.1=0 by omega]
   exact qz1_ _
  exact Int.zero_dvd.mp this
 refine⟨h.nn,λz=>?_,λz=>⟨?_,(h.dv _).mp (qS2_ _) _ h.hi⟩⟩
 ·have:=(h.dv 0).mp (by rw[z];exact qz1_ _) _ h.hi
  have:=Int.zero_dvd.mp this
  omega
 ·have h1:=h.lo' _ h.hi
  rcases Int.lt_or_le r.1 r.2.1 with q|q
  ·exact q
  ·have:=key (by omega)
   omega
theorem R3.ext{a b:R3}(h1:a.1=b.1)(h2:a.2.1=b.2.1)(h3:a.2.2=b.2.2):a=b:=by
 obtain⟨x,y,z⟩:=a
 obtain⟨x',y',z'⟩:=b
 simp only at h1 h2 h3
 rw[h1,h2,h3]
theorem IsR.unique{S:Int->Prop}{r r':R3}(h:IsR S r)(h':IsR S r'):r=r':=by
 have e1:r.1=r'.1:=by
  have:=h.lo' _ h'.lo
  have:=h'.lo' _ h.lo
  omega
 have e2:r.2.1=r'.2.1:=by
  have:=h.hi' _ h'.hi
  have:=h'.hi' _ h.hi
  omega
 refine R3.ext e1 e2 (pZ h.nn h'.nn λd=>?_)
 rw[h.dv,h'.dv,e1]
theorem IsR.congr{S T:Int->Prop}{r:R3}(h:IsR S r)(e:∀n,S n↔T n):IsR T r:=
 ⟨(e _).mp h.lo,λn hn=>h.lo' n ((e n).mpr hn),(e _).mp h.hi,λn hn=>h.hi' n ((e n).mpr hn),h.nn,λd=>(h.dv d).trans ⟨λk n hn=>k n ((e n).mpr hn),λk n hn=>k n ((e n).mp hn)⟩⟩
theorem IsR.join{S T:Int->Prop}{a b:R3}(ha:IsR S a)(hb:IsR T b):IsR (λn=>S n\/T n) (joinR a b):=by
 have s1:Sub a (joinR a b):=zAE
 have s2:Sub b (joinR a b):=zEw
 have l1:=s1.lo
 have l2:=s2.lo
 have l3:=s1.hi
 have l4:=s2.hi
 refine⟨?_,λn hn=>?_,?_,λn hn=>?_,g_nonneg _ _,λd=>?_⟩
 ·show S (if b.1<a.1 then b.1 else a.1)\/T (if b.1<a.1 then b.1 else a.1)
  split
  ·exact .inr hb.lo
  ·exact .inl ha.lo
 ·rcases hn with z|z
  ·have:=ha.lo' n z
   omega
  ·have:=hb.lo' n z
   omega
 ·show S (if b.2.1 > a.2.1 then b.2.1 else a.2.1)\/T (if b.2.1 > a.2.1 then b.2.1 else a.2.1)
  split
  ·exact .inr hb.hi
  ·exact .inl ha.hi
 ·rcases hn with z|z
  ·have:=ha.hi' n z
   omega
  ·have:=hb.hi' n z
   omega
 ·show d ∣ g (g a.2.2 b.2.2) (a.1-b.1)↔_
  rw[g_dvd,g_dvd,ha.dv,hb.dv]
  have el:(joinR a b).1=a.1\/(joinR a b).1=b.1:=by
   show(if b.1<a.1 then b.1 else a.1)=a.1\/(if b.1<a.1 then b.1 else a.1)=b.1
   split
   ·exact .inr rfl
   ·exact .inl rfl
  constructor
  ·rintro⟨⟨h1,h2⟩,h3⟩
   have k1:d ∣ (a.1-(joinR a b).1):=by
    rcases el with e|e<;>rw[e]
    ·rw[qn2_];exact qz1_ _
    ·exact h3
   have k2:d ∣ (b.1-(joinR a b).1):=by
    rcases el with e|e<;>rw[e]
    ·rw[show b.1-a.1 = -(a.1-b.1) by omega];exact Int.dvd_neg.mpr h3
    ·rw[qn2_];exact qz1_ _
   intro n hn
   rcases hn with z|z
   ·have:=qm2_ (h1 n z) k1
    rw[show n-a.1+(a.1-(joinR a b).1)=n-(joinR a b).1 by omega]at this
    exact this
   ·have:=qm2_ (h2 n z) k2
    rw[show n-b.1+(b.1-(joinR a b).1)=n-(joinR a b).1 by omega]at this
    exact this
  ·intro h
   have k1:=h _ (.inl ha.lo)
   have k2:=h _ (.inr hb.lo)
   refine⟨⟨λn hn=>?_,λn hn=>?_⟩,?_⟩
   ·have:=qE1_ (h n (.inl hn)) k1
    rw[show n-(joinR a b).1-(a.1-(joinR a b).1)=n-a.1 by omega]at this
    exact this
   ·have:=qE1_ (h n (.inr hn)) k2
    rw[show n-(joinR a b).1-(b.1-(joinR a b).1)=n-b.1 by omega]at this
    exact this
   ·have:=qE1_ k1 k2
    rw[show a.1-(joinR a b).1-(b.1-(joinR a b).1)=a.1-b.1 by omega]at this
    exact this
end CutM
namespace L2
open PySem PySem.Spec PyProof.Rows WordM
def bM:List Int->Int
 |[]=>0
 |[x]=>x
 |x::y::l=>min x (bM (y::l))
def bR:List Int->Int
 |[]=>0
 |[x]=>x
 |x::y::l=>max x (bR (y::l))
theorem iO:∀{l:List Int},l≠[]->bM l∈l/\∀x∈l,bM l<=x
 |[],h=>absurd rfl h
 |[x],_=>⟨.head _,λy hy=>by rw[qW_.mp hy];exact qV1_ _⟩
 |x::y::l,_=>by
  obtain⟨a,b⟩:=iO (l:=y::l) (by simp)
  rw[bM]
  refine⟨?_,λz hz=>?_⟩
  ·by_cases h:x<=bM (y::l)
   ·rw[Int.min_eq_left h];exact .head _
   ·rw[Int.min_eq_right (by omega)];exact .tail _ a
  ·rcases qy_.mp hz with rfl|hz
   ·omega
   ·have:=b z hz;omega
theorem iP:∀{l:List Int},l≠[]->bR l∈l/\∀x∈l,x<=bR l
 |[],h=>absurd rfl h
 |[x],_=>⟨.head _,λy hy=>by rw[qW_.mp hy];exact qV1_ _⟩
 |x::y::l,_=>by
  obtain⟨a,b⟩:=iP (l:=y::l) (by simp)
  rw[bR]
  refine⟨?_,λz hz=>?_⟩
  ·by_cases h:x<=bR (y::l)
   ·rw[Int.max_eq_right h];exact .tail _ a
   ·rw[Int.max_eq_left (by omega)];exact .head _
  ·rcases qy_.mp hz with rfl|hz
   ·omega
   ·have:=b z hz;omega
theorem nJ{l:List Int}{m:Int}(h1:m∈l)(h2:∀x∈l,m<=x):bM l=m:=by
 obtain⟨a,b⟩:=iO (l:=l) (λz=>by rw[z]at h1;exact nomatch h1)
 have:=b m h1
 have:=h2 _ a
 omega
theorem nL{l:List Int}{m:Int}(h1:m∈l)(h2:∀x∈l,x<=m):bR l=m:=by
 obtain⟨a,b⟩:=iP (l:=l) (λz=>by rw[z]at h1;exact nomatch h1)
 have:=b m h1
 have:=h2 _ a
 omega
theorem zAU{l m:List Int}(hl:l≠[])(hm:m≠[]):bM (l++m)=min (bM l) (bM m):=by
 obtain⟨a,b⟩:=iO hl
 obtain⟨c,d⟩:=iO hm
 refine nJ ?_ λx hx=>?_
 ·by_cases h:bM l<=bM m
  ·rw[Int.min_eq_left h];exact qB_ _ a
  ·rw[Int.min_eq_right (by omega)];exact qq_ _ c
 ·rcases qp_.mp hx with hx|hx
  ·have:=b x hx;omega
  ·have:=d x hx;omega
theorem zAV{l m:List Int}(hl:l≠[])(hm:m≠[]):bR (l++m)=max (bR l) (bR m):=by
 obtain⟨a,b⟩:=iP hl
 obtain⟨c,d⟩:=iP hm
 refine nL ?_ λx hx=>?_
 ·by_cases h:bR l<=bR m
  ·rw[Int.max_eq_right h];exact qq_ _ c
  ·rw[Int.max_eq_left (by omega)];exact qB_ _ a
 ·rcases qp_.mp hx with hx|hx
  ·have:=b x hx;omega
  ·have:=d x hx;omega
theorem zAb{l m:List Int}(h:∀x,x∈l↔x∈m):bM l=bM m:=by
 by_cases e:l=[]
 ·subst e
  cases m with
  |nil=>rfl
  |cons x m=>exact nomatch (h x).mpr (.head _)
 ·obtain⟨a,b⟩:=iO e
  exact(nJ ((h _).mp a) λx hx=>b x ((h x).mpr hx)).symm
theorem zAe{l m:List Int}(h:∀x,x∈l↔x∈m):bR l=bR m:=by
 by_cases e:l=[]
 ·subst e
  cases m with
  |nil=>rfl
  |cons x m=>exact nomatch (h x).mpr (.head _)
 ·obtain⟨a,b⟩:=iP e
  exact(nL ((h _).mp a) λx hx=>b x ((h x).mpr hx)).symm
def dA(ns:List Int):GcdM.R3:=(bM ns,bR ns,GcdM.stepOf (bM ns) ns)
theorem lC{ns:List Int}(h:ns≠[]):CutM.IsR (·∈ns) (dA ns):=by
 obtain⟨a,b⟩:=iO h
 obtain⟨c,d⟩:=iP h
 exact CutM.isR_of a b c d
theorem uO{ns:List Int}{r:GcdM.R3}(h:CutM.IsR (·∈ns) r):r=dA ns:=h.unique (lC λz=>by have:=h.lo;rw[z]at this;exact nomatch this)
theorem zD1{ns ms:List Int}(h:∀x,x∈ns↔x∈ms):dA ns=dA ms:=by
 by_cases e:ns=[]
 ·subst e
  cases ms with
  |nil=>rfl
  |cons x m=>exact nomatch (h x).mpr (.head _)
 ·exact uO ((lC e).congr h)
theorem zEF{ns ms:List Int}(h1:ns≠[])(h2:ms≠[]):GcdM.joinR (dA ns) (dA ms)=dA (ns++ms):=
 uO (((lC h1).join (lC h2)).congr λn=>qp_.symm)
def lcp:List Nat->List Nat->List Nat
 |a::x,b::y=>if a=b then a::lcp x y else []
 |_,_=>[]
theorem zAY:∀x y:List Nat,∃r,x=lcp x y++r
 |[],y=>⟨[],by cases y<;>rfl⟩
 |a::x,[]=>⟨a::x,rfl⟩
 |a::x,b::y=>by
  rw[lcp]
  split
  ·obtain⟨r,e⟩:=zAY x y;exact⟨r,by rw[qZ1_,<-e]⟩
  ·exact⟨a::x,rfl⟩
theorem zAh:∀x y:List Nat,∃r,y=lcp x y++r
 |[],y=>⟨y,by cases y<;>rfl⟩
 |a::x,[]=>⟨[],rfl⟩
 |a::x,b::y=>by
  rw[lcp]
  split
  ·rename_i h;obtain⟨r,e⟩:=zAh x y;exact⟨r,by rw[qZ1_,<-e,h]⟩
  ·exact⟨b::y,rfl⟩
theorem zBN:∀(h x y r1 r2:List Nat),x=h++r1->y=h++r2->∃r,lcp x y=h++r
 |[],x,y,_,_,_,_=>⟨lcp x y,rfl⟩
 |a::h,x,y,r1,r2,e1,e2=>by
  subst e1 e2
  obtain⟨r,e⟩:=zBN h (h++r1) (h++r2) r1 r2 rfl rfl
  exact⟨r,by rw[qZ1_,qZ1_,lcp,if_pos rfl,e];rfl⟩
structure IsHead (ts:List Str) (hd:Str):Prop where
 all:∀t∈ts,∃r,cs t=cs hd++r
 top:∀h:List Nat,(∀t∈ts,∃r,cs t=h++r)->h.length<=(cs hd).length
theorem zIz{x y:List Nat}{z:List Nat}{r1 r2:List Nat}(e1:z=x++r1)(e2:z=y++r2)(l:x.length<=y.length):∃r,y=x++r:=by
 refine⟨y.drop x.length,?_⟩
 have:y.take x.length=x:=by
  have h1:z.take x.length=x:=by rw[e1,List.take_left]
  have h2:z.take x.length=y.take x.length:=by rw[e2,List.take_append_of_le_length l]
  rw[<-h2,h1]
 exact(qD2_ x.length y).symm.trans (by rw[this])
theorem IsHead.pre{ts:List Str}{hd:Str}(ne:ts≠[])(a:IsHead ts hd){h:List Nat}(k:∀t∈ts,∃r,cs t=h++r):∃r,cs hd=h++r:=by
 obtain⟨t,ht⟩:=qF1_ _ ne
 obtain⟨r1,e1⟩:=k t ht
 obtain⟨r2,e2⟩:=a.all t ht
 exact zIz e1 e2 (a.top h k)
theorem zE3{ts:List Str}{h1 h2:Str}(ne:ts≠[])(a:IsHead ts h1)(b:IsHead ts h2):h1=h2:=by
 obtain⟨t,ht⟩:=qF1_ _ ne
 obtain⟨r1,e1⟩:=a.all t ht
 obtain⟨r2,e2⟩:=b.all t ht
 have l1:=a.top _ b.all
 have l2:=b.top _ a.all
 exact kD (List.append_inj_left (e1.symm.trans e2) (by omega))
theorem IsHead.same{ts us:List Str}{hd:Str}(a:IsHead ts hd)(h:∀x,x∈ts↔x∈us):IsHead us hd:=⟨λt ht=>a.all t ((h t).mpr ht),λk hk=>a.top k λt ht=>hk t ((h t).mp ht)⟩
def eJ:List Str->List Nat
 |[]=>[]
 |[t]=>cs t
 |t::u::l=>lcp (cs t) (eJ (u::l))
theorem uX:∀{ts:List Str},ts≠[]->IsHead ts ⟨(eJ ts).toArray⟩
 |[],h=>absurd rfl h
 |[t],_=>⟨λu hu=>⟨[],by rw[qW_.mp hu,qN_];rfl⟩,λh k=>by
  obtain⟨r,e⟩:=k t (.head _)
  show h.length<=(cs t).length
  rw[e,qh_];omega⟩
 |t::u::l,_=>by
  have ih:=uX (ts:=u::l) (by simp)
  have eh:cs ⟨(eJ (t::u::l)).toArray⟩=lcp (cs t) (eJ (u::l)):=rfl
  have eh':cs ⟨(eJ (u::l)).toArray⟩=eJ (u::l):=rfl
  refine⟨λx hx=>?_,λh k=>?_⟩
  ·rw[eh]
   rcases qy_.mp hx with rfl|hx
   ·exact zAY _ _
   ·obtain⟨r,e⟩:=ih.all x hx
    obtain⟨r',e'⟩:=zAh (cs t) (eJ (u::l))
    rw[eh']at e
    exact⟨r'++r,by rw[e,<-qA1_,<-e']⟩
  ·obtain⟨r1,e1⟩:=k t (.head _)
   obtain⟨r2,e2⟩:=ih.pre (by simp) λx hx=>k x (.tail _ hx)
   rw[eh']at e2
   obtain⟨r,e⟩:=zBN h _ _ r1 r2 e1 e2
   rw[eh,e,qh_];omega
theorem zGc{A B:List Str}{h1 h2 hd:Str}(n1:A≠[])(n2:B≠[])(a:IsHead A h1)(b:IsHead B h2)(h:IsHead [h1,h2] hd):IsHead (A++B) hd:=by
 obtain⟨r1,e1⟩:=h.all h1 (.head _)
 obtain⟨r2,e2⟩:=h.all h2 (.tail _ (.head _))
 refine⟨λt ht=>?_,λk hk=>h.top k λt ht=>?_⟩
 ·rcases qp_.mp ht with ht|ht
  ·obtain⟨r,e⟩:=a.all t ht
   exact⟨r1++r,by rw[e,e1,qA1_]⟩
  ·obtain⟨r,e⟩:=b.all t ht
   exact⟨r2++r,by rw[e,e2,qA1_]⟩
 ·simp only[List.mem_cons,List.not_mem_nil,or_false]at ht
  rcases ht with rfl|rfl
  ·exact a.pre n1 λx hx=>hk x (qB_ _ hx)
  ·exact b.pre n2 λx hx=>hk x (qq_ _ hx)
def jN(ts:List Str)(hd:Str):List Str:=MK.filter λm=>ts.any λt=>(cs (aU t hd)).any λc=>decide (eP c=m)
theorem mR{ts:List Str}{hd m:Str}:m∈jN ts hd↔∃t∈ts,∃c∈cs (aU t hd),eP c=m:=by
 unfold jN
 rw[qd2_,qQ_]
 constructor
 ·rintro⟨_,t,ht,h⟩
  obtain⟨c,hc,e⟩:=qQ_.mp h
  exact⟨t,ht,c,hc,qe1_ e⟩
 ·rintro⟨t,ht,c,hc,rfl⟩
  exact⟨mark_in c,t,ht,qQ_.mpr ⟨c,hc,qS_ rfl⟩⟩
theorem pG(ts:List Str)(hd:Str):iH (jN ts hd):=List.Pairwise.sublist List.filter_sublist zHk
structure MOf (ts:List Str) (hd:Str) (lo hi:Int) (ms:List Str):Prop where
 he:IsHead ts hd
 lo1:∃t∈ts,(t.length:Int)-(hd.length:Int)=lo
 lo2:∀t∈ts,lo<=(t.length:Int)-(hd.length:Int)
 hi1:∃t∈ts,(t.length:Int)-(hd.length:Int)=hi
 hi2:∀t∈ts,(t.length:Int)-(hd.length:Int)<=hi
 mks:ms=jN ts hd
theorem mV{xs ys:List Str}(hx:iH xs)(hy:iH ys)(h:∀x,x∈xs↔x∈ys):xs=ys:=
 (qH hx hy λx hx=>(h x).mp hx).eq_of_length_le (qH hy hx λx hx=>(h x).mpr hx).length_le
theorem MOf.same{ts us:List Str}{hd:Str}{lo hi:Int}{ms:List Str}(m:MOf ts hd lo hi ms)(h:∀x,x∈ts↔x∈us):MOf us hd lo hi ms:=by
 obtain⟨t1,a1,b1⟩:=m.lo1
 obtain⟨t2,a2,b2⟩:=m.hi1
 refine⟨m.he.same h,⟨t1,(h _).mp a1,b1⟩,λt ht=>m.lo2 t ((h t).mpr ht),⟨t2,(h _).mp a2,b2⟩,λt ht=>m.hi2 t ((h t).mpr ht),?_⟩
 rw[m.mks]
 refine mV (pG _ _) (pG _ _) λx=>?_
 rw[mR,mR]
 exact⟨λ⟨t,ht,z⟩=>⟨t,(h t).mp ht,z⟩,λ⟨t,ht,z⟩=>⟨t,(h t).mpr ht,z⟩⟩
theorem MOf.ne{ts:List Str}{hd:Str}{lo hi:Int}{ms:List Str}(m:MOf ts hd lo hi ms):ts≠[]:=λz=>by
 obtain⟨t,ht,_⟩:=m.lo1
 rw[z]at ht
 exact nomatch ht
theorem MOf.uniq{ts:List Str}{hd hd2:Str}{lo hi lo2 hi2:Int}{ms ms2:List Str}(a:MOf ts hd lo hi ms)(b:MOf ts hd2 lo2 hi2 ms2):hd=hd2/\lo=lo2/\hi=hi2/\ms=ms2:=by
 have e:=zE3 a.ne a.he b.he
 subst e
 obtain⟨t1,a1,b1⟩:=a.lo1
 obtain⟨t2,a2,b2⟩:=a.hi1
 obtain⟨u1,c1,d1⟩:=b.lo1
 obtain⟨u2,c2,d2⟩:=b.hi1
 have x1:=b.lo2 t1 a1
 have x2:=a.lo2 u1 c1
 have x3:=b.hi2 t2 a2
 have x4:=a.hi2 u2 c2
 exact⟨rfl,by omega,by omega,by rw[a.mks,b.mks]⟩
theorem uP{t h1 hd:Str}{r1 r:List Nat}(e1:cs h1=cs hd++r1)(e:cs t=cs h1++r):cs (aU t hd)=cs (aU h1 hd)++cs (aU t h1):=by
 rw[kC e,kC e1,kC (show cs t=cs hd++(r1++r) by rw[e,e1,qA1_])]
theorem zGK{t hd:Str}(h:Sg t){r:List Nat}(e:cs t=cs hd++r):Sg (aU t hd):=λc hc=>by
 rw[kC e]at hc
 exact h c (by rw[e];exact qq_ _ hc)
theorem zD9{x m:Str}(h:Sg x):m∈dE x↔∃c∈cs x,eP c=m:=by
 rw[dE,qd2_,jE,qQ_]
 constructor
 ·rintro⟨hm,c,hc,hd⟩
  exact⟨c,hc,(qS (h c hc) m hm).mp (qe1_ hd)⟩
 ·rintro⟨c,hc,rfl⟩
  exact⟨mark_in c,c,hc,qS_ ((qS (h c hc) _ (mark_in c)).mpr rfl)⟩
noncomputable def jnM(ms ms':List Str):List Str:=aV (aG (ms++ms'))
theorem MOf.shorter{A:List Str}{h1 hd:Str}{lo hi:Int}{ms:List Str}(a:MOf A h1 lo hi ms)(sg:Sg h1){r1:List Nat}(e1:cs h1=cs hd++r1):
  (∃t∈A,(t.length:Int)-(hd.length:Int)=lo+(aU h1 hd).length)/\(∀t∈A,lo+(aU h1 hd).length<=(t.length:Int)-(hd.length:Int))/\(∃t∈A,(t.length:Int)-(hd.length:Int)=hi+(aU h1 hd).length)/\(∀t∈A,(t.length:Int)-(hd.length:Int)<=hi+(aU h1 hd).length)/\∀m,m∈jnM ms (dE (aU h1 hd))↔∃t∈A,∃c∈cs (aU t hd),eP c=m:=by
 have el:(h1.length:Int)=hd.length+(aU h1 hd).length:=by
  rw[WordM.len h1,WordM.len hd,WordM.len (aU h1 hd),kC e1,e1,qh_];push_cast;rfl
 obtain⟨t1,a1,b1⟩:=a.lo1
 obtain⟨t2,a2,b2⟩:=a.hi1
 refine⟨⟨t1,a1,by omega⟩,λt ht=>by have:=a.lo2 t ht;omega,⟨t2,a2,by omega⟩,λt ht=>by have:=a.hi2 t ht;omega,λm=>?_⟩
 unfold jnM
 rw[sort_set_mem,qp_,a.mks,mR,zD9 (zGK sg e1)]
 constructor
 ·rintro (⟨t,ht,c,hc,e⟩|⟨c,hc,e⟩)
  ·obtain⟨r,er⟩:=a.he.all t ht
   exact⟨t,ht,c,by rw[uP e1 er];exact qq_ _ hc,e⟩
  ·obtain⟨r,er⟩:=a.he.all t1 a1
   exact⟨t1,a1,c,by rw[uP e1 er];exact qB_ _ hc,e⟩
 ·rintro⟨t,ht,c,hc,e⟩
  obtain⟨r,er⟩:=a.he.all t ht
  rw[uP e1 er]at hc
  rcases qp_.mp hc with hc|hc
  ·exact .inr ⟨c,hc,e⟩
  ·exact .inl ⟨t,ht,c,hc,e⟩
theorem MOf.app{A B:List Str}{h1 h2 hd:Str}{lo1 hi1 lo2 hi2:Int}{ms1 ms2:List Str}(a:MOf A h1 lo1 hi1 ms1)(b:MOf B h2 lo2 hi2 ms2)(s1:Sg h1)(s2:Sg h2)(h:IsHead [h1,h2] hd):
  MOf (A++B) hd (min (lo1+(aU h1 hd).length) (lo2+(aU h2 hd).length)) (max (hi1+(aU h1 hd).length) (hi2+(aU h2 hd).length)) (jnM (jnM ms1 (dE (aU h1 hd))) (jnM ms2 (dE (aU h2 hd)))):=by
 obtain⟨r1,e1⟩:=h.all h1 (.head _)
 obtain⟨r2,e2⟩:=h.all h2 (.tail _ (.head _))
 obtain⟨⟨t1,p1,q1⟩,x1,⟨u1,p2,q2⟩,y1,m1⟩:=a.shorter s1 e1
 obtain⟨⟨t2,p3,q3⟩,x2,⟨u2,p4,q4⟩,y2,m2⟩:=b.shorter s2 e2
 generalize lo1+((aU h1 hd).length:Int)=l1 at *
 generalize hi1+((aU h1 hd).length:Int)=g1 at *
 generalize lo2+((aU h2 hd).length:Int)=l2 at *
 generalize hi2+((aU h2 hd).length:Int)=g2 at *
 refine⟨zGc a.ne b.ne a.he b.he h,?_,λt ht=>?_,?_,λt ht=>?_,?_⟩
 ·by_cases z:l1<=l2
  ·exact⟨t1,qB_ _ p1,by omega⟩
  ·exact⟨t2,qq_ _ p3,by omega⟩
 ·rcases qp_.mp ht with ht|ht
  ·have:=x1 t ht;omega
  ·have:=x2 t ht;omega
 ·by_cases z:g1<=g2
  ·exact⟨u2,qq_ _ p4,by omega⟩
  ·exact⟨u1,qB_ _ p2,by omega⟩
 ·rcases qp_.mp ht with ht|ht
  ·have:=y1 t ht;omega
  ·have:=y2 t ht;omega
 ·refine mV (gD _) (pG _ _) λm=>?_
  have jm:m∈jnM (jnM ms1 (dE (aU h1 hd))) (jnM ms2 (dE (aU h2 hd)))↔m∈jnM ms1 (dE (aU h1 hd))++jnM ms2 (dE (aU h2 hd)):=sort_set_mem
  rw[jm,qp_,m1,m2,mR]
  constructor
  ·rintro (⟨t,ht,z⟩|⟨t,ht,z⟩)
   ·exact⟨t,qB_ _ ht,z⟩
   ·exact⟨t,qq_ _ ht,z⟩
  ·rintro⟨t,ht,z⟩
   rcases qp_.mp ht with ht|ht
   ·exact .inl ⟨t,ht,z⟩
   ·exact .inr ⟨t,ht,z⟩
def WOf(ts:List Str):Wd->Prop
 |.few ss=>ss=aV (aG ts)/\(aG ts).length<7
 |.make hd lo hi ms=>7<=(aG ts).length/\MOf ts hd lo hi ms
theorem lB{ts us:List Str}(h:∀x,x∈ts↔x∈us):(aG ts).length=(aG us).length/\aV (aG ts)=aV (aG us):=by
 have p:(aG ts).Perm (aG us):=(qX1_ (cZ _) (cZ _)).mpr λx=>by rw[cM,cM,h]
 exact⟨p.length_eq,mV (gD _) (gD _) λx=>by rw[sort_set_mem,sort_set_mem,h]⟩
theorem WOf.same{ts us:List Str}(h:∀x,x∈ts↔x∈us):∀{W:Wd},WOf ts W->WOf us W
 |.few ss,w=>⟨by rw[<-(lB h).2];exact w.1,by rw[<-(lB h).1];exact w.2⟩
 |.make ..,w=>⟨by rw[<-(lB h).1];exact w.1,w.2.same h⟩
theorem WOf.uniq{ts:List Str}:∀{W W2:Wd},WOf ts W->WOf ts W2->W=W2
 |.few ss,.few ss2,a,b=>by rw[a.1,b.1]
 |.few ss,.make ..,a,b=>by have:=a.2;have:=b.1;omega
 |.make ..,.few ss,a,b=>by have:=a.1;have:=b.2;omega
 |.make ..,.make ..,a,b=>by
  obtain⟨e1,e2,e3,e4⟩:=a.2.uniq b.2
  rw[e1,e2,e3,e4]
def eS(ts:List Str):Wd:=
 .make ⟨(eJ ts).toArray⟩ (bM (ts.map λt=>(t.length:Int)-((⟨(eJ ts).toArray⟩:Str).length:Int))) (bR (ts.map λt=>(t.length:Int)-((⟨(eJ ts).toArray⟩:Str).length:Int))) (jN ts ⟨(eJ ts).toArray⟩)
theorem iN{ts:List Str}(h:ts≠[]):∃hd lo hi ms,eS ts=.make hd lo hi ms/\MOf ts hd lo hi ms:=by
 refine⟨_,_,_,_,rfl,uX h,?_,λt ht=>?_,?_,λt ht=>?_,rfl⟩
 ·obtain⟨t,ht,e⟩:=qg_.mp (iO (l:=ts.map λt=>(t.length:Int)-((⟨(eJ ts).toArray⟩:Str).length:Int)) (by simpa using h)).1
  exact⟨t,ht,e⟩
 ·exact(iO (l:=ts.map λt=>(t.length:Int)-((⟨(eJ ts).toArray⟩:Str).length:Int)) (by simpa using h)).2 _ (qg_.mpr ⟨t,ht,rfl⟩)
 ·obtain⟨t,ht,e⟩:=qg_.mp (iP (l:=ts.map λt=>(t.length:Int)-((⟨(eJ ts).toArray⟩:Str).length:Int)) (by simpa using h)).1
  exact⟨t,ht,e⟩
 ·exact(iP (l:=ts.map λt=>(t.length:Int)-((⟨(eJ ts).toArray⟩:Str).length:Int)) (by simpa using h)).2 _ (qg_.mpr ⟨t,ht,rfl⟩)
noncomputable def bP(ts:List Str):Wd:=if (aG ts).length<7 then .few (aV (aG ts)) else eS ts
theorem zBi{ts:List Str}(h:ts≠[]):WOf ts (bP ts):=by
 unfold bP
 split
 ·rename_i z;exact⟨rfl,z⟩
 ·obtain⟨hd,lo,hi,ms,e,m⟩:=iN h
  rw[e]
  exact⟨by omega,m⟩
theorem zGt{ts:List Str}(h:ts≠[]){W:Wd}(w:WOf ts W):W=bP ts:=w.uniq (zBi h)
theorem kZ{ts us:List Str}(h:∀x,x∈ts↔x∈us):bP ts=bP us:=by
 by_cases e:ts=[]
 ·subst e
  cases us with
  |nil=>rfl
  |cons x m=>exact nomatch (h x).mpr (.head _)
 ·have ne:us≠[]:=λz=>by
   obtain⟨x,hx⟩:=qF1_ _ e
   have:=(h x).mp hx
   rw[z]at this
   exact nomatch this
  exact zGt ne ((zBi e).same h)
end L2
namespace L2
open PySem PySem.Spec PyProof.Rows WordM
def kN6:List Nat:=[0,1,2,3,4,5]
def mE(f:List Pt)(k:Nat):Option Pt:=f.find? λp=>decide (fG p=k)
def dC(vs:List Tv):Bool:=vs.any λv=>dI v==0
def asB:Tv->Option Bool
 |.leaf (.bl b)=>some b
 |_=>none
def asI:Tv->Option Int
 |.leaf (.int i)=>some i
 |_=>none
def asS:Tv->Option Str
 |.leaf (.str s)=>some s
 |_=>none
def asL:Tv->Option (List Tv)
 |.seq false xs=>some xs
 |_=>none
def asD:Tv->Option (List (Str×Tv))
 |.dct k=>some k
 |_=>none
theorem zHA{v:Tv}{b:Str}:asS v=some b↔v=.leaf (.str b):=by
 cases v with
 |leaf x=>cases x<;>simp[asS]
 |seq t xs=>simp[asS]
 |dct k=>simp[asS]
theorem zHB{v:Tv}{b:List Tv}:asL v=some b↔v=.seq false b:=by
 cases v with
 |leaf x=>cases x<;>simp[asL]
 |seq t xs=>cases t<;>simp[asL]
 |dct k=>simp[asL]
theorem zHC{v:Tv}{b:List (Str×Tv)}:asD v=some b↔v=.dct b:=by
 cases v with
 |leaf x=>cases x<;>simp[asD]
 |seq t xs=>simp[asD]
 |dct k=>simp[asD]
def aO(ks:List (List (Str×Tv))):List Str:=ks.flatMap λk=>k.map (·.1)
def dL(ks:List (List (Str×Tv))):List Tv:=ks.flatMap λk=>k.map (·.2)
def atK(n:Str)(ks:List (List (Str×Tv))):List Tv:=ks.filterMap λk=>bY k n
def dH(ls:List (List Tv)):List Int:=ls.map λl=>((l.length:Nat):Int)
def bJ(ks:List (List (Str×Tv))):List Int:=ks.map λl=>((l.length:Nat):Int)
abbrev FdT:=Str×Bool×List Pt
noncomputable def cX(D:List Tv->List Pt)(ks:List (List (Str×Tv)))(n:Str):FdT:=(n,ks.all (λk=>decide (n∈k.map (·.1))),D (atK n ks))
noncomputable def dcP(D:List Tv->List Pt)(ks:List (List (Str×Tv))):Pt:=
 if (aG (aO ks)).length<=8 then .record (bM (bJ ks)) (bR (bJ ks)) ((aV (aG (aO ks))).map (cX D ks)) else .table (bM (bJ ks)) (bR (bJ ks)) (bP (aO ks)) (D (dL ks))
noncomputable def bH(D:List Tv->List Pt)(vs:List Tv):Nat->Option Pt
 |0=>if dC vs=true then some .nothing else none
 |1=>if vs.filterMap asB=[] then none else some (.truths (usB (inF (vs.filterMap asB)) (inT (vs.filterMap asB))))
 |2=>if vs.filterMap asI=[] then none else some (.numbers (dA (vs.filterMap asI)).1 (dA (vs.filterMap asI)).2.1 (dA (vs.filterMap asI)).2.2)
 |3=>if vs.filterMap asS=[] then none else some (.texts (bP (vs.filterMap asS)))
 |4=>if vs.filterMap asL=[] then none else some (.lists (bM (dH (vs.filterMap asL))) (bR (dH (vs.filterMap asL))) (D (vs.filterMap asL).flatten))
 |5=>if vs.filterMap asD=[] then none else some (dcP D (vs.filterMap asD))
 |_=>none
noncomputable def bD:Nat->List Tv->List Pt
 |0,_=>[]
 |n+1,vs=>kN6.filterMap (bH (bD n) vs)
theorem zFa{D:List Tv->List Pt}{vs:List Tv}{k:Nat}{p:Pt}(h:bH D vs k=some p):fG p=k:=by
 unfold bH at h
 split at h
 all_goals first|(cases h;done)|skip
 all_goals
  split at h
  all_goals first|(cases h;done)|skip
 all_goals first|(cases h;rfl;done)|skip
 ·cases h
  unfold dcP
  split<;>rfl
theorem zBV{o:Nat->Option Pt}(ho:∀k p,o k=some p->fG p=k):∀(l:List Nat) (k:Nat),k∈l->l.Nodup->mE (l.filterMap o) k=o k
 |[],k,h,_=>nomatch h
 |j::l,k,h,n=>by
  have hn:=qQ1_.mp n
  rw[qK_]
  by_cases z:j=k
  ·subst z
   cases e:o j with
   |none=>
    dsimp only
    have:mE (l.filterMap o) j=none:=by
     unfold mE
     rw[qi3_]
     intro p hp hk
     obtain⟨i,hi,ei⟩:=qc1_.mp hp
     have:=ho i p ei
     have hk:=qe1_ hk
     rw[this]at hk
     subst hk
     exact hn.1 hi
    rw[this]
   |some p=>
    dsimp only
    unfold mE
    rw[qU1_,qS_ (ho j p e)]
  ·have hk:k∈l:=by
    rcases qy_.mp h with q|q
    ·exact absurd q.symm z
    ·exact q
   have ih:=zBV ho l k hk hn.2
   cases e:o j with
   |none=>exact ih
   |some p=>
    dsimp only
    unfold mE
    rw[qU1_,qH_ (λq=>z (by rw[<-ho j p e];exact q))]
    exact ih
theorem nO{α:Type}{f:Tv->Option α}{A B:List Tv}(h:∀v,v∈A↔v∈B)(x:α):x∈A.filterMap f↔x∈B.filterMap f:=by
 rw[qc1_,qc1_]
 exact⟨λ⟨a,ha,e⟩=>⟨a,(h a).mp ha,e⟩,λ⟨a,ha,e⟩=>⟨a,(h a).mpr ha,e⟩⟩
theorem nE{α:Type}{A B:List α}(h:∀v,v∈A↔v∈B):(A=[])=(B=[]):=by
 rw[eq_iff_iff,qY1_,qY1_]
 exact⟨λk a ha=>k a ((h a).mpr ha),λk a ha=>k a ((h a).mp ha)⟩
theorem vC{α:Type}{p:α->Bool}{A B:List α}(h:∀v,v∈A↔v∈B):A.any p=B.any p:=by
 rw[qy1_,qQ_,qQ_]
 exact⟨λ⟨a,ha,e⟩=>⟨a,(h a).mp ha,e⟩,λ⟨a,ha,e⟩=>⟨a,(h a).mpr ha,e⟩⟩
theorem zGq{α:Type}{p:α->Bool}{A B:List α}(h:∀v,v∈A↔v∈B):A.all p=B.all p:=by
 rw[qy1_,qK1_,qK1_]
 exact⟨λk a ha=>k a ((h a).mpr ha),λk a ha=>k a ((h a).mp ha)⟩
theorem qJ{α β:Type}{f:α->β}{A B:List α}(h:∀v,v∈A↔v∈B)(x:β):x∈A.map f↔x∈B.map f:=by
 rw[qg_,qg_]
 exact⟨λ⟨a,ha,e⟩=>⟨a,(h a).mp ha,e⟩,λ⟨a,ha,e⟩=>⟨a,(h a).mpr ha,e⟩⟩
theorem yK{α β:Type}{f:α->List β}{A B:List α}(h:∀v,v∈A↔v∈B)(x:β):x∈A.flatMap f↔x∈B.flatMap f:=by
 rw[qs1_,qs1_]
 exact⟨λ⟨a,ha,e⟩=>⟨a,(h a).mp ha,e⟩,λ⟨a,ha,e⟩=>⟨a,(h a).mpr ha,e⟩⟩
theorem zGi{D:List Tv->List Pt}(hD:∀A B:List Tv,(∀v,v∈A↔v∈B)->D A=D B){ks js:List (List (Str×Tv))}(h:∀v,v∈ks↔v∈js):dcP D ks=dcP D js:=by
 have hn:∀x,x∈aO ks↔x∈aO js:=yK h
 have e1:bM (bJ ks)=bM (bJ js):=zAb (qJ h)
 have e2:bR (bJ ks)=bR (bJ js):=zAe (qJ h)
 have e3:cX D ks=cX D js:=by
  funext n
  unfold cX
  rw[zGq h,hD (atK n ks) (atK n js) λv=>by
   unfold atK
   rw[qc1_,qc1_]
   exact⟨λ⟨a,ha,e⟩=>⟨a,(h a).mp ha,e⟩,λ⟨a,ha,e⟩=>⟨a,(h a).mpr ha,e⟩⟩]
 unfold dcP
 rw[(lB hn).1,(lB hn).2,e1,e2,e3,kZ hn,hD (dL ks) (dL js) (yK h)]
theorem zE9{D:List Tv->List Pt}(hD:∀A B:List Tv,(∀v,v∈A↔v∈B)->D A=D B){A B:List Tv}(h:∀v,v∈A↔v∈B)(k:Nat):bH D A k=bH D B k:=by
 unfold bH
 split
 ·rw[show dC A=dC B from vC h]
 ·have hb:=nO (f:=asB) h
  simp only[nE hb]
  rw[show inF (A.filterMap asB)=inF (B.filterMap asB) from vC hb,show inT (A.filterMap asB)=inT (B.filterMap asB) from vC hb]
 ·have hb:=nO (f:=asI) h
  simp only[nE hb]
  rw[zD1 hb]
 ·have hb:=nO (f:=asS) h
  simp only[nE hb]
  rw[kZ hb]
 ·have hb:=nO (f:=asL) h
  simp only[nE hb]
  have e1:bM (dH (A.filterMap asL))=bM (dH (B.filterMap asL)):=zAb (qJ hb)
  have e2:bR (dH (A.filterMap asL))=bR (dH (B.filterMap asL)):=zAe (qJ hb)
  rw[e1,e2,hD (A.filterMap asL).flatten (B.filterMap asL).flatten λv=>by
   rw[qt1_,qt1_]
   exact⟨λ⟨l,hl,e⟩=>⟨l,(hb l).mp hl,e⟩,λ⟨l,hl,e⟩=>⟨l,(hb l).mpr hl,e⟩⟩]
 ·have hb:=nO (f:=asD) h
  simp only[nE hb]
  rw[zGi hD hb]
 ·rfl
theorem uI:∀(n:Nat) (A B:List Tv),(∀v,v∈A↔v∈B)->bD n A=bD n B
 |0,_,_,_=>rfl
 |n+1,A,B,h=>by
  show kN6.filterMap (bH (bD n) A)=kN6.filterMap (bH (bD n) B)
  rw[show bH (bD n) A=bH (bD n) B from funext (zE9 (uI n) h)]
theorem zA8(n:Nat):bD n []=[]:=by
 cases n with
 |zero=>rfl
 |succ n=>rfl
end L2
namespace My
open PySem L2 PyProof.Rows WordM
def top(i:Nat):Stmt:=PySem.Challenge.pw_leastform_k44_six_texts_and_eight_names.main.body.getD i (.Pass ⟨0,0,0,0⟩)
abbrev s0_:Stmt:=top 4
abbrev s1_:Stmt:=top 6
abbrev s2_:Stmt:=top 7
abbrev s3_:Stmt:=top 8
abbrev s4_:Stmt:=top 9
abbrev s5_:Stmt:=top 14
abbrev s6_:Stmt:=top 15
abbrev s7_:Stmt:=top 16
abbrev s8_:Stmt:=top 17
abbrev s9_:Stmt:=top 18
abbrev xL:Stmt:=top 19
abbrev xK:Stmt:=top 20
abbrev xJ:Stmt:=top 21
abbrev xI:Stmt:=top 22
abbrev xH:Stmt:=top 23
abbrev xG:Stmt:=top 28
abbrev xF:Stmt:=top 29
abbrev sP:Stmt:=top 30
abbrev sO:Stmt:=top 32
abbrev mL:Stmt:=top 33
abbrev sM:Stmt:=top 34
abbrev sL:Stmt:=top 35
abbrev sK:Stmt:=top 36
abbrev oW:Stmt:=top 37
abbrev oV:Stmt:=top 38
abbrev sJ:Stmt:=top 39
abbrev oU:Stmt:=top 40
abbrev oS:Stmt:=top 41
abbrev oR:Stmt:=top 42
abbrev oQ:Stmt:=top 43
abbrev mK:Stmt:=top 44
abbrev mJ:Stmt:=top 45
abbrev oP:Stmt:=top 46
abbrev xE:Stmt:=top 48
abbrev xD:Stmt:=top 49
abbrev xC:Stmt:=top 50
abbrev xB:Stmt:=top 51
abbrev xA:Stmt:=top 52
abbrev wZ:Stmt:=top 53
abbrev wY:Stmt:=top 54
abbrev sI:Stmt:=top 55
abbrev wX:Stmt:=top 56
abbrev wW:Stmt:=top 57
abbrev mI:Stmt:=top 61
abbrev wV:Stmt:=top 62
abbrev wU:Stmt:=top 63
abbrev kP:Stmt:=top 64
abbrev wT:Stmt:=top 65
abbrev kO:Stmt:=top 66
abbrev gS:Stmt:=top 67
abbrev wS:Stmt:=top 68
abbrev wR:Stmt:=top 69
abbrev gR:Stmt:=top 70
section
variable{P:Program}{w:World}{K:W.Frag}{mg:Str->Option Value}{base:Heap}
theorem _root_.L2.On.put{p c:Addr}{H:Hp}(d:DeckAt H p c)(S k:Int):On p c H (upd H p (.lst [.ref c,.int S,.int k])):=by
 obtain⟨ns,e',l⟩:=d.cs
 exact⟨⟨d.ne,⟨S,k,aZ⟩,ns,by rw[bL d.ne.symm];exact e',l⟩,λb o h hp _=>by rw[bL hp];exact h⟩
theorem _root_.L2.On.cut{p c:Addr}{H:Hp}(d:DeckAt H p c)(ns:List Int)(h:ns.length<=64):On p c H (upd H c (.lst (ns.map V.int))):=by
 obtain⟨S,k,e⟩:=d.dk
 exact⟨⟨d.ne,⟨S,k,by rw[bL d.ne];exact e⟩,ns,aZ,h⟩,λb o h _ hc=>by rw[bL hc];exact h⟩
theorem zE5(ns:List Int):(ns.map V.int).all dJ=true:=by
 rw[List.all_map]
 exact qK1_.mpr λ_ _=>rfl
theorem zGe(ns:List Int):gA (ns.map V.int) []=ns.isEmpty:=by cases ns<;>rfl
theorem sc_mixed:bC ["_law_number_here","_law_k"] ["_law_number_here","_law_k"] (aN xE):=fsc (by decide +kernel)
theorem zHr(h:Has K mg "_law_mixed" xE):Good P w K mg base 1 "_law_mixed" ["_law_number_here","_law_k"] zBr:=by
 refine h.good sc_mixed (fun|_,_,_,_,_,_,[_,_],_=>rfl) (λvs H Q E q=>?_) (λf cdv A outer s H vs Q E hr q=>?_)
 ·obtain⟨n,k,rfl,_⟩:=q
  rfl
 ·obtain⟨n,k,rfl,q⟩:=q
  have nd:=sc_mixed.nd
  refine⟨_,(gW (iV (i:=0) nd rfl (by first|exact Or.inl rfl|exact Or.inr rfl) (cL iW (cL op_mul (cL op_add (cL op_add (cL iW (pv 0) cK) (cL op_mul cK (pv 1))) cK) cK) cK))
   (gW (iV (i:=0) nd rfl (by first|exact Or.inl rfl|exact Or.inr rfl) (cL iW (cL op_add (cL op_add (cL op_mul (pv 0) (pv 0)) (cL op_mul cK (pv 1))) cK) cK))
   (lH (lR (cL zBG (cL iW (cL op_mul (cL op_add (cL op_mul (cL iW (pv 0) cK) cK) (cL zBG (pv 0) cK)) cK) cK) cK))))),?_⟩
  refine⟨_,rfl,_,_,rfl,rfl,(by show(0:Int)<_;decide),_,rfl,_,_,rfl,rfl,.inl ⟨by decide,by decide⟩,_,_,rfl,rfl,_,_,rfl,rfl,_,_,rfl,rfl,.inr ⟨by decide,by decide⟩,_,_,rfl,rfl,(by show(0:Int)<_;decide),?_⟩
  refine⟨_,rfl,_,rfl,_,_,rfl,rfl,?c,_,rfl,_,_,rfl,rfl,.inl ⟨by decide,by decide⟩,_,_,rfl,rfl,_,_,rfl,rfl,_,_,rfl,rfl,(by show(0:Int)<_;decide),?_⟩
  case c=>
   refine .inl ⟨?_,?_⟩
   ·exact Int.lt_of_lt_of_le (by decide) (qD1_ _ (by decide))
   ·exact Int.lt_trans (qC1_ _ (by decide)) (by decide)
  refine⟨_,rfl,_,_,rfl,rfl,(by show(0:Int)<_;decide),_,_,rfl,rfl,.inr ⟨by decide,by decide⟩,_,rfl,_,_,rfl,rfl,⟨by decide,by decide⟩,_,_,rfl,rfl,_,_,rfl,rfl,.inr ⟨by decide,by decide⟩,_,_,rfl,rfl,(by show(0:Int)<_;decide),_,_,rfl,rfl,⟨by decide,by decide⟩,?_⟩
  exact q _
theorem sc_deck:bC ["_law_script","_law_cells"] ["_law_script"] (aN xD):=fsc (by decide +kernel)
theorem zKo(ns:List Int):gB (ns.map V.int) none (some 63)=(ns.take 63).map V.int:=by
 unfold gB
 have e1:HT.sIx (ns.map V.int).length 0 none=0:=rfl
 rw[e1,ql2_,Nat.sub_zero,List.map_take]
 by_cases h:ns.length<=63
 ·rw[qg2_ (by simp[HT.sIx]<;>omega),qg2_ (by simpa using h)]
 ·congr 1
  simp[HT.sIx]<;>omega
theorem zJi(h:Has K mg "_law_deck" xD)(B:Own mg):Good P w K mg base 1 "_law_deck" ["_law_script"] (zCa K):=by
 refine h.good sc_deck (fun|_,_,_,_,_,_,[_],_=>rfl) (λvs H Q E q=>?_) (λf cdv A outer s H vs Q E hr q=>?_)
 ·obtain⟨a,ns,rfl,_⟩:=q
  rfl
 ·obtain⟨a,ns,rfl,hS,q⟩:=q
  have nd:=sc_deck.nd
  refine⟨_,(gW (iV (i:=1) nd rfl (by first|exact Or.inl rfl|exact Or.inr rfl) (gF yM rfl B.list_ boot_list (cT (zAM sl_list (pv 0) zBz (zBy cK)) dD)))
   (lH (lR (@zBD _ _ _ _ (@xM _ _ _ _ _ (zIH (pv 1) (zCH zB5 cK)) (@xM _ _ _ _ _ (cL op_add (iL (zFf rfl) rfl B.sum boot_sum (cT (pv 1) dD)) (cL op_mul cK (iL call_len_seq rfl B.len qn_ (cT (pv 1) dD)))) (@xM _ _ _ _ _ cK zCf rfl) rfl) rfl))))),?_⟩
  refine⟨_,rfl,_,rfl,a,_,rfl,hS,λl1 h1=>?_⟩
  have e1:upd H l1 (.lst (gB (ns.map V.int) none (some 63)))=upd H l1 (.lst ((ns.take 63).map V.int)):=by rw[zKo]
  rw[e1]
  refine⟨l1,_,rfl,.inl (SqL.of aZ),λl2 h2=>?_⟩
  refine⟨_,rfl,_,rfl,rfl,l2,_,rfl,SqL.of aZ,λl3 h3=>?_⟩
  have n23:l2≠l3:=dR aZ h3
  refine⟨_,rfl,l2,ns.take 63,rfl,SqL.of (by rw[bL n23];exact aZ),_,rfl,l2,_,rfl,.inl (SqL.of (by rw[bL n23];exact aZ)),_,_,rfl,rfl,.inl ⟨by decide,by decide⟩,_,_,rfl,rfl,(by show 3<=sizeLine;decide),λl4 h4=>?_⟩
  have n34:l3≠l4:=dR aZ h4
  have f1:∀b o,H b=some o->upd H l1 (.lst ((ns.take 63).map V.int)) b=some o:=λb o e=>by rw[bL (dR e h1)];exact e
  have s1:Same H (upd H l1 (.lst ((ns.take 63).map V.int))):=f1
  have s2:Same H (upd (upd H l1 (.lst ((ns.take 63).map V.int))) l2 (.lst ((ns.take 63).map V.int))):=λb o e=>by rw[bL (dR (s1 b o e) h2)];exact s1 b o e
  have s3:Same H (upd (upd (upd H l1 (.lst ((ns.take 63).map V.int))) l2 (.lst ((ns.take 63).map V.int))) l3 (.lst ((ns.take 63).map V.int).reverse)):=λb o e=>by rw[bL (dR (s2 b o e) h3)];exact s2 b o e
  refine q l4 l3 _ (s3.free h4) (s2.free h3) ⟨n34.symm,⟨_,_,aZ⟩,(ns.take 63).reverse,?_,?_⟩ λb o e=>?_
  ·rw[bL n34,aZ,List.map_reverse]
  ·rw[qc3_,qO_];omega
  ·rw[bL (dR (s3 b o e) h4)];exact s3 b o e
theorem sc_take:bC ["_law_deck_here","_law_most","_law_cell"] ["_law_deck_here","_law_most"] (aN xC):=fsc (by decide +kernel)
theorem zJh(h:Has K mg "_law_take" xC)(G33_:Good P w K mg base 1 "_law_mixed" ["_law_number_here","_law_k"] zBr):Good P w K mg base 2 "_law_take" ["_law_deck_here","_law_most"] zB9:=by
 refine h.good sc_take (fun|_,_,_,_,_,_,[_,_],_=>rfl) (λvs H Q E q=>?_) (λf cdv A outer s H vs Q E hr q=>?_)
 ·obtain⟨p,c,m,rfl,_⟩:=q
  rfl
 ·obtain⟨p,c,m,rfl,d,hm,hB,q⟩:=q
  have nd:=sc_take.nd
  have hu:=Nat.lt_of_succ_lt (oM hr)
  obtain⟨hne,⟨S,k,hp⟩,ns,hc,hl⟩:=id d
  refine⟨_,(gW (zIy (cL op_add (jA ix_list (pv 0) cK (λ_ _=>rfl)) cK) (zIC (pv 0) cK zFG))
   (gW (wN (vI (zIW hu) (jA ix_list (pv 0) cK (λ_ _=>rfl)) (@zBD _ _ _ _ zCf) (lT _))
    (lH (lR (cL iW (rT G33_ (hr.mono (by first|decide|omega)) rfl (cT (jA ix_list (pv 0) cK (λ_ _=>rfl)) (cT (jA ix_list (pv 0) cK (λ_ _=>rfl)) dD))) (pv 1))))
    vM)
   (gW (iV (i:=2) nd rfl (by first|exact Or.inl rfl|exact Or.inr rfl) (zIL PySem.F.plainAttrs_list PySem.F.slot_list_pop PySem.F.type_list_pop zI0 (jA ix_list (pv 0) cK (λ_ _=>rfl))))
   (gW (wN (vI op_lt (pv 2) (cL zCl cK cK) (lT _))
    (lH (lR (cL iW (rT G33_ (hr.mono (by first|decide|omega)) rfl (cT (pv 2) (cT (jA ix_list (pv 0) cK (λ_ _=>rfl)) dD))) (pv 1))))
    vM)
   (gW (zBx (oK PySem.F.plainAttrs_list PySem.F.slot_list_append PySem.F.type_list_append uE (jA ix_list (pv 0) cK (λ_ _=>rfl)) (cT (cL zAQ (pv 2) (pv 1)) dD)))
   (lH (lR (cL iW (pv 2) (pv 1))))))))),?_⟩
  -- deck[2]=deck[2]+1
  refine⟨_,rfl,p,_,_,_,rfl,rfl,SqL.of hp,rfl,_,_,rfl,rfl,_,rfl,p,_,_,2,rfl,rfl,hp,rfl,?_⟩
  have o1:On p c H (upd H p (.lst [.ref c,.int S,.int (k+1)])):=On.put d S (k+1)
  have hc1:upd H p (.lst [.ref c,.int S,.int (k+1)]) c=some (.lst (ns.map V.int)):=by rw[bL hne.symm];exact hc
  -- if deck[0]==[]
  refine⟨_,rfl,p,_,_,_,rfl,rfl,SqL.of aZ,rfl,qu_ _,λl hfree=>?_⟩
  have npl:p≠l:=(o1.d.nep hfree).symm
  have ncl:c≠l:=(o1.d.nec hfree).symm
  have o2:=o1.alloc (o:=.lst []) hfree
  have hp2:upd (upd H p (.lst [.ref c,.int S,.int (k+1)])) l (.lst []) p=some (.lst [.ref c,.int S,.int (k+1)]):=by rw[bL npl];exact aZ
  have hc2:upd (upd H p (.lst [.ref c,.int S,.int (k+1)])) l (.lst []) c=some (.lst (ns.map V.int)):=by rw[bL ncl];exact hc1
  refine⟨c,l,_,[],rfl,rfl,SqL.of hc2,SqL.of aZ,zE5 ns,rfl,_,rfl,?_⟩
  rw[show(if false=true then !gA (ns.map V.int) [] else gA (ns.map V.int) [])=ns.isEmpty from zGe ns]
  have fin:∀r H',On p c H H'->Q (.int (r % m)) H':=λr H' o=>q (r % m) H' (qD1_ _ (by omega)) (qC1_ _ hm) o
  rcases List.eq_nil_or_concat ns with e|⟨init,z,e⟩
  ·subst e
   refine cB ?_
   refine⟨_,rfl,p,_,_,_,rfl,rfl,SqL.of hp2,rfl,_,rfl,p,_,_,_,rfl,rfl,SqL.of hp2,rfl,_,_,rfl,λr=>?_⟩
   exact⟨_,rfl,_,_,rfl,rfl,hm,fin r _ o2⟩
  ·rw[List.concat_eq_append]at e
   subst e
   rw[show(init++[z]).isEmpty=false by simp]
   refine aW ?_
   have hlast:((init++[z]).map V.int)[((init++[z]).map V.int).length-1]?=some (.int z):=by simp
   have hdrop:((init++[z]).map V.int).dropLast=init.map V.int:=by simp
   -- cell=deck[0].pop()
   refine⟨_,rfl,p,_,_,_,rfl,rfl,SqL.of hp2,rfl,.inl ⟨rfl,_,SqL.of hc2⟩,c,_,_,rfl,rfl,hc2,hlast,?_⟩
   rw[hdrop]
   have hli:init.length<=63:=by rw[qh_,qS1_]at hl;omega
   have o3:=o2.trans (On.cut o2.d init (by omega))
   have hp3:upd (upd (upd H p (.lst [.ref c,.int S,.int (k+1)])) l (.lst [])) c (.lst (init.map V.int)) p=some (.lst [.ref c,.int S,.int (k+1)]):=by rw[bL hne];exact hp2
   -- if cell<10 ** 18
   refine⟨_,rfl,_,_,rfl,rfl,⟨by decide,by decide,by decide⟩,_,_,rfl,rfl,_,rfl,?_⟩
   refine zK7 (λ_=>?_) (λ_=>?_)
   ·refine⟨_,rfl,_,rfl,p,_,_,_,rfl,rfl,SqL.of hp3,rfl,_,_,rfl,λr=>?_⟩
    exact⟨_,rfl,_,_,rfl,rfl,hm,fin r _ o3⟩
   ·refine⟨_,rfl,p,_,_,_,rfl,rfl,SqL.of hp3,rfl,.inl ⟨rfl,_,SqL.of aZ⟩,_,rfl,_,rfl,_,_,rfl,rfl,⟨hm,hB⟩,c,_,_,rfl,rfl,aZ,zEy (by rw[qc_];omega),?_⟩
    rw[show init.map V.int++[V.int (z / m)]=(init++[z / m]).map V.int by simp]
    have o4:=o3.trans (On.cut o3.d (init++[z / m]) (by rw[qh_,qS1_];omega))
    exact⟨_,rfl,_,rfl,_,_,rfl,rfl,hm,fin z _ o4⟩
end
end My
namespace My
open PySem L2 PyProof.Rows WordM
section
variable{P:Program}{w:World}{K:W.Frag}{mg:Str->Option Value}{base:Heap}
def qQ:PSp:=λas R=>as=[]/\R (sT SIG)
theorem C36_:bC ["_law_signs_here"] [] (aN xB):=fsc (by decide +kernel)
theorem zLr(h:Has K mg "_law_signs" xB)(B:Own mg)    : PGood P w K mg base 1 "_law_signs" [] qQ:=by
 have nd:=C36_.nd
 refine h.pgood C36_ (fun|_,_,_,_,_,_,[],_=>rfl) (λf cdv A outer s H E F hr=>
   (aI (bA 0 nd aY)
   (aJ (aR (bO cU (aC 0) aY))))) (λas R q=>?_)
 obtain⟨rfl,q⟩:=q
 exact⟨rfl,show sigA.length+sigB.length<=100000 by decide +kernel,q⟩
def rC:PSp:=λas R=>∃m:Int,as=[.dk,.va (iT m)]/\0<=m/\m<=1000/\∀x:Str,Sg x->(x.length:Int)<=m->R (sT x)
theorem zJn{z:Str}{r:Int}(h0:0<=r)(h1:r<z.length):∃c,atI z.cps.toList r=some c/\c∈cs z:=by
 have hl:r.toNat<(cs z).length:=by rw[<-WordM.len];omega
 refine⟨(cs z)[r.toNat],?_,qL1_ hl⟩
 have:=bG (xs:=cs z) (j:=r.toNat) (qk_ hl)
 rw[show((r.toNat:Nat):Int)=r by omega]at this
 exact this
theorem pC{α:Type}{l:List α}{r:Int}(h0:0<=r)(h1:r<l.length):∃m,atI l r=some m/\m∈l:=by
 have hl:r.toNat<l.length:=by omega
 refine⟨l[r.toNat],?_,qL1_ hl⟩
 have:=bG (xs:=l) (j:=r.toNat) (qk_ hl)
 rw[show((r.toNat:Nat):Int)=r by omega]at this
 exact this
theorem C37_:bC ["_law_deck_here","_law_most","_law_signs_here","_law_some","_law_text_here","_law_k"] ["_law_deck_here","_law_most"] (aN xA):=fsc (by decide +kernel)
theorem zLq(h:Has K mg "_law_text" xA)(B:Own mg)(G36_:PGood P w K mg base 1 "_law_signs" [] qQ)(G35_:PGood P w K mg base 2 "_law_take" ["_law_deck_here","_law_most"] iU)   : PGood P w K mg base 3 "_law_text" ["_law_deck_here","_law_most"] rC:=by
 have nd:=C37_.nd
 refine h.pgood C37_ (fun|_,_,_,_,_,_,[_,_],_=>rfl) (λf cdv A outer s H E F hr=>
   (aI (bA 2 nd (zB6 G36_ (hr.mono (by omega)) rfl))
   (aI (bA 3 nd (aT hr (bI (cF (aD (aC 2) (aD (aC 2) (aD aY (aD aY (aD aY (aD aY aE)))))))) (aL G35_ hr (cC 0 (aD aH aE)))))
   (aI (bA 4 nd aY)
   (aI (dN (m:=6) qD_ rfl (mU rfl B.range (aD (aL G35_ hr (cC 0 (aD (bO cU (aC 1) aH) aE))) aE)) (cW 5 (by decide) nd rfl (.inl rfl))
    (aJ (bA 4 nd (bO cU (aC 4) (aT hr (aC 3) (aL G35_ hr (cC 0 (aD (bB cA rfl B.len qn_ (aD (aC 3) aE)) aE))))))))
   (aJ (aR (aC 4)))))))) (λas R q=>?_)
 obtain⟨m,rfl,m0,m1,q⟩:=q
 refine⟨rfl,rfl,?_⟩
 refine⟨by decide,rfl,6,rfl,by decide,cN (by decide) (by decide),λr r0 r6=>?_⟩
 obtain⟨z,hz,hzm⟩:=pC (l:=[sT SIG,sT SIG,sT "0123456789",sT "abc",sT "XYZ",sT "a1"]) r0 r6
 refine⟨z,hz,?_⟩
 have hzs:∃y,z=sT y/\Sg y/\0<y.length/\y.length<=100:=by
  simp only[List.mem_cons,List.not_mem_nil,or_false]at hzm
  rcases hzm with e|e|e|e|e|e<;>subst e
  ·exact⟨_,rfl,λ_ h=>h,by decide +kernel,by decide +kernel⟩
  ·exact⟨_,rfl,λ_ h=>h,by decide +kernel,by decide +kernel⟩
  ·exact⟨_,rfl,by decide +kernel,by decide +kernel,by decide +kernel⟩
  ·exact⟨_,rfl,by decide +kernel,by decide +kernel,by decide +kernel⟩
  ·exact⟨_,rfl,by decide +kernel,by decide +kernel,by decide +kernel⟩
  ·exact⟨_,rfl,by decide +kernel,by decide +kernel,by decide +kernel⟩
 clear hz hzm
 obtain⟨y,rfl,y1,y2,y3⟩:=hzs
 refine⟨rfl,m+1,rfl,by omega,cN (by omega) (by omega),λn n0 n1=>⟨n,rfl,by omega,by omega,?_⟩⟩
 refine jM (λi ρ=>∃(x:Str) (s:Sl),Sg x/\x.length=i/\ρ=[.dk,.va (iT m),.va (sT SIG),.va (sT y),.va (sT x),s]) ⟨⟨#[]⟩,.no,zIb,rfl,rfl⟩ ?_ ?_
 ·rintro i T _ N hT ⟨x,s,sx,lx,rfl⟩ hN
  have hi:=(nC hT).1
  refine⟨rfl,by omega,?_⟩
  refine⟨y.length,rfl,by omega,cN (by omega) (by omega),λk k0 k1=>⟨by omega,?_⟩⟩
  obtain⟨c,hc,hcm⟩:=zJn (z:=y) k0 k1
  refine⟨c,hc,by show x.length+1<=100000;omega,hN _ ⟨x++⟨#[c]⟩,_,sx.app (y1.one hcm),?_,rfl⟩⟩
  rw[WordM.len,WordM.app,qh_,<-WordM.len,lx]
  rfl
 ·rintro _ ⟨x,s,sx,lx,rfl⟩
  refine q x sx ?_
  rw[lx,kB]
  omega
end
section
variable{P:Program}{w:World}{K:W.Frag}{mg:Str->Option Value}{base:Heap}
theorem zIa(a:Int):Sg ⟨#[fF a]⟩:=λcc hc=>by
 have e:cc=fF a:=by simpa using hc
 rw[e]
 exact zEB _
def zDe(m:Int)(ss:List Str):Prop:=ss.Nodup/\∀s∈ss,Sg s/\(s.length:Int)<=(if m<1 then 1 else m)
def uQ:PSp:=λas R=>∃n m:Int,as=[.dk,.va (iT n),.va (iT m)]/\0<=n/\n<=63/\0<=m/\m<=1000/\∀ss:List Str,(ss.length:Int)=n->zDe m ss->R (.seq false (ss.map sT))
theorem C38_:bC ["_law_deck_here","_law_many","_law_most","_law_signs_here","_law_found","_law_k","_law_text_here","_law_at"] ["_law_deck_here","_law_many","_law_most"] (aN wZ):=fsc (by decide +kernel)
theorem zLp(h:Has K mg "_law_unlike" wZ)(B:Own mg)(G36_:PGood P w K mg base 1 "_law_signs" [] qQ)(G37_:PGood P w K mg base 3 "_law_text" ["_law_deck_here","_law_most"] rC)   : PGood P w K mg base 4 "_law_unlike" ["_law_deck_here","_law_many","_law_most"] uQ:=by
 have nd:=C38_.nd
 refine h.pgood C38_ (fun|_,_,_,_,_,_,[_,_,_],_=>rfl) (λf cdv A outer s H E F hr=>
   (aI (bA 3 nd (zB6 G36_ (hr.mono (by omega)) rfl))
   (aI (fW 4 nd (cF aE))
   (aI (dN (m:=8) qD_ rfl (mU rfl B.range (aD (aC 1) aE)) (cW 5 (by decide) nd rfl (.inl rfl))
    (aI (bA 6 nd (aL G37_ hr (cC 0 (aD (aC 2) aE))))
    (aI (bA 7 nd (rA PySem.F.slot_str_find PySem.F.type_str_find zG1 (aC 3) (aD (fO fV (aC 6) fR (fQ aH)) aE)))
    (aI (mY qD_ (zGD λF=>(dP (lY hr.units) (aC 6) (aC 4) rfl))
     (aI (bA 7 nd (bO wC (bO cU (aC 7) aH) (bB cA rfl B.len qn_ (aD (aC 3) aE))))
     (aJ (bA 6 nd (bO cU (aT hr (aC 3) (aC 7)) (fO fV (aC 6) (fQ aH) fR))))))
    (aJ (eI (fN 4 (aC 6))))))))
   (aJ (aR (aC 4))))))) (λas R q=>?_)
 obtain⟨n,m,rfl,n0,n63,m0,m1,q⟩:=q
 have hsl:SIG.length=94:=vG
 refine⟨rfl,rfl,by decide,n,rfl,by omega,by omega,?_⟩
 refine jM (λi ρ=>∃(ss:List Str) (s5 s6 s7:Sl),ss.length=i/\zDe m ss/\ρ=[.dk,.va (iT n),.va (iT m),.va (sT SIG),.own (ss.map sT),s5,s6,s7]) ⟨[],.no,.no,.no,rfl,⟨qN1_,λs hs=>nomatch hs⟩,rfl⟩ ?_ ?_
 ·rintro i T _ N hT ⟨ss,s5,s6,s7,hlen,htx,rfl⟩ hN
  obtain⟨hi,rfl⟩:=nC hT
  refine⟨rfl,m,rfl,m0,m1,λx0 sx0 hx0=>?_⟩
  refine⟨rfl,1,rfl,by omega,SIG,_,rfl,rfl,λa0=>?_⟩
  let r:Str:=Txt.slice x0 (some 1) none
  have hr1:r.length+1<=(if x0.length<1 then 1 else x0.length):=zD0 x0
  have sr:Sg r:=sx0.slice _ _
  refine⟨λM ρ=>∃(j:Nat) (x:Str),M+j=ss.length+2/\j<=ss.length+1/\(∀i,1<=i->i<j->fI a0 r i∈ss)/\(j=0/\x=x0\/1<=j/\x=fI a0 r j) /\
    ρ=[.dk,.va (iT n),.va (iT m),.va (sT SIG),.own (ss.map sT),.va (iT (0+(i:Int))),.va (sT x),.va (iT (if j=0 then a0 else(a0+j) % 94))],
   ⟨ss.length+2,0,x0,rfl,qu_ _,λi h1 h2=>absurd h2 (qh3_ _),.inl ⟨rfl,rfl⟩,rfl⟩,?_⟩
  rintro M _ ⟨j,x,hM,hj,htr,hx,rfl⟩
  have hxl:Sg x/\(x.length:Int)<=(if m<1 then 1 else m)/\Txt.slice x (some 1) none=r:=by
   rcases hx with⟨_,rfl⟩|⟨_,rfl⟩
   ·refine⟨sx0,?_,rfl⟩
    split<;>omega
   ·refine⟨Sg.app (zIa _) sr,?_,zDZ⟩
    have:(fI a0 r j).length=r.length+1:=by
     unfold fI
     rw[WordM.len,WordM.app,WordM.len,qh_]
     simp
     omega
    rw[this]
    split at hr1<;>split<;>omega
  obtain⟨sx,hxm,hxr⟩:=hxl
  have hx1000:x.length<=1000:=by split at hxm<;>omega
  refine⟨zF8,_,rfl,?_⟩
  rw[zHF]
  refine sif (λh1=>?_) (λh1=>?_)
  ·have h1:x∈ss:=by simpa using h1
   have hall:∀i,1<=i->i<=j->fI a0 r i∈ss:=λi i1 i2=>by
    rcases qA2_ i2 with z|z
    ·exact htr i i1 z
    ·rcases hx with⟨z0,_⟩|⟨_,e⟩
     ·omega
     ·rw[z,<-e];exact h1
   have hjs:j<=ss.length:=zFC (by omega) hall
   have hmod:((if j=0 then a0 else(a0+(j:Int)) % 94)+1) % 94=(a0+((j+1:Nat):Int)) % 94:=by
    split
    ·rename_i z;subst z;congr 1
    ·push_cast;omega
   have hsl':((SIG.length:Nat):Int)=94:=by rw[hsl];rfl
   have e1:((if j=0 then a0 else(a0+(j:Int)) % 94)+1) % ((SIG.length:Nat):Int)=(a0+((j+1:Nat):Int)) % 94:=by rw[hsl',hmod]
   have hat:atI SIG.cps.toList (((if j=0 then a0 else(a0+(j:Int)) % 94)+1) % ((SIG.length:Nat):Int))=some (fF (a0+((j+1:Nat):Int))):=by
    rw[e1]
    have b1:=qC1_ (a0+((j+1:Nat):Int)) (show(0:Int)<94 by decide)
    have b2:=qD1_ (a0+((j+1:Nat):Int)) (show(94:Int)≠0 by decide)
    have hlt:((a0+((j+1:Nat):Int)) % 94).toNat<(cs SIG).length:=by rw[<-WordM.len];omega
    have:=bG (xs:=cs SIG) (j:=((a0+((j+1:Nat):Int)) % 94).toNat) (qk_ hlt)
    rw[show((((a0+((j+1:Nat):Int)) % 94).toNat:Nat):Int)=(a0+((j+1:Nat):Int)) % 94 by omega]at this
    rw[this]
    unfold fF
    rw[qV_,qk_ hlt]
    rfl
   refine⟨by omega,by omega,by omega,_,hat,1,rfl,by omega,?_,?_⟩
   ·show 1+(Txt.slice x (some 1) none).length<=100000
    rw[hxr]
    split at hr1<;>omega
   ·refine⟨ss.length+2-(j+1),by omega,j+1,fI a0 r (j+1),by omega,by omega,λi i1 i2=>hall i i1 (by omega),.inr ⟨by omega,rfl⟩,?_⟩
    show [Sl.dk,.va (iT n),.va (iT m),.va (sT SIG),.own (ss.map sT),.va (iT (0+(i:Int))),.va (sT ((⟨#[fF (a0+((j+1:Nat):Int))]⟩:Str)++Txt.slice x (some 1) none)),.va (iT (((if j=0 then a0 else(a0+(j:Int)) % 94)+1) % ((SIG.length:Nat):Int)))]=_
    rw[e1,if_neg (by omega),hxr]
    rfl
  ·have h1:x∉ss:=by simpa using h1
   refine⟨⟨_,rfl⟩,_,rfl,by rw[qc_];omega,hN _ ⟨ss++[x],.va (iT (0+(i:Int))),.va (sT x),.va (iT (if j=0 then a0 else(a0+j) % 94)),by rw[qh_,hlen];rfl,⟨?_,λs hs=>?_⟩,?_⟩⟩
   ·rw[qy2_]
    exact⟨htx.1,by simp,λa ha b hb=>by rw[List.mem_singleton]at hb;subst hb;rintro rfl;exact h1 ha⟩
   ·rcases qp_.mp hs with z|z
    ·exact htx.2 s z
    ·rw[qW_]at z;subst z;exact⟨sx,hxm⟩
   ·rw[qG_];rfl
 ·rintro _ ⟨ss,s5,s6,s7,hlen,htx,rfl⟩
  rw[kB]at hlen
  exact q ss (by omega) htx
def rS:PSp:=λas R=>as=[.dk]/\∀r:Int,-(10 ^ 60)<r->r<10 ^ 60->R (iT r)
theorem C39_:bC ["_law_deck_here","_law_number_here","_law_k"] ["_law_deck_here"] (aN wY):=fsc (by decide +kernel)
theorem zLo(h:Has K mg "_law_far" wY)(B:Own mg)(G35_:PGood P w K mg base 2 "_law_take" ["_law_deck_here","_law_most"] iU)   : PGood P w K mg base 3 "_law_far" ["_law_deck_here"] rS:=by
 have nd:=C39_.nd
 refine h.pgood C39_ (fun|_,_,_,_,_,_,[_],_=>rfl) (λf cdv A outer s H E F hr=>
   (aI (bA 1 nd aH)
   (aI (dN (m:=3) qD_ rfl (mU rfl B.range (aD aH aE)) (cW 2 (by decide) nd rfl (.inl rfl))
    (aJ (bA 1 nd (bO cU (bO qP (aC 1) (bO nY aH aH)) (aL G35_ hr (cC 0 (aD (bO nY aH aH) aE)))))))
   (aJ (aR (bO cU (bO lQ (bO wC (aC 1) (bO lQ (bO qP aH (bO nY aH aH)) aH)) (bO nY aH aH)) aH)))))) (λas R q=>?_)
 obtain⟨rfl,q⟩:=q
 refine⟨rfl,8,rfl,by decide,by decide,?_⟩
 refine jM (λi ρ=>∃(x:Int) (s:Sl),0<=x/\x<10 ^ (8*i)/\ρ=[.dk,.va (iT x),s]) ⟨0,.no,by decide,by decide,rfl⟩ ?_ ?_
 ·rintro i T _ N hT ⟨x,s,x0,x1,rfl⟩ hN
  obtain⟨hi,rfl⟩:=nC hT
  have hi:i<8:=hi
  have xb:x<10 ^ 64:=Int.lt_of_lt_of_le x1 (by
   have:i=0\/i=1\/i=2\/i=3\/i=4\/i=5\/i=6\/i=7:=by omega
   rcases this with e|e|e|e|e|e|e|e<;>subst e<;>decide)
  refine⟨⟨by decide,by decide,by decide⟩,.inr ⟨cN (by omega) (by omega),cN (by decide) (by decide)⟩,rfl,⟨by decide,by decide,by decide⟩,10 ^ 8,rfl,by decide,cN (by decide) (by decide),λr r0 r1=>hN _ ⟨_,_,?_,?_,rfl⟩⟩
  ·show 0<=x*(10 ^ 8:Int)+r
   omega
  ·show x*(10 ^ 8:Int)+r<10 ^ (8*(i+1))
   have e:(10:Int) ^ (8*(i+1))=10 ^ (8*i)*10 ^ 8:=by rw[Nat.mul_add,Int.pow_add]
   rw[e]
   have h8:r<(10:Int) ^ 8:=r1
   generalize (10:Int) ^ (8*i)=y at x1
   omega
 ·rintro _ ⟨x,s,x0,x1,rfl⟩
  refine⟨⟨by decide,by decide,by decide⟩,.inl (.inl ⟨by decide,by decide⟩),(show(0:Int)<2*10 ^ 60-1 by decide),⟨by decide,by decide,by decide⟩,?_⟩
  have h1:=qD1_ x (show(2*10 ^ 60-1:Int)≠0 by decide)
  have h2:=qC1_ x (show(0:Int)<2*10 ^ 60-1 by decide)
  refine q _ ?_ ?_
  ·show -(10 ^ 60)<x % (2*10 ^ 60-1)-10 ^ 60+1
   omega
  ·show x % (2*10 ^ 60-1)-10 ^ 60+1<10 ^ 60
   omega
end
section
variable{P:Program}{w:World}{K:W.Frag}{mg:Str->Option Value}{base:Heap}
structure hE (nm tx:List Str) (st sp:Int):Prop where
 n11:nm.length=11
 t9:tx.length=9
 nd:nm.Nodup
 ndt:tx.Nodup
 ns:∀s∈nm,Sg s/\s.length<=40
 ts:∀s∈tx,Sg s/\s.length<=43
 st1:-(10 ^ 57)<=st
 st2:st<=10 ^ 57
 sp1:1<=sp
 sp2:sp<=10 ^ 20
def dG(nm tx:List Str)(st sp:Int):Tv:=.seq false [.seq false (nm.map sT),.seq false (tx.map sT),iT st,iT sp]
def vJ:PSp:=λas R=>as=[.dk]/\∀nm tx st sp,hE nm tx st sp->R (dG nm tx st sp)
theorem zHE{a b c:Str}(h:a++b=a++c):b=c:=by
 have:=congrArg cs h
 rw[WordM.app,WordM.app]at this
 exact kD (List.append_cancel_left this)
theorem C40_:bC ["_law_deck_here","_law_most","_law_names","_law_head","_law_texts","_law_start"] ["_law_deck_here"] (aN sI):=fsc (by decide +kernel)
theorem zLn(h:Has K mg "_law_world" sI)(B:Own mg)(G35_:PGood P w K mg base 2 "_law_take" ["_law_deck_here","_law_most"] iU)(G38_:PGood P w K mg base 4 "_law_unlike" ["_law_deck_here","_law_many","_law_most"] uQ)(G37_:PGood P w K mg base 3 "_law_text" ["_law_deck_here","_law_most"] rC)(G39_:PGood P w K mg base 3 "_law_far" ["_law_deck_here"] rS)   : PGood P w K mg base 5 "_law_world" ["_law_deck_here"] vJ:=by
 have nd:=C40_.nd
 refine h.pgood C40_ (fun|_,_,_,_,_,_,[_],_=>rfl) (λf cdv A outer s H E F hr=>
   (aI (bA 1 nd (aT hr (bI (cF (aD aH (aD aH (aD aH (aD aH (aD aH (aD aH (aD aH (aD aH aE)))))))))) (aL G35_ hr (cC 0 (aD aH aE)))))
   (aI (bA 2 nd (aL G38_ hr (cC 0 (aD aH (aD (aC 1) aE)))))
   (aI (bA 3 nd (aL G37_ hr (cC 0 (aD (bO qP aH (aL G35_ hr (cC 0 (aD aH aE)))) aE))))
   (aI (eO (sc:=aN sI) (XN:=["_law_deck_here","_law_most","_law_names","_law_head","_law_texts","_law_start"]) (N:=["_law_text_here","_law_head"]) (fr:=[3]) 4 nd (bU (aL G38_ hr (cC 0 (aD aH (aD (aC 1) aE))))) (λ_ _ _ _ _=>gI) (λ_ _ _ _ _=>(bO cU (aC 1) (aC 0))))
   (aI (bA 5 nd (aT hr (bI (cF (aD aH (aD aH (aD (zCA zCg aH) (aD (bO zGX (aL G39_ hr (cC 0 aE)) aH) aE)))))) (aL G35_ hr (cC 0 (aD aH aE)))))
   (aJ (aR (bI (cF (aD (aC 2) (aD (aC 4) (aD (aC 5) (aD (bO cU aH (aL G35_ hr (cC 0 (aD (aT hr (bI (cF (aD aH (aD (bO nY aH aH) aE)))) (aL G35_ hr (cC 0 (aD aH aE)))) aE)))) aE)))))))))))))) (λas R q=>?_)
 obtain⟨rfl,q⟩:=q
 refine⟨rfl,by decide,rfl,8,rfl,by decide,cN (by decide) (by decide),λr r0 r1=>?_⟩
 obtain⟨M,hM,hMm⟩:=pC (l:=[iT 4,iT 3,iT 5,iT 1,iT 4,iT 3,iT 6,iT 40]) r0 r1
 have hm:∃m:Int,M=iT m/\1<=m/\m<=40:=by
  simp only[List.mem_cons,List.not_mem_nil,or_false]at hMm
  rcases hMm with e|e|e|e|e|e|e|e<;>subst e<;>exact⟨_,rfl,by decide,by decide⟩
 obtain⟨m,rfl,m1,m2⟩:=hm
 refine⟨_,hM,?_⟩
 clear hM hMm
 refine⟨rfl,11,m,rfl,by decide,by decide,by omega,by omega,λnm hnm tnm=>?_⟩
 refine⟨rfl,rfl,2,rfl,by decide,cN (by decide) (by decide),λr2 a0 a1=>⟨.inl (.inl ⟨by decide,by decide⟩),_,rfl,by omega,by omega,λhd shd lhd=>?_⟩⟩
 refine⟨rfl,9,m,rfl,by decide,by decide,by omega,by omega,λtx htx ttx=>⟨by rw[qc_];omega,?_⟩⟩
 have lt:∀s∈tx,Sg s/\s.length<=40:=λs hs=>by
  have:=ttx.2 s hs
  refine⟨this.1,?_⟩
  have:=this.2
  split at this<;>omega
 refine dY sT (λs=>sT (hd++s)) (λs hs R q=>?_) ?_
 ·have:=(lt s hs).2
  exact⟨show hd.length+s.length<=100000 by omega,q⟩
 refine⟨rfl,rfl,λfr fr0 fr1=>⟨⟨by decide,cN (by decide) (by decide)⟩,(show 4<=100000 by decide),rfl,4,rfl,by decide,cN (by decide) (by decide),λr3 b0 b1=>?_⟩⟩
 obtain⟨S,hS,hSm⟩:=pC (l:=[iT 0,iT 7,iT (-40),iT (fr / 1000)]) b0 b1
 have hs:∃st:Int,S=iT st /\ -(10 ^ 57)<=st/\st<=10 ^ 57:=by
  simp only[List.mem_cons,List.not_mem_nil,or_false]at hSm
  rcases hSm with e|e|e|e<;>subst e
  ·exact⟨_,rfl,by decide,by decide⟩
  ·exact⟨_,rfl,by decide,by decide⟩
  ·exact⟨_,rfl,by decide,by decide⟩
  ·exact⟨_,rfl,by omega,by omega⟩
 obtain⟨st,rfl,st1,st2⟩:=hs
 refine⟨_,hS,?_⟩
 clear hS hSm
 refine⟨rfl,⟨by decide,by decide,by decide⟩,by decide,rfl,2,rfl,by decide,cN (by decide) (by decide),λr4 c0 c1=>?_⟩
 obtain⟨W,hW,hWm⟩:=pC (l:=[iT 6,iT (10 ^ 20)]) c0 c1
 have hw:∃wi:Int,W=iT wi/\1<=wi/\wi<=10 ^ 20:=by
  simp only[List.mem_cons,List.not_mem_nil,or_false]at hWm
  rcases hWm with e|e<;>subst e<;>exact⟨_,rfl,by decide,by decide⟩
 obtain⟨wi,rfl,w1,w2⟩:=hw
 refine⟨_,hW,wi,rfl,by omega,cN (by omega) (by omega),λsp sp0 sp1=>⟨(show 4<=100000 by decide),?_⟩⟩
 have:=q nm (tx.map λs=>hd++s) st (1+sp) ⟨by omega,by rw[qc_];omega,tnm.1,?_,λs hs=>?_,λs hs=>?_,st1,st2,by omega,by omega⟩
 ·show R (.seq false [.seq false (nm.map sT),.seq false (tx.map λs=>sT (hd++s)),iT st,iT (1+sp)])
  rw[dG,qA_]at this
  exact this
 ·unfold List.Nodup
  rw[qI2_]
  exact ttx.1.imp λh e=>h (zHE e)
 ·have:=tnm.2 s hs
  refine⟨this.1,?_⟩
  have:=this.2
  split at this<;>omega
 ·obtain⟨z,hz,rfl⟩:=qg_.mp hs
  refine⟨shd.app (lt z hz).1,?_⟩
  rw[WordM.len,WordM.app,qh_,<-WordM.len,<-WordM.len]
  have:=(lt z hz).2
  omega
def yA(n:Int):Prop:=-(10 ^ 60)<n/\n<10 ^ 60
def uS:PSp:=λas R=>∃nm tx st sp,as=[.dk,.va (dG nm tx st sp)]/\hE nm tx st sp/\∀n:Int,yA n->R (iT n)
theorem zIZ{a b:Int}(h1:1<=a)(h2:a<=10 ^ 20)(h3:-100<=b)(h4:b<=100):-(10 ^ 22)<=a*b/\a*b<=10 ^ 22:=by
 have e1:a*b<=a*100:=qr3_ h4 (by omega)
 have e2:a*(-100)<=a*b:=qr3_ h3 (by omega)
 omega
theorem C41_:bC ["_law_deck_here","_law_world_here","_law_way"] ["_law_deck_here","_law_world_here"] (aN wX):=fsc (by decide +kernel)
theorem zLm(h:Has K mg "_law_number" wX)(B:Own mg)(G35_:PGood P w K mg base 2 "_law_take" ["_law_deck_here","_law_most"] iU)(G39_:PGood P w K mg base 3 "_law_far" ["_law_deck_here"] rS)   : PGood P w K mg base 4 "_law_number" ["_law_deck_here","_law_world_here"] uS:=by
 have nd:=C41_.nd
 refine h.pgood C41_ (fun|_,_,_,_,_,_,[_,_],_=>rfl) (λf cdv A outer s H E F hr=>
   (aI (bA 2 nd (aL G35_ hr (cC 0 (aD aH aE))))
   (aI (bF (cH hr (aC 2) aH)
    (aJ (aR (bO lQ (aL G35_ hr (cC 0 (aD aH aE))) aH)))
    bE)
   (aI (bF (cH hr (aC 2) aH)
    (aJ (aR (aL G39_ hr (cC 0 aE))))
    bE)
   (aJ (aR (bO cU (aT hr (aC 1) aH) (bO qP (aT hr (aC 1) aH) (bO lQ (aL G35_ hr (cC 0 (aD aH aE))) aH))))))))) (λas R q=>?_)
 obtain⟨nm,tx,st,sp,rfl,hw,q⟩:=q
 obtain⟨_,_,_,_,_,_,st1,st2,sp1,sp2⟩:=hw
 refine⟨rfl,rfl,6,rfl,by decide,cN (by decide) (by decide),λr r0 r1=>?_⟩
 refine⟨_,rfl,sif (λ_=>⟨rfl,9,rfl,by decide,cN (by decide) (by decide),λk k0 k1=>q _ ⟨by omega,by omega⟩⟩) (λ_=>?_)⟩
 refine⟨_,rfl,sif (λ_=>⟨rfl,rfl,λk k0 k1=>q _ ⟨k0,k1⟩⟩) (λ_=>?_)⟩
 refine⟨_,rfl,_,rfl,rfl,12,rfl,by decide,cN (by decide) (by decide),λk k0 k1=>⟨.inr ⟨cN (by omega) (by omega),cN (by omega) (by omega)⟩,q _ ?_⟩⟩
 have:=zIZ (b:=k-4) sp1 sp2 (by omega) (by omega)
 exact⟨by show _<st+sp*(k-4);omega,by show st+sp*(k-4)<_;omega⟩
def wP(tx:List Str):Tv->Prop
 |.leaf .non=>True
 |.leaf (.bl _)=>True
 |.leaf (.int n)=>yA n
 |.leaf (.str s)=>s∈tx
 |_=>False
def rD:PSp:=λas R=>∃nm tx st sp,as=[.dk,.va (dG nm tx st sp)]/\hE nm tx st sp/\∀T,wP tx T->R T
theorem C42_:bC ["_law_deck_here","_law_world_here","_law_way"] ["_law_deck_here","_law_world_here"] (aN wW):=fsc (by decide +kernel)
theorem zLl(h:Has K mg "_law_leaf" wW)(B:Own mg)(G35_:PGood P w K mg base 2 "_law_take" ["_law_deck_here","_law_most"] iU)(G41_:PGood P w K mg base 4 "_law_number" ["_law_deck_here","_law_world_here"] uS)   : PGood P w K mg base 5 "_law_leaf" ["_law_deck_here","_law_world_here"] rD:=by
 have nd:=C42_.nd
 refine h.pgood C42_ (fun|_,_,_,_,_,_,[_,_],_=>rfl) (λf cdv A outer s H E F hr=>
   (aI (bA 2 nd (aL G35_ hr (cC 0 (aD aH aE))))
   (aI (bF (cH hr (aC 2) aH)
    (aJ (aR iS))
    bE)
   (aI (bF (cH hr (aC 2) aH)
    (aJ (aR (gO (kL hr.units).op (aL G35_ hr (cC 0 (aD aH aE))) aH)))
    bE)
   (aI (bF (dP rP (aC 2) aH)
    (aJ (aR (aL G41_ hr (cC 0 (aD (aC 1) aE)))))
    bE)
   (aJ (aR (aT hr (aT hr (aC 1) aH) (aL G35_ hr (cC 0 (aD (bB cA rfl B.len qn_ (aD (aT hr (aC 1) aH) aE)) aE))))))))))) (λas R q=>?_)
 obtain⟨nm,tx,st,sp,rfl,hw,q⟩:=q
 refine⟨rfl,rfl,8,rfl,by decide,cN (by decide) (by decide),λr r0 r1=>?_⟩
 refine⟨_,rfl,sif (λ_=>q nT trivial) (λ_=>?_)⟩
 refine⟨_,rfl,sif (λ_=>⟨rfl,2,rfl,by decide,cN (by decide) (by decide),λk k0 k1=>q (bT _) trivial⟩) (λ_=>?_)⟩
 refine⟨_,rfl,sif (λ_=>⟨rfl,nm,tx,st,sp,rfl,hw,λn hn=>q (iT n) hn⟩) (λ_=>?_)⟩
 refine⟨_,rfl,rfl,_,rfl,(tx.map sT).length,rfl,?_,?_,λk k0 k1=>?_⟩
 ·rw[qc_,hw.t9];decide
 ·rw[qc_,hw.t9];exact cN (by decide) (by decide)
 ·obtain⟨U,hU,hm⟩:=pC (l:=tx.map sT) k0 k1
  obtain⟨s,hs,rfl⟩:=qg_.mp hm
  exact⟨_,hU,q (sT s) hs⟩
end
end My
namespace My
open PySem L2 PyProof.Rows WordM
section
variable{P:Program}{w:World}{K:W.Frag}{mg:Str->Option Value}{base:Heap}
def zLO:Tv->Prop
 |.leaf v=>dJ v=true
 |.seq false _=>True
 |.dct _=>True
 |_=>False
def rE:PSp:=λas R=>∃T,as=[.va T]/\zLO T/\R (sT (cR (dI T)))
theorem C0_:bC ["value"] ["value"] (aN s0_):=fsc (by decide +kernel)
theorem g0_(h:Has K mg "kind_of" s0_)(B:Own mg)    : PGood P w K mg base 1 "kind_of" ["value"] rE:=by
 have nd:=C0_.nd
 refine h.pgood C0_ (fun|_,_,_,_,_,_,[_],_=>rfl) (λf cdv A outer s H E F hr=>
   (aI (bF (dP lX (aC 0) iS)
    (aJ (aR aY))
    bE)
   (aI (bF (cS (cJ "bool" jW rfl B.isinstance (aC 0) (cI (v:=.ty "bool") rfl B.bool_ boot_bool rfl)))
    (aJ (aR aY))
    bE)
   (aI (bF (cS (cJ "int" kU rfl B.isinstance (aC 0) (cI (v:=.ty "int") rfl B.int_ boot_int rfl)))
    (aJ (aR aY))
    bE)
   (aI (bF (cS (cJ "str" kT rfl B.isinstance (aC 0) (cI (v:=.ty "str") rfl B.str_ boot_str rfl)))
    (aJ (aR aY))
    bE)
   (aI (bF (cS (cJ "list" pF rfl B.isinstance (aC 0) (cI (v:=.ty "list") rfl B.list_ boot_list rfl)))
    (aJ (aR aY))
    bE)
   (aJ (aR aY)))))))) (λas R q=>?_)
 obtain⟨T,rfl,hT,q⟩:=q
 refine⟨rfl,?_⟩
 cases T with
 |leaf v=>
  rcases jX hT with rfl|⟨b,rfl⟩|⟨b,rfl⟩|⟨b,rfl⟩
  ·exact⟨_,rfl,cB q⟩
  ·exact⟨_,rfl,aW ⟨_,rfl,cB q⟩⟩
  ·exact⟨_,rfl,aW ⟨_,rfl,aW ⟨_,rfl,cB q⟩⟩⟩
  ·exact⟨_,rfl,aW ⟨_,rfl,aW ⟨_,rfl,aW ⟨_,rfl,cB q⟩⟩⟩⟩
 |seq t xs=>
  cases t with
  |false=>exact⟨_,rfl,aW ⟨_,rfl,aW ⟨_,rfl,aW ⟨_,rfl,aW ⟨_,rfl,cB q⟩⟩⟩⟩⟩
  |true=>exact False.elim hT
 |dct kts=>exact⟨_,rfl,aW ⟨_,rfl,aW ⟨_,rfl,aW ⟨_,rfl,aW ⟨_,rfl,aW q⟩⟩⟩⟩⟩
def tY:PSp:=λas R=>∃x m:Str,as=[.va (sT x),.va (sT m)]/\m∈MK/\x.length<=1000/\R (bT (jE x m))
theorem C5_:bC ["text","mark"] ["text","mark"] (aN s5_):=fsc (by decide +kernel)
theorem g5_(h:Has K mg "has_mark" s5_)(B:Own mg)(GSIGNS:oO K w.params mg "SIGNS" SGN)  : PGood P w K mg base 1 "has_mark" ["text","mark"] tY:=by
 have nd:=C5_.nd
 refine h.pgood C5_ (fun|_,_,_,_,_,_,[_,_],_=>rfl) (λf cdv A outer s H E F hr=>
   (aJ (aR (bB (zIs rfl) rfl B.any boot_any (aD (bI (iC (sc:=aN s5_) (XN:=["text","mark"]) (N:=["sign","mark"]) (fr:=[1]) (bU (aC 0)) (λ_ _ _ _ _=>(gO (lY hr.units).op (aC 0) (zCC GSIGNS rfl (aC 1)) rfl)))) aE))))) (λas R q=>?_)
 obtain⟨x,m,rfl,hm,hx,q⟩:=q
 obtain⟨S,hS⟩:∃S,getS SGN m=some S:=by
  simp only[MK,List.mem_cons,List.not_mem_nil,or_false]at hm
  rcases hm with e|e|e|e<;>subst e<;>exact⟨_,rfl⟩
 refine⟨rfl,by rw[qc_,<-WordM.len];omega,?_⟩
 refine dY (λc=>sT ⟨#[c]⟩) (λc=>bT (decide (c∈cs S))) (λc hc R q=>⟨m,S,rfl,hS,?_⟩) ?_
 ·have e:(false != inS ⟨#[c]⟩ S)=decide (c∈cs S):=by
   unfold inS
   rw[StrLaws.found_one]
   simp
  show R (some (bT (false != inS ⟨#[c]⟩ S))) _
  rw[e]
  exact q
 ·refine⟨(cs x).map λc=>decide (c∈cs S),by rw[qA_];rfl,?_⟩
  have e:((cs x).map λc=>decide (c∈cs S)).any id=jE x m:=by
   rw[List.any_map,jE,hS]
   rfl
  rw[e]
  exact q
def pV:PSp:=λas R=>∃x:Str,as=[.va (sT x)]/\x.length<=1000/\R (.seq true ((dE x).map sT))
theorem C6_:bC ["text"] ["text"] (aN s6_):=fsc (by decide +kernel)
theorem g6_(h:Has K mg "marks_of" s6_)(B:Own mg)(G5_:PGood P w K mg base 1 "has_mark" ["text","mark"] tY)(GMARKS:eG K mg "MARKS" (.seq true (MK.map sT)))  : PGood P w K mg base 2 "marks_of" ["text"] pV:=by
 have nd:=C6_.nd
 refine h.pgood C6_ (fun|_,_,_,_,_,_,[_],_=>rfl) (λf cdv A outer s H E F hr=>
   (aJ (aR (fM fP rfl B.tuple_ boot_tuple (aD (bI (oH (sc:=aN s6_) (XN:=["text"]) (N:=["mark","text"]) (fr:=[0]) (bU (oI GMARKS rfl)) (λ_ _ _ _ _=>(hG (cS (aL G5_ hr (aD (aC 1) (aD (aC 0) aE)))))) (λ_ _ _ _ _=>(aC 0)))) aE))))) (λas R q=>?_)
 obtain⟨x,rfl,hx,q⟩:=q
 refine⟨rfl,by decide,?_⟩
 refine jZ (l:=MK) sT (λm=>if jE x m=true then some (sT m) else none) (λm hm R q=>⟨x,m,rfl,hm,hx,_,rfl,sif (λz=>?_) (λz=>?_)⟩) ?_
 ·rw[if_pos z]at q;exact q
 ·rw[if_neg (by rw[z];exact ql_)]at q;exact q
 ·refine⟨false,_,rfl,?_⟩
  have e:(MK.filterMap λm=>if jE x m=true then some (sT m) else none)=(dE x).map sT:=by
   unfold dE
   generalize MK=l
   induction l with
   |nil=>rfl
   |cons a l ih=>
    rw[qK_,List.filter_cons,ih]
    cases jE x a<;>simp
  rw[e]
  exact q
end
end My
namespace My
open PySem L2 PyProof.Rows WordM
section
variable{P:Program}{w:World}{K:W.Frag}{mg:Str->Option Value}{base:Heap}
variable{n:Nat}
def yB:List (Str×Str):=[("nothing","nothing"),("truths","truth"),("numbers","number"),("texts","text"),("lists","list"),("record","dict"),("table","dict")]
theorem at0{α:Type}{x:α}{r:List α}:atI (x::r) 0=some x:=bG (j:=0) rfl
theorem zA6(p:Pt):∃r,aX p=.seq true (sT (wG p)::r)/\r.length<=4:=by
 cases p with
 |record a b fs=>exact⟨_,eK a b fs,by simp⟩
 |lists a b f=>exact⟨_,iJ a b f,by simp⟩
 |table a b w f=>exact⟨_,fL a b w f,by simp⟩
 |_=>rw[aX];exact⟨_,rfl,by simp⟩
theorem zI3(p:Pt):getS yB (wG p)=some (cR (fG p)):=by
 cases p<;>rfl
def tP:PSp:=λas R=>∃p:Pt,as=[.va (aX p)]/\R (sT (cR (fG p)))
theorem C15_:bC ["part"] ["part"] (aN xG):=fsc (by decide +kernel)
theorem zLF(h:Has K mg "part_kind" xG)(B:Own mg)(GPART_KINDS:oO K w.params mg "PART_KINDS" yB)  : PGood P w K mg base 1 "part_kind" ["part"] tP:=by
 have nd:=C15_.nd
 refine h.pgood C15_ (fun|_,_,_,_,_,_,[_],_=>rfl) (λf cdv A outer s H E F hr=>
   (aJ (aR (zCC GPART_KINDS rfl (aT hr (aC 0) aH))))) (λas R q=>?_)
 obtain⟨p,rfl,q⟩:=q
 obtain⟨r,e,_⟩:=zA6 p
 rw[e]
 exact⟨rfl,_,at0,_,_,rfl,zI3 p,q⟩
theorem zEW{a b:Nat}(ha:a<=5)(hb:b<=5)(h:cR a=cR b):a=b:=by
 have h1:a=0\/a=1\/a=2\/a=3\/a=4\/a=5:=by omega
 have h2:b=0\/b=1\/b=2\/b=3\/b=4\/b=5:=by omega
 rcases h1 with e|e|e|e|e|e<;>subst e<;>rcases h2 with e|e|e|e|e|e<;>subst e<;>first|rfl|exact absurd h (by decide +kernel)
theorem zF5(p:Pt):fG p<=5:=by cases p<;>simp[fG]
def xT:Option Pt->Tv
 |none=>nT
 |some p=>aX p
def mW:PSp:=λas R=>∃(f:List Pt) (k:Nat),as=[.va (bS f),.va (sT (cR k))]/\k<=5/\R (xT (f.find? λp=>decide (fG p=k)))
theorem C16_:bC ["form","kind","part"] ["form","kind"] (aN xF):=fsc (by decide +kernel)
theorem zLE(h:Has K mg "part_for" xF)(B:Own mg)(G15_:PGood P w K mg base 1 "part_kind" ["part"] tP)   : PGood P w K mg base 2 "part_for" ["form","kind"] mW:=by
 have nd:=C16_.nd
 refine h.pgood C16_ (fun|_,_,_,_,_,_,[_,_],_=>rfl) (λf cdv A outer s H E F hr=>
   (aI (dN (m:=3) qD_ rfl (bU (aC 0)) (cW 2 (by decide) nd rfl (.inl rfl))
    (aJ (bF (cH hr (aL G15_ hr (aD (aC 2) aE)) (aC 1))
     (aJ (aR (aC 2)))
     bE)))
   (aJ (aR iS)))) (λas R q=>?_)
 obtain⟨f,k,rfl,hk,q⟩:=q
 refine⟨rfl,?_⟩
 refine fS aX (l:=f) (λi ρ=>(∀j p,j<i->f[j]?=some p->fG p≠k)/\∃s,ρ=[.va (bS f),.va (sT (cR k)),s]) ⟨λj p h=>absurd h (qh3_ _),.no,rfl⟩ ?_ ?_
 ·rintro i p _ N hp ⟨hj,s,rfl⟩ hN
  refine⟨p,rfl,_,rfl,sC (λe=>?_) (λe=>?_)⟩
  ·have e:=zEW (zF5 p) hk e
   have:f.find? (λp=>decide (fG p=k))=some p:=by
    rw[List.find?_eq_some_iff_getElem]
    obtain⟨hi,rfl⟩:=qw_.mp hp
    exact⟨qS_ e,i,hi,rfl,λj hj'=>by
     have:=hj j f[j] hj' (qk_ (by omega))
     simpa using this⟩
   rw[this]at q
   exact q
  ·refine hN _ ⟨λj p' hj' ep=>?_,_,rfl⟩
   by_cases z:j=i
   ·subst z;rw[hp]at ep;cases ep;exact λz=>e (by rw[z])
   ·exact hj j p' (by omega) ep
 ·rintro _ ⟨hj,s,rfl⟩
  have:f.find? (λp=>decide (fG p=k))=none:=by
   rw[qi3_]
   intro p hp
   obtain⟨j,hj',rfl⟩:=qB2_.mp hp
   simpa using hj j _ hj' (qk_ hj')
  rw[this]at q
  exact q
end
end My
namespace My
open PySem L2 PyProof.Rows WordM
section
variable{P:Program}{w:World}{K:W.Frag}{mg:Str->Option Value}{base:Heap}
open GcdM CutM
theorem nxE{N:aQ->Prop}{ρ ρ':aQ}(e:ρ=ρ')(h:N ρ'):N ρ:=e▸h
def oX(a:R3):Tv:=.seq true [iT a.1,iT a.2.1,iT a.2.2]
def wM:PSp:=λas R=>∃a b:Int,as=[.va (iT a),.va (iT b)]/\0<=a/\0<=b/\R (iT (g a b))
theorem C1_:bC ["one","other","rest"] ["one","other"] (aN s1_):=fsc (by decide +kernel)
theorem g1_(h:Has K mg "divisor_of" s1_)(B:Own mg)    : PGood P w K mg base 1 "divisor_of" ["one","other"] wM:=by
 have nd:=C1_.nd
 refine h.pgood C1_ (fun|_,_,_,_,_,_,[_,_],_=>rfl) (λf cdv A outer s H E F hr=>
   (aI (mY qD_ (fY hr (aC 1) aH)
    (aI (bA 2 nd (bO wC (aC 0) (aC 1)))
    (aI (bA 0 nd (aC 1))
    (aJ (bA 1 nd (aC 2))))))
   (aJ (aR (aC 0))))) (λas R q=>?_)
 obtain⟨a,b,rfl,a0,b0,q⟩:=q
 refine⟨rfl,λm ρ=>∃(x y:Int) (s:Sl),m=y.toNat/\0<=x/\0<=y/\g x y=g a b/\ρ=[.va (iT x),.va (iT y),s],⟨_,a,b,.no,rfl,a0,b0,rfl,rfl⟩,?_⟩
 rintro m _ ⟨x,y,s,rfl,x0,y0,e,rfl⟩
 refine⟨_,rfl,sif (λz=>?_) (λz=>?_)⟩
 ·have hy:y≠0:=by simpa[eqV]using z
  have h1:=qD1_ x hy
  have h2:=qC1_ x (show 0<y by omega)
  exact⟨(show 0<y by omega),_,by omega,y,x % y,_,rfl,y0,h1,(zJg (show 0<y by omega)).trans e,rfl⟩
 ·have hy:y=0:=by simpa[eqV]using z
  subst hy
  rw[zJf x x0]at e
  rw[<-e]at q
  exact q
def iG(lo hi st:Int):List Int:=[lo,hi,lo+st]
def tW:PSp:=λas R=>∃lo hi st:Int,as=[.va (.seq true [iT lo,iT hi,iT st])]/\R (.seq false ((iG lo hi st).map iT))
theorem C3_:bC ["run"] ["run"] (aN s3_):=fsc (by decide +kernel)
theorem g3_(h:Has K mg "telling_numbers" s3_)(B:Own mg)    : PGood P w K mg base 1 "telling_numbers" ["run"] tW:=by
 have nd:=C3_.nd
 refine h.pgood C3_ (fun|_,_,_,_,_,_,[_],_=>rfl) (λf cdv A outer s H E F hr=>
   (aJ (aR (bI (cF (aD (aT hr (aC 0) aH) (aD (aT hr (aC 0) aH) (aD (bO cU (aT hr (aC 0) aH) (aT hr (aC 0) aH)) aE)))))))) (λas R q=>?_)
 obtain⟨lo,hi,st,rfl,q⟩:=q
 exact⟨rfl,_,rfl,_,rfl,_,rfl,_,rfl,by simp,q⟩
def vK:PSp:=λas R=>∃ns:List Int,as=[.va (.seq false (ns.map iT))]/\ns≠[]/\R (oX (dA ns))
theorem C2_:bC ["numbers","lo","step","number"] ["numbers"] (aN s2_):=fsc (by decide +kernel)
theorem g2_(h:Has K mg "run_of" s2_)(B:Own mg)(G1_:PGood P w K mg base 1 "divisor_of" ["one","other"] wM)   : PGood P w K mg base 2 "run_of" ["numbers"] vK:=by
 have nd:=C2_.nd
 refine h.pgood C2_ (fun|_,_,_,_,_,_,[_],_=>rfl) (λf cdv A outer s H E F hr=>
   (aI (bF (cH hr (bB cA rfl B.len qn_ (aD (aC 0) aE)) aH)
    (aJ zB4)
    bE)
   (aI (bA 1 nd (bB (hJ rfl) rfl B.min boot_min (aD (aC 0) aE)))
   (aI (bA 2 nd aH)
   (aI (dN (m:=4) qD_ rfl (bU (aC 0)) (cW 3 (by decide) nd rfl (.inl rfl))
    (aJ (bA 2 nd (aL G1_ hr (aD (bO lQ (aC 3) (aC 1)) (aD (aC 2) aE))))))
   (aJ (aR (bX (aD (aC 1) (aD (bB (hX rfl) rfl B.max boot_max (aD (aC 0) aE)) (aD (aC 2) aE))))))))))) (λas R q=>?_)
 obtain⟨ns,rfl,ne,q⟩:=q
 have l0:0<ns.length:=qO1_.mpr ne
 refine⟨rfl,_,rfl,eQ (λz=>absurd z (by rw[qc_];omega)) (λ_=>?_)⟩
 refine .inr (.inl ⟨ns,rfl,l0,λlo lo1 lo2=>?_⟩)
 show PEnds.nx _ _
 refine nxE (ρ':=[.va (.seq false (ns.map iT)),.va (iT lo),.no,.no]) rfl ?_
 have el:lo=bM ns:=(nJ lo1 lo2).symm
 refine fS iT (l:=ns) (λi ρ=>∃s3:Sl,ρ=[.va (.seq false (ns.map iT)),.va (iT lo),.va (iT ((ns.take i).foldl (λs n=>g (n-lo) s) 0)),s3]) ⟨.no,rfl⟩ ?_ ?_
 ·rintro i a _ N ha ⟨s3,rfl⟩ hN
  have h1:=lo2 a (qz_ ha)
  refine⟨a-lo,_,rfl,by omega,pJ (qV1_ 0),hN _ ⟨.va (iT a),?_⟩⟩
  rw[qr1_,ha,qL2_]
  rfl
 ·rintro _ ⟨s3,rfl⟩
  rw[qd1_]
  refine .inr (.inl ⟨ns,rfl,l0,λhi hi1 hi2=>⟨by simp,?_⟩⟩)
  have eh:hi=bR ns:=(nL hi1 hi2).symm
  subst el eh
  exact q
def oD:PSp:=λas R=>∃a b:R3,as=[.va (oX a),.va (oX b)]/\Ok a/\Ok b/\R (oX (joinR a b))
theorem C4_:bC ["one","other"] ["one","other"] (aN s4_):=fsc (by decide +kernel)
theorem g4_(h:Has K mg "run_joined" s4_)(B:Own mg)(G2_:PGood P w K mg base 2 "run_of" ["numbers"] vK)(G3_:PGood P w K mg base 1 "telling_numbers" ["run"] tW)   : PGood P w K mg base 3 "run_joined" ["one","other"] oD:=by
 have nd:=C4_.nd
 refine h.pgood C4_ (fun|_,_,_,_,_,_,[_,_],_=>rfl) (λf cdv A outer s H E F hr=>
   (aJ (aR (aL G2_ hr (aD (bO cU (aL G3_ hr (aD (aC 0) aE)) (aL G3_ hr (aD (aC 1) aE))) aE))))) (λas R q=>?_)
 obtain⟨a,b,rfl,ha,hb,q⟩:=q
 refine⟨rfl,a.1,a.2.1,a.2.2,rfl,b.1,b.2.1,b.2.2,rfl,by simp[iG],iG a.1 a.2.1 a.2.2++iG b.1 b.2.1 b.2.2,by rw[qG_],by simp[iG],?_⟩
 have ne:iG a.1 a.2.1 a.2.2++iG b.1 b.2.1 b.2.2≠[]:=by simp[iG]
 obtain⟨m1,m2⟩:=iO ne
 obtain⟨m3,m4⟩:=iP ne
 have e:dA (iG a.1 a.2.1 a.2.2++iG b.1 b.2.1 b.2.2)=joinR a b:=zEZ ha hb m1 m2 m3 m4
 rw[e]
 exact q
end
end My
namespace My
open PySem L2 PyProof.Rows WordM
section
variable{P:Program}{w:World}{K:W.Frag}{mg:Str->Option Value}{base:Heap}
theorem sN{a b:Str}{A B:Prop}(h:a≠b)(k:B):if (false != eqV (.str a) (.str b))=true then A else B:=sC (λz=>absurd z h) λ_=>k
theorem sY{a:Str}{A B:Prop}(k:A):if (false != eqV (.str a) (.str a))=true then A else B:=sC (λ_=>k) λz=>absurd rfl z
theorem qA(lo hi st:Int):aX (.numbers lo hi st)=.seq true [sT "numbers",iT lo,iT hi,iT st]:=by rw[aX]
theorem pN(bs:List Bool):aX (.truths bs)=.seq true [sT "truths",.seq true (bs.map bT)]:=by rw[aX]
theorem pT(w:Wd):aX (.texts w)=.seq true [sT "texts",bW w]:=by rw[aX]
theorem tJ:aX .nothing=.seq true [sT "nothing"]:=by rw[aX]
end
section
variable{P:Program}{w:World}{K:W.Frag}{mg:Str->Option Value}{base:Heap}
def sS:PSp:=λas R=>∃ms ms':List Str,as=[.va (.seq true (ms.map sT)),.va (.seq true (ms'.map sT))]/\ms.length<=4/\ms'.length<=4/\R (.seq true ((jnM ms ms').map sT))
theorem C7_:bC ["one","other"] ["one","other"] (aN s7_):=fsc (by decide +kernel)
theorem g7_(h:Has K mg "marks_joined" s7_)(B:Own mg)    : PGood P w K mg base 1 "marks_joined" ["one","other"] sS:=by
 have nd:=C7_.nd
 refine h.pgood C7_ (fun|_,_,_,_,_,_,[_,_],_=>rfl) (λf cdv A outer s H E F hr=>
   (aJ (aR (fM fP rfl B.tuple_ boot_tuple (aD (bI (zS rfl rfl B.sorted rfl B.set_ (aC 0) (aC 1))) aE))))) (λas R q=>?_)
 obtain⟨ms,ms',rfl,l1,l2,q⟩:=q
 exact⟨rfl,ms,.inl rfl,by omega,ms',.inl rfl,by omega,_,_,rfl,q⟩
theorem zCo:∀(k:Nat) (x y:List Nat),x.take k=y.take k->k<=x.length->k<=y.length->(k=x.length\/k=y.length\/x[k]?≠y[k]?)->lcp x y=x.take k
 |0,[],y,_,_,_,_=>by cases y<;>rfl
 |0,a::x,[],_,_,_,_=>rfl
 |0,a::x,b::y,_,_,_,h=>by
  rcases h with h|h|h
  ·simp at h
  ·simp at h
  ·have:a≠b:=by simpa using h
   rw[lcp,if_neg this]
   rfl
 |k+1,[],y,_,h,_,_=>by simp at h
 |k+1,a::x,[],_,_,h,_=>by simp at h
 |k+1,a::x,b::y,e,h1,h2,h3=>by
  simp only[List.take_succ_cons,List.cons.injEq]at e
  rw[lcp,if_pos e.1,zCo k x y e.2 (by simpa using h1) (by simpa using h2) (by simpa using h3)]
  rfl
def shH(x y:Str):Str:=⟨(lcp (cs x) (cs y)).toArray⟩
theorem zCb(x y:Str):IsHead [x,y] (shH x y):=uX (ts:=[x,y]) (by simp)
theorem zAH:∀(h a b y:List Nat),h++a<=y->y<=h++b->∃r,y=h++r
 |[],a,b,y,_,_=>⟨y,rfl⟩
 |c::h,a,b,[],h1,_=>absurd (List.nil_lt_cons c (h++a)) (qa1_.mpr h1)
 |c::h,a,b,d::y,h1,h2=>by
  rw[qZ1_]at h1 h2
  have e:c=d:=by
   rcases Nat.lt_trichotomy c d with z|z|z
   ·exact absurd (qV2_.mpr (.inl z)) (qa1_.mpr h2)
   ·exact z
   ·exact absurd (qV2_.mpr (.inl z)) (qa1_.mpr h1)
  subst e
  obtain⟨r,e⟩:=zAH h a b y (qa1_.mp λz=>qa1_.mpr h1 (qV2_.mpr (.inr ⟨rfl,z⟩))) (qa1_.mp λz=>qa1_.mpr h2 (qV2_.mpr (.inr ⟨rfl,z⟩)))
  exact⟨r,by rw[e];rfl⟩
theorem zE4{ts:List Str}{x y hd:Str}(hx:x∈ts)(hy:y∈ts)(lx:∀t∈ts,cs x<=cs t)(ly:∀t∈ts,cs t<=cs y)(h:IsHead [x,y] hd):IsHead ts hd:=by
 refine⟨λt ht=>?_,λh' hh=>h.top h' λt ht=>?_⟩
 ·obtain⟨a,ea⟩:=h.all x (by simp)
  obtain⟨b,eb⟩:=h.all y (by simp)
  exact zAH (cs hd) a b (cs t) (by rw[<-ea];exact lx t ht) (by rw[<-eb];exact ly t ht)
 ·rcases qy_.mp ht with z|z
  ·rw[z];exact hh x hx
  ·rw[show t=y by simpa using z];exact hh y hy
theorem zFE{x:Str}{n:Nat}(h:n<=x.length):cs (Txt.slice x none (some (n:Int)))=(cs x).take n:=by
 have e:=beq_iff_eq.mp (PyProof.Rows.slice_closes_toL (x:=x) (j:=(n:Int)) (by omega) (by omega))
 rw[e]
 show((cs x).drop 0).take _=_
 rw[ql2_]
 congr 1
theorem zET{us:List Str}{hd z:Str}(hs:∀t∈us,Sg t)(e:cs z=cD (us.map λt=>aU t hd)):dE z=jN us hd:=by
 unfold dE jN
 refine List.filter_congr λm hm=>?_
 rw[qy1_,jE,qQ_,qQ_,e]
 unfold cD
 have sg:∀t∈us,∀c∈cs (aU t hd),c∈cs SIG:=λt ht c hc=>(hs t ht).slice _ _ c hc
 constructor
 ·rintro⟨c,hc,h2⟩
  obtain⟨l,hl,hc⟩:=qt1_.mp hc
  obtain⟨t',ht',rfl⟩:=qg_.mp hl
  obtain⟨t,ht,rfl⟩:=qg_.mp ht'
  exact⟨t,ht,qQ_.mpr ⟨c,hc,qS_ ((qS (sg t ht c hc) m hm).mp (qe1_ h2))⟩⟩
 ·rintro⟨t,ht,h2⟩
  obtain⟨c,hc,h3⟩:=qQ_.mp h2
  exact⟨c,qt1_.mpr ⟨_,qg_.mpr ⟨_,qg_.mpr ⟨t,ht,rfl⟩,rfl⟩,hc⟩,qS_ ((qS (sg t ht c hc) m hm).mpr (qe1_ h3))⟩
theorem zGk(us:List Str)(n:Nat)(h:∀t∈us,t.length<=n):(cD us).length<=us.length*n:=by
 induction us with
 |nil=>simp[cD]
 |cons t us ih=>
  have e:cD (t::us)=cs t++cD us:=rfl
  rw[e,qh_,<-WordM.len,qI_,Nat.succ_mul]
  have:=ih λx hx=>h x (qb1_ _ hx)
  have:=h t qi1_
  omega
def sQ:PSp:=λas R=>∃x y:Str,as=[.va (sT x),.va (sT y)]/\x.length<=1000/\y.length<=1000/\R (sT (shH x y))
theorem C8_:bC ["one","other","size"] ["one","other"] (aN s8_):=fsc (by decide +kernel)
theorem g8_(h:Has K mg "shared_head" s8_)(B:Own mg)    : PGood P w K mg base 1 "shared_head" ["one","other"] sQ:=by
 have nd:=C8_.nd
 refine h.pgood C8_ (fun|_,_,_,_,_,_,[_,_],_=>rfl) (λf cdv A outer s H E F hr=>
   (aI (bA 2 nd aH)
   (aI (mY qD_ (fX (nS (dP rP (aC 2) (bB cA rfl B.len qn_ (aD (aC 0) aE))) (nS (dP rP (aC 2) (bB cA rfl B.len qn_ (aD (aC 1) aE))) (qL (cH hr (aT hr (aC 0) (aC 2)) (aT hr (aC 1) (aC 2)))))))
    (aJ (bA 2 nd (bO cU (aC 2) aH))))
   (aJ (aR (fO fV (aC 0) fR (fQ (aC 2)))))))) (λas R q=>?_)
 obtain⟨x,y,rfl,lx,ly,q⟩:=q
 have ex:x.length=(cs x).length:=WordM.len x
 have ey:y.length=(cs y).length:=WordM.len y
 refine⟨rfl,λm ρ=>∃k:Nat,m=x.length-k/\k<=x.length/\k<=y.length/\(cs x).take k=(cs y).take k/\ρ=[.va (sT x),.va (sT y),.va (iT (k:Nat))],⟨_,0,rfl,qu_ _,qu_ _,rfl,rfl⟩,?_⟩
 rintro m _ ⟨k,rfl,k1,k2,e,rfl⟩
 have fin:(k=(cs x).length\/k=(cs y).length\/(cs x)[k]?≠(cs y)[k]?)->R (sT (Txt.slice x none (some (k:Int)))):=λh=>by
  have e2:Txt.slice x none (some (k:Int))=shH x y:=kD (by rw[zFE k1];exact(zCo k (cs x) (cs y) e (by omega) (by omega) h).symm)
  rw[e2];exact q
 refine⟨by show x.length<=_;omega,_,rfl,kN (λz1=>⟨by show y.length<=_;omega,_,rfl,kN (λz2=>?_) (λz2=>?_)⟩) (λz1=>?_)⟩
 ·have z1:(k:Int)<(x.length:Nat):=z1
  have z2:(k:Int)<(y.length:Nat):=z2
  have gx:(cs x)[k]?=some (cs x)[k]:=qk_ (by omega)
  have gy:(cs y)[k]?=some (cs y)[k]:=qk_ (by omega)
  refine⟨by show x.length<=_;omega,(cs x)[k],bG (j:=k) gx,by show y.length<=_;omega,(cs y)[k],bG (j:=k) gy,_,rfl,?_⟩
  refine sC (λz=>?_) (λz=>?_)
  ·have ee:(cs x)[k]=(cs y)[k]:=by simpa using z
   refine⟨x.length-(k+1),by omega,k+1,rfl,by omega,by omega,?_,by push_cast;rfl⟩
   rw[qr1_,qr1_,e,gx,gy,ee]
  ·refine⟨_,rfl,by show x.length<=_;omega,fin (.inr (.inr λh=>z ?_))⟩
   rw[gx,gy]at h
   injection h with h
   rw[h]
 ·have z2:¬ (k:Int)<(y.length:Nat):=z2
  exact⟨_,rfl,by show x.length<=_;omega,fin (.inr (.inl (by omega)))⟩
 ·have z1:¬ (k:Int)<(x.length:Nat):=z1
  exact⟨_,rfl,by show x.length<=_;omega,fin (.inl (by omega))⟩
def qI:PSp:=λas R=>∃(t:Bool) (us:List Str),as=[.va (.seq t (us.map sT))]/\us≠[]/\us.length<=20/\(∀t∈us,fK t)/\R (bW (eS us))
theorem qR{us:List Str}{hd:Str}{lo hi:Int}{ms:List Str}(m:MOf us hd lo hi ms):Wd.make hd lo hi ms=eS us:=by
 obtain⟨h2,l2,u2,m2,e,k⟩:=iN m.ne
 obtain⟨e1,e2,e3,e4⟩:=m.uniq k
 rw[e,e1,e2,e3,e4]
theorem C9_:bC ["texts","head","tails","sizes"] ["texts"] (aN s9_):=fsc (by decide +kernel)
theorem g9_(h:Has K mg "make_of" s9_)(B:Own mg)(G8_:PGood P w K mg base 1 "shared_head" ["one","other"] sQ)(G6_:PGood P w K mg base 2 "marks_of" ["text"] pV)   : PGood P w K mg base 3 "make_of" ["texts"] qI:=by
 have nd:=C9_.nd
 refine h.pgood C9_ (fun|_,_,_,_,_,_,[_],_=>rfl) (λf cdv A outer s H E F hr=>
   (aI (bA 1 nd (aL G8_ hr (aD (bB (zGV rfl) rfl B.min boot_min (aD (aC 0) aE)) (aD (bB (zGW rfl) rfl B.max boot_max (aD (aC 0) aE)) aE))))
   (aI (eO (sc:=aN s9_) (XN:=["texts","head","tails","sizes"]) (N:=["text","head"]) (fr:=[1]) 2 nd (bU (aC 0)) (λ_ _ _ _ _=>gI) (λ_ _ _ _ _=>(fO fV (aC 0) (fQ (bB cA rfl B.len qn_ (aD (aC 1) aE))) fR)))
   (aI (eO (sc:=aN s9_) (XN:=["texts","head","tails","sizes"]) (N:=["tail"]) (fr:=[]) 3 nd (bU (aC 2)) (λ_ _ _ _ _=>gI) (λ_ _ _ _ _=>(bB cA rfl B.len qn_ (aD (aC 0) aE))))
   (aJ (aR (bX (aD aY (aD (aC 1) (aD (bB (hJ rfl) rfl B.min boot_min (aD (aC 3) aE)) (aD (bB (hX rfl) rfl B.max boot_max (aD (aC 3) aE)) (aD (aL G6_ hr (aD (rA PySem.F.slot_str_join PySem.F.type_str_join zBA aY (aD (aC 2) aE)) aE)) aE)))))))))))) (λas R q=>?_)
 obtain⟨t,us,rfl,ne,l64,hu,q⟩:=q
 have l0:0<us.length:=qO1_.mpr ne
 refine⟨rfl,t,us,rfl,l0,λx x1 x2=>⟨t,us,rfl,l0,λy y1 y2=>⟨x,y,rfl,by have:=(hu x x1).2;omega,by have:=(hu y y1).2;omega,?_⟩⟩⟩
 have hh:IsHead us (shH x y):=zE4 x1 y1 x2 y2 (zCb x y)
 generalize shH x y=hd at hh
 show PEnds.nx _ _
 refine nxE (ρ':=[.va (.seq t (us.map sT)),.va (sT hd),.no,.no]) rfl ?_
 have rl:∀t∈us,((aU t hd).length:Int)=(t.length:Int)-(hd.length:Int)/\(aU t hd).length<=50:=λt ht=>by
  obtain⟨r,e⟩:=hh.all t ht
  have h1:=kC e
  have h2:=congrArg List.length e
  rw[qh_]at h2
  have h3:=(hu t ht).2
  rw[WordM.len]at h3
  rw[WordM.len,WordM.len t,WordM.len hd,h1]
  omega
 have hl:hd.length<=50:=by
  obtain⟨t,ht⟩:=qF1_ _ ne
  have:=(rl t ht).1
  have:=(hu t ht).2
  omega
 refine⟨by rw[qc_];omega,dY sT (λt=>sT (aU t hd)) (λt ht R q=>⟨by show hd.length<=_;omega,_,rfl,by have:=(hu t ht).2;show t.length<=_;omega,q⟩) ?_⟩
 show PEnds.nx _ _
 refine nxE (ρ':=[.va (.seq t (us.map sT)),.va (sT hd),.va (.seq false ((us.map λt=>aU t hd).map sT)),.no]) (by rw[qA_];rfl) ?_
 refine⟨by rw[qc_,qc_];omega,dY sT (λt=>iT (t.length:Nat)) (λt ht R q=>?_) ?_⟩
 ·obtain⟨u,hu',rfl⟩:=qg_.mp ht
  exact⟨by have:=(rl u hu').2;show(aU u hd).length<=_;omega,q⟩
 have es:((us.map λt=>aU t hd).map λt=>iT (t.length:Nat))=((us.map λt=>(t.length:Int)-(hd.length:Int))).map iT:=by
  rw[qA_,qA_]
  apply qx2_
  intro t ht
  show iT ((aU t hd).length:Nat)=iT _
  rw[(rl t ht).1]
 rw[es]
 have ne2:(us.map λt=>(t.length:Int)-(hd.length:Int))≠[]:=by simpa using ne
 refine .inr (.inl ⟨_,rfl,qO1_.mpr ne2,λlo lo1 lo2=>.inr (.inl ⟨_,rfl,qO1_.mpr ne2,λhi hi1 hi2=>?_⟩)⟩)
 have cl:(cD (us.map λt=>aU t hd)).length<=1000:=by
  have:=zGk (us.map λt=>aU t hd) 50 λt ht=>by
   obtain⟨u,hu',rfl⟩:=qg_.mp ht
   exact(rl u hu').2
  rw[qc_]at this
  omega
 refine⟨rfl,us.map λt=>aU t hd,rfl,rfl,by omega,_,rfl,by show(cD (us.map λt=>aU t hd)).length<=_;exact cl,by simp,?_⟩
 rw[zET (us:=us) (hd:=hd) (z:=⟨(cD (us.map λt=>aU t hd)).toArray⟩) (λt ht=>(hu t ht).1) rfl]
 have m:MOf us hd lo hi (jN us hd):=by
  refine⟨hh,?_,λt ht=>lo2 _ (qg_.mpr ⟨t,ht,rfl⟩),?_,λt ht=>hi2 _ (qg_.mpr ⟨t,ht,rfl⟩),rfl⟩
  ·obtain⟨t,ht,e⟩:=qg_.mp lo1;exact⟨t,ht,e⟩
  ·obtain⟨t,ht,e⟩:=qg_.mp hi1;exact⟨t,ht,e⟩
 rw[<-qR m]at q
 exact q
def jY:PSp:=λas R=>∃ts:List Str,as=[.va (.seq false (ts.map sT))]/\ts≠[]/\ts.length<=1000/\(aG ts).length<=20/\(∀t∈ts,fK t)/\R (bW (bP ts))
theorem vN{ts us:List Str}(ne:ts≠[])(h:∀x,x∈ts↔x∈us):eS ts=eS us:=by
 obtain⟨hd,lo,hi,ms,e,m⟩:=iN ne
 rw[e]
 exact qR (m.same h)
theorem C10_:bC ["texts","unlike"] ["texts"] (aN xL):=fsc (by decide +kernel)
theorem zLK(h:Has K mg "words_of" xL)(B:Own mg)(G9_:PGood P w K mg base 3 "make_of" ["texts"] qI)(GMOST_FEW:eG K mg "MOST_FEW" (iT 6))  : PGood P w K mg base 4 "words_of" ["texts"] jY:=by
 have nd:=C10_.nd
 refine h.pgood C10_ (fun|_,_,_,_,_,_,[_],_=>rfl) (λf cdv A outer s H E F hr=>
   (aI (bF (cH hr (bB cA rfl B.len qn_ (aD (aC 0) aE)) aH)
    (aJ zB4)
    bE)
   (aI (bA 1 nd (bI (pI rfl rfl B.sorted rfl B.set_ (aC 0))))
   (aI (bF (dP wL (bB cA rfl B.len qn_ (aD (aC 1) aE)) (oI GMOST_FEW rfl))
    (aJ (aR (bX (aD aY (aD (fM fP rfl B.tuple_ boot_tuple (aD (aC 1) aE)) aE)))))
    bE)
   (aJ (aR (aL G9_ hr (aD (aC 1) aE)))))))) (λas R q=>?_)
 obtain⟨ts,rfl,ne,lt,l20,ht,q⟩:=q
 have l0:0<ts.length:=qO1_.mpr ne
 refine⟨rfl,_,rfl,eQ (λz=>absurd z (by rw[qc_];omega)) (λ_=>?_)⟩
 have sl:(aV (aG ts)).length=(aG ts).length:=(eM _).length_eq
 refine⟨ts,rfl,by omega,?_⟩
 show PEnds.nx _ _
 refine nxE (ρ':=[.va (.seq false (ts.map sT)),.va (.seq false ((aV (aG ts)).map sT))]) rfl ?_
 refine⟨_,rfl,kN (λz=>?_) (λz=>?_)⟩
 ·have z:(((aV (aG ts)).map sT).length:Int)<=6:=z
  rw[qc_,sl]at z
  unfold bP at q
  rw[if_pos (by omega)]at q
  exact⟨_,_,rfl,by simp,q⟩
 ·have z:¬ (((aV (aG ts)).map sT).length:Int)<=6:=z
  rw[qc_,sl]at z
  unfold bP at q
  rw[if_neg (by omega),vN (us:=aV (aG ts)) ne λx=>sort_set_mem.symm]at q
  exact⟨false,_,rfl,λe=>by rw[e]at sl;simp at sl;omega,by omega,λt h=>ht t (sort_set_mem.mp h),q⟩
structure pD (ts:List Str):Prop where
 ne:ts≠[]
 le:(aG ts).length<=20
 ok:∀t∈ts,fK t
def uU:PSp:=λas R=>∃ts:List Str,as=[.va (bW (bP ts))]/\pD ts/\R (bW (eS ts))
theorem nG{ts:List Str}(h:ts≠[]):aV (aG ts)≠[]:=λe=>by
 obtain⟨x,hx⟩:=qF1_ _ h
 have:=sort_set_mem.mpr hx
 rw[e]at this
 exact nomatch this
theorem C11_:bC ["words"] ["words"] (aN xK):=fsc (by decide +kernel)
theorem zLJ(h:Has K mg "as_make" xK)(B:Own mg)(G9_:PGood P w K mg base 3 "make_of" ["texts"] qI)   : PGood P w K mg base 4 "as_make" ["words"] uU:=by
 have nd:=C11_.nd
 refine h.pgood C11_ (fun|_,_,_,_,_,_,[_],_=>rfl) (λf cdv A outer s H E F hr=>
   (aJ (aR (uM (cH hr (aT hr (aC 0) aH) aY) (aL G9_ hr (aD (aT hr (aC 0) aH) aE)) (aC 0))))) (λas R q=>?_)
 obtain⟨ts,rfl,ok,q⟩:=q
 unfold bP
 split
 ·rename_i z
  rw[vN (us:=aV (aG ts)) ok.ne λx=>sort_set_mem.symm]at q
  exact⟨rfl,_,at0,_,rfl,sY ⟨_,bG (j:=1) rfl,true,_,rfl,nG ok.ne,by rw[(eM _).length_eq];exact ok.le,λt h=>ok.ok t (sort_set_mem.mp h),q⟩⟩
 ·obtain⟨hd,lo,hi,ms,e,m⟩:=iN ok.ne
  rw[e]at q ⊢
  exact⟨rfl,_,at0,_,rfl,sN (by decide +kernel) q⟩
def tX:PSp:=λas R=>∃(h1:Str) (lo hi:Int) (ms:List Str) (hd:Str),as=[.va (bW (.make h1 lo hi ms)),.va (sT hd)]/\h1.length<=50/\hd.length<=50/\ms.length<=4/\R (bW (.make hd (lo+(aU h1 hd).length) (hi+(aU h1 hd).length) (jnM ms (dE (aU h1 hd)))))
theorem C12_:bC ["make","head","tail","marks"] ["make","head"] (aN xJ):=fsc (by decide +kernel)
theorem zLI(h:Has K mg "with_shorter_head" xJ)(B:Own mg)(G7_:PGood P w K mg base 1 "marks_joined" ["one","other"] sS)(G6_:PGood P w K mg base 2 "marks_of" ["text"] pV)   : PGood P w K mg base 3 "with_shorter_head" ["make","head"] tX:=by
 have nd:=C12_.nd
 refine h.pgood C12_ (fun|_,_,_,_,_,_,[_,_],_=>rfl) (λf cdv A outer s H E F hr=>
   (aI (bA 2 nd (fO fV (aT hr (aC 0) aH) (fQ (bB cA rfl B.len qn_ (aD (aC 1) aE))) fR))
   (aI (bA 3 nd (aL G7_ hr (aD (aT hr (aC 0) aH) (aD (aL G6_ hr (aD (aC 2) aE)) aE))))
   (aJ (aR (bX (aD aY (aD (aC 1) (aD (bO cU (aT hr (aC 0) aH) (bB cA rfl B.len qn_ (aD (aC 2) aE))) (aD (bO cU (aT hr (aC 0) aH) (bB cA rfl B.len qn_ (aD (aC 2) aE))) (aD (aC 3) aE))))))))))) (λas R q=>?_)
 obtain⟨h1,lo,hi,ms,hd,rfl,l1,l2,l3,q⟩:=q
 have rl:(aU h1 hd).length<=50:=qi_ (WordM.slice_len ..) l1
 have ml:(dE (aU h1 hd)).length<=4:=by
  unfold dE
  exact qi_ (qj3_ _ _) (by simp[MK])
 refine⟨rfl,_,bG (j:=1) rfl,by show hd.length<=_;omega,_,rfl,by show h1.length<=_;omega,?_⟩
 show PEnds.nx _ _
 refine nxE (ρ':=[.va (bW (.make h1 lo hi ms)),.va (sT hd),.va (sT (aU h1 hd)),.no]) rfl ?_
 refine⟨_,bG (j:=4) rfl,aU h1 hd,rfl,by omega,ms,dE (aU h1 hd),rfl,l3,ml,?_⟩
 show PEnds.nx _ _
 refine nxE (ρ':=[.va (bW (.make h1 lo hi ms)),.va (sT hd),.va (sT (aU h1 hd)),.va (.seq true ((jnM ms (dE (aU h1 hd))).map sT))]) rfl ?_
 exact⟨_,bG (j:=2) rfl,by show(aU h1 hd).length<=_;omega,_,bG (j:=3) rfl,by show(aU h1 hd).length<=_;omega,by simp,q⟩
theorem zCq{ms ms':List Str}(h1:∀m∈ms,m∈MK)(h2:∀m∈ms',m∈MK):(jnM ms ms').length<=4/\∀m∈jnM ms ms',m∈MK:=by
 have h:∀m∈jnM ms ms',m∈MK:=λm hm=>by
  rcases qp_.mp (sort_set_mem.mp hm) with z|z
  ·exact h1 m z
  ·exact h2 m z
 exact⟨WordM.nodup_len (kW (gD _)) h,h⟩
theorem zD{ts:List Str}{hd:Str}{lo hi:Int}{ms:List Str}(m:MOf ts hd lo hi ms)(ok:∀t∈ts,fK t):fK hd/\ms.length<=4/\∀x∈ms,x∈MK:=by
 obtain⟨t,ht,_⟩:=m.lo1
 obtain⟨r,e⟩:=m.he.all t ht
 have hS:=(ok t ht).1
 have hl:=(ok t ht).2
 have hk:∀x∈ms,x∈MK:=λx hx=>by rw[m.mks]at hx;exact(qd2_.mp hx).1
 refine⟨⟨λc hc=>hS c (by rw[e];exact qB_ _ hc),?_⟩,?_,hk⟩
 ·rw[WordM.len]at hl ⊢
  rw[e,qh_]at hl
  omega
 ·rw[m.mks];exact qi_ (qj3_ _ _) (by simp[MK])
def uT:PSp:=λas R=>∃A B:List Str,as=[.va (bW (eS A)),.va (bW (eS B))]/\A≠[]/\B≠[]/\(∀t∈A,fK t)/\(∀t∈B,fK t)/\R (bW (eS (A++B)))
theorem C13_:bC ["one","other","head","first","second","least","most"] ["one","other"] (aN xI):=fsc (by decide +kernel)
theorem zLH(h:Has K mg "makes_joined" xI)(B:Own mg)(G8_:PGood P w K mg base 1 "shared_head" ["one","other"] sQ)(G12_:PGood P w K mg base 3 "with_shorter_head" ["make","head"] tX)(G7_:PGood P w K mg base 1 "marks_joined" ["one","other"] sS)   : PGood P w K mg base 4 "makes_joined" ["one","other"] uT:=by
 have nd:=C13_.nd
 refine h.pgood C13_ (fun|_,_,_,_,_,_,[_,_],_=>rfl) (λf cdv A outer s H E F hr=>
   (aI (bA 2 nd (aL G8_ hr (aD (aT hr (aC 0) aH) (aD (aT hr (aC 1) aH) aE))))
   (aI (bA 3 nd (aL G12_ hr (aD (aC 0) (aD (aC 2) aE))))
   (aI (bA 4 nd (aL G12_ hr (aD (aC 1) (aD (aC 2) aE))))
   (aI (bA 5 nd (bB (hJ rfl) rfl B.min boot_min (aD (aT hr (aC 3) aH) (aD (aT hr (aC 4) aH) aE))))
   (aI (bA 6 nd (bB (hX rfl) rfl B.max boot_max (aD (aT hr (aC 3) aH) (aD (aT hr (aC 4) aH) aE))))
   (aJ (aR (bX (aD aY (aD (aC 2) (aD (aC 5) (aD (aC 6) (aD (aL G7_ hr (aD (aT hr (aC 3) aH) (aD (aT hr (aC 4) aH) aE))) aE)))))))))))))) (λas R q=>?_)
 obtain⟨A,B,rfl,na,nb,ha,hb,q⟩:=q
 obtain⟨h1,lo1,hi1,ms1,e1,m1⟩:=iN na
 obtain⟨h2,lo2,hi2,ms2,e2,m2⟩:=iN nb
 obtain⟨⟨s1,b1⟩,c1,k1⟩:=zD m1 ha
 obtain⟨⟨s2,b2⟩,c2,k2⟩:=zD m2 hb
 have hh:=zCb h1 h2
 have app:=m1.app m2 s1 s2 hh
 rw[<-qR app]at q
 obtain⟨r1,er1⟩:=hh.all h1 (.head _)
 have lh:(shH h1 h2).length<=50:=by
  rw[WordM.len]at b1 ⊢
  rw[er1,qh_]at b1
  omega
 rw[e1,e2]
 refine⟨rfl,_,bG (j:=1) rfl,_,bG (j:=1) rfl,h1,h2,rfl,by omega,by omega,?_⟩
 generalize shH h1 h2=hd at q lh
 have mk1:∀x:Str,∀m∈dE x,m∈MK:=λx m hm=>(qd2_.mp hm).1
 have j1:=(zCq k1 (mk1 (aU h1 hd))).1
 have j2:=(zCq k2 (mk1 (aU h2 hd))).1
 show PEnds.nx _ _
 refine nxE (ρ':=[.va (bW (.make h1 lo1 hi1 ms1)),.va (bW (.make h2 lo2 hi2 ms2)),.va (sT hd),.no,.no,.no,.no]) rfl ?_
 refine⟨h1,lo1,hi1,ms1,hd,rfl,b1,lh,c1,?_⟩
 generalize jnM ms1 (dE (aU h1 hd))=n1 at q j1
 generalize lo1+((aU h1 hd).length:Int)=l1 at q
 generalize hi1+((aU h1 hd).length:Int)=g1 at q
 show PEnds.nx _ _
 refine nxE (ρ':=[.va (bW (.make h1 lo1 hi1 ms1)),.va (bW (.make h2 lo2 hi2 ms2)),.va (sT hd),.va (bW (.make hd l1 g1 n1)),.no,.no,.no]) rfl ?_
 refine⟨h2,lo2,hi2,ms2,hd,rfl,b2,lh,c2,?_⟩
 generalize jnM ms2 (dE (aU h2 hd))=n2 at q j2
 generalize lo2+((aU h2 hd).length:Int)=l2 at q
 generalize hi2+((aU h2 hd).length:Int)=g2 at q
 show PEnds.nx _ _
 refine nxE (ρ':=[.va (bW (.make h1 lo1 hi1 ms1)),.va (bW (.make h2 lo2 hi2 ms2)),.va (sT hd),.va (bW (.make hd l1 g1 n1)),.va (bW (.make hd l2 g2 n2)),.no,.no]) rfl ?_
 refine⟨_,bG (j:=2) rfl,_,bG (j:=2) rfl,.inl ⟨_,_,rfl,_,bG (j:=3) rfl,_,bG (j:=3) rfl,.inl ⟨_,_,rfl,?_⟩⟩⟩
 exact⟨_,bG (j:=4) rfl,_,bG (j:=4) rfl,n1,n2,rfl,j1,j2,by simp,q⟩
def lD:PSp:=λas R=>∃A B:List Str,as=[.va (bW (bP A)),.va (bW (bP B))]/\A≠[]/\B≠[]/\pD (A++B)/\R (bW (bP (A++B)))
theorem fE{A C:List Str}(h:∀x∈A,x∈C):(aG A).length<=(aG C).length:=WordM.nodup_len (cZ A) λx hx=>(cM C x).mpr (h x ((cM A x).mp hx))
theorem C14_:bC ["one","other"] ["one","other"] (aN xH):=fsc (by decide +kernel)
theorem zLG(h:Has K mg "words_joined" xH)(B:Own mg)(G10_:PGood P w K mg base 4 "words_of" ["texts"] jY)(G13_:PGood P w K mg base 4 "makes_joined" ["one","other"] uT)(G11_:PGood P w K mg base 4 "as_make" ["words"] uU)   : PGood P w K mg base 5 "words_joined" ["one","other"] lD:=by
 have nd:=C14_.nd
 refine h.pgood C14_ (fun|_,_,_,_,_,_,[_,_],_=>rfl) (λf cdv A outer s H E F hr=>
   (aI (bF (fX (nS (cH hr (aT hr (aC 0) aH) aY) (qL (cH hr (aT hr (aC 1) aH) aY))))
    (aJ (aR (aL G10_ hr (aD (bO cU (bI (mT pU rfl B.list_ boot_list (aD (aT hr (aC 0) aH) aE))) (bI (mT pU rfl B.list_ boot_list (aD (aT hr (aC 1) aH) aE)))) aE))))
    bE)
   (aJ (aR (aL G13_ hr (aD (aL G11_ hr (aD (aC 0) aE)) (aD (aL G11_ hr (aD (aC 1) aE)) aE))))))) (λas R q=>?_)
 obtain⟨A,B,rfl,na,nb,ok,q⟩:=q
 have oA:pD A:=⟨na,qi_ (fE λx hx=>qB_ _ hx) ok.le,λt ht=>ok.ok t (qB_ _ ht)⟩
 have oB:pD B:=⟨nb,qi_ (fE λx hx=>qq_ _ hx) ok.le,λt ht=>ok.ok t (qq_ _ ht)⟩
 have fin:7<=(aG (A++B)).length->R (bW (eS (A++B))):=λh=>by
  unfold bP at q
  rw[if_neg (by omega)]at q
  exact q
 by_cases zA:(aG A).length<7
 ·have eA:bP A=.few (aV (aG A)):=by unfold bP;rw[if_pos zA]
  by_cases zB:(aG B).length<7
  ·have eB:bP B=.few (aV (aG B)):=by unfold bP;rw[if_pos zB]
   rw[eA,eB]
   have es:∀x,x∈aV (aG A)++aV (aG B)↔x∈A++B:=λx=>by rw[qp_,qp_,sort_set_mem,sort_set_mem]
   have l1:(aV (aG A)).length=(aG A).length:=(eM _).length_eq
   have l2:(aV (aG B)).length=(aG B).length:=(eM _).length_eq
   rw[<-kZ es]at q
   refine⟨rfl,_,at0,_,rfl,sY ⟨_,at0,_,rfl,sY ⟨_,bG (j:=1) rfl,_,_,rfl,_,bG (j:=1) rfl,_,_,rfl,?_⟩⟩⟩
   refine⟨by rw[qc_,qc_];omega,aV (aG A)++aV (aG B),by rw[qG_],?_,?_,?_,λt ht=>ok.ok t ((es t).mp ht),q⟩
   ·intro e
    exact nG na (qa2_.mp e).1
   ·rw[qh_];omega
   ·have:=fE (A:=aV (aG A)++aV (aG B)) (C:=A++B) λx hx=>(es x).mp hx
    exact qi_ this ok.le
  ·have q:=fin (qi_ (by omega) (fE (A:=B) (C:=A++B) λx hx=>qq_ _ hx))
   have eB:bP B=eS B:=by unfold bP;rw[if_neg zB]
   obtain⟨h2,lo2,hi2,ms2,e2,m2⟩:=iN nb
   have aA:[Ar.va (bW (.few (aV (aG A))))]=[.va (bW (bP A))]:=by rw[eA]
   have aB:[Ar.va (bW (.make h2 lo2 hi2 ms2))]=[.va (bW (bP B))]:=by rw[eB,e2]
   rw[eB,eA,e2]
   exact⟨rfl,_,at0,_,rfl,sY ⟨_,at0,_,rfl,sN (by decide +kernel) ⟨A,aA,oA,B,aB,oB,A,B,rfl,na,nb,oA.ok,oB.ok,q⟩⟩⟩
 ·have q:=fin (qi_ (by omega) (fE (A:=A) (C:=A++B) λx hx=>qB_ _ hx))
  have eA:bP A=eS A:=by unfold bP;rw[if_neg zA]
  obtain⟨h1,lo1,hi1,ms1,e1,m1⟩:=iN na
  have aA:[Ar.va (bW (.make h1 lo1 hi1 ms1))]=[.va (bW (bP A))]:=by rw[eA,e1]
  rw[eA,e1]
  exact⟨rfl,_,at0,_,rfl,sN (by decide +kernel) (aW ⟨A,aA,oA,B,rfl,oB,A,B,rfl,na,nb,oA.ok,oB.ok,q⟩)⟩
end
end My
namespace My
open PySem L2 PyProof.Rows WordM
section
variable{P:Program}{w:World}{K:W.Frag}{mg:Str->Option Value}{base:Heap}
theorem zED{s t:UTs}{P:PEnds}{ρ:aQ}{J:aQ->Prop}(rest:∀ρ',J ρ'->t P ρ')(main:(∀ρ',J ρ'->t P ρ')->sE s t P ρ):sE s t P ρ:=main rest
structure DOk (D:List Tv->List Pt):Prop where
 same:∀A B:List Tv,(∀v,v∈A↔v∈B)->D A=D B
 nil:D []=[]
structure KsOk (V:Tv->Prop) (ks:List (List (Str×Tv))):Prop where
 ne:ks≠[]
 nd:∀k∈ks,(k.map (·.1)).Nodup
 ok:∀k∈ks,∀kt∈k,fK kt.1/\V kt.2
 le:(aG (aO ks)).length<=20
variable{D:List Tv->List Pt}{V:Tv->Prop}{W:(Tv->Prop)->Prop}{lv:Nat}
theorem KsOk.nms{ks:List (List (Str×Tv))}(h:KsOk V ks){n:Str}(hn:n∈aO ks):fK n:=by
 obtain⟨k,hk,hn⟩:=qs1_.mp hn
 obtain⟨kt,hkt,rfl⟩:=qg_.mp hn
 exact(h.ok k hk kt hkt).1
theorem look_mem{k:List (Str×Tv)}{n:Str}{v:Tv}(h:bY k n=some v):(n,v)∈k:=by
 unfold bY at h
 obtain⟨x,hx,e⟩:=qg1_.mp h
 have this:=qg3_ hx
 have this:x.1=n:=qe1_ this
 have hm:=qp3_ hx
 obtain⟨a,b⟩:=x
 simp only at this e
 subst this e
 exact hm
theorem qT{k:List (Str×Tv)}(nd:(k.map (·.1)).Nodup){n:Str}{v:Tv}(h:(n,v)∈k):bY k n=some v:=by
 unfold bY
 induction k with
 |nil=>exact nomatch h
 |cons x k ih=>
  rw[qF_,qQ1_]at nd
  rw[qU1_]
  by_cases z:x.1=n
  ·rw[qS_ z]
   rcases qy_.mp h with e|h
   ·subst e;rfl
   ·exact absurd (qg_.mpr ⟨(n,v),h,z.symm⟩) nd.1
  ·rw[qH_ z]
   rcases qy_.mp h with e|h
   ·subst e;exact absurd rfl z
   ·exact ih nd.2 h
theorem vW{ks:List (List (Str×Tv))}(nd:∀k∈ks,(k.map (·.1)).Nodup){n:Str}{v:Tv}:v∈atK n ks↔∃k∈ks,(n,v)∈k:=by
 unfold atK
 rw[qc1_]
 exact⟨λ⟨k,hk,e⟩=>⟨k,hk,look_mem e⟩,λ⟨k,hk,e⟩=>⟨k,hk,qT (nd k hk) e⟩⟩
theorem vls_mem{ks:List (List (Str×Tv))}{v:Tv}:v∈dL ks↔∃k∈ks,∃n,(n,v)∈k:=by
 unfold dL
 rw[qs1_]
 constructor
 ·rintro⟨k,hk,h⟩
  obtain⟨x,hx,rfl⟩:=qg_.mp h
  exact⟨k,hk,x.1,hx⟩
 ·rintro⟨k,hk,n,h⟩
  exact⟨k,hk,qg_.mpr ⟨_,h,rfl⟩⟩
theorem KsOk.at_v{ks:List (List (Str×Tv))}(h:KsOk V ks){n:Str}:∀v∈atK n ks,V v:=λv hv=>by
 obtain⟨k,hk,e⟩:=(vW h.nd).mp hv
 exact(h.ok k hk _ e).2
theorem KsOk.vls_v{ks:List (List (Str×Tv))}(h:KsOk V ks):∀v∈dL ks,V v:=λv hv=>by
 obtain⟨k,hk,n,e⟩:=vls_mem.mp hv
 exact(h.ok k hk _ e).2
theorem zK5{ks:List (List (Str×Tv))}(hD:DOk D)(ne:ks≠[]){n:Str}(h:n∉aO ks):cX D ks n=(n,false,[]):=by
 have h1:∀k∈ks,n∉k.map (·.1):=λk hk z=>h (qs1_.mpr ⟨k,hk,z⟩)
 have e1:ks.all (λk=>decide (n∈k.map (·.1)))=false:=by
  obtain⟨k,hk⟩:=qF1_ _ ne
  exact List.all_eq_false.mpr ⟨k,hk,by simpa using h1 k hk⟩
 have e2:atK n ks=[]:=by
  unfold atK
  rw[qb2_]
  intro k hk
  cases e:bY k n with
  |none=>rfl
  |some v=>exact absurd (qg_.mpr ⟨_,look_mem e,rfl⟩) (h1 k hk)
 unfold cX
 rw[e1,e2,hD.nil]
theorem zGN{ks js:List (List (Str×Tv))}(n:Str):cX D (ks++js) n=(n,(cX D ks n).2.1&&(cX D js n).2.1,D (atK n ks++atK n js)):=by
 unfold cX atK
 rw[List.all_append,qL_]
theorem gZ(ks js:List (List (Str×Tv))):aO (ks++js)=aO ks++aO js:=qW2_ ..
theorem qV{ks:List (List (Str×Tv))}(h:ks≠[]):bJ ks≠[]:=by unfold bJ;simpa using h
theorem zF3{ks js:List (List (Str×Tv))}(h1:ks≠[])(h2:js≠[]):bM (bJ (ks++js))=min (bM (bJ ks)) (bM (bJ js))/\bR (bJ (ks++js))=max (bR (bJ ks)) (bR (bJ js)):=by
 rw[show bJ (ks++js)=bJ ks++bJ js from qG_ ..]
 exact⟨zAU (qV h1) (qV h2),zAV (qV h1) (qV h2)⟩
def ptJ(D:List Tv->List Pt)(W:(Tv->Prop)->Prop):PSp:=λas R=>∃V:Tv->Prop,W V/\∃A B:List Tv,as=[.va (bS (D A)),.va (bS (D B))]/\(∀v∈A,V v)/\(∀v∈B,V v)/\R (bS (D (A++B)))
def fdD(fs:List FdT):Tv:=.dct (fs.map λx=>(x.1,cE x))
def mN:PSp:=λas R=>∃(a b:Int) (fs:List FdT),as=[.va (aX (.record a b fs))]/\fs.length<=20/\(fs.map (·.1)).Nodup/\R (fdD fs)
theorem C22_:bC ["record"] ["record"] (aN sK):=fsc (by decide +kernel)
theorem zLz(h:Has K mg "fields_by_name" sK)(B:Own mg)    : PGood P w K mg base 1 "fields_by_name" ["record"] mN:=by
 have nd:=C22_.nd
 refine h.pgood C22_ (fun|_,_,_,_,_,_,[_],_=>rfl) (λf cdv A outer s H E F hr=>
   (aJ (aR (zCB (zFy rfl rfl B.dict_ (bI (iC (sc:=aN sK) (XN:=["record"]) (N:=["field"]) (fr:=[]) (bU (aT hr (aC 0) aH)) (λ_ _ _ _ _=>(bX (aD (aT hr (aC 0) aH) (aD (aC 0) aE))))))))))) (λas R q=>?_)
 obtain⟨a,b,fs,rfl,l,nd,q⟩:=q
 rw[eK]
 refine⟨rfl,_,bG (j:=3) rfl,by rw[qc_];omega,dY cE (λx=>.seq true [sT x.1,cE x]) (λx hx R q=>⟨_,at0,by simp,q⟩) ⟨fs.map λx:FdT=>(x.1,cE x),by rw[List.map_map];rfl,by rw[qA_];exact nd,by rw[qc_];omega,q⟩⟩
def zC6(D:List Tv->List Pt)(W:(Tv->Prop)->Prop):PSp:=λas R=>∃V:Tv->Prop,W V/\∃(n n':Str) (m m':Bool) (A B:List Tv),as=[.va (cE (n,m,D A)),.va (cE (n',m',D B))]/\(∀v∈A,V v)/\(∀v∈B,V v)/\R (cE (n,m&&m',D (A++B)))
theorem C23_:bC ["one","other"] ["one","other"] (aN oW):=fsc (by decide +kernel)
theorem zLy(h:Has K mg "field_joined" oW)(B:Own mg)(G30_:PGood P w K mg base lv "joined" ["one","other"] (ptJ D W))   : PGood P w K mg base (lv+1) "field_joined" ["one","other"] (zC6 D W):=by
 have nd:=C23_.nd
 refine h.pgood C23_ (fun|_,_,_,_,_,_,[_,_],_=>rfl) (λf cdv A outer s H E F hr=>
   (aJ (aR (bX (aD (aT hr (aC 0) aH) (aD (gJ (aT hr (aC 0) aH) (kE (aT hr (aC 1) aH))) (aD (aL G30_ hr (aD (aT hr (aC 0) aH) (aD (aT hr (aC 1) aH) aE))) aE))))))) (λas R q=>?_)
 obtain⟨V,hv,n,n',m,m',A,B,rfl,hA,hB,q⟩:=q
 refine⟨rfl,_,at0,_,bG (j:=1) rfl,?_⟩
 have q:R (.seq true [sT n,bT (m&&m'),bS (D (A++B))]):=q
 cases m with
 |true=>
  rw[Bool.true_and]at q
  exact⟨_,rfl,cB ⟨_,bG (j:=1) rfl,_,bG (j:=2) rfl,_,bG (j:=2) rfl,V,hv,A,B,rfl,hA,hB,by simp,q⟩⟩
 |false=>exact⟨_,rfl,aW ⟨_,bG (j:=2) rfl,_,bG (j:=2) rfl,V,hv,A,B,rfl,hA,hB,by simp,q⟩⟩
noncomputable def bQ(D:List Tv->List Pt)(ks:List (List (Str×Tv))):List FdT:=(aV (aG (aO ks))).map (cX D ks)
theorem lO(ks:List (List (Str×Tv))):(bQ D ks).map (·.1)=aV (aG (aO ks)):=by
 unfold bQ
 rw[qA_]
 exact List.map_id _
theorem kF(ks:List (List (Str×Tv))):(bQ D ks).length=(aG (aO ks)).length:=by
 unfold bQ
 rw[qc_,(eM _).length_eq]
theorem zBu{ks:List (List (Str×Tv))}(hD:DOk D)(ne:ks≠[])(n:Str):(bY ((bQ D ks).map λx:FdT=>(x.1,cE x)) n).getD (cE (n,false,[]))=cE (cX D ks n):=by
 by_cases h:n∈aO ks
 ·have e:bY ((bQ D ks).map λx:FdT=>(x.1,cE x)) n=some (cE (cX D ks n)):=by
   refine qT ?_ (qg_.mpr ⟨cX D ks n,qg_.mpr ⟨n,sort_set_mem.mpr h,rfl⟩,rfl⟩)
   rw[qA_]
   show((bQ D ks).map (·.1)).Nodup
   rw[lO]
   exact kW (gD _)
  rw[e];rfl
 ·rw[zK5 hD ne h]
  have e:bY ((bQ D ks).map λx:FdT=>(x.1,cE x)) n=none:=by
   cases e:bY ((bQ D ks).map λx:FdT=>(x.1,cE x)) n with
   |none=>rfl
   |some v=>
    have h1:n∈((bQ D ks).map λx:FdT=>(x.1,cE x)).map (·.1):=qg_.mpr ⟨(n,v),look_mem e,rfl⟩
    rw[qA_]at h1
    have h1:n∈(bQ D ks).map (·.1):=h1
    rw[lO]at h1
    exact absurd (sort_set_mem.mp h1) h
  rw[e];rfl
def zC3(D:List Tv->List Pt)(W:(Tv->Prop)->Prop):PSp:=λas R=>∃V:Tv->Prop,W V/\∃(a b a' b':Int) (ks js:List (List (Str×Tv))) (ns:List Str),as=[.va (aX (.record a b (bQ D ks))),.va (aX (.record a' b' (bQ D js))),.va (.seq false (ns.map sT))]/\DOk D/\KsOk V ks/\KsOk V js/\ns.length<=20/\R (aX (.record (min a a') (max b b') (ns.map (cX D (ks++js)))))
theorem C24_:bC ["one","other","names","first","second","fields","name","lacking"] ["one","other","names"] (aN oV):=fsc (by decide +kernel)
theorem zLx(h:Has K mg "records_joined" oV)(B:Own mg)(G22_:PGood P w K mg base 1 "fields_by_name" ["record"] mN)(G23_:PGood P w K mg base (lv+1) "field_joined" ["one","other"] (zC6 D W))   : PGood P w K mg base (lv+2) "records_joined" ["one","other","names"] (zC3 D W):=by
 have nd:=C24_.nd
 refine h.pgood C24_ (fun|_,_,_,_,_,_,[_,_,_],_=>rfl) (λf cdv A outer s H E F hr=>
   (aI (bA 3 nd (aL G22_ hr (aD (aC 0) aE)))
   (aI (bA 4 nd (aL G22_ hr (aD (aC 1) aE)))
   (aI (fW 5 nd (cF aE))
   (aI (dN (m:=8) qD_ rfl (bU (aC 2)) (cW 6 (by decide) nd rfl (.inl rfl))
    (aI (bA 7 nd (bX (aD (aC 6) (aD iD (aD (bX aE) aE)))))
    (aJ (eI (fN 5 (aL G23_ hr (aD (zAD (oM hr) (aC 3) (aC 6) (aC 7)) (aD (zAD (oM hr) (aC 4) (aC 6) (aC 7)) aE))))))))
   (aJ (aR (bX (aD aY (aD (bB (hJ rfl) rfl B.min boot_min (aD (aT hr (aC 0) aH) (aD (aT hr (aC 1) aH) aE))) (aD (bB (hX rfl) rfl B.max boot_max (aD (aT hr (aC 0) aH) (aD (aT hr (aC 1) aH) aE))) (aD (fM fP rfl B.tuple_ boot_tuple (aD (aC 5) aE)) aE)))))))))))) (λas R q=>?_)
 obtain⟨V,hv,a,b,a',b',ks,js,ns,rfl,hD,hk,hj,ln,q⟩:=q
 have nd:∀ks:List (List (Str×Tv)),((bQ D ks).map (·.1)).Nodup:=λks=>by rw[lO];exact kW (gD _)
 refine⟨rfl,a,b,bQ D ks,rfl,by rw[kF];exact hk.le,nd ks,a',b',bQ D js,rfl,by rw[kF];exact hj.le,nd js,?_⟩
 rw[eK]at q ⊢
 rw[eK] 
 let T1:Tv:=.seq true [sT "record",iT a,iT b,.seq true ((bQ D ks).map cE)]
 let T2:Tv:=.seq true [sT "record",iT a',iT b',.seq true ((bQ D js).map cE)]
 show PEnds.nx _ _
 refine nxE (ρ':=[.va T1,.va T2,.va (.seq false (ns.map sT)),.va (fdD (bQ D ks)),.va (fdD (bQ D js)),.no,.no,.no]) rfl ?_
 refine⟨by simp,?_⟩
 show PEnds.nx _ _
 refine nxE (ρ':=[.va T1,.va T2,.va (.seq false (ns.map sT)),.va (fdD (bQ D ks)),.va (fdD (bQ D js)),.own [],.no,.no]) rfl ?_
 refine fS sT (l:=ns) (λi ρ=>∃s6 s7:Sl,ρ=[.va T1,.va T2,.va (.seq false (ns.map sT)),.va (fdD (bQ D ks)),.va (fdD (bQ D js)),.own (((ns.take i).map (cX D (ks++js))).map cE),s6,s7]) ⟨.no,.no,rfl⟩ ?_ ?_
 ·rintro i n _ N hn ⟨s6,s7,rfl⟩ hN
  refine⟨by simp,by simp,?_⟩
  show PEnds.nx _ _
  refine nxE (ρ':=[.va T1,.va T2,.va (.seq false (ns.map sT)),.va (fdD (bQ D ks)),.va (fdD (bQ D js)),.own (((ns.take i).map (cX D (ks++js))).map cE),.va (sT n),.va (cE (n,false,[]))]) rfl ?_
  refine⟨⟨_,rfl⟩,_,rfl,_,rfl,_,rfl,_,rfl,V,hv,n,n,(cX D ks n).2.1,(cX D js n).2.1,atK n ks,atK n js,?_,hk.at_v,hj.at_v,_,rfl,?_,?_⟩
  ·show [Ar.va ((bY ((bQ D ks).map λx:FdT=>(x.1,cE x)) n).getD (cE (n,false,[]))),.va ((bY ((bQ D js).map λx:FdT=>(x.1,cE x)) n).getD (cE (n,false,[])))]=_
   rw[zBu hD hk.ne,zBu hD hj.ne]
   rfl
  ·rw[qc_,qc_,qO_];omega
  ·refine hN _ ⟨.va (sT n),.va (cE (n,false,[])),?_⟩
   rw[qr1_,hn,qG_,qG_,<-zGN]
   rfl
 ·rintro _ ⟨s6,s7,rfl⟩
  rw[qd1_]
  exact⟨_,bG (j:=1) rfl,_,bG (j:=1) rfl,.inl ⟨_,_,rfl,_,bG (j:=2) rfl,_,bG (j:=2) rfl,.inl ⟨_,_,rfl,_,_,rfl,by simp,q⟩⟩⟩
theorem gM{ks:List (List (Str×Tv))}(h:(aG (aO ks)).length<=8):dcP D ks=.record (bM (bJ ks)) (bR (bJ ks)) (bQ D ks):=by unfold dcP bQ;rw[if_pos h]
theorem gL{ks:List (List (Str×Tv))}(h:¬ (aG (aO ks)).length<=8):dcP D ks=.table (bM (bJ ks)) (bR (bJ ks)) (bP (aO ks)) (D (dL ks)):=by unfold dcP;rw[if_neg h]
noncomputable def nwL(ks:List (List (Str×Tv))):List Tv:=if aO ks=[] then [] else [bW (bP (aO ks))]
def oY:PSp:=λas R=>∃(D:List Tv->List Pt) (V:Tv->Prop) (ks:List (List (Str×Tv))),as=[.va (aX (dcP D ks))]/\KsOk V ks/\R (.seq false (nwL ks))
theorem C25_:bC ["part","names"] ["part"] (aN sJ):=fsc (by decide +kernel)
theorem zLw(h:Has K mg "name_words" sJ)(B:Own mg)(G10_:PGood P w K mg base 4 "words_of" ["texts"] jY)   : PGood P w K mg base 5 "name_words" ["part"] oY:=by
 have nd:=C25_.nd
 refine h.pgood C25_ (fun|_,_,_,_,_,_,[_],_=>rfl) (λf cdv A outer s H E F hr=>
   (aI (bF (cH hr (aT hr (aC 0) aH) aY)
    (aJ (aR (bI (cF (aD (aT hr (aC 0) aH) aE)))))
    bE)
   (aI (eO (sc:=aN sJ) (XN:=["part","names"]) (N:=["field"]) (fr:=[]) 1 nd (bU (aT hr (aC 0) aH)) (λ_ _ _ _ _=>gI) (λ_ _ _ _ _=>(aT hr (aC 0) aH)))
   (aJ (aR (uM (dP zCG (bB cA rfl B.len qn_ (aD (aC 1) aE)) aH) (bI (cF (aD (aL G10_ hr (aD (aC 1) aE)) aE))) (bI (cF aE)))))))) (λas R q=>?_)
 obtain⟨D,V,ks,rfl,hk,q⟩:=q
 have sl:(aV (aG (aO ks))).length=(aG (aO ks)).length:=(eM _).length_eq
 by_cases h:(aG (aO ks)).length<=8
 ·rw[gM h,eK]
  have ln:(bQ D ks).length<=8:=by rw[kF];exact h
  refine⟨rfl,_,at0,_,rfl,sN (by decide +kernel) ⟨_,bG (j:=3) rfl,by rw[qc_];omega,dY cE (λx=>sT x.1) (λx hx R q=>⟨_,at0,q⟩) ?_⟩⟩
  have en:((bQ D ks).map λx=>sT x.1)=(aV (aG (aO ks))).map sT:=by
   rw[<-lO (D:=D),qA_]
   rfl
  rw[en]
  show PEnds.nx _ _
  refine nxE (ρ':=[.va (.seq true [sT "record",iT (bM (bJ ks)),iT (bR (bJ ks)),.seq true ((bQ D ks).map cE)]),.va (.seq false ((aV (aG (aO ks))).map sT))]) rfl ?_
  refine⟨_,rfl,kN (λz=>?_) (λz=>?_)⟩
  ·have z:(((aV (aG (aO ks))).map sT).length:Int) > 0:=z
   rw[qc_]at z
   have ne:aO ks≠[]:=λe=>by rw[sl,e]at z;exact absurd z (by decide)
   unfold nwL at q
   rw[if_neg ne,<-kZ (ts:=aV (aG (aO ks))) (us:=aO ks) λx=>sort_set_mem]at q
   refine⟨_,rfl,nG ne,by omega,?_,λt ht=>hk.nms (sort_set_mem.mp ht),by simp,q⟩
   exact qi_ (fE (A:=aV (aG (aO ks))) (C:=aO ks) λx hx=>sort_set_mem.mp hx) hk.le
  ·have z:¬ (((aV (aG (aO ks))).map sT).length:Int) > 0:=z
   rw[qc_]at z
   have e:aO ks=[]:=by
    apply Classical.byContradiction
    intro ne
    have:=qO1_.mpr (nG ne)
    omega
   unfold nwL at q
   rw[if_pos e]at q
   exact⟨by simp,q⟩
 ·have ne:aO ks≠[]:=λe=>h (by rw[e];exact qu_ _)
  unfold nwL at q
  rw[if_neg ne]at q
  rw[gL h,fL]
  exact⟨rfl,_,at0,_,rfl,sY ⟨_,bG (j:=3) rfl,by simp,q⟩⟩
noncomputable def fwA(ks:List (List (Str×Tv))):List (List Tv):=if (aG (aO ks)).length<=8 then(aV (aG (aO ks))).map (λn=>atK n ks) else [dL ks]
theorem qY{ks:List (List (Str×Tv))}(nd:∀k∈ks,(k.map (·.1)).Nodup)(v:Tv):v∈(fwA ks).flatten↔v∈dL ks:=by
 unfold fwA
 split
 ·rw[qt1_,vls_mem]
  constructor
  ·rintro⟨l,hl,hv⟩
   obtain⟨n,_,rfl⟩:=qg_.mp hl
   obtain⟨k,hk,e⟩:=(vW nd).mp hv
   exact⟨k,hk,n,e⟩
  ·rintro⟨k,hk,n,e⟩
   refine⟨atK n ks,qg_.mpr ⟨n,sort_set_mem.mpr (qs1_.mpr ⟨k,hk,qg_.mpr ⟨_,e,rfl⟩⟩),rfl⟩,(vW nd).mpr ⟨k,hk,e⟩⟩
 ·rw[qo1_,List.flatten_nil,qN_]
theorem zBT(ks:List (List (Str×Tv))):(fwA ks).length<=8:=by
 unfold fwA
 split
 ·rename_i h;rw[qc_,(eM _).length_eq];exact h
 ·simp
def oZ:PSp:=λas R=>∃(D:List Tv->List Pt) (ks:List (List (Str×Tv))),as=[.va (aX (dcP D ks))]/\R (.seq false ((fwA ks).map λA=>bS (D A)))
theorem C17_:bC ["part"] ["part"] (aN sP):=fsc (by decide +kernel)
theorem zLD(h:Has K mg "forms_within" sP)(B:Own mg)    : PGood P w K mg base 1 "forms_within" ["part"] oZ:=by
 have nd:=C17_.nd
 refine h.pgood C17_ (fun|_,_,_,_,_,_,[_],_=>rfl) (λf cdv A outer s H E F hr=>
   (aI (bF (cH hr (aT hr (aC 0) aH) aY)
    (aJ (aR (bI (cF (aD (aT hr (aC 0) aH) aE)))))
    bE)
   (aI (bF (cH hr (aT hr (aC 0) aH) aY)
    (aJ (aR (bI (iC (sc:=aN sP) (XN:=["part"]) (N:=["field"]) (fr:=[]) (bU (aT hr (aC 0) aH)) (λ_ _ _ _ _=>(aT hr (aC 0) aH))))))
    bE)
   (aI (bF (cH hr (aT hr (aC 0) aH) aY)
    (aJ (aR (bI (cF (aD (aT hr (aC 0) aH) aE)))))
    bE)
   (aJ (aR (bI (cF aE)))))))) (λas R q=>?_)
 obtain⟨D,ks,rfl,q⟩:=q
 unfold fwA at q
 by_cases h:(aG (aO ks)).length<=8
 ·rw[if_pos h,qA_]at q
  rw[gM h,eK]
  have ln:(bQ D ks).length<=8:=by rw[kF];exact h
  refine⟨rfl,_,at0,_,rfl,sN (by decide +kernel) ⟨_,at0,_,rfl,sY ⟨_,bG (j:=3) rfl,by rw[qc_];omega,dY cE (λx=>bS x.2.2) (λx hx R q=>⟨_,bG (j:=2) rfl,q⟩) ?_⟩⟩⟩
  unfold bQ
  rw[qA_]
  exact q
 ·rw[if_neg h]at q
  rw[gL h,fL]
  exact⟨rfl,_,at0,_,rfl,sN (by decide +kernel) ⟨_,at0,_,rfl,sN (by decide +kernel) ⟨_,at0,_,rfl,sY ⟨_,bG (j:=4) rfl,by simp,q⟩⟩⟩⟩
def xP(D:List Tv->List Pt)(W:(Tv->Prop)->Prop):PSp:=λas R=>∃V:Tv->Prop,W V/\∃As:List (List Tv),as=[.va (.seq false (As.map λA=>bS (D A)))]/\DOk D/\(∀A∈As,∀v∈A,V v)/\R (bS (D As.flatten))
theorem C31_:bC ["forms","whole","form"] ["forms"] (aN mJ):=fsc (by decide +kernel)
theorem xS(h:Has K mg "all_joined" mJ)(B:Own mg)(G30_:PGood P w K mg base lv "joined" ["one","other"] (ptJ D W))   : PGood P w K mg base (lv+1) "all_joined" ["forms"] (xP D W):=by
 have nd:=C31_.nd
 refine h.pgood C31_ (fun|_,_,_,_,_,_,[_],_=>rfl) (λf cdv A outer s H E F hr=>
   (aI (bA 1 nd (bX aE))
   (aI (dN (m:=3) qD_ rfl (bU (aC 0)) (cW 2 (by decide) nd rfl (.inl rfl))
    (aJ (bA 1 nd (aL G30_ hr (aD (aC 1) (aD (aC 2) aE))))))
   (aJ (aR (aC 1)))))) (λas R q=>?_)
 obtain⟨V,hv,As,rfl,hD,hV,q⟩:=q
 refine⟨rfl,by simp,?_⟩
 refine fS (λA=>bS (D A)) (l:=As) (λi ρ=>∃s2:Sl,ρ=[.va (.seq false (As.map λA=>bS (D A))),.va (bS (D (As.take i).flatten)),s2]) ⟨.no,by rw[qe3_,List.flatten_nil,hD.nil];rfl⟩ ?_ ?_
 ·rintro i A _ N hA ⟨s2,rfl⟩ hN
  refine⟨V,hv,(As.take i).flatten,A,rfl,λv hv=>?_,hV A (qz_ hA),hN _ ⟨.va (bS (D A)),?_⟩⟩
  ·obtain⟨l,hl,hv⟩:=qt1_.mp hv
   exact hV l ((List.take_sublist _ _).subset hl) v hv
  ·rw[qr1_,hA,qX2_]
   show [_,_,_]=[_,Sl.va (bS (D ((As.take i).flatten++(A++[])))),_]
   rw[qN_]
 ·rintro _ ⟨s2,rfl⟩
  rw[qd1_]
  exact q
def xN(D:List Tv->List Pt)(W:(Tv->Prop)->Prop):PSp:=λas R=>∃V:Tv->Prop,W V/\∃ks js:List (List (Str×Tv)),as=[.va (aX (dcP D ks)),.va (aX (dcP D js))]/\DOk D/\KsOk V ks/\KsOk V js/\pD (aO ks++aO js)/\R (aX (.table (min (bM (bJ ks)) (bM (bJ js))) (max (bR (bJ ks)) (bR (bJ js))) (bP (aO ks++aO js)) (D (dL ks++dL js))))
theorem zB0(ks:List (List (Str×Tv))):∃(w:Str) (r:List Tv),aX (dcP D ks)=.seq true (sT w::iT (bM (bJ ks))::iT (bR (bJ ks))::r):=by
 by_cases h:(aG (aO ks)).length<=8
 ·rw[gM h,eK];exact⟨_,_,rfl⟩
 ·rw[gL h,fL];exact⟨_,_,rfl⟩
theorem zCm(ks:List (List (Str×Tv))):(nwL ks).length<=1:=by
 unfold nwL
 split<;>simp
theorem C26_:bC ["one","other","words","make","form"] ["one","other"] (aN oU):=fsc (by decide +kernel)
theorem zLv(h:Has K mg "tables_joined" oU)(B:Own mg)(G25_:PGood P w K mg base 5 "name_words" ["part"] oY)(G14_:PGood P w K mg base 5 "words_joined" ["one","other"] lD)(G31_:PGood P w K mg base (lv+1) "all_joined" ["forms"] (xP D W))(G17_:PGood P w K mg base 1 "forms_within" ["part"] oZ)   : PGood P w K mg base (lv+6) "tables_joined" ["one","other"] (xN D W):=by
 have nd:=C26_.nd
 refine h.pgood C26_ (fun|_,_,_,_,_,_,[_,_],_=>rfl) (λf cdv A outer s H E F hr=>
   (aI (bA 2 nd (bO cU (aL G25_ hr (aD (aC 0) aE)) (aL G25_ hr (aD (aC 1) aE))))
   (aI (bA 3 nd (uM (cH hr (bB cA rfl B.len qn_ (aD (aC 2) aE)) aH) (aT hr (aC 2) aH) (aL G14_ hr (aD (aT hr (aC 2) aH) (aD (aT hr (aC 2) aH) aE)))))
   (aI (bA 4 nd (aL G31_ hr (aD (bO cU (aL G17_ hr (aD (aC 0) aE)) (aL G17_ hr (aD (aC 1) aE))) aE)))
   (aJ (aR (bX (aD aY (aD (bB (hJ rfl) rfl B.min boot_min (aD (aT hr (aC 0) aH) (aD (aT hr (aC 1) aH) aE))) (aD (bB (hX rfl) rfl B.max boot_max (aD (aT hr (aC 0) aH) (aD (aT hr (aC 1) aH) aE))) (aD (aC 3) (aD (aC 4) aE)))))))))))) (λas R q=>?_)
 obtain⟨V,hv,ks,js,rfl,hD,hk,hj,ok,q⟩:=q
 have l1:=zCm ks
 have l2:=zCm js
 refine⟨rfl,D,V,ks,rfl,hk,D,V,js,rfl,hj,by omega,?_⟩
 show PEnds.nx _ _
 refine nxE (ρ':=[.va (aX (dcP D ks)),.va (aX (dcP D js)),.va (.seq false (nwL ks++nwL js)),.no,.no]) rfl ?_
 dsimp only
 refine zED (J:=λρ'=>ρ'=[.va (aX (dcP D ks)),.va (aX (dcP D js)),.va (.seq false (nwL ks++nwL js)),.va (bW (bP (aO ks++aO js))),.no]) ?rest (λrest=>?main)
 case main=>
  by_cases n1:aO ks=[]
  ·have e1:nwL ks=[]:=by unfold nwL;rw[if_pos n1]
   have n2:aO js≠[]:=λz=>ok.ne (by rw[n1,z];rfl)
   have e2:nwL js=[bW (bP (aO js))]:=by unfold nwL;rw[if_neg n2]
   rw[e1,e2,n1,ql1_,ql1_]at rest
   rw[e1,e2,ql1_]
   exact⟨_,rfl,eQ (λ_=>⟨_,at0,rest _ rfl⟩) (λz=>absurd rfl z)⟩
  ·have e1:nwL ks=[bW (bP (aO ks))]:=by unfold nwL;rw[if_neg n1]
   by_cases n2:aO js=[]
   ·have e2:nwL js=[]:=by unfold nwL;rw[if_pos n2]
    rw[e1,e2,n2,qN_,qN_]at rest
    rw[e1,e2,qN_]
    exact⟨_,rfl,eQ (λ_=>⟨_,at0,rest _ rfl⟩) (λz=>absurd rfl z)⟩
   ·have e2:nwL js=[bW (bP (aO js))]:=by unfold nwL;rw[if_neg n2]
    rw[e1,e2,qZ1_,ql1_]at rest
    rw[e1,e2,qZ1_,ql1_]
    exact⟨_,rfl,eQ (λz=>absurd z (show ¬ ((2:Nat):Int)=1 by decide)) (λ_=>⟨_,at0,_,bG (j:=1) rfl,aO ks,aO js,rfl,n1,n2,ok,rest _ rfl⟩)⟩
 case rest=>
  rintro _ rfl
  have f1:=zBT ks
  have f2:=zBT js
  refine⟨D,ks,rfl,D,js,rfl,by rw[qc_,qc_];omega,V,hv,fwA ks++fwA js,by rw[qG_],hD,λA hA v hv=>?_,?_⟩
  ·rcases qp_.mp hA with z|z
   ·exact hk.vls_v v ((qY hk.nd v).mp (qt1_.mpr ⟨A,z,hv⟩))
   ·exact hj.vls_v v ((qY hj.nd v).mp (qt1_.mpr ⟨A,z,hv⟩))
  have eD:D (fwA ks++fwA js).flatten=D (dL ks++dL js):=hD.same _ _ λv=>by
   rw[qX2_,qp_,qp_,qY hk.nd,qY hj.nd]
  rw[eD]
  obtain⟨w1,r1,E1⟩:=zB0 (D:=D) ks
  obtain⟨w2,r2,E2⟩:=zB0 (D:=D) js
  show PEnds.nx _ _
  refine nxE (ρ':=[.va (.seq true (sT w1::iT (bM (bJ ks))::iT (bR (bJ ks))::r1)),.va (.seq true (sT w2::iT (bM (bJ js))::iT (bR (bJ js))::r2)),.va (.seq false (nwL ks++nwL js)),.va (bW (bP (aO ks++aO js))),.va (bS (D (dL ks++dL js)))]) (by rw[E1,E2];rfl) ?_
  rw[fL]at q
  exact⟨_,bG (j:=1) rfl,_,bG (j:=1) rfl,.inl ⟨_,_,rfl,_,bG (j:=2) rfl,_,bG (j:=2) rfl,.inl ⟨_,_,rfl,by simp,q⟩⟩⟩
end
end My
namespace My
open PySem L2 PyProof.Rows WordM
section
variable{P:Program}{w:World}{K:W.Frag}{mg:Str->Option Value}{base:Heap}
variable{D:List Tv->List Pt}{V:Tv->Prop}{W W':(Tv->Prop)->Prop}{lv:Nat}
def xO(D:List Tv->List Pt)(W:(Tv->Prop)->Prop):PSp:=λas R=>∃V:Tv->Prop,W V/\∃ks js:List (List (Str×Tv)),as=[.va (aX (dcP D ks)),.va (aX (dcP D js))]/\DOk D/\KsOk V ks/\KsOk V js/\(aG (aO (ks++js))).length<=20/\R (aX (dcP D (ks++js)))
theorem C27_:bC ["one","other","names"] ["one","other"] (aN oS):=fsc (by decide +kernel)
theorem zLu(h:Has K mg "dicts_joined" oS)(B:Own mg)(G22_:PGood P w K mg base 1 "fields_by_name" ["record"] mN)(G24_:PGood P w K mg base (lv+2) "records_joined" ["one","other","names"] (zC3 D W))(G26_:PGood P w K mg base (lv+6) "tables_joined" ["one","other"] (xN D W))(GMOST_FIELDS:eG K mg "MOST_FIELDS" (iT 8))  : PGood P w K mg base (lv+7) "dicts_joined" ["one","other"] (xO D W):=by
 have nd:=C27_.nd
 refine h.pgood C27_ (fun|_,_,_,_,_,_,[_,_],_=>rfl) (λf cdv A outer s H E F hr=>
   (aI (bF (fX (nS (cH hr (aT hr (aC 0) aH) aY) (qL (cH hr (aT hr (aC 1) aH) aY))))
    (aI (bA 2 nd (bI (zS rfl rfl B.sorted rfl B.set_ (aL G22_ hr (aD (aC 0) aE)) (aL G22_ hr (aD (aC 1) aE)))))
    (aJ (bF (dP wL (bB cA rfl B.len qn_ (aD (aC 2) aE)) (oI GMOST_FIELDS rfl))
     (aJ (aR (aL G24_ hr (aD (aC 0) (aD (aC 1) (aD (aC 2) aE))))))
     bE)))
    bE)
   (aJ (aR (aL G26_ hr (aD (aC 0) (aD (aC 1) aE))))))) (λas R q=>?_)
 obtain⟨V,hv,ks,js,rfl,hD,hk,hj,le,q⟩:=q
 have oT:∀t∈aO (ks++js),fK t:=λt ht=>by
  rw[gZ]at ht
  rcases qp_.mp ht with z|z
  ·exact hk.nms z
  ·exact hj.nms z
 have la:=zF3 hk.ne hj.ne
 have tab:¬ (aG (aO (ks++js))).length<=8->∀T1 T2:Tv,T1=aX (dcP D ks)->T2=aX (dcP D js)->∀s2:Sl,sF (kK (xN D W) (iE (fZ 0) (iE (fZ 1) gQ))) {nx:=λx=>R nT,rt:=R} [.va T1,.va T2,s2]:=by
  rintro h T1 T2 rfl rfl s2
  rw[gL h,la.1,la.2,gZ,show dL (ks++js)=dL ks++dL js from qW2_ ..]at q
  refine⟨V,hv,ks,js,rfl,hD,hk,hj,⟨λe=>h ?_,by rw[<-gZ];exact le,by rw[<-gZ];exact oT⟩,q⟩
  rw[gZ,e]
  exact qu_ _
 have nd:∀ks:List (List (Str×Tv)),((bQ D ks).map (·.1)).Nodup:=λks=>by rw[lO];exact kW (gD _)
 have sl:∀l:List Str,(aV (aG l)).length=(aG l).length:=λl=>(eM _).length_eq
 by_cases h1:(aG (aO ks)).length<=8
 ·have e1:=gM (D:=D) h1
  have E1:=eK (bM (bJ ks)) (bR (bJ ks)) (bQ D ks)
  by_cases h2:(aG (aO js)).length<=8
  ·have e2:=gM (D:=D) h2
   have E2:=eK (bM (bJ js)) (bR (bJ js)) (bQ D js)
   have tab:=λh=>tab h _ _ (by rw[e1,E1]) (by rw[e2,E2])
   have sN8:∀ks:List (List (Str×Tv)),aV (aG (aO ks))=((bQ D ks).map λx:FdT=>(x.1,cE x)).map (·.1):=λks=>by
    rw[qA_]
    exact(lO (D:=D) ks).symm
   have eN:aV (aG (aV (aG (aO ks))++aV (aG (aO js))))=aV (aG (aO (ks++js))):=(lB λx=>by rw[gZ,qp_,qp_,sort_set_mem,sort_set_mem]).2
   have l1:=sl (aO ks)
   have l2:=sl (aO js)
   have l3:=sl (aO (ks++js))
   rw[e1,e2,E1,E2]
   refine⟨rfl,_,at0,_,rfl,sY ⟨_,at0,_,rfl,sY ⟨_,_,bQ D ks,by rw[E1],by rw[kF];exact hk.le,nd ks,aV (aG (aO ks)),.inr ⟨_,rfl,sN8 ks⟩,by omega,_,_,bQ D js,by rw[E2],by rw[kF];exact hj.le,nd js,aV (aG (aO js)),.inr ⟨_,rfl,sN8 js⟩,by omega,?_⟩⟩⟩
   rw[eN]
   show PEnds.nx _ _
   refine nxE (ρ':=[.va (.seq true [sT "record",iT (bM (bJ ks)),iT (bR (bJ ks)),.seq true ((bQ D ks).map cE)]),.va (.seq true [sT "record",iT (bM (bJ js)),iT (bR (bJ js)),.seq true ((bQ D js).map cE)]),.va (.seq false ((aV (aG (aO (ks++js)))).map sT))]) rfl ?_
   refine⟨_,rfl,kN (λz=>?_) (λz=>?_)⟩
   ·have z:(((aV (aG (aO (ks++js)))).map sT).length:Int)<=8:=z
    rw[qc_]at z
    rw[gM (by omega),la.1,la.2]at q
    exact⟨V,hv,_,_,_,_,ks,js,aV (aG (aO (ks++js))),by rw[E1,E2],hD,hk,hj,by omega,q⟩
   ·have z:¬ (((aV (aG (aO (ks++js)))).map sT).length:Int)<=8:=z
    rw[qc_]at z
    exact tab (by omega) (.va (.seq false ((aV (aG (aO (ks++js)))).map sT)))
  ·have e2:=gL (D:=D) h2
   have E2:=fL (bM (bJ js)) (bR (bJ js)) (bP (aO js)) (D (dL js))
   have big:¬ (aG (aO (ks++js))).length<=8:=λz=>h2 (qi_ (fE (A:=aO js) λx hx=>by rw[gZ];exact qq_ _ hx) z)
   have tab:=tab big _ _ (by rw[e1,E1]) (by rw[e2,E2])
   rw[e1,e2,E1,E2]
   exact⟨rfl,_,at0,_,rfl,sY ⟨_,at0,_,rfl,sN (by decide +kernel) (tab .no)⟩⟩
 ·have e1:=gL (D:=D) h1
  have E1:=fL (bM (bJ ks)) (bR (bJ ks)) (bP (aO ks)) (D (dL ks))
  have big:¬ (aG (aO (ks++js))).length<=8:=λz=>h1 (qi_ (fE (A:=aO ks) λx hx=>by rw[gZ];exact qB_ _ hx) z)
  have tab:=λT2 e=>tab big _ T2 (by rw[e1,E1]) e
  rw[e1,E1]
  exact⟨rfl,_,at0,_,rfl,sN (by decide +kernel) (aW (tab _ rfl .no))⟩
def zC5(D:List Tv->List Pt)(W:(Tv->Prop)->Prop):PSp:=λas R=>∃V:Tv->Prop,W V/\∃(a b a' b':Int) (A B:List Tv),as=[.va (aX (.lists a b (D A))),.va (aX (.lists a' b' (D B)))]/\(∀v∈A,V v)/\(∀v∈B,V v)/\R (aX (.lists (min a a') (max b b') (D (A++B))))
theorem C28_:bC ["one","other"] ["one","other"] (aN oR):=fsc (by decide +kernel)
theorem zLt(h:Has K mg "lists_joined" oR)(B:Own mg)(G30_:PGood P w K mg base lv "joined" ["one","other"] (ptJ D W))   : PGood P w K mg base (lv+7) "lists_joined" ["one","other"] (zC5 D W):=by
 have nd:=C28_.nd
 refine h.pgood C28_ (fun|_,_,_,_,_,_,[_,_],_=>rfl) (λf cdv A outer s H E F hr=>
   (aJ (aR (bX (aD aY (aD (bB (hJ rfl) rfl B.min boot_min (aD (aT hr (aC 0) aH) (aD (aT hr (aC 1) aH) aE))) (aD (bB (hX rfl) rfl B.max boot_max (aD (aT hr (aC 0) aH) (aD (aT hr (aC 1) aH) aE))) (aD (aL G30_ hr (aD (aT hr (aC 0) aH) (aD (aT hr (aC 1) aH) aE))) aE)))))))) (λas R q=>?_)
 obtain⟨V,hv,a,b,a',b',A,B,rfl,hA,hB,q⟩:=q
 rw[iJ]at q ⊢
 rw[iJ]
 exact⟨rfl,_,bG (j:=1) rfl,_,bG (j:=1) rfl,.inl ⟨_,_,rfl,_,bG (j:=2) rfl,_,bG (j:=2) rfl,.inl ⟨_,_,rfl,_,bG (j:=3) rfl,_,bG (j:=3) rfl,V,hv,A,B,rfl,hA,hB,by simp,q⟩⟩⟩
structure VsOk (V:Tv->Prop) (vs:List Tv):Prop where
 tx:∀t∈vs.filterMap asS,fK t
 tl:(aG (vs.filterMap asS)).length<=20
 ls:∀l∈vs.filterMap asL,∀v∈l,V v
 nd:∀k∈vs.filterMap asD,(k.map (·.1)).Nodup
 ok:∀k∈vs.filterMap asD,∀kt∈k,fK kt.1/\V kt.2
 le:(aG (aO (vs.filterMap asD))).length<=20
theorem VsOk.left{A B:List Tv}(h:VsOk V (A++B)):VsOk V A where
 tx:=λt ht=>h.tx t (by rw[qL_];exact qB_ _ ht)
 tl:=qi_ (fE λx hx=>by rw[qL_];exact qB_ _ hx) h.tl
 ls:=λt ht=>h.ls t (by rw[qL_];exact qB_ _ ht)
 nd:=λt ht=>h.nd t (by rw[qL_];exact qB_ _ ht)
 ok:=λt ht=>h.ok t (by rw[qL_];exact qB_ _ ht)
 le:=qi_ (fE λx hx=>by rw[qL_,gZ];exact qB_ _ hx) h.le
theorem VsOk.right{A B:List Tv}(h:VsOk V (A++B)):VsOk V B where
 tx:=λt ht=>h.tx t (by rw[qL_];exact qq_ _ ht)
 tl:=qi_ (fE λx hx=>by rw[qL_];exact qq_ _ hx) h.tl
 ls:=λt ht=>h.ls t (by rw[qL_];exact qq_ _ ht)
 nd:=λt ht=>h.nd t (by rw[qL_];exact qq_ _ ht)
 ok:=λt ht=>h.ok t (by rw[qL_];exact qq_ _ ht)
 le:=qi_ (fE λx hx=>by rw[qL_,gZ];exact qq_ _ hx) h.le
def sR(D:List Tv->List Pt)(W W':(Tv->Prop)->Prop):PSp:=λas R=>∃V:Tv->Prop,W V/\∃V':Tv->Prop,W' V'/\∃(A B:List Tv) (k:Nat) (p q r:Pt),as=[.va (aX p),.va (aX q)]/\DOk D/\VsOk V (A++B)/\(∀v∈A++B,V' v)/\bH D A k=some p/\bH D B k=some q/\bH D (A++B) k=some r/\R (aX r)
theorem eE{c:Prop}[Decidable c]{x p:Pt}(h:(if c then none else some x)=some p):¬ c/\x=p:=by
 by_cases z:c
 ·rw[if_pos z]at h;cases h
 ·rw[if_neg z]at h;exact⟨z,by injection h⟩
theorem zHQ(bs cs:List Bool):usB (inF (bs++cs)) (inT (bs++cs))=usB (inF (usB (inF bs) (inT bs)) || inF (usB (inF cs) (inT cs))) (inT (usB (inF bs) (inT bs)) || inT (usB (inF cs) (inT cs))):=by
 have e:∀f t:Bool,inF (usB f t)=f/\inT (usB f t)=t:=λf t=>by cases f<;>cases t<;>exact⟨rfl,rfl⟩
 rw[(e _ _).1,(e _ _).2,(e _ _).1,(e _ _).2]
 unfold inF inT
 rw[qp2_,qp2_]
theorem C29_:bC ["one","other"] ["one","other"] (aN oQ):=fsc (by decide +kernel)
theorem zLs(h:Has K mg "parts_joined" oQ)(B:Own mg)(G4_:PGood P w K mg base 3 "run_joined" ["one","other"] oD)(G14_:PGood P w K mg base 5 "words_joined" ["one","other"] lD)(G28_:PGood P w K mg base (lv+7) "lists_joined" ["one","other"] (zC5 D W))(G27_:PGood P w K mg base (lv+7) "dicts_joined" ["one","other"] (xO D W))   : PGood P w K mg base (lv+8) "parts_joined" ["one","other"] (sR D W W'):=by
 have nd:=C29_.nd
 refine h.pgood C29_ (fun|_,_,_,_,_,_,[_,_],_=>rfl) (λf cdv A outer s H E F hr=>
   (aI (bF (cH hr (aT hr (aC 0) aH) aY)
    (aJ (aR (aC 0)))
    bE)
   (aI (bF (cH hr (aT hr (aC 0) aH) aY)
    (aJ (aR (bX (aD aY (aD (fM fP rfl B.tuple_ boot_tuple (aD (bI (zDW rfl rfl B.sorted rfl B.set_ (aT hr (aC 0) aH) (aT hr (aC 1) aH))) aE)) aE)))))
    bE)
   (aI (bF (cH hr (aT hr (aC 0) aH) aY)
    (aJ (aR (bO cU (bX (aD aY aE)) (aL G4_ hr (aD (fO fV (aC 0) (fQ aH) fR) (aD (fO fV (aC 1) (fQ aH) fR) aE))))))
    bE)
   (aI (bF (cH hr (aT hr (aC 0) aH) aY)
    (aJ (aR (bX (aD aY (aD (aL G14_ hr (aD (aT hr (aC 0) aH) (aD (aT hr (aC 1) aH) aE))) aE)))))
    bE)
   (aI (bF (cH hr (aT hr (aC 0) aH) aY)
    (aJ (aR (aL G28_ hr (aD (aC 0) (aD (aC 1) aE)))))
    bE)
   (aJ (aR (aL G27_ hr (aD (aC 0) (aD (aC 1) aE))))))))))) (λas R q=>?_)
 obtain⟨V,hv,V',hv',A,B,k,p,p',r,rfl,hD,hV,hV',h1,h2,h3,q⟩:=q
 have fa:∀{α:Type} (f:Tv->Option α),(A++B).filterMap f=A.filterMap f++B.filterMap f:=λf=>qL_ ..
 unfold bH at h1
 split at h1
 ·have hA:dC A=true:=by
   apply Classical.byContradiction
   intro z
   rw[if_neg z]at h1
   cases h1
  rw[if_pos hA]at h1
  cases h1
  have h3:(if dC (A++B)=true then some Pt.nothing else none)=some r:=h3
  rw[if_pos (by unfold dC at hA ⊢;rw[qp2_,hA];rfl)]at h3
  cases h3
  rw[tJ]at q ⊢
  exact⟨rfl,_,at0,_,rfl,sY q⟩
 ·have h3:(if (A++B).filterMap asB=[] then none else some (Pt.truths (usB (inF ((A++B).filterMap asB)) (inT ((A++B).filterMap asB)))))=some r:=h3
  obtain⟨nA,rfl⟩:=eE h1
  obtain⟨nB,rfl⟩:=eE (c:=B.filterMap asB=[]) h2
  rw[fa asB,if_neg (λe=>nA (qa2_.mp e).1),zHQ]at h3
  cases h3
  rw[pN]at q ⊢
  rw[pN]
  exact⟨rfl,_,at0,_,rfl,sN (by decide +kernel) ⟨_,at0,_,rfl,sY ⟨_,bG (j:=1) rfl,_,rfl,_,bG (j:=1) rfl,_,rfl,_,_,rfl,by simp,q⟩⟩⟩
 ·have h3:(if (A++B).filterMap asI=[] then none else some (Pt.numbers (dA ((A++B).filterMap asI)).1 (dA ((A++B).filterMap asI)).2.1 (dA ((A++B).filterMap asI)).2.2))=some r:=h3
  obtain⟨nA,rfl⟩:=eE h1
  obtain⟨nB,rfl⟩:=eE (c:=B.filterMap asI=[]) h2
  rw[fa asI,if_neg (λe=>nA (qa2_.mp e).1),<-zEF nA nB]at h3
  cases h3
  rw[qA]at q ⊢
  rw[qA]
  exact⟨rfl,_,at0,_,rfl,sN (by decide +kernel) ⟨_,at0,_,rfl,sN (by decide +kernel) ⟨_,at0,_,rfl,sY ⟨by simp,_,rfl,_,rfl,_,_,rfl,(lC nA).ok,(lC nB).ok,by simp,q⟩⟩⟩⟩
 ·have h3:(if (A++B).filterMap asS=[] then none else some (Pt.texts (bP ((A++B).filterMap asS))))=some r:=h3
  obtain⟨nA,rfl⟩:=eE h1
  obtain⟨nB,rfl⟩:=eE (c:=B.filterMap asS=[]) h2
  have ne:A.filterMap asS++B.filterMap asS≠[]:=λe=>nA (qa2_.mp e).1
  rw[fa asS,if_neg ne]at h3
  cases h3
  have tx:=hV.tx
  have tl:=hV.tl
  rw[fa asS]at tx tl
  rw[pT]at q ⊢
  rw[pT]
  exact⟨rfl,_,at0,_,rfl,sN (by decide +kernel) ⟨_,at0,_,rfl,sN (by decide +kernel) ⟨_,at0,_,rfl,sN (by decide +kernel) ⟨_,at0,_,rfl,sY ⟨_,bG (j:=1) rfl,_,bG (j:=1) rfl,_,_,rfl,nA,nB,⟨ne,tl,tx⟩,by simp,q⟩⟩⟩⟩⟩
 ·have h3:(if (A++B).filterMap asL=[] then none else some (Pt.lists (bM (dH ((A++B).filterMap asL))) (bR (dH ((A++B).filterMap asL))) (D ((A++B).filterMap asL).flatten)))=some r:=h3
  obtain⟨nA,rfl⟩:=eE h1
  obtain⟨nB,rfl⟩:=eE (c:=B.filterMap asL=[]) h2
  have hl:=hV.ls
  rw[fa asL]at hl
  have l1:dH (A.filterMap asL)≠[]:=by unfold dH;simpa using nA
  have l2:dH (B.filterMap asL)≠[]:=by unfold dH;simpa using nB
  rw[fa asL,if_neg (λe=>nA (qa2_.mp e).1),show dH (A.filterMap asL++B.filterMap asL)=dH (A.filterMap asL)++dH (B.filterMap asL) from qG_ ..,zAU l1 l2,zAV l1 l2,qX2_]at h3
  cases h3
  have ea:∀(a b a' b':Int) (f g:List Pt),[Ar.va (.seq true [sT "lists",iT a,iT b,bS f]),.va (.seq true [sT "lists",iT a',iT b',bS g])]=[.va (aX (.lists a b f)),.va (aX (.lists a' b' g))]:=λa b a' b' f g=>by rw[iJ,iJ]
  rw[iJ (bM (dH (A.filterMap asL))),iJ (bM (dH (B.filterMap asL)))]
  refine⟨rfl,_,at0,_,rfl,sN (by decide +kernel) ⟨_,at0,_,rfl,sN (by decide +kernel) ⟨_,at0,_,rfl,sN (by decide +kernel) ⟨_,at0,_,rfl,sN (by decide +kernel) ⟨_,at0,_,rfl,sY ⟨V,hv,_,_,_,_,_,_,ea _ _ _ _ _ _,λv hv=>?_,λv hv=>?_,q⟩⟩⟩⟩⟩⟩
  ·obtain⟨l,hl',hv⟩:=qt1_.mp hv
   exact hl l (qB_ _ hl') v hv
  ·obtain⟨l,hl',hv⟩:=qt1_.mp hv
   exact hl l (qq_ _ hl') v hv
 ·have h3:(if (A++B).filterMap asD=[] then none else some (dcP D ((A++B).filterMap asD)))=some r:=h3
  obtain⟨nA,rfl⟩:=eE h1
  obtain⟨nB,rfl⟩:=eE (c:=B.filterMap asD=[]) h2
  rw[fa asD,if_neg (λe=>nA (qa2_.mp e).1)]at h3
  cases h3
  have vl:=hV.left
  have vr:=hV.right
  have le:=hV.le
  rw[fa asD]at le
  have fin:∀T1:Tv,T1=aX (dcP D (A.filterMap asD))->sF (kK (xO D W) (iE (fZ 0) (iE (fZ 1) gQ))) {nx:=λx=>R nT,rt:=R} [.va T1,.va (aX (dcP D (B.filterMap asD)))]:=by
   rintro T1 rfl
   exact⟨V,hv,_,_,rfl,hD,⟨nA,vl.nd,vl.ok,vl.le⟩,⟨nB,vr.nd,vr.ok,vr.le⟩,le,q⟩
  by_cases h:(aG (aO (A.filterMap asD))).length<=8
  ·have fin:=fin _ (by rw[gM h,eK])
   rw[gM h,eK (bM (bJ (A.filterMap asD)))]
   exact⟨rfl,_,at0,_,rfl,sN (by decide +kernel) ⟨_,at0,_,rfl,sN (by decide +kernel) ⟨_,at0,_,rfl,sN (by decide +kernel) ⟨_,at0,_,rfl,sN (by decide +kernel) ⟨_,at0,_,rfl,sN (by decide +kernel) fin⟩⟩⟩⟩⟩
  ·have fin:=fin _ (by rw[gL h,fL])
   rw[gL h,fL (bM (bJ (A.filterMap asD)))]
   exact⟨rfl,_,at0,_,rfl,sN (by decide +kernel) ⟨_,at0,_,rfl,sN (by decide +kernel) ⟨_,at0,_,rfl,sN (by decide +kernel) ⟨_,at0,_,rfl,sN (by decide +kernel) ⟨_,at0,_,rfl,sN (by decide +kernel) fin⟩⟩⟩⟩⟩
 ·cases h1
end
end My
namespace My
open PySem L2 PyProof.Rows WordM
section
variable{P:Program}{w:World}{K:W.Frag}{mg:Str->Option Value}{base:Heap}
variable{D:List Tv->List Pt}{W W':(Tv->Prop)->Prop}{lv:Nat}
theorem zA7{A B:List Tv}{k:Nat}(h:bH D B k=none):bH D (A++B) k=bH D A k:=by
 have no:∀{c:Prop} [Decidable c] {x:Pt},(if c then none else some x)=none->c:=λ{c} _ {x} h=>by
  by_cases z:c
  ·exact z
  ·rw[if_neg z]at h;cases h
 unfold bH at h ⊢
 split at h
 ·have hB:dC B=false:=by
   cases e:dC B with
   |false=>rfl
   |true=>rw[e,if_pos rfl]at h;cases h
  have:dC (A++B)=dC A:=by
   show(A++B).any _=A.any _
   rw[qp2_,show(B.any λv=>dI v==0)=false from hB,qt2_]
  rw[this]
 all_goals first|(have z:=no h;rw[qL_,z,qN_])|rfl
theorem zE8{A B:List Tv}{k:Nat}(h:bH D A k=none):bH D (A++B) k=bH D B k:=by
 have no:∀{c:Prop} [Decidable c] {x:Pt},(if c then none else some x)=none->c:=λ{c} _ {x} h=>by
  by_cases z:c
  ·exact z
  ·rw[if_neg z]at h;cases h
 unfold bH at h ⊢
 split at h
 ·have hB:dC A=false:=by
   cases e:dC A with
   |false=>rfl
   |true=>rw[e,if_pos rfl]at h;cases h
  have:dC (A++B)=dC B:=by
   show(A++B).any _=B.any _
   rw[qp2_,show(A.any λv=>dI v==0)=false from hB,qO2_]
  rw[this]
 all_goals first|(have z:=no h;rw[qL_,z,ql1_])|rfl
theorem zGh{A B:List Tv}{k:Nat}{p:Pt}(h:bH D A k=some p):∃r,bH D (A++B) k=some r:=by
 have no:∀{c:Prop} [Decidable c] {x:Pt},(if c then none else some x)=none->c:=λ{c} _ {x} h=>by
  by_cases z:c
  ·exact z
  ·rw[if_neg z]at h;cases h
 cases e:bH D (A++B) k with
 |some r=>exact⟨r,rfl⟩
 |none=>
  unfold bH at h e
  split at h
  ·have hA:dC A=true:=by
    cases z:dC A with
    |true=>rfl
    |false=>rw[z,if_neg ql_]at h;cases h
   have:dC (A++B)=true:=by
    show(A++B).any _=true
    rw[qp2_,show(A.any λv=>dI v==0)=true from hA];rfl
   rw[this,if_pos rfl]at e
   cases e
  all_goals first|(have z:=no e;rw[qL_]at z;exact absurd (qa2_.mp z).1 (eE h).1)|cases h
noncomputable def nxD(D:List Tv->List Pt)(vs:List Tv):List Pt:=kN6.filterMap (bH D vs)
theorem zBU{vs:List Tv}{k:Nat}(h:k∈kN6):mE (nxD D vs) k=bH D vs k:=zBV (λ_ _=>zFa) kN6 k h (by decide)
theorem C30_:bC ["one","other","parts","kind","both"] ["one","other"] (aN mK):=fsc (by decide +kernel)
theorem zDc(h:Has K mg "joined" mK)(B:Own mg)(G16_:PGood P w K mg base 2 "part_for" ["form","kind"] mW)(G29_:PGood P w K mg base (lv+8) "parts_joined" ["one","other"] (sR D W W'))(GKINDS:eG K mg "KINDS" (.seq true (kN6.map λk=>sT (cR k))))(hD:DOk D)(hW:∀V':Tv->Prop,W' V'->∃V:Tv->Prop,W V/\∀vs:List Tv,(∀v∈vs,V' v)->VsOk V vs):PGood P w K mg base (lv+9) "joined" ["one","other"] (ptJ (nxD D) W'):=by
 have nd:=C30_.nd
 refine h.pgood C30_ (fun|_,_,_,_,_,_,[_,_],_=>rfl) (λf cdv A outer s H E F hr=>
   (aI (fW 2 nd (cF aE))
   (aI (dN (m:=5) qD_ rfl (bU (oI GKINDS rfl)) (cW 3 (by decide) nd rfl (.inl rfl))
    (aI (eO (sc:=aN mK) (XN:=["one","other","parts","kind","both"]) (N:=["part"]) (fr:=[]) 4 nd (bU (bI (cF (aD (aL G16_ hr (aD (aC 0) (aD (aC 3) aE))) (aD (aL G16_ hr (aD (aC 1) (aD (aC 3) aE))) aE))))) (λ_ _ _ _ _=>(hG (dP zFL (aC 0) iS))) (λ_ _ _ _ _=>(aC 0)))
    (aI (bF (cH hr (bB cA rfl B.len qn_ (aD (aC 4) aE)) aH)
     (aJ (eI (fN 2 (aT hr (aC 4) aH))))
     bE)
    (aJ (bF (cH hr (bB cA rfl B.len qn_ (aD (aC 4) aE)) aH)
     (aJ (eI (fN 2 (aL G29_ hr (aD (aT hr (aC 4) aH) (aD (aT hr (aC 4) aH) aE))))))
     bE)))))
   (aJ (aR (fM fP rfl B.tuple_ boot_tuple (aD (aC 2) aE))))))) (λas R q=>?_)
 obtain⟨V',hv',A,B,rfl,hA,hB,q⟩:=q
 obtain⟨V,hv,hV⟩:=hW V' hv'
 refine⟨rfl,by simp,?_⟩
 show PEnds.nx _ _
 refine nxE (ρ':=[.va (bS (nxD D A)),.va (bS (nxD D B)),.own [],.no,.no]) rfl ?_
 have hall:∀v∈A++B,V' v:=λv hv=>(qp_.mp hv).elim (hA v) (hB v)
 have hAB:VsOk V (A++B):=hV _ hall
 refine jM (λi ρ=>∃(L:List Pt) (s1 s2:Sl),L=((kN6.take i).filterMap (bH D (A++B)))/\ρ=[.va (bS (nxD D A)),.va (bS (nxD D B)),.own (L.map aX),s1,s2]) ⟨[],.no,.no,rfl,rfl⟩ ?_ ?_
 ·rintro i T _ N hT ⟨L,s1,s2,eL,rfl⟩ hN
  have hT:(kN6.map λk=>sT (cR k))[i]?=some T:=hT
  rw[qv_,qg1_]at hT
  obtain⟨k,hk,rfl⟩:=hT
  have hkm:k∈kN6:=qz_ hk
  have hk6:k<=5:=by
   simp only[kN6,List.mem_cons,List.not_mem_nil,or_false]at hkm
   omega
  have hi:i<6:=(qw_.mp hk).1
  have et:(kN6.take (i+1)).filterMap (bH D (A++B))=(kN6.take i).filterMap (bH D (A++B))++(bH D (A++B) k).toList:=by
   rw[qr1_,qL_,hk]
   cases e:bH D (A++B) k<;>simp[e]
  have ll:((kN6.take i).filterMap (bH D (A++B))).length<=6:=by
   refine qi_ (qq2_ _ _) ?_
   rw[qO_];omega
  rw[<-eL]at et ll
  refine⟨nxD D A,k,rfl,hk6,nxD D B,k,rfl,hk6,by simp,by simp,?_⟩
  have fA:((nxD D A).find? λp=>decide (fG p=k))=bH D A k:=zBU hkm
  have fB:((nxD D B).find? λp=>decide (fG p=k))=bH D B k:=zBU hkm
  rw[fA,fB]
  refine jZ xT (λo=>o.map aX) (l:=[bH D A k,bH D B k]) (λo ho R q=>?_) ?_
  ·cases o with
   |none=>exact⟨_,rfl,aW q⟩
   |some p=>
    obtain⟨r,e,_⟩:=zA6 p
    have q:R (some (aX p)) _:=q
    rw[e]at q
    rw[show xT (some p)=.seq true (sT (wG p)::r) from e]
    exact⟨_,rfl,cB q⟩
  have put:∀(r:Pt) (s4:Sl),bH D (A++B) k=some r->N [.va (bS (nxD D A)),.va (bS (nxD D B)),.own (L.map aX++[aX r]),.va (sT (cR k)),s4]:=λr s4 e=>hN _ ⟨L++[r],.va (sT (cR k)),s4,by rw[et,e];rfl,by rw[qG_];rfl⟩
  have one:∀(p:Pt),bH D (A++B) k=some p->(sE (sIf (uB (uOp pEq (uCB sU (iE (fZ 4) gQ)) (uC (iT 1)))) (wK (vE 2 (uOp pIx (fZ 4) (uC (iT 0))))) sH) (sIf (uB (uOp pEq (uCB sU (iE (fZ 4) gQ)) (uC (iT 2)))) (wK (vE 2 (kK (sR D W W') (iE (uOp pIx (fZ 4) (uC (iT 0))) (iE (uOp pIx (fZ 4) (uC (iT 1))) gQ))))) sH)) {nx:=N,rt:=R,bk:=λρ'=>sF (uCB zCi (iE (fZ 2) gQ)) {nx:=λx=>R nT,rt:=R} ρ',ct:=N} [.va (bS (nxD D A)),.va (bS (nxD D B)),.own (L.map aX),.va (sT (cR k)),.va (.seq false [aX p])]:=λp e=>
   ⟨_,rfl,eQ (λ_=>⟨⟨_,rfl⟩,_,at0,_,rfl,by rw[qc_];omega,_,rfl,eQ (λz=>absurd z (show ¬ ((1:Nat):Int)=2 by decide)) (λ_=>put p _ e)⟩) (λz=>absurd rfl z)⟩
  cases ea:bH D A k with
  |none=>
   cases eb:bH D B k with
   |none=>
    have e0:bH D (A++B) k=none:=(zA7 eb).trans ea
    exact⟨_,rfl,eQ (λz=>absurd z (by decide)) (λ_=>⟨_,rfl,eQ (λz=>absurd z (by decide)) (λ_=>hN _ ⟨L,.va (sT (cR k)),_,by rw[et,e0];simp,rfl⟩)⟩)⟩
   |some p=>exact one p ((zE8 ea).trans eb)
  |some p=>
   cases eb:bH D B k with
   |none=>exact one p ((zA7 eb).trans ea)
   |some p'=>
    obtain⟨r,er⟩:=zGh (B:=B) ea
    exact⟨_,rfl,eQ (λz=>absurd z (show ¬ ((2:Nat):Int)=1 by decide)) (λ_=>⟨_,rfl,eQ (λ_=>⟨⟨_,rfl⟩,_,at0,_,bG (j:=1) rfl,V,hv,V',hv',A,B,k,p,p',r,rfl,hD,hAB,hall,ea,eb,er,_,rfl,by rw[qc_];omega,put r _ er⟩) (λz=>absurd rfl z)⟩)⟩
 ·rintro _ ⟨L,s1,s2,eL,rfl⟩
  have eL:L=nxD D (A++B):=eL
  subst eL
  exact⟨false,_,rfl,q⟩
end
end My
namespace My
open PySem L2 PyProof.Rows WordM
section
variable{P:Program}{w:World}{K:W.Frag}{mg:Str->Option Value}{base:Heap}
theorem zCy{rs:List Str}{r:Int}(h0:0<=r)(h1:r<rs.length):∃x,rs[r.toNat]?=some x:=⟨rs[r.toNat]'(by omega),qk_ _⟩
theorem uF{α β:Type}(f:α->β):∀(l:List α) (i:Nat),(l.map f).eraseIdx i=(l.eraseIdx i).map f
 |[],_=>by simp
 |_::_,0=>by simp
 |a::l,i+1=>by simp[uF f l i]
variable{n:Nat}
theorem zAJ{kts:List (Str×Tv)}{s:Str}{T:Tv}{kt:Str×Tv}(h:kt∈eR kts s T):kt∈kts\/kt=(s,T):=by
 unfold eR at h
 split at h
 ·obtain⟨x,hx,rfl⟩:=qg_.mp h
  split
  ·rename_i e;rw[e];exact .inr rfl
  ·exact .inl hx
 ·rcases qp_.mp h with h|h
  ·exact .inl h
  ·exact .inr (qW_.mp h)
def VD(nm tx:List Str):Nat->Tv->Prop
 |0,_=>False
 |_+1,.leaf .non=>True
 |_+1,.leaf (.bl _)=>True
 |_+1,.leaf (.int i)=>yA i
 |_+1,.leaf (.str s)=>s∈tx
 |n+1,.seq false xs=>xs.length<=11/\∀x∈xs,VD nm tx n x
 |n+1,.dct kts=>(kts.map (·.1)).Nodup/\kts.length<=11/\∀kt∈kts,kt.1∈nm/\VD nm tx n kt.2
 |_,_=>False
end
end My
namespace My
open PySem L2 PyProof.Rows WordM
section
variable{P:Program}{w:World}{K:W.Frag}{mg:Str->Option Value}{base:Heap}
theorem zLP{nm tx:List Str}{st sp:Int}(hw:hE nm tx st sp){n:Nat}{vs:List Tv}(h:∀v∈vs,VD nm tx (n+1) v):VsOk (VD nm tx n) vs:=by
 have hs:∀t∈vs.filterMap asS,t∈tx:=λt ht=>by
  obtain⟨v,hv,e⟩:=qc1_.mp ht
  rw[zHA]at e
  subst e
  exact h _ hv
 have hd:∀k∈vs.filterMap asD,VD nm tx (n+1) (.dct k):=λk hk=>by
  obtain⟨v,hv,e⟩:=qc1_.mp hk
  rw[zHC]at e
  subst e
  exact h _ hv
 have hn:∀x∈aO (vs.filterMap asD),x∈nm:=λx hx=>by
  obtain⟨k,hk,hx⟩:=qs1_.mp hx
  obtain⟨kt,hkt,rfl⟩:=qg_.mp hx
  exact((hd k hk).2.2 kt hkt).1
 refine⟨λt ht=>?_,?_,λl hl=>?_,λk hk=>(hd k hk).1,λk hk kt hkt=>?_,?_⟩
 ·have:=hw.ts t (hs t ht)
  exact⟨this.1,by have:=this.2;omega⟩
 ·have:=WordM.nodup_len (cZ (vs.filterMap asS)) (m:=tx) λx hx=>hs x ((cM _ x).mp hx)
  have:=hw.t9
  omega
 ·obtain⟨v,hv,e⟩:=qc1_.mp hl
  rw[zHB]at e
  subst e
  exact(h _ hv).2
 ·have a:=(hd k hk).2.2 kt hkt
  have:=hw.ns kt.1 a.1
  exact⟨⟨this.1,by have:=this.2;omega⟩,a.2⟩
 ·have:=WordM.nodup_len (cZ (aO (vs.filterMap asD))) (m:=nm) λx hx=>hn x ((cM _ x).mp hx)
  have:=hw.n11
  omega
def WD(n:Nat)(V:Tv->Prop):Prop:=∃nm tx st sp,hE nm tx st sp/\V=VD nm tx n
theorem dOk(n:Nat):DOk (bD n):=⟨uI n,zA8 n⟩
def D0:List Tv->List Pt:=λ_=>[]
def W0:(Tv->Prop)->Prop:=λV=>∀v,¬ V v
section
variable{D:List Tv->List Pt}{W W':(Tv->Prop)->Prop}{lv:Nat}
theorem zHs(hj:Has K mg "joined" mK)(hp:Has K mg "parts_joined" oQ)(hl:Has K mg "lists_joined" oR)(hd:Has K mg "dicts_joined" oS)(ht:Has K mg "tables_joined" oU)(ha:Has K mg "all_joined" mJ)(hr:Has K mg "records_joined" oV)(hf:Has K mg "field_joined" oW)(B:Own mg)
  (G16_:PGood P w K mg base 2 "part_for" ["form","kind"] mW) (G4_:PGood P w K mg base 3 "run_joined" ["one","other"] oD) (G14_:PGood P w K mg base 5 "words_joined" ["one","other"] lD) (G22_:PGood P w K mg base 1 "fields_by_name" ["record"] mN) (G25_:PGood P w K mg base 5 "name_words" ["part"] oY) (G17_:PGood P w K mg base 1 "forms_within" ["part"] oZ)
  (GMOST_FIELDS:eG K mg "MOST_FIELDS" (iT 8)) (GKINDS:eG K mg "KINDS" (.seq true (kN6.map λk=>sT (cR k))))
  (hD:DOk D) (hW:∀V':Tv->Prop,W' V'->∃V:Tv->Prop,W V/\∀vs:List Tv,(∀v∈vs,V' v)->VsOk V vs)
  (G30_:PGood P w K mg base lv "joined" ["one","other"] (ptJ D W)):PGood P w K mg base (lv+9) "joined" ["one","other"] (ptJ (nxD D) W'):=
 zDc (lv:=lv) hj B G16_ (zLs hp B G4_ G14_ (zLt hl B G30_) (zLu hd B G22_ (zLx hr B G22_ (zLy hf B G30_)) (zLv ht B G25_ G14_ (xS ha B G30_) G17_) GMOST_FIELDS)) GKINDS hD hW
theorem vA(D:List Tv->List Pt)(k:Nat):bH D [] k=none:=by
 unfold bH
 split<;>rfl
theorem zBH(D:List Tv->List Pt):nxD D []=[]:=by
 unfold nxD
 rw[qb2_]
 exact λk _=>vA D k
theorem zIY(n:Nat):bD (n+1)=nxD (bD n):=funext λvs=>rfl
theorem rG{V:Tv->Prop}(h:∀v,¬ V v){A:List Tv}(hA:∀v∈A,V v):A=[]:=qY1_.mpr λv hv=>h v (hA v hv)
theorem zBS(hj:Has K mg "joined" mK)(hp:Has K mg "parts_joined" oQ)(hl:Has K mg "lists_joined" oR)(hd:Has K mg "dicts_joined" oS)(ht:Has K mg "tables_joined" oU)(ha:Has K mg "all_joined" mJ)(hr:Has K mg "records_joined" oV)(hf:Has K mg "field_joined" oW)(B:Own mg)
  (G16_:PGood P w K mg base 2 "part_for" ["form","kind"] mW) (G4_:PGood P w K mg base 3 "run_joined" ["one","other"] oD) (G14_:PGood P w K mg base 5 "words_joined" ["one","other"] lD) (G22_:PGood P w K mg base 1 "fields_by_name" ["record"] mN) (G25_:PGood P w K mg base 5 "name_words" ["part"] oY) (G17_:PGood P w K mg base 1 "forms_within" ["part"] oZ)
  (GMOST_FIELDS:eG K mg "MOST_FIELDS" (iT 8)) (GKINDS:eG K mg "KINDS" (.seq true (kN6.map λk=>sT (cR k)))):∀n:Nat,PGood P w K mg base (9*n+9) "joined" ["one","other"] (ptJ (bD n) (WD n))
 |0=>by
  have z:PGood P w K mg base 8 "parts_joined" ["one","other"] (sR D0 (λ_=>True) W0):=hp.pfalse C29_ (fun|_,_,_,_,_,_,[_,_],_=>rfl) λas R ⟨V,_,V',h0,A,B',k,p,q,r,_,_,_,ha',h1,_⟩=>by
   have:A=[]:=rG h0 λv hv=>ha' v (qB_ _ hv)
   rw[this,vA]at h1
   cases h1
  have g:=zDc (lv:=0) (D:=D0) (W:=λ_=>True) (W':=W0) hj B G16_ z GKINDS ⟨λ_ _ _=>rfl,rfl⟩ (λV' h0=>⟨V',trivial,λvs hvs=>by
   rw[rG h0 hvs]
   exact⟨λt h=>(nomatch h),qu_ _,λt h=>(nomatch h),λt h=>(nomatch h),λt h=>(nomatch h),qu_ _⟩⟩)
  refine g.imp λas R ⟨V,⟨nm,tx,st,sp,hw,eV⟩,A,B',e,hA,hB,q⟩=>?_
  subst eV
  have h0:∀v,¬ VD nm tx 0 v:=λv h=>h
  have eA:=rG h0 hA
  have eB:=rG h0 hB
  subst eA eB
  refine⟨VD nm tx 0,h0,[],[],?_,λv h=>(nomatch h),λv h=>(nomatch h),?_⟩
  ·rw[e,zBH];rfl
  ·rw[qN_,zBH];exact q
 |n+1=>by
  rw[zIY]
  exact zHs hj hp hl hd ht ha hr hf B G16_ G4_ G14_ G22_ G25_ G17_ GMOST_FIELDS GKINDS (dOk n) (λV' ⟨nm,tx,st,sp,hw,e⟩=>⟨VD nm tx n,⟨nm,tx,st,sp,hw,rfl⟩,λvs h=>zLP hw λv hv=>by have:=h v hv;rw[e]at this;exact this⟩) (zBS hj hp hl hd ht ha hr hf B G16_ G4_ G14_ G22_ G25_ G17_ GMOST_FIELDS GKINDS n)
end
end
end My
namespace My
open PySem L2 PyProof.Rows WordM
section
variable{P:Program}{w:World}{K:W.Frag}{mg:Str->Option Value}{base:Heap}
variable{n:Nat}
theorem wJ{c:Nat}{S:Str}{A B:Prop}(h1:c∈cs S->A)(h2:c∉cs S->B):if (false != inS ⟨#[c]⟩ S)=true then A else B:=by
 have:(false != inS ⟨#[c]⟩ S)=decide (c∈cs S):=by unfold inS;rw[StrLaws.found_one];simp
 rw[this]
 exact kN h1 h2
def wE:PSp:=λas R=>∃c:Nat,as=[.va (sT ⟨#[c]⟩)]/\R (sT (eP c))
theorem C45_:bC ["_law_sign"] ["_law_sign"] (aN wU):=fsc (by decide +kernel)
theorem zLi(h:Has K mg "_law_mark" wU)(B:Own mg)    : PGood P w K mg base 1 "_law_mark" ["_law_sign"] wE:=by
 have nd:=C45_.nd
 refine h.pgood C45_ (fun|_,_,_,_,_,_,[_],_=>rfl) (λf cdv A outer s H E F hr=>
   (aI (bF (dP (lY hr.units) (aC 0) aY rfl)
    (aJ (aR aY))
    bE)
   (aI (bF (dP (lY hr.units) (aC 0) aY rfl)
    (aJ (aR aY))
    bE)
   (aI (bF (dP (lY hr.units) (aC 0) aY rfl)
    (aJ (aR aY))
    bE)
   (aJ (aR aY)))))) (λas R q=>?_)
 obtain⟨c,rfl,q⟩:=q
 unfold eP at q
 refine⟨rfl,_,rfl,wJ (λa=>?_) (λa=>⟨_,rfl,wJ (λb=>?_) (λb=>⟨_,rfl,wJ (λd=>?_) (λd=>?_)⟩)⟩)⟩
 ·rw[if_pos (show c∈cs mH from a)]at q;exact q
 ·rw[if_neg (show c∉cs mH from a),if_pos (show c∈cs nX from b)]at q;exact q
 ·rw[if_neg (show c∉cs mH from a),if_neg (show c∉cs nX from b),if_pos (show c∈cs rB from d)]at q;exact q
 ·rw[if_neg (show c∉cs mH from a),if_neg (show c∉cs nX from b),if_neg (show c∉cs rB from d)]at q;exact q
end
section
variable{P:Program}{w:World}{K:W.Frag}{mg:Str->Option Value}{base:Heap}
def tZ:PSp:=λas R=>∃a b:Int,as=[.va (iT a),.va (iT b)]/\R (iT (GcdM.g a b))
theorem C44_:bC ["_law_one","_law_other"] ["_law_one","_law_other"] (aN wV):=fsc (by decide +kernel)
theorem zLj(h:Has K mg "_law_divisor" wV)(B:Own mg)    : PGood P w K mg base 1 "_law_divisor" ["_law_one","_law_other"] tZ:=by
 have nd:=C44_.nd
 refine h.pgood C44_ (fun|_,_,_,_,_,_,[_,_],_=>rfl) (λf cdv A outer s H E F hr=>
   (aI (mY qD_ (fY hr (aC 1) aH)
    (aJ (zHO (i:=0) (j:=1) rfl nd rfl rfl (by decide) rfl rfl (aD (aC 1) (aD (bO zGU (aC 0) (aC 1)) aE)) (by rfl))))
   (aJ (aR (bB zIt rfl B.abs boot_abs (aD (aC 0) aE)))))) (λas R q=>?_)
 obtain⟨a,b,rfl,q⟩:=q
 refine⟨rfl,λm ρ=>∃x y:Int,m=y.natAbs/\GcdM.g x y=GcdM.g a b/\ρ=[.va (iT x),.va (iT y)],⟨_,a,b,rfl,rfl,rfl⟩,?_⟩
 rintro m _ ⟨x,y,rfl,e,rfl⟩
 refine⟨_,rfl,sif (λz=>?_) (λz=>?_)⟩
 ·have hy:y≠0:=by simpa[eqV]using z
  exact⟨hy,_,_,rfl,_,GcdM.fmod_less hy,y,x.fmod y,rfl,(GcdM.g_turnF hy).trans e,rfl⟩
 ·have hy:y=0:=by simpa[eqV]using z
  subst hy
  rw[GcdM.g_abs x]at e
  refine⟨_,rfl,?_⟩
  rw[e]
  exact q
def rR:PSp:=λas R=>∃ns:List Int,as=[.va (.seq false (ns.map iT))]/\ns≠[]/\R (oX (dA ns))
theorem zAn{n0 d:Int}:∀{ns:List Int}{s:Int},d ∣ ns.foldl (λs n=>GcdM.g s (n-n0)) s↔d ∣ s/\∀n∈ns,d ∣ (n-n0)
 |[],s=>⟨λh=>⟨h,λn hn=>nomatch hn⟩,λh=>h.1⟩
 |a::ns,s=>by
  rw[qw1_,zAn,GcdM.g_dvd]
  constructor
  ·rintro⟨⟨h1,h2⟩,h3⟩
   refine⟨h1,λn hn=>?_⟩
   rcases qy_.mp hn with rfl|hn
   ·exact h2
   ·exact h3 n hn
  ·rintro⟨h1,h2⟩
   exact⟨⟨h1,h2 a (.head _)⟩,λn hn=>h2 n (.tail _ hn)⟩
theorem zA1{n0:Int}:∀{ns:List Int}{s:Int},0<=s->0<=ns.foldl (λs n=>GcdM.g s (n-n0)) s
 |[],s,h=>h
 |a::ns,s,h=>by rw[qw1_];exact zA1 (GcdM.g_nonneg _ _)
theorem C47_:bC ["_law_numbers","_law_step","_law_number_here"] ["_law_numbers"] (aN wT):=fsc (by decide +kernel)
theorem zLg(h:Has K mg "_law_run" wT)(B:Own mg)(G44_:PGood P w K mg base 1 "_law_divisor" ["_law_one","_law_other"] tZ)   : PGood P w K mg base 2 "_law_run" ["_law_numbers"] rR:=by
 have nd:=C47_.nd
 refine h.pgood C47_ (fun|_,_,_,_,_,_,[_],_=>rfl) (λf cdv A outer s H E F hr=>
   (aI (bA 1 nd aH)
   (aI (dN (m:=3) qD_ rfl (bU (aC 0)) (cW 2 (by decide) nd rfl (.inl rfl))
    (aJ (bA 1 nd (aL G44_ hr (aD (aC 1) (aD (bO lQ (aC 2) (aT hr (aC 0) aH)) aE))))))
   (aJ (aR (bX (aD (bB (hJ rfl) rfl B.min boot_min (aD (aC 0) aE)) (aD (bB (hX rfl) rfl B.max boot_max (aD (aC 0) aE)) (aD (aC 1) aE))))))))) (λas R q=>?_)
 obtain⟨ns,rfl,ne,q⟩:=q
 have l0:0<ns.length:=qO1_.mpr ne
 obtain⟨n0,hn0⟩:∃n0,ns[0]?=some n0:=⟨_,qk_ l0⟩
 have n0m:=qz_ hn0
 have at0:atI (ns.map iT) 0=some (iT n0):=bG (j:=0) (by rw[qv_,hn0];rfl)
 refine⟨rfl,?_⟩
 refine fS iT (l:=ns) (λi ρ=>∃s2:Sl,ρ=[.va (.seq false (ns.map iT)),.va (iT ((ns.take i).foldl (λs n=>GcdM.g s (n-n0)) 0)),s2]) ⟨.no,rfl⟩ ?_ ?_
 ·rintro i a _ N ha ⟨s2,rfl⟩ hN
  refine⟨_,at0,_,a-n0,rfl,hN _ ⟨.va (iT a),?_⟩⟩
  rw[qr1_,ha,qL2_]
  rfl
 ·rintro _ ⟨s2,rfl⟩
  rw[qd1_]
  refine .inr (.inl ⟨ns,rfl,l0,λlo lo1 lo2=>.inr (.inl ⟨ns,rfl,l0,λhi hi1 hi2=>⟨by simp,?_⟩⟩)⟩)
  have e:(lo,hi,ns.foldl (λs n=>GcdM.g s (n-n0)) 0)=dA ns:=uO ⟨lo1,lo2,hi1,hi2,zA1 (qV1_ 0),λd=>by
   show d ∣ ns.foldl (λs n=>GcdM.g s (n-n0)) 0↔∀n,n∈ns->d ∣ (n-lo)
   rw[zAn]
   constructor
   ·rintro⟨_,h⟩ n hn
    have:=qE1_ (h n hn) (h lo lo1)
    rwa[show n-n0-(lo-n0)=n-lo by omega]at this
   ·intro h
    refine⟨qz1_ _,λn hn=>?_⟩
    have:=qE1_ (h n hn) (h n0 n0m)
    rwa[show n-lo-(n0-lo)=n-n0 by omega]at this⟩
  rw[<-e]at q
  exact q
theorem tN{t h:Str}(e:stW t h=true):cs t=cs h++cs (aU t h)/\(aU t h).length+h.length=t.length:=by
 obtain⟨r,er⟩:=stW_iff.mp e
 have:=kC er
 refine⟨by rw[this];exact er,?_⟩
 have l:=congrArg List.length er
 rw[qh_,<-WordM.len,<-WordM.len]at l
 rw[WordM.len (aU t h),this]
 omega
theorem zB2:∀{ss:List Str}{m:Nat},(∀s∈ss,s.length<=m)->(cD ss).length<=ss.length*m
 |[],m,_=>by simp[cD]
 |s::ss,m,h=>by
  have h1:=h s (.head _)
  have h2:=zB2 (ss:=ss) (m:=m) λt ht=>h t (.tail _ ht)
  have e:(cD (s::ss)).length=s.length+(cD ss).length:=by simp[cD,Str.length]
  rw[e,qI_,Nat.succ_mul]
  omega
theorem zHy{ss:List Str}{s:Str}{c:Nat}(hs:s∈ss)(hc:c∈cs s):c∈cD ss:=by
 unfold cD
 exact qs1_.mpr ⟨s,hs,hc⟩
def nI:PSp:=λas R=>∃ss:List Str,as=[.va (.seq false (ss.map sT))]/\ss≠[]/\(∀s∈ss,Sg s/\s.length<=43)/\(aG ss).length<64/\R (bW (bP ss))
theorem C46_:bC ["_law_texts","_law_some","_law_head","_law_rests","_law_longs","_law_marks"] ["_law_texts"] (aN kP):=fsc (by decide +kernel)
theorem zLh(h:Has K mg "_law_words" kP)(B:Own mg)(G45_:PGood P w K mg base 1 "_law_mark" ["_law_sign"] wE)   : PGood P w K mg base 2 "_law_words" ["_law_texts"] nI:=by
 have nd:=C46_.nd
 refine h.pgood C46_ (fun|_,_,_,_,_,_,[_],_=>rfl) (λf cdv A outer s H E F hr=>
   (aI (bA 1 nd (bI (pI rfl rfl B.sorted rfl B.set_ (aC 0))))
   (aI (bF (dP rP (bB cA rfl B.len qn_ (aD (aC 1) aE)) aH)
    (aJ (aR (bX (aD aY (aD (fM fP rfl B.tuple_ boot_tuple (aD (aC 1) aE)) aE)))))
    bE)
   (aI (bA 2 nd (aT hr (aC 1) aH))
   (aI (mY qD_ (fY hr (bI (oH (sc:=aN kP) (XN:=["_law_texts","_law_some","_law_head","_law_rests","_law_longs","_law_marks"]) (N:=["_law_text_here","_law_head"]) (fr:=[2]) (bU (aC 1)) (λ_ _ _ _ _=>(hG (jQ (cS (rA PySem.F.slot_str_startswith PySem.F.type_str_startswith zEL (aC 0) (aD (aC 1) aE)))))) (λ_ _ _ _ _=>(aC 0)))) (bI (cF aE)))
    (aJ (bA 2 nd (fO fV (aC 2) fR (fQ (zCA zCg aH))))))
   (aI (eO (sc:=aN kP) (XN:=["_law_texts","_law_some","_law_head","_law_rests","_law_longs","_law_marks"]) (N:=["_law_text_here","_law_head"]) (fr:=[2]) 3 nd (bU (aC 1)) (λ_ _ _ _ _=>gI) (λ_ _ _ _ _=>(fO fV (aC 0) (fQ (bB cA rfl B.len qn_ (aD (aC 1) aE))) fR)))
   (aI (eO (sc:=aN kP) (XN:=["_law_texts","_law_some","_law_head","_law_rests","_law_longs","_law_marks"]) (N:=["_law_rest"]) (fr:=[]) 4 nd (bU (aC 3)) (λ_ _ _ _ _=>gI) (λ_ _ _ _ _=>(bB cA rfl B.len qn_ (aD (aC 0) aE))))
   (aI (bA 5 nd (bI (pI rfl rfl B.sorted rfl B.set_ (bI (iC (sc:=aN kP) (XN:=["_law_texts","_law_some","_law_head","_law_rests","_law_longs","_law_marks"]) (N:=["_law_sign"]) (fr:=[]) (bU (rA PySem.F.slot_str_join PySem.F.type_str_join zBA aY (aD (aC 3) aE))) (λ_ _ _ _ _=>(aL G45_ hr (aD (aC 0) aE))))))))
   (aJ (aR (bX (aD aY (aD (aC 2) (aD (bB (hJ rfl) rfl B.min boot_min (aD (aC 4) aE)) (aD (bB (hX rfl) rfl B.max boot_max (aD (aC 4) aE)) (aD (fM fP rfl B.tuple_ boot_tuple (aD (aC 5) aE)) aE)))))))))))))))) (λas R q=>?_)
 obtain⟨ss,rfl,ne,ht,l64,q⟩:=q
 have hl:(aV (aG ss)).length=(aG ss).length:=tU _
 have hr:=gD ss
 have hm:∀x,x∈aV (aG ss)↔x∈ss:=λx=>sort_set_mem
 have hne:0<(aG ss).length:=by
  obtain⟨x,hx⟩:=qF1_ _ ne
  exact List.length_pos_of_mem ((cM ss x).mpr hx)
 have ewd:bP ss=if (aG ss).length<7 then .few (aV (aG ss)) else eS ss:=rfl
 refine⟨rfl,ss,rfl,l64,?_⟩
 generalize aV (aG ss)=us at hl hr hm ewd
 have hu:∀t∈us,Sg t/\t.length<=43:=λt h=>ht t ((hm t).mp h)
 refine⟨_,rfl,sif (λz=>?_) (λz=>?_)⟩
 ·have z:((us.map sT).length:Int)<7:=by simpa using z
  rw[qc_]at z
  rw[ewd,if_pos (by omega)]at q
  exact⟨_,_,rfl,by simp,q⟩
 have z:¬ ((us.map sT).length:Int)<7:=by simpa using z
 rw[qc_]at z
 have nd:us.Nodup:=kW hr
 obtain⟨x0,hx0⟩:∃x0,us[0]?=some x0:=⟨_,qk_ (by omega)⟩
 have at0:atI (us.map sT) 0=some (sT x0):=bG (j:=0) (by rw[qv_,hx0];rfl)
 have x0m:=qz_ hx0
 refine⟨_,at0,?_⟩
 refine⟨λm ρ=>∃(h:Str) (s3 s4 s5:Sl),m=h.length/\Sg h/\h.length<=43/\((∃r,cs x0=cs h++r)/\∀h':List Nat,(∀t∈us,∃r,cs t=h'++r)->h'.length<=(cs h).length)/\ρ=[.va (.seq false (ss.map sT)),.va (.seq false (us.map sT)),.va (sT h),s3,s4,s5],⟨_,x0,_,_,_,rfl,(hu x0 x0m).1,(hu x0 x0m).2,⟨⟨[],by rw[qN_]⟩,λh' hh=>by obtain⟨r,e⟩:=hh x0 x0m;rw[e,qh_];omega⟩,rfl⟩,?_⟩
 rintro m _ ⟨h,s3,s4,s5,rfl,sh,lh,⟨hpre,htop⟩,rfl⟩
 refine⟨by rw[qc_];omega,?_⟩
 refine jZ sT (λt=>if stW t h=true then none else some (sT t)) (λt ht' R q=>⟨rfl,_,_,rfl,rfl,_,rfl,sif (λz=>?_) (λz=>?_)⟩) ?_
 ·have z:(!stW t h)=true:=z
  have z:stW t h=false:=by cases e:stW t h with|false=>rfl|true=>rw[e]at z;cases z
  rw[if_neg (by rw[z];exact ql_)]at q
  exact q
 ·have z:(!stW t h)=false:=z
  have z:stW t h=true:=by cases e:stW t h with|true=>rfl|false=>rw[e]at z;cases z
  rw[if_pos z]at q
  exact q
 refine⟨by simp,.inr (.inl rfl),_,rfl,sif (λz=>?_) (λz=>?_)⟩
 ·have hpos:0<h.length:=by
   refine Nat.pos_of_ne_zero λe=>?_
   have:(us.filterMap λt=>if stW t h=true then none else some (sT t))=[]:=qb2_.mpr λt _=>by
    rw[if_pos]
    refine stW_iff.mpr ⟨cs t,?_⟩
    rw[WordM.len]at e
    rw[qM1_ e];rfl
   rw[this]at z
   simp[cO]at z
  have l':=zDp hpos
  have cl':=yX hpos
  have hlen:h.length=(cs h).length:=WordM.len h
  have nst:¬ ∀t∈us,stW t h=true:=λhall=>by
   have:(us.filterMap λt=>if stW t h=true then none else some (sT t))=[]:=qb2_.mpr λt ht'=>by rw[if_pos (hall t ht')]
   rw[this]at z
   simp[cO]at z
  refine⟨_,rfl,by omega,_,by rw[l'];omega,Txt.slice h none (some (-1)),_,_,_,rfl,sh.slice _ _,by rw[l'];omega,⟨?_,λh' hh=>?_⟩,rfl⟩
  ·obtain⟨r,e⟩:=hpre
   refine⟨(cs h).drop (h.length-1)++r,?_⟩
   rw[cl',<-qA1_,qD2_]
   exact e
  ·rw[cl',qO_]
   have h1:=htop h' hh
   have:h'.length≠(cs h).length:=λe=>nst λt ht'=>by
    obtain⟨r1,e1⟩:=hpre
    obtain⟨r2,e2⟩:=hh x0 x0m
    have eh:h'=cs h:=List.append_inj_left (e2.symm.trans e1) e
    obtain⟨r,e3⟩:=hh t ht'
    exact stW_iff.mpr ⟨r,by rw[e3,eh]⟩
   omega
 have hall:∀t∈us,stW t h=true:=by
  have:(us.filterMap λt=>if stW t h=true then none else some (sT t))=[]:=by
   generalize (us.filterMap λt=>if stW t h=true then none else some (sT t))=L at z
   cases L with
   |nil=>rfl
   |cons a L=>simp[cO]at z
  intro t ht'
  have:=qb2_.mp this t ht'
  cases e:stW t h with
  |true=>rfl
  |false=>rw[e]at this;simp at this
 have rl:∀t∈us,(aU t h).length<=43:=λt ht'=>by
  have:=(tN (hall t ht')).2
  have:=(hu t ht').2
  omega
 refine⟨by rw[qc_];omega,dY sT (λt=>sT (aU t h)) (λt ht' R q=>⟨by omega,_,rfl,by have:=(hu t ht').2;omega,q⟩) ?_⟩
 refine⟨by rw[qc_];omega,dY (λt=>sT (aU t h)) (λt=>iT ((aU t h).length:Nat)) (λt ht' R q=>⟨by have:=rl t ht';omega,q⟩) ?_⟩
 have cl:(cD (us.map λt=>aU t h)).length<=64*43:=by
  have:=zB2 (ss:=us.map λt=>aU t h) (m:=43) λs hs=>by
   obtain⟨t,ht',rfl⟩:=qg_.mp hs
   exact rl t ht'
  rw[qc_]at this
  have:=qP1_ 43 (show us.length<=64 by omega)
  omega
 refine⟨rfl,us.map λt=>aU t h,rfl,by rw[qA_];rfl,by omega,?_⟩
 refine⟨by rw[qc_];show(cD (us.map λt=>aU t h)).length<=100000;omega,?_⟩
 refine dY (λc:Nat=>sT ⟨#[c]⟩) (λc=>sT (eP c)) (λc hc R q=>⟨c,rfl,q⟩) ?_
 have mkm:∀m∈(cD (us.map λt=>aU t h)).map eP,m∈MK:=λm hm=>by
  obtain⟨c,_,rfl⟩:=qg_.mp hm
  exact WordM.mark_in c
 have sl4:(aG ((cD (us.map λt=>aU t h)).map eP)).length<=4:=WordM.nodup_len (cZ _) (m:=MK) λx hx=>mkm x ((cM _ x).mp hx)
 refine⟨(cD (us.map λt=>aU t h)).map eP,by rw[qA_];rfl,by omega,?_⟩
 have en:(us.map λt=>iT ((aU t h).length:Nat))=(us.map λt=>(((aU t h).length:Nat):Int)).map iT:=by rw[qA_];rfl
 refine .inr (.inl ⟨us.map λt=>(((aU t h).length:Nat):Int),by rw[<-en],by rw[qc_];omega,λlo lo1 lo2=>.inr (.inl ⟨us.map λt=>(((aU t h).length:Nat):Int),by rw[<-en],by rw[qc_];omega,λhi hi1 hi2=>⟨_,_,rfl,by simp,?_⟩⟩)⟩)
 have rf:∀t∈us,(t.length:Int)-(h.length:Int)=((aU t h).length:Nat):=λt ht'=>by have:=(tN (hall t ht')).2;omega
 have mo:MOf us h lo hi (aV (aG ((cD (us.map λt=>aU t h)).map eP))):=by
  obtain⟨t1,t1m,e1⟩:=qg_.mp lo1
  obtain⟨t2,t2m,e2⟩:=qg_.mp hi1
  refine⟨⟨λt ht'=>⟨_,(tN (hall t ht')).1⟩,htop⟩,⟨t1,t1m,by rw[rf t1 t1m];exact e1⟩,λt ht'=>by rw[rf t ht'];exact lo2 _ (qg_.mpr ⟨t,ht',rfl⟩),⟨t2,t2m,by rw[rf t2 t2m];exact e2⟩,λt ht'=>by rw[rf t ht'];exact hi2 _ (qg_.mpr ⟨t,ht',rfl⟩),?_⟩
  refine mV (gD _) (pG _ _) λm=>?_
  rw[sort_set_mem,mR,qg_]
  constructor
  ·rintro⟨c,hc,e⟩
   obtain⟨x,hx,hc⟩:=qs1_.mp (show c∈(us.map λt=>aU t h).flatMap cs from hc)
   obtain⟨t,ht',rfl⟩:=qg_.mp hx
   exact⟨t,ht',c,hc,e⟩
  ·rintro⟨t,ht',c,hc,e⟩
   exact⟨c,zHy (qg_.mpr ⟨t,ht',rfl⟩) hc,e⟩
 rw[ewd,if_neg (by omega),vN (us:=us) ne λx=>(hm x).symm,<-qR mo]at q
 exact q
end
end My
namespace My
open PySem L2 PyProof.Rows WordM
section
variable{P:Program}{w:World}{K:W.Frag}{mg:Str->Option Value}{base:Heap}
abbrev jB(k:List (Str×Tv)):List Str:=k.map (·.1)
def cY(ks:List (List (Str×Tv))):List Str:=ks.flatMap jB
theorem allK_mem{ks:List (List (Str×Tv))}{x:Str}:x∈cY ks↔∃k∈ks,x∈jB k:=qs1_
theorem zHu{a b:Nat}:(false != eqV (.int (a:Nat)) (.int (b:Nat)))=true↔a=b:=by
 constructor
 ·intro z
  have:(a:Int)=(b:Int):=by simpa[eqV]using z
  omega
 ·intro e
  subst e
  simp[eqV]
theorem zCs{α β:Type}{g:α->Option β}:∀{ks:List α},(ks.filterMap g).length=ks.length↔∀k∈ks,(g k).isSome=true
 |[]=>by simp
 |k::ks=>by
  have ih:=zCs (g:=g) (ks:=ks)
  have le:=qq2_ g ks
  rw[qK_]
  cases e:g k with
  |none=>
   simp only[List.length_cons,List.forall_mem_cons,e]
   constructor
   ·intro h;omega
   ·intro h;exact absurd h.1 (by simp)
  |some v=>
   simp only[List.length_cons,List.forall_mem_cons,e,Option.isSome_some,true_and]
   rw[<-ih];omega
theorem look_some{k:List (Str×Tv)}{x:Str}:(bY k x).isSome=true↔x∈jB k:=by
 cases e:bY k x with
 |none=>exact⟨λh=>(nomatch h),λh=>absurd h (lookD_none.mp e)⟩
 |some U=>exact⟨λ_=>qg_.mpr ⟨_,uG e,rfl⟩,λ_=>rfl⟩
theorem zBg{ks:List (List (Str×Tv))}(h:∀k∈ks,k.length<=11)(i:Nat):(cY (ks.take i)).length<=ks.length*11:=by
 have h1:∀l:List (List (Str×Tv)),(∀k∈l,k.length<=11)->(cY l).length<=l.length*11:=λl=>by
  induction l with
  |nil=>intro _;simp[cY]
  |cons k l ih=>
   intro hk
   have a:=hk k (.head _)
   have b:=ih λx hx=>hk x (.tail _ hx)
   show(jB k++cY l).length<=_
   rw[qh_,qc_,qI_]
   omega
 have:=h1 (ks.take i) λk hk=>h k (qc2_ hk)
 rw[qO_]at this
 have:min i ks.length*11<=ks.length*11:=qP1_ _ (qa3_ _ _)
 omega
def iB(ks:List (List (Str×Tv))):List Tv:=ks.flatMap λk=>k.map (·.2)
theorem zR{ks:List (List (Str×Tv))}(h:∀k∈ks,k.length<=11)(i:Nat):(iB (ks.take i)).length<=ks.length*11:=by
 have e:∀l:List (List (Str×Tv)),(iB l).length=(cY l).length:=λl=>by
  induction l with
  |nil=>rfl
  |cons k l ih=>
   show(k.map (·.2)++iB l).length=(jB k++cY l).length
   rw[qh_,qh_,ih,qc_,qc_]
 rw[e];exact zBg h i
theorem zAy{ks:List (List (Str×Tv))}{i:Nat}{k:List (Str×Tv)}(h:ks[i]?=some k):cY (ks.take (i+1))=cY (ks.take i)++jB k:=by
 obtain⟨hi,rfl⟩:=qw_.mp h
 unfold cY
 rw[qR2_ hi,qW2_]
 simp
theorem yW{ks:List (List (Str×Tv))}{i:Nat}{k:List (Str×Tv)}(h:ks[i]?=some k):iB (ks.take (i+1))=iB (ks.take i)++k.map (·.2):=by
 obtain⟨hi,rfl⟩:=qw_.mp h
 unfold iB
 rw[qR2_ hi,qW2_]
 simp
def lZ(m:Nat):PSp:=λas R=>∃(n:Nat) (nm tx:List Str) (st sp:Int) (vs:List Tv),as=[.va (.seq false vs)]/\hE nm tx st sp/\(∀v∈vs,VD nm tx n v)/\vs.length*11 ^ n<=1100000/\n<m/\n<=50/\R (bS (bD n vs))
def zBv(m:Nat):PSp:=λas R=>∃(n:Nat) (nm tx:List Str) (st sp:Int) (ks:List (List (Str×Tv))),as=[.va (.seq false (ks.map Tv.dct))]/\hE nm tx st sp/\(∀k∈ks,VD nm tx (n+1) (.dct k))/\ks≠[]/\ks.length*11 ^ (n+1)<=1100000/\n<m/\n<=50/\R (aX (dcP (bD n) ks))
variable{m:Nat}
theorem C48_:bC ["_law_dicts_here","_law_names","_law_one","_law_least","_law_most","_law_values","_law_fields","_law_name"] ["_law_dicts_here"] (aN kO):=fsc (by decide +kernel)
theorem zLf(h:Has K mg "_law_dicts" kO)(B:Own mg)(G49_:PGood P w K mg base (3+2*m) "_law_due" ["_law_values"] (lZ m))(G46_:PGood P w K mg base 2 "_law_words" ["_law_texts"] nI)   : PGood P w K mg base (3+2*m+1) "_law_dicts" ["_law_dicts_here"] (zBv m):=by
 have nd:=C48_.nd
 refine h.pgood C48_ (fun|_,_,_,_,_,_,[_],_=>rfl) (λf cdv A outer s H E F hr=>
   (aI (fW 1 nd (cF aE))
   (aI (dN (m:=8) qD_ rfl (bU (aC 0)) (cW 2 (by decide) nd rfl (.inl rfl))
    (aJ (eI (tT 1 (bI (mT (zFK rfl) rfl B.list_ boot_list (aD (aC 2) aE)))))))
   (aI (fW 1 nd (pI rfl rfl B.sorted rfl B.set_ (aC 1)))
   (aI (bA 3 nd (bB (hJ rfl) rfl B.min boot_min (aD (bI (iC (sc:=aN kO) (XN:=["_law_dicts_here","_law_names","_law_one","_law_least","_law_most","_law_values","_law_fields","_law_name"]) (N:=["_law_one"]) (fr:=[]) (bU (aC 0)) (λ_ _ _ _ _=>(bB cA rfl B.len qn_ (aD (aC 0) aE))))) aE)))
   (aI (bA 4 nd (bB (hX rfl) rfl B.max boot_max (aD (bI (iC (sc:=aN kO) (XN:=["_law_dicts_here","_law_names","_law_one","_law_least","_law_most","_law_values","_law_fields","_law_name"]) (N:=["_law_one"]) (fr:=[]) (bU (aC 0)) (λ_ _ _ _ _=>(bB cA rfl B.len qn_ (aD (aC 0) aE))))) aE)))
   (aI (bF (dP zCG (qM λF=>(bB cA rfl B.len qn_ (aD (aC 1) aE))) aH)
    (aI (fW 5 nd (cF aE))
    (aI (dN (m:=8) qD_ rfl (bU (aC 0)) (cW 2 (by decide) nd rfl (.inl rfl))
     (aJ (eI (tT 5 (bI (zFx rfl rfl B.list_ (aC 2)))))))
    (aJ (aR (bX (aD aY (aD (aC 3) (aD (aC 4) (aD (aL G46_ hr (aD (aC 1) aE)) (aD (aL G49_ hr (aD (aC 5) aE)) aE))))))))))
    bE)
   (aI (fW 6 nd (cF aE))
   (aI (dN (m:=8) qD_ rfl (bU (aC 1)) (cW 7 (by decide) nd rfl (.inr rfl))
    (aI (zGz (i:=5) (sc:=aN kO) (XN:=["_law_dicts_here","_law_names","_law_one","_law_least","_law_most","_law_values","_law_fields","_law_name"]) (N:=["_law_one","_law_name"]) (own:=1) (fr:=[7]) rfl nd rfl (.inl rfl) ⟨rfl,by decide +kernel,by decide +kernel,by decide +kernel,rfl,by decide +kernel,by decide,by decide +kernel⟩ (by decide) (bU (aC 0)) (λ_ _ _ _ _=>(cW 0 (by decide) (show(["_law_one","_law_name"]:List Str).Nodup by decide +kernel) rfl (by first|exact Or.inl rfl|exact Or.inr rfl))) (λ_ _ _ _ _=>(hG (dP (lY hr.units) (aC 1) (aC 0) rfl))) (λ_ _ _ _ _=>(aT hr (aC 0) (aC 1))))
    (aJ (eI (fN 6 (bX (aD (aC 7) (aD (gO (kL hr.units).op (qM λF=>(bB cA rfl B.len qn_ (aD (aC 5) aE))) (bB cA rfl B.len qn_ (aD (aC 0) aE))) (aD (aL G49_ hr (aD (aC 5) aE)) aE)))))))))
   (aJ (aR (bX (aD aY (aD (aC 3) (aD (aC 4) (aD (fM fP rfl B.tuple_ boot_tuple (aD (aC 6) aE)) aE)))))))))))))))) (λas R q=>?_)
 obtain⟨n,nm,tx,st,sp,ks,rfl,hw,hk,kne,hl,nm',n50,q⟩:=q
 have knd:∀k∈ks,(jB k).Nodup:=λk h=>(hk k h).1
 have k11:∀k∈ks,k.length<=11:=λk h=>(hk k h).2.1
 have knm:∀k∈ks,∀x∈jB k,x∈nm:=λk h x hx=>by
  obtain⟨kt,hkt,rfl⟩:=qg_.mp hx
  exact((hk k h).2.2 kt hkt).1
 have p1:1<=11 ^ n:=qF2_ _ _ (by decide)
 have hl2:ks.length*11*11 ^ n<=1100000:=by rw[qo2_]at hl;rw[qG2_,qx1_ 11];exact hl
 have hl3:ks.length<=100000:=by
  have:=qi_ (qY2_ (ks.length*11) p1) hl2
  omega
 have kb:∀j,(cY (ks.take j)).length<=100000/\(iB (ks.take j)).length<=100000:=λj=>by
  have a:=zBg k11 j
  have b:=zR k11 j
  cases n with
  |zero=>
   have z:∀k∈ks.take j,k=[]:=λk h=>qY1_.mpr λkt hkt=>((hk k (qc2_ h)).2.2 kt hkt).2
   have e1:cY (ks.take j)=[]:=List.flatMap_eq_nil_iff.mpr λk h=>by rw[z k h];rfl
   have e2:iB (ks.take j)=[]:=List.flatMap_eq_nil_iff.mpr λk h=>by rw[z k h];rfl
   rw[e1,e2]
   exact⟨qu_ _,qu_ _⟩
  |succ n=>
   have p2:1<=11 ^ n:=qF2_ _ _ (by decide)
   have:ks.length*11*11<=1100000:=by
    refine qi_ (qY2_ _ p2) ?_
    rw[qG2_ (ks.length*11),qx1_ 11 (11 ^ n),<-qo2_]
    exact hl2
   omega
 have kpos:0<ks.length:=qO1_.mpr kne
 refine⟨rfl,by simp,?_⟩
 refine fS Tv.dct (l:=ks) (λi ρ=>∃s2,ρ=[.va (.seq false (ks.map Tv.dct)),.own ((cY (ks.take i)).map sT),s2,.no,.no,.no,.no,.no]) ⟨_,rfl⟩ ?_ ?_
 ·rintro i k _ N hki ⟨s2,rfl⟩ hN
  have l1:=(kb (i+1)).1
  rw[zAy hki,qh_,qc_]at l1
  refine⟨⟨_,rfl⟩,k,rfl,_,_,rfl,rfl,by rw[qc_,qc_];omega,hN _ ⟨.va (.dct k),?_⟩⟩
  show [Sl.va (.seq false (ks.map Tv.dct)),.own ((cY (ks.take i)).map sT++k.map λkt=>sT kt.1),.va (.dct k),.no,.no,.no,.no,.no]=_
  rw[zAy hki,qG_,qA_]
  rfl
 rintro _ ⟨s2,rfl⟩
 rw[qd1_]
 have sl:(aG (cY ks)).length<=11:=by
  have:=WordM.nodup_len (cZ (cY ks)) (m:=nm) λx hx=>by
   obtain⟨k,h1,h2⟩:=allK_mem.mp ((cM _ x).mp hx)
   exact knm k h1 x h2
  rw[hw.n11]at this
  exact this
 refine⟨cY ks,rfl,by omega,?_⟩
 have hr:=gD (cY ks)
 have hm:∀x,x∈aV (aG (cY ks))↔∃k∈ks,x∈jB k:=λx=>sort_set_mem.trans allK_mem
 have nl:(aV (aG (cY ks))).length<=11:=by rw[tU];exact sl
 have enm:∀x,x∈aV (aG (cY ks))↔x∈aO ks:=λx=>sort_set_mem
 have slm:(aV (aG (cY ks))).length=(aG (aO ks)).length:=tU _
 have erc:bQ (bD n) ks=(aV (aG (cY ks))).map (cX (bD n) ks):=rfl
 generalize aV (aG (cY ks))=names at hr hm nl enm slm erc
 have nn:∀x∈names,Sg x/\x.length<=40:=λx hx=>by
  obtain⟨k,h1,h2⟩:=(hm x).mp hx
  exact hw.ns x (knm k h1 x h2)
 have lens:(ks.map λk=>iT (k.length:Nat))=(ks.map λk=>((k.length:Nat):Int)).map iT:=by rw[qA_];rfl
 refine⟨by rw[qc_];omega,dY Tv.dct (λk=>iT (k.length:Nat)) (λk hk R q=>q) ?_⟩
 refine .inr (.inl ⟨ks.map λk=>((k.length:Nat):Int),by rw[lens],by rw[qc_];exact kpos,λa a1 a2=>?_⟩)
 refine⟨by rw[qc_];omega,dY Tv.dct (λk=>iT (k.length:Nat)) (λk hk R q=>q) ?_⟩
 refine .inr (.inl ⟨ks.map λk=>((k.length:Nat):Int),by rw[lens],by rw[qc_];exact kpos,λb b1 b2=>?_⟩)
 have ea:bM (bJ ks)=a:=nJ a1 a2
 have eb:bR (bJ ks)=b:=nL b1 b2
 refine⟨_,rfl,_,rfl,sif (λz=>?_) (λz=>?_)⟩
 ·have z:(8:Int)<((names.map sT).length:Nat):=by simpa using z
  rw[qc_]at z
  refine⟨by simp,?_⟩
  refine fS Tv.dct (l:=ks) (λi ρ=>∃s2,ρ=[.va (.seq false (ks.map Tv.dct)),.own (names.map sT),s2,.va (iT a),.va (iT b),.own (iB (ks.take i)),.no,.no]) ⟨_,rfl⟩ ?_ ?_
  ·rintro i k _ N hki ⟨s2,rfl⟩ hN
   have l1:=(kb (i+1)).2
   rw[yW hki,qh_,qc_]at l1
   refine⟨⟨_,rfl⟩,k,rfl,_,_,rfl,rfl,by rw[qc_];omega,hN _ ⟨.va (.dct k),?_⟩⟩
   rw[yW hki]
   rfl
  rintro _ ⟨s2,rfl⟩
  rw[qd1_]
  have vl:=zR k11 ks.length
  rw[qd1_]at vl
  have snd:(aG names).length=names.length:=by
   have h1:=WordM.nodup_len (cZ names) (m:=names) λx hx=>(cM _ x).mp hx
   have h2:=WordM.nodup_len (kW hr) (m:=aG names) λx hx=>(cM _ x).mpr hx
   omega
  refine⟨names,rfl,λe=>by rw[e]at z;simp at z,λx hx=>⟨(nn x hx).1,by have:=(nn x hx).2;omega⟩,by omega,?_⟩
  rw[gL (by omega),ea,eb,<-kZ enm,fL]at q
  refine⟨n,nm,tx,st,sp,iB ks,rfl,hw,λv hv=>?_,?_,nm',n50,by simp,q⟩
  ·obtain⟨k,h1,h2⟩:=qs1_.mp hv
   obtain⟨kt,h3,rfl⟩:=qg_.mp h2
   exact((hk k h1).2.2 kt h3).2
  ·exact qi_ (qP1_ _ vl) hl2
 ·have z:¬ (8:Int)<((names.map sT).length:Nat):=by simpa using z
  rw[qc_]at z
  refine⟨by simp,?_⟩
  refine fS sT (l:=names) (λi ρ=>∃(s2 s5 s7:Sl),ρ=[.va (.seq false (ks.map Tv.dct)),.va (.seq false (names.map sT)),s2,.va (iT a),.va (iT b),s5,.own (((names.take i).map (cX (bD n) ks)).map cE),s7]) ⟨_,_,_,rfl⟩ ?_ ?_
  ·rintro i x _ N hx ⟨s2,s5,s7,rfl⟩ hN
   have xm:=qz_ hx
   refine⟨by rw[qc_];omega,?_⟩
   refine jZ Tv.dct (λk=>bY k x) (λk hk R q=>⟨_,rfl,sif (λz=>?_) (λz=>?_)⟩) ?_
   ·cases e:bY k x with
    |none=>rw[e]at z;cases z
    |some U=>rw[e]at q;exact⟨U,e,q⟩
   ·cases e:bY k x with
    |none=>rw[e]at q;exact q
    |some U=>rw[e]at z;cases z
   have vle:=qq2_ (λk=>bY k x) ks
   refine⟨⟨_,rfl⟩,_,rfl,n,nm,tx,st,sp,ks.filterMap (λk=>bY k x),rfl,hw,λv hv=>?_,?_,nm',n50,by simp,_,rfl,?_,?_⟩
   ·obtain⟨k,h1,h2⟩:=qc1_.mp hv
    exact((hk k h1).2.2 _ (uG h2)).2
   ·refine qi_ (qP1_ _ vle) (qi_ ?_ hl2)
    exact qP1_ _ (by omega)
   ·rw[qc_,qc_,qO_]
    omega
   ·refine hN _ ⟨s2,.va (.seq false (ks.filterMap λk=>bY k x)),.va (sT x),?_⟩
    rw[qr1_,hx,qG_,qG_]
    have eb:(false != eqV (.int ((ks.filterMap λk=>bY k x).length:Nat)) (.int ((ks.map Tv.dct).length:Nat)))=ks.all (λk=>decide (x∈k.map (·.1))):=by
     rw[qy1_,qc_,zHu,zCs,qK1_]
     exact⟨λh k hk=>qS_ (look_some.mp (h k hk)),λh k hk=>look_some.mpr (qe1_ (h k hk))⟩
    rw[eb]
    rfl
  ·rintro _ ⟨s2,s5,s7,rfl⟩
   rw[qd1_]
   rw[gM (by omega),ea,eb,eK,erc]at q
   exact⟨_,_,rfl,by simp,q⟩
end
end My
namespace My
open PySem L2 PyProof.Rows WordM
section
variable{P:Program}{w:World}{K:W.Frag}{mg:Str->Option Value}{base:Heap}
variable{m:Nat}
theorem lI{b:Bool}{A:UTs}{P:PEnds}{ρ:aQ}{α:Type}{J:α->Prop}(e:α->aQ)(h1:b=true->(∀x,J x->P.nx (e x))->A P ρ)(h2:b=false->∃x,J x/\e x=ρ)(rest:∀x,J x->P.nx (e x)):if b=true then A P ρ else sH P ρ:=by
 cases b with
 |true=>exact cB (h1 rfl rest)
 |false=>
  obtain⟨x,hx,rfl⟩:=h2 rfl
  exact aW (rest x hx)
theorem mO{N:aQ->Prop}{ρ ρ':aQ}(h:N ρ')(e:ρ=ρ'):N ρ:=e▸h
def sel(k:Nat)(l:List Tv):List Tv:=l.filterMap λv=>bif dI v==k then some v else none
theorem sel_mem{k:Nat}{l:List Tv}{v:Tv}:v∈sel k l↔v∈l/\dI v=k:=by
 unfold sel
 rw[qc1_]
 constructor
 ·rintro⟨a,ha,e⟩
  cases c:dI a==k with
  |true=>rw[c]at e;cases e;exact⟨ha,by simpa using c⟩
  |false=>rw[c]at e;cases e
 ·rintro⟨h,e⟩
  exact⟨v,h,by rw[e];simp⟩
theorem vH(k:Nat)(l:List Tv):(sel k l).length<=l.length:=qq2_ _ _
theorem VD.six{nm tx:List Str}{n:Nat}{v:Tv}(h:VD nm tx n v):v=nT\/(∃b,v=bT b)\/(∃i,v=iT i)\/(∃s,v=sT s)\/(∃xs,v=.seq false xs)\/∃k,v=.dct k:=by
 cases n with
 |zero=>exact False.elim h
 |succ n=>
  cases v with
  |leaf v=>cases v with
   |non=>exact .inl rfl
   |bl b=>exact .inr (.inl ⟨b,rfl⟩)
   |int i=>exact .inr (.inr (.inl ⟨i,rfl⟩))
   |str s=>exact .inr (.inr (.inr (.inl ⟨s,rfl⟩)))
   |_=>exact False.elim h
  |seq t xs=>cases t with
   |false=>exact .inr (.inr (.inr (.inr (.inl ⟨xs,rfl⟩))))
   |true=>exact False.elim h
  |dct k=>exact .inr (.inr (.inr (.inr (.inr ⟨k,rfl⟩))))
def Stg(n:Nat)(vs:List Tv)(c:Nat)(f:List Pt):Prop:=f=(kN6.take c).filterMap (bH (bD (n-1)) vs)
theorem Stg.nil(n:Nat)(vs:List Tv):Stg n vs 0 []:=rfl
theorem zI8{c:Nat}(h:c<6):kN6[c]?=some c:=by
 have:c=0\/c=1\/c=2\/c=3\/c=4\/c=5:=by omega
 rcases this with rfl|rfl|rfl|rfl|rfl|rfl<;>rfl
theorem Stg.next{n c:Nat}{vs:List Tv}{f:List Pt}(h:Stg n vs c f)(hc:c<6):(kN6.take (c+1)).filterMap (bH (bD (n-1)) vs)=f++(bH (bD (n-1)) vs c).toList:=by
 rw[qr1_,qL_,zI8 hc,<-(show f=_ from h)]
 cases e:bH (bD (n-1)) vs c<;>simp[e]
theorem Stg.skip{n c:Nat}{vs:List Tv}{f:List Pt}(h:Stg n vs c f)(hc:c<6)(e:bH (bD (n-1)) vs c=none):Stg n vs (c+1) f:=by
 show f=_
 rw[h.next hc,e];simp
theorem Stg.add{n c:Nat}{vs:List Tv}{f:List Pt}{p:Pt}(h:Stg n vs c f)(hc:c<6)(e:bH (bD (n-1)) vs c=some p):Stg n vs (c+1) (f++[p]):=by
 show f++[p]=_
 rw[h.next hc,e];simp
theorem Stg.len{n c:Nat}{vs:List Tv}{f:List Pt}(h:Stg n vs c f):f.length<=6:=by
 rw[show f=_ from h]
 exact qi_ (qq2_ _ _) (by rw[qO_];exact qa3_ _ _)
theorem Stg.form{n:Nat}{vs:List Tv}{f:List Pt}(h:Stg n vs 6 f)(hn:n=0->vs=[]):f=bD n vs:=by
 have h:f=kN6.filterMap (bH (bD (n-1)) vs):=h
 cases n with
 |zero=>
  rw[h,hn rfl,qb2_.mpr λk _=>vA _ k]
  rfl
 |succ n=>exact h
theorem nW{α:Type}{f:Tv->Option α}{c:α->Tv}{k:Nat}{vs:List Tv}(h:∀v∈vs,(bif dI v==k then some v else none)=(f v).map c):sel k vs=(vs.filterMap f).map c:=by
 unfold sel
 induction vs with
 |nil=>rfl
 |cons v vs ih=>
  rw[qK_,qK_,h v (.head _),ih λx hx=>h x (.tail _ hx)]
  cases f v<;>rfl
theorem has0{vs:List Tv}:(vs.filterMap λv=>bif dI v==0 then some (iT 1) else none)=[]↔dC vs=false:=by
 unfold dC
 rw[qb2_,List.any_eq_false]
 constructor
 ·intro h v hv z
  have:=h v hv
  rw[z]at this
  cases this
 ·intro h v hv
  have:=h v hv
  cases c:dI v==0 with
  |true=>exact absurd c this
  |false=>rfl
theorem neNil{L:List Tv}:(true != (true&&cO L []))=true↔L≠[]:=by
 cases L with
 |nil=>simp[cO]
 |cons a L=>simp[cO]
theorem mC{L:List Tv}(z:(true != (false==false&&cO L []))=false):L=[]:=by
 cases L with
 |nil=>rfl
 |cons a L=>simp[cO]at z
theorem C49_:bC ["_law_values","_law_form","_law_truths","_law_numbers","_law_texts","_law_lists","_law_longs","_law_items","_law_row","_law_dicts_here"] ["_law_values"] (aN gS):=fsc (by decide +kernel)
theorem zLe(h:Has K mg "_law_due" gS)(B:Own mg)(G47_:PGood P w K mg base 2 "_law_run" ["_law_numbers"] rR)(G46_:PGood P w K mg base 2 "_law_words" ["_law_texts"] nI)(G49_:PGood P w K mg base (3+2*m) "_law_due" ["_law_values"] (lZ m))(G48_:PGood P w K mg base (3+2*m+1) "_law_dicts" ["_law_dicts_here"] (zBv m))   : PGood P w K mg base (3+2*m+2) "_law_due" ["_law_values"] (lZ (m+1)):=by
 have nd:=C49_.nd
 refine h.pgood C49_ (fun|_,_,_,_,_,_,[_],_=>rfl) (λf cdv A outer s H E F hr=>
   (aI (fW 1 nd (cF aE))
   (aI (bF (fY hr (bI (oH (sc:=aN gS) (XN:=["_law_values","_law_form","_law_truths","_law_numbers","_law_texts","_law_lists","_law_longs","_law_items","_law_row","_law_dicts_here"]) (N:=["_law_value_here"]) (fr:=[]) (bU (aC 0)) (λ_ _ _ _ _=>(hG (dP lX (aC 0) iS))) (λ_ _ _ _ _=>aH))) (bI (cF aE)))
    (aJ (eI (fN 1 (bX (aD aY aE)))))
    bE)
   (aI (bA 2 nd (bI (zDJ rfl rfl B.sorted rfl B.set_ (bI (oH (sc:=aN gS) (XN:=["_law_values","_law_form","_law_truths","_law_numbers","_law_texts","_law_lists","_law_longs","_law_items","_law_row","_law_dicts_here"]) (N:=["_law_value_here"]) (fr:=[]) (bU (aC 0)) (λ_ _ _ _ _=>(hG (cS (cJ "bool" jW rfl B.isinstance (aC 0) (cI (v:=.ty "bool") rfl B.bool_ boot_bool rfl))))) (λ_ _ _ _ _=>(aC 0)))))))
   (aI (bF (fY hr (aC 2) (bI (cF aE)))
    (aJ (eI (fN 1 (bX (aD aY (aD (fM fP rfl B.tuple_ boot_tuple (aD (aC 2) aE)) aE))))))
    bE)
   (aI (eO (sc:=aN gS) (XN:=["_law_values","_law_form","_law_truths","_law_numbers","_law_texts","_law_lists","_law_longs","_law_items","_law_row","_law_dicts_here"]) (N:=["_law_value_here"]) (fr:=[]) 3 nd (bU (aC 0)) (λ_ _ _ _ _=>(hG (fX (nS (cS (cJ "int" kU rfl B.isinstance (aC 0) (cI (v:=.ty "int") rfl B.int_ boot_int rfl))) (qL (jQ (cS (cJ "bool" jW rfl B.isinstance (aC 0) (cI (v:=.ty "bool") rfl B.bool_ boot_bool rfl))))))))) (λ_ _ _ _ _=>(aC 0)))
   (aI (bF (fY hr (aC 3) (bI (cF aE)))
    (aJ (eI (fN 1 (bO cU (bX (aD aY aE)) (aL G47_ hr (aD (aC 3) aE))))))
    bE)
   (aI (eO (sc:=aN gS) (XN:=["_law_values","_law_form","_law_truths","_law_numbers","_law_texts","_law_lists","_law_longs","_law_items","_law_row","_law_dicts_here"]) (N:=["_law_value_here"]) (fr:=[]) 4 nd (bU (aC 0)) (λ_ _ _ _ _=>(hG (cS (cJ "str" kT rfl B.isinstance (aC 0) (cI (v:=.ty "str") rfl B.str_ boot_str rfl))))) (λ_ _ _ _ _=>(aC 0)))
   (aI (bF (fY hr (aC 4) (bI (cF aE)))
    (aJ (eI (fN 1 (bX (aD aY (aD (aL G46_ hr (aD (aC 4) aE)) aE))))))
    bE)
   (aI (eO (sc:=aN gS) (XN:=["_law_values","_law_form","_law_truths","_law_numbers","_law_texts","_law_lists","_law_longs","_law_items","_law_row","_law_dicts_here"]) (N:=["_law_value_here"]) (fr:=[]) 5 nd (bU (aC 0)) (λ_ _ _ _ _=>(hG (cS (cJ "list" pF rfl B.isinstance (aC 0) (cI (v:=.ty "list") rfl B.list_ boot_list rfl))))) (λ_ _ _ _ _=>(aC 0)))
   (aI (bF (fY hr (aC 5) (bI (cF aE)))
    (aI (eO (sc:=aN gS) (XN:=["_law_values","_law_form","_law_truths","_law_numbers","_law_texts","_law_lists","_law_longs","_law_items","_law_row","_law_dicts_here"]) (N:=["_law_row"]) (fr:=[]) 6 nd (bU (aC 5)) (λ_ _ _ _ _=>gI) (λ_ _ _ _ _=>(bB cA rfl B.len qn_ (aD (aC 0) aE))))
    (aI (fW 7 nd (cF aE))
    (aI (dN (m:=10) qD_ rfl (bU (aC 5)) (cW 8 (by decide) nd rfl (.inl rfl))
     (aJ (eI (tT 7 (aC 8)))))
    (aJ (eI (fN 1 (bX (aD aY (aD (bB (hJ rfl) rfl B.min boot_min (aD (aC 6) aE)) (aD (bB (hX rfl) rfl B.max boot_max (aD (aC 6) aE)) (aD (aL G49_ hr (aD (aC 7) aE)) aE)))))))))))
    bE)
   (aI (eO (sc:=aN gS) (XN:=["_law_values","_law_form","_law_truths","_law_numbers","_law_texts","_law_lists","_law_longs","_law_items","_law_row","_law_dicts_here"]) (N:=["_law_value_here"]) (fr:=[]) 9 nd (bU (aC 0)) (λ_ _ _ _ _=>(hG (cS (cJ "dict" mQ rfl B.isinstance (aC 0) (cI (v:=.ty "dict") rfl B.dict_ boot_dict rfl))))) (λ_ _ _ _ _=>(aC 0)))
   (aI (bF (fY hr (aC 9) (bI (cF aE)))
    (aJ (eI (fN 1 (aL G48_ hr (aD (aC 9) aE)))))
    bE)
   (aJ (aR (fM fP rfl B.tuple_ boot_tuple (aD (aC 1) aE))))))))))))))))) (λas R q=>?_)
 obtain⟨n,nm,tx,st,sp,vs,rfl,hw,hv,hl,nm',n50,q⟩:=q
 have p1:1<=11 ^ n:=qF2_ _ _ (by decide)
 have vl:vs.length<=100000:=by
  cases n with
  |zero=>
   have:vs=[]:=qY1_.mpr λv h=>hv v h
   rw[this];exact qu_ _
  |succ n=>
   have p2:1<=11 ^ n:=qF2_ _ _ (by decide)
   have:=qi_ (qY2_ (vs.length*11) p2) (by rw[qG2_,qx1_ 11,<-qo2_];exact hl)
   omega
 refine⟨rfl,by simp,?_⟩
 refine⟨vl,iM (λv=>bif dI v==0 then some (iT 1) else none) (λv hvm R q=>?_) ?_⟩
 ·rcases VD.six (hv v hvm) with rfl|⟨b,rfl⟩|⟨i,rfl⟩|⟨s,rfl⟩|⟨xs,rfl⟩|⟨k,rfl⟩<;>first|exact⟨_,rfl,cB q⟩|exact⟨_,rfl,aW q⟩
 have npos:vs≠[]->∃n',n=n'+1:=λne=>by
  obtain⟨v,hvm⟩:=qF1_ _ ne
  cases n with
  |zero=>exact False.elim (hv v hvm)
  |succ n=>exact⟨n,rfl⟩
 have nes:∀{k:Nat},sel k vs≠[]->vs≠[]:=λ{k} h e=>h (by rw[e];rfl)
 refine⟨by simp,.inr (.inl rfl),_,rfl,lI (J:=Stg n vs 1) (λf=>[.va (.seq false vs),.own (f.map aX),.no,.no,.no,.no,.no,.no,.no,.no]) (λz rest=>?_) (λz=>?_) (λf hf=>?_)⟩
 ·have z:=neNil.mp z
  have k0:dC vs=true:=by
   cases e:dC vs with
   |true=>rfl
   |false=>exact absurd (has0.mpr e) z
  exact⟨⟨_,rfl⟩,by simp,_,rfl,by simp,mO (rest [.nothing] ((Stg.nil _ _).add (by decide) (by show(if dC vs=true then _ else _)=_;rw[if_pos k0]))) (by simp only[List.map_cons,List.map_nil,aX];rfl)⟩
 ·have k0:=has0.mp (mC z)
  exact⟨[],(Stg.nil n vs).skip (by decide) (by show(if dC vs=true then _ else _)=_;rw[k0,if_neg ql_]),rfl⟩
 refine⟨vl,iM (λv=>bif dI v==1 then some v else none) (λv hvm R q=>?_) ?_⟩
 ·rcases VD.six (hv v hvm) with rfl|⟨b,rfl⟩|⟨i,rfl⟩|⟨s,rfl⟩|⟨xs,rfl⟩|⟨k,rfl⟩<;>first|exact⟨_,rfl,cB q⟩|exact⟨_,rfl,aW q⟩
 have ebs:sel 1 vs=(vs.filterMap asB).map bT:=nW λv h=>by
  rcases VD.six (hv v h) with rfl|⟨b,rfl⟩|⟨i,rfl⟩|⟨s,rfl⟩|⟨xs,rfl⟩|⟨k,rfl⟩<;>rfl
 generalize hbs:vs.filterMap asB=bs at ebs
 refine⟨bs,by rw[<-ebs];rfl,?_⟩
 generalize hu:(usB (inF bs) (inT bs))=us
 refine⟨by simp,.inr (.inl rfl),_,rfl,lI (J:=Stg n vs 2) (λf=>[.va (.seq false vs),.own (f.map aX),.va (.seq false (us.map bT)),.no,.no,.no,.no,.no,.no,.no]) (λz rest=>?_) (λz=>?_) (λf hf=>?_)⟩
 ·have z:=neNil.mp z
  have une:us≠[]:=λe=>z (by rw[e];rfl)
  have bne:bs≠[]:=λe=>une (by rw[<-hu,e];rfl)
  have hl6:=hf.len
  exact⟨⟨_,rfl⟩,_,_,rfl,by simp,_,rfl,by rw[List.length_map];omega,mO (rest (f++[.truths us]) (hf.add (by decide) (by show(if vs.filterMap asB=[] then _ else some (Pt.truths (usB (inF (vs.filterMap asB)) (inT (vs.filterMap asB)))))=_;rw[hbs,if_neg bne,hu]))) (by rw[qG_];simp only[List.map_cons,List.map_nil,aX];rfl)⟩
 ·have z:us=[]:=qH2_.mp (mC z)
  have be:bs=[]:=by
   rw[z]at hu
   cases bs with
   |nil=>rfl
   |cons b bs=>cases b<;>simp[usB,inF,inT]at hu
  exact⟨f,hf.skip (by decide) (by show(if vs.filterMap asB=[] then _ else _)=_;rw[hbs,if_pos be]),rfl⟩
 clear ebs
 refine⟨vl,iM (λv=>bif dI v==2 then some v else none) (λv hvm R q=>?_) ?_⟩
 ·rcases VD.six (hv v hvm) with rfl|⟨b,rfl⟩|⟨i,rfl⟩|⟨s,rfl⟩|⟨xs,rfl⟩|⟨k,rfl⟩
  ·exact⟨_,rfl,aW (aW q)⟩
  ·exact⟨_,rfl,cB ⟨_,rfl,aW q⟩⟩
  ·exact⟨_,rfl,cB ⟨_,rfl,cB q⟩⟩
  ·exact⟨_,rfl,aW (aW q)⟩
  ·exact⟨_,rfl,aW (aW q)⟩
  ·exact⟨_,rfl,aW (aW q)⟩
 have ens:sel 2 vs=(vs.filterMap asI).map iT:=nW λv h=>by
  rcases VD.six (hv v h) with rfl|⟨b,rfl⟩|⟨i,rfl⟩|⟨s,rfl⟩|⟨xs,rfl⟩|⟨k,rfl⟩<;>rfl
 generalize hns:vs.filterMap asI=ns at ens
 have ens':(vs.filterMap λv=>bif dI v==2 then some v else none)=ns.map iT:=ens
 rw[ens']
 have nsl:ns.length<=vs.length:=by have:=vH 2 vs;rw[ens,qc_]at this;exact this
 refine⟨by simp,.inr (.inl rfl),_,rfl,lI (J:=Stg n vs 3) (λf=>[.va (.seq false vs),.own (f.map aX),.va (.seq false (us.map bT)),.va (.seq false (ns.map iT)),.no,.no,.no,.no,.no,.no]) (λz rest=>?_) (λz=>?_) (λf hf=>?_)⟩
 ·have z:=neNil.mp z
  have nne:ns≠[]:=λe=>z (by rw[e];rfl)
  have hl6:=hf.len
  exact⟨⟨_,rfl⟩,by simp,ns,rfl,nne,by simp,_,rfl,by rw[List.length_map];omega,mO (rest (f++[.numbers (dA ns).1 (dA ns).2.1 (dA ns).2.2]) (hf.add (by decide) (by show(if vs.filterMap asI=[] then _ else some (Pt.numbers (dA (vs.filterMap asI)).1 (dA (vs.filterMap asI)).2.1 (dA (vs.filterMap asI)).2.2))=_;rw[hns,if_neg nne]))) (by rw[qG_];simp only[List.map_cons,List.map_nil,aX];rfl)⟩
 ·have z:=mC z
  exact⟨f,hf.skip (by decide) (by show(if vs.filterMap asI=[] then _ else _)=_;rw[hns,if_pos (qH2_.mp z)]),rfl⟩
 clear ens ens' nsl
 refine⟨vl,iM (λv=>bif dI v==3 then some v else none) (λv hvm R q=>?_) ?_⟩
 ·rcases VD.six (hv v hvm) with rfl|⟨b,rfl⟩|⟨i,rfl⟩|⟨s,rfl⟩|⟨xs,rfl⟩|⟨k,rfl⟩<;>first|exact⟨_,rfl,cB q⟩|exact⟨_,rfl,aW q⟩
 have ets:sel 3 vs=(vs.filterMap asS).map sT:=nW λv h=>by
  rcases VD.six (hv v h) with rfl|⟨b,rfl⟩|⟨i,rfl⟩|⟨s,rfl⟩|⟨xs,rfl⟩|⟨k,rfl⟩<;>rfl
 generalize hts:vs.filterMap asS=ts at ets
 have ets':(vs.filterMap λv=>bif dI v==3 then some v else none)=ts.map sT:=ets
 rw[ets']
 refine⟨by simp,.inr (.inl rfl),_,rfl,lI (J:=Stg n vs 4) (λf=>[.va (.seq false vs),.own (f.map aX),.va (.seq false (us.map bT)),.va (.seq false (ns.map iT)),.va (.seq false (ts.map sT)),.no,.no,.no,.no,.no]) (λz rest=>?_) (λz=>?_) (λf hf=>?_)⟩
 ·have z:=neNil.mp z
  have tne:ts≠[]:=λe=>z (by rw[e];rfl)
  obtain⟨n',rfl⟩:=npos (nes (k:=3) λe=>z (by rw[<-ets,e]))
  have hl6:=hf.len
  have tm:∀s∈ts,s∈tx:=λs hs=>by
   have:sT s∈sel 3 vs:=by rw[ets];exact qg_.mpr ⟨s,hs,rfl⟩
   exact hv _ (sel_mem.mp this).1
  have sl:(aG ts).length<=9:=by
   have:=WordM.nodup_len (cZ ts) (m:=tx) λx hx=>tm x ((cM _ x).mp hx)
   rw[hw.t9]at this
   exact this
  exact⟨⟨_,rfl⟩,ts,rfl,tne,λs hs=>hw.ts s (tm s hs),by omega,by simp,_,rfl,by rw[List.length_map];omega,mO (rest (f++[.texts (bP ts)]) (hf.add (by decide) (by show(if vs.filterMap asS=[] then _ else some (Pt.texts (bP (vs.filterMap asS))))=_;rw[hts,if_neg tne]))) (by rw[qG_];simp only[List.map_cons,List.map_nil,aX];rfl)⟩
 ·have z:=mC z
  exact⟨f,hf.skip (by decide) (by show(if vs.filterMap asS=[] then _ else _)=_;rw[hts,if_pos (qH2_.mp z)]),rfl⟩
 clear ets ets'
 refine⟨vl,iM (λv=>bif dI v==4 then some v else none) (λv hvm R q=>?_) ?_⟩
 ·rcases VD.six (hv v hvm) with rfl|⟨b,rfl⟩|⟨i,rfl⟩|⟨s,rfl⟩|⟨xs,rfl⟩|⟨k,rfl⟩<;>first|exact⟨_,rfl,cB q⟩|exact⟨_,rfl,aW q⟩
 have exs:sel 4 vs=(vs.filterMap asL).map (Tv.seq false):=nW λv h=>by
  rcases VD.six (hv v h) with rfl|⟨b,rfl⟩|⟨i,rfl⟩|⟨s,rfl⟩|⟨xs,rfl⟩|⟨k,rfl⟩<;>rfl
 generalize hxs:vs.filterMap asL=xs at exs
 have exs':(vs.filterMap λv=>bif dI v==4 then some v else none)=xs.map (Tv.seq false):=exs
 rw[exs']
 have xsl:xs.length<=vs.length:=by have:=vH 4 vs;rw[exs,qc_]at this;exact this
 refine⟨by simp,.inr (.inl rfl),_,rfl,lI (J:=λx:List Pt×Sl×Sl×Sl=>Stg n vs 5 x.1) (λx=>[.va (.seq false vs),.own (x.1.map aX),.va (.seq false (us.map bT)),.va (.seq false (ns.map iT)),.va (.seq false (ts.map sT)),.va (.seq false (xs.map (Tv.seq false))),x.2.1,x.2.2.1,x.2.2.2,.no]) (λz rest=>?_) (λz=>?_) ?_⟩
 ·have z:=neNil.mp z
  obtain⟨n',rfl⟩:=npos (nes (k:=4) λe=>z (by rw[<-exs,e]))
  have xne:xs≠[]:=λe=>z (by rw[e];rfl)
  have hl6:=hf.len
  have xv:∀x∈xs,x.length<=11/\∀y∈x,VD nm tx n' y:=λx hx=>by
   have:Tv.seq false x∈sel 4 vs:=by rw[exs];exact qg_.mpr ⟨x,hx,rfl⟩
   exact hv _ (sel_mem.mp this).1
  have xpos:0<xs.length:=by
   cases xs with
   |nil=>exact absurd rfl z
   |cons a xs=>simp
  have hl2:vs.length*11*11 ^ n'<=1100000:=by rw[qo2_]at hl;rw[qG2_,qx1_ 11];exact hl
  have fl:∀i,(xs.take i).flatten.length<=vs.length*11:=λi=>by
   have key:∀l:List (List Tv),(∀x∈l,x.length<=11)->l.flatten.length<=l.length*11:=λl=>by
    induction l with
    |nil=>intro _;simp
    |cons a l ih=>
     intro h
     have h1:=h a (.head _)
     have h2:=ih λx hx=>h x (.tail _ hx)
     rw[qo1_,qh_,qI_]
     omega
   have h1:=key (xs.take i) λx hx=>(xv x (qc2_ hx)).1
   rw[qO_]at h1
   have:min i xs.length*11<=vs.length*11:=qP1_ _ (by omega)
   omega
  have fb:∀i,(xs.take i).flatten.length<=100000:=λi=>by
   have a:=fl i
   cases n' with
   |zero=>
    have:(xs.take i).flatten=[]:=List.flatten_eq_nil_iff.mpr λx hx=>qY1_.mpr λy hy=>(xv x (qc2_ hx)).2 y hy
    rw[this];exact qu_ _
   |succ n'=>
    have p2:1<=11 ^ n':=qF2_ _ _ (by decide)
    have:vs.length*11*11<=1100000:=by
     refine qi_ (qY2_ _ p2) ?_
     rw[qG2_ (vs.length*11),qx1_ 11 (11 ^ n'),<-qo2_]
     exact hl2
    omega
  have lens:(xs.map λx=>iT (x.length:Nat))=(xs.map λx=>((x.length:Nat):Int)).map iT:=by rw[qA_];rfl
  refine⟨by rw[qc_];omega,dY (Tv.seq false) (λx=>iT (x.length:Nat)) (λx hx R q=>q) ?_⟩
  refine⟨by simp,?_⟩
  refine fS (Tv.seq false) (l:=xs) (λi ρ=>∃s8,ρ=[.va (.seq false vs),.own (f.map aX),.va (.seq false (us.map bT)),.va (.seq false (ns.map iT)),.va (.seq false (ts.map sT)),.va (.seq false (xs.map (Tv.seq false))),.va (.seq false (xs.map λx=>iT (x.length:Nat))),.own (xs.take i).flatten,s8,.no]) ⟨_,rfl⟩ ?_ ?_
  ·rintro i x _ N hx ⟨s8,rfl⟩ hN
   have et:(xs.take (i+1)).flatten=(xs.take i).flatten++x:=by
    obtain⟨hi,rfl⟩:=qw_.mp hx
    rw[qR2_ hi,qX2_]
    simp
   have l1:=fb (i+1)
   rw[et,qh_]at l1
   refine⟨⟨_,rfl⟩,_,_,rfl,rfl,by omega,hN _ ⟨.va (.seq false x),?_⟩⟩
   rw[et]
   rfl
  rintro _ ⟨s8,rfl⟩
  rw[qd1_]
  have fl':=fl xs.length
  rw[qd1_]at fl'
  refine⟨⟨_,rfl⟩,.inr (.inl ⟨xs.map λx=>((x.length:Nat):Int),by rw[lens],by rw[qc_];exact xpos,λa a1 a2=>.inr (.inl ⟨xs.map λx=>((x.length:Nat):Int),by rw[lens],by rw[qc_];exact xpos,λb b1 b2=>?_⟩)⟩)⟩
  have ea:bM (dH xs)=a:=nJ a1 a2
  have eb:bR (dH xs)=b:=nL b1 b2
  refine⟨n',nm,tx,st,sp,xs.flatten,rfl,hw,λv hv=>?_,qi_ (qP1_ _ fl') hl2,by omega,by omega,by simp,_,rfl,by rw[List.length_map];omega,?_⟩
  ·obtain⟨x,h1,h2⟩:=qt1_.mp hv
   exact(xv x h1).2 v h2
  ·exact mO (rest (f++[.lists a b (bD n' xs.flatten)],.va (.seq false (xs.map λx=>iT (x.length:Nat))),.va (.seq false xs.flatten),s8) (hf.add (by decide) (by show(if vs.filterMap asL=[] then _ else some (Pt.lists (bM (dH (vs.filterMap asL))) (bR (dH (vs.filterMap asL))) (bD n' (vs.filterMap asL).flatten)))=_;rw[hxs,if_neg xne,ea,eb]))) (by rw[qG_];simp only[List.map_cons,List.map_nil,aX];rfl)
 ·have z:=mC z
  exact⟨(f,.no,.no,.no),hf.skip (by decide) (by show(if vs.filterMap asL=[] then _ else _)=_;rw[hxs,if_pos (qH2_.mp z)]),rfl⟩
 rintro⟨f,s6,s7,s8⟩ hf
 have hf:Stg n vs 5 f:=hf
 clear exs exs' xsl
 refine⟨vl,iM (λv=>bif dI v==5 then some v else none) (λv hvm R q=>?_) ?_⟩
 ·rcases VD.six (hv v hvm) with rfl|⟨b,rfl⟩|⟨i,rfl⟩|⟨s,rfl⟩|⟨xs,rfl⟩|⟨k,rfl⟩<;>first|exact⟨_,rfl,cB q⟩|exact⟨_,rfl,aW q⟩
 have eks:sel 5 vs=(vs.filterMap asD).map Tv.dct:=nW λv h=>by
  rcases VD.six (hv v h) with rfl|⟨b,rfl⟩|⟨i,rfl⟩|⟨s,rfl⟩|⟨xs,rfl⟩|⟨k,rfl⟩<;>rfl
 generalize hks:vs.filterMap asD=ks at eks
 have eks':(vs.filterMap λv=>bif dI v==5 then some v else none)=ks.map Tv.dct:=eks
 rw[eks']
 have ksl:ks.length<=vs.length:=by have:=vH 5 vs;rw[eks,qc_]at this;exact this
 refine⟨by simp,.inr (.inl rfl),_,rfl,lI (J:=Stg n vs 6) (λf=>[.va (.seq false vs),.own (f.map aX),.va (.seq false (us.map bT)),.va (.seq false (ns.map iT)),.va (.seq false (ts.map sT)),.va (.seq false (xs.map (Tv.seq false))),s6,s7,s8,.va (.seq false (ks.map Tv.dct))]) (λz rest=>?_) (λz=>?_) (λf hf=>?_)⟩
 ·have z:=neNil.mp z
  obtain⟨n',rfl⟩:=npos (nes (k:=5) λe=>z (by rw[<-eks,e]))
  have kne:ks≠[]:=λe=>z (by rw[e];rfl)
  have hl6:=hf.len
  refine⟨⟨_,rfl⟩,n',nm,tx,st,sp,ks,rfl,hw,λk hk=>?_,kne,qi_ (qP1_ _ ksl) hl,by omega,by omega,_,rfl,by rw[qc_];exact qu2_ hl6 (by decide),mO (rest (f++[dcP (bD n') ks]) (hf.add (by decide) (by show(if vs.filterMap asD=[] then _ else some (dcP (bD n') (vs.filterMap asD)))=_;rw[hks,if_neg kne]))) (by rw[qG_];rfl)⟩
  have:Tv.dct k∈sel 5 vs:=by rw[eks];exact qg_.mpr ⟨k,hk,rfl⟩
  exact hv _ (sel_mem.mp this).1
 ·have z:=mC z
  exact⟨f,hf.skip (by decide) (by show(if vs.filterMap asD=[] then _ else _)=_;rw[hks,if_pos (qH2_.mp z)]),rfl⟩
 have:=hf.form λe=>by
  apply Classical.byContradiction
  intro ne
  obtain⟨n',e'⟩:=npos ne
  omega
 rw[<-this]at q
 exact⟨_,_,rfl,q⟩
theorem wF(hd:Has K mg "_law_due" gS)(hk:Has K mg "_law_dicts" kO)(B:Own mg)(G1:PGood P w K mg base 2 "_law_run" ["_law_numbers"] rR)(G2:PGood P w K mg base 2 "_law_words" ["_law_texts"] nI):∀m:Nat,PGood P w K mg base (3+2*m) "_law_due" ["_law_values"] (lZ m)
 |0=>hd.pfalse C49_ (fun|_,_,_,_,_,_,[_],_=>rfl) λas R ⟨_,_,_,_,_,_,_,_,_,_,h,_⟩=>by omega
 |m+1=>zLe hd B G1 G2 (wF hd hk B G1 G2 m) (zLf hk B (wF hd hk B G1 G2 m) G2)
end
end My
namespace L2
open PySem PySem.Spec PyProof.Rows WordM
def SameD:Nat->Tv->Prop
 |0,_=>False
 |_+1,.leaf .non=>True
 |_+1,.leaf (.bl _)=>True
 |_+1,.leaf (.int _)=>True
 |_+1,.leaf (.str _)=>True
 |n+1,.seq _ xs=>xs.length<=100000/\∀x∈xs,SameD n x
 |_+1,_=>False
theorem SameD.le:∀{n m:Nat}{T:Tv},n<=m->SameD n T->SameD m T
 |0,_,_,_,h=>False.elim h
 |_+1,0,_,l,_=>absurd l (by omega)
 |n+1,m+1,T,l,h=>by
  cases T with
  |leaf v=>cases v<;>exact h
  |seq t xs=>exact⟨h.1,λx hx=>SameD.le (by omega) (h.2 x hx)⟩
  |dct k=>exact h
theorem zX(n:Nat){t:Bool}{ss:List Str}(l:ss.length<=100000):SameD (n+2) (.seq t (ss.map sT)):=⟨by rw[qc_];exact l,λx hx=>by
 obtain⟨s,_,rfl⟩:=qg_.mp hx
 trivial⟩
end L2
namespace My
open PySem L2 PyProof.Rows WordM
section
variable{P:Program}{w:World}{K:W.Frag}{mg:Str->Option Value}{base:Heap}
variable{n:Nat}
def oC(n:Nat):PSp:=λas R=>∃T:Tv,as=[.va T,.va T]/\SameD n T/\R (bT true)
theorem zAT{α:Type}(xs:List α):((xs.map λ_=>bT true).any λU=>L2.eqT U (bT false))=false:=by
 rw[Bool.eq_false_iff]
 intro z
 obtain⟨U,hU,e⟩:=qQ_.mp z
 obtain⟨_,_,rfl⟩:=qg_.mp hU
 simp[L2.eqT,eqV]at e
theorem zBP{α:Type}(xs:List α):pE (bT false) (xs.map λ_=>bT true):=⟨trivial,λU hU=>by
 obtain⟨_,_,rfl⟩:=qg_.mp hU
 trivial⟩
theorem zAz(xs:List Tv):List.zipWith (λT U=>Tv.seq true [T,U]) xs xs=xs.map λx=>.seq true [x,x]:=by
 induction xs with
 |nil=>rfl
 |cons x xs ih=>rw[List.zipWith_cons_cons,ih];rfl
theorem zGf{s:Str}:(false != eqV (.str s) (.str s))=true:=by simp[eqV]
theorem zE6{i:Int}:(false != eqV (.int i) (.int i))=true:=by simp[eqV]
theorem zE7{b:Bool}:(false != eqV (.bl b) (.bl b))=true:=by simp[eqV]
theorem C43_:bC ["_law_one","_law_other"] ["_law_one","_law_other"] (aN mI):=fsc (by decide +kernel)
theorem zLk(h:Has K mg "_law_same" mI)(B:Own mg)(G43_:PGood P w K mg base (1+n) "_law_same" ["_law_one","_law_other"] (oC n))   : PGood P w K mg base (1+n+1) "_law_same" ["_law_one","_law_other"] (oC (n+1)):=by
 have nd:=C43_.nd
 refine h.pgood C43_ (fun|_,_,_,_,_,_,[_,_],_=>rfl) (λf cdv A outer s H E F hr=>
   (aI (bF (fX (iY (cS (cJ "bool" jW rfl B.isinstance (aC 0) (cI (v:=.ty "bool") rfl B.bool_ boot_bool rfl))) (jP (cS (cJ "bool" jW rfl B.isinstance (aC 1) (cI (v:=.ty "bool") rfl B.bool_ boot_bool rfl))))))
    (aJ (aR (gJ (cJ "bool" jW rfl B.isinstance (aC 0) (cI (v:=.ty "bool") rfl B.bool_ boot_bool rfl)) (gJ (cJ "bool" jW rfl B.isinstance (aC 1) (cI (v:=.ty "bool") rfl B.bool_ boot_bool rfl)) (kE (gO (kL hr.units).op (aC 0) (aC 1)))))))
    bE)
   (aI (bF (fX (iY (cS (cJ "int" kU rfl B.isinstance (aC 0) (cI (v:=.ty "int") rfl B.int_ boot_int rfl))) (jP (cS (cJ "int" kU rfl B.isinstance (aC 1) (cI (v:=.ty "int") rfl B.int_ boot_int rfl))))))
    (aJ (aR (gJ (cJ "int" kU rfl B.isinstance (aC 0) (cI (v:=.ty "int") rfl B.int_ boot_int rfl)) (gJ (cJ "int" kU rfl B.isinstance (aC 1) (cI (v:=.ty "int") rfl B.int_ boot_int rfl)) (kE (gO (kL hr.units).op (aC 0) (aC 1)))))))
    bE)
   (aI (bF (fX (iY (cS (cJ "str" kT rfl B.isinstance (aC 0) (cI (v:=.ty "str") rfl B.str_ boot_str rfl))) (jP (cS (cJ "str" kT rfl B.isinstance (aC 1) (cI (v:=.ty "str") rfl B.str_ boot_str rfl))))))
    (aJ (aR (gJ (cJ "str" kT rfl B.isinstance (aC 0) (cI (v:=.ty "str") rfl B.str_ boot_str rfl)) (gJ (cJ "str" kT rfl B.isinstance (aC 1) (cI (v:=.ty "str") rfl B.str_ boot_str rfl)) (kE (gO (kL hr.units).op (aC 0) (aC 1)))))))
    bE)
   (aI (bF (fX (iY (dP lX (aC 0) iS) (jP (dP lX (aC 1) iS))))
    (aJ (aR (gJ (gO (lX).op (aC 0) iS) (kE (gO (lX).op (aC 1) iS)))))
    bE)
   (aI (bF (fX (iY (cS (cJ "dict" mQ rfl B.isinstance (aC 0) (cI (v:=.ty "dict") rfl B.dict_ boot_dict rfl))) (jP (cS (cJ "dict" mQ rfl B.isinstance (aC 1) (cI (v:=.ty "dict") rfl B.dict_ boot_dict rfl))))))
    (aI (bF (fX (iY (jQ (cS (cJ "dict" mQ rfl B.isinstance (aC 0) (cI (v:=.ty "dict") rfl B.dict_ boot_dict rfl)))) (iY (jQ (cS (cJ "dict" mQ rfl B.isinstance (aC 1) (cI (v:=.ty "dict") rfl B.dict_ boot_dict rfl)))) (jP (fY hr (bI (uK (tV rfl) rfl B.sorted boot_sorted (aD (aC 0) aE))) (bI (uK (tV rfl) rfl B.sorted boot_sorted (aD (aC 1) aE))))))))
     (aJ (aR iD))
     bE)
    (aJ (aR (gO (zAK hr.units).op iD (bI (iC (sc:=aN mI) (XN:=["_law_one","_law_other"]) (N:=["_law_name","_law_one","_law_other"]) (fr:=[0,1]) (bU (aC 0)) (λ_ _ _ _ _=>(aL G43_ hr (aD (aT hr (aC 1) (aC 0)) (aD (aT hr (aC 2) (aC 0)) aE)))))) rfl))))
    bE)
   (aI (bF (fX (iY (fY hr (cJ "list" pF rfl B.isinstance (aC 0) (cI (v:=.ty "list") rfl B.list_ boot_list rfl)) (cJ "list" pF rfl B.isinstance (aC 1) (cI (v:=.ty "list") rfl B.list_ boot_list rfl))) (jP (fY hr (cJ "tuple" yE rfl B.isinstance (aC 0) (cI (v:=.ty "tuple") rfl B.tuple_ boot_tuple rfl)) (cJ "tuple" yE rfl B.isinstance (aC 1) (cI (v:=.ty "tuple") rfl B.tuple_ boot_tuple rfl))))))
    (aJ (aR iD))
    bE)
   (aJ (aR (gJ (gO (kL hr.units).op (bB cA rfl B.len qn_ (aD (aC 0) aE)) (bB cA rfl B.len qn_ (aD (aC 1) aE))) (kE (gO (zAK hr.units).op iD (bI (zBm (sc:=aN mI) (XN:=["_law_one","_law_other"]) (N:=["_law_a","_law_b"]) (own:=2) (fr:=[]) rfl ⟨rfl,by decide +kernel,by decide +kernel,by decide +kernel,rfl,by decide +kernel,by decide,by decide +kernel⟩ (by decide) (zHS rfl B.zip (aD (aC 0) (aD (aC 1) aE))) (λ_ _ _ _ _=>(zHT 2 rfl (zAB (cW 0 (by decide) (show(["_law_a","_law_b"]:List Str).Nodup by decide +kernel) rfl (by first|exact Or.inl rfl|exact Or.inr rfl)) (zAB (cW 1 (by decide) (show(["_law_a","_law_b"]:List Str).Nodup by decide +kernel) rfl (by first|exact Or.inl rfl|exact Or.inr rfl)) zGB)))) (λ_ _ _ _ _=>gI) (λ_ _ _ _ _=>(aL G43_ hr (aD (aC 0) (aD (aC 1) aE)))))) rfl)))))))))))) (λas R q=>?_)
 obtain⟨T,rfl,h,q⟩:=q
 cases T with
 |dct k=>exact False.elim h
 |leaf v=>
  cases v with
  |non=>exact⟨rfl,_,rfl,aW ⟨_,rfl,aW ⟨_,rfl,aW ⟨_,rfl,aW ⟨_,rfl,aW ⟨_,rfl,aW ⟨_,rfl,cB (cB ⟨_,rfl,cB q⟩)⟩⟩⟩⟩⟩⟩⟩
  |bl b=>
   rw[<-zE7 (b:=b)]at q
   exact⟨rfl,_,rfl,cB (cB ⟨_,rfl,cB ⟨_,rfl,cB q⟩⟩)⟩
  |int i=>
   rw[<-zE6 (i:=i)]at q
   exact⟨rfl,_,rfl,aW ⟨_,rfl,aW ⟨_,rfl,cB (cB ⟨_,rfl,cB ⟨_,rfl,cB q⟩⟩)⟩⟩⟩
  |str s=>
   rw[<-zGf (s:=s)]at q
   exact⟨rfl,_,rfl,aW ⟨_,rfl,aW ⟨_,rfl,aW ⟨_,rfl,aW ⟨_,rfl,cB (cB ⟨_,rfl,cB ⟨_,rfl,cB q⟩⟩)⟩⟩⟩⟩⟩
  |_=>exact False.elim h
 |seq t xs=>
  cases t with
  |false=>
   refine⟨rfl,_,rfl,aW ⟨_,rfl,aW ⟨_,rfl,aW ⟨_,rfl,aW ⟨_,rfl,aW ⟨_,rfl,aW ⟨_,rfl,aW ⟨_,rfl,aW ⟨_,rfl,aW ⟨_,rfl,aW ⟨_,rfl,aW ⟨_,rfl,aW ⟨_,rfl,eQ (λ_=>⟨false,xs,xs,rfl,?_⟩) (λz=>absurd rfl z)⟩⟩⟩⟩⟩⟩⟩⟩⟩⟩⟩⟩⟩
   rw[zAz]
   refine⟨by rw[qc_];have:=h.1;omega,dY (λx=>.seq true [x,x]) (λx=>bT true) (λx hx R q=>⟨_,rfl,rfl,_,_,rfl,_,_,rfl,rfl,x,rfl,h.2 x hx,q⟩) ⟨zBP xs,?_⟩⟩
   rw[zAT]
   exact q
  |true=>
   refine⟨rfl,_,rfl,aW ⟨_,rfl,aW ⟨_,rfl,aW ⟨_,rfl,aW ⟨_,rfl,aW ⟨_,rfl,aW ⟨_,rfl,aW ⟨_,rfl,aW ⟨_,rfl,aW ⟨_,rfl,aW ⟨_,rfl,aW ⟨_,rfl,aW ⟨_,rfl,eQ (λ_=>⟨true,xs,xs,rfl,?_⟩) (λz=>absurd rfl z)⟩⟩⟩⟩⟩⟩⟩⟩⟩⟩⟩⟩⟩
   rw[zAz]
   refine⟨by rw[qc_];have:=h.1;omega,dY (λx=>.seq true [x,x]) (λx=>bT true) (λx hx R q=>⟨_,rfl,rfl,_,_,rfl,_,_,rfl,rfl,x,rfl,h.2 x hx,q⟩) ⟨zBP xs,?_⟩⟩
   rw[zAT]
   exact q
theorem zBR(h:Has K mg "_law_same" mI)(B:Own mg):∀n:Nat,PGood P w K mg base (1+n) "_law_same" ["_law_one","_law_other"] (oC n)
 |0=>h.pfalse C43_ (fun|_,_,_,_,_,_,[_,_],_=>rfl) λas R ⟨_,_,h,_⟩=>h
 |n+1=>zLk h B (zBR h B n)
end
section
variable{P:Program}{w:World}{K:W.Frag}{mg:Str->Option Value}{base:Heap}
theorem zBs(ts:List Str)(ne:ts≠[]):SameD 3 (bW (bP ts)):=by
 unfold bP
 split
 ·rename_i h
  refine⟨by simp,λx hx=>?_⟩
  simp only[List.mem_cons,List.not_mem_nil,or_false]at hx
  rcases hx with rfl|rfl
  ·trivial
  ·exact zX 0 (by rw[(eM _).length_eq];omega)
 ·obtain⟨hd,lo,hi,ms,e,m⟩:=iN ne
  rw[e]
  refine⟨by simp,λx hx=>?_⟩
  simp only[List.mem_cons,List.not_mem_nil,or_false]at hx
  rcases hx with rfl|rfl|rfl|rfl|rfl
  ·trivial
  ·trivial
  ·trivial
  ·trivial
  ·refine zX 0 ?_
   rw[m.mks]
   exact qi_ (qj3_ _ _) (by decide)
theorem zGM{D:List Tv->List Pt}{d:Nat}(hD:∀A,SameD (d+3) (bS (D A))){ks:List (List (Str×Tv))}:SameD (d+6) (aX (dcP D ks)):=by
 by_cases h:(aG (aO ks)).length<=8
 ·rw[gM h,eK]
  refine⟨by simp,λx hx=>?_⟩
  simp only[List.mem_cons,List.not_mem_nil,or_false]at hx
  rcases hx with rfl|rfl|rfl|rfl
  ·trivial
  ·trivial
  ·trivial
  ·refine⟨by rw[qc_,kF];omega,λy hy=>?_⟩
   obtain⟨x,hx,rfl⟩:=qg_.mp hy
   obtain⟨n,_,rfl⟩:=qg_.mp hx
   refine⟨by simp,λz hz=>?_⟩
   have hz:z∈[sT n,bT (cX D ks n).2.1,bS (D (atK n ks))]:=hz
   simp only[List.mem_cons,List.not_mem_nil,or_false]at hz
   rcases hz with rfl|rfl|rfl
   ·trivial
   ·trivial
   ·exact hD _
 ·have ne:aO ks≠[]:=λe=>h (by rw[e];exact qu_ _)
  rw[gL h,fL]
  refine⟨by simp,λx hx=>?_⟩
  simp only[List.mem_cons,List.not_mem_nil,or_false]at hx
  rcases hx with rfl|rfl|rfl|rfl|rfl
  ·trivial
  ·trivial
  ·trivial
  ·exact(zBs _ ne).le (by omega)
  ·exact(hD _).le (by omega)
theorem zAI:∀(n:Nat) (A:List Tv),SameD (4*n+6) (bS (bD n A))
 |0,A=>⟨by simp[bD],λx hx=>by simp[bD]at hx⟩
 |n+1,A=>by
  have ih:=zAI n
  refine⟨?_,λx hx=>?_⟩
  ·rw[qc_]
   exact qi_ (qq2_ _ _) (by decide)
  ·obtain⟨p,hp,rfl⟩:=qg_.mp hx
   obtain⟨k,_,e⟩:=qc1_.mp hp
   show SameD (4*n+9) (aX p)
   unfold bH at e
   split at e
   ·have:p=.nothing:=by
     split at e
     ·cases e;rfl
     ·cases e
    rw[this,tJ]
    refine⟨by simp,λx hx=>?_⟩
    rw[qW_.mp hx];trivial
   ·obtain⟨_,rfl⟩:=eE e
    rw[pN]
    refine⟨by simp,λx hx=>?_⟩
    simp only[List.mem_cons,List.not_mem_nil,or_false]at hx
    rcases hx with rfl|rfl
    ·trivial
    ·refine⟨by rw[qc_];exact qi_ (iI _ _) (by decide),λx hx=>?_⟩
     obtain⟨b,_,rfl⟩:=qg_.mp hx
     trivial
   ·obtain⟨_,rfl⟩:=eE e
    rw[qA]
    refine⟨by simp,λx hx=>?_⟩
    simp only[List.mem_cons,List.not_mem_nil,or_false]at hx
    rcases hx with rfl|rfl|rfl|rfl<;>trivial
   ·obtain⟨ne,rfl⟩:=eE e
    rw[pT]
    refine⟨by simp,λx hx=>?_⟩
    simp only[List.mem_cons,List.not_mem_nil,or_false]at hx
    rcases hx with rfl|rfl
    ·trivial
    ·exact(zBs _ ne).le (by omega)
   ·obtain⟨_,rfl⟩:=eE e
    rw[iJ]
    refine⟨by simp,λx hx=>?_⟩
    simp only[List.mem_cons,List.not_mem_nil,or_false]at hx
    rcases hx with rfl|rfl|rfl|rfl
    ·trivial
    ·trivial
    ·trivial
    ·exact(ih _).le (by omega)
   ·obtain⟨_,rfl⟩:=eE e
    exact zGM (d:=4*n+3) λA=>ih A
   ·cases e
end
end My
namespace My
open PySem L2 PyProof.Rows WordM
section
variable{P:Program}{w:World}{K:W.Frag}{mg:Str->Option Value}{base:Heap}
variable{n:Nat}
def nD(n:Nat):PSp:=λas R=>∃V:Tv->Prop,WD n V/\∃v:Tv,as=[.va v]/\V v/\R (bS (bD n [v]))
def uR(n:Nat):PSp:=λas R=>∃V:Tv->Prop,WD n V/\∃v:Tv,as=[.va v]/\V v/\∀p,bD n [v]=[p]->R (aX p)
def nZ(n:Nat):PSp:=λas R=>∃V:Tv->Prop,WD n V/\∃vs:List Tv,as=[.va (.seq false vs)]/\vs.length<=1000/\(∀v∈vs,V v)/\R (bS (bD n vs))
theorem zA4:∀vs:List Tv,(vs.map λv=>[v]).flatten=vs
 |[]=>rfl
 |v::vs=>by rw[qF_,qo1_,zA4 vs];rfl
theorem C32_:bC ["samples"] ["samples"] (aN oP):=fsc (by decide +kernel)
theorem zDb(h:Has K mg "told" oP)(B:Own mg)(G31_:PGood P w K mg base (9*n+10) "all_joined" ["forms"] (xP (bD n) (WD n)))(G21_:PGood P w K mg base (9*n+10) "form_of" ["value"] (nD n))   : PGood P w K mg base (9*n+11) "told" ["samples"] (nZ n):=by
 have nd:=C32_.nd
 refine h.pgood C32_ (fun|_,_,_,_,_,_,[_],_=>rfl) (λf cdv A outer s H E F hr=>
   (aJ (aR (aL G31_ hr (aD (bI (iC (sc:=aN oP) (XN:=["samples"]) (N:=["sample"]) (fr:=[]) (bU (aC 0)) (λ_ _ _ _ _=>(aL G21_ hr (aD (aC 0) aE))))) aE))))) (λas R q=>?_)
 obtain⟨V,hV,vs,rfl,lv,hv,q⟩:=q
 refine⟨rfl,by omega,zFd (λv=>bS (bD n [v])) (λv hvm R q=>⟨V,hV,v,rfl,hv v hvm,q⟩) ?_⟩
 refine⟨V,hV,vs.map λv=>[v],by rw[qA_];rfl,dOk n,λA hA v hvA=>?_,?_⟩
 ·obtain⟨x,hx,rfl⟩:=qg_.mp hA
  rw[qW_.mp hvA]
  exact hv x hx
 ·rw[zA4]
  exact q
def zC4(n:Nat):PSp:=λas R=>∃V:Tv->Prop,WD n V/\∃xs:List Tv,as=[.va (.seq false xs)]/\xs.length<=1000/\(∀v∈xs,V v)/\R (aX (.lists (xs.length:Nat) (xs.length:Nat) (bD n xs)))
theorem C18_:bC ["value"] ["value"] (aN sO):=fsc (by decide +kernel)
theorem zLC(h:Has K mg "list_part" sO)(B:Own mg)(G32_:PGood P w K mg base (9*n+11) "told" ["samples"] (nZ n))   : PGood P w K mg base (9*n+12) "list_part" ["value"] (zC4 n):=by
 have nd:=C18_.nd
 refine h.pgood C18_ (fun|_,_,_,_,_,_,[_],_=>rfl) (λf cdv A outer s H E F hr=>
   (aJ (aR (bX (aD aY (aD (bB cA rfl B.len qn_ (aD (aC 0) aE)) (aD (bB cA rfl B.len qn_ (aD (aC 0) aE)) (aD (aL G32_ hr (aD (aC 0) aE)) aE)))))))) (λas R q=>?_)
 obtain⟨V,hV,xs,rfl,lx,hv,q⟩:=q
 rw[iJ]at q
 exact⟨rfl,V,hV,xs,rfl,lx,hv,by simp,q⟩
def zC7(n:Nat):PSp:=λas R=>∃V:Tv->Prop,WD n V/\∃k:List (Str×Tv),as=[.va (.dct k)]/\(k.map (·.1)).Nodup/\k.length<=20/\(∀kt∈k,fK kt.1/\V kt.2)/\R (aX (dcP (bD n) [k]))
theorem C19_:bC ["value","size","names"] ["value"] (aN mL):=fsc (by decide +kernel)
theorem zLB(h:Has K mg "dict_part" mL)(B:Own mg)(G21_:PGood P w K mg base (9*n+10) "form_of" ["value"] (nD n))(G32_:PGood P w K mg base (9*n+11) "told" ["samples"] (nZ n))(G10_:PGood P w K mg base 4 "words_of" ["texts"] jY)(GMOST_FIELDS:eG K mg "MOST_FIELDS" (iT 8))  : PGood P w K mg base (9*n+12) "dict_part" ["value"] (zC7 n):=by
 have nd:=C19_.nd
 refine h.pgood C19_ (fun|_,_,_,_,_,_,[_],_=>rfl) (λf cdv A outer s H E F hr=>
   (aI (bA 1 nd (bB cA rfl B.len qn_ (aD (aC 0) aE)))
   (aI (bA 2 nd (bI (uK (tV rfl) rfl B.sorted boot_sorted (aD (aC 0) aE))))
   (aI (bF (dP wL (aC 1) (oI GMOST_FIELDS rfl))
    (aJ (aR (bX (aD aY (aD (aC 1) (aD (aC 1) (aD (fM fP rfl B.tuple_ boot_tuple (aD (bI (iC (sc:=aN mL) (XN:=["value","size","names"]) (N:=["name","value"]) (fr:=[0]) (bU (aC 2)) (λ_ _ _ _ _=>(bX (aD (aC 0) (aD iD (aD (aL G21_ hr (aD (aT hr (aC 1) (aC 0)) aE)) aE))))))) aE)) aE)))))))
    bE)
   (aJ (aR (bX (aD aY (aD (aC 1) (aD (aC 1) (aD (aL G10_ hr (aD (aC 2) aE)) (aD (aL G32_ hr (aD (bI (iC (sc:=aN mL) (XN:=["value","size","names"]) (N:=["name","value"]) (fr:=[0]) (bU (aC 2)) (λ_ _ _ _ _=>(aT hr (aC 1) (aC 0))))) aE)) aE)))))))))))) (λas R q=>?_)
 obtain⟨V,hV,k,rfl,nd,lk,hk,q⟩:=q
 refine⟨rfl,?_⟩
 have enm:aO [k]=k.map (·.1):=by unfold aO;rw[List.flatMap_cons,List.flatMap_nil,qN_]
 have sn:(aG (aO [k])).Perm (k.map (·.1)):=(qX1_ (cZ _) nd).mpr λx=>by rw[cM,enm]
 have sl:(aG (aO [k])).length=k.length:=by rw[sn.length_eq,qc_]
 have es:aV (k.map (·.1))=aV (aG (aO [k])):=mV (zV nd) (gD _) λx=>by rw[(eM _).mem_iff,sort_set_mem,enm]
 have eL:bM (bJ [k])=(k.length:Nat)/\bR (bJ [k])=(k.length:Nat):=⟨rfl,rfl⟩
 have sk:(aV (aG (aO [k]))).length=k.length:=by rw[(eM _).length_eq,sl]
 have lk':∀x∈aV (aG (aO [k])),∃v,bY k x=some v/\(x,v)∈k:=λx hx=>by
  rw[sort_set_mem,enm]at hx
  obtain⟨kt,hkt,rfl⟩:=qg_.mp hx
  exact⟨kt.2,qT nd hkt,hkt⟩
 refine .inr (.inr ⟨k,rfl,?_⟩)
 rw[es]
 show PEnds.nx _ _
 refine nxE (ρ':=[.va (.dct k),.va (iT (k.length:Nat)),.va (.seq false ((aV (aG (aO [k]))).map sT))]) rfl ?_
 refine⟨_,rfl,kN (λz=>?_) (λz=>?_)⟩
 ·have z:((k.length:Nat):Int)<=8:=z
  rw[gM (by omega),eK]at q
  refine⟨by rw[qc_];omega,dY sT (λx=>cE (cX (bD n) [k] x)) (λx hx R q=>?_) ⟨_,_,rfl,by simp,?_⟩⟩
  ·obtain⟨v,e,hm⟩:=lk' x hx
   have ea:atK x [k]=[v]:=by unfold atK;rw[qK_,e];rfl
   have eall:[k].all (λk=>decide (x∈k.map (·.1)))=true:=by
    rw[List.all_cons,List.all_nil,Bool.and_true]
    exact qS_ (qg_.mpr ⟨_,hm,rfl⟩)
   unfold cX at q
   rw[ea,eall]at q
   exact⟨_,e,V,hV,v,rfl,(hk _ hm).2,by simp,q⟩
  ·unfold bQ at q
   rw[qA_]at q
   exact q
 ·have z:¬ ((k.length:Nat):Int)<=8:=z
  have ne:aO [k]≠[]:=λe=>by rw[e]at sl;have:k.length=0:=sl.symm;omega
  rw[gL (by omega),fL,<-kZ (ts:=aV (aG (aO [k]))) (us:=aO [k]) λx=>sort_set_mem]at q
  refine⟨_,rfl,nG ne,by omega,?_,λt ht=>?_,?_⟩
  ·have:=fE (A:=aV (aG (aO [k]))) (C:=aO [k]) λx hx=>sort_set_mem.mp hx
   omega
  ·obtain⟨v,e,hm⟩:=lk' t ht
   exact(hk _ hm).1
  have ev:bD n ((aV (aG (aO [k]))).map λx=>(bY k x).getD nT)=bD n (dL [k]):=uI n _ _ λv=>by
   rw[qg_,vls_mem]
   constructor
   ·rintro⟨x,hx,rfl⟩
    obtain⟨v,e,hm⟩:=lk' x hx
    rw[e]
    exact⟨k,.head _,x,hm⟩
   ·rintro⟨k',hk',x,hm⟩
    rw[qW_]at hk'
    subst hk'
    refine⟨x,sort_set_mem.mpr (by rw[enm];exact qg_.mpr ⟨_,hm,rfl⟩),?_⟩
    rw[qT nd hm]
    rfl
  rw[<-ev]at q
  refine⟨by rw[qc_];omega,dY sT (λx=>(bY k x).getD nT) (λx hx R q=>?_) ⟨V,hV,_,rfl,by rw[qc_];omega,λv hv=>?_,by simp,q⟩⟩
  ·obtain⟨v,e,hm⟩:=lk' x hx
   rw[e]at q
   exact⟨v,e,q⟩
  ·obtain⟨x,hx,rfl⟩:=qg_.mp hv
   obtain⟨v,e,hm⟩:=lk' x hx
   rw[e]
   exact(hk _ hm).2
theorem C20_:bC ["value","kind"] ["value"] (aN sM):=fsc (by decide +kernel)
theorem zLA(h:Has K mg "part_of" sM)(B:Own mg)(G0_:PGood P w K mg base 1 "kind_of" ["value"] rE)(G10_:PGood P w K mg base 4 "words_of" ["texts"] jY)(G18_:PGood P w K mg base (9*n+12) "list_part" ["value"] (zC4 n))(G19_:PGood P w K mg base (9*n+12) "dict_part" ["value"] (zC7 n))   : PGood P w K mg base (9*n+13) "part_of" ["value"] (uR (n+1)):=by
 have nd:=C20_.nd
 refine h.pgood C20_ (fun|_,_,_,_,_,_,[_],_=>rfl) (λf cdv A outer s H E F hr=>
   (aI (bA 1 nd (aL G0_ hr (aD (aC 0) aE)))
   (aI (bF (cH hr (aC 1) aY)
    (aJ (aR (bX (aD aY (aD (bX (aD (aC 0) aE)) aE)))))
    bE)
   (aI (bF (cH hr (aC 1) aY)
    (aJ (aR (bX (aD aY (aD (aC 0) (aD (aC 0) (aD aH aE)))))))
    bE)
   (aI (bF (cH hr (aC 1) aY)
    (aJ (aR (bX (aD aY (aD (aL G10_ hr (aD (bI (cF (aD (aC 0) aE))) aE)) aE)))))
    bE)
   (aI (bF (cH hr (aC 1) aY)
    (aJ (aR (aL G18_ hr (aD (aC 0) aE))))
    bE)
   (aI (bF (cH hr (aC 1) aY)
    (aJ (aR (aL G19_ hr (aD (aC 0) aE))))
    bE)
   (aJ (aR (bX (aD aY aE))))))))))) (λas R q=>?_)
 obtain⟨V,⟨nm,tx,st,sp,hw,rfl⟩,v,rfl,hv,q⟩:=q
 have W:WD n (VD nm tx n):=⟨nm,tx,st,sp,hw,rfl⟩
 rcases VD.six hv with rfl|⟨b,rfl⟩|⟨i,rfl⟩|⟨s,rfl⟩|⟨xs,rfl⟩|⟨k,rfl⟩
 ·have q:=q .nothing rfl
  rw[tJ]at q
  exact⟨rfl,nT,rfl,rfl,_,rfl,sN (by decide +kernel) ⟨_,rfl,sN (by decide +kernel) ⟨_,rfl,sN (by decide +kernel) ⟨_,rfl,sN (by decide +kernel) ⟨_,rfl,sN (by decide +kernel) ⟨by simp,q⟩⟩⟩⟩⟩⟩
 ·have q:=q (.truths [b]) (by cases b<;>rfl)
  rw[pN]at q
  exact⟨rfl,bT b,rfl,rfl,_,rfl,sY ⟨by simp,by simp,q⟩⟩
 ·have q:=q (.numbers i i 0) (by
   show [Pt.numbers i i (GcdM.g (i-i) 0)]=_
   rw[qn2_]
   rfl)
  rw[qA]at q
  exact⟨rfl,iT i,rfl,rfl,_,rfl,sN (show cR 2≠_ by decide +kernel) ⟨_,rfl,sY ⟨by simp,q⟩⟩⟩
 ·have q:=q (.texts (bP [s])) rfl
  rw[pT]at q
  have hs:=hw.ts s hv
  exact⟨rfl,sT s,rfl,rfl,_,rfl,sN (show cR 3≠_ by decide +kernel) ⟨_,rfl,sN (show cR 3≠_ by decide +kernel) ⟨_,rfl,sY ⟨by simp,[s],rfl,by simp,by simp,Nat.le_trans (qO _) (by simp),λt ht=>by rw[List.mem_singleton.mp ht];exact⟨hs.1,by have:=hs.2;omega⟩,by simp,q⟩⟩⟩⟩
 ·have q:=q (.lists (xs.length:Nat) (xs.length:Nat) (bD n xs)) (by
   show [Pt.lists (xs.length:Nat) (xs.length:Nat) (bD n (xs++[]))]=_
   rw[qN_])
  exact⟨rfl,.seq false xs,rfl,trivial,_,rfl,sN (show cR 4≠_ by decide +kernel) ⟨_,rfl,sN (show cR 4≠_ by decide +kernel) ⟨_,rfl,sN (show cR 4≠_ by decide +kernel) ⟨_,rfl,sY ⟨VD nm tx n,W,xs,rfl,qi_ hv.1 (by decide),hv.2,q⟩⟩⟩⟩⟩
 ·have q:=q (dcP (bD n) [k]) rfl
  exact⟨rfl,.dct k,rfl,trivial,_,rfl,sN (show cR 5≠_ by decide +kernel) ⟨_,rfl,sN (show cR 5≠_ by decide +kernel) ⟨_,rfl,sN (show cR 5≠_ by decide +kernel) ⟨_,rfl,sN (show cR 5≠_ by decide +kernel) ⟨_,rfl,sY ⟨VD nm tx n,W,k,rfl,hv.1,qi_ hv.2.1 (by decide),λkt hkt=>⟨⟨(hw.ns kt.1 (hv.2.2 kt hkt).1).1,by have:=(hw.ns kt.1 (hv.2.2 kt hkt).1).2;omega⟩,(hv.2.2 kt hkt).2⟩,q⟩⟩⟩⟩⟩⟩
theorem C21_:bC ["value"] ["value"] (aN sL):=fsc (by decide +kernel)
theorem zDd(h:Has K mg "form_of" sL)(B:Own mg)(G20_:PGood P w K mg base (9*n+9) "part_of" ["value"] (uR n))   : PGood P w K mg base (9*n+10) "form_of" ["value"] (nD n):=by
 have nd:=C21_.nd
 refine h.pgood C21_ (fun|_,_,_,_,_,_,[_],_=>rfl) (λf cdv A outer s H E F hr=>
   (aJ (aR (bX (aD (aL G20_ hr (aD (aC 0) aE)) aE))))) (λas R q=>?_)
 obtain⟨V,hV,v,rfl,hv,q⟩:=q
 refine⟨rfl,V,hV,v,rfl,hv,λp e=>⟨by simp,?_⟩⟩
 rw[e]at q
 exact q
theorem zBQ(ht:Has K mg "told" oP)(hf:Has K mg "form_of" sL)(hp:Has K mg "part_of" sM)(hl:Has K mg "list_part" sO)(hd:Has K mg "dict_part" mL)(ha:Has K mg "all_joined" mJ)(B:Own mg)
  (G0_:PGood P w K mg base 1 "kind_of" ["value"] rE) (G10_:PGood P w K mg base 4 "words_of" ["texts"] jY) (GMOST_FIELDS:eG K mg "MOST_FIELDS" (iT 8)) (Gj:∀n:Nat,PGood P w K mg base (9*n+9) "joined" ["one","other"] (ptJ (bD n) (WD n))):∀n:Nat,PGood P w K mg base (9*n+10) "form_of" ["value"] (nD n)/\PGood P w K mg base (9*n+11) "told" ["samples"] (nZ n)
 |0=>by
  have p0:PGood P w K mg base 9 "part_of" ["value"] (uR 0):=hp.pfalse C20_ (fun|_,_,_,_,_,_,[_],_=>rfl) λas R ⟨V,⟨nm,tx,st,sp,hw,e⟩,v,_,hv,_⟩=>by subst e;exact hv
  have f0:=zDd (n:=0) hf B p0
  exact⟨f0,zDb (n:=0) ht B (xS (lv:=9) ha B (Gj 0)) f0⟩
 |n+1=>by
  obtain⟨f,t⟩:=zBQ ht hf hp hl hd ha B G0_ G10_ GMOST_FIELDS Gj n
  have f1:=zDd (n:=n+1) hf B ((zLA (n:=n) hp B G0_ G10_ (zLC hl B t) (zLB hd B f t G10_ GMOST_FIELDS)).mono (by omega))
  exact⟨f1,zDb (n:=n+1) ht B (xS (lv:=9*(n+1)+9) ha B (Gj (n+1))) f1⟩
end
end My
namespace L2
open PySem PySem.Spec PyProof.Rows
section
variable{X:Cx}{F:Fm}
def zKu(u v:UT):UTl:=λρ Q=>u ρ λT ρ1=>∃xs:List Tv,T=.seq false xs/\v ρ1 λU ρ2=>∃k:Int,U=iT k/\(xs.length*k.toNat<=100000/\0<=k/\k<2 ^ 62)/\Q (List.replicate k.toNat xs).flatten ρ2
theorem zHR{a b:Expr}{u v:UT}{pos:Pos}(ha:UE X F a u)(hb:UE X F b v):UL X F (.BinOp a .Mult b pos) (zKu u v):=⟨PE.imp (cL zBF ha.pe hb.pe) λσ H QQ ⟨ρ,Q,f,h,k⟩=>by
 refine⟨ρ,_,f,h,λx T H1 ρ1 s1 v1 q1=>?_⟩
 obtain⟨xs,rfl,h2⟩:=q1
 obtain⟨l,ys,rfl,⟨ob,hs⟩,z,p⟩:=v1.seqI
 refine⟨ρ1,_,s1.fr,h2,λy U H2 ρ2 s2 v2 q2=>?_⟩
 obtain⟨n,rfl,⟨h1,h3,h4⟩,q⟩:=q2
 obtain⟨rfl,_⟩:=v2.leafI
 have l1:ys.length=_:=Paired.length p
 have hh:=s2.hs s1.fr
 refine⟨l,_,ys,rfl,rfl,.inr ⟨ob,hh _ _ rfl hs⟩,by omega,by omega,gH (by rw[l1];exact h1),λb nb=>?_⟩
 have sm:=bZ (o:=.lst (List.replicate n.toNat ys).flatten) nb
 refine k _ _ _ _ _ ((s1.trans s2).trans (Stp.same s2.fr sm)) ((s1.trans s2).non nb) aZ (by rw[qW,qx1_];exact h1) ?_ q
 exact VAs.hs (hh.trans (gK nb)) (tQ p _)⟩
end
end L2
namespace My
open PySem L2 PyProof.Rows WordM
section
variable{P:Program}{w:World}{K:W.Frag}{mg:Str->Option Value}{base:Heap}
theorem rL{α:Type}(l:List α){i:Int}(h0:0<=i)(h1:i<=l.length):fJ l none (some i)=l.take i.toNat:=by
 unfold fJ HT.sIx
 dsimp only
 rw[if_neg (by omega),ql2_]
 congr 1
 omega
theorem vB{α:Type}(l:List α){i:Int}(h0:0<=i)(h1:i<=l.length):fJ l (some i) none=l.drop i.toNat:=by
 unfold fJ HT.sIx
 dsimp only
 rw[if_neg (by omega),Nat.min_eq_left (by omega),qg2_ (by rw[qI1_];exact qe_ _)]
def vL:PSp:=λas R=>∃nm tx st sp,∃(vs:List Tv) (i:Int),as=[.va (.seq false vs),.va (iT i)]/\hE nm tx st sp/\vs.length<=60/\(∀v∈vs,VD nm tx 2 v)/\0<=i/\i<=vs.length/\R (bT true)
theorem C50_:bC ["_law_samples_here","_law_at","_law_due_here","_law_halves","_law_one_by_one","_law_value_here"] ["_law_samples_here","_law_at"] (aN wS):=fsc (by decide +kernel)
theorem zLd(h:Has K mg "_law_right" wS)(B:Own mg)(G49_:PGood P w K mg base 9 "_law_due" ["_law_values"] (lZ 3))(G30_:PGood P w K mg base 27 "joined" ["one","other"] (ptJ (bD 2) (WD 2)))(G32_:PGood P w K mg base 29 "told" ["samples"] (nZ 2))(G21_:PGood P w K mg base 28 "form_of" ["value"] (nD 2))(G43_:PGood P w K mg base 15 "_law_same" ["_law_one","_law_other"] (oC 14))   : PGood P w K mg base 30 "_law_right" ["_law_samples_here","_law_at"] vL:=by
 have nd:=C50_.nd
 refine h.pgood C50_ (fun|_,_,_,_,_,_,[_,_],_=>rfl) (λf cdv A outer s H E F hr=>
   (aI (bA 2 nd (aL G49_ hr (aD (aC 0) aE)))
   (aI (bA 3 nd (aL G30_ hr (aD (aL G32_ hr (aD (fO fV (aC 0) fR (fQ (aC 1))) aE)) (aD (aL G32_ hr (aD (fO fV (aC 0) (fQ (aC 1)) fR) aE)) aE))))
   (aI (bA 4 nd (bX aE))
   (aI (dN (m:=6) qD_ rfl (bU (aC 0)) (cW 5 (by decide) nd rfl (.inl rfl))
    (aJ (bA 4 nd (aL G30_ hr (aD (aC 4) (aD (aL G21_ hr (aD (aC 5) aE)) aE))))))
   (aJ (aR (gJ (aL G43_ hr (aD (aL G32_ hr (aD (aC 0) aE)) (aD (aC 2) aE))) (gJ (aL G43_ hr (aD (aC 3) (aD (aC 2) aE))) (kE (aL G43_ hr (aD (aC 4) (aD (aC 2) aE))))))))))))) (λas R q=>?_)
 obtain⟨nm,tx,st,sp,vs,i,rfl,hw,l6,hv,i0,i1,q⟩:=q
 have W2:WD 2 (VD nm tx 2):=⟨nm,tx,st,sp,hw,rfl⟩
 have sm:∀X:List Tv,SameD 14 (bS (bD 2 X)):=λX=>zAI 2 X
 refine⟨rfl,2,nm,tx,st,sp,vs,rfl,hw,hv,by omega,by decide,by decide,?_⟩
 have vt:∀v∈vs.take i.toNat,VD nm tx 2 v:=λv h=>hv v (qc2_ h)
 have vd:∀v∈vs.drop i.toNat,VD nm tx 2 v:=λv h=>hv v (List.mem_of_mem_drop h)
 show PEnds.nx _ _
 refine nxE (ρ':=[.va (.seq false vs),.va (iT i),.va (bS (bD 2 vs)),.no,.no,.no]) rfl ?_
 refine⟨_,rfl,VD nm tx 2,W2,_,rfl,?_,?_,?_⟩
 ·rw[rL vs i0 i1,qO_];omega
 ·rw[rL vs i0 i1];exact vt
 refine⟨_,rfl,VD nm tx 2,W2,_,rfl,?_,?_,?_⟩
 ·rw[vB vs i0 i1,qI1_];omega
 ·rw[vB vs i0 i1];exact vd
 rw[rL vs i0 i1,vB vs i0 i1]
 refine⟨VD nm tx 2,W2,_,_,rfl,vt,vd,?_⟩
 rw[qD2_]
 refine⟨by simp,?_⟩
 show PEnds.nx _ _
 refine nxE (ρ':=[.va (.seq false vs),.va (iT i),.va (bS (bD 2 vs)),.va (bS (bD 2 vs)),.va (bS (bD 2 [])),.no]) (by rw[zA8];rfl) ?_
 refine jM (λj ρ=>∃s5:Sl,ρ=[.va (.seq false vs),.va (iT i),.va (bS (bD 2 vs)),.va (bS (bD 2 vs)),.va (bS (bD 2 (vs.take j))),s5]) ⟨_,rfl⟩ ?_ ?_
 ·rintro j v _ N hj ⟨s5,rfl⟩ hN
  have hvj:=hv v (qz_ hj)
  refine⟨VD nm tx 2,W2,v,rfl,hvj,VD nm tx 2,W2,vs.take j,[v],rfl,λx hx=>hv x (qc2_ hx),λx hx=>by rw[qW_.mp hx];exact hvj,hN _ ⟨.va v,?_⟩⟩
  rw[qr1_,hj]
  rfl
 ·rintro _ ⟨s5,rfl⟩
  rw[qd1_]
  exact⟨VD nm tx 2,W2,vs,rfl,by omega,hv,_,rfl,sm _,_,rfl,cB ⟨_,rfl,sm _,_,rfl,cB ⟨_,rfl,sm _,q⟩⟩⟩
def uA:PSp:=λas R=>∃nm tx st sp,∃ns:List Str,as=[.dk,.va (dG nm tx st sp),.va (.seq false (ns.map sT))]/\hE nm tx st sp/\ns.length<=11/\(∀x∈ns,x∈nm)/\∀vs:List Tv,vs.length<=12->(∀v∈vs,VD nm tx 2 v)->R (.seq false vs)
theorem C51_:bC ["_law_deck_here","_law_world_here","_law_names","_law_found","_law_name","_law_one","_law_other"] ["_law_deck_here","_law_world_here","_law_names"] (aN wR):=fsc (by decide +kernel)
theorem zLc(h:Has K mg "_law_dicts_of" wR)(B:Own mg)(G35_:PGood P w K mg base 2 "_law_take" ["_law_deck_here","_law_most"] iU)(G42_:PGood P w K mg base 5 "_law_leaf" ["_law_deck_here","_law_world_here"] rD)   : PGood P w K mg base 6 "_law_dicts_of" ["_law_deck_here","_law_world_here","_law_names"] uA:=by
 have nd:=C51_.nd
 refine h.pgood C51_ (fun|_,_,_,_,_,_,[_,_,_],_=>rfl) (λf cdv A outer s H E F hr=>
   (aI (fW 3 nd (zHR (bI (cF (aD (zCB zHW) aE))) (aL G35_ hr (cC 0 (aD aH aE)))))
   (aI (dN (m:=7) qD_ rfl (bU (aC 2)) (cW 4 (by decide) nd rfl (.inl rfl))
    (aI (zGA (i:=5) nd rfl (.inl rfl) (zHV (aC 4) (aL G42_ hr (cC 0 (aD (aC 1) aE)))))
    (aI (dN (m:=7) qD_ rfl (bU (aC 2)) (cW 6 (by decide) nd rfl (.inl rfl))
     (aJ (bF (cH hr (aL G35_ hr (cC 0 (aD aH aE))) aH)
      (aJ (zBl (i:=5) (oM hr) rfl (by first|exact Or.inl rfl|exact Or.inr (Or.inl rfl)|exact Or.inr (Or.inr rfl)) (aC 6) (aL G42_ hr (cC 0 (aD (aC 1) aE)))))
      bE)))
    (aJ (eI (fN 3 (aC 5)))))))
   (aJ (aR (aC 3)))))) (λas R q=>?_)
 obtain⟨nm,tx,st,sp,ns,rfl,hw,ln,hn,q⟩:=q
 have fin:∀kts:List (Str×Tv),((kts.map (·.1)).Nodup/\∀kt∈kts,kt.1∈nm/\VD nm tx 1 kt.2)->kts.length<=11/\VD nm tx 2 (.dct kts):=λkts ⟨nd,h⟩=>by
  have l:=WordM.nodup_len nd (m:=nm) λx hx=>by
   obtain⟨kt,hkt,rfl⟩:=qg_.mp hx
   exact(h kt hkt).1
  rw[qc_,hw.n11]at l
  exact⟨l,nd,l,h⟩
 have leaf:∀T,wP tx T->VD nm tx 1 T:=λT hT=>by
  cases T with
  |leaf v=>cases v<;>first|exact hT|exact False.elim hT
  |seq t xs=>exact False.elim hT
  |dct k=>exact False.elim hT
 have put:∀(kts:List (Str×Tv)) (x:Str) (T:Tv),((kts.map (·.1)).Nodup/\∀kt∈kts,kt.1∈nm/\VD nm tx 1 kt.2)->x∈nm->VD nm tx 1 T->((eR kts x T).map (·.1)).Nodup/\∀kt∈eR kts x T,kt.1∈nm/\VD nm tx 1 kt.2:=λkts x T ⟨nd,h⟩ hx hT=>⟨tO nd,λkt hk=>by
  rcases zAJ hk with z|rfl
  ·exact h kt z
  ·exact⟨hx,hT⟩⟩
 refine⟨rfl,by simp,_,rfl,rfl,2,rfl,by decide,cN (by decide) (by decide),λr r0 r1=>⟨r,rfl,⟨by simp;omega,r0,by omega⟩,?_⟩⟩
 have lr:(List.replicate r.toNat [Tv.dct []]).flatten.length<=1/\∀v∈(List.replicate r.toNat [Tv.dct []]).flatten,VD nm tx 2 v:=by
  have:r.toNat=0\/r.toNat=1:=by omega
  rcases this with e|e<;>rw[e]
  ·exact⟨by simp,λv hv=>by simp at hv⟩
  ·refine⟨by simp,λv hv=>?_⟩
   have:v=.dct []:=by simpa using hv
   rw[this]
   exact(fin [] ⟨qN1_,λkt h=>nomatch h⟩).2
 generalize (List.replicate r.toNat [Tv.dct []]).flatten=L0 at lr
 show PEnds.nx _ _
 refine nxE (ρ':=[.dk,.va (dG nm tx st sp),.va (.seq false (ns.map sT)),.own L0,.no,.no,.no]) rfl ?_
 refine fS sT (l:=ns) (λi ρ=>∃(L:List Tv) (s4 s5 s6:Sl),L.length<=1+i/\(∀v∈L,VD nm tx 2 v)/\ρ=[.dk,.va (dG nm tx st sp),.va (.seq false (ns.map sT)),.own L,s4,s5,s6]) ⟨L0,_,_,_,by omega,lr.2,rfl⟩ ?_ ?_
 ·rintro i x _ N hx ⟨L,s4,s5,s6,lL,hL,rfl⟩ hN
  have hxn:=hn x (qz_ hx)
  refine⟨_,rfl,rfl,nm,tx,st,sp,rfl,hw,λT hT=>?_⟩
  show PEnds.nx _ _
  refine nxE (ρ':=[.dk,.va (dG nm tx st sp),.va (.seq false (ns.map sT)),.own L,.va (sT x),.dct [(x,T)],s6]) rfl ?_
  refine fS sT (l:=ns) (λj ρ=>∃(kts:List (Str×Tv)) (s6:Sl),((kts.map (·.1)).Nodup/\∀kt∈kts,kt.1∈nm/\VD nm tx 1 kt.2)/\ρ=[.dk,.va (dG nm tx st sp),.va (.seq false (ns.map sT)),.own L,.va (sT x),.dct kts,s6]) ⟨_,_,⟨by simp,λkt h=>by rw[List.mem_singleton.mp h];exact⟨hxn,leaf T hT⟩⟩,rfl⟩ ?_ ?_
  ·rintro j y _ N' hy ⟨kts,s6,hk,rfl⟩ hN'
   have hyn:=hn y (qz_ hy)
   refine⟨rfl,4,rfl,by decide,cN (by decide) (by decide),λa a0 a1=>⟨_,rfl,eQ (λ_=>?_) (λ_=>hN' _ ⟨kts,_,hk,rfl⟩)⟩⟩
   refine⟨rfl,nm,tx,st,sp,rfl,hw,λU hU=>?_⟩
   have h2:=put kts y U hk hyn (leaf U hU)
   exact⟨⟨_,rfl⟩,kts,y,rfl,rfl,qu2_ (fin _ h2).1 (by decide),hN' _ ⟨_,_,h2,rfl⟩⟩
  ·rintro _ ⟨kts,s6,hk,rfl⟩
   have hi:i<ns.length:=(qw_.mp hx).1
   refine⟨⟨_,rfl⟩,_,rfl,by omega,hN _ ⟨L++[.dct kts],.va (sT x),.va (.dct kts),s6,by rw[qh_];simp;omega,λv hv=>?_,rfl⟩⟩
   rcases qp_.mp hv with z|z
   ·exact hL v z
   ·rw[qW_.mp z];exact(fin _ hk).2
 ·rintro _ ⟨L,s4,s5,s6,lL,hL,rfl⟩
  exact q L (by omega) hL
end
end My
namespace My
open PySem L2 PyProof.Rows WordM
section
variable{P:Program}{w:World}{K:W.Frag}{mg:Str->Option Value}{base:Heap}
theorem zAL{α:Type}{ps rs tx:List α}{j:Nat}{x:α}(h:(ps++rs).Perm tx)(e:rs[j]?=some x):((ps++[x])++rs.eraseIdx j).Perm tx:=by
 obtain⟨hj,rfl⟩:=qw_.mp e
 refine List.Perm.trans ?_ h
 rw[qA1_]
 exact List.Perm.append_left _ (pS rs j hj)
theorem zCQ{nm tx:List Str}{st sp:Int}(hw:hE nm tx st sp)(kts:List (Str×Tv))(h:(kts.map (·.1)).Nodup/\∀kt∈kts,kt.1∈nm/\VD nm tx 1 kt.2):kts.length<=11/\VD nm tx 2 (.dct kts):=by
 have l:=WordM.nodup_len h.1 (m:=nm) λx hx=>by
  obtain⟨kt,hkt,rfl⟩:=qg_.mp hx
  exact(h.2 kt hkt).1
 rw[qc_,hw.n11]at l
 exact⟨l,h.1,l,h.2⟩
theorem zI2{nm tx:List Str}(T:Tv)(hT:wP tx T):VD nm tx 1 T:=by
 cases T with
 |leaf v=>cases v<;>first|exact hT|exact False.elim hT
 |seq t xs=>exact False.elim hT
 |dct k=>exact False.elim hT
theorem zJV{nm tx:List Str}(kts:List (Str×Tv))(x:Str)(T:Tv)(h:(kts.map (·.1)).Nodup/\∀kt∈kts,kt.1∈nm/\VD nm tx 1 kt.2)(hx:x∈nm)(hT:VD nm tx 1 T):((eR kts x T).map (·.1)).Nodup/\∀kt∈eR kts x T,kt.1∈nm/\VD nm tx 1 kt.2:=⟨tO h.1,λkt hk=>by
 rcases zAJ hk with z|rfl
 ·exact h.2 kt z
 ·exact⟨hx,hT⟩⟩
theorem C52_:bC ["_law_script","_law_deck_here","_law_world_here","_law_many","_law_texts","_law_some","_law_names","_law_dicts_here","_law_whole","_law_name"] ["_law_script"] (aN gR):=fsc (by decide +kernel)
theorem zIX{f:Addr}{fd:FuncData}(F:Fun K "law" "law" gR f fd)(B:Own mg)(G34_:Good P w K mg base 1 "_law_deck" ["_law_script"] (zCa K))(G40_:PGood P w K mg base 5 "_law_world" ["_law_deck_here"] vJ)(G35_:PGood P w K mg base 2 "_law_take" ["_law_deck_here","_law_most"] iU)(G50_:PGood P w K mg base 30 "_law_right" ["_law_samples_here","_law_at"] vL)(G51_:PGood P w K mg base 6 "_law_dicts_of" ["_law_deck_here","_law_world_here","_law_names"] uA)(G42_:PGood P w K mg base 5 "_law_leaf" ["_law_deck_here","_law_world_here"] rD)   : FnOk P w K mg base CX0 33 f fd ["_law_script"] (rN K):=by
 refine F.ok C52_ (λvs H Q E q=>?_) (λcdv A outer s H vs Q E hr q=>?_)
 ·obtain⟨a,ns,rfl,_⟩:=q
  rfl
 ·obtain⟨aa,ns,rfl,hS,hlen,q⟩:=q
  have nd:=C52_.nd
  refine⟨_,(gW (iV (i:=1) nd rfl (by first|exact Or.inl rfl|exact Or.inr rfl) (rT G34_ (hr.mono (by omega)) rfl (cT (pv 0) dD)))
   (zGY λF=>(aI (bA 2 nd (aL G40_ hr (cC 1 aE)))
   (aI (dN (m:=10) qD_ rfl (bU (bX (aD aH (aD aH (aD aH aE))))) (cW 3 (by decide) nd rfl (.inl rfl))
    (aI (fW 4 nd (mT pU rfl B.list_ boot_list (aD (aT hr (aC 2) aH) aE)))
    (aI (eO (sc:=aN gR) (XN:=["_law_script","_law_deck_here","_law_world_here","_law_many","_law_texts","_law_some","_law_names","_law_dicts_here","_law_whole","_law_name"]) (N:=["_law_k","_law_deck_here","_law_texts"]) (fr:=[1,4]) 5 nd (mU rfl B.range (aD (aC 3) aE)) (λ_ _ _ _ _=>gI) (λ_ _ _ _ _=>(zAC 2 (aL G35_ hr (cC 1 (aD (qM λF=>(bB cA rfl B.len qn_ (aD (aC 2) aE))) aE))))))
    (aI (bA 5 nd (bO cU (aC 5) (fO fV (aC 5) fR (fQ (aL G35_ hr (cC 1 (aD aH aE)))))))
    (aJ (bF (jQ (cS (aL G50_ hr (aD (aC 5) (aD (aL G35_ hr (cC 1 (aD (bO cU (bB cA rfl B.len qn_ (aD (aC 5) aE)) aH) aE))) aE)))))
     (aJ (aR iD))
     bE))))))
   (aI (dN (m:=10) qD_ rfl (bU (bX (aD aH (aD aH (aD aH (aD aH aE)))))) (cW 3 (by decide) nd rfl (.inl rfl))
    (aI (fW 6 nd (mT pU rfl B.list_ boot_list (aD (aT hr (aC 2) aH) aE)))
    (aI (eO (sc:=aN gR) (XN:=["_law_script","_law_deck_here","_law_world_here","_law_many","_law_texts","_law_some","_law_names","_law_dicts_here","_law_whole","_law_name"]) (N:=["_law_k","_law_deck_here","_law_names"]) (fr:=[1,6]) 5 nd (mU rfl B.range (aD (aC 3) aE)) (λ_ _ _ _ _=>gI) (λ_ _ _ _ _=>(zAC 2 (aL G35_ hr (cC 1 (aD (qM λF=>(bB cA rfl B.len qn_ (aD (aC 2) aE))) aE))))))
    (aI (bA 7 nd (aL G51_ hr (cC 1 (aD (aC 2) (aD (aC 5) aE)))))
    (aI (zFw (i:=8) nd rfl (.inl rfl))
    (aI (dN (m:=10) qD_ rfl (bU (aC 5)) (cW 9 (by decide) nd rfl (.inl rfl))
     (aJ (zBl (i:=8) (oM hr) rfl (by first|exact Or.inl rfl|exact Or.inr (Or.inl rfl)|exact Or.inr (Or.inr rfl)) (aC 9) (aL G42_ hr (cC 1 (aD (aC 2) aE))))))
    (aI (bF (fX (iY (jQ (cS (aL G50_ hr (aD (aC 7) (aD (aL G35_ hr (cC 1 (aD (bO cU (bB cA rfl B.len qn_ (aD (aC 7) aE)) aH) aE))) aE))))) (jP (jQ (cS (aL G50_ hr (aD (bI (cF (aD (aC 8) aE))) (aD aH aE))))))))
     (aJ (aR iD))
     bE)
    (aJ (bF (jQ (cS (aL G50_ hr (aD (bO cU (aC 7) (bI (cF (aD (aC 8) aE)))) (aD (aL G35_ hr (cC 1 (aD (bO cU (bB cA rfl B.len qn_ (aD (aC 7) aE)) aH) aE))) aE)))))
     (aJ (aR iD))
     bE)))))))))
   (aJ (aR iD))))))),?_⟩
  refine⟨_,rfl,aa,ns,rfl,hS,λp c H1 np nc d1 s1=>?_⟩
  refine zHl (N:=["_law_script","_law_deck_here","_law_world_here","_law_many","_law_texts","_law_some","_law_names","_law_dicts_here","_law_whole","_law_name"]) (by decide) d1 q ?_
  clear q hS hlen hr d1 s1 np nc
  refine⟨rfl,rfl,λnm tx st sp hw=>?_⟩
  show PEnds.nx _ _
  refine nxE (ρ':=[.no,.dk,.va (dG nm tx st sp),.no,.no,.no,.no,.no,.no,.no]) rfl ?_
  refine⟨by simp,?_⟩
  refine jM (λi ρ=>∃s3 s4 s5:Sl,ρ=[.no,.dk,.va (dG nm tx st sp),s3,s4,s5,.no,.no,.no,.no]) ⟨_,_,_,rfl⟩ ?_ ?_
  ·rintro i T _ N hT ⟨s3,s4,s5,rfl⟩ hN
   have hm:∃m:Int,T=iT m/\5<=m/\m<=7:=by
    have:=qz_ hT
    simp only[List.mem_cons,List.not_mem_nil,or_false]at this
    rcases this with rfl|rfl|rfl
    ·exact⟨5,rfl,by decide,by decide⟩
    ·exact⟨6,rfl,by decide,by decide⟩
    ·exact⟨7,rfl,by decide,by decide⟩
   obtain⟨m,rfl,m0,m1⟩:=hm
   refine⟨_,rfl,false,_,rfl,?_⟩
   show PEnds.nx _ _
   refine nxE (ρ':=[.no,.dk,.va (dG nm tx st sp),.va (iT m),.own (tx.map sT),s5,.no,.no,.no,.no]) rfl ?_
   refine⟨_,rfl,by omega,by omega,by rw[kB];omega,?_⟩
   refine zAp (λi Us ρ=>∃ps rs:List Str,Us=ps.map sT/\ps.length=i/\(ps++rs).Perm tx/\ρ=[.no,.dk,.va (dG nm tx st sp),.va (iT m),.own (rs.map sT),s5,.no,.no,.no,.no]) ⟨[],tx,rfl,rfl,List.Perm.refl _,rfl⟩ ?_ ?_
   ·rintro i T _ _ hT ⟨ps,rs,rfl,hl,hp,rfl⟩ R hR
    have hi:=(nC hT).1
    have hlen:=hp.length_eq
    rw[qh_,hw.t9]at hlen
    refine⟨⟨_,rfl⟩,rfl,_,rfl,(rs.map sT).length,rfl,by rw[qc_];omega,by rw[qc_];exact cN (by omega) (by omega),λr r0 r1=>?_⟩
    rw[qc_]at r1
    obtain⟨x,hx⟩:=zCy r0 r1
    refine⟨r,_,sT x,rfl,rfl,r0,by rw[qv_,hx];rfl,hR (some (sT x)) _ ⟨ps++[x],rs.eraseIdx r.toNat,by rw[qG_];rfl,by rw[qh_,hl];rfl,zAL hp hx,?_⟩⟩
    show [Sl.no,.dk,.va (dG nm tx st sp),.va (iT m),.own ((rs.map sT).eraseIdx r.toNat),s5,.no,.no,.no,.no]=_
    rw[uF]
   ·rintro _ _ ⟨ps,rs,rfl,hl,hp,rfl⟩
    rw[kB]at hl
    have hpx:∀x∈ps,x∈tx:=λx h=>hp.mem_iff.mp (qB_ _ h)
    refine⟨rfl,3,rfl,by decide,cN (by decide) (by decide),λr r0 r1=>⟨r,rfl,?_⟩⟩
    have lm:(ps.map sT).length=m.toNat:=by rw[qc_,hl]
    have tm:((ps.map sT).take r.toNat).length<=2:=by rw[qO_];omega
    have hv:∀v∈ps.map sT++(ps.map sT).take r.toNat,VD nm tx 2 v:=λv h=>by
     obtain⟨x,hx,rfl⟩:=qg_.mp ((qp_.mp h).elim id qc2_)
     exact hpx x hx
    have ec:fJ (ps.map sT) none (some r)=(ps.map sT).take r.toNat:=rL _ r0 (by omega)
    refine⟨by rw[ec];omega,?_⟩
    rw[ec]
    have lv:(ps.map sT++(ps.map sT).take r.toNat).length<=9:=by rw[qh_];omega
    generalize ps.map sT++(ps.map sT).take r.toNat=vs at hv lv
    show PEnds.nx _ _
    refine nxE (ρ':=[.no,.dk,.va (dG nm tx st sp),.va (iT m),.own (rs.map sT),.va (.seq false vs),.no,.no,.no,.no]) rfl ?_
    refine⟨rfl,(vs.length:Nat)+1,rfl,by omega,cN (by omega) (by omega),λa a0 a1=>⟨nm,tx,st,sp,vs,a,rfl,hw,by omega,hv,a0,by omega,?_⟩⟩
    exact⟨_,rfl,aW (hN _ ⟨_,_,_,rfl⟩)⟩
  ·rintro _ ⟨s3,s4,s5,rfl⟩
   refine⟨by simp,?_⟩
   refine jM (λi ρ=>∃s3 s5 s6 s7 s8 s9:Sl,ρ=[.no,.dk,.va (dG nm tx st sp),s3,s4,s5,s6,s7,s8,s9]) ⟨_,_,_,_,_,_,rfl⟩ ?_ (λ_ ⟨_,_,_,_,_,_,e⟩=>by subst e;rfl)
   rintro i T _ N hT ⟨s3,s5,s6,s7,s8,s9,rfl⟩ hN
   have hm:∃m:Int,T=iT m/\5<=m/\m<=9:=by
    have:=qz_ hT
    simp only[List.mem_cons,List.not_mem_nil,or_false]at this
    rcases this with rfl|rfl|rfl|rfl
    ·exact⟨5,rfl,by decide,by decide⟩
    ·exact⟨7,rfl,by decide,by decide⟩
    ·exact⟨8,rfl,by decide,by decide⟩
    ·exact⟨9,rfl,by decide,by decide⟩
   obtain⟨m,rfl,m0,m1⟩:=hm
   refine⟨_,rfl,false,_,rfl,?_⟩
   show PEnds.nx _ _
   refine nxE (ρ':=[.no,.dk,.va (dG nm tx st sp),.va (iT m),s4,s5,.own (nm.map sT),s7,s8,s9]) rfl ?_
   refine⟨_,rfl,by omega,by omega,by rw[kB];omega,?_⟩
   refine zAp (λi Us ρ=>∃ps rs:List Str,Us=ps.map sT/\ps.length=i/\(ps++rs).Perm nm/\ρ=[.no,.dk,.va (dG nm tx st sp),.va (iT m),s4,s5,.own (rs.map sT),s7,s8,s9]) ⟨[],nm,rfl,rfl,List.Perm.refl _,rfl⟩ ?_ ?_
   ·rintro i T _ _ hT ⟨ps,rs,rfl,hl,hp,rfl⟩ R hR
    have hi:=(nC hT).1
    have hlen:=hp.length_eq
    rw[qh_,hw.n11]at hlen
    refine⟨⟨_,rfl⟩,rfl,_,rfl,(rs.map sT).length,rfl,by rw[qc_];omega,by rw[qc_];exact cN (by omega) (by omega),λr r0 r1=>?_⟩
    rw[qc_]at r1
    obtain⟨x,hx⟩:=zCy r0 r1
    refine⟨r,_,sT x,rfl,rfl,r0,by rw[qv_,hx];rfl,hR (some (sT x)) _ ⟨ps++[x],rs.eraseIdx r.toNat,by rw[qG_];rfl,by rw[qh_,hl];rfl,zAL hp hx,?_⟩⟩
    show [Sl.no,.dk,.va (dG nm tx st sp),.va (iT m),s4,s5,.own ((rs.map sT).eraseIdx r.toNat),s7,s8,s9]=_
    rw[uF]
   ·rintro _ _ ⟨ps,rs,rfl,hl,hp,rfl⟩
    rw[kB]at hl
    have hpx:∀x∈ps,x∈nm:=λx h=>hp.mem_iff.mp (qB_ _ h)
    refine⟨rfl,nm,tx,st,sp,ps,rfl,hw,by omega,hpx,λds ld hd=>?_⟩
    show PEnds.nx _ _
    refine nxE (ρ':=[.no,.dk,.va (dG nm tx st sp),.va (iT m),s4,.va (.seq false (ps.map sT)),.own (rs.map sT),.va (.seq false ds),s8,s9]) rfl ?_
    refine fS sT (l:=ps) (λj ρ=>∃(kts:List (Str×Tv)) (s9:Sl),((kts.map (·.1)).Nodup/\∀kt∈kts,kt.1∈nm/\VD nm tx 1 kt.2)/\ρ=[.no,.dk,.va (dG nm tx st sp),.va (iT m),s4,.va (.seq false (ps.map sT)),.own (rs.map sT),.va (.seq false ds),.dct kts,s9]) ⟨[],_,⟨qN1_,λkt h=>nomatch h⟩,rfl⟩ ?_ ?_
    ·rintro j y _ N' hy ⟨kts,s9,hk,rfl⟩ hN'
     have hyn:=hpx y (qz_ hy)
     refine⟨rfl,nm,tx,st,sp,rfl,hw,λU hU=>?_⟩
     have h2:=zJV kts y U hk hyn (zI2 U hU)
     exact⟨⟨_,rfl⟩,kts,y,rfl,rfl,qu2_ (zCQ hw _ h2).1 (by decide),hN' _ ⟨_,_,h2,rfl⟩⟩
    ·rintro _ ⟨kts,s9,hk,rfl⟩
     have fk:=zCQ hw kts hk
     refine⟨rfl,(ds.length:Nat)+1,rfl,by omega,cN (by omega) (by omega),λa a0 a1=>⟨nm,tx,st,sp,ds,a,rfl,hw,by omega,hd,a0,by omega,?_⟩⟩
     refine⟨_,rfl,aW ⟨by simp,nm,tx,st,sp,[.dct kts],1,rfl,hw,by simp,(λv h=>by rw[List.mem_singleton.mp h];exact fk.2),by decide,by simp,?_⟩⟩
     refine⟨_,rfl,aW ?_⟩
     refine⟨by simp,⟨by simp;omega,?_⟩⟩
     refine⟨rfl,(ds.length:Nat)+1,rfl,by omega,cN (by omega) (by omega),λa a0 a1=>⟨nm,tx,st,sp,ds++[.dct kts],a,rfl,hw,by rw[qh_];simp;omega,(λv h=>?_),a0,by rw[qh_];simp;omega,?_⟩⟩
     ·rcases qp_.mp h with z|z
      ·exact hd v z
      ·rw[qW_.mp z];exact fk.2
     exact⟨_,rfl,aW (hN _ ⟨_,_,_,_,_,_,rfl⟩)⟩
end
end My
namespace My
open PySem L2 PyProof.Rows
open WordM
open PySem
theorem all_mk{l:W.OpenLaw}{w:World}{K:W.Frag}{h:Heap}{mg:Str->Option Value}{fa:Addr}(X:K.In h)(G:h.Ns mainGlobals mg)(hfa:mg "law"=some (.ref fa)){f52:Addr}{v_52 t_52:Option Addr}{p_52:Array (Option Value)}{u_52 w_52 x_52 y_52 r_52 q_52:Value}
 (h0_:Has K mg "kind_of" s0_)
 (h1_:Has K mg "divisor_of" s1_)
 (h2_:Has K mg "run_of" s2_)
 (h3_:Has K mg "telling_numbers" s3_)
 (h4_:Has K mg "run_joined" s4_)
 (h5_:Has K mg "has_mark" s5_)
 (h6_:Has K mg "marks_of" s6_)
 (h7_:Has K mg "marks_joined" s7_)
 (h8_:Has K mg "shared_head" s8_)
 (h9_:Has K mg "make_of" s9_)
 (h10_:Has K mg "words_of" xL)
 (h11_:Has K mg "as_make" xK)
 (h12_:Has K mg "with_shorter_head" xJ)
 (h13_:Has K mg "makes_joined" xI)
 (h14_:Has K mg "words_joined" xH)
 (h15_:Has K mg "part_kind" xG)
 (h16_:Has K mg "part_for" xF)
 (h17_:Has K mg "forms_within" sP)
 (h18_:Has K mg "list_part" sO)
 (h19_:Has K mg "dict_part" mL)
 (h20_:Has K mg "part_of" sM)
 (h21_:Has K mg "form_of" sL)
 (h22_:Has K mg "fields_by_name" sK)
 (h23_:Has K mg "field_joined" oW)
 (h24_:Has K mg "records_joined" oV)
 (h25_:Has K mg "name_words" sJ)
 (h26_:Has K mg "tables_joined" oU)
 (h27_:Has K mg "dicts_joined" oS)
 (h28_:Has K mg "lists_joined" oR)
 (h29_:Has K mg "parts_joined" oQ)
 (h30_:Has K mg "joined" mK)
 (h31_:Has K mg "all_joined" mJ)
 (h32_:Has K mg "told" oP)
 (h33_:Has K mg "_law_mixed" xE)
 (h34_:Has K mg "_law_deck" xD)
 (h35_:Has K mg "_law_take" xC)
 (h36_:Has K mg "_law_signs" xB)
 (h37_:Has K mg "_law_text" xA)
 (h38_:Has K mg "_law_unlike" wZ)
 (h39_:Has K mg "_law_far" wY)
 (h40_:Has K mg "_law_world" sI)
 (h41_:Has K mg "_law_number" wX)
 (h42_:Has K mg "_law_leaf" wW)
 (h43_:Has K mg "_law_same" mI)
 (h44_:Has K mg "_law_divisor" wV)
 (h45_:Has K mg "_law_mark" wU)
 (h46_:Has K mg "_law_words" kP)
 (h47_:Has K mg "_law_run" wT)
 (h48_:Has K mg "_law_dicts" kO)
 (h49_:Has K mg "_law_due" gS)
 (h50_:Has K mg "_law_right" wS)
 (h51_:Has K mg "_law_dicts_of" wR)
 (a52:W.nsIn K mainGlobals "law"=some (some (.ref f52))) (l52:K.lookup f52=some ⟨u_52,v_52,.func (W.fnOf "law" "law" (hC gR) (fD gR) (aN gR) .none w_52 x_52 y_52 t_52 r_52 q_52),p_52⟩) (c52:W.codeIn K r_52 "law"=true) (k52:W.keepIn K (.ref f52)=true)
    (z0:W.nsIn K mainGlobals "len"=some none) (z1:W.nsIn K mainGlobals "range"=some none) (z2:W.nsIn K mainGlobals "isinstance"=some none) (z3:W.nsIn K mainGlobals "int"=some none) (z4:W.nsIn K mainGlobals "bool"=some none) (z5:W.nsIn K mainGlobals "str"=some none) (z6:W.nsIn K mainGlobals "list"=some none) (z7:W.nsIn K mainGlobals "tuple"=some none) (z8:W.nsIn K mainGlobals "dict"=some none) (z9:W.nsIn K mainGlobals "sum"=some none) (z10:W.nsIn K mainGlobals "min"=some none) (z11:W.nsIn K mainGlobals "max"=some none) (z12:W.nsIn K mainGlobals "all"=some none) (z13:W.nsIn K mainGlobals "any"=some none) (z14:W.nsIn K mainGlobals "abs"=some none) (z15:W.nsIn K mainGlobals "zip"=some none) (z16:W.nsIn K mainGlobals "sorted"=some none) (z17:W.nsIn K mainGlobals "set"=some none) (z18:W.nsIn K mainGlobals "enumerate"=some none) {aSIGNS aMARKS aPK:Addr} {tk1 tk2 tk3 tk4 tk5 tk6 tk7 tk8 um1 um2 um3 um4 tp1 tp2 tp3 tp4 tp5 tp6 tp7 tp8 tp9 tp10 tp11 tp12 tp13 tp14:Tok} {epS nM epP:Nat} {ddM:Option Addr} {slM:Array (Option Value)} {aKN:Addr} {uk1 uk2 uk3 uk4 uk5 uk6:Tok} {nK:Nat} {slK:Array (Option Value)} {tkF tkF8:Tok}
    (aS:W.nsIn K mainGlobals "SIGNS"=some (some (.ref aSIGNS)))
    (lS:K.lookup aSIGNS=some ⟨.type "dict",none,.dict #[{hash:=PyData.keyHash w.params ("figure":Str),key:=.str "figure" tk1,val:=.str "0123456789" tk2},{hash:=PyData.keyHash w.params ("great":Str),key:=.str "great" tk3,val:=.str "ABCDEFGHIJKLMNOPQRSTUVWXYZ" tk4},{hash:=PyData.keyHash w.params ("other":Str),key:=.str "other" tk5,val:=.str " !\"#$&'()*+,-./:;<=>?\x40[\\]^_`{|}~" tk6},{hash:=PyData.keyHash w.params ("small":Str),key:=.str "small" tk7,val:=.str "abcdefghijklmnopqrstuvwxyz" tk8}] epS,#[]⟩)
    (aM:W.nsIn K mainGlobals "MARKS"=some (some (.ref aMARKS)))
    (lM:K.lookup aMARKS=some ⟨.type "tuple",ddM,.seq #[.str "figure" um1,.str "great" um2,.str "other" um3,.str "small" um4] nM,slM⟩)
    (aP:W.nsIn K mainGlobals "PART_KINDS"=some (some (.ref aPK)))
    (lP:K.lookup aPK=some ⟨.type "dict",none,.dict #[{hash:=PyData.keyHash w.params ("nothing":Str),key:=.str "nothing" tp1,val:=.str "nothing" tp2},{hash:=PyData.keyHash w.params ("truths":Str),key:=.str "truths" tp3,val:=.str "truth" tp4},{hash:=PyData.keyHash w.params ("numbers":Str),key:=.str "numbers" tp5,val:=.str "number" tp6},{hash:=PyData.keyHash w.params ("texts":Str),key:=.str "texts" tp7,val:=.str "text" tp8},{hash:=PyData.keyHash w.params ("lists":Str),key:=.str "lists" tp9,val:=.str "list" tp10},{hash:=PyData.keyHash w.params ("record":Str),key:=.str "record" tp11,val:=.str "dict" tp12},{hash:=PyData.keyHash w.params ("table":Str),key:=.str "table" tp13,val:=.str "dict" tp14}] epP,#[]⟩)
    (aK:W.nsIn K mainGlobals "KINDS"=some (some (.ref aKN)))
    (lK:K.lookup aKN=some ⟨.type "tuple",none,.seq #[.str "nothing" uk1,.str "truth" uk2,.str "number" uk3,.str "text" uk4,.str "list" uk5,.str "dict" uk6] nK,slK⟩)
    (aF:W.nsIn K mainGlobals "MOST_FEW"=some (some (.int 6 tkF)))
    (aF8:W.nsIn K mainGlobals "MOST_FIELDS"=some (some (.int 8 tkF8))):
    ∃fd:FuncData,(∀(s:Shared) (v:Value),BindsTo s fd ⟨[v],[]⟩ [("_law_script",v)])/\∀base:Heap,K.In base->base.Ns mainGlobals mg->FnOk l.prog w K mg base CX0 33 fa fd ["_law_script"] (rN K):=by
  have e:=hfa.symm.trans (PySem.W.mg_of X G a52)
  cases e
  have B:Own mg:=zIO X G z0 z1 z2 z3 z4 z5 z6 z7 z8 z9 z10 z11 z12 z13 z14 z15 z16 z17 z18
  refine⟨W.fnOf "law" "law" (hC gR) (fD gR) (aN gR) .none w_52 x_52 y_52 t_52 r_52 q_52,λs v=>.of_eq rfl,λbase KB GB=>?_⟩
  have GSIGNS:oO K w.params mg "SIGNS" SGN:=⟨aSIGNS,PySem.W.mg_of X G aS,⟨⟨_,_,lS,⟨rfl,⟨_,rfl⟩,⟨_,rfl⟩,rfl,⟨_,rfl⟩,⟨_,rfl⟩,rfl,⟨_,rfl⟩,⟨_,rfl⟩,rfl,⟨_,rfl⟩,⟨_,rfl⟩,trivial⟩⟩,by decide +kernel⟩⟩
  have GPART_KINDS:oO K w.params mg "PART_KINDS" yB:=⟨aPK,PySem.W.mg_of X G aP,⟨⟨_,_,lP,⟨rfl,⟨_,rfl⟩,⟨_,rfl⟩,rfl,⟨_,rfl⟩,⟨_,rfl⟩,rfl,⟨_,rfl⟩,⟨_,rfl⟩,rfl,⟨_,rfl⟩,⟨_,rfl⟩,rfl,⟨_,rfl⟩,⟨_,rfl⟩,rfl,⟨_,rfl⟩,⟨_,rfl⟩,rfl,⟨_,rfl⟩,⟨_,rfl⟩,trivial⟩⟩,by decide +kernel⟩⟩
  have TM:∀H,SqT K H aMARKS (MK.map V.str):=λH=>.inr ⟨_,_,_,lM,rfl,rfl,by show 4<=sizeLine;decide,.cons ⟨_,rfl⟩ (.cons ⟨_,rfl⟩ (.cons ⟨_,rfl⟩ (.cons ⟨_,rfl⟩ .nil)))⟩
  have GMARKS:eG K mg "MARKS" (.seq true (MK.map sT)):=zA0 (PySem.W.mg_of X G aM) TM
  have TKN:∀H,SqT K H aKN ((kN6.map cR).map V.str):=λH=>.inr ⟨_,_,_,lK,rfl,rfl,by show 6<=sizeLine;decide,.cons ⟨_,rfl⟩ (.cons ⟨_,rfl⟩ (.cons ⟨_,rfl⟩ (.cons ⟨_,rfl⟩ (.cons ⟨_,rfl⟩ (.cons ⟨_,rfl⟩ .nil)))))⟩
  have GKINDS:eG K mg "KINDS" (.seq true (kN6.map λk=>sT (cR k))):=zA0 (PySem.W.mg_of X G aK) TKN
  have GMOST_FEW:eG K mg "MOST_FEW" (iT 6):=⟨.int 6,_,PySem.W.mg_of X G aF,⟨_,rfl⟩,λH=>.flat rfl⟩
  have GMOST_FIELDS:eG K mg "MOST_FIELDS" (iT 8):=⟨.int 8,_,PySem.W.mg_of X G aF8,⟨_,rfl⟩,λH=>.flat rfl⟩
  have G35_:PGood l.prog w K mg base 2 "_law_take" ["_law_deck_here","_law_most"] iU:=Good.take (zJh h35_ (zHr h33_))
  have G36_:PGood l.prog w K mg base 1 "_law_signs" [] qQ:=zLr h36_ B 
  have G37_:PGood l.prog w K mg base 3 "_law_text" ["_law_deck_here","_law_most"] rC:=zLq h37_ B G36_ G35_
  have G38_:PGood l.prog w K mg base 4 "_law_unlike" ["_law_deck_here","_law_many","_law_most"] uQ:=zLp h38_ B G36_ G37_
  have G39_:PGood l.prog w K mg base 3 "_law_far" ["_law_deck_here"] rS:=zLo h39_ B G35_
  have G40_:PGood l.prog w K mg base 5 "_law_world" ["_law_deck_here"] vJ:=zLn h40_ B G35_ G38_ G37_ G39_
  have G41_:PGood l.prog w K mg base 4 "_law_number" ["_law_deck_here","_law_world_here"] uS:=zLm h41_ B G35_ G39_
  have G42_:PGood l.prog w K mg base 5 "_law_leaf" ["_law_deck_here","_law_world_here"] rD:=zLl h42_ B G35_ G41_
  have G0_:PGood l.prog w K mg base 1 "kind_of" ["value"] rE:=g0_ h0_ B 
  have G5_:PGood l.prog w K mg base 1 "has_mark" ["text","mark"] tY:=g5_ h5_ B GSIGNS
  have G6_:PGood l.prog w K mg base 2 "marks_of" ["text"] pV:=g6_ h6_ B G5_ GMARKS
  have G15_:PGood l.prog w K mg base 1 "part_kind" ["part"] tP:=zLF h15_ B GPART_KINDS
  have G16_:PGood l.prog w K mg base 2 "part_for" ["form","kind"] mW:=zLE h16_ B G15_
  have G1_:PGood l.prog w K mg base 1 "divisor_of" ["one","other"] wM:=g1_ h1_ B 
  have G3_:PGood l.prog w K mg base 1 "telling_numbers" ["run"] tW:=g3_ h3_ B 
  have G2_:PGood l.prog w K mg base 2 "run_of" ["numbers"] vK:=g2_ h2_ B G1_
  have G4_:PGood l.prog w K mg base 3 "run_joined" ["one","other"] oD:=g4_ h4_ B G2_ G3_
  have G7_:PGood l.prog w K mg base 1 "marks_joined" ["one","other"] sS:=g7_ h7_ B 
  have G8_:PGood l.prog w K mg base 1 "shared_head" ["one","other"] sQ:=g8_ h8_ B 
  have G9_:PGood l.prog w K mg base 3 "make_of" ["texts"] qI:=g9_ h9_ B G8_ G6_
  have G10_:PGood l.prog w K mg base 4 "words_of" ["texts"] jY:=zLK h10_ B G9_ GMOST_FEW
  have G11_:PGood l.prog w K mg base 4 "as_make" ["words"] uU:=zLJ h11_ B G9_
  have G12_:PGood l.prog w K mg base 3 "with_shorter_head" ["make","head"] tX:=zLI h12_ B G7_ G6_
  have G13_:PGood l.prog w K mg base 4 "makes_joined" ["one","other"] uT:=zLH h13_ B G8_ G12_ G7_
  have G14_:PGood l.prog w K mg base 5 "words_joined" ["one","other"] lD:=zLG h14_ B G10_ G13_ G11_
  have G22_:PGood l.prog w K mg base 1 "fields_by_name" ["record"] mN:=zLz h22_ B 
  have G25_:PGood l.prog w K mg base 5 "name_words" ["part"] oY:=zLw h25_ B G10_
  have G17_:PGood l.prog w K mg base 1 "forms_within" ["part"] oZ:=zLD h17_ B 
  have G45_:PGood l.prog w K mg base 1 "_law_mark" ["_law_sign"] wE:=zLi h45_ B 
  have G44_:PGood l.prog w K mg base 1 "_law_divisor" ["_law_one","_law_other"] tZ:=zLj h44_ B 
  have G47_:PGood l.prog w K mg base 2 "_law_run" ["_law_numbers"] rR:=zLg h47_ B G44_
  have G46_:PGood l.prog w K mg base 2 "_law_words" ["_law_texts"] nI:=zLh h46_ B G45_
  have G49_:PGood l.prog w K mg base 9 "_law_due" ["_law_values"] (lZ 3):=wF h49_ h48_ B G47_ G46_ 3
  have G43_:PGood l.prog w K mg base 15 "_law_same" ["_law_one","_law_other"] (oC 14):=zBR h43_ B 14
  have G51_:PGood l.prog w K mg base 6 "_law_dicts_of" ["_law_deck_here","_law_world_here","_law_names"] uA:=zLc h51_ B G35_ G42_
  have Gj:∀n:Nat,PGood l.prog w K mg base (9*n+9) "joined" ["one","other"] (ptJ (bD n) (WD n)):=λn=>zBS h30_ h29_ h28_ h27_ h26_ h31_ h24_ h23_ B G16_ G4_ G14_ G22_ G25_ G17_ GMOST_FIELDS GKINDS n
  have G30_:PGood l.prog w K mg base 27 "joined" ["one","other"] (ptJ (bD 2) (WD 2)):=Gj 2
  have Gtolds:=zBQ h32_ h21_ h20_ h18_ h19_ h31_ B G0_ G10_ GMOST_FIELDS Gj 2
  have G50_:PGood l.prog w K mg base 30 "_law_right" ["_law_samples_here","_law_at"] vL:=zLd h50_ B G49_ G30_ Gtolds.2 Gtolds.1 G43_
  exact zIX (zCr (st:=gR) l52 c52 k52) B (zJi h34_ B) G40_ G35_ G50_ G51_ G42_ 
theorem walk{l:W.OpenLaw}{q:Program}{loose:List Str}{XP:(Str->Option Value)->Heap->Prop}{YP:World->Heap->Prop}{d:DefRec}{K:Params->W.Frag}(hn:l.most=some 63)(hdf:d.params.defaults=[])
  (hY:∀(w:World) (h:Heap),YP w h->(K w.params).In h)
  (F:∀(w:World) (mg:Str->Option Value) (fa:Addr) (h:Heap),(K w.params).In h->h.Ns mainGlobals mg->mg d.name=some (.ref fa) ->
   ∃fd:FuncData,(∀(s:Shared) (u:Value),BindsTo s fd ⟨[u],[]⟩ [("_law_script",u)])/\∀base:Heap,(K w.params).In base->base.Ns mainGlobals mg->FnOk l.prog w (K w.params) mg base CX0 33 fa fd ["_law_script"] (rN (K w.params))):
  PySem.W.WalkO q loose XP YP l.row.toRowW d [] (λf vs=>PySem.call f vs):=
 L2.walk_of (n:=63) (k:=33) (x:="_law_script") (CX:=λ_=>CX0) (sp:=λw=>rN (K w.params)) hn (by decide) hdf ⟨rfl,by decide,by decide,rfl⟩ hY F (λ_ _ a ns hl _ hS=>⟨a,ns,rfl,hS,hl,λ_=>rfl⟩) λ_ _ _ _ _ z=>z
end My
inductive PySem.W.Fast:Prop
|tw17288510924732478895
|tw3575493778205686944
|tw6528378527252073760
|tw17095206912745162016
|tw9477458409959232769
|tw306272218967268833
|tw15674761359157680737
|tw5145370548651977377
|tw6171417225857284833
|tw17632390561160051842
|tw5016447807520089155
|tw1763920110833364419
|tw17227297469293892035
|tw8439053501098620515
|tw17660231211176358595
|tw8765406130064670403
|tw5523290456738189380
|tw15659169200948584644
|tw14543390313501863108
|tw13223671771057518116
|tw17303729709725163140
|tw10358556607087153796
|tw6649021024015896581
|tw10203976459410698469
|tw4941209466350138661
|tw6325747837125780965
|tw2205764520861241861
|tw6449405431554452101
|tw9927477037531672582
|tw1570532811506764262
|tw6007022195870868070
|tw15528645003189965574
|tw1499469225564359654
|tw4679961910588095687
|tw5692077266698302151
|tw9947971232638008744
|tw1071757061816006280
|tw11993497879753217928
|tw434457226666907560
|tw7373041515908768809
|tw11244440967282853001
|tw17597945180341672329
|tw5846605225067083273
|tw8145446734872445609
|tw2814254392545733898
|tw6173571487701971402
|tw944445859557228042
|tw9310902286948995658
|tw13082459809887195754
|tw901937795069149002
|tw5872709930847266794
|tw2449416890562842891
|tw1168582638879232619
|tw3131816435965849291
|tw6386204787734282444
|tw11471858232015923500
|tw13111104396161743148
|tw21668857988140460
|tw335749030397786604
|tw17591171730067704588
|tw1167312118852730029
|tw10022878033628178797
|tw9466099805166603693
|tw14181645224647611853
|tw242202677096749613
|tw16226683509388796078
|tw1309412309533748526
|tw7651092796328820494
|tw13690257776847354959
|tw16309194275144029295
|tw12208920164924667183
|tw12471312523052064079
|tw3534882515121141231
|tw8844053918709893647
|tw11838536490531241551
|tw18415100676156138159
|tw13509276415958958927
|tw15251216127112737968
|tw15166253733346425008
|tw1255575190770717104
|tw12765578119059743280
|tw9424394953617363504
|tw12840789721693848272
|tw4738006071289077744
|tw16000271924464183185
|tw11896563109204403250
|tw11947911152391913010
|tw11592957210791870483
|tw16567018090412828723
|tw16562503708266589587
|tw5541236175201929779
|tw6278437421246250835
|tw15137151169926078580
|tw10643610501908205780
|tw2670087622102588884
|tw7072539846198993364
|tw6696221838532864660
|tw14253097685517529044
|tw18353014635575931925
|tw12133069582171370805
|tw12875414260329803349
|tw9556878675269323445
|tw5036348194834793269
|tw12254013514078904149
|tw8398764918014877557
|tw17242052916001127062
|tw13750560165162114774
|tw5933692787507216118
|tw3472062644777925526
|tw7020591014725176214
|tw16260661101321459735
|tw10007983765764214487
|tw13712678154601704183
|tw15792841898914211735
|tw4499058388598925656
|tw8053801003189589496
|tw2815579375404217016
|tw5147829611779529817
|tw10466650210630249657
|tw9953192647567051993
|tw17595585501890643385
|tw8750572505687275289
|tw4018153813384264569
|tw12360878935837828186
|tw3973598116245584794
|tw7343654028222430491
|tw13661423163662237371
|tw1697461239532819195
|tw16209410044464450844
|tw4561675065993769308
|tw6383608163655293468
|tw14083518337005817500
|tw9305196911818422076
|tw9047467020445379484
|tw16057889046734987325
|tw9415699217566728125
|tw8442004561925447774
|tw10222186808265470878
|tw9354434590079655870
|tw14907091574793146463
|tw15951949115238582015
|tw5953363535041721087
|tw14515011299162322847
open PySem PySem.W PyProof.Rows
set_option maxRecDepth 100000 in
set_option maxHeartbeats 0 in
theorem PySem.Challenge.cw_leastform_k44_six_texts_and_eight_names_holds : PySem.Challenge.rw_leastform_k44_six_texts_and_eight_names.Holds := by
 w_on; o_law; k_head; (case hw => w_witness2)
 k_fill
 refine My.walk (l := PySem.Challenge.rw_leastform_k44_six_texts_and_eight_names) rfl rfl (fun w h Y => PySem.W.kIn_of Y) ?F
 case F =>
  intro w mg fa h KX G hmg
  refine' My.all_mk KX G hmg (L2.has_mk KX G ?a0 ?l0 ?c0 ?k0) (L2.has_mk KX G ?a1 ?l1 ?c1 ?k1) (L2.has_mk KX G ?a2 ?l2 ?c2 ?k2) (L2.has_mk KX G ?a3 ?l3 ?c3 ?k3) (L2.has_mk KX G ?a4 ?l4 ?c4 ?k4) (L2.has_mk KX G ?a5 ?l5 ?c5 ?k5) (L2.has_mk KX G ?a6 ?l6 ?c6 ?k6) (L2.has_mk KX G ?a7 ?l7 ?c7 ?k7) (L2.has_mk KX G ?a8 ?l8 ?c8 ?k8) (L2.has_mk KX G ?a9 ?l9 ?c9 ?k9) (L2.has_mk KX G ?a10 ?l10 ?c10 ?k10) (L2.has_mk KX G ?a11 ?l11 ?c11 ?k11) (L2.has_mk KX G ?a12 ?l12 ?c12 ?k12) (L2.has_mk KX G ?a13 ?l13 ?c13 ?k13) (L2.has_mk KX G ?a14 ?l14 ?c14 ?k14) (L2.has_mk KX G ?a15 ?l15 ?c15 ?k15) (L2.has_mk KX G ?a16 ?l16 ?c16 ?k16) (L2.has_mk KX G ?a17 ?l17 ?c17 ?k17) (L2.has_mk KX G ?a18 ?l18 ?c18 ?k18) (L2.has_mk KX G ?a19 ?l19 ?c19 ?k19) (L2.has_mk KX G ?a20 ?l20 ?c20 ?k20) (L2.has_mk KX G ?a21 ?l21 ?c21 ?k21) (L2.has_mk KX G ?a22 ?l22 ?c22 ?k22) (L2.has_mk KX G ?a23 ?l23 ?c23 ?k23) (L2.has_mk KX G ?a24 ?l24 ?c24 ?k24) (L2.has_mk KX G ?a25 ?l25 ?c25 ?k25) (L2.has_mk KX G ?a26 ?l26 ?c26 ?k26) (L2.has_mk KX G ?a27 ?l27 ?c27 ?k27) (L2.has_mk KX G ?a28 ?l28 ?c28 ?k28) (L2.has_mk KX G ?a29 ?l29 ?c29 ?k29) (L2.has_mk KX G ?a30 ?l30 ?c30 ?k30) (L2.has_mk KX G ?a31 ?l31 ?c31 ?k31) (L2.has_mk KX G ?a32 ?l32 ?c32 ?k32) (L2.has_mk KX G ?a33 ?l33 ?c33 ?k33) (L2.has_mk KX G ?a34 ?l34 ?c34 ?k34) (L2.has_mk KX G ?a35 ?l35 ?c35 ?k35) (L2.has_mk KX G ?a36 ?l36 ?c36 ?k36) (L2.has_mk KX G ?a37 ?l37 ?c37 ?k37) (L2.has_mk KX G ?a38 ?l38 ?c38 ?k38) (L2.has_mk KX G ?a39 ?l39 ?c39 ?k39) (L2.has_mk KX G ?a40 ?l40 ?c40 ?k40) (L2.has_mk KX G ?a41 ?l41 ?c41 ?k41) (L2.has_mk KX G ?a42 ?l42 ?c42 ?k42) (L2.has_mk KX G ?a43 ?l43 ?c43 ?k43) (L2.has_mk KX G ?a44 ?l44 ?c44 ?k44) (L2.has_mk KX G ?a45 ?l45 ?c45 ?k45) (L2.has_mk KX G ?a46 ?l46 ?c46 ?k46) (L2.has_mk KX G ?a47 ?l47 ?c47 ?k47) (L2.has_mk KX G ?a48 ?l48 ?c48 ?k48) (L2.has_mk KX G ?a49 ?l49 ?c49 ?k49) (L2.has_mk KX G ?a50 ?l50 ?c50 ?k50) (L2.has_mk KX G ?a51 ?l51 ?c51 ?k51) ?a52 ?l52 ?c52 ?k52 ?z0 ?z1 ?z2 ?z3 ?z4 ?z5 ?z6 ?z7 ?z8 ?z9 ?z10 ?z11 ?z12 ?z13 ?z14 ?z15 ?z16 ?z17 ?z18 ?aS ?lS ?aM ?lM ?aP ?lP ?aK ?lK ?aF ?aF8
  any_goals k_is
