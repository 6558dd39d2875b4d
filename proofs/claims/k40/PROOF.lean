import PyProof.Rows.All
import Wide.All
import OpenK.AllK
import Wide.FinOn
import Lean
import PyProof.EqAt
import PyProof.EqKinds
import PyProof.TupleCall
import PyProof.NeKinds
import PyProof.IsiTupleOf
import PyProof.IsiHeapPairs
import PyProof.IsiPairs
import PyProof.ConsumeWalk
import PyProof.Rows.SumAny
import PyProof.FitsBits
import PyProof.Rows.SeqMore
import PyProof.ZipIter
import PyProof.TupleIter
import PyProof.LongRange
import PyProof.Rows.Range3
import PyProof.Rows.SortWalk
import PyProof.Rows.SortStr
import PyProof.StrWalks
import PyProof.DictRoads
import PyProof.MeetsStr
import PyProof.Rows.StrNews2
import PyProof.StrLawsIn
import PyProof.StrLaws
import PyProof.Rows.CatFin
import PyProof.Rows.StrClose5
import PyProof.SetKind
import PyProof.CollectWalk
import PyProof.Seq
import PyProof.ForAny
import PyProof.MakeMany
import PyProof.DictKinds
import PyProof.Rows.StrInSeq
import PyProof.WalkLemmas
import PyProof.Rows.SortShell
import PyProof.Rows.SetFrom
import PyProof.StrOps2
import PyProof.ReprNest
import PyProof.CallFns
import PyProof.StrLawsRepr
import PyProof.FString5
import OpenK.KOwn
import KE.KIsAll
import PyProof.ExcArgsOwn
import KE.RegKIsAll
import PyProof.DictIter
import PyProof.DictItems
import PyProof.DictItemsLoops
import PyProof.DictWalks
import KE.KDictList
import KE.KMinKey
import PyProof.ListRange
import PyProof.Rows.CallKwBuiltin
import KE.KDictOf
import PyProof.AttrMissHeap
import PyProof.EnumMake
import PyProof.EnumFor
import PyProof.Rows.RuleB_bool
import KE.KEqDict
import PyProof.StrCalls6
import PyProof.StrLawsReplace
import PyProof.Rows.FStr
import PyProof.Rows.StrJoin2
import PyProof.WalksMore
import PyProof.TupleOfStr
import KE.KUnpack
import PyProof.MaxThree
import KE.KSortTup
import PyProof.MeetsSeq2
import PyProof.FactsAll.set_2
import PyProof.FactsAll.subtypes_5
import PySem.Challenge.RW_leastform_k40_forms_of_values
set_option Elab.async false
set_option linter.all false
set_option maxRecDepth 100000
set_option maxHeartbeats 4000000
def qa_:=@PySem.wpAny_bind
def qb_:=@PySem.wpAny_pure
def qc_:=@List.length_map
def qd_:=@PySem.Heap.get?_push_of_some
def qe_:=@Nat.le_refl
def qf_:=@List.mem_map
def qg_:=@PySem.Heap.lt_size
def qh_:=@Nat.le_trans
def qi_:=@PySem.Heap.get?_push_size
def qj_:=@List.length_append
def qk_:=@List.getElem?_eq_getElem
def ql_:=@Bool.false_ne_true
def qm_:=@Nat.ne_of_lt
def qn_:=@List.size_toArray
def qo_:=@PySem.boot_len
def qp_:=@List.mem_append
def qq_:=@List.mem_append_right
def qr_:=@Array.getElem?_toList
def qs_:=@Nat.zero_le
def qt_:=@PySem.wpAny_setState_of
def qu_:=@Array.length_toList
def qv_:=@List.getElem?_map
def qw_:=@List.mem_cons
def qx_:=@List.getElem?_eq_some_iff
def qy_:=@PySem.Heap.size_push
def qz_:=@List.map_map
def qA_:=@List.map_cons
def qB_:=@PySem.wpAny_holding
def qC_:=@Nat.ne_of_gt
def qD_:=@List.mem_append_left
def qE_:=@List.mem_of_getElem?
def qF_:=@decide_eq_false
def qG_:=@PySem.PassesOwn.never
def qH_:=@List.filterMap_cons
def qI_:=@List.length_cons
def qJ_:=@List.map_append
def qK_:=@PySem.wpAny_call_entry
def qL_:=@List.any_eq_true
def qM_:=@List.filterMap_append
def qN_:=@PySem.W.mg_none_of
def qO_:=@Array.getElem?_eq_getElem
def qP_:=@decide_eq_true
def qQ_:=@List.append_nil
def qR_:=@List.length_take
def qS_:=@PySem.wpAny_newObj_type
def qT_:=@Nat.lt_of_lt_of_le
def qU_:=@PySem.Heap.get?_update_self
def qV_:=@List.getD_eq_getElem?_getD
def qW_:=@PySem.wpAny_setField_rec
def qX_:=@PySem.codeAny_builtin
def qY_:=@Nat.le_of_lt
def qZ_:=@List.not_lt
def qa1_:=@List.mem_singleton
def qb1_:=@of_decide_eq_true
def qc1_:=@List.mem_cons_of_mem
def qd1_:=@List.mem_filterMap
def qe1_:=@Nat.lt_irrefl
def qf1_:=@List.take_length
def qg1_:=@Option.map_eq_some_iff
def qh1_:=@PySem.Around.under_plainId
def qi1_:=@List.mem_cons_self
def qj1_:=@List.getElem?_set_self
def qk1_:=@Nat.lt_succ_of_lt
def ql1_:=@List.nil_append
def qm1_:=@List.getElem?_set_ne
def qn1_:=@List.replicate_succ
def qo1_:=@List.flatten_cons
def qp1_:=@Nat.le_succ
def qq1_:=@Nat.lt_trans
def qr1_:=@List.mem_flatMap
def qs1_:=@List.mem_flatten
def qt1_:=@Nat.mul_le_mul_right
def qu1_:=@List.mem_range
def qv1_:=@List.length_set
def qw1_:=@List.foldl_cons
def qx1_:=@Bool.eq_iff_iff
def qy1_:=@Int.dvd_zero
def qz1_:=@List.take_add_one
def qA1_:=@List.any_cons
def qB1_:=@Int.emod_lt_of_pos
def qC1_:=@Int.emod_nonneg
def qD1_:=@List.find?_cons
def qE1_:=@Int.dvd_sub
def qF1_:=@List.exists_mem_of_ne_nil
def qG1_:=@List.nodup_cons
def qH1_:=@List.getElem?_append_right
def qI1_:=@List.getElem?_append_left
def qJ1_:=@PySem.Heap.get?_update_other
def qK1_:=@List.append_assoc
def qL1_:=@List.length_singleton
def qM1_:=@List.all_eq_true
def qN1_:=@List.getElem_mem
def qO1_:=@List.eq_nil_of_length_eq_zero
def qP1_:=@Nat.mul_comm
def qQ1_:=@List.length_pos_iff
def qR1_:=@Bool.and_eq_true
def qS1_:=@List.getElem?_eq_none
def qT1_:=@List.nodup_nil
def qU1_:=@List.mem_iff_getElem
def qV1_:=@Int.le_refl
def qW1_:=@Int.dvd_trans
def qX1_:=@List.perm_ext_iff_of_nodup
def qY1_:=@List.eq_nil_iff_forall_not_mem
def qZ1_:=@List.cons_append
def qa2_:=@List.append_eq_nil_iff
def qb2_:=@List.filterMap_eq_nil_iff
def qc2_:=@List.mem_filter
def qd2_:=@List.getElem?_replicate
def qe2_:=@List.length_replicate
def qf2_:=@List.length_drop
def qg2_:=@Nat.not_lt
def qh2_:=@Array.getElem?_eq_none
def qi2_:=@List.length_range
def qj2_:=@Nat.lt_succ_self
def qk2_:=@Int.dvd_add
def ql2_:=@Int.sub_self
def qm2_:=@List.any_append
def qn2_:=@List.length_filterMap_le
def qo2_:=@List.filterMap_map
def qp2_:=@Bool.or_false
def qq2_:=@Nat.lt_of_le_of_lt
def qr2_:=@List.getElem?_drop
def qs2_:=@List.take_of_length_le
def qt2_:=@List.range_succ_eq_map
def qu2_:=@List.map_congr_left
def qv2_:=@List.pairwise_map
def qw2_:=@List.nodup_append
def qx2_:=@Array.toArray_toList
def qy2_:=@List.drop_zero
def qz2_:=@Nat.lt_or_eq_of_le
def qA2_:=@Bool.and_false
def qB2_:=@List.take_succ_eq_append_getElem
def qC2_:=@Nat.pow_succ
def qD2_:=@List.map_eq_nil_iff
def qE2_:=@List.map_nil
def qF2_:=@Nat.mod_lt
def qG2_:=@List.ext_getElem?
def qH2_:=@List.foldl_append
def qI2_:=@List.le_refl
def qJ2_:=@List.le_trans
def qK2_:=@Bool.false_or
def qL2_:=@List.drop_eq_getElem_cons
def qM2_:=@List.take_append_drop
def qN2_:=@List.sizeOf_lt_of_mem
def qO2_:=@Int.dvd_refl
def qP2_:=@Int.dvd_mul_right
def qQ2_:=@Array.size_map
def qR2_:=@List.cons_lt_cons_iff
def qS2_:=@List.flatMap_append
def qT2_:=@List.flatten_append
def qU2_:=@Nat.mul_assoc
def qV2_:=@Nat.one_le_pow
def qW2_:=@Nat.le_mul_of_pos_right
def qX2_:=@List.of_mem_zip
def qY2_:=@List.take_sublist
def qZ2_:=@Nat.min_le_right
def qa3_:=@List.reverse_cons
def qb3_:=@List.length_reverse
def qc3_:=@Option.isSome_map
def qd3_:=@List.drop_length
def qe3_:=@List.take_zero
def qf3_:=@List.lt_irrefl
def qg3_:=@List.find?_some
def qh3_:=@Nat.not_lt_zero
def qi3_:=@List.find?_eq_none
def qj3_:=@List.length_filter_le
def qk3_:=@Int.fdiv_eq_ediv_of_nonneg
def ql3_:=@List.eraseIdxIfInBounds_toArray
def qm3_:=@List.length_eraseIdx_of_lt
def qn3_:=@List.findIdx?_eq_none_iff
def qo3_:=@Array.getElem?_eq_some_iff
def qp3_:=@List.pairwise_iff_getElem
def qq3_:=@List.mem_of_find?_eq_some
def qr3_:=@Array.getD_eq_getD_getElem?
def qs3_:=@Int.mul_le_mul_of_nonneg_left
namespace L2
open PySem PySem.Spec PyProof.Rows
abbrev Key:=Sum Int Str
def jQ:Key->Value->Bool
 |.inl k,v=>Value.isInt k v
 |.inr x,v=>Value.isStrOf x v
def zK3(w:World):Key->Int
 |.inl k=>hashInt k
 |.inr x=>hashStr w x
theorem fY:∀{k:Key}{v:Value},jQ k v=true->(∃i t,k=Sum.inl i/\v=Value.int i t)\/(∃x t,k=Sum.inr x/\v=Value.str x t)
 |.inl i,v,h=>by
  obtain⟨t,e⟩:=Value.isInt_shape (k:=i) (v:=v) h
  exact .inl ⟨i,t,rfl,e⟩
 |.inr x,v,h=>by
  obtain⟨t,e⟩:=Value.isStrOf_shape (x:=x) (v:=v) h
  exact .inr ⟨x,t,rfl,e⟩
theorem zEX(i:Int)(t:Tok):jQ (.inl i) (.int i t)=true:=by simp[jQ,Value.isInt]
theorem zEW(x:Str)(t:Tok):jQ (.inr x) (.str x t)=true:=by simp[jQ,Value.isStrOf]
theorem zI5(a b:Int):decide ((Sum.inl a:Key)=Sum.inl b)=(a==b):=by
 by_cases e:a=b
 ·subst e;simp
 ·have h:¬ (Sum.inl a:Key)=Sum.inl b:=λq=>e (Sum.inl.inj q)
  rw[qF_ h]
  exact(beq_eq_false_iff_ne.mpr e).symm
theorem zI2(a b:Str):decide ((Sum.inr a:Key)=Sum.inr b)=decide (a=b):=by
 by_cases e:a=b
 ·subst e;simp
 ·have h:¬ (Sum.inr a:Key)=Sum.inr b:=λq=>e (Sum.inr.inj q)
  rw[qF_ h,qF_ e]
theorem zI4(a:Int)(b:Str):decide ((Sum.inl a:Key)=Sum.inr b)=false:=qF_ (λq=>nomatch q)
theorem zI3(a:Str)(b:Int):decide ((Sum.inr a:Key)=Sum.inl b)=false:=qF_ (λq=>nomatch q)
def bR(prog:Program)(w:World):PySem.KeyKind prog w Key where
 is:=jQ
 hash:=zK3 w
 inj:=λv a b ha hb=>by
  rcases fY ha with⟨i,t,rfl,rfl⟩|⟨x,t,rfl,rfl⟩
  ·rcases fY hb with⟨j,u,rfl,e⟩|⟨y,u,rfl,e⟩
   ·injection e with e1 _;rw[e1]
   ·exact nomatch e
  ·rcases fY hb with⟨j,u,rfl,e⟩|⟨y,u,rfl,e⟩
   ·exact nomatch e
   ·injection e with e1 _;rw[e1]
 byValue:=λk v h=>by
  rcases fY h with⟨i,t,rfl,rfl⟩|⟨x,t,rfl,rfl⟩<;>rfl
 pyHash:=λhv h=>by
  rcases fY hv with⟨i,t,rfl,rfl⟩|⟨x,t,rfl,rfl⟩
  ·exact wpAny_pyHash_int h
  ·exact wpAny_pyHash_str h
 eqBool:=λhu hv h=>by
  rcases fY hu with⟨i,t,rfl,rfl⟩|⟨x,t,rfl,rfl⟩
  ·rcases fY hv with⟨j,u,rfl,rfl⟩|⟨y,u,rfl,rfl⟩
   ·rw[zI5]at h;exact wpAny_eqBool_int h
   ·rw[zI4]at h;exact SeqAt.EqAt.int_str i t y u _ _ _ _ h
  ·rcases fY hv with⟨j,u,rfl,rfl⟩|⟨y,u,rfl,rfl⟩
   ·rw[zI3]at h;exact SeqAt.EqAt.str_int x t j u _ _ _ _ h
   ·rw[zI2]at h;exact wpAny_eqBool_str h
 «strs»:=λk x t v h=>by
  rcases fY h with⟨i,u,rfl,e⟩|⟨y,u,rfl,e⟩
  ·exact nomatch e
  ·injection e with e1 _
   subst e1
   cases v<;>rfl
theorem zDM(prog:Program)(w:World)(i:Int)(t:Tok):(bR prog w).is (.inl i) (.int i t)=true:=zEX i t
theorem pP(prog:Program)(w:World)(x:Str)(t:Tok):(bR prog w).is (.inr x) (.str x t)=true:=zEW x t
end L2
namespace L2
open PySem PySem.Spec PyProof.Rows
inductive V where
 |non|bl (b:Bool)|int (i:Int)|str (x:Str)|byt (b:Array UInt8)|flt (b:UInt64)|ref (a:Addr)|ty (n:String)
 deriving DecidableEq
def RelV:V->Value->Prop
 |.non,u=>u=Value.none
 |.bl b,u=>u=Value.bool b
 |.int i,u=>∃t,u=Value.int i t
 |.str x,u=>∃t,u=Value.str x t
 |.byt b,u=>∃t,u=Value.bytes b t
 |.flt b,u=>∃t,u=Value.float b t
 |.ref a,u=>u=Value.ref a
 |.ty n,u=>u=Value.type n
abbrev Vals:List V->List Value->Prop:=Paired RelV
theorem Vals.length{xs:List V}{us:List Value}(r:Vals xs us):xs.length=us.length:=Paired.length r
theorem Vals.get:∀{xs:List V}{us:List Value}{i:Nat}{x:V},Vals xs us->xs[i]?=some x->∃u,us[i]?=some u/\RelV x u
 |_,_,_,_,.nil,e=>by simp at e
 |_,_,0,_,.cons r _,e=>by simp at e;subst e;exact⟨_,rfl,r⟩
 |_,_,i+1,x,.cons _ t,e=>by
  obtain⟨u,h1,h2⟩:=Vals.get (i:=i) (x:=x) t (by simpa using e)
  exact⟨u,by simpa using h1,h2⟩
theorem Vals.set{x:V}{u:Value}(r:RelV x u):∀{xs:List V}{us:List Value}(i:Nat),Vals xs us->Vals (xs.set i x) (us.set i u)
 |_,_,_,.nil=>.nil
 |_,_,0,.cons _ t=>.cons r t
 |_,_,i+1,.cons q t=>.cons q (Vals.set r i t)
theorem Vals.append:∀{xs ys:List V}{us ws:List Value},Vals xs us->Vals ys ws->Vals (xs++ys) (us++ws)
 |_,_,_,_,.nil,s=>s
 |_,_,_,_,.cons r t,s=>.cons r (Vals.append t s)
theorem Vals.take:∀{xs:List V}{us:List Value}(n:Nat),Vals xs us->Vals (xs.take n) (us.take n)
 |_,_,0,_=>.nil
 |_,_,_+1,.nil=>.nil
 |_,_,n+1,.cons r t=>.cons r (Vals.take n t)
theorem Vals.drop:∀{xs:List V}{us:List Value}(n:Nat),Vals xs us->Vals (xs.drop n) (us.drop n)
 |_,_,0,r=>r
 |_,_,_+1,.nil=>.nil
 |_,_,n+1,.cons _ t=>Vals.drop n t
def RelO:Option V->Option Value->Prop
 |some v,some u=>RelV v u
 |none,none=>True
 |_,_=>False
def KV{κ:Type}:List (κ×V)->List (κ×Value)->Prop:=Paired λ(p:κ×V) (q:κ×Value)=>p.1=q.1/\RelV p.2 q.2
def kV:Key->V
 |.inl i=>.int i
 |.inr x=>.str x
inductive HO where
 /-- a list -/
 |lst (xs:List V)
 /-- a tuple (never changes) -/
 |tup (xs:List V)
 /-- a dict whose keys are ints and texts; one whose keys are tuples of ints and texts (the empty one is both) -/
 |dK (kvs:List (Key×V))|dT (kvs:List (List Key×V))
 /-- a set of ints: its members, its size -/
 |set (S:Int->Bool) (n:Nat)
 /-- an instance of the class at C, its dict at dx, its attributes -/
 |ins (C dx:Addr) (fs:List (Str×V))
 /-- the dict of the instance at x -/
 |own (x:Addr)
 /-- the dict of an exception -/
 |xd (fs:List (Str×V))
 /-- a bound method, f of x -/
 |met (f x:Addr)
 /-- a range object lo, lo + 1, .. below hi -/
 |rng (lo hi:Int)
 /-- a thing that is known to the object (the script; a dict while a loop walks it): read, never written while it is so -/
 |frz (o:Obj) (u:HO)
 /-- a code object's table -/
 |tbl (ps:Array Value)
 /-- any other thing, by what is true of its one object (a def of one's own: SetO a S n := HO.ext fun h => ..) -/
 |ext (φ:Heap->Prop)
abbrev Hp:=Addr->Option HO
def upd(H:Hp)(a:Addr)(o:HO):Hp:=λb=>if b=a then some o else H b
theorem bB{H:Hp}{a:Addr}{o:HO}:upd H a o a=some o:=by unfold upd;rw[if_pos rfl]
theorem bK{H:Hp}{a b:Addr}{o:HO}(h:b≠a):upd H a o b=H b:=by unfold upd;rw[if_neg h]
theorem zJ6{H:Hp}{a b:Addr}{o u:HO}(h:H a=some o)(h':H b=some u)(d:o≠u):a≠b:=by
 intro e;subst e;rw[h]at h';exact d (Option.some.inj h')
theorem dP{H:Hp}{a b:Addr}{o:HO}(h:H a=some o)(h':H b=none):a≠b:=by
 intro e;subst e;rw[h]at h';cases h'
section
variable(P:Program)(w:World)
def ObjOk(H:Hp)(h:Heap)(a:Addr):HO->Prop
 |.lst xs=>xs.length<=sizeLine/\∃(its:List Value) (n:Nat),Vals xs its/\h.get? a=some {cls:=.type "list",data:=.seq its.toArray n}
 |.tup xs=>xs.length<=sizeLine/\∃its:List Value,Vals xs its/\IsTup h a its.toArray
 |.dK kvs=>kvs.length<=sizeLine/\(a==sysModules)=false/\∃vs,KV kvs vs/\h.DictOf (bR P w) a vs
 |.dT kvs=>kvs.length<=sizeLine/\(a==sysModules)=false/\∃xs:List (List Key×Addr×Value),
   Paired (λ(p:List Key×V) (q:List Key×Addr×Value)=>p.1=q.1/\H q.2.1=some (.tup (p.1.map kV))/\RelV p.2 q.2.2) kvs xs /\
   ∃o es ep,h.get? a=some o/\o.ExactDict/\o.data=.dict es ep/\es.toList=xs.map (entryOfKey (tupleKind (bR P w)))/\(xs.map (·.1)).Nodup
 |.set S n=>h.SetOf (intKind P w) a S n
 |.ins C dx fs=>H dx=some (.own a)/\fs.length<=1000/\dx≠a/\h.get? a=some (PySem.W.instObj C dx) /\
   ∃mA,h.Ns1 dx mA/\(∀f,RelO (fs.lookup f) (mA f))/\PySem.Within mA (fs.map (·.1))
 |.own _=>∃o,h.get? a=some o
 |.xd fs=>∃mA,h.Ns1 a mA/\∀f,RelO (fs.lookup f) (mA f)
 |.rng lo hi=>∃t u v,h.get? a=some {cls:=.type "range",data:=.fields #[.int lo t,.int hi u,.int 1 v]}
 |.frz o u=>h.get? a=some o/\ObjOk H h a u
 |.tbl ps=>h.get? a=some {cls:=.none,data:=.fields ps}
 |.met f x=>h.get? a=some (PySem.W.methodObj (.ref f) (.ref x))
 |.ext φ=>φ h/\(∃o,h.get? a=some o)/\∀h1 h2:Heap,φ h1->(∀o,h1.get? a=some o->h2.get? a=some o)->φ h2
def HOk(H:Hp)(h:Heap):Prop:=∀a o,H a=some o->ObjOk P w H h a o
end
section
variable{P:Program}{w:World}{H H':Hp}{h h':Heap}{a:Addr}{o:HO}
theorem ObjOk.lt(x:ObjOk P w H h a o):a<h.objs.size:=by
 cases o with
 |lst xs=>obtain⟨_,_,_,_,e⟩:=x;exact qg_ e
 |tup xs=>obtain⟨_,_,_,p⟩:=x;exact p.lt
 |dK kvs=>obtain⟨_,_,_,_,o,_,_,e,_⟩:=x;exact qg_ e
 |dT kvs=>obtain⟨_,_,_,_,o,_,_,e,_⟩:=x;exact qg_ e
 |set S n=>obtain⟨o,_,_,_,e,_⟩:=x;exact qg_ e
 |ins C dx fs=>obtain⟨_,_,_,e,_⟩:=x;exact qg_ e
 |own y=>obtain⟨_,e⟩:=x;exact qg_ e
 |xd fs=>obtain⟨_,⟨_,_,_,e,_⟩,_⟩:=x;exact qg_ e
 |rng lo hi=>obtain⟨_,_,_,e⟩:=x;exact qg_ e
 |frz ob u=>obtain⟨e,_⟩:=x;exact qg_ e
 |tbl ps=>exact qg_ (show h.get? a=some _ from x)
 |met f y=>exact qg_ (show h.get? a=some _ from x)
 |ext φ=>obtain⟨_,⟨_,e⟩,_⟩:=x;exact qg_ e
theorem Paired.mapP{α β:Type}{F G:α->β->Prop}:∀{l₁:List α}{l₂:List β},Paired F l₁ l₂->(∀a b,F a b->G a b)->Paired G l₁ l₂
 |_,_,.nil,_=>.nil
 |_,_,.cons r t,f=>.cons (f _ _ r) (Paired.mapP t f)
theorem ObjOk.stay(x:ObjOk P w H h a o)(k:∀b u,(b=a\/H b=some (.own a))->h.get? b=some u->h'.get? b=some u)
  (ho:∀b,H b=some (.own a)->H' b=some (.own a)) (ht:∀b xs,H b=some (.tup xs)->H' b=some (.tup xs)):ObjOk P w H' h' a o:=by
 induction o with
 |lst xs=>obtain⟨z,its,n,r,e⟩:=x;exact⟨z,its,n,r,k _ _ (.inl rfl) e⟩
 |tup xs=>obtain⟨z,its,r,ob,e,c⟩:=x;exact⟨z,its,r,ob,k _ _ (.inl rfl) e,c⟩
 |dK kvs=>obtain⟨z,y,vs,r,ob,es,ep,e,c⟩:=x;exact⟨z,y,vs,r,ob,es,ep,k _ _ (.inl rfl) e,c⟩
 |dT kvs=>
  obtain⟨z,y,xs,r,ob,es,ep,e,c⟩:=x
  exact⟨z,y,xs,Paired.mapP r λp q z=>⟨z.1,ht _ _ z.2.1,z.2.2⟩,ob,es,ep,k _ _ (.inl rfl) e,c⟩
 |set S n=>obtain⟨ob,es,ep,t,e,c⟩:=x;exact⟨ob,es,ep,t,k _ _ (.inl rfl) e,c⟩
 |ins C dx fs=>
  obtain⟨d,z,ne,e,mA,⟨od,es,ep,e2,c⟩,r⟩:=x
  exact⟨ho _ d,z,ne,k _ _ (.inl rfl) e,mA,⟨od,es,ep,k _ _ (.inr d) e2,c⟩,r⟩
 |own y=>obtain⟨ob,e⟩:=x;exact⟨ob,k _ _ (.inl rfl) e⟩
 |xd fs=>obtain⟨mA,⟨od,es,ep,e,c⟩,r⟩:=x;exact⟨mA,⟨od,es,ep,k _ _ (.inl rfl) e,c⟩,r⟩
 |rng lo hi=>obtain⟨t,u,v,e⟩:=x;exact⟨t,u,v,k _ _ (.inl rfl) e⟩
 |frz ob u ih=>obtain⟨e,q⟩:=x;exact⟨k _ _ (.inl rfl) e,ih q⟩
 |tbl ps=>
  have e:h.get? a=some {cls:=.none,data:=.fields ps}:=x
  show h'.get? a=some {cls:=.none,data:=.fields ps}
  exact k a _ (.inl rfl) e
 |met f y=>
  have e:h.get? a=some (PySem.W.methodObj (.ref f) (.ref y)):=x
  show h'.get? a=some (PySem.W.methodObj (.ref f) (.ref y))
  exact k a _ (.inl rfl) e
 |ext φ=>obtain⟨p,⟨o,e⟩,st⟩:=x;exact⟨st _ _ p λo q=>k _ _ (.inl rfl) q,⟨o,k _ _ (.inl rfl) e⟩,st⟩
theorem HOk.lt(x:HOk P w H h)(e:H a=some o):a<h.objs.size:=(x a o e).lt
theorem HOk.fresh(x:HOk P w H h)(e:h.objs.size<=a):H a=none:=by
 cases q:H a with
 |none=>rfl
 |some u=>exact absurd (qT_ (x.lt q) e) (qe1_ _)
theorem HOk.kept(x:HOk P w H h)(k:∀b u,h.get? b=some u->h'.get? b=some u):HOk P w H h':=λa o e=>
 (x a o e).stay (λb u _ q=>k b u q) (λ_ q=>q) λ_ _ q=>q
theorem HOk.laid(x:HOk P w H h)(k:∀b u,h.get? b=some u->h'.get? b=some u)(hp:h.objs.size<=a)(new:ObjOk P w (upd H a o) h' a o):HOk P w (upd H a o) h':=λb u e=>by
 have hn:=x.fresh hp
 by_cases hb:b=a
 ·subst hb;rw[bB]at e;cases e;exact new
 ·rw[bK hb]at e
  exact(x b u e).stay (λc v _ q=>k c v q) (λc q=>by rw[bK (dP q hn)];exact q) λc xs q=>by rw[bK (dP q hn)];exact q
end
def Rd(H:Hp)(a:Addr)(u:HO):Prop:=H a=some u\/∃o,H a=some (.frz o u)
theorem Rd.ok{P:Program}{w:World}{H:Hp}{h:Heap}{a:Addr}{u:HO}(r:Rd H a u)(x:HOk P w H h):ObjOk P w H h a u:=by
 rcases r with r|⟨o,r⟩
 ·exact x a u r
 ·obtain⟨_,q⟩:=x a _ r
  exact q
def Mut:Option HO->Prop
 |some (.lst _)=>True
 |some (.dK _)=>True
 |some (.dT _)=>True
 |some (.set _ _)=>True
 |some (.ins _ _ _)=>True
 |some (.ext _)=>True
 |_=>False
section
variable{P:Program}{w:World}{H:Hp}{h h':Heap}{x e:Addr}{o':HO}
theorem HOk.write(ok:HOk P w H h)(mu:Mut (H x))(he:e=x\/H e=some (.own x))(k:∀b u,b≠e->h.get? b=some u->h'.get? b=some u)(heo:∃u,h'.get? e=some u)
  (new:ObjOk P w (upd H x o') h' x o'):HOk P w (upd H x o') h':=λb u q=>by
 have nown:∀c y,H c=some (.own y)->c≠x:=λc y r z=>by subst z;rw[r]at mu;exact mu
 have ntup:∀c xs,H c=some (.tup xs)->c≠x:=λc xs r z=>by subst z;rw[r]at mu;exact mu
 by_cases hb:b=x
 ·subst hb;rw[bB]at q;cases q;exact new
 ·rw[bK hb]at q
  by_cases hbe:b=e
  ·have q':H b=some (.own x):=by
    rcases he with z|z
    ·exact absurd (hbe.trans z) hb
    ·rw[hbe];exact z
   rw[q]at q';cases q'
   obtain⟨v,hv⟩:=heo
   exact⟨v,by rw[hbe];exact hv⟩
  ·refine(ok b u q).stay (λc v hc r=>k c v ?_ r) (λc r=>by rw[bK (nown c b r)];exact r) λc xs r=>by rw[bK (ntup c xs r)];exact r
   rcases hc with rfl|hc
   ·exact hbe
   ·rintro rfl
    rcases he with z|z
    ·exact nown c b hc z
    ·rw[hc]at z;cases z;exact hb rfl
end
structure Un (fs ex:List Addr) (H H':Hp) (h h':Heap):Prop where
 keep:∀b o,h.get? b=some o->H b=none->b∉fs->b∉ex->h'.get? b=some o
 slot:∀b o,h.get? b=some o->H b=none->b∈fs->b∉ex->∃sl,h'.get? b=some {o with slots:=sl}
 free:∀b o,h.get? b=some o->H b=none->b∉ex->H' b=none
 there:∀b o,h.get? b=some o->b∉ex->∃o',h'.get? b=some o'
 tups:∀b xs,H b=some (.tup xs)->H' b=some (.tup xs)
 frzs:∀b o u,H b=some (.frz o u)->H' b=some (.frz o u)
 tbls:∀b ps,H b=some (.tbl ps)->∃more,H' b=some (.tbl (ps++more))
section
variable{fs fs' ex ex':List Addr}{H H1 H2:Hp}{h h1 h2 h':Heap}{a x e:Addr}{o:HO}
theorem Un.any(u:Un fs ex H H1 h h1){b:Addr}{ob:Obj}(q:h.get? b=some ob)(n:H b=none)(hx:b∉ex):∃sl,h1.get? b=some {ob with slots:=sl}:=by
 by_cases hb:b∈fs
 ·exact u.slot b ob q n hb hx
 ·exact⟨ob.slots,u.keep b ob q n hb hx⟩
theorem Un.kept(k:∀b u,h.get? b=some u->h'.get? b=some u):Un fs ex H H h h':=
 ⟨λb ob q _ _ _=>k b ob q,λb ob q _ _ _=>⟨ob.slots,k b ob q⟩,λ_ _ _ n _=>n,λb ob q _=>⟨ob,k b ob q⟩,λ_ _ q=>q,λ_ _ _ q=>q,λ_ ps q=>⟨#[],by rw[q];simp⟩⟩
theorem Un.refl:Un fs ex H H h h:=Un.kept λ_ _ q=>q
theorem Un.laid(k:∀b u,h.get? b=some u->h'.get? b=some u)(hp:h.objs.size<=a)(hn:H a=none):Un fs ex H (upd H a o) h h' where
 keep:=λb u q _ _ _=>k b u q
 slot:=λb u q _ _ _=>⟨u.slots,k b u q⟩
 free:=λb u q n _=>by rw[bK (qm_ (qT_ (qg_ q) hp))];exact n
 there:=λb u q _=>⟨u,k b u q⟩
 tups:=λb xs q=>by rw[bK (dP q hn)];exact q
 frzs:=λb u xs q=>by rw[bK (dP q hn)];exact q
 tbls:=λb ps q=>⟨#[],by rw[bK (dP q hn),q];simp⟩
theorem Un.write(mu:Mut (H x))(he:e=x\/H e=some (.own x))(k:∀b u,b≠e->h.get? b=some u->h'.get? b=some u)(heo:∃u,h'.get? e=some u):Un fs ex H (upd H x o) h h':=by
 have hx:∀b,H b=none->b≠x:=λb n z=>by subst z;rw[n]at mu;exact mu
 have hb:∀b,H b=none->b≠e:=λb n z=>by
  subst z
  rcases he with r|r
  ·exact hx b n r
  ·rw[n]at r;cases r
 have hm:∀b u,H b=some u->¬ Mut (some u)->b≠x:=λb u q nm z=>by subst z;rw[q]at mu;exact nm mu
 refine⟨λb u q n _ _=>k b u (hb b n) q,λb u q n _ _=>⟨u.slots,k b u (hb b n) q⟩,λb u q n _=>by rw[bK (hx b n)];exact n,λb u q _=>?_,
  λb xs q=>by rw[bK (hm b _ q λz=>z)];exact q,λb u xs q=>by rw[bK (hm b _ q λz=>z)];exact q,λb ps q=>⟨#[],by rw[bK (hm b _ q λz=>z),q];simp⟩⟩
 by_cases hbe:b=e
 ·subst hbe;exact heo
 ·exact⟨u,k b u hbe q⟩
end
def trk(h:Heap)(H:Hp):List Addr:=(List.range h.objs.size).filter λa=>(H a).isSome
def jB(h:Heap)(H:Hp):Heap:=PySem.W.hideAll h (trk h H)
theorem zE1(h:Heap)(H:Hp):(jB h H).objs.size=h.objs.size:=PySem.W.hideAll_size _ _
theorem zGc{h:Heap}{H:Hp}{b:Addr}{o:Obj}(e:h.get? b=some o)(n:H b=none):(jB h H).get? b=some o:=
 PySem.W.hideAll_get _ e λhm=>by
  have q:(H b).isSome=true:=(qc2_.mp hm).2
  rw[n]at q;simp at q
theorem zHi{h:Heap}{H:Hp}{b:Addr}{o:Obj}(e:(jB h H).get? b=some o):h.get? b=some o/\H b=none:=by
 have e':h.get? b=some o:=PySem.W.of_hideAll (trk h H) e
 refine⟨e',?_⟩
 cases q:H b with
 |none=>rfl
 |some x=>
  have hm:b∈trk h H:=qc2_.mpr ⟨qu1_.mpr (qg_ e'),by simp[q]⟩
  have z:(jB h H).get? b=none:=PySem.W.hideAll_none (trk h H) hm
  rw[z]at e;cases e
end L2
namespace L2
open PySem PySem.Spec PyProof.Rows
structure Mod (K:W.Frag) (mg:Str->Option Value) (base:Heap):Prop where
 kin:K.In base
 glob:base.Ns mainGlobals mg
 blt:∃mb,base.Ns builtinsNs mb/\∀x:Str,x≠"__name__"->mb x=bootBuiltins x
 nolimit:base.NoLimit
structure Cx where
 prog:Program
 w:World
 K:W.Frag
 mg:Str->Option Value
 base:Heap
 A:Around
 N:List Str
 s₀:Shared
 H₀:Hp
 env:Env
 outer:List Env
 stack:List Env
 ex:List Addr
 fn:Str->Bool
 calm:Bool
 pn:List (Addr×Obj)
 xe:Value->Shared->Prop
def frs(l:List Env):List Addr:=l.filterMap (·.frame)
abbrev Cx.fs(X:Cx):List Addr:=frs X.outer
def Vis(sc:Scope)(x:Str):Prop:=sc.names.lookup x=some .local\/sc.names.lookup x=some .cell\/sc.names.lookup x=some .free
def Loc(sc:Scope)(x:Str):Prop:=sc.names.lookup x=some .local\/sc.names.lookup x=some .cell
def zLO(env:Env)(h:Heap)(m:Str->Option Value)(x:Str)(u:Value):Prop:=
 (env.kindOf x=some .local/\m x=some u)\/((env.kindOf x=some .cell\/env.kindOf x=some .free)/\∃c,env.cells.lookup x=some c/\h.IsCell c (some u))
structure Cx.Ok (X:Cx):Prop where
 mod:Mod X.K X.mg X.base
 kind:X.env.scope.kind=.function
 glob:X.env.globals=mainGlobals
 blt:X.env.builtins=builtinsNs
 above:X.s₀.heap.objs.size<=X.env.locals
 inj:∀x y c,X.env.cells.lookup x=some c->X.env.cells.lookup y=some c->x=y
 has:∀x,(X.env.kindOf x=some .cell\/X.env.kindOf x=some .free)->∃c,X.env.cells.lookup x=some c
 cab:∀x c,X.fn x=true->X.env.cells.lookup x=some c->X.s₀.heap.objs.size<=c
 hd:X.calm=true->X.A.handled=none
 frames:X.A.frames=some X.stack
 stk:X.stack=X.outer\/(X.stack=X.env::X.outer/\X.env.frame=some X.env.locals)
 exf:∀b∈X.ex,b≠X.env.locals/\∀x c,X.env.cells.lookup x=some c->c≠b
 bs:∀b o,X.base.get? b=some o->X.s₀.heap.get? b=some o/\X.H₀ b=none
 bsz:X.base.objs.size<=X.s₀.heap.objs.size
 noex:∀b o,X.base.get? b=some o->b∉X.ex
 exfs:∀b∈X.ex,b∉X.fs
 funs:X.s₀.heap.FunFrames X.base X.outer
 frf:∀b∈X.fs,X.H₀ b=none
structure Inv (X:Cx) (pins:List (Addr×Obj)) (σ:List (Option V)) (H:Hp) (s:Shared):Prop where
 ok:X.Ok
 os:s.os=X.s₀.os
 bare:AllBare s.gens
 base:Un X.fs X.ex X.H₀ H X.s₀.heap s.heap
 loc:∃m,s.heap.Ns X.env.locals m/\∀(i:Nat) (x:Str) (v:V),X.N[i]?=some x->σ[i]?=some (some v)->Vis X.env.scope x->∃u,RelV v u/\zLO X.env s.heap m x u
 cell:∀x c,X.env.cells.lookup x=some c->∃v,s.heap.IsCell c v
 free:H X.env.locals=none
 freeC:∀x c,X.env.cells.lookup x=some c->H c=none
 pin:∀p∈X.pn++pins,s.heap.get? p.1=some p.2/\H p.1=none/\p.1≠X.env.locals/\p.1∉X.fs/\∀v,p.2.data≠.cell v
 hok:HOk X.prog X.w H s.heap
 len:σ.length=X.N.length
section
variable{X:Cx}{pins:List (Addr×Obj)}{σ:List (Option V)}{H H':Hp}{s:Shared}{h':Heap}
theorem Cx.Ok.nofr(ok:X.Ok){b:Addr}{o:Obj}(e:X.base.get? b=some o):b∉X.fs:=λhb=>by
 have:=(ok.funs.mem hb).1
 rw[e]at this;cases this
theorem Inv.bs(I:Inv X pins σ H s):∀b o,X.base.get? b=some o->s.heap.get? b=some o/\H b=none:=λb o e=>
 ⟨I.base.keep b o (I.ok.bs b o e).1 (I.ok.bs b o e).2 (I.ok.nofr e) (I.ok.noex b o e),I.base.free b o (I.ok.bs b o e).1 (I.ok.bs b o e).2 (I.ok.noex b o e)⟩
theorem Inv.bk(I:Inv X pins σ H s):∀b o,X.base.get? b=some o->s.heap.get? b=some o:=λb o e=>(I.bs b o e).1
theorem Inv.mod(I:Inv X pins σ H s):Mod X.K X.mg X.base:=I.ok.mod
theorem Inv.kIn(I:Inv X pins σ H s):X.K.In s.heap:=I.ok.mod.kin.keeps I.bk
theorem Inv.lt(I:Inv X pins σ H s):X.env.locals<s.heap.objs.size:=let ⟨_,hn,_⟩:=I.loc;hn.lt
theorem Inv.sz(I:Inv X pins σ H s):X.s₀.heap.objs.size<=s.heap.objs.size:=qh_ I.ok.above (qY_ I.lt)
theorem Inv.nofs(I:Inv X pins σ H s){a:Addr}(h:s.heap.objs.size<=a):a∉X.fs:=λhb=>by
 obtain⟨_,o,ho,_⟩:=I.ok.funs.mem hb
 exact absurd (qT_ (qg_ ho) (qh_ I.sz h)) (qe1_ _)
theorem Inv.cne(I:Inv X pins σ H s):∀x c,X.env.cells.lookup x=some c->c≠X.env.locals:=λx c e z=>by
 obtain⟨v,o,ho,hd⟩:=I.cell x c e
 obtain⟨m,⟨o',es,ep,ho',hd',_⟩,_⟩:=I.loc
 rw[z,ho']at ho;cases ho;rw[hd']at hd;cases hd
theorem Inv.funs(I:Inv X pins σ H s):s.heap.FunFrames X.base X.outer:=by
 have all:∀(l:List Env),(∀b∈frs l,b∈X.fs)->X.s₀.heap.FunFrames X.base l->s.heap.FunFrames X.base l:=by
  intro l
  induction l with
  |nil=>intro _ _;trivial
  |cons env r ih=>
   intro hs hl
   obtain⟨hk,⟨L,o,hf,hn,ho,hd⟩,hr⟩:=hl
   have hL:L∈X.fs:=hs L (by unfold frs;rw[qH_,hf];exact qi1_)
   obtain⟨sl,e⟩:=I.base.slot L o ho (I.ok.frf L hL) hL λz=>I.ok.exfs L z hL
   exact⟨hk,⟨L,_,hf,hn,e,hd⟩,ih (λb hb=>hs b (by unfold frs;rw[qH_,hf];exact qc1_ _ hb)) hr⟩
 exact all X.outer (λ_ hb=>hb) I.ok.funs
theorem Inv.stack(I:Inv X pins σ H s):s.heap.FunFrames X.base X.stack:=by
 rcases I.ok.stk with e|⟨e,hf⟩
 ·rw[e];exact I.funs
 ·rw[e]
  obtain⟨m,hn,_⟩:=I.loc
  refine .cons (by rw[I.ok.kind];decide) hf hn ?_ I.funs
  exact Heap.get?_none_of_le (qh_ I.ok.bsz I.ok.above)
theorem Inv.stkSub(I:Inv X pins σ H s):∀b∈frs X.stack,b∈X.env.locals::X.fs:=λb hb=>by
 rcases I.ok.stk with e|⟨e,hf⟩
 ·rw[e]at hb;exact qc1_ _ hb
 ·rw[e]at hb
  unfold frs at hb
  rw[qH_,hf]at hb
  exact hb
theorem Inv.stkFree(I:Inv X pins σ H s):∀b∈frs X.stack,H b=none:=λb hb=>by
 rcases qw_.mp (I.stkSub b hb) with e|hb
 ·rw[e];exact I.free
 ·obtain⟨_,o,ho,_⟩:=I.ok.funs.mem hb
  exact I.base.free b o ho (I.ok.frf b hb) λz=>I.ok.exfs b z hb
theorem Inv.step{g':Array GenState}{t':Nat}{d':Drawn}{ch:List Addr}(I:Inv X pins σ H s)
  (hch:∀b∈ch,(b∈X.ex\/X.s₀.heap.objs.size<=b)/\b≠X.env.locals/\(∀x c,X.env.cells.lookup x=some c->c≠b)/\∀p∈X.pn++pins,p.1≠b)
  (keep:∀b o,b≠X.env.locals->b∉X.fs->b∉ch->s.heap.get? b=some o->H b=none->h'.get? b=some o)
  (slot:∀b o,b≠X.env.locals->b∈X.fs->b∉ch->s.heap.get? b=some o->H b=none->∃sl,h'.get? b=some {o with slots:=sl}) (free:∀b o,b∉ch->s.heap.get? b=some o->H b=none->H' b=none)
  (there:∀b o,b∉ch->s.heap.get? b=some o->∃o',h'.get? b=some o')
  (tups:∀b xs,H b=some (.tup xs)->H' b=some (.tup xs)) (frzs:∀b o u,H b=some (.frz o u)->H' b=some (.frz o u)) (tbls:∀b ps,H b=some (.tbl ps)->∃more,H' b=some (.tbl (ps++more)))
  (ns:∀m,s.heap.Ns X.env.locals m->h'.Ns X.env.locals m) (hok:HOk X.prog X.w H' h') (hg:AllBare g'):
  Inv X pins σ H' {s with heap:=h',gens:=g',drawn:=d',toks:=t'}:=by
 have neL:∀b o,X.s₀.heap.get? b=some o->b≠X.env.locals:=λb o e=>qm_ (qT_ (qg_ e) I.ok.above)
 have neC:∀b o,X.s₀.heap.get? b=some o->b∉X.ex->b∉ch:=λb o e hx hb=>by
  rcases (hch b hb).1 with z|z
  ·exact hx z
  ·exact absurd (qT_ (qg_ e) z) (qe1_ _)
 have cellK:∀x c,X.env.cells.lookup x=some c->∀v,s.heap.IsCell c v->h'.IsCell c v:=λx c e v ⟨o,ho,hd⟩=>by
  have nch:c∉ch:=λz=>(hch c z).2.2.1 x c e rfl
  by_cases hc:c∈X.fs
  ·obtain⟨sl,q⟩:=slot c o (I.cne x c e) hc nch ho (I.freeC x c e)
   exact⟨_,q,hd⟩
  ·exact⟨o,keep c o (I.cne x c e) hc nch ho (I.freeC x c e),hd⟩
 refine⟨I.ok,I.os,hg,⟨λb o e n hb hx=>?_,λb o e n hb hx=>?_,λb o e n hx=>?_,λb o e hx=>?_,λb xs e=>tups b xs (I.base.tups b xs e),λb o xs e=>frzs b o xs (I.base.frzs b o xs e),λb ps e=>?_⟩,?_,λx c e=>?_,?_,λx c e=>?_,λp hp=>?_,hok,I.len⟩
 ·exact keep b o (neL b o e) hb (neC b o e hx) (I.base.keep b o e n hb hx) (I.base.free b o e n hx)
 ·obtain⟨sl,e1⟩:=I.base.slot b o e n hb hx
  obtain⟨sl',e2⟩:=slot b _ (neL b o e) hb (neC b o e hx) e1 (I.base.free b o e n hx)
  exact⟨sl',e2⟩
 ·obtain⟨o',e1⟩:=I.base.there b o e hx
  exact free b o' (neC b o e hx) e1 (I.base.free b o e n hx)
 ·obtain⟨o',e1⟩:=I.base.there b o e hx
  exact there b o' (neC b o e hx) e1
 ·obtain⟨m1,e1⟩:=I.base.tbls b ps e
  obtain⟨m2,e2⟩:=tbls b _ e1
  exact⟨m1++m2,by rw[e2,Array.append_assoc]⟩
 ·obtain⟨m,hn,hl⟩:=I.loc
  refine⟨m,ns m hn,λi x v e1 e2 e3=>?_⟩
  obtain⟨u,r,l⟩:=hl i x v e1 e2 e3
  refine⟨u,r,?_⟩
  rcases l with l|⟨k,c,e,z⟩
  ·exact .inl l
  ·exact .inr ⟨k,c,e,cellK x c e _ z⟩
 ·obtain⟨v,z⟩:=I.cell x c e
  exact⟨v,cellK x c e v z⟩
 ·obtain⟨m,⟨o,_,_,ho,_⟩,_⟩:=I.loc
  exact free _ o (λz=>(hch _ z).2.1 rfl) ho I.free
 ·obtain⟨v,o,ho,hd⟩:=I.cell x c e
  exact free c o (λz=>(hch c z).2.2.1 x c e rfl) ho (I.freeC x c e)
 ·obtain⟨e,n,ne,nf,d⟩:=I.pin p hp
  have nch:p.1∉ch:=λz=>(hch p.1 z).2.2.2 p hp rfl
  exact⟨keep p.1 p.2 ne nf nch e n,free p.1 p.2 nch e n,ne,nf,d⟩
theorem Inv.un{t':Nat}(I:Inv X pins σ H s)(u:Un X.fs [] H H' s.heap h')(hok:HOk X.prog X.w H' h'):Inv X pins σ H' {s with heap:=h',toks:=t'}:=by
 obtain⟨m,⟨o,es,ep,ho,r⟩,_⟩:=id I.loc
 obtain⟨sl,hL⟩:=u.any ho I.free (by simp)
 exact I.step (g':=s.gens) (d':=s.drawn) (ch:=[]) (λ_ z=>nomatch z) (λb o _ hb _ e n=>u.keep b o e n hb (by simp)) (λb o _ hb _ e n=>u.slot b o e n hb (by simp)) (λb o _ e n=>u.free b o e n (by simp)) (λb o _ e=>u.there b o e (by simp)) u.tups u.frzs u.tbls (λm' hm=>by
  obtain⟨o',es',ep',ho',r'⟩:=hm
  rw[ho]at ho';cases ho'
  exact⟨_,es',ep',hL,r'⟩) hok I.bare
theorem Inv.call{g':Array GenState}{t':Nat}{d':Drawn}{ch:List Addr}(I:Inv X pins σ H s)(u:Un (frs X.stack) ch H H' s.heap h')(hok:HOk X.prog X.w H' h')(hg:AllBare g')
  (hch:∀b∈ch,(b∈X.ex\/X.s₀.heap.objs.size<=b)/\b≠X.env.locals/\(∀x c,X.env.cells.lookup x=some c->c≠b)/\∀p∈X.pn++pins,p.1≠b):
  Inv X pins σ H' {s with heap:=h',gens:=g',drawn:=d',toks:=t'}:=by
 obtain⟨m,⟨o,es,ep,ho,r⟩,_⟩:=id I.loc
 obtain⟨sl,hL⟩:=u.any ho I.free λz=>(hch _ z).2.1 rfl
 exact I.step (ch:=ch) hch (λb o hL hb hc e n=>u.keep b o e n (λz=>(qw_.mp (I.stkSub b z)).elim hL hb) hc) (λb o _ _ hc e n=>u.any e n hc) (λb o hc e n=>u.free b o e n hc) (λb o hc e=>u.there b o e hc) u.tups u.frzs u.tbls (λm' hm=>by
  obtain⟨o',es',ep',ho',r'⟩:=hm
  rw[ho]at ho';cases ho'
  exact⟨_,es',ep',hL,r'⟩) hok hg
theorem Inv.turned{t':Nat}{it:Addr}(I:Inv X pins σ H s)(k:∀b o,b≠it->s.heap.get? b=some o->h'.get? b=some o)(hn:H it=none)(hL:it≠X.env.locals)
  (h1:it∈X.ex\/X.s₀.heap.objs.size<=it) (h2:∀x c,X.env.cells.lookup x=some c->c≠it) (h3:∀p∈X.pn++pins,p.1≠it):Inv X pins σ H {s with heap:=h',toks:=t'}:=by
 have nit:∀b u,H b=some u->b≠it:=λb u e z=>by rw[z,hn]at e;cases e
 refine I.step (g':=s.gens) (d':=s.drawn) (ch:=[it]) (λb hb=>?_) (λb o _ _ hc e _=>k b o (λz=>hc (by simp[z])) e) (λb o _ _ hc e _=>⟨o.slots,k b o (λz=>hc (by simp[z])) e⟩) (λ_ _ _ _ n=>n)
  (λb o hc e=>⟨o,k b o (λz=>hc (by simp[z])) e⟩) (λ_ _ e=>e) (λ_ _ _ e=>e) (λb ps e=>⟨#[],by rw[e];simp⟩) (λm hm=>?_) (λb u e=>?_) I.bare
 ·have e:b=it:=by simpa using hb
  subst e
  exact⟨h1,hL,h2,h3⟩
 ·obtain⟨o,es,ep,ho,r⟩:=hm
  exact⟨o,es,ep,k _ o (Ne.symm hL) ho,r⟩
 ·refine(I.hok b u e).stay (λc v hc q=>k c v ?_ q) (λ_ q=>q) λ_ _ q=>q
  rcases hc with z|z
  ·rw[z];exact nit b u e
  ·exact nit c _ z
theorem Inv.tok(I:Inv X pins σ H s)(t:Nat):Inv X pins σ H {s with toks:=t}:=I.un (h':=s.heap) (t':=t) Un.refl I.hok
theorem Inv.kept{t':Nat}(I:Inv X pins σ H s)(k:∀b u,s.heap.get? b=some u->h'.get? b=some u):Inv X pins σ H {s with heap:=h',toks:=t'}:=I.un (Un.kept k) (I.hok.kept k)
theorem Inv.laid{a:Addr}{o:HO}{t':Nat}(I:Inv X pins σ H s)(k:∀b u,s.heap.get? b=some u->h'.get? b=some u)(hp:s.heap.objs.size<=a)(new:ObjOk X.prog X.w (upd H a o) h' a o):
  Inv X pins σ (upd H a o) {s with heap:=h',toks:=t'}:=I.un (Un.laid k hp (I.hok.fresh hp)) (I.hok.laid k hp new)
theorem Inv.write{x e:Addr}{o:HO}{t':Nat}(I:Inv X pins σ H s)(mu:Mut (H x))(he:e=x\/H e=some (.own x))(k:∀b u,b≠e->s.heap.get? b=some u->h'.get? b=some u)(heo:∃u,h'.get? e=some u)
  (new:ObjOk X.prog X.w (upd H x o) h' x o):Inv X pins σ (upd H x o) {s with heap:=h',toks:=t'}:=I.un (Un.write mu he k heo) (I.hok.write mu he k heo new)
theorem Inv.weak{σ':List (Option V)}(I:Inv X pins σ H s)(hl:σ'.length=σ.length)(w:∀(i:Nat) v,σ'[i]?=some (some v)->σ[i]?=some (some v)):Inv X pins σ' H s:=
 ⟨I.ok,I.os,I.bare,I.base,let ⟨m,hn,hl'⟩:=I.loc;⟨m,hn,λi x v e1 e2 e3=>hl' i x v e1 (w i v e2) e3⟩,I.cell,I.free,I.freeC,I.pin,I.hok,hl.trans I.len⟩
theorem Inv.pins_of{pins':List (Addr×Obj)}(I:Inv X pins σ H s)(h:∀p∈pins',s.heap.get? p.1=some p.2/\H p.1=none/\p.1≠X.env.locals/\p.1∉X.fs/\∀v,p.2.data≠.cell v):Inv X pins' σ H s:=
 ⟨I.ok,I.os,I.bare,I.base,I.loc,I.cell,I.free,I.freeC,λp hp=>(qp_.mp hp).elim (λz=>I.pin p (qD_ _ z)) (h p),I.hok,I.len⟩
theorem zAX{N:List Str}(hN:N.Nodup){i j:Nat}{x:Str}(a:N[i]?=some x)(b:N[j]?=some x):i=j:=by
 obtain⟨h1,e1⟩:=qx_.mp a
 obtain⟨h2,e2⟩:=qx_.mp b
 exact(List.getElem_inj hN).mp (e1.trans e2.symm)
theorem zAa{M:Model}{A:Around}{E:Value->Shared->Prop}{i:Nat}{x:Str}{v:V}{u:Value}{Q:Unit->Shared->Prop}(I:Inv X pins σ H s)(hN:X.N.Nodup)(hi:X.N[i]?=some x)(hx:Loc X.env.scope x)(r:RelV v u)
  (h:∀s',Inv X pins (σ.set i (some v)) H s'->(∃a,Heap.SameBut a s.heap s'.heap/\(a=X.env.locals\/X.env.cells.lookup x=some a))->Q () s') (hf:X.fn x=true\/X.env.scope.names.lookup x=some .local:=by first|exact .inl rfl|exact .inr rfl|assumption):wpAny M A (storeName X.env x u) Q E s:=by
 obtain⟨m,hn,hl⟩:=id I.loc
 have hcls:(X.env.scope.kind==.class || (X.env.scope.kind==.module&&X.env.locals != X.env.globals))=false:=by rw[I.ok.kind];rfl
 have hiσ:i<σ.length:=by rw[I.len];exact(qx_.mp hi).1
 have cne:=I.cne
 have tracked:∀{a:Addr} {h':Heap},(∃o,s.heap.get? a=some o/\H a=none)->Heap.SameBut a s.heap h'->HOk X.prog X.w H h':=λ{a h'} ha hs b ob e=>by
  obtain⟨_,_,hfree⟩:=ha
  refine(I.hok b ob e).stay (λc w' hc q=>(hs.2 c ?_).trans q) (λ_ q=>q) λ_ _ q=>q
  rintro rfl
  rcases hc with rfl|hc
  ·rw[hfree]at e;cases e
  ·rw[hfree]at hc;cases hc
 rcases hx with hk|hk
 ·refine wpAny_storeName_local hk hn (λh' hn' hs=>?_) hcls
  obtain⟨oL,_,_,hoL,_⟩:=id hn
  refine h _ ⟨I.ok,I.os,I.bare,⟨λb o e n hb hx=>?_,λb o e n hb hx=>?_,I.base.free,λb o e hx=>?_,I.base.tups,I.base.frzs,I.base.tbls⟩,⟨_,hn',λj y v' e1 e2 e3=>?_⟩,λy c e=>?_,I.free,I.freeC,λp hp=>?_,tracked ⟨oL,hoL,I.free⟩ hs,by simpa using I.len⟩ ⟨_,hs,.inl rfl⟩
  ·exact(hs.2 b (qm_ (qT_ (qg_ e) I.ok.above))).trans (I.base.keep b o e n hb hx)
  ·obtain⟨sl,e1⟩:=I.base.slot b o e n hb hx
   exact⟨sl,(hs.2 b (qm_ (qT_ (qg_ e) I.ok.above))).trans e1⟩
  ·obtain⟨o',e1⟩:=I.base.there b o e hx
   exact⟨o',(hs.2 b (qm_ (qT_ (qg_ e) I.ok.above))).trans e1⟩
  ·by_cases hj:j=i
   ·subst hj
    rw[hi]at e1;cases e1
    rw[qj1_ hiσ]at e2
    cases e2
    exact⟨u,r,.inl ⟨hk,by simp⟩⟩
   ·rw[qm1_ (Ne.symm hj)]at e2
    obtain⟨u',r',q⟩:=hl j y v' e1 e2 e3
    refine⟨u',r',?_⟩
    rcases q with⟨k,e⟩|⟨k,c,e,z⟩
    ·refine .inl ⟨k,?_⟩
     have:y≠x:=λe=>hj (zAX hN e1 (e▸hi))
     simp[this,e]
    ·exact .inr ⟨k,c,e,z.sameBut hs (cne y c e)⟩
  ·obtain⟨w',z⟩:=I.cell y c e
   exact⟨w',z.sameBut hs (cne y c e)⟩
  ·obtain⟨e,n,ne,nf,d⟩:=I.pin p hp
   exact⟨(hs.2 p.1 ne).trans e,n,ne,nf,d⟩
 ·have hfn:X.fn x=true:=by
   rcases hf with z|z
   ·exact z
   ·rw[z]at hk;cases hk
  obtain⟨c,hc⟩:=I.ok.has x (.inl hk)
  obtain⟨w',z⟩:=I.cell x c hc
  refine wpAny_storeName_cell I.ok.kind hk hc z (λh' hc' hs=>?_)
  obtain⟨oc,hoc,hocd⟩:=id z
  refine h {s with heap:=h'} ⟨I.ok,I.os,I.bare,⟨λb o e n hb hx=>?_,λb o e n hb hx=>?_,I.base.free,λb o e hx=>?_,I.base.tups,I.base.frzs,I.base.tbls⟩,⟨m,hn.sameBut hs (Ne.symm (cne x c hc)),λj y v' e1 e2 e3=>?_⟩,λy c' e=>?_,I.free,I.freeC,λp hp=>?_,tracked ⟨oc,hoc,I.freeC x c hc⟩ hs,by simpa using I.len⟩ ⟨c,hs,.inr hc⟩
  ·exact(hs.2 b (qm_ (qT_ (qg_ e) (I.ok.cab x c hfn hc)))).trans (I.base.keep b o e n hb hx)
  ·obtain⟨sl,e1⟩:=I.base.slot b o e n hb hx
   exact⟨sl,(hs.2 b (qm_ (qT_ (qg_ e) (I.ok.cab x c hfn hc)))).trans e1⟩
  ·obtain⟨o',e1⟩:=I.base.there b o e hx
   exact⟨o',(hs.2 b (qm_ (qT_ (qg_ e) (I.ok.cab x c hfn hc)))).trans e1⟩
  ·by_cases hj:j=i
   ·subst hj
    rw[hi]at e1;cases e1
    rw[qj1_ hiσ]at e2
    cases e2
    exact⟨u,r,.inr ⟨.inl hk,c,hc,hc'⟩⟩
   ·rw[qm1_ (Ne.symm hj)]at e2
    obtain⟨u',r',q⟩:=hl j y v' e1 e2 e3
    refine⟨u',r',?_⟩
    rcases q with q|⟨k,c',e,z'⟩
    ·exact .inl q
    ·refine .inr ⟨k,c',e,z'.sameBut hs ?_⟩
     rintro rfl
     exact hj (zAX hN e1 (I.ok.inj _ _ _ e hc▸hi))
  ·by_cases hcc:c'=c
   ·subst hcc;exact⟨_,hc'⟩
   ·obtain⟨w2,z2⟩:=I.cell y c' e
    exact⟨w2,z2.sameBut hs hcc⟩
  ·obtain⟨e,n,ne,nf,d⟩:=I.pin p hp
   refine⟨(hs.2 p.1 ?_).trans e,n,ne,nf,d⟩
   intro q
   rw[q,hoc]at e
   have q':oc=p.2:=Option.some.inj e
   exact d w' (by rw[<-q'];exact hocd)
theorem qJ{M:Model}{A:Around}{E:Value->Shared->Prop}{i:Nat}{x:Str}{v:V}{u:Value}{Q:Unit->Shared->Prop}(I:Inv X pins σ H s)(hN:X.N.Nodup)(hi:X.N[i]?=some x)(hx:Loc X.env.scope x)(r:RelV v u)
  (h:∀s',Inv X pins (σ.set i (some v)) H s'->Q () s') (hf:X.fn x=true\/X.env.scope.names.lookup x=some .local:=by first|exact .inl rfl|exact .inr rfl|assumption):wpAny M A (storeName X.env x u) Q E s:=
 zAa I hN hi hx r (λs' I' _=>h s' I') hf
theorem Inv.call'{s':Shared}{ch:List Addr}(I:Inv X pins σ H s)(ho:s'.os=s.os)(u:Un (frs X.stack) ch H H' s.heap s'.heap)(hok:HOk X.prog X.w H' s'.heap)(hg:AllBare s'.gens)
  (hch:∀b∈ch,(b∈X.ex\/X.s₀.heap.objs.size<=b)/\b≠X.env.locals/\(∀x c,X.env.cells.lookup x=some c->c≠b)/\∀p∈X.pn++pins,p.1≠b):Inv X pins σ H' s':=by
 obtain⟨h',g',d',t',o'⟩:=s'
 have e:o'=s.os:=ho
 subst e
 exact I.call (g':=g') (t':=t') (d':=d') u hok hg hch
end
abbrev XK:=Value->Option Addr->Hp->Prop
abbrev St:=List (Option V)
abbrev VK:=V->Hp->Prop
abbrev TE:=St->Hp->VK->Prop
abbrev TT:=St->Hp->(Bool->Hp->Prop)->Prop
abbrev TA:=St->Hp->(List V->Hp->Prop)->Prop
structure kU where
 nx:St->Hp->Prop
 rt:VK
 bk:St->Hp->Prop:=λ_ _=>False
 ct:St->Hp->Prop:=λ_ _=>False
abbrev TS:=kU->St->Hp->Prop
def EP(X:Cx)(pins:List (Addr×Obj))(σ:St)(Q:VK)(u:Value)(s':Shared):Prop:=∃v H',Inv X pins σ H' s'/\RelV v u/\Q v H'
def TP(X:Cx)(pins:List (Addr×Obj))(σ:St)(Q:Bool->Hp->Prop)(b:Bool)(s':Shared):Prop:=∃H',Inv X pins σ H' s'/\Q b H'
def AP(X:Cx)(pins:List (Addr×Obj))(σ:St)(Q:List V->Hp->Prop)(us:List Value)(s':Shared):Prop:=∃vs H',Inv X pins σ H' s'/\Vals vs us/\Q vs H'
def SP(X:Cx)(pins:List (Addr×Obj))(D:kU)(f:Flow)(s':Shared):Prop:=
 match f with
 |.next=>∃σ' H',Inv X pins σ' H' s'/\D.nx σ' H'
 |.brk=>∃σ' H',Inv X pins σ' H' s'/\D.bk σ' H'
 |.cont=>∃σ' H',Inv X pins σ' H' s'/\D.ct σ' H'
 |.ret u=>∃v σ' H',Inv X pins σ' H' s'/\RelV v u/\D.rt v H'
def PE(X:Cx)(e:Expr)(t:TE):Prop:=
 ∀(pins:List (Addr×Obj)) (s:Shared) (σ:St) (H:Hp) (Q:VK),Inv X pins σ H s->t σ H Q->wpAny (model X.prog X.w) X.A (eval e X.env) (EP X pins σ Q) X.xe s
def PT(X:Cx)(e:Expr)(t:TT):Prop:=
 ∀(pins:List (Addr×Obj)) (s:Shared) (σ:St) (H:Hp) (Q:Bool->Hp->Prop),Inv X pins σ H s->t σ H Q->wpAny (model X.prog X.w) X.A (isTrue e X.env (eval e X.env)) (TP X pins σ Q) X.xe s
def PW(X:Cx)(e:Expr)(t:TT):Prop:=
 ∀(whole:Sem Value) (pins:List (Addr×Obj)) (s:Shared) (σ:St) (H:Hp) (Q:Bool->Hp->Prop),Inv X pins σ H s->t σ H Q->wpAny (model X.prog X.w) X.A (isTrue e X.env whole) (TP X pins σ Q) X.xe s
theorem PW.pt{X:Cx}{e:Expr}{t:TT}(h:PW X e t):PT X e t:=h _
def PA(X:Cx)(es:List Expr)(t:TA):Prop:=
 ∀(pos:Pos) (pins:List (Addr×Obj)) (s:Shared) (σ:St) (H:Hp) (Q:List V->Hp->Prop),Inv X pins σ H s->t σ H Q->wpAny (model X.prog X.w) X.A (spliced (backTo pos (starEach es X.env))) (AP X pins σ Q) X.xe s
def PS(X:Cx)(st:Stmt)(t:TS):Prop:=
 ∀(pins:List (Addr×Obj)) (s:Shared) (σ:St) (H:Hp) (D:kU),Inv X pins σ H s->t D σ H->wpAny (model X.prog X.w) X.A (exec st X.env) (SP X pins D) X.xe s
def PSs(X:Cx)(st:List Stmt)(t:TS):Prop:=
 ∀(pins:List (Addr×Obj)) (s:Shared) (σ:St) (H:Hp) (D:kU),Inv X pins σ H s->t D σ H->wpAny (model X.prog X.w) X.A (execs st X.env) (SP X pins D) X.xe s
theorem thn{α:Type}{t:Sem α}{Q Q':α->Shared->Prop}{M:Model}{A:Around}{E:Value->Shared->Prop}{s:Shared}(h:wpAny M A t Q E s)(hQ:∀a s,Q a s->Q' a s):wpAny M A t Q' E s:=wpAny_mono h hQ λ_ _ x=>x
end L2
namespace L2
open PySem PySem.Spec PyProof.Rows
section
variable{X:Cx}
def zCU(i:Nat):TE:=λσ H Q=>∃v,σ[i]?=some (some v)/\Q v H
def tC(v:V):TE:=λ_ H Q=>Q v H
theorem kF{i:Nat}{x:Str}{pos:Pos}(hN:X.N[i]?=some x)(hv:Vis X.env.scope x)(hd:(x==("__debug__":Str))=false:=by decide)(hcd:(x==("__classdict__":Str))=false:=by decide):PE X (.Name x pos) (zCU i):=by
 intro pins s σ H Q I h
 obtain⟨v,e,h⟩:=h
 obtain⟨m,hn,hl⟩:=I.loc
 obtain⟨u,r,l⟩:=hl i x v hN e hv
 have fin:EP X pins σ Q u s:=⟨v,H,I,r,h⟩
 rcases l with⟨hk,hm⟩|⟨hk,c,hc,hcell⟩
 ·exact wpAny_Name (wpAny_loadName_local I.ok.kind hk hn hm fin) hd
 ·rcases hk with hk|hk
  ·exact wpAny_Name (wpAny_loadName_cell I.ok.kind hk hc hcell fin) hd
  ·exact wpAny_Name (wpAny_loadName_free I.ok.kind hk hc hcell fin hcd) hd
theorem cM{i j pos}:PE X (.Constant (.int i) j pos) (tC (.int i)):=λ_ _ _ H _ I h=>wpAny_Constant_int ⟨.int i,H,I.tok _,⟨_,rfl⟩,h⟩
theorem zJW{b j pos}:PE X (.Constant (.bool b) j pos) (tC (.bl b)):=λ_ _ _ H _ I h=>Constant_bool ⟨.bl b,H,I,rfl,h⟩
theorem zIH{j pos}:PE X (.Constant .none j pos) (tC .non):=λ_ _ _ H _ I h=>Constant_none ⟨.non,H,I,rfl,h⟩
theorem zIE{x j pos}:PE X (.Constant (.str x) j pos) (tC (.str x)):=λ_ _ _ H _ I h=>Calls.Constant_str ⟨.str x,H,I.tok _,⟨_,rfl⟩,h⟩
def Gl(X:Cx)(x:Str):Prop:=X.env.kindOf x=some .globalImplicit
theorem vW{E:Value->Shared->Prop}{pins:List (Addr×Obj)}{s:Shared}{σ:St}{H:Hp}{x:Str}{u:Value}{pos:Pos}{Q:Value->Shared->Prop}(I:Inv X pins σ H s)(hg:Gl X x)(hm:X.mg x=some u)(h:Q u s)
  (hd:(x==("__debug__":Str))=false:=by decide):wpAny (model X.prog X.w) X.A (eval (.Name x pos) X.env) Q E s:=
 Calls.Name_function_global I.ok.kind hg (Calls.loadGlobal_global (by rw[I.ok.glob];exact I.mod.glob.keeps I.bk) hm h) hd
theorem oJ{E:Value->Shared->Prop}{pins:List (Addr×Obj)}{s:Shared}{σ:St}{H:Hp}{x:Str}{u:Value}{pos:Pos}{Q:Value->Shared->Prop}(I:Inv X pins σ H s)(hg:Gl X x)(hm:X.mg x=none)(hv:bootBuiltins x=some u)(h:Q u s)
  (hn:x≠"__name__":=by decide) (hd:(x==("__debug__":Str))=false:=by decide):wpAny (model X.prog X.w) X.A (eval (.Name x pos) X.env) Q E s:=by
 obtain⟨mb,h1,h2⟩:=I.mod.blt
 exact Calls.Name_function_global I.ok.kind hg (Calls.loadGlobal_builtin (by rw[I.ok.glob];exact I.mod.glob.keeps I.bk) hm (by rw[I.ok.blt];exact h1.keeps I.bk) ((h2 x hn).trans hv) h) hd
theorem zBI{x:Str}{v:V}{u:Value}{pos:Pos}(hg:Gl X x)(hm:X.mg x=some u)(r:RelV v u)(hd:(x==("__debug__":Str))=false:=by decide):PE X (.Name x pos) (tC v):=
 λ_ _ _ H _ I h=>vW I hg hm ⟨v,H,I,r,h⟩ hd
theorem cG{x:Str}{v:V}{u:Value}{pos:Pos}(hg:Gl X x)(hm:X.mg x=none)(hv:bootBuiltins x=some u)(r:RelV v u)(hn:x≠"__name__":=by decide)(hd:(x==("__debug__":Str))=false:=by decide):PE X (.Name x pos) (tC v):=
 λ_ _ _ H _ I h=>oJ I hg hm hv ⟨v,H,I,r,h⟩ hn hd
variable{a b:Expr}{ta tb:TE}{pos:Pos}
def tB(t:TE):TT:=λσ H Q=>t σ H λx H1=>∃c,x=.bl c/\Q c H1
theorem zIs{e:Expr}{t:TE}(h:PE X e t)(he:∀whole,isTrue e X.env whole=(do let v <- whole;standAt e.pos;holding [v] (truthy v)):=by intro _;rfl):PT X e (tB t):=by
 intro pins s σ H Q I hw
 refine isTrue_plain (thn (h pins s σ H _ I hw) λv s1 ⟨x,H1,I1,r1,q1⟩=>?_) (he _)
 obtain⟨d,rfl,q⟩:=q1
 cases r1
 exact wpAny_truthy_bool ⟨H1,I1,q⟩
variable{tA tB':TT}{rest:List Expr}
def zKG(t u:TT):TT:=λσ H Q=>t σ H λc H1=>if c=true then u σ H1 Q else Q false H1
def tOr(t u:TT):TT:=λσ H Q=>t σ H λc H1=>if c=true then Q true H1 else u σ H1 Q
def zKC(t:TT):TT:=λσ H Q=>t σ H λc H1=>Q (!c) H1
theorem zGW(ha:PT X a tA):PW X (.BoolOp .And [a] pos) tA:=by
 intro wh pins s σ H Q I h
 refine isTrue_and (thn (ha pins s σ H Q I h) λc s1 e=>?_)
 cases c with
 |true=>exact isTrue_and_nil e
 |false=>exact e
theorem zIn(ha:PT X a tA):PW X (.BoolOp .Or [a] pos) tA:=by
 intro wh pins s σ H Q I h
 refine isTrue_or (thn (ha pins s σ H Q I h) λc s1 e=>?_)
 cases c with
 |false=>exact isTrue_or_nil e
 |true=>exact e
theorem zIo(ha:PT X a tA)(hb:PW X (.BoolOp .And (b::rest) pos) tB'):PW X (.BoolOp .And (a::b::rest) pos) (zKG tA tB'):=by
 intro wh pins s σ H Q I h
 refine isTrue_and (thn (ha pins s σ H _ I h) λc s1 ⟨H1,I1,q1⟩=>?_)
 cases c with
 |true=>exact hb wh pins s1 σ H1 Q I1 q1
 |false=>exact⟨H1,I1,q1⟩
theorem zJT(ha:PT X a tA)(hb:PW X (.BoolOp .Or (b::rest) pos) tB'):PW X (.BoolOp .Or (a::b::rest) pos) (tOr tA tB'):=by
 intro wh pins s σ H Q I h
 refine isTrue_or (thn (ha pins s σ H _ I h) λc s1 ⟨H1,I1,q1⟩=>?_)
 cases c with
 |true=>exact⟨H1,I1,q1⟩
 |false=>exact hb wh pins s1 σ H1 Q I1 q1
theorem zIt(ha:PT X a tA):PT X (.UnaryOp .Not a pos) (zKC tA):=by
 intro pins s σ H Q I h
 exact isTrue_not (ha pins s σ H (λc H1=>Q (!c) H1) I h)
def zJF(ta tb:TE):TE:=λσ H Q=>ta σ H λx H1=>∃c,x=.bl c/\if c=true then tb σ H1 Q else Q (.bl false) H1
theorem zIG{op}{t:TE}(h:PE X a t):PE X (.BoolOp op [a] pos) t:=λpins s σ H Q I hw=>BoolOp_one (h pins s σ H Q I hw)
theorem zIK(ha:PE X a ta)(hb:PE X (.BoolOp .And (b::rest) pos) tb):PE X (.BoolOp .And (a::b::rest) pos) (zJF ta tb):=by
 intro pins s σ H Q I h
 refine BoolOp_and (thn (ha pins s σ H _ I h) λv s1 ⟨x,H1,I1,r1,q1⟩=>?_)
 obtain⟨c,rfl,q1⟩:=q1
 cases r1
 refine wpAny_truthy_bool ?_
 cases c with
 |true=>exact hb pins s1 σ H1 Q I1 q1
 |false=>exact⟨.bl false,H1,I1,rfl,q1⟩
def tIf(t:TT)(ta tb:TE):TE:=λσ H Q=>t σ H λc H1=>if c=true then ta σ H1 Q else tb σ H1 Q
theorem zFR{c:Expr}(hc:PT X c tA)(ha:PE X a ta)(hb:PE X b tb):PE X (.IfExp c a b pos) (tIf tA ta tb):=by
 intro pins s σ H Q I h
 refine wpAny_IfExp (thn (hc pins s σ H _ I h) λd s1 ⟨H1,I1,q1⟩=>?_)
 cases d with
 |true=>exact ha pins s1 σ H1 Q I1 q1
 |false=>exact hb pins s1 σ H1 Q I1 q1
end
end L2
namespace L2
open PySem PySem.Spec PyProof.Rows
def SqL(K:W.Frag)(H:Hp)(a:Addr)(xs:List V):Prop:=
 Rd H a (.lst xs) \/
  ∃(o:Obj) (its:Array Value) (n:Nat),K.lookup a=some o/\o.cls=.type "list"/\o.dict=none/\o.data=.seq its n/\its.size<=sizeLine/\Vals xs its.toList
def SqT(K:W.Frag)(H:Hp)(a:Addr)(xs:List V):Prop:=
 Rd H a (.tup xs) \/
  ∃(o:Obj) (its:Array Value) (n:Nat),K.lookup a=some o/\o.cls=.type "tuple"/\o.data=.seq its n/\its.size<=sizeLine/\Vals xs its.toList
def zLL:Value->Option V
 |.none=>some .non
 |.bool b=>some (.bl b)
 |.int i _=>some (.int i)
 |.str x _=>some (.str x)
 |.bytes b _=>some (.byt b)
 |.float b _=>some (.flt b)
 |.ref a=>some (.ref a)
 |.type n=>some (.ty n)
 |_=>none
theorem RelV.abs{x:V}{u:Value}(r:RelV x u):zLL u=some x:=by
 cases x with
 |non=>cases r;rfl
 |bl _=>cases r;rfl
 |int _=>obtain⟨t,rfl⟩:=r;rfl
 |str _=>obtain⟨t,rfl⟩:=r;rfl
 |byt _=>obtain⟨t,rfl⟩:=r;rfl
 |flt _=>obtain⟨t,rfl⟩:=r;rfl
 |ref _=>cases r;rfl
 |ty _=>cases r;rfl
theorem RelV.inj{x y:V}{u:Value}(r:RelV x u)(q:RelV y u):x=y:=Option.some.inj (r.abs.symm.trans q.abs)
theorem Vals.inj:∀{xs ys:List V}{us:List Value},Vals xs us->Vals ys us->xs=ys
 |_,_,_,.nil,.nil=>rfl
 |_,_,_,.cons r t,.cons r' t'=>by rw[r.inj r',Vals.inj t t']
section
variable{X:Cx}{pins:List (Addr×Obj)}{σ:St}{H:Hp}{s:Shared}{a:Addr}{xs ys:List V}
theorem SqL.of{K:W.Frag}(h:H a=some (.lst xs)):SqL K H a xs:=.inl (.inl h)
theorem SqT.of{K:W.Frag}(h:H a=some (.tup xs)):SqT K H a xs:=.inl (.inl h)
theorem Inv.list(I:Inv X pins σ H s)(h:SqL X.K H a xs):∃its:List Value,Vals xs its/\PlainL s.heap a its.toArray/\xs.length<=sizeLine:=by
 rcases h with h|⟨o,its,n,hk,hc,hd,hs,hz,r⟩
 ·obtain⟨z,its,n,r,e⟩:=h.ok I.hok
  exact⟨its,r,⟨_,n,e,rfl,rfl,rfl⟩,z⟩
 ·refine⟨its.toList,r,⟨o,n,I.kIn a o hk,hc,hd,by simpa using hs⟩,?_⟩
  have e:=r.length
  simp only[Array.length_toList]at e
  omega
theorem Inv.tuple(I:Inv X pins σ H s)(h:SqT X.K H a xs):∃its:List Value,Vals xs its/\IsTup s.heap a its.toArray/\xs.length<=sizeLine:=by
 rcases h with h|⟨o,its,n,hk,hc,hs,hz,r⟩
 ·obtain⟨z,its,r,p⟩:=h.ok I.hok
  exact⟨its,r,p,z⟩
 ·refine⟨its.toList,r,⟨o,I.kIn a o hk,hc,n,by simpa using hs⟩,?_⟩
  have e:=r.length
  simp only[Array.length_toList]at e
  omega
theorem Inv.list_inj(I:Inv X pins σ H s)(h:SqL X.K H a xs)(h':SqL X.K H a ys):xs=ys:=by
 obtain⟨its,r,⟨o,n,e,_,_,d⟩,_⟩:=I.list h
 obtain⟨its',r',⟨o',n',e',_,_,d'⟩,_⟩:=I.list h'
 rw[e]at e';cases e'
 rw[d]at d'
 injection d' with d1 _
 have:its=its':=by simpa using congrArg Array.toList d1
 subst this
 exact r.inj r'
theorem Inv.tuple_inj(I:Inv X pins σ H s)(h:SqT X.K H a xs)(h':SqT X.K H a ys):xs=ys:=by
 obtain⟨its,r,⟨o,e,_,n,d⟩,_⟩:=I.tuple h
 obtain⟨its',r',⟨o',e',_,n',d'⟩,_⟩:=I.tuple h'
 rw[e]at e';cases e'
 rw[d]at d'
 injection d' with d1 _
 have:its=its':=by simpa using congrArg Array.toList d1
 subst this
 exact r.inj r'
end
abbrev Cx.wish(X:Cx)(E:Value->Shared->Prop):Cx:={X with xe:=E}
abbrev Cx.nox(X:Cx):Cx:=X.wish λ_ _=>False
theorem Cx.Ok.wish{X:Cx}(ok:X.Ok)(E:Value->Shared->Prop):(X.wish E).Ok:=
 ⟨ok.mod,ok.kind,ok.glob,ok.blt,ok.above,ok.inj,ok.has,ok.cab,ok.hd,ok.frames,ok.stk,ok.exf,ok.bs,ok.bsz,ok.noex,ok.exfs,ok.funs,ok.frf⟩
theorem Cx.Ok.unwish{X:Cx}{E:Value->Shared->Prop}(ok:(X.wish E).Ok):X.Ok:=
 ⟨ok.mod,ok.kind,ok.glob,ok.blt,ok.above,ok.inj,ok.has,ok.cab,ok.hd,ok.frames,ok.stk,ok.exf,ok.bs,ok.bsz,ok.noex,ok.exfs,ok.funs,ok.frf⟩
section
variable{X:Cx}{pins:List (Addr×Obj)}{σ:St}{H:Hp}{s:Shared}{E:Value->Shared->Prop}
theorem Inv.wish(I:Inv X pins σ H s)(E:Value->Shared->Prop):Inv (X.wish E) pins σ H s:=⟨I.ok.wish E,I.os,I.bare,I.base,I.loc,I.cell,I.free,I.freeC,I.pin,I.hok,I.len⟩
theorem Inv.unwish(I:Inv (X.wish E) pins σ H s):Inv X pins σ H s:=⟨I.ok.unwish,I.os,I.bare,I.base,I.loc,I.cell,I.free,I.freeC,I.pin,I.hok,I.len⟩
theorem SP.unwish{D:kU}{f:Flow}{s':Shared}(h:SP (X.wish E) pins D f s'):SP X pins D f s':=by
 cases f with
 |next=>obtain⟨σ',H',I,q⟩:=h;exact⟨σ',H',I.unwish,q⟩
 |brk=>obtain⟨σ',H',I,q⟩:=h;exact⟨σ',H',I.unwish,q⟩
 |cont=>obtain⟨σ',H',I,q⟩:=h;exact⟨σ',H',I.unwish,q⟩
 |ret u=>obtain⟨v,σ',H',I,r,q⟩:=h;exact⟨v,σ',H',I.unwish,r,q⟩
theorem PSs.nox{st:List Stmt}{t:TS}(h:PSs X.nox st t):PSs X st t:=λpins s σ H D I hw=>
 wpAny_mono (h pins s σ H D (I.wish _) hw) (λ_ _ q=>q.unwish) λ_ _ z=>False.elim z
end
section
variable{X:Cx}{st:Stmt}{rest:List Stmt}{t u:TS}{e:Expr}{te:TE}{pos:Pos}
def zJD:TS:=λD σ H=>D.nx σ H
def zKy(t u:TS):TS:=λD σ H=>t {D with nx:=u D} σ H
theorem vQ:PSs X [] zJD:=λ_ _ σ H _ I h=>wpAny_execs_nil ⟨σ,H,I,h⟩
theorem gM(h1:PS X st t)(h2:PSs X rest u):PSs X (st::rest) (zKy t u):=by
 intro pins s σ H D I h
 refine wpAny_execs_cons (thn (h1 pins s σ H {D with nx:=u D} I h) λf s1 q=>?_)
 cases f with
 |next=>
  obtain⟨σ',H',I',q⟩:=q
  exact h2 pins s1 σ' H' D I' q
 |ret v=>exact q
 |brk=>exact q
 |cont=>exact q
theorem lN(h1:PS X st t):PSs X [st] t:=by
 intro pins s σ H D I h
 refine wpAny_execs_cons (thn (h1 pins s σ H D I h) λf s1 q=>?_)
 cases f with
 |next=>exact wpAny_execs_nil q
 |ret v=>exact q
 |brk=>exact q
 |cont=>exact q
theorem Inv.quiet{pins:List (Addr×Obj)}{σ:St}{H:Hp}{s:Shared}(I:Inv X pins σ H s):interactive X.env=false:=by simp[interactive,I.ok.kind]
def zJE(te:TE):TS:=λD σ H=>te σ H λ_ H1=>D.nx σ H1
theorem zBB(he:PE X e te)(hs:swapsWith e none pos.line X.env=pure false:=by rfl):PS X (.Expr e pos) (zJE te):=by
 intro pins s σ H D I h
 exact wpAny_Expr_any (thn (he pins s σ H _ I h) λv s1 ⟨x,H1,I1,r1,q1⟩=>⟨σ,H1,I1,q1⟩) I.quiet hs
def zKA(te:TE):TS:=λD σ H=>te σ H D.rt
theorem lX(he:PE X e te):PS X (.Return (some e) pos) (zKA te):=by
 intro pins s σ H D I h
 exact wpAny_Return_some (thn (he pins s σ H _ I h) λv s1 ⟨x,H1,I1,r1,q1⟩=>⟨x,σ,H1,I1,r1,q1⟩)
def zKD(c:TT)(t u:TS):TS:=λD σ H=>c σ H λb H1=>if b=true then t D σ H1 else u D σ H1
theorem wT{c:Expr}{a b:List Stmt}{tc:TT}(hc:PT X c tc)(ha:PSs X a t)(hb:PSs X b u):PS X (.If c a b pos) (zKD tc t u):=by
 intro pins s σ H D I h
 refine wpAny_If (thn (hc pins s σ H _ I h) λd s1 ⟨H1,I1,q1⟩=>?_)
 cases d with
 |true=>exact ha pins s1 σ H1 D I1 q1
 |false=>exact hb pins s1 σ H1 D I1 q1
def zH1:TS:=λ_ _ _=>False
theorem zEI{sts:List Stmt}:PSs X sts zH1:=λ_ _ _ _ _ _ h=>h.elim
end
abbrev TG:=V->St->Hp->(St->Hp->Prop)->Prop
abbrev TGs:=List V->St->Hp->(St->Hp->Prop)->Prop
def PG(X:Cx)(target:Expr)(t:TG):Prop:=
 ∀(pins:List (Addr×Obj)) (s:Shared) (σ:St) (H:Hp) (v:V) (u:Value) (Q:St->Hp->Prop),Inv X pins σ H s->RelV v u->t v σ H Q ->
  wpAny (model X.prog X.w) X.A (assign target X.env u) (λ_ s'=>∃σ' H',Inv X pins σ' H' s'/\Q σ' H') X.xe s
def PGs(X:Cx)(ts:List Expr)(t:TGs):Prop:=
 ∀(pins:List (Addr×Obj)) (s:Shared) (σ:St) (H:Hp) (vs:List V) (us:List Value) (Q:St->Hp->Prop),Inv X pins σ H s->Vals vs us->t vs σ H Q ->
  wpAny (model X.prog X.w) X.A (assignInOrder ((assignEach ts X.env).map (·.2)) us) (λ_ s'=>∃σ' H',Inv X pins σ' H' s'/\Q σ' H') X.xe s
abbrev xZ:=V->V->V->Hp->(Hp->Prop)->Prop
def zDk(X:Cx)(t:xZ):Prop:=
 ∀(pins:List (Addr×Obj)) (s:Shared) (σ:St) (H:Hp) (o i v:V) (ov iv u:Value) (Q:Hp->Prop),Inv X pins σ H s->RelV o ov->RelV i iv->RelV v u->t o i v H Q ->
  wpAny (model X.prog X.w) X.A (setItem ov iv u) (λ_ s'=>∃H',Inv X pins σ H' s'/\Q H') X.xe s
section
variable{X:Cx}{pos:Pos}
def rZ(i:Nat):TG:=λv σ H Q=>Q (σ.set i (some v)) H
theorem zG4{i:Nat}{x:Str}(hN:X.N.Nodup)(hi:X.N[i]?=some x)(hx:Loc X.env.scope x)(hf:X.fn x=true\/X.env.scope.names.lookup x=some .local:=by first|exact .inl rfl|exact .inr rfl|assumption):PG X (.Name x pos) (rZ i):=by
 intro pins s σ H v u Q I r h
 exact wpAny_assign_Name (qJ I hN hi hx r (λs' I'=>⟨_,H,I',h⟩) hf)
def zK8:TGs:=λvs σ H Q=>vs=[]/\Q σ H
def zKe(t:TG)(u:TGs):TGs:=λvs σ H Q=>∃v r,vs=v::r/\t v σ H λσ' H'=>u r σ' H' Q
theorem zG3:PGs X [] zK8:=by
 intro pins s σ H vs us Q I r h
 obtain⟨e,h⟩:=h
 subst e
 cases r
 exact assignInOrder_nil ⟨σ,H,I,h⟩
theorem zFP{e:Expr}{es:List Expr}{t:TG}{u:TGs}(h1:PG X e t)(h2:PGs X es u)
  (hs:(assignEach (e::es) X.env).map (·.2)=assign e X.env::(assignEach es X.env).map (·.2):=by rfl):PGs X (e::es) (zKe t u):=by
 intro pins s σ H vs us Q I r h
 obtain⟨v,vr,e1,h⟩:=h
 subst e1
 cases r with
 |cons r rr=>
  rw[hs]
  refine assignInOrder_cons (thn (h1 pins s σ H _ _ _ I r h) λ_ s1 ⟨σ1,H1,I1,q1⟩=>?_)
  exact h2 pins s1 σ1 H1 _ _ Q I1 rr q1
def zK6(K:W.Frag)(n:Nat)(t:TGs):TG:=λv σ H Q=>∃a xs,v=.ref a/\SqT K H a xs/\xs.length=n/\t xs σ H Q
theorem zIz{es:List Expr}{k:Nat}{t:TGs}{n:Nat}(hc:X.calm=true)(h:PGs X es t)
  (hn:(assignEach es X.env).length=n:=by rfl) (hst:(assignEach es X.env).findIdx? (·.1)=none:=by rfl):PG X (.Tuple es k pos) (zK6 X.K n t):=by
 intro pins s σ H v u Q I r hw
 obtain⟨a,xs,e1,hq,hl,hw⟩:=hw
 subst e1
 cases r
 obtain⟨its,rv,ht,hz⟩:=I.tuple hq
 refine assign_Tuple_tuple (I.ok.hd hc) ht (by simp[hn,<-hl,rv.length]) hst λh' hx=>?_
 have I1:Inv X pins σ H {s with heap:=h'}:=I.kept (t':=s.toks) λb o e=>hx b o (qm_ (qg_ e)) e
 exact h pins _ σ H xs _ Q I1 (by simpa using rv) hw
def zK7(to ti:TE)(t:xZ):TG:=λv σ H Q=>to σ H λo H1=>ti σ H1 λi H2=>t o i v H2 λH3=>Q σ H3
theorem zIA{o i:Expr}{to ti:TE}{t:xZ}(ho:PE X o to)(hi:PE X i ti)(hs:zDk X t)
  (ha:∀v,assign (.Subscript o i pos) X.env v=(do
   let ov <- holding [v] (eval o X.env)
   let iv <- holding [v,ov] (eval i X.env)
   standAt pos
   holding [v,ov,iv] (setItem ov iv v)
   release [v,ov,iv] []):=by intro _;rfl):PG X (.Subscript o i pos) (zK7 to ti t):=by
 intro pins s σ H v u Q I r h
 rw[ha]
 refine qa_ (qB_ (thn (ho pins s σ H _ I h) λov s1 ⟨x,H1,I1,r1,q1⟩=>?_))
 refine qa_ (qB_ (thn (hi pins s1 σ H1 _ I1 q1) λiv s2 ⟨y,H2,I2,r2,q2⟩=>?_))
 refine qa_ (wpAny_standAt (qa_ (qB_ (thn (hs pins s2 σ H2 x y v ov iv u _ I2 r1 r2 r q2) λ_ s3 ⟨H3,I3,q3⟩=>?_))))
 exact wpAny_release ⟨σ,H3,I3,q3⟩
def sC(te:TE)(g:TG):TS:=λD σ H=>te σ H λx H1=>g x σ H1 D.nx
theorem zIw{tg e:Expr}{te:TE}{g:TG}(he:PE X e te)(hg:PG X tg g)(hs:swapsWithSole [tg] e pos.line X.env=pure false:=by rfl)(hw:swappedStores [tg] e X.env=pure none:=by rfl)
  (h1:(assignEach [tg] X.env).map (·.2)=[assign tg X.env]:=by rfl):PS X (.Assign [tg] e pos) (sC te g):=by
 intro pins s σ H D I h
 refine wpAny_Assign_stores (thn (he pins s σ H _ I h) λv s1 ⟨x,H1,I1,r1,q1⟩=>?_) hs hw
 rw[h1]
 exact thn (hg pins s1 σ H1 x v _ I1 r1 q1) λ_ s2 q=>q
theorem jO{i:Nat}{x:Str}{e:Expr}{te:TE}{pos':Pos}(hN:X.N.Nodup)(hi:X.N[i]?=some x)(hx:Loc X.env.scope x)(he:PE X e te)(hs:swapsWith e (some (.Name x pos')) pos.line X.env=pure false:=by rfl)(hf:X.fn x=true\/X.env.scope.names.lookup x=some .local:=by first|exact .inl rfl|exact .inr rfl|assumption):
  PS X (.Assign [.Name x pos'] e pos) (sC te (rZ i)):=by
 intro pins s σ H D I h
 refine wpAny_Assign_Name (thn (he pins s σ H _ I h) λv s1 ⟨y,H1,I1,r1,q1⟩=>?_) hs
 exact qJ I1 hN hi hx r1 (λs2 I2=>⟨_,H1,I2,q1⟩) hf
def zKB(i j:Nat)(ta:TA):TS:=λD σ H=>ta σ H λvs H1=>∃v w,vs=[v,w]/\D.nx ((σ.set i (some v)).set j (some w)) H1
theorem zIu{i j:Nat}{x y:Str}{a b:Expr}{ta:TA}{px py pt:Pos}{kt k2 pt2}(hc:X.calm=true)(hN:X.N.Nodup)(hi:X.N[i]?=some x)(hj:X.N[j]?=some y)(hij:i≠j)
  (hx:X.env.scope.names.lookup x=some .local) (hy:X.env.scope.names.lookup y=some .local) (ha:PA X [a,b] ta)
  (hw:swappedStores [.Tuple [.Name x px,.Name y py] kt pt] (.Tuple [a,b] k2 pt2) X.env=pure (some [x,y]))
  (hs:swapsWithSole [.Tuple [.Name x px,.Name y py] kt pt] (.Tuple [a,b] k2 pt2) pos.line X.env=pure false:=by rfl):
  PS X (.Assign [.Tuple [.Name x px,.Name y py] kt pt] (.Tuple [a,b] k2 pt2) pos) (zKB i j ta):=by
 intro pins s σ H D I h
 rw[exec_Assign_arm]
 refine qa_ (wpAny_standAt ?_)
 rw[hs]
 refine qa_ (qb_ ?_)
 rw[if_neg (by decide)]
 refine qa_ (Tuple_ (thn (ha _ pins s σ H _ I h) λus s1 ⟨vs,H1,I1,r1,q1⟩=>?_))
 obtain⟨v,w,e1,q1⟩:=q1
 subst e1
 obtain⟨u1,u2,rfl,rv,rw'⟩:∃u1 u2,us=[u1,u2]/\RelV v u1/\RelV w u2:=by
  cases r1 with
  |cons p q=>
   cases q with
   |cons p' q'=>
    cases q'
    exact⟨_,_,rfl,p,p'⟩
 refine qS_ ?_ (by show 2<=sizeLine;decide)
 have I2:Inv X pins σ H1 {s1 with heap:=s1.heap.push {cls:=.type "tuple",data:=.seq [u1,u2].toArray}}:=I1.kept (t':=s1.toks) λb o e=>qd_ _ e
 rw[hw]
 refine qa_ (qb_ ?_)
 show wpAny (model X.prog X.w) X.A (do rule "assign.swapped-stores";let items <- unpackItems (.ref s1.heap.objs.size) 2 none;assignInOrder [λv=>bindName X.env y v,λv=>bindName X.env x v] items.reverse;pure Flow.next) _ _ _
 refine qa_ (wpAny_rule (qa_ (unpackItems_tuple (items:=#[u1,u2]) (I.ok.hd hc) (IsTup.new s1.heap _) λh' hx'=>?_)))
 have I3:=I2.kept (h':=h') (t':=s1.toks) λb o e=>hx' b o (qm_ (qg_ e)) e
 show wpAny _ _ (assignInOrder [λv=>bindName X.env y v,λv=>bindName X.env x v] [u2,u1] >>= λ_=>pure Flow.next) _ _ _
 refine qa_ (assignInOrder_cons (wpAny_bindName (qJ I3 hN hj (.inl hy) rw' (λs2 I4=>?_) (.inr hy))))
 refine assignInOrder_cons (wpAny_bindName (qJ I4 hN hi (.inl hx) rv (λs3 I5=>assignInOrder_nil (qb_ ?_)) (.inr hx)))
 rw[List.set_comm _ _ (Ne.symm hij)]at I5
 exact⟨_,H1,I5,q1⟩
end
section
variable{X:Cx}{pos:Pos}
def zH0(c:TT)(tb:TS):TS:=λD σ H=>∃W:Nat->St->Hp->Prop,(∃m,W m σ H)/\∀m σ H,W m σ H ->
 c σ H λb H1=>if b=true then ∃N:St->Hp->Prop,(∀σ' H',N σ' H'->∃m',m'<m/\W m' σ' H')/\tb {D with nx:=N,ct:=N,bk:=D.nx} σ H1 else D.nx σ H1
theorem zFM{c:Expr}{body:List Stmt}{tc:TT}{tb:TS}(hp:PassesOwn (model X.prog X.w) X.A X.env X.xe)(hc:PT X c tc)(hb:PSs X body tb):PS X (.While c body [] pos) (zH0 tc tb):=by
 intro pins s σ H D I h
 obtain⟨W,⟨m0,w0⟩,turn⟩:=h
 refine wpAny_While (codeAny_whileLoop (λn s'=>∃σ' H',Inv X pins σ' H' s'/\W n σ' H') ?_ m0 ⟨σ,H,I,w0⟩)
 rintro n s1 ⟨σ1,H1,I1,w1⟩
 refine wpAny_passesOwn hp (thn (hc pins s1 σ1 H1 _ I1 (turn n σ1 H1 w1)) λb s2 ⟨H2,I2,q2⟩=>?_)
 cases b with
 |true=>
  obtain⟨N,hN,q2⟩:=q2
  rw[if_pos rfl]
  refine wpAny_passesOwn hp (thn (hb pins s2 σ1 H2 _ I2 q2) λf s3 q3=>?_)
  cases f with
  |next=>
   obtain⟨σ3,H3,I3,n3⟩:=q3
   obtain⟨m',hm,w3⟩:=hN σ3 H3 n3
   exact⟨m',hm,σ3,H3,I3,w3⟩
  |cont=>
   obtain⟨σ3,H3,I3,n3⟩:=q3
   obtain⟨m',hm,w3⟩:=hN σ3 H3 n3
   exact⟨m',hm,σ3,H3,I3,w3⟩
  |brk=>exact q3
  |ret v=>exact q3
 |false=>
  rw[if_neg ql_]
  exact wpAny_execs_nil ⟨σ1,H2,I2,q2⟩
end
structure It where
 go:Nat->Hp->Prop
 yld:Nat->Hp->V->Hp->Prop
 stop:Nat->Hp->Prop
def eX(X:Cx)(pins:List (Addr×Obj))(H:Hp)(b:Addr):Prop:=
 H b=none/\b≠X.env.locals/\b∉X.fs/\(b∈X.ex\/X.s₀.heap.objs.size<=b)/\(∀x c,X.env.cells.lookup x=some c->c≠b)/\∀p∈X.pn++pins,p.1≠b
theorem Inv.fpOk{X:Cx}{pins:List (Addr×Obj)}{σ:St}{H H':Hp}{s:Shared}{b:Addr}(I:Inv X pins σ H s)(hb:s.heap.objs.size<=b)(hn:H' b=none):eX X pins H' b:=by
 refine⟨hn,qC_ (qT_ I.lt hb),I.nofs hb,.inr (qh_ I.sz hb),λx c e z=>?_,λp hp z=>?_⟩
 ·obtain⟨v,q⟩:=I.cell x c e
  exact absurd (qT_ q.lt (by rw[z];exact hb)) (qe1_ _)
 ·exact absurd (qT_ (qg_ (I.pin p hp).1) (by rw[z];exact hb)) (qe1_ _)
structure jE (P:Program) (w:World) (K:W.Frag) (tg:Expr) (J:It) (fp:List Addr) (it:Addr) (tn:Nat->Heap->Prop):Prop where
 mem:it∈fp
 obj:∀i h,tn i h->∀b∈fp,∃o,h.get? b=some o/\∀v,o.data≠.cell v
 keep:∀i h h',tn i h->(∀b∈fp,∀o,h.get? b=some o->h'.get? b=some o)->tn i h'
 item:∀(X:Cx),X.prog=P->X.w=w->X.K=K->X.calm=true->∀(i:Nat) (pins:List (Addr×Obj)) (s:Shared) (σ:St) (H:Hp) (E:Value->Shared->Prop),Inv X pins σ H s->(∀b∈fp,eX X pins H b)->tn i s.heap->J.go i H ->
  wpAny (model P w) X.A (pyNext (.ref it)) (λr s1=>∃u,r=some u /\
   wpAny (model P w) X.A (letOwnedTupleGo tg (.ref it) u) (λ_ s2=>∃x H',Inv X pins σ H' s2/\RelV x u/\J.yld i H x H'/\tn (i+1) s2.heap/\∀b∈fp,H' b=none) E s1) E s
 done:∀(X:Cx),X.prog=P->X.w=w->X.K=K->X.calm=true->∀(i:Nat) (pins:List (Addr×Obj)) (s:Shared) (σ:St) (H:Hp) (E:Value->Shared->Prop),Inv X pins σ H s->(∀b∈fp,eX X pins H b)->tn i s.heap->J.stop i H ->
  wpAny (model P w) X.A (pyNext (.ref it)) (λr s1=>r=none/\Inv X pins σ H s1) E s
 self:∀(A:Around) (i:Nat) (s:Shared) (Q:Value->Shared->Prop) (E:Value->Shared->Prop),tn i s.heap->Q (.ref it) s->wpAny (model P w) A (pyIter (.ref it)) Q E s
abbrev TI:=St->Hp->(It->Hp->Prop)->Prop
def PIE(X:Cx)(pins:List (Addr×Obj))(σ:St)(tg:Expr)(R:It->Hp->Prop)(itv:Value)(s2:Shared):Prop:=
 ∃(it:Addr) (fp:List Addr) (tn:Nat->Heap->Prop) (J:It) (H':Hp),itv=.ref it/\Inv X pins σ H' s2/\jE X.prog X.w X.K tg J fp it tn/\tn 0 s2.heap/\(∀b∈fp,eX X pins H' b)/\R J H'
def PI(X:Cx)(tg iter:Expr)(wi:TI):Prop:=
 ∀(pins:List (Addr×Obj)) (s:Shared) (σ:St) (H:Hp) (R:It->Hp->Prop),Inv X pins σ H s->wi σ H R ->
  wpAny (model X.prog X.w) X.A (eval iter X.env) (λv s1=>wpAny (model X.prog X.w) X.A (pyIter v) (PIE X pins σ tg R) X.xe s1) X.xe s
theorem mI{M:Model}{A:Around}{E:Value->Shared->Prop}{s:Shared}{tg:Expr}{it:Addr}{u:Value}{o:Obj}{n:String}{vs:Array Value}{Q:Unit->Shared->Prop}(ho:s.heap.get? it=some o)(hc:o.cls=.type n)(hd:o.data=.fields vs)
    (hn:["enumerate","zip","dict_itemiterator","dict_reverseitemiterator","odict_iterator","itertools.zip_longest","itertools.pairwise"].contains n=false) (hQ:Q () s):wpAny M A (letOwnedTupleGo tg (.ref it) u) Q E s:=by
  unfold letOwnedTupleGo
  cases tg<;>first
    |exact qb_ hQ
    |(cases u<;>first
        |exact qb_ hQ
        | (refine qa_ (wpAny_load ho ?_)
           rw[hc,hd]
           show wpAny M A (if (["enumerate","zip","dict_itemiterator","dict_reverseitemiterator","odict_iterator","itertools.zip_longest","itertools.pairwise"].contains n&&vs[0]? == some (rawInt _))=true then _ else _) Q E s
           rw[if_neg (by intro h;rw[hn,Bool.false_and]at h;cases h)]
           exact qb_ hQ))
def Itl(K:W.Frag)(a:Addr):It:=
 ⟨λi H=>∃xs x,SqL K H a xs/\xs[i]?=some x,λi H x H'=>H'=H/\∀xs,SqL K H a xs->xs[i]?=some x,λi H=>∃xs,SqL K H a xs/\xs.length<=i⟩
def Itt(K:W.Frag)(a:Addr):It:=
 ⟨λi H=>∃xs x,SqT K H a xs/\xs[i]?=some x,λi H x H'=>H'=H/\∀xs,SqT K H a xs->xs[i]?=some x,λi H=>∃xs,SqT K H a xs/\xs.length<=i⟩
def Itr(lo:Int)(n:Nat):It:=⟨λi _=>i<n,λi H x H'=>H'=H/\x=.int (lo+i),λi _=>n<=i⟩
theorem zEt{P:Program}{w:World}{K:W.Frag}{tg:Expr}(a it:Addr):jE P w K tg (Itl K a) [it] it (λi h=>h.IsListIter it a i) where
 mem:=by simp
 obj:=λi h st b hb=>by
  have e:b=it:=by simpa using hb
  subst e
  obtain⟨o,e,c,d⟩:=st
  exact⟨o,e,λv z=>by rw[d]at z;cases z⟩
 keep:=λi h h' st k=>st.at λo e=>k it (by simp) o e
 item:=by
  intro X hP hw hK hc i pins s σ H E I hf st hg
  subst hP hw hK
  obtain⟨xs,x,hq,hx⟩:=hg
  obtain⟨its,rv,p,hz⟩:=I.list hq
  obtain⟨u,hu,ru⟩:=rv.get hx
  obtain⟨f0,f1,f2,f3,f4,f5⟩:=hf it (by simp)
  refine wpAny_pyNext_list_item st p.isList (x:=u) (by simpa using hu) λh' st' sb=>?_
  have I1:Inv X pins σ H {s with heap:=h'}:=I.turned (t':=s.toks) (λb o hb e=>(sb.2 b hb).trans e) f0 f1 f3 f4 f5
  obtain⟨o,e,c,d⟩:=id st'
  exact⟨u,rfl,mI (s:={s with heap:=h'}) e c d (by decide) ⟨x,H,I1,ru,⟨rfl,λys hy=>by rw[I.list_inj hy hq];exact hx⟩,st',λb hb=>(hf b hb).1⟩⟩
 done:=by
  intro X hP hw hK hc i pins s σ H E I hf st hg
  subst hP hw hK
  obtain⟨xs,hq,hx⟩:=hg
  obtain⟨its,rv,p,hz⟩:=I.list hq
  obtain⟨f0,f1,f2,f3,f4,f5⟩:=hf it (by simp)
  have hl:=rv.length
  exact wpAny_pyNext_list_end (I.ok.hd hc) st p.isList (by simp;omega) λh' eb=>⟨rfl,I.turned (t':=s.toks) (λb o hb e=>eb b o hb e) f0 f1 f3 f4 f5⟩
 self:=λ_ _ _ _ _ st h=>wpAny_pyIter_listiter st h
theorem zDW{P:Program}{w:World}{K:W.Frag}{tg:Expr}(a it:Addr):jE P w K tg (Itt K a) [it] it (λi h=>h.IsTupleIter it a i) where
 mem:=by simp
 obj:=λi h st b hb=>by
  have e:b=it:=by simpa using hb
  subst e
  obtain⟨o,e,c,d⟩:=st
  exact⟨o,e,λv z=>by rw[d]at z;cases z⟩
 keep:=λi h h' st k=>st.at λo e=>k it (by simp) o e
 item:=by
  intro X hP hw hK hc i pins s σ H E I hf st hg
  subst hP hw hK
  obtain⟨xs,x,hq,hx⟩:=hg
  obtain⟨its,rv,p,hz⟩:=I.tuple hq
  obtain⟨u,hu,ru⟩:=rv.get hx
  obtain⟨f0,f1,f2,f3,f4,f5⟩:=hf it (by simp)
  refine wpAny_pyNext_tuple_item st (show s.heap.IsTuple a its.toArray from p) (x:=u) (by simpa using hu) λh' st' sb=>?_
  have I1:Inv X pins σ H {s with heap:=h'}:=I.turned (t':=s.toks) (λb o hb e=>(sb.2 b hb).trans e) f0 f1 f3 f4 f5
  obtain⟨o,e,c,d⟩:=id st'
  exact⟨u,rfl,mI (s:={s with heap:=h'}) e c d (by decide) ⟨x,H,I1,ru,⟨rfl,λys hy=>by rw[I.tuple_inj hy hq];exact hx⟩,st',λb hb=>(hf b hb).1⟩⟩
 done:=by
  intro X hP hw hK hc i pins s σ H E I hf st hg
  subst hP hw hK
  obtain⟨xs,hq,hx⟩:=hg
  obtain⟨its,rv,p,hz⟩:=I.tuple hq
  obtain⟨f0,f1,f2,f3,f4,f5⟩:=hf it (by simp)
  have hl:=rv.length
  exact wpAny_pyNext_tuple_end (I.ok.hd hc) st (show s.heap.IsTuple a its.toArray from p) (by simp;omega) λh' eb=>⟨rfl,I.turned (t':=s.toks) (λb o hb e=>eb b o hb e) f0 f1 f3 f4 f5⟩
 self:=λ_ _ _ _ _ st h=>wpAny_pyIter_tupleiter st h
theorem zDX{P:Program}{w:World}{K:W.Frag}{tg:Expr}(it:Addr)(lo:Int)(n:Nat):jE P w K tg (Itr lo n) [it] it (λi h=>IsRangeIter h it (lo+(i:Nat)*1) ((n:Int)-(i:Nat)) 1) where
 mem:=by simp
 obj:=λi h st b hb=>by
  have e:b=it:=by simpa using hb
  subst e
  exact⟨_,st,λv z=>by
   have z':Data.fields _=Data.cell v:=z
   cases z'⟩
 keep:=λi h h' st k=>k it (by simp) _ st
 item:=by
  intro X hP hw hK hc i pins s σ H E I hf st hg
  subst hP hw hK
  obtain⟨f0,f1,f2,f3,f4,f5⟩:=hf it (by simp)
  have W:=Walks.range (prog:=X.prog) (w:=X.w) (I.ok.hd hc) it lo 1 n
  refine W.item i s _ _ hg st λv h' tk hv st' kk=>?_
  obtain⟨t,rfl⟩:=hv
  have I1:Inv X pins σ H {s with heap:=h',toks:=tk}:=I.turned (λb o hb e=>kk b o (by simpa using hb) e) f0 f1 f3 f4 f5
  refine⟨_,rfl,mI (s:={s with heap:=h',toks:=tk}) (n:="range_iterator") st' rfl rfl (by decide) ⟨.int (lo+i),H,I1,⟨t,?_⟩,⟨rfl,rfl⟩,st',λb hb=>(hf b hb).1⟩⟩
  rw[Int.mul_one]
 done:=by
  intro X hP hw hK hc i pins s σ H E I hf st hg
  subst hP hw hK
  obtain⟨f0,f1,f2,f3,f4,f5⟩:=hf it (by simp)
  exact wpAny_pyNext_range_end (I.ok.hd hc) st (by have:n<=i:=hg;omega) λh' eb=>⟨rfl,I.turned (t':=s.toks) (λb o hb e=>eb b o hb e) f0 f1 f3 f4 f5⟩
 self:=λ_ _ _ _ _ st h=>wpAny_pyIter_rangeiter st h
end L2
namespace L2
open PySem PySem.Spec PyProof.Rows
section
variable{X:Cx}{tg:Expr}
theorem zFF{pins:List (Addr×Obj)}{σ:St}{H:Hp}{s:Shared}{R:It->Hp->Prop}{E:Value->Shared->Prop}{lo hi:Int}{t u v:Tok}{tk:Nat}(I:Inv X pins σ H s)(h1:-(2 ^ 62)<=lo)(h2:lo<2 ^ 62)(h3:-(2 ^ 62)<=hi)(h4:hi<2 ^ 62)
  (q:R (Itr lo (hi-lo).toNat) H):wpAny (model X.prog X.w) X.A (pyIter (.ref s.heap.objs.size)) (PIE X pins σ tg R) E {s with heap:=s.heap.push {cls:=.type "range",data:=.fields #[.int lo t,.int hi u,.int 1 v]},toks:=tk}:=by
 refine wpAny_pyIter_range (IsRange.new ..) (small_one h1 h2 h3 h4) ?_
 have I1:Inv X pins σ H {s with heap:=s.heap.push {cls:=.type "range",data:=.fields #[.int lo t,.int hi u,.int 1 v]},toks:=tk}:=I.kept λb o e=>qd_ _ e
 refine⟨(s.heap.push {cls:=.type "range",data:=.fields #[.int lo t,.int hi u,.int 1 v]}).objs.size,[(s.heap.push {cls:=.type "range",data:=.fields #[.int lo t,.int hi u,.int 1 v]}).objs.size],_,_,H,rfl,
  I1.kept (t':=tk) λb o e=>qd_ _ e,zDX _ lo (hi-lo).toNat,?_,λb hb=>?_,q⟩
 ·have e1:lo+((0:Nat):Int)*1=lo:=by simp
  have e2:(((hi-lo).toNat:Nat):Int)-((0:Nat):Int)=Builtin.Range.rangeSize lo hi 1:=by rw[rangeSize_one];split<;>omega
  show IsRangeIter _ _ (lo+((0:Nat):Int)*1) ((((hi-lo).toNat:Nat):Int)-((0:Nat):Int)) 1
  rw[e1,e2]
  exact qi_ _ rfl
 ·have e:b=(s.heap.push {cls:=.type "range",data:=.fields #[.int lo t,.int hi u,.int 1 v]}).objs.size:=by simpa using hb
  subst e
  exact I1.fpOk (qe_ _) (I1.hok.fresh (qe_ _))
def zKc(ta:TA):TI:=λσ H R=>ta σ H λvs H1=>∃j:Int,vs=[.int j] /\ -(2 ^ 62)<=j/\j<2 ^ 62/\R (Itr 0 j.toNat) H1
theorem zEL{a:Expr}{ta:TA}{p pos:Pos}(hg:Gl X "range")(hm:X.mg "range"=none)(ha:PA X [a] ta)(hs:starEach [a] X.env=[(false,eval a X.env)]:=by rfl):PI X tg (.Call (.Name "range" p) [a] [] pos) (zKc ta):=by
 intro pins s σ H R I h
 refine Call_ (oJ I hg hm boot_range (PyProof.Rows.callWith_type1 (thn (ha pos pins s σ H _ I h) λus s1 ⟨vs,H1,I1,r1,q1⟩=>?_) hs rfl))
 obtain⟨j,e,q1,q2,q⟩:=q1
 subst e
 cases r1 with
 |cons r rr=>
  cases rr
  obtain⟨t,rfl⟩:=r
  exact call_range_1 (zFF I1 (by omega) (by omega) q1 q2 (by simpa using q))
def zKE(wi:TI)(g:TG)(tb:TS):TS:=λD σ H=>wi σ H λJ H1=>∃W:Nat->Nat->St->Hp->Prop,(∃m,W 0 m σ H1)/\∀i m σ H,W i m σ H ->
 (J.stop i H/\D.nx σ H)\/(J.go i H/\∃N:St->Hp->Prop,(∀σ' H',N σ' H'->∃m',m'<m/\W (i+1) m' σ' H')/\∀x H',J.yld i H x H'->g x σ H' λσ2 H2=>tb {D with nx:=N,ct:=N,bk:=D.nx} σ2 H2)
def oI(fp:List Addr)(h:Heap):List (Addr×Obj):=fp.filterMap λb=>(h.get? b).map λo=>(b,o)
theorem pU{fp:List Addr}{h:Heap}{b:Addr}{o:Obj}(hb:b∈fp)(e:h.get? b=some o):(b,o)∈oI fp h:=qd1_.mpr ⟨b,hb,by rw[e];rfl⟩
theorem zEP{fp:List Addr}{h:Heap}{p:Addr×Obj}(hp:p∈oI fp h):p.1∈fp/\h.get? p.1=some p.2:=by
 obtain⟨b,hb,e⟩:=qd1_.mp hp
 cases q:h.get? b with
 |none=>rw[q]at e;cases e
 |some o=>
  rw[q]at e
  have e':(b,o)=p:=Option.some.inj e
  subst e'
  exact⟨hb,q⟩
theorem Inv.pinned{pins:List (Addr×Obj)}{σ:St}{H:Hp}{s:Shared}{fp:List Addr}(I:Inv X pins σ H s)(hf:∀b∈fp,eX X pins H b)(ho:∀b∈fp,∃o,s.heap.get? b=some o/\∀v,o.data≠.cell v):Inv X (pins++oI fp s.heap) σ H s:=
 I.pins_of λp hp=>(qp_.mp hp).elim (λz=>I.pin p (qq_ _ z)) λz=>by
  obtain⟨hb,e⟩:=zEP z
  obtain⟨f0,f1,f2,_⟩:=hf p.1 hb
  obtain⟨o,e',d⟩:=ho p.1 hb
  rw[e]at e';cases e'
  exact⟨e,f0,f1,f2,d⟩
theorem Inv.unpinned{pins pl:List (Addr×Obj)}{σ:St}{H:Hp}{s:Shared}(I:Inv X (pins++pl) σ H s):Inv X pins σ H s:=I.pins_of λp hp=>I.pin p (qq_ _ (qD_ _ hp))
theorem zIv{iter:Expr}{body:List Stmt}{wi:TI}{g:TG}{tb:TS}{pos:Pos}(hp:PassesOwn (model X.prog X.w) X.A X.env X.xe)(hc:X.calm=true)(hi:PI X tg iter wi)(hg:PG X tg g)(hb:PSs X body tb)
  (hs:∀x,foldedSetIterable iter X.env x=pure x:=by intro _;rfl):PS X (.For tg iter body [] pos) (zKE wi g tb):=by
 intro pins s σ H D I h
 refine wpAny_For (thn (hi pins s σ H _ I h) λv s1 h1=>thn h1 λitv s2 h2=>?_) hs
 obtain⟨it,fp,tn,J,H2,e,I2,T,st2,f2,W,⟨m0,w0⟩,turn⟩:=h2
 subst e
 -- what stays true of the iterator's objects through the loop
 have stat:∀{H':Hp},(∀b∈fp,H' b=none)->∀b∈fp,eX X pins H' b:=λhn b hb=>⟨hn b hb,(f2 b hb).2⟩
 refine codeAny_forLoop_any (λn s'=>∃i σ' H',Inv X pins σ' H' s'/\tn i s'.heap/\(∀b∈fp,H' b=none)/\W i n σ' H') ?_ m0 ⟨0,σ,H2,I2,st2,λb hb=>(f2 b hb).1,w0⟩
 rintro n s3 ⟨i,σ3,H3,I3,st3,fr3,w3⟩
 rcases turn i n σ3 H3 w3 with⟨stop,qn⟩|⟨go,N,hN,step⟩
 ·refine wpAny_passesOwn hp (thn (T.done X rfl rfl rfl hc i pins s3 σ3 H3 X.xe I3 (stat fr3) st3 stop) λr s4 ⟨hr,I4⟩=>?_)
  subst hr
  exact wpAny_execs_nil ⟨σ3,H3,I4,qn⟩
 ·refine wpAny_passesOwn hp (thn (T.item X rfl rfl rfl hc i pins s3 σ3 H3 X.xe I3 (stat fr3) st3 go) λr s4 ⟨u,hr,h4⟩=>?_)
  subst hr
  refine wpAny_passesOwn hp (thn h4 λ_ s5 ⟨x,H5,I5,r5,y5,st5,fr5⟩=>?_)
  have I5':=I5.pinned (stat fr5) (T.obj _ _ st5)
  refine wpAny_passesOwn hp (thn (hg _ s5 σ3 H5 x u _ I5' r5 (step x H5 y5)) λ_ s6 ⟨σ6,H6,I6,q6⟩=>?_)
  refine wpAny_passesOwn hp (thn (hb _ s6 σ6 H6 _ I6 q6) λf s7 q7=>?_)
  have again:∀{σ7:St} {H7:Hp},Inv X (pins++oI fp s5.heap) σ7 H7 s7->N σ7 H7->∃m,m<n/\∃i σ' H',Inv X pins σ' H' s7/\tn i s7.heap/\(∀b∈fp,H' b=none)/\W i m σ' H':=λ{σ7 H7} I7 n7=>by
   obtain⟨m',hm,w7⟩:=hN σ7 H7 n7
   refine⟨m',hm,i+1,σ7,H7,I7.unpinned,T.keep _ _ _ st5 λb hb o e=>(I7.pin (b,o) (qq_ _ (qq_ _ (pU hb e)))).1,λb hb=>?_,w7⟩
   obtain⟨o,e,d⟩:=T.obj _ _ st5 b hb
   exact(I7.pin (b,o) (qq_ _ (qq_ _ (pU hb e)))).2.1
  cases f with
  |next=>obtain⟨σ7,H7,I7,n7⟩:=q7;exact again I7 n7
  |cont=>obtain⟨σ7,H7,I7,n7⟩:=q7;exact again I7 n7
  |brk=>obtain⟨σ7,H7,I7,q7⟩:=q7;exact⟨σ7,H7,I7.unpinned,q7⟩
  |ret v=>obtain⟨x7,σ7,H7,I7,r7,q7⟩:=q7;exact⟨x7,σ7,H7,I7.unpinned,r7,q7⟩
end
end L2
namespace L2
open PySem PySem.Spec PyProof.Rows
abbrev R2:=V->V->Hp->VK->Prop
def OpR(X:Cx)(f:Value->Value->Sem Value)(r:R2):Prop:=
 ∀(pins:List (Addr×Obj)) (s:Shared) (σ:St) (H:Hp) (x y:V) (v u:Value) (Q:VK),Inv X pins σ H s->RelV x v->RelV y u->r x y H Q ->
  wpAny (model X.prog X.w) X.A (f v u) (EP X pins σ Q) X.xe s
def UnR(X:Cx)(f:Value->Sem Value)(r:V->Hp->VK->Prop):Prop:=
 ∀(pins:List (Addr×Obj)) (s:Shared) (σ:St) (H:Hp) (x:V) (v:Value) (Q:VK),Inv X pins σ H s->RelV x v->r x H Q ->
  wpAny (model X.prog X.w) X.A (f v) (EP X pins σ Q) X.xe s
def CallR(X:Cx)(f:Value)(r:List V->Hp->VK->Prop):Prop:=
 ∀(pins:List (Addr×Obj)) (s:Shared) (σ:St) (H:Hp) (xs:List V) (us:List Value) (Q:VK),Inv X pins σ H s->Vals xs us->r xs H Q ->
  wpAny (model X.prog X.w) X.A (call f us) (EP X pins σ Q) X.xe s
def tOp(r:R2)(ta tb:TE):TE:=λσ H Q=>ta σ H λx H1=>tb σ H1 λy H2=>r x y H2 Q
def tUn(r:V->Hp->VK->Prop)(ta:TE):TE:=λσ H Q=>ta σ H λx H1=>r x H1 Q
def rI(C:Int->Int->Prop)(g:Int->Int->V):R2:=λx y H Q=>∃i j,x=.int i/\y=.int j/\C i j/\Q (g i j) H
def rI0(g:Int->Int->V):R2:=λx y H Q=>∃i j,x=.int i/\y=.int j/\Q (g i j) H
def rU(g:Int->V):V->Hp->VK->Prop:=λx H Q=>∃i,x=.int i/\Q (g i) H
section
variable{X:Cx}{a b c:Expr}{ta tb tc:TE}{pos:Pos}
theorem xY(ha:PE X a ta)(hb:PE X b tb){pins:List (Addr×Obj)}{s:Shared}{σ:St}{H:Hp}{R:V->V->Hp->Prop}(I:Inv X pins σ H s)
  (h:ta σ H λx H1=>tb σ H1 λy H2=>R x y H2) {Q:Value->Shared->Prop} {f:Value->Value->Sem Value}
  (hf:∀v u s2 x y H2,Inv X pins σ H2 s2->RelV x v->RelV y u->R x y H2->wpAny (model X.prog X.w) X.A (f v u) Q X.xe s2):
  wpAny (model X.prog X.w) X.A (eval a X.env) (λv s₁=>wpAny (model X.prog X.w) X.A (eval b X.env) (λu s₂=>wpAny (model X.prog X.w) X.A (f v u) Q X.xe s₂) X.xe s₁) X.xe s:=by
 refine thn (ha pins s σ H _ I h) λv s1 ⟨x,H1,I1,r1,q1⟩=>?_
 refine thn (hb pins s1 σ H1 _ I1 q1) λu s2 ⟨y,H2,I2,r2,q2⟩=>?_
 exact hf v u s2 x y H2 I2 r1 r2 q2
theorem cN{op:Operator}{r:R2}(ho:OpR X (binaryOp op) r)(ha:PE X a ta)(hb:PE X b tb):PE X (.BinOp a op b pos) (tOp r ta tb):=by
 intro pins s σ H Q I h
 exact wpAny_BinOp (xY ha hb I h λv u s2 x y H2 I2 rx ry q=>ho pins s2 σ H2 x y v u Q I2 rx ry q)
theorem zCH{op:UnaryOp}{r:V->Hp->VK->Prop}(ho:UnR X (unaryOp op) r)(ha:PE X a ta):PE X (.UnaryOp op a pos) (tUn r ta):=by
 intro pins s σ H Q I h
 exact UnaryOp_ (thn (ha pins s σ H _ I h) λv s1 ⟨x,H1,I1,r1,q1⟩=>ho pins s1 σ H1 x v Q I1 r1 q1)
theorem opI{f:Value->Value->Sem Value}{C:Int->Int->Prop}{g:Int->Int->Int}
  (rule:∀(i j:Int) (t u:Tok) (s:Shared) (Q:Value->Shared->Prop) (E:Value->Shared->Prop),C i j->Q (.int (g i j) s.toks) {s with toks:=s.toks+1}->wpAny (model X.prog X.w) X.A (f (.int i t) (.int j u)) Q E s):
  OpR X f (rI C λi j=>.int (g i j)):=by
 intro pins s σ H x y v u Q I rx ry h
 obtain⟨i,j,rfl,rfl,hc,q⟩:=h
 obtain⟨t,rfl⟩:=rx
 obtain⟨t',rfl⟩:=ry
 exact rule i j t t' s _ _ hc ⟨.int (g i j),H,I.tok _,⟨_,rfl⟩,q⟩
theorem zC8{f:Value->Value->Sem Value}{g:Int->Int->Int}
  (rule:∀(i j:Int) (t u:Tok) (s:Shared) (Q:Value->Shared->Prop) (E:Value->Shared->Prop),Q (.int (g i j) s.toks) {s with toks:=s.toks+1}->wpAny (model X.prog X.w) X.A (f (.int i t) (.int j u)) Q E s):
  OpR X f (rI0 λi j=>.int (g i j)):=by
 intro pins s σ H x y v u Q I rx ry h
 obtain⟨i,j,rfl,rfl,q⟩:=h
 obtain⟨t,rfl⟩:=rx
 obtain⟨t',rfl⟩:=ry
 exact rule i j t t' s _ _ ⟨.int (g i j),H,I.tok _,⟨_,rfl⟩,q⟩
theorem xV{f:Value->Value->Sem Value}{g:Int->Int->Bool}
  (rule:∀(i j:Int) (t u:Tok) (s:Shared) (Q:Value->Shared->Prop) (E:Value->Shared->Prop),Q (.bool (g i j)) s->wpAny (model X.prog X.w) X.A (f (.int i t) (.int j u)) Q E s):
  OpR X f (rI0 λi j=>.bl (g i j)):=by
 intro pins s σ H x y v u Q I rx ry h
 obtain⟨i,j,rfl,rfl,q⟩:=h
 obtain⟨t,rfl⟩:=rx
 obtain⟨t',rfl⟩:=ry
 exact rule i j t t' s _ _ ⟨.bl (g i j),H,I,rfl,q⟩
def zLQ(i j:Int):Prop:=0<j/\j<1073741824
def zDl(i j:Int):Prop:=0<=j/\j<=1000000/\i.natAbs<2 ^ 64
def CMul(i j:Int):Prop:=(-(2 ^ 64)<i/\i<2 ^ 64)\/(-(2 ^ 64)<j/\j<2 ^ 64)
theorem CMul.ok{i j:Int}(h:CMul i j):IntMulOk i j:=by
 rcases h with⟨h1,h2⟩|⟨h1,h2⟩
 ·exact .of_left (intBits_le_64 h1 h2)
 ·exact .of_right (intBits_le_64 h1 h2)
theorem op_add:OpR X (binaryOp .Add) (rI0 λi j=>.int (i+j)):=zC8 λ_ _ _ _ _ _ _ q=>add_int q
theorem zIN:OpR X (binaryOp .Sub) (rI0 λi j=>.int (i-j)):=zC8 λ_ _ _ _ _ _ _ q=>sub_int q
theorem op_mul:OpR X (binaryOp .Mult) (rI CMul λi j=>.int (i*j)):=opI λ_ _ _ _ _ _ _ hc q=>mul_int q hc.ok
theorem zBJ:OpR X (binaryOp .FloorDiv) (rI zLQ λi j=>.int (i / j)):=opI λi j _ _ _ _ _ hc q=>by
 have h1:(0:Int)<j:=hc.1
 have h2:j<1073741824:=hc.2
 exact floordiv_int (by omega) (by rw[qk3_ i (by omega)];exact q) (.inl (PyProof.noPylong_small (by omega)))
theorem iS:OpR X (binaryOp .Mod) (rI (λ_ j=>0<j) λi j=>.int (i % j)):=opI λi j _ _ _ _ _ hc q=>by
 have h1:(0:Int)<j:=hc
 exact mod_int' (by omega) (by rw[Int.fmod_eq_emod_of_nonneg i (by omega)];exact q)
theorem zHf:OpR X (binaryOp .Mod) (rI (λ_ j=>j≠0) λi j=>.int (i.fmod j)):=opI λ_ _ _ _ _ _ _ hc q=>mod_int' hc q
theorem zCo:OpR X (binaryOp .Pow) (rI zDl λi j=>.int (i ^ j.toNat)):=opI λ_ _ _ _ _ _ _ hc q=>pow_int_small hc.1 hc.2.1 hc.2.2 q
theorem unI{f:Value->Sem Value}{g:Int->Int}
  (rule:∀(i:Int) (t:Tok) (s:Shared) (Q:Value->Shared->Prop) (E:Value->Shared->Prop),Q (.int (g i) s.toks) {s with toks:=s.toks+1}->wpAny (model X.prog X.w) X.A (f (.int i t)) Q E s):
  UnR X f (rU λi=>.int (g i)):=by
 intro pins s σ H x v Q I rx h
 obtain⟨i,rfl,q⟩:=h
 obtain⟨t,rfl⟩:=rx
 exact rule i t s _ _ ⟨.int (g i),H,I.tok _,⟨_,rfl⟩,q⟩
theorem zB8:UnR X (unaryOp .USub) (rU λi=>.int (-i)):=unI λ_ _ _ _ _ q=>neg_int q
end
section
variable{X:Cx}{a b c:Expr}{ta tb tc:TE}{pos:Pos}
theorem rM{pins:List (Addr×Obj)}{σ:St}{H:Hp}{s:Shared}{Q:VK}{k k':Bool}(I:Inv X pins σ H s)(q:Q (.bl k) H)(e:k=k'):EP X pins σ Q (.bool k') s:=by
 subst e
 exact⟨.bl k,H,I,rfl,q⟩
theorem op_lt:OpR X (compareOp .Lt) (rI0 λi j=>.bl (decide (i<j))):=xV λ_ _ _ _ _ _ _ q=>lt_int q
theorem zJ3:OpR X (compareOp .LtE) (rI0 λi j=>.bl (decide (i<=j))):=xV λ_ _ _ _ _ _ _ q=>le_int q
theorem zJ4:OpR X (compareOp .Gt) (rI0 λi j=>.bl (decide (j<i))):=xV λ_ _ _ _ _ _ _ q=>gt_int q
theorem zEN:OpR X (compareOp .Lt) (λx y H Q=>∃i j,x=.str i/\y=.str j/\Q (.bl (decide (i.cps.toList<j.cps.toList))) H):=by
 intro pins s σ H x y v u Q I rx ry h
 obtain⟨i,j,rfl,rfl,q⟩:=h
 obtain⟨t,rfl⟩:=rx
 obtain⟨t',rfl⟩:=ry
 exact lt_str (rM I q rfl)
theorem op_in_str:OpR X (compareOp .In) (λx y H Q=>∃i j,x=.str i/\y=.str j/\Q (.bl (!(Builtin.Str.occurrences j i 0 j.length 1).isEmpty)) H):=by
 intro pins s σ H x y v u Q I rx ry h
 obtain⟨i,j,rfl,rfl,q⟩:=h
 obtain⟨t,rfl⟩:=rx
 obtain⟨t',rfl⟩:=ry
 exact in_str (rM I q rfl)
theorem op_isN:OpR X (compareOp .Is) (λx y H Q=>y=.non/\Q (.bl (decide (x=.non))) H):=by
 intro pins s σ H x y v u Q I rx ry h
 obtain⟨rfl,q⟩:=h
 cases ry
 refine is_none_gen (rM I q ?_)
 cases x<;>first
  |(cases rx;rfl)
  |(obtain⟨t,rfl⟩:=rx;rfl)
theorem op_notN:OpR X (compareOp .IsNot) (λx y H Q=>y=.non/\Q (.bl (!decide (x=.non))) H):=by
 intro pins s σ H x y v u Q I rx ry h
 obtain⟨rfl,q⟩:=h
 cases ry
 refine isnot_none_gen (rM I q ?_)
 cases x<;>first
  |(cases rx;rfl)
  |(obtain⟨t,rfl⟩:=rx;rfl)
theorem OpR.or{f:Value->Value->Sem Value}{r r':R2}(h:OpR X f r)(h':OpR X f r'):OpR X f (λx y H Q=>r x y H Q\/r' x y H Q):=by
 intro pins s σ H x y v u Q I rx ry q
 rcases q with q|q
 ·exact h pins s σ H x y v u Q I rx ry q
 ·exact h' pins s σ H x y v u Q I rx ry q
theorem lY(b:Expr){op:CmpOp}(h:op≠.In:=by decide)(h2:op≠.NotIn:=by decide):behindInMarks op b=false:=by
 have e1:(op==CmpOp.In)=false:=by cases op<;>first|rfl|exact absurd rfl h
 have e2:(op==CmpOp.NotIn)=false:=by cases op<;>first|rfl|exact absurd rfl h2
 cases b<;>simp[behindInMarks,e1,e2]
theorem zG7{op:CmpOp}{r:R2}(ho:OpR X (compareOp op) r)(ha:PE X a ta)(hb:PE X b tb)(hm:behindInMarks op b=false):PE X (.Compare a [op] [b] pos) (tOp r ta tb):=by
 intro pins s σ H Q I h
 exact wpAny_Compare1 (xY ha hb I h λv u s2 x y H2 I2 rx ry q=>ho pins s2 σ H2 x y v u Q I2 rx ry q) hm
def zCD(t:TE):TT:=λσ H Q=>t σ H λx H'=>∃k,x=.bl k/\Q k H'
theorem vM{op:CmpOp}{r:R2}(ho:OpR X (compareOp op) r)(ha:PE X a ta)(hb:PE X b tb)(hm:behindInMarks op b=false):PT X (.Compare a [op] [b] pos) (zCD (tOp r ta tb)):=by
 intro pins s σ H Q I h
 refine wpAny_isTrue_Compare1 (thn (ha pins s σ H _ I h) λv s1 ⟨x,H1,I1,r1,q1⟩=>thn (hb pins s1 σ H1 _ I1 q1) λu s2 ⟨y,H2,I2,r2,q2⟩=>
  thn (ho pins s2 σ H2 x y v u _ I2 r1 r2 q2) λc s3 ⟨z,H3,I3,r3,k,e,q3⟩=>?_) hm
 subst e
 cases r3
 exact wpAny_truthy_bool ⟨H3,I3,q3⟩
theorem lZ:(sizeLine:Nat)<2 ^ 63:=by rw[sizeLine_eq];decide
theorem op_add_str:OpR X (binaryOp .Add) (λx y H Q=>∃i j,x=.str i/\y=.str j/\i.length+j.length<=sizeLine/\Q (.str (i++j)) H):=by
 intro pins s σ H x y v u Q I rx ry h
 obtain⟨i,j,rfl,rfl,hz,q⟩:=h
 obtain⟨t,rfl⟩:=rx
 obtain⟨t',rfl⟩:=ry
 exact add_str (λt' tk=>⟨.str (i++j),H,I.tok _,⟨_,rfl⟩,q⟩) hz
theorem cQ{x:V}{us:List Value}(r:Vals [x] us):∃u,us=[u]/\RelV x u:=by
 cases r with
 |cons r1 r2=>cases r2;exact⟨_,rfl,r1⟩
theorem iU{x y:V}{us:List Value}(r:Vals [x,y] us):∃u w',us=[u,w']/\RelV x u/\RelV y w':=by
 cases r with
 |cons r1 r2=>
  cases r2 with
  |cons r3 r4=>cases r4;exact⟨_,_,rfl,r1,r3⟩
theorem zGp:CallR X (.builtin "abs") (λxs H Q=>∃i,xs=[.int i]/\Q (.int (if i<0 then -i else i)) H):=by
 intro pins s σ H xs us Q I r h
 obtain⟨i,rfl,q⟩:=h
 obtain⟨u,rfl,t,rfl⟩:=cQ r
 exact call_abs_int λu tk=>⟨.int (if i<0 then -i else i),H,I.tok _,⟨_,rfl⟩,q⟩
theorem zFh(hc:X.calm=true):CallR X (.builtin "max") (λxs H Q=>∃i j,xs=[.int i,.int j]/\Q (.int (if j > i then j else i)) H):=by
 intro pins s σ H xs us Q I r h
 obtain⟨i,j,rfl,q⟩:=h
 obtain⟨u,w',rfl,⟨t,rfl⟩,⟨t',rfl⟩⟩:=iU r
 refine max_two_ints (I.ok.hd hc) λh' tk k=>⟨_,H,I.kept k,?_,q⟩
 by_cases hj:j > i
 ·rw[if_pos hj,if_pos hj];exact⟨_,rfl⟩
 ·rw[if_neg hj,if_neg hj];exact⟨_,rfl⟩
theorem zFf(hc:X.calm=true):CallR X (.builtin "min") (λxs H Q=>∃i j,xs=[.int i,.int j]/\Q (.int (if j<i then j else i)) H):=by
 intro pins s σ H xs us Q I r h
 obtain⟨i,j,rfl,q⟩:=h
 obtain⟨u,w',rfl,⟨t,rfl⟩,⟨t',rfl⟩⟩:=iU r
 refine min_two_ints (I.ok.hd hc) λh' tk k=>⟨_,H,I.kept k,?_,q⟩
 by_cases hj:j<i
 ·rw[if_pos hj,if_pos hj];exact⟨_,rfl⟩
 ·rw[if_neg hj,if_neg hj];exact⟨_,rfl⟩
end
end L2
namespace L2
open PySem PySem.Spec PyProof.Rows
theorem RelO.some_of{v:V}{o:Option Value}(r:RelO (some v) o):∃u,o=some u/\RelV v u:=by
 cases o with
 |none=>exact(show False from r).elim
 |some u=>exact⟨u,rfl,r⟩
end L2
namespace L2
open PySem PySem.Spec PyProof.Rows
structure Room (k:Nat) (A:Around):Prop where
 hd:A.handled=none
 dp:A.depth+3*k+5<recursionLimit
 un:A.units+16*k+200<cLine
 gd:A.guards=some []
theorem Room.mono{j k:Nat}{A:Around}(r:Room k A)(h:j<=k):Room j A:=⟨r.hd,by have:=r.dp;omega,by have:=r.un;omega,r.gd⟩
theorem Room.deeper{k:Nat}{A:Around}(r:Room (k+1) A)(env:Env):Room k (A.deeper env):=
 ⟨r.hd,by have:=r.dp;show A.depth+1+3*k+5<_;omega,by have:=r.un;show A.units+3+16*k+200<_;omega,r.gd⟩
theorem Room.depth{k:Nat}{A:Around}(r:Room k A):A.depth<recursionLimit:=by have:=r.dp;omega
theorem Room.units{k:Nat}{A:Around}(r:Room k A):A.units+64<cLine:=by have:=r.un;omega
def sB:TA:=λ_ H Q=>Q [] H
def wN(ta:TE)(tr:TA):TA:=λσ H Q=>ta σ H λx H1=>tr σ H1 λxs H2=>Q (x::xs) H2
section
variable{X:Cx}{e:Expr}{es:List Expr}{te:TE}{t:TA}{pos:Pos}
theorem dD:PA X [] sB:=λ_ _ _ _ H Q I h=>Calls.spliced_nil ⟨[],H,I,.nil,h⟩
theorem zG9(ha:PE X e te)(hr:PA X es t)(hs:starEach (e::es) X.env=(false,eval e X.env)::starEach es X.env:=by rfl):PA X (e::es) (wN te t):=by
 intro pos pins s σ H Q I h
 rw[hs]
 show wpAny _ _ (spliced ((false,eval e X.env)::backTo pos (starEach es X.env))) _ _ s
 refine Calls.spliced_cons (thn (ha pins s σ H _ I h) λu s1 ⟨x,H1,I1,r1,q1⟩=>?_)
 exact thn (hr pos pins s1 σ H1 _ I1 q1) λus s2 ⟨xs,H2,I2,r2,q2⟩=>⟨x::xs,H2,I2,.cons r1 r2,q2⟩
def zKx(t:TA):TE:=λσ H Q=>t σ H λxs H1=>xs.length<=sizeLine/\∀p,H1 p=none->Q (.ref p) (upd H1 p (.tup xs))
def zCV(t:TA):TE:=λσ H Q=>t σ H λxs H1=>xs.length<=sizeLine/\∀p,H1 p=none->Q (.ref p) (upd H1 p (.lst xs))
theorem zID{x1}(h:PA X es t):PE X (.Tuple es x1 pos) (zKx t):=by
 intro pins s σ H Q I hq
 refine wpAny_Tuple_spliced (thn (h pos pins s σ H _ I hq) λus s1 ⟨xs,H1,I1,r,z,q⟩=>⟨by rw[<-r.length];exact z,?_⟩)
 have hf:H1 s1.heap.objs.size=none:=I1.hok.fresh (qe_ _)
 refine⟨.ref s1.heap.objs.size,upd H1 s1.heap.objs.size (.tup xs),I1.laid (t':=s1.toks) (λb u e=>qd_ _ e) (qe_ _) ?_,rfl,q _ hf⟩
 exact⟨z,us,r,⟨_,qi_ _ rfl,rfl,_,rfl⟩⟩
theorem zCk(h:PA X es t):PE X (.List es pos) (zCV t):=by
 intro pins s σ H Q I hq
 refine wpAny_List_spliced (thn (h pos pins s σ H _ I hq) λus s1 ⟨xs,H1,I1,r,z,q⟩=>⟨by rw[<-r.length];exact z,?_⟩)
 have hf:H1 s1.heap.objs.size=none:=I1.hok.fresh (qe_ _)
 refine⟨.ref s1.heap.objs.size,upd H1 s1.heap.objs.size (.lst xs),I1.laid (t':=s1.toks) (λb u e=>qd_ _ e) (qe_ _) ?_,rfl,q _ hf⟩
 exact⟨z,us,0,r,qi_ _ rfl⟩
end
abbrev Sp:=List V->Hp->VK->XK->Prop
abbrev CXT:=List Env->Hp->Shared->XK->Value->Shared->Prop
structure tH (P:Program) (w:World) (K:W.Frag) (mg:Str->Option Value) (base:Heap) (A:Around) (outer:List Env) (s:Shared) (H:Hp):Prop where
 frames:A.frames=some outer
 mod:Mod K mg base
 bs:∀b o,base.get? b=some o->s.heap.get? b=some o/\H b=none
 bsz:base.objs.size<=s.heap.objs.size
 funs:s.heap.FunFrames base outer
 frf:∀b∈frs outer,H b=none
 hok:HOk P w H s.heap
 bare:AllBare s.gens
def CE(outer:List Env)(P:Program)(w:World)(H:Hp)(s:Shared)(Q:VK)(u:Value)(s':Shared):Prop:=
 ∃v H',s'.os=s.os/\AllBare s'.gens/\Un (frs outer) [] H H' s.heap s'.heap/\HOk P w H' s'.heap/\RelV v u/\Q v H'
def CR(CX:CXT)(outer:List Env)(P:Program)(w:World)(H:Hp)(s:Shared)(Q:VK)(E:XK)(r:Result)(s':Shared):Prop:=
 match r with
 |.ok (.ret u)=>CE outer P w H s Q u s'
 |.ok _=>False
 |.error e=>CX outer H s E e s'
structure FnOk (P:Program) (w:World) (K:W.Frag) (mg:Str->Option Value) (base:Heap) (CX:CXT) (k:Nat) (f:Addr) (fd:FuncData) (ps:List Str) (sp:Sp):Prop where
 len:∀vs H Q E,sp vs H Q E->vs.length=ps.length
 run:∀(A:Around) (outer:List Env) (s:Shared) (H:Hp) (args:Args) (us:List Value) (vs:List V) (Q:VK) (E:XK),Room k A->tH P w K mg base A outer s H->BindsTo s fd args (ps.zip us)->Vals vs us->sp vs H Q E ->
  codeAny (model P w) A (.call (.ref f) args) (CR CX outer P w H s Q E) s
theorem FnOk.mono{P:Program}{w:World}{K:W.Frag}{mg:Str->Option Value}{base:Heap}{CX:CXT}{j k:Nat}{f:Addr}{fd:FuncData}{ps:List Str}{sp:Sp}(F:FnOk P w K mg base CX j f fd ps sp)(h:j<=k):
  FnOk P w K mg base CX k f fd ps sp:=⟨F.len,λA outer s H args us vs Q E hr=>F.run A outer s H args us vs Q E (hr.mono h)⟩
theorem FnOk.imp{P:Program}{w:World}{K:W.Frag}{mg:Str->Option Value}{base:Heap}{CX:CXT}{k:Nat}{f:Addr}{fd:FuncData}{ps:List Str}{sp sp':Sp}(F:FnOk P w K mg base CX k f fd ps sp)
  (h:∀vs H Q E,sp' vs H Q E->sp vs H Q E):FnOk P w K mg base CX k f fd ps sp':=
 ⟨λvs H Q E q=>F.len vs H Q E (h _ _ _ _ q),λA outer s H args us vs Q E hr he hb hv hs=>F.run A outer s H args us vs Q E hr he hb hv (h _ _ _ _ hs)⟩
section
variable{X:Cx}{pins:List (Addr×Obj)}{σ:St}{H:Hp}{s s':Shared}
theorem Inv.env0(I:Inv X pins σ H s):tH X.prog X.w X.K X.mg X.base X.A X.stack s H:=
 ⟨I.ok.frames,I.ok.mod,I.bs,qh_ I.ok.bsz I.sz,I.stack,I.stkFree,I.hok,I.bare⟩
theorem Inv.after{Q:VK}{u:Value}(I:Inv X pins σ H s)(h:CE X.stack X.prog X.w H s Q u s'):EP X pins σ Q u s':=by
 obtain⟨v,H',os,bare,un,hok,r,q⟩:=h
 obtain⟨hh,g,d,t,os'⟩:=s'
 obtain rfl:os'=s.os:=os
 exact⟨v,H',I.call (h':=hh) (g':=g) (d':=d) (t':=t) (ch:=[]) un hok bare (λb z=>absurd z (by simp)),r,q⟩
end
def oO(sp:Sp)(dvs:List V)(E:XK)(t:TA):TE:=λσ H Q=>t σ H λvs H1=>sp (vs++dvs) H1 Q E
def Binds(K:W.Frag)(fd:FuncData)(ps:List Str)(ds:List Value):Prop:=
 ∀(s:Shared) (us:List Value),K.In s.heap->(us++ds).length=ps.length->BindsTo s fd ⟨us,[]⟩ (ps.zip (us++ds))
theorem Binds.all{K:W.Frag}{fd:FuncData}{ps:List Str}(h:∀us:List Value,us.length=ps.length->bindArgs fd ⟨us,[]⟩=pure (ps.zip us)):Binds K fd ps []:=λs us _ hl=>by
 rw[qQ_]at hl ⊢
 exact .of_eq (h us hl)
def rO(CX:CXT)(X:Cx)(E:XK):Prop:=∀(pins:List (Addr×Obj)) (σ:St) (H:Hp) (s:Shared) (e:Value) (s':Shared),Inv X pins σ H s->CX X.stack H s E e s'->X.xe e s'
section
variable{X:Cx}{CX:CXT}{k:Nat}{f C:Addr}{fd:FuncData}{ps:List Str}{sp:Sp}{dvs:List V}{ds:List Value}{E:XK}{x m:Str}{p pos apos:Pos}{e o:Expr}{es:List Expr}{ta:TE}{t:TA}
theorem zCf{pins:List (Addr×Obj)}{σ:St}{H:Hp}{s:Shared}{Q:VK}{us:List Value}{vs:List V}(F:FnOk X.prog X.w X.K X.mg X.base CX k f fd ps sp)(hr:Room k X.A)(hb:Binds X.K fd ps ds)(hd:Vals dvs ds)(hx:rO CX X E)
  (I:Inv X pins σ H s) (r:Vals vs us) (h:sp (vs++dvs) H Q E):wpAny (model X.prog X.w) X.A (call (.ref f) us) (EP X pins σ Q) X.xe s:=by
 have r2:Vals (vs++dvs) (us++ds):=r.append hd
 have hl:(us++ds).length=ps.length:=by rw[<-r2.length];exact F.len _ _ _ _ h
 refine wpAny_call (codeAny_mono (F.run X.A X.stack s H ⟨us,[]⟩ (us++ds) (vs++dvs) Q E hr I.env0 (hb s us I.kIn hl) r2 h) λr s' hq=>?_)
 cases r with
 |error e=>exact hx pins σ H s e s' I hq
 |ok fl=>
  cases fl with
  |ret u=>exact I.after hq
  |next=>exact False.elim hq
  |brk=>exact False.elim hq
  |cont=>exact False.elim hq
theorem zG8(F:FnOk X.prog X.w X.K X.mg X.base CX k f fd ps sp)(hr:Room k X.A)(hg:Gl X x)(hm:X.mg x=some (.ref f))(hk:W.keepIn X.K (.ref f)=true)(hb:Binds X.K fd ps ds)(hd:Vals dvs ds)(hx:rO CX X E)
  (ha:PA X (e::es) t) (hdb:(x==("__debug__":Str))=false:=by decide) (he:starEach (e::es) X.env=(false,eval e X.env)::starEach es X.env:=by rfl) (hpl:(backTo pos (starEach es X.env)).any (·.1)=false:=by rfl):
  PE X (.Call (.Name x p) (e::es) [] pos) (oO sp dvs E t):=by
 intro pins s σ H Q I h
 refine wpAny_Call_Name_kw (vW I hg hm ?_ hdb)
 refine PySem.W.callWith_K (h₀:=X.base) I.ok.mod.kin hk (thn (ha pos pins s σ H _ I h) λus s1 ⟨vs,H1,I1,r,q⟩=>⟨I1.kIn,?_⟩) he hpl
 exact zCf F hr hb hd hx I1 r q
theorem zFU(F:FnOk X.prog X.w X.K X.mg X.base CX k f fd ps sp)(hr:Room k X.A)(hg:Gl X x)(hm:X.mg x=some (.ref f))(hk:W.keepIn X.K (.ref f)=true)(hb:Binds X.K fd ps ds)(hd:Vals dvs ds)(hx:rO CX X E)
  (hdb:(x==("__debug__":Str))=false:=by decide):PE X (.Call (.Name x p) [] [] pos) (oO sp dvs E sB):=by
 intro pins s σ H Q I h
 refine wpAny_Call_Name_kw (vW I hg hm ?_ hdb)
 exact PySem.W.callWith_K0 I.kIn hk (zCf (us:=[]) F hr hb hd hx I .nil h)
end
structure bA (N P:List Str) (sc:Scope):Prop where
 kind:sc.kind=.function
 co:sc.isCoroutine=false
 gen:sc.isGenerator=false
 nd:N.Nodup
 pre:N.take P.length=P
 par:∀x∈P,sc.names.lookup x=some .local\/sc.names.lookup x=some .cell
 nofree:∀y∈sc.names,y.2≠.free
theorem fsc{N P:List Str}{sc:Scope}(h:sc.kind=.function/\sc.isCoroutine=false/\sc.isGenerator=false/\N.Nodup/\N.take P.length=P/\(∀x∈P,sc.names.lookup x=some .local\/sc.names.lookup x=some .cell)/\∀y∈sc.names,y.2≠.free):bA N P sc:=⟨h.1,h.2.1,h.2.2.1,h.2.2.2.1,h.2.2.2.2.1,h.2.2.2.2.2.1,h.2.2.2.2.2.2⟩
theorem zAx{kindOf:Str->Option NameKind}{x:Str}:∀{binds:List (Str×Value)}{m:Str->Option Value},(∀v,(x,v)∉binds)->bindL kindOf binds m x=m x
 |[],_,_=>rfl
 |(n,v)::r,m,h=>by
  unfold bindL
  rw[zAx λw hw=>h w (qc1_ _ hw)]
  split
  ·have:x≠n:=by rintro rfl;exact h v qi1_
   simp[this]
  ·rfl
theorem zAz{kindOf:Str->Option NameKind}{x:Str}:∀{binds:List (Str×Value)}{m:Str->Option Value},(∀v,(x,v)∉binds)->bindC kindOf binds m x=m x
 |[],_,_=>rfl
 |(n,v)::r,m,h=>by
  unfold bindC
  rw[zAz λw hw=>h w (qc1_ _ hw)]
  split
  ·rfl
  ·have:x≠n:=by rintro rfl;exact h v qi1_
   simp[this]
theorem zAy{kindOf:Str->Option NameKind}{x:Str}{v:Value}:∀{P:List Str}{vs:List Value}{i:Nat}{m:Str->Option Value},P.Nodup->P[i]?=some x->vs[i]?=some v->kindOf x=some .local ->
  bindL kindOf (P.zip vs) m x=some v
 |[],_,_,_,_,h,_,_=>by simp at h
 |_::_,[],_,_,_,_,h,_=>by simp at h
 |p::P,w::vs,0,m,nd,h1,h2,hk=>by
  simp at h1 h2;subst h1;subst h2
  show bindL kindOf ((p,w)::P.zip vs) m p=_
  unfold bindL
  rw[zAx λv hv=>(qG1_.mp nd).1 (qX2_ hv).1,if_pos hk]
  simp
 |p::P,w::vs,i+1,m,nd,h1,h2,hk=>by
  show bindL kindOf ((p,w)::P.zip vs) m x=_
  unfold bindL
  exact zAy (i:=i) (qG1_.mp nd).2 (by simpa using h1) (by simpa using h2) hk
theorem zAA{kindOf:Str->Option NameKind}{x:Str}{v:Value}:∀{P:List Str}{vs:List Value}{i:Nat}{m:Str->Option Value},P.Nodup->P[i]?=some x->vs[i]?=some v->kindOf x≠some .local ->
  bindC kindOf (P.zip vs) m x=some v
 |[],_,_,_,_,h,_,_=>by simp at h
 |_::_,[],_,_,_,_,h,_=>by simp at h
 |p::P,w::vs,0,m,nd,h1,h2,hk=>by
  simp at h1 h2;subst h1;subst h2
  show bindC kindOf ((p,w)::P.zip vs) m p=_
  unfold bindC
  rw[zAz λv hv=>(qG1_.mp nd).1 (qX2_ hv).1,if_neg hk]
  simp
 |p::P,w::vs,i+1,m,nd,h1,h2,hk=>by
  show bindC kindOf ((p,w)::P.zip vs) m x=_
  unfold bindC
  exact zAA (i:=i) (qG1_.mp nd).2 (by simpa using h1) (by simpa using h2) hk
def dY(N:List Str)(vs:List V):St:=vs.map some++List.replicate (N.length-vs.length) none
def jU(CX:CXT)(P:Program)(w:World)(K:W.Frag)(mg:Str->Option Value)(base:Heap)(N:List Str)(qual:Str)(scope:Scope)(f:Addr)(cd:Value)(A:Around)(outer:List Env)(s:Shared)(H:Hp)(E:XK):Cx where
 prog:=P
 w:=w
 K:=K
 mg:=mg
 base:=base
 A:=A.deeper (envOfC qual scope s.heap.objs.size f cd)
 N:=N
 s₀:=s
 H₀:=H
 env:=envOfC qual scope s.heap.objs.size f cd
 outer:=outer
 stack:=envOfC qual scope s.heap.objs.size f cd::outer
 ex:=[]
 calm:=true
 fn:=λ_=>true
 pn:=[]
 xe:=λe s'=>wpAny (model P w) (A.deeper (envOfC qual scope s.heap.objs.size f cd)) (leaving (envOfC qual scope s.heap.objs.size f cd) e) (λ_ s''=>CX outer H s E e s'') (λe' s''=>CX outer H s E e' s'') s'
theorem zBd{sc:Scope}{n:Nat}{x:Str}(h:sc.names.lookup x=some .cell):∃c,(cellsFrom n sc.names []).lookup x=some c:=by
 have q:=PySem.W.cellsFrom_some sc.names n [] (.inl h)
 exact Option.isSome_iff_exists.mp q
theorem zE0{CX:CXT}{P:Program}{w:World}{K:W.Frag}{mg:Str->Option Value}{base:Heap}{N ps:List Str}{qual:Str}{scope:Scope}{f:Addr}{cd:Value}{A:Around}{outer:List Env}{s s1:Shared}{H:Hp}{E:XK}{us:List Value}{vs:List V}
  (S:bA N ps scope) (hd:A.handled=none) (e0:tH P w K mg base A outer s H) (hl:vs.length=ps.length) (r:Vals vs us)
  (x:InCallC s s.heap.objs.size (bindL (envOfC qual scope s.heap.objs.size f cd).kindOf (ps.zip us) λ_=>none) (cellsFrom (s.heap.objs.size+1) scope.names []) (bindC (envOfC qual scope s.heap.objs.size f cd).kindOf (ps.zip us) λ_=>none) s1):
  Inv (jU CX P w K mg base N qual scope f cd A outer s H E) [] (dY N vs) H s1:=by
 have hpl:ps.length<=N.length:=by have:=congrArg List.length S.pre;rw[qR_]at this;omega
 obtain⟨h1,tk,rfl,hk⟩:=x.done
 have noA:∀b:Addr,b∉(jU CX P w K mg base N qual scope f cd A outer s H E).ex:=λb z=>absurd (show b∈([]:List Addr) from z) (by simp)
 refine⟨⟨e0.mod,S.kind,rfl,rfl,qe_ _,λy z c h1 h2=>?_,λy hy=>?_,λy c _ h=>?_,λ_=>hd,Around.frames_deeper e0.frames,.inr ⟨rfl,rfl⟩,λb z=>absurd z (noA b),e0.bs,e0.bsz,λb _ _=>noA b,λb z=>absurd z (noA b),e0.funs,e0.frf⟩,
  rfl,e0.bare,Un.kept hk,⟨_,x.toInCall.ns,λi y v h1 h2 h3=>?_⟩,λy c h=>⟨_,x.cell y c h⟩,e0.hok.fresh (qe_ _),λy c h=>?_,λp hp=>absurd (show p∈([]:List (Addr×Obj)) from hp) (by simp),e0.hok.kept hk,?_⟩
 ·exact name_of_addr x.apart (PySem.mem_of_lookup h1) (PySem.mem_of_lookup h2)
 ·have hy:scope.names.lookup y=some .cell\/scope.names.lookup y=some .free:=hy
  rcases hy with hy|hy
  ·exact zBd hy
  ·exact absurd rfl (S.nofree _ (PySem.mem_of_lookup hy))
 ·exact qY_ (x.above y c (PySem.mem_of_lookup h))
 ·have hi:i<vs.length:=by
   unfold dY at h2
   by_cases hi:i<vs.length
   ·exact hi
   ·rw[qH1_ (by simpa using hi)]at h2
    rw[qd2_]at h2
    split at h2<;>cases h2
  have ha:vs[i]?=some v:=by
   unfold dY at h2
   rw[qI1_ (by simpa using hi),qv_]at h2
   cases e:vs[i]? with
   |none=>rw[e]at h2;cases h2
   |some a=>rw[e]at h2;cases h2;rfl
  obtain⟨u,hu,rv⟩:=r.get ha
  have hp:ps[i]?=some y:=by
   rw[<-S.pre,List.getElem?_take_of_lt (by omega)];exact h1
  have ndP:ps.Nodup:=by rw[<-S.pre];exact S.nd.sublist (qY2_ _ _)
  refine⟨u,rv,?_⟩
  rcases S.par y (qE_ hp) with k|k
  ·exact .inl ⟨k,zAy ndP hp hu k⟩
  ·obtain⟨c,e⟩:=zBd (n:=s.heap.objs.size+1) k
   refine .inr ⟨.inl k,c,e,?_⟩
   have q:=x.cell y c e
   rw[zAA ndP hp hu (by show scope.names.lookup y≠_;rw[k];decide)]at q
   exact q
 ·exact e0.hok.fresh (qY_ (x.above y c (PySem.mem_of_lookup h)))
 ·unfold dY
  show _=N.length
  rw[qj_,qc_,qe2_]
  omega
theorem zKg{CX:CXT}{P:Program}{w:World}{K:W.Frag}{mg:Str->Option Value}{base:Heap}{k:Nat}{f:Addr}{name qual:Str}{params:Arguments}{body:List Stmt}{scope:Scope}{dV kV doc pm cdv ct oc:Value}{an od:Option Addr}
  {osl:Array (Option Value)} {N ps:List Str} {sp:Sp} (lk:K.lookup f=some ⟨oc,od,.func (W.fnOf name qual params body scope dV kV doc pm an cdv ct),osl⟩) (hcd:W.codeIn K cdv qual=true) (S:bA N ps scope)
  (len:∀vs H Q E,sp vs H Q E->vs.length=ps.length)
  (hbody:∀(A:Around) (outer:List Env) (s:Shared) (H:Hp) (vs:List V) (Q:VK) (E:XK),Room k (A.deeper (envOfC qual scope s.heap.objs.size f cdv))->sp vs H Q E ->
   ∃t,PSs (jU CX P w K mg base N qual scope f cdv A outer s H E) body t/\t {nx:=λ_ H'=>Q .non H',rt:=Q} (dY N vs) H):
  FnOk P w K mg base CX (k+1) f (W.fnOf name qual params body scope dV kV doc pm an cdv ct) ps sp:=by
 refine⟨len,λA outer s H args us vs Q E hr e0 hb r hsp=>?_⟩
 have hl:=len _ _ _ _ hsp
 have KX:K.In s.heap:=e0.mod.kin.keeps λb o e=>(e0.bs b o e).1
 have lim:s.heap.NoLimit:=e0.mod.nolimit.keeps λb o e=>(e0.bs b o e).1
 have hkind:∀y∈ps.zip us,scope.names.lookup y.1=some .local\/(scope.names.lookup y.1=some .cell/\((cellsFrom (s.heap.objs.size+1) scope.names []).lookup y.1).isSome=true):=λ⟨n,v⟩ hy=>by
  rcases S.par n (qX2_ hy).1 with q|q
  ·exact .inl q
  ·exact .inr ⟨q,PySem.W.cellsFrom_some _ _ _ (.inl q)⟩
 refine codeAny_call_function hr.depth (KX _ _ lk) rfl S.co S.gen rfl (PySem.W.codeRec_of KX hcd) (hb _ _ _ _ ?_)
 refine wpAny_newFunctionEnv_cells S.kind hkind λenv he s1 x=>?_
 subst he
 refine⟨lim.keeps x.toInCall.keep,codeAny_func ?_⟩
 obtain⟨t,ht,hq⟩:=hbody A outer s H vs Q E (hr.deeper _) hsp
 have I:Inv (jU CX P w K mg base N qual scope f cdv A outer s H E) [] (dY N vs) H s1:=zE0 S hr.hd e0 hl r x
 refine wpAny_mono (ht [] s1 (dY N vs) H _ I hq) (λfl s' hs=>?_) λe s' hs=>hs
 have fin:∀{σ':St} {H':Hp} {v:V} {u:Value},Inv (jU CX P w K mg base N qual scope f cdv A outer s H E) [] σ' H' s'->RelV v u->Q v H'->CE outer P w H s Q u s':=
  λ{σ' H' v u} J rv q=>⟨v,H',J.os,J.bare,J.base,J.hok,rv,q⟩
 cases fl with
 |ret u=>
  obtain⟨v,σ',H',J,rv,q⟩:=hs
  exact fin J rv q
 |next=>
  obtain⟨σ',H',J,q⟩:=hs
  exact fin (v:=V.non) (u:=Value.none) J rfl q
 |brk=>
  obtain⟨_,_,_,q⟩:=hs
  exact False.elim q
 |cont=>
  obtain⟨_,_,_,q⟩:=hs
  exact False.elim q
end L2
namespace L2
open PySem PySem.Spec PyProof.Rows
section
variable{X:Cx}{x:Str}{p pos:Pos}{e:Expr}{es:List Expr}{t:TA}{id T:String}{r:List V->Hp->VK->Prop}
def tCB(r:List V->Hp->VK->Prop)(t:TA):TE:=λσ H Q=>t σ H λvs H1=>r vs H1 Q
theorem iE(hc:CallR X (.builtin id) r)(hg:Gl X x)(hm:X.mg x=none)(hv:bootBuiltins x=some (.builtin id))(ha:PA X (e::es) t)(hn:x≠"__name__":=by decide)(hdb:(x==("__debug__":Str))=false:=by decide)
  (he:starEach (e::es) X.env=(false,eval e X.env)::starEach es X.env:=by rfl) (hpl:(backTo pos (starEach es X.env)).any (·.1)=false:=by rfl):PE X (.Call (.Name x p) (e::es) [] pos) (tCB r t):=by
 intro pins s σ H Q I h
 refine wpAny_Call_Name_kw (oJ I hg hm hv ?_ hn hdb)
 exact PyProof.Rows.callWith_builtin1 (thn (ha pos pins s σ H _ I h) λus s1 ⟨vs,H1,I1,r1,q1⟩=>hc pins s1 σ H1 vs us Q I1 r1 q1) he hpl
theorem gA(hc:CallR X (.type T) r)(hg:Gl X x)(hm:X.mg x=none)(hv:bootBuiltins x=some (.type T))(ha:PA X (e::es) t)(hn:x≠"__name__":=by decide)(hdb:(x==("__debug__":Str))=false:=by decide)
  (he:starEach (e::es) X.env=(false,eval e X.env)::starEach es X.env:=by rfl) (hpl:(backTo pos (starEach es X.env)).any (·.1)=false:=by rfl):PE X (.Call (.Name x p) (e::es) [] pos) (tCB r t):=by
 intro pins s σ H Q I h
 refine wpAny_Call_Name_kw (oJ I hg hm hv ?_ hn hdb)
 exact PyProof.Rows.callWith_type1 (thn (ha pos pins s σ H _ I h) λus s1 ⟨vs,H1,I1,r1,q1⟩=>hc pins s1 σ H1 vs us Q I1 r1 q1) he hpl
end
end L2
namespace HT
open PySem PyProof.Rows
section
variable{prog:Program}{w:World}{A:Around}{E:Value->Shared->Prop}{s:Shared}
theorem cat_tup{t b:Addr}{vs ws:List Value}{Q:Value->Shared->Prop}(ht:IsTup s.heap t vs.toArray)(hb:IsTup s.heap b ws.toArray)(hv:vs≠[])
  (h1:ws=[]->Q (.ref t) s) (h2:ws≠[]->Q (.ref s.heap.objs.size) {s with heap:=s.heap.push {cls:=.type "tuple",data:=.seq (vs++ws).toArray}})
  (hsz:vs.length+ws.length<=sizeLine):wpAny (model prog w) A (binaryOp .Add (.ref t) (.ref b)) Q E s:=by
 obtain⟨⟨cls,dd,data,sl⟩,ho,hc,n,hd⟩:=id ht
 obtain⟨⟨cls2,dd2,data2,sl2⟩,ho2,hc2,n2,hd2⟩:=id hb
 simp only at hc hd hc2 hd2
 subst hc hd hc2 hd2
 have e:vs.toArray++ws.toArray=(vs++ws).toArray:=by simp
 by_cases hw:ws=[]
 ·exact concat_meets ⟨_,ho,rfl⟩ ⟨_,ho2,rfl⟩ noFill_tuple_add seq_tuple_add PySem.F.slot_tuple_add PySem.F.entry_tuple_add (PySem.F.args_tuple_add_2 _ _)
   (tuple_addW1 t b vs.toArray ws.toArray n n2 dd dd2 sl sl2 (by simpa using hv) (by simp[hw])) ⟨ho,ho2,h1 hw⟩
 ·refine concat_meets ⟨_,ho,rfl⟩ ⟨_,ho2,rfl⟩ noFill_tuple_add seq_tuple_add PySem.F.slot_tuple_add PySem.F.entry_tuple_add (PySem.F.args_tuple_add_2 _ _)
   (tuple_addW2 t b vs.toArray ws.toArray n n2 dd dd2 sl sl2 (by simpa using hv) (by simpa using hw) (by rw[List.size_toArray,List.size_toArray];exact hsz)) ⟨ho,ho2,?_⟩
  rw[e]
  exact h2 hw
def sIx(n d:Nat):Option Int->Nat
 |none=>d
 |some v=>if v<0 then(v+(n:Int)).toNat else min v.toNat n
theorem zId(n d:Nat)(hd:d<=n)(o:Option Int):sIx n d o<=n:=by
 cases o with
 |none=>exact hd
 |some v=>
  show(if v<0 then(v+(n:Int)).toNat else min v.toNat n)<=n
  by_cases hv:v<0
  ·rw[if_pos hv];omega
  ·rw[if_neg hv];exact qZ2_ _ _
theorem zB4(v:Int)(n d:Nat):(if v<0 then max (v+(n:Int)) 0 else min v (n:Int))=((sIx n d (some v):Nat):Int):=by
 show(if v<0 then max (v+(n:Int)) 0 else min v (n:Int))=(((if v<0 then(v+(n:Int)).toNat else min v.toNat n):Nat):Int)
 by_cases hv:v<0
 ·simp only[if_pos hv];omega
 ·simp only[if_neg hv];omega
theorem zEn(lo hi:Option Int)(n:Nat):Builtin.Slice.sliceAdjust lo hi 1 (n:Int)=(((sIx n 0 lo:Nat):Int),((sIx n n hi:Nat):Int)):=by
 have h1:¬ ((1:Int)<0):=by omega
 unfold Builtin.Slice.sliceAdjust
 simp only[h1,if_false]
 refine Prod.ext ?_ ?_
 ·cases lo with
  |none=>rfl
  |some v=>exact zB4 v n 0
 ·cases hi with
  |none=>rfl
  |some v=>exact zB4 v n n
theorem zD2(i j:Nat):Builtin.Slice.slicePlaces (i:Int) (j:Int) 1=j-i:=by
 unfold Builtin.Slice.slicePlaces
 have h1:(1:Int) > 0:=by omega
 simp only[h1,if_true,Int.ediv_one]
 split<;>omega
theorem zF{v:Value}{o:Option Int}{Q:Option Int->Shared->Prop}(p:IsPart v o)(h:Q o s):wpAny (model prog w) A (Builtin.Slice.slicePartIndex v) Q E s:=by
 cases p with
 |none=>exact slicePart_none h
 |int i t=>exact slicePart_int h
theorem sliceApplied_gen{sl:Addr}{vl vu:Value}{lo hi:Option Int}{n:Nat}{Q:Int×Int×Nat->Shared->Prop}(hs:s.heap.IsSliceOf sl vl vu .none)(pl:IsPart vl lo)(pu:IsPart vu hi)
  (h:Q (((sIx n 0 lo:Nat):Int),1,sIx n n hi-sIx n 0 lo) s):wpAny (model prog w) A (Builtin.Slice.sliceApplied (.ref sl) (pure (n:Int))) Q E s:=by
 obtain⟨os,hos,hcs,hds⟩:=id hs
 unfold Builtin.Slice.sliceApplied Builtin.Slice.sliceFields
 refine qa_ (qa_ (wpAny_field hos hds (x:=vl) rfl (qa_ (wpAny_field hos hds (x:=vu) rfl (qa_ (wpAny_field hos hds (x:=.none) rfl (qb_ ?_)))))))
 refine qa_ (slicePart_none ?_)
 show wpAny _ _ (if ((1:Int)==0)=true then _ else _) _ _ s
 rw[if_neg (by decide)]
 refine qa_ (zF pl (qa_ (zF pu (qa_ (qb_ ?_)))))
 show wpAny _ _ (match Builtin.Slice.sliceAdjust lo hi 1 (n:Int) with|(lo,hi)=>pure (lo,(1:Int),Builtin.Slice.slicePlaces lo hi 1)) _ _ s
 rw[zEn lo hi n]
 show wpAny _ _ (pure (((sIx n 0 lo:Nat):Int),(1:Int),Builtin.Slice.slicePlaces ((sIx n 0 lo:Nat):Int) ((sIx n n hi:Nat):Int) 1)) _ _ s
 rw[zD2]
 exact qb_ h
theorem zFO(xs:Array Value)(i k:Nat):((List.range k).filterMap λ(m:Nat)=>xs[((i:Int)+(m:Int)*1).toNat]?).toArray=((xs.toList.drop i).take k).toArray:=by
 have e:(λ(m:Nat)=>xs[((i:Int)+(m:Int)*1).toNat]?)=λm=>xs[i+m]?:=by
  funext m
  have:((i:Int)+(m:Int)*1).toNat=i+m:=by omega
  rw[this]
 rw[e]
 have:=pick_run xs i k
 rw[qo2_]at this
 have e2:((λx=>xs[x]?)∘λx=>i+x)=λm=>xs[i+m]?:=rfl
 rw[e2]at this
 rw[this]
theorem getItem_tuple_cut{t sl:Addr}{items:Array Value}{vl vu:Value}{lo hi:Option Int}{Q:Value->Shared->Prop}(ht:IsTup s.heap t items)(hs:s.heap.IsSliceOf sl vl vu .none)(pl:IsPart vl lo)(pu:IsPart vu hi)
  (hw:¬ (sIx items.size 0 lo=0/\sIx items.size items.size hi=items.size))
  (h:Q (.ref s.heap.objs.size) {s with heap:=s.heap.push {cls:=.type "tuple",data:=.seq ((items.toList.drop (sIx items.size 0 lo)).take (sIx items.size items.size hi-sIx items.size 0 lo)).toArray}})
  (hsz:items.size<=sizeLine):wpAny (model prog w) A (getItem (.ref t) (.ref sl)) Q E s:=by
 have htake:sizeOk (.seq ((items.toList.drop (sIx items.size 0 lo)).take (sIx items.size items.size hi-sIx items.size 0 lo)).toArray):=by
  show((items.toList.drop (sIx items.size 0 lo)).take (sIx items.size items.size hi-sIx items.size 0 lo)).toArray.size<=sizeLine
  rw[qn_,qR_,qf2_,qu_]
  omega
 have hj:sIx items.size items.size hi<=items.size:=zId _ _ (qe_ _) hi
 obtain⟨os,hos,hcs,hds⟩:=id hs
 have hTs:s.TypeIs (.ref sl) "slice":=⟨os,hos,hcs⟩
 unfold getItem
 try with_reducible refine qB_ ?_
 first|refine qa_ (qb_ ?_)|skip
 refine qa_ (wpAny_sequenceKey ht.typeIs (by decide) ?_)
 refine qa_ (wpAny_callSpecial?_slot (name:=Str.ofString "__getitem__") ht.typeIs PyProof.Rows.slot_tuple_getitem
  (qK_ PyProof.Rows.slot_tuple_getitem ht.typeIs entry_tuple_getitem ?_ (args_tuple_getitem _ _)))
 show wpAny _ _ (Builtin.Tuple.tupleItemsOf (.ref t) >>= _) _ _ s
 refine qa_ (tupleItemsOf_ ht ?_)
 refine qa_ (wpAny_typeOf hTs ?_)
 rw[if_pos (by decide)]
 refine qa_ (sliceApplied_gen hs pl pu ?_)
 have hno:¬ ((((sIx items.size 0 lo:Nat):Int)==0&&(1:Int)==1&&(sIx items.size items.size hi-sIx items.size 0 lo)==items.size)=true):=by
  intro q
  rw[qR1_,qR1_]at q
  have q1:((sIx items.size 0 lo:Nat):Int)=0:=eq_of_beq q.1.1
  have q2:sIx items.size items.size hi-sIx items.size 0 lo=items.size:=eq_of_beq q.2
  exact hw ⟨by omega,by omega⟩
 show wpAny _ _ (if (((sIx items.size 0 lo:Nat):Int)==0&&(1:Int)==1&&(sIx items.size items.size hi-sIx items.size 0 lo)==items.size)=true then _ else _) _ _ s
 rw[if_neg hno,zFO]
 first
  |exact qa_ (m:=Builtin.Tuple.tupleExact _) (qS_ (qb_ ⟨_,rfl,qb_ h⟩) htake)
  |exact qa_ (m:=Builtin.Tuple.tupleExact _) (qS_ (qa_ (qb_ (qb_ ⟨_,rfl,qb_ h⟩))) htake)
  |exact qa_ (qa_ (m:=Builtin.Tuple.tupleExact _) (qS_ (qb_ (qb_ ⟨_,rfl,qb_ h⟩)) htake))
  |exact qa_ (qa_ (m:=Builtin.Tuple.tupleExact _) (qS_ (qb_ ⟨_,rfl,qb_ h⟩) htake))
end
end HT
namespace L2
open PySem PySem.Spec PyProof.Rows
abbrev TO:=St->Hp->(Option Int->Hp->Prop)->Prop
def PO(X:Cx)(e:Option Expr)(t:TO):Prop:=
 ∀(pins:List (Addr×Obj)) (s:Shared) (σ:St) (H:Hp) (Q:Option Int->Hp->Prop),Inv X pins σ H s->t σ H Q ->
  wpAny (model X.prog X.w) X.A (evalPart e X.env) (λu s'=>∃o H',Inv X pins σ H' s'/\IsPart u o/\Q o H') X.xe s
def zGK:TO:=λ_ H Q=>Q none H
def zJB(t:TE):TO:=λσ H Q=>t σ H λx H1=>∃i,x=.int i/\Q (some i) H1
theorem pV{ns:List Int}:∀{us:List Value},Vals (ns.map V.int) us->IntsAre us ns:=by
 induction ns with
 |nil=>intro us r;rw[qE2_]at r;cases r;exact .nil
 |cons n ns ih=>
  intro us r
  rw[qA_]at r
  cases r with
  |cons r1 r2=>
   obtain⟨t,e⟩:=r1
   subst e
   exact .cons n t (ih r2)
section
variable{X:Cx}{e:Expr}{te:TE}{lo hi:Option Expr}{tl th:TO}{pos p2:Pos}
theorem zBD:PO X none zGK:=by
 intro pins s σ H Q I h
 rw[evalPart_none]
 exact qb_ ⟨none,H,I,.none,h⟩
theorem zBC(h:PE X e te):PO X (some e) (zJB te):=by
 intro pins s σ H Q I hw
 rw[evalPart_some]
 refine thn (h pins s σ H _ I hw) λu s1 ⟨x,H1,I1,r1,q1⟩=>?_
 obtain⟨i,rfl,q⟩:=q1
 obtain⟨t,rfl⟩:=r1
 exact⟨some i,H1,I1,.int i t,q⟩
def SlR(X:Cx)(r:V->Option Int->Option Int->Hp->VK->Prop):Prop:=
 ∀(pins:List (Addr×Obj)) (s:Shared) (σ:St) (H:Hp) (x:V) (v vl vu:Value) (lo hi:Option Int) (sl:Addr) (Q:VK),Inv X pins σ H s->RelV x v->s.heap.IsSliceOf sl vl vu .none->IsPart vl lo->IsPart vu hi->r x lo hi H Q ->
  ∃T id,typeLookup (.type T) "__getitem__"=pure (some (.builtin id))/\s.TypeIs v T/\wpAny (model X.prog X.w) X.A (getItem v (.ref sl)) (EP X pins σ Q) X.xe s
theorem SlR.or{r r':V->Option Int->Option Int->Hp->VK->Prop}(h:SlR X r)(h':SlR X r'):SlR X (λx lo hi H Q=>r x lo hi H Q\/r' x lo hi H Q):=by
 intro pins s σ H x v vl vu lo hi sl Q I rx hs pl pu q
 rcases q with q|q
 ·exact h pins s σ H x v vl vu lo hi sl Q I rx hs pl pu q
 ·exact h' pins s σ H x v vl vu lo hi sl Q I rx hs pl pu q
def tSl(r:V->Option Int->Option Int->Hp->VK->Prop)(te:TE)(tl th:TO):TE:=λσ H Q=>te σ H λx H1=>tl σ H1 λl H2=>th σ H2 λu H3=>r x l u H3 Q
theorem zAS{r:V->Option Int->Option Int->Hp->VK->Prop}(hr:SlR X r)(he:PE X e te)(hl:PO X lo tl)(hu:PO X hi th):PE X (.Subscript e (.Slice lo hi none p2) pos) (tSl r te tl th):=by
 intro pins s σ H Q I h
 refine Subscript_ (thn (he pins s σ H _ I h) λv s1 ⟨x,H1,I1,r1,q1⟩=>?_)
 refine wpAny_Slice (thn (hl pins s1 σ H1 _ I1 q1) λvl s2 ⟨l,H2,I2,pl,q2⟩=>thn (hu pins s2 σ H2 _ I2 q2) λvu s3 ⟨u,H3,I3,pu,q3⟩=>?_)
 rw[evalPart_none]
 refine qb_ ?_
 have I4:Inv X pins σ H3 {s3 with heap:=s3.heap.push {cls:=.type "slice",data:=.fields #[vl,vu,.none]}}:=I3.kept (t':=s3.toks) λb ob q=>qd_ _ q
 obtain⟨T,id,hT,ht,hg⟩:=hr pins {s3 with heap:=s3.heap.push {cls:=.type "slice",data:=.fields #[vl,vu,.none]}} σ H3 x v vl vu l u s3.heap.objs.size Q I4 r1 (Heap.IsSliceOf.new ..) pl pu q3
 show wpAny (model X.prog X.w) X.A (subscriptTail e (.Slice lo hi none p2) v (.ref s3.heap.objs.size)) (EP X pins σ Q) X.xe {s3 with heap:=s3.heap.push {cls:=.type "slice",data:=.fields #[vl,vu,.none]}}
 exact tail_any (ops:=[.ref s3.heap.objs.size,v]) ht hT hg (by with_unfolding_all rfl)
def fV(xs:List V)(lo hi:Option Int):List V:=(xs.drop (HT.sIx xs.length 0 lo)).take (HT.sIx xs.length xs.length hi-HT.sIx xs.length 0 lo)
theorem yX(xs:List V)(lo hi:Option Int):(fV xs lo hi).length<=xs.length:=by
 unfold fV
 rw[qR_,qf2_]
 omega
def zKK(K:W.Frag):V->Option Int->Option Int->Hp->VK->Prop:=λx lo hi H Q=>∃a xs,x=.ref a/\SqT K H a xs /\
 ¬ (HT.sIx xs.length 0 lo=0/\HT.sIx xs.length xs.length hi=xs.length)/\∀p,H p=none->Q (.ref p) (upd H p (.tup (fV xs lo hi)))
theorem zH6:SlR X (zKK X.K):=by
 intro pins s σ H x v vl vu lo hi sl Q I rx hs pl pu h
 obtain⟨a,xs,rfl,hx,hw,q⟩:=h
 cases rx
 obtain⟨its,r,ht,hz⟩:=I.tuple hx
 have hlen:its.toArray.size=xs.length:=by rw[qn_];exact r.length.symm
 refine⟨"tuple",_,PyProof.Rows.slot_tuple_getitem.lookup,ht.typeIs,?_⟩
 refine HT.getItem_tuple_cut ht hs pl pu (by rw[hlen];exact hw) ?_ (by rw[hlen];exact hz)
 rw[hlen]
 refine⟨.ref s.heap.objs.size,_,I.laid (t':=s.toks) (o:=.tup (fV xs lo hi)) (λb ob q=>qd_ _ q) (qe_ _) ?_,rfl,q _ (I.hok.fresh (qe_ _))⟩
 exact⟨qh_ (yX xs lo hi) hz,_,(r.drop (HT.sIx xs.length 0 lo)).take (HT.sIx xs.length xs.length hi-HT.sIx xs.length 0 lo),IsTup.new _ _⟩
def zJQ(K:W.Frag):R2:=λx y H Q=>∃a b xs ys,x=.ref a/\y=.ref b/\SqT K H a xs/\SqT K H b ys/\xs≠[]/\xs.length+ys.length<=sizeLine /\
 (ys=[]->Q (.ref a) H)/\(ys≠[]->∀p,H p=none->Q (.ref p) (upd H p (.tup (xs++ys))))
theorem Vals.nil_iff{xs:List V}{us:List Value}(r:Vals xs us):us=[]↔xs=[]:=by
 cases r with
 |nil=>simp
 |cons _ _=>simp
theorem zHg:OpR X (binaryOp .Add) (zJQ X.K):=by
 intro pins s σ H x y v u Q I rx ry h
 obtain⟨a,b,xs,ys,rfl,rfl,ha,hb,hx,hz,q1,q2⟩:=h
 cases rx
 cases ry
 obtain⟨its,r1,p1,_⟩:=I.tuple ha
 obtain⟨its2,r2,p2,_⟩:=I.tuple hb
 refine HT.cat_tup p1 p2 (λz=>hx (r1.nil_iff.mp z)) (λz=>⟨.ref a,H,I,rfl,q1 (r2.nil_iff.mp z)⟩) (λz=>?_) (by rw[<-r1.length,<-r2.length];exact hz)
 refine⟨.ref s.heap.objs.size,_,I.laid (t':=s.toks) (o:=.tup (xs++ys)) (λb ob q=>qd_ _ q) (qe_ _) ?_,rfl,q2 (λw=>z (r2.nil_iff.mpr w)) _ (I.hok.fresh (qe_ _))⟩
 exact⟨by rw[qj_];exact hz,_,r1.append r2,IsTup.new _ _⟩
end
end L2
namespace L2
open PySem PySem.Spec PyProof.Rows
def ixN(n:Nat)(i:Int):Option Nat:=if 0<=i then(if i<n then some i.toNat else none) else if -(n:Int)<=i then some (i+n).toNat else none
def atI{α:Type}(xs:List α)(i:Int):Option α:=(ixN xs.length i).bind λj=>xs[j]?
theorem zBS{n:Nat}{i:Int}{j:Nat}(h:ixN n i=some j):seqIndex? i n=some j/\j<n /\ -(n:Int)<=i/\i<n:=by
 unfold ixN at h
 by_cases h0:0<=i
 ·rw[if_pos h0]at h
  by_cases h1:i<n
  ·rw[if_pos h1]at h
   have e:i.toNat=j:=Option.some.inj h
   exact⟨by rw[seqIndex_of h0 h1,e],by omega,by omega,h1⟩
  ·rw[if_neg h1]at h;cases h
 ·rw[if_neg h0]at h
  by_cases h1:-(n:Int)<=i
  ·rw[if_pos h1]at h
   have e:(i+n).toNat=j:=Option.some.inj h
   exact⟨by rw[seqIndex_neg (by omega) h1,e],by omega,h1,by omega⟩
  ·rw[if_neg h1]at h;cases h
theorem wE{α:Type}{xs:List α}{i:Int}{v:α}(h:atI xs i=some v):∃j,seqIndex? i xs.length=some j/\xs[j]?=some v/\j<xs.length /\ -(xs.length:Int)<=i/\i<xs.length:=by
 unfold atI at h
 cases e:ixN xs.length i with
 |none=>rw[e]at h;cases h
 |some j=>
  rw[e]at h
  obtain⟨h1,h2,h3,h4⟩:=zBS e
  exact⟨j,h1,h,h2,h3,h4⟩
theorem bG{α:Type}{xs:List α}{j:Nat}{v:α}(h:xs[j]?=some v):atI xs (j:Int)=some v:=by
 have hj:j<xs.length:=(qx_.mp h).1
 have e:ixN xs.length (j:Int)=some j:=by
  unfold ixN
  rw[if_pos (by omega),if_pos (by omega)];simp
 unfold atI;rw[e];exact h
def rB(b:Expr):Prop:=∀o i,subscripted b false o i=operate [o,i] (getItem o i)
def IxR(X:Cx)(r:R2):Prop:=
 ∀(value slice:Expr) (pins:List (Addr×Obj)) (s:Shared) (σ:St) (H:Hp) (x y:V) (v u:Value) (Q:VK),Inv X pins σ H s->RelV x v->RelV y u->r x y H Q ->
  subscripted slice false v u=operate [v,u] (getItem v u)->wpAny (model X.prog X.w) X.A (subscriptTail value slice v u) (EP X pins σ Q) X.xe s
def MtR(X:Cx)(id:String)(r:V->List V->Hp->VK->Prop):Prop:=
 ∀(pins:List (Addr×Obj)) (s:Shared) (σ:St) (H:Hp) (x:V) (xs:List V) (v:Value) (us:List Value) (Q:VK),Inv X pins σ H s->RelV x v->Vals xs us->r x xs H Q ->
  wpAny (model X.prog X.w) X.A (call (.builtin id) (v::us)) (EP X pins σ Q) X.xe s
section
variable{X:Cx}{a b:Expr}{ta tb:TE}{pos:Pos}
theorem IxR.or{r r':R2}(h:IxR X r)(h':IxR X r'):IxR X (λx y H Q=>r x y H Q\/r' x y H Q):=by
 intro value slice pins s σ H x y v u Q I rx ry q hs
 rcases q with q|q
 ·exact h value slice pins s σ H x y v u Q I rx ry q hs
 ·exact h' value slice pins s σ H x y v u Q I rx ry q hs
theorem iX{r:R2}(hr:IxR X r)(ha:PE X a ta)(hb:PE X b tb)(hs:rB b):PE X (.Subscript a b pos) (tOp r ta tb):=by
 intro pins s σ H Q I h
 exact Subscript_ (xY ha hb I h λv u s2 x y H2 I2 rx ry q=>hr a b pins s2 σ H2 x y v u Q I2 rx ry q (hs _ _))
def zCY(K:W.Frag):R2:=λx y H Q=>∃p xs i v,x=.ref p/\y=.int i/\SqL K H p xs/\atI xs i=some v/\Q v H
def zCW(K:W.Frag):R2:=λx y H Q=>∃p xs i v,x=.ref p/\y=.int i/\SqT K H p xs/\atI xs i=some v/\Q v H
def zCX:R2:=λx y H Q=>∃z i c,x=.str z/\y=.int i/\z.length<=sizeLine/\atI z.cps.toList i=some c/\Q (.str ⟨#[c]⟩) H
theorem ix_list:IxR X (zCY X.K):=by
 intro value slice pins s σ H x y v u Q I rx ry h hs
 obtain⟨p,xs,i,z,rfl,rfl,hq,he,q⟩:=h
 cases rx
 obtain⟨t,rfl⟩:=ry
 obtain⟨its,r,pl,hz⟩:=I.list hq
 obtain⟨j,h1,h2,h3,h4,h5⟩:=wE he
 obtain⟨w,ew,rw'⟩:=r.get h2
 have hl:=r.length
 have hn:=lZ
 have fin:EP X pins σ Q w s:=⟨z,H,I,rw',q⟩
 by_cases h0:0<=i
 ·have hj:i.toNat=j:=by
   rw[seqIndex_of h0 h5]at h1
   exact Option.some.inj h1
  exact item_listR pl.isList h0 (by omega) (by rw[hj];simpa using ew) fin hs
 ·have hj:(i+(its.toArray.size:Int)).toNat=j:=by
   rw[seqIndex_neg (by omega) h4]at h1
   rw[qn_,<-hl]
   exact Option.some.inj h1
  exact subscriptTail_builtinR (x:=w) pl.isList.typeIs slot_list_getitem.lookup
   (wpAny_getItem_list_neg (Q:=λr s'=>r=w/\EP X pins σ Q r s') pl.isList (by omega) (by rw[qn_]<;>omega) (by omega) (by rw[hj];simpa using ew) ⟨rfl,fin⟩) hs
theorem ix_tup:IxR X (zCW X.K):=by
 intro value slice pins s σ H x y v u Q I rx ry h hs
 obtain⟨p,xs,i,z,rfl,rfl,hq,he,q⟩:=h
 cases rx
 obtain⟨t,rfl⟩:=ry
 obtain⟨its,r,pl,hz⟩:=I.tuple hq
 obtain⟨j,h1,h2,h3,h4,h5⟩:=wE he
 obtain⟨w,ew,rw'⟩:=r.get h2
 have hl:=r.length
 have hn:=lZ
 have fin:EP X pins σ Q w s:=⟨z,H,I,rw',q⟩
 exact subscriptTail_builtinR (x:=w) pl.typeIs slot_tuple_getitem.lookup
  (getItem_tuple (j:=j) (Q:=λr s'=>r=w/\EP X pins σ Q r s') pl (by omega) (by omega) (by rw[qn_,<-hl];exact h1) (by simpa using ew) ⟨rfl,fin⟩) hs
theorem zI8:IxR X zCX:=by
 intro value slice pins s σ H x y v u Q I rx ry h hs
 obtain⟨z,i,c,rfl,rfl,hz,he,q⟩:=h
 obtain⟨t,rfl⟩:=rx
 obtain⟨t',rfl⟩:=ry
 obtain⟨j,h1,h2,h3,h4,h5⟩:=wE he
 have hl:z.cps.toList.length=z.length:=by simp[Str.length]
 rw[hl]at h1 h4 h5
 have hn:=lZ
 exact tail_any (typeIs_str s z t) slot_str_getitem.lookup (getItem_str (c:=c) (by
  have e1:decide (i < -(2 ^ 63:Int))=false:=qF_ (by omega)
  have e2:decide (i>=2 ^ 63)=false:=qF_ (by omega)
  rw[e1,e2,qp2_]) (by rw[h1];simpa using h2) ⟨.str ⟨#[c]⟩,H,I.tok _,⟨_,rfl⟩,q⟩) hs
def rIx(K:W.Frag):R2:=λx y H Q=>zCY K x y H Q\/zCW K x y H Q\/zCX x y H Q
theorem ix_seq:IxR X (rIx X.K):=ix_list.or (ix_tup.or zI8)
theorem zD9(its:List Value)(n j:Nat)(u:Value):Obj.mapSeq (·.setIfInBounds j u) {cls:=.type "list",data:=.seq its.toArray n}={cls:=.type "list",data:=.seq (its.set j u).toArray n}:=by
 simp[Obj.mapSeq]
theorem Inv.lst{pins:List (Addr×Obj)}{σ:St}{H:Hp}{s:Shared}{p:Addr}{xs:List V}(I:Inv X pins σ H s)(h:H p=some (.lst xs)):
  ∃(its:List Value) (n:Nat),Vals xs its/\s.heap.get? p=some {cls:=.type "list",data:=.seq its.toArray n}/\xs.length<=sizeLine:=by
 obtain⟨z,its,n,r,e⟩:=I.hok p _ h
 exact⟨its,n,r,e,z⟩
theorem Inv.lstUpd{pins:List (Addr×Obj)}{σ:St}{H:Hp}{s:Shared}{p:Addr}{xs ys:List V}{its its':List Value}{n n':Nat}{f:Obj->Obj}(I:Inv X pins σ H s)(h:H p=some (.lst xs))
  (ho:s.heap.get? p=some {cls:=.type "list",data:=.seq its.toArray n}) (hf:f {cls:=.type "list",data:=.seq its.toArray n}={cls:=.type "list",data:=.seq its'.toArray n'}) (r:Vals ys its') (hz:ys.length<=sizeLine) (t:Nat):
  Inv X pins σ (upd H p (.lst ys)) {s with heap:=s.heap.update p f,toks:=t}:=by
 have e:(s.heap.update p f).get? p=some {cls:=.type "list",data:=.seq its'.toArray n'}:=by
  rw[qU_ f ho (by rw[hf]<;>rfl),hf]
 refine I.write (x:=p) (e:=p) (by rw[h];trivial) (.inl rfl) (λb u hb q=>(qJ1_ _ _ (Ne.symm hb)).trans q) ⟨_,e⟩ ?_
 exact⟨hz,its',n',r,e⟩
def zJJ:V->V->V->Hp->(Hp->Prop)->Prop:=λo i v H Q=>∃p xs k j,o=.ref p/\i=.int k/\H p=some (.lst xs)/\ixN xs.length k=some j/\Q (upd H p (.lst (xs.set j v)))
theorem zFE:zDk X zJJ:=by
 intro pins s σ H o i v ov iv u Q I ro ri rv h
 obtain⟨p,xs,k,j,rfl,rfl,hp,hj,q⟩:=h
 cases ro
 obtain⟨t,rfl⟩:=ri
 obtain⟨its,n,r,ho,hz⟩:=I.lst hp
 obtain⟨h1,h2,h3,h4⟩:=zBS hj
 have hl:=r.length
 have hn:=lZ
 have I':Inv X pins σ (upd H p (.lst (xs.set j v))) {s with heap:=s.heap.update p (Obj.mapSeq (·.setIfInBounds j u))}:=
  I.lstUpd hp ho (zD9 its n j u) (r.set rv j) (by rw[qv1_];exact hz) s.toks
 by_cases h0:0<=k
 ·have hk:k.toNat=j:=by
   rw[seqIndex_of h0 h4]at h1
   exact Option.some.inj h1
  exact PySem.W.ki_setAt ho h0 (by omega) (by rw[qn_,<-hl];exact h4) (by rw[hk];exact⟨_,I',q⟩)
 ·have hk:(k+(its.toArray.size:Int)).toNat=j:=by
   rw[seqIndex_neg (by omega) h3]at h1
   rw[qn_,<-hl]
   exact Option.some.inj h1
  exact PySem.W.ki_setBack ho (by omega) (by rw[qn_,<-hl];exact h3) (by omega) (by rw[hk];exact⟨_,I',q⟩)
theorem zDz(lo hi:Option Int)(n:Nat):(sliceBounds lo hi none n).1=((HT.sIx n 0 lo:Nat):Int)/\(sliceBounds lo hi none n).2.1=((HT.sIx n n hi:Nat):Int)/\(sliceBounds lo hi none n).2.2=1:=by
 refine⟨?_,?_,rfl⟩
 ·cases lo with
  |none=>simp[sliceBounds,HT.sIx]
  |some i=>
   simp only[sliceBounds,HT.sIx,Option.getD_none,show(1:Int) > 0 by decide,if_true]
   by_cases h:i<0
   ·simp only[h,if_true]<;>omega
   ·simp only[h,if_false]<;>omega
 ·cases hi with
  |none=>simp[sliceBounds,HT.sIx]
  |some i=>
   simp only[sliceBounds,HT.sIx,Option.getD_none,show(1:Int) > 0 by decide,if_true]
   by_cases h:i<0
   ·simp only[h,if_true]<;>omega
   ·simp only[h,if_false]<;>omega
theorem zDs(its:List Value)(lo hi:Option Int):slicePick its.toArray lo hi none=((its.drop (HT.sIx its.length 0 lo)).take (HT.sIx its.length its.length hi-HT.sIx its.length 0 lo)).toArray:=by
 obtain⟨h1,h2,h3⟩:=zDz lo hi its.toArray.size
 unfold slicePick
 rw[h1,h2,h3]
 simp only[sliceRange_one,pick_run,List.size_toArray]<;>rfl
def zKM(K:W.Frag):V->Option Int->Option Int->Hp->VK->Prop:=λx lo hi H Q=>∃a xs,x=.ref a/\SqL K H a xs/\∀p,H p=none->Q (.ref p) (upd H p (.lst (fV xs lo hi)))
theorem sl_list:SlR X (zKM X.K):=by
 intro pins s σ H x v vl vu lo hi sl Q I rx hs pl pu h
 obtain⟨a,xs,rfl,hx,q⟩:=h
 cases rx
 obtain⟨its,r,ht,hz⟩:=I.list hx
 have hlen:=r.length
 refine⟨"list",_,slot_list_getitem.lookup,ht.isList.typeIs,?_⟩
 refine wpAny_getItem_list_slice ht.isList hs pl pu .none (by simp) ?_ (by rw[List.size_toArray]<;>omega)
 rw[zDs,<-hlen]
 refine⟨.ref s.heap.objs.size,_,I.laid (t':=s.toks) (o:=.lst (fV xs lo hi)) (λb ob q=>qd_ _ q) (qe_ _) ?_,rfl,q _ (I.hok.fresh (qe_ _))⟩
 exact⟨qh_ (yX xs lo hi) hz,_,0,(r.drop (HT.sIx xs.length 0 lo)).take (HT.sIx xs.length xs.length hi-HT.sIx xs.length 0 lo),qi_ _ rfl⟩
def dI:V->Bool
 |.non=>true
 |.bl _=>true
 |.int _=>true
 |.str _=>true
 |_=>false
def eqV:V->V->Bool
 |.non,.non=>true
 |.bl a,.bl b=>a==b
 |.bl a,.int b=>(if a then 1 else 0)==b
 |.int a,.bl b=>a==(if b then 1 else 0)
 |.int a,.int b=>a==b
 |.str a,.str b=>a==b
 |_,_=>false
theorem zCw{A:Around}{s:Shared}{y x:V}{u v:Value}(ry:RelV y u)(rx:RelV x v)(fy:dI y=true)(fx:dI x=true):SeqAt.EqAt A s u v (eqV y x):=by
 cases y with
 |non=>
  cases ry
  cases x with
  |non=>cases rx;exact SeqAt.EqAt.same _
  |bl b=>cases rx;exact SeqAt.EqAt.none_bool b
  |int b=>obtain⟨t,rfl⟩:=rx;exact SeqAt.EqAt.none_int b t
  |str b=>obtain⟨t,rfl⟩:=rx;exact SeqAt.EqAt.none_str b t
  |_=>exact absurd (show false=true from fx) ql_
 |bl a=>
  cases ry
  cases x with
  |non=>cases rx;exact SeqAt.EqAt.bool_none a
  |bl b=>cases rx;exact SeqAt.EqAt.bool_bool a b
  |int b=>obtain⟨t,rfl⟩:=rx;exact SeqAt.EqAt.bool_int a b t
  |str b=>obtain⟨t,rfl⟩:=rx;exact SeqAt.EqAt.bool_str a b t
  |_=>exact absurd (show false=true from fx) ql_
 |int a=>
  obtain⟨t',rfl⟩:=ry
  cases x with
  |non=>cases rx;exact SeqAt.EqAt.int_none a t'
  |bl b=>cases rx;exact SeqAt.EqAt.int_bool a t' b
  |int b=>obtain⟨t,rfl⟩:=rx;exact SeqAt.EqAt.int_int a t' b t
  |str b=>obtain⟨t,rfl⟩:=rx;exact SeqAt.EqAt.int_str a t' b t
  |_=>exact absurd (show false=true from fx) ql_
 |str a=>
  obtain⟨t',rfl⟩:=ry
  cases x with
  |non=>cases rx;exact SeqAt.EqAt.str_none a t'
  |bl b=>cases rx;exact SeqAt.EqAt.str_bool a t' b
  |int b=>obtain⟨t,rfl⟩:=rx;exact SeqAt.EqAt.str_int a t' b t
  |str b=>obtain⟨t,rfl⟩:=rx;exact SeqAt.EqAt.str_str a t' b t
  |_=>exact absurd (show false=true from fx) ql_
 |_=>exact absurd (show false=true from fy) ql_
theorem op_notIn_str:OpR X (compareOp .NotIn) (λx y H Q=>∃i j,x=.str i/\y=.str j/\Q (.bl (!(!(Builtin.Str.occurrences j i 0 j.length 1).isEmpty))) H):=by
 intro pins s σ H x y v u Q I rx ry h
 obtain⟨i,j,rfl,rfl,q⟩:=h
 obtain⟨t,rfl⟩:=rx
 obtain⟨t',rfl⟩:=ry
 exact notIn_str ⟨.bl _,H,I,rfl,q⟩
theorem call_len_seq:CallR X (.builtin "len") (λxs H Q=>∃p ys,xs=[.ref p]/\(SqL X.K H p ys\/SqT X.K H p ys)/\Q (.int ys.length) H):=by
 intro pins s σ H xs us Q I r h
 obtain⟨p,ys,rfl,hq,q⟩:=h
 obtain⟨u,rfl,rx⟩:=cQ r
 cases rx
 have hn:=lZ
 rcases hq with hq|hq
 ·obtain⟨its,r',pl,hz⟩:=I.list hq
  have hlen:=r'.length
  exact Calls.call_len_list pl.isList (by simp only[List.size_toArray]<;>omega) ⟨.int ys.length,H,I.tok _,⟨s.toks+1,by rw[qn_,hlen]⟩,q⟩
 ·obtain⟨its,r',pl,hz⟩:=I.tuple hq
  have hlen:=r'.length
  exact len_tuple pl (by simp only[List.size_toArray]<;>omega) ⟨.int ys.length,H,I.tok _,⟨s.toks+1,by rw[qn_,hlen]⟩,q⟩
theorem call_len_str:CallR X (.builtin "len") (λxs H Q=>∃z,xs=[.str z]/\z.length<=sizeLine/\Q (.int z.length) H):=by
 intro pins s σ H xs us Q I r h
 obtain⟨z,rfl,hz,q⟩:=h
 obtain⟨u,rfl,t,rfl⟩:=cQ r
 have hn:=lZ
 exact len_str (by omega) ⟨.int z.length,H,I.tok _,⟨_,rfl⟩,q⟩
theorem CallR.or{f:Value}{r r':List V->Hp->VK->Prop}(h:CallR X f r)(h':CallR X f r'):CallR X f (λxs H Q=>r xs H Q\/r' xs H Q):=by
 intro pins s σ H xs us Q I rs q
 rcases q with q|q
 ·exact h pins s σ H xs us Q I rs q
 ·exact h' pins s σ H xs us Q I rs q
theorem yR:CallR X (.type "list") (λxs H Q=>∃p ys,xs=[.ref p]/\(SqL X.K H p ys\/SqT X.K H p ys)/\∀l,H l=none->Q (.ref l) (upd H l (.lst ys))):=by
 intro pins s σ H xs us Q I r h
 obtain⟨p,ys,rfl,hq,q⟩:=h
 obtain⟨u,rfl,rx⟩:=cQ r
 cases rx
 have fin:∀(its:List Value),Vals ys its->ys.length<=sizeLine->∀(h':Heap) (c':Nat),(∀b o',s.heap.get? b=some o'->h'.get? b=some o') ->
   h'.get? s.heap.objs.size=some {cls:=.type "list",dict:=none,data:=.seq its.toArray c',slots:=#[]}->EP X pins σ Q (.ref s.heap.objs.size) {s with heap:=h'}:=λits r' hz h' c' kp e=>
  ⟨.ref s.heap.objs.size,_,I.laid (t':=s.toks) kp (qe_ _) (show ObjOk X.prog X.w _ h' _ (.lst ys) from ⟨hz,its,c',r',e⟩),rfl,q _ (I.hok.fresh (qe_ _))⟩
 rcases hq with hq|hq
 ·obtain⟨its,r',pl,hz⟩:=I.list hq
  have hlen:=r'.length
  obtain⟨o,ho,hc,n,hd⟩:=pl.isList
  exact call_list_seq p (.inl rfl) ho hc hd (λh' c' kp e=>fin its r' hz h' c' kp e) (by simp only[List.size_toArray]<;>omega)
 ·obtain⟨its,r',pl,hz⟩:=I.tuple hq
  have hlen:=r'.length
  obtain⟨o,ho,hc,n,hd⟩:=pl
  exact call_list_seq p (.inr rfl) ho hc hd (λh' c' kp e=>fin its r' hz h' c' kp e) (by simp only[List.size_toArray]<;>omega)
theorem zDw:CallR X (.type "tuple") (λxs H Q=>∃p ys,xs=[.ref p]/\((SqL X.K H p ys/\∀l,H l=none->Q (.ref l) (upd H l (.tup ys)))\/(SqT X.K H p ys/\Q (.ref p) H))):=by
 intro pins s σ H xs us Q I r h
 obtain⟨p,ys,rfl,h⟩:=h
 obtain⟨u,rfl,rx⟩:=cQ r
 cases rx
 rcases h with⟨hq,q⟩|⟨hq,q⟩
 ·obtain⟨its,r',pl,hz⟩:=I.list hq
  have hlen:=r'.length
  refine call_tuple_list pl.isList (λh' kp=>?_) (by simp only[List.size_toArray]<;>omega)
  have I1:Inv X pins σ H {s with heap:=h'}:=I.kept (t':=s.toks) kp
  have I2:Inv X pins σ (upd H h'.objs.size (.tup ys)) {s with heap:=h'.push {cls:=.type "tuple",data:=.seq its.toArray}}:=
   I1.laid (t':=s.toks) (λb o e=>qd_ _ e) (qe_ _) (show ObjOk X.prog X.w _ _ _ (.tup ys) from ⟨hz,its,r',IsTup.new _ _⟩)
  exact⟨.ref h'.objs.size,_,I2,rfl,q _ (I1.hok.fresh (qe_ _))⟩
 ·obtain⟨its,r',pl,hz⟩:=I.tuple hq
  exact call_tuple_same pl ⟨.ref p,H,I,rfl,q⟩
def tyV(K:W.Frag)(T:String)(x:V)(H:Hp):Prop:=match x with
 |.str _=>T="str"
 |.int _=>T="int"
 |.ref p=>(T="list"/\∃xs,SqL K H p xs)\/(T="tuple"/\∃o,K.lookup p=some o/\o.cls=.type "tuple"/\o.dict=none) \/
   (T="dict"/\((∃kvs,H p=some (.dK kvs))\/∃kvs,H p=some (.dT kvs)))\/(T="set"/\∃S n,H p=some (.set S n))
 |_=>False
theorem zCa{pins:List (Addr×Obj)}{σ:St}{H:Hp}{s:Shared}{T:String}{x:V}{v:Value}(I:Inv X pins σ H s)(r:RelV x v)(ty:tyV X.K T x H):
  s.TypeIs v T/\∀a,v=.ref a->∃ob,s.heap.get? a=some ob/\ob.dict=none:=by
 cases x with
 |str z=>
  obtain⟨t,rfl⟩:=r
  cases (show T="str" from ty)
  exact⟨typeIs_str s z t,λ_ e=>nomatch e⟩
 |int i=>
  obtain⟨t,rfl⟩:=r
  cases (show T="int" from ty)
  exact⟨typeIs_int s i t,λ_ e=>nomatch e⟩
 |ref p=>
  cases r
  rcases ty with⟨rfl,xs,hq⟩|⟨rfl,o,hk,hc,hd⟩|⟨rfl,hk⟩|⟨rfl,S,n,hk⟩
  ·obtain⟨its,_,pl,_⟩:=I.list hq
   refine⟨pl.isList.typeIs,λa e=>?_⟩
   cases e
   obtain⟨o,n,e,c,hd,_⟩:=pl
   exact⟨o,e,hd⟩
  ·refine⟨⟨o,I.kIn p o hk,hc⟩,λa e=>?_⟩
   cases e
   exact⟨o,I.kIn _ o hk,hd⟩
  ·have z:∃o,s.heap.get? p=some o/\o.ExactDict:=by
    rcases hk with⟨kvs,hk⟩|⟨kvs,hk⟩
    ·obtain⟨_,_,_,_,o,_,_,e,ex,_⟩:=I.hok p _ hk
     exact⟨o,e,ex⟩
    ·obtain⟨_,_,_,_,o,_,_,e,ex,_⟩:=I.hok p _ hk
     exact⟨o,e,ex⟩
   obtain⟨o,e,ex⟩:=z
   refine⟨⟨o,e,ex.1⟩,λa e2=>?_⟩
   cases e2
   exact⟨o,e,ex.2.1⟩
  ·obtain⟨o,_,_,_,e,ex,_⟩:=I.hok p _ hk
   refine⟨⟨o,e,ex.1⟩,λa e2=>?_⟩
   cases e2
   exact⟨o,e,ex.2.1⟩
 |_=>exact False.elim ty
def zKF(K:W.Frag)(T:String)(r:V->List V->Hp->VK->Prop)(to:TE):TE:=λσ H Q=>to σ H λx H1=>tyV K T x H1/\r x [] H1 Q
def tBM(K:W.Frag)(T:String)(r:V->List V->Hp->VK->Prop)(to:TE)(t:TA):TE:=λσ H Q=>to σ H λx H1=>tyV K T x H1/\t σ H1 λxs H2=>r x xs H2 Q
variable{o e:Expr}{es:List Expr}{to:TE}{t:TA}{name:Str}{apos cpos:Pos}{T id:String}{r:V->List V->Hp->VK->Prop}
theorem zIJ(pa:PlainAttrs T)(slot:Slot T name id)(hty:typeOf (.builtin id)=pure (.type "method_descriptor"))(hm:MtR X id r)(ho:PE X o to)
  (hbase:attributeBase o name X.env (eval o X.env)=eval o X.env:=by rfl) (hline:(apos.endLine==cpos.line)=true:=by rfl):PE X (.Call (.Attribute o name apos) [] [] cpos) (zKF X.K T r to):=by
 intro pins s σ H Q I h
 refine wpAny_Call_method0_late hbase hline (thn (ho pins s σ H _ I h) λv s1 ⟨x,H1,I1,r1,ty,q1⟩=>?_)
 obtain⟨h1,h2⟩:=zCa I1 r1 ty
 exact⟨T,id,pa,slot,hty,h1,h2,Calls.callWith_builtin rfl (PySem.evalArgs_none (hm pins s1 σ H1 x [] v [] Q I1 r1 .nil q1))⟩
theorem oP(pa:PlainAttrs T)(slot:Slot T name id)(hty:typeOf (.builtin id)=pure (.type "method_descriptor"))(hm:MtR X id r)(ho:PE X o to)(ha:PA X (e::es) t)
  (hbase:attributeBase o name X.env (eval o X.env)=eval o X.env:=by rfl)
  (hfew:((backTo cpos (starEach (e::es) X.env)).all (λx=>!x.1)&&(backToKw cpos (keywordEach [] X.env)).all (λx=>x.1.isSome)
   && decide ((e::es).length+([]:List Keyword).length+(if ([]:List Keyword).isEmpty then 0 else 1)<30))=true:=by rfl)
  (hline:(apos.endLine==cpos.line)=true:=by rfl) (hs:starEach (e::es) X.env=(false,eval e X.env)::starEach es X.env:=by rfl) (hplain:(backTo cpos (starEach es X.env)).any (·.1)=false:=by rfl):
  PE X (.Call (.Attribute o name apos) (e::es) [] cpos) (tBM X.K T r to t):=by
 intro pins s σ H Q I h
 refine wpAny_Call_method_late hbase hfew hline rfl (thn (ho pins s σ H _ I h) λv s1 ⟨x,H1,I1,r1,ty,q1⟩=>?_)
 obtain⟨h1,h2⟩:=zCa I1 r1 ty
 refine⟨T,id,pa,slot,hty,h1,h2,?_⟩
 have hA:=ha cpos pins s1 σ H1 _ I1 q1
 rw[hs]at hA ⊢
 refine Calls.callWith_builtin (by show(false || (backTo cpos (starEach es X.env)).any (·.1))=false;rw[hplain]<;>rfl) (Calls.evalArgs_plain ?_)
 exact thn hA λus s2 ⟨vs,H2,I2,r2,q2⟩=>hm pins s2 σ H2 x vs v us Q I2 r1 r2 q2
end
end L2
namespace L2
open PySem PySem.Spec PyProof.Rows
def MtM(X:Cx)(id:String)(r:V->List V->Hp->VK->Prop):Prop:=
 ∀(pins:List (Addr×Obj)) (s:Shared) (σ:St) (H:Hp) (x:V) (xs:List V) (v:Value) (us:List Value) (Q:VK),Inv X pins σ H s->RelV x v->Vals xs us->r x xs H Q ->
  wpAny (model X.prog X.w) X.A (call (.builtin id) (v::us)) (EP X pins σ Q) X.xe s
theorem Vals.one:∀{x:V}{us:List Value},Vals [x] us->∃u,us=[u]/\RelV x u
 |_,_,.cons r .nil=>⟨_,rfl,r⟩
theorem Vals.zero:∀{us:List Value},Vals [] us->us=[]
 |_,.nil=>rfl
theorem Vals.dropLast{xs:List V}{us:List Value}(h:Vals xs us):Vals xs.dropLast us.dropLast:=by
 induction h with
 |nil=>exact .nil
 |cons r t ih=>
  cases t with
  |nil=>exact .nil
  |cons q t'=>exact .cons r ih
theorem Vals.eraseIdx:∀{xs:List V}{us:List Value}(i:Nat),Vals xs us->Vals (xs.eraseIdx i) (us.eraseIdx i)
 |_,_,_,.nil=>.nil
 |_,_,0,.cons _ t=>t
 |_,_,i+1,.cons r t=>.cons r (Vals.eraseIdx i t)
theorem Vals.reverse{xs:List V}{us:List Value}(h:Vals xs us):Vals xs.reverse us.reverse:=by
 induction h with
 |nil=>exact .nil
 |cons r t ih=>rw[qa3_,qa3_];exact Vals.append ih (.cons r .nil)
theorem Vals.rep{xs:List V}{us:List Value}(h:Vals xs us):∀k:Nat,Vals (List.replicate k xs).flatten (List.replicate k us).flatten
 |0=>.nil
 |k+1=>by
  rw[qn1_,qn1_,qo1_,qo1_]
  exact Vals.append h (Vals.rep h k)
theorem zEb{α:Type}(l:List α):l.eraseIdx (l.length-1)=l.dropLast:=by
 induction l with
 |nil=>rfl
 |cons a r ih=>
  cases r with
  |nil=>rfl
  |cons b r=>
   have e:(a::b::r).length-1=((b::r).length-1)+1:=by
    have h1:(a::b::r).length=r.length+2:=rfl
    have h2:(b::r).length=r.length+1:=rfl
    omega
   rw[e,List.eraseIdx_cons_succ,ih]
   all_goals rfl
theorem zAn{α:Type}:∀(l:List α) (i:Nat),(l.eraseIdx i).length<=l.length
 |[],_=>qe_ _
 |_::_,0=>qp1_ _
 |_::r,i+1=>Nat.succ_le_succ (zAn r i)
theorem zAt(its:List Value):∀(k:Nat) (acc:List Value),
  List.foldl (λx1 x2=>x1++x2) acc.toArray (List.replicate k its.toArray)=(acc++(List.replicate k its).flatten).toArray
 |0,acc=>by simp
 |k+1,acc=>by
  have e:acc.toArray++its.toArray=(acc++its).toArray:=by simp
  have e2:(acc++its)++(List.replicate k its).flatten=acc++(List.replicate (k+1) its).flatten:=by
   rw[qn1_,qo1_,qK1_]
  rw[<-e2,<-zAt its k (acc++its),<-e,qn1_,qw1_]
section
variable{X:Cx}{pins:List (Addr×Obj)}{σ:St}{H:Hp}{s:Shared}{l b:Addr}{xs ys zs:List V}
theorem Inv.lset{its its':List Value}{n:Nat}{f:Array Value->Array Value}{t':Nat}(I:Inv X pins σ H s)(hH:H l=some (.lst xs))
  (e:s.heap.get? l=some {cls:=.type "list",data:=.seq its.toArray n}) (hf:f its.toArray=its'.toArray) (hv:Vals ys its') (hz:ys.length<=sizeLine):
  Inv X pins σ (upd H l (.lst ys)) {s with heap:=s.heap.update l (Obj.mapSeq f),toks:=t'}:=by
 have q:=PySem.IsL.update e f
 rw[hf]at q
 refine I.write (x:=l) (e:=l) (by rw[hH];exact trivial) (.inl rfl) (λb' u hb hu=>(qJ1_ s.heap (Obj.mapSeq f) (Ne.symm hb)).trans hu) ⟨_,q⟩ ?_
 exact⟨hz,its',_,hv,q⟩
theorem Inv.lnew{its:List Value}{t':Nat}(I:Inv X pins σ H s)(hv:Vals ys its)(hz:ys.length<=sizeLine):
  Inv X pins σ (upd H s.heap.objs.size (.lst ys)) {s with heap:=s.heap.push {cls:=.type "list",data:=.seq its.toArray},toks:=t'}:=
 I.laid (λ_ _ q=>qd_ _ q) (qe_ _) ⟨hz,its,0,hv,qi_ _ rfl⟩
theorem Inv.fresh(I:Inv X pins σ H s):H s.heap.objs.size=none:=I.hok.fresh (qe_ _)
theorem Inv.lstM(I:Inv X pins σ H s)(hH:H l=some (.lst xs)):xs.length<=sizeLine/\∃(its:List Value) (n:Nat),Vals xs its/\xs.length=its.length/\s.heap.get? l=some {cls:=.type "list",data:=.seq its.toArray n}:=by
 obtain⟨z,its,n,r,e⟩:=I.hok l _ hH
 exact⟨z,its,n,r,r.length,e⟩
theorem zAW{n:Nat}(h:n<=sizeLine):Builtin.List.listTooLong n=false:=by
 unfold Builtin.List.listTooLong
 exact qF_ (by omega)
end
section
variable{X:Cx}
def zGV:V->List V->Hp->VK->Prop:=λx vs H Q=>∃l xs y,x=.ref l/\vs=[y]/\H l=some (.lst xs)/\xs.length<sizeLine/\Q .non (upd H l (.lst (xs++[y])))
theorem uG:MtM X "list.append" zGV:=by
 intro pins s σ H x vs v us Q I rx rv h
 obtain⟨l,xs,y,rfl,rfl,hH,hz,q⟩:=h
 cases rx
 obtain⟨u,rfl,ru⟩:=rv.one
 obtain⟨z,its,n,r,hl,e⟩:=I.lstM hH
 refine call_meets F.slot_list_append ⟨_,e,rfl⟩ F.entry_list_append (F.args_list_append_2 _ _) (PySem.list_append l its.toArray n u (by rw[qn_];omega)) ⟨e,?_⟩
 refine⟨.non,_,I.lset (its':=its++[u]) hH e (by simp) (r.append (.cons ru .nil)) ?_,rfl,q⟩
 rw[qj_,qL1_]
 omega
def zKN:V->List V->Hp->VK->Prop:=λx vs H Q=>∃l xs y,x=.ref l/\vs=[]/\H l=some (.lst xs)/\xs[xs.length-1]?=some y/\Q y (upd H l (.lst xs.dropLast))
theorem zIY:MtM X "list.pop" zKN:=by
 intro pins s σ H x vs v us Q I rx rv h
 obtain⟨l,xs,y,rfl,rfl,hH,hy,q⟩:=h
 cases rx
 have hus:=rv.zero
 subst hus
 obtain⟨z,its,n,r,hl,e⟩:=I.lstM hH
 obtain⟨u,hu,ru⟩:=r.get hy
 have hy':its.toArray[its.toArray.size-1]?=some u:=by
  show its.toArray[its.length-1]?=some u
  rw[<-qr_,<-hl]
  exact hu
 refine call_meets F.slot_list_pop ⟨_,e,rfl⟩ F.entry_list_pop (F.args_list_pop_1 _) (MeetsSeq.list_pop_last l its.toArray n u hy' (by rw[qn_];omega)) ⟨e,?_⟩
 refine⟨y,_,I.lset (its':=its.dropLast) hH e ?_ r.dropLast ?_,ru,q⟩
 ·show its.toArray.eraseIdxIfInBounds (its.toArray.size-1)=its.dropLast.toArray
  rw[qn_,ql3_,zEb]
 ·rw[List.length_dropLast]
  omega
def zIj:V->List V->Hp->VK->Prop:=λx vs H Q=>∃l xs i k y,x=.ref l/\vs=[.int i]/\H l=some (.lst xs) /\ -(2 ^ 63)<=i/\i<2 ^ 63/\seqIndex? i xs.length=some k/\xs[k]?=some y/\Q y (upd H l (.lst (xs.eraseIdx k)))
theorem zFW:MtM X "list.pop" zIj:=by
 intro pins s σ H x vs v us Q I rx rv h
 obtain⟨l,xs,i,k,y,rfl,rfl,hH,h1,h2,hk,hy,q⟩:=h
 cases rx
 obtain⟨u,rfl,ru⟩:=rv.one
 obtain⟨t,rfl⟩:=ru
 obtain⟨z,its,n,r,hl,e⟩:=I.lstM hH
 obtain⟨w,hw,rw'⟩:=r.get hy
 refine call_meets F.slot_list_pop ⟨_,e,rfl⟩ F.entry_list_pop (F.args_list_pop_2 _ _)
  (MeetsSeq.list_pop_at l its.toArray n i t k w (fitsIndex_both h1 h2) (by rw[qn_,<-hl];exact hk) (by rw[<-qr_];exact hw) (by rw[qn_];omega)) ⟨e,?_⟩
 refine⟨y,_,I.lset (its':=its.eraseIdx k) hH e ?_ (r.eraseIdx k) ?_,rw',q⟩
 ·show its.toArray.eraseIdxIfInBounds k=(its.eraseIdx k).toArray
  rw[ql3_]
 ·have:=zAn xs k
  omega
theorem vV{α:Type}(xs:List α)(k:Nat):(List.replicate k xs).flatten.length=k*xs.length:=by
 induction k with
 |zero=>simp
 |succ k ih=>rw[qn1_,qo1_,qj_,ih,Nat.succ_mul,Nat.add_comm]
end
end L2
namespace Att
open PySem PySem.W PySem.Calls PyProof.Rows
theorem zDm{P:Params}{h:Heap}:∀(ns:List Int) (vs:List Value),WellAll P h vs (ns.map WData.int)->IntsAre vs ns:=by
 intro ns
 induction ns with
 |nil=>
  intro vs w
  rw[qE2_]at w
  cases w
  exact .nil
 |cons n ns ih=>
  intro vs w
  rw[qA_]at w
  cases w with
  |cons a b=>
   cases a
   exact .cons _ _ (ih _ b)
theorem zED{l:OpenLaw}{n:Nat}(hn:l.most=some n){P:Params}{h:Heap}{args:List WData}{vals:List Value}
  (hpre:l.row.toRowW.claim.pre args=true) (hwl:WellAll P h vals args):
  ∃a vs ns,vals=[Value.ref a]/\args=[WData.list (ns.map WData.int)]/\h.get? a=some {cls:=.type "list",data:=.seq vs.toArray}/\IntsAre vs ns/\ns.length<=n:=by
 have hsh:WShape.hasAll [] args [.list .int]=true:=(pre_splitW hpre).1
 have hc:l.pre.holds [] {args:=args}=true:=(pre_splitW hpre).2
 obtain⟨d,r,rfl,h1,h2⟩:=hasAllW_cons hsh
 obtain rfl:=hasAllW_nil h2
 obtain⟨xs,rfl,h3⟩:=hasW_list h1
 obtain⟨ns,rfl⟩:=items_int h3
 have hlen:ns.length<=n:=by
  unfold OpenLaw.pre at hc
  have h4:(WTm.not (.lt (.lit (.int (n:Int))) (.len (.arg 0)))).holds [] {args:=[.list (ns.map .int)]}=true:=by
   have h4:=(holds_andW hc).1
   rw[hn]at h4
   exact h4
  have h5:=condW_of h4 (w_not (w_lt w_lit (w_len_list (w_arg rfl))))
  rw[qc_]at h5
  refine Nat.le_of_not_lt λq=>?_
  have q':(n:Int)<((ns.length:Nat):Int):=by omega
  first
   |(rw[qP_ q']at h5;exact absurd h5 (by decide))
   |(simp at h5;omega)
 cases hwl with
 |cons w1 w2=>
  cases w2
  cases w1 with
  |list ho hall=>exact⟨_,_,ns,rfl,rfl,ho,zDm ns _ hall,hlen⟩
theorem zEJ(l:OpenLaw)(args:List WData):l.row.toRowW.claim.post args (.bool true) args=true:=
 postW_of (r:=l.row.toRowW) (X:=(true==true))
  (show WShape.has [] (.bool true) .bool=true by first|rfl|decide|simp[WShape.has,WShape.arms,WShape.armsAll])
  (show(WTm.eq .res (.lit (.bool true))).value [] {args:=args,res:=some (.bool true),after:=args}=some (.bool (true==true)) from w_eq_bool (w_res rfl) w_lit) rfl
theorem attach_call{l:OpenLaw}{n:Nat}{q:Program}{loose:List Str}{XP:(Str->Option Value)->Heap->Prop}{YP:World->Heap->Prop}{d:DefRec}
  (hn:l.most=some n) (hdf:d.params.defaults=[])
  (call:∀(w:World) (s₀ s₁:Shared) (mg mb:Str->Option Value) (fa:Addr) (o:Obj) (pm cd doc:Value) (a:Addr) (vs:List Value) (ns:List Int),
   Ground q loose [] XP w s₀ mg mb s₁.heap->YP w s₁.heap ->
   s₁.heap.get? fa=some o->o.data=.func (docDef d.name d.params d.body d.scope pm cd doc)->s₁.heap.CodeRec cd d.name->mg d.name=some (.ref fa) ->
   s₁.heap.get? a=some {cls:=.type "list",data:=.seq vs.toArray}->IntsAre vs ns->ns.length<=n->s₁.gens=#[] ->
   codeAny (model l.prog w) callerA (.call (.ref fa) ⟨[.ref a],[]⟩) (λr s'=>r=.ok (.ret (.bool true))/\OldK s₁.heap s'.heap/\s'.os=s₁.os/\AllBare s'.gens) s₁):
  WalkO q loose XP YP l.row.toRowW d [] (λf vs=>PySem.call f vs):=by
 intro w s₀ s₁ mg mb G Y fa o pm cd doc dV kV ho hd hcd hD hmg hg args vals as hpre hlay hrd hwl hlo
 obtain rfl:dV=.none:=Dflts.none hD hdf
 obtain rfl:kV=.none:=Dflts.noKw hD
 obtain⟨a,vs,ns,rfl,rfl,hobj,hints,hlen⟩:=zED hn hpre hwl
 refine enter_call (codeAny_mono (call w s₀ s₁ mg mb fa o pm cd doc a vs ns G Y ho (fd_plain hd) hcd hmg hobj hints hlen hg) λr s' hq=>?_)
 obtain⟨rfl,h2,h3,h4⟩:=hq
 exact⟨.inl ⟨.bool true,.bool true,[],rfl,λ_=>rfl,.bool true,zEJ l _,λ_=>⟨List.Pairwise.nil,λ_ hm=>(nomatch hm)⟩⟩,h2,h3,h4⟩
end Att
namespace L2
open PySem PySem.Spec PyProof.Rows
theorem zW:∀{vs:List Value}{ns:List Int},IntsAre vs ns->Vals (ns.map V.int) vs
 |_,_,.nil=>.nil
 |_,_,.cons n t h=>.cons ⟨t,rfl⟩ (zW h)
def yD(H:Hp):Prop:=∀b,H b=none\/∃o xs,H b=some (.frz o (.lst xs))
theorem zF5{P:Program}{w:World}{K:W.Frag}{mg mb:Str->Option Value}{CX:CXT}{k:Nat}{fa a:Addr}{fd:FuncData}{x:Str}{sp:Sp}{s₁:Shared}{vs:List Value}{ns:List Int}
  (KX:K.In s₁.heap) (hns:s₁.heap.Ns mainGlobals mg) (hb:s₁.heap.Ns builtinsNs mb) (hbb:∀x:Str,x≠"__name__"->mb x=bootBuiltins x) (hlim:s₁.heap.NoLimit) (hg:s₁.gens=#[])
  (ha:s₁.heap.get? a=some {cls:=.type "list",data:=.seq vs.toArray}) (hi:IntsAre vs ns) (hl:ns.length<=sizeLine) (hr:Room k callerA)
  (F:∀base:Heap,K.In base->base.Ns mainGlobals mg->FnOk P w K mg base CX k fa fd [x] sp) (hbind:∀(s:Shared) (u:Value),BindsTo s fd ⟨[u],[]⟩ [(x,u)])
  (hsp:∀H:Hp,yD H->SqL K H a (ns.map V.int)->sp [.ref a] H (λv _=>v=.bl true) λ_ _ _=>False)
  (hCX:∀H e s',CX [] H s₁ (λ_ _ _=>False) e s'->False):
  codeAny (model P w) callerA (.call (.ref fa) ⟨[.ref a],[]⟩) (λr s'=>r=.ok (.ret (.bool true))/\OldK s₁.heap s'.heap/\s'.os=s₁.os/\AllBare s'.gens) s₁:=by
 have rv:=zW hi
 have lenV:=hi.length
 -- from an abstract heap in which nothing but the script may be tracked
 have core:∀H:Hp,yD H->SqL K H a (ns.map V.int)->HOk P w H s₁.heap->(∀b,H b≠none->b=a)->(H a≠none->K.lookup a=none) ->
   codeAny (model P w) callerA (.call (.ref fa) ⟨[.ref a],[]⟩) (λr s'=>r=.ok (.ret (.bool true))/\OldK s₁.heap s'.heap/\s'.os=s₁.os/\AllBare s'.gens) s₁:=by
  intro H hO hS hok hA hK
  have base_of:∀{b:Addr} {o:Obj},s₁.heap.get? b=some o->H b=none->(jB s₁.heap H).get? b=some o:=λe n=>zGc e n
  have noA:∀{b:Addr} {o:Obj} {es:Array DictEntry} {ep:Nat},s₁.heap.get? b=some o->o.data=.dict es ep->H b=none:=λ{b o es ep} e d=>by
   cases q:H b with
   |none=>rfl
   |some u=>
    have e':b=a:=hA b (by rw[q];simp)
    subst e'
    rw[ha]at e;cases e
    have d':Data.seq vs.toArray _=Data.dict es ep:=d
    cases d'
  have nsK:∀{b:Addr} {m:Str->Option Value},s₁.heap.Ns b m->(jB s₁.heap H).Ns b m:=λ{b m} ⟨o,es,ep,e,d,r⟩=>⟨o,es,ep,base_of e (noA e d),d,r⟩
  have hKb:K.In (jB s₁.heap H):=λb o e=>base_of (KX b o e) (by
   cases q:H b with
   |none=>rfl
   |some u=>
    have e':b=a:=hA b (by rw[q];simp)
    subst e'
    rw[hK (by rw[q];simp)]at e;cases e)
  have hM:Mod K mg (jB s₁.heap H):=⟨hKb,nsK hns,⟨mb,nsK hb,hbb⟩,let ⟨mc,h1,h2⟩:=hlim;⟨mc,nsK h1,h2⟩⟩
  have e0:tH P w K mg (jB s₁.heap H) callerA [] s₁ H:=⟨rfl,hM,λb o e=>zHi e,Nat.le_of_eq (zE1 _ _),trivial,λb hb=>absurd (show b∈([]:List Addr) from hb) (by simp),hok,.of_eq hg⟩
  refine codeAny_mono ((F _ hKb (nsK hns)).run callerA [] s₁ H ⟨[.ref a],[]⟩ [.ref a] [.ref a] _ _ hr e0 (hbind s₁ (.ref a)) (.cons rfl .nil) (hsp H hO hS)) λr s' h=>?_
  cases r with
  |error e=>exact(hCX H e s' h).elim
  |ok fl=>
   cases fl with
   |next=>exact False.elim h
   |brk=>exact False.elim h
   |cont=>exact False.elim h
   |ret u=>
    obtain⟨v,H',os,bare,un,hok',r',q⟩:=h
    have q':v=.bl true:=q
    subst q'
    obtain rfl:u=Value.bool true:=r'
    refine⟨rfl,OldK.of_keep λb o e=>?_,os,bare⟩
    cases q:H b with
    |none=>exact un.keep b o e q (by intro z;exact absurd (show b∈([]:List Addr) from z) (by simp)) (by simp)
    |some u=>
     rcases hO b with z|⟨ob,xs,z⟩
     ·rw[q]at z;cases z
     ·have z2:=un.frzs b ob _ z
      obtain⟨e1,_⟩:=hok b _ z
      obtain⟨e2,_⟩:=hok' b _ z2
      rw[e]at e1;cases e1
      exact e2
 cases hk:K.lookup a with
 |some o=>
  -- the script is one of the module's own objects
  have e:=KX a o hk
  rw[ha]at e
  cases e
  refine core (λ_=>none) (λ_=>.inl rfl) (.inr ⟨_,vs.toArray,_,hk,rfl,rfl,rfl,by rw[qn_,lenV];exact hl,by simpa using rv⟩) (λb u z=>by have z':(none:Option HO)=some u:=z;cases z') (λb z=>absurd rfl z) λz=>absurd rfl z
 |none=>
  refine core (λb=>if b=a then some (.frz {cls:=.type "list",data:=.seq vs.toArray} (.lst (ns.map V.int))) else none) (λb=>?_) (.inl (.inr ⟨{cls:=.type "list",data:=.seq vs.toArray},if_pos rfl⟩)) (λb u z=>?_) (λb z=>?_) λ_=>hk
  ·by_cases hb:b=a
   ·exact .inr ⟨_,_,if_pos hb⟩
   ·exact .inl (if_neg hb)
  ·by_cases hb:b=a
   ·have z':=(if_pos hb).symm.trans z
    cases z'
    subst hb
    exact⟨ha,by rw[qc_];exact hl,vs,_,rv,ha⟩
   ·have z':=(if_neg hb).symm.trans z
    cases z'
  ·by_cases hb:b=a
   ·exact hb
   ·exact absurd (if_neg hb) z
end L2
namespace L2
open PySem PySem.Spec PyProof.Rows
theorem walk_of{l:W.OpenLaw}{n k:Nat}{q:Program}{loose:List Str}{XP:(Str->Option Value)->Heap->Prop}{YP:World->Heap->Prop}{d:DefRec}{K:Params->W.Frag}{CX:World->CXT}{sp:World->Sp}{x:Str}
  (hn:l.most=some n) (hn2:n<=sizeLine) (hdf:d.params.defaults=[]) (hr:Room k callerA)
  (hY:∀(w:World) (h:Heap),YP w h->(K w.params).In h)
  (F:∀(w:World) (mg:Str->Option Value) (fa:Addr) (h:Heap),(K w.params).In h->h.Ns mainGlobals mg->mg d.name=some (.ref fa) ->
   ∃fd:FuncData,(∀(s:Shared) (u:Value),BindsTo s fd ⟨[u],[]⟩ [(x,u)]) /\
    ∀base:Heap,(K w.params).In base->base.Ns mainGlobals mg->FnOk l.prog w (K w.params) mg base (CX w) k fa fd [x] (sp w))
  (hsp:∀(w:World) (H:Hp) (a:Addr) (ns:List Int),ns.length<=n->yD H->SqL (K w.params) H a (ns.map V.int)->sp w [.ref a] H (λv _=>v=.bl true) λ_ _ _=>False)
  (hCX:∀(w:World) (H:Hp) (s:Shared) (e:Value) (s':Shared),CX w [] H s (λ_ _ _=>False) e s'->False):
  PySem.W.WalkO q loose XP YP l.row.toRowW d [] (λf vs=>PySem.call f vs):=by
 refine Att.attach_call hn hdf λw s₀ s₁ mg mb fa o pm cd doc a vs ns G Y ho hd hcd hmg hobj hints hlen hg=>?_
 have KX:=hY w _ Y
 obtain⟨fd,hb,hF⟩:=F w mg fa _ KX G.T.g hmg
 exact zF5 KX G.T.g G.T.b G.T.builtins G.T.nolimit hg hobj hints (qh_ hlen hn2) hr hF hb (λH hO hS=>hsp w H a ns hlen hO hS) λH e s'=>hCX w H s₁ e s'
end L2
namespace L2
open PySem PySem.Spec PyProof.Rows
def gU(s:Stmt):Arguments:=match s with
 |.FunctionDef _ a _ _ _ _ _ _ _ _=>a
 |_=>{posonlyargs:=[],args:=[],vararg:=none,kwonlyargs:=[],kw_defaults:=[],kwarg:=none,defaults:=[]}
def eZ(s:Stmt):List Stmt:=match s with
 |.FunctionDef _ _ b _ _ _ _ _ _ _=>b
 |_=>[]
def aN(s:Stmt):Scope:=match s with
 |.FunctionDef _ _ _ _ _ _ sc _ _ _=>sc
 |_=>{kind:=.function,names:=[],isGenerator:=false,isCoroutine:=false}
abbrev CX0:CXT:=λ_ _ _ _ _ _=>False
abbrev E0:XK:=λ_ _ _=>False
theorem zCI{X:Cx}:rO CX0 X E0:=λ_ _ _ _ _ _ _ h=>h.elim
structure Fun (K:W.Frag) (x qual:Str) (st:Stmt) (f:Addr) (fd:FuncData):Prop where
 ex:∃(oc:Value) (od:Option Addr) (kV doc pm:Value) (an:Option Addr) (cdv ct:Value) (osl:Array (Option Value)),
  fd=W.fnOf x qual (gU st) (eZ st) (aN st) .none kV doc pm an cdv ct/\K.lookup f=some ⟨oc,od,.func fd,osl⟩/\W.codeIn K cdv qual=true
 kp:W.keepIn K (.ref f)=true
section
variable{P:Program}{w:World}{K:W.Frag}{mg:Str->Option Value}{base:Heap}
theorem Fun.ok{x qual:Str}{st:Stmt}{f:Addr}{fd:FuncData}{N ps:List Str}{k:Nat}{sp:Sp}(F:Fun K x qual st f fd)(S:bA N ps (aN st))(len:∀vs H Q E,sp vs H Q E->vs.length=ps.length)
  (hbody:∀(cdv:Value) (A:Around) (outer:List Env) (s:Shared) (H:Hp) (vs:List V) (Q:VK) (E:XK),Room k (A.deeper (envOfC qual (aN st) s.heap.objs.size f cdv))->sp vs H Q E ->
   ∃t,PSs (jU CX0 P w K mg base N qual (aN st) f cdv A outer s H E).nox (eZ st) t/\t {nx:=λ_ H'=>Q .non H',rt:=Q} (dY N vs) H):FnOk P w K mg base CX0 (k+1) f fd ps sp:=by
 obtain⟨oc,od,kV,doc,pm,an,cdv,ct,osl,rfl,lk,hcd⟩:=F.ex
 refine zKg lk hcd S len λA outer s H vs Q E hr hsp=>?_
 obtain⟨t,h,q⟩:=hbody cdv A outer s H vs Q E hr hsp
 exact⟨t,h.nox,q⟩
theorem Fun.binds{x qual:Str}{st:Stmt}{f:Addr}{fd:FuncData}{ps:List Str}(F:Fun K x qual st f fd)
  (h:∀(kV doc pm:Value) (an:Option Addr) (cdv ct:Value) (us:List Value),us.length=ps.length->bindArgs (W.fnOf x qual (gU st) (eZ st) (aN st) .none kV doc pm an cdv ct) ⟨us,[]⟩=pure (ps.zip us)):Binds K fd ps []:=by
 obtain⟨oc,od,kV,doc,pm,an,cdv,ct,osl,rfl,lk,hcd⟩:=F.ex
 exact .all (h kV doc pm an cdv ct)
theorem zCu{x qual:Str}{st:Stmt}{f:Addr}{oc:Value}{od an:Option Addr}{osl:Array (Option Value)}{kV doc pm cdv ct:Value}(l:K.lookup f=some ⟨oc,od,.func (W.fnOf x qual (gU st) (eZ st) (aN st) .none kV doc pm an cdv ct),osl⟩)
  (c:W.codeIn K cdv qual=true) (k:W.keepIn K (.ref f)=true):Fun K x qual st f (W.fnOf x qual (gU st) (eZ st) (aN st) .none kV doc pm an cdv ct):=⟨⟨oc,od,kV,doc,pm,an,cdv,ct,osl,rfl,l,c⟩,k⟩
end
theorem oQ{A:Around}{k:Nat}(hr:Room k A):A.units+1<cLine:=qq2_ (Nat.add_le_add_left (by decide:1<=64) _) hr.units
theorem zEx{n:Nat}(h:n<=1000):n<sizeLine:=Nat.lt_of_le_of_lt h (by decide)
section
variable{X:Cx}
theorem pv(i:Nat){x:Str}{pos:Pos}(hN:X.N[i]?=some x:=by rfl)(hv:Vis X.env.scope x:=by first|exact Or.inl rfl|exact Or.inr (Or.inl rfl)|exact Or.inr (Or.inr rfl))(hd:(x==("__debug__":Str))=false:=by decide)
  (hcd:(x==("__classdict__":Str))=false:=by decide):PE X (.Name x pos) (zCU i):=kF hN hv hd hcd
end
theorem aR{A B:Prop}(h:B):if false=true then A else B:=by
 rw[if_neg ql_]
 exact h
theorem bX{A B:Prop}(h:A):if true=true then A else B:=by
 rw[if_pos rfl]
 exact h
theorem zK4{c A B:Prop}[Decidable c](h1:c->A)(h2:¬ c->B):if c then A else B:=by
 by_cases h:c
 ·rw[if_pos h]
  exact h1 h
 ·rw[if_neg h]
  exact h2 h
def Same(H H':Hp):Prop:=∀b o,H b=some o->H' b=some o
theorem Same.refl(H:Hp):Same H H:=λ_ _ h=>h
theorem Same.trans{H H1 H2:Hp}(a:Same H H1)(b:Same H1 H2):Same H H2:=λc o h=>b c o (a c o h)
theorem Same.free{H H':Hp}(e:Same H H'){l:Addr}(h:H' l=Option.none):H l=Option.none:=by
 cases q:H l with
 |none=>rfl
 |some o=>
  rw[e l o q]at h
  cases h
end L2
namespace L2
open PySem PySem.Spec PyProof.Rows
theorem tJ{env:Env}:∀(names:List (Str×NameKind)) (acc:List (Str×Addr)),(∀y∈names,y.2=.free->∃c,env.cells.lookup y.1=some c) ->
  ∃cl,(forIn names acc (λ(x:Str×NameKind) (cs:List (Str×Addr))=>if (x.2==NameKind.free)=true then(do let c <- cellOf env x.1;pure (ForInStep.yield ((x.1,c)::cs))) else pure (ForInStep.yield cs)):Sem (List (Str×Addr)))=pure cl /\
   (∀x c,cl.lookup x=some c->env.cells.lookup x=some c\/acc.lookup x=some c)/\(∀x c,acc.lookup x=some c->∃c',cl.lookup x=some c')/\∀y∈names,y.2=.free->∃c,cl.lookup y.1=some c
 |[],acc,_=>⟨acc,rfl,λ_ _ h=>.inr h,λ_ c h=>⟨c,h⟩,λ_ h=>nomatch h⟩
 |(n,k)::r,acc,h=>by
  rw[List.forIn_cons]
  by_cases hk:k=.free
  ·subst hk
   obtain⟨c,hc⟩:=h (n,.free) qi1_ rfl
   obtain⟨cl,h1,h2,h3,h4⟩:=tJ r ((n,c)::acc) λy hy=>h y (qc1_ _ hy)
   refine⟨cl,?_,λx d e=>?_,λx d e=>?_,λy hy e=>?_⟩
   ·have e1:cellOf env n=pure c:=by unfold cellOf;rw[hc]
    simp only[beq_self_eq_true,if_true,e1,pure_bind]
    exact h1
   ·rcases h2 x d e with z|z
    ·exact .inl z
    ·rw[List.lookup_cons]at z
     split at z
     ·rename_i hx
      cases z
      have:x=n:=eq_of_beq hx
      subst this
      exact .inl hc
     ·exact .inr z
   ·refine h3 x (if x==n then c else d) ?_
    rw[List.lookup_cons]
    cases hx:x==n with
    |true=>simp[hx]
    |false=>simp[hx,e]
   ·rcases qw_.mp hy with z|z
    ·subst z
     exact h3 n c (by simp[List.lookup_cons])
    ·exact h4 y z e
  ·have hb:(k==NameKind.free)=false:=by simpa using hk
   obtain⟨cl,h1,h2,h3,h4⟩:=tJ r acc λy hy=>h y (qc1_ _ hy)
   refine⟨cl,?_,h2,h3,λy hy e=>?_⟩
   ·simp only[hb,Bool.false_eq_true,if_false,pure_bind]
    exact h1
   ·rcases qw_.mp hy with z|z
    ·subst z
     exact absurd e hk
    ·exact h4 y z e
theorem zO{scope:Scope}{env:Env}(h:∀y∈scope.names,y.2=.free->∃c,env.cells.lookup y.1=some c):
  ∃cl,closureFor scope env=pure cl/\(∀x c,cl.lookup x=some c->env.cells.lookup x=some c)/\∀y∈scope.names,y.2=.free->∃c,cl.lookup y.1=some c:=by
 obtain⟨cl,h1,h2,h3,h4⟩:=tJ scope.names [] h
 refine⟨cl,?_,λx c e=>(h2 x c e).elim id λz=>(by cases z),h4⟩
 unfold closureFor
 refine Eq.trans ?_ h1
 refine Eq.trans (bind_pure _) ?_
 rfl
theorem yG{env:Env}:∀{names:List (Str×NameKind)}{x:Str},names.lookup x=some .free ->
  (names.map λ(n,k)=>if (k==NameKind.free&&env.scope.kind==.function&&env.kindOf n==some .cell) then(n,NameKind.cell) else(n,k)).lookup x=some .cell \/
  (names.map λ(n,k)=>if (k==NameKind.free&&env.scope.kind==.function&&env.kindOf n==some .cell) then(n,NameKind.cell) else(n,k)).lookup x=some .free
 |[],_,h=>by simp at h
 |(n,k)::r,x,h=>by
  have ih:=@yG env r x
  show List.lookup x ((if (k==NameKind.free&&env.scope.kind==.function&&env.kindOf n==some .cell)=true then(n,NameKind.cell) else(n,k))::_)=_\/List.lookup x ((if (k==NameKind.free&&env.scope.kind==.function&&env.kindOf n==some .cell)=true then(n,NameKind.cell) else(n,k))::_)=_
  by_cases hc:(k==NameKind.free&&env.scope.kind==.function&&env.kindOf n==some .cell)=true
  ·rw[if_pos hc]
   cases hx:x==n with
   |true=>simp only[List.lookup_cons,hx];exact .inl trivial
   |false=>
    simp only[List.lookup_cons,hx]at h ⊢
    exact ih h
  ·rw[if_neg hc]
   cases hx:x==n with
   |true=>
    simp only[List.lookup_cons,hx]at h ⊢
    exact .inr h
   |false=>
    simp only[List.lookup_cons,hx]at h ⊢
    exact ih h
theorem yW{env:Env}{names:List (Str×NameKind)}(hn:∀y∈names,y.2≠.cell){x:Str}{k:NameKind}(hk:k=.cell\/k=.free)
  (h:(names.map λ(n,k)=>if (k==NameKind.free&&env.scope.kind==.function&&env.kindOf n==some .cell) then(n,NameKind.cell) else(n,k)).lookup x=some k):(x,NameKind.free)∈names:=by
 obtain⟨⟨n,k'⟩,hm,e⟩:=qf_.mp (PySem.mem_of_lookup h)
 simp only at e
 split at e
 ·rename_i hc
  rw[qR1_,qR1_]at hc
  have:k'=.free:=eq_of_beq hc.1.1
  subst this
  injection e with e1 _
  subst e1
  exact hm
 ·injection e with e1 e2
  subst e1 e2
  rcases hk with z|z
  ·exact absurd z (hn _ hm)
  ·subst z;exact hm
def cJ(X:Cx)(N:List Str)(scope:Scope)(cl:List (Str×Addr))(C:Addr)(fp:List Addr)(s:Shared)(H:Hp):Cx where
 prog:=X.prog
 w:=X.w
 K:=X.K
 mg:=X.mg
 base:=X.base
 A:=X.A
 N:=N
 s₀:=s
 H₀:=H
 env:=compEnvC scope cl C X.env
 outer:=X.stack
 stack:=X.stack
 ex:=fp
 fn:=λ_=>false
 calm:=X.calm
 pn:=[]
 xe:=λ_ _=>False
structure kA (sc:Scope) (XN N:List Str) (own:Nat) (fr:List Nat) (scope:Scope):Prop where
 kind:scope.kind=.function
 nocell:∀y∈scope.names,y.2≠.cell
 free:∀y∈scope.names,y.2=.free->sc.names.lookup y.1=some .cell\/sc.names.lookup y.1=some .free
 loc:∀y∈scope.names,y.2=.local->scope.names.lookup y.1=some .local
 names:N.drop own=fr.filterMap λi=>XN[i]?
 frl:∀i∈fr,i<XN.length
 len:own<=N.length
 vis:∀x∈N.drop own,scope.names.lookup x=some .free
def σf(fr:List Nat)(σ:St):St:=fr.map λi=>σ.getD i none
def σc(own:Nat)(fr:List Nat)(σ:St):St:=List.replicate own none++σf fr σ
section
variable{X:Cx}{pins:List (Addr×Obj)}{σ:St}{H:Hp}{s:Shared}{N:List Str}{own:Nat}{fr:List Nat}{scope:Scope}
theorem yL{XN:List Str}:∀{fr:List Nat},(∀i∈fr,i<XN.length)->∀(j:Nat),(fr.filterMap λi=>XN[i]?)[j]?=(fr[j]?).bind λi=>XN[i]?
 |[],_,j=>by simp
 |i::r,h,j=>by
  have hi:i<XN.length:=h i qi1_
  rw[qH_,qk_ hi]
  cases j with
  |zero=>simp[hi]
  |succ j=>simpa using yL (λk hk=>h k (qc1_ _ hk)) j
theorem zF8{cl:List (Str×Addr)}{fp:List Addr}{h':Heap}(I:Inv X pins σ H s)(S:kA X.env.scope X.N N own fr scope)(hcl:∀x c,cl.lookup x=some c->X.env.cells.lookup x=some c)
  (hcf:∀y∈scope.names,y.2=.free->∃c,cl.lookup y.1=some c) (hfp:∀b∈fp,eX X pins H b) (hfo:∀b∈fp,∃o,s.heap.get? b=some o)
  (hns:h'.Ns s.heap.objs.size λ_=>none) (hk:∀b o,s.heap.get? b=some o->h'.get? b=some o):
  Inv (cJ X N scope cl s.heap.objs.size fp s H) [] (σc own fr σ) H {s with heap:=h'}:=by
 have kindE:∀x,(Env.kindOf (compEnvC scope cl s.heap.objs.size X.env) x)=(relabel scope X.env).names.lookup x:=λx=>rfl
 have memF:∀x,(Env.kindOf (compEnvC scope cl s.heap.objs.size X.env) x=some .cell\/Env.kindOf (compEnvC scope cl s.heap.objs.size X.env) x=some .free)->(x,NameKind.free)∈scope.names:=λx hx=>by
  rcases hx with z|z
  ·exact yW (env:=X.env) S.nocell (.inl rfl) z
  ·exact yW (env:=X.env) S.nocell (.inr rfl) z
 refine⟨⟨I.ok.mod,S.kind,I.ok.glob,I.ok.blt,qe_ _,λx y c h1 h2=>I.ok.inj x y c (hcl x c h1) (hcl y c h2),λx hx=>hcf (x,.free) (memF x hx) rfl,λx c h=>absurd (show false=true from h) (by decide),I.ok.hd,I.ok.frames,.inl rfl,λb hb=>?_,I.bs,qh_ I.ok.bsz I.sz,λb o e hb=>?_,λb hb z=>?_,I.stack,I.stkFree⟩,
  rfl,I.bare,Un.kept hk,⟨_,hns,λi x v e1 e2 e3=>?_⟩,λx c e=>?_,I.hok.fresh (qe_ _),λx c e=>I.freeC x c (hcl x c e),λp hp=>absurd (show p∈([]:List (Addr×Obj)) from hp) (by simp),I.hok.kept hk,?_⟩
 ·obtain⟨o,ho⟩:=hfo b hb
  exact⟨qm_ (qg_ ho),λx c e=>(hfp b hb).2.2.2.2.1 x c (hcl x c e)⟩
 ·rcases (hfp b hb).2.2.2.1 with z|z
  ·exact I.ok.noex b o e z
  ·exact absurd (qT_ (qg_ (I.ok.bs b o e).1) z) (qe1_ _)
 ·rcases qw_.mp (I.stkSub b z) with q|q
  ·exact(hfp b hb).2.1 q
  ·exact(hfp b hb).2.2.1 q
 ·have hi:own<=i:=by
   rcases Nat.lt_or_ge i own with z|z
   ·have e2':(σc own fr σ)[i]?=some (some v):=e2
    unfold σc at e2'
    rw[qI1_ (by simpa using z),qd2_]at e2'
    split at e2'<;>cases e2'
   ·exact z
  have e2':(σf fr σ)[i-own]?=some (some v):=by
   have e2':(σc own fr σ)[i]?=some (some v):=e2
   unfold σc at e2'
   rw[qH1_ (by simpa using hi)]at e2'
   simpa using e2'
  have e1':(N.drop own)[i-own]?=some x:=by
   have e1':N[i]?=some x:=e1
   rw[qr2_]
   rw[show own+(i-own)=i by omega]
   exact e1'
  have hv:scope.names.lookup x=some .free:=S.vis x (qE_ e1')
  have hx:X.env.scope.names.lookup x=some .cell\/X.env.scope.names.lookup x=some .free:=S.free (x,.free) (PySem.mem_of_lookup hv) rfl
  rw[S.names,yL S.frl]at e1'
  unfold σf at e2'
  rw[qv_]at e2'
  cases q:fr[i-own]? with
  |none=>rw[q]at e2';cases e2'
  |some j=>
   rw[q]at e1' e2'
   have e1'':X.N[j]?=some x:=e1'
   have e2'':σ.getD j none=some v:=Option.some.inj e2'
   have e3':σ[j]?=some (some v):=by
    rw[qV_]at e2''
    cases z:σ[j]? with
    |none=>rw[z]at e2'';cases e2''
    |some y=>rw[z]at e2'';exact congrArg some e2''
   obtain⟨m,hn,hl⟩:=I.loc
   obtain⟨u,r,l⟩:=hl j x v e1'' e3' (.inr hx)
   refine⟨u,r,.inr ⟨yG (env:=X.env) hv,?_⟩⟩
   rcases l with⟨k,_⟩|⟨_,c,hc,z⟩
   ·have k':X.env.scope.names.lookup x=some .local:=k
    rw[k']at hx
    rcases hx with z|z<;>cases z
   ·obtain⟨c',hc'⟩:=hcf (x,.free) (PySem.mem_of_lookup hv) rfl
    have:=hcl x c' hc'
    rw[hc]at this
    cases this
    exact⟨c,hc',z.keeps hk⟩
 ·obtain⟨v,z⟩:=I.cell x c (hcl x c e)
  exact⟨v,z.keeps hk⟩
 ·show(σc own fr σ).length=N.length
  unfold σc σf
  have h1:=congrArg List.length S.names
  have h2:(fr.filterMap λi=>X.N[i]?).length=fr.length:=by
   have:∀(l:List Nat),(∀i∈l,i<X.N.length)->(l.filterMap λi=>X.N[i]?).length=l.length:=by
    intro l
    induction l with
    |nil=>intro _;rfl
    |cons i r ih=>
     intro h
     rw[qH_,qk_ (h i qi1_)]
     simp[ih λk hk=>h k (List.mem_cons_of_mem _ hk)]
   exact this fr S.frl
  rw[qf2_,h2]at h1
  rw[qj_,qe2_,qc_]
  have:=S.len
  omega
end
section
variable{prog:Program}{w:World}{A:Around}{R:Result->Shared->Prop}{s:Shared}
theorem zDB{elt target iter:Expr}{ifs:List Expr}{scope:Scope}{pos:Pos}{it acc:Value}{env:Env}(I:Nat->Shared->Prop)
  (turn:∀n s,I n s->wpAny (model prog w) A (pyNext it) (λr s₁=>match r with
   |none=>R (.ok .next) s₁
   |some v=>wpAny (model prog w) A (letOwnedTupleGo target it v) (λ_ s'=>wpAny (model prog w) A (assign target env v) (λ_ s₂=>
     wpAny (model prog w) A (forIn ifs true λc r=>if r=true then do let ok <- isTrue c env (eval c env);pure (ForInStep.yield ok) else pure (ForInStep.yield r)) (λok s₃=>
      if ok=true then wpAny (model prog w) A (eval elt env) (λx s₄=>
       wpAny (model prog w) A (call (.builtin "list.append") [acc,x]) (λ_ s₅=>∃m,m<n/\I m s₅) (λ_ _=>False) s₄) (λ_ _=>False) s₃
      else ∃m,m<n/\I m s₃) (λ_ _=>False) s₂) (λ_ _=>False) s') (λ_ _=>False) s₁) (λ_ _=>False) s)
  (n:Nat) (h:I n s):codeAny (model prog w) A (.compLoop (.ListComp elt [⟨target,iter,ifs,0⟩] scope pos) 0 it acc env) R s:=by
 refine codeAny_loop rfl I (λn s hI=>?_) n h
 show wpAny _ A ((compTurn (.ListComp elt [⟨target,iter,ifs,0⟩] scope pos) 0 it acc env).onRaise (λx=>do noteFrame x env;theTreesLotGoes x)) _ _ s
 refine wpAny_noted ?_
 rw[compTurn_list]
 refine qa_ (wpAny_standAt (qa_ (wpAny_mono (turn n s hI) (λr s₁ h₁=>?_) λ_ _ z=>False.elim z)))
 cases r with
 |none=>exact qb_ h₁
 |some v=>
  refine qa_ (wpAny_mono h₁ (λ_ s' h'=>?_) λ_ _ z=>False.elim z)
  refine qa_ (wpAny_mono h' (λ_ s₂ h₂=>qa_ (wpAny_mono h₂ (λok s₃ h₃=>?_) λ_ _ z=>False.elim z)) λ_ _ z=>False.elim z)
  cases ok with
  |false=>exact qb_ ⟨rfl,h₃⟩
  |true=>
   exact qa_ (qa_ (wpAny_mono h₃ (λx s₄ h₄=>qa_ (wpAny_mono h₄ (λ_ s₅ h₅=>qb_ (qb_ ⟨rfl,h₅⟩)) λ_ _ z=>False.elim z)) λ_ _ z=>False.elim z))
end
def zCS(J:It)(a:Addr)(own:Nat)(fr:List Nat)(g:TG)(tf:TT)(te:TE)(σ:St)(H1:Hp)(Q:VK):Prop:=
 ∃(n:Nat) (Pv:Nat->List V->Hp->Prop),Pv 0 [] (upd H1 a (.lst []))/\∀i ys H2,i<=n->H2 a=some (.lst ys)->Pv i ys H2 ->
  (J.stop i H2/\Q (.ref a) H2)\/(i<n/\J.go i H2/\∀x H3,J.yld i H2 x H3->g x (σc own fr σ) H3 λσ4 H4=>(∃ow,ow.length=own/\σ4=ow++σf fr σ)/\tf σ4 H4 λb H5=>
   if b=true then te σ4 H5 λy H6=>H6 a=some (.lst ys)/\ys.length<sizeLine/\Pv (i+1) (ys++[y]) (upd H6 a (.lst (ys++[y])))
   else H5 a=some (.lst ys)/\Pv (i+1) ys H5)
def PFs(X:Cx)(ifs:List Expr)(t:TT):Prop:=
 ∀(pins:List (Addr×Obj)) (s:Shared) (σ:St) (H:Hp) (Q:Bool->Hp->Prop),Inv X pins σ H s->t σ H Q ->
  wpAny (model X.prog X.w) X.A (forIn ifs true λc r=>if r=true then do let ok <- isTrue c X.env (eval c X.env);pure (ForInStep.yield ok) else pure (ForInStep.yield r)) (TP X pins σ Q) X.xe s
def zJC:TT:=λ_ H Q=>Q true H
theorem zIC{X:Cx}:PFs X [] zJC:=λpins s σ H Q I h=>wpAny_tests_nil ⟨H,I,h⟩
theorem zIB{X:Cx}{c:Expr}{t:TT}(h:PT X c t):PFs X [c] t:=λpins s σ H Q I hw=>wpAny_tests_one (h pins s σ H Q I hw)
section
variable{X:Cx}{pins:List (Addr×Obj)}{σ:St}{H:Hp}{s:Shared}{N:List Str}{own:Nat}{fr:List Nat}{scope:Scope}{cl:List (Str×Addr)}{elt tg iter:Expr}{ifs:List Expr}{pos:Pos}
 {it:Addr} {fp:List Addr} {tn:Nat->Heap->Prop} {J:It} {g:TG} {tf:TT} {te:TE} {Q:VK} {E:Value->Shared->Prop}
theorem zN{RR:Value->Addr->Result->Shared->Prop}(hc:X.calm=true)(S:kA X.env.scope X.N N own fr scope)(hcl:∀x c,cl.lookup x=some c->X.env.cells.lookup x=some c)
  (hcf:∀y∈scope.names,y.2=.free->∃c,cl.lookup y.1=some c)
  (hg:∀C s H,PG (cJ X N scope cl C fp s H) tg g) (hf:∀C s H,PFs (cJ X N scope cl C fp s H) ifs tf) (he:∀C s H,PE (cJ X N scope cl C fp s H) elt te)
  (I:Inv X pins σ H s) (T:jE X.prog X.w X.K tg J fp it tn) (st:tn 0 s.heap) (hfp:∀b∈fp,eX X pins H b) (hw:∀a,H a=none->zCS J a own fr g tf te σ H Q)
  (hRR:∀a C s' H',Inv X pins σ H' s'->Q (.ref a) H'->eX X pins H' C->(∃m,s'.heap.Ns C m)->RR (.ref a) C (.ok .next) s'):
  wpAny (model X.prog X.w) X.A (newList []) (λacc s₃=>wpAny (model X.prog X.w) X.A (newFunctionEnv scope X.env.globals cl [] X.env.qual none .none (some X.env)) (λcenv s₄=>
   codeAny (model X.prog X.w) X.A (.compStart (.ListComp elt [⟨tg,iter,ifs,0⟩] scope pos) 0 (.ref it) acc {cenv with scope:=relabel scope X.env}) (RR acc cenv.locals) s₄) E s₃) E s:=by
 refine qS_ (wpAny_newFunctionEnv S.nocell (by intro y hy;simp at hy) (λh₁ hns₁ hsb₁=>?_) S.kind)
 dsimp only at hns₁ hsb₁ ⊢
 have I3:Inv X pins σ (upd H s.heap.objs.size (.lst [])) {s with heap:=s.heap.push {cls:=.type "list",dict:=none,data:=.seq ([]:List Value).toArray}}:=I.lnew (ys:=[]) (t':=s.toks) .nil (qs_ _)
 have hfo:∀b∈fp,∃o,s.heap.get? b=some o:=λb hb=>let ⟨o,ho,_⟩:=T.obj _ _ st b hb;⟨o,ho⟩
 have hlt:∀b∈fp,b<s.heap.objs.size:=λb hb=>let ⟨o,ho⟩:=hfo b hb;qg_ ho
 have fp3:∀b∈fp,eX X pins (upd H s.heap.objs.size (.lst [])) b:=λb hb=>⟨by rw[bK (qm_ (hlt b hb))];exact(hfp b hb).1,(hfp b hb).2⟩
 obtain⟨n0,W,w0,turn⟩:=hw s.heap.objs.size I.fresh
 generalize hs3:({s with heap:=s.heap.push {cls:=.type "list",dict:=none,data:=.seq ([]:List Value).toArray}}:Shared)=s3 at I3
 have eh:s3.heap=s.heap.push {cls:=.type "list",dict:=none,data:=.seq ([]:List Value).toArray}:=by rw[<-hs3]
 rw[<-eh]at hns₁ hsb₁ ⊢
 have hk:∀b o,s3.heap.get? b=some o->h₁.get? b=some o:=λb o e=>hsb₁.extBut b o (qm_ (qg_ e)) (qd_ _ e)
 have hk0:∀b o,s.heap.get? b=some o->s3.heap.get? b=some o:=λb o e=>by rw[eh];exact qd_ _ e
 have J0:Inv (cJ X N scope cl s3.heap.objs.size fp s3 (upd H s.heap.objs.size (.lst []))) [] (σc own fr σ) (upd H s.heap.objs.size (.lst [])) {s3 with heap:=h₁}:=
  zF8 I3 S hcl hcf fp3 (λb hb=>let ⟨o,ho⟩:=hfo b hb;⟨o,hk0 b o ho⟩) hns₁ hk
 have st0:tn 0 h₁:=T.keep _ _ _ st λb _ o e=>hk b o (hk0 b o e)
 have stat:∀{H':Hp},(∀b∈fp,H' b=none)->∀b∈fp,eX (cJ X N scope cl s3.heap.objs.size fp s3 (upd H s.heap.objs.size (.lst []))) [] H' b:=λhn b hb=>
  ⟨hn b hb,(J0.ok.exf b hb).1,J0.ok.exfs b hb,.inl hb,(J0.ok.exf b hb).2,λp hp=>absurd (show p∈([]:List (Addr×Obj)) from hp) (by simp)⟩
 have loop:∀s4:Shared,s4={s3 with heap:=h₁}->codeAny (model X.prog X.w) X.A (.compLoop (.ListComp elt [⟨tg,iter,ifs,0⟩] scope pos) 0 (.ref it) (.ref s.heap.objs.size) (compEnvC scope cl s3.heap.objs.size X.env))
   (RR (.ref s.heap.objs.size) s3.heap.objs.size) s4:=by
  rintro s4 rfl
  refine zDB (λn s'=>∃i ow H' ys,Inv (cJ X N scope cl s3.heap.objs.size fp s3 (upd H s.heap.objs.size (.lst []))) [] (ow++σf fr σ) H' s'/\ow.length=own/\tn i s'.heap/\(∀b∈fp,H' b=none)/\H' s.heap.objs.size=some (.lst ys)/\(n=n0-i/\i<=n0)/\W i ys H') ?_ n0
   ⟨0,List.replicate own none,_,[],J0,by simp,st0,λb hb=>(fp3 b hb).1,bB,⟨rfl,qs_ _⟩,w0⟩
  rintro n s5 ⟨i,ow,H5,ys,I5,hlo,st5,fr5,ha5,⟨rfl,hi5⟩,w5⟩
  rcases turn i ys H5 hi5 ha5 w5 with⟨stop,qn⟩|⟨hin,go,step⟩
  ·refine thn (T.done (cJ X N scope cl s3.heap.objs.size fp s3 (upd H s.heap.objs.size (.lst []))) rfl rfl rfl hc i [] s5 _ H5 (λ_ _=>False) I5 (stat fr5) st5 stop) λr s6 ⟨hr,I6⟩=>?_
   subst hr
   have IX:Inv X pins σ H5 s6:=I3.call' I6.os I6.base I6.hok I6.bare λb hb=>let ⟨_,f2,_,f4,f5,f6⟩:=fp3 b hb;⟨f4,f2,f5,f6⟩
   refine hRR _ _ s6 H5 IX qn (I3.fpOk (qe_ _) I6.free) ?_
   obtain⟨m,hn,_⟩:=I6.loc
   exact⟨m,hn⟩
  ·refine thn (T.item (cJ X N scope cl s3.heap.objs.size fp s3 (upd H s.heap.objs.size (.lst []))) rfl rfl rfl hc i [] s5 _ H5 (λ_ _=>False) I5 (stat fr5) st5 go) λr s6 ⟨u,hr,h6⟩=>?_
   subst hr
   refine thn h6 λ_ s7 ⟨x,H7,I7,r7,y7,st7,fr7⟩=>?_
   have I7':=(I7.pinned (stat fr7) (T.obj _ _ st7)).weak (σ':=σc own fr σ) (by unfold σc;simp[hlo]) (λj v e=>by
    unfold σc at e
    rcases Nat.lt_or_ge j own with z|z
    ·rw[qI1_ (by simpa using z),qd2_]at e
     split at e<;>cases e
    ·rw[qH1_ (by simpa using z)]at e
     rw[qH1_ (by rw[hlo];exact z),hlo]
     simpa using e)
   refine thn (hg _ _ _ _ s7 _ H7 x u _ I7' r7 (step x H7 y7)) λ_ s8 ⟨σ8,H8,I8,⟨ow8,hl8,e8⟩,q8⟩=>?_
   refine thn (hf _ _ _ _ s8 _ H8 _ I8 q8) λok s9 ⟨H9,I9,q9⟩=>?_
   have again:∀{H':Hp} {s':Shared},Inv (cJ X N scope cl s3.heap.objs.size fp s3 (upd H s.heap.objs.size (.lst []))) ([]++oI fp s7.heap) σ8 H' s'->∀{ys':List V},H' s.heap.objs.size=some (.lst ys')->W (i+1) ys' H' ->
     ∃m,m<n0-i/\∃i ow H' ys,Inv (cJ X N scope cl s3.heap.objs.size fp s3 (upd H s.heap.objs.size (.lst []))) [] (ow++σf fr σ) H' s'/\ow.length=own/\tn i s'.heap/\(∀b∈fp,H' b=none)/\H' s.heap.objs.size=some (.lst ys)/\(m=n0-i/\i<=n0)/\W i ys H':=λ{H' s'} I' {ys'} ha hw'=>by
    refine⟨n0-(i+1),by omega,i+1,ow8,H',ys',e8▸I'.unpinned,hl8,T.keep _ _ _ st7 λb hb o e=>(I'.pin (b,o) (qq_ _ (qq_ _ (pU hb e)))).1,λb hb=>?_,ha,⟨rfl,hin⟩,hw'⟩
    obtain⟨o,e,_⟩:=T.obj _ _ st7 b hb
    exact(I'.pin (b,o) (qq_ _ (qq_ _ (pU hb e)))).2.1
   cases ok with
   |false=>
    have q9':H9 s.heap.objs.size=some (.lst ys)/\W (i+1) ys H9:=by simpa using q9
    obtain⟨ha,hw'⟩:=q9'
    show if false=true then _ else _
    rw[if_neg (by decide)]
    exact again I9 ha hw'
   |true=>
    rw[if_pos rfl]at q9
    show if true=true then _ else _
    rw[if_pos rfl]
    refine thn (he _ _ _ _ s9 _ H9 _ I9 q9) λy s10 ⟨v10,H10,I10,r10,ha10,hz10,hw'⟩=>?_
    refine thn (uG _ s10 _ H10 (.ref s.heap.objs.size) [v10] (.ref s.heap.objs.size) [y] (λ_ H'=>H'=upd H10 s.heap.objs.size (.lst (ys++[v10]))) I10 rfl (.cons r10 .nil) ⟨_,ys,v10,rfl,rfl,ha10,hz10,rfl⟩) λ_ s11 ⟨_,H11,I11,_,e11⟩=>?_
    subst e11
    exact again I11 bB hw'
 exact codeAny_compStart_list (loop _ (by rw[<-hs3];rfl)) (T.self X.A 0 _ _ _ st0 (loop _ (by rw[<-hs3];rfl)))
end
def wO(own:Nat)(fr:List Nat)(wi:TI)(g:TG)(tf:TT)(te:TE):TE:=λσ H Q=>wi σ H λJ H1=>∀a,H1 a=none->zCS J a own fr g tf te σ H1 Q
section
variable{X:Cx}{sc:Scope}{XN N:List Str}{own:Nat}{fr:List Nat}{scope:Scope}{elt tg iter:Expr}{ifs:List Expr}{pos:Pos}{wi:TI}{g:TG}{tf:TT}{te:TE}
theorem zG6(hc:X.calm=true)(S:kA sc XN N own fr scope)(hi:PI X tg iter wi)
  (hg:∀cl C fp s H,PG (cJ X N scope cl C fp s H) tg g) (hf:∀cl C fp s H,PFs (cJ X N scope cl C fp s H) ifs tf) (he:∀cl C fp s H,PE (cJ X N scope cl C fp s H) elt te)
  (hs:∀x,foldedSetIterable iter X.env x=pure x:=by intro _;rfl) (hsc:X.env.scope=sc:=by rfl) (hxn:X.N=XN:=by rfl):PE X (.ListComp elt [⟨tg,iter,ifs,0⟩] scope pos) (wO own fr wi g tf te):=by
 subst hsc hxn
 intro pins s σ H Q I h
 obtain⟨cl,c1,c2,c3⟩:=zO (scope:=scope) (env:=X.env) λy hy e=>I.ok.has y.1 (S.free y hy e)
 rw[eval_ListComp]
 refine wpAny_comprehension_free (use:=none) rfl hs c1 S.kind S.loc (thn (hi pins s σ H _ I h) λxv s1 h1=>thn h1 λitv s2 h2=>?_)
 obtain⟨it,fp,tn,J,H2,e,I2,T,st2,f2,hw⟩:=h2
 subst e
 refine zN hc S c2 c3 (λC s H=>hg cl C fp s H) (λC s H=>hf cl C fp s H) (λC s H=>he cl C fp s H) I2 T st2 f2 hw λa C s' H' I' q fC ⟨m,hn⟩=>?_
 refine⟨m,hn,λh' hs'=>?_⟩
 obtain⟨f0,f1,_,f3,f4,f5⟩:=fC
 exact⟨.ref a,H',I'.turned (t':=s'.toks) (λb o hb e=>hs'.extBut b o hb e) f0 f1 f3 f4 f5,rfl,q⟩
theorem zBA{i:Nat}{x:Str}{pos' spos:Pos}(hc:X.calm=true)(hN:X.N.Nodup)(hx:X.N[i]?=some x)(hl:Loc X.env.scope x)(S:kA sc XN N own fr scope)(hi:PI X tg iter wi)
  (hg:∀cl C fp s H,PG (cJ X N scope cl C fp s H) tg g) (hf:∀cl C fp s H,PFs (cJ X N scope cl C fp s H) ifs tf) (he:∀cl C fp s H,PE (cJ X N scope cl C fp s H) elt te)
  (hsw:swapsWith (.ListComp elt [⟨tg,iter,ifs,0⟩] scope pos) (some (.Name x pos')) spos.line X.env=pure true:=by rfl)
  (hf':X.fn x=true\/X.env.scope.names.lookup x=some .local:=by first|exact .inl rfl|exact .inr rfl|assumption)
  (hs:∀x,foldedSetIterable iter X.env x=pure x:=by intro _;rfl) (hsc:X.env.scope=sc:=by rfl) (hxn:X.N=XN:=by rfl):PS X (.Assign [.Name x pos'] (.ListComp elt [⟨tg,iter,ifs,0⟩] scope pos) spos) (sC (wO own fr wi g tf te) (rZ i)):=by
 subst hsc hxn
 intro pins s σ H D I h
 obtain⟨cl,c1,c2,c3⟩:=zO (scope:=scope) (env:=X.env) λy hy e=>I.ok.has y.1 (S.free y hy e)
 rw[exec_Assign_Name_used _ _ _ _ hsw]
 refine qa_ (wpAny_standAt (qa_ ?_))
 show wpAny _ X.A (do let _ <- comprehension (.ListComp elt [⟨tg,iter,ifs,0⟩] scope pos) scope X.env _ (newList []) false (eval iter X.env) (some (assign (.Name x pos') X.env))) _ _ s
 refine qa_ (wpAny_mono (wpAny_comprehension_free (use:=some (assign (.Name x pos') X.env)) (Q:=λ_ s'=>SP X pins D .next s') rfl hs c1 S.kind S.loc
  (thn (hi pins s σ H _ I h) λxv s1 h1=>thn h1 λitv s2 h2=>?_)) (λ_ s' hq=>qb_ (qb_ hq)) λ_ _ e=>e)
 obtain⟨it,fp,tn,J,H2,e,I2,T,st2,f2,hw⟩:=h2
 subst e
 refine zN hc S c2 c3 (λC s H=>hg cl C fp s H) (λC s H=>hf cl C fp s H) (λC s H=>he cl C fp s H) I2 T st2 f2 hw λa C s' H' I' q fC ⟨m,hn⟩=>?_
 obtain⟨f0,f1,f2',f3,f4,f5⟩:=fC
 show wpAny _ _ (assign (.Name x pos') X.env (.ref a)) _ _ _
 refine wpAny_assign_Name (zAa I' hN hx hl (show RelV (.ref a) (.ref a) from rfl) (λs2 J2 ⟨b,hb,hb'⟩=>?_) hf')
 have hbC:C≠b:=by
  rcases hb' with z|z
  ·rw[z];exact f1
  ·exact λe=>f4 _ _ z e.symm
 refine⟨m,hn.sameBut hb hbC,λh' hs'=>?_⟩
 exact⟨_,H',J2.turned (t':=s2.toks) (λb o hb e=>hs'.extBut b o hb e) f0 f1 f3 f4 f5,q⟩
end
end L2
namespace L2
open PySem PySem.Spec PyProof.Rows
section
variable{X:Cx}
def TyV(K:W.Frag)(T:String)(x:V)(H:Hp)(b:Bool):Prop:=match x with
 |.non=>b=false
 |.bl _=>b=(T=="bool" || T=="int")
 |.int _=>b=(T=="int")
 |.str _=>b=(T=="str")
 |.ref a=>(∃xs,SqL K H a xs/\b=(T=="list"))\/(∃xs,SqT K H a xs/\b=(T=="tuple"))\/(∃kvs,Rd H a (.dK kvs)/\b=(T=="dict"))
 |_=>False
theorem lH{prog:Program}{w:World}{A:Around}{E:Value->Shared->Prop}{s:Shared}{Q:Value->Shared->Prop}{T:String}(hne:(Value.type "NoneType"==Value.type T)=false)(hty:typeOf (.type T)=pure (.type "type"))
  (hsub:isSubtype (.type "NoneType") (.type T)=pure false) (h:Q (.bool false) {s with toks:=s.toks+1}):wpAny (model prog w) A (call (.builtin "isinstance") [.none,.type T]) Q E s:=
 call_isinstance (S:=λ_ R s=>R (.ok (.ret (.bool false))) {s with toks:=s.toks+1}) (λ_ _ _ _ s hs=>by
  obtain⟨h,g,d,t,os⟩:=s
  exact isinstance_outer (isinstance_nested_false_none hne hty hsub hs)) h
theorem Inv.lcls{pins:List (Addr×Obj)}{σ:St}{H:Hp}{s:Shared}{a:Addr}{xs:List V}(I:Inv X pins σ H s)(h:SqL X.K H a xs):∃o,s.heap.get? a=some o/\o.cls=.type "list":=by
 obtain⟨its,r,pl,hz⟩:=I.list h
 obtain⟨o,ho,hc,_⟩:=pl.isList
 exact⟨o,ho,hc⟩
theorem Inv.tcls{pins:List (Addr×Obj)}{σ:St}{H:Hp}{s:Shared}{a:Addr}{xs:List V}(I:Inv X pins σ H s)(h:SqT X.K H a xs):∃o,s.heap.get? a=some o/\o.cls=.type "tuple":=by
 obtain⟨its,r,⟨o,ho,hc,_⟩,hz⟩:=I.tuple h
 exact⟨o,ho,hc⟩
theorem Inv.dcls{pins:List (Addr×Obj)}{σ:St}{H:Hp}{s:Shared}{a:Addr}{kvs:List (Key×V)}(I:Inv X pins σ H s)(h:Rd H a (.dK kvs)):∃o,s.heap.get? a=some o/\o.cls=.type "dict":=by
 obtain⟨_,_,vs,_,dd⟩:=h.ok I.hok
 obtain⟨o,ho,hc⟩:=dd.typeIs
 exact⟨o,ho,hc⟩
theorem kY:CallR X (.builtin "isinstance") (λxs H Q=>∃x b,xs=[x,.ty "int"]/\TyV X.K "int" x H b/\Q (.bl b) H):=by
 intro pins s σ H xs us Q I r h
 obtain⟨x,b,rfl,hx,q⟩:=h
 obtain⟨u,w',rfl,rx,ry⟩:=iU r
 cases ry
 cases x with
 |non=>cases rx;cases hx;exact lH (by decide +kernel) F.isi_meta_int F.sub_NoneType_int ⟨.bl _,H,I.tok _,rfl,q⟩
 |bl k=>cases rx;cases hx;exact IsiPair.bool_int ⟨.bl _,H,I,rfl,q⟩
 |int i=>obtain⟨t,rfl⟩:=rx;cases hx;exact IsiPair.int_int ⟨.bl _,H,I,rfl,q⟩
 |str i=>obtain⟨t,rfl⟩:=rx;cases hx;exact IsiPair.str_int ⟨.bl _,H,I.tok _,rfl,q⟩
 |ref a=>
  cases rx
  rcases hx with⟨xs,hx,rfl⟩|⟨xs,hx,rfl⟩|⟨xs,hx,rfl⟩
  ·obtain⟨o,ho,hc⟩:=I.lcls hx;exact IsiPair.list_int ho hc ⟨.bl _,H,I.tok _,rfl,q⟩
  ·obtain⟨o,ho,hc⟩:=I.tcls hx;exact IsiPair.tuple_int ho hc ⟨.bl _,H,I.tok _,rfl,q⟩
  ·obtain⟨o,ho,hc⟩:=I.dcls hx;exact IsiPair.dict_int ho hc ⟨.bl _,H,I.tok _,rfl,q⟩
 |_=>exact False.elim hx
theorem jW:CallR X (.builtin "isinstance") (λxs H Q=>∃x b,xs=[x,.ty "bool"]/\TyV X.K "bool" x H b/\Q (.bl b) H):=by
 intro pins s σ H xs us Q I r h
 obtain⟨x,b,rfl,hx,q⟩:=h
 obtain⟨u,w',rfl,rx,ry⟩:=iU r
 cases ry
 cases x with
 |non=>cases rx;cases hx;exact lH (by decide +kernel) F.isi_meta_bool F.sub_NoneType_bool ⟨.bl _,H,I.tok _,rfl,q⟩
 |bl k=>cases rx;cases hx;exact IsiPair.bool_bool ⟨.bl _,H,I,rfl,q⟩
 |int i=>obtain⟨t,rfl⟩:=rx;cases hx;exact IsiPair.int_bool ⟨.bl _,H,I.tok _,rfl,q⟩
 |str i=>obtain⟨t,rfl⟩:=rx;cases hx;exact IsiPair.str_bool ⟨.bl _,H,I.tok _,rfl,q⟩
 |ref a=>
  cases rx
  rcases hx with⟨xs,hx,rfl⟩|⟨xs,hx,rfl⟩|⟨xs,hx,rfl⟩
  ·obtain⟨o,ho,hc⟩:=I.lcls hx;exact IsiPair.list_bool ho hc ⟨.bl _,H,I.tok _,rfl,q⟩
  ·obtain⟨o,ho,hc⟩:=I.tcls hx;exact IsiPair.tuple_bool ho hc ⟨.bl _,H,I.tok _,rfl,q⟩
  ·obtain⟨o,ho,hc⟩:=I.dcls hx;exact IsiPair.dict_bool ho hc ⟨.bl _,H,I.tok _,rfl,q⟩
 |_=>exact False.elim hx
theorem kX:CallR X (.builtin "isinstance") (λxs H Q=>∃x b,xs=[x,.ty "str"]/\TyV X.K "str" x H b/\Q (.bl b) H):=by
 intro pins s σ H xs us Q I r h
 obtain⟨x,b,rfl,hx,q⟩:=h
 obtain⟨u,w',rfl,rx,ry⟩:=iU r
 cases ry
 cases x with
 |non=>cases rx;cases hx;exact lH (by decide +kernel) F.isi_meta_str F.sub_NoneType_str ⟨.bl _,H,I.tok _,rfl,q⟩
 |bl k=>cases rx;cases hx;exact IsiPair.bool_str ⟨.bl _,H,I.tok _,rfl,q⟩
 |int i=>obtain⟨t,rfl⟩:=rx;cases hx;exact IsiPair.int_str ⟨.bl _,H,I.tok _,rfl,q⟩
 |str i=>obtain⟨t,rfl⟩:=rx;cases hx;exact IsiPair.str_str ⟨.bl _,H,I,rfl,q⟩
 |ref a=>
  cases rx
  rcases hx with⟨xs,hx,rfl⟩|⟨xs,hx,rfl⟩|⟨xs,hx,rfl⟩
  ·obtain⟨o,ho,hc⟩:=I.lcls hx;exact IsiPair.list_str ho hc ⟨.bl _,H,I.tok _,rfl,q⟩
  ·obtain⟨o,ho,hc⟩:=I.tcls hx;exact IsiPair.tuple_str ho hc ⟨.bl _,H,I.tok _,rfl,q⟩
  ·obtain⟨o,ho,hc⟩:=I.dcls hx;exact IsiPair.dict_str ho hc ⟨.bl _,H,I.tok _,rfl,q⟩
 |_=>exact False.elim hx
theorem mV:CallR X (.builtin "isinstance") (λxs H Q=>∃x b,xs=[x,.ty "list"]/\TyV X.K "list" x H b/\Q (.bl b) H):=by
 intro pins s σ H xs us Q I r h
 obtain⟨x,b,rfl,hx,q⟩:=h
 obtain⟨u,w',rfl,rx,ry⟩:=iU r
 cases ry
 cases x with
 |non=>cases rx;cases hx;exact lH (by decide +kernel) F.isi_meta_list F.sub_NoneType_list ⟨.bl _,H,I.tok _,rfl,q⟩
 |bl k=>cases rx;cases hx;exact IsiPair.bool_list ⟨.bl _,H,I.tok _,rfl,q⟩
 |int i=>obtain⟨t,rfl⟩:=rx;cases hx;exact IsiPair.int_list ⟨.bl _,H,I.tok _,rfl,q⟩
 |str i=>obtain⟨t,rfl⟩:=rx;cases hx;exact IsiPair.str_list ⟨.bl _,H,I.tok _,rfl,q⟩
 |ref a=>
  cases rx
  rcases hx with⟨xs,hx,rfl⟩|⟨xs,hx,rfl⟩|⟨xs,hx,rfl⟩
  ·obtain⟨o,ho,hc⟩:=I.lcls hx;exact IsiPair.list_list ho hc ⟨.bl _,H,I,rfl,q⟩
  ·obtain⟨o,ho,hc⟩:=I.tcls hx;exact IsiPair.tuple_list ho hc ⟨.bl _,H,I.tok _,rfl,q⟩
  ·obtain⟨o,ho,hc⟩:=I.dcls hx;exact IsiPair.dict_list ho hc ⟨.bl _,H,I.tok _,rfl,q⟩
 |_=>exact False.elim hx
theorem yI:CallR X (.builtin "isinstance") (λxs H Q=>∃x b,xs=[x,.ty "tuple"]/\TyV X.K "tuple" x H b/\Q (.bl b) H):=by
 intro pins s σ H xs us Q I r h
 obtain⟨x,b,rfl,hx,q⟩:=h
 obtain⟨u,w',rfl,rx,ry⟩:=iU r
 cases ry
 cases x with
 |non=>cases rx;cases hx;exact lH (by decide +kernel) F.isi_meta_tuple F.sub_NoneType_tuple ⟨.bl _,H,I.tok _,rfl,q⟩
 |bl k=>cases rx;cases hx;exact IsiPair.bool_tuple ⟨.bl _,H,I.tok _,rfl,q⟩
 |int i=>obtain⟨t,rfl⟩:=rx;cases hx;exact IsiPair.int_tuple ⟨.bl _,H,I.tok _,rfl,q⟩
 |str i=>obtain⟨t,rfl⟩:=rx;cases hx;exact IsiPair.str_tuple ⟨.bl _,H,I.tok _,rfl,q⟩
 |ref a=>
  cases rx
  rcases hx with⟨xs,hx,rfl⟩|⟨xs,hx,rfl⟩|⟨xs,hx,rfl⟩
  ·obtain⟨o,ho,hc⟩:=I.lcls hx;exact IsiPair.list_tuple ho hc ⟨.bl _,H,I.tok _,rfl,q⟩
  ·obtain⟨o,ho,hc⟩:=I.tcls hx;exact IsiPair.tuple_tuple ho hc ⟨.bl _,H,I,rfl,q⟩
  ·obtain⟨o,ho,hc⟩:=I.dcls hx;exact IsiPair.dict_tuple ho hc ⟨.bl _,H,I.tok _,rfl,q⟩
 |_=>exact False.elim hx
theorem kW:CallR X (.builtin "isinstance") (λxs H Q=>∃x b,xs=[x,.ty "dict"]/\TyV X.K "dict" x H b/\Q (.bl b) H):=by
 intro pins s σ H xs us Q I r h
 obtain⟨x,b,rfl,hx,q⟩:=h
 obtain⟨u,w',rfl,rx,ry⟩:=iU r
 cases ry
 cases x with
 |non=>cases rx;cases hx;exact lH (by decide +kernel) F.isi_meta_dict F.sub_NoneType_dict ⟨.bl _,H,I.tok _,rfl,q⟩
 |bl k=>cases rx;cases hx;exact IsiPair.bool_dict ⟨.bl _,H,I.tok _,rfl,q⟩
 |int i=>obtain⟨t,rfl⟩:=rx;cases hx;exact IsiPair.int_dict ⟨.bl _,H,I.tok _,rfl,q⟩
 |str i=>obtain⟨t,rfl⟩:=rx;cases hx;exact IsiPair.str_dict ⟨.bl _,H,I.tok _,rfl,q⟩
 |ref a=>
  cases rx
  rcases hx with⟨xs,hx,rfl⟩|⟨xs,hx,rfl⟩|⟨xs,hx,rfl⟩
  ·obtain⟨o,ho,hc⟩:=I.lcls hx;exact IsiPair.list_dict ho hc ⟨.bl _,H,I.tok _,rfl,q⟩
  ·obtain⟨o,ho,hc⟩:=I.tcls hx;exact IsiPair.tuple_dict ho hc ⟨.bl _,H,I.tok _,rfl,q⟩
  ·obtain⟨o,ho,hc⟩:=I.dcls hx;exact IsiPair.dict_dict ho hc ⟨.bl _,H,I,rfl,q⟩
 |_=>exact False.elim hx
theorem zFd(hc:X.calm=true):CallR X (.builtin "sum") (λxs H Q=>∃(p:Addr) (ns:List Int),xs=[.ref p]/\SqL X.K H p (ns.map V.int)/\Q (.int ns.sum) H):=by
 intro pins s σ H xs us Q I r h
 obtain⟨p,ns,rfl,hq,q⟩:=h
 obtain⟨u,rfl,rx⟩:=cQ r
 cases rx
 obtain⟨its,rv,pl,hz⟩:=I.list hq
 have hi:IntsAre its ns:=pV rv
 have hall:=hi.allInts
 have e0:=hi.numsOf
 obtain⟨xs,ex⟩:=hall.items
 have e1:numsOf (intItems xs).toList=ns:=by rw[<-ex];exact e0
 rw[nums_intItems]at e1
 have hl:=pl.isList
 rw[ex]at hl
 refine sum_intListG (I.ok.hd hc) hl λh' tk t' hk=>⟨.int ns.sum,H,I.kept hk,⟨t',?_⟩,q⟩
 rw[preSum_eq,qs2_ (by simp),e1]
theorem zDJ{prog:Program}{w:World}{A:Around}{bs:List Bool}{its:List Value}(rv:Vals (bs.map V.bl) its):TruthOf prog w A (λi v=>its.toArray[i]?=some v) λi=>bs.getD i false:=by
 intro i v s Q E hP hQ
 have hi:its[i]?=some v:=by simpa using hP
 have hl:=rv.length
 rw[qc_]at hl
 have hlt:i<bs.length:=by rw[hl];exact(qx_.mp hi).1
 obtain⟨u,hu,ru⟩:=rv.get (i:=i) (x:=V.bl (bs.getD i false)) (by rw[qv_,qV_,qk_ hlt];rfl)
 rw[hi]at hu
 cases hu
 cases ru
 exact wpAny_truthy_bool hQ
theorem zEG(bs:List Bool):(List.range bs.length).any (λi=>bs.getD i false)=bs.any id:=by
 induction bs with
 |nil=>rfl
 |cons b r ih=>
  rw[qI_,qt2_,qA1_,qA1_,List.any_map]
  rw[<-ih]
  rfl
theorem zFj(hc:X.calm=true):CallR X (.builtin "any") (λxs H Q=>∃(p:Addr) (bs:List Bool),xs=[.ref p]/\SqL X.K H p (bs.map V.bl)/\Q (.bl (bs.any id)) H):=by
 intro pins s σ H xs us Q I r h
 obtain⟨p,bs,rfl,hq,q⟩:=h
 obtain⟨u,rfl,rx⟩:=cQ r
 cases rx
 obtain⟨its,rv,pl,hz⟩:=I.list hq
 have hlt:p<s.heap.objs.size:=by obtain⟨_,e,_⟩:=pl.isList;exact qg_ e
 have hll:=rv.length
 rw[qc_]at hll
 refine call_any_walk (wpAny_pyIter_list pl.isList ?_)
 refine⟨s.heap.objs.size,_,_,_,_,_,λi=>bs.getD i false,rfl,Walks.list (A:=X.A.in1) (I.ok.hd hc) _ p (qm_ hlt) its.toArray,⟨⟨_,qi_ _ rfl,rfl,rfl⟩,pl.isList.at λo e=>qd_ _ e⟩,zDJ rv,λh' tk hk=>?_⟩
 refine⟨.bl (bs.any id),H,I.kept λb o e=>hk b o (by simpa using qm_ (qg_ e)) (qd_ _ e),?_,q⟩
 show Value.bool _=Value.bool _
 rw[qn_,<-hll,zEG]
def fU:List V->List V->Bool
 |[],[]=>true
 |x::xs,y::ys=>eqV x y&&fU xs ys
 |_,_=>false
theorem zBa:∀{xs ys:List V},xs.length≠ys.length->fU xs ys=false
 |[],[],h=>absurd rfl h
 |[],_::_,_=>rfl
 |_::_,[],_=>rfl
 |x::xs,y::ys,h=>by
  have:=zBa (xs:=xs) (ys:=ys) (λe=>h (by simp[e]))
  simp[fU,this]
theorem zM:∀{xs ys:List V},xs.length=ys.length->(List.range xs.length).all (λi=>eqV (xs.getD i .non) (ys.getD i .non))=fU xs ys
 |[],[],_=>rfl
 |[],_::_,h=>by simp at h
 |_::_,[],h=>by simp at h
 |x::xs,y::ys,h=>by
  have ih:=zM (xs:=xs) (ys:=ys) (by simpa using h)
  rw[qI_,qt2_,List.all_cons,List.all_map]
  show(eqV x y&&(List.range xs.length).all λi=>eqV (xs.getD i .non) (ys.getD i .non))=(eqV x y&&fU xs ys)
  rw[ih]
theorem zGy{A:Around}{s:Shared}{xs ys:List V}{us ws:List Value}(r:Vals xs us)(r':Vals ys ws)(fx:xs.all dI=true)(fy:ys.all dI=true)(j:Nat)(h1:j<us.toArray.size)(h2:j<ws.toArray.size):
  SeqAt.EqAt A s us.toArray[j] ws.toArray[j] (eqV (xs.getD j .non) (ys.getD j .non)):=by
 have l1:=r.length
 have l2:=r'.length
 have k1:j<xs.length:=by rw[l1];simpa using h1
 have k2:j<ys.length:=by rw[l2];simpa using h2
 obtain⟨u,hu,ru⟩:=r.get (i:=j) (x:=xs.getD j .non) (by rw[qV_,qk_ k1];rfl)
 obtain⟨w',hw,rw'⟩:=r'.get (i:=j) (x:=ys.getD j .non) (by rw[qV_,qk_ k2];rfl)
 have e1:us.toArray[j]=u:=by
  obtain⟨_,e⟩:=qx_.mp hu
  simpa using e
 have e2:ws.toArray[j]=w':=by
  obtain⟨_,e⟩:=qx_.mp hw
  simpa using e
 rw[e1,e2]
 refine zCw ru rw' (qM1_.mp fx _ ?_) (qM1_.mp fy _ ?_)
 ·rw[qV_,qk_ k1];exact qN1_ k1
 ·rw[qV_,qk_ k2];exact qN1_ k2
def zKS(K:W.Frag)(neg:Bool):R2:=λx y H Q=>∃p q xs ys,x=.ref p/\y=.ref q/\SqL K H p xs/\SqL K H q ys/\xs.all dI=true/\ys.all dI=true/\Q (.bl (if neg then !fU xs ys else fU xs ys)) H
theorem zIU(hu:X.A.units<cLine):OpR X (compareOp .Eq) (zKS X.K false):=by
 intro pins s σ H x y v u Q I rx ry h
 obtain⟨p,q,xs,ys,rfl,rfl,hx,hy,fx,fy,k⟩:=h
 cases rx
 cases ry
 obtain⟨us,r1,p1,z1⟩:=I.list hx
 obtain⟨ws,r2,p2,z2⟩:=I.list hy
 by_cases hl:xs.length=ys.length
 ·refine SeqAt.eq_listAt p1.isList p2.isList (by simp[<-r1.length,<-r2.length,hl]) hu (λj h1 h2=>zGy r1 r2 fx fy j h1 h2) ⟨.bl (fU xs ys),H,I,?_,k⟩
  show Value.bool _=Value.bool _
  rw[qn_,<-r1.length,zM hl]
 ·refine SeqAt.eq_list_lengthsAt p1.isList p2.isList (by simp[<-r1.length,<-r2.length,hl]) hu ⟨.bl (fU xs ys),H,I,?_,k⟩
  rw[zBa hl];rfl
theorem zFD(n:Nat):sliceRange (sliceBounds none none (some (-1)) n).1 (sliceBounds none none (some (-1)) n).2.1 (sliceBounds none none (some (-1)) n).2.2=(List.range n).map λk=>n-1-k:=by
 have e:sliceBounds none none (some (-1)) n=((n:Int)-1,-1,-1):=by simp[sliceBounds]
 rw[e]
 unfold sliceRange
 simp only[show ¬ ((-1:Int) > 0) by decide,if_false]
 by_cases hn:n=0
 ·subst hn;simp
 ·have h1:(n:Int)-1 > -1:=by omega
  rw[if_pos h1]
  have h2:(((n:Int)-1 - -1 - -1-1) / (- -1)).toNat=n:=by
   rw[show(n:Int)-1 - -1 - -1-1=n by omega,show(- -1:Int)=1 by decide,Int.ediv_one]
   exact Int.toNat_natCast n
  rw[h2]
  refine qu2_ λk hk=>?_
  have:=qu1_.mp hk
  omega
theorem zA8{α β:Type}{f g:α->Option β}:∀{l:List α},(∀x∈l,f x=g x)->l.filterMap f=l.filterMap g
 |[],_=>rfl
 |x::r,h=>by rw[qH_,qH_,h x qi1_,zA8 λy hy=>h y (qc1_ _ hy)]
theorem zAe{α:Type}:∀zs:List α,(List.range zs.length).filterMap (λk=>zs.reverse[zs.length-1-k]?)=zs
 |[]=>rfl
 |z::r=>by
  rw[qI_,qt2_,qH_,qo2_]
  have h0:(z::r).reverse[r.length+1-1-0]?=some z:=by simp
  rw[h0]
  have h1:List.filterMap ((λk=>(z::r).reverse[r.length+1-1-k]?)∘Nat.succ) (List.range r.length)=List.filterMap (λk=>r.reverse[r.length-1-k]?) (List.range r.length):=by
   apply zA8
   intro k hk
   have hk:=qu1_.mp hk
   show(z::r).reverse[r.length+1-1-(k+1)]?=r.reverse[r.length-1-k]?
   rw[qa3_,qI1_ (by simp;omega)]
   rw[show r.length+1-1-(k+1)=r.length-1-k by omega]
  rw[h1,zAe r]
theorem zFN{α:Type}(xs:List α):((List.range xs.length).map λk=>xs.length-1-k).filterMap (λi=>xs[i]?)=xs.reverse:=by
 have:=zAe xs.reverse
 rw[qb3_,List.reverse_reverse]at this
 rw[qo2_]
 exact this
theorem zDr(its:List Value):slicePick its.toArray none none (some (-1))=its.reverse.toArray:=by
 unfold slicePick
 rw[qn_,zFD]
 congr 1
 have:=zFN its
 simpa using this
def zKz(K:W.Frag)(te tst:TE):TE:=λσ H Q=>te σ H λx H1=>tst σ H1 λy H2=>y=.int (-1)/\∃p xs,x=.ref p/\SqL K H2 p xs/\∀l,H2 l=none->Q (.ref l) (upd H2 l (.lst xs.reverse))
theorem zIF{e st:Expr}{te tst:TE}{pos p2:Pos}(he:PE X e te)(hst:PE X st tst)(ht:∀o r,letTemporaryGo e o r=pure ():=by intro _ _;rfl):PE X (.Subscript e (.Slice none none (some st) p2) pos) (zKz X.K te tst):=by
 intro pins s σ H Q I h
 refine wpAny_Subscript_Slice_step (T:="list") slot_list_getitem.lookup (thn (he pins s σ H _ I h) λv s1 ⟨x,H1,I1,r1,q1⟩=>?_) ht
 refine wpAny_Slice ?_
 rw[evalPart_none,evalPart_some]
 refine qb_ (qb_ (thn (hst pins s1 σ H1 _ I1 q1) λvs s2 ⟨y,H2,I2,r2,q2⟩=>?_))
 obtain⟨rfl,p,xs,rfl,hx,q⟩:=q2
 obtain⟨t,rfl⟩:=r2
 cases r1
 have I3:Inv X pins σ H2 {s2 with heap:=s2.heap.push {cls:=.type "slice",data:=.fields #[.none,.none,.int (-1) t]}}:=I2.kept (t':=s2.toks) λb ob q=>qd_ _ q
 obtain⟨its,rv,pl,hz⟩:=I3.list hx
 refine⟨pl.isList.typeIs,?_⟩
 refine wpAny_getItem_list_slice pl.isList (Heap.IsSliceOf.new ..) .none .none (.int (-1) t) (by decide) ?_ (by rw[qn_,<-rv.length];exact hz)
 rw[zDr]
 refine⟨.ref _,_,I3.laid (t':=s2.toks) (o:=.lst xs.reverse) (λb ob q=>qd_ _ q) (qe_ _) ?_,rfl,q _ (I3.hok.fresh (qe_ _))⟩
 exact⟨by rw[qb3_];exact hz,_,0,rv.reverse,qi_ _ rfl⟩
theorem zIR:OpR X (compareOp .Is) (λx y H Q=>∃b,y=.bl b/\Q (.bl (decide (x=.bl b))) H):=by
 intro pins s σ H x y v u Q I rx ry h
 obtain⟨b,rfl,q⟩:=h
 cases ry
 cases x with
 |non=>cases rx;exact wpAny_is_plain rfl ⟨.bl _,H,I,(by simp[RelV]),q⟩
 |bl k=>cases rx;exact wpAny_is_plain rfl ⟨.bl _,H,I,(by cases k<;>cases b<;>rfl),q⟩
 |int i=>obtain⟨t,rfl⟩:=rx;exact wpAny_is_plain rfl ⟨.bl _,H,I,(by simp[RelV]),q⟩
 |str i=>obtain⟨t,rfl⟩:=rx;exact wpAny_is_plain rfl ⟨.bl _,H,I,(by simp[RelV]),q⟩
 |byt i=>obtain⟨t,rfl⟩:=rx;exact wpAny_is_plain rfl ⟨.bl _,H,I,(by simp[RelV]),q⟩
 |flt i=>obtain⟨t,rfl⟩:=rx;exact wpAny_is_plain rfl ⟨.bl _,H,I,(by simp[RelV]),q⟩
 |ref i=>cases rx;exact wpAny_is_plain rfl ⟨.bl _,H,I,(by simp[RelV]),q⟩
 |ty i=>cases rx;exact wpAny_is_plain rfl ⟨.bl _,H,I,(by simp[RelV]),q⟩
theorem zEO:OpR X (compareOp .IsNot) (λx y H Q=>∃b,y=.bl b/\Q (.bl (!decide (x=.bl b))) H):=by
 intro pins s σ H x y v u Q I rx ry h
 obtain⟨b,rfl,q⟩:=h
 cases ry
 cases x with
 |non=>cases rx;exact wpAny_isNot_plain rfl ⟨.bl _,H,I,(by simp[RelV]),q⟩
 |bl k=>cases rx;exact wpAny_isNot_plain rfl ⟨.bl _,H,I,(by cases k<;>cases b<;>rfl),q⟩
 |int i=>obtain⟨t,rfl⟩:=rx;exact wpAny_isNot_plain rfl ⟨.bl _,H,I,(by simp[RelV]),q⟩
 |str i=>obtain⟨t,rfl⟩:=rx;exact wpAny_isNot_plain rfl ⟨.bl _,H,I,(by simp[RelV]),q⟩
 |byt i=>obtain⟨t,rfl⟩:=rx;exact wpAny_isNot_plain rfl ⟨.bl _,H,I,(by simp[RelV]),q⟩
 |flt i=>obtain⟨t,rfl⟩:=rx;exact wpAny_isNot_plain rfl ⟨.bl _,H,I,(by simp[RelV]),q⟩
 |ref i=>cases rx;exact wpAny_isNot_plain rfl ⟨.bl _,H,I,(by simp[RelV]),q⟩
 |ty i=>cases rx;exact wpAny_isNot_plain rfl ⟨.bl _,H,I,(by simp[RelV]),q⟩
def BigOk(j:Int):Prop:=j.natAbs<2 ^ 1024
theorem BigOk.log{j:Int}(h:BigOk j):j.natAbs.log2<9000:=by
 by_cases h0:j.natAbs=0
 ·rw[h0];decide +kernel
 ·have:j.natAbs.log2<1024:=(Nat.log2_lt h0).mpr h
  omega
theorem op_mulB:OpR X (binaryOp .Mult) (rI (λi j=>BigOk i/\BigOk j) λi j=>.int (i*j)):=opI λi j _ _ _ _ _ hc q=>by
 have bits:∀{x:Int},BigOk x->Builtin.Int.intBits x<=2 ^ 20:=λ{x} h=>by
  unfold Builtin.Int.intBits
  split
  ·exact qs_ _
  ·rename_i h0
   have h0':x.natAbs≠0:=λz=>h0 (by simpa using z)
   have:x.natAbs.log2<1024:=(Nat.log2_lt h0').mpr h
   omega
 exact mul_int q (.of_bits (bits hc.1) (bits hc.2))
theorem zAV:OpR X (binaryOp .FloorDiv) (rI (λ_ j=>0<j/\BigOk j) λi j=>.int (i / j)):=opI λi j _ _ _ _ _ hc q=>by
 have h1:(0:Int)<j:=hc.1
 exact floordiv_int (by omega) (by rw[qk3_ i (by omega)];exact q) (.inl (PyProof.noPylong_of_log2 hc.2.log))
end
end L2
namespace L2
open PySem PySem.Spec PyProof.Rows
def dN:Expr->Bool
 |.Starred ..=>true
 |_=>false
theorem gK{e:Expr}{rest:List Expr}{env:Env}(h:dN e=false):starEach (e::rest) env=(false,eval e env)::starEach rest env:=by
 cases e<;>first|rfl|exact Bool.noConfusion h
theorem cT{X:Cx}{e:Expr}{es:List Expr}{te:TE}{t:TA}(ha:PE X e te)(hr:PA X es t)(h:dN e=false:=by rfl):PA X (e::es) (wN te t):=zG9 ha hr (gK h)
def Good(P:Program)(w:World)(K:W.Frag)(mg:Str->Option Value)(base:Heap)(k:Nat)(x:Str)(ps:List Str)(sp:Sp):Prop:=
 ∃(f:Addr) (fd:FuncData),FnOk P w K mg base CX0 k f fd ps sp/\Binds K fd ps []/\mg x=some (.ref f)/\W.keepIn K (.ref f)=true
section
variable{X:Cx}{k:Nat}{x:Str}{ps:List Str}{sp:Sp}{e:Expr}{es:List Expr}{t:TA}{p pos:Pos}
theorem rV(G:Good X.prog X.w X.K X.mg X.base k x ps sp)(hr:Room k X.A)(hg:Gl X x)(ha:PA X (e::es) t)(hdb:(x==("__debug__":Str))=false:=by decide)
  (hst:dN e=false:=by rfl) (hpl:(backTo pos (starEach es X.env)).any (·.1)=false:=by rfl):PE X (.Call (.Name x p) (e::es) [] pos) (oO sp [] E0 t):=by
 obtain⟨f,fd,F,b,m,kp⟩:=G
 exact zG8 F hr hg m kp b .nil zCI ha hdb (gK hst) hpl
theorem zII(G:Good X.prog X.w X.K X.mg X.base k x ps sp)(hr:Room k X.A)(hg:Gl X x)(hdb:(x==("__debug__":Str))=false:=by decide):PE X (.Call (.Name x p) [] [] pos) (oO sp [] E0 sB):=by
 obtain⟨f,fd,F,b,m,kp⟩:=G
 exact zFU F hr hg m kp b .nil zCI hdb
end
def Has(K:W.Frag)(mg:Str->Option Value)(x:Str)(st:Stmt):Prop:=∃(f:Addr) (fd:FuncData),Fun K x x st f fd/\mg x=some (.ref f)
theorem Has.good{P:Program}{w:World}{K:W.Frag}{mg:Str->Option Value}{base:Heap}{x:Str}{st:Stmt}{N ps:List Str}{k:Nat}{sp:Sp}(h:Has K mg x st)(S:bA N ps (aN st))
  (hb:∀(kV doc pm:Value) (an:Option Addr) (cdv ct:Value) (us:List Value),us.length=ps.length->bindArgs (W.fnOf x x (gU st) (eZ st) (aN st) .none kV doc pm an cdv ct) ⟨us,[]⟩=pure (ps.zip us))
  (len:∀vs H Q E,sp vs H Q E->vs.length=ps.length)
  (hbody:∀(f:Addr) (cdv:Value) (A:Around) (outer:List Env) (s:Shared) (H:Hp) (vs:List V) (Q:VK) (E:XK),Room k (A.deeper (envOfC x (aN st) s.heap.objs.size f cdv))->sp vs H Q E ->
   ∃t,PSs (jU CX0 P w K mg base N x (aN st) f cdv A outer s H E).nox (eZ st) t/\t {nx:=λ_ H'=>Q .non H',rt:=Q} (dY N vs) H):Good P w K mg base (k+1) x ps sp:=by
 obtain⟨f,fd,F,m⟩:=h
 exact⟨f,fd,F.ok S len λcdv A outer s H vs Q E hr q=>hbody f cdv A outer s H vs Q E hr q,F.binds hb,m,F.kp⟩
theorem has_mk{K:W.Frag}{h:Heap}{mg:Str->Option Value}{x:Str}{st:Stmt}{f:Addr}{oc:Value}{od an:Option Addr}{osl:Array (Option Value)}{kV doc pm cdv ct:Value}(X:K.In h)(G:h.Ns mainGlobals mg)
  (a:W.nsIn K mainGlobals x=some (some (.ref f))) (l:K.lookup f=some ⟨oc,od,.func (W.fnOf x x (gU st) (eZ st) (aN st) .none kV doc pm an cdv ct),osl⟩)
  (c:W.codeIn K cdv x=true) (k:W.keepIn K (.ref f)=true):Has K mg x st:=⟨f,_,zCu l c k,PySem.W.mg_of X G a⟩
structure Own (mg:Str->Option Value):Prop where
 len:mg "len"=none
 range:mg "range"=none
 isinstance:mg "isinstance"=none
 int_:mg "int"=none
 bool_:mg "bool"=none
 str_:mg "str"=none
 list_:mg "list"=none
 tuple_:mg "tuple"=none
 dict_:mg "dict"=none
 sum:mg "sum"=none
 min:mg "min"=none
 max:mg "max"=none
 all:mg "all"=none
 any:mg "any"=none
 abs:mg "abs"=none
 zip:mg "zip"=none
 sorted:mg "sorted"=none
 set_:mg "set"=none
 enumerate:mg "enumerate"=none
theorem zIM{K:W.Frag}{h:Heap}{mg:Str->Option Value}(X:K.In h)(G:h.Ns mainGlobals mg)(z1:W.nsIn K mainGlobals "len"=some none)(z2:W.nsIn K mainGlobals "range"=some none)
    (z3:W.nsIn K mainGlobals "isinstance"=some none) (z4:W.nsIn K mainGlobals "int"=some none) (z5:W.nsIn K mainGlobals "bool"=some none) (z6:W.nsIn K mainGlobals "str"=some none)
    (z7:W.nsIn K mainGlobals "list"=some none) (z8:W.nsIn K mainGlobals "tuple"=some none) (z9:W.nsIn K mainGlobals "dict"=some none) (z10:W.nsIn K mainGlobals "sum"=some none)
    (z11:W.nsIn K mainGlobals "min"=some none) (z12:W.nsIn K mainGlobals "max"=some none) (z13:W.nsIn K mainGlobals "all"=some none) (z14:W.nsIn K mainGlobals "any"=some none)
    (z15:W.nsIn K mainGlobals "abs"=some none) (z16:W.nsIn K mainGlobals "zip"=some none) (z17:W.nsIn K mainGlobals "sorted"=some none) (z18:W.nsIn K mainGlobals "set"=some none)
    (z19:W.nsIn K mainGlobals "enumerate"=some none):Own mg:=
  ⟨qN_ X G z1,qN_ X G z2,qN_ X G z3,qN_ X G z4,qN_ X G z5,qN_ X G z6,qN_ X G z7,qN_ X G z8,qN_ X G z9,qN_ X G z10,
   qN_ X G z11,qN_ X G z12,qN_ X G z13,qN_ X G z14,qN_ X G z15,qN_ X G z16,qN_ X G z17,qN_ X G z18,qN_ X G z19⟩
structure DeckAt (H:Hp) (p c:Addr):Prop where
 ne:p≠c
 dk:∃S k:Int,H p=some (.lst [.ref c,.int S,.int k])
 cs:∃ns:List Int,H c=some (.lst (ns.map V.int))/\ns.length<=64
structure On (p c:Addr) (H H':Hp):Prop where
 d:DeckAt H' p c
 e:∀b o,H b=some o->b≠p->b≠c->H' b=some o
section
variable{p c a:Addr}{H H1 H2:Hp}{o:HO}
theorem DeckAt.nep(d:DeckAt H p c)(h:H a=none):a≠p:=λz=>by
 obtain⟨S,k,e⟩:=d.dk
 rw[z,e]at h;cases h
theorem DeckAt.nec(d:DeckAt H p c)(h:H a=none):a≠c:=λz=>by
 obtain⟨ns,e,_⟩:=d.cs
 rw[z,e]at h;cases h
theorem DeckAt.alloc(d:DeckAt H p c)(h:H a=none):DeckAt (upd H a o) p c:=by
 obtain⟨S,k,e⟩:=d.dk
 obtain⟨ns,e',l⟩:=d.cs
 exact⟨d.ne,⟨S,k,by rw[bK (d.nep h).symm];exact e⟩,ns,by rw[bK (d.nec h).symm];exact e',l⟩
theorem On.trans(x:On p c H H1)(y:On p c H1 H2):On p c H H2:=⟨y.d,λb o h hp hc=>y.e b o (x.e b o h hp hc) hp hc⟩
theorem On.alloc(x:On p c H H1)(h:H1 a=none):On p c H (upd H1 a o):=
 ⟨x.d.alloc h,λb u q hp hc=>by rw[bK (dP (x.e b u q hp hc) h)];exact x.e b u q hp hc⟩
end
def zBu:Sp:=λvs H Q _=>∃n k:Int,vs=[.int n,.int k]/\∀r:Int,Q (.int r) H
def zCd(K:W.Frag):Sp:=λvs H Q _=>∃(a:Addr) (ns:List Int),vs=[.ref a]/\SqL K H a (ns.map V.int)/\∀(p c:Addr) (H':Hp),H p=none->H c=none->DeckAt H' p c->Same H H'->Q (.ref p) H'
def zCc:Sp:=λvs H Q _=>∃(p c:Addr) (m:Int),vs=[.ref p,.int m]/\DeckAt H p c/\0<m/\BigOk m/\∀(r:Int) (H':Hp),0<=r->r<m->On p c H H'->Q (.int r) H'
end L2
namespace L2
open PySem PySem.Spec PyProof.Rows
theorem ObjOk.there{P:Program}{w:World}{H:Hp}{h:Heap}{a:Addr}{o:HO}(x:ObjOk P w H h a o):∃ob,h.get? a=some ob:=by
 cases o with
 |lst xs=>obtain⟨_,_,_,_,e⟩:=x;exact⟨_,e⟩
 |tup xs=>obtain⟨_,_,_,ob,e,_⟩:=x;exact⟨_,e⟩
 |dK kvs=>obtain⟨_,_,_,_,o,_,_,e,_⟩:=x;exact⟨_,e⟩
 |dT kvs=>obtain⟨_,_,_,_,o,_,_,e,_⟩:=x;exact⟨_,e⟩
 |set S n=>obtain⟨o,_,_,_,e,_⟩:=x;exact⟨_,e⟩
 |ins C dx fs=>obtain⟨_,_,_,e,_⟩:=x;exact⟨_,e⟩
 |own y=>obtain⟨_,e⟩:=x;exact⟨_,e⟩
 |xd fs=>obtain⟨_,⟨_,_,_,e,_⟩,_⟩:=x;exact⟨_,e⟩
 |rng lo hi=>obtain⟨_,_,_,e⟩:=x;exact⟨_,e⟩
 |frz ob u=>obtain⟨e,_⟩:=x;exact⟨_,e⟩
 |tbl ps=>exact⟨_,(show h.get? a=some _ from x)⟩
 |met f y=>exact⟨_,(show h.get? a=some _ from x)⟩
 |ext φ=>obtain⟨_,⟨_,e⟩,_⟩:=x;exact⟨_,e⟩
end L2
namespace L2
open PySem PySem.Spec PyProof.Rows
section
variable{X:Cx}
theorem cB{H:Hp}{a:Addr}{o:HO}(h:H a=none):Same H (upd H a o):=λb u q=>by rw[bK (dP q h)];exact q
def zJS(K:W.Frag):R2:=λx y H Q=>∃a b xs ys,x=.ref a/\y=.ref b/\SqT K H a xs/\SqT K H b ys/\xs.length+ys.length<=sizeLine/\∀r H',SqT K H' r (xs++ys)->Same H H'->Q (.ref r) H'
theorem op_catG:OpR X (binaryOp .Add) (zJS X.K):=by
 intro pins s σ H x y v u Q I rx ry h
 obtain⟨a,b,xs,ys,rfl,rfl,ha,hb,hz,q⟩:=h
 by_cases hx:xs=[]
 ·subst hx
  cases rx
  cases ry
  obtain⟨its,r1,p1,_⟩:=I.tuple ha
  obtain⟨its2,r2,p2,_⟩:=I.tuple hb
  obtain⟨⟨cls,dd,data,sl⟩,ho,hc,n,hd⟩:=id p1
  obtain⟨⟨cls2,dd2,data2,sl2⟩,ho2,hc2,n2,hd2⟩:=id p2
  simp only at hc hd hc2 hd2
  subst hc hd hc2 hd2
  have e1:its=[]:=r1.nil_iff.mpr rfl
  exact concat_meets ⟨_,ho,rfl⟩ ⟨_,ho2,rfl⟩ noFill_tuple_add seq_tuple_add PySem.F.slot_tuple_add PySem.F.entry_tuple_add (PySem.F.args_tuple_add_2 _ _)
   (tuple_addW0 a b its.toArray its2.toArray n n2 dd dd2 sl sl2 (by simp[e1])) ⟨ho,ho2,⟨.ref b,H,I,rfl,q b H hb (Same.refl H)⟩⟩
 ·refine zHg pins s σ H (.ref a) (.ref b) v u Q I rx ry ⟨a,b,xs,ys,rfl,rfl,ha,hb,hx,hz,λe=>q a H (by rw[e,qQ_];exact ha) (Same.refl H),λ_ p hp=>q p _ (SqT.of bB) (cB hp)⟩
structure QA (X:Cx) (es:List Expr) (t:TA):Prop where
 p:PA X es t
theorem zCi:QA X [] sB:=⟨dD⟩
theorem xQ{e:Expr}{es:List Expr}{te:TE}{t:TA}(ha:PE X e te)(hr:QA X es t)(h:dN e=false:=by rfl):QA X (e::es) (wN te t):=⟨cT ha hr.p h⟩
theorem zBH{es:List Expr}{t:TA}{pos:Pos}(h:QA X es t):PE X (.List es pos) (zCV t):=zCk h.p
theorem Inv.big{pins:List (Addr×Obj)}{σ:St}{H:Hp}{s:Shared}(I:Inv X pins σ H s):sysModules<s.heap.objs.size:=by
 have h:mainGlobals<s.heap.objs.size:=(I.mod.glob.keeps I.bk).lt
 exact qq1_ (by decide) h
theorem zGl{P:Program}{w:World}{H:Hp}(h:Heap)(hb:sysModules<h.objs.size):ObjOk P w H (h.push {cls:=.type "dict",data:=.dict #[]}) h.objs.size (.dK []):=
 ⟨qs_ _,beq_eq_false_iff_ne.mpr (Ne.symm (qm_ hb)),[],.nil,Heap.DictOf.new h⟩
def zH2:TE:=λ_ H Q=>∀p,H p=none->Q (.ref p) (upd H p (.dK []))
theorem zFS{pos:Pos}:PE X (.Dict [] [] pos) zH2:=λpins s σ H Q I h=>
 wpAny_Dict_empty ⟨.ref s.heap.objs.size,_,I.laid (a:=s.heap.objs.size) (o:=.dK []) (t':=s.toks) (λ_ _ q=>qd_ _ q) (qe_ _) (zGl s.heap I.big),rfl,h _ (I.hok.fresh (qe_ _))⟩
end
end L2
namespace L2
open PySem PySem.Spec PyProof.Rows
section
variable{prog:Program}{w:World}{A:Around}{E:Value->Shared->Prop}{s:Shared}
theorem zD6{j t:Addr}{k:Nat}{vs:Array Value}{v:Value}{Q:Value->Shared->Prop}(hj:s.heap.IsTupleIter j t k)(ht:s.heap.IsTuple t vs)(hv:vs[k]?=some v)
  (q:∀h',h'.IsTupleIter j t (k+1)->Heap.SameBut j s.heap h'->Q v {s with heap:=h'}):wpAny (model prog w) A (Builtin.SmallTypes.nextOf (.ref j)) Q E s:=by
 obtain⟨oj,ej,cj,dj⟩:=id hj
 obtain⟨ot,et,_,nt,dt⟩:=id ht
 unfold Builtin.SmallTypes.nextOf
 refine qa_ (wpAny_callSpecial?_slot (name:=Str.ofString "__next__") hj.typeIs F.slot_tuple_iterator_next (qK_ F.slot_tuple_iterator_next hj.typeIs F.entry_tuple_iterator_next ?_ (F.args_tuple_iterator_next_1 _)))
 refine qa_ (m:=field (.ref j) 0) (wpAny_field ej dj (x:=.ref t) rfl ?_)
 have nn:¬ ((Value.ref t==Value.none)=true):=ql_
 show wpAny (model prog w) A.in1 (if (Value.ref t==Value.none)=true then _ else _) _ _ s
 rw[if_neg nn]
 refine qa_ (m:=field (.ref j) 1) (wpAny_field ej dj (x:=.int k 0) rfl (qa_ (m:=seqItems? (.ref t)) (wpAny_seqItems et dt ?_)))
 simp only[Int.toNat_natCast,hv]
 refine qa_ (wpAny_setField ej dj (by simp) (qb_ ⟨v,rfl,qb_ (q _ ⟨_,qU_ _ ej (Obj.isFreed_of_fields (Obj.data_mapFields dj _)),(Obj.cls_mapFields ..).trans cj,?_⟩ (Heap.SameBut.update ..))⟩))
 rw[Obj.data_mapFields dj]
 simp[rawInt]
theorem zEQ{j t:Addr}{k:Nat}{vs:Array Value}{Q:Value->Shared->Prop}(hh:A.handled=none)(hj:s.heap.IsTupleIter j t k)(ht:s.heap.IsTuple t vs)(hv:vs[k]?=none)
  (q:∀h' e,Heap.ExtBut j s.heap h'->(∃o,h'.get? e=some o/\o.cls=.type "StopIteration")->E (.ref e) {s with heap:=h'}):wpAny (model prog w) A (Builtin.SmallTypes.nextOf (.ref j)) Q E s:=by
 obtain⟨oj,ej,cj,dj⟩:=id hj
 obtain⟨ot,et,_,nt,dt⟩:=id ht
 unfold Builtin.SmallTypes.nextOf
 refine qa_ (wpAny_callSpecial?_slot (name:=Str.ofString "__next__") hj.typeIs F.slot_tuple_iterator_next (qK_ F.slot_tuple_iterator_next hj.typeIs F.entry_tuple_iterator_next ?_ (F.args_tuple_iterator_next_1 _)))
 refine qa_ (m:=field (.ref j) 0) (wpAny_field ej dj (x:=.ref t) rfl ?_)
 have nn:¬ ((Value.ref t==Value.none)=true):=ql_
 show wpAny (model prog w) A.in1 (if (Value.ref t==Value.none)=true then _ else _) _ _ s
 rw[if_neg nn]
 refine qa_ (m:=field (.ref j) 1) (wpAny_field ej dj (x:=.int k 0) rfl (qa_ (m:=seqItems? (.ref t)) (wpAny_seqItems et dt ?_)))
 simp only[Int.toNat_natCast,hv]
 refine qa_ (wpAny_rule (qa_ (wpAny_setField ej dj (by simp) (wpAny_bind (m:=newExc (.type "StopIteration") []) ?_))))
 unfold newExc newTuple
 refine qa_ (qS_ (qa_ (m:=firstArgMember _ _) (wpAny_of_eq (a:=Value.none) (by first|rfl|(simp only[firstArgMember];rfl)) (qS_ ?_ (by size_fits)))) (by size_fits))
 unfold raiseNew
 refine qa_ (wpAny_handled ?_)
 rw[show A.in1.handled=none from hh]
 exact qa_ (qb_ (wpAny_throw (q _ _ (((Heap.SameBut.update ..).extBut.push _).push _) ⟨_,qi_ _ rfl,rfl⟩)))
structure kS (prog:Program) (w:World) (i l:Addr) (it:Nat->Heap->Prop) (sq:Heap->Array Value->Prop):Prop where
 obj:∀k h,it k h->∃o,h.get? i=some o/\∀v,o.data≠.cell v
 itk:∀k h h',it k h->(∀o,h.get? i=some o->h'.get? i=some o)->it k h'
 sqk:∀h h' vs,sq h vs->(∀o,h.get? l=some o->h'.get? l=some o)->sq h' vs
 item:∀(A:Around) (E:Value->Shared->Prop) (s:Shared) (k:Nat) (vs:Array Value) (v:Value) (Q:Value->Shared->Prop),it k s.heap->sq s.heap vs->vs[k]?=some v ->
  (∀h',it (k+1) h'->Heap.SameBut i s.heap h'->Q v {s with heap:=h'})->wpAny (model prog w) A (Builtin.SmallTypes.nextOf (.ref i)) Q E s
 done:∀(A:Around) (E:Value->Shared->Prop) (s:Shared) (k:Nat) (vs:Array Value) (Q:Value->Shared->Prop),A.handled=none->it k s.heap->sq s.heap vs->vs[k]?=none ->
  (∀h' e,Heap.ExtBut i s.heap h'->(∃o,h'.get? e=some o/\o.cls=.type "StopIteration")->E (.ref e) {s with heap:=h'})->wpAny (model prog w) A (Builtin.SmallTypes.nextOf (.ref i)) Q E s
theorem zEw(i l:Addr):kS prog w i l (λk h=>h.IsListIter i l k) (λh vs=>h.IsList l vs) where
 obj:=λk h x=>let ⟨o,e,_,d⟩:=x;⟨o,e,λv z=>by rw[d]at z;cases z⟩
 itk:=λk h h' x f=>let ⟨o,e,r⟩:=x;⟨o,f o e,r⟩
 sqk:=λh h' vs x f=>let ⟨o,e,r⟩:=x;⟨o,f o e,r⟩
 item:=λA E s k vs v Q a b c q=>wpAny_nextOf_list_item a b c q
 done:=λA E s k vs Q hh a b c q=>wpAny_nextOf_list_end hh a b c q
theorem zFB(i l:Addr):kS prog w i l (λk h=>h.IsTupleIter i l k) (λh vs=>h.IsTuple l vs) where
 obj:=λk h x=>let ⟨o,e,_,d⟩:=x;⟨o,e,λv z=>by rw[d]at z;cases z⟩
 itk:=λk h h' x f=>let ⟨o,e,r⟩:=x;⟨o,f o e,r⟩
 sqk:=λh h' vs x f=>let ⟨o,e,r⟩:=x;⟨o,f o e,r⟩
 item:=λA E s k vs v Q a b c q=>zD6 a b c q
 done:=λA E s k vs Q hh a b c q=>zEQ hh a b c q
section
variable{z TI TO i1 i2 l1 l2:Addr}{it1 it2:Nat->Heap->Prop}{sq1 sq2:Heap->Array Value->Prop}
theorem zGw(S1:kS prog w i1 l1 it1 sq1)(S2:kS prog w i2 l2 it2 sq2)(D:ZipApart z TI TO i1 i2 l1 l2){k1 k2:Nat}{xs ys:Array Value}{x y a b:Value}{Q:Value->Shared->Prop}
  (hz:IsZip s.heap z TI TO .none) (hI:IsPair s.heap TI (.ref i1) (.ref i2)) (hO:IsPair s.heap TO a b) (j1:it1 k1 s.heap) (j2:it2 k2 s.heap) (q1:sq1 s.heap xs) (q2:sq2 s.heap ys)
  (hx:xs[k1]?=some x) (hy:ys[k2]?=some y)
  (q:∀h',IsZip h' z TI TO (rawInt s.heap.objs.size)->IsPair h' TO x y->it1 (k1+1) h'->it2 (k2+1) h'->IsPair h' s.heap.objs.size x y->h'.objs.size=s.heap.objs.size+1 ->
   (∀c o,c≠z->c≠TO->c≠i1->c≠i2->s.heap.get? c=some o->h'.get? c=some o)->Q (.ref s.heap.objs.size) {s with heap:=h'}):
  wpAny (model prog w) A (Builtin.«zip.__next__» ⟨[.ref z],[]⟩) (λf s'=>∃v,f=.done (.ret v)/\Q v s') E s:=by
 refine qa_ (m:=field (.ref z) 2) (wpAny_field hz rfl (x:=.bool false) rfl (qa_ (m:=field (.ref z) 3) (wpAny_field hz rfl (x:=.ref TI) rfl (qa_ (wpAny_seqItems hI rfl ?_)))))
 refine qa_ (m:=Builtin.SmallTypes.ownedTupleIsFree (.ref z)) (qa_ (wpAny_field hz rfl (x:=.none) rfl (qb_ ?_)))
 simp only[if_true]
 refine qa_ (wpAny_rule (qa_ (wpAny_field hz rfl (x:=.ref TO) rfl (qa_ (qW_ hz (by simp) λh1 hz1 s1=>?_)))))
 have hz1:IsZip h1 z TI TO .ellipsis:=hz1
 refine qa_ ?_
 simp only[List.zipIdx_cons,List.zipIdx_nil,List.forIn_cons,List.forIn_nil]
 have e1:∀c o,c≠z->s.heap.get? c=some o->h1.get? c=some o:=λc o hc e=>s1.extBut _ _ hc e
 refine qa_ (qa_ (wpAny_onRaise (qa_ (m:=Builtin.SmallTypes.nextOf (.ref i1)) (S1.item _ _ _ k1 xs x _ (S1.itk _ _ _ j1 λo e=>e1 _ o D.i1z e) (S1.sqk _ _ _ q1 λo e=>e1 _ o D.l1z e) hx λh2 j1' s2=>qb_ ?_))))
 have e2:∀c o,c≠z->c≠i1->s.heap.get? c=some o->h2.get? c=some o:=λc o c1 c2 e=>s2.extBut _ _ c2 (e1 c o c1 e)
 have hO2:IsPair h2 TO a b:=e2 _ _ D.TOz D.TOi1 hO
 refine qa_ (wpAny_seqItems hO2 rfl (qa_ (wpAny_updateSeq_pair hO2 λh3 hO3 s3=>qa_ (wpAny_letGo (qb_ ?_)))))
 have hO3:IsPair h3 TO x b:=hO3
 have e3:∀c o,c≠z->c≠i1->c≠TO->s.heap.get? c=some o->h3.get? c=some o:=λc o c1 c2 c3 e=>s3.extBut _ _ c3 (e2 c o c1 c2 e)
 refine qa_ (qa_ (wpAny_onRaise (qa_ (m:=Builtin.SmallTypes.nextOf (.ref i2)) (S2.item _ _ _ k2 ys y _ (S2.itk _ _ _ j2 λo e=>e3 _ o D.i2z D.i12.symm D.TOi2.symm e) (S2.sqk _ _ _ q2 λo e=>e3 _ o D.l2z D.l2i1 D.l2TO e) hy λh4 j2' s4=>qb_ ?_))))
 have hO4:IsPair h4 TO x b:=s4.extBut _ _ D.TOi2 hO3
 refine qa_ (wpAny_seqItems hO4 rfl (qa_ (wpAny_updateSeq_pair hO4 λh5 hO5 s5=>qa_ (wpAny_letGo (qb_ (qb_ ?_))))))
 have hO5:IsPair h5 TO x y:=hO5
 refine qa_ (wpAny_seqItems hO5 rfl (qa_ (wpAny_newTuple ?_)))
 have hs5:h5.objs.size=s.heap.objs.size:=by rw[s5.1,s4.1,s3.1,s2.1,s1.1]
 have hz5:IsZip h5 z TI TO .ellipsis:=s5.extBut _ _ D.TOz.symm (s4.extBut _ _ D.i2z.symm (s3.extBut _ _ D.TOz.symm (s2.extBut _ _ D.i1z.symm hz1)))
 have e5:∀c o,c≠z->c≠TO->c≠i1->c≠i2->s.heap.get? c=some o->h5.get? c=some o:=λc o c1 c2 c3 c4 e=>s5.extBut _ _ c2 (s4.extBut _ _ c4 (e3 c o c1 c3 c2 e))
 have lz:z<h5.objs.size:=qg_ hz5
 refine qa_ (m:=Builtin.SmallTypes.ownedTupleHandOut (.ref z) (.ref h5.objs.size)) ?_
 unfold Builtin.SmallTypes.ownedTupleHandOut
 have hz6:IsZip (h5.push {cls:=.type "tuple",data:=.seq #[x,y]}) z TI TO .ellipsis:=qd_ _ hz5
 refine qa_ (qW_ hz6 (by simp) λh7 hz7 s7=>?_)
 have hz7:IsZip h7 z TI TO (rawInt h5.objs.size):=hz7
 refine qW_ hz7 (by simp) λh8 hz8 s8=>?_
 have hz8:IsZip h8 z TI TO (rawInt h5.objs.size):=hz8
 have e8:∀c o,c≠z->h5.get? c=some o->h8.get? c=some o:=λc o c1 e=>s8.extBut _ _ c1 (s7.extBut _ _ c1 (qd_ _ e))
 have p8:IsPair h8 h5.objs.size x y:=s8.extBut _ _ (qC_ lz) (s7.extBut _ _ (qC_ lz) (qi_ _ rfl))
 have n8:h8.objs.size=h5.objs.size+1:=by rw[s8.1,s7.1,qy_]
 rw[hs5]at hz8 p8 n8
 refine qb_ ⟨_,rfl,?_⟩
 show Q (Value.ref h5.objs.size) _
 rw[hs5]
 exact q h8 hz8 (e8 _ _ D.TOz hO5) (S1.itk _ _ _ j1' λo e=>e8 _ o D.i1z (s5.extBut _ _ D.TOi1.symm (s4.extBut _ _ D.i12 (s3.extBut _ _ D.TOi1.symm e)))) (S2.itk _ _ _ j2' λo e=>e8 _ o D.i2z (s5.extBut _ _ D.TOi2.symm e)) p8 n8
  λc o c1 c2 c3 c4 e=>e8 c o c1 (e5 c o c1 c2 c3 c4 e)
theorem zHK(S1:kS prog w i1 l1 it1 sq1)(S2:kS prog w i2 l2 it2 sq2)(D:ZipApart z TI TO i1 i2 l1 l2)(hh:A.handled=none){k1 k2:Nat}{xs ys:Array Value}{a b:Value}{Q:Fin->Shared->Prop}
  (hz:IsZip s.heap z TI TO .none) (hI:IsPair s.heap TI (.ref i1) (.ref i2)) (hO:IsPair s.heap TO a b) (j1:it1 k1 s.heap) (j2:it2 k2 s.heap) (q1:sq1 s.heap xs) (q2:sq2 s.heap ys)
  (hn:xs[k1]?=none\/ys[k2]?=none)
  (q:∀h' e,(∀c o,c≠z->c≠TO->c≠i1->c≠i2->s.heap.get? c=some o->h'.get? c=some o)->(∃o,h'.get? e=some o/\o.cls=.type "StopIteration")->E (.ref e) {s with heap:=h'}):
  wpAny (model prog w) A (Builtin.«zip.__next__» ⟨[.ref z],[]⟩) Q E s:=by
 refine qa_ (m:=field (.ref z) 2) (wpAny_field hz rfl (x:=.bool false) rfl (qa_ (m:=field (.ref z) 3) (wpAny_field hz rfl (x:=.ref TI) rfl (qa_ (wpAny_seqItems hI rfl ?_)))))
 refine qa_ (m:=Builtin.SmallTypes.ownedTupleIsFree (.ref z)) (qa_ (wpAny_field hz rfl (x:=.none) rfl (qb_ ?_)))
 simp only[if_true]
 refine qa_ (wpAny_rule (qa_ (wpAny_field hz rfl (x:=.ref TO) rfl (qa_ (qW_ hz (by simp) λh1 hz1 s1=>?_)))))
 have hz1:IsZip h1 z TI TO .ellipsis:=hz1
 refine qa_ ?_
 simp only[List.zipIdx_cons,List.zipIdx_nil,List.forIn_cons,List.forIn_nil]
 have e1:∀c o,c≠z->s.heap.get? c=some o->h1.get? c=some o:=λc o hc e=>s1.extBut _ _ hc e
 have ez:∀{h:Heap} {e:Addr} {o:Obj},IsZip h z TI TO .ellipsis->h.get? e=some o->o.cls=.type "StopIteration"->e≠z:=λhz ho hc x=>by
  subst x
  rw[hz]at ho
  cases ho
  simp at hc
 cases hx:xs[k1]? with
 |none=>
  refine qa_ (qa_ (wpAny_onRaise (qa_ (m:=Builtin.SmallTypes.nextOf (.ref i1)) (S1.done _ _ _ k1 xs _ hh (S1.itk _ _ _ j1 λo e=>e1 _ o D.i1z e) (S1.sqk _ _ _ q1 λo e=>e1 _ o D.l1z e) hx λh2 e s2 he=>?_))))
  obtain⟨oe,ho,hc⟩:=he
  have hz2:IsZip h2 z TI TO .ellipsis:=s2 _ _ D.i1z.symm hz1
  exact qW_ hz2 (by simp) λh3 _ s3=>q h3 e (λc o c1 _ c3 _ u=>s3.extBut _ _ c1 (s2 _ _ c3 (e1 c o c1 u))) ⟨oe,s3.extBut _ _ (ez hz2 ho hc) ho,hc⟩
 |some x=>
  have hy:ys[k2]?=none:=by
   rcases hn with h|h
   ·rw[hx]at h;cases h
   ·exact h
  refine qa_ (qa_ (wpAny_onRaise (qa_ (m:=Builtin.SmallTypes.nextOf (.ref i1)) (S1.item _ _ _ k1 xs x _ (S1.itk _ _ _ j1 λo e=>e1 _ o D.i1z e) (S1.sqk _ _ _ q1 λo e=>e1 _ o D.l1z e) hx λh2 j1' s2=>qb_ ?_))))
  have e2:∀c o,c≠z->c≠i1->s.heap.get? c=some o->h2.get? c=some o:=λc o c1 c2 e=>s2.extBut _ _ c2 (e1 c o c1 e)
  have hO2:IsPair h2 TO a b:=e2 _ _ D.TOz D.TOi1 hO
  refine qa_ (wpAny_seqItems hO2 rfl (qa_ (wpAny_updateSeq_pair hO2 λh3 hO3 s3=>qa_ (wpAny_letGo (qb_ ?_)))))
  have e3:∀c o,c≠z->c≠i1->c≠TO->s.heap.get? c=some o->h3.get? c=some o:=λc o c1 c2 c3 e=>s3.extBut _ _ c3 (e2 c o c1 c2 e)
  refine qa_ (qa_ (wpAny_onRaise (qa_ (m:=Builtin.SmallTypes.nextOf (.ref i2)) (S2.done _ _ _ k2 ys _ hh (S2.itk _ _ _ j2 λo e=>e3 _ o D.i2z D.i12.symm D.TOi2.symm e) (S2.sqk _ _ _ q2 λo e=>e3 _ o D.l2z D.l2i1 D.l2TO e) hy λh4 e s4 he=>?_))))
  obtain⟨oe,ho,hc⟩:=he
  have hz4:IsZip h4 z TI TO .ellipsis:=s4 _ _ D.i2z.symm (s3.extBut _ _ D.TOz.symm (s2.extBut _ _ D.i1z.symm hz1))
  exact qW_ hz4 (by simp) λh5 _ s5=>q h5 e (λc o c1 c2 c3 c4 u=>s5.extBut _ _ c1 (s4 _ _ c4 (e3 c o c1 c3 c2 u))) ⟨oe,s5.extBut _ _ (ez hz4 ho hc) ho,hc⟩
end
abbrev zT1(hp:Heap)(a b:Addr):Heap:=hp.push {cls:=.type "tuple_iterator",data:=.fields #[.ref a,.int 0 0]}
abbrev zT2(hp:Heap)(a b:Addr):Heap:=(zT1 hp a b).push {cls:=.type "tuple_iterator",data:=.fields #[.ref b,.int 0 0]}
abbrev zT3(hp:Heap)(a b:Addr):Heap:=(zT2 hp a b).push {cls:=.type "tuple",data:=.seq #[.ref hp.objs.size,.ref (zT1 hp a b).objs.size]}
abbrev zT4(hp:Heap)(a b:Addr):Heap:=(zT3 hp a b).push {cls:=.type "tuple",data:=.seq #[.none,.none]}
abbrev zT5(hp:Heap)(a b:Addr):Heap:=(zT4 hp a b).push {cls:=.type "zip",data:=.fields #[.none,.bool false,.bool false,.ref (zT2 hp a b).objs.size,.ref (zT3 hp a b).objs.size]}
theorem zFr(a b:Addr)(xs ys:Array Value):Meets (Builtin.«zip.__new__» ⟨[.type "zip",.ref a,.ref b],[]⟩) (λ_ R s=>s.heap.IsTuple a xs/\s.heap.IsTuple b ys/\R (.ok (.ret (.ref (zT4 s.heap a b).objs.size))) {s with heap:=zT5 s.heap a b}):=
 .of_wp λprog w A R s h=>by
  obtain⟨hp,g,d,tk,os⟩:=s
  obtain⟨ha,hb,h⟩:=h
  have sz:=sub_zip
  have ha:Heap.IsTuple (Shared.heap ⟨hp,g,d,tk,os⟩) a xs:=ha
  have hb:Heap.IsTuple (Shared.heap ⟨hp.push {cls:=.type "tuple_iterator",data:=.fields #[.ref a,.int 0 0]},g,d,tk,os⟩) b ys:=Heap.IsTuple.push hb _
  wp_walk using wpAny_pyIter_tuple ha,wpAny_pyIter_tuple hb
  exact⟨_,rfl,h⟩
theorem zFc{a b:Addr}{xs ys:Array Value}{Q:Value->Shared->Prop}(ha:s.heap.IsTuple a xs)(hb:s.heap.IsTuple b ys)
  (q:∀h',IsZip h' (s.heap.objs.size+4) (s.heap.objs.size+2) (s.heap.objs.size+3) .none->IsPair h' (s.heap.objs.size+2) (.ref s.heap.objs.size) (.ref (s.heap.objs.size+1))->IsPair h' (s.heap.objs.size+3) .none .none ->
   h'.IsTupleIter s.heap.objs.size a 0->h'.IsTupleIter (s.heap.objs.size+1) b 0->h'.objs.size=s.heap.objs.size+5->(∀c o,s.heap.get? c=some o->h'.get? c=some o)->Q (.ref (s.heap.objs.size+4)) {s with heap:=h'}):
  wpAny (model prog w) A (call (.type "zip") [.ref a,.ref b]) Q E s:=by
 refine callType_new F.called_zip (by decide) (F.typeCall_zip_2 _ _) (F.newCall_zip_2 _ _) (λo=>F.args_object_init_3 o _ _) F.entry_zip_new (zFr a b xs ys) ⟨ha,hb,?_⟩
 have n1:(zT1 s.heap a b).objs.size=s.heap.objs.size+1:=qy_ ..
 have n2:(zT2 s.heap a b).objs.size=s.heap.objs.size+2:=by rw[qy_,n1]
 have n3:(zT3 s.heap a b).objs.size=s.heap.objs.size+3:=by rw[qy_,n2]
 have n4:(zT4 s.heap a b).objs.size=s.heap.objs.size+4:=by rw[qy_,n3]
 have n5:(zT5 s.heap a b).objs.size=s.heap.objs.size+5:=by rw[qy_,n4]
 have p5:(zT5 s.heap a b).get? (zT4 s.heap a b).objs.size=some _:=qi_ _ rfl
 have p4:(zT5 s.heap a b).get? (zT3 s.heap a b).objs.size=some _:=qd_ _ (qi_ _ rfl)
 have p3:(zT5 s.heap a b).get? (zT2 s.heap a b).objs.size=some _:=qd_ _ (qd_ _ (qi_ _ rfl))
 have p2:(zT5 s.heap a b).get? (zT1 s.heap a b).objs.size=some _:=qd_ _ (qd_ _ (qd_ _ (qi_ _ rfl)))
 have p1:(zT5 s.heap a b).get? s.heap.objs.size=some _:=qd_ _ (qd_ _ (qd_ _ (qd_ _ (qi_ _ rfl))))
 show _/\_
 rw[n2,n3,n4]at p5
 rw[n1,n2]at p3
 rw[n3]at p4
 rw[n1]at p2
 rw[n4]
 exact⟨⟨_,p5,rfl⟩,q _ p5 p3 p4 ⟨_,p1,rfl,rfl⟩ ⟨_,p2,rfl,rfl⟩ n5 λc o e=>qd_ _ (qd_ _ (qd_ _ (qd_ _ (qd_ _ e))))⟩
end
section
variable{X:Cx}{pins:List (Addr×Obj)}{σ:St}{H:Hp}{s:Shared}{h':Heap}
theorem Inv.turnedL{t':Nat}{ch:List Addr}(I:Inv X pins σ H s)(hf:∀b∈ch,eX X pins H b)(k:∀b o,b∉ch->s.heap.get? b=some o->h'.get? b=some o):Inv X pins σ H {s with heap:=h',toks:=t'}:=by
 have nit:∀b u,H b=some u->b∉ch:=λb u e z=>by rw[(hf b z).1]at e;cases e
 refine I.step (g':=s.gens) (d':=s.drawn) (ch:=ch) (λb hb=>?_) (λb o _ _ hc e _=>k b o hc e) (λb o _ _ hc e _=>⟨o.slots,k b o hc e⟩) (λ_ _ _ _ n=>n)
  (λb o hc e=>⟨o,k b o hc e⟩) (λ_ _ e=>e) (λ_ _ _ e=>e) (λb ps e=>⟨#[],by rw[e];simp⟩) (λm hm=>?_) (λb u e=>?_) I.bare
 ·obtain⟨_,f1,_,f3,f4,f5⟩:=hf b hb
  exact⟨f3,f1,f4,f5⟩
 ·obtain⟨o,es,ep,ho,r⟩:=hm
  exact⟨o,es,ep,k _ o (λz=>(hf _ z).2.1 rfl) ho,r⟩
 ·refine(I.hok b u e).stay (λc v hc q=>k c v ?_ q) (λ_ q=>q) λ_ _ q=>q
  rcases hc with z|z
  ·rw[z];exact nit b u e
  ·exact nit c _ z
end
def SqX(t:Bool)(K:W.Frag)(H:Hp)(a:Addr)(xs:List V):Prop:=match t with
 |false=>SqL K H a xs
 |true=>SqT K H a xs
def Itz(t:Bool)(K:W.Frag)(a b:Addr):It:=
  ⟨λi H=>∃xs ys x y,SqX t K H a xs/\SqX t K H b ys/\xs[i]?=some x/\ys[i]?=some y,
   λi H v H'=>∃p x y,v=.ref p/\H p=none/\H'=upd H p (.tup [x,y])/\(∀xs,SqX t K H a xs->xs[i]?=some x)/\∀ys,SqX t K H b ys->ys[i]?=some y,
   λi H=>∃xs ys,SqX t K H a xs/\SqX t K H b ys/\(xs.length<=i\/ys.length<=i)⟩
def itX(t:Bool)(i a:Addr)(k:Nat)(h:Heap):Prop:=match t with
 |false=>h.IsListIter i a k
 |true=>h.IsTupleIter i a k
def sqX(t:Bool)(a:Addr)(h:Heap)(vs:Array Value):Prop:=match t with
 |false=>h.IsList a vs
 |true=>h.IsTuple a vs
theorem fO{prog:Program}{w:World}(t:Bool)(i a:Addr):kS prog w i a (itX t i a) (sqX t a):=by
 cases t
 ·exact zEw i a
 ·exact zFB i a
section
variable{X:Cx}{pins:List (Addr×Obj)}{σ:St}{H:Hp}{s:Shared}
theorem Inv.sqX{t:Bool}{a:Addr}{xs:List V}(I:Inv X pins σ H s)(h:SqX t X.K H a xs):∃vs:List Value,Vals xs vs/\L2.sqX t a s.heap vs.toArray/\xs.length<=sizeLine:=by
 cases t
 ·obtain⟨its,r,p,hz⟩:=I.list h
  exact⟨its,r,p.isList,hz⟩
 ·obtain⟨its,r,p,hz⟩:=I.tuple h
  exact⟨its,r,p,hz⟩
theorem Inv.sqX_inj{t:Bool}{a:Addr}{xs ys:List V}(I:Inv X pins σ H s)(h:SqX t X.K H a xs)(h':SqX t X.K H a ys):xs=ys:=by
 cases t
 ·exact I.list_inj h h'
 ·exact I.tuple_inj h h'
end
theorem zFy{P:Program}{w:World}{K:W.Frag}{es:List Expr}{ek:Nat}{pos:Pos}(t:Bool)(a b z TI TO i1 i2:Addr)(D:ZipApart z TI TO i1 i2 a b):
  jE P w K (.Tuple es ek pos) (Itz t K a b) [z,TI,TO,i1,i2] z (λi h=>IsZip h z TI TO .none/\IsPair h TI (.ref i1) (.ref i2)/\(∃x y,IsPair h TO x y)/\itX t i1 a i h/\itX t i2 b i h) where
 mem:=by simp
 obj:=λi h st c hc=>by
  obtain⟨hz,hI,⟨x,y,hO⟩,j1,j2⟩:=st
  simp only[List.mem_cons,List.not_mem_nil,or_false]at hc
  rcases hc with e|e|e|e|e<;>subst e
  ·exact⟨_,hz,λv u=>by cases u⟩
  ·exact⟨_,hI,λv u=>by cases u⟩
  ·exact⟨_,hO,λv u=>by cases u⟩
  ·exact(fO (prog:=P) (w:=w) t _ a).obj _ _ j1
  ·exact(fO (prog:=P) (w:=w) t _ b).obj _ _ j2
 keep:=λi h h' st k=>by
  obtain⟨hz,hI,⟨x,y,hO⟩,j1,j2⟩:=st
  exact⟨k z (by simp) _ hz,k TI (by simp) _ hI,⟨x,y,k TO (by simp) _ hO⟩,(fO (prog:=P) (w:=w) t i1 a).itk _ _ _ j1 λo e=>k i1 (by simp) o e,(fO (prog:=P) (w:=w) t i2 b).itk _ _ _ j2 λo e=>k i2 (by simp) o e⟩
 item:=by
  intro X hP hw hK hc i pins s σ H E I hf st hg
  subst hP hw hK
  obtain⟨xs,ys,x,y,qa,qb,hx,hy⟩:=hg
  obtain⟨hz,hI,⟨x0,y0,hO⟩,j1,j2⟩:=st
  obtain⟨va,ra,pa,za⟩:=I.sqX qa
  obtain⟨vb,rb,pb,zb⟩:=I.sqX qb
  obtain⟨u,hu,ru⟩:=ra.get hx
  obtain⟨v,hv,rv⟩:=rb.get hy
  have hT:s.TypeIs (.ref z) "zip":=⟨_,hz,rfl⟩
  unfold pyNext
  refine qa_ (wpAny_attempt (wpAny_callSpecial?_slot (name:=Str.ofString "__next__") hT F.slot_zip_next (qK_ F.slot_zip_next hT F.entry_zip_next (zGw (fO t i1 a) (fO t i2 b) D hz hI hO j1 j2 pa pb (x:=u) (y:=v) (by simpa using hu) (by simpa using hv)
   λh' a1 a2 a3 a4 a5 a6 a7=>qb_ ⟨_,rfl,?_⟩) (F.args_zip_next_1 _))))
  refine wpAny_letOwnedTupleGo_zip (s:={s with heap:=h'}) a1 λh2 b1 b2=>?_
  have hn:∀c∈[z,TI,TO,i1,i2],c≠s.heap.objs.size:=λc hc' e=>by
   obtain⟨o,ho,_⟩:∃o,s.heap.get? c=some o/\True:=by
    simp only[List.mem_cons,List.not_mem_nil,or_false]at hc'
    rcases hc' with q|q|q|q|q
    ·exact⟨_,q▸hz,trivial⟩
    ·exact⟨_,q▸hI,trivial⟩
    ·exact⟨_,q▸hO,trivial⟩
    ·obtain⟨o,ho,_⟩:=(fO (prog:=X.prog) (w:=X.w) t i1 a).obj _ _ j1;exact⟨o,q▸ho,trivial⟩
    ·obtain⟨o,ho,_⟩:=(fO (prog:=X.prog) (w:=X.w) t i2 b).obj _ _ j2;exact⟨o,q▸ho,trivial⟩
   exact absurd (qg_ ho) (by rw[e];exact qe1_ _)
  have I0:Inv X pins σ (upd H s.heap.objs.size (.tup [x,y])) {s with heap:=s.heap.push {cls:=.type "tuple",data:=.seq #[u,v]}}:=
   I.laid (t':=s.toks) (λc o e=>qd_ _ e) (qe_ _) ⟨by show 2<=sizeLine;decide,[u,v],.cons ru (.cons rv .nil),IsTup.new _ _⟩
  have hf0:∀c∈[z,TI,TO,i1,i2],eX X pins (upd H s.heap.objs.size (.tup [x,y])) c:=λc hc'=>⟨by rw[bK (hn c hc')];exact(hf c hc').1,(hf c hc').2⟩
  have I1:Inv X pins σ (upd H s.heap.objs.size (.tup [x,y])) {s with heap:=h2}:=Inv.turnedL (s:={s with heap:=s.heap.push {cls:=.type "tuple",data:=.seq #[u,v]}}) (t':=s.toks) (ch:=[z,TI,TO,i1,i2]) I0 hf0 λc o hc' e=>by
   simp only[List.mem_cons,List.not_mem_nil,or_false,not_or]at hc'
   obtain⟨c1,c2,c3,c4,c5⟩:=hc'
   by_cases hcn:c=s.heap.objs.size
   ·subst hcn
    have e':(s.heap.push {cls:=.type "tuple",data:=.seq #[u,v]}).get? s.heap.objs.size=some o:=e
    rw[qi_ _ rfl]at e'
    cases e'
    exact b2.extBut _ _ c1 a5
   ·refine b2.extBut _ _ c1 (a7 c o c1 c3 c4 c5 ?_)
    have e':(s.heap.push {cls:=.type "tuple",data:=.seq #[u,v]}).get? c=some o:=e
    rw[Heap.get?_push_ne _ _ _ hcn]at e'
    exact e'
  refine⟨.ref s.heap.objs.size,_,I1,rfl,⟨_,x,y,rfl,I.hok.fresh (qe_ _),rfl,λxs' h=>by rw[I.sqX_inj h qa];exact hx,λys' h=>by rw[I.sqX_inj h qb];exact hy⟩,⟨b1,?_,⟨u,v,b2.extBut _ _ D.TOz a2⟩,?_,?_⟩,λc hc'=>(hf0 c hc').1⟩
  ·exact b2.extBut _ _ D.TIz (a7 _ _ D.TIz D.TITO D.TIi1 D.TIi2 hI)
  ·exact(fO (prog:=X.prog) (w:=X.w) t i1 a).itk _ _ _ a3 λo e=>b2.extBut _ _ D.i1z e
  ·exact(fO (prog:=X.prog) (w:=X.w) t i2 b).itk _ _ _ a4 λo e=>b2.extBut _ _ D.i2z e
 done:=by
  intro X hP hw hK hc i pins s σ H E I hf st hg
  subst hP hw hK
  obtain⟨xs,ys,qa,qb,hl⟩:=hg
  obtain⟨hz,hI,⟨x0,y0,hO⟩,j1,j2⟩:=st
  obtain⟨va,ra,pa,za⟩:=I.sqX qa
  obtain⟨vb,rb,pb,zb⟩:=I.sqX qb
  have la:=ra.length
  have lb:=rb.length
  have hT:s.TypeIs (.ref z) "zip":=⟨_,hz,rfl⟩
  unfold pyNext
  refine qa_ (wpAny_attempt (wpAny_callSpecial?_slot (name:=Str.ofString "__next__") hT F.slot_zip_next (qK_ F.slot_zip_next hT F.entry_zip_next (zHK (fO t i1 a) (fO t i2 b) D (show X.A.in1.handled=none from I.ok.hd hc) hz hI hO j1 j2 pa pb
   (hl.elim (λh=>.inl (by simp;omega)) λh=>.inr (by simp;omega)) λh' e k he=>?_) (F.args_zip_next_1 _))))
  obtain⟨o,ho,hce⟩:=he
  refine qa_ (wpAny_isInstance (T:="StopIteration") (b:=true) ⟨o,ho,hce⟩ isSubtype_stop (qb_ ⟨rfl,I.turnedL (t':=s.toks) hf λc o hc' e=>?_⟩))
  simp only[List.mem_cons,List.not_mem_nil,or_false,not_or]at hc'
  exact k c o hc'.1 hc'.2.2.1 hc'.2.2.2.1 hc'.2.2.2.2 e
 self:=λ_ _ _ _ _ st h=>wpAny_pyIter_zip st.1 h
theorem zHL{n a b:Nat}(ha:a<n)(hb:b<n):ZipApart (n+4) (n+2) (n+3) n (n+1) a b:=by
 constructor<;>(intro (e:(_:Nat)=_);omega)
theorem zFk:bootBuiltins "zip"=some (.type "zip"):=by decide +kernel
section
variable{X:Cx}
def zK5(K:W.Frag)(ta:TA):TI:=λσ H R=>ta σ H λvs H1=>∃(t:Bool) (a b:Addr),vs=[.ref a,.ref b]/\(∃xs,SqX t K H1 a xs)/\(∃ys,SqX t K H1 b ys)/\R (Itz t K a b) H1
theorem zIy{a b:Expr}{ta:TA}{es:List Expr}{ek:Nat}{p pos pos':Pos}(hg:Gl X "zip")(hm:X.mg "zip"=none)(ha:PA X [a,b] ta)(hs:starEach [a,b] X.env=[(false,eval a X.env),(false,eval b X.env)]:=by rfl)(hs2:starEach [b] X.env=[(false,eval b X.env)]:=by rfl):
  PI X (.Tuple es ek pos') (.Call (.Name "zip" p) [a,b] [] pos) (zK5 X.K ta):=by
 intro pins s σ H R I h
 refine Call_ (oJ I hg hm zFk (PyProof.Rows.callWith_type1 (thn (ha pos pins s σ H _ I h) λus s1 ⟨vs,H1,I1,r1,q1⟩=>?_) (by rw[hs,hs2]) (by rw[hs2];rfl)))
 obtain⟨t,a,b,e,⟨xs,hx⟩,⟨ys,hy⟩,q⟩:=q1
 subst e
 obtain⟨u,w',rfl,rx,ry⟩:=iU r1
 cases rx
 cases ry
 obtain⟨va,ra,pa,za⟩:=I1.sqX hx
 obtain⟨vb,rb,pb,zb⟩:=I1.sqX hy
 have la:a<s1.heap.objs.size:=by
  cases t
  ·obtain⟨o,e,_⟩:=pa;exact qg_ e
  ·obtain⟨o,e,_⟩:=pa;exact qg_ e
 have lb:b<s1.heap.objs.size:=by
  cases t
  ·obtain⟨o,e,_⟩:=pb;exact qg_ e
  ·obtain⟨o,e,_⟩:=pb;exact qg_ e
 have fin:∀h':Heap,IsZip h' (s1.heap.objs.size+4) (s1.heap.objs.size+2) (s1.heap.objs.size+3) .none->IsPair h' (s1.heap.objs.size+2) (.ref s1.heap.objs.size) (.ref (s1.heap.objs.size+1))->IsPair h' (s1.heap.objs.size+3) .none .none ->
   itX t s1.heap.objs.size a 0 h'->itX t (s1.heap.objs.size+1) b 0 h'->h'.objs.size=s1.heap.objs.size+5->(∀c o,s1.heap.get? c=some o->h'.get? c=some o) ->
   wpAny (model X.prog X.w) X.A (pyIter (.ref (s1.heap.objs.size+4))) (PIE X pins σ (.Tuple es ek pos') R) X.xe {s1 with heap:=h'}:=by
  intro h' hz hI hO j1 j2 _ k
  refine wpAny_pyIter_zip hz ?_
  refine⟨_,[s1.heap.objs.size+4,s1.heap.objs.size+2,s1.heap.objs.size+3,s1.heap.objs.size,s1.heap.objs.size+1],_,_,H1,rfl,I1.kept (t':=s1.toks) k,zFy t a b _ _ _ _ _ ?_,⟨hz,hI,⟨_,_,hO⟩,j1,j2⟩,λc hc=>?_,q⟩
  ·exact zHL la lb
  ·have:s1.heap.objs.size<=c:=by
    simp only[List.mem_cons,List.not_mem_nil,or_false]at hc
    rcases hc with e|e|e|e|e<;>(rw[e];first|exact qe_ _|exact Nat.le_add_right _ _)
   exact I1.fpOk this (I1.hok.fresh this)
 cases t
 ·exact call_zip_2 pa pb fin
 ·exact zFc pa pb fin
end
section
variable{X:Cx}
theorem zFg(hc:X.calm=true):CallR X (.builtin "min") (λxs H Q=>∃(p:Addr) (ns:List Int),xs=[.ref p]/\SqL X.K H p (ns.map V.int)/\0<ns.length/\∀M,M∈ns->(∀a∈ns,M<=a)->Q (.int M) H):=by
 intro pins s σ H xs us Q I r h
 obtain⟨p,ns,rfl,hq,hn,q⟩:=h
 obtain⟨u,rfl,rx⟩:=cQ r
 cases rx
 obtain⟨its,rv,pl,hz⟩:=I.list hq
 have hi:IntsAre its ns:=pV rv
 obtain⟨zs,ez⟩:=hi.allInts.items
 have en:ns=zs.toList.map (·.1):=by rw[<-hi.numsOf,<-nums_intItems,<-ez]
 have hz0:0<zs.size:=by rw[en,qc_,qu_]at hn;exact hn
 have hl:=pl.isList
 rw[ez]at hl
 refine min_intList (I.ok.hd hc) hl hz0 λv h' tk hv hk=>?_
 obtain⟨t,rfl⟩:=intItems_at hv
 obtain⟨h1,h2⟩:=argBest_lt (numAt zs) (zs.size-1)
 refine⟨.int _,H,I.kept hk,⟨t,rfl⟩,q _ ?_ λa ha=>?_⟩
 ·rw[en,numAt_eq]
  exact getD_mem (by rw[qc_,qu_];omega)
 ·rw[en]at ha
  obtain⟨j,hj,rfl⟩:=mem_getD ha
  rw[qc_,qu_]at hj
  have:=h2 j (by omega)
  rw[numAt_eq zs j]at this
  exact this
theorem zFi(hc:X.calm=true):CallR X (.builtin "max") (λxs H Q=>∃(p:Addr) (ns:List Int),xs=[.ref p]/\SqL X.K H p (ns.map V.int)/\0<ns.length/\∀M,M∈ns->(∀a∈ns,a<=M)->Q (.int M) H):=by
 intro pins s σ H xs us Q I r h
 obtain⟨p,ns,rfl,hq,hn,q⟩:=h
 obtain⟨u,rfl,rx⟩:=cQ r
 cases rx
 obtain⟨its,rv,pl,hz⟩:=I.list hq
 have hi:IntsAre its ns:=pV rv
 obtain⟨zs,ez⟩:=hi.allInts.items
 have en:ns=zs.toList.map (·.1):=by rw[<-hi.numsOf,<-nums_intItems,<-ez]
 have hz0:0<zs.size:=by rw[en,qc_,qu_]at hn;exact hn
 have hl:=pl.isList
 rw[ez]at hl
 refine max_intList (I.ok.hd hc) hl hz0 λv h' tk hv hk=>?_
 obtain⟨t,rfl⟩:=intItems_at hv
 obtain⟨h1,h2⟩:=argBest_gt (numAt zs) (zs.size-1)
 refine⟨.int _,H,I.kept hk,⟨t,rfl⟩,q _ ?_ λa ha=>?_⟩
 ·rw[en,numAt_eq]
  exact getD_mem (by rw[qc_,qu_];omega)
 ·rw[en]at ha
  obtain⟨j,hj,rfl⟩:=mem_getD ha
  rw[qc_,qu_]at hj
  have:=h2 j (by omega)
  rw[numAt_eq zs j]at this
  exact this
end
end L2
namespace L2
open PySem PySem.Spec PyProof.Rows
theorem zDH{us:List Value}{ns:List Int}(h:IntsAre us ns):Vals (ns.map V.int) us:=by
 induction h with
 |nil=>exact .nil
 |cons n t _ ih=>exact .cons ⟨t,rfl⟩ ih
section
variable{X:Cx}
theorem call_sortedI:CallR X (.builtin "sorted") (λxs H Q=>∃(p:Addr) (ns:List Int),xs=[.ref p]/\SqL X.K H p (ns.map V.int)/\ns.length<64 /\
  ∀(ns':List Int) (l:Addr),ns'.Perm ns->ns'.Pairwise (·<=·)->H l=none->Q (.ref l) (upd H l (.lst (ns'.map V.int)))):=by
 intro pins s σ H xs us Q I r h
 obtain⟨p,ns,rfl,hq,h64,q⟩:=h
 obtain⟨u,rfl,rx⟩:=cQ r
 cases rx
 obtain⟨its,rv,pl,hz⟩:=I.list hq
 have hi:IntsAre its ns:=pV rv
 have hll:=rv.length
 rw[qc_]at hll
 refine sorted_ints pl.isList hi (by omega) λout ns' a1 a2 a3=>?_
 obtain⟨e,he⟩:=sortedAll_at s.heap its out
 have hlen:=a2.length_eq
 refine⟨.ref (s.heap.objs.size+1),_,I.laid (t':=s.toks) (λb o e=>sortedAll_old e) (qp1_ _) (show ObjOk X.prog X.w _ _ _ (.lst (ns'.map V.int)) from ⟨?_,out.toList,e,zDH a1,he⟩),rfl,q ns' _ a2 a3 (I.hok.fresh (qp1_ _))⟩
 rw[qc_,hlen]
 exact qY_ (qq1_ h64 (by decide))
end
end L2
namespace L2
open PySem PySem.Spec PyProof.Rows
def Its(x:Str):It:=⟨λi _=>i<x.cps.size,λi H v H'=>H'=H/\∃c,x.cps[i]?=some c/\v=.str ⟨#[c]⟩,λi _=>x.cps.size<=i⟩
theorem zEs{P:Program}{w:World}{K:W.Frag}{tg:Expr}(it:Addr)(x:Str)(t:Tok):jE P w K tg (Its x) [it] it (λi h=>h.IsStrIter it "str_ascii_iterator" x t i) where
 mem:=by simp
 obj:=λi h st b hb=>by
  have e:b=it:=by simpa using hb
  subst e
  obtain⟨o,e,c,d⟩:=st
  exact⟨o,e,λv z=>by rw[d]at z;cases z⟩
 keep:=λi h h' st k=>let ⟨o,ho,r⟩:=st;⟨o,k it (by simp) o ho,r⟩
 item:=by
  intro X hP hw hK hc i pins s σ H E I hf st hg
  subst hP hw hK
  obtain⟨f0,f1,f2,f3,f4,f5⟩:=hf it (by simp)
  have W:=Walks.strAscii (prog:=X.prog) (w:=X.w) (I.ok.hd hc) it x t
  refine W.item i s _ _ hg st λv h' tk hv st' kk=>?_
  obtain⟨c,u,hc',rfl⟩:=hv
  have I1:Inv X pins σ H {s with heap:=h',toks:=tk}:=I.turned (λb o hb e=>kk b o (by simpa using hb) e) f0 f1 f3 f4 f5
  obtain⟨o,e,c1,d⟩:=id st'
  exact⟨_,rfl,mI (s:={s with heap:=h',toks:=tk}) e c1 d (by decide) ⟨.str ⟨#[c]⟩,H,I1,⟨u,rfl⟩,⟨rfl,c,hc',rfl⟩,st',λb hb=>(hf b hb).1⟩⟩
 done:=by
  intro X hP hw hK hc i pins s σ H E I hf st hg
  subst hP hw hK
  obtain⟨f0,f1,f2,f3,f4,f5⟩:=hf it (by simp)
  exact wpAny_pyNext_ascii_end (I.ok.hd hc) st (by have:x.cps.size<=i:=hg;simp;omega) λh' eb=>⟨rfl,I.turned (t':=s.toks) (λb o hb e=>eb b o hb e) f0 f1 f3 f4 f5⟩
 self:=λ_ _ _ _ _ st h=>wpAny_pyIter_striter_ascii st h
theorem zEr{P:Program}{w:World}{K:W.Frag}{tg:Expr}(it:Addr)(x:Str)(t:Tok):jE P w K tg (Its x) [it] it (λi h=>h.IsStrIter it "str_iterator" x t i) where
 mem:=by simp
 obj:=λi h st b hb=>by
  have e:b=it:=by simpa using hb
  subst e
  obtain⟨o,e,c,d⟩:=st
  exact⟨o,e,λv z=>by rw[d]at z;cases z⟩
 keep:=λi h h' st k=>let ⟨o,ho,r⟩:=st;⟨o,k it (by simp) o ho,r⟩
 item:=by
  intro X hP hw hK hc i pins s σ H E I hf st hg
  subst hP hw hK
  obtain⟨f0,f1,f2,f3,f4,f5⟩:=hf it (by simp)
  have W:=Walks.strWide (prog:=X.prog) (w:=X.w) (I.ok.hd hc) it x t
  refine W.item i s _ _ hg st λv h' tk hv st' kk=>?_
  obtain⟨c,u,hc',rfl⟩:=hv
  have I1:Inv X pins σ H {s with heap:=h',toks:=tk}:=I.turned (λb o hb e=>kk b o (by simpa using hb) e) f0 f1 f3 f4 f5
  obtain⟨o,e,c1,d⟩:=id st'
  exact⟨_,rfl,mI (s:={s with heap:=h',toks:=tk}) e c1 d (by decide) ⟨.str ⟨#[c]⟩,H,I1,⟨u,rfl⟩,⟨rfl,c,hc',rfl⟩,st',λb hb=>(hf b hb).1⟩⟩
 done:=by
  intro X hP hw hK hc i pins s σ H E I hf st hg
  subst hP hw hK
  obtain⟨f0,f1,f2,f3,f4,f5⟩:=hf it (by simp)
  exact wpAny_pyNext_wide_end (I.ok.hd hc) st (by have:x.cps.size<=i:=hg;simp;omega) λh' eb=>⟨rfl,I.turned (t':=s.toks) (λb o hb e=>eb b o hb e) f0 f1 f3 f4 f5⟩
 self:=λ_ _ _ _ _ st h=>wpAny_pyIter_striter_wide st h
section
variable{X:Cx}
def zGS:V->List V->Hp->VK->Prop:=λx vs H Q=>∃i j,x=.str i/\vs=[.str j]/\Q (.bl (decide (0+j.length<=i.length)&&Builtin.Str.subAt i j 0)) H
theorem zDu:MtM X "str.startswith" zGS:=by
 intro pins s σ H x vs v us Q I rx rv h
 obtain⟨i,j,rfl,rfl,q⟩:=h
 obtain⟨t,rfl⟩:=rx
 obtain⟨u,rfl,t',rfl⟩:=rv.one
 exact call_gives F.slot_str_startswith (typeIs_str _ _ _) F.entry_str_startswith (F.args_str_startswith_2 _ _) (gives_str_startswith i j t t') ⟨.bl _,H,I,rfl,q⟩
def zJP:V->List V->Hp->VK->Prop:=λx vs H Q=>∃i j,x=.str i/\vs=[.str j]/\∀n:Int,Q (.int n) H
theorem zHk:MtM X "str.find" zJP:=by
 intro pins s σ H x vs v us Q I rx rv h
 obtain⟨i,j,rfl,rfl,q⟩:=h
 obtain⟨t,rfl⟩:=rx
 obtain⟨u,rfl,t',rfl⟩:=rv.one
 exact call_gives F.slot_str_find (typeIs_str _ _ _) F.entry_str_find (F.args_str_find_2 _ _) (gives_str_find i j t t') ⟨.int _,H,I.tok _,⟨_,rfl⟩,q _⟩
end
def KD(prm:Params):List DictEntry->List (Str×Str)->Prop
 |[],[]=>True
 |e::es,kv::kvs=>e.hash=PyData.keyHash prm kv.1/\(∃t,e.key=.str kv.1 t)/\(∃t,e.val=.str kv.2 t)/\KD prm es kvs
 |_,_=>False
structure zCR (K:W.Frag) (prm:Params) (d:Addr) (kvs:List (Str×Str)):Prop where
 obj:∃(es:Array DictEntry) (ep:Nat),K.lookup d=some ⟨.type "dict",none,.dict es ep,#[]⟩/\KD prm es.toList kvs
 nd:(kvs.map (·.1)).Nodup
def getS(kvs:List (Str×Str))(x:Str):Option Str:=(kvs.find? λkv=>kv.1=x).map (·.2)
theorem KD.keys{P:Program}{w:World}:∀{es:List DictEntry}{kvs:List (Str×Str)},KD w.params es kvs->∀e∈es,∃k,(bR P w).is k e.key=true/\e.hash=(bR P w).hash k
 |[],[],_,e,he=>nomatch he
 |a::es,kv::kvs,⟨h1,⟨t,h2⟩,_,h4⟩,e,he=>by
  rcases qw_.mp he with z|z
  ·subst z
   exact⟨.inr kv.1,by rw[h2];exact pP P w kv.1 t,by rw[h1];rfl⟩
  ·exact KD.keys h4 e z
theorem KD.pairs{P:Program}{w:World}:∀{es:List DictEntry}{kvs:List (Str×Str)},KD w.params es kvs->∃vs:List (Key×Value),Pairs (bR P w) es vs/\vs.map (·.1)=kvs.map (λkv=>Sum.inr kv.1) /\
  ∀x y,getS kvs x=some y->∃t,valueAt vs (.inr x)=some (.str y t)
 |[],[],_=>⟨[],.nil,rfl,λx y h=>nomatch h⟩
 |a::es,kv::kvs,⟨h1,⟨t,h2⟩,⟨t',h3⟩,h4⟩=>by
  obtain⟨vs,p,m,g⟩:=KD.pairs (P:=P) h4
  refine⟨(.inr kv.1,.str kv.2 t')::vs,.cons (by rw[h2];exact pP P w kv.1 t) h3 p,by simp[m],λx y h=>?_⟩
  by_cases e:kv.1=x
  ·subst e
   have:kv.2=y:=by simpa[getS]using h
   subst this
   exact⟨t',by simp[valueAt]⟩
  ·have h':getS kvs x=some y:=by simpa[getS,e]using h
   obtain⟨t'',h''⟩:=g x y h'
   exact⟨t'',by
    have:(Sum.inr kv.1:Key)≠.inr x:=λz=>e (Sum.inr.inj z)
    simpa[valueAt,this]using h''⟩
section
variable{X:Cx}
def rKD(d:Addr)(kvs:List (Str×Str)):R2:=λx y H Q=>∃i j,x=.ref d/\y=.str i/\getS kvs i=some j/\Q (.str j) H
theorem zKb{d:Addr}{kvs:List (Str×Str)}(D:zCR X.K X.w.params d kvs):IxR X (rKD d kvs):=by
 intro value slice pins s σ H x y v u Q I rx ry h hs
 obtain⟨i,j,rfl,rfl,hg,q⟩:=h
 cases rx
 obtain⟨t,rfl⟩:=ry
 obtain⟨es,ep,lk,kd⟩:=D.obj
 obtain⟨vs,hp,hm,hv⟩:=KD.pairs (P:=X.prog) kd
 obtain⟨t',hv⟩:=hv i j hg
 have ho:=I.kIn d _ lk
 have hnd:(vs.map (·.1)).Nodup:=by
  rw[hm,show kvs.map (λkv=>(Sum.inr kv.1:Key))=(kvs.map (·.1)).map Sum.inr by simp]
  unfold List.Nodup
  rw[qv2_]
  exact D.nd.imp λh z=>h (Sum.inr.inj z)
 have dd:s.heap.DictOf (bR X.prog X.w) d vs:=⟨_,es,ep,ho,⟨rfl,rfl,rfl⟩,rfl,λe he=>KD.keys kd e (by simpa using he),hp,hnd⟩
 exact tail_any ⟨_,ho,rfl⟩ slot_dict_getitem.lookup (wpAny_getItem_of (pP _ _ i t) dd.mapOf hv ⟨.str j,H,I.tok _,⟨t',rfl⟩,q⟩) hs
end
section
variable{X:Cx}
def zKL:V->Option Int->Option Int->Hp->VK->Prop:=λx lo hi H Q=>∃z,x=.str z/\z.length<=sizeLine/\Q (.str (Txt.slice z lo hi)) H
theorem zH7:SlR X zKL:=by
 intro pins s σ H x v vl vu lo hi sl Q I rx hs pl pu h
 obtain⟨z,rfl,hz,q⟩:=h
 obtain⟨t,rfl⟩:=rx
 obtain⟨o,ho,hc,hd⟩:=hs
 refine⟨"str",_,F.slot_str_getitem.lookup,typeIs_str _ _ _,?_⟩
 have fin:∀t' k,EP X pins σ Q (.str (Txt.slice z lo hi) t') {s with toks:=k}:=λt' k=>⟨.str _,H,I.tok k,⟨t',rfl⟩,q⟩
 cases pl with
 |none=>cases pu with
  |none=>exact wpAny_getItem_str_slice (l:=none) (u:=none) (st:=none) ⟨o,ho,hc,hd⟩ rfl (post_val_or_str ⟨qh_ (Txt.slice_le z _ _) hz,fin⟩)
  |int j uj=>exact wpAny_getItem_str_slice (l:=none) (u:=some (j,uj)) (st:=none) ⟨o,ho,hc,hd⟩ rfl (post_val_or_str ⟨qh_ (Txt.slice_le z _ _) hz,fin⟩)
 |int i ui=>cases pu with
  |none=>exact wpAny_getItem_str_slice (l:=some (i,ui)) (u:=none) (st:=none) ⟨o,ho,hc,hd⟩ rfl (post_val_or_str ⟨qh_ (Txt.slice_le z _ _) hz,fin⟩)
  |int j uj=>exact wpAny_getItem_str_slice (l:=some (i,ui)) (u:=some (j,uj)) (st:=none) ⟨o,ho,hc,hd⟩ rfl (post_val_or_str ⟨qh_ (Txt.slice_le z _ _) hz,fin⟩)
theorem jG{ss:List Str}:∀{us:List Value},Vals (ss.map V.str) us->StrsAre us ss:=by
 induction ss with
 |nil=>intro us r;rw[qE2_]at r;cases r;exact .nil
 |cons n ns ih=>
  intro us r
  rw[qA_]at r
  cases r with
  |cons r1 r2=>
   obtain⟨t,e⟩:=r1
   subst e
   exact .cons n t (ih r2)
theorem pL{us:List Value}{ss:List Str}(h:StrsAre us ss):Vals (ss.map V.str) us:=by
 induction h with
 |nil=>exact .nil
 |cons n t _ ih=>exact .cons ⟨t,rfl⟩ ih
theorem call_sortedS:CallR X (.builtin "sorted") (λxs H Q=>∃(p:Addr) (ss:List Str),xs=[.ref p]/\SqL X.K H p (ss.map V.str)/\ss.length<64 /\
  ∀(ss':List Str) (l:Addr),ss'.Perm ss->sortedS ss'=true->H l=none->Q (.ref l) (upd H l (.lst (ss'.map V.str)))):=by
 intro pins s σ H xs us Q I r h
 obtain⟨p,ns,rfl,hq,h64,q⟩:=h
 obtain⟨u,rfl,rx⟩:=cQ r
 cases rx
 obtain⟨its,rv,pl,hz⟩:=I.list hq
 have hi:StrsAre its ns:=jG rv
 have hll:=rv.length
 rw[qc_]at hll
 refine sorted_strs pl.isList hi (by omega) λout ns' a1 a2 a3=>?_
 obtain⟨e,he⟩:=sortedAll_at s.heap its out
 have hlen:=a2.length_eq
 refine⟨.ref (s.heap.objs.size+1),_,I.laid (t':=s.toks) (λb o e=>sortedAll_old e) (qp1_ _) (show ObjOk X.prog X.w _ _ _ (.lst (ns'.map V.str)) from ⟨?_,out.toList,e,pL a1,he⟩),rfl,q ns' _ a2 a3 (I.hok.fresh (qp1_ _))⟩
 rw[qc_,hlen]
 exact qY_ (qq1_ h64 (by decide))
def cD(ss:List Str):List Nat:=(ss.map λs=>s.cps.toList).flatten
theorem zBq:∀{us:List Value}{ss:List Str},StrsAre us ss->∃l:List (Str×Tok),us=strValues l/\l.map (·.1)=ss
 |_,_,.nil=>⟨[],rfl,rfl⟩
 |_,_,.cons y t h=>by
  obtain⟨l,e1,e2⟩:=zBq h
  exact⟨(y,t)::l,by rw[e1];rfl,by simp[e2]⟩
theorem vA:∀ss:List Str,(Str.join ⟨#[]⟩ ss).cps.toList=cD ss
 |[]=>rfl
 |[x]=>by simp[Str.join,cD]
 |x::y::r=>by
  have ih:=vA (y::r)
  show((x++(⟨#[]⟩:Str)++Str.join ⟨#[]⟩ (y::r)):Str).cps.toList=_
  have e:∀a b:Str,(a++b).cps.toList=a.cps.toList++b.cps.toList:=λa b=>by
   show(a.cps++b.cps).toList=_
   simp
  rw[e,e,ih]
  simp[cD]
theorem zBt:∀(ss:List Str) (n:Nat),ss.foldl (λa s=>a+s.length+0) n=n+(cD ss).length
 |[],n=>by simp[cD]
 |s::r,n=>by
  rw[qw1_,zBt r]
  simp[cD,Str.length]
  omega
def zJO(K:W.Frag):V->List V->Hp->VK->Prop:=λx vs H Q=>∃p ss,x=.str ⟨#[]⟩/\vs=[.ref p]/\SqL K H p (ss.map V.str)/\(cD ss).length<=100000/\∀z:Str,z.cps.toList=cD ss->Q (.str z) H
theorem zHj:MtM X "str.join" (zJO X.K):=by
 intro pins s σ H x vs v us Q I rx rv h
 obtain⟨p,ss,rfl,rfl,hq,hz,q⟩:=h
 obtain⟨t,rfl⟩:=rx
 obtain⟨u,rfl,ru⟩:=rv.one
 cases ru
 obtain⟨its,rv,pl,hz'⟩:=I.list hq
 obtain⟨l,e1,e2⟩:=zBq (jG rv)
 have hl:=pl.isList
 rw[e1]at hl
 have hlen:((l.map (·.1)).toArray.foldl (λa s=>a+s.length+(⟨#[]⟩:Str).length) 0)=(cD ss).length:=by
  rw[e2,List.foldl_toArray]
  show ss.foldl (λa s=>a+s.length+0) 0=_
  rw[zBt]
  omega
 refine call_meets F.slot_str_join (typeIs_str _ _ _) F.entry_str_join (F.args_str_join_2 _ _) (meets_str_join_list ⟨#[]⟩ t p l (by
  rw[hlen]
  show decide (_ > sizeLine)=false
  exact qF_ (qg2_.mpr (qh_ hz (by decide))))) ⟨hl,?_⟩
 have hj:∀z:Str,z=Str.join ⟨#[]⟩ ss->∀t' k,EP X pins σ Q (.str z t') {s with toks:=k}:=λz e t' k=>⟨.str z,H,I.tok k,⟨t',rfl⟩,q z (by rw[e,vA])⟩
 have hlz:(Str.join ⟨#[]⟩ ss).length<=sizeLine:=by
  show(Str.join ⟨#[]⟩ ss).cps.size<=_
  rw[<-qu_,vA]
  exact qh_ hz (by decide)
 match l,e2 with
 |[],e2=>exact⟨by rw[StrLaws.glued_eq_join];exact qs_ _,hj _ (by rw[<-e2];rw[StrLaws.glued_eq_join]) _ _⟩
 |[pp],e2=>exact hj _ (by rw[<-e2];rfl) _ s.toks
 |a::b::r,e2=>exact⟨by rw[StrLaws.glued_eq_join,e2];exact hlz,hj _ (by rw[StrLaws.glued_eq_join,e2]) _ _⟩
end
end L2
namespace L2
open PySem
theorem tS{α:Type}:∀(l:List α) (i:Nat) (h:i<l.length),(l[i]::l.eraseIdx i).Perm l
 |[],i,h=>by simp at h
 |x::l,0,h=>by simp
 |x::l,i+1,h=>by
  have h':i<l.length:=by simpa using h
  simp only[List.getElem_cons_succ,List.eraseIdx_cons_succ]
  exact(List.Perm.swap _ _ _).trans (.cons _ (tS l i h'))
section
variable{M:Model}{A:Around}{E:Value->Shared->Prop}{s:Shared}
theorem zEm{src:Source}{n:Nat}{Q:Nat->Shared->Prop}(hn:n≠0)(h:∀i d,i<n->Q i {s with drawn:=d}):wpAny M A (choose src n) Q E s:=λΓ p _=>by
 unfold choose
 rw[Sem.wp_choose]
 exact⟨hn,h _ _ (qF2_ _ (Nat.pos_of_ne_zero hn))⟩
theorem tK{α:Type}:∀(n:Nat) (xs:List α) (s:Shared) {Q:List α->Shared->Prop},xs.length=n->(∀ys d,ys.Perm xs->Q ys {s with drawn:=d})->wpAny M A (drawOrder n xs) Q E s
 |0,xs,s,Q,hl,h=>by
  have e:xs=[]:=qO1_ hl
  subst e
  exact qb_ (h [] s.drawn (.refl _))
 |n+1,[],s,Q,hl,h=>by simp at hl
 |n+1,x::xs,s,Q,hl,h=>by
  show wpAny M A (do
   let i <- choose .order (x::xs).length
   match (x::xs)[i]? with
   |some x'=>return x'::(<- drawOrder n ((x::xs).eraseIdx i))
   |none=>unsupported "internal:drawOrder") Q E s
  refine qa_ (zEm (by simp) λi d hi=>?_)
  rw[qk_ hi]
  refine qa_ (tK n _ _ (by rw[qm3_ hi];simp at hl ⊢;exact hl) λys d' hp=>?_)
  refine qb_ (h _ d' ((List.Perm.cons _ hp).trans ?_))
  exact tS (x::xs) i hi
end
theorem zBG{α:Type}(next:Nat->Nat):∀(fuel k:Nat) (left:List α) (out:Array α),fuel=left.length->(pickOrder.go next fuel k left out).toList.Perm (out.toList++left)
 |0,k,left,out,h=>by
  have e:left=[]:=qO1_ h.symm
  subst e
  unfold pickOrder.go
  simp
 |fuel+1,k,left,out,h=>by
  unfold pickOrder.go
  have hlt:next k % left.length<left.length:=qF2_ _ (by omega)
  rw[qk_ hlt]
  refine(zBG next fuel (k+1) _ _ (by rw[qm3_ hlt];omega)).trans ?_
  rw[Array.toList_push,qK1_]
  exact List.Perm.append_left _ (tS _ _ hlt)
theorem jJ{α:Type}(next:Nat->Nat)(xs:Array α):(pickOrder next xs).toList.Perm xs.toList:=by
 unfold pickOrder
 have:=zBG next xs.size 0 xs.toList #[] (by simp)
 simpa using this
end L2
namespace L2
open PySem PySem.Spec PyProof.Rows
abbrev byT(w:World):Bool:=w.params.followText "set-order"
structure SetT (prog:Program) (w:World) (us:List Str) (es:Array (Int×Value)) (t:SetTable):Prop where
 el:ElemsOf (PySem.strKind prog w) es.toList
 tx:∃vs:List Str,StrsAre (es.toList.map (·.2)) vs/\vs.Perm us
 nd:us.Nodup
 lt:es.size<scanBound
 fit:t.fits es.size=true
 pl:es.size=0\/t.plain=false
 ld:t.led=!byT w
abbrev bJ(es:Array (Int×Value))(ep:Nat)(t:SetTable):Obj:={cls:=.type "set",dict:=none,data:=.set es ep t,slots:=#[]}
def SetS(prog:Program)(w:World)(a:Addr)(us:List Str)(h:Heap):Prop:=∃es ep t,h.get? a=some (bJ es ep t)/\SetT prog w us es t
def cU(us:List Str)(x:Str):List Str:=if x∈us then us else us++[x]
theorem gL:∀{vs:List Value}{ss:List Str},StrsAre vs ss->vs.length=ss.length
 |_,_,.nil=>rfl
 |_,_,.cons _ _ h=>by simp[gL h]
theorem zAM:∀{vs:List Value}{ss:List Str},StrsAre vs ss->∀x,x∈ss↔∃v∈vs,Value.isStrOf x v=true
 |_,_,.nil,x=>by simp
 |_,_,.cons y t h,x=>by
  have ih:=zAM h x
  have e:Value.isStrOf x (.str y t)=true↔x=y:=⟨λh=>by
   obtain⟨u,h⟩:=Value.isStrOf_shape h
   injection h with h1 h2
   exact h1.symm,λh=>by subst h;simp[Value.isStrOf]⟩
  simp only[List.mem_cons,exists_eq_or_imp,ih,e]
theorem lD:∀{vs us:List Value},us.Perm vs->∀{ss:List Str},StrsAre vs ss->∃ss',StrsAre us ss'/\ss'.Perm ss:=by
 intro vs us p
 induction p with
 |nil=>intro ss h;exact⟨ss,h,.refl _⟩
 |cons x p ih=>
  intro ss h
  cases h with
  |cons y t h=>obtain⟨ss',a,b⟩:=ih h;exact⟨y::ss',.cons y t a,.cons _ b⟩
 |swap x y l=>
  intro ss h
  cases h with
  |cons a t h=>cases h with
   |cons b u h=>exact⟨b::a::_,.cons b u (.cons a t h),.swap _ _ _⟩
 |trans p q ihp ihq=>
  intro ss h
  obtain⟨s1,a1,b1⟩:=ihq h
  obtain⟨s2,a2,b2⟩:=ihp a1
  exact⟨s2,a2,b2.trans b1⟩
theorem zZ:∀{vs:List Value}{ss:List Str}(x:Str) (t:Tok),StrsAre vs ss->StrsAre (vs++[.str x t]) (ss++[x])
 |_,_,x,t,.nil=>.cons x t .nil
 |_,_,x,t,.cons y u h=>.cons y u (zZ x t h)
theorem zEa(t:SetTable)(es:Array (Int×Value))(h:Int)(x:Value):(layNew t es h x).2.1.led=t.led:=by
 have so:∀(u:SetTable) (n:Nat),(u.orStandIn n).led=u.led:=λu n=>by
  unfold SetTable.orStandIn
  split<;>rfl
 unfold layNew
 split
 ·dsimp only
  rw[so]
  rfl
 ·rfl
theorem zEF(t:SetTable)(es:Array (Int×Value))(n:Nat):(relayAll t es n).2.1.led=t.led/\(t.plain=false->(relayAll t es n).2.1.plain=false):=by
 have la:∀m f mv ld pl hs t' o,SetTable.laid m f mv ld pl hs=some (t',o)->t'.led=ld/\t'.plain=pl:=λm f mv ld pl hs t' o e=>by
  unfold SetTable.laid at e
  cases q:SetTable.layClean m hs with
  |none=>rw[q]at e;cases e
  |some ow=>
   rw[q]at e
   simp only[Option.bind_eq_bind,Option.bind_some,Option.pure_def,Option.some.injEq,Prod.mk.injEq]at e
   obtain⟨e,_⟩:=e
   subst e
   exact⟨rfl,rfl⟩
 unfold relayAll
 split
 ·rename_i t' order e
  have:=la _ _ _ _ _ _ _ _ e
  dsimp only
  split
  ·exact⟨this.1,λz=>by rw[<-z];exact this.2⟩
  ·exact⟨rfl,λ_=>rfl⟩
 ·exact⟨rfl,λ_=>rfl⟩
section
variable{prog:Program}{w:World}{A:Around}{E:Value->Shared->Prop}{s:Shared}{a:Addr}{us:List Str}{x:Str}{tk:Tok}
theorem SetT.mem{es:Array (Int×Value)}{t:SetTable}(T:SetT prog w us es t)(x:Str):x∈us↔∃e∈es.toList,(PySem.strKind prog w).is x e.2=true:=by
 obtain⟨vs,h,p⟩:=T.tx
 rw[<-p.mem_iff,zAM h x]
 simp only[List.mem_map]
 exact⟨λ⟨v,⟨e,he,z⟩,q⟩=>⟨e,he,by subst z;exact q⟩,λ⟨e,he,q⟩=>⟨e.2,⟨e,he,rfl⟩,q⟩⟩
theorem SetT.size{es:Array (Int×Value)}{t:SetTable}(T:SetT prog w us es t):es.size=us.length:=by
 obtain⟨vs,h,p⟩:=T.tx
 have:=gL h
 rw[qc_,qu_]at this
 rw[this,p.length_eq]
theorem zBe{g:Bool->Sem Unit}(hg:∀(b:Bool) (s₁:Shared) (R:Unit->Shared->Prop),R () s₁->wpAny (model prog w) A (g b) R E s₁){es es1:Array (Int×Value)}{ep:Nat}{t t2:SetTable}{wd:Bool}{R:Option Bool->Shared->Prop}
  (ho:s.heap.get? a=some (bJ es ep t)) (T:SetT prog w us es1 t2) (np:t2.plain=false)
  (h:∀h',Heap.SameBut a s.heap h'->SetS prog w a us h'->R (some true) {s with heap:=h'}):
  wpAny (model prog w) A (do
   storeSet a es1 t2
   if (!wd&&t2.tooFull)=true then do
     g (relayAll t2 es1 (SetTable.grown es1.size)).2.2
     storeSet a (relayAll t2 es1 (SetTable.grown es1.size)).1 (relayAll t2 es1 (SetTable.grown es1.size)).2.1
     pure (some true)
    else pure (some true)) R E s:=by
 refine qa_ (wpAny_storeSet_of ho rfl ?_ (fits_of_scanBound T.lt))
 have o1:(s.heap.update a (Obj.putSet es1 t2)).get? a=some (bJ es1 (ep+1) t2):=qU_ (Obj.putSet es1 t2) ho rfl
 have b1:=Heap.SameBut.update s.heap a (Obj.putSet es1 t2)
 split
 ·have hp:=relayAll_perm t2 es1 (SetTable.grown es1.size)
  have hf:=relayAll_fits t2 es1 (SetTable.grown es1.size)
  obtain⟨hl,hq⟩:=zEF t2 es1 (SetTable.grown es1.size)
  have hq:=hq np
  generalize relayAll t2 es1 (SetTable.grown es1.size)=Rl at hp hf hl hq ⊢
  obtain⟨es2,t3,g2⟩:=Rl
  dsimp only at hp hf hl hq ⊢
  have sz:es2.size=es1.size:=by have:=hp.length_eq;simpa using this
  have T2:SetT prog w us es2 t3:=by
   obtain⟨vs,hv,pv⟩:=T.tx
   obtain⟨vs',hv',pv'⟩:=lD (hp.map (·.2)) hv
   exact⟨T.el.perm hp,⟨vs',hv',pv'.trans pv⟩,T.nd,by rw[sz];exact T.lt,hf,.inr hq,hl.trans T.ld⟩
  refine qa_ (hg _ _ _ ?_)
  refine qa_ (wpAny_storeSet_of o1 rfl ?_ (fits_of_scanBound T2.lt))
  exact qb_ (h _ (b1.trans (Heap.SameBut.update _ a _)) ⟨es2,ep+1+1,t3,qU_ (Obj.putSet es2 t3) o1 rfl,T2⟩)
 ·exact qb_ (h _ b1 ⟨es1,ep+1,t2,o1,T⟩)
theorem vG{Q:Bool->Shared->Prop}(S:SetS prog w a us s.heap)(room:us.length+1<scanBound)(h:∀b h',Heap.SameBut a s.heap h'->SetS prog w a (cU us x) h'->Q b {s with heap:=h'}):
  wpAny (model prog w) A (setAddHashed a (.str x tk) ((PySem.strKind prog w).hash x)) Q E s:=by
 obtain⟨es,ep,t,ho,T⟩:=id S
 have hk:(PySem.strKind prog w).is x (.str x tk)=true:=by show Value.isStrOf x (.str x tk)=true;simp[Value.isStrOf]
 have sc:(Value.str x tk).scannable=true:=rfl
 unfold setAddHashed setAddHashedIn
 refine qB_ (qa_ (qt_ ho rfl T.fit ?_))
 dsimp only
 rw[byScan_of sc T.lt T.el,if_pos rfl]
 unfold setAddByScan
 refine qa_ (qa_ (wpAny_rule ?_))
 refine qa_ (wpAny_setScan_of hk ho rfl T.fit T.el ?_)
 cases hr:es.toList.findIdx? (λe=>(PySem.strKind prog w).is x e.2) with
 |some j=>
  dsimp only
  obtain⟨hj,hp,_⟩:=List.findIdx?_eq_some_iff_getElem.mp hr
  have hin:x∈us:=(T.mem x).mpr ⟨_,qN1_ hj,hp⟩
  refine qb_ (qb_ ?_)
  have e:s={s with heap:=s.heap}:=by cases s;rfl
  rw[e]
  refine h false s.heap (Heap.SameBut.refl a s.heap) ?_
  rw[cU,if_pos hin]
  exact S
 |none=>
  dsimp only
  have hout:x∉us:=λz=>by
   obtain⟨e,he,hp⟩:=(T.mem x).mp z
   have:=qn3_.mp hr e he
   rw[hp]at this;cases this
  have eA:cU us x=us++[x]:=by rw[cU,if_neg hout]
  have pm:=layNew_perm t es ((PySem.strKind prog w).hash x) (.str x tk)
  have ft:=layNew_fits t es ((PySem.strKind prog w).hash x) (.str x tk)
  have ld:=zEa t es ((PySem.strKind prog w).hash x) (.str x tk)
  generalize layNew t es ((PySem.strKind prog w).hash x) (.str x tk)=L at pm ft ld ⊢
  obtain⟨es1,t1,wd,gv⟩:=L
  dsimp only at pm ft ld ⊢
  rw[Array.toList_push]at pm
  have sz:es1.size=us.length+1:=by
   have:=pm.length_eq
   rw[<-qu_,this,qj_,qu_,T.size];rfl
  have base:∀t2:SetTable,t2.fits es1.size=true->t2.plain=false->t2.led=t.led->SetT prog w (cU us x) es1 t2:=λt2 f2 p2 l2=>by
   obtain⟨vs,hv,pv⟩:=T.tx
   have h1:=zZ x tk hv
   have h2:(es.toList.map (·.2))++[Value.str x tk]=(es.toList++[((PySem.strKind prog w).hash x,Value.str x tk)]).map (·.2):=by simp
   rw[h2]at h1
   obtain⟨vs',hv',pv'⟩:=lD (pm.map (·.2)) h1
   refine⟨(T.el.push hk sc).perm pm,⟨vs',hv',?_⟩,?_,by rw[sz];exact room,f2,.inr p2,l2.trans T.ld⟩
   ·rw[eA];exact pv'.trans (pv.append_right _)
   ·rw[eA,qw2_]
    refine⟨T.nd,by simp,λy hy z hz e=>hout ?_⟩
    have q:z=x:=by simpa using hz
    rw[<-q,<-e]
    exact hy
  have gw:∀(b:Bool) (s₁:Shared) (R:Unit->Shared->Prop),R () s₁->wpAny (model prog w) A (match b with|true=>rule "set.scan.the-table-gave-way"|false=>pure ()) R E s₁:=
   λb s₁ R q=>by
    cases b
    ·exact qb_ q
    ·exact wpAny_rule q
  refine qa_ (gw _ _ _ ?_)
  have fin:∀h',Heap.SameBut a s.heap h'->SetS prog w a (cU us x) h'->wpAny (model prog w) A (pure true) Q E {s with heap:=h'}:=λh' b S'=>qb_ (h true h' b S')
  split
  ·refine qa_ ?_
   rw[hashByValue_scannable 8 sc]
   refine qb_ ?_
   rw[if_neg (by simp[plainKind])]
   exact zBe (g:=λb=>match b with|true=>rule "set.scan.the-table-gave-way"|false=>pure ()) gw ho (base _ (SetTable.fits_plain_off ft) rfl ld) rfl λh' b S'=>fin h' b S'
  ·rename_i hp
   refine qa_ (qb_ ?_)
   rw[if_pos rfl]
   exact zBe (g:=λb=>match b with|true=>rule "set.scan.the-table-gave-way"|false=>pure ()) gw ho (base _ ft (by simpa using hp) ld) (by simpa using hp) λh' b S'=>fin h' b S'
end
end L2
namespace L2
open PySem PySem.Spec PyProof.Rows
theorem qP:Slot "set" "__iter__" "set.__iter__":=
 Slot.of (owner:="set") (n:="__iter__") (by rw[typeLookup_type,builtinLookup_eq_fast];kernel_rfl) (by decide +kernel) (by decide +kernel) (by decide +kernel) (by first|exact .inl (by decide +kernel)|exact .inr (by decide +kernel)) (by rw[isSubtype_type];kernel_rfl)
theorem zB1:entryFor table "set.__iter__"=some Builtin.«frozenset.__iter__»:=entryFor_alias (id':="frozenset.__iter__") (by kernel_rfl) rfl (by decide +kernel) (by kernel_rfl)
theorem zB6(a:Value):argsOk "set.__iter__" ⟨[a],[]⟩:=by
 unfold argsOk
 kernel_rfl
theorem st_next:Slot "set_iterator" "__next__" "set_iterator.__next__":=
 Slot.of (owner:="set_iterator") (n:="__next__") (by rw[typeLookup_type,builtinLookup_eq_fast];kernel_rfl) (by decide +kernel) (by decide +kernel) (by decide +kernel) (by first|exact .inl (by decide +kernel)|exact .inr (by decide +kernel)) (by rw[isSubtype_type];kernel_rfl)
theorem zHw:entryFor table "set_iterator.__next__"=some Builtin.«set_iterator.__next__»:=entryFor_of_fast (by kernel_rfl)
theorem zHE(a:Value):argsOk "set_iterator.__next__" ⟨[a],[]⟩:=by
 unfold argsOk
 kernel_rfl
theorem gP:Slot "set_iterator" "__iter__" "set_iterator.__iter__":=
 Slot.of (owner:="set_iterator") (n:="__iter__") (by rw[typeLookup_type,builtinLookup_eq_fast];kernel_rfl) (by decide +kernel) (by decide +kernel) (by decide +kernel) (by first|exact .inl (by decide +kernel)|exact .inr (by decide +kernel)) (by rw[isSubtype_type];kernel_rfl)
theorem nU:entryFor table "set_iterator.__iter__"=some Builtin.«dict_keyiterator.__iter__»:=entryFor_alias (id':="dict_keyiterator.__iter__") (by kernel_rfl) rfl (by decide +kernel) (by kernel_rfl)
theorem nV(a:Value):argsOk "set_iterator.__iter__" ⟨[a],[]⟩:=by
 unfold argsOk
 kernel_rfl
section
variable{prog:Program}{w:World}{A:Around}{E:Value->Shared->Prop}{s:Shared}
theorem zGr{α:Type}{Q:α->Shared->Prop}(hh:A.handled=none)
  (h:∀e h',(∀b o,s.heap.get? b=some o->h'.get? b=some o)->Shared.TypeIs {s with heap:=h'} (.ref e) "StopIteration"->E (.ref e) {s with heap:=h'}):
  wpAny (model prog w) A (newExc (.type "StopIteration") [] >>= λe=>raiseNew e) Q E s:=by
 refine qa_ ?_
 simp only[newExc,newTuple]
 refine qa_ (qS_ ?_ (by size_fits))
 refine qa_ (m:=firstArgMember _ _) (wpAny_of_eq (a:=Value.none) (by first|rfl|(simp only[firstArgMember];rfl)) ?_)
 refine qS_ ?_ (by size_fits)
 simp only[raiseNew]
 refine qa_ (wpAny_handled ?_)
 rw[hh]
 refine qa_ (qb_ (wpAny_throw ?_))
 exact h _ _ (λb o e=>qd_ _ (qd_ _ e)) ⟨_,qi_ _ rfl,rfl⟩
theorem gO{it:Addr}{o:Obj}{Q:Option Value->Shared->Prop}(ho:s.heap.get? it=some o)(hc:o.cls=.type "set_iterator")
  (h:wpAny (model prog w) A.in1 (Builtin.«set_iterator.__next__» ⟨[.ref it],[]⟩) (λr s'=>∃v,r=.done (.ret v)/\Q (some v) s') (λe s'=>s'.TypeIs e "StopIteration"/\Q none s') s):
  wpAny (model prog w) A (pyNext (.ref it)) Q E s:=by
 have ht:s.TypeIs (.ref it) "set_iterator":=⟨o,ho,hc⟩
 unfold pyNext
 refine qa_ (wpAny_attempt (wpAny_callSpecial?_slot (name:=Str.ofString "__next__") ht st_next (qK_ st_next ht zHw ?_ (zHE _))))
 refine wpAny_mono h (λr s' ⟨v,e,q⟩=>⟨v,e,qb_ q⟩) λe s' ⟨t,q⟩=>?_
 exact qa_ (wpAny_isInstance (T:="StopIteration") (b:=true) t isSubtype_stop (qb_ q))
end
end L2
namespace L2
open PySem PySem.Spec PyProof.Rows
abbrev itO(first:Value)(i:Nat)(a:Addr)(n ep:Nat):Obj:={cls:=.type "set_iterator",data:=.fields #[first,.int (i:Int) 0,.ref a,.int (n:Int) 0,.int (ep:Int) 0]}
section
variable{prog:Program}{w:World}{A:Around}{E:Value->Shared->Prop}{s:Shared}{it a:Addr}{us:List Str}{es:Array (Int×Value)}{ep:Nat}{t:SetTable}
theorem mX{Q:Array (Int×Value)->Shared->Prop}(ho:s.heap.get? a=some (bJ es ep t))(hf:t.fits es.size=true)(h:Q es s):wpAny (model prog w) A (setEntries a) Q E s:=by
 unfold setEntries
 exact qa_ (qt_ ho rfl hf (qb_ h))
theorem dQ{Q:Bool->Shared->Prop}(h:Q (byT w) s):wpAny (model prog w) A setsByText Q E s:=by
 unfold setsByText
 exact qa_ (wpAny_askSetting (qb_ h))
theorem jH{i slot:Nat}{n:Nat}{Q:Fin->Shared->Prop}(hi:s.heap.get? it=some (itO (.int (slot:Int) 0) i a n ep))(ho:s.heap.get? a=some (bJ es ep t))(hf:t.fits es.size=true)(hn:es.size=n)
  (h:wpAny (model prog w) A (setNext a slot i ep) (λr s'=>wpAny (model prog w) A (match r with
   |some (x,next)=>do
    setField (.ref it) 0 (rawInt next)
    setField (.ref it) 1 (rawInt (i+1))
    ret x
   |none=>do setField (.ref it) 2 .none;raiseNew (<- newExc (.type "StopIteration") [])) Q E s') E s):
  wpAny (model prog w) A (Builtin.«set_iterator.__next__» ⟨[.ref it],[]⟩) Q E s:=by
 unfold Builtin.«set_iterator.__next__»
 refine qa_ (m:=slotArgs "__next__" 0 ⟨[.ref it],[]⟩) (qb_ ?_)
 dsimp only
 refine qa_ (wpAny_fieldsOf hi rfl ?_)
 show wpAny _ _ (setEntries a >>= _) _ _ s
 refine qa_ (mX ho hf ?_)
 rw[hn]
 simp only[bne_self_eq_false,Bool.false_eq_true,if_false]
 refine qa_ (m:=setNext a slot i ep) h
end
end L2
namespace L2
open PySem PySem.Spec PyProof.Rows
section
variable{prog:Program}{w:World}{A:Around}{E:Value->Shared->Prop}{s:Shared}{it a:Addr}{us:List Str}{es:Array (Int×Value)}{ep:Nat}{t:SetTable}
theorem nC{o:Obj}{vs:Array Value}{k:Nat}{Q:Fin->Shared->Prop}(hh:A.handled=none)(hi:s.heap.get? it=some o)(hd:o.data=.fields vs)(hk:k<vs.size)
  (h:∀e h',(∀b u,b≠it->s.heap.get? b=some u->h'.get? b=some u)->Shared.TypeIs {s with heap:=h'} (.ref e) "StopIteration"->E (.ref e) {s with heap:=h'}):
  wpAny (model prog w) A (do setField (.ref it) k .none;raiseNew (<- newExc (.type "StopIteration") [])) Q E s:=by
 refine qa_ (wpAny_setField hi hd hk ?_)
 refine zGr hh λe h' kp ty=>h e h' (λb u hb q=>kp b u ?_) ty
 rw[(Heap.SameBut.update s.heap it _).2 b hb];exact q
theorem zJr(hh:A.handled=none)(hb:byT w=true)(T:SetT prog w us es t)(it a:Addr)(ne:it≠a):
  WalksS prog w A it [it,a] [it] Eq es.size (λi v=>(pickOrder (w.params.setOrder a ep) es)[i]?.map (·.2)=some v)
   (λi s=>s.heap.get? it=some (itO (.int 0 0) i a es.size ep)/\s.heap.get? a=some (bJ es ep t)) where
 sub:=λb hb=>by simp at hb;simp[hb]
 grefl:=λ_=>rfl
 gtrans:=λ_ _ _ x y=>x.trans y
 frame:=λi s h' tk st _ k=>⟨k it (by simp) _ st.1,k a (by simp) _ st.2⟩
 item:=λi s Q E hi st hQ=>by
  refine gO st.1 rfl (jH (slot:=0) st.1 st.2 T.fit rfl ?_)
  have sz:(pickOrder (w.params.setOrder a ep) es).size=es.size:=by have:=(jJ (w.params.setOrder a ep) es).length_eq;simpa using this
  unfold setNext
  refine qa_ (qt_ st.2 rfl T.fit ?_)
  dsimp only
  refine qa_ (dQ ?_)
  rw[if_pos hb]
  simp only[bne_self_eq_false,Bool.false_eq_true,if_false]
  unfold setWalk
  refine qa_ (qa_ (qt_ st.2 rfl T.fit ?_))
  dsimp only
  refine qa_ (dQ ?_)
  rw[if_pos hb]
  refine qa_ (wpAny_askSetting (qb_ ?_))
  refine qb_ ?_
  have hlt:i<(pickOrder (w.params.setOrder a ep) es).size:=by rw[sz];exact hi
  show wpAny _ _ (match Option.map (λe=>(e.2,0)) (pickOrder (w.params.setOrder a ep) es)[i]? with
   |some (x,next)=>do
    setField (.ref it) 0 (rawInt (next:Nat))
    setField (.ref it) 1 (rawInt (i+1))
    ret x
   |none=>do setField (.ref it) 2 .none;raiseNew (<- newExc (.type "StopIteration") [])) _ _ _
  rw[qO_ hlt]
  dsimp only[Option.map_some]
  refine qa_ (qW_ st.1 (by simp) λh1 g1 b1=>?_)
  refine qa_ (qW_ g1 (by simp) λh2 g2 b2=>?_)
  refine qb_ ⟨_,rfl,hQ _ _ (by rw[qO_ hlt];rfl) ⟨?_,?_⟩ ⟨?_,rfl,rfl,rfl,qe_ _⟩⟩
  ·rw[g2];rfl
  ·rw[b2.2 a ne.symm,b1.2 a ne.symm];exact st.2
  ·intro b o hb e
   have hb':b≠it:=by simpa using hb
   rw[b2.2 b hb',b1.2 b hb'];exact e
 done:=λs Q E st hQ=>by
  refine gO st.1 rfl (jH (slot:=0) st.1 st.2 T.fit rfl ?_)
  have sz:(pickOrder (w.params.setOrder a ep) es).size=es.size:=by have:=(jJ (w.params.setOrder a ep) es).length_eq;simpa using this
  unfold setNext
  refine qa_ (qt_ st.2 rfl T.fit ?_)
  dsimp only
  refine qa_ (dQ ?_)
  rw[if_pos hb]
  simp only[bne_self_eq_false,Bool.false_eq_true,if_false]
  unfold setWalk
  refine qa_ (qa_ (qt_ st.2 rfl T.fit ?_))
  dsimp only
  refine qa_ (dQ ?_)
  rw[if_pos hb]
  refine qa_ (wpAny_askSetting (qb_ ?_))
  refine qb_ ?_
  show wpAny _ _ (match Option.map (λe=>(e.2,0)) (pickOrder (w.params.setOrder a ep) es)[es.size]? with
   |some (x,next)=>do
    setField (.ref it) 0 (rawInt (next:Nat))
    setField (.ref it) 1 (rawInt ((es.size:Int)+1))
    ret x
   |none=>do setField (.ref it) 2 .none;raiseNew (<- newExc (.type "StopIteration") [])) _ _ _
  rw[qh2_ (show(pickOrder (w.params.setOrder a ep) es).size<=es.size by rw[sz];exact qe_ _)]
  dsimp only[Option.map_none]
  refine nC hh st.1 rfl (by simp) λe h' kp ty=>⟨ty,hQ _ ⟨λb o hb q=>kp b o (by simpa using hb) q,rfl,rfl,rfl,qe_ _⟩⟩
 self:=λi s Q E st hQ=>by
  have ht:s.TypeIs (.ref it) "set_iterator":=⟨_,st.1,rfl⟩
  refine wpAny_pyIter_slot ht gP (qK_ gP ht nU ?_ (nV _))
  show wpAny _ _ (ret (.ref it)) _ _ s
  exact qb_ ⟨_,rfl,"set_iterator",_,ht,st_next.lookup,hQ⟩
end
end L2
namespace L2
open PySem PySem.Spec PyProof.Rows
theorem zAB(p:Nat):SetTable.below #[p] 0=0/\SetTable.below #[p] (p+1)=1:=by
 constructor
 ·show SetTable.below.go #[p] 0 1 0 1=0
  simp[SetTable.below.go]
 ·show SetTable.below.go #[p] (p+1) 1 0 1=1
  simp[SetTable.below.go]
section
variable{prog:Program}{w:World}{A:Around}{E:Value->Shared->Prop}{s:Shared}{it a:Addr}{us:List Str}{es:Array (Int×Value)}{ep:Nat}{t:SetTable}
theorem yT{slot i:Nat}{Q:Option (Value×Nat)->Shared->Prop}(hb:byT w=false)(T:SetT prog w us es t)(h1:es.size<=1)(ho:s.heap.get? a=some (bJ es ep t))
  (h:Q (match es[SetTable.below t.place slot]?,t.place[SetTable.below t.place slot]? with
  |some (_,x),some j=>some (x,j+1)
  |_,_=>none) s):wpAny (model prog w) A (setNext a slot i ep) Q E s:=by
 have ld:t.led=true:=by rw[T.ld,hb];rfl
 unfold setNext
 refine qa_ (qt_ ho rfl T.fit ?_)
 dsimp only
 refine qa_ (dQ ?_)
 rw[hb]
 simp only[Bool.false_eq_true,if_false]
 show wpAny _ _ (if (!t.plain&&decide (es.size > 1))=true then _ else(do
  (if (!t.led&&!es.isEmpty)=true then unsupported "set:maker-not-led" else pure ():Sem Unit)
  pure (match es[SetTable.below t.place slot]?,t.place[SetTable.below t.place slot]? with
   |some (_,x),some j=>some (x,j+1)
   |_,_=>none))) _ _ _
 rw[if_neg (by rw[show decide (es.size > 1)=false from qF_ (by omega)];simp)]
 refine qa_ ?_
 rw[if_neg (by rw[ld];simp)]
 exact qb_ (qb_ h)
theorem zJq(hh:A.handled=none)(hb:byT w=false)(T:SetT prog w us es t)(h1:es.size<=1)(it a:Addr)(ne:it≠a):
  WalksS prog w A it [it,a] [it] Eq es.size (λi v=>es[i]?.map (·.2)=some v)
   (λi s=>s.heap.get? it=some (itO (.int ((if i=0 then 0 else t.place.getD 0 0+1:Nat):Int) 0) i a es.size ep)/\s.heap.get? a=some (bJ es ep t)) where
 sub:=λb hb=>by simp at hb;simp[hb]
 grefl:=λ_=>rfl
 gtrans:=λ_ _ _ x y=>x.trans y
 frame:=λi s h' tk st _ k=>⟨k it (by simp) _ st.1,k a (by simp) _ st.2⟩
 item:=λi s Q E hi st hQ=>by
  have i0:i=0:=by omega
  subst i0
  have e1:es.size=1:=by omega
  have pz:t.place.size=1:=by have:=T.fit;simp only[SetTable.fits,Bool.and_eq_true,beq_iff_eq]at this;rw[this.1,e1]
  obtain⟨p,hp⟩:∃p,t.place=#[p]:=by
   refine⟨t.place[0],?_⟩
   apply Array.ext
   ·simp[pz]
   ·intro j h1 h2
    have:j=0:=by simp at h2;exact h2
    subst this
    simp
  refine gO st.1 rfl (jH (slot:=0) (by simpa using st.1) st.2 T.fit rfl ?_)
  refine yT hb T h1 st.2 ?_
  rw[hp,(zAB p).1]
  have hl0:0<es.size:=by omega
  rw[qO_ hl0]
  show wpAny _ _ (do
    setField (.ref it) 0 (rawInt ((p+1:Nat):Int))
    setField (.ref it) 1 (rawInt ((0:Nat)+1:Int))
    ret es[0].2) _ _ _
  refine qa_ (qW_ st.1 (by simp) λh1 g1 b1=>?_)
  refine qa_ (qW_ g1 (by simp) λh2 g2 b2=>?_)
  refine qb_ ⟨_,rfl,hQ _ _ (by rw[qO_ hl0];rfl) ⟨?_,?_⟩ ⟨?_,rfl,rfl,rfl,qe_ _⟩⟩
  ·rw[g2,hp];rfl
  ·rw[b2.2 a ne.symm,b1.2 a ne.symm];exact st.2
  ·intro b o hb e
   have hb':b≠it:=by simpa using hb
   rw[b2.2 b hb',b1.2 b hb'];exact e
 done:=λs Q E st hQ=>by
  refine gO st.1 rfl (jH st.1 st.2 T.fit rfl ?_)
  refine yT hb T h1 st.2 ?_
  have pz:t.place.size=es.size:=by have:=T.fit;simp only[SetTable.fits,Bool.and_eq_true,beq_iff_eq]at this;exact this.1
  have hn:es[SetTable.below t.place (if es.size=0 then 0 else t.place.getD 0 0+1)]?=none:=by
   by_cases z:es.size=0
   ·have:es=#[]:=Array.size_eq_zero_iff.mp z
    subst this
    simp
   ·rw[if_neg z]
    have e1:es.size=1:=by omega
    obtain⟨p,hp⟩:∃p,t.place=#[p]:=by
     refine⟨t.place[0]'(by omega),?_⟩
     apply Array.ext
     ·simp[pz,e1]
     ·intro j h1 h2
      have:j=0:=by simp at h2;exact h2
      subst this
      simp
    rw[hp]
    show es[SetTable.below #[p] (p+1)]?=none
    rw[(zAB p).2]
    exact qh2_ (by omega)
  rw[hn]
  dsimp only
  exact nC hh st.1 rfl (by simp) λe h' kp ty=>⟨ty,hQ _ ⟨λb o hb q=>kp b o (by simpa using hb) q,rfl,rfl,rfl,qe_ _⟩⟩
 self:=λi s Q E st hQ=>by
  have ht:s.TypeIs (.ref it) "set_iterator":=⟨_,st.1,rfl⟩
  refine wpAny_pyIter_slot ht gP (qK_ gP ht nU ?_ (nV _))
  show wpAny _ _ (ret (.ref it)) _ _ s
  exact qb_ ⟨_,rfl,"set_iterator",_,ht,st_next.lookup,hQ⟩
abbrev mL(ps:List Nat):Obj:={cls:=.type "tuple",data:=.seq (ps.map λ(i:Nat)=>rawInt (i:Int)).toArray}
theorem zU{i:Nat}{n:Nat}{tu:Addr}{ps:List Nat}{Q:Fin->Shared->Prop}(hi:s.heap.get? it=some (itO (.ref tu) i a n ep))(ho:s.heap.get? a=some (bJ es ep t))(hu:s.heap.get? tu=some (mL ps))(hf:t.fits es.size=true)(hn:es.size=n)
  (h:match ps[i]? with
   |some pl=>∃e,es[pl]?=some e/\wpAny (model prog w) A (do
    setField (.ref it) 1 (rawInt (i+1))
    ret e.2) Q E s
   |none=>wpAny (model prog w) A (do setField (.ref it) 0 (rawInt 0);setField (.ref it) 2 .none;raiseNew (<- newExc (.type "StopIteration") [])) Q E s):
  wpAny (model prog w) A (Builtin.«set_iterator.__next__» ⟨[.ref it],[]⟩) Q E s:=by
 unfold Builtin.«set_iterator.__next__»
 refine qa_ (m:=slotArgs "__next__" 0 ⟨[.ref it],[]⟩) (qb_ ?_)
 dsimp only
 refine qa_ (wpAny_fieldsOf hi rfl ?_)
 show wpAny _ _ (setEntries a >>= _) _ _ s
 refine qa_ (mX ho hf ?_)
 rw[hn]
 simp only[bne_self_eq_false,Bool.false_eq_true,if_false]
 show wpAny _ _ (seqItems? (.ref tu) >>= _) _ _ s
 refine qa_ (wpAny_seqItems hu rfl ?_)
 dsimp only
 have e:(ps.map λ(i:Nat)=>rawInt (i:Int)).toArray[((i:Int)).toNat]?=ps[i]?.map λ(i:Nat)=>rawInt (i:Int):=by simp
 rw[e]
 cases q:ps[i]? with
 |none=>
  rw[q]at h
  exact h
 |some pl=>
  rw[q]at h
  obtain⟨en,he,h⟩:=h
  show wpAny _ _ (setNextDrawn a ((pl:Int)).toNat ((ep:Int)).toNat >>= _) _ _ s
  unfold setNextDrawn
  refine qa_ (qa_ (qt_ ho rfl hf ?_))
  dsimp only
  rw[show((ep:Int)).toNat=ep by simp,show((pl:Int)).toNat=pl by simp]
  simp only[bne_self_eq_false,Bool.false_eq_true,if_false]
  rw[he]
  exact qb_ h
theorem zJp(hh:A.handled=none)(T:SetT prog w us es t)(it a tu:Addr)(ne:it≠a)(nu:it≠tu)(ps:List Nat)(hp:ps.Perm (List.range es.size)):
  WalksS prog w A it [it,a,tu] [it] Eq es.size (λi v=>∃pl e,ps[i]?=some pl/\es[pl]?=some e/\v=e.2)
   (λi s=>s.heap.get? it=some (itO (.ref tu) i a es.size ep)/\s.heap.get? a=some (bJ es ep t)/\s.heap.get? tu=some (mL ps)) where
 sub:=λb hb=>by simp at hb;simp[hb]
 grefl:=λ_=>rfl
 gtrans:=λ_ _ _ x y=>x.trans y
 frame:=λi s h' tk st _ k=>⟨k it (by simp) _ st.1,k a (by simp) _ st.2.1,k tu (by simp) _ st.2.2⟩
 item:=λi s Q E hi st hQ=>by
  have pl:ps.length=es.size:=by rw[hp.length_eq,qi2_]
  have hlt:i<ps.length:=by omega
  have hm:ps[i]<es.size:=by have:=hp.mem_iff.mp (qN1_ hlt);simpa using this
  refine gO st.1 rfl (zU st.1 st.2.1 st.2.2 T.fit rfl ?_)
  rw[qk_ hlt]
  refine⟨es[ps[i]],qO_ hm,?_⟩
  refine qa_ (qW_ st.1 (by simp) λh1 g1 b1=>?_)
  refine qb_ ⟨_,rfl,hQ _ _ ⟨_,_,qk_ hlt,qO_ hm,rfl⟩ ⟨?_,?_,?_⟩ ⟨?_,rfl,rfl,rfl,qe_ _⟩⟩
  ·rw[g1];rfl
  ·rw[b1.2 a ne.symm];exact st.2.1
  ·rw[b1.2 tu nu.symm];exact st.2.2
  ·intro b o hb e
   have hb':b≠it:=by simpa using hb
   rw[b1.2 b hb'];exact e
 done:=λs Q E st hQ=>by
  have pl:ps.length=es.size:=by rw[hp.length_eq,qi2_]
  refine gO st.1 rfl (zU st.1 st.2.1 st.2.2 T.fit rfl ?_)
  rw[qS1_ (by omega)]
  refine qa_ (qW_ st.1 (by simp) λh1 g1 b1=>?_)
  refine nC hh g1 rfl (by simp) λe h' kp ty=>⟨ty,hQ _ ⟨λb o hb q=>kp b o (by simpa using hb) ?_,rfl,rfl,rfl,qe_ _⟩⟩
  have hb':b≠it:=by simpa using hb
  show h1.get? b=some o
  rw[b1.2 b hb'];exact q
 self:=λi s Q E st hQ=>by
  have ht:s.TypeIs (.ref it) "set_iterator":=⟨_,st.1,rfl⟩
  refine wpAny_pyIter_slot ht gP (qK_ gP ht nU ?_ (nV _))
  show wpAny _ _ (ret (.ref it)) _ _ s
  exact qb_ ⟨_,rfl,"set_iterator",_,ht,st_next.lookup,hQ⟩
end
end L2
namespace L2
open PySem PySem.Spec PyProof.Rows
def zDe(P:Nat->Value->Prop)(us:List Str):Prop:=∀acc:Array Value,ItemsOf P acc us.length->∃vs,StrsAre acc.toList vs/\vs.Perm us
theorem vJ{P:Nat->Value->Prop}{us:List Str}{out:List Value}{vs:List Str}(hl:out.length=us.length)(h:∀i v,P i v->out[i]?=some v)(hs:StrsAre out vs)(hp:vs.Perm us):zDe P us:=λacc ⟨h1,h2⟩=>by
 have e:acc.toList=out:=by
  apply qG2_
  intro i
  by_cases hi:i<acc.size
  ·rw[h i acc[i] (h2 i _ (qO_ hi)),qr_,qO_ hi]
  ·rw[qr_,qh2_ (by omega),qS1_ (by omega)]
 rw[e]
 exact⟨vs,hs,hp⟩
section
variable{prog:Program}{w:World}{A:Around}{E:Value->Shared->Prop}{s:Shared}{a:Addr}{us:List Str}
theorem zDU{Q:Value->Shared->Prop}(S:SetS prog w a us s.heap)
  (h:∀(it:Addr) (fp:List Addr) (P:Nat->Value->Prop) (St:Nat->Shared->Prop) (h':Heap) (d:Drawn),(∀A':Around,A'.handled=none->∃n,n=us.length/\WalksS prog w A' it fp [it] Eq n P St)->St 0 {s with heap:=h',drawn:=d}->zDe P us ->
   (∀b∈fp,b=a\/s.heap.objs.size<=b)->s.heap.objs.size<=it->(∀b o,s.heap.get? b=some o->h'.get? b=some o)->Q (.ref it) {s with heap:=h',drawn:=d}):
  wpAny (model prog w) A (pyIter (.ref a)) Q E s:=by
 obtain⟨es,ep,t,ho,T⟩:=id S
 have alt:a<s.heap.objs.size:=qg_ ho
 have ht:s.TypeIs (.ref a) "set":=⟨_,ho,rfl⟩
 have sz:=T.size
 obtain⟨vs,hv,pv⟩:=T.tx
 refine wpAny_pyIter_slot ht qP (qK_ qP ht zB1 ?_ (zB6 _))
 unfold Builtin.«frozenset.__iter__» Builtin.Frozenset.slot0
 refine qa_ (qa_ (m:=slotArgs "__iter__" 0 ⟨[.ref a],[]⟩) (qb_ ?_))
 show wpAny _ _ (pure a) _ _ s
 refine qb_ ?_
 unfold Builtin.Frozenset.sizeOf
 refine qa_ (qa_ (mX ho T.fit (qb_ ?_)))
 unfold setDrawn
 refine qa_ (qa_ (qt_ ho rfl T.fit ?_))
 dsimp only
 refine qa_ (dQ (qb_ ?_))
 show wpAny _ _ (if (!byT w&&(!t.plain&&decide (es.size > 1)))=true then _ else _) _ _ s
 have fin:∀(first:Value) (h1:Heap) (d:Drawn) (St:Nat->Shared->Prop),(∀b o,s.heap.get? b=some o->h1.get? b=some o)->s.heap.objs.size<=h1.objs.size ->
   (∀s2:Shared,s2.heap.get? h1.objs.size=some (itO first 0 a es.size ep)->(∀b o,h1.get? b=some o->s2.heap.get? b=some o) ->
    Q (.ref h1.objs.size) {s with heap:=h1.push (itO first 0 a es.size ep),drawn:=d})->wpAny (model prog w) A.in1 (do
   ret (<- newFields "set_iterator" [first,rawInt 0,.ref a,rawInt es.size,rawInt (<- setEpoch a)])) (λfin s'=>∃v,fin=.done (.ret v)/\∃T' r,s'.TypeIs v T'/\typeLookup (.type T') "__next__"=pure (some r)/\Q v s') E {s with heap:=h1,drawn:=d}:=by
  intro first h1 d St k le q
  refine qa_ (wpAny_setEpoch_of (k a _ ho) rfl T.fit ?_)
  refine qa_ (qS_ ?_ (by size_fits))
  exact qb_ ⟨_,rfl,"set_iterator",_,⟨_,qi_ _ rfl,rfl⟩,st_next.lookup,q {s with heap:=h1.push (itO first 0 a es.size ep)} (qi_ _ rfl) λb o e=>qd_ _ e⟩
 cases hb:byT w with
 |true=>
  rw[if_neg (by simp)]
  refine qa_ (qb_ ?_)
  have e:s={s with heap:=s.heap,drawn:=s.drawn}:=by cases s;rfl
  have hp:=jJ (w.params.setOrder a ep) es
  obtain⟨vs',hv',pv'⟩:=lD (hp.map (·.2)) hv
  have nea:s.heap.objs.size≠a:=qC_ alt
  refine fin (.int 0 0) s.heap s.drawn (λ_ _=>True) (λ_ _ e=>e) (qe_ _) λs2 g k=>?_
  refine h s.heap.objs.size [s.heap.objs.size,a] _ _ _ _ (λA' hA=>⟨es.size,sz,zJr (ep:=ep) hA hb T _ a nea⟩) ⟨qi_ _ rfl,qd_ _ ho⟩ ?_ (λb m=>?_) (qe_ _) λb o e=>qd_ _ e
  ·refine vJ (out:=(pickOrder (w.params.setOrder a ep) es).toList.map (·.2)) (vs:=vs') (by rw[qc_,hp.length_eq,qu_,sz]) (λi v q=>?_) hv' (pv'.trans pv)
   rw[qv_,qr_]
   exact q
  ·simp only[List.mem_cons,List.not_mem_nil,or_false]at m
   rcases m with m|m
   ·exact .inr (by rw[m];exact qe_ _)
   ·exact .inl m
 |false=>
  by_cases h1:es.size<=1
  ·rw[if_neg (by simp[show ¬ es.size > 1 by omega])]
   refine qa_ (qb_ ?_)
   have nea:s.heap.objs.size≠a:=qC_ alt
   refine fin (.int 0 0) s.heap s.drawn (λ_ _=>True) (λ_ _ e=>e) (qe_ _) λs2 g k=>?_
   refine h s.heap.objs.size [s.heap.objs.size,a] _ _ _ _ (λA' hA=>⟨es.size,sz,zJq (ep:=ep) hA hb T h1 _ a nea⟩) ⟨qi_ _ rfl,qd_ _ ho⟩ ?_ (λb m=>?_) (qe_ _) λb o e=>qd_ _ e
   ·refine vJ (out:=es.toList.map (·.2)) (vs:=vs) (by rw[qc_,qu_,sz]) (λi v q=>?_) hv pv
    rw[qv_,qr_]
    exact q
   ·simp only[List.mem_cons,List.not_mem_nil,or_false]at m
    rcases m with m|m
    ·exact .inr (by rw[m];exact qe_ _)
    ·exact .inl m
  ·have np:t.plain=false:=T.pl.resolve_left (by omega)
   rw[if_pos (by simp[np];omega)]
   refine qa_ (tK es.size (List.range es.size) s (by simp) λps d hp=>?_)
   refine qa_ (wpAny_newTuple ?_ (by rw[qc_,hp.length_eq,qi2_];exact fits_of_scanBound T.lt))
   have nea:s.heap.objs.size≠a:=qC_ alt
   have e2:(s.heap.push (mL ps)).objs.size=s.heap.objs.size+1:=qy_ ..
   refine fin (.ref s.heap.objs.size) (s.heap.push (mL ps)) d (λ_ _=>True) (λ_ _ e=>qd_ _ e) (by rw[e2];omega) λs2 g k=>?_
   refine h (s.heap.push (mL ps)).objs.size [(s.heap.push (mL ps)).objs.size,a,s.heap.objs.size] _ _ _ _ (λA' hA=>⟨es.size,sz,zJp (ep:=ep) hA T _ a s.heap.objs.size (by rw[e2];exact qC_ (qk1_ alt)) (by rw[e2];exact qC_ (qj2_ _)) ps hp⟩) ⟨qi_ _ rfl,qd_ _ (qd_ _ ho),qd_ _ (qi_ _ rfl)⟩ ?_ (λb m=>?_) (by rw[e2];omega) λb o e=>qd_ _ (qd_ _ e)
   ·have hfm:(ps.filterMap λp=>es[p]?).Perm es.toList:=(hp.filterMap _).trans (by rw[filterMap_getElem?_range])
    obtain⟨vs',hv',pv'⟩:=lD (hfm.map (·.2)) hv
    have hmm:∀p∈ps,p<es.size:=λp m=>by have:=hp.mem_iff.mp m;simpa using this
    have hall:∀(l:List Nat),(∀p∈l,p<es.size)->∀i:Nat,(l.filterMap λp=>es[p]?)[i]?=(l[i]?).bind λp=>es[p]?:=by
     intro l
     induction l with
     |nil=>intro _ i;simp
     |cons x l ih=>
      intro hx i
      have hx0:=hx x (by simp)
      rw[qH_,qO_ hx0]
      cases i with
      |zero=>simp[hx0]
      |succ i=>simp only[List.getElem?_cons_succ];exact ih (λp m=>hx p (qc1_ _ m)) i
    refine vJ (out:=(ps.filterMap λp=>es[p]?).map (·.2)) (vs:=vs') (by rw[qc_,hfm.length_eq,qu_,sz]) (λi v ⟨pl,e,q1,q2,q3⟩=>?_) hv' (pv'.trans pv)
    rw[qv_,hall ps hmm,q1]
    simp[q2,q3]
   ·simp only[List.mem_cons,List.not_mem_nil,or_false]at m
    rcases m with m|m|m
    ·exact .inr (by rw[m,e2];omega)
    ·exact .inl m
    ·exact .inr (by rw[m];exact qe_ _)
end
end L2
namespace L2
open PySem PySem.Spec PyProof.Rows
theorem st_len:Slot "set" "__len__" "set.__len__":=
 Slot.of (owner:="set") (n:="__len__") (by rw[typeLookup_type,builtinLookup_eq_fast];kernel_rfl) (by decide +kernel) (by decide +kernel) (by decide +kernel) (by first|exact .inl (by decide +kernel)|exact .inr (by decide +kernel)) (by rw[isSubtype_type];kernel_rfl)
theorem nY:isSubtype (.type "set") (.type "set")=pure true:=by rw[isSubtype_type];kernel_rfl
section
variable{prog:Program}{w:World}{A:Around}{E:Value->Shared->Prop}{s:Shared}{a:Addr}{us:List Str}
theorem zBh{Q:Bool->Shared->Prop}(ht:s.TypeIs (.ref a) "set")(h:Q false s):wpAny (model prog w) A (Builtin.List.listLengthHint (.ref a)) Q E s:=by
 unfold Builtin.List.listLengthHint
 refine qa_ (wpAny_specialOf ht st_len.lookup ?_)
 have e1:splitId "set.__len__"=some ("set","__len__"):=by decide +kernel
 dsimp only
 rw[e1]
 dsimp only
 refine qa_ (wpAny_isInstance ht nY ?_)
 simp only[Bool.not_true,Bool.false_eq_true,if_false]
 refine wpAny_ite ?_
 rw[if_pos (by decide +kernel)]
 refine qa_ (wpAny_typeOf ht ?_)
 exact qb_ h
end
end L2
namespace L2
open PySem PySem.Spec PyProof.Rows
section
variable{prog:Program}{w:World}{A:Around}{E:Value->Shared->Prop}{s:Shared}{a:Addr}{us:List Str}
theorem zDq{Q:List Value->Shared->Prop}(hh:A.handled=none)(S:SetS prog w a us s.heap)
  (hQ:∀h' d tk (acc:List Value) vs,StrsAre acc vs->vs.Perm us->s.heap.objs.size<h'.objs.size->(∀b o,s.heap.get? b=some o->h'.get? b=some o)->Q acc {s with heap:=h',drawn:=d,toks:=tk}):
  wpAny (model prog w) A (collect (.ref a)) Q E s:=by
 have hl:us.length<=sizeLine:=by
  obtain⟨es,ep,t,ho,T⟩:=id S
  rw[<-T.size];exact fits_of_scanBound T.lt
 have alt:a<s.heap.objs.size:=by
  obtain⟨es,ep,t,ho,T⟩:=id S
  exact qg_ ho
 unfold collect
 refine qa_ (wpAny_runValue (qX_ F.entry_proto_collect ?_))
 rw[qh1_ F.plain_proto_collect _]
 show wpAny _ A.in1 (newList [] >>= λl=>again (.builtin "list.__iadd__" ⟨[l,.ref a],[]⟩)) _ _ s
 refine qa_ (qS_ ?_ (by size_fits))
 refine qb_ ⟨plainId_quiet F.plain_list_iadd _,qX_ F.entry_list_iadd ?_⟩
 rw[qh1_ F.plain_list_iadd _]
 show wpAny _ A.in1 (Builtin.List.listExtendWith (.ref s.heap.objs.size) (.ref a) (.ref s.heap.objs.size)) _ _ _
 unfold Builtin.List.listExtendWith
 have S1:SetS prog w a us (s.heap.push {cls:=.type "list",data:=.seq ([]:List Value).toArray}):=by
  obtain⟨es,ep,t,ho,T⟩:=id S
  exact⟨es,ep,t,qd_ _ ho,T⟩
 have ht:Shared.TypeIs {s with heap:=s.heap.push {cls:=.type "list",data:=.seq ([]:List Value).toArray}} (.ref a) "set":=by
  obtain⟨es,ep,t,ho,T⟩:=id S1
  exact⟨_,ho,rfl⟩
 refine qa_ (wpAny_typeOf ht ?_)
 have h1:Builtin.List.listSameRef (.ref s.heap.objs.size) (.ref a)=false:=by simp[Builtin.List.listSameRef];exact qC_ alt
 have h2:(Value.type "set"==Value.type "list")=false:=by decide
 have h3:(Value.type "set"==Value.type "tuple")=false:=by decide
 simp only[h1,h2,h3,Bool.or_false,Bool.false_eq_true,if_false]
 refine qa_ (zDU S1 λit fp P St h' d W st0 td hfp hit kp=>?_)
 have ht':Shared.TypeIs {s with heap:=h',drawn:=d} (.ref a) "set":=by
  obtain⟨o,e,c⟩:=ht
  exact⟨o,kp _ _ e,c⟩
 refine qa_ (qB_ (zBh ht' ?_))
 have hA:A.in1.in1.handled=none:=by simp[hh]
 obtain⟨n,hn,W⟩:=W A.in1 (by simp[hh])
 subst hn
 refine wpAny_ite ?_
 rw[if_pos (by decide +kernel)]
 refine qa_ (wpAny_rule ?_)
 have sz1:(s.heap.push {cls:=.type "list",data:=.seq ([]:List Value).toArray}).objs.size=s.heap.objs.size+1:=qy_ ..
 have g0:h'.get? s.heap.objs.size=some {cls:=.type "list",data:=.seq ([]:List Value).toArray}:=kp _ _ (qi_ _ rfl)
 have nf:s.heap.objs.size∉fp:=λm=>by
  rcases hfp _ m with z|z
  ·exact absurd z (qC_ alt)
  ·rw[sz1]at z;omega
 refine qa_ ?_
 show wpAny _ A.in1 (updateSeq s.heap.objs.size (·.push .none) >>= λ_=>updateSeq s.heap.objs.size (·.pop)) _ _ _
 refine qa_ (wpAny_updateSeq g0 rfl ?_)
 have g1:=qU_ (Obj.mapSeq (·.push Value.none)) g0 rfl
 refine wpAny_updateSeq g1 rfl ?_
 have g2:=qU_ (Obj.mapSeq (·.pop)) g1 rfl
 have oth:∀b o,b≠s.heap.objs.size->h'.get? b=some o->((h'.update s.heap.objs.size (Obj.mapSeq (·.push Value.none))).update s.heap.objs.size (Obj.mapSeq (·.pop))).get? b=some o:=
  λb o hb e=>(qJ1_ _ _ (Ne.symm hb)).trans ((qJ1_ _ _ (Ne.symm hb)).trans e)
 refine qb_ ⟨plainId_quiet F.plain_extend_loop _,codeAny_extend_loopS W hl _ nf _ us.length 0 _ _ _ rfl (qs_ _)
  (W.frame 0 {s with heap:=h',drawn:=d} _ s.toks st0 (qe_ _) λb hb o e=>oth b o (λz=>nf (z▸hb)) e) g2 (ItemsOf.nil P) λs' acc' c' hm g' hacc=>?_⟩
 show wpAny _ A (load s.heap.objs.size >>= _) _ _ s'
 refine qa_ (wpAny_load g' ?_)
 obtain⟨vs,hs,hp⟩:=td acc' hacc
 obtain⟨h'',g'',d'',tk'',os''⟩:=s'
 have e1:g''=s.gens:=hm.gens.symm
 have e2:os''=s.os:=hm.os
 subst e1 e2
 refine qb_ (hQ h'' d'' tk'' acc'.toList vs hs hp (qg_ g') λb o e=>hm.heap b o (λm=>?_) (oth b o (qm_ (qg_ e)) (kp b o (qd_ _ e))))
 have lt:=qg_ e
 simp only[List.mem_cons,List.not_mem_nil,or_false]at m
 rcases m with m|m
 ·rw[m]at lt;exact qe1_ _ lt
 ·rw[m]at lt;rw[sz1]at hit;exact absurd lt (qg2_.mpr (Nat.le_of_succ_le hit))
end
end L2
namespace L2
open PySem PySem.Spec PyProof.Rows
section
variable{prog:Program}{w:World}{A:Around}{E:Value->Shared->Prop}{s:Shared}{a:Addr}{us:List Str}
theorem zDx{Q:Value->Shared->Prop}(hh:A.handled=none)(S:SetS prog w a us s.heap)(h64:us.length<64)
  (h:∀h' d tk (l:Addr) (out:List Value) (ss:List Str) (e:Nat),StrsAre out ss->ss.Perm us->sortedS ss=true->h'.get? l=some (seqObj "list" out.toArray e)->s.heap.objs.size<=l->(∀b o,s.heap.get? b=some o->h'.get? b=some o) ->
   Q (.ref l) {s with heap:=h',drawn:=d,toks:=tk}):wpAny (model prog w) A (call (.builtin "sorted") [.ref a]) Q E s:=by
 refine Calls.call_function_entry kind_sorted plain_sorted entry_sorted (args_sorted1 _) ?_
 unfold Builtin.«sorted»
 refine qa_ (m:=checkCount "sorted" 1 1 _) (qb_ ?_)
 refine qa_ (zDq (by simp[hh]) S λh1 d tk acc vs hs hp le kp=>?_)
 have hlen:acc.length<64:=by rw[gL hs,hp.length_eq];exact h64
 refine qa_ (wpAny_newList ?_ (qY_ (qq1_ hlen (by decide))))
 have hoL:(h1.push (seqObj "list" acc.toArray 0)).get? h1.objs.size=some (seqObj "list" acc.toArray 0):=qi_ _ rfl
 refine qa_ (qB_ (qK_ slot_list_sort ⟨_,hoL,rfl⟩ entry_list_sort (list_sort_treeK strKind_oneLt hoL hs.keysOf (λv₁ v₂ rest e=>keyKind_strs (by rw[<-e];exact hs)) hlen λst' a1 a2=>⟨_,rfl,?_⟩) (args_list_sort _)))
 obtain⟨ss',b1,b2,b3⟩:=sorted_out_str hs a1 a2
 obtain⟨e,he⟩:=sortedHeap_at (out:=(arrOf st').map (·.2)) hoL
 refine qb_ ⟨_,rfl,h _ _ _ _ ((arrOf st').map (·.2)).toList ss' e b1 (b2.trans hp) b3 (by rw[qx2_];exact he) (qY_ le) λb o q=>?_⟩
 have lt:=qg_ (kp b o q)
 rw[sortedHeap_old (qm_ lt) (by rw[qy_];exact qk1_ lt)]
 exact qd_ _ (kp b o q)
end
end L2
namespace L2
open PySem PySem.Spec PyProof.Rows
def eS(val:Nat->Str)(i:Nat):List Str:=((List.range i).map val).foldl cU []
theorem zAi(val:Nat->Str)(i:Nat):eS val (i+1)=cU (eS val i) (val i):=by
 unfold eS
 rw[List.range_succ,qJ_,qH2_]
 rfl
theorem zBk(us:List Str)(x y:Str):y∈cU us x↔y∈us\/y=x:=by
 unfold cU
 split
 ·exact⟨.inl,λh=>h.elim id λe=>by subst e;assumption⟩
 ·simp
theorem zHJ{us:List Str}(h:us.Nodup)(x:Str):(cU us x).Nodup:=by
 unfold cU
 split
 ·exact h
 ·rename_i n
  rw[qw2_]
  exact⟨h,by simp,λa ha b hb e=>n (by rw[<-show b=x by simpa using hb,<-e];exact ha)⟩
def aH(ss:List Str):List Str:=ss.foldl cU []
theorem zAv:∀(ss us:List Str) (y:Str),y∈ss.foldl cU us↔y∈us\/y∈ss
 |[],us,y=>by simp
 |x::ss,us,y=>by rw[qw1_,zAv ss,zBk,qw_,or_assoc]
theorem zA7:∀(ss us:List Str),us.Nodup->(ss.foldl cU us).Nodup
 |[],us,h=>h
 |x::ss,us,h=>zA7 ss _ (zHJ h x)
theorem cO(ss:List Str)(y:Str):y∈aH ss↔y∈ss:=by rw[aH,zAv];simp
theorem cX(ss:List Str):(aH ss).Nodup:=zA7 ss [] qT1_
theorem uY{val:Nat->Str}{ss:List Str}(h:∀i (hi:i<ss.length),val i=ss[i]):eS val ss.length=aH ss:=by
 unfold eS aH
 congr 1
 apply List.ext_getElem
 ·simp
 ·intro i h1 h2
  simp[h i h2]
section
variable{prog:Program}{w:World}{A:Around}{R:Result->Shared->Prop}{I:Addr}{fp wr:List Addr}{G:Array GenState->Array GenState->Prop}{n:Nat}{P:Nat->Value->Prop}{St:Nat->Shared->Prop}
theorem SetS.kept{a:Addr}{us:List Str}{h h':Heap}(S:SetS prog w a us h)(k:∀o,h.get? a=some o->h'.get? a=some o):SetS prog w a us h':=by
 obtain⟨es,ep,t,ho,T⟩:=S
 exact⟨es,ep,t,k _ ho,T⟩
end
section
variable{prog:Program}{w:World}{A:Around}{E:Value->Shared->Prop}{s:Shared}
theorem tO(a:Value){Q₁:Value->Shared->Prop}(h:Q₁ (.ref s.heap.objs.size) {s with heap:=s.heap.push (bJ #[] 0 (.fresh 0 0 (!byT w)))}):
  codeAny (model prog w) A (.call (.builtin "set.__new__") ⟨[.type "set",a],[]⟩) (wants Q₁ E) s:=by
 refine codeAny_of_tree ?_
 show wpAny _ A.in1 (do checkBuiltinCall "set.__new__" ⟨[.type "set",a],[]⟩;again (.builtin "set.__new__" ⟨[.type "set",a],[]⟩)) _ _ s
 refine qa_ (wpAny_of_eq (F.newCall_set_1 a) (qb_ ⟨plainId_quiet F.plain_set_new _,qX_ F.entry_set_new ?_⟩))
 rw[qh1_ F.plain_set_new _]
 unfold Builtin.«set.__new__» Builtin.Frozenset.newClass
 have hsub:=nY
 obtain⟨hp,g,d,tk,os⟩:=s
 dsimp only
 wp_walk
 refine wpAny_askSetting (qb_ ?_)
 dsimp only
 simp only[newObj]
 refine qa_ (wpAny_alloc (qb_ ?_))
 exact qb_ h
end
end L2
namespace L2
open PySem PySem.Spec PyProof.Rows
theorem gB:∀{vs:List Value}{ss:List Str},StrsAre vs ss->∀(i:Nat) (v:Value),vs[i]?=some v->∃t,v=.str (ss.getD i ⟨#[]⟩) t
 |_,_,.nil,i,v,h=>by simp at h
 |_,_,.cons y t hr,0,v,h=>by
  simp at h
  exact⟨t,by rw[<-h];rfl⟩
 |_,_,.cons y t hr,i+1,v,h=>by
  simp only[List.getElem?_cons_succ]at h
  obtain⟨u,e⟩:=gB hr i v h
  exact⟨u,by rw[e];rfl⟩
end L2
namespace L2
open PySem PySem.Spec PyProof.Rows
theorem boot_set:bootBuiltins "set"=some (.type "set"):=by decide +kernel
def dO(P:Program)(w:World)(a:Addr)(us:List Str):HO:=.ext (SetS P w a us)
section
variable{X:Cx}
theorem Inv.draw{pins:List (Addr×Obj)}{σ:St}{H:Hp}{s:Shared}(I:Inv X pins σ H s)(d:Drawn):Inv X pins σ H {s with drawn:=d}:=
 ⟨I.ok,I.os,I.bare,I.base,I.loc,I.cell,I.free,I.freeC,I.pin,I.hok,I.len⟩
def zIf(P:Program)(w:World):List V->Hp->VK->Prop:=λxs H Q=>∃(a:Addr) (us:List Str),xs=[.ref a]/\H a=some (dO P w a us)/\us.length<64 /\
  ∀(ss:List Str) (l:Addr),ss.Perm us->sortedS ss=true->H l=none->Q (.ref l) (upd H l (.lst (ss.map V.str)))
theorem yQ(hc:X.calm=true):CallR X (.builtin "sorted") (zIf X.prog X.w):=by
 intro pins s σ H xs us Q I r h
 obtain⟨a,uu,rfl,hq,h64,q⟩:=h
 obtain⟨u,rfl,rx⟩:=cQ r
 cases rx
 have S:SetS X.prog X.w a uu s.heap:=(I.hok a _ hq).1
 refine zDx (I.ok.hd hc) S h64 λh' d tk l out ss e hs hp hso hl le k=>?_
 refine⟨.ref l,_,(I.laid (t':=tk) (o:=.lst (ss.map V.str)) k le ?_).draw d,rfl,q ss l hp hso (I.hok.fresh le)⟩
 refine⟨?_,out,e,pL hs,hl⟩
 rw[qc_,hp.length_eq]
 exact qY_ (qq1_ h64 (by decide))
def mR(x:Str)(n:Int):Str:=⟨(List.replicate n.toNat x.cps.toList).flatten.toArray⟩
def zJM:R2:=λx y H Q=>∃(z:Str) (n:Int),x=.str z/\y=.int n/\z.length<=1000/\n<=1000 /\ -1000<=n/\Q (.str (mR z n)) H
theorem vC(x:Array Nat):∀n (acc:Array Nat),((List.replicate n x).foldl (·++·) acc)=(acc.toList++(List.replicate n x.toList).flatten).toArray
 |0,acc=>by simp
 |n+1,acc=>by
  rw[qn1_,qw1_,vC x n,qn1_,qo1_]
  simp
theorem zHe:OpR X (binaryOp .Mult) zJM:=by
 intro pins s σ H x y v u Q I rx ry h
 obtain⟨z,n,rfl,rfl,hz,n1,n0,q⟩:=h
 obtain⟨t,rfl⟩:=rx
 obtain⟨t',rfl⟩:=ry
 have fin:∀(w:Str) (k:Tok) (tk:Nat),w=mR z n->EP X pins σ Q (.str w k) {s with toks:=tk}:=λw k tk e=>⟨.str w,H,I.tok tk,⟨k,rfl⟩,by rw[e];exact q⟩
 have pos:∀m:Nat,m<=1000->z.length*m<=1000000:=λm hm=>Nat.mul_le_mul hz hm
 refine P.mul_str (by rw[qF_ (by omega),qF_ (by omega)];rfl) (λh1 _ h2=>?_) (λh1 _=>?_) ?_
 ·have:(2 ^ 63-1) / n>=1000:=by
   have h3:n<=1000:=n1
   have h4:0<n:=by omega
   rw[ge_iff_le,Int.le_ediv_iff_mul_le h4]
   omega
  omega
 ·show decide (_ > sizeLine)=false
  refine qF_ (qg2_.mpr (qh_ (pos n.toNat (by omega)) (by decide)))
 ·split
  ·refine⟨by decide,fin _ _ _ ?_⟩
   unfold mR
   rw[show n.toNat=0 by omega]
   rfl
  ·split
   ·rename_i h1 h2
    refine fin _ _ s.toks ?_
    rw[Bool.or_eq_true]at h2
    unfold mR
    rcases h2 with h3|h3
    ·have:n=1:=by simpa using h3
     rw[this]
     simp
    ·have hz0:z.cps=#[]:=by
      have:z.cps.size=0:=by simpa[Str.length]using h3
      exact Array.size_eq_zero_iff.mp this
     have e:∀m:Nat,(List.replicate m ([]:List Nat)).flatten=[]:=λm=>by
      induction m with
      |zero=>rfl
      |succ m ih=>rw[qn1_,qo1_,ih];rfl
     obtain⟨zc⟩:=z
     have hz0:zc=#[]:=hz0
     subst hz0
     show(⟨#[]⟩:Str)=⟨(List.replicate n.toNat ([]:List Nat)).flatten.toArray⟩
     rw[e]
   ·refine⟨?_,fin _ _ _ ?_⟩
    ·show(List.foldl (λx1 x2=>x1++x2) #[] (List.replicate n.toNat z.cps)).size<=_
     rw[vC,qn_,qj_,vV]
     show 0+n.toNat*z.cps.toList.length<=_
     have:=pos n.toNat (by omega)
     rw[qP1_]at this
     have e:z.cps.toList.length=z.length:=by simp[Str.length]
     rw[e]
     exact qh_ (by omega) (show 1000000<=sizeLine by decide)
    ·unfold mR
     rw[vC]
     simp
def zKJ(K:W.Frag):V->Option Int->Option Int->Hp->VK->Prop:=λx lo hi H Q=>∃a xs,x=.ref a/\SqT K H a xs/\∀p H',Same H H'->SqT K H' p (fV xs lo hi)->Q (.ref p) H'
theorem zDv{prog:Program}{w:World}{A:Around}{E:Value->Shared->Prop}{s:Shared}{t sl:Addr}{items:Array Value}{vl vu:Value}{lo hi:Option Int}{Q:Value->Shared->Prop}(ht:IsTup s.heap t items)(hs:s.heap.IsSliceOf sl vl vu .none)(pl:IsPart vl lo)(pu:IsPart vu hi)
  (hw:HT.sIx items.size 0 lo=0/\HT.sIx items.size items.size hi=items.size) (h:Q (.ref t) s):wpAny (model prog w) A (getItem (.ref t) (.ref sl)) Q E s:=by
 obtain⟨os,hos,hcs,hds⟩:=id hs
 have hTs:s.TypeIs (.ref sl) "slice":=⟨os,hos,hcs⟩
 unfold getItem
 try with_reducible refine qB_ ?_
 first|refine qa_ (qb_ ?_)|skip
 refine qa_ (wpAny_sequenceKey ht.typeIs (by decide) ?_)
 refine qa_ (wpAny_callSpecial?_slot (name:=Str.ofString "__getitem__") ht.typeIs PyProof.Rows.slot_tuple_getitem (qK_ PyProof.Rows.slot_tuple_getitem ht.typeIs entry_tuple_getitem ?_ (args_tuple_getitem _ _)))
 show wpAny _ _ (Builtin.Tuple.tupleItemsOf (.ref t) >>= _) _ _ s
 refine qa_ (tupleItemsOf_ ht (qa_ (wpAny_typeOf hTs ?_)))
 rw[if_pos (by decide)]
 refine qa_ (HT.sliceApplied_gen hs pl pu ?_)
 rw[hw.1,hw.2]
 dsimp only
 rw[if_pos (by simp)]
 unfold Builtin.Tuple.tupleIsExact
 refine qa_ (qa_ (wpAny_typeOf ht.typeIs (qb_ ?_)))
 rw[if_pos (by decide)]
 exact qa_ (wpAny_rule (qb_ ⟨_,rfl,qb_ h⟩))
theorem zHy{xs:List V}{lo hi:Option Int}(hw:HT.sIx xs.length 0 lo=0/\HT.sIx xs.length xs.length hi=xs.length):fV xs lo hi=xs:=by
 unfold fV
 rw[hw.1,hw.2,qy2_,Nat.sub_zero,qf1_]
theorem sl_tupW:SlR X (zKJ X.K):=by
 intro pins s σ H x v vl vu lo hi sl Q I rx hs pl pu h
 obtain⟨a,xs,rfl,hx,q⟩:=h
 by_cases hw:HT.sIx xs.length 0 lo=0/\HT.sIx xs.length xs.length hi=xs.length
 ·cases rx
  obtain⟨its,r,ht,hz⟩:=I.tuple hx
  have hlen:its.toArray.size=xs.length:=by rw[qn_];exact r.length.symm
  refine⟨"tuple",_,PyProof.Rows.slot_tuple_getitem.lookup,ht.typeIs,?_⟩
  exact zDv ht hs pl pu (by rw[hlen];exact hw) ⟨.ref a,H,I,rfl,q a H (λ_ _ e=>e) (by rw[zHy hw];exact hx)⟩
 ·exact zH6 pins s σ H _ v vl vu lo hi sl Q I rx hs pl pu ⟨a,xs,rfl,hx,hw,λp np=>q p _ (λb o e=>by rw[bK (dP e np)];exact e) (SqT.of bB)⟩
end
end L2
namespace L2
open PySem PySem.Spec PyProof.Rows
theorem wB(f:Nat->List Nat):∀n,argBest (λi j=>decide (f i<f j)) n<=n/\∀j,j<=n->f (argBest (λi j=>decide (f i<f j)) n)<=f j
 |0=>⟨qe_ _,λj hj=>by rw[Nat.le_zero.mp hj];exact qI2_ _⟩
 |n+1=>by
  obtain⟨h1,h2⟩:=wB f n
  show(if decide (f (n+1)<f (argBest _ n))=true then n+1 else argBest _ n)<=n+1/\∀j,j<=n+1->f (if decide (f (n+1)<f (argBest _ n))=true then n+1 else argBest _ n)<=f j
  by_cases h:f (n+1)<f (argBest (λi j=>decide (f i<f j)) n)
  ·rw[if_pos (qP_ h)]
   refine⟨qe_ _,λj hj=>?_⟩
   rcases qz2_ hj with z|z
   ·exact qJ2_ (List.le_of_lt h) (h2 j (by omega))
   ·rw[z];exact qI2_ _
  ·rw[if_neg (λz=>h (qb1_ z))]
   refine⟨by omega,λj hj=>?_⟩
   rcases qz2_ hj with z|z
   ·exact h2 j (by omega)
   ·rw[z];exact qZ_.mp h
theorem wC(f:Nat->List Nat):∀n,argBest (λi j=>decide (f j<f i)) n<=n/\∀j,j<=n->f j<=f (argBest (λi j=>decide (f j<f i)) n)
 |0=>⟨qe_ _,λj hj=>by rw[Nat.le_zero.mp hj];exact qI2_ _⟩
 |n+1=>by
  obtain⟨h1,h2⟩:=wC f n
  show(if decide (f (argBest _ n)<f (n+1))=true then n+1 else argBest _ n)<=n+1/\∀j,j<=n+1->f j<=f (if decide (f (argBest _ n)<f (n+1))=true then n+1 else argBest _ n)
  by_cases h:f (argBest (λi j=>decide (f j<f i)) n)<f (n+1)
  ·rw[if_pos (qP_ h)]
   refine⟨qe_ _,λj hj=>?_⟩
   rcases qz2_ hj with z|z
   ·exact qJ2_ (h2 j (by omega)) (List.le_of_lt h)
   ·rw[z];exact qI2_ _
  ·rw[if_neg (λz=>h (qb1_ z))]
   refine⟨by omega,λj hj=>?_⟩
   rcases qz2_ hj with z|z
   ·exact h2 j (by omega)
   ·rw[z];exact qZ_.mp h
theorem qB{l:List Str}{i:Nat}(h:i<l.length):l.getD i ⟨#[]⟩∈l:=by
 rw[qV_,qk_ h]
 exact qN1_ h
theorem pZ{l:List Str}{a:Str}(h:a∈l):∃j,j<l.length/\l.getD j ⟨#[]⟩=a:=by
 obtain⟨j,hj,e⟩:=qU1_.mp h
 exact⟨j,hj,by rw[qV_,qk_ hj];exact e⟩
section
variable{prog:Program}{w:World}{A:Around}{E:Value->Shared->Prop}{s:Shared}{l:Addr}{its:Array Value}{ss:List Str}
theorem yY{P:Nat->Value->Prop}(val:Nat->Str)(hval:∀i v,P i v->∃t,v=.str (val i) t):CmpOf prog w A .Lt P (λi j=>decide ((val i).cps.toList<(val j).cps.toList)):=λi j vi vj s Q E hi hj h=>by
 obtain⟨t,rfl⟩:=hval i vi hi
 obtain⟨u,rfl⟩:=hval j vj hj
 exact richCompare_gives (op:=.Lt) (typeIs_str s _ t) (typeIs_str s _ u) F.slot_str_lt F.entry_str_lt (F.args_str_lt_2 _ _) (gives_str_lt _ _ t u) (λx=>nomatch x) h
theorem yZ{P:Nat->Value->Prop}(val:Nat->Str)(hval:∀i v,P i v->∃t,v=.str (val i) t):CmpOf prog w A .Gt P (λi j=>decide ((val j).cps.toList<(val i).cps.toList)):=λi j vi vj s Q E hi hj h=>by
 obtain⟨t,rfl⟩:=hval i vi hi
 obtain⟨u,rfl⟩:=hval j vj hj
 exact richCompare_gives (op:=.Gt) (typeIs_str s _ t) (typeIs_str s _ u) F.slot_str_gt F.entry_str_gt (F.args_str_gt_2 _ _) (gives_str_gt _ _ t u) (λx=>nomatch x) h
theorem zL{Q:Value->Shared->Prop}(hl:s.heap.IsList l its)
  (h:∀s₂:Shared,s₂={s with heap:=s.heap.push {cls:=.type "list_iterator",data:=.fields #[.ref l,.int 0 0]}} ->
   (s₂.heap.IsListIter s.heap.objs.size l 0/\s₂.heap.IsList l its)->(∀b∈[s.heap.objs.size,l],b<s₂.heap.objs.size)->l≠s.heap.objs.size->Q (.ref s.heap.objs.size) s₂):
  wpAny (model prog w) A (pyIter (.ref l)) Q E s:=by
 have hlt:l<s.heap.objs.size:=by obtain⟨_,e,_⟩:=hl;exact qg_ e
 refine wpAny_pyIter_list hl (h _ rfl ⟨⟨_,qi_ _ rfl,rfl,rfl⟩,hl.push _⟩ (λb hb=>?_) (qm_ hlt))
 show b<(s.heap.push _).objs.size
 rw[qy_]
 simp only[List.mem_cons,List.not_mem_nil,or_false]at hb
 rcases hb with z|z
 ·rw[z];exact qj2_ _
 ·rw[z];exact qk1_ hlt
theorem zFY{Q:Value->Shared->Prop}(hh:A.handled=none)(hl:s.heap.IsList l its)(hi:StrsAre its.toList ss)(hne:0<ss.length)
  (h:∀x t h' tk,x∈ss->(∀y∈ss,x.cps.toList<=y.cps.toList)->(∀b o,s.heap.get? b=some o->h'.get? b=some o)->Q (.str x t) {s with heap:=h',toks:=tk}):
  wpAny (model prog w) A (call (.builtin "min") [.ref l]) Q E s:=by
 have hsz:its.size=ss.length:=by rw[<-qu_,gL hi]
 refine call_min_walk (zL hl λs₂ e st hfp hlI=>?_)
 subst e
 refine⟨_,_,_,_,_,_,_,rfl,Walks.list (A:=A.in1) hh _ l hlI its,st,hfp,by omega,yY (λi=>ss.getD i ⟨#[]⟩) (λi v hv=>gB hi i v (by rw[qr_];exact hv)),λv h' tk hP hk=>?_⟩
 obtain⟨t,rfl⟩:=gB hi _ v (by rw[qr_];exact hP)
 obtain⟨b1,b2⟩:=wB (λi=>(ss.getD i ⟨#[]⟩).cps.toList) (its.size-1)
 refine h _ t h' tk (qB (by omega)) (λy hy=>?_) (old_kept hk)
 obtain⟨j,hj,rfl⟩:=pZ hy
 exact b2 j (by omega)
theorem zF0{Q:Value->Shared->Prop}(hh:A.handled=none)(hl:s.heap.IsList l its)(hi:StrsAre its.toList ss)(hne:0<ss.length)
  (h:∀x t h' tk,x∈ss->(∀y∈ss,y.cps.toList<=x.cps.toList)->(∀b o,s.heap.get? b=some o->h'.get? b=some o)->Q (.str x t) {s with heap:=h',toks:=tk}):
  wpAny (model prog w) A (call (.builtin "max") [.ref l]) Q E s:=by
 have hsz:its.size=ss.length:=by rw[<-qu_,gL hi]
 refine call_max_walk (zL hl λs₂ e st hfp hlI=>?_)
 subst e
 refine⟨_,_,_,_,_,_,_,rfl,Walks.list (A:=A.in1) hh _ l hlI its,st,hfp,by omega,yZ (λi=>ss.getD i ⟨#[]⟩) (λi v hv=>gB hi i v (by rw[qr_];exact hv)),λv h' tk hP hk=>?_⟩
 obtain⟨t,rfl⟩:=gB hi _ v (by rw[qr_];exact hP)
 obtain⟨b1,b2⟩:=wC (λi=>(ss.getD i ⟨#[]⟩).cps.toList) (its.size-1)
 refine h _ t h' tk (qB (by omega)) (λy hy=>?_) (old_kept hk)
 obtain⟨j,hj,rfl⟩:=pZ hy
 exact b2 j (by omega)
end
section
variable{X:Cx}
theorem zS(hc:X.calm=true):CallR X (.builtin "min") (λxs H Q=>∃(p:Addr) (ss:List Str),xs=[.ref p]/\SqL X.K H p (ss.map V.str)/\0<ss.length/\∀x,x∈ss->(∀y∈ss,x.cps.toList<=y.cps.toList)->Q (.str x) H):=by
 intro pins s σ H xs us Q I r h
 obtain⟨p,ss,rfl,hq,hn,q⟩:=h
 obtain⟨u,rfl,rx⟩:=cQ r
 cases rx
 obtain⟨its,rv,pl,hz⟩:=I.list hq
 refine zFY (I.ok.hd hc) pl.isList (jG rv) hn λx t h' tk h1 h2 hk=>?_
 exact⟨.str _,H,I.kept hk,⟨t,rfl⟩,q _ h1 h2⟩
theorem zT(hc:X.calm=true):CallR X (.builtin "max") (λxs H Q=>∃(p:Addr) (ss:List Str),xs=[.ref p]/\SqL X.K H p (ss.map V.str)/\0<ss.length/\∀x,x∈ss->(∀y∈ss,y.cps.toList<=x.cps.toList)->Q (.str x) H):=by
 intro pins s σ H xs us Q I r h
 obtain⟨p,ss,rfl,hq,hn,q⟩:=h
 obtain⟨u,rfl,rx⟩:=cQ r
 cases rx
 obtain⟨its,rv,pl,hz⟩:=I.list hq
 refine zF0 (I.ok.hd hc) pl.isList (jG rv) hn λx t h' tk h1 h2 hk=>?_
 exact⟨.str _,H,I.kept hk,⟨t,rfl⟩,q _ h1 h2⟩
end
end L2
namespace L2
open PySem PySem.Spec PyProof.Rows
open PySem PySem.Spec PyProof.Rows
section
variable{κ:Type}[DecidableEq κ]
def dS(kvs:List (κ×V))(k:κ):Option V:=(kvs.find? λkv=>decide (kv.1=k)).map (·.2)
def dM(kvs:List (κ×V))(k:κ)(v:V):List (κ×V):=
 if (kvs.any λkv=>decide (kv.1=k))=true then kvs.map (λkv=>if kv.1=k then(kv.1,v) else kv) else kvs++[(k,v)]
theorem qF{p:κ×V}{r:List (κ×V)}{k:κ}(e:p.1=k):dS (p::r) k=some p.2:=by simp[dS,List.find?_cons,e]
theorem qG{p:κ×V}{r:List (κ×V)}{k:κ}(e:¬ p.1=k):dS (p::r) k=dS r k:=by simp[dS,List.find?_cons,e]
theorem qH(k:κ):∀kvs:List (κ×V),(kvs.any λkv=>decide (kv.1=k))=(dS kvs k).isSome
 |[]=>rfl
 |p::r=>by
  rw[qA1_]
  by_cases e:p.1=k
  ·simp only[qF e,decide_eq_true e,Bool.true_or,Option.isSome_some]
  ·rw[qG e,qF_ e,qK2_];exact qH k r
theorem tN(kvs:List (κ×V))(k:κ)(v:V):(dM kvs k v).length<=kvs.length+1:=by
 unfold dM
 split
 ·rw[qc_];omega
 ·rw[qj_,qI_,List.length_nil];omega
theorem zFH{kvs:List (κ×V)}{k:κ}(v:V)(h:dS kvs k=none):dM kvs k v=kvs++[(k,v)]:=by
 unfold dM
 rw[qH,h]
 exact if_neg (by decide)
theorem RelO.isSome_eq{o:Option V}{u:Option Value}(r:RelO o u):o.isSome=u.isSome:=by
 cases o with
 |none=>cases u with
  |none=>rfl
  |some _=>exact(show False from r).elim
 |some _=>cases u with
  |none=>exact(show False from r).elim
  |some _=>rfl
theorem RelO.getD{o:Option V}{u:Option Value}{d:V}{d':Value}(r:RelO o u)(rd:RelV d d'):RelV (o.getD d) (u.getD d'):=by
 cases o with
 |none=>cases u with
  |none=>exact rd
  |some _=>exact(show False from r).elim
 |some _=>cases u with
  |none=>exact(show False from r).elim
  |some _=>exact r
theorem KV.val{kvs:List (κ×V)}{vs:List (κ×Value)}(r:KV kvs vs)(k:κ):RelO (dS kvs k) (valueAt vs k):=by
 unfold KV at r
 induction r with
 |nil=>exact True.intro
 |@cons p q ps qs h t ih=>
  obtain⟨h1,h2⟩:=h
  by_cases e:p.1=k
  ·have e':q.1=k:=h1.symm.trans e
   have b:valueAt (q::qs) k=some q.2:=by simp[valueAt,List.find?_cons,e']
   rw[qF e,b];exact h2
  ·have e':¬ q.1=k:=λz=>e (h1.trans z)
   have b:valueAt (q::qs) k=valueAt qs k:=by simp[valueAt,List.find?_cons,e']
   rw[qG e,b];exact ih
theorem KV.any{kvs:List (κ×V)}{vs:List (κ×Value)}(r:KV kvs vs)(k:κ):(kvs.any λkv=>decide (kv.1=k))=vs.any λkv=>decide (kv.1=k):=by
 unfold KV at r
 induction r with
 |nil=>rfl
 |cons h t ih=>rw[qA1_,qA1_,ih,h.1]
theorem KV.repl{kvs:List (κ×V)}{vs:List (κ×Value)}(r:KV kvs vs)(k:κ){y:V}{u:Value}(ry:RelV y u):
  KV (kvs.map λkv=>if kv.1=k then(kv.1,y) else kv) (vs.map λkv=>if kv.1=k then(kv.1,u) else kv):=by
 unfold KV at r ⊢
 induction r with
 |nil=>exact .nil
 |@cons p q ps qs h t ih=>
  rw[qA_,qA_]
  refine .cons ?_ ih
  obtain⟨h1,h2⟩:=h
  by_cases e:p.1=k
  ·rw[if_pos e,if_pos (h1.symm.trans e)];exact⟨h1,ry⟩
  ·rw[if_neg e,if_neg (λz=>e (h1.trans z))];exact⟨h1,h2⟩
theorem KV.put{kvs:List (κ×V)}{vs:List (κ×Value)}(r:KV kvs vs)(k:κ){y:V}{u:Value}(ry:RelV y u):KV (dM kvs k y) (stored vs k u):=by
 unfold dM stored
 rw[r.any k]
 by_cases e:(vs.any λkv=>decide (kv.1=k))=true
 ·rw[if_pos e,if_pos e];exact r.repl k ry
 ·rw[if_neg e,if_neg e];exact Paired.snoc r ⟨rfl,ry⟩
theorem KV.length{kvs:List (κ×V)}{vs:List (κ×Value)}(r:KV kvs vs):kvs.length=vs.length:=Paired.length r
end
theorem kN{P:Program}{w:World}{k:Key}{u:Value}(r:RelV (kV k) u):(bR P w).is k u=true:=by
 cases k with
 |inl i=>obtain⟨t,e⟩:=(show ∃t,u=Value.int i t from r);subst e;exact zDM P w i t
 |inr x=>obtain⟨t,e⟩:=(show ∃t,u=Value.str x t from r);subst e;exact pP P w x t
theorem zAq{P:Program}{w:World}:∀{ks:List Key}{us:List Value},Vals (ks.map kV) us->ItemsAre (bR P w) ks us
 |[],_,r=>by rw[qE2_]at r;cases r;exact .nil
 |k::ks,_,r=>by
  rw[qA_]at r
  cases r with
  |cons h t=>exact .cons (kN h) (zAq t)
abbrev KT(H:Hp):List (List Key×V)->List (List Key×Addr×Value)->Prop:=Paired λp q=>p.1=q.1/\H q.2.1=some (.tup (p.1.map kV))/\RelV p.2 q.2.2
theorem KT.val{H:Hp}{kvs:List (List Key×V)}{xs:List (List Key×Addr×Value)}(r:KT H kvs xs)(k:List Key):RelO (dS kvs k) ((atKey xs k).map (·.2)):=by
 induction r with
 |nil=>exact True.intro
 |@cons p q ps qs h t ih=>
  obtain⟨h1,_,h2⟩:=h
  by_cases e:p.1=k
  ·have e':q.1=k:=h1.symm.trans e
   have b:atKey (q::qs) k=some q.2:=by simp[atKey,List.find?_cons,e']
   rw[qF e,b];exact h2
  ·have e':¬ q.1=k:=λz=>e (h1.trans z)
   have b:atKey (q::qs) k=atKey qs k:=by simp[atKey,List.find?_cons,e']
   rw[qG e,b];exact ih
theorem KT.repl{H:Hp}{kvs:List (List Key×V)}{xs:List (List Key×Addr×Value)}(r:KT H kvs xs)(k:List Key){y:V}{u:Value}(ry:RelV y u):
  KT H (kvs.map λkv=>if kv.1=k then(kv.1,y) else kv) (xs.map (putAt k u)):=by
 induction r with
 |nil=>exact .nil
 |@cons p q ps qs h t ih=>
  rw[qA_,qA_]
  refine .cons ?_ ih
  obtain⟨h1,h2,h3⟩:=h
  unfold putAt
  by_cases e:p.1=k
  ·rw[if_pos e,if_pos (h1.symm.trans e)];exact⟨h1,h2,ry⟩
  ·rw[if_neg e,if_neg (λz=>e (h1.trans z))];exact⟨h1,h2,h3⟩
theorem KT.put{H:Hp}{kvs:List (List Key×V)}{xs:List (List Key×Addr×Value)}(r:KT H kvs xs)(k:List Key){b:Addr}{y:V}{u:Value}(hb:H b=some (.tup (k.map kV)))(ry:RelV y u):
  KT H (dM kvs k y) (storedH xs k b u):=by
 have e:(kvs.any λkv=>decide (kv.1=k))=(atKey xs k).isSome:=by
  rw[qH,(r.val k).isSome_eq,qc3_]
 unfold dM storedH
 rw[e]
 by_cases q:(atKey xs k).isSome=true
 ·rw[if_pos q,if_pos q];exact r.repl k ry
 ·rw[if_neg q,if_neg q];exact Paired.snoc r ⟨rfl,hb,ry⟩
theorem KT.keeps{H H':Hp}{kvs:List (List Key×V)}{xs:List (List Key×Addr×Value)}(r:KT H kvs xs)(ht:∀b ys,H b=some (.tup ys)->H' b=some (.tup ys)):KT H' kvs xs:=
 Paired.mapP r λ_ _ z=>⟨z.1,ht _ _ z.2.1,z.2.2⟩
section
variable{P:Program}{w:World}{H:Hp}{h:Heap}{a:Addr}
theorem zCE{u:HO}(ok:HOk P w H h)(e:Rd H a u):ObjOk P w H h a u:=e.ok ok
theorem jR{kvs:List (Key×V)}(ok:HOk P w H h)(e:Rd H a (.dK kvs)):kvs.length<=sizeLine/\(a==sysModules)=false/\∃vs,KV kvs vs/\h.DictOf (bR P w) a vs:=
 show ObjOk P w H h a (.dK kvs) from zCE ok e
theorem zKi{kvs:List (Key×V)}(ok:HOk P w H h)(e:H a=some (.dK kvs)):kvs.length<=sizeLine/\(a==sysModules)=false/\∃vs,KV kvs vs/\h.DictOf (bR P w) a vs:=jR ok (.inl e)
theorem mB{ks:List Key}(ok:HOk P w H h)(e:H a=some (.tup (ks.map kV))):(tupleKind (bR P w)).is h ks a:=by
 obtain⟨_,its,r,o,h1,h2,n,h3⟩:=(show ObjOk P w H h a (.tup (ks.map kV)) from ok a _ e)
 exact⟨o,its.toArray,n,h1,h2,h3,by simpa using zAq r⟩
theorem kO{kvs:List (List Key×V)}(ok:HOk P w H h)(e:Rd H a (.dT kvs)):kvs.length<=sizeLine/\(a==sysModules)=false /\
  ∃xs,KT H kvs xs/\h.DictOfH (tupleKind (bR P w)) a xs:=by
 obtain⟨z,y,xs,r,o,es,ep,h1,h2,h3,h4,h5⟩:=(show ObjOk P w H h a (.dT kvs) from zCE ok e)
 refine⟨z,y,xs,r,o,es,ep,h1,h2,h3,h4,λx hx=>?_,h5⟩
 have all:∀{l:List (List Key×V)} {m:List (List Key×Addr×Value)},KT H l m->∀x∈m,(tupleKind (bR P w)).is h x.1 x.2.1:=by
  intro l m q
  induction q with
  |nil=>intro x hx;exact nomatch hx
  |@cons p q ps qs hq t ih=>
   intro x hx
   rcases qw_.mp hx with e|hx
   ·subst e
    exact mB ok (by rw[<-hq.1];exact hq.2.1)
   ·exact ih x hx
 exact all r x hx
theorem zKh{kvs:List (List Key×V)}(ok:HOk P w H h)(e:H a=some (.dT kvs)):kvs.length<=sizeLine/\(a==sysModules)=false /\
  ∃xs,KT H kvs xs/\h.DictOfH (tupleKind (bR P w)) a xs:=kO ok (.inl e)
end
def jF(H:Hp)(a:Addr)(y:V)(r:Option V):Prop:=
 (∃kvs k,Rd H a (.dK kvs)/\y=kV k/\r=dS kvs k)\/∃kvs k b,Rd H a (.dT kvs)/\y=.ref b/\H b=some (.tup (k.map kV))/\r=dS kvs k
def DPut(H:Hp)(a:Addr)(y v:V)(H':Hp):Prop:=
 (∃kvs k,H a=some (.dK kvs)/\y=kV k/\kvs.length<sizeLine/\H'=upd H a (.dK (dM kvs k v))) \/
 ∃kvs k b,H a=some (.dT kvs)/\y=.ref b/\H b=some (.tup (k.map kV))/\kvs.length<sizeLine/\H'=upd H a (.dT (dM kvs k v))
theorem DPut.k{H:Hp}{a:Addr}{kvs:List (Key×V)}{k:Key}{v:V}(e:H a=some (.dK kvs))(hl:kvs.length<sizeLine):DPut H a (kV k) v (upd H a (.dK (dM kvs k v))):=.inl ⟨kvs,k,e,rfl,hl,rfl⟩
section
variable{X:Cx}{pins:List (Addr×Obj)}{σ:St}{H:Hp}{s:Shared}{a:Addr}{y v:V}{u r:Value}{o:Option V}{A:Around}{E:Value->Shared->Prop}
theorem zFb{Q:Value->Shared->Prop}(hu:A.units+1<cLine)(I:Inv X pins σ H s)(g:jF H a y (some v))(ry:RelV y u)(h:∀w' s',Inv X pins σ H s'->RelV v w'->Q w' s'):
  wpAny (model X.prog X.w) A (getItem (.ref a) u) Q E s:=by
 rcases g with⟨kvs,k,e,ey,l⟩|⟨kvs,k,b,e,ey,eb,l⟩
 ·subst ey
  obtain⟨z,hd,vs,rel,dd⟩:=jR I.hok e
  obtain⟨w',hw,rw'⟩:=RelO.some_of (v:=v) (o:=valueAt vs k) (by rw[l];exact rel.val k)
  exact wpAny_getItem_of (kN ry) dd.mapOf hw (h w' _ (I.tok _) rw')
 ·subst ey
  cases (show u=Value.ref b from ry)
  obtain⟨z,hd,xs,rel,dd⟩:=kO I.hok e
  obtain⟨w',hw,rw'⟩:=RelO.some_of (v:=v) (o:=(atKey xs k).map (·.2)) (by rw[l];exact rel.val k)
  obtain⟨p,hp,hp2⟩:=qg1_.mp hw
  refine wpAny_getItem_heap (tupleKind_room_in1 hu) (mB I.hok eb) dd hp ?_
  rw[hp2]
  exact h w' _ (I.tok _) rw'
theorem zLJ{Q:Value->Shared->Prop}(hu:A.units+1<cLine)(I:Inv X pins σ H s)(g:jF H a y o)(ry:RelV y u)(h:∀s',Inv X pins σ H s'->Q (.bool o.isSome) s'):
  wpAny (model X.prog X.w) A (compareOp .In u (.ref a)) Q E s:=by
 rcases g with⟨kvs,k,e,ey,l⟩|⟨kvs,k,b,e,ey,eb,l⟩
 ·subst ey
  obtain⟨z,hd,vs,rel,dd⟩:=jR I.hok e
  refine wpAny_in_of (kN ry) hd dd.mapOf ?_
  rw[<-(rel.val k).isSome_eq,<-l]
  exact h _ (I.tok _)
 ·subst ey
  cases (show u=Value.ref b from ry)
  obtain⟨z,hd,xs,rel,dd⟩:=kO I.hok e
  refine wpAny_in_heap (tupleKind_room_in1 hu) (mB I.hok eb) hd dd ?_
  have q:=(rel.val k).isSome_eq
  rw[qc3_]at q
  rw[<-q,<-l]
  exact h _ (I.tok _)
theorem zHx{Q:Value->Shared->Prop}(hu:A.units+1<cLine)(I:Inv X pins σ H s)(g:jF H a y o)(ry:RelV y u)(h:∀s',Inv X pins σ H s'->Q (.bool (!o.isSome)) s'):
  wpAny (model X.prog X.w) A (compareOp .NotIn u (.ref a)) Q E s:=by
 rcases g with⟨kvs,k,e,ey,l⟩|⟨kvs,k,b,e,ey,eb,l⟩
 ·subst ey
  obtain⟨z,hd,vs,rel,dd⟩:=jR I.hok e
  refine wpAny_notIn_of (kN ry) hd dd.mapOf ?_
  rw[<-(rel.val k).isSome_eq,<-l]
  exact h _ (I.tok _)
 ·subst ey
  cases (show u=Value.ref b from ry)
  obtain⟨z,hd,xs,rel,dd⟩:=kO I.hok e
  refine wpAny_notIn_heap (tupleKind_room_in1 hu) (mB I.hok eb) hd dd ?_
  have q:=(rel.val k).isSome_eq
  rw[qc3_]at q
  rw[<-q,<-l]
  exact h _ (I.tok _)
theorem zB3{h':Heap}{t':Nat}{ob:HO}(I:Inv X pins σ H s)(mu:Mut (H a))(hs:Heap.SameBut a s.heap h')(he:∃q,h'.get? a=some q)(new:ObjOk X.prog X.w (upd H a ob) h' a ob):
  Inv X pins σ (upd H a ob) {s with heap:=h',toks:=t'}:=
 I.write (x:=a) (e:=a) mu (.inl rfl) (λb q hb z=>(hs.2 b hb).trans z) he new
theorem zJk{P:Program}{w:World}{H':Hp}{h':Heap}{kvs:List (Key×V)}{vs:List (Key×Value)}(z:kvs.length<=sizeLine)(hd:(a==sysModules)=false)(rel:KV kvs vs)(dd:h'.DictOf (bR P w) a vs):
  ObjOk P w H' h' a (.dK kvs):=⟨z,hd,vs,rel,dd⟩
theorem zFa{H':Hp}{Q:Unit->Shared->Prop}(hu:A.units+1<cLine)(I:Inv X pins σ H s)(g:DPut H a y v H')(ry:RelV y u)(rv:RelV v r)(h:∀s',Inv X pins σ H' s'->Q () s'):
  wpAny (model X.prog X.w) A (setItem (.ref a) u r) Q E s:=by
 rcases g with⟨kvs,k,e,ey,l,eH⟩|⟨kvs,k,b,e,ey,eb,l,eH⟩
 ·subst ey eH
  obtain⟨z,hd,vs,rel,dd⟩:=zKi I.hok e
  have hz:vs.length<=sizeLine:=by rw[<-rel.length];exact z
  have hl:(dM kvs k v).length<=sizeLine:=by have:=tN kvs k v;omega
  refine wpAny_setItem_pairs (hsz:=hz) (kN ry) dd λh' dd' hs=>h _ ?_
  have he:∃q,h'.get? a=some q:=let ⟨q,_,_,hq,_⟩:=dd';⟨q,hq⟩
  exact zB3 I (by rw[e];exact True.intro) hs he (zJk hl hd (rel.put k rv) dd')
 ·subst ey eH
  cases (show u=Value.ref b from ry)
  obtain⟨z,hd,xs,rel,dd⟩:=zKh I.hok e
  have hz:xs.length<=sizeLine:=by rw[<-Paired.length rel];exact z
  have hl:(dM kvs k v).length<=sizeLine:=by have:=tN kvs k v;omega
  refine wpAny_setItem_heap (hsz:=hz) (tupleKind_room_in1 hu) (mB I.hok eb) dd λh' dd' hs=>h _ ?_
  obtain⟨q,es,ep,hq,h2,h3,h4,_,h5⟩:=dd'
  refine zB3 I (by rw[e];exact True.intro) hs ⟨q,hq⟩ ⟨hl,hd,_,(rel.put k eb rv).keeps λc ys ec=>?_,q,es,ep,hq,h2,h3,h4,h5⟩
  rw[bK (zJ6 ec e (λz=>nomatch z))]
  exact ec
end
section
variable{X:Cx}{pins:List (Addr×Obj)}{σ:St}{H:Hp}{s:Shared}{a:Addr}{kvs:List (Key×V)}{k:Key}{u:Value}{A:Around}{E:Value->Shared->Prop}
theorem zKj{Q:Value->Shared->Prop}(I:Inv X pins σ H s)(e:Rd H a (.dK kvs))(h:∀t s',Inv X pins σ H s'->Q (.int kvs.length t) s'):wpAny (model X.prog X.w) A (call (.builtin "len") [.ref a]) Q E s:=by
 obtain⟨z,hd,vs,rel,dd⟩:=jR I.hok e
 refine call_len_dict hd dd (by rw[<-rel.length];rw[sizeLine_eq]at z;omega) ?_
 rw[<-rel.length]
 exact h _ _ (I.tok _)
end
theorem zDQ{X:Cx}{pins:List (Addr×Obj)}{σ:St}{H:Hp}{s:Shared}{a:Addr}{y:V}{o:Option V}(I:Inv X pins σ H s)(g:jF H a y o):s.TypeIs (.ref a) "dict":=by
 rcases g with⟨kvs,k,e,_,_⟩|⟨kvs,k,b,e,_,_,_⟩
 ·obtain⟨_,_,vs,_,dd⟩:=jR I.hok e
  exact dd.typeIs
 ·obtain⟨_,_,xs,_,dd⟩:=kO I.hok e
  exact dd.typeIs
def zJH(td ty tv:TE):TS:=λD σ H=>tv σ H λv H1=>td σ H1 λx H2=>ty σ H2 λy H3=>∃a H4,x=.ref a/\DPut H3 a y v H4/\D.nx σ H4
section
variable{X:Cx}{o i e value:Expr}{pos pos' tpos:Pos}{td ty tv:TE}
theorem zG1(hu:X.A.units+1<cLine)(ho:PE X o td)(hi:PE X i ty)(hv:PE X value tv)(hs:swapsWith value (some (.Subscript o i pos')) pos.line X.env=pure false):
  PS X (.Assign [.Subscript o i pos'] value pos) (zJH td ty tv):=by
 intro pins s σ H D I h
 refine wpAny_Assign_Subscript (thn (hv pins s σ H _ I h) λr s1 ⟨v,H1,I1,rv,q1⟩=>thn (ho pins s1 σ H1 _ I1 q1) λu s2 ⟨x,H2,I2,rx,q2⟩=>thn (hi pins s2 σ H2 _ I2 q2) λiv s3 ⟨y,H3,I3,ry,a,H4,ex,g,q3⟩=>?_) hs
 subst ex
 obtain rfl:u=Value.ref a:=rx
 exact zFa hu I3 g ry rv λs4 I4=>⟨σ,H4,I4,q3⟩
end
def kG(kvs more:List (Key×V)):List (Key×V):=more.foldl (λacc kv=>dM acc kv.1 kv.2) kvs
theorem yK:∀(more kvs:List (Key×V)),(kG kvs more).length<=kvs.length+more.length
 |[],kvs=>by show kvs.length<=kvs.length+0;omega
 |p::r,kvs=>by
  have h1:=yK r (dM kvs p.1 p.2)
  have h2:=tN kvs p.1 p.2
  show(kG (dM kvs p.1 p.2) r).length<=_
  rw[qI_];omega
structure M2 (X:Cx) (o:Expr) (m:Str) (apos:Pos) (e f:Expr) (cpos:Pos):Prop where
 base:attributeBase o m X.env (eval o X.env)=eval o X.env
 few:((backTo cpos (starEach [e,f] X.env)).all (λx=>!x.1)&&(backToKw cpos (keywordEach [] X.env)).all (λx=>x.1.isSome)
  && decide (([e,f]:List Expr).length+([]:List Keyword).length+(if ([]:List Keyword).isEmpty then 0 else 1)<30))=true
 line:(apos.endLine==cpos.line)=true
 trees:backTo cpos (starEach [e,f] X.env)=[(false,eval e X.env),(false,eval f X.env)]
def IsD(H:Hp)(a:Addr):Prop:=(∃kvs,Rd H a (.dK kvs))\/∃kvs,Rd H a (.dT kvs)
theorem zJc{X:Cx}{pins:List (Addr×Obj)}{σ:St}{H:Hp}{s:Shared}{a:Addr}(I:Inv X pins σ H s)(d:IsD H a):
  s.TypeIs (.ref a) "dict"/\(∀b,Value.ref a=.ref b->∃ob,s.heap.get? b=some ob/\ob.dict=none)/\(a==sysModules)=false:=by
 rcases d with⟨kvs,e⟩|⟨kvs,e⟩
 ·obtain⟨_,hd,vs,_,dd⟩:=jR I.hok e
  refine⟨dd.typeIs,λb q=>?_,hd⟩
  cases q
  obtain⟨ob,_,_,h1,h2,_⟩:=dd
  exact⟨ob,h1,h2.2.1⟩
 ·obtain⟨_,hd,xs,_,dd⟩:=kO I.hok e
  refine⟨dd.typeIs,λb q=>?_,hd⟩
  cases q
  obtain⟨ob,_,_,h1,h2,_⟩:=dd
  exact⟨ob,h1,h2.2.1⟩
section
variable{X:Cx}{pins:List (Addr×Obj)}{σ:St}{H:Hp}{s:Shared}{a:Addr}{y d:V}{u r:Value}{o:Option V}{A:Around}{E:Value->Shared->Prop}
theorem zJl{Q:Value->Shared->Prop}(hu:A.units+1<cLine)(I:Inv X pins σ H s)(g:jF H a y o)(ry:RelV y u)(rd:RelV d r)(h:∀w' s',Inv X pins σ H s'->RelV (o.getD d) w'->Q w' s'):
  wpAny (model X.prog X.w) A (call (.builtin "dict.get") [.ref a,u,r]) Q E s:=by
 rcases g with⟨kvs,k,e,ey,l⟩|⟨kvs,k,b,e,ey,eb,l⟩
 ·subst ey
  obtain⟨z,hd,vs,rel,dd⟩:=jR I.hok e
  refine call_meetsIn PySem.F.slot_dict_get dd.typeIs PySem.F.entry_dict_get (PySem.F.args_dict_get_3 _ _ _) (meets_dict_get_default (bR X.prog X.w) a (kN ry) hd r) ⟨_,dd.mapOf,h _ _ (I.tok _) ?_⟩
  rw[l]
  exact(rel.val k).getD rd
 ·subst ey
  cases (show u=Value.ref b from ry)
  obtain⟨z,hd,xs,rel,dd⟩:=kO I.hok e
  refine call_meetsIn PySem.F.slot_dict_get dd.typeIs PySem.F.entry_dict_get (PySem.F.args_dict_get_3 _ _ _) (meetsH_dict_get_default (tupleKind (bR X.prog X.w)) a b hd r) ⟨tupleKind_room_in1 hu,k,xs,mB I.hok eb,dd,h _ _ (I.tok _) ?_⟩
  rw[l]
  exact(rel.val k).getD rd
end
def zH3(td ty tx:TE):TE:=λσ H Q=>td σ H λx H1=>∃a,x=.ref a/\IsD H1 a/\ty σ H1 λy H2=>tx σ H2 λz H3=>∃o,jF H3 a y o/\Q (o.getD z) H3
section
variable{X:Cx}{o e f:Expr}{apos cpos:Pos}{td ty tx:TE}
theorem zFT(hu:X.A.units+1<cLine)(ho:PE X o td)(he:PE X e ty)(hf:PE X f tx)(m:M2 X o "get" apos e f cpos):PE X (.Call (.Attribute o "get" apos) [e,f] [] cpos) (zH3 td ty tx):=by
 intro pins s σ H Q I h
 refine wpAny_Call_method m.base m.few m.line PySem.F.plainAttrs_dict PySem.F.slot_dict_get PySem.F.type_dict_get (thn (ho pins s σ H _ I h) λu s1 ⟨x,H1,I1,rx,a,ex,d,q1⟩=>?_)
 subst ex
 obtain rfl:u=Value.ref a:=rx
 obtain⟨t1,t2,_⟩:=zJc I1 d
 refine⟨t1,t2,?_⟩
 rw[m.trees]
 refine Calls.callWith_builtin rfl (Calls.evalArgs_plain (Calls.spliced_cons (thn (he pins s1 σ H1 _ I1 q1) λiv s2 ⟨y,H2,I2,ry,q2⟩=>
  Calls.spliced_cons (thn (hf pins s2 σ H2 _ I2 q2) λfv s3 ⟨z,H3,I3,rz,ov,g,q3⟩=>Calls.spliced_nil ?_))))
 exact zJl hu I3 g ry rz λw' s4 I4 rw'=>⟨_,H3,I4,rw',q3⟩
end
section
variable{κ:Type}[DecidableEq κ]
theorem zGz{kvs:List (κ×V)}{k:κ}{v:V}(h:dS kvs k=some v):k∈kvs.map (·.1):=by
 have q:(kvs.any λkv=>decide (kv.1=k))=true:=by
  rw[qH,h]
  all_goals rfl
 obtain⟨p,hp,e⟩:=qL_.mp q
 exact qf_.mpr ⟨p,hp,qb1_ e⟩
end
end L2
namespace L2
open PySem PySem.Spec PyProof.Rows
def FzD(H:Hp)(a:Addr)(ob:Obj)(kvs:List (Key×V)):Prop:=H a=some (.frz ob (.dK kvs))
theorem kH{kvs:List (Key×V)}{vs:List (Key×Value)}(r:KV kvs vs):kvs.length=vs.length:=Paired.length r
theorem zCs:∀{kvs:List (Key×V)}{vs:List (Key×Value)}{i:Nat}{k:Key}{v:V},KV kvs vs->kvs[i]?=some (k,v)->∃u,vs[i]?=some (k,u)/\RelV v u
 |_,_,0,_,_,.cons (b:=b) r _,h=>by
  cases h
  obtain⟨e,r⟩:=r
  exact⟨b.2,by show some b=_;rw[show b=(b.1,b.2) from rfl,<-e],r⟩
 |_,_,i+1,_,_,.cons _ rs,h=>zCs (i:=i) rs (by simpa using h)
theorem zHn{k:Key}{u:Value}(h:jQ k u=true):RelV (kV k) u:=by
 rcases fY h with⟨i,t,rfl,rfl⟩|⟨x,t,rfl,rfl⟩
 ·exact⟨t,rfl⟩
 ·exact⟨t,rfl⟩
section
variable{X:Cx}{pins:List (Addr×Obj)}{σ:St}{H:Hp}{s:Shared}{a:Addr}{ob:Obj}{kvs:List (Key×V)}
theorem jN(I:Inv X pins σ H s)(h:FzD H a ob kvs):s.heap.get? a=some ob/\(a==sysModules)=false/\kvs.length<=sizeLine/\∃vs es ep,KV kvs vs/\s.heap.DictAt (bR X.prog X.w) a vs ep/\ob.data=.dict es ep:=by
 obtain⟨e,hl,hs,vs,r,o,es,ep,e',x1,x2,x3⟩:=(show ObjOk X.prog X.w H s.heap a (.frz ob (.dK kvs)) from I.hok a _ h)
 rw[e]at e'
 cases e'
 exact⟨e,hs,hl,vs,es,ep,r,⟨ob,es,e,x1,x2,x3⟩,x2⟩
end
def ItD(a:Addr)(ob:Obj)(kvs:List (Key×V)):It:=
 ⟨λi H=>FzD H a ob kvs/\i<kvs.length,λi H x H'=>H'=H/\∃k v,kvs[i]?=some (k,v)/\x=kV k,λi H=>FzD H a ob kvs/\kvs.length<=i⟩
theorem zEu{P:Program}{w:World}{K:W.Frag}{tg:Expr}{a it:Addr}{ob:Obj}{kvs:List (Key×V)}{es:Array DictEntry}{ep:Nat}(hep:ob.data=.dict es ep):
  jE P w K tg (ItD a ob kvs) [it] it (λi h=>h.IsKeyIter it a i kvs.length ep) where
 mem:=by simp
 obj:=λi h st b hb=>by
  have e:b=it:=by simpa using hb
  subst e
  obtain⟨o,e,c,d⟩:=st
  exact⟨o,e,λv z=>by rw[d]at z;cases z⟩
 keep:=λi h h' st k=>st.at λo e=>k it (by simp) o e
 item:=by
  intro X hP hw hK hc i pins s σ H E I hf st hg
  subst hP hw hK
  obtain⟨hz,hi⟩:=hg
  obtain⟨e,hs,hl,vs,es',ep',r,dd,hd'⟩:=jN I hz
  rw[hep]at hd'
  cases hd'
  obtain⟨f0,f1,f2,f3,f4,f5⟩:=hf it (by simp)
  obtain⟨⟨k,v⟩,hx⟩:∃p,kvs[i]?=some p:=⟨kvs[i],by simp[hi]⟩
  obtain⟨u,hu,ru⟩:=zCs r hx
  have st':s.heap.IsKeyIter it a i vs.length ep:=by rw[<-kH r];exact st
  refine wpAny_pyNext_dict_item st' dd hu λkey h' hkey hit' sb=>?_
  have I1:Inv X pins σ H {s with heap:=h'}:=I.turned (t':=s.toks) (λb o hb e=>(sb.2 b hb).trans e) f0 f1 f3 f4 f5
  obtain⟨o,e,c,d⟩:=id hit'
  exact⟨key,rfl,mI (s:={s with heap:=h'}) e c d (by decide) ⟨kV k,H,I1,zHn hkey,⟨rfl,k,v,hx,rfl⟩,by rw[kH r];exact hit',λb hb=>(hf b hb).1⟩⟩
 done:=by
  intro X hP hw hK hc i pins s σ H E I hf st hg
  subst hP hw hK
  obtain⟨hz,hi⟩:=hg
  obtain⟨e,hs,hl,vs,es',ep',r,dd,hd'⟩:=jN I hz
  rw[hep]at hd'
  cases hd'
  obtain⟨f0,f1,f2,f3,f4,f5⟩:=hf it (by simp)
  have st':s.heap.IsKeyIter it a i vs.length ep:=by rw[<-kH r];exact st
  have hn:vs[i]?=none:=qS1_ (by rw[<-kH r];exact hi)
  exact wpAny_pyNext_dict_end (I.ok.hd hc) st' dd hn λh' eb=>⟨rfl,I.turned (t':=s.toks) (λb o hb e=>eb b o hb e) f0 f1 f3 f4 f5⟩
 self:=λ_ _ _ _ _ st h=>wpAny_pyIter_keyiter st h
end L2
namespace L2
open PySem PySem.Spec PyProof.Rows
theorem yN{prog:Program}{w:World}:∀{kvs:List (Key×Value)}{us:List Str}{acc:Array Value},kvs.map (·.1)=us.map Sum.inr ->
  ItemsOf (λi v=>∃k x,kvs[i]?=some (k,x)/\(bR prog w).is k v=true) acc kvs.length->StrsAre acc.toList us:=by
 intro kvs us acc hk h
 obtain⟨hn,hp⟩:=h
 have key:∀(us:List Str) (l:List Value) (kvs:List (Key×Value)),kvs.map (·.1)=us.map Sum.inr->l.length=kvs.length->(∀(j:Nat) (v:Value),l[j]?=some v->∃k x,kvs[j]?=some (k,x)/\(bR prog w).is k v=true)->StrsAre l us:=by
  intro us
  induction us with
  |nil=>
   intro l kvs hk hl _
   have:kvs=[]:=by simpa using hk
   subst this
   have:l=[]:=qO1_ hl
   subst this
   exact .nil
  |cons y ys ih=>
   intro l kvs hk hl hp
   cases kvs with
   |nil=>simp at hk
   |cons p kvs=>
    cases l with
    |nil=>simp at hl
    |cons v l=>
     simp only[List.map_cons,List.cons.injEq]at hk
     obtain⟨k,x,e,q⟩:=hp 0 v rfl
     have e:p=(k,x):=by simpa using e
     subst e
     have hk1:k=Sum.inr y:=hk.1
     subst hk1
     rcases fY (show jQ (Sum.inr y) v=true from q) with⟨i,t,z,_⟩|⟨z,t,e1,rfl⟩
     ·cases z
     ·cases e1
      exact .cons _ _ (ih l kvs hk.2 (by simpa using hl) λj v hj=>hp (j+1) v hj)
 refine key us acc.toList kvs hk (by simpa using hn) λj v hj=>hp j v (by simpa using hj)
section
variable{prog:Program}{w:World}{A:Around}{E:Value->Shared->Prop}{s:Shared}{a:Addr}{us:List Str}
theorem zH5:isSubtype (.type "dict") (.type "dict")=pure true:=by rw[isSubtype_type];kernel_rfl
theorem zFo{Q:Bool->Shared->Prop}(ht:s.TypeIs (.ref a) "dict")(h:Q false s):wpAny (model prog w) A (Builtin.List.listLengthHint (.ref a)) Q E s:=by
 unfold Builtin.List.listLengthHint
 refine qa_ (wpAny_specialOf ht PySem.F.slot_dict_len.lookup ?_)
 have e1:splitId "dict.__len__"=some ("dict","__len__"):=by decide +kernel
 dsimp only
 rw[e1]
 dsimp only
 refine qa_ (wpAny_isInstance ht zH5 ?_)
 simp only[Bool.not_true,Bool.false_eq_true,if_false]
 refine wpAny_ite ?_
 rw[if_pos (by decide +kernel)]
 refine qa_ (wpAny_typeOf ht ?_)
 exact qb_ h
theorem zDn{kvs:List (Key×Value)}{ep:Nat}{Q:List Value->Shared->Prop}(hh:A.handled=none)(hsm:(a==sysModules)=false)(S:s.heap.DictAt (bR prog w) a kvs ep)(hks:kvs.map (·.1)=us.map Sum.inr)(hl:us.length<=sizeLine)
  (hQ:∀h' d tk (acc:List Value) vs,StrsAre acc vs->vs.Perm us->s.heap.objs.size<h'.objs.size->(∀b o,s.heap.get? b=some o->h'.get? b=some o)->Q acc {s with heap:=h',drawn:=d,toks:=tk}):
  wpAny (model prog w) A (collect (.ref a)) Q E s:=by
 have alt:a<s.heap.objs.size:=S.lt_size
 have hkl:kvs.length=us.length:=by have:=congrArg List.length hks;simpa using this
 unfold collect
 refine qa_ (wpAny_runValue (qX_ F.entry_proto_collect ?_))
 rw[qh1_ F.plain_proto_collect _]
 show wpAny _ A.in1 (newList [] >>= λl=>again (.builtin "list.__iadd__" ⟨[l,.ref a],[]⟩)) _ _ s
 refine qa_ (qS_ ?_ (by size_fits))
 refine qb_ ⟨plainId_quiet F.plain_list_iadd _,qX_ F.entry_list_iadd ?_⟩
 rw[qh1_ F.plain_list_iadd _]
 show wpAny _ A.in1 (Builtin.List.listExtendWith (.ref s.heap.objs.size) (.ref a) (.ref s.heap.objs.size)) _ _ _
 unfold Builtin.List.listExtendWith
 have S1:=S.push {cls:=.type "list",data:=.seq ([]:List Value).toArray}
 have ht:Shared.TypeIs {s with heap:=s.heap.push {cls:=.type "list",data:=.seq ([]:List Value).toArray}} (.ref a) "dict":=S1.dictOf.typeIs
 refine qa_ (wpAny_typeOf ht ?_)
 have h1:Builtin.List.listSameRef (.ref s.heap.objs.size) (.ref a)=false:=by simp[Builtin.List.listSameRef];exact qC_ alt
 have h2:(Value.type "dict"==Value.type "list")=false:=by decide
 have h3:(Value.type "dict"==Value.type "tuple")=false:=by decide
 simp only[h1,h2,h3,Bool.or_false,Bool.false_eq_true,if_false]
 refine qa_ (wpAny_pyIter_dict hsm S1 ?_)
 generalize hh':((s.heap.push {cls:=.type "list",data:=.seq ([]:List Value).toArray}).push {cls:=.type "dict_keyiterator",data:=.fields #[.ref a,.int 0 0,.int kvs.length 0,.int ep 0]})=h'
 have sz1:(s.heap.push {cls:=.type "list",data:=.seq ([]:List Value).toArray}).objs.size=s.heap.objs.size+1:=qy_ ..
 have kp:∀b o,(s.heap.push {cls:=.type "list",data:=.seq ([]:List Value).toArray}).get? b=some o->h'.get? b=some o:=λb o e=>by rw[<-hh'];exact qd_ _ e
 have ht':Shared.TypeIs {s with heap:=h'} (.ref a) "dict":=by
  obtain⟨o,e,c⟩:=ht
  exact⟨o,kp _ _ e,c⟩
 have st0:h'.IsKeyIter (s.heap.objs.size+1) a 0 kvs.length ep/\h'.DictAt (bR prog w) a kvs ep:=by
  refine⟨⟨{cls:=.type "dict_keyiterator",data:=.fields #[.ref a,.int 0 0,.int kvs.length 0,.int ep 0]},?_,rfl,rfl⟩,S1.keep kp⟩
  rw[<-hh',<-sz1]
  exact qi_ _ rfl
 rw[sz1]
 refine qa_ (qB_ (zFo ht' ?_))
 have hA:A.in1.handled=none:=by simp[hh]
 have W:=(Walks.dictKeys (prog:=prog) (w:=w) (A:=A.in1) (knd:=bR prog w) hA (s.heap.objs.size+1) a (λz=>absurd alt (by rw[z];exact qg2_.mpr (qp1_ _))) kvs ep).toS
 refine wpAny_ite ?_
 rw[if_pos (by decide +kernel)]
 refine qa_ (wpAny_rule ?_)
 have g0:h'.get? s.heap.objs.size=some {cls:=.type "list",data:=.seq ([]:List Value).toArray}:=kp _ _ (qi_ _ rfl)
 have nf:s.heap.objs.size∉[s.heap.objs.size+1,a]:=λm=>by
  simp only[List.mem_cons,List.not_mem_nil,or_false]at m
  rcases m with z|z
  ·omega
  ·rw[<-z]at alt;exact qe1_ _ alt
 refine qa_ ?_
 show wpAny _ A.in1 (updateSeq s.heap.objs.size (·.push .none) >>= λ_=>updateSeq s.heap.objs.size (·.pop)) _ _ _
 refine qa_ (wpAny_updateSeq g0 rfl ?_)
 have g1:=qU_ (Obj.mapSeq (·.push Value.none)) g0 rfl
 refine wpAny_updateSeq g1 rfl ?_
 have g2:=qU_ (Obj.mapSeq (·.pop)) g1 rfl
 have oth:∀b o,b≠s.heap.objs.size->h'.get? b=some o->((h'.update s.heap.objs.size (Obj.mapSeq (·.push Value.none))).update s.heap.objs.size (Obj.mapSeq (·.pop))).get? b=some o:=
  λb o hb e=>(qJ1_ _ _ (Ne.symm hb)).trans ((qJ1_ _ _ (Ne.symm hb)).trans e)
 refine qb_ ⟨plainId_quiet F.plain_extend_loop _,codeAny_extend_loopS W (by rw[hkl];exact hl) _ nf _ kvs.length 0 _ _ _ rfl (qs_ _)
  (W.frame 0 {s with heap:=h'} _ s.toks st0 (qe_ _) λb hb o e=>oth b o (λz=>nf (z▸hb)) e) g2 (ItemsOf.nil _) λs' acc' c' hm g' hacc=>?_⟩
 show wpAny _ A (load s.heap.objs.size >>= _) _ _ s'
 refine qa_ (wpAny_load g' ?_)
 have hs:=yN hks hacc
 obtain⟨h'',g'',d'',tk'',os''⟩:=s'
 have e1:g''=s.gens:=hm.gens
 have e2:os''=s.os:=hm.os
 subst e1 e2
 refine qb_ (hQ h'' d'' tk'' acc'.toList us hs (List.Perm.refl _) (qg_ g') λb o e=>hm.heap b o (λm=>?_) (oth b o (qm_ (qg_ e)) (kp b o (qd_ _ e))))
 have lt:=qg_ e
 simp only[List.mem_cons,List.not_mem_nil,or_false]at m
 rcases m with m|m
 ·rw[m]at lt;exact qe1_ _ lt
 ·rw[m]at lt;exact absurd lt (qg2_.mpr (qp1_ _))
theorem zDp{kvs:List (Key×Value)}{ep:Nat}{Q:Value->Shared->Prop}(hh:A.handled=none)(hsm:(a==sysModules)=false)(S:s.heap.DictAt (bR prog w) a kvs ep)(hks:kvs.map (·.1)=us.map Sum.inr)(h64:us.length<64)
  (h:∀h' d tk (l:Addr) (out:List Value) (ss:List Str) (e:Nat),StrsAre out ss->ss.Perm us->sortedS ss=true->h'.get? l=some (seqObj "list" out.toArray e)->s.heap.objs.size<=l->(∀b o,s.heap.get? b=some o->h'.get? b=some o) ->
   Q (.ref l) {s with heap:=h',drawn:=d,toks:=tk}):wpAny (model prog w) A (call (.builtin "sorted") [.ref a]) Q E s:=by
 refine Calls.call_function_entry kind_sorted plain_sorted entry_sorted (args_sorted1 _) ?_
 unfold Builtin.«sorted»
 refine qa_ (m:=checkCount "sorted" 1 1 _) (qb_ ?_)
 refine qa_ (zDn (by simp[hh]) hsm S hks (qY_ (qq1_ h64 (by decide))) λh1 d tk acc vs hs hp le kp=>?_)
 have hlen:acc.length<64:=by rw[gL hs,hp.length_eq];exact h64
 refine qa_ (wpAny_newList ?_ (qY_ (qq1_ hlen (by decide))))
 have hoL:(h1.push (seqObj "list" acc.toArray 0)).get? h1.objs.size=some (seqObj "list" acc.toArray 0):=qi_ _ rfl
 refine qa_ (qB_ (qK_ slot_list_sort ⟨_,hoL,rfl⟩ entry_list_sort (list_sort_treeK strKind_oneLt hoL hs.keysOf (λv₁ v₂ rest e=>keyKind_strs (by rw[<-e];exact hs)) hlen λst' a1 a2=>⟨_,rfl,?_⟩) (args_list_sort _)))
 obtain⟨ss',b1,b2,b3⟩:=sorted_out_str hs a1 a2
 obtain⟨e,he⟩:=sortedHeap_at (out:=(arrOf st').map (·.2)) hoL
 refine qb_ ⟨_,rfl,h _ _ _ _ ((arrOf st').map (·.2)).toList ss' e b1 (b2.trans hp) b3 (by rw[qx2_];exact he) (qY_ le) λb o q=>?_⟩
 have lt:=qg_ (kp b o q)
 rw[sortedHeap_old (qm_ lt) (by rw[qy_];exact qk1_ lt)]
 exact qd_ _ (kp b o q)
end
section
variable{X:Cx}
def zIg:List V->Hp->VK->Prop:=λxs H Q=>∃(a:Addr) (ob:Obj) (kvs:List (Key×V)) (us:List Str),xs=[.ref a]/\FzD H a ob kvs/\kvs.map (·.1)=us.map Sum.inr/\us.length<64 /\
  ∀(ss:List Str) (l:Addr),ss.Perm us->sortedS ss=true->H l=none->Q (.ref l) (upd H l (.lst (ss.map V.str)))
theorem qZ:∀{kvs:List (Key×V)}{vs:List (Key×Value)},KV kvs vs->kvs.map (·.1)=vs.map (·.1)
 |[],_,.nil=>rfl
 |_::_,_,.cons r rs=>by rw[qA_,qA_,r.1,qZ rs]
theorem zDC(hc:X.calm=true):CallR X (.builtin "sorted") zIg:=by
 intro pins s σ H xs us Q I r h
 obtain⟨a,ob,kvs,uu,rfl,hz,hk,h64,q⟩:=h
 obtain⟨u,rfl,rx⟩:=cQ r
 cases rx
 obtain⟨e,hs,hl,vs,es,ep,rr,dd,hd⟩:=jN I hz
 refine zDp (I.ok.hd hc) hs dd (by rw[<-qZ rr];exact hk) h64 λh' d tk l out ss e hs hp hso hl le k=>?_
 refine⟨.ref l,_,(I.laid (t':=tk) (o:=.lst (ss.map V.str)) k le ?_).draw d,rfl,q ss l hp hso (I.hok.fresh le)⟩
 refine⟨?_,out,e,pL hs,hl⟩
 rw[qc_,hp.length_eq]
 exact qY_ (qq1_ h64 (by decide))
end
end L2
namespace L2
open PySem PySem.Spec PyProof.Rows
section
variable{X:Cx}
def zJN:List V->Hp->VK->Prop:=λxs H Q=>∃(a:Addr) (kvs:List (Key×V)),xs=[.ref a]/\Rd H a (.dK kvs)/\Q (.int kvs.length) H
theorem zEh:CallR X (.builtin "len") zJN:=by
 intro pins s σ H xs us Q I r h
 obtain⟨a,kvs,rfl,e,q⟩:=h
 obtain⟨u,rfl,rx⟩:=cQ r
 cases rx
 exact zKj I e λt s' I'=>⟨.int kvs.length,H,I',⟨t,rfl⟩,q⟩
def zKQ:R2:=λx y H Q=>∃a v,x=.ref a/\jF H a y (some v)/\Q v H
theorem zHo(hu:X.A.units+1<cLine):IxR X zKQ:=by
 intro value slice pins s σ H x y v u Q I rx ry h hs
 obtain⟨a,z,rfl,g,q⟩:=h
 cases rx
 have hT:=zDQ I g
 unfold subscriptTail
 refine qa_ ?_
 rw[getitemInPython_of_ne hT.not_modules]
 refine qa_ (wpAny_specialOf hT PySem.F.slot_dict_getitem.lookup ?_)
 have fin:wpAny (model X.prog X.w) X.A (subscripted slice false (.ref a) u) (λr s₃=>wpAny (model X.prog X.w) X.A (letTemporaryGo value (.ref a) r >>= λ_=>pure r) (EP X pins σ Q) X.xe s₃) X.xe s:=by
  rw[hs]
  exact wpAny_operating (zFb hu I g ry λw' s3 I3 rw'=>qa_ (wpAny_letTemporaryGo (qb_ ⟨z,H,I3,rw',q⟩)))
 first
  |exact qb_ (qa_ fin)
  |exact qa_ (qb_ (qa_ fin))
  |exact qa_ fin
def zKR:R2:=λy x H Q=>∃a o,x=.ref a/\jF H a y o/\Q (.bl o.isSome) H
theorem zD4(hu:X.A.units+1<cLine):OpR X (compareOp .In) zKR:=by
 intro pins s σ H y x u v Q I ry rx h
 obtain⟨a,o,rfl,g,q⟩:=h
 cases rx
 exact zLJ hu I g ry λs' I'=>⟨.bl _,H,I',rfl,q⟩
end
end L2
namespace L2
open PySem PySem.Spec PyProof.Rows
def fzb:HO->Bool
 |.lst _=>true
 |.dK _=>true
 |_=>false
def FrozenA(H H1 H2:Hp):Prop:=∀b,(H b=none/\∃o ob,fzb o=true/\H1 b=some o/\H2 b=some (.frz ob o))\/(¬ (H b=none/\∃o,fzb o=true/\H1 b=some o)/\H2 b=H1 b)
section
variable{H H1 H2:Hp}{b:Addr}{o:HO}
theorem FrozenA.keep(f:FrozenA H H1 H2)(h:H1 b=some o)(n:fzb o=false):H2 b=some o:=by
 rcases f b with⟨_,o',ob,z,e,_⟩|⟨_,z⟩
 ·rw[h]at e;cases e;rw[n]at z;exact absurd z ql_
 ·rw[z];exact h
theorem FrozenA.fz(f:FrozenA H H1 H2)(hn:H b=none)(h:H1 b=some o)(n:fzb o=true):∃ob,H2 b=some (.frz ob o):=by
 rcases f b with⟨_,o',ob,z,e,e2⟩|⟨z,_⟩
 ·rw[h]at e;cases e;exact⟨ob,e2⟩
 ·exact absurd ⟨hn,o,n,h⟩ z
theorem FrozenA.none_of(f:FrozenA H H1 H2)(h:H1 b=none):H2 b=none:=by
 rcases f b with⟨_,o',ob,z,e,e2⟩|⟨_,z⟩
 ·rw[h]at e;cases e
 ·rw[z];exact h
end
theorem Good.imp{P:Program}{w:World}{K:W.Frag}{mg:Str->Option Value}{base:Heap}{k:Nat}{x:Str}{ps:List Str}{sp sp':Sp}(G:Good P w K mg base k x ps sp)(h:∀vs H Q E,sp' vs H Q E->sp vs H Q E):Good P w K mg base k x ps sp':=by
 obtain⟨f,fd,F,b,m,kp⟩:=G
 exact⟨f,fd,F.imp h,b,m,kp⟩
theorem Good.mono{P:Program}{w:World}{K:W.Frag}{mg:Str->Option Value}{base:Heap}{j k:Nat}{x:Str}{ps:List Str}{sp:Sp}(G:Good P w K mg base j x ps sp)(h:j<=k):Good P w K mg base k x ps sp:=by
 obtain⟨f,fd,F,b,m,kp⟩:=G
 exact⟨f,fd,F.mono h,b,m,kp⟩
def zCO:HO->Bool
 |.frz _ _=>true
 |.tup _=>true
 |_=>false
def HS(H H':Hp):Prop:=∀b o,zCO o=true->H b=some o->H' b=some o
section
variable{H H1 H2:Hp}{a p c:Addr}{o:HO}
theorem HS.refl(H:Hp):HS H H:=λ_ _ _ e=>e
theorem HS.trans(x:HS H H1)(y:HS H1 H2):HS H H2:=λb o h e=>y b o h (x b o h e)
theorem Same.hs(s:Same H H1):HS H H1:=λb o _ e=>s b o e
theorem FrozenA.hs(f:FrozenA H H1 H2):HS H1 H2:=λb o h e=>f.keep e (by cases o<;>first|rfl|exact absurd h ql_)
theorem gX(h:H a=none):HS H (upd H a o):=λb u _ e=>by rw[bK (dP e h)];exact e
theorem gD{u:HO}(h:H a=some u)(n:zCO u=false):HS H (upd H a o):=λb v hv e=>by
 by_cases z:b=a
 ·subst z;rw[h]at e;cases e;rw[n]at hv;exact absurd hv ql_
 ·rw[bK z];exact e
end
end L2
namespace L2
open PySem PySem.Spec PyProof.Rows
theorem zDA:typeLookup (.type "list") "keys"=pure none:=by rw[typeLookup_type,builtinLookup_eq_fast];kernel_rfl
section
variable{prog:Program}{w:World}{A:Around}{E:Value->Shared->Prop}{s:Shared}
theorem zEl{a:Addr}{xs:Array Value}{n:Nat}{Q:Option Value->Shared->Prop}(hA:A.handled=none)(hx:s.heap.get? a=some {cls:=.type "list",data:=.seq xs n})
  (h:∀h' tk,(∀b o,s.heap.get? b=some o->h'.get? b=some o)->Q none {s with heap:=h',toks:=tk}):wpAny (model prog w) A (getAttr? (.ref a) "keys") Q E s:=by
 obtain⟨hp,g,d,tk,os⟩:=s
 have ty:∀t',(⟨hp,g,d,t',os⟩:Shared).TypeIs (.ref a) "list":=λ_=>⟨_,hx,rfl⟩
 have e1:=sub_AttributeError
 have e2:=F.slot_list_getattribute.lookup
 have e3:=F.slot_list_getattribute.bind (.ref a)
 have e4:=am_list_getattr_none
 unfold getAttr? getAttrBy? getAttrBy
 repeat (any_goals (first|assumption|exact ty _|((with_reducible show wpAny _ _ (call (Value.builtin "list.__getattribute__") _ _) _ _ _);refine call_meets F.slot_list_getattribute (ty _) am_entry_list_getattribute (F.args_list_getattribute_2 _ _) (meets_getattribute_miss_list a xs n #[] "keys" _ zDA (by decide +kernel)) ⟨hx,hA,λh' tk' e ne=>?_⟩)|wp_step))
 obtain⟨t',u',he⟩:=ne.there
 show wpAny _ _ (getattributeRaised _ _ _ _ _ _ _) _ _ _
 unfold getattributeRaised
 repeat (any_goals (first|assumption|wp_step))
 all_goals exact h _ _ ne.keeps
theorem zCx:entryFor table "dict.update.loop"=some Builtin.«dict.update.loop»:=entryFor_of_tree (by kernel_rfl)
theorem rJ:plainId "dict.update.loop"=true:=by decide +kernel
theorem uK{h h':Heap}{a:Addr}{kvs:List (Key×Value)}(hd:h.DictOf (bR prog w) a kvs)(k:∀o,h.get? a=some o->h'.get? a=some o):h'.DictOf (bR prog w) a kvs:=by
 obtain⟨o,es,ep,e,r⟩:=hd
 exact⟨o,es,ep,k o e,r⟩
def TupsAt(prog:Program)(w:World)(h:Heap)(its:Array Value)(ps:List (Key×Value)):Prop:=
 its.size=ps.length/\∀(j:Nat) (k:Key) (v:Value),ps[j]?=some (k,v)->∃t key,its[j]?=some (.ref t)/\IsTup h t #[key,v]/\(bR prog w).is k key=true
theorem TupsAt.keep{h h':Heap}{its:Array Value}{ps:List (Key×Value)}(x:TupsAt prog w h its ps)(k:∀t o,h.get? t=some o->o.cls=.type "tuple"->h'.get? t=some o):TupsAt prog w h' its ps:=
 ⟨x.1,λj kk v e=>by
  obtain⟨t,key,a,⟨o,b,c,d⟩,f⟩:=x.2 j kk v e
  exact⟨t,key,a,⟨o,k t o b c,c,d⟩,f⟩⟩
theorem zD3{R:Result->Shared->Prop}{it l dd:Addr}{its:Array Value}{ps:List (Key×Value)}(hh:A.handled=none)(hli:l≠it)(hdi:dd≠it)(hdl:dd≠l)(hsz:ps.length<=1000):
  ∀(m i:Nat) (s:Shared) (kvs:List (Key×Value)) (tk:Tok),ps.length=i+m->s.heap.IsListIter it l i/\s.heap.IsList l its->TupsAt prog w s.heap its ps->s.heap.DictOf (bR prog w) dd kvs->kvs.length<=i ->
   (∀h' tk',h'.DictOf (bR prog w) dd ((ps.drop i).foldl (λacc kv=>stored acc kv.1 kv.2) kvs)->(∀b o,b≠it->b≠dd->s.heap.get? b=some o->h'.get? b=some o)->R (.ok (.ret .none)) {s with heap:=h',toks:=tk'}) ->
   codeAny (model prog w) A (.builtin "dict.update.loop" ⟨[.ref dd,.ref it,.int i tk,.none],[]⟩) R s:=by
 have W:=Walks.list (prog:=prog) (w:=w) (A:=A.in1) (by simp[hh]) it l hli its
 intro m
 induction m with
 |zero=>
  intro i s kvs tk hm st ht hd hl hR
  refine qX_ zCx ?_
  rw[qh1_ rJ _]
  unfold Builtin.«dict.update.loop»
  refine qa_ (W.done s _ _ (by rw[ht.1,hm];exact st) λh' tk' k=>?_)
  refine qa_ (qb_ (qb_ ?_))
  have e:ps.drop i=[]:=List.drop_of_length_le (by omega)
  rw[e]at hR
  refine hR h' tk' (uK hd λo e=>k dd o (by simp[hdi]) e) λb o n1 _ e=>k b o (by simp[n1]) e
 |succ m ih=>
  intro i s kvs tk hm st ht hd hl hR
  have hi:i<ps.length:=by omega
  have hp:ps[i]?=some (ps[i].1,ps[i].2):=qk_ hi
  obtain⟨t,key,e1,htt,hkey⟩:=ht.2 i _ _ hp
  refine qX_ zCx ?_
  rw[qh1_ rJ _]
  unfold Builtin.«dict.update.loop»
  refine qa_ (W.item i s _ _ (by rw[ht.1];exact hi) st λv h' tk' hv st' k=>?_)
  have hv:v=.ref t:=by rw[e1]at hv;exact(Option.some.inj hv).symm
  subst hv
  have nti:∀b o,s.heap.get? b=some o->o.cls=.type "tuple"->b≠it:=λb o e c z=>by
   obtain⟨o',e',c',_⟩:=st.1
   rw[<-z,e]at e'
   cases e'
   rw[c]at c'
   exact absurd c' (by decide)
  have ntd:∀b o,s.heap.get? b=some o->o.cls=.type "tuple"->b≠dd:=λb o e c z=>by
   obtain⟨o',e',c'⟩:=hd.typeIs
   rw[<-z,e]at e'
   cases e'
   rw[c]at c'
   exact absurd c' (by decide)
  obtain⟨ot,et,ct,nt,dt⟩:=htt
  have et':=k t ot (by simp[nti t ot et ct]) et
  have hd':h'.DictOf (bR prog w) dd kvs:=uK hd λo e=>k dd o (by simp[hdi]) e
  have ty:Shared.TypeIs {s with heap:=h',toks:=tk'} (.ref t) "tuple":=⟨ot,et',ct⟩
  refine qa_ (qB_ ?_)
  refine qa_ (wpAny_tryCatch ?_)
  unfold Builtin.Dict.pairItems
  refine qa_ (wpAny_typeOf ty ?_)
  rw[if_pos (by decide)]
  refine qa_ (wpAny_seqItems et' dt (qb_ ?_))
  refine qB_ (wpAny_dictSet_pairs hkey hd' (λh2 hd2 sb=>?_) (by rw[sizeLine_eq];omega))
  refine qb_ ⟨plainId_quiet rJ _,?_⟩
  have l2:=sb.2 l hdl.symm
  refine ih (i+1) _ (stored kvs ps[i].1 ps[i].2) _ (by omega) ?_ ?_ hd2 ?_ λh3 tk3 hd3 k3=>?_
  ·refine W.frame (i+1) h' h2 st' λb hb o e=>?_
   rcases qw_.mp hb with z|z
   ·rw[z]at e ⊢;exact(sb.2 it hdi.symm).trans e
   ·rw[qa1_.mp z]at e ⊢;exact l2.trans e
  ·exact ht.keep λb o e c=>(sb.2 b (ntd b o e c)).trans (k b o (by simp[nti b o e c]) e)
  ·unfold stored
   split
   ·rw[qc_];omega
   ·rw[qj_];show kvs.length+1<=_;omega
  ·refine hR h3 tk3 ?_ λb o n1 n2 e=>k3 b o n1 n2 ((sb.2 b n2).trans (k b o (by simp[n1]) e))
   rw[show ps.drop i=ps[i]::ps.drop (i+1) from qL2_ hi]
   exact hd3
theorem zDy{l:Addr}{its:Array Value}{nl:Nat}{ps:List (Key×Value)}{Q:Value->Shared->Prop}(hh:A.handled=none)(hl:s.heap.get? l=some {cls:=.type "list",data:=.seq its nl})(ht:TupsAt prog w s.heap its ps)(hsz:ps.length<=1000)
  (h:∀h' tk,h'.DictOf (bR prog w) s.heap.objs.size (ps.foldl (λacc kv=>stored acc kv.1 kv.2) [])->(∀b o,s.heap.get? b=some o->h'.get? b=some o)->Q (.ref s.heap.objs.size) {s with heap:=h',toks:=tk}):
  wpAny (model prog w) A (call (.type "dict") [.ref l]) Q E s:=by
 refine callType_codes (Q₁:=λobj s₁=>obj=.ref s.heap.objs.size/\s₁={s with heap:=s.heap.push {cls:=.type "dict",data:=.dict #[]}}) F.kt_called_dict (F.kt_typeCall_dict_1 _) F.entry_dict_init (kt_code_dict_new _ ⟨rfl,rfl⟩) ?_
 rintro obj s₁ ⟨rfl,rfl⟩
 have new:(s.heap.push {cls:=.type "dict",data:=.dict #[]}).DictOf (bR prog w) s.heap.objs.size []:=Heap.DictOf.new s.heap
 have hl1:(s.heap.push {cls:=.type "dict",data:=.dict #[]}).get? l=some {cls:=.type "list",data:=.seq its nl}:=qd_ _ hl
 have llt:=qg_ hl
 refine⟨new.typeIs,F.args_dict_init_2 _ _,?_⟩
 unfold Builtin.«dict.__init__»
 refine qa_ ?_
 unfold Builtin.Dict.selfAndRest
 refine qa_ (wpAny_notOrdered_dict new.typeIs ?_)
 show wpAny _ _ (pure (s.heap.objs.size,[Value.ref l])) _ _ _
 refine qb_ ?_
 show wpAny _ _ (Builtin.Dict.updateFrom "dict.__init__" s.heap.objs.size (.ref l) [] .none) _ _ _
 unfold Builtin.Dict.updateFrom
 refine qa_ (wpAny_typeOf (T:="list") ⟨_,hl1,rfl⟩ ?_)
 rw[if_pos (by decide)]
 refine qa_ (zEl (by simp[hh]) hl1 λh2 tk2 k2=>?_)
 rw[if_pos (by decide)]
 refine qa_ (wpAny_rule ?_)
 have hl2:=k2 _ _ hl1
 have isl:Heap.IsList h2 l its:=⟨_,hl2,rfl,nl,rfl⟩
 refine qa_ (wpAny_pyIter_list isl ?_)
 have sz2:s.heap.objs.size<h2.objs.size:=by
  have:(s.heap.push {cls:=.type "dict",data:=.dict #[]}).get? s.heap.objs.size=some _:=qi_ _ rfl
  exact qg_ (k2 _ _ this)
 refine qb_ ⟨plainId_quiet rJ _,zD3 (A:=A.in1) (its:=its) (ps:=ps) (by simp[hh]) (qm_ (qg_ hl2)) (qm_ sz2) (qC_ llt) hsz ps.length 0 _ [] _ (by simp) ⟨⟨_,qi_ _ rfl,rfl,rfl⟩,isl.push _⟩ ?_ ?_ (qs_ _) λh3 tk3 hd3 k3=>?_⟩
 ·exact ht.keep λb o e _=>qd_ _ (k2 _ _ (qd_ _ e))
 ·exact(uK new λo e=>k2 _ _ e).push _
 ·refine⟨rfl,h h3 tk3 hd3 λb o e=>?_⟩
  have lt:=qg_ e
  exact k3 b o (qm_ (qq1_ lt sz2)) (qm_ lt) (qd_ _ (k2 _ _ (qd_ _ e)))
end
section
variable{X:Cx}
theorem zHu:∀{ps:List (Key×V)}{qs:List (Key×Value)}{kvs:List (Key×V)}{vs:List (Key×Value)},KV ps qs->KV kvs vs->KV (kG kvs ps) (qs.foldl (λacc kv=>stored acc kv.1 kv.2) vs):=by
 intro ps qs kvs vs r
 unfold KV at r
 induction r generalizing kvs vs with
 |nil=>intro q;exact q
 |@cons p q ps qs h t ih=>
  intro r0
  refine ih (kvs:=dM kvs p.1 p.2) (vs:=stored vs q.1 q.2) ?_
  rw[<-h.1]
  exact r0.put p.1 h.2
end
end L2
namespace WordM
open PySem
def sigA:Str:=" !\"#$&'()*+,-./0123456789:;<=>?@ABCDEFGHIJKLMNOPQRSTUVWXYZ[\\]^_`"
def sigB:Str:="abcdefghijklmnopqrstuvwxyz{|}~"
def SIG:Str:=sigA++sigB
abbrev cs(x:Str):List Nat:=x.cps.toList
def mM:Str:="0123456789"
def oC:Str:="ABCDEFGHIJKLMNOPQRSTUVWXYZ"
def zIc:Str:=" !\"#$&'()*+,-./:;<=>?\x40[\\]^_`{|}~"
def rD:Str:="abcdefghijklmnopqrstuvwxyz"
def SGN:List (Str×Str):=[("figure",mM),("great",oC),("other",zIc),("small",rD)]
def MK:List Str:=["figure","great","other","small"]
def Sg(x:Str):Prop:=∀c∈cs x,c∈cs SIG
instance (x:Str):Decidable (Sg x):=by unfold Sg;infer_instance
def eP(c:Nat):Str:=if c∈cs mM then "figure" else if c∈cs oC then "great" else if c∈cs rD then "small" else "other"
def jC(x m:Str):Bool:=(cs x).any λc=>decide (c∈cs ((L2.getS SGN m).getD ⟨#[]⟩))
def dE(x:Str):List Str:=MK.filter λm=>jC x m
theorem app(a b:Str):cs (a++b)=cs a++cs b:=by
 show(a.cps++b.cps).toList=_
 simp
theorem len(a:Str):a.length=(cs a).length:=by simp[Str.length]
theorem Sg.app{a b:Str}(ha:Sg a)(hb:Sg b):Sg (a++b):=λc hc=>by
 rw[WordM.app]at hc
 rcases qp_.mp hc with z|z
 ·exact ha c z
 ·exact hb c z
theorem Sg.one{x:Str}(h:Sg x){c:Nat}(hc:c∈cs x):Sg ⟨#[c]⟩:=λd hd=>by
 have:d=c:=by simpa using hd
 rw[this]
 exact h c hc
theorem zH9:Sg ⟨#[]⟩:=λc hc=>by simp at hc
theorem zEy{x:Str}{l u:Option Int}{c:Nat}(h:c∈cs (Txt.slice x l u)):c∈cs x:=by
 unfold Txt.slice at h
 split at h
 ·exact h
 ·simp only[cs,List.toList_toArray,List.mem_filterMap]at h
  obtain⟨i,_,hi⟩:=h
  obtain⟨hlt,e⟩:=qo3_.mp hi
  rw[<-e]
  simp
theorem Sg.slice{x:Str}(h:Sg x)(l u:Option Int):Sg (Txt.slice x l u):=λc hc=>h c (zEy hc)
theorem slice_len(x:Str)(l u:Option Int):(Txt.slice x l u).length<=x.length:=Txt.slice_le x l u
theorem kD{a b:Str}(h:cs a=cs b):a=b:=by
 obtain⟨a⟩:=a
 obtain⟨b⟩:=b
 have:a=b:=Array.toList_inj.mp h
 rw[this]
theorem zDY{c:Nat}{r:Str}:Txt.slice ((⟨#[c]⟩:Str)++r) (some 1) none=r:=by
 refine kD ?_
 have hl:(((⟨#[c]⟩:Str)++r).length)=1+r.length:=by rw[len,app,len];simp
 rw[PyProof.Rows.slice_from_eq (b:=((((⟨#[c]⟩:Str)++r).length:Nat):Int)) (by decide) (by omega) rfl]
 show((cs ((⟨#[c]⟩:Str)++r)).drop 1).take _=_
 rw[app]
 show((c::cs r).drop 1).take _=cs r
 rw[List.drop_one,List.tail_cons,qs2_]
 rw[hl,len]
 omega
theorem zDL{x:Str}(h:x.length=0):Txt.slice x (some 1) none=x:=by
 have h1:=slice_len x (some 1) none
 refine kD ?_
 have e1:cs (Txt.slice x (some 1) none)=[]:=qO1_ (by rw[<-len];omega)
 have e2:cs x=[]:=qO1_ (by rw[<-len];omega)
 rw[e1,e2]
theorem qV{c:Nat}(h:c∈cs SIG):∀m∈MK,(c∈cs ((L2.getS SGN m).getD ⟨#[]⟩)↔eP c=m):=by
 revert c
 decide +kernel
theorem mark_in(c:Nat):eP c∈MK:=by
 unfold eP
 split
 ·decide
 ·split
  ·decide
  ·split
   ·decide
   ·decide
theorem vK:SIG.length=94:=by decide +kernel
theorem zEz:(cs SIG).Nodup:=by decide +kernel
theorem zDZ(x:Str):(Txt.slice x (some 1) none).length+1<=(if x.length<1 then 1 else x.length):=by
 by_cases h:x.length=0
 ·rw[zDL h,if_pos (by omega)]
  omega
 ·rw[if_neg (by omega)]
  rw[PyProof.Rows.slice_from_eq (b:=(x.length:Int)) (by decide) (by omega) rfl]
  show(((cs x).drop 1).take _).toArray.size+1<=_
  rw[qn_,qR_,qf2_,<-len]
  omega
theorem nodup_len{α:Type}[DecidableEq α]:∀{l m:List α},l.Nodup->(∀x∈l,x∈m)->l.length<=m.length
 |[],m,_,_=>qs_ _
 |x::l,m,hn,hs=>by
  have hx:=hs x qi1_
  have h2:=qG1_.mp hn
  have ih:=nodup_len (l:=l) (m:=m.erase x) h2.2 λy hy=>by
   have hne:y≠x:=λe=>h2.1 (e▸hy)
   exact(List.mem_erase_of_ne hne).mpr (hs y (qc1_ _ hy))
  rw[List.length_erase_of_mem hx]at ih
  have:0<m.length:=List.length_pos_of_mem hx
  rw[qI_]
  omega
def fF(a:Int):Nat:=(cs SIG).getD (a % 94).toNat 0
theorem zEA(a:Int):fF a∈cs SIG:=by
 have hl:(a % 94).toNat<(cs SIG).length:=by
  rw[<-len,vK]
  have:=qB1_ a (show(0:Int)<94 by decide)
  have:=qC1_ a (show(94:Int)≠0 by decide)
  omega
 unfold fF
 rw[qV_,qk_ hl]
 exact qN1_ hl
theorem zEB{a b:Int}(h:fF a=fF b):a % 94=b % 94:=by
 have b1:=qB1_ a (show(0:Int)<94 by decide)
 have b2:=qC1_ a (show(94:Int)≠0 by decide)
 have b3:=qB1_ b (show(0:Int)<94 by decide)
 have b4:=qC1_ b (show(94:Int)≠0 by decide)
 have hl:(cs SIG).length=94:=by rw[<-len];exact vK
 unfold fF at h
 rw[qV_,qV_,qk_ (by omega),qk_ (by omega)]at h
 have h:(cs SIG)[(a % 94).toNat]=(cs SIG)[(b % 94).toNat]:=h
 have hp:=qp3_.mp zEz
 rcases Nat.lt_trichotomy (a % 94).toNat (b % 94).toNat with z|z|z
 ·exact absurd h (hp _ _ (by omega) (by omega) z)
 ·omega
 ·exact absurd h.symm (hp _ _ (by omega) (by omega) z)
def fH(a:Int)(r:Str)(i:Nat):Str:=(⟨#[fF (a+i)]⟩:Str)++r
theorem zFz{a:Int}{r:Str}{i j:Nat}(hi:i<90)(hj:j<90)(h:fH a r i=fH a r j):i=j:=by
 have h1:cs (fH a r i)=cs (fH a r j):=by rw[h]
 unfold fH at h1
 rw[app,app]at h1
 have h2:fF (a+i)=fF (a+j):=by
  have:=List.cons.inj h1
  exact this.1
 have:=zEB h2
 omega
theorem zFA{a:Int}{r:Str}{ss:List Str}{j:Nat}(hj:j<80)(h:∀i,1<=i->i<=j->fH a r i∈ss):j<=ss.length:=by
 have:=nodup_len (l:=(List.range j).map λi=>fH a r (i+1)) (m:=ss) (by
  unfold List.Nodup
  rw[qv2_]
  refine List.Pairwise.imp_of_mem (λ{x y} hx hy hlt e=>?_) List.pairwise_lt_range
  have hx:=qu1_.mp hx
  have hy:=qu1_.mp hy
  have:=zFz (by omega) (by omega) e
  omega) (λx hx=>by
  obtain⟨i,hi,rfl⟩:=qf_.mp hx
  have:=qu1_.mp hi
  exact h (i+1) (by omega) (by omega))
 simpa using this
end WordM
namespace L2
open PySem PySem.Spec PyProof.Rows WordM
section
variable{α β:Type}{F G:α->β->Prop}
theorem eY:∀{xs:List α}{ys:List β}{i:Nat}{x:α},Paired F xs ys->xs[i]?=some x->∃y,ys[i]?=some y/\F x y
 |_,_,_,_,.nil,e=>by simp at e
 |_,_,0,_,.cons r _,e=>by simp at e;subst e;exact⟨_,rfl,r⟩
 |_,_,i+1,x,.cons _ t,e=>by
  obtain⟨u,h1,h2⟩:=eY (i:=i) (x:=x) t (by simpa using e)
  exact⟨u,by simpa using h1,h2⟩
end
inductive Tv where
 |leaf (v:V)
 |seq (t:Bool) (xs:List Tv)
 |dct (kts:List (Str×Tv))
def VT(S:Bool->Addr->List V->Prop)(D:Addr->List (Key×V)->Prop):Nat->V->Tv->Prop
 |0,_,_=>False
 |d+1,x,T=>(dI x=true/\T=.leaf x)\/(∃t a xs Ts,x=.ref a/\S t a xs/\T=.seq t Ts/\Ts.length<=100000/\Paired (VT S D d) xs Ts) \/
   ∃a kvs kts,x=.ref a/\D a kvs/\T=.dct kts/\(kts.map (·.1)).Nodup/\kts.length<64/\Paired (λ(kv:Key×V) (kt:Str×Tv)=>kv.1=.inr kt.1/\VT S D d kv.2 kt.2) kvs kts
section
variable{S S':Bool->Addr->List V->Prop}{D D':Addr->List (Key×V)->Prop}
theorem VT.mono(hs:∀t a xs,S t a xs->S' t a xs)(hd:∀a kvs,D a kvs->D' a kvs):∀{d:Nat}{x:V}{T:Tv},VT S D d x T->VT S' D' d x T
 |0,_,_,h=>False.elim h
 |d+1,x,T,h=>by
  rcases h with h|⟨t,a,xs,Ts,h1,h2,h3,hz,h4⟩|⟨a,kvs,kts,h1,h2,h3,h4,h5,h6⟩
  ·exact .inl h
  ·exact .inr (.inl ⟨t,a,xs,Ts,h1,hs _ _ _ h2,h3,hz,Paired.mapP h4 λ_ _ q=>VT.mono hs hd q⟩)
  ·exact .inr (.inr ⟨a,kvs,kts,h1,hd _ _ h2,h3,h4,h5,Paired.mapP h6 λ_ _ q=>⟨q.1,VT.mono hs hd q.2⟩⟩)
theorem VT.more:∀{d:Nat}{x:V}{T:Tv},VT S D d x T->VT S D (d+1) x T
 |0,_,_,h=>False.elim h
 |d+1,x,T,h=>by
  rcases h with h|⟨t,a,xs,Ts,h1,h2,h3,hz,h4⟩|⟨a,kvs,kts,h1,h2,h3,h4,h5,h6⟩
  ·exact .inl h
  ·exact .inr (.inl ⟨t,a,xs,Ts,h1,h2,h3,hz,Paired.mapP h4 λ_ _ q=>VT.more q⟩)
  ·exact .inr (.inr ⟨a,kvs,kts,h1,h2,h3,h4,h5,Paired.mapP h6 λ_ _ q=>⟨q.1,VT.more q.2⟩⟩)
theorem VT.le{d e:Nat}(h:d<=e){x:V}{T:Tv}(q:VT S D d x T):VT S D e x T:=by
 obtain⟨k,rfl⟩:=Nat.le.dest h
 clear h
 induction k with
 |zero=>exact q
 |succ k ih=>exact VT.more ih
end
def HDct(H:Hp)(a:Addr)(kvs:List (Key×V)):Prop:=∃ob,FzD H a ob kvs
section
variable{K:W.Frag}{H H':Hp}{d:Nat}{x:V}{T:Tv}
theorem HDct.hs(e:HS H H'){a:Addr}{kvs:List (Key×V)}(h:HDct H a kvs):HDct H' a kvs:=by
 obtain⟨ob,h⟩:=h
 exact⟨ob,e _ _ rfl h⟩
end
theorem zD1:∀(p:Str) (l:List Str),risingS p l=true->∀x∈l,(cs x<cs p)->False:=by
 intro p l
 induction l generalizing p with
 |nil=>intro _ x hx;simp at hx
 |cons y l ih=>
  intro h x hx hlt
  have h:(!PySem.Spec.ltCps y.cps.toList p.cps.toList&&risingS y l)=true:=h
  rw[qR1_]at h
  have hy:¬ (cs y<cs p):=by
   have:=h.1
   rw[ltCps_eq]at this
   simpa using this
  rcases qw_.mp hx with z|z
  ·subst z;exact hy hlt
  ·have hxy:¬ (cs x<cs y):=λq=>ih y h.2 x z q
   have h1:cs p<=cs y:=qZ_.mp hy
   have h2:cs y<=cs x:=qZ_.mp hxy
   exact absurd hlt (qZ_.mpr (qJ2_ h1 h2))
theorem pS:∀(l:List Str),sortedS l=true->l.Pairwise λa b=>cs a<=cs b
 |[],_=>.nil
 |x::l,h=>by
  have h:risingS x l=true:=h
  refine .cons (λy hy=>qZ_.mp λz=>zD1 x l h y hy z) (pS l ?_)
  cases l with
  |nil=>rfl
  |cons y l=>
   have h:(!PySem.Spec.ltCps y.cps.toList x.cps.toList&&risingS y l)=true:=h
   rw[qR1_]at h
   exact h.2
open Classical in
noncomputable def aW(us:List Str):List Str:=if h:∃ss:List Str,ss.Perm us/\sortedS ss=true then h.choose else us
theorem eM(us:List Str):(aW us).Perm us:=by
 unfold aW
 split
 ·rename_i h;exact h.choose_spec.1
 ·exact .refl _
theorem nE{us ss:List Str}(h1:ss.Perm us)(h2:sortedS ss=true):ss=aW us:=by
 have ex:∃ss:List Str,ss.Perm us/\sortedS ss=true:=⟨ss,h1,h2⟩
 have e:aW us=ex.choose:=by unfold aW;rw[dif_pos ex]
 rw[e]
 exact List.Perm.eq_of_pairwise (λa b _ _ h1 h2=>kD (List.le_antisymm h1 h2)) (pS _ h2) (pS _ ex.choose_spec.2) (h1.trans ex.choose_spec.1.symm)
def bS(kts:List (Str×Tv))(k:Str):Option Tv:=(kts.find? λkt=>decide (kt.1=k)).map (·.2)
section
variable{S:Bool->Addr->List V->Prop}{D:Addr->List (Key×V)->Prop}{d:Nat}
theorem qX{kvs:List (Key×V)}{kts:List (Str×Tv)}{R:V->Tv->Prop}(h:Paired (λ(kv:Key×V) (kt:Str×Tv)=>kv.1=.inr kt.1/\R kv.2 kt.2) kvs kts)(k:Str):
  (bS kts k=none/\dS kvs (.inr k)=none)\/∃U v,bS kts k=some U/\dS kvs (.inr k)=some v/\R v U:=by
 induction h with
 |nil=>exact .inl ⟨rfl,rfl⟩
 |@cons kv kt l1 l2 h _ ih=>
  obtain⟨e,r⟩:=h
  by_cases z:kt.1=k
  ·refine .inr ⟨kt.2,kv.2,?_,qF (by rw[e,z]),r⟩
   unfold bS
   rw[qD1_,qP_ z]
   rfl
  ·have e2:bS (kt::l2) k=bS l2 k:=by
    unfold bS
    rw[qD1_,qF_ z]
   have e3:dS (kv::l1) (.inr k)=dS l1 (.inr k):=qG (by rw[e];exact λq=>z (Sum.inr.inj q))
   rw[e2,e3]
   exact ih
theorem look_mem{kts:List (Str×Tv)}{k:Str}(h:k∈kts.map (·.1)):∃U,bS kts k=some U:=by
 induction kts with
 |nil=>cases h
 |cons kt l ih=>
  by_cases z:kt.1=k
  ·exact⟨kt.2,by unfold bS;rw[qD1_,qP_ z];rfl⟩
  ·rcases qw_.mp h with q|q
   ·exact absurd q.symm z
   ·obtain⟨U,hU⟩:=ih q
    refine⟨U,?_⟩
    unfold bS at hU ⊢
    rw[qD1_,qF_ z]
    exact hU
theorem zF1{kts:List (Str×Tv)}(hn:(kts.map (·.1)).Nodup){i:Nat}{kt:Str×Tv}(h:kts[i]?=some kt):bS kts kt.1=some kt.2:=by
 induction kts generalizing i with
 |nil=>cases h
 |cons a l ih=>
  rw[qA_,qG1_]at hn
  cases i with
  |zero=>
   cases h
   unfold bS
   rw[qD1_,qP_ rfl]
   rfl
  |succ i=>
   have h:l[i]?=some kt:=by simpa using h
   have z:a.1≠kt.1:=λz=>hn.1 (by rw[z];exact qf_.mpr ⟨kt,qE_ h,rfl⟩)
   have:=ih hn.2 h
   unfold bS at this ⊢
   rw[qD1_,qF_ z]
   exact this
end
theorem SqT.hs{K:W.Frag}{H H':Hp}{a:Addr}{xs:List V}(e:HS H H')(h:SqT K H a xs):SqT K H' a xs:=by
 rcases h with (h|⟨o,h⟩)|h
 ·exact .inl (.inl (e _ _ rfl h))
 ·exact .inl (.inr ⟨o,e _ _ rfl h⟩)
 ·exact .inr h
theorem pT{α β:Type}{F:α->β->Prop}{a c:List α}{b d:List β}(h1:Paired F a b)(h2:Paired F c d):Paired F (a++c) (b++d):=by
 induction h1 with
 |nil=>exact h2
 |cons r _ ih=>exact .cons r ih
end L2
namespace L2
open PySem PySem.Spec PyProof.Rows
abbrev pH:Hp:=λ_=>none
def Thaw(H H3 H4:Hp):Prop:=∀b,(∃o ob,fzb o=true/\H b=some o/\H3 b=some (.frz ob o)/\H4 b=some o)\/((¬ ∃o ob,fzb o=true/\H b=some o/\H3 b=some (.frz ob o))/\H4 b=H3 b)
theorem zBr(H H3:Hp):∃H4,Thaw H H3 H4:=by
 classical
 refine⟨λb=>if h:∃o ob,fzb o=true/\H b=some o/\H3 b=some (.frz ob o) then some h.choose else H3 b,λb=>?_⟩
 by_cases h:∃o ob,fzb o=true/\H b=some o/\H3 b=some (.frz ob o)
 ·obtain⟨ob,h1,h2,h3⟩:=h.choose_spec
  exact .inl ⟨h.choose,ob,h1,h2,h3,by dsimp only;rw[dif_pos h]⟩
 ·exact .inr ⟨h,by dsimp only;rw[dif_neg h]⟩
theorem zAr{P:Program}{w:World}{H:Hp}{h:Heap}(hok:HOk P w H h):∃H2,FrozenA pH H H2/\HOk P w H2 h:=by
 let H2:Hp:=λb=>match H b with
  |none=>none
  |some o=>match fzb o with
   |false=>some o
   |true=>match h.get? b with
    |some ob=>some (.frz ob o)
    |none=>some o
 have new:∀b o ob,H b=some o->fzb o=true->h.get? b=some ob->H2 b=some (.frz ob o):=λb o ob h1 n e=>by
  show(match H b with|none=>none|some o=>_)=_
  rw[h1]
  dsimp only
  rw[n,e]
 have rest:∀b,(∀o,H b=some o->fzb o=false)->H2 b=H b:=λb hn=>by
  show(match H b with|none=>none|some o=>_)=_
  cases e:H b with
  |none=>rfl
  |some o=>
   dsimp only
   rw[hn o e]
 have fro:FrozenA pH H H2:=λb=>by
  cases h1:H b with
  |none=>exact .inr ⟨(λ⟨_,_,_,z⟩=>by cases z),by rw[rest b (λo z=>by rw[h1]at z;cases z),h1]⟩
  |some o=>
   cases n:fzb o with
   |true=>
    obtain⟨ob,e⟩:=(hok b o h1).there
    exact .inl ⟨rfl,o,ob,n,rfl,new b o ob h1 n e⟩
   |false=>exact .inr ⟨(λ⟨_,o',n',z⟩=>by cases z;rw[n]at n';exact absurd n' ql_),by rw[rest b (λo' z=>by rw[h1]at z;cases z;exact n),h1]⟩
 refine⟨H2,fro,λb o e=>?_⟩
 have st:∀o,ObjOk P w H h b o->ObjOk P w H2 h b o:=λo x=>x.stay (λ_ _ _ r=>r) (λd r=>fro.keep r rfl) λd xs r=>fro.keep r rfl
 rcases fro b with⟨hn,o',ob,n,z,z'⟩|⟨_,z'⟩
 ·obtain⟨ob2,e2⟩:=(hok b o' z).there
  have q2:=new b o' ob2 z n e2
  rw[e]at q2
  cases q2
  exact⟨e2,st _ (hok b _ z)⟩
 ·rw[z']at e
  exact st o (hok b o e)
section
variable{H H2 H3 H4:Hp}{b:Addr}{o:HO}
theorem Thaw.same(f:FrozenA pH H H2)(s:Same H2 H3)(t:Thaw H H3 H4):Same H H4:=λb o e=>by
 cases n:fzb o with
 |true=>
  obtain⟨ob,e2⟩:=f.fz (b:=b) rfl e n
  have e3:=s b _ e2
  rcases t b with⟨u,ob',_,z,_,z'⟩|⟨z,_⟩
  ·rw[e]at z;cases z;exact z'
  ·exact absurd ⟨o,ob,n,e,e3⟩ z
 |false=>
  have e3:=s b _ (f.keep e n)
  rcases t b with⟨u,ob',n',z,_⟩|⟨_,z⟩
  ·rw[e]at z;cases z;rw[n]at n';exact absurd n' ql_
  ·rw[z];exact e3
end
theorem zAj:∀{ps kvs:List (Key×V)},((kvs++ps).map (·.1)).Nodup->kG kvs ps=kvs++ps
 |[],kvs,_=>by show kvs=kvs++[];rw[qQ_]
 |p::ps,kvs,h=>by
  have hv:dS kvs p.1=none:=by
   cases e:dS kvs p.1 with
   |none=>rfl
   |some v=>
    have:=zGz e
    rw[qJ_,qw2_]at h
    exact absurd rfl (h.2.2 p.1 this p.1 (by simp))
  show kG (dM kvs p.1 p.2) ps=_
  rw[zFH p.2 hv,zAj (by simpa using h),qK1_]
  rfl
end L2
namespace L2
open PySem PySem.Spec PyProof.Rows WordM
def PSeq(K:W.Frag)(H:Hp)(t:Bool)(a:Addr)(xs:List V):Prop:=match t with
 |false=>∃ob,H a=some (.frz ob (.lst xs))
 |true=>SqT K H a xs
abbrev VP(K:W.Frag)(H:Hp):Nat->V->Tv->Prop:=VT (PSeq K H) (HDct H)
def VA(K:W.Frag)(H:Hp)(x:V)(T:Tv):Prop:=∃d,VP K H d x T
abbrev VAs(K:W.Frag)(H:Hp):List V->List Tv->Prop:=Paired (VA K H)
def VAk(K:W.Frag)(H:Hp):List (Key×V)->List (Str×Tv)->Prop:=Paired λ(kv:Key×V) (kt:Str×Tv)=>kv.1=.inr kt.1/\VA K H kv.2 kt.2
section
variable{K:W.Frag}{H H' H1 H2:Hp}{x y v:V}{T U:Tv}{a:Addr}{xs:List V}{Ts:List Tv}{t:Bool}{kvs:List (Key×V)}{kts:List (Str×Tv)}
theorem PSeq.hs(e:HS H H')(h:PSeq K H t a xs):PSeq K H' t a xs:=by
 cases t with
 |false=>obtain⟨ob,h⟩:=h;exact⟨ob,e _ _ rfl h⟩
 |true=>exact SqT.hs e h
theorem VA.hs(e:HS H H')(h:VA K H x T):VA K H' x T:=by
 obtain⟨d,h⟩:=h
 exact⟨d,h.mono (λ_ _ _ q=>q.hs e) λ_ _ q=>q.hs e⟩
theorem VAs.hs(e:HS H H')(h:VAs K H xs Ts):VAs K H' xs Ts:=Paired.mapP h λ_ _ q=>q.hs e
theorem VAk.hs(e:HS H H')(h:VAk K H kvs kts):VAk K H' kvs kts:=Paired.mapP h λ_ _ q=>⟨q.1,q.2.hs e⟩
theorem VAs.deep(h:VAs K H xs Ts):∃d,Paired (VP K H d) xs Ts:=by
 induction h with
 |nil=>exact⟨0,.nil⟩
 |cons r _ ih=>
  obtain⟨d,r⟩:=r
  obtain⟨e,ih⟩:=ih
  exact⟨max d e,.cons (r.le (Nat.le_max_left _ _)) (Paired.mapP ih λ_ _ q=>VT.le (Nat.le_max_right _ _) q)⟩
theorem VAk.deep(h:VAk K H kvs kts):∃d,Paired (λ(kv:Key×V) (kt:Str×Tv)=>kv.1=.inr kt.1/\VP K H d kv.2 kt.2) kvs kts:=by
 unfold VAk at h
 induction h with
 |nil=>exact⟨0,.nil⟩
 |cons r _ ih=>
  obtain⟨k,d,r⟩:=r
  obtain⟨e,ih⟩:=ih
  exact⟨max d e,.cons ⟨k,r.le (Nat.le_max_left _ _)⟩ (Paired.mapP ih λ_ _ q=>⟨q.1,VT.le (Nat.le_max_right _ _) q.2⟩)⟩
theorem VA.flat(h:dI x=true):VA K H x (.leaf x):=⟨1,.inl ⟨h,rfl⟩⟩
theorem VA.seq(h:PSeq K H t a xs)(z:Ts.length<=100000)(p:VAs K H xs Ts):VA K H (.ref a) (.seq t Ts):=by
 obtain⟨d,p⟩:=p.deep
 exact⟨d+1,.inr (.inl ⟨t,a,xs,Ts,rfl,h,rfl,z,p⟩)⟩
theorem VA.dct(h:HDct H a kvs)(n:(kts.map (·.1)).Nodup)(z:kts.length<64)(p:VAk K H kvs kts):VA K H (.ref a) (.dct kts):=by
 obtain⟨d,p⟩:=p.deep
 exact⟨d+1,.inr (.inr ⟨a,kvs,kts,rfl,h,rfl,n,z,p⟩)⟩
theorem VA.leafI(h:VA K H x (.leaf v)):x=v/\dI v=true:=by
 obtain⟨d,h⟩:=h
 cases d with
 |zero=>exact False.elim h
 |succ d=>
  rcases h with⟨f,e⟩|⟨_,_,_,_,_,_,e,_⟩|⟨_,_,_,_,_,e,_⟩
  ·cases e;exact⟨rfl,f⟩
  ·cases e
  ·cases e
theorem VA.seqI(h:VA K H x (.seq t Ts)):∃a xs,x=.ref a/\PSeq K H t a xs/\Ts.length<=100000/\VAs K H xs Ts:=by
 obtain⟨d,h⟩:=h
 cases d with
 |zero=>exact False.elim h
 |succ d=>
  rcases h with⟨_,e⟩|⟨t',a,xs,Ts',e1,hs,e,z,p⟩|⟨_,_,_,_,_,e,_⟩
  ·cases e
  ·cases e;exact⟨a,xs,e1,hs,z,Paired.mapP p λ_ _ q=>⟨d,q⟩⟩
  ·cases e
theorem VA.dctI(h:VA K H x (.dct kts)):∃a kvs,x=.ref a/\HDct H a kvs/\(kts.map (·.1)).Nodup/\kts.length<64/\VAk K H kvs kts:=by
 obtain⟨d,h⟩:=h
 cases d with
 |zero=>exact False.elim h
 |succ d=>
  rcases h with⟨_,e⟩|⟨_,_,_,_,_,_,e,_⟩|⟨a,kvs,kts',e1,hd,e,n,z,p⟩
  ·cases e
  ·cases e
  ·cases e;exact⟨a,kvs,e1,hd,n,z,Paired.mapP p λ_ _ q=>⟨q.1,d,q.2⟩⟩
end
inductive Sl where
 |no
 |va (T:Tv)
 |own (xs:List Tv)
 |dct (kts:List (Str×Tv))
 |dk
abbrev aU:=List Sl
def dZ:Sl->Bool
 |.own _=>true
 |.dct _=>true
 |_=>false
structure Fm where
 H0:Hp
 dk:Option (Addr×Addr)
structure Kp (dk:Option (Addr×Addr)) (H H':Hp):Prop where
 st:∀b o,H b=some o->(∀p c,dk=some (p,c)->b≠p/\b≠c)->H' b=some o
 dkk:∀p c,dk=some (p,c)->DeckAt H' p c
theorem Kp.tr{dk:Option (Addr×Addr)}{H H':Hp}(k:Kp dk H H')(b:Addr)(o:HO)(e:H b=some o):∃o',H' b=some o':=by
 cases d:dk with
 |none=>exact⟨o,k.st b o e λp c z=>by rw[d]at z;cases z⟩
 |some pc=>
  obtain⟨p,c⟩:=pc
  obtain⟨_,⟨S,i,e1⟩,ns,e2,_⟩:=k.dkk p c d
  by_cases h1:b=p
  ·subst h1;exact⟨_,e1⟩
  ·by_cases h2:b=c
   ·subst h2;exact⟨_,e2⟩
   ·exact⟨o,k.st b o e λp' c' z=>by rw[d]at z;cases z;exact⟨h1,h2⟩⟩
def yB(K:W.Frag)(F:Fm)(H:Hp)(ox:Option V):Sl->Prop
 |.no=>True
 |.va T=>∃x,ox=some x/\VA K H x T
 |.own Ts=>∃a xs,ox=some (.ref a)/\H a=some (.lst xs)/\F.H0 a=none/\Ts.length<=100000/\VAs K H xs Ts
 |.dct kts=>∃a kvs,ox=some (.ref a)/\H a=some (.dK kvs)/\F.H0 a=none/\(kts.map (·.1)).Nodup/\kts.length<64/\VAk K H kvs kts
 |.dk=>∃p c,F.dk=some (p,c)/\ox=some (.ref p)
def ixv(σ:St)(i:Nat):Option V:=(σ[i]?).join
structure FrOk (K:W.Frag) (F:Fm) (ρ:aU) (σ:St) (H:Hp):Prop where
 d0:∀p c,F.dk=some (p,c)->DeckAt F.H0 p c
 kp:Kp F.dk F.H0 H
 len:ρ.length=σ.length
 at_:∀(i:Nat) (s:Sl),ρ[i]?=some s->yB K F H (ixv σ i) s
 ap:∀(i j:Nat) (a:Addr) (s t:Sl),ρ[i]?=some s->ρ[j]?=some t->dZ s=true->dZ t=true->ixv σ i=some (.ref a)->ixv σ j=some (.ref a)->i=j
def Stay(F:Fm)(ρ:aU)(σ:St)(H H':Hp):Prop:=∀b o,H b=some o->(∀p c,F.dk=some (p,c)->b≠p/\b≠c)->(∀(i:Nat) (s:Sl),ρ[i]?=some s->dZ s=true->ixv σ i≠some (.ref b))->H' b=some o
def Sbv(ρ' ρ:aU):Prop:=∀(i:Nat) (s':Sl),ρ'[i]?=some s'->dZ s'=true->∃s,ρ[i]?=some s/\dZ s=true
structure Stp (K:W.Frag) (F:Fm) (σ:St) (ρ:aU) (H:Hp) (ρ':aU) (H':Hp):Prop where
 fr:FrOk K F ρ' σ H'
 st:Stay F ρ σ H H'
 sub:Sbv ρ' ρ
 tr:∀b o,H b=some o->∃o',H' b=some o'
section
variable{K:W.Frag}{F:Fm}{ρ ρ1 ρ2:aU}{σ:St}{H H' H1 H2:Hp}{x y v:V}{T U:Tv}{a b:Addr}{o:HO}
theorem Sbv.refl(ρ:aU):Sbv ρ ρ:=λi s e m=>⟨s,e,m⟩
theorem Sbv.trans(h1:Sbv ρ1 ρ)(h2:Sbv ρ2 ρ1):Sbv ρ2 ρ:=λi s e m=>by
 obtain⟨s1,e1,m1⟩:=h2 i s e m
 exact h1 i s1 e1 m1
theorem FrOk.own_at(fr:FrOk K F ρ σ H){i:Nat}{s:Sl}(e:ρ[i]?=some s)(m:dZ s=true)(q:ixv σ i=some (.ref a)):(∃o,H a=some o/\fzb o=true)/\F.H0 a=none:=by
 have h:=fr.at_ i s e
 cases s with
 |own Ts=>obtain⟨a',xs,e1,e2,e3,_⟩:=h;rw[q]at e1;cases e1;exact⟨⟨_,e2,rfl⟩,e3⟩
 |dct kts=>obtain⟨a',xs,e1,e2,e3,_⟩:=h;rw[q]at e1;cases e1;exact⟨⟨_,e2,rfl⟩,e3⟩
 |no=>cases m
 |va _=>cases m
 |dk=>cases m
theorem FrOk.fresh_nodk(fr:FrOk K F ρ σ H)(h:F.H0 a=none):∀p c,F.dk=some (p,c)->a≠p/\a≠c:=λp c e=>by
 obtain⟨_,⟨S,k,e1⟩,ns,e2,_⟩:=fr.d0 p c e
 exact⟨λz=>(by rw[z,e1]at h;cases h),λz=>(by rw[z,e2]at h;cases h)⟩
theorem FrOk.none_nodk(fr:FrOk K F ρ σ H)(h:H a=none):∀p c,F.dk=some (p,c)->a≠p/\a≠c:=λp c e=>by
 obtain⟨_,⟨S,k,e1⟩,ns,e2,_⟩:=fr.kp.dkk p c e
 exact⟨λz=>(by rw[z,e1]at h;cases h),λz=>(by rw[z,e2]at h;cases h)⟩
theorem FrOk.none0(fr:FrOk K F ρ σ H)(h:H a=none):F.H0 a=none:=by
 cases q:F.H0 a with
 |none=>rfl
 |some o=>rw[fr.kp.st a o q (fr.none_nodk h)]at h;cases h
theorem Stay.hs(fr:FrOk K F ρ σ H)(s:Stay F ρ σ H H'):HS H H':=λb o h e=>s b o e
 (λp c d=>by
  obtain⟨_,⟨S,k,e1⟩,ns,e2,_⟩:=fr.kp.dkk p c d
  exact⟨λz=>(by subst z;rw[e1]at e;cases e;cases h),λz=>(by subst z;rw[e2]at e;cases e;cases h)⟩)
 λi s e1 m q=>by
  obtain⟨⟨o',e2,n⟩,_⟩:=fr.own_at e1 m q
  rw[e]at e2;cases e2
  cases o<;>first|exact absurd h ql_|exact absurd n ql_
theorem Stay.trans(s1:Stay F ρ σ H H1)(sb:Sbv ρ1 ρ)(s2:Stay F ρ1 σ H1 H2):Stay F ρ σ H H2:=λb o e d n=>
 s2 b o (s1 b o e d n) d λi s e1 m=>by
  obtain⟨s',e2,m'⟩:=sb i s e1 m
  exact n i s' e2 m'
theorem Stp.trans(a:Stp K F σ ρ H ρ1 H1)(b:Stp K F σ ρ1 H1 ρ2 H2):Stp K F σ ρ H ρ2 H2:=⟨b.fr,a.st.trans a.sub b.st,a.sub.trans b.sub,λc o e=>let ⟨o1,e1⟩:=a.tr c o e;b.tr c o1 e1⟩
theorem Stp.refl(fr:FrOk K F ρ σ H):Stp K F σ ρ H ρ H:=⟨fr,λ_ _ e _ _=>e,Sbv.refl _,λ_ o e=>⟨o,e⟩⟩
theorem Stp.hs(a:Stp K F σ ρ H ρ1 H1)(fr:FrOk K F ρ σ H):HS H H1:=a.st.hs fr
theorem FrOk.call(fr:FrOk K F ρ σ H)(k:Kp F.dk H H'):FrOk K F ρ σ H':=by
 have own:∀i s a o,ρ[i]?=some s->dZ s=true->ixv σ i=some (.ref a)->H a=some o->H' a=some o:=λi s a o e m q h=>
  k.st a o h (fr.fresh_nodk (fr.own_at e m q).2)
 have hs:HS H H':=λb o h e=>k.st b o e λp c d=>by
  obtain⟨_,⟨S,k,e1⟩,ns,e2,_⟩:=fr.kp.dkk p c d
  exact⟨λz=>(by subst z;rw[e1]at e;cases e;cases h),λz=>(by subst z;rw[e2]at e;cases e;cases h)⟩
 refine⟨fr.d0,⟨λb o e n=>k.st b o (fr.kp.st b o e n) n,k.dkk⟩,fr.len,λi s e=>?_,fr.ap⟩
 have h:=fr.at_ i s e
 cases s with
 |no=>trivial
 |va T=>obtain⟨x,e1,v⟩:=h;exact⟨x,e1,v.hs hs⟩
 |own Ts=>obtain⟨a,xs,e1,e2,e3,z,p⟩:=h;exact⟨a,xs,e1,own i _ a _ e rfl e1 e2,e3,z,p.hs hs⟩
 |dct kts=>obtain⟨a,kvs,e1,e2,e3,n,z,p⟩:=h;exact⟨a,kvs,e1,own i _ a _ e rfl e1 e2,e3,n,z,p.hs hs⟩
 |dk=>exact h
theorem Kp.of_same(fr:FrOk K F ρ σ H)(s:Same H H'):Kp F.dk H H':=⟨λb o e _=>s b o e,λp c d=>by
 obtain⟨ne,⟨S,k,e1⟩,ns,e2,l⟩:=fr.kp.dkk p c d
 exact⟨ne,⟨S,k,s _ _ e1⟩,ns,s _ _ e2,l⟩⟩
theorem Stp.call(fr:FrOk K F ρ σ H)(k:Kp F.dk H H'):Stp K F σ ρ H ρ H':=⟨fr.call k,λb o e d _=>k.st b o e d,Sbv.refl _,λb o e=>k.tr b o e⟩
theorem Stp.same(fr:FrOk K F ρ σ H)(s:Same H H'):Stp K F σ ρ H ρ H':=Stp.call fr (Kp.of_same fr s)
end
theorem Stp.non{K:W.Frag}{F:Fm}{ρ ρ1:aU}{σ:St}{H H1:Hp}{a:Addr}(s:Stp K F σ ρ H ρ1 H1)(n:H1 a=none):H a=none:=by
 cases e:H a with
 |none=>rfl
 |some o=>
  obtain⟨o',e'⟩:=s.tr a o e
  rw[n]at e';cases e'
abbrev UT:=aU->(Tv->aU->Prop)->Prop
abbrev UTt:=aU->(Bool->aU->Prop)->Prop
abbrev UTl:=aU->(List Tv->aU->Prop)->Prop
inductive Ar where
 |va (T:Tv)
 |dk
abbrev UTa:=aU->(List Ar->aU->Prop)->Prop
def tI(K:W.Frag)(dk:Option (Addr×Addr))(H:Hp)(x:V):Ar->Prop
 |.va T=>VA K H x T
 |.dk=>∃p c,dk=some (p,c)/\x=.ref p
def gH(K:W.Frag)(F:Fm)(u:UT):TE:=λσ H QQ=>∃ρ Q,FrOk K F ρ σ H/\u ρ Q/\∀x T H' ρ',Stp K F σ ρ H ρ' H'->VA K H' x T->Q T ρ'->QQ x H'
def rW(K:W.Frag)(F:Fm)(u:UTt):TT:=λσ H QQ=>∃ρ Q,FrOk K F ρ σ H/\u ρ Q/\∀b H' ρ',Stp K F σ ρ H ρ' H'->Q b ρ'->QQ b H'
def rX(K:W.Frag)(F:Fm)(u:UTl):TE:=λσ H QQ=>∃ρ Q,FrOk K F ρ σ H/\u ρ Q/\∀a xs Ts H' ρ',Stp K F σ ρ H ρ' H'->H a=none->H' a=some (.lst xs)->Ts.length<=100000->VAs K H' xs Ts->Q Ts ρ'->QQ (.ref a) H'
def rY(K:W.Frag)(F:Fm)(u:UTa):TA:=λσ H QQ=>∃ρ Q,FrOk K F ρ σ H/\u ρ Q/\∀xs as H' ρ',Stp K F σ ρ H ρ' H'->Paired (tI K F.dk H') xs as->Q as ρ'->QQ xs H'
structure UE (X:Cx) (F:Fm) (e:Expr) (u:UT):Prop where
 pe:PE X e (gH X.K F u)
structure UB (X:Cx) (F:Fm) (e:Expr) (u:UTt):Prop where
 pt:PT X e (rW X.K F u)
structure UW (X:Cx) (F:Fm) (e:Expr) (u:UTt):Prop where
 pw:PW X e (rW X.K F u)
structure UL (X:Cx) (F:Fm) (e:Expr) (u:UTl):Prop where
 pe:PE X e (rX X.K F u)
structure UA (X:Cx) (F:Fm) (es:List Expr) (u:UTa):Prop where
 pa:PA X es (rY X.K F u)
theorem PE.imp{X:Cx}{e:Expr}{t t':TE}(h:PE X e t)(i:∀σ H Q,t' σ H Q->t σ H Q):PE X e t':=λpins s σ H Q I q=>h pins s σ H Q I (i σ H Q q)
theorem PT.imp{X:Cx}{e:Expr}{t t':TT}(h:PT X e t)(i:∀σ H Q,t' σ H Q->t σ H Q):PT X e t':=λpins s σ H Q I q=>h pins s σ H Q I (i σ H Q q)
theorem PW.imp{X:Cx}{e:Expr}{t t':TT}(h:PW X e t)(i:∀σ H Q,t' σ H Q->t σ H Q):PW X e t':=λwh pins s σ H Q I q=>h wh pins s σ H Q I (i σ H Q q)
theorem PA.imp{X:Cx}{es:List Expr}{t t':TA}(h:PA X es t)(i:∀σ H Q,t' σ H Q->t σ H Q):PA X es t':=λpos pins s σ H Q I q=>h pos pins s σ H Q I (i σ H Q q)
theorem Inv.fz{X:Cx}{pins:List (Addr×Obj)}{σ:St}{H:Hp}{s:Shared}{a:Addr}{o:HO}(I:Inv X pins σ H s)(h:H a=some o)(n:fzb o=true):∃ob,Inv X pins σ (upd H a (.frz ob o)) s:=by
 obtain⟨ob,eo⟩:=(I.hok a o h).there
 refine⟨ob,?_⟩
 have keep:∀b u,H b=some u->fzb u=false->upd H a (.frz ob o) b=some u:=λb u e m=>by
  rw[bK (λz=>by subst z;rw[h]at e;cases e;rw[n]at m;cases m)];exact e
 have non:∀b,H b=none->upd H a (.frz ob o) b=none:=λb e=>by
  rw[bK (λz=>by subst z;rw[h]at e;cases e)];exact e
 refine⟨I.ok,I.os,I.bare,⟨I.base.keep,I.base.slot,λb o e n hx=>non b (I.base.free b o e n hx),I.base.there,λb xs e=>keep b _ (I.base.tups b xs e) rfl,λb o u e=>keep b _ (I.base.frzs b o u e) rfl,λb ps e=>?_⟩,I.loc,I.cell,non _ I.free,λx c e=>non c (I.freeC x c e),λp hp=>?_,λb u e=>?_,I.len⟩
 ·obtain⟨more,z⟩:=I.base.tbls b ps e
  exact⟨more,keep b _ z rfl⟩
 ·obtain⟨p1,p2,p3⟩:=I.pin p hp
  exact⟨p1,non _ p2,p3⟩
 ·have st:∀b u,ObjOk X.prog X.w H s.heap b u->ObjOk X.prog X.w (upd H a (.frz ob o)) s.heap b u:=λb u x=>x.stay (λ_ _ _ r=>r) (λd r=>keep d _ r rfl) λd xs r=>keep d _ r rfl
  by_cases z:b=a
  ·subst z
   rw[bB]at e
   cases e
   exact⟨eo,st _ _ (I.hok b o h)⟩
  ·rw[bK z]at e
   exact st _ _ (I.hok b u e)
def FzQ(Q:VK):VK:=λz H=>Q z H\/∃a o,z=.ref a/\H a=some o/\fzb o=true/\∀ob,Q z (upd H a (.frz ob o))
def tFz(t:TE):TE:=λσ H Q=>t σ H (FzQ Q)
theorem EP.fz{X:Cx}{pins:List (Addr×Obj)}{σ:St}{Q:VK}{u:Value}{s:Shared}(h:EP X pins σ (FzQ Q) u s):EP X pins σ Q u s:=by
 obtain⟨x,H',I,r,q⟩:=h
 rcases q with q|⟨a,o,rfl,e,n,q⟩
 ·exact⟨x,H',I,r,q⟩
 ·obtain⟨ob,I'⟩:=I.fz e n
  exact⟨_,_,I',r,q ob⟩
theorem PE.fz{X:Cx}{e:Expr}{t:TE}(h:PE X e t):PE X e (tFz t):=λpins s σ H Q I q=>thn (h pins s σ H _ I q) λ_ _ z=>z.fz
def Raw(K:W.Frag)(H H':Hp)(z:V)(W:Tv):Prop:=Same H H'/\(VA K H' z W\/∃a,z=.ref a/\H a=none /\
 ((∃xs Ts,H' a=some (.lst xs)/\W=.seq false Ts/\Ts.length<=100000/\VAs K H' xs Ts)\/∃kvs kts,H' a=some (.dK kvs)/\W=.dct kts/\(kts.map (·.1)).Nodup/\kts.length<64/\VAk K H' kvs kts))
section
variable{K:W.Frag}{F:Fm}{ρ ρ1 ρ2:aU}{σ:St}{H H' H1 H2:Hp}{x y v z:V}{T U W:Tv}{a b:Addr}{o:HO}
theorem Raw.va(v:VA K H z W):Raw K H H z W:=⟨Same.refl _,.inl v⟩
theorem Raw.flat(h:dI z=true):Raw K H H z (.leaf z):=.va (.flat h)
theorem Raw.lst{xs:List V}{Ts:List Tv}(n:H a=none)(z:Ts.length<=100000)(p:VAs K H xs Ts):Raw K H (upd H a (.lst xs)) (.ref a) (.seq false Ts):=
 ⟨cB n,.inr ⟨a,rfl,n,.inl ⟨xs,Ts,bB,rfl,z,p.hs (gX n)⟩⟩⟩
theorem Raw.tup{xs:List V}{Ts:List Tv}(n:H a=none)(z:Ts.length<=100000)(p:VAs K H xs Ts):Raw K H (upd H a (.tup xs)) (.ref a) (.seq true Ts):=
 ⟨cB n,.inl (VA.seq (t:=true) (SqT.of bB) z (p.hs (gX n)))⟩
theorem Stp.frz(fr:FrOk K F ρ σ H)(s:Same H H')(n:H a=none)(e:H' a=some o)(m:fzb o=true)(ob:Obj):Stp K F σ ρ H ρ (upd H' a (.frz ob o)):=
 Stp.same fr λb u q=>by rw[bK (dP q n)];exact s b u q
theorem Raw.fin(fr:FrOk K F ρ σ H)(r:Raw K H H' z W){QQ:VK}(k:∀H'',Stp K F σ ρ H ρ H''->VA K H'' z W->QQ z H''):FzQ QQ z H':=by
 obtain⟨s,v|⟨a,rfl,n,⟨xs,Ts,e,rfl,l,p⟩|⟨kvs,kts,e,rfl,nd,l,p⟩⟩⟩:=r
 ·exact .inl (k H' (Stp.same fr s) v)
 ·refine .inr ⟨a,_,rfl,e,rfl,λob=>k _ (Stp.frz fr s n e rfl ob) (VA.seq (t:=false) ⟨ob,bB⟩ l (p.hs (gD e rfl)))⟩
 ·refine .inr ⟨a,_,rfl,e,rfl,λob=>k _ (Stp.frz fr s n e rfl ob) (VA.dct ⟨ob,bB⟩ nd l (p.hs (gD e rfl)))⟩
end
end L2
namespace L2
open PySem PySem.Spec PyProof.Rows WordM
abbrev iT(i:Int):Tv:=.leaf (.int i)
abbrev sT(x:Str):Tv:=.leaf (.str x)
abbrev bT(b:Bool):Tv:=.leaf (.bl b)
abbrev nT:Tv:=.leaf .non
abbrev P1:=Tv->(Tv->Prop)->Prop
abbrev P2:=Tv->Tv->(Tv->Prop)->Prop
abbrev Pn:=List Tv->(Tv->Prop)->Prop
section
variable{X:Cx}{F:Fm}
def fT(i:Nat):UT:=λρ Q=>match ρ[i]? with
 |some (.va T)=>Q T ρ
 |some (.own Ts)=>Q (.seq false Ts) (ρ.set i (.va (.seq false Ts)))
 |some (.dct kts)=>Q (.dct kts) (ρ.set i (.va (.dct kts)))
 |_=>False
theorem jK{σ:St}{i:Nat}{x:V}(h:ixv σ i=some x):σ[i]?=some (some x):=by
 unfold ixv at h
 cases q:σ[i]? with
 |none=>rw[q]at h;cases h
 |some o=>rw[q]at h;cases o with
  |none=>cases h
  |some y=>cases h;rfl
theorem zI7{σ:St}{i:Nat}{x:V}(h:σ[i]?=some (some x)):ixv σ i=some x:=by
 unfold ixv;rw[h];rfl
theorem FrOk.fzs{K:W.Frag}{ρ:aU}{σ:St}{H:Hp}{i:Nat}{s:Sl}{a:Addr}{o:HO}{T:Tv}(fr:FrOk K F ρ σ H)(e:ρ[i]?=some s)(m:dZ s=true)(q:ixv σ i=some (.ref a))(h:H a=some o)(n:fzb o=true)(ob:Obj)
  (v:VA K (upd H a (.frz ob o)) (.ref a) T):Stp K F σ ρ H (ρ.set i (.va T)) (upd H a (.frz ob o)):=by
 have hi:i<ρ.length:=(qx_.mp e).1
 have h0:=(fr.own_at e m q).2
 have hd:=fr.fresh_nodk h0
 have hs:HS H (upd H a (.frz ob o)):=gD h (by cases o<;>first|rfl|exact absurd n ql_)
 have st:∀b u,b≠a->H b=some u->upd H a (.frz ob o) b=some u:=λb u z e=>by rw[bK z];exact e
 refine⟨⟨fr.d0,⟨λb u e1 n1=>st b u (λz=>by rw[z,h0]at e1;cases e1) (fr.kp.st b u e1 n1),λp c d=>?_⟩,by rw[qv1_];exact fr.len,λj s' e'=>?_,λj k b s' t' e1 e2 m1 m2 q1 q2=>?_⟩,λb u e1 _ n1=>st b u (λz=>n1 i s e m (by rw[z];exact q)) e1,λj s' e' m'=>?_,λb u e1=>if z:b=a then⟨.frz ob o,z▸bB⟩ else⟨u,st b u z e1⟩⟩
 ·obtain⟨ne,⟨S,k,e1⟩,ns,e2,l⟩:=fr.kp.dkk p c d
  exact⟨ne,⟨S,k,st _ _ (hd p c d).1.symm e1⟩,ns,st _ _ (hd p c d).2.symm e2,l⟩
 ·by_cases z:i=j
  ·subst z
   rw[qj1_ hi]at e'
   cases e'
   exact⟨_,q,v⟩
  ·rw[qm1_ z]at e'
   have x:=fr.at_ j s' e'
   cases s' with
   |no=>trivial
   |va T=>obtain⟨y,e1,v⟩:=x;exact⟨y,e1,v.hs hs⟩
   |own Ts=>obtain⟨b,xs,e1,e2,e3,z',p⟩:=x;exact⟨b,xs,e1,st _ _ (λy=>z (fr.ap i j a s _ e e' m rfl q (by rw[e1,y]))) e2,e3,z',p.hs hs⟩
   |dct kts=>obtain⟨b,kvs,e1,e2,e3,n',z',p⟩:=x;exact⟨b,kvs,e1,st _ _ (λy=>z (fr.ap i j a s _ e e' m rfl q (by rw[e1,y]))) e2,e3,n',z',p.hs hs⟩
   |dk=>exact x
 ·by_cases z1:i=j
  ·subst z1;rw[qj1_ hi]at e1;cases e1;cases m1
  ·by_cases z2:i=k
   ·subst z2;rw[qj1_ hi]at e2;cases e2;cases m2
   ·rw[qm1_ z1]at e1
    rw[qm1_ z2]at e2
    exact fr.ap j k b s' t' e1 e2 m1 m2 q1 q2
 ·by_cases z:i=j
  ·subst z;rw[qj1_ hi]at e';cases e';cases m'
  ·rw[qm1_ z]at e';exact⟨s',e',m'⟩
theorem aC(i:Nat){x:Str}{pos:Pos}(hN:X.N[i]?=some x:=by rfl)(hv:Vis X.env.scope x:=by first|exact Or.inl rfl|exact Or.inr (Or.inl rfl)|exact Or.inr (Or.inr rfl))(hd:(x==("__debug__":Str))=false:=by decide)(hcd:(x==("__classdict__":Str))=false:=by decide):
  UE X F (.Name x pos) (fT i):=by
 refine⟨PE.imp (PE.fz (kF hN hv hd hcd)) ?_⟩
 rintro σ H QQ ⟨ρ,Q,fr,h,k⟩
 unfold fT at h
 split at h
 ·rename_i T e
  obtain⟨y,e1,v⟩:=fr.at_ i _ e
  exact⟨y,jK e1,.inl (k y T H ρ (Stp.refl fr) v h)⟩
 ·rename_i Ts e
  obtain⟨a,xs,e1,e2,e3,z,p⟩:=fr.at_ i _ e
  refine⟨_,jK e1,.inr ⟨a,_,rfl,e2,rfl,λob=>?_⟩⟩
  have v:VA X.K (upd H a (.frz ob (.lst xs))) (.ref a) (.seq false Ts):=VA.seq (t:=false) ⟨ob,bB⟩ z (p.hs (gD e2 rfl))
  exact k _ _ _ _ (fr.fzs e rfl e1 e2 rfl ob v) v h
 ·rename_i kts e
  obtain⟨a,kvs,e1,e2,e3,n,z,p⟩:=fr.at_ i _ e
  refine⟨_,jK e1,.inr ⟨a,_,rfl,e2,rfl,λob=>?_⟩⟩
  have v:VA X.K (upd H a (.frz ob (.dK kvs))) (.ref a) (.dct kts):=VA.dct ⟨ob,bB⟩ n z (p.hs (gD e2 rfl))
  exact k _ _ _ _ (fr.fzs e rfl e1 e2 rfl ob v) v h
 ·exact False.elim h
def uC(T:Tv):UT:=λρ Q=>Q T ρ
theorem sA{e:Expr}{v:V}(h:PE X e (tC v))(f:dI v=true):UE X F e (uC (.leaf v)):=⟨PE.imp h λσ H QQ ⟨ρ,Q,fr,h,k⟩=>k v (.leaf v) H ρ (Stp.refl fr) (.flat f) h⟩
theorem aG{i j pos}:UE X F (.Constant (.int i) j pos) (uC (iT i)):=sA cM rfl
theorem jP{b j pos}:UE X F (.Constant (.bool b) j pos) (uC (bT b)):=sA zJW rfl
theorem iP{j pos}:UE X F (.Constant .none j pos) (uC nT):=sA zIH rfl
theorem aY{x j pos}:UE X F (.Constant (.str x) j pos) (uC (sT x)):=sA zIE rfl
theorem zGF{x:Str}{v:V}{u:Value}{T:Tv}{pos:Pos}(hg:Gl X x)(hm:X.mg x=some u)(r:RelV v u)(hv:∀H,VA X.K H v T)(hd:(x==("__debug__":Str))=false:=by decide):UE X F (.Name x pos) (uC T):=
 ⟨PE.imp (zBI hg hm r hd) λσ H QQ ⟨ρ,Q,fr,h,k⟩=>k v T H ρ (Stp.refl fr) (hv H) h⟩
def tG(K:W.Frag)(r:P2)(r':R2):Prop:=∀x y T U H Q (QQ:VK),VA K H x T->VA K H y U->r T U Q->(∀z W H',Raw K H H' z W->Q W->QQ z H')->r' x y H QQ
def fW(X:Cx)(f:Value->Value->Sem Value)(r:P2):Prop:=∃r',OpR X f r'/\tG X.K r r'
def uOp(r:P2)(ua ub:UT):UT:=λρ Q=>ua ρ λa ρ1=>ub ρ1 λb ρ2=>r a b λc=>Q c ρ2
theorem vT{r:P2}{r':R2}{ua ub:UT}(hr:tG X.K r r')(σ:St)(H:Hp)(QQ:VK)(h:gH X.K F (uOp r ua ub) σ H QQ):tFz (tOp r' (gH X.K F ua) (gH X.K F ub)) σ H QQ:=by
 obtain⟨ρ,Q,fr,h,k⟩:=h
 refine⟨ρ,_,fr,h,λx T H1 ρ1 s1 v1 q1=>⟨ρ1,_,s1.fr,q1,λy U H2 ρ2 s2 v2 q2=>?_⟩⟩
 refine hr x y T U H2 _ _ (v1.hs (s2.hs s1.fr)) v2 q2 λz W H' rw q=>rw.fin s2.fr λH'' s3 v3=>k _ _ _ _ ((s1.trans s2).trans s3) v3 q
variable{a b c:Expr}{ua ub uc:UT}{pos:Pos}
theorem bN{op:Operator}{r:P2}(ho:fW X (binaryOp op) r)(ha:UE X F a ua)(hb:UE X F b ub):UE X F (.BinOp a op b pos) (uOp r ua ub):=by
 obtain⟨r',o,hr⟩:=ho
 exact⟨PE.imp (PE.fz (cN o ha.pe hb.pe)) (vT hr)⟩
theorem zHU{op:CmpOp}{r:P2}(ho:fW X (compareOp op) r)(ha:UE X F a ua)(hb:UE X F b ub)(hm:behindInMarks op b=false):UE X F (.Compare a [op] [b] pos) (uOp r ua ub):=by
 obtain⟨r',o,hr⟩:=ho
 exact⟨PE.imp (PE.fz (zG7 o ha.pe hb.pe hm)) (vT hr)⟩
def uB(u:UT):UTt:=λρ Q=>u ρ λT ρ'=>∃b,T=bT b/\Q b ρ'
theorem zJv{e:Expr}{t:TE}{u:UT}(h:PT X e (zCD t))(i:∀σ H QQ,gH X.K F u σ H QQ->t σ H QQ):UB X F e (uB u):=⟨PT.imp h λσ H QQ ⟨ρ,Q,fr,h,k⟩=>by
 refine i σ H _ ⟨ρ,_,fr,h,λx T H' ρ' s v q=>?_⟩
 obtain⟨b,rfl,q⟩:=q
 obtain⟨e,_⟩:=v.leafI
 exact⟨b,e,k b H' ρ' s q⟩⟩
def PuR2f(K:W.Frag)(r:P2)(r':R2):Prop:=∀x y T U H Q (QQ:VK),VA K H x T->VA K H y U->r T U Q->(∀z W H',Same H H'->VA K H' z W->Q W->QQ z H')->r' x y H QQ
def PuCmp(X:Cx)(f:Value->Value->Sem Value)(r:P2):Prop:=∃r',OpR X f r'/\PuR2f X.K r r'
theorem PuR2f.raw{K:W.Frag}{r:P2}{r':R2}(h:PuR2f K r r'):tG K r r':=λx y T U H Q QQ vx vy q k=>h x y T U H Q QQ vx vy q λz W H' s v q'=>k z W H' ⟨s,.inl v⟩ q'
theorem PuCmp.op{f:Value->Value->Sem Value}{r:P2}(h:PuCmp X f r):fW X f r:=by
 obtain⟨r',o,h⟩:=h
 exact⟨r',o,h.raw⟩
theorem zF3{r:P2}{r':R2}{ua ub:UT}(hr:PuR2f X.K r r')(σ:St)(H:Hp)(QQ:VK)(h:gH X.K F (uOp r ua ub) σ H QQ):tOp r' (gH X.K F ua) (gH X.K F ub) σ H QQ:=by
 obtain⟨ρ,Q,fr,h,k⟩:=h
 refine⟨ρ,_,fr,h,λx T H1 ρ1 s1 v1 q1=>⟨ρ1,_,s1.fr,q1,λy U H2 ρ2 s2 v2 q2=>?_⟩⟩
 exact hr x y T U H2 _ _ (v1.hs (s2.hs s1.fr)) v2 q2 λz W H' s v q=>k _ _ _ _ ((s1.trans s2).trans (Stp.same s2.fr s)) v q
theorem wH{op:CmpOp}{r:P2}(ho:PuCmp X (compareOp op) r)(ha:UE X F a ua)(hb:UE X F b ub)(hm:behindInMarks op b=false):UB X F (.Compare a [op] [b] pos) (uB (uOp r ua ub)):=by
 obtain⟨r',o,hr⟩:=ho
 exact zJv (vM o ha.pe hb.pe hm) (zF3 hr)
def zDf(X:Cx)(f:Value->Sem Value)(r:P1):Prop:=∃r',UnR X f r'/\∀x T H Q (QQ:VK),VA X.K H x T->r T Q->(∀z W,VA X.K H z W->Q W->QQ z H)->r' x H QQ
def uUn(r:P1)(ua:UT):UT:=λρ Q=>ua ρ λa ρ1=>r a λc=>Q c ρ1
theorem zCB{op:UnaryOp}{r:P1}(ho:zDf X (unaryOp op) r)(ha:UE X F a ua):UE X F (.UnaryOp op a pos) (uUn r ua):=by
 obtain⟨r',o,hr⟩:=ho
 refine⟨PE.imp (zCH o ha.pe) ?_⟩
 rintro σ H QQ ⟨ρ,Q,fr,h,k⟩
 exact⟨ρ,_,fr,h,λx T H1 ρ1 s1 v1 q1=>hr x T H1 _ _ v1 q1 λz W v q=>k _ _ _ _ s1 v q⟩
def zC6:P1
 |.leaf (.int i),Q=>Q (iT (-i))
 |_,_=>False
theorem zCj:zDf X (unaryOp .USub) zC6:=⟨_,zB8,λx T H Q QQ v h k=>by
 unfold zC6 at h
 split at h
 ·obtain⟨rfl,_⟩:=v.leafI
  exact⟨_,rfl,k _ _ (.flat rfl) h⟩
 ·exact False.elim h⟩
def zJy(ua ub:UT):UT:=λρ Q=>ua ρ λa ρ1=>∃c,a=bT c/\if c=true then ub ρ1 Q else Q (bT false) ρ1
theorem lT{op}{u:UT}(h:UE X F a u):UE X F (.BoolOp op [a] pos) u:=⟨zIG h.pe⟩
theorem iQ{rest:List Expr}(ha:UE X F a ua)(hb:UE X F (.BoolOp .And (b::rest) pos) ub):UE X F (.BoolOp .And (a::b::rest) pos) (zJy ua ub):=⟨PE.imp (zIK ha.pe hb.pe) λσ H QQ ⟨ρ,Q,fr,h,k⟩=>by
 refine⟨ρ,_,fr,h,λx T H1 ρ1 s1 v1 q1=>?_⟩
 obtain⟨c,rfl,q1⟩:=q1
 obtain⟨e,_⟩:=v1.leafI
 refine⟨c,e,?_⟩
 cases c with
 |false=>rw[if_neg ql_]at q1 ⊢;exact k _ _ _ _ s1 (.flat rfl) q1
 |true=>rw[if_pos rfl]at q1 ⊢;exact⟨ρ1,_,s1.fr,q1,λy U H2 ρ2 s2 v2 q2=>k _ _ _ _ (s1.trans s2) v2 q2⟩⟩
def zKw(t u:UTt):UTt:=λρ Q=>t ρ λc ρ1=>if c=true then u ρ1 Q else Q false ρ1
def uOr(t u:UTt):UTt:=λρ Q=>t ρ λc ρ1=>if c=true then Q true ρ1 else u ρ1 Q
def zKt(t:UTt):UTt:=λρ Q=>t ρ λc ρ1=>Q (!c) ρ1
variable{ta tb:UTt}{rest:List Expr}
theorem nJ(ha:UB X F a ta):UW X F (.BoolOp .And [a] pos) ta:=⟨zGW ha.pt⟩
theorem iN(ha:UB X F a ta):UW X F (.BoolOp .Or [a] pos) ta:=⟨zIn ha.pt⟩
theorem lR(ha:UB X F a ta)(hb:UW X F (.BoolOp .And (b::rest) pos) tb):UW X F (.BoolOp .And (a::b::rest) pos) (zKw ta tb):=⟨PW.imp (zIo ha.pt hb.pw) λσ H QQ ⟨ρ,Q,fr,h,k⟩=>by
 refine⟨ρ,_,fr,h,λc H1 ρ1 s1 q1=>?_⟩
 cases c with
 |false=>rw[if_neg ql_]at q1 ⊢;exact k _ _ _ s1 q1
 |true=>rw[if_pos rfl]at q1 ⊢;exact⟨ρ1,_,s1.fr,q1,λy H2 ρ2 s2 q2=>k _ _ _ (s1.trans s2) q2⟩⟩
theorem hC(ha:UB X F a ta)(hb:UW X F (.BoolOp .Or (b::rest) pos) tb):UW X F (.BoolOp .Or (a::b::rest) pos) (uOr ta tb):=⟨PW.imp (zJT ha.pt hb.pw) λσ H QQ ⟨ρ,Q,fr,h,k⟩=>by
 refine⟨ρ,_,fr,h,λc H1 ρ1 s1 q1=>?_⟩
 cases c with
 |true=>rw[if_pos rfl]at q1 ⊢;exact k _ _ _ s1 q1
 |false=>rw[if_neg ql_]at q1 ⊢;exact⟨ρ1,_,s1.fr,q1,λy H2 ρ2 s2 q2=>k _ _ _ (s1.trans s2) q2⟩⟩
theorem eQ{e:Expr}{t:UTt}(h:UW X F e t):UB X F e t:=⟨h.pw.pt⟩
theorem lU(ha:UB X F a ta):UB X F (.UnaryOp .Not a pos) (zKt ta):=⟨PT.imp (zIt ha.pt) λσ H QQ ⟨ρ,Q,fr,h,k⟩=>⟨ρ,_,fr,h,λc H1 ρ1 s1 q1=>k _ _ _ s1 q1⟩⟩
theorem cS{e:Expr}{u:UT}(h:UE X F e u)(he:∀whole,isTrue e X.env whole=(do let v <- whole;standAt e.pos;holding [v] (truthy v)):=by intro _;rfl):UB X F e (uB u):=⟨PT.imp (zIs h.pe he) λσ H QQ ⟨ρ,Q,fr,h,k⟩=>by
 refine⟨ρ,_,fr,h,λx T H' ρ' s v q=>?_⟩
 obtain⟨b,rfl,q⟩:=q
 obtain⟨e,_⟩:=v.leafI
 exact⟨b,e,k b H' ρ' s q⟩⟩
def uIf(t:UTt)(ua ub:UT):UT:=λρ Q=>t ρ λc ρ1=>if c=true then ua ρ1 Q else ub ρ1 Q
theorem uO(hc:UB X F c ta)(ha:UE X F a ua)(hb:UE X F b ub):UE X F (.IfExp c a b pos) (uIf ta ua ub):=⟨PE.imp (zFR hc.pt ha.pe hb.pe) λσ H QQ ⟨ρ,Q,fr,h,k⟩=>by
 refine⟨ρ,_,fr,h,λc H1 ρ1 s1 q1=>?_⟩
 cases c with
 |true=>rw[if_pos rfl]at q1 ⊢;exact⟨ρ1,_,s1.fr,q1,λy U H2 ρ2 s2 v2 q2=>k _ _ _ _ (s1.trans s2) v2 q2⟩
 |false=>rw[if_neg ql_]at q1 ⊢;exact⟨ρ1,_,s1.fr,q1,λy U H2 ρ2 s2 v2 q2=>k _ _ _ _ (s1.trans s2) v2 q2⟩⟩
def gI:UTa:=λρ Q=>Q [] ρ
def hE(u:UT)(t:UTa):UTa:=λρ Q=>u ρ λT ρ1=>t ρ1 λas ρ2=>Q (.va T::as) ρ2
def uDk(i:Nat)(t:UTa):UTa:=λρ Q=>ρ[i]?=some .dk/\t ρ λas ρ2=>Q (.dk::as) ρ2
theorem aE:UA X F [] gI:=⟨PA.imp dD λσ H QQ ⟨ρ,Q,fr,h,k⟩=>k [] [] H ρ (Stp.refl fr) .nil h⟩
theorem aD{e:Expr}{es:List Expr}{u:UT}{t:UTa}(ha:UE X F e u)(hr:UA X F es t)(h:dN e=false:=by rfl):UA X F (e::es) (hE u t):=⟨PA.imp (cT ha.pe hr.pa h) λσ H QQ ⟨ρ,Q,fr,h,k⟩=>by
 refine⟨ρ,_,fr,h,λx T H1 ρ1 s1 v1 q1=>⟨ρ1,_,s1.fr,q1,λxs as H2 ρ2 s2 p2 q2=>?_⟩⟩
 exact k _ _ _ _ (s1.trans s2) (.cons (b:=Ar.va T) (v1.hs (s2.hs s1.fr)) p2) q2⟩
theorem bW(i:Nat){x:Str}{pos:Pos}{es:List Expr}{t:UTa}(hr:UA X F es t)(hN:X.N[i]?=some x:=by rfl)(hv:Vis X.env.scope x:=by first|exact Or.inl rfl|exact Or.inr (Or.inl rfl)|exact Or.inr (Or.inr rfl))(hd:(x==("__debug__":Str))=false:=by decide)(hcd:(x==("__classdict__":Str))=false:=by decide):
  UA X F (.Name x pos::es) (uDk i t):=⟨PA.imp (cT (kF hN hv hd hcd) hr.pa rfl) λσ H QQ ⟨ρ,Q,fr,⟨e,h⟩,k⟩=>by
 obtain⟨p,c,ed,ex⟩:=fr.at_ i _ e
 refine⟨_,jK ex,ρ,_,fr,h,λxs as H2 ρ2 s2 p2 q2=>?_⟩
 exact k _ _ _ _ s2 (.cons (b:=Ar.dk) ⟨p,c,ed,rfl⟩ p2) q2⟩
def vsK:List Ar->(List Tv->Prop)->Prop
 |[],Q=>Q []
 |.va T::as,Q=>vsK as λTs=>Q (T::Ts)
 |.dk::_,_=>False
theorem iL:∀{as:List Ar}{Q:List Tv->Prop},vsK as Q->∃Ts,as=Ts.map Ar.va/\Q Ts
 |[],_,h=>⟨[],rfl,h⟩
 |.va T::as,Q,h=>by
  obtain⟨Ts,rfl,q⟩:=iL (as:=as) (Q:=λTs=>Q (T::Ts)) h
  exact⟨T::Ts,rfl,q⟩
 |.dk::_,_,h=>False.elim h
def uVs(ua:UTa):UTl:=λρ Q=>ua ρ λas ρ1=>vsK as λTs=>Q Ts ρ1
theorem iM{K:W.Frag}{dk:Option (Addr×Addr)}{H:Hp}:∀{xs:List V}{Ts:List Tv},Paired (tI K dk H) xs (Ts.map Ar.va)->VAs K H xs Ts
 |[],[],_=>.nil
 |_::_,_::_,.cons r t=>.cons r (iM t)
def zKs(ua:UTa):UT:=λρ Q=>uVs ua ρ λTs ρ1=>Ts.length<=100000/\Q (.seq true Ts) ρ1
def zKu(ua:UTa):UTl:=λρ Q=>uVs ua ρ λTs ρ1=>Ts.length<=100000/\Q Ts ρ1
theorem gR{n:Nat}(h:n<=100000):n<=sizeLine:=by rw[sizeLine_eq];omega
theorem vS{n:Nat}(h:n<100000):n<sizeLine:=by rw[sizeLine_eq];omega
theorem cA{es:List Expr}{t:UTa}{x1}(h:UA X F es t):UE X F (.Tuple es x1 pos) (zKs t):=⟨PE.imp (zID h.pa) λσ H QQ ⟨ρ,Q,fr,h,k⟩=>by
 refine⟨ρ,_,fr,h,λxs as H1 ρ1 s1 p1 q1=>?_⟩
 obtain⟨Ts,rfl,z,q⟩:=iL q1
 have p:=iM p1
 have l:xs.length=Ts.length:=Paired.length p
 refine⟨gR (by omega),λa n=>?_⟩
 have r:=Raw.tup (K:=X.K) n z p
 exact k _ _ _ _ (s1.trans (Stp.same s1.fr r.1)) (VA.seq (t:=true) (SqT.of bB) z (p.hs (gX n))) q⟩
theorem cH{es:List Expr}{t:UTa}(h:UA X F es t):UL X F (.List es pos) (zKu t):=⟨PE.imp (zCk h.pa) λσ H QQ ⟨ρ,Q,fr,h,k⟩=>by
 refine⟨ρ,_,fr,h,λxs as H1 ρ1 s1 p1 q1=>?_⟩
 obtain⟨Ts,rfl,z,q⟩:=iL q1
 have p:=iM p1
 have l:xs.length=Ts.length:=Paired.length p
 refine⟨gR (by omega),λa n=>?_⟩
 exact k _ _ _ _ _ (s1.trans (Stp.same s1.fr (cB n))) (s1.non n) bB z (p.hs (gX n)) q⟩
end
end L2
namespace L2
open PySem PySem.Spec PyProof.Rows WordM
theorem FrOk.fzn{K:W.Frag}{F:Fm}{ρ:aU}{σ:St}{H:Hp}{a:Addr}{o:HO}(fr:FrOk K F ρ σ H)(h:H a=some o)(n:fzb o=true)(h0:F.H0 a=none)(na:∀(i:Nat) (s:Sl),ρ[i]?=some s->dZ s=true->ixv σ i≠some (.ref a))(o':HO):FrOk K F ρ σ (upd H a o'):=by
 have hd:=fr.fresh_nodk h0
 have hs:HS H (upd H a o'):=gD h (by cases o<;>first|rfl|exact absurd n ql_)
 have st:∀b u,b≠a->H b=some u->upd H a o' b=some u:=λb u z e=>by rw[bK z];exact e
 refine⟨fr.d0,⟨λb u e1 n1=>st b u (λz=>by rw[z,h0]at e1;cases e1) (fr.kp.st b u e1 n1),λp c d=>?_⟩,fr.len,λj s' e'=>?_,fr.ap⟩
 ·obtain⟨ne,⟨S,k,e1⟩,ns,e2,l⟩:=fr.kp.dkk p c d
  exact⟨ne,⟨S,k,st _ _ (hd p c d).1.symm e1⟩,ns,st _ _ (hd p c d).2.symm e2,l⟩
 ·have x:=fr.at_ j s' e'
  cases s' with
  |no=>trivial
  |va T=>obtain⟨y,e1,v⟩:=x;exact⟨y,e1,v.hs hs⟩
  |own Ts=>obtain⟨b,xs,e1,e2,e3,z',p⟩:=x;exact⟨b,xs,e1,st _ _ (λy=>na j _ e' rfl (by rw[e1,y])) e2,e3,z',p.hs hs⟩
  |dct kts=>obtain⟨b,kvs,e1,e2,e3,n',z',p⟩:=x;exact⟨b,kvs,e1,st _ _ (λy=>na j _ e' rfl (by rw[e1,y])) e2,e3,n',z',p.hs hs⟩
  |dk=>exact x
theorem Stp.notown{K:W.Frag}{F:Fm}{ρ ρ1:aU}{σ:St}{H H1:Hp}{a:Addr}(s:Stp K F σ ρ H ρ1 H1)(fr:FrOk K F ρ σ H)(n:H a=none):∀(i:Nat) (s:Sl),ρ1[i]?=some s->dZ s=true->ixv σ i≠some (.ref a):=λi s' e m q=>by
 obtain⟨s0,e0,m0⟩:=s.sub i s' e m
 obtain⟨⟨o,e1,_⟩,_⟩:=fr.own_at e0 m0 q
 rw[n]at e1;cases e1
theorem Stp.put{K:W.Frag}{F:Fm}{ρ ρ1:aU}{σ:St}{H H1:Hp}{a:Addr}{o:HO}(s:Stp K F σ ρ H ρ1 H1)(fr:FrOk K F ρ σ H)(n:H a=none)(e:H1 a=some o)(m:fzb o=true)(o':HO):Stp K F σ ρ H ρ1 (upd H1 a o'):=
 ⟨s.fr.fzn e m (fr.none0 n) (s.notown fr n) o',λb u q d n1=>by rw[bK (dP q n)];exact s.st b u q d n1,s.sub,λb u q=>by rw[bK (dP q n)];exact s.tr b u q⟩
section
variable{X:Cx}{F:Fm}{e:Expr}{pos:Pos}
def uL(u:UTl):UT:=λρ Q=>u ρ λTs ρ1=>Q (.seq false Ts) ρ1
theorem bF{u:UTl}(h:UL X F e u):UE X F e (uL u):=⟨PE.imp (PE.fz h.pe) λσ H QQ ⟨ρ,Q,fr,h,k⟩=>⟨ρ,_,fr,h,λa xs Ts H' ρ' s n e z p q=>
 .inr ⟨a,_,rfl,e,rfl,λob=>k _ _ _ _ (s.put fr n e rfl (.frz ob (.lst xs))) (VA.seq (t:=false) ⟨ob,bB⟩ z (p.hs (gD e rfl))) q⟩⟩⟩
def zDh(K:W.Frag)(r:Pn)(r':List V->Hp->VK->Prop):Prop:=∀xs Ts H Q (QQ:VK),VAs K H xs Ts->r Ts Q->(∀z W H',Raw K H H' z W->Q W->QQ z H')->r' xs H QQ
def gY(X:Cx)(f:Value)(r:Pn):Prop:=∃r',CallR X f r'/\zDh X.K r r'
def uCB(r:Pn)(ua:UTa):UT:=λρ Q=>uVs ua ρ λTs ρ1=>r Ts λW=>Q W ρ1
theorem zBP{r:Pn}{r':List V->Hp->VK->Prop}{ua:UTa}(hr:zDh X.K r r')(σ:St)(H:Hp)(QQ:VK)(h:gH X.K F (uCB r ua) σ H QQ):tFz (tCB r' (rY X.K F ua)) σ H QQ:=by
 obtain⟨ρ,Q,fr,h,k⟩:=h
 refine⟨ρ,_,fr,h,λxs as H1 ρ1 s1 p1 q1=>?_⟩
 obtain⟨Ts,rfl,q⟩:=iL q1
 exact hr xs Ts H1 _ _ (iM p1) q λz W H' rw q=>rw.fin s1.fr λH'' s3 v3=>k _ _ _ _ (s1.trans s3) v3 q
variable{es:List Expr}{x:Str}{p:Pos}{ua:UTa}
theorem bE{id:String}{r:Pn}(hc:gY X (.builtin id) r)(hg:Gl X x)(hm:X.mg x=none)(hv:bootBuiltins x=some (.builtin id))(ha:UA X F (e::es) ua)(hn:x≠"__name__":=by decide)(hdb:(x==("__debug__":Str))=false:=by decide)
  (he:starEach (e::es) X.env=(false,eval e X.env)::starEach es X.env:=by rfl) (hpl:(backTo pos (starEach es X.env)).any (·.1)=false:=by rfl):UE X F (.Call (.Name x p) (e::es) [] pos) (uCB r ua):=by
 obtain⟨r',o,hr⟩:=hc
 exact⟨PE.imp (PE.fz (iE o hg hm hv ha.pa hn hdb he hpl)) (zBP hr)⟩
theorem fK{id:String}{r:Pn}(hc:gY X (.type id) r)(hg:Gl X x)(hm:X.mg x=none)(hv:bootBuiltins x=some (.type id))(ha:UA X F (e::es) ua)(hn:x≠"__name__":=by decide)(hdb:(x==("__debug__":Str))=false:=by decide)
  (he:starEach (e::es) X.env=(false,eval e X.env)::starEach es X.env:=by rfl) (hpl:(backTo pos (starEach es X.env)).any (·.1)=false:=by rfl):UE X F (.Call (.Name x p) (e::es) [] pos) (uCB r ua):=by
 obtain⟨r',o,hr⟩:=hc
 exact⟨PE.imp (PE.fz (gA o hg hm hv ha.pa hn hdb he hpl)) (zBP hr)⟩
def zDi(K:W.Frag)(r:List Tv->(List Tv->Prop)->Prop)(r':List V->Hp->VK->Prop):Prop:=∀xs Ts H Q (QQ:VK),VAs K H xs Ts->r Ts Q->(∀a ys Us H',Same H H'->H a=none->H' a=some (.lst ys)->Us.length<=100000->VAs K H' ys Us->Q Us->QQ (.ref a) H')->r' xs H QQ
def nW(X:Cx)(f:Value)(r:List Tv->(List Tv->Prop)->Prop):Prop:=∃r',CallR X f r'/\zDi X.K r r'
def uCL(r:List Tv->(List Tv->Prop)->Prop)(ua:UTa):UTl:=λρ Q=>uVs ua ρ λTs ρ1=>r Ts λUs=>Q Us ρ1
theorem zBO{r:List Tv->(List Tv->Prop)->Prop}{r':List V->Hp->VK->Prop}{ua:UTa}(hr:zDi X.K r r')(σ:St)(H:Hp)(QQ:VK)(h:rX X.K F (uCL r ua) σ H QQ):tCB r' (rY X.K F ua) σ H QQ:=by
 obtain⟨ρ,Q,fr,h,k⟩:=h
 refine⟨ρ,_,fr,h,λxs as H1 ρ1 s1 p1 q1=>?_⟩
 obtain⟨Ts,rfl,q⟩:=iL q1
 exact hr xs Ts H1 _ _ (iM p1) q λa ys Us H' sm n e z p q=>k _ _ _ _ _ (s1.trans (Stp.same s1.fr sm)) (s1.non n) e z p q
theorem uN{id:String}{r:List Tv->(List Tv->Prop)->Prop}(hc:nW X (.builtin id) r)(hg:Gl X x)(hm:X.mg x=none)(hv:bootBuiltins x=some (.builtin id))(ha:UA X F (e::es) ua)(hn:x≠"__name__":=by decide)(hdb:(x==("__debug__":Str))=false:=by decide)
  (he:starEach (e::es) X.env=(false,eval e X.env)::starEach es X.env:=by rfl) (hpl:(backTo pos (starEach es X.env)).any (·.1)=false:=by rfl):UL X F (.Call (.Name x p) (e::es) [] pos) (uCL r ua):=by
 obtain⟨r',o,hr⟩:=hc
 exact⟨PE.imp (iE o hg hm hv ha.pa hn hdb he hpl) (zBO hr)⟩
theorem pX{id:String}{r:List Tv->(List Tv->Prop)->Prop}(hc:nW X (.type id) r)(hg:Gl X x)(hm:X.mg x=none)(hv:bootBuiltins x=some (.type id))(ha:UA X F (e::es) ua)(hn:x≠"__name__":=by decide)(hdb:(x==("__debug__":Str))=false:=by decide)
  (he:starEach (e::es) X.env=(false,eval e X.env)::starEach es X.env:=by rfl) (hpl:(backTo pos (starEach es X.env)).any (·.1)=false:=by rfl):UL X F (.Call (.Name x p) (e::es) [] pos) (uCL r ua):=by
 obtain⟨r',o,hr⟩:=hc
 exact⟨PE.imp (gA o hg hm hv ha.pa hn hdb he hpl) (zBO hr)⟩
abbrev PSp:=List Ar->(Tv->Prop)->Prop
def wU(K:W.Frag)(psp:PSp):Sp:=λvs H Q _=>∃dk as R,(∀p c,dk=some (p,c)->DeckAt H p c)/\Paired (tI K dk H) vs as/\psp as R/\∀x T H',Kp dk H H'->VA K H' x T->R T->Q x H'
def PGood(P:Program)(w:World)(K:W.Frag)(mg:Str->Option Value)(base:Heap)(k:Nat)(x:Str)(ps:List Str)(psp:PSp):Prop:=Good P w K mg base k x ps (wU K psp)
theorem PGood.imp{P:Program}{w:World}{K:W.Frag}{mg:Str->Option Value}{base:Heap}{k:Nat}{ps:List Str}{psp psp':PSp}(G:PGood P w K mg base k x ps psp)(h:∀as R,psp' as R->psp as R):PGood P w K mg base k x ps psp':=
 Good.imp G λvs H Q E ⟨dk,as,R,d,p,q,r⟩=>⟨dk,as,R,d,p,h as R q,r⟩
theorem PGood.mono{P:Program}{w:World}{K:W.Frag}{mg:Str->Option Value}{base:Heap}{j k:Nat}{ps:List Str}{psp:PSp}(G:PGood P w K mg base j x ps psp)(h:j<=k):PGood P w K mg base k x ps psp:=Good.mono G h
def kK(psp:PSp)(ua:UTa):UT:=λρ Q=>ua ρ λas ρ1=>psp as λW=>Q W ρ1
theorem zET{psp:PSp}{ua:UTa}(σ:St)(H:Hp)(QQ:VK)(h:gH X.K F (kK psp ua) σ H QQ):oO (wU X.K psp) [] E0 (rY X.K F ua) σ H QQ:=by
 obtain⟨ρ,Q,fr,h,k⟩:=h
 refine⟨ρ,_,fr,h,λxs as H1 ρ1 s1 p1 q1=>?_⟩
 show wU X.K psp (xs++[]) H1 QQ E0
 rw[qQ_]
 exact⟨F.dk,as,_,s1.fr.kp.dkk,p1,q1,λz W H' kp v q=>k _ _ _ _ (s1.trans (Stp.call s1.fr kp)) v q⟩
theorem zJu{k:Nat}{ps:List Str}{psp:PSp}(G:PGood X.prog X.w X.K X.mg X.base k x ps psp)(hr:Room k X.A)(hg:Gl X x)(ha:UA X F (e::es) ua)(hdb:(x==("__debug__":Str))=false:=by decide)
  (hst:dN e=false:=by rfl) (hpl:(backTo pos (starEach es X.env)).any (·.1)=false:=by rfl):UE X F (.Call (.Name x p) (e::es) [] pos) (kK psp ua):=
 ⟨PE.imp (rV G hr hg ha.pa hdb hst hpl) zET⟩
theorem zB9{k:Nat}{ps:List Str}{psp:PSp}(G:PGood X.prog X.w X.K X.mg X.base k x ps psp)(hr:Room k X.A)(hg:Gl X x)(hdb:(x==("__debug__":Str))=false:=by decide):UE X F (.Call (.Name x p) [] [] pos) (kK psp gI):=
 ⟨PE.imp (zII G hr hg hdb) λσ H QQ ⟨ρ,Q,fr,h,k⟩=>⟨F.dk,[],_,fr.kp.dkk,.nil,h,λz W H' kp v q=>k _ _ _ _ (Stp.call fr kp) v q⟩⟩
def zDj(X:Cx)(r:P2):Prop:=∃r',IxR X r'/\tG X.K r r'
variable{a b:Expr}{va vb:UT}
theorem zJt{r:P2}(ho:zDj X r)(ha:UE X F a va)(hb:UE X F b vb)(hs:rB b:=by intro _ _;rfl):UE X F (.Subscript a b pos) (uOp r va vb):=by
 obtain⟨r',o,hr⟩:=ho
 exact⟨PE.imp (PE.fz (iX o ha.pe hb.pe hs)) (vT hr)⟩
abbrev UTo:=aU->(Option Int->aU->Prop)->Prop
def zJ8(K:W.Frag)(F:Fm)(u:UTo):TO:=λσ H QQ=>∃ρ Q,FrOk K F ρ σ H/\u ρ Q/\∀o H' ρ',Stp K F σ ρ H ρ' H'->Q o ρ'->QQ o H'
structure UO (X:Cx) (F:Fm) (e:Option Expr) (u:UTo):Prop where
 po:PO X e (zJ8 X.K F u)
theorem PO.imp{e:Option Expr}{t t':TO}(h:PO X e t)(i:∀σ H Q,t' σ H Q->t σ H Q):PO X e t':=λpins s σ H Q I q=>h pins s σ H Q I (i σ H Q q)
def uoN:UTo:=λρ Q=>Q none ρ
def uoS(u:UT):UTo:=λρ Q=>u ρ λT ρ1=>∃i,T=iT i/\Q (some i) ρ1
theorem iH:UO X F none uoN:=⟨PO.imp zBD λσ H QQ ⟨ρ,Q,fr,h,k⟩=>k _ _ _ (Stp.refl fr) h⟩
theorem iG{u:UT}(h:UE X F e u):UO X F (some e) (uoS u):=⟨PO.imp (zBC h.pe) λσ H QQ ⟨ρ,Q,fr,h,k⟩=>⟨ρ,_,fr,h,λx T H1 ρ1 s1 v1 q1=>by
 obtain⟨i,rfl,q⟩:=q1
 exact⟨i,v1.leafI.1,k _ _ _ s1 q⟩⟩⟩
abbrev PSl:=Tv->Option Int->Option Int->(Tv->Prop)->Prop
def zDg(X:Cx)(r:PSl):Prop:=∃r',SlR X r'/\∀x T lo hi H Q (QQ:VK),VA X.K H x T->r T lo hi Q->(∀z W H',Raw X.K H H' z W->Q W->QQ z H')->r' x lo hi H QQ
def uSl(r:PSl)(u:UT)(lo hi:UTo):UT:=λρ Q=>u ρ λT ρ1=>lo ρ1 λl ρ2=>hi ρ2 λh ρ3=>r T l h λW=>Q W ρ3
theorem iD{r:PSl}{lo hi:Option Expr}{ul uh:UTo}{p2:Pos}(ho:zDg X r)(ha:UE X F a va)(hl:UO X F lo ul)(hh:UO X F hi uh):UE X F (.Subscript a (.Slice lo hi none p2) pos) (uSl r va ul uh):=by
 obtain⟨r',o,hr⟩:=ho
 refine⟨PE.imp (PE.fz (zAS o ha.pe hl.po hh.po)) ?_⟩
 rintro σ H QQ ⟨ρ,Q,fr,h,k⟩
 refine⟨ρ,_,fr,h,λx T H1 ρ1 s1 v1 q1=>⟨ρ1,_,s1.fr,q1,λl H2 ρ2 s2 q2=>⟨ρ2,_,s2.fr,q2,λu H3 ρ3 s3 q3=>?_⟩⟩⟩
 exact hr x T l u H3 _ _ ((v1.hs (s2.hs s1.fr)).hs (s3.hs s2.fr)) q3 λz W H' rw q=>rw.fin s3.fr λH'' s4 v4=>k _ _ _ _ ((s1.trans s2).trans (s3.trans s4)) v4 q
end
structure PEnds where
 nx:aU->Prop
 rt:Tv->Prop
 bk:aU->Prop:=λ_=>False
 ct:aU->Prop:=λ_=>False
abbrev UTs:=PEnds->aU->Prop
def mG(K:W.Frag)(F:Fm)(u:UTs):TS:=λD σ H=>∃ρ P,FrOk K F ρ σ H/\u P ρ/\(∀σ' H' ρ',FrOk K F ρ' σ' H'->HS H H'->P.nx ρ'->D.nx σ' H')/\(∀x T H',Kp F.dk F.H0 H'->VA K H' x T->P.rt T->D.rt x H') /\
 (∀σ' H' ρ',FrOk K F ρ' σ' H'->HS H H'->P.bk ρ'->D.bk σ' H')/\∀σ' H' ρ',FrOk K F ρ' σ' H'->HS H H'->P.ct ρ'->D.ct σ' H'
structure US (X:Cx) (F:Fm) (st:Stmt) (u:UTs):Prop where
 ps:PS X st (mG X.K F u)
structure USs (X:Cx) (F:Fm) (st:List Stmt) (u:UTs):Prop where
 ps:PSs X st (mG X.K F u)
theorem PS.imp{X:Cx}{st:Stmt}{t t':TS}(h:PS X st t)(i:∀D σ H,t' D σ H->t D σ H):PS X st t':=λpins s σ H D I q=>h pins s σ H D I (i D σ H q)
theorem PSs.imp{X:Cx}{st:List Stmt}{t t':TS}(h:PSs X st t)(i:∀D σ H,t' D σ H->t D σ H):PSs X st t':=λpins s σ H D I q=>h pins s σ H D I (i D σ H q)
section
variable{X:Cx}{F:Fm}{e:Expr}{pos:Pos}{st:Stmt}{rest:List Stmt}{u:UT}
def sI:UTs:=λP ρ=>P.nx ρ
def sF(s t:UTs):UTs:=λP ρ=>s {P with nx:=λρ'=>t P ρ'} ρ
theorem bC:USs X F [] sI:=⟨PSs.imp vQ λD σ H ⟨ρ,P,fr,h,k1,_⟩=>k1 σ H ρ fr (HS.refl _) h⟩
theorem aJ{s:UTs}(h:US X F st s):USs X F [st] s:=⟨lN h.ps⟩
theorem aI{s t:UTs}(h:US X F st s)(hr:USs X F rest t):USs X F (st::rest) (sF s t):=⟨PSs.imp (gM h.ps hr.ps) λD σ H ⟨ρ,P,fr,h,k1,k2,k3,k4⟩=>by
 refine⟨ρ,_,fr,h,λσ' H' ρ' fr' hs q=>?_,k2,k3,k4⟩
 exact⟨ρ',P,fr',q,λσ2 H2 ρ2 f2 h2 q2=>k1 _ _ _ f2 (hs.trans h2) q2,k2,λσ2 H2 ρ2 f2 h2 q2=>k3 _ _ _ f2 (hs.trans h2) q2,λσ2 H2 ρ2 f2 h2 q2=>k4 _ _ _ f2 (hs.trans h2) q2⟩⟩
def sG(u:UT):UTs:=λP ρ=>u ρ λT _=>P.rt T
theorem aQ(h:UE X F e u):US X F (.Return (some e) pos) (sG u):=⟨PS.imp (lX h.pe) λD σ H ⟨ρ,P,fr,h,_,k2,_⟩=>⟨ρ,_,fr,h,λx T H' ρ' s v q=>k2 x T H' s.fr.kp v q⟩⟩
def sIf(t:UTt)(s r:UTs):UTs:=λP ρ=>t ρ λb ρ1=>if b=true then s P ρ1 else r P ρ1
theorem bD{c:Expr}{a b:List Stmt}{t:UTt}{s r:UTs}(hc:UB X F c t)(ha:USs X F a s)(hb:USs X F b r):US X F (.If c a b pos) (sIf t s r):=⟨PS.imp (wT hc.pt ha.ps hb.ps) λD σ H ⟨ρ,P,fr,h,k1,k2,k3,k4⟩=>by
 refine⟨ρ,_,fr,h,λb H1 ρ1 s1 q1=>?_⟩
 have hs:=s1.hs fr
 have fin:∀{v:UTs},v P ρ1->mG X.K F v D σ H1:=λq=>⟨ρ1,P,s1.fr,q,λσ2 H2 ρ2 f2 h2 q2=>k1 _ _ _ f2 (hs.trans h2) q2,k2,λσ2 H2 ρ2 f2 h2 q2=>k3 _ _ _ f2 (hs.trans h2) q2,λσ2 H2 ρ2 f2 h2 q2=>k4 _ _ _ f2 (hs.trans h2) q2⟩
 cases b with
 |true=>exact bX (fin (by rw[if_pos rfl]at q1;exact q1))
 |false=>exact aR (fin (by rw[if_neg ql_]at q1;exact q1))⟩
def wQ(u:UT):UTs:=λP ρ=>u ρ λ_ ρ1=>P.nx ρ1
theorem eO(h:UE X F e u)(hs:swapsWith e none pos.line X.env=pure false:=by rfl):US X F (.Expr e pos) (wQ u):=⟨PS.imp (zBB h.pe hs) λD σ H ⟨ρ,P,fr,h,k1,_⟩=>⟨ρ,_,fr,h,λx T H' ρ' s v q=>k1 _ _ _ s.fr (s.hs fr) q⟩⟩
theorem FrOk.set{K:W.Frag}{ρ:aU}{σ:St}{H:Hp}{i:Nat}{s:Sl}{x:V}(fr:FrOk K F ρ σ H)(v:i<ρ.length->yB K F H (some x) s)(na:dZ s=true->∀a,x=.ref a->∀(j:Nat) (t:Sl),ρ[j]?=some t->dZ t=true->ixv σ j≠some (.ref a)):FrOk K F (ρ.set i s) (σ.set i (some x)) H:=by
 have ne:∀j,i≠j->ixv (σ.set i (some x)) j=ixv σ j:=λj z=>by unfold ixv;rw[qm1_ z]
 have self:∀(h:i<ρ.length),ixv (σ.set i (some x)) i=some x:=λh=>by unfold ixv;rw[qj1_ (by rw[<-fr.len];exact h)];rfl
 have get:∀(j:Nat) (t:Sl),(ρ.set i s)[j]?=some t->(i=j/\i<ρ.length/\t=s)\/(i≠j/\ρ[j]?=some t):=λj t e=>by
  by_cases z:i=j
  ·subst z
   have hi:i<ρ.length:=by
    have:=(qx_.mp e).1
    rwa[qv1_]at this
   rw[qj1_ hi]at e
   exact .inl ⟨rfl,hi,(Option.some.inj e).symm⟩
  ·rw[qm1_ z]at e;exact .inr ⟨z,e⟩
 refine⟨fr.d0,fr.kp,by rw[qv1_,qv1_];exact fr.len,λj t e=>?_,λj k a t t' e1 e2 m1 m2 q1 q2=>?_⟩
 ·rcases get j t e with⟨rfl,hi,rfl⟩|⟨z,e⟩
  ·rw[self hi];exact v hi
  ·rw[ne j z];exact fr.at_ j t e
 ·rcases get j t e1 with⟨rfl,hi,rfl⟩|⟨z1,e1⟩
  ·rcases get k t' e2 with⟨rfl,_,rfl⟩|⟨z2,e2⟩
   ·rfl
   ·rw[self hi]at q1
    rw[ne k z2]at q2
    exact absurd q2 (na m1 a (Option.some.inj q1) k t' e2 m2)
  ·rcases get k t' e2 with⟨rfl,hi,rfl⟩|⟨z2,e2⟩
   ·rw[self hi]at q2
    rw[ne j z1]at q1
    exact absurd q1 (na m2 a (Option.some.inj q2) j t (by first|exact e1|assumption) m1)
   ·rw[ne j z1]at q1
    rw[ne k z2]at q2
    exact fr.ap j k a t t' e1 e2 m1 m2 q1 q2
def sE(i:Nat)(u:UT):UTs:=λP ρ=>u ρ λT ρ1=>P.nx (ρ1.set i (.va T))
theorem zHO{i:Nat}{x:Str}{pos':Pos}(hN:X.N.Nodup)(hi:X.N[i]?=some x)(hx:Loc X.env.scope x)(he:UE X F e u)(hs:swapsWith e (some (.Name x pos')) pos.line X.env=pure false:=by rfl)(hf:X.fn x=true\/X.env.scope.names.lookup x=some .local:=by first|exact .inl rfl|exact .inr rfl|assumption):
  US X F (.Assign [.Name x pos'] e pos) (sE i u):=⟨PS.imp (jO hN hi hx he.pe hs hf) λD σ H ⟨ρ,P,fr,h,k1,_⟩=>by
 refine⟨ρ,_,fr,h,λx T H' ρ' s v q=>?_⟩
 exact k1 _ _ _ (s.fr.set (s:=.va T) (λ_=>⟨x,rfl,v⟩) (λz=>absurd z ql_)) (s.hs fr) q⟩
def sH(i:Nat)(u:UTl):UTs:=λP ρ=>u ρ λTs ρ1=>P.nx (ρ1.set i (.own Ts))
theorem zA1{i:Nat}{u:UTl}{t:TE}(ht:∀σ H QQ,rX X.K F u σ H QQ->t σ H QQ)(D:kU)(σ:St)(H:Hp)(h:mG X.K F (sH i u) D σ H):sC t (rZ i) D σ H:=by
 obtain⟨ρ,P,fr,h,k1,_⟩:=h
 refine ht σ H _ ⟨ρ,_,fr,h,λa xs Ts H' ρ' s n e z p q=>?_⟩
 exact k1 _ _ _ (s.fr.set (s:=.own Ts) (λ_=>⟨a,xs,rfl,e,fr.none0 n,z,p⟩) (λ_ b eb j t ej mj qj=>by cases eb;exact s.notown fr n j t ej mj qj)) (s.hs fr) q
theorem zHQ{i:Nat}{x:Str}{u:UTl}{pos':Pos}(hN:X.N.Nodup)(hi:X.N[i]?=some x)(hx:Loc X.env.scope x)(he:UL X F e u)(hs:swapsWith e (some (.Name x pos')) pos.line X.env=pure false:=by rfl)(hf:X.fn x=true\/X.env.scope.names.lookup x=some .local:=by first|exact .inl rfl|exact .inr rfl|assumption):
  US X F (.Assign [.Name x pos'] e pos) (sH i u):=⟨PS.imp (jO hN hi hx he.pe hs hf) (zA1 λ_ _ _ h=>h)⟩
end
def zLK:Ar->Sl
 |.va T=>.va T
 |.dk=>.dk
def lV(n:Nat)(as:List Ar):aU:=as.map zLK++List.replicate (n-as.length) .no
theorem zGe{K:W.Frag}{H:Hp}{dk:Option (Addr×Addr)}{N:List Str}{vs:List V}{as:List Ar}(hd:∀p c,dk=some (p,c)->DeckAt H p c)(p:Paired (tI K dk H) vs as):FrOk K ⟨H,dk⟩ (lV N.length as) (dY N vs) H:=by
 have l:vs.length=as.length:=Paired.length p
 refine⟨hd,⟨λ_ _ e _=>e,hd⟩,?_,λi s e=>?_,λi j a s t e _ m _ _ _=>?_⟩
 ·unfold lV dY
  rw[qj_,qj_,qc_,qc_,qe2_,qe2_,l]
 ·unfold lV at e
  by_cases hi:i<as.length
  ·rw[qI1_ (by simpa using hi),qv_]at e
   obtain⟨r,er,rfl⟩:=qg1_.mp e
   have hv:i<vs.length:=by omega
   obtain⟨r',er',h⟩:=eY p (qk_ hv)
   rw[er]at er';cases er'
   have ex:ixv (dY N vs) i=some vs[i]:=by
    refine zI7 ?_
    unfold dY
    rw[qI1_ (by simpa using hv),qv_,qk_ hv]
    rfl
   rw[ex]
   cases r with
   |va T=>exact⟨_,rfl,h⟩
   |dk=>obtain⟨p,c,e1,e2⟩:=h;exact⟨p,c,e1,by rw[e2]⟩
  ·rw[qH1_ (by simpa using hi),qd2_]at e
   split at e
   ·cases e;trivial
   ·cases e
 ·unfold lV at e
  by_cases hi:i<as.length
  ·rw[qI1_ (by simpa using hi),qv_]at e
   obtain⟨r,er,rfl⟩:=qg1_.mp e
   cases r<;>cases m
  ·rw[qH1_ (by simpa using hi),qd2_]at e
   split at e
   ·cases e;cases m
   ·cases e
theorem Has.pgood{P:Program}{w:World}{K:W.Frag}{mg:Str->Option Value}{base:Heap}{x:Str}{st:Stmt}{N ps:List Str}{k:Nat}{psp:PSp}{us:UTs}(h:Has K mg x st)(S:bA N ps (aN st))
  (hb:∀(kV doc pm:Value) (an:Option Addr) (cdv ct:Value) (us:List Value),us.length=ps.length->bindArgs (W.fnOf x x (gU st) (eZ st) (aN st) .none kV doc pm an cdv ct) ⟨us,[]⟩=pure (ps.zip us))
  (hbody:∀(f:Addr) (cdv:Value) (A:Around) (outer:List Env) (s:Shared) (H:Hp) (E:XK) (F:Fm),Room k (A.deeper (envOfC x (aN st) s.heap.objs.size f cdv))->USs (jU CX0 P w K mg base N x (aN st) f cdv A outer s H E).nox F (eZ st) us)
  (hp:∀as R,psp as R->as.length=ps.length/\us {nx:=λ_=>R nT,rt:=R} (lV N.length as)):PGood P w K mg base (k+1) x ps psp:=by
 refine h.good S hb (λvs H Q E q=>?_) (λf cdv A outer s H vs Q E hr q=>?_)
 ·obtain⟨dk,as,R,d,p,q,_⟩:=q
  rw[Paired.length p]
  exact(hp as R q).1
 ·obtain⟨dk,as,R,d,p,q,k⟩:=q
  refine⟨_,(hbody f cdv A outer s H E ⟨H,dk⟩ hr).ps,lV N.length as,_,zGe d p,(hp as R q).2,λσ' H' ρ' fr _ q=>k _ _ _ fr.kp (.flat rfl) q,λx T H' kp v q=>k x T H' kp v q,λ_ _ _ _ _ z=>z,λ_ _ _ _ _ z=>z⟩
end L2
namespace L2
open PySem PySem.Spec PyProof.Rows WordM
def kT(K:W.Frag)(J:It)(H:Hp)(Ts:List Tv):Prop:=∀H1,HS H H1->(∀i,i<Ts.length->J.go i H1)/\(∀i x H2,i<Ts.length->J.yld i H1 x H2->Same H1 H2/\∃T,Ts[i]?=some T/\VA K H2 x T)/\J.stop Ts.length H1
def zCM(K:W.Frag)(F:Fm)(u:UTl):TI:=λσ H R=>∃ρ Q,FrOk K F ρ σ H/\u ρ Q/\∀J Ts H' ρ',Stp K F σ ρ H ρ' H'->kT K J H' Ts->Q Ts ρ'->R J H'
structure UI (X:Cx) (F:Fm) (tg e:Expr) (u:UTl):Prop where
 pi:PI X tg e (zCM X.K F u)
theorem PI.imp{X:Cx}{tg e:Expr}{t t':TI}(h:PI X tg e t)(i:∀σ H Q,t' σ H Q->t σ H Q):PI X tg e t':=λpins s σ H Q I q=>h pins s σ H Q I (i σ H Q q)
def ItR(X:Cx)(tg:Expr)(r:V->Hp->(It->Hp->Prop)->Prop):Prop:=∀(pins:List (Addr×Obj)) (s:Shared) (σ:St) (H:Hp) (x:V) (v:Value) (R:It->Hp->Prop),Inv X pins σ H s->RelV x v->r x H R->wpAny (model X.prog X.w) X.A (pyIter v) (PIE X pins σ tg R) X.xe s
section
variable{X:Cx}{F:Fm}{tg e:Expr}
theorem ItR.or{r r':V->Hp->(It->Hp->Prop)->Prop}(h:ItR X tg r)(h':ItR X tg r'):ItR X tg (λx H R=>r x H R\/r' x H R):=λpins s σ H x v R I rx q=>by
 rcases q with q|q
 ·exact h pins s σ H x v R I rx q
 ·exact h' pins s σ H x v R I rx q
theorem oK{pins:List (Addr×Obj)}{σ:St}{H:Hp}{s:Shared}(I:Inv X pins σ H s):∀b∈[s.heap.objs.size],eX X pins H b:=λb hb=>by
 rw[qa1_.mp hb]
 exact I.fpOk (qe_ _) (I.hok.fresh (qe_ _))
theorem it_list:ItR X tg (λx H R=>∃a xs,x=.ref a/\SqL X.K H a xs/\R (Itl X.K a) H):=by
 rintro pins s σ H _ v R I r ⟨a,xs,rfl,hq,q⟩
 cases r
 obtain⟨its,rv,p,hz⟩:=I.list hq
 exact wpAny_pyIter_list p.isList ⟨_,[s.heap.objs.size],_,_,H,rfl,I.kept (t':=s.toks) λb o=>qd_ _,zEt a _,⟨_,qi_ _ rfl,rfl,rfl⟩,oK I,q⟩
theorem it_tup:ItR X tg (λx H R=>∃a xs,x=.ref a/\SqT X.K H a xs/\R (Itt X.K a) H):=by
 rintro pins s σ H _ v R I r ⟨a,xs,rfl,hq,q⟩
 cases r
 obtain⟨its,rv,p,hz⟩:=I.tuple hq
 exact wpAny_pyIter_tuple (show s.heap.IsTuple a its.toArray from p) ⟨_,[s.heap.objs.size],_,_,H,rfl,I.kept (t':=s.toks) λb o=>qd_ _,zDW a _,⟨_,qi_ _ rfl,rfl,rfl⟩,oK I,q⟩
theorem it_str:ItR X tg (λx H R=>∃z,x=.str z/\R (Its z) H):=by
 rintro pins s σ H _ v R I r ⟨z,rfl,q⟩
 obtain⟨t,rfl⟩:=r
 cases ha:z.cps.all (· < 128) with
 |true=>exact wpAny_pyIter_ascii ha ⟨_,[s.heap.objs.size],_,_,H,rfl,I.kept (t':=s.toks) λb o=>qd_ _,zEs _ z t,⟨_,qi_ _ rfl,rfl,rfl⟩,oK I,q⟩
 |false=>exact wpAny_pyIter_wide ha ⟨_,[s.heap.objs.size],_,_,H,rfl,I.kept (t':=s.toks) λb o=>qd_ _,zEr _ z t,⟨_,qi_ _ rfl,rfl,rfl⟩,oK I,q⟩
theorem zHp:ItR X tg (λx H R=>∃a ob kvs,x=.ref a/\FzD H a ob kvs/\R (ItD a ob kvs) H):=by
 rintro pins s σ H _ v R I r ⟨a,ob,kvs,rfl,hz,q⟩
 cases r
 obtain⟨e,hs,hl,vs,es,ep,r,dd,hd⟩:=jN I hz
 exact wpAny_pyIter_dict hs dd ⟨_,[s.heap.objs.size],_,_,H,rfl,I.kept (t':=s.toks) λb o=>qd_ _,zEu (a:=a) (ob:=ob) (kvs:=kvs) hd,⟨_,qi_ _ rfl,rfl,by rw[<-kH r];rfl⟩,oK I,q⟩
def pIt:Tv->(List Tv->Prop)->Prop
 |.seq _ Ts,Q=>Q Ts
 |.leaf (.str z),Q=>Q (z.cps.toList.map λc=>sT ⟨#[c]⟩)
 |.dct kts,Q=>Q (kts.map λkt=>sT kt.1)
 |_,_=>False
theorem cP{K:W.Frag}{H:Hp}{a:Addr}{xs:List V}(h:PSeq K H false a xs):SqL K H a xs:=by
 obtain⟨ob,h⟩:=h
 exact .inl (.inr ⟨ob,h⟩)
theorem zHq{K:W.Frag}{H:Hp}{a:Addr}{xs:List V}{Ts:List Tv}(h:PSeq K H false a xs)(p:VAs K H xs Ts):kT K (Itl K a) H Ts:=λH1 hs=>by
 have l:xs.length=Ts.length:=Paired.length p
 have q:=cP (h.hs hs)
 refine⟨λi hi=>⟨xs,xs[i]'(by omega),q,qk_ _⟩,λi x H2 hi ⟨e,y⟩=>?_,⟨xs,q,by omega⟩⟩
 subst e
 obtain⟨T,eT,v⟩:=eY (p.hs hs) (y xs q)
 exact⟨Same.refl _,T,eT,v⟩
theorem zJa{K:W.Frag}{H:Hp}{a:Addr}{xs:List V}{Ts:List Tv}(h:PSeq K H true a xs)(p:VAs K H xs Ts):kT K (Itt K a) H Ts:=λH1 hs=>by
 have l:xs.length=Ts.length:=Paired.length p
 have q:SqT K H1 a xs:=h.hs hs
 refine⟨λi hi=>⟨xs,xs[i]'(by omega),q,qk_ _⟩,λi x H2 hi ⟨e,y⟩=>?_,⟨xs,q,by omega⟩⟩
 subst e
 obtain⟨T,eT,v⟩:=eY (p.hs hs) (y xs q)
 exact⟨Same.refl _,T,eT,v⟩
theorem zJb{K:W.Frag}{H:Hp}{z:Str}:kT K (Its z) H (z.cps.toList.map λc=>sT ⟨#[c]⟩):=λH1 hs=>by
 refine⟨λi hi=>(show i<z.cps.size by simpa using hi),λi x H2 hi ⟨e,c,ec,ex⟩=>?_,by simp[Its]⟩
 subst e ex
 refine⟨Same.refl _,sT ⟨#[c]⟩,?_,.flat rfl⟩
 rw[qv_,qr_,ec]
 rfl
theorem zHr{K:W.Frag}{H:Hp}{a:Addr}{ob:Obj}{kvs:List (Key×V)}{kts:List (Str×Tv)}(h:FzD H a ob kvs)(p:VAk K H kvs kts):kT K (ItD a ob kvs) H (kts.map λkt=>sT kt.1):=λH1 hs=>by
 have l:kvs.length=kts.length:=Paired.length p
 have q:FzD H1 a ob kvs:=hs _ _ rfl h
 refine⟨λi hi=>⟨q,by rw[qc_]at hi;omega⟩,λi x H2 hi ⟨e,k,v,ek,ex⟩=>?_,⟨q,by rw[qc_];omega⟩⟩
 subst e ex
 obtain⟨kt,ekt,e1,_⟩:=eY p ek
 refine⟨Same.refl _,sT kt.1,by rw[qv_,ekt];rfl,?_⟩
 have e1:k=.inr kt.1:=e1
 rw[e1]
 exact .flat rfl
def uIt(u:UT):UTl:=λρ Q=>u ρ λT ρ1=>pIt T λTs=>Q Ts ρ1
theorem bY{u:UT}(h:UE X F e u):UI X F tg e (uIt u):=⟨λpins s σ H R I ⟨ρ,Q,fr,hu,k⟩=>by
 have IT:ItR X tg _:=it_list.or (it_tup.or (it_str.or zHp))
 refine thn (h.pe pins s σ H (λx H1=>_) I ⟨ρ,_,fr,hu,λx T H' ρ' s v q=>?_⟩) λv s1 ⟨x,H1,I1,r1,q1⟩=>IT pins s1 σ H1 x v R I1 r1 q1
 unfold pIt at q
 split at q
 ·rename_i t Ts
  obtain⟨a,xs,rfl,hs,z,p⟩:=v.seqI
  cases t with
  |false=>exact .inl ⟨a,xs,rfl,cP hs,k _ _ _ _ s (zHq hs p) q⟩
  |true=>exact .inr (.inl ⟨a,xs,rfl,hs,k _ _ _ _ s (zJa hs p) q⟩)
 ·obtain⟨rfl,_⟩:=v.leafI
  exact .inr (.inr (.inl ⟨_,rfl,k _ _ _ _ s zJb q⟩))
 ·obtain⟨a,kvs,rfl,⟨ob,hd⟩,n,z,p⟩:=v.dctI
  exact .inr (.inr (.inr ⟨a,ob,kvs,rfl,hd,k _ _ _ _ s (zHr hd p) q⟩))
 ·exact False.elim q⟩
def jA(lo:Int)(n:Nat):List Tv:=(List.range n).map λ(i:Nat)=>iT (lo+i)
theorem kB(lo:Int)(n:Nat):(jA lo n).length=n:=by simp[jA]
theorem nF{lo:Int}{n i:Nat}{T:Tv}(h:(jA lo n)[i]?=some T):i<n/\T=iT (lo+i):=by
 have l:=(qx_.mp h).1
 rw[kB]at l
 refine⟨l,?_⟩
 simp only[jA,List.getElem?_map,List.getElem?_range l]at h
 exact(Option.some.inj h).symm
theorem zF7{K:W.Frag}{H:Hp}{lo:Int}{n:Nat}:kT K (Itr lo n) H (jA lo n):=λH1 hs=>by
 have l:(jA lo n).length=n:=by simp[jA]
 refine⟨λi hi=>by rw[l]at hi;exact hi,λi x H2 hi ⟨e,ex⟩=>?_,by rw[l];exact qe_ _⟩
 subst e ex
 rw[l]at hi
 exact⟨Same.refl _,iT (lo+i),by simp[jA,hi],.flat rfl⟩
def zJw(ua:UTa):UTl:=λρ Q=>uVs ua ρ λTs ρ1=>∃j:Int,Ts=[iT j] /\ -(2 ^ 62)<=j/\j<2 ^ 62/\Q (jA 0 j.toNat) ρ1
theorem jI{a:Expr}{ua:UTa}{p pos:Pos}(hg:Gl X "range")(hm:X.mg "range"=none)(ha:UA X F [a] ua)(hs:starEach [a] X.env=[(false,eval a X.env)]:=by rfl):UI X F tg (.Call (.Name "range" p) [a] [] pos) (zJw ua):=⟨PI.imp (zEL hg hm ha.pa hs) λσ H R ⟨ρ,Q,fr,hu,k⟩=>by
 refine⟨ρ,_,fr,hu,λxs as H1 ρ1 s1 p1 q1=>?_⟩
 obtain⟨Ts,rfl,j,rfl,h1,h2,q⟩:=iL q1
 cases iM p1 with
 |cons v t=>
  cases t
  obtain⟨rfl,_⟩:=v.leafI
  exact⟨j,rfl,h1,h2,k _ _ _ _ s1 zF7 q⟩⟩
theorem zI9{K:W.Frag}{H:Hp}{t:Bool}{a b:Addr}{xs ys:List V}{Ts Us:List Tv}(h:PSeq K H t a xs)(p:VAs K H xs Ts)(h':PSeq K H t b ys)(p':VAs K H ys Us):kT K (Itz t K a b) H (List.zipWith (λT U=>.seq true [T,U]) Ts Us):=λH1 hs=>by
 have l:xs.length=Ts.length:=Paired.length p
 have l':ys.length=Us.length:=Paired.length p'
 have sq:∀{c:Addr} {zs:List V},PSeq K H t c zs->SqX t K H1 c zs:=λ{c zs} h=>by
  have h:=h.hs hs
  cases t with
  |false=>exact cP h
  |true=>exact h
 have q:=sq h
 have q':=sq h'
 refine⟨λi hi=>?_,λi x H2 hi ⟨c,y,z,ex,nc,e,hy,hz⟩=>?_,⟨xs,ys,q,q',by rw[List.length_zipWith];omega⟩⟩
 ·rw[List.length_zipWith]at hi
  exact⟨xs,ys,xs[i]'(by omega),ys[i]'(by omega),q,q',qk_ _,qk_ _⟩
 ·subst e ex
  obtain⟨T,eT,v⟩:=eY (p.hs hs) (hy xs q)
  obtain⟨U,eU,v'⟩:=eY (p'.hs hs) (hz ys q')
  refine⟨cB nc,.seq true [T,U],by rw[List.getElem?_zipWith,eT,eU],VA.seq (t:=true) (SqT.of bB) (show 2<=100000 by decide) (.cons (v.hs (gX nc)) (.cons (v'.hs (gX nc)) .nil))⟩
def zKr(ua:UTa):UTl:=λρ Q=>uVs ua ρ λTs ρ1=>∃t As Bs,Ts=[.seq t As,.seq t Bs]/\Q (List.zipWith (λT U=>.seq true [T,U]) As Bs) ρ1
theorem zHS{a b:Expr}{ua:UTa}{es:List Expr}{ek:Nat}{p pos pos':Pos}(hg:Gl X "zip")(hm:X.mg "zip"=none)(ha:UA X F [a,b] ua)(hs:starEach [a,b] X.env=[(false,eval a X.env),(false,eval b X.env)]:=by rfl)(hs2:starEach [b] X.env=[(false,eval b X.env)]:=by rfl):
  UI X F (.Tuple es ek pos') (.Call (.Name "zip" p) [a,b] [] pos) (zKr ua):=⟨PI.imp (zIy hg hm ha.pa hs hs2) λσ H R ⟨ρ,Q,fr,hu,k⟩=>by
 refine⟨ρ,_,fr,hu,λxs as H1 ρ1 s1 p1 q1=>?_⟩
 obtain⟨Ts,rfl,t,As,Bs,rfl,q⟩:=iL q1
 have sq:∀{c:Addr} {zs:List V},PSeq X.K H1 t c zs->SqX t X.K H1 c zs:=λ{c zs} h=>by
  cases t with
  |false=>exact cP h
  |true=>exact h
 cases iM p1 with
 |cons v r=>
  cases r with
  |cons v' r=>
   cases r
   obtain⟨a,xs,rfl,hq,z,p⟩:=v.seqI
   obtain⟨b,ys,rfl,hq',z',p'⟩:=v'.seqI
   exact⟨t,a,b,rfl,⟨xs,sq hq⟩,⟨ys,sq hq'⟩,k _ _ _ _ s1 (zI9 hq p hq' p') q⟩⟩
end
abbrev UG:=Tv->aU->(aU->Prop)->Prop
abbrev UGs:=List Tv->aU->(aU->Prop)->Prop
def zCN(K:W.Frag)(F:Fm)(m:Nat)(g:UG):TG:=λv σ H QQ=>∃T ρ Q,VA K H v T/\FrOk K F ρ σ H/\g T ρ Q/\∀σ' ρ',FrOk K F ρ' σ' H->σ'.length=σ.length->σ'.drop m=σ.drop m->ρ'.drop m=ρ.drop m->Sbv ρ' ρ->Q ρ'->QQ σ' H
def zIZ(K:W.Frag)(F:Fm)(m:Nat)(g:UGs):TGs:=λvs σ H QQ=>∃Ts ρ Q,VAs K H vs Ts/\FrOk K F ρ σ H/\g Ts ρ Q/\∀σ' ρ',FrOk K F ρ' σ' H->σ'.length=σ.length->σ'.drop m=σ.drop m->ρ'.drop m=ρ.drop m->Sbv ρ' ρ->Q ρ'->QQ σ' H
structure UGt (X:Cx) (F:Fm) (m:Nat) (tg:Expr) (g:UG):Prop where
 pg:PG X tg (zCN X.K F m g)
structure tF (X:Cx) (F:Fm) (m:Nat) (tgs:List Expr) (g:UGs):Prop where
 pg:PGs X tgs (zIZ X.K F m g)
theorem PG.imp{X:Cx}{tg:Expr}{t t':TG}(h:PG X tg t)(i:∀v σ H Q,t' v σ H Q->t v σ H Q):PG X tg t':=λpins s σ H v u Q I r q=>h pins s σ H v u Q I r (i v σ H Q q)
theorem PGs.imp{X:Cx}{tg:List Expr}{t t':TGs}(h:PGs X tg t)(i:∀v σ H Q,t' v σ H Q->t v σ H Q):PGs X tg t':=λpins s σ H v u Q I r q=>h pins s σ H v u Q I r (i v σ H Q q)
section
variable{X:Cx}{F:Fm}{pos:Pos}{m:Nat}
def gN(i:Nat):UG:=λT ρ Q=>Q (ρ.set i (.va T))
theorem drop_set{α:Type}{l:List α}{i m:Nat}{x:α}(h:i<m):(l.set i x).drop m=l.drop m:=by
 rw[List.drop_set,if_pos h]
theorem zGO{ρ:aU}{i:Nat}{T:Tv}:Sbv (ρ.set i (.va T)) ρ:=λj s e mm=>by
 by_cases z:i=j
 ·subst z
  have hi:i<ρ.length:=by
   have:=(qx_.mp e).1
   rwa[qv1_]at this
  rw[qj1_ hi]at e
  cases e;cases mm
 ·rw[qm1_ z]at e;exact⟨s,e,mm⟩
theorem dC(i:Nat){x:Str}(hm:i<m)(hN:X.N.Nodup)(hi:X.N[i]?=some x)(hx:Loc X.env.scope x)(hf:X.fn x=true\/X.env.scope.names.lookup x=some .local:=by first|exact .inl rfl|exact .inr rfl|assumption):UGt X F m (.Name x pos) (gN i):=⟨PG.imp (zG4 hN hi hx hf) λv σ H QQ ⟨T,ρ,Q,vv,fr,h,k⟩=>
 k _ _ (fr.set (s:=.va T) (λ_=>⟨v,rfl,vv⟩) (λz=>absurd z ql_)) qv1_ (drop_set hm) (drop_set hm) zGO h⟩
def gT(n:Nat)(g:UGs):UG:=λT ρ Q=>∃Ts,T=.seq true Ts/\Ts.length=n/\g Ts ρ Q
def gNl:UGs:=λTs ρ Q=>Ts=[]/\Q ρ
def gCn(g:UG)(gs:UGs):UGs:=λTs ρ Q=>∃T r,Ts=T::r/\g T ρ λρ1=>gs r ρ1 Q
theorem zGE:tF X F m [] gNl:=⟨PGs.imp zG3 λvs σ H QQ ⟨Ts,ρ,Q,vv,fr,⟨e,h⟩,k⟩=>by
 subst e
 cases vv
 exact⟨rfl,k _ _ fr rfl rfl rfl (Sbv.refl _) h⟩⟩
theorem zAJ{e:Expr}{es:List Expr}{g:UG}{gs:UGs}(h1:UGt X F m e g)(h2:tF X F m es gs)(hs:(assignEach (e::es) X.env).map (·.2)=assign e X.env::(assignEach es X.env).map (·.2):=by rfl):tF X F m (e::es) (gCn g gs):=⟨PGs.imp (zFP h1.pg h2.pg hs) λvs σ H QQ ⟨Ts,ρ,Q,vv,fr,⟨T,r,e,h⟩,k⟩=>by
 subst e
 cases vv with
 |cons v vs'=>
  refine⟨_,_,rfl,T,ρ,_,v,fr,h,λσ' ρ' f' l d dr sb q=>⟨r,ρ',Q,vs',f',q,λσ2 ρ2 f2 l2 d2 dr2 sb2 q2=>?_⟩⟩
  exact k _ _ f2 (l2.trans l) (d2.trans d) (dr2.trans dr) (sb.trans sb2) q2⟩
theorem zHT{es:List Expr}{k:Nat}{g:UGs}(n:Nat)(hc:X.calm=true)(h:tF X F m es g)(hn:(assignEach es X.env).length=n:=by rfl)(hst:(assignEach es X.env).findIdx? (·.1)=none:=by rfl):UGt X F m (.Tuple es k pos) (gT n g):=⟨PG.imp (zIz hc h.pg hn hst) λv σ H QQ ⟨T,ρ,Q,vv,fr,⟨Ts,e,el,h⟩,k⟩=>by
 subst e
 obtain⟨a,xs,rfl,hq,z,p⟩:=vv.seqI
 exact⟨a,xs,rfl,hq,(Paired.length p).trans el,Ts,ρ,Q,p,fr,h,k⟩⟩
end
def blk(own:Nat)(fr:List Nat)(ρ:aU):aU:=List.replicate own .no++fr.map λi=>ρ.getD i .no
def nO:List Nat->List Sl->aU->aU
 |i::fr,s::ss,ρ=>nO fr ss (ρ.set i s)
 |_,_,ρ=>ρ
def bck(own:Nat)(fr:List Nat)(ρ ρ':aU):aU:=nO fr (ρ'.drop own) ρ
def fR(own:Nat)(fr:List Nat)(g:UG)(tf:UTt)(ue:UT):List Tv->aU->(List Tv->aU->Prop)->Prop
 |[],ρ,Q=>Q [] ρ
 |T::Ts,ρ,Q=>g T (blk own fr ρ) λρ1=>tf ρ1 λb ρ2=>if b=true then ue ρ2 λU ρ3=>fR own fr g tf ue Ts (bck own fr ρ ρ3) λUs ρ4=>Q (U::Us) ρ4 else fR own fr g tf ue Ts (bck own fr ρ ρ2) Q
def kJ(own:Nat)(fr:List Nat)(ui:UTl)(g:UG)(tf:UTt)(ue:UT):UTl:=λρ Q=>ui ρ λTs ρ1=>Ts.length<=100000/\fR own fr g tf ue Ts ρ1 Q
theorem yU:∀(fr:List Nat) (ss:List Sl) (ρ:aU),(nO fr ss ρ).length=ρ.length
 |[],_,_=>rfl
 |_::_,[],_=>rfl
 |i::fr,s::ss,ρ=>by show(nO fr ss _).length=_;rw[yU fr ss,qv1_]
theorem tM:∀(fr:List Nat) (ss:List Sl) (ρ:aU) (i:Nat) (s:Sl),fr.length<=ss.length->(nO fr ss ρ)[i]?=some s->(∃j:Nat,fr[j]?=some i/\ss[j]?=some s)\/(i∉fr/\ρ[i]?=some s)
 |[],_,_,i,s,_,h=>.inr ⟨by simp,h⟩
 |_::_,[],_,_,_,l,_=>by simp at l
 |i0::fr,s0::ss,ρ,i,s,l,h=>by
  rcases tM fr ss (ρ.set i0 s0) i s (by simpa using l) h with⟨j,e1,e2⟩|⟨n,e⟩
  ·exact .inl ⟨j+1,by simpa using e1,by simpa using e2⟩
  ·by_cases z:i0=i
   ·subst z
    have hi:i0<ρ.length:=by
     have:=(qx_.mp e).1
     rwa[qv1_]at this
    rw[qj1_ hi]at e
    exact .inl ⟨0,rfl,by simpa using e⟩
   ·rw[qm1_ z]at e
    exact .inr ⟨by simp[n,Ne.symm z],e⟩
theorem qA{own:Nat}{fr:List Nat}{σ ow:St}(ho:ow.length=own){j i:Nat}(h:fr[j]?=some i):ixv (ow++σf fr σ) (own+j)=ixv σ i:=by
 unfold ixv σf
 rw[qH1_ (by omega),show own+j-ow.length=j by omega,qv_,h]
 show(some (σ.getD i none)).join=_
 rw[qV_]
 cases σ[i]? with
 |none=>rfl
 |some o=>rfl
section
variable{K:W.Frag}{F:Fm}{ρ ρ4 ρ6:aU}{σ ow:St}{H H6:Hp}{own:Nat}{fr:List Nat}
theorem lQ{i:Nat}{s:Sl}(h:(blk own fr ρ)[i]?=some s):(i<own/\s=.no)\/∃j k,i=own+j/\fr[j]?=some k/\s=ρ.getD k .no:=by
 unfold blk at h
 by_cases hi:i<own
 ·rw[qI1_ (by simpa using hi),qd2_,if_pos hi]at h
  exact .inl ⟨hi,(Option.some.inj h).symm⟩
 ·rw[qH1_ (by simpa using hi),qe2_,qv_]at h
  obtain⟨k,e,rfl⟩:=qg1_.mp h
  exact .inr ⟨i-own,k,by omega,e,rfl⟩
theorem lI{k:Nat}{s:Sl}(e:s=ρ.getD k .no)(m:s≠.no):ρ[k]?=some s:=by
 rw[qV_]at e
 cases q:ρ[k]? with
 |none=>rw[q]at e;exact absurd e m
 |some t=>rw[q]at e;rw[e];rfl
theorem FrOk.pick(f:FrOk K F ρ σ H)(nd:fr.Nodup):FrOk K F (blk own fr ρ) (σc own fr σ) H:=by
 have val:∀{j k:Nat},fr[j]?=some k->ixv (σc own fr σ) (own+j)=ixv σ k:=λh=>qA (qe2_) h
 refine⟨f.d0,f.kp,?_,λi s e=>?_,λi i' a s t e e' m m' q q'=>?_⟩
 ·unfold blk σc σf
  simp
 ·rcases lQ e with⟨_,rfl⟩|⟨j,k,rfl,ek,es⟩
  ·trivial
  ·rw[val ek]
   cases s with
   |no=>trivial
   |_=>exact f.at_ k _ (lI es (λz=>by cases z))
 ·rcases lQ e with⟨_,rfl⟩|⟨j,k,rfl,ek,es⟩
  ·cases m
  ·rcases lQ e' with⟨_,rfl⟩|⟨j',k',rfl,ek',es'⟩
   ·cases m'
   ·rw[val ek]at q
    rw[val ek']at q'
    have:=f.ap k k' a s t (lI es (λz=>by rw[z]at m;cases m)) (lI es' (λz=>by rw[z]at m';cases m')) m m' q q'
    subst this
    have h1:=(qx_.mp ek).1
    rw[(List.getElem?_inj h1 nd).mp (ek.trans ek'.symm)]
theorem Stp.back(f:FrOk K F ρ σ H)(nd:fr.Nodup)(s:Stp K F (ow++σf fr σ) ρ4 H ρ6 H6)(f4:FrOk K F ρ4 (ow++σf fr σ) H)(ho:ow.length=own)(hd:ρ4.drop own=(blk own fr ρ).drop own)(sb:Sbv ρ4 (blk own fr ρ)):Stp K F σ ρ H (bck own fr ρ ρ6) H6:=by
 -- a slot of the block that is one's own is the def's own
 have dm:∀(i:Nat) (t:Sl) (a:Addr),ρ4[i]?=some t->dZ t=true->ixv (ow++σf fr σ) i=some (.ref a)->∃k u,k∈fr/\ρ[k]?=some u/\dZ u=true/\ixv σ k=some (.ref a):=λi t a e m q=>by
  obtain⟨u,eu,mu⟩:=sb i t e m
  rcases lQ eu with⟨_,rfl⟩|⟨j,k,rfl,ek,es⟩
  ·cases mu
  ·exact⟨k,u,qE_ ek,lI es (λz=>by rw[z]at mu;cases mu),mu,by rw[<-qA ho ek];exact q⟩
 have st:Stay F ρ σ H H6:=λb o e d n=>s.st b o e d λi t e1 m q=>by
  obtain⟨k,u,_,eu,mu,qu⟩:=dm i t b e1 m q
  exact n k u eu mu qu
 have l6:fr.length<=(ρ6.drop own).length:=by
  have:=s.fr.len
  rw[qj_]at this
  rw[qf2_,this,ho]
  unfold σf
  rw[qc_]
  omega
 have sub:Sbv (bck own fr ρ ρ6) ρ:=λi t e m=>by
  rcases tM fr _ ρ i t l6 e with⟨j,ej,et⟩|⟨_,e⟩
  ·rw[qr2_]at et
   obtain⟨u,eu,mu⟩:=s.sub _ t et m
   have:(ρ4.drop own)[j]?=some u:=by rw[qr2_];exact eu
   rw[hd,qr2_]at this
   rcases lQ this with⟨z,_⟩|⟨j',k,ejj,ek,es⟩
   ·omega
   ·have:j'=j:=by omega
    subst this
    rw[ej]at ek;cases ek
    exact⟨u,lI es (λz=>by rw[z]at mu;cases mu),mu⟩
  ·exact⟨t,e,m⟩
 have hs:HS H H6:=s.hs f4
 refine⟨⟨f.d0,s.fr.kp,by unfold bck;rw[yU];exact f.len,λi t e=>?_,λi i' a t t' e e' m m' q q'=>?_⟩,st,sub,s.tr⟩
 ·rcases tM fr _ ρ i t l6 e with⟨j,ej,et⟩|⟨ni,e⟩
  ·rw[qr2_]at et
   have:=s.fr.at_ _ t et
   rwa[qA ho ej]at this
  ·have h:=f.at_ i t e
   have keep:∀a o,dZ t=true->ixv σ i=some (.ref a)->H a=some o->H6 a=some o:=λa o m q e1=>s.st a o e1 (f.fresh_nodk (f.own_at e m q).2) λi' t' e2 m2 q2=>by
    obtain⟨k,u,hk,eu,mu,qu⟩:=dm i' t' a e2 m2 q2
    have:=f.ap k i a u t eu e mu m qu q
    subst this
    exact ni hk
   cases t with
   |no=>trivial
   |va T=>obtain⟨y,e1,v⟩:=h;exact⟨y,e1,v.hs hs⟩
   |own Ts=>obtain⟨a,xs,e1,e2,e3,z,p⟩:=h;exact⟨a,xs,e1,keep a _ rfl e1 e2,e3,z,p.hs hs⟩
   |dct kts=>obtain⟨a,kvs,e1,e2,e3,n,z,p⟩:=h;exact⟨a,kvs,e1,keep a _ rfl e1 e2,e3,n,z,p.hs hs⟩
   |dk=>exact h
 ·obtain⟨u,eu,mu⟩:=sub i t e m
  obtain⟨u',eu',mu'⟩:=sub i' t' e' m'
  exact f.ap i i' a u u' eu eu' mu mu' q q'
end
theorem uI{K:W.Frag}{F:Fm}{own:Nat}{fr:List Nat}{ui:UTl}{g:UG}{tf:UTt}{ue:UT}(nd:fr.Nodup)(σ:St)(H:Hp)(QQ:VK)(h:rX K F (kJ own fr ui g tf ue) σ H QQ):wO own fr (zCM K F ui) (zCN K F own g) (rW K F tf) (gH K F ue) σ H QQ:=by
 obtain⟨ρ,Q,f,h,k⟩:=h
 refine⟨ρ,_,f,h,λJ Ts H1 ρ1 s1 it q1 a na=>?_⟩
 obtain⟨len,q1⟩:=q1
 refine⟨Ts.length,λi ys H2=>∃Us ρi,Stp K F σ ρ1 H1 ρi H2/\VAs K H2 ys Us/\Us.length<=i/\fR own fr g tf ue (Ts.drop i) ρi (λVs ρ'=>Q (Us++Vs) ρ'),⟨[],ρ1,Stp.same s1.fr (cB na),.nil,qe_ _,q1⟩,?_⟩
 rintro i ys H2 hi ha ⟨Us,ρi,si,p,hl,q⟩
 have hs1:=si.hs s1.fr
 obtain⟨go,yld,stop⟩:=it H2 hs1
 by_cases hlt:i<Ts.length
 ·refine .inr ⟨hlt,go i hlt,λx H3 hy=>?_⟩
  obtain⟨sm,T,eT,vx⟩:=yld i x H3 hlt hy
  have s3:=si.trans (Stp.same si.fr sm)
  have ha3:=sm _ _ ha
  have ed:Ts.drop i=T::Ts.drop (i+1):=by
   rw[qL2_ hlt]
   congr 1
   rw[qk_ hlt]at eT
   exact Option.some.inj eT
  rw[ed]at q
  have nodk:=s1.fr.none_nodk na
  have nown:=s3.notown s1.fr na
  refine⟨T,blk own fr ρi,_,vx,s3.fr.pick nd,q,λσ4 ρ4 f4 l4 d4 dr4 sb4 q4=>?_⟩
  have e4:σ4=σ4.take own++σf fr σ:=by
   have:σ4.drop own=σf fr σ:=by
    rw[d4]
    unfold σc
    rw[List.drop_append_of_le_length (by simp),List.drop_of_length_le (by simp),ql1_]
   rw[<-this,qM2_]
  have lo:(σ4.take own).length=own:=by
   rw[qR_,l4]
   unfold σc
   simp
  have notin:∀(j:Nat) (t:Sl),ρ4[j]?=some t->dZ t=true->ixv σ4 j≠some (.ref a):=λj t e m z=>by
   obtain⟨u,eu,mu⟩:=sb4 j t e m
   rcases lQ eu with⟨_,rfl⟩|⟨j',k,rfl,ek,es⟩
   ·cases mu
   ·rw[e4,qA lo ek]at z
    exact nown k u (lI es (λz=>by rw[z]at mu;cases mu)) mu z
  refine⟨⟨σ4.take own,lo,e4⟩,ρ4,_,f4,q4,λb H5 ρ5 s5 q5=>?_⟩
  have a5:H5 a=some (.lst ys):=s5.st a _ ha3 nodk notin
  cases b with
  |true=>
   refine bX ?_
   rw[if_pos rfl]at q5
   refine⟨ρ5,_,s5.fr,q5,λy U H6 ρ6 s6 v6 q6=>?_⟩
   have s46:=s5.trans s6
   have a6:H6 a=some (.lst ys):=s46.st a _ ha3 nodk notin
   have lys:ys.length=Us.length:=Paired.length p
   refine⟨a6,vS (by omega),Us++[U],bck own fr ρi ρ6,?_,?_,by rw[qj_,qL1_];omega,?_⟩
   ·rw[e4]at s46 f4
    exact(s3.trans (Stp.back s3.fr nd s46 f4 lo dr4 sb4)).put s1.fr na a6 rfl _
   ·have h36:=s46.hs f4
    exact VAs.hs (gD a6 rfl) (Paired.snoc ((p.hs sm.hs).hs h36) v6)
   ·simpa using q6
  |false=>
   refine aR ?_
   rw[if_neg ql_]at q5
   refine⟨a5,Us,bck own fr ρi ρ5,?_,?_,by omega,q5⟩
   ·rw[e4]at s5 f4
    exact s3.trans (Stp.back s3.fr nd s5 f4 lo dr4 sb4)
   ·exact(p.hs sm.hs).hs (s5.hs f4)
 ·have e:i=Ts.length:=by omega
  subst e
  rw[qd3_]at q
  have q:Q (Us++[]) ρi:=q
  rw[qQ_]at q
  exact .inl ⟨stop,k a ys Us H2 ρi (s1.trans si) (s1.non na) ha (by omega) p q⟩
section
variable{X:Cx}{F:Fm}{sc:Scope}{XN N:List Str}{own:Nat}{fr:List Nat}{scope:Scope}{elt tg iter:Expr}{ifs:List Expr}{pos:Pos}{ui:UTl}{g:UG}{tf:UTt}{ue:UT}
structure UF (X:Cx) (F:Fm) (ifs:List Expr) (u:UTt):Prop where
 pf:PFs X ifs (rW X.K F u)
def zCT:UTt:=λρ Q=>Q true ρ
theorem iO:UF X F [] zCT:=⟨λpins s σ H Q I ⟨ρ,Q',f,h,k⟩=>zIC pins s σ H Q I (k _ _ _ (Stp.refl f) h)⟩
theorem gV{c:Expr}{t:UTt}(h:UB X F c t):UF X F [c] t:=⟨zIB h.pt⟩
theorem zBp(hc:X.calm=true)(S:kA sc XN N own fr scope)(nd:fr.Nodup)(hi:UI X F tg iter ui)
  (hg:∀cl C fp s H,UGt (cJ X N scope cl C fp s H) F own tg g) (hf:∀cl C fp s H,UF (cJ X N scope cl C fp s H) F ifs tf) (he:∀cl C fp s H,UE (cJ X N scope cl C fp s H) F elt ue)
  (hs:∀x,foldedSetIterable iter X.env x=pure x:=by intro _;rfl) (hsc:X.env.scope=sc:=by rfl) (hxn:X.N=XN:=by rfl):UL X F (.ListComp elt [⟨tg,iter,ifs,0⟩] scope pos) (kJ own fr ui g tf ue):=
 ⟨PE.imp (zG6 hc S hi.pi (λcl C fp s H=>(hg cl C fp s H).pg) (λcl C fp s H=>(hf cl C fp s H).pf) (λcl C fp s H=>(he cl C fp s H).pe) hs hsc hxn) (uI nd)⟩
theorem zGD{i:Nat}{x:Str}{pos' spos:Pos}(hc:X.calm=true)(hN:X.N.Nodup)(hx:X.N[i]?=some x)(hl:Loc X.env.scope x)(S:kA sc XN N own fr scope)(nd:fr.Nodup)(hi:UI X F tg iter ui)
  (hg:∀cl C fp s H,UGt (cJ X N scope cl C fp s H) F own tg g) (hf:∀cl C fp s H,UF (cJ X N scope cl C fp s H) F ifs tf) (he:∀cl C fp s H,UE (cJ X N scope cl C fp s H) F elt ue)
  (hsw:swapsWith (.ListComp elt [⟨tg,iter,ifs,0⟩] scope pos) (some (.Name x pos')) spos.line X.env=pure true:=by rfl)
  (hf':X.fn x=true\/X.env.scope.names.lookup x=some .local:=by first|exact .inl rfl|exact .inr rfl|assumption)
  (hs:∀x,foldedSetIterable iter X.env x=pure x:=by intro _;rfl) (hsc:X.env.scope=sc:=by rfl) (hxn:X.N=XN:=by rfl):US X F (.Assign [.Name x pos'] (.ListComp elt [⟨tg,iter,ifs,0⟩] scope pos) spos) (sH i (kJ own fr ui g tf ue)):=
 ⟨PS.imp (zBA hc hN hx hl S hi.pi (λcl C fp s H=>(hg cl C fp s H).pg) (λcl C fp s H=>(hf cl C fp s H).pf) (λcl C fp s H=>(he cl C fp s H).pe) hsw hf' hs hsc hxn) (zA1 (uI nd))⟩
theorem PS.fz{st:Stmt}{t:TS}(h:PS X st t):PS X st (λD σ H=>t {D with nx:=λσ' H'=>D.nx σ' H'\/∃a o,H' a=some o/\fzb o=true/\∀ob,D.nx σ' (upd H' a (.frz ob o))} σ H):=λpins s σ H D I q=>thn (h pins s σ H _ I q) λfl s' z=>by
 cases fl with
 |next=>
  obtain⟨σ',H',I',q⟩:=z
  rcases q with q|⟨a,o,e,n,q⟩
  ·exact⟨σ',H',I',q⟩
  ·obtain⟨ob,I2⟩:=I'.fz e n
   exact⟨σ',_,I2,q ob⟩
 |brk=>exact z
 |cont=>exact z
 |ret u=>exact z
theorem zGC{i:Nat}{x:Str}{pos' spos:Pos}(hc:X.calm=true)(hN:X.N.Nodup)(hx:X.N[i]?=some x)(hl:Loc X.env.scope x)(S:kA sc XN N own fr scope)(nd:fr.Nodup)(hi:UI X F tg iter ui)
  (hg:∀cl C fp s H,UGt (cJ X N scope cl C fp s H) F own tg g) (hf:∀cl C fp s H,UF (cJ X N scope cl C fp s H) F ifs tf) (he:∀cl C fp s H,UE (cJ X N scope cl C fp s H) F elt ue)
  (hsw:swapsWith (.ListComp elt [⟨tg,iter,ifs,0⟩] scope pos) (some (.Name x pos')) spos.line X.env=pure true:=by rfl)
  (hf':X.fn x=true\/X.env.scope.names.lookup x=some .local:=by first|exact .inl rfl|exact .inr rfl|assumption)
  (hs:∀x,foldedSetIterable iter X.env x=pure x:=by intro _;rfl) (hsc:X.env.scope=sc:=by rfl) (hxn:X.N=XN:=by rfl):US X F (.Assign [.Name x pos'] (.ListComp elt [⟨tg,iter,ifs,0⟩] scope pos) spos) (sE i (uL (kJ own fr ui g tf ue))):=
 ⟨PS.imp (PS.fz (zBA hc hN hx hl S hi.pi (λcl C fp s H=>(hg cl C fp s H).pg) (λcl C fp s H=>(hf cl C fp s H).pf) (λcl C fp s H=>(he cl C fp s H).pe) hsw hf' hs hsc hxn)) λD σ H ⟨ρ,P,f,h,k1,_⟩=>by
  refine uI nd σ H _ ⟨ρ,_,f,h,λa xs Ts H' ρ' s n e z p q=>?_⟩
  refine .inr ⟨a,_,e,rfl,λob=>?_⟩
  have s2:=s.put f n e rfl (.frz ob (.lst xs))
  exact k1 _ _ _ (s2.fr.set (s:=.va (.seq false Ts)) (λ_=>⟨_,rfl,VA.seq (t:=false) ⟨ob,bB⟩ z (p.hs (gD e rfl))⟩) (λz=>absurd z ql_)) (s2.hs f) q⟩
def jD(g:UG)(ub:UTs):List Tv->PEnds->aU->Prop
 |[],P,ρ=>P.nx ρ
 |T::Ts,P,ρ=>g T ρ λρ1=>ub {P with nx:=λρ'=>jD g ub Ts P ρ',ct:=λρ'=>jD g ub Ts P ρ',bk:=P.nx} ρ1
def zKI(ui:UTl)(g:UG)(ub:UTs):UTs:=λP ρ=>ui ρ λTs ρ1=>jD g ub Ts P ρ1
theorem dX{body:List Stmt}{ub:UTs}{m:Nat}(hp:PassesOwn (model X.prog X.w) X.A X.env X.xe)(hc:X.calm=true)(hi:UI X F tg iter ui)(hg:UGt X F m tg g)(hb:USs X F body ub)
  (hs:∀x,foldedSetIterable iter X.env x=pure x:=by intro _;rfl):US X F (.For tg iter body [] pos) (zKI ui g ub):=⟨PS.imp (zIv hp hc hi.pi hg.pg hb.ps hs) λD σ H ⟨ρ,P,f,h,k1,k2,k3,k4⟩=>by
 refine⟨ρ,_,f,h,λJ Ts H1 ρ1 s1 it q1=>?_⟩
 have h01:=s1.hs f
 refine⟨λi m σ' H'=>m=Ts.length-i/\i<=Ts.length/\HS H1 H'/\∃ρi,FrOk X.K F ρi σ' H'/\jD g ub (Ts.drop i) P ρi,⟨_,rfl,qs_ _,HS.refl _,ρ1,s1.fr,q1⟩,?_⟩
 rintro i m σ' H' ⟨rfl,hi,hs,ρi,fi,q⟩
 obtain⟨go,yld,stop⟩:=it H' hs
 by_cases hlt:i<Ts.length
 ·refine .inr ⟨go i hlt,λσ2 H2=>HS H1 H2/\∃ρ2,FrOk X.K F ρ2 σ2 H2/\jD g ub (Ts.drop (i+1)) P ρ2,λσ2 H2 ⟨hs2,ρ2,f2,q2⟩=>⟨_,by omega,rfl,hlt,hs2,ρ2,f2,q2⟩,λx H3 hy=>?_⟩
  obtain⟨sm,T,eT,vx⟩:=yld i x H3 hlt hy
  have ed:Ts.drop i=T::Ts.drop (i+1):=by
   rw[qL2_ hlt]
   congr 1
   rw[qk_ hlt]at eT
   exact Option.some.inj eT
  rw[ed]at q
  have f3:=(Stp.same fi sm).fr
  refine⟨T,ρi,_,vx,f3,q,λσ4 ρ4 f4 _ _ _ _ q4=>?_⟩
  have h13:=hs.trans sm.hs
  exact⟨ρ4,_,f4,q4,λσ5 H5 ρ5 f5 hs5 q5=>⟨h13.trans hs5,ρ5,f5,q5⟩,k2,λσ5 H5 ρ5 f5 hs5 q5=>k1 _ _ _ f5 (h01.trans (h13.trans hs5)) q5,λσ5 H5 ρ5 f5 hs5 q5=>⟨h13.trans hs5,ρ5,f5,q5⟩⟩
 ·have e:i=Ts.length:=by omega
  subst e
  rw[qd3_]at q
  exact .inl ⟨stop,k1 _ _ _ fi (h01.trans hs) q⟩⟩
def zIb(t:UTt)(ub:UTs):UTs:=λP ρ=>∃W:Nat->aU->Prop,(∃m,W m ρ)/\∀m ρ,W m ρ->t ρ λb ρ1=>if b=true then ub {P with nx:=λρ'=>∃m',m'<m/\W m' ρ',ct:=λρ'=>∃m',m'<m/\W m' ρ',bk:=P.nx} ρ1 else P.nx ρ1
theorem nD{c:Expr}{body:List Stmt}{t:UTt}{ub:UTs}(hp:PassesOwn (model X.prog X.w) X.A X.env X.xe)(hc:UB X F c t)(hb:USs X F body ub):US X F (.While c body [] pos) (zIb t ub):=⟨PS.imp (zFM hp hc.pt hb.ps) λD σ H ⟨ρ,P,f,⟨W,⟨m0,w0⟩,h⟩,k1,k2,k3,k4⟩=>by
 refine⟨λm σ' H'=>HS H H'/\∃ρ',FrOk X.K F ρ' σ' H'/\W m ρ',⟨m0,HS.refl _,ρ,f,w0⟩,?_⟩
 rintro m σ' H' ⟨hs,ρ',f',w⟩
 refine⟨ρ',_,f',h m ρ' w,λb H1 ρ1 s1 q1=>?_⟩
 have h1:=hs.trans (s1.hs f')
 cases b with
 |true=>
  rw[if_pos rfl]at q1
  refine bX ⟨λσ2 H2=>HS H H2/\∃m',m'<m/\∃ρ2,FrOk X.K F ρ2 σ2 H2/\W m' ρ2,λσ2 H2 ⟨hs2,m',lt,ρ2,f2,w2⟩=>⟨m',lt,hs2,ρ2,f2,w2⟩,?_⟩
  exact⟨ρ1,_,s1.fr,q1,λσ5 H5 ρ5 f5 hs5 ⟨m',lt,w5⟩=>⟨h1.trans hs5,m',lt,ρ5,f5,w5⟩,k2,λσ5 H5 ρ5 f5 hs5 q5=>k1 _ _ _ f5 (h1.trans hs5) q5,λσ5 H5 ρ5 f5 hs5 ⟨m',lt,w5⟩=>⟨h1.trans hs5,m',lt,ρ5,f5,w5⟩⟩
 |false=>
  rw[if_neg ql_]at q1
  exact aR (k1 _ _ _ s1.fr h1 q1)⟩
end
end L2
namespace L2
open PySem PySem.Spec PyProof.Rows WordM
section
variable{K:W.Frag}{F:Fm}{ρ:aU}{σ:St}{H:Hp}{i:Nat}{s s':Sl}{a:Addr}{o o':HO}
theorem FrOk.put(fr:FrOk K F ρ σ H)(e:ρ[i]?=some s)(m:dZ s=true)(q:ixv σ i=some (.ref a))(h:H a=some o)(n:fzb o=true)(v:HS H (upd H a o')->F.H0 a=none->yB K F (upd H a o') (some (.ref a)) s'):Stp K F σ ρ H (ρ.set i s') (upd H a o'):=by
 have hi:i<ρ.length:=(qx_.mp e).1
 have h0:=(fr.own_at e m q).2
 have hd:=fr.fresh_nodk h0
 have hs:HS H (upd H a o'):=gD h (by cases o<;>first|rfl|exact absurd n ql_)
 have st:∀b u,b≠a->H b=some u->upd H a o' b=some u:=λb u z e=>by rw[bK z];exact e
 have get:∀(j:Nat) (t:Sl),(ρ.set i s')[j]?=some t->(i=j/\t=s')\/(i≠j/\ρ[j]?=some t):=λj t e'=>by
  by_cases z:i=j
  ·subst z
   rw[qj1_ hi]at e'
   exact .inl ⟨rfl,(Option.some.inj e').symm⟩
  ·rw[qm1_ z]at e';exact .inr ⟨z,e'⟩
 have sub:Sbv (ρ.set i s') ρ:=λj t e' m'=>by
  rcases get j t e' with⟨rfl,rfl⟩|⟨z,e'⟩
  ·exact⟨s,e,m⟩
  ·exact⟨t,e',m'⟩
 refine⟨⟨fr.d0,⟨λb u e1 n1=>st b u (λz=>by rw[z,h0]at e1;cases e1) (fr.kp.st b u e1 n1),λp c d=>?_⟩,by rw[qv1_];exact fr.len,λj t e'=>?_,λj k b t t' e1 e2 m1 m2 q1 q2=>?_⟩,λb u e1 _ n1=>st b u (λz=>n1 i s e m (by rw[z];exact q)) e1,sub,λb u e1=>if z:b=a then⟨o',z▸bB⟩ else⟨u,st b u z e1⟩⟩
 ·obtain⟨ne,⟨S,k,e1⟩,ns,e2,l⟩:=fr.kp.dkk p c d
  exact⟨ne,⟨S,k,st _ _ (hd p c d).1.symm e1⟩,ns,st _ _ (hd p c d).2.symm e2,l⟩
 ·rcases get j t e' with⟨rfl,rfl⟩|⟨z,e'⟩
  ·rw[q];exact v hs h0
  ·have x:=fr.at_ j t e'
   cases t with
   |no=>trivial
   |va T=>obtain⟨y,e1,v⟩:=x;exact⟨y,e1,v.hs hs⟩
   |own Ts=>obtain⟨b,xs,e1,e2,e3,z',p⟩:=x;exact⟨b,xs,e1,st _ _ (λy=>z (fr.ap i j a s _ e e' m rfl q (by rw[e1,y]))) e2,e3,z',p.hs hs⟩
   |dct kts=>obtain⟨b,kvs,e1,e2,e3,n',z',p⟩:=x;exact⟨b,kvs,e1,st _ _ (λy=>z (fr.ap i j a s _ e e' m rfl q (by rw[e1,y]))) e2,e3,n',z',p.hs hs⟩
   |dk=>exact x
 ·obtain⟨u,eu,mu⟩:=sub j t e1 m1
  obtain⟨u',eu',mu'⟩:=sub k t' e2 m2
  exact fr.ap j k b u u' eu eu' mu mu' q1 q2
end
section
variable{X:Cx}{F:Fm}{e:Expr}{u:UT}{x:Str}{p apos cpos pos:Pos}
def vI(i:Nat)(u:UT):UT:=λρ Q=>(∃Ts,ρ[i]?=some (.own Ts))/\u ρ λT ρ1=>∃Ts,ρ1[i]?=some (.own Ts)/\Ts.length<100000/\Q nT (ρ1.set i (.own (Ts++[T])))
theorem fZ(i:Nat)(h:UE X F e u)(hN:X.N[i]?=some x:=by rfl)(hv:Vis X.env.scope x:=by first|exact Or.inl rfl|exact Or.inr (Or.inl rfl)|exact Or.inr (Or.inr rfl))(hd:(x==("__debug__":Str))=false:=by decide)(hcd:(x==("__classdict__":Str))=false:=by decide)
  (hbase:attributeBase (.Name x p) "append" X.env (eval (.Name x p) X.env)=eval (.Name x p) X.env:=by rfl)
  (hfew:((backTo cpos (starEach [e] X.env)).all (λx=>!x.1)&&(backToKw cpos (keywordEach [] X.env)).all (λx=>x.1.isSome)&&decide (([e]:List Expr).length+([]:List Keyword).length+(if ([]:List Keyword).isEmpty then 0 else 1)<30))=true:=by rfl)
  (hline:(apos.endLine==cpos.line)=true:=by rfl) (hs:starEach [e] X.env=(false,eval e X.env)::starEach [] X.env:=by rfl) (hplain:(backTo cpos (starEach [] X.env)).any (·.1)=false:=by rfl) (hst:dN e=false:=by rfl):
  UE X F (.Call (.Attribute (.Name x p) "append" apos) [e] [] cpos) (vI i u):=⟨PE.imp (oP PySem.F.plainAttrs_list PySem.F.slot_list_append PySem.F.type_list_append uG (kF hN hv hd hcd) (aD h aE hst).pa hbase hfew hline hs hplain) λσ H QQ ⟨ρ,Q,f,⟨⟨Ts0,e0⟩,hu⟩,k⟩=>by
 obtain⟨a,xs,ea,eH,e3,z,pv⟩:=f.at_ i _ e0
 refine⟨_,jK ea,.inl ⟨rfl,xs,SqL.of eH⟩,ρ,λas ρ1=>∃T,as=[.va T]/\∃Ts,ρ1[i]?=some (.own Ts)/\Ts.length<100000/\Q nT (ρ1.set i (.own (Ts++[T]))),f,?_,λvs as H1 ρ1 s1 p1 q1=>?_⟩
 ·show u ρ _
  have:(λT ρ1=>∃Ts,ρ1[i]?=some (.own Ts)/\Ts.length<100000/\Q nT (ρ1.set i (.own (Ts++[T]))))=(λT (ρ1:aU)=>(gI ρ1 λas ρ2=>∃T',Ar.va T::as=[.va T']/\∃Ts,ρ2[i]?=some (.own Ts)/\Ts.length<100000/\Q nT (ρ2.set i (.own (Ts++[T'])))) ):=by
   funext T ρ1
   apply propext
   constructor
   ·intro z;exact⟨T,rfl,z⟩
   ·rintro⟨T',e,z⟩;cases e;exact z
  rw[this]at hu
  exact hu
 ·obtain⟨T,rfl,Ts,e1,lt,q⟩:=q1
  cases p1 with
  |cons v t=>
   cases t
   obtain⟨a',ys,ea',eH1,e3',z',pv'⟩:=s1.fr.at_ i _ e1
   rw[ea]at ea';cases ea'
   have ll:ys.length=Ts.length:=Paired.length pv'
   refine⟨a,ys,_,rfl,rfl,eH1,vS (by omega),k _ _ _ _ (s1.trans (s1.fr.put (s':=.own (Ts++[T])) e1 rfl ea eH1 rfl λhs h0=>⟨a,_,rfl,bB,h0,by rw[qj_,qL1_];omega,VAs.hs hs (Paired.snoc pv' v)⟩)) (.flat rfl) q⟩⟩
def zFG:V->List V->Hp->VK->Prop:=λx vs H Q=>∃l b xs zs,x=.ref l/\vs=[.ref b]/\H l=some (.lst xs)/\Rd H b (.lst zs)/\xs.length+zs.length<=sizeLine/\Q .non (upd H l (.lst (xs++zs)))
theorem zD7:MtM X "list.extend" zFG:=by
 rintro pins s σ H _ _ v us Q I rx rv ⟨l,b,xs,zs,rfl,rfl,hH,hB,hz,q⟩
 cases rx
 obtain⟨u,rfl,ru⟩:=rv.one
 cases ru
 obtain⟨z,its,n,r,hl,e⟩:=I.lstM hH
 obtain⟨z2,its2,n2,r2,e2⟩:=hB.ok I.hok
 have hl2:=r2.length
 have hlong:¬ (!its.toArray.isEmpty&&Builtin.List.listTooLong (its.toArray.size+its2.toArray.size))=true:=by
  rw[zAW (by rw[qn_,qn_];omega),qA2_]
  exact ql_
 refine call_meets F.slot_list_extend ⟨_,e,rfl⟩ F.entry_list_extend (F.args_list_extend_2 _ _) (AutoSeq1.list_extend_list_list_0 l its.toArray n b its2.toArray n2 hlong (by rw[qn_];omega) (by rw[qn_,qn_];omega)) ⟨e,e2,?_⟩
 exact⟨.non,_,I.lset (its':=its++its2) hH e (by simp) (r.append r2) (by rw[List.length_append];omega),rfl,q⟩
def zGI(i:Nat)(u:UT):UT:=λρ Q=>(∃Ts,ρ[i]?=some (.own Ts))/\u ρ λT ρ1=>∃Ts Us,ρ1[i]?=some (.own Ts)/\T=.seq false Us/\Ts.length+Us.length<=100000/\Q nT (ρ1.set i (.own (Ts++Us)))
theorem tV(i:Nat)(h:UE X F e u)(hN:X.N[i]?=some x:=by rfl)(hv:Vis X.env.scope x:=by first|exact Or.inl rfl|exact Or.inr (Or.inl rfl)|exact Or.inr (Or.inr rfl))(hd:(x==("__debug__":Str))=false:=by decide)(hcd:(x==("__classdict__":Str))=false:=by decide)
  (hbase:attributeBase (.Name x p) "extend" X.env (eval (.Name x p) X.env)=eval (.Name x p) X.env:=by rfl)
  (hfew:((backTo cpos (starEach [e] X.env)).all (λx=>!x.1)&&(backToKw cpos (keywordEach [] X.env)).all (λx=>x.1.isSome)&&decide (([e]:List Expr).length+([]:List Keyword).length+(if ([]:List Keyword).isEmpty then 0 else 1)<30))=true:=by rfl)
  (hline:(apos.endLine==cpos.line)=true:=by rfl) (hs:starEach [e] X.env=(false,eval e X.env)::starEach [] X.env:=by rfl) (hplain:(backTo cpos (starEach [] X.env)).any (·.1)=false:=by rfl) (hst:dN e=false:=by rfl):
  UE X F (.Call (.Attribute (.Name x p) "extend" apos) [e] [] cpos) (zGI i u):=⟨PE.imp (oP PySem.F.plainAttrs_list PySem.F.slot_list_extend PySem.F.type_list_extend zD7 (kF hN hv hd hcd) (aD h aE hst).pa hbase hfew hline hs hplain) λσ H QQ ⟨ρ,Q,f,⟨⟨Ts0,e0⟩,hu⟩,k⟩=>by
 obtain⟨a,xs,ea,eH,e3,z,pv⟩:=f.at_ i _ e0
 refine⟨_,jK ea,.inl ⟨rfl,xs,SqL.of eH⟩,ρ,λas ρ1=>∃T,as=[.va T]/\∃Ts Us,ρ1[i]?=some (.own Ts)/\T=.seq false Us/\Ts.length+Us.length<=100000/\Q nT (ρ1.set i (.own (Ts++Us))),f,?_,λvs as H1 ρ1 s1 p1 q1=>?_⟩
 ·show u ρ _
  have:(λT ρ1=>∃Ts Us,ρ1[i]?=some (.own Ts)/\T=.seq false Us/\Ts.length+Us.length<=100000/\Q nT (ρ1.set i (.own (Ts++Us))))=(λT (ρ1:aU)=>(gI ρ1 λas ρ2=>∃T',Ar.va T::as=[.va T']/\∃Ts Us,ρ2[i]?=some (.own Ts)/\T'=.seq false Us/\Ts.length+Us.length<=100000/\Q nT (ρ2.set i (.own (Ts++Us)))) ):=by
   funext T ρ1
   apply propext
   constructor
   ·intro z;exact⟨T,rfl,z⟩
   ·rintro⟨T',e,z⟩;cases e;exact z
  rw[this]at hu
  exact hu
 ·obtain⟨T,rfl,Ts,Us,e1,rfl,le,q⟩:=q1
  cases p1 with
  |cons v t=>
   cases t
   have v:VA X.K H1 _ (.seq false Us):=v
   obtain⟨b,zs,rfl,⟨ob,hb⟩,_,pz⟩:=v.seqI
   obtain⟨a',ys,ea',eH1,e3',z',pv'⟩:=s1.fr.at_ i _ e1
   rw[ea]at ea';cases ea'
   have ll:ys.length=Ts.length:=Paired.length pv'
   have lz:zs.length=Us.length:=Paired.length pz
   refine⟨a,b,ys,zs,rfl,rfl,eH1,.inr ⟨ob,hb⟩,gR (by omega),k _ _ _ _ (s1.trans (s1.fr.put (s':=.own (Ts++Us)) e1 rfl ea eH1 rfl λhs h0=>⟨a,_,rfl,bB,h0,by rw[qj_];omega,VAs.hs hs (pT pv' pz)⟩)) (.flat rfl) q⟩⟩
def zHV(i:Nat)(u:UT):UT:=λρ Q=>(∃Ts,ρ[i]?=some (.own Ts))/\u ρ λJ ρ1=>∃(j:Int) (Ts:List Tv) (T:Tv),J=iT j/\ρ1[i]?=some (.own Ts)/\0<=j/\Ts[j.toNat]?=some T/\Q T (ρ1.set i (.own (Ts.eraseIdx j.toNat)))
theorem yO{α β:Type}{R:α->β->Prop}:∀{l:List α}{m:List β}(n:Nat),Paired R l m->Paired R (l.eraseIdx n) (m.eraseIdx n)
 |_,_,_,.nil=>.nil
 |_,_,0,.cons _ t=>t
 |_,_,n+1,.cons r t=>.cons r (yO n t)
theorem pO{α β:Type}{R:α->β->Prop}:∀{l:List α}{m:List β}{n:Nat}{y:β},Paired R l m->m[n]?=some y->∃x,l[n]?=some x/\R x y
 |_,_,_,_,.nil,e=>by simp at e
 |_,_,0,_,.cons r _,e=>by simp at e;subst e;exact⟨_,rfl,r⟩
 |_,_,n+1,_,.cons _ t,e=>by
  obtain⟨x,h1,h2⟩:=pO (n:=n) t (by simpa using e)
  exact⟨x,by simpa using h1,h2⟩
theorem zFv(i:Nat)(h:UE X F e u)(hN:X.N[i]?=some x:=by rfl)(hv:Vis X.env.scope x:=by first|exact Or.inl rfl|exact Or.inr (Or.inl rfl)|exact Or.inr (Or.inr rfl))(hd:(x==("__debug__":Str))=false:=by decide)(hcd:(x==("__classdict__":Str))=false:=by decide)
  (hbase:attributeBase (.Name x p) "pop" X.env (eval (.Name x p) X.env)=eval (.Name x p) X.env:=by rfl)
  (hfew:((backTo cpos (starEach [e] X.env)).all (λx=>!x.1)&&(backToKw cpos (keywordEach [] X.env)).all (λx=>x.1.isSome)&&decide (([e]:List Expr).length+([]:List Keyword).length+(if ([]:List Keyword).isEmpty then 0 else 1)<30))=true:=by rfl)
  (hline:(apos.endLine==cpos.line)=true:=by rfl) (hs:starEach [e] X.env=(false,eval e X.env)::starEach [] X.env:=by rfl) (hplain:(backTo cpos (starEach [] X.env)).any (·.1)=false:=by rfl) (hst:dN e=false:=by rfl):
  UE X F (.Call (.Attribute (.Name x p) "pop" apos) [e] [] cpos) (zHV i u):=⟨PE.imp (oP PySem.F.plainAttrs_list PySem.F.slot_list_pop PySem.F.type_list_pop zFW (kF hN hv hd hcd) (aD h aE hst).pa hbase hfew hline hs hplain) λσ H QQ ⟨ρ,Q,f,⟨⟨Ts0,e0⟩,hu⟩,k⟩=>by
 obtain⟨a,xs,ea,eH,e3,z,pv⟩:=f.at_ i _ e0
 refine⟨_,jK ea,.inl ⟨rfl,xs,SqL.of eH⟩,ρ,λas ρ1=>∃J,as=[.va J]/\∃(j:Int) (Ts:List Tv) (T:Tv),J=iT j/\ρ1[i]?=some (.own Ts)/\0<=j/\Ts[j.toNat]?=some T/\Q T (ρ1.set i (.own (Ts.eraseIdx j.toNat))),f,?_,λvs as H1 ρ1 s1 p1 q1=>?_⟩
 ·show u ρ _
  have:(λJ ρ1=>∃(j:Int) (Ts:List Tv) (T:Tv),J=iT j/\ρ1[i]?=some (.own Ts)/\0<=j/\Ts[j.toNat]?=some T/\Q T (ρ1.set i (.own (Ts.eraseIdx j.toNat))))=(λJ (ρ1:aU)=>(gI ρ1 λas ρ2=>∃J',Ar.va J::as=[.va J']/\∃(j:Int) (Ts:List Tv) (T:Tv),J'=iT j/\ρ2[i]?=some (.own Ts)/\0<=j/\Ts[j.toNat]?=some T/\Q T (ρ2.set i (.own (Ts.eraseIdx j.toNat)))) ):=by
   funext T ρ1
   apply propext
   constructor
   ·intro z;exact⟨T,rfl,z⟩
   ·rintro⟨T',e,z⟩;cases e;exact z
  rw[this]at hu
  exact hu
 ·obtain⟨J,rfl,j,Ts,T,rfl,e1,h0,eT,q⟩:=q1
  cases p1 with
  |cons v t=>
   cases t
   obtain⟨rfl,_⟩:=VA.leafI v
   obtain⟨a',ys,ea',eH1,e3',z',pv'⟩:=s1.fr.at_ i _ e1
   rw[ea]at ea';cases ea'
   have ll:ys.length=Ts.length:=Paired.length pv'
   have lt:=(qx_.mp eT).1
   obtain⟨y,ey,vy⟩:=pO pv' eT
   have s:=s1.fr.put (o':=.lst (ys.eraseIdx j.toNat)) e1 rfl ea eH1 rfl (s':=.own (Ts.eraseIdx j.toNat)) λhs h0=>⟨a,_,rfl,bB,h0,by rw[List.length_eraseIdx];split<;>omega,VAs.hs hs (yO _ pv')⟩
   refine⟨a,ys,j,j.toNat,y,rfl,rfl,eH1,by omega,by omega,PySem.StrLaws.seqIndex_nonneg h0 (by omega),ey,k _ _ _ _ (s1.trans s) (vy.hs (s.hs s1.fr)) q⟩⟩
def zIe(i:Nat):UTs:=λP ρ=>P.nx (ρ.set i (.dct []))
theorem zAI{i:Nat}{pos' dpos:Pos}(hN:X.N.Nodup)(hi:X.N[i]?=some x)(hx:Loc X.env.scope x)(hs:swapsWith (.Dict [] [] dpos) (some (.Name x pos')) pos.line X.env=pure false:=by rfl)(hf:X.fn x=true\/X.env.scope.names.lookup x=some .local:=by first|exact .inl rfl|exact .inr rfl|assumption):
  US X F (.Assign [.Name x pos'] (.Dict [] [] dpos) pos) (zIe i):=⟨PS.imp (jO hN hi hx zFS hs hf) λD σ H ⟨ρ,P,f,h,k1,_⟩ a n=>by
 have s:=Stp.same f (cB (o:=.dK []) n)
 exact k1 _ _ _ (s.fr.set (s:=.dct []) (λ_=>⟨a,[],rfl,bB,f.none0 n,.nil,by decide,.nil⟩) (λ_ b eb j t ej mj qj=>by cases eb;exact s.notown f n j t ej mj qj)) (s.hs f) h⟩
def eG(kts:List (Str×Tv))(k:Str)(T:Tv):List (Str×Tv):=if (kts.any λkt=>decide (kt.1=k))=true then kts.map (λkt=>if kt.1=k then(kt.1,T) else kt) else kts++[(k,T)]
theorem zGB{K:W.Frag}{H:Hp}{kvs:List (Key×V)}{kts:List (Str×Tv)}(p:VAk K H kvs kts)(k:Str):(kvs.any λkv=>decide (kv.1=.inr k))=kts.any λkt=>decide (kt.1=k):=by
 unfold VAk at p
 induction p with
 |nil=>rfl
 |cons r _ ih=>
  rw[qA1_,qA1_,ih,r.1]
  congr 1
  rw[qx1_,decide_eq_true_iff,decide_eq_true_iff]
  exact⟨λz=>Sum.inr.inj z,λz=>by rw[z]⟩
theorem zGA{K:W.Frag}{H:Hp}{kvs:List (Key×V)}{kts:List (Str×Tv)}(p:VAk K H kvs kts){k:Str}{v:V}{T:Tv}(q:VA K H v T):VAk K H (dM kvs (.inr k) v) (eG kts k T):=by
 unfold dM eG
 rw[zGB p k]
 split
 ·rename_i zz
  clear zz
  unfold VAk at p ⊢
  induction p with
  |nil=>exact .nil
  |@cons kv kt _ _ r _ ih=>
   refine .cons ?_ ih
   dsimp only
   by_cases z:kt.1=k
   ·rw[if_pos z,if_pos (by rw[r.1,z])];exact⟨r.1,q⟩
   ·rw[if_neg z,if_neg (by rw[r.1];exact λy=>z (Sum.inr.inj y))];exact r
 ·exact Paired.snoc p ⟨rfl,q⟩
theorem zEH(kts:List (Str×Tv))(k:Str)(T:Tv):(eG kts k T).map (·.1)=if (kts.any λkt=>decide (kt.1=k))=true then kts.map (·.1) else kts.map (·.1)++[k]:=by
 unfold eG
 split
 ·rw[qz_]
  refine qu2_ λkt _=>?_
  show(if kt.1=k then(kt.1,T) else kt).1=kt.1
  split<;>rfl
 ·rw[qJ_];rfl
theorem zG{kts:List (Str×Tv)}{k:Str}{T:Tv}(h:(kts.map (·.1)).Nodup):((eG kts k T).map (·.1)).Nodup:=by
 rw[zEH]
 split
 ·exact h
 ·rename_i n
  rw[qw2_]
  refine⟨h,by simp,λa ha b hb=>?_⟩
  rw[qa1_]at hb
  subst hb
  rintro rfl
  obtain⟨kt,hk,rfl⟩:=qf_.mp ha
  exact n (qL_.mpr ⟨kt,hk,by simp⟩)
def zJG(i:Nat)(uk uv:UT):UTs:=λP ρ=>uv ρ λT ρ1=>(∃kts,ρ1[i]?=some (.dct kts))/\uk ρ1 λk ρ2=>∃kts s,ρ2[i]?=some (.dct kts)/\k=sT s/\(eG kts s T).length<64/\P.nx (ρ2.set i (.dct (eG kts s T)))
theorem zBo{i:Nat}{k:Expr}{uk uv:UT}{pos':Pos}(hu:X.A.units+1<cLine)(hN:X.N[i]?=some x)(hv:Vis X.env.scope x)(hk:UE X F k uk)(he:UE X F e uv)(hs:swapsWith e (some (.Subscript (.Name x p) k pos')) pos.line X.env=pure false:=by rfl)(hd:(x==("__debug__":Str))=false:=by decide)(hcd:(x==("__classdict__":Str))=false:=by decide):
  US X F (.Assign [.Subscript (.Name x p) k pos'] e pos) (zJG i uk uv):=⟨PS.imp (zG1 hu (kF hN hv hd hcd) hk.pe he.pe hs) λD σ H ⟨ρ,P,f,h,k1,_⟩=>by
 refine⟨ρ,_,f,h,λv T H1 ρ1 s1 v1 q1=>?_⟩
 obtain⟨⟨kts0,e0⟩,q1⟩:=q1
 obtain⟨a,kvs0,ea,eH0,_⟩:=s1.fr.at_ i _ e0
 refine⟨_,jK ea,ρ1,_,s1.fr,q1,λy Ky H2 ρ2 s2 v2 q2=>?_⟩
 obtain⟨kts,s,e2,rfl,lt,q⟩:=q2
 obtain⟨rfl,_⟩:=v2.leafI
 obtain⟨a',kvs,ea',eH,h0,nd,l64,p⟩:=s2.fr.at_ i _ e2
 rw[ea]at ea';cases ea'
 have ll:kvs.length=kts.length:=Paired.length p
 refine⟨a,_,rfl,DPut.k (k:=.inr s) eH (vS (by omega)),?_⟩
 have st:=s2.fr.put (o':=.dK (dM kvs (.inr s) v)) e2 rfl ea eH rfl (s':=.dct (eG kts s T)) λhs h0=>⟨a,_,rfl,bB,h0,zG nd,lt,VAk.hs hs (zGA p (v1.hs (s2.hs s1.fr)))⟩
 exact k1 _ _ _ st.fr (((s1.trans s2).trans st).hs f) q⟩
end
theorem Inv.frozen{X:Cx}{pins:List (Addr×Obj)}{σ:St}{H H2:Hp}{s:Shared}(I:Inv X pins σ H s)(fro:FrozenA pH H H2)(ok2:HOk X.prog X.w H2 s.heap):Inv X pins σ H2 s:=by
 refine⟨I.ok,I.os,I.bare,⟨I.base.keep,I.base.slot,λb o e n hx=>fro.none_of (I.base.free b o e n hx),I.base.there,λb xs e=>fro.keep (I.base.tups b xs e) rfl,λb o u e=>fro.keep (I.base.frzs b o u e) rfl,λb ps e=>?_⟩,I.loc,I.cell,fro.none_of I.free,λx c e=>fro.none_of (I.freeC x c e),λp hp=>?_,ok2,I.len⟩
 ·obtain⟨more,z⟩:=I.base.tbls b ps e
  exact⟨more,fro.keep z rfl⟩
 ·obtain⟨p1,p2,p3⟩:=I.pin p hp
  exact⟨p1,fro.none_of p2,p3⟩
theorem Inv.thaw{X:Cx}{pins:List (Addr×Obj)}{σ:St}{H H3 H4:Hp}{s s':Shared}(I:Inv X pins σ H s)(I3:Inv X pins σ H3 s')(th:Thaw H H3 H4):Inv X pins σ H4 s':=by
 have stay:∀b o,H3 b=some o->(∀u ob,o≠.frz ob u)->H4 b=some o:=λb o e n=>by
  rcases th b with⟨u,ob,_,_,z,_⟩|⟨_,z⟩
  ·rw[e]at z;cases z;exact absurd rfl (n u ob)
  ·rw[z];exact e
 have none4:∀b,H3 b=none->H4 b=none:=λb e=>by
  rcases th b with⟨u,ob,_,_,z,_⟩|⟨_,z⟩
  ·rw[e]at z;cases z
  ·rw[z];exact e
 refine⟨I3.ok,I3.os,I3.bare,⟨I3.base.keep,I3.base.slot,λb o e n hx=>none4 b (I3.base.free b o e n hx),I3.base.there,λb xs e=>stay b _ (I3.base.tups b xs e) (λ_ _ z=>by cases z),λb o u e=>?_,λb ps e=>?_⟩,I3.loc,I3.cell,none4 _ I3.free,λx c e=>none4 c (I3.freeC x c e),λp hp=>?_,λb o e=>?_,I3.len⟩
 ·rcases th b with⟨o',ob,n,z,_⟩|⟨_,z⟩
  ·rw[I.base.frzs b o u e]at z;cases z;exact absurd n ql_
  ·rw[z];exact I3.base.frzs b o u e
 ·obtain⟨more,z⟩:=I3.base.tbls b ps e
  exact⟨more,stay b _ z (λ_ _ z=>by cases z)⟩
 ·obtain⟨p1,p2,p3⟩:=I3.pin p hp
  exact⟨p1,none4 _ p2,p3⟩
 ·have st:∀o,ObjOk X.prog X.w H3 s'.heap b o->ObjOk X.prog X.w H4 s'.heap b o:=λo x=>x.stay (λ_ _ _ r=>r) (λd r=>stay d _ r (λ_ _ z=>by cases z)) λd xs r=>stay d _ r (λ_ _ z=>by cases z)
  rcases th b with⟨o',ob,n,_,z,z'⟩|⟨_,z⟩
  ·rw[z']at e
   cases e
   obtain⟨_,y⟩:=(show ObjOk X.prog X.w H3 s'.heap b (.frz ob o) from I3.hok b _ z)
   exact st o y
  ·rw[z]at e
   exact st o (I3.hok b o e)
def pkS:Sl->Sl
 |.own Ts=>.va (.seq false Ts)
 |.dct kts=>.va (.dct kts)
 |.dk=>.no
 |s=>s
def pkE(ρ:aU):aU:=ρ.map pkS
theorem zCP{K:W.Frag}{F:Fm}{ρ:aU}{σ:St}{H H2:Hp}(f:FrOk K F ρ σ H)(fro:FrozenA pH H H2):FrOk K ⟨H2,none⟩ (pkE ρ) σ H2:=by
 have hs:=fro.hs
 refine⟨λ_ _ z=>(nomatch z),⟨λ_ _ e _=>e,λ_ _ z=>(nomatch z)⟩,by unfold pkE;rw[qc_];exact f.len,λi s e=>?_,λi j a s t e _ m _ _ _=>?_⟩
 ·unfold pkE at e
  rw[qv_]at e
  obtain⟨s0,e0,rfl⟩:=qg1_.mp e
  have h:=f.at_ i s0 e0
  cases s0 with
  |no=>trivial
  |va T=>obtain⟨y,e1,v⟩:=h;exact⟨y,e1,v.hs hs⟩
  |own Ts=>
   obtain⟨a,xs,e1,e2,e3,z,p⟩:=h
   obtain⟨ob,e4⟩:=fro.fz (b:=a) rfl e2 rfl
   exact⟨_,e1,VA.seq (t:=false) ⟨ob,e4⟩ z (p.hs hs)⟩
  |dct kts=>
   obtain⟨a,kvs,e1,e2,e3,n,z,p⟩:=h
   obtain⟨ob,e4⟩:=fro.fz (b:=a) rfl e2 rfl
   exact⟨_,e1,VA.dct ⟨ob,e4⟩ n z (p.hs hs)⟩
  |dk=>trivial
 ·unfold pkE at e
  rw[qv_]at e
  obtain⟨s0,e0,rfl⟩:=qg1_.mp e
  cases s0<;>cases m
theorem zBF{K:W.Frag}{ρ ρ':aU}{σ:St}{H2 H3:Hp}{H0:Hp}(s:Stp K ⟨H0,none⟩ σ (pkE ρ) H2 ρ' H3):Same H2 H3:=λb o e=>s.st b o e (λ_ _ z=>(nomatch z)) λi t e1 m=>by
 unfold pkE at e1
 rw[qv_]at e1
 obtain⟨s0,e0,rfl⟩:=qg1_.mp e1
 cases s0<;>cases m
section
variable{X:Cx}{F:Fm}{e:Expr}
def zJx(u:UT):UT:=λρ Q=>u (pkE ρ) λT _=>∃v,T=.leaf v/\Q T ρ
theorem vH{u:UT}(h:∀F,UE X F e u):UE X F e (zJx u):=⟨λpins s σ H QQ I ⟨ρ,Q,f,hu,k⟩=>by
 obtain⟨H2,fro,ok2⟩:=zAr I.hok
 have f2:=zCP f fro
 refine thn ((h ⟨H2,none⟩).pe pins s σ H2 (λx H3=>∃v ρ',Stp X.K ⟨H2,none⟩ σ (pkE ρ) H2 ρ' H3/\VA X.K H3 x (.leaf v)/\Q (.leaf v) ρ) (I.frozen fro ok2) ⟨_,_,f2,hu,λx T H' ρ' st v q=>?_⟩) λu s' ⟨x,H3,I3,r,q⟩=>?_
 ·obtain⟨w,rfl,q⟩:=q
  exact⟨w,ρ',st,v,q⟩
 ·obtain⟨v,ρ',st,va,q⟩:=q
  obtain⟨H4,th⟩:=zBr H H3
  obtain⟨rfl,fl⟩:=va.leafI
  exact⟨x,H4,I.thaw I3 th,r,k _ _ _ _ (Stp.same f (Thaw.same fro (zBF st) th)) (.flat fl) q⟩⟩
def zHW(u:UTt):UTt:=λρ Q=>u (pkE ρ) λb _=>Q b ρ
theorem zGG{u:UTt}(h:∀F,UB X F e u):UB X F e (zHW u):=⟨λpins s σ H QQ I ⟨ρ,Q,f,hu,k⟩=>by
 obtain⟨H2,fro,ok2⟩:=zAr I.hok
 have f2:=zCP f fro
 refine thn ((h ⟨H2,none⟩).pt pins s σ H2 (λb H3=>∃ρ',Stp X.K ⟨H2,none⟩ σ (pkE ρ) H2 ρ' H3/\Q b ρ) (I.frozen fro ok2) ⟨_,_,f2,hu,λb H' ρ' st q=>⟨ρ',st,q⟩⟩) λb s' ⟨H3,I3,q⟩=>?_
 obtain⟨ρ',st,q⟩:=q
 obtain⟨H4,th⟩:=zBr H H3
 exact⟨H4,I.thaw I3 th,k _ _ _ (Stp.same f (Thaw.same fro (zBF st) th)) q⟩⟩
end
end L2
namespace L2
open PySem PySem.Spec PyProof.Rows WordM
mutual
def eqT:Tv->Tv->Bool
 |.leaf v,.leaf w=>eqV v w
 |.seq s xs,.seq t ys=>s==t&&cL xs ys
 |_,_=>false
def cL:List Tv->List Tv->Bool
 |[],[]=>true
 |x::xs,y::ys=>eqT x y&&cL xs ys
 |_,_=>false
end
def EqD:Nat->Tv->Prop
 |0,_=>False
 |_+1,.leaf _=>True
 |n+1,.seq _ xs=>∀U∈xs,EqD n U
 |_+1,.dct _=>False
theorem vD:∀{xs ys:List Tv},xs.length≠ys.length->cL xs ys=false
 |[],[],h=>absurd rfl h
 |[],_::_,_=>by simp[cL]
 |_::_,[],_=>by simp[cL]
 |x::xs,y::ys,h=>by
  have:=vD (xs:=xs) (ys:=ys) (λe=>h (by simp[e]))
  simp[cL,this]
theorem tT:∀{xs ys:List Tv},xs.length=ys.length->(List.range xs.length).all (λi=>eqT (xs.getD i nT) (ys.getD i nT))=cL xs ys
 |[],[],_=>by simp[cL]
 |[],_::_,h=>by simp at h
 |_::_,[],h=>by simp at h
 |x::xs,y::ys,h=>by
  have ih:=tT (xs:=xs) (ys:=ys) (by simpa using h)
  rw[qI_,qt2_,List.all_cons,List.all_map]
  show(eqT x y&&(List.range xs.length).all λi=>eqT (xs.getD i nT) (ys.getD i nT))=cL (x::xs) (y::ys)
  rw[ih]
  simp[cL]
theorem EqD.vp{K:W.Frag}{H:Hp}:∀{n d:Nat}{x:V}{T:Tv},EqD n T->VP K H d x T->VP K H n x T
 |0,_,_,_,h,_=>False.elim h
 |_+1,0,_,_,_,h=>False.elim h
 |n+1,d+1,x,T,h,v=>by
  rcases v with v|⟨t,a,xs,Ts,e1,e2,rfl,z,p⟩|⟨a,kvs,kts,e1,e2,rfl,_⟩
  ·exact .inl v
  ·have g:∀U∈Ts,EqD n U:=h
   refine .inr (.inl ⟨t,a,xs,Ts,e1,e2,rfl,z,?_⟩)
   clear e2 z h
   induction p with
   |nil=>exact .nil
   |cons r _ ih=>exact .cons ((g _ (.head _)).vp r) (ih λU hU=>g U (.tail _ hU))
  ·exact False.elim h
section
variable{X:Cx}{pins:List (Addr×Obj)}{σ:St}{H:Hp}{s:Shared}
theorem zGi{v:V}(h:dI v=true):eqV v v=true:=by
 cases v<;>first|exact absurd h ql_|simp[eqV]
theorem PSeq.isList{a:Addr}{xs:List V}(I:Inv X pins σ H s)(h:PSeq X.K H false a xs):∃its:List Value,Vals xs its/\s.heap.IsList a its.toArray:=by
 obtain⟨its,r,p,_⟩:=I.list (cP h)
 exact⟨its,r,p.isList⟩
theorem PSeq.isTup{a:Addr}{xs:List V}(I:Inv X pins σ H s)(h:PSeq X.K H true a xs):∃its:List Value,Vals xs its/\s.heap.IsTuple a its.toArray:=by
 obtain⟨its,r,p,_⟩:=I.tuple h
 exact⟨its,r,p⟩
theorem zBZ(I:Inv X pins σ H s):∀{n:Nat}{x:V}{T U:Tv},VP X.K H n x T->VP X.K H n x U->EqD n T->EqD n U->eqT T U=true
 |0,_,_,_,h,_,_,_=>False.elim h
 |n+1,x,T,U,h,h',d,d'=>by
  rcases h with⟨f,rfl⟩|⟨t,a,xs,Ts,rfl,e2,rfl,z,p⟩|⟨a,kvs,kts,rfl,e2,rfl,_⟩
  ·rcases h' with⟨_,rfl⟩|⟨t',a',xs',Ts',rfl,_⟩|⟨a',kvs',kts',rfl,_⟩
   ·simp[eqT,zGi f]
   ·cases f
   ·cases f
  ·rcases h' with⟨f,rfl⟩|⟨t',a',xs',Ts',e1',e2',rfl,z',p'⟩|⟨a',kvs',kts',e1',e2',rfl,_⟩
   ·cases f
   ·cases e1'
    have tt:t=t':=by
     cases t<;>cases t'<;>first|rfl|skip
     ·obtain⟨_,_,l1⟩:=PSeq.isList I e2
      obtain⟨_,_,l2⟩:=PSeq.isTup I e2'
      exact absurd rfl (SeqAt.ne_of_list_tuple l1 l2)
     ·obtain⟨_,_,l1⟩:=PSeq.isList I e2'
      obtain⟨_,_,l2⟩:=PSeq.isTup I e2
      exact absurd rfl (SeqAt.ne_of_list_tuple l1 l2)
    subst tt
    have ex:xs=xs':=by
     cases t with
     |false=>exact I.list_inj (cP e2) (cP e2')
     |true=>exact I.tuple_inj e2 e2'
    subst ex
    have d:∀U∈Ts,EqD n U:=d
    have d':∀U∈Ts',EqD n U:=d'
    have key:∀{xs:List V} {Ts Ts':List Tv},Paired (VP X.K H n) xs Ts->Paired (VP X.K H n) xs Ts'->(∀U∈Ts,EqD n U)->(∀U∈Ts',EqD n U)->cL Ts Ts'=true:=by
     intro xs Ts Ts' p
     induction p generalizing Ts' with
     |nil=>intro p' _ _;cases p';simp[cL]
     |cons r _ ih=>
      intro p' d d'
      cases p' with
      |cons r' t'=>simp[cL,zBZ I r r' (d _ (.head _)) (d' _ (.head _)),ih t' (λU hU=>d U (.tail _ hU)) (λU hU=>d' U (.tail _ hU))]
    simp[eqT,key p p' d d']
   ·exact False.elim d'
  ·exact False.elim d
theorem jX{x:V}(h:dI x=true):x=.non\/(∃b,x=.bl b)\/(∃i,x=.int i)\/∃z,x=.str z:=by
 cases x with
 |non=>exact .inl rfl
 |bl b=>exact .inr (.inl ⟨b,rfl⟩)
 |int i=>exact .inr (.inr (.inl ⟨i,rfl⟩))
 |str z=>exact .inr (.inr (.inr ⟨z,rfl⟩))
 |_=>exact absurd (show false=true from h) ql_
open SeqAt in
theorem pQ(I:Inv X pins σ H s){A:Around}(hu:A.units<cLine){x:V}{v:Value}{t:Bool}{a:Addr}{xs:List V}(f:dI x=true)(r:RelV x v)(h:PSeq X.K H t a xs):
  EqAt A s v (.ref a) false/\EqAt A s (.ref a) v false/\RcAt A s v (.ref a) false/\RcAt A s (.ref a) v false/\RcNeAt A s v (.ref a) true/\RcNeAt A s (.ref a) v true:=by
 cases t with
 |false=>
  obtain⟨_,_,l⟩:=PSeq.isList I h
  rcases jX f with rfl|⟨b,rfl⟩|⟨b,rfl⟩|⟨b,rfl⟩
  ·cases r;exact⟨.none_list l hu,.list_none l hu,.none_list l hu,.list_none l hu,.none_list l hu,.list_none l hu⟩
  ·cases r;exact⟨.bool_list b l hu,.list_bool b l hu,.bool_list b l hu,.list_bool b l hu,.bool_list b l hu,.list_bool b l hu⟩
  ·obtain⟨t,rfl⟩:=r;exact⟨.int_list b t l hu,.list_int b t l hu,.int_list b t l hu,.list_int b t l hu,.int_list b t l hu,.list_int b t l hu⟩
  ·obtain⟨t,rfl⟩:=r;exact⟨.str_list b t l hu,.list_str b t l hu,.str_list b t l hu,.list_str b t l hu,.str_list b t l hu,.list_str b t l hu⟩
 |true=>
  obtain⟨_,_,l⟩:=PSeq.isTup I h
  rcases jX f with rfl|⟨b,rfl⟩|⟨b,rfl⟩|⟨b,rfl⟩
  ·cases r;exact⟨.none_tuple l hu,.tuple_none l hu,.none_tuple l hu,.tuple_none l hu,.none_tuple l hu,.tuple_none l hu⟩
  ·cases r;exact⟨.bool_tuple b l hu,.tuple_bool b l hu,.bool_tuple b l hu,.tuple_bool b l hu,.bool_tuple b l hu,.tuple_bool b l hu⟩
  ·obtain⟨t,rfl⟩:=r;exact⟨.int_tuple b t l hu,.tuple_int b t l hu,.int_tuple b t l hu,.tuple_int b t l hu,.int_tuple b t l hu,.tuple_int b t l hu⟩
  ·obtain⟨t,rfl⟩:=r;exact⟨.str_tuple b t l hu,.tuple_str b t l hu,.str_tuple b t l hu,.tuple_str b t l hu,.str_tuple b t l hu,.tuple_str b t l hu⟩
open SeqAt in
theorem zGR{A:Around}{x y:V}{v u:Value}(fx:dI x=true)(fy:dI y=true)(rx:RelV x v)(ry:RelV y u):RcAt A s v u (eqV x y)/\RcNeAt A s v u (!eqV x y):=by
 rcases jX fx with rfl|⟨a,rfl⟩|⟨a,rfl⟩|⟨a,rfl⟩<;>rcases jX fy with rfl|⟨b,rfl⟩|⟨b,rfl⟩|⟨b,rfl⟩
 ·cases rx;cases ry;exact⟨.none_none,.none_none⟩
 ·cases rx;cases ry;exact⟨.none_bool b,.none_bool b⟩
 ·cases rx;obtain⟨t,rfl⟩:=ry;exact⟨.none_int b t,.none_int b t⟩
 ·cases rx;obtain⟨t,rfl⟩:=ry;exact⟨.none_str b t,.none_str b t⟩
 ·cases rx;cases ry;exact⟨.bool_none a,.bool_none a⟩
 ·cases rx;cases ry;exact⟨.bool_bool a b,.bool_bool a b⟩
 ·cases rx;obtain⟨t,rfl⟩:=ry;exact⟨.bool_int a b t,.bool_int a b t⟩
 ·cases rx;obtain⟨t,rfl⟩:=ry;exact⟨.bool_str a b t,.bool_str a b t⟩
 ·obtain⟨t',rfl⟩:=rx;cases ry;exact⟨.int_none a t',.int_none a t'⟩
 ·obtain⟨t',rfl⟩:=rx;cases ry;exact⟨.int_bool a t' b,.int_bool a t' b⟩
 ·obtain⟨t',rfl⟩:=rx;obtain⟨t,rfl⟩:=ry;exact⟨.int_int a t' b t,.int_int a t' b t⟩
 ·obtain⟨t',rfl⟩:=rx;obtain⟨t,rfl⟩:=ry;exact⟨.int_str a t' b t,.int_str a t' b t⟩
 ·obtain⟨t',rfl⟩:=rx;cases ry;exact⟨.str_none a t',.str_none a t'⟩
 ·obtain⟨t',rfl⟩:=rx;cases ry;exact⟨.str_bool a t' b,.str_bool a t' b⟩
 ·obtain⟨t',rfl⟩:=rx;obtain⟨t,rfl⟩:=ry;exact⟨.str_int a t' b t,.str_int a t' b t⟩
 ·obtain⟨t',rfl⟩:=rx;obtain⟨t,rfl⟩:=ry;exact⟨.str_str a t' b t,.str_str a t' b t⟩
theorem zAH{xs:List V}{us:List Value}(r:Vals xs us){j:Nat}(h:j<us.toArray.size):∃x,xs[j]?=some x/\RelV x us.toArray[j]:=by
 have l:=r.length
 have k:j<xs.length:=by rw[l];simpa using h
 obtain⟨u,hu,ru⟩:=r.get (i:=j) (x:=xs[j]) (qk_ k)
 refine⟨_,qk_ k,?_⟩
 have e1:us.toArray[j]=u:=by
  obtain⟨_,e⟩:=qx_.mp hu
  simpa using e
 rw[e1];exact ru
open SeqAt in
theorem zCg(I:Inv X pins σ H s){A:Around}(hu:A.units<cLine){t:Bool}{a b:Addr}{xs ys:List V}{Ts Us:List Tv}(ha:PSeq X.K H t a xs)(hb:PSeq X.K H t b ys)(lx:xs.length=Ts.length)(ly:ys.length=Us.length)
  (it:∀(j:Nat) (x y:V) (T U:Tv) (v u:Value),xs[j]?=some x->ys[j]?=some y->Ts[j]?=some T->Us[j]?=some U->RelV x v->RelV y u->EqAt A.in1 s v u (eqT T U)):RcAt A s (.ref a) (.ref b) (cL Ts Us)/\RcNeAt A s (.ref a) (.ref b) (!cL Ts Us):=by
 have item:∀{vs us:List Value},Vals xs vs->Vals ys us->∀j (h1:j<vs.toArray.size) (h2:j<us.toArray.size),EqAt A.in1 s vs.toArray[j] us.toArray[j] (eqT (Ts.getD j nT) (Us.getD j nT)):=λ{vs us} r1 r2 j h1 h2=>by
  obtain⟨x,ex,rx⟩:=zAH r1 h1
  obtain⟨y,ey,ry⟩:=zAH r2 h2
  have k1:=(qx_.mp ex).1
  have k2:=(qx_.mp ey).1
  refine it j x y _ _ _ _ ex ey ?_ ?_ rx ry
  ·rw[qV_,qk_ (by omega)];rfl
  ·rw[qV_,qk_ (by omega)];rfl
 cases t with
 |false=>
  obtain⟨vs,r1,l1⟩:=PSeq.isList I ha
  obtain⟨us,r2,l2⟩:=PSeq.isList I hb
  have n1:=r1.length
  have n2:=r2.length
  by_cases hl:Ts.length=Us.length
  ·have e1:=RcAt.lists l1 l2 (by simp only[List.size_toArray];omega) hu (item r1 r2)
   have e2:=RcNeAt.lists l1 l2 (by simp only[List.size_toArray];omega) hu (item r1 r2)
   rw[show vs.toArray.size=Ts.length by rw[qn_];omega,tT hl]at e1 e2
   exact⟨e1,e2⟩
  ·rw[vD hl]
   have hne:(vs.toArray.size != us.toArray.size)=true:=by
    rw[bne_iff_ne,qn_,qn_];omega
   exact⟨.lists_lengths l1 l2 hne hu,.lists_lengths l1 l2 hne hu⟩
 |true=>
  obtain⟨vs,r1,l1⟩:=PSeq.isTup I ha
  obtain⟨us,r2,l2⟩:=PSeq.isTup I hb
  have n1:=r1.length
  have n2:=r2.length
  have e1:=RcAt.tuples l1 l2 hu (item r1 r2)
  have e2:=RcNeAt.tuples l1 l2 hu (item r1 r2)
  have ee:((List.range (min vs.toArray.size us.toArray.size)).all (λi=>eqT (Ts.getD i nT) (Us.getD i nT))&&vs.toArray.size==us.toArray.size)=cL Ts Us:=by
   rw[show vs.toArray.size=Ts.length by rw[qn_];omega,show us.toArray.size=Us.length by rw[qn_];omega]
   by_cases hl:Ts.length=Us.length
   ·rw[<-hl,Nat.min_self,tT hl];simp
   ·rw[vD hl,beq_eq_false_iff_ne.mpr hl,qA2_]
  rw[ee]at e1 e2
  exact⟨e1,e2⟩
open SeqAt in
theorem vZ(I:Inv X pins σ H s):∀(n:Nat) {A:Around}{x y:V}{T U:Tv}{v u:Value},A.units+n<cLine->EqD n T->EqD n U->VP X.K H n x T->VP X.K H n y U->RelV x v->RelV y u->EqAt A s v u (eqT T U)
 |0,_,_,_,_,_,_,_,_,h,_,_,_,_,_=>False.elim h
 |n+1,A,x,y,T,U,v,u,hu,d,d',h,h',rx,ry=>by
  have hu0:A.units<cLine:=by omega
  have hh:=h
  have hh':=h'
  rcases h with⟨f,rfl⟩|⟨t,a,xs,Ts,rfl,e2,rfl,z,p⟩|⟨a,kvs,kts,rfl,e2,rfl,_⟩
  ·rcases h' with⟨f',rfl⟩|⟨t',a',xs',Ts',rfl,e2',rfl,z',p'⟩|⟨a',kvs',kts',rfl,_,rfl,_⟩
   ·have:=zCw (A:=A) (s:=s) rx ry f f'
    simpa[eqT]using this
   ·cases ry
    have:=(pQ I hu0 f rx e2').1
    simpa[eqT]using this
   ·exact False.elim d'
  ·rcases h' with⟨f',rfl⟩|⟨t',b,ys,Us,rfl,e2',rfl,z',p'⟩|⟨a',kvs',kts',rfl,_,rfl,_⟩
   ·cases rx
    have:=(pQ I hu0 f' ry e2).2.1
    simpa[eqT]using this
   ·cases rx
    cases ry
    by_cases ab:a=b
    ·subst ab
     have:=zBZ I hh hh' d d'
     rw[this]
     exact EqAt.same _
    ·by_cases tt:t=t'
     ·subst tt
      have d:∀U∈Ts,EqD n U:=d
      have d':∀U∈Us,EqD n U:=d'
      have:=(zCg I hu0 e2 e2' (Paired.length p) (Paired.length p') λj x y T U v u ex ey eT eU rx ry=>by
       obtain⟨T',eT',vx⟩:=eY p ex
       obtain⟨U',eU',vy⟩:=eY p' ey
       rw[eT]at eT';cases eT'
       rw[eU]at eU';cases eU'
       exact vZ I n (by show A.units+1+n<_;omega) (d _ (qE_ eT)) (d' _ (qE_ eU)) vx vy rx ry).1
      have r:=EqAt.of_refs ab this
      simpa[eqT]using r
     ·have e:eqT (.seq t Ts) (.seq t' Us)=false:=by simp[eqT,tt]
      rw[e]
      refine EqAt.of_refs ab ?_
      cases t<;>cases t'<;>first|exact absurd rfl tt|skip
      ·obtain⟨_,_,l1⟩:=PSeq.isList I e2
       obtain⟨_,_,l2⟩:=PSeq.isTup I e2'
       exact .list_tuple l1 l2 hu0
      ·obtain⟨_,_,l1⟩:=PSeq.isTup I e2
       obtain⟨_,_,l2⟩:=PSeq.isList I e2'
       exact .tuple_list l1 l2 hu0
   ·exact False.elim d'
  ·exact False.elim d
end
def zLP(Ts Us:List Tv):Prop:=Ts=[]\/Us=[]\/((∀T∈Ts,EqD 40 T)/\∀U∈Us,EqD 40 U)
def jT(neg:Bool):P2
 |.leaf v,.leaf w,Q=>Q (bT (neg != eqV v w))
 |.leaf _,.seq _ _,Q=>Q (bT neg)
 |.seq _ _,.leaf _,Q=>Q (bT neg)
 |.seq s xs,.seq t ys,Q=>zLP xs ys/\Q (bT (neg != (s==t&&cL xs ys)))
 |_,_,_=>False
section
variable{X:Cx}
open SeqAt in
theorem zB0{pins:List (Addr×Obj)}{σ:St}{H:Hp}{s:Shared}(I:Inv X pins σ H s)(hu:X.A.units+64<cLine){neg:Bool}{x y:V}{T U:Tv}{v u:Value}{Q:Tv->Prop}(vx:VA X.K H x T)(vy:VA X.K H y U)(rx:RelV x v)(ry:RelV y u)(h:jT neg T U Q):
  ∃b,Q (bT (neg != b))/\RcAt X.A s v u b/\RcNeAt X.A s v u (!b):=by
 have hu0:X.A.units<cLine:=by omega
 unfold jT at h
 split at h
 ·obtain⟨rfl,f⟩:=vx.leafI
  obtain⟨rfl,f'⟩:=vy.leafI
  exact⟨_,h,zGR f f' rx ry⟩
 ·obtain⟨rfl,f⟩:=vx.leafI
  obtain⟨a,xs,rfl,hs,_⟩:=vy.seqI
  cases ry
  have r:=pQ I hu0 f rx hs
  exact⟨false,by simpa using h,r.2.2.1,r.2.2.2.2.1⟩
 ·obtain⟨rfl,f⟩:=vy.leafI
  obtain⟨a,xs,rfl,hs,_⟩:=vx.seqI
  cases rx
  have r:=pQ I hu0 f ry hs
  exact⟨false,by simpa using h,r.2.2.2.1,r.2.2.2.2.2⟩
 ·rename_i t Ts t' Us
  obtain⟨ok,q⟩:=h
  obtain⟨a,xs,rfl,hs,z,p⟩:=vx.seqI
  obtain⟨b,ys,rfl,hs',z',p'⟩:=vy.seqI
  cases rx
  cases ry
  refine⟨_,q,?_⟩
  by_cases tt:t=t'
  ·subst tt
   have e:(t==t&&cL Ts Us)=cL Ts Us:=by simp
   rw[e]
   refine zCg I hu0 hs hs' (Paired.length p) (Paired.length p') λj x y T U v u ex ey eT eU rx ry=>?_
   rcases ok with rfl|rfl|⟨o1,o2⟩
   ·cases eT
   ·cases eU
   ·obtain⟨T',eT',d,vx⟩:=eY p ex
    obtain⟨U',eU',d',vy⟩:=eY p' ey
    rw[eT]at eT';cases eT'
    rw[eU]at eU';cases eU'
    have k1:=o1 _ (qE_ eT)
    have k2:=o2 _ (qE_ eU)
    exact vZ I 40 (by show X.A.units+1+40<_;omega) k1 k2 (k1.vp vx) (k2.vp vy) rx ry
  ·have e:(t==t'&&cL Ts Us)=false:=by simp[tt]
   rw[e]
   cases t<;>cases t'<;>first|exact absurd rfl tt|skip
   ·obtain⟨_,_,l1⟩:=PSeq.isList I hs
    obtain⟨_,_,l2⟩:=PSeq.isTup I hs'
    exact⟨.list_tuple l1 l2 hu0,.list_tuple l1 l2 hu0⟩
   ·obtain⟨_,_,l1⟩:=PSeq.isTup I hs
    obtain⟨_,_,l2⟩:=PSeq.isList I hs'
    exact⟨.tuple_list l1 l2 hu0,.tuple_list l1 l2 hu0⟩
 ·exact False.elim h
def zC0(K:W.Frag)(neg:Bool):R2:=λx y H Q=>∃T U,VA K H x T/\VA K H y U/\jT neg T U λW=>∃b,W=bT b/\Q (.bl b) H
theorem zIT(hu:X.A.units+64<cLine):OpR X (compareOp .Eq) (zC0 X.K false):=by
 rintro pins s σ H x y v u Q I rx ry ⟨T,U,vx,vy,h⟩
 obtain⟨b,⟨b',e,q⟩,r,_⟩:=zB0 I hu vx vy rx ry h
 cases e
 exact r X.prog X.w X.xe _ ⟨.bl b,H,I,rfl,by simpa using q⟩
theorem zIQ(hu:X.A.units+64<cLine):OpR X (compareOp .NotEq) (zC0 X.K true):=by
 rintro pins s σ H x y v u Q I rx ry ⟨T,U,vx,vy,h⟩
 obtain⟨b,⟨b',e,q⟩,_,r⟩:=zB0 I hu vx vy rx ry h
 cases e
 exact r X.prog X.w X.xe _ ⟨.bl (!b),H,I,rfl,by simpa using q⟩
theorem zAg{neg:Bool}{T U:Tv}{Q Q':Tv->Prop}(h:jT neg T U Q)(i:∀b,Q (bT b)->Q' (bT b)):jT neg T U Q':=by
 unfold jT at h ⊢
 split at h
 ·exact i _ h
 ·exact i _ h
 ·exact i _ h
 ·exact⟨h.1,i _ h.2⟩
 ·exact False.elim h
abbrev pEq:P2:=jT false
abbrev pNe:P2:=jT true
theorem kM(hu:X.A.units+64<cLine):PuCmp X (compareOp .Eq) pEq:=⟨_,zIT hu,λx y T U H Q QQ vx vy h k=>⟨T,U,vx,vy,zAg h λb q=>⟨b,rfl,k _ _ _ (Same.refl _) (.flat rfl) q⟩⟩⟩
theorem zJU(hu:X.A.units+64<cLine):PuCmp X (compareOp .NotEq) pNe:=⟨_,zIQ hu,λx y T U H Q QQ vx vy h k=>⟨T,U,vx,vy,zAg h λb q=>⟨b,rfl,k _ _ _ (Same.refl _) (.flat rfl) q⟩⟩⟩
end
end L2
namespace L2
open PySem PySem.Spec PyProof.Rows WordM
section
variable{X:Cx}{F:Fm}
theorem dL{K:W.Frag}{H:Hp}{xs:List V}{T:Tv}(h:VAs K H xs [T]):∃x,xs=[x]/\VA K H x T:=by
 cases h with
 |cons r t=>cases t;exact⟨_,rfl,r⟩
theorem wW{K:W.Frag}{H:Hp}{xs:List V}{T U:Tv}(h:VAs K H xs [T,U]):∃x y,xs=[x,y]/\VA K H x T/\VA K H y U:=by
 cases h with
 |cons r t=>
  obtain⟨y,rfl,v⟩:=dL t
  exact⟨_,y,rfl,r,v⟩
def zJR(K:W.Frag):R2:=λx y H Q=>∃l b xs zs,x=.ref l/\y=.ref b/\Rd H l (.lst xs)/\Rd H b (.lst zs)/\xs.length+zs.length<=sizeLine/\∀p,H p=none->Q (.ref p) (upd H p (.lst (xs++zs)))
theorem zHh:OpR X (binaryOp .Add) (zJR X.K):=by
 rintro pins s σ H _ _ v u Q I rx ry ⟨l,b,xs,zs,rfl,rfl,hH,hB,hz,q⟩
 cases rx
 cases ry
 obtain⟨z,its,n,r,e⟩:=hH.ok I.hok
 obtain⟨z2,its2,n2,r2,e2⟩:=hB.ok I.hok
 have l1:=r.length
 have l2:=r2.length
 refine PySem.P.add_list e e2 ?_ (by rw[qn_,qn_];omega)
 rw[show its.toArray++its2.toArray=(its++its2).toArray by simp]
 exact⟨.ref _,_,I.lnew (t':=s.toks) (r.append r2) (by rw[qj_];omega),rfl,q _ I.fresh⟩
def zC7:P2
 |.leaf (.int i),.leaf (.int j),Q=>Q (iT (i+j))
 |.leaf (.str x),.leaf (.str y),Q=>x.length+y.length<=100000/\Q (sT (x++y))
 |.seq true xs,.seq true ys,Q=>xs.length+ys.length<=100000/\Q (.seq true (xs++ys))
 |.seq false xs,.seq false ys,Q=>xs.length+ys.length<=100000/\Q (.seq false (xs++ys))
 |_,_,_=>False
theorem cY:fW X (binaryOp .Add) zC7:=⟨_,op_add.or (op_add_str.or (op_catG.or zHh)),λx y T U H Q QQ vx vy h k=>by
 unfold zC7 at h
 split at h
 ·obtain⟨rfl,_⟩:=vx.leafI
  obtain⟨rfl,_⟩:=vy.leafI
  exact .inl ⟨_,_,rfl,rfl,k _ _ _ (.flat rfl) h⟩
 ·obtain⟨rfl,_⟩:=vx.leafI
  obtain⟨rfl,_⟩:=vy.leafI
  exact .inr (.inl ⟨_,_,rfl,rfl,gR h.1,k _ _ _ (.flat rfl) h.2⟩)
 ·obtain⟨a,xs,rfl,hs,z,p⟩:=vx.seqI
  obtain⟨b,ys,rfl,hs',z',p'⟩:=vy.seqI
  have l1:xs.length=_:=Paired.length p
  have l2:ys.length=_:=Paired.length p'
  refine .inr (.inr (.inl ⟨a,b,xs,ys,rfl,rfl,hs,hs',gR (by omega),λr H' hr sm=>k _ _ _ ⟨sm,.inl (VA.seq (t:=true) hr (by rw[qj_];exact h.1) (pT (p.hs sm.hs) (p'.hs sm.hs)))⟩ h.2⟩))
 ·obtain⟨a,xs,rfl,⟨ob,hs⟩,z,p⟩:=vx.seqI
  obtain⟨b,ys,rfl,⟨ob',hs'⟩,z',p'⟩:=vy.seqI
  have l1:xs.length=_:=Paired.length p
  have l2:ys.length=_:=Paired.length p'
  refine .inr (.inr (.inr ⟨a,b,xs,ys,rfl,rfl,.inr ⟨ob,hs⟩,.inr ⟨ob',hs'⟩,gR (by omega),λr n=>k _ _ _ (Raw.lst n (by rw[qj_];exact h.1) (pT p p')) h.2⟩))
 ·exact False.elim h⟩
def pI2(C:Int->Int->Prop)(g:Int->Int->V):P2
 |.leaf (.int i),.leaf (.int j),Q=>C i j/\Q (.leaf (g i j))
 |_,_,_=>False
theorem rR{f:Value->Value->Sem Value}{C:Int->Int->Prop}{g:Int->Int->V}(h:OpR X f (rI C g))(fl:∀i j,dI (g i j)=true):PuCmp X f (pI2 C g):=⟨_,h,λx y T U H Q QQ vx vy h k=>by
 unfold pI2 at h
 split at h
 ·obtain⟨rfl,_⟩:=vx.leafI
  obtain⟨rfl,_⟩:=vy.leafI
  exact⟨_,_,rfl,rfl,h.1,k _ _ _ (Same.refl _) (.flat (fl _ _)) h.2⟩
 ·exact False.elim h⟩
def pG(g:Int->Int->V):P2
 |.leaf (.int i),.leaf (.int j),Q=>Q (.leaf (g i j))
 |_,_,_=>False
theorem wJ{f:Value->Value->Sem Value}{g:Int->Int->V}(h:OpR X f (rI0 g))(fl:∀i j,dI (g i j)=true):PuCmp X f (pG g):=⟨_,h,λx y T U H Q QQ vx vy h k=>by
 unfold pG at h
 split at h
 ·obtain⟨rfl,_⟩:=vx.leafI
  obtain⟨rfl,_⟩:=vy.leafI
  exact⟨_,_,rfl,rfl,k _ _ _ (Same.refl _) (.flat (fl _ _)) h⟩
 ·exact False.elim h⟩
abbrev zKT:P2:=pG λi j=>.int (i-j)
theorem iR:fW X (binaryOp .Sub) zKT:=(wJ zIN λ_ _=>rfl).op
def zKq(i j:Int):Prop:=CMul i j\/(BigOk i/\BigOk j)
def xU:P2
 |.leaf (.int i),.leaf (.int j),Q=>zKq i j/\Q (iT (i*j))
 |.leaf (.str z),.leaf (.int n),Q=>(z.length<=1000/\n<=1000 /\ -1000<=n)/\Q (sT (mR z n))
 |_,_,_=>False
theorem zIp:fW X (binaryOp .Mult) xU:=⟨_,op_mul.or (op_mulB.or zHe),λx y T U H Q QQ vx vy h k=>by
 unfold xU at h
 split at h
 ·obtain⟨rfl,_⟩:=vx.leafI
  obtain⟨rfl,_⟩:=vy.leafI
  rcases h.1 with c|c
  ·exact .inl ⟨_,_,rfl,rfl,c,k _ _ _ (.flat rfl) h.2⟩
  ·exact .inr (.inl ⟨_,_,rfl,rfl,c,k _ _ _ (.flat rfl) h.2⟩)
 ·obtain⟨rfl,_⟩:=vx.leafI
  obtain⟨rfl,_⟩:=vy.leafI
  exact .inr (.inr ⟨_,_,rfl,rfl,h.1.1,h.1.2.1,h.1.2.2,k _ _ _ (.flat rfl) h.2⟩)
 ·exact False.elim h⟩
abbrev zJ2:P2:=pI2 (λ_ j=>0<j/\BigOk j) λi j=>.int (i / j)
theorem zBy:fW X (binaryOp .FloorDiv) zJ2:=(rR zAV λ_ _=>rfl).op
abbrev zKW:P2:=pI2 (λ_ j=>0<j) λi j=>.int (i % j)
theorem wI:fW X (binaryOp .Mod) zKW:=(rR iS λ_ _=>rfl).op
abbrev zKV:P2:=pI2 zDl λi j=>.int (i ^ j.toNat)
theorem oD:fW X (binaryOp .Pow) zKV:=(rR zCo λ_ _=>rfl).op
def pLt:P2
 |.leaf (.int i),.leaf (.int j),Q=>Q (bT (decide (i<j)))
 |.leaf (.str x),.leaf (.str y),Q=>Q (bT (decide (x.cps.toList<y.cps.toList)))
 |_,_,_=>False
theorem kL:PuCmp X (compareOp .Lt) pLt:=⟨_,op_lt.or zEN,λx y T U H Q QQ vx vy h k=>by
 unfold pLt at h
 split at h
 ·obtain⟨rfl,_⟩:=vx.leafI
  obtain⟨rfl,_⟩:=vy.leafI
  exact .inl ⟨_,_,rfl,rfl,k _ _ _ (Same.refl _) (.flat rfl) h⟩
 ·obtain⟨rfl,_⟩:=vx.leafI
  obtain⟨rfl,_⟩:=vy.leafI
  exact .inr ⟨_,_,rfl,rfl,k _ _ _ (Same.refl _) (.flat rfl) h⟩
 ·exact False.elim h⟩
abbrev pLe:P2:=pG λi j=>.bl (decide (i<=j))
theorem wR:PuCmp X (compareOp .LtE) pLe:=wJ zJ3 λ_ _=>rfl
abbrev pGt:P2:=pG λi j=>.bl (decide (j<i))
theorem zCG:PuCmp X (compareOp .Gt) pGt:=wJ zJ4 λ_ _=>rfl
def isV(v:V):Tv->Bool
 |.leaf w=>decide (w=v)
 |_=>false
theorem rL{K:W.Frag}{H:Hp}{x v:V}{T:Tv}(f:dI v=true)(h:VA K H x T):decide (x=v)=isV v T:=by
 cases T with
 |leaf w=>obtain⟨rfl,_⟩:=h.leafI;rfl
 |seq t Ts=>
  obtain⟨a,_,rfl,_⟩:=h.seqI
  exact qF_ (λz=>by rw[<-z]at f;cases f)
 |dct kts=>
  obtain⟨a,_,rfl,_⟩:=h.dctI
  exact qF_ (λz=>by rw[<-z]at f;cases f)
def sZ(neg:Bool):P2
 |T,.leaf .non,Q=>Q (bT (neg != isV .non T))
 |T,.leaf (.bl b),Q=>Q (bT (neg != isV (.bl b) T))
 |_,_,_=>False
abbrev pIs:P2:=sZ false
abbrev zCn:P2:=sZ true
theorem mD:PuCmp X (compareOp .Is) pIs:=⟨_,op_isN.or zIR,λx y T U H Q QQ vx vy h k=>by
 unfold pIs sZ at h
 split at h
 ·obtain⟨rfl,_⟩:=vy.leafI
  exact .inl ⟨rfl,k _ _ _ (Same.refl _) (.flat rfl) (by rw[rL rfl vx];simpa using h)⟩
 ·obtain⟨rfl,_⟩:=vy.leafI
  exact .inr ⟨_,rfl,k _ _ _ (Same.refl _) (.flat rfl) (by rw[rL rfl vx];simpa using h)⟩
 ·exact False.elim h⟩
theorem zFL:PuCmp X (compareOp .IsNot) zCn:=⟨_,op_notN.or zEO,λx y T U H Q QQ vx vy h k=>by
 unfold zCn sZ at h
 split at h
 ·obtain⟨rfl,_⟩:=vy.leafI
  exact .inl ⟨rfl,k _ _ _ (Same.refl _) (.flat rfl) (by rw[rL rfl vx];simpa using h)⟩
 ·obtain⟨rfl,_⟩:=vy.leafI
  exact .inr ⟨_,rfl,k _ _ _ (Same.refl _) (.flat rfl) (by rw[rL rfl vx];simpa using h)⟩
 ·exact False.elim h⟩
theorem wF{pins:List (Addr×Obj)}{σ:St}{H:Hp}{s:Shared}(I:Inv X pins σ H s):∀{n:Nat}{x:V}{T U:Tv},EqD n T->EqD n U->VP X.K H n x T->VP X.K H n x U->T=U
 |0,_,_,_,h,_,_,_=>False.elim h
 |n+1,x,T,U,d,d',h,h'=>by
  rcases h with⟨f,rfl⟩|⟨t,a,xs,Ts,rfl,e2,rfl,z,p⟩|⟨a,kvs,kts,rfl,e2,rfl,_⟩
  ·rcases h' with⟨_,rfl⟩|⟨t',a',xs',Ts',rfl,_⟩|⟨a',kvs',kts',rfl,_⟩
   ·rfl
   ·cases f
   ·cases f
  ·rcases h' with⟨f,rfl⟩|⟨t',a',xs',Ts',e1',e2',rfl,z',p'⟩|⟨a',kvs',kts',e1',e2',rfl,_⟩
   ·cases f
   ·cases e1'
    have tt:t=t':=by
     cases t<;>cases t'<;>first|rfl|skip
     ·obtain⟨_,_,l1⟩:=PSeq.isList I e2
      obtain⟨_,_,l2⟩:=PSeq.isTup I e2'
      exact absurd rfl (SeqAt.ne_of_list_tuple l1 l2)
     ·obtain⟨_,_,l1⟩:=PSeq.isList I e2'
      obtain⟨_,_,l2⟩:=PSeq.isTup I e2
      exact absurd rfl (SeqAt.ne_of_list_tuple l1 l2)
    subst tt
    have ex:xs=xs':=by
     cases t with
     |false=>exact I.list_inj (cP e2) (cP e2')
     |true=>exact I.tuple_inj e2 e2'
    subst ex
    have g:∀U∈Ts,EqD n U:=d
    have g':∀U∈Ts',EqD n U:=d'
    have key:∀{xs:List V} {Ts Ts':List Tv},Paired (VP X.K H n) xs Ts->Paired (VP X.K H n) xs Ts'->(∀U∈Ts,EqD n U)->(∀U∈Ts',EqD n U)->Ts=Ts':=by
     intro xs Ts Ts' p
     induction p generalizing Ts' with
     |nil=>intro p' _ _;cases p';rfl
     |cons r _ ih=>
      intro p' d d'
      cases p' with
      |cons r' t'=>rw[wF I (d _ (.head _)) (d' _ (.head _)) r r',ih t' (λU hU=>d U (.tail _ hU)) (λU hU=>d' U (.tail _ hU))]
    rw[key p p' g g']
   ·exact False.elim d'
  ·exact False.elim d
def pJ(T:Tv)(Us:List Tv):Prop:=EqD 40 T/\∀U∈Us,EqD 40 U
open Classical in
theorem qN{pins:List (Addr×Obj)}{σ:St}{H:Hp}{s:Shared}(I:Inv X pins σ H s)(hu:X.A.units+64<cLine){x:V}{T:Tv}{v:Value}{ys:List V}{Us:List Tv}{its:List Value}(vx:VA X.K H x T)(rx:RelV x v)(p:VAs X.K H ys Us)(r:Vals ys its)(ok:pJ T Us):
  ∃e:Value->Bool,(∀y,y∈its.toArray->SeqAt.EqAt X.A.in1 s y v (e y))/\its.toArray.any e=Us.any λU=>eqT U T:=by
 obtain⟨dx,vx⟩:=vx
 have hx:=ok.1.vp vx
 refine⟨λw=>decide (∃y U,RelV y w/\VP X.K H 40 y U/\EqD 40 U/\eqT U T=true),λw hw=>?_,?_⟩
 ·have hw:w∈its:=by simpa using hw
  obtain⟨j,hj,rfl⟩:=qU1_.mp hw
  have hj':j<ys.length:=by rw[r.length];exact hj
  obtain⟨u,eu,ru⟩:=r.get (qk_ hj')
  rw[qk_ hj]at eu
  cases eu
  obtain⟨U,eU,d,vU⟩:=eY p (qk_ hj')
  have dU:=ok.2 U (qE_ eU)
  have e:=vZ I 40 (A:=X.A.in1) (by show X.A.units+1+40<_;omega) dU ok.1 (dU.vp vU) hx ru rx
  have ee:decide (∃y U,RelV y its[j]/\VP X.K H 40 y U/\EqD 40 U/\eqT U T=true)=eqT U T:=by
   rw[qx1_,decide_eq_true_iff]
   constructor
   ·rintro⟨y,U',ry,vy,dy,z⟩
    have:=RelV.inj ry ru
    subst this
    rw[wF I dU dy (dU.vp vU) vy]
    exact z
   ·intro z
    exact⟨_,U,ru,dU.vp vU,dU,z⟩
  show SeqAt.EqAt X.A.in1 s its[j] v (decide (∃y U,RelV y its[j]/\VP X.K H 40 y U/\EqD 40 U/\eqT U T=true))
  rw[ee]
  exact e
 ·rw[qx1_,Array.any_eq_true',qL_]
  constructor
  ·rintro⟨w,hw,z⟩
   rw[decide_eq_true_iff]at z
   obtain⟨y,U',ry,vy,dy,z⟩:=z
   have hw:w∈its:=by simpa using hw
   obtain⟨j,hj,rfl⟩:=qU1_.mp hw
   have hj':j<ys.length:=by rw[r.length];exact hj
   obtain⟨u,eu,ru⟩:=r.get (qk_ hj')
   rw[qk_ hj]at eu
   cases eu
   obtain⟨U,eU,d,vU⟩:=eY p (qk_ hj')
   have dU:=ok.2 U (qE_ eU)
   have:=RelV.inj ry ru
   subst this
   refine⟨U,qE_ eU,?_⟩
   rw[wF I dU dy (dU.vp vU) vy]
   exact z
  ·rintro⟨U,hU,z⟩
   obtain⟨j,hj,rfl⟩:=qU1_.mp hU
   obtain⟨y,ey,d,vy⟩:=pO p (qk_ hj)
   obtain⟨u,eu,ru⟩:=r.get ey
   have dU:=ok.2 _ hU
   exact⟨u,by simpa using qE_ eu,qP_ ⟨y,_,ru,dU.vp vy,dU,z⟩⟩
def zCZ(K:W.Frag)(neg:Bool):R2:=λx y H Q=>∃T t Us,VA K H x T/\VA K H y (.seq t Us)/\pJ T Us/\Q (.bl (neg != Us.any λU=>eqT U T)) H
theorem zIS(hu:X.A.units+64<cLine):OpR X (compareOp .In) (zCZ X.K false):=by
 rintro pins s σ H x y v u Q I rx ry ⟨T,t,Us,vx,vy,ok,q⟩
 obtain⟨a,ys,rfl,hs,z,p⟩:=vy.seqI
 cases ry
 cases t with
 |false=>
  obtain⟨its,r,l⟩:=PSeq.isList I hs
  obtain⟨e,h1,h2⟩:=qN I hu vx rx p r ok
  exact SeqAt.in_listAt e l h1 ⟨.bl _,H,I,rfl,by rw[h2];simpa using q⟩
 |true=>
  obtain⟨its,r,l⟩:=PSeq.isTup I hs
  obtain⟨e,h1,h2⟩:=qN I hu vx rx p r ok
  exact SeqAt.in_tupleAt e l h1 ⟨.bl _,H,I,rfl,by rw[h2];simpa using q⟩
theorem zEM(hu:X.A.units+64<cLine):OpR X (compareOp .NotIn) (zCZ X.K true):=by
 rintro pins s σ H x y v u Q I rx ry ⟨T,t,Us,vx,vy,ok,q⟩
 obtain⟨a,ys,rfl,hs,z,p⟩:=vy.seqI
 cases ry
 cases t with
 |false=>
  obtain⟨its,r,l⟩:=PSeq.isList I hs
  obtain⟨e,h1,h2⟩:=qN I hu vx rx p r ok
  exact SeqAt.notIn_listAt e l h1 ⟨.bl _,H,I,rfl,by rw[h2];simpa using q⟩
 |true=>
  obtain⟨its,r,l⟩:=PSeq.isTup I hs
  obtain⟨e,h1,h2⟩:=qN I hu vx rx p r ok
  exact SeqAt.notIn_tupleAt e l h1 ⟨.bl _,H,I,rfl,by rw[h2];simpa using q⟩
def zGU:R2:=λy x H Q=>∃a o,x=.ref a/\jF H a y o/\Q (.bl (!o.isSome)) H
theorem zDt(hu:X.A.units+1<cLine):OpR X (compareOp .NotIn) zGU:=by
 rintro pins s σ H y _ u v Q I ry rx ⟨a,o,rfl,g,q⟩
 cases rx
 exact zHx hu I g ry λs' I'=>⟨.bl _,H,I',rfl,q⟩
def inS(i j:Str):Bool:=!(Builtin.Str.occurrences j i 0 j.length 1).isEmpty
def tD(neg:Bool):P2
 |T,.seq _ Us,Q=>pJ T Us/\Q (bT (neg != Us.any λU=>eqT U T))
 |.leaf (.str i),.leaf (.str j),Q=>Q (bT (neg != inS i j))
 |.leaf (.str k),.dct kts,Q=>Q (bT (neg != (bS kts k).isSome))
 |_,_,_=>False
abbrev pIn:P2:=tD false
abbrev zCm:P2:=tD true
theorem mE(hu:X.A.units+64<cLine):PuCmp X (compareOp .In) pIn:=⟨_,(zIS hu).or (op_in_str.or (zD4 (by omega))),λx y T U H Q QQ vx vy h k=>by
 unfold pIn tD at h
 split at h
 ·exact .inl ⟨_,_,_,vx,vy,h.1,k _ _ _ (Same.refl _) (.flat rfl) h.2⟩
 ·obtain⟨rfl,_⟩:=vx.leafI
  obtain⟨rfl,_⟩:=vy.leafI
  exact .inr (.inl ⟨_,_,rfl,rfl,k _ _ _ (Same.refl _) (.flat rfl) (by simpa[inS]using h)⟩)
 ·rename_i kk kts
  obtain⟨rfl,_⟩:=vx.leafI
  obtain⟨a,kvs,rfl,⟨ob,hd⟩,n,z,p⟩:=vy.dctI
  refine .inr (.inr ⟨a,_,rfl,.inl ⟨kvs,.inr kk,.inr ⟨ob,hd⟩,rfl,rfl⟩,k _ _ _ (Same.refl _) (.flat rfl) ?_⟩)
  rcases qX p kk with⟨e1,e2⟩|⟨U,v,e1,e2,_⟩
  ·rw[e2];rw[e1]at h;exact h
  ·rw[e2];rw[e1]at h;exact h
 ·exact False.elim h⟩
theorem zAR(hu:X.A.units+64<cLine):PuCmp X (compareOp .NotIn) zCm:=⟨_,(zEM hu).or (op_notIn_str.or (zDt (by omega))),λx y T U H Q QQ vx vy h k=>by
 unfold zCm tD at h
 split at h
 ·exact .inl ⟨_,_,_,vx,vy,h.1,k _ _ _ (Same.refl _) (.flat rfl) h.2⟩
 ·obtain⟨rfl,_⟩:=vx.leafI
  obtain⟨rfl,_⟩:=vy.leafI
  exact .inr (.inl ⟨_,_,rfl,rfl,k _ _ _ (Same.refl _) (.flat rfl) (by simpa[inS]using h)⟩)
 ·rename_i kk kts
  obtain⟨rfl,_⟩:=vx.leafI
  obtain⟨a,kvs,rfl,⟨ob,hd⟩,n,z,p⟩:=vy.dctI
  refine .inr (.inr ⟨a,_,rfl,.inl ⟨kvs,.inr kk,.inr ⟨ob,hd⟩,rfl,rfl⟩,k _ _ _ (Same.refl _) (.flat rfl) ?_⟩)
  rcases qX p kk with⟨e1,e2⟩|⟨U,v,e1,e2,_⟩
  ·rw[e2];rw[e1]at h;exact h
  ·rw[e2];rw[e1]at h;exact h
 ·exact False.elim h⟩
def pIx:P2
 |.seq _ Ts,.leaf (.int i),Q=>∃U,atI Ts i=some U/\Q U
 |.leaf (.str z),.leaf (.int i),Q=>z.length<=100000/\∃c,atI z.cps.toList i=some c/\Q (sT ⟨#[c]⟩)
 |.dct kts,.leaf (.str k),Q=>∃U,bS kts k=some U/\Q U
 |_,_,_=>False
theorem zEj{α β:Type}{R:α->β->Prop}{xs:List α}{ys:List β}{i:Int}{y:β}(p:Paired R xs ys)(h:atI ys i=some y):∃x,atI xs i=some x/\R x y:=by
 unfold atI at h ⊢
 rw[Paired.length p]
 cases e:ixN ys.length i with
 |none=>rw[e]at h;cases h
 |some j=>
  rw[e]at h
  obtain⟨x,ex,r⟩:=pO p (show ys[j]?=some y from h)
  exact⟨x,ex,r⟩
theorem zJV(hu:X.A.units+64<cLine):zDj X pIx:=⟨_,ix_seq.or (zHo (by omega)),λx y T U H Q QQ vx vy h k=>by
 unfold pIx at h
 split at h
 ·rename_i t Ts i
  obtain⟨rfl,_⟩:=vy.leafI
  obtain⟨a,xs,rfl,hs,z,p⟩:=vx.seqI
  obtain⟨U,e,q⟩:=h
  obtain⟨x,ex,v⟩:=zEj p e
  cases t with
  |false=>exact .inl (.inl ⟨a,xs,i,x,rfl,rfl,cP hs,ex,k _ _ _ (.va v) q⟩)
  |true=>exact .inl (.inr (.inl ⟨a,xs,i,x,rfl,rfl,hs,ex,k _ _ _ (.va v) q⟩))
 ·obtain⟨rfl,_⟩:=vx.leafI
  obtain⟨rfl,_⟩:=vy.leafI
  obtain⟨l,c,e,q⟩:=h
  exact .inl (.inr (.inr ⟨_,_,c,rfl,rfl,gR l,e,k _ _ _ (.flat rfl) q⟩))
 ·rename_i kts kk
  obtain⟨rfl,_⟩:=vy.leafI
  obtain⟨a,kvs,rfl,⟨ob,hd⟩,n,z,p⟩:=vx.dctI
  obtain⟨U,e,q⟩:=h
  rcases qX p kk with⟨e1,e2⟩|⟨U',v,e1,e2,vv⟩
  ·rw[e1]at e;cases e
  ·rw[e1]at e;cases e
   exact .inr ⟨a,v,rfl,.inl ⟨kvs,.inr kk,.inr ⟨ob,hd⟩,rfl,e2.symm⟩,k _ _ _ (.va vv) q⟩
 ·exact False.elim h⟩
def jV{α:Type}(xs:List α)(lo hi:Option Int):List α:=(xs.drop (HT.sIx xs.length 0 lo)).take (HT.sIx xs.length xs.length hi-HT.sIx xs.length 0 lo)
theorem yV{α β:Type}{R:α->β->Prop}:∀{l:List α}{m:List β}(n:Nat),Paired R l m->Paired R (l.drop n) (m.drop n)
 |_,_,0,p=>p
 |_,_,_+1,.nil=>.nil
 |_,_,n+1,.cons _ t=>yV n t
theorem zAf{α β:Type}{R:α->β->Prop}:∀{l:List α}{m:List β}(n:Nat),Paired R l m->Paired R (l.take n) (m.take n)
 |_,_,0,p=>by rw[qe3_,qe3_];exact .nil
 |_,_,_+1,.nil=>.nil
 |_,_,n+1,.cons r t=>.cons r (zAf n t)
theorem zJ{α β:Type}{R:α->β->Prop}{l:List α}{m:List β}(lo hi:Option Int)(p:Paired R l m):Paired R (jV l lo hi) (jV m lo hi):=by
 unfold jV
 rw[Paired.length p]
 exact zAf _ (yV _ p)
theorem zGn{α:Type}(xs:List α)(lo hi:Option Int):(jV xs lo hi).length<=xs.length:=by
 unfold jV
 rw[qR_,qf2_]
 omega
def zKU:PSl
 |.seq t Ts,lo,hi,Q=>Q (.seq t (jV Ts lo hi))
 |.leaf (.str z),lo,hi,Q=>z.length<=100000/\Q (sT (Txt.slice z lo hi))
 |_,_,_,_=>False
theorem iW:zDg X zKU:=⟨_,sl_list.or (sl_tupW.or zH7),λx T lo hi H Q QQ vx h k=>by
 cases T with
 |seq t Ts=>
  have h:Q (.seq t (jV Ts lo hi)):=h
  obtain⟨a,xs,rfl,hs,z,p⟩:=vx.seqI
  have z':(jV Ts lo hi).length<=100000:=qh_ (zGn _ _ _) z
  cases t with
  |false=>exact .inl ⟨a,xs,rfl,cP hs,λr n=>k _ _ _ (Raw.lst n z' (zJ lo hi p)) h⟩
  |true=>exact .inr (.inl ⟨a,xs,rfl,hs,λr H' sm hr=>k _ _ _ ⟨sm,.inl (VA.seq (t:=true) hr z' (Paired.mapP (zJ lo hi p) λ_ _ q=>VA.hs sm.hs q))⟩ h⟩)
 |leaf w=>
  cases w with
  |str zz=>
   have h:zz.length<=100000/\Q (sT (Txt.slice zz lo hi)):=h
   obtain⟨rfl,_⟩:=vx.leafI
   exact .inr (.inr ⟨_,rfl,gR h.1,k _ _ _ (.flat rfl) h.2⟩)
  |_=>exact False.elim h
 |dct kts=>exact False.elim h⟩
def sX:Pn
 |[.seq _ Ts],Q=>Q (iT Ts.length)
 |[.leaf (.str z)],Q=>z.length<=100000/\Q (iT z.length)
 |[.dct kts],Q=>Q (iT kts.length)
 |_,_=>False
theorem cF:gY X (.builtin "len") sX:=⟨_,call_len_seq.or (call_len_str.or zEh),λxs Ts H Q QQ vx h k=>by
 unfold sX at h
 split at h
 ·rename_i t Ts
  obtain⟨x,rfl,v⟩:=dL vx
  obtain⟨a,xs,rfl,hs,z,p⟩:=v.seqI
  have l:xs.length=_:=Paired.length p
  refine .inl ⟨a,xs,rfl,?_,k _ _ _ (.flat rfl) (by rw[l];exact h)⟩
  cases t with
  |false=>exact .inl (cP hs)
  |true=>exact .inr hs
 ·obtain⟨x,rfl,v⟩:=dL vx
  obtain⟨rfl,_⟩:=v.leafI
  exact .inr (.inl ⟨_,rfl,gR h.1,k _ _ _ (.flat rfl) h.2⟩)
 ·obtain⟨x,rfl,v⟩:=dL vx
  obtain⟨a,kvs,rfl,⟨ob,hd⟩,n,z,p⟩:=v.dctI
  have l:kvs.length=_:=Paired.length p
  exact .inr (.inr ⟨a,kvs,rfl,.inr ⟨ob,hd⟩,k _ _ _ (.flat rfl) (by rw[l];exact h)⟩)
 ·exact False.elim h⟩
def tE(T:String):Tv->Bool
 |.leaf .non=>false
 |.leaf (.bl _)=>T=="bool" || T=="int"
 |.leaf (.int _)=>T=="int"
 |.leaf (.str _)=>T=="str"
 |.leaf _=>false
 |.seq false _=>T=="list"
 |.seq true _=>T=="tuple"
 |.dct _=>T=="dict"
theorem zJz{K:W.Frag}{H:Hp}{x:V}{W:Tv}(T:String)(v:VA K H x W):TyV K T x H (tE T W):=by
 cases W with
 |leaf w=>
  obtain⟨rfl,f⟩:=v.leafI
  rcases jX f with rfl|⟨b,rfl⟩|⟨b,rfl⟩|⟨b,rfl⟩<;>rfl
 |seq t Ts=>
  obtain⟨a,xs,rfl,hs,z,p⟩:=v.seqI
  cases t with
  |false=>exact .inl ⟨xs,cP hs,rfl⟩
  |true=>exact .inr (.inl ⟨xs,hs,rfl⟩)
 |dct kts=>
  obtain⟨a,kvs,rfl,⟨ob,hd⟩,n,z,p⟩:=v.dctI
  exact .inr (.inr ⟨kvs,.inr ⟨ob,hd⟩,rfl⟩)
def zKv(T:String)(u:UT):UT:=λρ Q=>u ρ λW ρ1=>Q (bT (tE T W)) ρ1
theorem cI{e t:Expr}{u:UT}{p pos:Pos}(T:String)(hc:CallR X (.builtin "isinstance") (λxs H Q=>∃x b,xs=[x,.ty T]/\TyV X.K T x H b/\Q (.bl b) H))(hg:Gl X "isinstance")(hm:X.mg "isinstance"=none)(he:UE X F e u)(ht:PE X t (tC (.ty T)))
  (h1:dN e=false:=by rfl) (h2:dN t=false:=by rfl) (hpl:(backTo pos (starEach [t] X.env)).any (·.1)=false:=by rfl):UE X F (.Call (.Name "isinstance" p) [e,t] [] pos) (zKv T u):=
 ⟨PE.imp (iE hc hg hm boot_isinstance (cT he.pe (cT ht dD h2) h1) (by decide) (by decide) (gK h1) hpl) λσ H QQ ⟨ρ,Q,f,h,k⟩=>
  ⟨ρ,_,f,h,λx W H1 ρ1 s1 v1 q1=>⟨x,_,rfl,zJz T v1,k _ _ _ _ s1 (.flat rfl) q1⟩⟩⟩
theorem nI{K:W.Frag}{H:Hp}:∀{xs:List V}{bs:List Bool},VAs K H xs (bs.map bT)->xs=bs.map V.bl
 |[],[],_=>rfl
 |_::_,_::_,.cons r t=>by rw[qA_,<-nI t,(VA.leafI r).1]
theorem qE{K:W.Frag}{H:Hp}:∀{xs:List V}{ns:List Int},VAs K H xs (ns.map iT)->xs=ns.map V.int
 |[],[],_=>rfl
 |_::_,_::_,.cons r t=>by rw[qA_,<-qE t,(VA.leafI r).1]
theorem iC{K:W.Frag}{H:Hp}:∀{xs:List V}{ss:List Str},VAs K H xs (ss.map sT)->xs=ss.map V.str
 |[],[],_=>rfl
 |_::_,_::_,.cons r t=>by rw[qA_,<-iC t,(VA.leafI r).1]
theorem wG{K:W.Frag}{H:Hp}:∀(bs:List Bool),VAs K H (bs.map V.bl) (bs.map bT)
 |[]=>.nil
 |_::bs=>.cons (.flat rfl) (wG bs)
theorem zBm{K:W.Frag}{H:Hp}:∀(ns:List Int),VAs K H (ns.map V.int) (ns.map iT)
 |[]=>.nil
 |_::ns=>.cons (.flat rfl) (zBm ns)
theorem lJ{K:W.Frag}{H:Hp}:∀(ss:List Str),VAs K H (ss.map V.str) (ss.map sT)
 |[]=>.nil
 |_::ss=>.cons (.flat rfl) (lJ ss)
def zKZ:Pn:=λTs Q=>∃bs:List Bool,Ts=[.seq false (bs.map bT)]/\Q (bT (bs.any id))
theorem zIq(hc:X.calm=true):gY X (.builtin "any") zKZ:=⟨_,zFj hc,λxs Ts H Q QQ vx h k=>by
 obtain⟨bs,rfl,q⟩:=h
 obtain⟨x,rfl,v⟩:=dL vx
 obtain⟨a,ys,rfl,hs,z,p⟩:=v.seqI
 rw[nI p]at hs
 exact⟨a,bs,rfl,cP hs,k _ _ _ (.flat rfl) q⟩⟩
def zKX:Pn:=λTs Q=>(∃i j:Int,Ts=[iT i,iT j]/\Q (iT (min i j)))\/(∃ns:List Int,Ts=[.seq false (ns.map iT)]/\0<ns.length/\∀M,M∈ns->(∀a∈ns,M<=a)->Q (iT M)) \/
 ∃ss:List Str,Ts=[.seq false (ss.map sT)]/\0<ss.length/\∀x,x∈ss->(∀y∈ss,x.cps.toList<=y.cps.toList)->Q (sT x)
def zKY:Pn:=λTs Q=>(∃i j:Int,Ts=[iT i,iT j]/\Q (iT (max i j)))\/(∃ns:List Int,Ts=[.seq false (ns.map iT)]/\0<ns.length/\∀M,M∈ns->(∀a∈ns,a<=M)->Q (iT M)) \/
 ∃ss:List Str,Ts=[.seq false (ss.map sT)]/\0<ss.length/\∀x,x∈ss->(∀y∈ss,y.cps.toList<=x.cps.toList)->Q (sT x)
theorem gW(hc:X.calm=true):gY X (.builtin "min") zKX:=⟨_,(zFf hc).or ((zFg hc).or (zS hc)),λxs Ts H Q QQ vx h k=>by
 rcases h with⟨i,j,rfl,q⟩|⟨ns,rfl,l,q⟩|⟨ss,rfl,l,q⟩
 ·obtain⟨x,y,rfl,v,v'⟩:=wW vx
  obtain⟨rfl,_⟩:=v.leafI
  obtain⟨rfl,_⟩:=v'.leafI
  refine .inl ⟨i,j,rfl,k _ _ _ (.flat rfl) ?_⟩
  have e:(if j<i then j else i)=min i j:=by split<;>omega
  rw[e];exact q
 ·obtain⟨x,rfl,v⟩:=dL vx
  obtain⟨a,ys,rfl,hs,z,p⟩:=v.seqI
  rw[qE p]at hs
  exact .inr (.inl ⟨a,ns,rfl,cP hs,l,λM h1 h2=>k _ _ _ (.flat rfl) (q M h1 h2)⟩)
 ·obtain⟨x,rfl,v⟩:=dL vx
  obtain⟨a,ys,rfl,hs,z,p⟩:=v.seqI
  rw[iC p]at hs
  exact .inr (.inr ⟨a,ss,rfl,cP hs,l,λM h1 h2=>k _ _ _ (.flat rfl) (q M h1 h2)⟩)⟩
theorem gC(hc:X.calm=true):gY X (.builtin "max") zKY:=⟨_,(zFh hc).or ((zFi hc).or (zT hc)),λxs Ts H Q QQ vx h k=>by
 rcases h with⟨i,j,rfl,q⟩|⟨ns,rfl,l,q⟩|⟨ss,rfl,l,q⟩
 ·obtain⟨x,y,rfl,v,v'⟩:=wW vx
  obtain⟨rfl,_⟩:=v.leafI
  obtain⟨rfl,_⟩:=v'.leafI
  refine .inl ⟨i,j,rfl,k _ _ _ (.flat rfl) ?_⟩
  have e:(if j > i then j else i)=max i j:=by split<;>omega
  rw[e];exact q
 ·obtain⟨x,rfl,v⟩:=dL vx
  obtain⟨a,ys,rfl,hs,z,p⟩:=v.seqI
  rw[qE p]at hs
  exact .inr (.inl ⟨a,ns,rfl,cP hs,l,λM h1 h2=>k _ _ _ (.flat rfl) (q M h1 h2)⟩)
 ·obtain⟨x,rfl,v⟩:=dL vx
  obtain⟨a,ys,rfl,hs,z,p⟩:=v.seqI
  rw[iC p]at hs
  exact .inr (.inr ⟨a,ss,rfl,cP hs,l,λM h1 h2=>k _ _ _ (.flat rfl) (q M h1 h2)⟩)⟩
def zHc:List Tv->(List Tv->Prop)->Prop:=λTs Q=>∃t Us,Ts=[.seq t Us]/\Q Us
theorem tY:nW X (.type "list") zHc:=⟨_,yR,λxs Ts H Q QQ vx h k=>by
 obtain⟨t,Us,rfl,q⟩:=h
 obtain⟨x,rfl,v⟩:=dL vx
 obtain⟨a,ys,rfl,hs,z,p⟩:=v.seqI
 refine⟨a,ys,rfl,?_,λl n=>k l ys Us _ (cB n) n bB z (VAs.hs (gX n) p) q⟩
 cases t with
 |false=>exact .inl (cP hs)
 |true=>exact .inr hs⟩
def zCl:Pn:=λTs Q=>∃t Us,Ts=[.seq t Us]/\Q (.seq true Us)
theorem fL:gY X (.type "tuple") zCl:=⟨_,zDw,λxs Ts H Q QQ vx h k=>by
 obtain⟨t,Us,rfl,q⟩:=h
 obtain⟨x,rfl,v⟩:=dL vx
 obtain⟨a,ys,rfl,hs,z,p⟩:=v.seqI
 refine⟨a,ys,rfl,?_⟩
 cases t with
 |false=>exact .inl ⟨cP hs,λl n=>k _ _ _ (Raw.tup n z p) q⟩
 |true=>exact .inr ⟨hs,k _ _ _ (.va v) q⟩⟩
def zHb:List Tv->(List Tv->Prop)->Prop:=λTs Q=>(∃ns:List Int,Ts=[.seq false (ns.map iT)]/\ns.length<64/\∀ms:List Int,ms.Perm ns->ms.Pairwise (·<=·)->Q (ms.map iT)) \/
 (∃ss:List Str,Ts=[.seq false (ss.map sT)]/\ss.length<64/\Q ((aW ss).map sT))\/∃kts,Ts=[.dct kts]/\Q ((aW (kts.map (·.1))).map sT)
theorem qI{K:W.Frag}{H:Hp}{kvs:List (Key×V)}{kts:List (Str×Tv)}(p:VAk K H kvs kts):kvs.map (·.1)=(kts.map (·.1)).map Sum.inr:=by
 unfold VAk at p
 induction p with
 |nil=>rfl
 |cons r _ ih=>rw[qA_,qA_,qA_,ih,r.1]
theorem tW(us:List Str):(aW us).length=us.length:=(eM us).length_eq
theorem tX(hc:X.calm=true):nW X (.builtin "sorted") zHb:=⟨_,call_sortedI.or (call_sortedS.or (zDC hc)),λxs Ts H Q QQ vx h k=>by
 rcases h with⟨ns,rfl,l,q⟩|⟨ss,rfl,l,q⟩|⟨kts,rfl,q⟩
 ·obtain⟨x,rfl,v⟩:=dL vx
  obtain⟨a,ys,rfl,hs,z,p⟩:=v.seqI
  rw[qE p]at hs
  refine .inl ⟨a,ns,rfl,cP hs,l,λms b h1 h2 n=>k b _ _ _ (cB n) n bB (by rw[qc_,h1.length_eq];omega) (zBm ms) (q ms h1 h2)⟩
 ·obtain⟨x,rfl,v⟩:=dL vx
  obtain⟨a,ys,rfl,hs,z,p⟩:=v.seqI
  rw[iC p]at hs
  refine .inr (.inl ⟨a,ss,rfl,cP hs,l,λms b h1 h2 n=>k b _ _ _ (cB n) n bB (by rw[qc_,h1.length_eq];omega) (lJ ms) (by rw[nE h1 h2];exact q)⟩)
 ·obtain⟨x,rfl,v⟩:=dL vx
  obtain⟨a,kvs,rfl,⟨ob,hd⟩,nd,z,p⟩:=v.dctI
  refine .inr (.inr ⟨a,ob,kvs,kts.map (·.1),rfl,hd,qI p,by rw[qc_];exact z,λms b h1 h2 n=>k b _ _ _ (cB n) n bB (by rw[qc_,h1.length_eq,qc_];omega) (lJ ms) (by rw[nE h1 h2];exact q)⟩)⟩
def zK0:Pn:=λTs Q=>∃i:Int,Ts=[iT i]/\Q (iT (if i<0 then -i else i))
theorem zIr:gY X (.builtin "abs") zK0:=⟨_,zGp,λxs Ts H Q QQ vx h k=>by
 obtain⟨i,rfl,q⟩:=h
 obtain⟨x,rfl,v⟩:=dL vx
 obtain⟨rfl,_⟩:=v.leafI
 exact⟨i,rfl,k _ _ _ (.flat rfl) q⟩⟩
def uBM(T:String)(r:Tv->List Tv->(Tv->Prop)->Prop)(u:UT)(ua:UTa):UT:=λρ Q=>u ρ λW ρ1=>tE T W=true/\uVs ua ρ1 λTs ρ2=>r W Ts λW'=>Q W' ρ2
theorem zGJ{K:W.Frag}{H:Hp}{x:V}{W:Tv}(v:VA K H x W)(h:tE "str" W=true):tyV K "str" x H:=by
 cases W with
 |leaf w=>
  obtain⟨rfl,f⟩:=v.leafI
  rcases jX f with rfl|⟨b,rfl⟩|⟨b,rfl⟩|⟨b,rfl⟩
  ·cases h
  ·cases h
  ·cases h
  ·rfl
 |seq t Ts=>cases t<;>cases h
 |dct kts=>cases h
theorem rC{name:Str}{id:String}{r:Tv->List Tv->(Tv->Prop)->Prop}{o e:Expr}{es:List Expr}{u:UT}{ua:UTa}{apos cpos:Pos}(slot:Slot "str" name id)(hty:typeOf (.builtin id)=pure (.type "method_descriptor"))
  (hm:∃r',MtR X id r'/\∀x W xs Ts H Q (QQ:VK),VA X.K H x W->VAs X.K H xs Ts->r W Ts Q->(∀z W H',Raw X.K H H' z W->Q W->QQ z H')->r' x xs H QQ) (ho:UE X F o u) (ha:UA X F (e::es) ua)
  (hbase:attributeBase o name X.env (eval o X.env)=eval o X.env:=by rfl)
  (hfew:((backTo cpos (starEach (e::es) X.env)).all (λx=>!x.1)&&(backToKw cpos (keywordEach [] X.env)).all (λx=>x.1.isSome)&&decide ((e::es).length+([]:List Keyword).length+(if ([]:List Keyword).isEmpty then 0 else 1)<30))=true:=by rfl)
  (hline:(apos.endLine==cpos.line)=true:=by rfl) (hs:starEach (e::es) X.env=(false,eval e X.env)::starEach es X.env:=by rfl) (hplain:(backTo cpos (starEach es X.env)).any (·.1)=false:=by rfl):
  UE X F (.Call (.Attribute o name apos) (e::es) [] cpos) (uBM "str" r u ua):=by
 obtain⟨r',m,hr⟩:=hm
 refine⟨PE.imp (PE.fz (oP PySem.F.plainAttrs_str slot hty m ho.pe ha.pa hbase hfew hline hs hplain)) λσ H QQ ⟨ρ,Q,f,h,k⟩=>⟨ρ,_,f,h,λx W H1 ρ1 s1 v1 q1=>⟨zGJ v1 q1.1,ρ1,_,s1.fr,q1.2,λxs as H2 ρ2 s2 p2 q2=>?_⟩⟩⟩
 obtain⟨Ts,rfl,q⟩:=iL q2
 exact hr x W xs Ts H2 _ _ (v1.hs (s2.hs s1.fr)) (iM p2) q λz W' H' rw q=>rw.fin s2.fr λH'' s4 v4=>k _ _ _ _ ((s1.trans s2).trans s4) v4 q
def zHa:Tv->List Tv->(Tv->Prop)->Prop:=λW Ts Q=>∃i j:Str,W=sT i/\Ts=[sT j]/\Q (bT (decide (0+j.length<=i.length)&&Builtin.Str.subAt i j 0))
theorem zEK:∃r',MtR X "str.startswith" r'/\∀x W xs Ts H Q (QQ:VK),VA X.K H x W->VAs X.K H xs Ts->zHa W Ts Q->(∀z W H',Raw X.K H H' z W->Q W->QQ z H')->r' x xs H QQ:=⟨_,zDu,λx W xs Ts H Q QQ v p h k=>by
 obtain⟨i,j,rfl,rfl,q⟩:=h
 obtain⟨rfl,_⟩:=v.leafI
 obtain⟨y,rfl,v'⟩:=dL p
 obtain⟨rfl,_⟩:=v'.leafI
 exact⟨i,j,rfl,rfl,k _ _ _ (.flat rfl) q⟩⟩
def zJ1:Tv->List Tv->(Tv->Prop)->Prop:=λW Ts Q=>∃i j:Str,W=sT i/\Ts=[sT j]/\∀n:Int,Q (iT n)
theorem zG2:∃r',MtR X "str.find" r'/\∀x W xs Ts H Q (QQ:VK),VA X.K H x W->VAs X.K H xs Ts->zJ1 W Ts Q->(∀z W H',Raw X.K H H' z W->Q W->QQ z H')->r' x xs H QQ:=⟨_,zHk,λx W xs Ts H Q QQ v p h k=>by
 obtain⟨i,j,rfl,rfl,q⟩:=h
 obtain⟨rfl,_⟩:=v.leafI
 obtain⟨y,rfl,v'⟩:=dL p
 obtain⟨rfl,_⟩:=v'.leafI
 exact⟨i,j,rfl,rfl,λn=>k _ _ _ (.flat rfl) (q n)⟩⟩
def zJ0:Tv->List Tv->(Tv->Prop)->Prop:=λW Ts Q=>∃ss:List Str,W=sT ⟨#[]⟩/\Ts=[.seq false (ss.map sT)]/\(cD ss).length<=100000/\Q (sT ⟨(cD ss).toArray⟩)
theorem zBE:∃r',MtR X "str.join" r'/\∀x W xs Ts H Q (QQ:VK),VA X.K H x W->VAs X.K H xs Ts->zJ0 W Ts Q->(∀z W H',Raw X.K H H' z W->Q W->QQ z H')->r' x xs H QQ:=⟨_,zHj,λx W xs Ts H Q QQ v p h k=>by
 obtain⟨ss,rfl,rfl,l,q⟩:=h
 obtain⟨rfl,_⟩:=v.leafI
 obtain⟨y,rfl,v'⟩:=dL p
 obtain⟨a,ys,rfl,hs,z,p'⟩:=v'.seqI
 rw[iC p']at hs
 refine⟨a,ss,rfl,rfl,cP hs,l,λz e=>k _ _ _ (.flat rfl) ?_⟩
 have:z=⟨(cD ss).toArray⟩:=by
  cases z with
  |mk c=>congr 1;have e:c.toList=cD ss:=e;rw[<-e]
 rw[this];exact q⟩
end
end L2
namespace L2
open PySem PySem.Spec PyProof.Rows WordM
section
variable{X:Cx}{F:Fm}{pos:Pos}
def zKH(i j:Nat)(ua:UTa):UTs:=λP ρ=>uVs ua ρ λTs ρ1=>∃T U,Ts=[T,U]/\P.nx ((ρ1.set i (.va T)).set j (.va U))
theorem zHP{i j:Nat}{x y:Str}{a b:Expr}{ua:UTa}{px py pt:Pos}{kt k2 pt2}(hc:X.calm=true)(hN:X.N.Nodup)(hi:X.N[i]?=some x)(hj:X.N[j]?=some y)(hij:i≠j)
  (hx:X.env.scope.names.lookup x=some .local) (hy:X.env.scope.names.lookup y=some .local) (ha:UA X F [a,b] ua)
  (hw:swappedStores [.Tuple [.Name x px,.Name y py] kt pt] (.Tuple [a,b] k2 pt2) X.env=pure (some [x,y]))
  (hs:swapsWithSole [.Tuple [.Name x px,.Name y py] kt pt] (.Tuple [a,b] k2 pt2) pos.line X.env=pure false:=by rfl):
  US X F (.Assign [.Tuple [.Name x px,.Name y py] kt pt] (.Tuple [a,b] k2 pt2) pos) (zKH i j ua):=⟨PS.imp (zIu hc hN hi hj hij hx hy ha.pa hw hs) λD σ H ⟨ρ,P,f,h,k1,_⟩=>by
 refine⟨ρ,_,f,h,λxs as H1 ρ1 s1 p1 q1=>?_⟩
 obtain⟨Ts,rfl,T,U,rfl,q⟩:=iL q1
 obtain⟨v,w,rfl,vv,vw⟩:=wW (iM p1)
 refine⟨v,w,rfl,k1 _ _ _ ?_ (s1.hs f) q⟩
 exact(s1.fr.set (s:=.va T) (λ_=>⟨v,rfl,vv⟩) (λz=>absurd z ql_)).set (s:=.va U) (λ_=>⟨w,rfl,vw⟩) (λz=>absurd z ql_)⟩
def eF(K:W.Frag)(mg:Str->Option Value)(x:Str)(T:Tv):Prop:=∃v u,mg x=some u/\RelV v u/\∀H,VA K H v T
theorem oN{x:Str}{T:Tv}(G:eF X.K X.mg x T)(hg:Gl X x)(hd:(x==("__debug__":Str))=false:=by decide):UE X F (.Name x pos) (uC T):=by
 obtain⟨v,u,m,r,h⟩:=G
 exact zGF hg m r h hd
def oS(K:W.Frag)(prm:Params)(mg:Str->Option Value)(x:Str)(kvs:List (Str×Str)):Prop:=∃d,mg x=some (.ref d)/\zCR K prm d kvs
def uKD(kvs:List (Str×Str))(u:UT):UT:=λρ Q=>u ρ λT ρ1=>∃i j,T=sT i/\getS kvs i=some j/\Q (sT j) ρ1
theorem zCC{x:Str}{p:Pos}{e:Expr}{u:UT}{kvs:List (Str×Str)}(G:oS X.K X.w.params X.mg x kvs)(hg:Gl X x)(he:UE X F e u)(hs:rB e:=by intro _ _;rfl)(hd:(x==("__debug__":Str))=false:=by decide):UE X F (.Subscript (.Name x p) e pos) (uKD kvs u):=by
 obtain⟨d,m,D⟩:=G
 refine⟨PE.imp (iX (zKb D) (zBI (v:=.ref d) hg m rfl hd) he.pe hs) λσ H QQ ⟨ρ,Q,f,h,k⟩=>⟨ρ,_,f,h,λy T H1 ρ1 s1 v1 q1=>?_⟩⟩
 obtain⟨i,j,rfl,ej,q⟩:=q1
 obtain⟨rfl,_⟩:=v1.leafI
 exact⟨i,j,rfl,rfl,ej,k _ _ _ _ s1 (.flat rfl) q⟩
end
def mK(own:Nat)(fr:List Nat)(g:UG)(tf:UTt)(ue:UT)(T:Tv)(ρ:aU)(R:Option Tv->aU->Prop):Prop:=g T (blk own fr ρ) λρ1=>tf ρ1 λb ρ2=>if b=true then ue ρ2 λU ρ3=>R (some U) (bck own fr ρ ρ3) else R none (bck own fr ρ ρ2)
section
variable{own:Nat}{fr:List Nat}{g:UG}{tf:UTt}{ue:UT}
def zKo(own:Nat)(fr:List Nat)(g:UG)(tf:UTt)(ue:UT)(Ts:List Tv)(Q:List Tv->aU->Prop)(o:Option Tv)(ρ:aU):Prop:=match o with
 |some U=>fR own fr g tf ue Ts ρ λUs ρ4=>Q (U::Us) ρ4
 |none=>fR own fr g tf ue Ts ρ Q
theorem tU(T:Tv)(Ts:List Tv)(ρ:aU)(Q:List Tv->aU->Prop):fR own fr g tf ue (T::Ts) ρ Q=mK own fr g tf ue T ρ (zKo own fr g tf ue Ts Q):=rfl
theorem iF{ρ:aU}(f:Tv->Option Tv):∀{Ts:List Tv}{Q:List Tv->aU->Prop},(∀T∈Ts,∀R:Option Tv->aU->Prop,R (f T) ρ->mK own fr g tf ue T ρ R)->Q (Ts.filterMap f) ρ->fR own fr g tf ue Ts ρ Q
 |[],_,_,q=>q
 |T::Ts,Q,h,q=>by
  rw[tU]
  refine h T (.head _) _ ?_
  rw[qH_]at q
  cases e:f T with
  |none=>rw[e]at q;exact iF f (λT' hT'=>h T' (.tail _ hT')) q
  |some U=>rw[e]at q;exact iF (Q:=λUs ρ4=>Q (U::Us) ρ4) f (λT' hT'=>h T' (.tail _ hT')) q
theorem zAw{ρ:aU}(f:Tv->Tv){Ts:List Tv}{Q:List Tv->aU->Prop}(h:∀T∈Ts,∀R:Option Tv->aU->Prop,R (some (f T)) ρ->mK own fr g tf ue T ρ R)(q:Q (Ts.map f) ρ):fR own fr g tf ue Ts ρ Q:=
 iF (λT=>some (f T)) h (by rw[show Ts.filterMap (λT=>some (f T))=Ts.map f from List.filterMap_eq_map'▸rfl];exact q)
theorem jL{g:UG}{ub:UTs}{Ts:List Tv}{P:PEnds}{ρ:aU}(J:Nat->aU->Prop)(h0:J 0 ρ)(hs:∀i T ρ' (N:aU->Prop),Ts[i]?=some T->J i ρ'->(∀ρ'',J (i+1) ρ''->N ρ'')->g T ρ' λρ1=>ub {P with nx:=N,ct:=N,bk:=P.nx} ρ1)
  (hd:∀ρ',J Ts.length ρ'->P.nx ρ'):jD g ub Ts P ρ:=by
 have key:∀(n i:Nat) (ρ:aU),n+i=Ts.length->J i ρ->jD g ub (Ts.drop i) P ρ:=by
  intro n
  induction n with
  |zero=>
   intro i ρ e j
   have:i=Ts.length:=by omega
   subst this
   rw[qd3_]
   exact hd ρ j
  |succ n ih=>
   intro i ρ e j
   have hi:i<Ts.length:=by omega
   rw[qL2_ hi]
   exact hs i _ ρ (λρ'=>jD g ub (Ts.drop (i+1)) P ρ') (qk_ hi) j λρ'' j'=>ih (i+1) ρ'' (by omega) j'
 exact key Ts.length 0 ρ (by omega) h0
end
end L2
namespace L2
open PySem PySem.Spec PyProof.Rows WordM
def fP:PSp:=λas R=>∃m:Int,as=[.dk,.va (iT m)]/\0<m/\BigOk m/\∀r:Int,0<=r->r<m->R (iT r)
theorem On.kp{p c:Addr}{H H':Hp}(o:On p c H H'):Kp (some (p,c)) H H':=⟨λb u e n=>o.e b u e (n p c rfl).1 (n p c rfl).2,λp' c' e=>by cases e;exact o.d⟩
theorem Good.take{P:Program}{w:World}{K:W.Frag}{mg:Str->Option Value}{base:Heap}{k:Nat}{x:Str}{ps:List Str}(G:Good P w K mg base k x ps zCc):PGood P w K mg base k x ps fP:=Good.imp G λvs H Q E ⟨dk,as,R,d,p,⟨m,e,hm,hb,q⟩,kk⟩=>by
 subst e
 cases p with
 |cons r1 t1=>
  cases t1 with
  |cons r2 t2=>
   cases t2
   obtain⟨p,c,ed,rfl⟩:=r1
   subst ed
   obtain⟨rfl,_⟩:=VA.leafI r2
   exact⟨p,c,m,rfl,d p c rfl,hm,hb,λr H' h1 h2 o=>kk _ _ _ o.kp (.flat rfl) (q r h1 h2)⟩
theorem zFt{X:Cx}{F:Fm}{st:List Stmt}:USs X F st (λ_ _=>False):=⟨PSs.imp zEI λD σ H ⟨_,_,_,h,_⟩=>h⟩
theorem Has.pfalse{P:Program}{w:World}{K:W.Frag}{mg:Str->Option Value}{base:Heap}{x:Str}{st:Stmt}{N ps:List Str}{k:Nat}{psp:PSp}(h:Has K mg x st)(S:bA N ps (aN st))
  (hb:∀(kV doc pm:Value) (an:Option Addr) (cdv ct:Value) (us:List Value),us.length=ps.length->bindArgs (W.fnOf x x (gU st) (eZ st) (aN st) .none kV doc pm an cdv ct) ⟨us,[]⟩=pure (ps.zip us)) (hf:∀as R,psp as R->False):PGood P w K mg base (k+1) x ps psp:=
 h.pgood S hb (λ_ _ _ _ _ _ _ _ _=>zFt) λas R q=>(hf as R q).elim
theorem cK{j:Int}(h1:-(10 ^ 100)<j)(h2:j<10 ^ 100):BigOk j:=by
 unfold BigOk
 have:j.natAbs<10 ^ 100:=by omega
 exact qq1_ this (by decide +kernel)
section
variable{own:Nat}{fr:List Nat}{g:UG}{tf:UTt}{ue:UT}{α:Type}
theorem jZ{ρ:aU}(c:α->Tv)(f:α->Option Tv):∀{l:List α}{Q:List Tv->aU->Prop},(∀a∈l,∀R:Option Tv->aU->Prop,R (f a) ρ->mK own fr g tf ue (c a) ρ R)->Q (l.filterMap f) ρ->fR own fr g tf ue (l.map c) ρ Q
 |[],_,_,q=>q
 |a::l,Q,h,q=>by
  rw[qA_,tU]
  refine h a (.head _) _ ?_
  rw[qH_]at q
  cases e:f a with
  |none=>rw[e]at q;exact jZ c f (λb hb=>h b (.tail _ hb)) q
  |some U=>rw[e]at q;exact jZ (Q:=λUs ρ4=>Q (U::Us) ρ4) c f (λb hb=>h b (.tail _ hb)) q
theorem dR{ρ:aU}(c f:α->Tv){l:List α}{Q:List Tv->aU->Prop}(h:∀a∈l,∀R:Option Tv->aU->Prop,R (some (f a)) ρ->mK own fr g tf ue (c a) ρ R)(q:Q (l.map f) ρ):fR own fr g tf ue (l.map c) ρ Q:=
 jZ c (λa=>some (f a)) h (by rw[show l.filterMap (λa=>some (f a))=l.map f from List.filterMap_eq_map'▸rfl];exact q)
theorem uM{ρ:aU}(r:Tv->Tv->Prop):∀{Ts:List Tv}{Q:List Tv->aU->Prop},(∀T∈Ts,∀R:Option Tv->aU->Prop,(∀U,r T U->R (some U) ρ)->mK own fr g tf ue T ρ R)->(∀Us,Paired r Ts Us->Q Us ρ)->fR own fr g tf ue Ts ρ Q
 |[],_,_,q=>q [] .nil
 |T::Ts,Q,h,q=>by
  rw[tU]
  exact h T (.head _) _ λU hU=>uM (Q:=λUs ρ4=>Q (U::Us) ρ4) r (λT' hT'=>h T' (.tail _ hT')) λUs p=>q _ (.cons hU p)
theorem gS{g:UG}{ub:UTs}{P:PEnds}{ρ:aU}(c:α->Tv){l:List α}(J:Nat->aU->Prop)(h0:J 0 ρ)(hs:∀i a ρ' (N:aU->Prop),l[i]?=some a->J i ρ'->(∀ρ'',J (i+1) ρ''->N ρ'')->g (c a) ρ' λρ1=>ub {P with nx:=N,ct:=N,bk:=P.nx} ρ1)
  (hd:∀ρ',J l.length ρ'->P.nx ρ'):jD g ub (l.map c) P ρ:=
 jL J h0 (λi T ρ' N e j hN=>by
  rw[qv_]at e
  obtain⟨a,ea,rfl⟩:=qg1_.mp e
  exact hs i a ρ' N ea j hN) (by rw[qc_];exact hd)
end
theorem wA(x y:Str):eqT (sT x) (sT y)=decide (x=y):=by
 rw[eqT]
 show(x==y)=_
 exact Bool.beq_eq_decide_eq x y
theorem zHG{x:Str}{ss:List Str}:((ss.map sT).any λU=>eqT U (sT x))=decide (x∈ss):=by
 rw[List.any_map,qx1_,qL_,decide_eq_true_iff]
 constructor
 ·rintro⟨y,hy,e⟩
  have e:eqT (sT y) (sT x)=true:=e
  rw[wA,decide_eq_true_iff]at e
  rw[<-e];exact hy
 ·intro h
  exact⟨x,h,by show eqT (sT x) (sT x)=true;rw[wA,decide_eq_true_iff]⟩
theorem zF9{x:Str}{ss:List Str}:pJ (sT x) (ss.map sT):=⟨trivial,λU hU=>by
 obtain⟨s,_,rfl⟩:=qf_.mp hU
 trivial⟩
theorem sif{b:Bool}{A B:Prop}(h1:b=true->A)(h2:b=false->B):if b=true then A else B:=by
 cases b with
 |true=>exact(if_pos rfl).mpr (h1 rfl)
 |false=>exact(if_neg ql_).mpr (h2 rfl)
theorem jS{p:Prop}[Decidable p]{A B:Prop}(h1:p->A)(h2:¬ p->B):if decide p=true then A else B:=sif (λh=>h1 (qb1_ h)) λh=>h2 (of_decide_eq_false h)
end L2
namespace L2
open PySem PySem.Spec PyProof.Rows WordM
abbrev UTd:=aU->(List (Str×Tv)->aU->Prop)->Prop
def zJ9(K:W.Frag)(F:Fm)(u:UTd):TE:=λσ H QQ=>∃ρ Q,FrOk K F ρ σ H/\u ρ Q/\∀a kvs kts H' ρ',Stp K F σ ρ H ρ' H'->H a=none->H' a=some (.dK kvs)->(kts.map (·.1)).Nodup->kts.length<64->VAk K H' kvs kts->Q kts ρ'->QQ (.ref a) H'
structure UD (X:Cx) (F:Fm) (e:Expr) (u:UTd):Prop where
 pe:PE X e (zJ9 X.K F u)
section
variable{X:Cx}{F:Fm}{e:Expr}{pos:Pos}
def uD(u:UTd):UT:=λρ Q=>u ρ λkts ρ1=>Q (.dct kts) ρ1
theorem zJs{u:UTd}(h:UD X F e u):UE X F e (uD u):=⟨PE.imp (PE.fz h.pe) λσ H QQ ⟨ρ,Q,fr,h,k⟩=>⟨ρ,_,fr,h,λa kvs kts H' ρ' s n e nd z p q=>
 .inr ⟨a,_,rfl,e,rfl,λob=>k _ _ _ _ (s.put fr n e rfl (.frz ob (.dK kvs))) (VA.dct ⟨ob,bB⟩ nd z (VAk.hs (gD e rfl) p)) q⟩⟩⟩
variable{u:UT}{p:Pos}
def zIm(K:W.Frag):List V->Hp->VK->Prop:=λxs H Q=>∃(l:Addr) (ys:List V) (ps:List (Key×V)),xs=[.ref l]/\Rd H l (.lst ys)/\Paired (λy (p:Key×V)=>∃t,y=.ref t/\SqT K H t [kV p.1,p.2]) ys ps/\ps.length<=1000 /\
  ∀d,H d=none->Q (.ref d) (upd H d (.dK (kG [] ps)))
theorem zEi(hc:X.calm=true):CallR X (.type "dict") (zIm X.K):=by
 rintro pins s σ H _ us Q I r ⟨l,ys,ps,rfl,hl,hp,hsz,q⟩
 obtain⟨u,rfl,rx⟩:=cQ r
 cases rx
 obtain⟨hz,its,n,hv,hget⟩:=(show ObjOk X.prog X.w H s.heap l (.lst ys) from hl.ok I.hok)
 have key:∀{ys:List V} {its:List Value} {ps:List (Key×V)},Vals ys its->Paired (λy (p:Key×V)=>∃t,y=.ref t/\SqT X.K H t [kV p.1,p.2]) ys ps ->
   ∃qs:List (Key×Value),KV ps qs/\its.length=qs.length/\∀(j:Nat) (k:Key) (v:Value),qs[j]?=some (k,v)->∃t kk,its[j]?=some (.ref t)/\IsTup s.heap t #[kk,v]/\(bR X.prog X.w).is k kk=true:=by
  intro ys its ps hv hp
  induction hp generalizing its with
  |nil=>cases hv;exact⟨[],.nil,rfl,λj k v e=>by simp at e⟩
  |@cons y p ys' ps' h _ ih=>
   cases hv with
   |cons r0 rs=>
    obtain⟨t,rfl,ht⟩:=h
    cases r0
    obtain⟨qs,kq,lq,fq⟩:=ih rs
    obtain⟨tits,tv,tt,_⟩:=I.tuple ht
    cases tv with
    |@cons _ kk _ _ r1 rs1=>
     cases rs1 with
     |@cons _ vv _ _ r2 rs2=>
      cases rs2
      refine⟨(p.1,vv)::qs,.cons ⟨rfl,r2⟩ kq,by rw[qI_,qI_,lq],λj k v e=>?_⟩
      cases j with
      |zero=>
       cases e
       exact⟨t,kk,rfl,tt,kN r1⟩
      |succ j=>exact fq j k v e
 obtain⟨qs,kq,lq,fq⟩:=key hv hp
 have hbig:=I.big
 have hps:ps.length=qs.length:=Paired.length kq
 refine zDy (ps:=qs) (I.ok.hd hc) hget ⟨by simpa using lq,λj k v e=>by obtain⟨t,kk,a,b,c⟩:=fq j k v e;exact⟨t,kk,by simpa using a,b,c⟩⟩ (by omega) λh' tk hd k=>?_
 have hlen:=yK ps []
 refine⟨.ref s.heap.objs.size,_,I.laid (t':=tk) (o:=.dK (kG [] ps)) k (qe_ _) (show ObjOk _ _ _ h' _ (.dK _) from ⟨by rw[sizeLine_eq];have:=hlen;simp at this;omega,?_,_,zHu kq .nil,hd⟩),rfl,q _ I.fresh⟩
 exact beq_eq_false_iff_ne.mpr (qC_ hbig)
def zHY(u:UT):UTd:=λρ Q=>u ρ λT ρ1=>∃kts:List (Str×Tv),T=.seq false (kts.map λkt=>.seq true [sT kt.1,kt.2])/\(kts.map (·.1)).Nodup/\kts.length<64/\Q kts ρ1
theorem zAT{K:W.Frag}{H:Hp}:∀{ys:List V}{kts:List (Str×Tv)},VAs K H ys (kts.map λkt=>.seq true [sT kt.1,kt.2])->∃ps:List (Key×V),Paired (λy (p:Key×V)=>∃t,y=.ref t/\SqT K H t [kV p.1,p.2]) ys ps/\VAk K H ps kts
 |[],[],_=>⟨[],.nil,.nil⟩
 |y::ys,kt::kts,.cons r t=>by
  obtain⟨ps,h1,h2⟩:=zAT t
  obtain⟨a,xs,rfl,hs,z,p⟩:=VA.seqI r
  obtain⟨k,v,rfl,vk,vv⟩:∃k v,xs=[k,v]/\VA K H k (sT kt.1)/\VA K H v kt.2:=by
   cases p with
   |cons r1 t1=>
    cases t1 with
    |cons r2 t2=>cases t2;exact⟨_,_,rfl,r1,r2⟩
  obtain⟨rfl,_⟩:=vk.leafI
  exact⟨(.inr kt.1,v)::ps,.cons ⟨a,rfl,hs⟩ h1,.cons ⟨rfl,vv⟩ h2⟩
theorem zEo{K:W.Frag}{H:Hp}{kvs:List (Key×V)}{kts:List (Str×Tv)}(p:VAk K H kvs kts)(n:(kts.map (·.1)).Nodup):(kvs.map (·.1)).Nodup:=by
 rw[qI p]
 unfold List.Nodup at n ⊢
 rw[qv2_]
 exact n.imp λh e=>h (Sum.inr.inj e)
theorem zFw(hc:X.calm=true)(hg:Gl X "dict")(hm:X.mg "dict"=none)(he:UE X F e u)(hst:dN e=false:=by rfl)(hpl:(backTo pos (starEach [] X.env)).any (·.1)=false:=by rfl):UD X F (.Call (.Name "dict" p) [e] [] pos) (zHY u):=
 ⟨PE.imp (gA (zEi hc) hg hm boot_dict (cT he.pe dD hst) (by decide) (by decide) (gK hst) hpl) λσ H QQ ⟨ρ,Q,f,h,k⟩=>by
  refine⟨ρ,_,f,h,λx T H1 ρ1 s1 v1 q1=>?_⟩
  obtain⟨kts,rfl,nd,z,q⟩:=q1
  obtain⟨a,xs,rfl,⟨ob,hs⟩,zz,p⟩:=v1.seqI
  obtain⟨ps,h1,h2⟩:=zAT p
  have l2:ps.length=kts.length:=Paired.length h2
  refine⟨a,xs,ps,rfl,.inr ⟨ob,hs⟩,h1,by omega,λd n=>?_⟩
  rw[zAj (kvs:=[]) (by simpa using zEo h2 nd),ql1_]
  exact k _ _ _ _ _ (s1.trans (Stp.same s1.fr (cB n))) (s1.non n) bB nd z (VAk.hs (gX n) h2) q⟩
variable{x:Str}{apos cpos:Pos}
def zHZ(ud u ux:UT):UT:=λρ Q=>ud ρ λD ρ1=>∃kts,D=.dct kts/\u ρ1 λJ ρ2=>∃k:Str,J=sT k/\ux ρ2 λW ρ3=>Q ((bS kts k).getD W) ρ3
theorem zAK{o e2:Expr}{ud ux:UT}(hu:X.A.units+1<cLine)(ho:UE X F o ud)(h:UE X F e u)(hx:UE X F e2 ux)(m:M2 X o "get" apos e e2 cpos:=by exact⟨rfl,rfl,rfl,rfl⟩):UE X F (.Call (.Attribute o "get" apos) [e,e2] [] cpos) (zHZ ud u ux):=⟨PE.imp (zFT hu ho.pe h.pe hx.pe m) λσ H QQ ⟨ρ,Q,f,hu,k⟩=>by
 refine⟨ρ,_,f,hu,λx D H1 ρ1 s1 v1 q1=>?_⟩
 obtain⟨kts,rfl,q1⟩:=q1
 obtain⟨a,kvs,rfl,⟨ob,hd⟩,nd,z,p⟩:=v1.dctI
 refine⟨a,rfl,.inl ⟨kvs,.inr ⟨ob,hd⟩⟩,ρ1,_,s1.fr,q1,λy J H2 ρ2 s2 v2 q2=>?_⟩
 obtain⟨kk,rfl,q2⟩:=q2
 obtain⟨rfl,_⟩:=v2.leafI
 refine⟨ρ2,_,s2.fr,q2,λz W H3 ρ3 s3 v3 q=>?_⟩
 have hs:=(s2.hs s1.fr).trans (s3.hs s2.fr)
 refine⟨_,.inl ⟨kvs,.inr kk,.inr ⟨ob,hs _ _ rfl hd⟩,rfl,rfl⟩,?_⟩
 rcases qX (VAk.hs hs p) kk with⟨z1,z2⟩|⟨U,v,z1,z2,vv⟩
 ·rw[z2];rw[z1]at q;exact k _ _ _ _ ((s1.trans s2).trans s3) v3 q
 ·rw[z2];rw[z1]at q;exact k _ _ _ _ ((s1.trans s2).trans s3) vv q⟩
end
section
variable{X:Cx}{F:Fm}
def zJL:R2:=λx y H Q=>∃l k xs,x=.ref l/\y=.int k/\Rd H l (.lst xs) /\ -(2 ^ 63)<=k/\k<2 ^ 63/\xs.length*k.toNat<=sizeLine/\∀p,H p=none->Q (.ref p) (upd H p (.lst (List.replicate k.toNat xs).flatten))
theorem zHd:OpR X (binaryOp .Mult) zJL:=by
 rintro pins s σ H _ _ v u Q I rx ry ⟨l,k,xs,rfl,rfl,hH,h1,h2,hz,q⟩
 cases rx
 obtain⟨t,rfl⟩:=ry
 obtain⟨z,its,n,r,e⟩:=hH.ok I.hok
 have hl:=r.length
 have hlen:its.toArray.size*k.toNat<=sizeLine:=by rw[qn_,<-hl];exact hz
 have hcap:¬ its.toArray.size*k.toNat > (2 ^ 63-1) / 8:=by
  have:(sizeLine:Nat)<=(2 ^ 63-1) / 8:=by decide
  omega
 have hfit:¬ (!Builtin.List.listFitsIndex k)=true:=by
  rw[fitsIndex_both h1 h2]
  exact ql_
 have hlong:¬ Builtin.List.listTooLong (its.toArray.size*k.toNat)=true:=by
  rw[zAW hlen]
  exact ql_
 have hnew:List.foldl (λx1 x2=>x1++x2) #[] (List.replicate (if its.toArray.isEmpty=true then 0 else k.toNat) its.toArray)=(List.replicate k.toNat its).flatten.toArray:=by
  have f0:∀m:Nat,List.foldl (λx1 x2=>x1++x2) #[] (List.replicate m its.toArray)=(List.replicate m its).flatten.toArray:=λm=>by
   have:=zAt its m []
   rw[ql1_]at this
   exact this
  rw[f0]
  cases its with
  |nil=>simp
  |cons a r'=>rw[if_neg (by simp)]
 refine wpAny_binaryOp_repeat_ref (T:="list") (U:="int") (by decide) ⟨_,e,rfl⟩ (λs'=>typeIs_int s' k t) noFill_list_mul F.fills_int_mul F.slot_int_rmul repeat_list F.slot_int_index.lookup
  (call_meets F.slot_int_rmul (typeIs_int s k t) F.entry_int_rmul (F.args_int_rmul_2 _ _) (int___rmul___int_list k t l its.toArray n)
   ⟨e,rfl,⟨_,e,rfl⟩,call_meets F.slot_list_mul ⟨_,e,rfl⟩ F.entry_list_mul (F.args_list_mul_2 _ _) (AutoListH.list___mul___list_int_3 l its.toArray n k t hfit hcap hlong) ⟨e,?_⟩⟩)
 rw[hnew]
 exact⟨.ref _,_,I.lnew (t':=s.toks) (r.rep k.toNat) (by rw[vV,qP1_];exact hz),rfl,q _ I.fresh⟩
theorem zI{α β:Type}{R:α->β->Prop}{l:List α}{m:List β}(p:Paired R l m):∀k:Nat,Paired R (List.replicate k l).flatten (List.replicate k m).flatten
 |0=>.nil
 |k+1=>by rw[qn1_,qn1_,qo1_,qo1_];exact pT p (zI p k)
def zCJ:P2
 |.seq false xs,.leaf (.int k),Q=>(xs.length*k.toNat<=100000 /\ -(2 ^ 62)<=k/\k<2 ^ 62)/\Q (.seq false (List.replicate k.toNat xs).flatten)
 |T,U,Q=>xU T U Q
theorem qS:fW X (binaryOp .Mult) zCJ:=by
 obtain⟨a,oa,ra⟩:=zIp (X:=X)
 refine⟨_,oa.or zHd,λx y T U H Q QQ vx vy h k=>?_⟩
 unfold zCJ at h
 split at h
 ·obtain⟨a,xs,rfl,⟨ob,hs⟩,z,p⟩:=vx.seqI
  obtain⟨rfl,_⟩:=vy.leafI
  obtain⟨⟨h1,h2,h3⟩,q⟩:=h
  have l1:xs.length=_:=Paired.length p
  refine .inr ⟨a,_,xs,rfl,rfl,.inr ⟨ob,hs⟩,by omega,by omega,gR (by rw[l1];exact h1),λb n=>k _ _ _ (Raw.lst n ?_ (zI p _)) q⟩
  rw[vV,qP1_];exact h1
 ·exact .inl (ra x y T U H Q QQ vx vy h k)
end
end L2
namespace L2
open PySem PySem.Spec PyProof.Rows WordM
inductive Wd where
 |few (ts:List Str)
 |make (h:Str) (a b:Int) (ms:List Str)
inductive Pt where
 |nothing
 |truths (bs:List Bool)
 |numbers (lo hi st:Int)
 |texts (w:Wd)
 |lists (a b:Int) (f:List Pt)
 |record (a b:Int) (fs:List (Str×Bool×List Pt))
 |table (a b:Int) (w:Wd) (f:List Pt)
def bV:Wd->Tv
 |.few ts=>.seq true [sT "few",.seq true (ts.map sT)]
 |.make h a b ms=>.seq true [sT "make",sT h,iT a,iT b,.seq true (ms.map sT)]
def aX:Pt->Tv
 |.nothing=>.seq true [sT "nothing"]
 |.truths bs=>.seq true [sT "truths",.seq true (bs.map bT)]
 |.numbers lo hi st=>.seq true [sT "numbers",iT lo,iT hi,iT st]
 |.texts w=>.seq true [sT "texts",bV w]
 |.lists a b f=>.seq true [sT "lists",iT a,iT b,.seq true (f.map aX)]
 |.record a b fs=>.seq true [sT "record",iT a,iT b,.seq true (fs.map λx=>.seq true [sT x.1,bT x.2.1,.seq true (x.2.2.map aX)])]
 |.table a b w f=>.seq true [sT "table",iT a,iT b,bV w,.seq true (f.map aX)]
termination_by p=>sizeOf p
decreasing_by
 all_goals simp_wf
 ·have:=qN2_ ‹_›;omega
 ·obtain⟨x1,x2,x3⟩:=x
  have h1:=qN2_ ‹_∈fs›
  have h2:=qN2_ ‹_∈x3›
  simp at h1
  omega
 ·have:=qN2_ ‹_›;omega
abbrev bZ(f:List Pt):Tv:=.seq true (f.map aX)
abbrev cE(x:Str×Bool×List Pt):Tv:=.seq true [sT x.1,bT x.2.1,bZ x.2.2]
theorem iB(a b:Int)(f:List Pt):aX (.lists a b f)=.seq true [sT "lists",iT a,iT b,bZ f]:=by rw[aX]
theorem eK(a b:Int)(fs:List (Str×Bool×List Pt)):aX (.record a b fs)=.seq true [sT "record",iT a,iT b,.seq true (fs.map cE)]:=by rw[aX]
theorem fJ(a b:Int)(w:Wd)(f:List Pt):aX (.table a b w f)=.seq true [sT "table",iT a,iT b,bV w,bZ f]:=by rw[aX]
def wM:Pt->Str
 |.nothing=>"nothing"
 |.truths _=>"truths"
 |.numbers ..=>"numbers"
 |.texts _=>"texts"
 |.lists ..=>"lists"
 |.record ..=>"record"
 |.table ..=>"table"
def fG:Pt->Nat
 |.nothing=>0
 |.truths _=>1
 |.numbers ..=>2
 |.texts _=>3
 |.lists ..=>4
 |.record ..=>5
 |.table ..=>5
theorem eJ{a b:Int}{A B:Prop}(h1:a=b->A)(h2:a≠b->B):if (false != eqV (.int a) (.int b))=true then A else B:=sif (λz=>h1 (by simpa[eqV]using z)) λz=>h2 (by simpa[eqV]using z)
theorem sD{a b:Str}{A B:Prop}(h1:a=b->A)(h2:a≠b->B):if (false != eqV (.str a) (.str b))=true then A else B:=sif (λz=>h1 (by simpa[eqV]using z)) λz=>h2 (by simpa[eqV]using z)
def fI(s:Str):Prop:=Sg s/\s.length<=50
def hZ(l:List Str):Prop:=l.Pairwise λa b=>cs a<cs b
theorem zDN{a b:Str}(h:cs a<=cs b)(n:a≠b):cs a<cs b:=by
 refine Classical.byContradiction λz=>n (kD (List.le_antisymm h (qZ_.mp z)))
theorem zGM(l:List Str):∃ss:List Str,ss.Perm l/\sortedS ss=true:=by
 refine⟨l.mergeSort λa b=>decide (cs a<=cs b),List.mergeSort_perm _ _,PyProof.Rows.sortedS_of_pairwise _ ?_⟩
 refine(List.pairwise_mergeSort (λa b c h1 h2=>?_) (λa b=>?_) l).imp λ{a b} h=>?_
 ·exact qP_ (qJ2_ (qb1_ h1) (qb1_ h2))
 ·rcases List.le_total (cs a) (cs b) with z|z<;>simp[z]
 ·rw[ltCps_eq]
  exact qF_ (qZ_.mpr (qb1_ h))
theorem zGL(l:List Str):(aW l).Pairwise λa b=>cs a<=cs b:=by
 obtain⟨ss,h1,h2⟩:=zGM l
 rw[<-nE h1 h2]
 exact pS _ h2
theorem zAb{l:List Str}(n:l.Nodup):hZ (aW l):=by
 have h2:(aW l).Nodup:=(eM l).nodup_iff.mpr n
 exact List.Pairwise.imp₂ (λa b h n=>zDN h n) (zGL l) h2
theorem kZ{l:List Str}(h:hZ l):l.Nodup:=List.Pairwise.imp (λ{a b} h e=>by rw[e]at h;exact qf3_ _ h) h
end L2
namespace L2
open PySem PySem.Spec PyProof.Rows WordM
def stW(x y:Str):Bool:=decide (0+y.length<=x.length)&&Builtin.Str.subAt x y 0
def aV(x hd:Str):Str:=Txt.slice x (some (hd.length:Int)) none
def dG:Tv->Nat
 |.leaf .non=>0
 |.leaf (.bl _)=>1
 |.leaf (.int _)=>2
 |.leaf (.str _)=>3
 |.leaf _=>5
 |.seq false _=>4
 |.seq true _=>5
 |.dct _=>5
def cR:Nat->Str
 |0=>"nothing"
 |1=>"truth"
 |2=>"number"
 |3=>"text"
 |4=>"list"
 |_=>"dict"
end L2
namespace L2
open PySem PySem.Spec PyProof.Rows WordM
theorem uH{kts:List (Str×Tv)}{k:Str}{U:Tv}(h:bS kts k=some U):(k,U)∈kts:=by
 unfold bS at h
 obtain⟨kt,h1,h2⟩:=qg1_.mp h
 have h3:=qg3_ h1
 have h4:=qq3_ h1
 have h5:kt.1=k:=by simpa using h3
 rw[<-h5,<-h2];exact h4
theorem uZ{kts:List (Str×Tv)}(hn:(kts.map (·.1)).Nodup){k:Str}{U:Tv}(h:(k,U)∈kts):bS kts k=some U:=by
 obtain⟨i,hi,e⟩:=qU1_.mp h
 have:=zF1 hn (i:=i) (kt:=(k,U)) (by rw[qk_ hi,e])
 exact this
theorem lookD_none{kts:List (Str×Tv)}{k:Str}:bS kts k=none↔k∉kts.map (·.1):=by
 constructor
 ·intro h hk
  obtain⟨U,e⟩:=look_mem hk
  rw[h]at e;cases e
 ·intro h
  cases e:bS kts k with
  |none=>rfl
  |some U=>exact absurd (qf_.mpr ⟨_,uH e,rfl⟩) h
end L2
namespace L2
open PySem PySem.Spec PyProof.Rows WordM
def rP(K:W.Frag):Sp:=λvs H Q _=>∃(a:Addr) (ns:List Int),vs=[.ref a]/\SqL K H a (ns.map V.int)/\ns.length<=63/\∀H',Q (.bl true) H'
def mU(n:Nat):aU:=.no::.dk::List.replicate (n-2) .no
theorem zJi{K:W.Frag}{H:Hp}{p c:Addr}{N:List Str}{x:V}(hN:2<=N.length)(d:DeckAt H p c):FrOk K ⟨H,some (p,c)⟩ (mU N.length) ((dY N [x]).set 1 (some (.ref p))) H:=by
 have nm:∀(i:Nat) (s:Sl),(mU N.length)[i]?=some s->(s=.dk/\i=1)\/s=.no:=λi s e=>by
  unfold mU at e
  match i,e with
  |0,e=>exact .inr (by simpa using e.symm)
  |1,e=>exact .inl ⟨by simpa using e.symm,rfl⟩
  |i+2,e=>
   have e:(List.replicate (N.length-2) Sl.no)[i]?=some s:=by simpa using e
   exact .inr (List.eq_of_mem_replicate (qE_ e))
 refine⟨λp' c' e=>by cases e;exact d,⟨λ_ _ e _=>e,λp' c' e=>by cases e;exact d⟩,?_,λi s e=>?_,λi j a s t e _ m _ _ _=>?_⟩
 ·unfold mU dY
  simp
  omega
 ·rcases nm i s e with⟨rfl,rfl⟩|rfl
  ·refine⟨p,c,rfl,?_⟩
   unfold ixv dY
   rw[qj1_ (by simp;omega)]
   rfl
  ·trivial
 ·rcases nm i s e with⟨rfl,_⟩|rfl<;>cases m
theorem zA4{K:W.Frag}{mg:Str->Option Value}{x:Str}{a:Addr}{ss:List Str}(m:mg x=some (.ref a))(T:∀H,SqT K H a (ss.map V.str))(l:ss.length<=100000:=by decide):eF K mg x (.seq true (ss.map sT)):=by
 refine⟨.ref a,.ref a,m,rfl,λH=>VA.seq (T H) (by rw[qc_];exact l) ?_⟩
 have key:∀ss:List Str,VAs K H (ss.map V.str) (ss.map sT):=λss=>by
  induction ss with
  |nil=>exact .nil
  |cons s ss ih=>exact .cons (.flat rfl) ih
 exact key ss
theorem zG0{X:Cx}{st:List Stmt}{us:UTs}(h:∀F,USs X F st us):PSs X st (λD σ H=>∃F,mG X.K F us D σ H):=λpins s σ H D I ⟨F,q⟩=>(h F).ps pins s σ H D I q
theorem zHm{X:Cx}{us:UTs}{D:kU}{p c:Addr}{H:Hp}{N:List Str}{x:V}(hN:2<=N.length)(d:DeckAt H p c)(q:∀H',D.rt (.bl true) H')(h:us {nx:=λ_=>False,rt:=λT=>T=bT true} (mU N.length)):
  ∃F,mG X.K F us D ((dY N [x]).set 1 (some (.ref p))) H:=⟨⟨H,some (p,c)⟩,mU N.length,_,zJi hN d,h,λ_ _ _ _ _ z=>z.elim,λx T H' _ v e=>by
 subst e
 obtain⟨rfl,_⟩:=v.leafI
 exact q H',λ_ _ _ _ _ z=>z.elim,λ_ _ _ _ _ z=>z.elim⟩
end L2
namespace L2
open PySem PySem.Spec PyProof.Rows WordM
section
variable{X:Cx}{F:Fm}
variable{x:Str}{p apos cpos pos:Pos}{st:Stmt}
theorem zB7:US X F st (λ_ _=>False):=⟨λpins s σ H D I ⟨_,_,_,h,_⟩=>h.elim⟩
end
end L2
namespace L2
open PySem PySem.Spec PyProof.Rows
def dW:Bool->Value->Bool
 |b,.bool c=>b==c
 |_,_=>false
theorem lA{b:Bool}{v:Value}(h:dW b v=true):v=.bool b:=by
 cases v<;>simp_all [dW]
def hG(b:Bool):Int:=if b then 1 else 0
section
variable{prog:Program}{w:World}{A:Around}{E:Value->Shared->Prop}{s:Shared}
theorem zFp{b:Bool}{Q:Int->Shared->Prop}(h:Q (hG b) {s with toks:=s.toks+1}):wpAny (model prog w) A (pyHash (.bool b)) Q E s:=by
 unfold pyHash
 have hv:[Value.bool b].any Value.onHeap=false:=rfl
 refine qa_ ?_
 rw[cRoomFor,if_neg (by rw[hv];exact ql_)];refine qb_ ?_
 refine qa_ (wpAny_specialOf (typeIs_bool' s b) F.slot_bool_hash.lookup ?_)
 show wpAny _ _ (if (some (Value.builtin "int.__hash__")==some Value.none)=true then _ else _) Q E s
 rw[if_neg (by rw[beq_builtin_none];exact ql_)]
 refine qa_ (wpAny_specialOf (typeIs_bool' s b) F.slot_bool_hash.lookup ?_)
 show wpAny _ _ (callSpecialIfBoundUnlessNone? (.bool b) "__hash__" _ >>= _) Q E s
 refine qa_ (wpAny_callSpecialIfBoundUnlessNone?_slot (typeIs_bool' s b) F.slot_bool_hash
  (qK_ F.slot_bool_hash (typeIs_bool' s b) PySem.entry_int_hash
   (show wpAny _ _ (do ret (<- mkInt (rawHash (hG b)))) _ _ s from ?_) (PySem.args_int_hash _)))
 refine wpAny_ret_mkInt ?_
 cases b
 ·exact qb_ h
 ·exact qb_ h
theorem zHI{a b:Bool}{Q:Bool->Shared->Prop}(h:Q (decide (a=b)) s):wpAny (model prog w) A (eqBool (.bool a) (.bool b)) Q E s:=by
 refine SeqAt.EqAt.bool_bool a b _ _ _ _ ?_
 have e:(a==b)=decide (a=b):=by cases a<;>cases b<;>rfl
 rw[e];exact h
end
def kI(prog:Program)(w:World):PySem.KeyKind prog w Bool where
 is:=dW
 hash:=hG
 inj:=λv a b ha hb=>by
  have:=(lA ha).symm.trans (lA hb)
  injection this
 byValue:=λk v h=>by rw[lA h];rfl
 pyHash:=λhv h=>by rw[lA hv];exact zFp h
 eqBool:=λhu hv h=>by rw[lA hu,lA hv];exact zHI h
 «strs»:=λk x t v h=>by simp[dW]at h
def usB(f t:Bool):List Bool:=(if f then [false] else [])++(if t then [true] else [])
def esB(f t:Bool):Array (Int×Value):=((usB f t).map λb=>(hG b,Value.bool b)).toArray
def bU(l f t:Bool):SetTable:=⟨7,((usB f t).map λb=>if b then 1 else 0).toArray,#[],0,l,0,true⟩
theorem zK1(l f t b:Bool)(h:b∉usB f t):layNew (bU l f t) (esB f t) (hG b) (.bool b)=(esB (f || !b) (t || b),bU l (f || !b) (t || b),false,false):=by
 cases l<;>cases f<;>cases t<;>cases b<;>first|rfl|exact absurd (by simp[usB]) h
theorem eW(l f t:Bool):(bU l f t).fits (esB f t).size=true:=by cases l<;>cases f<;>cases t<;>rfl
theorem zKf(l f t:Bool):(bU l f t).tooFull=false:=by cases l<;>cases f<;>cases t<;>rfl
theorem mC(f t:Bool):(esB f t).size=(usB f t).length:=by simp[esB]
theorem iA(f t:Bool):(usB f t).length<=2:=by cases f<;>cases t<;>decide
def SetBl(w:World)(a:Addr)(f t:Bool)(h:Heap):Prop:=∃ep,h.get? a=some (bJ (esB f t) ep (bU (!byT w) f t))
section
variable{prog:Program}{w:World}{A:Around}{E:Value->Shared->Prop}{s:Shared}{a:Addr}{f t b:Bool}
theorem SetBl.kept{h h':Heap}(S:SetBl w a f t h)(k:∀o,h.get? a=some o->h'.get? a=some o):SetBl w a f t h':=by
 obtain⟨ep,e⟩:=S
 exact⟨ep,k _ e⟩
theorem elB:ElemsOf (kI prog w) (esB f t).toList:=λe he=>by
 have he:e∈(usB f t).map λb=>(hG b,Value.bool b):=he
 obtain⟨b,_,rfl⟩:=qf_.mp he
 exact⟨⟨b,by show dW b (.bool b)=true;simp[dW],rfl⟩,rfl⟩
theorem findB:((esB f t).toList.findIdx? λe=>(kI prog w).is b e.2)=none↔b∉usB f t:=by
 rw[qn3_]
 constructor
 ·intro h hb
  have:=h (hG b,.bool b) (by simp only[esB];exact qf_.mpr ⟨b,hb,rfl⟩)
  exact absurd this (by show ¬ dW b (.bool b)=false;simp[dW])
 ·intro h e he
  have he:e∈(usB f t).map λb=>(hG b,Value.bool b):=he
  obtain⟨c,hc,rfl⟩:=qf_.mp he
  show dW b (.bool c)=false
  simp only[dW,beq_eq_false_iff_ne]
  exact λz=>h (z▸hc)
theorem inB{f t b:Bool}(h:b∈usB f t):(f || !b)=f/\(t || b)=t:=by
 cases f<;>cases t<;>cases b<;>simp_all [usB]
theorem zBi{Q:Bool->Shared->Prop}(S:SetBl w a f t s.heap)(h:∀r h',Heap.SameBut a s.heap h'->SetBl w a (f || !b) (t || b) h'->Q r {s with heap:=h'}):
  wpAny (model prog w) A (setAddHashed a (.bool b) ((kI prog w).hash b)) Q E s:=by
 obtain⟨ep,ho⟩:=id S
 have hk:(kI prog w).is b (.bool b)=true:=by show dW b (.bool b)=true;simp[dW]
 have lt:(esB f t).size<scanBound:=by rw[mC];have:=iA f t;show _<4096;omega
 unfold setAddHashed setAddHashedIn
 refine qB_ (qa_ (qt_ ho rfl (eW _ _ _) ?_))
 dsimp only
 rw[byScan_of (x:=.bool b) rfl lt (elB (prog:=prog) (w:=w)),if_pos rfl]
 unfold setAddByScan
 refine qa_ (qa_ (wpAny_rule ?_))
 refine qa_ (wpAny_setScan_of hk ho rfl (eW _ _ _) elB ?_)
 cases hr:(esB f t).toList.findIdx? (λe=>(kI prog w).is b e.2) with
 |some j=>
  dsimp only
  have hin:b∈usB f t:=Classical.byContradiction λz=>by rw[findB.mpr z]at hr;cases hr
  refine qb_ (qb_ ?_)
  have e:s={s with heap:=s.heap}:=by cases s;rfl
  rw[e]
  refine h false s.heap (Heap.SameBut.refl a s.heap) ?_
  rw[(inB hin).1,(inB hin).2]
  exact S
 |none=>
  dsimp only
  have hout:=findB.mp hr
  rw[show(kI prog w).hash b=hG b from rfl,zK1 _ _ _ _ hout]
  dsimp only
  refine qa_ (qb_ ?_)
  rw[if_pos (show(bU (!byT w) (f || !b) (t || b)).plain=true from rfl)]
  refine qa_ ?_
  rw[show hashByValue 8 (.bool b)=pure true from rfl]
  refine qb_ ?_
  rw[if_pos rfl]
  refine qa_ (wpAny_storeSet_of ho rfl ?_ (by rw[mC];have:=iA (f || !b) (t || b);exact qh_ this (by decide)))
  rw[zKf]
  have o1:=qU_ (Obj.putSet (esB (f || !b) (t || b)) (bU (!byT w) (f || !b) (t || b))) ho rfl
  exact qb_ (qb_ (h true _ (Heap.SameBut.update s.heap a _) ⟨ep+1,o1⟩))
end
end L2
namespace L2
open PySem PySem.Spec PyProof.Rows
def inF(bs:List Bool):Bool:=bs.any (!·)
def inT(bs:List Bool):Bool:=bs.any id
theorem zGb(bs:List Bool)(b:Bool):inF (bs++[b])=(inF bs || !b):=by simp[inF]
theorem zGa(bs:List Bool)(b:Bool):inT (bs++[b])=(inT bs || b):=by simp[inT]
section
variable{prog:Program}{w:World}{A:Around}{R:Result->Shared->Prop}{I:Addr}{fp wr:List Addr}{G:Array GenState->Array GenState->Prop}{n:Nat}{P:Nat->Value->Prop}{St:Nat->Shared->Prop}
theorem zA0(W:WalksS prog w A.in1 I fp wr G n P St)(S:Addr)(hf:S∉fp)(bs:List Bool)(hn:n=bs.length)(hv:∀i v,P i v->∃b,bs[i]?=some b/\v=.bool b):
  ∀(k i:Nat) (s:Shared),n-i=k->i<=n->St i s->SetBl w S (inF (bs.take i)) (inT (bs.take i)) s.heap ->
   (∀s',Moved (S::wr) G s s'->SetBl w S (inF bs) (inT bs) s'.heap->R (.ok (.ret .none)) s')->codeAny (model prog w) A (.builtin "set.update.loop" ⟨[.ref S,.ref I],[]⟩) R s:=by
 have nw:S∉wr:=λz=>hf (W.sub _ z)
 have sub:∀b∈wr,b∈S::wr:=λb z=>qc1_ _ z
 intro k
 induction k with
 |zero=>
  intro i s hk hi st hS hR
  have e:i=n:=by omega
  subst e
  rw[hn,qf1_]at hS
  refine qX_ F.entry_set_update_loop ?_
  rw[qh1_ F.plain_set_update_loop _]
  show wpAny _ A.in1 (pyNext (.ref I) >>= _) _ _ s
  refine qa_ (W.done s _ _ st λs' hm=>?_)
  show wpAny _ A.in1 (ret Value.none) _ _ s'
  exact qb_ (hR s' (hm.mono sub) (hS.kept λo q=>hm.heap S _ nw q))
 |succ k ih=>
  intro i s hk hi st hS hR
  have lt:i<n:=by omega
  refine qX_ F.entry_set_update_loop ?_
  rw[qh1_ F.plain_set_update_loop _]
  show wpAny _ A.in1 (pyNext (.ref I) >>= _) _ _ s
  refine qa_ (W.item i s _ _ lt st λv s' hP st' hm=>?_)
  obtain⟨b,hb,rfl⟩:=hv i v hP
  have hS':SetBl w S (inF (bs.take i)) (inT (bs.take i)) s'.heap:=hS.kept λo q=>hm.heap S _ nw q
  show wpAny _ A.in1 (holding [Value.bool b] (setAdd S (.bool b)) >>= _) _ _ s'
  refine qa_ (qB_ ?_)
  unfold setAdd
  refine qB_ (qa_ ((kI prog w).pyHash (k:=b) (by show dW b (.bool b)=true;simp[dW]) ?_))
  refine zBi (s:={s' with toks:=s'.toks+1}) hS' λr h' sb S2=>?_
  have et:bs.take (i+1)=bs.take i++[b]:=by
   obtain⟨hi',rfl⟩:=qx_.mp hb
   exact qB2_ hi'
  rw[<-zGb,<-zGa,<-et]at S2
  refine qb_ ⟨plainId_quiet F.plain_set_update_loop _,ih (i+1) _ (by omega) lt (W.frame _ s' _ _ st' (qp1_ _) λc hc o e=>?_) S2 λs'' hm'' S3=>?_⟩
  ·rw[sb.2 c (λz:c=S=>hf (by rw[<-z];exact hc))];exact e
  ·refine hR s'' (Moved.trans W.gtrans ((hm.mono sub).then_heap (qp1_ _) λc o hc e=>?_) hm'') S3
   rw[sb.2 c (λz:c=S=>hc (by rw[z];exact qi1_))];exact e
end
theorem zCz{vs:List Value}{bs:List Bool}(h:vs=bs.map Value.bool)(i:Nat)(v:Value)(e:vs[i]?=some v):∃b,bs[i]?=some b/\v=.bool b:=by
 subst h
 rw[qv_]at e
 obtain⟨b,hb,rfl⟩:=qg1_.mp e
 exact⟨b,hb,rfl⟩
section
variable{prog:Program}{w:World}{A:Around}{E:Value->Shared->Prop}{s:Shared}
theorem zDD{l:Addr}{items:Array Value}{bs:List Bool}{Q:Value->Shared->Prop}(hh:A.handled=none)(hl:s.heap.IsList l items)(hi:items.toList=bs.map Value.bool)
  (h:∀(h':Heap) (tk:Nat),SetBl w s.heap.objs.size (inF bs) (inT bs) h'->(∀b o,b<s.heap.objs.size->s.heap.get? b=some o->h'.get? b=some o)->Q (.ref s.heap.objs.size) {s with heap:=h',toks:=tk}):
  wpAny (model prog w) A (call (.type "set") [.ref l]) Q E s:=by
 have hz:items.size=bs.length:=by have:=congrArg List.length hi;simpa using this
 obtain⟨c,tl,hmro⟩:=F.called_set.mro
 have hmade:=F.called_set.made
 have hsub:=F.called_set.sub
 refine wpAny_call (codeAny_of_tree ?_)
 show wpAny _ _ (callAny (.type "set") _) _ _ _
 refine qb_ ⟨Code.quiet_builtin _ (by decide +kernel),qX_ F.entry_type_call ?_⟩
 rw[Around.under_plain (weight_type_call_type "set" [.ref l] []) rfl]
 have h1:=F.called_set.notType
 have h2:=F.called_set.canCreate
 have hct:=F.typeCall_set_1 (.ref l)
 repeat (any_goals (first|assumption|wp_step))
 refine codeAny_mono (tO (.ref l) (E:=E) (Q₁:=λobj s₁=>obj=.ref s.heap.objs.size/\s₁={s with heap:=s.heap.push (bJ #[] 0 (.fresh 0 0 (!byT w)))}) ⟨rfl,rfl⟩) λr s₁ hr=>?_
 cases r with
 |error e=>exact hr
 |ok fl=>
  cases fl with
  |ret obj=>
   obtain⟨rfl,rfl⟩:=hr
   have hS:(s.heap.push (bJ #[] 0 (.fresh 0 0 (!byT w)))).get? s.heap.objs.size=some (bJ #[] 0 (.fresh 0 0 (!byT w))):=qi_ _ rfl
   have hT:Shared.TypeIs {s with heap:=s.heap.push (bJ #[] 0 (.fresh 0 0 (!byT w)))} (.ref s.heap.objs.size) "set":=⟨_,hS,rfl⟩
   have hli:=F.called_set.init.lookup
   have hbi:=F.called_set.init.bind (.ref s.heap.objs.size)
   repeat (any_goals (first|assumption|wp_step))
   refine codeAny_mono (codeAny_call_builtin (R:=wants (λr s₂=>r=.none/\∃h' tk,s₂={s with heap:=h',toks:=tk}/\SetBl w s.heap.objs.size (inF bs) (inT bs) h' /\
     (∀b o,b<s.heap.objs.size->s.heap.get? b=some o->h'.get? b=some o)) E) F.called_set.init.plain F.entry_set_init (check_set_init_1 hT ?_)) λr₂ s₂ hr₂=>?_
   ·obtain⟨ol,hol,hcl,nl,hdl⟩:=hl
    obtain⟨ocls,odict,odata,oslots⟩:=ol
    simp only at hcl hdl
    subst hcl hdl
    have hol':(s.heap.push (bJ #[] 0 (.fresh 0 0 (!byT w)))).get? l=some {cls:=.type "list",dict:=odict,data:=.seq items nl,slots:=oslots}:=qd_ _ hol
    have hsls:=F.sub_list_set
    have hslf:=F.sub_list_frozenset
    have hne:(Value.type "list"==Value.type "dict")=false:=by decide
    have hl1:(s.heap.push (bJ #[] 0 (.fresh 0 0 (!byT w)))).IsList l items:=⟨_,hol',rfl,nl,rfl⟩
    unfold Builtin.«set.__init__» noKeywords Builtin.Frozenset.updateFrom
    generalize hPI:pyIter=PI
    wp_walk
    subst hPI
    refine wpAny_pyIter_list hl1 ?_
    refine qa_ (wpAny_runValue ?_)
    have hlS:l<s.heap.objs.size:=qg_ hol
    have hh3:A.in1.in1.in1.handled=none:=by simp[hh]
    have neI:l≠(s.heap.push (bJ #[] 0 (.fresh 0 0 (!byT w)))).objs.size:=by
     rw[qy_]
     exact qm_ (qk1_ hlS)
    have nf:s.heap.objs.size∉[(s.heap.push (bJ #[] 0 (.fresh 0 0 (!byT w)))).objs.size,l]:=by
     rw[qy_]
     simp only[List.mem_cons,List.not_mem_nil,or_false,not_or]
     exact⟨qm_ (qj2_ _),qC_ hlS⟩
    refine zA0 ((Walks.list hh3 _ l neI items).toS) s.heap.objs.size nf bs hz (λi v hv=>zCz hi i v (by rw[qr_];exact hv)) (items.size-0) 0 _ (by omega) (qs_ _)
     ⟨⟨_,qi_ _ rfl,rfl,rfl⟩,hl1.push _⟩ ?_ λs' hm S'=>?_
    ·exact⟨0,qd_ _ hS⟩
    ·obtain⟨h',g',d',tk',os'⟩:=s'
     have eg:g'=s.gens:=hm.gens
     have ed:d'=s.drawn:=hm.drawn
     have eo:os'=s.os:=hm.os
     subst eg ed eo
     show wpAny _ _ _ _ _ _
     refine qb_ ?_
     show wpAny _ _ (ret Value.none) _ _ _
     refine qb_ ⟨rfl,h',tk',rfl,S',λb o hb e=>?_⟩
     have hb2:b≠(s.heap.push (bJ #[] 0 (.fresh 0 0 (!byT w)))).objs.size:=by
      rw[qy_]
      exact qm_ (qk1_ hb)
     exact hm.heap b o (by simp only[List.mem_cons,List.not_mem_nil,or_false,not_or];exact⟨qm_ hb,hb2⟩) (qd_ _ (qd_ _ e))
   ·cases r₂ with
    |error e=>exact hr₂
    |ok fl₂=>
     cases fl₂ with
     |ret r=>
      obtain⟨rfl,h',tk,rfl,S',hk'⟩:=hr₂
      repeat (any_goals (first|assumption|wp_step))
      exact h _ _ S' hk'
     |_=>exact hr₂.elim
  |_=>exact hr.elim
end
end L2
namespace L2
open PySem PySem.Spec PyProof.Rows
def zKp(P:Nat->Value->Prop)(us:List Bool):Prop:=∀acc:Array Value,ItemsOf P acc us.length->∃bs:List Bool,acc.toList=bs.map Value.bool/\bs.Perm us
theorem zH{vs:List Value}{us:List Bool}(h:vs.Perm (us.map Value.bool)):∃bs:List Bool,vs=bs.map Value.bool/\bs.Perm us:=by
 let g:Value->Bool:=λv=>match v with|.bool b=>b|_=>false
 refine⟨vs.map g,?_,?_⟩
 ·rw[qz_]
  conv=>lhs;rw[<-List.map_id vs]
  refine qu2_ λv hv=>?_
  obtain⟨b,_,rfl⟩:=qf_.mp (h.mem_iff.mp hv)
  rfl
 ·have:=h.map g
  rw[qz_]at this
  have e:us.map (g∘Value.bool)=us:=by
   conv=>rhs;rw[<-List.map_id us]
   exact qu2_ λb _=>rfl
  rwa[e]at this
section
variable{prog:Program}{w:World}{A:Around}{E:Value->Shared->Prop}{s:Shared}{it a:Addr}{es:Array (Int×Value)}{ep:Nat}{t:SetTable}
theorem zHN(hh:A.handled=none)(hb:byT w=true)(fit:t.fits es.size=true)(it a:Addr)(ne:it≠a):
  WalksS prog w A it [it,a] [it] Eq es.size (λi v=>(pickOrder (w.params.setOrder a ep) es)[i]?.map (·.2)=some v)
   (λi s=>s.heap.get? it=some (itO (.int 0 0) i a es.size ep)/\s.heap.get? a=some (bJ es ep t)) where
 sub:=λb hb=>by simp at hb;simp[hb]
 grefl:=λ_=>rfl
 gtrans:=λ_ _ _ x y=>x.trans y
 frame:=λi s h' tk st _ k=>⟨k it (by simp) _ st.1,k a (by simp) _ st.2⟩
 item:=λi s Q E hi st hQ=>by
  refine gO st.1 rfl (jH (slot:=0) st.1 st.2 fit rfl ?_)
  have sz:(pickOrder (w.params.setOrder a ep) es).size=es.size:=by have:=(jJ (w.params.setOrder a ep) es).length_eq;simpa using this
  unfold setNext
  refine qa_ (qt_ st.2 rfl fit ?_)
  dsimp only
  refine qa_ (dQ ?_)
  rw[if_pos hb]
  simp only[bne_self_eq_false,Bool.false_eq_true,if_false]
  unfold setWalk
  refine qa_ (qa_ (qt_ st.2 rfl fit ?_))
  dsimp only
  refine qa_ (dQ ?_)
  rw[if_pos hb]
  refine qa_ (wpAny_askSetting (qb_ ?_))
  refine qb_ ?_
  have hlt:i<(pickOrder (w.params.setOrder a ep) es).size:=by rw[sz];exact hi
  show wpAny _ _ (match Option.map (λe=>(e.2,0)) (pickOrder (w.params.setOrder a ep) es)[i]? with
   |some (x,next)=>do
    setField (.ref it) 0 (rawInt (next:Nat))
    setField (.ref it) 1 (rawInt (i+1))
    ret x
   |none=>do setField (.ref it) 2 .none;raiseNew (<- newExc (.type "StopIteration") [])) _ _ _
  rw[qO_ hlt]
  dsimp only[Option.map_some]
  refine qa_ (qW_ st.1 (by simp) λh1 g1 b1=>?_)
  refine qa_ (qW_ g1 (by simp) λh2 g2 b2=>?_)
  refine qb_ ⟨_,rfl,hQ _ _ (by rw[qO_ hlt];rfl) ⟨?_,?_⟩ ⟨?_,rfl,rfl,rfl,qe_ _⟩⟩
  ·rw[g2];rfl
  ·rw[b2.2 a ne.symm,b1.2 a ne.symm];exact st.2
  ·intro b o hb e
   have hb':b≠it:=by simpa using hb
   rw[b2.2 b hb',b1.2 b hb'];exact e
 done:=λs Q E st hQ=>by
  refine gO st.1 rfl (jH (slot:=0) st.1 st.2 fit rfl ?_)
  have sz:(pickOrder (w.params.setOrder a ep) es).size=es.size:=by have:=(jJ (w.params.setOrder a ep) es).length_eq;simpa using this
  unfold setNext
  refine qa_ (qt_ st.2 rfl fit ?_)
  dsimp only
  refine qa_ (dQ ?_)
  rw[if_pos hb]
  simp only[bne_self_eq_false,Bool.false_eq_true,if_false]
  unfold setWalk
  refine qa_ (qa_ (qt_ st.2 rfl fit ?_))
  dsimp only
  refine qa_ (dQ ?_)
  rw[if_pos hb]
  refine qa_ (wpAny_askSetting (qb_ ?_))
  refine qb_ ?_
  show wpAny _ _ (match Option.map (λe=>(e.2,0)) (pickOrder (w.params.setOrder a ep) es)[es.size]? with
   |some (x,next)=>do
    setField (.ref it) 0 (rawInt (next:Nat))
    setField (.ref it) 1 (rawInt ((es.size:Int)+1))
    ret x
   |none=>do setField (.ref it) 2 .none;raiseNew (<- newExc (.type "StopIteration") [])) _ _ _
  rw[qh2_ (show(pickOrder (w.params.setOrder a ep) es).size<=es.size by rw[sz];exact qe_ _)]
  dsimp only[Option.map_none]
  refine nC hh st.1 rfl (by simp) λe h' kp ty=>⟨ty,hQ _ ⟨λb o hb q=>kp b o (by simpa using hb) q,rfl,rfl,rfl,qe_ _⟩⟩
 self:=λi s Q E st hQ=>by
  have ht:s.TypeIs (.ref it) "set_iterator":=⟨_,st.1,rfl⟩
  refine wpAny_pyIter_slot ht gP (qK_ gP ht nU ?_ (nV _))
  show wpAny _ _ (ret (.ref it)) _ _ s
  exact qb_ ⟨_,rfl,"set_iterator",_,ht,st_next.lookup,hQ⟩
end
section
variable{prog:Program}{w:World}{A:Around}{E:Value->Shared->Prop}{s:Shared}{it a:Addr}{ep:Nat}{f t:Bool}
theorem yS{slot i:Nat}{Q:Option (Value×Nat)->Shared->Prop}(hb:byT w=false)(ho:s.heap.get? a=some (bJ (esB f t) ep (bU (!byT w) f t)))
  (h:Q (match (esB f t)[SetTable.below (bU true f t).place slot]?,(bU true f t).place[SetTable.below (bU true f t).place slot]? with
  |some (_,x),some j=>some (x,j+1)
  |_,_=>none) s):wpAny (model prog w) A (setNext a slot i ep) Q E s:=by
 unfold setNext
 refine qa_ (qt_ ho rfl (eW _ _ _) ?_)
 dsimp only
 refine qa_ (dQ ?_)
 rw[hb]
 simp only[Bool.false_eq_true,if_false,Bool.not_false]
 show wpAny _ _ (if (!(bU true f t).plain&&decide ((esB f t).size > 1))=true then _ else(do
  (if (!(bU true f t).led&&!(esB f t).isEmpty)=true then unsupported "set:maker-not-led" else pure ():Sem Unit)
  pure (match (esB f t)[SetTable.below (bU true f t).place slot]?,(bU true f t).place[SetTable.below (bU true f t).place slot]? with
   |some (_,x),some j=>some (x,j+1)
   |_,_=>none))) _ _ _
 rw[if_neg (by rw[show(bU true f t).plain=true from rfl];simp)]
 refine qa_ ?_
 rw[if_neg (by rw[show(bU true f t).led=true from rfl];simp)]
 exact qb_ (qb_ h)
def iV(f t:Bool)(i:Nat):Nat:=if i=0 then 0 else((usB f t)[i-1]?.map λb=>(if b then 1 else 0)+1).getD 0
theorem zJ5{f t:Bool}{i:Nat}(hi:i<(usB f t).length):∃b,(usB f t)[i]?=some b/\(match (esB f t)[SetTable.below (bU true f t).place (iV f t i)]?,(bU true f t).place[SetTable.below (bU true f t).place (iV f t i)]? with
  |some (_,x),some j=>some (x,j+1)
  |_,_=>none)=some (Value.bool b,iV f t (i+1)):=by
 have h2:=iA f t
 have:i=0\/i=1:=by omega
 rcases this with e|e<;>subst e<;>cases f<;>cases t<;>first|exact⟨_,rfl,rfl⟩|exact absurd hi (by decide)
theorem zKa{f t:Bool}:(match (esB f t)[SetTable.below (bU true f t).place (iV f t (usB f t).length)]?,(bU true f t).place[SetTable.below (bU true f t).place (iV f t (usB f t).length)]? with
  |some (_,x),some j=>some (x,j+1)
  |_,_=>none)=(none:Option (Value×Nat)):=by cases f<;>cases t<;>rfl
theorem zHM(hh:A.handled=none)(hb:byT w=false)(it a:Addr)(ne:it≠a):
  WalksS prog w A it [it,a] [it] Eq (usB f t).length (λi v=>(usB f t)[i]?.map Value.bool=some v)
   (λi s=>s.heap.get? it=some (itO (.int ((iV f t i:Nat):Int) 0) i a (usB f t).length ep)/\s.heap.get? a=some (bJ (esB f t) ep (bU (!byT w) f t))) where
 sub:=λb hb=>by simp at hb;simp[hb]
 grefl:=λ_=>rfl
 gtrans:=λ_ _ _ x y=>x.trans y
 frame:=λi s h' tk st _ k=>⟨k it (by simp) _ st.1,k a (by simp) _ st.2⟩
 item:=λi s Q E hi st hQ=>by
  obtain⟨b,e1,e2⟩:=zJ5 hi
  refine gO st.1 rfl (jH (slot:=iV f t i) st.1 st.2 (eW _ _ _) (mC f t) ?_)
  refine yS hb st.2 ?_
  rw[e2]
  show wpAny _ _ (do
    setField (.ref it) 0 (rawInt ((iV f t (i+1):Nat):Int))
    setField (.ref it) 1 (rawInt ((i:Nat)+1:Int))
    ret (Value.bool b)) _ _ _
  refine qa_ (qW_ st.1 (by simp) λh1 g1 b1=>?_)
  refine qa_ (qW_ g1 (by simp) λh2 g2 b2=>?_)
  refine qb_ ⟨_,rfl,hQ _ _ (by rw[e1];rfl) ⟨?_,?_⟩ ⟨?_,rfl,rfl,rfl,qe_ _⟩⟩
  ·rw[g2];rfl
  ·rw[b2.2 a ne.symm,b1.2 a ne.symm];exact st.2
  ·intro b o hb e
   have hb':b≠it:=by simpa using hb
   rw[b2.2 b hb',b1.2 b hb'];exact e
 done:=λs Q E st hQ=>by
  refine gO st.1 rfl (jH (slot:=iV f t (usB f t).length) st.1 st.2 (eW _ _ _) (mC f t) ?_)
  refine yS hb st.2 ?_
  rw[zKa]
  dsimp only
  exact nC hh st.1 rfl (by simp) λe h' kp ty=>⟨ty,hQ _ ⟨λb o hb q=>kp b o (by simpa using hb) q,rfl,rfl,rfl,qe_ _⟩⟩
 self:=λi s Q E st hQ=>by
  have ht:s.TypeIs (.ref it) "set_iterator":=⟨_,st.1,rfl⟩
  refine wpAny_pyIter_slot ht gP (qK_ gP ht nU ?_ (nV _))
  show wpAny _ _ (ret (.ref it)) _ _ s
  exact qb_ ⟨_,rfl,"set_iterator",_,ht,st_next.lookup,hQ⟩
end
section
variable{prog:Program}{w:World}{A:Around}{E:Value->Shared->Prop}{s:Shared}{a:Addr}{f t:Bool}
theorem zFn{Q:Value->Shared->Prop}(S:SetBl w a f t s.heap)
  (h:∀(it:Addr) (fp:List Addr) (P:Nat->Value->Prop) (St:Nat->Shared->Prop) (h':Heap) (d:Drawn),(∀A':Around,A'.handled=none->∃n,n=(usB f t).length/\WalksS prog w A' it fp [it] Eq n P St)->St 0 {s with heap:=h',drawn:=d}->zKp P (usB f t) ->
   (∀b∈fp,b=a\/s.heap.objs.size<=b)->s.heap.objs.size<=it->(∀b o,s.heap.get? b=some o->h'.get? b=some o)->Q (.ref it) {s with heap:=h',drawn:=d}):
  wpAny (model prog w) A (pyIter (.ref a)) Q E s:=by
 obtain⟨ep,ho⟩:=id S
 have alt:a<s.heap.objs.size:=qg_ ho
 have ht:s.TypeIs (.ref a) "set":=⟨_,ho,rfl⟩
 have fit:=eW (!byT w) f t
 have sz:=mC f t
 refine wpAny_pyIter_slot ht qP (qK_ qP ht zB1 ?_ (zB6 _))
 unfold Builtin.«frozenset.__iter__» Builtin.Frozenset.slot0
 refine qa_ (qa_ (m:=slotArgs "__iter__" 0 ⟨[.ref a],[]⟩) (qb_ ?_))
 show wpAny _ _ (pure a) _ _ s
 refine qb_ ?_
 unfold Builtin.Frozenset.sizeOf
 refine qa_ (qa_ (mX ho fit (qb_ ?_)))
 unfold setDrawn
 refine qa_ (qa_ (qt_ ho rfl fit ?_))
 dsimp only
 refine qa_ (dQ (qb_ ?_))
 show wpAny _ _ (if (!byT w&&(!(bU (!byT w) f t).plain&&decide ((esB f t).size > 1)))=true then _ else _) _ _ s
 have fin:∀(first:Value) (h1:Heap) (d:Drawn) (St:Nat->Shared->Prop),(∀b o,s.heap.get? b=some o->h1.get? b=some o)->s.heap.objs.size<=h1.objs.size ->
   (∀s2:Shared,s2.heap.get? h1.objs.size=some (itO first 0 a (esB f t).size ep)->(∀b o,h1.get? b=some o->s2.heap.get? b=some o) ->
    Q (.ref h1.objs.size) {s with heap:=h1.push (itO first 0 a (esB f t).size ep),drawn:=d})->wpAny (model prog w) A.in1 (do
   ret (<- newFields "set_iterator" [first,rawInt 0,.ref a,rawInt (esB f t).size,rawInt (<- setEpoch a)])) (λfin s'=>∃v,fin=.done (.ret v)/\∃T' r,s'.TypeIs v T'/\typeLookup (.type T') "__next__"=pure (some r)/\Q v s') E {s with heap:=h1,drawn:=d}:=by
  intro first h1 d St k le q
  refine qa_ (wpAny_setEpoch_of (k a _ ho) rfl fit ?_)
  refine qa_ (qS_ ?_ (by size_fits))
  exact qb_ ⟨_,rfl,"set_iterator",_,⟨_,qi_ _ rfl,rfl⟩,st_next.lookup,q {s with heap:=h1.push (itO first 0 a (esB f t).size ep)} (qi_ _ rfl) λb o e=>qd_ _ e⟩
 rw[if_neg (by rw[show(bU (!byT w) f t).plain=true from rfl];simp)]
 refine qa_ (qb_ ?_)
 have nea:s.heap.objs.size≠a:=qC_ alt
 refine fin (.int 0 0) s.heap s.drawn (λ_ _=>True) (λ_ _ e=>e) (qe_ _) λs2 g k=>?_
 have mem:∀b∈[s.heap.objs.size,a],b=a\/s.heap.objs.size<=b:=λb m=>by
  simp only[List.mem_cons,List.not_mem_nil,or_false]at m
  rcases m with m|m
  ·exact .inr (by rw[m];exact qe_ _)
  ·exact .inl m
 cases hb:byT w with
 |true=>
  have hp:=jJ (w.params.setOrder a ep) (esB f t)
  refine h s.heap.objs.size [s.heap.objs.size,a] _ _ _ _ (λA' hA=>⟨(esB f t).size,sz,zHN (ep:=ep) hA hb fit _ a nea⟩) ⟨qi_ _ rfl,qd_ _ ho⟩ ?_ mem (qe_ _) λb o e=>qd_ _ e
  intro acc ⟨h1,h2⟩
  have e:acc.toList=(pickOrder (w.params.setOrder a ep) (esB f t)).toList.map (·.2):=by
   have lp:(pickOrder (w.params.setOrder a ep) (esB f t)).toList.length=(usB f t).length:=by rw[hp.length_eq,qu_,sz]
   apply qG2_
   intro i
   by_cases hi:i<acc.size
   ·rw[qv_,qr_,qr_]
    have:=h2 i acc[i] (qO_ hi)
    rw[this,qO_ hi]
   ·rw[qr_,qh2_ (by omega),qS1_ (by rw[qc_,lp];omega)]
  have pm:acc.toList.Perm ((usB f t).map Value.bool):=by
   rw[e]
   have:=hp.map (·.2)
   have q:(esB f t).toList.map (·.2)=(usB f t).map Value.bool:=by simp[esB,Function.comp_def]
   rwa[q]at this
  exact zH pm
 |false=>
  refine h s.heap.objs.size [s.heap.objs.size,a] _ _ _ _ (λA' hA=>⟨(usB f t).length,rfl,zHM (ep:=ep) (f:=f) (t:=t) hA hb _ a nea⟩) ⟨?_,qd_ _ ho⟩ ?_ mem (qe_ _) λb o e=>qd_ _ e
  ·rw[<-sz];exact qi_ _ rfl
  intro acc ⟨h1,h2⟩
  refine⟨usB f t,?_,.refl _⟩
  apply qG2_
  intro i
  by_cases hi:i<acc.size
  ·have:=h2 i acc[i] (qO_ hi)
   rw[qr_,qO_ hi,<-this]
   rw[qv_]
  ·rw[qr_,qh2_ (by omega),qS1_ (by rw[qc_];omega)]
theorem zDG{Q:List Value->Shared->Prop}(hh:A.handled=none)(S:SetBl w a f t s.heap)
  (hQ:∀h' d tk (acc:List Value) (bs:List Bool),acc=bs.map Value.bool->bs.Perm (usB f t)->s.heap.objs.size<h'.objs.size->(∀b o,s.heap.get? b=some o->h'.get? b=some o)->Q acc {s with heap:=h',drawn:=d,toks:=tk}):
  wpAny (model prog w) A (collect (.ref a)) Q E s:=by
 have hl:(usB f t).length<=sizeLine:=qh_ (iA f t) (by decide)
 have alt:a<s.heap.objs.size:=by
  obtain⟨ep,ho⟩:=id S
  exact qg_ ho
 unfold collect
 refine qa_ (wpAny_runValue (qX_ F.entry_proto_collect ?_))
 rw[qh1_ F.plain_proto_collect _]
 show wpAny _ A.in1 (newList [] >>= λl=>again (.builtin "list.__iadd__" ⟨[l,.ref a],[]⟩)) _ _ s
 refine qa_ (qS_ ?_ (by size_fits))
 refine qb_ ⟨plainId_quiet F.plain_list_iadd _,qX_ F.entry_list_iadd ?_⟩
 rw[qh1_ F.plain_list_iadd _]
 show wpAny _ A.in1 (Builtin.List.listExtendWith (.ref s.heap.objs.size) (.ref a) (.ref s.heap.objs.size)) _ _ _
 unfold Builtin.List.listExtendWith
 have S1:SetBl w a f t (s.heap.push {cls:=.type "list",data:=.seq ([]:List Value).toArray}):=S.kept λo e=>qd_ _ e
 have ht:Shared.TypeIs {s with heap:=s.heap.push {cls:=.type "list",data:=.seq ([]:List Value).toArray}} (.ref a) "set":=by
  obtain⟨ep,ho⟩:=id S1
  exact⟨_,ho,rfl⟩
 refine qa_ (wpAny_typeOf ht ?_)
 have h1:Builtin.List.listSameRef (.ref s.heap.objs.size) (.ref a)=false:=by simp[Builtin.List.listSameRef];exact qC_ alt
 have h2:(Value.type "set"==Value.type "list")=false:=by decide
 have h3:(Value.type "set"==Value.type "tuple")=false:=by decide
 simp only[h1,h2,h3,Bool.or_false,Bool.false_eq_true,if_false]
 refine qa_ (zFn S1 λit fp P St h' d W st0 td hfp hit kp=>?_)
 have ht':Shared.TypeIs {s with heap:=h',drawn:=d} (.ref a) "set":=by
  obtain⟨o,e,c⟩:=ht
  exact⟨o,kp _ _ e,c⟩
 refine qa_ (qB_ (zBh ht' ?_))
 have hA:A.in1.in1.handled=none:=by simp[hh]
 obtain⟨n,hn,W⟩:=W A.in1 (by simp[hh])
 subst hn
 refine wpAny_ite ?_
 rw[if_pos (by decide +kernel)]
 refine qa_ (wpAny_rule ?_)
 have sz1:(s.heap.push {cls:=.type "list",data:=.seq ([]:List Value).toArray}).objs.size=s.heap.objs.size+1:=qy_ ..
 have g0:h'.get? s.heap.objs.size=some {cls:=.type "list",data:=.seq ([]:List Value).toArray}:=kp _ _ (qi_ _ rfl)
 have nf:s.heap.objs.size∉fp:=λm=>by
  rcases hfp _ m with z|z
  ·exact absurd z (qC_ alt)
  ·rw[sz1]at z;omega
 refine qa_ ?_
 show wpAny _ A.in1 (updateSeq s.heap.objs.size (·.push .none) >>= λ_=>updateSeq s.heap.objs.size (·.pop)) _ _ _
 refine qa_ (wpAny_updateSeq g0 rfl ?_)
 have g1:=qU_ (Obj.mapSeq (·.push Value.none)) g0 rfl
 refine wpAny_updateSeq g1 rfl ?_
 have g2:=qU_ (Obj.mapSeq (·.pop)) g1 rfl
 have oth:∀b o,b≠s.heap.objs.size->h'.get? b=some o->((h'.update s.heap.objs.size (Obj.mapSeq (·.push Value.none))).update s.heap.objs.size (Obj.mapSeq (·.pop))).get? b=some o:=
  λb o hb e=>(qJ1_ _ _ (Ne.symm hb)).trans ((qJ1_ _ _ (Ne.symm hb)).trans e)
 refine qb_ ⟨plainId_quiet F.plain_extend_loop _,codeAny_extend_loopS W hl _ nf _ (usB f t).length 0 _ _ _ rfl (qs_ _)
  (W.frame 0 {s with heap:=h',drawn:=d} _ s.toks st0 (qe_ _) λb hb o e=>oth b o (λz=>nf (z▸hb)) e) g2 (ItemsOf.nil P) λs' acc' c' hm g' hacc=>?_⟩
 show wpAny _ A (load s.heap.objs.size >>= _) _ _ s'
 refine qa_ (wpAny_load g' ?_)
 obtain⟨vs,hs,hp⟩:=td acc' hacc
 obtain⟨h'',g'',d'',tk'',os''⟩:=s'
 have e1:g''=s.gens:=hm.gens.symm
 have e2:os''=s.os:=hm.os
 subst e1 e2
 refine qb_ (hQ h'' d'' tk'' acc'.toList vs hs hp (qg_ g') λb o e=>hm.heap b o (λm=>?_) (oth b o (qm_ (qg_ e)) (kp b o (qd_ _ e))))
 have lt:=qg_ e
 simp only[List.mem_cons,List.not_mem_nil,or_false]at m
 rcases m with m|m
 ·rw[m]at lt;exact qe1_ _ lt
 ·rw[m]at lt;rw[sz1]at hit;exact absurd lt (qg2_.mpr (Nat.le_of_succ_le hit))
end
end L2
namespace L2
open PySem PySem.Spec PyProof.Rows
@[reducible] def sortB:PyProof.Rows.KeyKind where
 α:=Bool
 blt a b:=!a&&b
 irrefl a:=by cases a<;>rfl
 trans a b c h1 h2:=by cases a<;>cases b<;>cases c<;>simp_all
 negTrans a b c h:=by cases a<;>cases b<;>cases c<;>simp_all
 total a b h1 h2:=by cases a<;>cases b<;>simp_all
 keyOf v:=match v with|.bool b=>some b|_=>none
 dflt:=false
section
variable{prog:Program}{w:World}{A:Around}{E:Value->Shared->Prop}{s:Shared}
theorem zD5{a b:Bool}{Q:Bool->Shared->Prop}(h:Q (!a&&b) s):wpAny (model prog w) A (oneLt' true (.bool a) (.bool b)) Q E s:=by
 rw[oneLt'_eq]
 simp only[if_true]
 refine qa_ (wpAny_cRoomFor_byValue rfl ?_)
 refine qa_ (wpAny_callSpecialIfBound?_slot (typeIs_bool' s a) F.slot_bool_lt ?_)
 refine call_gives F.slot_bool_lt (typeIs_bool' s a) F.entry_int_lt (F.args_int_lt_2 _ _) (gives_int_lt_bools a b) ?_
 have e:decide (b2i a<b2i b)=(!a&&b):=by cases a<;>cases b<;>rfl
 show wpAny _ _ (truthOfDropped (.bool (decide (b2i a<b2i b)))) _ _ _
 rw[e]
 exact wpAny_truthy_bool h
end
theorem zDK:sortB.OneLt:=by
 intro prog w A E s x y a b Q ha hb h
 cases x<;>simp only[sortB,reduceCtorEq,Option.some.injEq]at ha
 cases y<;>simp only[sortB,reduceCtorEq,Option.some.injEq]at hb
 cases ha;cases hb
 exact zD5 h
theorem yH:∀(bs:List Bool),(bs.map Value.bool).mapM firstOfTuple'=pure ((bs.map Value.bool).map λ_=>none)
 |[]=>by simp
 |b::bs=>by rw[qA_,List.mapM_cons,show firstOfTuple' (.bool b)=pure none from rfl,yH bs];simp
theorem yJ:∀(bs:List Bool),(bs.map Value.bool).mapM typeOf=pure ((bs.map Value.bool).map λ_=>Value.type "bool")
 |[]=>by simp
 |b::bs=>by
  rw[qA_,List.mapM_cons,yJ bs]
  show(pure (Value.type "bool") >>= λb=>pure _ >>= λbs=>pure (b::bs))=_
  simp
theorem zDO{b c:Bool}{bs:List Bool}:keyKind' (((b::c::bs).map Value.bool).toArray)=pure oneType':=by
 rw[keyKind'_eq,List.mapM_toArray,yH]
 simp only[map_pure,pure_bind]
 rw[if_neg (by simp),if_neg (by simp)]
 rw[oneTypeOnly'_eq,List.mapM_toArray,yJ]
 simp only[map_pure,pure_bind]
 have hall:((List.map (λ_=>Value.type "bool") ((b::c::bs).map Value.bool)).toArray.all λx=>x==Value.type "bool")=true:=by
  simp only[List.all_toArray,List.all_map,List.all_eq_true]
  intro _ _
  rfl
 have h0:(List.map (λ_=>Value.type "bool") ((b::c::bs).map Value.bool)).toArray[0]?=some (Value.type "bool"):=by simp
 rw[h0]
 simp only[hall,if_true,pure_bind,Option.isSome_some]
theorem zFQ{f t:Bool}{bs:List Bool}(h:bs.Perm (usB f t))(s:∀i j:Nat,i<=j->∀a b,bs[i]?=some a->bs[j]?=some b->(!b&&a)=false):bs=usB f t:=by
 cases f<;>cases t
 ·exact List.perm_nil.mp h
 ·exact List.perm_singleton.mp h
 ·exact List.perm_singleton.mp h
 ·have l:bs.length=2:=h.length_eq
  match bs,l with
  |[a,b],_=>
   have:=s 0 1 (by decide) a b rfl rfl
   cases a<;>cases b
   ·exact absurd (h.mem_iff (a:=true)) (by simp[usB])
   ·rfl
   ·cases this
   ·exact absurd (h.mem_iff (a:=false)) (by simp[usB])
section
variable{prog:Program}{w:World}{A:Around}{E:Value->Shared->Prop}{s:Shared}{a:Addr}{f t:Bool}
theorem zDR{Q:Value->Shared->Prop}(hh:A.handled=none)(S:SetBl w a f t s.heap)
  (h:∀h' d tk (l:Addr) (e:Nat),h'.get? l=some (seqObj "list" ((usB f t).map Value.bool).toArray e)->s.heap.objs.size<=l->(∀b o,s.heap.get? b=some o->h'.get? b=some o) ->
   Q (.ref l) {s with heap:=h',drawn:=d,toks:=tk}):wpAny (model prog w) A (call (.builtin "sorted") [.ref a]) Q E s:=by
 refine Calls.call_function_entry kind_sorted plain_sorted entry_sorted (args_sorted1 _) ?_
 unfold Builtin.«sorted»
 refine qa_ (m:=checkCount "sorted" 1 1 _) (qb_ ?_)
 refine qa_ (zDG (by simp[hh]) S λh1 d tk acc bs hs hp le kp=>?_)
 subst hs
 have hlen:(bs.map Value.bool).length<64:=by rw[qc_,hp.length_eq];have:=iA f t;omega
 refine qa_ (wpAny_newList ?_ (qY_ (qq1_ hlen (by decide))))
 have hoL:(h1.push (seqObj "list" (bs.map Value.bool).toArray 0)).get? h1.objs.size=some (seqObj "list" (bs.map Value.bool).toArray 0):=qi_ _ rfl
 have hko:KeysOf sortB (pairsOf (bs.map Value.bool)):=by
  intro p hp
  rw[pairsOf_toList]at hp
  obtain⟨b,_,e⟩:=qf_.mp (mem_zip_self hp).2
  exact⟨b,by rw[<-e]⟩
 refine qa_ (qB_ (qK_ slot_list_sort ⟨_,hoL,rfl⟩ entry_list_sort (list_sort_treeK zDK hoL hko (λv₁ v₂ rest e=>?_) hlen λst' a1 a2=>⟨_,rfl,?_⟩) (args_list_sort _)))
 ·match bs,e with
  |b::c::bs,e=>rw[<-e];exact zDO
 have hl:(arrOf st').toList.Perm ((bs.map Value.bool).zip (bs.map Value.bool)):=by rw[<-pairsOf_toList];exact Array.perm_iff_toList_perm.mp a1
 have hmem:∀p,p∈(arrOf st').toList->p.1=p.2/\p.1∈bs.map Value.bool:=λp hp'=>mem_zip_self (hl.mem_iff.mp hp')
 have pm:((arrOf st').map (·.2)).toList.Perm ((usB f t).map Value.bool):=by
  rw[Array.toList_map]
  have:=hl.map (·.2)
  rw[List.map_snd_zip (qe_ _)]at this
  exact this.trans (hp.map _)
 obtain⟨cs,e1,e2⟩:=zH pm
 have e3:cs=usB f t:=zFQ e2 λi j hij x y hx hy=>by
  have kk:∀(i:Nat) (x:Bool),cs[i]?=some x->KK sortB (arrOf st') i=x/\i<(arrOf st').size:=λi x hx=>by
   have hv:((arrOf st').map (·.2)).toList[i]?=some (.bool x):=by rw[e1,qv_,hx];rfl
   rw[Array.toList_map,qv_]at hv
   obtain⟨p,hp1,hp2⟩:=qg1_.mp hv
   have hm:=hmem p (qE_ hp1)
   rw[qr_]at hp1
   refine⟨?_,(qo3_.mp hp1).1⟩
   unfold KK
   rw[hp1]
   show(sortB.keyOf p.1).getD false=x
   rw[hm.1,hp2]
   rfl
  have hi:=kk i x hx
  have hj:=kk j y hy
  have:=a2 i j hij (by rw[<-a1.size_eq];exact hj.2)
  rw[hi.1,hj.1]at this
  exact this
 subst e3
 obtain⟨e,he⟩:=sortedHeap_at (out:=(arrOf st').map (·.2)) hoL
 refine qb_ ⟨_,rfl,h _ _ _ _ e (by rw[<-e1,qx2_];exact he) (qY_ le) λb o q=>?_⟩
 have lt:=qg_ (kp b o q)
 rw[sortedHeap_old (qm_ lt) (by rw[qy_];exact qk1_ lt)]
 exact qd_ _ (kp b o q)
end
end L2
namespace L2
open PySem PySem.Spec PyProof.Rows WordM
def eE(w:World)(a:Addr)(f t:Bool):HO:=.ext (SetBl w a f t)
section
variable{X:Cx}{F:Fm}
def zJK(w:World)(K:W.Frag):List V->Hp->VK->Prop:=λxs H Q=>∃(p:Addr) (bs:List Bool),xs=[.ref p]/\SqL K H p (bs.map V.bl)/\∀a:Addr,H a=none->Q (.ref a) (upd H a (eE w a (inF bs) (inT bs)))
theorem zCy{bs:List Bool}:∀{vs:List Value},Vals (bs.map V.bl) vs->vs=bs.map Value.bool:=by
 induction bs with
 |nil=>intro vs h;cases h;rfl
 |cons b bs ih=>
  intro vs h
  cases h with
  |cons r t=>
   rw[qA_,<-ih t]
   have:_=Value.bool b:=r
   rw[this]
theorem zFe(hc:X.calm=true):CallR X (.type "set") (zJK X.w X.K):=by
 intro pins s σ H xs us Q I r h
 obtain⟨p,bs,rfl,hq,q⟩:=h
 obtain⟨u,rfl,rx⟩:=cQ r
 cases rx
 obtain⟨its,rv,pl,hz'⟩:=I.list hq
 refine zDD (I.ok.hd hc) pl.isList (bs:=bs) (zCy rv) λh' tk S k=>?_
 refine⟨.ref s.heap.objs.size,_,I.laid (t':=tk) (o:=eE X.w s.heap.objs.size (inF bs) (inT bs)) (λb o e=>k b o (qg_ e) e) (qe_ _) ⟨S,?_,λh1 h2 z k'=>z.kept k'⟩,rfl,q _ I.fresh⟩
 obtain⟨ep,e⟩:=S
 exact⟨_,e⟩
def zGT(w:World):List V->Hp->VK->Prop:=λxs H Q=>∃(a:Addr) (f t:Bool),xs=[.ref a]/\H a=some (eE w a f t)/\∀l:Addr,H l=none->Q (.ref l) (upd H l (.lst ((usB f t).map V.bl)))
theorem zC:∀(bs:List Bool),Vals (bs.map V.bl) (bs.map Value.bool)
 |[]=>.nil
 |b::bs=>.cons rfl (zC bs)
theorem yM(hc:X.calm=true):CallR X (.builtin "sorted") (zGT X.w):=by
 intro pins s σ H xs us Q I r h
 obtain⟨a,f,t,rfl,hq,q⟩:=h
 obtain⟨u,rfl,rx⟩:=cQ r
 cases rx
 have S:SetBl X.w a f t s.heap:=(I.hok a _ hq).1
 refine zDR (I.ok.hd hc) S λh' d tk l e hl le k=>?_
 refine⟨.ref l,_,(I.laid (t':=tk) (o:=.lst ((usB f t).map V.bl)) k le ⟨?_,_,e,zC _,hl⟩).draw d,rfl,q l (I.hok.fresh le)⟩
 rw[qc_]
 exact qh_ (iA f t) (by decide)
variable{pos:Pos}
def zEp(u:UT):UTl:=λρ Q=>u ρ λT ρ1=>∃bs:List Bool,T=.seq false (bs.map bT)/\Q ((usB (inF bs) (inT bs)).map bT) ρ1
theorem zDI{e:Expr}{u:UT}{p p' pos':Pos}(hc:X.calm=true)(hg:Gl X "sorted")(hm:X.mg "sorted"=none)(hg':Gl X "set")(hm':X.mg "set"=none)(he:UE X F e u)(hst:dN e=false:=by rfl)
  (hpl:(backTo pos (starEach [] X.env)).any (·.1)=false:=by rfl) (hpl':(backTo pos' (starEach [] X.env)).any (·.1)=false:=by rfl):
  UL X F (.Call (.Name "sorted" p) [.Call (.Name "set" p') [e] [] pos'] [] pos) (zEp u):=⟨PE.imp (iE (yM hc) hg hm boot_sorted (cT (gA (zFe hc) hg' hm' L2.boot_set (cT he.pe dD hst) (by decide) (by decide) (gK hst) hpl') dD rfl) (by decide) (by decide) rfl hpl) λσ H QQ ⟨ρ,Q,f,h,k⟩=>by
 refine⟨ρ,_,f,h,λx T H1 ρ1 s1 v1 q1=>?_⟩
 obtain⟨bs,rfl,q⟩:=q1
 obtain⟨a,ys,rfl,hs,z,p⟩:=v1.seqI
 rw[nI p]at hs
 refine⟨a,bs,rfl,cP hs,λb nb=>⟨b,_,_,rfl,bB,λc nc=>?_⟩⟩
 have sm:=(cB (o:=eE X.w b (inF bs) (inT bs)) nb).trans (cB (o:=.lst ((usB (inF bs) (inT bs)).map V.bl)) nc)
 exact k _ _ _ _ _ (s1.trans (Stp.same s1.fr sm)) (s1.non ((cB nb).free nc)) bB (by rw[qc_];have:=iA (inF bs) (inT bs);omega) (wG _) q⟩
def zIl:List V->Hp->VK->Prop:=λxs H Q=>∃(a:Addr) (ob:Obj) (kvs:List (Key×V)) (us:List Str),xs=[.ref a]/\FzD H a ob kvs/\kvs.map (·.1)=us.map Sum.inr/\∀l:Addr,H l=none->Q (.ref l) (upd H l (.lst (us.map V.str)))
theorem zEg(hc:X.calm=true):CallR X (.type "list") zIl:=by
 intro pins s σ H xs us Q I r h
 obtain⟨a,ob,kvs,uu,rfl,hz,hk,q⟩:=h
 obtain⟨u,rfl,rx⟩:=cQ r
 cases rx
 obtain⟨e,hs,hl,vs,es,ep,rr,dd,hd⟩:=jN I hz
 have hkv:vs.map (·.1)=uu.map Sum.inr:=by rw[<-qZ rr];exact hk
 have hlen:vs.length=uu.length:=by have:=congrArg List.length hkv;simpa using this
 have lv:vs.length=kvs.length:=(kH rr).symm
 refine PySem.W.kdl_call (PySem.W.kdl_dict (knd:=bR X.prog X.w) (kvs:=vs) (ep:=ep) hs) (I.ok.hd hc) dd (by omega) λh' tk acc c k hl' ha=>?_
 refine⟨.ref _,_,I.laid (t':=tk) (o:=.lst (uu.map V.str)) k (qe_ _) ⟨by rw[qc_];omega,acc.toList,c,pL (yN hkv ha),by rw[qx2_];exact hl'⟩,rfl,q _ I.fresh⟩
def zIL:List Tv->(List Tv->Prop)->Prop:=λTs Q=>∃kts,Ts=[.dct kts]/\Q (kts.map λkt=>sT kt.1)
theorem zFK(hc:X.calm=true):nW X (.type "list") zIL:=⟨_,zEg hc,λxs Ts H Q QQ vx h k=>by
 obtain⟨kts,rfl,q⟩:=h
 obtain⟨x,rfl,v⟩:=dL vx
 obtain⟨a,kvs,rfl,⟨ob,hd⟩,nd,z,p⟩:=v.dctI
 refine⟨a,ob,kvs,kts.map (·.1),rfl,hd,qI p,λb n=>?_⟩
 have e:(kts.map λkt=>sT kt.1)=(kts.map (·.1)).map sT:=by rw[qz_];rfl
 rw[e]at q
 exact k b _ _ _ (cB n) n bB (by rw[qc_,qc_];omega) (lJ _) q⟩
def oR(d v:Addr):HO:=.ext λh=>h.IsValuesView v d
def zJA(tl:TE):TE:=λσ H Q=>tl σ H λx H1=>∃a ob kvs,x=.ref a/\FzD H1 a ob kvs/\∀p,H1 p=none->Q (.ref p) (upd H1 p (oR a p))
theorem zG5{o:Expr}{tl:TE}{apos pos:Pos}(hl:PE X o tl)(hbase:attributeBase o "values" X.env (eval o X.env)=eval o X.env:=by rfl)(hline:(apos.endLine==pos.line)=true:=by rfl):
  PE X (.Call (.Attribute o "values" apos) [] [] pos) (zJA tl):=by
 intro pins s σ H Q I h
 refine wpAny_Call_method (T:="dict") (id:="dict.values") hbase rfl hline F.plainAttrs_dict F.slot_dict_values F.type_dict_values (thn (hl pins s σ H _ I h) λv s1 ⟨x,H1,I1,r1,q1⟩=>?_)
 obtain⟨a,ob,kvs,e,hz,q⟩:=q1
 subst e
 cases r1
 obtain⟨e,hs,hl,vs,es,ep,r,dd,hd⟩:=jN I1 hz
 have hm:=dd.dictOf
 refine⟨hm.typeIs,hm.mapOf.noDict,?_⟩
 show wpAny _ _ (callWith pos (.builtin "dict.values") [.ref a] [] []) _ _ s1
 refine method_meetsIn F.slot_dict_values F.entry_dict_values rfl (PySem.evalArgs_none ⟨rfl,hm.typeIs,F.args_dict_values_1 _,_,meets_dict_values (bR X.prog X.w) a hs,⟨vs,hm⟩,?_⟩)
 refine⟨.ref _,_,I1.laid (t':=s1.toks) (o:=oR a s1.heap.objs.size) (λb o e=>qd_ _ e) (qe_ _) ⟨⟨_,qi_ _ rfl,rfl,rfl⟩,⟨_,qi_ _ rfl⟩,?_⟩,rfl,q _ I1.fresh⟩
 rintro h1 h2 ⟨o,e,c⟩ k
 exact⟨o,k o e,c⟩
theorem zBn:∀{kvs:List (Key×V)}{vs:List (Key×Value)},KV kvs vs->Vals (kvs.map (·.2)) (vs.map (·.2))
 |[],_,.nil=>.nil
 |_::_,_,.cons r rs=>.cons r.2 (zBn rs)
def zIk:List V->Hp->VK->Prop:=λxs H Q=>∃(v a:Addr) (ob:Obj) (kvs:List (Key×V)),xs=[.ref v]/\H v=some (oR a v)/\FzD H a ob kvs/\∀l:Addr,H l=none->Q (.ref l) (upd H l (.lst (kvs.map (·.2))))
theorem zEf(hc:X.calm=true):CallR X (.type "list") zIk:=by
 intro pins s σ H xs us Q I r h
 obtain⟨v,a,ob,kvs,rfl,hv,hz,q⟩:=h
 obtain⟨u,rfl,rx⟩:=cQ r
 cases rx
 obtain⟨e,hs,hl,vs,es,ep,rr,dd,hd⟩:=jN I hz
 obtain⟨hvv,_⟩:=(show ObjOk X.prog X.w H s.heap v (oR a v) from I.hok v _ hv)
 have lv:vs.length=kvs.length:=(kH rr).symm
 refine PySem.W.kdl_call (PySem.W.kdl_values (knd:=bR X.prog X.w) (r:=v) (d:=a) (kvs:=vs) (ep:=ep)) (I.ok.hd hc) ⟨hvv,dd⟩ (by omega) λh' tk acc c k hl' ha=>?_
 have ev:acc.toList=vs.map (·.2):=PySem.W.kdl_vals_eq acc.toList (by rw[qu_];exact ha.1) λj v e=>ha.2 j v (by rw[<-qr_];exact e)
 refine⟨.ref _,_,I.laid (t':=tk) (o:=.lst (kvs.map (·.2))) k (qe_ _) ⟨by rw[qc_];omega,acc.toList,c,by rw[ev];exact zBn rr,by rw[qx2_];exact hl'⟩,rfl,q _ I.fresh⟩
theorem zFs{K:W.Frag}{H:Hp}{kvs:List (Key×V)}{kts:List (Str×Tv)}(p:VAk K H kvs kts):VAs K H (kvs.map (·.2)) (kts.map (·.2)):=by
 unfold VAk at p
 induction p with
 |nil=>exact .nil
 |cons r _ ih=>exact .cons r.2 ih
def zHX(u:UT):UTl:=λρ Q=>u ρ λT ρ1=>∃kts,T=.dct kts/\Q (kts.map (·.2)) ρ1
theorem zFu{e:Expr}{u:UT}{p apos cpos:Pos}(hc:X.calm=true)(hg:Gl X "list")(hm:X.mg "list"=none)(he:UE X F e u)
  (hbase:attributeBase e "values" X.env (eval e X.env)=eval e X.env:=by rfl) (hline:(apos.endLine==cpos.line)=true:=by rfl) (hpl:(backTo pos (starEach [] X.env)).any (·.1)=false:=by rfl):
  UL X F (.Call (.Name "list" p) [.Call (.Attribute e "values" apos) [] [] cpos] [] pos) (zHX u):=⟨PE.imp (gA (zEf hc) hg hm boot_list (cT (zG5 he.pe hbase hline) dD rfl) (by decide) (by decide) rfl hpl) λσ H QQ ⟨ρ,Q,f,h,k⟩=>by
 refine⟨ρ,_,f,h,λx T H1 ρ1 s1 v1 q1=>?_⟩
 obtain⟨kts,rfl,q⟩:=q1
 obtain⟨a,kvs,rfl,⟨ob,hd⟩,nd,z,p⟩:=v1.dctI
 refine⟨a,ob,kvs,rfl,hd,λb nb=>⟨b,a,ob,kvs,rfl,bB,?_,λc nc=>?_⟩⟩
 ·exact(cB nb) _ _ hd
 have sm:=(cB (o:=oR a b) nb).trans (cB (o:=.lst (kvs.map (·.2))) nc)
 have lk:kvs.length=kts.length:=Paired.length p
 exact k _ _ _ _ _ (s1.trans (Stp.same s1.fr sm)) (s1.non ((cB nb).free nc)) bB (by rw[qc_];omega) (VAs.hs ((gX nb).trans (gX nc)) (zFs p)) q⟩
end
end L2
namespace L2
open PySem PySem.Spec PyProof.Rows
theorem zGv(us:List Str)(x:Str):us.length<=(cU us x).length:=by
 unfold cU
 split
 ·exact qe_ _
 ·rw[qj_];omega
theorem zER(val:Nat->Str){i n:Nat}(h:i<=n):(eS val i).length<=(eS val n).length:=by
  induction n with
  | zero => have : i = 0 := by omega
            subst this;exact qe_ _
  |succ n ih=>
    by_cases e:i=n+1
    · subst e;exact qe_ _
    · have:=ih (by omega)
      rw[zAi]
      have:=zGv (eS val n) (val n)
      omega
section
variable{prog:Program}{w:World}{A:Around}{R:Result->Shared->Prop}{I:Addr}{fp wr:List Addr}{G:Array GenState->Array GenState->Prop}{n:Nat}{P:Nat->Value->Prop}{St:Nat->Shared->Prop}
theorem zAm(W:WalksS prog w A.in1 I fp wr G n P St)(S:Addr)(hf:S∉fp)(val:Nat->Str)(hv:∀i v,P i v->∃t,v=.str (val i) t)(hb:(eS val n).length+1<scanBound):
  ∀(k i:Nat) (s:Shared),n-i=k->i<=n->St i s->SetS prog w S (eS val i) s.heap ->
   (∀s',Moved (S::wr) G s s'->SetS prog w S (eS val n) s'.heap->R (.ok (.ret .none)) s')->codeAny (model prog w) A (.builtin "set.update.loop" ⟨[.ref S,.ref I],[]⟩) R s:=by
 have nw:S∉wr:=λz=>hf (W.sub _ z)
 have sub:∀b∈wr,b∈S::wr:=λb z=>qc1_ _ z
 intro k
 induction k with
 |zero=>
  intro i s hk hi st hS hR
  have e:i=n:=by omega
  subst e
  refine qX_ F.entry_set_update_loop ?_
  rw[qh1_ F.plain_set_update_loop _]
  show wpAny _ A.in1 (pyNext (.ref I) >>= _) _ _ s
  refine qa_ (W.done s _ _ st λs' hm=>?_)
  show wpAny _ A.in1 (ret Value.none) _ _ s'
  exact qb_ (hR s' (hm.mono sub) (hS.kept λo q=>hm.heap S _ nw q))
 |succ k ih=>
  intro i s hk hi st hS hR
  have lt:i<n:=by omega
  refine qX_ F.entry_set_update_loop ?_
  rw[qh1_ F.plain_set_update_loop _]
  show wpAny _ A.in1 (pyNext (.ref I) >>= _) _ _ s
  refine qa_ (W.item i s _ _ lt st λv s' hP st' hm=>?_)
  obtain⟨t,rfl⟩:=hv i v hP
  have hS':SetS prog w S (eS val i) s'.heap:=hS.kept λo q=>hm.heap S _ nw q
  show wpAny _ A.in1 (holding [Value.str (val i) t] (setAdd S (.str (val i) t)) >>= _) _ _ s'
  refine qa_ (qB_ ?_)
  unfold setAdd
  refine qB_ (qa_ ((PySem.strKind prog w).pyHash (k:=val i) (by show Value.isStrOf _ (.str _ t)=true;simp[Value.isStrOf]) ?_))
  have room:(eS val i).length+1<scanBound:=by have:=zER val (qY_ lt);omega
  refine vG (s:={s' with toks:=s'.toks+1}) hS' room λb h' sb S2=>?_
  rw[<-zAi]at S2
  refine qb_ ⟨plainId_quiet F.plain_set_update_loop _,ih (i+1) _ (by omega) lt (W.frame _ s' _ _ st' (qp1_ _) λc hc o e=>?_) S2 λs'' hm'' S3=>?_⟩
  ·rw[sb.2 c (λz:c=S=>hf (by rw[<-z];exact hc))];exact e
  ·refine hR s'' (Moved.trans W.gtrans ((hm.mono sub).then_heap (qp1_ _) λc o hc e=>?_) hm'') S3
   rw[sb.2 c (λz:c=S=>hc (by rw[z];exact qi1_))];exact e
end
section
variable{prog:Program}{w:World}{A:Around}{E:Value->Shared->Prop}{s:Shared}
theorem zDE{l:Addr}{items:Array Value}{ss:List Str}{Q:Value->Shared->Prop}(hh:A.handled=none)(hl:s.heap.IsList l items)(hi:StrsAre items.toList ss)(hb:(aH ss).length+1<scanBound)
  (h:∀(h':Heap) (tk:Nat),SetS prog w s.heap.objs.size (aH ss) h'->(∀b o,b<s.heap.objs.size->s.heap.get? b=some o->h'.get? b=some o)->Q (.ref s.heap.objs.size) {s with heap:=h',toks:=tk}):
  wpAny (model prog w) A (call (.type "set") [.ref l]) Q E s:=by
 have hz:items.size=ss.length:=by have:=gL hi;simpa using this
 obtain⟨c,tl,hmro⟩:=F.called_set.mro
 have hmade:=F.called_set.made
 have hsub:=F.called_set.sub
 refine wpAny_call (codeAny_of_tree ?_)
 show wpAny _ _ (callAny (.type "set") _) _ _ _
 refine qb_ ⟨Code.quiet_builtin _ (by decide +kernel),qX_ F.entry_type_call ?_⟩
 rw[Around.under_plain (weight_type_call_type "set" [.ref l] []) rfl]
 have h1:=F.called_set.notType
 have h2:=F.called_set.canCreate
 have hct:=F.typeCall_set_1 (.ref l)
 repeat (any_goals (first|assumption|wp_step))
 refine codeAny_mono (tO (.ref l) (E:=E) (Q₁:=λobj s₁=>obj=.ref s.heap.objs.size/\s₁={s with heap:=s.heap.push (bJ #[] 0 (.fresh 0 0 (!byT w)))}) ⟨rfl,rfl⟩) λr s₁ hr=>?_
 cases r with
 |error e=>exact hr
 |ok fl=>
  cases fl with
  |ret obj=>
   obtain⟨rfl,rfl⟩:=hr
   have hS:(s.heap.push (bJ #[] 0 (.fresh 0 0 (!byT w)))).get? s.heap.objs.size=some (bJ #[] 0 (.fresh 0 0 (!byT w))):=qi_ _ rfl
   have hT:Shared.TypeIs {s with heap:=s.heap.push (bJ #[] 0 (.fresh 0 0 (!byT w)))} (.ref s.heap.objs.size) "set":=⟨_,hS,rfl⟩
   have hli:=F.called_set.init.lookup
   have hbi:=F.called_set.init.bind (.ref s.heap.objs.size)
   repeat (any_goals (first|assumption|wp_step))
   refine codeAny_mono (codeAny_call_builtin (R:=wants (λr s₂=>r=.none/\∃h' tk,s₂={s with heap:=h',toks:=tk}/\SetS prog w s.heap.objs.size (aH ss) h' /\
     (∀b o,b<s.heap.objs.size->s.heap.get? b=some o->h'.get? b=some o)) E) F.called_set.init.plain F.entry_set_init (check_set_init_1 hT ?_)) λr₂ s₂ hr₂=>?_
   ·obtain⟨ol,hol,hcl,nl,hdl⟩:=hl
    obtain⟨ocls,odict,odata,oslots⟩:=ol
    simp only at hcl hdl
    subst hcl hdl
    have hol':(s.heap.push (bJ #[] 0 (.fresh 0 0 (!byT w)))).get? l=some {cls:=.type "list",dict:=odict,data:=.seq items nl,slots:=oslots}:=qd_ _ hol
    have hsls:=F.sub_list_set
    have hslf:=F.sub_list_frozenset
    have hne:(Value.type "list"==Value.type "dict")=false:=by decide
    have hl1:(s.heap.push (bJ #[] 0 (.fresh 0 0 (!byT w)))).IsList l items:=⟨_,hol',rfl,nl,rfl⟩
    unfold Builtin.«set.__init__» noKeywords Builtin.Frozenset.updateFrom
    generalize hPI:pyIter=PI
    wp_walk
    subst hPI
    refine wpAny_pyIter_list hl1 ?_
    refine qa_ (wpAny_runValue ?_)
    have hlS:l<s.heap.objs.size:=qg_ hol
    have hh3:A.in1.in1.in1.handled=none:=by simp[hh]
    have neI:l≠(s.heap.push (bJ #[] 0 (.fresh 0 0 (!byT w)))).objs.size:=by
     rw[qy_]
     exact qm_ (qk1_ hlS)
    have nf:s.heap.objs.size∉[(s.heap.push (bJ #[] 0 (.fresh 0 0 (!byT w)))).objs.size,l]:=by
     rw[qy_]
     simp only[List.mem_cons,List.not_mem_nil,or_false,not_or]
     exact⟨qm_ (qj2_ _),qC_ hlS⟩
    refine zAm ((Walks.list hh3 _ l neI items).toS) s.heap.objs.size nf (λi=>ss.getD i ⟨#[]⟩) (λi v hv=>gB hi i v (by rw[qr_];exact hv)) (by rw[hz,uY (ss:=ss) (λi hi=>by simp[hi])];exact hb) (items.size-0) 0 _ (by omega) (qs_ _)
     ⟨⟨_,qi_ _ rfl,rfl,rfl⟩,hl1.push _⟩ ?_ λs' hm S'=>?_
    ·refine⟨#[],0,.fresh 0 0 (!byT w),qd_ _ hS,⟨λe he=>by simp at he,⟨[],.nil,.refl _⟩,qT1_,by decide,?_,.inl rfl,rfl⟩⟩
     simp[SetTable.fits,SetTable.fresh,SetTable.fill]
    ·obtain⟨h',g',d',tk',os'⟩:=s'
     have eg:g'=s.gens:=hm.gens
     have ed:d'=s.drawn:=hm.drawn
     have eo:os'=s.os:=hm.os
     subst eg ed eo
     rw[hz,uY (ss:=ss) (λi hi=>by simp[hi])]at S'
     show wpAny _ _ _ _ _ _
     refine qb_ ?_
     show wpAny _ _ (ret Value.none) _ _ _
     refine qb_ ⟨rfl,h',tk',rfl,S',λb o hb e=>?_⟩
     have hb2:b≠(s.heap.push (bJ #[] 0 (.fresh 0 0 (!byT w)))).objs.size:=by
      rw[qy_]
      exact qm_ (qk1_ hb)
     exact hm.heap b o (by simp only[List.mem_cons,List.not_mem_nil,or_false,not_or];exact⟨qm_ hb,hb2⟩) (qd_ _ (qd_ _ e))
   ·cases r₂ with
    |error e=>exact hr₂
    |ok fl₂=>
     cases fl₂ with
     |ret r=>
      obtain⟨rfl,h',tk,rfl,S',hk'⟩:=hr₂
      repeat (any_goals (first|assumption|wp_step))
      exact h _ _ S' hk'
     |_=>exact hr₂.elim
  |_=>exact hr.elim
end
section
variable{X:Cx}{F:Fm}
def zIh(P:Program)(w:World)(K:W.Frag):List V->Hp->VK->Prop:=λxs H Q=>∃(p:Addr) (ss:List Str),xs=[.ref p]/\SqL K H p (ss.map V.str)/\(aH ss).length<4000/\∀a:Addr,H a=none->Q (.ref a) (upd H a (dO P w a (aH ss)))
theorem zEc(hc:X.calm=true):CallR X (.type "set") (zIh X.prog X.w X.K):=by
 intro pins s σ H xs us Q I r h
 obtain⟨p,ss,rfl,hq,hz,q⟩:=h
 obtain⟨u,rfl,rx⟩:=cQ r
 cases rx
 obtain⟨its,rv,pl,hz'⟩:=I.list hq
 have hi:StrsAre its.toArray.toList ss:=jG rv
 refine zDE (I.ok.hd hc) pl.isList hi (by show(aH ss).length+1<4096;omega) λh' tk S k=>?_
 refine⟨.ref s.heap.objs.size,_,I.laid (t':=tk) (o:=dO X.prog X.w s.heap.objs.size (aH ss)) (λb o e=>k b o (qg_ e) e) (qe_ _) ⟨S,?_,λh1 h2 z k'=>z.kept k'⟩,rfl,q _ I.fresh⟩
 obtain⟨es,ep,t,e,_⟩:=S
 exact⟨_,e⟩
variable{pos:Pos}
def zEq(u:UT):UTl:=λρ Q=>u ρ λT ρ1=>∃ss:List Str,T=.seq false (ss.map sT)/\(aH ss).length<64/\Q ((aW (aH ss)).map sT) ρ1
theorem pM{e:Expr}{u:UT}{p p' pos':Pos}(hc:X.calm=true)(hg:Gl X "sorted")(hm:X.mg "sorted"=none)(hg':Gl X "set")(hm':X.mg "set"=none)(he:UE X F e u)(hst:dN e=false:=by rfl)
  (hpl:(backTo pos (starEach [] X.env)).any (·.1)=false:=by rfl) (hpl':(backTo pos' (starEach [] X.env)).any (·.1)=false:=by rfl):
  UL X F (.Call (.Name "sorted" p) [.Call (.Name "set" p') [e] [] pos'] [] pos) (zEq u):=⟨PE.imp (iE (yQ hc) hg hm boot_sorted (cT (gA (zEc hc) hg' hm' L2.boot_set (cT he.pe dD hst) (by decide) (by decide) (gK hst) hpl') dD rfl) (by decide) (by decide) rfl hpl) λσ H QQ ⟨ρ,Q,f,h,k⟩=>by
 refine⟨ρ,_,f,h,λx T H1 ρ1 s1 v1 q1=>?_⟩
 obtain⟨ss,rfl,l2,q⟩:=q1
 obtain⟨a,ys,rfl,hs,z,p⟩:=v1.seqI
 rw[iC p]at hs
 refine⟨a,ss,rfl,cP hs,by omega,λb nb=>⟨b,aH ss,rfl,bB,l2,λms c h1 h2 nc=>?_⟩⟩
 have sm:=(cB (o:=dO X.prog X.w b (aH ss)) nb).trans (cB (o:=.lst (ms.map V.str)) nc)
 refine k _ _ _ _ _ (s1.trans (Stp.same s1.fr sm)) (s1.non ((cB nb).free nc)) bB (by rw[qc_,h1.length_eq];omega) (lJ ms) ?_
 rw[nE h1 h2]
 exact q⟩
abbrev zJX:P2:=pI2 (λ_ j=>j≠0) λi j=>.int (i.fmod j)
theorem zGX:fW X (binaryOp .Mod) zJX:=(rR zHf λ_ _=>rfl).op
end
end L2
namespace RunM
structure RunOk (lo hi st:Int):Prop where
 nn:0<=st
 z:st=0->lo=hi
 p:0<st->lo<hi/\st ∣ (hi-lo)
theorem RunOk.le{lo hi st:Int}(r:RunOk lo hi st):lo<=hi:=by
 rcases Int.lt_or_le 0 st with h|h
 ·exact Int.le_of_lt (r.p h).1
 ·have:=r.nn
  rw[r.z (by omega)]
  exact qV1_ _
end RunM
namespace GcdM
open RunM
def g(a b:Int):Int:=((Int.gcd a b:Nat):Int)
theorem g_nonneg(a b:Int):0<=g a b:=Int.natCast_nonneg _
theorem g_dvd{d a b:Int}:d ∣ g a b↔d ∣ a/\d ∣ b:=by
 unfold g
 constructor
 ·intro h
  exact⟨qW1_ h (Int.gcd_dvd_left ..),qW1_ h (Int.gcd_dvd_right ..)⟩
 ·rintro⟨h1,h2⟩
  exact Int.dvd_coe_gcd h1 h2
theorem zJd(a:Int)(h:0<=a):g a 0=a:=by
 unfold g
 rw[Int.gcd_zero_right]
 omega
theorem qC{a b:Int}(ha:0<=a)(hb:0<=b)(h:∀d:Int,d ∣ a↔d ∣ b):a=b:=by
 have h1:a ∣ b:=(h a).mp (qO2_ _)
 have h2:b ∣ a:=(h b).mpr (qO2_ _)
 exact Int.dvd_antisymm ha hb h1 h2
theorem zJe{a b:Int}(hb:0<b):g b (a % b)=g a b:=by
 refine qC (g_nonneg _ _) (g_nonneg _ _) λd=>?_
 rw[g_dvd,g_dvd]
 constructor
 ·rintro⟨h1,h2⟩
  refine⟨?_,h1⟩
  have:=qk2_ (qW1_ h1 (qP2_ b (a / b))) h2
  rw[Int.mul_ediv_add_emod]at this
  exact this
 ·rintro⟨h1,h2⟩
  refine⟨h2,?_⟩
  have:=qE1_ h1 (qW1_ h2 (qP2_ b (a / b)))
  rw[show a-b*(a / b)=a % b by have:=Int.mul_ediv_add_emod a b;omega]at this
  exact this
def stepOf(lo:Int)(ns:List Int):Int:=ns.foldl (λs n=>g (n-lo) s) 0
theorem uP{lo d:Int}:∀{ns:List Int}{s:Int},d ∣ ns.foldl (λs n=>g (n-lo) s) s↔d ∣ s/\∀n∈ns,d ∣ (n-lo)
 |[],s=>by simp
 |n::r,s=>by
  rw[qw1_,uP,g_dvd]
  constructor
  ·rintro⟨⟨h1,h2⟩,h3⟩
   refine⟨h2,λm hm=>?_⟩
   rcases qw_.mp hm with e|e
   ·rw[e];exact h1
   ·exact h3 m e
  ·rintro⟨h1,h2⟩
   exact⟨⟨h2 n qi1_,h1⟩,λm hm=>h2 m (qc1_ _ hm)⟩
theorem pN{lo:Int}:∀{ns:List Int}{s:Int},0<=s->0<=ns.foldl (λs n=>g (n-lo) s) s
 |[],s,h=>h
 |n::r,s,_=>pN (ns:=r) (g_nonneg _ _)
theorem zBw{lo hi st d m:Int}(ok:RunOk lo hi st):(d ∣ (lo-m)/\d ∣ (hi-m)/\d ∣ (lo+st-m))↔d ∣ (lo-m)/\d ∣ st:=by
 constructor
 ·rintro⟨h1,_,h3⟩
  refine⟨h1,?_⟩
  have:=qE1_ h3 h1
  rw[show lo+st-m-(lo-m)=st by omega]at this
  exact this
 ·rintro⟨h1,h2⟩
  refine⟨h1,?_,?_⟩
  ·by_cases hs:st=0
   ·rw[<-ok.z hs];exact h1
   ·have hp:0<st:=by have:=ok.nn;omega
    have:=qk2_ h1 (qW1_ h2 (ok.p hp).2)
    rw[show lo-m+(hi-lo)=hi-m by omega]at this
    exact this
  ·have:=qk2_ h1 h2
   rw[show lo-m+st=lo+st-m by omega]at this
   exact this
theorem zDP{lo hi st lo' hi' st':Int}(ok:RunOk lo hi st)(ok':RunOk lo' hi' st'):
  stepOf (if lo'<lo then lo' else lo) [lo,hi,lo+st,lo',hi',lo'+st']=g (g st st') (lo-lo'):=by
 refine qC (pN (qV1_ 0)) (g_nonneg _ _) λd=>?_
 unfold stepOf
 rw[uP,g_dvd,g_dvd]
 have key:∀m:Int,(m=lo\/m=lo')->((d ∣ (0:Int)/\∀n∈[lo,hi,lo+st,lo',hi',lo'+st'],d ∣ (n-m))↔(d ∣ st/\d ∣ st')/\d ∣ (lo-lo')):=by
  intro m hm
  have r1:=@zBw lo hi st d m ok
  have r2:=@zBw lo' hi' st' d m ok'
  constructor
  ·rintro⟨_,h⟩
   have a1:=r1.mp ⟨h lo (by simp),h hi (by simp),h (lo+st) (by simp)⟩
   have a2:=r2.mp ⟨h lo' (by simp),h hi' (by simp),h (lo'+st') (by simp)⟩
   refine⟨⟨a1.2,a2.2⟩,?_⟩
   have:=qE1_ a1.1 a2.1
   rw[show lo-m-(lo'-m)=lo-lo' by omega]at this
   exact this
  ·rintro⟨⟨h1,h2⟩,h3⟩
   have b1:d ∣ (lo-m):=by
    rcases hm with e|e
    ·rw[e,ql2_];exact qy1_ _
    ·rw[e];exact h3
   have b2:d ∣ (lo'-m):=by
    rcases hm with e|e
    ·rw[e]
     have:=Int.dvd_neg.mpr h3
     rw[show -(lo-lo')=lo'-lo by omega]at this
     exact this
    ·rw[e,ql2_];exact qy1_ _
   have a1:=r1.mpr ⟨b1,h1⟩
   have a2:=r2.mpr ⟨b2,h2⟩
   refine⟨qy1_ _,λn hn=>?_⟩
   simp only[List.mem_cons,List.not_mem_nil,or_false]at hn
   rcases hn with e|e|e|e|e|e<;>rw[e]
   ·exact a1.1
   ·exact a1.2.1
   ·exact a1.2.2
   ·exact a2.1
   ·exact a2.2.1
   ·exact a2.2.2
 split
 ·exact key lo' (.inr rfl)
 ·exact key lo (.inl rfl)
theorem zBs{lo hi st:Int}(ok:RunOk lo hi st):lo<=hi/\lo+st<=hi:=by
 refine⟨ok.le,?_⟩
 by_cases hs:st=0
 ·rw[hs,<-ok.z hs];omega
 ·have hp:0<st:=by have:=ok.nn;omega
  have:=ok.p hp
  have:=Int.le_of_dvd (by omega) this.2
  omega
theorem zJh(a b:Int):g a b=g b a:=by unfold g;rw[Int.gcd_comm]
theorem zKd(a b:Int):g a (-b)=g a b:=by unfold g;rw[Int.gcd_neg]
theorem g_abs(a:Int):g a 0=if a<0 then -a else a:=by
 unfold g
 rw[Int.gcd_zero_right]
 split<;>omega
theorem g_turnF{a b:Int}(hb:b≠0):g b (a.fmod b)=g a b:=by
 refine qC (g_nonneg _ _) (g_nonneg _ _) λd=>?_
 rw[g_dvd,g_dvd]
 have e:=Int.mul_fdiv_add_fmod a b
 constructor
 ·rintro⟨h1,h2⟩
  refine⟨?_,h1⟩
  have:=qk2_ (qW1_ h1 (qP2_ b (a.fdiv b))) h2
  rw[e]at this
  exact this
 ·rintro⟨h1,h2⟩
  refine⟨h2,?_⟩
  have:=qE1_ h1 (qW1_ h2 (qP2_ b (a.fdiv b)))
  rw[show a-b*(a.fdiv b)=a.fmod b by omega]at this
  exact this
theorem fmod_less{a b:Int}(hb:b≠0):(a.fmod b).natAbs<b.natAbs:=by
 rcases Int.lt_or_gt_of_ne hb with h|h
 ·have e:a.fmod b = -((-a).fmod (-b)):=by rw[Int.neg_fmod_neg];omega
  have h1:=Int.fmod_nonneg_of_pos (-a) (show 0 < -b by omega)
  have h2:=Int.fmod_lt_of_pos (-a) (show 0 < -b by omega)
  omega
 ·have h1:=Int.fmod_nonneg_of_pos a h
  have h2:=Int.fmod_lt_of_pos a h
  omega
abbrev R3:=Int×Int×Int
def Ok(a:R3):Prop:=RunOk a.1 a.2.1 a.2.2
def joinR(a b:R3):R3:=(if b.1<a.1 then b.1 else a.1,if b.2.1 > a.2.1 then b.2.1 else a.2.1,g (g a.2.2 b.2.2) (a.1-b.1))
structure Sub (b a:R3):Prop where
 lo:a.1<=b.1
 hi:b.2.1<=a.2.1
 far:a.2.2 ∣ (b.1-a.1)
 st:a.2.2 ∣ b.2.2
theorem zEZ(a b:R3):joinR a b=joinR b a:=by
 unfold joinR
 have h1:(if b.1<a.1 then b.1 else a.1)=(if a.1<b.1 then a.1 else b.1):=by split<;>split<;>omega
 have h2:(if b.2.1 > a.2.1 then b.2.1 else a.2.1)=(if a.2.1 > b.2.1 then a.2.1 else b.2.1):=by split<;>split<;>omega
 rw[h1,h2,zJh a.2.2 b.2.2,show a.1-b.1 = -(b.1-a.1) by omega,zKd]
theorem zAL{a b:R3}:Sub a (joinR a b):=by
 have h:=(g_dvd (d:=g (g a.2.2 b.2.2) (a.1-b.1))).mp (qO2_ _)
 have h2:=g_dvd.mp h.1
 refine⟨?_,?_,?_,h2.1⟩
 ·show(if b.1<a.1 then b.1 else a.1)<=a.1
  split<;>omega
 ·show a.2.1<=(if b.2.1 > a.2.1 then b.2.1 else a.2.1)
  split<;>omega
 ·show g (g a.2.2 b.2.2) (a.1-b.1) ∣ (a.1-(if b.1<a.1 then b.1 else a.1))
  split
  ·exact h.2
  ·rw[ql2_];exact qy1_ _
theorem zEv{a b:R3}:Sub b (joinR a b):=by
 rw[zEZ]
 exact zAL
theorem zEY{a b:R3}(ha:Ok a)(hb:Ok b){m M:Int}(hm:m∈[a.1,a.2.1,a.1+a.2.2,b.1,b.2.1,b.1+b.2.2])(hm':∀x∈[a.1,a.2.1,a.1+a.2.2,b.1,b.2.1,b.1+b.2.2],m<=x)
  (hM:M∈[a.1,a.2.1,a.1+a.2.2,b.1,b.2.1,b.1+b.2.2]) (hM':∀x∈[a.1,a.2.1,a.1+a.2.2,b.1,b.2.1,b.1+b.2.2],x<=M):
  (m,M,stepOf m [a.1,a.2.1,a.1+a.2.2,b.1,b.2.1,b.1+b.2.2])=joinR a b:=by
 have ta:=zBs ha
 have tb:=zBs hb
 have na:=ha.nn
 have nb:=hb.nn
 have e1:m=if b.1<a.1 then b.1 else a.1:=by
  have y1:=hm' a.1 (by simp)
  have y2:=hm' b.1 (by simp)
  simp only[List.mem_cons,List.not_mem_nil,or_false]at hm
  split<;>omega
 have e2:M=if b.2.1 > a.2.1 then b.2.1 else a.2.1:=by
  have y1:=hM' a.2.1 (by simp)
  have y2:=hM' b.2.1 (by simp)
  simp only[List.mem_cons,List.not_mem_nil,or_false]at hM
  split<;>omega
 have e3:=zDP ha hb
 rw[<-e1]at e3
 unfold joinR
 rw[e3,<-e1,<-e2]
end GcdM
namespace L2
open PySem PySem.Spec PyProof.Rows WordM
theorem stW_iff{x y:Str}:stW x y=true↔∃r,cs x=cs y++r:=by
 unfold stW
 rw[StrLaws.subAt_eq,qR1_,decide_eq_true_iff,qy2_,beq_iff_eq,WordM.len,WordM.len]
 constructor
 ·rintro⟨h1,h2⟩
  have h2:(cs x).take (cs y).length=cs y:=h2
  exact⟨(cs x).drop (cs y).length,(qM2_ (cs y).length (cs x)).symm.trans (by rw[h2])⟩
 ·rintro⟨r,e⟩
  show _/\(cs x).take _=_
  rw[e]
  exact⟨by rw[qj_];omega,by rw[List.take_left'];rfl⟩
theorem kC{x y:Str}{r:List Nat}(e:cs x=cs y++r):cs (aV x y)=r:=by
 have hl:x.length=(cs y).length+r.length:=by rw[WordM.len,e,qj_]
 unfold aV
 rw[PyProof.Rows.slice_from_eq (b:=(x.length:Int)) (by omega) (by rw[hl,WordM.len];omega) rfl]
 show((cs x).drop _).take _=r
 rw[hl,WordM.len y,e,show(((cs y).length:Nat):Int).toNat=(cs y).length by omega,List.drop_left,qs2_]
 omega
theorem zE{x:Str}(h:0<x.length):cs (Txt.slice x none (some (-1)))=(cs x).take (x.length-1):=by
 have e:=beq_iff_eq.mp (PyProof.Rows.slice_closes_to_neg (x:=x) (j:=-1) (k:=-1+x.length) (by decide) (by omega) rfl)
 rw[e]
 show((cs x).drop 0).take _=_
 rw[qy2_]
 congr 1
 omega
theorem zDo{x:Str}(h:0<x.length):(Txt.slice x none (some (-1))).length=x.length-1:=by
 rw[WordM.len,zE h,qR_,<-WordM.len];omega
theorem zJ7{a b:Str}(h:cs a<cs b):a≠b:=λe=>by rw[e]at h;exact qf3_ _ h
theorem qK:∀{ys xs:List Str},hZ xs->hZ ys->(∀x∈xs,x∈ys)->xs.Sublist ys
 |[],xs,_,_,h=>by
  cases xs with
  |nil=>exact .slnil
  |cons x xs=>exact absurd (h x (.head _)) (by simp)
 |y::ys,[],_,_,_=>List.nil_sublist _
 |y::ys,x::xs,hx,hy,h=>by
  have hx':=List.pairwise_cons.mp hx
  have hy':=List.pairwise_cons.mp hy
  by_cases e:x=y
  ·subst e
   refine List.Sublist.cons_cons x (qK hx'.2 hy'.2 λz hz=>?_)
   rcases qw_.mp (h z (.tail _ hz)) with q|q
   ·exact absurd q.symm (zJ7 (hx'.1 z hz))
   ·exact q
  ·have hxy:x∈ys:=(qw_.mp (h x (.head _))).resolve_left e
   have yx:cs y<cs x:=hy'.1 x hxy
   refine List.Sublist.cons y (qK hx hy'.2 λz hz=>?_)
   rcases qw_.mp (h z hz) with q|q
   ·subst q
    rcases qw_.mp hz with q|q
    ·exact absurd q.symm e
    ·exact absurd (List.lt_trans yx (hx'.1 z q)) (qf3_ _)
   ·exact q
theorem zHl:hZ MK:=by unfold hZ;decide +kernel
theorem sort_set_mem{ss:List Str}{x:Str}:x∈aW (aH ss)↔x∈ss:=(eM _).mem_iff.trans (cO ss x)
theorem fX(ss:List Str):hZ (aW (aH ss)):=zAb (cX ss)
end L2
namespace L2
open PySem PySem.Spec PyProof.Rows PySem.SeqAt
section
variable{X:Cx}{F:Fm}
def zCF(P:Program)(w:World)(K:W.Frag):List V->Hp->VK->Prop:=λxs H Q=>∃(p:Addr) (ss:List Str),xs=[.ref p]/\SqT K H p (ss.map V.str)/\ss.length<4000/\∀a:Addr,H a=none->Q (.ref a) (upd H a (dO P w a (aH ss)))
end
end L2
namespace L2
open PySem PySem.Spec PyProof.Rows WordM
section
variable{X:Cx}{F:Fm}{pos p:Pos}{e a b elt iter:Expr}{es ifs:List Expr}{x:Str}{u ua ub ue:UT}{ut:UTa}{ui:UTl}{tf:UTt}{sc scope:Scope}{XN N:List Str}{fr:List Nat}
theorem aL{k m:Nat}{ps:List Str}{psp:PSp}(G:PGood X.prog X.w X.K X.mg X.base k x ps psp)(hr:Room m X.A)(ha:UA X F (e::es) ut)(hm:k<=m:=by omega)(hg:Gl X x:=by exact rfl)(hdb:(x==("__debug__":Str))=false:=by decide)
  (hst:dN e=false:=by rfl) (hpl:(backTo pos (starEach es X.env)).any (·.1)=false:=by rfl):UE X F (.Call (.Name x p) (e::es) [] pos) (kK psp ut):=zJu G (hr.mono hm) hg ha hdb hst hpl
theorem aZ(i:Nat){pos':Pos}(hN:X.N.Nodup)(he:UE X F e u)(hi:X.N[i]?=some x:=by rfl)(hx:Loc X.env.scope x:=by first|exact Or.inl rfl|exact Or.inr rfl)(hs:swapsWith e (some (.Name x pos')) pos.line X.env=pure false:=by rfl)(hf:X.fn x=true\/X.env.scope.names.lookup x=some .local:=by first|exact .inl rfl|exact .inr rfl|assumption):
  US X F (.Assign [.Name x pos'] e pos) (sE i u):=zHO hN hi hx he hs hf
theorem hJ(i:Nat){ul:UTl}{pos':Pos}(hN:X.N.Nodup)(he:UL X F e ul)(hi:X.N[i]?=some x:=by rfl)(hx:Loc X.env.scope x:=by first|exact Or.inl rfl|exact Or.inr rfl)(hs:swapsWith e (some (.Name x pos')) pos.line X.env=pure false:=by rfl)(hf:X.fn x=true\/X.env.scope.names.lookup x=some .local:=by first|exact .inl rfl|exact .inr rfl|assumption):
  US X F (.Assign [.Name x pos'] e pos) (sH i ul):=zHQ hN hi hx he hs hf
theorem dF{op:CmpOp}{r:P2}(ho:PuCmp X (compareOp op) r)(ha:UE X F a ua)(hb:UE X F b ub)(hm:behindInMarks op b=false:=by exact lY _):UB X F (.Compare a [op] [b] pos) (uB (uOp r ua ub)):=wH ho ha hb hm
theorem gG{op:CmpOp}{r:P2}(ho:fW X (compareOp op) r)(ha:UE X F a ua)(hb:UE X F b ub)(hm:behindInMarks op b=false:=by exact lY _):UE X F (.Compare a [op] [b] pos) (uOp r ua ub):=zHU ho ha hb hm
structure Cq (X:Cx) (sc scope:Scope) (XN N:List Str) (fr:List Nat) (x:Str) (iter:Expr):Prop where
 hc:X.calm=true:=by rfl
 k1:scope.kind=.function:=by rfl
 k2:∀y∈scope.names,y.2≠.cell:=by decide +kernel
 k3:∀y∈scope.names,y.2=.free->sc.names.lookup y.1=some .cell\/sc.names.lookup y.1=some .free:=by decide +kernel
 k4:∀y∈scope.names,y.2=.local->scope.names.lookup y.1=some .local:=by decide +kernel
 k5:N.drop 1=fr.filterMap λi=>XN[i]?:=by rfl
 k6:∀i∈fr,i<XN.length:=by decide +kernel
 k7:1<=N.length:=by decide
 k8:∀x∈N.drop 1,scope.names.lookup x=some .free:=by decide +kernel
 nd:fr.Nodup:=by decide
 nN:N.Nodup:=by decide +kernel
 h0:N[0]?=some x:=by rfl
 hl:∀cl C fp s H,Loc (cJ X N scope cl C fp s H).env.scope x:=by intros;first|exact Or.inl rfl|exact Or.inr rfl
 hfn:∀cl C fp s H,(cJ X N scope cl C fp s H).fn x=true\/(cJ X N scope cl C fp s H).env.scope.names.lookup x=some .local:=by intros;first|exact .inl rfl|exact .inr rfl
 hs:∀x,foldedSetIterable iter X.env x=pure x:=by intro _;rfl
 hsc:X.env.scope=sc:=by rfl
 hxn:X.N=XN:=by rfl
section
variable{z:Str}{pos' spos:Pos}(i:Nat)(hN:X.N.Nodup)(hi:UI X F (.Name x p) iter ui)(hf:∀cl C fp s H,UF (cJ X N scope cl C fp s H) F ifs tf)(he:∀cl C fp s H,UE (cJ X N scope cl C fp s H) F elt ue)
include hi hf he
theorem oM(c:Cq X sc scope XN N fr x iter:=by exact {}):UL X F (.ListComp elt [⟨.Name x p,iter,ifs,0⟩] scope pos) (kJ 1 fr ui (gN 0) tf ue):=
 zBp c.hc ⟨c.k1,c.k2,c.k3,c.k4,c.k5,c.k6,c.k7,c.k8⟩ c.nd hi (λcl C fp s H=>dC 0 (by decide) c.nN c.h0 (c.hl cl C fp s H) (c.hfn cl C fp s H)) hf he c.hs c.hsc c.hxn
include hN
theorem fQ(c:Cq X sc scope XN N fr x iter:=by exact {})(hz:X.N[i]?=some z:=by rfl)(hzl:Loc X.env.scope z:=by first|exact Or.inl rfl|exact Or.inr rfl)
  (hsw:swapsWith (.ListComp elt [⟨.Name x p,iter,ifs,0⟩] scope pos) (some (.Name z pos')) spos.line X.env=pure true:=by rfl)
  (hf':X.fn z=true\/X.env.scope.names.lookup z=some .local:=by first|exact .inl rfl|exact .inr rfl|assumption):US X F (.Assign [.Name z pos'] (.ListComp elt [⟨.Name x p,iter,ifs,0⟩] scope pos) spos) (sE i (uL (kJ 1 fr ui (gN 0) tf ue))):=
 zGC c.hc hN hz hzl ⟨c.k1,c.k2,c.k3,c.k4,c.k5,c.k6,c.k7,c.k8⟩ c.nd hi (λcl C fp s H=>dC 0 (by decide) c.nN c.h0 (c.hl cl C fp s H) (c.hfn cl C fp s H)) hf he hsw hf' c.hs c.hsc c.hxn
end
theorem fE(hi:UI X F (.Name x p) iter ui)(he:∀cl C fp s H,UE (cJ X N scope cl C fp s H) F elt ue)(c:Cq X sc scope XN N fr x iter:=by exact {}):UL X F (.ListComp elt [⟨.Name x p,iter,[],0⟩] scope pos) (kJ 1 fr ui (gN 0) zCT ue):=oM hi (λ_ _ _ _ _=>iO) he c
theorem aT{m:Nat}(hr:Room m X.A)(ha:UE X F a ua)(hb:UE X F b ub)(hs:rB b:=by intro _ _;rfl):UE X F (.Subscript a b pos) (uOp pIx ua ub):=zJt (zJV hr.units) ha hb hs
theorem cC{m:Nat}(hr:Room m X.A)(ha:UE X F a ua)(hb:UE X F b ub):UB X F (.Compare a [.Eq] [b] pos) (uB (uOp pEq ua ub)):=wH (kM hr.units) ha hb (lY _)
theorem fS{m:Nat}(hr:Room m X.A)(ha:UE X F a ua)(hb:UE X F b ub):UB X F (.Compare a [.NotEq] [b] pos) (uB (uOp pNe ua ub)):=wH (zJU hr.units) ha hb (lY _)
end
end L2
namespace L2
open PySem
namespace Lay
def stp(mask:Nat)(i:Nat):Nat:=(i*5+1) % (mask+1)
def itr(mask:Nat):Nat->Nat->Nat
 |0,i=>i
 |k+1,i=>itr mask k (stp mask i)
def zCA(mask:Nat):Bool:=(List.range (mask+1)).all λi=>(List.range (mask+1)).all λj=>(List.range (mask+1)).any λk=>itr mask k i==j
def Cyc(mask:Nat):Prop:=∀i j,i<=mask->j<=mask->∃k,k<=mask/\itr mask k i=j
theorem rN{mask:Nat}(h:zCA mask=true):Cyc mask:=λi j hi hj=>by
 unfold zCA at h
 have:=qM1_.mp (qM1_.mp h i (qu1_.mpr (by omega))) j (qu1_.mpr (by omega))
 obtain⟨k,hk,e⟩:=qL_.mp this
 exact⟨k,by have:=qu1_.mp hk;omega,by simpa using e⟩
theorem cyc7:Cyc 7:=rN (by decide +kernel)
theorem zKm:Cyc 15:=rN (by decide +kernel)
theorem zKl:Cyc 31:=rN (by decide +kernel)
theorem zKk:Cyc 63:=rN (by decide +kernel)
def lp(mask:Nat):Nat->Nat×Nat->Nat×Nat
 |0,x=>x
 |k+1,x=>lp mask k (SetTable.leap mask x.1 x.2)
theorem zCq(mask:Nat):∀(a b:Nat) (x:Nat×Nat),lp mask (a+b) x=lp mask b (lp mask a x)
 |0,b,x=>by rw[Nat.zero_add];rfl
 |a+1,b,x=>by rw[Nat.succ_add];exact zCq mask a b _
theorem zBN(mask:Nat):∀(k:Nat) (x:Nat×Nat),(lp mask k x).2=x.2 / 32 ^ k
 |0,x=>by simp[lp]
 |k+1,x=>by
  show(lp mask k _).2=_
  rw[zBN mask k]
  show x.2 / 32 / 32 ^ k=_
  rw[Nat.div_div_eq_div_mul,qC2_,qP1_]
theorem zCL(mask:Nat):∀(k:Nat) (x:Nat×Nat),x.1<=mask->(lp mask k x).1<=mask
 |0,x,h=>h
 |k+1,x,h=>zCL mask k _ (Nat.le_of_lt_succ (qF2_ _ (Nat.succ_pos mask)))
theorem zBM(mask:Nat):∀(k i:Nat),lp mask k (i,0)=(itr mask k i,0)
 |0,i=>rfl
 |k+1,i=>by
  show lp mask k (SetTable.leap mask i 0)=_
  have:SetTable.leap mask i 0=(stp mask i,0):=by
   unfold SetTable.leap stp
   simp
  rw[this,zBM mask k]
  rfl
theorem zHA(h:Int):SetTable.bits h<2 ^ 64:=by
 unfold SetTable.bits
 have:=qB1_ h (show(0:Int)<2 ^ 64 by decide)
 have:=qC1_ h (show(2 ^ 64:Int)≠0 by decide)
 omega
theorem hit{mask:Nat}(C:Cyc mask){i p j:Nat}(hi:i<=mask)(hp:p<2 ^ 64)(hj:j<=mask):∃n,n<SetTable.turns mask/\(lp mask n (i,p)).1=j:=by
 have e13:lp mask 13 (i,p)=((lp mask 13 (i,p)).1,0):=by
  have:(lp mask 13 (i,p)).2=0:=by
   rw[zBN]
   exact Nat.div_eq_of_lt (qT_ hp (by decide))
  rw[<-this]
 obtain⟨k,hk,e⟩:=C (lp mask 13 (i,p)).1 j (zCL mask 13 _ hi) hj
 refine⟨13+k,by unfold SetTable.turns;omega,?_⟩
 rw[zCq,e13,zBM]
 exact e
theorem zAs{mask:Nat}(owner:Array (Option Nat)):∀(fuel i p:Nat),(∃n,n<fuel/\owner.getD (lp mask n (i,p)).1 (some 0)=none)->∃j,SetTable.layClean.free mask owner fuel i p=some j/\owner.getD j (some 0)=none
 |0,i,p,⟨n,h,_⟩=>absurd h (qh3_ _)
 |fuel+1,i,p,⟨n,hn,h⟩=>by
  unfold SetTable.layClean.free
  cases e:(List.range (SetTable.runEnd mask i+1-i)).find? λk=>(owner.getD (i+k) (some 0)).isNone with
  |some k=>
   have:=qg3_ e
   exact⟨i+k,rfl,by simpa using this⟩
  |none=>
   dsimp only
   cases n with
   |zero=>
    have:=qi3_.mp e 0 (qu1_.mpr (by unfold SetTable.runEnd;split<;>omega))
    have h:owner.getD i (some 0)=none:=h
    rw[Nat.add_zero,h]at this
    exact absurd rfl this
   |succ n=>exact zAs owner fuel _ _ ⟨n,by omega,h⟩
theorem zAN:∀(l:List (Option Nat)) (j k:Nat),l[j]?=some none->((l.set j (some k)).filterMap id).Perm (k::l.filterMap id)
 |[],j,k,h=>by simp at h
 |x::l,0,k,h=>by
  have:x=none:=by simpa using h
  subst this
  simp
 |x::l,j+1,k,h=>by
  have ih:=zAN l j k (by simpa using h)
  rw[List.set_cons_succ]
  cases x with
  |none=>simpa using ih
  |some y=>
   simp only[List.filterMap_cons_some (f:=id) (a:=some y) rfl]
   exact(ih.cons y).trans (.swap _ _ _)
theorem zBL:∀(l:List (Option Nat)),(l.filterMap id).length<l.length->∃j:Nat,l[j]?=some none
 |[],h=>by simp at h
 |none::l,h=>⟨0,rfl⟩
 |some y::l,h=>by
  obtain⟨j,hj⟩:=zBL l (by simpa using h)
  exact⟨j+1,by simpa using hj⟩
structure Own (mask k:Nat) (owner:Array (Option Nat)):Prop where
 sz:owner.size=mask+1
 pm:(owner.toList.filterMap id).Perm (List.range k)
theorem zFV{mask:Nat}(C:Cyc mask){k:Nat}{owner:Array (Option Nat)}(O:Own mask k owner)(hk:k<=mask)(h:Int):∃j,SetTable.layClean.free mask owner (SetTable.turns mask) (SetTable.bits h % (mask+1)) (SetTable.bits h)=some j/\Own mask (k+1) (owner.setIfInBounds j (some k)):=by
 have len:owner.toList.length=mask+1:=by rw[qu_,O.sz]
 obtain⟨j,hj⟩:=zBL owner.toList (by rw[O.pm.length_eq,qi2_,len];omega)
 have gd:∀i,owner.getD i (some 0)=none↔owner.toList[i]?=some none:=λi=>by
  rw[qr3_,qr_]
  cases owner[i]? with
  |none=>simp
  |some x=>simp
 have hjl:j<=mask:=by
  have:=(qx_.mp hj).1
  omega
 obtain⟨n,hn,en⟩:=hit C (i:=SetTable.bits h % (mask+1)) (p:=SetTable.bits h) (Nat.le_of_lt_succ (qF2_ _ (Nat.succ_pos mask))) (zHA h) hjl
 obtain⟨j',ej,hj'⟩:=zAs owner (SetTable.turns mask) _ _ ⟨n,hn,by rw[en];exact(gd j).mpr hj⟩
 refine⟨j',ej,by rw[Array.size_setIfInBounds,O.sz],?_⟩
 rw[Array.toList_setIfInBounds]
 refine(zAN _ _ _ ((gd j').mp hj')).trans ((O.pm.cons k).trans ?_)
 rw[List.range_succ]
 exact(List.perm_append_singleton k (List.range k)).symm
theorem zA3{mask:Nat}(C:Cyc mask):∀(hs:List Int) (k:Nat) (owner:Array (Option Nat)),Own mask k owner->k+hs.length<=mask+1->∃o',hs.foldl (init:=some (owner,k)) (λacc h=>do
  let (owner,k) <- acc
  let j <- SetTable.layClean.free mask owner (SetTable.turns mask) (SetTable.bits h % (mask+1)) (SetTable.bits h)
  pure (owner.setIfInBounds j (some k),k+1))=some (o',k+hs.length)/\Own mask (k+hs.length) o'
 |[],k,owner,O,_=>⟨owner,rfl,O⟩
 |h::hs,k,owner,O,hl=>by
  rw[qI_]at hl
  obtain⟨j,ej,O'⟩:=zFV C O (by omega) h
  obtain⟨o',e,O2⟩:=zA3 C hs (k+1) _ O' (by omega)
  refine⟨o',?_,by rw[qI_,show k+(hs.length+1)=k+1+hs.length by omega];exact O2⟩
  rw[qw1_,qI_,show k+(hs.length+1)=k+1+hs.length by omega,<-e]
  congr 1
  simp[ej]
theorem zEU{mask:Nat}(C:Cyc mask)(hs:Array Int)(hl:hs.size<=mask):∃o,SetTable.layClean mask hs=some o/\Own mask hs.size o:=by
 have O:Own mask 0 (Array.replicate (mask+1) none):=⟨by simp,by
  have:∀n:Nat,(List.replicate n (none:Option Nat)).filterMap id=[]:=λn=>by
   induction n with
   |zero=>rfl
   |succ n ih=>rw[qn1_,qH_];exact ih
  rw[Array.toList_replicate,this]
  exact .refl _⟩
 obtain⟨o,e,O'⟩:=zA3 C hs.toList 0 _ O (by rw[qu_];omega)
 rw[Nat.zero_add,qu_]at e O'
 refine⟨o,?_,O'⟩
 unfold SetTable.layClean
 rw[<-Array.foldl_toList,e]
 rfl
theorem zF2(mask:Nat)(o:Array (Option Nat))(hz:o.size=mask+1):((List.range (mask+1)).filterMap λj=>(o.getD j none).map (j,·)).map (·.2)=o.toList.filterMap id:=by
 rw[List.map_filterMap]
 have e:o.toList=(List.range (mask+1)).map λj=>o.getD j none:=by
  apply qG2_
  intro i
  rw[qv_]
  by_cases hi:i<mask+1
  ·rw[List.getElem?_range hi,qr_,qO_ (by omega),Option.map_some]
   rw[qr3_,qO_ (by omega)]
   rfl
  ·rw[qS1_ (by rw[qu_];omega),qS1_ (by rw[qi2_];omega)]
   rfl
 rw[e,qo2_]
 congr 1
 funext j
 simp only[Function.comp,id,Option.map_map]
 cases o.getD j none<;>rfl
theorem laid_ok{mask:Nat}(C:Cyc mask)(f mv:Nat)(ld pl:Bool)(hs:Array Int)(hl:hs.size<=mask):∃t order,SetTable.laid mask f mv ld pl hs=some (t,order)/\order.toList.Perm (List.range hs.size)/\t.fits hs.size=true/\t.mask=mask/\t.dummies=#[]/\t.led=ld/\t.plain=pl:=by
 obtain⟨o,e,O⟩:=zEU C hs hl
 unfold SetTable.laid
 rw[e]
 have p:(((List.range (mask+1)).filterMap λj=>(o.getD j none).map (j,·)).map (·.2)).Perm (List.range hs.size):=by rw[zF2 mask o O.sz];exact O.pm
 have ln:((List.range (mask+1)).filterMap λj=>(o.getD j none).map (j,·)).length=hs.size:=by
  have:=p.length_eq
  rwa[qc_,qi2_]at this
 refine⟨_,_,rfl,by rw[List.toList_toArray];exact p,?_,rfl,rfl,rfl,rfl⟩
 unfold SetTable.fits SetTable.fill
 simp only[List.size_toArray,List.length_map,ln]
 simp[hl]
theorem order_perm{α:Type}(es:Array α){order:Array Nat}(h:order.toList.Perm (List.range es.size)):(order.filterMap (es[·]?)).toList.Perm es.toList:=by
 rw[Array.toList_filterMap]
 refine(h.filterMap _).trans ?_
 have:(List.range es.size).filterMap (es[·]?)=es.toList:=by
  have e:es.toList=(List.range es.size).filterMap λi=>es.toList[i]?:=by
   have:∀l:List α,(List.range l.length).filterMap (λi=>l[i]?)=l:=by
    intro l
    induction l with
    |nil=>rfl
    |cons x l ih=>
     rw[qI_,qt2_,qH_,qo2_]
     simp only[List.getElem?_cons_zero]
     congr 1
   have:=this es.toList
   rw[qu_]at this
   exact this.symm
  rw[e]
  congr 1
  funext i
  rw[qr_]
 rw[this]
theorem above(n:Nat)(h:n<64):Cyc (SetTable.sizeAbove n-1)/\n<SetTable.sizeAbove n/\SetTable.sizeAbove n<=64:=by
 have:∀n<64,(SetTable.sizeAbove n=8\/SetTable.sizeAbove n=16\/SetTable.sizeAbove n=32\/SetTable.sizeAbove n=64)/\n<SetTable.sizeAbove n:=by decide +kernel
 obtain⟨h1,h2⟩:=this n h
 refine⟨?_,h2,by omega⟩
 rcases h1 with e|e|e|e<;>rw[e]
 ·exact cyc7
 ·exact zKm
 ·exact zKl
 ·exact zKk
end Lay
end L2
namespace L2
open PySem PySem.Spec PyProof.Rows
section
variable{prog:Program}{w:World}{A:Around}{E:Value->Shared->Prop}{s:Shared}{a:Addr}{us:List Str}
def rQ(es:Array (Int×Value))(laid:Option (SetTable×Array Nat)):Sem (Array (Int×Value)×SetTable):=do
 let some (t,order):=laid|unsupported "internal:set-table-without-room"
 let es':=order.filterMap (es[·]?)
 if es'.size != es.size then unsupported "internal:set-table-lost-an-element"
 pure (es',t)
theorem zAD{es:Array (Int×Value)}{t':SetTable}{order:Array Nat}{Q:Array (Int×Value)×SetTable->Shared->Prop}(pm:order.toList.Perm (List.range es.size))
  (h:∀es':Array (Int×Value),es'.toList.Perm es.toList->Q (es',t') s):wpAny (model prog w) A (rQ es (some (t',order))) Q E s:=by
 have p:=Lay.order_perm es pm
 have sz:(order.filterMap (es[·]?)).size=es.size:=by have:=p.length_eq;rwa[qu_,qu_]at this
 unfold rQ
 dsimp only
 rw[if_neg (by rw[sz];simp)]
 exact qa_ (qb_ (qb_ (h _ p)))
theorem SetT.perm{es es':Array (Int×Value)}{t t':SetTable}(T:SetT prog w us es t)(p:es'.toList.Perm es.toList)(ft:t'.fits es'.size=true)(pl:t'.plain=t.plain)(ld:t'.led=t.led):SetT prog w us es' t':=by
 obtain⟨vs,hv,pv⟩:=T.tx
 obtain⟨vs',hv',pv'⟩:=lD (p.map (·.2)) hv
 have sz:es'.size=es.size:=by have:=p.length_eq;simpa using this
 exact⟨T.el.perm p,⟨vs',hv',pv'.trans pv⟩,T.nd,by rw[sz];exact T.lt,ft,by rw[sz,pl];exact T.pl,by rw[ld];exact T.ld⟩
def SetF(prog:Program)(w:World)(a:Addr)(us:List Str)(h:Heap):Prop:=∃es ep t,h.get? a=some (bJ es ep t)/\SetT prog w us es t/\(us=[]->t.mask=7)
theorem SetF.sets{h:Heap}:SetF prog w a us h->SetS prog w a us h:=λ⟨es,ep,t,ho,T,_⟩=>⟨es,ep,t,ho,T⟩
theorem zBg{k:Nat}{Q:Unit->Shared->Prop}(S:SetF prog w a us s.heap)(hk:us.length+k<32)
  (h:∀h' es ep t,Heap.SameBut a s.heap h'->h'.get? a=some (bJ es ep t)->SetT prog w us es t->(us=[]->Lay.Cyc t.mask/\k<=t.mask)->Q () {s with heap:=h'}):wpAny (model prog w) A (setRoomFor a k) Q E s:=by
 obtain⟨es,ep,t,ho,T,hm⟩:=S
 unfold setRoomFor
 refine qa_ (qt_ ho rfl T.fit ?_)
 dsimp only
 have fz:t.place.size=us.length:=by
  have:=T.fit
  simp only[SetTable.fits,Bool.and_eq_true,beq_iff_eq]at this
  rw[this.1,T.size]
 cases e:t.roomFor k with
 |none=>
  dsimp only
  have es':s={s with heap:=s.heap}:=by cases s;rfl
  rw[es']
  refine qb_ (h _ es ep t (Heap.SameBut.refl a s.heap) ho T λz=>?_)
  have hm:=hm z
  unfold SetTable.roomFor at e
  split at e
  ·cases e
  ·rename_i z2
   rw[hm]
   refine⟨Lay.cyc7,?_⟩
   unfold SetTable.fill at z2
   rw[hm]at z2
   omega
 |some wanted=>
  dsimp only
  have ew:wanted=(us.length+k)*2:=by
   unfold SetTable.roomFor at e
   split at e
   ·injection e with e;rw[<-e,fz]
   ·cases e
  obtain⟨C,lt,le⟩:=Lay.above wanted (by omega)
  have hz:(es.map (·.1)).size=us.length:=by rw[qQ2_,T.size]
  obtain⟨t',order,e,pm,ft,mk,_,ld,pl⟩:=Lay.laid_ok C t.finger (t.movedTo (SetTable.sizeAbove wanted-1)) t.led t.plain (es.map (·.1)) (by omega)
  rw[qQ2_]at pm ft
  unfold setRelay
  refine qa_ (qt_ ho rfl T.fit ?_)
  dsimp only
  rw[if_neg (by rw[sizeLine_eq];omega)]
  unfold SetTable.relaid
  rw[e]
  refine qa_ (m:=rQ es (some (t',order))) (zAD pm λes' p=>?_)
  have sz:es'.size=es.size:=by have:=p.length_eq;simpa using this
  have T':SetT prog w us es' t':=T.perm p (by rw[sz];exact ft) pl ld
  refine wpAny_storeSet_of ho rfl (h _ es' (ep+1) t' (Heap.SameBut.update s.heap a _) (qU_ (Obj.putSet es' t') ho rfl) T' λz=>?_) (fits_of_scanBound T'.lt)
  rw[mk]
  exact⟨C,by omega⟩
theorem zGq{es:Array (Int×Value)}{ep:Nat}{t:SetTable}{Q:Array (Int×Value)->Shared->Prop}(ho:s.heap.get? a=some (bJ es ep t))(T:SetT prog w us es t)
  (h:∀(out:Array (Int×Value)) d,out.toList.Perm es.toList->Q out {s with drawn:=d}):wpAny (model prog w) A (setWalk a) Q E s:=by
 have es':s={s with drawn:=s.drawn}:=by cases s;rfl
 unfold setWalk
 refine qa_ (qt_ ho rfl T.fit ?_)
 dsimp only
 refine qa_ (dQ ?_)
 cases hb:byT w with
 |true=>
  rw[if_pos rfl]
  refine qa_ (wpAny_askSetting (qb_ ?_))
  rw[es']
  exact h _ _ (jJ _ _)
 |false=>
  rw[if_neg ql_]
  split
  ·refine qa_ (tK _ _ _ (by simp) λys d p=>qb_ ?_)
   exact h _ d (by rw[List.toList_toArray];exact p)
  ·have hl:t.led=true:=by rw[T.ld,hb];rfl
   have:(!t.led&&decide (es.size > 1))=false:=by rw[hl];rfl
   refine qa_ (m:=(if (!t.led&&decide (es.size > 1))=true then unsupported "set:maker-not-led" else pure PUnit.unit)) ?_
   rw[this,if_neg ql_]
   refine qb_ (qb_ ?_)
   rw[es']
   exact h _ _ (.refl _)
theorem zFm{o:Addr}{vs:List Str}{Q:Bool->Shared->Prop}(S:SetS prog w a us s.heap)(O:SetS prog w o vs s.heap)(h:Q true s):wpAny (model prog w) A (setsQuiet [o,a]) Q E s:=by
 unfold setsQuiet
 refine qa_ (wpAny_forIn_list _ (λl b s'=>b.1=none/\s'=s/\∀x∈l,x=o\/x=a) _ ?_ ?_ _ _ ⟨rfl,rfl,λx hx=>by simpa using hx⟩)
 ·rintro x rest b s' ⟨hb,rfl,hx⟩
  obtain⟨us',es,ep,t,ho,T⟩:∃us',SetS prog w x us' s'.heap:=by
   rcases hx x (.head _) with rfl|rfl
   ·exact⟨_,O⟩
   ·exact⟨_,S⟩
  refine qa_ (mX ho T.fit ?_)
  refine qa_ (PySem.MeetsSeq2.wpAny_forIn_array _ (λl b s''=>b.1=none/\s''=s'/\∀e∈l,e∈es.toList) _ ?_ ?_ _ _ ⟨rfl,rfl,λe he=>he⟩)
  ·rintro⟨hh,v⟩ rest' b' s'' ⟨hb',rfl,he⟩
   obtain⟨⟨k,hk,_⟩,_⟩:=T.el (hh,v) (he _ (.head _))
   obtain⟨tk,ev⟩:=Value.isStrOf_shape (show Value.isStrOf k v=true from hk)
   subst ev
   exact qb_ ⟨rfl,rfl,λe h=>he e (.tail _ h)⟩
  ·rintro b' s'' ⟨hb',rfl,_⟩
   dsimp only
   rw[hb']
   exact qb_ ⟨rfl,rfl,λx h=>hx x (.tail _ h)⟩
 ·rintro b s' ⟨hb,rfl,_⟩
  dsimp only
  rw[hb]
  exact qb_ h
theorem zFl{o:Addr}{vs:List Str}{es:Array (Int×Value)}{ep:Nat}{t:SetTable}{Q:Array (Int×Value)->Shared->Prop}(S:SetS prog w a us s.heap)(ho:s.heap.get? o=some (bJ es ep t))(T:SetT prog w vs es t)
  (h:∀(out:Array (Int×Value)) h' d,out.toList.Perm es.toList->Heap.SameBut a s.heap h'->SetS prog w a us h'->Q out {s with heap:=h',drawn:=d}):wpAny (model prog w) A (setWalkUnseen o [a] (some a)) Q E s:=by
 have wk:wpAny (model prog w) A (setWalk o) Q E s:=zGq ho T λout d p=>h out s.heap d p (Heap.SameBut.refl a s.heap) S
 unfold setWalkUnseen
 refine qa_ (qt_ ho rfl T.fit ?_)
 dsimp only
 refine qa_ (dQ ?_)
 split
 ·exact wk
 ·rename_i z
  have hsz:1<es.size:=by
   apply Nat.lt_of_not_le
   intro z2
   apply z
   rw[qP_ z2,Bool.or_true]
  have hp:t.plain=false:=T.pl.resolve_left (by omega)
  refine qa_ (zFm S ⟨es,ep,t,ho,T⟩ ?_)
  rw[if_neg (by simp)]
  obtain⟨ef,epf,tf,hf,F⟩:=id S
  refine qa_ (wpAny_rule ?_)
  refine qa_ (qt_ hf rfl F.fit ?_)
  dsimp only
  split
  ·have F':SetT prog w us ef {tf with led:=tf.led&&t.led,plain:=tf.plain&&t.plain}:=⟨F.el,F.tx,F.nd,F.lt,F.fit,.inr (by show(tf.plain&&t.plain)=false;rw[hp,qA2_]),by show(tf.led&&t.led)=_;rw[F.ld,T.ld,Bool.and_self]⟩
   refine qa_ (wpAny_storeSet_of hf rfl ?_ (fits_of_scanBound F.lt))
   have e:∀hp':Heap,({s with heap:=hp'}:Shared)={s with heap:=hp',drawn:=s.drawn}:=λ_=>rfl
   rw[e]
   exact qb_ (h _ _ _ (.refl _) (Heap.SameBut.update s.heap a _) ⟨ef,epf+1,_,qU_ (Obj.putSet ef _) hf rfl,F'⟩)
  ·have e:s={s with heap:=s.heap,drawn:=s.drawn}:=by cases s;rfl
   rw[e]
   exact qb_ (h _ _ _ (.refl _) (Heap.SameBut.refl a s.heap) S)
theorem SetS.same{h:Heap}{us':List Str}(S:SetS prog w a us h)(n:us'.Nodup)(e:∀x,x∈us↔x∈us'):SetS prog w a us' h:=by
 obtain⟨es,ep,t,ho,T⟩:=S
 obtain⟨vs,hv,pv⟩:=T.tx
 exact⟨es,ep,t,ho,T.el,⟨vs,hv,pv.trans ((qX1_ T.nd n).mpr e)⟩,n,T.lt,T.fit,T.pl,T.ld⟩
theorem zAE{o:Addr}{vs:List Str}{each:Sem Unit}{Q:Unit->Shared->Prop}(ne:a≠o)(S:SetF prog w a us s.heap)(O:SetS prog w o vs s.heap)(hl:us.length+vs.length<32)
  (he:∀(s':Shared) (Q':Unit->Shared->Prop),s'.heap.get? o=s.heap.get? o->Q' () s'->wpAny (model prog w) A each Q' E s')
  (h:∀h' d,Heap.SameBut a s.heap h'->SetF prog w a (aH (us++vs)) h'->Q () {s with heap:=h',drawn:=d}):wpAny (model prog w) A (setMerge a o each) Q E s:=by
 obtain⟨es,ep,t,ho,T⟩:=id O
 have e0:∀s:Shared,s={s with heap:=s.heap,drawn:=s.drawn}:=λs=>by cases s;rfl
 unfold setMerge
 rw[if_neg (by simpa using ne)]
 refine qa_ (qt_ ho rfl T.fit ?_)
 dsimp only
 by_cases z0:es.size=0
 ·rw[if_pos (by simpa[Array.isEmpty_iff_size_eq_zero]using z0)]
  have ev:vs=[]:=qO1_ (by rw[<-T.size];exact z0)
  subst ev
  rw[e0 s]
  refine qb_ (h _ _ (Heap.SameBut.refl a s.heap) ?_)
  obtain⟨es1,ep1,t1,h1,T1,m1⟩:=S
  have en:∀x,x∈us↔x∈aH (us++[]):=λx=>by rw[cO,qQ_]
  obtain⟨vs1,hv1,pv1⟩:=T1.tx
  refine⟨es1,ep1,t1,h1,⟨T1.el,⟨vs1,hv1,pv1.trans ((qX1_ T1.nd (cX _)).mpr en)⟩,cX _,T1.lt,T1.fit,T1.pl,T1.ld⟩,λz=>m1 ?_⟩
  refine qY1_.mpr λx hx=>?_
  have:=(en x).mp hx
  rw[z]at this
  exact nomatch this
 rw[if_neg (by simpa[Array.isEmpty_iff_size_eq_zero]using z0)]
 have hp:t.plain=false:=T.pl.resolve_left z0
 have hv0:vs≠[]:=λz=>z0 (by rw[T.size,z];rfl)
 have nn:aH (us++vs)≠[]:=λz=>by
  obtain⟨x,hx⟩:=qF1_ _ hv0
  have:=(cO (us++vs) x).mpr (qq_ _ hx)
  rw[z]at this
  exact nomatch this
 have full:∀h',SetS prog w a (aH (us++vs)) h'->SetF prog w a (aH (us++vs)) h':=λh' ⟨es,ep,t,ho,T⟩=>⟨es,ep,t,ho,T,λz=>absurd z nn⟩
 refine qa_ (zBg S (by rw[T.size];exact hl) λh1 es1 ep1 t1 b1 g1 T1 m1=>?_)
 have ho1:h1.get? o=some (bJ es ep t):=by rw[b1.2 o (Ne.symm ne)];exact ho
 refine qa_ (qt_ (s:={s with heap:=h1}) g1 rfl T1.fit ?_)
 dsimp only
 have fz:t1.place.size=us.length:=by
  have:=T1.fit
  simp only[SetTable.fits,Bool.and_eq_true,beq_iff_eq]at this
  rw[this.1,T1.size]
 have nil:t1.fill=0->us=[]:=λz=>qO1_ (by unfold SetTable.fill at z;omega)
 cases er:t1.road t with
 |slotForSlot=>
  dsimp only
  have f0:t1.fill=0:=by
   unfold SetTable.road at er
   split at er
   ·cases er
   ·rename_i q;simpa using q
  have eu:=nil f0
  subst eu
  have T2:SetT prog w (aH ([]++vs)) es {t with finger:=t1.finger,led:=t1.led&&t.led,moves:=t1.moves,plain:=t1.plain&&t.plain}:=by
   obtain⟨vs1,hv1,pv1⟩:=T.tx
   exact⟨T.el,⟨vs1,hv1,pv1.trans ((qX1_ T.nd (cX _)).mpr λx=>by rw[cO,ql1_])⟩,cX _,T.lt,T.fit,.inr (by show(t1.plain&&t.plain)=false;rw[hp,qA2_]),by show(t1.led&&t.led)=_;rw[T1.ld,T.ld,Bool.and_self]⟩
  refine wpAny_storeSet_of g1 rfl ?_ (fits_of_scanBound T.lt)
  exact h _ s.drawn (b1.trans (Heap.SameBut.update h1 a _)) (full _ ⟨es,ep1+1,_,qU_ (Obj.putSet es _) g1 rfl,T2⟩)
 |clean=>
  dsimp only
  have f0:t1.fill=0:=by
   unfold SetTable.road at er
   split at er
   ·cases er
   ·rename_i q;simpa using q
  have eu:=nil f0
  subst eu
  obtain⟨C,hk⟩:=m1 rfl
  obtain⟨t',order,e,pm,ft,mk,_,ld,pl⟩:=Lay.laid_ok C t1.finger t1.moves (t1.led&&t.led) (t1.plain&&t.plain) (es.map (·.1)) (by rw[qQ2_];exact hk)
  rw[qQ2_]at pm ft
  rw[e]
  refine qa_ (m:=rQ es (some (t',order))) (zAD pm λes' p=>?_)
  have sz:es'.size=es.size:=by have:=p.length_eq;simpa using this
  have T2:SetT prog w (aH ([]++vs)) es' t':=by
   obtain⟨vs1,hv1,pv1⟩:=T.tx
   obtain⟨vs',hv',pv'⟩:=lD (p.map (·.2)) hv1
   exact⟨T.el.perm p,⟨vs',hv',(pv'.trans pv1).trans ((qX1_ T.nd (cX _)).mpr λx=>by rw[cO,ql1_])⟩,cX _,by rw[sz];exact T.lt,by rw[sz];exact ft,.inr (by rw[pl,hp,qA2_]),by rw[ld,T1.ld,T.ld,Bool.and_self]⟩
  refine wpAny_storeSet_of g1 rfl ?_ (fits_of_scanBound T2.lt)
  exact h _ s.drawn (b1.trans (Heap.SameBut.update h1 a _)) (full _ ⟨es',ep1+1,_,qU_ (Obj.putSet es' _) g1 rfl,T2⟩)
 |oneByOne=>
  dsimp only
  refine qa_ (zFl (s:={s with heap:=h1}) ⟨es1,ep1,t1,g1,T1⟩ ho1 T λout h2 d p b2 S2=>?_)
  have ho2:h2.get? o=some (bJ es ep t):=by rw[b2.2 o (Ne.symm ne)];exact ho1
  have b12:=b1.trans b2
  refine qa_ (PySem.MeetsSeq2.wpAny_forIn_array _ (λl _ s'=>∃(us':List Str) (h':Heap),s'={s with heap:=h',drawn:=d}/\Heap.SameBut a s.heap h'/\SetS prog w a us' h'/\(∀e∈l,e∈es.toList)/\us'.length+l.length<32/\∀y,(y∈us'\/∃e∈l,(PySem.strKind prog w).is y e.2=true)↔(y∈us\/y∈vs)) _ ?_ ?_ _ _ ?_)
  ·rintro⟨hh,v⟩ rest b s' ⟨us',h',rfl,b',S',hm,hlen,hy⟩
   obtain⟨⟨k,hk,eh⟩,_⟩:=T.el (hh,v) (hm _ (.head _))
   obtain⟨tk,ev⟩:=Value.isStrOf_shape (show Value.isStrOf k v=true from hk)
   subst ev
   have eh:hh=(PySem.strKind prog w).hash k:=eh
   subst eh
   rw[qI_]at hlen
   have hb4:scanBound=4096:=rfl
   refine qa_ (qB_ (vG (s:={s with heap:=h',drawn:=d}) S' (by omega) λbb h3 b3 S3=>?_))
   have b13:=b'.trans b3
   have ho3:h3.get? o=some (bJ es ep t):=by rw[b13.2 o (Ne.symm ne)];exact ho
   refine qa_ (he _ _ (by show h3.get? o=s.heap.get? o;rw[ho3,ho]) ?_)
   refine qa_ (qt_ (s:={s with heap:=h3,drawn:=d}) ho3 rfl T.fit ?_)
   rw[if_neg (by simp)]
   refine qb_ ⟨cU us' k,h3,rfl,b13,S3,λe q=>hm e (.tail _ q),?_,λy=>?_⟩
   ·have:(cU us' k).length<=us'.length+1:=by
     unfold cU
     split
     ·omega
     ·rw[qj_];exact qe_ _
    omega
   ·rw[zBk,<-hy y]
    have isk:(PySem.strKind prog w).is y (.str k tk)=true↔y=k:=⟨λq=>by
     obtain⟨u,q⟩:=Value.isStrOf_shape (show Value.isStrOf y (.str k tk)=true from q)
     injection q with q1 q2
     exact q1.symm,λq=>by subst q;exact hk⟩
    constructor
    ·rintro ((q|q)|⟨e,q1,q2⟩)
     ·exact .inl q
     ·exact .inr ⟨_,.head _,isk.mpr q⟩
     ·exact .inr ⟨e,.tail _ q1,q2⟩
    ·rintro (q|⟨e,q1,q2⟩)
     ·exact .inl (.inl q)
     ·rcases qw_.mp q1 with rfl|q1
      ·exact .inl (.inr (isk.mp q2))
      ·exact .inr ⟨e,q1,q2⟩
  ·rintro b s' ⟨us',h',rfl,b',S',_,_,hy⟩
   refine qb_ (h h' d b' (full _ (S'.same (cX _) λx=>?_)))
   rw[cO,qp_,<-hy x]
   exact⟨.inl,λq=>q.elim id λ⟨_,q,_⟩=>nomatch q⟩
  ·refine⟨us,h2,rfl,b12,S2,λe q=>p.mem_iff.mp q,?_,λy=>?_⟩
   ·have h1:=p.length_eq
    have h2:es.toList.length=vs.length:=by rw[qu_,T.size]
    omega
   ·rw[T.mem y]
    exact⟨λq=>q.imp id λ⟨e,q1,q2⟩=>⟨e,p.mem_iff.mp q1,q2⟩,λq=>q.imp id λ⟨e,q1,q2⟩=>⟨e,p.mem_iff.mpr q1,q2⟩⟩
end
end L2
namespace L2
open PySem PySem.Spec PyProof.Rows
theorem zCQ:entryFor table "set.__or__"=some Builtin.«frozenset.__or__»:=entryFor_alias (id':="frozenset.__or__") (by kernel_rfl) rfl (by decide +kernel) (by kernel_rfl)
section
variable{prog:Program}{w:World}{A:Around}{E:Value->Shared->Prop}{s:Shared}{a:Addr}{us:List Str}
open PySem.Builtin.Frozenset in
def nX(id:String)(l:Addr)(r:Value):Sem Value:=do
 let result <- copyOf l
 if r != .ref l then holding [result] (updateFrom id (<- addrOf result) r)
 return result
open PySem.Builtin.Frozenset in
def orB(args:Args):Sem Fin:=do
 let (self,other) <- slot1 "__or__" args
 let (l,r):=if false then(other,self) else(self,other)
 if !(<- isAnySet l <&&> isAnySet r) then rule s!"frozenset.{"__or__"}.declined";return <- ret .notImplemented
 ret (<- nX s!"frozenset.{"__or__"}" (<- addrOf l) r)
theorem zCK:Builtin.«frozenset.__or__»=orB:=rfl
theorem lB{Q:Bool->Shared->Prop}(ht:s.TypeIs (.ref a) "set")(h:Q true s):wpAny (model prog w) A (Builtin.Frozenset.isAnySet (.ref a)) Q E s:=by
 unfold Builtin.Frozenset.isAnySet
 refine qa_ (wpAny_isInstance (T:="set") (b:=true) ht nY ?_)
 exact qb_ h
theorem SetS.ty{h:Heap}(S:SetS prog w a us s.heap):s.TypeIs (.ref a) "set":=by
 obtain⟨es,ep,t,ho,T⟩:=S
 exact⟨_,ho,rfl⟩
theorem zGt{Q:Value->Shared->Prop}(S:SetS prog w a us s.heap)(hl:us.length<32)
  (h:∀h' d,SetF prog w s.heap.objs.size (aH us) h'->s.heap.objs.size<h'.objs.size->(∀b o,b<s.heap.objs.size->s.heap.get? b=some o->h'.get? b=some o)->Q (.ref s.heap.objs.size) {s with heap:=h',drawn:=d}):
  wpAny (model prog w) A (Builtin.Frozenset.copyOf a) Q E s:=by
 have ht:s.TypeIs (.ref a) "set":=SetS.ty (h:=s.heap) S
 obtain⟨es,ep,t,ho,T⟩:=id S
 have la:a<s.heap.objs.size:=qg_ ho
 unfold Builtin.Frozenset.copyOf Builtin.Frozenset.baseOf newSet
 refine qa_ (qa_ (wpAny_isInstance (T:="set") (b:=true) ht nY (qb_ ?_)))
 rw[if_pos rfl]
 refine qa_ (qa_ (dQ ?_))
 dsimp only
 refine qS_ ?_ (by size_fits)
 refine qa_ (qb_ ?_)
 have g0:(s.heap.push (bJ #[] 0 (.fresh 0 0 (!byT w)))).get? s.heap.objs.size=some (bJ #[] 0 (.fresh 0 0 (!byT w))):=qi_ _ rfl
 have F0:SetF prog w s.heap.objs.size [] (s.heap.push (bJ #[] 0 (.fresh 0 0 (!byT w)))):=⟨#[],0,.fresh 0 0 (!byT w),g0,⟨λe he=>by simp at he,⟨[],.nil,.refl _⟩,qT1_,by decide,by simp[SetTable.fits,SetTable.fresh,SetTable.fill],.inl rfl,rfl⟩,λ_=>rfl⟩
 have S1:SetS prog w a us (s.heap.push (bJ #[] 0 (.fresh 0 0 (!byT w)))):=⟨es,ep,t,qd_ _ ho,T⟩
 refine qa_ (zAE (s:={s with heap:=s.heap.push (bJ #[] 0 (.fresh 0 0 (!byT w)))}) (qC_ la) F0 S1 (by simpa using hl) (λs' Q' _ q=>qb_ q) λh' d b F=>?_)
 rw[ql1_]at F
 refine qb_ (h h' d F (by rw[b.1,qy_];omega) λx o hx e=>?_)
 rw[b.2 x (qm_ hx)]
 exact qd_ _ e
theorem zJo{o:Addr}{vs:List Str}{Q:Value->Shared->Prop}(ne:o≠a)(S:SetS prog w a us s.heap)(O:SetS prog w o vs s.heap)(hl:us.length+vs.length<32)
  (h:∀h' d,SetS prog w s.heap.objs.size (aH (us++vs)) h'->(∀b o,b<s.heap.objs.size->s.heap.get? b=some o->h'.get? b=some o)->Q (.ref s.heap.objs.size) {s with heap:=h',drawn:=d}):
  wpAny (model prog w) A (binaryOp .BitOr (.ref a) (.ref o)) Q E s:=by
 have ht:s.TypeIs (.ref a) "set":=SetS.ty (h:=s.heap) S
 have ht2:s.TypeIs (.ref o) "set":=SetS.ty (h:=s.heap) O
 obtain⟨es,ep,t,ho,T⟩:=id O
 refine wpAny_binaryOp_same (op:=.BitOr) (T:="set") ht ht2 F.fills_set_or F.slot_set_or (qK_ F.slot_set_or ht zCQ ?_ (F.args_set_or_2 _ _))
 rw[zCK]
 show wpAny _ _ (do
  if !(<- Builtin.Frozenset.isAnySet (.ref a) <&&> Builtin.Frozenset.isAnySet (.ref o)) then rule s!"frozenset.{"__or__"}.declined";return <- ret .notImplemented
  ret (<- nX s!"frozenset.{"__or__"}" (<- Builtin.Frozenset.addrOf (.ref a)) (.ref o))) _ _ _
 refine qa_ (qa_ (lB ht ?_))
 refine lB ht2 ?_
 rw[if_neg (by simp)]
 refine qa_ (qb_ ?_)
 have lo:o<s.heap.objs.size:=qg_ ho
 unfold nX
 refine qa_ (qa_ (zGt S (by omega) λh1 d1 F1 z1 k1=>?_))
 rw[if_pos (by simpa using ne)]
 have ho1:h1.get? o=some (bJ es ep t):=k1 o _ lo ho
 have ht3:Shared.TypeIs {s with heap:=h1,drawn:=d1} (.ref o) "set":=⟨_,ho1,rfl⟩
 unfold Builtin.Frozenset.updateFrom
 refine qa_ (qb_ (qa_ (qB_ (qa_ (lB ht3 ?_)))))
 rw[if_pos rfl]
 refine qa_ (qb_ ?_)
 unfold Builtin.Frozenset.merge
 refine qa_ (wpAny_setEpoch_of (s:={s with heap:=h1,drawn:=d1}) ho1 rfl T.fit ?_)
 have ln:(aH us).length<=us.length:=by
  have:∀(l m:List Str),(l.foldl cU m).length<=m.length+l.length:=by
   intro l
   induction l with
   |nil=>exact λm=>qe_ _
   |cons x l ih=>
    intro m
    rw[qw1_,qI_]
    refine qh_ (ih _) ?_
    unfold cU
    split
    ·omega
    ·rw[qj_,qL1_];omega
  have:=this us []
  simpa[aH]using this
 refine zAE (s:={s with heap:=h1,drawn:=d1}) (qC_ lo) F1 ⟨es,ep,t,ho1,T⟩ (by omega) (λs' Q' e q=>?_) λh2 d2 b2 F2=>?_
 ·unfold Builtin.Frozenset.unchanged
  refine qa_ (wpAny_setEpoch_of (s:=s') (by rw[e];exact ho1) rfl T.fit ?_)
  rw[if_neg (by simp)]
  exact qb_ q
 ·refine qb_ ?_
  refine qb_ ⟨_,rfl,by simp,h h2 d2 (F2.sets.same (cX _) λx=>?_) λb o' hb e=>?_⟩
  ·rw[cO,cO,qp_,qp_,cO]
  ·rw[b2.2 b (qm_ hb)]
   exact k1 b o' hb e
end
end L2
namespace L2
open PySem PySem.Spec PyProof.Rows
section
variable{prog:Program}{w:World}{A:Around}{E:Value->Shared->Prop}{s:Shared}
abbrev dA(w:World):Obj:=bJ #[] 0 (.fresh 0 0 (!byT w))
theorem zBf{x:Value}{P:Shared->Prop}{Q:Value->Shared->Prop}(hq:∀s',P s'->Q (.ref s.heap.objs.size) s')
  (hb:wpAny (model prog w) A.in1.in1 (Builtin.«set.__init__» ⟨[.ref s.heap.objs.size]++[x],[]⟩) (λr s'=>r=.done (.ret .none)/\P s') E {s with heap:=s.heap.push (dA w)}):
  wpAny (model prog w) A (call (.type "set") [x]) Q E s:=by
 obtain⟨c,tl,hmro⟩:=F.called_set.mro
 have hmade:=F.called_set.made
 have hsub:=F.called_set.sub
 refine wpAny_call (codeAny_of_tree ?_)
 show wpAny _ _ (callAny (.type "set") _) _ _ _
 refine qb_ ⟨Code.quiet_builtin _ (by decide +kernel),qX_ F.entry_type_call ?_⟩
 rw[Around.under_plain (weight_type_call_type "set" [x] []) rfl]
 have h1:=F.called_set.notType
 have h2:=F.called_set.canCreate
 have hct:=F.typeCall_set_1 x
 repeat (any_goals (first|assumption|wp_step))
 refine codeAny_mono (tO x (E:=E) (Q₁:=λobj s₁=>obj=.ref s.heap.objs.size/\s₁={s with heap:=s.heap.push (dA w)}) ⟨rfl,rfl⟩) λr s₁ hr=>?_
 cases r with
 |error e=>exact hr
 |ok fl=>
  cases fl with
  |ret obj=>
   obtain⟨rfl,rfl⟩:=hr
   have hS:(s.heap.push (dA w)).get? s.heap.objs.size=some (dA w):=qi_ _ rfl
   have hT:Shared.TypeIs {s with heap:=s.heap.push (dA w)} (.ref s.heap.objs.size) "set":=⟨_,hS,rfl⟩
   have hli:=F.called_set.init.lookup
   have hbi:=F.called_set.init.bind (.ref s.heap.objs.size)
   repeat (any_goals (first|assumption|wp_step))
   refine codeAny_mono (codeAny_call_builtin (R:=wants (λr s₂=>r=.none/\P s₂) E) F.called_set.init.plain F.entry_set_init (check_set_init_1 hT (wpAny_mono hb (λr s' ⟨e,p⟩=>?_) λ_ _ h=>h))) λr₂ s₂ hr₂=>?_
   ·subst e
    exact⟨rfl,p⟩
   ·cases r₂ with
    |error e=>exact hr₂
    |ok fl₂=>
     cases fl₂ with
     |ret r=>
      obtain⟨rfl,p⟩:=hr₂
      repeat (any_goals (first|assumption|wp_step))
      exact hq _ p
     |_=>exact hr₂.elim
  |_=>exact hr.elim
theorem zIa{h:Heap}{a:Addr}(e:h.get? a=some (dA w)):SetS prog w a [] h:=⟨#[],0,.fresh 0 0 (!byT w),e,⟨λe he=>by simp at he,⟨[],.nil,.refl _⟩,qT1_,by decide,by simp[SetTable.fits,SetTable.fresh,SetTable.fill],.inl rfl,rfl⟩⟩
theorem zGs{l:Addr}{o:Obj}{T:String}{R:Shared->Prop}{Q:Value->Shared->Prop}(ho:s.heap.get? l=some o)(hc:o.cls=.type T)(hs:isSubtype (.type T) (.type "set")=pure false)(hf:isSubtype (.type T) (.type "frozenset")=pure false)(hne:(Value.type T==Value.type "dict")=false)
  (hit:wpAny (model prog w) A.in1.in1 (pyIter (.ref l)) (λi s1=>wpAny (model prog w) A.in1.in1 (runValue (.builtin "set.update.loop" ⟨[.ref s.heap.objs.size,i],[]⟩)) (λ_ s'=>R s') E s1) E {s with heap:=s.heap.push (dA w)})
  (h:∀s',R s'->Q (.ref s.heap.objs.size) s'):wpAny (model prog w) A (call (.type "set") [.ref l]) Q E s:=by
 refine zBf h ?_
 have ho':(s.heap.push (dA w)).get? l=some o:=qd_ _ ho
 have hS:(s.heap.push (dA w)).get? s.heap.objs.size=some (dA w):=qi_ _ rfl
 obtain⟨ocls,odict,odata,oslots⟩:=o
 simp only at hc
 subst hc
 unfold Builtin.«set.__init__» noKeywords Builtin.Frozenset.updateFrom
 generalize hPI:pyIter=PI at hit
 wp_walk
 exact wpAny_mono hit (λa s1 h=>qa_ (wpAny_mono h (λ_ s2 r=>qb_ (qb_ ⟨rfl,r⟩)) λ_ _ h=>h)) λ_ _ h=>h
def yC(s:Shared)(P:Heap->Prop)(s':Shared):Prop:=∃h' tk,s'={s with heap:=h',toks:=tk}/\P h'/\∀b o,b<s.heap.objs.size->s.heap.get? b=some o->h'.get? b=some o
theorem zAc{o:Obj}{G:Array GenState->Array GenState->Prop}{P:Heap->Prop}{s':Shared}(hm:Moved [s.heap.objs.size,(s.heap.push (dA w)).objs.size] G {s with heap:=(s.heap.push (dA w)).push o} s')(hg:s'.gens=s.gens)(p:P s'.heap):yC s P s':=by
 obtain⟨h',g',d',tk',os'⟩:=s'
 have ed:d'=s.drawn:=hm.drawn
 have eo:os'=s.os:=hm.os
 have hg:g'=s.gens:=hg
 subst hg ed eo
 refine⟨h',tk',rfl,p,λb o hb e=>hm.heap b o ?_ (qd_ _ (qd_ _ e))⟩
 rw[qy_]
 simp only[List.mem_cons,List.not_mem_nil,or_false,not_or]
 exact⟨qm_ hb,qm_ (qk1_ hb)⟩
section
variable{l:Addr}{items:Array Value}{Q:Value->Shared->Prop}(hh:A.handled=none)(hl:s.heap.IsTuple l items)
include hh hl
theorem zAC{R:Heap->Prop}(hw:∀(o:Obj) (lt:l<s.heap.objs.size) (hh3:A.in1.in1.in1.handled=none) (ne:l≠(s.heap.push (dA w)).objs.size) (nf:s.heap.objs.size∉[(s.heap.push (dA w)).objs.size,l]) (s1:Shared),s1={s with heap:=(s.heap.push (dA w)).push {cls:=.type "tuple_iterator",data:=.fields #[.ref l,.int 0 0]}}->s1.heap.get? s.heap.objs.size=some (dA w)->s1.heap.IsTupleIter (s.heap.push (dA w)).objs.size l 0/\s1.heap.IsTuple l items ->
   codeAny (model prog w) A.in1.in1 (.builtin "set.update.loop" ⟨[.ref s.heap.objs.size,.ref (s.heap.push (dA w)).objs.size],[]⟩) (wants (λ_ s'=>yC s R s') E) s1)
  (h:∀(h':Heap) (tk:Nat),R h'->(∀b o,b<s.heap.objs.size->s.heap.get? b=some o->h'.get? b=some o)->Q (.ref s.heap.objs.size) {s with heap:=h',toks:=tk}):wpAny (model prog w) A (call (.type "set") [.ref l]) Q E s:=by
 obtain⟨ol,hol,hcl,nl,hdl⟩:=id hl
 have hlS:l<s.heap.objs.size:=qg_ hol
 refine zGs (R:=yC s R) hol hcl F.sub_tuple_set F.sub_tuple_frozenset (by decide) (wpAny_pyIter_tuple (hl.push _) (wpAny_runValue ?_)) λs' ⟨h',tk,e,p,k⟩=>by subst e;exact h h' tk p k
 refine hw ol hlS (by simp[hh]) ?_ ?_ _ rfl (qd_ _ (qi_ _ rfl)) ⟨⟨_,qi_ _ rfl,rfl,rfl⟩,(hl.push _).push _⟩
 ·rw[qy_];exact qm_ (qk1_ hlS)
 ·rw[qy_]
  simp only[List.mem_cons,List.not_mem_nil,or_false,not_or]
  exact⟨qm_ (qj2_ _),qC_ hlS⟩
theorem zEk{ss:List Str}(hi:StrsAre items.toList ss)(hb:ss.length+1<scanBound)
  (h:∀(h':Heap) (tk:Nat),SetS prog w s.heap.objs.size (aH ss) h'->(∀b o,b<s.heap.objs.size->s.heap.get? b=some o->h'.get? b=some o)->Q (.ref s.heap.objs.size) {s with heap:=h',toks:=tk}):
  wpAny (model prog w) A (call (.type "set") [.ref l]) Q E s:=by
 have hz:items.size=ss.length:=by have:=gL hi;simpa using this
 have hm:eS (λi=>ss.getD i ⟨#[]⟩) items.size=aH ss:=by rw[hz];exact uY λi hi=>by simp[hi]
 refine zAC hh hl (λo lt hh3 ne nf s1 e1 g1 st=>?_) h
 subst e1
 exact zAm ((Walks.tuple hh3 _ l ne items).toS) s.heap.objs.size nf (λi=>ss.getD i ⟨#[]⟩) (λi v hv=>gB hi i v (by rw[qr_];exact hv)) (by rw[hm];exact qq2_ (Nat.succ_le_succ (WordM.nodup_len (cX ss) λx hx=>(cO ss x).mp hx)) hb) (items.size-0) 0 _ (by omega) (qs_ _) st (zIa g1) λs' m S'=>zAc m m.gens (by rw[hm]at S';exact S')
theorem zDS{bs:List Bool}(hi:items.toList=bs.map Value.bool)
  (h:∀(h':Heap) (tk:Nat),SetBl w s.heap.objs.size (inF bs) (inT bs) h'->(∀b o,b<s.heap.objs.size->s.heap.get? b=some o->h'.get? b=some o)->Q (.ref s.heap.objs.size) {s with heap:=h',toks:=tk}):
  wpAny (model prog w) A (call (.type "set") [.ref l]) Q E s:=by
 have hz:items.size=bs.length:=by have:=congrArg List.length hi;simpa using this
 refine zAC hh hl (λo lt hh3 ne nf s1 e1 g1 st=>?_) h
 subst e1
 exact zA0 ((Walks.tuple hh3 _ l ne items).toS) s.heap.objs.size nf bs hz (λi v hv=>zCz hi i v (by rw[qr_];exact hv)) (items.size-0) 0 _ (by omega) (qs_ _) st ⟨0,g1⟩ λs' m S'=>zAc m m.gens S'
end
end
end L2
namespace L2
open PySem PySem.Spec PyProof.Rows
theorem zH4:isSubtype (.type "dict") (.type "frozenset")=pure false:=by rw[isSubtype_type];kernel_rfl
section
variable{prog:Program}{w:World}{A:Around}{E:Value->Shared->Prop}{s:Shared}{a:Addr}{us:List Str}
theorem zAU:∀{l:List DictEntry}{kvs:List (Key×Value)},Pairs (bR prog w) l kvs->∀{us:List Str},kvs.map (·.1)=us.map Sum.inr->l.length=us.length/\∀(i:Nat) (e:DictEntry),l[i]?=some e->∃x,us[i]?=some x/\(bR prog w).is (Sum.inr x) e.key=true
 |_,_,.nil,us,h=>by
  cases us with
  |nil=>exact⟨rfl,λi e z=>by simp at z⟩
  |cons x us=>simp at h
 |_,_,.cons hk hv r,us,h=>by
  cases us with
  |nil=>simp at h
  |cons x us=>
   simp only[List.map_cons,List.cons.injEq]at h
   obtain⟨h1,h2⟩:=h
   obtain⟨a,b⟩:=zAU r h2
   refine⟨by simp[a],λi e z=>?_⟩
   cases i with
   |zero=>
    simp only[List.getElem?_cons_zero,Option.some.injEq]at z
    subst z
    refine⟨x,rfl,?_⟩
    rw[<-h1]
    first|exact hk|exact hv
   |succ i=>exact b i e (by simpa using z)
theorem zDF{d:Addr}{ob:Obj}{es:Array DictEntry}{ep:Nat}{us:List Str}{Q:PUnit->Shared->Prop}(ne:d≠a)(hob:s.heap.get? d=some ob)(hd:ob.data=.dict es ep)(hk:KeysOf (bR prog w) es)(hl:es.size=us.length)
    (hi:∀(i:Nat) (e:DictEntry),es[i]?=some e->∃x,us[i]?=some x/\(bR prog w).is (Sum.inr x) e.key=true) (S:SetS prog w a [] s.heap) (hb:us.length<4000)
    (h:∀h',Heap.SameBut a s.heap h'->SetS prog w a (aH us) h'->Q ⟨⟩ {s with heap:=h'}):
    wpAny (model prog w) A (forIn [:es.size] PUnit.unit λi __s=>do
              let __do_lift <- dictEntries d
              match __do_lift[i]? with
                |some e=>do
                  let _ <- holding [e.key] (setAddHashed a e.key e.hash)
                  let __do_lift <- dictEpoch d
                  if (__do_lift != ep) = true then do
                      unsupported (toString "set.__init__"++toString ":changed-during-callback")
                      pure (ForInStep.yield PUnit.unit)
                    else pure (ForInStep.yield PUnit.unit)
                |x=>do
                  unsupported "internal:set-from-dict"
                  pure (ForInStep.yield PUnit.unit)) Q E s:=by
  rw[Std.Legacy.Range.forIn_eq_forIn_range']
  have hb4:scanBound=4096:=rfl
  refine wpAny_forIn_list _ (λl _ s'=>∃(k:Nat) (h':Heap),l=List.range' k (es.size-k) 1/\k<=es.size/\s'={s with heap:=h'}/\Heap.SameBut a s.heap h'/\SetS prog w a (aH (us.take k)) h') Q ?_ ?_ _ _ ?_
  · rintro x rest b s' ⟨k,h',el,hk',rfl,b',S'⟩
    have hlt:k<es.size:=by
      apply Nat.lt_of_not_le
      intro z
      rw[show es.size-k=0 by omega]at el
      cases el
    rw[show es.size-k=(es.size-(k+1))+1 by omega,List.range'_succ]at el
    obtain⟨rfl,rfl⟩:x=k/\rest=List.range' (k+1) (es.size-(k+1)) 1:=by injection el with e1 e2;exact⟨e1,e2⟩
    have ho':h'.get? d=some ob:=by rw[b'.2 d ne];exact hob
    refine qa_ (wpAny_dictEntries (s:={s with heap:=h'}) ho' hd ?_)
    have ee:es[x]?=some es[x]:=qO_ hlt
    rw[ee]
    dsimp only
    obtain⟨y,ey,iy⟩:=hi x _ ee
    obtain⟨key,hkk,hh⟩:=hk es[x] (Array.getElem_mem hlt)
    have:key=Sum.inr y:=(bR prog w).inj _ _ _ hkk iy
    subst this
    obtain⟨tk,ev⟩:=Value.isStrOf_shape (show Value.isStrOf y es[x].key=true from iy)
    rw[ev,hh]
    have ln:(aH (us.take x)).length<=x:=by
      have:=WordM.nodup_len (cX (us.take x)) (m:=us.take x) λz hz=>(cO _ z).mp hz
      rw[qR_]at this
      omega
    refine qa_ (qB_ (vG (s:={s with heap:=h'}) (x:=y) S' (by omega) λbb h3 b3 S3=>?_))
    have b13:=b'.trans b3
    have ho3:h3.get? d=some ob:=by rw[b13.2 d ne];exact hob
    refine qa_ (wpAny_dictEpoch (s:={s with heap:=h3}) ho3 hd ?_)
    rw[if_neg (by simp)]
    refine qb_ ⟨x+1,h3,rfl,hlt,rfl,b13,?_⟩
    have:aH (us.take (x+1))=cU (aH (us.take x)) y:=by
      rw[qz1_,ey]
      unfold aH
      rw[qH2_]
      rfl
    rw[this]
    exact S3
  · rintro b s' ⟨k,h',el,hk',rfl,b',S'⟩
    have:k=es.size:=by
      apply Nat.le_antisymm hk'
      apply Nat.le_of_not_lt
      intro z
      have:=congrArg List.length el
      rw[List.length_range']at this
      simp at this
      omega
    subst this
    rw[hl,qf1_]at S'
    exact h h' b' S'
  · refine⟨0,s.heap,?_,qs_ _,rfl,Heap.SameBut.refl a s.heap,S⟩
    show List.range' 0 ((es.size-0+1-1) / 1) 1=_
    rw[Nat.div_one,Nat.add_sub_cancel]
theorem zDT{d:Addr}{kvs:List (Key×Value)}{ep:Nat}{us:List Str}{Q:Value->Shared->Prop}(hsm:(d==sysModules)=false)(D:s.heap.DictAt (bR prog w) d kvs ep)(hks:kvs.map (·.1)=us.map Sum.inr)(hb:us.length<32)
  (h:∀(h':Heap),SetS prog w s.heap.objs.size (aH us) h'->(∀b o,b<s.heap.objs.size->s.heap.get? b=some o->h'.get? b=some o)->Q (.ref s.heap.objs.size) {s with heap:=h'}):
  wpAny (model prog w) A (call (.type "set") [.ref d]) Q E s:=by
 obtain⟨ob,es,hob,hex,hd,hk,hp,hnd⟩:=id D
 have ld:d<s.heap.objs.size:=qg_ hob
 refine zBf (P:=λs'=>∃h',s'={s with heap:=h'}/\SetS prog w s.heap.objs.size (aH us) h'/\∀b o,b<s.heap.objs.size->s.heap.get? b=some o->h'.get? b=some o) (λs' ⟨h',e,p,k⟩=>by subst e;exact h h' p k) ?_
 have hS:(s.heap.push (dA w)).get? s.heap.objs.size=some (dA w):=qi_ _ rfl
 have hT:Shared.TypeIs {s with heap:=s.heap.push (dA w)} (.ref s.heap.objs.size) "set":=⟨_,hS,rfl⟩
 have hob':(s.heap.push (dA w)).get? d=some ob:=qd_ _ hob
 have htd:Shared.TypeIs {s with heap:=s.heap.push (dA w)} (.ref d) "dict":=⟨_,hob',hex.1⟩
 have hsds:=F.sub_dict_set
 have hsdf:=zH4
 unfold Builtin.«set.__init__» noKeywords Builtin.Frozenset.updateFrom
 have hdt:(Value.type "dict"==Value.type "dict")=true:=by decide
 generalize hRM:setRoomFor=RM
 wp_walk
 subst hRM
 rw[hd]
 refine qb_ (qa_ (wpAny_dictEntries hob' hd ?_))
 obtain⟨el,ei⟩:=zAU hp hks
 rw[qu_]at el
 have F0:SetF prog w s.heap.objs.size [] (s.heap.push (bJ #[] 0 (.fresh 0 0 (!byT w)))):=⟨#[],0,.fresh 0 0 (!byT w),hS,⟨λe he=>by simp at he,⟨[],.nil,.refl _⟩,qT1_,by decide,by simp[SetTable.fits,SetTable.fresh,SetTable.fill],.inl rfl,rfl⟩,λ_=>rfl⟩
 refine qa_ (zBg (s:={s with heap:=s.heap.push (bJ #[] 0 (.fresh 0 0 (!byT w)))}) F0 (by simpa[el]using hb) λh1 es1 ep1 t1 b1 g1 T1 _=>?_)
 have ne:d≠s.heap.objs.size:=qm_ ld
 have ob1:h1.get? d=some ob:=by rw[b1.2 d ne];exact hob'
 refine qa_ (wpAny_dictEntries (s:={s with heap:=h1}) ob1 hd ?_)
 refine qa_ (zDF (s:={s with heap:=h1}) ne ob1 hd hk el (λi e q=>ei i e (by rw[qr_];exact q)) ⟨es1,ep1,t1,g1,T1⟩ (by omega) λh2 b2 S2=>?_)
 have b12:=b1.trans b2
 refine qb_ (qb_ ?_)
 refine⟨rfl,h2,rfl,S2,λb o hb e=>?_⟩
 rw[b12.2 b (qm_ hb)]
 exact qd_ _ e
end
end L2
namespace L2
open PySem PySem.Spec PyProof.Rows
section
variable{X:Cx}{F:Fm}
theorem zP(hc:X.calm=true):CallR X (.type "set") (zCF X.prog X.w X.K):=by
 intro pins s σ H xs us Q I r h
 obtain⟨p,ss,rfl,hq,hz,q⟩:=h
 obtain⟨u,rfl,rx⟩:=cQ r
 cases rx
 obtain⟨its,rv,pl,hz'⟩:=I.tuple hq
 refine zEk (I.ok.hd hc) pl (jG rv) (by show ss.length+1<4096;omega) λh' tk S k=>?_
 refine⟨.ref s.heap.objs.size,_,I.laid (t':=tk) (o:=dO X.prog X.w s.heap.objs.size (aH ss)) (λb o e=>k b o (qg_ e) e) (qe_ _) ⟨S,?_,λh1 h2 z k'=>z.kept k'⟩,rfl,q _ I.fresh⟩
 obtain⟨es,ep,t,e,_⟩:=S
 exact⟨_,e⟩
def zKO(P:Program)(w:World):R2:=λx y H Q=>∃(a b:Addr) (us vs:List Str),x=.ref a/\y=.ref b/\b≠a/\H a=some (dO P w a us)/\H b=some (dO P w b vs)/\us.length+vs.length<32/\∀c:Addr,H c=none->Q (.ref c) (upd H c (dO P w c (aH (us++vs))))
theorem zIO:OpR X (binaryOp .BitOr) (zKO X.prog X.w):=by
 intro pins s σ H x y v u Q I rx ry h
 obtain⟨a,b,us,vs,rfl,rfl,ne,ha,hb,hl,q⟩:=h
 cases rx
 cases ry
 refine zJo ne (I.hok a _ ha).1 (I.hok b _ hb).1 hl λh' d S k=>?_
 refine⟨.ref s.heap.objs.size,_,(I.laid (t':=s.toks) (o:=dO X.prog X.w s.heap.objs.size (aH (us++vs))) (λb o e=>k b o (qg_ e) e) (qe_ _) ⟨S,?_,λh1 h2 z k'=>z.kept k'⟩).draw d,rfl,q _ I.fresh⟩
 obtain⟨es,ep,t,e,_⟩:=S
 exact⟨_,e⟩
def zCh(P:Program)(w:World):List V->Hp->VK->Prop:=λxs H Q=>∃(p:Addr) (ob:Obj) (kvs:List (Key×V)) (us:List Str),xs=[.ref p]/\FzD H p ob kvs/\kvs.map (·.1)=us.map Sum.inr/\us.length<32/\∀a:Addr,H a=none->Q (.ref a) (upd H a (dO P w a (aH us)))
theorem zQ:CallR X (.type "set") (zCh X.prog X.w):=by
 intro pins s σ H xs us Q I r h
 obtain⟨p,ob,kvs,uu,rfl,hz,hk,hl,q⟩:=h
 obtain⟨u,rfl,rx⟩:=cQ r
 cases rx
 obtain⟨e,hs,_,vs,es,ep,rr,dd,hd⟩:=jN I hz
 have hkv:vs.map (·.1)=uu.map Sum.inr:=by rw[<-qZ rr];exact hk
 refine zDT hs dd hkv hl λh' S k=>?_
 refine⟨.ref s.heap.objs.size,_,I.laid (t':=s.toks) (o:=dO X.prog X.w s.heap.objs.size (aH uu)) (λb o e=>k b o (qg_ e) e) (qe_ _) ⟨S,?_,λh1 h2 z k'=>z.kept k'⟩,rfl,q _ I.fresh⟩
 obtain⟨es,ep,t,e,_⟩:=S
 exact⟨_,e⟩
def yA(T:Tv)(ss:List Str):Prop:=T=.seq true (ss.map sT)\/∃kts,T=.dct kts/\ss=kts.map (·.1)
def zGH(u v:UT):UTl:=λρ Q=>u ρ λT ρ1=>∃ss:List Str,yA T ss/\ss.length<32/\v ρ1 λU ρ2=>∃ts:List Str,yA U ts/\ss.length+ts.length<32/\Q ((aW (aH (ss++ts))).map sT) ρ2
theorem qQ(l:List Str):(aH l).length<=l.length:=by
 have:∀(l m:List Str),(l.foldl cU m).length<=m.length+l.length:=by
  intro l
  induction l with
  |nil=>exact λm=>qe_ _
  |cons x l ih=>
   intro m
   rw[qw1_,qI_]
   refine qh_ (ih _) ?_
   unfold cU
   split
   ·omega
   ·rw[qj_,qL1_];omega
 have:=this l []
 simpa[aH]using this
theorem Stp.keep{K:W.Frag}{ρ ρ2:aU}{σ:St}{H H1 H2:Hp}{b:Addr}{o:HO}(f:FrOk K F ρ σ H)(n:H b=none)(e:H1 b=some o)(s:Stp K F σ ρ H1 ρ2 H2):H2 b=some o:=
 s.st b o e (f.none_nodk n) λi sl e1 m q=>by
  obtain⟨⟨o',e2,_⟩,_⟩:=f.own_at e1 m q
  rw[n]at e2
  cases e2
theorem zCb{K:W.Frag}{P:Program}{w:World}{H:Hp}{x:V}{T:Tv}{ss:List Str}{Q:VK}(sr:yA T ss)(v:VA K H x T)(l:ss.length<32)(h:∀b:Addr,H b=none->Q (.ref b) (upd H b (dO P w b (aH ss)))):zCF P w K [x] H Q\/zCh P w [x] H Q:=by
 rcases sr with rfl|⟨kts,rfl,rfl⟩
 ·obtain⟨a,ys,rfl,hs,z,p⟩:=v.seqI
  rw[iC p]at hs
  exact .inl ⟨a,ss,rfl,hs,by omega,h⟩
 ·obtain⟨a,kvs,rfl,⟨ob,hd⟩,nd,z,p⟩:=v.dctI
  exact .inr ⟨a,ob,kvs,_,rfl,hd,qI p,l,h⟩
theorem zY{e e':Expr}{u v:UT}{p p1 p2 pos pos1 pos2 pos3:Pos}(hc:X.calm=true)(hg:Gl X "sorted")(hm:X.mg "sorted"=none)(hg':Gl X "set")(hm':X.mg "set"=none)(he:UE X F e u)(he':UE X F e' v)(hst:dN e=false:=by rfl)(hst':dN e'=false:=by rfl)
  (hpl:(backTo pos (starEach [] X.env)).any (·.1)=false:=by rfl) (hpl1:(backTo pos1 (starEach [] X.env)).any (·.1)=false:=by rfl) (hpl2:(backTo pos2 (starEach [] X.env)).any (·.1)=false:=by rfl):
  UL X F (.Call (.Name "sorted" p) [.BinOp (.Call (.Name "set" p1) [e] [] pos1) .BitOr (.Call (.Name "set" p2) [e'] [] pos2) pos3] [] pos) (zGH u v):=⟨PE.imp (iE (yQ hc) hg hm boot_sorted (cT (cN zIO (gA ((zP hc).or zQ) hg' hm' L2.boot_set (cT he.pe dD hst) (by decide) (by decide) (gK hst) hpl1) (gA ((zP hc).or zQ) hg' hm' L2.boot_set (cT he'.pe dD hst') (by decide) (by decide) (gK hst') hpl2)) dD rfl) (by decide) (by decide) rfl hpl) λσ H QQ ⟨ρ,Q,f,h,k⟩=>by
 refine⟨ρ,_,f,h,λx T H1 ρ1 s1 v1 q1=>?_⟩
 obtain⟨ss,sr,l1,h2⟩:=q1
 refine zCb sr v1 (by omega) λb nb=>?_
 have sm1:=cB (o:=dO X.prog X.w b (aH ss)) nb
 have t1:=Stp.same s1.fr sm1
 refine⟨ρ1,_,t1.fr,h2,λx' U H2 ρ2 s2 v2 q2=>?_⟩
 obtain⟨ts,sr',hl,q⟩:=q2
 refine zCb sr' v2 (by omega) λb' nb'=>?_
 have kb:H2 b=some (dO X.prog X.w b (aH ss)):=Stp.keep s1.fr nb bB s2
 have ne:b'≠b:=λz=>by rw[z,kb]at nb';cases nb'
 have e1:=qQ ss
 have e2:=qQ ts
 refine⟨b,b',aH ss,aH ts,rfl,rfl,ne,by rw[bK ne.symm];exact kb,bB,by omega,λc nc=>?_⟩
 have e3:=qQ (aH ss++aH ts)
 rw[qj_]at e3
 refine⟨c,_,rfl,bB,by omega,λms d h1 h2' nd=>?_⟩
 have sm:=((cB (o:=dO X.prog X.w b' (aH ts)) nb').trans (cB (o:=dO X.prog X.w c (aH (aH ss++aH ts))) nc)).trans (cB (o:=.lst (ms.map V.str)) nd)
 have sall:=(s1.trans t1).trans (s2.trans (Stp.same s2.fr sm))
 refine k _ _ _ _ _ sall ?_ bB (by rw[qc_,h1.length_eq];omega) (lJ ms) ?_
 ·exact((s1.trans t1).trans s2).non ((cB (o:=dO X.prog X.w b' (aH ts)) nb').free ((cB (o:=dO X.prog X.w c (aH (aH ss++aH ts))) nc).free nd))
 ·rw[nE (h1.trans ((qX1_ (cX _) (cX (ss++ts))).mpr λx=>by rw[cO,cO,qp_,qp_,cO,cO])) h2']
  exact q⟩
end
end L2
namespace L2
open PySem PySem.Spec PyProof.Rows
section
variable{prog:Program}{w:World}{A:Around}{E:Value->Shared->Prop}{s:Shared}{a o:Addr}{f t f' t':Bool}
theorem zJj{f t:Bool}(h:(esB f t).isEmpty=true):f=false/\t=false:=by
 cases f<;>cases t<;>first|exact⟨rfl,rfl⟩|exact absurd h (by decide +kernel)
theorem zJI(l f t f' t':Bool):(bU l f t).roomFor (esB f' t').size=none:=by cases l<;>cases f<;>cases t<;>cases f'<;>cases t'<;>rfl
theorem zV{each:Sem Unit}{Q:Unit->Shared->Prop}(ne:a≠o)(S:SetBl w a f t s.heap)(O:SetBl w o f' t' s.heap)
  (he:∀(s':Shared) (Q':Unit->Shared->Prop),s'.heap.get? o=s.heap.get? o->Q' () s'->wpAny (model prog w) A each Q' E s')
  (h:∀h',Heap.SameBut a s.heap h'->SetBl w a (f || f') (t || t') h'->Q () {s with heap:=h'}):wpAny (model prog w) A (setMerge a o each) Q E s:=by
 obtain⟨ep,ho⟩:=id O
 obtain⟨ea,ha⟩:=id S
 unfold setMerge
 rw[if_neg (by simpa using ne)]
 refine qa_ (qt_ ho rfl (eW _ _ _) ?_)
 dsimp only
 by_cases z0:(esB f' t').isEmpty=true
 ·rw[if_pos z0]
  obtain⟨rfl,rfl⟩:=zJj z0
  have e:s={s with heap:=s.heap}:=by cases s;rfl
  rw[e]
  exact qb_ (h _ (Heap.SameBut.refl a s.heap) (by rw[qp2_,qp2_];exact S))
 rw[if_neg z0]
 unfold setRoomFor
 refine qa_ (qa_ (qt_ ha rfl (eW _ _ _) ?_))
 dsimp only
 rw[zJI]
 dsimp only
 refine qb_ (qa_ (qt_ ha rfl (eW _ _ _) ?_))
 dsimp only
 by_cases zs:f=false/\t=false
 ·obtain⟨rfl,rfl⟩:=zs
  have er:(bU (!byT w) false false).road (bU (!byT w) f' t')=.slotForSlot:=by cases byT w<;>cases f'<;>cases t'<;>rfl
  rw[er]
  dsimp only
  have et:({bU (!byT w) f' t' with finger:=(bU (!byT w) false false).finger,led:=(bU (!byT w) false false).led&&(bU (!byT w) f' t').led,moves:=(bU (!byT w) false false).moves,plain:=(bU (!byT w) false false).plain&&(bU (!byT w) f' t').plain}:SetTable)=bU (!byT w) f' t':=by cases byT w<;>rfl
  rw[et]
  refine wpAny_storeSet_of ha rfl ?_ (by rw[mC];exact qh_ (iA f' t') (by decide))
  exact h _ (Heap.SameBut.update s.heap a _) ⟨ea+1,qU_ (Obj.putSet (esB f' t') (bU (!byT w) f' t')) ha rfl⟩
 ·have er:(bU (!byT w) f t).road (bU (!byT w) f' t')=.oneByOne:=by
   cases f<;>cases t<;>first|exact absurd ⟨rfl,rfl⟩ zs|(cases byT w<;>rfl)
  rw[er]
  dsimp only
  have wk:∀{Q:Array (Int×Value)->Shared->Prop},(∀(out:Array (Int×Value)),out.toList.Perm (esB f' t').toList->Q out s)->wpAny (model prog w) A (setWalkUnseen o [a] (some a)) Q E s:=λ{Q} q=>by
   unfold setWalkUnseen
   refine qa_ (qt_ ho rfl (eW _ _ _) ?_)
   dsimp only
   refine qa_ (dQ ?_)
   rw[if_pos (by show(byT w || (!byT w&&true) || _)=true;cases byT w<;>rfl)]
   unfold setWalk
   refine qa_ (qt_ ho rfl (eW _ _ _) ?_)
   dsimp only
   refine qa_ (dQ ?_)
   cases hb:byT w with
   |true=>
    rw[if_pos rfl]
    exact qa_ (wpAny_askSetting (qb_ (q _ (jJ _ _))))
   |false=>
    rw[if_neg ql_]
    split
    ·rename_i hz
     exact absurd (show(!true&&decide ((esB f' t').size > 1))=true from hz) (by simp)
    ·refine qa_ (m:=(if (!true&&decide ((esB f' t').size > 1))=true then unsupported "set:maker-not-led" else pure PUnit.unit)) ?_
     rw[if_neg (by simp)]
     exact qb_ (qb_ (q _ (.refl _)))
  refine qa_ (wk λout p=>?_)
  refine qa_ (PySem.MeetsSeq2.wpAny_forIn_array _ (λl _ s'=>∃(f1 t1:Bool) (h':Heap),s'={s with heap:=h'}/\Heap.SameBut a s.heap h'/\SetBl w a f1 t1 h'/\(∀e∈l,e∈(esB f' t').toList)/\(f1 || l.any λe=>dW false e.2)=(f || f')/\(t1 || l.any λe=>dW true e.2)=(t || t')) _ ?_ ?_ _ _ ?_)
  ·rintro⟨hh,v⟩ rest b s' ⟨f1,t1,h',rfl,b',S',hm,hf,ht⟩
   have hin:(hh,v)∈(usB f' t').map λb=>(hG b,Value.bool b):=hm _ (.head _)
   obtain⟨c,_,ec⟩:=qf_.mp hin
   cases ec
   refine qa_ (qB_ (zBi (prog:=prog) (s:={s with heap:=h'}) (b:=c) S' λr h3 b3 S3=>?_))
   have b13:=b'.trans b3
   have ho3:h3.get? o=some (bJ (esB f' t') ep (bU (!byT w) f' t')):=by rw[b13.2 o (Ne.symm ne)];exact ho
   refine qa_ (he _ _ (by show h3.get? o=s.heap.get? o;rw[ho3,ho]) ?_)
   refine qa_ (qt_ (s:={s with heap:=h3}) ho3 rfl (eW _ _ _) ?_)
   rw[if_neg (by simp)]
   refine qb_ ⟨_,_,h3,rfl,b13,S3,λe q=>hm e (.tail _ q),?_,?_⟩
   ·rw[<-hf,qA1_,Bool.or_assoc]
    cases c<;>rfl
   ·rw[<-ht,qA1_,Bool.or_assoc]
    cases c<;>rfl
  ·rintro b s' ⟨f1,t1,h',rfl,b',S',_,hf,ht⟩
   rw[List.any_nil,qp2_]at hf ht
   subst hf ht
   exact qb_ (h h' b' S')
  ·refine⟨f,t,s.heap,by cases s;rfl,Heap.SameBut.refl a s.heap,S,λe q=>p.mem_iff.mp q,?_,?_⟩
   ·congr 1
    rw[qx1_,qL_]
    simp only[p.mem_iff]
    cases f'<;>cases t'<;>simp[esB,usB,dW]
   ·congr 1
    rw[qx1_,qL_]
    simp only[p.mem_iff]
    cases f'<;>cases t'<;>simp[esB,usB,dW]
theorem zFq{Q:Value->Shared->Prop}(S:SetBl w a f t s.heap)
  (h:∀h',SetBl w s.heap.objs.size f t h'->s.heap.objs.size<h'.objs.size->(∀b o,b<s.heap.objs.size->s.heap.get? b=some o->h'.get? b=some o)->Q (.ref s.heap.objs.size) {s with heap:=h'}):
  wpAny (model prog w) A (Builtin.Frozenset.copyOf a) Q E s:=by
 obtain⟨ep,ho⟩:=id S
 have ht:s.TypeIs (.ref a) "set":=⟨_,ho,rfl⟩
 have la:a<s.heap.objs.size:=qg_ ho
 unfold Builtin.Frozenset.copyOf Builtin.Frozenset.baseOf newSet
 refine qa_ (qa_ (wpAny_isInstance (T:="set") (b:=true) ht nY (qb_ ?_)))
 rw[if_pos rfl]
 refine qa_ (qa_ (dQ ?_))
 dsimp only
 refine qS_ ?_ (by size_fits)
 refine qa_ (qb_ ?_)
 have F0:SetBl w s.heap.objs.size false false (s.heap.push (bJ #[] 0 (.fresh 0 0 (!byT w)))):=⟨0,qi_ _ rfl⟩
 refine qa_ (zV (s:={s with heap:=s.heap.push (bJ #[] 0 (.fresh 0 0 (!byT w)))}) (qC_ la) F0 ⟨ep,qd_ _ ho⟩ (λs' Q' _ q=>qb_ q) λh' b F=>?_)
 rw[qK2_,qK2_]at F
 refine qb_ (h h' F (by rw[b.1,qy_];omega) λx o hx e=>?_)
 rw[b.2 x (qm_ hx)]
 exact qd_ _ e
theorem zHH{Q:Value->Shared->Prop}(ne:o≠a)(S:SetBl w a f t s.heap)(O:SetBl w o f' t' s.heap)
  (h:∀h',SetBl w s.heap.objs.size (f || f') (t || t') h'->(∀b o,b<s.heap.objs.size->s.heap.get? b=some o->h'.get? b=some o)->Q (.ref s.heap.objs.size) {s with heap:=h'}):
  wpAny (model prog w) A (binaryOp .BitOr (.ref a) (.ref o)) Q E s:=by
 obtain⟨ep,ho⟩:=id O
 obtain⟨ea,ha⟩:=id S
 have ht:s.TypeIs (.ref a) "set":=⟨_,ha,rfl⟩
 have ht2:s.TypeIs (.ref o) "set":=⟨_,ho,rfl⟩
 refine wpAny_binaryOp_same (op:=.BitOr) (T:="set") ht ht2 F.fills_set_or F.slot_set_or (qK_ F.slot_set_or ht zCQ ?_ (F.args_set_or_2 _ _))
 rw[zCK]
 show wpAny _ _ (do
  if !(<- Builtin.Frozenset.isAnySet (.ref a) <&&> Builtin.Frozenset.isAnySet (.ref o)) then rule s!"frozenset.{"__or__"}.declined";return <- ret .notImplemented
  ret (<- nX s!"frozenset.{"__or__"}" (<- Builtin.Frozenset.addrOf (.ref a)) (.ref o))) _ _ _
 refine qa_ (qa_ (lB ht ?_))
 refine lB ht2 ?_
 rw[if_neg (by simp)]
 refine qa_ (qb_ ?_)
 have lo:o<s.heap.objs.size:=qg_ ho
 unfold nX
 refine qa_ (qa_ (zFq S λh1 F1 z1 k1=>?_))
 rw[if_pos (by simpa using ne)]
 have ho1:h1.get? o=some (bJ (esB f' t') ep (bU (!byT w) f' t')):=k1 o _ lo ho
 have ht3:Shared.TypeIs {s with heap:=h1} (.ref o) "set":=⟨_,ho1,rfl⟩
 unfold Builtin.Frozenset.updateFrom
 refine qa_ (qb_ (qa_ (qB_ (qa_ (lB ht3 ?_)))))
 rw[if_pos rfl]
 refine qa_ (qb_ ?_)
 unfold Builtin.Frozenset.merge
 refine qa_ (wpAny_setEpoch_of (s:={s with heap:=h1}) ho1 rfl (eW _ _ _) ?_)
 refine zV (s:={s with heap:=h1}) (qC_ lo) F1 ⟨ep,ho1⟩ (λs' Q' e q=>?_) λh2 b2 F2=>?_
 ·unfold Builtin.Frozenset.unchanged
  refine qa_ (wpAny_setEpoch_of (s:=s') (by rw[e];exact ho1) rfl (eW _ _ _) ?_)
  rw[if_neg (by simp)]
  exact qb_ q
 ·refine qb_ ?_
  refine qb_ ⟨_,rfl,by simp,h h2 F2 λb o' hb e=>?_⟩
  rw[b2.2 b (qm_ hb)]
  exact k1 b o' hb e
end
section
variable{X:Cx}{F:Fm}
def zIi(w:World)(K:W.Frag):List V->Hp->VK->Prop:=λxs H Q=>∃(p:Addr) (bs:List Bool),xs=[.ref p]/\SqT K H p (bs.map V.bl)/\∀a:Addr,H a=none->Q (.ref a) (upd H a (eE w a (inF bs) (inT bs)))
theorem zR(hc:X.calm=true):CallR X (.type "set") (zIi X.w X.K):=by
 intro pins s σ H xs us Q I r h
 obtain⟨p,bs,rfl,hq,q⟩:=h
 obtain⟨u,rfl,rx⟩:=cQ r
 cases rx
 obtain⟨its,rv,pl,hz'⟩:=I.tuple hq
 refine zDS (I.ok.hd hc) pl (bs:=bs) (zCy rv) λh' tk S k=>?_
 refine⟨.ref s.heap.objs.size,_,I.laid (t':=tk) (o:=eE X.w s.heap.objs.size (inF bs) (inT bs)) (λb o e=>k b o (qg_ e) e) (qe_ _) ⟨S,?_,λh1 h2 z k'=>z.kept k'⟩,rfl,q _ I.fresh⟩
 obtain⟨ep,e⟩:=S
 exact⟨_,e⟩
def zKP(w:World):R2:=λx y H Q=>∃(a b:Addr) (f t f' t':Bool),x=.ref a/\y=.ref b/\b≠a/\H a=some (eE w a f t)/\H b=some (eE w b f' t')/\∀c:Addr,H c=none->Q (.ref c) (upd H c (eE w c (f || f') (t || t')))
theorem zIP:OpR X (binaryOp .BitOr) (zKP X.w):=by
 intro pins s σ H x y v u Q I rx ry h
 obtain⟨a,b,f,t,f',t',rfl,rfl,ne,ha,hb,q⟩:=h
 cases rx
 cases ry
 refine zHH ne (I.hok a _ ha).1 (I.hok b _ hb).1 λh' S k=>?_
 refine⟨.ref s.heap.objs.size,_,I.laid (t':=s.toks) (o:=eE X.w s.heap.objs.size (f || f') (t || t')) (λb o e=>k b o (qg_ e) e) (qe_ _) ⟨S,?_,λh1 h2 z k'=>z.kept k'⟩,rfl,q _ I.fresh⟩
 obtain⟨ep,e⟩:=S
 exact⟨_,e⟩
def zFx(u v:UT):UTl:=λρ Q=>u ρ λT ρ1=>∃bs:List Bool,T=.seq true (bs.map bT)/\v ρ1 λU ρ2=>∃cs:List Bool,U=.seq true (cs.map bT)/\Q ((usB (inF bs || inF cs) (inT bs || inT cs)).map bT) ρ2
theorem zDV{e e':Expr}{u v:UT}{p p1 p2 pos pos1 pos2 pos3:Pos}(hc:X.calm=true)(hg:Gl X "sorted")(hm:X.mg "sorted"=none)(hg':Gl X "set")(hm':X.mg "set"=none)(he:UE X F e u)(he':UE X F e' v)(hst:dN e=false:=by rfl)(hst':dN e'=false:=by rfl)
  (hpl:(backTo pos (starEach [] X.env)).any (·.1)=false:=by rfl) (hpl1:(backTo pos1 (starEach [] X.env)).any (·.1)=false:=by rfl) (hpl2:(backTo pos2 (starEach [] X.env)).any (·.1)=false:=by rfl):
  UL X F (.Call (.Name "sorted" p) [.BinOp (.Call (.Name "set" p1) [e] [] pos1) .BitOr (.Call (.Name "set" p2) [e'] [] pos2) pos3] [] pos) (zFx u v):=⟨PE.imp (iE (yM hc) hg hm boot_sorted (cT (cN zIP (gA (zR hc) hg' hm' L2.boot_set (cT he.pe dD hst) (by decide) (by decide) (gK hst) hpl1) (gA (zR hc) hg' hm' L2.boot_set (cT he'.pe dD hst') (by decide) (by decide) (gK hst') hpl2)) dD rfl) (by decide) (by decide) rfl hpl) λσ H QQ ⟨ρ,Q,f,h,k⟩=>by
 refine⟨ρ,_,f,h,λx T H1 ρ1 s1 v1 q1=>?_⟩
 obtain⟨bs,rfl,h2⟩:=q1
 obtain⟨a,ys,rfl,hs,z,p⟩:=v1.seqI
 rw[nI p]at hs
 refine⟨a,bs,rfl,hs,λb nb=>?_⟩
 have sm1:=cB (o:=eE X.w b (inF bs) (inT bs)) nb
 have t1:=Stp.same s1.fr sm1
 refine⟨ρ1,_,t1.fr,h2,λx' U H2 ρ2 s2 v2 q2=>?_⟩
 obtain⟨cs,rfl,q⟩:=q2
 obtain⟨a',ys',rfl,hs',z',p'⟩:=v2.seqI
 rw[nI p']at hs'
 refine⟨a',cs,rfl,hs',λb' nb'=>?_⟩
 have kb:H2 b=some (eE X.w b (inF bs) (inT bs)):=Stp.keep s1.fr nb bB s2
 have ne:b'≠b:=λz=>by rw[z,kb]at nb';cases nb'
 refine⟨b,b',_,_,_,_,rfl,rfl,ne,by rw[bK ne.symm];exact kb,bB,λc nc=>?_⟩
 refine⟨c,_,_,rfl,bB,λd nd=>?_⟩
 have sm:=((cB (o:=eE X.w b' (inF cs) (inT cs)) nb').trans (cB (o:=eE X.w c (inF bs || inF cs) (inT bs || inT cs)) nc)).trans (cB (o:=.lst ((usB (inF bs || inF cs) (inT bs || inT cs)).map V.bl)) nd)
 have sall:=(s1.trans t1).trans (s2.trans (Stp.same s2.fr sm))
 refine k _ _ _ _ _ sall ?_ bB (by rw[qc_];have:=iA (inF bs || inF cs) (inT bs || inT cs);omega) (wG _) q
 exact((s1.trans t1).trans s2).non ((cB (o:=eE X.w b' (inF cs) (inT cs)) nb').free ((cB (o:=eE X.w c (inF bs || inF cs) (inT bs || inT cs)) nc).free nd))⟩
end
end L2
namespace L2
open PySem PySem.Spec PyProof.Rows
section
variable{prog:Program}{w:World}{A:Around}{E:Value->Shared->Prop}{s:Shared}{l:Addr}{its:Array Value}{ss:List Str}
theorem zAp{Q:Value->Shared->Prop}(hl:s.heap.IsTuple l its)
  (h:∀s₂:Shared,s₂={s with heap:=s.heap.push {cls:=.type "tuple_iterator",data:=.fields #[.ref l,.int 0 0]}} ->
   (s₂.heap.IsTupleIter s.heap.objs.size l 0/\s₂.heap.IsTuple l its)->(∀b∈[s.heap.objs.size,l],b<s₂.heap.objs.size)->l≠s.heap.objs.size->Q (.ref s.heap.objs.size) s₂):
  wpAny (model prog w) A (pyIter (.ref l)) Q E s:=by
 have hlt:l<s.heap.objs.size:=by obtain⟨_,e,_⟩:=hl;exact qg_ e
 refine wpAny_pyIter_tuple hl (h _ rfl ⟨⟨_,qi_ _ rfl,rfl,rfl⟩,hl.push _⟩ (λb hb=>?_) (qm_ hlt))
 show b<(s.heap.push _).objs.size
 rw[qy_]
 simp only[List.mem_cons,List.not_mem_nil,or_false]at hb
 rcases hb with z|z
 ·rw[z];exact qj2_ _
 ·rw[z];exact qk1_ hlt
theorem zFX{Q:Value->Shared->Prop}(hh:A.handled=none)(hl:s.heap.IsTuple l its)(hi:StrsAre its.toList ss)(hne:0<ss.length)
  (h:∀x t h' tk,x∈ss->(∀y∈ss,x.cps.toList<=y.cps.toList)->(∀b o,s.heap.get? b=some o->h'.get? b=some o)->Q (.str x t) {s with heap:=h',toks:=tk}):
  wpAny (model prog w) A (call (.builtin "min") [.ref l]) Q E s:=by
 have hsz:its.size=ss.length:=by rw[<-qu_,gL hi]
 refine call_min_walk (zAp hl λs₂ e st hfp hlI=>?_)
 subst e
 refine⟨_,_,_,_,_,_,_,rfl,Walks.tuple (A:=A.in1) hh _ l hlI its,st,hfp,by omega,yY (λi=>ss.getD i ⟨#[]⟩) (λi v hv=>gB hi i v (by rw[qr_];exact hv)),λv h' tk hP hk=>?_⟩
 obtain⟨t,rfl⟩:=gB hi _ v (by rw[qr_];exact hP)
 obtain⟨b1,b2⟩:=wB (λi=>(ss.getD i ⟨#[]⟩).cps.toList) (its.size-1)
 refine h _ t h' tk (qB (by omega)) (λy hy=>?_) (λb o e=>hk b o (λz=>by rw[qa1_]at z;subst z;have:=qg_ e;exact qe1_ _ this) (qd_ _ e))
 obtain⟨j,hj,rfl⟩:=pZ hy
 exact b2 j (by omega)
theorem zFZ{Q:Value->Shared->Prop}(hh:A.handled=none)(hl:s.heap.IsTuple l its)(hi:StrsAre its.toList ss)(hne:0<ss.length)
  (h:∀x t h' tk,x∈ss->(∀y∈ss,y.cps.toList<=x.cps.toList)->(∀b o,s.heap.get? b=some o->h'.get? b=some o)->Q (.str x t) {s with heap:=h',toks:=tk}):
  wpAny (model prog w) A (call (.builtin "max") [.ref l]) Q E s:=by
 have hsz:its.size=ss.length:=by rw[<-qu_,gL hi]
 refine call_max_walk (zAp hl λs₂ e st hfp hlI=>?_)
 subst e
 refine⟨_,_,_,_,_,_,_,rfl,Walks.tuple (A:=A.in1) hh _ l hlI its,st,hfp,by omega,yZ (λi=>ss.getD i ⟨#[]⟩) (λi v hv=>gB hi i v (by rw[qr_];exact hv)),λv h' tk hP hk=>?_⟩
 obtain⟨t,rfl⟩:=gB hi _ v (by rw[qr_];exact hP)
 obtain⟨b1,b2⟩:=wC (λi=>(ss.getD i ⟨#[]⟩).cps.toList) (its.size-1)
 refine h _ t h' tk (qB (by omega)) (λy hy=>?_) (λb o e=>hk b o (λz=>by rw[qa1_]at z;subst z;have:=qg_ e;exact qe1_ _ this) (qd_ _ e))
 obtain⟨j,hj,rfl⟩:=pZ hy
 exact b2 j (by omega)
end
section
variable{X:Cx}
theorem zEd(hc:X.calm=true):CallR X (.builtin "min") (λxs H Q=>∃(p:Addr) (ss:List Str),xs=[.ref p]/\SqT X.K H p (ss.map V.str)/\0<ss.length/\∀x,x∈ss->(∀y∈ss,x.cps.toList<=y.cps.toList)->Q (.str x) H):=by
 intro pins s σ H xs us Q I r h
 obtain⟨p,ss,rfl,hq,hn,q⟩:=h
 obtain⟨u,rfl,rx⟩:=cQ r
 cases rx
 obtain⟨its,rv,pl,hz⟩:=I.tuple hq
 refine zFX (I.ok.hd hc) pl (jG rv) hn λx t h' tk h1 h2 hk=>?_
 exact⟨.str _,H,I.kept hk,⟨t,rfl⟩,q _ h1 h2⟩
theorem zEe(hc:X.calm=true):CallR X (.builtin "max") (λxs H Q=>∃(p:Addr) (ss:List Str),xs=[.ref p]/\SqT X.K H p (ss.map V.str)/\0<ss.length/\∀x,x∈ss->(∀y∈ss,y.cps.toList<=x.cps.toList)->Q (.str x) H):=by
 intro pins s σ H xs us Q I r h
 obtain⟨p,ss,rfl,hq,hn,q⟩:=h
 obtain⟨u,rfl,rx⟩:=cQ r
 cases rx
 obtain⟨its,rv,pl,hz⟩:=I.tuple hq
 refine zFZ (I.ok.hd hc) pl (jG rv) hn λx t h' tk h1 h2 hk=>?_
 exact⟨.str _,H,I.kept hk,⟨t,rfl⟩,q _ h1 h2⟩
def zJY:Pn:=λTs Q=>∃(t:Bool) (ss:List Str),Ts=[.seq t (ss.map sT)]/\0<ss.length/\∀x,x∈ss->(∀y∈ss,x.cps.toList<=y.cps.toList)->Q (sT x)
def zJZ:Pn:=λTs Q=>∃(t:Bool) (ss:List Str),Ts=[.seq t (ss.map sT)]/\0<ss.length/\∀x,x∈ss->(∀y∈ss,y.cps.toList<=x.cps.toList)->Q (sT x)
theorem zGY(hc:X.calm=true):gY X (.builtin "min") zJY:=⟨_,(zS hc).or (zEd hc),λxs Ts H Q QQ vx h k=>by
 obtain⟨t,ss,rfl,l,q⟩:=h
 obtain⟨x,rfl,v⟩:=dL vx
 obtain⟨a,ys,rfl,hs,z,p⟩:=v.seqI
 rw[iC p]at hs
 cases t with
 |false=>exact .inl ⟨a,ss,rfl,cP hs,l,λM h1 h2=>k _ _ _ (.flat rfl) (q M h1 h2)⟩
 |true=>exact .inr ⟨a,ss,rfl,hs,l,λM h1 h2=>k _ _ _ (.flat rfl) (q M h1 h2)⟩⟩
theorem zGZ(hc:X.calm=true):gY X (.builtin "max") zJZ:=⟨_,(zT hc).or (zEe hc),λxs Ts H Q QQ vx h k=>by
 obtain⟨t,ss,rfl,l,q⟩:=h
 obtain⟨x,rfl,v⟩:=dL vx
 obtain⟨a,ys,rfl,hs,z,p⟩:=v.seqI
 rw[iC p]at hs
 cases t with
 |false=>exact .inl ⟨a,ss,rfl,cP hs,l,λM h1 h2=>k _ _ _ (.flat rfl) (q M h1 h2)⟩
 |true=>exact .inr ⟨a,ss,rfl,hs,l,λM h1 h2=>k _ _ _ (.flat rfl) (q M h1 h2)⟩⟩
end
end L2
namespace CutM
open RunM GcdM
structure IsR (S:Int->Prop) (r:R3):Prop where
 lo:S r.1
 lo':∀n,S n->r.1<=n
 hi:S r.2.1
 hi':∀n,S n->n<=r.2.1
 nn:0<=r.2.2
 dv:∀d,d ∣ r.2.2↔∀n,S n->d ∣ (n-r.1)
theorem isR_of{ns:List Int}{m M:Int}(h1:m∈ns)(h2:∀x∈ns,m<=x)(h3:M∈ns)(h4:∀x∈ns,x<=M):IsR (·∈ns) (m,M,stepOf m ns):=by
 refine⟨h1,h2,h3,h4,pN (qV1_ 0),λd=>?_⟩
 show d ∣ stepOf m ns↔_
 unfold stepOf
 rw[uP]
 exact⟨λh=>h.2,λh=>⟨qy1_ _,h⟩⟩
theorem IsR.ok{S:Int->Prop}{r:R3}(h:IsR S r):Ok r:=by
 have key:r.2.1=r.1->r.2.2=0:=λe=>by
  have:(0:Int) ∣ r.2.2:=(h.dv 0).mpr λn hn=>by
   have h1:=h.lo' n hn
   have h2:=h.hi' n hn
   rw[show n-r.1=0 by omega]
   exact qy1_ _
  exact Int.zero_dvd.mp this
 refine⟨h.nn,λz=>?_,λz=>⟨?_,(h.dv _).mp (qO2_ _) _ h.hi⟩⟩
 ·have:=(h.dv 0).mp (by rw[z];exact qy1_ _) _ h.hi
  have:=Int.zero_dvd.mp this
  omega
 ·have h1:=h.lo' _ h.hi
  rcases Int.lt_or_le r.1 r.2.1 with q|q
  ·exact q
  ·have:=key (by omega)
   omega
theorem R3.ext{a b:R3}(h1:a.1=b.1)(h2:a.2.1=b.2.1)(h3:a.2.2=b.2.2):a=b:=by
 obtain⟨x,y,z⟩:=a
 obtain⟨x',y',z'⟩:=b
 simp only at h1 h2 h3
 rw[h1,h2,h3]
theorem IsR.unique{S:Int->Prop}{r r':R3}(h:IsR S r)(h':IsR S r'):r=r':=by
 have e1:r.1=r'.1:=by
  have:=h.lo' _ h'.lo
  have:=h'.lo' _ h.lo
  omega
 have e2:r.2.1=r'.2.1:=by
  have:=h.hi' _ h'.hi
  have:=h'.hi' _ h.hi
  omega
 refine R3.ext e1 e2 (qC h.nn h'.nn λd=>?_)
 rw[h.dv,h'.dv,e1]
theorem IsR.congr{S T:Int->Prop}{r:R3}(h:IsR S r)(e:∀n,S n↔T n):IsR T r:=
 ⟨(e _).mp h.lo,λn hn=>h.lo' n ((e n).mpr hn),(e _).mp h.hi,λn hn=>h.hi' n ((e n).mpr hn),h.nn,λd=>(h.dv d).trans ⟨λk n hn=>k n ((e n).mpr hn),λk n hn=>k n ((e n).mp hn)⟩⟩
theorem IsR.join{S T:Int->Prop}{a b:R3}(ha:IsR S a)(hb:IsR T b):IsR (λn=>S n\/T n) (joinR a b):=by
 have s1:Sub a (joinR a b):=zAL
 have s2:Sub b (joinR a b):=zEv
 have l1:=s1.lo
 have l2:=s2.lo
 have l3:=s1.hi
 have l4:=s2.hi
 refine⟨?_,λn hn=>?_,?_,λn hn=>?_,g_nonneg _ _,λd=>?_⟩
 ·show S (if b.1<a.1 then b.1 else a.1)\/T (if b.1<a.1 then b.1 else a.1)
  split
  ·exact .inr hb.lo
  ·exact .inl ha.lo
 ·rcases hn with z|z
  ·have:=ha.lo' n z
   omega
  ·have:=hb.lo' n z
   omega
 ·show S (if b.2.1 > a.2.1 then b.2.1 else a.2.1)\/T (if b.2.1 > a.2.1 then b.2.1 else a.2.1)
  split
  ·exact .inr hb.hi
  ·exact .inl ha.hi
 ·rcases hn with z|z
  ·have:=ha.hi' n z
   omega
  ·have:=hb.hi' n z
   omega
 ·show d ∣ g (g a.2.2 b.2.2) (a.1-b.1)↔_
  rw[g_dvd,g_dvd,ha.dv,hb.dv]
  have el:(joinR a b).1=a.1\/(joinR a b).1=b.1:=by
   show(if b.1<a.1 then b.1 else a.1)=a.1\/(if b.1<a.1 then b.1 else a.1)=b.1
   split
   ·exact .inr rfl
   ·exact .inl rfl
  constructor
  ·rintro⟨⟨h1,h2⟩,h3⟩
   have k1:d ∣ (a.1-(joinR a b).1):=by
    rcases el with e|e<;>rw[e]
    ·rw[ql2_];exact qy1_ _
    ·exact h3
   have k2:d ∣ (b.1-(joinR a b).1):=by
    rcases el with e|e<;>rw[e]
    ·rw[show b.1-a.1 = -(a.1-b.1) by omega];exact Int.dvd_neg.mpr h3
    ·rw[ql2_];exact qy1_ _
   intro n hn
   rcases hn with z|z
   ·have:=qk2_ (h1 n z) k1
    rw[show n-a.1+(a.1-(joinR a b).1)=n-(joinR a b).1 by omega]at this
    exact this
   ·have:=qk2_ (h2 n z) k2
    rw[show n-b.1+(b.1-(joinR a b).1)=n-(joinR a b).1 by omega]at this
    exact this
  ·intro h
   have k1:=h _ (.inl ha.lo)
   have k2:=h _ (.inr hb.lo)
   refine⟨⟨λn hn=>?_,λn hn=>?_⟩,?_⟩
   ·have:=qE1_ (h n (.inl hn)) k1
    rw[show n-(joinR a b).1-(a.1-(joinR a b).1)=n-a.1 by omega]at this
    exact this
   ·have:=qE1_ (h n (.inr hn)) k2
    rw[show n-(joinR a b).1-(b.1-(joinR a b).1)=n-b.1 by omega]at this
    exact this
   ·have:=qE1_ k1 k2
    rw[show a.1-(joinR a b).1-(b.1-(joinR a b).1)=a.1-b.1 by omega]at this
    exact this
end CutM
namespace L2
open PySem PySem.Spec PyProof.Rows WordM
def bL:List Int->Int
 |[]=>0
 |[x]=>x
 |x::y::l=>min x (bL (y::l))
def bQ:List Int->Int
 |[]=>0
 |[x]=>x
 |x::y::l=>max x (bQ (y::l))
theorem iJ:∀{l:List Int},l≠[]->bL l∈l/\∀x∈l,bL l<=x
 |[],h=>absurd rfl h
 |[x],_=>⟨.head _,λy hy=>by rw[qa1_.mp hy];exact qV1_ _⟩
 |x::y::l,_=>by
  obtain⟨a,b⟩:=iJ (l:=y::l) (by simp)
  rw[bL]
  refine⟨?_,λz hz=>?_⟩
  ·by_cases h:x<=bL (y::l)
   ·rw[Int.min_eq_left h];exact .head _
   ·rw[Int.min_eq_right (by omega)];exact .tail _ a
  ·rcases qw_.mp hz with rfl|hz
   ·omega
   ·have:=b z hz;omega
theorem iK:∀{l:List Int},l≠[]->bQ l∈l/\∀x∈l,x<=bQ l
 |[],h=>absurd rfl h
 |[x],_=>⟨.head _,λy hy=>by rw[qa1_.mp hy];exact qV1_ _⟩
 |x::y::l,_=>by
  obtain⟨a,b⟩:=iK (l:=y::l) (by simp)
  rw[bQ]
  refine⟨?_,λz hz=>?_⟩
  ·by_cases h:x<=bQ (y::l)
   ·rw[Int.max_eq_right h];exact .tail _ a
   ·rw[Int.max_eq_left (by omega)];exact .head _
  ·rcases qw_.mp hz with rfl|hz
   ·omega
   ·have:=b z hz;omega
theorem nQ{l:List Int}{m:Int}(h1:m∈l)(h2:∀x∈l,m<=x):bL l=m:=by
 obtain⟨a,b⟩:=iJ (l:=l) (λz=>by rw[z]at h1;exact nomatch h1)
 have:=b m h1
 have:=h2 _ a
 omega
theorem nR{l:List Int}{m:Int}(h1:m∈l)(h2:∀x∈l,x<=m):bQ l=m:=by
 obtain⟨a,b⟩:=iK (l:=l) (λz=>by rw[z]at h1;exact nomatch h1)
 have:=b m h1
 have:=h2 _ a
 omega
theorem zAY{l m:List Int}(hl:l≠[])(hm:m≠[]):bL (l++m)=min (bL l) (bL m):=by
 obtain⟨a,b⟩:=iJ hl
 obtain⟨c,d⟩:=iJ hm
 refine nQ ?_ λx hx=>?_
 ·by_cases h:bL l<=bL m
  ·rw[Int.min_eq_left h];exact qD_ _ a
  ·rw[Int.min_eq_right (by omega)];exact qq_ _ c
 ·rcases qp_.mp hx with hx|hx
  ·have:=b x hx;omega
  ·have:=d x hx;omega
theorem zAZ{l m:List Int}(hl:l≠[])(hm:m≠[]):bQ (l++m)=max (bQ l) (bQ m):=by
 obtain⟨a,b⟩:=iK hl
 obtain⟨c,d⟩:=iK hm
 refine nR ?_ λx hx=>?_
 ·by_cases h:bQ l<=bQ m
  ·rw[Int.max_eq_right h];exact qq_ _ c
  ·rw[Int.max_eq_left (by omega)];exact qD_ _ a
 ·rcases qp_.mp hx with hx|hx
  ·have:=b x hx;omega
  ·have:=d x hx;omega
theorem zAh{l m:List Int}(h:∀x,x∈l↔x∈m):bL l=bL m:=by
 by_cases e:l=[]
 ·subst e
  cases m with
  |nil=>rfl
  |cons x m=>exact nomatch (h x).mpr (.head _)
 ·obtain⟨a,b⟩:=iJ e
  exact(nQ ((h _).mp a) λx hx=>b x ((h x).mpr hx)).symm
theorem zAk{l m:List Int}(h:∀x,x∈l↔x∈m):bQ l=bQ m:=by
 by_cases e:l=[]
 ·subst e
  cases m with
  |nil=>rfl
  |cons x m=>exact nomatch (h x).mpr (.head _)
 ·obtain⟨a,b⟩:=iK e
  exact(nR ((h _).mp a) λx hx=>b x ((h x).mpr hx)).symm
def cZ(ns:List Int):GcdM.R3:=(bL ns,bQ ns,GcdM.stepOf (bL ns) ns)
theorem lF{ns:List Int}(h:ns≠[]):CutM.IsR (·∈ns) (cZ ns):=by
 obtain⟨a,b⟩:=iJ h
 obtain⟨c,d⟩:=iK h
 exact CutM.isR_of a b c d
theorem uQ{ns:List Int}{r:GcdM.R3}(h:CutM.IsR (·∈ns) r):r=cZ ns:=h.unique (lF λz=>by have:=h.lo;rw[z]at this;exact nomatch this)
theorem zD0{ns ms:List Int}(h:∀x,x∈ns↔x∈ms):cZ ns=cZ ms:=by
 by_cases e:ns=[]
 ·subst e
  cases ms with
  |nil=>rfl
  |cons x m=>exact nomatch (h x).mpr (.head _)
 ·exact uQ ((lF e).congr h)
theorem zEE{ns ms:List Int}(h1:ns≠[])(h2:ms≠[]):GcdM.joinR (cZ ns) (cZ ms)=cZ (ns++ms):=
 uQ (((lF h1).join (lF h2)).congr λn=>qp_.symm)
def lcp:List Nat->List Nat->List Nat
 |a::x,b::y=>if a=b then a::lcp x y else []
 |_,_=>[]
theorem zA2:∀x y:List Nat,∃r,x=lcp x y++r
 |[],y=>⟨[],by cases y<;>rfl⟩
 |a::x,[]=>⟨a::x,rfl⟩
 |a::x,b::y=>by
  rw[lcp]
  split
  ·obtain⟨r,e⟩:=zA2 x y;exact⟨r,by rw[qZ1_,<-e]⟩
  ·exact⟨a::x,rfl⟩
theorem zAo:∀x y:List Nat,∃r,y=lcp x y++r
 |[],y=>⟨y,by cases y<;>rfl⟩
 |a::x,[]=>⟨[],rfl⟩
 |a::x,b::y=>by
  rw[lcp]
  split
  ·rename_i h;obtain⟨r,e⟩:=zAo x y;exact⟨r,by rw[qZ1_,<-e,h]⟩
  ·exact⟨b::y,rfl⟩
theorem zBR:∀(h x y r1 r2:List Nat),x=h++r1->y=h++r2->∃r,lcp x y=h++r
 |[],x,y,_,_,_,_=>⟨lcp x y,rfl⟩
 |a::h,x,y,r1,r2,e1,e2=>by
  subst e1 e2
  obtain⟨r,e⟩:=zBR h (h++r1) (h++r2) r1 r2 rfl rfl
  exact⟨r,by rw[qZ1_,qZ1_,lcp,if_pos rfl,e];rfl⟩
structure IsHead (ts:List Str) (hd:Str):Prop where
 all:∀t∈ts,∃r,cs t=cs hd++r
 top:∀h:List Nat,(∀t∈ts,∃r,cs t=h++r)->h.length<=(cs hd).length
theorem zIx{x y:List Nat}{z:List Nat}{r1 r2:List Nat}(e1:z=x++r1)(e2:z=y++r2)(l:x.length<=y.length):∃r,y=x++r:=by
 refine⟨y.drop x.length,?_⟩
 have:y.take x.length=x:=by
  have h1:z.take x.length=x:=by rw[e1,List.take_left]
  have h2:z.take x.length=y.take x.length:=by rw[e2,List.take_append_of_le_length l]
  rw[<-h2,h1]
 exact(qM2_ x.length y).symm.trans (by rw[this])
theorem IsHead.pre{ts:List Str}{hd:Str}(ne:ts≠[])(a:IsHead ts hd){h:List Nat}(k:∀t∈ts,∃r,cs t=h++r):∃r,cs hd=h++r:=by
 obtain⟨t,ht⟩:=qF1_ _ ne
 obtain⟨r1,e1⟩:=k t ht
 obtain⟨r2,e2⟩:=a.all t ht
 exact zIx e1 e2 (a.top h k)
theorem zE2{ts:List Str}{h1 h2:Str}(ne:ts≠[])(a:IsHead ts h1)(b:IsHead ts h2):h1=h2:=by
 obtain⟨t,ht⟩:=qF1_ _ ne
 obtain⟨r1,e1⟩:=a.all t ht
 obtain⟨r2,e2⟩:=b.all t ht
 have l1:=a.top _ b.all
 have l2:=b.top _ a.all
 exact kD (List.append_inj_left (e1.symm.trans e2) (by omega))
theorem IsHead.same{ts us:List Str}{hd:Str}(a:IsHead ts hd)(h:∀x,x∈ts↔x∈us):IsHead us hd:=⟨λt ht=>a.all t ((h t).mpr ht),λk hk=>a.top k λt ht=>hk t ((h t).mp ht)⟩
def eI:List Str->List Nat
 |[]=>[]
 |[t]=>cs t
 |t::u::l=>lcp (cs t) (eI (u::l))
theorem vB:∀{ts:List Str},ts≠[]->IsHead ts ⟨(eI ts).toArray⟩
 |[],h=>absurd rfl h
 |[t],_=>⟨λu hu=>⟨[],by rw[qa1_.mp hu,qQ_];rfl⟩,λh k=>by
  obtain⟨r,e⟩:=k t (.head _)
  show h.length<=(cs t).length
  rw[e,qj_];omega⟩
 |t::u::l,_=>by
  have ih:=vB (ts:=u::l) (by simp)
  have eh:cs ⟨(eI (t::u::l)).toArray⟩=lcp (cs t) (eI (u::l)):=rfl
  have eh':cs ⟨(eI (u::l)).toArray⟩=eI (u::l):=rfl
  refine⟨λx hx=>?_,λh k=>?_⟩
  ·rw[eh]
   rcases qw_.mp hx with rfl|hx
   ·exact zA2 _ _
   ·obtain⟨r,e⟩:=ih.all x hx
    obtain⟨r',e'⟩:=zAo (cs t) (eI (u::l))
    rw[eh']at e
    exact⟨r'++r,by rw[e,<-qK1_,<-e']⟩
  ·obtain⟨r1,e1⟩:=k t (.head _)
   obtain⟨r2,e2⟩:=ih.pre (by simp) λx hx=>k x (.tail _ hx)
   rw[eh']at e2
   obtain⟨r,e⟩:=zBR h _ _ r1 r2 e1 e2
   rw[eh,e,qj_];omega
theorem zGd{A B:List Str}{h1 h2 hd:Str}(n1:A≠[])(n2:B≠[])(a:IsHead A h1)(b:IsHead B h2)(h:IsHead [h1,h2] hd):IsHead (A++B) hd:=by
 obtain⟨r1,e1⟩:=h.all h1 (.head _)
 obtain⟨r2,e2⟩:=h.all h2 (.tail _ (.head _))
 refine⟨λt ht=>?_,λk hk=>h.top k λt ht=>?_⟩
 ·rcases qp_.mp ht with ht|ht
  ·obtain⟨r,e⟩:=a.all t ht
   exact⟨r1++r,by rw[e,e1,qK1_]⟩
  ·obtain⟨r,e⟩:=b.all t ht
   exact⟨r2++r,by rw[e,e2,qK1_]⟩
 ·simp only[List.mem_cons,List.not_mem_nil,or_false]at ht
  rcases ht with rfl|rfl
  ·exact a.pre n1 λx hx=>hk x (qD_ _ hx)
  ·exact b.pre n2 λx hx=>hk x (qq_ _ hx)
def jM(ts:List Str)(hd:Str):List Str:=MK.filter λm=>ts.any λt=>(cs (aV t hd)).any λc=>decide (eP c=m)
theorem mW{ts:List Str}{hd m:Str}:m∈jM ts hd↔∃t∈ts,∃c∈cs (aV t hd),eP c=m:=by
 unfold jM
 rw[qc2_,qL_]
 constructor
 ·rintro⟨_,t,ht,h⟩
  obtain⟨c,hc,e⟩:=qL_.mp h
  exact⟨t,ht,c,hc,qb1_ e⟩
 ·rintro⟨t,ht,c,hc,rfl⟩
  exact⟨mark_in c,t,ht,qL_.mpr ⟨c,hc,qP_ rfl⟩⟩
theorem pK(ts:List Str)(hd:Str):hZ (jM ts hd):=List.Pairwise.sublist List.filter_sublist zHl
structure MOf (ts:List Str) (hd:Str) (lo hi:Int) (ms:List Str):Prop where
 he:IsHead ts hd
 lo1:∃t∈ts,(t.length:Int)-(hd.length:Int)=lo
 lo2:∀t∈ts,lo<=(t.length:Int)-(hd.length:Int)
 hi1:∃t∈ts,(t.length:Int)-(hd.length:Int)=hi
 hi2:∀t∈ts,(t.length:Int)-(hd.length:Int)<=hi
 mks:ms=jM ts hd
theorem mY{xs ys:List Str}(hx:hZ xs)(hy:hZ ys)(h:∀x,x∈xs↔x∈ys):xs=ys:=
 (qK hx hy λx hx=>(h x).mp hx).eq_of_length_le (qK hy hx λx hx=>(h x).mpr hx).length_le
theorem MOf.same{ts us:List Str}{hd:Str}{lo hi:Int}{ms:List Str}(m:MOf ts hd lo hi ms)(h:∀x,x∈ts↔x∈us):MOf us hd lo hi ms:=by
 obtain⟨t1,a1,b1⟩:=m.lo1
 obtain⟨t2,a2,b2⟩:=m.hi1
 refine⟨m.he.same h,⟨t1,(h _).mp a1,b1⟩,λt ht=>m.lo2 t ((h t).mpr ht),⟨t2,(h _).mp a2,b2⟩,λt ht=>m.hi2 t ((h t).mpr ht),?_⟩
 rw[m.mks]
 refine mY (pK _ _) (pK _ _) λx=>?_
 rw[mW,mW]
 exact⟨λ⟨t,ht,z⟩=>⟨t,(h t).mp ht,z⟩,λ⟨t,ht,z⟩=>⟨t,(h t).mpr ht,z⟩⟩
theorem MOf.ne{ts:List Str}{hd:Str}{lo hi:Int}{ms:List Str}(m:MOf ts hd lo hi ms):ts≠[]:=λz=>by
 obtain⟨t,ht,_⟩:=m.lo1
 rw[z]at ht
 exact nomatch ht
theorem MOf.uniq{ts:List Str}{hd hd2:Str}{lo hi lo2 hi2:Int}{ms ms2:List Str}(a:MOf ts hd lo hi ms)(b:MOf ts hd2 lo2 hi2 ms2):hd=hd2/\lo=lo2/\hi=hi2/\ms=ms2:=by
 have e:=zE2 a.ne a.he b.he
 subst e
 obtain⟨t1,a1,b1⟩:=a.lo1
 obtain⟨t2,a2,b2⟩:=a.hi1
 obtain⟨u1,c1,d1⟩:=b.lo1
 obtain⟨u2,c2,d2⟩:=b.hi1
 have x1:=b.lo2 t1 a1
 have x2:=a.lo2 u1 c1
 have x3:=b.hi2 t2 a2
 have x4:=a.hi2 u2 c2
 exact⟨rfl,by omega,by omega,by rw[a.mks,b.mks]⟩
theorem uR{t h1 hd:Str}{r1 r:List Nat}(e1:cs h1=cs hd++r1)(e:cs t=cs h1++r):cs (aV t hd)=cs (aV h1 hd)++cs (aV t h1):=by
 rw[kC e,kC e1,kC (show cs t=cs hd++(r1++r) by rw[e,e1,qK1_])]
theorem zGN{t hd:Str}(h:Sg t){r:List Nat}(e:cs t=cs hd++r):Sg (aV t hd):=λc hc=>by
 rw[kC e]at hc
 exact h c (by rw[e];exact qq_ _ hc)
theorem zD8{x m:Str}(h:Sg x):m∈dE x↔∃c∈cs x,eP c=m:=by
 rw[dE,qc2_,jC,qL_]
 constructor
 ·rintro⟨hm,c,hc,hd⟩
  exact⟨c,hc,(qV (h c hc) m hm).mp (qb1_ hd)⟩
 ·rintro⟨c,hc,rfl⟩
  exact⟨mark_in c,c,hc,qP_ ((qV (h c hc) _ (mark_in c)).mpr rfl)⟩
noncomputable def jnM(ms ms':List Str):List Str:=aW (aH (ms++ms'))
theorem MOf.shorter{A:List Str}{h1 hd:Str}{lo hi:Int}{ms:List Str}(a:MOf A h1 lo hi ms)(sg:Sg h1){r1:List Nat}(e1:cs h1=cs hd++r1):
  (∃t∈A,(t.length:Int)-(hd.length:Int)=lo+(aV h1 hd).length)/\(∀t∈A,lo+(aV h1 hd).length<=(t.length:Int)-(hd.length:Int))/\(∃t∈A,(t.length:Int)-(hd.length:Int)=hi+(aV h1 hd).length)/\(∀t∈A,(t.length:Int)-(hd.length:Int)<=hi+(aV h1 hd).length)/\∀m,m∈jnM ms (dE (aV h1 hd))↔∃t∈A,∃c∈cs (aV t hd),eP c=m:=by
 have el:(h1.length:Int)=hd.length+(aV h1 hd).length:=by
  rw[WordM.len h1,WordM.len hd,WordM.len (aV h1 hd),kC e1,e1,qj_];push_cast;rfl
 obtain⟨t1,a1,b1⟩:=a.lo1
 obtain⟨t2,a2,b2⟩:=a.hi1
 refine⟨⟨t1,a1,by omega⟩,λt ht=>by have:=a.lo2 t ht;omega,⟨t2,a2,by omega⟩,λt ht=>by have:=a.hi2 t ht;omega,λm=>?_⟩
 unfold jnM
 rw[sort_set_mem,qp_,a.mks,mW,zD8 (zGN sg e1)]
 constructor
 ·rintro (⟨t,ht,c,hc,e⟩|⟨c,hc,e⟩)
  ·obtain⟨r,er⟩:=a.he.all t ht
   exact⟨t,ht,c,by rw[uR e1 er];exact qq_ _ hc,e⟩
  ·obtain⟨r,er⟩:=a.he.all t1 a1
   exact⟨t1,a1,c,by rw[uR e1 er];exact qD_ _ hc,e⟩
 ·rintro⟨t,ht,c,hc,e⟩
  obtain⟨r,er⟩:=a.he.all t ht
  rw[uR e1 er]at hc
  rcases qp_.mp hc with hc|hc
  ·exact .inr ⟨c,hc,e⟩
  ·exact .inl ⟨t,ht,c,hc,e⟩
theorem MOf.app{A B:List Str}{h1 h2 hd:Str}{lo1 hi1 lo2 hi2:Int}{ms1 ms2:List Str}(a:MOf A h1 lo1 hi1 ms1)(b:MOf B h2 lo2 hi2 ms2)(s1:Sg h1)(s2:Sg h2)(h:IsHead [h1,h2] hd):
  MOf (A++B) hd (min (lo1+(aV h1 hd).length) (lo2+(aV h2 hd).length)) (max (hi1+(aV h1 hd).length) (hi2+(aV h2 hd).length)) (jnM (jnM ms1 (dE (aV h1 hd))) (jnM ms2 (dE (aV h2 hd)))):=by
 obtain⟨r1,e1⟩:=h.all h1 (.head _)
 obtain⟨r2,e2⟩:=h.all h2 (.tail _ (.head _))
 obtain⟨⟨t1,p1,q1⟩,x1,⟨u1,p2,q2⟩,y1,m1⟩:=a.shorter s1 e1
 obtain⟨⟨t2,p3,q3⟩,x2,⟨u2,p4,q4⟩,y2,m2⟩:=b.shorter s2 e2
 generalize lo1+((aV h1 hd).length:Int)=l1 at *
 generalize hi1+((aV h1 hd).length:Int)=g1 at *
 generalize lo2+((aV h2 hd).length:Int)=l2 at *
 generalize hi2+((aV h2 hd).length:Int)=g2 at *
 refine⟨zGd a.ne b.ne a.he b.he h,?_,λt ht=>?_,?_,λt ht=>?_,?_⟩
 ·by_cases z:l1<=l2
  ·exact⟨t1,qD_ _ p1,by omega⟩
  ·exact⟨t2,qq_ _ p3,by omega⟩
 ·rcases qp_.mp ht with ht|ht
  ·have:=x1 t ht;omega
  ·have:=x2 t ht;omega
 ·by_cases z:g1<=g2
  ·exact⟨u2,qq_ _ p4,by omega⟩
  ·exact⟨u1,qD_ _ p2,by omega⟩
 ·rcases qp_.mp ht with ht|ht
  ·have:=y1 t ht;omega
  ·have:=y2 t ht;omega
 ·refine mY (fX _) (pK _ _) λm=>?_
  have jm:m∈jnM (jnM ms1 (dE (aV h1 hd))) (jnM ms2 (dE (aV h2 hd)))↔m∈jnM ms1 (dE (aV h1 hd))++jnM ms2 (dE (aV h2 hd)):=sort_set_mem
  rw[jm,qp_,m1,m2,mW]
  constructor
  ·rintro (⟨t,ht,z⟩|⟨t,ht,z⟩)
   ·exact⟨t,qD_ _ ht,z⟩
   ·exact⟨t,qq_ _ ht,z⟩
  ·rintro⟨t,ht,z⟩
   rcases qp_.mp ht with ht|ht
   ·exact .inl ⟨t,ht,z⟩
   ·exact .inr ⟨t,ht,z⟩
def WOf(ts:List Str):Wd->Prop
 |.few ss=>ss=aW (aH ts)/\(aH ts).length<7
 |.make hd lo hi ms=>7<=(aH ts).length/\MOf ts hd lo hi ms
theorem lE{ts us:List Str}(h:∀x,x∈ts↔x∈us):(aH ts).length=(aH us).length/\aW (aH ts)=aW (aH us):=by
 have p:(aH ts).Perm (aH us):=(qX1_ (cX _) (cX _)).mpr λx=>by rw[cO,cO,h]
 exact⟨p.length_eq,mY (fX _) (fX _) λx=>by rw[sort_set_mem,sort_set_mem,h]⟩
theorem WOf.same{ts us:List Str}(h:∀x,x∈ts↔x∈us):∀{W:Wd},WOf ts W->WOf us W
 |.few ss,w=>⟨by rw[<-(lE h).2];exact w.1,by rw[<-(lE h).1];exact w.2⟩
 |.make ..,w=>⟨by rw[<-(lE h).1];exact w.1,w.2.same h⟩
theorem WOf.uniq{ts:List Str}:∀{W W2:Wd},WOf ts W->WOf ts W2->W=W2
 |.few ss,.few ss2,a,b=>by rw[a.1,b.1]
 |.few ss,.make ..,a,b=>by have:=a.2;have:=b.1;omega
 |.make ..,.few ss,a,b=>by have:=a.1;have:=b.2;omega
 |.make ..,.make ..,a,b=>by
  obtain⟨e1,e2,e3,e4⟩:=a.2.uniq b.2
  rw[e1,e2,e3,e4]
def eR(ts:List Str):Wd:=
 .make ⟨(eI ts).toArray⟩ (bL (ts.map λt=>(t.length:Int)-((⟨(eI ts).toArray⟩:Str).length:Int))) (bQ (ts.map λt=>(t.length:Int)-((⟨(eI ts).toArray⟩:Str).length:Int))) (jM ts ⟨(eI ts).toArray⟩)
theorem iI{ts:List Str}(h:ts≠[]):∃hd lo hi ms,eR ts=.make hd lo hi ms/\MOf ts hd lo hi ms:=by
 refine⟨_,_,_,_,rfl,vB h,?_,λt ht=>?_,?_,λt ht=>?_,rfl⟩
 ·obtain⟨t,ht,e⟩:=qf_.mp (iJ (l:=ts.map λt=>(t.length:Int)-((⟨(eI ts).toArray⟩:Str).length:Int)) (by simpa using h)).1
  exact⟨t,ht,e⟩
 ·exact(iJ (l:=ts.map λt=>(t.length:Int)-((⟨(eI ts).toArray⟩:Str).length:Int)) (by simpa using h)).2 _ (qf_.mpr ⟨t,ht,rfl⟩)
 ·obtain⟨t,ht,e⟩:=qf_.mp (iK (l:=ts.map λt=>(t.length:Int)-((⟨(eI ts).toArray⟩:Str).length:Int)) (by simpa using h)).1
  exact⟨t,ht,e⟩
 ·exact(iK (l:=ts.map λt=>(t.length:Int)-((⟨(eI ts).toArray⟩:Str).length:Int)) (by simpa using h)).2 _ (qf_.mpr ⟨t,ht,rfl⟩)
noncomputable def bO(ts:List Str):Wd:=if (aH ts).length<7 then .few (aW (aH ts)) else eR ts
theorem zBl{ts:List Str}(h:ts≠[]):WOf ts (bO ts):=by
 unfold bO
 split
 ·rename_i z;exact⟨rfl,z⟩
 ·obtain⟨hd,lo,hi,ms,e,m⟩:=iI h
  rw[e]
  exact⟨by omega,m⟩
theorem zGx{ts:List Str}(h:ts≠[]){W:Wd}(w:WOf ts W):W=bO ts:=w.uniq (zBl h)
theorem lC{ts us:List Str}(h:∀x,x∈ts↔x∈us):bO ts=bO us:=by
 by_cases e:ts=[]
 ·subst e
  cases us with
  |nil=>rfl
  |cons x m=>exact nomatch (h x).mpr (.head _)
 ·have ne:us≠[]:=λz=>by
   obtain⟨x,hx⟩:=qF1_ _ e
   have:=(h x).mp hx
   rw[z]at this
   exact nomatch this
  exact zGx ne ((zBl e).same h)
end L2
namespace L2
open PySem PySem.Spec PyProof.Rows WordM
def kN6:List Nat:=[0,1,2,3,4,5]
def mJ(f:List Pt)(k:Nat):Option Pt:=f.find? λp=>decide (fG p=k)
def dB(vs:List Tv):Bool:=vs.any λv=>dG v==0
def asB:Tv->Option Bool
 |.leaf (.bl b)=>some b
 |_=>none
def asI:Tv->Option Int
 |.leaf (.int i)=>some i
 |_=>none
def asS:Tv->Option Str
 |.leaf (.str s)=>some s
 |_=>none
def asL:Tv->Option (List Tv)
 |.seq false xs=>some xs
 |_=>none
def asD:Tv->Option (List (Str×Tv))
 |.dct k=>some k
 |_=>none
theorem zHB{v:Tv}{b:Str}:asS v=some b↔v=.leaf (.str b):=by
 cases v with
 |leaf x=>cases x<;>simp[asS]
 |seq t xs=>simp[asS]
 |dct k=>simp[asS]
theorem zHC{v:Tv}{b:List Tv}:asL v=some b↔v=.seq false b:=by
 cases v with
 |leaf x=>cases x<;>simp[asL]
 |seq t xs=>cases t<;>simp[asL]
 |dct k=>simp[asL]
theorem zHD{v:Tv}{b:List (Str×Tv)}:asD v=some b↔v=.dct b:=by
 cases v with
 |leaf x=>cases x<;>simp[asD]
 |seq t xs=>simp[asD]
 |dct k=>simp[asD]
def aO(ks:List (List (Str×Tv))):List Str:=ks.flatMap λk=>k.map (·.1)
def dJ(ks:List (List (Str×Tv))):List Tv:=ks.flatMap λk=>k.map (·.2)
def atK(n:Str)(ks:List (List (Str×Tv))):List Tv:=ks.filterMap λk=>bS k n
def dH(ls:List (List Tv)):List Int:=ls.map λl=>((l.length:Nat):Int)
def bI(ks:List (List (Str×Tv))):List Int:=ks.map λl=>((l.length:Nat):Int)
abbrev FdT:=Str×Bool×List Pt
noncomputable def cV(D:List Tv->List Pt)(ks:List (List (Str×Tv)))(n:Str):FdT:=(n,ks.all (λk=>decide (n∈k.map (·.1))),D (atK n ks))
noncomputable def dcP(D:List Tv->List Pt)(ks:List (List (Str×Tv))):Pt:=
 if (aH (aO ks)).length<=8 then .record (bL (bI ks)) (bQ (bI ks)) ((aW (aH (aO ks))).map (cV D ks)) else .table (bL (bI ks)) (bQ (bI ks)) (bO (aO ks)) (D (dJ ks))
noncomputable def bH(D:List Tv->List Pt)(vs:List Tv):Nat->Option Pt
 |0=>if dB vs=true then some .nothing else none
 |1=>if vs.filterMap asB=[] then none else some (.truths (usB (inF (vs.filterMap asB)) (inT (vs.filterMap asB))))
 |2=>if vs.filterMap asI=[] then none else some (.numbers (cZ (vs.filterMap asI)).1 (cZ (vs.filterMap asI)).2.1 (cZ (vs.filterMap asI)).2.2)
 |3=>if vs.filterMap asS=[] then none else some (.texts (bO (vs.filterMap asS)))
 |4=>if vs.filterMap asL=[] then none else some (.lists (bL (dH (vs.filterMap asL))) (bQ (dH (vs.filterMap asL))) (D (vs.filterMap asL).flatten))
 |5=>if vs.filterMap asD=[] then none else some (dcP D (vs.filterMap asD))
 |_=>none
noncomputable def bM:Nat->List Tv->List Pt
 |0,_=>[]
 |n+1,vs=>kN6.filterMap (bH (bM n) vs)
theorem zE9{D:List Tv->List Pt}{vs:List Tv}{k:Nat}{p:Pt}(h:bH D vs k=some p):fG p=k:=by
 unfold bH at h
 split at h
 all_goals first|(cases h;done)|skip
 all_goals
  split at h
  all_goals first|(cases h;done)|skip
 all_goals first|(cases h;rfl;done)|skip
 ·cases h
  unfold dcP
  split<;>rfl
theorem zBY{o:Nat->Option Pt}(ho:∀k p,o k=some p->fG p=k):∀(l:List Nat) (k:Nat),k∈l->l.Nodup->mJ (l.filterMap o) k=o k
 |[],k,h,_=>nomatch h
 |j::l,k,h,n=>by
  have hn:=qG1_.mp n
  rw[qH_]
  by_cases z:j=k
  ·subst z
   cases e:o j with
   |none=>
    dsimp only
    have:mJ (l.filterMap o) j=none:=by
     unfold mJ
     rw[qi3_]
     intro p hp hk
     obtain⟨i,hi,ei⟩:=qd1_.mp hp
     have:=ho i p ei
     have hk:=qb1_ hk
     rw[this]at hk
     subst hk
     exact hn.1 hi
    rw[this]
   |some p=>
    dsimp only
    unfold mJ
    rw[qD1_,qP_ (ho j p e)]
  ·have hk:k∈l:=by
    rcases qw_.mp h with q|q
    ·exact absurd q.symm z
    ·exact q
   have ih:=zBY ho l k hk hn.2
   cases e:o j with
   |none=>exact ih
   |some p=>
    dsimp only
    unfold mJ
    rw[qD1_,qF_ (λq=>z (by rw[<-ho j p e];exact q))]
    exact ih
theorem nS{α:Type}{f:Tv->Option α}{A B:List Tv}(h:∀v,v∈A↔v∈B)(x:α):x∈A.filterMap f↔x∈B.filterMap f:=by
 rw[qd1_,qd1_]
 exact⟨λ⟨a,ha,e⟩=>⟨a,(h a).mp ha,e⟩,λ⟨a,ha,e⟩=>⟨a,(h a).mpr ha,e⟩⟩
theorem nH{α:Type}{A B:List α}(h:∀v,v∈A↔v∈B):(A=[])=(B=[]):=by
 rw[eq_iff_iff,qY1_,qY1_]
 exact⟨λk a ha=>k a ((h a).mpr ha),λk a ha=>k a ((h a).mp ha)⟩
theorem vF{α:Type}{p:α->Bool}{A B:List α}(h:∀v,v∈A↔v∈B):A.any p=B.any p:=by
 rw[qx1_,qL_,qL_]
 exact⟨λ⟨a,ha,e⟩=>⟨a,(h a).mp ha,e⟩,λ⟨a,ha,e⟩=>⟨a,(h a).mpr ha,e⟩⟩
theorem zGu{α:Type}{p:α->Bool}{A B:List α}(h:∀v,v∈A↔v∈B):A.all p=B.all p:=by
 rw[qx1_,qM1_,qM1_]
 exact⟨λk a ha=>k a ((h a).mpr ha),λk a ha=>k a ((h a).mp ha)⟩
theorem qM{α β:Type}{f:α->β}{A B:List α}(h:∀v,v∈A↔v∈B)(x:β):x∈A.map f↔x∈B.map f:=by
 rw[qf_,qf_]
 exact⟨λ⟨a,ha,e⟩=>⟨a,(h a).mp ha,e⟩,λ⟨a,ha,e⟩=>⟨a,(h a).mpr ha,e⟩⟩
theorem yP{α β:Type}{f:α->List β}{A B:List α}(h:∀v,v∈A↔v∈B)(x:β):x∈A.flatMap f↔x∈B.flatMap f:=by
 rw[qr1_,qr1_]
 exact⟨λ⟨a,ha,e⟩=>⟨a,(h a).mp ha,e⟩,λ⟨a,ha,e⟩=>⟨a,(h a).mpr ha,e⟩⟩
theorem zGm{D:List Tv->List Pt}(hD:∀A B:List Tv,(∀v,v∈A↔v∈B)->D A=D B){ks js:List (List (Str×Tv))}(h:∀v,v∈ks↔v∈js):dcP D ks=dcP D js:=by
 have hn:∀x,x∈aO ks↔x∈aO js:=yP h
 have e1:bL (bI ks)=bL (bI js):=zAh (qM h)
 have e2:bQ (bI ks)=bQ (bI js):=zAk (qM h)
 have e3:cV D ks=cV D js:=by
  funext n
  unfold cV
  rw[zGu h,hD (atK n ks) (atK n js) λv=>by
   unfold atK
   rw[qd1_,qd1_]
   exact⟨λ⟨a,ha,e⟩=>⟨a,(h a).mp ha,e⟩,λ⟨a,ha,e⟩=>⟨a,(h a).mpr ha,e⟩⟩]
 unfold dcP
 rw[(lE hn).1,(lE hn).2,e1,e2,e3,lC hn,hD (dJ ks) (dJ js) (yP h)]
theorem zE8{D:List Tv->List Pt}(hD:∀A B:List Tv,(∀v,v∈A↔v∈B)->D A=D B){A B:List Tv}(h:∀v,v∈A↔v∈B)(k:Nat):bH D A k=bH D B k:=by
 unfold bH
 split
 ·rw[show dB A=dB B from vF h]
 ·have hb:=nS (f:=asB) h
  simp only[nH hb]
  rw[show inF (A.filterMap asB)=inF (B.filterMap asB) from vF hb,show inT (A.filterMap asB)=inT (B.filterMap asB) from vF hb]
 ·have hb:=nS (f:=asI) h
  simp only[nH hb]
  rw[zD0 hb]
 ·have hb:=nS (f:=asS) h
  simp only[nH hb]
  rw[lC hb]
 ·have hb:=nS (f:=asL) h
  simp only[nH hb]
  have e1:bL (dH (A.filterMap asL))=bL (dH (B.filterMap asL)):=zAh (qM hb)
  have e2:bQ (dH (A.filterMap asL))=bQ (dH (B.filterMap asL)):=zAk (qM hb)
  rw[e1,e2,hD (A.filterMap asL).flatten (B.filterMap asL).flatten λv=>by
   rw[qs1_,qs1_]
   exact⟨λ⟨l,hl,e⟩=>⟨l,(hb l).mp hl,e⟩,λ⟨l,hl,e⟩=>⟨l,(hb l).mpr hl,e⟩⟩]
 ·have hb:=nS (f:=asD) h
  simp only[nH hb]
  rw[zGm hD hb]
 ·rfl
theorem uJ:∀(n:Nat) (A B:List Tv),(∀v,v∈A↔v∈B)->bM n A=bM n B
 |0,_,_,_=>rfl
 |n+1,A,B,h=>by
  show kN6.filterMap (bH (bM n) A)=kN6.filterMap (bH (bM n) B)
  rw[show bH (bM n) A=bH (bM n) B from funext (zE8 (uJ n) h)]
theorem zGk(n:Nat):bM n []=[]:=by
 cases n with
 |zero=>rfl
 |succ n=>rfl
end L2
namespace My
open PySem L2 PyProof.Rows WordM
def top(i:Nat):Stmt:=PySem.Challenge.pw_leastform_k40_forms_of_values.main.body.getD i (.Pass ⟨0,0,0,0⟩)
abbrev s0_:Stmt:=top 4
abbrev s1_:Stmt:=top 6
abbrev s2_:Stmt:=top 7
abbrev s3_:Stmt:=top 8
abbrev s4_:Stmt:=top 9
abbrev s5_:Stmt:=top 14
abbrev s6_:Stmt:=top 15
abbrev s7_:Stmt:=top 16
abbrev s8_:Stmt:=top 17
abbrev s9_:Stmt:=top 18
abbrev xP:Stmt:=top 19
abbrev xO:Stmt:=top 20
abbrev xN:Stmt:=top 21
abbrev xM:Stmt:=top 22
abbrev xL:Stmt:=top 23
abbrev xK:Stmt:=top 28
abbrev xJ:Stmt:=top 29
abbrev sS:Stmt:=top 30
abbrev sR:Stmt:=top 32
abbrev mQ:Stmt:=top 33
abbrev sQ:Stmt:=top 34
abbrev sP:Stmt:=top 35
abbrev sO:Stmt:=top 36
abbrev pC:Stmt:=top 37
abbrev pB:Stmt:=top 38
abbrev sM:Stmt:=top 39
abbrev pA:Stmt:=top 40
abbrev oZ:Stmt:=top 41
abbrev oY:Stmt:=top 42
abbrev oX:Stmt:=top 43
abbrev mP:Stmt:=top 44
abbrev mO:Stmt:=top 45
abbrev oW:Stmt:=top 46
abbrev xI:Stmt:=top 48
abbrev xH:Stmt:=top 49
abbrev xG:Stmt:=top 50
abbrev xF:Stmt:=top 51
abbrev xE:Stmt:=top 52
abbrev xD:Stmt:=top 53
abbrev xC:Stmt:=top 54
abbrev sL:Stmt:=top 55
abbrev xB:Stmt:=top 56
abbrev xA:Stmt:=top 57
abbrev sK:Stmt:=top 58
abbrev oV:Stmt:=top 59
abbrev oU:Stmt:=top 61
abbrev mN:Stmt:=top 62
abbrev wZ:Stmt:=top 63
abbrev wY:Stmt:=top 64
abbrev kQ:Stmt:=top 65
abbrev wX:Stmt:=top 66
abbrev kP:Stmt:=top 67
abbrev gJ:Stmt:=top 68
abbrev sJ:Stmt:=top 69
abbrev iZ:Stmt:=top 70
section
variable{P:Program}{w:World}{K:W.Frag}{mg:Str->Option Value}{base:Heap}
theorem _root_.L2.On.put{p c:Addr}{H:Hp}(d:DeckAt H p c)(S k:Int):On p c H (upd H p (.lst [.ref c,.int S,.int k])):=by
 obtain⟨ns,e',l⟩:=d.cs
 exact⟨⟨d.ne,⟨S,k,bB⟩,ns,by rw[bK d.ne.symm];exact e',l⟩,λb o h hp _=>by rw[bK hp];exact h⟩
theorem _root_.L2.On.cut{p c:Addr}{H:Hp}(d:DeckAt H p c)(ns:List Int)(h:ns.length<=64):On p c H (upd H c (.lst (ns.map V.int))):=by
 obtain⟨S,k,e⟩:=d.dk
 exact⟨⟨d.ne,⟨S,k,by rw[bK d.ne];exact e⟩,ns,bB,h⟩,λb o h _ hc=>by rw[bK hc];exact h⟩
theorem zE4(ns:List Int):(ns.map V.int).all dI=true:=by
 rw[List.all_map]
 exact qM1_.mpr λ_ _=>rfl
theorem zGg(ns:List Int):fU (ns.map V.int) []=ns.isEmpty:=by cases ns<;>rfl
theorem sc_mixed:bA ["_law_number_here","_law_k"] ["_law_number_here","_law_k"] (aN xI):=fsc (by decide +kernel)
theorem zHs(h:Has K mg "_law_mixed" xI):Good P w K mg base 1 "_law_mixed" ["_law_number_here","_law_k"] zBu:=by
 refine h.good sc_mixed (fun|_,_,_,_,_,_,[_,_],_=>rfl) (λvs H Q E q=>?_) (λf cdv A outer s H vs Q E hr q=>?_)
 ·obtain⟨n,k,rfl,_⟩:=q
  rfl
 ·obtain⟨n,k,rfl,q⟩:=q
  have nd:=sc_mixed.nd
  refine⟨_,(gM (jO (i:=0) nd rfl (by first|exact Or.inl rfl|exact Or.inr rfl) (cN iS (cN op_mul (cN op_add (cN op_add (cN iS (pv 0) cM) (cN op_mul cM (pv 1))) cM) cM) cM))
   (gM (jO (i:=0) nd rfl (by first|exact Or.inl rfl|exact Or.inr rfl) (cN iS (cN op_add (cN op_add (cN op_mul (pv 0) (pv 0)) (cN op_mul cM (pv 1))) cM) cM))
   (lN (lX (cN zBJ (cN iS (cN op_mul (cN op_add (cN op_mul (cN iS (pv 0) cM) cM) (cN zBJ (pv 0) cM)) cM) cM) cM))))),?_⟩
  refine⟨_,rfl,_,_,rfl,rfl,(by show(0:Int)<_;decide),_,rfl,_,_,rfl,rfl,.inl ⟨by decide,by decide⟩,_,_,rfl,rfl,_,_,rfl,rfl,_,_,rfl,rfl,.inr ⟨by decide,by decide⟩,_,_,rfl,rfl,(by show(0:Int)<_;decide),?_⟩
  refine⟨_,rfl,_,rfl,_,_,rfl,rfl,?c,_,rfl,_,_,rfl,rfl,.inl ⟨by decide,by decide⟩,_,_,rfl,rfl,_,_,rfl,rfl,_,_,rfl,rfl,(by show(0:Int)<_;decide),?_⟩
  case c=>
   refine .inl ⟨?_,?_⟩
   ·exact Int.lt_of_lt_of_le (by decide) (qC1_ _ (by decide))
   ·exact Int.lt_trans (qB1_ _ (by decide)) (by decide)
  refine⟨_,rfl,_,_,rfl,rfl,(by show(0:Int)<_;decide),_,_,rfl,rfl,.inr ⟨by decide,by decide⟩,_,rfl,_,_,rfl,rfl,⟨by decide,by decide⟩,_,_,rfl,rfl,_,_,rfl,rfl,.inr ⟨by decide,by decide⟩,_,_,rfl,rfl,(by show(0:Int)<_;decide),_,_,rfl,rfl,⟨by decide,by decide⟩,?_⟩
  exact q _
theorem sc_deck:bA ["_law_script","_law_cells"] ["_law_script"] (aN xH):=fsc (by decide +kernel)
theorem zKn(ns:List Int):fV (ns.map V.int) none (some 63)=(ns.take 63).map V.int:=by
 unfold fV
 have e1:HT.sIx (ns.map V.int).length 0 none=0:=rfl
 rw[e1,qy2_,Nat.sub_zero,List.map_take]
 by_cases h:ns.length<=63
 ·rw[qs2_ (by simp[HT.sIx]<;>omega),qs2_ (by simpa using h)]
 ·congr 1
  simp[HT.sIx]<;>omega
theorem zJg(h:Has K mg "_law_deck" xH)(B:Own mg):Good P w K mg base 1 "_law_deck" ["_law_script"] (zCd K):=by
 refine h.good sc_deck (fun|_,_,_,_,_,_,[_],_=>rfl) (λvs H Q E q=>?_) (λf cdv A outer s H vs Q E hr q=>?_)
 ·obtain⟨a,ns,rfl,_⟩:=q
  rfl
 ·obtain⟨a,ns,rfl,hS,q⟩:=q
  have nd:=sc_deck.nd
  refine⟨_,(gM (jO (i:=1) nd rfl (by first|exact Or.inl rfl|exact Or.inr rfl) (gA yR rfl B.list_ boot_list (cT (zAS sl_list (pv 0) zBD (zBC cM)) dD)))
   (lN (lX (@zBH _ _ _ _ (@xQ _ _ _ _ _ (zIF (pv 1) (zCH zB8 cM)) (@xQ _ _ _ _ _ (cN op_add (iE (zFd rfl) rfl B.sum boot_sum (cT (pv 1) dD)) (cN op_mul cM (iE call_len_seq rfl B.len qo_ (cT (pv 1) dD)))) (@xQ _ _ _ _ _ cM zCi rfl) rfl) rfl))))),?_⟩
  refine⟨_,rfl,_,rfl,a,_,rfl,hS,λl1 h1=>?_⟩
  have e1:upd H l1 (.lst (fV (ns.map V.int) none (some 63)))=upd H l1 (.lst ((ns.take 63).map V.int)):=by rw[zKn]
  rw[e1]
  refine⟨l1,_,rfl,.inl (SqL.of bB),λl2 h2=>?_⟩
  refine⟨_,rfl,_,rfl,rfl,l2,_,rfl,SqL.of bB,λl3 h3=>?_⟩
  have n23:l2≠l3:=dP bB h3
  refine⟨_,rfl,l2,ns.take 63,rfl,SqL.of (by rw[bK n23];exact bB),_,rfl,l2,_,rfl,.inl (SqL.of (by rw[bK n23];exact bB)),_,_,rfl,rfl,.inl ⟨by decide,by decide⟩,_,_,rfl,rfl,(by show 3<=sizeLine;decide),λl4 h4=>?_⟩
  have n34:l3≠l4:=dP bB h4
  have f1:∀b o,H b=some o->upd H l1 (.lst ((ns.take 63).map V.int)) b=some o:=λb o e=>by rw[bK (dP e h1)];exact e
  have s1:Same H (upd H l1 (.lst ((ns.take 63).map V.int))):=f1
  have s2:Same H (upd (upd H l1 (.lst ((ns.take 63).map V.int))) l2 (.lst ((ns.take 63).map V.int))):=λb o e=>by rw[bK (dP (s1 b o e) h2)];exact s1 b o e
  have s3:Same H (upd (upd (upd H l1 (.lst ((ns.take 63).map V.int))) l2 (.lst ((ns.take 63).map V.int))) l3 (.lst ((ns.take 63).map V.int).reverse)):=λb o e=>by rw[bK (dP (s2 b o e) h3)];exact s2 b o e
  refine q l4 l3 _ (s3.free h4) (s2.free h3) ⟨n34.symm,⟨_,_,bB⟩,(ns.take 63).reverse,?_,?_⟩ λb o e=>?_
  ·rw[bK n34,bB,List.map_reverse]
  ·rw[qb3_,qR_];omega
  ·rw[bK (dP (s3 b o e) h4)];exact s3 b o e
theorem sc_take:bA ["_law_deck_here","_law_most","_law_cell"] ["_law_deck_here","_law_most"] (aN xG):=fsc (by decide +kernel)
theorem zJf(h:Has K mg "_law_take" xG)(G33_:Good P w K mg base 1 "_law_mixed" ["_law_number_here","_law_k"] zBu):Good P w K mg base 2 "_law_take" ["_law_deck_here","_law_most"] zCc:=by
 refine h.good sc_take (fun|_,_,_,_,_,_,[_,_],_=>rfl) (λvs H Q E q=>?_) (λf cdv A outer s H vs Q E hr q=>?_)
 ·obtain⟨p,c,m,rfl,_⟩:=q
  rfl
 ·obtain⟨p,c,m,rfl,d,hm,hB,q⟩:=q
  have nd:=sc_take.nd
  have hu:=Nat.lt_of_succ_lt (oQ hr)
  obtain⟨hne,⟨S,k,hp⟩,ns,hc,hl⟩:=id d
  refine⟨_,(gM (zIw (cN op_add (iX ix_list (pv 0) cM (λ_ _=>rfl)) cM) (zIA (pv 0) cM zFE))
   (gM (wT (vM (zIU hu) (iX ix_list (pv 0) cM (λ_ _=>rfl)) (@zBH _ _ _ _ zCi) (lY _))
    (lN (lX (cN iS (rV G33_ (hr.mono (by first|decide|omega)) rfl (cT (iX ix_list (pv 0) cM (λ_ _=>rfl)) (cT (iX ix_list (pv 0) cM (λ_ _=>rfl)) dD))) (pv 1))))
    vQ)
   (gM (jO (i:=2) nd rfl (by first|exact Or.inl rfl|exact Or.inr rfl) (zIJ PySem.F.plainAttrs_list PySem.F.slot_list_pop PySem.F.type_list_pop zIY (iX ix_list (pv 0) cM (λ_ _=>rfl))))
   (gM (wT (vM op_lt (pv 2) (cN zCo cM cM) (lY _))
    (lN (lX (cN iS (rV G33_ (hr.mono (by first|decide|omega)) rfl (cT (pv 2) (cT (iX ix_list (pv 0) cM (λ_ _=>rfl)) dD))) (pv 1))))
    vQ)
   (gM (zBB (oP PySem.F.plainAttrs_list PySem.F.slot_list_append PySem.F.type_list_append uG (iX ix_list (pv 0) cM (λ_ _=>rfl)) (cT (cN zAV (pv 2) (pv 1)) dD)))
   (lN (lX (cN iS (pv 2) (pv 1))))))))),?_⟩
  -- deck[2]=deck[2]+1
  refine⟨_,rfl,p,_,_,_,rfl,rfl,SqL.of hp,rfl,_,_,rfl,rfl,_,rfl,p,_,_,2,rfl,rfl,hp,rfl,?_⟩
  have o1:On p c H (upd H p (.lst [.ref c,.int S,.int (k+1)])):=On.put d S (k+1)
  have hc1:upd H p (.lst [.ref c,.int S,.int (k+1)]) c=some (.lst (ns.map V.int)):=by rw[bK hne.symm];exact hc
  -- if deck[0]==[]
  refine⟨_,rfl,p,_,_,_,rfl,rfl,SqL.of bB,rfl,qs_ _,λl hfree=>?_⟩
  have npl:p≠l:=(o1.d.nep hfree).symm
  have ncl:c≠l:=(o1.d.nec hfree).symm
  have o2:=o1.alloc (o:=.lst []) hfree
  have hp2:upd (upd H p (.lst [.ref c,.int S,.int (k+1)])) l (.lst []) p=some (.lst [.ref c,.int S,.int (k+1)]):=by rw[bK npl];exact bB
  have hc2:upd (upd H p (.lst [.ref c,.int S,.int (k+1)])) l (.lst []) c=some (.lst (ns.map V.int)):=by rw[bK ncl];exact hc1
  refine⟨c,l,_,[],rfl,rfl,SqL.of hc2,SqL.of bB,zE4 ns,rfl,_,rfl,?_⟩
  rw[show(if false=true then !fU (ns.map V.int) [] else fU (ns.map V.int) [])=ns.isEmpty from zGg ns]
  have fin:∀r H',On p c H H'->Q (.int (r % m)) H':=λr H' o=>q (r % m) H' (qC1_ _ (by omega)) (qB1_ _ hm) o
  rcases List.eq_nil_or_concat ns with e|⟨init,z,e⟩
  ·subst e
   refine bX ?_
   refine⟨_,rfl,p,_,_,_,rfl,rfl,SqL.of hp2,rfl,_,rfl,p,_,_,_,rfl,rfl,SqL.of hp2,rfl,_,_,rfl,λr=>?_⟩
   exact⟨_,rfl,_,_,rfl,rfl,hm,fin r _ o2⟩
  ·rw[List.concat_eq_append]at e
   subst e
   rw[show(init++[z]).isEmpty=false by simp]
   refine aR ?_
   have hlast:((init++[z]).map V.int)[((init++[z]).map V.int).length-1]?=some (.int z):=by simp
   have hdrop:((init++[z]).map V.int).dropLast=init.map V.int:=by simp
   -- cell=deck[0].pop()
   refine⟨_,rfl,p,_,_,_,rfl,rfl,SqL.of hp2,rfl,.inl ⟨rfl,_,SqL.of hc2⟩,c,_,_,rfl,rfl,hc2,hlast,?_⟩
   rw[hdrop]
   have hli:init.length<=63:=by rw[qj_,qL1_]at hl;omega
   have o3:=o2.trans (On.cut o2.d init (by omega))
   have hp3:upd (upd (upd H p (.lst [.ref c,.int S,.int (k+1)])) l (.lst [])) c (.lst (init.map V.int)) p=some (.lst [.ref c,.int S,.int (k+1)]):=by rw[bK hne];exact hp2
   -- if cell<10 ** 18
   refine⟨_,rfl,_,_,rfl,rfl,⟨by decide,by decide,by decide⟩,_,_,rfl,rfl,_,rfl,?_⟩
   refine zK4 (λ_=>?_) (λ_=>?_)
   ·refine⟨_,rfl,_,rfl,p,_,_,_,rfl,rfl,SqL.of hp3,rfl,_,_,rfl,λr=>?_⟩
    exact⟨_,rfl,_,_,rfl,rfl,hm,fin r _ o3⟩
   ·refine⟨_,rfl,p,_,_,_,rfl,rfl,SqL.of hp3,rfl,.inl ⟨rfl,_,SqL.of bB⟩,_,rfl,_,rfl,_,_,rfl,rfl,⟨hm,hB⟩,c,_,_,rfl,rfl,bB,zEx (by rw[qc_];omega),?_⟩
    rw[show init.map V.int++[V.int (z / m)]=(init++[z / m]).map V.int by simp]
    have o4:=o3.trans (On.cut o3.d (init++[z / m]) (by rw[qj_,qL1_];omega))
    exact⟨_,rfl,_,rfl,_,_,rfl,rfl,hm,fin z _ o4⟩
end
end My
namespace My
open PySem L2 PyProof.Rows WordM
section
variable{P:Program}{w:World}{K:W.Frag}{mg:Str->Option Value}{base:Heap}
def qT:PSp:=λas R=>as=[]/\R (sT SIG)
theorem C36_:bA ["_law_signs_here"] [] (aN xF):=fsc (by decide +kernel)
theorem zLp(h:Has K mg "_law_signs" xF)(B:Own mg)    : PGood P w K mg base 1 "_law_signs" [] qT:=by
 have nd:=C36_.nd
 refine h.pgood C36_ (fun|_,_,_,_,_,_,[],_=>rfl) (λf cdv A outer s H E F hr=>
   (aI (aZ 0 nd aY)
   (aJ (aQ (bN cY (aC 0) aY))))) (λas R q=>?_)
 obtain⟨rfl,q⟩:=q
 exact⟨rfl,show sigA.length+sigB.length<=100000 by decide +kernel,q⟩
def rF:PSp:=λas R=>∃m:Int,as=[.dk,.va (iT m)]/\0<=m/\m<=1000/\∀x:Str,Sg x->(x.length:Int)<=m->R (sT x)
theorem zJm{z:Str}{r:Int}(h0:0<=r)(h1:r<z.length):∃c,atI z.cps.toList r=some c/\c∈cs z:=by
 have hl:r.toNat<(cs z).length:=by rw[<-WordM.len];omega
 refine⟨(cs z)[r.toNat],?_,qN1_ hl⟩
 have:=bG (xs:=cs z) (j:=r.toNat) (qk_ hl)
 rw[show((r.toNat:Nat):Int)=r by omega]at this
 exact this
theorem kR{α:Type}{l:List α}{r:Int}(h0:0<=r)(h1:r<l.length):∃m,atI l r=some m/\m∈l:=by
 have hl:r.toNat<l.length:=by omega
 refine⟨l[r.toNat],?_,qN1_ hl⟩
 have:=bG (xs:=l) (j:=r.toNat) (qk_ hl)
 rw[show((r.toNat:Nat):Int)=r by omega]at this
 exact this
theorem C37_:bA ["_law_deck_here","_law_most","_law_signs_here","_law_some","_law_text_here","_law_k"] ["_law_deck_here","_law_most"] (aN xE):=fsc (by decide +kernel)
theorem zLo(h:Has K mg "_law_text" xE)(B:Own mg)(G36_:PGood P w K mg base 1 "_law_signs" [] qT)(G35_:PGood P w K mg base 2 "_law_take" ["_law_deck_here","_law_most"] fP)   : PGood P w K mg base 3 "_law_text" ["_law_deck_here","_law_most"] rF:=by
 have nd:=C37_.nd
 refine h.pgood C37_ (fun|_,_,_,_,_,_,[_,_],_=>rfl) (λf cdv A outer s H E F hr=>
   (aI (aZ 2 nd (zB9 G36_ (hr.mono (by omega)) rfl))
   (aI (aZ 3 nd (aT hr (bF (cH (aD (aC 2) (aD (aC 2) (aD aY (aD aY (aD aY (aD aY aE)))))))) (aL G35_ hr (bW 0 (aD aG aE)))))
   (aI (aZ 4 nd aY)
   (aI (dX (m:=6) qG_ rfl (jI rfl B.range (aD (aL G35_ hr (bW 0 (aD (bN cY (aC 1) aG) aE))) aE)) (dC 5 (by decide) nd rfl (.inl rfl))
    (aJ (aZ 4 nd (bN cY (aC 4) (aT hr (aC 3) (aL G35_ hr (bW 0 (aD (bE cF rfl B.len qo_ (aD (aC 3) aE)) aE))))))))
   (aJ (aQ (aC 4)))))))) (λas R q=>?_)
 obtain⟨m,rfl,m0,m1,q⟩:=q
 refine⟨rfl,rfl,?_⟩
 refine⟨by decide,rfl,6,rfl,by decide,cK (by decide) (by decide),λr r0 r6=>?_⟩
 obtain⟨z,hz,hzm⟩:=kR (l:=[sT SIG,sT SIG,sT "0123456789",sT "abc",sT "XYZ",sT "a1"]) r0 r6
 refine⟨z,hz,?_⟩
 have hzs:∃y,z=sT y/\Sg y/\0<y.length/\y.length<=100:=by
  simp only[List.mem_cons,List.not_mem_nil,or_false]at hzm
  rcases hzm with e|e|e|e|e|e<;>subst e
  ·exact⟨_,rfl,λ_ h=>h,by decide +kernel,by decide +kernel⟩
  ·exact⟨_,rfl,λ_ h=>h,by decide +kernel,by decide +kernel⟩
  ·exact⟨_,rfl,by decide +kernel,by decide +kernel,by decide +kernel⟩
  ·exact⟨_,rfl,by decide +kernel,by decide +kernel,by decide +kernel⟩
  ·exact⟨_,rfl,by decide +kernel,by decide +kernel,by decide +kernel⟩
  ·exact⟨_,rfl,by decide +kernel,by decide +kernel,by decide +kernel⟩
 clear hz hzm
 obtain⟨y,rfl,y1,y2,y3⟩:=hzs
 refine⟨rfl,m+1,rfl,by omega,cK (by omega) (by omega),λn n0 n1=>⟨n,rfl,by omega,by omega,?_⟩⟩
 refine jL (λi ρ=>∃(x:Str) (s:Sl),Sg x/\x.length=i/\ρ=[.dk,.va (iT m),.va (sT SIG),.va (sT y),.va (sT x),s]) ⟨⟨#[]⟩,.no,zH9,rfl,rfl⟩ ?_ ?_
 ·rintro i T _ N hT ⟨x,s,sx,lx,rfl⟩ hN
  have hi:=(nF hT).1
  refine⟨rfl,by omega,?_⟩
  refine⟨y.length,rfl,by omega,cK (by omega) (by omega),λk k0 k1=>⟨by omega,?_⟩⟩
  obtain⟨c,hc,hcm⟩:=zJm (z:=y) k0 k1
  refine⟨c,hc,by show x.length+1<=100000;omega,hN _ ⟨x++⟨#[c]⟩,_,sx.app (y1.one hcm),?_,rfl⟩⟩
  rw[WordM.len,WordM.app,qj_,<-WordM.len,lx]
  rfl
 ·rintro _ ⟨x,s,sx,lx,rfl⟩
  refine q x sx ?_
  rw[lx,kB]
  omega
end
section
variable{P:Program}{w:World}{K:W.Frag}{mg:Str->Option Value}{base:Heap}
theorem zH8(a:Int):Sg ⟨#[fF a]⟩:=λcc hc=>by
 have e:cc=fF a:=by simpa using hc
 rw[e]
 exact zEA _
def zDd(m:Int)(ss:List Str):Prop:=ss.Nodup/\∀s∈ss,Sg s/\(s.length:Int)<=(if m<1 then 1 else m)
def uS:PSp:=λas R=>∃n m:Int,as=[.dk,.va (iT n),.va (iT m)]/\0<=n/\n<=63/\0<=m/\m<=1000/\∀ss:List Str,(ss.length:Int)=n->zDd m ss->R (.seq false (ss.map sT))
theorem C38_:bA ["_law_deck_here","_law_many","_law_most","_law_signs_here","_law_found","_law_k","_law_text_here","_law_at"] ["_law_deck_here","_law_many","_law_most"] (aN xD):=fsc (by decide +kernel)
theorem zLn(h:Has K mg "_law_unlike" xD)(B:Own mg)(G36_:PGood P w K mg base 1 "_law_signs" [] qT)(G37_:PGood P w K mg base 3 "_law_text" ["_law_deck_here","_law_most"] rF)   : PGood P w K mg base 4 "_law_unlike" ["_law_deck_here","_law_many","_law_most"] uS:=by
 have nd:=C38_.nd
 refine h.pgood C38_ (fun|_,_,_,_,_,_,[_,_,_],_=>rfl) (λf cdv A outer s H E F hr=>
   (aI (aZ 3 nd (zB9 G36_ (hr.mono (by omega)) rfl))
   (aI (hJ 4 nd (cH aE))
   (aI (dX (m:=8) qG_ rfl (jI rfl B.range (aD (aC 1) aE)) (dC 5 (by decide) nd rfl (.inl rfl))
    (aI (aZ 6 nd (aL G37_ hr (bW 0 (aD (aC 2) aE))))
    (aI (aZ 7 nd (rC PySem.F.slot_str_find PySem.F.type_str_find zG2 (aC 3) (aD (iD iW (aC 6) iH (iG aG)) aE)))
    (aI (nD qG_ (zGG λF=>(dF (mE hr.units) (aC 6) (aC 4) rfl))
     (aI (aZ 7 nd (bN wI (bN cY (aC 7) aG) (bE cF rfl B.len qo_ (aD (aC 3) aE))))
     (aJ (aZ 6 nd (bN cY (aT hr (aC 3) (aC 7)) (iD iW (aC 6) (iG aG) iH))))))
    (aJ (eO (fZ 4 (aC 6))))))))
   (aJ (aQ (aC 4))))))) (λas R q=>?_)
 obtain⟨n,m,rfl,n0,n63,m0,m1,q⟩:=q
 have hsl:SIG.length=94:=vK
 refine⟨rfl,rfl,by decide,n,rfl,by omega,by omega,?_⟩
 refine jL (λi ρ=>∃(ss:List Str) (s5 s6 s7:Sl),ss.length=i/\zDd m ss/\ρ=[.dk,.va (iT n),.va (iT m),.va (sT SIG),.own (ss.map sT),s5,s6,s7]) ⟨[],.no,.no,.no,rfl,⟨qT1_,λs hs=>nomatch hs⟩,rfl⟩ ?_ ?_
 ·rintro i T _ N hT ⟨ss,s5,s6,s7,hlen,htx,rfl⟩ hN
  obtain⟨hi,rfl⟩:=nF hT
  refine⟨rfl,m,rfl,m0,m1,λx0 sx0 hx0=>?_⟩
  refine⟨rfl,1,rfl,by omega,SIG,_,rfl,rfl,λa0=>?_⟩
  let r:Str:=Txt.slice x0 (some 1) none
  have hr1:r.length+1<=(if x0.length<1 then 1 else x0.length):=zDZ x0
  have sr:Sg r:=sx0.slice _ _
  refine⟨λM ρ=>∃(j:Nat) (x:Str),M+j=ss.length+2/\j<=ss.length+1/\(∀i,1<=i->i<j->fH a0 r i∈ss)/\(j=0/\x=x0\/1<=j/\x=fH a0 r j) /\
    ρ=[.dk,.va (iT n),.va (iT m),.va (sT SIG),.own (ss.map sT),.va (iT (0+(i:Int))),.va (sT x),.va (iT (if j=0 then a0 else(a0+j) % 94))],
   ⟨ss.length+2,0,x0,rfl,qs_ _,λi h1 h2=>absurd h2 (qh3_ _),.inl ⟨rfl,rfl⟩,rfl⟩,?_⟩
  rintro M _ ⟨j,x,hM,hj,htr,hx,rfl⟩
  have hxl:Sg x/\(x.length:Int)<=(if m<1 then 1 else m)/\Txt.slice x (some 1) none=r:=by
   rcases hx with⟨_,rfl⟩|⟨_,rfl⟩
   ·refine⟨sx0,?_,rfl⟩
    split<;>omega
   ·refine⟨Sg.app (zH8 _) sr,?_,zDY⟩
    have:(fH a0 r j).length=r.length+1:=by
     unfold fH
     rw[WordM.len,WordM.app,WordM.len,qj_]
     simp
     omega
    rw[this]
    split at hr1<;>split<;>omega
  obtain⟨sx,hxm,hxr⟩:=hxl
  have hx1000:x.length<=1000:=by split at hxm<;>omega
  refine⟨zF9,_,rfl,?_⟩
  rw[zHG]
  refine sif (λh1=>?_) (λh1=>?_)
  ·have h1:x∈ss:=by simpa using h1
   have hall:∀i,1<=i->i<=j->fH a0 r i∈ss:=λi i1 i2=>by
    rcases qz2_ i2 with z|z
    ·exact htr i i1 z
    ·rcases hx with⟨z0,_⟩|⟨_,e⟩
     ·omega
     ·rw[z,<-e];exact h1
   have hjs:j<=ss.length:=zFA (by omega) hall
   have hmod:((if j=0 then a0 else(a0+(j:Int)) % 94)+1) % 94=(a0+((j+1:Nat):Int)) % 94:=by
    split
    ·rename_i z;subst z;congr 1
    ·push_cast;omega
   have hsl':((SIG.length:Nat):Int)=94:=by rw[hsl];rfl
   have e1:((if j=0 then a0 else(a0+(j:Int)) % 94)+1) % ((SIG.length:Nat):Int)=(a0+((j+1:Nat):Int)) % 94:=by rw[hsl',hmod]
   have hat:atI SIG.cps.toList (((if j=0 then a0 else(a0+(j:Int)) % 94)+1) % ((SIG.length:Nat):Int))=some (fF (a0+((j+1:Nat):Int))):=by
    rw[e1]
    have b1:=qB1_ (a0+((j+1:Nat):Int)) (show(0:Int)<94 by decide)
    have b2:=qC1_ (a0+((j+1:Nat):Int)) (show(94:Int)≠0 by decide)
    have hlt:((a0+((j+1:Nat):Int)) % 94).toNat<(cs SIG).length:=by rw[<-WordM.len];omega
    have:=bG (xs:=cs SIG) (j:=((a0+((j+1:Nat):Int)) % 94).toNat) (qk_ hlt)
    rw[show((((a0+((j+1:Nat):Int)) % 94).toNat:Nat):Int)=(a0+((j+1:Nat):Int)) % 94 by omega]at this
    rw[this]
    unfold fF
    rw[qV_,qk_ hlt]
    rfl
   refine⟨by omega,by omega,by omega,_,hat,1,rfl,by omega,?_,?_⟩
   ·show 1+(Txt.slice x (some 1) none).length<=100000
    rw[hxr]
    split at hr1<;>omega
   ·refine⟨ss.length+2-(j+1),by omega,j+1,fH a0 r (j+1),by omega,by omega,λi i1 i2=>hall i i1 (by omega),.inr ⟨by omega,rfl⟩,?_⟩
    show [Sl.dk,.va (iT n),.va (iT m),.va (sT SIG),.own (ss.map sT),.va (iT (0+(i:Int))),.va (sT ((⟨#[fF (a0+((j+1:Nat):Int))]⟩:Str)++Txt.slice x (some 1) none)),.va (iT (((if j=0 then a0 else(a0+(j:Int)) % 94)+1) % ((SIG.length:Nat):Int)))]=_
    rw[e1,if_neg (by omega),hxr]
    rfl
  ·have h1:x∉ss:=by simpa using h1
   refine⟨⟨_,rfl⟩,_,rfl,by rw[qc_];omega,hN _ ⟨ss++[x],.va (iT (0+(i:Int))),.va (sT x),.va (iT (if j=0 then a0 else(a0+j) % 94)),by rw[qj_,hlen];rfl,⟨?_,λs hs=>?_⟩,?_⟩⟩
   ·rw[qw2_]
    exact⟨htx.1,by simp,λa ha b hb=>by rw[List.mem_singleton]at hb;subst hb;rintro rfl;exact h1 ha⟩
   ·rcases qp_.mp hs with z|z
    ·exact htx.2 s z
    ·rw[qa1_]at z;subst z;exact⟨sx,hxm⟩
   ·rw[qJ_];rfl
 ·rintro _ ⟨ss,s5,s6,s7,hlen,htx,rfl⟩
  rw[kB]at hlen
  exact q ss (by omega) htx
def rT:PSp:=λas R=>as=[.dk]/\∀r:Int,-(10 ^ 60)<r->r<10 ^ 60->R (iT r)
theorem C39_:bA ["_law_deck_here","_law_number_here","_law_k"] ["_law_deck_here"] (aN xC):=fsc (by decide +kernel)
theorem zLm(h:Has K mg "_law_far" xC)(B:Own mg)(G35_:PGood P w K mg base 2 "_law_take" ["_law_deck_here","_law_most"] fP)   : PGood P w K mg base 3 "_law_far" ["_law_deck_here"] rT:=by
 have nd:=C39_.nd
 refine h.pgood C39_ (fun|_,_,_,_,_,_,[_],_=>rfl) (λf cdv A outer s H E F hr=>
   (aI (aZ 1 nd aG)
   (aI (dX (m:=3) qG_ rfl (jI rfl B.range (aD aG aE)) (dC 2 (by decide) nd rfl (.inl rfl))
    (aJ (aZ 1 nd (bN cY (bN qS (aC 1) (bN oD aG aG)) (aL G35_ hr (bW 0 (aD (bN oD aG aG) aE)))))))
   (aJ (aQ (bN cY (bN iR (bN wI (aC 1) (bN iR (bN qS aG (bN oD aG aG)) aG)) (bN oD aG aG)) aG)))))) (λas R q=>?_)
 obtain⟨rfl,q⟩:=q
 refine⟨rfl,8,rfl,by decide,by decide,?_⟩
 refine jL (λi ρ=>∃(x:Int) (s:Sl),0<=x/\x<10 ^ (8*i)/\ρ=[.dk,.va (iT x),s]) ⟨0,.no,by decide,by decide,rfl⟩ ?_ ?_
 ·rintro i T _ N hT ⟨x,s,x0,x1,rfl⟩ hN
  obtain⟨hi,rfl⟩:=nF hT
  have hi:i<8:=hi
  have xb:x<10 ^ 64:=Int.lt_of_lt_of_le x1 (by
   have:i=0\/i=1\/i=2\/i=3\/i=4\/i=5\/i=6\/i=7:=by omega
   rcases this with e|e|e|e|e|e|e|e<;>subst e<;>decide)
  refine⟨⟨by decide,by decide,by decide⟩,.inr ⟨cK (by omega) (by omega),cK (by decide) (by decide)⟩,rfl,⟨by decide,by decide,by decide⟩,10 ^ 8,rfl,by decide,cK (by decide) (by decide),λr r0 r1=>hN _ ⟨_,_,?_,?_,rfl⟩⟩
  ·show 0<=x*(10 ^ 8:Int)+r
   omega
  ·show x*(10 ^ 8:Int)+r<10 ^ (8*(i+1))
   have e:(10:Int) ^ (8*(i+1))=10 ^ (8*i)*10 ^ 8:=by rw[Nat.mul_add,Int.pow_add]
   rw[e]
   have h8:r<(10:Int) ^ 8:=r1
   generalize (10:Int) ^ (8*i)=y at x1
   omega
 ·rintro _ ⟨x,s,x0,x1,rfl⟩
  refine⟨⟨by decide,by decide,by decide⟩,.inl (.inl ⟨by decide,by decide⟩),(show(0:Int)<2*10 ^ 60-1 by decide),⟨by decide,by decide,by decide⟩,?_⟩
  have h1:=qC1_ x (show(2*10 ^ 60-1:Int)≠0 by decide)
  have h2:=qB1_ x (show(0:Int)<2*10 ^ 60-1 by decide)
  refine q _ ?_ ?_
  ·show -(10 ^ 60)<x % (2*10 ^ 60-1)-10 ^ 60+1
   omega
  ·show x % (2*10 ^ 60-1)-10 ^ 60+1<10 ^ 60
   omega
end
section
variable{P:Program}{w:World}{K:W.Frag}{mg:Str->Option Value}{base:Heap}
structure fM (nm tx:List Str) (st sp:Int):Prop where
 n11:nm.length=11
 t9:tx.length=9
 nd:nm.Nodup
 ndt:tx.Nodup
 ns:∀s∈nm,Sg s/\s.length<=40
 ts:∀s∈tx,Sg s/\s.length<=43
 st1:-(10 ^ 57)<=st
 st2:st<=10 ^ 57
 sp1:1<=sp
 sp2:sp<=10 ^ 20
def fN(nm tx:List Str)(st sp:Int):Tv:=.seq false [.seq false (nm.map sT),.seq false (tx.map sT),iT st,iT sp]
def vN:PSp:=λas R=>as=[.dk]/\∀nm tx st sp,fM nm tx st sp->R (fN nm tx st sp)
theorem zHF{a b c:Str}(h:a++b=a++c):b=c:=by
 have:=congrArg cs h
 rw[WordM.app,WordM.app]at this
 exact kD (List.append_cancel_left this)
theorem C40_:bA ["_law_deck_here","_law_most","_law_names","_law_head","_law_texts","_law_start"] ["_law_deck_here"] (aN sL):=fsc (by decide +kernel)
theorem zLl(h:Has K mg "_law_world" sL)(B:Own mg)(G35_:PGood P w K mg base 2 "_law_take" ["_law_deck_here","_law_most"] fP)(G38_:PGood P w K mg base 4 "_law_unlike" ["_law_deck_here","_law_many","_law_most"] uS)(G37_:PGood P w K mg base 3 "_law_text" ["_law_deck_here","_law_most"] rF)(G39_:PGood P w K mg base 3 "_law_far" ["_law_deck_here"] rT)   : PGood P w K mg base 5 "_law_world" ["_law_deck_here"] vN:=by
 have nd:=C40_.nd
 refine h.pgood C40_ (fun|_,_,_,_,_,_,[_],_=>rfl) (λf cdv A outer s H E F hr=>
   (aI (aZ 1 nd (aT hr (bF (cH (aD aG (aD aG (aD aG (aD aG (aD aG (aD aG (aD aG (aD aG aE)))))))))) (aL G35_ hr (bW 0 (aD aG aE)))))
   (aI (aZ 2 nd (aL G38_ hr (bW 0 (aD aG (aD (aC 1) aE)))))
   (aI (aZ 3 nd (aL G37_ hr (bW 0 (aD (bN qS aG (aL G35_ hr (bW 0 (aD aG aE)))) aE))))
   (aI (fQ (sc:=aN sL) (XN:=["_law_deck_here","_law_most","_law_names","_law_head","_law_texts","_law_start"]) (N:=["_law_text_here","_law_head"]) (fr:=[3]) 4 nd (bY (aL G38_ hr (bW 0 (aD aG (aD (aC 1) aE))))) (λ_ _ _ _ _=>iO) (λ_ _ _ _ _=>(bN cY (aC 1) (aC 0))))
   (aI (aZ 5 nd (aT hr (bF (cH (aD aG (aD aG (aD (zCB zCj aG) (aD (bN zBy (aL G39_ hr (bW 0 aE)) aG) aE)))))) (aL G35_ hr (bW 0 (aD aG aE)))))
   (aJ (aQ (bF (cH (aD (aC 2) (aD (aC 4) (aD (aC 5) (aD (bN cY aG (aL G35_ hr (bW 0 (aD (aT hr (bF (cH (aD aG (aD (bN oD aG aG) aE)))) (aL G35_ hr (bW 0 (aD aG aE)))) aE)))) aE)))))))))))))) (λas R q=>?_)
 obtain⟨rfl,q⟩:=q
 refine⟨rfl,by decide,rfl,8,rfl,by decide,cK (by decide) (by decide),λr r0 r1=>?_⟩
 obtain⟨M,hM,hMm⟩:=kR (l:=[iT 4,iT 3,iT 5,iT 1,iT 4,iT 3,iT 6,iT 40]) r0 r1
 have hm:∃m:Int,M=iT m/\1<=m/\m<=40:=by
  simp only[List.mem_cons,List.not_mem_nil,or_false]at hMm
  rcases hMm with e|e|e|e|e|e|e|e<;>subst e<;>exact⟨_,rfl,by decide,by decide⟩
 obtain⟨m,rfl,m1,m2⟩:=hm
 refine⟨_,hM,?_⟩
 clear hM hMm
 refine⟨rfl,11,m,rfl,by decide,by decide,by omega,by omega,λnm hnm tnm=>?_⟩
 refine⟨rfl,rfl,2,rfl,by decide,cK (by decide) (by decide),λr2 a0 a1=>⟨.inl (.inl ⟨by decide,by decide⟩),_,rfl,by omega,by omega,λhd shd lhd=>?_⟩⟩
 refine⟨rfl,9,m,rfl,by decide,by decide,by omega,by omega,λtx htx ttx=>⟨by rw[qc_];omega,?_⟩⟩
 have lt:∀s∈tx,Sg s/\s.length<=40:=λs hs=>by
  have:=ttx.2 s hs
  refine⟨this.1,?_⟩
  have:=this.2
  split at this<;>omega
 refine dR sT (λs=>sT (hd++s)) (λs hs R q=>?_) ?_
 ·have:=(lt s hs).2
  exact⟨show hd.length+s.length<=100000 by omega,q⟩
 refine⟨rfl,rfl,λfr fr0 fr1=>⟨⟨by decide,cK (by decide) (by decide)⟩,(show 4<=100000 by decide),rfl,4,rfl,by decide,cK (by decide) (by decide),λr3 b0 b1=>?_⟩⟩
 obtain⟨S,hS,hSm⟩:=kR (l:=[iT 0,iT 7,iT (-40),iT (fr / 1000)]) b0 b1
 have hs:∃st:Int,S=iT st /\ -(10 ^ 57)<=st/\st<=10 ^ 57:=by
  simp only[List.mem_cons,List.not_mem_nil,or_false]at hSm
  rcases hSm with e|e|e|e<;>subst e
  ·exact⟨_,rfl,by decide,by decide⟩
  ·exact⟨_,rfl,by decide,by decide⟩
  ·exact⟨_,rfl,by decide,by decide⟩
  ·exact⟨_,rfl,by omega,by omega⟩
 obtain⟨st,rfl,st1,st2⟩:=hs
 refine⟨_,hS,?_⟩
 clear hS hSm
 refine⟨rfl,⟨by decide,by decide,by decide⟩,by decide,rfl,2,rfl,by decide,cK (by decide) (by decide),λr4 c0 c1=>?_⟩
 obtain⟨W,hW,hWm⟩:=kR (l:=[iT 6,iT (10 ^ 20)]) c0 c1
 have hw:∃wi:Int,W=iT wi/\1<=wi/\wi<=10 ^ 20:=by
  simp only[List.mem_cons,List.not_mem_nil,or_false]at hWm
  rcases hWm with e|e<;>subst e<;>exact⟨_,rfl,by decide,by decide⟩
 obtain⟨wi,rfl,w1,w2⟩:=hw
 refine⟨_,hW,wi,rfl,by omega,cK (by omega) (by omega),λsp sp0 sp1=>⟨(show 4<=100000 by decide),?_⟩⟩
 have:=q nm (tx.map λs=>hd++s) st (1+sp) ⟨by omega,by rw[qc_];omega,tnm.1,?_,λs hs=>?_,λs hs=>?_,st1,st2,by omega,by omega⟩
 ·show R (.seq false [.seq false (nm.map sT),.seq false (tx.map λs=>sT (hd++s)),iT st,iT (1+sp)])
  rw[fN,qz_]at this
  exact this
 ·unfold List.Nodup
  rw[qv2_]
  exact ttx.1.imp λh e=>h (zHF e)
 ·have:=tnm.2 s hs
  refine⟨this.1,?_⟩
  have:=this.2
  split at this<;>omega
 ·obtain⟨z,hz,rfl⟩:=qf_.mp hs
  refine⟨shd.app (lt z hz).1,?_⟩
  rw[WordM.len,WordM.app,qj_,<-WordM.len,<-WordM.len]
  have:=(lt z hz).2
  omega
def yE(n:Int):Prop:=-(10 ^ 60)<n/\n<10 ^ 60
def uU:PSp:=λas R=>∃nm tx st sp,as=[.dk,.va (fN nm tx st sp)]/\fM nm tx st sp/\∀n:Int,yE n->R (iT n)
theorem zIX{a b:Int}(h1:1<=a)(h2:a<=10 ^ 20)(h3:-100<=b)(h4:b<=100):-(10 ^ 22)<=a*b/\a*b<=10 ^ 22:=by
 have e1:a*b<=a*100:=qs3_ h4 (by omega)
 have e2:a*(-100)<=a*b:=qs3_ h3 (by omega)
 omega
theorem C41_:bA ["_law_deck_here","_law_world_here","_law_way"] ["_law_deck_here","_law_world_here"] (aN xB):=fsc (by decide +kernel)
theorem zLk(h:Has K mg "_law_number" xB)(B:Own mg)(G35_:PGood P w K mg base 2 "_law_take" ["_law_deck_here","_law_most"] fP)(G39_:PGood P w K mg base 3 "_law_far" ["_law_deck_here"] rT)   : PGood P w K mg base 4 "_law_number" ["_law_deck_here","_law_world_here"] uU:=by
 have nd:=C41_.nd
 refine h.pgood C41_ (fun|_,_,_,_,_,_,[_,_],_=>rfl) (λf cdv A outer s H E F hr=>
   (aI (aZ 2 nd (aL G35_ hr (bW 0 (aD aG aE))))
   (aI (bD (cC hr (aC 2) aG)
    (aJ (aQ (bN iR (aL G35_ hr (bW 0 (aD aG aE))) aG)))
    bC)
   (aI (bD (cC hr (aC 2) aG)
    (aJ (aQ (aL G39_ hr (bW 0 aE))))
    bC)
   (aJ (aQ (bN cY (aT hr (aC 1) aG) (bN qS (aT hr (aC 1) aG) (bN iR (aL G35_ hr (bW 0 (aD aG aE))) aG))))))))) (λas R q=>?_)
 obtain⟨nm,tx,st,sp,rfl,hw,q⟩:=q
 obtain⟨_,_,_,_,_,_,st1,st2,sp1,sp2⟩:=hw
 refine⟨rfl,rfl,6,rfl,by decide,cK (by decide) (by decide),λr r0 r1=>?_⟩
 refine⟨_,rfl,sif (λ_=>⟨rfl,9,rfl,by decide,cK (by decide) (by decide),λk k0 k1=>q _ ⟨by omega,by omega⟩⟩) (λ_=>?_)⟩
 refine⟨_,rfl,sif (λ_=>⟨rfl,rfl,λk k0 k1=>q _ ⟨k0,k1⟩⟩) (λ_=>?_)⟩
 refine⟨_,rfl,_,rfl,rfl,12,rfl,by decide,cK (by decide) (by decide),λk k0 k1=>⟨.inr ⟨cK (by omega) (by omega),cK (by omega) (by omega)⟩,q _ ?_⟩⟩
 have:=zIX (b:=k-4) sp1 sp2 (by omega) (by omega)
 exact⟨by show _<st+sp*(k-4);omega,by show st+sp*(k-4)<_;omega⟩
def wV(tx:List Str):Tv->Prop
 |.leaf .non=>True
 |.leaf (.bl _)=>True
 |.leaf (.int n)=>yE n
 |.leaf (.str s)=>s∈tx
 |_=>False
def oG:PSp:=λas R=>∃nm tx st sp,as=[.dk,.va (fN nm tx st sp)]/\fM nm tx st sp/\∀T,wV tx T->R T
theorem C42_:bA ["_law_deck_here","_law_world_here","_law_way"] ["_law_deck_here","_law_world_here"] (aN xA):=fsc (by decide +kernel)
theorem zLj(h:Has K mg "_law_leaf" xA)(B:Own mg)(G35_:PGood P w K mg base 2 "_law_take" ["_law_deck_here","_law_most"] fP)(G41_:PGood P w K mg base 4 "_law_number" ["_law_deck_here","_law_world_here"] uU)   : PGood P w K mg base 5 "_law_leaf" ["_law_deck_here","_law_world_here"] oG:=by
 have nd:=C42_.nd
 refine h.pgood C42_ (fun|_,_,_,_,_,_,[_,_],_=>rfl) (λf cdv A outer s H E F hr=>
   (aI (aZ 2 nd (aL G35_ hr (bW 0 (aD aG aE))))
   (aI (bD (cC hr (aC 2) aG)
    (aJ (aQ iP))
    bC)
   (aI (bD (cC hr (aC 2) aG)
    (aJ (aQ (gG (kM hr.units).op (aL G35_ hr (bW 0 (aD aG aE))) aG)))
    bC)
   (aI (bD (dF kL (aC 2) aG)
    (aJ (aQ (aL G41_ hr (bW 0 (aD (aC 1) aE)))))
    bC)
   (aJ (aQ (aT hr (aT hr (aC 1) aG) (aL G35_ hr (bW 0 (aD (bE cF rfl B.len qo_ (aD (aT hr (aC 1) aG) aE)) aE))))))))))) (λas R q=>?_)
 obtain⟨nm,tx,st,sp,rfl,hw,q⟩:=q
 refine⟨rfl,rfl,8,rfl,by decide,cK (by decide) (by decide),λr r0 r1=>?_⟩
 refine⟨_,rfl,sif (λ_=>q nT trivial) (λ_=>?_)⟩
 refine⟨_,rfl,sif (λ_=>⟨rfl,2,rfl,by decide,cK (by decide) (by decide),λk k0 k1=>q (bT _) trivial⟩) (λ_=>?_)⟩
 refine⟨_,rfl,sif (λ_=>⟨rfl,nm,tx,st,sp,rfl,hw,λn hn=>q (iT n) hn⟩) (λ_=>?_)⟩
 refine⟨_,rfl,rfl,_,rfl,(tx.map sT).length,rfl,?_,?_,λk k0 k1=>?_⟩
 ·rw[qc_,hw.t9];decide
 ·rw[qc_,hw.t9];exact cK (by decide) (by decide)
 ·obtain⟨U,hU,hm⟩:=kR (l:=tx.map sT) k0 k1
  obtain⟨s,hs,rfl⟩:=qf_.mp hm
  exact⟨_,hU,q (sT s) hs⟩
end
end My
namespace My
open PySem L2 PyProof.Rows WordM
section
variable{P:Program}{w:World}{K:W.Frag}{mg:Str->Option Value}{base:Heap}
def zLM:Tv->Prop
 |.leaf v=>dI v=true
 |.seq false _=>True
 |.dct _=>True
 |_=>False
def rG:PSp:=λas R=>∃T,as=[.va T]/\zLM T/\R (sT (cR (dG T)))
theorem C0_:bA ["value"] ["value"] (aN s0_):=fsc (by decide +kernel)
theorem g0_(h:Has K mg "kind_of" s0_)(B:Own mg)    : PGood P w K mg base 1 "kind_of" ["value"] rG:=by
 have nd:=C0_.nd
 refine h.pgood C0_ (fun|_,_,_,_,_,_,[_],_=>rfl) (λf cdv A outer s H E F hr=>
   (aI (bD (dF mD (aC 0) iP)
    (aJ (aQ aY))
    bC)
   (aI (bD (cS (cI "bool" jW rfl B.isinstance (aC 0) (cG (v:=.ty "bool") rfl B.bool_ boot_bool rfl)))
    (aJ (aQ aY))
    bC)
   (aI (bD (cS (cI "int" kY rfl B.isinstance (aC 0) (cG (v:=.ty "int") rfl B.int_ boot_int rfl)))
    (aJ (aQ aY))
    bC)
   (aI (bD (cS (cI "str" kX rfl B.isinstance (aC 0) (cG (v:=.ty "str") rfl B.str_ boot_str rfl)))
    (aJ (aQ aY))
    bC)
   (aI (bD (cS (cI "list" mV rfl B.isinstance (aC 0) (cG (v:=.ty "list") rfl B.list_ boot_list rfl)))
    (aJ (aQ aY))
    bC)
   (aJ (aQ aY)))))))) (λas R q=>?_)
 obtain⟨T,rfl,hT,q⟩:=q
 refine⟨rfl,?_⟩
 cases T with
 |leaf v=>
  rcases jX hT with rfl|⟨b,rfl⟩|⟨b,rfl⟩|⟨b,rfl⟩
  ·exact⟨_,rfl,bX q⟩
  ·exact⟨_,rfl,aR ⟨_,rfl,bX q⟩⟩
  ·exact⟨_,rfl,aR ⟨_,rfl,aR ⟨_,rfl,bX q⟩⟩⟩
  ·exact⟨_,rfl,aR ⟨_,rfl,aR ⟨_,rfl,aR ⟨_,rfl,bX q⟩⟩⟩⟩
 |seq t xs=>
  cases t with
  |false=>exact⟨_,rfl,aR ⟨_,rfl,aR ⟨_,rfl,aR ⟨_,rfl,aR ⟨_,rfl,bX q⟩⟩⟩⟩⟩
  |true=>exact False.elim hT
 |dct kts=>exact⟨_,rfl,aR ⟨_,rfl,aR ⟨_,rfl,aR ⟨_,rfl,aR ⟨_,rfl,aR q⟩⟩⟩⟩⟩
def uE:PSp:=λas R=>∃x m:Str,as=[.va (sT x),.va (sT m)]/\m∈MK/\x.length<=1000/\R (bT (jC x m))
theorem C5_:bA ["text","mark"] ["text","mark"] (aN s5_):=fsc (by decide +kernel)
theorem g5_(h:Has K mg "has_mark" s5_)(B:Own mg)(GSIGNS:oS K w.params mg "SIGNS" SGN)  : PGood P w K mg base 1 "has_mark" ["text","mark"] uE:=by
 have nd:=C5_.nd
 refine h.pgood C5_ (fun|_,_,_,_,_,_,[_,_],_=>rfl) (λf cdv A outer s H E F hr=>
   (aJ (aQ (bE (zIq rfl) rfl B.any boot_any (aD (bF (fE (sc:=aN s5_) (XN:=["text","mark"]) (N:=["sign","mark"]) (fr:=[1]) (bY (aC 0)) (λ_ _ _ _ _=>(gG (mE hr.units).op (aC 0) (zCC GSIGNS rfl (aC 1)) rfl)))) aE))))) (λas R q=>?_)
 obtain⟨x,m,rfl,hm,hx,q⟩:=q
 obtain⟨S,hS⟩:∃S,getS SGN m=some S:=by
  simp only[MK,List.mem_cons,List.not_mem_nil,or_false]at hm
  rcases hm with e|e|e|e<;>subst e<;>exact⟨_,rfl⟩
 refine⟨rfl,by rw[qc_,<-WordM.len];omega,?_⟩
 refine dR (λc=>sT ⟨#[c]⟩) (λc=>bT (decide (c∈cs S))) (λc hc R q=>⟨m,S,rfl,hS,?_⟩) ?_
 ·have e:(false != inS ⟨#[c]⟩ S)=decide (c∈cs S):=by
   unfold inS
   rw[StrLaws.found_one]
   simp
  show R (some (bT (false != inS ⟨#[c]⟩ S))) _
  rw[e]
  exact q
 ·refine⟨(cs x).map λc=>decide (c∈cs S),by rw[qz_];rfl,?_⟩
  have e:((cs x).map λc=>decide (c∈cs S)).any id=jC x m:=by
   rw[List.any_map,jC,hS]
   rfl
  rw[e]
  exact q
def pY:PSp:=λas R=>∃x:Str,as=[.va (sT x)]/\x.length<=1000/\R (.seq true ((dE x).map sT))
theorem C6_:bA ["text"] ["text"] (aN s6_):=fsc (by decide +kernel)
theorem g6_(h:Has K mg "marks_of" s6_)(B:Own mg)(G5_:PGood P w K mg base 1 "has_mark" ["text","mark"] uE)(GMARKS:eF K mg "MARKS" (.seq true (MK.map sT)))  : PGood P w K mg base 2 "marks_of" ["text"] pY:=by
 have nd:=C6_.nd
 refine h.pgood C6_ (fun|_,_,_,_,_,_,[_],_=>rfl) (λf cdv A outer s H E F hr=>
   (aJ (aQ (fK fL rfl B.tuple_ boot_tuple (aD (bF (oM (sc:=aN s6_) (XN:=["text"]) (N:=["mark","text"]) (fr:=[0]) (bY (oN GMARKS rfl)) (λ_ _ _ _ _=>(gV (cS (aL G5_ hr (aD (aC 1) (aD (aC 0) aE)))))) (λ_ _ _ _ _=>(aC 0)))) aE))))) (λas R q=>?_)
 obtain⟨x,rfl,hx,q⟩:=q
 refine⟨rfl,by decide,?_⟩
 refine jZ (l:=MK) sT (λm=>if jC x m=true then some (sT m) else none) (λm hm R q=>⟨x,m,rfl,hm,hx,_,rfl,sif (λz=>?_) (λz=>?_)⟩) ?_
 ·rw[if_pos z]at q;exact q
 ·rw[if_neg (by rw[z];exact ql_)]at q;exact q
 ·refine⟨false,_,rfl,?_⟩
  have e:(MK.filterMap λm=>if jC x m=true then some (sT m) else none)=(dE x).map sT:=by
   unfold dE
   generalize MK=l
   induction l with
   |nil=>rfl
   |cons a l ih=>
    rw[qH_,List.filter_cons,ih]
    cases jC x a<;>simp
  rw[e]
  exact q
end
end My
namespace My
open PySem L2 PyProof.Rows WordM
section
variable{P:Program}{w:World}{K:W.Frag}{mg:Str->Option Value}{base:Heap}
variable{n:Nat}
def yF:List (Str×Str):=[("nothing","nothing"),("truths","truth"),("numbers","number"),("texts","text"),("lists","list"),("record","dict"),("table","dict")]
theorem at0{α:Type}{x:α}{r:List α}:atI (x::r) 0=some x:=bG (j:=0) rfl
theorem zBb(p:Pt):∃r,aX p=.seq true (sT (wM p)::r)/\r.length<=4:=by
 cases p with
 |record a b fs=>exact⟨_,eK a b fs,by simp⟩
 |lists a b f=>exact⟨_,iB a b f,by simp⟩
 |table a b w f=>exact⟨_,fJ a b w f,by simp⟩
 |_=>rw[aX];exact⟨_,rfl,by simp⟩
theorem zI1(p:Pt):getS yF (wM p)=some (cR (fG p)):=by
 cases p<;>rfl
def tQ:PSp:=λas R=>∃p:Pt,as=[.va (aX p)]/\R (sT (cR (fG p)))
theorem C15_:bA ["part"] ["part"] (aN xK):=fsc (by decide +kernel)
theorem zLD(h:Has K mg "part_kind" xK)(B:Own mg)(GPART_KINDS:oS K w.params mg "PART_KINDS" yF)  : PGood P w K mg base 1 "part_kind" ["part"] tQ:=by
 have nd:=C15_.nd
 refine h.pgood C15_ (fun|_,_,_,_,_,_,[_],_=>rfl) (λf cdv A outer s H E F hr=>
   (aJ (aQ (zCC GPART_KINDS rfl (aT hr (aC 0) aG))))) (λas R q=>?_)
 obtain⟨p,rfl,q⟩:=q
 obtain⟨r,e,_⟩:=zBb p
 rw[e]
 exact⟨rfl,_,at0,_,_,rfl,zI1 p,q⟩
theorem zEV{a b:Nat}(ha:a<=5)(hb:b<=5)(h:cR a=cR b):a=b:=by
 have h1:a=0\/a=1\/a=2\/a=3\/a=4\/a=5:=by omega
 have h2:b=0\/b=1\/b=2\/b=3\/b=4\/b=5:=by omega
 rcases h1 with e|e|e|e|e|e<;>subst e<;>rcases h2 with e|e|e|e|e|e<;>subst e<;>first|rfl|exact absurd h (by decide +kernel)
theorem zF6(p:Pt):fG p<=5:=by cases p<;>simp[fG]
def xX:Option Pt->Tv
 |none=>nT
 |some p=>aX p
def mZ:PSp:=λas R=>∃(f:List Pt) (k:Nat),as=[.va (bZ f),.va (sT (cR k))]/\k<=5/\R (xX (f.find? λp=>decide (fG p=k)))
theorem C16_:bA ["form","kind","part"] ["form","kind"] (aN xJ):=fsc (by decide +kernel)
theorem zLC(h:Has K mg "part_for" xJ)(B:Own mg)(G15_:PGood P w K mg base 1 "part_kind" ["part"] tQ)   : PGood P w K mg base 2 "part_for" ["form","kind"] mZ:=by
 have nd:=C16_.nd
 refine h.pgood C16_ (fun|_,_,_,_,_,_,[_,_],_=>rfl) (λf cdv A outer s H E F hr=>
   (aI (dX (m:=3) qG_ rfl (bY (aC 0)) (dC 2 (by decide) nd rfl (.inl rfl))
    (aJ (bD (cC hr (aL G15_ hr (aD (aC 2) aE)) (aC 1))
     (aJ (aQ (aC 2)))
     bC)))
   (aJ (aQ iP)))) (λas R q=>?_)
 obtain⟨f,k,rfl,hk,q⟩:=q
 refine⟨rfl,?_⟩
 refine gS aX (l:=f) (λi ρ=>(∀j p,j<i->f[j]?=some p->fG p≠k)/\∃s,ρ=[.va (bZ f),.va (sT (cR k)),s]) ⟨λj p h=>absurd h (qh3_ _),.no,rfl⟩ ?_ ?_
 ·rintro i p _ N hp ⟨hj,s,rfl⟩ hN
  refine⟨p,rfl,_,rfl,sD (λe=>?_) (λe=>?_)⟩
  ·have e:=zEV (zF6 p) hk e
   have:f.find? (λp=>decide (fG p=k))=some p:=by
    rw[List.find?_eq_some_iff_getElem]
    obtain⟨hi,rfl⟩:=qx_.mp hp
    exact⟨qP_ e,i,hi,rfl,λj hj'=>by
     have:=hj j f[j] hj' (qk_ (by omega))
     simpa using this⟩
   rw[this]at q
   exact q
  ·refine hN _ ⟨λj p' hj' ep=>?_,_,rfl⟩
   by_cases z:j=i
   ·subst z;rw[hp]at ep;cases ep;exact λz=>e (by rw[z])
   ·exact hj j p' (by omega) ep
 ·rintro _ ⟨hj,s,rfl⟩
  have:f.find? (λp=>decide (fG p=k))=none:=by
   rw[qi3_]
   intro p hp
   obtain⟨j,hj',rfl⟩:=qU1_.mp hp
   simpa using hj j _ hj' (qk_ hj')
  rw[this]at q
  exact q
end
end My
namespace My
open PySem L2 PyProof.Rows WordM
section
variable{P:Program}{w:World}{K:W.Frag}{mg:Str->Option Value}{base:Heap}
open GcdM CutM
theorem nxE{N:aU->Prop}{ρ ρ':aU}(e:ρ=ρ')(h:N ρ'):N ρ:=e▸h
def pD(a:R3):Tv:=.seq true [iT a.1,iT a.2.1,iT a.2.2]
def wS:PSp:=λas R=>∃a b:Int,as=[.va (iT a),.va (iT b)]/\0<=a/\0<=b/\R (iT (g a b))
theorem C1_:bA ["one","other","rest"] ["one","other"] (aN s1_):=fsc (by decide +kernel)
theorem g1_(h:Has K mg "divisor_of" s1_)(B:Own mg)    : PGood P w K mg base 1 "divisor_of" ["one","other"] wS:=by
 have nd:=C1_.nd
 refine h.pgood C1_ (fun|_,_,_,_,_,_,[_,_],_=>rfl) (λf cdv A outer s H E F hr=>
   (aI (nD qG_ (fS hr (aC 1) aG)
    (aI (aZ 2 nd (bN wI (aC 0) (aC 1)))
    (aI (aZ 0 nd (aC 1))
    (aJ (aZ 1 nd (aC 2))))))
   (aJ (aQ (aC 0))))) (λas R q=>?_)
 obtain⟨a,b,rfl,a0,b0,q⟩:=q
 refine⟨rfl,λm ρ=>∃(x y:Int) (s:Sl),m=y.toNat/\0<=x/\0<=y/\g x y=g a b/\ρ=[.va (iT x),.va (iT y),s],⟨_,a,b,.no,rfl,a0,b0,rfl,rfl⟩,?_⟩
 rintro m _ ⟨x,y,s,rfl,x0,y0,e,rfl⟩
 refine⟨_,rfl,sif (λz=>?_) (λz=>?_)⟩
 ·have hy:y≠0:=by simpa[eqV]using z
  have h1:=qC1_ x hy
  have h2:=qB1_ x (show 0<y by omega)
  exact⟨(show 0<y by omega),_,by omega,y,x % y,_,rfl,y0,h1,(zJe (show 0<y by omega)).trans e,rfl⟩
 ·have hy:y=0:=by simpa[eqV]using z
  subst hy
  rw[zJd x x0]at e
  rw[<-e]at q
  exact q
def hX(lo hi st:Int):List Int:=[lo,hi,lo+st]
def tZ:PSp:=λas R=>∃lo hi st:Int,as=[.va (.seq true [iT lo,iT hi,iT st])]/\R (.seq false ((hX lo hi st).map iT))
theorem C3_:bA ["run"] ["run"] (aN s3_):=fsc (by decide +kernel)
theorem g3_(h:Has K mg "telling_numbers" s3_)(B:Own mg)    : PGood P w K mg base 1 "telling_numbers" ["run"] tZ:=by
 have nd:=C3_.nd
 refine h.pgood C3_ (fun|_,_,_,_,_,_,[_],_=>rfl) (λf cdv A outer s H E F hr=>
   (aJ (aQ (bF (cH (aD (aT hr (aC 0) aG) (aD (aT hr (aC 0) aG) (aD (bN cY (aT hr (aC 0) aG) (aT hr (aC 0) aG)) aE)))))))) (λas R q=>?_)
 obtain⟨lo,hi,st,rfl,q⟩:=q
 exact⟨rfl,_,rfl,_,rfl,_,rfl,_,rfl,by simp,q⟩
def vO:PSp:=λas R=>∃ns:List Int,as=[.va (.seq false (ns.map iT))]/\ns≠[]/\R (pD (cZ ns))
theorem C2_:bA ["numbers","lo","step","number"] ["numbers"] (aN s2_):=fsc (by decide +kernel)
theorem g2_(h:Has K mg "run_of" s2_)(B:Own mg)(G1_:PGood P w K mg base 1 "divisor_of" ["one","other"] wS)   : PGood P w K mg base 2 "run_of" ["numbers"] vO:=by
 have nd:=C2_.nd
 refine h.pgood C2_ (fun|_,_,_,_,_,_,[_],_=>rfl) (λf cdv A outer s H E F hr=>
   (aI (bD (cC hr (bE cF rfl B.len qo_ (aD (aC 0) aE)) aG)
    (aJ zB7)
    bC)
   (aI (aZ 1 nd (bE (gW rfl) rfl B.min boot_min (aD (aC 0) aE)))
   (aI (aZ 2 nd aG)
   (aI (dX (m:=4) qG_ rfl (bY (aC 0)) (dC 3 (by decide) nd rfl (.inl rfl))
    (aJ (aZ 2 nd (aL G1_ hr (aD (bN iR (aC 3) (aC 1)) (aD (aC 2) aE))))))
   (aJ (aQ (cA (aD (aC 1) (aD (bE (gC rfl) rfl B.max boot_max (aD (aC 0) aE)) (aD (aC 2) aE))))))))))) (λas R q=>?_)
 obtain⟨ns,rfl,ne,q⟩:=q
 have l0:0<ns.length:=qQ1_.mpr ne
 refine⟨rfl,_,rfl,eJ (λz=>absurd z (by rw[qc_];omega)) (λ_=>?_)⟩
 refine .inr (.inl ⟨ns,rfl,l0,λlo lo1 lo2=>?_⟩)
 show PEnds.nx _ _
 refine nxE (ρ':=[.va (.seq false (ns.map iT)),.va (iT lo),.no,.no]) rfl ?_
 have el:lo=bL ns:=(nQ lo1 lo2).symm
 refine gS iT (l:=ns) (λi ρ=>∃s3:Sl,ρ=[.va (.seq false (ns.map iT)),.va (iT lo),.va (iT ((ns.take i).foldl (λs n=>g (n-lo) s) 0)),s3]) ⟨.no,rfl⟩ ?_ ?_
 ·rintro i a _ N ha ⟨s3,rfl⟩ hN
  have h1:=lo2 a (qE_ ha)
  refine⟨a-lo,_,rfl,by omega,pN (qV1_ 0),hN _ ⟨.va (iT a),?_⟩⟩
  rw[qz1_,ha,qH2_]
  rfl
 ·rintro _ ⟨s3,rfl⟩
  rw[qf1_]
  refine .inr (.inl ⟨ns,rfl,l0,λhi hi1 hi2=>⟨by simp,?_⟩⟩)
  have eh:hi=bQ ns:=(nR hi1 hi2).symm
  subst el eh
  exact q
def oF:PSp:=λas R=>∃a b:R3,as=[.va (pD a),.va (pD b)]/\Ok a/\Ok b/\R (pD (joinR a b))
theorem C4_:bA ["one","other"] ["one","other"] (aN s4_):=fsc (by decide +kernel)
theorem g4_(h:Has K mg "run_joined" s4_)(B:Own mg)(G2_:PGood P w K mg base 2 "run_of" ["numbers"] vO)(G3_:PGood P w K mg base 1 "telling_numbers" ["run"] tZ)   : PGood P w K mg base 3 "run_joined" ["one","other"] oF:=by
 have nd:=C4_.nd
 refine h.pgood C4_ (fun|_,_,_,_,_,_,[_,_],_=>rfl) (λf cdv A outer s H E F hr=>
   (aJ (aQ (aL G2_ hr (aD (bN cY (aL G3_ hr (aD (aC 0) aE)) (aL G3_ hr (aD (aC 1) aE))) aE))))) (λas R q=>?_)
 obtain⟨a,b,rfl,ha,hb,q⟩:=q
 refine⟨rfl,a.1,a.2.1,a.2.2,rfl,b.1,b.2.1,b.2.2,rfl,by simp[hX],hX a.1 a.2.1 a.2.2++hX b.1 b.2.1 b.2.2,by rw[qJ_],by simp[hX],?_⟩
 have ne:hX a.1 a.2.1 a.2.2++hX b.1 b.2.1 b.2.2≠[]:=by simp[hX]
 obtain⟨m1,m2⟩:=iJ ne
 obtain⟨m3,m4⟩:=iK ne
 have e:cZ (hX a.1 a.2.1 a.2.2++hX b.1 b.2.1 b.2.2)=joinR a b:=zEY ha hb m1 m2 m3 m4
 rw[e]
 exact q
end
end My
namespace My
open PySem L2 PyProof.Rows WordM
section
variable{P:Program}{w:World}{K:W.Frag}{mg:Str->Option Value}{base:Heap}
theorem sN{a b:Str}{A B:Prop}(h:a≠b)(k:B):if (false != eqV (.str a) (.str b))=true then A else B:=sD (λz=>absurd z h) λ_=>k
theorem sY{a:Str}{A B:Prop}(k:A):if (false != eqV (.str a) (.str a))=true then A else B:=sD (λ_=>k) λz=>absurd rfl z
theorem qD(lo hi st:Int):aX (.numbers lo hi st)=.seq true [sT "numbers",iT lo,iT hi,iT st]:=by rw[aX]
theorem pR(bs:List Bool):aX (.truths bs)=.seq true [sT "truths",.seq true (bs.map bT)]:=by rw[aX]
theorem pW(w:Wd):aX (.texts w)=.seq true [sT "texts",bV w]:=by rw[aX]
theorem tL:aX .nothing=.seq true [sT "nothing"]:=by rw[aX]
end
section
variable{P:Program}{w:World}{K:W.Frag}{mg:Str->Option Value}{base:Heap}
def sW:PSp:=λas R=>∃ms ms':List Str,as=[.va (.seq true (ms.map sT)),.va (.seq true (ms'.map sT))]/\ms.length<=4/\ms'.length<=4/\R (.seq true ((jnM ms ms').map sT))
theorem C7_:bA ["one","other"] ["one","other"] (aN s7_):=fsc (by decide +kernel)
theorem g7_(h:Has K mg "marks_joined" s7_)(B:Own mg)    : PGood P w K mg base 1 "marks_joined" ["one","other"] sW:=by
 have nd:=C7_.nd
 refine h.pgood C7_ (fun|_,_,_,_,_,_,[_,_],_=>rfl) (λf cdv A outer s H E F hr=>
   (aJ (aQ (fK fL rfl B.tuple_ boot_tuple (aD (bF (zY rfl rfl B.sorted rfl B.set_ (aC 0) (aC 1))) aE))))) (λas R q=>?_)
 obtain⟨ms,ms',rfl,l1,l2,q⟩:=q
 exact⟨rfl,ms,.inl rfl,by omega,ms',.inl rfl,by omega,_,_,rfl,q⟩
theorem zCr:∀(k:Nat) (x y:List Nat),x.take k=y.take k->k<=x.length->k<=y.length->(k=x.length\/k=y.length\/x[k]?≠y[k]?)->lcp x y=x.take k
 |0,[],y,_,_,_,_=>by cases y<;>rfl
 |0,a::x,[],_,_,_,_=>rfl
 |0,a::x,b::y,_,_,_,h=>by
  rcases h with h|h|h
  ·simp at h
  ·simp at h
  ·have:a≠b:=by simpa using h
   rw[lcp,if_neg this]
   rfl
 |k+1,[],y,_,h,_,_=>by simp at h
 |k+1,a::x,[],_,_,h,_=>by simp at h
 |k+1,a::x,b::y,e,h1,h2,h3=>by
  simp only[List.take_succ_cons,List.cons.injEq]at e
  rw[lcp,if_pos e.1,zCr k x y e.2 (by simpa using h1) (by simpa using h2) (by simpa using h3)]
  rfl
def shH(x y:Str):Str:=⟨(lcp (cs x) (cs y)).toArray⟩
theorem zCe(x y:Str):IsHead [x,y] (shH x y):=vB (ts:=[x,y]) (by simp)
theorem zAO:∀(h a b y:List Nat),h++a<=y->y<=h++b->∃r,y=h++r
 |[],a,b,y,_,_=>⟨y,rfl⟩
 |c::h,a,b,[],h1,_=>absurd (List.nil_lt_cons c (h++a)) (qZ_.mpr h1)
 |c::h,a,b,d::y,h1,h2=>by
  rw[qZ1_]at h1 h2
  have e:c=d:=by
   rcases Nat.lt_trichotomy c d with z|z|z
   ·exact absurd (qR2_.mpr (.inl z)) (qZ_.mpr h2)
   ·exact z
   ·exact absurd (qR2_.mpr (.inl z)) (qZ_.mpr h1)
  subst e
  obtain⟨r,e⟩:=zAO h a b y (qZ_.mp λz=>qZ_.mpr h1 (qR2_.mpr (.inr ⟨rfl,z⟩))) (qZ_.mp λz=>qZ_.mpr h2 (qR2_.mpr (.inr ⟨rfl,z⟩)))
  exact⟨r,by rw[e];rfl⟩
theorem zE3{ts:List Str}{x y hd:Str}(hx:x∈ts)(hy:y∈ts)(lx:∀t∈ts,cs x<=cs t)(ly:∀t∈ts,cs t<=cs y)(h:IsHead [x,y] hd):IsHead ts hd:=by
 refine⟨λt ht=>?_,λh' hh=>h.top h' λt ht=>?_⟩
 ·obtain⟨a,ea⟩:=h.all x (by simp)
  obtain⟨b,eb⟩:=h.all y (by simp)
  exact zAO (cs hd) a b (cs t) (by rw[<-ea];exact lx t ht) (by rw[<-eb];exact ly t ht)
 ·rcases qw_.mp ht with z|z
  ·rw[z];exact hh x hx
  ·rw[show t=y by simpa using z];exact hh y hy
theorem zFC{x:Str}{n:Nat}(h:n<=x.length):cs (Txt.slice x none (some (n:Int)))=(cs x).take n:=by
 have e:=beq_iff_eq.mp (PyProof.Rows.slice_closes_toL (x:=x) (j:=(n:Int)) (by omega) (by omega))
 rw[e]
 show((cs x).drop 0).take _=_
 rw[qy2_]
 congr 1
theorem zES{us:List Str}{hd z:Str}(hs:∀t∈us,Sg t)(e:cs z=cD (us.map λt=>aV t hd)):dE z=jM us hd:=by
 unfold dE jM
 refine List.filter_congr λm hm=>?_
 rw[qx1_,jC,qL_,qL_,e]
 unfold cD
 have sg:∀t∈us,∀c∈cs (aV t hd),c∈cs SIG:=λt ht c hc=>(hs t ht).slice _ _ c hc
 constructor
 ·rintro⟨c,hc,h2⟩
  obtain⟨l,hl,hc⟩:=qs1_.mp hc
  obtain⟨t',ht',rfl⟩:=qf_.mp hl
  obtain⟨t,ht,rfl⟩:=qf_.mp ht'
  exact⟨t,ht,qL_.mpr ⟨c,hc,qP_ ((qV (sg t ht c hc) m hm).mp (qb1_ h2))⟩⟩
 ·rintro⟨t,ht,h2⟩
  obtain⟨c,hc,h3⟩:=qL_.mp h2
  exact⟨c,qs1_.mpr ⟨_,qf_.mpr ⟨_,qf_.mpr ⟨t,ht,rfl⟩,rfl⟩,hc⟩,qP_ ((qV (sg t ht c hc) m hm).mpr (qb1_ h3))⟩
theorem zGo(us:List Str)(n:Nat)(h:∀t∈us,t.length<=n):(cD us).length<=us.length*n:=by
 induction us with
 |nil=>simp[cD]
 |cons t us ih=>
  have e:cD (t::us)=cs t++cD us:=rfl
  rw[e,qj_,<-WordM.len,qI_,Nat.succ_mul]
  have:=ih λx hx=>h x (qc1_ _ hx)
  have:=h t qi1_
  omega
def sU:PSp:=λas R=>∃x y:Str,as=[.va (sT x),.va (sT y)]/\x.length<=1000/\y.length<=1000/\R (sT (shH x y))
theorem C8_:bA ["one","other","size"] ["one","other"] (aN s8_):=fsc (by decide +kernel)
theorem g8_(h:Has K mg "shared_head" s8_)(B:Own mg)    : PGood P w K mg base 1 "shared_head" ["one","other"] sU:=by
 have nd:=C8_.nd
 refine h.pgood C8_ (fun|_,_,_,_,_,_,[_,_],_=>rfl) (λf cdv A outer s H E F hr=>
   (aI (aZ 2 nd aG)
   (aI (nD qG_ (eQ (lR (dF kL (aC 2) (bE cF rfl B.len qo_ (aD (aC 0) aE))) (lR (dF kL (aC 2) (bE cF rfl B.len qo_ (aD (aC 1) aE))) (nJ (cC hr (aT hr (aC 0) (aC 2)) (aT hr (aC 1) (aC 2)))))))
    (aJ (aZ 2 nd (bN cY (aC 2) aG))))
   (aJ (aQ (iD iW (aC 0) iH (iG (aC 2)))))))) (λas R q=>?_)
 obtain⟨x,y,rfl,lx,ly,q⟩:=q
 have ex:x.length=(cs x).length:=WordM.len x
 have ey:y.length=(cs y).length:=WordM.len y
 refine⟨rfl,λm ρ=>∃k:Nat,m=x.length-k/\k<=x.length/\k<=y.length/\(cs x).take k=(cs y).take k/\ρ=[.va (sT x),.va (sT y),.va (iT (k:Nat))],⟨_,0,rfl,qs_ _,qs_ _,rfl,rfl⟩,?_⟩
 rintro m _ ⟨k,rfl,k1,k2,e,rfl⟩
 have fin:(k=(cs x).length\/k=(cs y).length\/(cs x)[k]?≠(cs y)[k]?)->R (sT (Txt.slice x none (some (k:Int)))):=λh=>by
  have e2:Txt.slice x none (some (k:Int))=shH x y:=kD (by rw[zFC k1];exact(zCr k (cs x) (cs y) e (by omega) (by omega) h).symm)
  rw[e2];exact q
 refine⟨by show x.length<=_;omega,_,rfl,jS (λz1=>⟨by show y.length<=_;omega,_,rfl,jS (λz2=>?_) (λz2=>?_)⟩) (λz1=>?_)⟩
 ·have z1:(k:Int)<(x.length:Nat):=z1
  have z2:(k:Int)<(y.length:Nat):=z2
  have gx:(cs x)[k]?=some (cs x)[k]:=qk_ (by omega)
  have gy:(cs y)[k]?=some (cs y)[k]:=qk_ (by omega)
  refine⟨by show x.length<=_;omega,(cs x)[k],bG (j:=k) gx,by show y.length<=_;omega,(cs y)[k],bG (j:=k) gy,_,rfl,?_⟩
  refine sD (λz=>?_) (λz=>?_)
  ·have ee:(cs x)[k]=(cs y)[k]:=by simpa using z
   refine⟨x.length-(k+1),by omega,k+1,rfl,by omega,by omega,?_,by push_cast;rfl⟩
   rw[qz1_,qz1_,e,gx,gy,ee]
  ·refine⟨_,rfl,by show x.length<=_;omega,fin (.inr (.inr λh=>z ?_))⟩
   rw[gx,gy]at h
   injection h with h
   rw[h]
 ·have z2:¬ (k:Int)<(y.length:Nat):=z2
  exact⟨_,rfl,by show x.length<=_;omega,fin (.inr (.inl (by omega)))⟩
 ·have z1:¬ (k:Int)<(x.length:Nat):=z1
  exact⟨_,rfl,by show x.length<=_;omega,fin (.inl (by omega))⟩
def qL:PSp:=λas R=>∃(t:Bool) (us:List Str),as=[.va (.seq t (us.map sT))]/\us≠[]/\us.length<=20/\(∀t∈us,fI t)/\R (bV (eR us))
theorem qU{us:List Str}{hd:Str}{lo hi:Int}{ms:List Str}(m:MOf us hd lo hi ms):Wd.make hd lo hi ms=eR us:=by
 obtain⟨h2,l2,u2,m2,e,k⟩:=iI m.ne
 obtain⟨e1,e2,e3,e4⟩:=m.uniq k
 rw[e,e1,e2,e3,e4]
theorem C9_:bA ["texts","head","tails","sizes"] ["texts"] (aN s9_):=fsc (by decide +kernel)
theorem g9_(h:Has K mg "make_of" s9_)(B:Own mg)(G8_:PGood P w K mg base 1 "shared_head" ["one","other"] sU)(G6_:PGood P w K mg base 2 "marks_of" ["text"] pY)   : PGood P w K mg base 3 "make_of" ["texts"] qL:=by
 have nd:=C9_.nd
 refine h.pgood C9_ (fun|_,_,_,_,_,_,[_],_=>rfl) (λf cdv A outer s H E F hr=>
   (aI (aZ 1 nd (aL G8_ hr (aD (bE (zGY rfl) rfl B.min boot_min (aD (aC 0) aE)) (aD (bE (zGZ rfl) rfl B.max boot_max (aD (aC 0) aE)) aE))))
   (aI (fQ (sc:=aN s9_) (XN:=["texts","head","tails","sizes"]) (N:=["text","head"]) (fr:=[1]) 2 nd (bY (aC 0)) (λ_ _ _ _ _=>iO) (λ_ _ _ _ _=>(iD iW (aC 0) (iG (bE cF rfl B.len qo_ (aD (aC 1) aE))) iH)))
   (aI (fQ (sc:=aN s9_) (XN:=["texts","head","tails","sizes"]) (N:=["tail"]) (fr:=[]) 3 nd (bY (aC 2)) (λ_ _ _ _ _=>iO) (λ_ _ _ _ _=>(bE cF rfl B.len qo_ (aD (aC 0) aE))))
   (aJ (aQ (cA (aD aY (aD (aC 1) (aD (bE (gW rfl) rfl B.min boot_min (aD (aC 3) aE)) (aD (bE (gC rfl) rfl B.max boot_max (aD (aC 3) aE)) (aD (aL G6_ hr (aD (rC PySem.F.slot_str_join PySem.F.type_str_join zBE aY (aD (aC 2) aE)) aE)) aE)))))))))))) (λas R q=>?_)
 obtain⟨t,us,rfl,ne,l64,hu,q⟩:=q
 have l0:0<us.length:=qQ1_.mpr ne
 refine⟨rfl,t,us,rfl,l0,λx x1 x2=>⟨t,us,rfl,l0,λy y1 y2=>⟨x,y,rfl,by have:=(hu x x1).2;omega,by have:=(hu y y1).2;omega,?_⟩⟩⟩
 have hh:IsHead us (shH x y):=zE3 x1 y1 x2 y2 (zCe x y)
 generalize shH x y=hd at hh
 show PEnds.nx _ _
 refine nxE (ρ':=[.va (.seq t (us.map sT)),.va (sT hd),.no,.no]) rfl ?_
 have rl:∀t∈us,((aV t hd).length:Int)=(t.length:Int)-(hd.length:Int)/\(aV t hd).length<=50:=λt ht=>by
  obtain⟨r,e⟩:=hh.all t ht
  have h1:=kC e
  have h2:=congrArg List.length e
  rw[qj_]at h2
  have h3:=(hu t ht).2
  rw[WordM.len]at h3
  rw[WordM.len,WordM.len t,WordM.len hd,h1]
  omega
 have hl:hd.length<=50:=by
  obtain⟨t,ht⟩:=qF1_ _ ne
  have:=(rl t ht).1
  have:=(hu t ht).2
  omega
 refine⟨by rw[qc_];omega,dR sT (λt=>sT (aV t hd)) (λt ht R q=>⟨by show hd.length<=_;omega,_,rfl,by have:=(hu t ht).2;show t.length<=_;omega,q⟩) ?_⟩
 show PEnds.nx _ _
 refine nxE (ρ':=[.va (.seq t (us.map sT)),.va (sT hd),.va (.seq false ((us.map λt=>aV t hd).map sT)),.no]) (by rw[qz_];rfl) ?_
 refine⟨by rw[qc_,qc_];omega,dR sT (λt=>iT (t.length:Nat)) (λt ht R q=>?_) ?_⟩
 ·obtain⟨u,hu',rfl⟩:=qf_.mp ht
  exact⟨by have:=(rl u hu').2;show(aV u hd).length<=_;omega,q⟩
 have es:((us.map λt=>aV t hd).map λt=>iT (t.length:Nat))=((us.map λt=>(t.length:Int)-(hd.length:Int))).map iT:=by
  rw[qz_,qz_]
  apply qu2_
  intro t ht
  show iT ((aV t hd).length:Nat)=iT _
  rw[(rl t ht).1]
 rw[es]
 have ne2:(us.map λt=>(t.length:Int)-(hd.length:Int))≠[]:=by simpa using ne
 refine .inr (.inl ⟨_,rfl,qQ1_.mpr ne2,λlo lo1 lo2=>.inr (.inl ⟨_,rfl,qQ1_.mpr ne2,λhi hi1 hi2=>?_⟩)⟩)
 have cl:(cD (us.map λt=>aV t hd)).length<=1000:=by
  have:=zGo (us.map λt=>aV t hd) 50 λt ht=>by
   obtain⟨u,hu',rfl⟩:=qf_.mp ht
   exact(rl u hu').2
  rw[qc_]at this
  omega
 refine⟨rfl,us.map λt=>aV t hd,rfl,rfl,by omega,_,rfl,by show(cD (us.map λt=>aV t hd)).length<=_;exact cl,by simp,?_⟩
 rw[zES (us:=us) (hd:=hd) (z:=⟨(cD (us.map λt=>aV t hd)).toArray⟩) (λt ht=>(hu t ht).1) rfl]
 have m:MOf us hd lo hi (jM us hd):=by
  refine⟨hh,?_,λt ht=>lo2 _ (qf_.mpr ⟨t,ht,rfl⟩),?_,λt ht=>hi2 _ (qf_.mpr ⟨t,ht,rfl⟩),rfl⟩
  ·obtain⟨t,ht,e⟩:=qf_.mp lo1;exact⟨t,ht,e⟩
  ·obtain⟨t,ht,e⟩:=qf_.mp hi1;exact⟨t,ht,e⟩
 rw[<-qU m]at q
 exact q
def jY:PSp:=λas R=>∃ts:List Str,as=[.va (.seq false (ts.map sT))]/\ts≠[]/\ts.length<=1000/\(aH ts).length<=20/\(∀t∈ts,fI t)/\R (bV (bO ts))
theorem vR{ts us:List Str}(ne:ts≠[])(h:∀x,x∈ts↔x∈us):eR ts=eR us:=by
 obtain⟨hd,lo,hi,ms,e,m⟩:=iI ne
 rw[e]
 exact qU (m.same h)
theorem C10_:bA ["texts","unlike"] ["texts"] (aN xP):=fsc (by decide +kernel)
theorem zLI(h:Has K mg "words_of" xP)(B:Own mg)(G9_:PGood P w K mg base 3 "make_of" ["texts"] qL)(GMOST_FEW:eF K mg "MOST_FEW" (iT 6))  : PGood P w K mg base 4 "words_of" ["texts"] jY:=by
 have nd:=C10_.nd
 refine h.pgood C10_ (fun|_,_,_,_,_,_,[_],_=>rfl) (λf cdv A outer s H E F hr=>
   (aI (bD (cC hr (bE cF rfl B.len qo_ (aD (aC 0) aE)) aG)
    (aJ zB7)
    bC)
   (aI (aZ 1 nd (bF (pM rfl rfl B.sorted rfl B.set_ (aC 0))))
   (aI (bD (dF wR (bE cF rfl B.len qo_ (aD (aC 1) aE)) (oN GMOST_FEW rfl))
    (aJ (aQ (cA (aD aY (aD (fK fL rfl B.tuple_ boot_tuple (aD (aC 1) aE)) aE)))))
    bC)
   (aJ (aQ (aL G9_ hr (aD (aC 1) aE)))))))) (λas R q=>?_)
 obtain⟨ts,rfl,ne,lt,l20,ht,q⟩:=q
 have l0:0<ts.length:=qQ1_.mpr ne
 refine⟨rfl,_,rfl,eJ (λz=>absurd z (by rw[qc_];omega)) (λ_=>?_)⟩
 have sl:(aW (aH ts)).length=(aH ts).length:=(eM _).length_eq
 refine⟨ts,rfl,by omega,?_⟩
 show PEnds.nx _ _
 refine nxE (ρ':=[.va (.seq false (ts.map sT)),.va (.seq false ((aW (aH ts)).map sT))]) rfl ?_
 refine⟨_,rfl,jS (λz=>?_) (λz=>?_)⟩
 ·have z:(((aW (aH ts)).map sT).length:Int)<=6:=z
  rw[qc_,sl]at z
  unfold bO at q
  rw[if_pos (by omega)]at q
  exact⟨_,_,rfl,by simp,q⟩
 ·have z:¬ (((aW (aH ts)).map sT).length:Int)<=6:=z
  rw[qc_,sl]at z
  unfold bO at q
  rw[if_neg (by omega),vR (us:=aW (aH ts)) ne λx=>sort_set_mem.symm]at q
  exact⟨false,_,rfl,λe=>by rw[e]at sl;simp at sl;omega,by omega,λt h=>ht t (sort_set_mem.mp h),q⟩
structure pI (ts:List Str):Prop where
 ne:ts≠[]
 le:(aH ts).length<=20
 ok:∀t∈ts,fI t
def uW:PSp:=λas R=>∃ts:List Str,as=[.va (bV (bO ts))]/\pI ts/\R (bV (eR ts))
theorem nL{ts:List Str}(h:ts≠[]):aW (aH ts)≠[]:=λe=>by
 obtain⟨x,hx⟩:=qF1_ _ h
 have:=sort_set_mem.mpr hx
 rw[e]at this
 exact nomatch this
theorem C11_:bA ["words"] ["words"] (aN xO):=fsc (by decide +kernel)
theorem zLH(h:Has K mg "as_make" xO)(B:Own mg)(G9_:PGood P w K mg base 3 "make_of" ["texts"] qL)   : PGood P w K mg base 4 "as_make" ["words"] uW:=by
 have nd:=C11_.nd
 refine h.pgood C11_ (fun|_,_,_,_,_,_,[_],_=>rfl) (λf cdv A outer s H E F hr=>
   (aJ (aQ (uO (cC hr (aT hr (aC 0) aG) aY) (aL G9_ hr (aD (aT hr (aC 0) aG) aE)) (aC 0))))) (λas R q=>?_)
 obtain⟨ts,rfl,ok,q⟩:=q
 unfold bO
 split
 ·rename_i z
  rw[vR (us:=aW (aH ts)) ok.ne λx=>sort_set_mem.symm]at q
  exact⟨rfl,_,at0,_,rfl,sY ⟨_,bG (j:=1) rfl,true,_,rfl,nL ok.ne,by rw[(eM _).length_eq];exact ok.le,λt h=>ok.ok t (sort_set_mem.mp h),q⟩⟩
 ·obtain⟨hd,lo,hi,ms,e,m⟩:=iI ok.ne
  rw[e]at q ⊢
  exact⟨rfl,_,at0,_,rfl,sN (by decide +kernel) q⟩
def uA:PSp:=λas R=>∃(h1:Str) (lo hi:Int) (ms:List Str) (hd:Str),as=[.va (bV (.make h1 lo hi ms)),.va (sT hd)]/\h1.length<=50/\hd.length<=50/\ms.length<=4/\R (bV (.make hd (lo+(aV h1 hd).length) (hi+(aV h1 hd).length) (jnM ms (dE (aV h1 hd)))))
theorem C12_:bA ["make","head","tail","marks"] ["make","head"] (aN xN):=fsc (by decide +kernel)
theorem zLG(h:Has K mg "with_shorter_head" xN)(B:Own mg)(G7_:PGood P w K mg base 1 "marks_joined" ["one","other"] sW)(G6_:PGood P w K mg base 2 "marks_of" ["text"] pY)   : PGood P w K mg base 3 "with_shorter_head" ["make","head"] uA:=by
 have nd:=C12_.nd
 refine h.pgood C12_ (fun|_,_,_,_,_,_,[_,_],_=>rfl) (λf cdv A outer s H E F hr=>
   (aI (aZ 2 nd (iD iW (aT hr (aC 0) aG) (iG (bE cF rfl B.len qo_ (aD (aC 1) aE))) iH))
   (aI (aZ 3 nd (aL G7_ hr (aD (aT hr (aC 0) aG) (aD (aL G6_ hr (aD (aC 2) aE)) aE))))
   (aJ (aQ (cA (aD aY (aD (aC 1) (aD (bN cY (aT hr (aC 0) aG) (bE cF rfl B.len qo_ (aD (aC 2) aE))) (aD (bN cY (aT hr (aC 0) aG) (bE cF rfl B.len qo_ (aD (aC 2) aE))) (aD (aC 3) aE))))))))))) (λas R q=>?_)
 obtain⟨h1,lo,hi,ms,hd,rfl,l1,l2,l3,q⟩:=q
 have rl:(aV h1 hd).length<=50:=qh_ (WordM.slice_len ..) l1
 have ml:(dE (aV h1 hd)).length<=4:=by
  unfold dE
  exact qh_ (qj3_ _ _) (by simp[MK])
 refine⟨rfl,_,bG (j:=1) rfl,by show hd.length<=_;omega,_,rfl,by show h1.length<=_;omega,?_⟩
 show PEnds.nx _ _
 refine nxE (ρ':=[.va (bV (.make h1 lo hi ms)),.va (sT hd),.va (sT (aV h1 hd)),.no]) rfl ?_
 refine⟨_,bG (j:=4) rfl,aV h1 hd,rfl,by omega,ms,dE (aV h1 hd),rfl,l3,ml,?_⟩
 show PEnds.nx _ _
 refine nxE (ρ':=[.va (bV (.make h1 lo hi ms)),.va (sT hd),.va (sT (aV h1 hd)),.va (.seq true ((jnM ms (dE (aV h1 hd))).map sT))]) rfl ?_
 exact⟨_,bG (j:=2) rfl,by show(aV h1 hd).length<=_;omega,_,bG (j:=3) rfl,by show(aV h1 hd).length<=_;omega,by simp,q⟩
theorem zCt{ms ms':List Str}(h1:∀m∈ms,m∈MK)(h2:∀m∈ms',m∈MK):(jnM ms ms').length<=4/\∀m∈jnM ms ms',m∈MK:=by
 have h:∀m∈jnM ms ms',m∈MK:=λm hm=>by
  rcases qp_.mp (sort_set_mem.mp hm) with z|z
  ·exact h1 m z
  ·exact h2 m z
 exact⟨WordM.nodup_len (kZ (fX _)) h,h⟩
theorem zK{ts:List Str}{hd:Str}{lo hi:Int}{ms:List Str}(m:MOf ts hd lo hi ms)(ok:∀t∈ts,fI t):fI hd/\ms.length<=4/\∀x∈ms,x∈MK:=by
 obtain⟨t,ht,_⟩:=m.lo1
 obtain⟨r,e⟩:=m.he.all t ht
 have hS:=(ok t ht).1
 have hl:=(ok t ht).2
 have hk:∀x∈ms,x∈MK:=λx hx=>by rw[m.mks]at hx;exact(qc2_.mp hx).1
 refine⟨⟨λc hc=>hS c (by rw[e];exact qD_ _ hc),?_⟩,?_,hk⟩
 ·rw[WordM.len]at hl ⊢
  rw[e,qj_]at hl
  omega
 ·rw[m.mks];exact qh_ (qj3_ _ _) (by simp[MK])
def uV:PSp:=λas R=>∃A B:List Str,as=[.va (bV (eR A)),.va (bV (eR B))]/\A≠[]/\B≠[]/\(∀t∈A,fI t)/\(∀t∈B,fI t)/\R (bV (eR (A++B)))
theorem C13_:bA ["one","other","head","first","second","least","most"] ["one","other"] (aN xM):=fsc (by decide +kernel)
theorem zLF(h:Has K mg "makes_joined" xM)(B:Own mg)(G8_:PGood P w K mg base 1 "shared_head" ["one","other"] sU)(G12_:PGood P w K mg base 3 "with_shorter_head" ["make","head"] uA)(G7_:PGood P w K mg base 1 "marks_joined" ["one","other"] sW)   : PGood P w K mg base 4 "makes_joined" ["one","other"] uV:=by
 have nd:=C13_.nd
 refine h.pgood C13_ (fun|_,_,_,_,_,_,[_,_],_=>rfl) (λf cdv A outer s H E F hr=>
   (aI (aZ 2 nd (aL G8_ hr (aD (aT hr (aC 0) aG) (aD (aT hr (aC 1) aG) aE))))
   (aI (aZ 3 nd (aL G12_ hr (aD (aC 0) (aD (aC 2) aE))))
   (aI (aZ 4 nd (aL G12_ hr (aD (aC 1) (aD (aC 2) aE))))
   (aI (aZ 5 nd (bE (gW rfl) rfl B.min boot_min (aD (aT hr (aC 3) aG) (aD (aT hr (aC 4) aG) aE))))
   (aI (aZ 6 nd (bE (gC rfl) rfl B.max boot_max (aD (aT hr (aC 3) aG) (aD (aT hr (aC 4) aG) aE))))
   (aJ (aQ (cA (aD aY (aD (aC 2) (aD (aC 5) (aD (aC 6) (aD (aL G7_ hr (aD (aT hr (aC 3) aG) (aD (aT hr (aC 4) aG) aE))) aE)))))))))))))) (λas R q=>?_)
 obtain⟨A,B,rfl,na,nb,ha,hb,q⟩:=q
 obtain⟨h1,lo1,hi1,ms1,e1,m1⟩:=iI na
 obtain⟨h2,lo2,hi2,ms2,e2,m2⟩:=iI nb
 obtain⟨⟨s1,b1⟩,c1,k1⟩:=zK m1 ha
 obtain⟨⟨s2,b2⟩,c2,k2⟩:=zK m2 hb
 have hh:=zCe h1 h2
 have app:=m1.app m2 s1 s2 hh
 rw[<-qU app]at q
 obtain⟨r1,er1⟩:=hh.all h1 (.head _)
 have lh:(shH h1 h2).length<=50:=by
  rw[WordM.len]at b1 ⊢
  rw[er1,qj_]at b1
  omega
 rw[e1,e2]
 refine⟨rfl,_,bG (j:=1) rfl,_,bG (j:=1) rfl,h1,h2,rfl,by omega,by omega,?_⟩
 generalize shH h1 h2=hd at q lh
 have mk1:∀x:Str,∀m∈dE x,m∈MK:=λx m hm=>(qc2_.mp hm).1
 have j1:=(zCt k1 (mk1 (aV h1 hd))).1
 have j2:=(zCt k2 (mk1 (aV h2 hd))).1
 show PEnds.nx _ _
 refine nxE (ρ':=[.va (bV (.make h1 lo1 hi1 ms1)),.va (bV (.make h2 lo2 hi2 ms2)),.va (sT hd),.no,.no,.no,.no]) rfl ?_
 refine⟨h1,lo1,hi1,ms1,hd,rfl,b1,lh,c1,?_⟩
 generalize jnM ms1 (dE (aV h1 hd))=n1 at q j1
 generalize lo1+((aV h1 hd).length:Int)=l1 at q
 generalize hi1+((aV h1 hd).length:Int)=g1 at q
 show PEnds.nx _ _
 refine nxE (ρ':=[.va (bV (.make h1 lo1 hi1 ms1)),.va (bV (.make h2 lo2 hi2 ms2)),.va (sT hd),.va (bV (.make hd l1 g1 n1)),.no,.no,.no]) rfl ?_
 refine⟨h2,lo2,hi2,ms2,hd,rfl,b2,lh,c2,?_⟩
 generalize jnM ms2 (dE (aV h2 hd))=n2 at q j2
 generalize lo2+((aV h2 hd).length:Int)=l2 at q
 generalize hi2+((aV h2 hd).length:Int)=g2 at q
 show PEnds.nx _ _
 refine nxE (ρ':=[.va (bV (.make h1 lo1 hi1 ms1)),.va (bV (.make h2 lo2 hi2 ms2)),.va (sT hd),.va (bV (.make hd l1 g1 n1)),.va (bV (.make hd l2 g2 n2)),.no,.no]) rfl ?_
 refine⟨_,bG (j:=2) rfl,_,bG (j:=2) rfl,.inl ⟨_,_,rfl,_,bG (j:=3) rfl,_,bG (j:=3) rfl,.inl ⟨_,_,rfl,?_⟩⟩⟩
 exact⟨_,bG (j:=4) rfl,_,bG (j:=4) rfl,n1,n2,rfl,j1,j2,by simp,q⟩
def lG:PSp:=λas R=>∃A B:List Str,as=[.va (bV (bO A)),.va (bV (bO B))]/\A≠[]/\B≠[]/\pI (A++B)/\R (bV (bO (A++B)))
theorem fD{A C:List Str}(h:∀x∈A,x∈C):(aH A).length<=(aH C).length:=WordM.nodup_len (cX A) λx hx=>(cO C x).mpr (h x ((cO A x).mp hx))
theorem C14_:bA ["one","other"] ["one","other"] (aN xL):=fsc (by decide +kernel)
theorem zLE(h:Has K mg "words_joined" xL)(B:Own mg)(G10_:PGood P w K mg base 4 "words_of" ["texts"] jY)(G13_:PGood P w K mg base 4 "makes_joined" ["one","other"] uV)(G11_:PGood P w K mg base 4 "as_make" ["words"] uW)   : PGood P w K mg base 5 "words_joined" ["one","other"] lG:=by
 have nd:=C14_.nd
 refine h.pgood C14_ (fun|_,_,_,_,_,_,[_,_],_=>rfl) (λf cdv A outer s H E F hr=>
   (aI (bD (eQ (lR (cC hr (aT hr (aC 0) aG) aY) (nJ (cC hr (aT hr (aC 1) aG) aY))))
    (aJ (aQ (aL G10_ hr (aD (bN cY (bF (pX tY rfl B.list_ boot_list (aD (aT hr (aC 0) aG) aE))) (bF (pX tY rfl B.list_ boot_list (aD (aT hr (aC 1) aG) aE)))) aE))))
    bC)
   (aJ (aQ (aL G13_ hr (aD (aL G11_ hr (aD (aC 0) aE)) (aD (aL G11_ hr (aD (aC 1) aE)) aE))))))) (λas R q=>?_)
 obtain⟨A,B,rfl,na,nb,ok,q⟩:=q
 have oA:pI A:=⟨na,qh_ (fD λx hx=>qD_ _ hx) ok.le,λt ht=>ok.ok t (qD_ _ ht)⟩
 have oB:pI B:=⟨nb,qh_ (fD λx hx=>qq_ _ hx) ok.le,λt ht=>ok.ok t (qq_ _ ht)⟩
 have fin:7<=(aH (A++B)).length->R (bV (eR (A++B))):=λh=>by
  unfold bO at q
  rw[if_neg (by omega)]at q
  exact q
 by_cases zA:(aH A).length<7
 ·have eA:bO A=.few (aW (aH A)):=by unfold bO;rw[if_pos zA]
  by_cases zB:(aH B).length<7
  ·have eB:bO B=.few (aW (aH B)):=by unfold bO;rw[if_pos zB]
   rw[eA,eB]
   have es:∀x,x∈aW (aH A)++aW (aH B)↔x∈A++B:=λx=>by rw[qp_,qp_,sort_set_mem,sort_set_mem]
   have l1:(aW (aH A)).length=(aH A).length:=(eM _).length_eq
   have l2:(aW (aH B)).length=(aH B).length:=(eM _).length_eq
   rw[<-lC es]at q
   refine⟨rfl,_,at0,_,rfl,sY ⟨_,at0,_,rfl,sY ⟨_,bG (j:=1) rfl,_,_,rfl,_,bG (j:=1) rfl,_,_,rfl,?_⟩⟩⟩
   refine⟨by rw[qc_,qc_];omega,aW (aH A)++aW (aH B),by rw[qJ_],?_,?_,?_,λt ht=>ok.ok t ((es t).mp ht),q⟩
   ·intro e
    exact nL na (qa2_.mp e).1
   ·rw[qj_];omega
   ·have:=fD (A:=aW (aH A)++aW (aH B)) (C:=A++B) λx hx=>(es x).mp hx
    exact qh_ this ok.le
  ·have q:=fin (qh_ (by omega) (fD (A:=B) (C:=A++B) λx hx=>qq_ _ hx))
   have eB:bO B=eR B:=by unfold bO;rw[if_neg zB]
   obtain⟨h2,lo2,hi2,ms2,e2,m2⟩:=iI nb
   have aA:[Ar.va (bV (.few (aW (aH A))))]=[.va (bV (bO A))]:=by rw[eA]
   have aB:[Ar.va (bV (.make h2 lo2 hi2 ms2))]=[.va (bV (bO B))]:=by rw[eB,e2]
   rw[eB,eA,e2]
   exact⟨rfl,_,at0,_,rfl,sY ⟨_,at0,_,rfl,sN (by decide +kernel) ⟨A,aA,oA,B,aB,oB,A,B,rfl,na,nb,oA.ok,oB.ok,q⟩⟩⟩
 ·have q:=fin (qh_ (by omega) (fD (A:=A) (C:=A++B) λx hx=>qD_ _ hx))
  have eA:bO A=eR A:=by unfold bO;rw[if_neg zA]
  obtain⟨h1,lo1,hi1,ms1,e1,m1⟩:=iI na
  have aA:[Ar.va (bV (.make h1 lo1 hi1 ms1))]=[.va (bV (bO A))]:=by rw[eA,e1]
  rw[eA,e1]
  exact⟨rfl,_,at0,_,rfl,sN (by decide +kernel) (aR ⟨A,aA,oA,B,rfl,oB,A,B,rfl,na,nb,oA.ok,oB.ok,q⟩)⟩
end
end My
namespace My
open PySem L2 PyProof.Rows WordM
section
variable{P:Program}{w:World}{K:W.Frag}{mg:Str->Option Value}{base:Heap}
theorem zEC{s t:UTs}{P:PEnds}{ρ:aU}{J:aU->Prop}(rest:∀ρ',J ρ'->t P ρ')(main:(∀ρ',J ρ'->t P ρ')->sF s t P ρ):sF s t P ρ:=main rest
structure DOk (D:List Tv->List Pt):Prop where
 same:∀A B:List Tv,(∀v,v∈A↔v∈B)->D A=D B
 nil:D []=[]
structure KsOk (V:Tv->Prop) (ks:List (List (Str×Tv))):Prop where
 ne:ks≠[]
 nd:∀k∈ks,(k.map (·.1)).Nodup
 ok:∀k∈ks,∀kt∈k,fI kt.1/\V kt.2
 le:(aH (aO ks)).length<=20
variable{D:List Tv->List Pt}{V:Tv->Prop}{W:(Tv->Prop)->Prop}{lv:Nat}
theorem KsOk.nms{ks:List (List (Str×Tv))}(h:KsOk V ks){n:Str}(hn:n∈aO ks):fI n:=by
 obtain⟨k,hk,hn⟩:=qr1_.mp hn
 obtain⟨kt,hkt,rfl⟩:=qf_.mp hn
 exact(h.ok k hk kt hkt).1
theorem look_mem{k:List (Str×Tv)}{n:Str}{v:Tv}(h:bS k n=some v):(n,v)∈k:=by
 unfold bS at h
 obtain⟨x,hx,e⟩:=qg1_.mp h
 have this:=qg3_ hx
 have this:x.1=n:=qb1_ this
 have hm:=qq3_ hx
 obtain⟨a,b⟩:=x
 simp only at this e
 subst this e
 exact hm
theorem qW{k:List (Str×Tv)}(nd:(k.map (·.1)).Nodup){n:Str}{v:Tv}(h:(n,v)∈k):bS k n=some v:=by
 unfold bS
 induction k with
 |nil=>exact nomatch h
 |cons x k ih=>
  rw[qA_,qG1_]at nd
  rw[qD1_]
  by_cases z:x.1=n
  ·rw[qP_ z]
   rcases qw_.mp h with e|h
   ·subst e;rfl
   ·exact absurd (qf_.mpr ⟨(n,v),h,z.symm⟩) nd.1
  ·rw[qF_ z]
   rcases qw_.mp h with e|h
   ·subst e;exact absurd rfl z
   ·exact ih nd.2 h
theorem wD{ks:List (List (Str×Tv))}(nd:∀k∈ks,(k.map (·.1)).Nodup){n:Str}{v:Tv}:v∈atK n ks↔∃k∈ks,(n,v)∈k:=by
 unfold atK
 rw[qd1_]
 exact⟨λ⟨k,hk,e⟩=>⟨k,hk,look_mem e⟩,λ⟨k,hk,e⟩=>⟨k,hk,qW (nd k hk) e⟩⟩
theorem vls_mem{ks:List (List (Str×Tv))}{v:Tv}:v∈dJ ks↔∃k∈ks,∃n,(n,v)∈k:=by
 unfold dJ
 rw[qr1_]
 constructor
 ·rintro⟨k,hk,h⟩
  obtain⟨x,hx,rfl⟩:=qf_.mp h
  exact⟨k,hk,x.1,hx⟩
 ·rintro⟨k,hk,n,h⟩
  exact⟨k,hk,qf_.mpr ⟨_,h,rfl⟩⟩
theorem KsOk.at_v{ks:List (List (Str×Tv))}(h:KsOk V ks){n:Str}:∀v∈atK n ks,V v:=λv hv=>by
 obtain⟨k,hk,e⟩:=(wD h.nd).mp hv
 exact(h.ok k hk _ e).2
theorem KsOk.vls_v{ks:List (List (Str×Tv))}(h:KsOk V ks):∀v∈dJ ks,V v:=λv hv=>by
 obtain⟨k,hk,n,e⟩:=vls_mem.mp hv
 exact(h.ok k hk _ e).2
theorem zK2{ks:List (List (Str×Tv))}(hD:DOk D)(ne:ks≠[]){n:Str}(h:n∉aO ks):cV D ks n=(n,false,[]):=by
 have h1:∀k∈ks,n∉k.map (·.1):=λk hk z=>h (qr1_.mpr ⟨k,hk,z⟩)
 have e1:ks.all (λk=>decide (n∈k.map (·.1)))=false:=by
  obtain⟨k,hk⟩:=qF1_ _ ne
  exact List.all_eq_false.mpr ⟨k,hk,by simpa using h1 k hk⟩
 have e2:atK n ks=[]:=by
  unfold atK
  rw[qb2_]
  intro k hk
  cases e:bS k n with
  |none=>rfl
  |some v=>exact absurd (qf_.mpr ⟨_,look_mem e,rfl⟩) (h1 k hk)
 unfold cV
 rw[e1,e2,hD.nil]
theorem zGQ{ks js:List (List (Str×Tv))}(n:Str):cV D (ks++js) n=(n,(cV D ks n).2.1&&(cV D js n).2.1,D (atK n ks++atK n js)):=by
 unfold cV atK
 rw[List.all_append,qM_]
theorem gQ(ks js:List (List (Str×Tv))):aO (ks++js)=aO ks++aO js:=qS2_ ..
theorem qY{ks:List (List (Str×Tv))}(h:ks≠[]):bI ks≠[]:=by unfold bI;simpa using h
theorem zF4{ks js:List (List (Str×Tv))}(h1:ks≠[])(h2:js≠[]):bL (bI (ks++js))=min (bL (bI ks)) (bL (bI js))/\bQ (bI (ks++js))=max (bQ (bI ks)) (bQ (bI js)):=by
 rw[show bI (ks++js)=bI ks++bI js from qJ_ ..]
 exact⟨zAY (qY h1) (qY h2),zAZ (qY h1) (qY h2)⟩
def ptJ(D:List Tv->List Pt)(W:(Tv->Prop)->Prop):PSp:=λas R=>∃V:Tv->Prop,W V/\∃A B:List Tv,as=[.va (bZ (D A)),.va (bZ (D B))]/\(∀v∈A,V v)/\(∀v∈B,V v)/\R (bZ (D (A++B)))
def fdD(fs:List FdT):Tv:=.dct (fs.map λx=>(x.1,cE x))
def mS:PSp:=λas R=>∃(a b:Int) (fs:List FdT),as=[.va (aX (.record a b fs))]/\fs.length<=20/\(fs.map (·.1)).Nodup/\R (fdD fs)
theorem C22_:bA ["record"] ["record"] (aN sO):=fsc (by decide +kernel)
theorem zLx(h:Has K mg "fields_by_name" sO)(B:Own mg)    : PGood P w K mg base 1 "fields_by_name" ["record"] mS:=by
 have nd:=C22_.nd
 refine h.pgood C22_ (fun|_,_,_,_,_,_,[_],_=>rfl) (λf cdv A outer s H E F hr=>
   (aJ (aQ (zJs (zFw rfl rfl B.dict_ (bF (fE (sc:=aN sO) (XN:=["record"]) (N:=["field"]) (fr:=[]) (bY (aT hr (aC 0) aG)) (λ_ _ _ _ _=>(cA (aD (aT hr (aC 0) aG) (aD (aC 0) aE))))))))))) (λas R q=>?_)
 obtain⟨a,b,fs,rfl,l,nd,q⟩:=q
 rw[eK]
 refine⟨rfl,_,bG (j:=3) rfl,by rw[qc_];omega,dR cE (λx=>.seq true [sT x.1,cE x]) (λx hx R q=>⟨_,at0,by simp,q⟩) ⟨fs.map λx:FdT=>(x.1,cE x),by rw[List.map_map];rfl,by rw[qz_];exact nd,by rw[qc_];omega,q⟩⟩
def zC4(D:List Tv->List Pt)(W:(Tv->Prop)->Prop):PSp:=λas R=>∃V:Tv->Prop,W V/\∃(n n':Str) (m m':Bool) (A B:List Tv),as=[.va (cE (n,m,D A)),.va (cE (n',m',D B))]/\(∀v∈A,V v)/\(∀v∈B,V v)/\R (cE (n,m&&m',D (A++B)))
theorem C23_:bA ["one","other"] ["one","other"] (aN pC):=fsc (by decide +kernel)
theorem zLw(h:Has K mg "field_joined" pC)(B:Own mg)(G30_:PGood P w K mg base lv "joined" ["one","other"] (ptJ D W))   : PGood P w K mg base (lv+1) "field_joined" ["one","other"] (zC4 D W):=by
 have nd:=C23_.nd
 refine h.pgood C23_ (fun|_,_,_,_,_,_,[_,_],_=>rfl) (λf cdv A outer s H E F hr=>
   (aJ (aQ (cA (aD (aT hr (aC 0) aG) (aD (iQ (aT hr (aC 0) aG) (lT (aT hr (aC 1) aG))) (aD (aL G30_ hr (aD (aT hr (aC 0) aG) (aD (aT hr (aC 1) aG) aE))) aE))))))) (λas R q=>?_)
 obtain⟨V,hv,n,n',m,m',A,B,rfl,hA,hB,q⟩:=q
 refine⟨rfl,_,at0,_,bG (j:=1) rfl,?_⟩
 have q:R (.seq true [sT n,bT (m&&m'),bZ (D (A++B))]):=q
 cases m with
 |true=>
  rw[Bool.true_and]at q
  exact⟨_,rfl,bX ⟨_,bG (j:=1) rfl,_,bG (j:=2) rfl,_,bG (j:=2) rfl,V,hv,A,B,rfl,hA,hB,by simp,q⟩⟩
 |false=>exact⟨_,rfl,aR ⟨_,bG (j:=2) rfl,_,bG (j:=2) rfl,V,hv,A,B,rfl,hA,hB,by simp,q⟩⟩
noncomputable def bP(D:List Tv->List Pt)(ks:List (List (Str×Tv))):List FdT:=(aW (aH (aO ks))).map (cV D ks)
theorem lW(ks:List (List (Str×Tv))):(bP D ks).map (·.1)=aW (aH (aO ks)):=by
 unfold bP
 rw[qz_]
 exact List.map_id _
theorem kE(ks:List (List (Str×Tv))):(bP D ks).length=(aH (aO ks)).length:=by
 unfold bP
 rw[qc_,(eM _).length_eq]
theorem zBx{ks:List (List (Str×Tv))}(hD:DOk D)(ne:ks≠[])(n:Str):(bS ((bP D ks).map λx:FdT=>(x.1,cE x)) n).getD (cE (n,false,[]))=cE (cV D ks n):=by
 by_cases h:n∈aO ks
 ·have e:bS ((bP D ks).map λx:FdT=>(x.1,cE x)) n=some (cE (cV D ks n)):=by
   refine qW ?_ (qf_.mpr ⟨cV D ks n,qf_.mpr ⟨n,sort_set_mem.mpr h,rfl⟩,rfl⟩)
   rw[qz_]
   show((bP D ks).map (·.1)).Nodup
   rw[lW]
   exact kZ (fX _)
  rw[e];rfl
 ·rw[zK2 hD ne h]
  have e:bS ((bP D ks).map λx:FdT=>(x.1,cE x)) n=none:=by
   cases e:bS ((bP D ks).map λx:FdT=>(x.1,cE x)) n with
   |none=>rfl
   |some v=>
    have h1:n∈((bP D ks).map λx:FdT=>(x.1,cE x)).map (·.1):=qf_.mpr ⟨(n,v),look_mem e,rfl⟩
    rw[qz_]at h1
    have h1:n∈(bP D ks).map (·.1):=h1
    rw[lW]at h1
    exact absurd (sort_set_mem.mp h1) h
  rw[e];rfl
def zC1(D:List Tv->List Pt)(W:(Tv->Prop)->Prop):PSp:=λas R=>∃V:Tv->Prop,W V/\∃(a b a' b':Int) (ks js:List (List (Str×Tv))) (ns:List Str),as=[.va (aX (.record a b (bP D ks))),.va (aX (.record a' b' (bP D js))),.va (.seq false (ns.map sT))]/\DOk D/\KsOk V ks/\KsOk V js/\ns.length<=20/\R (aX (.record (min a a') (max b b') (ns.map (cV D (ks++js)))))
theorem C24_:bA ["one","other","names","first","second","fields","name","lacking"] ["one","other","names"] (aN pB):=fsc (by decide +kernel)
theorem zLv(h:Has K mg "records_joined" pB)(B:Own mg)(G22_:PGood P w K mg base 1 "fields_by_name" ["record"] mS)(G23_:PGood P w K mg base (lv+1) "field_joined" ["one","other"] (zC4 D W))   : PGood P w K mg base (lv+2) "records_joined" ["one","other","names"] (zC1 D W):=by
 have nd:=C24_.nd
 refine h.pgood C24_ (fun|_,_,_,_,_,_,[_,_,_],_=>rfl) (λf cdv A outer s H E F hr=>
   (aI (aZ 3 nd (aL G22_ hr (aD (aC 0) aE)))
   (aI (aZ 4 nd (aL G22_ hr (aD (aC 1) aE)))
   (aI (hJ 5 nd (cH aE))
   (aI (dX (m:=8) qG_ rfl (bY (aC 2)) (dC 6 (by decide) nd rfl (.inl rfl))
    (aI (aZ 7 nd (cA (aD (aC 6) (aD jP (aD (cA aE) aE)))))
    (aJ (eO (fZ 5 (aL G23_ hr (aD (zAK (oQ hr) (aC 3) (aC 6) (aC 7)) (aD (zAK (oQ hr) (aC 4) (aC 6) (aC 7)) aE))))))))
   (aJ (aQ (cA (aD aY (aD (bE (gW rfl) rfl B.min boot_min (aD (aT hr (aC 0) aG) (aD (aT hr (aC 1) aG) aE))) (aD (bE (gC rfl) rfl B.max boot_max (aD (aT hr (aC 0) aG) (aD (aT hr (aC 1) aG) aE))) (aD (fK fL rfl B.tuple_ boot_tuple (aD (aC 5) aE)) aE)))))))))))) (λas R q=>?_)
 obtain⟨V,hv,a,b,a',b',ks,js,ns,rfl,hD,hk,hj,ln,q⟩:=q
 have nd:∀ks:List (List (Str×Tv)),((bP D ks).map (·.1)).Nodup:=λks=>by rw[lW];exact kZ (fX _)
 refine⟨rfl,a,b,bP D ks,rfl,by rw[kE];exact hk.le,nd ks,a',b',bP D js,rfl,by rw[kE];exact hj.le,nd js,?_⟩
 rw[eK]at q ⊢
 rw[eK] 
 let T1:Tv:=.seq true [sT "record",iT a,iT b,.seq true ((bP D ks).map cE)]
 let T2:Tv:=.seq true [sT "record",iT a',iT b',.seq true ((bP D js).map cE)]
 show PEnds.nx _ _
 refine nxE (ρ':=[.va T1,.va T2,.va (.seq false (ns.map sT)),.va (fdD (bP D ks)),.va (fdD (bP D js)),.no,.no,.no]) rfl ?_
 refine⟨by simp,?_⟩
 show PEnds.nx _ _
 refine nxE (ρ':=[.va T1,.va T2,.va (.seq false (ns.map sT)),.va (fdD (bP D ks)),.va (fdD (bP D js)),.own [],.no,.no]) rfl ?_
 refine gS sT (l:=ns) (λi ρ=>∃s6 s7:Sl,ρ=[.va T1,.va T2,.va (.seq false (ns.map sT)),.va (fdD (bP D ks)),.va (fdD (bP D js)),.own (((ns.take i).map (cV D (ks++js))).map cE),s6,s7]) ⟨.no,.no,rfl⟩ ?_ ?_
 ·rintro i n _ N hn ⟨s6,s7,rfl⟩ hN
  refine⟨by simp,by simp,?_⟩
  show PEnds.nx _ _
  refine nxE (ρ':=[.va T1,.va T2,.va (.seq false (ns.map sT)),.va (fdD (bP D ks)),.va (fdD (bP D js)),.own (((ns.take i).map (cV D (ks++js))).map cE),.va (sT n),.va (cE (n,false,[]))]) rfl ?_
  refine⟨⟨_,rfl⟩,_,rfl,_,rfl,_,rfl,_,rfl,V,hv,n,n,(cV D ks n).2.1,(cV D js n).2.1,atK n ks,atK n js,?_,hk.at_v,hj.at_v,_,rfl,?_,?_⟩
  ·show [Ar.va ((bS ((bP D ks).map λx:FdT=>(x.1,cE x)) n).getD (cE (n,false,[]))),.va ((bS ((bP D js).map λx:FdT=>(x.1,cE x)) n).getD (cE (n,false,[])))]=_
   rw[zBx hD hk.ne,zBx hD hj.ne]
   rfl
  ·rw[qc_,qc_,qR_];omega
  ·refine hN _ ⟨.va (sT n),.va (cE (n,false,[])),?_⟩
   rw[qz1_,hn,qJ_,qJ_,<-zGQ]
   rfl
 ·rintro _ ⟨s6,s7,rfl⟩
  rw[qf1_]
  exact⟨_,bG (j:=1) rfl,_,bG (j:=1) rfl,.inl ⟨_,_,rfl,_,bG (j:=2) rfl,_,bG (j:=2) rfl,.inl ⟨_,_,rfl,_,_,rfl,by simp,q⟩⟩⟩
theorem gF{ks:List (List (Str×Tv))}(h:(aH (aO ks)).length<=8):dcP D ks=.record (bL (bI ks)) (bQ (bI ks)) (bP D ks):=by unfold dcP bP;rw[if_pos h]
theorem gE{ks:List (List (Str×Tv))}(h:¬ (aH (aO ks)).length<=8):dcP D ks=.table (bL (bI ks)) (bQ (bI ks)) (bO (aO ks)) (D (dJ ks)):=by unfold dcP;rw[if_neg h]
noncomputable def nwL(ks:List (List (Str×Tv))):List Tv:=if aO ks=[] then [] else [bV (bO (aO ks))]
def pE:PSp:=λas R=>∃(D:List Tv->List Pt) (V:Tv->Prop) (ks:List (List (Str×Tv))),as=[.va (aX (dcP D ks))]/\KsOk V ks/\R (.seq false (nwL ks))
theorem C25_:bA ["part","names"] ["part"] (aN sM):=fsc (by decide +kernel)
theorem zLu(h:Has K mg "name_words" sM)(B:Own mg)(G10_:PGood P w K mg base 4 "words_of" ["texts"] jY)   : PGood P w K mg base 5 "name_words" ["part"] pE:=by
 have nd:=C25_.nd
 refine h.pgood C25_ (fun|_,_,_,_,_,_,[_],_=>rfl) (λf cdv A outer s H E F hr=>
   (aI (bD (cC hr (aT hr (aC 0) aG) aY)
    (aJ (aQ (bF (cH (aD (aT hr (aC 0) aG) aE)))))
    bC)
   (aI (fQ (sc:=aN sM) (XN:=["part","names"]) (N:=["field"]) (fr:=[]) 1 nd (bY (aT hr (aC 0) aG)) (λ_ _ _ _ _=>iO) (λ_ _ _ _ _=>(aT hr (aC 0) aG)))
   (aJ (aQ (uO (dF zCG (bE cF rfl B.len qo_ (aD (aC 1) aE)) aG) (bF (cH (aD (aL G10_ hr (aD (aC 1) aE)) aE))) (bF (cH aE)))))))) (λas R q=>?_)
 obtain⟨D,V,ks,rfl,hk,q⟩:=q
 have sl:(aW (aH (aO ks))).length=(aH (aO ks)).length:=(eM _).length_eq
 by_cases h:(aH (aO ks)).length<=8
 ·rw[gF h,eK]
  have ln:(bP D ks).length<=8:=by rw[kE];exact h
  refine⟨rfl,_,at0,_,rfl,sN (by decide +kernel) ⟨_,bG (j:=3) rfl,by rw[qc_];omega,dR cE (λx=>sT x.1) (λx hx R q=>⟨_,at0,q⟩) ?_⟩⟩
  have en:((bP D ks).map λx=>sT x.1)=(aW (aH (aO ks))).map sT:=by
   rw[<-lW (D:=D),qz_]
   rfl
  rw[en]
  show PEnds.nx _ _
  refine nxE (ρ':=[.va (.seq true [sT "record",iT (bL (bI ks)),iT (bQ (bI ks)),.seq true ((bP D ks).map cE)]),.va (.seq false ((aW (aH (aO ks))).map sT))]) rfl ?_
  refine⟨_,rfl,jS (λz=>?_) (λz=>?_)⟩
  ·have z:(((aW (aH (aO ks))).map sT).length:Int) > 0:=z
   rw[qc_]at z
   have ne:aO ks≠[]:=λe=>by rw[sl,e]at z;exact absurd z (by decide)
   unfold nwL at q
   rw[if_neg ne,<-lC (ts:=aW (aH (aO ks))) (us:=aO ks) λx=>sort_set_mem]at q
   refine⟨_,rfl,nL ne,by omega,?_,λt ht=>hk.nms (sort_set_mem.mp ht),by simp,q⟩
   exact qh_ (fD (A:=aW (aH (aO ks))) (C:=aO ks) λx hx=>sort_set_mem.mp hx) hk.le
  ·have z:¬ (((aW (aH (aO ks))).map sT).length:Int) > 0:=z
   rw[qc_]at z
   have e:aO ks=[]:=by
    apply Classical.byContradiction
    intro ne
    have:=qQ1_.mpr (nL ne)
    omega
   unfold nwL at q
   rw[if_pos e]at q
   exact⟨by simp,q⟩
 ·have ne:aO ks≠[]:=λe=>h (by rw[e];exact qs_ _)
  unfold nwL at q
  rw[if_neg ne]at q
  rw[gE h,fJ]
  exact⟨rfl,_,at0,_,rfl,sY ⟨_,bG (j:=3) rfl,by simp,q⟩⟩
noncomputable def fwA(ks:List (List (Str×Tv))):List (List Tv):=if (aH (aO ks)).length<=8 then(aW (aH (aO ks))).map (λn=>atK n ks) else [dJ ks]
theorem rA{ks:List (List (Str×Tv))}(nd:∀k∈ks,(k.map (·.1)).Nodup)(v:Tv):v∈(fwA ks).flatten↔v∈dJ ks:=by
 unfold fwA
 split
 ·rw[qs1_,vls_mem]
  constructor
  ·rintro⟨l,hl,hv⟩
   obtain⟨n,_,rfl⟩:=qf_.mp hl
   obtain⟨k,hk,e⟩:=(wD nd).mp hv
   exact⟨k,hk,n,e⟩
  ·rintro⟨k,hk,n,e⟩
   refine⟨atK n ks,qf_.mpr ⟨n,sort_set_mem.mpr (qr1_.mpr ⟨k,hk,qf_.mpr ⟨_,e,rfl⟩⟩),rfl⟩,(wD nd).mpr ⟨k,hk,e⟩⟩
 ·rw[qo1_,List.flatten_nil,qQ_]
theorem zBW(ks:List (List (Str×Tv))):(fwA ks).length<=8:=by
 unfold fwA
 split
 ·rename_i h;rw[qc_,(eM _).length_eq];exact h
 ·simp
def pF:PSp:=λas R=>∃(D:List Tv->List Pt) (ks:List (List (Str×Tv))),as=[.va (aX (dcP D ks))]/\R (.seq false ((fwA ks).map λA=>bZ (D A)))
theorem C17_:bA ["part"] ["part"] (aN sS):=fsc (by decide +kernel)
theorem zLB(h:Has K mg "forms_within" sS)(B:Own mg)    : PGood P w K mg base 1 "forms_within" ["part"] pF:=by
 have nd:=C17_.nd
 refine h.pgood C17_ (fun|_,_,_,_,_,_,[_],_=>rfl) (λf cdv A outer s H E F hr=>
   (aI (bD (cC hr (aT hr (aC 0) aG) aY)
    (aJ (aQ (bF (cH (aD (aT hr (aC 0) aG) aE)))))
    bC)
   (aI (bD (cC hr (aT hr (aC 0) aG) aY)
    (aJ (aQ (bF (fE (sc:=aN sS) (XN:=["part"]) (N:=["field"]) (fr:=[]) (bY (aT hr (aC 0) aG)) (λ_ _ _ _ _=>(aT hr (aC 0) aG))))))
    bC)
   (aI (bD (cC hr (aT hr (aC 0) aG) aY)
    (aJ (aQ (bF (cH (aD (aT hr (aC 0) aG) aE)))))
    bC)
   (aJ (aQ (bF (cH aE)))))))) (λas R q=>?_)
 obtain⟨D,ks,rfl,q⟩:=q
 unfold fwA at q
 by_cases h:(aH (aO ks)).length<=8
 ·rw[if_pos h,qz_]at q
  rw[gF h,eK]
  have ln:(bP D ks).length<=8:=by rw[kE];exact h
  refine⟨rfl,_,at0,_,rfl,sN (by decide +kernel) ⟨_,at0,_,rfl,sY ⟨_,bG (j:=3) rfl,by rw[qc_];omega,dR cE (λx=>bZ x.2.2) (λx hx R q=>⟨_,bG (j:=2) rfl,q⟩) ?_⟩⟩⟩
  unfold bP
  rw[qz_]
  exact q
 ·rw[if_neg h]at q
  rw[gE h,fJ]
  exact⟨rfl,_,at0,_,rfl,sN (by decide +kernel) ⟨_,at0,_,rfl,sN (by decide +kernel) ⟨_,at0,_,rfl,sY ⟨_,bG (j:=4) rfl,by simp,q⟩⟩⟩⟩
def xT(D:List Tv->List Pt)(W:(Tv->Prop)->Prop):PSp:=λas R=>∃V:Tv->Prop,W V/\∃As:List (List Tv),as=[.va (.seq false (As.map λA=>bZ (D A)))]/\DOk D/\(∀A∈As,∀v∈A,V v)/\R (bZ (D As.flatten))
theorem C31_:bA ["forms","whole","form"] ["forms"] (aN mO):=fsc (by decide +kernel)
theorem xW(h:Has K mg "all_joined" mO)(B:Own mg)(G30_:PGood P w K mg base lv "joined" ["one","other"] (ptJ D W))   : PGood P w K mg base (lv+1) "all_joined" ["forms"] (xT D W):=by
 have nd:=C31_.nd
 refine h.pgood C31_ (fun|_,_,_,_,_,_,[_],_=>rfl) (λf cdv A outer s H E F hr=>
   (aI (aZ 1 nd (cA aE))
   (aI (dX (m:=3) qG_ rfl (bY (aC 0)) (dC 2 (by decide) nd rfl (.inl rfl))
    (aJ (aZ 1 nd (aL G30_ hr (aD (aC 1) (aD (aC 2) aE))))))
   (aJ (aQ (aC 1)))))) (λas R q=>?_)
 obtain⟨V,hv,As,rfl,hD,hV,q⟩:=q
 refine⟨rfl,by simp,?_⟩
 refine gS (λA=>bZ (D A)) (l:=As) (λi ρ=>∃s2:Sl,ρ=[.va (.seq false (As.map λA=>bZ (D A))),.va (bZ (D (As.take i).flatten)),s2]) ⟨.no,by rw[qe3_,List.flatten_nil,hD.nil];rfl⟩ ?_ ?_
 ·rintro i A _ N hA ⟨s2,rfl⟩ hN
  refine⟨V,hv,(As.take i).flatten,A,rfl,λv hv=>?_,hV A (qE_ hA),hN _ ⟨.va (bZ (D A)),?_⟩⟩
  ·obtain⟨l,hl,hv⟩:=qs1_.mp hv
   exact hV l ((qY2_ _ _).subset hl) v hv
  ·rw[qz1_,hA,qT2_]
   show [_,_,_]=[_,Sl.va (bZ (D ((As.take i).flatten++(A++[])))),_]
   rw[qQ_]
 ·rintro _ ⟨s2,rfl⟩
  rw[qf1_]
  exact q
def xR(D:List Tv->List Pt)(W:(Tv->Prop)->Prop):PSp:=λas R=>∃V:Tv->Prop,W V/\∃ks js:List (List (Str×Tv)),as=[.va (aX (dcP D ks)),.va (aX (dcP D js))]/\DOk D/\KsOk V ks/\KsOk V js/\pI (aO ks++aO js)/\R (aX (.table (min (bL (bI ks)) (bL (bI js))) (max (bQ (bI ks)) (bQ (bI js))) (bO (aO ks++aO js)) (D (dJ ks++dJ js))))
theorem zB2(ks:List (List (Str×Tv))):∃(w:Str) (r:List Tv),aX (dcP D ks)=.seq true (sT w::iT (bL (bI ks))::iT (bQ (bI ks))::r):=by
 by_cases h:(aH (aO ks)).length<=8
 ·rw[gF h,eK];exact⟨_,_,rfl⟩
 ·rw[gE h,fJ];exact⟨_,_,rfl⟩
theorem zCp(ks:List (List (Str×Tv))):(nwL ks).length<=1:=by
 unfold nwL
 split<;>simp
theorem C26_:bA ["one","other","words","make","form"] ["one","other"] (aN pA):=fsc (by decide +kernel)
theorem zLt(h:Has K mg "tables_joined" pA)(B:Own mg)(G25_:PGood P w K mg base 5 "name_words" ["part"] pE)(G14_:PGood P w K mg base 5 "words_joined" ["one","other"] lG)(G31_:PGood P w K mg base (lv+1) "all_joined" ["forms"] (xT D W))(G17_:PGood P w K mg base 1 "forms_within" ["part"] pF)   : PGood P w K mg base (lv+6) "tables_joined" ["one","other"] (xR D W):=by
 have nd:=C26_.nd
 refine h.pgood C26_ (fun|_,_,_,_,_,_,[_,_],_=>rfl) (λf cdv A outer s H E F hr=>
   (aI (aZ 2 nd (bN cY (aL G25_ hr (aD (aC 0) aE)) (aL G25_ hr (aD (aC 1) aE))))
   (aI (aZ 3 nd (uO (cC hr (bE cF rfl B.len qo_ (aD (aC 2) aE)) aG) (aT hr (aC 2) aG) (aL G14_ hr (aD (aT hr (aC 2) aG) (aD (aT hr (aC 2) aG) aE)))))
   (aI (aZ 4 nd (aL G31_ hr (aD (bN cY (aL G17_ hr (aD (aC 0) aE)) (aL G17_ hr (aD (aC 1) aE))) aE)))
   (aJ (aQ (cA (aD aY (aD (bE (gW rfl) rfl B.min boot_min (aD (aT hr (aC 0) aG) (aD (aT hr (aC 1) aG) aE))) (aD (bE (gC rfl) rfl B.max boot_max (aD (aT hr (aC 0) aG) (aD (aT hr (aC 1) aG) aE))) (aD (aC 3) (aD (aC 4) aE)))))))))))) (λas R q=>?_)
 obtain⟨V,hv,ks,js,rfl,hD,hk,hj,ok,q⟩:=q
 have l1:=zCp ks
 have l2:=zCp js
 refine⟨rfl,D,V,ks,rfl,hk,D,V,js,rfl,hj,by omega,?_⟩
 show PEnds.nx _ _
 refine nxE (ρ':=[.va (aX (dcP D ks)),.va (aX (dcP D js)),.va (.seq false (nwL ks++nwL js)),.no,.no]) rfl ?_
 dsimp only
 refine zEC (J:=λρ'=>ρ'=[.va (aX (dcP D ks)),.va (aX (dcP D js)),.va (.seq false (nwL ks++nwL js)),.va (bV (bO (aO ks++aO js))),.no]) ?rest (λrest=>?main)
 case main=>
  by_cases n1:aO ks=[]
  ·have e1:nwL ks=[]:=by unfold nwL;rw[if_pos n1]
   have n2:aO js≠[]:=λz=>ok.ne (by rw[n1,z];rfl)
   have e2:nwL js=[bV (bO (aO js))]:=by unfold nwL;rw[if_neg n2]
   rw[e1,e2,n1,ql1_,ql1_]at rest
   rw[e1,e2,ql1_]
   exact⟨_,rfl,eJ (λ_=>⟨_,at0,rest _ rfl⟩) (λz=>absurd rfl z)⟩
  ·have e1:nwL ks=[bV (bO (aO ks))]:=by unfold nwL;rw[if_neg n1]
   by_cases n2:aO js=[]
   ·have e2:nwL js=[]:=by unfold nwL;rw[if_pos n2]
    rw[e1,e2,n2,qQ_,qQ_]at rest
    rw[e1,e2,qQ_]
    exact⟨_,rfl,eJ (λ_=>⟨_,at0,rest _ rfl⟩) (λz=>absurd rfl z)⟩
   ·have e2:nwL js=[bV (bO (aO js))]:=by unfold nwL;rw[if_neg n2]
    rw[e1,e2,qZ1_,ql1_]at rest
    rw[e1,e2,qZ1_,ql1_]
    exact⟨_,rfl,eJ (λz=>absurd z (show ¬ ((2:Nat):Int)=1 by decide)) (λ_=>⟨_,at0,_,bG (j:=1) rfl,aO ks,aO js,rfl,n1,n2,ok,rest _ rfl⟩)⟩
 case rest=>
  rintro _ rfl
  have f1:=zBW ks
  have f2:=zBW js
  refine⟨D,ks,rfl,D,js,rfl,by rw[qc_,qc_];omega,V,hv,fwA ks++fwA js,by rw[qJ_],hD,λA hA v hv=>?_,?_⟩
  ·rcases qp_.mp hA with z|z
   ·exact hk.vls_v v ((rA hk.nd v).mp (qs1_.mpr ⟨A,z,hv⟩))
   ·exact hj.vls_v v ((rA hj.nd v).mp (qs1_.mpr ⟨A,z,hv⟩))
  have eD:D (fwA ks++fwA js).flatten=D (dJ ks++dJ js):=hD.same _ _ λv=>by
   rw[qT2_,qp_,qp_,rA hk.nd,rA hj.nd]
  rw[eD]
  obtain⟨w1,r1,E1⟩:=zB2 (D:=D) ks
  obtain⟨w2,r2,E2⟩:=zB2 (D:=D) js
  show PEnds.nx _ _
  refine nxE (ρ':=[.va (.seq true (sT w1::iT (bL (bI ks))::iT (bQ (bI ks))::r1)),.va (.seq true (sT w2::iT (bL (bI js))::iT (bQ (bI js))::r2)),.va (.seq false (nwL ks++nwL js)),.va (bV (bO (aO ks++aO js))),.va (bZ (D (dJ ks++dJ js)))]) (by rw[E1,E2];rfl) ?_
  rw[fJ]at q
  exact⟨_,bG (j:=1) rfl,_,bG (j:=1) rfl,.inl ⟨_,_,rfl,_,bG (j:=2) rfl,_,bG (j:=2) rfl,.inl ⟨_,_,rfl,by simp,q⟩⟩⟩
end
end My
namespace My
open PySem L2 PyProof.Rows WordM
section
variable{P:Program}{w:World}{K:W.Frag}{mg:Str->Option Value}{base:Heap}
variable{D:List Tv->List Pt}{V:Tv->Prop}{W W':(Tv->Prop)->Prop}{lv:Nat}
def xS(D:List Tv->List Pt)(W:(Tv->Prop)->Prop):PSp:=λas R=>∃V:Tv->Prop,W V/\∃ks js:List (List (Str×Tv)),as=[.va (aX (dcP D ks)),.va (aX (dcP D js))]/\DOk D/\KsOk V ks/\KsOk V js/\(aH (aO (ks++js))).length<=20/\R (aX (dcP D (ks++js)))
theorem C27_:bA ["one","other","names"] ["one","other"] (aN oZ):=fsc (by decide +kernel)
theorem zLs(h:Has K mg "dicts_joined" oZ)(B:Own mg)(G22_:PGood P w K mg base 1 "fields_by_name" ["record"] mS)(G24_:PGood P w K mg base (lv+2) "records_joined" ["one","other","names"] (zC1 D W))(G26_:PGood P w K mg base (lv+6) "tables_joined" ["one","other"] (xR D W))(GMOST_FIELDS:eF K mg "MOST_FIELDS" (iT 8))  : PGood P w K mg base (lv+7) "dicts_joined" ["one","other"] (xS D W):=by
 have nd:=C27_.nd
 refine h.pgood C27_ (fun|_,_,_,_,_,_,[_,_],_=>rfl) (λf cdv A outer s H E F hr=>
   (aI (bD (eQ (lR (cC hr (aT hr (aC 0) aG) aY) (nJ (cC hr (aT hr (aC 1) aG) aY))))
    (aI (aZ 2 nd (bF (zY rfl rfl B.sorted rfl B.set_ (aL G22_ hr (aD (aC 0) aE)) (aL G22_ hr (aD (aC 1) aE)))))
    (aJ (bD (dF wR (bE cF rfl B.len qo_ (aD (aC 2) aE)) (oN GMOST_FIELDS rfl))
     (aJ (aQ (aL G24_ hr (aD (aC 0) (aD (aC 1) (aD (aC 2) aE))))))
     bC)))
    bC)
   (aJ (aQ (aL G26_ hr (aD (aC 0) (aD (aC 1) aE))))))) (λas R q=>?_)
 obtain⟨V,hv,ks,js,rfl,hD,hk,hj,le,q⟩:=q
 have oT:∀t∈aO (ks++js),fI t:=λt ht=>by
  rw[gQ]at ht
  rcases qp_.mp ht with z|z
  ·exact hk.nms z
  ·exact hj.nms z
 have la:=zF4 hk.ne hj.ne
 have tab:¬ (aH (aO (ks++js))).length<=8->∀T1 T2:Tv,T1=aX (dcP D ks)->T2=aX (dcP D js)->∀s2:Sl,sG (kK (xR D W) (hE (fT 0) (hE (fT 1) gI))) {nx:=λx=>R nT,rt:=R} [.va T1,.va T2,s2]:=by
  rintro h T1 T2 rfl rfl s2
  rw[gE h,la.1,la.2,gQ,show dJ (ks++js)=dJ ks++dJ js from qS2_ ..]at q
  refine⟨V,hv,ks,js,rfl,hD,hk,hj,⟨λe=>h ?_,by rw[<-gQ];exact le,by rw[<-gQ];exact oT⟩,q⟩
  rw[gQ,e]
  exact qs_ _
 have nd:∀ks:List (List (Str×Tv)),((bP D ks).map (·.1)).Nodup:=λks=>by rw[lW];exact kZ (fX _)
 have sl:∀l:List Str,(aW (aH l)).length=(aH l).length:=λl=>(eM _).length_eq
 by_cases h1:(aH (aO ks)).length<=8
 ·have e1:=gF (D:=D) h1
  have E1:=eK (bL (bI ks)) (bQ (bI ks)) (bP D ks)
  by_cases h2:(aH (aO js)).length<=8
  ·have e2:=gF (D:=D) h2
   have E2:=eK (bL (bI js)) (bQ (bI js)) (bP D js)
   have tab:=λh=>tab h _ _ (by rw[e1,E1]) (by rw[e2,E2])
   have sN8:∀ks:List (List (Str×Tv)),aW (aH (aO ks))=((bP D ks).map λx:FdT=>(x.1,cE x)).map (·.1):=λks=>by
    rw[qz_]
    exact(lW (D:=D) ks).symm
   have eN:aW (aH (aW (aH (aO ks))++aW (aH (aO js))))=aW (aH (aO (ks++js))):=(lE λx=>by rw[gQ,qp_,qp_,sort_set_mem,sort_set_mem]).2
   have l1:=sl (aO ks)
   have l2:=sl (aO js)
   have l3:=sl (aO (ks++js))
   rw[e1,e2,E1,E2]
   refine⟨rfl,_,at0,_,rfl,sY ⟨_,at0,_,rfl,sY ⟨_,_,bP D ks,by rw[E1],by rw[kE];exact hk.le,nd ks,aW (aH (aO ks)),.inr ⟨_,rfl,sN8 ks⟩,by omega,_,_,bP D js,by rw[E2],by rw[kE];exact hj.le,nd js,aW (aH (aO js)),.inr ⟨_,rfl,sN8 js⟩,by omega,?_⟩⟩⟩
   rw[eN]
   show PEnds.nx _ _
   refine nxE (ρ':=[.va (.seq true [sT "record",iT (bL (bI ks)),iT (bQ (bI ks)),.seq true ((bP D ks).map cE)]),.va (.seq true [sT "record",iT (bL (bI js)),iT (bQ (bI js)),.seq true ((bP D js).map cE)]),.va (.seq false ((aW (aH (aO (ks++js)))).map sT))]) rfl ?_
   refine⟨_,rfl,jS (λz=>?_) (λz=>?_)⟩
   ·have z:(((aW (aH (aO (ks++js)))).map sT).length:Int)<=8:=z
    rw[qc_]at z
    rw[gF (by omega),la.1,la.2]at q
    exact⟨V,hv,_,_,_,_,ks,js,aW (aH (aO (ks++js))),by rw[E1,E2],hD,hk,hj,by omega,q⟩
   ·have z:¬ (((aW (aH (aO (ks++js)))).map sT).length:Int)<=8:=z
    rw[qc_]at z
    exact tab (by omega) (.va (.seq false ((aW (aH (aO (ks++js)))).map sT)))
  ·have e2:=gE (D:=D) h2
   have E2:=fJ (bL (bI js)) (bQ (bI js)) (bO (aO js)) (D (dJ js))
   have big:¬ (aH (aO (ks++js))).length<=8:=λz=>h2 (qh_ (fD (A:=aO js) λx hx=>by rw[gQ];exact qq_ _ hx) z)
   have tab:=tab big _ _ (by rw[e1,E1]) (by rw[e2,E2])
   rw[e1,e2,E1,E2]
   exact⟨rfl,_,at0,_,rfl,sY ⟨_,at0,_,rfl,sN (by decide +kernel) (tab .no)⟩⟩
 ·have e1:=gE (D:=D) h1
  have E1:=fJ (bL (bI ks)) (bQ (bI ks)) (bO (aO ks)) (D (dJ ks))
  have big:¬ (aH (aO (ks++js))).length<=8:=λz=>h1 (qh_ (fD (A:=aO ks) λx hx=>by rw[gQ];exact qD_ _ hx) z)
  have tab:=λT2 e=>tab big _ T2 (by rw[e1,E1]) e
  rw[e1,E1]
  exact⟨rfl,_,at0,_,rfl,sN (by decide +kernel) (aR (tab _ rfl .no))⟩
def zC3(D:List Tv->List Pt)(W:(Tv->Prop)->Prop):PSp:=λas R=>∃V:Tv->Prop,W V/\∃(a b a' b':Int) (A B:List Tv),as=[.va (aX (.lists a b (D A))),.va (aX (.lists a' b' (D B)))]/\(∀v∈A,V v)/\(∀v∈B,V v)/\R (aX (.lists (min a a') (max b b') (D (A++B))))
theorem C28_:bA ["one","other"] ["one","other"] (aN oY):=fsc (by decide +kernel)
theorem zLr(h:Has K mg "lists_joined" oY)(B:Own mg)(G30_:PGood P w K mg base lv "joined" ["one","other"] (ptJ D W))   : PGood P w K mg base (lv+7) "lists_joined" ["one","other"] (zC3 D W):=by
 have nd:=C28_.nd
 refine h.pgood C28_ (fun|_,_,_,_,_,_,[_,_],_=>rfl) (λf cdv A outer s H E F hr=>
   (aJ (aQ (cA (aD aY (aD (bE (gW rfl) rfl B.min boot_min (aD (aT hr (aC 0) aG) (aD (aT hr (aC 1) aG) aE))) (aD (bE (gC rfl) rfl B.max boot_max (aD (aT hr (aC 0) aG) (aD (aT hr (aC 1) aG) aE))) (aD (aL G30_ hr (aD (aT hr (aC 0) aG) (aD (aT hr (aC 1) aG) aE))) aE)))))))) (λas R q=>?_)
 obtain⟨V,hv,a,b,a',b',A,B,rfl,hA,hB,q⟩:=q
 rw[iB]at q ⊢
 rw[iB]
 exact⟨rfl,_,bG (j:=1) rfl,_,bG (j:=1) rfl,.inl ⟨_,_,rfl,_,bG (j:=2) rfl,_,bG (j:=2) rfl,.inl ⟨_,_,rfl,_,bG (j:=3) rfl,_,bG (j:=3) rfl,V,hv,A,B,rfl,hA,hB,by simp,q⟩⟩⟩
structure VsOk (V:Tv->Prop) (vs:List Tv):Prop where
 tx:∀t∈vs.filterMap asS,fI t
 tl:(aH (vs.filterMap asS)).length<=20
 ls:∀l∈vs.filterMap asL,∀v∈l,V v
 nd:∀k∈vs.filterMap asD,(k.map (·.1)).Nodup
 ok:∀k∈vs.filterMap asD,∀kt∈k,fI kt.1/\V kt.2
 le:(aH (aO (vs.filterMap asD))).length<=20
theorem VsOk.left{A B:List Tv}(h:VsOk V (A++B)):VsOk V A where
 tx:=λt ht=>h.tx t (by rw[qM_];exact qD_ _ ht)
 tl:=qh_ (fD λx hx=>by rw[qM_];exact qD_ _ hx) h.tl
 ls:=λt ht=>h.ls t (by rw[qM_];exact qD_ _ ht)
 nd:=λt ht=>h.nd t (by rw[qM_];exact qD_ _ ht)
 ok:=λt ht=>h.ok t (by rw[qM_];exact qD_ _ ht)
 le:=qh_ (fD λx hx=>by rw[qM_,gQ];exact qD_ _ hx) h.le
theorem VsOk.right{A B:List Tv}(h:VsOk V (A++B)):VsOk V B where
 tx:=λt ht=>h.tx t (by rw[qM_];exact qq_ _ ht)
 tl:=qh_ (fD λx hx=>by rw[qM_];exact qq_ _ hx) h.tl
 ls:=λt ht=>h.ls t (by rw[qM_];exact qq_ _ ht)
 nd:=λt ht=>h.nd t (by rw[qM_];exact qq_ _ ht)
 ok:=λt ht=>h.ok t (by rw[qM_];exact qq_ _ ht)
 le:=qh_ (fD λx hx=>by rw[qM_,gQ];exact qq_ _ hx) h.le
def sV(D:List Tv->List Pt)(W W':(Tv->Prop)->Prop):PSp:=λas R=>∃V:Tv->Prop,W V/\∃V':Tv->Prop,W' V'/\∃(A B:List Tv) (k:Nat) (p q r:Pt),as=[.va (aX p),.va (aX q)]/\DOk D/\VsOk V (A++B)/\(∀v∈A++B,V' v)/\bH D A k=some p/\bH D B k=some q/\bH D (A++B) k=some r/\R (aX r)
theorem eC{c:Prop}[Decidable c]{x p:Pt}(h:(if c then none else some x)=some p):¬ c/\x=p:=by
 by_cases z:c
 ·rw[if_pos z]at h;cases h
 ·rw[if_neg z]at h;exact⟨z,by injection h⟩
theorem zHR(bs cs:List Bool):usB (inF (bs++cs)) (inT (bs++cs))=usB (inF (usB (inF bs) (inT bs)) || inF (usB (inF cs) (inT cs))) (inT (usB (inF bs) (inT bs)) || inT (usB (inF cs) (inT cs))):=by
 have e:∀f t:Bool,inF (usB f t)=f/\inT (usB f t)=t:=λf t=>by cases f<;>cases t<;>exact⟨rfl,rfl⟩
 rw[(e _ _).1,(e _ _).2,(e _ _).1,(e _ _).2]
 unfold inF inT
 rw[qm2_,qm2_]
theorem C29_:bA ["one","other"] ["one","other"] (aN oX):=fsc (by decide +kernel)
theorem zLq(h:Has K mg "parts_joined" oX)(B:Own mg)(G4_:PGood P w K mg base 3 "run_joined" ["one","other"] oF)(G14_:PGood P w K mg base 5 "words_joined" ["one","other"] lG)(G28_:PGood P w K mg base (lv+7) "lists_joined" ["one","other"] (zC3 D W))(G27_:PGood P w K mg base (lv+7) "dicts_joined" ["one","other"] (xS D W))   : PGood P w K mg base (lv+8) "parts_joined" ["one","other"] (sV D W W'):=by
 have nd:=C29_.nd
 refine h.pgood C29_ (fun|_,_,_,_,_,_,[_,_],_=>rfl) (λf cdv A outer s H E F hr=>
   (aI (bD (cC hr (aT hr (aC 0) aG) aY)
    (aJ (aQ (aC 0)))
    bC)
   (aI (bD (cC hr (aT hr (aC 0) aG) aY)
    (aJ (aQ (cA (aD aY (aD (fK fL rfl B.tuple_ boot_tuple (aD (bF (zDV rfl rfl B.sorted rfl B.set_ (aT hr (aC 0) aG) (aT hr (aC 1) aG))) aE)) aE)))))
    bC)
   (aI (bD (cC hr (aT hr (aC 0) aG) aY)
    (aJ (aQ (bN cY (cA (aD aY aE)) (aL G4_ hr (aD (iD iW (aC 0) (iG aG) iH) (aD (iD iW (aC 1) (iG aG) iH) aE))))))
    bC)
   (aI (bD (cC hr (aT hr (aC 0) aG) aY)
    (aJ (aQ (cA (aD aY (aD (aL G14_ hr (aD (aT hr (aC 0) aG) (aD (aT hr (aC 1) aG) aE))) aE)))))
    bC)
   (aI (bD (cC hr (aT hr (aC 0) aG) aY)
    (aJ (aQ (aL G28_ hr (aD (aC 0) (aD (aC 1) aE)))))
    bC)
   (aJ (aQ (aL G27_ hr (aD (aC 0) (aD (aC 1) aE))))))))))) (λas R q=>?_)
 obtain⟨V,hv,V',hv',A,B,k,p,p',r,rfl,hD,hV,hV',h1,h2,h3,q⟩:=q
 have fa:∀{α:Type} (f:Tv->Option α),(A++B).filterMap f=A.filterMap f++B.filterMap f:=λf=>qM_ ..
 unfold bH at h1
 split at h1
 ·have hA:dB A=true:=by
   apply Classical.byContradiction
   intro z
   rw[if_neg z]at h1
   cases h1
  rw[if_pos hA]at h1
  cases h1
  have h3:(if dB (A++B)=true then some Pt.nothing else none)=some r:=h3
  rw[if_pos (by unfold dB at hA ⊢;rw[qm2_,hA];rfl)]at h3
  cases h3
  rw[tL]at q ⊢
  exact⟨rfl,_,at0,_,rfl,sY q⟩
 ·have h3:(if (A++B).filterMap asB=[] then none else some (Pt.truths (usB (inF ((A++B).filterMap asB)) (inT ((A++B).filterMap asB)))))=some r:=h3
  obtain⟨nA,rfl⟩:=eC h1
  obtain⟨nB,rfl⟩:=eC (c:=B.filterMap asB=[]) h2
  rw[fa asB,if_neg (λe=>nA (qa2_.mp e).1),zHR]at h3
  cases h3
  rw[pR]at q ⊢
  rw[pR]
  exact⟨rfl,_,at0,_,rfl,sN (by decide +kernel) ⟨_,at0,_,rfl,sY ⟨_,bG (j:=1) rfl,_,rfl,_,bG (j:=1) rfl,_,rfl,_,_,rfl,by simp,q⟩⟩⟩
 ·have h3:(if (A++B).filterMap asI=[] then none else some (Pt.numbers (cZ ((A++B).filterMap asI)).1 (cZ ((A++B).filterMap asI)).2.1 (cZ ((A++B).filterMap asI)).2.2))=some r:=h3
  obtain⟨nA,rfl⟩:=eC h1
  obtain⟨nB,rfl⟩:=eC (c:=B.filterMap asI=[]) h2
  rw[fa asI,if_neg (λe=>nA (qa2_.mp e).1),<-zEE nA nB]at h3
  cases h3
  rw[qD]at q ⊢
  rw[qD]
  exact⟨rfl,_,at0,_,rfl,sN (by decide +kernel) ⟨_,at0,_,rfl,sN (by decide +kernel) ⟨_,at0,_,rfl,sY ⟨by simp,_,rfl,_,rfl,_,_,rfl,(lF nA).ok,(lF nB).ok,by simp,q⟩⟩⟩⟩
 ·have h3:(if (A++B).filterMap asS=[] then none else some (Pt.texts (bO ((A++B).filterMap asS))))=some r:=h3
  obtain⟨nA,rfl⟩:=eC h1
  obtain⟨nB,rfl⟩:=eC (c:=B.filterMap asS=[]) h2
  have ne:A.filterMap asS++B.filterMap asS≠[]:=λe=>nA (qa2_.mp e).1
  rw[fa asS,if_neg ne]at h3
  cases h3
  have tx:=hV.tx
  have tl:=hV.tl
  rw[fa asS]at tx tl
  rw[pW]at q ⊢
  rw[pW]
  exact⟨rfl,_,at0,_,rfl,sN (by decide +kernel) ⟨_,at0,_,rfl,sN (by decide +kernel) ⟨_,at0,_,rfl,sN (by decide +kernel) ⟨_,at0,_,rfl,sY ⟨_,bG (j:=1) rfl,_,bG (j:=1) rfl,_,_,rfl,nA,nB,⟨ne,tl,tx⟩,by simp,q⟩⟩⟩⟩⟩
 ·have h3:(if (A++B).filterMap asL=[] then none else some (Pt.lists (bL (dH ((A++B).filterMap asL))) (bQ (dH ((A++B).filterMap asL))) (D ((A++B).filterMap asL).flatten)))=some r:=h3
  obtain⟨nA,rfl⟩:=eC h1
  obtain⟨nB,rfl⟩:=eC (c:=B.filterMap asL=[]) h2
  have hl:=hV.ls
  rw[fa asL]at hl
  have l1:dH (A.filterMap asL)≠[]:=by unfold dH;simpa using nA
  have l2:dH (B.filterMap asL)≠[]:=by unfold dH;simpa using nB
  rw[fa asL,if_neg (λe=>nA (qa2_.mp e).1),show dH (A.filterMap asL++B.filterMap asL)=dH (A.filterMap asL)++dH (B.filterMap asL) from qJ_ ..,zAY l1 l2,zAZ l1 l2,qT2_]at h3
  cases h3
  have ea:∀(a b a' b':Int) (f g:List Pt),[Ar.va (.seq true [sT "lists",iT a,iT b,bZ f]),.va (.seq true [sT "lists",iT a',iT b',bZ g])]=[.va (aX (.lists a b f)),.va (aX (.lists a' b' g))]:=λa b a' b' f g=>by rw[iB,iB]
  rw[iB (bL (dH (A.filterMap asL))),iB (bL (dH (B.filterMap asL)))]
  refine⟨rfl,_,at0,_,rfl,sN (by decide +kernel) ⟨_,at0,_,rfl,sN (by decide +kernel) ⟨_,at0,_,rfl,sN (by decide +kernel) ⟨_,at0,_,rfl,sN (by decide +kernel) ⟨_,at0,_,rfl,sY ⟨V,hv,_,_,_,_,_,_,ea _ _ _ _ _ _,λv hv=>?_,λv hv=>?_,q⟩⟩⟩⟩⟩⟩
  ·obtain⟨l,hl',hv⟩:=qs1_.mp hv
   exact hl l (qD_ _ hl') v hv
  ·obtain⟨l,hl',hv⟩:=qs1_.mp hv
   exact hl l (qq_ _ hl') v hv
 ·have h3:(if (A++B).filterMap asD=[] then none else some (dcP D ((A++B).filterMap asD)))=some r:=h3
  obtain⟨nA,rfl⟩:=eC h1
  obtain⟨nB,rfl⟩:=eC (c:=B.filterMap asD=[]) h2
  rw[fa asD,if_neg (λe=>nA (qa2_.mp e).1)]at h3
  cases h3
  have vl:=hV.left
  have vr:=hV.right
  have le:=hV.le
  rw[fa asD]at le
  have fin:∀T1:Tv,T1=aX (dcP D (A.filterMap asD))->sG (kK (xS D W) (hE (fT 0) (hE (fT 1) gI))) {nx:=λx=>R nT,rt:=R} [.va T1,.va (aX (dcP D (B.filterMap asD)))]:=by
   rintro T1 rfl
   exact⟨V,hv,_,_,rfl,hD,⟨nA,vl.nd,vl.ok,vl.le⟩,⟨nB,vr.nd,vr.ok,vr.le⟩,le,q⟩
  by_cases h:(aH (aO (A.filterMap asD))).length<=8
  ·have fin:=fin _ (by rw[gF h,eK])
   rw[gF h,eK (bL (bI (A.filterMap asD)))]
   exact⟨rfl,_,at0,_,rfl,sN (by decide +kernel) ⟨_,at0,_,rfl,sN (by decide +kernel) ⟨_,at0,_,rfl,sN (by decide +kernel) ⟨_,at0,_,rfl,sN (by decide +kernel) ⟨_,at0,_,rfl,sN (by decide +kernel) fin⟩⟩⟩⟩⟩
  ·have fin:=fin _ (by rw[gE h,fJ])
   rw[gE h,fJ (bL (bI (A.filterMap asD)))]
   exact⟨rfl,_,at0,_,rfl,sN (by decide +kernel) ⟨_,at0,_,rfl,sN (by decide +kernel) ⟨_,at0,_,rfl,sN (by decide +kernel) ⟨_,at0,_,rfl,sN (by decide +kernel) ⟨_,at0,_,rfl,sN (by decide +kernel) fin⟩⟩⟩⟩⟩
 ·cases h1
end
end My
namespace My
open PySem L2 PyProof.Rows WordM
section
variable{P:Program}{w:World}{K:W.Frag}{mg:Str->Option Value}{base:Heap}
variable{D:List Tv->List Pt}{W W':(Tv->Prop)->Prop}{lv:Nat}
theorem zBc{A B:List Tv}{k:Nat}(h:bH D B k=none):bH D (A++B) k=bH D A k:=by
 have no:∀{c:Prop} [Decidable c] {x:Pt},(if c then none else some x)=none->c:=λ{c} _ {x} h=>by
  by_cases z:c
  ·exact z
  ·rw[if_neg z]at h;cases h
 unfold bH at h ⊢
 split at h
 ·have hB:dB B=false:=by
   cases e:dB B with
   |false=>rfl
   |true=>rw[e,if_pos rfl]at h;cases h
  have:dB (A++B)=dB A:=by
   show(A++B).any _=A.any _
   rw[qm2_,show(B.any λv=>dG v==0)=false from hB,qp2_]
  rw[this]
 all_goals first|(have z:=no h;rw[qM_,z,qQ_])|rfl
theorem zE7{A B:List Tv}{k:Nat}(h:bH D A k=none):bH D (A++B) k=bH D B k:=by
 have no:∀{c:Prop} [Decidable c] {x:Pt},(if c then none else some x)=none->c:=λ{c} _ {x} h=>by
  by_cases z:c
  ·exact z
  ·rw[if_neg z]at h;cases h
 unfold bH at h ⊢
 split at h
 ·have hB:dB A=false:=by
   cases e:dB A with
   |false=>rfl
   |true=>rw[e,if_pos rfl]at h;cases h
  have:dB (A++B)=dB B:=by
   show(A++B).any _=B.any _
   rw[qm2_,show(A.any λv=>dG v==0)=false from hB,qK2_]
  rw[this]
 all_goals first|(have z:=no h;rw[qM_,z,ql1_])|rfl
theorem zGj{A B:List Tv}{k:Nat}{p:Pt}(h:bH D A k=some p):∃r,bH D (A++B) k=some r:=by
 have no:∀{c:Prop} [Decidable c] {x:Pt},(if c then none else some x)=none->c:=λ{c} _ {x} h=>by
  by_cases z:c
  ·exact z
  ·rw[if_neg z]at h;cases h
 cases e:bH D (A++B) k with
 |some r=>exact⟨r,rfl⟩
 |none=>
  unfold bH at h e
  split at h
  ·have hA:dB A=true:=by
    cases z:dB A with
    |true=>rfl
    |false=>rw[z,if_neg ql_]at h;cases h
   have:dB (A++B)=true:=by
    show(A++B).any _=true
    rw[qm2_,show(A.any λv=>dG v==0)=true from hA];rfl
   rw[this,if_pos rfl]at e
   cases e
  all_goals first|(have z:=no e;rw[qM_]at z;exact absurd (qa2_.mp z).1 (eC h).1)|cases h
noncomputable def nxD(D:List Tv->List Pt)(vs:List Tv):List Pt:=kN6.filterMap (bH D vs)
theorem zBX{vs:List Tv}{k:Nat}(h:k∈kN6):mJ (nxD D vs) k=bH D vs k:=zBY (λ_ _=>zE9) kN6 k h (by decide)
theorem C30_:bA ["one","other","parts","kind","both"] ["one","other"] (aN mP):=fsc (by decide +kernel)
theorem zDb(h:Has K mg "joined" mP)(B:Own mg)(G16_:PGood P w K mg base 2 "part_for" ["form","kind"] mZ)(G29_:PGood P w K mg base (lv+8) "parts_joined" ["one","other"] (sV D W W'))(GKINDS:eF K mg "KINDS" (.seq true (kN6.map λk=>sT (cR k))))(hD:DOk D)(hW:∀V':Tv->Prop,W' V'->∃V:Tv->Prop,W V/\∀vs:List Tv,(∀v∈vs,V' v)->VsOk V vs):PGood P w K mg base (lv+9) "joined" ["one","other"] (ptJ (nxD D) W'):=by
 have nd:=C30_.nd
 refine h.pgood C30_ (fun|_,_,_,_,_,_,[_,_],_=>rfl) (λf cdv A outer s H E F hr=>
   (aI (hJ 2 nd (cH aE))
   (aI (dX (m:=5) qG_ rfl (bY (oN GKINDS rfl)) (dC 3 (by decide) nd rfl (.inl rfl))
    (aI (fQ (sc:=aN mP) (XN:=["one","other","parts","kind","both"]) (N:=["part"]) (fr:=[]) 4 nd (bY (bF (cH (aD (aL G16_ hr (aD (aC 0) (aD (aC 3) aE))) (aD (aL G16_ hr (aD (aC 1) (aD (aC 3) aE))) aE))))) (λ_ _ _ _ _=>(gV (dF zFL (aC 0) iP))) (λ_ _ _ _ _=>(aC 0)))
    (aI (bD (cC hr (bE cF rfl B.len qo_ (aD (aC 4) aE)) aG)
     (aJ (eO (fZ 2 (aT hr (aC 4) aG))))
     bC)
    (aJ (bD (cC hr (bE cF rfl B.len qo_ (aD (aC 4) aE)) aG)
     (aJ (eO (fZ 2 (aL G29_ hr (aD (aT hr (aC 4) aG) (aD (aT hr (aC 4) aG) aE))))))
     bC)))))
   (aJ (aQ (fK fL rfl B.tuple_ boot_tuple (aD (aC 2) aE))))))) (λas R q=>?_)
 obtain⟨V',hv',A,B,rfl,hA,hB,q⟩:=q
 obtain⟨V,hv,hV⟩:=hW V' hv'
 refine⟨rfl,by simp,?_⟩
 show PEnds.nx _ _
 refine nxE (ρ':=[.va (bZ (nxD D A)),.va (bZ (nxD D B)),.own [],.no,.no]) rfl ?_
 have hall:∀v∈A++B,V' v:=λv hv=>(qp_.mp hv).elim (hA v) (hB v)
 have hAB:VsOk V (A++B):=hV _ hall
 refine jL (λi ρ=>∃(L:List Pt) (s1 s2:Sl),L=((kN6.take i).filterMap (bH D (A++B)))/\ρ=[.va (bZ (nxD D A)),.va (bZ (nxD D B)),.own (L.map aX),s1,s2]) ⟨[],.no,.no,rfl,rfl⟩ ?_ ?_
 ·rintro i T _ N hT ⟨L,s1,s2,eL,rfl⟩ hN
  have hT:(kN6.map λk=>sT (cR k))[i]?=some T:=hT
  rw[qv_,qg1_]at hT
  obtain⟨k,hk,rfl⟩:=hT
  have hkm:k∈kN6:=qE_ hk
  have hk6:k<=5:=by
   simp only[kN6,List.mem_cons,List.not_mem_nil,or_false]at hkm
   omega
  have hi:i<6:=(qx_.mp hk).1
  have et:(kN6.take (i+1)).filterMap (bH D (A++B))=(kN6.take i).filterMap (bH D (A++B))++(bH D (A++B) k).toList:=by
   rw[qz1_,qM_,hk]
   cases e:bH D (A++B) k<;>simp[e]
  have ll:((kN6.take i).filterMap (bH D (A++B))).length<=6:=by
   refine qh_ (qn2_ _ _) ?_
   rw[qR_];omega
  rw[<-eL]at et ll
  refine⟨nxD D A,k,rfl,hk6,nxD D B,k,rfl,hk6,by simp,by simp,?_⟩
  have fA:((nxD D A).find? λp=>decide (fG p=k))=bH D A k:=zBX hkm
  have fB:((nxD D B).find? λp=>decide (fG p=k))=bH D B k:=zBX hkm
  rw[fA,fB]
  refine jZ xX (λo=>o.map aX) (l:=[bH D A k,bH D B k]) (λo ho R q=>?_) ?_
  ·cases o with
   |none=>exact⟨_,rfl,aR q⟩
   |some p=>
    obtain⟨r,e,_⟩:=zBb p
    have q:R (some (aX p)) _:=q
    rw[e]at q
    rw[show xX (some p)=.seq true (sT (wM p)::r) from e]
    exact⟨_,rfl,bX q⟩
  have put:∀(r:Pt) (s4:Sl),bH D (A++B) k=some r->N [.va (bZ (nxD D A)),.va (bZ (nxD D B)),.own (L.map aX++[aX r]),.va (sT (cR k)),s4]:=λr s4 e=>hN _ ⟨L++[r],.va (sT (cR k)),s4,by rw[et,e];rfl,by rw[qJ_];rfl⟩
  have one:∀(p:Pt),bH D (A++B) k=some p->(sF (sIf (uB (uOp pEq (uCB sX (hE (fT 4) gI)) (uC (iT 1)))) (wQ (vI 2 (uOp pIx (fT 4) (uC (iT 0))))) sI) (sIf (uB (uOp pEq (uCB sX (hE (fT 4) gI)) (uC (iT 2)))) (wQ (vI 2 (kK (sV D W W') (hE (uOp pIx (fT 4) (uC (iT 0))) (hE (uOp pIx (fT 4) (uC (iT 1))) gI))))) sI)) {nx:=N,rt:=R,bk:=λρ'=>sG (uCB zCl (hE (fT 2) gI)) {nx:=λx=>R nT,rt:=R} ρ',ct:=N} [.va (bZ (nxD D A)),.va (bZ (nxD D B)),.own (L.map aX),.va (sT (cR k)),.va (.seq false [aX p])]:=λp e=>
   ⟨_,rfl,eJ (λ_=>⟨⟨_,rfl⟩,_,at0,_,rfl,by rw[qc_];omega,_,rfl,eJ (λz=>absurd z (show ¬ ((1:Nat):Int)=2 by decide)) (λ_=>put p _ e)⟩) (λz=>absurd rfl z)⟩
  cases ea:bH D A k with
  |none=>
   cases eb:bH D B k with
   |none=>
    have e0:bH D (A++B) k=none:=(zBc eb).trans ea
    exact⟨_,rfl,eJ (λz=>absurd z (by decide)) (λ_=>⟨_,rfl,eJ (λz=>absurd z (by decide)) (λ_=>hN _ ⟨L,.va (sT (cR k)),_,by rw[et,e0];simp,rfl⟩)⟩)⟩
   |some p=>exact one p ((zE7 ea).trans eb)
  |some p=>
   cases eb:bH D B k with
   |none=>exact one p ((zBc eb).trans ea)
   |some p'=>
    obtain⟨r,er⟩:=zGj (B:=B) ea
    exact⟨_,rfl,eJ (λz=>absurd z (show ¬ ((2:Nat):Int)=1 by decide)) (λ_=>⟨_,rfl,eJ (λ_=>⟨⟨_,rfl⟩,_,at0,_,bG (j:=1) rfl,V,hv,V',hv',A,B,k,p,p',r,rfl,hD,hAB,hall,ea,eb,er,_,rfl,by rw[qc_];omega,put r _ er⟩) (λz=>absurd rfl z)⟩)⟩
 ·rintro _ ⟨L,s1,s2,eL,rfl⟩
  have eL:L=nxD D (A++B):=eL
  subst eL
  exact⟨false,_,rfl,q⟩
end
end My
namespace My
open PySem L2 PyProof.Rows WordM
section
variable{P:Program}{w:World}{K:W.Frag}{mg:Str->Option Value}{base:Heap}
theorem zJn{rs:List Str}{r:Int}(h0:0<=r)(h1:r<rs.length):∃x,rs[r.toNat]?=some x:=⟨rs[r.toNat]'(by omega),qk_ _⟩
theorem zAl{α β:Type}(f:α->β):∀(l:List α) (i:Nat),(l.map f).eraseIdx i=(l.eraseIdx i).map f
 |[],_=>by simp
 |_::_,0=>by simp
 |a::l,i+1=>by simp[zAl f l i]
variable{n:Nat}
theorem zFJ{kts:List (Str×Tv)}{s:Str}{T:Tv}{kt:Str×Tv}(h:kt∈eG kts s T):kt∈kts\/kt=(s,T):=by
 unfold eG at h
 split at h
 ·obtain⟨x,hx,rfl⟩:=qf_.mp h
  split
  ·rename_i e;rw[e];exact .inr rfl
  ·exact .inl hx
 ·rcases qp_.mp h with h|h
  ·exact .inl h
  ·exact .inr (qa1_.mp h)
theorem zAQ{kts:List (Str×Tv)}{s:Str}{T:Tv}:(eG kts s T).length<=kts.length+1:=by
 unfold eG
 split
 ·rw[qc_];omega
 ·rw[qj_];exact qe_ _
def VD(nm tx:List Str):Nat->Tv->Prop
 |0,_=>False
 |_+1,.leaf .non=>True
 |_+1,.leaf (.bl _)=>True
 |_+1,.leaf (.int i)=>yE i
 |_+1,.leaf (.str s)=>s∈tx
 |n+1,.seq false xs=>xs.length<=11/\∀x∈xs,VD nm tx n x
 |n+1,.dct kts=>(kts.map (·.1)).Nodup/\kts.length<=11/\∀kt∈kts,kt.1∈nm/\VD nm tx n kt.2
 |_,_=>False
theorem zBQ{nm tx:List Str}{T:Tv}(h:wV tx T):VD nm tx (n+1) T:=by
 cases T with
 |leaf v=>cases v<;>exact h
 |seq t xs=>exact False.elim h
 |dct k=>exact False.elim h
theorem VD.put{nm tx:List Str}{kts:List (Str×Tv)}{s:Str}{T:Tv}(h:VD nm tx (n+1) (.dct kts))(l:kts.length<11)(hs:s∈nm)(hT:VD nm tx n T):VD nm tx (n+1) (.dct (eG kts s T)):=by
 refine⟨zG h.1,by have:=zAQ (kts:=kts) (s:=s) (T:=T);omega,λkt hk=>?_⟩
 rcases zFJ hk with z|rfl
 ·exact h.2.2 kt z
 ·exact⟨hs,hT⟩
def lL(n:Nat):PSp:=λas R=>∃nm tx st sp,∃deep way:Int,as=[.dk,.va (fN nm tx st sp),.va (iT deep),.va (iT way)]/\fM nm tx st sp/\0<=deep/\deep<n/\0<=way/\way<=9/\∀T,VD nm tx n T->R T
def rH(n:Nat):PSp:=λas R=>∃nm tx st sp,∃deep many:Int,as=[.dk,.va (fN nm tx st sp),.va (iT deep),.va (iT many)]/\fM nm tx st sp/\1<=deep/\deep<=n/\0<=many/\many<=11/\∀T,VD nm tx (n+1) T->R T
theorem C43_:bA ["_law_deck_here","_law_world_here","_law_deep","_law_many","_law_names","_law_found","_law_k","_law_name"] ["_law_deck_here","_law_world_here","_law_deep","_law_many"] (aN sK):=fsc (by decide +kernel)
theorem zC9(h:Has K mg "_law_dict" sK)(B:Own mg)(G35_:PGood P w K mg base 2 "_law_take" ["_law_deck_here","_law_most"] fP)(G44_:PGood P w K mg base (6+2*n) "_law_value" ["_law_deck_here","_law_world_here","_law_deep","_law_way"] (lL n))   : PGood P w K mg base (6+2*n+1) "_law_dict" ["_law_deck_here","_law_world_here","_law_deep","_law_many"] (rH n):=by
 have nd:=C43_.nd
 refine h.pgood C43_ (fun|_,_,_,_,_,_,[_,_,_,_],_=>rfl) (λf cdv A outer s H E F hr=>
   (aI (hJ 4 nd (pX tY rfl B.list_ boot_list (aD (aT hr (aC 1) aG) aE)))
   (aI (zAI (i:=5) nd rfl (.inl rfl))
   (aI (dX (m:=8) qG_ rfl (jI rfl B.range (aD (aC 3) aE)) (dC 6 (by decide) nd rfl (.inl rfl))
    (aI (aZ 7 nd (zFv 4 (aL G35_ hr (bW 0 (aD (vH λF=>(bE cF rfl B.len qo_ (aD (aC 4) aE))) aE)))))
    (aJ (zBo (i:=5) (oQ hr) rfl (by first|exact Or.inl rfl|exact Or.inr (Or.inl rfl)|exact Or.inr (Or.inr rfl)) (aC 7) (aL G44_ hr (bW 0 (aD (aC 1) (aD (bE (gC rfl) rfl B.max boot_max (aD aG (aD (bN iR (bN iR (aC 2) aG) (bN zBy (aC 3) aG)) aE))) (aD aG aE)))))))))
   (aJ (aQ (aC 5))))))) (λas R q=>?_)
 obtain⟨nm,tx,st,sp,deep,many,rfl,hw,d1,dn,m0,m11,q⟩:=q
 refine⟨rfl,_,rfl,false,_,rfl,?_⟩
 refine⟨_,rfl,by omega,by omega,?_⟩
 refine jL (λi ρ=>∃(rs:List Str) (kts:List (Str×Tv)) (s1 s2:Sl),rs.length+i=11/\(∀s∈rs,s∈nm)/\kts.length<=i/\VD nm tx (n+1) (.dct kts)/\ρ=[.dk,.va (fN nm tx st sp),.va (iT deep),.va (iT many),.own (rs.map sT),.dct kts,s1,s2]) ⟨nm,[],.no,.no,hw.n11,λs h=>h,qs_ _,⟨qT1_,by decide,λkt h=>nomatch h⟩,rfl⟩ ?_ ?_
 ·rintro i T _ N hT ⟨rs,kts,s1,s2,hl,hr,hk,hv,rfl⟩ hN
  have hi:=(nF hT).1
  refine⟨⟨_,rfl⟩,rfl,_,rfl,(rs.map sT).length,rfl,by rw[qc_];omega,by rw[qc_];exact cK (by omega) (by omega),λr r0 r1=>?_⟩
  rw[qc_]at r1
  obtain⟨x,hx⟩:=zJn r0 r1
  refine⟨r,_,sT x,rfl,rfl,r0,by rw[qv_,hx];rfl,?_⟩
  rw[zAl]
  have hxn:=hr x (qE_ hx)
  refine⟨rfl,⟨by decide,cK (by decide) (by decide)⟩,.inl ⟨0,_,rfl,nm,tx,st,sp,_,9,rfl,hw,by omega,by omega,by decide,by decide,λT hT=>?_⟩⟩
  have pl:=zAQ (kts:=kts) (s:=x) (T:=T)
  have el:(rs.eraseIdx r.toNat).length=rs.length-1:=by rw[List.length_eraseIdx,if_pos (by omega)]
  exact⟨⟨_,rfl⟩,kts,x,rfl,rfl,by omega,hN _ ⟨rs.eraseIdx r.toNat,eG kts x T,_,_,by omega,λs hs=>hr s (List.mem_of_mem_eraseIdx hs),by omega,hv.put (by omega) hxn hT,rfl⟩⟩
 ·rintro _ ⟨rs,kts,s1,s2,hl,hr,hk,hv,rfl⟩
  exact q _ hv
theorem tR{α β:Type}{r:α->β->Prop}{g:β->Prop}(h:∀a b,r a b->g b):∀{l:List α}{m:List β},Paired r l m->∀b∈m,g b
 |_,_,.nil,b,hb=>nomatch hb
 |_,_,.cons r t,b,hb=>by
  rcases qw_.mp hb with rfl|hb
  ·exact h _ _ r
  ·exact tR h t b hb
theorem C44_:bA ["_law_deck_here","_law_world_here","_law_deep","_law_way","_law_many"] ["_law_deck_here","_law_world_here","_law_deep","_law_way"] (aN oV):=fsc (by decide +kernel)
theorem zLi(h:Has K mg "_law_value" oV)(B:Own mg)(G35_:PGood P w K mg base 2 "_law_take" ["_law_deck_here","_law_most"] fP)(G42_:PGood P w K mg base 5 "_law_leaf" ["_law_deck_here","_law_world_here"] oG)(G44_:PGood P w K mg base (6+2*n) "_law_value" ["_law_deck_here","_law_world_here","_law_deep","_law_way"] (lL n))(G43_:PGood P w K mg base (6+2*n+1) "_law_dict" ["_law_deck_here","_law_world_here","_law_deep","_law_many"] (rH n))   : PGood P w K mg base (6+2*n+2) "_law_value" ["_law_deck_here","_law_world_here","_law_deep","_law_way"] (lL (n+1)):=by
 have nd:=C44_.nd
 refine h.pgood C44_ (fun|_,_,_,_,_,_,[_,_,_,_],_=>rfl) (λf cdv A outer s H E F hr=>
   (aI (bD (cC hr (aC 3) aG)
    (aJ (aZ 3 nd (aL G35_ hr (bW 0 (aD aG aE)))))
    bC)
   (aI (bD (eQ (hC (cC hr (aC 2) aG) (iN (dF kL (aC 3) aG))))
    (aJ (aQ (aL G42_ hr (bW 0 (aD (aC 1) aE)))))
    bC)
   (aI (aZ 4 nd (aT hr (bF (cH (aD aG (aD aG (aD aG (aD aG (aD aG (aD aG (aD aG (aD aG aE)))))))))) (aL G35_ hr (bW 0 (aD aG aE)))))
   (aI (bD (dF kL (aC 3) aG)
    (aJ (aQ (bF (fE (sc:=aN oV) (XN:=["_law_deck_here","_law_world_here","_law_deep","_law_way","_law_many"]) (N:=["_law_k","_law_deck_here","_law_world_here","_law_deep"]) (fr:=[0,1,2]) (jI rfl B.range (aD (aC 4) aE)) (λ_ _ _ _ _=>(aL G44_ hr (bW 1 (aD (aC 2) (aD (bN iR (aC 3) aG) (aD aG aE))))))))))
    bC)
   (aI (bD (cC hr (aL G35_ hr (bW 0 (aD aG aE))) aG)
    (aJ (aZ 4 nd (bN cY aG (aL G35_ hr (bW 0 (aD aG aE))))))
    bC)
   (aJ (aQ (aL G43_ hr (bW 0 (aD (aC 1) (aD (aC 2) (aD (aC 4) aE))))))))))))) (λas R q=>?_)
 obtain⟨nm,tx,st,sp,deep,way,rfl,hw,d0,d1,w0,w9,q⟩:=q
 refine⟨rfl,_,rfl,eJ (λ_=>⟨rfl,9,rfl,by decide,cK (by decide) (by decide),λway w0 w9=>?_⟩) (λ_=>?_)⟩
 all_goals
  refine⟨_,rfl,eJ (λ_=>bX ⟨rfl,nm,tx,st,sp,rfl,hw,λT hT=>q T (zBQ hT)⟩) (λz=>⟨_,rfl,sif (λ_=>⟨rfl,nm,tx,st,sp,rfl,hw,λT hT=>q T (zBQ hT)⟩) (λ_=>?_)⟩)⟩
  refine⟨by decide,rfl,8,rfl,by decide,cK (by decide) (by decide),λr r0 r1=>?_⟩
  obtain⟨M,hM,hMm⟩:=kR (l:=[iT 0,iT 1,iT 2,iT 3,iT 2,iT 1,iT 4,iT 6]) r0 r1
  have hm:∃m:Int,M=iT m/\0<=m/\m<=6:=by
   simp only[List.mem_cons,List.not_mem_nil,or_false]at hMm
   rcases hMm with e|e|e|e|e|e|e|e<;>subst e<;>exact⟨_,rfl,by decide,by decide⟩
  obtain⟨m,rfl,m0,m6⟩:=hm
  refine⟨_,hM,?_⟩
  clear hM hMm
  refine⟨_,rfl,sif (λ_=>⟨_,rfl,by omega,by omega,by rw[kB];omega,uM (λT U=>VD nm tx n U) (λT hT R hR=>⟨rfl,nm,tx,st,sp,_,9,rfl,hw,by omega,by omega,by decide,by decide,λU hU=>hR U hU⟩) (λUs hUs=>?_)⟩) (λ_=>?_)⟩
  ·refine q _ ⟨?_,tR (g:=VD nm tx n) (λa b h=>h) hUs⟩
   have:=hUs.length
   rw[kB]at this
   omega
  ·exact⟨rfl,6,rfl,by decide,cK (by decide) (by decide),λr r0 r1=>⟨_,rfl,sif (λ_=>⟨rfl,4,rfl,by decide,cK (by decide) (by decide),λe e0 e1=>⟨rfl,nm,tx,st,sp,deep,_,rfl,hw,by omega,by omega,by omega,by omega,λT hT=>q T hT⟩⟩) (λ_=>⟨rfl,nm,tx,st,sp,deep,_,rfl,hw,by omega,by omega,by omega,by omega,λT hT=>q T hT⟩)⟩⟩
theorem qO(hv:Has K mg "_law_value" oV)(hd:Has K mg "_law_dict" sK)(B:Own mg)(G1:PGood P w K mg base 2 "_law_take" ["_law_deck_here","_law_most"] fP)(G2:PGood P w K mg base 5 "_law_leaf" ["_law_deck_here","_law_world_here"] oG):∀n:Nat,PGood P w K mg base (6+2*n) "_law_value" ["_law_deck_here","_law_world_here","_law_deep","_law_way"] (lL n)
 |0=>hv.pfalse C44_ (fun|_,_,_,_,_,_,[_,_,_,_],_=>rfl) λas R ⟨_,_,_,_,_,_,_,_,h0,h1,_⟩=>by omega
 |n+1=>zLi hv B G1 G2 (qO hv hd B G1 G2 n) (zC9 hd B G1 (qO hv hd B G1 G2 n))
end
end My
namespace My
open PySem L2 PyProof.Rows WordM
section
variable{P:Program}{w:World}{K:W.Frag}{mg:Str->Option Value}{base:Heap}
theorem zLN{nm tx:List Str}{st sp:Int}(hw:fM nm tx st sp){n:Nat}{vs:List Tv}(h:∀v∈vs,VD nm tx (n+1) v):VsOk (VD nm tx n) vs:=by
 have hs:∀t∈vs.filterMap asS,t∈tx:=λt ht=>by
  obtain⟨v,hv,e⟩:=qd1_.mp ht
  rw[zHB]at e
  subst e
  exact h _ hv
 have hd:∀k∈vs.filterMap asD,VD nm tx (n+1) (.dct k):=λk hk=>by
  obtain⟨v,hv,e⟩:=qd1_.mp hk
  rw[zHD]at e
  subst e
  exact h _ hv
 have hn:∀x∈aO (vs.filterMap asD),x∈nm:=λx hx=>by
  obtain⟨k,hk,hx⟩:=qr1_.mp hx
  obtain⟨kt,hkt,rfl⟩:=qf_.mp hx
  exact((hd k hk).2.2 kt hkt).1
 refine⟨λt ht=>?_,?_,λl hl=>?_,λk hk=>(hd k hk).1,λk hk kt hkt=>?_,?_⟩
 ·have:=hw.ts t (hs t ht)
  exact⟨this.1,by have:=this.2;omega⟩
 ·have:=WordM.nodup_len (cX (vs.filterMap asS)) (m:=tx) λx hx=>hs x ((cO _ x).mp hx)
  have:=hw.t9
  omega
 ·obtain⟨v,hv,e⟩:=qd1_.mp hl
  rw[zHC]at e
  subst e
  exact(h _ hv).2
 ·have a:=(hd k hk).2.2 kt hkt
  have:=hw.ns kt.1 a.1
  exact⟨⟨this.1,by have:=this.2;omega⟩,a.2⟩
 ·have:=WordM.nodup_len (cX (aO (vs.filterMap asD))) (m:=nm) λx hx=>hn x ((cO _ x).mp hx)
  have:=hw.n11
  omega
def WD(n:Nat)(V:Tv->Prop):Prop:=∃nm tx st sp,fM nm tx st sp/\V=VD nm tx n
theorem dOk(n:Nat):DOk (bM n):=⟨uJ n,zGk n⟩
def D0:List Tv->List Pt:=λ_=>[]
def W0:(Tv->Prop)->Prop:=λV=>∀v,¬ V v
section
variable{D:List Tv->List Pt}{W W':(Tv->Prop)->Prop}{lv:Nat}
theorem zHt(hj:Has K mg "joined" mP)(hp:Has K mg "parts_joined" oX)(hl:Has K mg "lists_joined" oY)(hd:Has K mg "dicts_joined" oZ)(ht:Has K mg "tables_joined" pA)(ha:Has K mg "all_joined" mO)(hr:Has K mg "records_joined" pB)(hf:Has K mg "field_joined" pC)(B:Own mg)
  (G16_:PGood P w K mg base 2 "part_for" ["form","kind"] mZ) (G4_:PGood P w K mg base 3 "run_joined" ["one","other"] oF) (G14_:PGood P w K mg base 5 "words_joined" ["one","other"] lG) (G22_:PGood P w K mg base 1 "fields_by_name" ["record"] mS) (G25_:PGood P w K mg base 5 "name_words" ["part"] pE) (G17_:PGood P w K mg base 1 "forms_within" ["part"] pF)
  (GMOST_FIELDS:eF K mg "MOST_FIELDS" (iT 8)) (GKINDS:eF K mg "KINDS" (.seq true (kN6.map λk=>sT (cR k))))
  (hD:DOk D) (hW:∀V':Tv->Prop,W' V'->∃V:Tv->Prop,W V/\∀vs:List Tv,(∀v∈vs,V' v)->VsOk V vs)
  (G30_:PGood P w K mg base lv "joined" ["one","other"] (ptJ D W)):PGood P w K mg base (lv+9) "joined" ["one","other"] (ptJ (nxD D) W'):=
 zDb (lv:=lv) hj B G16_ (zLq hp B G4_ G14_ (zLr hl B G30_) (zLs hd B G22_ (zLv hr B G22_ (zLw hf B G30_)) (zLt ht B G25_ G14_ (xW ha B G30_) G17_) GMOST_FIELDS)) GKINDS hD hW
theorem vE(D:List Tv->List Pt)(k:Nat):bH D [] k=none:=by
 unfold bH
 split<;>rfl
theorem zBK(D:List Tv->List Pt):nxD D []=[]:=by
 unfold nxD
 rw[qb2_]
 exact λk _=>vE D k
theorem zIW(n:Nat):bM (n+1)=nxD (bM n):=funext λvs=>rfl
theorem rK{V:Tv->Prop}(h:∀v,¬ V v){A:List Tv}(hA:∀v∈A,V v):A=[]:=qY1_.mpr λv hv=>h v (hA v hv)
theorem zBV(hj:Has K mg "joined" mP)(hp:Has K mg "parts_joined" oX)(hl:Has K mg "lists_joined" oY)(hd:Has K mg "dicts_joined" oZ)(ht:Has K mg "tables_joined" pA)(ha:Has K mg "all_joined" mO)(hr:Has K mg "records_joined" pB)(hf:Has K mg "field_joined" pC)(B:Own mg)
  (G16_:PGood P w K mg base 2 "part_for" ["form","kind"] mZ) (G4_:PGood P w K mg base 3 "run_joined" ["one","other"] oF) (G14_:PGood P w K mg base 5 "words_joined" ["one","other"] lG) (G22_:PGood P w K mg base 1 "fields_by_name" ["record"] mS) (G25_:PGood P w K mg base 5 "name_words" ["part"] pE) (G17_:PGood P w K mg base 1 "forms_within" ["part"] pF)
  (GMOST_FIELDS:eF K mg "MOST_FIELDS" (iT 8)) (GKINDS:eF K mg "KINDS" (.seq true (kN6.map λk=>sT (cR k)))):∀n:Nat,PGood P w K mg base (9*n+9) "joined" ["one","other"] (ptJ (bM n) (WD n))
 |0=>by
  have z:PGood P w K mg base 8 "parts_joined" ["one","other"] (sV D0 (λ_=>True) W0):=hp.pfalse C29_ (fun|_,_,_,_,_,_,[_,_],_=>rfl) λas R ⟨V,_,V',h0,A,B',k,p,q,r,_,_,_,ha',h1,_⟩=>by
   have:A=[]:=rK h0 λv hv=>ha' v (qD_ _ hv)
   rw[this,vE]at h1
   cases h1
  have g:=zDb (lv:=0) (D:=D0) (W:=λ_=>True) (W':=W0) hj B G16_ z GKINDS ⟨λ_ _ _=>rfl,rfl⟩ (λV' h0=>⟨V',trivial,λvs hvs=>by
   rw[rK h0 hvs]
   exact⟨λt h=>(nomatch h),qs_ _,λt h=>(nomatch h),λt h=>(nomatch h),λt h=>(nomatch h),qs_ _⟩⟩)
  refine g.imp λas R ⟨V,⟨nm,tx,st,sp,hw,eV⟩,A,B',e,hA,hB,q⟩=>?_
  subst eV
  have h0:∀v,¬ VD nm tx 0 v:=λv h=>h
  have eA:=rK h0 hA
  have eB:=rK h0 hB
  subst eA eB
  refine⟨VD nm tx 0,h0,[],[],?_,λv h=>(nomatch h),λv h=>(nomatch h),?_⟩
  ·rw[e,zBK];rfl
  ·rw[qQ_,zBK];exact q
 |n+1=>by
  rw[zIW]
  exact zHt hj hp hl hd ht ha hr hf B G16_ G4_ G14_ G22_ G25_ G17_ GMOST_FIELDS GKINDS (dOk n) (λV' ⟨nm,tx,st,sp,hw,e⟩=>⟨VD nm tx n,⟨nm,tx,st,sp,hw,rfl⟩,λvs h=>zLN hw λv hv=>by have:=h v hv;rw[e]at this;exact this⟩) (zBV hj hp hl hd ht ha hr hf B G16_ G4_ G14_ G22_ G25_ G17_ GMOST_FIELDS GKINDS n)
end
end
end My
namespace My
open PySem L2 PyProof.Rows WordM
section
variable{P:Program}{w:World}{K:W.Frag}{mg:Str->Option Value}{base:Heap}
variable{n:Nat}
theorem wP{c:Nat}{S:Str}{A B:Prop}(h1:c∈cs S->A)(h2:c∉cs S->B):if (false != inS ⟨#[c]⟩ S)=true then A else B:=by
 have:(false != inS ⟨#[c]⟩ S)=decide (c∈cs S):=by unfold inS;rw[StrLaws.found_one];simp
 rw[this]
 exact jS h1 h2
def wK:PSp:=λas R=>∃c:Nat,as=[.va (sT ⟨#[c]⟩)]/\R (sT (eP c))
theorem C48_:bA ["_law_sign"] ["_law_sign"] (aN wY):=fsc (by decide +kernel)
theorem zLe(h:Has K mg "_law_mark" wY)(B:Own mg)    : PGood P w K mg base 1 "_law_mark" ["_law_sign"] wK:=by
 have nd:=C48_.nd
 refine h.pgood C48_ (fun|_,_,_,_,_,_,[_],_=>rfl) (λf cdv A outer s H E F hr=>
   (aI (bD (dF (mE hr.units) (aC 0) aY rfl)
    (aJ (aQ aY))
    bC)
   (aI (bD (dF (mE hr.units) (aC 0) aY rfl)
    (aJ (aQ aY))
    bC)
   (aI (bD (dF (mE hr.units) (aC 0) aY rfl)
    (aJ (aQ aY))
    bC)
   (aJ (aQ aY)))))) (λas R q=>?_)
 obtain⟨c,rfl,q⟩:=q
 unfold eP at q
 refine⟨rfl,_,rfl,wP (λa=>?_) (λa=>⟨_,rfl,wP (λb=>?_) (λb=>⟨_,rfl,wP (λd=>?_) (λd=>?_)⟩)⟩)⟩
 ·rw[if_pos (show c∈cs mM from a)]at q;exact q
 ·rw[if_neg (show c∉cs mM from a),if_pos (show c∈cs oC from b)]at q;exact q
 ·rw[if_neg (show c∉cs mM from a),if_neg (show c∉cs oC from b),if_pos (show c∈cs rD from d)]at q;exact q
 ·rw[if_neg (show c∉cs mM from a),if_neg (show c∉cs oC from b),if_neg (show c∉cs rD from d)]at q;exact q
end
section
variable{P:Program}{w:World}{K:W.Frag}{mg:Str->Option Value}{base:Heap}
def uF:PSp:=λas R=>∃a b:Int,as=[.va (iT a),.va (iT b)]/\R (iT (GcdM.g a b))
theorem C47_:bA ["_law_one","_law_other"] ["_law_one","_law_other"] (aN wZ):=fsc (by decide +kernel)
theorem zLf(h:Has K mg "_law_divisor" wZ)(B:Own mg)    : PGood P w K mg base 1 "_law_divisor" ["_law_one","_law_other"] uF:=by
 have nd:=C47_.nd
 refine h.pgood C47_ (fun|_,_,_,_,_,_,[_,_],_=>rfl) (λf cdv A outer s H E F hr=>
   (aI (nD qG_ (fS hr (aC 1) aG)
    (aJ (zHP (i:=0) (j:=1) rfl nd rfl rfl (by decide) rfl rfl (aD (aC 1) (aD (bN zGX (aC 0) (aC 1)) aE)) (by rfl))))
   (aJ (aQ (bE zIr rfl B.abs boot_abs (aD (aC 0) aE)))))) (λas R q=>?_)
 obtain⟨a,b,rfl,q⟩:=q
 refine⟨rfl,λm ρ=>∃x y:Int,m=y.natAbs/\GcdM.g x y=GcdM.g a b/\ρ=[.va (iT x),.va (iT y)],⟨_,a,b,rfl,rfl,rfl⟩,?_⟩
 rintro m _ ⟨x,y,rfl,e,rfl⟩
 refine⟨_,rfl,sif (λz=>?_) (λz=>?_)⟩
 ·have hy:y≠0:=by simpa[eqV]using z
  exact⟨hy,_,_,rfl,_,GcdM.fmod_less hy,y,x.fmod y,rfl,(GcdM.g_turnF hy).trans e,rfl⟩
 ·have hy:y=0:=by simpa[eqV]using z
  subst hy
  rw[GcdM.g_abs x]at e
  refine⟨_,rfl,?_⟩
  rw[e]
  exact q
def rS:PSp:=λas R=>∃ns:List Int,as=[.va (.seq false (ns.map iT))]/\ns≠[]/\R (pD (cZ ns))
theorem zAu{n0 d:Int}:∀{ns:List Int}{s:Int},d ∣ ns.foldl (λs n=>GcdM.g s (n-n0)) s↔d ∣ s/\∀n∈ns,d ∣ (n-n0)
 |[],s=>⟨λh=>⟨h,λn hn=>nomatch hn⟩,λh=>h.1⟩
 |a::ns,s=>by
  rw[qw1_,zAu,GcdM.g_dvd]
  constructor
  ·rintro⟨⟨h1,h2⟩,h3⟩
   refine⟨h1,λn hn=>?_⟩
   rcases qw_.mp hn with rfl|hn
   ·exact h2
   ·exact h3 n hn
  ·rintro⟨h1,h2⟩
   exact⟨⟨h1,h2 a (.head _)⟩,λn hn=>h2 n (.tail _ hn)⟩
theorem zA6{n0:Int}:∀{ns:List Int}{s:Int},0<=s->0<=ns.foldl (λs n=>GcdM.g s (n-n0)) s
 |[],s,h=>h
 |a::ns,s,h=>by rw[qw1_];exact zA6 (GcdM.g_nonneg _ _)
theorem C50_:bA ["_law_numbers","_law_step","_law_number_here"] ["_law_numbers"] (aN wX):=fsc (by decide +kernel)
theorem zLc(h:Has K mg "_law_run" wX)(B:Own mg)(G47_:PGood P w K mg base 1 "_law_divisor" ["_law_one","_law_other"] uF)   : PGood P w K mg base 2 "_law_run" ["_law_numbers"] rS:=by
 have nd:=C50_.nd
 refine h.pgood C50_ (fun|_,_,_,_,_,_,[_],_=>rfl) (λf cdv A outer s H E F hr=>
   (aI (aZ 1 nd aG)
   (aI (dX (m:=3) qG_ rfl (bY (aC 0)) (dC 2 (by decide) nd rfl (.inl rfl))
    (aJ (aZ 1 nd (aL G47_ hr (aD (aC 1) (aD (bN iR (aC 2) (aT hr (aC 0) aG)) aE))))))
   (aJ (aQ (cA (aD (bE (gW rfl) rfl B.min boot_min (aD (aC 0) aE)) (aD (bE (gC rfl) rfl B.max boot_max (aD (aC 0) aE)) (aD (aC 1) aE))))))))) (λas R q=>?_)
 obtain⟨ns,rfl,ne,q⟩:=q
 have l0:0<ns.length:=qQ1_.mpr ne
 obtain⟨n0,hn0⟩:∃n0,ns[0]?=some n0:=⟨_,qk_ l0⟩
 have n0m:=qE_ hn0
 have at0:atI (ns.map iT) 0=some (iT n0):=bG (j:=0) (by rw[qv_,hn0];rfl)
 refine⟨rfl,?_⟩
 refine gS iT (l:=ns) (λi ρ=>∃s2:Sl,ρ=[.va (.seq false (ns.map iT)),.va (iT ((ns.take i).foldl (λs n=>GcdM.g s (n-n0)) 0)),s2]) ⟨.no,rfl⟩ ?_ ?_
 ·rintro i a _ N ha ⟨s2,rfl⟩ hN
  refine⟨_,at0,_,a-n0,rfl,hN _ ⟨.va (iT a),?_⟩⟩
  rw[qz1_,ha,qH2_]
  rfl
 ·rintro _ ⟨s2,rfl⟩
  rw[qf1_]
  refine .inr (.inl ⟨ns,rfl,l0,λlo lo1 lo2=>.inr (.inl ⟨ns,rfl,l0,λhi hi1 hi2=>⟨by simp,?_⟩⟩)⟩)
  have e:(lo,hi,ns.foldl (λs n=>GcdM.g s (n-n0)) 0)=cZ ns:=uQ ⟨lo1,lo2,hi1,hi2,zA6 (qV1_ 0),λd=>by
   show d ∣ ns.foldl (λs n=>GcdM.g s (n-n0)) 0↔∀n,n∈ns->d ∣ (n-lo)
   rw[zAu]
   constructor
   ·rintro⟨_,h⟩ n hn
    have:=qE1_ (h n hn) (h lo lo1)
    rwa[show n-n0-(lo-n0)=n-lo by omega]at this
   ·intro h
    refine⟨qy1_ _,λn hn=>?_⟩
    have:=qE1_ (h n hn) (h n0 n0m)
    rwa[show n-lo-(n0-lo)=n-n0 by omega]at this⟩
  rw[<-e]at q
  exact q
theorem tP{t h:Str}(e:stW t h=true):cs t=cs h++cs (aV t h)/\(aV t h).length+h.length=t.length:=by
 obtain⟨r,er⟩:=stW_iff.mp e
 have:=kC er
 refine⟨by rw[this];exact er,?_⟩
 have l:=congrArg List.length er
 rw[qj_,<-WordM.len,<-WordM.len]at l
 rw[WordM.len (aV t h),this]
 omega
theorem zB5:∀{ss:List Str}{m:Nat},(∀s∈ss,s.length<=m)->(cD ss).length<=ss.length*m
 |[],m,_=>by simp[cD]
 |s::ss,m,h=>by
  have h1:=h s (.head _)
  have h2:=zB5 (ss:=ss) (m:=m) λt ht=>h t (.tail _ ht)
  have e:(cD (s::ss)).length=s.length+(cD ss).length:=by simp[cD,Str.length]
  rw[e,qI_,Nat.succ_mul]
  omega
theorem zHz{ss:List Str}{s:Str}{c:Nat}(hs:s∈ss)(hc:c∈cs s):c∈cD ss:=by
 unfold cD
 exact qr1_.mpr ⟨s,hs,hc⟩
def nP:PSp:=λas R=>∃ss:List Str,as=[.va (.seq false (ss.map sT))]/\ss≠[]/\(∀s∈ss,Sg s/\s.length<=43)/\(aH ss).length<64/\R (bV (bO ss))
theorem C49_:bA ["_law_texts","_law_some","_law_head","_law_rests","_law_longs","_law_marks"] ["_law_texts"] (aN kQ):=fsc (by decide +kernel)
theorem zLd(h:Has K mg "_law_words" kQ)(B:Own mg)(G48_:PGood P w K mg base 1 "_law_mark" ["_law_sign"] wK)   : PGood P w K mg base 2 "_law_words" ["_law_texts"] nP:=by
 have nd:=C49_.nd
 refine h.pgood C49_ (fun|_,_,_,_,_,_,[_],_=>rfl) (λf cdv A outer s H E F hr=>
   (aI (aZ 1 nd (bF (pM rfl rfl B.sorted rfl B.set_ (aC 0))))
   (aI (bD (dF kL (bE cF rfl B.len qo_ (aD (aC 1) aE)) aG)
    (aJ (aQ (cA (aD aY (aD (fK fL rfl B.tuple_ boot_tuple (aD (aC 1) aE)) aE)))))
    bC)
   (aI (aZ 2 nd (aT hr (aC 1) aG))
   (aI (nD qG_ (fS hr (bF (oM (sc:=aN kQ) (XN:=["_law_texts","_law_some","_law_head","_law_rests","_law_longs","_law_marks"]) (N:=["_law_text_here","_law_head"]) (fr:=[2]) (bY (aC 1)) (λ_ _ _ _ _=>(gV (lU (cS (rC PySem.F.slot_str_startswith PySem.F.type_str_startswith zEK (aC 0) (aD (aC 1) aE)))))) (λ_ _ _ _ _=>(aC 0)))) (bF (cH aE)))
    (aJ (aZ 2 nd (iD iW (aC 2) iH (iG (zCB zCj aG))))))
   (aI (fQ (sc:=aN kQ) (XN:=["_law_texts","_law_some","_law_head","_law_rests","_law_longs","_law_marks"]) (N:=["_law_text_here","_law_head"]) (fr:=[2]) 3 nd (bY (aC 1)) (λ_ _ _ _ _=>iO) (λ_ _ _ _ _=>(iD iW (aC 0) (iG (bE cF rfl B.len qo_ (aD (aC 1) aE))) iH)))
   (aI (fQ (sc:=aN kQ) (XN:=["_law_texts","_law_some","_law_head","_law_rests","_law_longs","_law_marks"]) (N:=["_law_rest"]) (fr:=[]) 4 nd (bY (aC 3)) (λ_ _ _ _ _=>iO) (λ_ _ _ _ _=>(bE cF rfl B.len qo_ (aD (aC 0) aE))))
   (aI (aZ 5 nd (bF (pM rfl rfl B.sorted rfl B.set_ (bF (fE (sc:=aN kQ) (XN:=["_law_texts","_law_some","_law_head","_law_rests","_law_longs","_law_marks"]) (N:=["_law_sign"]) (fr:=[]) (bY (rC PySem.F.slot_str_join PySem.F.type_str_join zBE aY (aD (aC 3) aE))) (λ_ _ _ _ _=>(aL G48_ hr (aD (aC 0) aE))))))))
   (aJ (aQ (cA (aD aY (aD (aC 2) (aD (bE (gW rfl) rfl B.min boot_min (aD (aC 4) aE)) (aD (bE (gC rfl) rfl B.max boot_max (aD (aC 4) aE)) (aD (fK fL rfl B.tuple_ boot_tuple (aD (aC 5) aE)) aE)))))))))))))))) (λas R q=>?_)
 obtain⟨ss,rfl,ne,ht,l64,q⟩:=q
 have hl:(aW (aH ss)).length=(aH ss).length:=tW _
 have hr:=fX ss
 have hm:∀x,x∈aW (aH ss)↔x∈ss:=λx=>sort_set_mem
 have hne:0<(aH ss).length:=by
  obtain⟨x,hx⟩:=qF1_ _ ne
  exact List.length_pos_of_mem ((cO ss x).mpr hx)
 have ewd:bO ss=if (aH ss).length<7 then .few (aW (aH ss)) else eR ss:=rfl
 refine⟨rfl,ss,rfl,l64,?_⟩
 generalize aW (aH ss)=us at hl hr hm ewd
 have hu:∀t∈us,Sg t/\t.length<=43:=λt h=>ht t ((hm t).mp h)
 refine⟨_,rfl,sif (λz=>?_) (λz=>?_)⟩
 ·have z:((us.map sT).length:Int)<7:=by simpa using z
  rw[qc_]at z
  rw[ewd,if_pos (by omega)]at q
  exact⟨_,_,rfl,by simp,q⟩
 have z:¬ ((us.map sT).length:Int)<7:=by simpa using z
 rw[qc_]at z
 have nd:us.Nodup:=kZ hr
 obtain⟨x0,hx0⟩:∃x0,us[0]?=some x0:=⟨_,qk_ (by omega)⟩
 have at0:atI (us.map sT) 0=some (sT x0):=bG (j:=0) (by rw[qv_,hx0];rfl)
 have x0m:=qE_ hx0
 refine⟨_,at0,?_⟩
 refine⟨λm ρ=>∃(h:Str) (s3 s4 s5:Sl),m=h.length/\Sg h/\h.length<=43/\((∃r,cs x0=cs h++r)/\∀h':List Nat,(∀t∈us,∃r,cs t=h'++r)->h'.length<=(cs h).length)/\ρ=[.va (.seq false (ss.map sT)),.va (.seq false (us.map sT)),.va (sT h),s3,s4,s5],⟨_,x0,_,_,_,rfl,(hu x0 x0m).1,(hu x0 x0m).2,⟨⟨[],by rw[qQ_]⟩,λh' hh=>by obtain⟨r,e⟩:=hh x0 x0m;rw[e,qj_];omega⟩,rfl⟩,?_⟩
 rintro m _ ⟨h,s3,s4,s5,rfl,sh,lh,⟨hpre,htop⟩,rfl⟩
 refine⟨by rw[qc_];omega,?_⟩
 refine jZ sT (λt=>if stW t h=true then none else some (sT t)) (λt ht' R q=>⟨rfl,_,_,rfl,rfl,_,rfl,sif (λz=>?_) (λz=>?_)⟩) ?_
 ·have z:(!stW t h)=true:=z
  have z:stW t h=false:=by cases e:stW t h with|false=>rfl|true=>rw[e]at z;cases z
  rw[if_neg (by rw[z];exact ql_)]at q
  exact q
 ·have z:(!stW t h)=false:=z
  have z:stW t h=true:=by cases e:stW t h with|true=>rfl|false=>rw[e]at z;cases z
  rw[if_pos z]at q
  exact q
 refine⟨by simp,.inr (.inl rfl),_,rfl,sif (λz=>?_) (λz=>?_)⟩
 ·have hpos:0<h.length:=by
   refine Nat.pos_of_ne_zero λe=>?_
   have:(us.filterMap λt=>if stW t h=true then none else some (sT t))=[]:=qb2_.mpr λt _=>by
    rw[if_pos]
    refine stW_iff.mpr ⟨cs t,?_⟩
    rw[WordM.len]at e
    rw[qO1_ e];rfl
   rw[this]at z
   simp[cL]at z
  have l':=zDo hpos
  have cl':=zE hpos
  have hlen:h.length=(cs h).length:=WordM.len h
  have nst:¬ ∀t∈us,stW t h=true:=λhall=>by
   have:(us.filterMap λt=>if stW t h=true then none else some (sT t))=[]:=qb2_.mpr λt ht'=>by rw[if_pos (hall t ht')]
   rw[this]at z
   simp[cL]at z
  refine⟨_,rfl,by omega,_,by rw[l'];omega,Txt.slice h none (some (-1)),_,_,_,rfl,sh.slice _ _,by rw[l'];omega,⟨?_,λh' hh=>?_⟩,rfl⟩
  ·obtain⟨r,e⟩:=hpre
   refine⟨(cs h).drop (h.length-1)++r,?_⟩
   rw[cl',<-qK1_,qM2_]
   exact e
  ·rw[cl',qR_]
   have h1:=htop h' hh
   have:h'.length≠(cs h).length:=λe=>nst λt ht'=>by
    obtain⟨r1,e1⟩:=hpre
    obtain⟨r2,e2⟩:=hh x0 x0m
    have eh:h'=cs h:=List.append_inj_left (e2.symm.trans e1) e
    obtain⟨r,e3⟩:=hh t ht'
    exact stW_iff.mpr ⟨r,by rw[e3,eh]⟩
   omega
 have hall:∀t∈us,stW t h=true:=by
  have:(us.filterMap λt=>if stW t h=true then none else some (sT t))=[]:=by
   generalize (us.filterMap λt=>if stW t h=true then none else some (sT t))=L at z
   cases L with
   |nil=>rfl
   |cons a L=>simp[cL]at z
  intro t ht'
  have:=qb2_.mp this t ht'
  cases e:stW t h with
  |true=>rfl
  |false=>rw[e]at this;simp at this
 have rl:∀t∈us,(aV t h).length<=43:=λt ht'=>by
  have:=(tP (hall t ht')).2
  have:=(hu t ht').2
  omega
 refine⟨by rw[qc_];omega,dR sT (λt=>sT (aV t h)) (λt ht' R q=>⟨by omega,_,rfl,by have:=(hu t ht').2;omega,q⟩) ?_⟩
 refine⟨by rw[qc_];omega,dR (λt=>sT (aV t h)) (λt=>iT ((aV t h).length:Nat)) (λt ht' R q=>⟨by have:=rl t ht';omega,q⟩) ?_⟩
 have cl:(cD (us.map λt=>aV t h)).length<=64*43:=by
  have:=zB5 (ss:=us.map λt=>aV t h) (m:=43) λs hs=>by
   obtain⟨t,ht',rfl⟩:=qf_.mp hs
   exact rl t ht'
  rw[qc_]at this
  have:=qt1_ 43 (show us.length<=64 by omega)
  omega
 refine⟨rfl,us.map λt=>aV t h,rfl,by rw[qz_];rfl,by omega,?_⟩
 refine⟨by rw[qc_];show(cD (us.map λt=>aV t h)).length<=100000;omega,?_⟩
 refine dR (λc:Nat=>sT ⟨#[c]⟩) (λc=>sT (eP c)) (λc hc R q=>⟨c,rfl,q⟩) ?_
 have mkm:∀m∈(cD (us.map λt=>aV t h)).map eP,m∈MK:=λm hm=>by
  obtain⟨c,_,rfl⟩:=qf_.mp hm
  exact WordM.mark_in c
 have sl4:(aH ((cD (us.map λt=>aV t h)).map eP)).length<=4:=WordM.nodup_len (cX _) (m:=MK) λx hx=>mkm x ((cO _ x).mp hx)
 refine⟨(cD (us.map λt=>aV t h)).map eP,by rw[qz_];rfl,by omega,?_⟩
 have en:(us.map λt=>iT ((aV t h).length:Nat))=(us.map λt=>(((aV t h).length:Nat):Int)).map iT:=by rw[qz_];rfl
 refine .inr (.inl ⟨us.map λt=>(((aV t h).length:Nat):Int),by rw[<-en],by rw[qc_];omega,λlo lo1 lo2=>.inr (.inl ⟨us.map λt=>(((aV t h).length:Nat):Int),by rw[<-en],by rw[qc_];omega,λhi hi1 hi2=>⟨_,_,rfl,by simp,?_⟩⟩)⟩)
 have rf:∀t∈us,(t.length:Int)-(h.length:Int)=((aV t h).length:Nat):=λt ht'=>by have:=(tP (hall t ht')).2;omega
 have mo:MOf us h lo hi (aW (aH ((cD (us.map λt=>aV t h)).map eP))):=by
  obtain⟨t1,t1m,e1⟩:=qf_.mp lo1
  obtain⟨t2,t2m,e2⟩:=qf_.mp hi1
  refine⟨⟨λt ht'=>⟨_,(tP (hall t ht')).1⟩,htop⟩,⟨t1,t1m,by rw[rf t1 t1m];exact e1⟩,λt ht'=>by rw[rf t ht'];exact lo2 _ (qf_.mpr ⟨t,ht',rfl⟩),⟨t2,t2m,by rw[rf t2 t2m];exact e2⟩,λt ht'=>by rw[rf t ht'];exact hi2 _ (qf_.mpr ⟨t,ht',rfl⟩),?_⟩
  refine mY (fX _) (pK _ _) λm=>?_
  rw[sort_set_mem,mW,qf_]
  constructor
  ·rintro⟨c,hc,e⟩
   obtain⟨x,hx,hc⟩:=qr1_.mp (show c∈(us.map λt=>aV t h).flatMap cs from hc)
   obtain⟨t,ht',rfl⟩:=qf_.mp hx
   exact⟨t,ht',c,hc,e⟩
  ·rintro⟨t,ht',c,hc,e⟩
   exact⟨c,zHz (qf_.mpr ⟨t,ht',rfl⟩) hc,e⟩
 rw[ewd,if_neg (by omega),vR (us:=us) ne λx=>(hm x).symm,<-qU mo]at q
 exact q
end
end My
namespace My
open PySem L2 PyProof.Rows WordM
section
variable{P:Program}{w:World}{K:W.Frag}{mg:Str->Option Value}{base:Heap}
abbrev iY(k:List (Str×Tv)):List Str:=k.map (·.1)
def cW(ks:List (List (Str×Tv))):List Str:=ks.flatMap iY
theorem allK_mem{ks:List (List (Str×Tv))}{x:Str}:x∈cW ks↔∃k∈ks,x∈iY k:=qr1_
theorem zHv{a b:Nat}:(false != eqV (.int (a:Nat)) (.int (b:Nat)))=true↔a=b:=by
 constructor
 ·intro z
  have:(a:Int)=(b:Int):=by simpa[eqV]using z
  omega
 ·intro e
  subst e
  simp[eqV]
theorem zCv{α β:Type}{g:α->Option β}:∀{ks:List α},(ks.filterMap g).length=ks.length↔∀k∈ks,(g k).isSome=true
 |[]=>by simp
 |k::ks=>by
  have ih:=zCv (g:=g) (ks:=ks)
  have le:=qn2_ g ks
  rw[qH_]
  cases e:g k with
  |none=>
   simp only[List.length_cons,List.forall_mem_cons,e]
   constructor
   ·intro h;omega
   ·intro h;exact absurd h.1 (by simp)
  |some v=>
   simp only[List.length_cons,List.forall_mem_cons,e,Option.isSome_some,true_and]
   rw[<-ih];omega
theorem look_some{k:List (Str×Tv)}{x:Str}:(bS k x).isSome=true↔x∈iY k:=by
 cases e:bS k x with
 |none=>exact⟨λh=>(nomatch h),λh=>absurd h (lookD_none.mp e)⟩
 |some U=>exact⟨λ_=>qf_.mpr ⟨_,uH e,rfl⟩,λ_=>rfl⟩
theorem zBj{ks:List (List (Str×Tv))}(h:∀k∈ks,k.length<=11)(i:Nat):(cW (ks.take i)).length<=ks.length*11:=by
 have h1:∀l:List (List (Str×Tv)),(∀k∈l,k.length<=11)->(cW l).length<=l.length*11:=λl=>by
  induction l with
  |nil=>intro _;simp[cW]
  |cons k l ih=>
   intro hk
   have a:=hk k (.head _)
   have b:=ih λx hx=>hk x (.tail _ hx)
   show(iY k++cW l).length<=_
   rw[qj_,qc_,qI_]
   omega
 have:=h1 (ks.take i) λk hk=>h k (List.mem_of_mem_take hk)
 rw[qR_]at this
 have:min i ks.length*11<=ks.length*11:=qt1_ _ (qZ2_ _ _)
 omega
def gZ(ks:List (List (Str×Tv))):List Tv:=ks.flatMap λk=>k.map (·.2)
theorem zX{ks:List (List (Str×Tv))}(h:∀k∈ks,k.length<=11)(i:Nat):(gZ (ks.take i)).length<=ks.length*11:=by
 have e:∀l:List (List (Str×Tv)),(gZ l).length=(cW l).length:=λl=>by
  induction l with
  |nil=>rfl
  |cons k l ih=>
   show(k.map (·.2)++gZ l).length=(iY k++cW l).length
   rw[qj_,qj_,ih,qc_,qc_]
 rw[e];exact zBj h i
theorem zAF{ks:List (List (Str×Tv))}{i:Nat}{k:List (Str×Tv)}(h:ks[i]?=some k):cW (ks.take (i+1))=cW (ks.take i)++iY k:=by
 obtain⟨hi,rfl⟩:=qx_.mp h
 unfold cW
 rw[qB2_ hi,qS2_]
 simp
theorem zD{ks:List (List (Str×Tv))}{i:Nat}{k:List (Str×Tv)}(h:ks[i]?=some k):gZ (ks.take (i+1))=gZ (ks.take i)++k.map (·.2):=by
 obtain⟨hi,rfl⟩:=qx_.mp h
 unfold gZ
 rw[qB2_ hi,qS2_]
 simp
structure VDs (nm tx:List Str) (n:Nat) (vs:List Tv):Prop where
 six:∀v∈vs,v=nT\/(∃b,v=bT b)\/(∃i,v=iT i)\/(∃s,v=sT s)\/(∃xs,v=.seq false xs)\/∃k,v=.dct k
 txt:∀s,sT s∈vs->s∈tx
 pos:vs≠[]->∃n',n=n'+1
 len:vs.length<=100000
 lst:∀n' x,n=n'+1->Tv.seq false x∈vs->∀y∈x,VD nm tx n' y
 fl:∀n' (xs:List (List Tv)),n=n'+1->(xs.map (Tv.seq false)).Sublist vs->xs.flatten.length*11 ^ n'<=1100000/\xs.flatten.length<=100000
 dct:∀k,Tv.dct k∈vs->VD nm tx n (.dct k)
 dl:∀ks:List (List (Str×Tv)),(ks.map Tv.dct).Sublist vs->ks.length*11 ^ n<=1100000
theorem VD.six{nm tx:List Str}{n:Nat}{v:Tv}(h:VD nm tx n v):v=nT\/(∃b,v=bT b)\/(∃i,v=iT i)\/(∃s,v=sT s)\/(∃xs,v=.seq false xs)\/∃k,v=.dct k:=by
 cases n with
 |zero=>exact False.elim h
 |succ n=>
  cases v with
  |leaf v=>cases v with
   |non=>exact .inl rfl
   |bl b=>exact .inr (.inl ⟨b,rfl⟩)
   |int i=>exact .inr (.inr (.inl ⟨i,rfl⟩))
   |str s=>exact .inr (.inr (.inr (.inl ⟨s,rfl⟩)))
   |_=>exact False.elim h
  |seq t xs=>cases t with
   |false=>exact .inr (.inr (.inr (.inr (.inl ⟨xs,rfl⟩))))
   |true=>exact False.elim h
  |dct k=>exact .inr (.inr (.inr (.inr (.inr ⟨k,rfl⟩))))
theorem vY{c:Nat}:∀l:List (List Tv),(∀x∈l,x.length<=c)->l.flatten.length<=l.length*c
 |[],_=>by simp
 |a::l,h=>by
  have h1:=h a (.head _)
  have h2:=vY l λx hx=>h x (.tail _ hx)
  rw[qo1_,qj_,qI_,Nat.add_mul]
  omega
theorem VDs.of{nm tx:List Str}{n:Nat}{vs:List Tv}(hv:∀v∈vs,VD nm tx n v)(hl:vs.length*11 ^ n<=1100000):VDs nm tx n vs:=by
 have pos:vs≠[]->∃n',n=n'+1:=λne=>by
  obtain⟨v,hvm⟩:=qF1_ _ ne
  cases n with
  |zero=>exact False.elim (hv v hvm)
  |succ n=>exact⟨n,rfl⟩
 have h0:∀n',n=n'+1->vs.length*11*11 ^ n'<=1100000:=λn' e=>by
  subst e
  rw[qC2_]at hl
  rw[qU2_,qP1_ 11]
  exact hl
 refine⟨λv h=>VD.six (hv v h),λs h=>?_,pos,?_,λn' x e h=>?_,λn' xs e h=>?_,λk h=>hv _ h,λks h=>?_⟩
 ·obtain⟨n',rfl⟩:=pos λe=>by rw[e]at h;cases h
  exact hv _ h
 ·cases n with
  |zero=>
   have:vs=[]:=qY1_.mpr λv h=>hv v h
   rw[this];exact qs_ _
  |succ n=>
   have p2:1<=11 ^ n:=qV2_ _ _ (by decide)
   have:=qh_ (qW2_ (vs.length*11) p2) (h0 n rfl)
   omega
 ·subst e
  exact(hv _ h).2
 ·have xv:∀x∈xs,x.length<=11/\∀y∈x,VD nm tx n' y:=λx hx=>by
   subst e
   exact hv _ (h.subset (qf_.mpr ⟨x,hx,rfl⟩))
  have l1:=vY xs λx hx=>(xv x hx).1
  have l2:=h.length_le
  rw[qc_]at l2
  have l3:xs.flatten.length<=vs.length*11:=qh_ l1 (qt1_ _ l2)
  have l4:=qh_ (qt1_ (11 ^ n') l3) (h0 n' e)
  refine⟨l4,?_⟩
  cases n' with
  |zero=>
   have:xs.flatten=[]:=List.flatten_eq_nil_iff.mpr λx hx=>qY1_.mpr λy hy=>(xv x hx).2 y hy
   rw[this];exact qs_ _
  |succ n'=>
   have p2:1<=11 ^ n':=qV2_ _ _ (by decide)
   rw[qC2_,qP1_ (11 ^ n'),<-qU2_]at l4
   have:=qh_ (qW2_ _ p2) l4
   omega
 ·have l2:=h.length_le
  rw[qc_]at l2
  exact qh_ (qt1_ _ l2) hl
theorem VDs.long{nm tx:List Str}{n:Nat}{x:List Tv}(hv:∀y∈x,VD nm tx n y)(hl:x.length*11 ^ n<=1100000)(hx:x.length<=100000):VDs nm tx (n+1) [.seq false x]:=by
 have no:∀{T:Tv},T∈[Tv.seq false x]->T=.seq false x:=λh=>qa1_.mp h
 refine⟨λv h=>.inr (.inr (.inr (.inr (.inl ⟨x,no h⟩)))),λs h=>(nomatch no h),λ_=>⟨n,rfl⟩,by simp,λn' y e h z hz=>?_,λn' xs e h=>?_,λk h=>(nomatch no h),λks h=>?_⟩
 ·cases e
  cases no h
  exact hv z hz
 ·cases e
  have l2:=h.length_le
  rw[qc_]at l2
  have l1:=vY (c:=x.length) xs λy hy=>by
   have:=no (h.subset (qf_.mpr ⟨y,hy,rfl⟩))
   cases this
   exact qe_ _
  have l3:xs.flatten.length<=x.length:=qh_ l1 (qh_ (qt1_ _ l2) (by simp))
  exact⟨qh_ (qt1_ _ l3) hl,by omega⟩
 ·cases ks with
  |nil=>simp
  |cons k ks=>exact nomatch no (h.subset (.head _))
def mF(m:Nat):PSp:=λas R=>∃(n:Nat) (nm tx:List Str) (st sp:Int) (vs:List Tv),as=[.va (.seq false vs)]/\fM nm tx st sp/\VDs nm tx n vs/\n<m/\n<=50/\R (bZ (bM n vs))
def zBz(m:Nat):PSp:=λas R=>∃(n:Nat) (nm tx:List Str) (st sp:Int) (ks:List (List (Str×Tv))),as=[.va (.seq false (ks.map Tv.dct))]/\fM nm tx st sp/\(∀k∈ks,VD nm tx (n+1) (.dct k))/\ks≠[]/\ks.length*11 ^ (n+1)<=1100000/\n<m/\n<=50/\R (aX (dcP (bM n) ks))
variable{m:Nat}
theorem C51_:bA ["_law_dicts_here","_law_names","_law_one","_law_least","_law_most","_law_values","_law_fields","_law_name"] ["_law_dicts_here"] (aN kP):=fsc (by decide +kernel)
theorem zLb(h:Has K mg "_law_dicts" kP)(B:Own mg)(G52_:PGood P w K mg base (3+2*m) "_law_due" ["_law_values"] (mF m))(G49_:PGood P w K mg base 2 "_law_words" ["_law_texts"] nP)   : PGood P w K mg base (3+2*m+1) "_law_dicts" ["_law_dicts_here"] (zBz m):=by
 have nd:=C51_.nd
 refine h.pgood C51_ (fun|_,_,_,_,_,_,[_],_=>rfl) (λf cdv A outer s H E F hr=>
   (aI (hJ 1 nd (cH aE))
   (aI (dX (m:=8) qG_ rfl (bY (aC 0)) (dC 2 (by decide) nd rfl (.inl rfl))
    (aJ (eO (tV 1 (bF (pX (zFK rfl) rfl B.list_ boot_list (aD (aC 2) aE)))))))
   (aI (hJ 1 nd (pM rfl rfl B.sorted rfl B.set_ (aC 1)))
   (aI (aZ 3 nd (bE (gW rfl) rfl B.min boot_min (aD (bF (fE (sc:=aN kP) (XN:=["_law_dicts_here","_law_names","_law_one","_law_least","_law_most","_law_values","_law_fields","_law_name"]) (N:=["_law_one"]) (fr:=[]) (bY (aC 0)) (λ_ _ _ _ _=>(bE cF rfl B.len qo_ (aD (aC 0) aE))))) aE)))
   (aI (aZ 4 nd (bE (gC rfl) rfl B.max boot_max (aD (bF (fE (sc:=aN kP) (XN:=["_law_dicts_here","_law_names","_law_one","_law_least","_law_most","_law_values","_law_fields","_law_name"]) (N:=["_law_one"]) (fr:=[]) (bY (aC 0)) (λ_ _ _ _ _=>(bE cF rfl B.len qo_ (aD (aC 0) aE))))) aE)))
   (aI (bD (dF zCG (vH λF=>(bE cF rfl B.len qo_ (aD (aC 1) aE))) aG)
    (aI (hJ 5 nd (cH aE))
    (aI (dX (m:=8) qG_ rfl (bY (aC 0)) (dC 2 (by decide) nd rfl (.inl rfl))
     (aJ (eO (tV 5 (bF (zFu rfl rfl B.list_ (aC 2)))))))
    (aJ (aQ (cA (aD aY (aD (aC 3) (aD (aC 4) (aD (aL G49_ hr (aD (aC 1) aE)) (aD (aL G52_ hr (aD (aC 5) aE)) aE))))))))))
    bC)
   (aI (hJ 6 nd (cH aE))
   (aI (dX (m:=8) qG_ rfl (bY (aC 1)) (dC 7 (by decide) nd rfl (.inr rfl))
    (aI (zGD (i:=5) (sc:=aN kP) (XN:=["_law_dicts_here","_law_names","_law_one","_law_least","_law_most","_law_values","_law_fields","_law_name"]) (N:=["_law_one","_law_name"]) (own:=1) (fr:=[7]) rfl nd rfl (.inl rfl) ⟨rfl,by decide +kernel,by decide +kernel,by decide +kernel,rfl,by decide +kernel,by decide,by decide +kernel⟩ (by decide) (bY (aC 0)) (λ_ _ _ _ _=>(dC 0 (by decide) (show(["_law_one","_law_name"]:List Str).Nodup by decide +kernel) rfl (by first|exact Or.inl rfl|exact Or.inr rfl))) (λ_ _ _ _ _=>(gV (dF (mE hr.units) (aC 1) (aC 0) rfl))) (λ_ _ _ _ _=>(aT hr (aC 0) (aC 1))))
    (aJ (eO (fZ 6 (cA (aD (aC 7) (aD (gG (kM hr.units).op (vH λF=>(bE cF rfl B.len qo_ (aD (aC 5) aE))) (bE cF rfl B.len qo_ (aD (aC 0) aE))) (aD (aL G52_ hr (aD (aC 5) aE)) aE)))))))))
   (aJ (aQ (cA (aD aY (aD (aC 3) (aD (aC 4) (aD (fK fL rfl B.tuple_ boot_tuple (aD (aC 6) aE)) aE)))))))))))))))) (λas R q=>?_)
 obtain⟨n,nm,tx,st,sp,ks,rfl,hw,hk,kne,hl,nm',n50,q⟩:=q
 have knd:∀k∈ks,(iY k).Nodup:=λk h=>(hk k h).1
 have k11:∀k∈ks,k.length<=11:=λk h=>(hk k h).2.1
 have knm:∀k∈ks,∀x∈iY k,x∈nm:=λk h x hx=>by
  obtain⟨kt,hkt,rfl⟩:=qf_.mp hx
  exact((hk k h).2.2 kt hkt).1
 have p1:1<=11 ^ n:=qV2_ _ _ (by decide)
 have hl2:ks.length*11*11 ^ n<=1100000:=by rw[qC2_]at hl;rw[qU2_,qP1_ 11];exact hl
 have hl3:ks.length<=100000:=by
  have:=qh_ (qW2_ (ks.length*11) p1) hl2
  omega
 have kb:∀j,(cW (ks.take j)).length<=100000/\(gZ (ks.take j)).length<=100000:=λj=>by
  have a:=zBj k11 j
  have b:=zX k11 j
  cases n with
  |zero=>
   have z:∀k∈ks.take j,k=[]:=λk h=>qY1_.mpr λkt hkt=>((hk k (List.mem_of_mem_take h)).2.2 kt hkt).2
   have e1:cW (ks.take j)=[]:=List.flatMap_eq_nil_iff.mpr λk h=>by rw[z k h];rfl
   have e2:gZ (ks.take j)=[]:=List.flatMap_eq_nil_iff.mpr λk h=>by rw[z k h];rfl
   rw[e1,e2]
   exact⟨qs_ _,qs_ _⟩
  |succ n=>
   have p2:1<=11 ^ n:=qV2_ _ _ (by decide)
   have:ks.length*11*11<=1100000:=by
    refine qh_ (qW2_ _ p2) ?_
    rw[qU2_ (ks.length*11),qP1_ 11 (11 ^ n),<-qC2_]
    exact hl2
   omega
 have kpos:0<ks.length:=qQ1_.mpr kne
 refine⟨rfl,by simp,?_⟩
 refine gS Tv.dct (l:=ks) (λi ρ=>∃s2,ρ=[.va (.seq false (ks.map Tv.dct)),.own ((cW (ks.take i)).map sT),s2,.no,.no,.no,.no,.no]) ⟨_,rfl⟩ ?_ ?_
 ·rintro i k _ N hki ⟨s2,rfl⟩ hN
  have l1:=(kb (i+1)).1
  rw[zAF hki,qj_,qc_]at l1
  refine⟨⟨_,rfl⟩,k,rfl,_,_,rfl,rfl,by rw[qc_,qc_];omega,hN _ ⟨.va (.dct k),?_⟩⟩
  show [Sl.va (.seq false (ks.map Tv.dct)),.own ((cW (ks.take i)).map sT++k.map λkt=>sT kt.1),.va (.dct k),.no,.no,.no,.no,.no]=_
  rw[zAF hki,qJ_,qz_]
  rfl
 rintro _ ⟨s2,rfl⟩
 rw[qf1_]
 have sl:(aH (cW ks)).length<=11:=by
  have:=WordM.nodup_len (cX (cW ks)) (m:=nm) λx hx=>by
   obtain⟨k,h1,h2⟩:=allK_mem.mp ((cO _ x).mp hx)
   exact knm k h1 x h2
  rw[hw.n11]at this
  exact this
 refine⟨cW ks,rfl,by omega,?_⟩
 have hr:=fX (cW ks)
 have hm:∀x,x∈aW (aH (cW ks))↔∃k∈ks,x∈iY k:=λx=>sort_set_mem.trans allK_mem
 have nl:(aW (aH (cW ks))).length<=11:=by rw[tW];exact sl
 have enm:∀x,x∈aW (aH (cW ks))↔x∈aO ks:=λx=>sort_set_mem
 have slm:(aW (aH (cW ks))).length=(aH (aO ks)).length:=tW _
 have erc:bP (bM n) ks=(aW (aH (cW ks))).map (cV (bM n) ks):=rfl
 generalize aW (aH (cW ks))=names at hr hm nl enm slm erc
 have nn:∀x∈names,Sg x/\x.length<=40:=λx hx=>by
  obtain⟨k,h1,h2⟩:=(hm x).mp hx
  exact hw.ns x (knm k h1 x h2)
 have lens:(ks.map λk=>iT (k.length:Nat))=(ks.map λk=>((k.length:Nat):Int)).map iT:=by rw[qz_];rfl
 refine⟨by rw[qc_];omega,dR Tv.dct (λk=>iT (k.length:Nat)) (λk hk R q=>q) ?_⟩
 refine .inr (.inl ⟨ks.map λk=>((k.length:Nat):Int),by rw[lens],by rw[qc_];exact kpos,λa a1 a2=>?_⟩)
 refine⟨by rw[qc_];omega,dR Tv.dct (λk=>iT (k.length:Nat)) (λk hk R q=>q) ?_⟩
 refine .inr (.inl ⟨ks.map λk=>((k.length:Nat):Int),by rw[lens],by rw[qc_];exact kpos,λb b1 b2=>?_⟩)
 have ea:bL (bI ks)=a:=nQ a1 a2
 have eb:bQ (bI ks)=b:=nR b1 b2
 refine⟨_,rfl,_,rfl,sif (λz=>?_) (λz=>?_)⟩
 ·have z:(8:Int)<((names.map sT).length:Nat):=by simpa using z
  rw[qc_]at z
  refine⟨by simp,?_⟩
  refine gS Tv.dct (l:=ks) (λi ρ=>∃s2,ρ=[.va (.seq false (ks.map Tv.dct)),.own (names.map sT),s2,.va (iT a),.va (iT b),.own (gZ (ks.take i)),.no,.no]) ⟨_,rfl⟩ ?_ ?_
  ·rintro i k _ N hki ⟨s2,rfl⟩ hN
   have l1:=(kb (i+1)).2
   rw[zD hki,qj_,qc_]at l1
   refine⟨⟨_,rfl⟩,k,rfl,_,_,rfl,rfl,by rw[qc_];omega,hN _ ⟨.va (.dct k),?_⟩⟩
   rw[zD hki]
   rfl
  rintro _ ⟨s2,rfl⟩
  rw[qf1_]
  have vl:=zX k11 ks.length
  rw[qf1_]at vl
  have snd:(aH names).length=names.length:=by
   have h1:=WordM.nodup_len (cX names) (m:=names) λx hx=>(cO _ x).mp hx
   have h2:=WordM.nodup_len (kZ hr) (m:=aH names) λx hx=>(cO _ x).mpr hx
   omega
  refine⟨names,rfl,λe=>by rw[e]at z;simp at z,λx hx=>⟨(nn x hx).1,by have:=(nn x hx).2;omega⟩,by omega,?_⟩
  rw[gE (by omega),ea,eb,<-lC enm,fJ]at q
  refine⟨n,nm,tx,st,sp,gZ ks,rfl,hw,VDs.of (λv hv=>?_) ?_,nm',n50,by simp,q⟩
  ·obtain⟨k,h1,h2⟩:=qr1_.mp hv
   obtain⟨kt,h3,rfl⟩:=qf_.mp h2
   exact((hk k h1).2.2 kt h3).2
  ·exact qh_ (qt1_ _ vl) hl2
 ·have z:¬ (8:Int)<((names.map sT).length:Nat):=by simpa using z
  rw[qc_]at z
  refine⟨by simp,?_⟩
  refine gS sT (l:=names) (λi ρ=>∃(s2 s5 s7:Sl),ρ=[.va (.seq false (ks.map Tv.dct)),.va (.seq false (names.map sT)),s2,.va (iT a),.va (iT b),s5,.own (((names.take i).map (cV (bM n) ks)).map cE),s7]) ⟨_,_,_,rfl⟩ ?_ ?_
  ·rintro i x _ N hx ⟨s2,s5,s7,rfl⟩ hN
   have xm:=qE_ hx
   refine⟨by rw[qc_];omega,?_⟩
   refine jZ Tv.dct (λk=>bS k x) (λk hk R q=>⟨_,rfl,sif (λz=>?_) (λz=>?_)⟩) ?_
   ·cases e:bS k x with
    |none=>rw[e]at z;cases z
    |some U=>rw[e]at q;exact⟨U,e,q⟩
   ·cases e:bS k x with
    |none=>rw[e]at q;exact q
    |some U=>rw[e]at z;cases z
   have vle:=qn2_ (λk=>bS k x) ks
   refine⟨⟨_,rfl⟩,_,rfl,n,nm,tx,st,sp,ks.filterMap (λk=>bS k x),rfl,hw,VDs.of (λv hv=>?_) ?_,nm',n50,by simp,_,rfl,?_,?_⟩
   ·obtain⟨k,h1,h2⟩:=qd1_.mp hv
    exact((hk k h1).2.2 _ (uH h2)).2
   ·refine qh_ (qt1_ _ vle) (qh_ ?_ hl2)
    exact qt1_ _ (by omega)
   ·rw[qc_,qc_,qR_]
    omega
   ·refine hN _ ⟨s2,.va (.seq false (ks.filterMap λk=>bS k x)),.va (sT x),?_⟩
    rw[qz1_,hx,qJ_,qJ_]
    have eb:(false != eqV (.int ((ks.filterMap λk=>bS k x).length:Nat)) (.int ((ks.map Tv.dct).length:Nat)))=ks.all (λk=>decide (x∈k.map (·.1))):=by
     rw[qx1_,qc_,zHv,zCv,qM1_]
     exact⟨λh k hk=>qP_ (look_some.mp (h k hk)),λh k hk=>look_some.mpr (qb1_ (h k hk))⟩
    rw[eb]
    rfl
  ·rintro _ ⟨s2,s5,s7,rfl⟩
   rw[qf1_]
   rw[gF (by omega),ea,eb,eK,erc]at q
   exact⟨_,_,rfl,by simp,q⟩
end
end My
namespace My
open PySem L2 PyProof.Rows WordM
section
variable{P:Program}{w:World}{K:W.Frag}{mg:Str->Option Value}{base:Heap}
variable{m:Nat}
theorem lO{b:Bool}{A:UTs}{P:PEnds}{ρ:aU}{α:Type}{J:α->Prop}(e:α->aU)(h1:b=true->(∀x,J x->P.nx (e x))->A P ρ)(h2:b=false->∃x,J x/\e x=ρ)(rest:∀x,J x->P.nx (e x)):if b=true then A P ρ else sI P ρ:=by
 cases b with
 |true=>exact bX (h1 rfl rest)
 |false=>
  obtain⟨x,hx,rfl⟩:=h2 rfl
  exact aR (rest x hx)
theorem mT{N:aU->Prop}{ρ ρ':aU}(h:N ρ')(e:ρ=ρ'):N ρ:=e▸h
def sel(k:Nat)(l:List Tv):List Tv:=l.filterMap λv=>bif dG v==k then some v else none
theorem sel_mem{k:Nat}{l:List Tv}{v:Tv}:v∈sel k l↔v∈l/\dG v=k:=by
 unfold sel
 rw[qd1_]
 constructor
 ·rintro⟨a,ha,e⟩
  cases c:dG a==k with
  |true=>rw[c]at e;cases e;exact⟨ha,by simpa using c⟩
  |false=>rw[c]at e;cases e
 ·rintro⟨h,e⟩
  exact⟨v,h,by rw[e];simp⟩
theorem vL(k:Nat)(l:List Tv):(sel k l).length<=l.length:=qn2_ _ _
theorem qR(k:Nat):∀l:List Tv,(sel k l).Sublist l
 |[]=>List.Sublist.refl _
 |v::l=>by
  unfold sel
  rw[qH_]
  cases c:dG v==k with
  |true=>exact(qR k l).cons₂ v
  |false=>exact(qR k l).cons v
def Stg(n:Nat)(vs:List Tv)(c:Nat)(f:List Pt):Prop:=f=(kN6.take c).filterMap (bH (bM (n-1)) vs)
theorem Stg.nil(n:Nat)(vs:List Tv):Stg n vs 0 []:=rfl
theorem zI6{c:Nat}(h:c<6):kN6[c]?=some c:=by
 have:c=0\/c=1\/c=2\/c=3\/c=4\/c=5:=by omega
 rcases this with rfl|rfl|rfl|rfl|rfl|rfl<;>rfl
theorem Stg.next{n c:Nat}{vs:List Tv}{f:List Pt}(h:Stg n vs c f)(hc:c<6):(kN6.take (c+1)).filterMap (bH (bM (n-1)) vs)=f++(bH (bM (n-1)) vs c).toList:=by
 rw[qz1_,qM_,zI6 hc,<-(show f=_ from h)]
 cases e:bH (bM (n-1)) vs c<;>simp[e]
theorem Stg.skip{n c:Nat}{vs:List Tv}{f:List Pt}(h:Stg n vs c f)(hc:c<6)(e:bH (bM (n-1)) vs c=none):Stg n vs (c+1) f:=by
 show f=_
 rw[h.next hc,e];simp
theorem Stg.add{n c:Nat}{vs:List Tv}{f:List Pt}{p:Pt}(h:Stg n vs c f)(hc:c<6)(e:bH (bM (n-1)) vs c=some p):Stg n vs (c+1) (f++[p]):=by
 show f++[p]=_
 rw[h.next hc,e];simp
theorem Stg.len{n c:Nat}{vs:List Tv}{f:List Pt}(h:Stg n vs c f):f.length<=6:=by
 rw[show f=_ from h]
 exact qh_ (qn2_ _ _) (by rw[qR_];exact qZ2_ _ _)
theorem Stg.form{n:Nat}{vs:List Tv}{f:List Pt}(h:Stg n vs 6 f)(hn:n=0->vs=[]):f=bM n vs:=by
 have h:f=kN6.filterMap (bH (bM (n-1)) vs):=h
 cases n with
 |zero=>
  rw[h,hn rfl,qb2_.mpr λk _=>vE _ k]
  rfl
 |succ n=>exact h
theorem nZ{α:Type}{f:Tv->Option α}{c:α->Tv}{k:Nat}{vs:List Tv}(h:∀v∈vs,(bif dG v==k then some v else none)=(f v).map c):sel k vs=(vs.filterMap f).map c:=by
 unfold sel
 induction vs with
 |nil=>rfl
 |cons v vs ih=>
  rw[qH_,qH_,h v (.head _),ih λx hx=>h x (.tail _ hx)]
  cases f v<;>rfl
theorem has0{vs:List Tv}:(vs.filterMap λv=>bif dG v==0 then some (iT 1) else none)=[]↔dB vs=false:=by
 unfold dB
 rw[qb2_,List.any_eq_false]
 constructor
 ·intro h v hv z
  have:=h v hv
  rw[z]at this
  cases this
 ·intro h v hv
  have:=h v hv
  cases c:dG v==0 with
  |true=>exact absurd c this
  |false=>rfl
theorem neNil{L:List Tv}:(true != (true&&cL L []))=true↔L≠[]:=by
 cases L with
 |nil=>simp[cL]
 |cons a L=>simp[cL]
theorem mH{L:List Tv}(z:(true != (false==false&&cL L []))=false):L=[]:=by
 cases L with
 |nil=>rfl
 |cons a L=>simp[cL]at z
theorem C52_:bA ["_law_values","_law_form","_law_truths","_law_numbers","_law_texts","_law_lists","_law_longs","_law_items","_law_row","_law_dicts_here"] ["_law_values"] (aN gJ):=fsc (by decide +kernel)
theorem zLa(h:Has K mg "_law_due" gJ)(B:Own mg)(G50_:PGood P w K mg base 2 "_law_run" ["_law_numbers"] rS)(G49_:PGood P w K mg base 2 "_law_words" ["_law_texts"] nP)(G52_:PGood P w K mg base (3+2*m) "_law_due" ["_law_values"] (mF m))(G51_:PGood P w K mg base (3+2*m+1) "_law_dicts" ["_law_dicts_here"] (zBz m))   : PGood P w K mg base (3+2*m+2) "_law_due" ["_law_values"] (mF (m+1)):=by
 have nd:=C52_.nd
 refine h.pgood C52_ (fun|_,_,_,_,_,_,[_],_=>rfl) (λf cdv A outer s H E F hr=>
   (aI (hJ 1 nd (cH aE))
   (aI (bD (fS hr (bF (oM (sc:=aN gJ) (XN:=["_law_values","_law_form","_law_truths","_law_numbers","_law_texts","_law_lists","_law_longs","_law_items","_law_row","_law_dicts_here"]) (N:=["_law_value_here"]) (fr:=[]) (bY (aC 0)) (λ_ _ _ _ _=>(gV (dF mD (aC 0) iP))) (λ_ _ _ _ _=>aG))) (bF (cH aE)))
    (aJ (eO (fZ 1 (cA (aD aY aE)))))
    bC)
   (aI (aZ 2 nd (bF (zDI rfl rfl B.sorted rfl B.set_ (bF (oM (sc:=aN gJ) (XN:=["_law_values","_law_form","_law_truths","_law_numbers","_law_texts","_law_lists","_law_longs","_law_items","_law_row","_law_dicts_here"]) (N:=["_law_value_here"]) (fr:=[]) (bY (aC 0)) (λ_ _ _ _ _=>(gV (cS (cI "bool" jW rfl B.isinstance (aC 0) (cG (v:=.ty "bool") rfl B.bool_ boot_bool rfl))))) (λ_ _ _ _ _=>(aC 0)))))))
   (aI (bD (fS hr (aC 2) (bF (cH aE)))
    (aJ (eO (fZ 1 (cA (aD aY (aD (fK fL rfl B.tuple_ boot_tuple (aD (aC 2) aE)) aE))))))
    bC)
   (aI (fQ (sc:=aN gJ) (XN:=["_law_values","_law_form","_law_truths","_law_numbers","_law_texts","_law_lists","_law_longs","_law_items","_law_row","_law_dicts_here"]) (N:=["_law_value_here"]) (fr:=[]) 3 nd (bY (aC 0)) (λ_ _ _ _ _=>(gV (eQ (lR (cS (cI "int" kY rfl B.isinstance (aC 0) (cG (v:=.ty "int") rfl B.int_ boot_int rfl))) (nJ (lU (cS (cI "bool" jW rfl B.isinstance (aC 0) (cG (v:=.ty "bool") rfl B.bool_ boot_bool rfl))))))))) (λ_ _ _ _ _=>(aC 0)))
   (aI (bD (fS hr (aC 3) (bF (cH aE)))
    (aJ (eO (fZ 1 (bN cY (cA (aD aY aE)) (aL G50_ hr (aD (aC 3) aE))))))
    bC)
   (aI (fQ (sc:=aN gJ) (XN:=["_law_values","_law_form","_law_truths","_law_numbers","_law_texts","_law_lists","_law_longs","_law_items","_law_row","_law_dicts_here"]) (N:=["_law_value_here"]) (fr:=[]) 4 nd (bY (aC 0)) (λ_ _ _ _ _=>(gV (cS (cI "str" kX rfl B.isinstance (aC 0) (cG (v:=.ty "str") rfl B.str_ boot_str rfl))))) (λ_ _ _ _ _=>(aC 0)))
   (aI (bD (fS hr (aC 4) (bF (cH aE)))
    (aJ (eO (fZ 1 (cA (aD aY (aD (aL G49_ hr (aD (aC 4) aE)) aE))))))
    bC)
   (aI (fQ (sc:=aN gJ) (XN:=["_law_values","_law_form","_law_truths","_law_numbers","_law_texts","_law_lists","_law_longs","_law_items","_law_row","_law_dicts_here"]) (N:=["_law_value_here"]) (fr:=[]) 5 nd (bY (aC 0)) (λ_ _ _ _ _=>(gV (cS (cI "list" mV rfl B.isinstance (aC 0) (cG (v:=.ty "list") rfl B.list_ boot_list rfl))))) (λ_ _ _ _ _=>(aC 0)))
   (aI (bD (fS hr (aC 5) (bF (cH aE)))
    (aI (fQ (sc:=aN gJ) (XN:=["_law_values","_law_form","_law_truths","_law_numbers","_law_texts","_law_lists","_law_longs","_law_items","_law_row","_law_dicts_here"]) (N:=["_law_row"]) (fr:=[]) 6 nd (bY (aC 5)) (λ_ _ _ _ _=>iO) (λ_ _ _ _ _=>(bE cF rfl B.len qo_ (aD (aC 0) aE))))
    (aI (hJ 7 nd (cH aE))
    (aI (dX (m:=10) qG_ rfl (bY (aC 5)) (dC 8 (by decide) nd rfl (.inl rfl))
     (aJ (eO (tV 7 (aC 8)))))
    (aJ (eO (fZ 1 (cA (aD aY (aD (bE (gW rfl) rfl B.min boot_min (aD (aC 6) aE)) (aD (bE (gC rfl) rfl B.max boot_max (aD (aC 6) aE)) (aD (aL G52_ hr (aD (aC 7) aE)) aE)))))))))))
    bC)
   (aI (fQ (sc:=aN gJ) (XN:=["_law_values","_law_form","_law_truths","_law_numbers","_law_texts","_law_lists","_law_longs","_law_items","_law_row","_law_dicts_here"]) (N:=["_law_value_here"]) (fr:=[]) 9 nd (bY (aC 0)) (λ_ _ _ _ _=>(gV (cS (cI "dict" kW rfl B.isinstance (aC 0) (cG (v:=.ty "dict") rfl B.dict_ boot_dict rfl))))) (λ_ _ _ _ _=>(aC 0)))
   (aI (bD (fS hr (aC 9) (bF (cH aE)))
    (aJ (eO (fZ 1 (aL G51_ hr (aD (aC 9) aE)))))
    bC)
   (aJ (aQ (fK fL rfl B.tuple_ boot_tuple (aD (aC 1) aE))))))))))))))))) (λas R q=>?_)
 obtain⟨n,nm,tx,st,sp,vs,rfl,hw,hV,nm',n50,q⟩:=q
 have vl:=hV.len
 refine⟨rfl,by simp,?_⟩
 refine⟨vl,iF (λv=>bif dG v==0 then some (iT 1) else none) (λv hvm R q=>?_) ?_⟩
 ·rcases hV.six v hvm with rfl|⟨b,rfl⟩|⟨i,rfl⟩|⟨s,rfl⟩|⟨xs,rfl⟩|⟨k,rfl⟩<;>first|exact⟨_,rfl,bX q⟩|exact⟨_,rfl,aR q⟩
 have npos:=hV.pos
 have nes:∀{k:Nat},sel k vs≠[]->vs≠[]:=λ{k} h e=>h (by rw[e];rfl)
 refine⟨by simp,.inr (.inl rfl),_,rfl,lO (J:=Stg n vs 1) (λf=>[.va (.seq false vs),.own (f.map aX),.no,.no,.no,.no,.no,.no,.no,.no]) (λz rest=>?_) (λz=>?_) (λf hf=>?_)⟩
 ·have z:=neNil.mp z
  have k0:dB vs=true:=by
   cases e:dB vs with
   |true=>rfl
   |false=>exact absurd (has0.mpr e) z
  exact⟨⟨_,rfl⟩,by simp,_,rfl,by simp,mT (rest [.nothing] ((Stg.nil _ _).add (by decide) (by show(if dB vs=true then _ else _)=_;rw[if_pos k0]))) (by simp only[List.map_cons,List.map_nil,aX];rfl)⟩
 ·have k0:=has0.mp (mH z)
  exact⟨[],(Stg.nil n vs).skip (by decide) (by show(if dB vs=true then _ else _)=_;rw[k0,if_neg ql_]),rfl⟩
 refine⟨vl,iF (λv=>bif dG v==1 then some v else none) (λv hvm R q=>?_) ?_⟩
 ·rcases hV.six v hvm with rfl|⟨b,rfl⟩|⟨i,rfl⟩|⟨s,rfl⟩|⟨xs,rfl⟩|⟨k,rfl⟩<;>first|exact⟨_,rfl,bX q⟩|exact⟨_,rfl,aR q⟩
 have ebs:sel 1 vs=(vs.filterMap asB).map bT:=nZ λv h=>by
  rcases hV.six v h with rfl|⟨b,rfl⟩|⟨i,rfl⟩|⟨s,rfl⟩|⟨xs,rfl⟩|⟨k,rfl⟩<;>rfl
 generalize hbs:vs.filterMap asB=bs at ebs
 refine⟨bs,by rw[<-ebs];rfl,?_⟩
 generalize hu:(usB (inF bs) (inT bs))=us
 refine⟨by simp,.inr (.inl rfl),_,rfl,lO (J:=Stg n vs 2) (λf=>[.va (.seq false vs),.own (f.map aX),.va (.seq false (us.map bT)),.no,.no,.no,.no,.no,.no,.no]) (λz rest=>?_) (λz=>?_) (λf hf=>?_)⟩
 ·have z:=neNil.mp z
  have une:us≠[]:=λe=>z (by rw[e];rfl)
  have bne:bs≠[]:=λe=>une (by rw[<-hu,e];rfl)
  have hl6:=hf.len
  exact⟨⟨_,rfl⟩,_,_,rfl,by simp,_,rfl,by rw[List.length_map];omega,mT (rest (f++[.truths us]) (hf.add (by decide) (by show(if vs.filterMap asB=[] then _ else some (Pt.truths (usB (inF (vs.filterMap asB)) (inT (vs.filterMap asB)))))=_;rw[hbs,if_neg bne,hu]))) (by rw[qJ_];simp only[List.map_cons,List.map_nil,aX];rfl)⟩
 ·have z:us=[]:=qD2_.mp (mH z)
  have be:bs=[]:=by
   rw[z]at hu
   cases bs with
   |nil=>rfl
   |cons b bs=>cases b<;>simp[usB,inF,inT]at hu
  exact⟨f,hf.skip (by decide) (by show(if vs.filterMap asB=[] then _ else _)=_;rw[hbs,if_pos be]),rfl⟩
 clear ebs
 refine⟨vl,iF (λv=>bif dG v==2 then some v else none) (λv hvm R q=>?_) ?_⟩
 ·rcases hV.six v hvm with rfl|⟨b,rfl⟩|⟨i,rfl⟩|⟨s,rfl⟩|⟨xs,rfl⟩|⟨k,rfl⟩
  ·exact⟨_,rfl,aR (aR q)⟩
  ·exact⟨_,rfl,bX ⟨_,rfl,aR q⟩⟩
  ·exact⟨_,rfl,bX ⟨_,rfl,bX q⟩⟩
  ·exact⟨_,rfl,aR (aR q)⟩
  ·exact⟨_,rfl,aR (aR q)⟩
  ·exact⟨_,rfl,aR (aR q)⟩
 have ens:sel 2 vs=(vs.filterMap asI).map iT:=nZ λv h=>by
  rcases hV.six v h with rfl|⟨b,rfl⟩|⟨i,rfl⟩|⟨s,rfl⟩|⟨xs,rfl⟩|⟨k,rfl⟩<;>rfl
 generalize hns:vs.filterMap asI=ns at ens
 have ens':(vs.filterMap λv=>bif dG v==2 then some v else none)=ns.map iT:=ens
 rw[ens']
 have nsl:ns.length<=vs.length:=by have:=vL 2 vs;rw[ens,qc_]at this;exact this
 refine⟨by simp,.inr (.inl rfl),_,rfl,lO (J:=Stg n vs 3) (λf=>[.va (.seq false vs),.own (f.map aX),.va (.seq false (us.map bT)),.va (.seq false (ns.map iT)),.no,.no,.no,.no,.no,.no]) (λz rest=>?_) (λz=>?_) (λf hf=>?_)⟩
 ·have z:=neNil.mp z
  have nne:ns≠[]:=λe=>z (by rw[e];rfl)
  have hl6:=hf.len
  exact⟨⟨_,rfl⟩,by simp,ns,rfl,nne,by simp,_,rfl,by rw[List.length_map];omega,mT (rest (f++[.numbers (cZ ns).1 (cZ ns).2.1 (cZ ns).2.2]) (hf.add (by decide) (by show(if vs.filterMap asI=[] then _ else some (Pt.numbers (cZ (vs.filterMap asI)).1 (cZ (vs.filterMap asI)).2.1 (cZ (vs.filterMap asI)).2.2))=_;rw[hns,if_neg nne]))) (by rw[qJ_];simp only[List.map_cons,List.map_nil,aX];rfl)⟩
 ·have z:=mH z
  exact⟨f,hf.skip (by decide) (by show(if vs.filterMap asI=[] then _ else _)=_;rw[hns,if_pos (qD2_.mp z)]),rfl⟩
 clear ens ens' nsl
 refine⟨vl,iF (λv=>bif dG v==3 then some v else none) (λv hvm R q=>?_) ?_⟩
 ·rcases hV.six v hvm with rfl|⟨b,rfl⟩|⟨i,rfl⟩|⟨s,rfl⟩|⟨xs,rfl⟩|⟨k,rfl⟩<;>first|exact⟨_,rfl,bX q⟩|exact⟨_,rfl,aR q⟩
 have ets:sel 3 vs=(vs.filterMap asS).map sT:=nZ λv h=>by
  rcases hV.six v h with rfl|⟨b,rfl⟩|⟨i,rfl⟩|⟨s,rfl⟩|⟨xs,rfl⟩|⟨k,rfl⟩<;>rfl
 generalize hts:vs.filterMap asS=ts at ets
 have ets':(vs.filterMap λv=>bif dG v==3 then some v else none)=ts.map sT:=ets
 rw[ets']
 refine⟨by simp,.inr (.inl rfl),_,rfl,lO (J:=Stg n vs 4) (λf=>[.va (.seq false vs),.own (f.map aX),.va (.seq false (us.map bT)),.va (.seq false (ns.map iT)),.va (.seq false (ts.map sT)),.no,.no,.no,.no,.no]) (λz rest=>?_) (λz=>?_) (λf hf=>?_)⟩
 ·have z:=neNil.mp z
  have tne:ts≠[]:=λe=>z (by rw[e];rfl)
  obtain⟨n',rfl⟩:=npos (nes (k:=3) λe=>z (by rw[<-ets,e]))
  have hl6:=hf.len
  have tm:∀s∈ts,s∈tx:=λs hs=>by
   have:sT s∈sel 3 vs:=by rw[ets];exact qf_.mpr ⟨s,hs,rfl⟩
   exact hV.txt _ (sel_mem.mp this).1
  have sl:(aH ts).length<=9:=by
   have:=WordM.nodup_len (cX ts) (m:=tx) λx hx=>tm x ((cO _ x).mp hx)
   rw[hw.t9]at this
   exact this
  exact⟨⟨_,rfl⟩,ts,rfl,tne,λs hs=>hw.ts s (tm s hs),by omega,by simp,_,rfl,by rw[List.length_map];omega,mT (rest (f++[.texts (bO ts)]) (hf.add (by decide) (by show(if vs.filterMap asS=[] then _ else some (Pt.texts (bO (vs.filterMap asS))))=_;rw[hts,if_neg tne]))) (by rw[qJ_];simp only[List.map_cons,List.map_nil,aX];rfl)⟩
 ·have z:=mH z
  exact⟨f,hf.skip (by decide) (by show(if vs.filterMap asS=[] then _ else _)=_;rw[hts,if_pos (qD2_.mp z)]),rfl⟩
 clear ets ets'
 refine⟨vl,iF (λv=>bif dG v==4 then some v else none) (λv hvm R q=>?_) ?_⟩
 ·rcases hV.six v hvm with rfl|⟨b,rfl⟩|⟨i,rfl⟩|⟨s,rfl⟩|⟨xs,rfl⟩|⟨k,rfl⟩<;>first|exact⟨_,rfl,bX q⟩|exact⟨_,rfl,aR q⟩
 have exs:sel 4 vs=(vs.filterMap asL).map (Tv.seq false):=nZ λv h=>by
  rcases hV.six v h with rfl|⟨b,rfl⟩|⟨i,rfl⟩|⟨s,rfl⟩|⟨xs,rfl⟩|⟨k,rfl⟩<;>rfl
 generalize hxs:vs.filterMap asL=xs at exs
 have exs':(vs.filterMap λv=>bif dG v==4 then some v else none)=xs.map (Tv.seq false):=exs
 rw[exs']
 have xsl:xs.length<=vs.length:=by have:=vL 4 vs;rw[exs,qc_]at this;exact this
 refine⟨by simp,.inr (.inl rfl),_,rfl,lO (J:=λx:List Pt×Sl×Sl×Sl=>Stg n vs 5 x.1) (λx=>[.va (.seq false vs),.own (x.1.map aX),.va (.seq false (us.map bT)),.va (.seq false (ns.map iT)),.va (.seq false (ts.map sT)),.va (.seq false (xs.map (Tv.seq false))),x.2.1,x.2.2.1,x.2.2.2,.no]) (λz rest=>?_) (λz=>?_) ?_⟩
 ·have z:=neNil.mp z
  obtain⟨n',rfl⟩:=npos (nes (k:=4) λe=>z (by rw[<-exs,e]))
  have xne:xs≠[]:=λe=>z (by rw[e];rfl)
  have hl6:=hf.len
  have xv:∀x∈xs,∀y∈x,VD nm tx n' y:=λx hx=>by
   have:Tv.seq false x∈sel 4 vs:=by rw[exs];exact qf_.mpr ⟨x,hx,rfl⟩
   exact hV.lst _ _ rfl (sel_mem.mp this).1
  have xpos:0<xs.length:=by
   cases xs with
   |nil=>exact absurd rfl z
   |cons a xs=>simp
  have sb:(xs.map (Tv.seq false)).Sublist vs:=by rw[<-exs];exact qR 4 vs
  have fb:∀i,(xs.take i).flatten.length<=100000:=λi=>(hV.fl _ (xs.take i) rfl (((qY2_ i xs).map _).trans sb)).2
  have lens:(xs.map λx=>iT (x.length:Nat))=(xs.map λx=>((x.length:Nat):Int)).map iT:=by rw[qz_];rfl
  refine⟨by rw[qc_];omega,dR (Tv.seq false) (λx=>iT (x.length:Nat)) (λx hx R q=>q) ?_⟩
  refine⟨by simp,?_⟩
  refine gS (Tv.seq false) (l:=xs) (λi ρ=>∃s8,ρ=[.va (.seq false vs),.own (f.map aX),.va (.seq false (us.map bT)),.va (.seq false (ns.map iT)),.va (.seq false (ts.map sT)),.va (.seq false (xs.map (Tv.seq false))),.va (.seq false (xs.map λx=>iT (x.length:Nat))),.own (xs.take i).flatten,s8,.no]) ⟨_,rfl⟩ ?_ ?_
  ·rintro i x _ N hx ⟨s8,rfl⟩ hN
   have et:(xs.take (i+1)).flatten=(xs.take i).flatten++x:=by
    obtain⟨hi,rfl⟩:=qx_.mp hx
    rw[qB2_ hi,qT2_]
    simp
   have l1:=fb (i+1)
   rw[et,qj_]at l1
   refine⟨⟨_,rfl⟩,_,_,rfl,rfl,by omega,hN _ ⟨.va (.seq false x),?_⟩⟩
   rw[et]
   rfl
  rintro _ ⟨s8,rfl⟩
  rw[qf1_]
  refine⟨⟨_,rfl⟩,.inr (.inl ⟨xs.map λx=>((x.length:Nat):Int),by rw[lens],by rw[qc_];exact xpos,λa a1 a2=>.inr (.inl ⟨xs.map λx=>((x.length:Nat):Int),by rw[lens],by rw[qc_];exact xpos,λb b1 b2=>?_⟩)⟩)⟩
  have ea:bL (dH xs)=a:=nQ a1 a2
  have eb:bQ (dH xs)=b:=nR b1 b2
  refine⟨n',nm,tx,st,sp,xs.flatten,rfl,hw,VDs.of (λv hv=>?_) (hV.fl _ xs rfl sb).1,by omega,by omega,by simp,_,rfl,by rw[List.length_map];omega,?_⟩
  ·obtain⟨x,h1,h2⟩:=qs1_.mp hv
   exact xv x h1 v h2
  ·exact mT (rest (f++[.lists a b (bM n' xs.flatten)],.va (.seq false (xs.map λx=>iT (x.length:Nat))),.va (.seq false xs.flatten),s8) (hf.add (by decide) (by show(if vs.filterMap asL=[] then _ else some (Pt.lists (bL (dH (vs.filterMap asL))) (bQ (dH (vs.filterMap asL))) (bM n' (vs.filterMap asL).flatten)))=_;rw[hxs,if_neg xne,ea,eb]))) (by rw[qJ_];simp only[List.map_cons,List.map_nil,aX];rfl)
 ·have z:=mH z
  exact⟨(f,.no,.no,.no),hf.skip (by decide) (by show(if vs.filterMap asL=[] then _ else _)=_;rw[hxs,if_pos (qD2_.mp z)]),rfl⟩
 rintro⟨f,s6,s7,s8⟩ hf
 have hf:Stg n vs 5 f:=hf
 clear exs exs' xsl
 refine⟨vl,iF (λv=>bif dG v==5 then some v else none) (λv hvm R q=>?_) ?_⟩
 ·rcases hV.six v hvm with rfl|⟨b,rfl⟩|⟨i,rfl⟩|⟨s,rfl⟩|⟨xs,rfl⟩|⟨k,rfl⟩<;>first|exact⟨_,rfl,bX q⟩|exact⟨_,rfl,aR q⟩
 have eks:sel 5 vs=(vs.filterMap asD).map Tv.dct:=nZ λv h=>by
  rcases hV.six v h with rfl|⟨b,rfl⟩|⟨i,rfl⟩|⟨s,rfl⟩|⟨xs,rfl⟩|⟨k,rfl⟩<;>rfl
 generalize hks:vs.filterMap asD=ks at eks
 have eks':(vs.filterMap λv=>bif dG v==5 then some v else none)=ks.map Tv.dct:=eks
 rw[eks']
 have ksl:ks.length<=vs.length:=by have:=vL 5 vs;rw[eks,qc_]at this;exact this
 refine⟨by simp,.inr (.inl rfl),_,rfl,lO (J:=Stg n vs 6) (λf=>[.va (.seq false vs),.own (f.map aX),.va (.seq false (us.map bT)),.va (.seq false (ns.map iT)),.va (.seq false (ts.map sT)),.va (.seq false (xs.map (Tv.seq false))),s6,s7,s8,.va (.seq false (ks.map Tv.dct))]) (λz rest=>?_) (λz=>?_) (λf hf=>?_)⟩
 ·have z:=neNil.mp z
  obtain⟨n',rfl⟩:=npos (nes (k:=5) λe=>z (by rw[<-eks,e]))
  have kne:ks≠[]:=λe=>z (by rw[e];rfl)
  have hl6:=hf.len
  refine⟨⟨_,rfl⟩,n',nm,tx,st,sp,ks,rfl,hw,λk hk=>?_,kne,hV.dl ks (by rw[<-eks];exact qR 5 vs),by omega,by omega,_,rfl,by rw[qc_];exact qq2_ hl6 (by decide),mT (rest (f++[dcP (bM n') ks]) (hf.add (by decide) (by show(if vs.filterMap asD=[] then _ else some (dcP (bM n') (vs.filterMap asD)))=_;rw[hks,if_neg kne]))) (by rw[qJ_];rfl)⟩
  have:Tv.dct k∈sel 5 vs:=by rw[eks];exact qf_.mpr ⟨k,hk,rfl⟩
  exact hV.dct _ (sel_mem.mp this).1
 ·have z:=mH z
  exact⟨f,hf.skip (by decide) (by show(if vs.filterMap asD=[] then _ else _)=_;rw[hks,if_pos (qD2_.mp z)]),rfl⟩
 have:=hf.form λe=>by
  apply Classical.byContradiction
  intro ne
  obtain⟨n',e'⟩:=npos ne
  omega
 rw[<-this]at q
 exact⟨_,_,rfl,q⟩
theorem wL(hd:Has K mg "_law_due" gJ)(hk:Has K mg "_law_dicts" kP)(B:Own mg)(G1:PGood P w K mg base 2 "_law_run" ["_law_numbers"] rS)(G2:PGood P w K mg base 2 "_law_words" ["_law_texts"] nP):∀m:Nat,PGood P w K mg base (3+2*m) "_law_due" ["_law_values"] (mF m)
 |0=>hd.pfalse C52_ (fun|_,_,_,_,_,_,[_],_=>rfl) λas R ⟨_,_,_,_,_,_,_,_,_,h,_⟩=>by omega
 |m+1=>zLa hd B G1 G2 (wL hd hk B G1 G2 m) (zLb hk B (wL hd hk B G1 G2 m) G2)
end
end My
namespace L2
open PySem PySem.Spec PyProof.Rows WordM
def SameD:Nat->Tv->Prop
 |0,_=>False
 |_+1,.leaf .non=>True
 |_+1,.leaf (.bl _)=>True
 |_+1,.leaf (.int _)=>True
 |_+1,.leaf (.str _)=>True
 |n+1,.seq _ xs=>xs.length<=100000/\∀x∈xs,SameD n x
 |_+1,_=>False
theorem SameD.le:∀{n m:Nat}{T:Tv},n<=m->SameD n T->SameD m T
 |0,_,_,_,h=>False.elim h
 |_+1,0,_,l,_=>absurd l (by omega)
 |n+1,m+1,T,l,h=>by
  cases T with
  |leaf v=>cases v<;>exact h
  |seq t xs=>exact⟨h.1,λx hx=>SameD.le (by omega) (h.2 x hx)⟩
  |dct k=>exact h
theorem zAd(n:Nat){t:Bool}{ss:List Str}(l:ss.length<=100000):SameD (n+2) (.seq t (ss.map sT)):=⟨by rw[qc_];exact l,λx hx=>by
 obtain⟨s,_,rfl⟩:=qf_.mp hx
 trivial⟩
end L2
namespace My
open PySem L2 PyProof.Rows WordM
section
variable{P:Program}{w:World}{K:W.Frag}{mg:Str->Option Value}{base:Heap}
variable{n:Nat}
def VT(nm tx:List Str)(n:Nat)(v:Tv):Prop:=VD nm tx n v\/∃n' xs,n=n'+1/\v=.seq false xs/\xs.length<=300/\∀x∈xs,VD nm tx n' x
def nG(n:Nat):PSp:=λas R=>∃nm tx st sp,fM nm tx st sp/\∃v:Tv,as=[.va v]/\VT nm tx n v/\R (bZ (bM n [v]))
def uT(n:Nat):PSp:=λas R=>∃nm tx st sp,fM nm tx st sp/\∃v:Tv,as=[.va v]/\VT nm tx n v/\∀p,bM n [v]=[p]->R (aX p)
def rE(n:Nat):PSp:=λas R=>∃V:Tv->Prop,WD n V/\∃vs:List Tv,as=[.va (.seq false vs)]/\vs.length<=1000/\(∀v∈vs,V v)/\R (bZ (bM n vs))
theorem zA9:∀vs:List Tv,(vs.map λv=>[v]).flatten=vs
 |[]=>rfl
 |v::vs=>by rw[qA_,qo1_,zA9 vs];rfl
theorem C32_:bA ["samples"] ["samples"] (aN oW):=fsc (by decide +kernel)
theorem zDa(h:Has K mg "told" oW)(B:Own mg)(G31_:PGood P w K mg base (9*n+10) "all_joined" ["forms"] (xT (bM n) (WD n)))(G21_:PGood P w K mg base (9*n+10) "form_of" ["value"] (nG n))   : PGood P w K mg base (9*n+11) "told" ["samples"] (rE n):=by
 have nd:=C32_.nd
 refine h.pgood C32_ (fun|_,_,_,_,_,_,[_],_=>rfl) (λf cdv A outer s H E F hr=>
   (aJ (aQ (aL G31_ hr (aD (bF (fE (sc:=aN oW) (XN:=["samples"]) (N:=["sample"]) (fr:=[]) (bY (aC 0)) (λ_ _ _ _ _=>(aL G21_ hr (aD (aC 0) aE))))) aE))))) (λas R q=>?_)
 obtain⟨V,⟨nm,tx,st,sp,hw,rfl⟩,vs,rfl,lv,hv,q⟩:=q
 have hV:WD n (VD nm tx n):=⟨nm,tx,st,sp,hw,rfl⟩
 refine⟨rfl,by omega,zAw (λv=>bZ (bM n [v])) (λv hvm R q=>⟨nm,tx,st,sp,hw,v,rfl,.inl (hv v hvm),q⟩) ?_⟩
 refine⟨VD nm tx n,hV,vs.map λv=>[v],by rw[qz_];rfl,dOk n,λA hA v hvA=>?_,?_⟩
 ·obtain⟨x,hx,rfl⟩:=qf_.mp hA
  rw[qa1_.mp hvA]
  exact hv x hx
 ·rw[zA9]
  exact q
def zC2(n:Nat):PSp:=λas R=>∃V:Tv->Prop,WD n V/\∃xs:List Tv,as=[.va (.seq false xs)]/\xs.length<=1000/\(∀v∈xs,V v)/\R (aX (.lists (xs.length:Nat) (xs.length:Nat) (bM n xs)))
theorem C18_:bA ["value"] ["value"] (aN sR):=fsc (by decide +kernel)
theorem zLA(h:Has K mg "list_part" sR)(B:Own mg)(G32_:PGood P w K mg base (9*n+11) "told" ["samples"] (rE n))   : PGood P w K mg base (9*n+12) "list_part" ["value"] (zC2 n):=by
 have nd:=C18_.nd
 refine h.pgood C18_ (fun|_,_,_,_,_,_,[_],_=>rfl) (λf cdv A outer s H E F hr=>
   (aJ (aQ (cA (aD aY (aD (bE cF rfl B.len qo_ (aD (aC 0) aE)) (aD (bE cF rfl B.len qo_ (aD (aC 0) aE)) (aD (aL G32_ hr (aD (aC 0) aE)) aE)))))))) (λas R q=>?_)
 obtain⟨V,hV,xs,rfl,lx,hv,q⟩:=q
 rw[iB]at q
 exact⟨rfl,V,hV,xs,rfl,lx,hv,by simp,q⟩
def zC5(n:Nat):PSp:=λas R=>∃V:Tv->Prop,WD n V/\∃k:List (Str×Tv),as=[.va (.dct k)]/\(k.map (·.1)).Nodup/\k.length<=20/\(∀kt∈k,fI kt.1/\V kt.2)/\R (aX (dcP (bM n) [k]))
theorem C19_:bA ["value","size","names"] ["value"] (aN mQ):=fsc (by decide +kernel)
theorem zLz(h:Has K mg "dict_part" mQ)(B:Own mg)(G21_:PGood P w K mg base (9*n+10) "form_of" ["value"] (nG n))(G32_:PGood P w K mg base (9*n+11) "told" ["samples"] (rE n))(G10_:PGood P w K mg base 4 "words_of" ["texts"] jY)(GMOST_FIELDS:eF K mg "MOST_FIELDS" (iT 8))  : PGood P w K mg base (9*n+12) "dict_part" ["value"] (zC5 n):=by
 have nd:=C19_.nd
 refine h.pgood C19_ (fun|_,_,_,_,_,_,[_],_=>rfl) (λf cdv A outer s H E F hr=>
   (aI (aZ 1 nd (bE cF rfl B.len qo_ (aD (aC 0) aE)))
   (aI (aZ 2 nd (bF (uN (tX rfl) rfl B.sorted boot_sorted (aD (aC 0) aE))))
   (aI (bD (dF wR (aC 1) (oN GMOST_FIELDS rfl))
    (aJ (aQ (cA (aD aY (aD (aC 1) (aD (aC 1) (aD (fK fL rfl B.tuple_ boot_tuple (aD (bF (fE (sc:=aN mQ) (XN:=["value","size","names"]) (N:=["name","value"]) (fr:=[0]) (bY (aC 2)) (λ_ _ _ _ _=>(cA (aD (aC 0) (aD jP (aD (aL G21_ hr (aD (aT hr (aC 1) (aC 0)) aE)) aE))))))) aE)) aE)))))))
    bC)
   (aJ (aQ (cA (aD aY (aD (aC 1) (aD (aC 1) (aD (aL G10_ hr (aD (aC 2) aE)) (aD (aL G32_ hr (aD (bF (fE (sc:=aN mQ) (XN:=["value","size","names"]) (N:=["name","value"]) (fr:=[0]) (bY (aC 2)) (λ_ _ _ _ _=>(aT hr (aC 1) (aC 0))))) aE)) aE)))))))))))) (λas R q=>?_)
 obtain⟨V,⟨nm,tx,st,sp,hw,rfl⟩,k,rfl,nd,lk,hk,q⟩:=q
 have hV:WD n (VD nm tx n):=⟨nm,tx,st,sp,hw,rfl⟩
 refine⟨rfl,?_⟩
 have enm:aO [k]=k.map (·.1):=by unfold aO;rw[List.flatMap_cons,List.flatMap_nil,qQ_]
 have sn:(aH (aO [k])).Perm (k.map (·.1)):=(qX1_ (cX _) nd).mpr λx=>by rw[cO,enm]
 have sl:(aH (aO [k])).length=k.length:=by rw[sn.length_eq,qc_]
 have es:aW (k.map (·.1))=aW (aH (aO [k])):=mY (zAb nd) (fX _) λx=>by rw[(eM _).mem_iff,sort_set_mem,enm]
 have eL:bL (bI [k])=(k.length:Nat)/\bQ (bI [k])=(k.length:Nat):=⟨rfl,rfl⟩
 have sk:(aW (aH (aO [k]))).length=k.length:=by rw[(eM _).length_eq,sl]
 have lk':∀x∈aW (aH (aO [k])),∃v,bS k x=some v/\(x,v)∈k:=λx hx=>by
  rw[sort_set_mem,enm]at hx
  obtain⟨kt,hkt,rfl⟩:=qf_.mp hx
  exact⟨kt.2,qW nd hkt,hkt⟩
 refine .inr (.inr ⟨k,rfl,?_⟩)
 rw[es]
 show PEnds.nx _ _
 refine nxE (ρ':=[.va (.dct k),.va (iT (k.length:Nat)),.va (.seq false ((aW (aH (aO [k]))).map sT))]) rfl ?_
 refine⟨_,rfl,jS (λz=>?_) (λz=>?_)⟩
 ·have z:((k.length:Nat):Int)<=8:=z
  rw[gF (by omega),eK]at q
  refine⟨by rw[qc_];omega,dR sT (λx=>cE (cV (bM n) [k] x)) (λx hx R q=>?_) ⟨_,_,rfl,by simp,?_⟩⟩
  ·obtain⟨v,e,hm⟩:=lk' x hx
   have ea:atK x [k]=[v]:=by unfold atK;rw[qH_,e];rfl
   have eall:[k].all (λk=>decide (x∈k.map (·.1)))=true:=by
    rw[List.all_cons,List.all_nil,Bool.and_true]
    exact qP_ (qf_.mpr ⟨_,hm,rfl⟩)
   unfold cV at q
   rw[ea,eall]at q
   exact⟨_,e,nm,tx,st,sp,hw,v,rfl,.inl (hk _ hm).2,by simp,q⟩
  ·unfold bP at q
   rw[qz_]at q
   exact q
 ·have z:¬ ((k.length:Nat):Int)<=8:=z
  have ne:aO [k]≠[]:=λe=>by rw[e]at sl;have:k.length=0:=sl.symm;omega
  rw[gE (by omega),fJ,<-lC (ts:=aW (aH (aO [k]))) (us:=aO [k]) λx=>sort_set_mem]at q
  refine⟨_,rfl,nL ne,by omega,?_,λt ht=>?_,?_⟩
  ·have:=fD (A:=aW (aH (aO [k]))) (C:=aO [k]) λx hx=>sort_set_mem.mp hx
   omega
  ·obtain⟨v,e,hm⟩:=lk' t ht
   exact(hk _ hm).1
  have ev:bM n ((aW (aH (aO [k]))).map λx=>(bS k x).getD nT)=bM n (dJ [k]):=uJ n _ _ λv=>by
   rw[qf_,vls_mem]
   constructor
   ·rintro⟨x,hx,rfl⟩
    obtain⟨v,e,hm⟩:=lk' x hx
    rw[e]
    exact⟨k,.head _,x,hm⟩
   ·rintro⟨k',hk',x,hm⟩
    rw[qa1_]at hk'
    subst hk'
    refine⟨x,sort_set_mem.mpr (by rw[enm];exact qf_.mpr ⟨_,hm,rfl⟩),?_⟩
    rw[qW nd hm]
    rfl
  rw[<-ev]at q
  refine⟨by rw[qc_];omega,dR sT (λx=>(bS k x).getD nT) (λx hx R q=>?_) ⟨VD nm tx n,hV,_,rfl,by rw[qc_];omega,λv hv=>?_,by simp,q⟩⟩
  ·obtain⟨v,e,hm⟩:=lk' x hx
   rw[e]at q
   exact⟨v,e,q⟩
  ·obtain⟨x,hx,rfl⟩:=qf_.mp hv
   obtain⟨v,e,hm⟩:=lk' x hx
   rw[e]
   exact(hk _ hm).2
theorem C20_:bA ["value","kind"] ["value"] (aN sQ):=fsc (by decide +kernel)
theorem zLy(h:Has K mg "part_of" sQ)(B:Own mg)(G0_:PGood P w K mg base 1 "kind_of" ["value"] rG)(G10_:PGood P w K mg base 4 "words_of" ["texts"] jY)(G18_:PGood P w K mg base (9*n+12) "list_part" ["value"] (zC2 n))(G19_:PGood P w K mg base (9*n+12) "dict_part" ["value"] (zC5 n))   : PGood P w K mg base (9*n+13) "part_of" ["value"] (uT (n+1)):=by
 have nd:=C20_.nd
 refine h.pgood C20_ (fun|_,_,_,_,_,_,[_],_=>rfl) (λf cdv A outer s H E F hr=>
   (aI (aZ 1 nd (aL G0_ hr (aD (aC 0) aE)))
   (aI (bD (cC hr (aC 1) aY)
    (aJ (aQ (cA (aD aY (aD (cA (aD (aC 0) aE)) aE)))))
    bC)
   (aI (bD (cC hr (aC 1) aY)
    (aJ (aQ (cA (aD aY (aD (aC 0) (aD (aC 0) (aD aG aE)))))))
    bC)
   (aI (bD (cC hr (aC 1) aY)
    (aJ (aQ (cA (aD aY (aD (aL G10_ hr (aD (bF (cH (aD (aC 0) aE))) aE)) aE)))))
    bC)
   (aI (bD (cC hr (aC 1) aY)
    (aJ (aQ (aL G18_ hr (aD (aC 0) aE))))
    bC)
   (aI (bD (cC hr (aC 1) aY)
    (aJ (aQ (aL G19_ hr (aD (aC 0) aE))))
    bC)
   (aJ (aQ (cA (aD aY aE))))))))))) (λas R q=>?_)
 obtain⟨nm,tx,st,sp,hw,v,rfl,hv,q⟩:=q
 have W:WD n (VD nm tx n):=⟨nm,tx,st,sp,hw,rfl⟩
 have li:∀xs:List Tv,v=.seq false xs->xs.length<=300/\∀x∈xs,VD nm tx n x:=λxs e=>by
  subst e
  rcases hv with h|⟨n',ys,e,e2,h,h2⟩
  ·exact⟨qh_ h.1 (by decide),h.2⟩
  ·cases e;cases e2;exact⟨h,h2⟩
 have sx:v=nT\/(∃b,v=bT b)\/(∃i,v=iT i)\/(∃s,v=sT s)\/(∃xs,v=.seq false xs)\/∃k,v=.dct k:=by
  rcases hv with h|⟨n',ys,e,e2,h,h2⟩
  ·exact VD.six h
  ·exact .inr (.inr (.inr (.inr (.inl ⟨ys,e2⟩))))
 have nl:(∀xs,v≠.seq false xs)->VD nm tx (n+1) v:=λz=>by
  rcases hv with h|⟨n',ys,e,e2,h,h2⟩
  ·exact h
  ·exact absurd e2 (z ys)
 rcases sx with rfl|⟨b,rfl⟩|⟨i,rfl⟩|⟨s,rfl⟩|⟨xs,rfl⟩|⟨k,rfl⟩
 ·have q:=q .nothing rfl
  rw[tL]at q
  exact⟨rfl,nT,rfl,rfl,_,rfl,sN (by decide +kernel) ⟨_,rfl,sN (by decide +kernel) ⟨_,rfl,sN (by decide +kernel) ⟨_,rfl,sN (by decide +kernel) ⟨_,rfl,sN (by decide +kernel) ⟨by simp,q⟩⟩⟩⟩⟩⟩
 ·have q:=q (.truths [b]) (by cases b<;>rfl)
  rw[pR]at q
  exact⟨rfl,bT b,rfl,rfl,_,rfl,sY ⟨by simp,by simp,q⟩⟩
 ·have q:=q (.numbers i i 0) (by
   show [Pt.numbers i i (GcdM.g (i-i) 0)]=_
   rw[ql2_]
   rfl)
  rw[qD]at q
  exact⟨rfl,iT i,rfl,rfl,_,rfl,sN (show cR 2≠_ by decide +kernel) ⟨_,rfl,sY ⟨by simp,q⟩⟩⟩
 ·have q:=q (.texts (bO [s])) rfl
  rw[pW]at q
  have hs:=hw.ts s (nl λxs e=>nomatch e)
  exact⟨rfl,sT s,rfl,rfl,_,rfl,sN (show cR 3≠_ by decide +kernel) ⟨_,rfl,sN (show cR 3≠_ by decide +kernel) ⟨_,rfl,sY ⟨by simp,[s],rfl,by simp,by simp,Nat.le_trans (qQ _) (by simp),λt ht=>by rw[List.mem_singleton.mp ht];exact⟨hs.1,by have:=hs.2;omega⟩,by simp,q⟩⟩⟩⟩
 ·have q:=q (.lists (xs.length:Nat) (xs.length:Nat) (bM n xs)) (by
   show [Pt.lists (xs.length:Nat) (xs.length:Nat) (bM n (xs++[]))]=_
   rw[qQ_])
  exact⟨rfl,.seq false xs,rfl,trivial,_,rfl,sN (show cR 4≠_ by decide +kernel) ⟨_,rfl,sN (show cR 4≠_ by decide +kernel) ⟨_,rfl,sN (show cR 4≠_ by decide +kernel) ⟨_,rfl,sY ⟨VD nm tx n,W,xs,rfl,qh_ (li xs rfl).1 (by decide),(li xs rfl).2,q⟩⟩⟩⟩⟩
 ·have q:=q (dcP (bM n) [k]) rfl
  have hv:VD nm tx (n+1) (.dct k):=nl λxs e=>nomatch e
  exact⟨rfl,.dct k,rfl,trivial,_,rfl,sN (show cR 5≠_ by decide +kernel) ⟨_,rfl,sN (show cR 5≠_ by decide +kernel) ⟨_,rfl,sN (show cR 5≠_ by decide +kernel) ⟨_,rfl,sN (show cR 5≠_ by decide +kernel) ⟨_,rfl,sY ⟨VD nm tx n,W,k,rfl,hv.1,qh_ hv.2.1 (by decide),λkt hkt=>⟨⟨(hw.ns kt.1 (hv.2.2 kt hkt).1).1,by have:=(hw.ns kt.1 (hv.2.2 kt hkt).1).2;omega⟩,(hv.2.2 kt hkt).2⟩,q⟩⟩⟩⟩⟩⟩
theorem C21_:bA ["value"] ["value"] (aN sP):=fsc (by decide +kernel)
theorem zDc(h:Has K mg "form_of" sP)(B:Own mg)(G20_:PGood P w K mg base (9*n+9) "part_of" ["value"] (uT n))   : PGood P w K mg base (9*n+10) "form_of" ["value"] (nG n):=by
 have nd:=C21_.nd
 refine h.pgood C21_ (fun|_,_,_,_,_,_,[_],_=>rfl) (λf cdv A outer s H E F hr=>
   (aJ (aQ (cA (aD (aL G20_ hr (aD (aC 0) aE)) aE))))) (λas R q=>?_)
 obtain⟨nm,tx,st,sp,hw,v,rfl,hv,q⟩:=q
 refine⟨rfl,nm,tx,st,sp,hw,v,rfl,hv,λp e=>⟨by simp,?_⟩⟩
 rw[e]at q
 exact q
theorem zBT(ht:Has K mg "told" oW)(hf:Has K mg "form_of" sP)(hp:Has K mg "part_of" sQ)(hl:Has K mg "list_part" sR)(hd:Has K mg "dict_part" mQ)(ha:Has K mg "all_joined" mO)(B:Own mg)
  (G0_:PGood P w K mg base 1 "kind_of" ["value"] rG) (G10_:PGood P w K mg base 4 "words_of" ["texts"] jY) (GMOST_FIELDS:eF K mg "MOST_FIELDS" (iT 8)) (Gj:∀n:Nat,PGood P w K mg base (9*n+9) "joined" ["one","other"] (ptJ (bM n) (WD n))):∀n:Nat,PGood P w K mg base (9*n+10) "form_of" ["value"] (nG n)/\PGood P w K mg base (9*n+11) "told" ["samples"] (rE n)
 |0=>by
  have p0:PGood P w K mg base 9 "part_of" ["value"] (uT 0):=hp.pfalse C20_ (fun|_,_,_,_,_,_,[_],_=>rfl) λas R ⟨nm,tx,st,sp,hw,v,_,hv,_⟩=>hv.elim id λ⟨n',_,e,_⟩=>by omega
  have f0:=zDc (n:=0) hf B p0
  exact⟨f0,zDa (n:=0) ht B (xW (lv:=9) ha B (Gj 0)) f0⟩
 |n+1=>by
  obtain⟨f,t⟩:=zBT ht hf hp hl hd ha B G0_ G10_ GMOST_FIELDS Gj n
  have f1:=zDc (n:=n+1) hf B ((zLy (n:=n) hp B G0_ G10_ (zLA hl B t) (zLz hd B f t G10_ GMOST_FIELDS)).mono (by omega))
  exact⟨f1,zDa (n:=n+1) ht B (xW (lv:=9*(n+1)+9) ha B (Gj (n+1))) f1⟩
end
end My
namespace My
open PySem L2 PyProof.Rows WordM
section
variable{P:Program}{w:World}{K:W.Frag}{mg:Str->Option Value}{base:Heap}
variable{n:Nat}
def SameE:Nat->Tv->Prop
 |0,_=>False
 |_+1,.leaf .non=>True
 |_+1,.leaf (.bl _)=>True
 |_+1,.leaf (.int _)=>True
 |_+1,.leaf (.str _)=>True
 |n+1,.seq _ xs=>xs.length<=100000/\∀x∈xs,SameE n x
 |n+1,.dct kts=>(kts.map (·.1)).Nodup/\kts.length<64/\∀kt∈kts,SameE n kt.2
 |_+1,_=>False
theorem SameE.of:∀{n:Nat}{T:Tv},SameD n T->SameE n T
 |0,_,h=>h
 |n+1,.leaf v,h=>by cases v<;>first|trivial|exact h
 |n+1,.seq t xs,h=>⟨h.1,λx hx=>SameE.of (h.2 x hx)⟩
 |n+1,.dct k,h=>False.elim h
theorem SameE.vd{nm tx:List Str}:∀{n:Nat}{T:Tv},VD nm tx n T->SameE n T
 |0,_,h=>h
 |n+1,.leaf v,h=>by cases v<;>first|trivial|exact h
 |n+1,.seq false xs,h=>⟨qh_ h.1 (by decide),λx hx=>SameE.vd (h.2 x hx)⟩
 |n+1,.seq true xs,h=>False.elim h
 |n+1,.dct k,h=>⟨h.1,qq2_ h.2.1 (by decide),λkt hk=>SameE.vd (h.2.2 kt hk).2⟩
theorem SameE.le:∀{n m:Nat}{T:Tv},n<=m->SameE n T->SameE m T
 |0,_,_,_,h=>False.elim h
 |_+1,0,_,l,_=>absurd l (by omega)
 |n+1,m+1,.leaf v,_,h=>by cases v<;>first|trivial|exact h
 |n+1,m+1,.seq t xs,l,h=>⟨h.1,λx hx=>SameE.le (by omega) (h.2 x hx)⟩
 |n+1,m+1,.dct k,l,h=>⟨h.1,h.2.1,λkt hk=>SameE.le (by omega) (h.2.2 kt hk)⟩
theorem zGf(ss:List Str):cL (ss.map sT) (ss.map sT)=true:=by
 induction ss with
 |nil=>simp[cL]
 |cons s ss ih=>rw[qA_,cL,ih,wA];simp
def oE(n:Nat):PSp:=λas R=>∃T:Tv,as=[.va T,.va T]/\SameE n T/\R (bT true)
theorem uX{α:Type}(xs:List α):((xs.map λ_=>bT true).any λU=>L2.eqT U (bT false))=false:=by
 rw[Bool.eq_false_iff]
 intro z
 obtain⟨U,hU,e⟩:=qL_.mp z
 obtain⟨_,_,rfl⟩:=qf_.mp hU
 simp[L2.eqT,eqV]at e
theorem vX{α:Type}(xs:List α):pJ (bT false) (xs.map λ_=>bT true):=⟨trivial,λU hU=>by
 obtain⟨_,_,rfl⟩:=qf_.mp hU
 trivial⟩
theorem zAG(xs:List Tv):List.zipWith (λT U=>Tv.seq true [T,U]) xs xs=xs.map λx=>.seq true [x,x]:=by
 induction xs with
 |nil=>rfl
 |cons x xs ih=>rw[List.zipWith_cons_cons,ih];rfl
theorem zGh{s:Str}:(false != eqV (.str s) (.str s))=true:=by simp[eqV]
theorem zE5{i:Int}:(false != eqV (.int i) (.int i))=true:=by simp[eqV]
theorem zE6{b:Bool}:(false != eqV (.bl b) (.bl b))=true:=by simp[eqV]
theorem C46_:bA ["_law_one","_law_other"] ["_law_one","_law_other"] (aN mN):=fsc (by decide +kernel)
theorem zLg(h:Has K mg "_law_same" mN)(B:Own mg)(G46_:PGood P w K mg base (1+n) "_law_same" ["_law_one","_law_other"] (oE n))   : PGood P w K mg base (1+n+1) "_law_same" ["_law_one","_law_other"] (oE (n+1)):=by
 have nd:=C46_.nd
 refine h.pgood C46_ (fun|_,_,_,_,_,_,[_,_],_=>rfl) (λf cdv A outer s H E F hr=>
   (aI (bD (eQ (hC (cS (cI "bool" jW rfl B.isinstance (aC 0) (cG (v:=.ty "bool") rfl B.bool_ boot_bool rfl))) (iN (cS (cI "bool" jW rfl B.isinstance (aC 1) (cG (v:=.ty "bool") rfl B.bool_ boot_bool rfl))))))
    (aJ (aQ (iQ (cI "bool" jW rfl B.isinstance (aC 0) (cG (v:=.ty "bool") rfl B.bool_ boot_bool rfl)) (iQ (cI "bool" jW rfl B.isinstance (aC 1) (cG (v:=.ty "bool") rfl B.bool_ boot_bool rfl)) (lT (gG (kM hr.units).op (aC 0) (aC 1)))))))
    bC)
   (aI (bD (eQ (hC (cS (cI "int" kY rfl B.isinstance (aC 0) (cG (v:=.ty "int") rfl B.int_ boot_int rfl))) (iN (cS (cI "int" kY rfl B.isinstance (aC 1) (cG (v:=.ty "int") rfl B.int_ boot_int rfl))))))
    (aJ (aQ (iQ (cI "int" kY rfl B.isinstance (aC 0) (cG (v:=.ty "int") rfl B.int_ boot_int rfl)) (iQ (cI "int" kY rfl B.isinstance (aC 1) (cG (v:=.ty "int") rfl B.int_ boot_int rfl)) (lT (gG (kM hr.units).op (aC 0) (aC 1)))))))
    bC)
   (aI (bD (eQ (hC (cS (cI "str" kX rfl B.isinstance (aC 0) (cG (v:=.ty "str") rfl B.str_ boot_str rfl))) (iN (cS (cI "str" kX rfl B.isinstance (aC 1) (cG (v:=.ty "str") rfl B.str_ boot_str rfl))))))
    (aJ (aQ (iQ (cI "str" kX rfl B.isinstance (aC 0) (cG (v:=.ty "str") rfl B.str_ boot_str rfl)) (iQ (cI "str" kX rfl B.isinstance (aC 1) (cG (v:=.ty "str") rfl B.str_ boot_str rfl)) (lT (gG (kM hr.units).op (aC 0) (aC 1)))))))
    bC)
   (aI (bD (eQ (hC (dF mD (aC 0) iP) (iN (dF mD (aC 1) iP))))
    (aJ (aQ (iQ (gG (mD).op (aC 0) iP) (lT (gG (mD).op (aC 1) iP)))))
    bC)
   (aI (bD (eQ (hC (cS (cI "dict" kW rfl B.isinstance (aC 0) (cG (v:=.ty "dict") rfl B.dict_ boot_dict rfl))) (iN (cS (cI "dict" kW rfl B.isinstance (aC 1) (cG (v:=.ty "dict") rfl B.dict_ boot_dict rfl))))))
    (aI (bD (eQ (hC (lU (cS (cI "dict" kW rfl B.isinstance (aC 0) (cG (v:=.ty "dict") rfl B.dict_ boot_dict rfl)))) (hC (lU (cS (cI "dict" kW rfl B.isinstance (aC 1) (cG (v:=.ty "dict") rfl B.dict_ boot_dict rfl)))) (iN (fS hr (bF (uN (tX rfl) rfl B.sorted boot_sorted (aD (aC 0) aE))) (bF (uN (tX rfl) rfl B.sorted boot_sorted (aD (aC 1) aE))))))))
     (aJ (aQ jP))
     bC)
    (aJ (aQ (gG (zAR hr.units).op jP (bF (fE (sc:=aN mN) (XN:=["_law_one","_law_other"]) (N:=["_law_name","_law_one","_law_other"]) (fr:=[0,1]) (bY (aC 0)) (λ_ _ _ _ _=>(aL G46_ hr (aD (aT hr (aC 1) (aC 0)) (aD (aT hr (aC 2) (aC 0)) aE)))))) rfl))))
    bC)
   (aI (bD (eQ (hC (fS hr (cI "list" mV rfl B.isinstance (aC 0) (cG (v:=.ty "list") rfl B.list_ boot_list rfl)) (cI "list" mV rfl B.isinstance (aC 1) (cG (v:=.ty "list") rfl B.list_ boot_list rfl))) (iN (fS hr (cI "tuple" yI rfl B.isinstance (aC 0) (cG (v:=.ty "tuple") rfl B.tuple_ boot_tuple rfl)) (cI "tuple" yI rfl B.isinstance (aC 1) (cG (v:=.ty "tuple") rfl B.tuple_ boot_tuple rfl))))))
    (aJ (aQ jP))
    bC)
   (aJ (aQ (iQ (gG (kM hr.units).op (bE cF rfl B.len qo_ (aD (aC 0) aE)) (bE cF rfl B.len qo_ (aD (aC 1) aE))) (lT (gG (zAR hr.units).op jP (bF (zBp (sc:=aN mN) (XN:=["_law_one","_law_other"]) (N:=["_law_a","_law_b"]) (own:=2) (fr:=[]) rfl ⟨rfl,by decide +kernel,by decide +kernel,by decide +kernel,rfl,by decide +kernel,by decide,by decide +kernel⟩ (by decide) (zHS rfl B.zip (aD (aC 0) (aD (aC 1) aE))) (λ_ _ _ _ _=>(zHT 2 rfl (zAJ (dC 0 (by decide) (show(["_law_a","_law_b"]:List Str).Nodup by decide +kernel) rfl (by first|exact Or.inl rfl|exact Or.inr rfl)) (zAJ (dC 1 (by decide) (show(["_law_a","_law_b"]:List Str).Nodup by decide +kernel) rfl (by first|exact Or.inl rfl|exact Or.inr rfl)) zGE)))) (λ_ _ _ _ _=>iO) (λ_ _ _ _ _=>(aL G46_ hr (aD (aC 0) (aD (aC 1) aE)))))) rfl)))))))))))) (λas R q=>?_)
 obtain⟨T,rfl,h,q⟩:=q
 cases T with
 |dct kts=>
  refine⟨rfl,_,rfl,aR ⟨_,rfl,aR ⟨_,rfl,aR ⟨_,rfl,aR ⟨_,rfl,aR ⟨_,rfl,aR ⟨_,rfl,aR ⟨_,rfl,aR ⟨_,rfl,bX (bX ⟨_,rfl,aR ⟨_,rfl,aR ?_⟩⟩)⟩⟩⟩⟩⟩⟩⟩⟩⟩
  refine .inr (.inr ⟨kts,rfl,.inr (.inr ⟨kts,rfl,.inr (.inr ⟨?_,?_⟩),_,rfl,?_⟩)⟩)
  ·intro U hU;obtain⟨s,_,rfl⟩:=qf_.mp hU;trivial
  ·intro U hU;obtain⟨s,_,rfl⟩:=qf_.mp hU;trivial
  rw[zGf]
  refine aR ⟨by rw[qc_];have:=h.2.1;omega,?_⟩
  refine dR (λkt:Str×Tv=>sT kt.1) (λkt=>bT true) (λkt hk R q=>⟨_,uZ h.1 hk,_,uZ h.1 hk,kt.2,rfl,h.2.2 kt hk,q⟩) ⟨vX kts,?_⟩
  rw[uX]
  exact q
 |leaf v=>
  cases v with
  |non=>exact⟨rfl,_,rfl,aR ⟨_,rfl,aR ⟨_,rfl,aR ⟨_,rfl,aR ⟨_,rfl,aR ⟨_,rfl,aR ⟨_,rfl,bX (bX ⟨_,rfl,bX q⟩)⟩⟩⟩⟩⟩⟩⟩
  |bl b=>
   rw[<-zE6 (b:=b)]at q
   exact⟨rfl,_,rfl,bX (bX ⟨_,rfl,bX ⟨_,rfl,bX q⟩⟩)⟩
  |int i=>
   rw[<-zE5 (i:=i)]at q
   exact⟨rfl,_,rfl,aR ⟨_,rfl,aR ⟨_,rfl,bX (bX ⟨_,rfl,bX ⟨_,rfl,bX q⟩⟩)⟩⟩⟩
  |str s=>
   rw[<-zGh (s:=s)]at q
   exact⟨rfl,_,rfl,aR ⟨_,rfl,aR ⟨_,rfl,aR ⟨_,rfl,aR ⟨_,rfl,bX (bX ⟨_,rfl,bX ⟨_,rfl,bX q⟩⟩)⟩⟩⟩⟩⟩
  |_=>exact False.elim h
 |seq t xs=>
  cases t with
  |false=>
   refine⟨rfl,_,rfl,aR ⟨_,rfl,aR ⟨_,rfl,aR ⟨_,rfl,aR ⟨_,rfl,aR ⟨_,rfl,aR ⟨_,rfl,aR ⟨_,rfl,aR ⟨_,rfl,aR ⟨_,rfl,aR ⟨_,rfl,aR ⟨_,rfl,aR ⟨_,rfl,eJ (λ_=>⟨false,xs,xs,rfl,?_⟩) (λz=>absurd rfl z)⟩⟩⟩⟩⟩⟩⟩⟩⟩⟩⟩⟩⟩
   rw[zAG]
   refine⟨by rw[qc_];have:=h.1;omega,dR (λx=>.seq true [x,x]) (λx=>bT true) (λx hx R q=>⟨_,rfl,rfl,_,_,rfl,_,_,rfl,rfl,x,rfl,h.2 x hx,q⟩) ⟨vX xs,?_⟩⟩
   rw[uX]
   exact q
  |true=>
   refine⟨rfl,_,rfl,aR ⟨_,rfl,aR ⟨_,rfl,aR ⟨_,rfl,aR ⟨_,rfl,aR ⟨_,rfl,aR ⟨_,rfl,aR ⟨_,rfl,aR ⟨_,rfl,aR ⟨_,rfl,aR ⟨_,rfl,aR ⟨_,rfl,aR ⟨_,rfl,eJ (λ_=>⟨true,xs,xs,rfl,?_⟩) (λz=>absurd rfl z)⟩⟩⟩⟩⟩⟩⟩⟩⟩⟩⟩⟩⟩
   rw[zAG]
   refine⟨by rw[qc_];have:=h.1;omega,dR (λx=>.seq true [x,x]) (λx=>bT true) (λx hx R q=>⟨_,rfl,rfl,_,_,rfl,_,_,rfl,rfl,x,rfl,h.2 x hx,q⟩) ⟨vX xs,?_⟩⟩
   rw[uX]
   exact q
theorem zBU(h:Has K mg "_law_same" mN)(B:Own mg):∀n:Nat,PGood P w K mg base (1+n) "_law_same" ["_law_one","_law_other"] (oE n)
 |0=>h.pfalse C46_ (fun|_,_,_,_,_,_,[_,_],_=>rfl) λas R ⟨_,_,h,_⟩=>h
 |n+1=>zLg h B (zBU h B n)
end
section
variable{P:Program}{w:World}{K:W.Frag}{mg:Str->Option Value}{base:Heap}
theorem zBv(ts:List Str)(ne:ts≠[]):SameD 3 (bV (bO ts)):=by
 unfold bO
 split
 ·rename_i h
  refine⟨by simp,λx hx=>?_⟩
  simp only[List.mem_cons,List.not_mem_nil,or_false]at hx
  rcases hx with rfl|rfl
  ·trivial
  ·exact zAd 0 (by rw[(eM _).length_eq];omega)
 ·obtain⟨hd,lo,hi,ms,e,m⟩:=iI ne
  rw[e]
  refine⟨by simp,λx hx=>?_⟩
  simp only[List.mem_cons,List.not_mem_nil,or_false]at hx
  rcases hx with rfl|rfl|rfl|rfl|rfl
  ·trivial
  ·trivial
  ·trivial
  ·trivial
  ·refine zAd 0 ?_
   rw[m.mks]
   exact qh_ (qj3_ _ _) (by decide)
theorem zGP{D:List Tv->List Pt}{d:Nat}(hD:∀A,SameD (d+3) (bZ (D A))){ks:List (List (Str×Tv))}:SameD (d+6) (aX (dcP D ks)):=by
 by_cases h:(aH (aO ks)).length<=8
 ·rw[gF h,eK]
  refine⟨by simp,λx hx=>?_⟩
  simp only[List.mem_cons,List.not_mem_nil,or_false]at hx
  rcases hx with rfl|rfl|rfl|rfl
  ·trivial
  ·trivial
  ·trivial
  ·refine⟨by rw[qc_,kE];omega,λy hy=>?_⟩
   obtain⟨x,hx,rfl⟩:=qf_.mp hy
   obtain⟨n,_,rfl⟩:=qf_.mp hx
   refine⟨by simp,λz hz=>?_⟩
   have hz:z∈[sT n,bT (cV D ks n).2.1,bZ (D (atK n ks))]:=hz
   simp only[List.mem_cons,List.not_mem_nil,or_false]at hz
   rcases hz with rfl|rfl|rfl
   ·trivial
   ·trivial
   ·exact hD _
 ·have ne:aO ks≠[]:=λe=>h (by rw[e];exact qs_ _)
  rw[gE h,fJ]
  refine⟨by simp,λx hx=>?_⟩
  simp only[List.mem_cons,List.not_mem_nil,or_false]at hx
  rcases hx with rfl|rfl|rfl|rfl|rfl
  ·trivial
  ·trivial
  ·trivial
  ·exact(zBv _ ne).le (by omega)
  ·exact(hD _).le (by omega)
theorem zAP:∀(n:Nat) (A:List Tv),SameD (4*n+6) (bZ (bM n A))
 |0,A=>⟨by simp[bM],λx hx=>by simp[bM]at hx⟩
 |n+1,A=>by
  have ih:=zAP n
  refine⟨?_,λx hx=>?_⟩
  ·rw[qc_]
   exact qh_ (qn2_ _ _) (by decide)
  ·obtain⟨p,hp,rfl⟩:=qf_.mp hx
   obtain⟨k,_,e⟩:=qd1_.mp hp
   show SameD (4*n+9) (aX p)
   unfold bH at e
   split at e
   ·have:p=.nothing:=by
     split at e
     ·cases e;rfl
     ·cases e
    rw[this,tL]
    refine⟨by simp,λx hx=>?_⟩
    rw[qa1_.mp hx];trivial
   ·obtain⟨_,rfl⟩:=eC e
    rw[pR]
    refine⟨by simp,λx hx=>?_⟩
    simp only[List.mem_cons,List.not_mem_nil,or_false]at hx
    rcases hx with rfl|rfl
    ·trivial
    ·refine⟨by rw[qc_];exact qh_ (iA _ _) (by decide),λx hx=>?_⟩
     obtain⟨b,_,rfl⟩:=qf_.mp hx
     trivial
   ·obtain⟨_,rfl⟩:=eC e
    rw[qD]
    refine⟨by simp,λx hx=>?_⟩
    simp only[List.mem_cons,List.not_mem_nil,or_false]at hx
    rcases hx with rfl|rfl|rfl|rfl<;>trivial
   ·obtain⟨ne,rfl⟩:=eC e
    rw[pW]
    refine⟨by simp,λx hx=>?_⟩
    simp only[List.mem_cons,List.not_mem_nil,or_false]at hx
    rcases hx with rfl|rfl
    ·trivial
    ·exact(zBv _ ne).le (by omega)
   ·obtain⟨_,rfl⟩:=eC e
    rw[iB]
    refine⟨by simp,λx hx=>?_⟩
    simp only[List.mem_cons,List.not_mem_nil,or_false]at hx
    rcases hx with rfl|rfl|rfl|rfl
    ·trivial
    ·trivial
    ·trivial
    ·exact(ih _).le (by omega)
   ·obtain⟨_,rfl⟩:=eC e
    exact zGP (d:=4*n+3) λA=>ih A
   ·cases e
end
section
variable{P:Program}{w:World}{K:W.Frag}{mg:Str->Option Value}{base:Heap}
variable{n:Nat}
def CopyE:Nat->Tv->Prop
 |0,_=>False
 |_+1,.leaf .non=>True
 |_+1,.leaf (.bl _)=>True
 |_+1,.leaf (.int _)=>True
 |_+1,.leaf (.str _)=>True
 |n+1,.seq false xs=>xs.length<=1000/\∀x∈xs,CopyE n x
 |n+1,.dct kts=>(kts.map (·.1)).Nodup/\kts.length<64/\∀kt∈kts,CopyE n kt.2
 |_,_=>False
theorem CopyE.six{n:Nat}{v:Tv}(h:CopyE (n+1) v):v=nT\/(∃b,v=bT b)\/(∃i,v=iT i)\/(∃s,v=sT s)\/(∃xs,v=.seq false xs)\/∃k,v=.dct k:=by
 cases v with
 |leaf v=>cases v with
  |non=>exact .inl rfl
  |bl b=>exact .inr (.inl ⟨b,rfl⟩)
  |int i=>exact .inr (.inr (.inl ⟨i,rfl⟩))
  |str s=>exact .inr (.inr (.inr (.inl ⟨s,rfl⟩)))
  |_=>exact False.elim h
 |seq t xs=>cases t with
  |false=>exact .inr (.inr (.inr (.inr (.inl ⟨xs,rfl⟩))))
  |true=>exact False.elim h
 |dct k=>exact .inr (.inr (.inr (.inr (.inr ⟨k,rfl⟩))))
theorem CopyE.vd{nm tx:List Str}:∀{n:Nat}{T:Tv},VD nm tx n T->CopyE n T
 |0,_,h=>h
 |n+1,.leaf v,h=>by cases v<;>first|trivial|exact h
 |n+1,.seq false xs,h=>⟨qh_ h.1 (by decide),λx hx=>CopyE.vd (h.2 x hx)⟩
 |n+1,.seq true xs,h=>False.elim h
 |n+1,.dct k,h=>⟨h.1,qq2_ h.2.1 (by decide),λkt hk=>CopyE.vd (h.2.2 kt hk).2⟩
theorem CopyE.vt{nm tx:List Str}{n:Nat}{T:Tv}:VT nm tx n T->CopyE n T
 |.inl h=>.vd h
 |.inr ⟨n',xs,e,e2,l,h⟩=>by subst e e2;exact⟨by omega,λx hx=>.vd (h x hx)⟩
theorem SameE.vt{nm tx:List Str}{n:Nat}{T:Tv}:VT nm tx n T->SameE n T
 |.inl h=>.vd h
 |.inr ⟨n',xs,e,e2,l,h⟩=>by subst e e2;exact⟨by omega,λx hx=>.vd (h x hx)⟩
def oH(n:Nat):PSp:=λas R=>∃T,as=[.va T]/\CopyE n T/\R T
theorem zFI{kts:List (Str×Tv)}(nd:(kts.map (·.1)).Nodup){j:Nat}{kt:Str×Tv}(h:kts[j]?=some kt):eG (kts.take j) kt.1 kt.2=kts.take (j+1):=by
 obtain⟨hj,rfl⟩:=qx_.mp h
 have hn:kts[j].1∉(kts.take j).map (·.1):=λz=>by
  obtain⟨e,he,ee⟩:=qf_.mp z
  obtain⟨k,hk,e2⟩:=qU1_.mp he
  rw[qR_]at hk
  rw[List.getElem_take]at e2
  rw[List.nodup_iff_pairwise_ne,qv2_,qp3_]at nd
  exact nd k j (by omega) hj (by omega) (by rw[e2];exact ee)
 unfold eG
 rw[if_neg,qB2_ hj]
 intro z
 obtain⟨e,he,ee⟩:=qL_.mp z
 exact hn (qf_.mpr ⟨e,he,qb1_ ee⟩)
theorem C45_:bA ["_law_value_here","_law_found","_law_name"] ["_law_value_here"] (aN oU):=fsc (by decide +kernel)
theorem zLh(h:Has K mg "_law_copy" oU)(B:Own mg)(G45_:PGood P w K mg base (1+n) "_law_copy" ["_law_value_here"] (oH n))   : PGood P w K mg base (1+n+1) "_law_copy" ["_law_value_here"] (oH (n+1)):=by
 have nd:=C45_.nd
 refine h.pgood C45_ (fun|_,_,_,_,_,_,[_],_=>rfl) (λf cdv A outer s H E F hr=>
   (aI (bD (cS (cI "list" mV rfl B.isinstance (aC 0) (cG (v:=.ty "list") rfl B.list_ boot_list rfl)))
    (aJ (aQ (bF (fE (sc:=aN oU) (XN:=["_law_value_here","_law_found","_law_name"]) (N:=["_law_item"]) (fr:=[]) (bY (aC 0)) (λ_ _ _ _ _=>(aL G45_ hr (aD (aC 0) aE)))))))
    bC)
   (aI (bD (cS (cI "dict" kW rfl B.isinstance (aC 0) (cG (v:=.ty "dict") rfl B.dict_ boot_dict rfl)))
    (aI (zAI (i:=1) nd rfl (.inl rfl))
    (aI (dX (m:=3) qG_ rfl (bY (aC 0)) (dC 2 (by decide) nd rfl (.inl rfl))
     (aJ (zBo (i:=1) (oQ hr) rfl (by first|exact Or.inl rfl|exact Or.inr (Or.inl rfl)|exact Or.inr (Or.inr rfl)) (aC 2) (aL G45_ hr (aD (aT hr (aC 0) (aC 2)) aE)))))
    (aJ (aQ (aC 1)))))
    bC)
   (aJ (aQ (aC 0)))))) (λas R q=>?_)
 obtain⟨T,rfl,h,q⟩:=q
 rcases CopyE.six h with rfl|⟨b,rfl⟩|⟨i,rfl⟩|⟨s,rfl⟩|⟨xs,rfl⟩|⟨kts,rfl⟩
 ·exact⟨rfl,_,rfl,aR ⟨_,rfl,aR q⟩⟩
 ·exact⟨rfl,_,rfl,aR ⟨_,rfl,aR q⟩⟩
 ·exact⟨rfl,_,rfl,aR ⟨_,rfl,aR q⟩⟩
 ·exact⟨rfl,_,rfl,aR ⟨_,rfl,aR q⟩⟩
 ·refine⟨rfl,_,rfl,bX ⟨by have:=h.1;omega,zAw (λx=>x) (λx hx R q=>⟨x,rfl,h.2 x hx,q⟩) (by rw[List.map_id'];exact q)⟩⟩
 ·refine⟨rfl,_,rfl,aR ⟨_,rfl,bX ?_⟩⟩
  refine gS (λkt:Str×Tv=>sT kt.1) (l:=kts) (λi ρ=>∃s2,ρ=[.va (.dct kts),.dct (kts.take i),s2]) ⟨_,rfl⟩ ?_ ?_
  ·rintro i kt _ N hk ⟨s2,rfl⟩ hN
   have km:=qE_ hk
   have e:=zFI h.1 hk
   refine⟨_,uZ h.1 km,kt.2,rfl,h.2.2 kt km,⟨_,rfl⟩,_,_,rfl,rfl,by rw[e,qR_];have:=h.2.1;omega,?_⟩
   rw[e]
   exact hN _ ⟨_,rfl⟩
  ·rintro _ ⟨s2,rfl⟩
   rw[qf1_]
   exact q
theorem zA5(h:Has K mg "_law_copy" oU)(B:Own mg):∀n:Nat,PGood P w K mg base (1+n) "_law_copy" ["_law_value_here"] (oH n)
 |0=>h.pfalse C45_ (fun|_,_,_,_,_,_,[_],_=>rfl) λas R ⟨_,_,h,_⟩=>h
 |n+1=>zLh h B (zA5 h B n)
end
end My
namespace My
open PySem L2 PyProof.Rows WordM
section
variable{P:Program}{w:World}{K:W.Frag}{mg:Str->Option Value}{base:Heap}
theorem zI0{nm tx:List Str}{n:Nat}(T:Tv)(hT:wV tx T):VD nm tx (n+1) T:=by
 cases T with
 |leaf v=>cases v<;>first|exact hT|exact False.elim hT
 |seq t xs=>exact False.elim hT
 |dct k=>exact False.elim hT
theorem VDs.vt{nm tx:List Str}{T:Tv}:VT nm tx 4 T->VDs nm tx 4 [T]
 |.inl h=>.of (λv hv=>by rw[qa1_.mp hv];exact h) (by rw[qL1_];decide)
 |.inr ⟨n',xs,e,e2,l,h⟩=>by
  cases e;subst e2
  exact .long h (qh_ (qt1_ _ l) (by decide)) (by omega)
def vP:PSp:=λas R=>∃nm tx st sp,∃k:Int,as=[.dk,.va (fN nm tx st sp),.va (iT k)]/\fM nm tx st sp/\0<=k/\k<=100/\∀T,VT nm tx 4 T->R T
theorem C53_:bA ["_law_deck_here","_law_world_here","_law_k"] ["_law_deck_here","_law_world_here","_law_k"] (aN sJ):=fsc (by decide +kernel)
theorem zK9(h:Has K mg "_law_drawn" sJ)(B:Own mg)(G43_:PGood P w K mg base 13 "_law_dict" ["_law_deck_here","_law_world_here","_law_deep","_law_many"] (rH 3))(G35_:PGood P w K mg base 2 "_law_take" ["_law_deck_here","_law_most"] fP)(G42_:PGood P w K mg base 5 "_law_leaf" ["_law_deck_here","_law_world_here"] oG)(G44_:PGood P w K mg base 14 "_law_value" ["_law_deck_here","_law_world_here","_law_deep","_law_way"] (lL 4))   : PGood P w K mg base 15 "_law_drawn" ["_law_deck_here","_law_world_here","_law_k"] vP:=by
 have nd:=C53_.nd
 refine h.pgood C53_ (fun|_,_,_,_,_,_,[_,_,_],_=>rfl) (λf cdv A outer s H E F hr=>
   (aI (bD (dF kL (aC 2) aG)
    (aJ (aQ (aL G43_ hr (bW 0 (aD (aC 1) (aD aG (aD (bN cY aG (aC 2)) aE)))))))
    bC)
   (aI (bD (eQ (lR (cC hr (aC 2) aG) (nJ (cC hr (aL G35_ hr (bW 0 (aD aG aE))) aG))))
    (aJ (aQ (bF (fE (sc:=aN sJ) (XN:=["_law_deck_here","_law_world_here","_law_k"]) (N:=["_law_j","_law_deck_here","_law_world_here"]) (fr:=[0,1]) (jI rfl B.range (aD (aL G35_ hr (bW 0 (aD aG aE))) aE)) (λ_ _ _ _ _=>(aL G42_ hr (bW 1 (aD (aC 2) aE))))))))
    bC)
   (aJ (aQ (aL G44_ hr (bW 0 (aD (aC 1) (aD (aT hr (bF (cH (aD aG (aD aG (aD aG aE))))) (aL G35_ hr (bW 0 (aD aG aE)))) (aD aG aE)))))))))) (λas R q=>?_)
 obtain⟨nm,tx,st,sp,k,rfl,hw,k0,k1,q⟩:=q
 refine⟨rfl,_,rfl,jS (λz=>?_) (λz=>?_)⟩
 ·have z:k<2:=by simpa using z
  exact⟨rfl,nm,tx,st,sp,1,8+k,rfl,hw,by decide,by decide,by omega,by omega,λT hT=>q T (.inl hT)⟩
 have menu3:∀r:Int,0<=r->r<3->∃D,pIx (.seq false [iT 1,iT 2,iT 3]) (iT r) (·=D)/\∃d:Int,D=iT d/\0<=d/\d<4:=λr r0 r1=>by
  obtain⟨D,hD,hDm⟩:=kR (l:=[iT 1,iT 2,iT 3]) r0 r1
  refine⟨D,⟨_,hD,rfl⟩,?_⟩
  simp only[List.mem_cons,List.not_mem_nil,or_false]at hDm
  rcases hDm with e|e|e<;>subst e<;>exact⟨_,rfl,by decide,by decide⟩
 refine⟨_,rfl,sif (λy=>?_) (λy=>?_)⟩
 ·refine⟨rfl,3,rfl,by decide,cK (by decide) (by decide),λa a0 a1=>⟨_,rfl,sif (λy=>?_) (λy=>?_)⟩⟩
  ·refine⟨rfl,290,rfl,by decide,cK (by decide) (by decide),λm m0 m1=>⟨_,rfl,by omega,by omega,by rw[kB];omega,?_⟩⟩
   refine uM (λT U=>VD nm tx 3 U) (λT hT R hR=>⟨rfl,nm,tx,st,sp,rfl,hw,λU hU=>hR U (zI0 U hU)⟩) (λUs hUs=>?_)
   have l:=hUs.length
   rw[kB]at l
   exact q _ (.inr ⟨3,Us,rfl,rfl,by omega,λx hx=>tR (g:=VD nm tx 3) (λa b h=>h) hUs x hx⟩)
  ·refine⟨rfl,by simp,rfl,3,rfl,by decide,cK (by decide) (by decide),λr r0 r1=>?_⟩
   obtain⟨_,⟨D,hD,rfl⟩,d,rfl,d0,d1⟩:=menu3 r r0 r1
   exact⟨_,hD,nm,tx,st,sp,d,9,rfl,hw,d0,by omega,by decide,by decide,λT hT=>q T (.inl hT)⟩
 ·refine aR ⟨rfl,by simp,rfl,3,rfl,by decide,cK (by decide) (by decide),λr r0 r1=>?_⟩
  obtain⟨_,⟨D,hD,rfl⟩,d,rfl,d0,d1⟩:=menu3 r r0 r1
  exact⟨_,hD,nm,tx,st,sp,d,9,rfl,hw,d0,by omega,by decide,by decide,λT hT=>q T (.inl hT)⟩
theorem C54_:bA ["_law_script","_law_deck_here","_law_world_here","_law_k","_law_value_here","_law_handed","_law_due_here","_law_turn"] ["_law_script"] (aN iZ):=fsc (by decide +kernel)
theorem zIV{f:Addr}{fd:FuncData}(F:Fun K "law" "law" iZ f fd)(B:Own mg)(G34_:Good P w K mg base 1 "_law_deck" ["_law_script"] (zCd K))(G40_:PGood P w K mg base 5 "_law_world" ["_law_deck_here"] vN)(G35_:PGood P w K mg base 2 "_law_take" ["_law_deck_here","_law_most"] fP)(G53_:PGood P w K mg base 15 "_law_drawn" ["_law_deck_here","_law_world_here","_law_k"] vP)(G45_:PGood P w K mg base 5 "_law_copy" ["_law_value_here"] (oH 4))(G52_:PGood P w K mg base 13 "_law_due" ["_law_values"] (mF 5))(G46_:PGood P w K mg base 23 "_law_same" ["_law_one","_law_other"] (oE 22))(G21_:PGood P w K mg base 46 "form_of" ["value"] (nG 4))   : FnOk P w K mg base CX0 49 f fd ["_law_script"] (rP K):=by
 refine F.ok C54_ (λvs H Q E q=>?_) (λcdv A outer s H vs Q E hr q=>?_)
 ·obtain⟨a,ns,rfl,_⟩:=q
  rfl
 ·obtain⟨aa,ns,rfl,hS,hlen,q⟩:=q
  have nd:=C54_.nd
  refine⟨_,(gM (jO (i:=1) nd rfl (by first|exact Or.inl rfl|exact Or.inr rfl) (rV G34_ (hr.mono (by omega)) rfl (cT (pv 0) dD)))
   (zG0 λF=>(aI (aZ 2 nd (aL G40_ hr (bW 1 aE)))
   (aI (dX (m:=8) qG_ rfl (jI rfl B.range (aD (bN cY aG (aL G35_ hr (bW 1 (aD aG aE)))) aE)) (dC 3 (by decide) nd rfl (.inl rfl))
    (aI (aZ 4 nd (aL G53_ hr (bW 1 (aD (aC 2) (aD (aC 3) aE)))))
    (aI (aZ 5 nd (aL G45_ hr (aD (aC 4) aE)))
    (aI (aZ 6 nd (aL G52_ hr (aD (bF (cH (aD (aC 4) aE))) aE)))
    (aJ (dX (m:=8) qG_ rfl (jI rfl B.range (aD aG aE)) (dC 7 (by decide) nd rfl (.inl rfl))
     (aJ (bD (eQ (hC (lU (cS (aL G46_ hr (aD (aL G21_ hr (aD (aC 5) aE)) (aD (aC 6) aE))))) (iN (lU (cS (aL G46_ hr (aD (aC 5) (aD (aC 4) aE))))))))
      (aJ (aQ jP))
      bC))))))))
   (aJ (aQ jP)))))),?_⟩
  refine⟨_,rfl,aa,ns,rfl,hS,λp c H1 np nc d1 s1=>?_⟩
  refine zHm (N:=["_law_script","_law_deck_here","_law_world_here","_law_k","_law_value_here","_law_handed","_law_due_here","_law_turn"]) (by decide) d1 q ?_
  clear q hS hlen hr d1 s1 np nc
  refine⟨rfl,rfl,λnm tx st sp hw=>?_⟩
  show PEnds.nx _ _
  refine nxE (ρ':=[.no,.dk,.va (fN nm tx st sp),.no,.no,.no,.no,.no]) rfl ?_
  refine⟨rfl,6,rfl,by decide,cK (by decide) (by decide),λm m0 m1=>⟨_,rfl,by omega,by omega,?_⟩⟩
  refine jL (λi ρ=>∃s3 s4 s5 s6 s7:Sl,ρ=[.no,.dk,.va (fN nm tx st sp),s3,s4,s5,s6,s7]) ⟨_,_,_,_,_,rfl⟩ ?_ (λ_ ⟨_,_,_,_,_,e⟩=>by subst e;rfl)
  rintro i T _ N hT ⟨s3,s4,s5,s6,s7,rfl⟩ hN
  obtain⟨hi,eT⟩:=nF hT
  subst eT
  refine⟨rfl,nm,tx,st,sp,_,rfl,hw,by omega,by omega,λv hv=>⟨v,rfl,CopyE.vt hv,?_⟩⟩
  refine⟨by simp,4,nm,tx,st,sp,[v],rfl,hw,VDs.vt hv,by decide,by decide,?_⟩
  show PEnds.nx _ _
  refine nxE (ρ':=[.no,.dk,.va (fN nm tx st sp),.va (iT (0+i)),.va v,.va v,.va (bZ (bM 4 [v])),s7]) rfl ?_
  refine⟨_,rfl,by decide,by decide,?_⟩
  refine jL (λj ρ=>∃s7:Sl,ρ=[.no,.dk,.va (fN nm tx st sp),.va (iT (0+i)),.va v,.va v,.va (bZ (bM 4 [v])),s7]) ⟨_,rfl⟩ ?_ (λ_ ⟨s7,e⟩=>by subst e;exact hN _ ⟨_,_,_,_,_,rfl⟩)
  rintro j U _ N' hU ⟨s7,rfl⟩ hN'
  refine⟨nm,tx,st,sp,hw,v,rfl,hv,_,rfl,.of (zAP 4 [v]),_,rfl,aR ⟨v,rfl,.le (by decide) (SameE.vt hv),_,rfl,aR (hN' _ ⟨_,rfl⟩)⟩⟩
end
end My
namespace My
open PySem L2 PyProof.Rows
open WordM
open PySem
theorem all_mk{l:W.OpenLaw}{w:World}{K:W.Frag}{h:Heap}{mg:Str->Option Value}{fa:Addr}(X:K.In h)(G:h.Ns mainGlobals mg)(hfa:mg "law"=some (.ref fa)){f54:Addr}{v_54 t_54:Option Addr}{p_54:Array (Option Value)}{u_54 w_54 x_54 y_54 r_54 q_54:Value}
 (h0_:Has K mg "kind_of" s0_)
 (h1_:Has K mg "divisor_of" s1_)
 (h2_:Has K mg "run_of" s2_)
 (h3_:Has K mg "telling_numbers" s3_)
 (h4_:Has K mg "run_joined" s4_)
 (h5_:Has K mg "has_mark" s5_)
 (h6_:Has K mg "marks_of" s6_)
 (h7_:Has K mg "marks_joined" s7_)
 (h8_:Has K mg "shared_head" s8_)
 (h9_:Has K mg "make_of" s9_)
 (h10_:Has K mg "words_of" xP)
 (h11_:Has K mg "as_make" xO)
 (h12_:Has K mg "with_shorter_head" xN)
 (h13_:Has K mg "makes_joined" xM)
 (h14_:Has K mg "words_joined" xL)
 (h15_:Has K mg "part_kind" xK)
 (h16_:Has K mg "part_for" xJ)
 (h17_:Has K mg "forms_within" sS)
 (h18_:Has K mg "list_part" sR)
 (h19_:Has K mg "dict_part" mQ)
 (h20_:Has K mg "part_of" sQ)
 (h21_:Has K mg "form_of" sP)
 (h22_:Has K mg "fields_by_name" sO)
 (h23_:Has K mg "field_joined" pC)
 (h24_:Has K mg "records_joined" pB)
 (h25_:Has K mg "name_words" sM)
 (h26_:Has K mg "tables_joined" pA)
 (h27_:Has K mg "dicts_joined" oZ)
 (h28_:Has K mg "lists_joined" oY)
 (h29_:Has K mg "parts_joined" oX)
 (h30_:Has K mg "joined" mP)
 (h31_:Has K mg "all_joined" mO)
 (h32_:Has K mg "told" oW)
 (h33_:Has K mg "_law_mixed" xI)
 (h34_:Has K mg "_law_deck" xH)
 (h35_:Has K mg "_law_take" xG)
 (h36_:Has K mg "_law_signs" xF)
 (h37_:Has K mg "_law_text" xE)
 (h38_:Has K mg "_law_unlike" xD)
 (h39_:Has K mg "_law_far" xC)
 (h40_:Has K mg "_law_world" sL)
 (h41_:Has K mg "_law_number" xB)
 (h42_:Has K mg "_law_leaf" xA)
 (h43_:Has K mg "_law_dict" sK)
 (h44_:Has K mg "_law_value" oV)
 (h45_:Has K mg "_law_copy" oU)
 (h46_:Has K mg "_law_same" mN)
 (h47_:Has K mg "_law_divisor" wZ)
 (h48_:Has K mg "_law_mark" wY)
 (h49_:Has K mg "_law_words" kQ)
 (h50_:Has K mg "_law_run" wX)
 (h51_:Has K mg "_law_dicts" kP)
 (h52_:Has K mg "_law_due" gJ)
 (h53_:Has K mg "_law_drawn" sJ)
 (a54:W.nsIn K mainGlobals "law"=some (some (.ref f54))) (l54:K.lookup f54=some ⟨u_54,v_54,.func (W.fnOf "law" "law" (gU iZ) (eZ iZ) (aN iZ) .none w_54 x_54 y_54 t_54 r_54 q_54),p_54⟩) (c54:W.codeIn K r_54 "law"=true) (k54:W.keepIn K (.ref f54)=true)
    (z0:W.nsIn K mainGlobals "len"=some none) (z1:W.nsIn K mainGlobals "range"=some none) (z2:W.nsIn K mainGlobals "isinstance"=some none) (z3:W.nsIn K mainGlobals "int"=some none) (z4:W.nsIn K mainGlobals "bool"=some none) (z5:W.nsIn K mainGlobals "str"=some none) (z6:W.nsIn K mainGlobals "list"=some none) (z7:W.nsIn K mainGlobals "tuple"=some none) (z8:W.nsIn K mainGlobals "dict"=some none) (z9:W.nsIn K mainGlobals "sum"=some none) (z10:W.nsIn K mainGlobals "min"=some none) (z11:W.nsIn K mainGlobals "max"=some none) (z12:W.nsIn K mainGlobals "all"=some none) (z13:W.nsIn K mainGlobals "any"=some none) (z14:W.nsIn K mainGlobals "abs"=some none) (z15:W.nsIn K mainGlobals "zip"=some none) (z16:W.nsIn K mainGlobals "sorted"=some none) (z17:W.nsIn K mainGlobals "set"=some none) (z18:W.nsIn K mainGlobals "enumerate"=some none) {aSIGNS aMARKS aPK:Addr} {tk1 tk2 tk3 tk4 tk5 tk6 tk7 tk8 um1 um2 um3 um4 tp1 tp2 tp3 tp4 tp5 tp6 tp7 tp8 tp9 tp10 tp11 tp12 tp13 tp14:Tok} {epS nM epP:Nat} {ddM:Option Addr} {slM:Array (Option Value)} {aKN:Addr} {uk1 uk2 uk3 uk4 uk5 uk6:Tok} {nK:Nat} {slK:Array (Option Value)} {tkF tkF8:Tok}
    (aS:W.nsIn K mainGlobals "SIGNS"=some (some (.ref aSIGNS)))
    (lS:K.lookup aSIGNS=some ⟨.type "dict",none,.dict #[{hash:=PyData.keyHash w.params ("figure":Str),key:=.str "figure" tk1,val:=.str "0123456789" tk2},{hash:=PyData.keyHash w.params ("great":Str),key:=.str "great" tk3,val:=.str "ABCDEFGHIJKLMNOPQRSTUVWXYZ" tk4},{hash:=PyData.keyHash w.params ("other":Str),key:=.str "other" tk5,val:=.str " !\"#$&'()*+,-./:;<=>?\x40[\\]^_`{|}~" tk6},{hash:=PyData.keyHash w.params ("small":Str),key:=.str "small" tk7,val:=.str "abcdefghijklmnopqrstuvwxyz" tk8}] epS,#[]⟩)
    (aM:W.nsIn K mainGlobals "MARKS"=some (some (.ref aMARKS)))
    (lM:K.lookup aMARKS=some ⟨.type "tuple",ddM,.seq #[.str "figure" um1,.str "great" um2,.str "other" um3,.str "small" um4] nM,slM⟩)
    (aP:W.nsIn K mainGlobals "PART_KINDS"=some (some (.ref aPK)))
    (lP:K.lookup aPK=some ⟨.type "dict",none,.dict #[{hash:=PyData.keyHash w.params ("nothing":Str),key:=.str "nothing" tp1,val:=.str "nothing" tp2},{hash:=PyData.keyHash w.params ("truths":Str),key:=.str "truths" tp3,val:=.str "truth" tp4},{hash:=PyData.keyHash w.params ("numbers":Str),key:=.str "numbers" tp5,val:=.str "number" tp6},{hash:=PyData.keyHash w.params ("texts":Str),key:=.str "texts" tp7,val:=.str "text" tp8},{hash:=PyData.keyHash w.params ("lists":Str),key:=.str "lists" tp9,val:=.str "list" tp10},{hash:=PyData.keyHash w.params ("record":Str),key:=.str "record" tp11,val:=.str "dict" tp12},{hash:=PyData.keyHash w.params ("table":Str),key:=.str "table" tp13,val:=.str "dict" tp14}] epP,#[]⟩)
    (aK:W.nsIn K mainGlobals "KINDS"=some (some (.ref aKN)))
    (lK:K.lookup aKN=some ⟨.type "tuple",none,.seq #[.str "nothing" uk1,.str "truth" uk2,.str "number" uk3,.str "text" uk4,.str "list" uk5,.str "dict" uk6] nK,slK⟩)
    (aF:W.nsIn K mainGlobals "MOST_FEW"=some (some (.int 6 tkF)))
    (aF8:W.nsIn K mainGlobals "MOST_FIELDS"=some (some (.int 8 tkF8))):
    ∃fd:FuncData,(∀(s:Shared) (v:Value),BindsTo s fd ⟨[v],[]⟩ [("_law_script",v)])/\∀base:Heap,K.In base->base.Ns mainGlobals mg->FnOk l.prog w K mg base CX0 49 fa fd ["_law_script"] (rP K):=by
  have e:=hfa.symm.trans (PySem.W.mg_of X G a54)
  cases e
  have B:Own mg:=zIM X G z0 z1 z2 z3 z4 z5 z6 z7 z8 z9 z10 z11 z12 z13 z14 z15 z16 z17 z18
  refine⟨W.fnOf "law" "law" (gU iZ) (eZ iZ) (aN iZ) .none w_54 x_54 y_54 t_54 r_54 q_54,λs v=>.of_eq rfl,λbase KB GB=>?_⟩
  have GSIGNS:oS K w.params mg "SIGNS" SGN:=⟨aSIGNS,PySem.W.mg_of X G aS,⟨⟨_,_,lS,⟨rfl,⟨_,rfl⟩,⟨_,rfl⟩,rfl,⟨_,rfl⟩,⟨_,rfl⟩,rfl,⟨_,rfl⟩,⟨_,rfl⟩,rfl,⟨_,rfl⟩,⟨_,rfl⟩,trivial⟩⟩,by decide +kernel⟩⟩
  have GPART_KINDS:oS K w.params mg "PART_KINDS" yF:=⟨aPK,PySem.W.mg_of X G aP,⟨⟨_,_,lP,⟨rfl,⟨_,rfl⟩,⟨_,rfl⟩,rfl,⟨_,rfl⟩,⟨_,rfl⟩,rfl,⟨_,rfl⟩,⟨_,rfl⟩,rfl,⟨_,rfl⟩,⟨_,rfl⟩,rfl,⟨_,rfl⟩,⟨_,rfl⟩,rfl,⟨_,rfl⟩,⟨_,rfl⟩,rfl,⟨_,rfl⟩,⟨_,rfl⟩,trivial⟩⟩,by decide +kernel⟩⟩
  have TM:∀H,SqT K H aMARKS (MK.map V.str):=λH=>.inr ⟨_,_,_,lM,rfl,rfl,by show 4<=sizeLine;decide,.cons ⟨_,rfl⟩ (.cons ⟨_,rfl⟩ (.cons ⟨_,rfl⟩ (.cons ⟨_,rfl⟩ .nil)))⟩
  have GMARKS:eF K mg "MARKS" (.seq true (MK.map sT)):=zA4 (PySem.W.mg_of X G aM) TM
  have TKN:∀H,SqT K H aKN ((kN6.map cR).map V.str):=λH=>.inr ⟨_,_,_,lK,rfl,rfl,by show 6<=sizeLine;decide,.cons ⟨_,rfl⟩ (.cons ⟨_,rfl⟩ (.cons ⟨_,rfl⟩ (.cons ⟨_,rfl⟩ (.cons ⟨_,rfl⟩ (.cons ⟨_,rfl⟩ .nil)))))⟩
  have GKINDS:eF K mg "KINDS" (.seq true (kN6.map λk=>sT (cR k))):=zA4 (PySem.W.mg_of X G aK) TKN
  have GMOST_FEW:eF K mg "MOST_FEW" (iT 6):=⟨.int 6,_,PySem.W.mg_of X G aF,⟨_,rfl⟩,λH=>.flat rfl⟩
  have GMOST_FIELDS:eF K mg "MOST_FIELDS" (iT 8):=⟨.int 8,_,PySem.W.mg_of X G aF8,⟨_,rfl⟩,λH=>.flat rfl⟩
  have G35_:PGood l.prog w K mg base 2 "_law_take" ["_law_deck_here","_law_most"] fP:=Good.take (zJf h35_ (zHs h33_))
  have G36_:PGood l.prog w K mg base 1 "_law_signs" [] qT:=zLp h36_ B 
  have G37_:PGood l.prog w K mg base 3 "_law_text" ["_law_deck_here","_law_most"] rF:=zLo h37_ B G36_ G35_
  have G38_:PGood l.prog w K mg base 4 "_law_unlike" ["_law_deck_here","_law_many","_law_most"] uS:=zLn h38_ B G36_ G37_
  have G39_:PGood l.prog w K mg base 3 "_law_far" ["_law_deck_here"] rT:=zLm h39_ B G35_
  have G40_:PGood l.prog w K mg base 5 "_law_world" ["_law_deck_here"] vN:=zLl h40_ B G35_ G38_ G37_ G39_
  have G41_:PGood l.prog w K mg base 4 "_law_number" ["_law_deck_here","_law_world_here"] uU:=zLk h41_ B G35_ G39_
  have G42_:PGood l.prog w K mg base 5 "_law_leaf" ["_law_deck_here","_law_world_here"] oG:=zLj h42_ B G35_ G41_
  have G0_:PGood l.prog w K mg base 1 "kind_of" ["value"] rG:=g0_ h0_ B 
  have G5_:PGood l.prog w K mg base 1 "has_mark" ["text","mark"] uE:=g5_ h5_ B GSIGNS
  have G6_:PGood l.prog w K mg base 2 "marks_of" ["text"] pY:=g6_ h6_ B G5_ GMARKS
  have G15_:PGood l.prog w K mg base 1 "part_kind" ["part"] tQ:=zLD h15_ B GPART_KINDS
  have G16_:PGood l.prog w K mg base 2 "part_for" ["form","kind"] mZ:=zLC h16_ B G15_
  have G1_:PGood l.prog w K mg base 1 "divisor_of" ["one","other"] wS:=g1_ h1_ B 
  have G3_:PGood l.prog w K mg base 1 "telling_numbers" ["run"] tZ:=g3_ h3_ B 
  have G2_:PGood l.prog w K mg base 2 "run_of" ["numbers"] vO:=g2_ h2_ B G1_
  have G4_:PGood l.prog w K mg base 3 "run_joined" ["one","other"] oF:=g4_ h4_ B G2_ G3_
  have G7_:PGood l.prog w K mg base 1 "marks_joined" ["one","other"] sW:=g7_ h7_ B 
  have G8_:PGood l.prog w K mg base 1 "shared_head" ["one","other"] sU:=g8_ h8_ B 
  have G9_:PGood l.prog w K mg base 3 "make_of" ["texts"] qL:=g9_ h9_ B G8_ G6_
  have G10_:PGood l.prog w K mg base 4 "words_of" ["texts"] jY:=zLI h10_ B G9_ GMOST_FEW
  have G11_:PGood l.prog w K mg base 4 "as_make" ["words"] uW:=zLH h11_ B G9_
  have G12_:PGood l.prog w K mg base 3 "with_shorter_head" ["make","head"] uA:=zLG h12_ B G7_ G6_
  have G13_:PGood l.prog w K mg base 4 "makes_joined" ["one","other"] uV:=zLF h13_ B G8_ G12_ G7_
  have G14_:PGood l.prog w K mg base 5 "words_joined" ["one","other"] lG:=zLE h14_ B G10_ G13_ G11_
  have G22_:PGood l.prog w K mg base 1 "fields_by_name" ["record"] mS:=zLx h22_ B 
  have G25_:PGood l.prog w K mg base 5 "name_words" ["part"] pE:=zLu h25_ B G10_
  have G17_:PGood l.prog w K mg base 1 "forms_within" ["part"] pF:=zLB h17_ B 
  have G43_:PGood l.prog w K mg base 13 "_law_dict" ["_law_deck_here","_law_world_here","_law_deep","_law_many"] (rH 3):=zC9 h43_ B G35_ (qO h44_ h43_ B G35_ G42_ 3)
  have G44_:PGood l.prog w K mg base 14 "_law_value" ["_law_deck_here","_law_world_here","_law_deep","_law_way"] (lL 4):=qO h44_ h43_ B G35_ G42_ 4
  have G48_:PGood l.prog w K mg base 1 "_law_mark" ["_law_sign"] wK:=zLe h48_ B 
  have G47_:PGood l.prog w K mg base 1 "_law_divisor" ["_law_one","_law_other"] uF:=zLf h47_ B 
  have G50_:PGood l.prog w K mg base 2 "_law_run" ["_law_numbers"] rS:=zLc h50_ B G47_
  have G49_:PGood l.prog w K mg base 2 "_law_words" ["_law_texts"] nP:=zLd h49_ B G48_
  have G52_:PGood l.prog w K mg base 13 "_law_due" ["_law_values"] (mF 5):=wL h52_ h51_ B G50_ G49_ 5
  have G46_:PGood l.prog w K mg base 23 "_law_same" ["_law_one","_law_other"] (oE 22):=zBU h46_ B 22
  have G45_:PGood l.prog w K mg base 5 "_law_copy" ["_law_value_here"] (oH 4):=zA5 h45_ B 4
  have G53_:PGood l.prog w K mg base 15 "_law_drawn" ["_law_deck_here","_law_world_here","_law_k"] vP:=zK9 h53_ B G43_ G35_ G42_ G44_
  have Gj:∀n:Nat,PGood l.prog w K mg base (9*n+9) "joined" ["one","other"] (ptJ (bM n) (WD n)):=λn=>zBV h30_ h29_ h28_ h27_ h26_ h31_ h24_ h23_ B G16_ G4_ G14_ G22_ G25_ G17_ GMOST_FIELDS GKINDS n
  have G21_:=(zBT h32_ h21_ h20_ h18_ h19_ h31_ B G0_ G10_ GMOST_FIELDS Gj 4).1
  exact zIV (zCu (st:=iZ) l54 c54 k54) B (zJg h34_ B) G40_ G35_ G53_ G45_ G52_ G46_ G21_ 
theorem walk{l:W.OpenLaw}{q:Program}{loose:List Str}{XP:(Str->Option Value)->Heap->Prop}{YP:World->Heap->Prop}{d:DefRec}{K:Params->W.Frag}(hn:l.most=some 63)(hdf:d.params.defaults=[])
  (hY:∀(w:World) (h:Heap),YP w h->(K w.params).In h)
  (F:∀(w:World) (mg:Str->Option Value) (fa:Addr) (h:Heap),(K w.params).In h->h.Ns mainGlobals mg->mg d.name=some (.ref fa) ->
   ∃fd:FuncData,(∀(s:Shared) (u:Value),BindsTo s fd ⟨[u],[]⟩ [("_law_script",u)])/\∀base:Heap,(K w.params).In base->base.Ns mainGlobals mg->FnOk l.prog w (K w.params) mg base CX0 49 fa fd ["_law_script"] (rP (K w.params))):
  PySem.W.WalkO q loose XP YP l.row.toRowW d [] (λf vs=>PySem.call f vs):=
 L2.walk_of (n:=63) (k:=49) (x:="_law_script") (CX:=λ_=>CX0) (sp:=λw=>rP (K w.params)) hn (by decide) hdf ⟨rfl,by decide,by decide,rfl⟩ hY F (λ_ _ a ns hl _ hS=>⟨a,ns,rfl,hS,hl,λ_=>rfl⟩) λ_ _ _ _ _ z=>z
end My
inductive PySem.W.Fast:Prop
|tw18265866822690245158
|tw1656275855969217568
|tw10000323691516200160
|tw751605738607495584
|tw7368299837975958304
|tw1118625606042573632
|tw4644332621582483553
|tw17238925463243408641
|tw13054077205726118497
|tw9462067359252039265
|tw17854851917151812385
|tw266659126037897057
|tw11406480124383388609
|tw1363408744284111970
|tw5206392725072500834
|tw10701564248391021826
|tw564052634507272642
|tw12847464233107270947
|tw17411713627039928643
|tw3009111661654727075
|tw7408569175851916867
|tw3197027813324095267
|tw9192115301223417699
|tw10553224496664791972
|tw9612917845022968037
|tw12693622139645480677
|tw12553654512577288133
|tw17129164591894706310
|tw5600967467518712966
|tw4644847673756216582
|tw16234268280571849510
|tw16446889099782994822
|tw7560243290965903238
|tw5738083922256266119
|tw12490565980938645672
|tw8110448987249645768
|tw5941807244297390408
|tw11364570854439249320
|tw6757913208437212872
|tw6213436602527814632
|tw18039183857022927305
|tw2790764297962312137
|tw8711196446696460873
|tw5114146940558687881
|tw14323735971772936041
|tw5812106393748164521
|tw943866480062414922
|tw3022265877124308074
|tw6681173198817783050
|tw1812597342524524938
|tw16989114737550891051
|tw4962951771775124555
|tw15432657779663663339
|tw4957885168236101644
|tw10606401965893460364
|tw16294572302752978668
|tw13616789422669678444
|tw12104062295690456044
|tw6101644919018141485
|tw11580465781055265709
|tw15146458286350013357
|tw1085173722054926606
|tw16088568768422863150
|tw17409787191952147823
|tw10518857338780693359
|tw2683459137182985808
|tw452164330804110288
|tw3556637831339776049
|tw8232127023140679793
|tw2059783067568520305
|tw5241961343116065969
|tw13308257053099509937
|tw11553551461365649937
|tw11383126632631296561
|tw16896200129241680914
|tw4968195698699438354
|tw10930869917467155762
|tw15735867818301598194
|tw17501666463597543090
|tw8171547954918036178
|tw12959641166748130066
|tw12889982573141475379
|tw6364097519061192755
|tw16623691586471422259
|tw16110670377981777811
|tw17360318102287347732
|tw2483865720509022292
|tw12128401678293430388
|tw11763053807794326868
|tw2547985127179990484
|tw1982892845711546517
|tw12656342649009799669
|tw16104134105421531989
|tw8312472756543126710
|tw3404624493851404534
|tw1956318501725524342
|tw17009573224786047382
|tw14807078450266137494
|tw12359211963167932503
|tw10551118693325081719
|tw9313617016679894231
|tw5230838742109228279
|tw14563146848498552471
|tw11148817636805339031
|tw15608426101184057303
|tw9723893013578956952
|tw9088592516172007064
|tw2447687068572452536
|tw8057826148899604184
|tw9348126502048886648
|tw12833704975660695480
|tw9571268730237081689
|tw2350313361957493209
|tw10489665803554352761
|tw2296872463978423961
|tw15323162113514404697
|tw16290119280623744218
|tw5658772986553804282
|tw18196644621173708506
|tw10536794054366399354
|tw17858678922283886747
|tw6124079155241901307
|tw11741999055621523739
|tw12043004371771609180
|tw2884802093209063708
|tw15286324621751253628
|tw17065525814364064636
|tw4239112418800905116
|tw10593762975581790140
|tw8198163799049415644
|tw11610847185092154397
|tw2606298231772398621
|tw8817454483856367805
|tw11245636555764586909
|tw16644919563140228765
|tw15797104914257521309
|tw7457424413193173981
|tw9546687548096200830
|tw5833884131189605694
|tw12826953771970677310
|tw13221284993353515998
|tw4268406936487826719
open PySem PySem.W PyProof.Rows
set_option maxRecDepth 100000 in
set_option maxHeartbeats 0 in
theorem PySem.Challenge.cw_leastform_k40_forms_of_values_holds : PySem.Challenge.rw_leastform_k40_forms_of_values.Holds := by
 w_on; o_law; k_head; (case hw => w_witness2)
 k_fill
 refine My.walk (l := PySem.Challenge.rw_leastform_k40_forms_of_values) rfl rfl (fun w h Y => PySem.W.kIn_of Y) ?F
 case F =>
  intro w mg fa h KX G hmg
  refine' My.all_mk KX G hmg (L2.has_mk KX G ?a0 ?l0 ?c0 ?k0) (L2.has_mk KX G ?a1 ?l1 ?c1 ?k1) (L2.has_mk KX G ?a2 ?l2 ?c2 ?k2) (L2.has_mk KX G ?a3 ?l3 ?c3 ?k3) (L2.has_mk KX G ?a4 ?l4 ?c4 ?k4) (L2.has_mk KX G ?a5 ?l5 ?c5 ?k5) (L2.has_mk KX G ?a6 ?l6 ?c6 ?k6) (L2.has_mk KX G ?a7 ?l7 ?c7 ?k7) (L2.has_mk KX G ?a8 ?l8 ?c8 ?k8) (L2.has_mk KX G ?a9 ?l9 ?c9 ?k9) (L2.has_mk KX G ?a10 ?l10 ?c10 ?k10) (L2.has_mk KX G ?a11 ?l11 ?c11 ?k11) (L2.has_mk KX G ?a12 ?l12 ?c12 ?k12) (L2.has_mk KX G ?a13 ?l13 ?c13 ?k13) (L2.has_mk KX G ?a14 ?l14 ?c14 ?k14) (L2.has_mk KX G ?a15 ?l15 ?c15 ?k15) (L2.has_mk KX G ?a16 ?l16 ?c16 ?k16) (L2.has_mk KX G ?a17 ?l17 ?c17 ?k17) (L2.has_mk KX G ?a18 ?l18 ?c18 ?k18) (L2.has_mk KX G ?a19 ?l19 ?c19 ?k19) (L2.has_mk KX G ?a20 ?l20 ?c20 ?k20) (L2.has_mk KX G ?a21 ?l21 ?c21 ?k21) (L2.has_mk KX G ?a22 ?l22 ?c22 ?k22) (L2.has_mk KX G ?a23 ?l23 ?c23 ?k23) (L2.has_mk KX G ?a24 ?l24 ?c24 ?k24) (L2.has_mk KX G ?a25 ?l25 ?c25 ?k25) (L2.has_mk KX G ?a26 ?l26 ?c26 ?k26) (L2.has_mk KX G ?a27 ?l27 ?c27 ?k27) (L2.has_mk KX G ?a28 ?l28 ?c28 ?k28) (L2.has_mk KX G ?a29 ?l29 ?c29 ?k29) (L2.has_mk KX G ?a30 ?l30 ?c30 ?k30) (L2.has_mk KX G ?a31 ?l31 ?c31 ?k31) (L2.has_mk KX G ?a32 ?l32 ?c32 ?k32) (L2.has_mk KX G ?a33 ?l33 ?c33 ?k33) (L2.has_mk KX G ?a34 ?l34 ?c34 ?k34) (L2.has_mk KX G ?a35 ?l35 ?c35 ?k35) (L2.has_mk KX G ?a36 ?l36 ?c36 ?k36) (L2.has_mk KX G ?a37 ?l37 ?c37 ?k37) (L2.has_mk KX G ?a38 ?l38 ?c38 ?k38) (L2.has_mk KX G ?a39 ?l39 ?c39 ?k39) (L2.has_mk KX G ?a40 ?l40 ?c40 ?k40) (L2.has_mk KX G ?a41 ?l41 ?c41 ?k41) (L2.has_mk KX G ?a42 ?l42 ?c42 ?k42) (L2.has_mk KX G ?a43 ?l43 ?c43 ?k43) (L2.has_mk KX G ?a44 ?l44 ?c44 ?k44) (L2.has_mk KX G ?a45 ?l45 ?c45 ?k45) (L2.has_mk KX G ?a46 ?l46 ?c46 ?k46) (L2.has_mk KX G ?a47 ?l47 ?c47 ?k47) (L2.has_mk KX G ?a48 ?l48 ?c48 ?k48) (L2.has_mk KX G ?a49 ?l49 ?c49 ?k49) (L2.has_mk KX G ?a50 ?l50 ?c50 ?k50) (L2.has_mk KX G ?a51 ?l51 ?c51 ?k51) (L2.has_mk KX G ?a52 ?l52 ?c52 ?k52) (L2.has_mk KX G ?a53 ?l53 ?c53 ?k53) ?a54 ?l54 ?c54 ?k54 ?z0 ?z1 ?z2 ?z3 ?z4 ?z5 ?z6 ?z7 ?z8 ?z9 ?z10 ?z11 ?z12 ?z13 ?z14 ?z15 ?z16 ?z17 ?z18 ?aS ?lS ?aM ?lM ?aP ?lP ?aK ?lK ?aF ?aF8
  any_goals k_is
