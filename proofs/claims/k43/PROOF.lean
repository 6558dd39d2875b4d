import PyProof.Rows.All
import Wide.All
import OpenK.AllK
import Wide.FinOn
import Lean
import PyProof.EqAt
import PyProof.EqKinds
import PyProof.TupleCall
import PyProof.NeKinds
import PyProof.IsiTupleOf
import PyProof.IsiHeapPairs
import PyProof.IsiPairs
import PyProof.ConsumeWalk
import PyProof.Rows.SumAny
import PyProof.FitsBits
import PyProof.Rows.SeqMore
import PyProof.ZipIter
import PyProof.TupleIter
import PyProof.LongRange
import PyProof.Rows.Range3
import PyProof.Rows.SortWalk
import PyProof.Rows.SortStr
import PyProof.StrWalks
import PyProof.DictRoads
import PyProof.MeetsStr
import PyProof.Rows.StrNews2
import PyProof.StrLawsIn
import PyProof.StrLaws
import PyProof.Rows.CatFin
import PyProof.Rows.StrClose5
import PyProof.SetKind
import PyProof.CollectWalk
import PyProof.Seq
import PyProof.ForAny
import PyProof.MakeMany
import PyProof.DictKinds
import PyProof.Rows.StrInSeq
import PyProof.WalkLemmas
import PyProof.Rows.SortShell
import PyProof.Rows.SetFrom
import PyProof.StrOps2
import PyProof.ReprNest
import PyProof.CallFns
import PyProof.StrLawsRepr
import PyProof.FString5
import OpenK.KOwn
import KE.KIsAll
import PyProof.ExcArgsOwn
import KE.RegKIsAll
import PyProof.DictIter
import PyProof.DictItems
import PyProof.DictItemsLoops
import PyProof.DictWalks
import KE.KDictList
import KE.KMinKey
import PyProof.ListRange
import PyProof.Rows.CallKwBuiltin
import KE.KDictOf
import PyProof.AttrMissHeap
import PyProof.EnumMake
import PyProof.EnumFor
import PyProof.Rows.RuleB_bool
import KE.KEqDict
import PyProof.StrCalls6
import PyProof.StrLawsReplace
import PyProof.Rows.FStr
import PyProof.Rows.StrJoin2
import PyProof.WalksMore
import PyProof.TupleOfStr
import KE.KUnpack
import PyProof.MaxThree
import KE.KSortTup
import PyProof.MeetsSeq2
import PyProof.FactsAll.set_2
import PyProof.FactsAll.subtypes_5
import PySem.Challenge.RW_leastform_k43_told_of_samples
set_option Elab.async false
set_option linter.all false
set_option maxRecDepth 100000
set_option maxHeartbeats 4000000
def af:=@PySem.wpAny_bind
def ah:=@PySem.wpAny_pure
def ao:=@List.length_map
def ay:=@PySem.Heap.get?_push_of_some
def ba:=@Nat.le_refl
def qf_:=@List.mem_map
def bo:=@PySem.Heap.lt_size
def bx:=@Nat.le_trans
def b6:=@PySem.Heap.get?_push_size
def b9:=@List.length_append
def b_:=@List.getElem?_eq_getElem
def cb:=@Bool.false_ne_true
def cq:=@Nat.ne_of_lt
def cy:=@List.size_toArray
def de:=@PySem.boot_len
def qp_:=@List.mem_append
def d8:=@List.mem_append_right
def d7:=@Array.getElem?_toList
def d6:=@Nat.zero_le
def d5:=@PySem.wpAny_setState_of
def d9:=@Array.length_toList
def e_:=@List.getElem?_map
def e9:=@List.map_cons
def qx_:=@List.mem_cons
def qy_:=@List.getElem?_eq_some_iff
def fm:=@PySem.Heap.size_push
def f7:=@List.map_map
def gb:=@PySem.wpAny_holding
def gj:=@Nat.ne_of_gt
def g6:=@List.mem_append_left
def g5:=@List.mem_of_getElem?
def g4:=@decide_eq_false
def ic:=@PySem.PassesOwn.never
def il:=@List.filterMap_cons
def ik:=@List.length_cons
def ij:=@List.map_append
def ig:=@PySem.wpAny_call_entry
def qL_:=@List.any_eq_true
def iu:=@List.filterMap_append
def ir:=@PySem.W.mg_none_of
def jb:=@List.append_nil
def ja:=@Array.getElem?_eq_getElem
def i_:=@decide_eq_true
def jh:=@List.length_take
def jg:=@PySem.wpAny_newObj_type
def j5:=@Nat.lt_of_lt_of_le
def j4:=@PySem.Heap.get?_update_self
def j3:=@List.getD_eq_getElem?_getD
def j0:=@PySem.wpAny_setField_rec
def jz:=@PySem.codeAny_builtin
def j9:=@Nat.le_of_lt
def qZ_:=@List.not_lt
def dw:=@of_decide_eq_true
def d_:=@List.mem_cons_of_mem
def qc1_:=@List.mem_filterMap
def qd1_:=@List.mem_singleton
def fg:=@Nat.lt_irrefl
def ff:=@List.take_length
def qg1_:=@Option.map_eq_some_iff
def fe:=@List.nil_append
def fc:=@PySem.Around.under_plainId
def fw:=@List.mem_cons_self
def fu:=@List.getElem?_set_self
def fo:=@Nat.lt_succ_of_lt
def gi:=@List.getElem?_set_ne
def gh:=@List.replicate_succ
def gg:=@List.flatten_cons
def gf:=@Nat.le_succ
def gc:=@Nat.lt_trans
def qr1_:=@List.mem_flatMap
def qs1_:=@List.mem_flatten
def qt1_:=@List.mem_range
def ib:=@List.length_set
def ia:=@List.foldl_cons
def h_:=@Bool.eq_iff_iff
def h9:=@Int.dvd_zero
def g_:=@List.take_add_one
def iq:=@List.any_cons
def i5:=@Int.emod_lt_of_pos
def i4:=@Int.emod_nonneg
def i3:=@List.find?_cons
def iz:=@Int.dvd_sub
def ix:=@List.exists_mem_of_ne_nil
def iw:=@Nat.mul_le_mul_right
def qG1_:=@List.nodup_cons
def jt:=@List.getElem?_append_right
def jr:=@List.getElem?_append_left
def jq:=@PySem.Heap.get?_update_other
def jo:=@List.append_assoc
def jn:=@List.length_reverse
def qM1_:=@List.all_eq_true
def jl:=@List.getElem_mem
def jk:=@List.eq_nil_of_length_eq_zero
def jj:=@Nat.mul_comm
def ji:=@List.sizeOf_lt_of_mem
def qR1_:=@List.length_pos_iff
def kg:=@Bool.and_eq_true
def kf:=@List.reverse_cons
def ke:=@List.length_singleton
def kc:=@List.getElem?_eq_none
def ka:=@List.nodup_nil
def qX1_:=@List.mem_iff_getElem
def j_:=@Int.le_refl
def j8:=@Int.dvd_trans
def j7:=@List.perm_ext_iff_of_nodup
def qb2_:=@List.eq_nil_iff_forall_not_mem
def j6:=@List.cons_append
def qd2_:=@List.append_eq_nil_iff
def qe2_:=@List.filterMap_eq_nil_iff
def qf2_:=@List.mem_filter
def lg:=@List.getElem?_replicate
def k_:=@List.length_replicate
def kz:=@List.length_drop
def qj2_:=@Nat.not_lt
def ky:=@Array.getElem?_eq_none
def kx:=@List.length_range
def ku:=@Nat.lt_succ_self
def kr:=@Int.dvd_add
def ko:=@Int.sub_self
def kn:=@List.any_append
def kl:=@List.length_filterMap_le
def mz:=@List.filterMap_map
def my:=@List.map_nil
def mx:=@Bool.or_false
def mw:=@Nat.lt_of_le_of_lt
def mr:=@List.getElem?_drop
def mq:=@List.take_of_length_le
def mn:=@List.range_succ_eq_map
def mi:=@List.map_congr_left
def mh:=@List.pairwise_map
def nh:=@List.nodup_append
def ng:=@Array.toArray_toList
def m_:=@List.drop_zero
def m9:=@Nat.lt_or_eq_of_le
def m8:=@Bool.and_false
def m7:=@List.take_succ_eq_append_getElem
def m5:=@Nat.pow_succ
def qH2_:=@List.map_eq_nil_iff
def pd:=@Nat.mod_lt
def o_:=@List.ext_getElem?
def o9:=@List.foldl_append
def o8:=@List.le_refl
def o7:=@List.le_trans
def o6:=@Bool.false_or
def o5:=@List.drop_eq_getElem_cons
def oz:=@List.take_append_drop
def oy:=@Int.dvd_refl
def ou:=@Int.dvd_mul_right
def oq:=@Array.size_map
def qT2_:=@List.cons_lt_cons_iff
def oo:=@List.flatMap_append
def om:=@List.flatten_append
def oi:=@Nat.mul_assoc
def oh:=@Nat.one_le_pow
def og:=@Nat.le_mul_of_pos_right
def q0:=@List.of_mem_zip
def qz:=@List.take_sublist
def qy:=@Nat.min_le_right
def qx:=@Option.isSome_map
def qw:=@List.drop_length
def qv:=@List.take_zero
def qt:=@List.lt_irrefl
def qr:=@List.find?_some
def qq:=@Nat.not_lt_zero
def qi3_:=@List.find?_eq_none
def qp:=@List.length_filter_le
def t5:=@Int.fdiv_eq_ediv_of_nonneg
def t4:=@List.eraseIdxIfInBounds_toArray
def tw:=@List.length_eraseIdx_of_lt
def qn3_:=@List.findIdx?_eq_none_iff
def qo3_:=@Array.getElem?_eq_some_iff
def qp3_:=@List.pairwise_iff_getElem
def tq:=@List.mem_of_find?_eq_some
def tp:=@Array.getD_eq_getD_getElem?
def tj:=@Int.mul_le_mul_of_nonneg_left
namespace L2
open PySem PySem.Spec PyProof.Rows
abbrev av:=Sum Int Str
def jW:av->Value->Bool
 |.inl k,v=>Value.isInt k v
 |.inr x,v=>Value.isStrOf x v
def Ew(w:World):av->Int
 |.inl k=>hashInt k
 |.inr x=>hashStr w x
def gC:∀{k:av}{v:Value},jW k v=true->(∃i t,k=Sum.inl i/\v=Value.int i t)\/(∃x t,k=Sum.inr x/\v=Value.str x t)
 |.inl i,v,h=>by
  obtain⟨t,e⟩:=Value.isInt_shape (k:=i) (v:=v) h
  exact .inl ⟨i,t,rfl,e⟩
 |.inr x,v,h=>by
  obtain⟨t,e⟩:=Value.isStrOf_shape (x:=x) (v:=v) h
  exact .inr ⟨x,t,rfl,e⟩
def KS(i:Int)(t:Tok):jW (.inl i) (.int i t)=true:=by simp[jW,Value.isInt]
def KU(x:Str)(t:Tok):jW (.inr x) (.str x t)=true:=by simp[jW,Value.isStrOf]
def GN(a b:Int):decide ((Sum.inl a:av)=Sum.inl b)=(a==b):=by
 by_cases e:a=b
 ·subst e;simp
 ·have h:¬ (Sum.inl a:av)=Sum.inl b:=λq=>e (Sum.inl.inj q)
  rw[g4 h]
  exact(beq_eq_false_iff_ne.mpr e).symm
def GQ(a b:Str):decide ((Sum.inr a:av)=Sum.inr b)=decide (a=b):=by
 by_cases e:a=b
 ·subst e;simp
 ·have h:¬ (Sum.inr a:av)=Sum.inr b:=λq=>e (Sum.inr.inj q)
  rw[g4 h,g4 e]
def GO(a:Int)(b:Str):decide ((Sum.inl a:av)=Sum.inr b)=false:=g4 (λq=>nomatch q)
def GP(a:Str)(b:Int):decide ((Sum.inr a:av)=Sum.inl b)=false:=g4 (λq=>nomatch q)
def bO(prog:Program)(w:World):PySem.KeyKind prog w av where
 is:=jW
 hash:=Ew w
 inj:=λv a b ha hb=>by
  rcases gC ha with⟨i,t,rfl,rfl⟩|⟨x,t,rfl,rfl⟩
  ·rcases gC hb with⟨j,u,rfl,e⟩|⟨y,u,rfl,e⟩
   ·injection e with e1 _;rw[e1]
   ·exact nomatch e
  ·rcases gC hb with⟨j,u,rfl,e⟩|⟨y,u,rfl,e⟩
   ·exact nomatch e
   ·injection e with e1 _;rw[e1]
 byValue:=λk v h=>by
  rcases gC h with⟨i,t,rfl,rfl⟩|⟨x,t,rfl,rfl⟩<;>rfl
 pyHash:=λhv h=>by
  rcases gC hv with⟨i,t,rfl,rfl⟩|⟨x,t,rfl,rfl⟩
  ·exact wpAny_pyHash_int h
  ·exact wpAny_pyHash_str h
 eqBool:=λhu hv h=>by
  rcases gC hu with⟨i,t,rfl,rfl⟩|⟨x,t,rfl,rfl⟩
  ·rcases gC hv with⟨j,u,rfl,rfl⟩|⟨y,u,rfl,rfl⟩
   ·rw[GN]at h;exact wpAny_eqBool_int h
   ·rw[GO]at h;exact SeqAt.EqAt.int_str i t y u _ _ _ _ h
  ·rcases gC hv with⟨j,u,rfl,rfl⟩|⟨y,u,rfl,rfl⟩
   ·rw[GP]at h;exact SeqAt.EqAt.str_int x t j u _ _ _ _ h
   ·rw[GQ]at h;exact wpAny_eqBool_str h
 «strs»:=λk x t v h=>by
  rcases gC h with⟨i,u,rfl,e⟩|⟨y,u,rfl,e⟩
  ·exact nomatch e
  ·injection e with e1 _
   subst e1
   cases v<;>rfl
def Ma(prog:Program)(w:World)(i:Int)(t:Tok):(bO prog w).is (.inl i) (.int i t)=true:=KS i t
def pW(prog:Program)(w:World)(x:Str)(t:Tok):(bO prog w).is (.inr x) (.str x t)=true:=KU x t
inductive V where
 |non|bl (b:Bool)|int (i:Int)|str (x:Str)|byt (b:Array UInt8)|flt (b:UInt64)|ref (a:Addr)|ty (n:String)
 deriving DecidableEq
def ai:V->Value->Prop
 |.non,u=>u=Value.none
 |.bl b,u=>u=Value.bool b
 |.int i,u=>∃t,u=Value.int i t
 |.str x,u=>∃t,u=Value.str x t
 |.byt b,u=>∃t,u=Value.bytes b t
 |.flt b,u=>∃t,u=Value.float b t
 |.ref a,u=>u=Value.ref a
 |.ty n,u=>u=Value.type n
abbrev aj:List V->List Value->Prop:=Paired ai
def aj.length{xs:List V}{us:List Value}(r:aj xs us):xs.length=us.length:=Paired.length r
def aj.get:∀{xs:List V}{us:List Value}{i:Nat}{x:V},aj xs us->xs[i]?=some x->∃u,us[i]?=some u/\ai x u
 |_,_,_,_,.nil,e=>by simp at e
 |_,_,0,_,.cons r _,e=>by simp at e;subst e;exact⟨_,rfl,r⟩
 |_,_,i+1,x,.cons _ t,e=>by
  obtain⟨u,h1,h2⟩:=aj.get (i:=i) (x:=x) t (by simpa using e)
  exact⟨u,by simpa using h1,h2⟩
def aj.set{x:V}{u:Value}(r:ai x u):∀{xs:List V}{us:List Value}(i:Nat),aj xs us->aj (xs.set i x) (us.set i u)
 |_,_,_,.nil=>.nil
 |_,_,0,.cons _ t=>.cons r t
 |_,_,i+1,.cons q t=>.cons q (aj.set r i t)
def aj.append:∀{xs ys:List V}{us ws:List Value},aj xs us->aj ys ws->aj (xs++ys) (us++ws)
 |_,_,_,_,.nil,s=>s
 |_,_,_,_,.cons r t,s=>.cons r (aj.append t s)
def aj.take:∀{xs:List V}{us:List Value}(n:Nat),aj xs us->aj (xs.take n) (us.take n)
 |_,_,0,_=>.nil
 |_,_,_+1,.nil=>.nil
 |_,_,n+1,.cons r t=>.cons r (aj.take n t)
def aj.drop:∀{xs:List V}{us:List Value}(n:Nat),aj xs us->aj (xs.drop n) (us.drop n)
 |_,_,0,r=>r
 |_,_,_+1,.nil=>.nil
 |_,_,n+1,.cons _ t=>aj.drop n t
def f9:Option V->Option Value->Prop
 |some v,some u=>ai v u
 |none,none=>True
 |_,_=>False
def KV{κ:Type}:List (κ×V)->List (κ×Value)->Prop:=Paired λ(p:κ×V) (q:κ×Value)=>p.1=q.1/\ai p.2 q.2
def kV:av->V
 |.inl i=>.int i
 |.inr x=>.str x
inductive HO where
 /-- a list -/
 |lst (xs:List V)
 /-- a tuple (never changes) -/
 |tup (xs:List V)
 /-- a dict whose keys are ints and texts; one whose keys are tuples of ints and texts (the empty one is both) -/
 |dK (kvs:List (av×V))|dT (kvs:List (List av×V))
 /-- a set of ints: its members, its size -/
 |set (S:Int->Bool) (n:Nat)
 /-- an instance of the class at C, its dict at dx, its attributes -/
 |ins (C dx:Addr) (fs:List (Str×V))
 /-- the dict of the instance at x -/
 |own (x:Addr)
 /-- the dict of an exception -/
 |xd (fs:List (Str×V))
 /-- a bound method, f of x -/
 |met (f x:Addr)
 /-- a range object lo, lo + 1, .. below hi -/
 |rng (lo hi:Int)
 /-- a thing that is known to the object (the script; a dict while a loop walks it): read, never written while it is so -/
 |frz (o:Obj) (u:HO)
 /-- a code object's table -/
 |tbl (ps:Array Value)
 /-- any other thing, by what is true of its one object (a def of one's own: SetO a S n := HO.ext fun h => ..) -/
 |ext (φ:Heap->Prop)
abbrev Hp:=Addr->Option HO
def ar(H:Hp)(a:Addr)(o:HO):Hp:=λb=>if b=a then some o else H b
def bA{H:Hp}{a:Addr}{o:HO}:ar H a o a=some o:=by unfold ar;rw[if_pos rfl]
def bL{H:Hp}{a b:Addr}{o:HO}(h:b≠a):ar H a o b=H b:=by unfold ar;rw[if_neg h]
def FB{H:Hp}{a b:Addr}{o u:HO}(h:H a=some o)(h':H b=some u)(d:o≠u):a≠b:=by
 intro e;subst e;rw[h]at h';exact d (Option.some.inj h')
def dQ{H:Hp}{a b:Addr}{o:HO}(h:H a=some o)(h':H b=none):a≠b:=by
 intro e;subst e;rw[h]at h';cases h'
section
variable(P:Program)(w:World)
def aw(H:Hp)(h:Heap)(a:Addr):HO->Prop
 |.lst xs=>xs.length<=sizeLine/\∃(its:List Value) (n:Nat),aj xs its/\h.get? a=some {cls:=.type "list",data:=.seq its.toArray n}
 |.tup xs=>xs.length<=sizeLine/\∃its:List Value,aj xs its/\IsTup h a its.toArray
 |.dK kvs=>kvs.length<=sizeLine/\(a==sysModules)=false/\∃vs,KV kvs vs/\h.DictOf (bO P w) a vs
 |.dT kvs=>kvs.length<=sizeLine/\(a==sysModules)=false/\∃xs:List (List av×Addr×Value),
   Paired (λ(p:List av×V) (q:List av×Addr×Value)=>p.1=q.1/\H q.2.1=some (.tup (p.1.map kV))/\ai p.2 q.2.2) kvs xs /\
   ∃o es ep,h.get? a=some o/\o.ExactDict/\o.data=.dict es ep/\es.toList=xs.map (entryOfKey (tupleKind (bO P w)))/\(xs.map (·.1)).Nodup
 |.set S n=>h.SetOf (intKind P w) a S n
 |.ins C dx fs=>H dx=some (.own a)/\fs.length<=1000/\dx≠a/\h.get? a=some (PySem.W.instObj C dx) /\
   ∃mA,h.Ns1 dx mA/\(∀f,f9 (fs.lookup f) (mA f))/\PySem.Within mA (fs.map (·.1))
 |.own _=>∃o,h.get? a=some o
 |.xd fs=>∃mA,h.Ns1 a mA/\∀f,f9 (fs.lookup f) (mA f)
 |.rng lo hi=>∃t u v,h.get? a=some {cls:=.type "range",data:=.fields #[.int lo t,.int hi u,.int 1 v]}
 |.frz o u=>h.get? a=some o/\aw H h a u
 |.tbl ps=>h.get? a=some {cls:=.none,data:=.fields ps}
 |.met f x=>h.get? a=some (PySem.W.methodObj (.ref f) (.ref x))
 |.ext φ=>φ h/\(∃o,h.get? a=some o)/\∀h1 h2:Heap,φ h1->(∀o,h1.get? a=some o->h2.get? a=some o)->φ h2
def du(H:Hp)(h:Heap):Prop:=∀a o,H a=some o->aw P w H h a o
end
section
variable{P:Program}{w:World}{H H':Hp}{h h':Heap}{a:Addr}{o:HO}
def aw.lt(x:aw P w H h a o):a<h.objs.size:=by
 cases o with
 |lst xs=>obtain⟨_,_,_,_,e⟩:=x;exact bo e
 |tup xs=>obtain⟨_,_,_,p⟩:=x;exact p.lt
 |dK kvs=>obtain⟨_,_,_,_,o,_,_,e,_⟩:=x;exact bo e
 |dT kvs=>obtain⟨_,_,_,_,o,_,_,e,_⟩:=x;exact bo e
 |set S n=>obtain⟨o,_,_,_,e,_⟩:=x;exact bo e
 |ins C dx fs=>obtain⟨_,_,_,e,_⟩:=x;exact bo e
 |own y=>obtain⟨_,e⟩:=x;exact bo e
 |xd fs=>obtain⟨_,⟨_,_,_,e,_⟩,_⟩:=x;exact bo e
 |rng lo hi=>obtain⟨_,_,_,e⟩:=x;exact bo e
 |frz ob u=>obtain⟨e,_⟩:=x;exact bo e
 |tbl ps=>exact bo (show h.get? a=some _ from x)
 |met f y=>exact bo (show h.get? a=some _ from x)
 |ext φ=>obtain⟨_,⟨_,e⟩,_⟩:=x;exact bo e
def Paired.mapP{α β:Type}{F G:α->β->Prop}:∀{l₁:List α}{l₂:List β},Paired F l₁ l₂->(∀a b,F a b->G a b)->Paired G l₁ l₂
 |_,_,.nil,_=>.nil
 |_,_,.cons r t,f=>.cons (f _ _ r) (Paired.mapP t f)
def aw.stay(x:aw P w H h a o)(k:∀b u,(b=a\/H b=some (.own a))->h.get? b=some u->h'.get? b=some u)
  (ho:∀b,H b=some (.own a)->H' b=some (.own a)) (ht:∀b xs,H b=some (.tup xs)->H' b=some (.tup xs)):aw P w H' h' a o:=by
 induction o with
 |lst xs=>obtain⟨z,its,n,r,e⟩:=x;exact⟨z,its,n,r,k _ _ (.inl rfl) e⟩
 |tup xs=>obtain⟨z,its,r,ob,e,c⟩:=x;exact⟨z,its,r,ob,k _ _ (.inl rfl) e,c⟩
 |dK kvs=>obtain⟨z,y,vs,r,ob,es,ep,e,c⟩:=x;exact⟨z,y,vs,r,ob,es,ep,k _ _ (.inl rfl) e,c⟩
 |dT kvs=>
  obtain⟨z,y,xs,r,ob,es,ep,e,c⟩:=x
  exact⟨z,y,xs,Paired.mapP r λp q z=>⟨z.1,ht _ _ z.2.1,z.2.2⟩,ob,es,ep,k _ _ (.inl rfl) e,c⟩
 |set S n=>obtain⟨ob,es,ep,t,e,c⟩:=x;exact⟨ob,es,ep,t,k _ _ (.inl rfl) e,c⟩
 |ins C dx fs=>
  obtain⟨d,z,ne,e,mA,⟨od,es,ep,e2,c⟩,r⟩:=x
  exact⟨ho _ d,z,ne,k _ _ (.inl rfl) e,mA,⟨od,es,ep,k _ _ (.inr d) e2,c⟩,r⟩
 |own y=>obtain⟨ob,e⟩:=x;exact⟨ob,k _ _ (.inl rfl) e⟩
 |xd fs=>obtain⟨mA,⟨od,es,ep,e,c⟩,r⟩:=x;exact⟨mA,⟨od,es,ep,k _ _ (.inl rfl) e,c⟩,r⟩
 |rng lo hi=>obtain⟨t,u,v,e⟩:=x;exact⟨t,u,v,k _ _ (.inl rfl) e⟩
 |frz ob u ih=>obtain⟨e,q⟩:=x;exact⟨k _ _ (.inl rfl) e,ih q⟩
 |tbl ps=>
  have e:h.get? a=some {cls:=.none,data:=.fields ps}:=x
  show h'.get? a=some {cls:=.none,data:=.fields ps}
  exact k a _ (.inl rfl) e
 |met f y=>
  have e:h.get? a=some (PySem.W.methodObj (.ref f) (.ref y)):=x
  show h'.get? a=some (PySem.W.methodObj (.ref f) (.ref y))
  exact k a _ (.inl rfl) e
 |ext φ=>obtain⟨p,⟨o,e⟩,st⟩:=x;exact⟨st _ _ p λo q=>k _ _ (.inl rfl) q,⟨o,k _ _ (.inl rfl) e⟩,st⟩
def du.lt(x:du P w H h)(e:H a=some o):a<h.objs.size:=(x a o e).lt
def du.fresh(x:du P w H h)(e:h.objs.size<=a):H a=none:=by
 cases q:H a with
 |none=>rfl
 |some u=>exact absurd (j5 (x.lt q) e) (fg _)
def du.kept(x:du P w H h)(k:∀b u,h.get? b=some u->h'.get? b=some u):du P w H h':=λa o e=>
 (x a o e).stay (λb u _ q=>k b u q) (λ_ q=>q) λ_ _ q=>q
def du.laid(x:du P w H h)(k:∀b u,h.get? b=some u->h'.get? b=some u)(hp:h.objs.size<=a)(new:aw P w (ar H a o) h' a o):du P w (ar H a o) h':=λb u e=>by
 have hn:=x.fresh hp
 by_cases hb:b=a
 ·subst hb;rw[bA]at e;cases e;exact new
 ·rw[bL hb]at e
  exact(x b u e).stay (λc v _ q=>k c v q) (λc q=>by rw[bL (dQ q hn)];exact q) λc xs q=>by rw[bL (dQ q hn)];exact q
end
def Rd(H:Hp)(a:Addr)(u:HO):Prop:=H a=some u\/∃o,H a=some (.frz o u)
def Rd.ok{P:Program}{w:World}{H:Hp}{h:Heap}{a:Addr}{u:HO}(r:Rd H a u)(x:du P w H h):aw P w H h a u:=by
 rcases r with r|⟨o,r⟩
 ·exact x a u r
 ·obtain⟨_,q⟩:=x a _ r
  exact q
def t_:Option HO->Prop
 |some (.lst _)=>True
 |some (.dK _)=>True
 |some (.dT _)=>True
 |some (.set _ _)=>True
 |some (.ins _ _ _)=>True
 |some (.ext _)=>True
 |_=>False
section
variable{P:Program}{w:World}{H:Hp}{h h':Heap}{x e:Addr}{o':HO}
def du.write(ok:du P w H h)(mu:t_ (H x))(he:e=x\/H e=some (.own x))(k:∀b u,b≠e->h.get? b=some u->h'.get? b=some u)(heo:∃u,h'.get? e=some u)
  (new:aw P w (ar H x o') h' x o'):du P w (ar H x o') h':=λb u q=>by
 have nown:∀c y,H c=some (.own y)->c≠x:=λc y r z=>by subst z;rw[r]at mu;exact mu
 have ntup:∀c xs,H c=some (.tup xs)->c≠x:=λc xs r z=>by subst z;rw[r]at mu;exact mu
 by_cases hb:b=x
 ·subst hb;rw[bA]at q;cases q;exact new
 ·rw[bL hb]at q
  by_cases hbe:b=e
  ·have q':H b=some (.own x):=by
    rcases he with z|z
    ·exact absurd (hbe.trans z) hb
    ·rw[hbe];exact z
   rw[q]at q';cases q'
   obtain⟨v,hv⟩:=heo
   exact⟨v,by rw[hbe];exact hv⟩
  ·refine(ok b u q).stay (λc v hc r=>k c v ?_ r) (λc r=>by rw[bL (nown c b r)];exact r) λc xs r=>by rw[bL (ntup c xs r)];exact r
   rcases hc with rfl|hc
   ·exact hbe
   ·rintro rfl
    rcases he with z|z
    ·exact nown c b hc z
    ·rw[hc]at z;cases z;exact hb rfl
end
structure Un (fs ex:List Addr) (H H':Hp) (h h':Heap):Prop where
 keep:∀b o,h.get? b=some o->H b=none->b∉fs->b∉ex->h'.get? b=some o
 slot:∀b o,h.get? b=some o->H b=none->b∈fs->b∉ex->∃sl,h'.get? b=some {o with slots:=sl}
 free:∀b o,h.get? b=some o->H b=none->b∉ex->H' b=none
 there:∀b o,h.get? b=some o->b∉ex->∃o',h'.get? b=some o'
 tups:∀b xs,H b=some (.tup xs)->H' b=some (.tup xs)
 frzs:∀b o u,H b=some (.frz o u)->H' b=some (.frz o u)
 tbls:∀b ps,H b=some (.tbl ps)->∃more,H' b=some (.tbl (ps++more))
section
variable{fs fs' ex ex':List Addr}{H H1 H2:Hp}{h h1 h2 h':Heap}{a x e:Addr}{o:HO}
def Un.any(u:Un fs ex H H1 h h1){b:Addr}{ob:Obj}(q:h.get? b=some ob)(n:H b=none)(hx:b∉ex):∃sl,h1.get? b=some {ob with slots:=sl}:=by
 by_cases hb:b∈fs
 ·exact u.slot b ob q n hb hx
 ·exact⟨ob.slots,u.keep b ob q n hb hx⟩
def Un.kept(k:∀b u,h.get? b=some u->h'.get? b=some u):Un fs ex H H h h':=
 ⟨λb ob q _ _ _=>k b ob q,λb ob q _ _ _=>⟨ob.slots,k b ob q⟩,λ_ _ _ n _=>n,λb ob q _=>⟨ob,k b ob q⟩,λ_ _ q=>q,λ_ _ _ q=>q,λ_ ps q=>⟨#[],by rw[q];simp⟩⟩
def Un.refl:Un fs ex H H h h:=Un.kept λ_ _ q=>q
def Un.laid(k:∀b u,h.get? b=some u->h'.get? b=some u)(hp:h.objs.size<=a)(hn:H a=none):Un fs ex H (ar H a o) h h' where
 keep:=λb u q _ _ _=>k b u q
 slot:=λb u q _ _ _=>⟨u.slots,k b u q⟩
 free:=λb u q n _=>by rw[bL (cq (j5 (bo q) hp))];exact n
 there:=λb u q _=>⟨u,k b u q⟩
 tups:=λb xs q=>by rw[bL (dQ q hn)];exact q
 frzs:=λb u xs q=>by rw[bL (dQ q hn)];exact q
 tbls:=λb ps q=>⟨#[],by rw[bL (dQ q hn),q];simp⟩
def Un.write(mu:t_ (H x))(he:e=x\/H e=some (.own x))(k:∀b u,b≠e->h.get? b=some u->h'.get? b=some u)(heo:∃u,h'.get? e=some u):Un fs ex H (ar H x o) h h':=by
 have hx:∀b,H b=none->b≠x:=λb n z=>by subst z;rw[n]at mu;exact mu
 have hb:∀b,H b=none->b≠e:=λb n z=>by
  subst z
  rcases he with r|r
  ·exact hx b n r
  ·rw[n]at r;cases r
 have hm:∀b u,H b=some u->¬ t_ (some u)->b≠x:=λb u q nm z=>by subst z;rw[q]at mu;exact nm mu
 refine⟨λb u q n _ _=>k b u (hb b n) q,λb u q n _ _=>⟨u.slots,k b u (hb b n) q⟩,λb u q n _=>by rw[bL (hx b n)];exact n,λb u q _=>?_,
  λb xs q=>by rw[bL (hm b _ q λz=>z)];exact q,λb u xs q=>by rw[bL (hm b _ q λz=>z)];exact q,λb ps q=>⟨#[],by rw[bL (hm b _ q λz=>z),q];simp⟩⟩
 by_cases hbe:b=e
 ·subst hbe;exact heo
 ·exact⟨u,k b u hbe q⟩
end
def wt(h:Heap)(H:Hp):List Addr:=(List.range h.objs.size).filter λa=>(H a).isSome
def jH(h:Heap)(H:Hp):Heap:=PySem.W.hideAll h (wt h H)
def KO(h:Heap)(H:Hp):(jH h H).objs.size=h.objs.size:=PySem.W.hideAll_size _ _
def Kj{h:Heap}{H:Hp}{b:Addr}{o:Obj}(e:h.get? b=some o)(n:H b=none):(jH h H).get? b=some o:=
 PySem.W.hideAll_get _ e λhm=>by
  have q:(H b).isSome=true:=(qf2_.mp hm).2
  rw[n]at q;simp at q
def Jb{h:Heap}{H:Hp}{b:Addr}{o:Obj}(e:(jH h H).get? b=some o):h.get? b=some o/\H b=none:=by
 have e':h.get? b=some o:=PySem.W.of_hideAll (wt h H) e
 refine⟨e',?_⟩
 cases q:H b with
 |none=>rfl
 |some x=>
  have hm:b∈wt h H:=qf2_.mpr ⟨qt1_.mpr (bo e'),by simp[q]⟩
  have z:(jH h H).get? b=none:=PySem.W.hideAll_none (wt h H) hm
  rw[z]at e;cases e
structure Mod (K:W.Frag) (mg:Str->Option Value) (base:Heap):Prop where
 kin:K.In base
 glob:base.Ns mainGlobals mg
 blt:∃mb,base.Ns builtinsNs mb/\∀x:Str,x≠"__name__"->mb x=bootBuiltins x
 nolimit:base.NoLimit
structure Cx where
 prog:Program
 w:World
 K:W.Frag
 mg:Str->Option Value
 base:Heap
 A:Around
 N:List Str
 s₀:Shared
 H₀:Hp
 env:Env
 outer:List Env
 stack:List Env
 ex:List Addr
 fn:Str->Bool
 calm:Bool
 pn:List (Addr×Obj)
 xe:Value->Shared->Prop
def nj(l:List Env):List Addr:=l.filterMap (·.frame)
abbrev Cx.fs(X:Cx):List Addr:=nj X.outer
def nz(sc:Scope)(x:Str):Prop:=sc.names.lookup x=some .local\/sc.names.lookup x=some .cell\/sc.names.lookup x=some .free
def kh(sc:Scope)(x:Str):Prop:=sc.names.lookup x=some .local\/sc.names.lookup x=some .cell
def Ds(env:Env)(h:Heap)(m:Str->Option Value)(x:Str)(u:Value):Prop:=
 (env.kindOf x=some .local/\m x=some u)\/((env.kindOf x=some .cell\/env.kindOf x=some .free)/\∃c,env.cells.lookup x=some c/\h.IsCell c (some u))
structure Cx.Ok (X:Cx):Prop where
 mod:Mod X.K X.mg X.base
 kind:X.env.scope.kind=.function
 glob:X.env.globals=mainGlobals
 blt:X.env.builtins=builtinsNs
 above:X.s₀.heap.objs.size<=X.env.locals
 inj:∀x y c,X.env.cells.lookup x=some c->X.env.cells.lookup y=some c->x=y
 has:∀x,(X.env.kindOf x=some .cell\/X.env.kindOf x=some .free)->∃c,X.env.cells.lookup x=some c
 cab:∀x c,X.fn x=true->X.env.cells.lookup x=some c->X.s₀.heap.objs.size<=c
 hd:X.calm=true->X.A.handled=none
 frames:X.A.frames=some X.stack
 stk:X.stack=X.outer\/(X.stack=X.env::X.outer/\X.env.frame=some X.env.locals)
 exf:∀b∈X.ex,b≠X.env.locals/\∀x c,X.env.cells.lookup x=some c->c≠b
 bs:∀b o,X.base.get? b=some o->X.s₀.heap.get? b=some o/\X.H₀ b=none
 bsz:X.base.objs.size<=X.s₀.heap.objs.size
 noex:∀b o,X.base.get? b=some o->b∉X.ex
 exfs:∀b∈X.ex,b∉X.fs
 funs:X.s₀.heap.FunFrames X.base X.outer
 frf:∀b∈X.fs,X.H₀ b=none
structure ag (X:Cx) (pins:List (Addr×Obj)) (σ:List (Option V)) (H:Hp) (s:Shared):Prop where
 ok:X.Ok
 os:s.os=X.s₀.os
 bare:AllBare s.gens
 base:Un X.fs X.ex X.H₀ H X.s₀.heap s.heap
 loc:∃m,s.heap.Ns X.env.locals m/\∀(i:Nat) (x:Str) (v:V),X.N[i]?=some x->σ[i]?=some (some v)->nz X.env.scope x->∃u,ai v u/\Ds X.env s.heap m x u
 cell:∀x c,X.env.cells.lookup x=some c->∃v,s.heap.IsCell c v
 free:H X.env.locals=none
 freeC:∀x c,X.env.cells.lookup x=some c->H c=none
 pin:∀p∈X.pn++pins,s.heap.get? p.1=some p.2/\H p.1=none/\p.1≠X.env.locals/\p.1∉X.fs/\∀v,p.2.data≠.cell v
 hok:du X.prog X.w H s.heap
 len:σ.length=X.N.length
section
variable{X:Cx}{pins:List (Addr×Obj)}{σ:List (Option V)}{H H':Hp}{s:Shared}{h':Heap}
def Cx.Ok.nofr(ok:X.Ok){b:Addr}{o:Obj}(e:X.base.get? b=some o):b∉X.fs:=λhb=>by
 have:=(ok.funs.mem hb).1
 rw[e]at this;cases this
def ag.bs(I:ag X pins σ H s):∀b o,X.base.get? b=some o->s.heap.get? b=some o/\H b=none:=λb o e=>
 ⟨I.base.keep b o (I.ok.bs b o e).1 (I.ok.bs b o e).2 (I.ok.nofr e) (I.ok.noex b o e),I.base.free b o (I.ok.bs b o e).1 (I.ok.bs b o e).2 (I.ok.noex b o e)⟩
def ag.bk(I:ag X pins σ H s):∀b o,X.base.get? b=some o->s.heap.get? b=some o:=λb o e=>(I.bs b o e).1
def ag.mod(I:ag X pins σ H s):Mod X.K X.mg X.base:=I.ok.mod
def ag.kIn(I:ag X pins σ H s):X.K.In s.heap:=I.ok.mod.kin.keeps I.bk
def ag.lt(I:ag X pins σ H s):X.env.locals<s.heap.objs.size:=let ⟨_,hn,_⟩:=I.loc;hn.lt
def ag.sz(I:ag X pins σ H s):X.s₀.heap.objs.size<=s.heap.objs.size:=bx I.ok.above (j9 I.lt)
def ag.nofs(I:ag X pins σ H s){a:Addr}(h:s.heap.objs.size<=a):a∉X.fs:=λhb=>by
 obtain⟨_,o,ho,_⟩:=I.ok.funs.mem hb
 exact absurd (j5 (bo ho) (bx I.sz h)) (fg _)
def ag.cne(I:ag X pins σ H s):∀x c,X.env.cells.lookup x=some c->c≠X.env.locals:=λx c e z=>by
 obtain⟨v,o,ho,hd⟩:=I.cell x c e
 obtain⟨m,⟨o',es,ep,ho',hd',_⟩,_⟩:=I.loc
 rw[z,ho']at ho;cases ho;rw[hd']at hd;cases hd
def ag.funs(I:ag X pins σ H s):s.heap.FunFrames X.base X.outer:=by
 have all:∀(l:List Env),(∀b∈nj l,b∈X.fs)->X.s₀.heap.FunFrames X.base l->s.heap.FunFrames X.base l:=by
  intro l
  induction l with
  |nil=>intro _ _;trivial
  |cons env r ih=>
   intro hs hl
   obtain⟨hk,⟨L,o,hf,hn,ho,hd⟩,hr⟩:=hl
   have hL:L∈X.fs:=hs L (by unfold nj;rw[il,hf];exact fw)
   obtain⟨sl,e⟩:=I.base.slot L o ho (I.ok.frf L hL) hL λz=>I.ok.exfs L z hL
   exact⟨hk,⟨L,_,hf,hn,e,hd⟩,ih (λb hb=>hs b (by unfold nj;rw[il,hf];exact d_ _ hb)) hr⟩
 exact all X.outer (λ_ hb=>hb) I.ok.funs
def ag.stack(I:ag X pins σ H s):s.heap.FunFrames X.base X.stack:=by
 rcases I.ok.stk with e|⟨e,hf⟩
 ·rw[e];exact I.funs
 ·rw[e]
  obtain⟨m,hn,_⟩:=I.loc
  refine .cons (by rw[I.ok.kind];decide) hf hn ?_ I.funs
  exact Heap.get?_none_of_le (bx I.ok.bsz I.ok.above)
def ag.stkSub(I:ag X pins σ H s):∀b∈nj X.stack,b∈X.env.locals::X.fs:=λb hb=>by
 rcases I.ok.stk with e|⟨e,hf⟩
 ·rw[e]at hb;exact d_ _ hb
 ·rw[e]at hb
  unfold nj at hb
  rw[il,hf]at hb
  exact hb
def ag.stkFree(I:ag X pins σ H s):∀b∈nj X.stack,H b=none:=λb hb=>by
 rcases qx_.mp (I.stkSub b hb) with e|hb
 ·rw[e];exact I.free
 ·obtain⟨_,o,ho,_⟩:=I.ok.funs.mem hb
  exact I.base.free b o ho (I.ok.frf b hb) λz=>I.ok.exfs b z hb
def ag.step{g':Array GenState}{t':Nat}{d':Drawn}{ch:List Addr}(I:ag X pins σ H s)
  (hch:∀b∈ch,(b∈X.ex\/X.s₀.heap.objs.size<=b)/\b≠X.env.locals/\(∀x c,X.env.cells.lookup x=some c->c≠b)/\∀p∈X.pn++pins,p.1≠b)
  (keep:∀b o,b≠X.env.locals->b∉X.fs->b∉ch->s.heap.get? b=some o->H b=none->h'.get? b=some o)
  (slot:∀b o,b≠X.env.locals->b∈X.fs->b∉ch->s.heap.get? b=some o->H b=none->∃sl,h'.get? b=some {o with slots:=sl}) (free:∀b o,b∉ch->s.heap.get? b=some o->H b=none->H' b=none)
  (there:∀b o,b∉ch->s.heap.get? b=some o->∃o',h'.get? b=some o')
  (tups:∀b xs,H b=some (.tup xs)->H' b=some (.tup xs)) (frzs:∀b o u,H b=some (.frz o u)->H' b=some (.frz o u)) (tbls:∀b ps,H b=some (.tbl ps)->∃more,H' b=some (.tbl (ps++more)))
  (ns:∀m,s.heap.Ns X.env.locals m->h'.Ns X.env.locals m) (hok:du X.prog X.w H' h') (hg:AllBare g'):
  ag X pins σ H' {s with heap:=h',gens:=g',drawn:=d',toks:=t'}:=by
 have neL:∀b o,X.s₀.heap.get? b=some o->b≠X.env.locals:=λb o e=>cq (j5 (bo e) I.ok.above)
 have neC:∀b o,X.s₀.heap.get? b=some o->b∉X.ex->b∉ch:=λb o e hx hb=>by
  rcases (hch b hb).1 with z|z
  ·exact hx z
  ·exact absurd (j5 (bo e) z) (fg _)
 have cellK:∀x c,X.env.cells.lookup x=some c->∀v,s.heap.IsCell c v->h'.IsCell c v:=λx c e v ⟨o,ho,hd⟩=>by
  have nch:c∉ch:=λz=>(hch c z).2.2.1 x c e rfl
  by_cases hc:c∈X.fs
  ·obtain⟨sl,q⟩:=slot c o (I.cne x c e) hc nch ho (I.freeC x c e)
   exact⟨_,q,hd⟩
  ·exact⟨o,keep c o (I.cne x c e) hc nch ho (I.freeC x c e),hd⟩
 refine⟨I.ok,I.os,hg,⟨λb o e n hb hx=>?_,λb o e n hb hx=>?_,λb o e n hx=>?_,λb o e hx=>?_,λb xs e=>tups b xs (I.base.tups b xs e),λb o xs e=>frzs b o xs (I.base.frzs b o xs e),λb ps e=>?_⟩,?_,λx c e=>?_,?_,λx c e=>?_,λp hp=>?_,hok,I.len⟩
 ·exact keep b o (neL b o e) hb (neC b o e hx) (I.base.keep b o e n hb hx) (I.base.free b o e n hx)
 ·obtain⟨sl,e1⟩:=I.base.slot b o e n hb hx
  obtain⟨sl',e2⟩:=slot b _ (neL b o e) hb (neC b o e hx) e1 (I.base.free b o e n hx)
  exact⟨sl',e2⟩
 ·obtain⟨o',e1⟩:=I.base.there b o e hx
  exact free b o' (neC b o e hx) e1 (I.base.free b o e n hx)
 ·obtain⟨o',e1⟩:=I.base.there b o e hx
  exact there b o' (neC b o e hx) e1
 ·obtain⟨m1,e1⟩:=I.base.tbls b ps e
  obtain⟨m2,e2⟩:=tbls b _ e1
  exact⟨m1++m2,by rw[e2,Array.append_assoc]⟩
 ·obtain⟨m,hn,hl⟩:=I.loc
  refine⟨m,ns m hn,λi x v e1 e2 e3=>?_⟩
  obtain⟨u,r,l⟩:=hl i x v e1 e2 e3
  refine⟨u,r,?_⟩
  rcases l with l|⟨k,c,e,z⟩
  ·exact .inl l
  ·exact .inr ⟨k,c,e,cellK x c e _ z⟩
 ·obtain⟨v,z⟩:=I.cell x c e
  exact⟨v,cellK x c e v z⟩
 ·obtain⟨m,⟨o,_,_,ho,_⟩,_⟩:=I.loc
  exact free _ o (λz=>(hch _ z).2.1 rfl) ho I.free
 ·obtain⟨v,o,ho,hd⟩:=I.cell x c e
  exact free c o (λz=>(hch c z).2.2.1 x c e rfl) ho (I.freeC x c e)
 ·obtain⟨e,n,ne,nf,d⟩:=I.pin p hp
  have nch:p.1∉ch:=λz=>(hch p.1 z).2.2.2 p hp rfl
  exact⟨keep p.1 p.2 ne nf nch e n,free p.1 p.2 nch e n,ne,nf,d⟩
def ag.un{t':Nat}(I:ag X pins σ H s)(u:Un X.fs [] H H' s.heap h')(hok:du X.prog X.w H' h'):ag X pins σ H' {s with heap:=h',toks:=t'}:=by
 obtain⟨m,⟨o,es,ep,ho,r⟩,_⟩:=id I.loc
 obtain⟨sl,hL⟩:=u.any ho I.free (by simp)
 exact I.step (g':=s.gens) (d':=s.drawn) (ch:=[]) (λ_ z=>nomatch z) (λb o _ hb _ e n=>u.keep b o e n hb (by simp)) (λb o _ hb _ e n=>u.slot b o e n hb (by simp)) (λb o _ e n=>u.free b o e n (by simp)) (λb o _ e=>u.there b o e (by simp)) u.tups u.frzs u.tbls (λm' hm=>by
  obtain⟨o',es',ep',ho',r'⟩:=hm
  rw[ho]at ho';cases ho'
  exact⟨_,es',ep',hL,r'⟩) hok I.bare
def ag.call{g':Array GenState}{t':Nat}{d':Drawn}{ch:List Addr}(I:ag X pins σ H s)(u:Un (nj X.stack) ch H H' s.heap h')(hok:du X.prog X.w H' h')(hg:AllBare g')
  (hch:∀b∈ch,(b∈X.ex\/X.s₀.heap.objs.size<=b)/\b≠X.env.locals/\(∀x c,X.env.cells.lookup x=some c->c≠b)/\∀p∈X.pn++pins,p.1≠b):
  ag X pins σ H' {s with heap:=h',gens:=g',drawn:=d',toks:=t'}:=by
 obtain⟨m,⟨o,es,ep,ho,r⟩,_⟩:=id I.loc
 obtain⟨sl,hL⟩:=u.any ho I.free λz=>(hch _ z).2.1 rfl
 exact I.step (ch:=ch) hch (λb o hL hb hc e n=>u.keep b o e n (λz=>(qx_.mp (I.stkSub b z)).elim hL hb) hc) (λb o _ _ hc e n=>u.any e n hc) (λb o hc e n=>u.free b o e n hc) (λb o hc e=>u.there b o e hc) u.tups u.frzs u.tbls (λm' hm=>by
  obtain⟨o',es',ep',ho',r'⟩:=hm
  rw[ho]at ho';cases ho'
  exact⟨_,es',ep',hL,r'⟩) hok hg
def ag.turned{t':Nat}{it:Addr}(I:ag X pins σ H s)(k:∀b o,b≠it->s.heap.get? b=some o->h'.get? b=some o)(hn:H it=none)(hL:it≠X.env.locals)
  (h1:it∈X.ex\/X.s₀.heap.objs.size<=it) (h2:∀x c,X.env.cells.lookup x=some c->c≠it) (h3:∀p∈X.pn++pins,p.1≠it):ag X pins σ H {s with heap:=h',toks:=t'}:=by
 have nit:∀b u,H b=some u->b≠it:=λb u e z=>by rw[z,hn]at e;cases e
 refine I.step (g':=s.gens) (d':=s.drawn) (ch:=[it]) (λb hb=>?_) (λb o _ _ hc e _=>k b o (λz=>hc (by simp[z])) e) (λb o _ _ hc e _=>⟨o.slots,k b o (λz=>hc (by simp[z])) e⟩) (λ_ _ _ _ n=>n)
  (λb o hc e=>⟨o,k b o (λz=>hc (by simp[z])) e⟩) (λ_ _ e=>e) (λ_ _ _ e=>e) (λb ps e=>⟨#[],by rw[e];simp⟩) (λm hm=>?_) (λb u e=>?_) I.bare
 ·have e:b=it:=by simpa using hb
  subst e
  exact⟨h1,hL,h2,h3⟩
 ·obtain⟨o,es,ep,ho,r⟩:=hm
  exact⟨o,es,ep,k _ o (Ne.symm hL) ho,r⟩
 ·refine(I.hok b u e).stay (λc v hc q=>k c v ?_ q) (λ_ q=>q) λ_ _ q=>q
  rcases hc with z|z
  ·rw[z];exact nit b u e
  ·exact nit c _ z
def ag.tok(I:ag X pins σ H s)(t:Nat):ag X pins σ H {s with toks:=t}:=I.un (h':=s.heap) (t':=t) Un.refl I.hok
def ag.kept{t':Nat}(I:ag X pins σ H s)(k:∀b u,s.heap.get? b=some u->h'.get? b=some u):ag X pins σ H {s with heap:=h',toks:=t'}:=I.un (Un.kept k) (I.hok.kept k)
def ag.laid{a:Addr}{o:HO}{t':Nat}(I:ag X pins σ H s)(k:∀b u,s.heap.get? b=some u->h'.get? b=some u)(hp:s.heap.objs.size<=a)(new:aw X.prog X.w (ar H a o) h' a o):
  ag X pins σ (ar H a o) {s with heap:=h',toks:=t'}:=I.un (Un.laid k hp (I.hok.fresh hp)) (I.hok.laid k hp new)
def ag.write{x e:Addr}{o:HO}{t':Nat}(I:ag X pins σ H s)(mu:t_ (H x))(he:e=x\/H e=some (.own x))(k:∀b u,b≠e->s.heap.get? b=some u->h'.get? b=some u)(heo:∃u,h'.get? e=some u)
  (new:aw X.prog X.w (ar H x o) h' x o):ag X pins σ (ar H x o) {s with heap:=h',toks:=t'}:=I.un (Un.write mu he k heo) (I.hok.write mu he k heo new)
def ag.weak{σ':List (Option V)}(I:ag X pins σ H s)(hl:σ'.length=σ.length)(w:∀(i:Nat) v,σ'[i]?=some (some v)->σ[i]?=some (some v)):ag X pins σ' H s:=
 ⟨I.ok,I.os,I.bare,I.base,let ⟨m,hn,hl'⟩:=I.loc;⟨m,hn,λi x v e1 e2 e3=>hl' i x v e1 (w i v e2) e3⟩,I.cell,I.free,I.freeC,I.pin,I.hok,hl.trans I.len⟩
def ag.pins_of{pins':List (Addr×Obj)}(I:ag X pins σ H s)(h:∀p∈pins',s.heap.get? p.1=some p.2/\H p.1=none/\p.1≠X.env.locals/\p.1∉X.fs/\∀v,p.2.data≠.cell v):ag X pins' σ H s:=
 ⟨I.ok,I.os,I.bare,I.base,I.loc,I.cell,I.free,I.freeC,λp hp=>(qp_.mp hp).elim (λz=>I.pin p (g6 _ z)) (h p),I.hok,I.len⟩
def Bg{N:List Str}(hN:N.Nodup){i j:Nat}{x:Str}(a:N[i]?=some x)(b:N[j]?=some x):i=j:=by
 obtain⟨h1,e1⟩:=qy_.mp a
 obtain⟨h2,e2⟩:=qy_.mp b
 exact(List.getElem_inj hN).mp (e1.trans e2.symm)
def B3{M:Model}{A:Around}{E:Value->Shared->Prop}{i:Nat}{x:Str}{v:V}{u:Value}{Q:Unit->Shared->Prop}(I:ag X pins σ H s)(hN:X.N.Nodup)(hi:X.N[i]?=some x)(hx:kh X.env.scope x)(r:ai v u)
  (h:∀s',ag X pins (σ.set i (some v)) H s'->(∃a,Heap.SameBut a s.heap s'.heap/\(a=X.env.locals\/X.env.cells.lookup x=some a))->Q () s') (hf:X.fn x=true\/X.env.scope.names.lookup x=some .local:=by first|exact .inl rfl|exact .inr rfl|assumption):wpAny M A (storeName X.env x u) Q E s:=by
 obtain⟨m,hn,hl⟩:=id I.loc
 have hcls:(X.env.scope.kind==.class || (X.env.scope.kind==.module&&X.env.locals != X.env.globals))=false:=by rw[I.ok.kind];rfl
 have hiσ:i<σ.length:=by rw[I.len];exact(qy_.mp hi).1
 have cne:=I.cne
 have tracked:∀{a:Addr} {h':Heap},(∃o,s.heap.get? a=some o/\H a=none)->Heap.SameBut a s.heap h'->du X.prog X.w H h':=λ{a h'} ha hs b ob e=>by
  obtain⟨_,_,hfree⟩:=ha
  refine(I.hok b ob e).stay (λc w' hc q=>(hs.2 c ?_).trans q) (λ_ q=>q) λ_ _ q=>q
  rintro rfl
  rcases hc with rfl|hc
  ·rw[hfree]at e;cases e
  ·rw[hfree]at hc;cases hc
 rcases hx with hk|hk
 ·refine wpAny_storeName_local hk hn (λh' hn' hs=>?_) hcls
  obtain⟨oL,_,_,hoL,_⟩:=id hn
  refine h _ ⟨I.ok,I.os,I.bare,⟨λb o e n hb hx=>?_,λb o e n hb hx=>?_,I.base.free,λb o e hx=>?_,I.base.tups,I.base.frzs,I.base.tbls⟩,⟨_,hn',λj y v' e1 e2 e3=>?_⟩,λy c e=>?_,I.free,I.freeC,λp hp=>?_,tracked ⟨oL,hoL,I.free⟩ hs,by simpa using I.len⟩ ⟨_,hs,.inl rfl⟩
  ·exact(hs.2 b (cq (j5 (bo e) I.ok.above))).trans (I.base.keep b o e n hb hx)
  ·obtain⟨sl,e1⟩:=I.base.slot b o e n hb hx
   exact⟨sl,(hs.2 b (cq (j5 (bo e) I.ok.above))).trans e1⟩
  ·obtain⟨o',e1⟩:=I.base.there b o e hx
   exact⟨o',(hs.2 b (cq (j5 (bo e) I.ok.above))).trans e1⟩
  ·by_cases hj:j=i
   ·subst hj
    rw[hi]at e1;cases e1
    rw[fu hiσ]at e2
    cases e2
    exact⟨u,r,.inl ⟨hk,by simp⟩⟩
   ·rw[gi (Ne.symm hj)]at e2
    obtain⟨u',r',q⟩:=hl j y v' e1 e2 e3
    refine⟨u',r',?_⟩
    rcases q with⟨k,e⟩|⟨k,c,e,z⟩
    ·refine .inl ⟨k,?_⟩
     have:y≠x:=λe=>hj (Bg hN e1 (e▸hi))
     simp[this,e]
    ·exact .inr ⟨k,c,e,z.sameBut hs (cne y c e)⟩
  ·obtain⟨w',z⟩:=I.cell y c e
   exact⟨w',z.sameBut hs (cne y c e)⟩
  ·obtain⟨e,n,ne,nf,d⟩:=I.pin p hp
   exact⟨(hs.2 p.1 ne).trans e,n,ne,nf,d⟩
 ·have hfn:X.fn x=true:=by
   rcases hf with z|z
   ·exact z
   ·rw[z]at hk;cases hk
  obtain⟨c,hc⟩:=I.ok.has x (.inl hk)
  obtain⟨w',z⟩:=I.cell x c hc
  refine wpAny_storeName_cell I.ok.kind hk hc z (λh' hc' hs=>?_)
  obtain⟨oc,hoc,hocd⟩:=id z
  refine h {s with heap:=h'} ⟨I.ok,I.os,I.bare,⟨λb o e n hb hx=>?_,λb o e n hb hx=>?_,I.base.free,λb o e hx=>?_,I.base.tups,I.base.frzs,I.base.tbls⟩,⟨m,hn.sameBut hs (Ne.symm (cne x c hc)),λj y v' e1 e2 e3=>?_⟩,λy c' e=>?_,I.free,I.freeC,λp hp=>?_,tracked ⟨oc,hoc,I.freeC x c hc⟩ hs,by simpa using I.len⟩ ⟨c,hs,.inr hc⟩
  ·exact(hs.2 b (cq (j5 (bo e) (I.ok.cab x c hfn hc)))).trans (I.base.keep b o e n hb hx)
  ·obtain⟨sl,e1⟩:=I.base.slot b o e n hb hx
   exact⟨sl,(hs.2 b (cq (j5 (bo e) (I.ok.cab x c hfn hc)))).trans e1⟩
  ·obtain⟨o',e1⟩:=I.base.there b o e hx
   exact⟨o',(hs.2 b (cq (j5 (bo e) (I.ok.cab x c hfn hc)))).trans e1⟩
  ·by_cases hj:j=i
   ·subst hj
    rw[hi]at e1;cases e1
    rw[fu hiσ]at e2
    cases e2
    exact⟨u,r,.inr ⟨.inl hk,c,hc,hc'⟩⟩
   ·rw[gi (Ne.symm hj)]at e2
    obtain⟨u',r',q⟩:=hl j y v' e1 e2 e3
    refine⟨u',r',?_⟩
    rcases q with q|⟨k,c',e,z'⟩
    ·exact .inl q
    ·refine .inr ⟨k,c',e,z'.sameBut hs ?_⟩
     rintro rfl
     exact hj (Bg hN e1 (I.ok.inj _ _ _ e hc▸hi))
  ·by_cases hcc:c'=c
   ·subst hcc;exact⟨_,hc'⟩
   ·obtain⟨w2,z2⟩:=I.cell y c' e
    exact⟨w2,z2.sameBut hs hcc⟩
  ·obtain⟨e,n,ne,nf,d⟩:=I.pin p hp
   refine⟨(hs.2 p.1 ?_).trans e,n,ne,nf,d⟩
   intro q
   rw[q,hoc]at e
   have q':oc=p.2:=Option.some.inj e
   exact d w' (by rw[<-q'];exact hocd)
def qS{M:Model}{A:Around}{E:Value->Shared->Prop}{i:Nat}{x:Str}{v:V}{u:Value}{Q:Unit->Shared->Prop}(I:ag X pins σ H s)(hN:X.N.Nodup)(hi:X.N[i]?=some x)(hx:kh X.env.scope x)(r:ai v u)
  (h:∀s',ag X pins (σ.set i (some v)) H s'->Q () s') (hf:X.fn x=true\/X.env.scope.names.lookup x=some .local:=by first|exact .inl rfl|exact .inr rfl|assumption):wpAny M A (storeName X.env x u) Q E s:=
 B3 I hN hi hx r (λs' I' _=>h s' I') hf
def ag.call'{s':Shared}{ch:List Addr}(I:ag X pins σ H s)(ho:s'.os=s.os)(u:Un (nj X.stack) ch H H' s.heap s'.heap)(hok:du X.prog X.w H' s'.heap)(hg:AllBare s'.gens)
  (hch:∀b∈ch,(b∈X.ex\/X.s₀.heap.objs.size<=b)/\b≠X.env.locals/\(∀x c,X.env.cells.lookup x=some c->c≠b)/\∀p∈X.pn++pins,p.1≠b):ag X pins σ H' s':=by
 obtain⟨h',g',d',t',o'⟩:=s'
 have e:o'=s.os:=ho
 subst e
 exact I.call (g':=g') (t':=t') (d':=d') u hok hg hch
end
abbrev XK:=Value->Option Addr->Hp->Prop
abbrev St:=List (Option V)
abbrev VK:=V->Hp->Prop
abbrev TE:=St->Hp->VK->Prop
abbrev TT:=St->Hp->(Bool->Hp->Prop)->Prop
abbrev TA:=St->Hp->(List V->Hp->Prop)->Prop
structure lC where
 nx:St->Hp->Prop
 rt:VK
 bk:St->Hp->Prop:=λ_ _=>False
 ct:St->Hp->Prop:=λ_ _=>False
abbrev TS:=lC->St->Hp->Prop
def EP(X:Cx)(pins:List (Addr×Obj))(σ:St)(Q:VK)(u:Value)(s':Shared):Prop:=∃v H',ag X pins σ H' s'/\ai v u/\Q v H'
def TP(X:Cx)(pins:List (Addr×Obj))(σ:St)(Q:Bool->Hp->Prop)(b:Bool)(s':Shared):Prop:=∃H',ag X pins σ H' s'/\Q b H'
def AP(X:Cx)(pins:List (Addr×Obj))(σ:St)(Q:List V->Hp->Prop)(us:List Value)(s':Shared):Prop:=∃vs H',ag X pins σ H' s'/\aj vs us/\Q vs H'
def SP(X:Cx)(pins:List (Addr×Obj))(D:lC)(f:Flow)(s':Shared):Prop:=
 match f with
 |.next=>∃σ' H',ag X pins σ' H' s'/\D.nx σ' H'
 |.brk=>∃σ' H',ag X pins σ' H' s'/\D.bk σ' H'
 |.cont=>∃σ' H',ag X pins σ' H' s'/\D.ct σ' H'
 |.ret u=>∃v σ' H',ag X pins σ' H' s'/\ai v u/\D.rt v H'
def PE(X:Cx)(e:Expr)(t:TE):Prop:=
 ∀(pins:List (Addr×Obj)) (s:Shared) (σ:St) (H:Hp) (Q:VK),ag X pins σ H s->t σ H Q->wpAny (model X.prog X.w) X.A (eval e X.env) (EP X pins σ Q) X.xe s
def PT(X:Cx)(e:Expr)(t:TT):Prop:=
 ∀(pins:List (Addr×Obj)) (s:Shared) (σ:St) (H:Hp) (Q:Bool->Hp->Prop),ag X pins σ H s->t σ H Q->wpAny (model X.prog X.w) X.A (isTrue e X.env (eval e X.env)) (TP X pins σ Q) X.xe s
def PW(X:Cx)(e:Expr)(t:TT):Prop:=
 ∀(whole:Sem Value) (pins:List (Addr×Obj)) (s:Shared) (σ:St) (H:Hp) (Q:Bool->Hp->Prop),ag X pins σ H s->t σ H Q->wpAny (model X.prog X.w) X.A (isTrue e X.env whole) (TP X pins σ Q) X.xe s
def PW.pt{X:Cx}{e:Expr}{t:TT}(h:PW X e t):PT X e t:=h _
def PA(X:Cx)(es:List Expr)(t:TA):Prop:=
 ∀(pos:Pos) (pins:List (Addr×Obj)) (s:Shared) (σ:St) (H:Hp) (Q:List V->Hp->Prop),ag X pins σ H s->t σ H Q->wpAny (model X.prog X.w) X.A (spliced (backTo pos (starEach es X.env))) (AP X pins σ Q) X.xe s
def PS(X:Cx)(st:Stmt)(t:TS):Prop:=
 ∀(pins:List (Addr×Obj)) (s:Shared) (σ:St) (H:Hp) (D:lC),ag X pins σ H s->t D σ H->wpAny (model X.prog X.w) X.A (exec st X.env) (SP X pins D) X.xe s
def f_(X:Cx)(st:List Stmt)(t:TS):Prop:=
 ∀(pins:List (Addr×Obj)) (s:Shared) (σ:St) (H:Hp) (D:lC),ag X pins σ H s->t D σ H->wpAny (model X.prog X.w) X.A (execs st X.env) (SP X pins D) X.xe s
def bf{α:Type}{t:Sem α}{Q Q':α->Shared->Prop}{M:Model}{A:Around}{E:Value->Shared->Prop}{s:Shared}(h:wpAny M A t Q E s)(hQ:∀a s,Q a s->Q' a s):wpAny M A t Q' E s:=wpAny_mono h hQ λ_ _ x=>x
section
variable{X:Cx}
def yi(i:Nat):TE:=λσ H Q=>∃v,σ[i]?=some (some v)/\Q v H
def tC(v:V):TE:=λ_ H Q=>Q v H
def jV{i:Nat}{x:Str}{pos:Pos}(hN:X.N[i]?=some x)(hv:nz X.env.scope x)(hd:(x==("__debug__":Str))=false:=by decide)(hcd:(x==("__classdict__":Str))=false:=by decide):PE X (.Name x pos) (yi i):=by
 intro pins s σ H Q I h
 obtain⟨v,e,h⟩:=h
 obtain⟨m,hn,hl⟩:=I.loc
 obtain⟨u,r,l⟩:=hl i x v hN e hv
 have fin:EP X pins σ Q u s:=⟨v,H,I,r,h⟩
 rcases l with⟨hk,hm⟩|⟨hk,c,hc,hcell⟩
 ·exact wpAny_Name (wpAny_loadName_local I.ok.kind hk hn hm fin) hd
 ·rcases hk with hk|hk
  ·exact wpAny_Name (wpAny_loadName_cell I.ok.kind hk hc hcell fin) hd
  ·exact wpAny_Name (wpAny_loadName_free I.ok.kind hk hc hcell fin hcd) hd
def cL{i j pos}:PE X (.Constant (.int i) j pos) (tC (.int i)):=λ_ _ _ H _ I h=>wpAny_Constant_int ⟨.int i,H,I.tok _,⟨_,rfl⟩,h⟩
def FL{b j pos}:PE X (.Constant (.bool b) j pos) (tC (.bl b)):=λ_ _ _ H _ I h=>Constant_bool ⟨.bl b,H,I,rfl,h⟩
def Gf{j pos}:PE X (.Constant .none j pos) (tC .non):=λ_ _ _ H _ I h=>Constant_none ⟨.non,H,I,rfl,h⟩
def AE{x j pos}:PE X (.Constant (.str x) j pos) (tC (.str x)):=λ_ _ _ H _ I h=>Calls.Constant_str ⟨.str x,H,I.tok _,⟨_,rfl⟩,h⟩
def Gl(X:Cx)(x:Str):Prop:=X.env.kindOf x=some .globalImplicit
def wK{E:Value->Shared->Prop}{pins:List (Addr×Obj)}{s:Shared}{σ:St}{H:Hp}{x:Str}{u:Value}{pos:Pos}{Q:Value->Shared->Prop}(I:ag X pins σ H s)(hg:Gl X x)(hm:X.mg x=some u)(h:Q u s)
  (hd:(x==("__debug__":Str))=false:=by decide):wpAny (model X.prog X.w) X.A (eval (.Name x pos) X.env) Q E s:=
 Calls.Name_function_global I.ok.kind hg (Calls.loadGlobal_global (by rw[I.ok.glob];exact I.mod.glob.keeps I.bk) hm h) hd
def oO{E:Value->Shared->Prop}{pins:List (Addr×Obj)}{s:Shared}{σ:St}{H:Hp}{x:Str}{u:Value}{pos:Pos}{Q:Value->Shared->Prop}(I:ag X pins σ H s)(hg:Gl X x)(hm:X.mg x=none)(hv:bootBuiltins x=some u)(h:Q u s)
  (hn:x≠"__name__":=by decide) (hd:(x==("__debug__":Str))=false:=by decide):wpAny (model X.prog X.w) X.A (eval (.Name x pos) X.env) Q E s:=by
 obtain⟨mb,h1,h2⟩:=I.mod.blt
 exact Calls.Name_function_global I.ok.kind hg (Calls.loadGlobal_builtin (by rw[I.ok.glob];exact I.mod.glob.keeps I.bk) hm (by rw[I.ok.blt];exact h1.keeps I.bk) ((h2 x hn).trans hv) h) hd
def BV{x:Str}{v:V}{u:Value}{pos:Pos}(hg:Gl X x)(hm:X.mg x=some u)(r:ai v u)(hd:(x==("__debug__":Str))=false:=by decide):PE X (.Name x pos) (tC v):=
 λ_ _ _ H _ I h=>wK I hg hm ⟨v,H,I,r,h⟩ hd
def cH{x:Str}{v:V}{u:Value}{pos:Pos}(hg:Gl X x)(hm:X.mg x=none)(hv:bootBuiltins x=some u)(r:ai v u)(hn:x≠"__name__":=by decide)(hd:(x==("__debug__":Str))=false:=by decide):PE X (.Name x pos) (tC v):=
 λ_ _ _ H _ I h=>oO I hg hm hv ⟨v,H,I,r,h⟩ hn hd
variable{a b:Expr}{ta tb:TE}{pos:Pos}
def tB(t:TE):TT:=λσ H Q=>t σ H λx H1=>∃c,x=.bl c/\Q c H1
def Ic{e:Expr}{t:TE}(h:PE X e t)(he:∀whole,isTrue e X.env whole=(do let v <- whole;standAt e.pos;holding [v] (truthy v)):=by intro _;rfl):PT X e (tB t):=by
 intro pins s σ H Q I hw
 refine isTrue_plain (bf (h pins s σ H _ I hw) λv s1 ⟨x,H1,I1,r1,q1⟩=>?_) (he _)
 obtain⟨d,rfl,q⟩:=q1
 cases r1
 exact wpAny_truthy_bool ⟨H1,I1,q⟩
variable{tA tB':TT}{rest:List Expr}
def D3(t u:TT):TT:=λσ H Q=>t σ H λc H1=>if c=true then u σ H1 Q else Q false H1
def Nr(t u:TT):TT:=λσ H Q=>t σ H λc H1=>if c=true then Q true H1 else u σ H1 Q
def D7(t:TT):TT:=λσ H Q=>t σ H λc H1=>Q (!c) H1
def Iw(ha:PT X a tA):PW X (.BoolOp .And [a] pos) tA:=by
 intro wh pins s σ H Q I h
 refine isTrue_and (bf (ha pins s σ H Q I h) λc s1 e=>?_)
 cases c with
 |true=>exact isTrue_and_nil e
 |false=>exact e
def Ij(ha:PT X a tA):PW X (.BoolOp .Or [a] pos) tA:=by
 intro wh pins s σ H Q I h
 refine isTrue_or (bf (ha pins s σ H Q I h) λc s1 e=>?_)
 cases c with
 |false=>exact isTrue_or_nil e
 |true=>exact e
def Ii(ha:PT X a tA)(hb:PW X (.BoolOp .And (b::rest) pos) tB'):PW X (.BoolOp .And (a::b::rest) pos) (D3 tA tB'):=by
 intro wh pins s σ H Q I h
 refine isTrue_and (bf (ha pins s σ H _ I h) λc s1 ⟨H1,I1,q1⟩=>?_)
 cases c with
 |true=>exact hb wh pins s1 σ H1 Q I1 q1
 |false=>exact⟨H1,I1,q1⟩
def EU(ha:PT X a tA)(hb:PW X (.BoolOp .Or (b::rest) pos) tB'):PW X (.BoolOp .Or (a::b::rest) pos) (Nr tA tB'):=by
 intro wh pins s σ H Q I h
 refine isTrue_or (bf (ha pins s σ H _ I h) λc s1 ⟨H1,I1,q1⟩=>?_)
 cases c with
 |true=>exact⟨H1,I1,q1⟩
 |false=>exact hb wh pins s1 σ H1 Q I1 q1
def Ib(ha:PT X a tA):PT X (.UnaryOp .Not a pos) (D7 tA):=by
 intro pins s σ H Q I h
 exact isTrue_not (ha pins s σ H (λc H1=>Q (!c) H1) I h)
def Fb(ta tb:TE):TE:=λσ H Q=>ta σ H λx H1=>∃c,x=.bl c/\if c=true then tb σ H1 Q else Q (.bl false) H1
def Gg{op}{t:TE}(h:PE X a t):PE X (.BoolOp op [a] pos) t:=λpins s σ H Q I hw=>BoolOp_one (h pins s σ H Q I hw)
def Gd(ha:PE X a ta)(hb:PE X (.BoolOp .And (b::rest) pos) tb):PE X (.BoolOp .And (a::b::rest) pos) (Fb ta tb):=by
 intro pins s σ H Q I h
 refine BoolOp_and (bf (ha pins s σ H _ I h) λv s1 ⟨x,H1,I1,r1,q1⟩=>?_)
 obtain⟨c,rfl,q1⟩:=q1
 cases r1
 refine wpAny_truthy_bool ?_
 cases c with
 |true=>exact hb pins s1 σ H1 Q I1 q1
 |false=>exact⟨.bl false,H1,I1,rfl,q1⟩
def Nt(t:TT)(ta tb:TE):TE:=λσ H Q=>t σ H λc H1=>if c=true then ta σ H1 Q else tb σ H1 Q
def JN{c:Expr}(hc:PT X c tA)(ha:PE X a ta)(hb:PE X b tb):PE X (.IfExp c a b pos) (Nt tA ta tb):=by
 intro pins s σ H Q I h
 refine wpAny_IfExp (bf (hc pins s σ H _ I h) λd s1 ⟨H1,I1,q1⟩=>?_)
 cases d with
 |true=>exact ha pins s1 σ H1 Q I1 q1
 |false=>exact hb pins s1 σ H1 Q I1 q1
end
def b5(K:W.Frag)(H:Hp)(a:Addr)(xs:List V):Prop:=
 Rd H a (.lst xs) \/
  ∃(o:Obj) (its:Array Value) (n:Nat),K.lookup a=some o/\o.cls=.type "list"/\o.dict=none/\o.data=.seq its n/\its.size<=sizeLine/\aj xs its.toList
def cu(K:W.Frag)(H:Hp)(a:Addr)(xs:List V):Prop:=
 Rd H a (.tup xs) \/
  ∃(o:Obj) (its:Array Value) (n:Nat),K.lookup a=some o/\o.cls=.type "tuple"/\o.data=.seq its n/\its.size<=sizeLine/\aj xs its.toList
def Dv:Value->Option V
 |.none=>some .non
 |.bool b=>some (.bl b)
 |.int i _=>some (.int i)
 |.str x _=>some (.str x)
 |.bytes b _=>some (.byt b)
 |.float b _=>some (.flt b)
 |.ref a=>some (.ref a)
 |.type n=>some (.ty n)
 |_=>none
def ai.abs{x:V}{u:Value}(r:ai x u):Dv u=some x:=by
 cases x with
 |non=>cases r;rfl
 |bl _=>cases r;rfl
 |int _=>obtain⟨t,rfl⟩:=r;rfl
 |str _=>obtain⟨t,rfl⟩:=r;rfl
 |byt _=>obtain⟨t,rfl⟩:=r;rfl
 |flt _=>obtain⟨t,rfl⟩:=r;rfl
 |ref _=>cases r;rfl
 |ty _=>cases r;rfl
def ai.inj{x y:V}{u:Value}(r:ai x u)(q:ai y u):x=y:=Option.some.inj (r.abs.symm.trans q.abs)
def aj.inj:∀{xs ys:List V}{us:List Value},aj xs us->aj ys us->xs=ys
 |_,_,_,.nil,.nil=>rfl
 |_,_,_,.cons r t,.cons r' t'=>by rw[r.inj r',aj.inj t t']
section
variable{X:Cx}{pins:List (Addr×Obj)}{σ:St}{H:Hp}{s:Shared}{a:Addr}{xs ys:List V}
def b5.of{K:W.Frag}(h:H a=some (.lst xs)):b5 K H a xs:=.inl (.inl h)
def cu.of{K:W.Frag}(h:H a=some (.tup xs)):cu K H a xs:=.inl (.inl h)
def ag.list(I:ag X pins σ H s)(h:b5 X.K H a xs):∃its:List Value,aj xs its/\PlainL s.heap a its.toArray/\xs.length<=sizeLine:=by
 rcases h with h|⟨o,its,n,hk,hc,hd,hs,hz,r⟩
 ·obtain⟨z,its,n,r,e⟩:=h.ok I.hok
  exact⟨its,r,⟨_,n,e,rfl,rfl,rfl⟩,z⟩
 ·refine⟨its.toList,r,⟨o,n,I.kIn a o hk,hc,hd,by simpa using hs⟩,?_⟩
  have e:=r.length
  simp only[Array.length_toList]at e
  omega
def ag.tuple(I:ag X pins σ H s)(h:cu X.K H a xs):∃its:List Value,aj xs its/\IsTup s.heap a its.toArray/\xs.length<=sizeLine:=by
 rcases h with h|⟨o,its,n,hk,hc,hs,hz,r⟩
 ·obtain⟨z,its,r,p⟩:=h.ok I.hok
  exact⟨its,r,p,z⟩
 ·refine⟨its.toList,r,⟨o,I.kIn a o hk,hc,n,by simpa using hs⟩,?_⟩
  have e:=r.length
  simp only[Array.length_toList]at e
  omega
def ag.list_inj(I:ag X pins σ H s)(h:b5 X.K H a xs)(h':b5 X.K H a ys):xs=ys:=by
 obtain⟨its,r,⟨o,n,e,_,_,d⟩,_⟩:=I.list h
 obtain⟨its',r',⟨o',n',e',_,_,d'⟩,_⟩:=I.list h'
 rw[e]at e';cases e'
 rw[d]at d'
 injection d' with d1 _
 have:its=its':=by simpa using congrArg Array.toList d1
 subst this
 exact r.inj r'
def ag.tuple_inj(I:ag X pins σ H s)(h:cu X.K H a xs)(h':cu X.K H a ys):xs=ys:=by
 obtain⟨its,r,⟨o,e,_,n,d⟩,_⟩:=I.tuple h
 obtain⟨its',r',⟨o',e',_,n',d'⟩,_⟩:=I.tuple h'
 rw[e]at e';cases e'
 rw[d]at d'
 injection d' with d1 _
 have:its=its':=by simpa using congrArg Array.toList d1
 subst this
 exact r.inj r'
end
abbrev Cx.wish(X:Cx)(E:Value->Shared->Prop):Cx:={X with xe:=E}
abbrev Cx.nox(X:Cx):Cx:=X.wish λ_ _=>False
def Cx.Ok.wish{X:Cx}(ok:X.Ok)(E:Value->Shared->Prop):(X.wish E).Ok:=
 ⟨ok.mod,ok.kind,ok.glob,ok.blt,ok.above,ok.inj,ok.has,ok.cab,ok.hd,ok.frames,ok.stk,ok.exf,ok.bs,ok.bsz,ok.noex,ok.exfs,ok.funs,ok.frf⟩
def Cx.Ok.unwish{X:Cx}{E:Value->Shared->Prop}(ok:(X.wish E).Ok):X.Ok:=
 ⟨ok.mod,ok.kind,ok.glob,ok.blt,ok.above,ok.inj,ok.has,ok.cab,ok.hd,ok.frames,ok.stk,ok.exf,ok.bs,ok.bsz,ok.noex,ok.exfs,ok.funs,ok.frf⟩
section
variable{X:Cx}{pins:List (Addr×Obj)}{σ:St}{H:Hp}{s:Shared}{E:Value->Shared->Prop}
def ag.wish(I:ag X pins σ H s)(E:Value->Shared->Prop):ag (X.wish E) pins σ H s:=⟨I.ok.wish E,I.os,I.bare,I.base,I.loc,I.cell,I.free,I.freeC,I.pin,I.hok,I.len⟩
def ag.unwish(I:ag (X.wish E) pins σ H s):ag X pins σ H s:=⟨I.ok.unwish,I.os,I.bare,I.base,I.loc,I.cell,I.free,I.freeC,I.pin,I.hok,I.len⟩
def SP.unwish{D:lC}{f:Flow}{s':Shared}(h:SP (X.wish E) pins D f s'):SP X pins D f s':=by
 cases f with
 |next=>obtain⟨σ',H',I,q⟩:=h;exact⟨σ',H',I.unwish,q⟩
 |brk=>obtain⟨σ',H',I,q⟩:=h;exact⟨σ',H',I.unwish,q⟩
 |cont=>obtain⟨σ',H',I,q⟩:=h;exact⟨σ',H',I.unwish,q⟩
 |ret u=>obtain⟨v,σ',H',I,r,q⟩:=h;exact⟨v,σ',H',I.unwish,r,q⟩
def f_.nox{st:List Stmt}{t:TS}(h:f_ X.nox st t):f_ X st t:=λpins s σ H D I hw=>
 wpAny_mono (h pins s σ H D (I.wish _) hw) (λ_ _ q=>q.unwish) λ_ _ z=>False.elim z
end
section
variable{X:Cx}{st:Stmt}{rest:List Stmt}{t u:TS}{e:Expr}{te:TE}{pos:Pos}
def Fe:TS:=λD σ H=>D.nx σ H
def D_(t u:TS):TS:=λD σ H=>t {D with nx:=u D} σ H
def rE:f_ X [] Fe:=λ_ _ σ H _ I h=>wpAny_execs_nil ⟨σ,H,I,h⟩
def gE(h1:PS X st t)(h2:f_ X rest u):f_ X (st::rest) (D_ t u):=by
 intro pins s σ H D I h
 refine wpAny_execs_cons (bf (h1 pins s σ H {D with nx:=u D} I h) λf s1 q=>?_)
 cases f with
 |next=>
  obtain⟨σ',H',I',q⟩:=q
  exact h2 pins s1 σ' H' D I' q
 |ret v=>exact q
 |brk=>exact q
 |cont=>exact q
def kL(h1:PS X st t):f_ X [st] t:=by
 intro pins s σ H D I h
 refine wpAny_execs_cons (bf (h1 pins s σ H D I h) λf s1 q=>?_)
 cases f with
 |next=>exact wpAny_execs_nil q
 |ret v=>exact q
 |brk=>exact q
 |cont=>exact q
def ag.quiet{pins:List (Addr×Obj)}{σ:St}{H:Hp}{s:Shared}(I:ag X pins σ H s):interactive X.env=false:=by simp[interactive,I.ok.kind]
def Fd(te:TE):TS:=λD σ H=>te σ H λ_ H1=>D.nx σ H1
def Bp(he:PE X e te)(hs:swapsWith e none pos.line X.env=pure false:=by rfl):PS X (.Expr e pos) (Fd te):=by
 intro pins s σ H D I h
 exact wpAny_Expr_any (bf (he pins s σ H _ I h) λv s1 ⟨x,H1,I1,r1,q1⟩=>⟨σ,H1,I1,q1⟩) I.quiet hs
def D9(te:TE):TS:=λD σ H=>te σ H D.rt
def kO(he:PE X e te):PS X (.Return (some e) pos) (D9 te):=by
 intro pins s σ H D I h
 exact wpAny_Return_some (bf (he pins s σ H _ I h) λv s1 ⟨x,H1,I1,r1,q1⟩=>⟨x,σ,H1,I1,r1,q1⟩)
def D6(c:TT)(t u:TS):TS:=λD σ H=>c σ H λb H1=>if b=true then t D σ H1 else u D σ H1
def sI{c:Expr}{a b:List Stmt}{tc:TT}(hc:PT X c tc)(ha:f_ X a t)(hb:f_ X b u):PS X (.If c a b pos) (D6 tc t u):=by
 intro pins s σ H D I h
 refine wpAny_If (bf (hc pins s σ H _ I h) λd s1 ⟨H1,I1,q1⟩=>?_)
 cases d with
 |true=>exact ha pins s1 σ H1 D I1 q1
 |false=>exact hb pins s1 σ H1 D I1 q1
def HU:TS:=λ_ _ _=>False
def K_{sts:List Stmt}:f_ X sts HU:=λ_ _ _ _ _ _ h=>h.elim
end
abbrev TG:=V->St->Hp->(St->Hp->Prop)->Prop
abbrev p7:=List V->St->Hp->(St->Hp->Prop)->Prop
def PG(X:Cx)(target:Expr)(t:TG):Prop:=
 ∀(pins:List (Addr×Obj)) (s:Shared) (σ:St) (H:Hp) (v:V) (u:Value) (Q:St->Hp->Prop),ag X pins σ H s->ai v u->t v σ H Q ->
  wpAny (model X.prog X.w) X.A (assign target X.env u) (λ_ s'=>∃σ' H',ag X pins σ' H' s'/\Q σ' H') X.xe s
def n9(X:Cx)(ts:List Expr)(t:p7):Prop:=
 ∀(pins:List (Addr×Obj)) (s:Shared) (σ:St) (H:Hp) (vs:List V) (us:List Value) (Q:St->Hp->Prop),ag X pins σ H s->aj vs us->t vs σ H Q ->
  wpAny (model X.prog X.w) X.A (assignInOrder ((assignEach ts X.env).map (·.2)) us) (λ_ s'=>∃σ' H',ag X pins σ' H' s'/\Q σ' H') X.xe s
abbrev yS:=V->V->V->Hp->(Hp->Prop)->Prop
def yy(X:Cx)(t:yS):Prop:=
 ∀(pins:List (Addr×Obj)) (s:Shared) (σ:St) (H:Hp) (o i v:V) (ov iv u:Value) (Q:Hp->Prop),ag X pins σ H s->ai o ov->ai i iv->ai v u->t o i v H Q ->
  wpAny (model X.prog X.w) X.A (setItem ov iv u) (λ_ s'=>∃H',ag X pins σ H' s'/\Q H') X.xe s
section
variable{X:Cx}{pos:Pos}
def sK(i:Nat):TG:=λv σ H Q=>Q (σ.set i (some v)) H
def Jr{i:Nat}{x:Str}(hN:X.N.Nodup)(hi:X.N[i]?=some x)(hx:kh X.env.scope x)(hf:X.fn x=true\/X.env.scope.names.lookup x=some .local:=by first|exact .inl rfl|exact .inr rfl|assumption):PG X (.Name x pos) (sK i):=by
 intro pins s σ H v u Q I r h
 exact wpAny_assign_Name (qS I hN hi hx r (λs' I'=>⟨_,H,I',h⟩) hf)
def Ep:p7:=λvs σ H Q=>vs=[]/\Q σ H
def Fs(t:TG)(u:p7):p7:=λvs σ H Q=>∃v r,vs=v::r/\t v σ H λσ' H'=>u r σ' H' Q
def Il:n9 X [] Ep:=by
 intro pins s σ H vs us Q I r h
 obtain⟨e,h⟩:=h
 subst e
 cases r
 exact assignInOrder_nil ⟨σ,H,I,h⟩
def JP{e:Expr}{es:List Expr}{t:TG}{u:p7}(h1:PG X e t)(h2:n9 X es u)
  (hs:(assignEach (e::es) X.env).map (·.2)=assign e X.env::(assignEach es X.env).map (·.2):=by rfl):n9 X (e::es) (Fs t u):=by
 intro pins s σ H vs us Q I r h
 obtain⟨v,vr,e1,h⟩:=h
 subst e1
 cases r with
 |cons r rr=>
  rw[hs]
  refine assignInOrder_cons (bf (h1 pins s σ H _ _ _ I r h) λ_ s1 ⟨σ1,H1,I1,q1⟩=>?_)
  exact h2 pins s1 σ1 H1 _ _ Q I1 rr q1
def Es(K:W.Frag)(n:Nat)(t:p7):TG:=λv σ H Q=>∃a xs,v=.ref a/\cu K H a xs/\xs.length=n/\t xs σ H Q
def Gp{es:List Expr}{k:Nat}{t:p7}{n:Nat}(hc:X.calm=true)(h:n9 X es t)
  (hn:(assignEach es X.env).length=n:=by rfl) (hst:(assignEach es X.env).findIdx? (·.1)=none:=by rfl):PG X (.Tuple es k pos) (Es X.K n t):=by
 intro pins s σ H v u Q I r hw
 obtain⟨a,xs,e1,hq,hl,hw⟩:=hw
 subst e1
 cases r
 obtain⟨its,rv,ht,hz⟩:=I.tuple hq
 refine assign_Tuple_tuple (I.ok.hd hc) ht (by simp[hn,<-hl,rv.length]) hst λh' hx=>?_
 have I1:ag X pins σ H {s with heap:=h'}:=I.kept (t':=s.toks) λb o e=>hx b o (cq (bo e)) e
 exact h pins _ σ H xs _ Q I1 (by simpa using rv) hw
def Er(to ti:TE)(t:yS):TG:=λv σ H Q=>to σ H λo H1=>ti σ H1 λi H2=>t o i v H2 λH3=>Q σ H3
def Gn{o i:Expr}{to ti:TE}{t:yS}(ho:PE X o to)(hi:PE X i ti)(hs:yy X t)
  (ha:∀v,assign (.Subscript o i pos) X.env v=(do
   let ov <- holding [v] (eval o X.env)
   let iv <- holding [v,ov] (eval i X.env)
   standAt pos
   holding [v,ov,iv] (setItem ov iv v)
   release [v,ov,iv] []):=by intro _;rfl):PG X (.Subscript o i pos) (Er to ti t):=by
 intro pins s σ H v u Q I r h
 rw[ha]
 refine af (gb (bf (ho pins s σ H _ I h) λov s1 ⟨x,H1,I1,r1,q1⟩=>?_))
 refine af (gb (bf (hi pins s1 σ H1 _ I1 q1) λiv s2 ⟨y,H2,I2,r2,q2⟩=>?_))
 refine af (wpAny_standAt (af (gb (bf (hs pins s2 σ H2 x y v ov iv u _ I2 r1 r2 r q2) λ_ s3 ⟨H3,I3,q3⟩=>?_))))
 exact wpAny_release ⟨σ,H3,I3,q3⟩
def sO(te:TE)(g:TG):TS:=λD σ H=>te σ H λx H1=>g x σ H1 D.nx
def Gs{tg e:Expr}{te:TE}{g:TG}(he:PE X e te)(hg:PG X tg g)(hs:swapsWithSole [tg] e pos.line X.env=pure false:=by rfl)(hw:swappedStores [tg] e X.env=pure none:=by rfl)
  (h1:(assignEach [tg] X.env).map (·.2)=[assign tg X.env]:=by rfl):PS X (.Assign [tg] e pos) (sO te g):=by
 intro pins s σ H D I h
 refine wpAny_Assign_stores (bf (he pins s σ H _ I h) λv s1 ⟨x,H1,I1,r1,q1⟩=>?_) hs hw
 rw[h1]
 exact bf (hg pins s1 σ H1 x v _ I1 r1 q1) λ_ s2 q=>q
def jU{i:Nat}{x:Str}{e:Expr}{te:TE}{pos':Pos}(hN:X.N.Nodup)(hi:X.N[i]?=some x)(hx:kh X.env.scope x)(he:PE X e te)(hs:swapsWith e (some (.Name x pos')) pos.line X.env=pure false:=by rfl)(hf:X.fn x=true\/X.env.scope.names.lookup x=some .local:=by first|exact .inl rfl|exact .inr rfl|assumption):
  PS X (.Assign [.Name x pos'] e pos) (sO te (sK i)):=by
 intro pins s σ H D I h
 refine wpAny_Assign_Name (bf (he pins s σ H _ I h) λv s1 ⟨y,H1,I1,r1,q1⟩=>?_) hs
 exact qS I1 hN hi hx r1 (λs2 I2=>⟨_,H1,I2,q1⟩) hf
def D8(i j:Nat)(ta:TA):TS:=λD σ H=>ta σ H λvs H1=>∃v w,vs=[v,w]/\D.nx ((σ.set i (some v)).set j (some w)) H1
def Ia{i j:Nat}{x y:Str}{a b:Expr}{ta:TA}{px py pt:Pos}{kt k2 pt2}(hc:X.calm=true)(hN:X.N.Nodup)(hi:X.N[i]?=some x)(hj:X.N[j]?=some y)(hij:i≠j)
  (hx:X.env.scope.names.lookup x=some .local) (hy:X.env.scope.names.lookup y=some .local) (ha:PA X [a,b] ta)
  (hw:swappedStores [.Tuple [.Name x px,.Name y py] kt pt] (.Tuple [a,b] k2 pt2) X.env=pure (some [x,y]))
  (hs:swapsWithSole [.Tuple [.Name x px,.Name y py] kt pt] (.Tuple [a,b] k2 pt2) pos.line X.env=pure false:=by rfl):
  PS X (.Assign [.Tuple [.Name x px,.Name y py] kt pt] (.Tuple [a,b] k2 pt2) pos) (D8 i j ta):=by
 intro pins s σ H D I h
 rw[exec_Assign_arm]
 refine af (wpAny_standAt ?_)
 rw[hs]
 refine af (ah ?_)
 rw[if_neg (by decide)]
 refine af (Tuple_ (bf (ha _ pins s σ H _ I h) λus s1 ⟨vs,H1,I1,r1,q1⟩=>?_))
 obtain⟨v,w,e1,q1⟩:=q1
 subst e1
 obtain⟨u1,u2,rfl,rv,rw'⟩:∃u1 u2,us=[u1,u2]/\ai v u1/\ai w u2:=by
  cases r1 with
  |cons p q=>
   cases q with
   |cons p' q'=>
    cases q'
    exact⟨_,_,rfl,p,p'⟩
 refine jg ?_ (by show 2<=sizeLine;decide)
 have I2:ag X pins σ H1 {s1 with heap:=s1.heap.push {cls:=.type "tuple",data:=.seq [u1,u2].toArray}}:=I1.kept (t':=s1.toks) λb o e=>ay _ e
 rw[hw]
 refine af (ah ?_)
 show wpAny (model X.prog X.w) X.A (do rule "assign.swapped-stores";let items <- unpackItems (.ref s1.heap.objs.size) 2 none;assignInOrder [λv=>bindName X.env y v,λv=>bindName X.env x v] items.reverse;pure Flow.next) _ _ _
 refine af (wpAny_rule (af (unpackItems_tuple (items:=#[u1,u2]) (I.ok.hd hc) (IsTup.new s1.heap _) λh' hx'=>?_)))
 have I3:=I2.kept (h':=h') (t':=s1.toks) λb o e=>hx' b o (cq (bo e)) e
 show wpAny _ _ (assignInOrder [λv=>bindName X.env y v,λv=>bindName X.env x v] [u2,u1] >>= λ_=>pure Flow.next) _ _ _
 refine af (assignInOrder_cons (wpAny_bindName (qS I3 hN hj (.inl hy) rw' (λs2 I4=>?_) (.inr hy))))
 refine assignInOrder_cons (wpAny_bindName (qS I4 hN hi (.inl hx) rv (λs3 I5=>assignInOrder_nil (ah ?_)) (.inr hx)))
 rw[List.set_comm _ _ (Ne.symm hij)]at I5
 exact⟨_,H1,I5,q1⟩
end
section
variable{X:Cx}{pos:Pos}
def HV(c:TT)(tb:TS):TS:=λD σ H=>∃W:Nat->St->Hp->Prop,(∃m,W m σ H)/\∀m σ H,W m σ H ->
 c σ H λb H1=>if b=true then ∃N:St->Hp->Prop,(∀σ' H',N σ' H'->∃m',m'<m/\W m' σ' H')/\tb {D with nx:=N,ct:=N,bk:=D.nx} σ H1 else D.nx σ H1
def JT{c:Expr}{body:List Stmt}{tc:TT}{tb:TS}(hp:PassesOwn (model X.prog X.w) X.A X.env X.xe)(hc:PT X c tc)(hb:f_ X body tb):PS X (.While c body [] pos) (HV tc tb):=by
 intro pins s σ H D I h
 obtain⟨W,⟨m0,w0⟩,turn⟩:=h
 refine wpAny_While (codeAny_whileLoop (λn s'=>∃σ' H',ag X pins σ' H' s'/\W n σ' H') ?_ m0 ⟨σ,H,I,w0⟩)
 rintro n s1 ⟨σ1,H1,I1,w1⟩
 refine wpAny_passesOwn hp (bf (hc pins s1 σ1 H1 _ I1 (turn n σ1 H1 w1)) λb s2 ⟨H2,I2,q2⟩=>?_)
 cases b with
 |true=>
  obtain⟨N,hN,q2⟩:=q2
  rw[if_pos rfl]
  refine wpAny_passesOwn hp (bf (hb pins s2 σ1 H2 _ I2 q2) λf s3 q3=>?_)
  cases f with
  |next=>
   obtain⟨σ3,H3,I3,n3⟩:=q3
   obtain⟨m',hm,w3⟩:=hN σ3 H3 n3
   exact⟨m',hm,σ3,H3,I3,w3⟩
  |cont=>
   obtain⟨σ3,H3,I3,n3⟩:=q3
   obtain⟨m',hm,w3⟩:=hN σ3 H3 n3
   exact⟨m',hm,σ3,H3,I3,w3⟩
  |brk=>exact q3
  |ret v=>exact q3
 |false=>
  rw[if_neg cb]
  exact wpAny_execs_nil ⟨σ1,H2,I2,q2⟩
end
structure It where
 go:Nat->Hp->Prop
 yld:Nat->Hp->V->Hp->Prop
 stop:Nat->Hp->Prop
def fE(X:Cx)(pins:List (Addr×Obj))(H:Hp)(b:Addr):Prop:=
 H b=none/\b≠X.env.locals/\b∉X.fs/\(b∈X.ex\/X.s₀.heap.objs.size<=b)/\(∀x c,X.env.cells.lookup x=some c->c≠b)/\∀p∈X.pn++pins,p.1≠b
def ag.fpOk{X:Cx}{pins:List (Addr×Obj)}{σ:St}{H H':Hp}{s:Shared}{b:Addr}(I:ag X pins σ H s)(hb:s.heap.objs.size<=b)(hn:H' b=none):fE X pins H' b:=by
 refine⟨hn,gj (j5 I.lt hb),I.nofs hb,.inr (bx I.sz hb),λx c e z=>?_,λp hp z=>?_⟩
 ·obtain⟨v,q⟩:=I.cell x c e
  exact absurd (j5 q.lt (by rw[z];exact hb)) (fg _)
 ·exact absurd (j5 (bo (I.pin p hp).1) (by rw[z];exact hb)) (fg _)
structure jL (P:Program) (w:World) (K:W.Frag) (tg:Expr) (J:It) (fp:List Addr) (it:Addr) (tn:Nat->Heap->Prop):Prop where
 mem:it∈fp
 obj:∀i h,tn i h->∀b∈fp,∃o,h.get? b=some o/\∀v,o.data≠.cell v
 keep:∀i h h',tn i h->(∀b∈fp,∀o,h.get? b=some o->h'.get? b=some o)->tn i h'
 item:∀(X:Cx),X.prog=P->X.w=w->X.K=K->X.calm=true->∀(i:Nat) (pins:List (Addr×Obj)) (s:Shared) (σ:St) (H:Hp) (E:Value->Shared->Prop),ag X pins σ H s->(∀b∈fp,fE X pins H b)->tn i s.heap->J.go i H ->
  wpAny (model P w) X.A (pyNext (.ref it)) (λr s1=>∃u,r=some u /\
   wpAny (model P w) X.A (letOwnedTupleGo tg (.ref it) u) (λ_ s2=>∃x H',ag X pins σ H' s2/\ai x u/\J.yld i H x H'/\tn (i+1) s2.heap/\∀b∈fp,H' b=none) E s1) E s
 done:∀(X:Cx),X.prog=P->X.w=w->X.K=K->X.calm=true->∀(i:Nat) (pins:List (Addr×Obj)) (s:Shared) (σ:St) (H:Hp) (E:Value->Shared->Prop),ag X pins σ H s->(∀b∈fp,fE X pins H b)->tn i s.heap->J.stop i H ->
  wpAny (model P w) X.A (pyNext (.ref it)) (λr s1=>r=none/\ag X pins σ H s1) E s
 self:∀(A:Around) (i:Nat) (s:Shared) (Q:Value->Shared->Prop) (E:Value->Shared->Prop),tn i s.heap->Q (.ref it) s->wpAny (model P w) A (pyIter (.ref it)) Q E s
abbrev TI:=St->Hp->(It->Hp->Prop)->Prop
def w_(X:Cx)(pins:List (Addr×Obj))(σ:St)(tg:Expr)(R:It->Hp->Prop)(itv:Value)(s2:Shared):Prop:=
 ∃(it:Addr) (fp:List Addr) (tn:Nat->Heap->Prop) (J:It) (H':Hp),itv=.ref it/\ag X pins σ H' s2/\jL X.prog X.w X.K tg J fp it tn/\tn 0 s2.heap/\(∀b∈fp,fE X pins H' b)/\R J H'
def PI(X:Cx)(tg iter:Expr)(wi:TI):Prop:=
 ∀(pins:List (Addr×Obj)) (s:Shared) (σ:St) (H:Hp) (R:It->Hp->Prop),ag X pins σ H s->wi σ H R ->
  wpAny (model X.prog X.w) X.A (eval iter X.env) (λv s1=>wpAny (model X.prog X.w) X.A (pyIter v) (w_ X pins σ tg R) X.xe s1) X.xe s
def mO{M:Model}{A:Around}{E:Value->Shared->Prop}{s:Shared}{tg:Expr}{it:Addr}{u:Value}{o:Obj}{n:String}{vs:Array Value}{Q:Unit->Shared->Prop}(ho:s.heap.get? it=some o)(hc:o.cls=.type n)(hd:o.data=.fields vs)
    (hn:["enumerate","zip","dict_itemiterator","dict_reverseitemiterator","odict_iterator","itertools.zip_longest","itertools.pairwise"].contains n=false) (hQ:Q () s):wpAny M A (letOwnedTupleGo tg (.ref it) u) Q E s:=by
  unfold letOwnedTupleGo
  cases tg<;>first
    |exact ah hQ
    |(cases u<;>first
        |exact ah hQ
        | (refine af (wpAny_load ho ?_)
           rw[hc,hd]
           show wpAny M A (if (["enumerate","zip","dict_itemiterator","dict_reverseitemiterator","odict_iterator","itertools.zip_longest","itertools.pairwise"].contains n&&vs[0]? == some (rawInt _))=true then _ else _) Q E s
           rw[if_neg (by intro h;rw[hn,Bool.false_and]at h;cases h)]
           exact ah hQ))
def xw(K:W.Frag)(a:Addr):It:=
 ⟨λi H=>∃xs x,b5 K H a xs/\xs[i]?=some x,λi H x H'=>H'=H/\∀xs,b5 K H a xs->xs[i]?=some x,λi H=>∃xs,b5 K H a xs/\xs.length<=i⟩
def xu(K:W.Frag)(a:Addr):It:=
 ⟨λi H=>∃xs x,cu K H a xs/\xs[i]?=some x,λi H x H'=>H'=H/\∀xs,cu K H a xs->xs[i]?=some x,λi H=>∃xs,cu K H a xs/\xs.length<=i⟩
def xa(lo:Int)(n:Nat):It:=⟨λi _=>i<n,λi H x H'=>H'=H/\x=.int (lo+i),λi _=>n<=i⟩
def Mh{P:Program}{w:World}{K:W.Frag}{tg:Expr}(a it:Addr):jL P w K tg (xw K a) [it] it (λi h=>h.IsListIter it a i) where
 mem:=by simp
 obj:=λi h st b hb=>by
  have e:b=it:=by simpa using hb
  subst e
  obtain⟨o,e,c,d⟩:=st
  exact⟨o,e,λv z=>by rw[d]at z;cases z⟩
 keep:=λi h h' st k=>st.at λo e=>k it (by simp) o e
 item:=by
  intro X hP hw hK hc i pins s σ H E I hf st hg
  subst hP hw hK
  obtain⟨xs,x,hq,hx⟩:=hg
  obtain⟨its,rv,p,hz⟩:=I.list hq
  obtain⟨u,hu,ru⟩:=rv.get hx
  obtain⟨f0,f1,f2,f3,f4,f5⟩:=hf it (by simp)
  refine wpAny_pyNext_list_item st p.isList (x:=u) (by simpa using hu) λh' st' sb=>?_
  have I1:ag X pins σ H {s with heap:=h'}:=I.turned (t':=s.toks) (λb o hb e=>(sb.2 b hb).trans e) f0 f1 f3 f4 f5
  obtain⟨o,e,c,d⟩:=id st'
  exact⟨u,rfl,mO (s:={s with heap:=h'}) e c d (by decide) ⟨x,H,I1,ru,⟨rfl,λys hy=>by rw[I.list_inj hy hq];exact hx⟩,st',λb hb=>(hf b hb).1⟩⟩
 done:=by
  intro X hP hw hK hc i pins s σ H E I hf st hg
  subst hP hw hK
  obtain⟨xs,hq,hx⟩:=hg
  obtain⟨its,rv,p,hz⟩:=I.list hq
  obtain⟨f0,f1,f2,f3,f4,f5⟩:=hf it (by simp)
  have hl:=rv.length
  exact wpAny_pyNext_list_end (I.ok.hd hc) st p.isList (by simp;omega) λh' eb=>⟨rfl,I.turned (t':=s.toks) (λb o hb e=>eb b o hb e) f0 f1 f3 f4 f5⟩
 self:=λ_ _ _ _ _ st h=>wpAny_pyIter_listiter st h
def L0{P:Program}{w:World}{K:W.Frag}{tg:Expr}(a it:Addr):jL P w K tg (xu K a) [it] it (λi h=>h.IsTupleIter it a i) where
 mem:=by simp
 obj:=λi h st b hb=>by
  have e:b=it:=by simpa using hb
  subst e
  obtain⟨o,e,c,d⟩:=st
  exact⟨o,e,λv z=>by rw[d]at z;cases z⟩
 keep:=λi h h' st k=>st.at λo e=>k it (by simp) o e
 item:=by
  intro X hP hw hK hc i pins s σ H E I hf st hg
  subst hP hw hK
  obtain⟨xs,x,hq,hx⟩:=hg
  obtain⟨its,rv,p,hz⟩:=I.tuple hq
  obtain⟨u,hu,ru⟩:=rv.get hx
  obtain⟨f0,f1,f2,f3,f4,f5⟩:=hf it (by simp)
  refine wpAny_pyNext_tuple_item st (show s.heap.IsTuple a its.toArray from p) (x:=u) (by simpa using hu) λh' st' sb=>?_
  have I1:ag X pins σ H {s with heap:=h'}:=I.turned (t':=s.toks) (λb o hb e=>(sb.2 b hb).trans e) f0 f1 f3 f4 f5
  obtain⟨o,e,c,d⟩:=id st'
  exact⟨u,rfl,mO (s:={s with heap:=h'}) e c d (by decide) ⟨x,H,I1,ru,⟨rfl,λys hy=>by rw[I.tuple_inj hy hq];exact hx⟩,st',λb hb=>(hf b hb).1⟩⟩
 done:=by
  intro X hP hw hK hc i pins s σ H E I hf st hg
  subst hP hw hK
  obtain⟨xs,hq,hx⟩:=hg
  obtain⟨its,rv,p,hz⟩:=I.tuple hq
  obtain⟨f0,f1,f2,f3,f4,f5⟩:=hf it (by simp)
  have hl:=rv.length
  exact wpAny_pyNext_tuple_end (I.ok.hd hc) st (show s.heap.IsTuple a its.toArray from p) (by simp;omega) λh' eb=>⟨rfl,I.turned (t':=s.toks) (λb o hb e=>eb b o hb e) f0 f1 f3 f4 f5⟩
 self:=λ_ _ _ _ _ st h=>wpAny_pyIter_tupleiter st h
def LZ{P:Program}{w:World}{K:W.Frag}{tg:Expr}(it:Addr)(lo:Int)(n:Nat):jL P w K tg (xa lo n) [it] it (λi h=>IsRangeIter h it (lo+(i:Nat)*1) ((n:Int)-(i:Nat)) 1) where
 mem:=by simp
 obj:=λi h st b hb=>by
  have e:b=it:=by simpa using hb
  subst e
  exact⟨_,st,λv z=>by
   have z':Data.fields _=Data.cell v:=z
   cases z'⟩
 keep:=λi h h' st k=>k it (by simp) _ st
 item:=by
  intro X hP hw hK hc i pins s σ H E I hf st hg
  subst hP hw hK
  obtain⟨f0,f1,f2,f3,f4,f5⟩:=hf it (by simp)
  have W:=Walks.range (prog:=X.prog) (w:=X.w) (I.ok.hd hc) it lo 1 n
  refine W.item i s _ _ hg st λv h' tk hv st' kk=>?_
  obtain⟨t,rfl⟩:=hv
  have I1:ag X pins σ H {s with heap:=h',toks:=tk}:=I.turned (λb o hb e=>kk b o (by simpa using hb) e) f0 f1 f3 f4 f5
  refine⟨_,rfl,mO (s:={s with heap:=h',toks:=tk}) (n:="range_iterator") st' rfl rfl (by decide) ⟨.int (lo+i),H,I1,⟨t,?_⟩,⟨rfl,rfl⟩,st',λb hb=>(hf b hb).1⟩⟩
  rw[Int.mul_one]
 done:=by
  intro X hP hw hK hc i pins s σ H E I hf st hg
  subst hP hw hK
  obtain⟨f0,f1,f2,f3,f4,f5⟩:=hf it (by simp)
  exact wpAny_pyNext_range_end (I.ok.hd hc) st (by have:n<=i:=hg;omega) λh' eb=>⟨rfl,I.turned (t':=s.toks) (λb o hb e=>eb b o hb e) f0 f1 f3 f4 f5⟩
 self:=λ_ _ _ _ _ st h=>wpAny_pyIter_rangeiter st h
section
variable{X:Cx}{tg:Expr}
def J3{pins:List (Addr×Obj)}{σ:St}{H:Hp}{s:Shared}{R:It->Hp->Prop}{E:Value->Shared->Prop}{lo hi:Int}{t u v:Tok}{tk:Nat}(I:ag X pins σ H s)(h1:-(2 ^ 62)<=lo)(h2:lo<2 ^ 62)(h3:-(2 ^ 62)<=hi)(h4:hi<2 ^ 62)
  (q:R (xa lo (hi-lo).toNat) H):wpAny (model X.prog X.w) X.A (pyIter (.ref s.heap.objs.size)) (w_ X pins σ tg R) E {s with heap:=s.heap.push {cls:=.type "range",data:=.fields #[.int lo t,.int hi u,.int 1 v]},toks:=tk}:=by
 refine wpAny_pyIter_range (IsRange.new ..) (small_one h1 h2 h3 h4) ?_
 have I1:ag X pins σ H {s with heap:=s.heap.push {cls:=.type "range",data:=.fields #[.int lo t,.int hi u,.int 1 v]},toks:=tk}:=I.kept λb o e=>ay _ e
 refine⟨(s.heap.push {cls:=.type "range",data:=.fields #[.int lo t,.int hi u,.int 1 v]}).objs.size,[(s.heap.push {cls:=.type "range",data:=.fields #[.int lo t,.int hi u,.int 1 v]}).objs.size],_,_,H,rfl,
  I1.kept (t':=tk) λb o e=>ay _ e,LZ _ lo (hi-lo).toNat,?_,λb hb=>?_,q⟩
 ·have e1:lo+((0:Nat):Int)*1=lo:=by simp
  have e2:(((hi-lo).toNat:Nat):Int)-((0:Nat):Int)=Builtin.Range.rangeSize lo hi 1:=by rw[rangeSize_one];split<;>omega
  show IsRangeIter _ _ (lo+((0:Nat):Int)*1) ((((hi-lo).toNat:Nat):Int)-((0:Nat):Int)) 1
  rw[e1,e2]
  exact b6 _ rfl
 ·have e:b=(s.heap.push {cls:=.type "range",data:=.fields #[.int lo t,.int hi u,.int 1 v]}).objs.size:=by simpa using hb
  subst e
  exact I1.fpOk (ba _) (I1.hok.fresh (ba _))
def Fu(ta:TA):TI:=λσ H R=>ta σ H λvs H1=>∃j:Int,vs=[.int j] /\ -(2 ^ 62)<=j/\j<2 ^ 62/\R (xa 0 j.toNat) H1
def K7{a:Expr}{ta:TA}{p pos:Pos}(hg:Gl X "range")(hm:X.mg "range"=none)(ha:PA X [a] ta)(hs:starEach [a] X.env=[(false,eval a X.env)]:=by rfl):PI X tg (.Call (.Name "range" p) [a] [] pos) (Fu ta):=by
 intro pins s σ H R I h
 refine Call_ (oO I hg hm boot_range (PyProof.Rows.callWith_type1 (bf (ha pos pins s σ H _ I h) λus s1 ⟨vs,H1,I1,r1,q1⟩=>?_) hs rfl))
 obtain⟨j,e,q1,q2,q⟩:=q1
 subst e
 cases r1 with
 |cons r rr=>
  cases rr
  obtain⟨t,rfl⟩:=r
  exact call_range_1 (J3 I1 (by omega) (by omega) q1 q2 (by simpa using q))
def D5(wi:TI)(g:TG)(tb:TS):TS:=λD σ H=>wi σ H λJ H1=>∃W:Nat->Nat->St->Hp->Prop,(∃m,W 0 m σ H1)/\∀i m σ H,W i m σ H ->
 (J.stop i H/\D.nx σ H)\/(J.go i H/\∃N:St->Hp->Prop,(∀σ' H',N σ' H'->∃m',m'<m/\W (i+1) m' σ' H')/\∀x H',J.yld i H x H'->g x σ H' λσ2 H2=>tb {D with nx:=N,ct:=N,bk:=D.nx} σ2 H2)
def oN(fp:List Addr)(h:Heap):List (Addr×Obj):=fp.filterMap λb=>(h.get? b).map λo=>(b,o)
def qC{fp:List Addr}{h:Heap}{b:Addr}{o:Obj}(hb:b∈fp)(e:h.get? b=some o):(b,o)∈oN fp h:=qc1_.mpr ⟨b,hb,by rw[e];rfl⟩
def K3{fp:List Addr}{h:Heap}{p:Addr×Obj}(hp:p∈oN fp h):p.1∈fp/\h.get? p.1=some p.2:=by
 obtain⟨b,hb,e⟩:=qc1_.mp hp
 cases q:h.get? b with
 |none=>rw[q]at e;cases e
 |some o=>
  rw[q]at e
  have e':(b,o)=p:=Option.some.inj e
  subst e'
  exact⟨hb,q⟩
def ag.pinned{pins:List (Addr×Obj)}{σ:St}{H:Hp}{s:Shared}{fp:List Addr}(I:ag X pins σ H s)(hf:∀b∈fp,fE X pins H b)(ho:∀b∈fp,∃o,s.heap.get? b=some o/\∀v,o.data≠.cell v):ag X (pins++oN fp s.heap) σ H s:=
 I.pins_of λp hp=>(qp_.mp hp).elim (λz=>I.pin p (d8 _ z)) λz=>by
  obtain⟨hb,e⟩:=K3 z
  obtain⟨f0,f1,f2,_⟩:=hf p.1 hb
  obtain⟨o,e',d⟩:=ho p.1 hb
  rw[e]at e';cases e'
  exact⟨e,f0,f1,f2,d⟩
def ag.unpinned{pins pl:List (Addr×Obj)}{σ:St}{H:Hp}{s:Shared}(I:ag X (pins++pl) σ H s):ag X pins σ H s:=I.pins_of λp hp=>I.pin p (d8 _ (g6 _ hp))
def H_{iter:Expr}{body:List Stmt}{wi:TI}{g:TG}{tb:TS}{pos:Pos}(hp:PassesOwn (model X.prog X.w) X.A X.env X.xe)(hc:X.calm=true)(hi:PI X tg iter wi)(hg:PG X tg g)(hb:f_ X body tb)
  (hs:∀x,foldedSetIterable iter X.env x=pure x:=by intro _;rfl):PS X (.For tg iter body [] pos) (D5 wi g tb):=by
 intro pins s σ H D I h
 refine wpAny_For (bf (hi pins s σ H _ I h) λv s1 h1=>bf h1 λitv s2 h2=>?_) hs
 obtain⟨it,fp,tn,J,H2,e,I2,T,st2,f2,W,⟨m0,w0⟩,turn⟩:=h2
 subst e
 -- what stays true of the iterator's objects through the loop
 have stat:∀{H':Hp},(∀b∈fp,H' b=none)->∀b∈fp,fE X pins H' b:=λhn b hb=>⟨hn b hb,(f2 b hb).2⟩
 refine codeAny_forLoop_any (λn s'=>∃i σ' H',ag X pins σ' H' s'/\tn i s'.heap/\(∀b∈fp,H' b=none)/\W i n σ' H') ?_ m0 ⟨0,σ,H2,I2,st2,λb hb=>(f2 b hb).1,w0⟩
 rintro n s3 ⟨i,σ3,H3,I3,st3,fr3,w3⟩
 rcases turn i n σ3 H3 w3 with⟨stop,qn⟩|⟨go,N,hN,step⟩
 ·refine wpAny_passesOwn hp (bf (T.done X rfl rfl rfl hc i pins s3 σ3 H3 X.xe I3 (stat fr3) st3 stop) λr s4 ⟨hr,I4⟩=>?_)
  subst hr
  exact wpAny_execs_nil ⟨σ3,H3,I4,qn⟩
 ·refine wpAny_passesOwn hp (bf (T.item X rfl rfl rfl hc i pins s3 σ3 H3 X.xe I3 (stat fr3) st3 go) λr s4 ⟨u,hr,h4⟩=>?_)
  subst hr
  refine wpAny_passesOwn hp (bf h4 λ_ s5 ⟨x,H5,I5,r5,y5,st5,fr5⟩=>?_)
  have I5':=I5.pinned (stat fr5) (T.obj _ _ st5)
  refine wpAny_passesOwn hp (bf (hg _ s5 σ3 H5 x u _ I5' r5 (step x H5 y5)) λ_ s6 ⟨σ6,H6,I6,q6⟩=>?_)
  refine wpAny_passesOwn hp (bf (hb _ s6 σ6 H6 _ I6 q6) λf s7 q7=>?_)
  have again:∀{σ7:St} {H7:Hp},ag X (pins++oN fp s5.heap) σ7 H7 s7->N σ7 H7->∃m,m<n/\∃i σ' H',ag X pins σ' H' s7/\tn i s7.heap/\(∀b∈fp,H' b=none)/\W i m σ' H':=λ{σ7 H7} I7 n7=>by
   obtain⟨m',hm,w7⟩:=hN σ7 H7 n7
   refine⟨m',hm,i+1,σ7,H7,I7.unpinned,T.keep _ _ _ st5 λb hb o e=>(I7.pin (b,o) (d8 _ (d8 _ (qC hb e)))).1,λb hb=>?_,w7⟩
   obtain⟨o,e,d⟩:=T.obj _ _ st5 b hb
   exact(I7.pin (b,o) (d8 _ (d8 _ (qC hb e)))).2.1
  cases f with
  |next=>obtain⟨σ7,H7,I7,n7⟩:=q7;exact again I7 n7
  |cont=>obtain⟨σ7,H7,I7,n7⟩:=q7;exact again I7 n7
  |brk=>obtain⟨σ7,H7,I7,q7⟩:=q7;exact⟨σ7,H7,I7.unpinned,q7⟩
  |ret v=>obtain⟨x7,σ7,H7,I7,r7,q7⟩:=q7;exact⟨x7,σ7,H7,I7.unpinned,r7,q7⟩
end
abbrev R2:=V->V->Hp->VK->Prop
def cg(X:Cx)(f:Value->Value->Sem Value)(r:R2):Prop:=
 ∀(pins:List (Addr×Obj)) (s:Shared) (σ:St) (H:Hp) (x y:V) (v u:Value) (Q:VK),ag X pins σ H s->ai x v->ai y u->r x y H Q ->
  wpAny (model X.prog X.w) X.A (f v u) (EP X pins σ Q) X.xe s
def w6(X:Cx)(f:Value->Sem Value)(r:V->Hp->VK->Prop):Prop:=
 ∀(pins:List (Addr×Obj)) (s:Shared) (σ:St) (H:Hp) (x:V) (v:Value) (Q:VK),ag X pins σ H s->ai x v->r x H Q ->
  wpAny (model X.prog X.w) X.A (f v) (EP X pins σ Q) X.xe s
def aq(X:Cx)(f:Value)(r:List V->Hp->VK->Prop):Prop:=
 ∀(pins:List (Addr×Obj)) (s:Shared) (σ:St) (H:Hp) (xs:List V) (us:List Value) (Q:VK),ag X pins σ H s->aj xs us->r xs H Q ->
  wpAny (model X.prog X.w) X.A (call f us) (EP X pins σ Q) X.xe s
def sa(r:R2)(ta tb:TE):TE:=λσ H Q=>ta σ H λx H1=>tb σ H1 λy H2=>r x y H2 Q
def Np(r:V->Hp->VK->Prop)(ta:TE):TE:=λσ H Q=>ta σ H λx H1=>r x H1 Q
def rI(C:Int->Int->Prop)(g:Int->Int->V):R2:=λx y H Q=>∃i j,x=.int i/\y=.int j/\C i j/\Q (g i j) H
def qe(g:Int->Int->V):R2:=λx y H Q=>∃i j,x=.int i/\y=.int j/\Q (g i j) H
def rU(g:Int->V):V->Hp->VK->Prop:=λx H Q=>∃i,x=.int i/\Q (g i) H
section
variable{X:Cx}{a b c:Expr}{ta tb tc:TE}{pos:Pos}
def yR(ha:PE X a ta)(hb:PE X b tb){pins:List (Addr×Obj)}{s:Shared}{σ:St}{H:Hp}{R:V->V->Hp->Prop}(I:ag X pins σ H s)
  (h:ta σ H λx H1=>tb σ H1 λy H2=>R x y H2) {Q:Value->Shared->Prop} {f:Value->Value->Sem Value}
  (hf:∀v u s2 x y H2,ag X pins σ H2 s2->ai x v->ai y u->R x y H2->wpAny (model X.prog X.w) X.A (f v u) Q X.xe s2):
  wpAny (model X.prog X.w) X.A (eval a X.env) (λv s₁=>wpAny (model X.prog X.w) X.A (eval b X.env) (λu s₂=>wpAny (model X.prog X.w) X.A (f v u) Q X.xe s₂) X.xe s₁) X.xe s:=by
 refine bf (ha pins s σ H _ I h) λv s1 ⟨x,H1,I1,r1,q1⟩=>?_
 refine bf (hb pins s1 σ H1 _ I1 q1) λu s2 ⟨y,H2,I2,r2,q2⟩=>?_
 exact hf v u s2 x y H2 I2 r1 r2 q2
def cO{op:Operator}{r:R2}(ho:cg X (binaryOp op) r)(ha:PE X a ta)(hb:PE X b tb):PE X (.BinOp a op b pos) (sa r ta tb):=by
 intro pins s σ H Q I h
 exact wpAny_BinOp (yR ha hb I h λv u s2 x y H2 I2 rx ry q=>ho pins s2 σ H2 x y v u Q I2 rx ry q)
def xL{op:UnaryOp}{r:V->Hp->VK->Prop}(ho:w6 X (unaryOp op) r)(ha:PE X a ta):PE X (.UnaryOp op a pos) (Np r ta):=by
 intro pins s σ H Q I h
 exact UnaryOp_ (bf (ha pins s σ H _ I h) λv s1 ⟨x,H1,I1,r1,q1⟩=>ho pins s1 σ H1 x v Q I1 r1 q1)
def q_{f:Value->Value->Sem Value}{C:Int->Int->Prop}{g:Int->Int->Int}
  (rule:∀(i j:Int) (t u:Tok) (s:Shared) (Q:Value->Shared->Prop) (E:Value->Shared->Prop),C i j->Q (.int (g i j) s.toks) {s with toks:=s.toks+1}->wpAny (model X.prog X.w) X.A (f (.int i t) (.int j u)) Q E s):
  cg X f (rI C λi j=>.int (g i j)):=by
 intro pins s σ H x y v u Q I rx ry h
 obtain⟨i,j,rfl,rfl,hc,q⟩:=h
 obtain⟨t,rfl⟩:=rx
 obtain⟨t',rfl⟩:=ry
 exact rule i j t t' s _ _ hc ⟨.int (g i j),H,I.tok _,⟨_,rfl⟩,q⟩
def zh{f:Value->Value->Sem Value}{g:Int->Int->Int}
  (rule:∀(i j:Int) (t u:Tok) (s:Shared) (Q:Value->Shared->Prop) (E:Value->Shared->Prop),Q (.int (g i j) s.toks) {s with toks:=s.toks+1}->wpAny (model X.prog X.w) X.A (f (.int i t) (.int j u)) Q E s):
  cg X f (qe λi j=>.int (g i j)):=by
 intro pins s σ H x y v u Q I rx ry h
 obtain⟨i,j,rfl,rfl,q⟩:=h
 obtain⟨t,rfl⟩:=rx
 obtain⟨t',rfl⟩:=ry
 exact rule i j t t' s _ _ ⟨.int (g i j),H,I.tok _,⟨_,rfl⟩,q⟩
def yO{f:Value->Value->Sem Value}{g:Int->Int->Bool}
  (rule:∀(i j:Int) (t u:Tok) (s:Shared) (Q:Value->Shared->Prop) (E:Value->Shared->Prop),Q (.bool (g i j)) s->wpAny (model X.prog X.w) X.A (f (.int i t) (.int j u)) Q E s):
  cg X f (qe λi j=>.bl (g i j)):=by
 intro pins s σ H x y v u Q I rx ry h
 obtain⟨i,j,rfl,rfl,q⟩:=h
 obtain⟨t,rfl⟩:=rx
 obtain⟨t',rfl⟩:=ry
 exact rule i j t t' s _ _ ⟨.bl (g i j),H,I,rfl,q⟩
def Dq(i j:Int):Prop:=0<j/\j<1073741824
def yw(i j:Int):Prop:=0<=j/\j<=1000000/\i.natAbs<2 ^ 64
def p_(i j:Int):Prop:=(-(2 ^ 64)<i/\i<2 ^ 64)\/(-(2 ^ 64)<j/\j<2 ^ 64)
def p_.ok{i j:Int}(h:p_ i j):IntMulOk i j:=by
 rcases h with⟨h1,h2⟩|⟨h1,h2⟩
 ·exact .of_left (intBits_le_64 h1 h2)
 ·exact .of_right (intBits_le_64 h1 h2)
def op_add:cg X (binaryOp .Add) (qe λi j=>.int (i+j)):=zh λ_ _ _ _ _ _ _ q=>add_int q
def Ga:cg X (binaryOp .Sub) (qe λi j=>.int (i-j)):=zh λ_ _ _ _ _ _ _ q=>sub_int q
def op_mul:cg X (binaryOp .Mult) (rI p_ λi j=>.int (i*j)):=q_ λ_ _ _ _ _ _ _ hc q=>mul_int q hc.ok
def BU:cg X (binaryOp .FloorDiv) (rI Dq λi j=>.int (i / j)):=q_ λi j _ _ _ _ _ hc q=>by
 have h1:(0:Int)<j:=hc.1
 have h2:j<1073741824:=hc.2
 exact floordiv_int (by omega) (by rw[t5 i (by omega)];exact q) (.inl (PyProof.noPylong_small (by omega)))
def jA:cg X (binaryOp .Mod) (rI (λ_ j=>0<j) λi j=>.int (i % j)):=q_ λi j _ _ _ _ _ hc q=>by
 have h1:(0:Int)<j:=hc
 exact mod_int' (by omega) (by rw[Int.fmod_eq_emod_of_nonneg i (by omega)];exact q)
def Je:cg X (binaryOp .Mod) (rI (λ_ j=>j≠0) λi j=>.int (i.fmod j)):=q_ λ_ _ _ _ _ _ _ hc q=>mod_int' hc q
def Ay:cg X (binaryOp .Pow) (rI yw λi j=>.int (i ^ j.toNat)):=q_ λ_ _ _ _ _ _ _ hc q=>pow_int_small hc.1 hc.2.1 hc.2.2 q
def Nf{f:Value->Sem Value}{g:Int->Int}
  (rule:∀(i:Int) (t:Tok) (s:Shared) (Q:Value->Shared->Prop) (E:Value->Shared->Prop),Q (.int (g i) s.toks) {s with toks:=s.toks+1}->wpAny (model X.prog X.w) X.A (f (.int i t)) Q E s):
  w6 X f (rU λi=>.int (g i)):=by
 intro pins s σ H x v Q I rx h
 obtain⟨i,rfl,q⟩:=h
 obtain⟨t,rfl⟩:=rx
 exact rule i t s _ _ ⟨.int (g i),H,I.tok _,⟨_,rfl⟩,q⟩
def wV:w6 X (unaryOp .USub) (rU λi=>.int (-i)):=Nf λ_ _ _ _ _ q=>neg_int q
end
section
variable{X:Cx}{a b c:Expr}{ta tb tc:TE}{pos:Pos}
def rZ{pins:List (Addr×Obj)}{σ:St}{H:Hp}{s:Shared}{Q:VK}{k k':Bool}(I:ag X pins σ H s)(q:Q (.bl k) H)(e:k=k'):EP X pins σ Q (.bool k') s:=by
 subst e
 exact⟨.bl k,H,I,rfl,q⟩
def op_lt:cg X (compareOp .Lt) (qe λi j=>.bl (decide (i<j))):=yO λ_ _ _ _ _ _ _ q=>lt_int q
def FE:cg X (compareOp .LtE) (qe λi j=>.bl (decide (i<=j))):=yO λ_ _ _ _ _ _ _ q=>le_int q
def FD:cg X (compareOp .Gt) (qe λi j=>.bl (decide (j<i))):=yO λ_ _ _ _ _ _ _ q=>gt_int q
def K5:cg X (compareOp .Lt) (λx y H Q=>∃i j,x=.str i/\y=.str j/\Q (.bl (decide (i.cps.toList<j.cps.toList))) H):=by
 intro pins s σ H x y v u Q I rx ry h
 obtain⟨i,j,rfl,rfl,q⟩:=h
 obtain⟨t,rfl⟩:=rx
 obtain⟨t',rfl⟩:=ry
 exact lt_str (rZ I q rfl)
def op_in_str:cg X (compareOp .In) (λx y H Q=>∃i j,x=.str i/\y=.str j/\Q (.bl (!(Builtin.Str.occurrences j i 0 j.length 1).isEmpty)) H):=by
 intro pins s σ H x y v u Q I rx ry h
 obtain⟨i,j,rfl,rfl,q⟩:=h
 obtain⟨t,rfl⟩:=rx
 obtain⟨t',rfl⟩:=ry
 exact in_str (rZ I q rfl)
def op_isN:cg X (compareOp .Is) (λx y H Q=>y=.non/\Q (.bl (decide (x=.non))) H):=by
 intro pins s σ H x y v u Q I rx ry h
 obtain⟨rfl,q⟩:=h
 cases ry
 refine is_none_gen (rZ I q ?_)
 cases x<;>first
  |(cases rx;rfl)
  |(obtain⟨t,rfl⟩:=rx;rfl)
def op_notN:cg X (compareOp .IsNot) (λx y H Q=>y=.non/\Q (.bl (!decide (x=.non))) H):=by
 intro pins s σ H x y v u Q I rx ry h
 obtain⟨rfl,q⟩:=h
 cases ry
 refine isnot_none_gen (rZ I q ?_)
 cases x<;>first
  |(cases rx;rfl)
  |(obtain⟨t,rfl⟩:=rx;rfl)
def cg.or{f:Value->Value->Sem Value}{r r':R2}(h:cg X f r)(h':cg X f r'):cg X f (λx y H Q=>r x y H Q\/r' x y H Q):=by
 intro pins s σ H x y v u Q I rx ry q
 rcases q with q|q
 ·exact h pins s σ H x y v u Q I rx ry q
 ·exact h' pins s σ H x y v u Q I rx ry q
def mE(b:Expr){op:CmpOp}(h:op≠.In:=by decide)(h2:op≠.NotIn:=by decide):behindInMarks op b=false:=by
 have e1:(op==CmpOp.In)=false:=by cases op<;>first|rfl|exact absurd rfl h
 have e2:(op==CmpOp.NotIn)=false:=by cases op<;>first|rfl|exact absurd rfl h2
 cases b<;>simp[behindInMarks,e1,e2]
def Jm{op:CmpOp}{r:R2}(ho:cg X (compareOp op) r)(ha:PE X a ta)(hb:PE X b tb)(hm:behindInMarks op b=false):PE X (.Compare a [op] [b] pos) (sa r ta tb):=by
 intro pins s σ H Q I h
 exact wpAny_Compare1 (yR ha hb I h λv u s2 x y H2 I2 rx ry q=>ho pins s2 σ H2 x y v u Q I2 rx ry q) hm
def AS(t:TE):TT:=λσ H Q=>t σ H λx H'=>∃k,x=.bl k/\Q k H'
def wC{op:CmpOp}{r:R2}(ho:cg X (compareOp op) r)(ha:PE X a ta)(hb:PE X b tb)(hm:behindInMarks op b=false):PT X (.Compare a [op] [b] pos) (AS (sa r ta tb)):=by
 intro pins s σ H Q I h
 refine wpAny_isTrue_Compare1 (bf (ha pins s σ H _ I h) λv s1 ⟨x,H1,I1,r1,q1⟩=>bf (hb pins s1 σ H1 _ I1 q1) λu s2 ⟨y,H2,I2,r2,q2⟩=>
  bf (ho pins s2 σ H2 x y v u _ I2 r1 r2 q2) λc s3 ⟨z,H3,I3,r3,k,e,q3⟩=>?_) hm
 subst e
 cases r3
 exact wpAny_truthy_bool ⟨H3,I3,q3⟩
def mF:(sizeLine:Nat)<2 ^ 63:=by rw[sizeLine_eq];decide
def op_add_str:cg X (binaryOp .Add) (λx y H Q=>∃i j,x=.str i/\y=.str j/\i.length+j.length<=sizeLine/\Q (.str (i++j)) H):=by
 intro pins s σ H x y v u Q I rx ry h
 obtain⟨i,j,rfl,rfl,hz,q⟩:=h
 obtain⟨t,rfl⟩:=rx
 obtain⟨t',rfl⟩:=ry
 exact add_str (λt' tk=>⟨.str (i++j),H,I.tok _,⟨_,rfl⟩,q⟩) hz
def cR{x:V}{us:List Value}(r:aj [x] us):∃u,us=[u]/\ai x u:=by
 cases r with
 |cons r1 r2=>cases r2;exact⟨_,rfl,r1⟩
def jB{x y:V}{us:List Value}(r:aj [x,y] us):∃u w',us=[u,w']/\ai x u/\ai y w':=by
 cases r with
 |cons r1 r2=>
  cases r2 with
  |cons r3 r4=>cases r4;exact⟨_,_,rfl,r1,r3⟩
def J_:aq X (.builtin "abs") (λxs H Q=>∃i,xs=[.int i]/\Q (.int (if i<0 then -i else i)) H):=by
 intro pins s σ H xs us Q I r h
 obtain⟨i,rfl,q⟩:=h
 obtain⟨u,rfl,t,rfl⟩:=cR r
 exact call_abs_int λu tk=>⟨.int (if i<0 then -i else i),H,I.tok _,⟨_,rfl⟩,q⟩
def Lq(hc:X.calm=true):aq X (.builtin "max") (λxs H Q=>∃i j,xs=[.int i,.int j]/\Q (.int (if j > i then j else i)) H):=by
 intro pins s σ H xs us Q I r h
 obtain⟨i,j,rfl,q⟩:=h
 obtain⟨u,w',rfl,⟨t,rfl⟩,⟨t',rfl⟩⟩:=jB r
 refine max_two_ints (I.ok.hd hc) λh' tk k=>⟨_,H,I.kept k,?_,q⟩
 by_cases hj:j > i
 ·rw[if_pos hj,if_pos hj];exact⟨_,rfl⟩
 ·rw[if_neg hj,if_neg hj];exact⟨_,rfl⟩
def Ls(hc:X.calm=true):aq X (.builtin "min") (λxs H Q=>∃i j,xs=[.int i,.int j]/\Q (.int (if j<i then j else i)) H):=by
 intro pins s σ H xs us Q I r h
 obtain⟨i,j,rfl,q⟩:=h
 obtain⟨u,w',rfl,⟨t,rfl⟩,⟨t',rfl⟩⟩:=jB r
 refine min_two_ints (I.ok.hd hc) λh' tk k=>⟨_,H,I.kept k,?_,q⟩
 by_cases hj:j<i
 ·rw[if_pos hj,if_pos hj];exact⟨_,rfl⟩
 ·rw[if_neg hj,if_neg hj];exact⟨_,rfl⟩
end
def f9.some_of{v:V}{o:Option Value}(r:f9 (some v) o):∃u,o=some u/\ai v u:=by
 cases o with
 |none=>exact(show False from r).elim
 |some u=>exact⟨u,rfl,r⟩
structure bt (k:Nat) (A:Around):Prop where
 hd:A.handled=none
 dp:A.depth+3*k+5<recursionLimit
 un:A.units+16*k+200<cLine
 gd:A.guards=some []
def bt.mono{j k:Nat}{A:Around}(r:bt k A)(h:j<=k):bt j A:=⟨r.hd,by have:=r.dp;omega,by have:=r.un;omega,r.gd⟩
def bt.deeper{k:Nat}{A:Around}(r:bt (k+1) A)(env:Env):bt k (A.deeper env):=
 ⟨r.hd,by have:=r.dp;show A.depth+1+3*k+5<_;omega,by have:=r.un;show A.units+3+16*k+200<_;omega,r.gd⟩
def bt.depth{k:Nat}{A:Around}(r:bt k A):A.depth<recursionLimit:=by have:=r.dp;omega
def bt.units{k:Nat}{A:Around}(r:bt k A):A.units+64<cLine:=by have:=r.un;omega
def sM:TA:=λ_ H Q=>Q [] H
def xF(ta:TE)(tr:TA):TA:=λσ H Q=>ta σ H λx H1=>tr σ H1 λxs H2=>Q (x::xs) H2
section
variable{X:Cx}{e:Expr}{es:List Expr}{te:TE}{t:TA}{pos:Pos}
def dD:PA X [] sM:=λ_ _ _ _ H Q I h=>Calls.spliced_nil ⟨[],H,I,.nil,h⟩
def Jk(ha:PE X e te)(hr:PA X es t)(hs:starEach (e::es) X.env=(false,eval e X.env)::starEach es X.env:=by rfl):PA X (e::es) (xF te t):=by
 intro pos pins s σ H Q I h
 rw[hs]
 show wpAny _ _ (spliced ((false,eval e X.env)::backTo pos (starEach es X.env))) _ _ s
 refine Calls.spliced_cons (bf (ha pins s σ H _ I h) λu s1 ⟨x,H1,I1,r1,q1⟩=>?_)
 exact bf (hr pos pins s1 σ H1 _ I1 q1) λus s2 ⟨xs,H2,I2,r2,q2⟩=>⟨x::xs,H2,I2,.cons r1 r2,q2⟩
def Ea(t:TA):TE:=λσ H Q=>t σ H λxs H1=>xs.length<=sizeLine/\∀p,H1 p=none->Q (.ref p) (ar H1 p (.tup xs))
def yg(t:TA):TE:=λσ H Q=>t σ H λxs H1=>xs.length<=sizeLine/\∀p,H1 p=none->Q (.ref p) (ar H1 p (.lst xs))
def Gi{x1}(h:PA X es t):PE X (.Tuple es x1 pos) (Ea t):=by
 intro pins s σ H Q I hq
 refine wpAny_Tuple_spliced (bf (h pos pins s σ H _ I hq) λus s1 ⟨xs,H1,I1,r,z,q⟩=>⟨by rw[<-r.length];exact z,?_⟩)
 have hf:H1 s1.heap.objs.size=none:=I1.hok.fresh (ba _)
 refine⟨.ref s1.heap.objs.size,ar H1 s1.heap.objs.size (.tup xs),I1.laid (t':=s1.toks) (λb u e=>ay _ e) (ba _) ?_,rfl,q _ hf⟩
 exact⟨z,us,r,⟨_,b6 _ rfl,rfl,_,rfl⟩⟩
def AD(h:PA X es t):PE X (.List es pos) (yg t):=by
 intro pins s σ H Q I hq
 refine wpAny_List_spliced (bf (h pos pins s σ H _ I hq) λus s1 ⟨xs,H1,I1,r,z,q⟩=>⟨by rw[<-r.length];exact z,?_⟩)
 have hf:H1 s1.heap.objs.size=none:=I1.hok.fresh (ba _)
 refine⟨.ref s1.heap.objs.size,ar H1 s1.heap.objs.size (.lst xs),I1.laid (t':=s1.toks) (λb u e=>ay _ e) (ba _) ?_,rfl,q _ hf⟩
 exact⟨z,us,0,r,b6 _ rfl⟩
end
abbrev Sp:=List V->Hp->VK->XK->Prop
abbrev mf:=List Env->Hp->Shared->XK->Value->Shared->Prop
structure tT (P:Program) (w:World) (K:W.Frag) (mg:Str->Option Value) (base:Heap) (A:Around) (outer:List Env) (s:Shared) (H:Hp):Prop where
 frames:A.frames=some outer
 mod:Mod K mg base
 bs:∀b o,base.get? b=some o->s.heap.get? b=some o/\H b=none
 bsz:base.objs.size<=s.heap.objs.size
 funs:s.heap.FunFrames base outer
 frf:∀b∈nj outer,H b=none
 hok:du P w H s.heap
 bare:AllBare s.gens
def CE(outer:List Env)(P:Program)(w:World)(H:Hp)(s:Shared)(Q:VK)(u:Value)(s':Shared):Prop:=
 ∃v H',s'.os=s.os/\AllBare s'.gens/\Un (nj outer) [] H H' s.heap s'.heap/\du P w H' s'.heap/\ai v u/\Q v H'
def CR(CX:mf)(outer:List Env)(P:Program)(w:World)(H:Hp)(s:Shared)(Q:VK)(E:XK)(r:Result)(s':Shared):Prop:=
 match r with
 |.ok (.ret u)=>CE outer P w H s Q u s'
 |.ok _=>False
 |.error e=>CX outer H s E e s'
structure df (P:Program) (w:World) (K:W.Frag) (mg:Str->Option Value) (base:Heap) (CX:mf) (k:Nat) (f:Addr) (fd:FuncData) (ps:List Str) (sp:Sp):Prop where
 len:∀vs H Q E,sp vs H Q E->vs.length=ps.length
 run:∀(A:Around) (outer:List Env) (s:Shared) (H:Hp) (args:Args) (us:List Value) (vs:List V) (Q:VK) (E:XK),bt k A->tT P w K mg base A outer s H->BindsTo s fd args (ps.zip us)->aj vs us->sp vs H Q E ->
  codeAny (model P w) A (.call (.ref f) args) (CR CX outer P w H s Q E) s
theorem df.mono{P:Program}{w:World}{K:W.Frag}{mg:Str->Option Value}{base:Heap}{CX:mf}{j k:Nat}{f:Addr}{fd:FuncData}{ps:List Str}{sp:Sp}(F:df P w K mg base CX j f fd ps sp)(h:j<=k):
  df P w K mg base CX k f fd ps sp:=⟨F.len,λA outer s H args us vs Q E hr=>F.run A outer s H args us vs Q E (hr.mono h)⟩
theorem df.imp{P:Program}{w:World}{K:W.Frag}{mg:Str->Option Value}{base:Heap}{CX:mf}{k:Nat}{f:Addr}{fd:FuncData}{ps:List Str}{sp sp':Sp}(F:df P w K mg base CX k f fd ps sp)
  (h:∀vs H Q E,sp' vs H Q E->sp vs H Q E):df P w K mg base CX k f fd ps sp':=
 ⟨λvs H Q E q=>F.len vs H Q E (h _ _ _ _ q),λA outer s H args us vs Q E hr he hb hv hs=>F.run A outer s H args us vs Q E hr he hb hv (h _ _ _ _ hs)⟩
section
variable{X:Cx}{pins:List (Addr×Obj)}{σ:St}{H:Hp}{s s':Shared}
def ag.env0(I:ag X pins σ H s):tT X.prog X.w X.K X.mg X.base X.A X.stack s H:=
 ⟨I.ok.frames,I.ok.mod,I.bs,bx I.ok.bsz I.sz,I.stack,I.stkFree,I.hok,I.bare⟩
def ag.after{Q:VK}{u:Value}(I:ag X pins σ H s)(h:CE X.stack X.prog X.w H s Q u s'):EP X pins σ Q u s':=by
 obtain⟨v,H',os,bare,un,hok,r,q⟩:=h
 obtain⟨hh,g,d,t,os'⟩:=s'
 obtain rfl:os'=s.os:=os
 exact⟨v,H',I.call (h':=hh) (g':=g) (d':=d) (t':=t) (ch:=[]) un hok bare (λb z=>absurd z (by simp)),r,q⟩
end
def mH(sp:Sp)(dvs:List V)(E:XK)(t:TA):TE:=λσ H Q=>t σ H λvs H1=>sp (vs++dvs) H1 Q E
def gz(K:W.Frag)(fd:FuncData)(ps:List Str)(ds:List Value):Prop:=
 ∀(s:Shared) (us:List Value),K.In s.heap->(us++ds).length=ps.length->BindsTo s fd ⟨us,[]⟩ (ps.zip (us++ds))
def gz.all{K:W.Frag}{fd:FuncData}{ps:List Str}(h:∀us:List Value,us.length=ps.length->bindArgs fd ⟨us,[]⟩=pure (ps.zip us)):gz K fd ps []:=λs us _ hl=>by
 rw[jb]at hl ⊢
 exact .of_eq (h us hl)
def sB(CX:mf)(X:Cx)(E:XK):Prop:=∀(pins:List (Addr×Obj)) (σ:St) (H:Hp) (s:Shared) (e:Value) (s':Shared),ag X pins σ H s->CX X.stack H s E e s'->X.xe e s'
section
variable{X:Cx}{CX:mf}{k:Nat}{f C:Addr}{fd:FuncData}{ps:List Str}{sp:Sp}{dvs:List V}{ds:List Value}{E:XK}{x m:Str}{p pos apos:Pos}{e o:Expr}{es:List Expr}{ta:TE}{t:TA}
theorem AK{pins:List (Addr×Obj)}{σ:St}{H:Hp}{s:Shared}{Q:VK}{us:List Value}{vs:List V}(F:df X.prog X.w X.K X.mg X.base CX k f fd ps sp)(hr:bt k X.A)(hb:gz X.K fd ps ds)(hd:aj dvs ds)(hx:sB CX X E)
  (I:ag X pins σ H s) (r:aj vs us) (h:sp (vs++dvs) H Q E):wpAny (model X.prog X.w) X.A (call (.ref f) us) (EP X pins σ Q) X.xe s:=by
 have r2:aj (vs++dvs) (us++ds):=r.append hd
 have hl:(us++ds).length=ps.length:=by rw[<-r2.length];exact F.len _ _ _ _ h
 refine wpAny_call (codeAny_mono (F.run X.A X.stack s H ⟨us,[]⟩ (us++ds) (vs++dvs) Q E hr I.env0 (hb s us I.kIn hl) r2 h) λr s' hq=>?_)
 cases r with
 |error e=>exact hx pins σ H s e s' I hq
 |ok fl=>
  cases fl with
  |ret u=>exact I.after hq
  |next=>exact False.elim hq
  |brk=>exact False.elim hq
  |cont=>exact False.elim hq
def Jl(F:df X.prog X.w X.K X.mg X.base CX k f fd ps sp)(hr:bt k X.A)(hg:Gl X x)(hm:X.mg x=some (.ref f))(hk:W.keepIn X.K (.ref f)=true)(hb:gz X.K fd ps ds)(hd:aj dvs ds)(hx:sB CX X E)
  (ha:PA X (e::es) t) (hdb:(x==("__debug__":Str))=false:=by decide) (he:starEach (e::es) X.env=(false,eval e X.env)::starEach es X.env:=by rfl) (hpl:(backTo pos (starEach es X.env)).any (·.1)=false:=by rfl):
  PE X (.Call (.Name x p) (e::es) [] pos) (mH sp dvs E t):=by
 intro pins s σ H Q I h
 refine wpAny_Call_Name_kw (wK I hg hm ?_ hdb)
 refine PySem.W.callWith_K (h₀:=X.base) I.ok.mod.kin hk (bf (ha pos pins s σ H _ I h) λus s1 ⟨vs,H1,I1,r,q⟩=>⟨I1.kIn,?_⟩) he hpl
 exact AK F hr hb hd hx I1 r q
def JK(F:df X.prog X.w X.K X.mg X.base CX k f fd ps sp)(hr:bt k X.A)(hg:Gl X x)(hm:X.mg x=some (.ref f))(hk:W.keepIn X.K (.ref f)=true)(hb:gz X.K fd ps ds)(hd:aj dvs ds)(hx:sB CX X E)
  (hdb:(x==("__debug__":Str))=false:=by decide):PE X (.Call (.Name x p) [] [] pos) (mH sp dvs E sM):=by
 intro pins s σ H Q I h
 refine wpAny_Call_Name_kw (wK I hg hm ?_ hdb)
 exact PySem.W.callWith_K0 I.kIn hk (AK (us:=[]) F hr hb hd hx I .nil h)
end
structure bB (N P:List Str) (sc:Scope):Prop where
 kind:sc.kind=.function
 co:sc.isCoroutine=false
 gen:sc.isGenerator=false
 nd:N.Nodup
 pre:N.take P.length=P
 par:∀x∈P,sc.names.lookup x=some .local\/sc.names.lookup x=some .cell
 nofree:∀y∈sc.names,y.2≠.free
theorem b8{N P:List Str}{sc:Scope}(h:sc.kind=.function/\sc.isCoroutine=false/\sc.isGenerator=false/\N.Nodup/\N.take P.length=P/\(∀x∈P,sc.names.lookup x=some .local\/sc.names.lookup x=some .cell)/\∀y∈sc.names,y.2≠.free):bB N P sc:=⟨h.1,h.2.1,h.2.2.1,h.2.2.2.1,h.2.2.2.2.1,h.2.2.2.2.2.1,h.2.2.2.2.2.2⟩
def CC{kindOf:Str->Option NameKind}{x:Str}:∀{binds:List (Str×Value)}{m:Str->Option Value},(∀v,(x,v)∉binds)->bindL kindOf binds m x=m x
 |[],_,_=>rfl
 |(n,v)::r,m,h=>by
  unfold bindL
  rw[CC λw hw=>h w (d_ _ hw)]
  split
  ·have:x≠n:=by rintro rfl;exact h v fw
   simp[this]
  ·rfl
def CA{kindOf:Str->Option NameKind}{x:Str}:∀{binds:List (Str×Value)}{m:Str->Option Value},(∀v,(x,v)∉binds)->bindC kindOf binds m x=m x
 |[],_,_=>rfl
 |(n,v)::r,m,h=>by
  unfold bindC
  rw[CA λw hw=>h w (d_ _ hw)]
  split
  ·rfl
  ·have:x≠n:=by rintro rfl;exact h v fw
   simp[this]
theorem CB{kindOf:Str->Option NameKind}{x:Str}{v:Value}:∀{P:List Str}{vs:List Value}{i:Nat}{m:Str->Option Value},P.Nodup->P[i]?=some x->vs[i]?=some v->kindOf x=some .local ->
  bindL kindOf (P.zip vs) m x=some v
 |[],_,_,_,_,h,_,_=>by simp at h
 |_::_,[],_,_,_,_,h,_=>by simp at h
 |p::P,w::vs,0,m,nd,h1,h2,hk=>by
  simp at h1 h2;subst h1;subst h2
  show bindL kindOf ((p,w)::P.zip vs) m p=_
  unfold bindL
  rw[CC λv hv=>(qG1_.mp nd).1 (q0 hv).1,if_pos hk]
  simp
 |p::P,w::vs,i+1,m,nd,h1,h2,hk=>by
  show bindL kindOf ((p,w)::P.zip vs) m x=_
  unfold bindL
  exact CB (i:=i) (qG1_.mp nd).2 (by simpa using h1) (by simpa using h2) hk
theorem Cz{kindOf:Str->Option NameKind}{x:Str}{v:Value}:∀{P:List Str}{vs:List Value}{i:Nat}{m:Str->Option Value},P.Nodup->P[i]?=some x->vs[i]?=some v->kindOf x≠some .local ->
  bindC kindOf (P.zip vs) m x=some v
 |[],_,_,_,_,h,_,_=>by simp at h
 |_::_,[],_,_,_,_,h,_=>by simp at h
 |p::P,w::vs,0,m,nd,h1,h2,hk=>by
  simp at h1 h2;subst h1;subst h2
  show bindC kindOf ((p,w)::P.zip vs) m p=_
  unfold bindC
  rw[CA λv hv=>(qG1_.mp nd).1 (q0 hv).1,if_neg hk]
  simp
 |p::P,w::vs,i+1,m,nd,h1,h2,hk=>by
  show bindC kindOf ((p,w)::P.zip vs) m x=_
  unfold bindC
  exact Cz (i:=i) (qG1_.mp nd).2 (by simpa using h1) (by simpa using h2) hk
def dY(N:List Str)(vs:List V):St:=vs.map some++List.replicate (N.length-vs.length) none
def jK(CX:mf)(P:Program)(w:World)(K:W.Frag)(mg:Str->Option Value)(base:Heap)(N:List Str)(qual:Str)(scope:Scope)(f:Addr)(cd:Value)(A:Around)(outer:List Env)(s:Shared)(H:Hp)(E:XK):Cx where
 prog:=P
 w:=w
 K:=K
 mg:=mg
 base:=base
 A:=A.deeper (envOfC qual scope s.heap.objs.size f cd)
 N:=N
 s₀:=s
 H₀:=H
 env:=envOfC qual scope s.heap.objs.size f cd
 outer:=outer
 stack:=envOfC qual scope s.heap.objs.size f cd::outer
 ex:=[]
 calm:=true
 fn:=λ_=>true
 pn:=[]
 xe:=λe s'=>wpAny (model P w) (A.deeper (envOfC qual scope s.heap.objs.size f cd)) (leaving (envOfC qual scope s.heap.objs.size f cd) e) (λ_ s''=>CX outer H s E e s'') (λe' s''=>CX outer H s E e' s'') s'
def BO{sc:Scope}{n:Nat}{x:Str}(h:sc.names.lookup x=some .cell):∃c,(cellsFrom n sc.names []).lookup x=some c:=by
 have q:=PySem.W.cellsFrom_some sc.names n [] (.inl h)
 exact Option.isSome_iff_exists.mp q
def KP{CX:mf}{P:Program}{w:World}{K:W.Frag}{mg:Str->Option Value}{base:Heap}{N ps:List Str}{qual:Str}{scope:Scope}{f:Addr}{cd:Value}{A:Around}{outer:List Env}{s s1:Shared}{H:Hp}{E:XK}{us:List Value}{vs:List V}
  (S:bB N ps scope) (hd:A.handled=none) (e0:tT P w K mg base A outer s H) (hl:vs.length=ps.length) (r:aj vs us)
  (x:InCallC s s.heap.objs.size (bindL (envOfC qual scope s.heap.objs.size f cd).kindOf (ps.zip us) λ_=>none) (cellsFrom (s.heap.objs.size+1) scope.names []) (bindC (envOfC qual scope s.heap.objs.size f cd).kindOf (ps.zip us) λ_=>none) s1):
  ag (jK CX P w K mg base N qual scope f cd A outer s H E) [] (dY N vs) H s1:=by
 have hpl:ps.length<=N.length:=by have:=congrArg List.length S.pre;rw[jh]at this;omega
 obtain⟨h1,tk,rfl,hk⟩:=x.done
 have noA:∀b:Addr,b∉(jK CX P w K mg base N qual scope f cd A outer s H E).ex:=λb z=>absurd (show b∈([]:List Addr) from z) (by simp)
 refine⟨⟨e0.mod,S.kind,rfl,rfl,ba _,λy z c h1 h2=>?_,λy hy=>?_,λy c _ h=>?_,λ_=>hd,Around.frames_deeper e0.frames,.inr ⟨rfl,rfl⟩,λb z=>absurd z (noA b),e0.bs,e0.bsz,λb _ _=>noA b,λb z=>absurd z (noA b),e0.funs,e0.frf⟩,
  rfl,e0.bare,Un.kept hk,⟨_,x.toInCall.ns,λi y v h1 h2 h3=>?_⟩,λy c h=>⟨_,x.cell y c h⟩,e0.hok.fresh (ba _),λy c h=>?_,λp hp=>absurd (show p∈([]:List (Addr×Obj)) from hp) (by simp),e0.hok.kept hk,?_⟩
 ·exact name_of_addr x.apart (PySem.mem_of_lookup h1) (PySem.mem_of_lookup h2)
 ·have hy:scope.names.lookup y=some .cell\/scope.names.lookup y=some .free:=hy
  rcases hy with hy|hy
  ·exact BO hy
  ·exact absurd rfl (S.nofree _ (PySem.mem_of_lookup hy))
 ·exact j9 (x.above y c (PySem.mem_of_lookup h))
 ·have hi:i<vs.length:=by
   unfold dY at h2
   by_cases hi:i<vs.length
   ·exact hi
   ·rw[jt (by simpa using hi)]at h2
    rw[lg]at h2
    split at h2<;>cases h2
  have ha:vs[i]?=some v:=by
   unfold dY at h2
   rw[jr (by simpa using hi),e_]at h2
   cases e:vs[i]? with
   |none=>rw[e]at h2;cases h2
   |some a=>rw[e]at h2;cases h2;rfl
  obtain⟨u,hu,rv⟩:=r.get ha
  have hp:ps[i]?=some y:=by
   rw[<-S.pre,List.getElem?_take_of_lt (by omega)];exact h1
  have ndP:ps.Nodup:=by rw[<-S.pre];exact S.nd.sublist (qz _ _)
  refine⟨u,rv,?_⟩
  rcases S.par y (g5 hp) with k|k
  ·exact .inl ⟨k,CB ndP hp hu k⟩
  ·obtain⟨c,e⟩:=BO (n:=s.heap.objs.size+1) k
   refine .inr ⟨.inl k,c,e,?_⟩
   have q:=x.cell y c e
   rw[Cz ndP hp hu (by show scope.names.lookup y≠_;rw[k];decide)]at q
   exact q
 ·exact e0.hok.fresh (j9 (x.above y c (PySem.mem_of_lookup h)))
 ·unfold dY
  show _=N.length
  rw[b9,ao,k_]
  omega
theorem Fp{CX:mf}{P:Program}{w:World}{K:W.Frag}{mg:Str->Option Value}{base:Heap}{k:Nat}{f:Addr}{name qual:Str}{params:Arguments}{body:List Stmt}{scope:Scope}{dV kV doc pm cdv ct oc:Value}{an od:Option Addr}
  {osl:Array (Option Value)} {N ps:List Str} {sp:Sp} (lk:K.lookup f=some ⟨oc,od,.func (W.fnOf name qual params body scope dV kV doc pm an cdv ct),osl⟩) (hcd:W.codeIn K cdv qual=true) (S:bB N ps scope)
  (len:∀vs H Q E,sp vs H Q E->vs.length=ps.length)
  (hbody:∀(A:Around) (outer:List Env) (s:Shared) (H:Hp) (vs:List V) (Q:VK) (E:XK),bt k (A.deeper (envOfC qual scope s.heap.objs.size f cdv))->sp vs H Q E ->
   ∃t,f_ (jK CX P w K mg base N qual scope f cdv A outer s H E) body t/\t {nx:=λ_ H'=>Q .non H',rt:=Q} (dY N vs) H):
  df P w K mg base CX (k+1) f (W.fnOf name qual params body scope dV kV doc pm an cdv ct) ps sp:=by
 refine⟨len,λA outer s H args us vs Q E hr e0 hb r hsp=>?_⟩
 have hl:=len _ _ _ _ hsp
 have KX:K.In s.heap:=e0.mod.kin.keeps λb o e=>(e0.bs b o e).1
 have lim:s.heap.NoLimit:=e0.mod.nolimit.keeps λb o e=>(e0.bs b o e).1
 have hkind:∀y∈ps.zip us,scope.names.lookup y.1=some .local\/(scope.names.lookup y.1=some .cell/\((cellsFrom (s.heap.objs.size+1) scope.names []).lookup y.1).isSome=true):=λ⟨n,v⟩ hy=>by
  rcases S.par n (q0 hy).1 with q|q
  ·exact .inl q
  ·exact .inr ⟨q,PySem.W.cellsFrom_some _ _ _ (.inl q)⟩
 refine codeAny_call_function hr.depth (KX _ _ lk) rfl S.co S.gen rfl (PySem.W.codeRec_of KX hcd) (hb _ _ _ _ ?_)
 refine wpAny_newFunctionEnv_cells S.kind hkind λenv he s1 x=>?_
 subst he
 refine⟨lim.keeps x.toInCall.keep,codeAny_func ?_⟩
 obtain⟨t,ht,hq⟩:=hbody A outer s H vs Q E (hr.deeper _) hsp
 have I:ag (jK CX P w K mg base N qual scope f cdv A outer s H E) [] (dY N vs) H s1:=KP S hr.hd e0 hl r x
 refine wpAny_mono (ht [] s1 (dY N vs) H _ I hq) (λfl s' hs=>?_) λe s' hs=>hs
 have fin:∀{σ':St} {H':Hp} {v:V} {u:Value},ag (jK CX P w K mg base N qual scope f cdv A outer s H E) [] σ' H' s'->ai v u->Q v H'->CE outer P w H s Q u s':=
  λ{σ' H' v u} J rv q=>⟨v,H',J.os,J.bare,J.base,J.hok,rv,q⟩
 cases fl with
 |ret u=>
  obtain⟨v,σ',H',J,rv,q⟩:=hs
  exact fin J rv q
 |next=>
  obtain⟨σ',H',J,q⟩:=hs
  exact fin (v:=V.non) (u:=Value.none) J rfl q
 |brk=>
  obtain⟨_,_,_,q⟩:=hs
  exact False.elim q
 |cont=>
  obtain⟨_,_,_,q⟩:=hs
  exact False.elim q
section
variable{X:Cx}{x:Str}{p pos:Pos}{e:Expr}{es:List Expr}{t:TA}{id T:String}{r:List V->Hp->VK->Prop}
def wu(r:List V->Hp->VK->Prop)(t:TA):TE:=λσ H Q=>t σ H λvs H1=>r vs H1 Q
def iN(hc:aq X (.builtin id) r)(hg:Gl X x)(hm:X.mg x=none)(hv:bootBuiltins x=some (.builtin id))(ha:PA X (e::es) t)(hn:x≠"__name__":=by decide)(hdb:(x==("__debug__":Str))=false:=by decide)
  (he:starEach (e::es) X.env=(false,eval e X.env)::starEach es X.env:=by rfl) (hpl:(backTo pos (starEach es X.env)).any (·.1)=false:=by rfl):PE X (.Call (.Name x p) (e::es) [] pos) (wu r t):=by
 intro pins s σ H Q I h
 refine wpAny_Call_Name_kw (oO I hg hm hv ?_ hn hdb)
 exact PyProof.Rows.callWith_builtin1 (bf (ha pos pins s σ H _ I h) λus s1 ⟨vs,H1,I1,r1,q1⟩=>hc pins s1 σ H1 vs us Q I1 r1 q1) he hpl
def gD(hc:aq X (.type T) r)(hg:Gl X x)(hm:X.mg x=none)(hv:bootBuiltins x=some (.type T))(ha:PA X (e::es) t)(hn:x≠"__name__":=by decide)(hdb:(x==("__debug__":Str))=false:=by decide)
  (he:starEach (e::es) X.env=(false,eval e X.env)::starEach es X.env:=by rfl) (hpl:(backTo pos (starEach es X.env)).any (·.1)=false:=by rfl):PE X (.Call (.Name x p) (e::es) [] pos) (wu r t):=by
 intro pins s σ H Q I h
 refine wpAny_Call_Name_kw (oO I hg hm hv ?_ hn hdb)
 exact PyProof.Rows.callWith_type1 (bf (ha pos pins s σ H _ I h) λus s1 ⟨vs,H1,I1,r1,q1⟩=>hc pins s1 σ H1 vs us Q I1 r1 q1) he hpl
end
end L2
namespace HT
open PySem PyProof.Rows
section
variable{prog:Program}{w:World}{A:Around}{E:Value->Shared->Prop}{s:Shared}
theorem cat_tup{t b:Addr}{vs ws:List Value}{Q:Value->Shared->Prop}(ht:IsTup s.heap t vs.toArray)(hb:IsTup s.heap b ws.toArray)(hv:vs≠[])
  (h1:ws=[]->Q (.ref t) s) (h2:ws≠[]->Q (.ref s.heap.objs.size) {s with heap:=s.heap.push {cls:=.type "tuple",data:=.seq (vs++ws).toArray}})
  (hsz:vs.length+ws.length<=sizeLine):wpAny (model prog w) A (binaryOp .Add (.ref t) (.ref b)) Q E s:=by
 obtain⟨⟨cls,dd,data,sl⟩,ho,hc,n,hd⟩:=id ht
 obtain⟨⟨cls2,dd2,data2,sl2⟩,ho2,hc2,n2,hd2⟩:=id hb
 simp only at hc hd hc2 hd2
 subst hc hd hc2 hd2
 have e:vs.toArray++ws.toArray=(vs++ws).toArray:=by simp
 by_cases hw:ws=[]
 ·exact concat_meets ⟨_,ho,rfl⟩ ⟨_,ho2,rfl⟩ noFill_tuple_add seq_tuple_add PySem.F.slot_tuple_add PySem.F.entry_tuple_add (PySem.F.args_tuple_add_2 _ _)
   (tuple_addW1 t b vs.toArray ws.toArray n n2 dd dd2 sl sl2 (by simpa using hv) (by simp[hw])) ⟨ho,ho2,h1 hw⟩
 ·refine concat_meets ⟨_,ho,rfl⟩ ⟨_,ho2,rfl⟩ noFill_tuple_add seq_tuple_add PySem.F.slot_tuple_add PySem.F.entry_tuple_add (PySem.F.args_tuple_add_2 _ _)
   (tuple_addW2 t b vs.toArray ws.toArray n n2 dd dd2 sl sl2 (by simpa using hv) (by simpa using hw) (by rw[List.size_toArray,List.size_toArray];exact hsz)) ⟨ho,ho2,?_⟩
  rw[e]
  exact h2 hw
def sIx(n d:Nat):Option Int->Nat
 |none=>d
 |some v=>if v<0 then(v+(n:Int)).toNat else min v.toNat n
def HF(n d:Nat)(hd:d<=n)(o:Option Int):sIx n d o<=n:=by
 cases o with
 |none=>exact hd
 |some v=>
  show(if v<0 then(v+(n:Int)).toNat else min v.toNat n)<=n
  by_cases hv:v<0
  ·rw[if_pos hv];omega
  ·rw[if_neg hv];exact qy _ _
def zt(v:Int)(n d:Nat):(if v<0 then max (v+(n:Int)) 0 else min v (n:Int))=((sIx n d (some v):Nat):Int):=by
 show(if v<0 then max (v+(n:Int)) 0 else min v (n:Int))=(((if v<0 then(v+(n:Int)).toNat else min v.toNat n):Nat):Int)
 by_cases hv:v<0
 ·simp only[if_pos hv];omega
 ·simp only[if_neg hv];omega
def Mm(lo hi:Option Int)(n:Nat):Builtin.Slice.sliceAdjust lo hi 1 (n:Int)=(((sIx n 0 lo:Nat):Int),((sIx n n hi:Nat):Int)):=by
 have h1:¬ ((1:Int)<0):=by omega
 unfold Builtin.Slice.sliceAdjust
 simp only[h1,if_false]
 refine Prod.ext ?_ ?_
 ·cases lo with
  |none=>rfl
  |some v=>exact zt v n 0
 ·cases hi with
  |none=>rfl
  |some v=>exact zt v n n
def LU(i j:Nat):Builtin.Slice.slicePlaces (i:Int) (j:Int) 1=j-i:=by
 unfold Builtin.Slice.slicePlaces
 have h1:(1:Int) > 0:=by omega
 simp only[h1,if_true,Int.ediv_one]
 split<;>omega
def zY{v:Value}{o:Option Int}{Q:Option Int->Shared->Prop}(p:IsPart v o)(h:Q o s):wpAny (model prog w) A (Builtin.Slice.slicePartIndex v) Q E s:=by
 cases p with
 |none=>exact slicePart_none h
 |int i t=>exact slicePart_int h
def sliceApplied_gen{sl:Addr}{vl vu:Value}{lo hi:Option Int}{n:Nat}{Q:Int×Int×Nat->Shared->Prop}(hs:s.heap.IsSliceOf sl vl vu .none)(pl:IsPart vl lo)(pu:IsPart vu hi)
  (h:Q (((sIx n 0 lo:Nat):Int),1,sIx n n hi-sIx n 0 lo) s):wpAny (model prog w) A (Builtin.Slice.sliceApplied (.ref sl) (pure (n:Int))) Q E s:=by
 obtain⟨os,hos,hcs,hds⟩:=id hs
 unfold Builtin.Slice.sliceApplied Builtin.Slice.sliceFields
 refine af (af (wpAny_field hos hds (x:=vl) rfl (af (wpAny_field hos hds (x:=vu) rfl (af (wpAny_field hos hds (x:=.none) rfl (ah ?_)))))))
 refine af (slicePart_none ?_)
 show wpAny _ _ (if ((1:Int)==0)=true then _ else _) _ _ s
 rw[if_neg (by decide)]
 refine af (zY pl (af (zY pu (af (ah ?_)))))
 show wpAny _ _ (match Builtin.Slice.sliceAdjust lo hi 1 (n:Int) with|(lo,hi)=>pure (lo,(1:Int),Builtin.Slice.slicePlaces lo hi 1)) _ _ s
 rw[Mm lo hi n]
 show wpAny _ _ (pure (((sIx n 0 lo:Nat):Int),(1:Int),Builtin.Slice.slicePlaces ((sIx n 0 lo:Nat):Int) ((sIx n n hi:Nat):Int) 1)) _ _ s
 rw[LU]
 exact ah h
def JQ(xs:Array Value)(i k:Nat):((List.range k).filterMap λ(m:Nat)=>xs[((i:Int)+(m:Int)*1).toNat]?).toArray=((xs.toList.drop i).take k).toArray:=by
 have e:(λ(m:Nat)=>xs[((i:Int)+(m:Int)*1).toNat]?)=λm=>xs[i+m]?:=by
  funext m
  have:((i:Int)+(m:Int)*1).toNat=i+m:=by omega
  rw[this]
 rw[e]
 have:=pick_run xs i k
 rw[mz]at this
 have e2:((λx=>xs[x]?)∘λx=>i+x)=λm=>xs[i+m]?:=rfl
 rw[e2]at this
 rw[this]
def getItem_tuple_cut{t sl:Addr}{items:Array Value}{vl vu:Value}{lo hi:Option Int}{Q:Value->Shared->Prop}(ht:IsTup s.heap t items)(hs:s.heap.IsSliceOf sl vl vu .none)(pl:IsPart vl lo)(pu:IsPart vu hi)
  (hw:¬ (sIx items.size 0 lo=0/\sIx items.size items.size hi=items.size))
  (h:Q (.ref s.heap.objs.size) {s with heap:=s.heap.push {cls:=.type "tuple",data:=.seq ((items.toList.drop (sIx items.size 0 lo)).take (sIx items.size items.size hi-sIx items.size 0 lo)).toArray}})
  (hsz:items.size<=sizeLine):wpAny (model prog w) A (getItem (.ref t) (.ref sl)) Q E s:=by
 have htake:sizeOk (.seq ((items.toList.drop (sIx items.size 0 lo)).take (sIx items.size items.size hi-sIx items.size 0 lo)).toArray):=by
  show((items.toList.drop (sIx items.size 0 lo)).take (sIx items.size items.size hi-sIx items.size 0 lo)).toArray.size<=sizeLine
  rw[cy,jh,kz,d9]
  omega
 have hj:sIx items.size items.size hi<=items.size:=HF _ _ (ba _) hi
 obtain⟨os,hos,hcs,hds⟩:=id hs
 have hTs:s.TypeIs (.ref sl) "slice":=⟨os,hos,hcs⟩
 unfold getItem
 try with_reducible refine gb ?_
 first|refine af (ah ?_)|skip
 refine af (wpAny_sequenceKey ht.typeIs (by decide) ?_)
 refine af (wpAny_callSpecial?_slot (name:=Str.ofString "__getitem__") ht.typeIs PyProof.Rows.slot_tuple_getitem
  (ig PyProof.Rows.slot_tuple_getitem ht.typeIs entry_tuple_getitem ?_ (args_tuple_getitem _ _)))
 show wpAny _ _ (Builtin.Tuple.tupleItemsOf (.ref t) >>= _) _ _ s
 refine af (tupleItemsOf_ ht ?_)
 refine af (wpAny_typeOf hTs ?_)
 rw[if_pos (by decide)]
 refine af (sliceApplied_gen hs pl pu ?_)
 have hno:¬ ((((sIx items.size 0 lo:Nat):Int)==0&&(1:Int)==1&&(sIx items.size items.size hi-sIx items.size 0 lo)==items.size)=true):=by
  intro q
  rw[kg,kg]at q
  have q1:((sIx items.size 0 lo:Nat):Int)=0:=eq_of_beq q.1.1
  have q2:sIx items.size items.size hi-sIx items.size 0 lo=items.size:=eq_of_beq q.2
  exact hw ⟨by omega,by omega⟩
 show wpAny _ _ (if (((sIx items.size 0 lo:Nat):Int)==0&&(1:Int)==1&&(sIx items.size items.size hi-sIx items.size 0 lo)==items.size)=true then _ else _) _ _ s
 rw[if_neg hno,JQ]
 first
  |exact af (m:=Builtin.Tuple.tupleExact _) (jg (ah ⟨_,rfl,ah h⟩) htake)
  |exact af (m:=Builtin.Tuple.tupleExact _) (jg (af (ah (ah ⟨_,rfl,ah h⟩))) htake)
  |exact af (af (m:=Builtin.Tuple.tupleExact _) (jg (ah (ah ⟨_,rfl,ah h⟩)) htake))
  |exact af (af (m:=Builtin.Tuple.tupleExact _) (jg (ah ⟨_,rfl,ah h⟩) htake))
end
end HT
namespace L2
open PySem PySem.Spec PyProof.Rows
abbrev TO:=St->Hp->(Option Int->Hp->Prop)->Prop
def PO(X:Cx)(e:Option Expr)(t:TO):Prop:=
 ∀(pins:List (Addr×Obj)) (s:Shared) (σ:St) (H:Hp) (Q:Option Int->Hp->Prop),ag X pins σ H s->t σ H Q ->
  wpAny (model X.prog X.w) X.A (evalPart e X.env) (λu s'=>∃o H',ag X pins σ H' s'/\IsPart u o/\Q o H') X.xe s
def IJ:TO:=λ_ H Q=>Q none H
def Fg(t:TE):TO:=λσ H Q=>t σ H λx H1=>∃i,x=.int i/\Q (some i) H1
theorem qD{ns:List Int}:∀{us:List Value},aj (ns.map V.int) us->IntsAre us ns:=by
 induction ns with
 |nil=>intro us r;rw[my]at r;cases r;exact .nil
 |cons n ns ih=>
  intro us r
  rw[e9]at r
  cases r with
  |cons r1 r2=>
   obtain⟨t,e⟩:=r1
   subst e
   exact .cons n t (ih r2)
section
variable{X:Cx}{e:Expr}{te:TE}{lo hi:Option Expr}{tl th:TO}{pos p2:Pos}
def BZ:PO X none IJ:=by
 intro pins s σ H Q I h
 rw[evalPart_none]
 exact ah ⟨none,H,I,.none,h⟩
def B0(h:PE X e te):PO X (some e) (Fg te):=by
 intro pins s σ H Q I hw
 rw[evalPart_some]
 refine bf (h pins s σ H _ I hw) λu s1 ⟨x,H1,I1,r1,q1⟩=>?_
 obtain⟨i,rfl,q⟩:=q1
 obtain⟨t,rfl⟩:=r1
 exact⟨some i,H1,I1,.int i t,q⟩
def n6(X:Cx)(r:V->Option Int->Option Int->Hp->VK->Prop):Prop:=
 ∀(pins:List (Addr×Obj)) (s:Shared) (σ:St) (H:Hp) (x:V) (v vl vu:Value) (lo hi:Option Int) (sl:Addr) (Q:VK),ag X pins σ H s->ai x v->s.heap.IsSliceOf sl vl vu .none->IsPart vl lo->IsPart vu hi->r x lo hi H Q ->
  ∃T id,typeLookup (.type T) "__getitem__"=pure (some (.builtin id))/\s.TypeIs v T/\wpAny (model X.prog X.w) X.A (getItem v (.ref sl)) (EP X pins σ Q) X.xe s
def n6.or{r r':V->Option Int->Option Int->Hp->VK->Prop}(h:n6 X r)(h':n6 X r'):n6 X (λx lo hi H Q=>r x lo hi H Q\/r' x lo hi H Q):=by
 intro pins s σ H x v vl vu lo hi sl Q I rx hs pl pu q
 rcases q with q|q
 ·exact h pins s σ H x v vl vu lo hi sl Q I rx hs pl pu q
 ·exact h' pins s σ H x v vl vu lo hi sl Q I rx hs pl pu q
def Nq(r:V->Option Int->Option Int->Hp->VK->Prop)(te:TE)(tl th:TO):TE:=λσ H Q=>te σ H λx H1=>tl σ H1 λl H2=>th σ H2 λu H3=>r x l u H3 Q
def Bl{r:V->Option Int->Option Int->Hp->VK->Prop}(hr:n6 X r)(he:PE X e te)(hl:PO X lo tl)(hu:PO X hi th):PE X (.Subscript e (.Slice lo hi none p2) pos) (Nq r te tl th):=by
 intro pins s σ H Q I h
 refine Subscript_ (bf (he pins s σ H _ I h) λv s1 ⟨x,H1,I1,r1,q1⟩=>?_)
 refine wpAny_Slice (bf (hl pins s1 σ H1 _ I1 q1) λvl s2 ⟨l,H2,I2,pl,q2⟩=>bf (hu pins s2 σ H2 _ I2 q2) λvu s3 ⟨u,H3,I3,pu,q3⟩=>?_)
 rw[evalPart_none]
 refine ah ?_
 have I4:ag X pins σ H3 {s3 with heap:=s3.heap.push {cls:=.type "slice",data:=.fields #[vl,vu,.none]}}:=I3.kept (t':=s3.toks) λb ob q=>ay _ q
 obtain⟨T,id,hT,ht,hg⟩:=hr pins {s3 with heap:=s3.heap.push {cls:=.type "slice",data:=.fields #[vl,vu,.none]}} σ H3 x v vl vu l u s3.heap.objs.size Q I4 r1 (Heap.IsSliceOf.new ..) pl pu q3
 show wpAny (model X.prog X.w) X.A (subscriptTail e (.Slice lo hi none p2) v (.ref s3.heap.objs.size)) (EP X pins σ Q) X.xe {s3 with heap:=s3.heap.push {cls:=.type "slice",data:=.fields #[vl,vu,.none]}}
 exact tail_any (ops:=[.ref s3.heap.objs.size,v]) ht hT hg (by with_unfolding_all rfl)
def fZ(xs:List V)(lo hi:Option Int):List V:=(xs.drop (HT.sIx xs.length 0 lo)).take (HT.sIx xs.length xs.length hi-HT.sIx xs.length 0 lo)
def zS(xs:List V)(lo hi:Option Int):(fZ xs lo hi).length<=xs.length:=by
 unfold fZ
 rw[jh,kz]
 omega
def DY(K:W.Frag):V->Option Int->Option Int->Hp->VK->Prop:=λx lo hi H Q=>∃a xs,x=.ref a/\cu K H a xs /\
 ¬ (HT.sIx xs.length 0 lo=0/\HT.sIx xs.length xs.length hi=xs.length)/\∀p,H p=none->Q (.ref p) (ar H p (.tup (fZ xs lo hi)))
def HM:n6 X (DY X.K):=by
 intro pins s σ H x v vl vu lo hi sl Q I rx hs pl pu h
 obtain⟨a,xs,rfl,hx,hw,q⟩:=h
 cases rx
 obtain⟨its,r,ht,hz⟩:=I.tuple hx
 have hlen:its.toArray.size=xs.length:=by rw[cy];exact r.length.symm
 refine⟨"tuple",_,PyProof.Rows.slot_tuple_getitem.lookup,ht.typeIs,?_⟩
 refine HT.getItem_tuple_cut ht hs pl pu (by rw[hlen];exact hw) ?_ (by rw[hlen];exact hz)
 rw[hlen]
 refine⟨.ref s.heap.objs.size,_,I.laid (t':=s.toks) (o:=.tup (fZ xs lo hi)) (λb ob q=>ay _ q) (ba _) ?_,rfl,q _ (I.hok.fresh (ba _))⟩
 exact⟨bx (zS xs lo hi) hz,_,(r.drop (HT.sIx xs.length 0 lo)).take (HT.sIx xs.length xs.length hi-HT.sIx xs.length 0 lo),IsTup.new _ _⟩
def EX(K:W.Frag):R2:=λx y H Q=>∃a b xs ys,x=.ref a/\y=.ref b/\cu K H a xs/\cu K H b ys/\xs≠[]/\xs.length+ys.length<=sizeLine /\
 (ys=[]->Q (.ref a) H)/\(ys≠[]->∀p,H p=none->Q (.ref p) (ar H p (.tup (xs++ys))))
def aj.nil_iff{xs:List V}{us:List Value}(r:aj xs us):us=[]↔xs=[]:=by
 cases r with
 |nil=>simp
 |cons _ _=>simp
def Jd:cg X (binaryOp .Add) (EX X.K):=by
 intro pins s σ H x y v u Q I rx ry h
 obtain⟨a,b,xs,ys,rfl,rfl,ha,hb,hx,hz,q1,q2⟩:=h
 cases rx
 cases ry
 obtain⟨its,r1,p1,_⟩:=I.tuple ha
 obtain⟨its2,r2,p2,_⟩:=I.tuple hb
 refine HT.cat_tup p1 p2 (λz=>hx (r1.nil_iff.mp z)) (λz=>⟨.ref a,H,I,rfl,q1 (r2.nil_iff.mp z)⟩) (λz=>?_) (by rw[<-r1.length,<-r2.length];exact hz)
 refine⟨.ref s.heap.objs.size,_,I.laid (t':=s.toks) (o:=.tup (xs++ys)) (λb ob q=>ay _ q) (ba _) ?_,rfl,q2 (λw=>z (r2.nil_iff.mpr w)) _ (I.hok.fresh (ba _))⟩
 exact⟨by rw[b9];exact hz,_,r1.append r2,IsTup.new _ _⟩
end
def qf(n:Nat)(i:Int):Option Nat:=if 0<=i then(if i<n then some i.toNat else none) else if -(n:Int)<=i then some (i+n).toNat else none
def jd{α:Type}(xs:List α)(i:Int):Option α:=(qf xs.length i).bind λj=>xs[j]?
def Af{n:Nat}{i:Int}{j:Nat}(h:qf n i=some j):seqIndex? i n=some j/\j<n /\ -(n:Int)<=i/\i<n:=by
 unfold qf at h
 by_cases h0:0<=i
 ·rw[if_pos h0]at h
  by_cases h1:i<n
  ·rw[if_pos h1]at h
   have e:i.toNat=j:=Option.some.inj h
   exact⟨by rw[seqIndex_of h0 h1,e],by omega,by omega,h1⟩
  ·rw[if_neg h1]at h;cases h
 ·rw[if_neg h0]at h
  by_cases h1:-(n:Int)<=i
  ·rw[if_pos h1]at h
   have e:(i+n).toNat=j:=Option.some.inj h
   exact⟨by rw[seqIndex_neg (by omega) h1,e],by omega,h1,by omega⟩
  ·rw[if_neg h1]at h;cases h
def wS{α:Type}{xs:List α}{i:Int}{v:α}(h:jd xs i=some v):∃j,seqIndex? i xs.length=some j/\xs[j]?=some v/\j<xs.length /\ -(xs.length:Int)<=i/\i<xs.length:=by
 unfold jd at h
 cases e:qf xs.length i with
 |none=>rw[e]at h;cases h
 |some j=>
  rw[e]at h
  obtain⟨h1,h2,h3,h4⟩:=Af e
  exact⟨j,h1,h,h2,h3,h4⟩
def bH{α:Type}{xs:List α}{j:Nat}{v:α}(h:xs[j]?=some v):jd xs (j:Int)=some v:=by
 have hj:j<xs.length:=(qy_.mp h).1
 have e:qf xs.length (j:Int)=some j:=by
  unfold qf
  rw[if_pos (by omega),if_pos (by omega)];simp
 unfold jd;rw[e];exact h
def rN(b:Expr):Prop:=∀o i,subscripted b false o i=operate [o,i] (getItem o i)
def md(X:Cx)(r:R2):Prop:=
 ∀(value slice:Expr) (pins:List (Addr×Obj)) (s:Shared) (σ:St) (H:Hp) (x y:V) (v u:Value) (Q:VK),ag X pins σ H s->ai x v->ai y u->r x y H Q ->
  subscripted slice false v u=operate [v,u] (getItem v u)->wpAny (model X.prog X.w) X.A (subscriptTail value slice v u) (EP X pins σ Q) X.xe s
def sy(X:Cx)(id:String)(r:V->List V->Hp->VK->Prop):Prop:=
 ∀(pins:List (Addr×Obj)) (s:Shared) (σ:St) (H:Hp) (x:V) (xs:List V) (v:Value) (us:List Value) (Q:VK),ag X pins σ H s->ai x v->aj xs us->r x xs H Q ->
  wpAny (model X.prog X.w) X.A (call (.builtin id) (v::us)) (EP X pins σ Q) X.xe s
section
variable{X:Cx}{a b:Expr}{ta tb:TE}{pos:Pos}
def md.or{r r':R2}(h:md X r)(h':md X r'):md X (λx y H Q=>r x y H Q\/r' x y H Q):=by
 intro value slice pins s σ H x y v u Q I rx ry q hs
 rcases q with q|q
 ·exact h value slice pins s σ H x y v u Q I rx ry q hs
 ·exact h' value slice pins s σ H x y v u Q I rx ry q hs
def jE{r:R2}(hr:md X r)(ha:PE X a ta)(hb:PE X b tb)(hs:rN b):PE X (.Subscript a b pos) (sa r ta tb):=by
 intro pins s σ H Q I h
 exact Subscript_ (yR ha hb I h λv u s2 x y H2 I2 rx ry q=>hr a b pins s2 σ H2 x y v u Q I2 rx ry q (hs _ _))
def yd(K:W.Frag):R2:=λx y H Q=>∃p xs i v,x=.ref p/\y=.int i/\b5 K H p xs/\jd xs i=some v/\Q v H
def yf(K:W.Frag):R2:=λx y H Q=>∃p xs i v,x=.ref p/\y=.int i/\cu K H p xs/\jd xs i=some v/\Q v H
def ye:R2:=λx y H Q=>∃z i c,x=.str z/\y=.int i/\z.length<=sizeLine/\jd z.cps.toList i=some c/\Q (.str ⟨#[c]⟩) H
def ix_list:md X (yd X.K):=by
 intro value slice pins s σ H x y v u Q I rx ry h hs
 obtain⟨p,xs,i,z,rfl,rfl,hq,he,q⟩:=h
 cases rx
 obtain⟨t,rfl⟩:=ry
 obtain⟨its,r,pl,hz⟩:=I.list hq
 obtain⟨j,h1,h2,h3,h4,h5⟩:=wS he
 obtain⟨w,ew,rw'⟩:=r.get h2
 have hl:=r.length
 have hn:=mF
 have fin:EP X pins σ Q w s:=⟨z,H,I,rw',q⟩
 by_cases h0:0<=i
 ·have hj:i.toNat=j:=by
   rw[seqIndex_of h0 h5]at h1
   exact Option.some.inj h1
  exact item_listR pl.isList h0 (by omega) (by rw[hj];simpa using ew) fin hs
 ·have hj:(i+(its.toArray.size:Int)).toNat=j:=by
   rw[seqIndex_neg (by omega) h4]at h1
   rw[cy,<-hl]
   exact Option.some.inj h1
  exact subscriptTail_builtinR (x:=w) pl.isList.typeIs slot_list_getitem.lookup
   (wpAny_getItem_list_neg (Q:=λr s'=>r=w/\EP X pins σ Q r s') pl.isList (by omega) (by rw[cy]<;>omega) (by omega) (by rw[hj];simpa using ew) ⟨rfl,fin⟩) hs
def ix_tup:md X (yf X.K):=by
 intro value slice pins s σ H x y v u Q I rx ry h hs
 obtain⟨p,xs,i,z,rfl,rfl,hq,he,q⟩:=h
 cases rx
 obtain⟨t,rfl⟩:=ry
 obtain⟨its,r,pl,hz⟩:=I.tuple hq
 obtain⟨j,h1,h2,h3,h4,h5⟩:=wS he
 obtain⟨w,ew,rw'⟩:=r.get h2
 have hl:=r.length
 have hn:=mF
 have fin:EP X pins σ Q w s:=⟨z,H,I,rw',q⟩
 exact subscriptTail_builtinR (x:=w) pl.typeIs slot_tuple_getitem.lookup
  (getItem_tuple (j:=j) (Q:=λr s'=>r=w/\EP X pins σ Q r s') pl (by omega) (by omega) (by rw[cy,<-hl];exact h1) (by simpa using ew) ⟨rfl,fin⟩) hs
def GK:md X ye:=by
 intro value slice pins s σ H x y v u Q I rx ry h hs
 obtain⟨z,i,c,rfl,rfl,hz,he,q⟩:=h
 obtain⟨t,rfl⟩:=rx
 obtain⟨t',rfl⟩:=ry
 obtain⟨j,h1,h2,h3,h4,h5⟩:=wS he
 have hl:z.cps.toList.length=z.length:=by simp[Str.length]
 rw[hl]at h1 h4 h5
 have hn:=mF
 exact tail_any (typeIs_str s z t) slot_str_getitem.lookup (getItem_str (c:=c) (by
  have e1:decide (i < -(2 ^ 63:Int))=false:=g4 (by omega)
  have e2:decide (i>=2 ^ 63)=false:=g4 (by omega)
  rw[e1,e2,mx]) (by rw[h1];simpa using h2) ⟨.str ⟨#[c]⟩,H,I.tok _,⟨_,rfl⟩,q⟩) hs
def Nx(K:W.Frag):R2:=λx y H Q=>yd K x y H Q\/yf K x y H Q\/ye x y H Q
def ix_seq:md X (Nx X.K):=ix_list.or (ix_tup.or GK)
def MC(its:List Value)(n j:Nat)(u:Value):Obj.mapSeq (·.setIfInBounds j u) {cls:=.type "list",data:=.seq its.toArray n}={cls:=.type "list",data:=.seq (its.set j u).toArray n}:=by
 simp[Obj.mapSeq]
def ag.lst{pins:List (Addr×Obj)}{σ:St}{H:Hp}{s:Shared}{p:Addr}{xs:List V}(I:ag X pins σ H s)(h:H p=some (.lst xs)):
  ∃(its:List Value) (n:Nat),aj xs its/\s.heap.get? p=some {cls:=.type "list",data:=.seq its.toArray n}/\xs.length<=sizeLine:=by
 obtain⟨z,its,n,r,e⟩:=I.hok p _ h
 exact⟨its,n,r,e,z⟩
def ag.lstUpd{pins:List (Addr×Obj)}{σ:St}{H:Hp}{s:Shared}{p:Addr}{xs ys:List V}{its its':List Value}{n n':Nat}{f:Obj->Obj}(I:ag X pins σ H s)(h:H p=some (.lst xs))
  (ho:s.heap.get? p=some {cls:=.type "list",data:=.seq its.toArray n}) (hf:f {cls:=.type "list",data:=.seq its.toArray n}={cls:=.type "list",data:=.seq its'.toArray n'}) (r:aj ys its') (hz:ys.length<=sizeLine) (t:Nat):
  ag X pins σ (ar H p (.lst ys)) {s with heap:=s.heap.update p f,toks:=t}:=by
 have e:(s.heap.update p f).get? p=some {cls:=.type "list",data:=.seq its'.toArray n'}:=by
  rw[j4 f ho (by rw[hf]<;>rfl),hf]
 refine I.write (x:=p) (e:=p) (by rw[h];trivial) (.inl rfl) (λb u hb q=>(jq _ _ (Ne.symm hb)).trans q) ⟨_,e⟩ ?_
 exact⟨hz,its',n',r,e⟩
def E7:V->V->V->Hp->(Hp->Prop)->Prop:=λo i v H Q=>∃p xs k j,o=.ref p/\i=.int k/\H p=some (.lst xs)/\qf xs.length k=some j/\Q (ar H p (.lst (xs.set j v)))
def LC:yy X E7:=by
 intro pins s σ H o i v ov iv u Q I ro ri rv h
 obtain⟨p,xs,k,j,rfl,rfl,hp,hj,q⟩:=h
 cases ro
 obtain⟨t,rfl⟩:=ri
 obtain⟨its,n,r,ho,hz⟩:=I.lst hp
 obtain⟨h1,h2,h3,h4⟩:=Af hj
 have hl:=r.length
 have hn:=mF
 have I':ag X pins σ (ar H p (.lst (xs.set j v))) {s with heap:=s.heap.update p (Obj.mapSeq (·.setIfInBounds j u))}:=
  I.lstUpd hp ho (MC its n j u) (r.set rv j) (by rw[ib];exact hz) s.toks
 by_cases h0:0<=k
 ·have hk:k.toNat=j:=by
   rw[seqIndex_of h0 h4]at h1
   exact Option.some.inj h1
  exact PySem.W.ki_setAt ho h0 (by omega) (by rw[cy,<-hl];exact h4) (by rw[hk];exact⟨_,I',q⟩)
 ·have hk:(k+(its.toArray.size:Int)).toNat=j:=by
   rw[seqIndex_neg (by omega) h3]at h1
   rw[cy,<-hl]
   exact Option.some.inj h1
  exact PySem.W.ki_setBack ho (by omega) (by rw[cy,<-hl];exact h3) (by omega) (by rw[hk];exact⟨_,I',q⟩)
def Nb(lo hi:Option Int)(n:Nat):(sliceBounds lo hi none n).1=((HT.sIx n 0 lo:Nat):Int)/\(sliceBounds lo hi none n).2.1=((HT.sIx n n hi:Nat):Int)/\(sliceBounds lo hi none n).2.2=1:=by
 refine⟨?_,?_,rfl⟩
 ·cases lo with
  |none=>simp[sliceBounds,HT.sIx]
  |some i=>
   simp only[sliceBounds,HT.sIx,Option.getD_none,show(1:Int) > 0 by decide,if_true]
   by_cases h:i<0
   ·simp only[h,if_true]<;>omega
   ·simp only[h,if_false]<;>omega
 ·cases hi with
  |none=>simp[sliceBounds,HT.sIx]
  |some i=>
   simp only[sliceBounds,HT.sIx,Option.getD_none,show(1:Int) > 0 by decide,if_true]
   by_cases h:i<0
   ·simp only[h,if_true]<;>omega
   ·simp only[h,if_false]<;>omega
def MW(its:List Value)(lo hi:Option Int):slicePick its.toArray lo hi none=((its.drop (HT.sIx its.length 0 lo)).take (HT.sIx its.length its.length hi-HT.sIx its.length 0 lo)).toArray:=by
 obtain⟨h1,h2,h3⟩:=Nb lo hi its.toArray.size
 unfold slicePick
 rw[h1,h2,h3]
 simp only[sliceRange_one,pick_run,List.size_toArray]<;>rfl
def DW(K:W.Frag):V->Option Int->Option Int->Hp->VK->Prop:=λx lo hi H Q=>∃a xs,x=.ref a/\b5 K H a xs/\∀p,H p=none->Q (.ref p) (ar H p (.lst (fZ xs lo hi)))
def sl_list:n6 X (DW X.K):=by
 intro pins s σ H x v vl vu lo hi sl Q I rx hs pl pu h
 obtain⟨a,xs,rfl,hx,q⟩:=h
 cases rx
 obtain⟨its,r,ht,hz⟩:=I.list hx
 have hlen:=r.length
 refine⟨"list",_,slot_list_getitem.lookup,ht.isList.typeIs,?_⟩
 refine wpAny_getItem_list_slice ht.isList hs pl pu .none (by simp) ?_ (by rw[List.size_toArray]<;>omega)
 rw[MW,<-hlen]
 refine⟨.ref s.heap.objs.size,_,I.laid (t':=s.toks) (o:=.lst (fZ xs lo hi)) (λb ob q=>ay _ q) (ba _) ?_,rfl,q _ (I.hok.fresh (ba _))⟩
 exact⟨bx (zS xs lo hi) hz,_,0,(r.drop (HT.sIx xs.length 0 lo)).take (HT.sIx xs.length xs.length hi-HT.sIx xs.length 0 lo),b6 _ rfl⟩
def dL:V->Bool
 |.non=>true
 |.bl _=>true
 |.int _=>true
 |.str _=>true
 |_=>false
def dc:V->V->Bool
 |.non,.non=>true
 |.bl a,.bl b=>a==b
 |.bl a,.int b=>(if a then 1 else 0)==b
 |.int a,.bl b=>a==(if b then 1 else 0)
 |.int a,.int b=>a==b
 |.str a,.str b=>a==b
 |_,_=>false
def An{A:Around}{s:Shared}{y x:V}{u v:Value}(ry:ai y u)(rx:ai x v)(fy:dL y=true)(fx:dL x=true):SeqAt.EqAt A s u v (dc y x):=by
 cases y with
 |non=>
  cases ry
  cases x with
  |non=>cases rx;exact SeqAt.EqAt.same _
  |bl b=>cases rx;exact SeqAt.EqAt.none_bool b
  |int b=>obtain⟨t,rfl⟩:=rx;exact SeqAt.EqAt.none_int b t
  |str b=>obtain⟨t,rfl⟩:=rx;exact SeqAt.EqAt.none_str b t
  |_=>exact absurd (show false=true from fx) cb
 |bl a=>
  cases ry
  cases x with
  |non=>cases rx;exact SeqAt.EqAt.bool_none a
  |bl b=>cases rx;exact SeqAt.EqAt.bool_bool a b
  |int b=>obtain⟨t,rfl⟩:=rx;exact SeqAt.EqAt.bool_int a b t
  |str b=>obtain⟨t,rfl⟩:=rx;exact SeqAt.EqAt.bool_str a b t
  |_=>exact absurd (show false=true from fx) cb
 |int a=>
  obtain⟨t',rfl⟩:=ry
  cases x with
  |non=>cases rx;exact SeqAt.EqAt.int_none a t'
  |bl b=>cases rx;exact SeqAt.EqAt.int_bool a t' b
  |int b=>obtain⟨t,rfl⟩:=rx;exact SeqAt.EqAt.int_int a t' b t
  |str b=>obtain⟨t,rfl⟩:=rx;exact SeqAt.EqAt.int_str a t' b t
  |_=>exact absurd (show false=true from fx) cb
 |str a=>
  obtain⟨t',rfl⟩:=ry
  cases x with
  |non=>cases rx;exact SeqAt.EqAt.str_none a t'
  |bl b=>cases rx;exact SeqAt.EqAt.str_bool a t' b
  |int b=>obtain⟨t,rfl⟩:=rx;exact SeqAt.EqAt.str_int a t' b t
  |str b=>obtain⟨t,rfl⟩:=rx;exact SeqAt.EqAt.str_str a t' b t
  |_=>exact absurd (show false=true from fx) cb
 |_=>exact absurd (show false=true from fy) cb
def op_notIn_str:cg X (compareOp .NotIn) (λx y H Q=>∃i j,x=.str i/\y=.str j/\Q (.bl (!(!(Builtin.Str.occurrences j i 0 j.length 1).isEmpty))) H):=by
 intro pins s σ H x y v u Q I rx ry h
 obtain⟨i,j,rfl,rfl,q⟩:=h
 obtain⟨t,rfl⟩:=rx
 obtain⟨t',rfl⟩:=ry
 exact notIn_str ⟨.bl _,H,I,rfl,q⟩
def call_len_seq:aq X (.builtin "len") (λxs H Q=>∃p ys,xs=[.ref p]/\(b5 X.K H p ys\/cu X.K H p ys)/\Q (.int ys.length) H):=by
 intro pins s σ H xs us Q I r h
 obtain⟨p,ys,rfl,hq,q⟩:=h
 obtain⟨u,rfl,rx⟩:=cR r
 cases rx
 have hn:=mF
 rcases hq with hq|hq
 ·obtain⟨its,r',pl,hz⟩:=I.list hq
  have hlen:=r'.length
  exact Calls.call_len_list pl.isList (by simp only[List.size_toArray]<;>omega) ⟨.int ys.length,H,I.tok _,⟨s.toks+1,by rw[cy,hlen]⟩,q⟩
 ·obtain⟨its,r',pl,hz⟩:=I.tuple hq
  have hlen:=r'.length
  exact len_tuple pl (by simp only[List.size_toArray]<;>omega) ⟨.int ys.length,H,I.tok _,⟨s.toks+1,by rw[cy,hlen]⟩,q⟩
def call_len_str:aq X (.builtin "len") (λxs H Q=>∃z,xs=[.str z]/\z.length<=sizeLine/\Q (.int z.length) H):=by
 intro pins s σ H xs us Q I r h
 obtain⟨z,rfl,hz,q⟩:=h
 obtain⟨u,rfl,t,rfl⟩:=cR r
 have hn:=mF
 exact len_str (by omega) ⟨.int z.length,H,I.tok _,⟨_,rfl⟩,q⟩
def aq.or{f:Value}{r r':List V->Hp->VK->Prop}(h:aq X f r)(h':aq X f r'):aq X f (λxs H Q=>r xs H Q\/r' xs H Q):=by
 intro pins s σ H xs us Q I rs q
 rcases q with q|q
 ·exact h pins s σ H xs us Q I rs q
 ·exact h' pins s σ H xs us Q I rs q
def zM:aq X (.type "list") (λxs H Q=>∃p ys,xs=[.ref p]/\(b5 X.K H p ys\/cu X.K H p ys)/\∀l,H l=none->Q (.ref l) (ar H l (.lst ys))):=by
 intro pins s σ H xs us Q I r h
 obtain⟨p,ys,rfl,hq,q⟩:=h
 obtain⟨u,rfl,rx⟩:=cR r
 cases rx
 have fin:∀(its:List Value),aj ys its->ys.length<=sizeLine->∀(h':Heap) (c':Nat),(∀b o',s.heap.get? b=some o'->h'.get? b=some o') ->
   h'.get? s.heap.objs.size=some {cls:=.type "list",dict:=none,data:=.seq its.toArray c',slots:=#[]}->EP X pins σ Q (.ref s.heap.objs.size) {s with heap:=h'}:=λits r' hz h' c' kp e=>
  ⟨.ref s.heap.objs.size,_,I.laid (t':=s.toks) kp (ba _) (show aw X.prog X.w _ h' _ (.lst ys) from ⟨hz,its,c',r',e⟩),rfl,q _ (I.hok.fresh (ba _))⟩
 rcases hq with hq|hq
 ·obtain⟨its,r',pl,hz⟩:=I.list hq
  have hlen:=r'.length
  obtain⟨o,ho,hc,n,hd⟩:=pl.isList
  exact call_list_seq p (.inl rfl) ho hc hd (λh' c' kp e=>fin its r' hz h' c' kp e) (by simp only[List.size_toArray]<;>omega)
 ·obtain⟨its,r',pl,hz⟩:=I.tuple hq
  have hlen:=r'.length
  obtain⟨o,ho,hc,n,hd⟩:=pl
  exact call_list_seq p (.inr rfl) ho hc hd (λh' c' kp e=>fin its r' hz h' c' kp e) (by simp only[List.size_toArray]<;>omega)
def MS:aq X (.type "tuple") (λxs H Q=>∃p ys,xs=[.ref p]/\((b5 X.K H p ys/\∀l,H l=none->Q (.ref l) (ar H l (.tup ys)))\/(cu X.K H p ys/\Q (.ref p) H))):=by
 intro pins s σ H xs us Q I r h
 obtain⟨p,ys,rfl,h⟩:=h
 obtain⟨u,rfl,rx⟩:=cR r
 cases rx
 rcases h with⟨hq,q⟩|⟨hq,q⟩
 ·obtain⟨its,r',pl,hz⟩:=I.list hq
  have hlen:=r'.length
  refine call_tuple_list pl.isList (λh' kp=>?_) (by simp only[List.size_toArray]<;>omega)
  have I1:ag X pins σ H {s with heap:=h'}:=I.kept (t':=s.toks) kp
  have I2:ag X pins σ (ar H h'.objs.size (.tup ys)) {s with heap:=h'.push {cls:=.type "tuple",data:=.seq its.toArray}}:=
   I1.laid (t':=s.toks) (λb o e=>ay _ e) (ba _) (show aw X.prog X.w _ _ _ (.tup ys) from ⟨hz,its,r',IsTup.new _ _⟩)
  exact⟨.ref h'.objs.size,_,I2,rfl,q _ (I1.hok.fresh (ba _))⟩
 ·obtain⟨its,r',pl,hz⟩:=I.tuple hq
  exact call_tuple_same pl ⟨.ref p,H,I,rfl,q⟩
def wq(K:W.Frag)(T:String)(x:V)(H:Hp):Prop:=match x with
 |.str _=>T="str"
 |.int _=>T="int"
 |.ref p=>(T="list"/\∃xs,b5 K H p xs)\/(T="tuple"/\∃o,K.lookup p=some o/\o.cls=.type "tuple"/\o.dict=none) \/
   (T="dict"/\((∃kvs,H p=some (.dK kvs))\/∃kvs,H p=some (.dT kvs)))\/(T="set"/\∃S n,H p=some (.set S n))
 |_=>False
def zl{pins:List (Addr×Obj)}{σ:St}{H:Hp}{s:Shared}{T:String}{x:V}{v:Value}(I:ag X pins σ H s)(r:ai x v)(ty:wq X.K T x H):
  s.TypeIs v T/\∀a,v=.ref a->∃ob,s.heap.get? a=some ob/\ob.dict=none:=by
 cases x with
 |str z=>
  obtain⟨t,rfl⟩:=r
  cases (show T="str" from ty)
  exact⟨typeIs_str s z t,λ_ e=>nomatch e⟩
 |int i=>
  obtain⟨t,rfl⟩:=r
  cases (show T="int" from ty)
  exact⟨typeIs_int s i t,λ_ e=>nomatch e⟩
 |ref p=>
  cases r
  rcases ty with⟨rfl,xs,hq⟩|⟨rfl,o,hk,hc,hd⟩|⟨rfl,hk⟩|⟨rfl,S,n,hk⟩
  ·obtain⟨its,_,pl,_⟩:=I.list hq
   refine⟨pl.isList.typeIs,λa e=>?_⟩
   cases e
   obtain⟨o,n,e,c,hd,_⟩:=pl
   exact⟨o,e,hd⟩
  ·refine⟨⟨o,I.kIn p o hk,hc⟩,λa e=>?_⟩
   cases e
   exact⟨o,I.kIn _ o hk,hd⟩
  ·have z:∃o,s.heap.get? p=some o/\o.ExactDict:=by
    rcases hk with⟨kvs,hk⟩|⟨kvs,hk⟩
    ·obtain⟨_,_,_,_,o,_,_,e,ex,_⟩:=I.hok p _ hk
     exact⟨o,e,ex⟩
    ·obtain⟨_,_,_,_,o,_,_,e,ex,_⟩:=I.hok p _ hk
     exact⟨o,e,ex⟩
   obtain⟨o,e,ex⟩:=z
   refine⟨⟨o,e,ex.1⟩,λa e2=>?_⟩
   cases e2
   exact⟨o,e,ex.2.1⟩
  ·obtain⟨o,_,_,_,e,ex,_⟩:=I.hok p _ hk
   refine⟨⟨o,e,ex.1⟩,λa e2=>?_⟩
   cases e2
   exact⟨o,e,ex.2.1⟩
 |_=>exact False.elim ty
def D4(K:W.Frag)(T:String)(r:V->List V->Hp->VK->Prop)(to:TE):TE:=λσ H Q=>to σ H λx H1=>wq K T x H1/\r x [] H1 Q
def Nu(K:W.Frag)(T:String)(r:V->List V->Hp->VK->Prop)(to:TE)(t:TA):TE:=λσ H Q=>to σ H λx H1=>wq K T x H1/\t σ H1 λxs H2=>r x xs H2 Q
variable{o e:Expr}{es:List Expr}{to:TE}{t:TA}{name:Str}{apos cpos:Pos}{T id:String}{r:V->List V->Hp->VK->Prop}
def AC(pa:PlainAttrs T)(slot:Slot T name id)(hty:typeOf (.builtin id)=pure (.type "method_descriptor"))(hm:sy X id r)(ho:PE X o to)
  (hbase:attributeBase o name X.env (eval o X.env)=eval o X.env:=by rfl) (hline:(apos.endLine==cpos.line)=true:=by rfl):PE X (.Call (.Attribute o name apos) [] [] cpos) (D4 X.K T r to):=by
 intro pins s σ H Q I h
 refine wpAny_Call_method0_late hbase hline (bf (ho pins s σ H _ I h) λv s1 ⟨x,H1,I1,r1,ty,q1⟩=>?_)
 obtain⟨h1,h2⟩:=zl I1 r1 ty
 exact⟨T,id,pa,slot,hty,h1,h2,Calls.callWith_builtin rfl (PySem.evalArgs_none (hm pins s1 σ H1 x [] v [] Q I1 r1 .nil q1))⟩
def oU(pa:PlainAttrs T)(slot:Slot T name id)(hty:typeOf (.builtin id)=pure (.type "method_descriptor"))(hm:sy X id r)(ho:PE X o to)(ha:PA X (e::es) t)
  (hbase:attributeBase o name X.env (eval o X.env)=eval o X.env:=by rfl)
  (hfew:((backTo cpos (starEach (e::es) X.env)).all (λx=>!x.1)&&(backToKw cpos (keywordEach [] X.env)).all (λx=>x.1.isSome)
   && decide ((e::es).length+([]:List Keyword).length+(if ([]:List Keyword).isEmpty then 0 else 1)<30))=true:=by rfl)
  (hline:(apos.endLine==cpos.line)=true:=by rfl) (hs:starEach (e::es) X.env=(false,eval e X.env)::starEach es X.env:=by rfl) (hplain:(backTo cpos (starEach es X.env)).any (·.1)=false:=by rfl):
  PE X (.Call (.Attribute o name apos) (e::es) [] cpos) (Nu X.K T r to t):=by
 intro pins s σ H Q I h
 refine wpAny_Call_method_late hbase hfew hline rfl (bf (ho pins s σ H _ I h) λv s1 ⟨x,H1,I1,r1,ty,q1⟩=>?_)
 obtain⟨h1,h2⟩:=zl I1 r1 ty
 refine⟨T,id,pa,slot,hty,h1,h2,?_⟩
 have hA:=ha cpos pins s1 σ H1 _ I1 q1
 rw[hs]at hA ⊢
 refine Calls.callWith_builtin (by show(false || (backTo cpos (starEach es X.env)).any (·.1))=false;rw[hplain]<;>rfl) (Calls.evalArgs_plain ?_)
 exact bf hA λus s2 ⟨vs,H2,I2,r2,q2⟩=>hm pins s2 σ H2 x vs v us Q I2 r1 r2 q2
end
def ql(X:Cx)(id:String)(r:V->List V->Hp->VK->Prop):Prop:=
 ∀(pins:List (Addr×Obj)) (s:Shared) (σ:St) (H:Hp) (x:V) (xs:List V) (v:Value) (us:List Value) (Q:VK),ag X pins σ H s->ai x v->aj xs us->r x xs H Q ->
  wpAny (model X.prog X.w) X.A (call (.builtin id) (v::us)) (EP X pins σ Q) X.xe s
def aj.one:∀{x:V}{us:List Value},aj [x] us->∃u,us=[u]/\ai x u
 |_,_,.cons r .nil=>⟨_,rfl,r⟩
def aj.zero:∀{us:List Value},aj [] us->us=[]
 |_,.nil=>rfl
def aj.dropLast{xs:List V}{us:List Value}(h:aj xs us):aj xs.dropLast us.dropLast:=by
 induction h with
 |nil=>exact .nil
 |cons r t ih=>
  cases t with
  |nil=>exact .nil
  |cons q t'=>exact .cons r ih
def aj.eraseIdx:∀{xs:List V}{us:List Value}(i:Nat),aj xs us->aj (xs.eraseIdx i) (us.eraseIdx i)
 |_,_,_,.nil=>.nil
 |_,_,0,.cons _ t=>t
 |_,_,i+1,.cons r t=>.cons r (aj.eraseIdx i t)
def aj.reverse{xs:List V}{us:List Value}(h:aj xs us):aj xs.reverse us.reverse:=by
 induction h with
 |nil=>exact .nil
 |cons r t ih=>rw[kf,kf];exact aj.append ih (.cons r .nil)
def aj.rep{xs:List V}{us:List Value}(h:aj xs us):∀k:Nat,aj (List.replicate k xs).flatten (List.replicate k us).flatten
 |0=>.nil
 |k+1=>by
  rw[gh,gh,gg,gg]
  exact aj.append h (aj.rep h k)
def Mz{α:Type}(l:List α):l.eraseIdx (l.length-1)=l.dropLast:=by
 induction l with
 |nil=>rfl
 |cons a r ih=>
  cases r with
  |nil=>rfl
  |cons b r=>
   have e:(a::b::r).length-1=((b::r).length-1)+1:=by
    have h1:(a::b::r).length=r.length+2:=rfl
    have h2:(b::r).length=r.length+1:=rfl
    omega
   rw[e,List.eraseIdx_cons_succ,ih]
   all_goals rfl
def CL{α:Type}:∀(l:List α) (i:Nat),(l.eraseIdx i).length<=l.length
 |[],_=>ba _
 |_::_,0=>gf _
 |_::r,i+1=>Nat.succ_le_succ (CL r i)
def CG(its:List Value):∀(k:Nat) (acc:List Value),
  List.foldl (λx1 x2=>x1++x2) acc.toArray (List.replicate k its.toArray)=(acc++(List.replicate k its).flatten).toArray
 |0,acc=>by simp
 |k+1,acc=>by
  have e:acc.toArray++its.toArray=(acc++its).toArray:=by simp
  have e2:(acc++its)++(List.replicate k its).flatten=acc++(List.replicate (k+1) its).flatten:=by
   rw[gh,gg,jo]
  rw[<-e2,<-CG its k (acc++its),<-e,gh,ia]
section
variable{X:Cx}{pins:List (Addr×Obj)}{σ:St}{H:Hp}{s:Shared}{l b:Addr}{xs ys zs:List V}
def ag.lset{its its':List Value}{n:Nat}{f:Array Value->Array Value}{t':Nat}(I:ag X pins σ H s)(hH:H l=some (.lst xs))
  (e:s.heap.get? l=some {cls:=.type "list",data:=.seq its.toArray n}) (hf:f its.toArray=its'.toArray) (hv:aj ys its') (hz:ys.length<=sizeLine):
  ag X pins σ (ar H l (.lst ys)) {s with heap:=s.heap.update l (Obj.mapSeq f),toks:=t'}:=by
 have q:=PySem.IsL.update e f
 rw[hf]at q
 refine I.write (x:=l) (e:=l) (by rw[hH];exact trivial) (.inl rfl) (λb' u hb hu=>(jq s.heap (Obj.mapSeq f) (Ne.symm hb)).trans hu) ⟨_,q⟩ ?_
 exact⟨hz,its',_,hv,q⟩
def ag.lnew{its:List Value}{t':Nat}(I:ag X pins σ H s)(hv:aj ys its)(hz:ys.length<=sizeLine):
  ag X pins σ (ar H s.heap.objs.size (.lst ys)) {s with heap:=s.heap.push {cls:=.type "list",data:=.seq its.toArray},toks:=t'}:=
 I.laid (λ_ _ q=>ay _ q) (ba _) ⟨hz,its,0,hv,b6 _ rfl⟩
def ag.fresh(I:ag X pins σ H s):H s.heap.objs.size=none:=I.hok.fresh (ba _)
def ag.lstM(I:ag X pins σ H s)(hH:H l=some (.lst xs)):xs.length<=sizeLine/\∃(its:List Value) (n:Nat),aj xs its/\xs.length=its.length/\s.heap.get? l=some {cls:=.type "list",data:=.seq its.toArray n}:=by
 obtain⟨z,its,n,r,e⟩:=I.hok l _ hH
 exact⟨z,its,n,r,r.length,e⟩
def Bh{n:Nat}(h:n<=sizeLine):Builtin.List.listTooLong n=false:=by
 unfold Builtin.List.listTooLong
 exact g4 (by omega)
end
section
variable{X:Cx}
def Iy:V->List V->Hp->VK->Prop:=λx vs H Q=>∃l xs y,x=.ref l/\vs=[y]/\H l=some (.lst xs)/\xs.length<sizeLine/\Q .non (ar H l (.lst (xs++[y])))
theorem uT:ql X "list.append" Iy:=by
 intro pins s σ H x vs v us Q I rx rv h
 obtain⟨l,xs,y,rfl,rfl,hH,hz,q⟩:=h
 cases rx
 obtain⟨u,rfl,ru⟩:=rv.one
 obtain⟨z,its,n,r,hl,e⟩:=I.lstM hH
 refine call_meets F.slot_list_append ⟨_,e,rfl⟩ F.entry_list_append (F.args_list_append_2 _ _) (PySem.list_append l its.toArray n u (by rw[cy];omega)) ⟨e,?_⟩
 refine⟨.non,_,I.lset (its':=its++[u]) hH e (by simp) (r.append (.cons ru .nil)) ?_,rfl,q⟩
 rw[b9,ke]
 omega
def DU:V->List V->Hp->VK->Prop:=λx vs H Q=>∃l xs y,x=.ref l/\vs=[]/\H l=some (.lst xs)/\xs[xs.length-1]?=some y/\Q y (ar H l (.lst xs.dropLast))
theorem GU:ql X "list.pop" DU:=by
 intro pins s σ H x vs v us Q I rx rv h
 obtain⟨l,xs,y,rfl,rfl,hH,hy,q⟩:=h
 cases rx
 have hus:=rv.zero
 subst hus
 obtain⟨z,its,n,r,hl,e⟩:=I.lstM hH
 obtain⟨u,hu,ru⟩:=r.get hy
 have hy':its.toArray[its.toArray.size-1]?=some u:=by
  show its.toArray[its.length-1]?=some u
  rw[<-d7,<-hl]
  exact hu
 refine call_meets F.slot_list_pop ⟨_,e,rfl⟩ F.entry_list_pop (F.args_list_pop_1 _) (MeetsSeq.list_pop_last l its.toArray n u hy' (by rw[cy];omega)) ⟨e,?_⟩
 refine⟨y,_,I.lset (its':=its.dropLast) hH e ?_ r.dropLast ?_,ru,q⟩
 ·show its.toArray.eraseIdxIfInBounds (its.toArray.size-1)=its.dropLast.toArray
  rw[cy,t4,Mz]
 ·rw[List.length_dropLast]
  omega
def Hz:V->List V->Hp->VK->Prop:=λx vs H Q=>∃l xs i k y,x=.ref l/\vs=[.int i]/\H l=some (.lst xs) /\ -(2 ^ 63)<=i/\i<2 ^ 63/\seqIndex? i xs.length=some k/\xs[k]?=some y/\Q y (ar H l (.lst (xs.eraseIdx k)))
theorem JI:ql X "list.pop" Hz:=by
 intro pins s σ H x vs v us Q I rx rv h
 obtain⟨l,xs,i,k,y,rfl,rfl,hH,h1,h2,hk,hy,q⟩:=h
 cases rx
 obtain⟨u,rfl,ru⟩:=rv.one
 obtain⟨t,rfl⟩:=ru
 obtain⟨z,its,n,r,hl,e⟩:=I.lstM hH
 obtain⟨w,hw,rw'⟩:=r.get hy
 refine call_meets F.slot_list_pop ⟨_,e,rfl⟩ F.entry_list_pop (F.args_list_pop_2 _ _)
  (MeetsSeq.list_pop_at l its.toArray n i t k w (fitsIndex_both h1 h2) (by rw[cy,<-hl];exact hk) (by rw[<-d7];exact hw) (by rw[cy];omega)) ⟨e,?_⟩
 refine⟨y,_,I.lset (its':=its.eraseIdx k) hH e ?_ (r.eraseIdx k) ?_,rw',q⟩
 ·show its.toArray.eraseIdxIfInBounds k=(its.eraseIdx k).toArray
  rw[t4]
 ·have:=CL xs k
  omega
def J1:V->List V->Hp->VK->Prop:=λx vs H Q=>∃l xs,x=.ref l/\vs=[]/\H l=some (.lst xs)/\Q .non (ar H l (.lst xs.reverse))
theorem LN:ql X "list.reverse" J1:=by
 intro pins s σ H x vs v us Q I rx rv h
 obtain⟨l,xs,rfl,rfl,hH,q⟩:=h
 cases rx
 have hus:=rv.zero
 subst hus
 obtain⟨z,its,n,r,hl,e⟩:=I.lstM hH
 refine call_meets F.slot_list_reverse ⟨_,e,rfl⟩ F.entry_list_reverse (F.args_list_reverse_1 _) (AutoSeq1.list_reverse_list_0 l its.toArray n (by rw[cy];omega)) ⟨e,?_⟩
 refine⟨.non,_,I.lset (its':=its.reverse) hH e (by simp) r.reverse ?_,rfl,q⟩
 rw[jn]
 omega
def wJ{α:Type}(xs:List α)(k:Nat):(List.replicate k xs).flatten.length=k*xs.length:=by
 induction k with
 |zero=>simp
 |succ k ih=>rw[gh,gg,b9,ih,Nat.succ_mul,Nat.add_comm]
end
end L2
namespace Att
open PySem PySem.W PySem.Calls PyProof.Rows
def M1{P:Params}{h:Heap}:∀(ns:List Int) (vs:List Value),WellAll P h vs (ns.map WData.int)->IntsAre vs ns:=by
 intro ns
 induction ns with
 |nil=>
  intro vs w
  rw[my]at w
  cases w
  exact .nil
 |cons n ns ih=>
  intro vs w
  rw[e9]at w
  cases w with
  |cons a b=>
   cases a
   exact .cons _ _ (ih _ b)
def MI{l:OpenLaw}{n:Nat}(hn:l.most=some n){P:Params}{h:Heap}{args:List WData}{vals:List Value}
  (hpre:l.row.toRowW.claim.pre args=true) (hwl:WellAll P h vals args):
  ∃a vs ns,vals=[Value.ref a]/\args=[WData.list (ns.map WData.int)]/\h.get? a=some {cls:=.type "list",data:=.seq vs.toArray}/\IntsAre vs ns/\ns.length<=n:=by
 have hsh:WShape.hasAll [] args [.list .int]=true:=(pre_splitW hpre).1
 have hc:l.pre.holds [] {args:=args}=true:=(pre_splitW hpre).2
 obtain⟨d,r,rfl,h1,h2⟩:=hasAllW_cons hsh
 obtain rfl:=hasAllW_nil h2
 obtain⟨xs,rfl,h3⟩:=hasW_list h1
 obtain⟨ns,rfl⟩:=items_int h3
 have hlen:ns.length<=n:=by
  unfold OpenLaw.pre at hc
  have h4:(WTm.not (.lt (.lit (.int (n:Int))) (.len (.arg 0)))).holds [] {args:=[.list (ns.map .int)]}=true:=by
   have h4:=(holds_andW hc).1
   rw[hn]at h4
   exact h4
  have h5:=condW_of h4 (w_not (w_lt w_lit (w_len_list (w_arg rfl))))
  rw[ao]at h5
  refine Nat.le_of_not_lt λq=>?_
  have q':(n:Int)<((ns.length:Nat):Int):=by omega
  first
   |(rw[i_ q']at h5;exact absurd h5 (by decide))
   |(simp at h5;omega)
 cases hwl with
 |cons w1 w2=>
  cases w2
  cases w1 with
  |list ho hall=>exact⟨_,_,ns,rfl,rfl,ho,M1 ns _ hall,hlen⟩
def K9(l:OpenLaw)(args:List WData):l.row.toRowW.claim.post args (.bool true) args=true:=
 postW_of (r:=l.row.toRowW) (X:=(true==true))
  (show WShape.has [] (.bool true) .bool=true by first|rfl|decide|simp[WShape.has,WShape.arms,WShape.armsAll])
  (show(WTm.eq .res (.lit (.bool true))).value [] {args:=args,res:=some (.bool true),after:=args}=some (.bool (true==true)) from w_eq_bool (w_res rfl) w_lit) rfl
def attach_call{l:OpenLaw}{n:Nat}{q:Program}{loose:List Str}{XP:(Str->Option Value)->Heap->Prop}{YP:World->Heap->Prop}{d:DefRec}
  (hn:l.most=some n) (hdf:d.params.defaults=[])
  (call:∀(w:World) (s₀ s₁:Shared) (mg mb:Str->Option Value) (fa:Addr) (o:Obj) (pm cd doc:Value) (a:Addr) (vs:List Value) (ns:List Int),
   Ground q loose [] XP w s₀ mg mb s₁.heap->YP w s₁.heap ->
   s₁.heap.get? fa=some o->o.data=.func (docDef d.name d.params d.body d.scope pm cd doc)->s₁.heap.CodeRec cd d.name->mg d.name=some (.ref fa) ->
   s₁.heap.get? a=some {cls:=.type "list",data:=.seq vs.toArray}->IntsAre vs ns->ns.length<=n->s₁.gens=#[] ->
   codeAny (model l.prog w) callerA (.call (.ref fa) ⟨[.ref a],[]⟩) (λr s'=>r=.ok (.ret (.bool true))/\OldK s₁.heap s'.heap/\s'.os=s₁.os/\AllBare s'.gens) s₁):
  WalkO q loose XP YP l.row.toRowW d [] (λf vs=>PySem.call f vs):=by
 intro w s₀ s₁ mg mb G Y fa o pm cd doc dV kV ho hd hcd hD hmg hg args vals as hpre hlay hrd hwl hlo
 obtain rfl:dV=.none:=Dflts.none hD hdf
 obtain rfl:kV=.none:=Dflts.noKw hD
 obtain⟨a,vs,ns,rfl,rfl,hobj,hints,hlen⟩:=MI hn hpre hwl
 refine enter_call (codeAny_mono (call w s₀ s₁ mg mb fa o pm cd doc a vs ns G Y ho (fd_plain hd) hcd hmg hobj hints hlen hg) λr s' hq=>?_)
 obtain⟨rfl,h2,h3,h4⟩:=hq
 exact⟨.inl ⟨.bool true,.bool true,[],rfl,λ_=>rfl,.bool true,K9 l _,λ_=>⟨List.Pairwise.nil,λ_ hm=>(nomatch hm)⟩⟩,h2,h3,h4⟩
end Att
namespace L2
open PySem PySem.Spec PyProof.Rows
theorem B8:∀{vs:List Value}{ns:List Int},IntsAre vs ns->aj (ns.map V.int) vs
 |_,_,.nil=>.nil
 |_,_,.cons n t h=>.cons ⟨t,rfl⟩ (B8 h)
def yW(H:Hp):Prop:=∀b,H b=none\/∃o xs,H b=some (.frz o (.lst xs))
theorem Kr{P:Program}{w:World}{K:W.Frag}{mg mb:Str->Option Value}{CX:mf}{k:Nat}{fa a:Addr}{fd:FuncData}{x:Str}{sp:Sp}{s₁:Shared}{vs:List Value}{ns:List Int}
  (KX:K.In s₁.heap) (hns:s₁.heap.Ns mainGlobals mg) (hb:s₁.heap.Ns builtinsNs mb) (hbb:∀x:Str,x≠"__name__"->mb x=bootBuiltins x) (hlim:s₁.heap.NoLimit) (hg:s₁.gens=#[])
  (ha:s₁.heap.get? a=some {cls:=.type "list",data:=.seq vs.toArray}) (hi:IntsAre vs ns) (hl:ns.length<=sizeLine) (hr:bt k callerA)
  (F:∀base:Heap,K.In base->base.Ns mainGlobals mg->df P w K mg base CX k fa fd [x] sp) (hbind:∀(s:Shared) (u:Value),BindsTo s fd ⟨[u],[]⟩ [(x,u)])
  (hsp:∀H:Hp,yW H->b5 K H a (ns.map V.int)->sp [.ref a] H (λv _=>v=.bl true) λ_ _ _=>False)
  (hCX:∀H e s',CX [] H s₁ (λ_ _ _=>False) e s'->False):
  codeAny (model P w) callerA (.call (.ref fa) ⟨[.ref a],[]⟩) (λr s'=>r=.ok (.ret (.bool true))/\OldK s₁.heap s'.heap/\s'.os=s₁.os/\AllBare s'.gens) s₁:=by
 have rv:=B8 hi
 have lenV:=hi.length
 -- from an abstract heap in which nothing but the script may be tracked
 have core:∀H:Hp,yW H->b5 K H a (ns.map V.int)->du P w H s₁.heap->(∀b,H b≠none->b=a)->(H a≠none->K.lookup a=none) ->
   codeAny (model P w) callerA (.call (.ref fa) ⟨[.ref a],[]⟩) (λr s'=>r=.ok (.ret (.bool true))/\OldK s₁.heap s'.heap/\s'.os=s₁.os/\AllBare s'.gens) s₁:=by
  intro H hO hS hok hA hK
  have base_of:∀{b:Addr} {o:Obj},s₁.heap.get? b=some o->H b=none->(jH s₁.heap H).get? b=some o:=λe n=>Kj e n
  have noA:∀{b:Addr} {o:Obj} {es:Array DictEntry} {ep:Nat},s₁.heap.get? b=some o->o.data=.dict es ep->H b=none:=λ{b o es ep} e d=>by
   cases q:H b with
   |none=>rfl
   |some u=>
    have e':b=a:=hA b (by rw[q];simp)
    subst e'
    rw[ha]at e;cases e
    have d':Data.seq vs.toArray _=Data.dict es ep:=d
    cases d'
  have nsK:∀{b:Addr} {m:Str->Option Value},s₁.heap.Ns b m->(jH s₁.heap H).Ns b m:=λ{b m} ⟨o,es,ep,e,d,r⟩=>⟨o,es,ep,base_of e (noA e d),d,r⟩
  have hKb:K.In (jH s₁.heap H):=λb o e=>base_of (KX b o e) (by
   cases q:H b with
   |none=>rfl
   |some u=>
    have e':b=a:=hA b (by rw[q];simp)
    subst e'
    rw[hK (by rw[q];simp)]at e;cases e)
  have hM:Mod K mg (jH s₁.heap H):=⟨hKb,nsK hns,⟨mb,nsK hb,hbb⟩,let ⟨mc,h1,h2⟩:=hlim;⟨mc,nsK h1,h2⟩⟩
  have e0:tT P w K mg (jH s₁.heap H) callerA [] s₁ H:=⟨rfl,hM,λb o e=>Jb e,Nat.le_of_eq (KO _ _),trivial,λb hb=>absurd (show b∈([]:List Addr) from hb) (by simp),hok,.of_eq hg⟩
  refine codeAny_mono ((F _ hKb (nsK hns)).run callerA [] s₁ H ⟨[.ref a],[]⟩ [.ref a] [.ref a] _ _ hr e0 (hbind s₁ (.ref a)) (.cons rfl .nil) (hsp H hO hS)) λr s' h=>?_
  cases r with
  |error e=>exact(hCX H e s' h).elim
  |ok fl=>
   cases fl with
   |next=>exact False.elim h
   |brk=>exact False.elim h
   |cont=>exact False.elim h
   |ret u=>
    obtain⟨v,H',os,bare,un,hok',r',q⟩:=h
    have q':v=.bl true:=q
    subst q'
    obtain rfl:u=Value.bool true:=r'
    refine⟨rfl,OldK.of_keep λb o e=>?_,os,bare⟩
    cases q:H b with
    |none=>exact un.keep b o e q (by intro z;exact absurd (show b∈([]:List Addr) from z) (by simp)) (by simp)
    |some u=>
     rcases hO b with z|⟨ob,xs,z⟩
     ·rw[q]at z;cases z
     ·have z2:=un.frzs b ob _ z
      obtain⟨e1,_⟩:=hok b _ z
      obtain⟨e2,_⟩:=hok' b _ z2
      rw[e]at e1;cases e1
      exact e2
 cases hk:K.lookup a with
 |some o=>
  -- the script is one of the module's own objects
  have e:=KX a o hk
  rw[ha]at e
  cases e
  refine core (λ_=>none) (λ_=>.inl rfl) (.inr ⟨_,vs.toArray,_,hk,rfl,rfl,rfl,by rw[cy,lenV];exact hl,by simpa using rv⟩) (λb u z=>by have z':(none:Option HO)=some u:=z;cases z') (λb z=>absurd rfl z) λz=>absurd rfl z
 |none=>
  refine core (λb=>if b=a then some (.frz {cls:=.type "list",data:=.seq vs.toArray} (.lst (ns.map V.int))) else none) (λb=>?_) (.inl (.inr ⟨{cls:=.type "list",data:=.seq vs.toArray},if_pos rfl⟩)) (λb u z=>?_) (λb z=>?_) λ_=>hk
  ·by_cases hb:b=a
   ·exact .inr ⟨_,_,if_pos hb⟩
   ·exact .inl (if_neg hb)
  ·by_cases hb:b=a
   ·have z':=(if_pos hb).symm.trans z
    cases z'
    subst hb
    exact⟨ha,by rw[ao];exact hl,vs,_,rv,ha⟩
   ·have z':=(if_neg hb).symm.trans z
    cases z'
  ·by_cases hb:b=a
   ·exact hb
   ·exact absurd (if_neg hb) z
theorem walk_of{l:W.OpenLaw}{n k:Nat}{q:Program}{loose:List Str}{XP:(Str->Option Value)->Heap->Prop}{YP:World->Heap->Prop}{d:DefRec}{K:Params->W.Frag}{CX:World->mf}{sp:World->Sp}{x:Str}
  (hn:l.most=some n) (hn2:n<=sizeLine) (hdf:d.params.defaults=[]) (hr:bt k callerA)
  (hY:∀(w:World) (h:Heap),YP w h->(K w.params).In h)
  (F:∀(w:World) (mg:Str->Option Value) (fa:Addr) (h:Heap),(K w.params).In h->h.Ns mainGlobals mg->mg d.name=some (.ref fa) ->
   ∃fd:FuncData,(∀(s:Shared) (u:Value),BindsTo s fd ⟨[u],[]⟩ [(x,u)]) /\
    ∀base:Heap,(K w.params).In base->base.Ns mainGlobals mg->df l.prog w (K w.params) mg base (CX w) k fa fd [x] (sp w))
  (hsp:∀(w:World) (H:Hp) (a:Addr) (ns:List Int),ns.length<=n->yW H->b5 (K w.params) H a (ns.map V.int)->sp w [.ref a] H (λv _=>v=.bl true) λ_ _ _=>False)
  (hCX:∀(w:World) (H:Hp) (s:Shared) (e:Value) (s':Shared),CX w [] H s (λ_ _ _=>False) e s'->False):
  PySem.W.WalkO q loose XP YP l.row.toRowW d [] (λf vs=>PySem.call f vs):=by
 refine Att.attach_call hn hdf λw s₀ s₁ mg mb fa o pm cd doc a vs ns G Y ho hd hcd hmg hobj hints hlen hg=>?_
 have KX:=hY w _ Y
 obtain⟨fd,hb,hF⟩:=F w mg fa _ KX G.T.g hmg
 exact Kr KX G.T.g G.T.b G.T.builtins G.T.nolimit hg hobj hints (bx hlen hn2) hr hF hb (λH hO hS=>hsp w H a ns hlen hO hS) λH e s'=>hCX w H s₁ e s'
def gG(s:Stmt):Arguments:=match s with
 |.FunctionDef _ a _ _ _ _ _ _ _ _=>a
 |_=>{posonlyargs:=[],args:=[],vararg:=none,kwonlyargs:=[],kw_defaults:=[],kwarg:=none,defaults:=[]}
def eK(s:Stmt):List Stmt:=match s with
 |.FunctionDef _ _ b _ _ _ _ _ _ _=>b
 |_=>[]
def aN(s:Stmt):Scope:=match s with
 |.FunctionDef _ _ _ _ _ _ sc _ _ _=>sc
 |_=>{kind:=.function,names:=[],isGenerator:=false,isCoroutine:=false}
abbrev nr:mf:=λ_ _ _ _ _ _=>False
abbrev E0:XK:=λ_ _ _=>False
def yv{X:Cx}:sB nr X E0:=λ_ _ _ _ _ _ _ h=>h.elim
structure rm (K:W.Frag) (x qual:Str) (st:Stmt) (f:Addr) (fd:FuncData):Prop where
 ex:∃(oc:Value) (od:Option Addr) (kV doc pm:Value) (an:Option Addr) (cdv ct:Value) (osl:Array (Option Value)),
  fd=W.fnOf x qual (gG st) (eK st) (aN st) .none kV doc pm an cdv ct/\K.lookup f=some ⟨oc,od,.func fd,osl⟩/\W.codeIn K cdv qual=true
 kp:W.keepIn K (.ref f)=true
section
variable{P:Program}{w:World}{K:W.Frag}{mg:Str->Option Value}{base:Heap}
theorem rm.ok{x qual:Str}{st:Stmt}{f:Addr}{fd:FuncData}{N ps:List Str}{k:Nat}{sp:Sp}(F:rm K x qual st f fd)(S:bB N ps (aN st))(len:∀vs H Q E,sp vs H Q E->vs.length=ps.length)
  (hbody:∀(cdv:Value) (A:Around) (outer:List Env) (s:Shared) (H:Hp) (vs:List V) (Q:VK) (E:XK),bt k (A.deeper (envOfC qual (aN st) s.heap.objs.size f cdv))->sp vs H Q E ->
   ∃t,f_ (jK nr P w K mg base N qual (aN st) f cdv A outer s H E).nox (eK st) t/\t {nx:=λ_ H'=>Q .non H',rt:=Q} (dY N vs) H):df P w K mg base nr (k+1) f fd ps sp:=by
 obtain⟨oc,od,kV,doc,pm,an,cdv,ct,osl,rfl,lk,hcd⟩:=F.ex
 refine Fp lk hcd S len λA outer s H vs Q E hr hsp=>?_
 obtain⟨t,h,q⟩:=hbody cdv A outer s H vs Q E hr hsp
 exact⟨t,h.nox,q⟩
theorem rm.binds{x qual:Str}{st:Stmt}{f:Addr}{fd:FuncData}{ps:List Str}(F:rm K x qual st f fd)
  (h:∀(kV doc pm:Value) (an:Option Addr) (cdv ct:Value) (us:List Value),us.length=ps.length->bindArgs (W.fnOf x qual (gG st) (eK st) (aN st) .none kV doc pm an cdv ct) ⟨us,[]⟩=pure (ps.zip us)):gz K fd ps []:=by
 obtain⟨oc,od,kV,doc,pm,an,cdv,ct,osl,rfl,lk,hcd⟩:=F.ex
 exact .all (h kV doc pm an cdv ct)
def Ap{x qual:Str}{st:Stmt}{f:Addr}{oc:Value}{od an:Option Addr}{osl:Array (Option Value)}{kV doc pm cdv ct:Value}(l:K.lookup f=some ⟨oc,od,.func (W.fnOf x qual (gG st) (eK st) (aN st) .none kV doc pm an cdv ct),osl⟩)
  (c:W.codeIn K cdv qual=true) (k:W.keepIn K (.ref f)=true):rm K x qual st f (W.fnOf x qual (gG st) (eK st) (aN st) .none kV doc pm an cdv ct):=⟨⟨oc,od,kV,doc,pm,an,cdv,ct,osl,rfl,l,c⟩,k⟩
end
def oX{A:Around}{k:Nat}(hr:bt k A):A.units+1<cLine:=mw (Nat.add_le_add_left (by decide:1<=64) _) hr.units
def MP{n:Nat}(h:n<=1000):n<sizeLine:=Nat.lt_of_le_of_lt h (by decide)
section
variable{X:Cx}
def pv(i:Nat){x:Str}{pos:Pos}(hN:X.N[i]?=some x:=by rfl)(hv:nz X.env.scope x:=by first|exact Or.inl rfl|exact Or.inr (Or.inl rfl)|exact Or.inr (Or.inr rfl))(hd:(x==("__debug__":Str))=false:=by decide)
  (hcd:(x==("__classdict__":Str))=false:=by decide):PE X (.Name x pos) (yi i):=jV hN hv hd hcd
end
def aR{A B:Prop}(h:B):if false=true then A else B:=by
 rw[if_neg cb]
 exact h
def bW{A B:Prop}(h:A):if true=true then A else B:=by
 rw[if_pos rfl]
 exact h
def Eu{c A B:Prop}[Decidable c](h1:c->A)(h2:¬ c->B):if c then A else B:=by
 by_cases h:c
 ·rw[if_pos h]
  exact h1 h
 ·rw[if_neg h]
  exact h2 h
def ax(H H':Hp):Prop:=∀b o,H b=some o->H' b=some o
def ax.refl(H:Hp):ax H H:=λ_ _ h=>h
def ax.trans{H H1 H2:Hp}(a:ax H H1)(b:ax H1 H2):ax H H2:=λc o h=>b c o (a c o h)
def ax.free{H H':Hp}(e:ax H H'){l:Addr}(h:H' l=Option.none):H l=Option.none:=by
 cases q:H l with
 |none=>rfl
 |some o=>
  rw[e l o q]at h
  cases h
def tV{env:Env}:∀(names:List (Str×NameKind)) (acc:List (Str×Addr)),(∀y∈names,y.2=.free->∃c,env.cells.lookup y.1=some c) ->
  ∃cl,(forIn names acc (λ(x:Str×NameKind) (cs:List (Str×Addr))=>if (x.2==NameKind.free)=true then(do let c <- cellOf env x.1;pure (ForInStep.yield ((x.1,c)::cs))) else pure (ForInStep.yield cs)):Sem (List (Str×Addr)))=pure cl /\
   (∀x c,cl.lookup x=some c->env.cells.lookup x=some c\/acc.lookup x=some c)/\(∀x c,acc.lookup x=some c->∃c',cl.lookup x=some c')/\∀y∈names,y.2=.free->∃c,cl.lookup y.1=some c
 |[],acc,_=>⟨acc,rfl,λ_ _ h=>.inr h,λ_ c h=>⟨c,h⟩,λ_ h=>nomatch h⟩
 |(n,k)::r,acc,h=>by
  rw[List.forIn_cons]
  by_cases hk:k=.free
  ·subst hk
   obtain⟨c,hc⟩:=h (n,.free) fw rfl
   obtain⟨cl,h1,h2,h3,h4⟩:=tV r ((n,c)::acc) λy hy=>h y (d_ _ hy)
   refine⟨cl,?_,λx d e=>?_,λx d e=>?_,λy hy e=>?_⟩
   ·have e1:cellOf env n=pure c:=by unfold cellOf;rw[hc]
    simp only[beq_self_eq_true,if_true,e1,pure_bind]
    exact h1
   ·rcases h2 x d e with z|z
    ·exact .inl z
    ·rw[List.lookup_cons]at z
     split at z
     ·rename_i hx
      cases z
      have:x=n:=eq_of_beq hx
      subst this
      exact .inl hc
     ·exact .inr z
   ·refine h3 x (if x==n then c else d) ?_
    rw[List.lookup_cons]
    cases hx:x==n with
    |true=>simp[hx]
    |false=>simp[hx,e]
   ·rcases qx_.mp hy with z|z
    ·subst z
     exact h3 n c (by simp[List.lookup_cons])
    ·exact h4 y z e
  ·have hb:(k==NameKind.free)=false:=by simpa using hk
   obtain⟨cl,h1,h2,h3,h4⟩:=tV r acc λy hy=>h y (d_ _ hy)
   refine⟨cl,?_,h2,h3,λy hy e=>?_⟩
   ·simp only[hb,Bool.false_eq_true,if_false,pure_bind]
    exact h1
   ·rcases qx_.mp hy with z|z
    ·subst z
     exact absurd e hk
    ·exact h4 y z e
def Cg{scope:Scope}{env:Env}(h:∀y∈scope.names,y.2=.free->∃c,env.cells.lookup y.1=some c):
  ∃cl,closureFor scope env=pure cl/\(∀x c,cl.lookup x=some c->env.cells.lookup x=some c)/\∀y∈scope.names,y.2=.free->∃c,cl.lookup y.1=some c:=by
 obtain⟨cl,h1,h2,h3,h4⟩:=tV scope.names [] h
 refine⟨cl,?_,λx c e=>(h2 x c e).elim id λz=>(by cases z),h4⟩
 unfold closureFor
 refine Eq.trans ?_ h1
 refine Eq.trans (bind_pure _) ?_
 rfl
def yZ{env:Env}:∀{names:List (Str×NameKind)}{x:Str},names.lookup x=some .free ->
  (names.map λ(n,k)=>if (k==NameKind.free&&env.scope.kind==.function&&env.kindOf n==some .cell) then(n,NameKind.cell) else(n,k)).lookup x=some .cell \/
  (names.map λ(n,k)=>if (k==NameKind.free&&env.scope.kind==.function&&env.kindOf n==some .cell) then(n,NameKind.cell) else(n,k)).lookup x=some .free
 |[],_,h=>by simp at h
 |(n,k)::r,x,h=>by
  have ih:=@yZ env r x
  show List.lookup x ((if (k==NameKind.free&&env.scope.kind==.function&&env.kindOf n==some .cell)=true then(n,NameKind.cell) else(n,k))::_)=_\/List.lookup x ((if (k==NameKind.free&&env.scope.kind==.function&&env.kindOf n==some .cell)=true then(n,NameKind.cell) else(n,k))::_)=_
  by_cases hc:(k==NameKind.free&&env.scope.kind==.function&&env.kindOf n==some .cell)=true
  ·rw[if_pos hc]
   cases hx:x==n with
   |true=>simp only[List.lookup_cons,hx];exact .inl trivial
   |false=>
    simp only[List.lookup_cons,hx]at h ⊢
    exact ih h
  ·rw[if_neg hc]
   cases hx:x==n with
   |true=>
    simp only[List.lookup_cons,hx]at h ⊢
    exact .inr h
   |false=>
    simp only[List.lookup_cons,hx]at h ⊢
    exact ih h
def zR{env:Env}{names:List (Str×NameKind)}(hn:∀y∈names,y.2≠.cell){x:Str}{k:NameKind}(hk:k=.cell\/k=.free)
  (h:(names.map λ(n,k)=>if (k==NameKind.free&&env.scope.kind==.function&&env.kindOf n==some .cell) then(n,NameKind.cell) else(n,k)).lookup x=some k):(x,NameKind.free)∈names:=by
 obtain⟨⟨n,k'⟩,hm,e⟩:=qf_.mp (PySem.mem_of_lookup h)
 simp only at e
 split at e
 ·rename_i hc
  rw[kg,kg]at hc
  have:k'=.free:=eq_of_beq hc.1.1
  subst this
  injection e with e1 _
  subst e1
  exact hm
 ·injection e with e1 e2
  subst e1 e2
  rcases hk with z|z
  ·exact absurd z (hn _ hm)
  ·subst z;exact hm
def cJ(X:Cx)(N:List Str)(scope:Scope)(cl:List (Str×Addr))(C:Addr)(fp:List Addr)(s:Shared)(H:Hp):Cx where
 prog:=X.prog
 w:=X.w
 K:=X.K
 mg:=X.mg
 base:=X.base
 A:=X.A
 N:=N
 s₀:=s
 H₀:=H
 env:=compEnvC scope cl C X.env
 outer:=X.stack
 stack:=X.stack
 ex:=fp
 fn:=λ_=>false
 calm:=X.calm
 pn:=[]
 xe:=λ_ _=>False
structure kH (sc:Scope) (XN N:List Str) (own:Nat) (fr:List Nat) (scope:Scope):Prop where
 kind:scope.kind=.function
 nocell:∀y∈scope.names,y.2≠.cell
 free:∀y∈scope.names,y.2=.free->sc.names.lookup y.1=some .cell\/sc.names.lookup y.1=some .free
 loc:∀y∈scope.names,y.2=.local->scope.names.lookup y.1=some .local
 names:N.drop own=fr.filterMap λi=>XN[i]?
 frl:∀i∈fr,i<XN.length
 len:own<=N.length
 vis:∀x∈N.drop own,scope.names.lookup x=some .free
def σf(fr:List Nat)(σ:St):St:=fr.map λi=>σ.getD i none
def σc(own:Nat)(fr:List Nat)(σ:St):St:=List.replicate own none++σf fr σ
section
variable{X:Cx}{pins:List (Addr×Obj)}{σ:St}{H:Hp}{s:Shared}{N:List Str}{own:Nat}{fr:List Nat}{scope:Scope}
def zG{XN:List Str}:∀{fr:List Nat},(∀i∈fr,i<XN.length)->∀(j:Nat),(fr.filterMap λi=>XN[i]?)[j]?=(fr[j]?).bind λi=>XN[i]?
 |[],_,j=>by simp
 |i::r,h,j=>by
  have hi:i<XN.length:=h i fw
  rw[il,b_ hi]
  cases j with
  |zero=>simp[hi]
  |succ j=>simpa using zG (λk hk=>h k (d_ _ hk)) j
def Kn{cl:List (Str×Addr)}{fp:List Addr}{h':Heap}(I:ag X pins σ H s)(S:kH X.env.scope X.N N own fr scope)(hcl:∀x c,cl.lookup x=some c->X.env.cells.lookup x=some c)
  (hcf:∀y∈scope.names,y.2=.free->∃c,cl.lookup y.1=some c) (hfp:∀b∈fp,fE X pins H b) (hfo:∀b∈fp,∃o,s.heap.get? b=some o)
  (hns:h'.Ns s.heap.objs.size λ_=>none) (hk:∀b o,s.heap.get? b=some o->h'.get? b=some o):
  ag (cJ X N scope cl s.heap.objs.size fp s H) [] (σc own fr σ) H {s with heap:=h'}:=by
 have kindE:∀x,(Env.kindOf (compEnvC scope cl s.heap.objs.size X.env) x)=(relabel scope X.env).names.lookup x:=λx=>rfl
 have memF:∀x,(Env.kindOf (compEnvC scope cl s.heap.objs.size X.env) x=some .cell\/Env.kindOf (compEnvC scope cl s.heap.objs.size X.env) x=some .free)->(x,NameKind.free)∈scope.names:=λx hx=>by
  rcases hx with z|z
  ·exact zR (env:=X.env) S.nocell (.inl rfl) z
  ·exact zR (env:=X.env) S.nocell (.inr rfl) z
 refine⟨⟨I.ok.mod,S.kind,I.ok.glob,I.ok.blt,ba _,λx y c h1 h2=>I.ok.inj x y c (hcl x c h1) (hcl y c h2),λx hx=>hcf (x,.free) (memF x hx) rfl,λx c h=>absurd (show false=true from h) (by decide),I.ok.hd,I.ok.frames,.inl rfl,λb hb=>?_,I.bs,bx I.ok.bsz I.sz,λb o e hb=>?_,λb hb z=>?_,I.stack,I.stkFree⟩,
  rfl,I.bare,Un.kept hk,⟨_,hns,λi x v e1 e2 e3=>?_⟩,λx c e=>?_,I.hok.fresh (ba _),λx c e=>I.freeC x c (hcl x c e),λp hp=>absurd (show p∈([]:List (Addr×Obj)) from hp) (by simp),I.hok.kept hk,?_⟩
 ·obtain⟨o,ho⟩:=hfo b hb
  exact⟨cq (bo ho),λx c e=>(hfp b hb).2.2.2.2.1 x c (hcl x c e)⟩
 ·rcases (hfp b hb).2.2.2.1 with z|z
  ·exact I.ok.noex b o e z
  ·exact absurd (j5 (bo (I.ok.bs b o e).1) z) (fg _)
 ·rcases qx_.mp (I.stkSub b z) with q|q
  ·exact(hfp b hb).2.1 q
  ·exact(hfp b hb).2.2.1 q
 ·have hi:own<=i:=by
   rcases Nat.lt_or_ge i own with z|z
   ·have e2':(σc own fr σ)[i]?=some (some v):=e2
    unfold σc at e2'
    rw[jr (by simpa using z),lg]at e2'
    split at e2'<;>cases e2'
   ·exact z
  have e2':(σf fr σ)[i-own]?=some (some v):=by
   have e2':(σc own fr σ)[i]?=some (some v):=e2
   unfold σc at e2'
   rw[jt (by simpa using hi)]at e2'
   simpa using e2'
  have e1':(N.drop own)[i-own]?=some x:=by
   have e1':N[i]?=some x:=e1
   rw[mr]
   rw[show own+(i-own)=i by omega]
   exact e1'
  have hv:scope.names.lookup x=some .free:=S.vis x (g5 e1')
  have hx:X.env.scope.names.lookup x=some .cell\/X.env.scope.names.lookup x=some .free:=S.free (x,.free) (PySem.mem_of_lookup hv) rfl
  rw[S.names,zG S.frl]at e1'
  unfold σf at e2'
  rw[e_]at e2'
  cases q:fr[i-own]? with
  |none=>rw[q]at e2';cases e2'
  |some j=>
   rw[q]at e1' e2'
   have e1'':X.N[j]?=some x:=e1'
   have e2'':σ.getD j none=some v:=Option.some.inj e2'
   have e3':σ[j]?=some (some v):=by
    rw[j3]at e2''
    cases z:σ[j]? with
    |none=>rw[z]at e2'';cases e2''
    |some y=>rw[z]at e2'';exact congrArg some e2''
   obtain⟨m,hn,hl⟩:=I.loc
   obtain⟨u,r,l⟩:=hl j x v e1'' e3' (.inr hx)
   refine⟨u,r,.inr ⟨yZ (env:=X.env) hv,?_⟩⟩
   rcases l with⟨k,_⟩|⟨_,c,hc,z⟩
   ·have k':X.env.scope.names.lookup x=some .local:=k
    rw[k']at hx
    rcases hx with z|z<;>cases z
   ·obtain⟨c',hc'⟩:=hcf (x,.free) (PySem.mem_of_lookup hv) rfl
    have:=hcl x c' hc'
    rw[hc]at this
    cases this
    exact⟨c,hc',z.keeps hk⟩
 ·obtain⟨v,z⟩:=I.cell x c (hcl x c e)
  exact⟨v,z.keeps hk⟩
 ·show(σc own fr σ).length=N.length
  unfold σc σf
  have h1:=congrArg List.length S.names
  have h2:(fr.filterMap λi=>X.N[i]?).length=fr.length:=by
   have:∀(l:List Nat),(∀i∈l,i<X.N.length)->(l.filterMap λi=>X.N[i]?).length=l.length:=by
    intro l
    induction l with
    |nil=>intro _;rfl
    |cons i r ih=>
     intro h
     rw[il,b_ (h i fw)]
     simp[ih λk hk=>h k (List.mem_cons_of_mem _ hk)]
   exact this fr S.frl
  rw[kz,h2]at h1
  rw[b9,k_,ao]
  have:=S.len
  omega
end
section
variable{prog:Program}{w:World}{A:Around}{R:Result->Shared->Prop}{s:Shared}
def M_{elt target iter:Expr}{ifs:List Expr}{scope:Scope}{pos:Pos}{it acc:Value}{env:Env}(I:Nat->Shared->Prop)
  (turn:∀n s,I n s->wpAny (model prog w) A (pyNext it) (λr s₁=>match r with
   |none=>R (.ok .next) s₁
   |some v=>wpAny (model prog w) A (letOwnedTupleGo target it v) (λ_ s'=>wpAny (model prog w) A (assign target env v) (λ_ s₂=>
     wpAny (model prog w) A (forIn ifs true λc r=>if r=true then do let ok <- isTrue c env (eval c env);pure (ForInStep.yield ok) else pure (ForInStep.yield r)) (λok s₃=>
      if ok=true then wpAny (model prog w) A (eval elt env) (λx s₄=>
       wpAny (model prog w) A (call (.builtin "list.append") [acc,x]) (λ_ s₅=>∃m,m<n/\I m s₅) (λ_ _=>False) s₄) (λ_ _=>False) s₃
      else ∃m,m<n/\I m s₃) (λ_ _=>False) s₂) (λ_ _=>False) s') (λ_ _=>False) s₁) (λ_ _=>False) s)
  (n:Nat) (h:I n s):codeAny (model prog w) A (.compLoop (.ListComp elt [⟨target,iter,ifs,0⟩] scope pos) 0 it acc env) R s:=by
 refine codeAny_loop rfl I (λn s hI=>?_) n h
 show wpAny _ A ((compTurn (.ListComp elt [⟨target,iter,ifs,0⟩] scope pos) 0 it acc env).onRaise (λx=>do noteFrame x env;theTreesLotGoes x)) _ _ s
 refine wpAny_noted ?_
 rw[compTurn_list]
 refine af (wpAny_standAt (af (wpAny_mono (turn n s hI) (λr s₁ h₁=>?_) λ_ _ z=>False.elim z)))
 cases r with
 |none=>exact ah h₁
 |some v=>
  refine af (wpAny_mono h₁ (λ_ s' h'=>?_) λ_ _ z=>False.elim z)
  refine af (wpAny_mono h' (λ_ s₂ h₂=>af (wpAny_mono h₂ (λok s₃ h₃=>?_) λ_ _ z=>False.elim z)) λ_ _ z=>False.elim z)
  cases ok with
  |false=>exact ah ⟨rfl,h₃⟩
  |true=>
   exact af (af (wpAny_mono h₃ (λx s₄ h₄=>af (wpAny_mono h₄ (λ_ s₅ h₅=>ah (ah ⟨rfl,h₅⟩)) λ_ _ z=>False.elim z)) λ_ _ z=>False.elim z))
end
def yk(J:It)(a:Addr)(own:Nat)(fr:List Nat)(g:TG)(tf:TT)(te:TE)(σ:St)(H1:Hp)(Q:VK):Prop:=
 ∃(n:Nat) (Pv:Nat->List V->Hp->Prop),Pv 0 [] (ar H1 a (.lst []))/\∀i ys H2,i<=n->H2 a=some (.lst ys)->Pv i ys H2 ->
  (J.stop i H2/\Q (.ref a) H2)\/(i<n/\J.go i H2/\∀x H3,J.yld i H2 x H3->g x (σc own fr σ) H3 λσ4 H4=>(∃ow,ow.length=own/\σ4=ow++σf fr σ)/\tf σ4 H4 λb H5=>
   if b=true then te σ4 H5 λy H6=>H6 a=some (.lst ys)/\ys.length<sizeLine/\Pv (i+1) (ys++[y]) (ar H6 a (.lst (ys++[y])))
   else H5 a=some (.lst ys)/\Pv (i+1) ys H5)
def sv(X:Cx)(ifs:List Expr)(t:TT):Prop:=
 ∀(pins:List (Addr×Obj)) (s:Shared) (σ:St) (H:Hp) (Q:Bool->Hp->Prop),ag X pins σ H s->t σ H Q ->
  wpAny (model X.prog X.w) X.A (forIn ifs true λc r=>if r=true then do let ok <- isTrue c X.env (eval c X.env);pure (ForInStep.yield ok) else pure (ForInStep.yield r)) (TP X pins σ Q) X.xe s
def Ff:TT:=λ_ H Q=>Q true H
def Gk{X:Cx}:sv X [] Ff:=λpins s σ H Q I h=>wpAny_tests_nil ⟨H,I,h⟩
def Gm{X:Cx}{c:Expr}{t:TT}(h:PT X c t):sv X [c] t:=λpins s σ H Q I hw=>wpAny_tests_one (h pins s σ H Q I hw)
section
variable{X:Cx}{pins:List (Addr×Obj)}{σ:St}{H:Hp}{s:Shared}{N:List Str}{own:Nat}{fr:List Nat}{scope:Scope}{cl:List (Str×Addr)}{elt tg iter:Expr}{ifs:List Expr}{pos:Pos}
 {it:Addr} {fp:List Addr} {tn:Nat->Heap->Prop} {J:It} {g:TG} {tf:TT} {te:TE} {Q:VK} {E:Value->Shared->Prop}
def Ci{RR:Value->Addr->Result->Shared->Prop}(hc:X.calm=true)(S:kH X.env.scope X.N N own fr scope)(hcl:∀x c,cl.lookup x=some c->X.env.cells.lookup x=some c)
  (hcf:∀y∈scope.names,y.2=.free->∃c,cl.lookup y.1=some c)
  (hg:∀C s H,PG (cJ X N scope cl C fp s H) tg g) (hf:∀C s H,sv (cJ X N scope cl C fp s H) ifs tf) (he:∀C s H,PE (cJ X N scope cl C fp s H) elt te)
  (I:ag X pins σ H s) (T:jL X.prog X.w X.K tg J fp it tn) (st:tn 0 s.heap) (hfp:∀b∈fp,fE X pins H b) (hw:∀a,H a=none->yk J a own fr g tf te σ H Q)
  (hRR:∀a C s' H',ag X pins σ H' s'->Q (.ref a) H'->fE X pins H' C->(∃m,s'.heap.Ns C m)->RR (.ref a) C (.ok .next) s'):
  wpAny (model X.prog X.w) X.A (newList []) (λacc s₃=>wpAny (model X.prog X.w) X.A (newFunctionEnv scope X.env.globals cl [] X.env.qual none .none (some X.env)) (λcenv s₄=>
   codeAny (model X.prog X.w) X.A (.compStart (.ListComp elt [⟨tg,iter,ifs,0⟩] scope pos) 0 (.ref it) acc {cenv with scope:=relabel scope X.env}) (RR acc cenv.locals) s₄) E s₃) E s:=by
 refine jg (wpAny_newFunctionEnv S.nocell (by intro y hy;simp at hy) (λh₁ hns₁ hsb₁=>?_) S.kind)
 dsimp only at hns₁ hsb₁ ⊢
 have I3:ag X pins σ (ar H s.heap.objs.size (.lst [])) {s with heap:=s.heap.push {cls:=.type "list",dict:=none,data:=.seq ([]:List Value).toArray}}:=I.lnew (ys:=[]) (t':=s.toks) .nil (d6 _)
 have hfo:∀b∈fp,∃o,s.heap.get? b=some o:=λb hb=>let ⟨o,ho,_⟩:=T.obj _ _ st b hb;⟨o,ho⟩
 have hlt:∀b∈fp,b<s.heap.objs.size:=λb hb=>let ⟨o,ho⟩:=hfo b hb;bo ho
 have fp3:∀b∈fp,fE X pins (ar H s.heap.objs.size (.lst [])) b:=λb hb=>⟨by rw[bL (cq (hlt b hb))];exact(hfp b hb).1,(hfp b hb).2⟩
 obtain⟨n0,W,w0,turn⟩:=hw s.heap.objs.size I.fresh
 generalize hs3:({s with heap:=s.heap.push {cls:=.type "list",dict:=none,data:=.seq ([]:List Value).toArray}}:Shared)=s3 at I3
 have eh:s3.heap=s.heap.push {cls:=.type "list",dict:=none,data:=.seq ([]:List Value).toArray}:=by rw[<-hs3]
 rw[<-eh]at hns₁ hsb₁ ⊢
 have hk:∀b o,s3.heap.get? b=some o->h₁.get? b=some o:=λb o e=>hsb₁.extBut b o (cq (bo e)) (ay _ e)
 have hk0:∀b o,s.heap.get? b=some o->s3.heap.get? b=some o:=λb o e=>by rw[eh];exact ay _ e
 have J0:ag (cJ X N scope cl s3.heap.objs.size fp s3 (ar H s.heap.objs.size (.lst []))) [] (σc own fr σ) (ar H s.heap.objs.size (.lst [])) {s3 with heap:=h₁}:=
  Kn I3 S hcl hcf fp3 (λb hb=>let ⟨o,ho⟩:=hfo b hb;⟨o,hk0 b o ho⟩) hns₁ hk
 have st0:tn 0 h₁:=T.keep _ _ _ st λb _ o e=>hk b o (hk0 b o e)
 have stat:∀{H':Hp},(∀b∈fp,H' b=none)->∀b∈fp,fE (cJ X N scope cl s3.heap.objs.size fp s3 (ar H s.heap.objs.size (.lst []))) [] H' b:=λhn b hb=>
  ⟨hn b hb,(J0.ok.exf b hb).1,J0.ok.exfs b hb,.inl hb,(J0.ok.exf b hb).2,λp hp=>absurd (show p∈([]:List (Addr×Obj)) from hp) (by simp)⟩
 have loop:∀s4:Shared,s4={s3 with heap:=h₁}->codeAny (model X.prog X.w) X.A (.compLoop (.ListComp elt [⟨tg,iter,ifs,0⟩] scope pos) 0 (.ref it) (.ref s.heap.objs.size) (compEnvC scope cl s3.heap.objs.size X.env))
   (RR (.ref s.heap.objs.size) s3.heap.objs.size) s4:=by
  rintro s4 rfl
  refine M_ (λn s'=>∃i ow H' ys,ag (cJ X N scope cl s3.heap.objs.size fp s3 (ar H s.heap.objs.size (.lst []))) [] (ow++σf fr σ) H' s'/\ow.length=own/\tn i s'.heap/\(∀b∈fp,H' b=none)/\H' s.heap.objs.size=some (.lst ys)/\(n=n0-i/\i<=n0)/\W i ys H') ?_ n0
   ⟨0,List.replicate own none,_,[],J0,by simp,st0,λb hb=>(fp3 b hb).1,bA,⟨rfl,d6 _⟩,w0⟩
  rintro n s5 ⟨i,ow,H5,ys,I5,hlo,st5,fr5,ha5,⟨rfl,hi5⟩,w5⟩
  rcases turn i ys H5 hi5 ha5 w5 with⟨stop,qn⟩|⟨hin,go,step⟩
  ·refine bf (T.done (cJ X N scope cl s3.heap.objs.size fp s3 (ar H s.heap.objs.size (.lst []))) rfl rfl rfl hc i [] s5 _ H5 (λ_ _=>False) I5 (stat fr5) st5 stop) λr s6 ⟨hr,I6⟩=>?_
   subst hr
   have IX:ag X pins σ H5 s6:=I3.call' I6.os I6.base I6.hok I6.bare λb hb=>let ⟨_,f2,_,f4,f5,f6⟩:=fp3 b hb;⟨f4,f2,f5,f6⟩
   refine hRR _ _ s6 H5 IX qn (I3.fpOk (ba _) I6.free) ?_
   obtain⟨m,hn,_⟩:=I6.loc
   exact⟨m,hn⟩
  ·refine bf (T.item (cJ X N scope cl s3.heap.objs.size fp s3 (ar H s.heap.objs.size (.lst []))) rfl rfl rfl hc i [] s5 _ H5 (λ_ _=>False) I5 (stat fr5) st5 go) λr s6 ⟨u,hr,h6⟩=>?_
   subst hr
   refine bf h6 λ_ s7 ⟨x,H7,I7,r7,y7,st7,fr7⟩=>?_
   have I7':=(I7.pinned (stat fr7) (T.obj _ _ st7)).weak (σ':=σc own fr σ) (by unfold σc;simp[hlo]) (λj v e=>by
    unfold σc at e
    rcases Nat.lt_or_ge j own with z|z
    ·rw[jr (by simpa using z),lg]at e
     split at e<;>cases e
    ·rw[jt (by simpa using z)]at e
     rw[jt (by rw[hlo];exact z),hlo]
     simpa using e)
   refine bf (hg _ _ _ _ s7 _ H7 x u _ I7' r7 (step x H7 y7)) λ_ s8 ⟨σ8,H8,I8,⟨ow8,hl8,e8⟩,q8⟩=>?_
   refine bf (hf _ _ _ _ s8 _ H8 _ I8 q8) λok s9 ⟨H9,I9,q9⟩=>?_
   have again:∀{H':Hp} {s':Shared},ag (cJ X N scope cl s3.heap.objs.size fp s3 (ar H s.heap.objs.size (.lst []))) ([]++oN fp s7.heap) σ8 H' s'->∀{ys':List V},H' s.heap.objs.size=some (.lst ys')->W (i+1) ys' H' ->
     ∃m,m<n0-i/\∃i ow H' ys,ag (cJ X N scope cl s3.heap.objs.size fp s3 (ar H s.heap.objs.size (.lst []))) [] (ow++σf fr σ) H' s'/\ow.length=own/\tn i s'.heap/\(∀b∈fp,H' b=none)/\H' s.heap.objs.size=some (.lst ys)/\(m=n0-i/\i<=n0)/\W i ys H':=λ{H' s'} I' {ys'} ha hw'=>by
    refine⟨n0-(i+1),by omega,i+1,ow8,H',ys',e8▸I'.unpinned,hl8,T.keep _ _ _ st7 λb hb o e=>(I'.pin (b,o) (d8 _ (d8 _ (qC hb e)))).1,λb hb=>?_,ha,⟨rfl,hin⟩,hw'⟩
    obtain⟨o,e,_⟩:=T.obj _ _ st7 b hb
    exact(I'.pin (b,o) (d8 _ (d8 _ (qC hb e)))).2.1
   cases ok with
   |false=>
    have q9':H9 s.heap.objs.size=some (.lst ys)/\W (i+1) ys H9:=by simpa using q9
    obtain⟨ha,hw'⟩:=q9'
    show if false=true then _ else _
    rw[if_neg (by decide)]
    exact again I9 ha hw'
   |true=>
    rw[if_pos rfl]at q9
    show if true=true then _ else _
    rw[if_pos rfl]
    refine bf (he _ _ _ _ s9 _ H9 _ I9 q9) λy s10 ⟨v10,H10,I10,r10,ha10,hz10,hw'⟩=>?_
    refine bf (uT _ s10 _ H10 (.ref s.heap.objs.size) [v10] (.ref s.heap.objs.size) [y] (λ_ H'=>H'=ar H10 s.heap.objs.size (.lst (ys++[v10]))) I10 rfl (.cons r10 .nil) ⟨_,ys,v10,rfl,rfl,ha10,hz10,rfl⟩) λ_ s11 ⟨_,H11,I11,_,e11⟩=>?_
    subst e11
    exact again I11 bA hw'
 exact codeAny_compStart_list (loop _ (by rw[<-hs3];rfl)) (T.self X.A 0 _ _ _ st0 (loop _ (by rw[<-hs3];rfl)))
end
def xG(own:Nat)(fr:List Nat)(wi:TI)(g:TG)(tf:TT)(te:TE):TE:=λσ H Q=>wi σ H λJ H1=>∀a,H1 a=none->yk J a own fr g tf te σ H1 Q
section
variable{X:Cx}{sc:Scope}{XN N:List Str}{own:Nat}{fr:List Nat}{scope:Scope}{elt tg iter:Expr}{ifs:List Expr}{pos:Pos}{wi:TI}{g:TG}{tf:TT}{te:TE}
def Jn(hc:X.calm=true)(S:kH sc XN N own fr scope)(hi:PI X tg iter wi)
  (hg:∀cl C fp s H,PG (cJ X N scope cl C fp s H) tg g) (hf:∀cl C fp s H,sv (cJ X N scope cl C fp s H) ifs tf) (he:∀cl C fp s H,PE (cJ X N scope cl C fp s H) elt te)
  (hs:∀x,foldedSetIterable iter X.env x=pure x:=by intro _;rfl) (hsc:X.env.scope=sc:=by rfl) (hxn:X.N=XN:=by rfl):PE X (.ListComp elt [⟨tg,iter,ifs,0⟩] scope pos) (xG own fr wi g tf te):=by
 subst hsc hxn
 intro pins s σ H Q I h
 obtain⟨cl,c1,c2,c3⟩:=Cg (scope:=scope) (env:=X.env) λy hy e=>I.ok.has y.1 (S.free y hy e)
 rw[eval_ListComp]
 refine wpAny_comprehension_free (use:=none) rfl hs c1 S.kind S.loc (bf (hi pins s σ H _ I h) λxv s1 h1=>bf h1 λitv s2 h2=>?_)
 obtain⟨it,fp,tn,J,H2,e,I2,T,st2,f2,hw⟩:=h2
 subst e
 refine Ci hc S c2 c3 (λC s H=>hg cl C fp s H) (λC s H=>hf cl C fp s H) (λC s H=>he cl C fp s H) I2 T st2 f2 hw λa C s' H' I' q fC ⟨m,hn⟩=>?_
 refine⟨m,hn,λh' hs'=>?_⟩
 obtain⟨f0,f1,_,f3,f4,f5⟩:=fC
 exact⟨.ref a,H',I'.turned (t':=s'.toks) (λb o hb e=>hs'.extBut b o hb e) f0 f1 f3 f4 f5,rfl,q⟩
def Bq{i:Nat}{x:Str}{pos' spos:Pos}(hc:X.calm=true)(hN:X.N.Nodup)(hx:X.N[i]?=some x)(hl:kh X.env.scope x)(S:kH sc XN N own fr scope)(hi:PI X tg iter wi)
  (hg:∀cl C fp s H,PG (cJ X N scope cl C fp s H) tg g) (hf:∀cl C fp s H,sv (cJ X N scope cl C fp s H) ifs tf) (he:∀cl C fp s H,PE (cJ X N scope cl C fp s H) elt te)
  (hsw:swapsWith (.ListComp elt [⟨tg,iter,ifs,0⟩] scope pos) (some (.Name x pos')) spos.line X.env=pure true:=by rfl)
  (hf':X.fn x=true\/X.env.scope.names.lookup x=some .local:=by first|exact .inl rfl|exact .inr rfl|assumption)
  (hs:∀x,foldedSetIterable iter X.env x=pure x:=by intro _;rfl) (hsc:X.env.scope=sc:=by rfl) (hxn:X.N=XN:=by rfl):PS X (.Assign [.Name x pos'] (.ListComp elt [⟨tg,iter,ifs,0⟩] scope pos) spos) (sO (xG own fr wi g tf te) (sK i)):=by
 subst hsc hxn
 intro pins s σ H D I h
 obtain⟨cl,c1,c2,c3⟩:=Cg (scope:=scope) (env:=X.env) λy hy e=>I.ok.has y.1 (S.free y hy e)
 rw[exec_Assign_Name_used _ _ _ _ hsw]
 refine af (wpAny_standAt (af ?_))
 show wpAny _ X.A (do let _ <- comprehension (.ListComp elt [⟨tg,iter,ifs,0⟩] scope pos) scope X.env _ (newList []) false (eval iter X.env) (some (assign (.Name x pos') X.env))) _ _ s
 refine af (wpAny_mono (wpAny_comprehension_free (use:=some (assign (.Name x pos') X.env)) (Q:=λ_ s'=>SP X pins D .next s') rfl hs c1 S.kind S.loc
  (bf (hi pins s σ H _ I h) λxv s1 h1=>bf h1 λitv s2 h2=>?_)) (λ_ s' hq=>ah (ah hq)) λ_ _ e=>e)
 obtain⟨it,fp,tn,J,H2,e,I2,T,st2,f2,hw⟩:=h2
 subst e
 refine Ci hc S c2 c3 (λC s H=>hg cl C fp s H) (λC s H=>hf cl C fp s H) (λC s H=>he cl C fp s H) I2 T st2 f2 hw λa C s' H' I' q fC ⟨m,hn⟩=>?_
 obtain⟨f0,f1,f2',f3,f4,f5⟩:=fC
 show wpAny _ _ (assign (.Name x pos') X.env (.ref a)) _ _ _
 refine wpAny_assign_Name (B3 I' hN hx hl (show ai (.ref a) (.ref a) from rfl) (λs2 J2 ⟨b,hb,hb'⟩=>?_) hf')
 have hbC:C≠b:=by
  rcases hb' with z|z
  ·rw[z];exact f1
  ·exact λe=>f4 _ _ z e.symm
 refine⟨m,hn.sameBut hb hbC,λh' hs'=>?_⟩
 exact⟨_,H',J2.turned (t':=s2.toks) (λb o hb e=>hs'.extBut b o hb e) f0 f1 f3 f4 f5,q⟩
end
section
variable{X:Cx}
def qk(K:W.Frag)(T:String)(x:V)(H:Hp)(b:Bool):Prop:=match x with
 |.non=>b=false
 |.bl _=>b=(T=="bool" || T=="int")
 |.int _=>b=(T=="int")
 |.str _=>b=(T=="str")
 |.ref a=>(∃xs,b5 K H a xs/\b=(T=="list"))\/(∃xs,cu K H a xs/\b=(T=="tuple"))\/(∃kvs,Rd H a (.dK kvs)/\b=(T=="dict"))
 |_=>False
def lT{prog:Program}{w:World}{A:Around}{E:Value->Shared->Prop}{s:Shared}{Q:Value->Shared->Prop}{T:String}(hne:(Value.type "NoneType"==Value.type T)=false)(hty:typeOf (.type T)=pure (.type "type"))
  (hsub:isSubtype (.type "NoneType") (.type T)=pure false) (h:Q (.bool false) {s with toks:=s.toks+1}):wpAny (model prog w) A (call (.builtin "isinstance") [.none,.type T]) Q E s:=
 call_isinstance (S:=λ_ R s=>R (.ok (.ret (.bool false))) {s with toks:=s.toks+1}) (λ_ _ _ _ s hs=>by
  obtain⟨h,g,d,t,os⟩:=s
  exact isinstance_outer (isinstance_nested_false_none hne hty hsub hs)) h
def ag.lcls{pins:List (Addr×Obj)}{σ:St}{H:Hp}{s:Shared}{a:Addr}{xs:List V}(I:ag X pins σ H s)(h:b5 X.K H a xs):∃o,s.heap.get? a=some o/\o.cls=.type "list":=by
 obtain⟨its,r,pl,hz⟩:=I.list h
 obtain⟨o,ho,hc,_⟩:=pl.isList
 exact⟨o,ho,hc⟩
def ag.tcls{pins:List (Addr×Obj)}{σ:St}{H:Hp}{s:Shared}{a:Addr}{xs:List V}(I:ag X pins σ H s)(h:cu X.K H a xs):∃o,s.heap.get? a=some o/\o.cls=.type "tuple":=by
 obtain⟨its,r,⟨o,ho,hc,_⟩,hz⟩:=I.tuple h
 exact⟨o,ho,hc⟩
def ag.dcls{pins:List (Addr×Obj)}{σ:St}{H:Hp}{s:Shared}{a:Addr}{kvs:List (av×V)}(I:ag X pins σ H s)(h:Rd H a (.dK kvs)):∃o,s.heap.get? a=some o/\o.cls=.type "dict":=by
 obtain⟨_,_,vs,_,dd⟩:=h.ok I.hok
 obtain⟨o,ho,hc⟩:=dd.typeIs
 exact⟨o,ho,hc⟩
theorem lG:aq X (.builtin "isinstance") (λxs H Q=>∃x b,xs=[x,.ty "int"]/\qk X.K "int" x H b/\Q (.bl b) H):=by
 intro pins s σ H xs us Q I r h
 obtain⟨x,b,rfl,hx,q⟩:=h
 obtain⟨u,w',rfl,rx,ry⟩:=jB r
 cases ry
 cases x with
 |non=>cases rx;cases hx;exact lT (by decide +kernel) F.isi_meta_int F.sub_NoneType_int ⟨.bl _,H,I.tok _,rfl,q⟩
 |bl k=>cases rx;cases hx;exact IsiPair.bool_int ⟨.bl _,H,I,rfl,q⟩
 |int i=>obtain⟨t,rfl⟩:=rx;cases hx;exact IsiPair.int_int ⟨.bl _,H,I,rfl,q⟩
 |str i=>obtain⟨t,rfl⟩:=rx;cases hx;exact IsiPair.str_int ⟨.bl _,H,I.tok _,rfl,q⟩
 |ref a=>
  cases rx
  rcases hx with⟨xs,hx,rfl⟩|⟨xs,hx,rfl⟩|⟨xs,hx,rfl⟩
  ·obtain⟨o,ho,hc⟩:=I.lcls hx;exact IsiPair.list_int ho hc ⟨.bl _,H,I.tok _,rfl,q⟩
  ·obtain⟨o,ho,hc⟩:=I.tcls hx;exact IsiPair.tuple_int ho hc ⟨.bl _,H,I.tok _,rfl,q⟩
  ·obtain⟨o,ho,hc⟩:=I.dcls hx;exact IsiPair.dict_int ho hc ⟨.bl _,H,I.tok _,rfl,q⟩
 |_=>exact False.elim hx
theorem kD:aq X (.builtin "isinstance") (λxs H Q=>∃x b,xs=[x,.ty "bool"]/\qk X.K "bool" x H b/\Q (.bl b) H):=by
 intro pins s σ H xs us Q I r h
 obtain⟨x,b,rfl,hx,q⟩:=h
 obtain⟨u,w',rfl,rx,ry⟩:=jB r
 cases ry
 cases x with
 |non=>cases rx;cases hx;exact lT (by decide +kernel) F.isi_meta_bool F.sub_NoneType_bool ⟨.bl _,H,I.tok _,rfl,q⟩
 |bl k=>cases rx;cases hx;exact IsiPair.bool_bool ⟨.bl _,H,I,rfl,q⟩
 |int i=>obtain⟨t,rfl⟩:=rx;cases hx;exact IsiPair.int_bool ⟨.bl _,H,I.tok _,rfl,q⟩
 |str i=>obtain⟨t,rfl⟩:=rx;cases hx;exact IsiPair.str_bool ⟨.bl _,H,I.tok _,rfl,q⟩
 |ref a=>
  cases rx
  rcases hx with⟨xs,hx,rfl⟩|⟨xs,hx,rfl⟩|⟨xs,hx,rfl⟩
  ·obtain⟨o,ho,hc⟩:=I.lcls hx;exact IsiPair.list_bool ho hc ⟨.bl _,H,I.tok _,rfl,q⟩
  ·obtain⟨o,ho,hc⟩:=I.tcls hx;exact IsiPair.tuple_bool ho hc ⟨.bl _,H,I.tok _,rfl,q⟩
  ·obtain⟨o,ho,hc⟩:=I.dcls hx;exact IsiPair.dict_bool ho hc ⟨.bl _,H,I.tok _,rfl,q⟩
 |_=>exact False.elim hx
theorem lF:aq X (.builtin "isinstance") (λxs H Q=>∃x b,xs=[x,.ty "str"]/\qk X.K "str" x H b/\Q (.bl b) H):=by
 intro pins s σ H xs us Q I r h
 obtain⟨x,b,rfl,hx,q⟩:=h
 obtain⟨u,w',rfl,rx,ry⟩:=jB r
 cases ry
 cases x with
 |non=>cases rx;cases hx;exact lT (by decide +kernel) F.isi_meta_str F.sub_NoneType_str ⟨.bl _,H,I.tok _,rfl,q⟩
 |bl k=>cases rx;cases hx;exact IsiPair.bool_str ⟨.bl _,H,I.tok _,rfl,q⟩
 |int i=>obtain⟨t,rfl⟩:=rx;cases hx;exact IsiPair.int_str ⟨.bl _,H,I.tok _,rfl,q⟩
 |str i=>obtain⟨t,rfl⟩:=rx;cases hx;exact IsiPair.str_str ⟨.bl _,H,I,rfl,q⟩
 |ref a=>
  cases rx
  rcases hx with⟨xs,hx,rfl⟩|⟨xs,hx,rfl⟩|⟨xs,hx,rfl⟩
  ·obtain⟨o,ho,hc⟩:=I.lcls hx;exact IsiPair.list_str ho hc ⟨.bl _,H,I.tok _,rfl,q⟩
  ·obtain⟨o,ho,hc⟩:=I.tcls hx;exact IsiPair.tuple_str ho hc ⟨.bl _,H,I.tok _,rfl,q⟩
  ·obtain⟨o,ho,hc⟩:=I.dcls hx;exact IsiPair.dict_str ho hc ⟨.bl _,H,I.tok _,rfl,q⟩
 |_=>exact False.elim hx
theorem lD:aq X (.builtin "isinstance") (λxs H Q=>∃x b,xs=[x,.ty "list"]/\qk X.K "list" x H b/\Q (.bl b) H):=by
 intro pins s σ H xs us Q I r h
 obtain⟨x,b,rfl,hx,q⟩:=h
 obtain⟨u,w',rfl,rx,ry⟩:=jB r
 cases ry
 cases x with
 |non=>cases rx;cases hx;exact lT (by decide +kernel) F.isi_meta_list F.sub_NoneType_list ⟨.bl _,H,I.tok _,rfl,q⟩
 |bl k=>cases rx;cases hx;exact IsiPair.bool_list ⟨.bl _,H,I.tok _,rfl,q⟩
 |int i=>obtain⟨t,rfl⟩:=rx;cases hx;exact IsiPair.int_list ⟨.bl _,H,I.tok _,rfl,q⟩
 |str i=>obtain⟨t,rfl⟩:=rx;cases hx;exact IsiPair.str_list ⟨.bl _,H,I.tok _,rfl,q⟩
 |ref a=>
  cases rx
  rcases hx with⟨xs,hx,rfl⟩|⟨xs,hx,rfl⟩|⟨xs,hx,rfl⟩
  ·obtain⟨o,ho,hc⟩:=I.lcls hx;exact IsiPair.list_list ho hc ⟨.bl _,H,I,rfl,q⟩
  ·obtain⟨o,ho,hc⟩:=I.tcls hx;exact IsiPair.tuple_list ho hc ⟨.bl _,H,I.tok _,rfl,q⟩
  ·obtain⟨o,ho,hc⟩:=I.dcls hx;exact IsiPair.dict_list ho hc ⟨.bl _,H,I.tok _,rfl,q⟩
 |_=>exact False.elim hx
theorem zD:aq X (.builtin "isinstance") (λxs H Q=>∃x b,xs=[x,.ty "tuple"]/\qk X.K "tuple" x H b/\Q (.bl b) H):=by
 intro pins s σ H xs us Q I r h
 obtain⟨x,b,rfl,hx,q⟩:=h
 obtain⟨u,w',rfl,rx,ry⟩:=jB r
 cases ry
 cases x with
 |non=>cases rx;cases hx;exact lT (by decide +kernel) F.isi_meta_tuple F.sub_NoneType_tuple ⟨.bl _,H,I.tok _,rfl,q⟩
 |bl k=>cases rx;cases hx;exact IsiPair.bool_tuple ⟨.bl _,H,I.tok _,rfl,q⟩
 |int i=>obtain⟨t,rfl⟩:=rx;cases hx;exact IsiPair.int_tuple ⟨.bl _,H,I.tok _,rfl,q⟩
 |str i=>obtain⟨t,rfl⟩:=rx;cases hx;exact IsiPair.str_tuple ⟨.bl _,H,I.tok _,rfl,q⟩
 |ref a=>
  cases rx
  rcases hx with⟨xs,hx,rfl⟩|⟨xs,hx,rfl⟩|⟨xs,hx,rfl⟩
  ·obtain⟨o,ho,hc⟩:=I.lcls hx;exact IsiPair.list_tuple ho hc ⟨.bl _,H,I.tok _,rfl,q⟩
  ·obtain⟨o,ho,hc⟩:=I.tcls hx;exact IsiPair.tuple_tuple ho hc ⟨.bl _,H,I,rfl,q⟩
  ·obtain⟨o,ho,hc⟩:=I.dcls hx;exact IsiPair.dict_tuple ho hc ⟨.bl _,H,I.tok _,rfl,q⟩
 |_=>exact False.elim hx
theorem lE:aq X (.builtin "isinstance") (λxs H Q=>∃x b,xs=[x,.ty "dict"]/\qk X.K "dict" x H b/\Q (.bl b) H):=by
 intro pins s σ H xs us Q I r h
 obtain⟨x,b,rfl,hx,q⟩:=h
 obtain⟨u,w',rfl,rx,ry⟩:=jB r
 cases ry
 cases x with
 |non=>cases rx;cases hx;exact lT (by decide +kernel) F.isi_meta_dict F.sub_NoneType_dict ⟨.bl _,H,I.tok _,rfl,q⟩
 |bl k=>cases rx;cases hx;exact IsiPair.bool_dict ⟨.bl _,H,I.tok _,rfl,q⟩
 |int i=>obtain⟨t,rfl⟩:=rx;cases hx;exact IsiPair.int_dict ⟨.bl _,H,I.tok _,rfl,q⟩
 |str i=>obtain⟨t,rfl⟩:=rx;cases hx;exact IsiPair.str_dict ⟨.bl _,H,I.tok _,rfl,q⟩
 |ref a=>
  cases rx
  rcases hx with⟨xs,hx,rfl⟩|⟨xs,hx,rfl⟩|⟨xs,hx,rfl⟩
  ·obtain⟨o,ho,hc⟩:=I.lcls hx;exact IsiPair.list_dict ho hc ⟨.bl _,H,I.tok _,rfl,q⟩
  ·obtain⟨o,ho,hc⟩:=I.tcls hx;exact IsiPair.tuple_dict ho hc ⟨.bl _,H,I.tok _,rfl,q⟩
  ·obtain⟨o,ho,hc⟩:=I.dcls hx;exact IsiPair.dict_dict ho hc ⟨.bl _,H,I,rfl,q⟩
 |_=>exact False.elim hx
theorem Lv(hc:X.calm=true):aq X (.builtin "sum") (λxs H Q=>∃(p:Addr) (ns:List Int),xs=[.ref p]/\b5 X.K H p (ns.map V.int)/\Q (.int ns.sum) H):=by
 intro pins s σ H xs us Q I r h
 obtain⟨p,ns,rfl,hq,q⟩:=h
 obtain⟨u,rfl,rx⟩:=cR r
 cases rx
 obtain⟨its,rv,pl,hz⟩:=I.list hq
 have hi:IntsAre its ns:=qD rv
 have hall:=hi.allInts
 have e0:=hi.numsOf
 obtain⟨xs,ex⟩:=hall.items
 have e1:numsOf (intItems xs).toList=ns:=by rw[<-ex];exact e0
 rw[nums_intItems]at e1
 have hl:=pl.isList
 rw[ex]at hl
 refine sum_intListG (I.ok.hd hc) hl λh' tk t' hk=>⟨.int ns.sum,H,I.kept hk,⟨t',?_⟩,q⟩
 rw[preSum_eq,mq (by simp),e1]
theorem Md{prog:Program}{w:World}{A:Around}{bs:List Bool}{its:List Value}(rv:aj (bs.map V.bl) its):TruthOf prog w A (λi v=>its.toArray[i]?=some v) λi=>bs.getD i false:=by
 intro i v s Q E hP hQ
 have hi:its[i]?=some v:=by simpa using hP
 have hl:=rv.length
 rw[ao]at hl
 have hlt:i<bs.length:=by rw[hl];exact(qy_.mp hi).1
 obtain⟨u,hu,ru⟩:=rv.get (i:=i) (x:=V.bl (bs.getD i false)) (by rw[e_,j3,b_ hlt];rfl)
 rw[hi]at hu
 cases hu
 cases ru
 exact wpAny_truthy_bool hQ
def MF(bs:List Bool):(List.range bs.length).any (λi=>bs.getD i false)=bs.any id:=by
 induction bs with
 |nil=>rfl
 |cons b r ih=>
  rw[ik,mn,iq,iq,List.any_map]
  rw[<-ih]
  rfl
theorem Lo(hc:X.calm=true):aq X (.builtin "any") (λxs H Q=>∃(p:Addr) (bs:List Bool),xs=[.ref p]/\b5 X.K H p (bs.map V.bl)/\Q (.bl (bs.any id)) H):=by
 intro pins s σ H xs us Q I r h
 obtain⟨p,bs,rfl,hq,q⟩:=h
 obtain⟨u,rfl,rx⟩:=cR r
 cases rx
 obtain⟨its,rv,pl,hz⟩:=I.list hq
 have hlt:p<s.heap.objs.size:=by obtain⟨_,e,_⟩:=pl.isList;exact bo e
 have hll:=rv.length
 rw[ao]at hll
 refine call_any_walk (wpAny_pyIter_list pl.isList ?_)
 refine⟨s.heap.objs.size,_,_,_,_,_,λi=>bs.getD i false,rfl,Walks.list (A:=X.A.in1) (I.ok.hd hc) _ p (cq hlt) its.toArray,⟨⟨_,b6 _ rfl,rfl,rfl⟩,pl.isList.at λo e=>ay _ e⟩,Md rv,λh' tk hk=>?_⟩
 refine⟨.bl (bs.any id),H,I.kept λb o e=>hk b o (by simpa using cq (bo e)) (ay _ e),?_,q⟩
 show Value.bool _=Value.bool _
 rw[cy,<-hll,MF]
def fY:List V->List V->Bool
 |[],[]=>true
 |x::xs,y::ys=>dc x y&&fY xs ys
 |_,_=>false
def A3:∀{xs ys:List V},xs.length≠ys.length->fY xs ys=false
 |[],[],h=>absurd rfl h
 |[],_::_,_=>rfl
 |_::_,[],_=>rfl
 |x::xs,y::ys,h=>by
  have:=A3 (xs:=xs) (ys:=ys) (λe=>h (by simp[e]))
  simp[fY,this]
def Cj:∀{xs ys:List V},xs.length=ys.length->(List.range xs.length).all (λi=>dc (xs.getD i .non) (ys.getD i .non))=fY xs ys
 |[],[],_=>rfl
 |[],_::_,h=>by simp at h
 |_::_,[],h=>by simp at h
 |x::xs,y::ys,h=>by
  have ih:=Cj (xs:=xs) (ys:=ys) (by simpa using h)
  rw[ik,mn,List.all_cons,List.all_map]
  show(dc x y&&(List.range xs.length).all λi=>dc (xs.getD i .non) (ys.getD i .non))=(dc x y&&fY xs ys)
  rw[ih]
def KF{A:Around}{s:Shared}{xs ys:List V}{us ws:List Value}(r:aj xs us)(r':aj ys ws)(fx:xs.all dL=true)(fy:ys.all dL=true)(j:Nat)(h1:j<us.toArray.size)(h2:j<ws.toArray.size):
  SeqAt.EqAt A s us.toArray[j] ws.toArray[j] (dc (xs.getD j .non) (ys.getD j .non)):=by
 have l1:=r.length
 have l2:=r'.length
 have k1:j<xs.length:=by rw[l1];simpa using h1
 have k2:j<ys.length:=by rw[l2];simpa using h2
 obtain⟨u,hu,ru⟩:=r.get (i:=j) (x:=xs.getD j .non) (by rw[j3,b_ k1];rfl)
 obtain⟨w',hw,rw'⟩:=r'.get (i:=j) (x:=ys.getD j .non) (by rw[j3,b_ k2];rfl)
 have e1:us.toArray[j]=u:=by
  obtain⟨_,e⟩:=qy_.mp hu
  simpa using e
 have e2:ws.toArray[j]=w':=by
  obtain⟨_,e⟩:=qy_.mp hw
  simpa using e
 rw[e1,e2]
 refine An ru rw' (qM1_.mp fx _ ?_) (qM1_.mp fy _ ?_)
 ·rw[j3,b_ k1];exact jl k1
 ·rw[j3,b_ k2];exact jl k2
def DP(K:W.Frag)(neg:Bool):R2:=λx y H Q=>∃p q xs ys,x=.ref p/\y=.ref q/\b5 K H p xs/\b5 K H q ys/\xs.all dL=true/\ys.all dL=true/\Q (.bl (if neg then !fY xs ys else fY xs ys)) H
def F4(hu:X.A.units<cLine):cg X (compareOp .Eq) (DP X.K false):=by
 intro pins s σ H x y v u Q I rx ry h
 obtain⟨p,q,xs,ys,rfl,rfl,hx,hy,fx,fy,k⟩:=h
 cases rx
 cases ry
 obtain⟨us,r1,p1,z1⟩:=I.list hx
 obtain⟨ws,r2,p2,z2⟩:=I.list hy
 by_cases hl:xs.length=ys.length
 ·refine SeqAt.eq_listAt p1.isList p2.isList (by simp[<-r1.length,<-r2.length,hl]) hu (λj h1 h2=>KF r1 r2 fx fy j h1 h2) ⟨.bl (fY xs ys),H,I,?_,k⟩
  show Value.bool _=Value.bool _
  rw[cy,<-r1.length,Cj hl]
 ·refine SeqAt.eq_list_lengthsAt p1.isList p2.isList (by simp[<-r1.length,<-r2.length,hl]) hu ⟨.bl (fY xs ys),H,I,?_,k⟩
  rw[A3 hl];rfl
def LD(n:Nat):sliceRange (sliceBounds none none (some (-1)) n).1 (sliceBounds none none (some (-1)) n).2.1 (sliceBounds none none (some (-1)) n).2.2=(List.range n).map λk=>n-1-k:=by
 have e:sliceBounds none none (some (-1)) n=((n:Int)-1,-1,-1):=by simp[sliceBounds]
 rw[e]
 unfold sliceRange
 simp only[show ¬ ((-1:Int) > 0) by decide,if_false]
 by_cases hn:n=0
 ·subst hn;simp
 ·have h1:(n:Int)-1 > -1:=by omega
  rw[if_pos h1]
  have h2:(((n:Int)-1 - -1 - -1-1) / (- -1)).toNat=n:=by
   rw[show(n:Int)-1 - -1 - -1-1=n by omega,show(- -1:Int)=1 by decide,Int.ediv_one]
   exact Int.toNat_natCast n
  rw[h2]
  refine mi λk hk=>?_
  have:=qt1_.mp hk
  omega
def A5{α β:Type}{f g:α->Option β}:∀{l:List α},(∀x∈l,f x=g x)->l.filterMap f=l.filterMap g
 |[],_=>rfl
 |x::r,h=>by rw[il,il,h x fw,A5 λy hy=>h y (d_ _ hy)]
def CU{α:Type}:∀zs:List α,(List.range zs.length).filterMap (λk=>zs.reverse[zs.length-1-k]?)=zs
 |[]=>rfl
 |z::r=>by
  rw[ik,mn,il,mz]
  have h0:(z::r).reverse[r.length+1-1-0]?=some z:=by simp
  rw[h0]
  have h1:List.filterMap ((λk=>(z::r).reverse[r.length+1-1-k]?)∘Nat.succ) (List.range r.length)=List.filterMap (λk=>r.reverse[r.length-1-k]?) (List.range r.length):=by
   apply A5
   intro k hk
   have hk:=qt1_.mp hk
   show(z::r).reverse[r.length+1-1-(k+1)]?=r.reverse[r.length-1-k]?
   rw[kf,jr (by simp;omega)]
   rw[show r.length+1-1-(k+1)=r.length-1-k by omega]
  rw[h1,CU r]
def JR{α:Type}(xs:List α):((List.range xs.length).map λk=>xs.length-1-k).filterMap (λi=>xs[i]?)=xs.reverse:=by
 have:=CU xs.reverse
 rw[jn,List.reverse_reverse]at this
 rw[mz]
 exact this
def zE(its:List Value):slicePick its.toArray none none (some (-1))=its.reverse.toArray:=by
 unfold slicePick
 rw[cy,LD]
 congr 1
 have:=JR its
 simpa using this
def yh(K:W.Frag)(te tst:TE):TE:=λσ H Q=>te σ H λx H1=>tst σ H1 λy H2=>y=.int (-1)/\∃p xs,x=.ref p/\b5 K H2 p xs/\∀l,H2 l=none->Q (.ref l) (ar H2 l (.lst xs.reverse))
def Gh{e st:Expr}{te tst:TE}{pos p2:Pos}(he:PE X e te)(hst:PE X st tst)(ht:∀o r,letTemporaryGo e o r=pure ():=by intro _ _;rfl):PE X (.Subscript e (.Slice none none (some st) p2) pos) (yh X.K te tst):=by
 intro pins s σ H Q I h
 refine wpAny_Subscript_Slice_step (T:="list") slot_list_getitem.lookup (bf (he pins s σ H _ I h) λv s1 ⟨x,H1,I1,r1,q1⟩=>?_) ht
 refine wpAny_Slice ?_
 rw[evalPart_none,evalPart_some]
 refine ah (ah (bf (hst pins s1 σ H1 _ I1 q1) λvs s2 ⟨y,H2,I2,r2,q2⟩=>?_))
 obtain⟨rfl,p,xs,rfl,hx,q⟩:=q2
 obtain⟨t,rfl⟩:=r2
 cases r1
 have I3:ag X pins σ H2 {s2 with heap:=s2.heap.push {cls:=.type "slice",data:=.fields #[.none,.none,.int (-1) t]}}:=I2.kept (t':=s2.toks) λb ob q=>ay _ q
 obtain⟨its,rv,pl,hz⟩:=I3.list hx
 refine⟨pl.isList.typeIs,?_⟩
 refine wpAny_getItem_list_slice pl.isList (Heap.IsSliceOf.new ..) .none .none (.int (-1) t) (by decide) ?_ (by rw[cy,<-rv.length];exact hz)
 rw[zE]
 refine⟨.ref _,_,I3.laid (t':=s2.toks) (o:=.lst xs.reverse) (λb ob q=>ay _ q) (ba _) ?_,rfl,q _ (I3.hok.fresh (ba _))⟩
 exact⟨by rw[jn];exact hz,_,0,rv.reverse,b6 _ rfl⟩
def F7:cg X (compareOp .Is) (λx y H Q=>∃b,y=.bl b/\Q (.bl (decide (x=.bl b))) H):=by
 intro pins s σ H x y v u Q I rx ry h
 obtain⟨b,rfl,q⟩:=h
 cases ry
 cases x with
 |non=>cases rx;exact wpAny_is_plain rfl ⟨.bl _,H,I,(by simp[ai]),q⟩
 |bl k=>cases rx;exact wpAny_is_plain rfl ⟨.bl _,H,I,(by cases k<;>cases b<;>rfl),q⟩
 |int i=>obtain⟨t,rfl⟩:=rx;exact wpAny_is_plain rfl ⟨.bl _,H,I,(by simp[ai]),q⟩
 |str i=>obtain⟨t,rfl⟩:=rx;exact wpAny_is_plain rfl ⟨.bl _,H,I,(by simp[ai]),q⟩
 |byt i=>obtain⟨t,rfl⟩:=rx;exact wpAny_is_plain rfl ⟨.bl _,H,I,(by simp[ai]),q⟩
 |flt i=>obtain⟨t,rfl⟩:=rx;exact wpAny_is_plain rfl ⟨.bl _,H,I,(by simp[ai]),q⟩
 |ref i=>cases rx;exact wpAny_is_plain rfl ⟨.bl _,H,I,(by simp[ai]),q⟩
 |ty i=>cases rx;exact wpAny_is_plain rfl ⟨.bl _,H,I,(by simp[ai]),q⟩
def K4:cg X (compareOp .IsNot) (λx y H Q=>∃b,y=.bl b/\Q (.bl (!decide (x=.bl b))) H):=by
 intro pins s σ H x y v u Q I rx ry h
 obtain⟨b,rfl,q⟩:=h
 cases ry
 cases x with
 |non=>cases rx;exact wpAny_isNot_plain rfl ⟨.bl _,H,I,(by simp[ai]),q⟩
 |bl k=>cases rx;exact wpAny_isNot_plain rfl ⟨.bl _,H,I,(by cases k<;>cases b<;>rfl),q⟩
 |int i=>obtain⟨t,rfl⟩:=rx;exact wpAny_isNot_plain rfl ⟨.bl _,H,I,(by simp[ai]),q⟩
 |str i=>obtain⟨t,rfl⟩:=rx;exact wpAny_isNot_plain rfl ⟨.bl _,H,I,(by simp[ai]),q⟩
 |byt i=>obtain⟨t,rfl⟩:=rx;exact wpAny_isNot_plain rfl ⟨.bl _,H,I,(by simp[ai]),q⟩
 |flt i=>obtain⟨t,rfl⟩:=rx;exact wpAny_isNot_plain rfl ⟨.bl _,H,I,(by simp[ai]),q⟩
 |ref i=>cases rx;exact wpAny_isNot_plain rfl ⟨.bl _,H,I,(by simp[ai]),q⟩
 |ty i=>cases rx;exact wpAny_isNot_plain rfl ⟨.bl _,H,I,(by simp[ai]),q⟩
def cx(j:Int):Prop:=j.natAbs<2 ^ 1024
def cx.log{j:Int}(h:cx j):j.natAbs.log2<9000:=by
 by_cases h0:j.natAbs=0
 ·rw[h0];decide +kernel
 ·have:j.natAbs.log2<1024:=(Nat.log2_lt h0).mpr h
  omega
def op_mulB:cg X (binaryOp .Mult) (rI (λi j=>cx i/\cx j) λi j=>.int (i*j)):=q_ λi j _ _ _ _ _ hc q=>by
 have bits:∀{x:Int},cx x->Builtin.Int.intBits x<=2 ^ 20:=λ{x} h=>by
  unfold Builtin.Int.intBits
  split
  ·exact d6 _
  ·rename_i h0
   have h0':x.natAbs≠0:=λz=>h0 (by simpa using z)
   have:x.natAbs.log2<1024:=(Nat.log2_lt h0').mpr h
   omega
 exact mul_int q (.of_bits (bits hc.1) (bits hc.2))
def Bi:cg X (binaryOp .FloorDiv) (rI (λ_ j=>0<j/\cx j) λi j=>.int (i / j)):=q_ λi j _ _ _ _ _ hc q=>by
 have h1:(0:Int)<j:=hc.1
 exact floordiv_int (by omega) (by rw[t5 i (by omega)];exact q) (.inl (PyProof.noPylong_of_log2 hc.2.log))
end
def dO:Expr->Bool
 |.Starred ..=>true
 |_=>false
def gS{e:Expr}{rest:List Expr}{env:Env}(h:dO e=false):starEach (e::rest) env=(false,eval e env)::starEach rest env:=by
 cases e<;>first|rfl|exact Bool.noConfusion h
def cT{X:Cx}{e:Expr}{es:List Expr}{te:TE}{t:TA}(ha:PE X e te)(hr:PA X es t)(h:dO e=false:=by rfl):PA X (e::es) (xF te t):=Jk ha hr (gS h)
def cv(P:Program)(w:World)(K:W.Frag)(mg:Str->Option Value)(base:Heap)(k:Nat)(x:Str)(ps:List Str)(sp:Sp):Prop:=
 ∃(f:Addr) (fd:FuncData),df P w K mg base nr k f fd ps sp/\gz K fd ps []/\mg x=some (.ref f)/\W.keepIn K (.ref f)=true
section
variable{X:Cx}{k:Nat}{x:Str}{ps:List Str}{sp:Sp}{e:Expr}{es:List Expr}{t:TA}{p pos:Pos}
def oS(G:cv X.prog X.w X.K X.mg X.base k x ps sp)(hr:bt k X.A)(hg:Gl X x)(ha:PA X (e::es) t)(hdb:(x==("__debug__":Str))=false:=by decide)
  (hst:dO e=false:=by rfl) (hpl:(backTo pos (starEach es X.env)).any (·.1)=false:=by rfl):PE X (.Call (.Name x p) (e::es) [] pos) (mH sp [] E0 t):=by
 obtain⟨f,fd,F,b,m,kp⟩:=G
 exact Jl F hr hg m kp b .nil yv ha hdb (gS hst) hpl
def Ge(G:cv X.prog X.w X.K X.mg X.base k x ps sp)(hr:bt k X.A)(hg:Gl X x)(hdb:(x==("__debug__":Str))=false:=by decide):PE X (.Call (.Name x p) [] [] pos) (mH sp [] E0 sM):=by
 obtain⟨f,fd,F,b,m,kp⟩:=G
 exact JK F hr hg m kp b .nil yv hdb
end
def ak(K:W.Frag)(mg:Str->Option Value)(x:Str)(st:Stmt):Prop:=∃(f:Addr) (fd:FuncData),rm K x x st f fd/\mg x=some (.ref f)
theorem ak.good{P:Program}{w:World}{K:W.Frag}{mg:Str->Option Value}{base:Heap}{x:Str}{st:Stmt}{N ps:List Str}{k:Nat}{sp:Sp}(h:ak K mg x st)(S:bB N ps (aN st))
  (hb:∀(kV doc pm:Value) (an:Option Addr) (cdv ct:Value) (us:List Value),us.length=ps.length->bindArgs (W.fnOf x x (gG st) (eK st) (aN st) .none kV doc pm an cdv ct) ⟨us,[]⟩=pure (ps.zip us))
  (len:∀vs H Q E,sp vs H Q E->vs.length=ps.length)
  (hbody:∀(f:Addr) (cdv:Value) (A:Around) (outer:List Env) (s:Shared) (H:Hp) (vs:List V) (Q:VK) (E:XK),bt k (A.deeper (envOfC x (aN st) s.heap.objs.size f cdv))->sp vs H Q E ->
   ∃t,f_ (jK nr P w K mg base N x (aN st) f cdv A outer s H E).nox (eK st) t/\t {nx:=λ_ H'=>Q .non H',rt:=Q} (dY N vs) H):cv P w K mg base (k+1) x ps sp:=by
 obtain⟨f,fd,F,m⟩:=h
 exact⟨f,fd,F.ok S len λcdv A outer s H vs Q E hr q=>hbody f cdv A outer s H vs Q E hr q,F.binds hb,m,F.kp⟩
def has_mk{K:W.Frag}{h:Heap}{mg:Str->Option Value}{x:Str}{st:Stmt}{f:Addr}{oc:Value}{od an:Option Addr}{osl:Array (Option Value)}{kV doc pm cdv ct:Value}(X:K.In h)(G:h.Ns mainGlobals mg)
  (a:W.nsIn K mainGlobals x=some (some (.ref f))) (l:K.lookup f=some ⟨oc,od,.func (W.fnOf x x (gG st) (eK st) (aN st) .none kV doc pm an cdv ct),osl⟩)
  (c:W.codeIn K cdv x=true) (k:W.keepIn K (.ref f)=true):ak K mg x st:=⟨f,_,Ap l c k,PySem.W.mg_of X G a⟩
structure Own (mg:Str->Option Value):Prop where
 len:mg "len"=none
 range:mg "range"=none
 isinstance:mg "isinstance"=none
 int_:mg "int"=none
 bool_:mg "bool"=none
 str_:mg "str"=none
 list_:mg "list"=none
 tuple_:mg "tuple"=none
 dict_:mg "dict"=none
 sum:mg "sum"=none
 min:mg "min"=none
 max:mg "max"=none
 all:mg "all"=none
 any:mg "any"=none
 abs:mg "abs"=none
 zip:mg "zip"=none
 sorted:mg "sorted"=none
 set_:mg "set"=none
 enumerate:mg "enumerate"=none
def Gb{K:W.Frag}{h:Heap}{mg:Str->Option Value}(X:K.In h)(G:h.Ns mainGlobals mg)(z1:W.nsIn K mainGlobals "len"=some none)(z2:W.nsIn K mainGlobals "range"=some none)
    (z3:W.nsIn K mainGlobals "isinstance"=some none) (z4:W.nsIn K mainGlobals "int"=some none) (z5:W.nsIn K mainGlobals "bool"=some none) (z6:W.nsIn K mainGlobals "str"=some none)
    (z7:W.nsIn K mainGlobals "list"=some none) (z8:W.nsIn K mainGlobals "tuple"=some none) (z9:W.nsIn K mainGlobals "dict"=some none) (z10:W.nsIn K mainGlobals "sum"=some none)
    (z11:W.nsIn K mainGlobals "min"=some none) (z12:W.nsIn K mainGlobals "max"=some none) (z13:W.nsIn K mainGlobals "all"=some none) (z14:W.nsIn K mainGlobals "any"=some none)
    (z15:W.nsIn K mainGlobals "abs"=some none) (z16:W.nsIn K mainGlobals "zip"=some none) (z17:W.nsIn K mainGlobals "sorted"=some none) (z18:W.nsIn K mainGlobals "set"=some none)
    (z19:W.nsIn K mainGlobals "enumerate"=some none):Own mg:=
  ⟨ir X G z1,ir X G z2,ir X G z3,ir X G z4,ir X G z5,ir X G z6,ir X G z7,ir X G z8,ir X G z9,ir X G z10,
   ir X G z11,ir X G z12,ir X G z13,ir X G z14,ir X G z15,ir X G z16,ir X G z17,ir X G z18,ir X G z19⟩
structure bj (H:Hp) (p c:Addr):Prop where
 ne:p≠c
 dk:∃S k:Int,H p=some (.lst [.ref c,.int S,.int k])
 cs:∃ns:List Int,H c=some (.lst (ns.map V.int))/\ns.length<=64
structure On (p c:Addr) (H H':Hp):Prop where
 d:bj H' p c
 e:∀b o,H b=some o->b≠p->b≠c->H' b=some o
section
variable{p c a:Addr}{H H1 H2:Hp}{o:HO}
def bj.nep(d:bj H p c)(h:H a=none):a≠p:=λz=>by
 obtain⟨S,k,e⟩:=d.dk
 rw[z,e]at h;cases h
def bj.nec(d:bj H p c)(h:H a=none):a≠c:=λz=>by
 obtain⟨ns,e,_⟩:=d.cs
 rw[z,e]at h;cases h
def bj.alloc(d:bj H p c)(h:H a=none):bj (ar H a o) p c:=by
 obtain⟨S,k,e⟩:=d.dk
 obtain⟨ns,e',l⟩:=d.cs
 exact⟨d.ne,⟨S,k,by rw[bL (d.nep h).symm];exact e⟩,ns,by rw[bL (d.nec h).symm];exact e',l⟩
def On.trans(x:On p c H H1)(y:On p c H1 H2):On p c H H2:=⟨y.d,λb o h hp hc=>y.e b o (x.e b o h hp hc) hp hc⟩
def On.alloc(x:On p c H H1)(h:H1 a=none):On p c H (ar H1 a o):=
 ⟨x.d.alloc h,λb u q hp hc=>by rw[bL (dQ (x.e b u q hp hc) h)];exact x.e b u q hp hc⟩
end
def Bx:Sp:=λvs H Q _=>∃n k:Int,vs=[.int n,.int k]/\∀r:Int,Q (.int r) H
def AM(K:W.Frag):Sp:=λvs H Q _=>∃(a:Addr) (ns:List Int),vs=[.ref a]/\b5 K H a (ns.map V.int)/\∀(p c:Addr) (H':Hp),H p=none->H c=none->bj H' p c->ax H H'->Q (.ref p) H'
def AN:Sp:=λvs H Q _=>∃(p c:Addr) (m:Int),vs=[.ref p,.int m]/\bj H p c/\0<m/\cx m/\∀(r:Int) (H':Hp),0<=r->r<m->On p c H H'->Q (.int r) H'
def aw.there{P:Program}{w:World}{H:Hp}{h:Heap}{a:Addr}{o:HO}(x:aw P w H h a o):∃ob,h.get? a=some ob:=by
 cases o with
 |lst xs=>obtain⟨_,_,_,_,e⟩:=x;exact⟨_,e⟩
 |tup xs=>obtain⟨_,_,_,ob,e,_⟩:=x;exact⟨_,e⟩
 |dK kvs=>obtain⟨_,_,_,_,o,_,_,e,_⟩:=x;exact⟨_,e⟩
 |dT kvs=>obtain⟨_,_,_,_,o,_,_,e,_⟩:=x;exact⟨_,e⟩
 |set S n=>obtain⟨o,_,_,_,e,_⟩:=x;exact⟨_,e⟩
 |ins C dx fs=>obtain⟨_,_,_,e,_⟩:=x;exact⟨_,e⟩
 |own y=>obtain⟨_,e⟩:=x;exact⟨_,e⟩
 |xd fs=>obtain⟨_,⟨_,_,_,e,_⟩,_⟩:=x;exact⟨_,e⟩
 |rng lo hi=>obtain⟨_,_,_,e⟩:=x;exact⟨_,e⟩
 |frz ob u=>obtain⟨e,_⟩:=x;exact⟨_,e⟩
 |tbl ps=>exact⟨_,(show h.get? a=some _ from x)⟩
 |met f y=>exact⟨_,(show h.get? a=some _ from x)⟩
 |ext φ=>obtain⟨_,⟨_,e⟩,_⟩:=x;exact⟨_,e⟩
section
variable{X:Cx}
def cB{H:Hp}{a:Addr}{o:HO}(h:H a=none):ax H (ar H a o):=λb u q=>by rw[bL (dQ q h)];exact q
def EV(K:W.Frag):R2:=λx y H Q=>∃a b xs ys,x=.ref a/\y=.ref b/\cu K H a xs/\cu K H b ys/\xs.length+ys.length<=sizeLine/\∀r H',cu K H' r (xs++ys)->ax H H'->Q (.ref r) H'
theorem op_catG:cg X (binaryOp .Add) (EV X.K):=by
 intro pins s σ H x y v u Q I rx ry h
 obtain⟨a,b,xs,ys,rfl,rfl,ha,hb,hz,q⟩:=h
 by_cases hx:xs=[]
 ·subst hx
  cases rx
  cases ry
  obtain⟨its,r1,p1,_⟩:=I.tuple ha
  obtain⟨its2,r2,p2,_⟩:=I.tuple hb
  obtain⟨⟨cls,dd,data,sl⟩,ho,hc,n,hd⟩:=id p1
  obtain⟨⟨cls2,dd2,data2,sl2⟩,ho2,hc2,n2,hd2⟩:=id p2
  simp only at hc hd hc2 hd2
  subst hc hd hc2 hd2
  have e1:its=[]:=r1.nil_iff.mpr rfl
  exact concat_meets ⟨_,ho,rfl⟩ ⟨_,ho2,rfl⟩ noFill_tuple_add seq_tuple_add PySem.F.slot_tuple_add PySem.F.entry_tuple_add (PySem.F.args_tuple_add_2 _ _)
   (tuple_addW0 a b its.toArray its2.toArray n n2 dd dd2 sl sl2 (by simp[e1])) ⟨ho,ho2,⟨.ref b,H,I,rfl,q b H hb (ax.refl H)⟩⟩
 ·refine Jd pins s σ H (.ref a) (.ref b) v u Q I rx ry ⟨a,b,xs,ys,rfl,rfl,ha,hb,hx,hz,λe=>q a H (by rw[e,jb];exact ha) (ax.refl H),λ_ p hp=>q p _ (cu.of bA) (cB hp)⟩
structure QA (X:Cx) (es:List Expr) (t:TA):Prop where
 p:PA X es t
def AH:QA X [] sM:=⟨dD⟩
def yJ{e:Expr}{es:List Expr}{te:TE}{t:TA}(ha:PE X e te)(hr:QA X es t)(h:dO e=false:=by rfl):QA X (e::es) (xF te t):=⟨cT ha hr.p h⟩
def BW{es:List Expr}{t:TA}{pos:Pos}(h:QA X es t):PE X (.List es pos) (yg t):=AD h.p
def ag.big{pins:List (Addr×Obj)}{σ:St}{H:Hp}{s:Shared}(I:ag X pins σ H s):sysModules<s.heap.objs.size:=by
 have h:mainGlobals<s.heap.objs.size:=(I.mod.glob.keeps I.bk).lt
 exact gc (by decide) h
def BP{P:Program}{w:World}{H:Hp}(h:Heap)(hb:sysModules<h.objs.size):aw P w H (h.push {cls:=.type "dict",data:=.dict #[]}) h.objs.size (.dK []):=
 ⟨d6 _,beq_eq_false_iff_ne.mpr (Ne.symm (cq hb)),[],.nil,Heap.DictOf.new h⟩
def HR:TE:=λ_ H Q=>∀p,H p=none->Q (.ref p) (ar H p (.dK []))
def JM{pos:Pos}:PE X (.Dict [] [] pos) HR:=λpins s σ H Q I h=>
 wpAny_Dict_empty ⟨.ref s.heap.objs.size,_,I.laid (a:=s.heap.objs.size) (o:=.dK []) (t':=s.toks) (λ_ _ q=>ay _ q) (ba _) (BP s.heap I.big),rfl,h _ (I.hok.fresh (ba _))⟩
end
section
variable{prog:Program}{w:World}{A:Around}{E:Value->Shared->Prop}{s:Shared}
theorem LO{j t:Addr}{k:Nat}{vs:Array Value}{v:Value}{Q:Value->Shared->Prop}(hj:s.heap.IsTupleIter j t k)(ht:s.heap.IsTuple t vs)(hv:vs[k]?=some v)
  (q:∀h',h'.IsTupleIter j t (k+1)->Heap.SameBut j s.heap h'->Q v {s with heap:=h'}):wpAny (model prog w) A (Builtin.SmallTypes.nextOf (.ref j)) Q E s:=by
 obtain⟨oj,ej,cj,dj⟩:=id hj
 obtain⟨ot,et,_,nt,dt⟩:=id ht
 unfold Builtin.SmallTypes.nextOf
 refine af (wpAny_callSpecial?_slot (name:=Str.ofString "__next__") hj.typeIs F.slot_tuple_iterator_next (ig F.slot_tuple_iterator_next hj.typeIs F.entry_tuple_iterator_next ?_ (F.args_tuple_iterator_next_1 _)))
 refine af (m:=field (.ref j) 0) (wpAny_field ej dj (x:=.ref t) rfl ?_)
 have nn:¬ ((Value.ref t==Value.none)=true):=cb
 show wpAny (model prog w) A.in1 (if (Value.ref t==Value.none)=true then _ else _) _ _ s
 rw[if_neg nn]
 refine af (m:=field (.ref j) 1) (wpAny_field ej dj (x:=.int k 0) rfl (af (m:=seqItems? (.ref t)) (wpAny_seqItems et dt ?_)))
 simp only[Int.toNat_natCast,hv]
 refine af (wpAny_setField ej dj (by simp) (ah ⟨v,rfl,ah (q _ ⟨_,j4 _ ej (Obj.isFreed_of_fields (Obj.data_mapFields dj _)),(Obj.cls_mapFields ..).trans cj,?_⟩ (Heap.SameBut.update ..))⟩))
 rw[Obj.data_mapFields dj]
 simp[rawInt]
theorem K2{j t:Addr}{k:Nat}{vs:Array Value}{Q:Value->Shared->Prop}(hh:A.handled=none)(hj:s.heap.IsTupleIter j t k)(ht:s.heap.IsTuple t vs)(hv:vs[k]?=none)
  (q:∀h' e,Heap.ExtBut j s.heap h'->(∃o,h'.get? e=some o/\o.cls=.type "StopIteration")->E (.ref e) {s with heap:=h'}):wpAny (model prog w) A (Builtin.SmallTypes.nextOf (.ref j)) Q E s:=by
 obtain⟨oj,ej,cj,dj⟩:=id hj
 obtain⟨ot,et,_,nt,dt⟩:=id ht
 unfold Builtin.SmallTypes.nextOf
 refine af (wpAny_callSpecial?_slot (name:=Str.ofString "__next__") hj.typeIs F.slot_tuple_iterator_next (ig F.slot_tuple_iterator_next hj.typeIs F.entry_tuple_iterator_next ?_ (F.args_tuple_iterator_next_1 _)))
 refine af (m:=field (.ref j) 0) (wpAny_field ej dj (x:=.ref t) rfl ?_)
 have nn:¬ ((Value.ref t==Value.none)=true):=cb
 show wpAny (model prog w) A.in1 (if (Value.ref t==Value.none)=true then _ else _) _ _ s
 rw[if_neg nn]
 refine af (m:=field (.ref j) 1) (wpAny_field ej dj (x:=.int k 0) rfl (af (m:=seqItems? (.ref t)) (wpAny_seqItems et dt ?_)))
 simp only[Int.toNat_natCast,hv]
 refine af (wpAny_rule (af (wpAny_setField ej dj (by simp) (wpAny_bind (m:=newExc (.type "StopIteration") []) ?_))))
 unfold newExc newTuple
 refine af (jg (af (m:=firstArgMember _ _) (wpAny_of_eq (a:=Value.none) (by first|rfl|(simp only[firstArgMember];rfl)) (jg ?_ (by size_fits)))) (by size_fits))
 unfold raiseNew
 refine af (wpAny_handled ?_)
 rw[show A.in1.handled=none from hh]
 exact af (ah (wpAny_throw (q _ _ (((Heap.SameBut.update ..).extBut.push _).push _) ⟨_,b6 _ rfl,rfl⟩)))
structure lA (prog:Program) (w:World) (i l:Addr) (it:Nat->Heap->Prop) (sq:Heap->Array Value->Prop):Prop where
 obj:∀k h,it k h->∃o,h.get? i=some o/\∀v,o.data≠.cell v
 itk:∀k h h',it k h->(∀o,h.get? i=some o->h'.get? i=some o)->it k h'
 sqk:∀h h' vs,sq h vs->(∀o,h.get? l=some o->h'.get? l=some o)->sq h' vs
 item:∀(A:Around) (E:Value->Shared->Prop) (s:Shared) (k:Nat) (vs:Array Value) (v:Value) (Q:Value->Shared->Prop),it k s.heap->sq s.heap vs->vs[k]?=some v ->
  (∀h',it (k+1) h'->Heap.SameBut i s.heap h'->Q v {s with heap:=h'})->wpAny (model prog w) A (Builtin.SmallTypes.nextOf (.ref i)) Q E s
 done:∀(A:Around) (E:Value->Shared->Prop) (s:Shared) (k:Nat) (vs:Array Value) (Q:Value->Shared->Prop),A.handled=none->it k s.heap->sq s.heap vs->vs[k]?=none ->
  (∀h' e,Heap.ExtBut i s.heap h'->(∃o,h'.get? e=some o/\o.cls=.type "StopIteration")->E (.ref e) {s with heap:=h'})->wpAny (model prog w) A (Builtin.SmallTypes.nextOf (.ref i)) Q E s
def Me(i l:Addr):lA prog w i l (λk h=>h.IsListIter i l k) (λh vs=>h.IsList l vs) where
 obj:=λk h x=>let ⟨o,e,_,d⟩:=x;⟨o,e,λv z=>by rw[d]at z;cases z⟩
 itk:=λk h h' x f=>let ⟨o,e,r⟩:=x;⟨o,f o e,r⟩
 sqk:=λh h' vs x f=>let ⟨o,e,r⟩:=x;⟨o,f o e,r⟩
 item:=λA E s k vs v Q a b c q=>wpAny_nextOf_list_item a b c q
 done:=λA E s k vs Q hh a b c q=>wpAny_nextOf_list_end hh a b c q
def LG(i l:Addr):lA prog w i l (λk h=>h.IsTupleIter i l k) (λh vs=>h.IsTuple l vs) where
 obj:=λk h x=>let ⟨o,e,_,d⟩:=x;⟨o,e,λv z=>by rw[d]at z;cases z⟩
 itk:=λk h h' x f=>let ⟨o,e,r⟩:=x;⟨o,f o e,r⟩
 sqk:=λh h' vs x f=>let ⟨o,e,r⟩:=x;⟨o,f o e,r⟩
 item:=λA E s k vs v Q a b c q=>LO a b c q
 done:=λA E s k vs Q hh a b c q=>K2 hh a b c q
section
variable{z TI TO i1 i2 l1 l2:Addr}{it1 it2:Nat->Heap->Prop}{sq1 sq2:Heap->Array Value->Prop}
def KH(S1:lA prog w i1 l1 it1 sq1)(S2:lA prog w i2 l2 it2 sq2)(D:ZipApart z TI TO i1 i2 l1 l2){k1 k2:Nat}{xs ys:Array Value}{x y a b:Value}{Q:Value->Shared->Prop}
  (hz:IsZip s.heap z TI TO .none) (hI:IsPair s.heap TI (.ref i1) (.ref i2)) (hO:IsPair s.heap TO a b) (j1:it1 k1 s.heap) (j2:it2 k2 s.heap) (q1:sq1 s.heap xs) (q2:sq2 s.heap ys)
  (hx:xs[k1]?=some x) (hy:ys[k2]?=some y)
  (q:∀h',IsZip h' z TI TO (rawInt s.heap.objs.size)->IsPair h' TO x y->it1 (k1+1) h'->it2 (k2+1) h'->IsPair h' s.heap.objs.size x y->h'.objs.size=s.heap.objs.size+1 ->
   (∀c o,c≠z->c≠TO->c≠i1->c≠i2->s.heap.get? c=some o->h'.get? c=some o)->Q (.ref s.heap.objs.size) {s with heap:=h'}):
  wpAny (model prog w) A (Builtin.«zip.__next__» ⟨[.ref z],[]⟩) (λf s'=>∃v,f=.done (.ret v)/\Q v s') E s:=by
 refine af (m:=field (.ref z) 2) (wpAny_field hz rfl (x:=.bool false) rfl (af (m:=field (.ref z) 3) (wpAny_field hz rfl (x:=.ref TI) rfl (af (wpAny_seqItems hI rfl ?_)))))
 refine af (m:=Builtin.SmallTypes.ownedTupleIsFree (.ref z)) (af (wpAny_field hz rfl (x:=.none) rfl (ah ?_)))
 simp only[if_true]
 refine af (wpAny_rule (af (wpAny_field hz rfl (x:=.ref TO) rfl (af (j0 hz (by simp) λh1 hz1 s1=>?_)))))
 have hz1:IsZip h1 z TI TO .ellipsis:=hz1
 refine af ?_
 simp only[List.zipIdx_cons,List.zipIdx_nil,List.forIn_cons,List.forIn_nil]
 have e1:∀c o,c≠z->s.heap.get? c=some o->h1.get? c=some o:=λc o hc e=>s1.extBut _ _ hc e
 refine af (af (wpAny_onRaise (af (m:=Builtin.SmallTypes.nextOf (.ref i1)) (S1.item _ _ _ k1 xs x _ (S1.itk _ _ _ j1 λo e=>e1 _ o D.i1z e) (S1.sqk _ _ _ q1 λo e=>e1 _ o D.l1z e) hx λh2 j1' s2=>ah ?_))))
 have e2:∀c o,c≠z->c≠i1->s.heap.get? c=some o->h2.get? c=some o:=λc o c1 c2 e=>s2.extBut _ _ c2 (e1 c o c1 e)
 have hO2:IsPair h2 TO a b:=e2 _ _ D.TOz D.TOi1 hO
 refine af (wpAny_seqItems hO2 rfl (af (wpAny_updateSeq_pair hO2 λh3 hO3 s3=>af (wpAny_letGo (ah ?_)))))
 have hO3:IsPair h3 TO x b:=hO3
 have e3:∀c o,c≠z->c≠i1->c≠TO->s.heap.get? c=some o->h3.get? c=some o:=λc o c1 c2 c3 e=>s3.extBut _ _ c3 (e2 c o c1 c2 e)
 refine af (af (wpAny_onRaise (af (m:=Builtin.SmallTypes.nextOf (.ref i2)) (S2.item _ _ _ k2 ys y _ (S2.itk _ _ _ j2 λo e=>e3 _ o D.i2z D.i12.symm D.TOi2.symm e) (S2.sqk _ _ _ q2 λo e=>e3 _ o D.l2z D.l2i1 D.l2TO e) hy λh4 j2' s4=>ah ?_))))
 have hO4:IsPair h4 TO x b:=s4.extBut _ _ D.TOi2 hO3
 refine af (wpAny_seqItems hO4 rfl (af (wpAny_updateSeq_pair hO4 λh5 hO5 s5=>af (wpAny_letGo (ah (ah ?_))))))
 have hO5:IsPair h5 TO x y:=hO5
 refine af (wpAny_seqItems hO5 rfl (af (wpAny_newTuple ?_)))
 have hs5:h5.objs.size=s.heap.objs.size:=by rw[s5.1,s4.1,s3.1,s2.1,s1.1]
 have hz5:IsZip h5 z TI TO .ellipsis:=s5.extBut _ _ D.TOz.symm (s4.extBut _ _ D.i2z.symm (s3.extBut _ _ D.TOz.symm (s2.extBut _ _ D.i1z.symm hz1)))
 have e5:∀c o,c≠z->c≠TO->c≠i1->c≠i2->s.heap.get? c=some o->h5.get? c=some o:=λc o c1 c2 c3 c4 e=>s5.extBut _ _ c2 (s4.extBut _ _ c4 (e3 c o c1 c3 c2 e))
 have lz:z<h5.objs.size:=bo hz5
 refine af (m:=Builtin.SmallTypes.ownedTupleHandOut (.ref z) (.ref h5.objs.size)) ?_
 unfold Builtin.SmallTypes.ownedTupleHandOut
 have hz6:IsZip (h5.push {cls:=.type "tuple",data:=.seq #[x,y]}) z TI TO .ellipsis:=ay _ hz5
 refine af (j0 hz6 (by simp) λh7 hz7 s7=>?_)
 have hz7:IsZip h7 z TI TO (rawInt h5.objs.size):=hz7
 refine j0 hz7 (by simp) λh8 hz8 s8=>?_
 have hz8:IsZip h8 z TI TO (rawInt h5.objs.size):=hz8
 have e8:∀c o,c≠z->h5.get? c=some o->h8.get? c=some o:=λc o c1 e=>s8.extBut _ _ c1 (s7.extBut _ _ c1 (ay _ e))
 have p8:IsPair h8 h5.objs.size x y:=s8.extBut _ _ (gj lz) (s7.extBut _ _ (gj lz) (b6 _ rfl))
 have n8:h8.objs.size=h5.objs.size+1:=by rw[s8.1,s7.1,fm]
 rw[hs5]at hz8 p8 n8
 refine ah ⟨_,rfl,?_⟩
 show Q (Value.ref h5.objs.size) _
 rw[hs5]
 exact q h8 hz8 (e8 _ _ D.TOz hO5) (S1.itk _ _ _ j1' λo e=>e8 _ o D.i1z (s5.extBut _ _ D.TOi1.symm (s4.extBut _ _ D.i12 (s3.extBut _ _ D.TOi1.symm e)))) (S2.itk _ _ _ j2' λo e=>e8 _ o D.i2z (s5.extBut _ _ D.TOi2.symm e)) p8 n8
  λc o c1 c2 c3 c4 e=>e8 c o c1 (e5 c o c1 c2 c3 c4 e)
def Hm(S1:lA prog w i1 l1 it1 sq1)(S2:lA prog w i2 l2 it2 sq2)(D:ZipApart z TI TO i1 i2 l1 l2)(hh:A.handled=none){k1 k2:Nat}{xs ys:Array Value}{a b:Value}{Q:Fin->Shared->Prop}
  (hz:IsZip s.heap z TI TO .none) (hI:IsPair s.heap TI (.ref i1) (.ref i2)) (hO:IsPair s.heap TO a b) (j1:it1 k1 s.heap) (j2:it2 k2 s.heap) (q1:sq1 s.heap xs) (q2:sq2 s.heap ys)
  (hn:xs[k1]?=none\/ys[k2]?=none)
  (q:∀h' e,(∀c o,c≠z->c≠TO->c≠i1->c≠i2->s.heap.get? c=some o->h'.get? c=some o)->(∃o,h'.get? e=some o/\o.cls=.type "StopIteration")->E (.ref e) {s with heap:=h'}):
  wpAny (model prog w) A (Builtin.«zip.__next__» ⟨[.ref z],[]⟩) Q E s:=by
 refine af (m:=field (.ref z) 2) (wpAny_field hz rfl (x:=.bool false) rfl (af (m:=field (.ref z) 3) (wpAny_field hz rfl (x:=.ref TI) rfl (af (wpAny_seqItems hI rfl ?_)))))
 refine af (m:=Builtin.SmallTypes.ownedTupleIsFree (.ref z)) (af (wpAny_field hz rfl (x:=.none) rfl (ah ?_)))
 simp only[if_true]
 refine af (wpAny_rule (af (wpAny_field hz rfl (x:=.ref TO) rfl (af (j0 hz (by simp) λh1 hz1 s1=>?_)))))
 have hz1:IsZip h1 z TI TO .ellipsis:=hz1
 refine af ?_
 simp only[List.zipIdx_cons,List.zipIdx_nil,List.forIn_cons,List.forIn_nil]
 have e1:∀c o,c≠z->s.heap.get? c=some o->h1.get? c=some o:=λc o hc e=>s1.extBut _ _ hc e
 have ez:∀{h:Heap} {e:Addr} {o:Obj},IsZip h z TI TO .ellipsis->h.get? e=some o->o.cls=.type "StopIteration"->e≠z:=λhz ho hc x=>by
  subst x
  rw[hz]at ho
  cases ho
  simp at hc
 cases hx:xs[k1]? with
 |none=>
  refine af (af (wpAny_onRaise (af (m:=Builtin.SmallTypes.nextOf (.ref i1)) (S1.done _ _ _ k1 xs _ hh (S1.itk _ _ _ j1 λo e=>e1 _ o D.i1z e) (S1.sqk _ _ _ q1 λo e=>e1 _ o D.l1z e) hx λh2 e s2 he=>?_))))
  obtain⟨oe,ho,hc⟩:=he
  have hz2:IsZip h2 z TI TO .ellipsis:=s2 _ _ D.i1z.symm hz1
  exact j0 hz2 (by simp) λh3 _ s3=>q h3 e (λc o c1 _ c3 _ u=>s3.extBut _ _ c1 (s2 _ _ c3 (e1 c o c1 u))) ⟨oe,s3.extBut _ _ (ez hz2 ho hc) ho,hc⟩
 |some x=>
  have hy:ys[k2]?=none:=by
   rcases hn with h|h
   ·rw[hx]at h;cases h
   ·exact h
  refine af (af (wpAny_onRaise (af (m:=Builtin.SmallTypes.nextOf (.ref i1)) (S1.item _ _ _ k1 xs x _ (S1.itk _ _ _ j1 λo e=>e1 _ o D.i1z e) (S1.sqk _ _ _ q1 λo e=>e1 _ o D.l1z e) hx λh2 j1' s2=>ah ?_))))
  have e2:∀c o,c≠z->c≠i1->s.heap.get? c=some o->h2.get? c=some o:=λc o c1 c2 e=>s2.extBut _ _ c2 (e1 c o c1 e)
  have hO2:IsPair h2 TO a b:=e2 _ _ D.TOz D.TOi1 hO
  refine af (wpAny_seqItems hO2 rfl (af (wpAny_updateSeq_pair hO2 λh3 hO3 s3=>af (wpAny_letGo (ah ?_)))))
  have e3:∀c o,c≠z->c≠i1->c≠TO->s.heap.get? c=some o->h3.get? c=some o:=λc o c1 c2 c3 e=>s3.extBut _ _ c3 (e2 c o c1 c2 e)
  refine af (af (wpAny_onRaise (af (m:=Builtin.SmallTypes.nextOf (.ref i2)) (S2.done _ _ _ k2 ys _ hh (S2.itk _ _ _ j2 λo e=>e3 _ o D.i2z D.i12.symm D.TOi2.symm e) (S2.sqk _ _ _ q2 λo e=>e3 _ o D.l2z D.l2i1 D.l2TO e) hy λh4 e s4 he=>?_))))
  obtain⟨oe,ho,hc⟩:=he
  have hz4:IsZip h4 z TI TO .ellipsis:=s4 _ _ D.i2z.symm (s3.extBut _ _ D.TOz.symm (s2.extBut _ _ D.i1z.symm hz1))
  exact j0 hz4 (by simp) λh5 _ s5=>q h5 e (λc o c1 c2 c3 c4 u=>s5.extBut _ _ c1 (s4 _ _ c4 (e3 c o c1 c3 c2 u))) ⟨oe,s5.extBut _ _ (ez hz4 ho hc) ho,hc⟩
end
abbrev wo(hp:Heap)(a b:Addr):Heap:=hp.push {cls:=.type "tuple_iterator",data:=.fields #[.ref a,.int 0 0]}
abbrev wm(hp:Heap)(a b:Addr):Heap:=(wo hp a b).push {cls:=.type "tuple_iterator",data:=.fields #[.ref b,.int 0 0]}
abbrev wj(hp:Heap)(a b:Addr):Heap:=(wm hp a b).push {cls:=.type "tuple",data:=.seq #[.ref hp.objs.size,.ref (wo hp a b).objs.size]}
abbrev wg(hp:Heap)(a b:Addr):Heap:=(wj hp a b).push {cls:=.type "tuple",data:=.seq #[.none,.none]}
abbrev qm(hp:Heap)(a b:Addr):Heap:=(wg hp a b).push {cls:=.type "zip",data:=.fields #[.none,.bool false,.bool false,.ref (wm hp a b).objs.size,.ref (wj hp a b).objs.size]}
def Lg(a b:Addr)(xs ys:Array Value):Meets (Builtin.«zip.__new__» ⟨[.type "zip",.ref a,.ref b],[]⟩) (λ_ R s=>s.heap.IsTuple a xs/\s.heap.IsTuple b ys/\R (.ok (.ret (.ref (wg s.heap a b).objs.size))) {s with heap:=qm s.heap a b}):=
 .of_wp λprog w A R s h=>by
  obtain⟨hp,g,d,tk,os⟩:=s
  obtain⟨ha,hb,h⟩:=h
  have sz:=sub_zip
  have ha:Heap.IsTuple (Shared.heap ⟨hp,g,d,tk,os⟩) a xs:=ha
  have hb:Heap.IsTuple (Shared.heap ⟨hp.push {cls:=.type "tuple_iterator",data:=.fields #[.ref a,.int 0 0]},g,d,tk,os⟩) b ys:=Heap.IsTuple.push hb _
  wp_walk using wpAny_pyIter_tuple ha,wpAny_pyIter_tuple hb
  exact⟨_,rfl,h⟩
theorem Lw{a b:Addr}{xs ys:Array Value}{Q:Value->Shared->Prop}(ha:s.heap.IsTuple a xs)(hb:s.heap.IsTuple b ys)
  (q:∀h',IsZip h' (s.heap.objs.size+4) (s.heap.objs.size+2) (s.heap.objs.size+3) .none->IsPair h' (s.heap.objs.size+2) (.ref s.heap.objs.size) (.ref (s.heap.objs.size+1))->IsPair h' (s.heap.objs.size+3) .none .none ->
   h'.IsTupleIter s.heap.objs.size a 0->h'.IsTupleIter (s.heap.objs.size+1) b 0->h'.objs.size=s.heap.objs.size+5->(∀c o,s.heap.get? c=some o->h'.get? c=some o)->Q (.ref (s.heap.objs.size+4)) {s with heap:=h'}):
  wpAny (model prog w) A (call (.type "zip") [.ref a,.ref b]) Q E s:=by
 refine callType_new F.called_zip (by decide) (F.typeCall_zip_2 _ _) (F.newCall_zip_2 _ _) (λo=>F.args_object_init_3 o _ _) F.entry_zip_new (Lg a b xs ys) ⟨ha,hb,?_⟩
 have n1:(wo s.heap a b).objs.size=s.heap.objs.size+1:=fm ..
 have n2:(wm s.heap a b).objs.size=s.heap.objs.size+2:=by rw[fm,n1]
 have n3:(wj s.heap a b).objs.size=s.heap.objs.size+3:=by rw[fm,n2]
 have n4:(wg s.heap a b).objs.size=s.heap.objs.size+4:=by rw[fm,n3]
 have n5:(qm s.heap a b).objs.size=s.heap.objs.size+5:=by rw[fm,n4]
 have p5:(qm s.heap a b).get? (wg s.heap a b).objs.size=some _:=b6 _ rfl
 have p4:(qm s.heap a b).get? (wj s.heap a b).objs.size=some _:=ay _ (b6 _ rfl)
 have p3:(qm s.heap a b).get? (wm s.heap a b).objs.size=some _:=ay _ (ay _ (b6 _ rfl))
 have p2:(qm s.heap a b).get? (wo s.heap a b).objs.size=some _:=ay _ (ay _ (ay _ (b6 _ rfl)))
 have p1:(qm s.heap a b).get? s.heap.objs.size=some _:=ay _ (ay _ (ay _ (ay _ (b6 _ rfl))))
 show _/\_
 rw[n2,n3,n4]at p5
 rw[n1,n2]at p3
 rw[n3]at p4
 rw[n1]at p2
 rw[n4]
 exact⟨⟨_,p5,rfl⟩,q _ p5 p3 p4 ⟨_,p1,rfl,rfl⟩ ⟨_,p2,rfl,rfl⟩ n5 λc o e=>ay _ (ay _ (ay _ (ay _ (ay _ e))))⟩
end
section
variable{X:Cx}{pins:List (Addr×Obj)}{σ:St}{H:Hp}{s:Shared}{h':Heap}
def ag.turnedL{t':Nat}{ch:List Addr}(I:ag X pins σ H s)(hf:∀b∈ch,fE X pins H b)(k:∀b o,b∉ch->s.heap.get? b=some o->h'.get? b=some o):ag X pins σ H {s with heap:=h',toks:=t'}:=by
 have nit:∀b u,H b=some u->b∉ch:=λb u e z=>by rw[(hf b z).1]at e;cases e
 refine I.step (g':=s.gens) (d':=s.drawn) (ch:=ch) (λb hb=>?_) (λb o _ _ hc e _=>k b o hc e) (λb o _ _ hc e _=>⟨o.slots,k b o hc e⟩) (λ_ _ _ _ n=>n)
  (λb o hc e=>⟨o,k b o hc e⟩) (λ_ _ e=>e) (λ_ _ _ e=>e) (λb ps e=>⟨#[],by rw[e];simp⟩) (λm hm=>?_) (λb u e=>?_) I.bare
 ·obtain⟨_,f1,_,f3,f4,f5⟩:=hf b hb
  exact⟨f3,f1,f4,f5⟩
 ·obtain⟨o,es,ep,ho,r⟩:=hm
  exact⟨o,es,ep,k _ o (λz=>(hf _ z).2.1 rfl) ho,r⟩
 ·refine(I.hok b u e).stay (λc v hc q=>k c v ?_ q) (λ_ q=>q) λ_ _ q=>q
  rcases hc with z|z
  ·rw[z];exact nit b u e
  ·exact nit c _ z
end
def lr(t:Bool)(K:W.Frag)(H:Hp)(a:Addr)(xs:List V):Prop:=match t with
 |false=>b5 K H a xs
 |true=>cu K H a xs
def xt(t:Bool)(K:W.Frag)(a b:Addr):It:=
  ⟨λi H=>∃xs ys x y,lr t K H a xs/\lr t K H b ys/\xs[i]?=some x/\ys[i]?=some y,
   λi H v H'=>∃p x y,v=.ref p/\H p=none/\H'=ar H p (.tup [x,y])/\(∀xs,lr t K H a xs->xs[i]?=some x)/\∀ys,lr t K H b ys->ys[i]?=some y,
   λi H=>∃xs ys,lr t K H a xs/\lr t K H b ys/\(xs.length<=i\/ys.length<=i)⟩
def t6(t:Bool)(i a:Addr)(k:Nat)(h:Heap):Prop:=match t with
 |false=>h.IsListIter i a k
 |true=>h.IsTupleIter i a k
def sqX(t:Bool)(a:Addr)(h:Heap)(vs:Array Value):Prop:=match t with
 |false=>h.IsList a vs
 |true=>h.IsTuple a vs
def fS{prog:Program}{w:World}(t:Bool)(i a:Addr):lA prog w i a (t6 t i a) (sqX t a):=by
 cases t
 ·exact Me i a
 ·exact LG i a
section
variable{X:Cx}{pins:List (Addr×Obj)}{σ:St}{H:Hp}{s:Shared}
def ag.sqX{t:Bool}{a:Addr}{xs:List V}(I:ag X pins σ H s)(h:lr t X.K H a xs):∃vs:List Value,aj xs vs/\L2.sqX t a s.heap vs.toArray/\xs.length<=sizeLine:=by
 cases t
 ·obtain⟨its,r,p,hz⟩:=I.list h
  exact⟨its,r,p.isList,hz⟩
 ·obtain⟨its,r,p,hz⟩:=I.tuple h
  exact⟨its,r,p,hz⟩
def ag.sqX_inj{t:Bool}{a:Addr}{xs ys:List V}(I:ag X pins σ H s)(h:lr t X.K H a xs)(h':lr t X.K H a ys):xs=ys:=by
 cases t
 ·exact I.list_inj h h'
 ·exact I.tuple_inj h h'
end
theorem LK{P:Program}{w:World}{K:W.Frag}{es:List Expr}{ek:Nat}{pos:Pos}(t:Bool)(a b z TI TO i1 i2:Addr)(D:ZipApart z TI TO i1 i2 a b):
  jL P w K (.Tuple es ek pos) (xt t K a b) [z,TI,TO,i1,i2] z (λi h=>IsZip h z TI TO .none/\IsPair h TI (.ref i1) (.ref i2)/\(∃x y,IsPair h TO x y)/\t6 t i1 a i h/\t6 t i2 b i h) where
 mem:=by simp
 obj:=λi h st c hc=>by
  obtain⟨hz,hI,⟨x,y,hO⟩,j1,j2⟩:=st
  simp only[List.mem_cons,List.not_mem_nil,or_false]at hc
  rcases hc with e|e|e|e|e<;>subst e
  ·exact⟨_,hz,λv u=>by cases u⟩
  ·exact⟨_,hI,λv u=>by cases u⟩
  ·exact⟨_,hO,λv u=>by cases u⟩
  ·exact(fS (prog:=P) (w:=w) t _ a).obj _ _ j1
  ·exact(fS (prog:=P) (w:=w) t _ b).obj _ _ j2
 keep:=λi h h' st k=>by
  obtain⟨hz,hI,⟨x,y,hO⟩,j1,j2⟩:=st
  exact⟨k z (by simp) _ hz,k TI (by simp) _ hI,⟨x,y,k TO (by simp) _ hO⟩,(fS (prog:=P) (w:=w) t i1 a).itk _ _ _ j1 λo e=>k i1 (by simp) o e,(fS (prog:=P) (w:=w) t i2 b).itk _ _ _ j2 λo e=>k i2 (by simp) o e⟩
 item:=by
  intro X hP hw hK hc i pins s σ H E I hf st hg
  subst hP hw hK
  obtain⟨xs,ys,x,y,qa,qb,hx,hy⟩:=hg
  obtain⟨hz,hI,⟨x0,y0,hO⟩,j1,j2⟩:=st
  obtain⟨va,ra,pa,za⟩:=I.sqX qa
  obtain⟨vb,rb,pb,zb⟩:=I.sqX qb
  obtain⟨u,hu,ru⟩:=ra.get hx
  obtain⟨v,hv,rv⟩:=rb.get hy
  have hT:s.TypeIs (.ref z) "zip":=⟨_,hz,rfl⟩
  unfold pyNext
  refine af (wpAny_attempt (wpAny_callSpecial?_slot (name:=Str.ofString "__next__") hT F.slot_zip_next (ig F.slot_zip_next hT F.entry_zip_next (KH (fS t i1 a) (fS t i2 b) D hz hI hO j1 j2 pa pb (x:=u) (y:=v) (by simpa using hu) (by simpa using hv)
   λh' a1 a2 a3 a4 a5 a6 a7=>ah ⟨_,rfl,?_⟩) (F.args_zip_next_1 _))))
  refine wpAny_letOwnedTupleGo_zip (s:={s with heap:=h'}) a1 λh2 b1 b2=>?_
  have hn:∀c∈[z,TI,TO,i1,i2],c≠s.heap.objs.size:=λc hc' e=>by
   obtain⟨o,ho,_⟩:∃o,s.heap.get? c=some o/\True:=by
    simp only[List.mem_cons,List.not_mem_nil,or_false]at hc'
    rcases hc' with q|q|q|q|q
    ·exact⟨_,q▸hz,trivial⟩
    ·exact⟨_,q▸hI,trivial⟩
    ·exact⟨_,q▸hO,trivial⟩
    ·obtain⟨o,ho,_⟩:=(fS (prog:=X.prog) (w:=X.w) t i1 a).obj _ _ j1;exact⟨o,q▸ho,trivial⟩
    ·obtain⟨o,ho,_⟩:=(fS (prog:=X.prog) (w:=X.w) t i2 b).obj _ _ j2;exact⟨o,q▸ho,trivial⟩
   exact absurd (bo ho) (by rw[e];exact fg _)
  have I0:ag X pins σ (ar H s.heap.objs.size (.tup [x,y])) {s with heap:=s.heap.push {cls:=.type "tuple",data:=.seq #[u,v]}}:=
   I.laid (t':=s.toks) (λc o e=>ay _ e) (ba _) ⟨by show 2<=sizeLine;decide,[u,v],.cons ru (.cons rv .nil),IsTup.new _ _⟩
  have hf0:∀c∈[z,TI,TO,i1,i2],fE X pins (ar H s.heap.objs.size (.tup [x,y])) c:=λc hc'=>⟨by rw[bL (hn c hc')];exact(hf c hc').1,(hf c hc').2⟩
  have I1:ag X pins σ (ar H s.heap.objs.size (.tup [x,y])) {s with heap:=h2}:=ag.turnedL (s:={s with heap:=s.heap.push {cls:=.type "tuple",data:=.seq #[u,v]}}) (t':=s.toks) (ch:=[z,TI,TO,i1,i2]) I0 hf0 λc o hc' e=>by
   simp only[List.mem_cons,List.not_mem_nil,or_false,not_or]at hc'
   obtain⟨c1,c2,c3,c4,c5⟩:=hc'
   by_cases hcn:c=s.heap.objs.size
   ·subst hcn
    have e':(s.heap.push {cls:=.type "tuple",data:=.seq #[u,v]}).get? s.heap.objs.size=some o:=e
    rw[b6 _ rfl]at e'
    cases e'
    exact b2.extBut _ _ c1 a5
   ·refine b2.extBut _ _ c1 (a7 c o c1 c3 c4 c5 ?_)
    have e':(s.heap.push {cls:=.type "tuple",data:=.seq #[u,v]}).get? c=some o:=e
    rw[Heap.get?_push_ne _ _ _ hcn]at e'
    exact e'
  refine⟨.ref s.heap.objs.size,_,I1,rfl,⟨_,x,y,rfl,I.hok.fresh (ba _),rfl,λxs' h=>by rw[I.sqX_inj h qa];exact hx,λys' h=>by rw[I.sqX_inj h qb];exact hy⟩,⟨b1,?_,⟨u,v,b2.extBut _ _ D.TOz a2⟩,?_,?_⟩,λc hc'=>(hf0 c hc').1⟩
  ·exact b2.extBut _ _ D.TIz (a7 _ _ D.TIz D.TITO D.TIi1 D.TIi2 hI)
  ·exact(fS (prog:=X.prog) (w:=X.w) t i1 a).itk _ _ _ a3 λo e=>b2.extBut _ _ D.i1z e
  ·exact(fS (prog:=X.prog) (w:=X.w) t i2 b).itk _ _ _ a4 λo e=>b2.extBut _ _ D.i2z e
 done:=by
  intro X hP hw hK hc i pins s σ H E I hf st hg
  subst hP hw hK
  obtain⟨xs,ys,qa,qb,hl⟩:=hg
  obtain⟨hz,hI,⟨x0,y0,hO⟩,j1,j2⟩:=st
  obtain⟨va,ra,pa,za⟩:=I.sqX qa
  obtain⟨vb,rb,pb,zb⟩:=I.sqX qb
  have la:=ra.length
  have lb:=rb.length
  have hT:s.TypeIs (.ref z) "zip":=⟨_,hz,rfl⟩
  unfold pyNext
  refine af (wpAny_attempt (wpAny_callSpecial?_slot (name:=Str.ofString "__next__") hT F.slot_zip_next (ig F.slot_zip_next hT F.entry_zip_next (Hm (fS t i1 a) (fS t i2 b) D (show X.A.in1.handled=none from I.ok.hd hc) hz hI hO j1 j2 pa pb
   (hl.elim (λh=>.inl (by simp;omega)) λh=>.inr (by simp;omega)) λh' e k he=>?_) (F.args_zip_next_1 _))))
  obtain⟨o,ho,hce⟩:=he
  refine af (wpAny_isInstance (T:="StopIteration") (b:=true) ⟨o,ho,hce⟩ isSubtype_stop (ah ⟨rfl,I.turnedL (t':=s.toks) hf λc o hc' e=>?_⟩))
  simp only[List.mem_cons,List.not_mem_nil,or_false,not_or]at hc'
  exact k c o hc'.1 hc'.2.2.1 hc'.2.2.2.1 hc'.2.2.2.2 e
 self:=λ_ _ _ _ _ st h=>wpAny_pyIter_zip st.1 h
def Hl{n a b:Nat}(ha:a<n)(hb:b<n):ZipApart (n+4) (n+2) (n+3) n (n+1) a b:=by
 constructor<;>(intro (e:(_:Nat)=_);omega)
def Ln:bootBuiltins "zip"=some (.type "zip"):=by decide +kernel
section
variable{X:Cx}
def Et(K:W.Frag)(ta:TA):TI:=λσ H R=>ta σ H λvs H1=>∃(t:Bool) (a b:Addr),vs=[.ref a,.ref b]/\(∃xs,lr t K H1 a xs)/\(∃ys,lr t K H1 b ys)/\R (xt t K a b) H1
def Gq{a b:Expr}{ta:TA}{es:List Expr}{ek:Nat}{p pos pos':Pos}(hg:Gl X "zip")(hm:X.mg "zip"=none)(ha:PA X [a,b] ta)(hs:starEach [a,b] X.env=[(false,eval a X.env),(false,eval b X.env)]:=by rfl)(hs2:starEach [b] X.env=[(false,eval b X.env)]:=by rfl):
  PI X (.Tuple es ek pos') (.Call (.Name "zip" p) [a,b] [] pos) (Et X.K ta):=by
 intro pins s σ H R I h
 refine Call_ (oO I hg hm Ln (PyProof.Rows.callWith_type1 (bf (ha pos pins s σ H _ I h) λus s1 ⟨vs,H1,I1,r1,q1⟩=>?_) (by rw[hs,hs2]) (by rw[hs2];rfl)))
 obtain⟨t,a,b,e,⟨xs,hx⟩,⟨ys,hy⟩,q⟩:=q1
 subst e
 obtain⟨u,w',rfl,rx,ry⟩:=jB r1
 cases rx
 cases ry
 obtain⟨va,ra,pa,za⟩:=I1.sqX hx
 obtain⟨vb,rb,pb,zb⟩:=I1.sqX hy
 have la:a<s1.heap.objs.size:=by
  cases t
  ·obtain⟨o,e,_⟩:=pa;exact bo e
  ·obtain⟨o,e,_⟩:=pa;exact bo e
 have lb:b<s1.heap.objs.size:=by
  cases t
  ·obtain⟨o,e,_⟩:=pb;exact bo e
  ·obtain⟨o,e,_⟩:=pb;exact bo e
 have fin:∀h':Heap,IsZip h' (s1.heap.objs.size+4) (s1.heap.objs.size+2) (s1.heap.objs.size+3) .none->IsPair h' (s1.heap.objs.size+2) (.ref s1.heap.objs.size) (.ref (s1.heap.objs.size+1))->IsPair h' (s1.heap.objs.size+3) .none .none ->
   t6 t s1.heap.objs.size a 0 h'->t6 t (s1.heap.objs.size+1) b 0 h'->h'.objs.size=s1.heap.objs.size+5->(∀c o,s1.heap.get? c=some o->h'.get? c=some o) ->
   wpAny (model X.prog X.w) X.A (pyIter (.ref (s1.heap.objs.size+4))) (w_ X pins σ (.Tuple es ek pos') R) X.xe {s1 with heap:=h'}:=by
  intro h' hz hI hO j1 j2 _ k
  refine wpAny_pyIter_zip hz ?_
  refine⟨_,[s1.heap.objs.size+4,s1.heap.objs.size+2,s1.heap.objs.size+3,s1.heap.objs.size,s1.heap.objs.size+1],_,_,H1,rfl,I1.kept (t':=s1.toks) k,LK t a b _ _ _ _ _ ?_,⟨hz,hI,⟨_,_,hO⟩,j1,j2⟩,λc hc=>?_,q⟩
  ·exact Hl la lb
  ·have:s1.heap.objs.size<=c:=by
    simp only[List.mem_cons,List.not_mem_nil,or_false]at hc
    rcases hc with e|e|e|e|e<;>(rw[e];first|exact ba _|exact Nat.le_add_right _ _)
   exact I1.fpOk this (I1.hok.fresh this)
 cases t
 ·exact call_zip_2 pa pb fin
 ·exact Lw pa pb fin
end
section
variable{X:Cx}
theorem Lr(hc:X.calm=true):aq X (.builtin "min") (λxs H Q=>∃(p:Addr) (ns:List Int),xs=[.ref p]/\b5 X.K H p (ns.map V.int)/\0<ns.length/\∀M,M∈ns->(∀a∈ns,M<=a)->Q (.int M) H):=by
 intro pins s σ H xs us Q I r h
 obtain⟨p,ns,rfl,hq,hn,q⟩:=h
 obtain⟨u,rfl,rx⟩:=cR r
 cases rx
 obtain⟨its,rv,pl,hz⟩:=I.list hq
 have hi:IntsAre its ns:=qD rv
 obtain⟨zs,ez⟩:=hi.allInts.items
 have en:ns=zs.toList.map (·.1):=by rw[<-hi.numsOf,<-nums_intItems,<-ez]
 have hz0:0<zs.size:=by rw[en,ao,d9]at hn;exact hn
 have hl:=pl.isList
 rw[ez]at hl
 refine min_intList (I.ok.hd hc) hl hz0 λv h' tk hv hk=>?_
 obtain⟨t,rfl⟩:=intItems_at hv
 obtain⟨h1,h2⟩:=argBest_lt (numAt zs) (zs.size-1)
 refine⟨.int _,H,I.kept hk,⟨t,rfl⟩,q _ ?_ λa ha=>?_⟩
 ·rw[en,numAt_eq]
  exact getD_mem (by rw[ao,d9];omega)
 ·rw[en]at ha
  obtain⟨j,hj,rfl⟩:=mem_getD ha
  rw[ao,d9]at hj
  have:=h2 j (by omega)
  rw[numAt_eq zs j]at this
  exact this
theorem Lp(hc:X.calm=true):aq X (.builtin "max") (λxs H Q=>∃(p:Addr) (ns:List Int),xs=[.ref p]/\b5 X.K H p (ns.map V.int)/\0<ns.length/\∀M,M∈ns->(∀a∈ns,a<=M)->Q (.int M) H):=by
 intro pins s σ H xs us Q I r h
 obtain⟨p,ns,rfl,hq,hn,q⟩:=h
 obtain⟨u,rfl,rx⟩:=cR r
 cases rx
 obtain⟨its,rv,pl,hz⟩:=I.list hq
 have hi:IntsAre its ns:=qD rv
 obtain⟨zs,ez⟩:=hi.allInts.items
 have en:ns=zs.toList.map (·.1):=by rw[<-hi.numsOf,<-nums_intItems,<-ez]
 have hz0:0<zs.size:=by rw[en,ao,d9]at hn;exact hn
 have hl:=pl.isList
 rw[ez]at hl
 refine max_intList (I.ok.hd hc) hl hz0 λv h' tk hv hk=>?_
 obtain⟨t,rfl⟩:=intItems_at hv
 obtain⟨h1,h2⟩:=argBest_gt (numAt zs) (zs.size-1)
 refine⟨.int _,H,I.kept hk,⟨t,rfl⟩,q _ ?_ λa ha=>?_⟩
 ·rw[en,numAt_eq]
  exact getD_mem (by rw[ao,d9];omega)
 ·rw[en]at ha
  obtain⟨j,hj,rfl⟩:=mem_getD ha
  rw[ao,d9]at hj
  have:=h2 j (by omega)
  rw[numAt_eq zs j]at this
  exact this
end
theorem M4{us:List Value}{ns:List Int}(h:IntsAre us ns):aj (ns.map V.int) us:=by
 induction h with
 |nil=>exact .nil
 |cons n t _ ih=>exact .cons ⟨t,rfl⟩ ih
section
variable{X:Cx}
theorem call_sortedI:aq X (.builtin "sorted") (λxs H Q=>∃(p:Addr) (ns:List Int),xs=[.ref p]/\b5 X.K H p (ns.map V.int)/\ns.length<64 /\
  ∀(ns':List Int) (l:Addr),ns'.Perm ns->ns'.Pairwise (·<=·)->H l=none->Q (.ref l) (ar H l (.lst (ns'.map V.int)))):=by
 intro pins s σ H xs us Q I r h
 obtain⟨p,ns,rfl,hq,h64,q⟩:=h
 obtain⟨u,rfl,rx⟩:=cR r
 cases rx
 obtain⟨its,rv,pl,hz⟩:=I.list hq
 have hi:IntsAre its ns:=qD rv
 have hll:=rv.length
 rw[ao]at hll
 refine sorted_ints pl.isList hi (by omega) λout ns' a1 a2 a3=>?_
 obtain⟨e,he⟩:=sortedAll_at s.heap its out
 have hlen:=a2.length_eq
 refine⟨.ref (s.heap.objs.size+1),_,I.laid (t':=s.toks) (λb o e=>sortedAll_old e) (gf _) (show aw X.prog X.w _ _ _ (.lst (ns'.map V.int)) from ⟨?_,out.toList,e,M4 a1,he⟩),rfl,q ns' _ a2 a3 (I.hok.fresh (gf _))⟩
 rw[ao,hlen]
 exact j9 (gc h64 (by decide))
end
def uf(x:Str):It:=⟨λi _=>i<x.cps.size,λi H v H'=>H'=H/\∃c,x.cps[i]?=some c/\v=.str ⟨#[c]⟩,λi _=>x.cps.size<=i⟩
def Mi{P:Program}{w:World}{K:W.Frag}{tg:Expr}(it:Addr)(x:Str)(t:Tok):jL P w K tg (uf x) [it] it (λi h=>h.IsStrIter it "str_ascii_iterator" x t i) where
 mem:=by simp
 obj:=λi h st b hb=>by
  have e:b=it:=by simpa using hb
  subst e
  obtain⟨o,e,c,d⟩:=st
  exact⟨o,e,λv z=>by rw[d]at z;cases z⟩
 keep:=λi h h' st k=>let ⟨o,ho,r⟩:=st;⟨o,k it (by simp) o ho,r⟩
 item:=by
  intro X hP hw hK hc i pins s σ H E I hf st hg
  subst hP hw hK
  obtain⟨f0,f1,f2,f3,f4,f5⟩:=hf it (by simp)
  have W:=Walks.strAscii (prog:=X.prog) (w:=X.w) (I.ok.hd hc) it x t
  refine W.item i s _ _ hg st λv h' tk hv st' kk=>?_
  obtain⟨c,u,hc',rfl⟩:=hv
  have I1:ag X pins σ H {s with heap:=h',toks:=tk}:=I.turned (λb o hb e=>kk b o (by simpa using hb) e) f0 f1 f3 f4 f5
  obtain⟨o,e,c1,d⟩:=id st'
  exact⟨_,rfl,mO (s:={s with heap:=h',toks:=tk}) e c1 d (by decide) ⟨.str ⟨#[c]⟩,H,I1,⟨u,rfl⟩,⟨rfl,c,hc',rfl⟩,st',λb hb=>(hf b hb).1⟩⟩
 done:=by
  intro X hP hw hK hc i pins s σ H E I hf st hg
  subst hP hw hK
  obtain⟨f0,f1,f2,f3,f4,f5⟩:=hf it (by simp)
  exact wpAny_pyNext_ascii_end (I.ok.hd hc) st (by have:x.cps.size<=i:=hg;simp;omega) λh' eb=>⟨rfl,I.turned (t':=s.toks) (λb o hb e=>eb b o hb e) f0 f1 f3 f4 f5⟩
 self:=λ_ _ _ _ _ st h=>wpAny_pyIter_striter_ascii st h
def Mj{P:Program}{w:World}{K:W.Frag}{tg:Expr}(it:Addr)(x:Str)(t:Tok):jL P w K tg (uf x) [it] it (λi h=>h.IsStrIter it "str_iterator" x t i) where
 mem:=by simp
 obj:=λi h st b hb=>by
  have e:b=it:=by simpa using hb
  subst e
  obtain⟨o,e,c,d⟩:=st
  exact⟨o,e,λv z=>by rw[d]at z;cases z⟩
 keep:=λi h h' st k=>let ⟨o,ho,r⟩:=st;⟨o,k it (by simp) o ho,r⟩
 item:=by
  intro X hP hw hK hc i pins s σ H E I hf st hg
  subst hP hw hK
  obtain⟨f0,f1,f2,f3,f4,f5⟩:=hf it (by simp)
  have W:=Walks.strWide (prog:=X.prog) (w:=X.w) (I.ok.hd hc) it x t
  refine W.item i s _ _ hg st λv h' tk hv st' kk=>?_
  obtain⟨c,u,hc',rfl⟩:=hv
  have I1:ag X pins σ H {s with heap:=h',toks:=tk}:=I.turned (λb o hb e=>kk b o (by simpa using hb) e) f0 f1 f3 f4 f5
  obtain⟨o,e,c1,d⟩:=id st'
  exact⟨_,rfl,mO (s:={s with heap:=h',toks:=tk}) e c1 d (by decide) ⟨.str ⟨#[c]⟩,H,I1,⟨u,rfl⟩,⟨rfl,c,hc',rfl⟩,st',λb hb=>(hf b hb).1⟩⟩
 done:=by
  intro X hP hw hK hc i pins s σ H E I hf st hg
  subst hP hw hK
  obtain⟨f0,f1,f2,f3,f4,f5⟩:=hf it (by simp)
  exact wpAny_pyNext_wide_end (I.ok.hd hc) st (by have:x.cps.size<=i:=hg;simp;omega) λh' eb=>⟨rfl,I.turned (t':=s.toks) (λb o hb e=>eb b o hb e) f0 f1 f3 f4 f5⟩
 self:=λ_ _ _ _ _ st h=>wpAny_pyIter_striter_wide st h
section
variable{X:Cx}
def IB:V->List V->Hp->VK->Prop:=λx vs H Q=>∃i j,x=.str i/\vs=[.str j]/\Q (.bl (decide (0+j.length<=i.length)&&Builtin.Str.subAt i j 0)) H
theorem MU:ql X "str.startswith" IB:=by
 intro pins s σ H x vs v us Q I rx rv h
 obtain⟨i,j,rfl,rfl,q⟩:=h
 obtain⟨t,rfl⟩:=rx
 obtain⟨u,rfl,t',rfl⟩:=rv.one
 exact call_gives F.slot_str_startswith (typeIs_str _ _ _) F.entry_str_startswith (F.args_str_startswith_2 _ _) (gives_str_startswith i j t t') ⟨.bl _,H,I,rfl,q⟩
def EY:V->List V->Hp->VK->Prop:=λx vs H Q=>∃i j,x=.str i/\vs=[.str j]/\∀n:Int,Q (.int n) H
theorem I_:ql X "str.find" EY:=by
 intro pins s σ H x vs v us Q I rx rv h
 obtain⟨i,j,rfl,rfl,q⟩:=h
 obtain⟨t,rfl⟩:=rx
 obtain⟨u,rfl,t',rfl⟩:=rv.one
 exact call_gives F.slot_str_find (typeIs_str _ _ _) F.entry_str_find (F.args_str_find_2 _ _) (gives_str_find i j t t') ⟨.int _,H,I.tok _,⟨_,rfl⟩,q _⟩
end
def KD(prm:Params):List DictEntry->List (Str×Str)->Prop
 |[],[]=>True
 |e::es,kv::kvs=>e.hash=PyData.keyHash prm kv.1/\(∃t,e.key=.str kv.1 t)/\(∃t,e.val=.str kv.2 t)/\KD prm es kvs
 |_,_=>False
structure yl (K:W.Frag) (prm:Params) (d:Addr) (kvs:List (Str×Str)):Prop where
 obj:∃(es:Array DictEntry) (ep:Nat),K.lookup d=some ⟨.type "dict",none,.dict es ep,#[]⟩/\KD prm es.toList kvs
 nd:(kvs.map (·.1)).Nodup
def getS(kvs:List (Str×Str))(x:Str):Option Str:=(kvs.find? λkv=>kv.1=x).map (·.2)
def KD.keys{P:Program}{w:World}:∀{es:List DictEntry}{kvs:List (Str×Str)},KD w.params es kvs->∀e∈es,∃k,(bO P w).is k e.key=true/\e.hash=(bO P w).hash k
 |[],[],_,e,he=>nomatch he
 |a::es,kv::kvs,⟨h1,⟨t,h2⟩,_,h4⟩,e,he=>by
  rcases qx_.mp he with z|z
  ·subst z
   exact⟨.inr kv.1,by rw[h2];exact pW P w kv.1 t,by rw[h1];rfl⟩
  ·exact KD.keys h4 e z
def KD.pairs{P:Program}{w:World}:∀{es:List DictEntry}{kvs:List (Str×Str)},KD w.params es kvs->∃vs:List (av×Value),Pairs (bO P w) es vs/\vs.map (·.1)=kvs.map (λkv=>Sum.inr kv.1) /\
  ∀x y,getS kvs x=some y->∃t,valueAt vs (.inr x)=some (.str y t)
 |[],[],_=>⟨[],.nil,rfl,λx y h=>nomatch h⟩
 |a::es,kv::kvs,⟨h1,⟨t,h2⟩,⟨t',h3⟩,h4⟩=>by
  obtain⟨vs,p,m,g⟩:=KD.pairs (P:=P) h4
  refine⟨(.inr kv.1,.str kv.2 t')::vs,.cons (by rw[h2];exact pW P w kv.1 t) h3 p,by simp[m],λx y h=>?_⟩
  by_cases e:kv.1=x
  ·subst e
   have:kv.2=y:=by simpa[getS]using h
   subst this
   exact⟨t',by simp[valueAt]⟩
  ·have h':getS kvs x=some y:=by simpa[getS,e]using h
   obtain⟨t'',h''⟩:=g x y h'
   exact⟨t'',by
    have:(Sum.inr kv.1:av)≠.inr x:=λz=>e (Sum.inr.inj z)
    simpa[valueAt,this]using h''⟩
section
variable{X:Cx}
def Nw(d:Addr)(kvs:List (Str×Str)):R2:=λx y H Q=>∃i j,x=.ref d/\y=.str i/\getS kvs i=some j/\Q (.str j) H
def Fv{d:Addr}{kvs:List (Str×Str)}(D:yl X.K X.w.params d kvs):md X (Nw d kvs):=by
 intro value slice pins s σ H x y v u Q I rx ry h hs
 obtain⟨i,j,rfl,rfl,hg,q⟩:=h
 cases rx
 obtain⟨t,rfl⟩:=ry
 obtain⟨es,ep,lk,kd⟩:=D.obj
 obtain⟨vs,hp,hm,hv⟩:=KD.pairs (P:=X.prog) kd
 obtain⟨t',hv⟩:=hv i j hg
 have ho:=I.kIn d _ lk
 have hnd:(vs.map (·.1)).Nodup:=by
  rw[hm,show kvs.map (λkv=>(Sum.inr kv.1:av))=(kvs.map (·.1)).map Sum.inr by simp]
  unfold List.Nodup
  rw[mh]
  exact D.nd.imp λh z=>h (Sum.inr.inj z)
 have dd:s.heap.DictOf (bO X.prog X.w) d vs:=⟨_,es,ep,ho,⟨rfl,rfl,rfl⟩,rfl,λe he=>KD.keys kd e (by simpa using he),hp,hnd⟩
 exact tail_any ⟨_,ho,rfl⟩ slot_dict_getitem.lookup (wpAny_getItem_of (pW _ _ i t) dd.mapOf hv ⟨.str j,H,I.tok _,⟨t',rfl⟩,q⟩) hs
end
section
variable{X:Cx}
def DX:V->Option Int->Option Int->Hp->VK->Prop:=λx lo hi H Q=>∃z,x=.str z/\z.length<=sizeLine/\Q (.str (Txt.slice z lo hi)) H
theorem HL:n6 X DX:=by
 intro pins s σ H x v vl vu lo hi sl Q I rx hs pl pu h
 obtain⟨z,rfl,hz,q⟩:=h
 obtain⟨t,rfl⟩:=rx
 obtain⟨o,ho,hc,hd⟩:=hs
 refine⟨"str",_,F.slot_str_getitem.lookup,typeIs_str _ _ _,?_⟩
 have fin:∀t' k,EP X pins σ Q (.str (Txt.slice z lo hi) t') {s with toks:=k}:=λt' k=>⟨.str _,H,I.tok k,⟨t',rfl⟩,q⟩
 cases pl with
 |none=>cases pu with
  |none=>exact wpAny_getItem_str_slice (l:=none) (u:=none) (st:=none) ⟨o,ho,hc,hd⟩ rfl (post_val_or_str ⟨bx (Txt.slice_le z _ _) hz,fin⟩)
  |int j uj=>exact wpAny_getItem_str_slice (l:=none) (u:=some (j,uj)) (st:=none) ⟨o,ho,hc,hd⟩ rfl (post_val_or_str ⟨bx (Txt.slice_le z _ _) hz,fin⟩)
 |int i ui=>cases pu with
  |none=>exact wpAny_getItem_str_slice (l:=some (i,ui)) (u:=none) (st:=none) ⟨o,ho,hc,hd⟩ rfl (post_val_or_str ⟨bx (Txt.slice_le z _ _) hz,fin⟩)
  |int j uj=>exact wpAny_getItem_str_slice (l:=some (i,ui)) (u:=some (j,uj)) (st:=none) ⟨o,ho,hc,hd⟩ rfl (post_val_or_str ⟨bx (Txt.slice_le z _ _) hz,fin⟩)
theorem jN{ss:List Str}:∀{us:List Value},aj (ss.map V.str) us->StrsAre us ss:=by
 induction ss with
 |nil=>intro us r;rw[my]at r;cases r;exact .nil
 |cons n ns ih=>
  intro us r
  rw[e9]at r
  cases r with
  |cons r1 r2=>
   obtain⟨t,e⟩:=r1
   subst e
   exact .cons n t (ih r2)
theorem pS{us:List Value}{ss:List Str}(h:StrsAre us ss):aj (ss.map V.str) us:=by
 induction h with
 |nil=>exact .nil
 |cons n t _ ih=>exact .cons ⟨t,rfl⟩ ih
theorem call_sortedS:aq X (.builtin "sorted") (λxs H Q=>∃(p:Addr) (ss:List Str),xs=[.ref p]/\b5 X.K H p (ss.map V.str)/\ss.length<64 /\
  ∀(ss':List Str) (l:Addr),ss'.Perm ss->sortedS ss'=true->H l=none->Q (.ref l) (ar H l (.lst (ss'.map V.str)))):=by
 intro pins s σ H xs us Q I r h
 obtain⟨p,ns,rfl,hq,h64,q⟩:=h
 obtain⟨u,rfl,rx⟩:=cR r
 cases rx
 obtain⟨its,rv,pl,hz⟩:=I.list hq
 have hi:StrsAre its ns:=jN rv
 have hll:=rv.length
 rw[ao]at hll
 refine sorted_strs pl.isList hi (by omega) λout ns' a1 a2 a3=>?_
 obtain⟨e,he⟩:=sortedAll_at s.heap its out
 have hlen:=a2.length_eq
 refine⟨.ref (s.heap.objs.size+1),_,I.laid (t':=s.toks) (λb o e=>sortedAll_old e) (gf _) (show aw X.prog X.w _ _ _ (.lst (ns'.map V.str)) from ⟨?_,out.toList,e,pS a1,he⟩),rfl,q ns' _ a2 a3 (I.hok.fresh (gf _))⟩
 rw[ao,hlen]
 exact j9 (gc h64 (by decide))
def cC(ss:List Str):List Nat:=(ss.map λs=>s.cps.toList).flatten
def BA:∀{us:List Value}{ss:List Str},StrsAre us ss->∃l:List (Str×Tok),us=strValues l/\l.map (·.1)=ss
 |_,_,.nil=>⟨[],rfl,rfl⟩
 |_,_,.cons y t h=>by
  obtain⟨l,e1,e2⟩:=BA h
  exact⟨(y,t)::l,by rw[e1];rfl,by simp[e2]⟩
def vN:∀ss:List Str,(Str.join ⟨#[]⟩ ss).cps.toList=cC ss
 |[]=>rfl
 |[x]=>by simp[Str.join,cC]
 |x::y::r=>by
  have ih:=vN (y::r)
  show((x++(⟨#[]⟩:Str)++Str.join ⟨#[]⟩ (y::r)):Str).cps.toList=_
  have e:∀a b:Str,(a++b).cps.toList=a.cps.toList++b.cps.toList:=λa b=>by
   show(a.cps++b.cps).toList=_
   simp
  rw[e,e,ih]
  simp[cC]
def By:∀(ss:List Str) (n:Nat),ss.foldl (λa s=>a+s.length+0) n=n+(cC ss).length
 |[],n=>by simp[cC]
 |s::r,n=>by
  rw[ia,By r]
  simp[cC,Str.length]
  omega
def EZ(K:W.Frag):V->List V->Hp->VK->Prop:=λx vs H Q=>∃p ss,x=.str ⟨#[]⟩/\vs=[.ref p]/\b5 K H p (ss.map V.str)/\(cC ss).length<=100000/\∀z:Str,z.cps.toList=cC ss->Q (.str z) H
theorem Ja:ql X "str.join" (EZ X.K):=by
 intro pins s σ H x vs v us Q I rx rv h
 obtain⟨p,ss,rfl,rfl,hq,hz,q⟩:=h
 obtain⟨t,rfl⟩:=rx
 obtain⟨u,rfl,ru⟩:=rv.one
 cases ru
 obtain⟨its,rv,pl,hz'⟩:=I.list hq
 obtain⟨l,e1,e2⟩:=BA (jN rv)
 have hl:=pl.isList
 rw[e1]at hl
 have hlen:((l.map (·.1)).toArray.foldl (λa s=>a+s.length+(⟨#[]⟩:Str).length) 0)=(cC ss).length:=by
  rw[e2,List.foldl_toArray]
  show ss.foldl (λa s=>a+s.length+0) 0=_
  rw[By]
  omega
 refine call_meets F.slot_str_join (typeIs_str _ _ _) F.entry_str_join (F.args_str_join_2 _ _) (meets_str_join_list ⟨#[]⟩ t p l (by
  rw[hlen]
  show decide (_ > sizeLine)=false
  exact g4 (qj2_.mpr (bx hz (by decide))))) ⟨hl,?_⟩
 have hj:∀z:Str,z=Str.join ⟨#[]⟩ ss->∀t' k,EP X pins σ Q (.str z t') {s with toks:=k}:=λz e t' k=>⟨.str z,H,I.tok k,⟨t',rfl⟩,q z (by rw[e,vN])⟩
 have hlz:(Str.join ⟨#[]⟩ ss).length<=sizeLine:=by
  show(Str.join ⟨#[]⟩ ss).cps.size<=_
  rw[<-d9,vN]
  exact bx hz (by decide)
 match l,e2 with
 |[],e2=>exact⟨by rw[StrLaws.glued_eq_join];exact d6 _,hj _ (by rw[<-e2];rw[StrLaws.glued_eq_join]) _ _⟩
 |[pp],e2=>exact hj _ (by rw[<-e2];rfl) _ s.toks
 |a::b::r,e2=>exact⟨by rw[StrLaws.glued_eq_join,e2];exact hlz,hj _ (by rw[StrLaws.glued_eq_join,e2]) _ _⟩
end
end L2
namespace L2
open PySem
def uG{α:Type}:∀(l:List α) (i:Nat) (h:i<l.length),(l[i]::l.eraseIdx i).Perm l
 |[],i,h=>by simp at h
 |x::l,0,h=>by simp
 |x::l,i+1,h=>by
  have h':i<l.length:=by simpa using h
  simp only[List.getElem_cons_succ,List.eraseIdx_cons_succ]
  exact(List.Perm.swap _ _ _).trans (.cons _ (uG l i h'))
section
variable{M:Model}{A:Around}{E:Value->Shared->Prop}{s:Shared}
def Mn{src:Source}{n:Nat}{Q:Nat->Shared->Prop}(hn:n≠0)(h:∀i d,i<n->Q i {s with drawn:=d}):wpAny M A (choose src n) Q E s:=λΓ p _=>by
 unfold choose
 rw[Sem.wp_choose]
 exact⟨hn,h _ _ (pd _ (Nat.pos_of_ne_zero hn))⟩
def tW{α:Type}:∀(n:Nat) (xs:List α) (s:Shared) {Q:List α->Shared->Prop},xs.length=n->(∀ys d,ys.Perm xs->Q ys {s with drawn:=d})->wpAny M A (drawOrder n xs) Q E s
 |0,xs,s,Q,hl,h=>by
  have e:xs=[]:=jk hl
  subst e
  exact ah (h [] s.drawn (.refl _))
 |n+1,[],s,Q,hl,h=>by simp at hl
 |n+1,x::xs,s,Q,hl,h=>by
  show wpAny M A (do
   let i <- choose .order (x::xs).length
   match (x::xs)[i]? with
   |some x'=>return x'::(<- drawOrder n ((x::xs).eraseIdx i))
   |none=>unsupported "internal:drawOrder") Q E s
  refine af (Mn (by simp) λi d hi=>?_)
  rw[b_ hi]
  refine af (tW n _ _ (by rw[tw hi];simp at hl ⊢;exact hl) λys d' hp=>?_)
  refine ah (h _ d' ((List.Perm.cons _ hp).trans ?_))
  exact uG (x::xs) i hi
end
def BX{α:Type}(next:Nat->Nat):∀(fuel k:Nat) (left:List α) (out:Array α),fuel=left.length->(pickOrder.go next fuel k left out).toList.Perm (out.toList++left)
 |0,k,left,out,h=>by
  have e:left=[]:=jk h.symm
  subst e
  unfold pickOrder.go
  simp
 |fuel+1,k,left,out,h=>by
  unfold pickOrder.go
  have hlt:next k % left.length<left.length:=pd _ (by omega)
  rw[b_ hlt]
  refine(BX next fuel (k+1) _ _ (by rw[tw hlt];omega)).trans ?_
  rw[Array.toList_push,jo]
  exact List.Perm.append_left _ (uG _ _ hlt)
def jQ{α:Type}(next:Nat->Nat)(xs:Array α):(pickOrder next xs).toList.Perm xs.toList:=by
 unfold pickOrder
 have:=BX next xs.size 0 xs.toList #[] (by simp)
 simpa using this
end L2
namespace L2
open PySem PySem.Spec PyProof.Rows
abbrev bp(w:World):Bool:=w.params.followText "set-order"
structure cn (prog:Program) (w:World) (us:List Str) (es:Array (Int×Value)) (t:SetTable):Prop where
 el:ElemsOf (PySem.strKind prog w) es.toList
 tx:∃vs:List Str,StrsAre (es.toList.map (·.2)) vs/\vs.Perm us
 nd:us.Nodup
 lt:es.size<scanBound
 fit:t.fits es.size=true
 pl:es.size=0\/t.plain=false
 ld:t.led=!bp w
abbrev bK(es:Array (Int×Value))(ep:Nat)(t:SetTable):Obj:={cls:=.type "set",dict:=none,data:=.set es ep t,slots:=#[]}
def az(prog:Program)(w:World)(a:Addr)(us:List Str)(h:Heap):Prop:=∃es ep t,h.get? a=some (bK es ep t)/\cn prog w us es t
def cU(us:List Str)(x:Str):List Str:=if x∈us then us else us++[x]
def gU:∀{vs:List Value}{ss:List Str},StrsAre vs ss->vs.length=ss.length
 |_,_,.nil=>rfl
 |_,_,.cons _ _ h=>by simp[gU h]
def CZ:∀{vs:List Value}{ss:List Str},StrsAre vs ss->∀x,x∈ss↔∃v∈vs,Value.isStrOf x v=true
 |_,_,.nil,x=>by simp
 |_,_,.cons y t h,x=>by
  have ih:=CZ h x
  have e:Value.isStrOf x (.str y t)=true↔x=y:=⟨λh=>by
   obtain⟨u,h⟩:=Value.isStrOf_shape h
   injection h with h1 h2
   exact h1.symm,λh=>by subst h;simp[Value.isStrOf]⟩
  simp only[List.mem_cons,exists_eq_or_imp,ih,e]
def lN:∀{vs us:List Value},us.Perm vs->∀{ss:List Str},StrsAre vs ss->∃ss',StrsAre us ss'/\ss'.Perm ss:=by
 intro vs us p
 induction p with
 |nil=>intro ss h;exact⟨ss,h,.refl _⟩
 |cons x p ih=>
  intro ss h
  cases h with
  |cons y t h=>obtain⟨ss',a,b⟩:=ih h;exact⟨y::ss',.cons y t a,.cons _ b⟩
 |swap x y l=>
  intro ss h
  cases h with
  |cons a t h=>cases h with
   |cons b u h=>exact⟨b::a::_,.cons b u (.cons a t h),.swap _ _ _⟩
 |trans p q ihp ihq=>
  intro ss h
  obtain⟨s1,a1,b1⟩:=ihq h
  obtain⟨s2,a2,b2⟩:=ihp a1
  exact⟨s2,a2,b2.trans b1⟩
def B4:∀{vs:List Value}{ss:List Str}(x:Str) (t:Tok),StrsAre vs ss->StrsAre (vs++[.str x t]) (ss++[x])
 |_,_,x,t,.nil=>.cons x t .nil
 |_,_,x,t,.cons y u h=>.cons y u (B4 x t h)
def MA(t:SetTable)(es:Array (Int×Value))(h:Int)(x:Value):(layNew t es h x).2.1.led=t.led:=by
 have so:∀(u:SetTable) (n:Nat),(u.orStandIn n).led=u.led:=λu n=>by
  unfold SetTable.orStandIn
  split<;>rfl
 unfold layNew
 split
 ·dsimp only
  rw[so]
  rfl
 ·rfl
def MG(t:SetTable)(es:Array (Int×Value))(n:Nat):(relayAll t es n).2.1.led=t.led/\(t.plain=false->(relayAll t es n).2.1.plain=false):=by
 have la:∀m f mv ld pl hs t' o,SetTable.laid m f mv ld pl hs=some (t',o)->t'.led=ld/\t'.plain=pl:=λm f mv ld pl hs t' o e=>by
  unfold SetTable.laid at e
  cases q:SetTable.layClean m hs with
  |none=>rw[q]at e;cases e
  |some ow=>
   rw[q]at e
   simp only[Option.bind_eq_bind,Option.bind_some,Option.pure_def,Option.some.injEq,Prod.mk.injEq]at e
   obtain⟨e,_⟩:=e
   subst e
   exact⟨rfl,rfl⟩
 unfold relayAll
 split
 ·rename_i t' order e
  have:=la _ _ _ _ _ _ _ _ e
  dsimp only
  split
  ·exact⟨this.1,λz=>by rw[<-z];exact this.2⟩
  ·exact⟨rfl,λ_=>rfl⟩
 ·exact⟨rfl,λ_=>rfl⟩
section
variable{prog:Program}{w:World}{A:Around}{E:Value->Shared->Prop}{s:Shared}{a:Addr}{us:List Str}{x:Str}{tk:Tok}
def cn.mem{es:Array (Int×Value)}{t:SetTable}(T:cn prog w us es t)(x:Str):x∈us↔∃e∈es.toList,(PySem.strKind prog w).is x e.2=true:=by
 obtain⟨vs,h,p⟩:=T.tx
 rw[<-p.mem_iff,CZ h x]
 simp only[List.mem_map]
 exact⟨λ⟨v,⟨e,he,z⟩,q⟩=>⟨e,he,by subst z;exact q⟩,λ⟨e,he,q⟩=>⟨e.2,⟨e,he,rfl⟩,q⟩⟩
def cn.size{es:Array (Int×Value)}{t:SetTable}(T:cn prog w us es t):es.size=us.length:=by
 obtain⟨vs,h,p⟩:=T.tx
 have:=gU h
 rw[ao,d9]at this
 rw[this,p.length_eq]
def BN{g:Bool->Sem Unit}(hg:∀(b:Bool) (s₁:Shared) (R:Unit->Shared->Prop),R () s₁->wpAny (model prog w) A (g b) R E s₁){es es1:Array (Int×Value)}{ep:Nat}{t t2:SetTable}{wd:Bool}{R:Option Bool->Shared->Prop}
  (ho:s.heap.get? a=some (bK es ep t)) (T:cn prog w us es1 t2) (np:t2.plain=false)
  (h:∀h',Heap.SameBut a s.heap h'->az prog w a us h'->R (some true) {s with heap:=h'}):
  wpAny (model prog w) A (do
   storeSet a es1 t2
   if (!wd&&t2.tooFull)=true then do
     g (relayAll t2 es1 (SetTable.grown es1.size)).2.2
     storeSet a (relayAll t2 es1 (SetTable.grown es1.size)).1 (relayAll t2 es1 (SetTable.grown es1.size)).2.1
     pure (some true)
    else pure (some true)) R E s:=by
 refine af (wpAny_storeSet_of ho rfl ?_ (fits_of_scanBound T.lt))
 have o1:(s.heap.update a (Obj.putSet es1 t2)).get? a=some (bK es1 (ep+1) t2):=j4 (Obj.putSet es1 t2) ho rfl
 have b1:=Heap.SameBut.update s.heap a (Obj.putSet es1 t2)
 split
 ·have hp:=relayAll_perm t2 es1 (SetTable.grown es1.size)
  have hf:=relayAll_fits t2 es1 (SetTable.grown es1.size)
  obtain⟨hl,hq⟩:=MG t2 es1 (SetTable.grown es1.size)
  have hq:=hq np
  generalize relayAll t2 es1 (SetTable.grown es1.size)=Rl at hp hf hl hq ⊢
  obtain⟨es2,t3,g2⟩:=Rl
  dsimp only at hp hf hl hq ⊢
  have sz:es2.size=es1.size:=by have:=hp.length_eq;simpa using this
  have T2:cn prog w us es2 t3:=by
   obtain⟨vs,hv,pv⟩:=T.tx
   obtain⟨vs',hv',pv'⟩:=lN (hp.map (·.2)) hv
   exact⟨T.el.perm hp,⟨vs',hv',pv'.trans pv⟩,T.nd,by rw[sz];exact T.lt,hf,.inr hq,hl.trans T.ld⟩
  refine af (hg _ _ _ ?_)
  refine af (wpAny_storeSet_of o1 rfl ?_ (fits_of_scanBound T2.lt))
  exact ah (h _ (b1.trans (Heap.SameBut.update _ a _)) ⟨es2,ep+1+1,t3,j4 (Obj.putSet es2 t3) o1 rfl,T2⟩)
 ·exact ah (h _ b1 ⟨es1,ep+1,t2,o1,T⟩)
def vV{Q:Bool->Shared->Prop}(S:az prog w a us s.heap)(room:us.length+1<scanBound)(h:∀b h',Heap.SameBut a s.heap h'->az prog w a (cU us x) h'->Q b {s with heap:=h'}):
  wpAny (model prog w) A (setAddHashed a (.str x tk) ((PySem.strKind prog w).hash x)) Q E s:=by
 obtain⟨es,ep,t,ho,T⟩:=id S
 have hk:(PySem.strKind prog w).is x (.str x tk)=true:=by show Value.isStrOf x (.str x tk)=true;simp[Value.isStrOf]
 have sc:(Value.str x tk).scannable=true:=rfl
 unfold setAddHashed setAddHashedIn
 refine gb (af (d5 ho rfl T.fit ?_))
 dsimp only
 rw[byScan_of sc T.lt T.el,if_pos rfl]
 unfold setAddByScan
 refine af (af (wpAny_rule ?_))
 refine af (wpAny_setScan_of hk ho rfl T.fit T.el ?_)
 cases hr:es.toList.findIdx? (λe=>(PySem.strKind prog w).is x e.2) with
 |some j=>
  dsimp only
  obtain⟨hj,hp,_⟩:=List.findIdx?_eq_some_iff_getElem.mp hr
  have hin:x∈us:=(T.mem x).mpr ⟨_,jl hj,hp⟩
  refine ah (ah ?_)
  have e:s={s with heap:=s.heap}:=by cases s;rfl
  rw[e]
  refine h false s.heap (Heap.SameBut.refl a s.heap) ?_
  rw[cU,if_pos hin]
  exact S
 |none=>
  dsimp only
  have hout:x∉us:=λz=>by
   obtain⟨e,he,hp⟩:=(T.mem x).mp z
   have:=qn3_.mp hr e he
   rw[hp]at this;cases this
  have eA:cU us x=us++[x]:=by rw[cU,if_neg hout]
  have pm:=layNew_perm t es ((PySem.strKind prog w).hash x) (.str x tk)
  have ft:=layNew_fits t es ((PySem.strKind prog w).hash x) (.str x tk)
  have ld:=MA t es ((PySem.strKind prog w).hash x) (.str x tk)
  generalize layNew t es ((PySem.strKind prog w).hash x) (.str x tk)=L at pm ft ld ⊢
  obtain⟨es1,t1,wd,gv⟩:=L
  dsimp only at pm ft ld ⊢
  rw[Array.toList_push]at pm
  have sz:es1.size=us.length+1:=by
   have:=pm.length_eq
   rw[<-d9,this,b9,d9,T.size];rfl
  have base:∀t2:SetTable,t2.fits es1.size=true->t2.plain=false->t2.led=t.led->cn prog w (cU us x) es1 t2:=λt2 f2 p2 l2=>by
   obtain⟨vs,hv,pv⟩:=T.tx
   have h1:=B4 x tk hv
   have h2:(es.toList.map (·.2))++[Value.str x tk]=(es.toList++[((PySem.strKind prog w).hash x,Value.str x tk)]).map (·.2):=by simp
   rw[h2]at h1
   obtain⟨vs',hv',pv'⟩:=lN (pm.map (·.2)) h1
   refine⟨(T.el.push hk sc).perm pm,⟨vs',hv',?_⟩,?_,by rw[sz];exact room,f2,.inr p2,l2.trans T.ld⟩
   ·rw[eA];exact pv'.trans (pv.append_right _)
   ·rw[eA,nh]
    refine⟨T.nd,by simp,λy hy z hz e=>hout ?_⟩
    have q:z=x:=by simpa using hz
    rw[<-q,<-e]
    exact hy
  have gw:∀(b:Bool) (s₁:Shared) (R:Unit->Shared->Prop),R () s₁->wpAny (model prog w) A (match b with|true=>rule "set.scan.the-table-gave-way"|false=>pure ()) R E s₁:=
   λb s₁ R q=>by
    cases b
    ·exact ah q
    ·exact wpAny_rule q
  refine af (gw _ _ _ ?_)
  have fin:∀h',Heap.SameBut a s.heap h'->az prog w a (cU us x) h'->wpAny (model prog w) A (pure true) Q E {s with heap:=h'}:=λh' b S'=>ah (h true h' b S')
  split
  ·refine af ?_
   rw[hashByValue_scannable 8 sc]
   refine ah ?_
   rw[if_neg (by simp[plainKind])]
   exact BN (g:=λb=>match b with|true=>rule "set.scan.the-table-gave-way"|false=>pure ()) gw ho (base _ (SetTable.fits_plain_off ft) rfl ld) rfl λh' b S'=>fin h' b S'
  ·rename_i hp
   refine af (ah ?_)
   rw[if_pos rfl]
   exact BN (g:=λb=>match b with|true=>rule "set.scan.the-table-gave-way"|false=>pure ()) gw ho (base _ ft (by simpa using hp) ld) (by simpa using hp) λh' b S'=>fin h' b S'
end
def qZ:Slot "set" "__iter__" "set.__iter__":=
 Slot.of (owner:="set") (n:="__iter__") (by rw[typeLookup_type,builtinLookup_eq_fast];kernel_rfl) (by decide +kernel) (by decide +kernel) (by decide +kernel) (by first|exact .inl (by decide +kernel)|exact .inr (by decide +kernel)) (by rw[isSubtype_type];kernel_rfl)
def zv:entryFor table "set.__iter__"=some Builtin.«frozenset.__iter__»:=entryFor_alias (id':="frozenset.__iter__") (by kernel_rfl) rfl (by decide +kernel) (by kernel_rfl)
def zq(a:Value):argsOk "set.__iter__" ⟨[a],[]⟩:=by
 unfold argsOk
 kernel_rfl
def st_next:Slot "set_iterator" "__next__" "set_iterator.__next__":=
 Slot.of (owner:="set_iterator") (n:="__next__") (by rw[typeLookup_type,builtinLookup_eq_fast];kernel_rfl) (by decide +kernel) (by decide +kernel) (by decide +kernel) (by first|exact .inl (by decide +kernel)|exact .inr (by decide +kernel)) (by rw[isSubtype_type];kernel_rfl)
def Jw:entryFor table "set_iterator.__next__"=some Builtin.«set_iterator.__next__»:=entryFor_of_fast (by kernel_rfl)
def Ht(a:Value):argsOk "set_iterator.__next__" ⟨[a],[]⟩:=by
 unfold argsOk
 kernel_rfl
def gW:Slot "set_iterator" "__iter__" "set_iterator.__iter__":=
 Slot.of (owner:="set_iterator") (n:="__iter__") (by rw[typeLookup_type,builtinLookup_eq_fast];kernel_rfl) (by decide +kernel) (by decide +kernel) (by decide +kernel) (by first|exact .inl (by decide +kernel)|exact .inr (by decide +kernel)) (by rw[isSubtype_type];kernel_rfl)
def nY:entryFor table "set_iterator.__iter__"=some Builtin.«dict_keyiterator.__iter__»:=entryFor_alias (id':="dict_keyiterator.__iter__") (by kernel_rfl) rfl (by decide +kernel) (by kernel_rfl)
def nZ(a:Value):argsOk "set_iterator.__iter__" ⟨[a],[]⟩:=by
 unfold argsOk
 kernel_rfl
section
variable{prog:Program}{w:World}{A:Around}{E:Value->Shared->Prop}{s:Shared}
def J8{α:Type}{Q:α->Shared->Prop}(hh:A.handled=none)
  (h:∀e h',(∀b o,s.heap.get? b=some o->h'.get? b=some o)->Shared.TypeIs {s with heap:=h'} (.ref e) "StopIteration"->E (.ref e) {s with heap:=h'}):
  wpAny (model prog w) A (newExc (.type "StopIteration") [] >>= λe=>raiseNew e) Q E s:=by
 refine af ?_
 simp only[newExc,newTuple]
 refine af (jg ?_ (by size_fits))
 refine af (m:=firstArgMember _ _) (wpAny_of_eq (a:=Value.none) (by first|rfl|(simp only[firstArgMember];rfl)) ?_)
 refine jg ?_ (by size_fits)
 simp only[raiseNew]
 refine af (wpAny_handled ?_)
 rw[hh]
 refine af (ah (wpAny_throw ?_))
 exact h _ _ (λb o e=>ay _ (ay _ e)) ⟨_,b6 _ rfl,rfl⟩
def gV{it:Addr}{o:Obj}{Q:Option Value->Shared->Prop}(ho:s.heap.get? it=some o)(hc:o.cls=.type "set_iterator")
  (h:wpAny (model prog w) A.in1 (Builtin.«set_iterator.__next__» ⟨[.ref it],[]⟩) (λr s'=>∃v,r=.done (.ret v)/\Q (some v) s') (λe s'=>s'.TypeIs e "StopIteration"/\Q none s') s):
  wpAny (model prog w) A (pyNext (.ref it)) Q E s:=by
 have ht:s.TypeIs (.ref it) "set_iterator":=⟨o,ho,hc⟩
 unfold pyNext
 refine af (wpAny_attempt (wpAny_callSpecial?_slot (name:=Str.ofString "__next__") ht st_next (ig st_next ht Jw ?_ (Ht _))))
 refine wpAny_mono h (λr s' ⟨v,e,q⟩=>⟨v,e,ah q⟩) λe s' ⟨t,q⟩=>?_
 exact af (wpAny_isInstance (T:="StopIteration") (b:=true) t isSubtype_stop (ah q))
end
abbrev lj(first:Value)(i:Nat)(a:Addr)(n ep:Nat):Obj:={cls:=.type "set_iterator",data:=.fields #[first,.int (i:Int) 0,.ref a,.int (n:Int) 0,.int (ep:Int) 0]}
section
variable{prog:Program}{w:World}{A:Around}{E:Value->Shared->Prop}{s:Shared}{it a:Addr}{us:List Str}{es:Array (Int×Value)}{ep:Nat}{t:SetTable}
def nE{Q:Array (Int×Value)->Shared->Prop}(ho:s.heap.get? a=some (bK es ep t))(hf:t.fits es.size=true)(h:Q es s):wpAny (model prog w) A (setEntries a) Q E s:=by
 unfold setEntries
 exact af (d5 ho rfl hf (ah h))
def dR{Q:Bool->Shared->Prop}(h:Q (bp w) s):wpAny (model prog w) A setsByText Q E s:=by
 unfold setsByText
 exact af (wpAny_askSetting (ah h))
def jO{i slot:Nat}{n:Nat}{Q:Fin->Shared->Prop}(hi:s.heap.get? it=some (lj (.int (slot:Int) 0) i a n ep))(ho:s.heap.get? a=some (bK es ep t))(hf:t.fits es.size=true)(hn:es.size=n)
  (h:wpAny (model prog w) A (setNext a slot i ep) (λr s'=>wpAny (model prog w) A (match r with
   |some (x,next)=>do
    setField (.ref it) 0 (rawInt next)
    setField (.ref it) 1 (rawInt (i+1))
    ret x
   |none=>do setField (.ref it) 2 .none;raiseNew (<- newExc (.type "StopIteration") [])) Q E s') E s):
  wpAny (model prog w) A (Builtin.«set_iterator.__next__» ⟨[.ref it],[]⟩) Q E s:=by
 unfold Builtin.«set_iterator.__next__»
 refine af (m:=slotArgs "__next__" 0 ⟨[.ref it],[]⟩) (ah ?_)
 dsimp only
 refine af (wpAny_fieldsOf hi rfl ?_)
 show wpAny _ _ (setEntries a >>= _) _ _ s
 refine af (nE ho hf ?_)
 rw[hn]
 simp only[bne_self_eq_false,Bool.false_eq_true,if_false]
 refine af (m:=setNext a slot i ep) h
end
section
variable{prog:Program}{w:World}{A:Around}{E:Value->Shared->Prop}{s:Shared}{it a:Addr}{us:List Str}{es:Array (Int×Value)}{ep:Nat}{t:SetTable}
def nI{o:Obj}{vs:Array Value}{k:Nat}{Q:Fin->Shared->Prop}(hh:A.handled=none)(hi:s.heap.get? it=some o)(hd:o.data=.fields vs)(hk:k<vs.size)
  (h:∀e h',(∀b u,b≠it->s.heap.get? b=some u->h'.get? b=some u)->Shared.TypeIs {s with heap:=h'} (.ref e) "StopIteration"->E (.ref e) {s with heap:=h'}):
  wpAny (model prog w) A (do setField (.ref it) k .none;raiseNew (<- newExc (.type "StopIteration") [])) Q E s:=by
 refine af (wpAny_setField hi hd hk ?_)
 refine J8 hh λe h' kp ty=>h e h' (λb u hb q=>kp b u ?_) ty
 rw[(Heap.SameBut.update s.heap it _).2 b hb];exact q
def G4(hh:A.handled=none)(hb:bp w=true)(T:cn prog w us es t)(it a:Addr)(ne:it≠a):
  WalksS prog w A it [it,a] [it] Eq es.size (λi v=>(pickOrder (w.params.setOrder a ep) es)[i]?.map (·.2)=some v)
   (λi s=>s.heap.get? it=some (lj (.int 0 0) i a es.size ep)/\s.heap.get? a=some (bK es ep t)) where
 sub:=λb hb=>by simp at hb;simp[hb]
 grefl:=λ_=>rfl
 gtrans:=λ_ _ _ x y=>x.trans y
 frame:=λi s h' tk st _ k=>⟨k it (by simp) _ st.1,k a (by simp) _ st.2⟩
 item:=λi s Q E hi st hQ=>by
  refine gV st.1 rfl (jO (slot:=0) st.1 st.2 T.fit rfl ?_)
  have sz:(pickOrder (w.params.setOrder a ep) es).size=es.size:=by have:=(jQ (w.params.setOrder a ep) es).length_eq;simpa using this
  unfold setNext
  refine af (d5 st.2 rfl T.fit ?_)
  dsimp only
  refine af (dR ?_)
  rw[if_pos hb]
  simp only[bne_self_eq_false,Bool.false_eq_true,if_false]
  unfold setWalk
  refine af (af (d5 st.2 rfl T.fit ?_))
  dsimp only
  refine af (dR ?_)
  rw[if_pos hb]
  refine af (wpAny_askSetting (ah ?_))
  refine ah ?_
  have hlt:i<(pickOrder (w.params.setOrder a ep) es).size:=by rw[sz];exact hi
  show wpAny _ _ (match Option.map (λe=>(e.2,0)) (pickOrder (w.params.setOrder a ep) es)[i]? with
   |some (x,next)=>do
    setField (.ref it) 0 (rawInt (next:Nat))
    setField (.ref it) 1 (rawInt (i+1))
    ret x
   |none=>do setField (.ref it) 2 .none;raiseNew (<- newExc (.type "StopIteration") [])) _ _ _
  rw[ja hlt]
  dsimp only[Option.map_some]
  refine af (j0 st.1 (by simp) λh1 g1 b1=>?_)
  refine af (j0 g1 (by simp) λh2 g2 b2=>?_)
  refine ah ⟨_,rfl,hQ _ _ (by rw[ja hlt];rfl) ⟨?_,?_⟩ ⟨?_,rfl,rfl,rfl,ba _⟩⟩
  ·rw[g2];rfl
  ·rw[b2.2 a ne.symm,b1.2 a ne.symm];exact st.2
  ·intro b o hb e
   have hb':b≠it:=by simpa using hb
   rw[b2.2 b hb',b1.2 b hb'];exact e
 done:=λs Q E st hQ=>by
  refine gV st.1 rfl (jO (slot:=0) st.1 st.2 T.fit rfl ?_)
  have sz:(pickOrder (w.params.setOrder a ep) es).size=es.size:=by have:=(jQ (w.params.setOrder a ep) es).length_eq;simpa using this
  unfold setNext
  refine af (d5 st.2 rfl T.fit ?_)
  dsimp only
  refine af (dR ?_)
  rw[if_pos hb]
  simp only[bne_self_eq_false,Bool.false_eq_true,if_false]
  unfold setWalk
  refine af (af (d5 st.2 rfl T.fit ?_))
  dsimp only
  refine af (dR ?_)
  rw[if_pos hb]
  refine af (wpAny_askSetting (ah ?_))
  refine ah ?_
  show wpAny _ _ (match Option.map (λe=>(e.2,0)) (pickOrder (w.params.setOrder a ep) es)[es.size]? with
   |some (x,next)=>do
    setField (.ref it) 0 (rawInt (next:Nat))
    setField (.ref it) 1 (rawInt ((es.size:Int)+1))
    ret x
   |none=>do setField (.ref it) 2 .none;raiseNew (<- newExc (.type "StopIteration") [])) _ _ _
  rw[ky (show(pickOrder (w.params.setOrder a ep) es).size<=es.size by rw[sz];exact ba _)]
  dsimp only[Option.map_none]
  refine nI hh st.1 rfl (by simp) λe h' kp ty=>⟨ty,hQ _ ⟨λb o hb q=>kp b o (by simpa using hb) q,rfl,rfl,rfl,ba _⟩⟩
 self:=λi s Q E st hQ=>by
  have ht:s.TypeIs (.ref it) "set_iterator":=⟨_,st.1,rfl⟩
  refine wpAny_pyIter_slot ht gW (ig gW ht nY ?_ (nZ _))
  show wpAny _ _ (ret (.ref it)) _ _ s
  exact ah ⟨_,rfl,"set_iterator",_,ht,st_next.lookup,hQ⟩
end
def Cy(p:Nat):SetTable.below #[p] 0=0/\SetTable.below #[p] (p+1)=1:=by
 constructor
 ·show SetTable.below.go #[p] 0 1 0 1=0
  simp[SetTable.below.go]
 ·show SetTable.below.go #[p] (p+1) 1 0 1=1
  simp[SetTable.below.go]
section
variable{prog:Program}{w:World}{A:Around}{E:Value->Shared->Prop}{s:Shared}{it a:Addr}{us:List Str}{es:Array (Int×Value)}{ep:Nat}{t:SetTable}
def zO{slot i:Nat}{Q:Option (Value×Nat)->Shared->Prop}(hb:bp w=false)(T:cn prog w us es t)(h1:es.size<=1)(ho:s.heap.get? a=some (bK es ep t))
  (h:Q (match es[SetTable.below t.place slot]?,t.place[SetTable.below t.place slot]? with
  |some (_,x),some j=>some (x,j+1)
  |_,_=>none) s):wpAny (model prog w) A (setNext a slot i ep) Q E s:=by
 have ld:t.led=true:=by rw[T.ld,hb];rfl
 unfold setNext
 refine af (d5 ho rfl T.fit ?_)
 dsimp only
 refine af (dR ?_)
 rw[hb]
 simp only[Bool.false_eq_true,if_false]
 show wpAny _ _ (if (!t.plain&&decide (es.size > 1))=true then _ else(do
  (if (!t.led&&!es.isEmpty)=true then unsupported "set:maker-not-led" else pure ():Sem Unit)
  pure (match es[SetTable.below t.place slot]?,t.place[SetTable.below t.place slot]? with
   |some (_,x),some j=>some (x,j+1)
   |_,_=>none))) _ _ _
 rw[if_neg (by rw[show decide (es.size > 1)=false from g4 (by omega)];simp)]
 refine af ?_
 rw[if_neg (by rw[ld];simp)]
 exact ah (ah h)
def G5(hh:A.handled=none)(hb:bp w=false)(T:cn prog w us es t)(h1:es.size<=1)(it a:Addr)(ne:it≠a):
  WalksS prog w A it [it,a] [it] Eq es.size (λi v=>es[i]?.map (·.2)=some v)
   (λi s=>s.heap.get? it=some (lj (.int ((if i=0 then 0 else t.place.getD 0 0+1:Nat):Int) 0) i a es.size ep)/\s.heap.get? a=some (bK es ep t)) where
 sub:=λb hb=>by simp at hb;simp[hb]
 grefl:=λ_=>rfl
 gtrans:=λ_ _ _ x y=>x.trans y
 frame:=λi s h' tk st _ k=>⟨k it (by simp) _ st.1,k a (by simp) _ st.2⟩
 item:=λi s Q E hi st hQ=>by
  have i0:i=0:=by omega
  subst i0
  have e1:es.size=1:=by omega
  have pz:t.place.size=1:=by have:=T.fit;simp only[SetTable.fits,Bool.and_eq_true,beq_iff_eq]at this;rw[this.1,e1]
  obtain⟨p,hp⟩:∃p,t.place=#[p]:=by
   refine⟨t.place[0],?_⟩
   apply Array.ext
   ·simp[pz]
   ·intro j h1 h2
    have:j=0:=by simp at h2;exact h2
    subst this
    simp
  refine gV st.1 rfl (jO (slot:=0) (by simpa using st.1) st.2 T.fit rfl ?_)
  refine zO hb T h1 st.2 ?_
  rw[hp,(Cy p).1]
  have hl0:0<es.size:=by omega
  rw[ja hl0]
  show wpAny _ _ (do
    setField (.ref it) 0 (rawInt ((p+1:Nat):Int))
    setField (.ref it) 1 (rawInt ((0:Nat)+1:Int))
    ret es[0].2) _ _ _
  refine af (j0 st.1 (by simp) λh1 g1 b1=>?_)
  refine af (j0 g1 (by simp) λh2 g2 b2=>?_)
  refine ah ⟨_,rfl,hQ _ _ (by rw[ja hl0];rfl) ⟨?_,?_⟩ ⟨?_,rfl,rfl,rfl,ba _⟩⟩
  ·rw[g2,hp];rfl
  ·rw[b2.2 a ne.symm,b1.2 a ne.symm];exact st.2
  ·intro b o hb e
   have hb':b≠it:=by simpa using hb
   rw[b2.2 b hb',b1.2 b hb'];exact e
 done:=λs Q E st hQ=>by
  refine gV st.1 rfl (jO st.1 st.2 T.fit rfl ?_)
  refine zO hb T h1 st.2 ?_
  have pz:t.place.size=es.size:=by have:=T.fit;simp only[SetTable.fits,Bool.and_eq_true,beq_iff_eq]at this;exact this.1
  have hn:es[SetTable.below t.place (if es.size=0 then 0 else t.place.getD 0 0+1)]?=none:=by
   by_cases z:es.size=0
   ·have:es=#[]:=Array.size_eq_zero_iff.mp z
    subst this
    simp
   ·rw[if_neg z]
    have e1:es.size=1:=by omega
    obtain⟨p,hp⟩:∃p,t.place=#[p]:=by
     refine⟨t.place[0]'(by omega),?_⟩
     apply Array.ext
     ·simp[pz,e1]
     ·intro j h1 h2
      have:j=0:=by simp at h2;exact h2
      subst this
      simp
    rw[hp]
    show es[SetTable.below #[p] (p+1)]?=none
    rw[(Cy p).2]
    exact ky (by omega)
  rw[hn]
  dsimp only
  exact nI hh st.1 rfl (by simp) λe h' kp ty=>⟨ty,hQ _ ⟨λb o hb q=>kp b o (by simpa using hb) q,rfl,rfl,rfl,ba _⟩⟩
 self:=λi s Q E st hQ=>by
  have ht:s.TypeIs (.ref it) "set_iterator":=⟨_,st.1,rfl⟩
  refine wpAny_pyIter_slot ht gW (ig gW ht nY ?_ (nZ _))
  show wpAny _ _ (ret (.ref it)) _ _ s
  exact ah ⟨_,rfl,"set_iterator",_,ht,st_next.lookup,hQ⟩
abbrev mR(ps:List Nat):Obj:={cls:=.type "tuple",data:=.seq (ps.map λ(i:Nat)=>rawInt (i:Int)).toArray}
def B_{i:Nat}{n:Nat}{tu:Addr}{ps:List Nat}{Q:Fin->Shared->Prop}(hi:s.heap.get? it=some (lj (.ref tu) i a n ep))(ho:s.heap.get? a=some (bK es ep t))(hu:s.heap.get? tu=some (mR ps))(hf:t.fits es.size=true)(hn:es.size=n)
  (h:match ps[i]? with
   |some pl=>∃e,es[pl]?=some e/\wpAny (model prog w) A (do
    setField (.ref it) 1 (rawInt (i+1))
    ret e.2) Q E s
   |none=>wpAny (model prog w) A (do setField (.ref it) 0 (rawInt 0);setField (.ref it) 2 .none;raiseNew (<- newExc (.type "StopIteration") [])) Q E s):
  wpAny (model prog w) A (Builtin.«set_iterator.__next__» ⟨[.ref it],[]⟩) Q E s:=by
 unfold Builtin.«set_iterator.__next__»
 refine af (m:=slotArgs "__next__" 0 ⟨[.ref it],[]⟩) (ah ?_)
 dsimp only
 refine af (wpAny_fieldsOf hi rfl ?_)
 show wpAny _ _ (setEntries a >>= _) _ _ s
 refine af (nE ho hf ?_)
 rw[hn]
 simp only[bne_self_eq_false,Bool.false_eq_true,if_false]
 show wpAny _ _ (seqItems? (.ref tu) >>= _) _ _ s
 refine af (wpAny_seqItems hu rfl ?_)
 dsimp only
 have e:(ps.map λ(i:Nat)=>rawInt (i:Int)).toArray[((i:Int)).toNat]?=ps[i]?.map λ(i:Nat)=>rawInt (i:Int):=by simp
 rw[e]
 cases q:ps[i]? with
 |none=>
  rw[q]at h
  exact h
 |some pl=>
  rw[q]at h
  obtain⟨en,he,h⟩:=h
  show wpAny _ _ (setNextDrawn a ((pl:Int)).toNat ((ep:Int)).toNat >>= _) _ _ s
  unfold setNextDrawn
  refine af (af (d5 ho rfl hf ?_))
  dsimp only
  rw[show((ep:Int)).toNat=ep by simp,show((pl:Int)).toNat=pl by simp]
  simp only[bne_self_eq_false,Bool.false_eq_true,if_false]
  rw[he]
  exact ah h
def G6(hh:A.handled=none)(T:cn prog w us es t)(it a tu:Addr)(ne:it≠a)(nu:it≠tu)(ps:List Nat)(hp:ps.Perm (List.range es.size)):
  WalksS prog w A it [it,a,tu] [it] Eq es.size (λi v=>∃pl e,ps[i]?=some pl/\es[pl]?=some e/\v=e.2)
   (λi s=>s.heap.get? it=some (lj (.ref tu) i a es.size ep)/\s.heap.get? a=some (bK es ep t)/\s.heap.get? tu=some (mR ps)) where
 sub:=λb hb=>by simp at hb;simp[hb]
 grefl:=λ_=>rfl
 gtrans:=λ_ _ _ x y=>x.trans y
 frame:=λi s h' tk st _ k=>⟨k it (by simp) _ st.1,k a (by simp) _ st.2.1,k tu (by simp) _ st.2.2⟩
 item:=λi s Q E hi st hQ=>by
  have pl:ps.length=es.size:=by rw[hp.length_eq,kx]
  have hlt:i<ps.length:=by omega
  have hm:ps[i]<es.size:=by have:=hp.mem_iff.mp (jl hlt);simpa using this
  refine gV st.1 rfl (B_ st.1 st.2.1 st.2.2 T.fit rfl ?_)
  rw[b_ hlt]
  refine⟨es[ps[i]],ja hm,?_⟩
  refine af (j0 st.1 (by simp) λh1 g1 b1=>?_)
  refine ah ⟨_,rfl,hQ _ _ ⟨_,_,b_ hlt,ja hm,rfl⟩ ⟨?_,?_,?_⟩ ⟨?_,rfl,rfl,rfl,ba _⟩⟩
  ·rw[g1];rfl
  ·rw[b1.2 a ne.symm];exact st.2.1
  ·rw[b1.2 tu nu.symm];exact st.2.2
  ·intro b o hb e
   have hb':b≠it:=by simpa using hb
   rw[b1.2 b hb'];exact e
 done:=λs Q E st hQ=>by
  have pl:ps.length=es.size:=by rw[hp.length_eq,kx]
  refine gV st.1 rfl (B_ st.1 st.2.1 st.2.2 T.fit rfl ?_)
  rw[kc (by omega)]
  refine af (j0 st.1 (by simp) λh1 g1 b1=>?_)
  refine nI hh g1 rfl (by simp) λe h' kp ty=>⟨ty,hQ _ ⟨λb o hb q=>kp b o (by simpa using hb) ?_,rfl,rfl,rfl,ba _⟩⟩
  have hb':b≠it:=by simpa using hb
  show h1.get? b=some o
  rw[b1.2 b hb'];exact q
 self:=λi s Q E st hQ=>by
  have ht:s.TypeIs (.ref it) "set_iterator":=⟨_,st.1,rfl⟩
  refine wpAny_pyIter_slot ht gW (ig gW ht nY ?_ (nZ _))
  show wpAny _ _ (ret (.ref it)) _ _ s
  exact ah ⟨_,rfl,"set_iterator",_,ht,st_next.lookup,hQ⟩
end
def y_(P:Nat->Value->Prop)(us:List Str):Prop:=∀acc:Array Value,ItemsOf P acc us.length->∃vs,StrsAre acc.toList vs/\vs.Perm us
def vY{P:Nat->Value->Prop}{us:List Str}{out:List Value}{vs:List Str}(hl:out.length=us.length)(h:∀i v,P i v->out[i]?=some v)(hs:StrsAre out vs)(hp:vs.Perm us):y_ P us:=λacc ⟨h1,h2⟩=>by
 have e:acc.toList=out:=by
  apply o_
  intro i
  by_cases hi:i<acc.size
  ·rw[h i acc[i] (h2 i _ (ja hi)),d7,ja hi]
  ·rw[d7,ky (by omega),kc (by omega)]
 rw[e]
 exact⟨vs,hs,hp⟩
section
variable{prog:Program}{w:World}{A:Around}{E:Value->Shared->Prop}{s:Shared}{a:Addr}{us:List Str}
def L3{Q:Value->Shared->Prop}(S:az prog w a us s.heap)
  (h:∀(it:Addr) (fp:List Addr) (P:Nat->Value->Prop) (St:Nat->Shared->Prop) (h':Heap) (d:Drawn),(∀A':Around,A'.handled=none->∃n,n=us.length/\WalksS prog w A' it fp [it] Eq n P St)->St 0 {s with heap:=h',drawn:=d}->y_ P us ->
   (∀b∈fp,b=a\/s.heap.objs.size<=b)->s.heap.objs.size<=it->(∀b o,s.heap.get? b=some o->h'.get? b=some o)->Q (.ref it) {s with heap:=h',drawn:=d}):
  wpAny (model prog w) A (pyIter (.ref a)) Q E s:=by
 obtain⟨es,ep,t,ho,T⟩:=id S
 have alt:a<s.heap.objs.size:=bo ho
 have ht:s.TypeIs (.ref a) "set":=⟨_,ho,rfl⟩
 have sz:=T.size
 obtain⟨vs,hv,pv⟩:=T.tx
 refine wpAny_pyIter_slot ht qZ (ig qZ ht zv ?_ (zq _))
 unfold Builtin.«frozenset.__iter__» Builtin.Frozenset.slot0
 refine af (af (m:=slotArgs "__iter__" 0 ⟨[.ref a],[]⟩) (ah ?_))
 show wpAny _ _ (pure a) _ _ s
 refine ah ?_
 unfold Builtin.Frozenset.sizeOf
 refine af (af (nE ho T.fit (ah ?_)))
 unfold setDrawn
 refine af (af (d5 ho rfl T.fit ?_))
 dsimp only
 refine af (dR (ah ?_))
 show wpAny _ _ (if (!bp w&&(!t.plain&&decide (es.size > 1)))=true then _ else _) _ _ s
 have fin:∀(first:Value) (h1:Heap) (d:Drawn) (St:Nat->Shared->Prop),(∀b o,s.heap.get? b=some o->h1.get? b=some o)->s.heap.objs.size<=h1.objs.size ->
   (∀s2:Shared,s2.heap.get? h1.objs.size=some (lj first 0 a es.size ep)->(∀b o,h1.get? b=some o->s2.heap.get? b=some o) ->
    Q (.ref h1.objs.size) {s with heap:=h1.push (lj first 0 a es.size ep),drawn:=d})->wpAny (model prog w) A.in1 (do
   ret (<- newFields "set_iterator" [first,rawInt 0,.ref a,rawInt es.size,rawInt (<- setEpoch a)])) (λfin s'=>∃v,fin=.done (.ret v)/\∃T' r,s'.TypeIs v T'/\typeLookup (.type T') "__next__"=pure (some r)/\Q v s') E {s with heap:=h1,drawn:=d}:=by
  intro first h1 d St k le q
  refine af (wpAny_setEpoch_of (k a _ ho) rfl T.fit ?_)
  refine af (jg ?_ (by size_fits))
  exact ah ⟨_,rfl,"set_iterator",_,⟨_,b6 _ rfl,rfl⟩,st_next.lookup,q {s with heap:=h1.push (lj first 0 a es.size ep)} (b6 _ rfl) λb o e=>ay _ e⟩
 cases hb:bp w with
 |true=>
  rw[if_neg (by simp)]
  refine af (ah ?_)
  have e:s={s with heap:=s.heap,drawn:=s.drawn}:=by cases s;rfl
  have hp:=jQ (w.params.setOrder a ep) es
  obtain⟨vs',hv',pv'⟩:=lN (hp.map (·.2)) hv
  have nea:s.heap.objs.size≠a:=gj alt
  refine fin (.int 0 0) s.heap s.drawn (λ_ _=>True) (λ_ _ e=>e) (ba _) λs2 g k=>?_
  refine h s.heap.objs.size [s.heap.objs.size,a] _ _ _ _ (λA' hA=>⟨es.size,sz,G4 (ep:=ep) hA hb T _ a nea⟩) ⟨b6 _ rfl,ay _ ho⟩ ?_ (λb m=>?_) (ba _) λb o e=>ay _ e
  ·refine vY (out:=(pickOrder (w.params.setOrder a ep) es).toList.map (·.2)) (vs:=vs') (by rw[ao,hp.length_eq,d9,sz]) (λi v q=>?_) hv' (pv'.trans pv)
   rw[e_,d7]
   exact q
  ·simp only[List.mem_cons,List.not_mem_nil,or_false]at m
   rcases m with m|m
   ·exact .inr (by rw[m];exact ba _)
   ·exact .inl m
 |false=>
  by_cases h1:es.size<=1
  ·rw[if_neg (by simp[show ¬ es.size > 1 by omega])]
   refine af (ah ?_)
   have nea:s.heap.objs.size≠a:=gj alt
   refine fin (.int 0 0) s.heap s.drawn (λ_ _=>True) (λ_ _ e=>e) (ba _) λs2 g k=>?_
   refine h s.heap.objs.size [s.heap.objs.size,a] _ _ _ _ (λA' hA=>⟨es.size,sz,G5 (ep:=ep) hA hb T h1 _ a nea⟩) ⟨b6 _ rfl,ay _ ho⟩ ?_ (λb m=>?_) (ba _) λb o e=>ay _ e
   ·refine vY (out:=es.toList.map (·.2)) (vs:=vs) (by rw[ao,d9,sz]) (λi v q=>?_) hv pv
    rw[e_,d7]
    exact q
   ·simp only[List.mem_cons,List.not_mem_nil,or_false]at m
    rcases m with m|m
    ·exact .inr (by rw[m];exact ba _)
    ·exact .inl m
  ·have np:t.plain=false:=T.pl.resolve_left (by omega)
   rw[if_pos (by simp[np];omega)]
   refine af (tW es.size (List.range es.size) s (by simp) λps d hp=>?_)
   refine af (wpAny_newTuple ?_ (by rw[ao,hp.length_eq,kx];exact fits_of_scanBound T.lt))
   have nea:s.heap.objs.size≠a:=gj alt
   have e2:(s.heap.push (mR ps)).objs.size=s.heap.objs.size+1:=fm ..
   refine fin (.ref s.heap.objs.size) (s.heap.push (mR ps)) d (λ_ _=>True) (λ_ _ e=>ay _ e) (by rw[e2];omega) λs2 g k=>?_
   refine h (s.heap.push (mR ps)).objs.size [(s.heap.push (mR ps)).objs.size,a,s.heap.objs.size] _ _ _ _ (λA' hA=>⟨es.size,sz,G6 (ep:=ep) hA T _ a s.heap.objs.size (by rw[e2];exact gj (fo alt)) (by rw[e2];exact gj (ku _)) ps hp⟩) ⟨b6 _ rfl,ay _ (ay _ ho),ay _ (b6 _ rfl)⟩ ?_ (λb m=>?_) (by rw[e2];omega) λb o e=>ay _ (ay _ e)
   ·have hfm:(ps.filterMap λp=>es[p]?).Perm es.toList:=(hp.filterMap _).trans (by rw[filterMap_getElem?_range])
    obtain⟨vs',hv',pv'⟩:=lN (hfm.map (·.2)) hv
    have hmm:∀p∈ps,p<es.size:=λp m=>by have:=hp.mem_iff.mp m;simpa using this
    have hall:∀(l:List Nat),(∀p∈l,p<es.size)->∀i:Nat,(l.filterMap λp=>es[p]?)[i]?=(l[i]?).bind λp=>es[p]?:=by
     intro l
     induction l with
     |nil=>intro _ i;simp
     |cons x l ih=>
      intro hx i
      have hx0:=hx x (by simp)
      rw[il,ja hx0]
      cases i with
      |zero=>simp[hx0]
      |succ i=>simp only[List.getElem?_cons_succ];exact ih (λp m=>hx p (d_ _ m)) i
    refine vY (out:=(ps.filterMap λp=>es[p]?).map (·.2)) (vs:=vs') (by rw[ao,hfm.length_eq,d9,sz]) (λi v ⟨pl,e,q1,q2,q3⟩=>?_) hv' (pv'.trans pv)
    rw[e_,hall ps hmm,q1]
    simp[q2,q3]
   ·simp only[List.mem_cons,List.not_mem_nil,or_false]at m
    rcases m with m|m|m
    ·exact .inr (by rw[m,e2];omega)
    ·exact .inl m
    ·exact .inr (by rw[m];exact ba _)
end
def st_len:Slot "set" "__len__" "set.__len__":=
 Slot.of (owner:="set") (n:="__len__") (by rw[typeLookup_type,builtinLookup_eq_fast];kernel_rfl) (by decide +kernel) (by decide +kernel) (by decide +kernel) (by first|exact .inl (by decide +kernel)|exact .inr (by decide +kernel)) (by rw[isSubtype_type];kernel_rfl)
def oE:isSubtype (.type "set") (.type "set")=pure true:=by rw[isSubtype_type];kernel_rfl
section
variable{prog:Program}{w:World}{A:Around}{E:Value->Shared->Prop}{s:Shared}{a:Addr}{us:List Str}
def BK{Q:Bool->Shared->Prop}(ht:s.TypeIs (.ref a) "set")(h:Q false s):wpAny (model prog w) A (Builtin.List.listLengthHint (.ref a)) Q E s:=by
 unfold Builtin.List.listLengthHint
 refine af (wpAny_specialOf ht st_len.lookup ?_)
 have e1:splitId "set.__len__"=some ("set","__len__"):=by decide +kernel
 dsimp only
 rw[e1]
 dsimp only
 refine af (wpAny_isInstance ht oE ?_)
 simp only[Bool.not_true,Bool.false_eq_true,if_false]
 refine wpAny_ite ?_
 rw[if_pos (by decide +kernel)]
 refine af (wpAny_typeOf ht ?_)
 exact ah h
end
section
variable{prog:Program}{w:World}{A:Around}{E:Value->Shared->Prop}{s:Shared}{a:Addr}{us:List Str}
theorem MX{Q:List Value->Shared->Prop}(hh:A.handled=none)(S:az prog w a us s.heap)
  (hQ:∀h' d tk (acc:List Value) vs,StrsAre acc vs->vs.Perm us->s.heap.objs.size<h'.objs.size->(∀b o,s.heap.get? b=some o->h'.get? b=some o)->Q acc {s with heap:=h',drawn:=d,toks:=tk}):
  wpAny (model prog w) A (collect (.ref a)) Q E s:=by
 have hl:us.length<=sizeLine:=by
  obtain⟨es,ep,t,ho,T⟩:=id S
  rw[<-T.size];exact fits_of_scanBound T.lt
 have alt:a<s.heap.objs.size:=by
  obtain⟨es,ep,t,ho,T⟩:=id S
  exact bo ho
 unfold collect
 refine af (wpAny_runValue (jz F.entry_proto_collect ?_))
 rw[fc F.plain_proto_collect _]
 show wpAny _ A.in1 (newList [] >>= λl=>again (.builtin "list.__iadd__" ⟨[l,.ref a],[]⟩)) _ _ s
 refine af (jg ?_ (by size_fits))
 refine ah ⟨plainId_quiet F.plain_list_iadd _,jz F.entry_list_iadd ?_⟩
 rw[fc F.plain_list_iadd _]
 show wpAny _ A.in1 (Builtin.List.listExtendWith (.ref s.heap.objs.size) (.ref a) (.ref s.heap.objs.size)) _ _ _
 unfold Builtin.List.listExtendWith
 have S1:az prog w a us (s.heap.push {cls:=.type "list",data:=.seq ([]:List Value).toArray}):=by
  obtain⟨es,ep,t,ho,T⟩:=id S
  exact⟨es,ep,t,ay _ ho,T⟩
 have ht:Shared.TypeIs {s with heap:=s.heap.push {cls:=.type "list",data:=.seq ([]:List Value).toArray}} (.ref a) "set":=by
  obtain⟨es,ep,t,ho,T⟩:=id S1
  exact⟨_,ho,rfl⟩
 refine af (wpAny_typeOf ht ?_)
 have h1:Builtin.List.listSameRef (.ref s.heap.objs.size) (.ref a)=false:=by simp[Builtin.List.listSameRef];exact gj alt
 have h2:(Value.type "set"==Value.type "list")=false:=by decide
 have h3:(Value.type "set"==Value.type "tuple")=false:=by decide
 simp only[h1,h2,h3,Bool.or_false,Bool.false_eq_true,if_false]
 refine af (L3 S1 λit fp P St h' d W st0 td hfp nv kp=>?_)
 have ht':Shared.TypeIs {s with heap:=h',drawn:=d} (.ref a) "set":=by
  obtain⟨o,e,c⟩:=ht
  exact⟨o,kp _ _ e,c⟩
 refine af (gb (BK ht' ?_))
 have hA:A.in1.in1.handled=none:=by simp[hh]
 obtain⟨n,hn,W⟩:=W A.in1 (by simp[hh])
 subst hn
 refine wpAny_ite ?_
 rw[if_pos (by decide +kernel)]
 refine af (wpAny_rule ?_)
 have sz1:(s.heap.push {cls:=.type "list",data:=.seq ([]:List Value).toArray}).objs.size=s.heap.objs.size+1:=fm ..
 have g0:h'.get? s.heap.objs.size=some {cls:=.type "list",data:=.seq ([]:List Value).toArray}:=kp _ _ (b6 _ rfl)
 have nf:s.heap.objs.size∉fp:=λm=>by
  rcases hfp _ m with z|z
  ·exact absurd z (gj alt)
  ·rw[sz1]at z;omega
 refine af ?_
 show wpAny _ A.in1 (updateSeq s.heap.objs.size (·.push .none) >>= λ_=>updateSeq s.heap.objs.size (·.pop)) _ _ _
 refine af (wpAny_updateSeq g0 rfl ?_)
 have g1:=j4 (Obj.mapSeq (·.push Value.none)) g0 rfl
 refine wpAny_updateSeq g1 rfl ?_
 have g2:=j4 (Obj.mapSeq (·.pop)) g1 rfl
 have oth:∀b o,b≠s.heap.objs.size->h'.get? b=some o->((h'.update s.heap.objs.size (Obj.mapSeq (·.push Value.none))).update s.heap.objs.size (Obj.mapSeq (·.pop))).get? b=some o:=
  λb o hb e=>(jq _ _ (Ne.symm hb)).trans ((jq _ _ (Ne.symm hb)).trans e)
 refine ah ⟨plainId_quiet F.plain_extend_loop _,codeAny_extend_loopS W hl _ nf _ us.length 0 _ _ _ rfl (d6 _)
  (W.frame 0 {s with heap:=h',drawn:=d} _ s.toks st0 (ba _) λb hb o e=>oth b o (λz=>nf (z▸hb)) e) g2 (ItemsOf.nil P) λs' acc' c' hm g' hacc=>?_⟩
 show wpAny _ A (load s.heap.objs.size >>= _) _ _ s'
 refine af (wpAny_load g' ?_)
 obtain⟨vs,hs,hp⟩:=td acc' hacc
 obtain⟨h'',g'',d'',tk'',os''⟩:=s'
 have e1:g''=s.gens:=hm.gens.symm
 have e2:os''=s.os:=hm.os
 subst e1 e2
 refine ah (hQ h'' d'' tk'' acc'.toList vs hs hp (bo g') λb o e=>hm.heap b o (λm=>?_) (oth b o (cq (bo e)) (kp b o (ay _ e))))
 have lt:=bo e
 simp only[List.mem_cons,List.not_mem_nil,or_false]at m
 rcases m with m|m
 ·rw[m]at lt;exact fg _ lt
 ·rw[m]at lt;rw[sz1]at nv;exact absurd lt (qj2_.mpr (Nat.le_of_succ_le nv))
end
section
variable{prog:Program}{w:World}{A:Around}{E:Value->Shared->Prop}{s:Shared}{a:Addr}{us:List Str}
def MR{Q:Value->Shared->Prop}(hh:A.handled=none)(S:az prog w a us s.heap)(h64:us.length<64)
  (h:∀h' d tk (l:Addr) (out:List Value) (ss:List Str) (e:Nat),StrsAre out ss->ss.Perm us->sortedS ss=true->h'.get? l=some (seqObj "list" out.toArray e)->s.heap.objs.size<=l->(∀b o,s.heap.get? b=some o->h'.get? b=some o) ->
   Q (.ref l) {s with heap:=h',drawn:=d,toks:=tk}):wpAny (model prog w) A (call (.builtin "sorted") [.ref a]) Q E s:=by
 refine Calls.call_function_entry kind_sorted plain_sorted entry_sorted (args_sorted1 _) ?_
 unfold Builtin.«sorted»
 refine af (m:=checkCount "sorted" 1 1 _) (ah ?_)
 refine af (MX (by simp[hh]) S λh1 d tk acc vs hs hp le kp=>?_)
 have hlen:acc.length<64:=by rw[gU hs,hp.length_eq];exact h64
 refine af (wpAny_newList ?_ (j9 (gc hlen (by decide))))
 have hoL:(h1.push (seqObj "list" acc.toArray 0)).get? h1.objs.size=some (seqObj "list" acc.toArray 0):=b6 _ rfl
 refine af (gb (ig slot_list_sort ⟨_,hoL,rfl⟩ entry_list_sort (list_sort_treeK strKind_oneLt hoL hs.keysOf (λv₁ v₂ rest e=>keyKind_strs (by rw[<-e];exact hs)) hlen λst' a1 a2=>⟨_,rfl,?_⟩) (args_list_sort _)))
 obtain⟨ss',b1,b2,b3⟩:=sorted_out_str hs a1 a2
 obtain⟨e,he⟩:=sortedHeap_at (out:=(arrOf st').map (·.2)) hoL
 refine ah ⟨_,rfl,h _ _ _ _ ((arrOf st').map (·.2)).toList ss' e b1 (b2.trans hp) b3 (by rw[ng];exact he) (j9 le) λb o q=>?_⟩
 have lt:=bo (kp b o q)
 rw[sortedHeap_old (cq lt) (by rw[fm];exact fo lt)]
 exact ay _ (kp b o q)
end
def eZ(val:Nat->Str)(i:Nat):List Str:=((List.range i).map val).foldl cU []
def CP(val:Nat->Str)(i:Nat):eZ val (i+1)=cU (eZ val i) (val i):=by
 unfold eZ
 rw[List.range_succ,ij,o9]
 rfl
def BH(us:List Str)(x y:Str):y∈cU us x↔y∈us\/y=x:=by
 unfold cU
 split
 ·exact⟨.inl,λh=>h.elim id λe=>by subst e;assumption⟩
 ·simp
def Hn{us:List Str}(h:us.Nodup)(x:Str):(cU us x).Nodup:=by
 unfold cU
 split
 ·exact h
 ·rename_i n
  rw[nh]
  exact⟨h,by simp,λa ha b hb e=>n (by rw[<-show b=x by simpa using hb,<-e];exact ha)⟩
def aH(ss:List Str):List Str:=ss.foldl cU []
def CD:∀(ss us:List Str) (y:Str),y∈ss.foldl cU us↔y∈us\/y∈ss
 |[],us,y=>by simp
 |x::ss,us,y=>by rw[ia,CD ss,BH,qx_,or_assoc]
def A6:∀(ss us:List Str),us.Nodup->(ss.foldl cU us).Nodup
 |[],us,h=>h
 |x::ss,us,h=>A6 ss _ (Hn h x)
def cP(ss:List Str)(y:Str):y∈aH ss↔y∈ss:=by rw[aH,CD];simp
def cY(ss:List Str):(aH ss).Nodup:=A6 ss [] ka
def vL{val:Nat->Str}{ss:List Str}(h:∀i (hi:i<ss.length),val i=ss[i]):eZ val ss.length=aH ss:=by
 unfold eZ aH
 congr 1
 apply List.ext_getElem
 ·simp
 ·intro i h1 h2
  simp[h i h2]
section
variable{prog:Program}{w:World}{A:Around}{R:Result->Shared->Prop}{I:Addr}{fp wr:List Addr}{G:Array GenState->Array GenState->Prop}{n:Nat}{P:Nat->Value->Prop}{St:Nat->Shared->Prop}
def az.kept{a:Addr}{us:List Str}{h h':Heap}(S:az prog w a us h)(k:∀o,h.get? a=some o->h'.get? a=some o):az prog w a us h':=by
 obtain⟨es,ep,t,ho,T⟩:=S
 exact⟨es,ep,t,k _ ho,T⟩
end
section
variable{prog:Program}{w:World}{A:Around}{E:Value->Shared->Prop}{s:Shared}
theorem uA(a:Value){Q₁:Value->Shared->Prop}(h:Q₁ (.ref s.heap.objs.size) {s with heap:=s.heap.push (bK #[] 0 (.fresh 0 0 (!bp w)))}):
  codeAny (model prog w) A (.call (.builtin "set.__new__") ⟨[.type "set",a],[]⟩) (wants Q₁ E) s:=by
 refine codeAny_of_tree ?_
 show wpAny _ A.in1 (do checkBuiltinCall "set.__new__" ⟨[.type "set",a],[]⟩;again (.builtin "set.__new__" ⟨[.type "set",a],[]⟩)) _ _ s
 refine af (wpAny_of_eq (F.newCall_set_1 a) (ah ⟨plainId_quiet F.plain_set_new _,jz F.entry_set_new ?_⟩))
 rw[fc F.plain_set_new _]
 unfold Builtin.«set.__new__» Builtin.Frozenset.newClass
 have hsub:=oE
 obtain⟨hp,g,d,tk,os⟩:=s
 dsimp only
 wp_walk
 refine wpAny_askSetting (ah ?_)
 dsimp only
 simp only[newObj]
 refine af (wpAny_alloc (ah ?_))
 exact ah h
end
def gF:∀{vs:List Value}{ss:List Str},StrsAre vs ss->∀(i:Nat) (v:Value),vs[i]?=some v->∃t,v=.str (ss.getD i ⟨#[]⟩) t
 |_,_,.nil,i,v,h=>by simp at h
 |_,_,.cons y t hr,0,v,h=>by
  simp at h
  exact⟨t,by rw[<-h];rfl⟩
 |_,_,.cons y t hr,i+1,v,h=>by
  simp only[List.getElem?_cons_succ]at h
  obtain⟨u,e⟩:=gF hr i v h
  exact⟨u,by rw[e];rfl⟩
def boot_set:bootBuiltins "set"=some (.type "set"):=by decide +kernel
def dP(P:Program)(w:World)(a:Addr)(us:List Str):HO:=.ext (az P w a us)
section
variable{X:Cx}
def ag.draw{pins:List (Addr×Obj)}{σ:St}{H:Hp}{s:Shared}(I:ag X pins σ H s)(d:Drawn):ag X pins σ H {s with drawn:=d}:=
 ⟨I.ok,I.os,I.bare,I.base,I.loc,I.cell,I.free,I.freeC,I.pin,I.hok,I.len⟩
def HD(P:Program)(w:World):List V->Hp->VK->Prop:=λxs H Q=>∃(a:Addr) (us:List Str),xs=[.ref a]/\H a=some (dP P w a us)/\us.length<64 /\
  ∀(ss:List Str) (l:Addr),ss.Perm us->sortedS ss=true->H l=none->Q (.ref l) (ar H l (.lst (ss.map V.str)))
theorem zL(hc:X.calm=true):aq X (.builtin "sorted") (HD X.prog X.w):=by
 intro pins s σ H xs us Q I r h
 obtain⟨a,uu,rfl,hq,h64,q⟩:=h
 obtain⟨u,rfl,rx⟩:=cR r
 cases rx
 have S:az X.prog X.w a uu s.heap:=(I.hok a _ hq).1
 refine MR (I.ok.hd hc) S h64 λh' d tk l out ss e hs hp hso hl le k=>?_
 refine⟨.ref l,_,(I.laid (t':=tk) (o:=.lst (ss.map V.str)) k le ?_).draw d,rfl,q ss l hp hso (I.hok.fresh le)⟩
 refine⟨?_,out,e,pS hs,hl⟩
 rw[ao,hp.length_eq]
 exact j9 (gc h64 (by decide))
def mX(x:Str)(n:Int):Str:=⟨(List.replicate n.toNat x.cps.toList).flatten.toArray⟩
def E4:R2:=λx y H Q=>∃(z:Str) (n:Int),x=.str z/\y=.int n/\z.length<=1000/\n<=1000 /\ -1000<=n/\Q (.str (mX z n)) H
def vQ(x:Array Nat):∀n (acc:Array Nat),((List.replicate n x).foldl (·++·) acc)=(acc.toList++(List.replicate n x.toList).flatten).toArray
 |0,acc=>by simp
 |n+1,acc=>by
  rw[gh,ia,vQ x n,gh,gg]
  simp
theorem Jf:cg X (binaryOp .Mult) E4:=by
 intro pins s σ H x y v u Q I rx ry h
 obtain⟨z,n,rfl,rfl,hz,n1,n0,q⟩:=h
 obtain⟨t,rfl⟩:=rx
 obtain⟨t',rfl⟩:=ry
 have fin:∀(w:Str) (k:Tok) (tk:Nat),w=mX z n->EP X pins σ Q (.str w k) {s with toks:=tk}:=λw k tk e=>⟨.str w,H,I.tok tk,⟨k,rfl⟩,by rw[e];exact q⟩
 have pos:∀m:Nat,m<=1000->z.length*m<=1000000:=λm hm=>Nat.mul_le_mul hz hm
 refine P.mul_str (by rw[g4 (by omega),g4 (by omega)];rfl) (λh1 _ h2=>?_) (λh1 _=>?_) ?_
 ·have:(2 ^ 63-1) / n>=1000:=by
   have h3:n<=1000:=n1
   have h4:0<n:=by omega
   rw[ge_iff_le,Int.le_ediv_iff_mul_le h4]
   omega
  omega
 ·show decide (_ > sizeLine)=false
  refine g4 (qj2_.mpr (bx (pos n.toNat (by omega)) (by decide)))
 ·split
  ·refine⟨by decide,fin _ _ _ ?_⟩
   unfold mX
   rw[show n.toNat=0 by omega]
   rfl
  ·split
   ·rename_i h1 h2
    refine fin _ _ s.toks ?_
    rw[Bool.or_eq_true]at h2
    unfold mX
    rcases h2 with h3|h3
    ·have:n=1:=by simpa using h3
     rw[this]
     simp
    ·have hz0:z.cps=#[]:=by
      have:z.cps.size=0:=by simpa[Str.length]using h3
      exact Array.size_eq_zero_iff.mp this
     have e:∀m:Nat,(List.replicate m ([]:List Nat)).flatten=[]:=λm=>by
      induction m with
      |zero=>rfl
      |succ m ih=>rw[gh,gg,ih];rfl
     obtain⟨zc⟩:=z
     have hz0:zc=#[]:=hz0
     subst hz0
     show(⟨#[]⟩:Str)=⟨(List.replicate n.toNat ([]:List Nat)).flatten.toArray⟩
     rw[e]
   ·refine⟨?_,fin _ _ _ ?_⟩
    ·show(List.foldl (λx1 x2=>x1++x2) #[] (List.replicate n.toNat z.cps)).size<=_
     rw[vQ,cy,b9,wJ]
     show 0+n.toNat*z.cps.toList.length<=_
     have:=pos n.toNat (by omega)
     rw[jj]at this
     have e:z.cps.toList.length=z.length:=by simp[Str.length]
     rw[e]
     exact bx (by omega) (show 1000000<=sizeLine by decide)
    ·unfold mX
     rw[vQ]
     simp
def DZ(K:W.Frag):V->Option Int->Option Int->Hp->VK->Prop:=λx lo hi H Q=>∃a xs,x=.ref a/\cu K H a xs/\∀p H',ax H H'->cu K H' p (fZ xs lo hi)->Q (.ref p) H'
def MT{prog:Program}{w:World}{A:Around}{E:Value->Shared->Prop}{s:Shared}{t sl:Addr}{items:Array Value}{vl vu:Value}{lo hi:Option Int}{Q:Value->Shared->Prop}(ht:IsTup s.heap t items)(hs:s.heap.IsSliceOf sl vl vu .none)(pl:IsPart vl lo)(pu:IsPart vu hi)
  (hw:HT.sIx items.size 0 lo=0/\HT.sIx items.size items.size hi=items.size) (h:Q (.ref t) s):wpAny (model prog w) A (getItem (.ref t) (.ref sl)) Q E s:=by
 obtain⟨os,hos,hcs,hds⟩:=id hs
 have hTs:s.TypeIs (.ref sl) "slice":=⟨os,hos,hcs⟩
 unfold getItem
 try with_reducible refine gb ?_
 first|refine af (ah ?_)|skip
 refine af (wpAny_sequenceKey ht.typeIs (by decide) ?_)
 refine af (wpAny_callSpecial?_slot (name:=Str.ofString "__getitem__") ht.typeIs PyProof.Rows.slot_tuple_getitem (ig PyProof.Rows.slot_tuple_getitem ht.typeIs entry_tuple_getitem ?_ (args_tuple_getitem _ _)))
 show wpAny _ _ (Builtin.Tuple.tupleItemsOf (.ref t) >>= _) _ _ s
 refine af (tupleItemsOf_ ht (af (wpAny_typeOf hTs ?_)))
 rw[if_pos (by decide)]
 refine af (HT.sliceApplied_gen hs pl pu ?_)
 rw[hw.1,hw.2]
 dsimp only
 rw[if_pos (by simp)]
 unfold Builtin.Tuple.tupleIsExact
 refine af (af (wpAny_typeOf ht.typeIs (ah ?_)))
 rw[if_pos (by decide)]
 exact af (wpAny_rule (ah ⟨_,rfl,ah h⟩))
def Ju{xs:List V}{lo hi:Option Int}(hw:HT.sIx xs.length 0 lo=0/\HT.sIx xs.length xs.length hi=xs.length):fZ xs lo hi=xs:=by
 unfold fZ
 rw[hw.1,hw.2,m_,Nat.sub_zero,ff]
def sl_tupW:n6 X (DZ X.K):=by
 intro pins s σ H x v vl vu lo hi sl Q I rx hs pl pu h
 obtain⟨a,xs,rfl,hx,q⟩:=h
 by_cases hw:HT.sIx xs.length 0 lo=0/\HT.sIx xs.length xs.length hi=xs.length
 ·cases rx
  obtain⟨its,r,ht,hz⟩:=I.tuple hx
  have hlen:its.toArray.size=xs.length:=by rw[cy];exact r.length.symm
  refine⟨"tuple",_,PyProof.Rows.slot_tuple_getitem.lookup,ht.typeIs,?_⟩
  exact MT ht hs pl pu (by rw[hlen];exact hw) ⟨.ref a,H,I,rfl,q a H (λ_ _ e=>e) (by rw[Ju hw];exact hx)⟩
 ·exact HM pins s σ H _ v vl vu lo hi sl Q I rx hs pl pu ⟨a,xs,rfl,hx,hw,λp np=>q p _ (λb o e=>by rw[bL (dQ e np)];exact e) (cu.of bA)⟩
end
def wP(f:Nat->List Nat):∀n,argBest (λi j=>decide (f i<f j)) n<=n/\∀j,j<=n->f (argBest (λi j=>decide (f i<f j)) n)<=f j
 |0=>⟨ba _,λj hj=>by rw[Nat.le_zero.mp hj];exact o8 _⟩
 |n+1=>by
  obtain⟨h1,h2⟩:=wP f n
  show(if decide (f (n+1)<f (argBest _ n))=true then n+1 else argBest _ n)<=n+1/\∀j,j<=n+1->f (if decide (f (n+1)<f (argBest _ n))=true then n+1 else argBest _ n)<=f j
  by_cases h:f (n+1)<f (argBest (λi j=>decide (f i<f j)) n)
  ·rw[if_pos (i_ h)]
   refine⟨ba _,λj hj=>?_⟩
   rcases m9 hj with z|z
   ·exact o7 (List.le_of_lt h) (h2 j (by omega))
   ·rw[z];exact o8 _
  ·rw[if_neg (λz=>h (dw z))]
   refine⟨by omega,λj hj=>?_⟩
   rcases m9 hj with z|z
   ·exact h2 j (by omega)
   ·rw[z];exact qZ_.mp h
def wQ(f:Nat->List Nat):∀n,argBest (λi j=>decide (f j<f i)) n<=n/\∀j,j<=n->f j<=f (argBest (λi j=>decide (f j<f i)) n)
 |0=>⟨ba _,λj hj=>by rw[Nat.le_zero.mp hj];exact o8 _⟩
 |n+1=>by
  obtain⟨h1,h2⟩:=wQ f n
  show(if decide (f (argBest _ n)<f (n+1))=true then n+1 else argBest _ n)<=n+1/\∀j,j<=n+1->f j<=f (if decide (f (argBest _ n)<f (n+1))=true then n+1 else argBest _ n)
  by_cases h:f (argBest (λi j=>decide (f j<f i)) n)<f (n+1)
  ·rw[if_pos (i_ h)]
   refine⟨ba _,λj hj=>?_⟩
   rcases m9 hj with z|z
   ·exact o7 (h2 j (by omega)) (List.le_of_lt h)
   ·rw[z];exact o8 _
  ·rw[if_neg (λz=>h (dw z))]
   refine⟨by omega,λj hj=>?_⟩
   rcases m9 hj with z|z
   ·exact h2 j (by omega)
   ·rw[z];exact qZ_.mp h
def qJ{l:List Str}{i:Nat}(h:i<l.length):l.getD i ⟨#[]⟩∈l:=by
 rw[j3,b_ h]
 exact jl h
def qH{l:List Str}{a:Str}(h:a∈l):∃j,j<l.length/\l.getD j ⟨#[]⟩=a:=by
 obtain⟨j,hj,e⟩:=qX1_.mp h
 exact⟨j,hj,by rw[j3,b_ hj];exact e⟩
section
variable{prog:Program}{w:World}{A:Around}{E:Value->Shared->Prop}{s:Shared}{l:Addr}{its:Array Value}{ss:List Str}
theorem zT{P:Nat->Value->Prop}(val:Nat->Str)(hval:∀i v,P i v->∃t,v=.str (val i) t):CmpOf prog w A .Lt P (λi j=>decide ((val i).cps.toList<(val j).cps.toList)):=λi j vi vj s Q E hi hj h=>by
 obtain⟨t,rfl⟩:=hval i vi hi
 obtain⟨u,rfl⟩:=hval j vj hj
 exact richCompare_gives (op:=.Lt) (typeIs_str s _ t) (typeIs_str s _ u) F.slot_str_lt F.entry_str_lt (F.args_str_lt_2 _ _) (gives_str_lt _ _ t u) (λx=>nomatch x) h
theorem zU{P:Nat->Value->Prop}(val:Nat->Str)(hval:∀i v,P i v->∃t,v=.str (val i) t):CmpOf prog w A .Gt P (λi j=>decide ((val j).cps.toList<(val i).cps.toList)):=λi j vi vj s Q E hi hj h=>by
 obtain⟨t,rfl⟩:=hval i vi hi
 obtain⟨u,rfl⟩:=hval j vj hj
 exact richCompare_gives (op:=.Gt) (typeIs_str s _ t) (typeIs_str s _ u) F.slot_str_gt F.entry_str_gt (F.args_str_gt_2 _ _) (gives_str_gt _ _ t u) (λx=>nomatch x) h
def Ck{Q:Value->Shared->Prop}(hl:s.heap.IsList l its)
  (h:∀s₂:Shared,s₂={s with heap:=s.heap.push {cls:=.type "list_iterator",data:=.fields #[.ref l,.int 0 0]}} ->
   (s₂.heap.IsListIter s.heap.objs.size l 0/\s₂.heap.IsList l its)->(∀b∈[s.heap.objs.size,l],b<s₂.heap.objs.size)->l≠s.heap.objs.size->Q (.ref s.heap.objs.size) s₂):
  wpAny (model prog w) A (pyIter (.ref l)) Q E s:=by
 have hlt:l<s.heap.objs.size:=by obtain⟨_,e,_⟩:=hl;exact bo e
 refine wpAny_pyIter_list hl (h _ rfl ⟨⟨_,b6 _ rfl,rfl,rfl⟩,hl.push _⟩ (λb hb=>?_) (cq hlt))
 show b<(s.heap.push _).objs.size
 rw[fm]
 simp only[List.mem_cons,List.not_mem_nil,or_false]at hb
 rcases hb with z|z
 ·rw[z];exact ku _
 ·rw[z];exact fo hlt
def JG{Q:Value->Shared->Prop}(hh:A.handled=none)(hl:s.heap.IsList l its)(hi:StrsAre its.toList ss)(hne:0<ss.length)
  (h:∀x t h' tk,x∈ss->(∀y∈ss,x.cps.toList<=y.cps.toList)->(∀b o,s.heap.get? b=some o->h'.get? b=some o)->Q (.str x t) {s with heap:=h',toks:=tk}):
  wpAny (model prog w) A (call (.builtin "min") [.ref l]) Q E s:=by
 have hsz:its.size=ss.length:=by rw[<-d9,gU hi]
 refine call_min_walk (Ck hl λs₂ e st hfp hlI=>?_)
 subst e
 refine⟨_,_,_,_,_,_,_,rfl,Walks.list (A:=A.in1) hh _ l hlI its,st,hfp,by omega,zT (λi=>ss.getD i ⟨#[]⟩) (λi v hv=>gF hi i v (by rw[d7];exact hv)),λv h' tk hP hk=>?_⟩
 obtain⟨t,rfl⟩:=gF hi _ v (by rw[d7];exact hP)
 obtain⟨b1,b2⟩:=wP (λi=>(ss.getD i ⟨#[]⟩).cps.toList) (its.size-1)
 refine h _ t h' tk (qJ (by omega)) (λy hy=>?_) (old_kept hk)
 obtain⟨j,hj,rfl⟩:=qH hy
 exact b2 j (by omega)
def JE{Q:Value->Shared->Prop}(hh:A.handled=none)(hl:s.heap.IsList l its)(hi:StrsAre its.toList ss)(hne:0<ss.length)
  (h:∀x t h' tk,x∈ss->(∀y∈ss,y.cps.toList<=x.cps.toList)->(∀b o,s.heap.get? b=some o->h'.get? b=some o)->Q (.str x t) {s with heap:=h',toks:=tk}):
  wpAny (model prog w) A (call (.builtin "max") [.ref l]) Q E s:=by
 have hsz:its.size=ss.length:=by rw[<-d9,gU hi]
 refine call_max_walk (Ck hl λs₂ e st hfp hlI=>?_)
 subst e
 refine⟨_,_,_,_,_,_,_,rfl,Walks.list (A:=A.in1) hh _ l hlI its,st,hfp,by omega,zU (λi=>ss.getD i ⟨#[]⟩) (λi v hv=>gF hi i v (by rw[d7];exact hv)),λv h' tk hP hk=>?_⟩
 obtain⟨t,rfl⟩:=gF hi _ v (by rw[d7];exact hP)
 obtain⟨b1,b2⟩:=wQ (λi=>(ss.getD i ⟨#[]⟩).cps.toList) (its.size-1)
 refine h _ t h' tk (qJ (by omega)) (λy hy=>?_) (old_kept hk)
 obtain⟨j,hj,rfl⟩:=qH hy
 exact b2 j (by omega)
end
section
variable{X:Cx}
theorem Cb(hc:X.calm=true):aq X (.builtin "min") (λxs H Q=>∃(p:Addr) (ss:List Str),xs=[.ref p]/\b5 X.K H p (ss.map V.str)/\0<ss.length/\∀x,x∈ss->(∀y∈ss,x.cps.toList<=y.cps.toList)->Q (.str x) H):=by
 intro pins s σ H xs us Q I r h
 obtain⟨p,ss,rfl,hq,hn,q⟩:=h
 obtain⟨u,rfl,rx⟩:=cR r
 cases rx
 obtain⟨its,rv,pl,hz⟩:=I.list hq
 refine JG (I.ok.hd hc) pl.isList (jN rv) hn λx t h' tk h1 h2 hk=>?_
 exact⟨.str _,H,I.kept hk,⟨t,rfl⟩,q _ h1 h2⟩
theorem Ca(hc:X.calm=true):aq X (.builtin "max") (λxs H Q=>∃(p:Addr) (ss:List Str),xs=[.ref p]/\b5 X.K H p (ss.map V.str)/\0<ss.length/\∀x,x∈ss->(∀y∈ss,y.cps.toList<=x.cps.toList)->Q (.str x) H):=by
 intro pins s σ H xs us Q I r h
 obtain⟨p,ss,rfl,hq,hn,q⟩:=h
 obtain⟨u,rfl,rx⟩:=cR r
 cases rx
 obtain⟨its,rv,pl,hz⟩:=I.list hq
 refine JE (I.ok.hd hc) pl.isList (jN rv) hn λx t h' tk h1 h2 hk=>?_
 exact⟨.str _,H,I.kept hk,⟨t,rfl⟩,q _ h1 h2⟩
end
section
variable{X:Cx}
def Jp{e st:Expr}{te tst:TE}{pos p2:Pos}(he:PE X e te)(hst:PE X st tst):PE X (.Subscript e (.Slice none none (some st) p2) pos) (yh X.K te tst):=by
 intro pins s σ H Q I h
 refine Subscript_ (bf (he pins s σ H _ I h) λv s1 ⟨x,H1,I1,r1,q1⟩=>?_)
 refine wpAny_Slice ?_
 rw[evalPart_none,evalPart_some]
 refine ah (ah (bf (hst pins s1 σ H1 _ I1 q1) λvs s2 ⟨y,H2,I2,r2,q2⟩=>?_))
 obtain⟨rfl,p,xs,rfl,hx,q⟩:=q2
 obtain⟨t,rfl⟩:=r2
 cases r1
 have I3:ag X pins σ H2 {s2 with heap:=s2.heap.push {cls:=.type "slice",data:=.fields #[.none,.none,.int (-1) t]}}:=I2.kept (t':=s2.toks) λb ob q=>ay _ q
 obtain⟨its,rv,pl,hz⟩:=I3.list hx
 show wpAny (model X.prog X.w) X.A (subscriptTail e (.Slice none none (some st) p2) (.ref p) (.ref s2.heap.objs.size)) (EP X pins σ Q) X.xe {s2 with heap:=s2.heap.push {cls:=.type "slice",data:=.fields #[.none,.none,.int (-1) t]}}
 refine tail_any (ops:=[.ref p,.ref s2.heap.objs.size]) pl.isList.typeIs slot_list_getitem.lookup ?_ (by with_unfolding_all rfl)
 refine wpAny_getItem_list_slice pl.isList (Heap.IsSliceOf.new ..) .none .none (.int (-1) t) (by decide) ?_ (by rw[cy,<-rv.length];exact hz)
 rw[zE]
 refine⟨.ref _,_,I3.laid (t':=s2.toks) (o:=.lst xs.reverse) (λb ob q=>ay _ q) (ba _) ?_,rfl,q _ (I3.hok.fresh (ba _))⟩
 exact⟨by rw[jn];exact hz,_,0,rv.reverse,b6 _ rfl⟩
end
end L2
namespace L2
open PySem PySem.Spec PyProof.Rows
open PySem PySem.Spec PyProof.Rows
section
variable{κ:Type}[DecidableEq κ]
def dW(kvs:List (κ×V))(k:κ):Option V:=(kvs.find? λkv=>decide (kv.1=k)).map (·.2)
def dH(kvs:List (κ×V))(k:κ)(v:V):List (κ×V):=
 if (kvs.any λkv=>decide (kv.1=k))=true then kvs.map (λkv=>if kv.1=k then(kv.1,v) else kv) else kvs++[(k,v)]
def qO{p:κ×V}{r:List (κ×V)}{k:κ}(e:p.1=k):dW (p::r) k=some p.2:=by simp[dW,List.find?_cons,e]
def qP{p:κ×V}{r:List (κ×V)}{k:κ}(e:¬ p.1=k):dW (p::r) k=dW r k:=by simp[dW,List.find?_cons,e]
def qQ(k:κ):∀kvs:List (κ×V),(kvs.any λkv=>decide (kv.1=k))=(dW kvs k).isSome
 |[]=>rfl
 |p::r=>by
  rw[iq]
  by_cases e:p.1=k
  ·simp only[qO e,decide_eq_true e,Bool.true_or,Option.isSome_some]
  ·rw[qP e,g4 e,o6];exact qQ k r
def tZ(kvs:List (κ×V))(k:κ)(v:V):(dH kvs k v).length<=kvs.length+1:=by
 unfold dH
 split
 ·rw[ao];omega
 ·rw[b9,ik,List.length_nil];omega
def JY{kvs:List (κ×V)}{k:κ}(v:V)(h:dW kvs k=none):dH kvs k v=kvs++[(k,v)]:=by
 unfold dH
 rw[qQ,h]
 exact if_neg (by decide)
def f9.isSome_eq{o:Option V}{u:Option Value}(r:f9 o u):o.isSome=u.isSome:=by
 cases o with
 |none=>cases u with
  |none=>rfl
  |some _=>exact(show False from r).elim
 |some _=>cases u with
  |none=>exact(show False from r).elim
  |some _=>rfl
def f9.getD{o:Option V}{u:Option Value}{d:V}{d':Value}(r:f9 o u)(rd:ai d d'):ai (o.getD d) (u.getD d'):=by
 cases o with
 |none=>cases u with
  |none=>exact rd
  |some _=>exact(show False from r).elim
 |some _=>cases u with
  |none=>exact(show False from r).elim
  |some _=>exact r
def KV.val{kvs:List (κ×V)}{vs:List (κ×Value)}(r:KV kvs vs)(k:κ):f9 (dW kvs k) (valueAt vs k):=by
 unfold KV at r
 induction r with
 |nil=>exact True.intro
 |@cons p q ps qs h t ih=>
  obtain⟨h1,h2⟩:=h
  by_cases e:p.1=k
  ·have e':q.1=k:=h1.symm.trans e
   have b:valueAt (q::qs) k=some q.2:=by simp[valueAt,List.find?_cons,e']
   rw[qO e,b];exact h2
  ·have e':¬ q.1=k:=λz=>e (h1.trans z)
   have b:valueAt (q::qs) k=valueAt qs k:=by simp[valueAt,List.find?_cons,e']
   rw[qP e,b];exact ih
def KV.any{kvs:List (κ×V)}{vs:List (κ×Value)}(r:KV kvs vs)(k:κ):(kvs.any λkv=>decide (kv.1=k))=vs.any λkv=>decide (kv.1=k):=by
 unfold KV at r
 induction r with
 |nil=>rfl
 |cons h t ih=>rw[iq,iq,ih,h.1]
def KV.repl{kvs:List (κ×V)}{vs:List (κ×Value)}(r:KV kvs vs)(k:κ){y:V}{u:Value}(ry:ai y u):
  KV (kvs.map λkv=>if kv.1=k then(kv.1,y) else kv) (vs.map λkv=>if kv.1=k then(kv.1,u) else kv):=by
 unfold KV at r ⊢
 induction r with
 |nil=>exact .nil
 |@cons p q ps qs h t ih=>
  rw[e9,e9]
  refine .cons ?_ ih
  obtain⟨h1,h2⟩:=h
  by_cases e:p.1=k
  ·rw[if_pos e,if_pos (h1.symm.trans e)];exact⟨h1,ry⟩
  ·rw[if_neg e,if_neg (λz=>e (h1.trans z))];exact⟨h1,h2⟩
def KV.put{kvs:List (κ×V)}{vs:List (κ×Value)}(r:KV kvs vs)(k:κ){y:V}{u:Value}(ry:ai y u):KV (dH kvs k y) (stored vs k u):=by
 unfold dH stored
 rw[r.any k]
 by_cases e:(vs.any λkv=>decide (kv.1=k))=true
 ·rw[if_pos e,if_pos e];exact r.repl k ry
 ·rw[if_neg e,if_neg e];exact Paired.snoc r ⟨rfl,ry⟩
def KV.length{kvs:List (κ×V)}{vs:List (κ×Value)}(r:KV kvs vs):kvs.length=vs.length:=Paired.length r
end
def jX{P:Program}{w:World}{k:av}{u:Value}(r:ai (kV k) u):(bO P w).is k u=true:=by
 cases k with
 |inl i=>obtain⟨t,e⟩:=(show ∃t,u=Value.int i t from r);subst e;exact Ma P w i t
 |inr x=>obtain⟨t,e⟩:=(show ∃t,u=Value.str x t from r);subst e;exact pW P w x t
def CI{P:Program}{w:World}:∀{ks:List av}{us:List Value},aj (ks.map kV) us->ItemsAre (bO P w) ks us
 |[],_,r=>by rw[my]at r;cases r;exact .nil
 |k::ks,_,r=>by
  rw[e9]at r
  cases r with
  |cons h t=>exact .cons (jX h) (CI t)
abbrev KT(H:Hp):List (List av×V)->List (List av×Addr×Value)->Prop:=Paired λp q=>p.1=q.1/\H q.2.1=some (.tup (p.1.map kV))/\ai p.2 q.2.2
def KT.val{H:Hp}{kvs:List (List av×V)}{xs:List (List av×Addr×Value)}(r:KT H kvs xs)(k:List av):f9 (dW kvs k) ((atKey xs k).map (·.2)):=by
 induction r with
 |nil=>exact True.intro
 |@cons p q ps qs h t ih=>
  obtain⟨h1,_,h2⟩:=h
  by_cases e:p.1=k
  ·have e':q.1=k:=h1.symm.trans e
   have b:atKey (q::qs) k=some q.2:=by simp[atKey,List.find?_cons,e']
   rw[qO e,b];exact h2
  ·have e':¬ q.1=k:=λz=>e (h1.trans z)
   have b:atKey (q::qs) k=atKey qs k:=by simp[atKey,List.find?_cons,e']
   rw[qP e,b];exact ih
def KT.repl{H:Hp}{kvs:List (List av×V)}{xs:List (List av×Addr×Value)}(r:KT H kvs xs)(k:List av){y:V}{u:Value}(ry:ai y u):
  KT H (kvs.map λkv=>if kv.1=k then(kv.1,y) else kv) (xs.map (putAt k u)):=by
 induction r with
 |nil=>exact .nil
 |@cons p q ps qs h t ih=>
  rw[e9,e9]
  refine .cons ?_ ih
  obtain⟨h1,h2,h3⟩:=h
  unfold putAt
  by_cases e:p.1=k
  ·rw[if_pos e,if_pos (h1.symm.trans e)];exact⟨h1,h2,ry⟩
  ·rw[if_neg e,if_neg (λz=>e (h1.trans z))];exact⟨h1,h2,h3⟩
def KT.put{H:Hp}{kvs:List (List av×V)}{xs:List (List av×Addr×Value)}(r:KT H kvs xs)(k:List av){b:Addr}{y:V}{u:Value}(hb:H b=some (.tup (k.map kV)))(ry:ai y u):
  KT H (dH kvs k y) (storedH xs k b u):=by
 have e:(kvs.any λkv=>decide (kv.1=k))=(atKey xs k).isSome:=by
  rw[qQ,(r.val k).isSome_eq,qx]
 unfold dH storedH
 rw[e]
 by_cases q:(atKey xs k).isSome=true
 ·rw[if_pos q,if_pos q];exact r.repl k ry
 ·rw[if_neg q,if_neg q];exact Paired.snoc r ⟨rfl,hb,ry⟩
def KT.keeps{H H':Hp}{kvs:List (List av×V)}{xs:List (List av×Addr×Value)}(r:KT H kvs xs)(ht:∀b ys,H b=some (.tup ys)->H' b=some (.tup ys)):KT H' kvs xs:=
 Paired.mapP r λ_ _ z=>⟨z.1,ht _ _ z.2.1,z.2.2⟩
section
variable{P:Program}{w:World}{H:Hp}{h:Heap}{a:Addr}
def AR{u:HO}(ok:du P w H h)(e:Rd H a u):aw P w H h a u:=e.ok ok
def jY{kvs:List (av×V)}(ok:du P w H h)(e:Rd H a (.dK kvs)):kvs.length<=sizeLine/\(a==sysModules)=false/\∃vs,KV kvs vs/\h.DictOf (bO P w) a vs:=
 show aw P w H h a (.dK kvs) from AR ok e
def ym{kvs:List (av×V)}(ok:du P w H h)(e:H a=some (.dK kvs)):kvs.length<=sizeLine/\(a==sysModules)=false/\∃vs,KV kvs vs/\h.DictOf (bO P w) a vs:=jY ok (.inl e)
def mG{ks:List av}(ok:du P w H h)(e:H a=some (.tup (ks.map kV))):(tupleKind (bO P w)).is h ks a:=by
 obtain⟨_,its,r,o,h1,h2,n,h3⟩:=(show aw P w H h a (.tup (ks.map kV)) from ok a _ e)
 exact⟨o,its.toArray,n,h1,h2,h3,by simpa using CI r⟩
def kW{kvs:List (List av×V)}(ok:du P w H h)(e:Rd H a (.dT kvs)):kvs.length<=sizeLine/\(a==sysModules)=false /\
  ∃xs,KT H kvs xs/\h.DictOfH (tupleKind (bO P w)) a xs:=by
 obtain⟨z,y,xs,r,o,es,ep,h1,h2,h3,h4,h5⟩:=(show aw P w H h a (.dT kvs) from AR ok e)
 refine⟨z,y,xs,r,o,es,ep,h1,h2,h3,h4,λx hx=>?_,h5⟩
 have all:∀{l:List (List av×V)} {m:List (List av×Addr×Value)},KT H l m->∀x∈m,(tupleKind (bO P w)).is h x.1 x.2.1:=by
  intro l m q
  induction q with
  |nil=>intro x hx;exact nomatch hx
  |@cons p q ps qs hq t ih=>
   intro x hx
   rcases qx_.mp hx with e|hx
   ·subst e
    exact mG ok (by rw[<-hq.1];exact hq.2.1)
   ·exact ih x hx
 exact all r x hx
def Fo{kvs:List (List av×V)}(ok:du P w H h)(e:H a=some (.dT kvs)):kvs.length<=sizeLine/\(a==sysModules)=false /\
  ∃xs,KT H kvs xs/\h.DictOfH (tupleKind (bO P w)) a xs:=kW ok (.inl e)
end
def jM(H:Hp)(a:Addr)(y:V)(r:Option V):Prop:=
 (∃kvs k,Rd H a (.dK kvs)/\y=kV k/\r=dW kvs k)\/∃kvs k b,Rd H a (.dT kvs)/\y=.ref b/\H b=some (.tup (k.map kV))/\r=dW kvs k
def nq(H:Hp)(a:Addr)(y v:V)(H':Hp):Prop:=
 (∃kvs k,H a=some (.dK kvs)/\y=kV k/\kvs.length<sizeLine/\H'=ar H a (.dK (dH kvs k v))) \/
 ∃kvs k b,H a=some (.dT kvs)/\y=.ref b/\H b=some (.tup (k.map kV))/\kvs.length<sizeLine/\H'=ar H a (.dT (dH kvs k v))
def nq.k{H:Hp}{a:Addr}{kvs:List (av×V)}{k:av}{v:V}(e:H a=some (.dK kvs))(hl:kvs.length<sizeLine):nq H a (kV k) v (ar H a (.dK (dH kvs k v))):=.inl ⟨kvs,k,e,rfl,hl,rfl⟩
section
variable{X:Cx}{pins:List (Addr×Obj)}{σ:St}{H:Hp}{s:Shared}{a:Addr}{y v:V}{u r:Value}{o:Option V}{A:Around}{E:Value->Shared->Prop}
def Lx{Q:Value->Shared->Prop}(hu:A.units+1<cLine)(I:ag X pins σ H s)(g:jM H a y (some v))(ry:ai y u)(h:∀w' s',ag X pins σ H s'->ai v w'->Q w' s'):
  wpAny (model X.prog X.w) A (getItem (.ref a) u) Q E s:=by
 rcases g with⟨kvs,k,e,ey,l⟩|⟨kvs,k,b,e,ey,eb,l⟩
 ·subst ey
  obtain⟨z,hd,vs,rel,dd⟩:=jY I.hok e
  obtain⟨w',hw,rw'⟩:=f9.some_of (v:=v) (o:=valueAt vs k) (by rw[l];exact rel.val k)
  exact wpAny_getItem_of (jX ry) dd.mapOf hw (h w' _ (I.tok _) rw')
 ·subst ey
  cases (show u=Value.ref b from ry)
  obtain⟨z,hd,xs,rel,dd⟩:=kW I.hok e
  obtain⟨w',hw,rw'⟩:=f9.some_of (v:=v) (o:=(atKey xs k).map (·.2)) (by rw[l];exact rel.val k)
  obtain⟨p,hp,hp2⟩:=qg1_.mp hw
  refine wpAny_getItem_heap (tupleKind_room_in1 hu) (mG I.hok eb) dd hp ?_
  rw[hp2]
  exact h w' _ (I.tok _) rw'
def Dx{Q:Value->Shared->Prop}(hu:A.units+1<cLine)(I:ag X pins σ H s)(g:jM H a y o)(ry:ai y u)(h:∀s',ag X pins σ H s'->Q (.bool o.isSome) s'):
  wpAny (model X.prog X.w) A (compareOp .In u (.ref a)) Q E s:=by
 rcases g with⟨kvs,k,e,ey,l⟩|⟨kvs,k,b,e,ey,eb,l⟩
 ·subst ey
  obtain⟨z,hd,vs,rel,dd⟩:=jY I.hok e
  refine wpAny_in_of (jX ry) hd dd.mapOf ?_
  rw[<-(rel.val k).isSome_eq,<-l]
  exact h _ (I.tok _)
 ·subst ey
  cases (show u=Value.ref b from ry)
  obtain⟨z,hd,xs,rel,dd⟩:=kW I.hok e
  refine wpAny_in_heap (tupleKind_room_in1 hu) (mG I.hok eb) hd dd ?_
  have q:=(rel.val k).isSome_eq
  rw[qx]at q
  rw[<-q,<-l]
  exact h _ (I.tok _)
def Jv{Q:Value->Shared->Prop}(hu:A.units+1<cLine)(I:ag X pins σ H s)(g:jM H a y o)(ry:ai y u)(h:∀s',ag X pins σ H s'->Q (.bool (!o.isSome)) s'):
  wpAny (model X.prog X.w) A (compareOp .NotIn u (.ref a)) Q E s:=by
 rcases g with⟨kvs,k,e,ey,l⟩|⟨kvs,k,b,e,ey,eb,l⟩
 ·subst ey
  obtain⟨z,hd,vs,rel,dd⟩:=jY I.hok e
  refine wpAny_notIn_of (jX ry) hd dd.mapOf ?_
  rw[<-(rel.val k).isSome_eq,<-l]
  exact h _ (I.tok _)
 ·subst ey
  cases (show u=Value.ref b from ry)
  obtain⟨z,hd,xs,rel,dd⟩:=kW I.hok e
  refine wpAny_notIn_heap (tupleKind_room_in1 hu) (mG I.hok eb) hd dd ?_
  have q:=(rel.val k).isSome_eq
  rw[qx]at q
  rw[<-q,<-l]
  exact h _ (I.tok _)
def wO{h':Heap}{t':Nat}{ob:HO}(I:ag X pins σ H s)(mu:t_ (H a))(hs:Heap.SameBut a s.heap h')(he:∃q,h'.get? a=some q)(new:aw X.prog X.w (ar H a ob) h' a ob):
  ag X pins σ (ar H a ob) {s with heap:=h',toks:=t'}:=
 I.write (x:=a) (e:=a) mu (.inl rfl) (λb q hb z=>(hs.2 b hb).trans z) he new
def Al{P:Program}{w:World}{H':Hp}{h':Heap}{kvs:List (av×V)}{vs:List (av×Value)}(z:kvs.length<=sizeLine)(hd:(a==sysModules)=false)(rel:KV kvs vs)(dd:h'.DictOf (bO P w) a vs):
  aw P w H' h' a (.dK kvs):=⟨z,hd,vs,rel,dd⟩
def Ly{H':Hp}{Q:Unit->Shared->Prop}(hu:A.units+1<cLine)(I:ag X pins σ H s)(g:nq H a y v H')(ry:ai y u)(rv:ai v r)(h:∀s',ag X pins σ H' s'->Q () s'):
  wpAny (model X.prog X.w) A (setItem (.ref a) u r) Q E s:=by
 rcases g with⟨kvs,k,e,ey,l,eH⟩|⟨kvs,k,b,e,ey,eb,l,eH⟩
 ·subst ey eH
  obtain⟨z,hd,vs,rel,dd⟩:=ym I.hok e
  have hz:vs.length<=sizeLine:=by rw[<-rel.length];exact z
  have hl:(dH kvs k v).length<=sizeLine:=by have:=tZ kvs k v;omega
  refine wpAny_setItem_pairs (hsz:=hz) (jX ry) dd λh' dd' hs=>h _ ?_
  have he:∃q,h'.get? a=some q:=let ⟨q,_,_,hq,_⟩:=dd';⟨q,hq⟩
  exact wO I (by rw[e];exact True.intro) hs he (Al hl hd (rel.put k rv) dd')
 ·subst ey eH
  cases (show u=Value.ref b from ry)
  obtain⟨z,hd,xs,rel,dd⟩:=Fo I.hok e
  have hz:xs.length<=sizeLine:=by rw[<-Paired.length rel];exact z
  have hl:(dH kvs k v).length<=sizeLine:=by have:=tZ kvs k v;omega
  refine wpAny_setItem_heap (hsz:=hz) (tupleKind_room_in1 hu) (mG I.hok eb) dd λh' dd' hs=>h _ ?_
  obtain⟨q,es,ep,hq,h2,h3,h4,_,h5⟩:=dd'
  refine wO I (by rw[e];exact True.intro) hs ⟨q,hq⟩ ⟨hl,hd,_,(rel.put k eb rv).keeps λc ys ec=>?_,q,es,ep,hq,h2,h3,h4,h5⟩
  rw[bL (FB ec e (λz=>nomatch z))]
  exact ec
end
section
variable{X:Cx}{pins:List (Addr×Obj)}{σ:St}{H:Hp}{s:Shared}{a:Addr}{kvs:List (av×V)}{k:av}{u:Value}{A:Around}{E:Value->Shared->Prop}
def Fn{Q:Value->Shared->Prop}(I:ag X pins σ H s)(e:Rd H a (.dK kvs))(h:∀t s',ag X pins σ H s'->Q (.int kvs.length t) s'):wpAny (model X.prog X.w) A (call (.builtin "len") [.ref a]) Q E s:=by
 obtain⟨z,hd,vs,rel,dd⟩:=jY I.hok e
 refine call_len_dict hd dd (by rw[<-rel.length];rw[sizeLine_eq]at z;omega) ?_
 rw[<-rel.length]
 exact h _ _ (I.tok _)
end
def L7{X:Cx}{pins:List (Addr×Obj)}{σ:St}{H:Hp}{s:Shared}{a:Addr}{y:V}{o:Option V}(I:ag X pins σ H s)(g:jM H a y o):s.TypeIs (.ref a) "dict":=by
 rcases g with⟨kvs,k,e,_,_⟩|⟨kvs,k,b,e,_,_,_⟩
 ·obtain⟨_,_,vs,_,dd⟩:=jY I.hok e
  exact dd.typeIs
 ·obtain⟨_,_,xs,_,dd⟩:=kW I.hok e
  exact dd.typeIs
def E9(td ty tv:TE):TS:=λD σ H=>tv σ H λv H1=>td σ H1 λx H2=>ty σ H2 λy H3=>∃a H4,x=.ref a/\nq H3 a y v H4/\D.nx σ H4
section
variable{X:Cx}{o i e value:Expr}{pos pos' tpos:Pos}{td ty tv:TE}
def Ip(hu:X.A.units+1<cLine)(ho:PE X o td)(hi:PE X i ty)(hv:PE X value tv)(hs:swapsWith value (some (.Subscript o i pos')) pos.line X.env=pure false):
  PS X (.Assign [.Subscript o i pos'] value pos) (E9 td ty tv):=by
 intro pins s σ H D I h
 refine wpAny_Assign_Subscript (bf (hv pins s σ H _ I h) λr s1 ⟨v,H1,I1,rv,q1⟩=>bf (ho pins s1 σ H1 _ I1 q1) λu s2 ⟨x,H2,I2,rx,q2⟩=>bf (hi pins s2 σ H2 _ I2 q2) λiv s3 ⟨y,H3,I3,ry,a,H4,ex,g,q3⟩=>?_) hs
 subst ex
 obtain rfl:u=Value.ref a:=rx
 exact Ly hu I3 g ry rv λs4 I4=>⟨σ,H4,I4,q3⟩
end
def rQ:List (TE×TE)->St->Hp->(List (V×V)->Hp->Prop)->Prop
 |[],_,H,Q=>Q [] H
 |(tk,tv)::r,σ,H,Q=>tk σ H λx H1=>tv σ H1 λy H2=>rQ r σ H2 λps H3=>Q ((x,y)::ps) H3
abbrev VV:List (V×V)->List (Value×Value)->Prop:=Paired λp q=>ai p.1 q.1/\ai p.2 q.2
def t8(X:Cx)(pos:Pos)(keys:List (Option Expr))(values:List Expr)(trs:List (TE×TE)):Prop:=
 ∀(pins:List (Addr×Obj)) (s:Shared) (σ:St) (H:Hp) (Q:List (V×V)->Hp->Prop),ag X pins σ H s->rQ trs σ H Q ->
  wpAny (model X.prog X.w) X.A (evalPairs (pairTrees keys values X.env pos)) (λvs s'=>∃ps H',ag X pins σ H' s'/\VV ps vs/\Q ps H') X.xe s
def Io{X:Cx}{pos:Pos}:t8 X pos [] [] []:=λpins s σ H Q I h=>pairTrees_nil_walk ⟨[],H,I,.nil,h⟩
def JS{X:Cx}{pos:Pos}{k v:Expr}{ks:List (Option Expr)}{vs:List Expr}{tk tv:TE}{trs:List (TE×TE)}(hk:PE X k tk)(hv:PE X v tv)(hr:t8 X pos ks vs trs):
  t8 X pos (some k::ks) (v::vs) ((tk,tv)::trs):=λpins s σ H Q I h=>
 pairTrees_cons_walk (bf (hk pins s σ H _ I h) λu s1 ⟨x,H1,I1,rx,q1⟩=>bf (hv pins s1 σ H1 _ I1 q1) λw2 s2 ⟨y,H2,I2,ry,q2⟩=>
  bf (hr pins s2 σ H2 _ I2 q2) λws s3 ⟨ps,H3,I3,rel,q3⟩=>⟨(x,y)::ps,H3,I3,.cons ⟨rx,ry⟩ rel,q3⟩)
def iA(kvs more:List (av×V)):List (av×V):=more.foldl (λacc kv=>dH acc kv.1 kv.2) kvs
def KV.merge:∀{more:List (av×V)}{rs:List (av×Value)}{kvs:List (av×V)}{vs:List (av×Value)},KV more rs->KV kvs vs->KV (iA kvs more) (merged vs rs):=by
 intro more rs kvs vs r
 unfold KV at r
 induction r generalizing kvs vs with
 |nil=>intro q;exact q
 |@cons p q ps qs h t ih=>
  intro r0
  have e:KV (dH kvs p.1 p.2) (stored vs q.1 q.2):=by
   have:=r0.put p.1 h.2
   rw[<-h.1];exact this
  exact ih e
def tU:∀(more kvs:List (av×V)),(iA kvs more).length<=kvs.length+more.length
 |[],kvs=>by show kvs.length<=kvs.length+0;omega
 |p::r,kvs=>by
  have h1:=tU r (dH kvs p.1 p.2)
  have h2:=tZ kvs p.1 p.2
  show(iA (dH kvs p.1 p.2) r).length<=_
  rw[ik];omega
def Cf{P:Program}{w:World}:∀{kvs:List (av×V)}{ws:List (Value×Value)},VV (kvs.map λkv=>(kV kv.1,kv.2)) ws->∃rs,Carries (bO P w) ws rs/\KV kvs rs
 |[],_,r=>by rw[my]at r;cases r;exact⟨[],True.intro,.nil⟩
 |p::kvs,_,r=>by
  rw[e9]at r
  cases r with
  |@cons a b as bs h t=>
   obtain⟨rs,c,q⟩:=Cf (P:=P) (w:=w) t
   obtain⟨b1,b2⟩:=b
   exact⟨(p.1,b2)::rs,⟨jX h.1,rfl,c⟩,.cons ⟨rfl,h.2⟩ q⟩
def Fc(trs:List (TE×TE)):TE:=λσ H Q=>∀p,H p=none->rQ trs σ (ar H p (.dK [])) λps H2=>H2 p=some (.dK [])/\∃kvs:List (av×V),ps=kvs.map (λkv=>(kV kv.1,kv.2))/\kvs.length<=15/\Q (.ref p) (ar H2 p (.dK (iA [] kvs)))
def Jo{X:Cx}{pos:Pos}{keys:List (Option Expr)}{values:List Expr}{trs:List (TE×TE)}(h:t8 X pos keys values trs)(hall:keys.all (·.isSome)=true)(hl:keys.length=values.length)(h0:keys≠[])
  (h15:keys.length<=15):PE X (.Dict keys values pos) (Fc trs):=by
 intro pins s σ H Q I q
 have hn:=I.hok.fresh (ba s.heap.objs.size)
 have I1:=I.laid (a:=s.heap.objs.size) (o:=.dK []) (h':=s.heap.push {cls:=.type "dict",data:=.dict #[]}) (t':=s.toks) (λ_ _ q=>ay _ q) (ba _) (BP s.heap I.big)
 refine wpAny_Dict_walk (knd:=bO X.prog X.w) hall hl h0 h15 (bf (h pins _ σ _ _ I1 (q _ hn)) λws s2 ⟨ps,H2,I2,rel,e,kvs,ep,lk,q2⟩=>?_)
 subst ep
 obtain⟨rs,c,rk⟩:=Cf (P:=X.prog) (w:=X.w) rel
 obtain⟨z,hd,vs0,r0,dd⟩:=ym I2.hok e
 cases r0
 refine⟨rs,c,dd,λh' dd' hs=>⟨.ref s.heap.objs.size,_,?_,rfl,q2⟩⟩
 have hz:(iA [] kvs).length<=sizeLine:=by
  have h1:=tU kvs []
  rw[List.length_nil]at h1
  rw[sizeLine_eq];omega
 have he:∃q,h'.get? s.heap.objs.size=some q:=let ⟨q,_,_,hq,_⟩:=dd';⟨q,hq⟩
 exact wO I2 (by rw[e];exact True.intro) hs he (Al hz hd (rk.merge .nil) dd')
structure M2 (X:Cx) (o:Expr) (m:Str) (apos:Pos) (e f:Expr) (cpos:Pos):Prop where
 base:attributeBase o m X.env (eval o X.env)=eval o X.env
 few:((backTo cpos (starEach [e,f] X.env)).all (λx=>!x.1)&&(backToKw cpos (keywordEach [] X.env)).all (λx=>x.1.isSome)
  && decide (([e,f]:List Expr).length+([]:List Keyword).length+(if ([]:List Keyword).isEmpty then 0 else 1)<30))=true
 line:(apos.endLine==cpos.line)=true
 trees:backTo cpos (starEach [e,f] X.env)=[(false,eval e X.env),(false,eval f X.env)]
def Df(H:Hp)(a:Addr):Prop:=(∃kvs,Rd H a (.dK kvs))\/∃kvs,Rd H a (.dT kvs)
def GG{X:Cx}{pins:List (Addr×Obj)}{σ:St}{H:Hp}{s:Shared}{a:Addr}(I:ag X pins σ H s)(d:Df H a):
  s.TypeIs (.ref a) "dict"/\(∀b,Value.ref a=.ref b->∃ob,s.heap.get? b=some ob/\ob.dict=none)/\(a==sysModules)=false:=by
 rcases d with⟨kvs,e⟩|⟨kvs,e⟩
 ·obtain⟨_,hd,vs,_,dd⟩:=jY I.hok e
  refine⟨dd.typeIs,λb q=>?_,hd⟩
  cases q
  obtain⟨ob,_,_,h1,h2,_⟩:=dd
  exact⟨ob,h1,h2.2.1⟩
 ·obtain⟨_,hd,xs,_,dd⟩:=kW I.hok e
  refine⟨dd.typeIs,λb q=>?_,hd⟩
  cases q
  obtain⟨ob,_,_,h1,h2,_⟩:=dd
  exact⟨ob,h1,h2.2.1⟩
section
variable{X:Cx}{pins:List (Addr×Obj)}{σ:St}{H:Hp}{s:Shared}{a:Addr}{y d:V}{u r:Value}{o:Option V}{A:Around}{E:Value->Shared->Prop}
theorem Gx{Q:Value->Shared->Prop}(hu:A.units+1<cLine)(I:ag X pins σ H s)(g:jM H a y o)(ry:ai y u)(rd:ai d r)(h:∀w' s',ag X pins σ H s'->ai (o.getD d) w'->Q w' s'):
  wpAny (model X.prog X.w) A (call (.builtin "dict.get") [.ref a,u,r]) Q E s:=by
 rcases g with⟨kvs,k,e,ey,l⟩|⟨kvs,k,b,e,ey,eb,l⟩
 ·subst ey
  obtain⟨z,hd,vs,rel,dd⟩:=jY I.hok e
  refine call_meetsIn PySem.F.slot_dict_get dd.typeIs PySem.F.entry_dict_get (PySem.F.args_dict_get_3 _ _ _) (meets_dict_get_default (bO X.prog X.w) a (jX ry) hd r) ⟨_,dd.mapOf,h _ _ (I.tok _) ?_⟩
  rw[l]
  exact(rel.val k).getD rd
 ·subst ey
  cases (show u=Value.ref b from ry)
  obtain⟨z,hd,xs,rel,dd⟩:=kW I.hok e
  refine call_meetsIn PySem.F.slot_dict_get dd.typeIs PySem.F.entry_dict_get (PySem.F.args_dict_get_3 _ _ _) (meetsH_dict_get_default (tupleKind (bO X.prog X.w)) a b hd r) ⟨tupleKind_room_in1 hu,k,xs,mG I.hok eb,dd,h _ _ (I.tok _) ?_⟩
  rw[l]
  exact(rel.val k).getD rd
end
def HQ(td ty tx:TE):TE:=λσ H Q=>td σ H λx H1=>∃a,x=.ref a/\Df H1 a/\ty σ H1 λy H2=>tx σ H2 λz H3=>∃o,jM H3 a y o/\Q (o.getD z) H3
section
variable{X:Cx}{o e f:Expr}{apos cpos:Pos}{td ty tx:TE}
theorem JL(hu:X.A.units+1<cLine)(ho:PE X o td)(he:PE X e ty)(hf:PE X f tx)(m:M2 X o "get" apos e f cpos):PE X (.Call (.Attribute o "get" apos) [e,f] [] cpos) (HQ td ty tx):=by
 intro pins s σ H Q I h
 refine wpAny_Call_method m.base m.few m.line PySem.F.plainAttrs_dict PySem.F.slot_dict_get PySem.F.type_dict_get (bf (ho pins s σ H _ I h) λu s1 ⟨x,H1,I1,rx,a,ex,d,q1⟩=>?_)
 subst ex
 obtain rfl:u=Value.ref a:=rx
 obtain⟨t1,t2,_⟩:=GG I1 d
 refine⟨t1,t2,?_⟩
 rw[m.trees]
 refine Calls.callWith_builtin rfl (Calls.evalArgs_plain (Calls.spliced_cons (bf (he pins s1 σ H1 _ I1 q1) λiv s2 ⟨y,H2,I2,ry,q2⟩=>
  Calls.spliced_cons (bf (hf pins s2 σ H2 _ I2 q2) λfv s3 ⟨z,H3,I3,rz,ov,g,q3⟩=>Calls.spliced_nil ?_))))
 exact Gx hu I3 g ry rz λw' s4 I4 rw'=>⟨_,H3,I4,rw',q3⟩
end
section
variable{κ:Type}[DecidableEq κ]
def KC{kvs:List (κ×V)}{k:κ}{v:V}(h:dW kvs k=some v):k∈kvs.map (·.1):=by
 have q:(kvs.any λkv=>decide (kv.1=k))=true:=by
  rw[qQ,h]
  all_goals rfl
 obtain⟨p,hp,e⟩:=qL_.mp q
 exact qf_.mpr ⟨p,hp,dw e⟩
end
end L2
namespace L2
open PySem PySem.Spec PyProof.Rows
def me(H:Hp)(a:Addr)(ob:Obj)(kvs:List (av×V)):Prop:=H a=some (.frz ob (.dK kvs))
def kP{kvs:List (av×V)}{vs:List (av×Value)}(r:KV kvs vs):kvs.length=vs.length:=Paired.length r
def Au:∀{kvs:List (av×V)}{vs:List (av×Value)}{i:Nat}{k:av}{v:V},KV kvs vs->kvs[i]?=some (k,v)->∃u,vs[i]?=some (k,u)/\ai v u
 |_,_,0,_,_,.cons (b:=b) r _,h=>by
  cases h
  obtain⟨e,r⟩:=r
  exact⟨b.2,by show some b=_;rw[show b=(b.1,b.2) from rfl,<-e],r⟩
 |_,_,i+1,_,_,.cons _ rs,h=>Au (i:=i) rs (by simpa using h)
def IW{k:av}{u:Value}(h:jW k u=true):ai (kV k) u:=by
 rcases gC h with⟨i,t,rfl,rfl⟩|⟨x,t,rfl,rfl⟩
 ·exact⟨t,rfl⟩
 ·exact⟨t,rfl⟩
section
variable{X:Cx}{pins:List (Addr×Obj)}{σ:St}{H:Hp}{s:Shared}{a:Addr}{ob:Obj}{kvs:List (av×V)}
def jS(I:ag X pins σ H s)(h:me H a ob kvs):s.heap.get? a=some ob/\(a==sysModules)=false/\kvs.length<=sizeLine/\∃vs es ep,KV kvs vs/\s.heap.DictAt (bO X.prog X.w) a vs ep/\ob.data=.dict es ep:=by
 obtain⟨e,hl,hs,vs,r,o,es,ep,e',x1,x2,x3⟩:=(show aw X.prog X.w H s.heap a (.frz ob (.dK kvs)) from I.hok a _ h)
 rw[e]at e'
 cases e'
 exact⟨e,hs,hl,vs,es,ep,r,⟨ob,es,e,x1,x2,x3⟩,x2⟩
end
def xx(a:Addr)(ob:Obj)(kvs:List (av×V)):It:=
 ⟨λi H=>me H a ob kvs/\i<kvs.length,λi H x H'=>H'=H/\∃k v,kvs[i]?=some (k,v)/\x=kV k,λi H=>me H a ob kvs/\kvs.length<=i⟩
def Mg{P:Program}{w:World}{K:W.Frag}{tg:Expr}{a it:Addr}{ob:Obj}{kvs:List (av×V)}{es:Array DictEntry}{ep:Nat}(hep:ob.data=.dict es ep):
  jL P w K tg (xx a ob kvs) [it] it (λi h=>h.IsKeyIter it a i kvs.length ep) where
 mem:=by simp
 obj:=λi h st b hb=>by
  have e:b=it:=by simpa using hb
  subst e
  obtain⟨o,e,c,d⟩:=st
  exact⟨o,e,λv z=>by rw[d]at z;cases z⟩
 keep:=λi h h' st k=>st.at λo e=>k it (by simp) o e
 item:=by
  intro X hP hw hK hc i pins s σ H E I hf st hg
  subst hP hw hK
  obtain⟨hz,hi⟩:=hg
  obtain⟨e,hs,hl,vs,es',ep',r,dd,hd'⟩:=jS I hz
  rw[hep]at hd'
  cases hd'
  obtain⟨f0,f1,f2,f3,f4,f5⟩:=hf it (by simp)
  obtain⟨⟨k,v⟩,hx⟩:∃p,kvs[i]?=some p:=⟨kvs[i],by simp[hi]⟩
  obtain⟨u,hu,ru⟩:=Au r hx
  have st':s.heap.IsKeyIter it a i vs.length ep:=by rw[<-kP r];exact st
  refine wpAny_pyNext_dict_item st' dd hu λkey h' hkey hit' sb=>?_
  have I1:ag X pins σ H {s with heap:=h'}:=I.turned (t':=s.toks) (λb o hb e=>(sb.2 b hb).trans e) f0 f1 f3 f4 f5
  obtain⟨o,e,c,d⟩:=id hit'
  exact⟨key,rfl,mO (s:={s with heap:=h'}) e c d (by decide) ⟨kV k,H,I1,IW hkey,⟨rfl,k,v,hx,rfl⟩,by rw[kP r];exact hit',λb hb=>(hf b hb).1⟩⟩
 done:=by
  intro X hP hw hK hc i pins s σ H E I hf st hg
  subst hP hw hK
  obtain⟨hz,hi⟩:=hg
  obtain⟨e,hs,hl,vs,es',ep',r,dd,hd'⟩:=jS I hz
  rw[hep]at hd'
  cases hd'
  obtain⟨f0,f1,f2,f3,f4,f5⟩:=hf it (by simp)
  have st':s.heap.IsKeyIter it a i vs.length ep:=by rw[<-kP r];exact st
  have hn:vs[i]?=none:=kc (by rw[<-kP r];exact hi)
  exact wpAny_pyNext_dict_end (I.ok.hd hc) st' dd hn λh' eb=>⟨rfl,I.turned (t':=s.toks) (λb o hb e=>eb b o hb e) f0 f1 f3 f4 f5⟩
 self:=λ_ _ _ _ _ st h=>wpAny_pyIter_keyiter st h
def zI{prog:Program}{w:World}:∀{kvs:List (av×Value)}{us:List Str}{acc:Array Value},kvs.map (·.1)=us.map Sum.inr ->
  ItemsOf (λi v=>∃k x,kvs[i]?=some (k,x)/\(bO prog w).is k v=true) acc kvs.length->StrsAre acc.toList us:=by
 intro kvs us acc hk h
 obtain⟨hn,hp⟩:=h
 have key:∀(us:List Str) (l:List Value) (kvs:List (av×Value)),kvs.map (·.1)=us.map Sum.inr->l.length=kvs.length->(∀(j:Nat) (v:Value),l[j]?=some v->∃k x,kvs[j]?=some (k,x)/\(bO prog w).is k v=true)->StrsAre l us:=by
  intro us
  induction us with
  |nil=>
   intro l kvs hk hl _
   have:kvs=[]:=by simpa using hk
   subst this
   have:l=[]:=jk hl
   subst this
   exact .nil
  |cons y ys ih=>
   intro l kvs hk hl hp
   cases kvs with
   |nil=>simp at hk
   |cons p kvs=>
    cases l with
    |nil=>simp at hl
    |cons v l=>
     simp only[List.map_cons,List.cons.injEq]at hk
     obtain⟨k,x,e,q⟩:=hp 0 v rfl
     have e:p=(k,x):=by simpa using e
     subst e
     have hk1:k=Sum.inr y:=hk.1
     subst hk1
     rcases gC (show jW (Sum.inr y) v=true from q) with⟨i,t,z,_⟩|⟨z,t,e1,rfl⟩
     ·cases z
     ·cases e1
      exact .cons _ _ (ih l kvs hk.2 (by simpa using hl) λj v hj=>hp (j+1) v hj)
 refine key us acc.toList kvs hk (by simpa using hn) λj v hj=>hp j v (by simpa using hj)
section
variable{prog:Program}{w:World}{A:Around}{E:Value->Shared->Prop}{s:Shared}{a:Addr}{us:List Str}
def HN:isSubtype (.type "dict") (.type "dict")=pure true:=by rw[isSubtype_type];kernel_rfl
theorem Lj{Q:Bool->Shared->Prop}(ht:s.TypeIs (.ref a) "dict")(h:Q false s):wpAny (model prog w) A (Builtin.List.listLengthHint (.ref a)) Q E s:=by
 unfold Builtin.List.listLengthHint
 refine af (wpAny_specialOf ht PySem.F.slot_dict_len.lookup ?_)
 have e1:splitId "dict.__len__"=some ("dict","__len__"):=by decide +kernel
 dsimp only
 rw[e1]
 dsimp only
 refine af (wpAny_isInstance ht HN ?_)
 simp only[Bool.not_true,Bool.false_eq_true,if_false]
 refine wpAny_ite ?_
 rw[if_pos (by decide +kernel)]
 refine af (wpAny_typeOf ht ?_)
 exact ah h
theorem M0{kvs:List (av×Value)}{ep:Nat}{Q:List Value->Shared->Prop}(hh:A.handled=none)(hsm:(a==sysModules)=false)(S:s.heap.DictAt (bO prog w) a kvs ep)(hks:kvs.map (·.1)=us.map Sum.inr)(hl:us.length<=sizeLine)
  (hQ:∀h' d tk (acc:List Value) vs,StrsAre acc vs->vs.Perm us->s.heap.objs.size<h'.objs.size->(∀b o,s.heap.get? b=some o->h'.get? b=some o)->Q acc {s with heap:=h',drawn:=d,toks:=tk}):
  wpAny (model prog w) A (collect (.ref a)) Q E s:=by
 have alt:a<s.heap.objs.size:=S.lt_size
 have hkl:kvs.length=us.length:=by have:=congrArg List.length hks;simpa using this
 unfold collect
 refine af (wpAny_runValue (jz F.entry_proto_collect ?_))
 rw[fc F.plain_proto_collect _]
 show wpAny _ A.in1 (newList [] >>= λl=>again (.builtin "list.__iadd__" ⟨[l,.ref a],[]⟩)) _ _ s
 refine af (jg ?_ (by size_fits))
 refine ah ⟨plainId_quiet F.plain_list_iadd _,jz F.entry_list_iadd ?_⟩
 rw[fc F.plain_list_iadd _]
 show wpAny _ A.in1 (Builtin.List.listExtendWith (.ref s.heap.objs.size) (.ref a) (.ref s.heap.objs.size)) _ _ _
 unfold Builtin.List.listExtendWith
 have S1:=S.push {cls:=.type "list",data:=.seq ([]:List Value).toArray}
 have ht:Shared.TypeIs {s with heap:=s.heap.push {cls:=.type "list",data:=.seq ([]:List Value).toArray}} (.ref a) "dict":=S1.dictOf.typeIs
 refine af (wpAny_typeOf ht ?_)
 have h1:Builtin.List.listSameRef (.ref s.heap.objs.size) (.ref a)=false:=by simp[Builtin.List.listSameRef];exact gj alt
 have h2:(Value.type "dict"==Value.type "list")=false:=by decide
 have h3:(Value.type "dict"==Value.type "tuple")=false:=by decide
 simp only[h1,h2,h3,Bool.or_false,Bool.false_eq_true,if_false]
 refine af (wpAny_pyIter_dict hsm S1 ?_)
 generalize hh':((s.heap.push {cls:=.type "list",data:=.seq ([]:List Value).toArray}).push {cls:=.type "dict_keyiterator",data:=.fields #[.ref a,.int 0 0,.int kvs.length 0,.int ep 0]})=h'
 have sz1:(s.heap.push {cls:=.type "list",data:=.seq ([]:List Value).toArray}).objs.size=s.heap.objs.size+1:=fm ..
 have kp:∀b o,(s.heap.push {cls:=.type "list",data:=.seq ([]:List Value).toArray}).get? b=some o->h'.get? b=some o:=λb o e=>by rw[<-hh'];exact ay _ e
 have ht':Shared.TypeIs {s with heap:=h'} (.ref a) "dict":=by
  obtain⟨o,e,c⟩:=ht
  exact⟨o,kp _ _ e,c⟩
 have st0:h'.IsKeyIter (s.heap.objs.size+1) a 0 kvs.length ep/\h'.DictAt (bO prog w) a kvs ep:=by
  refine⟨⟨{cls:=.type "dict_keyiterator",data:=.fields #[.ref a,.int 0 0,.int kvs.length 0,.int ep 0]},?_,rfl,rfl⟩,S1.keep kp⟩
  rw[<-hh',<-sz1]
  exact b6 _ rfl
 rw[sz1]
 refine af (gb (Lj ht' ?_))
 have hA:A.in1.handled=none:=by simp[hh]
 have W:=(Walks.dictKeys (prog:=prog) (w:=w) (A:=A.in1) (knd:=bO prog w) hA (s.heap.objs.size+1) a (λz=>absurd alt (by rw[z];exact qj2_.mpr (gf _))) kvs ep).toS
 refine wpAny_ite ?_
 rw[if_pos (by decide +kernel)]
 refine af (wpAny_rule ?_)
 have g0:h'.get? s.heap.objs.size=some {cls:=.type "list",data:=.seq ([]:List Value).toArray}:=kp _ _ (b6 _ rfl)
 have nf:s.heap.objs.size∉[s.heap.objs.size+1,a]:=λm=>by
  simp only[List.mem_cons,List.not_mem_nil,or_false]at m
  rcases m with z|z
  ·omega
  ·rw[<-z]at alt;exact fg _ alt
 refine af ?_
 show wpAny _ A.in1 (updateSeq s.heap.objs.size (·.push .none) >>= λ_=>updateSeq s.heap.objs.size (·.pop)) _ _ _
 refine af (wpAny_updateSeq g0 rfl ?_)
 have g1:=j4 (Obj.mapSeq (·.push Value.none)) g0 rfl
 refine wpAny_updateSeq g1 rfl ?_
 have g2:=j4 (Obj.mapSeq (·.pop)) g1 rfl
 have oth:∀b o,b≠s.heap.objs.size->h'.get? b=some o->((h'.update s.heap.objs.size (Obj.mapSeq (·.push Value.none))).update s.heap.objs.size (Obj.mapSeq (·.pop))).get? b=some o:=
  λb o hb e=>(jq _ _ (Ne.symm hb)).trans ((jq _ _ (Ne.symm hb)).trans e)
 refine ah ⟨plainId_quiet F.plain_extend_loop _,codeAny_extend_loopS W (by rw[hkl];exact hl) _ nf _ kvs.length 0 _ _ _ rfl (d6 _)
  (W.frame 0 {s with heap:=h'} _ s.toks st0 (ba _) λb hb o e=>oth b o (λz=>nf (z▸hb)) e) g2 (ItemsOf.nil _) λs' acc' c' hm g' hacc=>?_⟩
 show wpAny _ A (load s.heap.objs.size >>= _) _ _ s'
 refine af (wpAny_load g' ?_)
 have hs:=zI hks hacc
 obtain⟨h'',g'',d'',tk'',os''⟩:=s'
 have e1:g''=s.gens:=hm.gens
 have e2:os''=s.os:=hm.os
 subst e1 e2
 refine ah (hQ h'' d'' tk'' acc'.toList us hs (List.Perm.refl _) (bo g') λb o e=>hm.heap b o (λm=>?_) (oth b o (cq (bo e)) (kp b o (ay _ e))))
 have lt:=bo e
 simp only[List.mem_cons,List.not_mem_nil,or_false]at m
 rcases m with m|m
 ·rw[m]at lt;exact fg _ lt
 ·rw[m]at lt;exact absurd lt (qj2_.mpr (gf _))
def MY{kvs:List (av×Value)}{ep:Nat}{Q:Value->Shared->Prop}(hh:A.handled=none)(hsm:(a==sysModules)=false)(S:s.heap.DictAt (bO prog w) a kvs ep)(hks:kvs.map (·.1)=us.map Sum.inr)(h64:us.length<64)
  (h:∀h' d tk (l:Addr) (out:List Value) (ss:List Str) (e:Nat),StrsAre out ss->ss.Perm us->sortedS ss=true->h'.get? l=some (seqObj "list" out.toArray e)->s.heap.objs.size<=l->(∀b o,s.heap.get? b=some o->h'.get? b=some o) ->
   Q (.ref l) {s with heap:=h',drawn:=d,toks:=tk}):wpAny (model prog w) A (call (.builtin "sorted") [.ref a]) Q E s:=by
 refine Calls.call_function_entry kind_sorted plain_sorted entry_sorted (args_sorted1 _) ?_
 unfold Builtin.«sorted»
 refine af (m:=checkCount "sorted" 1 1 _) (ah ?_)
 refine af (M0 (by simp[hh]) hsm S hks (j9 (gc h64 (by decide))) λh1 d tk acc vs hs hp le kp=>?_)
 have hlen:acc.length<64:=by rw[gU hs,hp.length_eq];exact h64
 refine af (wpAny_newList ?_ (j9 (gc hlen (by decide))))
 have hoL:(h1.push (seqObj "list" acc.toArray 0)).get? h1.objs.size=some (seqObj "list" acc.toArray 0):=b6 _ rfl
 refine af (gb (ig slot_list_sort ⟨_,hoL,rfl⟩ entry_list_sort (list_sort_treeK strKind_oneLt hoL hs.keysOf (λv₁ v₂ rest e=>keyKind_strs (by rw[<-e];exact hs)) hlen λst' a1 a2=>⟨_,rfl,?_⟩) (args_list_sort _)))
 obtain⟨ss',b1,b2,b3⟩:=sorted_out_str hs a1 a2
 obtain⟨e,he⟩:=sortedHeap_at (out:=(arrOf st').map (·.2)) hoL
 refine ah ⟨_,rfl,h _ _ _ _ ((arrOf st').map (·.2)).toList ss' e b1 (b2.trans hp) b3 (by rw[ng];exact he) (j9 le) λb o q=>?_⟩
 have lt:=bo (kp b o q)
 rw[sortedHeap_old (cq lt) (by rw[fm];exact fo lt)]
 exact ay _ (kp b o q)
end
section
variable{X:Cx}
def HC:List V->Hp->VK->Prop:=λxs H Q=>∃(a:Addr) (ob:Obj) (kvs:List (av×V)) (us:List Str),xs=[.ref a]/\me H a ob kvs/\kvs.map (·.1)=us.map Sum.inr/\us.length<64 /\
  ∀(ss:List Str) (l:Addr),ss.Perm us->sortedS ss=true->H l=none->Q (.ref l) (ar H l (.lst (ss.map V.str)))
def rL:∀{kvs:List (av×V)}{vs:List (av×Value)},KV kvs vs->kvs.map (·.1)=vs.map (·.1)
 |[],_,.nil=>rfl
 |_::_,_,.cons r rs=>by rw[e9,e9,r.1,rL rs]
theorem M9(hc:X.calm=true):aq X (.builtin "sorted") HC:=by
 intro pins s σ H xs us Q I r h
 obtain⟨a,ob,kvs,uu,rfl,hz,hk,h64,q⟩:=h
 obtain⟨u,rfl,rx⟩:=cR r
 cases rx
 obtain⟨e,hs,hl,vs,es,ep,rr,dd,hd⟩:=jS I hz
 refine MY (I.ok.hd hc) hs dd (by rw[<-rL rr];exact hk) h64 λh' d tk l out ss e hs hp hso hl le k=>?_
 refine⟨.ref l,_,(I.laid (t':=tk) (o:=.lst (ss.map V.str)) k le ?_).draw d,rfl,q ss l hp hso (I.hok.fresh le)⟩
 refine⟨?_,out,e,pS hs,hl⟩
 rw[ao,hp.length_eq]
 exact j9 (gc h64 (by decide))
end
section
variable{X:Cx}
def E3:List V->Hp->VK->Prop:=λxs H Q=>∃(a:Addr) (kvs:List (av×V)),xs=[.ref a]/\Rd H a (.dK kvs)/\Q (.int kvs.length) H
def Ms:aq X (.builtin "len") E3:=by
 intro pins s σ H xs us Q I r h
 obtain⟨a,kvs,rfl,e,q⟩:=h
 obtain⟨u,rfl,rx⟩:=cR r
 cases rx
 exact Fn I e λt s' I'=>⟨.int kvs.length,H,I',⟨t,rfl⟩,q⟩
def DR:R2:=λx y H Q=>∃a v,x=.ref a/\jM H a y (some v)/\Q v H
theorem IV(hu:X.A.units+1<cLine):md X DR:=by
 intro value slice pins s σ H x y v u Q I rx ry h hs
 obtain⟨a,z,rfl,g,q⟩:=h
 cases rx
 have hT:=L7 I g
 unfold subscriptTail
 refine af ?_
 rw[getitemInPython_of_ne hT.not_modules]
 refine af (wpAny_specialOf hT PySem.F.slot_dict_getitem.lookup ?_)
 have fin:wpAny (model X.prog X.w) X.A (subscripted slice false (.ref a) u) (λr s₃=>wpAny (model X.prog X.w) X.A (letTemporaryGo value (.ref a) r >>= λ_=>pure r) (EP X pins σ Q) X.xe s₃) X.xe s:=by
  rw[hs]
  exact wpAny_operating (Lx hu I g ry λw' s3 I3 rw'=>af (wpAny_letTemporaryGo (ah ⟨z,H,I3,rw',q⟩)))
 first
  |exact ah (af fin)
  |exact af (ah (af fin))
  |exact af fin
def DQ:R2:=λy x H Q=>∃a o,x=.ref a/\jM H a y o/\Q (.bl o.isSome) H
def LQ(hu:X.A.units+1<cLine):cg X (compareOp .In) DQ:=by
 intro pins s σ H y x u v Q I ry rx h
 obtain⟨a,o,rfl,g,q⟩:=h
 cases rx
 exact Dx hu I g ry λs' I'=>⟨.bl _,H,I',rfl,q⟩
end
def gk:HO->Bool
 |.lst _=>true
 |.dK _=>true
 |_=>false
def br(H H1 H2:Hp):Prop:=∀b,(H b=none/\∃o ob,gk o=true/\H1 b=some o/\H2 b=some (.frz ob o))\/(¬ (H b=none/\∃o,gk o=true/\H1 b=some o)/\H2 b=H1 b)
section
variable{H H1 H2:Hp}{b:Addr}{o:HO}
def br.keep(f:br H H1 H2)(h:H1 b=some o)(n:gk o=false):H2 b=some o:=by
 rcases f b with⟨_,o',ob,z,e,_⟩|⟨_,z⟩
 ·rw[h]at e;cases e;rw[n]at z;exact absurd z cb
 ·rw[z];exact h
def br.fz(f:br H H1 H2)(hn:H b=none)(h:H1 b=some o)(n:gk o=true):∃ob,H2 b=some (.frz ob o):=by
 rcases f b with⟨_,o',ob,z,e,e2⟩|⟨z,_⟩
 ·rw[h]at e;cases e;exact⟨ob,e2⟩
 ·exact absurd ⟨hn,o,n,h⟩ z
def br.none_of(f:br H H1 H2)(h:H1 b=none):H2 b=none:=by
 rcases f b with⟨_,o',ob,z,e,e2⟩|⟨_,z⟩
 ·rw[h]at e;cases e
 ·rw[z];exact h
end
theorem cv.imp{P:Program}{w:World}{K:W.Frag}{mg:Str->Option Value}{base:Heap}{k:Nat}{x:Str}{ps:List Str}{sp sp':Sp}(G:cv P w K mg base k x ps sp)(h:∀vs H Q E,sp' vs H Q E->sp vs H Q E):cv P w K mg base k x ps sp':=by
 obtain⟨f,fd,F,b,m,kp⟩:=G
 exact⟨f,fd,F.imp h,b,m,kp⟩
theorem cv.mono{P:Program}{w:World}{K:W.Frag}{mg:Str->Option Value}{base:Heap}{j k:Nat}{x:Str}{ps:List Str}{sp:Sp}(G:cv P w K mg base j x ps sp)(h:j<=k):cv P w K mg base k x ps sp:=by
 obtain⟨f,fd,F,b,m,kp⟩:=G
 exact⟨f,fd,F.mono h,b,m,kp⟩
def yo:HO->Bool
 |.frz _ _=>true
 |.tup _=>true
 |_=>false
def HS(H H':Hp):Prop:=∀b o,yo o=true->H b=some o->H' b=some o
section
variable{H H1 H2:Hp}{a p c:Addr}{o:HO}
def HS.refl(H:Hp):HS H H:=λ_ _ _ e=>e
def HS.trans(x:HS H H1)(y:HS H1 H2):HS H H2:=λb o h e=>y b o h (x b o h e)
def ax.hs(s:ax H H1):HS H H1:=λb o _ e=>s b o e
def br.hs(f:br H H1 H2):HS H1 H2:=λb o h e=>f.keep e (by cases o<;>first|rfl|exact absurd h cb)
def gI(h:H a=none):HS H (ar H a o):=λb u _ e=>by rw[bL (dQ e h)];exact e
def fU{u:HO}(h:H a=some u)(n:yo u=false):HS H (ar H a o):=λb v hv e=>by
 by_cases z:b=a
 ·subst z;rw[h]at e;cases e;rw[n]at hv;exact absurd hv cb
 ·rw[bL z];exact e
end
def Na:typeLookup (.type "list") "keys"=pure none:=by rw[typeLookup_type,builtinLookup_eq_fast];kernel_rfl
section
variable{prog:Program}{w:World}{A:Around}{E:Value->Shared->Prop}{s:Shared}
theorem Mo{a:Addr}{xs:Array Value}{n:Nat}{Q:Option Value->Shared->Prop}(hA:A.handled=none)(hx:s.heap.get? a=some {cls:=.type "list",data:=.seq xs n})
  (h:∀h' tk,(∀b o,s.heap.get? b=some o->h'.get? b=some o)->Q none {s with heap:=h',toks:=tk}):wpAny (model prog w) A (getAttr? (.ref a) "keys") Q E s:=by
 obtain⟨hp,g,d,tk,os⟩:=s
 have ty:∀t',(⟨hp,g,d,t',os⟩:Shared).TypeIs (.ref a) "list":=λ_=>⟨_,hx,rfl⟩
 have e1:=sub_AttributeError
 have e2:=F.slot_list_getattribute.lookup
 have e3:=F.slot_list_getattribute.bind (.ref a)
 have e4:=am_list_getattr_none
 unfold getAttr? getAttrBy? getAttrBy
 repeat (any_goals (first|assumption|exact ty _|((with_reducible show wpAny _ _ (call (Value.builtin "list.__getattribute__") _ _) _ _ _);refine call_meets F.slot_list_getattribute (ty _) am_entry_list_getattribute (F.args_list_getattribute_2 _ _) (meets_getattribute_miss_list a xs n #[] "keys" _ Na (by decide +kernel)) ⟨hx,hA,λh' tk' e ne=>?_⟩)|wp_step))
 obtain⟨t',u',he⟩:=ne.there
 show wpAny _ _ (getattributeRaised _ _ _ _ _ _ _) _ _ _
 unfold getattributeRaised
 repeat (any_goals (first|assumption|wp_step))
 all_goals exact h _ _ ne.keeps
def Am:entryFor table "dict.update.loop"=some Builtin.«dict.update.loop»:=entryFor_of_tree (by kernel_rfl)
def rW:plainId "dict.update.loop"=true:=by decide +kernel
def uY{h h':Heap}{a:Addr}{kvs:List (av×Value)}(hd:h.DictOf (bO prog w) a kvs)(k:∀o,h.get? a=some o->h'.get? a=some o):h'.DictOf (bO prog w) a kvs:=by
 obtain⟨o,es,ep,e,r⟩:=hd
 exact⟨o,es,ep,k o e,r⟩
def gp(prog:Program)(w:World)(h:Heap)(its:Array Value)(ps:List (av×Value)):Prop:=
 its.size=ps.length/\∀(j:Nat) (k:av) (v:Value),ps[j]?=some (k,v)->∃t key,its[j]?=some (.ref t)/\IsTup h t #[key,v]/\(bO prog w).is k key=true
def gp.keep{h h':Heap}{its:Array Value}{ps:List (av×Value)}(x:gp prog w h its ps)(k:∀t o,h.get? t=some o->o.cls=.type "tuple"->h'.get? t=some o):gp prog w h' its ps:=
 ⟨x.1,λj kk v e=>by
  obtain⟨t,key,a,⟨o,b,c,d⟩,f⟩:=x.2 j kk v e
  exact⟨t,key,a,⟨o,k t o b c,c,d⟩,f⟩⟩
def LS{R:Result->Shared->Prop}{it l dd:Addr}{its:Array Value}{ps:List (av×Value)}(hh:A.handled=none)(hli:l≠it)(hdi:dd≠it)(hdl:dd≠l)(hsz:ps.length<=1000):
  ∀(m i:Nat) (s:Shared) (kvs:List (av×Value)) (tk:Tok),ps.length=i+m->s.heap.IsListIter it l i/\s.heap.IsList l its->gp prog w s.heap its ps->s.heap.DictOf (bO prog w) dd kvs->kvs.length<=i ->
   (∀h' tk',h'.DictOf (bO prog w) dd ((ps.drop i).foldl (λacc kv=>stored acc kv.1 kv.2) kvs)->(∀b o,b≠it->b≠dd->s.heap.get? b=some o->h'.get? b=some o)->R (.ok (.ret .none)) {s with heap:=h',toks:=tk'}) ->
   codeAny (model prog w) A (.builtin "dict.update.loop" ⟨[.ref dd,.ref it,.int i tk,.none],[]⟩) R s:=by
 have W:=Walks.list (prog:=prog) (w:=w) (A:=A.in1) (by simp[hh]) it l hli its
 intro m
 induction m with
 |zero=>
  intro i s kvs tk hm st ht hd hl hR
  refine jz Am ?_
  rw[fc rW _]
  unfold Builtin.«dict.update.loop»
  refine af (W.done s _ _ (by rw[ht.1,hm];exact st) λh' tk' k=>?_)
  refine af (ah (ah ?_))
  have e:ps.drop i=[]:=List.drop_of_length_le (by omega)
  rw[e]at hR
  refine hR h' tk' (uY hd λo e=>k dd o (by simp[hdi]) e) λb o n1 _ e=>k b o (by simp[n1]) e
 |succ m ih=>
  intro i s kvs tk hm st ht hd hl hR
  have hi:i<ps.length:=by omega
  have hp:ps[i]?=some (ps[i].1,ps[i].2):=b_ hi
  obtain⟨t,key,e1,htt,hkey⟩:=ht.2 i _ _ hp
  refine jz Am ?_
  rw[fc rW _]
  unfold Builtin.«dict.update.loop»
  refine af (W.item i s _ _ (by rw[ht.1];exact hi) st λv h' tk' hv st' k=>?_)
  have hv:v=.ref t:=by rw[e1]at hv;exact(Option.some.inj hv).symm
  subst hv
  have nti:∀b o,s.heap.get? b=some o->o.cls=.type "tuple"->b≠it:=λb o e c z=>by
   obtain⟨o',e',c',_⟩:=st.1
   rw[<-z,e]at e'
   cases e'
   rw[c]at c'
   exact absurd c' (by decide)
  have ntd:∀b o,s.heap.get? b=some o->o.cls=.type "tuple"->b≠dd:=λb o e c z=>by
   obtain⟨o',e',c'⟩:=hd.typeIs
   rw[<-z,e]at e'
   cases e'
   rw[c]at c'
   exact absurd c' (by decide)
  obtain⟨ot,et,ct,nt,dt⟩:=htt
  have et':=k t ot (by simp[nti t ot et ct]) et
  have hd':h'.DictOf (bO prog w) dd kvs:=uY hd λo e=>k dd o (by simp[hdi]) e
  have ty:Shared.TypeIs {s with heap:=h',toks:=tk'} (.ref t) "tuple":=⟨ot,et',ct⟩
  refine af (gb ?_)
  refine af (wpAny_tryCatch ?_)
  unfold Builtin.Dict.pairItems
  refine af (wpAny_typeOf ty ?_)
  rw[if_pos (by decide)]
  refine af (wpAny_seqItems et' dt (ah ?_))
  refine gb (wpAny_dictSet_pairs hkey hd' (λh2 hd2 sb=>?_) (by rw[sizeLine_eq];omega))
  refine ah ⟨plainId_quiet rW _,?_⟩
  have l2:=sb.2 l hdl.symm
  refine ih (i+1) _ (stored kvs ps[i].1 ps[i].2) _ (by omega) ?_ ?_ hd2 ?_ λh3 tk3 hd3 k3=>?_
  ·refine W.frame (i+1) h' h2 st' λb hb o e=>?_
   rcases qx_.mp hb with z|z
   ·rw[z]at e ⊢;exact(sb.2 it hdi.symm).trans e
   ·rw[qd1_.mp z]at e ⊢;exact l2.trans e
  ·exact ht.keep λb o e c=>(sb.2 b (ntd b o e c)).trans (k b o (by simp[nti b o e c]) e)
  ·unfold stored
   split
   ·rw[ao];omega
   ·rw[b9];show kvs.length+1<=_;omega
  ·refine hR h3 tk3 ?_ λb o n1 n2 e=>k3 b o n1 n2 ((sb.2 b n2).trans (k b o (by simp[n1]) e))
   rw[show ps.drop i=ps[i]::ps.drop (i+1) from o5 hi]
   exact hd3
theorem MQ{l:Addr}{its:Array Value}{nl:Nat}{ps:List (av×Value)}{Q:Value->Shared->Prop}(hh:A.handled=none)(hl:s.heap.get? l=some {cls:=.type "list",data:=.seq its nl})(ht:gp prog w s.heap its ps)(hsz:ps.length<=1000)
  (h:∀h' tk,h'.DictOf (bO prog w) s.heap.objs.size (ps.foldl (λacc kv=>stored acc kv.1 kv.2) [])->(∀b o,s.heap.get? b=some o->h'.get? b=some o)->Q (.ref s.heap.objs.size) {s with heap:=h',toks:=tk}):
  wpAny (model prog w) A (call (.type "dict") [.ref l]) Q E s:=by
 refine callType_codes (Q₁:=λobj s₁=>obj=.ref s.heap.objs.size/\s₁={s with heap:=s.heap.push {cls:=.type "dict",data:=.dict #[]}}) F.kt_called_dict (F.kt_typeCall_dict_1 _) F.entry_dict_init (kt_code_dict_new _ ⟨rfl,rfl⟩) ?_
 rintro obj s₁ ⟨rfl,rfl⟩
 have new:(s.heap.push {cls:=.type "dict",data:=.dict #[]}).DictOf (bO prog w) s.heap.objs.size []:=Heap.DictOf.new s.heap
 have hl1:(s.heap.push {cls:=.type "dict",data:=.dict #[]}).get? l=some {cls:=.type "list",data:=.seq its nl}:=ay _ hl
 have llt:=bo hl
 refine⟨new.typeIs,F.args_dict_init_2 _ _,?_⟩
 unfold Builtin.«dict.__init__»
 refine af ?_
 unfold Builtin.Dict.selfAndRest
 refine af (wpAny_notOrdered_dict new.typeIs ?_)
 show wpAny _ _ (pure (s.heap.objs.size,[Value.ref l])) _ _ _
 refine ah ?_
 show wpAny _ _ (Builtin.Dict.updateFrom "dict.__init__" s.heap.objs.size (.ref l) [] .none) _ _ _
 unfold Builtin.Dict.updateFrom
 refine af (wpAny_typeOf (T:="list") ⟨_,hl1,rfl⟩ ?_)
 rw[if_pos (by decide)]
 refine af (Mo (by simp[hh]) hl1 λh2 tk2 k2=>?_)
 rw[if_pos (by decide)]
 refine af (wpAny_rule ?_)
 have hl2:=k2 _ _ hl1
 have isl:Heap.IsList h2 l its:=⟨_,hl2,rfl,nl,rfl⟩
 refine af (wpAny_pyIter_list isl ?_)
 have sz2:s.heap.objs.size<h2.objs.size:=by
  have:(s.heap.push {cls:=.type "dict",data:=.dict #[]}).get? s.heap.objs.size=some _:=b6 _ rfl
  exact bo (k2 _ _ this)
 refine ah ⟨plainId_quiet rW _,LS (A:=A.in1) (its:=its) (ps:=ps) (by simp[hh]) (cq (bo hl2)) (cq sz2) (gj llt) hsz ps.length 0 _ [] _ (by simp) ⟨⟨_,b6 _ rfl,rfl,rfl⟩,isl.push _⟩ ?_ ?_ (d6 _) λh3 tk3 hd3 k3=>?_⟩
 ·exact ht.keep λb o e _=>ay _ (k2 _ _ (ay _ e))
 ·exact(uY new λo e=>k2 _ _ e).push _
 ·refine⟨rfl,h h3 tk3 hd3 λb o e=>?_⟩
  have lt:=bo e
  exact k3 b o (cq (gc lt sz2)) (cq lt) (ay _ (k2 _ _ (ay _ e)))
end
section
variable{X:Cx}
def Jy:∀{ps:List (av×V)}{qs:List (av×Value)}{kvs:List (av×V)}{vs:List (av×Value)},KV ps qs->KV kvs vs->KV (iA kvs ps) (qs.foldl (λacc kv=>stored acc kv.1 kv.2) vs):=by
 intro ps qs kvs vs r
 unfold KV at r
 induction r generalizing kvs vs with
 |nil=>intro q;exact q
 |@cons p q ps qs h t ih=>
  intro r0
  refine ih (kvs:=dH kvs p.1 p.2) (vs:=stored vs q.1 q.2) ?_
  rw[<-h.1]
  exact r0.put p.1 h.2
end
end L2
namespace WordM
open PySem
def sigA:Str:=" !\"#$&'()*+,-./0123456789:;<=>?@ABCDEFGHIJKLMNOPQRSTUVWXYZ[\\]^_`"
def sigB:Str:="abcdefghijklmnopqrstuvwxyz{|}~"
def fh:Str:=sigA++sigB
abbrev cs(x:Str):List Nat:=x.cps.toList
def mS:Str:="0123456789"
def oG:Str:="ABCDEFGHIJKLMNOPQRSTUVWXYZ"
def HG:Str:=" !\"#$&'()*+,-./:;<=>?\x40[\\]^_`{|}~"
def rR:Str:="abcdefghijklmnopqrstuvwxyz"
def t7:List (Str×Str):=[("figure",mS),("great",oG),("other",HG),("small",rR)]
def MK:List Str:=["figure","great","other","small"]
def Sg(x:Str):Prop:=∀c∈cs x,c∈cs fh
instance (x:Str):Decidable (Sg x):=by unfold Sg;infer_instance
def eX(c:Nat):Str:=if c∈cs mS then "figure" else if c∈cs oG then "great" else if c∈cs rR then "small" else "other"
def jI(x m:Str):Bool:=(cs x).any λc=>decide (c∈cs ((L2.getS t7 m).getD ⟨#[]⟩))
def dE(x:Str):List Str:=MK.filter λm=>jI x m
def app(a b:Str):cs (a++b)=cs a++cs b:=by
 show(a.cps++b.cps).toList=_
 simp
def len(a:Str):a.length=(cs a).length:=by simp[Str.length]
def Sg.app{a b:Str}(ha:Sg a)(hb:Sg b):Sg (a++b):=λc hc=>by
 rw[WordM.app]at hc
 rcases qp_.mp hc with z|z
 ·exact ha c z
 ·exact hb c z
def Sg.one{x:Str}(h:Sg x){c:Nat}(hc:c∈cs x):Sg ⟨#[c]⟩:=λd hd=>by
 have:d=c:=by simpa using hd
 rw[this]
 exact h c hc
def HJ:Sg ⟨#[]⟩:=λc hc=>by simp at hc
def MO{x:Str}{l u:Option Int}{c:Nat}(h:c∈cs (Txt.slice x l u)):c∈cs x:=by
 unfold Txt.slice at h
 split at h
 ·exact h
 ·simp only[cs,List.toList_toArray,List.mem_filterMap]at h
  obtain⟨i,_,hi⟩:=h
  obtain⟨hlt,e⟩:=qo3_.mp hi
  rw[<-e]
  simp
def Sg.slice{x:Str}(h:Sg x)(l u:Option Int):Sg (Txt.slice x l u):=λc hc=>h c (MO hc)
def slice_len(x:Str)(l u:Option Int):(Txt.slice x l u).length<=x.length:=Txt.slice_le x l u
def kK{a b:Str}(h:cs a=cs b):a=b:=by
 obtain⟨a⟩:=a
 obtain⟨b⟩:=b
 have:a=b:=Array.toList_inj.mp h
 rw[this]
def LY{c:Nat}{r:Str}:Txt.slice ((⟨#[c]⟩:Str)++r) (some 1) none=r:=by
 refine kK ?_
 have hl:(((⟨#[c]⟩:Str)++r).length)=1+r.length:=by rw[len,app,len];simp
 rw[PyProof.Rows.slice_from_eq (b:=((((⟨#[c]⟩:Str)++r).length:Nat):Int)) (by decide) (by omega) rfl]
 show((cs ((⟨#[c]⟩:Str)++r)).drop 1).take _=_
 rw[app]
 show((c::cs r).drop 1).take _=cs r
 rw[List.drop_one,List.tail_cons,mq]
 rw[hl,len]
 omega
def Mb{x:Str}(h:x.length=0):Txt.slice x (some 1) none=x:=by
 have h1:=slice_len x (some 1) none
 refine kK ?_
 have e1:cs (Txt.slice x (some 1) none)=[]:=jk (by rw[<-len];omega)
 have e2:cs x=[]:=jk (by rw[<-len];omega)
 rw[e1,e2]
def rG{c:Nat}(h:c∈cs fh):∀m∈MK,(c∈cs ((L2.getS t7 m).getD ⟨#[]⟩)↔eX c=m):=by
 revert c
 decide +kernel
def mark_in(c:Nat):eX c∈MK:=by
 unfold eX
 split
 ·decide
 ·split
  ·decide
  ·split
   ·decide
   ·decide
def wA:fh.length=94:=by decide +kernel
def MN:(cs fh).Nodup:=by decide +kernel
def LX(x:Str):(Txt.slice x (some 1) none).length+1<=(if x.length<1 then 1 else x.length):=by
 by_cases h:x.length=0
 ·rw[Mb h,if_pos (by omega)]
  omega
 ·rw[if_neg (by omega)]
  rw[PyProof.Rows.slice_from_eq (b:=(x.length:Int)) (by decide) (by omega) rfl]
  show(((cs x).drop 1).take _).toArray.size+1<=_
  rw[cy,jh,kz,<-len]
  omega
def nodup_len{α:Type}[DecidableEq α]:∀{l m:List α},l.Nodup->(∀x∈l,x∈m)->l.length<=m.length
 |[],m,_,_=>d6 _
 |x::l,m,hn,hs=>by
  have hx:=hs x fw
  have h2:=qG1_.mp hn
  have ih:=nodup_len (l:=l) (m:=m.erase x) h2.2 λy hy=>by
   have hne:y≠x:=λe=>h2.1 (e▸hy)
   exact(List.mem_erase_of_ne hne).mpr (hs y (d_ _ hy))
  rw[List.length_erase_of_mem hx]at ih
  have:0<m.length:=List.length_pos_of_mem hx
  rw[ik]
  omega
def fI(a:Int):Nat:=(cs fh).getD (a % 94).toNat 0
def MM(a:Int):fI a∈cs fh:=by
 have hl:(a % 94).toNat<(cs fh).length:=by
  rw[<-len,wA]
  have:=i5 a (show(0:Int)<94 by decide)
  have:=i4 a (show(94:Int)≠0 by decide)
  omega
 unfold fI
 rw[j3,b_ hl]
 exact jl hl
def ML{a b:Int}(h:fI a=fI b):a % 94=b % 94:=by
 have b1:=i5 a (show(0:Int)<94 by decide)
 have b2:=i4 a (show(94:Int)≠0 by decide)
 have b3:=i5 b (show(0:Int)<94 by decide)
 have b4:=i4 b (show(94:Int)≠0 by decide)
 have hl:(cs fh).length=94:=by rw[<-len];exact wA
 unfold fI at h
 rw[j3,j3,b_ (by omega),b_ (by omega)]at h
 have h:(cs fh)[(a % 94).toNat]=(cs fh)[(b % 94).toNat]:=h
 have hp:=qp3_.mp MN
 rcases Nat.lt_trichotomy (a % 94).toNat (b % 94).toNat with z|z|z
 ·exact absurd h (hp _ _ (by omega) (by omega) z)
 ·omega
 ·exact absurd h.symm (hp _ _ (by omega) (by omega) z)
def fL(a:Int)(r:Str)(i:Nat):Str:=(⟨#[fI (a+i)]⟩:Str)++r
def LI{a:Int}{r:Str}{i j:Nat}(hi:i<90)(hj:j<90)(h:fL a r i=fL a r j):i=j:=by
 have h1:cs (fL a r i)=cs (fL a r j):=by rw[h]
 unfold fL at h1
 rw[app,app]at h1
 have h2:fI (a+i)=fI (a+j):=by
  have:=List.cons.inj h1
  exact this.1
 have:=ML h2
 omega
def LH{a:Int}{r:Str}{ss:List Str}{j:Nat}(hj:j<80)(h:∀i,1<=i->i<=j->fL a r i∈ss):j<=ss.length:=by
 have:=nodup_len (l:=(List.range j).map λi=>fL a r (i+1)) (m:=ss) (by
  unfold List.Nodup
  rw[mh]
  refine List.Pairwise.imp_of_mem (λ{x y} hx hy hlt e=>?_) List.pairwise_lt_range
  have hx:=qt1_.mp hx
  have hy:=qt1_.mp hy
  have:=LI (by omega) (by omega) e
  omega) (λx hx=>by
  obtain⟨i,hi,rfl⟩:=qf_.mp hx
  have:=qt1_.mp hi
  exact h (i+1) (by omega) (by omega))
 simpa using this
end WordM
namespace L2
open PySem PySem.Spec PyProof.Rows WordM
section
variable{α β:Type}{F G:α->β->Prop}
def fF:∀{xs:List α}{ys:List β}{i:Nat}{x:α},Paired F xs ys->xs[i]?=some x->∃y,ys[i]?=some y/\F x y
 |_,_,_,_,.nil,e=>by simp at e
 |_,_,0,_,.cons r _,e=>by simp at e;subst e;exact⟨_,rfl,r⟩
 |_,_,i+1,x,.cons _ t,e=>by
  obtain⟨u,h1,h2⟩:=fF (i:=i) (x:=x) t (by simpa using e)
  exact⟨u,by simpa using h1,h2⟩
end
inductive Tv where
 |leaf (v:V)
 |seq (t:Bool) (xs:List Tv)
 |dct (kts:List (Str×Tv))
def VT(S:Bool->Addr->List V->Prop)(D:Addr->List (av×V)->Prop):Nat->V->Tv->Prop
 |0,_,_=>False
 |d+1,x,T=>(dL x=true/\T=.leaf x)\/(∃t a xs Ts,x=.ref a/\S t a xs/\T=.seq t Ts/\Ts.length<=100000/\Paired (VT S D d) xs Ts) \/
   ∃a kvs kts,x=.ref a/\D a kvs/\T=.dct kts/\(kts.map (·.1)).Nodup/\kts.length<64/\Paired (λ(kv:av×V) (kt:Str×Tv)=>kv.1=.inr kt.1/\VT S D d kv.2 kt.2) kvs kts
section
variable{S S':Bool->Addr->List V->Prop}{D D':Addr->List (av×V)->Prop}
def VT.mono(hs:∀t a xs,S t a xs->S' t a xs)(hd:∀a kvs,D a kvs->D' a kvs):∀{d:Nat}{x:V}{T:Tv},VT S D d x T->VT S' D' d x T
 |0,_,_,h=>False.elim h
 |d+1,x,T,h=>by
  rcases h with h|⟨t,a,xs,Ts,h1,h2,h3,hz,h4⟩|⟨a,kvs,kts,h1,h2,h3,h4,h5,h6⟩
  ·exact .inl h
  ·exact .inr (.inl ⟨t,a,xs,Ts,h1,hs _ _ _ h2,h3,hz,Paired.mapP h4 λ_ _ q=>VT.mono hs hd q⟩)
  ·exact .inr (.inr ⟨a,kvs,kts,h1,hd _ _ h2,h3,h4,h5,Paired.mapP h6 λ_ _ q=>⟨q.1,VT.mono hs hd q.2⟩⟩)
def VT.more:∀{d:Nat}{x:V}{T:Tv},VT S D d x T->VT S D (d+1) x T
 |0,_,_,h=>False.elim h
 |d+1,x,T,h=>by
  rcases h with h|⟨t,a,xs,Ts,h1,h2,h3,hz,h4⟩|⟨a,kvs,kts,h1,h2,h3,h4,h5,h6⟩
  ·exact .inl h
  ·exact .inr (.inl ⟨t,a,xs,Ts,h1,h2,h3,hz,Paired.mapP h4 λ_ _ q=>VT.more q⟩)
  ·exact .inr (.inr ⟨a,kvs,kts,h1,h2,h3,h4,h5,Paired.mapP h6 λ_ _ q=>⟨q.1,VT.more q.2⟩⟩)
def VT.le{d e:Nat}(h:d<=e){x:V}{T:Tv}(q:VT S D d x T):VT S D e x T:=by
 obtain⟨k,rfl⟩:=Nat.le.dest h
 clear h
 induction k with
 |zero=>exact q
 |succ k ih=>exact VT.more ih
end
def lu(H:Hp)(a:Addr)(kvs:List (av×V)):Prop:=∃ob,me H a ob kvs
section
variable{K:W.Frag}{H H':Hp}{d:Nat}{x:V}{T:Tv}
def lu.hs(e:HS H H'){a:Addr}{kvs:List (av×V)}(h:lu H a kvs):lu H' a kvs:=by
 obtain⟨ob,h⟩:=h
 exact⟨ob,e _ _ rfl h⟩
end
def LV:∀(p:Str) (l:List Str),risingS p l=true->∀x∈l,(cs x<cs p)->False:=by
 intro p l
 induction l generalizing p with
 |nil=>intro _ x hx;simp at hx
 |cons y l ih=>
  intro h x hx hlt
  have h:(!PySem.Spec.ltCps y.cps.toList p.cps.toList&&risingS y l)=true:=h
  rw[kg]at h
  have hy:¬ (cs y<cs p):=by
   have:=h.1
   rw[ltCps_eq]at this
   simpa using this
  rcases qx_.mp hx with z|z
  ·subst z;exact hy hlt
  ·have hxy:¬ (cs x<cs y):=λq=>ih y h.2 x z q
   have h1:cs p<=cs y:=qZ_.mp hy
   have h2:cs y<=cs x:=qZ_.mp hxy
   exact absurd hlt (qZ_.mpr (o7 h1 h2))
def pZ:∀(l:List Str),sortedS l=true->l.Pairwise λa b=>cs a<=cs b
 |[],_=>.nil
 |x::l,h=>by
  have h:risingS x l=true:=h
  refine .cons (λy hy=>qZ_.mp λz=>LV x l h y hy z) (pZ l ?_)
  cases l with
  |nil=>rfl
  |cons y l=>
   have h:(!PySem.Spec.ltCps y.cps.toList x.cps.toList&&risingS y l)=true:=h
   rw[kg]at h
   exact h.2
open Classical in
noncomputable def aX(us:List Str):List Str:=if h:∃ss:List Str,ss.Perm us/\sortedS ss=true then h.choose else us
def eR(us:List Str):(aX us).Perm us:=by
 unfold aX
 split
 ·rename_i h;exact h.choose_spec.1
 ·exact .refl _
def nL{us ss:List Str}(h1:ss.Perm us)(h2:sortedS ss=true):ss=aX us:=by
 have ex:∃ss:List Str,ss.Perm us/\sortedS ss=true:=⟨ss,h1,h2⟩
 have e:aX us=ex.choose:=by unfold aX;rw[dif_pos ex]
 rw[e]
 exact List.Perm.eq_of_pairwise (λa b _ _ h1 h2=>kK (List.le_antisymm h1 h2)) (pZ _ h2) (pZ _ ex.choose_spec.2) (h1.trans ex.choose_spec.1.symm)
def bS(kts:List (Str×Tv))(k:Str):Option Tv:=(kts.find? λkt=>decide (kt.1=k)).map (·.2)
section
variable{S:Bool->Addr->List V->Prop}{D:Addr->List (av×V)->Prop}{d:Nat}
def rJ{kvs:List (av×V)}{kts:List (Str×Tv)}{R:V->Tv->Prop}(h:Paired (λ(kv:av×V) (kt:Str×Tv)=>kv.1=.inr kt.1/\R kv.2 kt.2) kvs kts)(k:Str):
  (bS kts k=none/\dW kvs (.inr k)=none)\/∃U v,bS kts k=some U/\dW kvs (.inr k)=some v/\R v U:=by
 induction h with
 |nil=>exact .inl ⟨rfl,rfl⟩
 |@cons kv kt l1 l2 h _ ih=>
  obtain⟨e,r⟩:=h
  by_cases z:kt.1=k
  ·refine .inr ⟨kt.2,kv.2,?_,qO (by rw[e,z]),r⟩
   unfold bS
   rw[i3,i_ z]
   rfl
  ·have e2:bS (kt::l2) k=bS l2 k:=by
    unfold bS
    rw[i3,g4 z]
   have e3:dW (kv::l1) (.inr k)=dW l1 (.inr k):=qP (by rw[e];exact λq=>z (Sum.inr.inj q))
   rw[e2,e3]
   exact ih
def look_mem{kts:List (Str×Tv)}{k:Str}(h:k∈kts.map (·.1)):∃U,bS kts k=some U:=by
 induction kts with
 |nil=>cases h
 |cons kt l ih=>
  by_cases z:kt.1=k
  ·exact⟨kt.2,by unfold bS;rw[i3,i_ z];rfl⟩
  ·rcases qx_.mp h with q|q
   ·exact absurd q.symm z
   ·obtain⟨U,hU⟩:=ih q
    refine⟨U,?_⟩
    unfold bS at hU ⊢
    rw[i3,g4 z]
    exact hU
def JD{kts:List (Str×Tv)}(hn:(kts.map (·.1)).Nodup){i:Nat}{kt:Str×Tv}(h:kts[i]?=some kt):bS kts kt.1=some kt.2:=by
 induction kts generalizing i with
 |nil=>cases h
 |cons a l ih=>
  rw[e9,qG1_]at hn
  cases i with
  |zero=>
   cases h
   unfold bS
   rw[i3,i_ rfl]
   rfl
  |succ i=>
   have h:l[i]?=some kt:=by simpa using h
   have z:a.1≠kt.1:=λz=>hn.1 (by rw[z];exact qf_.mpr ⟨kt,g5 h,rfl⟩)
   have:=ih hn.2 h
   unfold bS at this ⊢
   rw[i3,g4 z]
   exact this
end
def cu.hs{K:W.Frag}{H H':Hp}{a:Addr}{xs:List V}(e:HS H H')(h:cu K H a xs):cu K H' a xs:=by
 rcases h with (h|⟨o,h⟩)|h
 ·exact .inl (.inl (e _ _ rfl h))
 ·exact .inl (.inr ⟨o,e _ _ rfl h⟩)
 ·exact .inr h
def qA{α β:Type}{F:α->β->Prop}{a c:List α}{b d:List β}(h1:Paired F a b)(h2:Paired F c d):Paired F (a++c) (b++d):=by
 induction h1 with
 |nil=>exact h2
 |cons r _ ih=>exact .cons r ih
end L2
namespace L2
open PySem PySem.Spec PyProof.Rows
abbrev pN:Hp:=λ_=>none
def ju(H H3 H4:Hp):Prop:=∀b,(∃o ob,gk o=true/\H b=some o/\H3 b=some (.frz ob o)/\H4 b=some o)\/((¬ ∃o ob,gk o=true/\H b=some o/\H3 b=some (.frz ob o))/\H4 b=H3 b)
def vZ(H H3:Hp):∃H4,ju H H3 H4:=by
 classical
 refine⟨λb=>if h:∃o ob,gk o=true/\H b=some o/\H3 b=some (.frz ob o) then some h.choose else H3 b,λb=>?_⟩
 by_cases h:∃o ob,gk o=true/\H b=some o/\H3 b=some (.frz ob o)
 ·obtain⟨ob,h1,h2,h3⟩:=h.choose_spec
  exact .inl ⟨h.choose,ob,h1,h2,h3,by dsimp only;rw[dif_pos h]⟩
 ·exact .inr ⟨h,by dsimp only;rw[dif_neg h]⟩
def uX{P:Program}{w:World}{H:Hp}{h:Heap}(hok:du P w H h):∃H2,br pN H H2/\du P w H2 h:=by
 let H2:Hp:=λb=>match H b with
  |none=>none
  |some o=>match gk o with
   |false=>some o
   |true=>match h.get? b with
    |some ob=>some (.frz ob o)
    |none=>some o
 have new:∀b o ob,H b=some o->gk o=true->h.get? b=some ob->H2 b=some (.frz ob o):=λb o ob h1 n e=>by
  show(match H b with|none=>none|some o=>_)=_
  rw[h1]
  dsimp only
  rw[n,e]
 have rest:∀b,(∀o,H b=some o->gk o=false)->H2 b=H b:=λb hn=>by
  show(match H b with|none=>none|some o=>_)=_
  cases e:H b with
  |none=>rfl
  |some o=>
   dsimp only
   rw[hn o e]
 have fro:br pN H H2:=λb=>by
  cases h1:H b with
  |none=>exact .inr ⟨(λ⟨_,_,_,z⟩=>by cases z),by rw[rest b (λo z=>by rw[h1]at z;cases z),h1]⟩
  |some o=>
   cases n:gk o with
   |true=>
    obtain⟨ob,e⟩:=(hok b o h1).there
    exact .inl ⟨rfl,o,ob,n,rfl,new b o ob h1 n e⟩
   |false=>exact .inr ⟨(λ⟨_,o',n',z⟩=>by cases z;rw[n]at n';exact absurd n' cb),by rw[rest b (λo' z=>by rw[h1]at z;cases z;exact n),h1]⟩
 refine⟨H2,fro,λb o e=>?_⟩
 have st:∀o,aw P w H h b o->aw P w H2 h b o:=λo x=>x.stay (λ_ _ _ r=>r) (λd r=>fro.keep r rfl) λd xs r=>fro.keep r rfl
 rcases fro b with⟨hn,o',ob,n,z,z'⟩|⟨_,z'⟩
 ·obtain⟨ob2,e2⟩:=(hok b o' z).there
  have q2:=new b o' ob2 z n e2
  rw[e]at q2
  cases q2
  exact⟨e2,st _ (hok b _ z)⟩
 ·rw[z']at e
  exact st o (hok b o e)
section
variable{H H2 H3 H4:Hp}{b:Addr}{o:HO}
def ju.same(f:br pN H H2)(s:ax H2 H3)(t:ju H H3 H4):ax H H4:=λb o e=>by
 cases n:gk o with
 |true=>
  obtain⟨ob,e2⟩:=f.fz (b:=b) rfl e n
  have e3:=s b _ e2
  rcases t b with⟨u,ob',_,z,_,z'⟩|⟨z,_⟩
  ·rw[e]at z;cases z;exact z'
  ·exact absurd ⟨o,ob,n,e,e3⟩ z
 |false=>
  have e3:=s b _ (f.keep e n)
  rcases t b with⟨u,ob',n',z,_⟩|⟨_,z⟩
  ·rw[e]at z;cases z;rw[n]at n';exact absurd n' cb
  ·rw[z];exact e3
end
def uU:∀{ps kvs:List (av×V)},((kvs++ps).map (·.1)).Nodup->iA kvs ps=kvs++ps
 |[],kvs,_=>by show kvs=kvs++[];rw[jb]
 |p::ps,kvs,h=>by
  have hv:dW kvs p.1=none:=by
   cases e:dW kvs p.1 with
   |none=>rfl
   |some v=>
    have:=KC e
    rw[ij,nh]at h
    exact absurd rfl (h.2.2 p.1 this p.1 (by simp))
  show iA (dH kvs p.1 p.2) ps=_
  rw[JY p.2 hv,uU (by simpa using h),jo]
  rfl
end L2
namespace L2
open PySem PySem.Spec PyProof.Rows WordM
def a_(K:W.Frag)(H:Hp)(t:Bool)(a:Addr)(xs:List V):Prop:=match t with
 |false=>∃ob,H a=some (.frz ob (.lst xs))
 |true=>cu K H a xs
abbrev VP(K:W.Frag)(H:Hp):Nat->V->Tv->Prop:=VT (a_ K H) (lu H)
def VA(K:W.Frag)(H:Hp)(x:V)(T:Tv):Prop:=∃d,VP K H d x T
abbrev cf(K:W.Frag)(H:Hp):List V->List Tv->Prop:=Paired (VA K H)
def e6(K:W.Frag)(H:Hp):List (av×V)->List (Str×Tv)->Prop:=Paired λ(kv:av×V) (kt:Str×Tv)=>kv.1=.inr kt.1/\VA K H kv.2 kt.2
section
variable{K:W.Frag}{H H' H1 H2:Hp}{x y v:V}{T U:Tv}{a:Addr}{xs:List V}{Ts:List Tv}{t:Bool}{kvs:List (av×V)}{kts:List (Str×Tv)}
def a_.hs(e:HS H H')(h:a_ K H t a xs):a_ K H' t a xs:=by
 cases t with
 |false=>obtain⟨ob,h⟩:=h;exact⟨ob,e _ _ rfl h⟩
 |true=>exact cu.hs e h
def VA.hs(e:HS H H')(h:VA K H x T):VA K H' x T:=by
 obtain⟨d,h⟩:=h
 exact⟨d,h.mono (λ_ _ _ q=>q.hs e) λ_ _ q=>q.hs e⟩
def cf.hs(e:HS H H')(h:cf K H xs Ts):cf K H' xs Ts:=Paired.mapP h λ_ _ q=>q.hs e
def e6.hs(e:HS H H')(h:e6 K H kvs kts):e6 K H' kvs kts:=Paired.mapP h λ_ _ q=>⟨q.1,q.2.hs e⟩
def cf.deep(h:cf K H xs Ts):∃d,Paired (VP K H d) xs Ts:=by
 induction h with
 |nil=>exact⟨0,.nil⟩
 |cons r _ ih=>
  obtain⟨d,r⟩:=r
  obtain⟨e,ih⟩:=ih
  exact⟨max d e,.cons (r.le (Nat.le_max_left _ _)) (Paired.mapP ih λ_ _ q=>VT.le (Nat.le_max_right _ _) q)⟩
def e6.deep(h:e6 K H kvs kts):∃d,Paired (λ(kv:av×V) (kt:Str×Tv)=>kv.1=.inr kt.1/\VP K H d kv.2 kt.2) kvs kts:=by
 unfold e6 at h
 induction h with
 |nil=>exact⟨0,.nil⟩
 |cons r _ ih=>
  obtain⟨k,d,r⟩:=r
  obtain⟨e,ih⟩:=ih
  exact⟨max d e,.cons ⟨k,r.le (Nat.le_max_left _ _)⟩ (Paired.mapP ih λ_ _ q=>⟨q.1,VT.le (Nat.le_max_right _ _) q.2⟩)⟩
def VA.flat(h:dL x=true):VA K H x (.leaf x):=⟨1,.inl ⟨h,rfl⟩⟩
def VA.seq(h:a_ K H t a xs)(z:Ts.length<=100000)(p:cf K H xs Ts):VA K H (.ref a) (.seq t Ts):=by
 obtain⟨d,p⟩:=p.deep
 exact⟨d+1,.inr (.inl ⟨t,a,xs,Ts,rfl,h,rfl,z,p⟩)⟩
def VA.dct(h:lu H a kvs)(n:(kts.map (·.1)).Nodup)(z:kts.length<64)(p:e6 K H kvs kts):VA K H (.ref a) (.dct kts):=by
 obtain⟨d,p⟩:=p.deep
 exact⟨d+1,.inr (.inr ⟨a,kvs,kts,rfl,h,rfl,n,z,p⟩)⟩
def VA.leafI(h:VA K H x (.leaf v)):x=v/\dL v=true:=by
 obtain⟨d,h⟩:=h
 cases d with
 |zero=>exact False.elim h
 |succ d=>
  rcases h with⟨f,e⟩|⟨_,_,_,_,_,_,e,_⟩|⟨_,_,_,_,_,e,_⟩
  ·cases e;exact⟨rfl,f⟩
  ·cases e
  ·cases e
def VA.seqI(h:VA K H x (.seq t Ts)):∃a xs,x=.ref a/\a_ K H t a xs/\Ts.length<=100000/\cf K H xs Ts:=by
 obtain⟨d,h⟩:=h
 cases d with
 |zero=>exact False.elim h
 |succ d=>
  rcases h with⟨_,e⟩|⟨t',a,xs,Ts',e1,hs,e,z,p⟩|⟨_,_,_,_,_,e,_⟩
  ·cases e
  ·cases e;exact⟨a,xs,e1,hs,z,Paired.mapP p λ_ _ q=>⟨d,q⟩⟩
  ·cases e
def VA.dctI(h:VA K H x (.dct kts)):∃a kvs,x=.ref a/\lu H a kvs/\(kts.map (·.1)).Nodup/\kts.length<64/\e6 K H kvs kts:=by
 obtain⟨d,h⟩:=h
 cases d with
 |zero=>exact False.elim h
 |succ d=>
  rcases h with⟨_,e⟩|⟨_,_,_,_,_,_,e,_⟩|⟨a,kvs,kts',e1,hd,e,n,z,p⟩
  ·cases e
  ·cases e
  ·cases e;exact⟨a,kvs,e1,hd,n,z,Paired.mapP p λ_ _ q=>⟨q.1,d,q.2⟩⟩
end
inductive Sl where
 |no
 |va (T:Tv)
 |own (xs:List Tv)
 |dct (kts:List (Str×Tv))
 |dk
abbrev aT:=List Sl
def dZ:Sl->Bool
 |.own _=>true
 |.dct _=>true
 |_=>false
structure Fm where
 H0:Hp
 dk:Option (Addr×Addr)
structure Kp (dk:Option (Addr×Addr)) (H H':Hp):Prop where
 st:∀b o,H b=some o->(∀p c,dk=some (p,c)->b≠p/\b≠c)->H' b=some o
 dkk:∀p c,dk=some (p,c)->bj H' p c
def Kp.tr{dk:Option (Addr×Addr)}{H H':Hp}(k:Kp dk H H')(b:Addr)(o:HO)(e:H b=some o):∃o',H' b=some o':=by
 cases d:dk with
 |none=>exact⟨o,k.st b o e λp c z=>by rw[d]at z;cases z⟩
 |some pc=>
  obtain⟨p,c⟩:=pc
  obtain⟨_,⟨S,i,e1⟩,ns,e2,_⟩:=k.dkk p c d
  by_cases h1:b=p
  ·subst h1;exact⟨_,e1⟩
  ·by_cases h2:b=c
   ·subst h2;exact⟨_,e2⟩
   ·exact⟨o,k.st b o e λp' c' z=>by rw[d]at z;cases z;exact⟨h1,h2⟩⟩
def yU(K:W.Frag)(F:Fm)(H:Hp)(ox:Option V):Sl->Prop
 |.no=>True
 |.va T=>∃x,ox=some x/\VA K H x T
 |.own Ts=>∃a xs,ox=some (.ref a)/\H a=some (.lst xs)/\F.H0 a=none/\Ts.length<=100000/\cf K H xs Ts
 |.dct kts=>∃a kvs,ox=some (.ref a)/\H a=some (.dK kvs)/\F.H0 a=none/\(kts.map (·.1)).Nodup/\kts.length<64/\e6 K H kvs kts
 |.dk=>∃p c,F.dk=some (p,c)/\ox=some (.ref p)
def dz(σ:St)(i:Nat):Option V:=(σ[i]?).join
structure au (K:W.Frag) (F:Fm) (ρ:aT) (σ:St) (H:Hp):Prop where
 d0:∀p c,F.dk=some (p,c)->bj F.H0 p c
 kp:Kp F.dk F.H0 H
 len:ρ.length=σ.length
 at_:∀(i:Nat) (s:Sl),ρ[i]?=some s->yU K F H (dz σ i) s
 ap:∀(i j:Nat) (a:Addr) (s t:Sl),ρ[i]?=some s->ρ[j]?=some t->dZ s=true->dZ t=true->dz σ i=some (.ref a)->dz σ j=some (.ref a)->i=j
def jv(F:Fm)(ρ:aT)(σ:St)(H H':Hp):Prop:=∀b o,H b=some o->(∀p c,F.dk=some (p,c)->b≠p/\b≠c)->(∀(i:Nat) (s:Sl),ρ[i]?=some s->dZ s=true->dz σ i≠some (.ref b))->H' b=some o
def jw(ρ' ρ:aT):Prop:=∀(i:Nat) (s':Sl),ρ'[i]?=some s'->dZ s'=true->∃s,ρ[i]?=some s/\dZ s=true
structure bh (K:W.Frag) (F:Fm) (σ:St) (ρ:aT) (H:Hp) (ρ':aT) (H':Hp):Prop where
 fr:au K F ρ' σ H'
 st:jv F ρ σ H H'
 sub:jw ρ' ρ
 tr:∀b o,H b=some o->∃o',H' b=some o'
section
variable{K:W.Frag}{F:Fm}{ρ ρ1 ρ2:aT}{σ:St}{H H' H1 H2:Hp}{x y v:V}{T U:Tv}{a b:Addr}{o:HO}
def jw.refl(ρ:aT):jw ρ ρ:=λi s e m=>⟨s,e,m⟩
def jw.trans(h1:jw ρ1 ρ)(h2:jw ρ2 ρ1):jw ρ2 ρ:=λi s e m=>by
 obtain⟨s1,e1,m1⟩:=h2 i s e m
 exact h1 i s1 e1 m1
def au.own_at(fr:au K F ρ σ H){i:Nat}{s:Sl}(e:ρ[i]?=some s)(m:dZ s=true)(q:dz σ i=some (.ref a)):(∃o,H a=some o/\gk o=true)/\F.H0 a=none:=by
 have h:=fr.at_ i s e
 cases s with
 |own Ts=>obtain⟨a',xs,e1,e2,e3,_⟩:=h;rw[q]at e1;cases e1;exact⟨⟨_,e2,rfl⟩,e3⟩
 |dct kts=>obtain⟨a',xs,e1,e2,e3,_⟩:=h;rw[q]at e1;cases e1;exact⟨⟨_,e2,rfl⟩,e3⟩
 |no=>cases m
 |va _=>cases m
 |dk=>cases m
theorem au.fresh_nodk(fr:au K F ρ σ H)(h:F.H0 a=none):∀p c,F.dk=some (p,c)->a≠p/\a≠c:=λp c e=>by
 obtain⟨_,⟨S,k,e1⟩,ns,e2,_⟩:=fr.d0 p c e
 exact⟨λz=>(by rw[z,e1]at h;cases h),λz=>(by rw[z,e2]at h;cases h)⟩
theorem au.none_nodk(fr:au K F ρ σ H)(h:H a=none):∀p c,F.dk=some (p,c)->a≠p/\a≠c:=λp c e=>by
 obtain⟨_,⟨S,k,e1⟩,ns,e2,_⟩:=fr.kp.dkk p c e
 exact⟨λz=>(by rw[z,e1]at h;cases h),λz=>(by rw[z,e2]at h;cases h)⟩
def au.none0(fr:au K F ρ σ H)(h:H a=none):F.H0 a=none:=by
 cases q:F.H0 a with
 |none=>rfl
 |some o=>rw[fr.kp.st a o q (fr.none_nodk h)]at h;cases h
def jv.hs(fr:au K F ρ σ H)(s:jv F ρ σ H H'):HS H H':=λb o h e=>s b o e
 (λp c d=>by
  obtain⟨_,⟨S,k,e1⟩,ns,e2,_⟩:=fr.kp.dkk p c d
  exact⟨λz=>(by subst z;rw[e1]at e;cases e;cases h),λz=>(by subst z;rw[e2]at e;cases e;cases h)⟩)
 λi s e1 m q=>by
  obtain⟨⟨o',e2,n⟩,_⟩:=fr.own_at e1 m q
  rw[e]at e2;cases e2
  cases o<;>first|exact absurd h cb|exact absurd n cb
def jv.trans(s1:jv F ρ σ H H1)(sb:jw ρ1 ρ)(s2:jv F ρ1 σ H1 H2):jv F ρ σ H H2:=λb o e d n=>
 s2 b o (s1 b o e d n) d λi s e1 m=>by
  obtain⟨s',e2,m'⟩:=sb i s e1 m
  exact n i s' e2 m'
def bh.trans(a:bh K F σ ρ H ρ1 H1)(b:bh K F σ ρ1 H1 ρ2 H2):bh K F σ ρ H ρ2 H2:=⟨b.fr,a.st.trans a.sub b.st,a.sub.trans b.sub,λc o e=>let ⟨o1,e1⟩:=a.tr c o e;b.tr c o1 e1⟩
def bh.refl(fr:au K F ρ σ H):bh K F σ ρ H ρ H:=⟨fr,λ_ _ e _ _=>e,jw.refl _,λ_ o e=>⟨o,e⟩⟩
def bh.hs(a:bh K F σ ρ H ρ1 H1)(fr:au K F ρ σ H):HS H H1:=a.st.hs fr
theorem au.call(fr:au K F ρ σ H)(k:Kp F.dk H H'):au K F ρ σ H':=by
 have own:∀i s a o,ρ[i]?=some s->dZ s=true->dz σ i=some (.ref a)->H a=some o->H' a=some o:=λi s a o e m q h=>
  k.st a o h (fr.fresh_nodk (fr.own_at e m q).2)
 have hs:HS H H':=λb o h e=>k.st b o e λp c d=>by
  obtain⟨_,⟨S,k,e1⟩,ns,e2,_⟩:=fr.kp.dkk p c d
  exact⟨λz=>(by subst z;rw[e1]at e;cases e;cases h),λz=>(by subst z;rw[e2]at e;cases e;cases h)⟩
 refine⟨fr.d0,⟨λb o e n=>k.st b o (fr.kp.st b o e n) n,k.dkk⟩,fr.len,λi s e=>?_,fr.ap⟩
 have h:=fr.at_ i s e
 cases s with
 |no=>trivial
 |va T=>obtain⟨x,e1,v⟩:=h;exact⟨x,e1,v.hs hs⟩
 |own Ts=>obtain⟨a,xs,e1,e2,e3,z,p⟩:=h;exact⟨a,xs,e1,own i _ a _ e rfl e1 e2,e3,z,p.hs hs⟩
 |dct kts=>obtain⟨a,kvs,e1,e2,e3,n,z,p⟩:=h;exact⟨a,kvs,e1,own i _ a _ e rfl e1 e2,e3,n,z,p.hs hs⟩
 |dk=>exact h
theorem Kp.of_same(fr:au K F ρ σ H)(s:ax H H'):Kp F.dk H H':=⟨λb o e _=>s b o e,λp c d=>by
 obtain⟨ne,⟨S,k,e1⟩,ns,e2,l⟩:=fr.kp.dkk p c d
 exact⟨ne,⟨S,k,s _ _ e1⟩,ns,s _ _ e2,l⟩⟩
theorem bh.call(fr:au K F ρ σ H)(k:Kp F.dk H H'):bh K F σ ρ H ρ H':=⟨fr.call k,λb o e d _=>k.st b o e d,jw.refl _,λb o e=>k.tr b o e⟩
def bh.same(fr:au K F ρ σ H)(s:ax H H'):bh K F σ ρ H ρ H':=bh.call fr (Kp.of_same fr s)
end
def bh.non{K:W.Frag}{F:Fm}{ρ ρ1:aT}{σ:St}{H H1:Hp}{a:Addr}(s:bh K F σ ρ H ρ1 H1)(n:H1 a=none):H a=none:=by
 cases e:H a with
 |none=>rfl
 |some o=>
  obtain⟨o',e'⟩:=s.tr a o e
  rw[n]at e';cases e'
abbrev UT:=aT->(Tv->aT->Prop)->Prop
abbrev dg:=aT->(Bool->aT->Prop)->Prop
abbrev d3:=aT->(List Tv->aT->Prop)->Prop
inductive Ar where
 |va (T:Tv)
 |dk
abbrev dq:=aT->(List Ar->aT->Prop)->Prop
def pQ(K:W.Frag)(dk:Option (Addr×Addr))(H:Hp)(x:V):Ar->Prop
 |.va T=>VA K H x T
 |.dk=>∃p c,dk=some (p,c)/\x=.ref p
def fJ(K:W.Frag)(F:Fm)(u:UT):TE:=λσ H QQ=>∃ρ Q,au K F ρ σ H/\u ρ Q/\∀x T H' ρ',bh K F σ ρ H ρ' H'->VA K H' x T->Q T ρ'->QQ x H'
def sJ(K:W.Frag)(F:Fm)(u:dg):TT:=λσ H QQ=>∃ρ Q,au K F ρ σ H/\u ρ Q/\∀b H' ρ',bh K F σ ρ H ρ' H'->Q b ρ'->QQ b H'
def oV(K:W.Frag)(F:Fm)(u:d3):TE:=λσ H QQ=>∃ρ Q,au K F ρ σ H/\u ρ Q/\∀a xs Ts H' ρ',bh K F σ ρ H ρ' H'->H a=none->H' a=some (.lst xs)->Ts.length<=100000->cf K H' xs Ts->Q Ts ρ'->QQ (.ref a) H'
def oW(K:W.Frag)(F:Fm)(u:dq):TA:=λσ H QQ=>∃ρ Q,au K F ρ σ H/\u ρ Q/\∀xs as H' ρ',bh K F σ ρ H ρ' H'->Paired (pQ K F.dk H') xs as->Q as ρ'->QQ xs H'
structure UE (X:Cx) (F:Fm) (e:Expr) (u:UT):Prop where
 pe:PE X e (fJ X.K F u)
structure UB (X:Cx) (F:Fm) (e:Expr) (u:dg):Prop where
 pt:PT X e (sJ X.K F u)
structure UW (X:Cx) (F:Fm) (e:Expr) (u:dg):Prop where
 pw:PW X e (sJ X.K F u)
structure UL (X:Cx) (F:Fm) (e:Expr) (u:d3):Prop where
 pe:PE X e (oV X.K F u)
structure UA (X:Cx) (F:Fm) (es:List Expr) (u:dq):Prop where
 pa:PA X es (oW X.K F u)
def PE.imp{X:Cx}{e:Expr}{t t':TE}(h:PE X e t)(i:∀σ H Q,t' σ H Q->t σ H Q):PE X e t':=λpins s σ H Q I q=>h pins s σ H Q I (i σ H Q q)
def PT.imp{X:Cx}{e:Expr}{t t':TT}(h:PT X e t)(i:∀σ H Q,t' σ H Q->t σ H Q):PT X e t':=λpins s σ H Q I q=>h pins s σ H Q I (i σ H Q q)
def PW.imp{X:Cx}{e:Expr}{t t':TT}(h:PW X e t)(i:∀σ H Q,t' σ H Q->t σ H Q):PW X e t':=λwh pins s σ H Q I q=>h wh pins s σ H Q I (i σ H Q q)
def PA.imp{X:Cx}{es:List Expr}{t t':TA}(h:PA X es t)(i:∀σ H Q,t' σ H Q->t σ H Q):PA X es t':=λpos pins s σ H Q I q=>h pos pins s σ H Q I (i σ H Q q)
def ag.fz{X:Cx}{pins:List (Addr×Obj)}{σ:St}{H:Hp}{s:Shared}{a:Addr}{o:HO}(I:ag X pins σ H s)(h:H a=some o)(n:gk o=true):∃ob,ag X pins σ (ar H a (.frz ob o)) s:=by
 obtain⟨ob,eo⟩:=(I.hok a o h).there
 refine⟨ob,?_⟩
 have keep:∀b u,H b=some u->gk u=false->ar H a (.frz ob o) b=some u:=λb u e m=>by
  rw[bL (λz=>by subst z;rw[h]at e;cases e;rw[n]at m;cases m)];exact e
 have non:∀b,H b=none->ar H a (.frz ob o) b=none:=λb e=>by
  rw[bL (λz=>by subst z;rw[h]at e;cases e)];exact e
 refine⟨I.ok,I.os,I.bare,⟨I.base.keep,I.base.slot,λb o e n hx=>non b (I.base.free b o e n hx),I.base.there,λb xs e=>keep b _ (I.base.tups b xs e) rfl,λb o u e=>keep b _ (I.base.frzs b o u e) rfl,λb ps e=>?_⟩,I.loc,I.cell,non _ I.free,λx c e=>non c (I.freeC x c e),λp hp=>?_,λb u e=>?_,I.len⟩
 ·obtain⟨more,z⟩:=I.base.tbls b ps e
  exact⟨more,keep b _ z rfl⟩
 ·obtain⟨p1,p2,p3⟩:=I.pin p hp
  exact⟨p1,non _ p2,p3⟩
 ·have st:∀b u,aw X.prog X.w H s.heap b u->aw X.prog X.w (ar H a (.frz ob o)) s.heap b u:=λb u x=>x.stay (λ_ _ _ r=>r) (λd r=>keep d _ r rfl) λd xs r=>keep d _ r rfl
  by_cases z:b=a
  ·subst z
   rw[bA]at e
   cases e
   exact⟨eo,st _ _ (I.hok b o h)⟩
  ·rw[bL z]at e
   exact st _ _ (I.hok b u e)
def xy(Q:VK):VK:=λz H=>Q z H\/∃a o,z=.ref a/\H a=some o/\gk o=true/\∀ob,Q z (ar H a (.frz ob o))
def xg(t:TE):TE:=λσ H Q=>t σ H (xy Q)
def EP.fz{X:Cx}{pins:List (Addr×Obj)}{σ:St}{Q:VK}{u:Value}{s:Shared}(h:EP X pins σ (xy Q) u s):EP X pins σ Q u s:=by
 obtain⟨x,H',I,r,q⟩:=h
 rcases q with q|⟨a,o,rfl,e,n,q⟩
 ·exact⟨x,H',I,r,q⟩
 ·obtain⟨ob,I'⟩:=I.fz e n
  exact⟨_,_,I',r,q ob⟩
def PE.fz{X:Cx}{e:Expr}{t:TE}(h:PE X e t):PE X e (xg t):=λpins s σ H Q I q=>bf (h pins s σ H _ I q) λ_ _ z=>z.fz
def g9(K:W.Frag)(H H':Hp)(z:V)(W:Tv):Prop:=ax H H'/\(VA K H' z W\/∃a,z=.ref a/\H a=none /\
 ((∃xs Ts,H' a=some (.lst xs)/\W=.seq false Ts/\Ts.length<=100000/\cf K H' xs Ts)\/∃kvs kts,H' a=some (.dK kvs)/\W=.dct kts/\(kts.map (·.1)).Nodup/\kts.length<64/\e6 K H' kvs kts))
section
variable{K:W.Frag}{F:Fm}{ρ ρ1 ρ2:aT}{σ:St}{H H' H1 H2:Hp}{x y v z:V}{T U W:Tv}{a b:Addr}{o:HO}
def g9.va(v:VA K H z W):g9 K H H z W:=⟨ax.refl _,.inl v⟩
def g9.flat(h:dL z=true):g9 K H H z (.leaf z):=.va (.flat h)
def g9.lst{xs:List V}{Ts:List Tv}(n:H a=none)(z:Ts.length<=100000)(p:cf K H xs Ts):g9 K H (ar H a (.lst xs)) (.ref a) (.seq false Ts):=
 ⟨cB n,.inr ⟨a,rfl,n,.inl ⟨xs,Ts,bA,rfl,z,p.hs (gI n)⟩⟩⟩
def g9.tup{xs:List V}{Ts:List Tv}(n:H a=none)(z:Ts.length<=100000)(p:cf K H xs Ts):g9 K H (ar H a (.tup xs)) (.ref a) (.seq true Ts):=
 ⟨cB n,.inl (VA.seq (t:=true) (cu.of bA) z (p.hs (gI n)))⟩
def bh.frz(fr:au K F ρ σ H)(s:ax H H')(n:H a=none)(e:H' a=some o)(m:gk o=true)(ob:Obj):bh K F σ ρ H ρ (ar H' a (.frz ob o)):=
 bh.same fr λb u q=>by rw[bL (dQ q n)];exact s b u q
def g9.fin(fr:au K F ρ σ H)(r:g9 K H H' z W){QQ:VK}(k:∀H'',bh K F σ ρ H ρ H''->VA K H'' z W->QQ z H''):xy QQ z H':=by
 obtain⟨s,v|⟨a,rfl,n,⟨xs,Ts,e,rfl,l,p⟩|⟨kvs,kts,e,rfl,nd,l,p⟩⟩⟩:=r
 ·exact .inl (k H' (bh.same fr s) v)
 ·refine .inr ⟨a,_,rfl,e,rfl,λob=>k _ (bh.frz fr s n e rfl ob) (VA.seq (t:=false) ⟨ob,bA⟩ l (p.hs (fU e rfl)))⟩
 ·refine .inr ⟨a,_,rfl,e,rfl,λob=>k _ (bh.frz fr s n e rfl ob) (VA.dct ⟨ob,bA⟩ nd l (p.hs (fU e rfl)))⟩
end
abbrev iT(i:Int):Tv:=.leaf (.int i)
abbrev sT(x:Str):Tv:=.leaf (.str x)
abbrev bT(b:Bool):Tv:=.leaf (.bl b)
abbrev nT:Tv:=.leaf .non
abbrev P1:=Tv->(Tv->Prop)->Prop
abbrev P2:=Tv->Tv->(Tv->Prop)->Prop
abbrev Pn:=List Tv->(Tv->Prop)->Prop
section
variable{X:Cx}{F:Fm}
def fX(i:Nat):UT:=λρ Q=>match ρ[i]? with
 |some (.va T)=>Q T ρ
 |some (.own Ts)=>Q (.seq false Ts) (ρ.set i (.va (.seq false Ts)))
 |some (.dct kts)=>Q (.dct kts) (ρ.set i (.va (.dct kts)))
 |_=>False
def iO{σ:St}{i:Nat}{x:V}(h:dz σ i=some x):σ[i]?=some (some x):=by
 unfold dz at h
 cases q:σ[i]? with
 |none=>rw[q]at h;cases h
 |some o=>rw[q]at h;cases o with
  |none=>cases h
  |some y=>cases h;rfl
def GL{σ:St}{i:Nat}{x:V}(h:σ[i]?=some (some x)):dz σ i=some x:=by
 unfold dz;rw[h];rfl
def au.fzs{K:W.Frag}{ρ:aT}{σ:St}{H:Hp}{i:Nat}{s:Sl}{a:Addr}{o:HO}{T:Tv}(fr:au K F ρ σ H)(e:ρ[i]?=some s)(m:dZ s=true)(q:dz σ i=some (.ref a))(h:H a=some o)(n:gk o=true)(ob:Obj)
  (v:VA K (ar H a (.frz ob o)) (.ref a) T):bh K F σ ρ H (ρ.set i (.va T)) (ar H a (.frz ob o)):=by
 have hi:i<ρ.length:=(qy_.mp e).1
 have h0:=(fr.own_at e m q).2
 have hd:=fr.fresh_nodk h0
 have hs:HS H (ar H a (.frz ob o)):=fU h (by cases o<;>first|rfl|exact absurd n cb)
 have st:∀b u,b≠a->H b=some u->ar H a (.frz ob o) b=some u:=λb u z e=>by rw[bL z];exact e
 refine⟨⟨fr.d0,⟨λb u e1 n1=>st b u (λz=>by rw[z,h0]at e1;cases e1) (fr.kp.st b u e1 n1),λp c d=>?_⟩,by rw[ib];exact fr.len,λj s' e'=>?_,λj k b s' t' e1 e2 m1 m2 q1 q2=>?_⟩,λb u e1 _ n1=>st b u (λz=>n1 i s e m (by rw[z];exact q)) e1,λj s' e' m'=>?_,λb u e1=>if z:b=a then⟨.frz ob o,z▸bA⟩ else⟨u,st b u z e1⟩⟩
 ·obtain⟨ne,⟨S,k,e1⟩,ns,e2,l⟩:=fr.kp.dkk p c d
  exact⟨ne,⟨S,k,st _ _ (hd p c d).1.symm e1⟩,ns,st _ _ (hd p c d).2.symm e2,l⟩
 ·by_cases z:i=j
  ·subst z
   rw[fu hi]at e'
   cases e'
   exact⟨_,q,v⟩
  ·rw[gi z]at e'
   have x:=fr.at_ j s' e'
   cases s' with
   |no=>trivial
   |va T=>obtain⟨y,e1,v⟩:=x;exact⟨y,e1,v.hs hs⟩
   |own Ts=>obtain⟨b,xs,e1,e2,e3,z',p⟩:=x;exact⟨b,xs,e1,st _ _ (λy=>z (fr.ap i j a s _ e e' m rfl q (by rw[e1,y]))) e2,e3,z',p.hs hs⟩
   |dct kts=>obtain⟨b,kvs,e1,e2,e3,n',z',p⟩:=x;exact⟨b,kvs,e1,st _ _ (λy=>z (fr.ap i j a s _ e e' m rfl q (by rw[e1,y]))) e2,e3,n',z',p.hs hs⟩
   |dk=>exact x
 ·by_cases z1:i=j
  ·subst z1;rw[fu hi]at e1;cases e1;cases m1
  ·by_cases z2:i=k
   ·subst z2;rw[fu hi]at e2;cases e2;cases m2
   ·rw[gi z1]at e1
    rw[gi z2]at e2
    exact fr.ap j k b s' t' e1 e2 m1 m2 q1 q2
 ·by_cases z:i=j
  ·subst z;rw[fu hi]at e';cases e';cases m'
  ·rw[gi z]at e';exact⟨s',e',m'⟩
def aC(i:Nat){x:Str}{pos:Pos}(hN:X.N[i]?=some x:=by rfl)(hv:nz X.env.scope x:=by first|exact Or.inl rfl|exact Or.inr (Or.inl rfl)|exact Or.inr (Or.inr rfl))(hd:(x==("__debug__":Str))=false:=by decide)(hcd:(x==("__classdict__":Str))=false:=by decide):
  UE X F (.Name x pos) (fX i):=by
 refine⟨PE.imp (PE.fz (jV hN hv hd hcd)) ?_⟩
 rintro σ H QQ ⟨ρ,Q,fr,h,k⟩
 unfold fX at h
 split at h
 ·rename_i T e
  obtain⟨y,e1,v⟩:=fr.at_ i _ e
  exact⟨y,iO e1,.inl (k y T H ρ (bh.refl fr) v h)⟩
 ·rename_i Ts e
  obtain⟨a,xs,e1,e2,e3,z,p⟩:=fr.at_ i _ e
  refine⟨_,iO e1,.inr ⟨a,_,rfl,e2,rfl,λob=>?_⟩⟩
  have v:VA X.K (ar H a (.frz ob (.lst xs))) (.ref a) (.seq false Ts):=VA.seq (t:=false) ⟨ob,bA⟩ z (p.hs (fU e2 rfl))
  exact k _ _ _ _ (fr.fzs e rfl e1 e2 rfl ob v) v h
 ·rename_i kts e
  obtain⟨a,kvs,e1,e2,e3,n,z,p⟩:=fr.at_ i _ e
  refine⟨_,iO e1,.inr ⟨a,_,rfl,e2,rfl,λob=>?_⟩⟩
  have v:VA X.K (ar H a (.frz ob (.dK kvs))) (.ref a) (.dct kts):=VA.dct ⟨ob,bA⟩ n z (p.hs (fU e2 rfl))
  exact k _ _ _ _ (fr.fzs e rfl e1 e2 rfl ob v) v h
 ·exact False.elim h
def uC(T:Tv):UT:=λρ Q=>Q T ρ
def sL{e:Expr}{v:V}(h:PE X e (tC v))(f:dL v=true):UE X F e (uC (.leaf v)):=⟨PE.imp h λσ H QQ ⟨ρ,Q,fr,h,k⟩=>k v (.leaf v) H ρ (bh.refl fr) (.flat f) h⟩
def aG{i j pos}:UE X F (.Constant (.int i) j pos) (uC (iT i)):=sL cL rfl
def gO{b j pos}:UE X F (.Constant (.bool b) j pos) (uC (bT b)):=sL FL rfl
def hJ{j pos}:UE X F (.Constant .none j pos) (uC nT):=sL Gf rfl
def aY{x j pos}:UE X F (.Constant (.str x) j pos) (uC (sT x)):=sL AE rfl
def IQ{x:Str}{v:V}{u:Value}{T:Tv}{pos:Pos}(hg:Gl X x)(hm:X.mg x=some u)(r:ai v u)(hv:∀H,VA X.K H v T)(hd:(x==("__debug__":Str))=false:=by decide):UE X F (.Name x pos) (uC T):=
 ⟨PE.imp (BV hg hm r hd) λσ H QQ ⟨ρ,Q,fr,h,k⟩=>k v T H ρ (bh.refl fr) (hv H) h⟩
def tS(K:W.Frag)(r:P2)(r':R2):Prop:=∀x y T U H Q (QQ:VK),VA K H x T->VA K H y U->r T U Q->(∀z W H',g9 K H H' z W->Q W->QQ z H')->r' x y H QQ
def gA(X:Cx)(f:Value->Value->Sem Value)(r:P2):Prop:=∃r',cg X f r'/\tS X.K r r'
def jx(r:P2)(ua ub:UT):UT:=λρ Q=>ua ρ λa ρ1=>ub ρ1 λb ρ2=>r a b λc=>Q c ρ2
def wI{r:P2}{r':R2}{ua ub:UT}(hr:tS X.K r r')(σ:St)(H:Hp)(QQ:VK)(h:fJ X.K F (jx r ua ub) σ H QQ):xg (sa r' (fJ X.K F ua) (fJ X.K F ub)) σ H QQ:=by
 obtain⟨ρ,Q,fr,h,k⟩:=h
 refine⟨ρ,_,fr,h,λx T H1 ρ1 s1 v1 q1=>⟨ρ1,_,s1.fr,q1,λy U H2 ρ2 s2 v2 q2=>?_⟩⟩
 refine hr x y T U H2 _ _ (v1.hs (s2.hs s1.fr)) v2 q2 λz W H' rw q=>rw.fin s2.fr λH'' s3 v3=>k _ _ _ _ ((s1.trans s2).trans s3) v3 q
variable{a b c:Expr}{ua ub uc:UT}{pos:Pos}
def bN{op:Operator}{r:P2}(ho:gA X (binaryOp op) r)(ha:UE X F a ua)(hb:UE X F b ub):UE X F (.BinOp a op b pos) (jx r ua ub):=by
 obtain⟨r',o,hr⟩:=ho
 exact⟨PE.imp (PE.fz (cO o ha.pe hb.pe)) (wI hr)⟩
def G9{op:CmpOp}{r:P2}(ho:gA X (compareOp op) r)(ha:UE X F a ua)(hb:UE X F b ub)(hm:behindInMarks op b=false):UE X F (.Compare a [op] [b] pos) (jx r ua ub):=by
 obtain⟨r',o,hr⟩:=ho
 exact⟨PE.imp (PE.fz (Jm o ha.pe hb.pe hm)) (wI hr)⟩
def uB(u:UT):dg:=λρ Q=>u ρ λT ρ'=>∃b,T=bT b/\Q b ρ'
def GX{e:Expr}{t:TE}{u:UT}(h:PT X e (AS t))(i:∀σ H QQ,fJ X.K F u σ H QQ->t σ H QQ):UB X F e (uB u):=⟨PT.imp h λσ H QQ ⟨ρ,Q,fr,h,k⟩=>by
 refine i σ H _ ⟨ρ,_,fr,h,λx T H' ρ' s v q=>?_⟩
 obtain⟨b,rfl,q⟩:=q
 obtain⟨e,_⟩:=v.leafI
 exact⟨b,e,k b H' ρ' s q⟩⟩
def kj(K:W.Frag)(r:P2)(r':R2):Prop:=∀x y T U H Q (QQ:VK),VA K H x T->VA K H y U->r T U Q->(∀z W H',ax H H'->VA K H' z W->Q W->QQ z H')->r' x y H QQ
def cp(X:Cx)(f:Value->Value->Sem Value)(r:P2):Prop:=∃r',cg X f r'/\kj X.K r r'
def kj.raw{K:W.Frag}{r:P2}{r':R2}(h:kj K r r'):tS K r r':=λx y T U H Q QQ vx vy q k=>h x y T U H Q QQ vx vy q λz W H' s v q'=>k z W H' ⟨s,.inl v⟩ q'
def cp.op{f:Value->Value->Sem Value}{r:P2}(h:cp X f r):gA X f r:=by
 obtain⟨r',o,h⟩:=h
 exact⟨r',o,h.raw⟩
def Kt{r:P2}{r':R2}{ua ub:UT}(hr:kj X.K r r')(σ:St)(H:Hp)(QQ:VK)(h:fJ X.K F (jx r ua ub) σ H QQ):sa r' (fJ X.K F ua) (fJ X.K F ub) σ H QQ:=by
 obtain⟨ρ,Q,fr,h,k⟩:=h
 refine⟨ρ,_,fr,h,λx T H1 ρ1 s1 v1 q1=>⟨ρ1,_,s1.fr,q1,λy U H2 ρ2 s2 v2 q2=>?_⟩⟩
 exact hr x y T U H2 _ _ (v1.hs (s2.hs s1.fr)) v2 q2 λz W H' s v q=>k _ _ _ _ ((s1.trans s2).trans (bh.same s2.fr s)) v q
def wW{op:CmpOp}{r:P2}(ho:cp X (compareOp op) r)(ha:UE X F a ua)(hb:UE X F b ub)(hm:behindInMarks op b=false):UB X F (.Compare a [op] [b] pos) (uB (jx r ua ub)):=by
 obtain⟨r',o,hr⟩:=ho
 exact GX (wC o ha.pe hb.pe hm) (Kt hr)
def y9(X:Cx)(f:Value->Sem Value)(r:P1):Prop:=∃r',w6 X f r'/\∀x T H Q (QQ:VK),VA X.K H x T->r T Q->(∀z W,VA X.K H z W->Q W->QQ z H)->r' x H QQ
def Ng(r:P1)(ua:UT):UT:=λρ Q=>ua ρ λa ρ1=>r a λc=>Q c ρ1
def AW{op:UnaryOp}{r:P1}(ho:y9 X (unaryOp op) r)(ha:UE X F a ua):UE X F (.UnaryOp op a pos) (Ng r ua):=by
 obtain⟨r',o,hr⟩:=ho
 refine⟨PE.imp (xL o ha.pe) ?_⟩
 rintro σ H QQ ⟨ρ,Q,fr,h,k⟩
 exact⟨ρ,_,fr,h,λx T H1 ρ1 s1 v1 q1=>hr x T H1 _ _ v1 q1 λz W v q=>k _ _ _ _ s1 v q⟩
def x5:P1
 |.leaf (.int i),Q=>Q (iT (-i))
 |_,_=>False
def AG:y9 X (unaryOp .USub) x5:=⟨_,wV,λx T H Q QQ v h k=>by
 unfold x5 at h
 split at h
 ·obtain⟨rfl,_⟩:=v.leafI
  exact⟨_,rfl,k _ _ (.flat rfl) h⟩
 ·exact False.elim h⟩
def Fj(ua ub:UT):UT:=λρ Q=>ua ρ λa ρ1=>∃c,a=bT c/\if c=true then ub ρ1 Q else Q (bT false) ρ1
def mC{op}{u:UT}(h:UE X F a u):UE X F (.BoolOp op [a] pos) u:=⟨Gg h.pe⟩
def iY{rest:List Expr}(ha:UE X F a ua)(hb:UE X F (.BoolOp .And (b::rest) pos) ub):UE X F (.BoolOp .And (a::b::rest) pos) (Fj ua ub):=⟨PE.imp (Gd ha.pe hb.pe) λσ H QQ ⟨ρ,Q,fr,h,k⟩=>by
 refine⟨ρ,_,fr,h,λx T H1 ρ1 s1 v1 q1=>?_⟩
 obtain⟨c,rfl,q1⟩:=q1
 obtain⟨e,_⟩:=v1.leafI
 refine⟨c,e,?_⟩
 cases c with
 |false=>rw[if_neg cb]at q1 ⊢;exact k _ _ _ _ s1 (.flat rfl) q1
 |true=>rw[if_pos rfl]at q1 ⊢;exact⟨ρ1,_,s1.fr,q1,λy U H2 ρ2 s2 v2 q2=>k _ _ _ _ (s1.trans s2) v2 q2⟩⟩
def Eb(t u:dg):dg:=λρ Q=>t ρ λc ρ1=>if c=true then u ρ1 Q else Q false ρ1
def Ni(t u:dg):dg:=λρ Q=>t ρ λc ρ1=>if c=true then Q true ρ1 else u ρ1 Q
def Ee(t:dg):dg:=λρ Q=>t ρ λc ρ1=>Q (!c) ρ1
variable{ta tb:dg}{rest:List Expr}
def nQ(ha:UB X F a ta):UW X F (.BoolOp .And [a] pos) ta:=⟨Iw ha.pt⟩
def hC(ha:UB X F a ta):UW X F (.BoolOp .Or [a] pos) ta:=⟨Ij ha.pt⟩
def mB(ha:UB X F a ta)(hb:UW X F (.BoolOp .And (b::rest) pos) tb):UW X F (.BoolOp .And (a::b::rest) pos) (Eb ta tb):=⟨PW.imp (Ii ha.pt hb.pw) λσ H QQ ⟨ρ,Q,fr,h,k⟩=>by
 refine⟨ρ,_,fr,h,λc H1 ρ1 s1 q1=>?_⟩
 cases c with
 |false=>rw[if_neg cb]at q1 ⊢;exact k _ _ _ s1 q1
 |true=>rw[if_pos rfl]at q1 ⊢;exact⟨ρ1,_,s1.fr,q1,λy H2 ρ2 s2 q2=>k _ _ _ (s1.trans s2) q2⟩⟩
def gL(ha:UB X F a ta)(hb:UW X F (.BoolOp .Or (b::rest) pos) tb):UW X F (.BoolOp .Or (a::b::rest) pos) (Ni ta tb):=⟨PW.imp (EU ha.pt hb.pw) λσ H QQ ⟨ρ,Q,fr,h,k⟩=>by
 refine⟨ρ,_,fr,h,λc H1 ρ1 s1 q1=>?_⟩
 cases c with
 |true=>rw[if_pos rfl]at q1 ⊢;exact k _ _ _ s1 q1
 |false=>rw[if_neg cb]at q1 ⊢;exact⟨ρ1,_,s1.fr,q1,λy H2 ρ2 s2 q2=>k _ _ _ (s1.trans s2) q2⟩⟩
def eO{e:Expr}{t:dg}(h:UW X F e t):UB X F e t:=⟨h.pw.pt⟩
def hX(ha:UB X F a ta):UB X F (.UnaryOp .Not a pos) (Ee ta):=⟨PT.imp (Ib ha.pt) λσ H QQ ⟨ρ,Q,fr,h,k⟩=>⟨ρ,_,fr,h,λc H1 ρ1 s1 q1=>k _ _ _ s1 q1⟩⟩
def cK{e:Expr}{u:UT}(h:UE X F e u)(he:∀whole,isTrue e X.env whole=(do let v <- whole;standAt e.pos;holding [v] (truthy v)):=by intro _;rfl):UB X F e (uB u):=⟨PT.imp (Ic h.pe he) λσ H QQ ⟨ρ,Q,fr,h,k⟩=>by
 refine⟨ρ,_,fr,h,λx T H' ρ' s v q=>?_⟩
 obtain⟨b,rfl,q⟩:=q
 obtain⟨e,_⟩:=v.leafI
 exact⟨b,e,k b H' ρ' s q⟩⟩
def Nl(t:dg)(ua ub:UT):UT:=λρ Q=>t ρ λc ρ1=>if c=true then ua ρ1 Q else ub ρ1 Q
def vB(hc:UB X F c ta)(ha:UE X F a ua)(hb:UE X F b ub):UE X F (.IfExp c a b pos) (Nl ta ua ub):=⟨PE.imp (JN hc.pt ha.pe hb.pe) λσ H QQ ⟨ρ,Q,fr,h,k⟩=>by
 refine⟨ρ,_,fr,h,λc H1 ρ1 s1 q1=>?_⟩
 cases c with
 |true=>rw[if_pos rfl]at q1 ⊢;exact⟨ρ1,_,s1.fr,q1,λy U H2 ρ2 s2 v2 q2=>k _ _ _ _ (s1.trans s2) v2 q2⟩
 |false=>rw[if_neg cb]at q1 ⊢;exact⟨ρ1,_,s1.fr,q1,λy U H2 ρ2 s2 v2 q2=>k _ _ _ _ (s1.trans s2) v2 q2⟩⟩
def gQ:dq:=λρ Q=>Q [] ρ
def iD(u:UT)(t:dq):dq:=λρ Q=>u ρ λT ρ1=>t ρ1 λas ρ2=>Q (.va T::as) ρ2
def Nm(i:Nat)(t:dq):dq:=λρ Q=>ρ[i]?=some .dk/\t ρ λas ρ2=>Q (.dk::as) ρ2
def aE:UA X F [] gQ:=⟨PA.imp dD λσ H QQ ⟨ρ,Q,fr,h,k⟩=>k [] [] H ρ (bh.refl fr) .nil h⟩
def aD{e:Expr}{es:List Expr}{u:UT}{t:dq}(ha:UE X F e u)(hr:UA X F es t)(h:dO e=false:=by rfl):UA X F (e::es) (iD u t):=⟨PA.imp (cT ha.pe hr.pa h) λσ H QQ ⟨ρ,Q,fr,h,k⟩=>by
 refine⟨ρ,_,fr,h,λx T H1 ρ1 s1 v1 q1=>⟨ρ1,_,s1.fr,q1,λxs as H2 ρ2 s2 p2 q2=>?_⟩⟩
 exact k _ _ _ _ (s1.trans s2) (.cons (b:=Ar.va T) (v1.hs (s2.hs s1.fr)) p2) q2⟩
def bZ(i:Nat){x:Str}{pos:Pos}{es:List Expr}{t:dq}(hr:UA X F es t)(hN:X.N[i]?=some x:=by rfl)(hv:nz X.env.scope x:=by first|exact Or.inl rfl|exact Or.inr (Or.inl rfl)|exact Or.inr (Or.inr rfl))(hd:(x==("__debug__":Str))=false:=by decide)(hcd:(x==("__classdict__":Str))=false:=by decide):
  UA X F (.Name x pos::es) (Nm i t):=⟨PA.imp (cT (jV hN hv hd hcd) hr.pa rfl) λσ H QQ ⟨ρ,Q,fr,⟨e,h⟩,k⟩=>by
 obtain⟨p,c,ed,ex⟩:=fr.at_ i _ e
 refine⟨_,iO ex,ρ,_,fr,h,λxs as H2 ρ2 s2 p2 q2=>?_⟩
 exact k _ _ _ _ s2 (.cons (b:=Ar.dk) ⟨p,c,ed,rfl⟩ p2) q2⟩
def xc:List Ar->(List Tv->Prop)->Prop
 |[],Q=>Q []
 |.va T::as,Q=>xc as λTs=>Q (T::Ts)
 |.dk::_,_=>False
def iW:∀{as:List Ar}{Q:List Tv->Prop},xc as Q->∃Ts,as=Ts.map Ar.va/\Q Ts
 |[],_,h=>⟨[],rfl,h⟩
 |.va T::as,Q,h=>by
  obtain⟨Ts,rfl,q⟩:=iW (as:=as) (Q:=λTs=>Q (T::Ts)) h
  exact⟨T::Ts,rfl,q⟩
 |.dk::_,_,h=>False.elim h
def qd(ua:dq):d3:=λρ Q=>ua ρ λas ρ1=>xc as λTs=>Q Ts ρ1
def iX{K:W.Frag}{dk:Option (Addr×Addr)}{H:Hp}:∀{xs:List V}{Ts:List Tv},Paired (pQ K dk H) xs (Ts.map Ar.va)->cf K H xs Ts
 |[],[],_=>.nil
 |_::_,_::_,.cons r t=>.cons r (iX t)
def FP(ua:dq):UT:=λρ Q=>qd ua ρ λTs ρ1=>Ts.length<=100000/\Q (.seq true Ts) ρ1
def Ed(ua:dq):d3:=λρ Q=>qd ua ρ λTs ρ1=>Ts.length<=100000/\Q Ts ρ1
def gY{n:Nat}(h:n<=100000):n<=sizeLine:=by rw[sizeLine_eq];omega
def wH{n:Nat}(h:n<100000):n<sizeLine:=by rw[sizeLine_eq];omega
def cA{es:List Expr}{t:dq}{x1}(h:UA X F es t):UE X F (.Tuple es x1 pos) (FP t):=⟨PE.imp (Gi h.pa) λσ H QQ ⟨ρ,Q,fr,h,k⟩=>by
 refine⟨ρ,_,fr,h,λxs as H1 ρ1 s1 p1 q1=>?_⟩
 obtain⟨Ts,rfl,z,q⟩:=iW q1
 have p:=iX p1
 have l:xs.length=Ts.length:=Paired.length p
 refine⟨gY (by omega),λa n=>?_⟩
 have r:=g9.tup (K:=X.K) n z p
 exact k _ _ _ _ (s1.trans (bh.same s1.fr r.1)) (VA.seq (t:=true) (cu.of bA) z (p.hs (gI n))) q⟩
def cD{es:List Expr}{t:dq}(h:UA X F es t):UL X F (.List es pos) (Ed t):=⟨PE.imp (AD h.pa) λσ H QQ ⟨ρ,Q,fr,h,k⟩=>by
 refine⟨ρ,_,fr,h,λxs as H1 ρ1 s1 p1 q1=>?_⟩
 obtain⟨Ts,rfl,z,q⟩:=iW q1
 have p:=iX p1
 have l:xs.length=Ts.length:=Paired.length p
 refine⟨gY (by omega),λa n=>?_⟩
 exact k _ _ _ _ _ (s1.trans (bh.same s1.fr (cB n))) (s1.non n) bA z (p.hs (gI n)) q⟩
end
def au.fzn{K:W.Frag}{F:Fm}{ρ:aT}{σ:St}{H:Hp}{a:Addr}{o:HO}(fr:au K F ρ σ H)(h:H a=some o)(n:gk o=true)(h0:F.H0 a=none)(na:∀(i:Nat) (s:Sl),ρ[i]?=some s->dZ s=true->dz σ i≠some (.ref a))(o':HO):au K F ρ σ (ar H a o'):=by
 have hd:=fr.fresh_nodk h0
 have hs:HS H (ar H a o'):=fU h (by cases o<;>first|rfl|exact absurd n cb)
 have st:∀b u,b≠a->H b=some u->ar H a o' b=some u:=λb u z e=>by rw[bL z];exact e
 refine⟨fr.d0,⟨λb u e1 n1=>st b u (λz=>by rw[z,h0]at e1;cases e1) (fr.kp.st b u e1 n1),λp c d=>?_⟩,fr.len,λj s' e'=>?_,fr.ap⟩
 ·obtain⟨ne,⟨S,k,e1⟩,ns,e2,l⟩:=fr.kp.dkk p c d
  exact⟨ne,⟨S,k,st _ _ (hd p c d).1.symm e1⟩,ns,st _ _ (hd p c d).2.symm e2,l⟩
 ·have x:=fr.at_ j s' e'
  cases s' with
  |no=>trivial
  |va T=>obtain⟨y,e1,v⟩:=x;exact⟨y,e1,v.hs hs⟩
  |own Ts=>obtain⟨b,xs,e1,e2,e3,z',p⟩:=x;exact⟨b,xs,e1,st _ _ (λy=>na j _ e' rfl (by rw[e1,y])) e2,e3,z',p.hs hs⟩
  |dct kts=>obtain⟨b,kvs,e1,e2,e3,n',z',p⟩:=x;exact⟨b,kvs,e1,st _ _ (λy=>na j _ e' rfl (by rw[e1,y])) e2,e3,n',z',p.hs hs⟩
  |dk=>exact x
def bh.notown{K:W.Frag}{F:Fm}{ρ ρ1:aT}{σ:St}{H H1:Hp}{a:Addr}(s:bh K F σ ρ H ρ1 H1)(fr:au K F ρ σ H)(n:H a=none):∀(i:Nat) (s:Sl),ρ1[i]?=some s->dZ s=true->dz σ i≠some (.ref a):=λi s' e m q=>by
 obtain⟨s0,e0,m0⟩:=s.sub i s' e m
 obtain⟨⟨o,e1,_⟩,_⟩:=fr.own_at e0 m0 q
 rw[n]at e1;cases e1
def bh.put{K:W.Frag}{F:Fm}{ρ ρ1:aT}{σ:St}{H H1:Hp}{a:Addr}{o:HO}(s:bh K F σ ρ H ρ1 H1)(fr:au K F ρ σ H)(n:H a=none)(e:H1 a=some o)(m:gk o=true)(o':HO):bh K F σ ρ H ρ1 (ar H1 a o'):=
 ⟨s.fr.fzn e m (fr.none0 n) (s.notown fr n) o',λb u q d n1=>by rw[bL (dQ q n)];exact s.st b u q d n1,s.sub,λb u q=>by rw[bL (dQ q n)];exact s.tr b u q⟩
section
variable{X:Cx}{F:Fm}{e:Expr}{pos:Pos}
def uL(u:d3):UT:=λρ Q=>u ρ λTs ρ1=>Q (.seq false Ts) ρ1
def bE{u:d3}(h:UL X F e u):UE X F e (uL u):=⟨PE.imp (PE.fz h.pe) λσ H QQ ⟨ρ,Q,fr,h,k⟩=>⟨ρ,_,fr,h,λa xs Ts H' ρ' s n e z p q=>
 .inr ⟨a,_,rfl,e,rfl,λob=>k _ _ _ _ (s.put fr n e rfl (.frz ob (.lst xs))) (VA.seq (t:=false) ⟨ob,bA⟩ z (p.hs (fU e rfl))) q⟩⟩⟩
def y6(K:W.Frag)(r:Pn)(r':List V->Hp->VK->Prop):Prop:=∀xs Ts H Q (QQ:VK),cf K H xs Ts->r Ts Q->(∀z W H',g9 K H H' z W->Q W->QQ z H')->r' xs H QQ
def iB(X:Cx)(f:Value)(r:Pn):Prop:=∃r',aq X f r'/\y6 X.K r r'
def r_(r:Pn)(ua:dq):UT:=λρ Q=>qd ua ρ λTs ρ1=>r Ts λW=>Q W ρ1
def Ai{r:Pn}{r':List V->Hp->VK->Prop}{ua:dq}(hr:y6 X.K r r')(σ:St)(H:Hp)(QQ:VK)(h:fJ X.K F (r_ r ua) σ H QQ):xg (wu r' (oW X.K F ua)) σ H QQ:=by
 obtain⟨ρ,Q,fr,h,k⟩:=h
 refine⟨ρ,_,fr,h,λxs as H1 ρ1 s1 p1 q1=>?_⟩
 obtain⟨Ts,rfl,q⟩:=iW q1
 exact hr xs Ts H1 _ _ (iX p1) q λz W H' rw q=>rw.fin s1.fr λH'' s3 v3=>k _ _ _ _ (s1.trans s3) v3 q
variable{es:List Expr}{x:Str}{p:Pos}{ua:dq}
def bF{id:String}{r:Pn}(hc:iB X (.builtin id) r)(hg:Gl X x)(hm:X.mg x=none)(hv:bootBuiltins x=some (.builtin id))(ha:UA X F (e::es) ua)(hn:x≠"__name__":=by decide)(hdb:(x==("__debug__":Str))=false:=by decide)
  (he:starEach (e::es) X.env=(false,eval e X.env)::starEach es X.env:=by rfl) (hpl:(backTo pos (starEach es X.env)).any (·.1)=false:=by rfl):UE X F (.Call (.Name x p) (e::es) [] pos) (r_ r ua):=by
 obtain⟨r',o,hr⟩:=hc
 exact⟨PE.imp (PE.fz (iN o hg hm hv ha.pa hn hdb he hpl)) (Ai hr)⟩
def fO{id:String}{r:Pn}(hc:iB X (.type id) r)(hg:Gl X x)(hm:X.mg x=none)(hv:bootBuiltins x=some (.type id))(ha:UA X F (e::es) ua)(hn:x≠"__name__":=by decide)(hdb:(x==("__debug__":Str))=false:=by decide)
  (he:starEach (e::es) X.env=(false,eval e X.env)::starEach es X.env:=by rfl) (hpl:(backTo pos (starEach es X.env)).any (·.1)=false:=by rfl):UE X F (.Call (.Name x p) (e::es) [] pos) (r_ r ua):=by
 obtain⟨r',o,hr⟩:=hc
 exact⟨PE.imp (PE.fz (gD o hg hm hv ha.pa hn hdb he hpl)) (Ai hr)⟩
def y4(K:W.Frag)(r:List Tv->(List Tv->Prop)->Prop)(r':List V->Hp->VK->Prop):Prop:=∀xs Ts H Q (QQ:VK),cf K H xs Ts->r Ts Q->(∀a ys Us H',ax H H'->H a=none->H' a=some (.lst ys)->Us.length<=100000->cf K H' ys Us->Q Us->QQ (.ref a) H')->r' xs H QQ
def oC(X:Cx)(f:Value)(r:List Tv->(List Tv->Prop)->Prop):Prop:=∃r',aq X f r'/\y4 X.K r r'
def xf(r:List Tv->(List Tv->Prop)->Prop)(ua:dq):d3:=λρ Q=>qd ua ρ λTs ρ1=>r Ts λUs=>Q Us ρ1
def Aj{r:List Tv->(List Tv->Prop)->Prop}{r':List V->Hp->VK->Prop}{ua:dq}(hr:y4 X.K r r')(σ:St)(H:Hp)(QQ:VK)(h:oV X.K F (xf r ua) σ H QQ):wu r' (oW X.K F ua) σ H QQ:=by
 obtain⟨ρ,Q,fr,h,k⟩:=h
 refine⟨ρ,_,fr,h,λxs as H1 ρ1 s1 p1 q1=>?_⟩
 obtain⟨Ts,rfl,q⟩:=iW q1
 exact hr xs Ts H1 _ _ (iX p1) q λa ys Us H' sm n e z p q=>k _ _ _ _ _ (s1.trans (bh.same s1.fr sm)) (s1.non n) e z p q
def vA{id:String}{r:List Tv->(List Tv->Prop)->Prop}(hc:oC X (.builtin id) r)(hg:Gl X x)(hm:X.mg x=none)(hv:bootBuiltins x=some (.builtin id))(ha:UA X F (e::es) ua)(hn:x≠"__name__":=by decide)(hdb:(x==("__debug__":Str))=false:=by decide)
  (he:starEach (e::es) X.env=(false,eval e X.env)::starEach es X.env:=by rfl) (hpl:(backTo pos (starEach es X.env)).any (·.1)=false:=by rfl):UL X F (.Call (.Name x p) (e::es) [] pos) (xf r ua):=by
 obtain⟨r',o,hr⟩:=hc
 exact⟨PE.imp (iN o hg hm hv ha.pa hn hdb he hpl) (Aj hr)⟩
def qF{id:String}{r:List Tv->(List Tv->Prop)->Prop}(hc:oC X (.type id) r)(hg:Gl X x)(hm:X.mg x=none)(hv:bootBuiltins x=some (.type id))(ha:UA X F (e::es) ua)(hn:x≠"__name__":=by decide)(hdb:(x==("__debug__":Str))=false:=by decide)
  (he:starEach (e::es) X.env=(false,eval e X.env)::starEach es X.env:=by rfl) (hpl:(backTo pos (starEach es X.env)).any (·.1)=false:=by rfl):UL X F (.Call (.Name x p) (e::es) [] pos) (xf r ua):=by
 obtain⟨r',o,hr⟩:=hc
 exact⟨PE.imp (gD o hg hm hv ha.pa hn hdb he hpl) (Aj hr)⟩
abbrev bu:=List Ar->(Tv->Prop)->Prop
def xM(K:W.Frag)(psp:bu):Sp:=λvs H Q _=>∃dk as R,(∀p c,dk=some (p,c)->bj H p c)/\Paired (pQ K dk H) vs as/\psp as R/\∀x T H',Kp dk H H'->VA K H' x T->R T->Q x H'
def ae(P:Program)(w:World)(K:W.Frag)(mg:Str->Option Value)(base:Heap)(k:Nat)(x:Str)(ps:List Str)(psp:bu):Prop:=cv P w K mg base k x ps (xM K psp)
def ae.imp{P:Program}{w:World}{K:W.Frag}{mg:Str->Option Value}{base:Heap}{k:Nat}{ps:List Str}{psp psp':bu}(G:ae P w K mg base k x ps psp)(h:∀as R,psp' as R->psp as R):ae P w K mg base k x ps psp':=
 cv.imp G λvs H Q E ⟨dk,as,R,d,p,q,r⟩=>⟨dk,as,R,d,p,h as R q,r⟩
def ae.mono{P:Program}{w:World}{K:W.Frag}{mg:Str->Option Value}{base:Heap}{j k:Nat}{ps:List Str}{psp:bu}(G:ae P w K mg base j x ps psp)(h:j<=k):ae P w K mg base k x ps psp:=cv.mono G h
def kS(psp:bu)(ua:dq):UT:=λρ Q=>ua ρ λas ρ1=>psp as λW=>Q W ρ1
theorem KZ{psp:bu}{ua:dq}(σ:St)(H:Hp)(QQ:VK)(h:fJ X.K F (kS psp ua) σ H QQ):mH (xM X.K psp) [] E0 (oW X.K F ua) σ H QQ:=by
 obtain⟨ρ,Q,fr,h,k⟩:=h
 refine⟨ρ,_,fr,h,λxs as H1 ρ1 s1 p1 q1=>?_⟩
 show xM X.K psp (xs++[]) H1 QQ E0
 rw[jb]
 exact⟨F.dk,as,_,s1.fr.kp.dkk,p1,q1,λz W H' kp v q=>k _ _ _ _ (s1.trans (bh.call s1.fr kp)) v q⟩
def GY{k:Nat}{ps:List Str}{psp:bu}(G:ae X.prog X.w X.K X.mg X.base k x ps psp)(hr:bt k X.A)(hg:Gl X x)(ha:UA X F (e::es) ua)(hdb:(x==("__debug__":Str))=false:=by decide)
  (hst:dO e=false:=by rfl) (hpl:(backTo pos (starEach es X.env)).any (·.1)=false:=by rfl):UE X F (.Call (.Name x p) (e::es) [] pos) (kS psp ua):=
 ⟨PE.imp (oS G hr hg ha.pa hdb hst hpl) KZ⟩
theorem zo{k:Nat}{ps:List Str}{psp:bu}(G:ae X.prog X.w X.K X.mg X.base k x ps psp)(hr:bt k X.A)(hg:Gl X x)(hdb:(x==("__debug__":Str))=false:=by decide):UE X F (.Call (.Name x p) [] [] pos) (kS psp gQ):=
 ⟨PE.imp (Ge G hr hg hdb) λσ H QQ ⟨ρ,Q,fr,h,k⟩=>⟨F.dk,[],_,fr.kp.dkk,.nil,h,λz W H' kp v q=>k _ _ _ _ (bh.call fr kp) v q⟩⟩
def yz(X:Cx)(r:P2):Prop:=∃r',md X r'/\tS X.K r r'
variable{a b:Expr}{va vb:UT}
def GZ{r:P2}(ho:yz X r)(ha:UE X F a va)(hb:UE X F b vb)(hs:rN b:=by intro _ _;rfl):UE X F (.Subscript a b pos) (jx r va vb):=by
 obtain⟨r',o,hr⟩:=ho
 exact⟨PE.imp (PE.fz (jE o ha.pe hb.pe hs)) (wI hr)⟩
abbrev sf:=aT->(Option Int->aT->Prop)->Prop
def Fy(K:W.Frag)(F:Fm)(u:sf):TO:=λσ H QQ=>∃ρ Q,au K F ρ σ H/\u ρ Q/\∀o H' ρ',bh K F σ ρ H ρ' H'->Q o ρ'->QQ o H'
structure UO (X:Cx) (F:Fm) (e:Option Expr) (u:sf):Prop where
 po:PO X e (Fy X.K F u)
def PO.imp{e:Option Expr}{t t':TO}(h:PO X e t)(i:∀σ H Q,t' σ H Q->t σ H Q):PO X e t':=λpins s σ H Q I q=>h pins s σ H Q I (i σ H Q q)
def Nd:sf:=λρ Q=>Q none ρ
def Nc(u:UT):sf:=λρ Q=>u ρ λT ρ1=>∃i,T=iT i/\Q (some i) ρ1
def iR:UO X F none Nd:=⟨PO.imp BZ λσ H QQ ⟨ρ,Q,fr,h,k⟩=>k _ _ _ (bh.refl fr) h⟩
def iQ{u:UT}(h:UE X F e u):UO X F (some e) (Nc u):=⟨PO.imp (B0 h.pe) λσ H QQ ⟨ρ,Q,fr,h,k⟩=>⟨ρ,_,fr,h,λx T H1 ρ1 s1 v1 q1=>by
 obtain⟨i,rfl,q⟩:=q1
 exact⟨i,v1.leafI.1,k _ _ _ s1 q⟩⟩⟩
abbrev w8:=Tv->Option Int->Option Int->(Tv->Prop)->Prop
def y8(X:Cx)(r:w8):Prop:=∃r',n6 X r'/\∀x T lo hi H Q (QQ:VK),VA X.K H x T->r T lo hi Q->(∀z W H',g9 X.K H H' z W->Q W->QQ z H')->r' x lo hi H QQ
def Nh(r:w8)(u:UT)(lo hi:sf):UT:=λρ Q=>u ρ λT ρ1=>lo ρ1 λl ρ2=>hi ρ2 λh ρ3=>r T l h λW=>Q W ρ3
def iL{r:w8}{lo hi:Option Expr}{ul uh:sf}{p2:Pos}(ho:y8 X r)(ha:UE X F a va)(hl:UO X F lo ul)(hh:UO X F hi uh):UE X F (.Subscript a (.Slice lo hi none p2) pos) (Nh r va ul uh):=by
 obtain⟨r',o,hr⟩:=ho
 refine⟨PE.imp (PE.fz (Bl o ha.pe hl.po hh.po)) ?_⟩
 rintro σ H QQ ⟨ρ,Q,fr,h,k⟩
 refine⟨ρ,_,fr,h,λx T H1 ρ1 s1 v1 q1=>⟨ρ1,_,s1.fr,q1,λl H2 ρ2 s2 q2=>⟨ρ2,_,s2.fr,q2,λu H3 ρ3 s3 q3=>?_⟩⟩⟩
 exact hr x T l u H3 _ _ ((v1.hs (s2.hs s1.fr)).hs (s3.hs s2.fr)) q3 λz W H' rw q=>rw.fin s3.fr λH'' s4 v4=>k _ _ _ _ ((s1.trans s2).trans (s3.trans s4)) v4 q
end
structure bc where
 nx:aT->Prop
 rt:Tv->Prop
 bk:aT->Prop:=λ_=>False
 ct:aT->Prop:=λ_=>False
abbrev dh:=bc->aT->Prop
def mM(K:W.Frag)(F:Fm)(u:dh):TS:=λD σ H=>∃ρ P,au K F ρ σ H/\u P ρ/\(∀σ' H' ρ',au K F ρ' σ' H'->HS H H'->P.nx ρ'->D.nx σ' H')/\(∀x T H',Kp F.dk F.H0 H'->VA K H' x T->P.rt T->D.rt x H') /\
 (∀σ' H' ρ',au K F ρ' σ' H'->HS H H'->P.bk ρ'->D.bk σ' H')/\∀σ' H' ρ',au K F ρ' σ' H'->HS H H'->P.ct ρ'->D.ct σ' H'
structure US (X:Cx) (F:Fm) (st:Stmt) (u:dh):Prop where
 ps:PS X st (mM X.K F u)
structure nk (X:Cx) (F:Fm) (st:List Stmt) (u:dh):Prop where
 ps:f_ X st (mM X.K F u)
def PS.imp{X:Cx}{st:Stmt}{t t':TS}(h:PS X st t)(i:∀D σ H,t' D σ H->t D σ H):PS X st t':=λpins s σ H D I q=>h pins s σ H D I (i D σ H q)
def f_.imp{X:Cx}{st:List Stmt}{t t':TS}(h:f_ X st t)(i:∀D σ H,t' D σ H->t D σ H):f_ X st t':=λpins s σ H D I q=>h pins s σ H D I (i D σ H q)
section
variable{X:Cx}{F:Fm}{e:Expr}{pos:Pos}{st:Stmt}{rest:List Stmt}{u:UT}
def sW:dh:=λP ρ=>P.nx ρ
def sR(s t:dh):dh:=λP ρ=>s {P with nx:=λρ'=>t P ρ'} ρ
def bC:nk X F [] sW:=⟨f_.imp rE λD σ H ⟨ρ,P,fr,h,k1,_⟩=>k1 σ H ρ fr (HS.refl _) h⟩
def aJ{s:dh}(h:US X F st s):nk X F [st] s:=⟨kL h.ps⟩
def aI{s t:dh}(h:US X F st s)(hr:nk X F rest t):nk X F (st::rest) (sR s t):=⟨f_.imp (gE h.ps hr.ps) λD σ H ⟨ρ,P,fr,h,k1,k2,k3,k4⟩=>by
 refine⟨ρ,_,fr,h,λσ' H' ρ' fr' hs q=>?_,k2,k3,k4⟩
 exact⟨ρ',P,fr',q,λσ2 H2 ρ2 f2 h2 q2=>k1 _ _ _ f2 (hs.trans h2) q2,k2,λσ2 H2 ρ2 f2 h2 q2=>k3 _ _ _ f2 (hs.trans h2) q2,λσ2 H2 ρ2 f2 h2 q2=>k4 _ _ _ f2 (hs.trans h2) q2⟩⟩
def sS(u:UT):dh:=λP ρ=>u ρ λT _=>P.rt T
def aO(h:UE X F e u):US X F (.Return (some e) pos) (sS u):=⟨PS.imp (kO h.pe) λD σ H ⟨ρ,P,fr,h,_,k2,_⟩=>⟨ρ,_,fr,h,λx T H' ρ' s v q=>k2 x T H' s.fr.kp v q⟩⟩
def xi(t:dg)(s r:dh):dh:=λP ρ=>t ρ λb ρ1=>if b=true then s P ρ1 else r P ρ1
def bD{c:Expr}{a b:List Stmt}{t:dg}{s r:dh}(hc:UB X F c t)(ha:nk X F a s)(hb:nk X F b r):US X F (.If c a b pos) (xi t s r):=⟨PS.imp (sI hc.pt ha.ps hb.ps) λD σ H ⟨ρ,P,fr,h,k1,k2,k3,k4⟩=>by
 refine⟨ρ,_,fr,h,λb H1 ρ1 s1 q1=>?_⟩
 have hs:=s1.hs fr
 have fin:∀{v:dh},v P ρ1->mM X.K F v D σ H1:=λq=>⟨ρ1,P,s1.fr,q,λσ2 H2 ρ2 f2 h2 q2=>k1 _ _ _ f2 (hs.trans h2) q2,k2,λσ2 H2 ρ2 f2 h2 q2=>k3 _ _ _ f2 (hs.trans h2) q2,λσ2 H2 ρ2 f2 h2 q2=>k4 _ _ _ f2 (hs.trans h2) q2⟩
 cases b with
 |true=>exact bW (fin (by rw[if_pos rfl]at q1;exact q1))
 |false=>exact aR (fin (by rw[if_neg cb]at q1;exact q1))⟩
def xI(u:UT):dh:=λP ρ=>u ρ λ_ ρ1=>P.nx ρ1
def eC(h:UE X F e u)(hs:swapsWith e none pos.line X.env=pure false:=by rfl):US X F (.Expr e pos) (xI u):=⟨PS.imp (Bp h.pe hs) λD σ H ⟨ρ,P,fr,h,k1,_⟩=>⟨ρ,_,fr,h,λx T H' ρ' s v q=>k1 _ _ _ s.fr (s.hs fr) q⟩⟩
def au.set{K:W.Frag}{ρ:aT}{σ:St}{H:Hp}{i:Nat}{s:Sl}{x:V}(fr:au K F ρ σ H)(v:i<ρ.length->yU K F H (some x) s)(na:dZ s=true->∀a,x=.ref a->∀(j:Nat) (t:Sl),ρ[j]?=some t->dZ t=true->dz σ j≠some (.ref a)):au K F (ρ.set i s) (σ.set i (some x)) H:=by
 have ne:∀j,i≠j->dz (σ.set i (some x)) j=dz σ j:=λj z=>by unfold dz;rw[gi z]
 have self:∀(h:i<ρ.length),dz (σ.set i (some x)) i=some x:=λh=>by unfold dz;rw[fu (by rw[<-fr.len];exact h)];rfl
 have get:∀(j:Nat) (t:Sl),(ρ.set i s)[j]?=some t->(i=j/\i<ρ.length/\t=s)\/(i≠j/\ρ[j]?=some t):=λj t e=>by
  by_cases z:i=j
  ·subst z
   have hi:i<ρ.length:=by
    have:=(qy_.mp e).1
    rwa[ib]at this
   rw[fu hi]at e
   exact .inl ⟨rfl,hi,(Option.some.inj e).symm⟩
  ·rw[gi z]at e;exact .inr ⟨z,e⟩
 refine⟨fr.d0,fr.kp,by rw[ib,ib];exact fr.len,λj t e=>?_,λj k a t t' e1 e2 m1 m2 q1 q2=>?_⟩
 ·rcases get j t e with⟨rfl,hi,rfl⟩|⟨z,e⟩
  ·rw[self hi];exact v hi
  ·rw[ne j z];exact fr.at_ j t e
 ·rcases get j t e1 with⟨rfl,hi,rfl⟩|⟨z1,e1⟩
  ·rcases get k t' e2 with⟨rfl,_,rfl⟩|⟨z2,e2⟩
   ·rfl
   ·rw[self hi]at q1
    rw[ne k z2]at q2
    exact absurd q2 (na m1 a (Option.some.inj q1) k t' e2 m2)
  ·rcases get k t' e2 with⟨rfl,hi,rfl⟩|⟨z2,e2⟩
   ·rw[self hi]at q2
    rw[ne j z1]at q1
    exact absurd q1 (na m2 a (Option.some.inj q2) j t (by first|exact e1|assumption) m1)
   ·rw[ne j z1]at q1
    rw[ne k z2]at q2
    exact fr.ap j k a t t' e1 e2 m1 m2 q1 q2
def sQ(i:Nat)(u:UT):dh:=λP ρ=>u ρ λT ρ1=>P.nx (ρ1.set i (.va T))
def Hi{i:Nat}{x:Str}{pos':Pos}(hN:X.N.Nodup)(hi:X.N[i]?=some x)(hx:kh X.env.scope x)(he:UE X F e u)(hs:swapsWith e (some (.Name x pos')) pos.line X.env=pure false:=by rfl)(hf:X.fn x=true\/X.env.scope.names.lookup x=some .local:=by first|exact .inl rfl|exact .inr rfl|assumption):
  US X F (.Assign [.Name x pos'] e pos) (sQ i u):=⟨PS.imp (jU hN hi hx he.pe hs hf) λD σ H ⟨ρ,P,fr,h,k1,_⟩=>by
 refine⟨ρ,_,fr,h,λx T H' ρ' s v q=>?_⟩
 exact k1 _ _ _ (s.fr.set (s:=.va T) (λ_=>⟨x,rfl,v⟩) (λz=>absurd z cb)) (s.hs fr) q⟩
def sU(i:Nat)(u:d3):dh:=λP ρ=>u ρ λTs ρ1=>P.nx (ρ1.set i (.own Ts))
def Bc{i:Nat}{u:d3}{t:TE}(ht:∀σ H QQ,oV X.K F u σ H QQ->t σ H QQ)(D:lC)(σ:St)(H:Hp)(h:mM X.K F (sU i u) D σ H):sO t (sK i) D σ H:=by
 obtain⟨ρ,P,fr,h,k1,_⟩:=h
 refine ht σ H _ ⟨ρ,_,fr,h,λa xs Ts H' ρ' s n e z p q=>?_⟩
 exact k1 _ _ _ (s.fr.set (s:=.own Ts) (λ_=>⟨a,xs,rfl,e,fr.none0 n,z,p⟩) (λ_ b eb j t ej mj qj=>by cases eb;exact s.notown fr n j t ej mj qj)) (s.hs fr) q
def Hg{i:Nat}{x:Str}{u:d3}{pos':Pos}(hN:X.N.Nodup)(hi:X.N[i]?=some x)(hx:kh X.env.scope x)(he:UL X F e u)(hs:swapsWith e (some (.Name x pos')) pos.line X.env=pure false:=by rfl)(hf:X.fn x=true\/X.env.scope.names.lookup x=some .local:=by first|exact .inl rfl|exact .inr rfl|assumption):
  US X F (.Assign [.Name x pos'] e pos) (sU i u):=⟨PS.imp (jU hN hi hx he.pe hs hf) (Bc λ_ _ _ h=>h)⟩
end
def Dw:Ar->Sl
 |.va T=>.va T
 |.dk=>.dk
def jT(n:Nat)(as:List Ar):aT:=as.map Dw++List.replicate (n-as.length) .no
def A8{K:W.Frag}{H:Hp}{dk:Option (Addr×Addr)}{N:List Str}{vs:List V}{as:List Ar}(hd:∀p c,dk=some (p,c)->bj H p c)(p:Paired (pQ K dk H) vs as):au K ⟨H,dk⟩ (jT N.length as) (dY N vs) H:=by
 have l:vs.length=as.length:=Paired.length p
 refine⟨hd,⟨λ_ _ e _=>e,hd⟩,?_,λi s e=>?_,λi j a s t e _ m _ _ _=>?_⟩
 ·unfold jT dY
  rw[b9,b9,ao,ao,k_,k_,l]
 ·unfold jT at e
  by_cases hi:i<as.length
  ·rw[jr (by simpa using hi),e_]at e
   obtain⟨r,er,rfl⟩:=qg1_.mp e
   have hv:i<vs.length:=by omega
   obtain⟨r',er',h⟩:=fF p (b_ hv)
   rw[er]at er';cases er'
   have ex:dz (dY N vs) i=some vs[i]:=by
    refine GL ?_
    unfold dY
    rw[jr (by simpa using hv),e_,b_ hv]
    rfl
   rw[ex]
   cases r with
   |va T=>exact⟨_,rfl,h⟩
   |dk=>obtain⟨p,c,e1,e2⟩:=h;exact⟨p,c,e1,by rw[e2]⟩
  ·rw[jt (by simpa using hi),lg]at e
   split at e
   ·cases e;trivial
   ·cases e
 ·unfold jT at e
  by_cases hi:i<as.length
  ·rw[jr (by simpa using hi),e_]at e
   obtain⟨r,er,rfl⟩:=qg1_.mp e
   cases r<;>cases m
  ·rw[jt (by simpa using hi),lg]at e
   split at e
   ·cases e;cases m
   ·cases e
def ak.pgood{P:Program}{w:World}{K:W.Frag}{mg:Str->Option Value}{base:Heap}{x:Str}{st:Stmt}{N ps:List Str}{k:Nat}{psp:bu}{us:dh}(h:ak K mg x st)(S:bB N ps (aN st))
  (hb:∀(kV doc pm:Value) (an:Option Addr) (cdv ct:Value) (us:List Value),us.length=ps.length->bindArgs (W.fnOf x x (gG st) (eK st) (aN st) .none kV doc pm an cdv ct) ⟨us,[]⟩=pure (ps.zip us))
  (hbody:∀(f:Addr) (cdv:Value) (A:Around) (outer:List Env) (s:Shared) (H:Hp) (E:XK) (F:Fm),bt k (A.deeper (envOfC x (aN st) s.heap.objs.size f cdv))->nk (jK nr P w K mg base N x (aN st) f cdv A outer s H E).nox F (eK st) us)
  (hp:∀as R,psp as R->as.length=ps.length/\us {nx:=λ_=>R nT,rt:=R} (jT N.length as)):ae P w K mg base (k+1) x ps psp:=by
 refine h.good S hb (λvs H Q E q=>?_) (λf cdv A outer s H vs Q E hr q=>?_)
 ·obtain⟨dk,as,R,d,p,q,_⟩:=q
  rw[Paired.length p]
  exact(hp as R q).1
 ·obtain⟨dk,as,R,d,p,q,k⟩:=q
  refine⟨_,(hbody f cdv A outer s H E ⟨H,dk⟩ hr).ps,jT N.length as,_,A8 d p,(hp as R q).2,λσ' H' ρ' fr _ q=>k _ _ _ fr.kp (.flat rfl) q,λx T H' kp v q=>k x T H' kp v q,λ_ _ _ _ _ z=>z,λ_ _ _ _ _ z=>z⟩
def lB(K:W.Frag)(J:It)(H:Hp)(Ts:List Tv):Prop:=∀H1,HS H H1->(∀i,i<Ts.length->J.go i H1)/\(∀i x H2,i<Ts.length->J.yld i H1 x H2->ax H1 H2/\∃T,Ts[i]?=some T/\VA K H2 x T)/\J.stop Ts.length H1
def yq(K:W.Frag)(F:Fm)(u:d3):TI:=λσ H R=>∃ρ Q,au K F ρ σ H/\u ρ Q/\∀J Ts H' ρ',bh K F σ ρ H ρ' H'->lB K J H' Ts->Q Ts ρ'->R J H'
structure UI (X:Cx) (F:Fm) (tg e:Expr) (u:d3):Prop where
 pi:PI X tg e (yq X.K F u)
def PI.imp{X:Cx}{tg e:Expr}{t t':TI}(h:PI X tg e t)(i:∀σ H Q,t' σ H Q->t σ H Q):PI X tg e t':=λpins s σ H Q I q=>h pins s σ H Q I (i σ H Q q)
def p9(X:Cx)(tg:Expr)(r:V->Hp->(It->Hp->Prop)->Prop):Prop:=∀(pins:List (Addr×Obj)) (s:Shared) (σ:St) (H:Hp) (x:V) (v:Value) (R:It->Hp->Prop),ag X pins σ H s->ai x v->r x H R->wpAny (model X.prog X.w) X.A (pyIter v) (w_ X pins σ tg R) X.xe s
section
variable{X:Cx}{F:Fm}{tg e:Expr}
def p9.or{r r':V->Hp->(It->Hp->Prop)->Prop}(h:p9 X tg r)(h':p9 X tg r'):p9 X tg (λx H R=>r x H R\/r' x H R):=λpins s σ H x v R I rx q=>by
 rcases q with q|q
 ·exact h pins s σ H x v R I rx q
 ·exact h' pins s σ H x v R I rx q
def oP{pins:List (Addr×Obj)}{σ:St}{H:Hp}{s:Shared}(I:ag X pins σ H s):∀b∈[s.heap.objs.size],fE X pins H b:=λb hb=>by
 rw[qd1_.mp hb]
 exact I.fpOk (ba _) (I.hok.fresh (ba _))
def it_list:p9 X tg (λx H R=>∃a xs,x=.ref a/\b5 X.K H a xs/\R (xw X.K a) H):=by
 rintro pins s σ H _ v R I r ⟨a,xs,rfl,hq,q⟩
 cases r
 obtain⟨its,rv,p,hz⟩:=I.list hq
 exact wpAny_pyIter_list p.isList ⟨_,[s.heap.objs.size],_,_,H,rfl,I.kept (t':=s.toks) λb o=>ay _,Mh a _,⟨_,b6 _ rfl,rfl,rfl⟩,oP I,q⟩
def it_tup:p9 X tg (λx H R=>∃a xs,x=.ref a/\cu X.K H a xs/\R (xu X.K a) H):=by
 rintro pins s σ H _ v R I r ⟨a,xs,rfl,hq,q⟩
 cases r
 obtain⟨its,rv,p,hz⟩:=I.tuple hq
 exact wpAny_pyIter_tuple (show s.heap.IsTuple a its.toArray from p) ⟨_,[s.heap.objs.size],_,_,H,rfl,I.kept (t':=s.toks) λb o=>ay _,L0 a _,⟨_,b6 _ rfl,rfl,rfl⟩,oP I,q⟩
def it_str:p9 X tg (λx H R=>∃z,x=.str z/\R (uf z) H):=by
 rintro pins s σ H _ v R I r ⟨z,rfl,q⟩
 obtain⟨t,rfl⟩:=r
 cases ha:z.cps.all (· < 128) with
 |true=>exact wpAny_pyIter_ascii ha ⟨_,[s.heap.objs.size],_,_,H,rfl,I.kept (t':=s.toks) λb o=>ay _,Mi _ z t,⟨_,b6 _ rfl,rfl,rfl⟩,oP I,q⟩
 |false=>exact wpAny_pyIter_wide ha ⟨_,[s.heap.objs.size],_,_,H,rfl,I.kept (t':=s.toks) λb o=>ay _,Mj _ z t,⟨_,b6 _ rfl,rfl,rfl⟩,oP I,q⟩
def IU:p9 X tg (λx H R=>∃a ob kvs,x=.ref a/\me H a ob kvs/\R (xx a ob kvs) H):=by
 rintro pins s σ H _ v R I r ⟨a,ob,kvs,rfl,hz,q⟩
 cases r
 obtain⟨e,hs,hl,vs,es,ep,r,dd,hd⟩:=jS I hz
 exact wpAny_pyIter_dict hs dd ⟨_,[s.heap.objs.size],_,_,H,rfl,I.kept (t':=s.toks) λb o=>ay _,Mg (a:=a) (ob:=ob) (kvs:=kvs) hd,⟨_,b6 _ rfl,rfl,by rw[<-kP r];rfl⟩,oP I,q⟩
def C9:Tv->(List Tv->Prop)->Prop
 |.seq _ Ts,Q=>Q Ts
 |.leaf (.str z),Q=>Q (z.cps.toList.map λc=>sT ⟨#[c]⟩)
 |.dct kts,Q=>Q (kts.map λkt=>sT kt.1)
 |_,_=>False
def cQ{K:W.Frag}{H:Hp}{a:Addr}{xs:List V}(h:a_ K H false a xs):b5 K H a xs:=by
 obtain⟨ob,h⟩:=h
 exact .inl (.inr ⟨ob,h⟩)
def IS{K:W.Frag}{H:Hp}{a:Addr}{xs:List V}{Ts:List Tv}(h:a_ K H false a xs)(p:cf K H xs Ts):lB K (xw K a) H Ts:=λH1 hs=>by
 have l:xs.length=Ts.length:=Paired.length p
 have q:=cQ (h.hs hs)
 refine⟨λi hi=>⟨xs,xs[i]'(by omega),q,b_ _⟩,λi x H2 hi ⟨e,y⟩=>?_,⟨xs,q,by omega⟩⟩
 subst e
 obtain⟨T,eT,v⟩:=fF (p.hs hs) (y xs q)
 exact⟨ax.refl _,T,eT,v⟩
def GI{K:W.Frag}{H:Hp}{a:Addr}{xs:List V}{Ts:List Tv}(h:a_ K H true a xs)(p:cf K H xs Ts):lB K (xu K a) H Ts:=λH1 hs=>by
 have l:xs.length=Ts.length:=Paired.length p
 have q:cu K H1 a xs:=h.hs hs
 refine⟨λi hi=>⟨xs,xs[i]'(by omega),q,b_ _⟩,λi x H2 hi ⟨e,y⟩=>?_,⟨xs,q,by omega⟩⟩
 subst e
 obtain⟨T,eT,v⟩:=fF (p.hs hs) (y xs q)
 exact⟨ax.refl _,T,eT,v⟩
def GH{K:W.Frag}{H:Hp}{z:Str}:lB K (uf z) H (z.cps.toList.map λc=>sT ⟨#[c]⟩):=λH1 hs=>by
 refine⟨λi hi=>(show i<z.cps.size by simpa using hi),λi x H2 hi ⟨e,c,ec,ex⟩=>?_,by simp[uf]⟩
 subst e ex
 refine⟨ax.refl _,sT ⟨#[c]⟩,?_,.flat rfl⟩
 rw[e_,d7,ec]
 rfl
def IR{K:W.Frag}{H:Hp}{a:Addr}{ob:Obj}{kvs:List (av×V)}{kts:List (Str×Tv)}(h:me H a ob kvs)(p:e6 K H kvs kts):lB K (xx a ob kvs) H (kts.map λkt=>sT kt.1):=λH1 hs=>by
 have l:kvs.length=kts.length:=Paired.length p
 have q:me H1 a ob kvs:=hs _ _ rfl h
 refine⟨λi hi=>⟨q,by rw[ao]at hi;omega⟩,λi x H2 hi ⟨e,k,v,ek,ex⟩=>?_,⟨q,by rw[ao];omega⟩⟩
 subst e ex
 obtain⟨kt,ekt,e1,_⟩:=fF p ek
 refine⟨ax.refl _,sT kt.1,by rw[e_,ekt];rfl,?_⟩
 have e1:k=.inr kt.1:=e1
 rw[e1]
 exact .flat rfl
def Nk(u:UT):d3:=λρ Q=>u ρ λT ρ1=>C9 T λTs=>Q Ts ρ1
def bY{u:UT}(h:UE X F e u):UI X F tg e (Nk u):=⟨λpins s σ H R I ⟨ρ,Q,fr,hu,k⟩=>by
 have IT:p9 X tg _:=it_list.or (it_tup.or (it_str.or IU))
 refine bf (h.pe pins s σ H (λx H1=>_) I ⟨ρ,_,fr,hu,λx T H' ρ' s v q=>?_⟩) λv s1 ⟨x,H1,I1,r1,q1⟩=>IT pins s1 σ H1 x v R I1 r1 q1
 unfold C9 at q
 split at q
 ·rename_i t Ts
  obtain⟨a,xs,rfl,hs,z,p⟩:=v.seqI
  cases t with
  |false=>exact .inl ⟨a,xs,rfl,cQ hs,k _ _ _ _ s (IS hs p) q⟩
  |true=>exact .inr (.inl ⟨a,xs,rfl,hs,k _ _ _ _ s (GI hs p) q⟩)
 ·obtain⟨rfl,_⟩:=v.leafI
  exact .inr (.inr (.inl ⟨_,rfl,k _ _ _ _ s GH q⟩))
 ·obtain⟨a,kvs,rfl,⟨ob,hd⟩,n,z,p⟩:=v.dctI
  exact .inr (.inr (.inr ⟨a,ob,kvs,rfl,hd,k _ _ _ _ s (IR hd p) q⟩))
 ·exact False.elim q⟩
def jG(lo:Int)(n:Nat):List Tv:=(List.range n).map λ(i:Nat)=>iT (lo+i)
def iM(lo:Int)(n:Nat):(jG lo n).length=n:=by simp[jG]
def qT{lo:Int}{n i:Nat}{T:Tv}(h:(jG lo n)[i]?=some T):i<n/\T=iT (lo+i):=by
 have l:=(qy_.mp h).1
 rw[iM]at l
 refine⟨l,?_⟩
 simp only[jG,List.getElem?_map,List.getElem?_range l]at h
 exact(Option.some.inj h).symm
def Ko{K:W.Frag}{H:Hp}{lo:Int}{n:Nat}:lB K (xa lo n) H (jG lo n):=λH1 hs=>by
 have l:(jG lo n).length=n:=by simp[jG]
 refine⟨λi hi=>by rw[l]at hi;exact hi,λi x H2 hi ⟨e,ex⟩=>?_,by rw[l];exact ba _⟩
 subst e ex
 rw[l]at hi
 exact⟨ax.refl _,iT (lo+i),by simp[jG,hi],.flat rfl⟩
def GW(ua:dq):d3:=λρ Q=>qd ua ρ λTs ρ1=>∃j:Int,Ts=[iT j] /\ -(2 ^ 62)<=j/\j<2 ^ 62/\Q (jG 0 j.toNat) ρ1
def jP{a:Expr}{ua:dq}{p pos:Pos}(hg:Gl X "range")(hm:X.mg "range"=none)(ha:UA X F [a] ua)(hs:starEach [a] X.env=[(false,eval a X.env)]:=by rfl):UI X F tg (.Call (.Name "range" p) [a] [] pos) (GW ua):=⟨PI.imp (K7 hg hm ha.pa hs) λσ H R ⟨ρ,Q,fr,hu,k⟩=>by
 refine⟨ρ,_,fr,hu,λxs as H1 ρ1 s1 p1 q1=>?_⟩
 obtain⟨Ts,rfl,j,rfl,h1,h2,q⟩:=iW q1
 cases iX p1 with
 |cons v t=>
  cases t
  obtain⟨rfl,_⟩:=v.leafI
  exact⟨j,rfl,h1,h2,k _ _ _ _ s1 Ko q⟩⟩
def GJ{K:W.Frag}{H:Hp}{t:Bool}{a b:Addr}{xs ys:List V}{Ts Us:List Tv}(h:a_ K H t a xs)(p:cf K H xs Ts)(h':a_ K H t b ys)(p':cf K H ys Us):lB K (xt t K a b) H (List.zipWith (λT U=>.seq true [T,U]) Ts Us):=λH1 hs=>by
 have l:xs.length=Ts.length:=Paired.length p
 have l':ys.length=Us.length:=Paired.length p'
 have sq:∀{c:Addr} {zs:List V},a_ K H t c zs->lr t K H1 c zs:=λ{c zs} h=>by
  have h:=h.hs hs
  cases t with
  |false=>exact cQ h
  |true=>exact h
 have q:=sq h
 have q':=sq h'
 refine⟨λi hi=>?_,λi x H2 hi ⟨c,y,z,ex,nc,e,hy,hz⟩=>?_,⟨xs,ys,q,q',by rw[List.length_zipWith];omega⟩⟩
 ·rw[List.length_zipWith]at hi
  exact⟨xs,ys,xs[i]'(by omega),ys[i]'(by omega),q,q',b_ _,b_ _⟩
 ·subst e ex
  obtain⟨T,eT,v⟩:=fF (p.hs hs) (hy xs q)
  obtain⟨U,eU,v'⟩:=fF (p'.hs hs) (hz ys q')
  refine⟨cB nc,.seq true [T,U],by rw[List.getElem?_zipWith,eT,eU],VA.seq (t:=true) (cu.of bA) (show 2<=100000 by decide) (.cons (v.hs (gI nc)) (.cons (v'.hs (gI nc)) .nil))⟩
def FQ(ua:dq):d3:=λρ Q=>qd ua ρ λTs ρ1=>∃t As Bs,Ts=[.seq t As,.seq t Bs]/\Q (List.zipWith (λT U=>.seq true [T,U]) As Bs) ρ1
def Hb{a b:Expr}{ua:dq}{es:List Expr}{ek:Nat}{p pos pos':Pos}(hg:Gl X "zip")(hm:X.mg "zip"=none)(ha:UA X F [a,b] ua)(hs:starEach [a,b] X.env=[(false,eval a X.env),(false,eval b X.env)]:=by rfl)(hs2:starEach [b] X.env=[(false,eval b X.env)]:=by rfl):
  UI X F (.Tuple es ek pos') (.Call (.Name "zip" p) [a,b] [] pos) (FQ ua):=⟨PI.imp (Gq hg hm ha.pa hs hs2) λσ H R ⟨ρ,Q,fr,hu,k⟩=>by
 refine⟨ρ,_,fr,hu,λxs as H1 ρ1 s1 p1 q1=>?_⟩
 obtain⟨Ts,rfl,t,As,Bs,rfl,q⟩:=iW q1
 have sq:∀{c:Addr} {zs:List V},a_ X.K H1 t c zs->lr t X.K H1 c zs:=λ{c zs} h=>by
  cases t with
  |false=>exact cQ h
  |true=>exact h
 cases iX p1 with
 |cons v r=>
  cases r with
  |cons v' r=>
   cases r
   obtain⟨a,xs,rfl,hq,z,p⟩:=v.seqI
   obtain⟨b,ys,rfl,hq',z',p'⟩:=v'.seqI
   exact⟨t,a,b,rfl,⟨xs,sq hq⟩,⟨ys,sq hq'⟩,k _ _ _ _ s1 (GJ hq p hq' p') q⟩⟩
end
abbrev UG:=Tv->aT->(aT->Prop)->Prop
abbrev qi:=List Tv->aT->(aT->Prop)->Prop
def yp(K:W.Frag)(F:Fm)(m:Nat)(g:UG):TG:=λv σ H QQ=>∃T ρ Q,VA K H v T/\au K F ρ σ H/\g T ρ Q/\∀σ' ρ',au K F ρ' σ' H->σ'.length=σ.length->σ'.drop m=σ.drop m->ρ'.drop m=ρ.drop m->jw ρ' ρ->Q ρ'->QQ σ' H
def GT(K:W.Frag)(F:Fm)(m:Nat)(g:qi):p7:=λvs σ H QQ=>∃Ts ρ Q,cf K H vs Ts/\au K F ρ σ H/\g Ts ρ Q/\∀σ' ρ',au K F ρ' σ' H->σ'.length=σ.length->σ'.drop m=σ.drop m->ρ'.drop m=ρ.drop m->jw ρ' ρ->Q ρ'->QQ σ' H
structure rh (X:Cx) (F:Fm) (m:Nat) (tg:Expr) (g:UG):Prop where
 pg:PG X tg (yp X.K F m g)
structure tR (X:Cx) (F:Fm) (m:Nat) (tgs:List Expr) (g:qi):Prop where
 pg:n9 X tgs (GT X.K F m g)
def PG.imp{X:Cx}{tg:Expr}{t t':TG}(h:PG X tg t)(i:∀v σ H Q,t' v σ H Q->t v σ H Q):PG X tg t':=λpins s σ H v u Q I r q=>h pins s σ H v u Q I r (i v σ H Q q)
def n9.imp{X:Cx}{tg:List Expr}{t t':p7}(h:n9 X tg t)(i:∀v σ H Q,t' v σ H Q->t v σ H Q):n9 X tg t':=λpins s σ H v u Q I r q=>h pins s σ H v u Q I r (i v σ H Q q)
section
variable{X:Cx}{F:Fm}{pos:Pos}{m:Nat}
def gN(i:Nat):UG:=λT ρ Q=>Q (ρ.set i (.va T))
def drop_set{α:Type}{l:List α}{i m:Nat}{x:α}(h:i<m):(l.set i x).drop m=l.drop m:=by
 rw[List.drop_set,if_pos h]
def IF{ρ:aT}{i:Nat}{T:Tv}:jw (ρ.set i (.va T)) ρ:=λj s e mm=>by
 by_cases z:i=j
 ·subst z
  have hi:i<ρ.length:=by
   have:=(qy_.mp e).1
   rwa[ib]at this
  rw[fu hi]at e
  cases e;cases mm
 ·rw[gi z]at e;exact⟨s,e,mm⟩
def dI(i:Nat){x:Str}(hm:i<m)(hN:X.N.Nodup)(hi:X.N[i]?=some x)(hx:kh X.env.scope x)(hf:X.fn x=true\/X.env.scope.names.lookup x=some .local:=by first|exact .inl rfl|exact .inr rfl|assumption):rh X F m (.Name x pos) (gN i):=⟨PG.imp (Jr hN hi hx hf) λv σ H QQ ⟨T,ρ,Q,vv,fr,h,k⟩=>
 k _ _ (fr.set (s:=.va T) (λ_=>⟨v,rfl,vv⟩) (λz=>absurd z cb)) ib (drop_set hm) (drop_set hm) IF h⟩
def gT(n:Nat)(g:qi):UG:=λT ρ Q=>∃Ts,T=.seq true Ts/\Ts.length=n/\g Ts ρ Q
def ND:qi:=λTs ρ Q=>Ts=[]/\Q ρ
def NF(g:UG)(gs:qi):qi:=λTs ρ Q=>∃T r,Ts=T::r/\g T ρ λρ1=>gs r ρ1 Q
def Ku:tR X F m [] ND:=⟨n9.imp Il λvs σ H QQ ⟨Ts,ρ,Q,vv,fr,⟨e,h⟩,k⟩=>by
 subst e
 cases vv
 exact⟨rfl,k _ _ fr rfl rfl rfl (jw.refl _) h⟩⟩
def C3{e:Expr}{es:List Expr}{g:UG}{gs:qi}(h1:rh X F m e g)(h2:tR X F m es gs)(hs:(assignEach (e::es) X.env).map (·.2)=assign e X.env::(assignEach es X.env).map (·.2):=by rfl):tR X F m (e::es) (NF g gs):=⟨n9.imp (JP h1.pg h2.pg hs) λvs σ H QQ ⟨Ts,ρ,Q,vv,fr,⟨T,r,e,h⟩,k⟩=>by
 subst e
 cases vv with
 |cons v vs'=>
  refine⟨_,_,rfl,T,ρ,_,v,fr,h,λσ' ρ' f' l d dr sb q=>⟨r,ρ',Q,vs',f',q,λσ2 ρ2 f2 l2 d2 dr2 sb2 q2=>?_⟩⟩
  exact k _ _ f2 (l2.trans l) (d2.trans d) (dr2.trans dr) (sb.trans sb2) q2⟩
def Ha{es:List Expr}{k:Nat}{g:qi}(n:Nat)(hc:X.calm=true)(h:tR X F m es g)(hn:(assignEach es X.env).length=n:=by rfl)(hst:(assignEach es X.env).findIdx? (·.1)=none:=by rfl):rh X F m (.Tuple es k pos) (gT n g):=⟨PG.imp (Gp hc h.pg hn hst) λv σ H QQ ⟨T,ρ,Q,vv,fr,⟨Ts,e,el,h⟩,k⟩=>by
 subst e
 obtain⟨a,xs,rfl,hq,z,p⟩:=vv.seqI
 exact⟨a,xs,rfl,hq,(Paired.length p).trans el,Ts,ρ,Q,p,fr,h,k⟩⟩
end
def pq(own:Nat)(fr:List Nat)(ρ:aT):aT:=List.replicate own .no++fr.map λi=>ρ.getD i .no
def nS:List Nat->List Sl->aT->aT
 |i::fr,s::ss,ρ=>nS fr ss (ρ.set i s)
 |_,_,ρ=>ρ
def p6(own:Nat)(fr:List Nat)(ρ ρ':aT):aT:=nS fr (ρ'.drop own) ρ
def fV(own:Nat)(fr:List Nat)(g:UG)(tf:dg)(ue:UT):List Tv->aT->(List Tv->aT->Prop)->Prop
 |[],ρ,Q=>Q [] ρ
 |T::Ts,ρ,Q=>g T (pq own fr ρ) λρ1=>tf ρ1 λb ρ2=>if b=true then ue ρ2 λU ρ3=>fV own fr g tf ue Ts (p6 own fr ρ ρ3) λUs ρ4=>Q (U::Us) ρ4 else fV own fr g tf ue Ts (p6 own fr ρ ρ2) Q
def kR(own:Nat)(fr:List Nat)(ui:d3)(g:UG)(tf:dg)(ue:UT):d3:=λρ Q=>ui ρ λTs ρ1=>Ts.length<=100000/\fV own fr g tf ue Ts ρ1 Q
def zP:∀(fr:List Nat) (ss:List Sl) (ρ:aT),(nS fr ss ρ).length=ρ.length
 |[],_,_=>rfl
 |_::_,[],_=>rfl
 |i::fr,s::ss,ρ=>by show(nS fr ss _).length=_;rw[zP fr ss,ib]
def tY:∀(fr:List Nat) (ss:List Sl) (ρ:aT) (i:Nat) (s:Sl),fr.length<=ss.length->(nS fr ss ρ)[i]?=some s->(∃j:Nat,fr[j]?=some i/\ss[j]?=some s)\/(i∉fr/\ρ[i]?=some s)
 |[],_,_,i,s,_,h=>.inr ⟨by simp,h⟩
 |_::_,[],_,_,_,l,_=>by simp at l
 |i0::fr,s0::ss,ρ,i,s,l,h=>by
  rcases tY fr ss (ρ.set i0 s0) i s (by simpa using l) h with⟨j,e1,e2⟩|⟨n,e⟩
  ·exact .inl ⟨j+1,by simpa using e1,by simpa using e2⟩
  ·by_cases z:i0=i
   ·subst z
    have hi:i0<ρ.length:=by
     have:=(qy_.mp e).1
     rwa[ib]at this
    rw[fu hi]at e
    exact .inl ⟨0,rfl,by simpa using e⟩
   ·rw[gi z]at e
    exact .inr ⟨by simp[n,Ne.symm z],e⟩
def qI{own:Nat}{fr:List Nat}{σ ow:St}(ho:ow.length=own){j i:Nat}(h:fr[j]?=some i):dz (ow++σf fr σ) (own+j)=dz σ i:=by
 unfold dz σf
 rw[jt (by omega),show own+j-ow.length=j by omega,e_,h]
 show(some (σ.getD i none)).join=_
 rw[j3]
 cases σ[i]? with
 |none=>rfl
 |some o=>rfl
section
variable{K:W.Frag}{F:Fm}{ρ ρ4 ρ6:aT}{σ ow:St}{H H6:Hp}{own:Nat}{fr:List Nat}
def lZ{i:Nat}{s:Sl}(h:(pq own fr ρ)[i]?=some s):(i<own/\s=.no)\/∃j k,i=own+j/\fr[j]?=some k/\s=ρ.getD k .no:=by
 unfold pq at h
 by_cases hi:i<own
 ·rw[jr (by simpa using hi),lg,if_pos hi]at h
  exact .inl ⟨hi,(Option.some.inj h).symm⟩
 ·rw[jt (by simpa using hi),k_,e_]at h
  obtain⟨k,e,rfl⟩:=qg1_.mp h
  exact .inr ⟨i-own,k,by omega,e,rfl⟩
def lW{k:Nat}{s:Sl}(e:s=ρ.getD k .no)(m:s≠.no):ρ[k]?=some s:=by
 rw[j3]at e
 cases q:ρ[k]? with
 |none=>rw[q]at e;exact absurd e m
 |some t=>rw[q]at e;rw[e];rfl
def au.pick(f:au K F ρ σ H)(nd:fr.Nodup):au K F (pq own fr ρ) (σc own fr σ) H:=by
 have val:∀{j k:Nat},fr[j]?=some k->dz (σc own fr σ) (own+j)=dz σ k:=λh=>qI (k_) h
 refine⟨f.d0,f.kp,?_,λi s e=>?_,λi i' a s t e e' m m' q q'=>?_⟩
 ·unfold pq σc σf
  simp
 ·rcases lZ e with⟨_,rfl⟩|⟨j,k,rfl,ek,es⟩
  ·trivial
  ·rw[val ek]
   cases s with
   |no=>trivial
   |_=>exact f.at_ k _ (lW es (λz=>by cases z))
 ·rcases lZ e with⟨_,rfl⟩|⟨j,k,rfl,ek,es⟩
  ·cases m
  ·rcases lZ e' with⟨_,rfl⟩|⟨j',k',rfl,ek',es'⟩
   ·cases m'
   ·rw[val ek]at q
    rw[val ek']at q'
    have:=f.ap k k' a s t (lW es (λz=>by rw[z]at m;cases m)) (lW es' (λz=>by rw[z]at m';cases m')) m m' q q'
    subst this
    have h1:=(qy_.mp ek).1
    rw[(List.getElem?_inj h1 nd).mp (ek.trans ek'.symm)]
def bh.back(f:au K F ρ σ H)(nd:fr.Nodup)(s:bh K F (ow++σf fr σ) ρ4 H ρ6 H6)(f4:au K F ρ4 (ow++σf fr σ) H)(ho:ow.length=own)(hd:ρ4.drop own=(pq own fr ρ).drop own)(sb:jw ρ4 (pq own fr ρ)):bh K F σ ρ H (p6 own fr ρ ρ6) H6:=by
 -- a slot of the block that is one's own is the def's own
 have dm:∀(i:Nat) (t:Sl) (a:Addr),ρ4[i]?=some t->dZ t=true->dz (ow++σf fr σ) i=some (.ref a)->∃k u,k∈fr/\ρ[k]?=some u/\dZ u=true/\dz σ k=some (.ref a):=λi t a e m q=>by
  obtain⟨u,eu,mu⟩:=sb i t e m
  rcases lZ eu with⟨_,rfl⟩|⟨j,k,rfl,ek,es⟩
  ·cases mu
  ·exact⟨k,u,g5 ek,lW es (λz=>by rw[z]at mu;cases mu),mu,by rw[<-qI ho ek];exact q⟩
 have st:jv F ρ σ H H6:=λb o e d n=>s.st b o e d λi t e1 m q=>by
  obtain⟨k,u,_,eu,mu,qu⟩:=dm i t b e1 m q
  exact n k u eu mu qu
 have l6:fr.length<=(ρ6.drop own).length:=by
  have:=s.fr.len
  rw[b9]at this
  rw[kz,this,ho]
  unfold σf
  rw[ao]
  omega
 have sub:jw (p6 own fr ρ ρ6) ρ:=λi t e m=>by
  rcases tY fr _ ρ i t l6 e with⟨j,ej,et⟩|⟨_,e⟩
  ·rw[mr]at et
   obtain⟨u,eu,mu⟩:=s.sub _ t et m
   have:(ρ4.drop own)[j]?=some u:=by rw[mr];exact eu
   rw[hd,mr]at this
   rcases lZ this with⟨z,_⟩|⟨j',k,ejj,ek,es⟩
   ·omega
   ·have:j'=j:=by omega
    subst this
    rw[ej]at ek;cases ek
    exact⟨u,lW es (λz=>by rw[z]at mu;cases mu),mu⟩
  ·exact⟨t,e,m⟩
 have hs:HS H H6:=s.hs f4
 refine⟨⟨f.d0,s.fr.kp,by unfold p6;rw[zP];exact f.len,λi t e=>?_,λi i' a t t' e e' m m' q q'=>?_⟩,st,sub,s.tr⟩
 ·rcases tY fr _ ρ i t l6 e with⟨j,ej,et⟩|⟨ni,e⟩
  ·rw[mr]at et
   have:=s.fr.at_ _ t et
   rwa[qI ho ej]at this
  ·have h:=f.at_ i t e
   have keep:∀a o,dZ t=true->dz σ i=some (.ref a)->H a=some o->H6 a=some o:=λa o m q e1=>s.st a o e1 (f.fresh_nodk (f.own_at e m q).2) λi' t' e2 m2 q2=>by
    obtain⟨k,u,hk,eu,mu,qu⟩:=dm i' t' a e2 m2 q2
    have:=f.ap k i a u t eu e mu m qu q
    subst this
    exact ni hk
   cases t with
   |no=>trivial
   |va T=>obtain⟨y,e1,v⟩:=h;exact⟨y,e1,v.hs hs⟩
   |own Ts=>obtain⟨a,xs,e1,e2,e3,z,p⟩:=h;exact⟨a,xs,e1,keep a _ rfl e1 e2,e3,z,p.hs hs⟩
   |dct kts=>obtain⟨a,kvs,e1,e2,e3,n,z,p⟩:=h;exact⟨a,kvs,e1,keep a _ rfl e1 e2,e3,n,z,p.hs hs⟩
   |dk=>exact h
 ·obtain⟨u,eu,mu⟩:=sub i t e m
  obtain⟨u',eu',mu'⟩:=sub i' t' e' m'
  exact f.ap i i' a u u' eu eu' mu mu' q q'
end
def uW{K:W.Frag}{F:Fm}{own:Nat}{fr:List Nat}{ui:d3}{g:UG}{tf:dg}{ue:UT}(nd:fr.Nodup)(σ:St)(H:Hp)(QQ:VK)(h:oV K F (kR own fr ui g tf ue) σ H QQ):xG own fr (yq K F ui) (yp K F own g) (sJ K F tf) (fJ K F ue) σ H QQ:=by
 obtain⟨ρ,Q,f,h,k⟩:=h
 refine⟨ρ,_,f,h,λJ Ts H1 ρ1 s1 it q1 a na=>?_⟩
 obtain⟨len,q1⟩:=q1
 refine⟨Ts.length,λi ys H2=>∃Us ρi,bh K F σ ρ1 H1 ρi H2/\cf K H2 ys Us/\Us.length<=i/\fV own fr g tf ue (Ts.drop i) ρi (λVs ρ'=>Q (Us++Vs) ρ'),⟨[],ρ1,bh.same s1.fr (cB na),.nil,ba _,q1⟩,?_⟩
 rintro i ys H2 hi ha ⟨Us,ρi,si,p,hl,q⟩
 have hs1:=si.hs s1.fr
 obtain⟨go,yld,stop⟩:=it H2 hs1
 by_cases hlt:i<Ts.length
 ·refine .inr ⟨hlt,go i hlt,λx H3 hy=>?_⟩
  obtain⟨sm,T,eT,vx⟩:=yld i x H3 hlt hy
  have s3:=si.trans (bh.same si.fr sm)
  have ha3:=sm _ _ ha
  have ed:Ts.drop i=T::Ts.drop (i+1):=by
   rw[o5 hlt]
   congr 1
   rw[b_ hlt]at eT
   exact Option.some.inj eT
  rw[ed]at q
  have nodk:=s1.fr.none_nodk na
  have nown:=s3.notown s1.fr na
  refine⟨T,pq own fr ρi,_,vx,s3.fr.pick nd,q,λσ4 ρ4 f4 l4 d4 dr4 sb4 q4=>?_⟩
  have e4:σ4=σ4.take own++σf fr σ:=by
   have:σ4.drop own=σf fr σ:=by
    rw[d4]
    unfold σc
    rw[List.drop_append_of_le_length (by simp),List.drop_of_length_le (by simp),fe]
   rw[<-this,oz]
  have lo:(σ4.take own).length=own:=by
   rw[jh,l4]
   unfold σc
   simp
  have notin:∀(j:Nat) (t:Sl),ρ4[j]?=some t->dZ t=true->dz σ4 j≠some (.ref a):=λj t e m z=>by
   obtain⟨u,eu,mu⟩:=sb4 j t e m
   rcases lZ eu with⟨_,rfl⟩|⟨j',k,rfl,ek,es⟩
   ·cases mu
   ·rw[e4,qI lo ek]at z
    exact nown k u (lW es (λz=>by rw[z]at mu;cases mu)) mu z
  refine⟨⟨σ4.take own,lo,e4⟩,ρ4,_,f4,q4,λb H5 ρ5 s5 q5=>?_⟩
  have a5:H5 a=some (.lst ys):=s5.st a _ ha3 nodk notin
  cases b with
  |true=>
   refine bW ?_
   rw[if_pos rfl]at q5
   refine⟨ρ5,_,s5.fr,q5,λy U H6 ρ6 s6 v6 q6=>?_⟩
   have s46:=s5.trans s6
   have a6:H6 a=some (.lst ys):=s46.st a _ ha3 nodk notin
   have lys:ys.length=Us.length:=Paired.length p
   refine⟨a6,wH (by omega),Us++[U],p6 own fr ρi ρ6,?_,?_,by rw[b9,ke];omega,?_⟩
   ·rw[e4]at s46 f4
    exact(s3.trans (bh.back s3.fr nd s46 f4 lo dr4 sb4)).put s1.fr na a6 rfl _
   ·have h36:=s46.hs f4
    exact cf.hs (fU a6 rfl) (Paired.snoc ((p.hs sm.hs).hs h36) v6)
   ·simpa using q6
  |false=>
   refine aR ?_
   rw[if_neg cb]at q5
   refine⟨a5,Us,p6 own fr ρi ρ5,?_,?_,by omega,q5⟩
   ·rw[e4]at s5 f4
    exact s3.trans (bh.back s3.fr nd s5 f4 lo dr4 sb4)
   ·exact(p.hs sm.hs).hs (s5.hs f4)
 ·have e:i=Ts.length:=by omega
  subst e
  rw[qw]at q
  have q:Q (Us++[]) ρi:=q
  rw[jb]at q
  exact .inl ⟨stop,k a ys Us H2 ρi (s1.trans si) (s1.non na) ha (by omega) p q⟩
section
variable{X:Cx}{F:Fm}{sc:Scope}{XN N:List Str}{own:Nat}{fr:List Nat}{scope:Scope}{elt tg iter:Expr}{ifs:List Expr}{pos:Pos}{ui:d3}{g:UG}{tf:dg}{ue:UT}
structure UF (X:Cx) (F:Fm) (ifs:List Expr) (u:dg):Prop where
 pf:sv X ifs (sJ X.K F u)
def yj:dg:=λρ Q=>Q true ρ
def hG:UF X F [] yj:=⟨λpins s σ H Q I ⟨ρ,Q',f,h,k⟩=>Gk pins s σ H Q I (k _ _ _ (bh.refl f) h)⟩
def hE{c:Expr}{t:dg}(h:UB X F c t):UF X F [c] t:=⟨Gm h.pt⟩
def BC(hc:X.calm=true)(S:kH sc XN N own fr scope)(nd:fr.Nodup)(hi:UI X F tg iter ui)
  (hg:∀cl C fp s H,rh (cJ X N scope cl C fp s H) F own tg g) (hf:∀cl C fp s H,UF (cJ X N scope cl C fp s H) F ifs tf) (he:∀cl C fp s H,UE (cJ X N scope cl C fp s H) F elt ue)
  (hs:∀x,foldedSetIterable iter X.env x=pure x:=by intro _;rfl) (hsc:X.env.scope=sc:=by rfl) (hxn:X.N=XN:=by rfl):UL X F (.ListComp elt [⟨tg,iter,ifs,0⟩] scope pos) (kR own fr ui g tf ue):=
 ⟨PE.imp (Jn hc S hi.pi (λcl C fp s H=>(hg cl C fp s H).pg) (λcl C fp s H=>(hf cl C fp s H).pf) (λcl C fp s H=>(he cl C fp s H).pe) hs hsc hxn) (uW nd)⟩
def Kw{i:Nat}{x:Str}{pos' spos:Pos}(hc:X.calm=true)(hN:X.N.Nodup)(hx:X.N[i]?=some x)(hl:kh X.env.scope x)(S:kH sc XN N own fr scope)(nd:fr.Nodup)(hi:UI X F tg iter ui)
  (hg:∀cl C fp s H,rh (cJ X N scope cl C fp s H) F own tg g) (hf:∀cl C fp s H,UF (cJ X N scope cl C fp s H) F ifs tf) (he:∀cl C fp s H,UE (cJ X N scope cl C fp s H) F elt ue)
  (hsw:swapsWith (.ListComp elt [⟨tg,iter,ifs,0⟩] scope pos) (some (.Name x pos')) spos.line X.env=pure true:=by rfl)
  (hf':X.fn x=true\/X.env.scope.names.lookup x=some .local:=by first|exact .inl rfl|exact .inr rfl|assumption)
  (hs:∀x,foldedSetIterable iter X.env x=pure x:=by intro _;rfl) (hsc:X.env.scope=sc:=by rfl) (hxn:X.N=XN:=by rfl):US X F (.Assign [.Name x pos'] (.ListComp elt [⟨tg,iter,ifs,0⟩] scope pos) spos) (sU i (kR own fr ui g tf ue)):=
 ⟨PS.imp (Bq hc hN hx hl S hi.pi (λcl C fp s H=>(hg cl C fp s H).pg) (λcl C fp s H=>(hf cl C fp s H).pf) (λcl C fp s H=>(he cl C fp s H).pe) hsw hf' hs hsc hxn) (Bc (uW nd))⟩
def PS.fz{st:Stmt}{t:TS}(h:PS X st t):PS X st (λD σ H=>t {D with nx:=λσ' H'=>D.nx σ' H'\/∃a o,H' a=some o/\gk o=true/\∀ob,D.nx σ' (ar H' a (.frz ob o))} σ H):=λpins s σ H D I q=>bf (h pins s σ H _ I q) λfl s' z=>by
 cases fl with
 |next=>
  obtain⟨σ',H',I',q⟩:=z
  rcases q with q|⟨a,o,e,n,q⟩
  ·exact⟨σ',H',I',q⟩
  ·obtain⟨ob,I2⟩:=I'.fz e n
   exact⟨σ',_,I2,q ob⟩
 |brk=>exact z
 |cont=>exact z
 |ret u=>exact z
def Kx{i:Nat}{x:Str}{pos' spos:Pos}(hc:X.calm=true)(hN:X.N.Nodup)(hx:X.N[i]?=some x)(hl:kh X.env.scope x)(S:kH sc XN N own fr scope)(nd:fr.Nodup)(hi:UI X F tg iter ui)
  (hg:∀cl C fp s H,rh (cJ X N scope cl C fp s H) F own tg g) (hf:∀cl C fp s H,UF (cJ X N scope cl C fp s H) F ifs tf) (he:∀cl C fp s H,UE (cJ X N scope cl C fp s H) F elt ue)
  (hsw:swapsWith (.ListComp elt [⟨tg,iter,ifs,0⟩] scope pos) (some (.Name x pos')) spos.line X.env=pure true:=by rfl)
  (hf':X.fn x=true\/X.env.scope.names.lookup x=some .local:=by first|exact .inl rfl|exact .inr rfl|assumption)
  (hs:∀x,foldedSetIterable iter X.env x=pure x:=by intro _;rfl) (hsc:X.env.scope=sc:=by rfl) (hxn:X.N=XN:=by rfl):US X F (.Assign [.Name x pos'] (.ListComp elt [⟨tg,iter,ifs,0⟩] scope pos) spos) (sQ i (uL (kR own fr ui g tf ue))):=
 ⟨PS.imp (PS.fz (Bq hc hN hx hl S hi.pi (λcl C fp s H=>(hg cl C fp s H).pg) (λcl C fp s H=>(hf cl C fp s H).pf) (λcl C fp s H=>(he cl C fp s H).pe) hsw hf' hs hsc hxn)) λD σ H ⟨ρ,P,f,h,k1,_⟩=>by
  refine uW nd σ H _ ⟨ρ,_,f,h,λa xs Ts H' ρ' s n e z p q=>?_⟩
  refine .inr ⟨a,_,e,rfl,λob=>?_⟩
  have s2:=s.put f n e rfl (.frz ob (.lst xs))
  exact k1 _ _ _ (s2.fr.set (s:=.va (.seq false Ts)) (λ_=>⟨_,rfl,VA.seq (t:=false) ⟨ob,bA⟩ z (p.hs (fU e rfl))⟩) (λz=>absurd z cb)) (s2.hs f) q⟩
def jJ(g:UG)(ub:dh):List Tv->bc->aT->Prop
 |[],P,ρ=>P.nx ρ
 |T::Ts,P,ρ=>g T ρ λρ1=>ub {P with nx:=λρ'=>jJ g ub Ts P ρ',ct:=λρ'=>jJ g ub Ts P ρ',bk:=P.nx} ρ1
def D1(ui:d3)(g:UG)(ub:dh):dh:=λP ρ=>ui ρ λTs ρ1=>jJ g ub Ts P ρ1
def eF{body:List Stmt}{ub:dh}{m:Nat}(hp:PassesOwn (model X.prog X.w) X.A X.env X.xe)(hc:X.calm=true)(hi:UI X F tg iter ui)(hg:rh X F m tg g)(hb:nk X F body ub)
  (hs:∀x,foldedSetIterable iter X.env x=pure x:=by intro _;rfl):US X F (.For tg iter body [] pos) (D1 ui g ub):=⟨PS.imp (H_ hp hc hi.pi hg.pg hb.ps hs) λD σ H ⟨ρ,P,f,h,k1,k2,k3,k4⟩=>by
 refine⟨ρ,_,f,h,λJ Ts H1 ρ1 s1 it q1=>?_⟩
 have h01:=s1.hs f
 refine⟨λi m σ' H'=>m=Ts.length-i/\i<=Ts.length/\HS H1 H'/\∃ρi,au X.K F ρi σ' H'/\jJ g ub (Ts.drop i) P ρi,⟨_,rfl,d6 _,HS.refl _,ρ1,s1.fr,q1⟩,?_⟩
 rintro i m σ' H' ⟨rfl,hi,hs,ρi,fi,q⟩
 obtain⟨go,yld,stop⟩:=it H' hs
 by_cases hlt:i<Ts.length
 ·refine .inr ⟨go i hlt,λσ2 H2=>HS H1 H2/\∃ρ2,au X.K F ρ2 σ2 H2/\jJ g ub (Ts.drop (i+1)) P ρ2,λσ2 H2 ⟨hs2,ρ2,f2,q2⟩=>⟨_,by omega,rfl,hlt,hs2,ρ2,f2,q2⟩,λx H3 hy=>?_⟩
  obtain⟨sm,T,eT,vx⟩:=yld i x H3 hlt hy
  have ed:Ts.drop i=T::Ts.drop (i+1):=by
   rw[o5 hlt]
   congr 1
   rw[b_ hlt]at eT
   exact Option.some.inj eT
  rw[ed]at q
  have f3:=(bh.same fi sm).fr
  refine⟨T,ρi,_,vx,f3,q,λσ4 ρ4 f4 _ _ _ _ q4=>?_⟩
  have h13:=hs.trans sm.hs
  exact⟨ρ4,_,f4,q4,λσ5 H5 ρ5 f5 hs5 q5=>⟨h13.trans hs5,ρ5,f5,q5⟩,k2,λσ5 H5 ρ5 f5 hs5 q5=>k1 _ _ _ f5 (h01.trans (h13.trans hs5)) q5,λσ5 H5 ρ5 f5 hs5 q5=>⟨h13.trans hs5,ρ5,f5,q5⟩⟩
 ·have e:i=Ts.length:=by omega
  subst e
  rw[qw]at q
  exact .inl ⟨stop,k1 _ _ _ fi (h01.trans hs) q⟩⟩
def HH(t:dg)(ub:dh):dh:=λP ρ=>∃W:Nat->aT->Prop,(∃m,W m ρ)/\∀m ρ,W m ρ->t ρ λb ρ1=>if b=true then ub {P with nx:=λρ'=>∃m',m'<m/\W m' ρ',ct:=λρ'=>∃m',m'<m/\W m' ρ',bk:=P.nx} ρ1 else P.nx ρ1
def nJ{c:Expr}{body:List Stmt}{t:dg}{ub:dh}(hp:PassesOwn (model X.prog X.w) X.A X.env X.xe)(hc:UB X F c t)(hb:nk X F body ub):US X F (.While c body [] pos) (HH t ub):=⟨PS.imp (JT hp hc.pt hb.ps) λD σ H ⟨ρ,P,f,⟨W,⟨m0,w0⟩,h⟩,k1,k2,k3,k4⟩=>by
 refine⟨λm σ' H'=>HS H H'/\∃ρ',au X.K F ρ' σ' H'/\W m ρ',⟨m0,HS.refl _,ρ,f,w0⟩,?_⟩
 rintro m σ' H' ⟨hs,ρ',f',w⟩
 refine⟨ρ',_,f',h m ρ' w,λb H1 ρ1 s1 q1=>?_⟩
 have h1:=hs.trans (s1.hs f')
 cases b with
 |true=>
  rw[if_pos rfl]at q1
  refine bW ⟨λσ2 H2=>HS H H2/\∃m',m'<m/\∃ρ2,au X.K F ρ2 σ2 H2/\W m' ρ2,λσ2 H2 ⟨hs2,m',lt,ρ2,f2,w2⟩=>⟨m',lt,hs2,ρ2,f2,w2⟩,?_⟩
  exact⟨ρ1,_,s1.fr,q1,λσ5 H5 ρ5 f5 hs5 ⟨m',lt,w5⟩=>⟨h1.trans hs5,m',lt,ρ5,f5,w5⟩,k2,λσ5 H5 ρ5 f5 hs5 q5=>k1 _ _ _ f5 (h1.trans hs5) q5,λσ5 H5 ρ5 f5 hs5 ⟨m',lt,w5⟩=>⟨h1.trans hs5,m',lt,ρ5,f5,w5⟩⟩
 |false=>
  rw[if_neg cb]at q1
  exact aR (k1 _ _ _ s1.fr h1 q1)⟩
end
section
variable{K:W.Frag}{F:Fm}{ρ:aT}{σ:St}{H:Hp}{i:Nat}{s s':Sl}{a:Addr}{o o':HO}
def au.put(fr:au K F ρ σ H)(e:ρ[i]?=some s)(m:dZ s=true)(q:dz σ i=some (.ref a))(h:H a=some o)(n:gk o=true)(v:HS H (ar H a o')->F.H0 a=none->yU K F (ar H a o') (some (.ref a)) s'):bh K F σ ρ H (ρ.set i s') (ar H a o'):=by
 have hi:i<ρ.length:=(qy_.mp e).1
 have h0:=(fr.own_at e m q).2
 have hd:=fr.fresh_nodk h0
 have hs:HS H (ar H a o'):=fU h (by cases o<;>first|rfl|exact absurd n cb)
 have st:∀b u,b≠a->H b=some u->ar H a o' b=some u:=λb u z e=>by rw[bL z];exact e
 have get:∀(j:Nat) (t:Sl),(ρ.set i s')[j]?=some t->(i=j/\t=s')\/(i≠j/\ρ[j]?=some t):=λj t e'=>by
  by_cases z:i=j
  ·subst z
   rw[fu hi]at e'
   exact .inl ⟨rfl,(Option.some.inj e').symm⟩
  ·rw[gi z]at e';exact .inr ⟨z,e'⟩
 have sub:jw (ρ.set i s') ρ:=λj t e' m'=>by
  rcases get j t e' with⟨rfl,rfl⟩|⟨z,e'⟩
  ·exact⟨s,e,m⟩
  ·exact⟨t,e',m'⟩
 refine⟨⟨fr.d0,⟨λb u e1 n1=>st b u (λz=>by rw[z,h0]at e1;cases e1) (fr.kp.st b u e1 n1),λp c d=>?_⟩,by rw[ib];exact fr.len,λj t e'=>?_,λj k b t t' e1 e2 m1 m2 q1 q2=>?_⟩,λb u e1 _ n1=>st b u (λz=>n1 i s e m (by rw[z];exact q)) e1,sub,λb u e1=>if z:b=a then⟨o',z▸bA⟩ else⟨u,st b u z e1⟩⟩
 ·obtain⟨ne,⟨S,k,e1⟩,ns,e2,l⟩:=fr.kp.dkk p c d
  exact⟨ne,⟨S,k,st _ _ (hd p c d).1.symm e1⟩,ns,st _ _ (hd p c d).2.symm e2,l⟩
 ·rcases get j t e' with⟨rfl,rfl⟩|⟨z,e'⟩
  ·rw[q];exact v hs h0
  ·have x:=fr.at_ j t e'
   cases t with
   |no=>trivial
   |va T=>obtain⟨y,e1,v⟩:=x;exact⟨y,e1,v.hs hs⟩
   |own Ts=>obtain⟨b,xs,e1,e2,e3,z',p⟩:=x;exact⟨b,xs,e1,st _ _ (λy=>z (fr.ap i j a s _ e e' m rfl q (by rw[e1,y]))) e2,e3,z',p.hs hs⟩
   |dct kts=>obtain⟨b,kvs,e1,e2,e3,n',z',p⟩:=x;exact⟨b,kvs,e1,st _ _ (λy=>z (fr.ap i j a s _ e e' m rfl q (by rw[e1,y]))) e2,e3,n',z',p.hs hs⟩
   |dk=>exact x
 ·obtain⟨u,eu,mu⟩:=sub j t e1 m1
  obtain⟨u',eu',mu'⟩:=sub k t' e2 m2
  exact fr.ap j k b u u' eu eu' mu mu' q1 q2
end
section
variable{X:Cx}{F:Fm}{e:Expr}{u:UT}{x:Str}{p apos cpos pos:Pos}
def vX(i:Nat)(u:UT):UT:=λρ Q=>(∃Ts,ρ[i]?=some (.own Ts))/\u ρ λT ρ1=>∃Ts,ρ1[i]?=some (.own Ts)/\Ts.length<100000/\Q nT (ρ1.set i (.own (Ts++[T])))
theorem fP(i:Nat)(h:UE X F e u)(hN:X.N[i]?=some x:=by rfl)(hv:nz X.env.scope x:=by first|exact Or.inl rfl|exact Or.inr (Or.inl rfl)|exact Or.inr (Or.inr rfl))(hd:(x==("__debug__":Str))=false:=by decide)(hcd:(x==("__classdict__":Str))=false:=by decide)
  (hbase:attributeBase (.Name x p) "append" X.env (eval (.Name x p) X.env)=eval (.Name x p) X.env:=by rfl)
  (hfew:((backTo cpos (starEach [e] X.env)).all (λx=>!x.1)&&(backToKw cpos (keywordEach [] X.env)).all (λx=>x.1.isSome)&&decide (([e]:List Expr).length+([]:List Keyword).length+(if ([]:List Keyword).isEmpty then 0 else 1)<30))=true:=by rfl)
  (hline:(apos.endLine==cpos.line)=true:=by rfl) (hs:starEach [e] X.env=(false,eval e X.env)::starEach [] X.env:=by rfl) (hplain:(backTo cpos (starEach [] X.env)).any (·.1)=false:=by rfl) (hst:dO e=false:=by rfl):
  UE X F (.Call (.Attribute (.Name x p) "append" apos) [e] [] cpos) (vX i u):=⟨PE.imp (oU PySem.F.plainAttrs_list PySem.F.slot_list_append PySem.F.type_list_append uT (jV hN hv hd hcd) (aD h aE hst).pa hbase hfew hline hs hplain) λσ H QQ ⟨ρ,Q,f,⟨⟨Ts0,e0⟩,hu⟩,k⟩=>by
 obtain⟨a,xs,ea,eH,e3,z,pv⟩:=f.at_ i _ e0
 refine⟨_,iO ea,.inl ⟨rfl,xs,b5.of eH⟩,ρ,λas ρ1=>∃T,as=[.va T]/\∃Ts,ρ1[i]?=some (.own Ts)/\Ts.length<100000/\Q nT (ρ1.set i (.own (Ts++[T]))),f,?_,λvs as H1 ρ1 s1 p1 q1=>?_⟩
 ·show u ρ _
  have:(λT ρ1=>∃Ts,ρ1[i]?=some (.own Ts)/\Ts.length<100000/\Q nT (ρ1.set i (.own (Ts++[T]))))=(λT (ρ1:aT)=>(gQ ρ1 λas ρ2=>∃T',Ar.va T::as=[.va T']/\∃Ts,ρ2[i]?=some (.own Ts)/\Ts.length<100000/\Q nT (ρ2.set i (.own (Ts++[T'])))) ):=by
   funext T ρ1
   apply propext
   constructor
   ·intro z;exact⟨T,rfl,z⟩
   ·rintro⟨T',e,z⟩;cases e;exact z
  rw[this]at hu
  exact hu
 ·obtain⟨T,rfl,Ts,e1,lt,q⟩:=q1
  cases p1 with
  |cons v t=>
   cases t
   obtain⟨a',ys,ea',eH1,e3',z',pv'⟩:=s1.fr.at_ i _ e1
   rw[ea]at ea';cases ea'
   have ll:ys.length=Ts.length:=Paired.length pv'
   refine⟨a,ys,_,rfl,rfl,eH1,wH (by omega),k _ _ _ _ (s1.trans (s1.fr.put (s':=.own (Ts++[T])) e1 rfl ea eH1 rfl λhs h0=>⟨a,_,rfl,bA,h0,by rw[b9,ke];omega,cf.hs hs (Paired.snoc pv' v)⟩)) (.flat rfl) q⟩⟩
def JZ:V->List V->Hp->VK->Prop:=λx vs H Q=>∃l b xs zs,x=.ref l/\vs=[.ref b]/\H l=some (.lst xs)/\Rd H b (.lst zs)/\xs.length+zs.length<=sizeLine/\Q .non (ar H l (.lst (xs++zs)))
theorem ME:ql X "list.extend" JZ:=by
 rintro pins s σ H _ _ v us Q I rx rv ⟨l,b,xs,zs,rfl,rfl,hH,hB,hz,q⟩
 cases rx
 obtain⟨u,rfl,ru⟩:=rv.one
 cases ru
 obtain⟨z,its,n,r,hl,e⟩:=I.lstM hH
 obtain⟨z2,its2,n2,r2,e2⟩:=hB.ok I.hok
 have hl2:=r2.length
 have hlong:¬ (!its.toArray.isEmpty&&Builtin.List.listTooLong (its.toArray.size+its2.toArray.size))=true:=by
  rw[Bh (by rw[cy,cy];omega),m8]
  exact cb
 refine call_meets F.slot_list_extend ⟨_,e,rfl⟩ F.entry_list_extend (F.args_list_extend_2 _ _) (AutoSeq1.list_extend_list_list_0 l its.toArray n b its2.toArray n2 hlong (by rw[cy];omega) (by rw[cy,cy];omega)) ⟨e,e2,?_⟩
 exact⟨.non,_,I.lset (its':=its++its2) hH e (by simp) (r.append r2) (by rw[List.length_append];omega),rfl,q⟩
def IL(i:Nat)(u:UT):UT:=λρ Q=>(∃Ts,ρ[i]?=some (.own Ts))/\u ρ λT ρ1=>∃Ts Us,ρ1[i]?=some (.own Ts)/\T=.seq false Us/\Ts.length+Us.length<=100000/\Q nT (ρ1.set i (.own (Ts++Us)))
theorem uJ(i:Nat)(h:UE X F e u)(hN:X.N[i]?=some x:=by rfl)(hv:nz X.env.scope x:=by first|exact Or.inl rfl|exact Or.inr (Or.inl rfl)|exact Or.inr (Or.inr rfl))(hd:(x==("__debug__":Str))=false:=by decide)(hcd:(x==("__classdict__":Str))=false:=by decide)
  (hbase:attributeBase (.Name x p) "extend" X.env (eval (.Name x p) X.env)=eval (.Name x p) X.env:=by rfl)
  (hfew:((backTo cpos (starEach [e] X.env)).all (λx=>!x.1)&&(backToKw cpos (keywordEach [] X.env)).all (λx=>x.1.isSome)&&decide (([e]:List Expr).length+([]:List Keyword).length+(if ([]:List Keyword).isEmpty then 0 else 1)<30))=true:=by rfl)
  (hline:(apos.endLine==cpos.line)=true:=by rfl) (hs:starEach [e] X.env=(false,eval e X.env)::starEach [] X.env:=by rfl) (hplain:(backTo cpos (starEach [] X.env)).any (·.1)=false:=by rfl) (hst:dO e=false:=by rfl):
  UE X F (.Call (.Attribute (.Name x p) "extend" apos) [e] [] cpos) (IL i u):=⟨PE.imp (oU PySem.F.plainAttrs_list PySem.F.slot_list_extend PySem.F.type_list_extend ME (jV hN hv hd hcd) (aD h aE hst).pa hbase hfew hline hs hplain) λσ H QQ ⟨ρ,Q,f,⟨⟨Ts0,e0⟩,hu⟩,k⟩=>by
 obtain⟨a,xs,ea,eH,e3,z,pv⟩:=f.at_ i _ e0
 refine⟨_,iO ea,.inl ⟨rfl,xs,b5.of eH⟩,ρ,λas ρ1=>∃T,as=[.va T]/\∃Ts Us,ρ1[i]?=some (.own Ts)/\T=.seq false Us/\Ts.length+Us.length<=100000/\Q nT (ρ1.set i (.own (Ts++Us))),f,?_,λvs as H1 ρ1 s1 p1 q1=>?_⟩
 ·show u ρ _
  have:(λT ρ1=>∃Ts Us,ρ1[i]?=some (.own Ts)/\T=.seq false Us/\Ts.length+Us.length<=100000/\Q nT (ρ1.set i (.own (Ts++Us))))=(λT (ρ1:aT)=>(gQ ρ1 λas ρ2=>∃T',Ar.va T::as=[.va T']/\∃Ts Us,ρ2[i]?=some (.own Ts)/\T'=.seq false Us/\Ts.length+Us.length<=100000/\Q nT (ρ2.set i (.own (Ts++Us)))) ):=by
   funext T ρ1
   apply propext
   constructor
   ·intro z;exact⟨T,rfl,z⟩
   ·rintro⟨T',e,z⟩;cases e;exact z
  rw[this]at hu
  exact hu
 ·obtain⟨T,rfl,Ts,Us,e1,rfl,le,q⟩:=q1
  cases p1 with
  |cons v t=>
   cases t
   have v:VA X.K H1 _ (.seq false Us):=v
   obtain⟨b,zs,rfl,⟨ob,hb⟩,_,pz⟩:=v.seqI
   obtain⟨a',ys,ea',eH1,e3',z',pv'⟩:=s1.fr.at_ i _ e1
   rw[ea]at ea';cases ea'
   have ll:ys.length=Ts.length:=Paired.length pv'
   have lz:zs.length=Us.length:=Paired.length pz
   refine⟨a,b,ys,zs,rfl,rfl,eH1,.inr ⟨ob,hb⟩,gY (by omega),k _ _ _ _ (s1.trans (s1.fr.put (s':=.own (Ts++Us)) e1 rfl ea eH1 rfl λhs h0=>⟨a,_,rfl,bA,h0,by rw[b9];omega,cf.hs hs (qA pv' pz)⟩)) (.flat rfl) q⟩⟩
def G8(i:Nat)(u:UT):UT:=λρ Q=>(∃Ts,ρ[i]?=some (.own Ts))/\u ρ λJ ρ1=>∃(j:Int) (Ts:List Tv) (T:Tv),J=iT j/\ρ1[i]?=some (.own Ts)/\0<=j/\Ts[j.toNat]?=some T/\Q T (ρ1.set i (.own (Ts.eraseIdx j.toNat)))
def zJ{α β:Type}{R:α->β->Prop}:∀{l:List α}{m:List β}(n:Nat),Paired R l m->Paired R (l.eraseIdx n) (m.eraseIdx n)
 |_,_,_,.nil=>.nil
 |_,_,0,.cons _ t=>t
 |_,_,n+1,.cons r t=>.cons r (zJ n t)
def pV{α β:Type}{R:α->β->Prop}:∀{l:List α}{m:List β}{n:Nat}{y:β},Paired R l m->m[n]?=some y->∃x,l[n]?=some x/\R x y
 |_,_,_,_,.nil,e=>by simp at e
 |_,_,0,_,.cons r _,e=>by simp at e;subst e;exact⟨_,rfl,r⟩
 |_,_,n+1,_,.cons _ t,e=>by
  obtain⟨x,h1,h2⟩:=pV (n:=n) t (by simpa using e)
  exact⟨x,by simpa using h1,h2⟩
theorem Lc(i:Nat)(h:UE X F e u)(hN:X.N[i]?=some x:=by rfl)(hv:nz X.env.scope x:=by first|exact Or.inl rfl|exact Or.inr (Or.inl rfl)|exact Or.inr (Or.inr rfl))(hd:(x==("__debug__":Str))=false:=by decide)(hcd:(x==("__classdict__":Str))=false:=by decide)
  (hbase:attributeBase (.Name x p) "pop" X.env (eval (.Name x p) X.env)=eval (.Name x p) X.env:=by rfl)
  (hfew:((backTo cpos (starEach [e] X.env)).all (λx=>!x.1)&&(backToKw cpos (keywordEach [] X.env)).all (λx=>x.1.isSome)&&decide (([e]:List Expr).length+([]:List Keyword).length+(if ([]:List Keyword).isEmpty then 0 else 1)<30))=true:=by rfl)
  (hline:(apos.endLine==cpos.line)=true:=by rfl) (hs:starEach [e] X.env=(false,eval e X.env)::starEach [] X.env:=by rfl) (hplain:(backTo cpos (starEach [] X.env)).any (·.1)=false:=by rfl) (hst:dO e=false:=by rfl):
  UE X F (.Call (.Attribute (.Name x p) "pop" apos) [e] [] cpos) (G8 i u):=⟨PE.imp (oU PySem.F.plainAttrs_list PySem.F.slot_list_pop PySem.F.type_list_pop JI (jV hN hv hd hcd) (aD h aE hst).pa hbase hfew hline hs hplain) λσ H QQ ⟨ρ,Q,f,⟨⟨Ts0,e0⟩,hu⟩,k⟩=>by
 obtain⟨a,xs,ea,eH,e3,z,pv⟩:=f.at_ i _ e0
 refine⟨_,iO ea,.inl ⟨rfl,xs,b5.of eH⟩,ρ,λas ρ1=>∃J,as=[.va J]/\∃(j:Int) (Ts:List Tv) (T:Tv),J=iT j/\ρ1[i]?=some (.own Ts)/\0<=j/\Ts[j.toNat]?=some T/\Q T (ρ1.set i (.own (Ts.eraseIdx j.toNat))),f,?_,λvs as H1 ρ1 s1 p1 q1=>?_⟩
 ·show u ρ _
  have:(λJ ρ1=>∃(j:Int) (Ts:List Tv) (T:Tv),J=iT j/\ρ1[i]?=some (.own Ts)/\0<=j/\Ts[j.toNat]?=some T/\Q T (ρ1.set i (.own (Ts.eraseIdx j.toNat))))=(λJ (ρ1:aT)=>(gQ ρ1 λas ρ2=>∃J',Ar.va J::as=[.va J']/\∃(j:Int) (Ts:List Tv) (T:Tv),J'=iT j/\ρ2[i]?=some (.own Ts)/\0<=j/\Ts[j.toNat]?=some T/\Q T (ρ2.set i (.own (Ts.eraseIdx j.toNat)))) ):=by
   funext T ρ1
   apply propext
   constructor
   ·intro z;exact⟨T,rfl,z⟩
   ·rintro⟨T',e,z⟩;cases e;exact z
  rw[this]at hu
  exact hu
 ·obtain⟨J,rfl,j,Ts,T,rfl,e1,h0,eT,q⟩:=q1
  cases p1 with
  |cons v t=>
   cases t
   obtain⟨rfl,_⟩:=VA.leafI v
   obtain⟨a',ys,ea',eH1,e3',z',pv'⟩:=s1.fr.at_ i _ e1
   rw[ea]at ea';cases ea'
   have ll:ys.length=Ts.length:=Paired.length pv'
   have lt:=(qy_.mp eT).1
   obtain⟨y,ey,vy⟩:=pV pv' eT
   have s:=s1.fr.put (o':=.lst (ys.eraseIdx j.toNat)) e1 rfl ea eH1 rfl (s':=.own (Ts.eraseIdx j.toNat)) λhs h0=>⟨a,_,rfl,bA,h0,by rw[List.length_eraseIdx];split<;>omega,cf.hs hs (zJ _ pv')⟩
   refine⟨a,ys,j,j.toNat,y,rfl,rfl,eH1,by omega,by omega,PySem.StrLaws.seqIndex_nonneg h0 (by omega),ey,k _ _ _ _ (s1.trans s) (vy.hs (s.hs s1.fr)) q⟩⟩
def HE(i:Nat):dh:=λP ρ=>P.nx (ρ.set i (.dct []))
def C4{i:Nat}{pos' dpos:Pos}(hN:X.N.Nodup)(hi:X.N[i]?=some x)(hx:kh X.env.scope x)(hs:swapsWith (.Dict [] [] dpos) (some (.Name x pos')) pos.line X.env=pure false:=by rfl)(hf:X.fn x=true\/X.env.scope.names.lookup x=some .local:=by first|exact .inl rfl|exact .inr rfl|assumption):
  US X F (.Assign [.Name x pos'] (.Dict [] [] dpos) pos) (HE i):=⟨PS.imp (jU hN hi hx JM hs hf) λD σ H ⟨ρ,P,f,h,k1,_⟩ a n=>by
 have s:=bh.same f (cB (o:=.dK []) n)
 exact k1 _ _ _ (s.fr.set (s:=.dct []) (λ_=>⟨a,[],rfl,bA,f.none0 n,.nil,by decide,.nil⟩) (λ_ b eb j t ej mj qj=>by cases eb;exact s.notown f n j t ej mj qj)) (s.hs f) h⟩
def eJ(kts:List (Str×Tv))(k:Str)(T:Tv):List (Str×Tv):=if (kts.any λkt=>decide (kt.1=k))=true then kts.map (λkt=>if kt.1=k then(kt.1,T) else kt) else kts++[(k,T)]
def Kz{K:W.Frag}{H:Hp}{kvs:List (av×V)}{kts:List (Str×Tv)}(p:e6 K H kvs kts)(k:Str):(kvs.any λkv=>decide (kv.1=.inr k))=kts.any λkt=>decide (kt.1=k):=by
 unfold e6 at p
 induction p with
 |nil=>rfl
 |cons r _ ih=>
  rw[iq,iq,ih,r.1]
  congr 1
  rw[h_,decide_eq_true_iff,decide_eq_true_iff]
  exact⟨λz=>Sum.inr.inj z,λz=>by rw[z]⟩
def KA{K:W.Frag}{H:Hp}{kvs:List (av×V)}{kts:List (Str×Tv)}(p:e6 K H kvs kts){k:Str}{v:V}{T:Tv}(q:VA K H v T):e6 K H (dH kvs (.inr k) v) (eJ kts k T):=by
 unfold dH eJ
 rw[Kz p k]
 split
 ·rename_i zz
  clear zz
  unfold e6 at p ⊢
  induction p with
  |nil=>exact .nil
  |@cons kv kt _ _ r _ ih=>
   refine .cons ?_ ih
   dsimp only
   by_cases z:kt.1=k
   ·rw[if_pos z,if_pos (by rw[r.1,z])];exact⟨r.1,q⟩
   ·rw[if_neg z,if_neg (by rw[r.1];exact λy=>z (Sum.inr.inj y))];exact r
 ·exact Paired.snoc p ⟨rfl,q⟩
def La(kts:List (Str×Tv))(k:Str)(T:Tv):(eJ kts k T).map (·.1)=if (kts.any λkt=>decide (kt.1=k))=true then kts.map (·.1) else kts.map (·.1)++[k]:=by
 unfold eJ
 split
 ·rw[f7]
  refine mi λkt _=>?_
  show(if kt.1=k then(kt.1,T) else kt).1=kt.1
  split<;>rfl
 ·rw[ij];rfl
def zZ{kts:List (Str×Tv)}{k:Str}{T:Tv}(h:(kts.map (·.1)).Nodup):((eJ kts k T).map (·.1)).Nodup:=by
 rw[La]
 split
 ·exact h
 ·rename_i n
  rw[nh]
  refine⟨h,by simp,λa ha b hb=>?_⟩
  rw[qd1_]at hb
  subst hb
  rintro rfl
  obtain⟨kt,hk,rfl⟩:=qf_.mp ha
  exact n (qL_.mpr ⟨kt,hk,by simp⟩)
def E_(i:Nat)(uk uv:UT):dh:=λP ρ=>uv ρ λT ρ1=>(∃kts,ρ1[i]?=some (.dct kts))/\uk ρ1 λk ρ2=>∃kts s,ρ2[i]?=some (.dct kts)/\k=sT s/\(eJ kts s T).length<64/\P.nx (ρ2.set i (.dct (eJ kts s T)))
def BD{i:Nat}{k:Expr}{uk uv:UT}{pos':Pos}(hu:X.A.units+1<cLine)(hN:X.N[i]?=some x)(hv:nz X.env.scope x)(hk:UE X F k uk)(he:UE X F e uv)(hs:swapsWith e (some (.Subscript (.Name x p) k pos')) pos.line X.env=pure false:=by rfl)(hd:(x==("__debug__":Str))=false:=by decide)(hcd:(x==("__classdict__":Str))=false:=by decide):
  US X F (.Assign [.Subscript (.Name x p) k pos'] e pos) (E_ i uk uv):=⟨PS.imp (Ip hu (jV hN hv hd hcd) hk.pe he.pe hs) λD σ H ⟨ρ,P,f,h,k1,_⟩=>by
 refine⟨ρ,_,f,h,λv T H1 ρ1 s1 v1 q1=>?_⟩
 obtain⟨⟨kts0,e0⟩,q1⟩:=q1
 obtain⟨a,kvs0,ea,eH0,_⟩:=s1.fr.at_ i _ e0
 refine⟨_,iO ea,ρ1,_,s1.fr,q1,λy Ky H2 ρ2 s2 v2 q2=>?_⟩
 obtain⟨kts,s,e2,rfl,lt,q⟩:=q2
 obtain⟨rfl,_⟩:=v2.leafI
 obtain⟨a',kvs,ea',eH,h0,nd,l64,p⟩:=s2.fr.at_ i _ e2
 rw[ea]at ea';cases ea'
 have ll:kvs.length=kts.length:=Paired.length p
 refine⟨a,_,rfl,nq.k (k:=.inr s) eH (wH (by omega)),?_⟩
 have st:=s2.fr.put (o':=.dK (dH kvs (.inr s) v)) e2 rfl ea eH rfl (s':=.dct (eJ kts s T)) λhs h0=>⟨a,_,rfl,bA,h0,zZ nd,lt,e6.hs hs (KA p (v1.hs (s2.hs s1.fr)))⟩
 exact k1 _ _ _ st.fr (((s1.trans s2).trans st).hs f) q⟩
end
def ag.frozen{X:Cx}{pins:List (Addr×Obj)}{σ:St}{H H2:Hp}{s:Shared}(I:ag X pins σ H s)(fro:br pN H H2)(ok2:du X.prog X.w H2 s.heap):ag X pins σ H2 s:=by
 refine⟨I.ok,I.os,I.bare,⟨I.base.keep,I.base.slot,λb o e n hx=>fro.none_of (I.base.free b o e n hx),I.base.there,λb xs e=>fro.keep (I.base.tups b xs e) rfl,λb o u e=>fro.keep (I.base.frzs b o u e) rfl,λb ps e=>?_⟩,I.loc,I.cell,fro.none_of I.free,λx c e=>fro.none_of (I.freeC x c e),λp hp=>?_,ok2,I.len⟩
 ·obtain⟨more,z⟩:=I.base.tbls b ps e
  exact⟨more,fro.keep z rfl⟩
 ·obtain⟨p1,p2,p3⟩:=I.pin p hp
  exact⟨p1,fro.none_of p2,p3⟩
def ag.thaw{X:Cx}{pins:List (Addr×Obj)}{σ:St}{H H3 H4:Hp}{s s':Shared}(I:ag X pins σ H s)(I3:ag X pins σ H3 s')(th:ju H H3 H4):ag X pins σ H4 s':=by
 have stay:∀b o,H3 b=some o->(∀u ob,o≠.frz ob u)->H4 b=some o:=λb o e n=>by
  rcases th b with⟨u,ob,_,_,z,_⟩|⟨_,z⟩
  ·rw[e]at z;cases z;exact absurd rfl (n u ob)
  ·rw[z];exact e
 have none4:∀b,H3 b=none->H4 b=none:=λb e=>by
  rcases th b with⟨u,ob,_,_,z,_⟩|⟨_,z⟩
  ·rw[e]at z;cases z
  ·rw[z];exact e
 refine⟨I3.ok,I3.os,I3.bare,⟨I3.base.keep,I3.base.slot,λb o e n hx=>none4 b (I3.base.free b o e n hx),I3.base.there,λb xs e=>stay b _ (I3.base.tups b xs e) (λ_ _ z=>by cases z),λb o u e=>?_,λb ps e=>?_⟩,I3.loc,I3.cell,none4 _ I3.free,λx c e=>none4 c (I3.freeC x c e),λp hp=>?_,λb o e=>?_,I3.len⟩
 ·rcases th b with⟨o',ob,n,z,_⟩|⟨_,z⟩
  ·rw[I.base.frzs b o u e]at z;cases z;exact absurd n cb
  ·rw[z];exact I3.base.frzs b o u e
 ·obtain⟨more,z⟩:=I3.base.tbls b ps e
  exact⟨more,stay b _ z (λ_ _ z=>by cases z)⟩
 ·obtain⟨p1,p2,p3⟩:=I3.pin p hp
  exact⟨p1,none4 _ p2,p3⟩
 ·have st:∀o,aw X.prog X.w H3 s'.heap b o->aw X.prog X.w H4 s'.heap b o:=λo x=>x.stay (λ_ _ _ r=>r) (λd r=>stay d _ r (λ_ _ z=>by cases z)) λd xs r=>stay d _ r (λ_ _ z=>by cases z)
  rcases th b with⟨o',ob,n,_,z,z'⟩|⟨_,z⟩
  ·rw[z']at e
   cases e
   obtain⟨_,y⟩:=(show aw X.prog X.w H3 s'.heap b (.frz ob o) from I3.hok b _ z)
   exact st o y
  ·rw[z]at e
   exact st o (I3.hok b o e)
def Nz:Sl->Sl
 |.own Ts=>.va (.seq false Ts)
 |.dct kts=>.va (.dct kts)
 |.dk=>.no
 |s=>s
def ma(ρ:aT):aT:=ρ.map Nz
def xN{K:W.Frag}{F:Fm}{ρ:aT}{σ:St}{H H2:Hp}(f:au K F ρ σ H)(fro:br pN H H2):au K ⟨H2,none⟩ (ma ρ) σ H2:=by
 have hs:=fro.hs
 refine⟨λ_ _ z=>(nomatch z),⟨λ_ _ e _=>e,λ_ _ z=>(nomatch z)⟩,by unfold ma;rw[ao];exact f.len,λi s e=>?_,λi j a s t e _ m _ _ _=>?_⟩
 ·unfold ma at e
  rw[e_]at e
  obtain⟨s0,e0,rfl⟩:=qg1_.mp e
  have h:=f.at_ i s0 e0
  cases s0 with
  |no=>trivial
  |va T=>obtain⟨y,e1,v⟩:=h;exact⟨y,e1,v.hs hs⟩
  |own Ts=>
   obtain⟨a,xs,e1,e2,e3,z,p⟩:=h
   obtain⟨ob,e4⟩:=fro.fz (b:=a) rfl e2 rfl
   exact⟨_,e1,VA.seq (t:=false) ⟨ob,e4⟩ z (p.hs hs)⟩
  |dct kts=>
   obtain⟨a,kvs,e1,e2,e3,n,z,p⟩:=h
   obtain⟨ob,e4⟩:=fro.fz (b:=a) rfl e2 rfl
   exact⟨_,e1,VA.dct ⟨ob,e4⟩ n z (p.hs hs)⟩
  |dk=>trivial
 ·unfold ma at e
  rw[e_]at e
  obtain⟨s0,e0,rfl⟩:=qg1_.mp e
  cases s0<;>cases m
def wF{K:W.Frag}{ρ ρ':aT}{σ:St}{H2 H3:Hp}{H0:Hp}(s:bh K ⟨H0,none⟩ σ (ma ρ) H2 ρ' H3):ax H2 H3:=λb o e=>s.st b o e (λ_ _ z=>(nomatch z)) λi t e1 m=>by
 unfold ma at e1
 rw[e_]at e1
 obtain⟨s0,e0,rfl⟩:=qg1_.mp e1
 cases s0<;>cases m
section
variable{X:Cx}{F:Fm}{e:Expr}
def Fl(u:UT):UT:=λρ Q=>u (ma ρ) λT _=>∃v,T=.leaf v/\Q T ρ
def vW{u:UT}(h:∀F,UE X F e u):UE X F e (Fl u):=⟨λpins s σ H QQ I ⟨ρ,Q,f,hu,k⟩=>by
 obtain⟨H2,fro,ok2⟩:=uX I.hok
 have f2:=xN f fro
 refine bf ((h ⟨H2,none⟩).pe pins s σ H2 (λx H3=>∃v ρ',bh X.K ⟨H2,none⟩ σ (ma ρ) H2 ρ' H3/\VA X.K H3 x (.leaf v)/\Q (.leaf v) ρ) (I.frozen fro ok2) ⟨_,_,f2,hu,λx T H' ρ' st v q=>?_⟩) λu s' ⟨x,H3,I3,r,q⟩=>?_
 ·obtain⟨w,rfl,q⟩:=q
  exact⟨w,ρ',st,v,q⟩
 ·obtain⟨v,ρ',st,va,q⟩:=q
  obtain⟨H4,th⟩:=vZ H H3
  obtain⟨rfl,fl⟩:=va.leafI
  exact⟨x,H4,I.thaw I3 th,r,k _ _ _ _ (bh.same f (ju.same fro (wF st) th)) (.flat fl) q⟩⟩
def G7(u:dg):dg:=λρ Q=>u (ma ρ) λb _=>Q b ρ
def BB{u:dg}(h:∀F,UB X F e u):UB X F e (G7 u):=⟨λpins s σ H QQ I ⟨ρ,Q,f,hu,k⟩=>by
 obtain⟨H2,fro,ok2⟩:=uX I.hok
 have f2:=xN f fro
 refine bf ((h ⟨H2,none⟩).pt pins s σ H2 (λb H3=>∃ρ',bh X.K ⟨H2,none⟩ σ (ma ρ) H2 ρ' H3/\Q b ρ) (I.frozen fro ok2) ⟨_,_,f2,hu,λb H' ρ' st q=>⟨ρ',st,q⟩⟩) λb s' ⟨H3,I3,q⟩=>?_
 obtain⟨ρ',st,q⟩:=q
 obtain⟨H4,th⟩:=vZ H H3
 exact⟨H4,I.thaw I3 th,k _ _ _ (bh.same f (ju.same fro (wF st) th)) q⟩⟩
end
mutual
def eqT:Tv->Tv->Bool
 |.leaf v,.leaf w=>dc v w
 |.seq s xs,.seq t ys=>s==t&&cN xs ys
 |_,_=>false
def cN:List Tv->List Tv->Bool
 |[],[]=>true
 |x::xs,y::ys=>eqT x y&&cN xs ys
 |_,_=>false
end
def fk:Nat->Tv->Prop
 |0,_=>False
 |_+1,.leaf _=>True
 |n+1,.seq _ xs=>∀U∈xs,fk n U
 |_+1,.dct _=>False
def vR:∀{xs ys:List Tv},xs.length≠ys.length->cN xs ys=false
 |[],[],h=>absurd rfl h
 |[],_::_,_=>by simp[cN]
 |_::_,[],_=>by simp[cN]
 |x::xs,y::ys,h=>by
  have:=vR (xs:=xs) (ys:=ys) (λe=>h (by simp[e]))
  simp[cN,this]
def uH:∀{xs ys:List Tv},xs.length=ys.length->(List.range xs.length).all (λi=>eqT (xs.getD i nT) (ys.getD i nT))=cN xs ys
 |[],[],_=>by simp[cN]
 |[],_::_,h=>by simp at h
 |_::_,[],h=>by simp at h
 |x::xs,y::ys,h=>by
  have ih:=uH (xs:=xs) (ys:=ys) (by simpa using h)
  rw[ik,mn,List.all_cons,List.all_map]
  show(eqT x y&&(List.range xs.length).all λi=>eqT (xs.getD i nT) (ys.getD i nT))=cN (x::xs) (y::ys)
  rw[ih]
  simp[cN]
def fk.vp{K:W.Frag}{H:Hp}:∀{n d:Nat}{x:V}{T:Tv},fk n T->VP K H d x T->VP K H n x T
 |0,_,_,_,h,_=>False.elim h
 |_+1,0,_,_,_,h=>False.elim h
 |n+1,d+1,x,T,h,v=>by
  rcases v with v|⟨t,a,xs,Ts,e1,e2,rfl,z,p⟩|⟨a,kvs,kts,e1,e2,rfl,_⟩
  ·exact .inl v
  ·have g:∀U∈Ts,fk n U:=h
   refine .inr (.inl ⟨t,a,xs,Ts,e1,e2,rfl,z,?_⟩)
   clear e2 z h
   induction p with
   |nil=>exact .nil
   |cons r _ ih=>exact .cons ((g _ (.head _)).vp r) (ih λU hU=>g U (.tail _ hU))
  ·exact False.elim h
section
variable{X:Cx}{pins:List (Addr×Obj)}{σ:St}{H:Hp}{s:Shared}
def Ke{v:V}(h:dL v=true):dc v v=true:=by
 cases v<;>first|exact absurd h cb|simp[dc]
def a_.isList{a:Addr}{xs:List V}(I:ag X pins σ H s)(h:a_ X.K H false a xs):∃its:List Value,aj xs its/\s.heap.IsList a its.toArray:=by
 obtain⟨its,r,p,_⟩:=I.list (cQ h)
 exact⟨its,r,p.isList⟩
def a_.isTup{a:Addr}{xs:List V}(I:ag X pins σ H s)(h:a_ X.K H true a xs):∃its:List Value,aj xs its/\s.heap.IsTuple a its.toArray:=by
 obtain⟨its,r,p,_⟩:=I.tuple h
 exact⟨its,r,p⟩
def zx(I:ag X pins σ H s):∀{n:Nat}{x:V}{T U:Tv},VP X.K H n x T->VP X.K H n x U->fk n T->fk n U->eqT T U=true
 |0,_,_,_,h,_,_,_=>False.elim h
 |n+1,x,T,U,h,h',d,d'=>by
  rcases h with⟨f,rfl⟩|⟨t,a,xs,Ts,rfl,e2,rfl,z,p⟩|⟨a,kvs,kts,rfl,e2,rfl,_⟩
  ·rcases h' with⟨_,rfl⟩|⟨t',a',xs',Ts',rfl,_⟩|⟨a',kvs',kts',rfl,_⟩
   ·simp[eqT,Ke f]
   ·cases f
   ·cases f
  ·rcases h' with⟨f,rfl⟩|⟨t',a',xs',Ts',e1',e2',rfl,z',p'⟩|⟨a',kvs',kts',e1',e2',rfl,_⟩
   ·cases f
   ·cases e1'
    have tt:t=t':=by
     cases t<;>cases t'<;>first|rfl|skip
     ·obtain⟨_,_,l1⟩:=a_.isList I e2
      obtain⟨_,_,l2⟩:=a_.isTup I e2'
      exact absurd rfl (SeqAt.ne_of_list_tuple l1 l2)
     ·obtain⟨_,_,l1⟩:=a_.isList I e2'
      obtain⟨_,_,l2⟩:=a_.isTup I e2
      exact absurd rfl (SeqAt.ne_of_list_tuple l1 l2)
    subst tt
    have ex:xs=xs':=by
     cases t with
     |false=>exact I.list_inj (cQ e2) (cQ e2')
     |true=>exact I.tuple_inj e2 e2'
    subst ex
    have d:∀U∈Ts,fk n U:=d
    have d':∀U∈Ts',fk n U:=d'
    have key:∀{xs:List V} {Ts Ts':List Tv},Paired (VP X.K H n) xs Ts->Paired (VP X.K H n) xs Ts'->(∀U∈Ts,fk n U)->(∀U∈Ts',fk n U)->cN Ts Ts'=true:=by
     intro xs Ts Ts' p
     induction p generalizing Ts' with
     |nil=>intro p' _ _;cases p';simp[cN]
     |cons r _ ih=>
      intro p' d d'
      cases p' with
      |cons r' t'=>simp[cN,zx I r r' (d _ (.head _)) (d' _ (.head _)),ih t' (λU hU=>d U (.tail _ hU)) (λU hU=>d' U (.tail _ hU))]
    simp[eqT,key p p' d d']
   ·exact False.elim d'
  ·exact False.elim d
def kE{x:V}(h:dL x=true):x=.non\/(∃b,x=.bl b)\/(∃i,x=.int i)\/∃z,x=.str z:=by
 cases x with
 |non=>exact .inl rfl
 |bl b=>exact .inr (.inl ⟨b,rfl⟩)
 |int i=>exact .inr (.inr (.inl ⟨i,rfl⟩))
 |str z=>exact .inr (.inr (.inr ⟨z,rfl⟩))
 |_=>exact absurd (show false=true from h) cb
open SeqAt in
def pX(I:ag X pins σ H s){A:Around}(hu:A.units<cLine){x:V}{v:Value}{t:Bool}{a:Addr}{xs:List V}(f:dL x=true)(r:ai x v)(h:a_ X.K H t a xs):
  EqAt A s v (.ref a) false/\EqAt A s (.ref a) v false/\RcAt A s v (.ref a) false/\RcAt A s (.ref a) v false/\RcNeAt A s v (.ref a) true/\RcNeAt A s (.ref a) v true:=by
 cases t with
 |false=>
  obtain⟨_,_,l⟩:=a_.isList I h
  rcases kE f with rfl|⟨b,rfl⟩|⟨b,rfl⟩|⟨b,rfl⟩
  ·cases r;exact⟨.none_list l hu,.list_none l hu,.none_list l hu,.list_none l hu,.none_list l hu,.list_none l hu⟩
  ·cases r;exact⟨.bool_list b l hu,.list_bool b l hu,.bool_list b l hu,.list_bool b l hu,.bool_list b l hu,.list_bool b l hu⟩
  ·obtain⟨t,rfl⟩:=r;exact⟨.int_list b t l hu,.list_int b t l hu,.int_list b t l hu,.list_int b t l hu,.int_list b t l hu,.list_int b t l hu⟩
  ·obtain⟨t,rfl⟩:=r;exact⟨.str_list b t l hu,.list_str b t l hu,.str_list b t l hu,.list_str b t l hu,.str_list b t l hu,.list_str b t l hu⟩
 |true=>
  obtain⟨_,_,l⟩:=a_.isTup I h
  rcases kE f with rfl|⟨b,rfl⟩|⟨b,rfl⟩|⟨b,rfl⟩
  ·cases r;exact⟨.none_tuple l hu,.tuple_none l hu,.none_tuple l hu,.tuple_none l hu,.none_tuple l hu,.tuple_none l hu⟩
  ·cases r;exact⟨.bool_tuple b l hu,.tuple_bool b l hu,.bool_tuple b l hu,.tuple_bool b l hu,.bool_tuple b l hu,.tuple_bool b l hu⟩
  ·obtain⟨t,rfl⟩:=r;exact⟨.int_tuple b t l hu,.tuple_int b t l hu,.int_tuple b t l hu,.tuple_int b t l hu,.int_tuple b t l hu,.tuple_int b t l hu⟩
  ·obtain⟨t,rfl⟩:=r;exact⟨.str_tuple b t l hu,.tuple_str b t l hu,.str_tuple b t l hu,.tuple_str b t l hu,.str_tuple b t l hu,.tuple_str b t l hu⟩
open SeqAt in
def IC{A:Around}{x y:V}{v u:Value}(fx:dL x=true)(fy:dL y=true)(rx:ai x v)(ry:ai y u):RcAt A s v u (dc x y)/\RcNeAt A s v u (!dc x y):=by
 rcases kE fx with rfl|⟨a,rfl⟩|⟨a,rfl⟩|⟨a,rfl⟩<;>rcases kE fy with rfl|⟨b,rfl⟩|⟨b,rfl⟩|⟨b,rfl⟩
 ·cases rx;cases ry;exact⟨.none_none,.none_none⟩
 ·cases rx;cases ry;exact⟨.none_bool b,.none_bool b⟩
 ·cases rx;obtain⟨t,rfl⟩:=ry;exact⟨.none_int b t,.none_int b t⟩
 ·cases rx;obtain⟨t,rfl⟩:=ry;exact⟨.none_str b t,.none_str b t⟩
 ·cases rx;cases ry;exact⟨.bool_none a,.bool_none a⟩
 ·cases rx;cases ry;exact⟨.bool_bool a b,.bool_bool a b⟩
 ·cases rx;obtain⟨t,rfl⟩:=ry;exact⟨.bool_int a b t,.bool_int a b t⟩
 ·cases rx;obtain⟨t,rfl⟩:=ry;exact⟨.bool_str a b t,.bool_str a b t⟩
 ·obtain⟨t',rfl⟩:=rx;cases ry;exact⟨.int_none a t',.int_none a t'⟩
 ·obtain⟨t',rfl⟩:=rx;cases ry;exact⟨.int_bool a t' b,.int_bool a t' b⟩
 ·obtain⟨t',rfl⟩:=rx;obtain⟨t,rfl⟩:=ry;exact⟨.int_int a t' b t,.int_int a t' b t⟩
 ·obtain⟨t',rfl⟩:=rx;obtain⟨t,rfl⟩:=ry;exact⟨.int_str a t' b t,.int_str a t' b t⟩
 ·obtain⟨t',rfl⟩:=rx;cases ry;exact⟨.str_none a t',.str_none a t'⟩
 ·obtain⟨t',rfl⟩:=rx;cases ry;exact⟨.str_bool a t' b,.str_bool a t' b⟩
 ·obtain⟨t',rfl⟩:=rx;obtain⟨t,rfl⟩:=ry;exact⟨.str_int a t' b t,.str_int a t' b t⟩
 ·obtain⟨t',rfl⟩:=rx;obtain⟨t,rfl⟩:=ry;exact⟨.str_str a t' b t,.str_str a t' b t⟩
def C5{xs:List V}{us:List Value}(r:aj xs us){j:Nat}(h:j<us.toArray.size):∃x,xs[j]?=some x/\ai x us.toArray[j]:=by
 have l:=r.length
 have k:j<xs.length:=by rw[l];simpa using h
 obtain⟨u,hu,ru⟩:=r.get (i:=j) (x:=xs[j]) (b_ k)
 refine⟨_,b_ k,?_⟩
 have e1:us.toArray[j]=u:=by
  obtain⟨_,e⟩:=qy_.mp hu
  simpa using e
 rw[e1];exact ru
open SeqAt in
def AJ(I:ag X pins σ H s){A:Around}(hu:A.units<cLine){t:Bool}{a b:Addr}{xs ys:List V}{Ts Us:List Tv}(ha:a_ X.K H t a xs)(hb:a_ X.K H t b ys)(lx:xs.length=Ts.length)(ly:ys.length=Us.length)
  (it:∀(j:Nat) (x y:V) (T U:Tv) (v u:Value),xs[j]?=some x->ys[j]?=some y->Ts[j]?=some T->Us[j]?=some U->ai x v->ai y u->EqAt A.in1 s v u (eqT T U)):RcAt A s (.ref a) (.ref b) (cN Ts Us)/\RcNeAt A s (.ref a) (.ref b) (!cN Ts Us):=by
 have item:∀{vs us:List Value},aj xs vs->aj ys us->∀j (h1:j<vs.toArray.size) (h2:j<us.toArray.size),EqAt A.in1 s vs.toArray[j] us.toArray[j] (eqT (Ts.getD j nT) (Us.getD j nT)):=λ{vs us} r1 r2 j h1 h2=>by
  obtain⟨x,ex,rx⟩:=C5 r1 h1
  obtain⟨y,ey,ry⟩:=C5 r2 h2
  have k1:=(qy_.mp ex).1
  have k2:=(qy_.mp ey).1
  refine it j x y _ _ _ _ ex ey ?_ ?_ rx ry
  ·rw[j3,b_ (by omega)];rfl
  ·rw[j3,b_ (by omega)];rfl
 cases t with
 |false=>
  obtain⟨vs,r1,l1⟩:=a_.isList I ha
  obtain⟨us,r2,l2⟩:=a_.isList I hb
  have n1:=r1.length
  have n2:=r2.length
  by_cases hl:Ts.length=Us.length
  ·have e1:=RcAt.lists l1 l2 (by simp only[List.size_toArray];omega) hu (item r1 r2)
   have e2:=RcNeAt.lists l1 l2 (by simp only[List.size_toArray];omega) hu (item r1 r2)
   rw[show vs.toArray.size=Ts.length by rw[cy];omega,uH hl]at e1 e2
   exact⟨e1,e2⟩
  ·rw[vR hl]
   have hne:(vs.toArray.size != us.toArray.size)=true:=by
    rw[bne_iff_ne,cy,cy];omega
   exact⟨.lists_lengths l1 l2 hne hu,.lists_lengths l1 l2 hne hu⟩
 |true=>
  obtain⟨vs,r1,l1⟩:=a_.isTup I ha
  obtain⟨us,r2,l2⟩:=a_.isTup I hb
  have n1:=r1.length
  have n2:=r2.length
  have e1:=RcAt.tuples l1 l2 hu (item r1 r2)
  have e2:=RcNeAt.tuples l1 l2 hu (item r1 r2)
  have ee:((List.range (min vs.toArray.size us.toArray.size)).all (λi=>eqT (Ts.getD i nT) (Us.getD i nT))&&vs.toArray.size==us.toArray.size)=cN Ts Us:=by
   rw[show vs.toArray.size=Ts.length by rw[cy];omega,show us.toArray.size=Us.length by rw[cy];omega]
   by_cases hl:Ts.length=Us.length
   ·rw[<-hl,Nat.min_self,uH hl];simp
   ·rw[vR hl,beq_eq_false_iff_ne.mpr hl,m8]
  rw[ee]at e1 e2
  exact⟨e1,e2⟩
open SeqAt in
def wM(I:ag X pins σ H s):∀(n:Nat) {A:Around}{x y:V}{T U:Tv}{v u:Value},A.units+n<cLine->fk n T->fk n U->VP X.K H n x T->VP X.K H n y U->ai x v->ai y u->EqAt A s v u (eqT T U)
 |0,_,_,_,_,_,_,_,_,h,_,_,_,_,_=>False.elim h
 |n+1,A,x,y,T,U,v,u,hu,d,d',h,h',rx,ry=>by
  have hu0:A.units<cLine:=by omega
  have hh:=h
  have hh':=h'
  rcases h with⟨f,rfl⟩|⟨t,a,xs,Ts,rfl,e2,rfl,z,p⟩|⟨a,kvs,kts,rfl,e2,rfl,_⟩
  ·rcases h' with⟨f',rfl⟩|⟨t',a',xs',Ts',rfl,e2',rfl,z',p'⟩|⟨a',kvs',kts',rfl,_,rfl,_⟩
   ·have:=An (A:=A) (s:=s) rx ry f f'
    simpa[eqT]using this
   ·cases ry
    have:=(pX I hu0 f rx e2').1
    simpa[eqT]using this
   ·exact False.elim d'
  ·rcases h' with⟨f',rfl⟩|⟨t',b,ys,Us,rfl,e2',rfl,z',p'⟩|⟨a',kvs',kts',rfl,_,rfl,_⟩
   ·cases rx
    have:=(pX I hu0 f' ry e2).2.1
    simpa[eqT]using this
   ·cases rx
    cases ry
    by_cases ab:a=b
    ·subst ab
     have:=zx I hh hh' d d'
     rw[this]
     exact EqAt.same _
    ·by_cases tt:t=t'
     ·subst tt
      have d:∀U∈Ts,fk n U:=d
      have d':∀U∈Us,fk n U:=d'
      have:=(AJ I hu0 e2 e2' (Paired.length p) (Paired.length p') λj x y T U v u ex ey eT eU rx ry=>by
       obtain⟨T',eT',vx⟩:=fF p ex
       obtain⟨U',eU',vy⟩:=fF p' ey
       rw[eT]at eT';cases eT'
       rw[eU]at eU';cases eU'
       exact wM I n (by show A.units+1+n<_;omega) (d _ (g5 eT)) (d' _ (g5 eU)) vx vy rx ry).1
      have r:=EqAt.of_refs ab this
      simpa[eqT]using r
     ·have e:eqT (.seq t Ts) (.seq t' Us)=false:=by simp[eqT,tt]
      rw[e]
      refine EqAt.of_refs ab ?_
      cases t<;>cases t'<;>first|exact absurd rfl tt|skip
      ·obtain⟨_,_,l1⟩:=a_.isList I e2
       obtain⟨_,_,l2⟩:=a_.isTup I e2'
       exact .list_tuple l1 l2 hu0
      ·obtain⟨_,_,l1⟩:=a_.isTup I e2
       obtain⟨_,_,l2⟩:=a_.isList I e2'
       exact .tuple_list l1 l2 hu0
   ·exact False.elim d'
  ·exact False.elim d
end
def Dr(Ts Us:List Tv):Prop:=Ts=[]\/Us=[]\/((∀T∈Ts,fk 40 T)/\∀U∈Us,fk 40 U)
def kA(neg:Bool):P2
 |.leaf v,.leaf w,Q=>Q (bT (neg != dc v w))
 |.leaf _,.seq _ _,Q=>Q (bT neg)
 |.seq _ _,.leaf _,Q=>Q (bT neg)
 |.seq s xs,.seq t ys,Q=>Dr xs ys/\Q (bT (neg != (s==t&&cN xs ys)))
 |_,_,_=>False
section
variable{X:Cx}
open SeqAt in
def zw{pins:List (Addr×Obj)}{σ:St}{H:Hp}{s:Shared}(I:ag X pins σ H s)(hu:X.A.units+64<cLine){neg:Bool}{x y:V}{T U:Tv}{v u:Value}{Q:Tv->Prop}(vx:VA X.K H x T)(vy:VA X.K H y U)(rx:ai x v)(ry:ai y u)(h:kA neg T U Q):
  ∃b,Q (bT (neg != b))/\RcAt X.A s v u b/\RcNeAt X.A s v u (!b):=by
 have hu0:X.A.units<cLine:=by omega
 unfold kA at h
 split at h
 ·obtain⟨rfl,f⟩:=vx.leafI
  obtain⟨rfl,f'⟩:=vy.leafI
  exact⟨_,h,IC f f' rx ry⟩
 ·obtain⟨rfl,f⟩:=vx.leafI
  obtain⟨a,xs,rfl,hs,_⟩:=vy.seqI
  cases ry
  have r:=pX I hu0 f rx hs
  exact⟨false,by simpa using h,r.2.2.1,r.2.2.2.2.1⟩
 ·obtain⟨rfl,f⟩:=vy.leafI
  obtain⟨a,xs,rfl,hs,_⟩:=vx.seqI
  cases rx
  have r:=pX I hu0 f ry hs
  exact⟨false,by simpa using h,r.2.2.2.1,r.2.2.2.2.2⟩
 ·rename_i t Ts t' Us
  obtain⟨ok,q⟩:=h
  obtain⟨a,xs,rfl,hs,z,p⟩:=vx.seqI
  obtain⟨b,ys,rfl,hs',z',p'⟩:=vy.seqI
  cases rx
  cases ry
  refine⟨_,q,?_⟩
  by_cases tt:t=t'
  ·subst tt
   have e:(t==t&&cN Ts Us)=cN Ts Us:=by simp
   rw[e]
   refine AJ I hu0 hs hs' (Paired.length p) (Paired.length p') λj x y T U v u ex ey eT eU rx ry=>?_
   rcases ok with rfl|rfl|⟨o1,o2⟩
   ·cases eT
   ·cases eU
   ·obtain⟨T',eT',d,vx⟩:=fF p ex
    obtain⟨U',eU',d',vy⟩:=fF p' ey
    rw[eT]at eT';cases eT'
    rw[eU]at eU';cases eU'
    have k1:=o1 _ (g5 eT)
    have k2:=o2 _ (g5 eU)
    exact wM I 40 (by show X.A.units+1+40<_;omega) k1 k2 (k1.vp vx) (k2.vp vy) rx ry
  ·have e:(t==t'&&cN Ts Us)=false:=by simp[tt]
   rw[e]
   cases t<;>cases t'<;>first|exact absurd rfl tt|skip
   ·obtain⟨_,_,l1⟩:=a_.isList I hs
    obtain⟨_,_,l2⟩:=a_.isTup I hs'
    exact⟨.list_tuple l1 l2 hu0,.list_tuple l1 l2 hu0⟩
   ·obtain⟨_,_,l1⟩:=a_.isTup I hs
    obtain⟨_,_,l2⟩:=a_.isList I hs'
    exact⟨.tuple_list l1 l2 hu0,.tuple_list l1 l2 hu0⟩
 ·exact False.elim h
def yb(K:W.Frag)(neg:Bool):R2:=λx y H Q=>∃T U,VA K H x T/\VA K H y U/\kA neg T U λW=>∃b,W=bT b/\Q (.bl b) H
def F5(hu:X.A.units+64<cLine):cg X (compareOp .Eq) (yb X.K false):=by
 rintro pins s σ H x y v u Q I rx ry ⟨T,U,vx,vy,h⟩
 obtain⟨b,⟨b',e,q⟩,r,_⟩:=zw I hu vx vy rx ry h
 cases e
 exact r X.prog X.w X.xe _ ⟨.bl b,H,I,rfl,by simpa using q⟩
def F8(hu:X.A.units+64<cLine):cg X (compareOp .NotEq) (yb X.K true):=by
 rintro pins s σ H x y v u Q I rx ry ⟨T,U,vx,vy,h⟩
 obtain⟨b,⟨b',e,q⟩,_,r⟩:=zw I hu vx vy rx ry h
 cases e
 exact r X.prog X.w X.xe _ ⟨.bl (!b),H,I,rfl,by simpa using q⟩
def CS{neg:Bool}{T U:Tv}{Q Q':Tv->Prop}(h:kA neg T U Q)(i:∀b,Q (bT b)->Q' (bT b)):kA neg T U Q':=by
 unfold kA at h ⊢
 split at h
 ·exact i _ h
 ·exact i _ h
 ·exact i _ h
 ·exact⟨h.1,i _ h.2⟩
 ·exact False.elim h
abbrev wz:P2:=kA false
abbrev C7:P2:=kA true
def kU(hu:X.A.units+64<cLine):cp X (compareOp .Eq) wz:=⟨_,F5 hu,λx y T U H Q QQ vx vy h k=>⟨T,U,vx,vy,CS h λb q=>⟨b,rfl,k _ _ _ (ax.refl _) (.flat rfl) q⟩⟩⟩
def ET(hu:X.A.units+64<cLine):cp X (compareOp .NotEq) C7:=⟨_,F8 hu,λx y T U H Q QQ vx vy h k=>⟨T,U,vx,vy,CS h λb q=>⟨b,rfl,k _ _ _ (ax.refl _) (.flat rfl) q⟩⟩⟩
end
section
variable{X:Cx}{F:Fm}
def dN{K:W.Frag}{H:Hp}{xs:List V}{T:Tv}(h:cf K H xs [T]):∃x,xs=[x]/\VA K H x T:=by
 cases h with
 |cons r t=>cases t;exact⟨_,rfl,r⟩
def xP{K:W.Frag}{H:Hp}{xs:List V}{T U:Tv}(h:cf K H xs [T,U]):∃x y,xs=[x,y]/\VA K H x T/\VA K H y U:=by
 cases h with
 |cons r t=>
  obtain⟨y,rfl,v⟩:=dN t
  exact⟨_,y,rfl,r,v⟩
def EW(K:W.Frag):R2:=λx y H Q=>∃l b xs zs,x=.ref l/\y=.ref b/\Rd H l (.lst xs)/\Rd H b (.lst zs)/\xs.length+zs.length<=sizeLine/\∀p,H p=none->Q (.ref p) (ar H p (.lst (xs++zs)))
theorem Jc:cg X (binaryOp .Add) (EW X.K):=by
 rintro pins s σ H _ _ v u Q I rx ry ⟨l,b,xs,zs,rfl,rfl,hH,hB,hz,q⟩
 cases rx
 cases ry
 obtain⟨z,its,n,r,e⟩:=hH.ok I.hok
 obtain⟨z2,its2,n2,r2,e2⟩:=hB.ok I.hok
 have l1:=r.length
 have l2:=r2.length
 refine PySem.P.add_list e e2 ?_ (by rw[cy,cy];omega)
 rw[show its.toArray++its2.toArray=(its++its2).toArray by simp]
 exact⟨.ref _,_,I.lnew (t':=s.toks) (r.append r2) (by rw[b9];omega),rfl,q _ I.fresh⟩
def zi:P2
 |.leaf (.int i),.leaf (.int j),Q=>Q (iT (i+j))
 |.leaf (.str x),.leaf (.str y),Q=>x.length+y.length<=100000/\Q (sT (x++y))
 |.seq true xs,.seq true ys,Q=>xs.length+ys.length<=100000/\Q (.seq true (xs++ys))
 |.seq false xs,.seq false ys,Q=>xs.length+ys.length<=100000/\Q (.seq false (xs++ys))
 |_,_,_=>False
def cZ:gA X (binaryOp .Add) zi:=⟨_,op_add.or (op_add_str.or (op_catG.or Jc)),λx y T U H Q QQ vx vy h k=>by
 unfold zi at h
 split at h
 ·obtain⟨rfl,_⟩:=vx.leafI
  obtain⟨rfl,_⟩:=vy.leafI
  exact .inl ⟨_,_,rfl,rfl,k _ _ _ (.flat rfl) h⟩
 ·obtain⟨rfl,_⟩:=vx.leafI
  obtain⟨rfl,_⟩:=vy.leafI
  exact .inr (.inl ⟨_,_,rfl,rfl,gY h.1,k _ _ _ (.flat rfl) h.2⟩)
 ·obtain⟨a,xs,rfl,hs,z,p⟩:=vx.seqI
  obtain⟨b,ys,rfl,hs',z',p'⟩:=vy.seqI
  have l1:xs.length=_:=Paired.length p
  have l2:ys.length=_:=Paired.length p'
  refine .inr (.inr (.inl ⟨a,b,xs,ys,rfl,rfl,hs,hs',gY (by omega),λr H' hr sm=>k _ _ _ ⟨sm,.inl (VA.seq (t:=true) hr (by rw[b9];exact h.1) (qA (p.hs sm.hs) (p'.hs sm.hs)))⟩ h.2⟩))
 ·obtain⟨a,xs,rfl,⟨ob,hs⟩,z,p⟩:=vx.seqI
  obtain⟨b,ys,rfl,⟨ob',hs'⟩,z',p'⟩:=vy.seqI
  have l1:xs.length=_:=Paired.length p
  have l2:ys.length=_:=Paired.length p'
  refine .inr (.inr (.inr ⟨a,b,xs,ys,rfl,rfl,.inr ⟨ob,hs⟩,.inr ⟨ob',hs'⟩,gY (by omega),λr n=>k _ _ _ (g9.lst n (by rw[b9];exact h.1) (qA p p')) h.2⟩))
 ·exact False.elim h⟩
def se(C:Int->Int->Prop)(g:Int->Int->V):P2
 |.leaf (.int i),.leaf (.int j),Q=>C i j/\Q (.leaf (g i j))
 |_,_,_=>False
def sF{f:Value->Value->Sem Value}{C:Int->Int->Prop}{g:Int->Int->V}(h:cg X f (rI C g))(fl:∀i j,dL (g i j)=true):cp X f (se C g):=⟨_,h,λx y T U H Q QQ vx vy h k=>by
 unfold se at h
 split at h
 ·obtain⟨rfl,_⟩:=vx.leafI
  obtain⟨rfl,_⟩:=vy.leafI
  exact⟨_,_,rfl,rfl,h.1,k _ _ _ (ax.refl _) (.flat (fl _ _)) h.2⟩
 ·exact False.elim h⟩
def pM(g:Int->Int->V):P2
 |.leaf (.int i),.leaf (.int j),Q=>Q (.leaf (g i j))
 |_,_,_=>False
def wZ{f:Value->Value->Sem Value}{g:Int->Int->V}(h:cg X f (qe g))(fl:∀i j,dL (g i j)=true):cp X f (pM g):=⟨_,h,λx y T U H Q QQ vx vy h k=>by
 unfold pM at h
 split at h
 ·obtain⟨rfl,_⟩:=vx.leafI
  obtain⟨rfl,_⟩:=vy.leafI
  exact⟨_,_,rfl,rfl,k _ _ _ (ax.refl _) (.flat (fl _ _)) h⟩
 ·exact False.elim h⟩
abbrev EG:P2:=pM λi j=>.int (i-j)
def iZ:gA X (binaryOp .Sub) EG:=(wZ Ga λ_ _=>rfl).op
def FR(i j:Int):Prop:=p_ i j\/(cx i/\cx j)
def yN:P2
 |.leaf (.int i),.leaf (.int j),Q=>FR i j/\Q (iT (i*j))
 |.leaf (.str z),.leaf (.int n),Q=>(z.length<=1000/\n<=1000 /\ -1000<=n)/\Q (sT (mX z n))
 |_,_,_=>False
def Ih:gA X (binaryOp .Mult) yN:=⟨_,op_mul.or (op_mulB.or Jf),λx y T U H Q QQ vx vy h k=>by
 unfold yN at h
 split at h
 ·obtain⟨rfl,_⟩:=vx.leafI
  obtain⟨rfl,_⟩:=vy.leafI
  rcases h.1 with c|c
  ·exact .inl ⟨_,_,rfl,rfl,c,k _ _ _ (.flat rfl) h.2⟩
  ·exact .inr (.inl ⟨_,_,rfl,rfl,c,k _ _ _ (.flat rfl) h.2⟩)
 ·obtain⟨rfl,_⟩:=vx.leafI
  obtain⟨rfl,_⟩:=vy.leafI
  exact .inr (.inr ⟨_,_,rfl,rfl,h.1.1,h.1.2.1,h.1.2.2,k _ _ _ (.flat rfl) h.2⟩)
 ·exact False.elim h⟩
abbrev FF:P2:=se (λ_ j=>0<j/\cx j) λi j=>.int (i / j)
def Bt:gA X (binaryOp .FloorDiv) FF:=(sF Bi λ_ _=>rfl).op
abbrev ED:P2:=se (λ_ j=>0<j) λi j=>.int (i % j)
def wY:gA X (binaryOp .Mod) ED:=(sF jA λ_ _=>rfl).op
abbrev EE:P2:=se yw λi j=>.int (i ^ j.toNat)
def oH:gA X (binaryOp .Pow) EE:=(sF Ay λ_ _=>rfl).op
def C8:P2
 |.leaf (.int i),.leaf (.int j),Q=>Q (bT (decide (i<j)))
 |.leaf (.str x),.leaf (.str y),Q=>Q (bT (decide (x.cps.toList<y.cps.toList)))
 |_,_,_=>False
def kT:cp X (compareOp .Lt) C8:=⟨_,op_lt.or K5,λx y T U H Q QQ vx vy h k=>by
 unfold C8 at h
 split at h
 ·obtain⟨rfl,_⟩:=vx.leafI
  obtain⟨rfl,_⟩:=vy.leafI
  exact .inl ⟨_,_,rfl,rfl,k _ _ _ (ax.refl _) (.flat rfl) h⟩
 ·obtain⟨rfl,_⟩:=vx.leafI
  obtain⟨rfl,_⟩:=vy.leafI
  exact .inr ⟨_,_,rfl,rfl,k _ _ _ (ax.refl _) (.flat rfl) h⟩
 ·exact False.elim h⟩
abbrev NA:P2:=pM λi j=>.bl (decide (i<=j))
def xJ:cp X (compareOp .LtE) NA:=wZ FE λ_ _=>rfl
abbrev NB:P2:=pM λi j=>.bl (decide (j<i))
def AO:cp X (compareOp .Gt) NB:=wZ FD λ_ _=>rfl
def xr(v:V):Tv->Bool
 |.leaf w=>decide (w=v)
 |_=>false
def rY{K:W.Frag}{H:Hp}{x v:V}{T:Tv}(f:dL v=true)(h:VA K H x T):decide (x=v)=xr v T:=by
 cases T with
 |leaf w=>obtain⟨rfl,_⟩:=h.leafI;rfl
 |seq t Ts=>
  obtain⟨a,_,rfl,_⟩:=h.seqI
  exact g4 (λz=>by rw[<-z]at f;cases f)
 |dct kts=>
  obtain⟨a,_,rfl,_⟩:=h.dctI
  exact g4 (λz=>by rw[<-z]at f;cases f)
def tO(neg:Bool):P2
 |T,.leaf .non,Q=>Q (bT (neg != xr .non T))
 |T,.leaf (.bl b),Q=>Q (bT (neg != xr (.bl b) T))
 |_,_,_=>False
abbrev C_:P2:=tO false
abbrev Az:P2:=tO true
def mJ:cp X (compareOp .Is) C_:=⟨_,op_isN.or F7,λx y T U H Q QQ vx vy h k=>by
 unfold C_ tO at h
 split at h
 ·obtain⟨rfl,_⟩:=vy.leafI
  exact .inl ⟨rfl,k _ _ _ (ax.refl _) (.flat rfl) (by rw[rY rfl vx];simpa using h)⟩
 ·obtain⟨rfl,_⟩:=vy.leafI
  exact .inr ⟨_,rfl,k _ _ _ (ax.refl _) (.flat rfl) (by rw[rY rfl vx];simpa using h)⟩
 ·exact False.elim h⟩
def JU:cp X (compareOp .IsNot) Az:=⟨_,op_notN.or K4,λx y T U H Q QQ vx vy h k=>by
 unfold Az tO at h
 split at h
 ·obtain⟨rfl,_⟩:=vy.leafI
  exact .inl ⟨rfl,k _ _ _ (ax.refl _) (.flat rfl) (by rw[rY rfl vx];simpa using h)⟩
 ·obtain⟨rfl,_⟩:=vy.leafI
  exact .inr ⟨_,rfl,k _ _ _ (ax.refl _) (.flat rfl) (by rw[rY rfl vx];simpa using h)⟩
 ·exact False.elim h⟩
def wT{pins:List (Addr×Obj)}{σ:St}{H:Hp}{s:Shared}(I:ag X pins σ H s):∀{n:Nat}{x:V}{T U:Tv},fk n T->fk n U->VP X.K H n x T->VP X.K H n x U->T=U
 |0,_,_,_,h,_,_,_=>False.elim h
 |n+1,x,T,U,d,d',h,h'=>by
  rcases h with⟨f,rfl⟩|⟨t,a,xs,Ts,rfl,e2,rfl,z,p⟩|⟨a,kvs,kts,rfl,e2,rfl,_⟩
  ·rcases h' with⟨_,rfl⟩|⟨t',a',xs',Ts',rfl,_⟩|⟨a',kvs',kts',rfl,_⟩
   ·rfl
   ·cases f
   ·cases f
  ·rcases h' with⟨f,rfl⟩|⟨t',a',xs',Ts',e1',e2',rfl,z',p'⟩|⟨a',kvs',kts',e1',e2',rfl,_⟩
   ·cases f
   ·cases e1'
    have tt:t=t':=by
     cases t<;>cases t'<;>first|rfl|skip
     ·obtain⟨_,_,l1⟩:=a_.isList I e2
      obtain⟨_,_,l2⟩:=a_.isTup I e2'
      exact absurd rfl (SeqAt.ne_of_list_tuple l1 l2)
     ·obtain⟨_,_,l1⟩:=a_.isList I e2'
      obtain⟨_,_,l2⟩:=a_.isTup I e2
      exact absurd rfl (SeqAt.ne_of_list_tuple l1 l2)
    subst tt
    have ex:xs=xs':=by
     cases t with
     |false=>exact I.list_inj (cQ e2) (cQ e2')
     |true=>exact I.tuple_inj e2 e2'
    subst ex
    have g:∀U∈Ts,fk n U:=d
    have g':∀U∈Ts',fk n U:=d'
    have key:∀{xs:List V} {Ts Ts':List Tv},Paired (VP X.K H n) xs Ts->Paired (VP X.K H n) xs Ts'->(∀U∈Ts,fk n U)->(∀U∈Ts',fk n U)->Ts=Ts':=by
     intro xs Ts Ts' p
     induction p generalizing Ts' with
     |nil=>intro p' _ _;cases p';rfl
     |cons r _ ih=>
      intro p' d d'
      cases p' with
      |cons r' t'=>rw[wT I (d _ (.head _)) (d' _ (.head _)) r r',ih t' (λU hU=>d U (.tail _ hU)) (λU hU=>d' U (.tail _ hU))]
    rw[key p p' g g']
   ·exact False.elim d'
  ·exact False.elim d
def pP(T:Tv)(Us:List Tv):Prop:=fk 40 T/\∀U∈Us,fk 40 U
open Classical in
def qY{pins:List (Addr×Obj)}{σ:St}{H:Hp}{s:Shared}(I:ag X pins σ H s)(hu:X.A.units+64<cLine){x:V}{T:Tv}{v:Value}{ys:List V}{Us:List Tv}{its:List Value}(vx:VA X.K H x T)(rx:ai x v)(p:cf X.K H ys Us)(r:aj ys its)(ok:pP T Us):
  ∃e:Value->Bool,(∀y,y∈its.toArray->SeqAt.EqAt X.A.in1 s y v (e y))/\its.toArray.any e=Us.any λU=>eqT U T:=by
 obtain⟨dx,vx⟩:=vx
 have hx:=ok.1.vp vx
 refine⟨λw=>decide (∃y U,ai y w/\VP X.K H 40 y U/\fk 40 U/\eqT U T=true),λw hw=>?_,?_⟩
 ·have hw:w∈its:=by simpa using hw
  obtain⟨j,hj,rfl⟩:=qX1_.mp hw
  have hj':j<ys.length:=by rw[r.length];exact hj
  obtain⟨u,eu,ru⟩:=r.get (b_ hj')
  rw[b_ hj]at eu
  cases eu
  obtain⟨U,eU,d,vU⟩:=fF p (b_ hj')
  have dU:=ok.2 U (g5 eU)
  have e:=wM I 40 (A:=X.A.in1) (by show X.A.units+1+40<_;omega) dU ok.1 (dU.vp vU) hx ru rx
  have ee:decide (∃y U,ai y its[j]/\VP X.K H 40 y U/\fk 40 U/\eqT U T=true)=eqT U T:=by
   rw[h_,decide_eq_true_iff]
   constructor
   ·rintro⟨y,U',ry,vy,dy,z⟩
    have:=ai.inj ry ru
    subst this
    rw[wT I dU dy (dU.vp vU) vy]
    exact z
   ·intro z
    exact⟨_,U,ru,dU.vp vU,dU,z⟩
  show SeqAt.EqAt X.A.in1 s its[j] v (decide (∃y U,ai y its[j]/\VP X.K H 40 y U/\fk 40 U/\eqT U T=true))
  rw[ee]
  exact e
 ·rw[h_,Array.any_eq_true',qL_]
  constructor
  ·rintro⟨w,hw,z⟩
   rw[decide_eq_true_iff]at z
   obtain⟨y,U',ry,vy,dy,z⟩:=z
   have hw:w∈its:=by simpa using hw
   obtain⟨j,hj,rfl⟩:=qX1_.mp hw
   have hj':j<ys.length:=by rw[r.length];exact hj
   obtain⟨u,eu,ru⟩:=r.get (b_ hj')
   rw[b_ hj]at eu
   cases eu
   obtain⟨U,eU,d,vU⟩:=fF p (b_ hj')
   have dU:=ok.2 U (g5 eU)
   have:=ai.inj ry ru
   subst this
   refine⟨U,g5 eU,?_⟩
   rw[wT I dU dy (dU.vp vU) vy]
   exact z
  ·rintro⟨U,hU,z⟩
   obtain⟨j,hj,rfl⟩:=qX1_.mp hU
   obtain⟨y,ey,d,vy⟩:=pV p (b_ hj)
   obtain⟨u,eu,ru⟩:=r.get ey
   have dU:=ok.2 _ hU
   exact⟨u,by simpa using g5 eu,i_ ⟨y,_,ru,dU.vp vy,dU,z⟩⟩
def yc(K:W.Frag)(neg:Bool):R2:=λx y H Q=>∃T t Us,VA K H x T/\VA K H y (.seq t Us)/\pP T Us/\Q (.bl (neg != Us.any λU=>eqT U T)) H
def F6(hu:X.A.units+64<cLine):cg X (compareOp .In) (yc X.K false):=by
 rintro pins s σ H x y v u Q I rx ry ⟨T,t,Us,vx,vy,ok,q⟩
 obtain⟨a,ys,rfl,hs,z,p⟩:=vy.seqI
 cases ry
 cases t with
 |false=>
  obtain⟨its,r,l⟩:=a_.isList I hs
  obtain⟨e,h1,h2⟩:=qY I hu vx rx p r ok
  exact SeqAt.in_listAt e l h1 ⟨.bl _,H,I,rfl,by rw[h2];simpa using q⟩
 |true=>
  obtain⟨its,r,l⟩:=a_.isTup I hs
  obtain⟨e,h1,h2⟩:=qY I hu vx rx p r ok
  exact SeqAt.in_tupleAt e l h1 ⟨.bl _,H,I,rfl,by rw[h2];simpa using q⟩
def K6(hu:X.A.units+64<cLine):cg X (compareOp .NotIn) (yc X.K true):=by
 rintro pins s σ H x y v u Q I rx ry ⟨T,t,Us,vx,vy,ok,q⟩
 obtain⟨a,ys,rfl,hs,z,p⟩:=vy.seqI
 cases ry
 cases t with
 |false=>
  obtain⟨its,r,l⟩:=a_.isList I hs
  obtain⟨e,h1,h2⟩:=qY I hu vx rx p r ok
  exact SeqAt.notIn_listAt e l h1 ⟨.bl _,H,I,rfl,by rw[h2];simpa using q⟩
 |true=>
  obtain⟨its,r,l⟩:=a_.isTup I hs
  obtain⟨e,h1,h2⟩:=qY I hu vx rx p r ok
  exact SeqAt.notIn_tupleAt e l h1 ⟨.bl _,H,I,rfl,by rw[h2];simpa using q⟩
def Iz:R2:=λy x H Q=>∃a o,x=.ref a/\jM H a y o/\Q (.bl (!o.isSome)) H
def MV(hu:X.A.units+1<cLine):cg X (compareOp .NotIn) Iz:=by
 rintro pins s σ H y _ u v Q I ry rx ⟨a,o,rfl,g,q⟩
 cases rx
 exact Jv hu I g ry λs' I'=>⟨.bl _,H,I',rfl,q⟩
def pj(i j:Str):Bool:=!(Builtin.Str.occurrences j i 0 j.length 1).isEmpty
def tP(neg:Bool):P2
 |T,.seq _ Us,Q=>pP T Us/\Q (bT (neg != Us.any λU=>eqT U T))
 |.leaf (.str i),.leaf (.str j),Q=>Q (bT (neg != pj i j))
 |.leaf (.str k),.dct kts,Q=>Q (bT (neg != (bS kts k).isSome))
 |_,_,_=>False
abbrev Da:P2:=tP false
abbrev AA:P2:=tP true
def mK(hu:X.A.units+64<cLine):cp X (compareOp .In) Da:=⟨_,(F6 hu).or (op_in_str.or (LQ (by omega))),λx y T U H Q QQ vx vy h k=>by
 unfold Da tP at h
 split at h
 ·exact .inl ⟨_,_,_,vx,vy,h.1,k _ _ _ (ax.refl _) (.flat rfl) h.2⟩
 ·obtain⟨rfl,_⟩:=vx.leafI
  obtain⟨rfl,_⟩:=vy.leafI
  exact .inr (.inl ⟨_,_,rfl,rfl,k _ _ _ (ax.refl _) (.flat rfl) (by simpa[pj]using h)⟩)
 ·rename_i kk kts
  obtain⟨rfl,_⟩:=vx.leafI
  obtain⟨a,kvs,rfl,⟨ob,hd⟩,n,z,p⟩:=vy.dctI
  refine .inr (.inr ⟨a,_,rfl,.inl ⟨kvs,.inr kk,.inr ⟨ob,hd⟩,rfl,rfl⟩,k _ _ _ (ax.refl _) (.flat rfl) ?_⟩)
  rcases rJ p kk with⟨e1,e2⟩|⟨U,v,e1,e2,_⟩
  ·rw[e2];rw[e1]at h;exact h
  ·rw[e2];rw[e1]at h;exact h
 ·exact False.elim h⟩
def Bm(hu:X.A.units+64<cLine):cp X (compareOp .NotIn) AA:=⟨_,(K6 hu).or (op_notIn_str.or (MV (by omega))),λx y T U H Q QQ vx vy h k=>by
 unfold AA tP at h
 split at h
 ·exact .inl ⟨_,_,_,vx,vy,h.1,k _ _ _ (ax.refl _) (.flat rfl) h.2⟩
 ·obtain⟨rfl,_⟩:=vx.leafI
  obtain⟨rfl,_⟩:=vy.leafI
  exact .inr (.inl ⟨_,_,rfl,rfl,k _ _ _ (ax.refl _) (.flat rfl) (by simpa[pj]using h)⟩)
 ·rename_i kk kts
  obtain⟨rfl,_⟩:=vx.leafI
  obtain⟨a,kvs,rfl,⟨ob,hd⟩,n,z,p⟩:=vy.dctI
  refine .inr (.inr ⟨a,_,rfl,.inl ⟨kvs,.inr kk,.inr ⟨ob,hd⟩,rfl,rfl⟩,k _ _ _ (ax.refl _) (.flat rfl) ?_⟩)
  rcases rJ p kk with⟨e1,e2⟩|⟨U,v,e1,e2,_⟩
  ·rw[e2];rw[e1]at h;exact h
  ·rw[e2];rw[e1]at h;exact h
 ·exact False.elim h⟩
def sd:P2
 |.seq _ Ts,.leaf (.int i),Q=>∃U,jd Ts i=some U/\Q U
 |.leaf (.str z),.leaf (.int i),Q=>z.length<=100000/\∃c,jd z.cps.toList i=some c/\Q (sT ⟨#[c]⟩)
 |.dct kts,.leaf (.str k),Q=>∃U,bS kts k=some U/\Q U
 |_,_,_=>False
def Mq{α β:Type}{R:α->β->Prop}{xs:List α}{ys:List β}{i:Int}{y:β}(p:Paired R xs ys)(h:jd ys i=some y):∃x,jd xs i=some x/\R x y:=by
 unfold jd at h ⊢
 rw[Paired.length p]
 cases e:qf ys.length i with
 |none=>rw[e]at h;cases h
 |some j=>
  rw[e]at h
  obtain⟨x,ex,r⟩:=pV p (show ys[j]?=some y from h)
  exact⟨x,ex,r⟩
def FN(hu:X.A.units+64<cLine):yz X sd:=⟨_,ix_seq.or (IV (by omega)),λx y T U H Q QQ vx vy h k=>by
 unfold sd at h
 split at h
 ·rename_i t Ts i
  obtain⟨rfl,_⟩:=vy.leafI
  obtain⟨a,xs,rfl,hs,z,p⟩:=vx.seqI
  obtain⟨U,e,q⟩:=h
  obtain⟨x,ex,v⟩:=Mq p e
  cases t with
  |false=>exact .inl (.inl ⟨a,xs,i,x,rfl,rfl,cQ hs,ex,k _ _ _ (.va v) q⟩)
  |true=>exact .inl (.inr (.inl ⟨a,xs,i,x,rfl,rfl,hs,ex,k _ _ _ (.va v) q⟩))
 ·obtain⟨rfl,_⟩:=vx.leafI
  obtain⟨rfl,_⟩:=vy.leafI
  obtain⟨l,c,e,q⟩:=h
  exact .inl (.inr (.inr ⟨_,_,c,rfl,rfl,gY l,e,k _ _ _ (.flat rfl) q⟩))
 ·rename_i kts kk
  obtain⟨rfl,_⟩:=vy.leafI
  obtain⟨a,kvs,rfl,⟨ob,hd⟩,n,z,p⟩:=vx.dctI
  obtain⟨U,e,q⟩:=h
  rcases rJ p kk with⟨e1,e2⟩|⟨U',v,e1,e2,vv⟩
  ·rw[e1]at e;cases e
  ·rw[e1]at e;cases e
   exact .inr ⟨a,v,rfl,.inl ⟨kvs,.inr kk,.inr ⟨ob,hd⟩,rfl,e2.symm⟩,k _ _ _ (.va vv) q⟩
 ·exact False.elim h⟩
def kC{α:Type}(xs:List α)(lo hi:Option Int):List α:=(xs.drop (HT.sIx xs.length 0 lo)).take (HT.sIx xs.length xs.length hi-HT.sIx xs.length 0 lo)
def zQ{α β:Type}{R:α->β->Prop}:∀{l:List α}{m:List β}(n:Nat),Paired R l m->Paired R (l.drop n) (m.drop n)
 |_,_,0,p=>p
 |_,_,_+1,.nil=>.nil
 |_,_,n+1,.cons _ t=>zQ n t
def CT{α β:Type}{R:α->β->Prop}:∀{l:List α}{m:List β}(n:Nat),Paired R l m->Paired R (l.take n) (m.take n)
 |_,_,0,p=>by rw[qv,qv];exact .nil
 |_,_,_+1,.nil=>.nil
 |_,_,n+1,.cons r t=>.cons r (CT n t)
def Co{α β:Type}{R:α->β->Prop}{l:List α}{m:List β}(lo hi:Option Int)(p:Paired R l m):Paired R (kC l lo hi) (kC m lo hi):=by
 unfold kC
 rw[Paired.length p]
 exact CT _ (zQ _ p)
def Kb{α:Type}(xs:List α)(lo hi:Option Int):(kC xs lo hi).length<=xs.length:=by
 unfold kC
 rw[jh,kz]
 omega
def EF:w8
 |.seq t Ts,lo,hi,Q=>Q (.seq t (kC Ts lo hi))
 |.leaf (.str z),lo,hi,Q=>z.length<=100000/\Q (sT (Txt.slice z lo hi))
 |_,_,_,_=>False
def jD:y8 X EF:=⟨_,sl_list.or (sl_tupW.or HL),λx T lo hi H Q QQ vx h k=>by
 cases T with
 |seq t Ts=>
  have h:Q (.seq t (kC Ts lo hi)):=h
  obtain⟨a,xs,rfl,hs,z,p⟩:=vx.seqI
  have z':(kC Ts lo hi).length<=100000:=bx (Kb _ _ _) z
  cases t with
  |false=>exact .inl ⟨a,xs,rfl,cQ hs,λr n=>k _ _ _ (g9.lst n z' (Co lo hi p)) h⟩
  |true=>exact .inr (.inl ⟨a,xs,rfl,hs,λr H' sm hr=>k _ _ _ ⟨sm,.inl (VA.seq (t:=true) hr z' (Paired.mapP (Co lo hi p) λ_ _ q=>VA.hs sm.hs q))⟩ h⟩)
 |leaf w=>
  cases w with
  |str zz=>
   have h:zz.length<=100000/\Q (sT (Txt.slice zz lo hi)):=h
   obtain⟨rfl,_⟩:=vx.leafI
   exact .inr (.inr ⟨_,rfl,gY h.1,k _ _ _ (.flat rfl) h.2⟩)
  |_=>exact False.elim h
 |dct kts=>exact False.elim h⟩
def tN:Pn
 |[.seq _ Ts],Q=>Q (iT Ts.length)
 |[.leaf (.str z)],Q=>z.length<=100000/\Q (iT z.length)
 |[.dct kts],Q=>Q (iT kts.length)
 |_,_=>False
def cE:iB X (.builtin "len") tN:=⟨_,call_len_seq.or (call_len_str.or Ms),λxs Ts H Q QQ vx h k=>by
 unfold tN at h
 split at h
 ·rename_i t Ts
  obtain⟨x,rfl,v⟩:=dN vx
  obtain⟨a,xs,rfl,hs,z,p⟩:=v.seqI
  have l:xs.length=_:=Paired.length p
  refine .inl ⟨a,xs,rfl,?_,k _ _ _ (.flat rfl) (by rw[l];exact h)⟩
  cases t with
  |false=>exact .inl (cQ hs)
  |true=>exact .inr hs
 ·obtain⟨x,rfl,v⟩:=dN vx
  obtain⟨rfl,_⟩:=v.leafI
  exact .inr (.inl ⟨_,rfl,gY h.1,k _ _ _ (.flat rfl) h.2⟩)
 ·obtain⟨x,rfl,v⟩:=dN vx
  obtain⟨a,kvs,rfl,⟨ob,hd⟩,n,z,p⟩:=v.dctI
  have l:kvs.length=_:=Paired.length p
  exact .inr (.inr ⟨a,kvs,rfl,.inr ⟨ob,hd⟩,k _ _ _ (.flat rfl) (by rw[l];exact h)⟩)
 ·exact False.elim h⟩
def tQ(T:String):Tv->Bool
 |.leaf .non=>false
 |.leaf (.bl _)=>T=="bool" || T=="int"
 |.leaf (.int _)=>T=="int"
 |.leaf (.str _)=>T=="str"
 |.leaf _=>false
 |.seq false _=>T=="list"
 |.seq true _=>T=="tuple"
 |.dct _=>T=="dict"
def Fi{K:W.Frag}{H:Hp}{x:V}{W:Tv}(T:String)(v:VA K H x W):qk K T x H (tQ T W):=by
 cases W with
 |leaf w=>
  obtain⟨rfl,f⟩:=v.leafI
  rcases kE f with rfl|⟨b,rfl⟩|⟨b,rfl⟩|⟨b,rfl⟩<;>rfl
 |seq t Ts=>
  obtain⟨a,xs,rfl,hs,z,p⟩:=v.seqI
  cases t with
  |false=>exact .inl ⟨xs,cQ hs,rfl⟩
  |true=>exact .inr (.inl ⟨xs,hs,rfl⟩)
 |dct kts=>
  obtain⟨a,kvs,rfl,⟨ob,hd⟩,n,z,p⟩:=v.dctI
  exact .inr (.inr ⟨kvs,.inr ⟨ob,hd⟩,rfl⟩)
def Ec(T:String)(u:UT):UT:=λρ Q=>u ρ λW ρ1=>Q (bT (tQ T W)) ρ1
def cI{e t:Expr}{u:UT}{p pos:Pos}(T:String)(hc:aq X (.builtin "isinstance") (λxs H Q=>∃x b,xs=[x,.ty T]/\qk X.K T x H b/\Q (.bl b) H))(hg:Gl X "isinstance")(hm:X.mg "isinstance"=none)(he:UE X F e u)(ht:PE X t (tC (.ty T)))
  (h1:dO e=false:=by rfl) (h2:dO t=false:=by rfl) (hpl:(backTo pos (starEach [t] X.env)).any (·.1)=false:=by rfl):UE X F (.Call (.Name "isinstance" p) [e,t] [] pos) (Ec T u):=
 ⟨PE.imp (iN hc hg hm boot_isinstance (cT he.pe (cT ht dD h2) h1) (by decide) (by decide) (gS h1) hpl) λσ H QQ ⟨ρ,Q,f,h,k⟩=>
  ⟨ρ,_,f,h,λx W H1 ρ1 s1 v1 q1=>⟨x,_,rfl,Fi T v1,k _ _ _ _ s1 (.flat rfl) q1⟩⟩⟩
theorem nP{K:W.Frag}{H:Hp}:∀{xs:List V}{bs:List Bool},cf K H xs (bs.map bT)->xs=bs.map V.bl
 |[],[],_=>rfl
 |_::_,_::_,.cons r t=>by rw[e9,<-nP t,(VA.leafI r).1]
theorem qN{K:W.Frag}{H:Hp}:∀{xs:List V}{ns:List Int},cf K H xs (ns.map iT)->xs=ns.map V.int
 |[],[],_=>rfl
 |_::_,_::_,.cons r t=>by rw[e9,<-qN t,(VA.leafI r).1]
theorem iK{K:W.Frag}{H:Hp}:∀{xs:List V}{ss:List Str},cf K H xs (ss.map sT)->xs=ss.map V.str
 |[],[],_=>rfl
 |_::_,_::_,.cons r t=>by rw[e9,<-iK t,(VA.leafI r).1]
theorem wU{K:W.Frag}{H:Hp}:∀(bs:List Bool),cf K H (bs.map V.bl) (bs.map bT)
 |[]=>.nil
 |_::bs=>.cons (.flat rfl) (wU bs)
theorem BF{K:W.Frag}{H:Hp}:∀(ns:List Int),cf K H (ns.map V.int) (ns.map iT)
 |[]=>.nil
 |_::ns=>.cons (.flat rfl) (BF ns)
theorem lX{K:W.Frag}{H:Hp}:∀(ss:List Str),cf K H (ss.map V.str) (ss.map sT)
 |[]=>.nil
 |_::ss=>.cons (.flat rfl) (lX ss)
def EA:Pn:=λTs Q=>∃bs:List Bool,Ts=[.seq false (bs.map bT)]/\Q (bT (bs.any id))
def Ig(hc:X.calm=true):iB X (.builtin "any") EA:=⟨_,Lo hc,λxs Ts H Q QQ vx h k=>by
 obtain⟨bs,rfl,q⟩:=h
 obtain⟨x,rfl,v⟩:=dN vx
 obtain⟨a,ys,rfl,hs,z,p⟩:=v.seqI
 rw[nP p]at hs
 exact⟨a,bs,rfl,cQ hs,k _ _ _ (.flat rfl) q⟩⟩
def EC:Pn:=λTs Q=>(∃i j:Int,Ts=[iT i,iT j]/\Q (iT (min i j)))\/(∃ns:List Int,Ts=[.seq false (ns.map iT)]/\0<ns.length/\∀M,M∈ns->(∀a∈ns,M<=a)->Q (iT M)) \/
 ∃ss:List Str,Ts=[.seq false (ss.map sT)]/\0<ss.length/\∀x,x∈ss->(∀y∈ss,x.cps.toList<=y.cps.toList)->Q (sT x)
def EB:Pn:=λTs Q=>(∃i j:Int,Ts=[iT i,iT j]/\Q (iT (max i j)))\/(∃ns:List Int,Ts=[.seq false (ns.map iT)]/\0<ns.length/\∀M,M∈ns->(∀a∈ns,a<=M)->Q (iT M)) \/
 ∃ss:List Str,Ts=[.seq false (ss.map sT)]/\0<ss.length/\∀x,x∈ss->(∀y∈ss,y.cps.toList<=x.cps.toList)->Q (sT x)
def hZ(hc:X.calm=true):iB X (.builtin "min") EC:=⟨_,(Ls hc).or ((Lr hc).or (Cb hc)),λxs Ts H Q QQ vx h k=>by
 rcases h with⟨i,j,rfl,q⟩|⟨ns,rfl,l,q⟩|⟨ss,rfl,l,q⟩
 ·obtain⟨x,y,rfl,v,v'⟩:=xP vx
  obtain⟨rfl,_⟩:=v.leafI
  obtain⟨rfl,_⟩:=v'.leafI
  refine .inl ⟨i,j,rfl,k _ _ _ (.flat rfl) ?_⟩
  have e:(if j<i then j else i)=min i j:=by split<;>omega
  rw[e];exact q
 ·obtain⟨x,rfl,v⟩:=dN vx
  obtain⟨a,ys,rfl,hs,z,p⟩:=v.seqI
  rw[qN p]at hs
  exact .inr (.inl ⟨a,ns,rfl,cQ hs,l,λM h1 h2=>k _ _ _ (.flat rfl) (q M h1 h2)⟩)
 ·obtain⟨x,rfl,v⟩:=dN vx
  obtain⟨a,ys,rfl,hs,z,p⟩:=v.seqI
  rw[iK p]at hs
  exact .inr (.inr ⟨a,ss,rfl,cQ hs,l,λM h1 h2=>k _ _ _ (.flat rfl) (q M h1 h2)⟩)⟩
def gH(hc:X.calm=true):iB X (.builtin "max") EB:=⟨_,(Lq hc).or ((Lp hc).or (Ca hc)),λxs Ts H Q QQ vx h k=>by
 rcases h with⟨i,j,rfl,q⟩|⟨ns,rfl,l,q⟩|⟨ss,rfl,l,q⟩
 ·obtain⟨x,y,rfl,v,v'⟩:=xP vx
  obtain⟨rfl,_⟩:=v.leafI
  obtain⟨rfl,_⟩:=v'.leafI
  refine .inl ⟨i,j,rfl,k _ _ _ (.flat rfl) ?_⟩
  have e:(if j > i then j else i)=max i j:=by split<;>omega
  rw[e];exact q
 ·obtain⟨x,rfl,v⟩:=dN vx
  obtain⟨a,ys,rfl,hs,z,p⟩:=v.seqI
  rw[qN p]at hs
  exact .inr (.inl ⟨a,ns,rfl,cQ hs,l,λM h1 h2=>k _ _ _ (.flat rfl) (q M h1 h2)⟩)
 ·obtain⟨x,rfl,v⟩:=dN vx
  obtain⟨a,ys,rfl,hs,z,p⟩:=v.seqI
  rw[iK p]at hs
  exact .inr (.inr ⟨a,ss,rfl,cQ hs,l,λM h1 h2=>k _ _ _ (.flat rfl) (q M h1 h2)⟩)⟩
def Jh:List Tv->(List Tv->Prop)->Prop:=λTs Q=>∃t Us,Ts=[.seq t Us]/\Q Us
def uN:oC X (.type "list") Jh:=⟨_,zM,λxs Ts H Q QQ vx h k=>by
 obtain⟨t,Us,rfl,q⟩:=h
 obtain⟨x,rfl,v⟩:=dN vx
 obtain⟨a,ys,rfl,hs,z,p⟩:=v.seqI
 refine⟨a,ys,rfl,?_,λl n=>k l ys Us _ (cB n) n bA z (cf.hs (gI n) p) q⟩
 cases t with
 |false=>exact .inl (cQ hs)
 |true=>exact .inr hs⟩
def AB:Pn:=λTs Q=>∃t Us,Ts=[.seq t Us]/\Q (.seq true Us)
def fQ:iB X (.type "tuple") AB:=⟨_,MS,λxs Ts H Q QQ vx h k=>by
 obtain⟨t,Us,rfl,q⟩:=h
 obtain⟨x,rfl,v⟩:=dN vx
 obtain⟨a,ys,rfl,hs,z,p⟩:=v.seqI
 refine⟨a,ys,rfl,?_⟩
 cases t with
 |false=>exact .inl ⟨cQ hs,λl n=>k _ _ _ (g9.tup n z p) q⟩
 |true=>exact .inr ⟨hs,k _ _ _ (.va v) q⟩⟩
def Ji:List Tv->(List Tv->Prop)->Prop:=λTs Q=>(∃ns:List Int,Ts=[.seq false (ns.map iT)]/\ns.length<64/\∀ms:List Int,ms.Perm ns->ms.Pairwise (·<=·)->Q (ms.map iT)) \/
 (∃ss:List Str,Ts=[.seq false (ss.map sT)]/\ss.length<64/\Q ((aX ss).map sT))\/∃kts,Ts=[.dct kts]/\Q ((aX (kts.map (·.1))).map sT)
def qR{K:W.Frag}{H:Hp}{kvs:List (av×V)}{kts:List (Str×Tv)}(p:e6 K H kvs kts):kvs.map (·.1)=(kts.map (·.1)).map Sum.inr:=by
 unfold e6 at p
 induction p with
 |nil=>rfl
 |cons r _ ih=>rw[e9,e9,e9,ih,r.1]
def uK(us:List Str):(aX us).length=us.length:=(eR us).length_eq
def uM(hc:X.calm=true):oC X (.builtin "sorted") Ji:=⟨_,call_sortedI.or (call_sortedS.or (M9 hc)),λxs Ts H Q QQ vx h k=>by
 rcases h with⟨ns,rfl,l,q⟩|⟨ss,rfl,l,q⟩|⟨kts,rfl,q⟩
 ·obtain⟨x,rfl,v⟩:=dN vx
  obtain⟨a,ys,rfl,hs,z,p⟩:=v.seqI
  rw[qN p]at hs
  refine .inl ⟨a,ns,rfl,cQ hs,l,λms b h1 h2 n=>k b _ _ _ (cB n) n bA (by rw[ao,h1.length_eq];omega) (BF ms) (q ms h1 h2)⟩
 ·obtain⟨x,rfl,v⟩:=dN vx
  obtain⟨a,ys,rfl,hs,z,p⟩:=v.seqI
  rw[iK p]at hs
  refine .inr (.inl ⟨a,ss,rfl,cQ hs,l,λms b h1 h2 n=>k b _ _ _ (cB n) n bA (by rw[ao,h1.length_eq];omega) (lX ms) (by rw[nL h1 h2];exact q)⟩)
 ·obtain⟨x,rfl,v⟩:=dN vx
  obtain⟨a,kvs,rfl,⟨ob,hd⟩,nd,z,p⟩:=v.dctI
  refine .inr (.inr ⟨a,ob,kvs,kts.map (·.1),rfl,hd,qR p,by rw[ao];exact z,λms b h1 h2 n=>k b _ _ _ (cB n) n bA (by rw[ao,h1.length_eq,ao];omega) (lX ms) (by rw[nL h1 h2];exact q)⟩)⟩
def Ez:Pn:=λTs Q=>∃i:Int,Ts=[iT i]/\Q (iT (if i<0 then -i else i))
def Ie:iB X (.builtin "abs") Ez:=⟨_,J_,λxs Ts H Q QQ vx h k=>by
 obtain⟨i,rfl,q⟩:=h
 obtain⟨x,rfl,v⟩:=dN vx
 obtain⟨rfl,_⟩:=v.leafI
 exact⟨i,rfl,k _ _ _ (.flat rfl) q⟩⟩
def Nn(T:String)(r:Tv->List Tv->(Tv->Prop)->Prop)(u:UT)(ua:dq):UT:=λρ Q=>u ρ λW ρ1=>tQ T W=true/\qd ua ρ1 λTs ρ2=>r W Ts λW'=>Q W' ρ2
def IK{K:W.Frag}{H:Hp}{x:V}{W:Tv}(v:VA K H x W)(h:tQ "str" W=true):wq K "str" x H:=by
 cases W with
 |leaf w=>
  obtain⟨rfl,f⟩:=v.leafI
  rcases kE f with rfl|⟨b,rfl⟩|⟨b,rfl⟩|⟨b,rfl⟩
  ·cases h
  ·cases h
  ·cases h
  ·rfl
 |seq t Ts=>cases t<;>cases h
 |dct kts=>cases h
theorem rO{name:Str}{id:String}{r:Tv->List Tv->(Tv->Prop)->Prop}{o e:Expr}{es:List Expr}{u:UT}{ua:dq}{apos cpos:Pos}(slot:Slot "str" name id)(hty:typeOf (.builtin id)=pure (.type "method_descriptor"))
  (hm:∃r',sy X id r'/\∀x W xs Ts H Q (QQ:VK),VA X.K H x W->cf X.K H xs Ts->r W Ts Q->(∀z W H',g9 X.K H H' z W->Q W->QQ z H')->r' x xs H QQ) (ho:UE X F o u) (ha:UA X F (e::es) ua)
  (hbase:attributeBase o name X.env (eval o X.env)=eval o X.env:=by rfl)
  (hfew:((backTo cpos (starEach (e::es) X.env)).all (λx=>!x.1)&&(backToKw cpos (keywordEach [] X.env)).all (λx=>x.1.isSome)&&decide ((e::es).length+([]:List Keyword).length+(if ([]:List Keyword).isEmpty then 0 else 1)<30))=true:=by rfl)
  (hline:(apos.endLine==cpos.line)=true:=by rfl) (hs:starEach (e::es) X.env=(false,eval e X.env)::starEach es X.env:=by rfl) (hplain:(backTo cpos (starEach es X.env)).any (·.1)=false:=by rfl):
  UE X F (.Call (.Attribute o name apos) (e::es) [] cpos) (Nn "str" r u ua):=by
 obtain⟨r',m,hr⟩:=hm
 refine⟨PE.imp (PE.fz (oU PySem.F.plainAttrs_str slot hty m ho.pe ha.pa hbase hfew hline hs hplain)) λσ H QQ ⟨ρ,Q,f,h,k⟩=>⟨ρ,_,f,h,λx W H1 ρ1 s1 v1 q1=>⟨IK v1 q1.1,ρ1,_,s1.fr,q1.2,λxs as H2 ρ2 s2 p2 q2=>?_⟩⟩⟩
 obtain⟨Ts,rfl,q⟩:=iW q2
 exact hr x W xs Ts H2 _ _ (v1.hs (s2.hs s1.fr)) (iX p2) q λz W' H' rw q=>rw.fin s2.fr λH'' s4 v4=>k _ _ _ _ ((s1.trans s2).trans s4) v4 q
def Jj:Tv->List Tv->(Tv->Prop)->Prop:=λW Ts Q=>∃i j:Str,W=sT i/\Ts=[sT j]/\Q (bT (decide (0+j.length<=i.length)&&Builtin.Str.subAt i j 0))
def K8:∃r',sy X "str.startswith" r'/\∀x W xs Ts H Q (QQ:VK),VA X.K H x W->cf X.K H xs Ts->Jj W Ts Q->(∀z W H',g9 X.K H H' z W->Q W->QQ z H')->r' x xs H QQ:=⟨_,MU,λx W xs Ts H Q QQ v p h k=>by
 obtain⟨i,j,rfl,rfl,q⟩:=h
 obtain⟨rfl,_⟩:=v.leafI
 obtain⟨y,rfl,v'⟩:=dN p
 obtain⟨rfl,_⟩:=v'.leafI
 exact⟨i,j,rfl,rfl,k _ _ _ (.flat rfl) q⟩⟩
def FG:Tv->List Tv->(Tv->Prop)->Prop:=λW Ts Q=>∃i j:Str,W=sT i/\Ts=[sT j]/\∀n:Int,Q (iT n)
def Im:∃r',sy X "str.find" r'/\∀x W xs Ts H Q (QQ:VK),VA X.K H x W->cf X.K H xs Ts->FG W Ts Q->(∀z W H',g9 X.K H H' z W->Q W->QQ z H')->r' x xs H QQ:=⟨_,I_,λx W xs Ts H Q QQ v p h k=>by
 obtain⟨i,j,rfl,rfl,q⟩:=h
 obtain⟨rfl,_⟩:=v.leafI
 obtain⟨y,rfl,v'⟩:=dN p
 obtain⟨rfl,_⟩:=v'.leafI
 exact⟨i,j,rfl,rfl,λn=>k _ _ _ (.flat rfl) (q n)⟩⟩
def FH:Tv->List Tv->(Tv->Prop)->Prop:=λW Ts Q=>∃ss:List Str,W=sT ⟨#[]⟩/\Ts=[.seq false (ss.map sT)]/\(cC ss).length<=100000/\Q (sT ⟨(cC ss).toArray⟩)
def BY:∃r',sy X "str.join" r'/\∀x W xs Ts H Q (QQ:VK),VA X.K H x W->cf X.K H xs Ts->FH W Ts Q->(∀z W H',g9 X.K H H' z W->Q W->QQ z H')->r' x xs H QQ:=⟨_,Ja,λx W xs Ts H Q QQ v p h k=>by
 obtain⟨ss,rfl,rfl,l,q⟩:=h
 obtain⟨rfl,_⟩:=v.leafI
 obtain⟨y,rfl,v'⟩:=dN p
 obtain⟨a,ys,rfl,hs,z,p'⟩:=v'.seqI
 rw[iK p']at hs
 refine⟨a,ss,rfl,rfl,cQ hs,l,λz e=>k _ _ _ (.flat rfl) ?_⟩
 have:z=⟨(cC ss).toArray⟩:=by
  cases z with
  |mk c=>congr 1;have e:c.toList=cC ss:=e;rw[<-e]
 rw[this];exact q⟩
def FO(u:UT):d3:=λρ Q=>u ρ λT ρ1=>∃Ts,T=.seq false Ts/\Q Ts.reverse ρ1
def Hc{e:Expr}{u:UT}{pos p2:Pos}{st:Expr}(he:UE X F e u)(hst:PE X st (tC (.int (-1)))):UL X F (.Subscript e (.Slice none none (some st) p2) pos) (FO u):=⟨PE.imp (Jp he.pe hst) λσ H QQ ⟨ρ,Q,f,h,k⟩=>by
 refine⟨ρ,_,f,h,λx T H1 ρ1 s1 v1 q1=>?_⟩
 obtain⟨Ts,rfl,q⟩:=q1
 obtain⟨a,ys,rfl,hs,z,p⟩:=v1.seqI
 refine⟨rfl,a,ys,rfl,cQ hs,λl n=>k _ _ _ _ _ (s1.trans (bh.same s1.fr (cB n))) (s1.non n) bA (by rw[jn];exact z) (cf.hs (gI n) ?_) q⟩
 clear n z hs k q v1 s1
 induction p with
 |nil=>exact .nil
 |cons r _ ih=>rw[kf,kf];exact Paired.snoc ih r⟩
end
section
variable{X:Cx}{F:Fm}{pos:Pos}
def D2(i j:Nat)(ua:dq):dh:=λP ρ=>qd ua ρ λTs ρ1=>∃T U,Ts=[T,U]/\P.nx ((ρ1.set i (.va T)).set j (.va U))
def Hh{i j:Nat}{x y:Str}{a b:Expr}{ua:dq}{px py pt:Pos}{kt k2 pt2}(hc:X.calm=true)(hN:X.N.Nodup)(hi:X.N[i]?=some x)(hj:X.N[j]?=some y)(hij:i≠j)
  (hx:X.env.scope.names.lookup x=some .local) (hy:X.env.scope.names.lookup y=some .local) (ha:UA X F [a,b] ua)
  (hw:swappedStores [.Tuple [.Name x px,.Name y py] kt pt] (.Tuple [a,b] k2 pt2) X.env=pure (some [x,y]))
  (hs:swapsWithSole [.Tuple [.Name x px,.Name y py] kt pt] (.Tuple [a,b] k2 pt2) pos.line X.env=pure false:=by rfl):
  US X F (.Assign [.Tuple [.Name x px,.Name y py] kt pt] (.Tuple [a,b] k2 pt2) pos) (D2 i j ua):=⟨PS.imp (Ia hc hN hi hj hij hx hy ha.pa hw hs) λD σ H ⟨ρ,P,f,h,k1,_⟩=>by
 refine⟨ρ,_,f,h,λxs as H1 ρ1 s1 p1 q1=>?_⟩
 obtain⟨Ts,rfl,T,U,rfl,q⟩:=iW q1
 obtain⟨v,w,rfl,vv,vw⟩:=xP (iX p1)
 refine⟨v,w,rfl,k1 _ _ _ ?_ (s1.hs f) q⟩
 exact(s1.fr.set (s:=.va T) (λ_=>⟨v,rfl,vv⟩) (λz=>absurd z cb)).set (s:=.va U) (λ_=>⟨w,rfl,vw⟩) (λz=>absurd z cb)⟩
def eI(K:W.Frag)(mg:Str->Option Value)(x:Str)(T:Tv):Prop:=∃v u,mg x=some u/\ai v u/\∀H,VA K H v T
def oR{x:Str}{T:Tv}(G:eI X.K X.mg x T)(hg:Gl X x)(hd:(x==("__debug__":Str))=false:=by decide):UE X F (.Name x pos) (uC T):=by
 obtain⟨v,u,m,r,h⟩:=G
 exact IQ hg m r h hd
def pA(K:W.Frag)(prm:Params)(mg:Str->Option Value)(x:Str)(kvs:List (Str×Str)):Prop:=∃d,mg x=some (.ref d)/\yl K prm d kvs
def Nj(kvs:List (Str×Str))(u:UT):UT:=λρ Q=>u ρ λT ρ1=>∃i j,T=sT i/\getS kvs i=some j/\Q (sT j) ρ1
def AU{x:Str}{p:Pos}{e:Expr}{u:UT}{kvs:List (Str×Str)}(G:pA X.K X.w.params X.mg x kvs)(hg:Gl X x)(he:UE X F e u)(hs:rN e:=by intro _ _;rfl)(hd:(x==("__debug__":Str))=false:=by decide):UE X F (.Subscript (.Name x p) e pos) (Nj kvs u):=by
 obtain⟨d,m,D⟩:=G
 refine⟨PE.imp (jE (Fv D) (BV (v:=.ref d) hg m rfl hd) he.pe hs) λσ H QQ ⟨ρ,Q,f,h,k⟩=>⟨ρ,_,f,h,λy T H1 ρ1 s1 v1 q1=>?_⟩⟩
 obtain⟨i,j,rfl,ej,q⟩:=q1
 obtain⟨rfl,_⟩:=v1.leafI
 exact⟨i,j,rfl,rfl,ej,k _ _ _ _ s1 (.flat rfl) q⟩
end
def mQ(own:Nat)(fr:List Nat)(g:UG)(tf:dg)(ue:UT)(T:Tv)(ρ:aT)(R:Option Tv->aT->Prop):Prop:=g T (pq own fr ρ) λρ1=>tf ρ1 λb ρ2=>if b=true then ue ρ2 λU ρ3=>R (some U) (p6 own fr ρ ρ3) else R none (p6 own fr ρ ρ2)
section
variable{own:Nat}{fr:List Nat}{g:UG}{tf:dg}{ue:UT}
def FT(own:Nat)(fr:List Nat)(g:UG)(tf:dg)(ue:UT)(Ts:List Tv)(Q:List Tv->aT->Prop)(o:Option Tv)(ρ:aT):Prop:=match o with
 |some U=>fV own fr g tf ue Ts ρ λUs ρ4=>Q (U::Us) ρ4
 |none=>fV own fr g tf ue Ts ρ Q
def uI(T:Tv)(Ts:List Tv)(ρ:aT)(Q:List Tv->aT->Prop):fV own fr g tf ue (T::Ts) ρ Q=mQ own fr g tf ue T ρ (FT own fr g tf ue Ts Q):=rfl
def iP{ρ:aT}(f:Tv->Option Tv):∀{Ts:List Tv}{Q:List Tv->aT->Prop},(∀T∈Ts,∀R:Option Tv->aT->Prop,R (f T) ρ->mQ own fr g tf ue T ρ R)->Q (Ts.filterMap f) ρ->fV own fr g tf ue Ts ρ Q
 |[],_,_,q=>q
 |T::Ts,Q,h,q=>by
  rw[uI]
  refine h T (.head _) _ ?_
  rw[il]at q
  cases e:f T with
  |none=>rw[e]at q;exact iP f (λT' hT'=>h T' (.tail _ hT')) q
  |some U=>rw[e]at q;exact iP (Q:=λUs ρ4=>Q (U::Us) ρ4) f (λT' hT'=>h T' (.tail _ hT')) q
def uZ{ρ:aT}(f:Tv->Tv){Ts:List Tv}{Q:List Tv->aT->Prop}(h:∀T∈Ts,∀R:Option Tv->aT->Prop,R (some (f T)) ρ->mQ own fr g tf ue T ρ R)(q:Q (Ts.map f) ρ):fV own fr g tf ue Ts ρ Q:=
 iP (λT=>some (f T)) h (by rw[show Ts.filterMap (λT=>some (f T))=Ts.map f from List.filterMap_eq_map'▸rfl];exact q)
theorem kJ{g:UG}{ub:dh}{Ts:List Tv}{P:bc}{ρ:aT}(J:Nat->aT->Prop)(h0:J 0 ρ)(hs:∀i T ρ' (N:aT->Prop),Ts[i]?=some T->J i ρ'->(∀ρ'',J (i+1) ρ''->N ρ'')->g T ρ' λρ1=>ub {P with nx:=N,ct:=N,bk:=P.nx} ρ1)
  (hd:∀ρ',J Ts.length ρ'->P.nx ρ'):jJ g ub Ts P ρ:=by
 have key:∀(n i:Nat) (ρ:aT),n+i=Ts.length->J i ρ->jJ g ub (Ts.drop i) P ρ:=by
  intro n
  induction n with
  |zero=>
   intro i ρ e j
   have:i=Ts.length:=by omega
   subst this
   rw[qw]
   exact hd ρ j
  |succ n ih=>
   intro i ρ e j
   have hi:i<Ts.length:=by omega
   rw[o5 hi]
   exact hs i _ ρ (λρ'=>jJ g ub (Ts.drop (i+1)) P ρ') (b_ hi) j λρ'' j'=>ih (i+1) ρ'' (by omega) j'
 exact key Ts.length 0 ρ (by omega) h0
end
def fT:bu:=λas R=>∃m:Int,as=[.dk,.va (iT m)]/\0<m/\cx m/\∀r:Int,0<=r->r<m->R (iT r)
def On.kp{p c:Addr}{H H':Hp}(o:On p c H H'):Kp (some (p,c)) H H':=⟨λb u e n=>o.e b u e (n p c rfl).1 (n p c rfl).2,λp' c' e=>by cases e;exact o.d⟩
def cv.take{P:Program}{w:World}{K:W.Frag}{mg:Str->Option Value}{base:Heap}{k:Nat}{x:Str}{ps:List Str}(G:cv P w K mg base k x ps AN):ae P w K mg base k x ps fT:=cv.imp G λvs H Q E ⟨dk,as,R,d,p,⟨m,e,hm,hb,q⟩,kk⟩=>by
 subst e
 cases p with
 |cons r1 t1=>
  cases t1 with
  |cons r2 t2=>
   cases t2
   obtain⟨p,c,ed,rfl⟩:=r1
   subst ed
   obtain⟨rfl,_⟩:=VA.leafI r2
   exact⟨p,c,m,rfl,d p c rfl,hm,hb,λr H' h1 h2 o=>kk _ _ _ o.kp (.flat rfl) (q r h1 h2)⟩
def Le{X:Cx}{F:Fm}{st:List Stmt}:nk X F st (λ_ _=>False):=⟨f_.imp K_ λD σ H ⟨_,_,_,h,_⟩=>h⟩
def ak.pfalse{P:Program}{w:World}{K:W.Frag}{mg:Str->Option Value}{base:Heap}{x:Str}{st:Stmt}{N ps:List Str}{k:Nat}{psp:bu}(h:ak K mg x st)(S:bB N ps (aN st))
  (hb:∀(kV doc pm:Value) (an:Option Addr) (cdv ct:Value) (us:List Value),us.length=ps.length->bindArgs (W.fnOf x x (gG st) (eK st) (aN st) .none kV doc pm an cdv ct) ⟨us,[]⟩=pure (ps.zip us)) (hf:∀as R,psp as R->False):ae P w K mg base (k+1) x ps psp:=
 h.pgood S hb (λ_ _ _ _ _ _ _ _ _=>Le) λas R q=>(hf as R q).elim
def cM{j:Int}(h1:-(10 ^ 100)<j)(h2:j<10 ^ 100):cx j:=by
 unfold cx
 have:j.natAbs<10 ^ 100:=by omega
 exact gc this (by decide +kernel)
section
variable{own:Nat}{fr:List Nat}{g:UG}{tf:dg}{ue:UT}{α:Type}
def kG{ρ:aT}(c:α->Tv)(f:α->Option Tv):∀{l:List α}{Q:List Tv->aT->Prop},(∀a∈l,∀R:Option Tv->aT->Prop,R (f a) ρ->mQ own fr g tf ue (c a) ρ R)->Q (l.filterMap f) ρ->fV own fr g tf ue (l.map c) ρ Q
 |[],_,_,q=>q
 |a::l,Q,h,q=>by
  rw[e9,uI]
  refine h a (.head _) _ ?_
  rw[il]at q
  cases e:f a with
  |none=>rw[e]at q;exact kG c f (λb hb=>h b (.tail _ hb)) q
  |some U=>rw[e]at q;exact kG (Q:=λUs ρ4=>Q (U::Us) ρ4) c f (λb hb=>h b (.tail _ hb)) q
def dS{ρ:aT}(c f:α->Tv){l:List α}{Q:List Tv->aT->Prop}(h:∀a∈l,∀R:Option Tv->aT->Prop,R (some (f a)) ρ->mQ own fr g tf ue (c a) ρ R)(q:Q (l.map f) ρ):fV own fr g tf ue (l.map c) ρ Q:=
 kG c (λa=>some (f a)) h (by rw[show l.filterMap (λa=>some (f a))=l.map f from List.filterMap_eq_map'▸rfl];exact q)
def qM{ρ:aT}(r:Tv->Tv->Prop):∀{Ts:List Tv}{Q:List Tv->aT->Prop},(∀T∈Ts,∀R:Option Tv->aT->Prop,(∀U,r T U->R (some U) ρ)->mQ own fr g tf ue T ρ R)->(∀Us,Paired r Ts Us->Q Us ρ)->fV own fr g tf ue Ts ρ Q
 |[],_,_,q=>q [] .nil
 |T::Ts,Q,h,q=>by
  rw[uI]
  exact h T (.head _) _ λU hU=>qM (Q:=λUs ρ4=>Q (U::Us) ρ4) r (λT' hT'=>h T' (.tail _ hT')) λUs p=>q _ (.cons hU p)
theorem gZ{g:UG}{ub:dh}{P:bc}{ρ:aT}(c:α->Tv){l:List α}(J:Nat->aT->Prop)(h0:J 0 ρ)(hs:∀i a ρ' (N:aT->Prop),l[i]?=some a->J i ρ'->(∀ρ'',J (i+1) ρ''->N ρ'')->g (c a) ρ' λρ1=>ub {P with nx:=N,ct:=N,bk:=P.nx} ρ1)
  (hd:∀ρ',J l.length ρ'->P.nx ρ'):jJ g ub (l.map c) P ρ:=
 kJ J h0 (λi T ρ' N e j hN=>by
  rw[e_]at e
  obtain⟨a,ea,rfl⟩:=qg1_.mp e
  exact hs i a ρ' N ea j hN) (by rw[ao];exact hd)
end
def wN(x y:Str):eqT (sT x) (sT y)=decide (x=y):=by
 rw[eqT]
 show(x==y)=_
 exact Bool.beq_eq_decide_eq x y
def Hr{x:Str}{ss:List Str}:((ss.map sT).any λU=>eqT U (sT x))=decide (x∈ss):=by
 rw[List.any_map,h_,qL_,decide_eq_true_iff]
 constructor
 ·rintro⟨y,hy,e⟩
  have e:eqT (sT y) (sT x)=true:=e
  rw[wN,decide_eq_true_iff]at e
  rw[<-e];exact hy
 ·intro h
  exact⟨x,h,by show eqT (sT x) (sT x)=true;rw[wN,decide_eq_true_iff]⟩
def Km{x:Str}{ss:List Str}:pP (sT x) (ss.map sT):=⟨trivial,λU hU=>by
 obtain⟨s,_,rfl⟩:=qf_.mp hU
 trivial⟩
def ie{b:Bool}{A B:Prop}(h1:b=true->A)(h2:b=false->B):if b=true then A else B:=by
 cases b with
 |true=>exact(if_pos rfl).mpr (h1 rfl)
 |false=>exact(if_neg cb).mpr (h2 rfl)
def jZ{p:Prop}[Decidable p]{A B:Prop}(h1:p->A)(h2:¬ p->B):if decide p=true then A else B:=ie (λh=>h1 (dw h)) λh=>h2 (of_decide_eq_false h)
abbrev sj:=aT->(List (Str×Tv)->aT->Prop)->Prop
def Fx(K:W.Frag)(F:Fm)(u:sj):TE:=λσ H QQ=>∃ρ Q,au K F ρ σ H/\u ρ Q/\∀a kvs kts H' ρ',bh K F σ ρ H ρ' H'->H a=none->H' a=some (.dK kvs)->(kts.map (·.1)).Nodup->kts.length<64->e6 K H' kvs kts->Q kts ρ'->QQ (.ref a) H'
structure UD (X:Cx) (F:Fm) (e:Expr) (u:sj):Prop where
 pe:PE X e (Fx X.K F u)
section
variable{X:Cx}{F:Fm}{e:Expr}{pos:Pos}
def uD(u:sj):UT:=λρ Q=>u ρ λkts ρ1=>Q (.dct kts) ρ1
def AV{u:sj}(h:UD X F e u):UE X F e (uD u):=⟨PE.imp (PE.fz h.pe) λσ H QQ ⟨ρ,Q,fr,h,k⟩=>⟨ρ,_,fr,h,λa kvs kts H' ρ' s n e nd z p q=>
 .inr ⟨a,_,rfl,e,rfl,λob=>k _ _ _ _ (s.put fr n e rfl (.frz ob (.dK kvs))) (VA.dct ⟨ob,bA⟩ nd z (e6.hs (fU e rfl) p)) q⟩⟩⟩
variable{u:UT}{p:Pos}
def Ik(K:W.Frag):List V->Hp->VK->Prop:=λxs H Q=>∃(l:Addr) (ys:List V) (ps:List (av×V)),xs=[.ref l]/\Rd H l (.lst ys)/\Paired (λy (p:av×V)=>∃t,y=.ref t/\cu K H t [kV p.1,p.2]) ys ps/\ps.length<=1000 /\
  ∀d,H d=none->Q (.ref d) (ar H d (.dK (iA [] ps)))
def Mr(hc:X.calm=true):aq X (.type "dict") (Ik X.K):=by
 rintro pins s σ H _ us Q I r ⟨l,ys,ps,rfl,hl,hp,hsz,q⟩
 obtain⟨u,rfl,rx⟩:=cR r
 cases rx
 obtain⟨hz,its,n,hv,hget⟩:=(show aw X.prog X.w H s.heap l (.lst ys) from hl.ok I.hok)
 have key:∀{ys:List V} {its:List Value} {ps:List (av×V)},aj ys its->Paired (λy (p:av×V)=>∃t,y=.ref t/\cu X.K H t [kV p.1,p.2]) ys ps ->
   ∃qs:List (av×Value),KV ps qs/\its.length=qs.length/\∀(j:Nat) (k:av) (v:Value),qs[j]?=some (k,v)->∃t kk,its[j]?=some (.ref t)/\IsTup s.heap t #[kk,v]/\(bO X.prog X.w).is k kk=true:=by
  intro ys its ps hv hp
  induction hp generalizing its with
  |nil=>cases hv;exact⟨[],.nil,rfl,λj k v e=>by simp at e⟩
  |@cons y p ys' ps' h _ ih=>
   cases hv with
   |cons r0 rs=>
    obtain⟨t,rfl,ht⟩:=h
    cases r0
    obtain⟨qs,kq,lq,fq⟩:=ih rs
    obtain⟨tits,tv,tt,_⟩:=I.tuple ht
    cases tv with
    |@cons _ kk _ _ r1 rs1=>
     cases rs1 with
     |@cons _ vv _ _ r2 rs2=>
      cases rs2
      refine⟨(p.1,vv)::qs,.cons ⟨rfl,r2⟩ kq,by rw[ik,ik,lq],λj k v e=>?_⟩
      cases j with
      |zero=>
       cases e
       exact⟨t,kk,rfl,tt,jX r1⟩
      |succ j=>exact fq j k v e
 obtain⟨qs,kq,lq,fq⟩:=key hv hp
 have hbig:=I.big
 have hps:ps.length=qs.length:=Paired.length kq
 refine MQ (ps:=qs) (I.ok.hd hc) hget ⟨by simpa using lq,λj k v e=>by obtain⟨t,kk,a,b,c⟩:=fq j k v e;exact⟨t,kk,by simpa using a,b,c⟩⟩ (by omega) λh' tk hd k=>?_
 have hlen:=tU ps []
 refine⟨.ref s.heap.objs.size,_,I.laid (t':=tk) (o:=.dK (iA [] ps)) k (ba _) (show aw _ _ _ h' _ (.dK _) from ⟨by rw[sizeLine_eq];have:=hlen;simp at this;omega,?_,_,Jy kq .nil,hd⟩),rfl,q _ I.fresh⟩
 exact beq_eq_false_iff_ne.mpr (gj hbig)
def HX(u:UT):sj:=λρ Q=>u ρ λT ρ1=>∃kts:List (Str×Tv),T=.seq false (kts.map λkt=>.seq true [sT kt.1,kt.2])/\(kts.map (·.1)).Nodup/\kts.length<64/\Q kts ρ1
def Bk{K:W.Frag}{H:Hp}:∀{ys:List V}{kts:List (Str×Tv)},cf K H ys (kts.map λkt=>.seq true [sT kt.1,kt.2])->∃ps:List (av×V),Paired (λy (p:av×V)=>∃t,y=.ref t/\cu K H t [kV p.1,p.2]) ys ps/\e6 K H ps kts
 |[],[],_=>⟨[],.nil,.nil⟩
 |y::ys,kt::kts,.cons r t=>by
  obtain⟨ps,h1,h2⟩:=Bk t
  obtain⟨a,xs,rfl,hs,z,p⟩:=VA.seqI r
  obtain⟨k,v,rfl,vk,vv⟩:∃k v,xs=[k,v]/\VA K H k (sT kt.1)/\VA K H v kt.2:=by
   cases p with
   |cons r1 t1=>
    cases t1 with
    |cons r2 t2=>cases t2;exact⟨_,_,rfl,r1,r2⟩
  obtain⟨rfl,_⟩:=vk.leafI
  exact⟨(.inr kt.1,v)::ps,.cons ⟨a,rfl,hs⟩ h1,.cons ⟨rfl,vv⟩ h2⟩
def B6{K:W.Frag}{H:Hp}{kvs:List (av×V)}{kts:List (Str×Tv)}(p:e6 K H kvs kts)(n:(kts.map (·.1)).Nodup):(kvs.map (·.1)).Nodup:=by
 rw[qR p]
 unfold List.Nodup at n ⊢
 rw[mh]
 exact n.imp λh e=>h (Sum.inr.inj e)
def LM(hc:X.calm=true)(hg:Gl X "dict")(hm:X.mg "dict"=none)(he:UE X F e u)(hst:dO e=false:=by rfl)(hpl:(backTo pos (starEach [] X.env)).any (·.1)=false:=by rfl):UD X F (.Call (.Name "dict" p) [e] [] pos) (HX u):=
 ⟨PE.imp (gD (Mr hc) hg hm boot_dict (cT he.pe dD hst) (by decide) (by decide) (gS hst) hpl) λσ H QQ ⟨ρ,Q,f,h,k⟩=>by
  refine⟨ρ,_,f,h,λx T H1 ρ1 s1 v1 q1=>?_⟩
  obtain⟨kts,rfl,nd,z,q⟩:=q1
  obtain⟨a,xs,rfl,⟨ob,hs⟩,zz,p⟩:=v1.seqI
  obtain⟨ps,h1,h2⟩:=Bk p
  have l2:ps.length=kts.length:=Paired.length h2
  refine⟨a,xs,ps,rfl,.inr ⟨ob,hs⟩,h1,by omega,λd n=>?_⟩
  rw[uU (kvs:=[]) (by simpa using B6 h2 nd),fe]
  exact k _ _ _ _ _ (s1.trans (bh.same s1.fr (cB n))) (s1.non n) bA nd z (e6.hs (gI n) h2) q⟩
def wX:List (Str×UT)->aT->(List (Str×Tv)->aT->Prop)->Prop
 |[],ρ,Q=>Q [] ρ
 |(k,u)::r,ρ,Q=>u ρ λT ρ1=>wX r ρ1 λkts ρ2=>Q ((k,T)::kts) ρ2
structure UP (X:Cx) (F:Fm) (pos:Pos) (ks:List (Option Expr)) (vs:List Expr) (l:List (Str×UT)):Prop where
 pp:t8 X pos ks vs (l.map λx=>(tC (.str x.1),fJ X.K F x.2))
def Hd:UP X F pos [] [] []:=⟨Io⟩
def Kv{k:Str}{j}{kpos:Pos}{v:Expr}{ks:List (Option Expr)}{vs:List Expr}{l:List (Str×UT)}{u:UT}(h:UE X F v u)(hr:UP X F pos ks vs l):UP X F pos (some (.Constant (.str k) j kpos)::ks) (v::vs) ((k,u)::l):=⟨JS AE h.pe hr.pp⟩
def Cm{K:W.Frag}:∀{l:List (Str×UT)}{σ:St}{H:Hp}{ρ:aT}{Q:List (Str×Tv)->aT->Prop}{QQ:List (V×V)->Hp->Prop},au K F ρ σ H->wX l ρ Q ->
  (∀kvs kts H' ρ',bh K F σ ρ H ρ' H'->e6 K H' kvs kts->kts.map (·.1)=l.map (·.1)->Q kts ρ'->QQ (kvs.map λkv=>(kV kv.1,kv.2)) H')->rQ (l.map λx=>(tC (.str x.1),fJ K F x.2)) σ H QQ
 |[],σ,H,ρ,Q,QQ,f,h,k=>k [] [] H ρ (bh.refl f) .nil rfl h
 |(x,u)::l,σ,H,ρ,Q,QQ,f,h,k=>by
  refine⟨ρ,_,f,h,λy T H1 ρ1 s1 v1 q1=>Cm (l:=l) s1.fr q1 λkvs kts H' ρ' s2 p2 e2 q2=>?_⟩
  exact k ((.inr x,y)::kvs) ((x,T)::kts) H' ρ' (s1.trans s2) (.cons ⟨rfl,v1.hs (s2.hs s1.fr)⟩ p2) (by rw[e9,e9,e2]) q2
def Fk(l:List (Str×UT)):sj:=λρ Q=>wX l ρ Q
def IP{ks:List (Option Expr)}{vs:List Expr}{l:List (Str×UT)}(h:UP X F pos ks vs l)(nd:(l.map (·.1)).Nodup)(h15:l.length<=15)(hall:ks.all (·.isSome)=true:=by rfl)(hl:ks.length=vs.length:=by rfl)(h0:ks≠[]:=by exact λz=>nomatch z)(hk:ks.length<=15:=by decide):
  UD X F (.Dict ks vs pos) (Fk l):=⟨PE.imp (Jo h.pp hall hl h0 hk) λσ H QQ ⟨ρ,Q,f,h,k⟩ b nb=>by
 have s0:=bh.same f (cB (o:=.dK []) nb)
 refine Cm s0.fr h λkvs kts H' ρ' s2 p2 e2 q2=>?_
 have n2:(kts.map (·.1)).Nodup:=by rw[e2];exact nd
 have lk:kvs.length=kts.length:=Paired.length p2
 have lk2:kts.length=l.length:=by simpa using congrArg List.length e2
 have hb:H' b=some (.dK []):=s2.st b _ bA (f.none_nodk nb) (s0.notown f nb)
 refine⟨hb,kvs,rfl,by omega,?_⟩
 rw[uU (kvs:=[]) (by simpa using B6 p2 n2),fe]
 exact k _ _ _ _ _ ((s0.trans s2).put f nb hb rfl _) nb bA n2 (by omega) (e6.hs (fU hb rfl) p2) q2⟩
variable{x:Str}{apos cpos:Pos}
def HW(ud u ux:UT):UT:=λρ Q=>ud ρ λD ρ1=>∃kts,D=.dct kts/\u ρ1 λJ ρ2=>∃k:Str,J=sT k/\ux ρ2 λW ρ3=>Q ((bS kts k).getD W) ρ3
def C2{o e2:Expr}{ud ux:UT}(hu:X.A.units+1<cLine)(ho:UE X F o ud)(h:UE X F e u)(hx:UE X F e2 ux)(m:M2 X o "get" apos e e2 cpos:=by exact⟨rfl,rfl,rfl,rfl⟩):UE X F (.Call (.Attribute o "get" apos) [e,e2] [] cpos) (HW ud u ux):=⟨PE.imp (JL hu ho.pe h.pe hx.pe m) λσ H QQ ⟨ρ,Q,f,hu,k⟩=>by
 refine⟨ρ,_,f,hu,λx D H1 ρ1 s1 v1 q1=>?_⟩
 obtain⟨kts,rfl,q1⟩:=q1
 obtain⟨a,kvs,rfl,⟨ob,hd⟩,nd,z,p⟩:=v1.dctI
 refine⟨a,rfl,.inl ⟨kvs,.inr ⟨ob,hd⟩⟩,ρ1,_,s1.fr,q1,λy J H2 ρ2 s2 v2 q2=>?_⟩
 obtain⟨kk,rfl,q2⟩:=q2
 obtain⟨rfl,_⟩:=v2.leafI
 refine⟨ρ2,_,s2.fr,q2,λz W H3 ρ3 s3 v3 q=>?_⟩
 have hs:=(s2.hs s1.fr).trans (s3.hs s2.fr)
 refine⟨_,.inl ⟨kvs,.inr kk,.inr ⟨ob,hs _ _ rfl hd⟩,rfl,rfl⟩,?_⟩
 rcases rJ (e6.hs hs p) kk with⟨z1,z2⟩|⟨U,v,z1,z2,vv⟩
 ·rw[z2];rw[z1]at q;exact k _ _ _ _ ((s1.trans s2).trans s3) v3 q
 ·rw[z2];rw[z1]at q;exact k _ _ _ _ ((s1.trans s2).trans s3) vv q⟩
end
section
variable{X:Cx}{F:Fm}
def E5:R2:=λx y H Q=>∃l k xs,x=.ref l/\y=.int k/\Rd H l (.lst xs) /\ -(2 ^ 63)<=k/\k<2 ^ 63/\xs.length*k.toNat<=sizeLine/\∀p,H p=none->Q (.ref p) (ar H p (.lst (List.replicate k.toNat xs).flatten))
theorem Jg:cg X (binaryOp .Mult) E5:=by
 rintro pins s σ H _ _ v u Q I rx ry ⟨l,k,xs,rfl,rfl,hH,h1,h2,hz,q⟩
 cases rx
 obtain⟨t,rfl⟩:=ry
 obtain⟨z,its,n,r,e⟩:=hH.ok I.hok
 have hl:=r.length
 have hlen:its.toArray.size*k.toNat<=sizeLine:=by rw[cy,<-hl];exact hz
 have hcap:¬ its.toArray.size*k.toNat > (2 ^ 63-1) / 8:=by
  have:(sizeLine:Nat)<=(2 ^ 63-1) / 8:=by decide
  omega
 have hfit:¬ (!Builtin.List.listFitsIndex k)=true:=by
  rw[fitsIndex_both h1 h2]
  exact cb
 have hlong:¬ Builtin.List.listTooLong (its.toArray.size*k.toNat)=true:=by
  rw[Bh hlen]
  exact cb
 have hnew:List.foldl (λx1 x2=>x1++x2) #[] (List.replicate (if its.toArray.isEmpty=true then 0 else k.toNat) its.toArray)=(List.replicate k.toNat its).flatten.toArray:=by
  have f0:∀m:Nat,List.foldl (λx1 x2=>x1++x2) #[] (List.replicate m its.toArray)=(List.replicate m its).flatten.toArray:=λm=>by
   have:=CG its m []
   rw[fe]at this
   exact this
  rw[f0]
  cases its with
  |nil=>simp
  |cons a r'=>rw[if_neg (by simp)]
 refine wpAny_binaryOp_repeat_ref (T:="list") (U:="int") (by decide) ⟨_,e,rfl⟩ (λs'=>typeIs_int s' k t) noFill_list_mul F.fills_int_mul F.slot_int_rmul repeat_list F.slot_int_index.lookup
  (call_meets F.slot_int_rmul (typeIs_int s k t) F.entry_int_rmul (F.args_int_rmul_2 _ _) (int___rmul___int_list k t l its.toArray n)
   ⟨e,rfl,⟨_,e,rfl⟩,call_meets F.slot_list_mul ⟨_,e,rfl⟩ F.entry_list_mul (F.args_list_mul_2 _ _) (AutoListH.list___mul___list_int_3 l its.toArray n k t hfit hcap hlong) ⟨e,?_⟩⟩)
 rw[hnew]
 exact⟨.ref _,_,I.lnew (t':=s.toks) (r.rep k.toNat) (by rw[wJ,jj];exact hz),rfl,q _ I.fresh⟩
def Cp{α β:Type}{R:α->β->Prop}{l:List α}{m:List β}(p:Paired R l m):∀k:Nat,Paired R (List.replicate k l).flatten (List.replicate k m).flatten
 |0=>.nil
 |k+1=>by rw[gh,gh,gg,gg];exact qA p (Cp p k)
def yu:P2
 |.seq false xs,.leaf (.int k),Q=>(xs.length*k.toNat<=100000 /\ -(2 ^ 62)<=k/\k<2 ^ 62)/\Q (.seq false (List.replicate k.toNat xs).flatten)
 |T,U,Q=>yN T U Q
def rC:gA X (binaryOp .Mult) yu:=by
 obtain⟨a,oa,ra⟩:=Ih (X:=X)
 refine⟨_,oa.or Jg,λx y T U H Q QQ vx vy h k=>?_⟩
 unfold yu at h
 split at h
 ·obtain⟨a,xs,rfl,⟨ob,hs⟩,z,p⟩:=vx.seqI
  obtain⟨rfl,_⟩:=vy.leafI
  obtain⟨⟨h1,h2,h3⟩,q⟩:=h
  have l1:xs.length=_:=Paired.length p
  refine .inr ⟨a,_,xs,rfl,rfl,.inr ⟨ob,hs⟩,by omega,by omega,gY (by rw[l1];exact h1),λb n=>k _ _ _ (g9.lst n ?_ (Cp p _)) q⟩
  rw[wJ,jj];exact h1
 ·exact .inl (ra x y T U H Q QQ vx vy h k)
end
inductive Wd where
 |few (ts:List Str)
 |make (h:Str) (a b:Int) (ms:List Str)
inductive Pt where
 |nothing
 |truths (bs:List Bool)
 |numbers (lo hi st:Int)
 |texts (w:Wd)
 |lists (a b:Int) (f:List Pt)
 |record (a b:Int) (fs:List (Str×Bool×List Pt))
 |table (a b:Int) (w:Wd) (f:List Pt)
def bV:Wd->Tv
 |.few ts=>.seq true [sT "few",.seq true (ts.map sT)]
 |.make h a b ms=>.seq true [sT "make",sT h,iT a,iT b,.seq true (ms.map sT)]
def aW:Pt->Tv
 |.nothing=>.seq true [sT "nothing"]
 |.truths bs=>.seq true [sT "truths",.seq true (bs.map bT)]
 |.numbers lo hi st=>.seq true [sT "numbers",iT lo,iT hi,iT st]
 |.texts w=>.seq true [sT "texts",bV w]
 |.lists a b f=>.seq true [sT "lists",iT a,iT b,.seq true (f.map aW)]
 |.record a b fs=>.seq true [sT "record",iT a,iT b,.seq true (fs.map λx=>.seq true [sT x.1,bT x.2.1,.seq true (x.2.2.map aW)])]
 |.table a b w f=>.seq true [sT "table",iT a,iT b,bV w,.seq true (f.map aW)]
termination_by p=>sizeOf p
decreasing_by
 all_goals simp_wf
 ·have:=ji ‹_›;omega
 ·obtain⟨x1,x2,x3⟩:=x
  have h1:=ji ‹_∈fs›
  have h2:=ji ‹_∈x3›
  simp at h1
  omega
 ·have:=ji ‹_›;omega
abbrev bX(f:List Pt):Tv:=.seq true (f.map aW)
abbrev cG(x:Str×Bool×List Pt):Tv:=.seq true [sT x.1,bT x.2.1,bX x.2.2]
def iJ(a b:Int)(f:List Pt):aW (.lists a b f)=.seq true [sT "lists",iT a,iT b,bX f]:=by rw[aW]
def eQ(a b:Int)(fs:List (Str×Bool×List Pt)):aW (.record a b fs)=.seq true [sT "record",iT a,iT b,.seq true (fs.map cG)]:=by rw[aW]
def fN(a b:Int)(w:Wd)(f:List Pt):aW (.table a b w f)=.seq true [sT "table",iT a,iT b,bV w,bX f]:=by rw[aW]
def xE:Pt->Str
 |.nothing=>"nothing"
 |.truths _=>"truths"
 |.numbers ..=>"numbers"
 |.texts _=>"texts"
 |.lists ..=>"lists"
 |.record ..=>"record"
 |.table ..=>"table"
def fK:Pt->Nat
 |.nothing=>0
 |.truths _=>1
 |.numbers ..=>2
 |.texts _=>3
 |.lists ..=>4
 |.record ..=>5
 |.table ..=>5
def eP{a b:Int}{A B:Prop}(h1:a=b->A)(h2:a≠b->B):if (false != dc (.int a) (.int b))=true then A else B:=ie (λz=>h1 (by simpa[dc]using z)) λz=>h2 (by simpa[dc]using z)
def sP{a b:Str}{A B:Prop}(h1:a=b->A)(h2:a≠b->B):if (false != dc (.str a) (.str b))=true then A else B:=ie (λz=>h1 (by simpa[dc]using z)) λz=>h2 (by simpa[dc]using z)
def fM(s:Str):Prop:=Sg s/\s.length<=50
def iH(l:List Str):Prop:=l.Pairwise λa b=>cs a<cs b
def L_{a b:Str}(h:cs a<=cs b)(n:a≠b):cs a<cs b:=by
 refine Classical.byContradiction λz=>n (kK (List.le_antisymm h (qZ_.mp z)))
def IH(l:List Str):∃ss:List Str,ss.Perm l/\sortedS ss=true:=by
 refine⟨l.mergeSort λa b=>decide (cs a<=cs b),List.mergeSort_perm _ _,PyProof.Rows.sortedS_of_pairwise _ ?_⟩
 refine(List.pairwise_mergeSort (λa b c h1 h2=>?_) (λa b=>?_) l).imp λ{a b} h=>?_
 ·exact i_ (o7 (dw h1) (dw h2))
 ·rcases List.le_total (cs a) (cs b) with z|z<;>simp[z]
 ·rw[ltCps_eq]
  exact g4 (qZ_.mpr (dw h))
def II(l:List Str):(aX l).Pairwise λa b=>cs a<=cs b:=by
 obtain⟨ss,h1,h2⟩:=IH l
 rw[<-nL h1 h2]
 exact pZ _ h2
def B2{l:List Str}(n:l.Nodup):iH (aX l):=by
 have h2:(aX l).Nodup:=(eR l).nodup_iff.mpr n
 exact List.Pairwise.imp₂ (λa b h n=>L_ h n) (II l) h2
def lH{l:List Str}(h:iH l):l.Nodup:=List.Pairwise.imp (λ{a b} h e=>by rw[e]at h;exact qt _ h) h
def jf(x y:Str):Bool:=decide (0+y.length<=x.length)&&Builtin.Str.subAt x y 0
def aV(x hd:Str):Str:=Txt.slice x (some (hd.length:Int)) none
def dG:Tv->Nat
 |.leaf .non=>0
 |.leaf (.bl _)=>1
 |.leaf (.int _)=>2
 |.leaf (.str _)=>3
 |.leaf _=>5
 |.seq false _=>4
 |.seq true _=>5
 |.dct _=>5
def cS:Nat->Str
 |0=>"nothing"
 |1=>"truth"
 |2=>"number"
 |3=>"text"
 |4=>"list"
 |_=>"dict"
def uV{kts:List (Str×Tv)}{k:Str}{U:Tv}(h:bS kts k=some U):(k,U)∈kts:=by
 unfold bS at h
 obtain⟨kt,h1,h2⟩:=qg1_.mp h
 have h3:=qr h1
 have h4:=tq h1
 have h5:kt.1=k:=by simpa using h3
 rw[<-h5,<-h2];exact h4
def vM{kts:List (Str×Tv)}(hn:(kts.map (·.1)).Nodup){k:Str}{U:Tv}(h:(k,U)∈kts):bS kts k=some U:=by
 obtain⟨i,hi,e⟩:=qX1_.mp h
 have:=JD hn (i:=i) (kt:=(k,U)) (by rw[b_ hi,e])
 exact this
def lookD_none{kts:List (Str×Tv)}{k:Str}:bS kts k=none↔k∉kts.map (·.1):=by
 constructor
 ·intro h hk
  obtain⟨U,e⟩:=look_mem hk
  rw[h]at e;cases e
 ·intro h
  cases e:bS kts k with
  |none=>rfl
  |some U=>exact absurd (qf_.mpr ⟨_,uV e,rfl⟩) h
def sD(K:W.Frag):Sp:=λvs H Q _=>∃(a:Addr) (ns:List Int),vs=[.ref a]/\b5 K H a (ns.map V.int)/\ns.length<=63/\∀H',Q (.bl true) H'
def nC(n:Nat):aT:=.no::.dk::List.replicate (n-2) .no
def Gz{K:W.Frag}{H:Hp}{p c:Addr}{N:List Str}{x:V}(hN:2<=N.length)(d:bj H p c):au K ⟨H,some (p,c)⟩ (nC N.length) ((dY N [x]).set 1 (some (.ref p))) H:=by
 have nm:∀(i:Nat) (s:Sl),(nC N.length)[i]?=some s->(s=.dk/\i=1)\/s=.no:=λi s e=>by
  unfold nC at e
  match i,e with
  |0,e=>exact .inr (by simpa using e.symm)
  |1,e=>exact .inl ⟨by simpa using e.symm,rfl⟩
  |i+2,e=>
   have e:(List.replicate (N.length-2) Sl.no)[i]?=some s:=by simpa using e
   exact .inr (List.eq_of_mem_replicate (g5 e))
 refine⟨λp' c' e=>by cases e;exact d,⟨λ_ _ e _=>e,λp' c' e=>by cases e;exact d⟩,?_,λi s e=>?_,λi j a s t e _ m _ _ _=>?_⟩
 ·unfold nC dY
  simp
  omega
 ·rcases nm i s e with⟨rfl,rfl⟩|rfl
  ·refine⟨p,c,rfl,?_⟩
   unfold dz dY
   rw[fu (by simp;omega)]
   rfl
  ·trivial
 ·rcases nm i s e with⟨rfl,_⟩|rfl<;>cases m
theorem A_{K:W.Frag}{mg:Str->Option Value}{x:Str}{a:Addr}{ss:List Str}(m:mg x=some (.ref a))(T:∀H,cu K H a (ss.map V.str))(l:ss.length<=100000:=by decide):eI K mg x (.seq true (ss.map sT)):=by
 refine⟨.ref a,.ref a,m,rfl,λH=>VA.seq (T H) (by rw[ao];exact l) ?_⟩
 have key:∀ss:List Str,cf K H (ss.map V.str) (ss.map sT):=λss=>by
  induction ss with
  |nil=>exact .nil
  |cons s ss ih=>exact .cons (.flat rfl) ih
 exact key ss
def Iq{X:Cx}{st:List Stmt}{us:dh}(h:∀F,nk X F st us):f_ X st (λD σ H=>∃F,mM X.K F us D σ H):=λpins s σ H D I ⟨F,q⟩=>(h F).ps pins s σ H D I q
def IY{X:Cx}{us:dh}{D:lC}{p c:Addr}{H:Hp}{N:List Str}{x:V}(hN:2<=N.length)(d:bj H p c)(q:∀H',D.rt (.bl true) H')(h:us {nx:=λ_=>False,rt:=λT=>T=bT true} (nC N.length)):
  ∃F,mM X.K F us D ((dY N [x]).set 1 (some (.ref p))) H:=⟨⟨H,some (p,c)⟩,nC N.length,_,Gz hN d,h,λ_ _ _ _ _ z=>z.elim,λx T H' _ v e=>by
 subst e
 obtain⟨rfl,_⟩:=v.leafI
 exact q H',λ_ _ _ _ _ z=>z.elim,λ_ _ _ _ _ z=>z.elim⟩
abbrev rj:=List Ar->(List Tv->Prop)->Prop
def xC(K:W.Frag)(lsp:rj):Sp:=λvs H Q _=>∃dk as R,(∀p c,dk=some (p,c)->bj H p c)/\Paired (pQ K dk H) vs as/\lsp as R/\∀a xs Ts H',Kp dk H H'->H a=none->H' a=some (.lst xs)->Ts.length<=100000->cf K H' xs Ts->R Ts->Q (.ref a) H'
def oZ(P:Program)(w:World)(K:W.Frag)(mg:Str->Option Value)(base:Heap)(k:Nat)(x:Str)(ps:List Str)(lsp:rj):Prop:=cv P w K mg base k x ps (xC K lsp)
def zm(lsp:rj)(ua:dq):d3:=λρ Q=>ua ρ λas ρ1=>lsp as λTs=>Q Ts ρ1
section
variable{X:Cx}{F:Fm}{e:Expr}{es:List Expr}{x:Str}{p pos:Pos}{ua:dq}
theorem MB{lsp:rj}(σ:St)(H:Hp)(QQ:VK)(h:oV X.K F (zm lsp ua) σ H QQ):mH (xC X.K lsp) [] E0 (oW X.K F ua) σ H QQ:=by
 obtain⟨ρ,Q,fr,h,k⟩:=h
 refine⟨ρ,_,fr,h,λxs as H1 ρ1 s1 p1 q1=>?_⟩
 show xC X.K lsp (xs++[]) H1 QQ E0
 rw[jb]
 exact⟨F.dk,as,_,s1.fr.kp.dkk,p1,q1,λa ys Us H' kp n e z v q=>k _ _ _ _ _ (s1.trans (bh.call s1.fr kp)) (s1.non n) e z v q⟩
def sC{k:Nat}{ps:List Str}{lsp:rj}(G:oZ X.prog X.w X.K X.mg X.base k x ps lsp)(hr:bt k X.A)(hg:Gl X x)(ha:UA X F (e::es) ua)(hdb:(x==("__debug__":Str))=false:=by decide)
  (hst:dO e=false:=by rfl) (hpl:(backTo pos (starEach es X.env)).any (·.1)=false:=by rfl):UL X F (.Call (.Name x p) (e::es) [] pos) (zm lsp ua):=
 ⟨PE.imp (oS G hr hg ha.pa hdb hst hpl) MB⟩
abbrev qh:=aT->(List Tv->Prop)->Prop
def Fz(K:W.Frag)(F:Fm)(u:qh):TS:=λD σ H=>∃ρ R,au K F ρ σ H/\u ρ R/\∀a xs Ts H',Kp F.dk F.H0 H'->F.H0 a=none->H' a=some (.lst xs)->Ts.length<=100000->cf K H' xs Ts->R Ts->D.rt (.ref a) H'
structure su (X:Cx) (F:Fm) (st:List Stmt) (u:qh):Prop where
 ps:f_ X st (Fz X.K F u)
variable{st:Stmt}{rest:List Stmt}
def DV(u:d3):qh:=λρ R=>u ρ λTs _=>R Ts
def He{u:d3}(h:UL X F e u):su X F [.Return (some e) pos] (DV u):=⟨kL (PS.imp (kO h.pe) λD σ H ⟨ρ,R,fr,h,k⟩=>⟨ρ,_,fr,h,λa xs Ts H' ρ' s n e z v q=>k a xs Ts H' s.fr.kp (fr.none0 n) e z v q⟩)⟩
def Ny(t:dg)(s r:qh):qh:=λρ R=>t ρ λb ρ1=>if b=true then s ρ1 R else r ρ1 R
def G0{c:Expr}{a:List Stmt}{t:dg}{s r:qh}(hc:UB X F c t)(ha:su X F a s)(hb:su X F rest r):su X F (.If c a [] pos::rest) (Ny t s r):=by
 refine⟨f_.imp (gE (sI hc.pt ha.ps rE) hb.ps) λD σ H ⟨ρ,R,fr,h,k⟩=>?_⟩
 refine⟨ρ,_,fr,h,λb H1 ρ1 s1 q1=>?_⟩
 cases b with
 |true=>exact bW ⟨ρ1,R,s1.fr,by rw[if_pos rfl]at q1;exact q1,k⟩
 |false=>exact aR ⟨ρ1,R,s1.fr,by rw[if_neg cb]at q1;exact q1,k⟩
end
def ak.lgood{P:Program}{w:World}{K:W.Frag}{mg:Str->Option Value}{base:Heap}{x:Str}{st:Stmt}{N ps:List Str}{k:Nat}{lsp:rj}{us:qh}(h:ak K mg x st)(S:bB N ps (aN st))
  (hb:∀(kV doc pm:Value) (an:Option Addr) (cdv ct:Value) (us:List Value),us.length=ps.length->bindArgs (W.fnOf x x (gG st) (eK st) (aN st) .none kV doc pm an cdv ct) ⟨us,[]⟩=pure (ps.zip us))
  (hbody:∀(f:Addr) (cdv:Value) (A:Around) (outer:List Env) (s:Shared) (H:Hp) (E:XK) (F:Fm),bt k (A.deeper (envOfC x (aN st) s.heap.objs.size f cdv))->su (jK nr P w K mg base N x (aN st) f cdv A outer s H E).nox F (eK st) us)
  (hp:∀as R,lsp as R->as.length=ps.length/\us (jT N.length as) R):oZ P w K mg base (k+1) x ps lsp:=by
 refine h.good S hb (λvs H Q E q=>?_) (λf cdv A outer s H vs Q E hr q=>?_)
 ·obtain⟨dk,as,R,d,p,q,_⟩:=q
  rw[Paired.length p]
  exact(hp as R q).1
 ·obtain⟨dk,as,R,d,p,q,k⟩:=q
  exact⟨_,(hbody f cdv A outer s H E ⟨H,dk⟩ hr).ps,jT N.length as,R,A8 d p,(hp as R q).2,λa xs Ts H' kp n e z v q=>k a xs Ts H' kp n e z v q⟩
section
variable{X:Cx}{F:Fm}
variable{x:Str}{p apos cpos pos:Pos}{st:Stmt}
def zp:US X F st (λ_ _=>False):=⟨λpins s σ H D I ⟨_,_,_,h,_⟩=>h.elim⟩
end
end L2
namespace L2
open PySem PySem.Spec PyProof.Rows
def dX:Bool->Value->Bool
 |b,.bool c=>b==c
 |_,_=>false
def lI{b:Bool}{v:Value}(h:dX b v=true):v=.bool b:=by
 cases v<;>simp_all [dX]
def iE(b:Bool):Int:=if b then 1 else 0
section
variable{prog:Program}{w:World}{A:Around}{E:Value->Shared->Prop}{s:Shared}
theorem Li{b:Bool}{Q:Int->Shared->Prop}(h:Q (iE b) {s with toks:=s.toks+1}):wpAny (model prog w) A (pyHash (.bool b)) Q E s:=by
 unfold pyHash
 have hv:[Value.bool b].any Value.onHeap=false:=rfl
 refine af ?_
 rw[cRoomFor,if_neg (by rw[hv];exact cb)];refine ah ?_
 refine af (wpAny_specialOf (typeIs_bool' s b) F.slot_bool_hash.lookup ?_)
 show wpAny _ _ (if (some (Value.builtin "int.__hash__")==some Value.none)=true then _ else _) Q E s
 rw[if_neg (by rw[beq_builtin_none];exact cb)]
 refine af (wpAny_specialOf (typeIs_bool' s b) F.slot_bool_hash.lookup ?_)
 show wpAny _ _ (callSpecialIfBoundUnlessNone? (.bool b) "__hash__" _ >>= _) Q E s
 refine af (wpAny_callSpecialIfBoundUnlessNone?_slot (typeIs_bool' s b) F.slot_bool_hash
  (ig F.slot_bool_hash (typeIs_bool' s b) PySem.entry_int_hash
   (show wpAny _ _ (do ret (<- mkInt (rawHash (iE b)))) _ _ s from ?_) (PySem.args_int_hash _)))
 refine wpAny_ret_mkInt ?_
 cases b
 ·exact ah h
 ·exact ah h
def Ho{a b:Bool}{Q:Bool->Shared->Prop}(h:Q (decide (a=b)) s):wpAny (model prog w) A (eqBool (.bool a) (.bool b)) Q E s:=by
 refine SeqAt.EqAt.bool_bool a b _ _ _ _ ?_
 have e:(a==b)=decide (a=b):=by cases a<;>cases b<;>rfl
 rw[e];exact h
end
def kQ(prog:Program)(w:World):PySem.KeyKind prog w Bool where
 is:=dX
 hash:=iE
 inj:=λv a b ha hb=>by
  have:=(lI ha).symm.trans (lI hb)
  injection this
 byValue:=λk v h=>by rw[lI h];rfl
 pyHash:=λhv h=>by rw[lI hv];exact Li h
 eqBool:=λhu hv h=>by rw[lI hu,lI hv];exact Ho h
 «strs»:=λk x t v h=>by simp[dX]at h
def bw(f t:Bool):List Bool:=(if f then [false] else [])++(if t then [true] else [])
def cw(f t:Bool):Array (Int×Value):=((bw f t).map λb=>(iE b,Value.bool b)).toArray
def bU(l f t:Bool):SetTable:=⟨7,((bw f t).map λb=>if b then 1 else 0).toArray,#[],0,l,0,true⟩
def Ey(l f t b:Bool)(h:b∉bw f t):layNew (bU l f t) (cw f t) (iE b) (.bool b)=(cw (f || !b) (t || b),bU l (f || !b) (t || b),false,false):=by
 cases l<;>cases f<;>cases t<;>cases b<;>first|rfl|exact absurd (by simp[bw]) h
def fD(l f t:Bool):(bU l f t).fits (cw f t).size=true:=by cases l<;>cases f<;>cases t<;>rfl
def Fq(l f t:Bool):(bU l f t).tooFull=false:=by cases l<;>cases f<;>cases t<;>rfl
def mI(f t:Bool):(cw f t).size=(bw f t).length:=by simp[cw]
def iI(f t:Bool):(bw f t).length<=2:=by cases f<;>cases t<;>decide
def bg(w:World)(a:Addr)(f t:Bool)(h:Heap):Prop:=∃ep,h.get? a=some (bK (cw f t) ep (bU (!bp w) f t))
section
variable{prog:Program}{w:World}{A:Around}{E:Value->Shared->Prop}{s:Shared}{a:Addr}{f t b:Bool}
def bg.kept{h h':Heap}(S:bg w a f t h)(k:∀o,h.get? a=some o->h'.get? a=some o):bg w a f t h':=by
 obtain⟨ep,e⟩:=S
 exact⟨ep,k _ e⟩
def Dd:ElemsOf (kQ prog w) (cw f t).toList:=λe he=>by
 have he:e∈(bw f t).map λb=>(iE b,Value.bool b):=he
 obtain⟨b,_,rfl⟩:=qf_.mp he
 exact⟨⟨b,by show dX b (.bool b)=true;simp[dX],rfl⟩,rfl⟩
def findB:((cw f t).toList.findIdx? λe=>(kQ prog w).is b e.2)=none↔b∉bw f t:=by
 rw[qn3_]
 constructor
 ·intro h hb
  have:=h (iE b,.bool b) (by simp only[cw];exact qf_.mpr ⟨b,hb,rfl⟩)
  exact absurd this (by show ¬ dX b (.bool b)=false;simp[dX])
 ·intro h e he
  have he:e∈(bw f t).map λb=>(iE b,Value.bool b):=he
  obtain⟨c,hc,rfl⟩:=qf_.mp he
  show dX b (.bool c)=false
  simp only[dX,beq_eq_false_iff_ne]
  exact λz=>h (z▸hc)
def Dc{f t b:Bool}(h:b∈bw f t):(f || !b)=f/\(t || b)=t:=by
 cases f<;>cases t<;>cases b<;>simp_all [bw]
def BJ{Q:Bool->Shared->Prop}(S:bg w a f t s.heap)(h:∀r h',Heap.SameBut a s.heap h'->bg w a (f || !b) (t || b) h'->Q r {s with heap:=h'}):
  wpAny (model prog w) A (setAddHashed a (.bool b) ((kQ prog w).hash b)) Q E s:=by
 obtain⟨ep,ho⟩:=id S
 have hk:(kQ prog w).is b (.bool b)=true:=by show dX b (.bool b)=true;simp[dX]
 have lt:(cw f t).size<scanBound:=by rw[mI];have:=iI f t;show _<4096;omega
 unfold setAddHashed setAddHashedIn
 refine gb (af (d5 ho rfl (fD _ _ _) ?_))
 dsimp only
 rw[byScan_of (x:=.bool b) rfl lt (Dd (prog:=prog) (w:=w)),if_pos rfl]
 unfold setAddByScan
 refine af (af (wpAny_rule ?_))
 refine af (wpAny_setScan_of hk ho rfl (fD _ _ _) Dd ?_)
 cases hr:(cw f t).toList.findIdx? (λe=>(kQ prog w).is b e.2) with
 |some j=>
  dsimp only
  have hin:b∈bw f t:=Classical.byContradiction λz=>by rw[findB.mpr z]at hr;cases hr
  refine ah (ah ?_)
  have e:s={s with heap:=s.heap}:=by cases s;rfl
  rw[e]
  refine h false s.heap (Heap.SameBut.refl a s.heap) ?_
  rw[(Dc hin).1,(Dc hin).2]
  exact S
 |none=>
  dsimp only
  have hout:=findB.mp hr
  rw[show(kQ prog w).hash b=iE b from rfl,Ey _ _ _ _ hout]
  dsimp only
  refine af (ah ?_)
  rw[if_pos (show(bU (!bp w) (f || !b) (t || b)).plain=true from rfl)]
  refine af ?_
  rw[show hashByValue 8 (.bool b)=pure true from rfl]
  refine ah ?_
  rw[if_pos rfl]
  refine af (wpAny_storeSet_of ho rfl ?_ (by rw[mI];have:=iI (f || !b) (t || b);exact bx this (by decide)))
  rw[Fq]
  have o1:=j4 (Obj.putSet (cw (f || !b) (t || b)) (bU (!bp w) (f || !b) (t || b))) ho rfl
  exact ah (ah (h true _ (Heap.SameBut.update s.heap a _) ⟨ep+1,o1⟩))
end
def cm(bs:List Bool):Bool:=bs.any (!·)
def ck(bs:List Bool):Bool:=bs.any id
def Kk(bs:List Bool)(b:Bool):cm (bs++[b])=(cm bs || !b):=by simp[cm]
def Kl(bs:List Bool)(b:Bool):ck (bs++[b])=(ck bs || b):=by simp[ck]
section
variable{prog:Program}{w:World}{A:Around}{R:Result->Shared->Prop}{I:Addr}{fp wr:List Addr}{G:Array GenState->Array GenState->Prop}{n:Nat}{P:Nat->Value->Prop}{St:Nat->Shared->Prop}
theorem Bd(W:WalksS prog w A.in1 I fp wr G n P St)(S:Addr)(hf:S∉fp)(bs:List Bool)(hn:n=bs.length)(hv:∀i v,P i v->∃b,bs[i]?=some b/\v=.bool b):
  ∀(k i:Nat) (s:Shared),n-i=k->i<=n->St i s->bg w S (cm (bs.take i)) (ck (bs.take i)) s.heap ->
   (∀s',Moved (S::wr) G s s'->bg w S (cm bs) (ck bs) s'.heap->R (.ok (.ret .none)) s')->codeAny (model prog w) A (.builtin "set.update.loop" ⟨[.ref S,.ref I],[]⟩) R s:=by
 have nw:S∉wr:=λz=>hf (W.sub _ z)
 have sub:∀b∈wr,b∈S::wr:=λb z=>d_ _ z
 intro k
 induction k with
 |zero=>
  intro i s hk hi st hS hR
  have e:i=n:=by omega
  subst e
  rw[hn,ff]at hS
  refine jz F.entry_set_update_loop ?_
  rw[fc F.plain_set_update_loop _]
  show wpAny _ A.in1 (pyNext (.ref I) >>= _) _ _ s
  refine af (W.done s _ _ st λs' hm=>?_)
  show wpAny _ A.in1 (ret Value.none) _ _ s'
  exact ah (hR s' (hm.mono sub) (hS.kept λo q=>hm.heap S _ nw q))
 |succ k ih=>
  intro i s hk hi st hS hR
  have lt:i<n:=by omega
  refine jz F.entry_set_update_loop ?_
  rw[fc F.plain_set_update_loop _]
  show wpAny _ A.in1 (pyNext (.ref I) >>= _) _ _ s
  refine af (W.item i s _ _ lt st λv s' hP st' hm=>?_)
  obtain⟨b,hb,rfl⟩:=hv i v hP
  have hS':bg w S (cm (bs.take i)) (ck (bs.take i)) s'.heap:=hS.kept λo q=>hm.heap S _ nw q
  show wpAny _ A.in1 (holding [Value.bool b] (setAdd S (.bool b)) >>= _) _ _ s'
  refine af (gb ?_)
  unfold setAdd
  refine gb (af ((kQ prog w).pyHash (k:=b) (by show dX b (.bool b)=true;simp[dX]) ?_))
  refine BJ (s:={s' with toks:=s'.toks+1}) hS' λr h' sb S2=>?_
  have et:bs.take (i+1)=bs.take i++[b]:=by
   obtain⟨hi',rfl⟩:=qy_.mp hb
   exact m7 hi'
  rw[<-Kk,<-Kl,<-et]at S2
  refine ah ⟨plainId_quiet F.plain_set_update_loop _,ih (i+1) _ (by omega) lt (W.frame _ s' _ _ st' (gf _) λc hc o e=>?_) S2 λs'' hm'' S3=>?_⟩
  ·rw[sb.2 c (λz:c=S=>hf (by rw[<-z];exact hc))];exact e
  ·refine hR s'' (Moved.trans W.gtrans ((hm.mono sub).then_heap (gf _) λc o hc e=>?_) hm'') S3
   rw[sb.2 c (λz:c=S=>hc (by rw[z];exact fw))];exact e
end
def AY{vs:List Value}{bs:List Bool}(h:vs=bs.map Value.bool)(i:Nat)(v:Value)(e:vs[i]?=some v):∃b,bs[i]?=some b/\v=.bool b:=by
 subst h
 rw[e_]at e
 obtain⟨b,hb,rfl⟩:=qg1_.mp e
 exact⟨b,hb,rfl⟩
section
variable{prog:Program}{w:World}{A:Around}{E:Value->Shared->Prop}{s:Shared}
theorem M8{l:Addr}{items:Array Value}{bs:List Bool}{Q:Value->Shared->Prop}(hh:A.handled=none)(hl:s.heap.IsList l items)(hi:items.toList=bs.map Value.bool)
  (h:∀(h':Heap) (tk:Nat),bg w s.heap.objs.size (cm bs) (ck bs) h'->(∀b o,b<s.heap.objs.size->s.heap.get? b=some o->h'.get? b=some o)->Q (.ref s.heap.objs.size) {s with heap:=h',toks:=tk}):
  wpAny (model prog w) A (call (.type "set") [.ref l]) Q E s:=by
 have hz:items.size=bs.length:=by have:=congrArg List.length hi;simpa using this
 obtain⟨c,tl,hmro⟩:=F.called_set.mro
 have hmade:=F.called_set.made
 have hsub:=F.called_set.sub
 refine wpAny_call (codeAny_of_tree ?_)
 show wpAny _ _ (callAny (.type "set") _) _ _ _
 refine ah ⟨Code.quiet_builtin _ (by decide +kernel),jz F.entry_type_call ?_⟩
 rw[Around.under_plain (weight_type_call_type "set" [.ref l] []) rfl]
 have h1:=F.called_set.notType
 have h2:=F.called_set.canCreate
 have hct:=F.typeCall_set_1 (.ref l)
 repeat (any_goals (first|assumption|wp_step))
 refine codeAny_mono (uA (.ref l) (E:=E) (Q₁:=λobj s₁=>obj=.ref s.heap.objs.size/\s₁={s with heap:=s.heap.push (bK #[] 0 (.fresh 0 0 (!bp w)))}) ⟨rfl,rfl⟩) λr s₁ hr=>?_
 cases r with
 |error e=>exact hr
 |ok fl=>
  cases fl with
  |ret obj=>
   obtain⟨rfl,rfl⟩:=hr
   have hS:(s.heap.push (bK #[] 0 (.fresh 0 0 (!bp w)))).get? s.heap.objs.size=some (bK #[] 0 (.fresh 0 0 (!bp w))):=b6 _ rfl
   have hT:Shared.TypeIs {s with heap:=s.heap.push (bK #[] 0 (.fresh 0 0 (!bp w)))} (.ref s.heap.objs.size) "set":=⟨_,hS,rfl⟩
   have hli:=F.called_set.init.lookup
   have hbi:=F.called_set.init.bind (.ref s.heap.objs.size)
   repeat (any_goals (first|assumption|wp_step))
   refine codeAny_mono (codeAny_call_builtin (R:=wants (λr s₂=>r=.none/\∃h' tk,s₂={s with heap:=h',toks:=tk}/\bg w s.heap.objs.size (cm bs) (ck bs) h' /\
     (∀b o,b<s.heap.objs.size->s.heap.get? b=some o->h'.get? b=some o)) E) F.called_set.init.plain F.entry_set_init (check_set_init_1 hT ?_)) λr₂ s₂ hr₂=>?_
   ·obtain⟨ol,hol,hcl,nl,hdl⟩:=hl
    obtain⟨ocls,odict,odata,oslots⟩:=ol
    simp only at hcl hdl
    subst hcl hdl
    have hol':(s.heap.push (bK #[] 0 (.fresh 0 0 (!bp w)))).get? l=some {cls:=.type "list",dict:=odict,data:=.seq items nl,slots:=oslots}:=ay _ hol
    have hsls:=F.sub_list_set
    have hslf:=F.sub_list_frozenset
    have hne:(Value.type "list"==Value.type "dict")=false:=by decide
    have hl1:(s.heap.push (bK #[] 0 (.fresh 0 0 (!bp w)))).IsList l items:=⟨_,hol',rfl,nl,rfl⟩
    unfold Builtin.«set.__init__» noKeywords Builtin.Frozenset.updateFrom
    generalize hPI:pyIter=PI
    wp_walk
    subst hPI
    refine wpAny_pyIter_list hl1 ?_
    refine af (wpAny_runValue ?_)
    have hlS:l<s.heap.objs.size:=bo hol
    have hh3:A.in1.in1.in1.handled=none:=by simp[hh]
    have neI:l≠(s.heap.push (bK #[] 0 (.fresh 0 0 (!bp w)))).objs.size:=by
     rw[fm]
     exact cq (fo hlS)
    have nf:s.heap.objs.size∉[(s.heap.push (bK #[] 0 (.fresh 0 0 (!bp w)))).objs.size,l]:=by
     rw[fm]
     simp only[List.mem_cons,List.not_mem_nil,or_false,not_or]
     exact⟨cq (ku _),gj hlS⟩
    refine Bd ((Walks.list hh3 _ l neI items).toS) s.heap.objs.size nf bs hz (λi v hv=>AY hi i v (by rw[d7];exact hv)) (items.size-0) 0 _ (by omega) (d6 _)
     ⟨⟨_,b6 _ rfl,rfl,rfl⟩,hl1.push _⟩ ?_ λs' hm S'=>?_
    ·exact⟨0,ay _ hS⟩
    ·obtain⟨h',g',d',tk',os'⟩:=s'
     have eg:g'=s.gens:=hm.gens
     have ed:d'=s.drawn:=hm.drawn
     have eo:os'=s.os:=hm.os
     subst eg ed eo
     show wpAny _ _ _ _ _ _
     refine ah ?_
     show wpAny _ _ (ret Value.none) _ _ _
     refine ah ⟨rfl,h',tk',rfl,S',λb o hb e=>?_⟩
     have hb2:b≠(s.heap.push (bK #[] 0 (.fresh 0 0 (!bp w)))).objs.size:=by
      rw[fm]
      exact cq (fo hb)
     exact hm.heap b o (by simp only[List.mem_cons,List.not_mem_nil,or_false,not_or];exact⟨cq hb,hb2⟩) (ay _ (ay _ e))
   ·cases r₂ with
    |error e=>exact hr₂
    |ok fl₂=>
     cases fl₂ with
     |ret r=>
      obtain⟨rfl,h',tk,rfl,S',hk'⟩:=hr₂
      repeat (any_goals (first|assumption|wp_step))
      exact h _ _ S' hk'
     |_=>exact hr₂.elim
  |_=>exact hr.elim
end
def FS(P:Nat->Value->Prop)(us:List Bool):Prop:=∀acc:Array Value,ItemsOf P acc us.length->∃bs:List Bool,acc.toList=bs.map Value.bool/\bs.Perm us
def Cs{vs:List Value}{us:List Bool}(h:vs.Perm (us.map Value.bool)):∃bs:List Bool,vs=bs.map Value.bool/\bs.Perm us:=by
 let g:Value->Bool:=λv=>match v with|.bool b=>b|_=>false
 refine⟨vs.map g,?_,?_⟩
 ·rw[f7]
  conv=>lhs;rw[<-List.map_id vs]
  refine mi λv hv=>?_
  obtain⟨b,_,rfl⟩:=qf_.mp (h.mem_iff.mp hv)
  rfl
 ·have:=h.map g
  rw[f7]at this
  have e:us.map (g∘Value.bool)=us:=by
   conv=>rhs;rw[<-List.map_id us]
   exact mi λb _=>rfl
  rwa[e]at this
section
variable{prog:Program}{w:World}{A:Around}{E:Value->Shared->Prop}{s:Shared}{it a:Addr}{es:Array (Int×Value)}{ep:Nat}{t:SetTable}
def Hj(hh:A.handled=none)(hb:bp w=true)(fit:t.fits es.size=true)(it a:Addr)(ne:it≠a):
  WalksS prog w A it [it,a] [it] Eq es.size (λi v=>(pickOrder (w.params.setOrder a ep) es)[i]?.map (·.2)=some v)
   (λi s=>s.heap.get? it=some (lj (.int 0 0) i a es.size ep)/\s.heap.get? a=some (bK es ep t)) where
 sub:=λb hb=>by simp at hb;simp[hb]
 grefl:=λ_=>rfl
 gtrans:=λ_ _ _ x y=>x.trans y
 frame:=λi s h' tk st _ k=>⟨k it (by simp) _ st.1,k a (by simp) _ st.2⟩
 item:=λi s Q E hi st hQ=>by
  refine gV st.1 rfl (jO (slot:=0) st.1 st.2 fit rfl ?_)
  have sz:(pickOrder (w.params.setOrder a ep) es).size=es.size:=by have:=(jQ (w.params.setOrder a ep) es).length_eq;simpa using this
  unfold setNext
  refine af (d5 st.2 rfl fit ?_)
  dsimp only
  refine af (dR ?_)
  rw[if_pos hb]
  simp only[bne_self_eq_false,Bool.false_eq_true,if_false]
  unfold setWalk
  refine af (af (d5 st.2 rfl fit ?_))
  dsimp only
  refine af (dR ?_)
  rw[if_pos hb]
  refine af (wpAny_askSetting (ah ?_))
  refine ah ?_
  have hlt:i<(pickOrder (w.params.setOrder a ep) es).size:=by rw[sz];exact hi
  show wpAny _ _ (match Option.map (λe=>(e.2,0)) (pickOrder (w.params.setOrder a ep) es)[i]? with
   |some (x,next)=>do
    setField (.ref it) 0 (rawInt (next:Nat))
    setField (.ref it) 1 (rawInt (i+1))
    ret x
   |none=>do setField (.ref it) 2 .none;raiseNew (<- newExc (.type "StopIteration") [])) _ _ _
  rw[ja hlt]
  dsimp only[Option.map_some]
  refine af (j0 st.1 (by simp) λh1 g1 b1=>?_)
  refine af (j0 g1 (by simp) λh2 g2 b2=>?_)
  refine ah ⟨_,rfl,hQ _ _ (by rw[ja hlt];rfl) ⟨?_,?_⟩ ⟨?_,rfl,rfl,rfl,ba _⟩⟩
  ·rw[g2];rfl
  ·rw[b2.2 a ne.symm,b1.2 a ne.symm];exact st.2
  ·intro b o hb e
   have hb':b≠it:=by simpa using hb
   rw[b2.2 b hb',b1.2 b hb'];exact e
 done:=λs Q E st hQ=>by
  refine gV st.1 rfl (jO (slot:=0) st.1 st.2 fit rfl ?_)
  have sz:(pickOrder (w.params.setOrder a ep) es).size=es.size:=by have:=(jQ (w.params.setOrder a ep) es).length_eq;simpa using this
  unfold setNext
  refine af (d5 st.2 rfl fit ?_)
  dsimp only
  refine af (dR ?_)
  rw[if_pos hb]
  simp only[bne_self_eq_false,Bool.false_eq_true,if_false]
  unfold setWalk
  refine af (af (d5 st.2 rfl fit ?_))
  dsimp only
  refine af (dR ?_)
  rw[if_pos hb]
  refine af (wpAny_askSetting (ah ?_))
  refine ah ?_
  show wpAny _ _ (match Option.map (λe=>(e.2,0)) (pickOrder (w.params.setOrder a ep) es)[es.size]? with
   |some (x,next)=>do
    setField (.ref it) 0 (rawInt (next:Nat))
    setField (.ref it) 1 (rawInt ((es.size:Int)+1))
    ret x
   |none=>do setField (.ref it) 2 .none;raiseNew (<- newExc (.type "StopIteration") [])) _ _ _
  rw[ky (show(pickOrder (w.params.setOrder a ep) es).size<=es.size by rw[sz];exact ba _)]
  dsimp only[Option.map_none]
  refine nI hh st.1 rfl (by simp) λe h' kp ty=>⟨ty,hQ _ ⟨λb o hb q=>kp b o (by simpa using hb) q,rfl,rfl,rfl,ba _⟩⟩
 self:=λi s Q E st hQ=>by
  have ht:s.TypeIs (.ref it) "set_iterator":=⟨_,st.1,rfl⟩
  refine wpAny_pyIter_slot ht gW (ig gW ht nY ?_ (nZ _))
  show wpAny _ _ (ret (.ref it)) _ _ s
  exact ah ⟨_,rfl,"set_iterator",_,ht,st_next.lookup,hQ⟩
end
section
variable{prog:Program}{w:World}{A:Around}{E:Value->Shared->Prop}{s:Shared}{it a:Addr}{ep:Nat}{f t:Bool}
def zN{slot i:Nat}{Q:Option (Value×Nat)->Shared->Prop}(hb:bp w=false)(ho:s.heap.get? a=some (bK (cw f t) ep (bU (!bp w) f t)))
  (h:Q (match (cw f t)[SetTable.below (bU true f t).place slot]?,(bU true f t).place[SetTable.below (bU true f t).place slot]? with
  |some (_,x),some j=>some (x,j+1)
  |_,_=>none) s):wpAny (model prog w) A (setNext a slot i ep) Q E s:=by
 unfold setNext
 refine af (d5 ho rfl (fD _ _ _) ?_)
 dsimp only
 refine af (dR ?_)
 rw[hb]
 simp only[Bool.false_eq_true,if_false,Bool.not_false]
 show wpAny _ _ (if (!(bU true f t).plain&&decide ((cw f t).size > 1))=true then _ else(do
  (if (!(bU true f t).led&&!(cw f t).isEmpty)=true then unsupported "set:maker-not-led" else pure ():Sem Unit)
  pure (match (cw f t)[SetTable.below (bU true f t).place slot]?,(bU true f t).place[SetTable.below (bU true f t).place slot]? with
   |some (_,x),some j=>some (x,j+1)
   |_,_=>none))) _ _ _
 rw[if_neg (by rw[show(bU true f t).plain=true from rfl];simp)]
 refine af ?_
 rw[if_neg (by rw[show(bU true f t).led=true from rfl];simp)]
 exact ah (ah h)
def jC(f t:Bool)(i:Nat):Nat:=if i=0 then 0 else((bw f t)[i-1]?.map λb=>(if b then 1 else 0)+1).getD 0
def FC{f t:Bool}{i:Nat}(hi:i<(bw f t).length):∃b,(bw f t)[i]?=some b/\(match (cw f t)[SetTable.below (bU true f t).place (jC f t i)]?,(bU true f t).place[SetTable.below (bU true f t).place (jC f t i)]? with
  |some (_,x),some j=>some (x,j+1)
  |_,_=>none)=some (Value.bool b,jC f t (i+1)):=by
 have h2:=iI f t
 have:i=0\/i=1:=by omega
 rcases this with e|e<;>subst e<;>cases f<;>cases t<;>first|exact⟨_,rfl,rfl⟩|exact absurd hi (by decide)
def Fw{f t:Bool}:(match (cw f t)[SetTable.below (bU true f t).place (jC f t (bw f t).length)]?,(bU true f t).place[SetTable.below (bU true f t).place (jC f t (bw f t).length)]? with
  |some (_,x),some j=>some (x,j+1)
  |_,_=>none)=(none:Option (Value×Nat)):=by cases f<;>cases t<;>rfl
def Hk(hh:A.handled=none)(hb:bp w=false)(it a:Addr)(ne:it≠a):
  WalksS prog w A it [it,a] [it] Eq (bw f t).length (λi v=>(bw f t)[i]?.map Value.bool=some v)
   (λi s=>s.heap.get? it=some (lj (.int ((jC f t i:Nat):Int) 0) i a (bw f t).length ep)/\s.heap.get? a=some (bK (cw f t) ep (bU (!bp w) f t))) where
 sub:=λb hb=>by simp at hb;simp[hb]
 grefl:=λ_=>rfl
 gtrans:=λ_ _ _ x y=>x.trans y
 frame:=λi s h' tk st _ k=>⟨k it (by simp) _ st.1,k a (by simp) _ st.2⟩
 item:=λi s Q E hi st hQ=>by
  obtain⟨b,e1,e2⟩:=FC hi
  refine gV st.1 rfl (jO (slot:=jC f t i) st.1 st.2 (fD _ _ _) (mI f t) ?_)
  refine zN hb st.2 ?_
  rw[e2]
  show wpAny _ _ (do
    setField (.ref it) 0 (rawInt ((jC f t (i+1):Nat):Int))
    setField (.ref it) 1 (rawInt ((i:Nat)+1:Int))
    ret (Value.bool b)) _ _ _
  refine af (j0 st.1 (by simp) λh1 g1 b1=>?_)
  refine af (j0 g1 (by simp) λh2 g2 b2=>?_)
  refine ah ⟨_,rfl,hQ _ _ (by rw[e1];rfl) ⟨?_,?_⟩ ⟨?_,rfl,rfl,rfl,ba _⟩⟩
  ·rw[g2];rfl
  ·rw[b2.2 a ne.symm,b1.2 a ne.symm];exact st.2
  ·intro b o hb e
   have hb':b≠it:=by simpa using hb
   rw[b2.2 b hb',b1.2 b hb'];exact e
 done:=λs Q E st hQ=>by
  refine gV st.1 rfl (jO (slot:=jC f t (bw f t).length) st.1 st.2 (fD _ _ _) (mI f t) ?_)
  refine zN hb st.2 ?_
  rw[Fw]
  dsimp only
  exact nI hh st.1 rfl (by simp) λe h' kp ty=>⟨ty,hQ _ ⟨λb o hb q=>kp b o (by simpa using hb) q,rfl,rfl,rfl,ba _⟩⟩
 self:=λi s Q E st hQ=>by
  have ht:s.TypeIs (.ref it) "set_iterator":=⟨_,st.1,rfl⟩
  refine wpAny_pyIter_slot ht gW (ig gW ht nY ?_ (nZ _))
  show wpAny _ _ (ret (.ref it)) _ _ s
  exact ah ⟨_,rfl,"set_iterator",_,ht,st_next.lookup,hQ⟩
end
section
variable{prog:Program}{w:World}{A:Around}{E:Value->Shared->Prop}{s:Shared}{a:Addr}{f t:Bool}
def Lk{Q:Value->Shared->Prop}(S:bg w a f t s.heap)
  (h:∀(it:Addr) (fp:List Addr) (P:Nat->Value->Prop) (St:Nat->Shared->Prop) (h':Heap) (d:Drawn),(∀A':Around,A'.handled=none->∃n,n=(bw f t).length/\WalksS prog w A' it fp [it] Eq n P St)->St 0 {s with heap:=h',drawn:=d}->FS P (bw f t) ->
   (∀b∈fp,b=a\/s.heap.objs.size<=b)->s.heap.objs.size<=it->(∀b o,s.heap.get? b=some o->h'.get? b=some o)->Q (.ref it) {s with heap:=h',drawn:=d}):
  wpAny (model prog w) A (pyIter (.ref a)) Q E s:=by
 obtain⟨ep,ho⟩:=id S
 have alt:a<s.heap.objs.size:=bo ho
 have ht:s.TypeIs (.ref a) "set":=⟨_,ho,rfl⟩
 have fit:=fD (!bp w) f t
 have sz:=mI f t
 refine wpAny_pyIter_slot ht qZ (ig qZ ht zv ?_ (zq _))
 unfold Builtin.«frozenset.__iter__» Builtin.Frozenset.slot0
 refine af (af (m:=slotArgs "__iter__" 0 ⟨[.ref a],[]⟩) (ah ?_))
 show wpAny _ _ (pure a) _ _ s
 refine ah ?_
 unfold Builtin.Frozenset.sizeOf
 refine af (af (nE ho fit (ah ?_)))
 unfold setDrawn
 refine af (af (d5 ho rfl fit ?_))
 dsimp only
 refine af (dR (ah ?_))
 show wpAny _ _ (if (!bp w&&(!(bU (!bp w) f t).plain&&decide ((cw f t).size > 1)))=true then _ else _) _ _ s
 have fin:∀(first:Value) (h1:Heap) (d:Drawn) (St:Nat->Shared->Prop),(∀b o,s.heap.get? b=some o->h1.get? b=some o)->s.heap.objs.size<=h1.objs.size ->
   (∀s2:Shared,s2.heap.get? h1.objs.size=some (lj first 0 a (cw f t).size ep)->(∀b o,h1.get? b=some o->s2.heap.get? b=some o) ->
    Q (.ref h1.objs.size) {s with heap:=h1.push (lj first 0 a (cw f t).size ep),drawn:=d})->wpAny (model prog w) A.in1 (do
   ret (<- newFields "set_iterator" [first,rawInt 0,.ref a,rawInt (cw f t).size,rawInt (<- setEpoch a)])) (λfin s'=>∃v,fin=.done (.ret v)/\∃T' r,s'.TypeIs v T'/\typeLookup (.type T') "__next__"=pure (some r)/\Q v s') E {s with heap:=h1,drawn:=d}:=by
  intro first h1 d St k le q
  refine af (wpAny_setEpoch_of (k a _ ho) rfl fit ?_)
  refine af (jg ?_ (by size_fits))
  exact ah ⟨_,rfl,"set_iterator",_,⟨_,b6 _ rfl,rfl⟩,st_next.lookup,q {s with heap:=h1.push (lj first 0 a (cw f t).size ep)} (b6 _ rfl) λb o e=>ay _ e⟩
 rw[if_neg (by rw[show(bU (!bp w) f t).plain=true from rfl];simp)]
 refine af (ah ?_)
 have nea:s.heap.objs.size≠a:=gj alt
 refine fin (.int 0 0) s.heap s.drawn (λ_ _=>True) (λ_ _ e=>e) (ba _) λs2 g k=>?_
 have mem:∀b∈[s.heap.objs.size,a],b=a\/s.heap.objs.size<=b:=λb m=>by
  simp only[List.mem_cons,List.not_mem_nil,or_false]at m
  rcases m with m|m
  ·exact .inr (by rw[m];exact ba _)
  ·exact .inl m
 cases hb:bp w with
 |true=>
  have hp:=jQ (w.params.setOrder a ep) (cw f t)
  refine h s.heap.objs.size [s.heap.objs.size,a] _ _ _ _ (λA' hA=>⟨(cw f t).size,sz,Hj (ep:=ep) hA hb fit _ a nea⟩) ⟨b6 _ rfl,ay _ ho⟩ ?_ mem (ba _) λb o e=>ay _ e
  intro acc ⟨h1,h2⟩
  have e:acc.toList=(pickOrder (w.params.setOrder a ep) (cw f t)).toList.map (·.2):=by
   have lp:(pickOrder (w.params.setOrder a ep) (cw f t)).toList.length=(bw f t).length:=by rw[hp.length_eq,d9,sz]
   apply o_
   intro i
   by_cases hi:i<acc.size
   ·rw[e_,d7,d7]
    have:=h2 i acc[i] (ja hi)
    rw[this,ja hi]
   ·rw[d7,ky (by omega),kc (by rw[ao,lp];omega)]
  have pm:acc.toList.Perm ((bw f t).map Value.bool):=by
   rw[e]
   have:=hp.map (·.2)
   have q:(cw f t).toList.map (·.2)=(bw f t).map Value.bool:=by simp[cw,Function.comp_def]
   rwa[q]at this
  exact Cs pm
 |false=>
  refine h s.heap.objs.size [s.heap.objs.size,a] _ _ _ _ (λA' hA=>⟨(bw f t).length,rfl,Hk (ep:=ep) (f:=f) (t:=t) hA hb _ a nea⟩) ⟨?_,ay _ ho⟩ ?_ mem (ba _) λb o e=>ay _ e
  ·rw[<-sz];exact b6 _ rfl
  intro acc ⟨h1,h2⟩
  refine⟨bw f t,?_,.refl _⟩
  apply o_
  intro i
  by_cases hi:i<acc.size
  ·have:=h2 i acc[i] (ja hi)
   rw[d7,ja hi,<-this]
   rw[e_]
  ·rw[d7,ky (by omega),kc (by rw[ao];omega)]
theorem M5{Q:List Value->Shared->Prop}(hh:A.handled=none)(S:bg w a f t s.heap)
  (hQ:∀h' d tk (acc:List Value) (bs:List Bool),acc=bs.map Value.bool->bs.Perm (bw f t)->s.heap.objs.size<h'.objs.size->(∀b o,s.heap.get? b=some o->h'.get? b=some o)->Q acc {s with heap:=h',drawn:=d,toks:=tk}):
  wpAny (model prog w) A (collect (.ref a)) Q E s:=by
 have hl:(bw f t).length<=sizeLine:=bx (iI f t) (by decide)
 have alt:a<s.heap.objs.size:=by
  obtain⟨ep,ho⟩:=id S
  exact bo ho
 unfold collect
 refine af (wpAny_runValue (jz F.entry_proto_collect ?_))
 rw[fc F.plain_proto_collect _]
 show wpAny _ A.in1 (newList [] >>= λl=>again (.builtin "list.__iadd__" ⟨[l,.ref a],[]⟩)) _ _ s
 refine af (jg ?_ (by size_fits))
 refine ah ⟨plainId_quiet F.plain_list_iadd _,jz F.entry_list_iadd ?_⟩
 rw[fc F.plain_list_iadd _]
 show wpAny _ A.in1 (Builtin.List.listExtendWith (.ref s.heap.objs.size) (.ref a) (.ref s.heap.objs.size)) _ _ _
 unfold Builtin.List.listExtendWith
 have S1:bg w a f t (s.heap.push {cls:=.type "list",data:=.seq ([]:List Value).toArray}):=S.kept λo e=>ay _ e
 have ht:Shared.TypeIs {s with heap:=s.heap.push {cls:=.type "list",data:=.seq ([]:List Value).toArray}} (.ref a) "set":=by
  obtain⟨ep,ho⟩:=id S1
  exact⟨_,ho,rfl⟩
 refine af (wpAny_typeOf ht ?_)
 have h1:Builtin.List.listSameRef (.ref s.heap.objs.size) (.ref a)=false:=by simp[Builtin.List.listSameRef];exact gj alt
 have h2:(Value.type "set"==Value.type "list")=false:=by decide
 have h3:(Value.type "set"==Value.type "tuple")=false:=by decide
 simp only[h1,h2,h3,Bool.or_false,Bool.false_eq_true,if_false]
 refine af (Lk S1 λit fp P St h' d W st0 td hfp nv kp=>?_)
 have ht':Shared.TypeIs {s with heap:=h',drawn:=d} (.ref a) "set":=by
  obtain⟨o,e,c⟩:=ht
  exact⟨o,kp _ _ e,c⟩
 refine af (gb (BK ht' ?_))
 have hA:A.in1.in1.handled=none:=by simp[hh]
 obtain⟨n,hn,W⟩:=W A.in1 (by simp[hh])
 subst hn
 refine wpAny_ite ?_
 rw[if_pos (by decide +kernel)]
 refine af (wpAny_rule ?_)
 have sz1:(s.heap.push {cls:=.type "list",data:=.seq ([]:List Value).toArray}).objs.size=s.heap.objs.size+1:=fm ..
 have g0:h'.get? s.heap.objs.size=some {cls:=.type "list",data:=.seq ([]:List Value).toArray}:=kp _ _ (b6 _ rfl)
 have nf:s.heap.objs.size∉fp:=λm=>by
  rcases hfp _ m with z|z
  ·exact absurd z (gj alt)
  ·rw[sz1]at z;omega
 refine af ?_
 show wpAny _ A.in1 (updateSeq s.heap.objs.size (·.push .none) >>= λ_=>updateSeq s.heap.objs.size (·.pop)) _ _ _
 refine af (wpAny_updateSeq g0 rfl ?_)
 have g1:=j4 (Obj.mapSeq (·.push Value.none)) g0 rfl
 refine wpAny_updateSeq g1 rfl ?_
 have g2:=j4 (Obj.mapSeq (·.pop)) g1 rfl
 have oth:∀b o,b≠s.heap.objs.size->h'.get? b=some o->((h'.update s.heap.objs.size (Obj.mapSeq (·.push Value.none))).update s.heap.objs.size (Obj.mapSeq (·.pop))).get? b=some o:=
  λb o hb e=>(jq _ _ (Ne.symm hb)).trans ((jq _ _ (Ne.symm hb)).trans e)
 refine ah ⟨plainId_quiet F.plain_extend_loop _,codeAny_extend_loopS W hl _ nf _ (bw f t).length 0 _ _ _ rfl (d6 _)
  (W.frame 0 {s with heap:=h',drawn:=d} _ s.toks st0 (ba _) λb hb o e=>oth b o (λz=>nf (z▸hb)) e) g2 (ItemsOf.nil P) λs' acc' c' hm g' hacc=>?_⟩
 show wpAny _ A (load s.heap.objs.size >>= _) _ _ s'
 refine af (wpAny_load g' ?_)
 obtain⟨vs,hs,hp⟩:=td acc' hacc
 obtain⟨h'',g'',d'',tk'',os''⟩:=s'
 have e1:g''=s.gens:=hm.gens.symm
 have e2:os''=s.os:=hm.os
 subst e1 e2
 refine ah (hQ h'' d'' tk'' acc'.toList vs hs hp (bo g') λb o e=>hm.heap b o (λm=>?_) (oth b o (cq (bo e)) (kp b o (ay _ e))))
 have lt:=bo e
 simp only[List.mem_cons,List.not_mem_nil,or_false]at m
 rcases m with m|m
 ·rw[m]at lt;exact fg _ lt
 ·rw[m]at lt;rw[sz1]at nv;exact absurd lt (qj2_.mpr (Nat.le_of_succ_le nv))
end
@[reducible] def sortB:PyProof.Rows.KeyKind where
 α:=Bool
 blt a b:=!a&&b
 irrefl a:=by cases a<;>rfl
 trans a b c h1 h2:=by cases a<;>cases b<;>cases c<;>simp_all
 negTrans a b c h:=by cases a<;>cases b<;>cases c<;>simp_all
 total a b h1 h2:=by cases a<;>cases b<;>simp_all
 keyOf v:=match v with|.bool b=>some b|_=>none
 dflt:=false
section
variable{prog:Program}{w:World}{A:Around}{E:Value->Shared->Prop}{s:Shared}
theorem LP{a b:Bool}{Q:Bool->Shared->Prop}(h:Q (!a&&b) s):wpAny (model prog w) A (oneLt' true (.bool a) (.bool b)) Q E s:=by
 rw[oneLt'_eq]
 simp only[if_true]
 refine af (wpAny_cRoomFor_byValue rfl ?_)
 refine af (wpAny_callSpecialIfBound?_slot (typeIs_bool' s a) F.slot_bool_lt ?_)
 refine call_gives F.slot_bool_lt (typeIs_bool' s a) F.entry_int_lt (F.args_int_lt_2 _ _) (gives_int_lt_bools a b) ?_
 have e:decide (b2i a<b2i b)=(!a&&b):=by cases a<;>cases b<;>rfl
 show wpAny _ _ (truthOfDropped (.bool (decide (b2i a<b2i b)))) _ _ _
 rw[e]
 exact wpAny_truthy_bool h
end
def Mc:sortB.OneLt:=by
 intro prog w A E s x y a b Q ha hb h
 cases x<;>simp only[sortB,reduceCtorEq,Option.some.injEq]at ha
 cases y<;>simp only[sortB,reduceCtorEq,Option.some.injEq]at hb
 cases ha;cases hb
 exact LP h
def zC:∀(bs:List Bool),(bs.map Value.bool).mapM firstOfTuple'=pure ((bs.map Value.bool).map λ_=>none)
 |[]=>by simp
 |b::bs=>by rw[e9,List.mapM_cons,show firstOfTuple' (.bool b)=pure none from rfl,zC bs];simp
def zF:∀(bs:List Bool),(bs.map Value.bool).mapM typeOf=pure ((bs.map Value.bool).map λ_=>Value.type "bool")
 |[]=>by simp
 |b::bs=>by
  rw[e9,List.mapM_cons,zF bs]
  show(pure (Value.type "bool") >>= λb=>pure _ >>= λbs=>pure (b::bs))=_
  simp
def L9{b c:Bool}{bs:List Bool}:keyKind' (((b::c::bs).map Value.bool).toArray)=pure oneType':=by
 rw[keyKind'_eq,List.mapM_toArray,zC]
 simp only[map_pure,pure_bind]
 rw[if_neg (by simp),if_neg (by simp)]
 rw[oneTypeOnly'_eq,List.mapM_toArray,zF]
 simp only[map_pure,pure_bind]
 have hall:((List.map (λ_=>Value.type "bool") ((b::c::bs).map Value.bool)).toArray.all λx=>x==Value.type "bool")=true:=by
  simp only[List.all_toArray,List.all_map,List.all_eq_true]
  intro _ _
  rfl
 have h0:(List.map (λ_=>Value.type "bool") ((b::c::bs).map Value.bool)).toArray[0]?=some (Value.type "bool"):=by simp
 rw[h0]
 simp only[hall,if_true,pure_bind,Option.isSome_some]
def JO{f t:Bool}{bs:List Bool}(h:bs.Perm (bw f t))(s:∀i j:Nat,i<=j->∀a b,bs[i]?=some a->bs[j]?=some b->(!b&&a)=false):bs=bw f t:=by
 cases f<;>cases t
 ·exact List.perm_nil.mp h
 ·exact List.perm_singleton.mp h
 ·exact List.perm_singleton.mp h
 ·have l:bs.length=2:=h.length_eq
  match bs,l with
  |[a,b],_=>
   have:=s 0 1 (by decide) a b rfl rfl
   cases a<;>cases b
   ·exact absurd (h.mem_iff (a:=true)) (by simp[bw])
   ·rfl
   ·cases this
   ·exact absurd (h.mem_iff (a:=false)) (by simp[bw])
section
variable{prog:Program}{w:World}{A:Around}{E:Value->Shared->Prop}{s:Shared}{a:Addr}{f t:Bool}
def L6{Q:Value->Shared->Prop}(hh:A.handled=none)(S:bg w a f t s.heap)
  (h:∀h' d tk (l:Addr) (e:Nat),h'.get? l=some (seqObj "list" ((bw f t).map Value.bool).toArray e)->s.heap.objs.size<=l->(∀b o,s.heap.get? b=some o->h'.get? b=some o) ->
   Q (.ref l) {s with heap:=h',drawn:=d,toks:=tk}):wpAny (model prog w) A (call (.builtin "sorted") [.ref a]) Q E s:=by
 refine Calls.call_function_entry kind_sorted plain_sorted entry_sorted (args_sorted1 _) ?_
 unfold Builtin.«sorted»
 refine af (m:=checkCount "sorted" 1 1 _) (ah ?_)
 refine af (M5 (by simp[hh]) S λh1 d tk acc bs hs hp le kp=>?_)
 subst hs
 have hlen:(bs.map Value.bool).length<64:=by rw[ao,hp.length_eq];have:=iI f t;omega
 refine af (wpAny_newList ?_ (j9 (gc hlen (by decide))))
 have hoL:(h1.push (seqObj "list" (bs.map Value.bool).toArray 0)).get? h1.objs.size=some (seqObj "list" (bs.map Value.bool).toArray 0):=b6 _ rfl
 have hko:KeysOf sortB (pairsOf (bs.map Value.bool)):=by
  intro p hp
  rw[pairsOf_toList]at hp
  obtain⟨b,_,e⟩:=qf_.mp (mem_zip_self hp).2
  exact⟨b,by rw[<-e]⟩
 refine af (gb (ig slot_list_sort ⟨_,hoL,rfl⟩ entry_list_sort (list_sort_treeK Mc hoL hko (λv₁ v₂ rest e=>?_) hlen λst' a1 a2=>⟨_,rfl,?_⟩) (args_list_sort _)))
 ·match bs,e with
  |b::c::bs,e=>rw[<-e];exact L9
 have hl:(arrOf st').toList.Perm ((bs.map Value.bool).zip (bs.map Value.bool)):=by rw[<-pairsOf_toList];exact Array.perm_iff_toList_perm.mp a1
 have hmem:∀p,p∈(arrOf st').toList->p.1=p.2/\p.1∈bs.map Value.bool:=λp hp'=>mem_zip_self (hl.mem_iff.mp hp')
 have pm:((arrOf st').map (·.2)).toList.Perm ((bw f t).map Value.bool):=by
  rw[Array.toList_map]
  have:=hl.map (·.2)
  rw[List.map_snd_zip (ba _)]at this
  exact this.trans (hp.map _)
 obtain⟨cs,e1,e2⟩:=Cs pm
 have e3:cs=bw f t:=JO e2 λi j hij x y hx hy=>by
  have kk:∀(i:Nat) (x:Bool),cs[i]?=some x->KK sortB (arrOf st') i=x/\i<(arrOf st').size:=λi x hx=>by
   have hv:((arrOf st').map (·.2)).toList[i]?=some (.bool x):=by rw[e1,e_,hx];rfl
   rw[Array.toList_map,e_]at hv
   obtain⟨p,hp1,hp2⟩:=qg1_.mp hv
   have hm:=hmem p (g5 hp1)
   rw[d7]at hp1
   refine⟨?_,(qo3_.mp hp1).1⟩
   unfold KK
   rw[hp1]
   show(sortB.keyOf p.1).getD false=x
   rw[hm.1,hp2]
   rfl
  have hi:=kk i x hx
  have hj:=kk j y hy
  have:=a2 i j hij (by rw[<-a1.size_eq];exact hj.2)
  rw[hi.1,hj.1]at this
  exact this
 subst e3
 obtain⟨e,he⟩:=sortedHeap_at (out:=(arrOf st').map (·.2)) hoL
 refine ah ⟨_,rfl,h _ _ _ _ e (by rw[<-e1,ng];exact he) (j9 le) λb o q=>?_⟩
 have lt:=bo (kp b o q)
 rw[sortedHeap_old (cq lt) (by rw[fm];exact fo lt)]
 exact ay _ (kp b o q)
end
end L2
namespace L2
open PySem PySem.Spec PyProof.Rows WordM
def eG(w:World)(a:Addr)(f t:Bool):HO:=.ext (bg w a f t)
section
variable{X:Cx}{F:Fm}
def E6(w:World)(K:W.Frag):List V->Hp->VK->Prop:=λxs H Q=>∃(p:Addr) (bs:List Bool),xs=[.ref p]/\b5 K H p (bs.map V.bl)/\∀a:Addr,H a=none->Q (.ref a) (ar H a (eG w a (cm bs) (ck bs)))
theorem AZ{bs:List Bool}:∀{vs:List Value},aj (bs.map V.bl) vs->vs=bs.map Value.bool:=by
 induction bs with
 |nil=>intro vs h;cases h;rfl
 |cons b bs ih=>
  intro vs h
  cases h with
  |cons r t=>
   rw[e9,<-ih t]
   have:_=Value.bool b:=r
   rw[this]
def Lu(hc:X.calm=true):aq X (.type "set") (E6 X.w X.K):=by
 intro pins s σ H xs us Q I r h
 obtain⟨p,bs,rfl,hq,q⟩:=h
 obtain⟨u,rfl,rx⟩:=cR r
 cases rx
 obtain⟨its,rv,pl,hz'⟩:=I.list hq
 refine M8 (I.ok.hd hc) pl.isList (bs:=bs) (AZ rv) λh' tk S k=>?_
 refine⟨.ref s.heap.objs.size,_,I.laid (t':=tk) (o:=eG X.w s.heap.objs.size (cm bs) (ck bs)) (λb o e=>k b o (bo e) e) (ba _) ⟨S,?_,λh1 h2 z k'=>z.kept k'⟩,rfl,q _ I.fresh⟩
 obtain⟨ep,e⟩:=S
 exact⟨_,e⟩
def IA(w:World):List V->Hp->VK->Prop:=λxs H Q=>∃(a:Addr) (f t:Bool),xs=[.ref a]/\H a=some (eG w a f t)/\∀l:Addr,H l=none->Q (.ref l) (ar H l (.lst ((bw f t).map V.bl)))
theorem zV:∀(bs:List Bool),aj (bs.map V.bl) (bs.map Value.bool)
 |[]=>.nil
 |b::bs=>.cons rfl (zV bs)
theorem zH(hc:X.calm=true):aq X (.builtin "sorted") (IA X.w):=by
 intro pins s σ H xs us Q I r h
 obtain⟨a,f,t,rfl,hq,q⟩:=h
 obtain⟨u,rfl,rx⟩:=cR r
 cases rx
 have S:bg X.w a f t s.heap:=(I.hok a _ hq).1
 refine L6 (I.ok.hd hc) S λh' d tk l e hl le k=>?_
 refine⟨.ref l,_,(I.laid (t':=tk) (o:=.lst ((bw f t).map V.bl)) k le ⟨?_,_,e,zV _,hl⟩).draw d,rfl,q l (I.hok.fresh le)⟩
 rw[ao]
 exact bx (iI f t) (by decide)
variable{pos:Pos}
def Ml(u:UT):d3:=λρ Q=>u ρ λT ρ1=>∃bs:List Bool,T=.seq false (bs.map bT)/\Q ((bw (cm bs) (ck bs)).map bT) ρ1
theorem M3{e:Expr}{u:UT}{p p' pos':Pos}(hc:X.calm=true)(hg:Gl X "sorted")(hm:X.mg "sorted"=none)(hg':Gl X "set")(hm':X.mg "set"=none)(he:UE X F e u)(hst:dO e=false:=by rfl)
  (hpl:(backTo pos (starEach [] X.env)).any (·.1)=false:=by rfl) (hpl':(backTo pos' (starEach [] X.env)).any (·.1)=false:=by rfl):
  UL X F (.Call (.Name "sorted" p) [.Call (.Name "set" p') [e] [] pos'] [] pos) (Ml u):=⟨PE.imp (iN (zH hc) hg hm boot_sorted (cT (gD (Lu hc) hg' hm' L2.boot_set (cT he.pe dD hst) (by decide) (by decide) (gS hst) hpl') dD rfl) (by decide) (by decide) rfl hpl) λσ H QQ ⟨ρ,Q,f,h,k⟩=>by
 refine⟨ρ,_,f,h,λx T H1 ρ1 s1 v1 q1=>?_⟩
 obtain⟨bs,rfl,q⟩:=q1
 obtain⟨a,ys,rfl,hs,z,p⟩:=v1.seqI
 rw[nP p]at hs
 refine⟨a,bs,rfl,cQ hs,λb nb=>⟨b,_,_,rfl,bA,λc nc=>?_⟩⟩
 have sm:=(cB (o:=eG X.w b (cm bs) (ck bs)) nb).trans (cB (o:=.lst ((bw (cm bs) (ck bs)).map V.bl)) nc)
 exact k _ _ _ _ _ (s1.trans (bh.same s1.fr sm)) (s1.non ((cB nb).free nc)) bA (by rw[ao];have:=iI (cm bs) (ck bs);omega) (wU _) q⟩
def Hx:List V->Hp->VK->Prop:=λxs H Q=>∃(a:Addr) (ob:Obj) (kvs:List (av×V)) (us:List Str),xs=[.ref a]/\me H a ob kvs/\kvs.map (·.1)=us.map Sum.inr/\∀l:Addr,H l=none->Q (.ref l) (ar H l (.lst (us.map V.str)))
theorem Mt(hc:X.calm=true):aq X (.type "list") Hx:=by
 intro pins s σ H xs us Q I r h
 obtain⟨a,ob,kvs,uu,rfl,hz,hk,q⟩:=h
 obtain⟨u,rfl,rx⟩:=cR r
 cases rx
 obtain⟨e,hs,hl,vs,es,ep,rr,dd,hd⟩:=jS I hz
 have hkv:vs.map (·.1)=uu.map Sum.inr:=by rw[<-rL rr];exact hk
 have hlen:vs.length=uu.length:=by have:=congrArg List.length hkv;simpa using this
 have lv:vs.length=kvs.length:=(kP rr).symm
 refine PySem.W.kdl_call (PySem.W.kdl_dict (knd:=bO X.prog X.w) (kvs:=vs) (ep:=ep) hs) (I.ok.hd hc) dd (by omega) λh' tk acc c k hl' ha=>?_
 refine⟨.ref _,_,I.laid (t':=tk) (o:=.lst (uu.map V.str)) k (ba _) ⟨by rw[ao];omega,acc.toList,c,pS (zI hkv ha),by rw[ng];exact hl'⟩,rfl,q _ I.fresh⟩
def Gc:List Tv->(List Tv->Prop)->Prop:=λTs Q=>∃kts,Ts=[.dct kts]/\Q (kts.map λkt=>sT kt.1)
def JV(hc:X.calm=true):oC X (.type "list") Gc:=⟨_,Mt hc,λxs Ts H Q QQ vx h k=>by
 obtain⟨kts,rfl,q⟩:=h
 obtain⟨x,rfl,v⟩:=dN vx
 obtain⟨a,kvs,rfl,⟨ob,hd⟩,nd,z,p⟩:=v.dctI
 refine⟨a,ob,kvs,kts.map (·.1),rfl,hd,qR p,λb n=>?_⟩
 have e:(kts.map λkt=>sT kt.1)=(kts.map (·.1)).map sT:=by rw[f7];rfl
 rw[e]at q
 exact k b _ _ _ (cB n) n bA (by rw[ao,ao];omega) (lX _) q⟩
def oY(d v:Addr):HO:=.ext λh=>h.IsValuesView v d
def Fh(tl:TE):TE:=λσ H Q=>tl σ H λx H1=>∃a ob kvs,x=.ref a/\me H1 a ob kvs/\∀p,H1 p=none->Q (.ref p) (ar H1 p (oY a p))
theorem Jq{o:Expr}{tl:TE}{apos pos:Pos}(hl:PE X o tl)(hbase:attributeBase o "values" X.env (eval o X.env)=eval o X.env:=by rfl)(hline:(apos.endLine==pos.line)=true:=by rfl):
  PE X (.Call (.Attribute o "values" apos) [] [] pos) (Fh tl):=by
 intro pins s σ H Q I h
 refine wpAny_Call_method (T:="dict") (id:="dict.values") hbase rfl hline F.plainAttrs_dict F.slot_dict_values F.type_dict_values (bf (hl pins s σ H _ I h) λv s1 ⟨x,H1,I1,r1,q1⟩=>?_)
 obtain⟨a,ob,kvs,e,hz,q⟩:=q1
 subst e
 cases r1
 obtain⟨e,hs,hl,vs,es,ep,r,dd,hd⟩:=jS I1 hz
 have hm:=dd.dictOf
 refine⟨hm.typeIs,hm.mapOf.noDict,?_⟩
 show wpAny _ _ (callWith pos (.builtin "dict.values") [.ref a] [] []) _ _ s1
 refine method_meetsIn F.slot_dict_values F.entry_dict_values rfl (PySem.evalArgs_none ⟨rfl,hm.typeIs,F.args_dict_values_1 _,_,meets_dict_values (bO X.prog X.w) a hs,⟨vs,hm⟩,?_⟩)
 refine⟨.ref _,_,I1.laid (t':=s1.toks) (o:=oY a s1.heap.objs.size) (λb o e=>ay _ e) (ba _) ⟨⟨_,b6 _ rfl,rfl,rfl⟩,⟨_,b6 _ rfl⟩,?_⟩,rfl,q _ I1.fresh⟩
 rintro h1 h2 ⟨o,e,c⟩ k
 exact⟨o,k o e,c⟩
def BE:∀{kvs:List (av×V)}{vs:List (av×Value)},KV kvs vs->aj (kvs.map (·.2)) (vs.map (·.2))
 |[],_,.nil=>.nil
 |_::_,_,.cons r rs=>.cons r.2 (BE rs)
def Hy:List V->Hp->VK->Prop:=λxs H Q=>∃(v a:Addr) (ob:Obj) (kvs:List (av×V)),xs=[.ref v]/\H v=some (oY a v)/\me H a ob kvs/\∀l:Addr,H l=none->Q (.ref l) (ar H l (.lst (kvs.map (·.2))))
def Mu(hc:X.calm=true):aq X (.type "list") Hy:=by
 intro pins s σ H xs us Q I r h
 obtain⟨v,a,ob,kvs,rfl,hv,hz,q⟩:=h
 obtain⟨u,rfl,rx⟩:=cR r
 cases rx
 obtain⟨e,hs,hl,vs,es,ep,rr,dd,hd⟩:=jS I hz
 obtain⟨hvv,_⟩:=(show aw X.prog X.w H s.heap v (oY a v) from I.hok v _ hv)
 have lv:vs.length=kvs.length:=(kP rr).symm
 refine PySem.W.kdl_call (PySem.W.kdl_values (knd:=bO X.prog X.w) (r:=v) (d:=a) (kvs:=vs) (ep:=ep)) (I.ok.hd hc) ⟨hvv,dd⟩ (by omega) λh' tk acc c k hl' ha=>?_
 have ev:acc.toList=vs.map (·.2):=PySem.W.kdl_vals_eq acc.toList (by rw[d9];exact ha.1) λj v e=>ha.2 j v (by rw[<-d7];exact e)
 refine⟨.ref _,_,I.laid (t':=tk) (o:=.lst (kvs.map (·.2))) k (ba _) ⟨by rw[ao];omega,acc.toList,c,by rw[ev];exact BE rr,by rw[ng];exact hl'⟩,rfl,q _ I.fresh⟩
def Lf{K:W.Frag}{H:Hp}{kvs:List (av×V)}{kts:List (Str×Tv)}(p:e6 K H kvs kts):cf K H (kvs.map (·.2)) (kts.map (·.2)):=by
 unfold e6 at p
 induction p with
 |nil=>exact .nil
 |cons r _ ih=>exact .cons r.2 ih
def HY(u:UT):d3:=λρ Q=>u ρ λT ρ1=>∃kts,T=.dct kts/\Q (kts.map (·.2)) ρ1
def Ld{e:Expr}{u:UT}{p apos cpos:Pos}(hc:X.calm=true)(hg:Gl X "list")(hm:X.mg "list"=none)(he:UE X F e u)
  (hbase:attributeBase e "values" X.env (eval e X.env)=eval e X.env:=by rfl) (hline:(apos.endLine==cpos.line)=true:=by rfl) (hpl:(backTo pos (starEach [] X.env)).any (·.1)=false:=by rfl):
  UL X F (.Call (.Name "list" p) [.Call (.Attribute e "values" apos) [] [] cpos] [] pos) (HY u):=⟨PE.imp (gD (Mu hc) hg hm boot_list (cT (Jq he.pe hbase hline) dD rfl) (by decide) (by decide) rfl hpl) λσ H QQ ⟨ρ,Q,f,h,k⟩=>by
 refine⟨ρ,_,f,h,λx T H1 ρ1 s1 v1 q1=>?_⟩
 obtain⟨kts,rfl,q⟩:=q1
 obtain⟨a,kvs,rfl,⟨ob,hd⟩,nd,z,p⟩:=v1.dctI
 refine⟨a,ob,kvs,rfl,hd,λb nb=>⟨b,a,ob,kvs,rfl,bA,?_,λc nc=>?_⟩⟩
 ·exact(cB nb) _ _ hd
 have sm:=(cB (o:=oY a b) nb).trans (cB (o:=.lst (kvs.map (·.2))) nc)
 have lk:kvs.length=kts.length:=Paired.length p
 exact k _ _ _ _ _ (s1.trans (bh.same s1.fr sm)) (s1.non ((cB nb).free nc)) bA (by rw[ao];omega) (cf.hs ((gI nb).trans (gI nc)) (Lf p)) q⟩
end
end L2
namespace L2
open PySem PySem.Spec PyProof.Rows
def J4(us:List Str)(x:Str):us.length<=(cU us x).length:=by
 unfold cU
 split
 ·exact ba _
 ·rw[b9];omega
def K1(val:Nat->Str){i n:Nat}(h:i<=n):(eZ val i).length<=(eZ val n).length:=by
  induction n with
  | zero => have : i = 0 := by omega
            subst this;exact ba _
  |succ n ih=>
    by_cases e:i=n+1
    · subst e;exact ba _
    · have:=ih (by omega)
      rw[CP]
      have:=J4 (eZ val n) (val n)
      omega
section
variable{prog:Program}{w:World}{A:Around}{R:Result->Shared->Prop}{I:Addr}{fp wr:List Addr}{G:Array GenState->Array GenState->Prop}{n:Nat}{P:Nat->Value->Prop}{St:Nat->Shared->Prop}
theorem CM(W:WalksS prog w A.in1 I fp wr G n P St)(S:Addr)(hf:S∉fp)(val:Nat->Str)(hv:∀i v,P i v->∃t,v=.str (val i) t)(hb:(eZ val n).length+1<scanBound):
  ∀(k i:Nat) (s:Shared),n-i=k->i<=n->St i s->az prog w S (eZ val i) s.heap ->
   (∀s',Moved (S::wr) G s s'->az prog w S (eZ val n) s'.heap->R (.ok (.ret .none)) s')->codeAny (model prog w) A (.builtin "set.update.loop" ⟨[.ref S,.ref I],[]⟩) R s:=by
 have nw:S∉wr:=λz=>hf (W.sub _ z)
 have sub:∀b∈wr,b∈S::wr:=λb z=>d_ _ z
 intro k
 induction k with
 |zero=>
  intro i s hk hi st hS hR
  have e:i=n:=by omega
  subst e
  refine jz F.entry_set_update_loop ?_
  rw[fc F.plain_set_update_loop _]
  show wpAny _ A.in1 (pyNext (.ref I) >>= _) _ _ s
  refine af (W.done s _ _ st λs' hm=>?_)
  show wpAny _ A.in1 (ret Value.none) _ _ s'
  exact ah (hR s' (hm.mono sub) (hS.kept λo q=>hm.heap S _ nw q))
 |succ k ih=>
  intro i s hk hi st hS hR
  have lt:i<n:=by omega
  refine jz F.entry_set_update_loop ?_
  rw[fc F.plain_set_update_loop _]
  show wpAny _ A.in1 (pyNext (.ref I) >>= _) _ _ s
  refine af (W.item i s _ _ lt st λv s' hP st' hm=>?_)
  obtain⟨t,rfl⟩:=hv i v hP
  have hS':az prog w S (eZ val i) s'.heap:=hS.kept λo q=>hm.heap S _ nw q
  show wpAny _ A.in1 (holding [Value.str (val i) t] (setAdd S (.str (val i) t)) >>= _) _ _ s'
  refine af (gb ?_)
  unfold setAdd
  refine gb (af ((PySem.strKind prog w).pyHash (k:=val i) (by show Value.isStrOf _ (.str _ t)=true;simp[Value.isStrOf]) ?_))
  have room:(eZ val i).length+1<scanBound:=by have:=K1 val (j9 lt);omega
  refine vV (s:={s' with toks:=s'.toks+1}) hS' room λb h' sb S2=>?_
  rw[<-CP]at S2
  refine ah ⟨plainId_quiet F.plain_set_update_loop _,ih (i+1) _ (by omega) lt (W.frame _ s' _ _ st' (gf _) λc hc o e=>?_) S2 λs'' hm'' S3=>?_⟩
  ·rw[sb.2 c (λz:c=S=>hf (by rw[<-z];exact hc))];exact e
  ·refine hR s'' (Moved.trans W.gtrans ((hm.mono sub).then_heap (gf _) λc o hc e=>?_) hm'') S3
   rw[sb.2 c (λz:c=S=>hc (by rw[z];exact fw))];exact e
end
section
variable{prog:Program}{w:World}{A:Around}{E:Value->Shared->Prop}{s:Shared}
theorem M7{l:Addr}{items:Array Value}{ss:List Str}{Q:Value->Shared->Prop}(hh:A.handled=none)(hl:s.heap.IsList l items)(hi:StrsAre items.toList ss)(hb:(aH ss).length+1<scanBound)
  (h:∀(h':Heap) (tk:Nat),az prog w s.heap.objs.size (aH ss) h'->(∀b o,b<s.heap.objs.size->s.heap.get? b=some o->h'.get? b=some o)->Q (.ref s.heap.objs.size) {s with heap:=h',toks:=tk}):
  wpAny (model prog w) A (call (.type "set") [.ref l]) Q E s:=by
 have hz:items.size=ss.length:=by have:=gU hi;simpa using this
 obtain⟨c,tl,hmro⟩:=F.called_set.mro
 have hmade:=F.called_set.made
 have hsub:=F.called_set.sub
 refine wpAny_call (codeAny_of_tree ?_)
 show wpAny _ _ (callAny (.type "set") _) _ _ _
 refine ah ⟨Code.quiet_builtin _ (by decide +kernel),jz F.entry_type_call ?_⟩
 rw[Around.under_plain (weight_type_call_type "set" [.ref l] []) rfl]
 have h1:=F.called_set.notType
 have h2:=F.called_set.canCreate
 have hct:=F.typeCall_set_1 (.ref l)
 repeat (any_goals (first|assumption|wp_step))
 refine codeAny_mono (uA (.ref l) (E:=E) (Q₁:=λobj s₁=>obj=.ref s.heap.objs.size/\s₁={s with heap:=s.heap.push (bK #[] 0 (.fresh 0 0 (!bp w)))}) ⟨rfl,rfl⟩) λr s₁ hr=>?_
 cases r with
 |error e=>exact hr
 |ok fl=>
  cases fl with
  |ret obj=>
   obtain⟨rfl,rfl⟩:=hr
   have hS:(s.heap.push (bK #[] 0 (.fresh 0 0 (!bp w)))).get? s.heap.objs.size=some (bK #[] 0 (.fresh 0 0 (!bp w))):=b6 _ rfl
   have hT:Shared.TypeIs {s with heap:=s.heap.push (bK #[] 0 (.fresh 0 0 (!bp w)))} (.ref s.heap.objs.size) "set":=⟨_,hS,rfl⟩
   have hli:=F.called_set.init.lookup
   have hbi:=F.called_set.init.bind (.ref s.heap.objs.size)
   repeat (any_goals (first|assumption|wp_step))
   refine codeAny_mono (codeAny_call_builtin (R:=wants (λr s₂=>r=.none/\∃h' tk,s₂={s with heap:=h',toks:=tk}/\az prog w s.heap.objs.size (aH ss) h' /\
     (∀b o,b<s.heap.objs.size->s.heap.get? b=some o->h'.get? b=some o)) E) F.called_set.init.plain F.entry_set_init (check_set_init_1 hT ?_)) λr₂ s₂ hr₂=>?_
   ·obtain⟨ol,hol,hcl,nl,hdl⟩:=hl
    obtain⟨ocls,odict,odata,oslots⟩:=ol
    simp only at hcl hdl
    subst hcl hdl
    have hol':(s.heap.push (bK #[] 0 (.fresh 0 0 (!bp w)))).get? l=some {cls:=.type "list",dict:=odict,data:=.seq items nl,slots:=oslots}:=ay _ hol
    have hsls:=F.sub_list_set
    have hslf:=F.sub_list_frozenset
    have hne:(Value.type "list"==Value.type "dict")=false:=by decide
    have hl1:(s.heap.push (bK #[] 0 (.fresh 0 0 (!bp w)))).IsList l items:=⟨_,hol',rfl,nl,rfl⟩
    unfold Builtin.«set.__init__» noKeywords Builtin.Frozenset.updateFrom
    generalize hPI:pyIter=PI
    wp_walk
    subst hPI
    refine wpAny_pyIter_list hl1 ?_
    refine af (wpAny_runValue ?_)
    have hlS:l<s.heap.objs.size:=bo hol
    have hh3:A.in1.in1.in1.handled=none:=by simp[hh]
    have neI:l≠(s.heap.push (bK #[] 0 (.fresh 0 0 (!bp w)))).objs.size:=by
     rw[fm]
     exact cq (fo hlS)
    have nf:s.heap.objs.size∉[(s.heap.push (bK #[] 0 (.fresh 0 0 (!bp w)))).objs.size,l]:=by
     rw[fm]
     simp only[List.mem_cons,List.not_mem_nil,or_false,not_or]
     exact⟨cq (ku _),gj hlS⟩
    refine CM ((Walks.list hh3 _ l neI items).toS) s.heap.objs.size nf (λi=>ss.getD i ⟨#[]⟩) (λi v hv=>gF hi i v (by rw[d7];exact hv)) (by rw[hz,vL (ss:=ss) (λi hi=>by simp[hi])];exact hb) (items.size-0) 0 _ (by omega) (d6 _)
     ⟨⟨_,b6 _ rfl,rfl,rfl⟩,hl1.push _⟩ ?_ λs' hm S'=>?_
    ·refine⟨#[],0,.fresh 0 0 (!bp w),ay _ hS,⟨λe he=>by simp at he,⟨[],.nil,.refl _⟩,ka,by decide,?_,.inl rfl,rfl⟩⟩
     simp[SetTable.fits,SetTable.fresh,SetTable.fill]
    ·obtain⟨h',g',d',tk',os'⟩:=s'
     have eg:g'=s.gens:=hm.gens
     have ed:d'=s.drawn:=hm.drawn
     have eo:os'=s.os:=hm.os
     subst eg ed eo
     rw[hz,vL (ss:=ss) (λi hi=>by simp[hi])]at S'
     show wpAny _ _ _ _ _ _
     refine ah ?_
     show wpAny _ _ (ret Value.none) _ _ _
     refine ah ⟨rfl,h',tk',rfl,S',λb o hb e=>?_⟩
     have hb2:b≠(s.heap.push (bK #[] 0 (.fresh 0 0 (!bp w)))).objs.size:=by
      rw[fm]
      exact cq (fo hb)
     exact hm.heap b o (by simp only[List.mem_cons,List.not_mem_nil,or_false,not_or];exact⟨cq hb,hb2⟩) (ay _ (ay _ e))
   ·cases r₂ with
    |error e=>exact hr₂
    |ok fl₂=>
     cases fl₂ with
     |ret r=>
      obtain⟨rfl,h',tk,rfl,S',hk'⟩:=hr₂
      repeat (any_goals (first|assumption|wp_step))
      exact h _ _ S' hk'
     |_=>exact hr₂.elim
  |_=>exact hr.elim
end
section
variable{X:Cx}{F:Fm}
def HB(P:Program)(w:World)(K:W.Frag):List V->Hp->VK->Prop:=λxs H Q=>∃(p:Addr) (ss:List Str),xs=[.ref p]/\b5 K H p (ss.map V.str)/\(aH ss).length<4000/\∀a:Addr,H a=none->Q (.ref a) (ar H a (dP P w a (aH ss)))
def Mx(hc:X.calm=true):aq X (.type "set") (HB X.prog X.w X.K):=by
 intro pins s σ H xs us Q I r h
 obtain⟨p,ss,rfl,hq,hz,q⟩:=h
 obtain⟨u,rfl,rx⟩:=cR r
 cases rx
 obtain⟨its,rv,pl,hz'⟩:=I.list hq
 have hi:StrsAre its.toArray.toList ss:=jN rv
 refine M7 (I.ok.hd hc) pl.isList hi (by show(aH ss).length+1<4096;omega) λh' tk S k=>?_
 refine⟨.ref s.heap.objs.size,_,I.laid (t':=tk) (o:=dP X.prog X.w s.heap.objs.size (aH ss)) (λb o e=>k b o (bo e) e) (ba _) ⟨S,?_,λh1 h2 z k'=>z.kept k'⟩,rfl,q _ I.fresh⟩
 obtain⟨es,ep,t,e,_⟩:=S
 exact⟨_,e⟩
variable{pos:Pos}
def Mk(u:UT):d3:=λρ Q=>u ρ λT ρ1=>∃ss:List Str,T=.seq false (ss.map sT)/\(aH ss).length<64/\Q ((aX (aH ss)).map sT) ρ1
theorem pT{e:Expr}{u:UT}{p p' pos':Pos}(hc:X.calm=true)(hg:Gl X "sorted")(hm:X.mg "sorted"=none)(hg':Gl X "set")(hm':X.mg "set"=none)(he:UE X F e u)(hst:dO e=false:=by rfl)
  (hpl:(backTo pos (starEach [] X.env)).any (·.1)=false:=by rfl) (hpl':(backTo pos' (starEach [] X.env)).any (·.1)=false:=by rfl):
  UL X F (.Call (.Name "sorted" p) [.Call (.Name "set" p') [e] [] pos'] [] pos) (Mk u):=⟨PE.imp (iN (zL hc) hg hm boot_sorted (cT (gD (Mx hc) hg' hm' L2.boot_set (cT he.pe dD hst) (by decide) (by decide) (gS hst) hpl') dD rfl) (by decide) (by decide) rfl hpl) λσ H QQ ⟨ρ,Q,f,h,k⟩=>by
 refine⟨ρ,_,f,h,λx T H1 ρ1 s1 v1 q1=>?_⟩
 obtain⟨ss,rfl,l2,q⟩:=q1
 obtain⟨a,ys,rfl,hs,z,p⟩:=v1.seqI
 rw[iK p]at hs
 refine⟨a,ss,rfl,cQ hs,by omega,λb nb=>⟨b,aH ss,rfl,bA,l2,λms c h1 h2 nc=>?_⟩⟩
 have sm:=(cB (o:=dP X.prog X.w b (aH ss)) nb).trans (cB (o:=.lst (ms.map V.str)) nc)
 refine k _ _ _ _ _ (s1.trans (bh.same s1.fr sm)) (s1.non ((cB nb).free nc)) bA (by rw[ao,h1.length_eq];omega) (lX ms) ?_
 rw[nL h1 h2]
 exact q⟩
abbrev FK:P2:=se (λ_ j=>j≠0) λi j=>.int (i.fmod j)
def Iv:gA X (binaryOp .Mod) FK:=(sF Je λ_ _=>rfl).op
end
section
variable{X:Cx}{F:Fm}{pos:Pos}
def FM{k:Nat}{p p':Pos}:PE X (.UnaryOp .USub (.Constant (.int 1) k p) p') (tC (.int (-1))):=PE.imp (xL wV cL) λσ H Q h=>⟨1,rfl,h⟩
end
end L2
namespace RunM
structure gu (lo hi st:Int):Prop where
 nn:0<=st
 z:st=0->lo=hi
 p:0<st->lo<hi/\st ∣ (hi-lo)
def gu.le{lo hi st:Int}(r:gu lo hi st):lo<=hi:=by
 rcases Int.lt_or_le 0 st with h|h
 ·exact Int.le_of_lt (r.p h).1
 ·have:=r.nn
  rw[r.z (by omega)]
  exact j_ _
end RunM
namespace GcdM
open RunM
def g(a b:Int):Int:=((Int.gcd a b:Nat):Int)
def g_nonneg(a b:Int):0<=g a b:=Int.natCast_nonneg _
def g_dvd{d a b:Int}:d ∣ g a b↔d ∣ a/\d ∣ b:=by
 unfold g
 constructor
 ·intro h
  exact⟨j8 h (Int.gcd_dvd_left ..),j8 h (Int.gcd_dvd_right ..)⟩
 ·rintro⟨h1,h2⟩
  exact Int.dvd_coe_gcd h1 h2
def GF(a:Int)(h:0<=a):g a 0=a:=by
 unfold g
 rw[Int.gcd_zero_right]
 omega
def qK{a b:Int}(ha:0<=a)(hb:0<=b)(h:∀d:Int,d ∣ a↔d ∣ b):a=b:=by
 have h1:a ∣ b:=(h a).mp (oy _)
 have h2:b ∣ a:=(h b).mpr (oy _)
 exact Int.dvd_antisymm ha hb h1 h2
def GE{a b:Int}(hb:0<b):g b (a % b)=g a b:=by
 refine qK (g_nonneg _ _) (g_nonneg _ _) λd=>?_
 rw[g_dvd,g_dvd]
 constructor
 ·rintro⟨h1,h2⟩
  refine⟨?_,h1⟩
  have:=kr (j8 h1 (ou b (a / b))) h2
  rw[Int.mul_ediv_add_emod]at this
  exact this
 ·rintro⟨h1,h2⟩
  refine⟨h2,?_⟩
  have:=iz h1 (j8 h2 (ou b (a / b)))
  rw[show a-b*(a / b)=a % b by have:=Int.mul_ediv_add_emod a b;omega]at this
  exact this
def stepOf(lo:Int)(ns:List Int):Int:=ns.foldl (λs n=>g (n-lo) s) 0
def vC{lo d:Int}:∀{ns:List Int}{s:Int},d ∣ ns.foldl (λs n=>g (n-lo) s) s↔d ∣ s/\∀n∈ns,d ∣ (n-lo)
 |[],s=>by simp
 |n::r,s=>by
  rw[ia,vC,g_dvd]
  constructor
  ·rintro⟨⟨h1,h2⟩,h3⟩
   refine⟨h2,λm hm=>?_⟩
   rcases qx_.mp hm with e|e
   ·rw[e];exact h1
   ·exact h3 m e
  ·rintro⟨h1,h2⟩
   exact⟨⟨h2 n fw,h1⟩,λm hm=>h2 m (d_ _ hm)⟩
def pU{lo:Int}:∀{ns:List Int}{s:Int},0<=s->0<=ns.foldl (λs n=>g (n-lo) s) s
 |[],s,h=>h
 |n::r,s,_=>pU (ns:=r) (g_nonneg _ _)
def Bv{lo hi st d m:Int}(ok:gu lo hi st):(d ∣ (lo-m)/\d ∣ (hi-m)/\d ∣ (lo+st-m))↔d ∣ (lo-m)/\d ∣ st:=by
 constructor
 ·rintro⟨h1,_,h3⟩
  refine⟨h1,?_⟩
  have:=iz h3 h1
  rw[show lo+st-m-(lo-m)=st by omega]at this
  exact this
 ·rintro⟨h1,h2⟩
  refine⟨h1,?_,?_⟩
  ·by_cases hs:st=0
   ·rw[<-ok.z hs];exact h1
   ·have hp:0<st:=by have:=ok.nn;omega
    have:=kr h1 (j8 h2 (ok.p hp).2)
    rw[show lo-m+(hi-lo)=hi-m by omega]at this
    exact this
  ·have:=kr h1 h2
   rw[show lo-m+st=lo+st-m by omega]at this
   exact this
def L8{lo hi st lo' hi' st':Int}(ok:gu lo hi st)(ok':gu lo' hi' st'):
  stepOf (if lo'<lo then lo' else lo) [lo,hi,lo+st,lo',hi',lo'+st']=g (g st st') (lo-lo'):=by
 refine qK (pU (j_ 0)) (g_nonneg _ _) λd=>?_
 unfold stepOf
 rw[vC,g_dvd,g_dvd]
 have key:∀m:Int,(m=lo\/m=lo')->((d ∣ (0:Int)/\∀n∈[lo,hi,lo+st,lo',hi',lo'+st'],d ∣ (n-m))↔(d ∣ st/\d ∣ st')/\d ∣ (lo-lo')):=by
  intro m hm
  have r1:=@Bv lo hi st d m ok
  have r2:=@Bv lo' hi' st' d m ok'
  constructor
  ·rintro⟨_,h⟩
   have a1:=r1.mp ⟨h lo (by simp),h hi (by simp),h (lo+st) (by simp)⟩
   have a2:=r2.mp ⟨h lo' (by simp),h hi' (by simp),h (lo'+st') (by simp)⟩
   refine⟨⟨a1.2,a2.2⟩,?_⟩
   have:=iz a1.1 a2.1
   rw[show lo-m-(lo'-m)=lo-lo' by omega]at this
   exact this
  ·rintro⟨⟨h1,h2⟩,h3⟩
   have b1:d ∣ (lo-m):=by
    rcases hm with e|e
    ·rw[e,ko];exact h9 _
    ·rw[e];exact h3
   have b2:d ∣ (lo'-m):=by
    rcases hm with e|e
    ·rw[e]
     have:=Int.dvd_neg.mpr h3
     rw[show -(lo-lo')=lo'-lo by omega]at this
     exact this
    ·rw[e,ko];exact h9 _
   have a1:=r1.mpr ⟨b1,h1⟩
   have a2:=r2.mpr ⟨b2,h2⟩
   refine⟨h9 _,λn hn=>?_⟩
   simp only[List.mem_cons,List.not_mem_nil,or_false]at hn
   rcases hn with e|e|e|e|e|e<;>rw[e]
   ·exact a1.1
   ·exact a1.2.1
   ·exact a1.2.2
   ·exact a2.1
   ·exact a2.2.1
   ·exact a2.2.2
 split
 ·exact key lo' (.inr rfl)
 ·exact key lo (.inl rfl)
def Bz{lo hi st:Int}(ok:gu lo hi st):lo<=hi/\lo+st<=hi:=by
 refine⟨ok.le,?_⟩
 by_cases hs:st=0
 ·rw[hs,<-ok.z hs];omega
 ·have hp:0<st:=by have:=ok.nn;omega
  have:=ok.p hp
  have:=Int.le_of_dvd (by omega) this.2
  omega
def GA(a b:Int):g a b=g b a:=by unfold g;rw[Int.gcd_comm]
def Ft(a b:Int):g a (-b)=g a b:=by unfold g;rw[Int.gcd_neg]
def g_abs(a:Int):g a 0=if a<0 then -a else a:=by
 unfold g
 rw[Int.gcd_zero_right]
 split<;>omega
def g_turnF{a b:Int}(hb:b≠0):g b (a.fmod b)=g a b:=by
 refine qK (g_nonneg _ _) (g_nonneg _ _) λd=>?_
 rw[g_dvd,g_dvd]
 have e:=Int.mul_fdiv_add_fmod a b
 constructor
 ·rintro⟨h1,h2⟩
  refine⟨?_,h1⟩
  have:=kr (j8 h1 (ou b (a.fdiv b))) h2
  rw[e]at this
  exact this
 ·rintro⟨h1,h2⟩
  refine⟨h2,?_⟩
  have:=iz h1 (j8 h2 (ou b (a.fdiv b)))
  rw[show a-b*(a.fdiv b)=a.fmod b by omega]at this
  exact this
def fmod_less{a b:Int}(hb:b≠0):(a.fmod b).natAbs<b.natAbs:=by
 rcases Int.lt_or_gt_of_ne hb with h|h
 ·have e:a.fmod b = -((-a).fmod (-b)):=by rw[Int.neg_fmod_neg];omega
  have h1:=Int.fmod_nonneg_of_pos (-a) (show 0 < -b by omega)
  have h2:=Int.fmod_lt_of_pos (-a) (show 0 < -b by omega)
  omega
 ·have h1:=Int.fmod_nonneg_of_pos a h
  have h2:=Int.fmod_lt_of_pos a h
  omega
abbrev R3:=Int×Int×Int
def Ok(a:R3):Prop:=gu a.1 a.2.1 a.2.2
def joinR(a b:R3):R3:=(if b.1<a.1 then b.1 else a.1,if b.2.1 > a.2.1 then b.2.1 else a.2.1,g (g a.2.2 b.2.2) (a.1-b.1))
structure Sub (b a:R3):Prop where
 lo:a.1<=b.1
 hi:b.2.1<=a.2.1
 far:a.2.2 ∣ (b.1-a.1)
 st:a.2.2 ∣ b.2.2
def KQ(a b:R3):joinR a b=joinR b a:=by
 unfold joinR
 have h1:(if b.1<a.1 then b.1 else a.1)=(if a.1<b.1 then a.1 else b.1):=by split<;>split<;>omega
 have h2:(if b.2.1 > a.2.1 then b.2.1 else a.2.1)=(if a.2.1 > b.2.1 then a.2.1 else b.2.1):=by split<;>split<;>omega
 rw[h1,h2,GA a.2.2 b.2.2,show a.1-b.1 = -(b.1-a.1) by omega,Ft]
def C0{a b:R3}:Sub a (joinR a b):=by
 have h:=(g_dvd (d:=g (g a.2.2 b.2.2) (a.1-b.1))).mp (oy _)
 have h2:=g_dvd.mp h.1
 refine⟨?_,?_,?_,h2.1⟩
 ·show(if b.1<a.1 then b.1 else a.1)<=a.1
  split<;>omega
 ·show a.2.1<=(if b.2.1 > a.2.1 then b.2.1 else a.2.1)
  split<;>omega
 ·show g (g a.2.2 b.2.2) (a.1-b.1) ∣ (a.1-(if b.1<a.1 then b.1 else a.1))
  split
  ·exact h.2
  ·rw[ko];exact h9 _
def Mf{a b:R3}:Sub b (joinR a b):=by
 rw[KQ]
 exact C0
def KR{a b:R3}(ha:Ok a)(hb:Ok b){m M:Int}(hm:m∈[a.1,a.2.1,a.1+a.2.2,b.1,b.2.1,b.1+b.2.2])(hm':∀x∈[a.1,a.2.1,a.1+a.2.2,b.1,b.2.1,b.1+b.2.2],m<=x)
  (hM:M∈[a.1,a.2.1,a.1+a.2.2,b.1,b.2.1,b.1+b.2.2]) (hM':∀x∈[a.1,a.2.1,a.1+a.2.2,b.1,b.2.1,b.1+b.2.2],x<=M):
  (m,M,stepOf m [a.1,a.2.1,a.1+a.2.2,b.1,b.2.1,b.1+b.2.2])=joinR a b:=by
 have ta:=Bz ha
 have tb:=Bz hb
 have na:=ha.nn
 have nb:=hb.nn
 have e1:m=if b.1<a.1 then b.1 else a.1:=by
  have y1:=hm' a.1 (by simp)
  have y2:=hm' b.1 (by simp)
  simp only[List.mem_cons,List.not_mem_nil,or_false]at hm
  split<;>omega
 have e2:M=if b.2.1 > a.2.1 then b.2.1 else a.2.1:=by
  have y1:=hM' a.2.1 (by simp)
  have y2:=hM' b.2.1 (by simp)
  simp only[List.mem_cons,List.not_mem_nil,or_false]at hM
  split<;>omega
 have e3:=L8 ha hb
 rw[<-e1]at e3
 unfold joinR
 rw[e3,<-e1,<-e2]
end GcdM
namespace L2
open PySem PySem.Spec PyProof.Rows WordM
def stW_iff{x y:Str}:jf x y=true↔∃r,cs x=cs y++r:=by
 unfold jf
 rw[StrLaws.subAt_eq,kg,decide_eq_true_iff,m_,beq_iff_eq,WordM.len,WordM.len]
 constructor
 ·rintro⟨h1,h2⟩
  have h2:(cs x).take (cs y).length=cs y:=h2
  exact⟨(cs x).drop (cs y).length,(oz (cs y).length (cs x)).symm.trans (by rw[h2])⟩
 ·rintro⟨r,e⟩
  show _/\(cs x).take _=_
  rw[e]
  exact⟨by rw[b9];omega,by rw[List.take_left'];rfl⟩
def kI{x y:Str}{r:List Nat}(e:cs x=cs y++r):cs (aV x y)=r:=by
 have hl:x.length=(cs y).length+r.length:=by rw[WordM.len,e,b9]
 unfold aV
 rw[PyProof.Rows.slice_from_eq (b:=(x.length:Int)) (by omega) (by rw[hl,WordM.len];omega) rfl]
 show((cs x).drop _).take _=r
 rw[hl,WordM.len y,e,show(((cs y).length:Nat):Int).toNat=(cs y).length by omega,List.drop_left,mq]
 omega
def zX{x:Str}(h:0<x.length):cs (Txt.slice x none (some (-1)))=(cs x).take (x.length-1):=by
 have e:=beq_iff_eq.mp (PyProof.Rows.slice_closes_to_neg (x:=x) (j:=-1) (k:=-1+x.length) (by decide) (by omega) rfl)
 rw[e]
 show((cs x).drop 0).take _=_
 rw[m_]
 congr 1
 omega
def MZ{x:Str}(h:0<x.length):(Txt.slice x none (some (-1))).length=x.length-1:=by
 rw[WordM.len,zX h,jh,<-WordM.len];omega
def FA{a b:Str}(h:cs a<cs b):a≠b:=λe=>by rw[e]at h;exact qt _ h
def qU:∀{ys xs:List Str},iH xs->iH ys->(∀x∈xs,x∈ys)->xs.Sublist ys
 |[],xs,_,_,h=>by
  cases xs with
  |nil=>exact .slnil
  |cons x xs=>exact absurd (h x (.head _)) (by simp)
 |y::ys,[],_,_,_=>List.nil_sublist _
 |y::ys,x::xs,hx,hy,h=>by
  have hx':=List.pairwise_cons.mp hx
  have hy':=List.pairwise_cons.mp hy
  by_cases e:x=y
  ·subst e
   refine List.Sublist.cons_cons x (qU hx'.2 hy'.2 λz hz=>?_)
   rcases qx_.mp (h z (.tail _ hz)) with q|q
   ·exact absurd q.symm (FA (hx'.1 z hz))
   ·exact q
  ·have hxy:x∈ys:=(qx_.mp (h x (.head _))).resolve_left e
   have yx:cs y<cs x:=hy'.1 x hxy
   refine List.Sublist.cons y (qU hx hy'.2 λz hz=>?_)
   rcases qx_.mp (h z hz) with q|q
   ·subst q
    rcases qx_.mp hz with q|q
    ·exact absurd q.symm e
    ·exact absurd (List.lt_trans yx (hx'.1 z q)) (qt _)
   ·exact q
def IZ:iH MK:=by unfold iH;decide +kernel
def sort_set_mem{ss:List Str}{x:Str}:x∈aX (aH ss)↔x∈ss:=(eR _).mem_iff.trans (cP ss x)
def gB(ss:List Str):iH (aX (aH ss)):=B2 (cY ss)
end L2
namespace L2
open PySem PySem.Spec PyProof.Rows PySem.SeqAt
section
variable{X:Cx}{F:Fm}
def AQ(P:Program)(w:World)(K:W.Frag):List V->Hp->VK->Prop:=λxs H Q=>∃(p:Addr) (ss:List Str),xs=[.ref p]/\cu K H p (ss.map V.str)/\ss.length<4000/\∀a:Addr,H a=none->Q (.ref a) (ar H a (dP P w a (aH ss)))
end
section
variable{X:Cx}{F:Fm}
def LR{α β:Type}{R:α->β->Prop}{l:List α}{m:List β}(p:Paired R l m):Paired R l.reverse m.reverse:=by
 induction p with
 |nil=>exact .nil
 |cons r _ ih=>rw[kf,kf];exact Paired.snoc ih r
end
end L2
namespace L2
open PySem PySem.Spec PyProof.Rows WordM
section
variable{X:Cx}{F:Fm}{pos p:Pos}{e a b elt iter:Expr}{es ifs:List Expr}{x:Str}{u ua ub ue:UT}{ut:dq}{ui:d3}{tf:dg}{sc scope:Scope}{XN N:List Str}{fr:List Nat}
def aL{k m:Nat}{ps:List Str}{psp:bu}(G:ae X.prog X.w X.K X.mg X.base k x ps psp)(hr:bt m X.A)(ha:UA X F (e::es) ut)(hm:k<=m:=by omega)(hg:Gl X x:=by exact rfl)(hdb:(x==("__debug__":Str))=false:=by decide)
  (hst:dO e=false:=by rfl) (hpl:(backTo pos (starEach es X.env)).any (·.1)=false:=by rfl):UE X F (.Call (.Name x p) (e::es) [] pos) (kS psp ut):=GY G (hr.mono hm) hg ha hdb hst hpl
def aZ(i:Nat){pos':Pos}(hN:X.N.Nodup)(he:UE X F e u)(hi:X.N[i]?=some x:=by rfl)(hx:kh X.env.scope x:=by first|exact Or.inl rfl|exact Or.inr rfl)(hs:swapsWith e (some (.Name x pos')) pos.line X.env=pure false:=by rfl)(hf:X.fn x=true\/X.env.scope.names.lookup x=some .local:=by first|exact .inl rfl|exact .inr rfl|assumption):
  US X F (.Assign [.Name x pos'] e pos) (sQ i u):=Hi hN hi hx he hs hf
def gP(i:Nat){ul:d3}{pos':Pos}(hN:X.N.Nodup)(he:UL X F e ul)(hi:X.N[i]?=some x:=by rfl)(hx:kh X.env.scope x:=by first|exact Or.inl rfl|exact Or.inr rfl)(hs:swapsWith e (some (.Name x pos')) pos.line X.env=pure false:=by rfl)(hf:X.fn x=true\/X.env.scope.names.lookup x=some .local:=by first|exact .inl rfl|exact .inr rfl|assumption):
  US X F (.Assign [.Name x pos'] e pos) (sU i ul):=Hg hN hi hx he hs hf
def dF{op:CmpOp}{r:P2}(ho:cp X (compareOp op) r)(ha:UE X F a ua)(hb:UE X F b ub)(hm:behindInMarks op b=false:=by exact mE _):UB X F (.Compare a [op] [b] pos) (uB (jx r ua ub)):=wW ho ha hb hm
def gM{op:CmpOp}{r:P2}(ho:gA X (compareOp op) r)(ha:UE X F a ua)(hb:UE X F b ub)(hm:behindInMarks op b=false:=by exact mE _):UE X F (.Compare a [op] [b] pos) (jx r ua ub):=G9 ho ha hb hm
structure Cq (X:Cx) (sc scope:Scope) (XN N:List Str) (fr:List Nat) (x:Str) (iter:Expr):Prop where
 hc:X.calm=true:=by rfl
 k1:scope.kind=.function:=by rfl
 k2:∀y∈scope.names,y.2≠.cell:=by decide +kernel
 k3:∀y∈scope.names,y.2=.free->sc.names.lookup y.1=some .cell\/sc.names.lookup y.1=some .free:=by decide +kernel
 k4:∀y∈scope.names,y.2=.local->scope.names.lookup y.1=some .local:=by decide +kernel
 k5:N.drop 1=fr.filterMap λi=>XN[i]?:=by rfl
 k6:∀i∈fr,i<XN.length:=by decide +kernel
 k7:1<=N.length:=by decide
 k8:∀x∈N.drop 1,scope.names.lookup x=some .free:=by decide +kernel
 nd:fr.Nodup:=by decide
 nN:N.Nodup:=by decide +kernel
 h0:N[0]?=some x:=by rfl
 hl:∀cl C fp s H,kh (cJ X N scope cl C fp s H).env.scope x:=by intros;first|exact Or.inl rfl|exact Or.inr rfl
 hfn:∀cl C fp s H,(cJ X N scope cl C fp s H).fn x=true\/(cJ X N scope cl C fp s H).env.scope.names.lookup x=some .local:=by intros;first|exact .inl rfl|exact .inr rfl
 hs:∀x,foldedSetIterable iter X.env x=pure x:=by intro _;rfl
 hsc:X.env.scope=sc:=by rfl
 hxn:X.N=XN:=by rfl
section
variable{z:Str}{pos' spos:Pos}(i:Nat)(hN:X.N.Nodup)(hi:UI X F (.Name x p) iter ui)(hf:∀cl C fp s H,UF (cJ X N scope cl C fp s H) F ifs tf)(he:∀cl C fp s H,UE (cJ X N scope cl C fp s H) F elt ue)
include hi hf he
def oQ(c:Cq X sc scope XN N fr x iter:=by exact {}):UL X F (.ListComp elt [⟨.Name x p,iter,ifs,0⟩] scope pos) (kR 1 fr ui (gN 0) tf ue):=
 BC c.hc ⟨c.k1,c.k2,c.k3,c.k4,c.k5,c.k6,c.k7,c.k8⟩ c.nd hi (λcl C fp s H=>dI 0 (by decide) c.nN c.h0 (c.hl cl C fp s H) (c.hfn cl C fp s H)) hf he c.hs c.hsc c.hxn
include hN
def fH(c:Cq X sc scope XN N fr x iter:=by exact {})(hz:X.N[i]?=some z:=by rfl)(hzl:kh X.env.scope z:=by first|exact Or.inl rfl|exact Or.inr rfl)
  (hsw:swapsWith (.ListComp elt [⟨.Name x p,iter,ifs,0⟩] scope pos) (some (.Name z pos')) spos.line X.env=pure true:=by rfl)
  (hf':X.fn z=true\/X.env.scope.names.lookup z=some .local:=by first|exact .inl rfl|exact .inr rfl|assumption):US X F (.Assign [.Name z pos'] (.ListComp elt [⟨.Name x p,iter,ifs,0⟩] scope pos) spos) (sQ i (uL (kR 1 fr ui (gN 0) tf ue))):=
 Kx c.hc hN hz hzl ⟨c.k1,c.k2,c.k3,c.k4,c.k5,c.k6,c.k7,c.k8⟩ c.nd hi (λcl C fp s H=>dI 0 (by decide) c.nN c.h0 (c.hl cl C fp s H) (c.hfn cl C fp s H)) hf he hsw hf' c.hs c.hsc c.hxn
end
def eW(hi:UI X F (.Name x p) iter ui)(he:∀cl C fp s H,UE (cJ X N scope cl C fp s H) F elt ue)(c:Cq X sc scope XN N fr x iter:=by exact {}):UL X F (.ListComp elt [⟨.Name x p,iter,[],0⟩] scope pos) (kR 1 fr ui (gN 0) yj ue):=oQ hi (λ_ _ _ _ _=>hG) he c
def aU{m:Nat}(hr:bt m X.A)(ha:UE X F a ua)(hb:UE X F b ub)(hs:rN b:=by intro _ _;rfl):UE X F (.Subscript a b pos) (jx sd ua ub):=GZ (FN hr.units) ha hb hs
def cF{m:Nat}(hr:bt m X.A)(ha:UE X F a ua)(hb:UE X F b ub):UB X F (.Compare a [.Eq] [b] pos) (uB (jx wz ua ub)):=wW (kU hr.units) ha hb (mE _)
def fW{m:Nat}(hr:bt m X.A)(ha:UE X F a ua)(hb:UE X F b ub):UB X F (.Compare a [.NotEq] [b] pos) (uB (jx C7 ua ub)):=wW (ET hr.units) ha hb (mE _)
end
end L2
namespace L2
open PySem
namespace Lay
def xh(mask:Nat)(i:Nat):Nat:=(i*5+1) % (mask+1)
def w4(mask:Nat):Nat->Nat->Nat
 |0,i=>i
 |k+1,i=>w4 mask k (xh mask i)
def AX(mask:Nat):Bool:=(List.range (mask+1)).all λi=>(List.range (mask+1)).all λj=>(List.range (mask+1)).any λk=>w4 mask k i==j
def Cyc(mask:Nat):Prop:=∀i j,i<=mask->j<=mask->∃k,k<=mask/\w4 mask k i=j
def sA{mask:Nat}(h:AX mask=true):Cyc mask:=λi j hi hj=>by
 unfold AX at h
 have:=qM1_.mp (qM1_.mp h i (qt1_.mpr (by omega))) j (qt1_.mpr (by omega))
 obtain⟨k,hk,e⟩:=qL_.mp this
 exact⟨k,by have:=qt1_.mp hk;omega,by simpa using e⟩
def cyc7:Cyc 7:=sA (by decide +kernel)
def FV:Cyc 15:=sA (by decide +kernel)
def FW:Cyc 31:=sA (by decide +kernel)
def FX:Cyc 63:=sA (by decide +kernel)
def lp(mask:Nat):Nat->Nat×Nat->Nat×Nat
 |0,x=>x
 |k+1,x=>lp mask k (SetTable.leap mask x.1 x.2)
def Aw(mask:Nat):∀(a b:Nat) (x:Nat×Nat),lp mask (a+b) x=lp mask b (lp mask a x)
 |0,b,x=>by rw[Nat.zero_add];rfl
 |a+1,b,x=>by rw[Nat.succ_add];exact Aw mask a b _
def Ak(mask:Nat):∀(k:Nat) (x:Nat×Nat),(lp mask k x).2=x.2 / 32 ^ k
 |0,x=>by simp[lp]
 |k+1,x=>by
  show(lp mask k _).2=_
  rw[Ak mask k]
  show x.2 / 32 / 32 ^ k=_
  rw[Nat.div_div_eq_div_mul,m5,jj]
def yr(mask:Nat):∀(k:Nat) (x:Nat×Nat),x.1<=mask->(lp mask k x).1<=mask
 |0,x,h=>h
 |k+1,x,h=>yr mask k _ (Nat.le_of_lt_succ (pd _ (Nat.succ_pos mask)))
def BQ(mask:Nat):∀(k i:Nat),lp mask k (i,0)=(w4 mask k i,0)
 |0,i=>rfl
 |k+1,i=>by
  show lp mask k (SetTable.leap mask i 0)=_
  have:SetTable.leap mask i 0=(xh mask i,0):=by
   unfold SetTable.leap xh
   simp
  rw[this,BQ mask k]
  rfl
def Js(h:Int):SetTable.bits h<2 ^ 64:=by
 unfold SetTable.bits
 have:=i5 h (show(0:Int)<2 ^ 64 by decide)
 have:=i4 h (show(2 ^ 64:Int)≠0 by decide)
 omega
def nv{mask:Nat}(C:Cyc mask){i p j:Nat}(hi:i<=mask)(hp:p<2 ^ 64)(hj:j<=mask):∃n,n<SetTable.turns mask/\(lp mask n (i,p)).1=j:=by
 have e13:lp mask 13 (i,p)=((lp mask 13 (i,p)).1,0):=by
  have:(lp mask 13 (i,p)).2=0:=by
   rw[Ak]
   exact Nat.div_eq_of_lt (j5 hp (by decide))
  rw[<-this]
 obtain⟨k,hk,e⟩:=C (lp mask 13 (i,p)).1 j (yr mask 13 _ hi) hj
 refine⟨13+k,by unfold SetTable.turns;omega,?_⟩
 rw[Aw,e13,BQ]
 exact e
def CH{mask:Nat}(owner:Array (Option Nat)):∀(fuel i p:Nat),(∃n,n<fuel/\owner.getD (lp mask n (i,p)).1 (some 0)=none)->∃j,SetTable.layClean.free mask owner fuel i p=some j/\owner.getD j (some 0)=none
 |0,i,p,⟨n,h,_⟩=>absurd h (qq _)
 |fuel+1,i,p,⟨n,hn,h⟩=>by
  unfold SetTable.layClean.free
  cases e:(List.range (SetTable.runEnd mask i+1-i)).find? λk=>(owner.getD (i+k) (some 0)).isNone with
  |some k=>
   have:=qr e
   exact⟨i+k,rfl,by simpa using this⟩
  |none=>
   dsimp only
   cases n with
   |zero=>
    have:=qi3_.mp e 0 (qt1_.mpr (by unfold SetTable.runEnd;split<;>omega))
    have h:owner.getD i (some 0)=none:=h
    rw[Nat.add_zero,h]at this
    exact absurd rfl this
   |succ n=>exact CH owner fuel _ _ ⟨n,by omega,h⟩
def CY:∀(l:List (Option Nat)) (j k:Nat),l[j]?=some none->((l.set j (some k)).filterMap id).Perm (k::l.filterMap id)
 |[],j,k,h=>by simp at h
 |x::l,0,k,h=>by
  have:x=none:=by simpa using h
  subst this
  simp
 |x::l,j+1,k,h=>by
  have ih:=CY l j k (by simpa using h)
  rw[List.set_cons_succ]
  cases x with
  |none=>simpa using ih
  |some y=>
   simp only[List.filterMap_cons_some (f:=id) (a:=some y) rfl]
   exact(ih.cons y).trans (.swap _ _ _)
def BR:∀(l:List (Option Nat)),(l.filterMap id).length<l.length->∃j:Nat,l[j]?=some none
 |[],h=>by simp at h
 |none::l,h=>⟨0,rfl⟩
 |some y::l,h=>by
  obtain⟨j,hj⟩:=BR l (by simpa using h)
  exact⟨j+1,by simpa using hj⟩
structure Own (mask k:Nat) (owner:Array (Option Nat)):Prop where
 sz:owner.size=mask+1
 pm:(owner.toList.filterMap id).Perm (List.range k)
def JJ{mask:Nat}(C:Cyc mask){k:Nat}{owner:Array (Option Nat)}(O:Own mask k owner)(hk:k<=mask)(h:Int):∃j,SetTable.layClean.free mask owner (SetTable.turns mask) (SetTable.bits h % (mask+1)) (SetTable.bits h)=some j/\Own mask (k+1) (owner.setIfInBounds j (some k)):=by
 have len:owner.toList.length=mask+1:=by rw[d9,O.sz]
 obtain⟨j,hj⟩:=BR owner.toList (by rw[O.pm.length_eq,kx,len];omega)
 have gd:∀i,owner.getD i (some 0)=none↔owner.toList[i]?=some none:=λi=>by
  rw[tp,d7]
  cases owner[i]? with
  |none=>simp
  |some x=>simp
 have hjl:j<=mask:=by
  have:=(qy_.mp hj).1
  omega
 obtain⟨n,hn,en⟩:=nv C (i:=SetTable.bits h % (mask+1)) (p:=SetTable.bits h) (Nat.le_of_lt_succ (pd _ (Nat.succ_pos mask))) (Js h) hjl
 obtain⟨j',ej,hj'⟩:=CH owner (SetTable.turns mask) _ _ ⟨n,hn,by rw[en];exact(gd j).mpr hj⟩
 refine⟨j',ej,by rw[Array.size_setIfInBounds,O.sz],?_⟩
 rw[Array.toList_setIfInBounds]
 refine(CY _ _ _ ((gd j').mp hj')).trans ((O.pm.cons k).trans ?_)
 rw[List.range_succ]
 exact(List.perm_append_singleton k (List.range k)).symm
def Ba{mask:Nat}(C:Cyc mask):∀(hs:List Int) (k:Nat) (owner:Array (Option Nat)),Own mask k owner->k+hs.length<=mask+1->∃o',hs.foldl (init:=some (owner,k)) (λacc h=>do
  let (owner,k) <- acc
  let j <- SetTable.layClean.free mask owner (SetTable.turns mask) (SetTable.bits h % (mask+1)) (SetTable.bits h)
  pure (owner.setIfInBounds j (some k),k+1))=some (o',k+hs.length)/\Own mask (k+hs.length) o'
 |[],k,owner,O,_=>⟨owner,rfl,O⟩
 |h::hs,k,owner,O,hl=>by
  rw[ik]at hl
  obtain⟨j,ej,O'⟩:=JJ C O (by omega) h
  obtain⟨o',e,O2⟩:=Ba C hs (k+1) _ O' (by omega)
  refine⟨o',?_,by rw[ik,show k+(hs.length+1)=k+1+hs.length by omega];exact O2⟩
  rw[ia,ik,show k+(hs.length+1)=k+1+hs.length by omega,<-e]
  congr 1
  simp[ej]
def KY{mask:Nat}(C:Cyc mask)(hs:Array Int)(hl:hs.size<=mask):∃o,SetTable.layClean mask hs=some o/\Own mask hs.size o:=by
 have O:Own mask 0 (Array.replicate (mask+1) none):=⟨by simp,by
  have:∀n:Nat,(List.replicate n (none:Option Nat)).filterMap id=[]:=λn=>by
   induction n with
   |zero=>rfl
   |succ n ih=>rw[gh,il];exact ih
  rw[Array.toList_replicate,this]
  exact .refl _⟩
 obtain⟨o,e,O'⟩:=Ba C hs.toList 0 _ O (by rw[d9];omega)
 rw[Nat.zero_add,d9]at e O'
 refine⟨o,?_,O'⟩
 unfold SetTable.layClean
 rw[<-Array.foldl_toList,e]
 rfl
def JC(mask:Nat)(o:Array (Option Nat))(hz:o.size=mask+1):((List.range (mask+1)).filterMap λj=>(o.getD j none).map (j,·)).map (·.2)=o.toList.filterMap id:=by
 rw[List.map_filterMap]
 have e:o.toList=(List.range (mask+1)).map λj=>o.getD j none:=by
  apply o_
  intro i
  rw[e_]
  by_cases hi:i<mask+1
  ·rw[List.getElem?_range hi,d7,ja (by omega),Option.map_some]
   rw[tp,ja (by omega)]
   rfl
  ·rw[kc (by rw[d9];omega),kc (by rw[kx];omega)]
   rfl
 rw[e,mz]
 congr 1
 funext j
 simp only[Function.comp,id,Option.map_map]
 cases o.getD j none<;>rfl
def laid_ok{mask:Nat}(C:Cyc mask)(f mv:Nat)(ld pl:Bool)(hs:Array Int)(hl:hs.size<=mask):∃t order,SetTable.laid mask f mv ld pl hs=some (t,order)/\order.toList.Perm (List.range hs.size)/\t.fits hs.size=true/\t.mask=mask/\t.dummies=#[]/\t.led=ld/\t.plain=pl:=by
 obtain⟨o,e,O⟩:=KY C hs hl
 unfold SetTable.laid
 rw[e]
 have p:(((List.range (mask+1)).filterMap λj=>(o.getD j none).map (j,·)).map (·.2)).Perm (List.range hs.size):=by rw[JC mask o O.sz];exact O.pm
 have ln:((List.range (mask+1)).filterMap λj=>(o.getD j none).map (j,·)).length=hs.size:=by
  have:=p.length_eq
  rwa[ao,kx]at this
 refine⟨_,_,rfl,by rw[List.toList_toArray];exact p,?_,rfl,rfl,rfl,rfl⟩
 unfold SetTable.fits SetTable.fill
 simp only[List.size_toArray,List.length_map,ln]
 simp[hl]
def order_perm{α:Type}(es:Array α){order:Array Nat}(h:order.toList.Perm (List.range es.size)):(order.filterMap (es[·]?)).toList.Perm es.toList:=by
 rw[Array.toList_filterMap]
 refine(h.filterMap _).trans ?_
 have:(List.range es.size).filterMap (es[·]?)=es.toList:=by
  have e:es.toList=(List.range es.size).filterMap λi=>es.toList[i]?:=by
   have:∀l:List α,(List.range l.length).filterMap (λi=>l[i]?)=l:=by
    intro l
    induction l with
    |nil=>rfl
    |cons x l ih=>
     rw[ik,mn,il,mz]
     simp only[List.getElem?_cons_zero]
     congr 1
   have:=this es.toList
   rw[d9]at this
   exact this.symm
  rw[e]
  congr 1
  funext i
  rw[d7]
 rw[this]
def above(n:Nat)(h:n<64):Cyc (SetTable.sizeAbove n-1)/\n<SetTable.sizeAbove n/\SetTable.sizeAbove n<=64:=by
 have:∀n<64,(SetTable.sizeAbove n=8\/SetTable.sizeAbove n=16\/SetTable.sizeAbove n=32\/SetTable.sizeAbove n=64)/\n<SetTable.sizeAbove n:=by decide +kernel
 obtain⟨h1,h2⟩:=this n h
 refine⟨?_,h2,by omega⟩
 rcases h1 with e|e|e|e<;>rw[e]
 ·exact cyc7
 ·exact FV
 ·exact FW
 ·exact FX
end Lay
end L2
namespace L2
open PySem PySem.Spec PyProof.Rows
section
variable{prog:Program}{w:World}{A:Around}{E:Value->Shared->Prop}{s:Shared}{a:Addr}{us:List Str}
def sE(es:Array (Int×Value))(laid:Option (SetTable×Array Nat)):Sem (Array (Int×Value)×SetTable):=do
 let some (t,order):=laid|unsupported "internal:set-table-without-room"
 let es':=order.filterMap (es[·]?)
 if es'.size != es.size then unsupported "internal:set-table-lost-an-element"
 pure (es',t)
def Cv{es:Array (Int×Value)}{t':SetTable}{order:Array Nat}{Q:Array (Int×Value)×SetTable->Shared->Prop}(pm:order.toList.Perm (List.range es.size))
  (h:∀es':Array (Int×Value),es'.toList.Perm es.toList->Q (es',t') s):wpAny (model prog w) A (sE es (some (t',order))) Q E s:=by
 have p:=Lay.order_perm es pm
 have sz:(order.filterMap (es[·]?)).size=es.size:=by have:=p.length_eq;rwa[d9,d9]at this
 unfold sE
 dsimp only
 rw[if_neg (by rw[sz];simp)]
 exact af (ah (ah (h _ p)))
def cn.perm{es es':Array (Int×Value)}{t t':SetTable}(T:cn prog w us es t)(p:es'.toList.Perm es.toList)(ft:t'.fits es'.size=true)(pl:t'.plain=t.plain)(ld:t'.led=t.led):cn prog w us es' t':=by
 obtain⟨vs,hv,pv⟩:=T.tx
 obtain⟨vs',hv',pv'⟩:=lN (p.map (·.2)) hv
 have sz:es'.size=es.size:=by have:=p.length_eq;simpa using this
 exact⟨T.el.perm p,⟨vs',hv',pv'.trans pv⟩,T.nd,by rw[sz];exact T.lt,ft,by rw[sz,pl];exact T.pl,by rw[ld];exact T.ld⟩
def i9(prog:Program)(w:World)(a:Addr)(us:List Str)(h:Heap):Prop:=∃es ep t,h.get? a=some (bK es ep t)/\cn prog w us es t/\(us=[]->t.mask=7)
def i9.sets{h:Heap}:i9 prog w a us h->az prog w a us h:=λ⟨es,ep,t,ho,T,_⟩=>⟨es,ep,t,ho,T⟩
def BL{k:Nat}{Q:Unit->Shared->Prop}(S:i9 prog w a us s.heap)(hk:us.length+k<32)
  (h:∀h' es ep t,Heap.SameBut a s.heap h'->h'.get? a=some (bK es ep t)->cn prog w us es t->(us=[]->Lay.Cyc t.mask/\k<=t.mask)->Q () {s with heap:=h'}):wpAny (model prog w) A (setRoomFor a k) Q E s:=by
 obtain⟨es,ep,t,ho,T,hm⟩:=S
 unfold setRoomFor
 refine af (d5 ho rfl T.fit ?_)
 dsimp only
 have fz:t.place.size=us.length:=by
  have:=T.fit
  simp only[SetTable.fits,Bool.and_eq_true,beq_iff_eq]at this
  rw[this.1,T.size]
 cases e:t.roomFor k with
 |none=>
  dsimp only
  have es':s={s with heap:=s.heap}:=by cases s;rfl
  rw[es']
  refine ah (h _ es ep t (Heap.SameBut.refl a s.heap) ho T λz=>?_)
  have hm:=hm z
  unfold SetTable.roomFor at e
  split at e
  ·cases e
  ·rename_i z2
   rw[hm]
   refine⟨Lay.cyc7,?_⟩
   unfold SetTable.fill at z2
   rw[hm]at z2
   omega
 |some wanted=>
  dsimp only
  have ew:wanted=(us.length+k)*2:=by
   unfold SetTable.roomFor at e
   split at e
   ·injection e with e;rw[<-e,fz]
   ·cases e
  obtain⟨C,lt,le⟩:=Lay.above wanted (by omega)
  have hz:(es.map (·.1)).size=us.length:=by rw[oq,T.size]
  obtain⟨t',order,e,pm,ft,mk,_,ld,pl⟩:=Lay.laid_ok C t.finger (t.movedTo (SetTable.sizeAbove wanted-1)) t.led t.plain (es.map (·.1)) (by omega)
  rw[oq]at pm ft
  unfold setRelay
  refine af (d5 ho rfl T.fit ?_)
  dsimp only
  rw[if_neg (by rw[sizeLine_eq];omega)]
  unfold SetTable.relaid
  rw[e]
  refine af (m:=sE es (some (t',order))) (Cv pm λes' p=>?_)
  have sz:es'.size=es.size:=by have:=p.length_eq;simpa using this
  have T':cn prog w us es' t':=T.perm p (by rw[sz];exact ft) pl ld
  refine wpAny_storeSet_of ho rfl (h _ es' (ep+1) t' (Heap.SameBut.update s.heap a _) (j4 (Obj.putSet es' t') ho rfl) T' λz=>?_) (fits_of_scanBound T'.lt)
  rw[mk]
  exact⟨C,by omega⟩
def J9{es:Array (Int×Value)}{ep:Nat}{t:SetTable}{Q:Array (Int×Value)->Shared->Prop}(ho:s.heap.get? a=some (bK es ep t))(T:cn prog w us es t)
  (h:∀(out:Array (Int×Value)) d,out.toList.Perm es.toList->Q out {s with drawn:=d}):wpAny (model prog w) A (setWalk a) Q E s:=by
 have es':s={s with drawn:=s.drawn}:=by cases s;rfl
 unfold setWalk
 refine af (d5 ho rfl T.fit ?_)
 dsimp only
 refine af (dR ?_)
 cases hb:bp w with
 |true=>
  rw[if_pos rfl]
  refine af (wpAny_askSetting (ah ?_))
  rw[es']
  exact h _ _ (jQ _ _)
 |false=>
  rw[if_neg cb]
  split
  ·refine af (tW _ _ _ (by simp) λys d p=>ah ?_)
   exact h _ d (by rw[List.toList_toArray];exact p)
  ·have hl:t.led=true:=by rw[T.ld,hb];rfl
   have:(!t.led&&decide (es.size > 1))=false:=by rw[hl];rfl
   refine af (m:=(if (!t.led&&decide (es.size > 1))=true then unsupported "set:maker-not-led" else pure PUnit.unit)) ?_
   rw[this,if_neg cb]
   refine ah (ah ?_)
   rw[es']
   exact h _ _ (.refl _)
def Ll{o:Addr}{vs:List Str}{Q:Bool->Shared->Prop}(S:az prog w a us s.heap)(O:az prog w o vs s.heap)(h:Q true s):wpAny (model prog w) A (setsQuiet [o,a]) Q E s:=by
 unfold setsQuiet
 refine af (wpAny_forIn_list _ (λl b s'=>b.1=none/\s'=s/\∀x∈l,x=o\/x=a) _ ?_ ?_ _ _ ⟨rfl,rfl,λx hx=>by simpa using hx⟩)
 ·rintro x rest b s' ⟨hb,rfl,hx⟩
  obtain⟨us',es,ep,t,ho,T⟩:∃us',az prog w x us' s'.heap:=by
   rcases hx x (.head _) with rfl|rfl
   ·exact⟨_,O⟩
   ·exact⟨_,S⟩
  refine af (nE ho T.fit ?_)
  refine af (PySem.MeetsSeq2.wpAny_forIn_array _ (λl b s''=>b.1=none/\s''=s'/\∀e∈l,e∈es.toList) _ ?_ ?_ _ _ ⟨rfl,rfl,λe he=>he⟩)
  ·rintro⟨hh,v⟩ rest' b' s'' ⟨hb',rfl,he⟩
   obtain⟨⟨k,hk,_⟩,_⟩:=T.el (hh,v) (he _ (.head _))
   obtain⟨tk,ev⟩:=Value.isStrOf_shape (show Value.isStrOf k v=true from hk)
   subst ev
   exact ah ⟨rfl,rfl,λe h=>he e (.tail _ h)⟩
  ·rintro b' s'' ⟨hb',rfl,_⟩
   dsimp only
   rw[hb']
   exact ah ⟨rfl,rfl,λx h=>hx x (.tail _ h)⟩
 ·rintro b s' ⟨hb,rfl,_⟩
  dsimp only
  rw[hb]
  exact ah h
theorem Lm{o:Addr}{vs:List Str}{es:Array (Int×Value)}{ep:Nat}{t:SetTable}{Q:Array (Int×Value)->Shared->Prop}(S:az prog w a us s.heap)(ho:s.heap.get? o=some (bK es ep t))(T:cn prog w vs es t)
  (h:∀(out:Array (Int×Value)) h' d,out.toList.Perm es.toList->Heap.SameBut a s.heap h'->az prog w a us h'->Q out {s with heap:=h',drawn:=d}):wpAny (model prog w) A (setWalkUnseen o [a] (some a)) Q E s:=by
 have wk:wpAny (model prog w) A (setWalk o) Q E s:=J9 ho T λout d p=>h out s.heap d p (Heap.SameBut.refl a s.heap) S
 unfold setWalkUnseen
 refine af (d5 ho rfl T.fit ?_)
 dsimp only
 refine af (dR ?_)
 split
 ·exact wk
 ·rename_i z
  have hsz:1<es.size:=by
   apply Nat.lt_of_not_le
   intro z2
   apply z
   rw[i_ z2,Bool.or_true]
  have hp:t.plain=false:=T.pl.resolve_left (by omega)
  refine af (Ll S ⟨es,ep,t,ho,T⟩ ?_)
  rw[if_neg (by simp)]
  obtain⟨ef,epf,tf,hf,F⟩:=id S
  refine af (wpAny_rule ?_)
  refine af (d5 hf rfl F.fit ?_)
  dsimp only
  split
  ·have F':cn prog w us ef {tf with led:=tf.led&&t.led,plain:=tf.plain&&t.plain}:=⟨F.el,F.tx,F.nd,F.lt,F.fit,.inr (by show(tf.plain&&t.plain)=false;rw[hp,m8]),by show(tf.led&&t.led)=_;rw[F.ld,T.ld,Bool.and_self]⟩
   refine af (wpAny_storeSet_of hf rfl ?_ (fits_of_scanBound F.lt))
   have e:∀hp':Heap,({s with heap:=hp'}:Shared)={s with heap:=hp',drawn:=s.drawn}:=λ_=>rfl
   rw[e]
   exact ah (h _ _ _ (.refl _) (Heap.SameBut.update s.heap a _) ⟨ef,epf+1,_,j4 (Obj.putSet ef _) hf rfl,F'⟩)
  ·have e:s={s with heap:=s.heap,drawn:=s.drawn}:=by cases s;rfl
   rw[e]
   exact ah (h _ _ _ (.refl _) (Heap.SameBut.refl a s.heap) S)
def az.same{h:Heap}{us':List Str}(S:az prog w a us h)(n:us'.Nodup)(e:∀x,x∈us↔x∈us'):az prog w a us' h:=by
 obtain⟨es,ep,t,ho,T⟩:=S
 obtain⟨vs,hv,pv⟩:=T.tx
 exact⟨es,ep,t,ho,T.el,⟨vs,hv,pv.trans ((j7 T.nd n).mpr e)⟩,n,T.lt,T.fit,T.pl,T.ld⟩
def Cu{o:Addr}{vs:List Str}{each:Sem Unit}{Q:Unit->Shared->Prop}(ne:a≠o)(S:i9 prog w a us s.heap)(O:az prog w o vs s.heap)(hl:us.length+vs.length<32)
  (he:∀(s':Shared) (Q':Unit->Shared->Prop),s'.heap.get? o=s.heap.get? o->Q' () s'->wpAny (model prog w) A each Q' E s')
  (h:∀h' d,Heap.SameBut a s.heap h'->i9 prog w a (aH (us++vs)) h'->Q () {s with heap:=h',drawn:=d}):wpAny (model prog w) A (setMerge a o each) Q E s:=by
 obtain⟨es,ep,t,ho,T⟩:=id O
 have e0:∀s:Shared,s={s with heap:=s.heap,drawn:=s.drawn}:=λs=>by cases s;rfl
 unfold setMerge
 rw[if_neg (by simpa using ne)]
 refine af (d5 ho rfl T.fit ?_)
 dsimp only
 by_cases z0:es.size=0
 ·rw[if_pos (by simpa[Array.isEmpty_iff_size_eq_zero]using z0)]
  have ev:vs=[]:=jk (by rw[<-T.size];exact z0)
  subst ev
  rw[e0 s]
  refine ah (h _ _ (Heap.SameBut.refl a s.heap) ?_)
  obtain⟨es1,ep1,t1,h1,T1,m1⟩:=S
  have en:∀x,x∈us↔x∈aH (us++[]):=λx=>by rw[cP,jb]
  obtain⟨vs1,hv1,pv1⟩:=T1.tx
  refine⟨es1,ep1,t1,h1,⟨T1.el,⟨vs1,hv1,pv1.trans ((j7 T1.nd (cY _)).mpr en)⟩,cY _,T1.lt,T1.fit,T1.pl,T1.ld⟩,λz=>m1 ?_⟩
  refine qb2_.mpr λx hx=>?_
  have:=(en x).mp hx
  rw[z]at this
  exact nomatch this
 rw[if_neg (by simpa[Array.isEmpty_iff_size_eq_zero]using z0)]
 have hp:t.plain=false:=T.pl.resolve_left z0
 have hv0:vs≠[]:=λz=>z0 (by rw[T.size,z];rfl)
 have nn:aH (us++vs)≠[]:=λz=>by
  obtain⟨x,hx⟩:=ix _ hv0
  have:=(cP (us++vs) x).mpr (d8 _ hx)
  rw[z]at this
  exact nomatch this
 have full:∀h',az prog w a (aH (us++vs)) h'->i9 prog w a (aH (us++vs)) h':=λh' ⟨es,ep,t,ho,T⟩=>⟨es,ep,t,ho,T,λz=>absurd z nn⟩
 refine af (BL S (by rw[T.size];exact hl) λh1 es1 ep1 t1 b1 g1 T1 m1=>?_)
 have ho1:h1.get? o=some (bK es ep t):=by rw[b1.2 o (Ne.symm ne)];exact ho
 refine af (d5 (s:={s with heap:=h1}) g1 rfl T1.fit ?_)
 dsimp only
 have fz:t1.place.size=us.length:=by
  have:=T1.fit
  simp only[SetTable.fits,Bool.and_eq_true,beq_iff_eq]at this
  rw[this.1,T1.size]
 have nil:t1.fill=0->us=[]:=λz=>jk (by unfold SetTable.fill at z;omega)
 cases er:t1.road t with
 |slotForSlot=>
  dsimp only
  have f0:t1.fill=0:=by
   unfold SetTable.road at er
   split at er
   ·cases er
   ·rename_i q;simpa using q
  have eu:=nil f0
  subst eu
  have T2:cn prog w (aH ([]++vs)) es {t with finger:=t1.finger,led:=t1.led&&t.led,moves:=t1.moves,plain:=t1.plain&&t.plain}:=by
   obtain⟨vs1,hv1,pv1⟩:=T.tx
   exact⟨T.el,⟨vs1,hv1,pv1.trans ((j7 T.nd (cY _)).mpr λx=>by rw[cP,fe])⟩,cY _,T.lt,T.fit,.inr (by show(t1.plain&&t.plain)=false;rw[hp,m8]),by show(t1.led&&t.led)=_;rw[T1.ld,T.ld,Bool.and_self]⟩
  refine wpAny_storeSet_of g1 rfl ?_ (fits_of_scanBound T.lt)
  exact h _ s.drawn (b1.trans (Heap.SameBut.update h1 a _)) (full _ ⟨es,ep1+1,_,j4 (Obj.putSet es _) g1 rfl,T2⟩)
 |clean=>
  dsimp only
  have f0:t1.fill=0:=by
   unfold SetTable.road at er
   split at er
   ·cases er
   ·rename_i q;simpa using q
  have eu:=nil f0
  subst eu
  obtain⟨C,hk⟩:=m1 rfl
  obtain⟨t',order,e,pm,ft,mk,_,ld,pl⟩:=Lay.laid_ok C t1.finger t1.moves (t1.led&&t.led) (t1.plain&&t.plain) (es.map (·.1)) (by rw[oq];exact hk)
  rw[oq]at pm ft
  rw[e]
  refine af (m:=sE es (some (t',order))) (Cv pm λes' p=>?_)
  have sz:es'.size=es.size:=by have:=p.length_eq;simpa using this
  have T2:cn prog w (aH ([]++vs)) es' t':=by
   obtain⟨vs1,hv1,pv1⟩:=T.tx
   obtain⟨vs',hv',pv'⟩:=lN (p.map (·.2)) hv1
   exact⟨T.el.perm p,⟨vs',hv',(pv'.trans pv1).trans ((j7 T.nd (cY _)).mpr λx=>by rw[cP,fe])⟩,cY _,by rw[sz];exact T.lt,by rw[sz];exact ft,.inr (by rw[pl,hp,m8]),by rw[ld,T1.ld,T.ld,Bool.and_self]⟩
  refine wpAny_storeSet_of g1 rfl ?_ (fits_of_scanBound T2.lt)
  exact h _ s.drawn (b1.trans (Heap.SameBut.update h1 a _)) (full _ ⟨es',ep1+1,_,j4 (Obj.putSet es' _) g1 rfl,T2⟩)
 |oneByOne=>
  dsimp only
  refine af (Lm (s:={s with heap:=h1}) ⟨es1,ep1,t1,g1,T1⟩ ho1 T λout h2 d p b2 S2=>?_)
  have ho2:h2.get? o=some (bK es ep t):=by rw[b2.2 o (Ne.symm ne)];exact ho1
  have b12:=b1.trans b2
  refine af (PySem.MeetsSeq2.wpAny_forIn_array _ (λl _ s'=>∃(us':List Str) (h':Heap),s'={s with heap:=h',drawn:=d}/\Heap.SameBut a s.heap h'/\az prog w a us' h'/\(∀e∈l,e∈es.toList)/\us'.length+l.length<32/\∀y,(y∈us'\/∃e∈l,(PySem.strKind prog w).is y e.2=true)↔(y∈us\/y∈vs)) _ ?_ ?_ _ _ ?_)
  ·rintro⟨hh,v⟩ rest b s' ⟨us',h',rfl,b',S',hm,hlen,hy⟩
   obtain⟨⟨k,hk,eh⟩,_⟩:=T.el (hh,v) (hm _ (.head _))
   obtain⟨tk,ev⟩:=Value.isStrOf_shape (show Value.isStrOf k v=true from hk)
   subst ev
   have eh:hh=(PySem.strKind prog w).hash k:=eh
   subst eh
   rw[ik]at hlen
   have hb4:scanBound=4096:=rfl
   refine af (gb (vV (s:={s with heap:=h',drawn:=d}) S' (by omega) λbb h3 b3 S3=>?_))
   have b13:=b'.trans b3
   have ho3:h3.get? o=some (bK es ep t):=by rw[b13.2 o (Ne.symm ne)];exact ho
   refine af (he _ _ (by show h3.get? o=s.heap.get? o;rw[ho3,ho]) ?_)
   refine af (d5 (s:={s with heap:=h3,drawn:=d}) ho3 rfl T.fit ?_)
   rw[if_neg (by simp)]
   refine ah ⟨cU us' k,h3,rfl,b13,S3,λe q=>hm e (.tail _ q),?_,λy=>?_⟩
   ·have:(cU us' k).length<=us'.length+1:=by
     unfold cU
     split
     ·omega
     ·rw[b9];exact ba _
    omega
   ·rw[BH,<-hy y]
    have isk:(PySem.strKind prog w).is y (.str k tk)=true↔y=k:=⟨λq=>by
     obtain⟨u,q⟩:=Value.isStrOf_shape (show Value.isStrOf y (.str k tk)=true from q)
     injection q with q1 q2
     exact q1.symm,λq=>by subst q;exact hk⟩
    constructor
    ·rintro ((q|q)|⟨e,q1,q2⟩)
     ·exact .inl q
     ·exact .inr ⟨_,.head _,isk.mpr q⟩
     ·exact .inr ⟨e,.tail _ q1,q2⟩
    ·rintro (q|⟨e,q1,q2⟩)
     ·exact .inl (.inl q)
     ·rcases qx_.mp q1 with rfl|q1
      ·exact .inl (.inr (isk.mp q2))
      ·exact .inr ⟨e,q1,q2⟩
  ·rintro b s' ⟨us',h',rfl,b',S',_,_,hy⟩
   refine ah (h h' d b' (full _ (S'.same (cY _) λx=>?_)))
   rw[cP,qp_,<-hy x]
   exact⟨.inl,λq=>q.elim id λ⟨_,q,_⟩=>nomatch q⟩
  ·refine⟨us,h2,rfl,b12,S2,λe q=>p.mem_iff.mp q,?_,λy=>?_⟩
   ·have h1:=p.length_eq
    have h2:es.toList.length=vs.length:=by rw[d9,T.size]
    omega
   ·rw[T.mem y]
    exact⟨λq=>q.imp id λ⟨e,q1,q2⟩=>⟨e,p.mem_iff.mp q1,q2⟩,λq=>q.imp id λ⟨e,q1,q2⟩=>⟨e,p.mem_iff.mpr q1,q2⟩⟩
end
def yn:entryFor table "set.__or__"=some Builtin.«frozenset.__or__»:=entryFor_alias (id':="frozenset.__or__") (by kernel_rfl) rfl (by decide +kernel) (by kernel_rfl)
section
variable{prog:Program}{w:World}{A:Around}{E:Value->Shared->Prop}{s:Shared}{a:Addr}{us:List Str}
open PySem.Builtin.Frozenset in
def oD(id:String)(l:Addr)(r:Value):Sem Value:=do
 let result <- copyOf l
 if r != .ref l then holding [result] (updateFrom id (<- addrOf result) r)
 return result
open PySem.Builtin.Frozenset in
def NC(args:Args):Sem Fin:=do
 let (self,other) <- slot1 "__or__" args
 let (l,r):=if false then(other,self) else(self,other)
 if !(<- isAnySet l <&&> isAnySet r) then rule s!"frozenset.{"__or__"}.declined";return <- ret .notImplemented
 ret (<- oD s!"frozenset.{"__or__"}" (<- addrOf l) r)
def yt:Builtin.«frozenset.__or__»=NC:=rfl
def lJ{Q:Bool->Shared->Prop}(ht:s.TypeIs (.ref a) "set")(h:Q true s):wpAny (model prog w) A (Builtin.Frozenset.isAnySet (.ref a)) Q E s:=by
 unfold Builtin.Frozenset.isAnySet
 refine af (wpAny_isInstance (T:="set") (b:=true) ht oE ?_)
 exact ah h
def az.ty{h:Heap}(S:az prog w a us s.heap):s.TypeIs (.ref a) "set":=by
 obtain⟨es,ep,t,ho,T⟩:=S
 exact⟨_,ho,rfl⟩
def J6{Q:Value->Shared->Prop}(S:az prog w a us s.heap)(hl:us.length<32)
  (h:∀h' d,i9 prog w s.heap.objs.size (aH us) h'->s.heap.objs.size<h'.objs.size->(∀b o,b<s.heap.objs.size->s.heap.get? b=some o->h'.get? b=some o)->Q (.ref s.heap.objs.size) {s with heap:=h',drawn:=d}):
  wpAny (model prog w) A (Builtin.Frozenset.copyOf a) Q E s:=by
 have ht:s.TypeIs (.ref a) "set":=az.ty (h:=s.heap) S
 obtain⟨es,ep,t,ho,T⟩:=id S
 have la:a<s.heap.objs.size:=bo ho
 unfold Builtin.Frozenset.copyOf Builtin.Frozenset.baseOf newSet
 refine af (af (wpAny_isInstance (T:="set") (b:=true) ht oE (ah ?_)))
 rw[if_pos rfl]
 refine af (af (dR ?_))
 dsimp only
 refine jg ?_ (by size_fits)
 refine af (ah ?_)
 have g0:(s.heap.push (bK #[] 0 (.fresh 0 0 (!bp w)))).get? s.heap.objs.size=some (bK #[] 0 (.fresh 0 0 (!bp w))):=b6 _ rfl
 have F0:i9 prog w s.heap.objs.size [] (s.heap.push (bK #[] 0 (.fresh 0 0 (!bp w)))):=⟨#[],0,.fresh 0 0 (!bp w),g0,⟨λe he=>by simp at he,⟨[],.nil,.refl _⟩,ka,by decide,by simp[SetTable.fits,SetTable.fresh,SetTable.fill],.inl rfl,rfl⟩,λ_=>rfl⟩
 have S1:az prog w a us (s.heap.push (bK #[] 0 (.fresh 0 0 (!bp w)))):=⟨es,ep,t,ay _ ho,T⟩
 refine af (Cu (s:={s with heap:=s.heap.push (bK #[] 0 (.fresh 0 0 (!bp w)))}) (gj la) F0 S1 (by simpa using hl) (λs' Q' _ q=>ah q) λh' d b F=>?_)
 rw[fe]at F
 refine ah (h h' d F (by rw[b.1,fm];omega) λx o hx e=>?_)
 rw[b.2 x (cq hx)]
 exact ay _ e
theorem Gu{o:Addr}{vs:List Str}{Q:Value->Shared->Prop}(ne:o≠a)(S:az prog w a us s.heap)(O:az prog w o vs s.heap)(hl:us.length+vs.length<32)
  (h:∀h' d,az prog w s.heap.objs.size (aH (us++vs)) h'->(∀b o,b<s.heap.objs.size->s.heap.get? b=some o->h'.get? b=some o)->Q (.ref s.heap.objs.size) {s with heap:=h',drawn:=d}):
  wpAny (model prog w) A (binaryOp .BitOr (.ref a) (.ref o)) Q E s:=by
 have ht:s.TypeIs (.ref a) "set":=az.ty (h:=s.heap) S
 have ht2:s.TypeIs (.ref o) "set":=az.ty (h:=s.heap) O
 obtain⟨es,ep,t,ho,T⟩:=id O
 refine wpAny_binaryOp_same (op:=.BitOr) (T:="set") ht ht2 F.fills_set_or F.slot_set_or (ig F.slot_set_or ht yn ?_ (F.args_set_or_2 _ _))
 rw[yt]
 show wpAny _ _ (do
  if !(<- Builtin.Frozenset.isAnySet (.ref a) <&&> Builtin.Frozenset.isAnySet (.ref o)) then rule s!"frozenset.{"__or__"}.declined";return <- ret .notImplemented
  ret (<- oD s!"frozenset.{"__or__"}" (<- Builtin.Frozenset.addrOf (.ref a)) (.ref o))) _ _ _
 refine af (af (lJ ht ?_))
 refine lJ ht2 ?_
 rw[if_neg (by simp)]
 refine af (ah ?_)
 have lo:o<s.heap.objs.size:=bo ho
 unfold oD
 refine af (af (J6 S (by omega) λh1 d1 F1 z1 k1=>?_))
 rw[if_pos (by simpa using ne)]
 have ho1:h1.get? o=some (bK es ep t):=k1 o _ lo ho
 have ht3:Shared.TypeIs {s with heap:=h1,drawn:=d1} (.ref o) "set":=⟨_,ho1,rfl⟩
 unfold Builtin.Frozenset.updateFrom
 refine af (ah (af (gb (af (lJ ht3 ?_)))))
 rw[if_pos rfl]
 refine af (ah ?_)
 unfold Builtin.Frozenset.merge
 refine af (wpAny_setEpoch_of (s:={s with heap:=h1,drawn:=d1}) ho1 rfl T.fit ?_)
 have ln:(aH us).length<=us.length:=by
  have:∀(l m:List Str),(l.foldl cU m).length<=m.length+l.length:=by
   intro l
   induction l with
   |nil=>exact λm=>ba _
   |cons x l ih=>
    intro m
    rw[ia,ik]
    refine bx (ih _) ?_
    unfold cU
    split
    ·omega
    ·rw[b9,ke];omega
  have:=this us []
  simpa[aH]using this
 refine Cu (s:={s with heap:=h1,drawn:=d1}) (gj lo) F1 ⟨es,ep,t,ho1,T⟩ (by omega) (λs' Q' e q=>?_) λh2 d2 b2 F2=>?_
 ·unfold Builtin.Frozenset.unchanged
  refine af (wpAny_setEpoch_of (s:=s') (by rw[e];exact ho1) rfl T.fit ?_)
  rw[if_neg (by simp)]
  exact ah q
 ·refine ah ?_
  refine ah ⟨_,rfl,by simp,h h2 d2 (F2.sets.same (cY _) λx=>?_) λb o' hb e=>?_⟩
  ·rw[cP,cP,qp_,qp_,cP]
  ·rw[b2.2 b (cq hb)]
   exact k1 b o' hb e
end
section
variable{prog:Program}{w:World}{A:Around}{E:Value->Shared->Prop}{s:Shared}
abbrev dB(w:World):Obj:=bK #[] 0 (.fresh 0 0 (!bp w))
theorem BM{x:Value}{P:Shared->Prop}{Q:Value->Shared->Prop}(hq:∀s',P s'->Q (.ref s.heap.objs.size) s')
  (hb:wpAny (model prog w) A.in1.in1 (Builtin.«set.__init__» ⟨[.ref s.heap.objs.size]++[x],[]⟩) (λr s'=>r=.done (.ret .none)/\P s') E {s with heap:=s.heap.push (dB w)}):
  wpAny (model prog w) A (call (.type "set") [x]) Q E s:=by
 obtain⟨c,tl,hmro⟩:=F.called_set.mro
 have hmade:=F.called_set.made
 have hsub:=F.called_set.sub
 refine wpAny_call (codeAny_of_tree ?_)
 show wpAny _ _ (callAny (.type "set") _) _ _ _
 refine ah ⟨Code.quiet_builtin _ (by decide +kernel),jz F.entry_type_call ?_⟩
 rw[Around.under_plain (weight_type_call_type "set" [x] []) rfl]
 have h1:=F.called_set.notType
 have h2:=F.called_set.canCreate
 have hct:=F.typeCall_set_1 x
 repeat (any_goals (first|assumption|wp_step))
 refine codeAny_mono (uA x (E:=E) (Q₁:=λobj s₁=>obj=.ref s.heap.objs.size/\s₁={s with heap:=s.heap.push (dB w)}) ⟨rfl,rfl⟩) λr s₁ hr=>?_
 cases r with
 |error e=>exact hr
 |ok fl=>
  cases fl with
  |ret obj=>
   obtain⟨rfl,rfl⟩:=hr
   have hS:(s.heap.push (dB w)).get? s.heap.objs.size=some (dB w):=b6 _ rfl
   have hT:Shared.TypeIs {s with heap:=s.heap.push (dB w)} (.ref s.heap.objs.size) "set":=⟨_,hS,rfl⟩
   have hli:=F.called_set.init.lookup
   have hbi:=F.called_set.init.bind (.ref s.heap.objs.size)
   repeat (any_goals (first|assumption|wp_step))
   refine codeAny_mono (codeAny_call_builtin (R:=wants (λr s₂=>r=.none/\P s₂) E) F.called_set.init.plain F.entry_set_init (check_set_init_1 hT (wpAny_mono hb (λr s' ⟨e,p⟩=>?_) λ_ _ h=>h))) λr₂ s₂ hr₂=>?_
   ·subst e
    exact⟨rfl,p⟩
   ·cases r₂ with
    |error e=>exact hr₂
    |ok fl₂=>
     cases fl₂ with
     |ret r=>
      obtain⟨rfl,p⟩:=hr₂
      repeat (any_goals (first|assumption|wp_step))
      exact hq _ p
     |_=>exact hr₂.elim
  |_=>exact hr.elim
def HI{h:Heap}{a:Addr}(e:h.get? a=some (dB w)):az prog w a [] h:=⟨#[],0,.fresh 0 0 (!bp w),e,⟨λe he=>by simp at he,⟨[],.nil,.refl _⟩,ka,by decide,by simp[SetTable.fits,SetTable.fresh,SetTable.fill],.inl rfl,rfl⟩⟩
def J7{l:Addr}{o:Obj}{T:String}{R:Shared->Prop}{Q:Value->Shared->Prop}(ho:s.heap.get? l=some o)(hc:o.cls=.type T)(hs:isSubtype (.type T) (.type "set")=pure false)(hf:isSubtype (.type T) (.type "frozenset")=pure false)(hne:(Value.type T==Value.type "dict")=false)
  (nv:wpAny (model prog w) A.in1.in1 (pyIter (.ref l)) (λi s1=>wpAny (model prog w) A.in1.in1 (runValue (.builtin "set.update.loop" ⟨[.ref s.heap.objs.size,i],[]⟩)) (λ_ s'=>R s') E s1) E {s with heap:=s.heap.push (dB w)})
  (h:∀s',R s'->Q (.ref s.heap.objs.size) s'):wpAny (model prog w) A (call (.type "set") [.ref l]) Q E s:=by
 refine BM h ?_
 have ho':(s.heap.push (dB w)).get? l=some o:=ay _ ho
 have hS:(s.heap.push (dB w)).get? s.heap.objs.size=some (dB w):=b6 _ rfl
 obtain⟨ocls,odict,odata,oslots⟩:=o
 simp only at hc
 subst hc
 unfold Builtin.«set.__init__» noKeywords Builtin.Frozenset.updateFrom
 generalize hPI:pyIter=PI at nv
 wp_walk
 exact wpAny_mono nv (λa s1 h=>af (wpAny_mono h (λ_ s2 r=>ah (ah ⟨rfl,r⟩)) λ_ _ h=>h)) λ_ _ h=>h
def yV(s:Shared)(P:Heap->Prop)(s':Shared):Prop:=∃h' tk,s'={s with heap:=h',toks:=tk}/\P h'/\∀b o,b<s.heap.objs.size->s.heap.get? b=some o->h'.get? b=some o
def B1{o:Obj}{G:Array GenState->Array GenState->Prop}{P:Heap->Prop}{s':Shared}(hm:Moved [s.heap.objs.size,(s.heap.push (dB w)).objs.size] G {s with heap:=(s.heap.push (dB w)).push o} s')(hg:s'.gens=s.gens)(p:P s'.heap):yV s P s':=by
 obtain⟨h',g',d',tk',os'⟩:=s'
 have ed:d'=s.drawn:=hm.drawn
 have eo:os'=s.os:=hm.os
 have hg:g'=s.gens:=hg
 subst hg ed eo
 refine⟨h',tk',rfl,p,λb o hb e=>hm.heap b o ?_ (ay _ (ay _ e))⟩
 rw[fm]
 simp only[List.mem_cons,List.not_mem_nil,or_false,not_or]
 exact⟨cq hb,cq (fo hb)⟩
section
variable{l:Addr}{items:Array Value}{Q:Value->Shared->Prop}(hh:A.handled=none)(hl:s.heap.IsTuple l items)
include hh hl
theorem Cw{R:Heap->Prop}(hw:∀(o:Obj) (lt:l<s.heap.objs.size) (hh3:A.in1.in1.in1.handled=none) (ne:l≠(s.heap.push (dB w)).objs.size) (nf:s.heap.objs.size∉[(s.heap.push (dB w)).objs.size,l]) (s1:Shared),s1={s with heap:=(s.heap.push (dB w)).push {cls:=.type "tuple_iterator",data:=.fields #[.ref l,.int 0 0]}}->s1.heap.get? s.heap.objs.size=some (dB w)->s1.heap.IsTupleIter (s.heap.push (dB w)).objs.size l 0/\s1.heap.IsTuple l items ->
   codeAny (model prog w) A.in1.in1 (.builtin "set.update.loop" ⟨[.ref s.heap.objs.size,.ref (s.heap.push (dB w)).objs.size],[]⟩) (wants (λ_ s'=>yV s R s') E) s1)
  (h:∀(h':Heap) (tk:Nat),R h'->(∀b o,b<s.heap.objs.size->s.heap.get? b=some o->h'.get? b=some o)->Q (.ref s.heap.objs.size) {s with heap:=h',toks:=tk}):wpAny (model prog w) A (call (.type "set") [.ref l]) Q E s:=by
 obtain⟨ol,hol,hcl,nl,hdl⟩:=id hl
 have hlS:l<s.heap.objs.size:=bo hol
 refine J7 (R:=yV s R) hol hcl F.sub_tuple_set F.sub_tuple_frozenset (by decide) (wpAny_pyIter_tuple (hl.push _) (wpAny_runValue ?_)) λs' ⟨h',tk,e,p,k⟩=>by subst e;exact h h' tk p k
 refine hw ol hlS (by simp[hh]) ?_ ?_ _ rfl (ay _ (b6 _ rfl)) ⟨⟨_,b6 _ rfl,rfl,rfl⟩,(hl.push _).push _⟩
 ·rw[fm];exact cq (fo hlS)
 ·rw[fm]
  simp only[List.mem_cons,List.not_mem_nil,or_false,not_or]
  exact⟨cq (ku _),gj hlS⟩
def Mp{ss:List Str}(hi:StrsAre items.toList ss)(hb:ss.length+1<scanBound)
  (h:∀(h':Heap) (tk:Nat),az prog w s.heap.objs.size (aH ss) h'->(∀b o,b<s.heap.objs.size->s.heap.get? b=some o->h'.get? b=some o)->Q (.ref s.heap.objs.size) {s with heap:=h',toks:=tk}):
  wpAny (model prog w) A (call (.type "set") [.ref l]) Q E s:=by
 have hz:items.size=ss.length:=by have:=gU hi;simpa using this
 have hm:eZ (λi=>ss.getD i ⟨#[]⟩) items.size=aH ss:=by rw[hz];exact vL λi hi=>by simp[hi]
 refine Cw hh hl (λo lt hh3 ne nf s1 e1 g1 st=>?_) h
 subst e1
 exact CM ((Walks.tuple hh3 _ l ne items).toS) s.heap.objs.size nf (λi=>ss.getD i ⟨#[]⟩) (λi v hv=>gF hi i v (by rw[d7];exact hv)) (by rw[hm];exact mw (Nat.succ_le_succ (WordM.nodup_len (cY ss) λx hx=>(cP ss x).mp hx)) hb) (items.size-0) 0 _ (by omega) (d6 _) st (HI g1) λs' m S'=>B1 m m.gens (by rw[hm]at S';exact S')
def L5{bs:List Bool}(hi:items.toList=bs.map Value.bool)
  (h:∀(h':Heap) (tk:Nat),bg w s.heap.objs.size (cm bs) (ck bs) h'->(∀b o,b<s.heap.objs.size->s.heap.get? b=some o->h'.get? b=some o)->Q (.ref s.heap.objs.size) {s with heap:=h',toks:=tk}):
  wpAny (model prog w) A (call (.type "set") [.ref l]) Q E s:=by
 have hz:items.size=bs.length:=by have:=congrArg List.length hi;simpa using this
 refine Cw hh hl (λo lt hh3 ne nf s1 e1 g1 st=>?_) h
 subst e1
 exact Bd ((Walks.tuple hh3 _ l ne items).toS) s.heap.objs.size nf bs hz (λi v hv=>AY hi i v (by rw[d7];exact hv)) (items.size-0) 0 _ (by omega) (d6 _) st ⟨0,g1⟩ λs' m S'=>B1 m m.gens S'
end
end
def HP:isSubtype (.type "dict") (.type "frozenset")=pure false:=by rw[isSubtype_type];kernel_rfl
section
variable{prog:Program}{w:World}{A:Around}{E:Value->Shared->Prop}{s:Shared}{a:Addr}{us:List Str}
def Bj:∀{l:List DictEntry}{kvs:List (av×Value)},Pairs (bO prog w) l kvs->∀{us:List Str},kvs.map (·.1)=us.map Sum.inr->l.length=us.length/\∀(i:Nat) (e:DictEntry),l[i]?=some e->∃x,us[i]?=some x/\(bO prog w).is (Sum.inr x) e.key=true
 |_,_,.nil,us,h=>by
  cases us with
  |nil=>exact⟨rfl,λi e z=>by simp at z⟩
  |cons x us=>simp at h
 |_,_,.cons hk hv r,us,h=>by
  cases us with
  |nil=>simp at h
  |cons x us=>
   simp only[List.map_cons,List.cons.injEq]at h
   obtain⟨h1,h2⟩:=h
   obtain⟨a,b⟩:=Bj r h2
   refine⟨by simp[a],λi e z=>?_⟩
   cases i with
   |zero=>
    simp only[List.getElem?_cons_zero,Option.some.injEq]at z
    subst z
    refine⟨x,rfl,?_⟩
    rw[<-h1]
    first|exact hk|exact hv
   |succ i=>exact b i e (by simpa using z)
def M6{d:Addr}{ob:Obj}{es:Array DictEntry}{ep:Nat}{us:List Str}{Q:PUnit->Shared->Prop}(ne:d≠a)(hob:s.heap.get? d=some ob)(hd:ob.data=.dict es ep)(hk:KeysOf (bO prog w) es)(hl:es.size=us.length)
    (hi:∀(i:Nat) (e:DictEntry),es[i]?=some e->∃x,us[i]?=some x/\(bO prog w).is (Sum.inr x) e.key=true) (S:az prog w a [] s.heap) (hb:us.length<4000)
    (h:∀h',Heap.SameBut a s.heap h'->az prog w a (aH us) h'->Q ⟨⟩ {s with heap:=h'}):
    wpAny (model prog w) A (forIn [:es.size] PUnit.unit λi __s=>do
              let __do_lift <- dictEntries d
              match __do_lift[i]? with
                |some e=>do
                  let _ <- holding [e.key] (setAddHashed a e.key e.hash)
                  let __do_lift <- dictEpoch d
                  if (__do_lift != ep) = true then do
                      unsupported (toString "set.__init__"++toString ":changed-during-callback")
                      pure (ForInStep.yield PUnit.unit)
                    else pure (ForInStep.yield PUnit.unit)
                |x=>do
                  unsupported "internal:set-from-dict"
                  pure (ForInStep.yield PUnit.unit)) Q E s:=by
  rw[Std.Legacy.Range.forIn_eq_forIn_range']
  have hb4:scanBound=4096:=rfl
  refine wpAny_forIn_list _ (λl _ s'=>∃(k:Nat) (h':Heap),l=List.range' k (es.size-k) 1/\k<=es.size/\s'={s with heap:=h'}/\Heap.SameBut a s.heap h'/\az prog w a (aH (us.take k)) h') Q ?_ ?_ _ _ ?_
  · rintro x rest b s' ⟨k,h',el,hk',rfl,b',S'⟩
    have hlt:k<es.size:=by
      apply Nat.lt_of_not_le
      intro z
      rw[show es.size-k=0 by omega]at el
      cases el
    rw[show es.size-k=(es.size-(k+1))+1 by omega,List.range'_succ]at el
    obtain⟨rfl,rfl⟩:x=k/\rest=List.range' (k+1) (es.size-(k+1)) 1:=by injection el with e1 e2;exact⟨e1,e2⟩
    have ho':h'.get? d=some ob:=by rw[b'.2 d ne];exact hob
    refine af (wpAny_dictEntries (s:={s with heap:=h'}) ho' hd ?_)
    have ee:es[x]?=some es[x]:=ja hlt
    rw[ee]
    dsimp only
    obtain⟨y,ey,iy⟩:=hi x _ ee
    obtain⟨key,hkk,hh⟩:=hk es[x] (Array.getElem_mem hlt)
    have:key=Sum.inr y:=(bO prog w).inj _ _ _ hkk iy
    subst this
    obtain⟨tk,ev⟩:=Value.isStrOf_shape (show Value.isStrOf y es[x].key=true from iy)
    rw[ev,hh]
    have ln:(aH (us.take x)).length<=x:=by
      have:=WordM.nodup_len (cY (us.take x)) (m:=us.take x) λz hz=>(cP _ z).mp hz
      rw[jh]at this
      omega
    refine af (gb (vV (s:={s with heap:=h'}) (x:=y) S' (by omega) λbb h3 b3 S3=>?_))
    have b13:=b'.trans b3
    have ho3:h3.get? d=some ob:=by rw[b13.2 d ne];exact hob
    refine af (wpAny_dictEpoch (s:={s with heap:=h3}) ho3 hd ?_)
    rw[if_neg (by simp)]
    refine ah ⟨x+1,h3,rfl,hlt,rfl,b13,?_⟩
    have:aH (us.take (x+1))=cU (aH (us.take x)) y:=by
      rw[g_,ey]
      unfold aH
      rw[o9]
      rfl
    rw[this]
    exact S3
  · rintro b s' ⟨k,h',el,hk',rfl,b',S'⟩
    have:k=es.size:=by
      apply Nat.le_antisymm hk'
      apply Nat.le_of_not_lt
      intro z
      have:=congrArg List.length el
      rw[List.length_range']at this
      simp at this
      omega
    subst this
    rw[hl,ff]at S'
    exact h h' b' S'
  · refine⟨0,s.heap,?_,d6 _,rfl,Heap.SameBut.refl a s.heap,S⟩
    show List.range' 0 ((es.size-0+1-1) / 1) 1=_
    rw[Nat.div_one,Nat.add_sub_cancel]
theorem L4{d:Addr}{kvs:List (av×Value)}{ep:Nat}{us:List Str}{Q:Value->Shared->Prop}(hsm:(d==sysModules)=false)(D:s.heap.DictAt (bO prog w) d kvs ep)(hks:kvs.map (·.1)=us.map Sum.inr)(hb:us.length<32)
  (h:∀(h':Heap),az prog w s.heap.objs.size (aH us) h'->(∀b o,b<s.heap.objs.size->s.heap.get? b=some o->h'.get? b=some o)->Q (.ref s.heap.objs.size) {s with heap:=h'}):
  wpAny (model prog w) A (call (.type "set") [.ref d]) Q E s:=by
 obtain⟨ob,es,hob,hex,hd,hk,hp,hnd⟩:=id D
 have ld:d<s.heap.objs.size:=bo hob
 refine BM (P:=λs'=>∃h',s'={s with heap:=h'}/\az prog w s.heap.objs.size (aH us) h'/\∀b o,b<s.heap.objs.size->s.heap.get? b=some o->h'.get? b=some o) (λs' ⟨h',e,p,k⟩=>by subst e;exact h h' p k) ?_
 have hS:(s.heap.push (dB w)).get? s.heap.objs.size=some (dB w):=b6 _ rfl
 have hT:Shared.TypeIs {s with heap:=s.heap.push (dB w)} (.ref s.heap.objs.size) "set":=⟨_,hS,rfl⟩
 have hob':(s.heap.push (dB w)).get? d=some ob:=ay _ hob
 have htd:Shared.TypeIs {s with heap:=s.heap.push (dB w)} (.ref d) "dict":=⟨_,hob',hex.1⟩
 have hsds:=F.sub_dict_set
 have hsdf:=HP
 unfold Builtin.«set.__init__» noKeywords Builtin.Frozenset.updateFrom
 have hdt:(Value.type "dict"==Value.type "dict")=true:=by decide
 generalize hRM:setRoomFor=RM
 wp_walk
 subst hRM
 rw[hd]
 refine ah (af (wpAny_dictEntries hob' hd ?_))
 obtain⟨el,ei⟩:=Bj hp hks
 rw[d9]at el
 have F0:i9 prog w s.heap.objs.size [] (s.heap.push (bK #[] 0 (.fresh 0 0 (!bp w)))):=⟨#[],0,.fresh 0 0 (!bp w),hS,⟨λe he=>by simp at he,⟨[],.nil,.refl _⟩,ka,by decide,by simp[SetTable.fits,SetTable.fresh,SetTable.fill],.inl rfl,rfl⟩,λ_=>rfl⟩
 refine af (BL (s:={s with heap:=s.heap.push (bK #[] 0 (.fresh 0 0 (!bp w)))}) F0 (by simpa[el]using hb) λh1 es1 ep1 t1 b1 g1 T1 _=>?_)
 have ne:d≠s.heap.objs.size:=cq ld
 have ob1:h1.get? d=some ob:=by rw[b1.2 d ne];exact hob'
 refine af (wpAny_dictEntries (s:={s with heap:=h1}) ob1 hd ?_)
 refine af (M6 (s:={s with heap:=h1}) ne ob1 hd hk el (λi e q=>ei i e (by rw[d7];exact q)) ⟨es1,ep1,t1,g1,T1⟩ (by omega) λh2 b2 S2=>?_)
 have b12:=b1.trans b2
 refine ah (ah ?_)
 refine⟨rfl,h2,rfl,S2,λb o hb e=>?_⟩
 rw[b12.2 b (cq hb)]
 exact ay _ e
end
section
variable{X:Cx}{F:Fm}
def Ce(hc:X.calm=true):aq X (.type "set") (AQ X.prog X.w X.K):=by
 intro pins s σ H xs us Q I r h
 obtain⟨p,ss,rfl,hq,hz,q⟩:=h
 obtain⟨u,rfl,rx⟩:=cR r
 cases rx
 obtain⟨its,rv,pl,hz'⟩:=I.tuple hq
 refine Mp (I.ok.hd hc) pl (jN rv) (by show ss.length+1<4096;omega) λh' tk S k=>?_
 refine⟨.ref s.heap.objs.size,_,I.laid (t':=tk) (o:=dP X.prog X.w s.heap.objs.size (aH ss)) (λb o e=>k b o (bo e) e) (ba _) ⟨S,?_,λh1 h2 z k'=>z.kept k'⟩,rfl,q _ I.fresh⟩
 obtain⟨es,ep,t,e,_⟩:=S
 exact⟨_,e⟩
def DT(P:Program)(w:World):R2:=λx y H Q=>∃(a b:Addr) (us vs:List Str),x=.ref a/\y=.ref b/\b≠a/\H a=some (dP P w a us)/\H b=some (dP P w b vs)/\us.length+vs.length<32/\∀c:Addr,H c=none->Q (.ref c) (ar H c (dP P w c (aH (us++vs))))
def F_:cg X (binaryOp .BitOr) (DT X.prog X.w):=by
 intro pins s σ H x y v u Q I rx ry h
 obtain⟨a,b,us,vs,rfl,rfl,ne,ha,hb,hl,q⟩:=h
 cases rx
 cases ry
 refine Gu ne (I.hok a _ ha).1 (I.hok b _ hb).1 hl λh' d S k=>?_
 refine⟨.ref s.heap.objs.size,_,(I.laid (t':=s.toks) (o:=dP X.prog X.w s.heap.objs.size (aH (us++vs))) (λb o e=>k b o (bo e) e) (ba _) ⟨S,?_,λh1 h2 z k'=>z.kept k'⟩).draw d,rfl,q _ I.fresh⟩
 obtain⟨es,ep,t,e,_⟩:=S
 exact⟨_,e⟩
def AI(P:Program)(w:World):List V->Hp->VK->Prop:=λxs H Q=>∃(p:Addr) (ob:Obj) (kvs:List (av×V)) (us:List Str),xs=[.ref p]/\me H p ob kvs/\kvs.map (·.1)=us.map Sum.inr/\us.length<32/\∀a:Addr,H a=none->Q (.ref a) (ar H a (dP P w a (aH us)))
def Cd:aq X (.type "set") (AI X.prog X.w):=by
 intro pins s σ H xs us Q I r h
 obtain⟨p,ob,kvs,uu,rfl,hz,hk,hl,q⟩:=h
 obtain⟨u,rfl,rx⟩:=cR r
 cases rx
 obtain⟨e,hs,_,vs,es,ep,rr,dd,hd⟩:=jS I hz
 have hkv:vs.map (·.1)=uu.map Sum.inr:=by rw[<-rL rr];exact hk
 refine L4 hs dd hkv hl λh' S k=>?_
 refine⟨.ref s.heap.objs.size,_,I.laid (t':=s.toks) (o:=dP X.prog X.w s.heap.objs.size (aH uu)) (λb o e=>k b o (bo e) e) (ba _) ⟨S,?_,λh1 h2 z k'=>z.kept k'⟩,rfl,q _ I.fresh⟩
 obtain⟨es,ep,t,e,_⟩:=S
 exact⟨_,e⟩
def yT(T:Tv)(ss:List Str):Prop:=T=.seq true (ss.map sT)\/∃kts,T=.dct kts/\ss=kts.map (·.1)
def IM(u v:UT):d3:=λρ Q=>u ρ λT ρ1=>∃ss:List Str,yT T ss/\ss.length<32/\v ρ1 λU ρ2=>∃ts:List Str,yT U ts/\ss.length+ts.length<32/\Q ((aX (aH (ss++ts))).map sT) ρ2
def rA(l:List Str):(aH l).length<=l.length:=by
 have:∀(l m:List Str),(l.foldl cU m).length<=m.length+l.length:=by
  intro l
  induction l with
  |nil=>exact λm=>ba _
  |cons x l ih=>
   intro m
   rw[ia,ik]
   refine bx (ih _) ?_
   unfold cU
   split
   ·omega
   ·rw[b9,ke];omega
 have:=this l []
 simpa[aH]using this
def bh.keep{K:W.Frag}{ρ ρ2:aT}{σ:St}{H H1 H2:Hp}{b:Addr}{o:HO}(f:au K F ρ σ H)(n:H b=none)(e:H1 b=some o)(s:bh K F σ ρ H1 ρ2 H2):H2 b=some o:=
 s.st b o e (f.none_nodk n) λi sl e1 m q=>by
  obtain⟨⟨o',e2,_⟩,_⟩:=f.own_at e1 m q
  rw[n]at e2
  cases e2
def zj{K:W.Frag}{P:Program}{w:World}{H:Hp}{x:V}{T:Tv}{ss:List Str}{Q:VK}(sr:yT T ss)(v:VA K H x T)(l:ss.length<32)(h:∀b:Addr,H b=none->Q (.ref b) (ar H b (dP P w b (aH ss)))):AQ P w K [x] H Q\/AI P w [x] H Q:=by
 rcases sr with rfl|⟨kts,rfl,rfl⟩
 ·obtain⟨a,ys,rfl,hs,z,p⟩:=v.seqI
  rw[iK p]at hs
  exact .inl ⟨a,ss,rfl,hs,by omega,h⟩
 ·obtain⟨a,kvs,rfl,⟨ob,hd⟩,nd,z,p⟩:=v.dctI
  exact .inr ⟨a,ob,kvs,_,rfl,hd,qR p,l,h⟩
theorem B5{e e':Expr}{u v:UT}{p p1 p2 pos pos1 pos2 pos3:Pos}(hc:X.calm=true)(hg:Gl X "sorted")(hm:X.mg "sorted"=none)(hg':Gl X "set")(hm':X.mg "set"=none)(he:UE X F e u)(he':UE X F e' v)(hst:dO e=false:=by rfl)(hst':dO e'=false:=by rfl)
  (hpl:(backTo pos (starEach [] X.env)).any (·.1)=false:=by rfl) (hpl1:(backTo pos1 (starEach [] X.env)).any (·.1)=false:=by rfl) (hpl2:(backTo pos2 (starEach [] X.env)).any (·.1)=false:=by rfl):
  UL X F (.Call (.Name "sorted" p) [.BinOp (.Call (.Name "set" p1) [e] [] pos1) .BitOr (.Call (.Name "set" p2) [e'] [] pos2) pos3] [] pos) (IM u v):=⟨PE.imp (iN (zL hc) hg hm boot_sorted (cT (cO F_ (gD ((Ce hc).or Cd) hg' hm' L2.boot_set (cT he.pe dD hst) (by decide) (by decide) (gS hst) hpl1) (gD ((Ce hc).or Cd) hg' hm' L2.boot_set (cT he'.pe dD hst') (by decide) (by decide) (gS hst') hpl2)) dD rfl) (by decide) (by decide) rfl hpl) λσ H QQ ⟨ρ,Q,f,h,k⟩=>by
 refine⟨ρ,_,f,h,λx T H1 ρ1 s1 v1 q1=>?_⟩
 obtain⟨ss,sr,l1,h2⟩:=q1
 refine zj sr v1 (by omega) λb nb=>?_
 have sm1:=cB (o:=dP X.prog X.w b (aH ss)) nb
 have t1:=bh.same s1.fr sm1
 refine⟨ρ1,_,t1.fr,h2,λx' U H2 ρ2 s2 v2 q2=>?_⟩
 obtain⟨ts,sr',hl,q⟩:=q2
 refine zj sr' v2 (by omega) λb' nb'=>?_
 have kb:H2 b=some (dP X.prog X.w b (aH ss)):=bh.keep s1.fr nb bA s2
 have ne:b'≠b:=λz=>by rw[z,kb]at nb';cases nb'
 have e1:=rA ss
 have e2:=rA ts
 refine⟨b,b',aH ss,aH ts,rfl,rfl,ne,by rw[bL ne.symm];exact kb,bA,by omega,λc nc=>?_⟩
 have e3:=rA (aH ss++aH ts)
 rw[b9]at e3
 refine⟨c,_,rfl,bA,by omega,λms d h1 h2' nd=>?_⟩
 have sm:=((cB (o:=dP X.prog X.w b' (aH ts)) nb').trans (cB (o:=dP X.prog X.w c (aH (aH ss++aH ts))) nc)).trans (cB (o:=.lst (ms.map V.str)) nd)
 have sall:=(s1.trans t1).trans (s2.trans (bh.same s2.fr sm))
 refine k _ _ _ _ _ sall ?_ bA (by rw[ao,h1.length_eq];omega) (lX ms) ?_
 ·exact((s1.trans t1).trans s2).non ((cB (o:=dP X.prog X.w b' (aH ts)) nb').free ((cB (o:=dP X.prog X.w c (aH (aH ss++aH ts))) nc).free nd))
 ·rw[nL (h1.trans ((j7 (cY _) (cY (ss++ts))).mpr λx=>by rw[cP,cP,qp_,qp_,cP,cP])) h2']
  exact q⟩
end
section
variable{prog:Program}{w:World}{A:Around}{E:Value->Shared->Prop}{s:Shared}{a o:Addr}{f t f' t':Bool}
def Gy{f t:Bool}(h:(cw f t).isEmpty=true):f=false/\t=false:=by
 cases f<;>cases t<;>first|exact⟨rfl,rfl⟩|exact absurd h (by decide +kernel)
def E8(l f t f' t':Bool):(bU l f t).roomFor (cw f' t').size=none:=by cases l<;>cases f<;>cases t<;>cases f'<;>cases t'<;>rfl
def B9{each:Sem Unit}{Q:Unit->Shared->Prop}(ne:a≠o)(S:bg w a f t s.heap)(O:bg w o f' t' s.heap)
  (he:∀(s':Shared) (Q':Unit->Shared->Prop),s'.heap.get? o=s.heap.get? o->Q' () s'->wpAny (model prog w) A each Q' E s')
  (h:∀h',Heap.SameBut a s.heap h'->bg w a (f || f') (t || t') h'->Q () {s with heap:=h'}):wpAny (model prog w) A (setMerge a o each) Q E s:=by
 obtain⟨ep,ho⟩:=id O
 obtain⟨ea,ha⟩:=id S
 unfold setMerge
 rw[if_neg (by simpa using ne)]
 refine af (d5 ho rfl (fD _ _ _) ?_)
 dsimp only
 by_cases z0:(cw f' t').isEmpty=true
 ·rw[if_pos z0]
  obtain⟨rfl,rfl⟩:=Gy z0
  have e:s={s with heap:=s.heap}:=by cases s;rfl
  rw[e]
  exact ah (h _ (Heap.SameBut.refl a s.heap) (by rw[mx,mx];exact S))
 rw[if_neg z0]
 unfold setRoomFor
 refine af (af (d5 ha rfl (fD _ _ _) ?_))
 dsimp only
 rw[E8]
 dsimp only
 refine ah (af (d5 ha rfl (fD _ _ _) ?_))
 dsimp only
 by_cases zs:f=false/\t=false
 ·obtain⟨rfl,rfl⟩:=zs
  have er:(bU (!bp w) false false).road (bU (!bp w) f' t')=.slotForSlot:=by cases bp w<;>cases f'<;>cases t'<;>rfl
  rw[er]
  dsimp only
  have et:({bU (!bp w) f' t' with finger:=(bU (!bp w) false false).finger,led:=(bU (!bp w) false false).led&&(bU (!bp w) f' t').led,moves:=(bU (!bp w) false false).moves,plain:=(bU (!bp w) false false).plain&&(bU (!bp w) f' t').plain}:SetTable)=bU (!bp w) f' t':=by cases bp w<;>rfl
  rw[et]
  refine wpAny_storeSet_of ha rfl ?_ (by rw[mI];exact bx (iI f' t') (by decide))
  exact h _ (Heap.SameBut.update s.heap a _) ⟨ea+1,j4 (Obj.putSet (cw f' t') (bU (!bp w) f' t')) ha rfl⟩
 ·have er:(bU (!bp w) f t).road (bU (!bp w) f' t')=.oneByOne:=by
   cases f<;>cases t<;>first|exact absurd ⟨rfl,rfl⟩ zs|(cases bp w<;>rfl)
  rw[er]
  dsimp only
  have wk:∀{Q:Array (Int×Value)->Shared->Prop},(∀(out:Array (Int×Value)),out.toList.Perm (cw f' t').toList->Q out s)->wpAny (model prog w) A (setWalkUnseen o [a] (some a)) Q E s:=λ{Q} q=>by
   unfold setWalkUnseen
   refine af (d5 ho rfl (fD _ _ _) ?_)
   dsimp only
   refine af (dR ?_)
   rw[if_pos (by show(bp w || (!bp w&&true) || _)=true;cases bp w<;>rfl)]
   unfold setWalk
   refine af (d5 ho rfl (fD _ _ _) ?_)
   dsimp only
   refine af (dR ?_)
   cases hb:bp w with
   |true=>
    rw[if_pos rfl]
    exact af (wpAny_askSetting (ah (q _ (jQ _ _))))
   |false=>
    rw[if_neg cb]
    split
    ·rename_i hz
     exact absurd (show(!true&&decide ((cw f' t').size > 1))=true from hz) (by simp)
    ·refine af (m:=(if (!true&&decide ((cw f' t').size > 1))=true then unsupported "set:maker-not-led" else pure PUnit.unit)) ?_
     rw[if_neg (by simp)]
     exact ah (ah (q _ (.refl _)))
  refine af (wk λout p=>?_)
  refine af (PySem.MeetsSeq2.wpAny_forIn_array _ (λl _ s'=>∃(f1 t1:Bool) (h':Heap),s'={s with heap:=h'}/\Heap.SameBut a s.heap h'/\bg w a f1 t1 h'/\(∀e∈l,e∈(cw f' t').toList)/\(f1 || l.any λe=>dX false e.2)=(f || f')/\(t1 || l.any λe=>dX true e.2)=(t || t')) _ ?_ ?_ _ _ ?_)
  ·rintro⟨hh,v⟩ rest b s' ⟨f1,t1,h',rfl,b',S',hm,hf,ht⟩
   have hin:(hh,v)∈(bw f' t').map λb=>(iE b,Value.bool b):=hm _ (.head _)
   obtain⟨c,_,ec⟩:=qf_.mp hin
   cases ec
   refine af (gb (BJ (prog:=prog) (s:={s with heap:=h'}) (b:=c) S' λr h3 b3 S3=>?_))
   have b13:=b'.trans b3
   have ho3:h3.get? o=some (bK (cw f' t') ep (bU (!bp w) f' t')):=by rw[b13.2 o (Ne.symm ne)];exact ho
   refine af (he _ _ (by show h3.get? o=s.heap.get? o;rw[ho3,ho]) ?_)
   refine af (d5 (s:={s with heap:=h3}) ho3 rfl (fD _ _ _) ?_)
   rw[if_neg (by simp)]
   refine ah ⟨_,_,h3,rfl,b13,S3,λe q=>hm e (.tail _ q),?_,?_⟩
   ·rw[<-hf,iq,Bool.or_assoc]
    cases c<;>rfl
   ·rw[<-ht,iq,Bool.or_assoc]
    cases c<;>rfl
  ·rintro b s' ⟨f1,t1,h',rfl,b',S',_,hf,ht⟩
   rw[List.any_nil,mx]at hf ht
   subst hf ht
   exact ah (h h' b' S')
  ·refine⟨f,t,s.heap,by cases s;rfl,Heap.SameBut.refl a s.heap,S,λe q=>p.mem_iff.mp q,?_,?_⟩
   ·congr 1
    rw[h_,qL_]
    simp only[p.mem_iff]
    cases f'<;>cases t'<;>simp[cw,bw,dX]
   ·congr 1
    rw[h_,qL_]
    simp only[p.mem_iff]
    cases f'<;>cases t'<;>simp[cw,bw,dX]
def Lh{Q:Value->Shared->Prop}(S:bg w a f t s.heap)
  (h:∀h',bg w s.heap.objs.size f t h'->s.heap.objs.size<h'.objs.size->(∀b o,b<s.heap.objs.size->s.heap.get? b=some o->h'.get? b=some o)->Q (.ref s.heap.objs.size) {s with heap:=h'}):
  wpAny (model prog w) A (Builtin.Frozenset.copyOf a) Q E s:=by
 obtain⟨ep,ho⟩:=id S
 have ht:s.TypeIs (.ref a) "set":=⟨_,ho,rfl⟩
 have la:a<s.heap.objs.size:=bo ho
 unfold Builtin.Frozenset.copyOf Builtin.Frozenset.baseOf newSet
 refine af (af (wpAny_isInstance (T:="set") (b:=true) ht oE (ah ?_)))
 rw[if_pos rfl]
 refine af (af (dR ?_))
 dsimp only
 refine jg ?_ (by size_fits)
 refine af (ah ?_)
 have F0:bg w s.heap.objs.size false false (s.heap.push (bK #[] 0 (.fresh 0 0 (!bp w)))):=⟨0,b6 _ rfl⟩
 refine af (B9 (s:={s with heap:=s.heap.push (bK #[] 0 (.fresh 0 0 (!bp w)))}) (gj la) F0 ⟨ep,ay _ ho⟩ (λs' Q' _ q=>ah q) λh' b F=>?_)
 rw[o6,o6]at F
 refine ah (h h' F (by rw[b.1,fm];omega) λx o hx e=>?_)
 rw[b.2 x (cq hx)]
 exact ay _ e
theorem Hq{Q:Value->Shared->Prop}(ne:o≠a)(S:bg w a f t s.heap)(O:bg w o f' t' s.heap)
  (h:∀h',bg w s.heap.objs.size (f || f') (t || t') h'->(∀b o,b<s.heap.objs.size->s.heap.get? b=some o->h'.get? b=some o)->Q (.ref s.heap.objs.size) {s with heap:=h'}):
  wpAny (model prog w) A (binaryOp .BitOr (.ref a) (.ref o)) Q E s:=by
 obtain⟨ep,ho⟩:=id O
 obtain⟨ea,ha⟩:=id S
 have ht:s.TypeIs (.ref a) "set":=⟨_,ha,rfl⟩
 have ht2:s.TypeIs (.ref o) "set":=⟨_,ho,rfl⟩
 refine wpAny_binaryOp_same (op:=.BitOr) (T:="set") ht ht2 F.fills_set_or F.slot_set_or (ig F.slot_set_or ht yn ?_ (F.args_set_or_2 _ _))
 rw[yt]
 show wpAny _ _ (do
  if !(<- Builtin.Frozenset.isAnySet (.ref a) <&&> Builtin.Frozenset.isAnySet (.ref o)) then rule s!"frozenset.{"__or__"}.declined";return <- ret .notImplemented
  ret (<- oD s!"frozenset.{"__or__"}" (<- Builtin.Frozenset.addrOf (.ref a)) (.ref o))) _ _ _
 refine af (af (lJ ht ?_))
 refine lJ ht2 ?_
 rw[if_neg (by simp)]
 refine af (ah ?_)
 have lo:o<s.heap.objs.size:=bo ho
 unfold oD
 refine af (af (Lh S λh1 F1 z1 k1=>?_))
 rw[if_pos (by simpa using ne)]
 have ho1:h1.get? o=some (bK (cw f' t') ep (bU (!bp w) f' t')):=k1 o _ lo ho
 have ht3:Shared.TypeIs {s with heap:=h1} (.ref o) "set":=⟨_,ho1,rfl⟩
 unfold Builtin.Frozenset.updateFrom
 refine af (ah (af (gb (af (lJ ht3 ?_)))))
 rw[if_pos rfl]
 refine af (ah ?_)
 unfold Builtin.Frozenset.merge
 refine af (wpAny_setEpoch_of (s:={s with heap:=h1}) ho1 rfl (fD _ _ _) ?_)
 refine B9 (s:={s with heap:=h1}) (gj lo) F1 ⟨ep,ho1⟩ (λs' Q' e q=>?_) λh2 b2 F2=>?_
 ·unfold Builtin.Frozenset.unchanged
  refine af (wpAny_setEpoch_of (s:=s') (by rw[e];exact ho1) rfl (fD _ _ _) ?_)
  rw[if_neg (by simp)]
  exact ah q
 ·refine ah ?_
  refine ah ⟨_,rfl,by simp,h h2 F2 λb o' hb e=>?_⟩
  rw[b2.2 b (cq hb)]
  exact k1 b o' hb e
end
section
variable{X:Cx}{F:Fm}
def HA(w:World)(K:W.Frag):List V->Hp->VK->Prop:=λxs H Q=>∃(p:Addr) (bs:List Bool),xs=[.ref p]/\cu K H p (bs.map V.bl)/\∀a:Addr,H a=none->Q (.ref a) (ar H a (eG w a (cm bs) (ck bs)))
def Cc(hc:X.calm=true):aq X (.type "set") (HA X.w X.K):=by
 intro pins s σ H xs us Q I r h
 obtain⟨p,bs,rfl,hq,q⟩:=h
 obtain⟨u,rfl,rx⟩:=cR r
 cases rx
 obtain⟨its,rv,pl,hz'⟩:=I.tuple hq
 refine L5 (I.ok.hd hc) pl (bs:=bs) (AZ rv) λh' tk S k=>?_
 refine⟨.ref s.heap.objs.size,_,I.laid (t':=tk) (o:=eG X.w s.heap.objs.size (cm bs) (ck bs)) (λb o e=>k b o (bo e) e) (ba _) ⟨S,?_,λh1 h2 z k'=>z.kept k'⟩,rfl,q _ I.fresh⟩
 obtain⟨ep,e⟩:=S
 exact⟨_,e⟩
def DS(w:World):R2:=λx y H Q=>∃(a b:Addr) (f t f' t':Bool),x=.ref a/\y=.ref b/\b≠a/\H a=some (eG w a f t)/\H b=some (eG w b f' t')/\∀c:Addr,H c=none->Q (.ref c) (ar H c (eG w c (f || f') (t || t')))
def F9:cg X (binaryOp .BitOr) (DS X.w):=by
 intro pins s σ H x y v u Q I rx ry h
 obtain⟨a,b,f,t,f',t',rfl,rfl,ne,ha,hb,q⟩:=h
 cases rx
 cases ry
 refine Hq ne (I.hok a _ ha).1 (I.hok b _ hb).1 λh' S k=>?_
 refine⟨.ref s.heap.objs.size,_,I.laid (t':=s.toks) (o:=eG X.w s.heap.objs.size (f || f') (t || t')) (λb o e=>k b o (bo e) e) (ba _) ⟨S,?_,λh1 h2 z k'=>z.kept k'⟩,rfl,q _ I.fresh⟩
 obtain⟨ep,e⟩:=S
 exact⟨_,e⟩
def LL(u v:UT):d3:=λρ Q=>u ρ λT ρ1=>∃bs:List Bool,T=.seq true (bs.map bT)/\v ρ1 λU ρ2=>∃cs:List Bool,U=.seq true (cs.map bT)/\Q ((bw (cm bs || cm cs) (ck bs || ck cs)).map bT) ρ2
theorem L1{e e':Expr}{u v:UT}{p p1 p2 pos pos1 pos2 pos3:Pos}(hc:X.calm=true)(hg:Gl X "sorted")(hm:X.mg "sorted"=none)(hg':Gl X "set")(hm':X.mg "set"=none)(he:UE X F e u)(he':UE X F e' v)(hst:dO e=false:=by rfl)(hst':dO e'=false:=by rfl)
  (hpl:(backTo pos (starEach [] X.env)).any (·.1)=false:=by rfl) (hpl1:(backTo pos1 (starEach [] X.env)).any (·.1)=false:=by rfl) (hpl2:(backTo pos2 (starEach [] X.env)).any (·.1)=false:=by rfl):
  UL X F (.Call (.Name "sorted" p) [.BinOp (.Call (.Name "set" p1) [e] [] pos1) .BitOr (.Call (.Name "set" p2) [e'] [] pos2) pos3] [] pos) (LL u v):=⟨PE.imp (iN (zH hc) hg hm boot_sorted (cT (cO F9 (gD (Cc hc) hg' hm' L2.boot_set (cT he.pe dD hst) (by decide) (by decide) (gS hst) hpl1) (gD (Cc hc) hg' hm' L2.boot_set (cT he'.pe dD hst') (by decide) (by decide) (gS hst') hpl2)) dD rfl) (by decide) (by decide) rfl hpl) λσ H QQ ⟨ρ,Q,f,h,k⟩=>by
 refine⟨ρ,_,f,h,λx T H1 ρ1 s1 v1 q1=>?_⟩
 obtain⟨bs,rfl,h2⟩:=q1
 obtain⟨a,ys,rfl,hs,z,p⟩:=v1.seqI
 rw[nP p]at hs
 refine⟨a,bs,rfl,hs,λb nb=>?_⟩
 have sm1:=cB (o:=eG X.w b (cm bs) (ck bs)) nb
 have t1:=bh.same s1.fr sm1
 refine⟨ρ1,_,t1.fr,h2,λx' U H2 ρ2 s2 v2 q2=>?_⟩
 obtain⟨cs,rfl,q⟩:=q2
 obtain⟨a',ys',rfl,hs',z',p'⟩:=v2.seqI
 rw[nP p']at hs'
 refine⟨a',cs,rfl,hs',λb' nb'=>?_⟩
 have kb:H2 b=some (eG X.w b (cm bs) (ck bs)):=bh.keep s1.fr nb bA s2
 have ne:b'≠b:=λz=>by rw[z,kb]at nb';cases nb'
 refine⟨b,b',_,_,_,_,rfl,rfl,ne,by rw[bL ne.symm];exact kb,bA,λc nc=>?_⟩
 refine⟨c,_,_,rfl,bA,λd nd=>?_⟩
 have sm:=((cB (o:=eG X.w b' (cm cs) (ck cs)) nb').trans (cB (o:=eG X.w c (cm bs || cm cs) (ck bs || ck cs)) nc)).trans (cB (o:=.lst ((bw (cm bs || cm cs) (ck bs || ck cs)).map V.bl)) nd)
 have sall:=(s1.trans t1).trans (s2.trans (bh.same s2.fr sm))
 refine k _ _ _ _ _ sall ?_ bA (by rw[ao];have:=iI (cm bs || cm cs) (ck bs || ck cs);omega) (wU _) q
 exact((s1.trans t1).trans s2).non ((cB (o:=eG X.w b' (cm cs) (ck cs)) nb').free ((cB (o:=eG X.w c (cm bs || cm cs) (ck bs || ck cs)) nc).free nd))⟩
end
section
variable{prog:Program}{w:World}{A:Around}{E:Value->Shared->Prop}{s:Shared}{l:Addr}{its:Array Value}{ss:List Str}
def CJ{Q:Value->Shared->Prop}(hl:s.heap.IsTuple l its)
  (h:∀s₂:Shared,s₂={s with heap:=s.heap.push {cls:=.type "tuple_iterator",data:=.fields #[.ref l,.int 0 0]}} ->
   (s₂.heap.IsTupleIter s.heap.objs.size l 0/\s₂.heap.IsTuple l its)->(∀b∈[s.heap.objs.size,l],b<s₂.heap.objs.size)->l≠s.heap.objs.size->Q (.ref s.heap.objs.size) s₂):
  wpAny (model prog w) A (pyIter (.ref l)) Q E s:=by
 have hlt:l<s.heap.objs.size:=by obtain⟨_,e,_⟩:=hl;exact bo e
 refine wpAny_pyIter_tuple hl (h _ rfl ⟨⟨_,b6 _ rfl,rfl,rfl⟩,hl.push _⟩ (λb hb=>?_) (cq hlt))
 show b<(s.heap.push _).objs.size
 rw[fm]
 simp only[List.mem_cons,List.not_mem_nil,or_false]at hb
 rcases hb with z|z
 ·rw[z];exact ku _
 ·rw[z];exact fo hlt
def JH{Q:Value->Shared->Prop}(hh:A.handled=none)(hl:s.heap.IsTuple l its)(hi:StrsAre its.toList ss)(hne:0<ss.length)
  (h:∀x t h' tk,x∈ss->(∀y∈ss,x.cps.toList<=y.cps.toList)->(∀b o,s.heap.get? b=some o->h'.get? b=some o)->Q (.str x t) {s with heap:=h',toks:=tk}):
  wpAny (model prog w) A (call (.builtin "min") [.ref l]) Q E s:=by
 have hsz:its.size=ss.length:=by rw[<-d9,gU hi]
 refine call_min_walk (CJ hl λs₂ e st hfp hlI=>?_)
 subst e
 refine⟨_,_,_,_,_,_,_,rfl,Walks.tuple (A:=A.in1) hh _ l hlI its,st,hfp,by omega,zT (λi=>ss.getD i ⟨#[]⟩) (λi v hv=>gF hi i v (by rw[d7];exact hv)),λv h' tk hP hk=>?_⟩
 obtain⟨t,rfl⟩:=gF hi _ v (by rw[d7];exact hP)
 obtain⟨b1,b2⟩:=wP (λi=>(ss.getD i ⟨#[]⟩).cps.toList) (its.size-1)
 refine h _ t h' tk (qJ (by omega)) (λy hy=>?_) (λb o e=>hk b o (λz=>by rw[qd1_]at z;subst z;have:=bo e;exact fg _ this) (ay _ e))
 obtain⟨j,hj,rfl⟩:=qH hy
 exact b2 j (by omega)
def JF{Q:Value->Shared->Prop}(hh:A.handled=none)(hl:s.heap.IsTuple l its)(hi:StrsAre its.toList ss)(hne:0<ss.length)
  (h:∀x t h' tk,x∈ss->(∀y∈ss,y.cps.toList<=x.cps.toList)->(∀b o,s.heap.get? b=some o->h'.get? b=some o)->Q (.str x t) {s with heap:=h',toks:=tk}):
  wpAny (model prog w) A (call (.builtin "max") [.ref l]) Q E s:=by
 have hsz:its.size=ss.length:=by rw[<-d9,gU hi]
 refine call_max_walk (CJ hl λs₂ e st hfp hlI=>?_)
 subst e
 refine⟨_,_,_,_,_,_,_,rfl,Walks.tuple (A:=A.in1) hh _ l hlI its,st,hfp,by omega,zU (λi=>ss.getD i ⟨#[]⟩) (λi v hv=>gF hi i v (by rw[d7];exact hv)),λv h' tk hP hk=>?_⟩
 obtain⟨t,rfl⟩:=gF hi _ v (by rw[d7];exact hP)
 obtain⟨b1,b2⟩:=wQ (λi=>(ss.getD i ⟨#[]⟩).cps.toList) (its.size-1)
 refine h _ t h' tk (qJ (by omega)) (λy hy=>?_) (λb o e=>hk b o (λz=>by rw[qd1_]at z;subst z;have:=bo e;exact fg _ this) (ay _ e))
 obtain⟨j,hj,rfl⟩:=qH hy
 exact b2 j (by omega)
end
section
variable{X:Cx}
theorem Mw(hc:X.calm=true):aq X (.builtin "min") (λxs H Q=>∃(p:Addr) (ss:List Str),xs=[.ref p]/\cu X.K H p (ss.map V.str)/\0<ss.length/\∀x,x∈ss->(∀y∈ss,x.cps.toList<=y.cps.toList)->Q (.str x) H):=by
 intro pins s σ H xs us Q I r h
 obtain⟨p,ss,rfl,hq,hn,q⟩:=h
 obtain⟨u,rfl,rx⟩:=cR r
 cases rx
 obtain⟨its,rv,pl,hz⟩:=I.tuple hq
 refine JH (I.ok.hd hc) pl (jN rv) hn λx t h' tk h1 h2 hk=>?_
 exact⟨.str _,H,I.kept hk,⟨t,rfl⟩,q _ h1 h2⟩
theorem Mv(hc:X.calm=true):aq X (.builtin "max") (λxs H Q=>∃(p:Addr) (ss:List Str),xs=[.ref p]/\cu X.K H p (ss.map V.str)/\0<ss.length/\∀x,x∈ss->(∀y∈ss,y.cps.toList<=x.cps.toList)->Q (.str x) H):=by
 intro pins s σ H xs us Q I r h
 obtain⟨p,ss,rfl,hq,hn,q⟩:=h
 obtain⟨u,rfl,rx⟩:=cR r
 cases rx
 obtain⟨its,rv,pl,hz⟩:=I.tuple hq
 refine JF (I.ok.hd hc) pl (jN rv) hn λx t h' tk h1 h2 hk=>?_
 exact⟨.str _,H,I.kept hk,⟨t,rfl⟩,q _ h1 h2⟩
def FJ:Pn:=λTs Q=>∃(t:Bool) (ss:List Str),Ts=[.seq t (ss.map sT)]/\0<ss.length/\∀x,x∈ss->(∀y∈ss,x.cps.toList<=y.cps.toList)->Q (sT x)
def FI:Pn:=λTs Q=>∃(t:Bool) (ss:List Str),Ts=[.seq t (ss.map sT)]/\0<ss.length/\∀x,x∈ss->(∀y∈ss,y.cps.toList<=x.cps.toList)->Q (sT x)
def Iu(hc:X.calm=true):iB X (.builtin "min") FJ:=⟨_,(Cb hc).or (Mw hc),λxs Ts H Q QQ vx h k=>by
 obtain⟨t,ss,rfl,l,q⟩:=h
 obtain⟨x,rfl,v⟩:=dN vx
 obtain⟨a,ys,rfl,hs,z,p⟩:=v.seqI
 rw[iK p]at hs
 cases t with
 |false=>exact .inl ⟨a,ss,rfl,cQ hs,l,λM h1 h2=>k _ _ _ (.flat rfl) (q M h1 h2)⟩
 |true=>exact .inr ⟨a,ss,rfl,hs,l,λM h1 h2=>k _ _ _ (.flat rfl) (q M h1 h2)⟩⟩
def Ir(hc:X.calm=true):iB X (.builtin "max") FI:=⟨_,(Ca hc).or (Mv hc),λxs Ts H Q QQ vx h k=>by
 obtain⟨t,ss,rfl,l,q⟩:=h
 obtain⟨x,rfl,v⟩:=dN vx
 obtain⟨a,ys,rfl,hs,z,p⟩:=v.seqI
 rw[iK p]at hs
 cases t with
 |false=>exact .inl ⟨a,ss,rfl,cQ hs,l,λM h1 h2=>k _ _ _ (.flat rfl) (q M h1 h2)⟩
 |true=>exact .inr ⟨a,ss,rfl,hs,l,λM h1 h2=>k _ _ _ (.flat rfl) (q M h1 h2)⟩⟩
end
end L2
namespace CutM
open RunM GcdM
structure IsR (S:Int->Prop) (r:R3):Prop where
 lo:S r.1
 lo':∀n,S n->r.1<=n
 hi:S r.2.1
 hi':∀n,S n->n<=r.2.1
 nn:0<=r.2.2
 dv:∀d,d ∣ r.2.2↔∀n,S n->d ∣ (n-r.1)
def isR_of{ns:List Int}{m M:Int}(h1:m∈ns)(h2:∀x∈ns,m<=x)(h3:M∈ns)(h4:∀x∈ns,x<=M):IsR (·∈ns) (m,M,stepOf m ns):=by
 refine⟨h1,h2,h3,h4,pU (j_ 0),λd=>?_⟩
 show d ∣ stepOf m ns↔_
 unfold stepOf
 rw[vC]
 exact⟨λh=>h.2,λh=>⟨h9 _,h⟩⟩
def IsR.ok{S:Int->Prop}{r:R3}(h:IsR S r):Ok r:=by
 have key:r.2.1=r.1->r.2.2=0:=λe=>by
  have:(0:Int) ∣ r.2.2:=(h.dv 0).mpr λn hn=>by
   have h1:=h.lo' n hn
   have h2:=h.hi' n hn
   rw[show n-r.1=0 by omega]
   exact h9 _
  exact Int.zero_dvd.mp this
 refine⟨h.nn,λz=>?_,λz=>⟨?_,(h.dv _).mp (oy _) _ h.hi⟩⟩
 ·have:=(h.dv 0).mp (by rw[z];exact h9 _) _ h.hi
  have:=Int.zero_dvd.mp this
  omega
 ·have h1:=h.lo' _ h.hi
  rcases Int.lt_or_le r.1 r.2.1 with q|q
  ·exact q
  ·have:=key (by omega)
   omega
def R3.ext{a b:R3}(h1:a.1=b.1)(h2:a.2.1=b.2.1)(h3:a.2.2=b.2.2):a=b:=by
 obtain⟨x,y,z⟩:=a
 obtain⟨x',y',z'⟩:=b
 simp only at h1 h2 h3
 rw[h1,h2,h3]
def IsR.unique{S:Int->Prop}{r r':R3}(h:IsR S r)(h':IsR S r'):r=r':=by
 have e1:r.1=r'.1:=by
  have:=h.lo' _ h'.lo
  have:=h'.lo' _ h.lo
  omega
 have e2:r.2.1=r'.2.1:=by
  have:=h.hi' _ h'.hi
  have:=h'.hi' _ h.hi
  omega
 refine R3.ext e1 e2 (qK h.nn h'.nn λd=>?_)
 rw[h.dv,h'.dv,e1]
def IsR.congr{S T:Int->Prop}{r:R3}(h:IsR S r)(e:∀n,S n↔T n):IsR T r:=
 ⟨(e _).mp h.lo,λn hn=>h.lo' n ((e n).mpr hn),(e _).mp h.hi,λn hn=>h.hi' n ((e n).mpr hn),h.nn,λd=>(h.dv d).trans ⟨λk n hn=>k n ((e n).mpr hn),λk n hn=>k n ((e n).mp hn)⟩⟩
def IsR.join{S T:Int->Prop}{a b:R3}(ha:IsR S a)(hb:IsR T b):IsR (λn=>S n\/T n) (joinR a b):=by
 have s1:Sub a (joinR a b):=C0
 have s2:Sub b (joinR a b):=Mf
 have l1:=s1.lo
 have l2:=s2.lo
 have l3:=s1.hi
 have l4:=s2.hi
 refine⟨?_,λn hn=>?_,?_,λn hn=>?_,g_nonneg _ _,λd=>?_⟩
 ·show S (if b.1<a.1 then b.1 else a.1)\/T (if b.1<a.1 then b.1 else a.1)
  split
  ·exact .inr hb.lo
  ·exact .inl ha.lo
 ·rcases hn with z|z
  ·have:=ha.lo' n z
   omega
  ·have:=hb.lo' n z
   omega
 ·show S (if b.2.1 > a.2.1 then b.2.1 else a.2.1)\/T (if b.2.1 > a.2.1 then b.2.1 else a.2.1)
  split
  ·exact .inr hb.hi
  ·exact .inl ha.hi
 ·rcases hn with z|z
  ·have:=ha.hi' n z
   omega
  ·have:=hb.hi' n z
   omega
 ·show d ∣ g (g a.2.2 b.2.2) (a.1-b.1)↔_
  rw[g_dvd,g_dvd,ha.dv,hb.dv]
  have el:(joinR a b).1=a.1\/(joinR a b).1=b.1:=by
   show(if b.1<a.1 then b.1 else a.1)=a.1\/(if b.1<a.1 then b.1 else a.1)=b.1
   split
   ·exact .inr rfl
   ·exact .inl rfl
  constructor
  ·rintro⟨⟨h1,h2⟩,h3⟩
   have k1:d ∣ (a.1-(joinR a b).1):=by
    rcases el with e|e<;>rw[e]
    ·rw[ko];exact h9 _
    ·exact h3
   have k2:d ∣ (b.1-(joinR a b).1):=by
    rcases el with e|e<;>rw[e]
    ·rw[show b.1-a.1 = -(a.1-b.1) by omega];exact Int.dvd_neg.mpr h3
    ·rw[ko];exact h9 _
   intro n hn
   rcases hn with z|z
   ·have:=kr (h1 n z) k1
    rw[show n-a.1+(a.1-(joinR a b).1)=n-(joinR a b).1 by omega]at this
    exact this
   ·have:=kr (h2 n z) k2
    rw[show n-b.1+(b.1-(joinR a b).1)=n-(joinR a b).1 by omega]at this
    exact this
  ·intro h
   have k1:=h _ (.inl ha.lo)
   have k2:=h _ (.inr hb.lo)
   refine⟨⟨λn hn=>?_,λn hn=>?_⟩,?_⟩
   ·have:=iz (h n (.inl hn)) k1
    rw[show n-(joinR a b).1-(a.1-(joinR a b).1)=n-a.1 by omega]at this
    exact this
   ·have:=iz (h n (.inr hn)) k2
    rw[show n-(joinR a b).1-(b.1-(joinR a b).1)=n-b.1 by omega]at this
    exact this
   ·have:=iz k1 k2
    rw[show a.1-(joinR a b).1-(b.1-(joinR a b).1)=a.1-b.1 by omega]at this
    exact this
end CutM
namespace L2
open PySem PySem.Spec PyProof.Rows WordM
def bM:List Int->Int
 |[]=>0
 |[x]=>x
 |x::y::l=>min x (bM (y::l))
def bR:List Int->Int
 |[]=>0
 |[x]=>x
 |x::y::l=>max x (bR (y::l))
def iU:∀{l:List Int},l≠[]->bM l∈l/\∀x∈l,bM l<=x
 |[],h=>absurd rfl h
 |[x],_=>⟨.head _,λy hy=>by rw[qd1_.mp hy];exact j_ _⟩
 |x::y::l,_=>by
  obtain⟨a,b⟩:=iU (l:=y::l) (by simp)
  rw[bM]
  refine⟨?_,λz hz=>?_⟩
  ·by_cases h:x<=bM (y::l)
   ·rw[Int.min_eq_left h];exact .head _
   ·rw[Int.min_eq_right (by omega)];exact .tail _ a
  ·rcases qx_.mp hz with rfl|hz
   ·omega
   ·have:=b z hz;omega
def iV:∀{l:List Int},l≠[]->bR l∈l/\∀x∈l,x<=bR l
 |[],h=>absurd rfl h
 |[x],_=>⟨.head _,λy hy=>by rw[qd1_.mp hy];exact j_ _⟩
 |x::y::l,_=>by
  obtain⟨a,b⟩:=iV (l:=y::l) (by simp)
  rw[bR]
  refine⟨?_,λz hz=>?_⟩
  ·by_cases h:x<=bR (y::l)
   ·rw[Int.max_eq_right h];exact .tail _ a
   ·rw[Int.max_eq_left (by omega)];exact .head _
  ·rcases qx_.mp hz with rfl|hz
   ·omega
   ·have:=b z hz;omega
def nV{l:List Int}{m:Int}(h1:m∈l)(h2:∀x∈l,m<=x):bM l=m:=by
 obtain⟨a,b⟩:=iU (l:=l) (λz=>by rw[z]at h1;exact nomatch h1)
 have:=b m h1
 have:=h2 _ a
 omega
def nW{l:List Int}{m:Int}(h1:m∈l)(h2:∀x∈l,x<=m):bR l=m:=by
 obtain⟨a,b⟩:=iV (l:=l) (λz=>by rw[z]at h1;exact nomatch h1)
 have:=b m h1
 have:=h2 _ a
 omega
def Bf{l m:List Int}(hl:l≠[])(hm:m≠[]):bM (l++m)=min (bM l) (bM m):=by
 obtain⟨a,b⟩:=iU hl
 obtain⟨c,d⟩:=iU hm
 refine nV ?_ λx hx=>?_
 ·by_cases h:bM l<=bM m
  ·rw[Int.min_eq_left h];exact g6 _ a
  ·rw[Int.min_eq_right (by omega)];exact d8 _ c
 ·rcases qp_.mp hx with hx|hx
  ·have:=b x hx;omega
  ·have:=d x hx;omega
def Be{l m:List Int}(hl:l≠[])(hm:m≠[]):bR (l++m)=max (bR l) (bR m):=by
 obtain⟨a,b⟩:=iV hl
 obtain⟨c,d⟩:=iV hm
 refine nW ?_ λx hx=>?_
 ·by_cases h:bR l<=bR m
  ·rw[Int.max_eq_right h];exact d8 _ c
  ·rw[Int.max_eq_left (by omega)];exact g6 _ a
 ·rcases qp_.mp hx with hx|hx
  ·have:=b x hx;omega
  ·have:=d x hx;omega
def CQ{l m:List Int}(h:∀x,x∈l↔x∈m):bM l=bM m:=by
 by_cases e:l=[]
 ·subst e
  cases m with
  |nil=>rfl
  |cons x m=>exact nomatch (h x).mpr (.head _)
 ·obtain⟨a,b⟩:=iU e
  exact(nV ((h _).mp a) λx hx=>b x ((h x).mpr hx)).symm
def CO{l m:List Int}(h:∀x,x∈l↔x∈m):bR l=bR m:=by
 by_cases e:l=[]
 ·subst e
  cases m with
  |nil=>rfl
  |cons x m=>exact nomatch (h x).mpr (.head _)
 ·obtain⟨a,b⟩:=iV e
  exact(nW ((h _).mp a) λx hx=>b x ((h x).mpr hx)).symm
def dA(ns:List Int):GcdM.R3:=(bM ns,bR ns,GcdM.stepOf (bM ns) ns)
def lQ{ns:List Int}(h:ns≠[]):CutM.IsR (·∈ns) (dA ns):=by
 obtain⟨a,b⟩:=iU h
 obtain⟨c,d⟩:=iV h
 exact CutM.isR_of a b c d
def vD{ns:List Int}{r:GcdM.R3}(h:CutM.IsR (·∈ns) r):r=dA ns:=h.unique (lQ λz=>by have:=h.lo;rw[z]at this;exact nomatch this)
def LW{ns ms:List Int}(h:∀x,x∈ns↔x∈ms):dA ns=dA ms:=by
 by_cases e:ns=[]
 ·subst e
  cases ms with
  |nil=>rfl
  |cons x m=>exact nomatch (h x).mpr (.head _)
 ·exact vD ((lQ e).congr h)
def MH{ns ms:List Int}(h1:ns≠[])(h2:ms≠[]):GcdM.joinR (dA ns) (dA ms)=dA (ns++ms):=
 vD (((lQ h1).join (lQ h2)).congr λn=>qp_.symm)
def ki:List Nat->List Nat->List Nat
 |a::x,b::y=>if a=b then a::ki x y else []
 |_,_=>[]
def Bb:∀x y:List Nat,∃r,x=ki x y++r
 |[],y=>⟨[],by cases y<;>rfl⟩
 |a::x,[]=>⟨a::x,rfl⟩
 |a::x,b::y=>by
  rw[ki]
  split
  ·obtain⟨r,e⟩:=Bb x y;exact⟨r,by rw[j6,<-e]⟩
  ·exact⟨a::x,rfl⟩
def CK:∀x y:List Nat,∃r,y=ki x y++r
 |[],y=>⟨y,by cases y<;>rfl⟩
 |a::x,[]=>⟨[],rfl⟩
 |a::x,b::y=>by
  rw[ki]
  split
  ·rename_i h;obtain⟨r,e⟩:=CK x y;exact⟨r,by rw[j6,<-e,h]⟩
  ·exact⟨b::y,rfl⟩
def Ag:∀(h x y r1 r2:List Nat),x=h++r1->y=h++r2->∃r,ki x y=h++r
 |[],x,y,_,_,_,_=>⟨ki x y,rfl⟩
 |a::h,x,y,r1,r2,e1,e2=>by
  subst e1 e2
  obtain⟨r,e⟩:=Ag h (h++r1) (h++r2) r1 r2 rfl rfl
  exact⟨r,by rw[j6,j6,ki,if_pos rfl,e];rfl⟩
structure bq (ts:List Str) (hd:Str):Prop where
 all:∀t∈ts,∃r,cs t=cs hd++r
 top:∀h:List Nat,(∀t∈ts,∃r,cs t=h++r)->h.length<=(cs hd).length
def Gr{x y:List Nat}{z:List Nat}{r1 r2:List Nat}(e1:z=x++r1)(e2:z=y++r2)(l:x.length<=y.length):∃r,y=x++r:=by
 refine⟨y.drop x.length,?_⟩
 have:y.take x.length=x:=by
  have h1:z.take x.length=x:=by rw[e1,List.take_left]
  have h2:z.take x.length=y.take x.length:=by rw[e2,List.take_append_of_le_length l]
  rw[<-h2,h1]
 exact(oz x.length y).symm.trans (by rw[this])
def bq.pre{ts:List Str}{hd:Str}(ne:ts≠[])(a:bq ts hd){h:List Nat}(k:∀t∈ts,∃r,cs t=h++r):∃r,cs hd=h++r:=by
 obtain⟨t,ht⟩:=ix _ ne
 obtain⟨r1,e1⟩:=k t ht
 obtain⟨r2,e2⟩:=a.all t ht
 exact Gr e1 e2 (a.top h k)
def KN{ts:List Str}{h1 h2:Str}(ne:ts≠[])(a:bq ts h1)(b:bq ts h2):h1=h2:=by
 obtain⟨t,ht⟩:=ix _ ne
 obtain⟨r1,e1⟩:=a.all t ht
 obtain⟨r2,e2⟩:=b.all t ht
 have l1:=a.top _ b.all
 have l2:=b.top _ a.all
 exact kK (List.append_inj_left (e1.symm.trans e2) (by omega))
def bq.same{ts us:List Str}{hd:Str}(a:bq ts hd)(h:∀x,x∈ts↔x∈us):bq us hd:=⟨λt ht=>a.all t ((h t).mpr ht),λk hk=>a.top k λt ht=>hk t ((h t).mp ht)⟩
def eM:List Str->List Nat
 |[]=>[]
 |[t]=>cs t
 |t::u::l=>ki (cs t) (eM (u::l))
def vO:∀{ts:List Str},ts≠[]->bq ts ⟨(eM ts).toArray⟩
 |[],h=>absurd rfl h
 |[t],_=>⟨λu hu=>⟨[],by rw[qd1_.mp hu,jb];rfl⟩,λh k=>by
  obtain⟨r,e⟩:=k t (.head _)
  show h.length<=(cs t).length
  rw[e,b9];omega⟩
 |t::u::l,_=>by
  have ih:=vO (ts:=u::l) (by simp)
  have eh:cs ⟨(eM (t::u::l)).toArray⟩=ki (cs t) (eM (u::l)):=rfl
  have eh':cs ⟨(eM (u::l)).toArray⟩=eM (u::l):=rfl
  refine⟨λx hx=>?_,λh k=>?_⟩
  ·rw[eh]
   rcases qx_.mp hx with rfl|hx
   ·exact Bb _ _
   ·obtain⟨r,e⟩:=ih.all x hx
    obtain⟨r',e'⟩:=CK (cs t) (eM (u::l))
    rw[eh']at e
    exact⟨r'++r,by rw[e,<-jo,<-e']⟩
  ·obtain⟨r1,e1⟩:=k t (.head _)
   obtain⟨r2,e2⟩:=ih.pre (by simp) λx hx=>k x (.tail _ hx)
   rw[eh']at e2
   obtain⟨r,e⟩:=Ag h _ _ r1 r2 e1 e2
   rw[eh,e,b9];omega
def Ki{A B:List Str}{h1 h2 hd:Str}(n1:A≠[])(n2:B≠[])(a:bq A h1)(b:bq B h2)(h:bq [h1,h2] hd):bq (A++B) hd:=by
 obtain⟨r1,e1⟩:=h.all h1 (.head _)
 obtain⟨r2,e2⟩:=h.all h2 (.tail _ (.head _))
 refine⟨λt ht=>?_,λk hk=>h.top k λt ht=>?_⟩
 ·rcases qp_.mp ht with ht|ht
  ·obtain⟨r,e⟩:=a.all t ht
   exact⟨r1++r,by rw[e,e1,jo]⟩
  ·obtain⟨r,e⟩:=b.all t ht
   exact⟨r2++r,by rw[e,e2,jo]⟩
 ·simp only[List.mem_cons,List.not_mem_nil,or_false]at ht
  rcases ht with rfl|rfl
  ·exact a.pre n1 λx hx=>hk x (g6 _ hx)
  ·exact b.pre n2 λx hx=>hk x (d8 _ hx)
def jR(ts:List Str)(hd:Str):List Str:=MK.filter λm=>ts.any λt=>(cs (aV t hd)).any λc=>decide (eX c=m)
def nD{ts:List Str}{hd m:Str}:m∈jR ts hd↔∃t∈ts,∃c∈cs (aV t hd),eX c=m:=by
 unfold jR
 rw[qf2_,qL_]
 constructor
 ·rintro⟨_,t,ht,h⟩
  obtain⟨c,hc,e⟩:=qL_.mp h
  exact⟨t,ht,c,hc,dw e⟩
 ·rintro⟨t,ht,c,hc,rfl⟩
  exact⟨mark_in c,t,ht,qL_.mpr ⟨c,hc,i_ rfl⟩⟩
def pR(ts:List Str)(hd:Str):iH (jR ts hd):=List.Pairwise.sublist List.filter_sublist IZ
structure ip (ts:List Str) (hd:Str) (lo hi:Int) (ms:List Str):Prop where
 he:bq ts hd
 lo1:∃t∈ts,(t.length:Int)-(hd.length:Int)=lo
 lo2:∀t∈ts,lo<=(t.length:Int)-(hd.length:Int)
 hi1:∃t∈ts,(t.length:Int)-(hd.length:Int)=hi
 hi2:∀t∈ts,(t.length:Int)-(hd.length:Int)<=hi
 mks:ms=jR ts hd
def nF{xs ys:List Str}(hx:iH xs)(hy:iH ys)(h:∀x,x∈xs↔x∈ys):xs=ys:=
 (qU hx hy λx hx=>(h x).mp hx).eq_of_length_le (qU hy hx λx hx=>(h x).mpr hx).length_le
def ip.same{ts us:List Str}{hd:Str}{lo hi:Int}{ms:List Str}(m:ip ts hd lo hi ms)(h:∀x,x∈ts↔x∈us):ip us hd lo hi ms:=by
 obtain⟨t1,a1,b1⟩:=m.lo1
 obtain⟨t2,a2,b2⟩:=m.hi1
 refine⟨m.he.same h,⟨t1,(h _).mp a1,b1⟩,λt ht=>m.lo2 t ((h t).mpr ht),⟨t2,(h _).mp a2,b2⟩,λt ht=>m.hi2 t ((h t).mpr ht),?_⟩
 rw[m.mks]
 refine nF (pR _ _) (pR _ _) λx=>?_
 rw[nD,nD]
 exact⟨λ⟨t,ht,z⟩=>⟨t,(h t).mp ht,z⟩,λ⟨t,ht,z⟩=>⟨t,(h t).mpr ht,z⟩⟩
def ip.ne{ts:List Str}{hd:Str}{lo hi:Int}{ms:List Str}(m:ip ts hd lo hi ms):ts≠[]:=λz=>by
 obtain⟨t,ht,_⟩:=m.lo1
 rw[z]at ht
 exact nomatch ht
def ip.uniq{ts:List Str}{hd hd2:Str}{lo hi lo2 hi2:Int}{ms ms2:List Str}(a:ip ts hd lo hi ms)(b:ip ts hd2 lo2 hi2 ms2):hd=hd2/\lo=lo2/\hi=hi2/\ms=ms2:=by
 have e:=KN a.ne a.he b.he
 subst e
 obtain⟨t1,a1,b1⟩:=a.lo1
 obtain⟨t2,a2,b2⟩:=a.hi1
 obtain⟨u1,c1,d1⟩:=b.lo1
 obtain⟨u2,c2,d2⟩:=b.hi1
 have x1:=b.lo2 t1 a1
 have x2:=a.lo2 u1 c1
 have x3:=b.hi2 t2 a2
 have x4:=a.hi2 u2 c2
 exact⟨rfl,by omega,by omega,by rw[a.mks,b.mks]⟩
def vE{t h1 hd:Str}{r1 r:List Nat}(e1:cs h1=cs hd++r1)(e:cs t=cs h1++r):cs (aV t hd)=cs (aV h1 hd)++cs (aV t h1):=by
 rw[kI e,kI e1,kI (show cs t=cs hd++(r1++r) by rw[e,e1,jo])]
def IG{t hd:Str}(h:Sg t){r:List Nat}(e:cs t=cs hd++r):Sg (aV t hd):=λc hc=>by
 rw[kI e]at hc
 exact h c (by rw[e];exact d8 _ hc)
def MD{x m:Str}(h:Sg x):m∈dE x↔∃c∈cs x,eX c=m:=by
 rw[dE,qf2_,jI,qL_]
 constructor
 ·rintro⟨hm,c,hc,hd⟩
  exact⟨c,hc,(rG (h c hc) m hm).mp (dw hd)⟩
 ·rintro⟨c,hc,rfl⟩
  exact⟨mark_in c,c,hc,i_ ((rG (h c hc) _ (mark_in c)).mpr rfl)⟩
noncomputable def jc(ms ms':List Str):List Str:=aX (aH (ms++ms'))
def ip.shorter{A:List Str}{h1 hd:Str}{lo hi:Int}{ms:List Str}(a:ip A h1 lo hi ms)(sg:Sg h1){r1:List Nat}(e1:cs h1=cs hd++r1):
  (∃t∈A,(t.length:Int)-(hd.length:Int)=lo+(aV h1 hd).length)/\(∀t∈A,lo+(aV h1 hd).length<=(t.length:Int)-(hd.length:Int))/\(∃t∈A,(t.length:Int)-(hd.length:Int)=hi+(aV h1 hd).length)/\(∀t∈A,(t.length:Int)-(hd.length:Int)<=hi+(aV h1 hd).length)/\∀m,m∈jc ms (dE (aV h1 hd))↔∃t∈A,∃c∈cs (aV t hd),eX c=m:=by
 have el:(h1.length:Int)=hd.length+(aV h1 hd).length:=by
  rw[WordM.len h1,WordM.len hd,WordM.len (aV h1 hd),kI e1,e1,b9];push_cast;rfl
 obtain⟨t1,a1,b1⟩:=a.lo1
 obtain⟨t2,a2,b2⟩:=a.hi1
 refine⟨⟨t1,a1,by omega⟩,λt ht=>by have:=a.lo2 t ht;omega,⟨t2,a2,by omega⟩,λt ht=>by have:=a.hi2 t ht;omega,λm=>?_⟩
 unfold jc
 rw[sort_set_mem,qp_,a.mks,nD,MD (IG sg e1)]
 constructor
 ·rintro (⟨t,ht,c,hc,e⟩|⟨c,hc,e⟩)
  ·obtain⟨r,er⟩:=a.he.all t ht
   exact⟨t,ht,c,by rw[vE e1 er];exact d8 _ hc,e⟩
  ·obtain⟨r,er⟩:=a.he.all t1 a1
   exact⟨t1,a1,c,by rw[vE e1 er];exact g6 _ hc,e⟩
 ·rintro⟨t,ht,c,hc,e⟩
  obtain⟨r,er⟩:=a.he.all t ht
  rw[vE e1 er]at hc
  rcases qp_.mp hc with hc|hc
  ·exact .inr ⟨c,hc,e⟩
  ·exact .inl ⟨t,ht,c,hc,e⟩
def ip.app{A B:List Str}{h1 h2 hd:Str}{lo1 hi1 lo2 hi2:Int}{ms1 ms2:List Str}(a:ip A h1 lo1 hi1 ms1)(b:ip B h2 lo2 hi2 ms2)(s1:Sg h1)(s2:Sg h2)(h:bq [h1,h2] hd):
  ip (A++B) hd (min (lo1+(aV h1 hd).length) (lo2+(aV h2 hd).length)) (max (hi1+(aV h1 hd).length) (hi2+(aV h2 hd).length)) (jc (jc ms1 (dE (aV h1 hd))) (jc ms2 (dE (aV h2 hd)))):=by
 obtain⟨r1,e1⟩:=h.all h1 (.head _)
 obtain⟨r2,e2⟩:=h.all h2 (.tail _ (.head _))
 obtain⟨⟨t1,p1,q1⟩,x1,⟨u1,p2,q2⟩,y1,m1⟩:=a.shorter s1 e1
 obtain⟨⟨t2,p3,q3⟩,x2,⟨u2,p4,q4⟩,y2,m2⟩:=b.shorter s2 e2
 generalize lo1+((aV h1 hd).length:Int)=l1 at *
 generalize hi1+((aV h1 hd).length:Int)=g1 at *
 generalize lo2+((aV h2 hd).length:Int)=l2 at *
 generalize hi2+((aV h2 hd).length:Int)=g2 at *
 refine⟨Ki a.ne b.ne a.he b.he h,?_,λt ht=>?_,?_,λt ht=>?_,?_⟩
 ·by_cases z:l1<=l2
  ·exact⟨t1,g6 _ p1,by omega⟩
  ·exact⟨t2,d8 _ p3,by omega⟩
 ·rcases qp_.mp ht with ht|ht
  ·have:=x1 t ht;omega
  ·have:=x2 t ht;omega
 ·by_cases z:g1<=g2
  ·exact⟨u2,d8 _ p4,by omega⟩
  ·exact⟨u1,g6 _ p2,by omega⟩
 ·rcases qp_.mp ht with ht|ht
  ·have:=y1 t ht;omega
  ·have:=y2 t ht;omega
 ·refine nF (gB _) (pR _ _) λm=>?_
  have jm:m∈jc (jc ms1 (dE (aV h1 hd))) (jc ms2 (dE (aV h2 hd)))↔m∈jc ms1 (dE (aV h1 hd))++jc ms2 (dE (aV h2 hd)):=sort_set_mem
  rw[jm,qp_,m1,m2,nD]
  constructor
  ·rintro (⟨t,ht,z⟩|⟨t,ht,z⟩)
   ·exact⟨t,g6 _ ht,z⟩
   ·exact⟨t,d8 _ ht,z⟩
  ·rintro⟨t,ht,z⟩
   rcases qp_.mp ht with ht|ht
   ·exact .inl ⟨t,ht,z⟩
   ·exact .inr ⟨t,ht,z⟩
def qg(ts:List Str):Wd->Prop
 |.few ss=>ss=aX (aH ts)/\(aH ts).length<7
 |.make hd lo hi ms=>7<=(aH ts).length/\ip ts hd lo hi ms
def lO{ts us:List Str}(h:∀x,x∈ts↔x∈us):(aH ts).length=(aH us).length/\aX (aH ts)=aX (aH us):=by
 have p:(aH ts).Perm (aH us):=(j7 (cY _) (cY _)).mpr λx=>by rw[cP,cP,h]
 exact⟨p.length_eq,nF (gB _) (gB _) λx=>by rw[sort_set_mem,sort_set_mem,h]⟩
def qg.same{ts us:List Str}(h:∀x,x∈ts↔x∈us):∀{W:Wd},qg ts W->qg us W
 |.few ss,w=>⟨by rw[<-(lO h).2];exact w.1,by rw[<-(lO h).1];exact w.2⟩
 |.make ..,w=>⟨by rw[<-(lO h).1];exact w.1,w.2.same h⟩
def qg.uniq{ts:List Str}:∀{W W2:Wd},qg ts W->qg ts W2->W=W2
 |.few ss,.few ss2,a,b=>by rw[a.1,b.1]
 |.few ss,.make ..,a,b=>by have:=a.2;have:=b.1;omega
 |.make ..,.few ss,a,b=>by have:=a.1;have:=b.2;omega
 |.make ..,.make ..,a,b=>by
  obtain⟨e1,e2,e3,e4⟩:=a.2.uniq b.2
  rw[e1,e2,e3,e4]
def eY(ts:List Str):Wd:=
 .make ⟨(eM ts).toArray⟩ (bM (ts.map λt=>(t.length:Int)-((⟨(eM ts).toArray⟩:Str).length:Int))) (bR (ts.map λt=>(t.length:Int)-((⟨(eM ts).toArray⟩:Str).length:Int))) (jR ts ⟨(eM ts).toArray⟩)
def iS{ts:List Str}(h:ts≠[]):∃hd lo hi ms,eY ts=.make hd lo hi ms/\ip ts hd lo hi ms:=by
 refine⟨_,_,_,_,rfl,vO h,?_,λt ht=>?_,?_,λt ht=>?_,rfl⟩
 ·obtain⟨t,ht,e⟩:=qf_.mp (iU (l:=ts.map λt=>(t.length:Int)-((⟨(eM ts).toArray⟩:Str).length:Int)) (by simpa using h)).1
  exact⟨t,ht,e⟩
 ·exact(iU (l:=ts.map λt=>(t.length:Int)-((⟨(eM ts).toArray⟩:Str).length:Int)) (by simpa using h)).2 _ (qf_.mpr ⟨t,ht,rfl⟩)
 ·obtain⟨t,ht,e⟩:=qf_.mp (iV (l:=ts.map λt=>(t.length:Int)-((⟨(eM ts).toArray⟩:Str).length:Int)) (by simpa using h)).1
  exact⟨t,ht,e⟩
 ·exact(iV (l:=ts.map λt=>(t.length:Int)-((⟨(eM ts).toArray⟩:Str).length:Int)) (by simpa using h)).2 _ (qf_.mpr ⟨t,ht,rfl⟩)
noncomputable def bP(ts:List Str):Wd:=if (aH ts).length<7 then .few (aX (aH ts)) else eY ts
def BG{ts:List Str}(h:ts≠[]):qg ts (bP ts):=by
 unfold bP
 split
 ·rename_i z;exact⟨rfl,z⟩
 ·obtain⟨hd,lo,hi,ms,e,m⟩:=iS h
  rw[e]
  exact⟨by omega,m⟩
def KG{ts:List Str}(h:ts≠[]){W:Wd}(w:qg ts W):W=bP ts:=w.uniq (BG h)
def lL{ts us:List Str}(h:∀x,x∈ts↔x∈us):bP ts=bP us:=by
 by_cases e:ts=[]
 ·subst e
  cases us with
  |nil=>rfl
  |cons x m=>exact nomatch (h x).mpr (.head _)
 ·have ne:us≠[]:=λz=>by
   obtain⟨x,hx⟩:=ix _ e
   have:=(h x).mp hx
   rw[z]at this
   exact nomatch this
  exact KG ne ((BG e).same h)
def kN6:List Nat:=[0,1,2,3,4,5]
def mP(f:List Pt)(k:Nat):Option Pt:=f.find? λp=>decide (fK p=k)
def dC(vs:List Tv):Bool:=vs.any λv=>dG v==0
def i8:Tv->Option Bool
 |.leaf (.bl b)=>some b
 |_=>none
def je:Tv->Option Int
 |.leaf (.int i)=>some i
 |_=>none
def gm:Tv->Option Str
 |.leaf (.str s)=>some s
 |_=>none
def cz:Tv->Option (List Tv)
 |.seq false xs=>some xs
 |_=>none
def e7:Tv->Option (List (Str×Tv))
 |.dct k=>some k
 |_=>none
def Hw{v:Tv}{b:Str}:gm v=some b↔v=.leaf (.str b):=by
 cases v with
 |leaf x=>cases x<;>simp[gm]
 |seq t xs=>simp[gm]
 |dct k=>simp[gm]
def Hv{v:Tv}{b:List Tv}:cz v=some b↔v=.seq false b:=by
 cases v with
 |leaf x=>cases x<;>simp[cz]
 |seq t xs=>cases t<;>simp[cz]
 |dct k=>simp[cz]
def Hu{v:Tv}{b:List (Str×Tv)}:e7 v=some b↔v=.dct b:=by
 cases v with
 |leaf x=>cases x<;>simp[e7]
 |seq t xs=>simp[e7]
 |dct k=>simp[e7]
def aQ(ks:List (List (Str×Tv))):List Str:=ks.flatMap λk=>k.map (·.1)
def dM(ks:List (List (Str×Tv))):List Tv:=ks.flatMap λk=>k.map (·.2)
def i7(n:Str)(ks:List (List (Str×Tv))):List Tv:=ks.filterMap λk=>bS k n
def dJ(ls:List (List Tv)):List Int:=ls.map λl=>((l.length:Nat):Int)
def bJ(ks:List (List (Str×Tv))):List Int:=ks.map λl=>((l.length:Nat):Int)
abbrev l_:=Str×Bool×List Pt
noncomputable def cW(D:List Tv->List Pt)(ks:List (List (Str×Tv)))(n:Str):l_:=(n,ks.all (λk=>decide (n∈k.map (·.1))),D (i7 n ks))
noncomputable def di(D:List Tv->List Pt)(ks:List (List (Str×Tv))):Pt:=
 if (aH (aQ ks)).length<=8 then .record (bM (bJ ks)) (bR (bJ ks)) ((aX (aH (aQ ks))).map (cW D ks)) else .table (bM (bJ ks)) (bR (bJ ks)) (bP (aQ ks)) (D (dM ks))
noncomputable def bI(D:List Tv->List Pt)(vs:List Tv):Nat->Option Pt
 |0=>if dC vs=true then some .nothing else none
 |1=>if vs.filterMap i8=[] then none else some (.truths (bw (cm (vs.filterMap i8)) (ck (vs.filterMap i8))))
 |2=>if vs.filterMap je=[] then none else some (.numbers (dA (vs.filterMap je)).1 (dA (vs.filterMap je)).2.1 (dA (vs.filterMap je)).2.2)
 |3=>if vs.filterMap gm=[] then none else some (.texts (bP (vs.filterMap gm)))
 |4=>if vs.filterMap cz=[] then none else some (.lists (bM (dJ (vs.filterMap cz))) (bR (dJ (vs.filterMap cz))) (D (vs.filterMap cz).flatten))
 |5=>if vs.filterMap e7=[] then none else some (di D (vs.filterMap e7))
 |_=>none
noncomputable def bG:Nat->List Tv->List Pt
 |0,_=>[]
 |n+1,vs=>kN6.filterMap (bI (bG n) vs)
def Lz{D:List Tv->List Pt}{vs:List Tv}{k:Nat}{p:Pt}(h:bI D vs k=some p):fK p=k:=by
 unfold bI at h
 split at h
 all_goals first|(cases h;done)|skip
 all_goals
  split at h
  all_goals first|(cases h;done)|skip
 all_goals first|(cases h;rfl;done)|skip
 ·cases h
  unfold di
  split<;>rfl
def zy{o:Nat->Option Pt}(ho:∀k p,o k=some p->fK p=k):∀(l:List Nat) (k:Nat),k∈l->l.Nodup->mP (l.filterMap o) k=o k
 |[],k,h,_=>nomatch h
 |j::l,k,h,n=>by
  have hn:=qG1_.mp n
  rw[il]
  by_cases z:j=k
  ·subst z
   cases e:o j with
   |none=>
    dsimp only
    have:mP (l.filterMap o) j=none:=by
     unfold mP
     rw[qi3_]
     intro p hp hk
     obtain⟨i,hi,ei⟩:=qc1_.mp hp
     have:=ho i p ei
     have hk:=dw hk
     rw[this]at hk
     subst hk
     exact hn.1 hi
    rw[this]
   |some p=>
    dsimp only
    unfold mP
    rw[i3,i_ (ho j p e)]
  ·have hk:k∈l:=by
    rcases qx_.mp h with q|q
    ·exact absurd q.symm z
    ·exact q
   have ih:=zy ho l k hk hn.2
   cases e:o j with
   |none=>exact ih
   |some p=>
    dsimp only
    unfold mP
    rw[i3,g4 (λq=>z (by rw[<-ho j p e];exact q))]
    exact ih
def nX{α:Type}{f:Tv->Option α}{A B:List Tv}(h:∀v,v∈A↔v∈B)(x:α):x∈A.filterMap f↔x∈B.filterMap f:=by
 rw[qc1_,qc1_]
 exact⟨λ⟨a,ha,e⟩=>⟨a,(h a).mp ha,e⟩,λ⟨a,ha,e⟩=>⟨a,(h a).mpr ha,e⟩⟩
def nO{α:Type}{A B:List α}(h:∀v,v∈A↔v∈B):(A=[])=(B=[]):=by
 rw[eq_iff_iff,qb2_,qb2_]
 exact⟨λk a ha=>k a ((h a).mpr ha),λk a ha=>k a ((h a).mp ha)⟩
def vT{α:Type}{p:α->Bool}{A B:List α}(h:∀v,v∈A↔v∈B):A.any p=B.any p:=by
 rw[h_,qL_,qL_]
 exact⟨λ⟨a,ha,e⟩=>⟨a,(h a).mp ha,e⟩,λ⟨a,ha,e⟩=>⟨a,(h a).mpr ha,e⟩⟩
def J5{α:Type}{p:α->Bool}{A B:List α}(h:∀v,v∈A↔v∈B):A.all p=B.all p:=by
 rw[h_,qM1_,qM1_]
 exact⟨λk a ha=>k a ((h a).mpr ha),λk a ha=>k a ((h a).mp ha)⟩
def qX{α β:Type}{f:α->β}{A B:List α}(h:∀v,v∈A↔v∈B)(x:β):x∈A.map f↔x∈B.map f:=by
 rw[qf_,qf_]
 exact⟨λ⟨a,ha,e⟩=>⟨a,(h a).mp ha,e⟩,λ⟨a,ha,e⟩=>⟨a,(h a).mpr ha,e⟩⟩
def zK{α β:Type}{f:α->List β}{A B:List α}(h:∀v,v∈A↔v∈B)(x:β):x∈A.flatMap f↔x∈B.flatMap f:=by
 rw[qr1_,qr1_]
 exact⟨λ⟨a,ha,e⟩=>⟨a,(h a).mp ha,e⟩,λ⟨a,ha,e⟩=>⟨a,(h a).mpr ha,e⟩⟩
def Kc{D:List Tv->List Pt}(hD:∀A B:List Tv,(∀v,v∈A↔v∈B)->D A=D B){ks js:List (List (Str×Tv))}(h:∀v,v∈ks↔v∈js):di D ks=di D js:=by
 have hn:∀x,x∈aQ ks↔x∈aQ js:=zK h
 have e1:bM (bJ ks)=bM (bJ js):=CQ (qX h)
 have e2:bR (bJ ks)=bR (bJ js):=CO (qX h)
 have e3:cW D ks=cW D js:=by
  funext n
  unfold cW
  rw[J5 h,hD (i7 n ks) (i7 n js) λv=>by
   unfold i7
   rw[qc1_,qc1_]
   exact⟨λ⟨a,ha,e⟩=>⟨a,(h a).mp ha,e⟩,λ⟨a,ha,e⟩=>⟨a,(h a).mpr ha,e⟩⟩]
 unfold di
 rw[(lO hn).1,(lO hn).2,e1,e2,e3,lL hn,hD (dM ks) (dM js) (zK h)]
def LA{D:List Tv->List Pt}(hD:∀A B:List Tv,(∀v,v∈A↔v∈B)->D A=D B){A B:List Tv}(h:∀v,v∈A↔v∈B)(k:Nat):bI D A k=bI D B k:=by
 unfold bI
 split
 ·rw[show dC A=dC B from vT h]
 ·have hb:=nX (f:=i8) h
  simp only[nO hb]
  rw[show cm (A.filterMap i8)=cm (B.filterMap i8) from vT hb,show ck (A.filterMap i8)=ck (B.filterMap i8) from vT hb]
 ·have hb:=nX (f:=je) h
  simp only[nO hb]
  rw[LW hb]
 ·have hb:=nX (f:=gm) h
  simp only[nO hb]
  rw[lL hb]
 ·have hb:=nX (f:=cz) h
  simp only[nO hb]
  have e1:bM (dJ (A.filterMap cz))=bM (dJ (B.filterMap cz)):=CQ (qX hb)
  have e2:bR (dJ (A.filterMap cz))=bR (dJ (B.filterMap cz)):=CO (qX hb)
  rw[e1,e2,hD (A.filterMap cz).flatten (B.filterMap cz).flatten λv=>by
   rw[qs1_,qs1_]
   exact⟨λ⟨l,hl,e⟩=>⟨l,(hb l).mp hl,e⟩,λ⟨l,hl,e⟩=>⟨l,(hb l).mpr hl,e⟩⟩]
 ·have hb:=nX (f:=e7) h
  simp only[nO hb]
  rw[Kc hD hb]
 ·rfl
def nH:∀(n:Nat) (A B:List Tv),(∀v,v∈A↔v∈B)->bG n A=bG n B
 |0,_,_,_=>rfl
 |n+1,A,B,h=>by
  show kN6.filterMap (bI (bG n) A)=kN6.filterMap (bI (bG n) B)
  rw[show bI (bG n) A=bI (bG n) B from funext (LA (nH n) h)]
def A0(n:Nat):bG n []=[]:=by
 cases n with
 |zero=>rfl
 |succ n=>rfl
end L2
namespace My
open PySem L2 PyProof.Rows WordM
def top(i:Nat):Stmt:=PySem.Challenge.pw_leastform_k43_told_of_samples.main.body.getD i (.Pass ⟨0,0,0,0⟩)
abbrev xq:Stmt:=top 4
abbrev xp:Stmt:=top 6
abbrev xo:Stmt:=top 7
abbrev xn:Stmt:=top 8
abbrev xl:Stmt:=top 9
abbrev wy:Stmt:=top 14
abbrev wx:Stmt:=top 15
abbrev xk:Stmt:=top 16
abbrev xj:Stmt:=top 17
abbrev s_:Stmt:=top 18
abbrev yI:Stmt:=top 19
abbrev yH:Stmt:=top 20
abbrev yG:Stmt:=top 21
abbrev yF:Stmt:=top 22
abbrev yE:Stmt:=top 23
abbrev yD:Stmt:=top 28
abbrev yC:Stmt:=top 29
abbrev tJ:Stmt:=top 30
abbrev tI:Stmt:=top 32
abbrev mW:Stmt:=top 33
abbrev tH:Stmt:=top 34
abbrev tG:Stmt:=top 35
abbrev tF:Stmt:=top 36
abbrev pI:Stmt:=top 37
abbrev pH:Stmt:=top 38
abbrev tE:Stmt:=top 39
abbrev pG:Stmt:=top 40
abbrev pF:Stmt:=top 41
abbrev pE:Stmt:=top 42
abbrev pD:Stmt:=top 43
abbrev mV:Stmt:=top 44
abbrev mU:Stmt:=top 45
abbrev pC:Stmt:=top 46
abbrev yB:Stmt:=top 48
abbrev yA:Stmt:=top 49
abbrev xZ:Stmt:=top 50
abbrev xY:Stmt:=top 51
abbrev xX:Stmt:=top 52
abbrev xW:Stmt:=top 53
abbrev xV:Stmt:=top 54
abbrev tD:Stmt:=top 55
abbrev xU:Stmt:=top 56
abbrev xT:Stmt:=top 57
abbrev sZ:Stmt:=top 58
abbrev pB:Stmt:=top 59
abbrev sX:Stmt:=top 60
abbrev kZ:Stmt:=top 61
abbrev mT:Stmt:=top 62
abbrev xS:Stmt:=top 63
abbrev xR:Stmt:=top 64
abbrev kY:Stmt:=top 65
abbrev xQ:Stmt:=top 66
abbrev kX:Stmt:=top 67
abbrev gR:Stmt:=top 68
abbrev iG:Stmt:=top 69
section
variable{P:Program}{w:World}{K:W.Frag}{mg:Str->Option Value}{base:Heap}
def _root_.L2.On.put{p c:Addr}{H:Hp}(d:bj H p c)(S k:Int):On p c H (ar H p (.lst [.ref c,.int S,.int k])):=by
 obtain⟨ns,e',l⟩:=d.cs
 exact⟨⟨d.ne,⟨S,k,bA⟩,ns,by rw[bL d.ne.symm];exact e',l⟩,λb o h hp _=>by rw[bL hp];exact h⟩
theorem _root_.L2.On.cut{p c:Addr}{H:Hp}(d:bj H p c)(ns:List Int)(h:ns.length<=64):On p c H (ar H c (.lst (ns.map V.int))):=by
 obtain⟨S,k,e⟩:=d.dk
 exact⟨⟨d.ne,⟨S,k,by rw[bL d.ne];exact e⟩,ns,bA,h⟩,λb o h _ hc=>by rw[bL hc];exact h⟩
theorem KL(ns:List Int):(ns.map V.int).all dL=true:=by
 rw[List.all_map]
 exact qM1_.mpr λ_ _=>rfl
theorem Kg(ns:List Int):fY (ns.map V.int) []=ns.isEmpty:=by cases ns<;>rfl
def sc_mixed:bB ["_law_number_here","_law_k"] ["_law_number_here","_law_k"] (aN yB):=b8 (by decide +kernel)
def JA(h:ak K mg "_law_mixed" yB):cv P w K mg base 1 "_law_mixed" ["_law_number_here","_law_k"] Bx:=by
 refine h.good sc_mixed (fun|_,_,_,_,_,_,[_,_],_=>rfl) (λvs H Q E q=>?_) (λf cdv A outer s H vs Q E hr q=>?_)
 ·obtain⟨n,k,rfl,_⟩:=q
  rfl
 ·obtain⟨n,k,rfl,q⟩:=q
  have nd:=sc_mixed.nd
  refine⟨_,(gE (jU (i:=0) nd rfl (by first|exact Or.inl rfl|exact Or.inr rfl) (cO jA (cO op_mul (cO op_add (cO op_add (cO jA (pv 0) cL) (cO op_mul cL (pv 1))) cL) cL) cL))
   (gE (jU (i:=0) nd rfl (by first|exact Or.inl rfl|exact Or.inr rfl) (cO jA (cO op_add (cO op_add (cO op_mul (pv 0) (pv 0)) (cO op_mul cL (pv 1))) cL) cL))
   (kL (kO (cO BU (cO jA (cO op_mul (cO op_add (cO op_mul (cO jA (pv 0) cL) cL) (cO BU (pv 0) cL)) cL) cL) cL))))),?_⟩
  refine⟨_,rfl,_,_,rfl,rfl,(by show(0:Int)<_;decide),_,rfl,_,_,rfl,rfl,.inl ⟨by decide,by decide⟩,_,_,rfl,rfl,_,_,rfl,rfl,_,_,rfl,rfl,.inr ⟨by decide,by decide⟩,_,_,rfl,rfl,(by show(0:Int)<_;decide),?_⟩
  refine⟨_,rfl,_,rfl,_,_,rfl,rfl,?c,_,rfl,_,_,rfl,rfl,.inl ⟨by decide,by decide⟩,_,_,rfl,rfl,_,_,rfl,rfl,_,_,rfl,rfl,(by show(0:Int)<_;decide),?_⟩
  case c=>
   refine .inl ⟨?_,?_⟩
   ·exact Int.lt_of_lt_of_le (by decide) (i4 _ (by decide))
   ·exact Int.lt_trans (i5 _ (by decide)) (by decide)
  refine⟨_,rfl,_,_,rfl,rfl,(by show(0:Int)<_;decide),_,_,rfl,rfl,.inr ⟨by decide,by decide⟩,_,rfl,_,_,rfl,rfl,⟨by decide,by decide⟩,_,_,rfl,rfl,_,_,rfl,rfl,.inr ⟨by decide,by decide⟩,_,_,rfl,rfl,(by show(0:Int)<_;decide),_,_,rfl,rfl,⟨by decide,by decide⟩,?_⟩
  exact q _
def sc_deck:bB ["_law_script","_law_cells"] ["_law_script"] (aN yA):=b8 (by decide +kernel)
theorem FU(ns:List Int):fZ (ns.map V.int) none (some 63)=(ns.take 63).map V.int:=by
 unfold fZ
 have e1:HT.sIx (ns.map V.int).length 0 none=0:=rfl
 rw[e1,m_,Nat.sub_zero,List.map_take]
 by_cases h:ns.length<=63
 ·rw[mq (by simp[HT.sIx]<;>omega),mq (by simpa using h)]
 ·congr 1
  simp[HT.sIx]<;>omega
theorem GC(h:ak K mg "_law_deck" yA)(B:Own mg):cv P w K mg base 1 "_law_deck" ["_law_script"] (AM K):=by
 refine h.good sc_deck (fun|_,_,_,_,_,_,[_],_=>rfl) (λvs H Q E q=>?_) (λf cdv A outer s H vs Q E hr q=>?_)
 ·obtain⟨a,ns,rfl,_⟩:=q
  rfl
 ·obtain⟨a,ns,rfl,hS,q⟩:=q
  have nd:=sc_deck.nd
  refine⟨_,(gE (jU (i:=1) nd rfl (by first|exact Or.inl rfl|exact Or.inr rfl) (gD zM rfl B.list_ boot_list (cT (Bl sl_list (pv 0) BZ (B0 cL)) dD)))
   (kL (kO (@BW _ _ _ _ (@yJ _ _ _ _ _ (Gh (pv 1) (xL wV cL)) (@yJ _ _ _ _ _ (cO op_add (iN (Lv rfl) rfl B.sum boot_sum (cT (pv 1) dD)) (cO op_mul cL (iN call_len_seq rfl B.len de (cT (pv 1) dD)))) (@yJ _ _ _ _ _ cL AH rfl) rfl) rfl))))),?_⟩
  refine⟨_,rfl,_,rfl,a,_,rfl,hS,λl1 h1=>?_⟩
  have e1:ar H l1 (.lst (fZ (ns.map V.int) none (some 63)))=ar H l1 (.lst ((ns.take 63).map V.int)):=by rw[FU]
  rw[e1]
  refine⟨l1,_,rfl,.inl (b5.of bA),λl2 h2=>?_⟩
  refine⟨_,rfl,_,rfl,rfl,l2,_,rfl,b5.of bA,λl3 h3=>?_⟩
  have n23:l2≠l3:=dQ bA h3
  refine⟨_,rfl,l2,ns.take 63,rfl,b5.of (by rw[bL n23];exact bA),_,rfl,l2,_,rfl,.inl (b5.of (by rw[bL n23];exact bA)),_,_,rfl,rfl,.inl ⟨by decide,by decide⟩,_,_,rfl,rfl,(by show 3<=sizeLine;decide),λl4 h4=>?_⟩
  have n34:l3≠l4:=dQ bA h4
  have f1:∀b o,H b=some o->ar H l1 (.lst ((ns.take 63).map V.int)) b=some o:=λb o e=>by rw[bL (dQ e h1)];exact e
  have s1:ax H (ar H l1 (.lst ((ns.take 63).map V.int))):=f1
  have s2:ax H (ar (ar H l1 (.lst ((ns.take 63).map V.int))) l2 (.lst ((ns.take 63).map V.int))):=λb o e=>by rw[bL (dQ (s1 b o e) h2)];exact s1 b o e
  have s3:ax H (ar (ar (ar H l1 (.lst ((ns.take 63).map V.int))) l2 (.lst ((ns.take 63).map V.int))) l3 (.lst ((ns.take 63).map V.int).reverse)):=λb o e=>by rw[bL (dQ (s2 b o e) h3)];exact s2 b o e
  refine q l4 l3 _ (s3.free h4) (s2.free h3) ⟨n34.symm,⟨_,_,bA⟩,(ns.take 63).reverse,?_,?_⟩ λb o e=>?_
  ·rw[bL n34,bA,List.map_reverse]
  ·rw[jn,jh];omega
  ·rw[bL (dQ (s3 b o e) h4)];exact s3 b o e
def sc_take:bB ["_law_deck_here","_law_most","_law_cell"] ["_law_deck_here","_law_most"] (aN xZ):=b8 (by decide +kernel)
theorem GD(h:ak K mg "_law_take" xZ)(G33_:cv P w K mg base 1 "_law_mixed" ["_law_number_here","_law_k"] Bx):cv P w K mg base 2 "_law_take" ["_law_deck_here","_law_most"] AN:=by
 refine h.good sc_take (fun|_,_,_,_,_,_,[_,_],_=>rfl) (λvs H Q E q=>?_) (λf cdv A outer s H vs Q E hr q=>?_)
 ·obtain⟨p,c,m,rfl,_⟩:=q
  rfl
 ·obtain⟨p,c,m,rfl,d,hm,hB,q⟩:=q
  have nd:=sc_take.nd
  have hu:=Nat.lt_of_succ_lt (oX hr)
  obtain⟨hne,⟨S,k,hp⟩,ns,hc,hl⟩:=id d
  refine⟨_,(gE (Gs (cO op_add (jE ix_list (pv 0) cL (λ_ _=>rfl)) cL) (Gn (pv 0) cL LC))
   (gE (sI (wC (F4 hu) (jE ix_list (pv 0) cL (λ_ _=>rfl)) (@BW _ _ _ _ AH) (mE _))
    (kL (kO (cO jA (oS G33_ (hr.mono (by first|decide|omega)) rfl (cT (jE ix_list (pv 0) cL (λ_ _=>rfl)) (cT (jE ix_list (pv 0) cL (λ_ _=>rfl)) dD))) (pv 1))))
    rE)
   (gE (jU (i:=2) nd rfl (by first|exact Or.inl rfl|exact Or.inr rfl) (AC PySem.F.plainAttrs_list PySem.F.slot_list_pop PySem.F.type_list_pop GU (jE ix_list (pv 0) cL (λ_ _=>rfl))))
   (gE (sI (wC op_lt (pv 2) (cO Ay cL cL) (mE _))
    (kL (kO (cO jA (oS G33_ (hr.mono (by first|decide|omega)) rfl (cT (pv 2) (cT (jE ix_list (pv 0) cL (λ_ _=>rfl)) dD))) (pv 1))))
    rE)
   (gE (Bp (oU PySem.F.plainAttrs_list PySem.F.slot_list_append PySem.F.type_list_append uT (jE ix_list (pv 0) cL (λ_ _=>rfl)) (cT (cO Bi (pv 2) (pv 1)) dD)))
   (kL (kO (cO jA (pv 2) (pv 1))))))))),?_⟩
  -- deck[2]=deck[2]+1
  refine⟨_,rfl,p,_,_,_,rfl,rfl,b5.of hp,rfl,_,_,rfl,rfl,_,rfl,p,_,_,2,rfl,rfl,hp,rfl,?_⟩
  have o1:On p c H (ar H p (.lst [.ref c,.int S,.int (k+1)])):=On.put d S (k+1)
  have hc1:ar H p (.lst [.ref c,.int S,.int (k+1)]) c=some (.lst (ns.map V.int)):=by rw[bL hne.symm];exact hc
  -- if deck[0]==[]
  refine⟨_,rfl,p,_,_,_,rfl,rfl,b5.of bA,rfl,d6 _,λl hfree=>?_⟩
  have npl:p≠l:=(o1.d.nep hfree).symm
  have ncl:c≠l:=(o1.d.nec hfree).symm
  have o2:=o1.alloc (o:=.lst []) hfree
  have hp2:ar (ar H p (.lst [.ref c,.int S,.int (k+1)])) l (.lst []) p=some (.lst [.ref c,.int S,.int (k+1)]):=by rw[bL npl];exact bA
  have hc2:ar (ar H p (.lst [.ref c,.int S,.int (k+1)])) l (.lst []) c=some (.lst (ns.map V.int)):=by rw[bL ncl];exact hc1
  refine⟨c,l,_,[],rfl,rfl,b5.of hc2,b5.of bA,KL ns,rfl,_,rfl,?_⟩
  rw[show(if false=true then !fY (ns.map V.int) [] else fY (ns.map V.int) [])=ns.isEmpty from Kg ns]
  have fin:∀r H',On p c H H'->Q (.int (r % m)) H':=λr H' o=>q (r % m) H' (i4 _ (by omega)) (i5 _ hm) o
  rcases List.eq_nil_or_concat ns with e|⟨init,z,e⟩
  ·subst e
   refine bW ?_
   refine⟨_,rfl,p,_,_,_,rfl,rfl,b5.of hp2,rfl,_,rfl,p,_,_,_,rfl,rfl,b5.of hp2,rfl,_,_,rfl,λr=>?_⟩
   exact⟨_,rfl,_,_,rfl,rfl,hm,fin r _ o2⟩
  ·rw[List.concat_eq_append]at e
   subst e
   rw[show(init++[z]).isEmpty=false by simp]
   refine aR ?_
   have hlast:((init++[z]).map V.int)[((init++[z]).map V.int).length-1]?=some (.int z):=by simp
   have hdrop:((init++[z]).map V.int).dropLast=init.map V.int:=by simp
   -- cell=deck[0].pop()
   refine⟨_,rfl,p,_,_,_,rfl,rfl,b5.of hp2,rfl,.inl ⟨rfl,_,b5.of hc2⟩,c,_,_,rfl,rfl,hc2,hlast,?_⟩
   rw[hdrop]
   have hli:init.length<=63:=by rw[b9,ke]at hl;omega
   have o3:=o2.trans (On.cut o2.d init (by omega))
   have hp3:ar (ar (ar H p (.lst [.ref c,.int S,.int (k+1)])) l (.lst [])) c (.lst (init.map V.int)) p=some (.lst [.ref c,.int S,.int (k+1)]):=by rw[bL hne];exact hp2
   -- if cell<10 ** 18
   refine⟨_,rfl,_,_,rfl,rfl,⟨by decide,by decide,by decide⟩,_,_,rfl,rfl,_,rfl,?_⟩
   refine Eu (λ_=>?_) (λ_=>?_)
   ·refine⟨_,rfl,_,rfl,p,_,_,_,rfl,rfl,b5.of hp3,rfl,_,_,rfl,λr=>?_⟩
    exact⟨_,rfl,_,_,rfl,rfl,hm,fin r _ o3⟩
   ·refine⟨_,rfl,p,_,_,_,rfl,rfl,b5.of hp3,rfl,.inl ⟨rfl,_,b5.of bA⟩,_,rfl,_,rfl,_,_,rfl,rfl,⟨hm,hB⟩,c,_,_,rfl,rfl,bA,MP (by rw[ao];omega),?_⟩
    rw[show init.map V.int++[V.int (z / m)]=(init++[z / m]).map V.int by simp]
    have o4:=o3.trans (On.cut o3.d (init++[z / m]) (by rw[b9,ke];omega))
    exact⟨_,rfl,_,rfl,_,_,rfl,rfl,hm,fin z _ o4⟩
end
section
variable{P:Program}{w:World}{K:W.Frag}{mg:Str->Option Value}{base:Heap}
def rD:bu:=λas R=>as=[]/\R (sT fh)
def u9:bB ["_law_signs_here"] [] (aN xY):=b8 (by decide +kernel)
def EJ(h:ak K mg "_law_signs" xY)(B:Own mg)    : ae P w K mg base 1 "_law_signs" [] rD:=by
 have nd:=u9.nd
 refine h.pgood u9 (fun|_,_,_,_,_,_,[],_=>rfl) (λf cdv A outer s H E F hr=>
   (aI (aZ 0 nd aY)
   (aJ (aO (bN cZ (aC 0) aY))))) (λas R q=>?_)
 obtain⟨rfl,q⟩:=q
 exact⟨rfl,show sigA.length+sigB.length<=100000 by decide +kernel,q⟩
def rS:bu:=λas R=>∃m:Int,as=[.dk,.va (iT m)]/\0<=m/\m<=1000/\∀x:Str,Sg x->(x.length:Int)<=m->R (sT x)
def Gw{z:Str}{r:Int}(h0:0<=r)(h1:r<z.length):∃c,jd z.cps.toList r=some c/\c∈cs z:=by
 have hl:r.toNat<(cs z).length:=by rw[<-WordM.len];omega
 refine⟨(cs z)[r.toNat],?_,jl hl⟩
 have:=bH (xs:=cs z) (j:=r.toNat) (b_ hl)
 rw[show((r.toNat:Nat):Int)=r by omega]at this
 exact this
def kB{α:Type}{l:List α}{r:Int}(h0:0<=r)(h1:r<l.length):∃m,jd l r=some m/\m∈l:=by
 have hl:r.toNat<l.length:=by omega
 refine⟨l[r.toNat],?_,jl hl⟩
 have:=bH (xs:=l) (j:=r.toNat) (b_ hl)
 rw[show((r.toNat:Nat):Int)=r by omega]at this
 exact this
def u7:bB ["_law_deck_here","_law_most","_law_signs_here","_law_some","_law_text_here","_law_k"] ["_law_deck_here","_law_most"] (aN xX):=b8 (by decide +kernel)
def EK(h:ak K mg "_law_text" xX)(B:Own mg)(G36_:ae P w K mg base 1 "_law_signs" [] rD)(G35_:ae P w K mg base 2 "_law_take" ["_law_deck_here","_law_most"] fT)   : ae P w K mg base 3 "_law_text" ["_law_deck_here","_law_most"] rS:=by
 have nd:=u7.nd
 refine h.pgood u7 (fun|_,_,_,_,_,_,[_,_],_=>rfl) (λf cdv A outer s H E F hr=>
   (aI (aZ 2 nd (zo G36_ (hr.mono (by omega)) rfl))
   (aI (aZ 3 nd (aU hr (bE (cD (aD (aC 2) (aD (aC 2) (aD aY (aD aY (aD aY (aD aY aE)))))))) (aL G35_ hr (bZ 0 (aD aG aE)))))
   (aI (aZ 4 nd aY)
   (aI (eF (m:=6) ic rfl (jP rfl B.range (aD (aL G35_ hr (bZ 0 (aD (bN cZ (aC 1) aG) aE))) aE)) (dI 5 (by decide) nd rfl (.inl rfl))
    (aJ (aZ 4 nd (bN cZ (aC 4) (aU hr (aC 3) (aL G35_ hr (bZ 0 (aD (bF cE rfl B.len de (aD (aC 3) aE)) aE))))))))
   (aJ (aO (aC 4)))))))) (λas R q=>?_)
 obtain⟨m,rfl,m0,m1,q⟩:=q
 refine⟨rfl,rfl,?_⟩
 refine⟨by decide,rfl,6,rfl,by decide,cM (by decide) (by decide),λr r0 r6=>?_⟩
 obtain⟨z,hz,hzm⟩:=kB (l:=[sT fh,sT fh,sT "0123456789",sT "abc",sT "XYZ",sT "a1"]) r0 r6
 refine⟨z,hz,?_⟩
 have hzs:∃y,z=sT y/\Sg y/\0<y.length/\y.length<=100:=by
  simp only[List.mem_cons,List.not_mem_nil,or_false]at hzm
  rcases hzm with e|e|e|e|e|e<;>subst e
  ·exact⟨_,rfl,λ_ h=>h,by decide +kernel,by decide +kernel⟩
  ·exact⟨_,rfl,λ_ h=>h,by decide +kernel,by decide +kernel⟩
  ·exact⟨_,rfl,by decide +kernel,by decide +kernel,by decide +kernel⟩
  ·exact⟨_,rfl,by decide +kernel,by decide +kernel,by decide +kernel⟩
  ·exact⟨_,rfl,by decide +kernel,by decide +kernel,by decide +kernel⟩
  ·exact⟨_,rfl,by decide +kernel,by decide +kernel,by decide +kernel⟩
 clear hz hzm
 obtain⟨y,rfl,y1,y2,y3⟩:=hzs
 refine⟨rfl,m+1,rfl,by omega,cM (by omega) (by omega),λn n0 n1=>⟨n,rfl,by omega,by omega,?_⟩⟩
 refine kJ (λi ρ=>∃(x:Str) (s:Sl),Sg x/\x.length=i/\ρ=[.dk,.va (iT m),.va (sT fh),.va (sT y),.va (sT x),s]) ⟨⟨#[]⟩,.no,HJ,rfl,rfl⟩ ?_ ?_
 ·rintro i T _ N hT ⟨x,s,sx,lx,rfl⟩ hN
  have hi:=(qT hT).1
  refine⟨rfl,by omega,?_⟩
  refine⟨y.length,rfl,by omega,cM (by omega) (by omega),λk k0 k1=>⟨by omega,?_⟩⟩
  obtain⟨c,hc,hcm⟩:=Gw (z:=y) k0 k1
  refine⟨c,hc,by show x.length+1<=100000;omega,hN _ ⟨x++⟨#[c]⟩,_,sx.app (y1.one hcm),?_,rfl⟩⟩
  rw[WordM.len,WordM.app,b9,<-WordM.len,lx]
  rfl
 ·rintro _ ⟨x,s,sx,lx,rfl⟩
  refine q x sx ?_
  rw[lx,iM]
  omega
end
section
variable{P:Program}{w:World}{K:W.Frag}{mg:Str->Option Value}{base:Heap}
def HK(a:Int):Sg ⟨#[fI a]⟩:=λcc hc=>by
 have e:cc=fI a:=by simpa using hc
 rw[e]
 exact MM _
def zd(m:Int)(ss:List Str):Prop:=ss.Nodup/\∀s∈ss,Sg s/\(s.length:Int)<=(if m<1 then 1 else m)
def vF:bu:=λas R=>∃n m:Int,as=[.dk,.va (iT n),.va (iT m)]/\0<=n/\n<=63/\0<=m/\m<=1000/\∀ss:List Str,(ss.length:Int)=n->zd m ss->R (.seq false (ss.map sT))
def u6:bB ["_law_deck_here","_law_many","_law_most","_law_signs_here","_law_found","_law_k","_law_text_here","_law_at"] ["_law_deck_here","_law_many","_law_most"] (aN xW):=b8 (by decide +kernel)
theorem EL(h:ak K mg "_law_unlike" xW)(B:Own mg)(G36_:ae P w K mg base 1 "_law_signs" [] rD)(G37_:ae P w K mg base 3 "_law_text" ["_law_deck_here","_law_most"] rS)   : ae P w K mg base 4 "_law_unlike" ["_law_deck_here","_law_many","_law_most"] vF:=by
 have nd:=u6.nd
 refine h.pgood u6 (fun|_,_,_,_,_,_,[_,_,_],_=>rfl) (λf cdv A outer s H E F hr=>
   (aI (aZ 3 nd (zo G36_ (hr.mono (by omega)) rfl))
   (aI (gP 4 nd (cD aE))
   (aI (eF (m:=8) ic rfl (jP rfl B.range (aD (aC 1) aE)) (dI 5 (by decide) nd rfl (.inl rfl))
    (aI (aZ 6 nd (aL G37_ hr (bZ 0 (aD (aC 2) aE))))
    (aI (aZ 7 nd (rO PySem.F.slot_str_find PySem.F.type_str_find Im (aC 3) (aD (iL jD (aC 6) iR (iQ aG)) aE)))
    (aI (nJ ic (BB λF=>(dF (mK hr.units) (aC 6) (aC 4) rfl))
     (aI (aZ 7 nd (bN wY (bN cZ (aC 7) aG) (bF cE rfl B.len de (aD (aC 3) aE))))
     (aJ (aZ 6 nd (bN cZ (aU hr (aC 3) (aC 7)) (iL jD (aC 6) (iQ aG) iR))))))
    (aJ (eC (fP 4 (aC 6))))))))
   (aJ (aO (aC 4))))))) (λas R q=>?_)
 obtain⟨n,m,rfl,n0,n63,m0,m1,q⟩:=q
 have hsl:fh.length=94:=wA
 refine⟨rfl,rfl,by decide,n,rfl,by omega,by omega,?_⟩
 refine kJ (λi ρ=>∃(ss:List Str) (s5 s6 s7:Sl),ss.length=i/\zd m ss/\ρ=[.dk,.va (iT n),.va (iT m),.va (sT fh),.own (ss.map sT),s5,s6,s7]) ⟨[],.no,.no,.no,rfl,⟨ka,λs hs=>nomatch hs⟩,rfl⟩ ?_ ?_
 ·rintro i T _ N hT ⟨ss,s5,s6,s7,hlen,htx,rfl⟩ hN
  obtain⟨hi,rfl⟩:=qT hT
  refine⟨rfl,m,rfl,m0,m1,λx0 sx0 hx0=>?_⟩
  refine⟨rfl,1,rfl,by omega,fh,_,rfl,rfl,λa0=>?_⟩
  let r:Str:=Txt.slice x0 (some 1) none
  have hr1:r.length+1<=(if x0.length<1 then 1 else x0.length):=LX x0
  have sr:Sg r:=sx0.slice _ _
  refine⟨λM ρ=>∃(j:Nat) (x:Str),M+j=ss.length+2/\j<=ss.length+1/\(∀i,1<=i->i<j->fL a0 r i∈ss)/\(j=0/\x=x0\/1<=j/\x=fL a0 r j) /\
    ρ=[.dk,.va (iT n),.va (iT m),.va (sT fh),.own (ss.map sT),.va (iT (0+(i:Int))),.va (sT x),.va (iT (if j=0 then a0 else(a0+j) % 94))],
   ⟨ss.length+2,0,x0,rfl,d6 _,λi h1 h2=>absurd h2 (qq _),.inl ⟨rfl,rfl⟩,rfl⟩,?_⟩
  rintro M _ ⟨j,x,hM,hj,htr,hx,rfl⟩
  have hxl:Sg x/\(x.length:Int)<=(if m<1 then 1 else m)/\Txt.slice x (some 1) none=r:=by
   rcases hx with⟨_,rfl⟩|⟨_,rfl⟩
   ·refine⟨sx0,?_,rfl⟩
    split<;>omega
   ·refine⟨Sg.app (HK _) sr,?_,LY⟩
    have:(fL a0 r j).length=r.length+1:=by
     unfold fL
     rw[WordM.len,WordM.app,WordM.len,b9]
     simp
     omega
    rw[this]
    split at hr1<;>split<;>omega
  obtain⟨sx,hxm,hxr⟩:=hxl
  have hx1000:x.length<=1000:=by split at hxm<;>omega
  refine⟨Km,_,rfl,?_⟩
  rw[Hr]
  refine ie (λh1=>?_) (λh1=>?_)
  ·have h1:x∈ss:=by simpa using h1
   have hall:∀i,1<=i->i<=j->fL a0 r i∈ss:=λi i1 i2=>by
    rcases m9 i2 with z|z
    ·exact htr i i1 z
    ·rcases hx with⟨z0,_⟩|⟨_,e⟩
     ·omega
     ·rw[z,<-e];exact h1
   have hjs:j<=ss.length:=LH (by omega) hall
   have hmod:((if j=0 then a0 else(a0+(j:Int)) % 94)+1) % 94=(a0+((j+1:Nat):Int)) % 94:=by
    split
    ·rename_i z;subst z;congr 1
    ·push_cast;omega
   have hsl':((fh.length:Nat):Int)=94:=by rw[hsl];rfl
   have e1:((if j=0 then a0 else(a0+(j:Int)) % 94)+1) % ((fh.length:Nat):Int)=(a0+((j+1:Nat):Int)) % 94:=by rw[hsl',hmod]
   have hat:jd fh.cps.toList (((if j=0 then a0 else(a0+(j:Int)) % 94)+1) % ((fh.length:Nat):Int))=some (fI (a0+((j+1:Nat):Int))):=by
    rw[e1]
    have b1:=i5 (a0+((j+1:Nat):Int)) (show(0:Int)<94 by decide)
    have b2:=i4 (a0+((j+1:Nat):Int)) (show(94:Int)≠0 by decide)
    have hlt:((a0+((j+1:Nat):Int)) % 94).toNat<(cs fh).length:=by rw[<-WordM.len];omega
    have:=bH (xs:=cs fh) (j:=((a0+((j+1:Nat):Int)) % 94).toNat) (b_ hlt)
    rw[show((((a0+((j+1:Nat):Int)) % 94).toNat:Nat):Int)=(a0+((j+1:Nat):Int)) % 94 by omega]at this
    rw[this]
    unfold fI
    rw[j3,b_ hlt]
    rfl
   refine⟨by omega,by omega,by omega,_,hat,1,rfl,by omega,?_,?_⟩
   ·show 1+(Txt.slice x (some 1) none).length<=100000
    rw[hxr]
    split at hr1<;>omega
   ·refine⟨ss.length+2-(j+1),by omega,j+1,fL a0 r (j+1),by omega,by omega,λi i1 i2=>hall i i1 (by omega),.inr ⟨by omega,rfl⟩,?_⟩
    show [Sl.dk,.va (iT n),.va (iT m),.va (sT fh),.own (ss.map sT),.va (iT (0+(i:Int))),.va (sT ((⟨#[fI (a0+((j+1:Nat):Int))]⟩:Str)++Txt.slice x (some 1) none)),.va (iT (((if j=0 then a0 else(a0+(j:Int)) % 94)+1) % ((fh.length:Nat):Int)))]=_
    rw[e1,if_neg (by omega),hxr]
    rfl
  ·have h1:x∉ss:=by simpa using h1
   refine⟨⟨_,rfl⟩,_,rfl,by rw[ao];omega,hN _ ⟨ss++[x],.va (iT (0+(i:Int))),.va (sT x),.va (iT (if j=0 then a0 else(a0+j) % 94)),by rw[b9,hlen];rfl,⟨?_,λs hs=>?_⟩,?_⟩⟩
   ·rw[nh]
    exact⟨htx.1,by simp,λa ha b hb=>by rw[List.mem_singleton]at hb;subst hb;rintro rfl;exact h1 ha⟩
   ·rcases qp_.mp hs with z|z
    ·exact htx.2 s z
    ·rw[qd1_]at z;subst z;exact⟨sx,hxm⟩
   ·rw[ij];rfl
 ·rintro _ ⟨ss,s5,s6,s7,hlen,htx,rfl⟩
  rw[iM]at hlen
  exact q ss (by omega) htx
def sH:bu:=λas R=>as=[.dk]/\∀r:Int,-(10 ^ 60)<r->r<10 ^ 60->R (iT r)
def u5:bB ["_law_deck_here","_law_number_here","_law_k"] ["_law_deck_here"] (aN xV):=b8 (by decide +kernel)
def EM(h:ak K mg "_law_far" xV)(B:Own mg)(G35_:ae P w K mg base 2 "_law_take" ["_law_deck_here","_law_most"] fT)   : ae P w K mg base 3 "_law_far" ["_law_deck_here"] sH:=by
 have nd:=u5.nd
 refine h.pgood u5 (fun|_,_,_,_,_,_,[_],_=>rfl) (λf cdv A outer s H E F hr=>
   (aI (aZ 1 nd aG)
   (aI (eF (m:=3) ic rfl (jP rfl B.range (aD aG aE)) (dI 2 (by decide) nd rfl (.inl rfl))
    (aJ (aZ 1 nd (bN cZ (bN rC (aC 1) (bN oH aG aG)) (aL G35_ hr (bZ 0 (aD (bN oH aG aG) aE)))))))
   (aJ (aO (bN cZ (bN iZ (bN wY (aC 1) (bN iZ (bN rC aG (bN oH aG aG)) aG)) (bN oH aG aG)) aG)))))) (λas R q=>?_)
 obtain⟨rfl,q⟩:=q
 refine⟨rfl,8,rfl,by decide,by decide,?_⟩
 refine kJ (λi ρ=>∃(x:Int) (s:Sl),0<=x/\x<10 ^ (8*i)/\ρ=[.dk,.va (iT x),s]) ⟨0,.no,by decide,by decide,rfl⟩ ?_ ?_
 ·rintro i T _ N hT ⟨x,s,x0,x1,rfl⟩ hN
  obtain⟨hi,rfl⟩:=qT hT
  have hi:i<8:=hi
  have xb:x<10 ^ 64:=Int.lt_of_lt_of_le x1 (by
   have:i=0\/i=1\/i=2\/i=3\/i=4\/i=5\/i=6\/i=7:=by omega
   rcases this with e|e|e|e|e|e|e|e<;>subst e<;>decide)
  refine⟨⟨by decide,by decide,by decide⟩,.inr ⟨cM (by omega) (by omega),cM (by decide) (by decide)⟩,rfl,⟨by decide,by decide,by decide⟩,10 ^ 8,rfl,by decide,cM (by decide) (by decide),λr r0 r1=>hN _ ⟨_,_,?_,?_,rfl⟩⟩
  ·show 0<=x*(10 ^ 8:Int)+r
   omega
  ·show x*(10 ^ 8:Int)+r<10 ^ (8*(i+1))
   have e:(10:Int) ^ (8*(i+1))=10 ^ (8*i)*10 ^ 8:=by rw[Nat.mul_add,Int.pow_add]
   rw[e]
   have h8:r<(10:Int) ^ 8:=r1
   generalize (10:Int) ^ (8*i)=y at x1
   omega
 ·rintro _ ⟨x,s,x0,x1,rfl⟩
  refine⟨⟨by decide,by decide,by decide⟩,.inl (.inl ⟨by decide,by decide⟩),(show(0:Int)<2*10 ^ 60-1 by decide),⟨by decide,by decide,by decide⟩,?_⟩
  have h1:=i4 x (show(2*10 ^ 60-1:Int)≠0 by decide)
  have h2:=i5 x (show(0:Int)<2*10 ^ 60-1 by decide)
  refine q _ ?_ ?_
  ·show -(10 ^ 60)<x % (2*10 ^ 60-1)-10 ^ 60+1
   omega
  ·show x % (2*10 ^ 60-1)-10 ^ 60+1<10 ^ 60
   omega
end
section
variable{P:Program}{w:World}{K:W.Frag}{mg:Str->Option Value}{base:Heap}
structure fR (nm tx:List Str) (st sp:Int):Prop where
 n11:nm.length=11
 t9:tx.length=9
 nd:nm.Nodup
 ndt:tx.Nodup
 ns:∀s∈nm,Sg s/\s.length<=40
 ts:∀s∈tx,Sg s/\s.length<=43
 st1:-(10 ^ 57)<=st
 st2:st<=10 ^ 57
 sp1:1<=sp
 sp2:sp<=10 ^ 20
def eS(nm tx:List Str)(st sp:Int):Tv:=.seq false [.seq false (nm.map sT),.seq false (tx.map sT),iT st,iT sp]
def wD:bu:=λas R=>as=[.dk]/\∀nm tx st sp,fR nm tx st sp->R (eS nm tx st sp)
def Hs{a b c:Str}(h:a++b=a++c):b=c:=by
 have:=congrArg cs h
 rw[WordM.app,WordM.app]at this
 exact kK (List.append_cancel_left this)
def u4:bB ["_law_deck_here","_law_most","_law_names","_law_head","_law_texts","_law_start"] ["_law_deck_here"] (aN tD):=b8 (by decide +kernel)
def EN(h:ak K mg "_law_world" tD)(B:Own mg)(G35_:ae P w K mg base 2 "_law_take" ["_law_deck_here","_law_most"] fT)(G38_:ae P w K mg base 4 "_law_unlike" ["_law_deck_here","_law_many","_law_most"] vF)(G37_:ae P w K mg base 3 "_law_text" ["_law_deck_here","_law_most"] rS)(G39_:ae P w K mg base 3 "_law_far" ["_law_deck_here"] sH)   : ae P w K mg base 5 "_law_world" ["_law_deck_here"] wD:=by
 have nd:=u4.nd
 refine h.pgood u4 (fun|_,_,_,_,_,_,[_],_=>rfl) (λf cdv A outer s H E F hr=>
   (aI (aZ 1 nd (aU hr (bE (cD (aD aG (aD aG (aD aG (aD aG (aD aG (aD aG (aD aG (aD aG aE)))))))))) (aL G35_ hr (bZ 0 (aD aG aE)))))
   (aI (aZ 2 nd (aL G38_ hr (bZ 0 (aD aG (aD (aC 1) aE)))))
   (aI (aZ 3 nd (aL G37_ hr (bZ 0 (aD (bN rC aG (aL G35_ hr (bZ 0 (aD aG aE)))) aE))))
   (aI (fH (sc:=aN tD) (XN:=["_law_deck_here","_law_most","_law_names","_law_head","_law_texts","_law_start"]) (N:=["_law_text_here","_law_head"]) (fr:=[3]) 4 nd (bY (aL G38_ hr (bZ 0 (aD aG (aD (aC 1) aE))))) (λ_ _ _ _ _=>hG) (λ_ _ _ _ _=>(bN cZ (aC 1) (aC 0))))
   (aI (aZ 5 nd (aU hr (bE (cD (aD aG (aD aG (aD (AW AG aG) (aD (bN Bt (aL G39_ hr (bZ 0 aE)) aG) aE)))))) (aL G35_ hr (bZ 0 (aD aG aE)))))
   (aJ (aO (bE (cD (aD (aC 2) (aD (aC 4) (aD (aC 5) (aD (bN cZ aG (aL G35_ hr (bZ 0 (aD (aU hr (bE (cD (aD aG (aD (bN oH aG aG) aE)))) (aL G35_ hr (bZ 0 (aD aG aE)))) aE)))) aE)))))))))))))) (λas R q=>?_)
 obtain⟨rfl,q⟩:=q
 refine⟨rfl,by decide,rfl,8,rfl,by decide,cM (by decide) (by decide),λr r0 r1=>?_⟩
 obtain⟨M,hM,hMm⟩:=kB (l:=[iT 4,iT 3,iT 5,iT 1,iT 4,iT 3,iT 6,iT 40]) r0 r1
 have hm:∃m:Int,M=iT m/\1<=m/\m<=40:=by
  simp only[List.mem_cons,List.not_mem_nil,or_false]at hMm
  rcases hMm with e|e|e|e|e|e|e|e<;>subst e<;>exact⟨_,rfl,by decide,by decide⟩
 obtain⟨m,rfl,m1,m2⟩:=hm
 refine⟨_,hM,?_⟩
 clear hM hMm
 refine⟨rfl,11,m,rfl,by decide,by decide,by omega,by omega,λnm hnm tnm=>?_⟩
 refine⟨rfl,rfl,2,rfl,by decide,cM (by decide) (by decide),λr2 a0 a1=>⟨.inl (.inl ⟨by decide,by decide⟩),_,rfl,by omega,by omega,λhd shd lhd=>?_⟩⟩
 refine⟨rfl,9,m,rfl,by decide,by decide,by omega,by omega,λtx htx ttx=>⟨by rw[ao];omega,?_⟩⟩
 have lt:∀s∈tx,Sg s/\s.length<=40:=λs hs=>by
  have:=ttx.2 s hs
  refine⟨this.1,?_⟩
  have:=this.2
  split at this<;>omega
 refine dS sT (λs=>sT (hd++s)) (λs hs R q=>?_) ?_
 ·have:=(lt s hs).2
  exact⟨show hd.length+s.length<=100000 by omega,q⟩
 refine⟨rfl,rfl,λfr fr0 fr1=>⟨⟨by decide,cM (by decide) (by decide)⟩,(show 4<=100000 by decide),rfl,4,rfl,by decide,cM (by decide) (by decide),λr3 b0 b1=>?_⟩⟩
 obtain⟨S,hS,hSm⟩:=kB (l:=[iT 0,iT 7,iT (-40),iT (fr / 1000)]) b0 b1
 have hs:∃st:Int,S=iT st /\ -(10 ^ 57)<=st/\st<=10 ^ 57:=by
  simp only[List.mem_cons,List.not_mem_nil,or_false]at hSm
  rcases hSm with e|e|e|e<;>subst e
  ·exact⟨_,rfl,by decide,by decide⟩
  ·exact⟨_,rfl,by decide,by decide⟩
  ·exact⟨_,rfl,by decide,by decide⟩
  ·exact⟨_,rfl,by omega,by omega⟩
 obtain⟨st,rfl,st1,st2⟩:=hs
 refine⟨_,hS,?_⟩
 clear hS hSm
 refine⟨rfl,⟨by decide,by decide,by decide⟩,by decide,rfl,2,rfl,by decide,cM (by decide) (by decide),λr4 c0 c1=>?_⟩
 obtain⟨W,hW,hWm⟩:=kB (l:=[iT 6,iT (10 ^ 20)]) c0 c1
 have hw:∃wi:Int,W=iT wi/\1<=wi/\wi<=10 ^ 20:=by
  simp only[List.mem_cons,List.not_mem_nil,or_false]at hWm
  rcases hWm with e|e<;>subst e<;>exact⟨_,rfl,by decide,by decide⟩
 obtain⟨wi,rfl,w1,w2⟩:=hw
 refine⟨_,hW,wi,rfl,by omega,cM (by omega) (by omega),λsp sp0 sp1=>⟨(show 4<=100000 by decide),?_⟩⟩
 have:=q nm (tx.map λs=>hd++s) st (1+sp) ⟨by omega,by rw[ao];omega,tnm.1,?_,λs hs=>?_,λs hs=>?_,st1,st2,by omega,by omega⟩
 ·show R (.seq false [.seq false (nm.map sT),.seq false (tx.map λs=>sT (hd++s)),iT st,iT (1+sp)])
  rw[eS,f7]at this
  exact this
 ·unfold List.Nodup
  rw[mh]
  exact ttx.1.imp λh e=>h (Hs e)
 ·have:=tnm.2 s hs
  refine⟨this.1,?_⟩
  have:=this.2
  split at this<;>omega
 ·obtain⟨z,hz,rfl⟩:=qf_.mp hs
  refine⟨shd.app (lt z hz).1,?_⟩
  rw[WordM.len,WordM.app,b9,<-WordM.len,<-WordM.len]
  have:=(lt z hz).2
  omega
def yX(n:Int):Prop:=-(10 ^ 60)<n/\n<10 ^ 60
def vH:bu:=λas R=>∃nm tx st sp,as=[.dk,.va (eS nm tx st sp)]/\fR nm tx st sp/\∀n:Int,yX n->R (iT n)
def FY{a b:Int}(h1:1<=a)(h2:a<=10 ^ 20)(h3:-100<=b)(h4:b<=100):-(10 ^ 22)<=a*b/\a*b<=10 ^ 22:=by
 have e1:a*b<=a*100:=tj h4 (by omega)
 have e2:a*(-100)<=a*b:=tj h3 (by omega)
 omega
def u3:bB ["_law_deck_here","_law_world_here","_law_way"] ["_law_deck_here","_law_world_here"] (aN xU):=b8 (by decide +kernel)
def EO(h:ak K mg "_law_number" xU)(B:Own mg)(G35_:ae P w K mg base 2 "_law_take" ["_law_deck_here","_law_most"] fT)(G39_:ae P w K mg base 3 "_law_far" ["_law_deck_here"] sH)   : ae P w K mg base 4 "_law_number" ["_law_deck_here","_law_world_here"] vH:=by
 have nd:=u3.nd
 refine h.pgood u3 (fun|_,_,_,_,_,_,[_,_],_=>rfl) (λf cdv A outer s H E F hr=>
   (aI (aZ 2 nd (aL G35_ hr (bZ 0 (aD aG aE))))
   (aI (bD (cF hr (aC 2) aG)
    (aJ (aO (bN iZ (aL G35_ hr (bZ 0 (aD aG aE))) aG)))
    bC)
   (aI (bD (cF hr (aC 2) aG)
    (aJ (aO (aL G39_ hr (bZ 0 aE))))
    bC)
   (aJ (aO (bN cZ (aU hr (aC 1) aG) (bN rC (aU hr (aC 1) aG) (bN iZ (aL G35_ hr (bZ 0 (aD aG aE))) aG))))))))) (λas R q=>?_)
 obtain⟨nm,tx,st,sp,rfl,hw,q⟩:=q
 obtain⟨_,_,_,_,_,_,st1,st2,sp1,sp2⟩:=hw
 refine⟨rfl,rfl,6,rfl,by decide,cM (by decide) (by decide),λr r0 r1=>?_⟩
 refine⟨_,rfl,ie (λ_=>⟨rfl,9,rfl,by decide,cM (by decide) (by decide),λk k0 k1=>q _ ⟨by omega,by omega⟩⟩) (λ_=>?_)⟩
 refine⟨_,rfl,ie (λ_=>⟨rfl,rfl,λk k0 k1=>q _ ⟨k0,k1⟩⟩) (λ_=>?_)⟩
 refine⟨_,rfl,_,rfl,rfl,12,rfl,by decide,cM (by decide) (by decide),λk k0 k1=>⟨.inr ⟨cM (by omega) (by omega),cM (by omega) (by omega)⟩,q _ ?_⟩⟩
 have:=FY (b:=k-4) sp1 sp2 (by omega) (by omega)
 exact⟨by show _<st+sp*(k-4);omega,by show st+sp*(k-4)<_;omega⟩
def xO(tx:List Str):Tv->Prop
 |.leaf .non=>True
 |.leaf (.bl _)=>True
 |.leaf (.int n)=>yX n
 |.leaf (.str s)=>s∈tx
 |_=>False
def oM:bu:=λas R=>∃nm tx st sp,as=[.dk,.va (eS nm tx st sp)]/\fR nm tx st sp/\∀T,xO tx T->R T
def u0:bB ["_law_deck_here","_law_world_here","_law_way"] ["_law_deck_here","_law_world_here"] (aN xT):=b8 (by decide +kernel)
def ER(h:ak K mg "_law_leaf" xT)(B:Own mg)(G35_:ae P w K mg base 2 "_law_take" ["_law_deck_here","_law_most"] fT)(G41_:ae P w K mg base 4 "_law_number" ["_law_deck_here","_law_world_here"] vH)   : ae P w K mg base 5 "_law_leaf" ["_law_deck_here","_law_world_here"] oM:=by
 have nd:=u0.nd
 refine h.pgood u0 (fun|_,_,_,_,_,_,[_,_],_=>rfl) (λf cdv A outer s H E F hr=>
   (aI (aZ 2 nd (aL G35_ hr (bZ 0 (aD aG aE))))
   (aI (bD (cF hr (aC 2) aG)
    (aJ (aO hJ))
    bC)
   (aI (bD (cF hr (aC 2) aG)
    (aJ (aO (gM (kU hr.units).op (aL G35_ hr (bZ 0 (aD aG aE))) aG)))
    bC)
   (aI (bD (dF kT (aC 2) aG)
    (aJ (aO (aL G41_ hr (bZ 0 (aD (aC 1) aE)))))
    bC)
   (aJ (aO (aU hr (aU hr (aC 1) aG) (aL G35_ hr (bZ 0 (aD (bF cE rfl B.len de (aD (aU hr (aC 1) aG) aE)) aE))))))))))) (λas R q=>?_)
 obtain⟨nm,tx,st,sp,rfl,hw,q⟩:=q
 refine⟨rfl,rfl,8,rfl,by decide,cM (by decide) (by decide),λr r0 r1=>?_⟩
 refine⟨_,rfl,ie (λ_=>q nT trivial) (λ_=>?_)⟩
 refine⟨_,rfl,ie (λ_=>⟨rfl,2,rfl,by decide,cM (by decide) (by decide),λk k0 k1=>q (bT _) trivial⟩) (λ_=>?_)⟩
 refine⟨_,rfl,ie (λ_=>⟨rfl,nm,tx,st,sp,rfl,hw,λn hn=>q (iT n) hn⟩) (λ_=>?_)⟩
 refine⟨_,rfl,rfl,_,rfl,(tx.map sT).length,rfl,?_,?_,λk k0 k1=>?_⟩
 ·rw[ao,hw.t9];decide
 ·rw[ao,hw.t9];exact cM (by decide) (by decide)
 ·obtain⟨U,hU,hm⟩:=kB (l:=tx.map sT) k0 k1
  obtain⟨s,hs,rfl⟩:=qf_.mp hm
  exact⟨_,hU,q (sT s) hs⟩
end
section
variable{P:Program}{w:World}{K:W.Frag}{mg:Str->Option Value}{base:Heap}
def Du:Tv->Prop
 |.leaf v=>dL v=true
 |.seq false _=>True
 |.dct _=>True
 |_=>False
def rT:bu:=λas R=>∃T,as=[.va T]/\Du T/\R (sT (cS (dG T)))
def Dp:bB ["value"] ["value"] (aN xq):=b8 (by decide +kernel)
def NP(h:ak K mg "kind_of" xq)(B:Own mg)    : ae P w K mg base 1 "kind_of" ["value"] rT:=by
 have nd:=Dp.nd
 refine h.pgood Dp (fun|_,_,_,_,_,_,[_],_=>rfl) (λf cdv A outer s H E F hr=>
   (aI (bD (dF mJ (aC 0) hJ)
    (aJ (aO aY))
    bC)
   (aI (bD (cK (cI "bool" kD rfl B.isinstance (aC 0) (cH (v:=.ty "bool") rfl B.bool_ boot_bool rfl)))
    (aJ (aO aY))
    bC)
   (aI (bD (cK (cI "int" lG rfl B.isinstance (aC 0) (cH (v:=.ty "int") rfl B.int_ boot_int rfl)))
    (aJ (aO aY))
    bC)
   (aI (bD (cK (cI "str" lF rfl B.isinstance (aC 0) (cH (v:=.ty "str") rfl B.str_ boot_str rfl)))
    (aJ (aO aY))
    bC)
   (aI (bD (cK (cI "list" lD rfl B.isinstance (aC 0) (cH (v:=.ty "list") rfl B.list_ boot_list rfl)))
    (aJ (aO aY))
    bC)
   (aJ (aO aY)))))))) (λas R q=>?_)
 obtain⟨T,rfl,hT,q⟩:=q
 refine⟨rfl,?_⟩
 cases T with
 |leaf v=>
  rcases kE hT with rfl|⟨b,rfl⟩|⟨b,rfl⟩|⟨b,rfl⟩
  ·exact⟨_,rfl,bW q⟩
  ·exact⟨_,rfl,aR ⟨_,rfl,bW q⟩⟩
  ·exact⟨_,rfl,aR ⟨_,rfl,aR ⟨_,rfl,bW q⟩⟩⟩
  ·exact⟨_,rfl,aR ⟨_,rfl,aR ⟨_,rfl,aR ⟨_,rfl,bW q⟩⟩⟩⟩
 |seq t xs=>
  cases t with
  |false=>exact⟨_,rfl,aR ⟨_,rfl,aR ⟨_,rfl,aR ⟨_,rfl,aR ⟨_,rfl,bW q⟩⟩⟩⟩⟩
  |true=>exact False.elim hT
 |dct kts=>exact⟨_,rfl,aR ⟨_,rfl,aR ⟨_,rfl,aR ⟨_,rfl,aR ⟨_,rfl,aR q⟩⟩⟩⟩⟩
def uR:bu:=λas R=>∃x m:Str,as=[.va (sT x),.va (sT m)]/\m∈MK/\x.length<=1000/\R (bT (jI x m))
def Dk:bB ["text","mark"] ["text","mark"] (aN wy):=b8 (by decide +kernel)
def NK(h:ak K mg "has_mark" wy)(B:Own mg)(GSIGNS:pA K w.params mg "SIGNS" t7)  : ae P w K mg base 1 "has_mark" ["text","mark"] uR:=by
 have nd:=Dk.nd
 refine h.pgood Dk (fun|_,_,_,_,_,_,[_,_],_=>rfl) (λf cdv A outer s H E F hr=>
   (aJ (aO (bF (Ig rfl) rfl B.any boot_any (aD (bE (eW (sc:=aN wy) (XN:=["text","mark"]) (N:=["sign","mark"]) (fr:=[1]) (bY (aC 0)) (λ_ _ _ _ _=>(gM (mK hr.units).op (aC 0) (AU GSIGNS rfl (aC 1)) rfl)))) aE))))) (λas R q=>?_)
 obtain⟨x,m,rfl,hm,hx,q⟩:=q
 obtain⟨S,hS⟩:∃S,getS t7 m=some S:=by
  simp only[MK,List.mem_cons,List.not_mem_nil,or_false]at hm
  rcases hm with e|e|e|e<;>subst e<;>exact⟨_,rfl⟩
 refine⟨rfl,by rw[ao,<-WordM.len];omega,?_⟩
 refine dS (λc=>sT ⟨#[c]⟩) (λc=>bT (decide (c∈cs S))) (λc hc R q=>⟨m,S,rfl,hS,?_⟩) ?_
 ·have e:(false != pj ⟨#[c]⟩ S)=decide (c∈cs S):=by
   unfold pj
   rw[StrLaws.found_one]
   simp
  show R (some (bT (false != pj ⟨#[c]⟩ S))) _
  rw[e]
  exact q
 ·refine⟨(cs x).map λc=>decide (c∈cs S),by rw[f7];rfl,?_⟩
  have e:((cs x).map λc=>decide (c∈cs S)).any id=jI x m:=by
   rw[List.any_map,jI,hS]
   rfl
  rw[e]
  exact q
def qG:bu:=λas R=>∃x:Str,as=[.va (sT x)]/\x.length<=1000/\R (.seq true ((dE x).map sT))
def Dj:bB ["text"] ["text"] (aN wx):=b8 (by decide +kernel)
def NJ(h:ak K mg "marks_of" wx)(B:Own mg)(G5_:ae P w K mg base 1 "has_mark" ["text","mark"] uR)(GMARKS:eI K mg "MARKS" (.seq true (MK.map sT)))  : ae P w K mg base 2 "marks_of" ["text"] qG:=by
 have nd:=Dj.nd
 refine h.pgood Dj (fun|_,_,_,_,_,_,[_],_=>rfl) (λf cdv A outer s H E F hr=>
   (aJ (aO (fO fQ rfl B.tuple_ boot_tuple (aD (bE (oQ (sc:=aN wx) (XN:=["text"]) (N:=["mark","text"]) (fr:=[0]) (bY (oR GMARKS rfl)) (λ_ _ _ _ _=>(hE (cK (aL G5_ hr (aD (aC 1) (aD (aC 0) aE)))))) (λ_ _ _ _ _=>(aC 0)))) aE))))) (λas R q=>?_)
 obtain⟨x,rfl,hx,q⟩:=q
 refine⟨rfl,by decide,?_⟩
 refine kG (l:=MK) sT (λm=>if jI x m=true then some (sT m) else none) (λm hm R q=>⟨x,m,rfl,hm,hx,_,rfl,ie (λz=>?_) (λz=>?_)⟩) ?_
 ·rw[if_pos z]at q;exact q
 ·rw[if_neg (by rw[z];exact cb)]at q;exact q
 ·refine⟨false,_,rfl,?_⟩
  have e:(MK.filterMap λm=>if jI x m=true then some (sT m) else none)=(dE x).map sT:=by
   unfold dE
   generalize MK=l
   induction l with
   |nil=>rfl
   |cons a l ih=>
    rw[il,List.filter_cons,ih]
    cases jI x a<;>simp
  rw[e]
  exact q
end
section
variable{P:Program}{w:World}{K:W.Frag}{mg:Str->Option Value}{base:Heap}
variable{n:Nat}
def yY:List (Str×Str):=[("nothing","nothing"),("truths","truth"),("numbers","number"),("texts","text"),("lists","list"),("record","dict"),("table","dict")]
def bz{α:Type}{x:α}{r:List α}:jd (x::r) 0=some x:=bH (j:=0) rfl
def A2(p:Pt):∃r,aW p=.seq true (sT (xE p)::r)/\r.length<=4:=by
 cases p with
 |record a b fs=>exact⟨_,eQ a b fs,by simp⟩
 |lists a b f=>exact⟨_,iJ a b f,by simp⟩
 |table a b w f=>exact⟨_,fN a b w f,by simp⟩
 |_=>rw[aW];exact⟨_,rfl,by simp⟩
def GR(p:Pt):getS yY (xE p)=some (cS (fK p)):=by
 cases p<;>rfl
def uF:bu:=λas R=>∃p:Pt,as=[.va (aW p)]/\R (sT (cS (fK p)))
def v9:bB ["part"] ["part"] (aN yD):=b8 (by decide +kernel)
def DD(h:ak K mg "part_kind" yD)(B:Own mg)(GPART_KINDS:pA K w.params mg "PART_KINDS" yY)  : ae P w K mg base 1 "part_kind" ["part"] uF:=by
 have nd:=v9.nd
 refine h.pgood v9 (fun|_,_,_,_,_,_,[_],_=>rfl) (λf cdv A outer s H E F hr=>
   (aJ (aO (AU GPART_KINDS rfl (aU hr (aC 0) aG))))) (λas R q=>?_)
 obtain⟨p,rfl,q⟩:=q
 obtain⟨r,e,_⟩:=A2 p
 rw[e]
 exact⟨rfl,_,bz,_,_,rfl,GR p,q⟩
def KW{a b:Nat}(ha:a<=5)(hb:b<=5)(h:cS a=cS b):a=b:=by
 have h1:a=0\/a=1\/a=2\/a=3\/a=4\/a=5:=by omega
 have h2:b=0\/b=1\/b=2\/b=3\/b=4\/b=5:=by omega
 rcases h1 with e|e|e|e|e|e<;>subst e<;>rcases h2 with e|e|e|e|e|e<;>subst e<;>first|rfl|exact absurd h (by decide +kernel)
def Kq(p:Pt):fK p<=5:=by cases p<;>simp[fK]
def yQ:Option Pt->Tv
 |none=>nT
 |some p=>aW p
def nG:bu:=λas R=>∃(f:List Pt) (k:Nat),as=[.va (bX f),.va (sT (cS k))]/\k<=5/\R (yQ (f.find? λp=>decide (fK p=k)))
def v8:bB ["form","kind","part"] ["form","kind"] (aN yC):=b8 (by decide +kernel)
def DE(h:ak K mg "part_for" yC)(B:Own mg)(G15_:ae P w K mg base 1 "part_kind" ["part"] uF)   : ae P w K mg base 2 "part_for" ["form","kind"] nG:=by
 have nd:=v8.nd
 refine h.pgood v8 (fun|_,_,_,_,_,_,[_,_],_=>rfl) (λf cdv A outer s H E F hr=>
   (aI (eF (m:=3) ic rfl (bY (aC 0)) (dI 2 (by decide) nd rfl (.inl rfl))
    (aJ (bD (cF hr (aL G15_ hr (aD (aC 2) aE)) (aC 1))
     (aJ (aO (aC 2)))
     bC)))
   (aJ (aO hJ)))) (λas R q=>?_)
 obtain⟨f,k,rfl,hk,q⟩:=q
 refine⟨rfl,?_⟩
 refine gZ aW (l:=f) (λi ρ=>(∀j p,j<i->f[j]?=some p->fK p≠k)/\∃s,ρ=[.va (bX f),.va (sT (cS k)),s]) ⟨λj p h=>absurd h (qq _),.no,rfl⟩ ?_ ?_
 ·rintro i p _ N hp ⟨hj,s,rfl⟩ hN
  refine⟨p,rfl,_,rfl,sP (λe=>?_) (λe=>?_)⟩
  ·have e:=KW (Kq p) hk e
   have:f.find? (λp=>decide (fK p=k))=some p:=by
    rw[List.find?_eq_some_iff_getElem]
    obtain⟨hi,rfl⟩:=qy_.mp hp
    exact⟨i_ e,i,hi,rfl,λj hj'=>by
     have:=hj j f[j] hj' (b_ (by omega))
     simpa using this⟩
   rw[this]at q
   exact q
  ·refine hN _ ⟨λj p' hj' ep=>?_,_,rfl⟩
   by_cases z:j=i
   ·subst z;rw[hp]at ep;cases ep;exact λz=>e (by rw[z])
   ·exact hj j p' (by omega) ep
 ·rintro _ ⟨hj,s,rfl⟩
  have:f.find? (λp=>decide (fK p=k))=none:=by
   rw[qi3_]
   intro p hp
   obtain⟨j,hj',rfl⟩:=qX1_.mp hp
   simpa using hj j _ hj' (b_ hj')
  rw[this]at q
  exact q
end
section
variable{P:Program}{w:World}{K:W.Frag}{mg:Str->Option Value}{base:Heap}
open GcdM CutM
def g7{N:aT->Prop}{ρ ρ':aT}(e:ρ=ρ')(h:N ρ'):N ρ:=e▸h
def pJ(a:R3):Tv:=.seq true [iT a.1,iT a.2.1,iT a.2.2]
def xK:bu:=λas R=>∃a b:Int,as=[.va (iT a),.va (iT b)]/\0<=a/\0<=b/\R (iT (g a b))
def Do:bB ["one","other","rest"] ["one","other"] (aN xp):=b8 (by decide +kernel)
def NO(h:ak K mg "divisor_of" xp)(B:Own mg)    : ae P w K mg base 1 "divisor_of" ["one","other"] xK:=by
 have nd:=Do.nd
 refine h.pgood Do (fun|_,_,_,_,_,_,[_,_],_=>rfl) (λf cdv A outer s H E F hr=>
   (aI (nJ ic (fW hr (aC 1) aG)
    (aI (aZ 2 nd (bN wY (aC 0) (aC 1)))
    (aI (aZ 0 nd (aC 1))
    (aJ (aZ 1 nd (aC 2))))))
   (aJ (aO (aC 0))))) (λas R q=>?_)
 obtain⟨a,b,rfl,a0,b0,q⟩:=q
 refine⟨rfl,λm ρ=>∃(x y:Int) (s:Sl),m=y.toNat/\0<=x/\0<=y/\g x y=g a b/\ρ=[.va (iT x),.va (iT y),s],⟨_,a,b,.no,rfl,a0,b0,rfl,rfl⟩,?_⟩
 rintro m _ ⟨x,y,s,rfl,x0,y0,e,rfl⟩
 refine⟨_,rfl,ie (λz=>?_) (λz=>?_)⟩
 ·have hy:y≠0:=by simpa[dc]using z
  have h1:=i4 x hy
  have h2:=i5 x (show 0<y by omega)
  exact⟨(show 0<y by omega),_,by omega,y,x % y,_,rfl,y0,h1,(GE (show 0<y by omega)).trans e,rfl⟩
 ·have hy:y=0:=by simpa[dc]using z
  subst hy
  rw[GF x x0]at e
  rw[<-e]at q
  exact q
def iF(lo hi st:Int):List Int:=[lo,hi,lo+st]
def uO:bu:=λas R=>∃lo hi st:Int,as=[.va (.seq true [iT lo,iT hi,iT st])]/\R (.seq false ((iF lo hi st).map iT))
def Dm:bB ["run"] ["run"] (aN xn):=b8 (by decide +kernel)
def NM(h:ak K mg "telling_numbers" xn)(B:Own mg)    : ae P w K mg base 1 "telling_numbers" ["run"] uO:=by
 have nd:=Dm.nd
 refine h.pgood Dm (fun|_,_,_,_,_,_,[_],_=>rfl) (λf cdv A outer s H E F hr=>
   (aJ (aO (bE (cD (aD (aU hr (aC 0) aG) (aD (aU hr (aC 0) aG) (aD (bN cZ (aU hr (aC 0) aG) (aU hr (aC 0) aG)) aE)))))))) (λas R q=>?_)
 obtain⟨lo,hi,st,rfl,q⟩:=q
 exact⟨rfl,_,rfl,_,rfl,_,rfl,_,rfl,by simp,q⟩
def wE:bu:=λas R=>∃ns:List Int,as=[.va (.seq false (ns.map iT))]/\ns≠[]/\R (pJ (dA ns))
def Dn:bB ["numbers","lo","step","number"] ["numbers"] (aN xo):=b8 (by decide +kernel)
def NN(h:ak K mg "run_of" xo)(B:Own mg)(G1_:ae P w K mg base 1 "divisor_of" ["one","other"] xK)   : ae P w K mg base 2 "run_of" ["numbers"] wE:=by
 have nd:=Dn.nd
 refine h.pgood Dn (fun|_,_,_,_,_,_,[_],_=>rfl) (λf cdv A outer s H E F hr=>
   (aI (bD (cF hr (bF cE rfl B.len de (aD (aC 0) aE)) aG)
    (aJ zp)
    bC)
   (aI (aZ 1 nd (bF (hZ rfl) rfl B.min boot_min (aD (aC 0) aE)))
   (aI (aZ 2 nd aG)
   (aI (eF (m:=4) ic rfl (bY (aC 0)) (dI 3 (by decide) nd rfl (.inl rfl))
    (aJ (aZ 2 nd (aL G1_ hr (aD (bN iZ (aC 3) (aC 1)) (aD (aC 2) aE))))))
   (aJ (aO (cA (aD (aC 1) (aD (bF (gH rfl) rfl B.max boot_max (aD (aC 0) aE)) (aD (aC 2) aE))))))))))) (λas R q=>?_)
 obtain⟨ns,rfl,ne,q⟩:=q
 have l0:0<ns.length:=qR1_.mpr ne
 refine⟨rfl,_,rfl,eP (λz=>absurd z (by rw[ao];omega)) (λ_=>?_)⟩
 refine .inr (.inl ⟨ns,rfl,l0,λlo lo1 lo2=>?_⟩)
 show bc.nx _ _
 refine g7 (ρ':=[.va (.seq false (ns.map iT)),.va (iT lo),.no,.no]) rfl ?_
 have el:lo=bM ns:=(nV lo1 lo2).symm
 refine gZ iT (l:=ns) (λi ρ=>∃s3:Sl,ρ=[.va (.seq false (ns.map iT)),.va (iT lo),.va (iT ((ns.take i).foldl (λs n=>g (n-lo) s) 0)),s3]) ⟨.no,rfl⟩ ?_ ?_
 ·rintro i a _ N ha ⟨s3,rfl⟩ hN
  have h1:=lo2 a (g5 ha)
  refine⟨a-lo,_,rfl,by omega,pU (j_ 0),hN _ ⟨.va (iT a),?_⟩⟩
  rw[g_,ha,o9]
  rfl
 ·rintro _ ⟨s3,rfl⟩
  rw[ff]
  refine .inr (.inl ⟨ns,rfl,l0,λhi hi1 hi2=>⟨by simp,?_⟩⟩)
  have eh:hi=bR ns:=(nW hi1 hi2).symm
  subst el eh
  exact q
def oK:bu:=λas R=>∃a b:R3,as=[.va (pJ a),.va (pJ b)]/\Ok a/\Ok b/\R (pJ (joinR a b))
def Dl:bB ["one","other"] ["one","other"] (aN xl):=b8 (by decide +kernel)
def NL(h:ak K mg "run_joined" xl)(B:Own mg)(G2_:ae P w K mg base 2 "run_of" ["numbers"] wE)(G3_:ae P w K mg base 1 "telling_numbers" ["run"] uO)   : ae P w K mg base 3 "run_joined" ["one","other"] oK:=by
 have nd:=Dl.nd
 refine h.pgood Dl (fun|_,_,_,_,_,_,[_,_],_=>rfl) (λf cdv A outer s H E F hr=>
   (aJ (aO (aL G2_ hr (aD (bN cZ (aL G3_ hr (aD (aC 0) aE)) (aL G3_ hr (aD (aC 1) aE))) aE))))) (λas R q=>?_)
 obtain⟨a,b,rfl,ha,hb,q⟩:=q
 refine⟨rfl,a.1,a.2.1,a.2.2,rfl,b.1,b.2.1,b.2.2,rfl,by simp[iF],iF a.1 a.2.1 a.2.2++iF b.1 b.2.1 b.2.2,by rw[ij],by simp[iF],?_⟩
 have ne:iF a.1 a.2.1 a.2.2++iF b.1 b.2.1 b.2.2≠[]:=by simp[iF]
 obtain⟨m1,m2⟩:=iU ne
 obtain⟨m3,m4⟩:=iV ne
 have e:dA (iF a.1 a.2.1 a.2.2++iF b.1 b.2.1 b.2.2)=joinR a b:=KR ha hb m1 m2 m3 m4
 rw[e]
 exact q
end
section
variable{P:Program}{w:World}{K:W.Frag}{mg:Str->Option Value}{base:Heap}
def sN{a b:Str}{A B:Prop}(h:a≠b)(k:B):if (false != dc (.str a) (.str b))=true then A else B:=sP (λz=>absurd z h) λ_=>k
def sY{a:Str}{A B:Prop}(k:A):if (false != dc (.str a) (.str a))=true then A else B:=sP (λ_=>k) λz=>absurd rfl z
def qL(lo hi st:Int):aW (.numbers lo hi st)=.seq true [sT "numbers",iT lo,iT hi,iT st]:=by rw[aW]
def pY(bs:List Bool):aW (.truths bs)=.seq true [sT "truths",.seq true (bs.map bT)]:=by rw[aW]
def qE(w:Wd):aW (.texts w)=.seq true [sT "texts",bV w]:=by rw[aW]
def tX:aW .nothing=.seq true [sT "nothing"]:=by rw[aW]
end
section
variable{P:Program}{w:World}{K:W.Frag}{mg:Str->Option Value}{base:Heap}
def tM:bu:=λas R=>∃ms ms':List Str,as=[.va (.seq true (ms.map sT)),.va (.seq true (ms'.map sT))]/\ms.length<=4/\ms'.length<=4/\R (.seq true ((jc ms ms').map sT))
def Di:bB ["one","other"] ["one","other"] (aN xk):=b8 (by decide +kernel)
def NI(h:ak K mg "marks_joined" xk)(B:Own mg)    : ae P w K mg base 1 "marks_joined" ["one","other"] tM:=by
 have nd:=Di.nd
 refine h.pgood Di (fun|_,_,_,_,_,_,[_,_],_=>rfl) (λf cdv A outer s H E F hr=>
   (aJ (aO (fO fQ rfl B.tuple_ boot_tuple (aD (bE (B5 rfl rfl B.sorted rfl B.set_ (aC 0) (aC 1))) aE))))) (λas R q=>?_)
 obtain⟨ms,ms',rfl,l1,l2,q⟩:=q
 exact⟨rfl,ms,.inl rfl,by omega,ms',.inl rfl,by omega,_,_,rfl,q⟩
def Av:∀(k:Nat) (x y:List Nat),x.take k=y.take k->k<=x.length->k<=y.length->(k=x.length\/k=y.length\/x[k]?≠y[k]?)->ki x y=x.take k
 |0,[],y,_,_,_,_=>by cases y<;>rfl
 |0,a::x,[],_,_,_,_=>rfl
 |0,a::x,b::y,_,_,_,h=>by
  rcases h with h|h|h
  ·simp at h
  ·simp at h
  ·have:a≠b:=by simpa using h
   rw[ki,if_neg this]
   rfl
 |k+1,[],y,_,h,_,_=>by simp at h
 |k+1,a::x,[],_,_,h,_=>by simp at h
 |k+1,a::x,b::y,e,h1,h2,h3=>by
  simp only[List.take_succ_cons,List.cons.injEq]at e
  rw[ki,if_pos e.1,Av k x y e.2 (by simpa using h1) (by simpa using h2) (by simpa using h3)]
  rfl
def qo(x y:Str):Str:=⟨(ki (cs x) (cs y)).toArray⟩
def AL(x y:Str):bq [x,y] (qo x y):=vO (ts:=[x,y]) (by simp)
def CW:∀(h a b y:List Nat),h++a<=y->y<=h++b->∃r,y=h++r
 |[],a,b,y,_,_=>⟨y,rfl⟩
 |c::h,a,b,[],h1,_=>absurd (List.nil_lt_cons c (h++a)) (qZ_.mpr h1)
 |c::h,a,b,d::y,h1,h2=>by
  rw[j6]at h1 h2
  have e:c=d:=by
   rcases Nat.lt_trichotomy c d with z|z|z
   ·exact absurd (qT2_.mpr (.inl z)) (qZ_.mpr h2)
   ·exact z
   ·exact absurd (qT2_.mpr (.inl z)) (qZ_.mpr h1)
  subst e
  obtain⟨r,e⟩:=CW h a b y (qZ_.mp λz=>qZ_.mpr h1 (qT2_.mpr (.inr ⟨rfl,z⟩))) (qZ_.mp λz=>qZ_.mpr h2 (qT2_.mpr (.inr ⟨rfl,z⟩)))
  exact⟨r,by rw[e];rfl⟩
def KM{ts:List Str}{x y hd:Str}(hx:x∈ts)(hy:y∈ts)(lx:∀t∈ts,cs x<=cs t)(ly:∀t∈ts,cs t<=cs y)(h:bq [x,y] hd):bq ts hd:=by
 refine⟨λt ht=>?_,λh' hh=>h.top h' λt ht=>?_⟩
 ·obtain⟨a,ea⟩:=h.all x (by simp)
  obtain⟨b,eb⟩:=h.all y (by simp)
  exact CW (cs hd) a b (cs t) (by rw[<-ea];exact lx t ht) (by rw[<-eb];exact ly t ht)
 ·rcases qx_.mp ht with z|z
  ·rw[z];exact hh x hx
  ·rw[show t=y by simpa using z];exact hh y hy
def LF{x:Str}{n:Nat}(h:n<=x.length):cs (Txt.slice x none (some (n:Int)))=(cs x).take n:=by
 have e:=beq_iff_eq.mp (PyProof.Rows.slice_closes_toL (x:=x) (j:=(n:Int)) (by omega) (by omega))
 rw[e]
 show((cs x).drop 0).take _=_
 rw[m_]
 congr 1
def K0{us:List Str}{hd z:Str}(hs:∀t∈us,Sg t)(e:cs z=cC (us.map λt=>aV t hd)):dE z=jR us hd:=by
 unfold dE jR
 refine List.filter_congr λm hm=>?_
 rw[h_,jI,qL_,qL_,e]
 unfold cC
 have sg:∀t∈us,∀c∈cs (aV t hd),c∈cs fh:=λt ht c hc=>(hs t ht).slice _ _ c hc
 constructor
 ·rintro⟨c,hc,h2⟩
  obtain⟨l,hl,hc⟩:=qs1_.mp hc
  obtain⟨t',ht',rfl⟩:=qf_.mp hl
  obtain⟨t,ht,rfl⟩:=qf_.mp ht'
  exact⟨t,ht,qL_.mpr ⟨c,hc,i_ ((rG (sg t ht c hc) m hm).mp (dw h2))⟩⟩
 ·rintro⟨t,ht,h2⟩
  obtain⟨c,hc,h3⟩:=qL_.mp h2
  exact⟨c,qs1_.mpr ⟨_,qf_.mpr ⟨_,qf_.mpr ⟨t,ht,rfl⟩,rfl⟩,hc⟩,i_ ((rG (sg t ht c hc) m hm).mpr (dw h3))⟩
def Ka(us:List Str)(n:Nat)(h:∀t∈us,t.length<=n):(cC us).length<=us.length*n:=by
 induction us with
 |nil=>simp[cC]
 |cons t us ih=>
  have e:cC (t::us)=cs t++cC us:=rfl
  rw[e,b9,<-WordM.len,ik,Nat.succ_mul]
  have:=ih λx hx=>h x (d_ _ hx)
  have:=h t fw
  omega
def tK:bu:=λas R=>∃x y:Str,as=[.va (sT x),.va (sT y)]/\x.length<=1000/\y.length<=1000/\R (sT (qo x y))
def Dh:bB ["one","other","size"] ["one","other"] (aN xj):=b8 (by decide +kernel)
def NH(h:ak K mg "shared_head" xj)(B:Own mg)    : ae P w K mg base 1 "shared_head" ["one","other"] tK:=by
 have nd:=Dh.nd
 refine h.pgood Dh (fun|_,_,_,_,_,_,[_,_],_=>rfl) (λf cdv A outer s H E F hr=>
   (aI (aZ 2 nd aG)
   (aI (nJ ic (eO (mB (dF kT (aC 2) (bF cE rfl B.len de (aD (aC 0) aE))) (mB (dF kT (aC 2) (bF cE rfl B.len de (aD (aC 1) aE))) (nQ (cF hr (aU hr (aC 0) (aC 2)) (aU hr (aC 1) (aC 2)))))))
    (aJ (aZ 2 nd (bN cZ (aC 2) aG))))
   (aJ (aO (iL jD (aC 0) iR (iQ (aC 2)))))))) (λas R q=>?_)
 obtain⟨x,y,rfl,lx,ly,q⟩:=q
 have ex:x.length=(cs x).length:=WordM.len x
 have ey:y.length=(cs y).length:=WordM.len y
 refine⟨rfl,λm ρ=>∃k:Nat,m=x.length-k/\k<=x.length/\k<=y.length/\(cs x).take k=(cs y).take k/\ρ=[.va (sT x),.va (sT y),.va (iT (k:Nat))],⟨_,0,rfl,d6 _,d6 _,rfl,rfl⟩,?_⟩
 rintro m _ ⟨k,rfl,k1,k2,e,rfl⟩
 have fin:(k=(cs x).length\/k=(cs y).length\/(cs x)[k]?≠(cs y)[k]?)->R (sT (Txt.slice x none (some (k:Int)))):=λh=>by
  have e2:Txt.slice x none (some (k:Int))=qo x y:=kK (by rw[LF k1];exact(Av k (cs x) (cs y) e (by omega) (by omega) h).symm)
  rw[e2];exact q
 refine⟨by show x.length<=_;omega,_,rfl,jZ (λz1=>⟨by show y.length<=_;omega,_,rfl,jZ (λz2=>?_) (λz2=>?_)⟩) (λz1=>?_)⟩
 ·have z1:(k:Int)<(x.length:Nat):=z1
  have z2:(k:Int)<(y.length:Nat):=z2
  have gx:(cs x)[k]?=some (cs x)[k]:=b_ (by omega)
  have gy:(cs y)[k]?=some (cs y)[k]:=b_ (by omega)
  refine⟨by show x.length<=_;omega,(cs x)[k],bH (j:=k) gx,by show y.length<=_;omega,(cs y)[k],bH (j:=k) gy,_,rfl,?_⟩
  refine sP (λz=>?_) (λz=>?_)
  ·have ee:(cs x)[k]=(cs y)[k]:=by simpa using z
   refine⟨x.length-(k+1),by omega,k+1,rfl,by omega,by omega,?_,by push_cast;rfl⟩
   rw[g_,g_,e,gx,gy,ee]
  ·refine⟨_,rfl,by show x.length<=_;omega,fin (.inr (.inr λh=>z ?_))⟩
   rw[gx,gy]at h
   injection h with h
   rw[h]
 ·have z2:¬ (k:Int)<(y.length:Nat):=z2
  exact⟨_,rfl,by show x.length<=_;omega,fin (.inr (.inl (by omega)))⟩
 ·have z1:¬ (k:Int)<(x.length:Nat):=z1
  exact⟨_,rfl,by show x.length<=_;omega,fin (.inl (by omega))⟩
def qV:bu:=λas R=>∃(t:Bool) (us:List Str),as=[.va (.seq t (us.map sT))]/\us≠[]/\us.length<=20/\(∀t∈us,fM t)/\R (bV (eY us))
def rF{us:List Str}{hd:Str}{lo hi:Int}{ms:List Str}(m:ip us hd lo hi ms):Wd.make hd lo hi ms=eY us:=by
 obtain⟨h2,l2,u2,m2,e,k⟩:=iS m.ne
 obtain⟨e1,e2,e3,e4⟩:=m.uniq k
 rw[e,e1,e2,e3,e4]
def Dg:bB ["texts","head","tails","sizes"] ["texts"] (aN s_):=b8 (by decide +kernel)
theorem NG(h:ak K mg "make_of" s_)(B:Own mg)(G8_:ae P w K mg base 1 "shared_head" ["one","other"] tK)(G6_:ae P w K mg base 2 "marks_of" ["text"] qG)   : ae P w K mg base 3 "make_of" ["texts"] qV:=by
 have nd:=Dg.nd
 refine h.pgood Dg (fun|_,_,_,_,_,_,[_],_=>rfl) (λf cdv A outer s H E F hr=>
   (aI (aZ 1 nd (aL G8_ hr (aD (bF (Iu rfl) rfl B.min boot_min (aD (aC 0) aE)) (aD (bF (Ir rfl) rfl B.max boot_max (aD (aC 0) aE)) aE))))
   (aI (fH (sc:=aN s_) (XN:=["texts","head","tails","sizes"]) (N:=["text","head"]) (fr:=[1]) 2 nd (bY (aC 0)) (λ_ _ _ _ _=>hG) (λ_ _ _ _ _=>(iL jD (aC 0) (iQ (bF cE rfl B.len de (aD (aC 1) aE))) iR)))
   (aI (fH (sc:=aN s_) (XN:=["texts","head","tails","sizes"]) (N:=["tail"]) (fr:=[]) 3 nd (bY (aC 2)) (λ_ _ _ _ _=>hG) (λ_ _ _ _ _=>(bF cE rfl B.len de (aD (aC 0) aE))))
   (aJ (aO (cA (aD aY (aD (aC 1) (aD (bF (hZ rfl) rfl B.min boot_min (aD (aC 3) aE)) (aD (bF (gH rfl) rfl B.max boot_max (aD (aC 3) aE)) (aD (aL G6_ hr (aD (rO PySem.F.slot_str_join PySem.F.type_str_join BY aY (aD (aC 2) aE)) aE)) aE)))))))))))) (λas R q=>?_)
 obtain⟨t,us,rfl,ne,l64,hu,q⟩:=q
 have l0:0<us.length:=qR1_.mpr ne
 refine⟨rfl,t,us,rfl,l0,λx x1 x2=>⟨t,us,rfl,l0,λy y1 y2=>⟨x,y,rfl,by have:=(hu x x1).2;omega,by have:=(hu y y1).2;omega,?_⟩⟩⟩
 have hh:bq us (qo x y):=KM x1 y1 x2 y2 (AL x y)
 generalize qo x y=hd at hh
 show bc.nx _ _
 refine g7 (ρ':=[.va (.seq t (us.map sT)),.va (sT hd),.no,.no]) rfl ?_
 have rl:∀t∈us,((aV t hd).length:Int)=(t.length:Int)-(hd.length:Int)/\(aV t hd).length<=50:=λt ht=>by
  obtain⟨r,e⟩:=hh.all t ht
  have h1:=kI e
  have h2:=congrArg List.length e
  rw[b9]at h2
  have h3:=(hu t ht).2
  rw[WordM.len]at h3
  rw[WordM.len,WordM.len t,WordM.len hd,h1]
  omega
 have hl:hd.length<=50:=by
  obtain⟨t,ht⟩:=ix _ ne
  have:=(rl t ht).1
  have:=(hu t ht).2
  omega
 refine⟨by rw[ao];omega,dS sT (λt=>sT (aV t hd)) (λt ht R q=>⟨by show hd.length<=_;omega,_,rfl,by have:=(hu t ht).2;show t.length<=_;omega,q⟩) ?_⟩
 show bc.nx _ _
 refine g7 (ρ':=[.va (.seq t (us.map sT)),.va (sT hd),.va (.seq false ((us.map λt=>aV t hd).map sT)),.no]) (by rw[f7];rfl) ?_
 refine⟨by rw[ao,ao];omega,dS sT (λt=>iT (t.length:Nat)) (λt ht R q=>?_) ?_⟩
 ·obtain⟨u,hu',rfl⟩:=qf_.mp ht
  exact⟨by have:=(rl u hu').2;show(aV u hd).length<=_;omega,q⟩
 have es:((us.map λt=>aV t hd).map λt=>iT (t.length:Nat))=((us.map λt=>(t.length:Int)-(hd.length:Int))).map iT:=by
  rw[f7,f7]
  apply mi
  intro t ht
  show iT ((aV t hd).length:Nat)=iT _
  rw[(rl t ht).1]
 rw[es]
 have ne2:(us.map λt=>(t.length:Int)-(hd.length:Int))≠[]:=by simpa using ne
 refine .inr (.inl ⟨_,rfl,qR1_.mpr ne2,λlo lo1 lo2=>.inr (.inl ⟨_,rfl,qR1_.mpr ne2,λhi hi1 hi2=>?_⟩)⟩)
 have cl:(cC (us.map λt=>aV t hd)).length<=1000:=by
  have:=Ka (us.map λt=>aV t hd) 50 λt ht=>by
   obtain⟨u,hu',rfl⟩:=qf_.mp ht
   exact(rl u hu').2
  rw[ao]at this
  omega
 refine⟨rfl,us.map λt=>aV t hd,rfl,rfl,by omega,_,rfl,by show(cC (us.map λt=>aV t hd)).length<=_;exact cl,by simp,?_⟩
 rw[K0 (us:=us) (hd:=hd) (z:=⟨(cC (us.map λt=>aV t hd)).toArray⟩) (λt ht=>(hu t ht).1) rfl]
 have m:ip us hd lo hi (jR us hd):=by
  refine⟨hh,?_,λt ht=>lo2 _ (qf_.mpr ⟨t,ht,rfl⟩),?_,λt ht=>hi2 _ (qf_.mpr ⟨t,ht,rfl⟩),rfl⟩
  ·obtain⟨t,ht,e⟩:=qf_.mp lo1;exact⟨t,ht,e⟩
  ·obtain⟨t,ht,e⟩:=qf_.mp hi1;exact⟨t,ht,e⟩
 rw[<-rF m]at q
 exact q
def kF:bu:=λas R=>∃ts:List Str,as=[.va (.seq false (ts.map sT))]/\ts≠[]/\ts.length<=1000/\(aH ts).length<=20/\(∀t∈ts,fM t)/\R (bV (bP ts))
def wG{ts us:List Str}(ne:ts≠[])(h:∀x,x∈ts↔x∈us):eY ts=eY us:=by
 obtain⟨hd,lo,hi,ms,e,m⟩:=iS ne
 rw[e]
 exact rF (m.same h)
def we:bB ["texts","unlike"] ["texts"] (aN yI):=b8 (by decide +kernel)
def Dy(h:ak K mg "words_of" yI)(B:Own mg)(G9_:ae P w K mg base 3 "make_of" ["texts"] qV)(GMOST_FEW:eI K mg "MOST_FEW" (iT 6))  : ae P w K mg base 4 "words_of" ["texts"] kF:=by
 have nd:=we.nd
 refine h.pgood we (fun|_,_,_,_,_,_,[_],_=>rfl) (λf cdv A outer s H E F hr=>
   (aI (bD (cF hr (bF cE rfl B.len de (aD (aC 0) aE)) aG)
    (aJ zp)
    bC)
   (aI (aZ 1 nd (bE (pT rfl rfl B.sorted rfl B.set_ (aC 0))))
   (aI (bD (dF xJ (bF cE rfl B.len de (aD (aC 1) aE)) (oR GMOST_FEW rfl))
    (aJ (aO (cA (aD aY (aD (fO fQ rfl B.tuple_ boot_tuple (aD (aC 1) aE)) aE)))))
    bC)
   (aJ (aO (aL G9_ hr (aD (aC 1) aE)))))))) (λas R q=>?_)
 obtain⟨ts,rfl,ne,lt,l20,ht,q⟩:=q
 have l0:0<ts.length:=qR1_.mpr ne
 refine⟨rfl,_,rfl,eP (λz=>absurd z (by rw[ao];omega)) (λ_=>?_)⟩
 have sl:(aX (aH ts)).length=(aH ts).length:=(eR _).length_eq
 refine⟨ts,rfl,by omega,?_⟩
 show bc.nx _ _
 refine g7 (ρ':=[.va (.seq false (ts.map sT)),.va (.seq false ((aX (aH ts)).map sT))]) rfl ?_
 refine⟨_,rfl,jZ (λz=>?_) (λz=>?_)⟩
 ·have z:(((aX (aH ts)).map sT).length:Int)<=6:=z
  rw[ao,sl]at z
  unfold bP at q
  rw[if_pos (by omega)]at q
  exact⟨_,_,rfl,by simp,q⟩
 ·have z:¬ (((aX (aH ts)).map sT).length:Int)<=6:=z
  rw[ao,sl]at z
  unfold bP at q
  rw[if_neg (by omega),wG (us:=aX (aH ts)) ne λx=>sort_set_mem.symm]at q
  exact⟨false,_,rfl,λe=>by rw[e]at sl;simp at sl;omega,by omega,λt h=>ht t (sort_set_mem.mp h),q⟩
structure pO (ts:List Str):Prop where
 ne:ts≠[]
 le:(aH ts).length<=20
 ok:∀t∈ts,fM t
def vJ:bu:=λas R=>∃ts:List Str,as=[.va (bV (bP ts))]/\pO ts/\R (bV (eY ts))
def nR{ts:List Str}(h:ts≠[]):aX (aH ts)≠[]:=λe=>by
 obtain⟨x,hx⟩:=ix _ h
 have:=sort_set_mem.mpr hx
 rw[e]at this
 exact nomatch this
def wc:bB ["words"] ["words"] (aN yH):=b8 (by decide +kernel)
def Dz(h:ak K mg "as_make" yH)(B:Own mg)(G9_:ae P w K mg base 3 "make_of" ["texts"] qV)   : ae P w K mg base 4 "as_make" ["words"] vJ:=by
 have nd:=wc.nd
 refine h.pgood wc (fun|_,_,_,_,_,_,[_],_=>rfl) (λf cdv A outer s H E F hr=>
   (aJ (aO (vB (cF hr (aU hr (aC 0) aG) aY) (aL G9_ hr (aD (aU hr (aC 0) aG) aE)) (aC 0))))) (λas R q=>?_)
 obtain⟨ts,rfl,ok,q⟩:=q
 unfold bP
 split
 ·rename_i z
  rw[wG (us:=aX (aH ts)) ok.ne λx=>sort_set_mem.symm]at q
  exact⟨rfl,_,bz,_,rfl,sY ⟨_,bH (j:=1) rfl,true,_,rfl,nR ok.ne,by rw[(eR _).length_eq];exact ok.le,λt h=>ok.ok t (sort_set_mem.mp h),q⟩⟩
 ·obtain⟨hd,lo,hi,ms,e,m⟩:=iS ok.ne
  rw[e]at q ⊢
  exact⟨rfl,_,bz,_,rfl,sN (by decide +kernel) q⟩
def uP:bu:=λas R=>∃(h1:Str) (lo hi:Int) (ms:List Str) (hd:Str),as=[.va (bV (.make h1 lo hi ms)),.va (sT hd)]/\h1.length<=50/\hd.length<=50/\ms.length<=4/\R (bV (.make hd (lo+(aV h1 hd).length) (hi+(aV h1 hd).length) (jc ms (dE (aV h1 hd)))))
def wb:bB ["make","head","tail","marks"] ["make","head"] (aN yG):=b8 (by decide +kernel)
def DA(h:ak K mg "with_shorter_head" yG)(B:Own mg)(G7_:ae P w K mg base 1 "marks_joined" ["one","other"] tM)(G6_:ae P w K mg base 2 "marks_of" ["text"] qG)   : ae P w K mg base 3 "with_shorter_head" ["make","head"] uP:=by
 have nd:=wb.nd
 refine h.pgood wb (fun|_,_,_,_,_,_,[_,_],_=>rfl) (λf cdv A outer s H E F hr=>
   (aI (aZ 2 nd (iL jD (aU hr (aC 0) aG) (iQ (bF cE rfl B.len de (aD (aC 1) aE))) iR))
   (aI (aZ 3 nd (aL G7_ hr (aD (aU hr (aC 0) aG) (aD (aL G6_ hr (aD (aC 2) aE)) aE))))
   (aJ (aO (cA (aD aY (aD (aC 1) (aD (bN cZ (aU hr (aC 0) aG) (bF cE rfl B.len de (aD (aC 2) aE))) (aD (bN cZ (aU hr (aC 0) aG) (bF cE rfl B.len de (aD (aC 2) aE))) (aD (aC 3) aE))))))))))) (λas R q=>?_)
 obtain⟨h1,lo,hi,ms,hd,rfl,l1,l2,l3,q⟩:=q
 have rl:(aV h1 hd).length<=50:=bx (WordM.slice_len ..) l1
 have ml:(dE (aV h1 hd)).length<=4:=by
  unfold dE
  exact bx (qp _ _) (by simp[MK])
 refine⟨rfl,_,bH (j:=1) rfl,by show hd.length<=_;omega,_,rfl,by show h1.length<=_;omega,?_⟩
 show bc.nx _ _
 refine g7 (ρ':=[.va (bV (.make h1 lo hi ms)),.va (sT hd),.va (sT (aV h1 hd)),.no]) rfl ?_
 refine⟨_,bH (j:=4) rfl,aV h1 hd,rfl,by omega,ms,dE (aV h1 hd),rfl,l3,ml,?_⟩
 show bc.nx _ _
 refine g7 (ρ':=[.va (bV (.make h1 lo hi ms)),.va (sT hd),.va (sT (aV h1 hd)),.va (.seq true ((jc ms (dE (aV h1 hd))).map sT))]) rfl ?_
 exact⟨_,bH (j:=2) rfl,by show(aV h1 hd).length<=_;omega,_,bH (j:=3) rfl,by show(aV h1 hd).length<=_;omega,by simp,q⟩
def Aq{ms ms':List Str}(h1:∀m∈ms,m∈MK)(h2:∀m∈ms',m∈MK):(jc ms ms').length<=4/\∀m∈jc ms ms',m∈MK:=by
 have h:∀m∈jc ms ms',m∈MK:=λm hm=>by
  rcases qp_.mp (sort_set_mem.mp hm) with z|z
  ·exact h1 m z
  ·exact h2 m z
 exact⟨WordM.nodup_len (lH (gB _)) h,h⟩
def Cn{ts:List Str}{hd:Str}{lo hi:Int}{ms:List Str}(m:ip ts hd lo hi ms)(ok:∀t∈ts,fM t):fM hd/\ms.length<=4/\∀x∈ms,x∈MK:=by
 obtain⟨t,ht,_⟩:=m.lo1
 obtain⟨r,e⟩:=m.he.all t ht
 have hS:=(ok t ht).1
 have hl:=(ok t ht).2
 have hk:∀x∈ms,x∈MK:=λx hx=>by rw[m.mks]at hx;exact(qf2_.mp hx).1
 refine⟨⟨λc hc=>hS c (by rw[e];exact g6 _ hc),?_⟩,?_,hk⟩
 ·rw[WordM.len]at hl ⊢
  rw[e,b9]at hl
  omega
 ·rw[m.mks];exact bx (qp _ _) (by simp[MK])
def vI:bu:=λas R=>∃A B:List Str,as=[.va (bV (eY A)),.va (bV (eY B))]/\A≠[]/\B≠[]/\(∀t∈A,fM t)/\(∀t∈B,fM t)/\R (bV (eY (A++B)))
def wa:bB ["one","other","head","first","second","least","most"] ["one","other"] (aN yF):=b8 (by decide +kernel)
def DB(h:ak K mg "makes_joined" yF)(B:Own mg)(G8_:ae P w K mg base 1 "shared_head" ["one","other"] tK)(G12_:ae P w K mg base 3 "with_shorter_head" ["make","head"] uP)(G7_:ae P w K mg base 1 "marks_joined" ["one","other"] tM)   : ae P w K mg base 4 "makes_joined" ["one","other"] vI:=by
 have nd:=wa.nd
 refine h.pgood wa (fun|_,_,_,_,_,_,[_,_],_=>rfl) (λf cdv A outer s H E F hr=>
   (aI (aZ 2 nd (aL G8_ hr (aD (aU hr (aC 0) aG) (aD (aU hr (aC 1) aG) aE))))
   (aI (aZ 3 nd (aL G12_ hr (aD (aC 0) (aD (aC 2) aE))))
   (aI (aZ 4 nd (aL G12_ hr (aD (aC 1) (aD (aC 2) aE))))
   (aI (aZ 5 nd (bF (hZ rfl) rfl B.min boot_min (aD (aU hr (aC 3) aG) (aD (aU hr (aC 4) aG) aE))))
   (aI (aZ 6 nd (bF (gH rfl) rfl B.max boot_max (aD (aU hr (aC 3) aG) (aD (aU hr (aC 4) aG) aE))))
   (aJ (aO (cA (aD aY (aD (aC 2) (aD (aC 5) (aD (aC 6) (aD (aL G7_ hr (aD (aU hr (aC 3) aG) (aD (aU hr (aC 4) aG) aE))) aE)))))))))))))) (λas R q=>?_)
 obtain⟨A,B,rfl,na,nb,ha,hb,q⟩:=q
 obtain⟨h1,lo1,hi1,ms1,e1,m1⟩:=iS na
 obtain⟨h2,lo2,hi2,ms2,e2,m2⟩:=iS nb
 obtain⟨⟨s1,b1⟩,c1,k1⟩:=Cn m1 ha
 obtain⟨⟨s2,b2⟩,c2,k2⟩:=Cn m2 hb
 have hh:=AL h1 h2
 have app:=m1.app m2 s1 s2 hh
 rw[<-rF app]at q
 obtain⟨r1,er1⟩:=hh.all h1 (.head _)
 have lh:(qo h1 h2).length<=50:=by
  rw[WordM.len]at b1 ⊢
  rw[er1,b9]at b1
  omega
 rw[e1,e2]
 refine⟨rfl,_,bH (j:=1) rfl,_,bH (j:=1) rfl,h1,h2,rfl,by omega,by omega,?_⟩
 generalize qo h1 h2=hd at q lh
 have mk1:∀x:Str,∀m∈dE x,m∈MK:=λx m hm=>(qf2_.mp hm).1
 have j1:=(Aq k1 (mk1 (aV h1 hd))).1
 have j2:=(Aq k2 (mk1 (aV h2 hd))).1
 show bc.nx _ _
 refine g7 (ρ':=[.va (bV (.make h1 lo1 hi1 ms1)),.va (bV (.make h2 lo2 hi2 ms2)),.va (sT hd),.no,.no,.no,.no]) rfl ?_
 refine⟨h1,lo1,hi1,ms1,hd,rfl,b1,lh,c1,?_⟩
 generalize jc ms1 (dE (aV h1 hd))=n1 at q j1
 generalize lo1+((aV h1 hd).length:Int)=l1 at q
 generalize hi1+((aV h1 hd).length:Int)=g1 at q
 show bc.nx _ _
 refine g7 (ρ':=[.va (bV (.make h1 lo1 hi1 ms1)),.va (bV (.make h2 lo2 hi2 ms2)),.va (sT hd),.va (bV (.make hd l1 g1 n1)),.no,.no,.no]) rfl ?_
 refine⟨h2,lo2,hi2,ms2,hd,rfl,b2,lh,c2,?_⟩
 generalize jc ms2 (dE (aV h2 hd))=n2 at q j2
 generalize lo2+((aV h2 hd).length:Int)=l2 at q
 generalize hi2+((aV h2 hd).length:Int)=g2 at q
 show bc.nx _ _
 refine g7 (ρ':=[.va (bV (.make h1 lo1 hi1 ms1)),.va (bV (.make h2 lo2 hi2 ms2)),.va (sT hd),.va (bV (.make hd l1 g1 n1)),.va (bV (.make hd l2 g2 n2)),.no,.no]) rfl ?_
 refine⟨_,bH (j:=2) rfl,_,bH (j:=2) rfl,.inl ⟨_,_,rfl,_,bH (j:=3) rfl,_,bH (j:=3) rfl,.inl ⟨_,_,rfl,?_⟩⟩⟩
 exact⟨_,bH (j:=4) rfl,_,bH (j:=4) rfl,n1,n2,rfl,j1,j2,by simp,q⟩
def lR:bu:=λas R=>∃A B:List Str,as=[.va (bV (bP A)),.va (bV (bP B))]/\A≠[]/\B≠[]/\pO (A++B)/\R (bV (bP (A++B)))
def fG{A C:List Str}(h:∀x∈A,x∈C):(aH A).length<=(aH C).length:=WordM.nodup_len (cY A) λx hx=>(cP C x).mpr (h x ((cP A x).mp hx))
def v_:bB ["one","other"] ["one","other"] (aN yE):=b8 (by decide +kernel)
def DC(h:ak K mg "words_joined" yE)(B:Own mg)(G10_:ae P w K mg base 4 "words_of" ["texts"] kF)(G13_:ae P w K mg base 4 "makes_joined" ["one","other"] vI)(G11_:ae P w K mg base 4 "as_make" ["words"] vJ)   : ae P w K mg base 5 "words_joined" ["one","other"] lR:=by
 have nd:=v_.nd
 refine h.pgood v_ (fun|_,_,_,_,_,_,[_,_],_=>rfl) (λf cdv A outer s H E F hr=>
   (aI (bD (eO (mB (cF hr (aU hr (aC 0) aG) aY) (nQ (cF hr (aU hr (aC 1) aG) aY))))
    (aJ (aO (aL G10_ hr (aD (bN cZ (bE (qF uN rfl B.list_ boot_list (aD (aU hr (aC 0) aG) aE))) (bE (qF uN rfl B.list_ boot_list (aD (aU hr (aC 1) aG) aE)))) aE))))
    bC)
   (aJ (aO (aL G13_ hr (aD (aL G11_ hr (aD (aC 0) aE)) (aD (aL G11_ hr (aD (aC 1) aE)) aE))))))) (λas R q=>?_)
 obtain⟨A,B,rfl,na,nb,ok,q⟩:=q
 have oA:pO A:=⟨na,bx (fG λx hx=>g6 _ hx) ok.le,λt ht=>ok.ok t (g6 _ ht)⟩
 have oB:pO B:=⟨nb,bx (fG λx hx=>d8 _ hx) ok.le,λt ht=>ok.ok t (d8 _ ht)⟩
 have fin:7<=(aH (A++B)).length->R (bV (eY (A++B))):=λh=>by
  unfold bP at q
  rw[if_neg (by omega)]at q
  exact q
 by_cases zA:(aH A).length<7
 ·have eA:bP A=.few (aX (aH A)):=by unfold bP;rw[if_pos zA]
  by_cases zB:(aH B).length<7
  ·have eB:bP B=.few (aX (aH B)):=by unfold bP;rw[if_pos zB]
   rw[eA,eB]
   have es:∀x,x∈aX (aH A)++aX (aH B)↔x∈A++B:=λx=>by rw[qp_,qp_,sort_set_mem,sort_set_mem]
   have l1:(aX (aH A)).length=(aH A).length:=(eR _).length_eq
   have l2:(aX (aH B)).length=(aH B).length:=(eR _).length_eq
   rw[<-lL es]at q
   refine⟨rfl,_,bz,_,rfl,sY ⟨_,bz,_,rfl,sY ⟨_,bH (j:=1) rfl,_,_,rfl,_,bH (j:=1) rfl,_,_,rfl,?_⟩⟩⟩
   refine⟨by rw[ao,ao];omega,aX (aH A)++aX (aH B),by rw[ij],?_,?_,?_,λt ht=>ok.ok t ((es t).mp ht),q⟩
   ·intro e
    exact nR na (qd2_.mp e).1
   ·rw[b9];omega
   ·have:=fG (A:=aX (aH A)++aX (aH B)) (C:=A++B) λx hx=>(es x).mp hx
    exact bx this ok.le
  ·have q:=fin (bx (by omega) (fG (A:=B) (C:=A++B) λx hx=>d8 _ hx))
   have eB:bP B=eY B:=by unfold bP;rw[if_neg zB]
   obtain⟨h2,lo2,hi2,ms2,e2,m2⟩:=iS nb
   have aA:[Ar.va (bV (.few (aX (aH A))))]=[.va (bV (bP A))]:=by rw[eA]
   have aB:[Ar.va (bV (.make h2 lo2 hi2 ms2))]=[.va (bV (bP B))]:=by rw[eB,e2]
   rw[eB,eA,e2]
   exact⟨rfl,_,bz,_,rfl,sY ⟨_,bz,_,rfl,sN (by decide +kernel) ⟨A,aA,oA,B,aB,oB,A,B,rfl,na,nb,oA.ok,oB.ok,q⟩⟩⟩
 ·have q:=fin (bx (by omega) (fG (A:=A) (C:=A++B) λx hx=>g6 _ hx))
  have eA:bP A=eY A:=by unfold bP;rw[if_neg zA]
  obtain⟨h1,lo1,hi1,ms1,e1,m1⟩:=iS na
  have aA:[Ar.va (bV (.make h1 lo1 hi1 ms1))]=[.va (bV (bP A))]:=by rw[eA,e1]
  rw[eA,e1]
  exact⟨rfl,_,bz,_,rfl,sN (by decide +kernel) (aR ⟨A,aA,oA,B,rfl,oB,A,B,rfl,na,nb,oA.ok,oB.ok,q⟩)⟩
end
section
variable{P:Program}{w:World}{K:W.Frag}{mg:Str->Option Value}{base:Heap}
def MJ{s t:dh}{P:bc}{ρ:aT}{J:aT->Prop}(rest:∀ρ',J ρ'->t P ρ')(main:(∀ρ',J ρ'->t P ρ')->sR s t P ρ):sR s t P ρ:=main rest
structure n_ (D:List Tv->List Pt):Prop where
 same:∀A B:List Tv,(∀v,v∈A↔v∈B)->D A=D B
 nil:D []=[]
structure fj (V:Tv->Prop) (ks:List (List (Str×Tv))):Prop where
 ne:ks≠[]
 nd:∀k∈ks,(k.map (·.1)).Nodup
 ok:∀k∈ks,∀kt∈k,fM kt.1/\V kt.2
 le:(aH (aQ ks)).length<=20
variable{D:List Tv->List Pt}{V:Tv->Prop}{W:(Tv->Prop)->Prop}{lv:Nat}
def fj.nms{ks:List (List (Str×Tv))}(h:fj V ks){n:Str}(hn:n∈aQ ks):fM n:=by
 obtain⟨k,hk,hn⟩:=qr1_.mp hn
 obtain⟨kt,hkt,rfl⟩:=qf_.mp hn
 exact(h.ok k hk kt hkt).1
def look_mem{k:List (Str×Tv)}{n:Str}{v:Tv}(h:bS k n=some v):(n,v)∈k:=by
 unfold bS at h
 obtain⟨x,hx,e⟩:=qg1_.mp h
 have this:=qr hx
 have this:x.1=n:=dw this
 have hm:=tq hx
 obtain⟨a,b⟩:=x
 simp only at this e
 subst this e
 exact hm
def rH{k:List (Str×Tv)}(nd:(k.map (·.1)).Nodup){n:Str}{v:Tv}(h:(n,v)∈k):bS k n=some v:=by
 unfold bS
 induction k with
 |nil=>exact nomatch h
 |cons x k ih=>
  rw[e9,qG1_]at nd
  rw[i3]
  by_cases z:x.1=n
  ·rw[i_ z]
   rcases qx_.mp h with e|h
   ·subst e;rfl
   ·exact absurd (qf_.mpr ⟨(n,v),h,z.symm⟩) nd.1
  ·rw[g4 z]
   rcases qx_.mp h with e|h
   ·subst e;exact absurd rfl z
   ·exact ih nd.2 h
def wR{ks:List (List (Str×Tv))}(nd:∀k∈ks,(k.map (·.1)).Nodup){n:Str}{v:Tv}:v∈i7 n ks↔∃k∈ks,(n,v)∈k:=by
 unfold i7
 rw[qc1_]
 exact⟨λ⟨k,hk,e⟩=>⟨k,hk,look_mem e⟩,λ⟨k,hk,e⟩=>⟨k,hk,rH (nd k hk) e⟩⟩
def vls_mem{ks:List (List (Str×Tv))}{v:Tv}:v∈dM ks↔∃k∈ks,∃n,(n,v)∈k:=by
 unfold dM
 rw[qr1_]
 constructor
 ·rintro⟨k,hk,h⟩
  obtain⟨x,hx,rfl⟩:=qf_.mp h
  exact⟨k,hk,x.1,hx⟩
 ·rintro⟨k,hk,n,h⟩
  exact⟨k,hk,qf_.mpr ⟨_,h,rfl⟩⟩
def fj.at_v{ks:List (List (Str×Tv))}(h:fj V ks){n:Str}:∀v∈i7 n ks,V v:=λv hv=>by
 obtain⟨k,hk,e⟩:=(wR h.nd).mp hv
 exact(h.ok k hk _ e).2
def fj.vls_v{ks:List (List (Str×Tv))}(h:fj V ks):∀v∈dM ks,V v:=λv hv=>by
 obtain⟨k,hk,n,e⟩:=vls_mem.mp hv
 exact(h.ok k hk _ e).2
def Ex{ks:List (List (Str×Tv))}(hD:n_ D)(ne:ks≠[]){n:Str}(h:n∉aQ ks):cW D ks n=(n,false,[]):=by
 have h1:∀k∈ks,n∉k.map (·.1):=λk hk z=>h (qr1_.mpr ⟨k,hk,z⟩)
 have e1:ks.all (λk=>decide (n∈k.map (·.1)))=false:=by
  obtain⟨k,hk⟩:=ix _ ne
  exact List.all_eq_false.mpr ⟨k,hk,by simpa using h1 k hk⟩
 have e2:i7 n ks=[]:=by
  unfold i7
  rw[qe2_]
  intro k hk
  cases e:bS k n with
  |none=>rfl
  |some v=>exact absurd (qf_.mpr ⟨_,look_mem e,rfl⟩) (h1 k hk)
 unfold cW
 rw[e1,e2,hD.nil]
def ID{ks js:List (List (Str×Tv))}(n:Str):cW D (ks++js) n=(n,(cW D ks n).2.1&&(cW D js n).2.1,D (i7 n ks++i7 n js)):=by
 unfold cW i7
 rw[List.all_append,iu]
def gX(ks js:List (List (Str×Tv))):aQ (ks++js)=aQ ks++aQ js:=oo ..
def rK{ks:List (List (Str×Tv))}(h:ks≠[]):bJ ks≠[]:=by unfold bJ;simpa using h
def Ks{ks js:List (List (Str×Tv))}(h1:ks≠[])(h2:js≠[]):bM (bJ (ks++js))=min (bM (bJ ks)) (bM (bJ js))/\bR (bJ (ks++js))=max (bR (bJ ks)) (bR (bJ js)):=by
 rw[show bJ (ks++js)=bJ ks++bJ js from ij ..]
 exact⟨Bf (rK h1) (rK h2),Be (rK h1) (rK h2)⟩
def ph(D:List Tv->List Pt)(W:(Tv->Prop)->Prop):bu:=λas R=>∃V:Tv->Prop,W V/\∃A B:List Tv,as=[.va (bX (D A)),.va (bX (D B))]/\(∀v∈A,V v)/\(∀v∈B,V v)/\R (bX (D (A++B)))
def pk(fs:List l_):Tv:=.dct (fs.map λx=>(x.1,cG x))
def mY:bu:=λas R=>∃(a b:Int) (fs:List l_),as=[.va (aW (.record a b fs))]/\fs.length<=20/\(fs.map (·.1)).Nodup/\R (pk fs)
def vq:bB ["record"] ["record"] (aN tF):=b8 (by decide +kernel)
def DJ(h:ak K mg "fields_by_name" tF)(B:Own mg)    : ae P w K mg base 1 "fields_by_name" ["record"] mY:=by
 have nd:=vq.nd
 refine h.pgood vq (fun|_,_,_,_,_,_,[_],_=>rfl) (λf cdv A outer s H E F hr=>
   (aJ (aO (AV (LM rfl rfl B.dict_ (bE (eW (sc:=aN tF) (XN:=["record"]) (N:=["field"]) (fr:=[]) (bY (aU hr (aC 0) aG)) (λ_ _ _ _ _=>(cA (aD (aU hr (aC 0) aG) (aD (aC 0) aE))))))))))) (λas R q=>?_)
 obtain⟨a,b,fs,rfl,l,nd,q⟩:=q
 rw[eQ]
 refine⟨rfl,_,bH (j:=3) rfl,by rw[ao];omega,dS cG (λx=>.seq true [sT x.1,cG x]) (λx hx R q=>⟨_,bz,by simp,q⟩) ⟨fs.map λx:l_=>(x.1,cG x),by rw[List.map_map];rfl,by rw[f7];exact nd,by rw[ao];omega,q⟩⟩
def x8(D:List Tv->List Pt)(W:(Tv->Prop)->Prop):bu:=λas R=>∃V:Tv->Prop,W V/\∃(n n':Str) (m m':Bool) (A B:List Tv),as=[.va (cG (n,m,D A)),.va (cG (n',m',D B))]/\(∀v∈A,V v)/\(∀v∈B,V v)/\R (cG (n,m&&m',D (A++B)))
def vo:bB ["one","other"] ["one","other"] (aN pI):=b8 (by decide +kernel)
def DK(h:ak K mg "field_joined" pI)(B:Own mg)(G30_:ae P w K mg base lv "joined" ["one","other"] (ph D W))   : ae P w K mg base (lv+1) "field_joined" ["one","other"] (x8 D W):=by
 have nd:=vo.nd
 refine h.pgood vo (fun|_,_,_,_,_,_,[_,_],_=>rfl) (λf cdv A outer s H E F hr=>
   (aJ (aO (cA (aD (aU hr (aC 0) aG) (aD (iY (aU hr (aC 0) aG) (mC (aU hr (aC 1) aG))) (aD (aL G30_ hr (aD (aU hr (aC 0) aG) (aD (aU hr (aC 1) aG) aE))) aE))))))) (λas R q=>?_)
 obtain⟨V,hv,n,n',m,m',A,B,rfl,hA,hB,q⟩:=q
 refine⟨rfl,_,bz,_,bH (j:=1) rfl,?_⟩
 have q:R (.seq true [sT n,bT (m&&m'),bX (D (A++B))]):=q
 cases m with
 |true=>
  rw[Bool.true_and]at q
  exact⟨_,rfl,bW ⟨_,bH (j:=1) rfl,_,bH (j:=2) rfl,_,bH (j:=2) rfl,V,hv,A,B,rfl,hA,hB,by simp,q⟩⟩
 |false=>exact⟨_,rfl,aR ⟨_,bH (j:=2) rfl,_,bH (j:=2) rfl,V,hv,A,B,rfl,hA,hB,by simp,q⟩⟩
noncomputable def bQ(D:List Tv->List Pt)(ks:List (List (Str×Tv))):List l_:=(aX (aH (aQ ks))).map (cW D ks)
def mD(ks:List (List (Str×Tv))):(bQ D ks).map (·.1)=aX (aH (aQ ks)):=by
 unfold bQ
 rw[f7]
 exact List.map_id _
def kN(ks:List (List (Str×Tv))):(bQ D ks).length=(aH (aQ ks)).length:=by
 unfold bQ
 rw[ao,(eR _).length_eq]
def Bu{ks:List (List (Str×Tv))}(hD:n_ D)(ne:ks≠[])(n:Str):(bS ((bQ D ks).map λx:l_=>(x.1,cG x)) n).getD (cG (n,false,[]))=cG (cW D ks n):=by
 by_cases h:n∈aQ ks
 ·have e:bS ((bQ D ks).map λx:l_=>(x.1,cG x)) n=some (cG (cW D ks n)):=by
   refine rH ?_ (qf_.mpr ⟨cW D ks n,qf_.mpr ⟨n,sort_set_mem.mpr h,rfl⟩,rfl⟩)
   rw[f7]
   show((bQ D ks).map (·.1)).Nodup
   rw[mD]
   exact lH (gB _)
  rw[e];rfl
 ·rw[Ex hD ne h]
  have e:bS ((bQ D ks).map λx:l_=>(x.1,cG x)) n=none:=by
   cases e:bS ((bQ D ks).map λx:l_=>(x.1,cG x)) n with
   |none=>rfl
   |some v=>
    have h1:n∈((bQ D ks).map λx:l_=>(x.1,cG x)).map (·.1):=qf_.mpr ⟨(n,v),look_mem e,rfl⟩
    rw[f7]at h1
    have h1:n∈(bQ D ks).map (·.1):=h1
    rw[mD]at h1
    exact absurd (sort_set_mem.mp h1) h
  rw[e];rfl
def ya(D:List Tv->List Pt)(W:(Tv->Prop)->Prop):bu:=λas R=>∃V:Tv->Prop,W V/\∃(a b a' b':Int) (ks js:List (List (Str×Tv))) (ns:List Str),as=[.va (aW (.record a b (bQ D ks))),.va (aW (.record a' b' (bQ D js))),.va (.seq false (ns.map sT))]/\n_ D/\fj V ks/\fj V js/\ns.length<=20/\R (aW (.record (min a a') (max b b') (ns.map (cW D (ks++js)))))
def vn:bB ["one","other","names","first","second","fields","name","lacking"] ["one","other","names"] (aN pH):=b8 (by decide +kernel)
def DL(h:ak K mg "records_joined" pH)(B:Own mg)(G22_:ae P w K mg base 1 "fields_by_name" ["record"] mY)(G23_:ae P w K mg base (lv+1) "field_joined" ["one","other"] (x8 D W))   : ae P w K mg base (lv+2) "records_joined" ["one","other","names"] (ya D W):=by
 have nd:=vn.nd
 refine h.pgood vn (fun|_,_,_,_,_,_,[_,_,_],_=>rfl) (λf cdv A outer s H E F hr=>
   (aI (aZ 3 nd (aL G22_ hr (aD (aC 0) aE)))
   (aI (aZ 4 nd (aL G22_ hr (aD (aC 1) aE)))
   (aI (gP 5 nd (cD aE))
   (aI (eF (m:=8) ic rfl (bY (aC 2)) (dI 6 (by decide) nd rfl (.inl rfl))
    (aI (aZ 7 nd (cA (aD (aC 6) (aD gO (aD (cA aE) aE)))))
    (aJ (eC (fP 5 (aL G23_ hr (aD (C2 (oX hr) (aC 3) (aC 6) (aC 7)) (aD (C2 (oX hr) (aC 4) (aC 6) (aC 7)) aE))))))))
   (aJ (aO (cA (aD aY (aD (bF (hZ rfl) rfl B.min boot_min (aD (aU hr (aC 0) aG) (aD (aU hr (aC 1) aG) aE))) (aD (bF (gH rfl) rfl B.max boot_max (aD (aU hr (aC 0) aG) (aD (aU hr (aC 1) aG) aE))) (aD (fO fQ rfl B.tuple_ boot_tuple (aD (aC 5) aE)) aE)))))))))))) (λas R q=>?_)
 obtain⟨V,hv,a,b,a',b',ks,js,ns,rfl,hD,hk,hj,ln,q⟩:=q
 have nd:∀ks:List (List (Str×Tv)),((bQ D ks).map (·.1)).Nodup:=λks=>by rw[mD];exact lH (gB _)
 refine⟨rfl,a,b,bQ D ks,rfl,by rw[kN];exact hk.le,nd ks,a',b',bQ D js,rfl,by rw[kN];exact hj.le,nd js,?_⟩
 rw[eQ]at q ⊢
 rw[eQ] 
 let T1:Tv:=.seq true [sT "record",iT a,iT b,.seq true ((bQ D ks).map cG)]
 let T2:Tv:=.seq true [sT "record",iT a',iT b',.seq true ((bQ D js).map cG)]
 show bc.nx _ _
 refine g7 (ρ':=[.va T1,.va T2,.va (.seq false (ns.map sT)),.va (pk (bQ D ks)),.va (pk (bQ D js)),.no,.no,.no]) rfl ?_
 refine⟨by simp,?_⟩
 show bc.nx _ _
 refine g7 (ρ':=[.va T1,.va T2,.va (.seq false (ns.map sT)),.va (pk (bQ D ks)),.va (pk (bQ D js)),.own [],.no,.no]) rfl ?_
 refine gZ sT (l:=ns) (λi ρ=>∃s6 s7:Sl,ρ=[.va T1,.va T2,.va (.seq false (ns.map sT)),.va (pk (bQ D ks)),.va (pk (bQ D js)),.own (((ns.take i).map (cW D (ks++js))).map cG),s6,s7]) ⟨.no,.no,rfl⟩ ?_ ?_
 ·rintro i n _ N hn ⟨s6,s7,rfl⟩ hN
  refine⟨by simp,by simp,?_⟩
  show bc.nx _ _
  refine g7 (ρ':=[.va T1,.va T2,.va (.seq false (ns.map sT)),.va (pk (bQ D ks)),.va (pk (bQ D js)),.own (((ns.take i).map (cW D (ks++js))).map cG),.va (sT n),.va (cG (n,false,[]))]) rfl ?_
  refine⟨⟨_,rfl⟩,_,rfl,_,rfl,_,rfl,_,rfl,V,hv,n,n,(cW D ks n).2.1,(cW D js n).2.1,i7 n ks,i7 n js,?_,hk.at_v,hj.at_v,_,rfl,?_,?_⟩
  ·show [Ar.va ((bS ((bQ D ks).map λx:l_=>(x.1,cG x)) n).getD (cG (n,false,[]))),.va ((bS ((bQ D js).map λx:l_=>(x.1,cG x)) n).getD (cG (n,false,[])))]=_
   rw[Bu hD hk.ne,Bu hD hj.ne]
   rfl
  ·rw[ao,ao,jh];omega
  ·refine hN _ ⟨.va (sT n),.va (cG (n,false,[])),?_⟩
   rw[g_,hn,ij,ij,<-ID]
   rfl
 ·rintro _ ⟨s6,s7,rfl⟩
  rw[ff]
  exact⟨_,bH (j:=1) rfl,_,bH (j:=1) rfl,.inl ⟨_,_,rfl,_,bH (j:=2) rfl,_,bH (j:=2) rfl,.inl ⟨_,_,rfl,_,_,rfl,by simp,q⟩⟩⟩
def gK{ks:List (List (Str×Tv))}(h:(aH (aQ ks)).length<=8):di D ks=.record (bM (bJ ks)) (bR (bJ ks)) (bQ D ks):=by unfold di bQ;rw[if_pos h]
def gJ{ks:List (List (Str×Tv))}(h:¬ (aH (aQ ks)).length<=8):di D ks=.table (bM (bJ ks)) (bR (bJ ks)) (bP (aQ ks)) (D (dM ks)):=by unfold di;rw[if_neg h]
noncomputable def g8(ks:List (List (Str×Tv))):List Tv:=if aQ ks=[] then [] else [bV (bP (aQ ks))]
def pK:bu:=λas R=>∃(D:List Tv->List Pt) (V:Tv->Prop) (ks:List (List (Str×Tv))),as=[.va (aW (di D ks))]/\fj V ks/\R (.seq false (g8 ks))
def vm:bB ["part","names"] ["part"] (aN tE):=b8 (by decide +kernel)
def DM(h:ak K mg "name_words" tE)(B:Own mg)(G10_:ae P w K mg base 4 "words_of" ["texts"] kF)   : ae P w K mg base 5 "name_words" ["part"] pK:=by
 have nd:=vm.nd
 refine h.pgood vm (fun|_,_,_,_,_,_,[_],_=>rfl) (λf cdv A outer s H E F hr=>
   (aI (bD (cF hr (aU hr (aC 0) aG) aY)
    (aJ (aO (bE (cD (aD (aU hr (aC 0) aG) aE)))))
    bC)
   (aI (fH (sc:=aN tE) (XN:=["part","names"]) (N:=["field"]) (fr:=[]) 1 nd (bY (aU hr (aC 0) aG)) (λ_ _ _ _ _=>hG) (λ_ _ _ _ _=>(aU hr (aC 0) aG)))
   (aJ (aO (vB (dF AO (bF cE rfl B.len de (aD (aC 1) aE)) aG) (bE (cD (aD (aL G10_ hr (aD (aC 1) aE)) aE))) (bE (cD aE)))))))) (λas R q=>?_)
 obtain⟨D,V,ks,rfl,hk,q⟩:=q
 have sl:(aX (aH (aQ ks))).length=(aH (aQ ks)).length:=(eR _).length_eq
 by_cases h:(aH (aQ ks)).length<=8
 ·rw[gK h,eQ]
  have ln:(bQ D ks).length<=8:=by rw[kN];exact h
  refine⟨rfl,_,bz,_,rfl,sN (by decide +kernel) ⟨_,bH (j:=3) rfl,by rw[ao];omega,dS cG (λx=>sT x.1) (λx hx R q=>⟨_,bz,q⟩) ?_⟩⟩
  have en:((bQ D ks).map λx=>sT x.1)=(aX (aH (aQ ks))).map sT:=by
   rw[<-mD (D:=D),f7]
   rfl
  rw[en]
  show bc.nx _ _
  refine g7 (ρ':=[.va (.seq true [sT "record",iT (bM (bJ ks)),iT (bR (bJ ks)),.seq true ((bQ D ks).map cG)]),.va (.seq false ((aX (aH (aQ ks))).map sT))]) rfl ?_
  refine⟨_,rfl,jZ (λz=>?_) (λz=>?_)⟩
  ·have z:(((aX (aH (aQ ks))).map sT).length:Int) > 0:=z
   rw[ao]at z
   have ne:aQ ks≠[]:=λe=>by rw[sl,e]at z;exact absurd z (by decide)
   unfold g8 at q
   rw[if_neg ne,<-lL (ts:=aX (aH (aQ ks))) (us:=aQ ks) λx=>sort_set_mem]at q
   refine⟨_,rfl,nR ne,by omega,?_,λt ht=>hk.nms (sort_set_mem.mp ht),by simp,q⟩
   exact bx (fG (A:=aX (aH (aQ ks))) (C:=aQ ks) λx hx=>sort_set_mem.mp hx) hk.le
  ·have z:¬ (((aX (aH (aQ ks))).map sT).length:Int) > 0:=z
   rw[ao]at z
   have e:aQ ks=[]:=by
    apply Classical.byContradiction
    intro ne
    have:=qR1_.mpr (nR ne)
    omega
   unfold g8 at q
   rw[if_pos e]at q
   exact⟨by simp,q⟩
 ·have ne:aQ ks≠[]:=λe=>h (by rw[e];exact d6 _)
  unfold g8 at q
  rw[if_neg ne]at q
  rw[gJ h,fN]
  exact⟨rfl,_,bz,_,rfl,sY ⟨_,bH (j:=3) rfl,by simp,q⟩⟩
noncomputable def ny(ks:List (List (Str×Tv))):List (List Tv):=if (aH (aQ ks)).length<=8 then(aX (aH (aQ ks))).map (λn=>i7 n ks) else [dM ks]
def rM{ks:List (List (Str×Tv))}(nd:∀k∈ks,(k.map (·.1)).Nodup)(v:Tv):v∈(ny ks).flatten↔v∈dM ks:=by
 unfold ny
 split
 ·rw[qs1_,vls_mem]
  constructor
  ·rintro⟨l,hl,hv⟩
   obtain⟨n,_,rfl⟩:=qf_.mp hl
   obtain⟨k,hk,e⟩:=(wR nd).mp hv
   exact⟨k,hk,n,e⟩
  ·rintro⟨k,hk,n,e⟩
   refine⟨i7 n ks,qf_.mpr ⟨n,sort_set_mem.mpr (qr1_.mpr ⟨k,hk,qf_.mpr ⟨_,e,rfl⟩⟩),rfl⟩,(wR nd).mpr ⟨k,hk,e⟩⟩
 ·rw[gg,List.flatten_nil,jb]
def Ab(ks:List (List (Str×Tv))):(ny ks).length<=8:=by
 unfold ny
 split
 ·rename_i h;rw[ao,(eR _).length_eq];exact h
 ·simp
def pL:bu:=λas R=>∃(D:List Tv->List Pt) (ks:List (List (Str×Tv))),as=[.va (aW (di D ks))]/\R (.seq false ((ny ks).map λA=>bX (D A)))
def v7:bB ["part"] ["part"] (aN tJ):=b8 (by decide +kernel)
def DF(h:ak K mg "forms_within" tJ)(B:Own mg)    : ae P w K mg base 1 "forms_within" ["part"] pL:=by
 have nd:=v7.nd
 refine h.pgood v7 (fun|_,_,_,_,_,_,[_],_=>rfl) (λf cdv A outer s H E F hr=>
   (aI (bD (cF hr (aU hr (aC 0) aG) aY)
    (aJ (aO (bE (cD (aD (aU hr (aC 0) aG) aE)))))
    bC)
   (aI (bD (cF hr (aU hr (aC 0) aG) aY)
    (aJ (aO (bE (eW (sc:=aN tJ) (XN:=["part"]) (N:=["field"]) (fr:=[]) (bY (aU hr (aC 0) aG)) (λ_ _ _ _ _=>(aU hr (aC 0) aG))))))
    bC)
   (aI (bD (cF hr (aU hr (aC 0) aG) aY)
    (aJ (aO (bE (cD (aD (aU hr (aC 0) aG) aE)))))
    bC)
   (aJ (aO (bE (cD aE)))))))) (λas R q=>?_)
 obtain⟨D,ks,rfl,q⟩:=q
 unfold ny at q
 by_cases h:(aH (aQ ks)).length<=8
 ·rw[if_pos h,f7]at q
  rw[gK h,eQ]
  have ln:(bQ D ks).length<=8:=by rw[kN];exact h
  refine⟨rfl,_,bz,_,rfl,sN (by decide +kernel) ⟨_,bz,_,rfl,sY ⟨_,bH (j:=3) rfl,by rw[ao];omega,dS cG (λx=>bX x.2.2) (λx hx R q=>⟨_,bH (j:=2) rfl,q⟩) ?_⟩⟩⟩
  unfold bQ
  rw[f7]
  exact q
 ·rw[if_neg h]at q
  rw[gJ h,fN]
  exact⟨rfl,_,bz,_,rfl,sN (by decide +kernel) ⟨_,bz,_,rfl,sN (by decide +kernel) ⟨_,bz,_,rfl,sY ⟨_,bH (j:=4) rfl,by simp,q⟩⟩⟩⟩
def yM(D:List Tv->List Pt)(W:(Tv->Prop)->Prop):bu:=λas R=>∃V:Tv->Prop,W V/\∃As:List (List Tv),as=[.va (.seq false (As.map λA=>bX (D A)))]/\n_ D/\(∀A∈As,∀v∈A,V v)/\R (bX (D As.flatten))
def vc:bB ["forms","whole","form"] ["forms"] (aN mU):=b8 (by decide +kernel)
def yP(h:ak K mg "all_joined" mU)(B:Own mg)(G30_:ae P w K mg base lv "joined" ["one","other"] (ph D W))   : ae P w K mg base (lv+1) "all_joined" ["forms"] (yM D W):=by
 have nd:=vc.nd
 refine h.pgood vc (fun|_,_,_,_,_,_,[_],_=>rfl) (λf cdv A outer s H E F hr=>
   (aI (aZ 1 nd (cA aE))
   (aI (eF (m:=3) ic rfl (bY (aC 0)) (dI 2 (by decide) nd rfl (.inl rfl))
    (aJ (aZ 1 nd (aL G30_ hr (aD (aC 1) (aD (aC 2) aE))))))
   (aJ (aO (aC 1)))))) (λas R q=>?_)
 obtain⟨V,hv,As,rfl,hD,hV,q⟩:=q
 refine⟨rfl,by simp,?_⟩
 refine gZ (λA=>bX (D A)) (l:=As) (λi ρ=>∃s2:Sl,ρ=[.va (.seq false (As.map λA=>bX (D A))),.va (bX (D (As.take i).flatten)),s2]) ⟨.no,by rw[qv,List.flatten_nil,hD.nil];rfl⟩ ?_ ?_
 ·rintro i A _ N hA ⟨s2,rfl⟩ hN
  refine⟨V,hv,(As.take i).flatten,A,rfl,λv hv=>?_,hV A (g5 hA),hN _ ⟨.va (bX (D A)),?_⟩⟩
  ·obtain⟨l,hl,hv⟩:=qs1_.mp hv
   exact hV l ((qz _ _).subset hl) v hv
  ·rw[g_,hA,om]
   show [_,_,_]=[_,Sl.va (bX (D ((As.take i).flatten++(A++[])))),_]
   rw[jb]
 ·rintro _ ⟨s2,rfl⟩
  rw[ff]
  exact q
def yK(D:List Tv->List Pt)(W:(Tv->Prop)->Prop):bu:=λas R=>∃V:Tv->Prop,W V/\∃ks js:List (List (Str×Tv)),as=[.va (aW (di D ks)),.va (aW (di D js))]/\n_ D/\fj V ks/\fj V js/\pO (aQ ks++aQ js)/\R (aW (.table (min (bM (bJ ks)) (bM (bJ js))) (max (bR (bJ ks)) (bR (bJ js))) (bP (aQ ks++aQ js)) (D (dM ks++dM js))))
def zu(ks:List (List (Str×Tv))):∃(w:Str) (r:List Tv),aW (di D ks)=.seq true (sT w::iT (bM (bJ ks))::iT (bR (bJ ks))::r):=by
 by_cases h:(aH (aQ ks)).length<=8
 ·rw[gK h,eQ];exact⟨_,_,rfl⟩
 ·rw[gJ h,fN];exact⟨_,_,rfl⟩
def Ax(ks:List (List (Str×Tv))):(g8 ks).length<=1:=by
 unfold g8
 split<;>simp
def vh:bB ["one","other","words","make","form"] ["one","other"] (aN pG):=b8 (by decide +kernel)
def DN(h:ak K mg "tables_joined" pG)(B:Own mg)(G25_:ae P w K mg base 5 "name_words" ["part"] pK)(G14_:ae P w K mg base 5 "words_joined" ["one","other"] lR)(G31_:ae P w K mg base (lv+1) "all_joined" ["forms"] (yM D W))(G17_:ae P w K mg base 1 "forms_within" ["part"] pL)   : ae P w K mg base (lv+6) "tables_joined" ["one","other"] (yK D W):=by
 have nd:=vh.nd
 refine h.pgood vh (fun|_,_,_,_,_,_,[_,_],_=>rfl) (λf cdv A outer s H E F hr=>
   (aI (aZ 2 nd (bN cZ (aL G25_ hr (aD (aC 0) aE)) (aL G25_ hr (aD (aC 1) aE))))
   (aI (aZ 3 nd (vB (cF hr (bF cE rfl B.len de (aD (aC 2) aE)) aG) (aU hr (aC 2) aG) (aL G14_ hr (aD (aU hr (aC 2) aG) (aD (aU hr (aC 2) aG) aE)))))
   (aI (aZ 4 nd (aL G31_ hr (aD (bN cZ (aL G17_ hr (aD (aC 0) aE)) (aL G17_ hr (aD (aC 1) aE))) aE)))
   (aJ (aO (cA (aD aY (aD (bF (hZ rfl) rfl B.min boot_min (aD (aU hr (aC 0) aG) (aD (aU hr (aC 1) aG) aE))) (aD (bF (gH rfl) rfl B.max boot_max (aD (aU hr (aC 0) aG) (aD (aU hr (aC 1) aG) aE))) (aD (aC 3) (aD (aC 4) aE)))))))))))) (λas R q=>?_)
 obtain⟨V,hv,ks,js,rfl,hD,hk,hj,ok,q⟩:=q
 have l1:=Ax ks
 have l2:=Ax js
 refine⟨rfl,D,V,ks,rfl,hk,D,V,js,rfl,hj,by omega,?_⟩
 show bc.nx _ _
 refine g7 (ρ':=[.va (aW (di D ks)),.va (aW (di D js)),.va (.seq false (g8 ks++g8 js)),.no,.no]) rfl ?_
 dsimp only
 refine MJ (J:=λρ'=>ρ'=[.va (aW (di D ks)),.va (aW (di D js)),.va (.seq false (g8 ks++g8 js)),.va (bV (bP (aQ ks++aQ js))),.no]) ?rest (λrest=>?main)
 case main=>
  by_cases n1:aQ ks=[]
  ·have e1:g8 ks=[]:=by unfold g8;rw[if_pos n1]
   have n2:aQ js≠[]:=λz=>ok.ne (by rw[n1,z];rfl)
   have e2:g8 js=[bV (bP (aQ js))]:=by unfold g8;rw[if_neg n2]
   rw[e1,e2,n1,fe,fe]at rest
   rw[e1,e2,fe]
   exact⟨_,rfl,eP (λ_=>⟨_,bz,rest _ rfl⟩) (λz=>absurd rfl z)⟩
  ·have e1:g8 ks=[bV (bP (aQ ks))]:=by unfold g8;rw[if_neg n1]
   by_cases n2:aQ js=[]
   ·have e2:g8 js=[]:=by unfold g8;rw[if_pos n2]
    rw[e1,e2,n2,jb,jb]at rest
    rw[e1,e2,jb]
    exact⟨_,rfl,eP (λ_=>⟨_,bz,rest _ rfl⟩) (λz=>absurd rfl z)⟩
   ·have e2:g8 js=[bV (bP (aQ js))]:=by unfold g8;rw[if_neg n2]
    rw[e1,e2,j6,fe]at rest
    rw[e1,e2,j6,fe]
    exact⟨_,rfl,eP (λz=>absurd z (show ¬ ((2:Nat):Int)=1 by decide)) (λ_=>⟨_,bz,_,bH (j:=1) rfl,aQ ks,aQ js,rfl,n1,n2,ok,rest _ rfl⟩)⟩
 case rest=>
  rintro _ rfl
  have f1:=Ab ks
  have f2:=Ab js
  refine⟨D,ks,rfl,D,js,rfl,by rw[ao,ao];omega,V,hv,ny ks++ny js,by rw[ij],hD,λA hA v hv=>?_,?_⟩
  ·rcases qp_.mp hA with z|z
   ·exact hk.vls_v v ((rM hk.nd v).mp (qs1_.mpr ⟨A,z,hv⟩))
   ·exact hj.vls_v v ((rM hj.nd v).mp (qs1_.mpr ⟨A,z,hv⟩))
  have eD:D (ny ks++ny js).flatten=D (dM ks++dM js):=hD.same _ _ λv=>by
   rw[om,qp_,qp_,rM hk.nd,rM hj.nd]
  rw[eD]
  obtain⟨w1,r1,E1⟩:=zu (D:=D) ks
  obtain⟨w2,r2,E2⟩:=zu (D:=D) js
  show bc.nx _ _
  refine g7 (ρ':=[.va (.seq true (sT w1::iT (bM (bJ ks))::iT (bR (bJ ks))::r1)),.va (.seq true (sT w2::iT (bM (bJ js))::iT (bR (bJ js))::r2)),.va (.seq false (g8 ks++g8 js)),.va (bV (bP (aQ ks++aQ js))),.va (bX (D (dM ks++dM js)))]) (by rw[E1,E2];rfl) ?_
  rw[fN]at q
  exact⟨_,bH (j:=1) rfl,_,bH (j:=1) rfl,.inl ⟨_,_,rfl,_,bH (j:=2) rfl,_,bH (j:=2) rfl,.inl ⟨_,_,rfl,by simp,q⟩⟩⟩
end
section
variable{P:Program}{w:World}{K:W.Frag}{mg:Str->Option Value}{base:Heap}
variable{D:List Tv->List Pt}{V:Tv->Prop}{W W':(Tv->Prop)->Prop}{lv:Nat}
def yL(D:List Tv->List Pt)(W:(Tv->Prop)->Prop):bu:=λas R=>∃V:Tv->Prop,W V/\∃ks js:List (List (Str×Tv)),as=[.va (aW (di D ks)),.va (aW (di D js))]/\n_ D/\fj V ks/\fj V js/\(aH (aQ (ks++js))).length<=20/\R (aW (di D (ks++js)))
def vg:bB ["one","other","names"] ["one","other"] (aN pF):=b8 (by decide +kernel)
def DO(h:ak K mg "dicts_joined" pF)(B:Own mg)(G22_:ae P w K mg base 1 "fields_by_name" ["record"] mY)(G24_:ae P w K mg base (lv+2) "records_joined" ["one","other","names"] (ya D W))(G26_:ae P w K mg base (lv+6) "tables_joined" ["one","other"] (yK D W))(GMOST_FIELDS:eI K mg "MOST_FIELDS" (iT 8))  : ae P w K mg base (lv+7) "dicts_joined" ["one","other"] (yL D W):=by
 have nd:=vg.nd
 refine h.pgood vg (fun|_,_,_,_,_,_,[_,_],_=>rfl) (λf cdv A outer s H E F hr=>
   (aI (bD (eO (mB (cF hr (aU hr (aC 0) aG) aY) (nQ (cF hr (aU hr (aC 1) aG) aY))))
    (aI (aZ 2 nd (bE (B5 rfl rfl B.sorted rfl B.set_ (aL G22_ hr (aD (aC 0) aE)) (aL G22_ hr (aD (aC 1) aE)))))
    (aJ (bD (dF xJ (bF cE rfl B.len de (aD (aC 2) aE)) (oR GMOST_FIELDS rfl))
     (aJ (aO (aL G24_ hr (aD (aC 0) (aD (aC 1) (aD (aC 2) aE))))))
     bC)))
    bC)
   (aJ (aO (aL G26_ hr (aD (aC 0) (aD (aC 1) aE))))))) (λas R q=>?_)
 obtain⟨V,hv,ks,js,rfl,hD,hk,hj,le,q⟩:=q
 have oT:∀t∈aQ (ks++js),fM t:=λt ht=>by
  rw[gX]at ht
  rcases qp_.mp ht with z|z
  ·exact hk.nms z
  ·exact hj.nms z
 have la:=Ks hk.ne hj.ne
 have tab:¬ (aH (aQ (ks++js))).length<=8->∀T1 T2:Tv,T1=aW (di D ks)->T2=aW (di D js)->∀s2:Sl,sS (kS (yK D W) (iD (fX 0) (iD (fX 1) gQ))) {nx:=λx=>R nT,rt:=R} [.va T1,.va T2,s2]:=by
  rintro h T1 T2 rfl rfl s2
  rw[gJ h,la.1,la.2,gX,show dM (ks++js)=dM ks++dM js from oo ..]at q
  refine⟨V,hv,ks,js,rfl,hD,hk,hj,⟨λe=>h ?_,by rw[<-gX];exact le,by rw[<-gX];exact oT⟩,q⟩
  rw[gX,e]
  exact d6 _
 have nd:∀ks:List (List (Str×Tv)),((bQ D ks).map (·.1)).Nodup:=λks=>by rw[mD];exact lH (gB _)
 have sl:∀l:List Str,(aX (aH l)).length=(aH l).length:=λl=>(eR _).length_eq
 by_cases h1:(aH (aQ ks)).length<=8
 ·have e1:=gK (D:=D) h1
  have E1:=eQ (bM (bJ ks)) (bR (bJ ks)) (bQ D ks)
  by_cases h2:(aH (aQ js)).length<=8
  ·have e2:=gK (D:=D) h2
   have E2:=eQ (bM (bJ js)) (bR (bJ js)) (bQ D js)
   have tab:=λh=>tab h _ _ (by rw[e1,E1]) (by rw[e2,E2])
   have sN8:∀ks:List (List (Str×Tv)),aX (aH (aQ ks))=((bQ D ks).map λx:l_=>(x.1,cG x)).map (·.1):=λks=>by
    rw[f7]
    exact(mD (D:=D) ks).symm
   have eN:aX (aH (aX (aH (aQ ks))++aX (aH (aQ js))))=aX (aH (aQ (ks++js))):=(lO λx=>by rw[gX,qp_,qp_,sort_set_mem,sort_set_mem]).2
   have l1:=sl (aQ ks)
   have l2:=sl (aQ js)
   have l3:=sl (aQ (ks++js))
   rw[e1,e2,E1,E2]
   refine⟨rfl,_,bz,_,rfl,sY ⟨_,bz,_,rfl,sY ⟨_,_,bQ D ks,by rw[E1],by rw[kN];exact hk.le,nd ks,aX (aH (aQ ks)),.inr ⟨_,rfl,sN8 ks⟩,by omega,_,_,bQ D js,by rw[E2],by rw[kN];exact hj.le,nd js,aX (aH (aQ js)),.inr ⟨_,rfl,sN8 js⟩,by omega,?_⟩⟩⟩
   rw[eN]
   show bc.nx _ _
   refine g7 (ρ':=[.va (.seq true [sT "record",iT (bM (bJ ks)),iT (bR (bJ ks)),.seq true ((bQ D ks).map cG)]),.va (.seq true [sT "record",iT (bM (bJ js)),iT (bR (bJ js)),.seq true ((bQ D js).map cG)]),.va (.seq false ((aX (aH (aQ (ks++js)))).map sT))]) rfl ?_
   refine⟨_,rfl,jZ (λz=>?_) (λz=>?_)⟩
   ·have z:(((aX (aH (aQ (ks++js)))).map sT).length:Int)<=8:=z
    rw[ao]at z
    rw[gK (by omega),la.1,la.2]at q
    exact⟨V,hv,_,_,_,_,ks,js,aX (aH (aQ (ks++js))),by rw[E1,E2],hD,hk,hj,by omega,q⟩
   ·have z:¬ (((aX (aH (aQ (ks++js)))).map sT).length:Int)<=8:=z
    rw[ao]at z
    exact tab (by omega) (.va (.seq false ((aX (aH (aQ (ks++js)))).map sT)))
  ·have e2:=gJ (D:=D) h2
   have E2:=fN (bM (bJ js)) (bR (bJ js)) (bP (aQ js)) (D (dM js))
   have big:¬ (aH (aQ (ks++js))).length<=8:=λz=>h2 (bx (fG (A:=aQ js) λx hx=>by rw[gX];exact d8 _ hx) z)
   have tab:=tab big _ _ (by rw[e1,E1]) (by rw[e2,E2])
   rw[e1,e2,E1,E2]
   exact⟨rfl,_,bz,_,rfl,sY ⟨_,bz,_,rfl,sN (by decide +kernel) (tab .no)⟩⟩
 ·have e1:=gJ (D:=D) h1
  have E1:=fN (bM (bJ ks)) (bR (bJ ks)) (bP (aQ ks)) (D (dM ks))
  have big:¬ (aH (aQ (ks++js))).length<=8:=λz=>h1 (bx (fG (A:=aQ ks) λx hx=>by rw[gX];exact g6 _ hx) z)
  have tab:=λT2 e=>tab big _ T2 (by rw[e1,E1]) e
  rw[e1,E1]
  exact⟨rfl,_,bz,_,rfl,sN (by decide +kernel) (aR (tab _ rfl .no))⟩
def x9(D:List Tv->List Pt)(W:(Tv->Prop)->Prop):bu:=λas R=>∃V:Tv->Prop,W V/\∃(a b a' b':Int) (A B:List Tv),as=[.va (aW (.lists a b (D A))),.va (aW (.lists a' b' (D B)))]/\(∀v∈A,V v)/\(∀v∈B,V v)/\R (aW (.lists (min a a') (max b b') (D (A++B))))
def vf:bB ["one","other"] ["one","other"] (aN pE):=b8 (by decide +kernel)
def EH(h:ak K mg "lists_joined" pE)(B:Own mg)(G30_:ae P w K mg base lv "joined" ["one","other"] (ph D W))   : ae P w K mg base (lv+7) "lists_joined" ["one","other"] (x9 D W):=by
 have nd:=vf.nd
 refine h.pgood vf (fun|_,_,_,_,_,_,[_,_],_=>rfl) (λf cdv A outer s H E F hr=>
   (aJ (aO (cA (aD aY (aD (bF (hZ rfl) rfl B.min boot_min (aD (aU hr (aC 0) aG) (aD (aU hr (aC 1) aG) aE))) (aD (bF (gH rfl) rfl B.max boot_max (aD (aU hr (aC 0) aG) (aD (aU hr (aC 1) aG) aE))) (aD (aL G30_ hr (aD (aU hr (aC 0) aG) (aD (aU hr (aC 1) aG) aE))) aE)))))))) (λas R q=>?_)
 obtain⟨V,hv,a,b,a',b',A,B,rfl,hA,hB,q⟩:=q
 rw[iJ]at q ⊢
 rw[iJ]
 exact⟨rfl,_,bH (j:=1) rfl,_,bH (j:=1) rfl,.inl ⟨_,_,rfl,_,bH (j:=2) rfl,_,bH (j:=2) rfl,.inl ⟨_,_,rfl,_,bH (j:=3) rfl,_,bH (j:=3) rfl,V,hv,A,B,rfl,hA,hB,by simp,q⟩⟩⟩
structure gn (V:Tv->Prop) (vs:List Tv):Prop where
 tx:∀t∈vs.filterMap gm,fM t
 tl:(aH (vs.filterMap gm)).length<=20
 ls:∀l∈vs.filterMap cz,∀v∈l,V v
 nd:∀k∈vs.filterMap e7,(k.map (·.1)).Nodup
 ok:∀k∈vs.filterMap e7,∀kt∈k,fM kt.1/\V kt.2
 le:(aH (aQ (vs.filterMap e7))).length<=20
def gn.left{A B:List Tv}(h:gn V (A++B)):gn V A where
 tx:=λt ht=>h.tx t (by rw[iu];exact g6 _ ht)
 tl:=bx (fG λx hx=>by rw[iu];exact g6 _ hx) h.tl
 ls:=λt ht=>h.ls t (by rw[iu];exact g6 _ ht)
 nd:=λt ht=>h.nd t (by rw[iu];exact g6 _ ht)
 ok:=λt ht=>h.ok t (by rw[iu];exact g6 _ ht)
 le:=bx (fG λx hx=>by rw[iu,gX];exact g6 _ hx) h.le
def gn.right{A B:List Tv}(h:gn V (A++B)):gn V B where
 tx:=λt ht=>h.tx t (by rw[iu];exact d8 _ ht)
 tl:=bx (fG λx hx=>by rw[iu];exact d8 _ hx) h.tl
 ls:=λt ht=>h.ls t (by rw[iu];exact d8 _ ht)
 nd:=λt ht=>h.nd t (by rw[iu];exact d8 _ ht)
 ok:=λt ht=>h.ok t (by rw[iu];exact d8 _ ht)
 le:=bx (fG λx hx=>by rw[iu,gX];exact d8 _ hx) h.le
def tL(D:List Tv->List Pt)(W W':(Tv->Prop)->Prop):bu:=λas R=>∃V:Tv->Prop,W V/\∃V':Tv->Prop,W' V'/\∃(A B:List Tv) (k:Nat) (p q r:Pt),as=[.va (aW p),.va (aW q)]/\n_ D/\gn V (A++B)/\(∀v∈A++B,V' v)/\bI D A k=some p/\bI D B k=some q/\bI D (A++B) k=some r/\R (aW r)
def eE{c:Prop}[Decidable c]{x p:Pt}(h:(if c then none else some x)=some p):¬ c/\x=p:=by
 by_cases z:c
 ·rw[if_pos z]at h;cases h
 ·rw[if_neg z]at h;exact⟨z,by injection h⟩
def Hf(bs cs:List Bool):bw (cm (bs++cs)) (ck (bs++cs))=bw (cm (bw (cm bs) (ck bs)) || cm (bw (cm cs) (ck cs))) (ck (bw (cm bs) (ck bs)) || ck (bw (cm cs) (ck cs))):=by
 have e:∀f t:Bool,cm (bw f t)=f/\ck (bw f t)=t:=λf t=>by cases f<;>cases t<;>exact⟨rfl,rfl⟩
 rw[(e _ _).1,(e _ _).2,(e _ _).1,(e _ _).2]
 unfold cm ck
 rw[kn,kn]
def r8:bB ["one","other"] ["one","other"] (aN pD):=b8 (by decide +kernel)
def EI(h:ak K mg "parts_joined" pD)(B:Own mg)(G4_:ae P w K mg base 3 "run_joined" ["one","other"] oK)(G14_:ae P w K mg base 5 "words_joined" ["one","other"] lR)(G28_:ae P w K mg base (lv+7) "lists_joined" ["one","other"] (x9 D W))(G27_:ae P w K mg base (lv+7) "dicts_joined" ["one","other"] (yL D W))   : ae P w K mg base (lv+8) "parts_joined" ["one","other"] (tL D W W'):=by
 have nd:=r8.nd
 refine h.pgood r8 (fun|_,_,_,_,_,_,[_,_],_=>rfl) (λf cdv A outer s H E F hr=>
   (aI (bD (cF hr (aU hr (aC 0) aG) aY)
    (aJ (aO (aC 0)))
    bC)
   (aI (bD (cF hr (aU hr (aC 0) aG) aY)
    (aJ (aO (cA (aD aY (aD (fO fQ rfl B.tuple_ boot_tuple (aD (bE (L1 rfl rfl B.sorted rfl B.set_ (aU hr (aC 0) aG) (aU hr (aC 1) aG))) aE)) aE)))))
    bC)
   (aI (bD (cF hr (aU hr (aC 0) aG) aY)
    (aJ (aO (bN cZ (cA (aD aY aE)) (aL G4_ hr (aD (iL jD (aC 0) (iQ aG) iR) (aD (iL jD (aC 1) (iQ aG) iR) aE))))))
    bC)
   (aI (bD (cF hr (aU hr (aC 0) aG) aY)
    (aJ (aO (cA (aD aY (aD (aL G14_ hr (aD (aU hr (aC 0) aG) (aD (aU hr (aC 1) aG) aE))) aE)))))
    bC)
   (aI (bD (cF hr (aU hr (aC 0) aG) aY)
    (aJ (aO (aL G28_ hr (aD (aC 0) (aD (aC 1) aE)))))
    bC)
   (aJ (aO (aL G27_ hr (aD (aC 0) (aD (aC 1) aE))))))))))) (λas R q=>?_)
 obtain⟨V,hv,V',hv',A,B,k,p,p',r,rfl,hD,hV,hV',h1,h2,h3,q⟩:=q
 have fa:∀{α:Type} (f:Tv->Option α),(A++B).filterMap f=A.filterMap f++B.filterMap f:=λf=>iu ..
 unfold bI at h1
 split at h1
 ·have hA:dC A=true:=by
   apply Classical.byContradiction
   intro z
   rw[if_neg z]at h1
   cases h1
  rw[if_pos hA]at h1
  cases h1
  have h3:(if dC (A++B)=true then some Pt.nothing else none)=some r:=h3
  rw[if_pos (by unfold dC at hA ⊢;rw[kn,hA];rfl)]at h3
  cases h3
  rw[tX]at q ⊢
  exact⟨rfl,_,bz,_,rfl,sY q⟩
 ·have h3:(if (A++B).filterMap i8=[] then none else some (Pt.truths (bw (cm ((A++B).filterMap i8)) (ck ((A++B).filterMap i8)))))=some r:=h3
  obtain⟨nA,rfl⟩:=eE h1
  obtain⟨nB,rfl⟩:=eE (c:=B.filterMap i8=[]) h2
  rw[fa i8,if_neg (λe=>nA (qd2_.mp e).1),Hf]at h3
  cases h3
  rw[pY]at q ⊢
  rw[pY]
  exact⟨rfl,_,bz,_,rfl,sN (by decide +kernel) ⟨_,bz,_,rfl,sY ⟨_,bH (j:=1) rfl,_,rfl,_,bH (j:=1) rfl,_,rfl,_,_,rfl,by simp,q⟩⟩⟩
 ·have h3:(if (A++B).filterMap je=[] then none else some (Pt.numbers (dA ((A++B).filterMap je)).1 (dA ((A++B).filterMap je)).2.1 (dA ((A++B).filterMap je)).2.2))=some r:=h3
  obtain⟨nA,rfl⟩:=eE h1
  obtain⟨nB,rfl⟩:=eE (c:=B.filterMap je=[]) h2
  rw[fa je,if_neg (λe=>nA (qd2_.mp e).1),<-MH nA nB]at h3
  cases h3
  rw[qL]at q ⊢
  rw[qL]
  exact⟨rfl,_,bz,_,rfl,sN (by decide +kernel) ⟨_,bz,_,rfl,sN (by decide +kernel) ⟨_,bz,_,rfl,sY ⟨by simp,_,rfl,_,rfl,_,_,rfl,(lQ nA).ok,(lQ nB).ok,by simp,q⟩⟩⟩⟩
 ·have h3:(if (A++B).filterMap gm=[] then none else some (Pt.texts (bP ((A++B).filterMap gm))))=some r:=h3
  obtain⟨nA,rfl⟩:=eE h1
  obtain⟨nB,rfl⟩:=eE (c:=B.filterMap gm=[]) h2
  have ne:A.filterMap gm++B.filterMap gm≠[]:=λe=>nA (qd2_.mp e).1
  rw[fa gm,if_neg ne]at h3
  cases h3
  have tx:=hV.tx
  have tl:=hV.tl
  rw[fa gm]at tx tl
  rw[qE]at q ⊢
  rw[qE]
  exact⟨rfl,_,bz,_,rfl,sN (by decide +kernel) ⟨_,bz,_,rfl,sN (by decide +kernel) ⟨_,bz,_,rfl,sN (by decide +kernel) ⟨_,bz,_,rfl,sY ⟨_,bH (j:=1) rfl,_,bH (j:=1) rfl,_,_,rfl,nA,nB,⟨ne,tl,tx⟩,by simp,q⟩⟩⟩⟩⟩
 ·have h3:(if (A++B).filterMap cz=[] then none else some (Pt.lists (bM (dJ ((A++B).filterMap cz))) (bR (dJ ((A++B).filterMap cz))) (D ((A++B).filterMap cz).flatten)))=some r:=h3
  obtain⟨nA,rfl⟩:=eE h1
  obtain⟨nB,rfl⟩:=eE (c:=B.filterMap cz=[]) h2
  have hl:=hV.ls
  rw[fa cz]at hl
  have l1:dJ (A.filterMap cz)≠[]:=by unfold dJ;simpa using nA
  have l2:dJ (B.filterMap cz)≠[]:=by unfold dJ;simpa using nB
  rw[fa cz,if_neg (λe=>nA (qd2_.mp e).1),show dJ (A.filterMap cz++B.filterMap cz)=dJ (A.filterMap cz)++dJ (B.filterMap cz) from ij ..,Bf l1 l2,Be l1 l2,om]at h3
  cases h3
  have ea:∀(a b a' b':Int) (f g:List Pt),[Ar.va (.seq true [sT "lists",iT a,iT b,bX f]),.va (.seq true [sT "lists",iT a',iT b',bX g])]=[.va (aW (.lists a b f)),.va (aW (.lists a' b' g))]:=λa b a' b' f g=>by rw[iJ,iJ]
  rw[iJ (bM (dJ (A.filterMap cz))),iJ (bM (dJ (B.filterMap cz)))]
  refine⟨rfl,_,bz,_,rfl,sN (by decide +kernel) ⟨_,bz,_,rfl,sN (by decide +kernel) ⟨_,bz,_,rfl,sN (by decide +kernel) ⟨_,bz,_,rfl,sN (by decide +kernel) ⟨_,bz,_,rfl,sY ⟨V,hv,_,_,_,_,_,_,ea _ _ _ _ _ _,λv hv=>?_,λv hv=>?_,q⟩⟩⟩⟩⟩⟩
  ·obtain⟨l,hl',hv⟩:=qs1_.mp hv
   exact hl l (g6 _ hl') v hv
  ·obtain⟨l,hl',hv⟩:=qs1_.mp hv
   exact hl l (d8 _ hl') v hv
 ·have h3:(if (A++B).filterMap e7=[] then none else some (di D ((A++B).filterMap e7)))=some r:=h3
  obtain⟨nA,rfl⟩:=eE h1
  obtain⟨nB,rfl⟩:=eE (c:=B.filterMap e7=[]) h2
  rw[fa e7,if_neg (λe=>nA (qd2_.mp e).1)]at h3
  cases h3
  have vl:=hV.left
  have vr:=hV.right
  have le:=hV.le
  rw[fa e7]at le
  have fin:∀T1:Tv,T1=aW (di D (A.filterMap e7))->sS (kS (yL D W) (iD (fX 0) (iD (fX 1) gQ))) {nx:=λx=>R nT,rt:=R} [.va T1,.va (aW (di D (B.filterMap e7)))]:=by
   rintro T1 rfl
   exact⟨V,hv,_,_,rfl,hD,⟨nA,vl.nd,vl.ok,vl.le⟩,⟨nB,vr.nd,vr.ok,vr.le⟩,le,q⟩
  by_cases h:(aH (aQ (A.filterMap e7))).length<=8
  ·have fin:=fin _ (by rw[gK h,eQ])
   rw[gK h,eQ (bM (bJ (A.filterMap e7)))]
   exact⟨rfl,_,bz,_,rfl,sN (by decide +kernel) ⟨_,bz,_,rfl,sN (by decide +kernel) ⟨_,bz,_,rfl,sN (by decide +kernel) ⟨_,bz,_,rfl,sN (by decide +kernel) ⟨_,bz,_,rfl,sN (by decide +kernel) fin⟩⟩⟩⟩⟩
  ·have fin:=fin _ (by rw[gJ h,fN])
   rw[gJ h,fN (bM (bJ (A.filterMap e7)))]
   exact⟨rfl,_,bz,_,rfl,sN (by decide +kernel) ⟨_,bz,_,rfl,sN (by decide +kernel) ⟨_,bz,_,rfl,sN (by decide +kernel) ⟨_,bz,_,rfl,sN (by decide +kernel) ⟨_,bz,_,rfl,sN (by decide +kernel) fin⟩⟩⟩⟩⟩
 ·cases h1
end
section
variable{P:Program}{w:World}{K:W.Frag}{mg:Str->Option Value}{base:Heap}
variable{D:List Tv->List Pt}{W W':(Tv->Prop)->Prop}{lv:Nat}
def A1{A B:List Tv}{k:Nat}(h:bI D B k=none):bI D (A++B) k=bI D A k:=by
 have no:∀{c:Prop} [Decidable c] {x:Pt},(if c then none else some x)=none->c:=λ{c} _ {x} h=>by
  by_cases z:c
  ·exact z
  ·rw[if_neg z]at h;cases h
 unfold bI at h ⊢
 split at h
 ·have hB:dC B=false:=by
   cases e:dC B with
   |false=>rfl
   |true=>rw[e,if_pos rfl]at h;cases h
  have:dC (A++B)=dC A:=by
   show(A++B).any _=A.any _
   rw[kn,show(B.any λv=>dG v==0)=false from hB,mx]
  rw[this]
 all_goals first|(have z:=no h;rw[iu,z,jb])|rfl
def LB{A B:List Tv}{k:Nat}(h:bI D A k=none):bI D (A++B) k=bI D B k:=by
 have no:∀{c:Prop} [Decidable c] {x:Pt},(if c then none else some x)=none->c:=λ{c} _ {x} h=>by
  by_cases z:c
  ·exact z
  ·rw[if_neg z]at h;cases h
 unfold bI at h ⊢
 split at h
 ·have hB:dC A=false:=by
   cases e:dC A with
   |false=>rfl
   |true=>rw[e,if_pos rfl]at h;cases h
  have:dC (A++B)=dC B:=by
   show(A++B).any _=B.any _
   rw[kn,show(A.any λv=>dG v==0)=false from hB,o6]
  rw[this]
 all_goals first|(have z:=no h;rw[iu,z,fe])|rfl
def Kd{A B:List Tv}{k:Nat}{p:Pt}(h:bI D A k=some p):∃r,bI D (A++B) k=some r:=by
 have no:∀{c:Prop} [Decidable c] {x:Pt},(if c then none else some x)=none->c:=λ{c} _ {x} h=>by
  by_cases z:c
  ·exact z
  ·rw[if_neg z]at h;cases h
 cases e:bI D (A++B) k with
 |some r=>exact⟨r,rfl⟩
 |none=>
  unfold bI at h e
  split at h
  ·have hA:dC A=true:=by
    cases z:dC A with
    |true=>rfl
    |false=>rw[z,if_neg cb]at h;cases h
   have:dC (A++B)=true:=by
    show(A++B).any _=true
    rw[kn,show(A.any λv=>dG v==0)=true from hA];rfl
   rw[this,if_pos rfl]at e
   cases e
  all_goals first|(have z:=no e;rw[iu]at z;exact absurd (qd2_.mp z).1 (eE h).1)|cases h
noncomputable def i6(D:List Tv->List Pt)(vs:List Tv):List Pt:=kN6.filterMap (bI D vs)
def z_{vs:List Tv}{k:Nat}(h:k∈kN6):mP (i6 D vs) k=bI D vs k:=zy (λ_ _=>Lz) kN6 k h (by decide)
def ve:bB ["one","other","parts","kind","both"] ["one","other"] (aN mV):=b8 (by decide +kernel)
def zf(h:ak K mg "joined" mV)(B:Own mg)(G16_:ae P w K mg base 2 "part_for" ["form","kind"] nG)(G29_:ae P w K mg base (lv+8) "parts_joined" ["one","other"] (tL D W W'))(GKINDS:eI K mg "KINDS" (.seq true (kN6.map λk=>sT (cS k))))(hD:n_ D)(hW:∀V':Tv->Prop,W' V'->∃V:Tv->Prop,W V/\∀vs:List Tv,(∀v∈vs,V' v)->gn V vs):ae P w K mg base (lv+9) "joined" ["one","other"] (ph (i6 D) W'):=by
 have nd:=ve.nd
 refine h.pgood ve (fun|_,_,_,_,_,_,[_,_],_=>rfl) (λf cdv A outer s H E F hr=>
   (aI (gP 2 nd (cD aE))
   (aI (eF (m:=5) ic rfl (bY (oR GKINDS rfl)) (dI 3 (by decide) nd rfl (.inl rfl))
    (aI (fH (sc:=aN mV) (XN:=["one","other","parts","kind","both"]) (N:=["part"]) (fr:=[]) 4 nd (bY (bE (cD (aD (aL G16_ hr (aD (aC 0) (aD (aC 3) aE))) (aD (aL G16_ hr (aD (aC 1) (aD (aC 3) aE))) aE))))) (λ_ _ _ _ _=>(hE (dF JU (aC 0) hJ))) (λ_ _ _ _ _=>(aC 0)))
    (aI (bD (cF hr (bF cE rfl B.len de (aD (aC 4) aE)) aG)
     (aJ (eC (fP 2 (aU hr (aC 4) aG))))
     bC)
    (aJ (bD (cF hr (bF cE rfl B.len de (aD (aC 4) aE)) aG)
     (aJ (eC (fP 2 (aL G29_ hr (aD (aU hr (aC 4) aG) (aD (aU hr (aC 4) aG) aE))))))
     bC)))))
   (aJ (aO (fO fQ rfl B.tuple_ boot_tuple (aD (aC 2) aE))))))) (λas R q=>?_)
 obtain⟨V',hv',A,B,rfl,hA,hB,q⟩:=q
 obtain⟨V,hv,hV⟩:=hW V' hv'
 refine⟨rfl,by simp,?_⟩
 show bc.nx _ _
 refine g7 (ρ':=[.va (bX (i6 D A)),.va (bX (i6 D B)),.own [],.no,.no]) rfl ?_
 have hall:∀v∈A++B,V' v:=λv hv=>(qp_.mp hv).elim (hA v) (hB v)
 have hAB:gn V (A++B):=hV _ hall
 refine kJ (λi ρ=>∃(L:List Pt) (s1 s2:Sl),L=((kN6.take i).filterMap (bI D (A++B)))/\ρ=[.va (bX (i6 D A)),.va (bX (i6 D B)),.own (L.map aW),s1,s2]) ⟨[],.no,.no,rfl,rfl⟩ ?_ ?_
 ·rintro i T _ N hT ⟨L,s1,s2,eL,rfl⟩ hN
  have hT:(kN6.map λk=>sT (cS k))[i]?=some T:=hT
  rw[e_,qg1_]at hT
  obtain⟨k,hk,rfl⟩:=hT
  have hkm:k∈kN6:=g5 hk
  have hk6:k<=5:=by
   simp only[kN6,List.mem_cons,List.not_mem_nil,or_false]at hkm
   omega
  have hi:i<6:=(qy_.mp hk).1
  have et:(kN6.take (i+1)).filterMap (bI D (A++B))=(kN6.take i).filterMap (bI D (A++B))++(bI D (A++B) k).toList:=by
   rw[g_,iu,hk]
   cases e:bI D (A++B) k<;>simp[e]
  have ll:((kN6.take i).filterMap (bI D (A++B))).length<=6:=by
   refine bx (kl _ _) ?_
   rw[jh];omega
  rw[<-eL]at et ll
  refine⟨i6 D A,k,rfl,hk6,i6 D B,k,rfl,hk6,by simp,by simp,?_⟩
  have fA:((i6 D A).find? λp=>decide (fK p=k))=bI D A k:=z_ hkm
  have fB:((i6 D B).find? λp=>decide (fK p=k))=bI D B k:=z_ hkm
  rw[fA,fB]
  refine kG yQ (λo=>o.map aW) (l:=[bI D A k,bI D B k]) (λo ho R q=>?_) ?_
  ·cases o with
   |none=>exact⟨_,rfl,aR q⟩
   |some p=>
    obtain⟨r,e,_⟩:=A2 p
    have q:R (some (aW p)) _:=q
    rw[e]at q
    rw[show yQ (some p)=.seq true (sT (xE p)::r) from e]
    exact⟨_,rfl,bW q⟩
  have put:∀(r:Pt) (s4:Sl),bI D (A++B) k=some r->N [.va (bX (i6 D A)),.va (bX (i6 D B)),.own (L.map aW++[aW r]),.va (sT (cS k)),s4]:=λr s4 e=>hN _ ⟨L++[r],.va (sT (cS k)),s4,by rw[et,e];rfl,by rw[ij];rfl⟩
  have one:∀(p:Pt),bI D (A++B) k=some p->(sR (xi (uB (jx wz (r_ tN (iD (fX 4) gQ)) (uC (iT 1)))) (xI (vX 2 (jx sd (fX 4) (uC (iT 0))))) sW) (xi (uB (jx wz (r_ tN (iD (fX 4) gQ)) (uC (iT 2)))) (xI (vX 2 (kS (tL D W W') (iD (jx sd (fX 4) (uC (iT 0))) (iD (jx sd (fX 4) (uC (iT 1))) gQ))))) sW)) {nx:=N,rt:=R,bk:=λρ'=>sS (r_ AB (iD (fX 2) gQ)) {nx:=λx=>R nT,rt:=R} ρ',ct:=N} [.va (bX (i6 D A)),.va (bX (i6 D B)),.own (L.map aW),.va (sT (cS k)),.va (.seq false [aW p])]:=λp e=>
   ⟨_,rfl,eP (λ_=>⟨⟨_,rfl⟩,_,bz,_,rfl,by rw[ao];omega,_,rfl,eP (λz=>absurd z (show ¬ ((1:Nat):Int)=2 by decide)) (λ_=>put p _ e)⟩) (λz=>absurd rfl z)⟩
  cases ea:bI D A k with
  |none=>
   cases eb:bI D B k with
   |none=>
    have e0:bI D (A++B) k=none:=(A1 eb).trans ea
    exact⟨_,rfl,eP (λz=>absurd z (by decide)) (λ_=>⟨_,rfl,eP (λz=>absurd z (by decide)) (λ_=>hN _ ⟨L,.va (sT (cS k)),_,by rw[et,e0];simp,rfl⟩)⟩)⟩
   |some p=>exact one p ((LB ea).trans eb)
  |some p=>
   cases eb:bI D B k with
   |none=>exact one p ((A1 eb).trans ea)
   |some p'=>
    obtain⟨r,er⟩:=Kd (B:=B) ea
    exact⟨_,rfl,eP (λz=>absurd z (show ¬ ((2:Nat):Int)=1 by decide)) (λ_=>⟨_,rfl,eP (λ_=>⟨⟨_,rfl⟩,_,bz,_,bH (j:=1) rfl,V,hv,V',hv',A,B,k,p,p',r,rfl,hD,hAB,hall,ea,eb,er,_,rfl,by rw[ao];omega,put r _ er⟩) (λz=>absurd rfl z)⟩)⟩
 ·rintro _ ⟨L,s1,s2,eL,rfl⟩
  have eL:L=i6 D (A++B):=eL
  subst eL
  exact⟨false,_,rfl,q⟩
end
section
variable{P:Program}{w:World}{K:W.Frag}{mg:Str->Option Value}{base:Heap}
def Gv{rs:List Str}{r:Int}(h0:0<=r)(h1:r<rs.length):∃x,rs[r.toNat]?=some x:=⟨rs[r.toNat]'(by omega),b_ _⟩
def CN{α β:Type}(f:α->β):∀(l:List α) (i:Nat),(l.map f).eraseIdx i=(l.eraseIdx i).map f
 |[],_=>by simp
 |_::_,0=>by simp
 |a::l,i+1=>by simp[CN f l i]
variable{n:Nat}
def JW{kts:List (Str×Tv)}{s:Str}{T:Tv}{kt:Str×Tv}(h:kt∈eJ kts s T):kt∈kts\/kt=(s,T):=by
 unfold eJ at h
 split at h
 ·obtain⟨x,hx,rfl⟩:=qf_.mp h
  split
  ·rename_i e;rw[e];exact .inr rfl
  ·exact .inl hx
 ·rcases qp_.mp h with h|h
  ·exact .inl h
  ·exact .inr (qd1_.mp h)
def Bn{kts:List (Str×Tv)}{s:Str}{T:Tv}:(eJ kts s T).length<=kts.length+1:=by
 unfold eJ
 split
 ·rw[ao];omega
 ·rw[b9];exact ba _
def VD(nm tx:List Str):Nat->Tv->Prop
 |0,_=>False
 |_+1,.leaf .non=>True
 |_+1,.leaf (.bl _)=>True
 |_+1,.leaf (.int i)=>yX i
 |_+1,.leaf (.str s)=>s∈tx
 |n+1,.seq false xs=>xs.length<=11/\∀x∈xs,VD nm tx n x
 |n+1,.dct kts=>(kts.map (·.1)).Nodup/\kts.length<=11/\∀kt∈kts,kt.1∈nm/\VD nm tx n kt.2
 |_,_=>False
def Ah{nm tx:List Str}{T:Tv}(h:xO tx T):VD nm tx (n+1) T:=by
 cases T with
 |leaf v=>cases v<;>exact h
 |seq t xs=>exact False.elim h
 |dct k=>exact False.elim h
def VD.put{nm tx:List Str}{kts:List (Str×Tv)}{s:Str}{T:Tv}(h:VD nm tx (n+1) (.dct kts))(l:kts.length<11)(hs:s∈nm)(hT:VD nm tx n T):VD nm tx (n+1) (.dct (eJ kts s T)):=by
 refine⟨zZ h.1,by have:=Bn (kts:=kts) (s:=s) (T:=T);omega,λkt hk=>?_⟩
 rcases JW hk with z|rfl
 ·exact h.2.2 kt z
 ·exact⟨hs,hT⟩
def lY(n:Nat):bu:=λas R=>∃nm tx st sp,∃deep way:Int,as=[.dk,.va (eS nm tx st sp),.va (iT deep),.va (iT way)]/\fR nm tx st sp/\0<=deep/\deep<n/\0<=way/\way<=9/\∀T,VD nm tx n T->R T
def AF(n:Nat):bu:=λas R=>∃nm tx st sp,∃deep many:Int,as=[.dk,.va (eS nm tx st sp),.va (iT deep),.va (iT many)]/\fR nm tx st sp/\1<=deep/\deep<=n/\0<=many/\many<=11/\∀T,VD nm tx (n+1) T->R T
def uz:bB ["_law_deck_here","_law_world_here","_law_deep","_law_many","_law_names","_law_found","_law_k","_law_name"] ["_law_deck_here","_law_world_here","_law_deep","_law_many"] (aN sZ):=b8 (by decide +kernel)
def ES(h:ak K mg "_law_dict" sZ)(B:Own mg)(G35_:ae P w K mg base 2 "_law_take" ["_law_deck_here","_law_most"] fT)(G44_:ae P w K mg base (6+2*n) "_law_value" ["_law_deck_here","_law_world_here","_law_deep","_law_way"] (lY n))   : ae P w K mg base (6+2*n+1) "_law_dict" ["_law_deck_here","_law_world_here","_law_deep","_law_many"] (AF n):=by
 have nd:=uz.nd
 refine h.pgood uz (fun|_,_,_,_,_,_,[_,_,_,_],_=>rfl) (λf cdv A outer s H E F hr=>
   (aI (gP 4 nd (qF uN rfl B.list_ boot_list (aD (aU hr (aC 1) aG) aE)))
   (aI (C4 (i:=5) nd rfl (.inl rfl))
   (aI (eF (m:=8) ic rfl (jP rfl B.range (aD (aC 3) aE)) (dI 6 (by decide) nd rfl (.inl rfl))
    (aI (aZ 7 nd (Lc 4 (aL G35_ hr (bZ 0 (aD (vW λF=>(bF cE rfl B.len de (aD (aC 4) aE))) aE)))))
    (aJ (BD (i:=5) (oX hr) rfl (by first|exact Or.inl rfl|exact Or.inr (Or.inl rfl)|exact Or.inr (Or.inr rfl)) (aC 7) (aL G44_ hr (bZ 0 (aD (aC 1) (aD (bF (gH rfl) rfl B.max boot_max (aD aG (aD (bN iZ (bN iZ (aC 2) aG) (bN Bt (aC 3) aG)) aE))) (aD aG aE)))))))))
   (aJ (aO (aC 5))))))) (λas R q=>?_)
 obtain⟨nm,tx,st,sp,deep,many,rfl,hw,d1,dn,m0,m11,q⟩:=q
 refine⟨rfl,_,rfl,false,_,rfl,?_⟩
 refine⟨_,rfl,by omega,by omega,?_⟩
 refine kJ (λi ρ=>∃(rs:List Str) (kts:List (Str×Tv)) (s1 s2:Sl),rs.length+i=11/\(∀s∈rs,s∈nm)/\kts.length<=i/\VD nm tx (n+1) (.dct kts)/\ρ=[.dk,.va (eS nm tx st sp),.va (iT deep),.va (iT many),.own (rs.map sT),.dct kts,s1,s2]) ⟨nm,[],.no,.no,hw.n11,λs h=>h,d6 _,⟨ka,by decide,λkt h=>nomatch h⟩,rfl⟩ ?_ ?_
 ·rintro i T _ N hT ⟨rs,kts,s1,s2,hl,hr,hk,hv,rfl⟩ hN
  have hi:=(qT hT).1
  refine⟨⟨_,rfl⟩,rfl,_,rfl,(rs.map sT).length,rfl,by rw[ao];omega,by rw[ao];exact cM (by omega) (by omega),λr r0 r1=>?_⟩
  rw[ao]at r1
  obtain⟨x,hx⟩:=Gv r0 r1
  refine⟨r,_,sT x,rfl,rfl,r0,by rw[e_,hx];rfl,?_⟩
  rw[CN]
  have hxn:=hr x (g5 hx)
  refine⟨rfl,⟨by decide,cM (by decide) (by decide)⟩,.inl ⟨0,_,rfl,nm,tx,st,sp,_,9,rfl,hw,by omega,by omega,by decide,by decide,λT hT=>?_⟩⟩
  have pl:=Bn (kts:=kts) (s:=x) (T:=T)
  have el:(rs.eraseIdx r.toNat).length=rs.length-1:=by rw[List.length_eraseIdx,if_pos (by omega)]
  exact⟨⟨_,rfl⟩,kts,x,rfl,rfl,by omega,hN _ ⟨rs.eraseIdx r.toNat,eJ kts x T,_,_,by omega,λs hs=>hr s (List.mem_of_mem_eraseIdx hs),by omega,hv.put (by omega) hxn hT,rfl⟩⟩
 ·rintro _ ⟨rs,kts,s1,s2,hl,hr,hk,hv,rfl⟩
  exact q _ hv
def qB{α β:Type}{r:α->β->Prop}{g:β->Prop}(h:∀a b,r a b->g b):∀{l:List α}{m:List β},Paired r l m->∀b∈m,g b
 |_,_,.nil,b,hb=>nomatch hb
 |_,_,.cons r t,b,hb=>by
  rcases qx_.mp hb with rfl|hb
  ·exact h _ _ r
  ·exact qB h t b hb
def rq:bB ["_law_deck_here","_law_world_here","_law_deep","_law_way","_law_many"] ["_law_deck_here","_law_world_here","_law_deep","_law_way"] (aN pB):=b8 (by decide +kernel)
def Ef(h:ak K mg "_law_value" pB)(B:Own mg)(G35_:ae P w K mg base 2 "_law_take" ["_law_deck_here","_law_most"] fT)(G42_:ae P w K mg base 5 "_law_leaf" ["_law_deck_here","_law_world_here"] oM)(G44_:ae P w K mg base (6+2*n) "_law_value" ["_law_deck_here","_law_world_here","_law_deep","_law_way"] (lY n))(G43_:ae P w K mg base (6+2*n+1) "_law_dict" ["_law_deck_here","_law_world_here","_law_deep","_law_many"] (AF n))   : ae P w K mg base (6+2*n+2) "_law_value" ["_law_deck_here","_law_world_here","_law_deep","_law_way"] (lY (n+1)):=by
 have nd:=rq.nd
 refine h.pgood rq (fun|_,_,_,_,_,_,[_,_,_,_],_=>rfl) (λf cdv A outer s H E F hr=>
   (aI (bD (cF hr (aC 3) aG)
    (aJ (aZ 3 nd (aL G35_ hr (bZ 0 (aD aG aE)))))
    bC)
   (aI (bD (eO (gL (cF hr (aC 2) aG) (hC (dF kT (aC 3) aG))))
    (aJ (aO (aL G42_ hr (bZ 0 (aD (aC 1) aE)))))
    bC)
   (aI (aZ 4 nd (aU hr (bE (cD (aD aG (aD aG (aD aG (aD aG (aD aG (aD aG (aD aG (aD aG aE)))))))))) (aL G35_ hr (bZ 0 (aD aG aE)))))
   (aI (bD (dF kT (aC 3) aG)
    (aJ (aO (bE (eW (sc:=aN pB) (XN:=["_law_deck_here","_law_world_here","_law_deep","_law_way","_law_many"]) (N:=["_law_k","_law_deck_here","_law_world_here","_law_deep"]) (fr:=[0,1,2]) (jP rfl B.range (aD (aC 4) aE)) (λ_ _ _ _ _=>(aL G44_ hr (bZ 1 (aD (aC 2) (aD (bN iZ (aC 3) aG) (aD aG aE))))))))))
    bC)
   (aI (bD (cF hr (aL G35_ hr (bZ 0 (aD aG aE))) aG)
    (aJ (aZ 4 nd (bN cZ aG (aL G35_ hr (bZ 0 (aD aG aE))))))
    bC)
   (aJ (aO (aL G43_ hr (bZ 0 (aD (aC 1) (aD (aC 2) (aD (aC 4) aE))))))))))))) (λas R q=>?_)
 obtain⟨nm,tx,st,sp,deep,way,rfl,hw,d0,d1,w0,w9,q⟩:=q
 refine⟨rfl,_,rfl,eP (λ_=>⟨rfl,9,rfl,by decide,cM (by decide) (by decide),λway w0 w9=>?_⟩) (λ_=>?_)⟩
 all_goals
  refine⟨_,rfl,eP (λ_=>bW ⟨rfl,nm,tx,st,sp,rfl,hw,λT hT=>q T (Ah hT)⟩) (λz=>⟨_,rfl,ie (λ_=>⟨rfl,nm,tx,st,sp,rfl,hw,λT hT=>q T (Ah hT)⟩) (λ_=>?_)⟩)⟩
  refine⟨by decide,rfl,8,rfl,by decide,cM (by decide) (by decide),λr r0 r1=>?_⟩
  obtain⟨M,hM,hMm⟩:=kB (l:=[iT 0,iT 1,iT 2,iT 3,iT 2,iT 1,iT 4,iT 6]) r0 r1
  have hm:∃m:Int,M=iT m/\0<=m/\m<=6:=by
   simp only[List.mem_cons,List.not_mem_nil,or_false]at hMm
   rcases hMm with e|e|e|e|e|e|e|e<;>subst e<;>exact⟨_,rfl,by decide,by decide⟩
  obtain⟨m,rfl,m0,m6⟩:=hm
  refine⟨_,hM,?_⟩
  clear hM hMm
  refine⟨_,rfl,ie (λ_=>⟨_,rfl,by omega,by omega,by rw[iM];omega,qM (λT U=>VD nm tx n U) (λT hT R hR=>⟨rfl,nm,tx,st,sp,_,9,rfl,hw,by omega,by omega,by decide,by decide,λU hU=>hR U hU⟩) (λUs hUs=>?_)⟩) (λ_=>?_)⟩
  ·refine q _ ⟨?_,qB (g:=VD nm tx n) (λa b h=>h) hUs⟩
   have:=hUs.length
   rw[iM]at this
   omega
  ·exact⟨rfl,6,rfl,by decide,cM (by decide) (by decide),λr r0 r1=>⟨_,rfl,ie (λ_=>⟨rfl,4,rfl,by decide,cM (by decide) (by decide),λe e0 e1=>⟨rfl,nm,tx,st,sp,deep,_,rfl,hw,by omega,by omega,by omega,by omega,λT hT=>q T hT⟩⟩) (λ_=>⟨rfl,nm,tx,st,sp,deep,_,rfl,hw,by omega,by omega,by omega,by omega,λT hT=>q T hT⟩)⟩⟩
def vP(hv:ak K mg "_law_value" pB)(hd:ak K mg "_law_dict" sZ)(B:Own mg)(G1:ae P w K mg base 2 "_law_take" ["_law_deck_here","_law_most"] fT)(G2:ae P w K mg base 5 "_law_leaf" ["_law_deck_here","_law_world_here"] oM):∀n:Nat,ae P w K mg base (6+2*n) "_law_value" ["_law_deck_here","_law_world_here","_law_deep","_law_way"] (lY n)
 |0=>hv.pfalse rq (fun|_,_,_,_,_,_,[_,_,_,_],_=>rfl) λas R ⟨_,_,_,_,_,_,_,_,h0,h1,_⟩=>by omega
 |n+1=>Ef hv B G1 G2 (vP hv hd B G1 G2 n) (ES hd B G1 (vP hv hd B G1 G2 n))
end
section
variable{P:Program}{w:World}{K:W.Frag}{mg:Str->Option Value}{base:Heap}
def Dt{nm tx:List Str}{st sp:Int}(hw:fR nm tx st sp){n:Nat}{vs:List Tv}(h:∀v∈vs,VD nm tx (n+1) v):gn (VD nm tx n) vs:=by
 have hs:∀t∈vs.filterMap gm,t∈tx:=λt ht=>by
  obtain⟨v,hv,e⟩:=qc1_.mp ht
  rw[Hw]at e
  subst e
  exact h _ hv
 have hd:∀k∈vs.filterMap e7,VD nm tx (n+1) (.dct k):=λk hk=>by
  obtain⟨v,hv,e⟩:=qc1_.mp hk
  rw[Hu]at e
  subst e
  exact h _ hv
 have hn:∀x∈aQ (vs.filterMap e7),x∈nm:=λx hx=>by
  obtain⟨k,hk,hx⟩:=qr1_.mp hx
  obtain⟨kt,hkt,rfl⟩:=qf_.mp hx
  exact((hd k hk).2.2 kt hkt).1
 refine⟨λt ht=>?_,?_,λl hl=>?_,λk hk=>(hd k hk).1,λk hk kt hkt=>?_,?_⟩
 ·have:=hw.ts t (hs t ht)
  exact⟨this.1,by have:=this.2;omega⟩
 ·have:=WordM.nodup_len (cY (vs.filterMap gm)) (m:=tx) λx hx=>hs x ((cP _ x).mp hx)
  have:=hw.t9
  omega
 ·obtain⟨v,hv,e⟩:=qc1_.mp hl
  rw[Hv]at e
  subst e
  exact(h _ hv).2
 ·have a:=(hd k hk).2.2 kt hkt
  have:=hw.ns kt.1 a.1
  exact⟨⟨this.1,by have:=this.2;omega⟩,a.2⟩
 ·have:=WordM.nodup_len (cY (aQ (vs.filterMap e7))) (m:=nm) λx hx=>hn x ((cP _ x).mp hx)
  have:=hw.n11
  omega
def WD(n:Nat)(V:Tv->Prop):Prop:=∃nm tx st sp,fR nm tx st sp/\V=VD nm tx n
def De(n:Nat):n_ (bG n):=⟨nH n,A0 n⟩
def D0:List Tv->List Pt:=λ_=>[]
def W0:(Tv->Prop)->Prop:=λV=>∀v,¬ V v
section
variable{D:List Tv->List Pt}{W W':(Tv->Prop)->Prop}{lv:Nat}
def Jz(hj:ak K mg "joined" mV)(hp:ak K mg "parts_joined" pD)(hl:ak K mg "lists_joined" pE)(hd:ak K mg "dicts_joined" pF)(ht:ak K mg "tables_joined" pG)(ha:ak K mg "all_joined" mU)(hr:ak K mg "records_joined" pH)(hf:ak K mg "field_joined" pI)(B:Own mg)
  (G16_:ae P w K mg base 2 "part_for" ["form","kind"] nG) (G4_:ae P w K mg base 3 "run_joined" ["one","other"] oK) (G14_:ae P w K mg base 5 "words_joined" ["one","other"] lR) (G22_:ae P w K mg base 1 "fields_by_name" ["record"] mY) (G25_:ae P w K mg base 5 "name_words" ["part"] pK) (G17_:ae P w K mg base 1 "forms_within" ["part"] pL)
  (GMOST_FIELDS:eI K mg "MOST_FIELDS" (iT 8)) (GKINDS:eI K mg "KINDS" (.seq true (kN6.map λk=>sT (cS k))))
  (hD:n_ D) (hW:∀V':Tv->Prop,W' V'->∃V:Tv->Prop,W V/\∀vs:List Tv,(∀v∈vs,V' v)->gn V vs)
  (G30_:ae P w K mg base lv "joined" ["one","other"] (ph D W)):ae P w K mg base (lv+9) "joined" ["one","other"] (ph (i6 D) W'):=
 zf (lv:=lv) hj B G16_ (EI hp B G4_ G14_ (EH hl B G30_) (DO hd B G22_ (DL hr B G22_ (DK hf B G30_)) (DN ht B G25_ G14_ (yP ha B G30_) G17_) GMOST_FIELDS)) GKINDS hD hW
def vS(D:List Tv->List Pt)(k:Nat):bI D [] k=none:=by
 unfold bI
 split<;>rfl
def BS(D:List Tv->List Pt):i6 D []=[]:=by
 unfold i6
 rw[qe2_]
 exact λk _=>vS D k
def FZ(n:Nat):bG (n+1)=i6 (bG n):=funext λvs=>rfl
def rX{V:Tv->Prop}(h:∀v,¬ V v){A:List Tv}(hA:∀v∈A,V v):A=[]:=qb2_.mpr λv hv=>h v (hA v hv)
def Ac(hj:ak K mg "joined" mV)(hp:ak K mg "parts_joined" pD)(hl:ak K mg "lists_joined" pE)(hd:ak K mg "dicts_joined" pF)(ht:ak K mg "tables_joined" pG)(ha:ak K mg "all_joined" mU)(hr:ak K mg "records_joined" pH)(hf:ak K mg "field_joined" pI)(B:Own mg)
  (G16_:ae P w K mg base 2 "part_for" ["form","kind"] nG) (G4_:ae P w K mg base 3 "run_joined" ["one","other"] oK) (G14_:ae P w K mg base 5 "words_joined" ["one","other"] lR) (G22_:ae P w K mg base 1 "fields_by_name" ["record"] mY) (G25_:ae P w K mg base 5 "name_words" ["part"] pK) (G17_:ae P w K mg base 1 "forms_within" ["part"] pL)
  (GMOST_FIELDS:eI K mg "MOST_FIELDS" (iT 8)) (GKINDS:eI K mg "KINDS" (.seq true (kN6.map λk=>sT (cS k)))):∀n:Nat,ae P w K mg base (9*n+9) "joined" ["one","other"] (ph (bG n) (WD n))
 |0=>by
  have z:ae P w K mg base 8 "parts_joined" ["one","other"] (tL D0 (λ_=>True) W0):=hp.pfalse r8 (fun|_,_,_,_,_,_,[_,_],_=>rfl) λas R ⟨V,_,V',h0,A,B',k,p,q,r,_,_,_,ha',h1,_⟩=>by
   have:A=[]:=rX h0 λv hv=>ha' v (g6 _ hv)
   rw[this,vS]at h1
   cases h1
  have g:=zf (lv:=0) (D:=D0) (W:=λ_=>True) (W':=W0) hj B G16_ z GKINDS ⟨λ_ _ _=>rfl,rfl⟩ (λV' h0=>⟨V',trivial,λvs hvs=>by
   rw[rX h0 hvs]
   exact⟨λt h=>(nomatch h),d6 _,λt h=>(nomatch h),λt h=>(nomatch h),λt h=>(nomatch h),d6 _⟩⟩)
  refine g.imp λas R ⟨V,⟨nm,tx,st,sp,hw,eV⟩,A,B',e,hA,hB,q⟩=>?_
  subst eV
  have h0:∀v,¬ VD nm tx 0 v:=λv h=>h
  have eA:=rX h0 hA
  have eB:=rX h0 hB
  subst eA eB
  refine⟨VD nm tx 0,h0,[],[],?_,λv h=>(nomatch h),λv h=>(nomatch h),?_⟩
  ·rw[e,BS];rfl
  ·rw[jb,BS];exact q
 |n+1=>by
  rw[FZ]
  exact Jz hj hp hl hd ht ha hr hf B G16_ G4_ G14_ G22_ G25_ G17_ GMOST_FIELDS GKINDS (De n) (λV' ⟨nm,tx,st,sp,hw,e⟩=>⟨VD nm tx n,⟨nm,tx,st,sp,hw,rfl⟩,λvs h=>Dt hw λv hv=>by have:=h v hv;rw[e]at this;exact this⟩) (Ac hj hp hl hd ht ha hr hf B G16_ G4_ G14_ G22_ G25_ G17_ GMOST_FIELDS GKINDS n)
end
end
section
variable{P:Program}{w:World}{K:W.Frag}{mg:Str->Option Value}{base:Heap}
variable{n:Nat}
def xH{c:Nat}{S:Str}{A B:Prop}(h1:c∈cs S->A)(h2:c∉cs S->B):if (false != pj ⟨#[c]⟩ S)=true then A else B:=by
 have:(false != pj ⟨#[c]⟩ S)=decide (c∈cs S):=by unfold pj;rw[StrLaws.found_one];simp
 rw[this]
 exact jZ h1 h2
def xA:bu:=λas R=>∃c:Nat,as=[.va (sT ⟨#[c]⟩)]/\R (sT (eX c))
def ur:bB ["_law_sign"] ["_law_sign"] (aN xR):=b8 (by decide +kernel)
def Ek(h:ak K mg "_law_mark" xR)(B:Own mg)    : ae P w K mg base 1 "_law_mark" ["_law_sign"] xA:=by
 have nd:=ur.nd
 refine h.pgood ur (fun|_,_,_,_,_,_,[_],_=>rfl) (λf cdv A outer s H E F hr=>
   (aI (bD (dF (mK hr.units) (aC 0) aY rfl)
    (aJ (aO aY))
    bC)
   (aI (bD (dF (mK hr.units) (aC 0) aY rfl)
    (aJ (aO aY))
    bC)
   (aI (bD (dF (mK hr.units) (aC 0) aY rfl)
    (aJ (aO aY))
    bC)
   (aJ (aO aY)))))) (λas R q=>?_)
 obtain⟨c,rfl,q⟩:=q
 unfold eX at q
 refine⟨rfl,_,rfl,xH (λa=>?_) (λa=>⟨_,rfl,xH (λb=>?_) (λb=>⟨_,rfl,xH (λd=>?_) (λd=>?_)⟩)⟩)⟩
 ·rw[if_pos (show c∈cs mS from a)]at q;exact q
 ·rw[if_neg (show c∉cs mS from a),if_pos (show c∈cs oG from b)]at q;exact q
 ·rw[if_neg (show c∉cs mS from a),if_neg (show c∉cs oG from b),if_pos (show c∈cs rR from d)]at q;exact q
 ·rw[if_neg (show c∉cs mS from a),if_neg (show c∉cs oG from b),if_neg (show c∉cs rR from d)]at q;exact q
end
section
variable{P:Program}{w:World}{K:W.Frag}{mg:Str->Option Value}{base:Heap}
def uS:bu:=λas R=>∃a b:Int,as=[.va (iT a),.va (iT b)]/\R (iT (GcdM.g a b))
def uw:bB ["_law_one","_law_other"] ["_law_one","_law_other"] (aN xS):=b8 (by decide +kernel)
def Ej(h:ak K mg "_law_divisor" xS)(B:Own mg)    : ae P w K mg base 1 "_law_divisor" ["_law_one","_law_other"] uS:=by
 have nd:=uw.nd
 refine h.pgood uw (fun|_,_,_,_,_,_,[_,_],_=>rfl) (λf cdv A outer s H E F hr=>
   (aI (nJ ic (fW hr (aC 1) aG)
    (aJ (Hh (i:=0) (j:=1) rfl nd rfl rfl (by decide) rfl rfl (aD (aC 1) (aD (bN Iv (aC 0) (aC 1)) aE)) (by rfl))))
   (aJ (aO (bF Ie rfl B.abs boot_abs (aD (aC 0) aE)))))) (λas R q=>?_)
 obtain⟨a,b,rfl,q⟩:=q
 refine⟨rfl,λm ρ=>∃x y:Int,m=y.natAbs/\GcdM.g x y=GcdM.g a b/\ρ=[.va (iT x),.va (iT y)],⟨_,a,b,rfl,rfl,rfl⟩,?_⟩
 rintro m _ ⟨x,y,rfl,e,rfl⟩
 refine⟨_,rfl,ie (λz=>?_) (λz=>?_)⟩
 ·have hy:y≠0:=by simpa[dc]using z
  exact⟨hy,_,_,rfl,_,GcdM.fmod_less hy,y,x.fmod y,rfl,(GcdM.g_turnF hy).trans e,rfl⟩
 ·have hy:y=0:=by simpa[dc]using z
  subst hy
  rw[GcdM.g_abs x]at e
  refine⟨_,rfl,?_⟩
  rw[e]
  exact q
def sG:bu:=λas R=>∃ns:List Int,as=[.va (.seq false (ns.map iT))]/\ns≠[]/\R (pJ (dA ns))
def CF{n0 d:Int}:∀{ns:List Int}{s:Int},d ∣ ns.foldl (λs n=>GcdM.g s (n-n0)) s↔d ∣ s/\∀n∈ns,d ∣ (n-n0)
 |[],s=>⟨λh=>⟨h,λn hn=>nomatch hn⟩,λh=>h.1⟩
 |a::ns,s=>by
  rw[ia,CF,GcdM.g_dvd]
  constructor
  ·rintro⟨⟨h1,h2⟩,h3⟩
   refine⟨h1,λn hn=>?_⟩
   rcases qx_.mp hn with rfl|hn
   ·exact h2
   ·exact h3 n hn
  ·rintro⟨h1,h2⟩
   exact⟨⟨h1,h2 a (.head _)⟩,λn hn=>h2 n (.tail _ hn)⟩
def A7{n0:Int}:∀{ns:List Int}{s:Int},0<=s->0<=ns.foldl (λs n=>GcdM.g s (n-n0)) s
 |[],s,h=>h
 |a::ns,s,h=>by rw[ia];exact A7 (GcdM.g_nonneg _ _)
def uo:bB ["_law_numbers","_law_step","_law_number_here"] ["_law_numbers"] (aN xQ):=b8 (by decide +kernel)
def Em(h:ak K mg "_law_run" xQ)(B:Own mg)(G48_:ae P w K mg base 1 "_law_divisor" ["_law_one","_law_other"] uS)   : ae P w K mg base 2 "_law_run" ["_law_numbers"] sG:=by
 have nd:=uo.nd
 refine h.pgood uo (fun|_,_,_,_,_,_,[_],_=>rfl) (λf cdv A outer s H E F hr=>
   (aI (aZ 1 nd aG)
   (aI (eF (m:=3) ic rfl (bY (aC 0)) (dI 2 (by decide) nd rfl (.inl rfl))
    (aJ (aZ 1 nd (aL G48_ hr (aD (aC 1) (aD (bN iZ (aC 2) (aU hr (aC 0) aG)) aE))))))
   (aJ (aO (cA (aD (bF (hZ rfl) rfl B.min boot_min (aD (aC 0) aE)) (aD (bF (gH rfl) rfl B.max boot_max (aD (aC 0) aE)) (aD (aC 1) aE))))))))) (λas R q=>?_)
 obtain⟨ns,rfl,ne,q⟩:=q
 have l0:0<ns.length:=qR1_.mpr ne
 obtain⟨n0,hn0⟩:∃n0,ns[0]?=some n0:=⟨_,b_ l0⟩
 have n0m:=g5 hn0
 have bz:jd (ns.map iT) 0=some (iT n0):=bH (j:=0) (by rw[e_,hn0];rfl)
 refine⟨rfl,?_⟩
 refine gZ iT (l:=ns) (λi ρ=>∃s2:Sl,ρ=[.va (.seq false (ns.map iT)),.va (iT ((ns.take i).foldl (λs n=>GcdM.g s (n-n0)) 0)),s2]) ⟨.no,rfl⟩ ?_ ?_
 ·rintro i a _ N ha ⟨s2,rfl⟩ hN
  refine⟨_,bz,_,a-n0,rfl,hN _ ⟨.va (iT a),?_⟩⟩
  rw[g_,ha,o9]
  rfl
 ·rintro _ ⟨s2,rfl⟩
  rw[ff]
  refine .inr (.inl ⟨ns,rfl,l0,λlo lo1 lo2=>.inr (.inl ⟨ns,rfl,l0,λhi hi1 hi2=>⟨by simp,?_⟩⟩)⟩)
  have e:(lo,hi,ns.foldl (λs n=>GcdM.g s (n-n0)) 0)=dA ns:=vD ⟨lo1,lo2,hi1,hi2,A7 (j_ 0),λd=>by
   show d ∣ ns.foldl (λs n=>GcdM.g s (n-n0)) 0↔∀n,n∈ns->d ∣ (n-lo)
   rw[CF]
   constructor
   ·rintro⟨_,h⟩ n hn
    have:=iz (h n hn) (h lo lo1)
    rwa[show n-n0-(lo-n0)=n-lo by omega]at this
   ·intro h
    refine⟨h9 _,λn hn=>?_⟩
    have:=iz (h n hn) (h n0 n0m)
    rwa[show n-lo-(n0-lo)=n-n0 by omega]at this⟩
  rw[<-e]at q
  exact q
def uE{t h:Str}(e:jf t h=true):cs t=cs h++cs (aV t h)/\(aV t h).length+h.length=t.length:=by
 obtain⟨r,er⟩:=stW_iff.mp e
 have:=kI er
 refine⟨by rw[this];exact er,?_⟩
 have l:=congrArg List.length er
 rw[b9,<-WordM.len,<-WordM.len]at l
 rw[WordM.len (aV t h),this]
 omega
def zr:∀{ss:List Str}{m:Nat},(∀s∈ss,s.length<=m)->(cC ss).length<=ss.length*m
 |[],m,_=>by simp[cC]
 |s::ss,m,h=>by
  have h1:=h s (.head _)
  have h2:=zr (ss:=ss) (m:=m) λt ht=>h t (.tail _ ht)
  have e:(cC (s::ss)).length=s.length+(cC ss).length:=by simp[cC,Str.length]
  rw[e,ik,Nat.succ_mul]
  omega
def Jt{ss:List Str}{s:Str}{c:Nat}(hs:s∈ss)(hc:c∈cs s):c∈cC ss:=by
 unfold cC
 exact qr1_.mpr ⟨s,hs,hc⟩
def nU:bu:=λas R=>∃ss:List Str,as=[.va (.seq false (ss.map sT))]/\ss≠[]/\(∀s∈ss,Sg s/\s.length<=43)/\(aH ss).length<64/\R (bV (bP ss))
def uq:bB ["_law_texts","_law_some","_law_head","_law_rests","_law_longs","_law_marks"] ["_law_texts"] (aN kY):=b8 (by decide +kernel)
theorem El(h:ak K mg "_law_words" kY)(B:Own mg)(G49_:ae P w K mg base 1 "_law_mark" ["_law_sign"] xA)   : ae P w K mg base 2 "_law_words" ["_law_texts"] nU:=by
 have nd:=uq.nd
 refine h.pgood uq (fun|_,_,_,_,_,_,[_],_=>rfl) (λf cdv A outer s H E F hr=>
   (aI (aZ 1 nd (bE (pT rfl rfl B.sorted rfl B.set_ (aC 0))))
   (aI (bD (dF kT (bF cE rfl B.len de (aD (aC 1) aE)) aG)
    (aJ (aO (cA (aD aY (aD (fO fQ rfl B.tuple_ boot_tuple (aD (aC 1) aE)) aE)))))
    bC)
   (aI (aZ 2 nd (aU hr (aC 1) aG))
   (aI (nJ ic (fW hr (bE (oQ (sc:=aN kY) (XN:=["_law_texts","_law_some","_law_head","_law_rests","_law_longs","_law_marks"]) (N:=["_law_text_here","_law_head"]) (fr:=[2]) (bY (aC 1)) (λ_ _ _ _ _=>(hE (hX (cK (rO PySem.F.slot_str_startswith PySem.F.type_str_startswith K8 (aC 0) (aD (aC 1) aE)))))) (λ_ _ _ _ _=>(aC 0)))) (bE (cD aE)))
    (aJ (aZ 2 nd (iL jD (aC 2) iR (iQ (AW AG aG))))))
   (aI (fH (sc:=aN kY) (XN:=["_law_texts","_law_some","_law_head","_law_rests","_law_longs","_law_marks"]) (N:=["_law_text_here","_law_head"]) (fr:=[2]) 3 nd (bY (aC 1)) (λ_ _ _ _ _=>hG) (λ_ _ _ _ _=>(iL jD (aC 0) (iQ (bF cE rfl B.len de (aD (aC 1) aE))) iR)))
   (aI (fH (sc:=aN kY) (XN:=["_law_texts","_law_some","_law_head","_law_rests","_law_longs","_law_marks"]) (N:=["_law_rest"]) (fr:=[]) 4 nd (bY (aC 3)) (λ_ _ _ _ _=>hG) (λ_ _ _ _ _=>(bF cE rfl B.len de (aD (aC 0) aE))))
   (aI (aZ 5 nd (bE (pT rfl rfl B.sorted rfl B.set_ (bE (eW (sc:=aN kY) (XN:=["_law_texts","_law_some","_law_head","_law_rests","_law_longs","_law_marks"]) (N:=["_law_sign"]) (fr:=[]) (bY (rO PySem.F.slot_str_join PySem.F.type_str_join BY aY (aD (aC 3) aE))) (λ_ _ _ _ _=>(aL G49_ hr (aD (aC 0) aE))))))))
   (aJ (aO (cA (aD aY (aD (aC 2) (aD (bF (hZ rfl) rfl B.min boot_min (aD (aC 4) aE)) (aD (bF (gH rfl) rfl B.max boot_max (aD (aC 4) aE)) (aD (fO fQ rfl B.tuple_ boot_tuple (aD (aC 5) aE)) aE)))))))))))))))) (λas R q=>?_)
 obtain⟨ss,rfl,ne,ht,l64,q⟩:=q
 have hl:(aX (aH ss)).length=(aH ss).length:=uK _
 have hr:=gB ss
 have hm:∀x,x∈aX (aH ss)↔x∈ss:=λx=>sort_set_mem
 have hne:0<(aH ss).length:=by
  obtain⟨x,hx⟩:=ix _ ne
  exact List.length_pos_of_mem ((cP ss x).mpr hx)
 have ewd:bP ss=if (aH ss).length<7 then .few (aX (aH ss)) else eY ss:=rfl
 refine⟨rfl,ss,rfl,l64,?_⟩
 generalize aX (aH ss)=us at hl hr hm ewd
 have hu:∀t∈us,Sg t/\t.length<=43:=λt h=>ht t ((hm t).mp h)
 refine⟨_,rfl,ie (λz=>?_) (λz=>?_)⟩
 ·have z:((us.map sT).length:Int)<7:=by simpa using z
  rw[ao]at z
  rw[ewd,if_pos (by omega)]at q
  exact⟨_,_,rfl,by simp,q⟩
 have z:¬ ((us.map sT).length:Int)<7:=by simpa using z
 rw[ao]at z
 have nd:us.Nodup:=lH hr
 obtain⟨x0,hx0⟩:∃x0,us[0]?=some x0:=⟨_,b_ (by omega)⟩
 have bz:jd (us.map sT) 0=some (sT x0):=bH (j:=0) (by rw[e_,hx0];rfl)
 have x0m:=g5 hx0
 refine⟨_,bz,?_⟩
 refine⟨λm ρ=>∃(h:Str) (s3 s4 s5:Sl),m=h.length/\Sg h/\h.length<=43/\((∃r,cs x0=cs h++r)/\∀h':List Nat,(∀t∈us,∃r,cs t=h'++r)->h'.length<=(cs h).length)/\ρ=[.va (.seq false (ss.map sT)),.va (.seq false (us.map sT)),.va (sT h),s3,s4,s5],⟨_,x0,_,_,_,rfl,(hu x0 x0m).1,(hu x0 x0m).2,⟨⟨[],by rw[jb]⟩,λh' hh=>by obtain⟨r,e⟩:=hh x0 x0m;rw[e,b9];omega⟩,rfl⟩,?_⟩
 rintro m _ ⟨h,s3,s4,s5,rfl,sh,lh,⟨hpre,htop⟩,rfl⟩
 refine⟨by rw[ao];omega,?_⟩
 refine kG sT (λt=>if jf t h=true then none else some (sT t)) (λt ht' R q=>⟨rfl,_,_,rfl,rfl,_,rfl,ie (λz=>?_) (λz=>?_)⟩) ?_
 ·have z:(!jf t h)=true:=z
  have z:jf t h=false:=by cases e:jf t h with|false=>rfl|true=>rw[e]at z;cases z
  rw[if_neg (by rw[z];exact cb)]at q
  exact q
 ·have z:(!jf t h)=false:=z
  have z:jf t h=true:=by cases e:jf t h with|true=>rfl|false=>rw[e]at z;cases z
  rw[if_pos z]at q
  exact q
 refine⟨by simp,.inr (.inl rfl),_,rfl,ie (λz=>?_) (λz=>?_)⟩
 ·have hpos:0<h.length:=by
   refine Nat.pos_of_ne_zero λe=>?_
   have:(us.filterMap λt=>if jf t h=true then none else some (sT t))=[]:=qe2_.mpr λt _=>by
    rw[if_pos]
    refine stW_iff.mpr ⟨cs t,?_⟩
    rw[WordM.len]at e
    rw[jk e];rfl
   rw[this]at z
   simp[cN]at z
  have l':=MZ hpos
  have cl':=zX hpos
  have hlen:h.length=(cs h).length:=WordM.len h
  have nst:¬ ∀t∈us,jf t h=true:=λhall=>by
   have:(us.filterMap λt=>if jf t h=true then none else some (sT t))=[]:=qe2_.mpr λt ht'=>by rw[if_pos (hall t ht')]
   rw[this]at z
   simp[cN]at z
  refine⟨_,rfl,by omega,_,by rw[l'];omega,Txt.slice h none (some (-1)),_,_,_,rfl,sh.slice _ _,by rw[l'];omega,⟨?_,λh' hh=>?_⟩,rfl⟩
  ·obtain⟨r,e⟩:=hpre
   refine⟨(cs h).drop (h.length-1)++r,?_⟩
   rw[cl',<-jo,oz]
   exact e
  ·rw[cl',jh]
   have h1:=htop h' hh
   have:h'.length≠(cs h).length:=λe=>nst λt ht'=>by
    obtain⟨r1,e1⟩:=hpre
    obtain⟨r2,e2⟩:=hh x0 x0m
    have eh:h'=cs h:=List.append_inj_left (e2.symm.trans e1) e
    obtain⟨r,e3⟩:=hh t ht'
    exact stW_iff.mpr ⟨r,by rw[e3,eh]⟩
   omega
 have hall:∀t∈us,jf t h=true:=by
  have:(us.filterMap λt=>if jf t h=true then none else some (sT t))=[]:=by
   generalize (us.filterMap λt=>if jf t h=true then none else some (sT t))=L at z
   cases L with
   |nil=>rfl
   |cons a L=>simp[cN]at z
  intro t ht'
  have:=qe2_.mp this t ht'
  cases e:jf t h with
  |true=>rfl
  |false=>rw[e]at this;simp at this
 have rl:∀t∈us,(aV t h).length<=43:=λt ht'=>by
  have:=(uE (hall t ht')).2
  have:=(hu t ht').2
  omega
 refine⟨by rw[ao];omega,dS sT (λt=>sT (aV t h)) (λt ht' R q=>⟨by omega,_,rfl,by have:=(hu t ht').2;omega,q⟩) ?_⟩
 refine⟨by rw[ao];omega,dS (λt=>sT (aV t h)) (λt=>iT ((aV t h).length:Nat)) (λt ht' R q=>⟨by have:=rl t ht';omega,q⟩) ?_⟩
 have cl:(cC (us.map λt=>aV t h)).length<=64*43:=by
  have:=zr (ss:=us.map λt=>aV t h) (m:=43) λs hs=>by
   obtain⟨t,ht',rfl⟩:=qf_.mp hs
   exact rl t ht'
  rw[ao]at this
  have:=iw 43 (show us.length<=64 by omega)
  omega
 refine⟨rfl,us.map λt=>aV t h,rfl,by rw[f7];rfl,by omega,?_⟩
 refine⟨by rw[ao];show(cC (us.map λt=>aV t h)).length<=100000;omega,?_⟩
 refine dS (λc:Nat=>sT ⟨#[c]⟩) (λc=>sT (eX c)) (λc hc R q=>⟨c,rfl,q⟩) ?_
 have mkm:∀m∈(cC (us.map λt=>aV t h)).map eX,m∈MK:=λm hm=>by
  obtain⟨c,_,rfl⟩:=qf_.mp hm
  exact WordM.mark_in c
 have sl4:(aH ((cC (us.map λt=>aV t h)).map eX)).length<=4:=WordM.nodup_len (cY _) (m:=MK) λx hx=>mkm x ((cP _ x).mp hx)
 refine⟨(cC (us.map λt=>aV t h)).map eX,by rw[f7];rfl,by omega,?_⟩
 have en:(us.map λt=>iT ((aV t h).length:Nat))=(us.map λt=>(((aV t h).length:Nat):Int)).map iT:=by rw[f7];rfl
 refine .inr (.inl ⟨us.map λt=>(((aV t h).length:Nat):Int),by rw[<-en],by rw[ao];omega,λlo lo1 lo2=>.inr (.inl ⟨us.map λt=>(((aV t h).length:Nat):Int),by rw[<-en],by rw[ao];omega,λhi hi1 hi2=>⟨_,_,rfl,by simp,?_⟩⟩)⟩)
 have rf:∀t∈us,(t.length:Int)-(h.length:Int)=((aV t h).length:Nat):=λt ht'=>by have:=(uE (hall t ht')).2;omega
 have mo:ip us h lo hi (aX (aH ((cC (us.map λt=>aV t h)).map eX))):=by
  obtain⟨t1,t1m,e1⟩:=qf_.mp lo1
  obtain⟨t2,t2m,e2⟩:=qf_.mp hi1
  refine⟨⟨λt ht'=>⟨_,(uE (hall t ht')).1⟩,htop⟩,⟨t1,t1m,by rw[rf t1 t1m];exact e1⟩,λt ht'=>by rw[rf t ht'];exact lo2 _ (qf_.mpr ⟨t,ht',rfl⟩),⟨t2,t2m,by rw[rf t2 t2m];exact e2⟩,λt ht'=>by rw[rf t ht'];exact hi2 _ (qf_.mpr ⟨t,ht',rfl⟩),?_⟩
  refine nF (gB _) (pR _ _) λm=>?_
  rw[sort_set_mem,nD,qf_]
  constructor
  ·rintro⟨c,hc,e⟩
   obtain⟨x,hx,hc⟩:=qr1_.mp (show c∈(us.map λt=>aV t h).flatMap cs from hc)
   obtain⟨t,ht',rfl⟩:=qf_.mp hx
   exact⟨t,ht',c,hc,e⟩
  ·rintro⟨t,ht',c,hc,e⟩
   exact⟨c,Jt (qf_.mpr ⟨t,ht',rfl⟩) hc,e⟩
 rw[ewd,if_neg (by omega),wG (us:=us) ne λx=>(hm x).symm,<-rF mo]at q
 exact q
end
section
variable{P:Program}{w:World}{K:W.Frag}{mg:Str->Option Value}{base:Heap}
abbrev jF(k:List (Str×Tv)):List Str:=k.map (·.1)
def cX(ks:List (List (Str×Tv))):List Str:=ks.flatMap jF
def allK_mem{ks:List (List (Str×Tv))}{x:Str}:x∈cX ks↔∃k∈ks,x∈jF k:=qr1_
def Jx{a b:Nat}:(false != dc (.int (a:Nat)) (.int (b:Nat)))=true↔a=b:=by
 constructor
 ·intro z
  have:(a:Int)=(b:Int):=by simpa[dc]using z
  omega
 ·intro e
  subst e
  simp[dc]
def Ao{α β:Type}{g:α->Option β}:∀{ks:List α},(ks.filterMap g).length=ks.length↔∀k∈ks,(g k).isSome=true
 |[]=>by simp
 |k::ks=>by
  have ih:=Ao (g:=g) (ks:=ks)
  have le:=kl g ks
  rw[il]
  cases e:g k with
  |none=>
   simp only[List.length_cons,List.forall_mem_cons,e]
   constructor
   ·intro h;omega
   ·intro h;exact absurd h.1 (by simp)
  |some v=>
   simp only[List.length_cons,List.forall_mem_cons,e,Option.isSome_some,true_and]
   rw[<-ih];omega
def look_some{k:List (Str×Tv)}{x:Str}:(bS k x).isSome=true↔x∈jF k:=by
 cases e:bS k x with
 |none=>exact⟨λh=>(nomatch h),λh=>absurd h (lookD_none.mp e)⟩
 |some U=>exact⟨λ_=>qf_.mpr ⟨_,uV e,rfl⟩,λ_=>rfl⟩
def BI{ks:List (List (Str×Tv))}(h:∀k∈ks,k.length<=11)(i:Nat):(cX (ks.take i)).length<=ks.length*11:=by
 have h1:∀l:List (List (Str×Tv)),(∀k∈l,k.length<=11)->(cX l).length<=l.length*11:=λl=>by
  induction l with
  |nil=>intro _;simp[cX]
  |cons k l ih=>
   intro hk
   have a:=hk k (.head _)
   have b:=ih λx hx=>hk x (.tail _ hx)
   show(jF k++cX l).length<=_
   rw[b9,ao,ik]
   omega
 have:=h1 (ks.take i) λk hk=>h k (List.mem_of_mem_take hk)
 rw[jh]at this
 have:min i ks.length*11<=ks.length*11:=iw _ (qy _ _)
 omega
def iC(ks:List (List (Str×Tv))):List Tv:=ks.flatMap λk=>k.map (·.2)
def B7{ks:List (List (Str×Tv))}(h:∀k∈ks,k.length<=11)(i:Nat):(iC (ks.take i)).length<=ks.length*11:=by
 have e:∀l:List (List (Str×Tv)),(iC l).length=(cX l).length:=λl=>by
  induction l with
  |nil=>rfl
  |cons k l ih=>
   show(k.map (·.2)++iC l).length=(jF k++cX l).length
   rw[b9,b9,ih,ao,ao]
 rw[e];exact BI h i
def Ct{ks:List (List (Str×Tv))}{i:Nat}{k:List (Str×Tv)}(h:ks[i]?=some k):cX (ks.take (i+1))=cX (ks.take i)++jF k:=by
 obtain⟨hi,rfl⟩:=qy_.mp h
 unfold cX
 rw[m7 hi,oo]
 simp
def zW{ks:List (List (Str×Tv))}{i:Nat}{k:List (Str×Tv)}(h:ks[i]?=some k):iC (ks.take (i+1))=iC (ks.take i)++k.map (·.2):=by
 obtain⟨hi,rfl⟩:=qy_.mp h
 unfold iC
 rw[m7 hi,oo]
 simp
structure rg (nm tx:List Str) (n:Nat) (vs:List Tv):Prop where
 six:∀v∈vs,v=nT\/(∃b,v=bT b)\/(∃i,v=iT i)\/(∃s,v=sT s)\/(∃xs,v=.seq false xs)\/∃k,v=.dct k
 txt:∀s,sT s∈vs->s∈tx
 pos:vs≠[]->∃n',n=n'+1
 len:vs.length<=100000
 lst:∀n' x,n=n'+1->Tv.seq false x∈vs->∀y∈x,VD nm tx n' y
 fl:∀n' (xs:List (List Tv)),n=n'+1->(xs.map (Tv.seq false)).Sublist vs->xs.flatten.length*11 ^ n'<=1100000/\xs.flatten.length<=100000
 dct:∀k,Tv.dct k∈vs->VD nm tx n (.dct k)
 dl:∀ks:List (List (Str×Tv)),(ks.map Tv.dct).Sublist vs->ks.length*11 ^ n<=1100000
def VD.six{nm tx:List Str}{n:Nat}{v:Tv}(h:VD nm tx n v):v=nT\/(∃b,v=bT b)\/(∃i,v=iT i)\/(∃s,v=sT s)\/(∃xs,v=.seq false xs)\/∃k,v=.dct k:=by
 cases n with
 |zero=>exact False.elim h
 |succ n=>
  cases v with
  |leaf v=>cases v with
   |non=>exact .inl rfl
   |bl b=>exact .inr (.inl ⟨b,rfl⟩)
   |int i=>exact .inr (.inr (.inl ⟨i,rfl⟩))
   |str s=>exact .inr (.inr (.inr (.inl ⟨s,rfl⟩)))
   |_=>exact False.elim h
  |seq t xs=>cases t with
   |false=>exact .inr (.inr (.inr (.inr (.inl ⟨xs,rfl⟩))))
   |true=>exact False.elim h
  |dct k=>exact .inr (.inr (.inr (.inr (.inr ⟨k,rfl⟩))))
def Aa{c:Nat}:∀l:List (List Tv),(∀x∈l,x.length<=c)->l.flatten.length<=l.length*c
 |[],_=>by simp
 |a::l,h=>by
  have h1:=h a (.head _)
  have h2:=Aa l λx hx=>h x (.tail _ hx)
  rw[gg,b9,ik,Nat.add_mul]
  omega
def rg.of{nm tx:List Str}{n:Nat}{vs:List Tv}(hv:∀v∈vs,VD nm tx n v)(hl:vs.length*11 ^ n<=1100000):rg nm tx n vs:=by
 have pos:vs≠[]->∃n',n=n'+1:=λne=>by
  obtain⟨v,hvm⟩:=ix _ ne
  cases n with
  |zero=>exact False.elim (hv v hvm)
  |succ n=>exact⟨n,rfl⟩
 have h0:∀n',n=n'+1->vs.length*11*11 ^ n'<=1100000:=λn' e=>by
  subst e
  rw[m5]at hl
  rw[oi,jj 11]
  exact hl
 refine⟨λv h=>VD.six (hv v h),λs h=>?_,pos,?_,λn' x e h=>?_,λn' xs e h=>?_,λk h=>hv _ h,λks h=>?_⟩
 ·obtain⟨n',rfl⟩:=pos λe=>by rw[e]at h;cases h
  exact hv _ h
 ·cases n with
  |zero=>
   have:vs=[]:=qb2_.mpr λv h=>hv v h
   rw[this];exact d6 _
  |succ n=>
   have p2:1<=11 ^ n:=oh _ _ (by decide)
   have:=bx (og (vs.length*11) p2) (h0 n rfl)
   omega
 ·subst e
  exact(hv _ h).2
 ·have xv:∀x∈xs,x.length<=11/\∀y∈x,VD nm tx n' y:=λx hx=>by
   subst e
   exact hv _ (h.subset (qf_.mpr ⟨x,hx,rfl⟩))
  have l1:=Aa xs λx hx=>(xv x hx).1
  have l2:=h.length_le
  rw[ao]at l2
  have l3:xs.flatten.length<=vs.length*11:=bx l1 (iw _ l2)
  have l4:=bx (iw (11 ^ n') l3) (h0 n' e)
  refine⟨l4,?_⟩
  cases n' with
  |zero=>
   have:xs.flatten=[]:=List.flatten_eq_nil_iff.mpr λx hx=>qb2_.mpr λy hy=>(xv x hx).2 y hy
   rw[this];exact d6 _
  |succ n'=>
   have p2:1<=11 ^ n':=oh _ _ (by decide)
   rw[m5,jj (11 ^ n'),<-oi]at l4
   have:=bx (og _ p2) l4
   omega
 ·have l2:=h.length_le
  rw[ao]at l2
  exact bx (iw _ l2) hl
def mL(m:Nat):bu:=λas R=>∃(n:Nat) (nm tx:List Str) (st sp:Int) (vs:List Tv),as=[.va (.seq false vs)]/\fR nm tx st sp/\rg nm tx n vs/\n<m/\n<=50/\R (bX (bG n vs))
def Br(m:Nat):bu:=λas R=>∃(n:Nat) (nm tx:List Str) (st sp:Int) (ks:List (List (Str×Tv))),as=[.va (.seq false (ks.map Tv.dct))]/\fR nm tx st sp/\(∀k∈ks,VD nm tx (n+1) (.dct k))/\ks≠[]/\ks.length*11 ^ (n+1)<=1100000/\n<m/\n<=50/\R (aW (di (bG n) ks))
variable{m:Nat}
def um:bB ["_law_dicts_here","_law_names","_law_one","_law_least","_law_most","_law_values","_law_fields","_law_name"] ["_law_dicts_here"] (aN kX):=b8 (by decide +kernel)
def En(h:ak K mg "_law_dicts" kX)(B:Own mg)(G53_:ae P w K mg base (3+2*m) "_law_due" ["_law_values"] (mL m))(G50_:ae P w K mg base 2 "_law_words" ["_law_texts"] nU)   : ae P w K mg base (3+2*m+1) "_law_dicts" ["_law_dicts_here"] (Br m):=by
 have nd:=um.nd
 refine h.pgood um (fun|_,_,_,_,_,_,[_],_=>rfl) (λf cdv A outer s H E F hr=>
   (aI (gP 1 nd (cD aE))
   (aI (eF (m:=8) ic rfl (bY (aC 0)) (dI 2 (by decide) nd rfl (.inl rfl))
    (aJ (eC (uJ 1 (bE (qF (JV rfl) rfl B.list_ boot_list (aD (aC 2) aE)))))))
   (aI (gP 1 nd (pT rfl rfl B.sorted rfl B.set_ (aC 1)))
   (aI (aZ 3 nd (bF (hZ rfl) rfl B.min boot_min (aD (bE (eW (sc:=aN kX) (XN:=["_law_dicts_here","_law_names","_law_one","_law_least","_law_most","_law_values","_law_fields","_law_name"]) (N:=["_law_one"]) (fr:=[]) (bY (aC 0)) (λ_ _ _ _ _=>(bF cE rfl B.len de (aD (aC 0) aE))))) aE)))
   (aI (aZ 4 nd (bF (gH rfl) rfl B.max boot_max (aD (bE (eW (sc:=aN kX) (XN:=["_law_dicts_here","_law_names","_law_one","_law_least","_law_most","_law_values","_law_fields","_law_name"]) (N:=["_law_one"]) (fr:=[]) (bY (aC 0)) (λ_ _ _ _ _=>(bF cE rfl B.len de (aD (aC 0) aE))))) aE)))
   (aI (bD (dF AO (vW λF=>(bF cE rfl B.len de (aD (aC 1) aE))) aG)
    (aI (gP 5 nd (cD aE))
    (aI (eF (m:=8) ic rfl (bY (aC 0)) (dI 2 (by decide) nd rfl (.inl rfl))
     (aJ (eC (uJ 5 (bE (Ld rfl rfl B.list_ (aC 2)))))))
    (aJ (aO (cA (aD aY (aD (aC 3) (aD (aC 4) (aD (aL G50_ hr (aD (aC 1) aE)) (aD (aL G53_ hr (aD (aC 5) aE)) aE))))))))))
    bC)
   (aI (gP 6 nd (cD aE))
   (aI (eF (m:=8) ic rfl (bY (aC 1)) (dI 7 (by decide) nd rfl (.inr rfl))
    (aI (Kw (i:=5) (sc:=aN kX) (XN:=["_law_dicts_here","_law_names","_law_one","_law_least","_law_most","_law_values","_law_fields","_law_name"]) (N:=["_law_one","_law_name"]) (own:=1) (fr:=[7]) rfl nd rfl (.inl rfl) ⟨rfl,by decide +kernel,by decide +kernel,by decide +kernel,rfl,by decide +kernel,by decide,by decide +kernel⟩ (by decide) (bY (aC 0)) (λ_ _ _ _ _=>(dI 0 (by decide) (show(["_law_one","_law_name"]:List Str).Nodup by decide +kernel) rfl (by first|exact Or.inl rfl|exact Or.inr rfl))) (λ_ _ _ _ _=>(hE (dF (mK hr.units) (aC 1) (aC 0) rfl))) (λ_ _ _ _ _=>(aU hr (aC 0) (aC 1))))
    (aJ (eC (fP 6 (cA (aD (aC 7) (aD (gM (kU hr.units).op (vW λF=>(bF cE rfl B.len de (aD (aC 5) aE))) (bF cE rfl B.len de (aD (aC 0) aE))) (aD (aL G53_ hr (aD (aC 5) aE)) aE)))))))))
   (aJ (aO (cA (aD aY (aD (aC 3) (aD (aC 4) (aD (fO fQ rfl B.tuple_ boot_tuple (aD (aC 6) aE)) aE)))))))))))))))) (λas R q=>?_)
 obtain⟨n,nm,tx,st,sp,ks,rfl,hw,hk,kne,hl,nm',n50,q⟩:=q
 have knd:∀k∈ks,(jF k).Nodup:=λk h=>(hk k h).1
 have k11:∀k∈ks,k.length<=11:=λk h=>(hk k h).2.1
 have knm:∀k∈ks,∀x∈jF k,x∈nm:=λk h x hx=>by
  obtain⟨kt,hkt,rfl⟩:=qf_.mp hx
  exact((hk k h).2.2 kt hkt).1
 have p1:1<=11 ^ n:=oh _ _ (by decide)
 have hl2:ks.length*11*11 ^ n<=1100000:=by rw[m5]at hl;rw[oi,jj 11];exact hl
 have hl3:ks.length<=100000:=by
  have:=bx (og (ks.length*11) p1) hl2
  omega
 have kb:∀j,(cX (ks.take j)).length<=100000/\(iC (ks.take j)).length<=100000:=λj=>by
  have a:=BI k11 j
  have b:=B7 k11 j
  cases n with
  |zero=>
   have z:∀k∈ks.take j,k=[]:=λk h=>qb2_.mpr λkt hkt=>((hk k (List.mem_of_mem_take h)).2.2 kt hkt).2
   have e1:cX (ks.take j)=[]:=List.flatMap_eq_nil_iff.mpr λk h=>by rw[z k h];rfl
   have e2:iC (ks.take j)=[]:=List.flatMap_eq_nil_iff.mpr λk h=>by rw[z k h];rfl
   rw[e1,e2]
   exact⟨d6 _,d6 _⟩
  |succ n=>
   have p2:1<=11 ^ n:=oh _ _ (by decide)
   have:ks.length*11*11<=1100000:=by
    refine bx (og _ p2) ?_
    rw[oi (ks.length*11),jj 11 (11 ^ n),<-m5]
    exact hl2
   omega
 have kpos:0<ks.length:=qR1_.mpr kne
 refine⟨rfl,by simp,?_⟩
 refine gZ Tv.dct (l:=ks) (λi ρ=>∃s2,ρ=[.va (.seq false (ks.map Tv.dct)),.own ((cX (ks.take i)).map sT),s2,.no,.no,.no,.no,.no]) ⟨_,rfl⟩ ?_ ?_
 ·rintro i k _ N hki ⟨s2,rfl⟩ hN
  have l1:=(kb (i+1)).1
  rw[Ct hki,b9,ao]at l1
  refine⟨⟨_,rfl⟩,k,rfl,_,_,rfl,rfl,by rw[ao,ao];omega,hN _ ⟨.va (.dct k),?_⟩⟩
  show [Sl.va (.seq false (ks.map Tv.dct)),.own ((cX (ks.take i)).map sT++k.map λkt=>sT kt.1),.va (.dct k),.no,.no,.no,.no,.no]=_
  rw[Ct hki,ij,f7]
  rfl
 rintro _ ⟨s2,rfl⟩
 rw[ff]
 have sl:(aH (cX ks)).length<=11:=by
  have:=WordM.nodup_len (cY (cX ks)) (m:=nm) λx hx=>by
   obtain⟨k,h1,h2⟩:=allK_mem.mp ((cP _ x).mp hx)
   exact knm k h1 x h2
  rw[hw.n11]at this
  exact this
 refine⟨cX ks,rfl,by omega,?_⟩
 have hr:=gB (cX ks)
 have hm:∀x,x∈aX (aH (cX ks))↔∃k∈ks,x∈jF k:=λx=>sort_set_mem.trans allK_mem
 have nl:(aX (aH (cX ks))).length<=11:=by rw[uK];exact sl
 have enm:∀x,x∈aX (aH (cX ks))↔x∈aQ ks:=λx=>sort_set_mem
 have slm:(aX (aH (cX ks))).length=(aH (aQ ks)).length:=uK _
 have erc:bQ (bG n) ks=(aX (aH (cX ks))).map (cW (bG n) ks):=rfl
 generalize aX (aH (cX ks))=names at hr hm nl enm slm erc
 have nn:∀x∈names,Sg x/\x.length<=40:=λx hx=>by
  obtain⟨k,h1,h2⟩:=(hm x).mp hx
  exact hw.ns x (knm k h1 x h2)
 have lens:(ks.map λk=>iT (k.length:Nat))=(ks.map λk=>((k.length:Nat):Int)).map iT:=by rw[f7];rfl
 refine⟨by rw[ao];omega,dS Tv.dct (λk=>iT (k.length:Nat)) (λk hk R q=>q) ?_⟩
 refine .inr (.inl ⟨ks.map λk=>((k.length:Nat):Int),by rw[lens],by rw[ao];exact kpos,λa a1 a2=>?_⟩)
 refine⟨by rw[ao];omega,dS Tv.dct (λk=>iT (k.length:Nat)) (λk hk R q=>q) ?_⟩
 refine .inr (.inl ⟨ks.map λk=>((k.length:Nat):Int),by rw[lens],by rw[ao];exact kpos,λb b1 b2=>?_⟩)
 have ea:bM (bJ ks)=a:=nV a1 a2
 have eb:bR (bJ ks)=b:=nW b1 b2
 refine⟨_,rfl,_,rfl,ie (λz=>?_) (λz=>?_)⟩
 ·have z:(8:Int)<((names.map sT).length:Nat):=by simpa using z
  rw[ao]at z
  refine⟨by simp,?_⟩
  refine gZ Tv.dct (l:=ks) (λi ρ=>∃s2,ρ=[.va (.seq false (ks.map Tv.dct)),.own (names.map sT),s2,.va (iT a),.va (iT b),.own (iC (ks.take i)),.no,.no]) ⟨_,rfl⟩ ?_ ?_
  ·rintro i k _ N hki ⟨s2,rfl⟩ hN
   have l1:=(kb (i+1)).2
   rw[zW hki,b9,ao]at l1
   refine⟨⟨_,rfl⟩,k,rfl,_,_,rfl,rfl,by rw[ao];omega,hN _ ⟨.va (.dct k),?_⟩⟩
   rw[zW hki]
   rfl
  rintro _ ⟨s2,rfl⟩
  rw[ff]
  have vl:=B7 k11 ks.length
  rw[ff]at vl
  have snd:(aH names).length=names.length:=by
   have h1:=WordM.nodup_len (cY names) (m:=names) λx hx=>(cP _ x).mp hx
   have h2:=WordM.nodup_len (lH hr) (m:=aH names) λx hx=>(cP _ x).mpr hx
   omega
  refine⟨names,rfl,λe=>by rw[e]at z;simp at z,λx hx=>⟨(nn x hx).1,by have:=(nn x hx).2;omega⟩,by omega,?_⟩
  rw[gJ (by omega),ea,eb,<-lL enm,fN]at q
  refine⟨n,nm,tx,st,sp,iC ks,rfl,hw,rg.of (λv hv=>?_) ?_,nm',n50,by simp,q⟩
  ·obtain⟨k,h1,h2⟩:=qr1_.mp hv
   obtain⟨kt,h3,rfl⟩:=qf_.mp h2
   exact((hk k h1).2.2 kt h3).2
  ·exact bx (iw _ vl) hl2
 ·have z:¬ (8:Int)<((names.map sT).length:Nat):=by simpa using z
  rw[ao]at z
  refine⟨by simp,?_⟩
  refine gZ sT (l:=names) (λi ρ=>∃(s2 s5 s7:Sl),ρ=[.va (.seq false (ks.map Tv.dct)),.va (.seq false (names.map sT)),s2,.va (iT a),.va (iT b),s5,.own (((names.take i).map (cW (bG n) ks)).map cG),s7]) ⟨_,_,_,rfl⟩ ?_ ?_
  ·rintro i x _ N hx ⟨s2,s5,s7,rfl⟩ hN
   have xm:=g5 hx
   refine⟨by rw[ao];omega,?_⟩
   refine kG Tv.dct (λk=>bS k x) (λk hk R q=>⟨_,rfl,ie (λz=>?_) (λz=>?_)⟩) ?_
   ·cases e:bS k x with
    |none=>rw[e]at z;cases z
    |some U=>rw[e]at q;exact⟨U,e,q⟩
   ·cases e:bS k x with
    |none=>rw[e]at q;exact q
    |some U=>rw[e]at z;cases z
   have vle:=kl (λk=>bS k x) ks
   refine⟨⟨_,rfl⟩,_,rfl,n,nm,tx,st,sp,ks.filterMap (λk=>bS k x),rfl,hw,rg.of (λv hv=>?_) ?_,nm',n50,by simp,_,rfl,?_,?_⟩
   ·obtain⟨k,h1,h2⟩:=qc1_.mp hv
    exact((hk k h1).2.2 _ (uV h2)).2
   ·refine bx (iw _ vle) (bx ?_ hl2)
    exact iw _ (by omega)
   ·rw[ao,ao,jh]
    omega
   ·refine hN _ ⟨s2,.va (.seq false (ks.filterMap λk=>bS k x)),.va (sT x),?_⟩
    rw[g_,hx,ij,ij]
    have eb:(false != dc (.int ((ks.filterMap λk=>bS k x).length:Nat)) (.int ((ks.map Tv.dct).length:Nat)))=ks.all (λk=>decide (x∈k.map (·.1))):=by
     rw[h_,ao,Jx,Ao,qM1_]
     exact⟨λh k hk=>i_ (look_some.mp (h k hk)),λh k hk=>look_some.mpr (dw (h k hk))⟩
    rw[eb]
    rfl
  ·rintro _ ⟨s2,s5,s7,rfl⟩
   rw[ff]
   rw[gK (by omega),ea,eb,eQ,erc]at q
   exact⟨_,_,rfl,by simp,q⟩
end
section
variable{P:Program}{w:World}{K:W.Frag}{mg:Str->Option Value}{base:Heap}
variable{m:Nat}
theorem kM{b:Bool}{A:dh}{P:bc}{ρ:aT}{α:Type}{J:α->Prop}(e:α->aT)(h1:b=true->(∀x,J x->P.nx (e x))->A P ρ)(h2:b=false->∃x,J x/\e x=ρ)(rest:∀x,J x->P.nx (e x)):if b=true then A P ρ else sW P ρ:=by
 cases b with
 |true=>exact bW (h1 rfl rest)
 |false=>
  obtain⟨x,hx,rfl⟩:=h2 rfl
  exact aR (rest x hx)
def mZ{N:aT->Prop}{ρ ρ':aT}(h:N ρ')(e:ρ=ρ'):N ρ:=e▸h
def jy(k:Nat)(l:List Tv):List Tv:=l.filterMap λv=>bif dG v==k then some v else none
def sel_mem{k:Nat}{l:List Tv}{v:Tv}:v∈jy k l↔v∈l/\dG v=k:=by
 unfold jy
 rw[qc1_]
 constructor
 ·rintro⟨a,ha,e⟩
  cases c:dG a==k with
  |true=>rw[c]at e;cases e;exact⟨ha,by simpa using c⟩
  |false=>rw[c]at e;cases e
 ·rintro⟨h,e⟩
  exact⟨v,h,by rw[e];simp⟩
def wB(k:Nat)(l:List Tv):(jy k l).length<=l.length:=kl _ _
def rB(k:Nat):∀l:List Tv,(jy k l).Sublist l
 |[]=>List.Sublist.refl _
 |v::l=>by
  unfold jy
  rw[il]
  cases c:dG v==k with
  |true=>exact(rB k l).cons₂ v
  |false=>exact(rB k l).cons v
def gr(n:Nat)(vs:List Tv)(c:Nat)(f:List Pt):Prop:=f=(kN6.take c).filterMap (bI (bG (n-1)) vs)
def gr.nil(n:Nat)(vs:List Tv):gr n vs 0 []:=rfl
def GM{c:Nat}(h:c<6):kN6[c]?=some c:=by
 have:c=0\/c=1\/c=2\/c=3\/c=4\/c=5:=by omega
 rcases this with rfl|rfl|rfl|rfl|rfl|rfl<;>rfl
def gr.next{n c:Nat}{vs:List Tv}{f:List Pt}(h:gr n vs c f)(hc:c<6):(kN6.take (c+1)).filterMap (bI (bG (n-1)) vs)=f++(bI (bG (n-1)) vs c).toList:=by
 rw[g_,iu,GM hc,<-(show f=_ from h)]
 cases e:bI (bG (n-1)) vs c<;>simp[e]
def gr.skip{n c:Nat}{vs:List Tv}{f:List Pt}(h:gr n vs c f)(hc:c<6)(e:bI (bG (n-1)) vs c=none):gr n vs (c+1) f:=by
 show f=_
 rw[h.next hc,e];simp
def gr.add{n c:Nat}{vs:List Tv}{f:List Pt}{p:Pt}(h:gr n vs c f)(hc:c<6)(e:bI (bG (n-1)) vs c=some p):gr n vs (c+1) (f++[p]):=by
 show f++[p]=_
 rw[h.next hc,e];simp
def gr.len{n c:Nat}{vs:List Tv}{f:List Pt}(h:gr n vs c f):f.length<=6:=by
 rw[show f=_ from h]
 exact bx (kl _ _) (by rw[jh];exact qy _ _)
def gr.form{n:Nat}{vs:List Tv}{f:List Pt}(h:gr n vs 6 f)(hn:n=0->vs=[]):f=bG n vs:=by
 have h:f=kN6.filterMap (bI (bG (n-1)) vs):=h
 cases n with
 |zero=>
  rw[h,hn rfl,qe2_.mpr λk _=>vS _ k]
  rfl
 |succ n=>exact h
def oF{α:Type}{f:Tv->Option α}{c:α->Tv}{k:Nat}{vs:List Tv}(h:∀v∈vs,(bif dG v==k then some v else none)=(f v).map c):jy k vs=(vs.filterMap f).map c:=by
 unfold jy
 induction vs with
 |nil=>rfl
 |cons v vs ih=>
  rw[il,il,h v (.head _),ih λx hx=>h x (.tail _ hx)]
  cases f v<;>rfl
def has0{vs:List Tv}:(vs.filterMap λv=>bif dG v==0 then some (iT 1) else none)=[]↔dC vs=false:=by
 unfold dC
 rw[qe2_,List.any_eq_false]
 constructor
 ·intro h v hv z
  have:=h v hv
  rw[z]at this
  cases this
 ·intro h v hv
  have:=h v hv
  cases c:dG v==0 with
  |true=>exact absurd c this
  |false=>rfl
def neNil{L:List Tv}:(true != (true&&cN L []))=true↔L≠[]:=by
 cases L with
 |nil=>simp[cN]
 |cons a L=>simp[cN]
def mN{L:List Tv}(z:(true != (false==false&&cN L []))=false):L=[]:=by
 cases L with
 |nil=>rfl
 |cons a L=>simp[cN]at z
def rn:bB ["_law_values","_law_form","_law_truths","_law_numbers","_law_texts","_law_lists","_law_longs","_law_items","_law_row","_law_dicts_here"] ["_law_values"] (aN gR):=b8 (by decide +kernel)
def Eo(h:ak K mg "_law_due" gR)(B:Own mg)(G51_:ae P w K mg base 2 "_law_run" ["_law_numbers"] sG)(G50_:ae P w K mg base 2 "_law_words" ["_law_texts"] nU)(G53_:ae P w K mg base (3+2*m) "_law_due" ["_law_values"] (mL m))(G52_:ae P w K mg base (3+2*m+1) "_law_dicts" ["_law_dicts_here"] (Br m))   : ae P w K mg base (3+2*m+2) "_law_due" ["_law_values"] (mL (m+1)):=by
 have nd:=rn.nd
 refine h.pgood rn (fun|_,_,_,_,_,_,[_],_=>rfl) (λf cdv A outer s H E F hr=>
   (aI (gP 1 nd (cD aE))
   (aI (bD (fW hr (bE (oQ (sc:=aN gR) (XN:=["_law_values","_law_form","_law_truths","_law_numbers","_law_texts","_law_lists","_law_longs","_law_items","_law_row","_law_dicts_here"]) (N:=["_law_value_here"]) (fr:=[]) (bY (aC 0)) (λ_ _ _ _ _=>(hE (dF mJ (aC 0) hJ))) (λ_ _ _ _ _=>aG))) (bE (cD aE)))
    (aJ (eC (fP 1 (cA (aD aY aE)))))
    bC)
   (aI (aZ 2 nd (bE (M3 rfl rfl B.sorted rfl B.set_ (bE (oQ (sc:=aN gR) (XN:=["_law_values","_law_form","_law_truths","_law_numbers","_law_texts","_law_lists","_law_longs","_law_items","_law_row","_law_dicts_here"]) (N:=["_law_value_here"]) (fr:=[]) (bY (aC 0)) (λ_ _ _ _ _=>(hE (cK (cI "bool" kD rfl B.isinstance (aC 0) (cH (v:=.ty "bool") rfl B.bool_ boot_bool rfl))))) (λ_ _ _ _ _=>(aC 0)))))))
   (aI (bD (fW hr (aC 2) (bE (cD aE)))
    (aJ (eC (fP 1 (cA (aD aY (aD (fO fQ rfl B.tuple_ boot_tuple (aD (aC 2) aE)) aE))))))
    bC)
   (aI (fH (sc:=aN gR) (XN:=["_law_values","_law_form","_law_truths","_law_numbers","_law_texts","_law_lists","_law_longs","_law_items","_law_row","_law_dicts_here"]) (N:=["_law_value_here"]) (fr:=[]) 3 nd (bY (aC 0)) (λ_ _ _ _ _=>(hE (eO (mB (cK (cI "int" lG rfl B.isinstance (aC 0) (cH (v:=.ty "int") rfl B.int_ boot_int rfl))) (nQ (hX (cK (cI "bool" kD rfl B.isinstance (aC 0) (cH (v:=.ty "bool") rfl B.bool_ boot_bool rfl))))))))) (λ_ _ _ _ _=>(aC 0)))
   (aI (bD (fW hr (aC 3) (bE (cD aE)))
    (aJ (eC (fP 1 (bN cZ (cA (aD aY aE)) (aL G51_ hr (aD (aC 3) aE))))))
    bC)
   (aI (fH (sc:=aN gR) (XN:=["_law_values","_law_form","_law_truths","_law_numbers","_law_texts","_law_lists","_law_longs","_law_items","_law_row","_law_dicts_here"]) (N:=["_law_value_here"]) (fr:=[]) 4 nd (bY (aC 0)) (λ_ _ _ _ _=>(hE (cK (cI "str" lF rfl B.isinstance (aC 0) (cH (v:=.ty "str") rfl B.str_ boot_str rfl))))) (λ_ _ _ _ _=>(aC 0)))
   (aI (bD (fW hr (aC 4) (bE (cD aE)))
    (aJ (eC (fP 1 (cA (aD aY (aD (aL G50_ hr (aD (aC 4) aE)) aE))))))
    bC)
   (aI (fH (sc:=aN gR) (XN:=["_law_values","_law_form","_law_truths","_law_numbers","_law_texts","_law_lists","_law_longs","_law_items","_law_row","_law_dicts_here"]) (N:=["_law_value_here"]) (fr:=[]) 5 nd (bY (aC 0)) (λ_ _ _ _ _=>(hE (cK (cI "list" lD rfl B.isinstance (aC 0) (cH (v:=.ty "list") rfl B.list_ boot_list rfl))))) (λ_ _ _ _ _=>(aC 0)))
   (aI (bD (fW hr (aC 5) (bE (cD aE)))
    (aI (fH (sc:=aN gR) (XN:=["_law_values","_law_form","_law_truths","_law_numbers","_law_texts","_law_lists","_law_longs","_law_items","_law_row","_law_dicts_here"]) (N:=["_law_row"]) (fr:=[]) 6 nd (bY (aC 5)) (λ_ _ _ _ _=>hG) (λ_ _ _ _ _=>(bF cE rfl B.len de (aD (aC 0) aE))))
    (aI (gP 7 nd (cD aE))
    (aI (eF (m:=10) ic rfl (bY (aC 5)) (dI 8 (by decide) nd rfl (.inl rfl))
     (aJ (eC (uJ 7 (aC 8)))))
    (aJ (eC (fP 1 (cA (aD aY (aD (bF (hZ rfl) rfl B.min boot_min (aD (aC 6) aE)) (aD (bF (gH rfl) rfl B.max boot_max (aD (aC 6) aE)) (aD (aL G53_ hr (aD (aC 7) aE)) aE)))))))))))
    bC)
   (aI (fH (sc:=aN gR) (XN:=["_law_values","_law_form","_law_truths","_law_numbers","_law_texts","_law_lists","_law_longs","_law_items","_law_row","_law_dicts_here"]) (N:=["_law_value_here"]) (fr:=[]) 9 nd (bY (aC 0)) (λ_ _ _ _ _=>(hE (cK (cI "dict" lE rfl B.isinstance (aC 0) (cH (v:=.ty "dict") rfl B.dict_ boot_dict rfl))))) (λ_ _ _ _ _=>(aC 0)))
   (aI (bD (fW hr (aC 9) (bE (cD aE)))
    (aJ (eC (fP 1 (aL G52_ hr (aD (aC 9) aE)))))
    bC)
   (aJ (aO (fO fQ rfl B.tuple_ boot_tuple (aD (aC 1) aE))))))))))))))))) (λas R q=>?_)
 obtain⟨n,nm,tx,st,sp,vs,rfl,hw,hV,nm',n50,q⟩:=q
 have vl:=hV.len
 refine⟨rfl,by simp,?_⟩
 refine⟨vl,iP (λv=>bif dG v==0 then some (iT 1) else none) (λv hvm R q=>?_) ?_⟩
 ·rcases hV.six v hvm with rfl|⟨b,rfl⟩|⟨i,rfl⟩|⟨s,rfl⟩|⟨xs,rfl⟩|⟨k,rfl⟩<;>first|exact⟨_,rfl,bW q⟩|exact⟨_,rfl,aR q⟩
 have npos:=hV.pos
 have nes:∀{k:Nat},jy k vs≠[]->vs≠[]:=λ{k} h e=>h (by rw[e];rfl)
 refine⟨by simp,.inr (.inl rfl),_,rfl,kM (J:=gr n vs 1) (λf=>[.va (.seq false vs),.own (f.map aW),.no,.no,.no,.no,.no,.no,.no,.no]) (λz rest=>?_) (λz=>?_) (λf hf=>?_)⟩
 ·have z:=neNil.mp z
  have k0:dC vs=true:=by
   cases e:dC vs with
   |true=>rfl
   |false=>exact absurd (has0.mpr e) z
  exact⟨⟨_,rfl⟩,by simp,_,rfl,by simp,mZ (rest [.nothing] ((gr.nil _ _).add (by decide) (by show(if dC vs=true then _ else _)=_;rw[if_pos k0]))) (by simp only[List.map_cons,List.map_nil,aW];rfl)⟩
 ·have k0:=has0.mp (mN z)
  exact⟨[],(gr.nil n vs).skip (by decide) (by show(if dC vs=true then _ else _)=_;rw[k0,if_neg cb]),rfl⟩
 refine⟨vl,iP (λv=>bif dG v==1 then some v else none) (λv hvm R q=>?_) ?_⟩
 ·rcases hV.six v hvm with rfl|⟨b,rfl⟩|⟨i,rfl⟩|⟨s,rfl⟩|⟨xs,rfl⟩|⟨k,rfl⟩<;>first|exact⟨_,rfl,bW q⟩|exact⟨_,rfl,aR q⟩
 have ebs:jy 1 vs=(vs.filterMap i8).map bT:=oF λv h=>by
  rcases hV.six v h with rfl|⟨b,rfl⟩|⟨i,rfl⟩|⟨s,rfl⟩|⟨xs,rfl⟩|⟨k,rfl⟩<;>rfl
 generalize hbs:vs.filterMap i8=bs at ebs
 refine⟨bs,by rw[<-ebs];rfl,?_⟩
 generalize hu:(bw (cm bs) (ck bs))=us
 refine⟨by simp,.inr (.inl rfl),_,rfl,kM (J:=gr n vs 2) (λf=>[.va (.seq false vs),.own (f.map aW),.va (.seq false (us.map bT)),.no,.no,.no,.no,.no,.no,.no]) (λz rest=>?_) (λz=>?_) (λf hf=>?_)⟩
 ·have z:=neNil.mp z
  have une:us≠[]:=λe=>z (by rw[e];rfl)
  have bne:bs≠[]:=λe=>une (by rw[<-hu,e];rfl)
  have hl6:=hf.len
  exact⟨⟨_,rfl⟩,_,_,rfl,by simp,_,rfl,by rw[List.length_map];omega,mZ (rest (f++[.truths us]) (hf.add (by decide) (by show(if vs.filterMap i8=[] then _ else some (Pt.truths (bw (cm (vs.filterMap i8)) (ck (vs.filterMap i8)))))=_;rw[hbs,if_neg bne,hu]))) (by rw[ij];simp only[List.map_cons,List.map_nil,aW];rfl)⟩
 ·have z:us=[]:=qH2_.mp (mN z)
  have be:bs=[]:=by
   rw[z]at hu
   cases bs with
   |nil=>rfl
   |cons b bs=>cases b<;>simp[bw,cm,ck]at hu
  exact⟨f,hf.skip (by decide) (by show(if vs.filterMap i8=[] then _ else _)=_;rw[hbs,if_pos be]),rfl⟩
 clear ebs
 refine⟨vl,iP (λv=>bif dG v==2 then some v else none) (λv hvm R q=>?_) ?_⟩
 ·rcases hV.six v hvm with rfl|⟨b,rfl⟩|⟨i,rfl⟩|⟨s,rfl⟩|⟨xs,rfl⟩|⟨k,rfl⟩
  ·exact⟨_,rfl,aR (aR q)⟩
  ·exact⟨_,rfl,bW ⟨_,rfl,aR q⟩⟩
  ·exact⟨_,rfl,bW ⟨_,rfl,bW q⟩⟩
  ·exact⟨_,rfl,aR (aR q)⟩
  ·exact⟨_,rfl,aR (aR q)⟩
  ·exact⟨_,rfl,aR (aR q)⟩
 have ens:jy 2 vs=(vs.filterMap je).map iT:=oF λv h=>by
  rcases hV.six v h with rfl|⟨b,rfl⟩|⟨i,rfl⟩|⟨s,rfl⟩|⟨xs,rfl⟩|⟨k,rfl⟩<;>rfl
 generalize hns:vs.filterMap je=ns at ens
 have ens':(vs.filterMap λv=>bif dG v==2 then some v else none)=ns.map iT:=ens
 rw[ens']
 have nsl:ns.length<=vs.length:=by have:=wB 2 vs;rw[ens,ao]at this;exact this
 refine⟨by simp,.inr (.inl rfl),_,rfl,kM (J:=gr n vs 3) (λf=>[.va (.seq false vs),.own (f.map aW),.va (.seq false (us.map bT)),.va (.seq false (ns.map iT)),.no,.no,.no,.no,.no,.no]) (λz rest=>?_) (λz=>?_) (λf hf=>?_)⟩
 ·have z:=neNil.mp z
  have nne:ns≠[]:=λe=>z (by rw[e];rfl)
  have hl6:=hf.len
  exact⟨⟨_,rfl⟩,by simp,ns,rfl,nne,by simp,_,rfl,by rw[List.length_map];omega,mZ (rest (f++[.numbers (dA ns).1 (dA ns).2.1 (dA ns).2.2]) (hf.add (by decide) (by show(if vs.filterMap je=[] then _ else some (Pt.numbers (dA (vs.filterMap je)).1 (dA (vs.filterMap je)).2.1 (dA (vs.filterMap je)).2.2))=_;rw[hns,if_neg nne]))) (by rw[ij];simp only[List.map_cons,List.map_nil,aW];rfl)⟩
 ·have z:=mN z
  exact⟨f,hf.skip (by decide) (by show(if vs.filterMap je=[] then _ else _)=_;rw[hns,if_pos (qH2_.mp z)]),rfl⟩
 clear ens ens' nsl
 refine⟨vl,iP (λv=>bif dG v==3 then some v else none) (λv hvm R q=>?_) ?_⟩
 ·rcases hV.six v hvm with rfl|⟨b,rfl⟩|⟨i,rfl⟩|⟨s,rfl⟩|⟨xs,rfl⟩|⟨k,rfl⟩<;>first|exact⟨_,rfl,bW q⟩|exact⟨_,rfl,aR q⟩
 have ets:jy 3 vs=(vs.filterMap gm).map sT:=oF λv h=>by
  rcases hV.six v h with rfl|⟨b,rfl⟩|⟨i,rfl⟩|⟨s,rfl⟩|⟨xs,rfl⟩|⟨k,rfl⟩<;>rfl
 generalize hts:vs.filterMap gm=ts at ets
 have ets':(vs.filterMap λv=>bif dG v==3 then some v else none)=ts.map sT:=ets
 rw[ets']
 refine⟨by simp,.inr (.inl rfl),_,rfl,kM (J:=gr n vs 4) (λf=>[.va (.seq false vs),.own (f.map aW),.va (.seq false (us.map bT)),.va (.seq false (ns.map iT)),.va (.seq false (ts.map sT)),.no,.no,.no,.no,.no]) (λz rest=>?_) (λz=>?_) (λf hf=>?_)⟩
 ·have z:=neNil.mp z
  have tne:ts≠[]:=λe=>z (by rw[e];rfl)
  obtain⟨n',rfl⟩:=npos (nes (k:=3) λe=>z (by rw[<-ets,e]))
  have hl6:=hf.len
  have tm:∀s∈ts,s∈tx:=λs hs=>by
   have:sT s∈jy 3 vs:=by rw[ets];exact qf_.mpr ⟨s,hs,rfl⟩
   exact hV.txt _ (sel_mem.mp this).1
  have sl:(aH ts).length<=9:=by
   have:=WordM.nodup_len (cY ts) (m:=tx) λx hx=>tm x ((cP _ x).mp hx)
   rw[hw.t9]at this
   exact this
  exact⟨⟨_,rfl⟩,ts,rfl,tne,λs hs=>hw.ts s (tm s hs),by omega,by simp,_,rfl,by rw[List.length_map];omega,mZ (rest (f++[.texts (bP ts)]) (hf.add (by decide) (by show(if vs.filterMap gm=[] then _ else some (Pt.texts (bP (vs.filterMap gm))))=_;rw[hts,if_neg tne]))) (by rw[ij];simp only[List.map_cons,List.map_nil,aW];rfl)⟩
 ·have z:=mN z
  exact⟨f,hf.skip (by decide) (by show(if vs.filterMap gm=[] then _ else _)=_;rw[hts,if_pos (qH2_.mp z)]),rfl⟩
 clear ets ets'
 refine⟨vl,iP (λv=>bif dG v==4 then some v else none) (λv hvm R q=>?_) ?_⟩
 ·rcases hV.six v hvm with rfl|⟨b,rfl⟩|⟨i,rfl⟩|⟨s,rfl⟩|⟨xs,rfl⟩|⟨k,rfl⟩<;>first|exact⟨_,rfl,bW q⟩|exact⟨_,rfl,aR q⟩
 have exs:jy 4 vs=(vs.filterMap cz).map (Tv.seq false):=oF λv h=>by
  rcases hV.six v h with rfl|⟨b,rfl⟩|⟨i,rfl⟩|⟨s,rfl⟩|⟨xs,rfl⟩|⟨k,rfl⟩<;>rfl
 generalize hxs:vs.filterMap cz=xs at exs
 have exs':(vs.filterMap λv=>bif dG v==4 then some v else none)=xs.map (Tv.seq false):=exs
 rw[exs']
 have xsl:xs.length<=vs.length:=by have:=wB 4 vs;rw[exs,ao]at this;exact this
 refine⟨by simp,.inr (.inl rfl),_,rfl,kM (J:=λx:List Pt×Sl×Sl×Sl=>gr n vs 5 x.1) (λx=>[.va (.seq false vs),.own (x.1.map aW),.va (.seq false (us.map bT)),.va (.seq false (ns.map iT)),.va (.seq false (ts.map sT)),.va (.seq false (xs.map (Tv.seq false))),x.2.1,x.2.2.1,x.2.2.2,.no]) (λz rest=>?_) (λz=>?_) ?_⟩
 ·have z:=neNil.mp z
  obtain⟨n',rfl⟩:=npos (nes (k:=4) λe=>z (by rw[<-exs,e]))
  have xne:xs≠[]:=λe=>z (by rw[e];rfl)
  have hl6:=hf.len
  have xv:∀x∈xs,∀y∈x,VD nm tx n' y:=λx hx=>by
   have:Tv.seq false x∈jy 4 vs:=by rw[exs];exact qf_.mpr ⟨x,hx,rfl⟩
   exact hV.lst _ _ rfl (sel_mem.mp this).1
  have xpos:0<xs.length:=by
   cases xs with
   |nil=>exact absurd rfl z
   |cons a xs=>simp
  have sb:(xs.map (Tv.seq false)).Sublist vs:=by rw[<-exs];exact rB 4 vs
  have fb:∀i,(xs.take i).flatten.length<=100000:=λi=>(hV.fl _ (xs.take i) rfl (((qz i xs).map _).trans sb)).2
  have lens:(xs.map λx=>iT (x.length:Nat))=(xs.map λx=>((x.length:Nat):Int)).map iT:=by rw[f7];rfl
  refine⟨by rw[ao];omega,dS (Tv.seq false) (λx=>iT (x.length:Nat)) (λx hx R q=>q) ?_⟩
  refine⟨by simp,?_⟩
  refine gZ (Tv.seq false) (l:=xs) (λi ρ=>∃s8,ρ=[.va (.seq false vs),.own (f.map aW),.va (.seq false (us.map bT)),.va (.seq false (ns.map iT)),.va (.seq false (ts.map sT)),.va (.seq false (xs.map (Tv.seq false))),.va (.seq false (xs.map λx=>iT (x.length:Nat))),.own (xs.take i).flatten,s8,.no]) ⟨_,rfl⟩ ?_ ?_
  ·rintro i x _ N hx ⟨s8,rfl⟩ hN
   have et:(xs.take (i+1)).flatten=(xs.take i).flatten++x:=by
    obtain⟨hi,rfl⟩:=qy_.mp hx
    rw[m7 hi,om]
    simp
   have l1:=fb (i+1)
   rw[et,b9]at l1
   refine⟨⟨_,rfl⟩,_,_,rfl,rfl,by omega,hN _ ⟨.va (.seq false x),?_⟩⟩
   rw[et]
   rfl
  rintro _ ⟨s8,rfl⟩
  rw[ff]
  refine⟨⟨_,rfl⟩,.inr (.inl ⟨xs.map λx=>((x.length:Nat):Int),by rw[lens],by rw[ao];exact xpos,λa a1 a2=>.inr (.inl ⟨xs.map λx=>((x.length:Nat):Int),by rw[lens],by rw[ao];exact xpos,λb b1 b2=>?_⟩)⟩)⟩
  have ea:bM (dJ xs)=a:=nV a1 a2
  have eb:bR (dJ xs)=b:=nW b1 b2
  refine⟨n',nm,tx,st,sp,xs.flatten,rfl,hw,rg.of (λv hv=>?_) (hV.fl _ xs rfl sb).1,by omega,by omega,by simp,_,rfl,by rw[List.length_map];omega,?_⟩
  ·obtain⟨x,h1,h2⟩:=qs1_.mp hv
   exact xv x h1 v h2
  ·exact mZ (rest (f++[.lists a b (bG n' xs.flatten)],.va (.seq false (xs.map λx=>iT (x.length:Nat))),.va (.seq false xs.flatten),s8) (hf.add (by decide) (by show(if vs.filterMap cz=[] then _ else some (Pt.lists (bM (dJ (vs.filterMap cz))) (bR (dJ (vs.filterMap cz))) (bG n' (vs.filterMap cz).flatten)))=_;rw[hxs,if_neg xne,ea,eb]))) (by rw[ij];simp only[List.map_cons,List.map_nil,aW];rfl)
 ·have z:=mN z
  exact⟨(f,.no,.no,.no),hf.skip (by decide) (by show(if vs.filterMap cz=[] then _ else _)=_;rw[hxs,if_pos (qH2_.mp z)]),rfl⟩
 rintro⟨f,s6,s7,s8⟩ hf
 have hf:gr n vs 5 f:=hf
 clear exs exs' xsl
 refine⟨vl,iP (λv=>bif dG v==5 then some v else none) (λv hvm R q=>?_) ?_⟩
 ·rcases hV.six v hvm with rfl|⟨b,rfl⟩|⟨i,rfl⟩|⟨s,rfl⟩|⟨xs,rfl⟩|⟨k,rfl⟩<;>first|exact⟨_,rfl,bW q⟩|exact⟨_,rfl,aR q⟩
 have eks:jy 5 vs=(vs.filterMap e7).map Tv.dct:=oF λv h=>by
  rcases hV.six v h with rfl|⟨b,rfl⟩|⟨i,rfl⟩|⟨s,rfl⟩|⟨xs,rfl⟩|⟨k,rfl⟩<;>rfl
 generalize hks:vs.filterMap e7=ks at eks
 have eks':(vs.filterMap λv=>bif dG v==5 then some v else none)=ks.map Tv.dct:=eks
 rw[eks']
 have ksl:ks.length<=vs.length:=by have:=wB 5 vs;rw[eks,ao]at this;exact this
 refine⟨by simp,.inr (.inl rfl),_,rfl,kM (J:=gr n vs 6) (λf=>[.va (.seq false vs),.own (f.map aW),.va (.seq false (us.map bT)),.va (.seq false (ns.map iT)),.va (.seq false (ts.map sT)),.va (.seq false (xs.map (Tv.seq false))),s6,s7,s8,.va (.seq false (ks.map Tv.dct))]) (λz rest=>?_) (λz=>?_) (λf hf=>?_)⟩
 ·have z:=neNil.mp z
  obtain⟨n',rfl⟩:=npos (nes (k:=5) λe=>z (by rw[<-eks,e]))
  have kne:ks≠[]:=λe=>z (by rw[e];rfl)
  have hl6:=hf.len
  refine⟨⟨_,rfl⟩,n',nm,tx,st,sp,ks,rfl,hw,λk hk=>?_,kne,hV.dl ks (by rw[<-eks];exact rB 5 vs),by omega,by omega,_,rfl,by rw[ao];exact mw hl6 (by decide),mZ (rest (f++[di (bG n') ks]) (hf.add (by decide) (by show(if vs.filterMap e7=[] then _ else some (di (bG n') (vs.filterMap e7)))=_;rw[hks,if_neg kne]))) (by rw[ij];rfl)⟩
  have:Tv.dct k∈jy 5 vs:=by rw[eks];exact qf_.mpr ⟨k,hk,rfl⟩
  exact hV.dct _ (sel_mem.mp this).1
 ·have z:=mN z
  exact⟨f,hf.skip (by decide) (by show(if vs.filterMap e7=[] then _ else _)=_;rw[hks,if_pos (qH2_.mp z)]),rfl⟩
 have:=hf.form λe=>by
  apply Classical.byContradiction
  intro ne
  obtain⟨n',e'⟩:=npos ne
  omega
 rw[<-this]at q
 exact⟨_,_,rfl,q⟩
def xD(hd:ak K mg "_law_due" gR)(hk:ak K mg "_law_dicts" kX)(B:Own mg)(G1:ae P w K mg base 2 "_law_run" ["_law_numbers"] sG)(G2:ae P w K mg base 2 "_law_words" ["_law_texts"] nU):∀m:Nat,ae P w K mg base (3+2*m) "_law_due" ["_law_values"] (mL m)
 |0=>hd.pfalse rn (fun|_,_,_,_,_,_,[_],_=>rfl) λas R ⟨_,_,_,_,_,_,_,_,_,h,_⟩=>by omega
 |m+1=>Eo hd B G1 G2 (xD hd hk B G1 G2 m) (En hk B (xD hd hk B G1 G2 m) G2)
end
end My
namespace L2
open PySem PySem.Spec PyProof.Rows WordM
def c_:Nat->Tv->Prop
 |0,_=>False
 |_+1,.leaf .non=>True
 |_+1,.leaf (.bl _)=>True
 |_+1,.leaf (.int _)=>True
 |_+1,.leaf (.str _)=>True
 |n+1,.seq _ xs=>xs.length<=100000/\∀x∈xs,c_ n x
 |_+1,_=>False
def c_.le:∀{n m:Nat}{T:Tv},n<=m->c_ n T->c_ m T
 |0,_,_,_,h=>False.elim h
 |_+1,0,_,l,_=>absurd l (by omega)
 |n+1,m+1,T,l,h=>by
  cases T with
  |leaf v=>cases v<;>exact h
  |seq t xs=>exact⟨h.1,λx hx=>c_.le (by omega) (h.2 x hx)⟩
  |dct k=>exact h
def CV(n:Nat){t:Bool}{ss:List Str}(l:ss.length<=100000):c_ (n+2) (.seq t (ss.map sT)):=⟨by rw[ao];exact l,λx hx=>by
 obtain⟨s,_,rfl⟩:=qf_.mp hx
 trivial⟩
end L2
namespace My
open PySem L2 PyProof.Rows WordM
section
variable{P:Program}{w:World}{K:W.Frag}{mg:Str->Option Value}{base:Heap}
variable{n:Nat}
def VT(nm tx:List Str)(n:Nat)(v:Tv):Prop:=VD nm tx n v\/∃n' xs,n=n'+1/\v=.seq false xs/\xs.length<=300/\∀x∈xs,VD nm tx n' x
def qW(n:Nat):bu:=λas R=>∃nm tx st sp,fR nm tx st sp/\∃v:Tv,as=[.va v]/\VT nm tx n v/\R (bX (bG n [v]))
def vG(n:Nat):bu:=λas R=>∃nm tx st sp,fR nm tx st sp/\∃v:Tv,as=[.va v]/\VT nm tx n v/\∀p,bG n [v]=[p]->R (aW p)
def oI(n:Nat):bu:=λas R=>∃V:Tv->Prop,WD n V/\∃vs:List Tv,as=[.va (.seq false vs)]/\vs.length<=1000/\(∀v∈vs,V v)/\R (bX (bG n vs))
def A4:∀vs:List Tv,(vs.map λv=>[v]).flatten=vs
 |[]=>rfl
 |v::vs=>by rw[e9,gg,A4 vs];rfl
def u_:bB ["samples"] ["samples"] (aN pC):=b8 (by decide +kernel)
def zg(h:ak K mg "told" pC)(B:Own mg)(G31_:ae P w K mg base (9*n+10) "all_joined" ["forms"] (yM (bG n) (WD n)))(G21_:ae P w K mg base (9*n+10) "form_of" ["value"] (qW n))   : ae P w K mg base (9*n+11) "told" ["samples"] (oI n):=by
 have nd:=u_.nd
 refine h.pgood u_ (fun|_,_,_,_,_,_,[_],_=>rfl) (λf cdv A outer s H E F hr=>
   (aJ (aO (aL G31_ hr (aD (bE (eW (sc:=aN pC) (XN:=["samples"]) (N:=["sample"]) (fr:=[]) (bY (aC 0)) (λ_ _ _ _ _=>(aL G21_ hr (aD (aC 0) aE))))) aE))))) (λas R q=>?_)
 obtain⟨V,⟨nm,tx,st,sp,hw,rfl⟩,vs,rfl,lv,hv,q⟩:=q
 have hV:WD n (VD nm tx n):=⟨nm,tx,st,sp,hw,rfl⟩
 refine⟨rfl,by omega,uZ (λv=>bX (bG n [v])) (λv hvm R q=>⟨nm,tx,st,sp,hw,v,rfl,.inl (hv v hvm),q⟩) ?_⟩
 refine⟨VD nm tx n,hV,vs.map λv=>[v],by rw[f7];rfl,De n,λA hA v hvA=>?_,?_⟩
 ·obtain⟨x,hx,rfl⟩:=qf_.mp hA
  rw[qd1_.mp hvA]
  exact hv x hx
 ·rw[A4]
  exact q
def x_(n:Nat):bu:=λas R=>∃V:Tv->Prop,WD n V/\∃xs:List Tv,as=[.va (.seq false xs)]/\xs.length<=1000/\(∀v∈xs,V v)/\R (aW (.lists (xs.length:Nat) (xs.length:Nat) (bG n xs)))
def v5:bB ["value"] ["value"] (aN tI):=b8 (by decide +kernel)
def DG(h:ak K mg "list_part" tI)(B:Own mg)(G32_:ae P w K mg base (9*n+11) "told" ["samples"] (oI n))   : ae P w K mg base (9*n+12) "list_part" ["value"] (x_ n):=by
 have nd:=v5.nd
 refine h.pgood v5 (fun|_,_,_,_,_,_,[_],_=>rfl) (λf cdv A outer s H E F hr=>
   (aJ (aO (cA (aD aY (aD (bF cE rfl B.len de (aD (aC 0) aE)) (aD (bF cE rfl B.len de (aD (aC 0) aE)) (aD (aL G32_ hr (aD (aC 0) aE)) aE)))))))) (λas R q=>?_)
 obtain⟨V,hV,xs,rfl,lx,hv,q⟩:=q
 rw[iJ]at q
 exact⟨rfl,V,hV,xs,rfl,lx,hv,by simp,q⟩
def x6(n:Nat):bu:=λas R=>∃V:Tv->Prop,WD n V/\∃k:List (Str×Tv),as=[.va (.dct k)]/\(k.map (·.1)).Nodup/\k.length<=20/\(∀kt∈k,fM kt.1/\V kt.2)/\R (aW (di (bG n) [k]))
def vz:bB ["value","size","names"] ["value"] (aN mW):=b8 (by decide +kernel)
def DH(h:ak K mg "dict_part" mW)(B:Own mg)(G21_:ae P w K mg base (9*n+10) "form_of" ["value"] (qW n))(G32_:ae P w K mg base (9*n+11) "told" ["samples"] (oI n))(G10_:ae P w K mg base 4 "words_of" ["texts"] kF)(GMOST_FIELDS:eI K mg "MOST_FIELDS" (iT 8))  : ae P w K mg base (9*n+12) "dict_part" ["value"] (x6 n):=by
 have nd:=vz.nd
 refine h.pgood vz (fun|_,_,_,_,_,_,[_],_=>rfl) (λf cdv A outer s H E F hr=>
   (aI (aZ 1 nd (bF cE rfl B.len de (aD (aC 0) aE)))
   (aI (aZ 2 nd (bE (vA (uM rfl) rfl B.sorted boot_sorted (aD (aC 0) aE))))
   (aI (bD (dF xJ (aC 1) (oR GMOST_FIELDS rfl))
    (aJ (aO (cA (aD aY (aD (aC 1) (aD (aC 1) (aD (fO fQ rfl B.tuple_ boot_tuple (aD (bE (eW (sc:=aN mW) (XN:=["value","size","names"]) (N:=["name","value"]) (fr:=[0]) (bY (aC 2)) (λ_ _ _ _ _=>(cA (aD (aC 0) (aD gO (aD (aL G21_ hr (aD (aU hr (aC 1) (aC 0)) aE)) aE))))))) aE)) aE)))))))
    bC)
   (aJ (aO (cA (aD aY (aD (aC 1) (aD (aC 1) (aD (aL G10_ hr (aD (aC 2) aE)) (aD (aL G32_ hr (aD (bE (eW (sc:=aN mW) (XN:=["value","size","names"]) (N:=["name","value"]) (fr:=[0]) (bY (aC 2)) (λ_ _ _ _ _=>(aU hr (aC 1) (aC 0))))) aE)) aE)))))))))))) (λas R q=>?_)
 obtain⟨V,⟨nm,tx,st,sp,hw,rfl⟩,k,rfl,nd,lk,hk,q⟩:=q
 have hV:WD n (VD nm tx n):=⟨nm,tx,st,sp,hw,rfl⟩
 refine⟨rfl,?_⟩
 have enm:aQ [k]=k.map (·.1):=by unfold aQ;rw[List.flatMap_cons,List.flatMap_nil,jb]
 have sn:(aH (aQ [k])).Perm (k.map (·.1)):=(j7 (cY _) nd).mpr λx=>by rw[cP,enm]
 have sl:(aH (aQ [k])).length=k.length:=by rw[sn.length_eq,ao]
 have es:aX (k.map (·.1))=aX (aH (aQ [k])):=nF (B2 nd) (gB _) λx=>by rw[(eR _).mem_iff,sort_set_mem,enm]
 have eL:bM (bJ [k])=(k.length:Nat)/\bR (bJ [k])=(k.length:Nat):=⟨rfl,rfl⟩
 have sk:(aX (aH (aQ [k]))).length=k.length:=by rw[(eR _).length_eq,sl]
 have lk':∀x∈aX (aH (aQ [k])),∃v,bS k x=some v/\(x,v)∈k:=λx hx=>by
  rw[sort_set_mem,enm]at hx
  obtain⟨kt,hkt,rfl⟩:=qf_.mp hx
  exact⟨kt.2,rH nd hkt,hkt⟩
 refine .inr (.inr ⟨k,rfl,?_⟩)
 rw[es]
 show bc.nx _ _
 refine g7 (ρ':=[.va (.dct k),.va (iT (k.length:Nat)),.va (.seq false ((aX (aH (aQ [k]))).map sT))]) rfl ?_
 refine⟨_,rfl,jZ (λz=>?_) (λz=>?_)⟩
 ·have z:((k.length:Nat):Int)<=8:=z
  rw[gK (by omega),eQ]at q
  refine⟨by rw[ao];omega,dS sT (λx=>cG (cW (bG n) [k] x)) (λx hx R q=>?_) ⟨_,_,rfl,by simp,?_⟩⟩
  ·obtain⟨v,e,hm⟩:=lk' x hx
   have ea:i7 x [k]=[v]:=by unfold i7;rw[il,e];rfl
   have eall:[k].all (λk=>decide (x∈k.map (·.1)))=true:=by
    rw[List.all_cons,List.all_nil,Bool.and_true]
    exact i_ (qf_.mpr ⟨_,hm,rfl⟩)
   unfold cW at q
   rw[ea,eall]at q
   exact⟨_,e,nm,tx,st,sp,hw,v,rfl,.inl (hk _ hm).2,by simp,q⟩
  ·unfold bQ at q
   rw[f7]at q
   exact q
 ·have z:¬ ((k.length:Nat):Int)<=8:=z
  have ne:aQ [k]≠[]:=λe=>by rw[e]at sl;have:k.length=0:=sl.symm;omega
  rw[gJ (by omega),fN,<-lL (ts:=aX (aH (aQ [k]))) (us:=aQ [k]) λx=>sort_set_mem]at q
  refine⟨_,rfl,nR ne,by omega,?_,λt ht=>?_,?_⟩
  ·have:=fG (A:=aX (aH (aQ [k]))) (C:=aQ [k]) λx hx=>sort_set_mem.mp hx
   omega
  ·obtain⟨v,e,hm⟩:=lk' t ht
   exact(hk _ hm).1
  have ev:bG n ((aX (aH (aQ [k]))).map λx=>(bS k x).getD nT)=bG n (dM [k]):=nH n _ _ λv=>by
   rw[qf_,vls_mem]
   constructor
   ·rintro⟨x,hx,rfl⟩
    obtain⟨v,e,hm⟩:=lk' x hx
    rw[e]
    exact⟨k,.head _,x,hm⟩
   ·rintro⟨k',hk',x,hm⟩
    rw[qd1_]at hk'
    subst hk'
    refine⟨x,sort_set_mem.mpr (by rw[enm];exact qf_.mpr ⟨_,hm,rfl⟩),?_⟩
    rw[rH nd hm]
    rfl
  rw[<-ev]at q
  refine⟨by rw[ao];omega,dS sT (λx=>(bS k x).getD nT) (λx hx R q=>?_) ⟨VD nm tx n,hV,_,rfl,by rw[ao];omega,λv hv=>?_,by simp,q⟩⟩
  ·obtain⟨v,e,hm⟩:=lk' x hx
   rw[e]at q
   exact⟨v,e,q⟩
  ·obtain⟨x,hx,rfl⟩:=qf_.mp hv
   obtain⟨v,e,hm⟩:=lk' x hx
   rw[e]
   exact(hk _ hm).2
def r9:bB ["value","kind"] ["value"] (aN tH):=b8 (by decide +kernel)
def DI(h:ak K mg "part_of" tH)(B:Own mg)(G0_:ae P w K mg base 1 "kind_of" ["value"] rT)(G10_:ae P w K mg base 4 "words_of" ["texts"] kF)(G18_:ae P w K mg base (9*n+12) "list_part" ["value"] (x_ n))(G19_:ae P w K mg base (9*n+12) "dict_part" ["value"] (x6 n))   : ae P w K mg base (9*n+13) "part_of" ["value"] (vG (n+1)):=by
 have nd:=r9.nd
 refine h.pgood r9 (fun|_,_,_,_,_,_,[_],_=>rfl) (λf cdv A outer s H E F hr=>
   (aI (aZ 1 nd (aL G0_ hr (aD (aC 0) aE)))
   (aI (bD (cF hr (aC 1) aY)
    (aJ (aO (cA (aD aY (aD (cA (aD (aC 0) aE)) aE)))))
    bC)
   (aI (bD (cF hr (aC 1) aY)
    (aJ (aO (cA (aD aY (aD (aC 0) (aD (aC 0) (aD aG aE)))))))
    bC)
   (aI (bD (cF hr (aC 1) aY)
    (aJ (aO (cA (aD aY (aD (aL G10_ hr (aD (bE (cD (aD (aC 0) aE))) aE)) aE)))))
    bC)
   (aI (bD (cF hr (aC 1) aY)
    (aJ (aO (aL G18_ hr (aD (aC 0) aE))))
    bC)
   (aI (bD (cF hr (aC 1) aY)
    (aJ (aO (aL G19_ hr (aD (aC 0) aE))))
    bC)
   (aJ (aO (cA (aD aY aE))))))))))) (λas R q=>?_)
 obtain⟨nm,tx,st,sp,hw,v,rfl,hv,q⟩:=q
 have W:WD n (VD nm tx n):=⟨nm,tx,st,sp,hw,rfl⟩
 have li:∀xs:List Tv,v=.seq false xs->xs.length<=300/\∀x∈xs,VD nm tx n x:=λxs e=>by
  subst e
  rcases hv with h|⟨n',ys,e,e2,h,h2⟩
  ·exact⟨bx h.1 (by decide),h.2⟩
  ·cases e;cases e2;exact⟨h,h2⟩
 have sx:v=nT\/(∃b,v=bT b)\/(∃i,v=iT i)\/(∃s,v=sT s)\/(∃xs,v=.seq false xs)\/∃k,v=.dct k:=by
  rcases hv with h|⟨n',ys,e,e2,h,h2⟩
  ·exact VD.six h
  ·exact .inr (.inr (.inr (.inr (.inl ⟨ys,e2⟩))))
 have nl:(∀xs,v≠.seq false xs)->VD nm tx (n+1) v:=λz=>by
  rcases hv with h|⟨n',ys,e,e2,h,h2⟩
  ·exact h
  ·exact absurd e2 (z ys)
 rcases sx with rfl|⟨b,rfl⟩|⟨i,rfl⟩|⟨s,rfl⟩|⟨xs,rfl⟩|⟨k,rfl⟩
 ·have q:=q .nothing rfl
  rw[tX]at q
  exact⟨rfl,nT,rfl,rfl,_,rfl,sN (by decide +kernel) ⟨_,rfl,sN (by decide +kernel) ⟨_,rfl,sN (by decide +kernel) ⟨_,rfl,sN (by decide +kernel) ⟨_,rfl,sN (by decide +kernel) ⟨by simp,q⟩⟩⟩⟩⟩⟩
 ·have q:=q (.truths [b]) (by cases b<;>rfl)
  rw[pY]at q
  exact⟨rfl,bT b,rfl,rfl,_,rfl,sY ⟨by simp,by simp,q⟩⟩
 ·have q:=q (.numbers i i 0) (by
   show [Pt.numbers i i (GcdM.g (i-i) 0)]=_
   rw[ko]
   rfl)
  rw[qL]at q
  exact⟨rfl,iT i,rfl,rfl,_,rfl,sN (show cS 2≠_ by decide +kernel) ⟨_,rfl,sY ⟨by simp,q⟩⟩⟩
 ·have q:=q (.texts (bP [s])) rfl
  rw[qE]at q
  have hs:=hw.ts s (nl λxs e=>nomatch e)
  exact⟨rfl,sT s,rfl,rfl,_,rfl,sN (show cS 3≠_ by decide +kernel) ⟨_,rfl,sN (show cS 3≠_ by decide +kernel) ⟨_,rfl,sY ⟨by simp,[s],rfl,by simp,by simp,Nat.le_trans (rA _) (by simp),λt ht=>by rw[List.mem_singleton.mp ht];exact⟨hs.1,by have:=hs.2;omega⟩,by simp,q⟩⟩⟩⟩
 ·have q:=q (.lists (xs.length:Nat) (xs.length:Nat) (bG n xs)) (by
   show [Pt.lists (xs.length:Nat) (xs.length:Nat) (bG n (xs++[]))]=_
   rw[jb])
  exact⟨rfl,.seq false xs,rfl,trivial,_,rfl,sN (show cS 4≠_ by decide +kernel) ⟨_,rfl,sN (show cS 4≠_ by decide +kernel) ⟨_,rfl,sN (show cS 4≠_ by decide +kernel) ⟨_,rfl,sY ⟨VD nm tx n,W,xs,rfl,bx (li xs rfl).1 (by decide),(li xs rfl).2,q⟩⟩⟩⟩⟩
 ·have q:=q (di (bG n) [k]) rfl
  have hv:VD nm tx (n+1) (.dct k):=nl λxs e=>nomatch e
  exact⟨rfl,.dct k,rfl,trivial,_,rfl,sN (show cS 5≠_ by decide +kernel) ⟨_,rfl,sN (show cS 5≠_ by decide +kernel) ⟨_,rfl,sN (show cS 5≠_ by decide +kernel) ⟨_,rfl,sN (show cS 5≠_ by decide +kernel) ⟨_,rfl,sY ⟨VD nm tx n,W,k,rfl,hv.1,bx hv.2.1 (by decide),λkt hkt=>⟨⟨(hw.ns kt.1 (hv.2.2 kt hkt).1).1,by have:=(hw.ns kt.1 (hv.2.2 kt hkt).1).2;omega⟩,(hv.2.2 kt hkt).2⟩,q⟩⟩⟩⟩⟩⟩
def vt:bB ["value"] ["value"] (aN tG):=b8 (by decide +kernel)
def ze(h:ak K mg "form_of" tG)(B:Own mg)(G20_:ae P w K mg base (9*n+9) "part_of" ["value"] (vG n))   : ae P w K mg base (9*n+10) "form_of" ["value"] (qW n):=by
 have nd:=vt.nd
 refine h.pgood vt (fun|_,_,_,_,_,_,[_],_=>rfl) (λf cdv A outer s H E F hr=>
   (aJ (aO (cA (aD (aL G20_ hr (aD (aC 0) aE)) aE))))) (λas R q=>?_)
 obtain⟨nm,tx,st,sp,hw,v,rfl,hv,q⟩:=q
 refine⟨rfl,nm,tx,st,sp,hw,v,rfl,hv,λp e=>⟨by simp,?_⟩⟩
 rw[e]at q
 exact q
def Ae(ht:ak K mg "told" pC)(hf:ak K mg "form_of" tG)(hp:ak K mg "part_of" tH)(hl:ak K mg "list_part" tI)(hd:ak K mg "dict_part" mW)(ha:ak K mg "all_joined" mU)(B:Own mg)
  (G0_:ae P w K mg base 1 "kind_of" ["value"] rT) (G10_:ae P w K mg base 4 "words_of" ["texts"] kF) (GMOST_FIELDS:eI K mg "MOST_FIELDS" (iT 8)) (Gj:∀n:Nat,ae P w K mg base (9*n+9) "joined" ["one","other"] (ph (bG n) (WD n))):∀n:Nat,ae P w K mg base (9*n+10) "form_of" ["value"] (qW n)/\ae P w K mg base (9*n+11) "told" ["samples"] (oI n)
 |0=>by
  have p0:ae P w K mg base 9 "part_of" ["value"] (vG 0):=hp.pfalse r9 (fun|_,_,_,_,_,_,[_],_=>rfl) λas R ⟨nm,tx,st,sp,hw,v,_,hv,_⟩=>hv.elim id λ⟨n',_,e,_⟩=>by omega
  have f0:=ze (n:=0) hf B p0
  exact⟨f0,zg (n:=0) ht B (yP (lv:=9) ha B (Gj 0)) f0⟩
 |n+1=>by
  obtain⟨f,t⟩:=Ae ht hf hp hl hd ha B G0_ G10_ GMOST_FIELDS Gj n
  have f1:=ze (n:=n+1) hf B ((DI (n:=n) hp B G0_ G10_ (DG hl B t) (DH hd B f t G10_ GMOST_FIELDS)).mono (by omega))
  exact⟨f1,zg (n:=n+1) ht B (yP (lv:=9*(n+1)+9) ha B (Gj (n+1))) f1⟩
end
section
variable{P:Program}{w:World}{K:W.Frag}{mg:Str->Option Value}{base:Heap}
variable{n:Nat}
def b7:Nat->Tv->Prop
 |0,_=>False
 |_+1,.leaf .non=>True
 |_+1,.leaf (.bl _)=>True
 |_+1,.leaf (.int _)=>True
 |_+1,.leaf (.str _)=>True
 |n+1,.seq _ xs=>xs.length<=100000/\∀x∈xs,b7 n x
 |n+1,.dct kts=>(kts.map (·.1)).Nodup/\kts.length<64/\∀kt∈kts,b7 n kt.2
 |_+1,_=>False
def b7.of:∀{n:Nat}{T:Tv},c_ n T->b7 n T
 |0,_,h=>h
 |n+1,.leaf v,h=>by cases v<;>first|trivial|exact h
 |n+1,.seq t xs,h=>⟨h.1,λx hx=>b7.of (h.2 x hx)⟩
 |n+1,.dct k,h=>False.elim h
def b7.vd{nm tx:List Str}:∀{n:Nat}{T:Tv},VD nm tx n T->b7 n T
 |0,_,h=>h
 |n+1,.leaf v,h=>by cases v<;>first|trivial|exact h
 |n+1,.seq false xs,h=>⟨bx h.1 (by decide),λx hx=>b7.vd (h.2 x hx)⟩
 |n+1,.seq true xs,h=>False.elim h
 |n+1,.dct k,h=>⟨h.1,mw h.2.1 (by decide),λkt hk=>b7.vd (h.2.2 kt hk).2⟩
def b7.le:∀{n m:Nat}{T:Tv},n<=m->b7 n T->b7 m T
 |0,_,_,_,h=>False.elim h
 |_+1,0,_,l,_=>absurd l (by omega)
 |n+1,m+1,.leaf v,_,h=>by cases v<;>first|trivial|exact h
 |n+1,m+1,.seq t xs,l,h=>⟨h.1,λx hx=>b7.le (by omega) (h.2 x hx)⟩
 |n+1,m+1,.dct k,l,h=>⟨h.1,h.2.1,λkt hk=>b7.le (by omega) (h.2.2 kt hk)⟩
def Kh(ss:List Str):cN (ss.map sT) (ss.map sT)=true:=by
 induction ss with
 |nil=>simp[cN]
 |cons s ss ih=>rw[e9,cN,ih,wN];simp
def oJ(n:Nat):bu:=λas R=>∃T:Tv,as=[.va T,.va T]/\b7 n T/\R (bT true)
def vK{α:Type}(xs:List α):((xs.map λ_=>bT true).any λU=>L2.eqT U (bT false))=false:=by
 rw[Bool.eq_false_iff]
 intro z
 obtain⟨U,hU,e⟩:=qL_.mp z
 obtain⟨_,_,rfl⟩:=qf_.mp hU
 simp[L2.eqT,dc]at e
def wL{α:Type}(xs:List α):pP (bT false) (xs.map λ_=>bT true):=⟨trivial,λU hU=>by
 obtain⟨_,_,rfl⟩:=qf_.mp hU
 trivial⟩
def C6(xs:List Tv):List.zipWith (λT U=>Tv.seq true [T,U]) xs xs=xs.map λx=>.seq true [x,x]:=by
 induction xs with
 |nil=>rfl
 |cons x xs ih=>rw[List.zipWith_cons_cons,ih];rfl
def Kf{s:Str}:(false != dc (.str s) (.str s))=true:=by simp[dc]
def KJ{i:Int}:(false != dc (.int i) (.int i))=true:=by simp[dc]
def KI{b:Bool}:(false != dc (.bl b) (.bl b))=true:=by simp[dc]
def rp:bB ["_law_one","_law_other"] ["_law_one","_law_other"] (aN mT):=b8 (by decide +kernel)
def Ei(h:ak K mg "_law_same" mT)(B:Own mg)(G47_:ae P w K mg base (1+n) "_law_same" ["_law_one","_law_other"] (oJ n))   : ae P w K mg base (1+n+1) "_law_same" ["_law_one","_law_other"] (oJ (n+1)):=by
 have nd:=rp.nd
 refine h.pgood rp (fun|_,_,_,_,_,_,[_,_],_=>rfl) (λf cdv A outer s H E F hr=>
   (aI (bD (eO (gL (cK (cI "bool" kD rfl B.isinstance (aC 0) (cH (v:=.ty "bool") rfl B.bool_ boot_bool rfl))) (hC (cK (cI "bool" kD rfl B.isinstance (aC 1) (cH (v:=.ty "bool") rfl B.bool_ boot_bool rfl))))))
    (aJ (aO (iY (cI "bool" kD rfl B.isinstance (aC 0) (cH (v:=.ty "bool") rfl B.bool_ boot_bool rfl)) (iY (cI "bool" kD rfl B.isinstance (aC 1) (cH (v:=.ty "bool") rfl B.bool_ boot_bool rfl)) (mC (gM (kU hr.units).op (aC 0) (aC 1)))))))
    bC)
   (aI (bD (eO (gL (cK (cI "int" lG rfl B.isinstance (aC 0) (cH (v:=.ty "int") rfl B.int_ boot_int rfl))) (hC (cK (cI "int" lG rfl B.isinstance (aC 1) (cH (v:=.ty "int") rfl B.int_ boot_int rfl))))))
    (aJ (aO (iY (cI "int" lG rfl B.isinstance (aC 0) (cH (v:=.ty "int") rfl B.int_ boot_int rfl)) (iY (cI "int" lG rfl B.isinstance (aC 1) (cH (v:=.ty "int") rfl B.int_ boot_int rfl)) (mC (gM (kU hr.units).op (aC 0) (aC 1)))))))
    bC)
   (aI (bD (eO (gL (cK (cI "str" lF rfl B.isinstance (aC 0) (cH (v:=.ty "str") rfl B.str_ boot_str rfl))) (hC (cK (cI "str" lF rfl B.isinstance (aC 1) (cH (v:=.ty "str") rfl B.str_ boot_str rfl))))))
    (aJ (aO (iY (cI "str" lF rfl B.isinstance (aC 0) (cH (v:=.ty "str") rfl B.str_ boot_str rfl)) (iY (cI "str" lF rfl B.isinstance (aC 1) (cH (v:=.ty "str") rfl B.str_ boot_str rfl)) (mC (gM (kU hr.units).op (aC 0) (aC 1)))))))
    bC)
   (aI (bD (eO (gL (dF mJ (aC 0) hJ) (hC (dF mJ (aC 1) hJ))))
    (aJ (aO (iY (gM (mJ).op (aC 0) hJ) (mC (gM (mJ).op (aC 1) hJ)))))
    bC)
   (aI (bD (eO (gL (cK (cI "dict" lE rfl B.isinstance (aC 0) (cH (v:=.ty "dict") rfl B.dict_ boot_dict rfl))) (hC (cK (cI "dict" lE rfl B.isinstance (aC 1) (cH (v:=.ty "dict") rfl B.dict_ boot_dict rfl))))))
    (aI (bD (eO (gL (hX (cK (cI "dict" lE rfl B.isinstance (aC 0) (cH (v:=.ty "dict") rfl B.dict_ boot_dict rfl)))) (gL (hX (cK (cI "dict" lE rfl B.isinstance (aC 1) (cH (v:=.ty "dict") rfl B.dict_ boot_dict rfl)))) (hC (fW hr (bE (vA (uM rfl) rfl B.sorted boot_sorted (aD (aC 0) aE))) (bE (vA (uM rfl) rfl B.sorted boot_sorted (aD (aC 1) aE))))))))
     (aJ (aO gO))
     bC)
    (aJ (aO (gM (Bm hr.units).op gO (bE (eW (sc:=aN mT) (XN:=["_law_one","_law_other"]) (N:=["_law_name","_law_one","_law_other"]) (fr:=[0,1]) (bY (aC 0)) (λ_ _ _ _ _=>(aL G47_ hr (aD (aU hr (aC 1) (aC 0)) (aD (aU hr (aC 2) (aC 0)) aE)))))) rfl))))
    bC)
   (aI (bD (eO (gL (fW hr (cI "list" lD rfl B.isinstance (aC 0) (cH (v:=.ty "list") rfl B.list_ boot_list rfl)) (cI "list" lD rfl B.isinstance (aC 1) (cH (v:=.ty "list") rfl B.list_ boot_list rfl))) (hC (fW hr (cI "tuple" zD rfl B.isinstance (aC 0) (cH (v:=.ty "tuple") rfl B.tuple_ boot_tuple rfl)) (cI "tuple" zD rfl B.isinstance (aC 1) (cH (v:=.ty "tuple") rfl B.tuple_ boot_tuple rfl))))))
    (aJ (aO gO))
    bC)
   (aJ (aO (iY (gM (kU hr.units).op (bF cE rfl B.len de (aD (aC 0) aE)) (bF cE rfl B.len de (aD (aC 1) aE))) (mC (gM (Bm hr.units).op gO (bE (BC (sc:=aN mT) (XN:=["_law_one","_law_other"]) (N:=["_law_a","_law_b"]) (own:=2) (fr:=[]) rfl ⟨rfl,by decide +kernel,by decide +kernel,by decide +kernel,rfl,by decide +kernel,by decide,by decide +kernel⟩ (by decide) (Hb rfl B.zip (aD (aC 0) (aD (aC 1) aE))) (λ_ _ _ _ _=>(Ha 2 rfl (C3 (dI 0 (by decide) (show(["_law_a","_law_b"]:List Str).Nodup by decide +kernel) rfl (by first|exact Or.inl rfl|exact Or.inr rfl)) (C3 (dI 1 (by decide) (show(["_law_a","_law_b"]:List Str).Nodup by decide +kernel) rfl (by first|exact Or.inl rfl|exact Or.inr rfl)) Ku)))) (λ_ _ _ _ _=>hG) (λ_ _ _ _ _=>(aL G47_ hr (aD (aC 0) (aD (aC 1) aE)))))) rfl)))))))))))) (λas R q=>?_)
 obtain⟨T,rfl,h,q⟩:=q
 cases T with
 |dct kts=>
  refine⟨rfl,_,rfl,aR ⟨_,rfl,aR ⟨_,rfl,aR ⟨_,rfl,aR ⟨_,rfl,aR ⟨_,rfl,aR ⟨_,rfl,aR ⟨_,rfl,aR ⟨_,rfl,bW (bW ⟨_,rfl,aR ⟨_,rfl,aR ?_⟩⟩)⟩⟩⟩⟩⟩⟩⟩⟩⟩
  refine .inr (.inr ⟨kts,rfl,.inr (.inr ⟨kts,rfl,.inr (.inr ⟨?_,?_⟩),_,rfl,?_⟩)⟩)
  ·intro U hU;obtain⟨s,_,rfl⟩:=qf_.mp hU;trivial
  ·intro U hU;obtain⟨s,_,rfl⟩:=qf_.mp hU;trivial
  rw[Kh]
  refine aR ⟨by rw[ao];have:=h.2.1;omega,?_⟩
  refine dS (λkt:Str×Tv=>sT kt.1) (λkt=>bT true) (λkt hk R q=>⟨_,vM h.1 hk,_,vM h.1 hk,kt.2,rfl,h.2.2 kt hk,q⟩) ⟨wL kts,?_⟩
  rw[vK]
  exact q
 |leaf v=>
  cases v with
  |non=>exact⟨rfl,_,rfl,aR ⟨_,rfl,aR ⟨_,rfl,aR ⟨_,rfl,aR ⟨_,rfl,aR ⟨_,rfl,aR ⟨_,rfl,bW (bW ⟨_,rfl,bW q⟩)⟩⟩⟩⟩⟩⟩⟩
  |bl b=>
   rw[<-KI (b:=b)]at q
   exact⟨rfl,_,rfl,bW (bW ⟨_,rfl,bW ⟨_,rfl,bW q⟩⟩)⟩
  |int i=>
   rw[<-KJ (i:=i)]at q
   exact⟨rfl,_,rfl,aR ⟨_,rfl,aR ⟨_,rfl,bW (bW ⟨_,rfl,bW ⟨_,rfl,bW q⟩⟩)⟩⟩⟩
  |str s=>
   rw[<-Kf (s:=s)]at q
   exact⟨rfl,_,rfl,aR ⟨_,rfl,aR ⟨_,rfl,aR ⟨_,rfl,aR ⟨_,rfl,bW (bW ⟨_,rfl,bW ⟨_,rfl,bW q⟩⟩)⟩⟩⟩⟩⟩
  |_=>exact False.elim h
 |seq t xs=>
  cases t with
  |false=>
   refine⟨rfl,_,rfl,aR ⟨_,rfl,aR ⟨_,rfl,aR ⟨_,rfl,aR ⟨_,rfl,aR ⟨_,rfl,aR ⟨_,rfl,aR ⟨_,rfl,aR ⟨_,rfl,aR ⟨_,rfl,aR ⟨_,rfl,aR ⟨_,rfl,aR ⟨_,rfl,eP (λ_=>⟨false,xs,xs,rfl,?_⟩) (λz=>absurd rfl z)⟩⟩⟩⟩⟩⟩⟩⟩⟩⟩⟩⟩⟩
   rw[C6]
   refine⟨by rw[ao];have:=h.1;omega,dS (λx=>.seq true [x,x]) (λx=>bT true) (λx hx R q=>⟨_,rfl,rfl,_,_,rfl,_,_,rfl,rfl,x,rfl,h.2 x hx,q⟩) ⟨wL xs,?_⟩⟩
   rw[vK]
   exact q
  |true=>
   refine⟨rfl,_,rfl,aR ⟨_,rfl,aR ⟨_,rfl,aR ⟨_,rfl,aR ⟨_,rfl,aR ⟨_,rfl,aR ⟨_,rfl,aR ⟨_,rfl,aR ⟨_,rfl,aR ⟨_,rfl,aR ⟨_,rfl,aR ⟨_,rfl,aR ⟨_,rfl,eP (λ_=>⟨true,xs,xs,rfl,?_⟩) (λz=>absurd rfl z)⟩⟩⟩⟩⟩⟩⟩⟩⟩⟩⟩⟩⟩
   rw[C6]
   refine⟨by rw[ao];have:=h.1;omega,dS (λx=>.seq true [x,x]) (λx=>bT true) (λx hx R q=>⟨_,rfl,rfl,_,_,rfl,_,_,rfl,rfl,x,rfl,h.2 x hx,q⟩) ⟨wL xs,?_⟩⟩
   rw[vK]
   exact q
def Ad(h:ak K mg "_law_same" mT)(B:Own mg):∀n:Nat,ae P w K mg base (1+n) "_law_same" ["_law_one","_law_other"] (oJ n)
 |0=>h.pfalse rp (fun|_,_,_,_,_,_,[_,_],_=>rfl) λas R ⟨_,_,h,_⟩=>h
 |n+1=>Ei h B (Ad h B n)
end
section
variable{P:Program}{w:World}{K:W.Frag}{mg:Str->Option Value}{base:Heap}
def Bw(ts:List Str)(ne:ts≠[]):c_ 3 (bV (bP ts)):=by
 unfold bP
 split
 ·rename_i h
  refine⟨by simp,λx hx=>?_⟩
  simp only[List.mem_cons,List.not_mem_nil,or_false]at hx
  rcases hx with rfl|rfl
  ·trivial
  ·exact CV 0 (by rw[(eR _).length_eq];omega)
 ·obtain⟨hd,lo,hi,ms,e,m⟩:=iS ne
  rw[e]
  refine⟨by simp,λx hx=>?_⟩
  simp only[List.mem_cons,List.not_mem_nil,or_false]at hx
  rcases hx with rfl|rfl|rfl|rfl|rfl
  ·trivial
  ·trivial
  ·trivial
  ·trivial
  ·refine CV 0 ?_
   rw[m.mks]
   exact bx (qp _ _) (by decide)
def IE{D:List Tv->List Pt}{d:Nat}(hD:∀A,c_ (d+3) (bX (D A))){ks:List (List (Str×Tv))}:c_ (d+6) (aW (di D ks)):=by
 by_cases h:(aH (aQ ks)).length<=8
 ·rw[gK h,eQ]
  refine⟨by simp,λx hx=>?_⟩
  simp only[List.mem_cons,List.not_mem_nil,or_false]at hx
  rcases hx with rfl|rfl|rfl|rfl
  ·trivial
  ·trivial
  ·trivial
  ·refine⟨by rw[ao,kN];omega,λy hy=>?_⟩
   obtain⟨x,hx,rfl⟩:=qf_.mp hy
   obtain⟨n,_,rfl⟩:=qf_.mp hx
   refine⟨by simp,λz hz=>?_⟩
   have hz:z∈[sT n,bT (cW D ks n).2.1,bX (D (i7 n ks))]:=hz
   simp only[List.mem_cons,List.not_mem_nil,or_false]at hz
   rcases hz with rfl|rfl|rfl
   ·trivial
   ·trivial
   ·exact hD _
 ·have ne:aQ ks≠[]:=λe=>h (by rw[e];exact d6 _)
  rw[gJ h,fN]
  refine⟨by simp,λx hx=>?_⟩
  simp only[List.mem_cons,List.not_mem_nil,or_false]at hx
  rcases hx with rfl|rfl|rfl|rfl|rfl
  ·trivial
  ·trivial
  ·trivial
  ·exact(Bw _ ne).le (by omega)
  ·exact(hD _).le (by omega)
def Bo:∀(n:Nat) (A:List Tv),c_ (4*n+6) (bX (bG n A))
 |0,A=>⟨by simp[bG],λx hx=>by simp[bG]at hx⟩
 |n+1,A=>by
  have ih:=Bo n
  refine⟨?_,λx hx=>?_⟩
  ·rw[ao]
   exact bx (kl _ _) (by decide)
  ·obtain⟨p,hp,rfl⟩:=qf_.mp hx
   obtain⟨k,_,e⟩:=qc1_.mp hp
   show c_ (4*n+9) (aW p)
   unfold bI at e
   split at e
   ·have:p=.nothing:=by
     split at e
     ·cases e;rfl
     ·cases e
    rw[this,tX]
    refine⟨by simp,λx hx=>?_⟩
    rw[qd1_.mp hx];trivial
   ·obtain⟨_,rfl⟩:=eE e
    rw[pY]
    refine⟨by simp,λx hx=>?_⟩
    simp only[List.mem_cons,List.not_mem_nil,or_false]at hx
    rcases hx with rfl|rfl
    ·trivial
    ·refine⟨by rw[ao];exact bx (iI _ _) (by decide),λx hx=>?_⟩
     obtain⟨b,_,rfl⟩:=qf_.mp hx
     trivial
   ·obtain⟨_,rfl⟩:=eE e
    rw[qL]
    refine⟨by simp,λx hx=>?_⟩
    simp only[List.mem_cons,List.not_mem_nil,or_false]at hx
    rcases hx with rfl|rfl|rfl|rfl<;>trivial
   ·obtain⟨ne,rfl⟩:=eE e
    rw[qE]
    refine⟨by simp,λx hx=>?_⟩
    simp only[List.mem_cons,List.not_mem_nil,or_false]at hx
    rcases hx with rfl|rfl
    ·trivial
    ·exact(Bw _ ne).le (by omega)
   ·obtain⟨_,rfl⟩:=eE e
    rw[iJ]
    refine⟨by simp,λx hx=>?_⟩
    simp only[List.mem_cons,List.not_mem_nil,or_false]at hx
    rcases hx with rfl|rfl|rfl|rfl
    ·trivial
    ·trivial
    ·trivial
    ·exact(ih _).le (by omega)
   ·obtain⟨_,rfl⟩:=eE e
    exact IE (d:=4*n+3) λA=>ih A
   ·cases e
end
section
variable{P:Program}{w:World}{K:W.Frag}{mg:Str->Option Value}{base:Heap}
variable{n:Nat}
def da:Nat->Tv->Prop
 |0,_=>False
 |_+1,.leaf .non=>True
 |_+1,.leaf (.bl _)=>True
 |_+1,.leaf (.int _)=>True
 |_+1,.leaf (.str _)=>True
 |n+1,.seq false xs=>xs.length<=1000/\∀x∈xs,da n x
 |n+1,.dct kts=>(kts.map (·.1)).Nodup/\kts.length<64/\∀kt∈kts,da n kt.2
 |_,_=>False
def da.six{n:Nat}{v:Tv}(h:da (n+1) v):v=nT\/(∃b,v=bT b)\/(∃i,v=iT i)\/(∃s,v=sT s)\/(∃xs,v=.seq false xs)\/∃k,v=.dct k:=by
 cases v with
 |leaf v=>cases v with
  |non=>exact .inl rfl
  |bl b=>exact .inr (.inl ⟨b,rfl⟩)
  |int i=>exact .inr (.inr (.inl ⟨i,rfl⟩))
  |str s=>exact .inr (.inr (.inr (.inl ⟨s,rfl⟩)))
  |_=>exact False.elim h
 |seq t xs=>cases t with
  |false=>exact .inr (.inr (.inr (.inr (.inl ⟨xs,rfl⟩))))
  |true=>exact False.elim h
 |dct k=>exact .inr (.inr (.inr (.inr (.inr ⟨k,rfl⟩))))
def da.vd{nm tx:List Str}:∀{n:Nat}{T:Tv},VD nm tx n T->da n T
 |0,_,h=>h
 |n+1,.leaf v,h=>by cases v<;>first|trivial|exact h
 |n+1,.seq false xs,h=>⟨bx h.1 (by decide),λx hx=>da.vd (h.2 x hx)⟩
 |n+1,.seq true xs,h=>False.elim h
 |n+1,.dct k,h=>⟨h.1,mw h.2.1 (by decide),λkt hk=>da.vd (h.2.2 kt hk).2⟩
def rV(n:Nat):bu:=λas R=>∃T,as=[.va T]/\da n T/\R T
def JX{kts:List (Str×Tv)}(nd:(kts.map (·.1)).Nodup){j:Nat}{kt:Str×Tv}(h:kts[j]?=some kt):eJ (kts.take j) kt.1 kt.2=kts.take (j+1):=by
 obtain⟨hj,rfl⟩:=qy_.mp h
 have hn:kts[j].1∉(kts.take j).map (·.1):=λz=>by
  obtain⟨e,he,ee⟩:=qf_.mp z
  obtain⟨k,hk,e2⟩:=qX1_.mp he
  rw[jh]at hk
  rw[List.getElem_take]at e2
  rw[List.nodup_iff_pairwise_ne,mh,qp3_]at nd
  exact nd k j (by omega) hj (by omega) (by rw[e2];exact ee)
 unfold eJ
 rw[if_neg,m7 hj]
 intro z
 obtain⟨e,he,ee⟩:=qL_.mp z
 exact hn (qf_.mpr ⟨e,he,dw ee⟩)
def qc:bB ["_law_value_here","_law_found","_law_name"] ["_law_value_here"] (aN kZ):=b8 (by decide +kernel)
def Eh(h:ak K mg "_law_copy" kZ)(B:Own mg)(G46_:ae P w K mg base (1+n) "_law_copy" ["_law_value_here"] (rV n))   : ae P w K mg base (1+n+1) "_law_copy" ["_law_value_here"] (rV (n+1)):=by
 have nd:=qc.nd
 refine h.pgood qc (fun|_,_,_,_,_,_,[_],_=>rfl) (λf cdv A outer s H E F hr=>
   (aI (bD (cK (cI "list" lD rfl B.isinstance (aC 0) (cH (v:=.ty "list") rfl B.list_ boot_list rfl)))
    (aJ (aO (bE (eW (sc:=aN kZ) (XN:=["_law_value_here","_law_found","_law_name"]) (N:=["_law_item"]) (fr:=[]) (bY (aC 0)) (λ_ _ _ _ _=>(aL G46_ hr (aD (aC 0) aE)))))))
    bC)
   (aI (bD (cK (cI "dict" lE rfl B.isinstance (aC 0) (cH (v:=.ty "dict") rfl B.dict_ boot_dict rfl)))
    (aI (C4 (i:=1) nd rfl (.inl rfl))
    (aI (eF (m:=3) ic rfl (bY (aC 0)) (dI 2 (by decide) nd rfl (.inl rfl))
     (aJ (BD (i:=1) (oX hr) rfl (by first|exact Or.inl rfl|exact Or.inr (Or.inl rfl)|exact Or.inr (Or.inr rfl)) (aC 2) (aL G46_ hr (aD (aU hr (aC 0) (aC 2)) aE)))))
    (aJ (aO (aC 1)))))
    bC)
   (aJ (aO (aC 0)))))) (λas R q=>?_)
 obtain⟨T,rfl,h,q⟩:=q
 rcases da.six h with rfl|⟨b,rfl⟩|⟨i,rfl⟩|⟨s,rfl⟩|⟨xs,rfl⟩|⟨kts,rfl⟩
 ·exact⟨rfl,_,rfl,aR ⟨_,rfl,aR q⟩⟩
 ·exact⟨rfl,_,rfl,aR ⟨_,rfl,aR q⟩⟩
 ·exact⟨rfl,_,rfl,aR ⟨_,rfl,aR q⟩⟩
 ·exact⟨rfl,_,rfl,aR ⟨_,rfl,aR q⟩⟩
 ·refine⟨rfl,_,rfl,bW ⟨by have:=h.1;omega,uZ (λx=>x) (λx hx R q=>⟨x,rfl,h.2 x hx,q⟩) (by rw[List.map_id'];exact q)⟩⟩
 ·refine⟨rfl,_,rfl,aR ⟨_,rfl,bW ?_⟩⟩
  refine gZ (λkt:Str×Tv=>sT kt.1) (l:=kts) (λi ρ=>∃s2,ρ=[.va (.dct kts),.dct (kts.take i),s2]) ⟨_,rfl⟩ ?_ ?_
  ·rintro i kt _ N hk ⟨s2,rfl⟩ hN
   have km:=g5 hk
   have e:=JX h.1 hk
   refine⟨_,vM h.1 km,kt.2,rfl,h.2.2 kt km,⟨_,rfl⟩,_,_,rfl,rfl,by rw[e,jh];have:=h.2.1;omega,?_⟩
   rw[e]
   exact hN _ ⟨_,rfl⟩
  ·rintro _ ⟨s2,rfl⟩
   rw[ff]
   exact q
def A9(h:ak K mg "_law_copy" kZ)(B:Own mg):∀n:Nat,ae P w K mg base (1+n) "_law_copy" ["_law_value_here"] (rV n)
 |0=>h.pfalse qc (fun|_,_,_,_,_,_,[_],_=>rfl) λas R ⟨_,_,h,_⟩=>h
 |n+1=>Eh h B (A9 h B n)
end
end My
namespace L2
open PySem PySem.Spec PyProof.Rows WordM
section
variable{X:Cx}{F:Fm}{x:Str}{p apos cpos:Pos}
def GV(i:Nat):UT:=λρ Q=>∃Ts,ρ[i]?=some (.own Ts)/\Q nT (ρ.set i (.own Ts.reverse))
theorem G_(i:Nat)(hN:X.N[i]?=some x:=by rfl)(hv:nz X.env.scope x:=by first|exact Or.inl rfl|exact Or.inr (Or.inl rfl)|exact Or.inr (Or.inr rfl))(hd:(x==("__debug__":Str))=false:=by decide)(hcd:(x==("__classdict__":Str))=false:=by decide)
  (hbase:attributeBase (.Name x p) "reverse" X.env (eval (.Name x p) X.env)=eval (.Name x p) X.env:=by rfl) (hline:(apos.endLine==cpos.line)=true:=by rfl):
  UE X F (.Call (.Attribute (.Name x p) "reverse" apos) [] [] cpos) (GV i):=⟨PE.imp (AC PySem.F.plainAttrs_list PySem.F.slot_list_reverse PySem.F.type_list_reverse LN (jV hN hv hd hcd) hbase hline) λσ H QQ ⟨ρ,Q,f,⟨Ts,e0,q⟩,k⟩=>by
 obtain⟨a,xs,ea,eH,e3,z,pv⟩:=f.at_ i _ e0
 refine⟨_,iO ea,.inl ⟨rfl,_,b5.of eH⟩,a,_,rfl,rfl,eH,?_⟩
 exact k _ _ _ _ (f.put (o':=.lst xs.reverse) e0 rfl ea eH rfl (s':=.own Ts.reverse) λhs h0=>⟨a,_,rfl,bA,h0,by rw[jn];exact z,cf.hs hs (LR pv)⟩) (.flat rfl) q⟩
inductive gq:Tv->Prop
 |leaf (v:V):gq (.leaf v)
 |seq {xs:List Tv}:(∀x∈xs,gq x)->gq (.seq true xs)
def Cr{α β:Type}{R S:α->β->Prop}:∀{l:List α}{m:List β},Paired R l m->(∀a b,b∈m->R a b->S a b)->Paired S l m
 |_,_,.nil,_=>.nil
 |_,_,.cons r t,h=>.cons (h _ _ (.head _) r) (Cr t λa b hb=>h a b (.tail _ hb))
def gq.thaw{K:W.Frag}{H H3 H4:Hp}(th:ju H H3 H4){T:Tv}(h:gq T):∀{x:V},VA K H3 x T->VA K H4 x T:=by
 induction h with
 |leaf v=>
  intro x va
  obtain⟨rfl,fl⟩:=va.leafI
  exact .flat fl
 |seq hx ih=>
  intro x va
  obtain⟨a,xs,rfl,sq,z,p⟩:=va.seqI
  refine VA.seq (t:=true) ?_ z (Cr p λy T hT v=>ih T hT v)
  rcases sq with sq|sq
  ·refine .inl ?_
   rcases sq with e|⟨ob,e⟩<;>rcases th a with⟨o',ob',n,_,z,z'⟩|⟨_,z⟩
   ·rw[e]at z;cases z
   ·exact .inl (by rw[z];exact e)
   ·rw[e]at z;cases z
    exact .inl z'
   ·exact .inr ⟨ob,by rw[z];exact e⟩
  ·exact .inr sq
def HZ(u:UT):UT:=λρ Q=>u (ma ρ) λT _=>gq T/\Q T ρ
def Lb{e:Expr}{u:UT}(h:∀F,UE X F e u):UE X F e (HZ u):=⟨λpins s σ H QQ I ⟨ρ,Q,f,hu,k⟩=>by
 obtain⟨H2,fro,ok2⟩:=uX I.hok
 have f2:=xN f fro
 refine bf ((h ⟨H2,none⟩).pe pins s σ H2 (λx H3=>∃T ρ',bh X.K ⟨H2,none⟩ σ (ma ρ) H2 ρ' H3/\VA X.K H3 x T/\gq T/\Q T ρ) (I.frozen fro ok2) ⟨_,_,f2,hu,λx T H' ρ' st v q=>⟨T,ρ',st,v,q⟩⟩) λu s' ⟨x,H3,I3,r,q⟩=>?_
 obtain⟨T,ρ',st,va,tt,q⟩:=q
 obtain⟨H4,th⟩:=vZ H H3
 exact⟨x,H4,I.thaw I3 th,r,k _ _ _ _ (bh.same f (ju.same fro (wF st) th)) (tt.thaw th va) q⟩⟩
def Nv:qh:=λ_ _=>False
def G3{rest:List Stmt}:su X F rest Nv:=⟨λ_ _ _ _ _ _ ⟨_,_,_,z,_⟩=>False.elim z⟩
end
end L2
namespace My
open PySem L2 PyProof.Rows WordM
section
variable{P:Program}{w:World}{K:W.Frag}{mg:Str->Option Value}{base:Heap}
variable{n:Nat}
def uQ:bu:=λas R=>∃nm tx st sp,∃many:Int,as=[.dk,.va (eS nm tx st sp),.va (iT many)]/\fR nm tx st sp/\0<=many/\many<=60/\∀Us:List Tv,(Us.length:Int)=many->(∀U∈Us,VD nm tx 4 U)->R (.seq false Us)
def uy:bB ["_law_deck_here","_law_world_here","_law_many","_law_way","_law_deep"] ["_law_deck_here","_law_world_here","_law_many"] (aN sX):=b8 (by decide +kernel)
def Eg(h:ak K mg "_law_samples" sX)(B:Own mg)(G35_:ae P w K mg base 2 "_law_take" ["_law_deck_here","_law_most"] fT)(G44_:ae P w K mg base 14 "_law_value" ["_law_deck_here","_law_world_here","_law_deep","_law_way"] (lY 4))   : ae P w K mg base 15 "_law_samples" ["_law_deck_here","_law_world_here","_law_many"] uQ:=by
 have nd:=uy.nd
 refine h.pgood uy (fun|_,_,_,_,_,_,[_,_,_],_=>rfl) (λf cdv A outer s H E F hr=>
   (aI (aZ 3 nd (aU hr (bE (cD (aD aG (aD aG (aD aG (aD aG (aD aG (aD aG aE)))))))) (aL G35_ hr (bZ 0 (aD aG aE)))))
   (aI (aZ 4 nd (aU hr (bE (cD (aD aG (aD aG (aD aG (aD aG aE)))))) (aL G35_ hr (bZ 0 (aD aG aE)))))
   (aJ (aO (bE (eW (sc:=aN sX) (XN:=["_law_deck_here","_law_world_here","_law_many","_law_way","_law_deep"]) (N:=["_law_k","_law_deck_here","_law_world_here","_law_way","_law_deep"]) (fr:=[0,1,3,4]) (jP rfl B.range (aD (aC 2) aE)) (λ_ _ _ _ _=>(aL G44_ hr (bZ 1 (aD (aC 2) (aD (aC 4) (aD (aC 3) aE))))))))))))) (λas R q=>?_)
 obtain⟨nm,tx,st,sp,many,rfl,hw,m0,m6,q⟩:=q
 refine⟨rfl,by simp,rfl,6,rfl,by decide,cM (by decide) (by decide),λr r0 r1=>?_⟩
 obtain⟨W,hW,hWm⟩:=kB (l:=[iT 9,iT 9,iT 1,iT 5,iT 7,iT 8]) r0 r1
 have hw':∃d:Int,W=iT d/\0<=d/\d<=9:=by
  simp only[List.mem_cons,List.not_mem_nil,or_false]at hWm
  rcases hWm with e|e|e|e|e|e<;>subst e<;>exact⟨_,rfl,by decide,by decide⟩
 obtain⟨way,rfl,w0,w9⟩:=hw'
 refine⟨_,hW,by simp,rfl,4,rfl,by decide,cM (by decide) (by decide),λc c0 c1=>?_⟩
 obtain⟨D,hD,hDm⟩:=kB (l:=[iT 2,iT 2,iT 1,iT 3]) c0 c1
 have hd':∃d:Int,D=iT d/\0<=d/\d<4:=by
  simp only[List.mem_cons,List.not_mem_nil,or_false]at hDm
  rcases hDm with e|e|e|e<;>subst e<;>exact⟨_,rfl,by decide,by decide⟩
 obtain⟨d,rfl,d0,d1⟩:=hd'
 refine⟨_,hD,_,rfl,by omega,by omega,by rw[iM];omega,qM (λT U=>VD nm tx 4 U) (λT hT R hR=>⟨rfl,nm,tx,st,sp,d,way,rfl,hw,d0,by omega,w0,w9,λU hU=>hR U hU⟩) (λUs hUs=>?_)⟩
 refine q Us ?_ (qB (g:=VD nm tx 4) (λa b h=>h) hUs)
 have:=hUs.length
 rw[iM]at this
 omega
end
section
variable{P:Program}{w:World}{K:W.Frag}{mg:Str->Option Value}{base:Heap}
def xB:rj:=λas R=>∃xs:List Tv,as=[.va (.seq false xs)]/\da 5 (.seq false xs)/\R xs
def JB(h:ak K mg "_law_copy" kZ)(B:Own mg)(G46_:ae P w K mg base 5 "_law_copy" ["_law_value_here"] (rV 4)):oZ P w K mg base 6 "_law_copy" ["_law_value_here"] xB:=by
 refine h.lgood qc (fun|_,_,_,_,_,_,[_],_=>rfl) (λf cdv A outer s H E F hr=>
   (G0 (cK (cI "list" lD rfl B.isinstance (aC 0) (cH (v:=.ty "list") rfl B.list_ boot_list rfl)))
    (He (eW (sc:=aN kZ) (XN:=["_law_value_here","_law_found","_law_name"]) (N:=["_law_item"]) (fr:=[]) (bY (aC 0)) (λ_ _ _ _ _=>(aL G46_ hr (aD (aC 0) aE)))))
    G3)) (λas R q=>?_)
 obtain⟨xs,rfl,h,q⟩:=q
 refine⟨rfl,_,rfl,bW ⟨by have:=h.1;omega,uZ (λx=>x) (λx hx R q=>⟨x,rfl,h.2 x hx,q⟩) (by rw[List.map_id'];exact q)⟩⟩
end
section
variable{P:Program}{w:World}{K:W.Frag}{mg:Str->Option Value}{base:Heap}
def GS{nm tx:List Str}{n:Nat}(T:Tv)(hT:xO tx T):VD nm tx (n+1) T:=by
 cases T with
 |leaf v=>cases v<;>first|exact hT|exact False.elim hT
 |seq t xs=>exact False.elim hT
 |dct k=>exact False.elim hT
def C1(l:List Str):gq (.seq true (l.map sT)):=.seq λx h=>by
 obtain⟨s,_,rfl⟩:=qf_.mp h
 exact .leaf _
def zk(w:Wd):gq (bV w):=by
 cases w with
 |few ts=>
  refine .seq λx h=>?_
  simp only[List.mem_cons,List.not_mem_nil,or_false]at h
  rcases h with rfl|rfl
  ·exact .leaf _
  ·exact C1 _
 |make hd a b ms=>
  refine .seq λx h=>?_
  simp only[List.mem_cons,List.not_mem_nil,or_false]at h
  rcases h with rfl|rfl|rfl|rfl|rfl
  ·exact .leaf _
  ·exact .leaf _
  ·exact .leaf _
  ·exact .leaf _
  ·exact C1 _
def rP(p:Pt):gq (aW p):=by
 cases p with
 |nothing=>rw[aW];exact .seq λx h=>by rw[qd1_.mp h];exact .leaf _
 |truths bs=>
  rw[aW]
  refine .seq λx h=>?_
  simp only[List.mem_cons,List.not_mem_nil,or_false]at h
  rcases h with rfl|rfl
  ·exact .leaf _
  ·exact .seq λy hy=>by
    obtain⟨b,_,rfl⟩:=qf_.mp hy
    exact .leaf _
 |numbers a b c=>
  rw[aW]
  refine .seq λx h=>?_
  simp only[List.mem_cons,List.not_mem_nil,or_false]at h
  rcases h with rfl|rfl|rfl|rfl<;>exact .leaf _
 |texts w=>
  rw[aW]
  refine .seq λx h=>?_
  simp only[List.mem_cons,List.not_mem_nil,or_false]at h
  rcases h with rfl|rfl
  ·exact .leaf _
  ·exact zk w
 |lists a b f=>
  rw[aW]
  refine .seq λx h=>?_
  simp only[List.mem_cons,List.not_mem_nil,or_false]at h
  rcases h with rfl|rfl|rfl|rfl
  ·exact .leaf _
  ·exact .leaf _
  ·exact .leaf _
  ·exact .seq λy hy=>by
    obtain⟨q,hq,rfl⟩:=qf_.mp hy
    exact rP q
 |record a b fs=>
  rw[aW]
  refine .seq λx h=>?_
  simp only[List.mem_cons,List.not_mem_nil,or_false]at h
  rcases h with rfl|rfl|rfl|rfl
  ·exact .leaf _
  ·exact .leaf _
  ·exact .leaf _
  ·refine .seq λy hy=>?_
   obtain⟨⟨x1,x2,x3⟩,hx,rfl⟩:=qf_.mp hy
   refine .seq λz hz=>?_
   simp only[List.mem_cons,List.not_mem_nil,or_false]at hz
   rcases hz with rfl|rfl|rfl
   ·exact .leaf _
   ·exact .leaf _
   ·exact .seq λy hy=>by
     obtain⟨q,hq,rfl⟩:=qf_.mp hy
     exact rP q
 |table a b w f=>
  rw[aW]
  refine .seq λx h=>?_
  simp only[List.mem_cons,List.not_mem_nil,or_false]at h
  rcases h with rfl|rfl|rfl|rfl|rfl
  ·exact .leaf _
  ·exact .leaf _
  ·exact .leaf _
  ·exact zk w
  ·exact .seq λy hy=>by
    obtain⟨q,hq,rfl⟩:=qf_.mp hy
    exact rP q
termination_by sizeOf p
decreasing_by
 all_goals simp_wf
 ·have:=ji hq;omega
 ·have h1:=ji hx
  have h2:=ji hq
  simp at h1
  omega
 ·have:=ji hq;omega
def LJ(f:List Pt):gq (bX f):=.seq λy hy=>by
 obtain⟨q,hq,rfl⟩:=qf_.mp hy
 exact rP q
def ug:bB ["_law_script","_law_deck_here","_law_world_here","_law_k","_law_samples_here","_law_due_here","_law_handed","_law_found"] ["_law_script"] (aN iG):=b8 (by decide +kernel)
theorem F3{f:Addr}{fd:FuncData}(F:rm K "law" "law" iG f fd)(B:Own mg)(G34_:cv P w K mg base 1 "_law_deck" ["_law_script"] (AM K))(G40_:ae P w K mg base 5 "_law_world" ["_law_deck_here"] wD)(G47_:ae P w K mg base 23 "_law_same" ["_law_one","_law_other"] (oJ 22))(G32_:ae P w K mg base 47 "told" ["samples"] (oI 4))(G35_:ae P w K mg base 2 "_law_take" ["_law_deck_here","_law_most"] fT)(G45_:ae P w K mg base 15 "_law_samples" ["_law_deck_here","_law_world_here","_law_many"] uQ)(G42_:ae P w K mg base 5 "_law_leaf" ["_law_deck_here","_law_world_here"] oM)(G53_:ae P w K mg base 13 "_law_due" ["_law_values"] (mL 5))(G46_:oZ P w K mg base 6 "_law_copy" ["_law_value_here"] xB)   : df P w K mg base nr 50 f fd ["_law_script"] (sD K):=by
 refine F.ok ug (λvs H Q E q=>?_) (λcdv A outer s H vs Q E hr q=>?_)
 ·obtain⟨a,ns,rfl,_⟩:=q
  rfl
 ·obtain⟨aa,ns,rfl,hS,hlen,q⟩:=q
  have nd:=ug.nd
  refine⟨_,(gE (jU (i:=1) nd rfl (by first|exact Or.inl rfl|exact Or.inr rfl) (oS G34_ (hr.mono (by omega)) rfl (cT (pv 0) dD)))
   (Iq λF=>(aI (aZ 2 nd (aL G40_ hr (bZ 1 aE)))
   (aI (bD (hX (cK (aL G47_ hr (aD (aL G32_ hr (aD (bE (cD aE)) aE)) (aD (cA aE) aE)))))
    (aJ (aO gO))
    bC)
   (aI (eF (m:=8) ic rfl (jP rfl B.range (aD (bN cZ aG (aL G35_ hr (bZ 1 (aD aG aE)))) aE)) (dI 3 (by decide) nd rfl (.inl rfl))
    (aI (aZ 4 nd (aL G45_ hr (bZ 1 (aD (aC 2) (aD (aL G35_ hr (bZ 1 (aD aG aE))) aE)))))
    (aI (bD (cF hr (aL G35_ hr (bZ 1 (aD aG aE))) aG)
     (aJ (fH (sc:=aN iG) (XN:=["_law_script","_law_deck_here","_law_world_here","_law_k","_law_samples_here","_law_due_here","_law_handed","_law_found"]) (N:=["_law_j","_law_deck_here","_law_world_here"]) (fr:=[1,2]) 4 nd (jP rfl B.range (aD aG aE)) (λ_ _ _ _ _=>hG) (λ_ _ _ _ _=>(aL G42_ hr (bZ 1 (aD (aC 2) aE))))))
     bC)
    (aI (aZ 5 nd (aL G53_ hr (aD (aC 4) aE)))
    (aI (gP 6 nd (sC G46_ (hr.mono (by omega)) rfl (aD (aC 4) aE)))
    (aI (aZ 7 nd (Lb λF=>(aL G32_ hr (aD (aC 6) aE))))
    (aI (bD (BB λF=>(eO (gL (hX (cK (aL G47_ hr (aD (aC 7) (aD (aC 5) aE))))) (hC (hX (cK (aL G47_ hr (aD (aC 6) (aD (aC 4) aE)))))))))
     (aJ (aO gO))
     bC)
    (aI (eC (fP 6 (bE (cD (aD (AV (IP (Kv hJ Hd) (by decide +kernel) (by decide))) aE)))))
    (aI (eC (G_ 6))
    (aI (bD (eO (gL (hX (cK (aL G47_ hr (aD (aL G32_ hr (aD (bE (Hc (bE (sC G46_ (hr.mono (by omega)) rfl (aD (aC 4) aE))) FM)) aE)) (aD (aC 5) aE))))) (hC (hX (cK (aL G47_ hr (aD (aC 7) (aD (aC 5) aE))))))))
     (aJ (aO gO))
     bC)
    (aJ (bD (eO (mB (dF kT (bF cE rfl B.len de (aD (aC 4) aE)) aG) (nQ (hX (cK (aL G47_ hr (aD (aL G32_ hr (aD (bN cZ (bE (sC G46_ (hr.mono (by omega)) rfl (aD (aC 4) aE))) (bE (sC G46_ (hr.mono (by omega)) rfl (aD (aC 4) aE)))) aE)) (aD (aC 5) aE))))))))
     (aJ (aO gO))
     bC))))))))))))
   (aJ (aO gO))))))),?_⟩
  refine⟨_,rfl,aa,ns,rfl,hS,λp c H1 np nc d1 s1=>?_⟩
  refine IY (N:=["_law_script","_law_deck_here","_law_world_here","_law_k","_law_samples_here","_law_due_here","_law_handed","_law_found"]) (by decide) d1 q ?_
  clear q hS hlen hr d1 s1 np nc
  refine⟨rfl,rfl,λnm tx st sp hw=>?_⟩
  have W4:WD 4 (VD nm tx 4):=⟨nm,tx,st,sp,hw,rfl⟩
  have sm:∀X:List Tv,b7 22 (bX (bG 4 X)):=λX=>.of (Bo 4 X)
  have e0:bX (bG 4 [])=.seq true []:=by rw[A0];rfl
  show bc.nx _ _
  refine g7 (ρ':=[.no,.dk,.va (eS nm tx st sp),.no,.no,.no,.no,.no]) rfl ?_
  refine⟨by simp,VD nm tx 4,W4,[],rfl,by simp,(λv h=>nomatch h),?_⟩
  rw[e0]
  refine⟨by simp,.seq true [],rfl,⟨by simp,(λx h=>nomatch h)⟩,_,rfl,aR ?_⟩
  refine⟨rfl,4,rfl,by decide,cM (by decide) (by decide),λm m0 m1=>⟨_,rfl,by omega,by omega,?_⟩⟩
  refine kJ (λi ρ=>∃s3 s4 s5 s6 s7:Sl,ρ=[.no,.dk,.va (eS nm tx st sp),s3,s4,s5,s6,s7]) ⟨_,_,_,_,_,rfl⟩ ?_ (λ_ ⟨_,_,_,_,_,e⟩=>by subst e;rfl)
  rintro i T _ N hT ⟨s3,s4,s5,s6,s7,rfl⟩ hN
  refine⟨rfl,rfl,7,rfl,by decide,cM (by decide) (by decide),λr r0 r1=>⟨nm,tx,st,sp,r,rfl,hw,r0,by omega,λUs lU hU=>?_⟩⟩
  show bc.nx _ _
  refine g7 (ρ':=[.no,.dk,.va (eS nm tx st sp),.va T,.va (.seq false Us),s5,s6,s7]) rfl ?_
  refine⟨rfl,8,rfl,by decide,cM (by decide) (by decide),λa a0 a1=>⟨_,rfl,kM (J:=λV:List Tv=>V.length<=60/\∀v∈V,VD nm tx 4 v) (λV=>[.no,.dk,.va (eS nm tx st sp),.va T,.va (.seq false V),s5,s6,s7]) (λz rest=>?_) (λz=>⟨Us,⟨by omega,hU⟩,rfl⟩) (λV hV=>?_)⟩⟩
  ·refine⟨_,rfl,by decide,by decide,by rw[iM];decide,?_⟩
   refine qM (λT U=>VD nm tx 4 U) (λT hT R hR=>⟨rfl,nm,tx,st,sp,rfl,hw,λU hU=>hR U (GS U hU)⟩) (λVs hVs=>?_)
   have l:=hVs.length
   rw[iM]at l
   exact rest Vs ⟨by have:(60:Int).toNat=60:=rfl;omega,qB (g:=VD nm tx 4) (λa b h=>h) hVs⟩
  obtain⟨lV,hV⟩:=hV
  have cV:da 5 (.seq false V):=⟨by omega,λx hx=>.vd (hV x hx)⟩
  have sV:b7 22 (.seq false V):=⟨by omega,λx hx=>.le (by decide) (b7.vd (hV x hx))⟩
  refine⟨4,nm,tx,st,sp,V,rfl,hw,rg.of hV (bx (iw _ lV) (by decide)),by decide,by decide,V,rfl,cV,?_⟩
  show bc.nx _ _
  refine g7 (ρ':=[.no,.dk,.va (eS nm tx st sp),.va T,.va (.seq false V),.va (bX (bG 4 V)),.own V,s7]) rfl ?_
  refine⟨VD nm tx 4,W4,V,rfl,by omega,hV,LJ _,?_⟩
  show bc.nx _ _
  refine g7 (ρ':=[.no,.dk,.va (eS nm tx st sp),.va T,.va (.seq false V),.va (bX (bG 4 V)),.own V,.va (bX (bG 4 V))]) rfl ?_
  refine⟨_,rfl,sm _,_,rfl,aR ⟨_,rfl,sV,_,rfl,aR ?_⟩⟩
  refine⟨⟨V,rfl⟩,?_⟩
  refine⟨by decide,V,rfl,by omega,?_⟩
  refine⟨_,rfl,?_⟩
  have er:bG 4 V.reverse=bG 4 V:=nH 4 _ _ λv=>List.mem_reverse
  have ea:bG 4 (V++V)=bG 4 V:=nH 4 _ _ λv=>by rw[qp_,or_self]
  refine⟨V,rfl,cV,_,rfl,VD nm tx 4,W4,V.reverse,rfl,by rw[jn];omega,(λv h=>hV v (List.mem_reverse.mp h)),?_⟩
  rw[er]
  refine⟨_,rfl,sm _,_,rfl,aR ⟨_,rfl,sm _,_,rfl,aR ?_⟩⟩
  refine⟨_,rfl,jZ (λz=>?_) (λz=>hN _ ⟨_,_,_,_,_,rfl⟩)⟩
  refine⟨V,rfl,cV,V,rfl,cV,by omega,VD nm tx 4,W4,V++V,rfl,by rw[b9];omega,(λv h=>(qp_.mp h).elim (hV v) (hV v)),?_⟩
  rw[ea]
  exact⟨_,rfl,sm _,_,rfl,aR (hN _ ⟨_,_,_,_,_,rfl⟩)⟩
end
end My
namespace My
open PySem L2 PyProof.Rows
open WordM
open PySem
theorem all_mk{l:W.OpenLaw}{w:World}{K:W.Frag}{h:Heap}{mg:Str->Option Value}{fa:Addr}(X:K.In h)(G:h.Ns mainGlobals mg)(hfa:mg "law"=some (.ref fa)){f54:Addr}{v_54 t_54:Option Addr}{p_54:Array (Option Value)}{u_54 w_54 x_54 y_54 r_54 q_54:Value}
 (h0_:ak K mg "kind_of" xq)
 (h1_:ak K mg "divisor_of" xp)
 (h2_:ak K mg "run_of" xo)
 (h3_:ak K mg "telling_numbers" xn)
 (h4_:ak K mg "run_joined" xl)
 (h5_:ak K mg "has_mark" wy)
 (h6_:ak K mg "marks_of" wx)
 (h7_:ak K mg "marks_joined" xk)
 (h8_:ak K mg "shared_head" xj)
 (h9_:ak K mg "make_of" s_)
 (h10_:ak K mg "words_of" yI)
 (h11_:ak K mg "as_make" yH)
 (h12_:ak K mg "with_shorter_head" yG)
 (h13_:ak K mg "makes_joined" yF)
 (h14_:ak K mg "words_joined" yE)
 (h15_:ak K mg "part_kind" yD)
 (h16_:ak K mg "part_for" yC)
 (h17_:ak K mg "forms_within" tJ)
 (h18_:ak K mg "list_part" tI)
 (h19_:ak K mg "dict_part" mW)
 (h20_:ak K mg "part_of" tH)
 (h21_:ak K mg "form_of" tG)
 (h22_:ak K mg "fields_by_name" tF)
 (h23_:ak K mg "field_joined" pI)
 (h24_:ak K mg "records_joined" pH)
 (h25_:ak K mg "name_words" tE)
 (h26_:ak K mg "tables_joined" pG)
 (h27_:ak K mg "dicts_joined" pF)
 (h28_:ak K mg "lists_joined" pE)
 (h29_:ak K mg "parts_joined" pD)
 (h30_:ak K mg "joined" mV)
 (h31_:ak K mg "all_joined" mU)
 (h32_:ak K mg "told" pC)
 (h33_:ak K mg "_law_mixed" yB)
 (h34_:ak K mg "_law_deck" yA)
 (h35_:ak K mg "_law_take" xZ)
 (h36_:ak K mg "_law_signs" xY)
 (h37_:ak K mg "_law_text" xX)
 (h38_:ak K mg "_law_unlike" xW)
 (h39_:ak K mg "_law_far" xV)
 (h40_:ak K mg "_law_world" tD)
 (h41_:ak K mg "_law_number" xU)
 (h42_:ak K mg "_law_leaf" xT)
 (h43_:ak K mg "_law_dict" sZ)
 (h44_:ak K mg "_law_value" pB)
 (h45_:ak K mg "_law_samples" sX)
 (h46_:ak K mg "_law_copy" kZ)
 (h47_:ak K mg "_law_same" mT)
 (h48_:ak K mg "_law_divisor" xS)
 (h49_:ak K mg "_law_mark" xR)
 (h50_:ak K mg "_law_words" kY)
 (h51_:ak K mg "_law_run" xQ)
 (h52_:ak K mg "_law_dicts" kX)
 (h53_:ak K mg "_law_due" gR)
 (a54:W.nsIn K mainGlobals "law"=some (some (.ref f54))) (l54:K.lookup f54=some ⟨u_54,v_54,.func (W.fnOf "law" "law" (gG iG) (eK iG) (aN iG) .none w_54 x_54 y_54 t_54 r_54 q_54),p_54⟩) (c54:W.codeIn K r_54 "law"=true) (k54:W.keepIn K (.ref f54)=true)
    (z0:W.nsIn K mainGlobals "len"=some none) (z1:W.nsIn K mainGlobals "range"=some none) (z2:W.nsIn K mainGlobals "isinstance"=some none) (z3:W.nsIn K mainGlobals "int"=some none) (z4:W.nsIn K mainGlobals "bool"=some none) (z5:W.nsIn K mainGlobals "str"=some none) (z6:W.nsIn K mainGlobals "list"=some none) (z7:W.nsIn K mainGlobals "tuple"=some none) (z8:W.nsIn K mainGlobals "dict"=some none) (z9:W.nsIn K mainGlobals "sum"=some none) (z10:W.nsIn K mainGlobals "min"=some none) (z11:W.nsIn K mainGlobals "max"=some none) (z12:W.nsIn K mainGlobals "all"=some none) (z13:W.nsIn K mainGlobals "any"=some none) (z14:W.nsIn K mainGlobals "abs"=some none) (z15:W.nsIn K mainGlobals "zip"=some none) (z16:W.nsIn K mainGlobals "sorted"=some none) (z17:W.nsIn K mainGlobals "set"=some none) (z18:W.nsIn K mainGlobals "enumerate"=some none) {aSIGNS aMARKS aPK:Addr} {tk1 tk2 tk3 tk4 tk5 tk6 tk7 tk8 um1 um2 um3 um4 tp1 tp2 tp3 tp4 tp5 tp6 tp7 tp8 tp9 tp10 tp11 tp12 tp13 tp14:Tok} {epS nM epP:Nat} {ddM:Option Addr} {slM:Array (Option Value)} {aKN:Addr} {uk1 uk2 uk3 uk4 uk5 uk6:Tok} {nK:Nat} {slK:Array (Option Value)} {tkF tkF8:Tok}
    (aS:W.nsIn K mainGlobals "SIGNS"=some (some (.ref aSIGNS)))
    (lS:K.lookup aSIGNS=some ⟨.type "dict",none,.dict #[{hash:=PyData.keyHash w.params ("figure":Str),key:=.str "figure" tk1,val:=.str "0123456789" tk2},{hash:=PyData.keyHash w.params ("great":Str),key:=.str "great" tk3,val:=.str "ABCDEFGHIJKLMNOPQRSTUVWXYZ" tk4},{hash:=PyData.keyHash w.params ("other":Str),key:=.str "other" tk5,val:=.str " !\"#$&'()*+,-./:;<=>?\x40[\\]^_`{|}~" tk6},{hash:=PyData.keyHash w.params ("small":Str),key:=.str "small" tk7,val:=.str "abcdefghijklmnopqrstuvwxyz" tk8}] epS,#[]⟩)
    (aM:W.nsIn K mainGlobals "MARKS"=some (some (.ref aMARKS)))
    (lM:K.lookup aMARKS=some ⟨.type "tuple",ddM,.seq #[.str "figure" um1,.str "great" um2,.str "other" um3,.str "small" um4] nM,slM⟩)
    (aP:W.nsIn K mainGlobals "PART_KINDS"=some (some (.ref aPK)))
    (lP:K.lookup aPK=some ⟨.type "dict",none,.dict #[{hash:=PyData.keyHash w.params ("nothing":Str),key:=.str "nothing" tp1,val:=.str "nothing" tp2},{hash:=PyData.keyHash w.params ("truths":Str),key:=.str "truths" tp3,val:=.str "truth" tp4},{hash:=PyData.keyHash w.params ("numbers":Str),key:=.str "numbers" tp5,val:=.str "number" tp6},{hash:=PyData.keyHash w.params ("texts":Str),key:=.str "texts" tp7,val:=.str "text" tp8},{hash:=PyData.keyHash w.params ("lists":Str),key:=.str "lists" tp9,val:=.str "list" tp10},{hash:=PyData.keyHash w.params ("record":Str),key:=.str "record" tp11,val:=.str "dict" tp12},{hash:=PyData.keyHash w.params ("table":Str),key:=.str "table" tp13,val:=.str "dict" tp14}] epP,#[]⟩)
    (aK:W.nsIn K mainGlobals "KINDS"=some (some (.ref aKN)))
    (lK:K.lookup aKN=some ⟨.type "tuple",none,.seq #[.str "nothing" uk1,.str "truth" uk2,.str "number" uk3,.str "text" uk4,.str "list" uk5,.str "dict" uk6] nK,slK⟩)
    (aF:W.nsIn K mainGlobals "MOST_FEW"=some (some (.int 6 tkF)))
    (aF8:W.nsIn K mainGlobals "MOST_FIELDS"=some (some (.int 8 tkF8))):
    ∃fd:FuncData,(∀(s:Shared) (v:Value),BindsTo s fd ⟨[v],[]⟩ [("_law_script",v)])/\∀base:Heap,K.In base->base.Ns mainGlobals mg->df l.prog w K mg base nr 50 fa fd ["_law_script"] (sD K):=by
  have e:=hfa.symm.trans (PySem.W.mg_of X G a54)
  cases e
  have B:Own mg:=Gb X G z0 z1 z2 z3 z4 z5 z6 z7 z8 z9 z10 z11 z12 z13 z14 z15 z16 z17 z18
  refine⟨W.fnOf "law" "law" (gG iG) (eK iG) (aN iG) .none w_54 x_54 y_54 t_54 r_54 q_54,λs v=>.of_eq rfl,λbase KB GB=>?_⟩
  have GSIGNS:pA K w.params mg "SIGNS" t7:=⟨aSIGNS,PySem.W.mg_of X G aS,⟨⟨_,_,lS,⟨rfl,⟨_,rfl⟩,⟨_,rfl⟩,rfl,⟨_,rfl⟩,⟨_,rfl⟩,rfl,⟨_,rfl⟩,⟨_,rfl⟩,rfl,⟨_,rfl⟩,⟨_,rfl⟩,trivial⟩⟩,by decide +kernel⟩⟩
  have GPART_KINDS:pA K w.params mg "PART_KINDS" yY:=⟨aPK,PySem.W.mg_of X G aP,⟨⟨_,_,lP,⟨rfl,⟨_,rfl⟩,⟨_,rfl⟩,rfl,⟨_,rfl⟩,⟨_,rfl⟩,rfl,⟨_,rfl⟩,⟨_,rfl⟩,rfl,⟨_,rfl⟩,⟨_,rfl⟩,rfl,⟨_,rfl⟩,⟨_,rfl⟩,rfl,⟨_,rfl⟩,⟨_,rfl⟩,rfl,⟨_,rfl⟩,⟨_,rfl⟩,trivial⟩⟩,by decide +kernel⟩⟩
  have TM:∀H,cu K H aMARKS (MK.map V.str):=λH=>.inr ⟨_,_,_,lM,rfl,rfl,by show 4<=sizeLine;decide,.cons ⟨_,rfl⟩ (.cons ⟨_,rfl⟩ (.cons ⟨_,rfl⟩ (.cons ⟨_,rfl⟩ .nil)))⟩
  have GMARKS:eI K mg "MARKS" (.seq true (MK.map sT)):=A_ (PySem.W.mg_of X G aM) TM
  have TKN:∀H,cu K H aKN ((kN6.map cS).map V.str):=λH=>.inr ⟨_,_,_,lK,rfl,rfl,by show 6<=sizeLine;decide,.cons ⟨_,rfl⟩ (.cons ⟨_,rfl⟩ (.cons ⟨_,rfl⟩ (.cons ⟨_,rfl⟩ (.cons ⟨_,rfl⟩ (.cons ⟨_,rfl⟩ .nil)))))⟩
  have GKINDS:eI K mg "KINDS" (.seq true (kN6.map λk=>sT (cS k))):=A_ (PySem.W.mg_of X G aK) TKN
  have GMOST_FEW:eI K mg "MOST_FEW" (iT 6):=⟨.int 6,_,PySem.W.mg_of X G aF,⟨_,rfl⟩,λH=>.flat rfl⟩
  have GMOST_FIELDS:eI K mg "MOST_FIELDS" (iT 8):=⟨.int 8,_,PySem.W.mg_of X G aF8,⟨_,rfl⟩,λH=>.flat rfl⟩
  have G35_:ae l.prog w K mg base 2 "_law_take" ["_law_deck_here","_law_most"] fT:=cv.take (GD h35_ (JA h33_))
  have G36_:ae l.prog w K mg base 1 "_law_signs" [] rD:=EJ h36_ B 
  have G37_:ae l.prog w K mg base 3 "_law_text" ["_law_deck_here","_law_most"] rS:=EK h37_ B G36_ G35_
  have G38_:ae l.prog w K mg base 4 "_law_unlike" ["_law_deck_here","_law_many","_law_most"] vF:=EL h38_ B G36_ G37_
  have G39_:ae l.prog w K mg base 3 "_law_far" ["_law_deck_here"] sH:=EM h39_ B G35_
  have G40_:ae l.prog w K mg base 5 "_law_world" ["_law_deck_here"] wD:=EN h40_ B G35_ G38_ G37_ G39_
  have G41_:ae l.prog w K mg base 4 "_law_number" ["_law_deck_here","_law_world_here"] vH:=EO h41_ B G35_ G39_
  have G42_:ae l.prog w K mg base 5 "_law_leaf" ["_law_deck_here","_law_world_here"] oM:=ER h42_ B G35_ G41_
  have G0_:ae l.prog w K mg base 1 "kind_of" ["value"] rT:=NP h0_ B 
  have G5_:ae l.prog w K mg base 1 "has_mark" ["text","mark"] uR:=NK h5_ B GSIGNS
  have G6_:ae l.prog w K mg base 2 "marks_of" ["text"] qG:=NJ h6_ B G5_ GMARKS
  have G15_:ae l.prog w K mg base 1 "part_kind" ["part"] uF:=DD h15_ B GPART_KINDS
  have G16_:ae l.prog w K mg base 2 "part_for" ["form","kind"] nG:=DE h16_ B G15_
  have G1_:ae l.prog w K mg base 1 "divisor_of" ["one","other"] xK:=NO h1_ B 
  have G3_:ae l.prog w K mg base 1 "telling_numbers" ["run"] uO:=NM h3_ B 
  have G2_:ae l.prog w K mg base 2 "run_of" ["numbers"] wE:=NN h2_ B G1_
  have G4_:ae l.prog w K mg base 3 "run_joined" ["one","other"] oK:=NL h4_ B G2_ G3_
  have G7_:ae l.prog w K mg base 1 "marks_joined" ["one","other"] tM:=NI h7_ B 
  have G8_:ae l.prog w K mg base 1 "shared_head" ["one","other"] tK:=NH h8_ B 
  have G9_:ae l.prog w K mg base 3 "make_of" ["texts"] qV:=NG h9_ B G8_ G6_
  have G10_:ae l.prog w K mg base 4 "words_of" ["texts"] kF:=Dy h10_ B G9_ GMOST_FEW
  have G11_:ae l.prog w K mg base 4 "as_make" ["words"] vJ:=Dz h11_ B G9_
  have G12_:ae l.prog w K mg base 3 "with_shorter_head" ["make","head"] uP:=DA h12_ B G7_ G6_
  have G13_:ae l.prog w K mg base 4 "makes_joined" ["one","other"] vI:=DB h13_ B G8_ G12_ G7_
  have G14_:ae l.prog w K mg base 5 "words_joined" ["one","other"] lR:=DC h14_ B G10_ G13_ G11_
  have G22_:ae l.prog w K mg base 1 "fields_by_name" ["record"] mY:=DJ h22_ B 
  have G25_:ae l.prog w K mg base 5 "name_words" ["part"] pK:=DM h25_ B G10_
  have G17_:ae l.prog w K mg base 1 "forms_within" ["part"] pL:=DF h17_ B 
  have G44_:ae l.prog w K mg base 14 "_law_value" ["_law_deck_here","_law_world_here","_law_deep","_law_way"] (lY 4):=vP h44_ h43_ B G35_ G42_ 4
  have G49_:ae l.prog w K mg base 1 "_law_mark" ["_law_sign"] xA:=Ek h49_ B 
  have G48_:ae l.prog w K mg base 1 "_law_divisor" ["_law_one","_law_other"] uS:=Ej h48_ B 
  have G51_:ae l.prog w K mg base 2 "_law_run" ["_law_numbers"] sG:=Em h51_ B G48_
  have G50_:ae l.prog w K mg base 2 "_law_words" ["_law_texts"] nU:=El h50_ B G49_
  have G53_:ae l.prog w K mg base 13 "_law_due" ["_law_values"] (mL 5):=xD h53_ h52_ B G51_ G50_ 5
  have G47_:ae l.prog w K mg base 23 "_law_same" ["_law_one","_law_other"] (oJ 22):=Ad h47_ B 22
  have G46_:oZ l.prog w K mg base 6 "_law_copy" ["_law_value_here"] xB:=JB h46_ B (A9 h46_ B 4)
  have G45_:ae l.prog w K mg base 15 "_law_samples" ["_law_deck_here","_law_world_here","_law_many"] uQ:=Eg h45_ B G35_ G44_
  have Gj:∀n:Nat,ae l.prog w K mg base (9*n+9) "joined" ["one","other"] (ph (bG n) (WD n)):=λn=>Ac h30_ h29_ h28_ h27_ h26_ h31_ h24_ h23_ B G16_ G4_ G14_ G22_ G25_ G17_ GMOST_FIELDS GKINDS n
  have G32_:=(Ae h32_ h21_ h20_ h18_ h19_ h31_ B G0_ G10_ GMOST_FIELDS Gj 4).2
  exact F3 (Ap (st:=iG) l54 c54 k54) B (GC h34_ B) G40_ G47_ G32_ G35_ G45_ G42_ G53_ G46_ 
def walk{l:W.OpenLaw}{q:Program}{loose:List Str}{XP:(Str->Option Value)->Heap->Prop}{YP:World->Heap->Prop}{d:DefRec}{K:Params->W.Frag}(hn:l.most=some 63)(hdf:d.params.defaults=[])
  (hY:∀(w:World) (h:Heap),YP w h->(K w.params).In h)
  (F:∀(w:World) (mg:Str->Option Value) (fa:Addr) (h:Heap),(K w.params).In h->h.Ns mainGlobals mg->mg d.name=some (.ref fa) ->
   ∃fd:FuncData,(∀(s:Shared) (u:Value),BindsTo s fd ⟨[u],[]⟩ [("_law_script",u)])/\∀base:Heap,(K w.params).In base->base.Ns mainGlobals mg->df l.prog w (K w.params) mg base nr 50 fa fd ["_law_script"] (sD (K w.params))):
  PySem.W.WalkO q loose XP YP l.row.toRowW d [] (λf vs=>PySem.call f vs):=
 L2.walk_of (n:=63) (k:=50) (x:="_law_script") (CX:=λ_=>nr) (sp:=λw=>sD (K w.params)) hn (by decide) hdf ⟨rfl,by decide,by decide,rfl⟩ hY F (λ_ _ a ns hl _ hS=>⟨a,ns,rfl,hS,hl,λ_=>rfl⟩) λ_ _ _ _ _ z=>z
end My
inductive PySem.W.Fast:Prop
|tw2282795200267807025
|tw14782362639409060032
|tw8562502555821053120
|tw9507012986201250496
|tw645870071269886720
|tw9246080704205486944
|tw4078389376598735808
|tw10778304557415945281
|tw4608093486061595969
|tw16117742848489578945
|tw14355227578468247169
|tw12752579380932733665
|tw5110209598649957762
|tw15609935495856679394
|tw10915791994850875010
|tw13049900834919491202
|tw4295615065748267107
|tw17165020142051245251
|tw3954479382291599715
|tw15134682067257248131
|tw9419337405571553699
|tw17047609658501174019
|tw13570587109808104291
|tw8773863363857996228
|tw7594854872138945988
|tw4924712620960037476
|tw9966898114838095556
|tw10321690176213849924
|tw16101251468091385668
|tw4241188694910054276
|tw1222047468752072709
|tw684500697946611877
|tw3906563084585971525
|tw812844968520121189
|tw774316904793636741
|tw2360614250391670693
|tw17592991500009045957
|tw11988301261953950022
|tw17832895906129720134
|tw10598246771445990791
|tw8262786906343548487
|tw9555059454478502759
|tw6829787700073621512
|tw12916943708150711560
|tw9771367849264419208
|tw3583902753091672520
|tw16480451976315721640
|tw11029988422860657769
|tw7639220708908786825
|tw10326291770460857545
|tw16577561500368628425
|tw9277211205528492905
|tw13863812341472291753
|tw4002497847896877098
|tw7155963188109304010
|tw10441187179790519946
|tw12071974967463809035
|tw420414963232498859
|tw8563844260610448683
|tw11965993138369406571
|tw15927421366767545740
|tw4981782296215109228
|tw11268595517963931596
|tw7269538874161051853
|tw3723542263591675213
|tw9392622016319751629
|tw4018453286850194189
|tw10342961227209625581
|tw8207442964619387694
|tw1421745349273216175
|tw8104856323304554831
|tw10361799979172408879
|tw3700334451983452719
|tw5647335391045266223
|tw10632375969096425263
|tw9011636224640600336
|tw9579537123305965872
|tw15142331929137213168
|tw6544783772482730736
|tw2290407711416750896
|tw4001091069910123440
|tw9052075125328115632
|tw2894762758422230865
|tw10927808938535081937
|tw8354284839921407058
|tw15470559497724969074
|tw12525576043638129234
|tw7825656131052344018
|tw9559773127467889522
|tw8098979996295669779
|tw3603867446175751347
|tw9639415837695045619
|tw12234743397569524788
|tw1932494391567754420
|tw17420209461410147508
|tw15796867500112483445
|tw938413928050893973
|tw14483404587859474677
|tw16874373468235750165
|tw10525365906729369461
|tw14800894337341608342
|tw16134593868257551063
|tw2498494748226238263
|tw8433548051687582711
|tw17579868955297049816
|tw11835740359999924632
|tw1402391594799323544
|tw667377720895565336
|tw341992891452820344
|tw3343472009705499576
|tw7085940013002547321
|tw18367247872339809657
|tw9910665615561210265
|tw11472115684914782745
|tw18259995569842926137
|tw14587153436291704729
|tw1414865772122450202
|tw3120055416356527514
|tw14813075559393038202
|tw11153172066506371547
|tw15934473893233941371
|tw10847531901319450587
|tw18428001785522601276
|tw17347259092135311164
|tw8559827706760827804
|tw16697759639117920893
|tw10398208686056764670
|tw170819341706247454
|tw8200618893546246494
|tw16732090864967408094
|tw1927864176555059742
|tw2817237615523337950
|tw8885503542767207198
|tw17180141105323728766
|tw456120747730147455
|tw18416492434689602847
|tw8706668236417145599
|tw4174569724189442847
|tw2342601083598434239
open PySem PySem.W PyProof.Rows
set_option maxRecDepth 100000 in
set_option maxHeartbeats 0 in
theorem PySem.Challenge.cw_leastform_k43_told_of_samples_holds : PySem.Challenge.rw_leastform_k43_told_of_samples.Holds := by
 w_on; o_law; k_head; (case hw => w_witness2)
 k_fill
 refine My.walk (l := PySem.Challenge.rw_leastform_k43_told_of_samples) rfl rfl (fun w h Y => PySem.W.kIn_of Y) ?F
 case F =>
  intro w mg fa h KX G hmg
  refine' My.all_mk KX G hmg (L2.has_mk KX G ?a0 ?l0 ?c0 ?k0) (L2.has_mk KX G ?a1 ?l1 ?c1 ?k1) (L2.has_mk KX G ?a2 ?l2 ?c2 ?k2) (L2.has_mk KX G ?a3 ?l3 ?c3 ?k3) (L2.has_mk KX G ?a4 ?l4 ?c4 ?k4) (L2.has_mk KX G ?a5 ?l5 ?c5 ?k5) (L2.has_mk KX G ?a6 ?l6 ?c6 ?k6) (L2.has_mk KX G ?a7 ?l7 ?c7 ?k7) (L2.has_mk KX G ?a8 ?l8 ?c8 ?k8) (L2.has_mk KX G ?a9 ?l9 ?c9 ?k9) (L2.has_mk KX G ?a10 ?l10 ?c10 ?k10) (L2.has_mk KX G ?a11 ?l11 ?c11 ?k11) (L2.has_mk KX G ?a12 ?l12 ?c12 ?k12) (L2.has_mk KX G ?a13 ?l13 ?c13 ?k13) (L2.has_mk KX G ?a14 ?l14 ?c14 ?k14) (L2.has_mk KX G ?a15 ?l15 ?c15 ?k15) (L2.has_mk KX G ?a16 ?l16 ?c16 ?k16) (L2.has_mk KX G ?a17 ?l17 ?c17 ?k17) (L2.has_mk KX G ?a18 ?l18 ?c18 ?k18) (L2.has_mk KX G ?a19 ?l19 ?c19 ?k19) (L2.has_mk KX G ?a20 ?l20 ?c20 ?k20) (L2.has_mk KX G ?a21 ?l21 ?c21 ?k21) (L2.has_mk KX G ?a22 ?l22 ?c22 ?k22) (L2.has_mk KX G ?a23 ?l23 ?c23 ?k23) (L2.has_mk KX G ?a24 ?l24 ?c24 ?k24) (L2.has_mk KX G ?a25 ?l25 ?c25 ?k25) (L2.has_mk KX G ?a26 ?l26 ?c26 ?k26) (L2.has_mk KX G ?a27 ?l27 ?c27 ?k27) (L2.has_mk KX G ?a28 ?l28 ?c28 ?k28) (L2.has_mk KX G ?a29 ?l29 ?c29 ?k29) (L2.has_mk KX G ?a30 ?l30 ?c30 ?k30) (L2.has_mk KX G ?a31 ?l31 ?c31 ?k31) (L2.has_mk KX G ?a32 ?l32 ?c32 ?k32) (L2.has_mk KX G ?a33 ?l33 ?c33 ?k33) (L2.has_mk KX G ?a34 ?l34 ?c34 ?k34) (L2.has_mk KX G ?a35 ?l35 ?c35 ?k35) (L2.has_mk KX G ?a36 ?l36 ?c36 ?k36) (L2.has_mk KX G ?a37 ?l37 ?c37 ?k37) (L2.has_mk KX G ?a38 ?l38 ?c38 ?k38) (L2.has_mk KX G ?a39 ?l39 ?c39 ?k39) (L2.has_mk KX G ?a40 ?l40 ?c40 ?k40) (L2.has_mk KX G ?a41 ?l41 ?c41 ?k41) (L2.has_mk KX G ?a42 ?l42 ?c42 ?k42) (L2.has_mk KX G ?a43 ?l43 ?c43 ?k43) (L2.has_mk KX G ?a44 ?l44 ?c44 ?k44) (L2.has_mk KX G ?a45 ?l45 ?c45 ?k45) (L2.has_mk KX G ?a46 ?l46 ?c46 ?k46) (L2.has_mk KX G ?a47 ?l47 ?c47 ?k47) (L2.has_mk KX G ?a48 ?l48 ?c48 ?k48) (L2.has_mk KX G ?a49 ?l49 ?c49 ?k49) (L2.has_mk KX G ?a50 ?l50 ?c50 ?k50) (L2.has_mk KX G ?a51 ?l51 ?c51 ?k51) (L2.has_mk KX G ?a52 ?l52 ?c52 ?k52) (L2.has_mk KX G ?a53 ?l53 ?c53 ?k53) ?a54 ?l54 ?c54 ?k54 ?z0 ?z1 ?z2 ?z3 ?z4 ?z5 ?z6 ?z7 ?z8 ?z9 ?z10 ?z11 ?z12 ?z13 ?z14 ?z15 ?z16 ?z17 ?z18 ?aS ?lS ?aM ?lM ?aP ?lP ?aK ?lK ?aF ?aF8
  any_goals k_is
