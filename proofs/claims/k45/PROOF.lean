import PyProof.Rows.All
import Wide.All
import OpenK.AllK
import PySem.Challenge.RW_leastform_k45_cores_of_samples
set_option Elab.async false
set_option linter.all false
set_option maxRecDepth 100000
set_option maxHeartbeats 4000000
def af:=@PySem.wpAny_bind
def aj:=@PySem.wpAny_pure
def ak:=@List.length_map
def ba:=@Nat.le_refl
def bc:=@PySem.Heap.get?_push_of_some
def qf_:=@List.mem_map
def bj:=@PySem.Heap.lt_size
def qh_:=@List.mem_cons
def bw:=@Nat.le_trans
def b6:=@List.getElem?_eq_getElem
def b7:=@List.length_append
def cf:=@PySem.Heap.get?_push_size
def ck:=@List.size_toArray
def cn:=@Bool.false_ne_true
def cu:=@Nat.ne_of_lt
def qp_:=@List.mem_append
def da:=@List.not_mem_nil
def dg:=@PySem.boot_len
def di:=@Array.length_toList
def dq:=@Nat.zero_le
def dz:=@List.map_cons
def fe:=@List.mem_append_right
def fg:=@List.map_map
def qx_:=@List.getElem?_eq_some_iff
def fo:=@List.getElem?_map
def fw:=@Array.getElem?_toList
def m5:=@Bool.false_eq_true
def qB_:=@List.mem_singleton
def gq:=@List.mem_of_getElem?
def g6:=@List.length_cons
def g5:=@PySem.wpAny_setState_of
def g4:=@PySem.PassesOwn.never
def ie:=@List.filterMap_cons
def ic:=@List.mem_append_left
def ib:=@PySem.Heap.size_push
def ia:=@List.map_append
def h_:=@PySem.wpAny_holding
def qL_:=@List.any_eq_true
def qM_:=@List.mem_filterMap
def i5:=@List.filterMap_append
def i4:=@decide_eq_false
def je:=@Nat.ne_of_gt
def jd:=@decide_eq_true
def jc:=@PySem.W.mg_none_of
def jk:=@List.append_nil
def jj:=@List.length_take
def ji:=@Array.getElem?_eq_getElem
def j0:=@Nat.le_of_lt
def jz:=@PySem.wpAny_call_entry
def kh:=@Nat.lt_of_lt_of_le
def kg:=@List.getD_eq_getElem?_getD
def kf:=@of_decide_eq_true
def e_:=@Nat.lt_irrefl
def e9:=@Bool.and_eq_true
def e7:=@PySem.Heap.get?_update_self
def qd1_:=@Option.map_eq_some_iff
def d_:=@List.take_length
def qf1_:=@List.not_lt
def d9:=@List.find?_cons
def qh1_:=@List.mem_flatMap
def qi1_:=@List.mem_flatten
def d8:=@PySem.wpAny_newObj_type
def fj:=@List.mem_cons_of_mem
def fh:=@Nat.lt_trans
def f9:=@List.foldl_cons
def f7:=@List.take_add_one
def gp:=@List.getElem?_set_self
def qp1_:=@List.all_eq_true
def gn:=@List.length_reverse
def gk:=@Nat.lt_succ_of_lt
def gj:=@List.nil_append
def gi:=@PySem.wpAny_setField_rec
def h9:=@List.mem_cons_self
def g_:=@List.getElem?_set_ne
def g9:=@List.replicate_succ
def g8:=@List.flatten_cons
def g7:=@Nat.le_succ
def qz1_:=@List.mem_range
def jb:=@List.length_set
def ja:=@List.getElem_mem
def i_:=@List.length_range
def i9:=@Bool.eq_iff_iff
def i8:=@Int.dvd_zero
def i7:=@List.exists_mem_of_ne_nil
def i6:=@PySem.codeAny_builtin
def jw:=@List.map_nil
def jv:=@List.append_assoc
def ju:=@List.any_cons
def jt:=@Nat.mul_comm
def jr:=@Int.emod_lt_of_pos
def jq:=@Int.emod_nonneg
def jo:=@Int.dvd_sub
def jn:=@Nat.mul_le_mul_right
def jl:=@PySem.Around.under_plainId
def qQ1_:=@List.nodup_cons
def j_:=@List.getElem?_append_right
def j9:=@List.getElem?_append_left
def j8:=@Bool.or_false
def j7:=@List.eq_nil_of_length_eq_zero
def j6:=@List.nodup_nil
def j5:=@List.sizeOf_lt_of_mem
def qX1_:=@List.eq_nil_iff_forall_not_mem
def qY1_:=@List.length_pos_iff
def qZ1_:=@List.mem_filter
def l_:=@PySem.Heap.get?_update_other
def lu:=@List.length_singleton
def lr:=@List.lookup_cons
def k_:=@List.getElem?_drop
def qe2_:=@List.pairwise_map
def kz:=@Nat.lt_succ_self
def ky:=@List.getElem?_eq_none
def kx:=@Array.toArray_toList
def qi2_:=@List.mem_iff_getElem
def ku:=@Int.le_refl
def kr:=@Int.dvd_trans
def ko:=@List.perm_ext_iff_of_nodup
def kn:=@List.cons_append
def qn2_:=@List.append_eq_nil_iff
def qo2_:=@List.filterMap_eq_nil_iff
def kj:=@List.length_filterMap_le
def mz:=@List.getElem?_replicate
def my:=@List.length_replicate
def mx:=@List.length_drop
def mw:=@List.map_congr_left
def qu2_:=@Array.getElem?_eq_some_iff
def mr:=@List.nodup_append
def mq:=@List.drop_zero
def mn:=@Int.dvd_add
def mi:=@Int.sub_self
def mh:=@Nat.pow_succ
def m7:=@List.any_append
def oo:=@List.filterMap_map
def om:=@List.reverse_cons
def oi:=@Nat.lt_of_le_of_lt
def oh:=@List.take_of_length_le
def og:=@List.range_succ_eq_map
def qG2_:=@Nat.not_lt
def n_:=@List.foldl_append
def n9:=@Nat.lt_or_eq_of_le
def n6:=@Bool.and_false
def nz:=@List.map_id
def ny:=@List.mem_of_mem_take
def nv:=@Nat.one_le_pow
def nr:=@Nat.mul_assoc
def qO2_:=@List.map_eq_nil_iff
def qq:=@List.all_map
def qp:=@Nat.not_lt_zero
def qo:=@Nat.mod_lt
def qm:=@List.range_succ
def ql:=@List.le_refl
def qk:=@List.le_trans
def qi:=@Bool.false_or
def qh:=@List.drop_eq_getElem_cons
def qg:=@List.take_append_drop
def qf:=@List.drop_length
def qe:=@Int.dvd_refl
def qd:=@Int.dvd_mul_right
def qb3_:=@List.pairwise_cons
def qc:=@Array.size_map
def p_:=@Bool.not_eq_true
def qe3_:=@List.cons_lt_cons_iff
def p9:=@List.length_filter_le
def p7:=@List.flatMap_append
def p6:=@List.flatten_append
def pq:=@List.take_succ_eq_append_getElem
def pk:=@Nat.le_mul_of_pos_right
def s_:=@List.of_mem_zip
def sy:=@Nat.min_le_right
def sv:=@Nat.le_of_not_lt
def su:=@List.forIn_cons
def sj:=@Int.toNat_natCast
def sf:=@Nat.lt_trichotomy
def qq3_:=@List.pairwise_iff_getElem
def se:=@Array.getElem?_eq_none
def sd:=@List.ext_getElem?
def sa:=@Option.isSome_some
def r_:=@Option.isSome_map
def r9:=@List.toList_toArray
def r8:=@List.getElem?_range
def rq:=@List.take_zero
def rp:=@List.lt_irrefl
def rn:=@List.find?_some
def qA3_:=@List.find?_eq_none
def qB3_:=@List.mem_reverse
def tj:=@Nat.le_of_succ_le_succ
def ve:=@Int.fdiv_eq_ediv_of_nonneg
def vc:=@List.eraseIdxIfInBounds_toArray
def u_:=@List.length_eraseIdx_of_lt
def qG3_:=@List.findIdx?_eq_none_iff
def u9:=@List.mem_of_find?_eq_some
def u7:=@Array.getD_eq_getD_getElem?
def u6:=@Array.isEmpty_iff_size_eq_zero
def u5:=@Int.mul_le_mul_of_nonneg_left
namespace L2
open PySem PySem.Spec PyProof.Rows
abbrev PU:List Str:=["one","other"]
abbrev PV:List Str:=["value"]
abbrev PX:List Str:=["part"]
abbrev PY:List Str:=["_law_deck_here","_law_most"]
abbrev PZ:List Str:=["_law_one","_law_other"]
abbrev P0:List Str:=["texts"]
abbrev P3:List Str:=["_law_value_here"]
abbrev P4:List Str:=["_law_deck_here","_law_world_here"]
abbrev P5:List Str:=["samples"]
abbrev P6:List Str:=["_law_deck_here"]
abbrev P7:List Str:=["record"]
abbrev P8:List Str:=["_law_values","_law_form","_law_truths","_law_numbers","_law_texts","_law_lists","_law_longs","_law_items","_law_row","_law_dicts_here"]
abbrev P9:List Str:=["_law_script"]
abbrev P_:List Str:=["_law_deck_here","_law_world_here","_law_deep","_law_way"]
abbrev Qa:List Str:=["_law_values"]
abbrev Qb:List Str:=["text","mark"]
abbrev Qc:List Str:=["form","kind"]
abbrev Qd:List Str:=["_law_sign"]
abbrev Qe:List Str:=["_law_texts"]
abbrev Qf:List Str:=["_law_numbers"]
abbrev Qg:List Str:=["_law_texts","_law_some","_law_head","_law_rests","_law_longs","_law_marks"]
abbrev Qh:List Str:=["_law_samples_here","_law_found","_law_due_here","_law_gone"]
abbrev Qi:List Str:=["_law_number_here","_law_k"]
abbrev Qj:List Str:=["_law_deck_here","_law_many","_law_most"]
abbrev Qk:List Str:=["one","other","names"]
abbrev Ql:List Str:=["_law_dicts_here","_law_names","_law_one","_law_least","_law_most","_law_values","_law_fields","_law_name"]
abbrev Qm:List Str:=["_law_samples_here","_law_found"]
abbrev Qn:List Str:=["_law_deck_here","_law_world_here","_law_many"]
abbrev Qo:List Str:=["_law_text_here","_law_head"]
abbrev Qp:List Str:=["texts","head","tails","sizes"]
abbrev Qq:List Str:=["_law_deck_here","_law_world_here","_law_deep","_law_many"]
abbrev Qr:List Str:=["_law_script","_law_deck_here","_law_world_here","_law_k","_law_samples_here","_law_handed","_law_found"]
abbrev Qs:List Str:=["_law_deck_here","_law_most","_law_names","_law_head","_law_texts","_law_start"]
abbrev Qt:List Str:=["_law_deck_here","_law_world_here","_law_way"]
abbrev Qu:List Str:=["_law_deck_here","_law_world_here","_law_deep","_law_way","_law_many"]
abbrev Qv:List Str:=["samples","forms","tails","kept","places","place"]
abbrev Qw:List Str:=["_law_deck_here","_law_world_here","_law_many","_law_way","_law_deep"]
abbrev av:=Sum Int Str
def kK:av->Value->Bool
 |.inl k,v=>Value.isInt k v
 |.inr x,v=>Value.isStrOf x v
def GL(w:World):av->Int
 |.inl k=>hashInt k
 |.inr x=>hashStr w x
def gP:∀{k:av}{v:Value},kK k v=true->(∃i t,k=Sum.inl i/\v=Value.int i t)\/(∃x t,k=Sum.inr x/\v=Value.str x t)
 |.inl i,v,h=>by
  obtain⟨t,e⟩:=Value.isInt_shape (k:=i) (v:=v) h;exact .inl ⟨i,t,rfl,e⟩
 |.inr x,v,h=>by
  obtain⟨t,e⟩:=Value.isStrOf_shape (x:=x) (v:=v) h;exact .inr ⟨x,t,rfl,e⟩
def MD(i:Int)(t:Tok):kK (.inl i) (.int i t)=true:=by simp[kK,Value.isInt]
def ME(x:Str)(t:Tok):kK (.inr x) (.str x t)=true:=by simp[kK,Value.isStrOf]
def Jk(a b:Int):decide ((Sum.inl a:av)=Sum.inl b)=(a==b):=by
 by_cases e:a=b
 ·subst e;simp
 ·have h:¬ (Sum.inl a:av)=Sum.inl b:=λq=>e (Sum.inl.inj q)
  rw[i4 h];exact(beq_eq_false_iff_ne.mpr e).symm
def Jn(a b:Str):decide ((Sum.inr a:av)=Sum.inr b)=decide (a=b):=by
 by_cases e:a=b
 ·subst e;simp
 ·have h:¬ (Sum.inr a:av)=Sum.inr b:=λq=>e (Sum.inr.inj q)
  rw[i4 h,i4 e]
def Jl(a:Int)(b:Str):decide ((Sum.inl a:av)=Sum.inr b)=false:=i4 (λq=>nomatch q)
def Jm(a:Str)(b:Int):decide ((Sum.inr a:av)=Sum.inl b)=false:=i4 (λq=>nomatch q)
def bW(prog:Program)(w:World):PySem.KeyKind prog w av where
 is:=kK
 hash:=GL w
 inj:=λv a b ha hb=>by
  rcases gP ha with⟨i,t,rfl,rfl⟩|⟨x,t,rfl,rfl⟩
  ·rcases gP hb with⟨j,u,rfl,e⟩|⟨y,u,rfl,e⟩
   ·injection e with e1 _;rw[e1]
   ·exact nomatch e
  ·rcases gP hb with⟨j,u,rfl,e⟩|⟨y,u,rfl,e⟩
   ·exact nomatch e
   ·injection e with e1 _;rw[e1]
 byValue:=λk v h=>by
  rcases gP h with⟨i,t,rfl,rfl⟩|⟨x,t,rfl,rfl⟩<;>rfl
 pyHash:=λhv h=>by
  rcases gP hv with⟨i,t,rfl,rfl⟩|⟨x,t,rfl,rfl⟩
  ·exact wpAny_pyHash_int h
  ·exact wpAny_pyHash_str h
 eqBool:=λhu hv h=>by
  rcases gP hu with⟨i,t,rfl,rfl⟩|⟨x,t,rfl,rfl⟩
  ·rcases gP hv with⟨j,u,rfl,rfl⟩|⟨y,u,rfl,rfl⟩
   ·rw[Jk]at h;exact wpAny_eqBool_int h
   ·rw[Jl]at h;exact SeqAt.EqAt.int_str i t y u _ _ _ _ h
  ·rcases gP hv with⟨j,u,rfl,rfl⟩|⟨y,u,rfl,rfl⟩
   ·rw[Jm]at h;exact SeqAt.EqAt.str_int x t j u _ _ _ _ h
   ·rw[Jn]at h;exact wpAny_eqBool_str h
 «strs»:=λk x t v h=>by
  rcases gP h with⟨i,u,rfl,e⟩|⟨y,u,rfl,e⟩
  ·exact nomatch e
  ·injection e with e1 _
   subst e1;cases v<;>rfl
def N5(prog:Program)(w:World)(i:Int)(t:Tok):(bW prog w).is (.inl i) (.int i t)=true:=MD i t
def qM(prog:Program)(w:World)(x:Str)(t:Tok):(bW prog w).is (.inr x) (.str x t)=true:=ME x t
inductive V where
 |non|bl (b:Bool)|int (i:Int)|str (x:Str)|byt (b:Array UInt8)|flt (b:UInt64)|ref (a:Addr)|ty (n:String)
 deriving DecidableEq
def ah:V->Value->Prop
 |.non,u=>u=Value.none
 |.bl b,u=>u=Value.bool b
 |.int i,u=>∃t,u=Value.int i t
 |.str x,u=>∃t,u=Value.str x t
 |.byt b,u=>∃t,u=Value.bytes b t
 |.flt b,u=>∃t,u=Value.float b t
 |.ref a,u=>u=Value.ref a
 |.ty n,u=>u=Value.type n
abbrev ai:List V->List Value->Prop:=Paired ah
def ai.length{xs:List V}{us:List Value}(r:ai xs us):xs.length=us.length:=Paired.length r
def ai.get:∀{xs:List V}{us:List Value}{i:Nat}{x:V},ai xs us->xs[i]?=some x->∃u,us[i]?=some u/\ah x u
 |_,_,_,_,.nil,e=>by simp at e
 |_,_,0,_,.cons r _,e=>by simp at e;subst e;exact⟨_,rfl,r⟩
 |_,_,i+1,x,.cons _ t,e=>by
  obtain⟨u,h1,h2⟩:=ai.get (i:=i) (x:=x) t (by simpa using e);exact⟨u,by simpa using h1,h2⟩
def ai.set{x:V}{u:Value}(r:ah x u):∀{xs:List V}{us:List Value}(i:Nat),ai xs us->ai (xs.set i x) (us.set i u)
 |_,_,_,.nil=>.nil
 |_,_,0,.cons _ t=>.cons r t
 |_,_,i+1,.cons q t=>.cons q (ai.set r i t)
def ai.append:∀{xs ys:List V}{us ws:List Value},ai xs us->ai ys ws->ai (xs++ys) (us++ws)
 |_,_,_,_,.nil,s=>s
 |_,_,_,_,.cons r t,s=>.cons r (ai.append t s)
def ai.take:∀{xs:List V}{us:List Value}(n:Nat),ai xs us->ai (xs.take n) (us.take n)
 |_,_,0,_=>.nil
 |_,_,_+1,.nil=>.nil
 |_,_,n+1,.cons r t=>.cons r (ai.take n t)
def ai.drop:∀{xs:List V}{us:List Value}(n:Nat),ai xs us->ai (xs.drop n) (us.drop n)
 |_,_,0,r=>r
 |_,_,_+1,.nil=>.nil
 |_,_,n+1,.cons _ t=>ai.drop n t
def gu:Option V->Option Value->Prop
 |some v,some u=>ah v u
 |none,none=>True
 |_,_=>False
def KV{κ:Type}:List (κ×V)->List (κ×Value)->Prop:=Paired λ(p:κ×V) (q:κ×Value)=>p.1=q.1/\ah p.2 q.2
def kV:av->V
 |.inl i=>.int i
 |.inr x=>.str x
inductive HO where
 /-- a list -/
 |lst (xs:List V)
 /-- a tuple (never changes) -/
 |tup (xs:List V)
 /-- a dict whose keys are ints and texts; one whose keys are tuples of ints and texts (the empty one is both) -/
 |dK (kvs:List (av×V))|dT (kvs:List (List av×V))
 /-- a set of ints: its members, its size -/
 |set (S:Int->Bool) (n:Nat)
 /-- an instance of the class at C, its dict at dx, its attributes -/
 |ins (C dx:Addr) (fs:List (Str×V))
 /-- the dict of the instance at x -/
 |own (x:Addr)
 /-- the dict of an exception -/
 |xd (fs:List (Str×V))
 /-- a bound method, f of x -/
 |met (f x:Addr)
 /-- a range object lo, lo + 1, .. below hi -/
 |rng (lo hi:Int)
 /-- a thing that is known to the object (the script; a dict while a loop walks it): read, never written while it is so -/
 |frz (o:Obj) (u:HO)
 /-- a code object's table -/
 |tbl (ps:Array Value)
 /-- any other thing, by what is true of its one object (a def of one's own: SetO a S n := HO.ext fun h => ..) -/
 |ext (φ:Heap->Prop)
abbrev Hp:=Addr->Option HO
def ar(H:Hp)(a:Addr)(o:HO):Hp:=λb=>if b=a then some o else H b
def bE{H:Hp}{a:Addr}{o:HO}:ar H a o a=some o:=by unfold ar;rw[if_pos rfl]
def bP{H:Hp}{a b:Addr}{o:HO}(h:b≠a):ar H a o b=H b:=by unfold ar;rw[if_neg h]
def HM{H:Hp}{a b:Addr}{o u:HO}(h:H a=some o)(h':H b=some u)(d:o≠u):a≠b:=by
 intro e;subst e;rw[h]at h';exact d (Option.some.inj h')
def dX{H:Hp}{a b:Addr}{o:HO}(h:H a=some o)(h':H b=none):a≠b:=by
 intro e;subst e;rw[h]at h';cases h'
section
variable(P:Program)(w:World)
def aw(H:Hp)(h:Heap)(a:Addr):HO->Prop
 |.lst xs=>xs.length<=sizeLine/\∃(its:List Value) (n:Nat),ai xs its/\h.get? a=some {cls:=.type "list",data:=.seq its.toArray n}
 |.tup xs=>xs.length<=sizeLine/\∃its:List Value,ai xs its/\IsTup h a its.toArray
 |.dK kvs=>kvs.length<=sizeLine/\(a==sysModules)=false/\∃vs,KV kvs vs/\h.DictOf (bW P w) a vs
 |.dT kvs=>kvs.length<=sizeLine/\(a==sysModules)=false/\∃xs:List (List av×Addr×Value),
   Paired (λ(p:List av×V) (q:List av×Addr×Value)=>p.1=q.1/\H q.2.1=some (.tup (p.1.map kV))/\ah p.2 q.2.2) kvs xs /\
   ∃o es ep,h.get? a=some o/\o.ExactDict/\o.data=.dict es ep/\es.toList=xs.map (entryOfKey (tupleKind (bW P w)))/\(xs.map (·.1)).Nodup
 |.set S n=>h.SetOf (intKind P w) a S n
 |.ins C dx fs=>H dx=some (.own a)/\fs.length<=1000/\dx≠a/\h.get? a=some (PySem.W.instObj C dx) /\
   ∃mA,h.Ns1 dx mA/\(∀f,gu (fs.lookup f) (mA f))/\PySem.Within mA (fs.map (·.1))
 |.own _=>∃o,h.get? a=some o
 |.xd fs=>∃mA,h.Ns1 a mA/\∀f,gu (fs.lookup f) (mA f)
 |.rng lo hi=>∃t u v,h.get? a=some {cls:=.type "range",data:=.fields #[.int lo t,.int hi u,.int 1 v]}
 |.frz o u=>h.get? a=some o/\aw H h a u
 |.tbl ps=>h.get? a=some {cls:=.none,data:=.fields ps}
 |.met f x=>h.get? a=some (PySem.W.methodObj (.ref f) (.ref x))
 |.ext φ=>φ h/\(∃o,h.get? a=some o)/\∀h1 h2:Heap,φ h1->(∀o,h1.get? a=some o->h2.get? a=some o)->φ h2
def d7(H:Hp)(h:Heap):Prop:=∀a o,H a=some o->aw P w H h a o
end
section
variable{P:Program}{w:World}{H H':Hp}{h h':Heap}{a:Addr}{o:HO}
def aw.lt(x:aw P w H h a o):a<h.objs.size:=by
 cases o with
 |lst xs=>obtain⟨_,_,_,_,e⟩:=x;exact bj e
 |tup xs=>obtain⟨_,_,_,p⟩:=x;exact p.lt
 |dK kvs=>obtain⟨_,_,_,_,o,_,_,e,_⟩:=x;exact bj e
 |dT kvs=>obtain⟨_,_,_,_,o,_,_,e,_⟩:=x;exact bj e
 |set S n=>obtain⟨o,_,_,_,e,_⟩:=x;exact bj e
 |ins C dx fs=>obtain⟨_,_,_,e,_⟩:=x;exact bj e
 |own y=>obtain⟨_,e⟩:=x;exact bj e
 |xd fs=>obtain⟨_,⟨_,_,_,e,_⟩,_⟩:=x;exact bj e
 |rng lo hi=>obtain⟨_,_,_,e⟩:=x;exact bj e
 |frz ob u=>obtain⟨e,_⟩:=x;exact bj e
 |tbl ps=>exact bj (show h.get? a=some _ from x)
 |met f y=>exact bj (show h.get? a=some _ from x)
 |ext φ=>obtain⟨_,⟨_,e⟩,_⟩:=x;exact bj e
def Paired.mapP{α β:Type}{F G:α->β->Prop}:∀{l₁:List α}{l₂:List β},Paired F l₁ l₂->(∀a b,F a b->G a b)->Paired G l₁ l₂
 |_,_,.nil,_=>.nil
 |_,_,.cons r t,f=>.cons (f _ _ r) (Paired.mapP t f)
def aw.stay(x:aw P w H h a o)(k:∀b u,(b=a\/H b=some (.own a))->h.get? b=some u->h'.get? b=some u)
  (ho:∀b,H b=some (.own a)->H' b=some (.own a)) (ht:∀b xs,H b=some (.tup xs)->H' b=some (.tup xs)):aw P w H' h' a o:=by
 induction o with
 |lst xs=>obtain⟨z,its,n,r,e⟩:=x;exact⟨z,its,n,r,k _ _ (.inl rfl) e⟩
 |tup xs=>obtain⟨z,its,r,ob,e,c⟩:=x;exact⟨z,its,r,ob,k _ _ (.inl rfl) e,c⟩
 |dK kvs=>obtain⟨z,y,vs,r,ob,es,ep,e,c⟩:=x;exact⟨z,y,vs,r,ob,es,ep,k _ _ (.inl rfl) e,c⟩
 |dT kvs=>
  obtain⟨z,y,xs,r,ob,es,ep,e,c⟩:=x;exact⟨z,y,xs,Paired.mapP r λp q z=>⟨z.1,ht _ _ z.2.1,z.2.2⟩,ob,es,ep,k _ _ (.inl rfl) e,c⟩
 |set S n=>obtain⟨ob,es,ep,t,e,c⟩:=x;exact⟨ob,es,ep,t,k _ _ (.inl rfl) e,c⟩
 |ins C dx fs=>
  obtain⟨d,z,ne,e,mA,⟨od,es,ep,e2,c⟩,r⟩:=x;exact⟨ho _ d,z,ne,k _ _ (.inl rfl) e,mA,⟨od,es,ep,k _ _ (.inr d) e2,c⟩,r⟩
 |own y=>obtain⟨ob,e⟩:=x;exact⟨ob,k _ _ (.inl rfl) e⟩
 |xd fs=>obtain⟨mA,⟨od,es,ep,e,c⟩,r⟩:=x;exact⟨mA,⟨od,es,ep,k _ _ (.inl rfl) e,c⟩,r⟩
 |rng lo hi=>obtain⟨t,u,v,e⟩:=x;exact⟨t,u,v,k _ _ (.inl rfl) e⟩
 |frz ob u ih=>obtain⟨e,q⟩:=x;exact⟨k _ _ (.inl rfl) e,ih q⟩
 |tbl ps=>
  have e:h.get? a=some {cls:=.none,data:=.fields ps}:=x;show h'.get? a=some {cls:=.none,data:=.fields ps};exact k a _ (.inl rfl) e
 |met f y=>
  have e:h.get? a=some (PySem.W.methodObj (.ref f) (.ref y)):=x;show h'.get? a=some (PySem.W.methodObj (.ref f) (.ref y));exact k a _ (.inl rfl) e
 |ext φ=>obtain⟨p,⟨o,e⟩,st⟩:=x;exact⟨st _ _ p λo q=>k _ _ (.inl rfl) q,⟨o,k _ _ (.inl rfl) e⟩,st⟩
def d7.lt(x:d7 P w H h)(e:H a=some o):a<h.objs.size:=(x a o e).lt
def d7.fresh(x:d7 P w H h)(e:h.objs.size<=a):H a=none:=by
 cases q:H a with
 |none=>rfl
 |some u=>exact absurd (kh (x.lt q) e) (e_ _)
def d7.kept(x:d7 P w H h)(k:∀b u,h.get? b=some u->h'.get? b=some u):d7 P w H h':=λa o e=>
 (x a o e).stay (λb u _ q=>k b u q) (λ_ q=>q) λ_ _ q=>q
def d7.laid(x:d7 P w H h)(k:∀b u,h.get? b=some u->h'.get? b=some u)(hp:h.objs.size<=a)(new:aw P w (ar H a o) h' a o):d7 P w (ar H a o) h':=λb u e=>by
 have hn:=x.fresh hp;by_cases hb:b=a
 ·subst hb;rw[bE]at e;cases e;exact new
 ·rw[bP hb]at e;exact(x b u e).stay (λc v _ q=>k c v q) (λc q=>by rw[bP (dX q hn)];exact q) λc xs q=>by rw[bP (dX q hn)];exact q
end
def Rd(H:Hp)(a:Addr)(u:HO):Prop:=H a=some u\/∃o,H a=some (.frz o u)
def Rd.ok{P:Program}{w:World}{H:Hp}{h:Heap}{a:Addr}{u:HO}(r:Rd H a u)(x:d7 P w H h):aw P w H h a u:=by
 rcases r with r|⟨o,r⟩
 ·exact x a u r
 ·obtain⟨_,q⟩:=x a _ r;exact q
def vm:Option HO->Prop
 |some (.lst _)=>True
 |some (.dK _)=>True
 |some (.dT _)=>True
 |some (.set _ _)=>True
 |some (.ins _ _ _)=>True
 |some (.ext _)=>True
 |_=>False
section
variable{P:Program}{w:World}{H:Hp}{h h':Heap}{x e:Addr}{o':HO}
def d7.write(ok:d7 P w H h)(mu:vm (H x))(he:e=x\/H e=some (.own x))(k:∀b u,b≠e->h.get? b=some u->h'.get? b=some u)(heo:∃u,h'.get? e=some u)
  (new:aw P w (ar H x o') h' x o'):d7 P w (ar H x o') h':=λb u q=>by
 have nown:∀c y,H c=some (.own y)->c≠x:=λc y r z=>by subst z;rw[r]at mu;exact mu
 have ntup:∀c xs,H c=some (.tup xs)->c≠x:=λc xs r z=>by subst z;rw[r]at mu;exact mu
 by_cases hb:b=x
 ·subst hb;rw[bE]at q;cases q;exact new
 ·rw[bP hb]at q;by_cases hbe:b=e
  ·have q':H b=some (.own x):=by
    rcases he with z|z
    ·exact absurd (hbe.trans z) hb
    ·rw[hbe];exact z
   rw[q]at q';cases q';obtain⟨v,hv⟩:=heo;exact⟨v,by rw[hbe];exact hv⟩
  ·refine(ok b u q).stay (λc v hc r=>k c v ?_ r) (λc r=>by rw[bP (nown c b r)];exact r) λc xs r=>by rw[bP (ntup c xs r)];exact r
   rcases hc with rfl|hc
   ·exact hbe
   ·rintro rfl;rcases he with z|z
    ·exact nown c b hc z
    ·rw[hc]at z;cases z;exact hb rfl
end
structure Un (fs ex:List Addr) (H H':Hp) (h h':Heap):Prop where
 keep:∀b o,h.get? b=some o->H b=none->b∉fs->b∉ex->h'.get? b=some o
 slot:∀b o,h.get? b=some o->H b=none->b∈fs->b∉ex->∃sl,h'.get? b=some {o with slots:=sl}
 free:∀b o,h.get? b=some o->H b=none->b∉ex->H' b=none
 there:∀b o,h.get? b=some o->b∉ex->∃o',h'.get? b=some o'
 tups:∀b xs,H b=some (.tup xs)->H' b=some (.tup xs)
 frzs:∀b o u,H b=some (.frz o u)->H' b=some (.frz o u)
 tbls:∀b ps,H b=some (.tbl ps)->∃more,H' b=some (.tbl (ps++more))
section
variable{fs fs' ex ex':List Addr}{H H1 H2:Hp}{h h1 h2 h':Heap}{a x e:Addr}{o:HO}
def Un.any(u:Un fs ex H H1 h h1){b:Addr}{ob:Obj}(q:h.get? b=some ob)(n:H b=none)(hx:b∉ex):∃sl,h1.get? b=some {ob with slots:=sl}:=by
 by_cases hb:b∈fs
 ·exact u.slot b ob q n hb hx
 ·exact⟨ob.slots,u.keep b ob q n hb hx⟩
def Un.kept(k:∀b u,h.get? b=some u->h'.get? b=some u):Un fs ex H H h h':=
 ⟨λb ob q _ _ _=>k b ob q,λb ob q _ _ _=>⟨ob.slots,k b ob q⟩,λ_ _ _ n _=>n,λb ob q _=>⟨ob,k b ob q⟩,λ_ _ q=>q,λ_ _ _ q=>q,λ_ ps q=>⟨#[],by rw[q];simp⟩⟩
def Un.refl:Un fs ex H H h h:=Un.kept λ_ _ q=>q
def Un.laid(k:∀b u,h.get? b=some u->h'.get? b=some u)(hp:h.objs.size<=a)(hn:H a=none):Un fs ex H (ar H a o) h h' where
 keep:=λb u q _ _ _=>k b u q
 slot:=λb u q _ _ _=>⟨u.slots,k b u q⟩
 free:=λb u q n _=>by rw[bP (cu (kh (bj q) hp))];exact n
 there:=λb u q _=>⟨u,k b u q⟩
 tups:=λb xs q=>by rw[bP (dX q hn)];exact q
 frzs:=λb u xs q=>by rw[bP (dX q hn)];exact q
 tbls:=λb ps q=>⟨#[],by rw[bP (dX q hn),q];simp⟩
def Un.write(mu:vm (H x))(he:e=x\/H e=some (.own x))(k:∀b u,b≠e->h.get? b=some u->h'.get? b=some u)(heo:∃u,h'.get? e=some u):Un fs ex H (ar H x o) h h':=by
 have hx:∀b,H b=none->b≠x:=λb n z=>by subst z;rw[n]at mu;exact mu
 have hb:∀b,H b=none->b≠e:=λb n z=>by
  subst z;rcases he with r|r
  ·exact hx b n r
  ·rw[n]at r;cases r
 have hm:∀b u,H b=some u->¬ vm (some u)->b≠x:=λb u q nm z=>by subst z;rw[q]at mu;exact nm mu
 refine⟨λb u q n _ _=>k b u (hb b n) q,λb u q n _ _=>⟨u.slots,k b u (hb b n) q⟩,λb u q n _=>by rw[bP (hx b n)];exact n,λb u q _=>?_,
  λb xs q=>by rw[bP (hm b _ q λz=>z)];exact q,λb u xs q=>by rw[bP (hm b _ q λz=>z)];exact q,λb ps q=>⟨#[],by rw[bP (hm b _ q λz=>z),q];simp⟩⟩
 by_cases hbe:b=e
 ·subst hbe;exact heo
 ·exact⟨u,k b u hbe q⟩
end
def xy(h:Heap)(H:Hp):List Addr:=(List.range h.objs.size).filter λa=>(H a).isSome
def jS(h:Heap)(H:Hp):Heap:=PySem.W.hideAll h (xy h H)
def Nr(h:Heap)(H:Hp):(jS h H).objs.size=h.objs.size:=PySem.W.hideAll_size _ _
def L3{h:Heap}{H:Hp}{b:Addr}{o:Obj}(e:h.get? b=some o)(n:H b=none):(jS h H).get? b=some o:=
 PySem.W.hideAll_get _ e λhm=>by
  have q:(H b).isSome=true:=(qZ1_.mp hm).2;rw[n]at q;simp at q
def Lp{h:Heap}{H:Hp}{b:Addr}{o:Obj}(e:(jS h H).get? b=some o):h.get? b=some o/\H b=none:=by
 have e':h.get? b=some o:=PySem.W.of_hideAll (xy h H) e;refine⟨e',?_⟩;cases q:H b with
 |none=>rfl
 |some x=>
  have hm:b∈xy h H:=qZ1_.mpr ⟨qz1_.mpr (bj e'),by simp[q]⟩;have z:(jS h H).get? b=none:=PySem.W.hideAll_none (xy h H) hm;rw[z]at e;cases e
structure Mod (K:W.Frag) (mg:Str->Option Value) (base:Heap):Prop where
 kin:K.In base
 glob:base.Ns mainGlobals mg
 blt:∃mb,base.Ns builtinsNs mb/\∀x:Str,x≠"__name__"->mb x=bootBuiltins x
 nolimit:base.NoLimit
structure Cx where
 prog:Program
 w:World
 K:W.Frag
 mg:Str->Option Value
 base:Heap
 A:Around
 N:List Str
 s₀:Shared
 H₀:Hp
 env:Env
 outer:List Env
 stack:List Env
 ex:List Addr
 fn:Str->Bool
 calm:Bool
 pn:List (Addr×Obj)
 xe:Value->Shared->Prop
def ou(l:List Env):List Addr:=l.filterMap (·.frame)
abbrev Cx.fs(X:Cx):List Addr:=ou X.outer
def oy(sc:Scope)(x:Str):Prop:=sc.names.lookup x=some .local\/sc.names.lookup x=some .cell\/sc.names.lookup x=some .free
def ma(sc:Scope)(x:Str):Prop:=sc.names.lookup x=some .local\/sc.names.lookup x=some .cell
def Fn(env:Env)(h:Heap)(m:Str->Option Value)(x:Str)(u:Value):Prop:=
 (env.kindOf x=some .local/\m x=some u)\/((env.kindOf x=some .cell\/env.kindOf x=some .free)/\∃c,env.cells.lookup x=some c/\h.IsCell c (some u))
structure Cx.Ok (X:Cx):Prop where
 mod:Mod X.K X.mg X.base
 kind:X.env.scope.kind=.function
 glob:X.env.globals=mainGlobals
 blt:X.env.builtins=builtinsNs
 above:X.s₀.heap.objs.size<=X.env.locals
 inj:∀x y c,X.env.cells.lookup x=some c->X.env.cells.lookup y=some c->x=y
 has:∀x,(X.env.kindOf x=some .cell\/X.env.kindOf x=some .free)->∃c,X.env.cells.lookup x=some c
 cab:∀x c,X.fn x=true->X.env.cells.lookup x=some c->X.s₀.heap.objs.size<=c
 hd:X.calm=true->X.A.handled=none
 frames:X.A.frames=some X.stack
 stk:X.stack=X.outer\/(X.stack=X.env::X.outer/\X.env.frame=some X.env.locals)
 exf:∀b∈X.ex,b≠X.env.locals/\∀x c,X.env.cells.lookup x=some c->c≠b
 bs:∀b o,X.base.get? b=some o->X.s₀.heap.get? b=some o/\X.H₀ b=none
 bsz:X.base.objs.size<=X.s₀.heap.objs.size
 noex:∀b o,X.base.get? b=some o->b∉X.ex
 exfs:∀b∈X.ex,b∉X.fs
 funs:X.s₀.heap.FunFrames X.base X.outer
 frf:∀b∈X.fs,X.H₀ b=none
structure ag (X:Cx) (Qx:List (Addr×Obj)) (σ:List (Option V)) (H:Hp) (s:Shared):Prop where
 ok:X.Ok
 os:s.os=X.s₀.os
 bare:AllBare s.gens
 base:Un X.fs X.ex X.H₀ H X.s₀.heap s.heap
 loc:∃m,s.heap.Ns X.env.locals m/\∀(i:Nat) (x:Str) (v:V),X.N[i]?=some x->σ[i]?=some (some v)->oy X.env.scope x->∃u,ah v u/\Fn X.env s.heap m x u
 cell:∀x c,X.env.cells.lookup x=some c->∃v,s.heap.IsCell c v
 free:H X.env.locals=none
 freeC:∀x c,X.env.cells.lookup x=some c->H c=none
 pin:∀p∈X.pn++Qx,s.heap.get? p.1=some p.2/\H p.1=none/\p.1≠X.env.locals/\p.1∉X.fs/\∀v,p.2.data≠.cell v
 hok:d7 X.prog X.w H s.heap
 len:σ.length=X.N.length
section
variable{X:Cx}{Qx:List (Addr×Obj)}{σ:List (Option V)}{H H':Hp}{s:Shared}{h':Heap}
def Cx.Ok.nofr(ok:X.Ok){b:Addr}{o:Obj}(e:X.base.get? b=some o):b∉X.fs:=λhb=>by
 have:=(ok.funs.mem hb).1;rw[e]at this;cases this
def ag.bs(I:ag X Qx σ H s):∀b o,X.base.get? b=some o->s.heap.get? b=some o/\H b=none:=λb o e=>
 ⟨I.base.keep b o (I.ok.bs b o e).1 (I.ok.bs b o e).2 (I.ok.nofr e) (I.ok.noex b o e),I.base.free b o (I.ok.bs b o e).1 (I.ok.bs b o e).2 (I.ok.noex b o e)⟩
def ag.bk(I:ag X Qx σ H s):∀b o,X.base.get? b=some o->s.heap.get? b=some o:=λb o e=>(I.bs b o e).1
def ag.mod(I:ag X Qx σ H s):Mod X.K X.mg X.base:=I.ok.mod
def ag.kIn(I:ag X Qx σ H s):X.K.In s.heap:=I.ok.mod.kin.keeps I.bk
def ag.lt(I:ag X Qx σ H s):X.env.locals<s.heap.objs.size:=let ⟨_,hn,_⟩:=I.loc;hn.lt
def ag.sz(I:ag X Qx σ H s):X.s₀.heap.objs.size<=s.heap.objs.size:=bw I.ok.above (j0 I.lt)
def ag.nofs(I:ag X Qx σ H s){a:Addr}(h:s.heap.objs.size<=a):a∉X.fs:=λhb=>by
 obtain⟨_,o,ho,_⟩:=I.ok.funs.mem hb;exact absurd (kh (bj ho) (bw I.sz h)) (e_ _)
def ag.cne(I:ag X Qx σ H s):∀x c,X.env.cells.lookup x=some c->c≠X.env.locals:=λx c e z=>by
 obtain⟨v,o,ho,hd⟩:=I.cell x c e;obtain⟨m,⟨o',es,ep,ho',hd',_⟩,_⟩:=I.loc;rw[z,ho']at ho;cases ho;rw[hd']at hd;cases hd
def ag.funs(I:ag X Qx σ H s):s.heap.FunFrames X.base X.outer:=by
 have all:∀(l:List Env),(∀b∈ou l,b∈X.fs)->X.s₀.heap.FunFrames X.base l->s.heap.FunFrames X.base l:=by
  intro l
  induction l with
  |nil=>intro _ _;trivial
  |cons env r ih=>
   intro hs hl;obtain⟨hk,⟨L,o,hf,hn,ho,hd⟩,hr⟩:=hl;have hL:L∈X.fs:=hs L (by unfold ou;rw[ie,hf];exact h9);obtain⟨sl,e⟩:=I.base.slot L o ho (I.ok.frf L hL) hL λz=>I.ok.exfs L z hL
   exact⟨hk,⟨L,_,hf,hn,e,hd⟩,ih (λb hb=>hs b (by unfold ou;rw[ie,hf];exact fj _ hb)) hr⟩
 exact all X.outer (λ_ hb=>hb) I.ok.funs
def ag.stack(I:ag X Qx σ H s):s.heap.FunFrames X.base X.stack:=by
 rcases I.ok.stk with e|⟨e,hf⟩
 ·rw[e];exact I.funs
 ·rw[e];obtain⟨m,hn,_⟩:=I.loc;refine .cons (by rw[I.ok.kind];decide) hf hn ?_ I.funs;exact Heap.get?_none_of_le (bw I.ok.bsz I.ok.above)
def ag.stkSub(I:ag X Qx σ H s):∀b∈ou X.stack,b∈X.env.locals::X.fs:=λb hb=>by
 rcases I.ok.stk with e|⟨e,hf⟩
 ·rw[e]at hb;exact fj _ hb
 ·rw[e]at hb;unfold ou at hb;rw[ie,hf]at hb;exact hb
def ag.stkFree(I:ag X Qx σ H s):∀b∈ou X.stack,H b=none:=λb hb=>by
 rcases qh_.mp (I.stkSub b hb) with e|hb
 ·rw[e];exact I.free
 ·obtain⟨_,o,ho,_⟩:=I.ok.funs.mem hb;exact I.base.free b o ho (I.ok.frf b hb) λz=>I.ok.exfs b z hb
def ag.step{g':Array GenState}{t':Nat}{d':Drawn}{ch:List Addr}(I:ag X Qx σ H s)
  (hch:∀b∈ch,(b∈X.ex\/X.s₀.heap.objs.size<=b)/\b≠X.env.locals/\(∀x c,X.env.cells.lookup x=some c->c≠b)/\∀p∈X.pn++Qx,p.1≠b)
  (keep:∀b o,b≠X.env.locals->b∉X.fs->b∉ch->s.heap.get? b=some o->H b=none->h'.get? b=some o)
  (slot:∀b o,b≠X.env.locals->b∈X.fs->b∉ch->s.heap.get? b=some o->H b=none->∃sl,h'.get? b=some {o with slots:=sl}) (free:∀b o,b∉ch->s.heap.get? b=some o->H b=none->H' b=none)
  (there:∀b o,b∉ch->s.heap.get? b=some o->∃o',h'.get? b=some o')
  (tups:∀b xs,H b=some (.tup xs)->H' b=some (.tup xs)) (frzs:∀b o u,H b=some (.frz o u)->H' b=some (.frz o u)) (tbls:∀b ps,H b=some (.tbl ps)->∃more,H' b=some (.tbl (ps++more)))
  (ns:∀m,s.heap.Ns X.env.locals m->h'.Ns X.env.locals m) (hok:d7 X.prog X.w H' h') (hg:AllBare g'):
  ag X Qx σ H' {s with heap:=h',gens:=g',drawn:=d',toks:=t'}:=by
 have neL:∀b o,X.s₀.heap.get? b=some o->b≠X.env.locals:=λb o e=>cu (kh (bj e) I.ok.above)
 have neC:∀b o,X.s₀.heap.get? b=some o->b∉X.ex->b∉ch:=λb o e hx hb=>by
  rcases (hch b hb).1 with z|z
  ·exact hx z
  ·exact absurd (kh (bj e) z) (e_ _)
 have cellK:∀x c,X.env.cells.lookup x=some c->∀v,s.heap.IsCell c v->h'.IsCell c v:=λx c e v ⟨o,ho,hd⟩=>by
  have nch:c∉ch:=λz=>(hch c z).2.2.1 x c e rfl
  by_cases hc:c∈X.fs
  ·obtain⟨sl,q⟩:=slot c o (I.cne x c e) hc nch ho (I.freeC x c e);exact⟨_,q,hd⟩
  ·exact⟨o,keep c o (I.cne x c e) hc nch ho (I.freeC x c e),hd⟩
 refine⟨I.ok,I.os,hg,⟨λb o e n hb hx=>?_,λb o e n hb hx=>?_,λb o e n hx=>?_,λb o e hx=>?_,λb xs e=>tups b xs (I.base.tups b xs e),λb o xs e=>frzs b o xs (I.base.frzs b o xs e),λb ps e=>?_⟩,?_,λx c e=>?_,?_,λx c e=>?_,λp hp=>?_,hok,I.len⟩
 ·exact keep b o (neL b o e) hb (neC b o e hx) (I.base.keep b o e n hb hx) (I.base.free b o e n hx)
 ·obtain⟨sl,e1⟩:=I.base.slot b o e n hb hx;obtain⟨sl',e2⟩:=slot b _ (neL b o e) hb (neC b o e hx) e1 (I.base.free b o e n hx);exact⟨sl',e2⟩
 ·obtain⟨o',e1⟩:=I.base.there b o e hx;exact free b o' (neC b o e hx) e1 (I.base.free b o e n hx)
 ·obtain⟨o',e1⟩:=I.base.there b o e hx;exact there b o' (neC b o e hx) e1
 ·obtain⟨m1,e1⟩:=I.base.tbls b ps e;obtain⟨m2,e2⟩:=tbls b _ e1;exact⟨m1++m2,by rw[e2,Array.append_assoc]⟩
 ·obtain⟨m,hn,hl⟩:=I.loc;refine⟨m,ns m hn,λi x v e1 e2 e3=>?_⟩;obtain⟨u,r,l⟩:=hl i x v e1 e2 e3;refine⟨u,r,?_⟩;rcases l with l|⟨k,c,e,z⟩
  ·exact .inl l
  ·exact .inr ⟨k,c,e,cellK x c e _ z⟩
 ·obtain⟨v,z⟩:=I.cell x c e;exact⟨v,cellK x c e v z⟩
 ·obtain⟨m,⟨o,_,_,ho,_⟩,_⟩:=I.loc;exact free _ o (λz=>(hch _ z).2.1 rfl) ho I.free
 ·obtain⟨v,o,ho,hd⟩:=I.cell x c e;exact free c o (λz=>(hch c z).2.2.1 x c e rfl) ho (I.freeC x c e)
 ·obtain⟨e,n,ne,nf,d⟩:=I.pin p hp;have nch:p.1∉ch:=λz=>(hch p.1 z).2.2.2 p hp rfl
  exact⟨keep p.1 p.2 ne nf nch e n,free p.1 p.2 nch e n,ne,nf,d⟩
def ag.un{t':Nat}(I:ag X Qx σ H s)(u:Un X.fs [] H H' s.heap h')(hok:d7 X.prog X.w H' h'):ag X Qx σ H' {s with heap:=h',toks:=t'}:=by
 obtain⟨m,⟨o,es,ep,ho,r⟩,_⟩:=id I.loc;obtain⟨sl,hL⟩:=u.any ho I.free (by simp);exact I.step (g':=s.gens) (d':=s.drawn) (ch:=[]) (λ_ z=>nomatch z) (λb o _ hb _ e n=>u.keep b o e n hb (by simp)) (λb o _ hb _ e n=>u.slot b o e n hb (by simp)) (λb o _ e n=>u.free b o e n (by simp)) (λb o _ e=>u.there b o e (by simp)) u.tups u.frzs u.tbls (λm' hm=>by
  obtain⟨o',es',ep',ho',r'⟩:=hm;rw[ho]at ho';cases ho';exact⟨_,es',ep',hL,r'⟩) hok I.bare
def ag.call{g':Array GenState}{t':Nat}{d':Drawn}{ch:List Addr}(I:ag X Qx σ H s)(u:Un (ou X.stack) ch H H' s.heap h')(hok:d7 X.prog X.w H' h')(hg:AllBare g')
  (hch:∀b∈ch,(b∈X.ex\/X.s₀.heap.objs.size<=b)/\b≠X.env.locals/\(∀x c,X.env.cells.lookup x=some c->c≠b)/\∀p∈X.pn++Qx,p.1≠b):
  ag X Qx σ H' {s with heap:=h',gens:=g',drawn:=d',toks:=t'}:=by
 obtain⟨m,⟨o,es,ep,ho,r⟩,_⟩:=id I.loc;obtain⟨sl,hL⟩:=u.any ho I.free λz=>(hch _ z).2.1 rfl
 exact I.step (ch:=ch) hch (λb o hL hb hc e n=>u.keep b o e n (λz=>(qh_.mp (I.stkSub b z)).elim hL hb) hc) (λb o _ _ hc e n=>u.any e n hc) (λb o hc e n=>u.free b o e n hc) (λb o hc e=>u.there b o e hc) u.tups u.frzs u.tbls (λm' hm=>by
  obtain⟨o',es',ep',ho',r'⟩:=hm;rw[ho]at ho';cases ho';exact⟨_,es',ep',hL,r'⟩) hok hg
def ag.turned{t':Nat}{it:Addr}(I:ag X Qx σ H s)(k:∀b o,b≠it->s.heap.get? b=some o->h'.get? b=some o)(hn:H it=none)(hL:it≠X.env.locals)
  (h1:it∈X.ex\/X.s₀.heap.objs.size<=it) (h2:∀x c,X.env.cells.lookup x=some c->c≠it) (h3:∀p∈X.pn++Qx,p.1≠it):ag X Qx σ H {s with heap:=h',toks:=t'}:=by
 have nit:∀b u,H b=some u->b≠it:=λb u e z=>by rw[z,hn]at e;cases e
 refine I.step (g':=s.gens) (d':=s.drawn) (ch:=[it]) (λb hb=>?_) (λb o _ _ hc e _=>k b o (λz=>hc (by simp[z])) e) (λb o _ _ hc e _=>⟨o.slots,k b o (λz=>hc (by simp[z])) e⟩) (λ_ _ _ _ n=>n)
  (λb o hc e=>⟨o,k b o (λz=>hc (by simp[z])) e⟩) (λ_ _ e=>e) (λ_ _ _ e=>e) (λb ps e=>⟨#[],by rw[e];simp⟩) (λm hm=>?_) (λb u e=>?_) I.bare
 ·have e:b=it:=by simpa using hb
  subst e;exact⟨h1,hL,h2,h3⟩
 ·obtain⟨o,es,ep,ho,r⟩:=hm;exact⟨o,es,ep,k _ o (Ne.symm hL) ho,r⟩
 ·refine(I.hok b u e).stay (λc v hc q=>k c v ?_ q) (λ_ q=>q) λ_ _ q=>q
  rcases hc with z|z
  ·rw[z];exact nit b u e
  ·exact nit c _ z
def ag.tok(I:ag X Qx σ H s)(t:Nat):ag X Qx σ H {s with toks:=t}:=I.un (h':=s.heap) (t':=t) Un.refl I.hok
def ag.kept{t':Nat}(I:ag X Qx σ H s)(k:∀b u,s.heap.get? b=some u->h'.get? b=some u):ag X Qx σ H {s with heap:=h',toks:=t'}:=I.un (Un.kept k) (I.hok.kept k)
def ag.laid{a:Addr}{o:HO}{t':Nat}(I:ag X Qx σ H s)(k:∀b u,s.heap.get? b=some u->h'.get? b=some u)(hp:s.heap.objs.size<=a)(new:aw X.prog X.w (ar H a o) h' a o):
  ag X Qx σ (ar H a o) {s with heap:=h',toks:=t'}:=I.un (Un.laid k hp (I.hok.fresh hp)) (I.hok.laid k hp new)
def ag.write{x e:Addr}{o:HO}{t':Nat}(I:ag X Qx σ H s)(mu:vm (H x))(he:e=x\/H e=some (.own x))(k:∀b u,b≠e->s.heap.get? b=some u->h'.get? b=some u)(heo:∃u,h'.get? e=some u)
  (new:aw X.prog X.w (ar H x o) h' x o):ag X Qx σ (ar H x o) {s with heap:=h',toks:=t'}:=I.un (Un.write mu he k heo) (I.hok.write mu he k heo new)
def ag.weak{σ':List (Option V)}(I:ag X Qx σ H s)(hl:σ'.length=σ.length)(w:∀(i:Nat) v,σ'[i]?=some (some v)->σ[i]?=some (some v)):ag X Qx σ' H s:=
 ⟨I.ok,I.os,I.bare,I.base,let ⟨m,hn,hl'⟩:=I.loc;⟨m,hn,λi x v e1 e2 e3=>hl' i x v e1 (w i v e2) e3⟩,I.cell,I.free,I.freeC,I.pin,I.hok,hl.trans I.len⟩
def ag.pins_of{pins':List (Addr×Obj)}(I:ag X Qx σ H s)(h:∀p∈pins',s.heap.get? p.1=some p.2/\H p.1=none/\p.1≠X.env.locals/\p.1∉X.fs/\∀v,p.2.data≠.cell v):ag X pins' σ H s:=
 ⟨I.ok,I.os,I.bare,I.base,I.loc,I.cell,I.free,I.freeC,λp hp=>(qp_.mp hp).elim (λz=>I.pin p (ic _ z)) (h p),I.hok,I.len⟩
def C6{N:List Str}(hN:N.Nodup){i j:Nat}{x:Str}(a:N[i]?=some x)(b:N[j]?=some x):i=j:=by
 obtain⟨h1,e1⟩:=qx_.mp a;obtain⟨h2,e2⟩:=qx_.mp b;exact(List.getElem_inj hN).mp (e1.trans e2.symm)
def Eu{M:Model}{A:Around}{E:Value->Shared->Prop}{i:Nat}{x:Str}{v:V}{u:Value}{Q:Unit->Shared->Prop}(I:ag X Qx σ H s)(hN:X.N.Nodup)(hi:X.N[i]?=some x)(hx:ma X.env.scope x)(r:ah v u)
  (h:∀s',ag X Qx (σ.set i (some v)) H s'->(∃a,Heap.SameBut a s.heap s'.heap/\(a=X.env.locals\/X.env.cells.lookup x=some a))->Q () s') (hf:X.fn x=true\/X.env.scope.names.lookup x=some .local:=by first|exact .inl rfl|exact .inr rfl|assumption):wpAny M A (storeName X.env x u) Q E s:=by
 obtain⟨m,hn,hl⟩:=id I.loc;have hcls:(X.env.scope.kind==.class || (X.env.scope.kind==.module&&X.env.locals != X.env.globals))=false:=by rw[I.ok.kind];rfl
 have hiσ:i<σ.length:=by rw[I.len];exact(qx_.mp hi).1
 have cne:=I.cne;have tracked:∀{a:Addr} {h':Heap},(∃o,s.heap.get? a=some o/\H a=none)->Heap.SameBut a s.heap h'->d7 X.prog X.w H h':=λ{a h'} ha hs b ob e=>by
  obtain⟨_,_,hfree⟩:=ha;refine(I.hok b ob e).stay (λc w' hc q=>(hs.2 c ?_).trans q) (λ_ q=>q) λ_ _ q=>q
  rintro rfl;rcases hc with rfl|hc
  ·rw[hfree]at e;cases e
  ·rw[hfree]at hc;cases hc
 rcases hx with hk|hk
 ·refine wpAny_storeName_local hk hn (λh' hn' hs=>?_) hcls;obtain⟨oL,_,_,hoL,_⟩:=id hn;refine h _ ⟨I.ok,I.os,I.bare,⟨λb o e n hb hx=>?_,λb o e n hb hx=>?_,I.base.free,λb o e hx=>?_,I.base.tups,I.base.frzs,I.base.tbls⟩,⟨_,hn',λj y v' e1 e2 e3=>?_⟩,λy c e=>?_,I.free,I.freeC,λp hp=>?_,tracked ⟨oL,hoL,I.free⟩ hs,by simpa using I.len⟩ ⟨_,hs,.inl rfl⟩
  ·exact(hs.2 b (cu (kh (bj e) I.ok.above))).trans (I.base.keep b o e n hb hx)
  ·obtain⟨sl,e1⟩:=I.base.slot b o e n hb hx;exact⟨sl,(hs.2 b (cu (kh (bj e) I.ok.above))).trans e1⟩
  ·obtain⟨o',e1⟩:=I.base.there b o e hx;exact⟨o',(hs.2 b (cu (kh (bj e) I.ok.above))).trans e1⟩
  ·by_cases hj:j=i
   ·subst hj;rw[hi]at e1;cases e1;rw[gp hiσ]at e2;cases e2;exact⟨u,r,.inl ⟨hk,by simp⟩⟩
   ·rw[g_ (Ne.symm hj)]at e2;obtain⟨u',r',q⟩:=hl j y v' e1 e2 e3;refine⟨u',r',?_⟩;rcases q with⟨k,e⟩|⟨k,c,e,z⟩
    ·refine .inl ⟨k,?_⟩;have:y≠x:=λe=>hj (C6 hN e1 (e▸hi))
     simp[this,e]
    ·exact .inr ⟨k,c,e,z.sameBut hs (cne y c e)⟩
  ·obtain⟨w',z⟩:=I.cell y c e;exact⟨w',z.sameBut hs (cne y c e)⟩
  ·obtain⟨e,n,ne,nf,d⟩:=I.pin p hp;exact⟨(hs.2 p.1 ne).trans e,n,ne,nf,d⟩
 ·have hfn:X.fn x=true:=by
   rcases hf with z|z
   ·exact z
   ·rw[z]at hk;cases hk
  obtain⟨c,hc⟩:=I.ok.has x (.inl hk);obtain⟨w',z⟩:=I.cell x c hc;refine wpAny_storeName_cell I.ok.kind hk hc z (λh' hc' hs=>?_);obtain⟨oc,hoc,hocd⟩:=id z;refine h {s with heap:=h'} ⟨I.ok,I.os,I.bare,⟨λb o e n hb hx=>?_,λb o e n hb hx=>?_,I.base.free,λb o e hx=>?_,I.base.tups,I.base.frzs,I.base.tbls⟩,⟨m,hn.sameBut hs (Ne.symm (cne x c hc)),λj y v' e1 e2 e3=>?_⟩,λy c' e=>?_,I.free,I.freeC,λp hp=>?_,tracked ⟨oc,hoc,I.freeC x c hc⟩ hs,by simpa using I.len⟩ ⟨c,hs,.inr hc⟩
  ·exact(hs.2 b (cu (kh (bj e) (I.ok.cab x c hfn hc)))).trans (I.base.keep b o e n hb hx)
  ·obtain⟨sl,e1⟩:=I.base.slot b o e n hb hx;exact⟨sl,(hs.2 b (cu (kh (bj e) (I.ok.cab x c hfn hc)))).trans e1⟩
  ·obtain⟨o',e1⟩:=I.base.there b o e hx;exact⟨o',(hs.2 b (cu (kh (bj e) (I.ok.cab x c hfn hc)))).trans e1⟩
  ·by_cases hj:j=i
   ·subst hj;rw[hi]at e1;cases e1;rw[gp hiσ]at e2;cases e2;exact⟨u,r,.inr ⟨.inl hk,c,hc,hc'⟩⟩
   ·rw[g_ (Ne.symm hj)]at e2;obtain⟨u',r',q⟩:=hl j y v' e1 e2 e3;refine⟨u',r',?_⟩;rcases q with q|⟨k,c',e,z'⟩
    ·exact .inl q
    ·refine .inr ⟨k,c',e,z'.sameBut hs ?_⟩;rintro rfl;exact hj (C6 hN e1 (I.ok.inj _ _ _ e hc▸hi))
  ·by_cases hcc:c'=c
   ·subst hcc;exact⟨_,hc'⟩
   ·obtain⟨w2,z2⟩:=I.cell y c' e;exact⟨w2,z2.sameBut hs hcc⟩
  ·obtain⟨e,n,ne,nf,d⟩:=I.pin p hp;refine⟨(hs.2 p.1 ?_).trans e,n,ne,nf,d⟩;intro q;rw[q,hoc]at e;have q':oc=p.2:=Option.some.inj e;exact d w' (by rw[<-q'];exact hocd)
def rL{M:Model}{A:Around}{E:Value->Shared->Prop}{i:Nat}{x:Str}{v:V}{u:Value}{Q:Unit->Shared->Prop}(I:ag X Qx σ H s)(hN:X.N.Nodup)(hi:X.N[i]?=some x)(hx:ma X.env.scope x)(r:ah v u)
  (h:∀s',ag X Qx (σ.set i (some v)) H s'->Q () s') (hf:X.fn x=true\/X.env.scope.names.lookup x=some .local:=by first|exact .inl rfl|exact .inr rfl|assumption):wpAny M A (storeName X.env x u) Q E s:=
 Eu I hN hi hx r (λs' I' _=>h s' I') hf
def ag.call'{s':Shared}{ch:List Addr}(I:ag X Qx σ H s)(ho:s'.os=s.os)(u:Un (ou X.stack) ch H H' s.heap s'.heap)(hok:d7 X.prog X.w H' s'.heap)(hg:AllBare s'.gens)
  (hch:∀b∈ch,(b∈X.ex\/X.s₀.heap.objs.size<=b)/\b≠X.env.locals/\(∀x c,X.env.cells.lookup x=some c->c≠b)/\∀p∈X.pn++Qx,p.1≠b):ag X Qx σ H' s':=by
 obtain⟨h',g',d',t',o'⟩:=s';have e:o'=s.os:=ho;subst e;exact I.call (g':=g') (t':=t') (d':=d') u hok hg hch
end
abbrev XK:=Value->Option Addr->Hp->Prop
abbrev St:=List (Option V)
abbrev VK:=V->Hp->Prop
abbrev TE:=St->Hp->VK->Prop
abbrev TT:=St->Hp->(Bool->Hp->Prop)->Prop
abbrev TA:=St->Hp->(List V->Hp->Prop)->Prop
structure lY where
 nx:St->Hp->Prop
 rt:VK
 bk:St->Hp->Prop:=λ_ _=>False
 ct:St->Hp->Prop:=λ_ _=>False
abbrev TS:=lY->St->Hp->Prop
def EP(X:Cx)(Qx:List (Addr×Obj))(σ:St)(Q:VK)(u:Value)(s':Shared):Prop:=∃v H',ag X Qx σ H' s'/\ah v u/\Q v H'
def TP(X:Cx)(Qx:List (Addr×Obj))(σ:St)(Q:Bool->Hp->Prop)(b:Bool)(s':Shared):Prop:=∃H',ag X Qx σ H' s'/\Q b H'
def AP(X:Cx)(Qx:List (Addr×Obj))(σ:St)(Q:List V->Hp->Prop)(us:List Value)(s':Shared):Prop:=∃vs H',ag X Qx σ H' s'/\ai vs us/\Q vs H'
def SP(X:Cx)(Qx:List (Addr×Obj))(D:lY)(f:Flow)(s':Shared):Prop:=
 match f with
 |.next=>∃σ' H',ag X Qx σ' H' s'/\D.nx σ' H'
 |.brk=>∃σ' H',ag X Qx σ' H' s'/\D.bk σ' H'
 |.cont=>∃σ' H',ag X Qx σ' H' s'/\D.ct σ' H'
 |.ret u=>∃v σ' H',ag X Qx σ' H' s'/\ah v u/\D.rt v H'
def PE(X:Cx)(e:Expr)(t:TE):Prop:=
 ∀(Qx:List (Addr×Obj)) (s:Shared) (σ:St) (H:Hp) (Q:VK),ag X Qx σ H s->t σ H Q->wpAny (model X.prog X.w) X.A (eval e X.env) (EP X Qx σ Q) X.xe s
def PT(X:Cx)(e:Expr)(t:TT):Prop:=
 ∀(Qx:List (Addr×Obj)) (s:Shared) (σ:St) (H:Hp) (Q:Bool->Hp->Prop),ag X Qx σ H s->t σ H Q->wpAny (model X.prog X.w) X.A (isTrue e X.env (eval e X.env)) (TP X Qx σ Q) X.xe s
def PW(X:Cx)(e:Expr)(t:TT):Prop:=
 ∀(whole:Sem Value) (Qx:List (Addr×Obj)) (s:Shared) (σ:St) (H:Hp) (Q:Bool->Hp->Prop),ag X Qx σ H s->t σ H Q->wpAny (model X.prog X.w) X.A (isTrue e X.env whole) (TP X Qx σ Q) X.xe s
def PW.pt{X:Cx}{e:Expr}{t:TT}(h:PW X e t):PT X e t:=h _
def PA(X:Cx)(es:List Expr)(t:TA):Prop:=
 ∀(pos:Pos) (Qx:List (Addr×Obj)) (s:Shared) (σ:St) (H:Hp) (Q:List V->Hp->Prop),ag X Qx σ H s->t σ H Q->wpAny (model X.prog X.w) X.A (spliced (backTo pos (starEach es X.env))) (AP X Qx σ Q) X.xe s
def PS(X:Cx)(st:Stmt)(t:TS):Prop:=
 ∀(Qx:List (Addr×Obj)) (s:Shared) (σ:St) (H:Hp) (D:lY),ag X Qx σ H s->t D σ H->wpAny (model X.prog X.w) X.A (exec st X.env) (SP X Qx D) X.xe s
def gz(X:Cx)(st:List Stmt)(t:TS):Prop:=
 ∀(Qx:List (Addr×Obj)) (s:Shared) (σ:St) (H:Hp) (D:lY),ag X Qx σ H s->t D σ H->wpAny (model X.prog X.w) X.A (execs st X.env) (SP X Qx D) X.xe s
def bf{α:Type}{t:Sem α}{Q Q':α->Shared->Prop}{M:Model}{A:Around}{E:Value->Shared->Prop}{s:Shared}(h:wpAny M A t Q E s)(hQ:∀a s,Q a s->Q' a s):wpAny M A t Q' E s:=wpAny_mono h hQ λ_ _ x=>x
section
variable{X:Cx}
def z_(i:Nat):TE:=λσ H Q=>∃v,σ[i]?=some (some v)/\Q v H
def tC(v:V):TE:=λ_ H Q=>Q v H
def jK{i:Nat}{x:Str}{pos:Pos}(hN:X.N[i]?=some x)(hv:oy X.env.scope x)(hd:(x==("__debug__":Str))=false:=by decide)(hcd:(x==("__classdict__":Str))=false:=by decide):PE X (.Name x pos) (z_ i):=by
 intro Qx s σ H Q I h;obtain⟨v,e,h⟩:=h;obtain⟨m,hn,hl⟩:=I.loc;obtain⟨u,r,l⟩:=hl i x v hN e hv;have fin:EP X Qx σ Q u s:=⟨v,H,I,r,h⟩
 rcases l with⟨hk,hm⟩|⟨hk,c,hc,hcell⟩
 ·exact wpAny_Name (wpAny_loadName_local I.ok.kind hk hn hm fin) hd
 ·rcases hk with hk|hk
  ·exact wpAny_Name (wpAny_loadName_cell I.ok.kind hk hc hcell fin) hd
  ·exact wpAny_Name (wpAny_loadName_free I.ok.kind hk hc hcell fin hcd) hd
def cP{i j pos}:PE X (.Constant (.int i) j pos) (tC (.int i)):=λ_ _ _ H _ I h=>wpAny_Constant_int ⟨.int i,H,I.tok _,⟨_,rfl⟩,h⟩
def Hk{b j pos}:PE X (.Constant (.bool b) j pos) (tC (.bl b)):=λ_ _ _ H _ I h=>Constant_bool ⟨.bl b,H,I,rfl,h⟩
def IZ{j pos}:PE X (.Constant .none j pos) (tC .non):=λ_ _ _ H _ I h=>Constant_none ⟨.non,H,I,rfl,h⟩
def Jb{x j pos}:PE X (.Constant (.str x) j pos) (tC (.str x)):=λ_ _ _ H _ I h=>Calls.Constant_str ⟨.str x,H,I.tok _,⟨_,rfl⟩,h⟩
def Gl(X:Cx)(x:Str):Prop:=X.env.kindOf x=some .globalImplicit
def xM{E:Value->Shared->Prop}{Qx:List (Addr×Obj)}{s:Shared}{σ:St}{H:Hp}{x:Str}{u:Value}{pos:Pos}{Q:Value->Shared->Prop}(I:ag X Qx σ H s)(hg:Gl X x)(hm:X.mg x=some u)(h:Q u s)
  (hd:(x==("__debug__":Str))=false:=by decide):wpAny (model X.prog X.w) X.A (eval (.Name x pos) X.env) Q E s:=
 Calls.Name_function_global I.ok.kind hg (Calls.loadGlobal_global (by rw[I.ok.glob];exact I.mod.glob.keeps I.bk) hm h) hd
def kG{E:Value->Shared->Prop}{Qx:List (Addr×Obj)}{s:Shared}{σ:St}{H:Hp}{x:Str}{u:Value}{pos:Pos}{Q:Value->Shared->Prop}(I:ag X Qx σ H s)(hg:Gl X x)(hm:X.mg x=none)(hv:bootBuiltins x=some u)(h:Q u s)
  (hn:x≠"__name__":=by decide) (hd:(x==("__debug__":Str))=false:=by decide):wpAny (model X.prog X.w) X.A (eval (.Name x pos) X.env) Q E s:=by
 obtain⟨mb,h1,h2⟩:=I.mod.blt;exact Calls.Name_function_global I.ok.kind hg (Calls.loadGlobal_builtin (by rw[I.ok.glob];exact I.mod.glob.keeps I.bk) hm (by rw[I.ok.blt];exact h1.keeps I.bk) ((h2 x hn).trans hv) h) hd
def B1{x:Str}{v:V}{u:Value}{pos:Pos}(hg:Gl X x)(hm:X.mg x=some u)(r:ah v u)(hd:(x==("__debug__":Str))=false:=by decide):PE X (.Name x pos) (tC v):=
 λ_ _ _ H _ I h=>xM I hg hm ⟨v,H,I,r,h⟩ hd
def cG{x:Str}{v:V}{u:Value}{pos:Pos}(hg:Gl X x)(hm:X.mg x=none)(hv:bootBuiltins x=some u)(r:ah v u)(hn:x≠"__name__":=by decide)(hd:(x==("__debug__":Str))=false:=by decide):PE X (.Name x pos) (tC v):=
 λ_ _ _ H _ I h=>kG I hg hm hv ⟨v,H,I,r,h⟩ hn hd
variable{a b:Expr}{ta tb:TE}{pos:Pos}
def tB(t:TE):TT:=λσ H Q=>t σ H λx H1=>∃c,x=.bl c/\Q c H1
def Ih{e:Expr}{t:TE}(h:PE X e t)(he:∀whole,isTrue e X.env whole=(do let v <- whole;standAt e.pos;holding [v] (truthy v)):=by intro _;rfl):PT X e (tB t):=by
 intro Qx s σ H Q I hw;refine isTrue_plain (bf (h Qx s σ H _ I hw) λv s1 ⟨x,H1,I1,r1,q1⟩=>?_) (he _);obtain⟨d,rfl,q⟩:=q1;cases r1;exact wpAny_truthy_bool ⟨H1,I1,q⟩
variable{tA tB':TT}{rest:List Expr}
def GA(t u:TT):TT:=λσ H Q=>t σ H λc H1=>if c=true then u σ H1 Q else Q false H1
def Pp(t u:TT):TT:=λσ H Q=>t σ H λc H1=>if c=true then Q true H1 else u σ H1 Q
def GF(t:TT):TT:=λσ H Q=>t σ H λc H1=>Q (!c) H1
def Lb(ha:PT X a tA):PW X (.BoolOp .And [a] pos) tA:=by
 intro wh Qx s σ H Q I h;refine isTrue_and (bf (ha Qx s σ H Q I h) λc s1 e=>?_);cases c with
 |true=>exact isTrue_and_nil e
 |false=>exact e
def Im(ha:PT X a tA):PW X (.BoolOp .Or [a] pos) tA:=by
 intro wh Qx s σ H Q I h;refine isTrue_or (bf (ha Qx s σ H Q I h) λc s1 e=>?_);cases c with
 |false=>exact isTrue_or_nil e
 |true=>exact e
def Il(ha:PT X a tA)(hb:PW X (.BoolOp .And (b::rest) pos) tB'):PW X (.BoolOp .And (a::b::rest) pos) (GA tA tB'):=by
 intro wh Qx s σ H Q I h;refine isTrue_and (bf (ha Qx s σ H _ I h) λc s1 ⟨H1,I1,q1⟩=>?_);cases c with
 |true=>exact hb wh Qx s1 σ H1 Q I1 q1
 |false=>exact⟨H1,I1,q1⟩
def Hn(ha:PT X a tA)(hb:PW X (.BoolOp .Or (b::rest) pos) tB'):PW X (.BoolOp .Or (a::b::rest) pos) (Pp tA tB'):=by
 intro wh Qx s σ H Q I h;refine isTrue_or (bf (ha Qx s σ H _ I h) λc s1 ⟨H1,I1,q1⟩=>?_);cases c with
 |true=>exact⟨H1,I1,q1⟩
 |false=>exact hb wh Qx s1 σ H1 Q I1 q1
def Ig(ha:PT X a tA):PT X (.UnaryOp .Not a pos) (GF tA):=by
 intro Qx s σ H Q I h;exact isTrue_not (ha Qx s σ H (λc H1=>Q (!c) H1) I h)
def HD(ta tb:TE):TE:=λσ H Q=>ta σ H λx H1=>∃c,x=.bl c/\if c=true then tb σ H1 Q else Q (.bl false) H1
def I_{op}{t:TE}(h:PE X a t):PE X (.BoolOp op [a] pos) t:=λQx s σ H Q I hw=>BoolOp_one (h Qx s σ H Q I hw)
def IV(ha:PE X a ta)(hb:PE X (.BoolOp .And (b::rest) pos) tb):PE X (.BoolOp .And (a::b::rest) pos) (HD ta tb):=by
 intro Qx s σ H Q I h;refine BoolOp_and (bf (ha Qx s σ H _ I h) λv s1 ⟨x,H1,I1,r1,q1⟩=>?_);obtain⟨c,rfl,q1⟩:=q1;cases r1;refine wpAny_truthy_bool ?_;cases c with
 |true=>exact hb Qx s1 σ H1 Q I1 q1
 |false=>exact⟨.bl false,H1,I1,rfl,q1⟩
def Pq(t:TT)(ta tb:TE):TE:=λσ H Q=>t σ H λc H1=>if c=true then ta σ H1 Q else tb σ H1 Q
def Mp{c:Expr}(hc:PT X c tA)(ha:PE X a ta)(hb:PE X b tb):PE X (.IfExp c a b pos) (Pq tA ta tb):=by
 intro Qx s σ H Q I h;refine wpAny_IfExp (bf (hc Qx s σ H _ I h) λd s1 ⟨H1,I1,q1⟩=>?_);cases d with
 |true=>exact ha Qx s1 σ H1 Q I1 q1
 |false=>exact hb Qx s1 σ H1 Q I1 q1
end
def bu(K:W.Frag)(H:Hp)(a:Addr)(xs:List V):Prop:=
 Rd H a (.lst xs) \/
  ∃(o:Obj) (its:Array Value) (n:Nat),K.lookup a=some o/\o.cls=.type "list"/\o.dict=none/\o.data=.seq its n/\its.size<=sizeLine/\ai xs its.toList
def cq(K:W.Frag)(H:Hp)(a:Addr)(xs:List V):Prop:=
 Rd H a (.tup xs) \/
  ∃(o:Obj) (its:Array Value) (n:Nat),K.lookup a=some o/\o.cls=.type "tuple"/\o.data=.seq its n/\its.size<=sizeLine/\ai xs its.toList
def Fq:Value->Option V
 |.none=>some .non
 |.bool b=>some (.bl b)
 |.int i _=>some (.int i)
 |.str x _=>some (.str x)
 |.bytes b _=>some (.byt b)
 |.float b _=>some (.flt b)
 |.ref a=>some (.ref a)
 |.type n=>some (.ty n)
 |_=>none
def ah.abs{x:V}{u:Value}(r:ah x u):Fq u=some x:=by
 cases x with
 |non=>cases r;rfl
 |bl _=>cases r;rfl
 |int _=>obtain⟨t,rfl⟩:=r;rfl
 |str _=>obtain⟨t,rfl⟩:=r;rfl
 |byt _=>obtain⟨t,rfl⟩:=r;rfl
 |flt _=>obtain⟨t,rfl⟩:=r;rfl
 |ref _=>cases r;rfl
 |ty _=>cases r;rfl
def ah.inj{x y:V}{u:Value}(r:ah x u)(q:ah y u):x=y:=Option.some.inj (r.abs.symm.trans q.abs)
def ai.inj:∀{xs ys:List V}{us:List Value},ai xs us->ai ys us->xs=ys
 |_,_,_,.nil,.nil=>rfl
 |_,_,_,.cons r t,.cons r' t'=>by rw[r.inj r',ai.inj t t']
section
variable{X:Cx}{Qx:List (Addr×Obj)}{σ:St}{H:Hp}{s:Shared}{a:Addr}{xs ys:List V}
def bu.of{K:W.Frag}(h:H a=some (.lst xs)):bu K H a xs:=.inl (.inl h)
def cq.of{K:W.Frag}(h:H a=some (.tup xs)):cq K H a xs:=.inl (.inl h)
def ag.list(I:ag X Qx σ H s)(h:bu X.K H a xs):∃its:List Value,ai xs its/\PlainL s.heap a its.toArray/\xs.length<=sizeLine:=by
 rcases h with h|⟨o,its,n,hk,hc,hd,hs,hz,r⟩
 ·obtain⟨z,its,n,r,e⟩:=h.ok I.hok;exact⟨its,r,⟨_,n,e,rfl,rfl,rfl⟩,z⟩
 ·refine⟨its.toList,r,⟨o,n,I.kIn a o hk,hc,hd,by simpa using hs⟩,?_⟩;have e:=r.length;simp only[di]at e;omega
def ag.tuple(I:ag X Qx σ H s)(h:cq X.K H a xs):∃its:List Value,ai xs its/\IsTup s.heap a its.toArray/\xs.length<=sizeLine:=by
 rcases h with h|⟨o,its,n,hk,hc,hs,hz,r⟩
 ·obtain⟨z,its,r,p⟩:=h.ok I.hok;exact⟨its,r,p,z⟩
 ·refine⟨its.toList,r,⟨o,I.kIn a o hk,hc,n,by simpa using hs⟩,?_⟩;have e:=r.length;simp only[di]at e;omega
def ag.list_inj(I:ag X Qx σ H s)(h:bu X.K H a xs)(h':bu X.K H a ys):xs=ys:=by
 obtain⟨its,r,⟨o,n,e,_,_,d⟩,_⟩:=I.list h;obtain⟨its',r',⟨o',n',e',_,_,d'⟩,_⟩:=I.list h';rw[e]at e';cases e';rw[d]at d';injection d' with d1 _
 have:its=its':=by simpa using congrArg Array.toList d1
 subst this;exact r.inj r'
def ag.tuple_inj(I:ag X Qx σ H s)(h:cq X.K H a xs)(h':cq X.K H a ys):xs=ys:=by
 obtain⟨its,r,⟨o,e,_,n,d⟩,_⟩:=I.tuple h;obtain⟨its',r',⟨o',e',_,n',d'⟩,_⟩:=I.tuple h';rw[e]at e';cases e';rw[d]at d';injection d' with d1 _
 have:its=its':=by simpa using congrArg Array.toList d1
 subst this;exact r.inj r'
end
abbrev Cx.wish(X:Cx)(E:Value->Shared->Prop):Cx:={X with xe:=E}
abbrev Cx.nox(X:Cx):Cx:=X.wish λ_ _=>False
def Cx.Ok.wish{X:Cx}(ok:X.Ok)(E:Value->Shared->Prop):(X.wish E).Ok:=
 ⟨ok.mod,ok.kind,ok.glob,ok.blt,ok.above,ok.inj,ok.has,ok.cab,ok.hd,ok.frames,ok.stk,ok.exf,ok.bs,ok.bsz,ok.noex,ok.exfs,ok.funs,ok.frf⟩
def Cx.Ok.unwish{X:Cx}{E:Value->Shared->Prop}(ok:(X.wish E).Ok):X.Ok:=
 ⟨ok.mod,ok.kind,ok.glob,ok.blt,ok.above,ok.inj,ok.has,ok.cab,ok.hd,ok.frames,ok.stk,ok.exf,ok.bs,ok.bsz,ok.noex,ok.exfs,ok.funs,ok.frf⟩
section
variable{X:Cx}{Qx:List (Addr×Obj)}{σ:St}{H:Hp}{s:Shared}{E:Value->Shared->Prop}
def ag.wish(I:ag X Qx σ H s)(E:Value->Shared->Prop):ag (X.wish E) Qx σ H s:=⟨I.ok.wish E,I.os,I.bare,I.base,I.loc,I.cell,I.free,I.freeC,I.pin,I.hok,I.len⟩
def ag.unwish(I:ag (X.wish E) Qx σ H s):ag X Qx σ H s:=⟨I.ok.unwish,I.os,I.bare,I.base,I.loc,I.cell,I.free,I.freeC,I.pin,I.hok,I.len⟩
def SP.unwish{D:lY}{f:Flow}{s':Shared}(h:SP (X.wish E) Qx D f s'):SP X Qx D f s':=by
 cases f with
 |next=>obtain⟨σ',H',I,q⟩:=h;exact⟨σ',H',I.unwish,q⟩
 |brk=>obtain⟨σ',H',I,q⟩:=h;exact⟨σ',H',I.unwish,q⟩
 |cont=>obtain⟨σ',H',I,q⟩:=h;exact⟨σ',H',I.unwish,q⟩
 |ret u=>obtain⟨v,σ',H',I,r,q⟩:=h;exact⟨v,σ',H',I.unwish,r,q⟩
def gz.nox{st:List Stmt}{t:TS}(h:gz X.nox st t):gz X st t:=λQx s σ H D I hw=>
 wpAny_mono (h Qx s σ H D (I.wish _) hw) (λ_ _ q=>q.unwish) λ_ _ z=>False.elim z
end
section
variable{X:Cx}{st:Stmt}{rest:List Stmt}{t u:TS}{e:Expr}{te:TE}{pos:Pos}
def HF:TS:=λD σ H=>D.nx σ H
def FM(t u:TS):TS:=λD σ H=>t {D with nx:=u D} σ H
def xH:gz X [] HF:=λ_ _ σ H _ I h=>wpAny_execs_nil ⟨σ,H,I,h⟩
def gQ(h1:PS X st t)(h2:gz X rest u):gz X (st::rest) (FM t u):=by
 intro Qx s σ H D I h;refine wpAny_execs_cons (bf (h1 Qx s σ H {D with nx:=u D} I h) λf s1 q=>?_);cases f with
 |next=>
  obtain⟨σ',H',I',q⟩:=q;exact h2 Qx s1 σ' H' D I' q
 |ret v=>exact q
 |brk=>exact q
 |cont=>exact q
def kY(h1:PS X st t):gz X [st] t:=by
 intro Qx s σ H D I h;refine wpAny_execs_cons (bf (h1 Qx s σ H D I h) λf s1 q=>?_);cases f with
 |next=>exact wpAny_execs_nil q
 |ret v=>exact q
 |brk=>exact q
 |cont=>exact q
def ag.quiet{Qx:List (Addr×Obj)}{σ:St}{H:Hp}{s:Shared}(I:ag X Qx σ H s):interactive X.env=false:=by simp[interactive,I.ok.kind]
def HE(te:TE):TS:=λD σ H=>te σ H λ_ H1=>D.nx σ H1
def B8(he:PE X e te)(hs:swapsWith e none pos.line X.env=pure false:=by rfl):PS X (.Expr e pos) (HE te):=by
 intro Qx s σ H D I h;exact wpAny_Expr_any (bf (he Qx s σ H _ I h) λv s1 ⟨x,H1,I1,r1,q1⟩=>⟨σ,H1,I1,q1⟩) I.quiet hs
def FK(te:TE):TS:=λD σ H=>te σ H D.rt
def lB(he:PE X e te):PS X (.Return (some e) pos) (FK te):=by
 intro Qx s σ H D I h;exact wpAny_Return_some (bf (he Qx s σ H _ I h) λv s1 ⟨x,H1,I1,r1,q1⟩=>⟨x,σ,H1,I1,r1,q1⟩)
def GE(c:TT)(t u:TS):TS:=λD σ H=>c σ H λb H1=>if b=true then t D σ H1 else u D σ H1
def yP{c:Expr}{a b:List Stmt}{tc:TT}(hc:PT X c tc)(ha:gz X a t)(hb:gz X b u):PS X (.If c a b pos) (GE tc t u):=by
 intro Qx s σ H D I h;refine wpAny_If (bf (hc Qx s σ H _ I h) λd s1 ⟨H1,I1,q1⟩=>?_);cases d with
 |true=>exact ha Qx s1 σ H1 D I1 q1
 |false=>exact hb Qx s1 σ H1 D I1 q1
def JR:TS:=λ_ _ _=>False
def MT{sts:List Stmt}:gz X sts JR:=λ_ _ _ _ _ _ h=>h.elim
end
abbrev TG:=V->St->Hp->(St->Hp->Prop)->Prop
abbrev qx:=List V->St->Hp->(St->Hp->Prop)->Prop
def PG(X:Cx)(target:Expr)(t:TG):Prop:=
 ∀(Qx:List (Addr×Obj)) (s:Shared) (σ:St) (H:Hp) (v:V) (u:Value) (Q:St->Hp->Prop),ag X Qx σ H s->ah v u->t v σ H Q ->
  wpAny (model X.prog X.w) X.A (assign target X.env u) (λ_ s'=>∃σ' H',ag X Qx σ' H' s'/\Q σ' H') X.xe s
def pd(X:Cx)(ts:List Expr)(t:qx):Prop:=
 ∀(Qx:List (Addr×Obj)) (s:Shared) (σ:St) (H:Hp) (vs:List V) (us:List Value) (Q:St->Hp->Prop),ag X Qx σ H s->ai vs us->t vs σ H Q ->
  wpAny (model X.prog X.w) X.A (assignInOrder ((assignEach ts X.env).map (·.2)) us) (λ_ s'=>∃σ' H',ag X Qx σ' H' s'/\Q σ' H') X.xe s
abbrev zY:=V->V->V->Hp->(Hp->Prop)->Prop
def Ah(X:Cx)(t:zY):Prop:=
 ∀(Qx:List (Addr×Obj)) (s:Shared) (σ:St) (H:Hp) (o i v:V) (ov iv u:Value) (Q:Hp->Prop),ag X Qx σ H s->ah o ov->ah i iv->ah v u->t o i v H Q ->
  wpAny (model X.prog X.w) X.A (setItem ov iv u) (λ_ s'=>∃H',ag X Qx σ H' s'/\Q H') X.xe s
section
variable{X:Cx}{pos:Pos}
def tJ(i:Nat):TG:=λv σ H Q=>Q (σ.set i (some v)) H
def K4{i:Nat}{x:Str}(hN:X.N.Nodup)(hi:X.N[i]?=some x)(hx:ma X.env.scope x)(hf:X.fn x=true\/X.env.scope.names.lookup x=some .local:=by first|exact .inl rfl|exact .inr rfl|assumption):PG X (.Name x pos) (tJ i):=by
 intro Qx s σ H v u Q I r h;exact wpAny_assign_Name (rL I hN hi hx r (λs' I'=>⟨_,H,I',h⟩) hf)
def Fi:qx:=λvs σ H Q=>vs=[]/\Q σ H
def F8(t:TG)(u:qx):qx:=λvs σ H Q=>∃v r,vs=v::r/\t v σ H λσ' H'=>u r σ' H' Q
def K5:pd X [] Fi:=by
 intro Qx s σ H vs us Q I r h;obtain⟨e,h⟩:=h;subst e;cases r;exact assignInOrder_nil ⟨σ,H,I,h⟩
def Lz{e:Expr}{es:List Expr}{t:TG}{u:qx}(h1:PG X e t)(h2:pd X es u)
  (hs:(assignEach (e::es) X.env).map (·.2)=assign e X.env::(assignEach es X.env).map (·.2):=by rfl):pd X (e::es) (F8 t u):=by
 intro Qx s σ H vs us Q I r h;obtain⟨v,vr,e1,h⟩:=h;subst e1;cases r with
 |cons r rr=>
  rw[hs];refine assignInOrder_cons (bf (h1 Qx s σ H _ _ _ I r h) λ_ s1 ⟨σ1,H1,I1,q1⟩=>?_);exact h2 Qx s1 σ1 H1 _ _ Q I1 rr q1
def GH(K:W.Frag)(n:Nat)(t:qx):TG:=λv σ H Q=>∃a xs,v=.ref a/\cq K H a xs/\xs.length=n/\t xs σ H Q
def HY{es:List Expr}{k:Nat}{t:qx}{n:Nat}(hc:X.calm=true)(h:pd X es t)
  (hn:(assignEach es X.env).length=n:=by rfl) (hst:(assignEach es X.env).findIdx? (·.1)=none:=by rfl):PG X (.Tuple es k pos) (GH X.K n t):=by
 intro Qx s σ H v u Q I r hw;obtain⟨a,xs,e1,hq,hl,hw⟩:=hw;subst e1;cases r;obtain⟨its,rv,ht,hz⟩:=I.tuple hq;refine assign_Tuple_tuple (I.ok.hd hc) ht (by simp[hn,<-hl,rv.length]) hst λh' hx=>?_
 have I1:ag X Qx σ H {s with heap:=h'}:=I.kept (t':=s.toks) λb o e=>hx b o (cu (bj e)) e
 exact h Qx _ σ H xs _ Q I1 (by simpa using rv) hw
def Fj(to ti:TE)(t:zY):TG:=λv σ H Q=>to σ H λo H1=>ti σ H1 λi H2=>t o i v H2 λH3=>Q σ H3
def HX{o i:Expr}{to ti:TE}{t:zY}(ho:PE X o to)(hi:PE X i ti)(hs:Ah X t)
  (ha:∀v,assign (.Subscript o i pos) X.env v=(do
   let ov <- holding [v] (eval o X.env)
   let iv <- holding [v,ov] (eval i X.env)
   standAt pos
   holding [v,ov,iv] (setItem ov iv v)
   release [v,ov,iv] []):=by intro _;rfl):PG X (.Subscript o i pos) (Fj to ti t):=by
 intro Qx s σ H v u Q I r h;rw[ha];refine af (h_ (bf (ho Qx s σ H _ I h) λov s1 ⟨x,H1,I1,r1,q1⟩=>?_));refine af (h_ (bf (hi Qx s1 σ H1 _ I1 q1) λiv s2 ⟨y,H2,I2,r2,q2⟩=>?_));refine af (wpAny_standAt (af (h_ (bf (hs Qx s2 σ H2 x y v ov iv u _ I2 r1 r2 r q2) λ_ s3 ⟨H3,I3,q3⟩=>?_))));exact wpAny_release ⟨σ,H3,I3,q3⟩
def tN(te:TE)(g:TG):TS:=λD σ H=>te σ H λx H1=>g x σ H1 D.nx
def Ib{tg e:Expr}{te:TE}{g:TG}(he:PE X e te)(hg:PG X tg g)(hs:swapsWithSole [tg] e pos.line X.env=pure false:=by rfl)(hw:swappedStores [tg] e X.env=pure none:=by rfl)
  (h1:(assignEach [tg] X.env).map (·.2)=[assign tg X.env]:=by rfl):PS X (.Assign [tg] e pos) (tN te g):=by
 intro Qx s σ H D I h;refine wpAny_Assign_stores (bf (he Qx s σ H _ I h) λv s1 ⟨x,H1,I1,r1,q1⟩=>?_) hs hw;rw[h1];exact bf (hg Qx s1 σ H1 x v _ I1 r1 q1) λ_ s2 q=>q
def kF{i:Nat}{x:Str}{e:Expr}{te:TE}{pos':Pos}(hN:X.N.Nodup)(hi:X.N[i]?=some x)(hx:ma X.env.scope x)(he:PE X e te)(hs:swapsWith e (some (.Name x pos')) pos.line X.env=pure false:=by rfl)(hf:X.fn x=true\/X.env.scope.names.lookup x=some .local:=by first|exact .inl rfl|exact .inr rfl|assumption):
  PS X (.Assign [.Name x pos'] e pos) (tN te (tJ i)):=by
 intro Qx s σ H D I h;refine wpAny_Assign_Name (bf (he Qx s σ H _ I h) λv s1 ⟨y,H1,I1,r1,q1⟩=>?_) hs;exact rL I1 hN hi hx r1 (λs2 I2=>⟨_,H1,I2,q1⟩) hf
def GG(i j:Nat)(ta:TA):TS:=λD σ H=>ta σ H λvs H1=>∃v w,vs=[v,w]/\D.nx ((σ.set i (some v)).set j (some w)) H1
def Ie{i j:Nat}{x y:Str}{a b:Expr}{ta:TA}{px py pt:Pos}{kt k2 pt2}(hc:X.calm=true)(hN:X.N.Nodup)(hi:X.N[i]?=some x)(hj:X.N[j]?=some y)(hij:i≠j)
  (hx:X.env.scope.names.lookup x=some .local) (hy:X.env.scope.names.lookup y=some .local) (ha:PA X [a,b] ta)
  (hw:swappedStores [.Tuple [.Name x px,.Name y py] kt pt] (.Tuple [a,b] k2 pt2) X.env=pure (some [x,y]))
  (hs:swapsWithSole [.Tuple [.Name x px,.Name y py] kt pt] (.Tuple [a,b] k2 pt2) pos.line X.env=pure false:=by rfl):
  PS X (.Assign [.Tuple [.Name x px,.Name y py] kt pt] (.Tuple [a,b] k2 pt2) pos) (GG i j ta):=by
 intro Qx s σ H D I h;rw[exec_Assign_arm];refine af (wpAny_standAt ?_);rw[hs];refine af (aj ?_);rw[if_neg (by decide)];refine af (Tuple_ (bf (ha _ Qx s σ H _ I h) λus s1 ⟨vs,H1,I1,r1,q1⟩=>?_));obtain⟨v,w,e1,q1⟩:=q1;subst e1;obtain⟨u1,u2,rfl,rv,rw'⟩:∃u1 u2,us=[u1,u2]/\ah v u1/\ah w u2:=by
  cases r1 with
  |cons p q=>
   cases q with
   |cons p' q'=>
    cases q';exact⟨_,_,rfl,p,p'⟩
 refine d8 ?_ (by show 2<=sizeLine;decide);have I2:ag X Qx σ H1 {s1 with heap:=s1.heap.push {cls:=.type "tuple",data:=.seq [u1,u2].toArray}}:=I1.kept (t':=s1.toks) λb o e=>bc _ e
 rw[hw];refine af (aj ?_);show wpAny (model X.prog X.w) X.A (do rule "assign.swapped-stores";let items <- unpackItems (.ref s1.heap.objs.size) 2 none;assignInOrder [λv=>bindName X.env y v,λv=>bindName X.env x v] items.reverse;pure Flow.next) _ _ _;refine af (wpAny_rule (af (unpackItems_tuple (items:=#[u1,u2]) (I.ok.hd hc) (IsTup.new s1.heap _) λh' hx'=>?_)));have I3:=I2.kept (h':=h') (t':=s1.toks) λb o e=>hx' b o (cu (bj e)) e
 show wpAny _ _ (assignInOrder [λv=>bindName X.env y v,λv=>bindName X.env x v] [u2,u1] >>= λ_=>pure Flow.next) _ _ _;refine af (assignInOrder_cons (wpAny_bindName (rL I3 hN hj (.inl hy) rw' (λs2 I4=>?_) (.inr hy))));refine assignInOrder_cons (wpAny_bindName (rL I4 hN hi (.inl hx) rv (λs3 I5=>assignInOrder_nil (aj ?_)) (.inr hx)));rw[List.set_comm _ _ (Ne.symm hij)]at I5;exact⟨_,H1,I5,q1⟩
def JS(c:TT)(tb:TS):TS:=λD σ H=>∃W:Nat->St->Hp->Prop,(∃m,W m σ H)/\∀m σ H,W m σ H ->
 c σ H λb H1=>if b=true then ∃N:St->Hp->Prop,(∀σ' H',N σ' H'->∃m',m'<m/\W m' σ' H')/\tb {D with nx:=N,ct:=N,bk:=D.nx} σ H1 else D.nx σ H1
def LD{c:Expr}{body:List Stmt}{tc:TT}{tb:TS}(hp:PassesOwn (model X.prog X.w) X.A X.env X.xe)(hc:PT X c tc)(hb:gz X body tb):PS X (.While c body [] pos) (JS tc tb):=by
 intro Qx s σ H D I h;obtain⟨W,⟨m0,w0⟩,turn⟩:=h;refine wpAny_While (codeAny_whileLoop (λn s'=>∃σ' H',ag X Qx σ' H' s'/\W n σ' H') ?_ m0 ⟨σ,H,I,w0⟩);rintro n s1 ⟨σ1,H1,I1,w1⟩;refine wpAny_passesOwn hp (bf (hc Qx s1 σ1 H1 _ I1 (turn n σ1 H1 w1)) λb s2 ⟨H2,I2,q2⟩=>?_);cases b with
 |true=>
  obtain⟨N,hN,q2⟩:=q2;rw[if_pos rfl];refine wpAny_passesOwn hp (bf (hb Qx s2 σ1 H2 _ I2 q2) λf s3 q3=>?_);cases f with
  |next=>
   obtain⟨σ3,H3,I3,n3⟩:=q3;obtain⟨m',hm,w3⟩:=hN σ3 H3 n3;exact⟨m',hm,σ3,H3,I3,w3⟩
  |cont=>
   obtain⟨σ3,H3,I3,n3⟩:=q3;obtain⟨m',hm,w3⟩:=hN σ3 H3 n3;exact⟨m',hm,σ3,H3,I3,w3⟩
  |brk=>exact q3
  |ret v=>exact q3
 |false=>
  rw[if_neg cn];exact wpAny_execs_nil ⟨σ1,H2,I2,q2⟩
end
structure It where
 go:Nat->Hp->Prop
 yld:Nat->Hp->V->Hp->Prop
 stop:Nat->Hp->Prop
def fM(X:Cx)(Qx:List (Addr×Obj))(H:Hp)(b:Addr):Prop:=
 H b=none/\b≠X.env.locals/\b∉X.fs/\(b∈X.ex\/X.s₀.heap.objs.size<=b)/\(∀x c,X.env.cells.lookup x=some c->c≠b)/\∀p∈X.pn++Qx,p.1≠b
def ag.fpOk{X:Cx}{Qx:List (Addr×Obj)}{σ:St}{H H':Hp}{s:Shared}{b:Addr}(I:ag X Qx σ H s)(hb:s.heap.objs.size<=b)(hn:H' b=none):fM X Qx H' b:=by
 refine⟨hn,je (kh I.lt hb),I.nofs hb,.inr (bw I.sz hb),λx c e z=>?_,λp hp z=>?_⟩
 ·obtain⟨v,q⟩:=I.cell x c e;exact absurd (kh q.lt (by rw[z];exact hb)) (e_ _)
 ·exact absurd (kh (bj (I.pin p hp).1) (by rw[z];exact hb)) (e_ _)
structure iW (P:Program) (w:World) (K:W.Frag) (tg:Expr) (J:It) (fp:List Addr) (it:Addr) (tn:Nat->Heap->Prop):Prop where
 mem:it∈fp
 obj:∀i h,tn i h->∀b∈fp,∃o,h.get? b=some o/\∀v,o.data≠.cell v
 keep:∀i h h',tn i h->(∀b∈fp,∀o,h.get? b=some o->h'.get? b=some o)->tn i h'
 item:∀(X:Cx),X.prog=P->X.w=w->X.K=K->X.calm=true->∀(i:Nat) (Qx:List (Addr×Obj)) (s:Shared) (σ:St) (H:Hp) (E:Value->Shared->Prop),ag X Qx σ H s->(∀b∈fp,fM X Qx H b)->tn i s.heap->J.go i H ->
  wpAny (model P w) X.A (pyNext (.ref it)) (λr s1=>∃u,r=some u /\
   wpAny (model P w) X.A (letOwnedTupleGo tg (.ref it) u) (λ_ s2=>∃x H',ag X Qx σ H' s2/\ah x u/\J.yld i H x H'/\tn (i+1) s2.heap/\∀b∈fp,H' b=none) E s1) E s
 done:∀(X:Cx),X.prog=P->X.w=w->X.K=K->X.calm=true->∀(i:Nat) (Qx:List (Addr×Obj)) (s:Shared) (σ:St) (H:Hp) (E:Value->Shared->Prop),ag X Qx σ H s->(∀b∈fp,fM X Qx H b)->tn i s.heap->J.stop i H ->
  wpAny (model P w) X.A (pyNext (.ref it)) (λr s1=>r=none/\ag X Qx σ H s1) E s
 self:∀(A:Around) (i:Nat) (s:Shared) (Q:Value->Shared->Prop) (E:Value->Shared->Prop),tn i s.heap->Q (.ref it) s->wpAny (model P w) A (pyIter (.ref it)) Q E s
abbrev TI:=St->Hp->(It->Hp->Prop)->Prop
def yd(X:Cx)(Qx:List (Addr×Obj))(σ:St)(tg:Expr)(R:It->Hp->Prop)(itv:Value)(s2:Shared):Prop:=
 ∃(it:Addr) (fp:List Addr) (tn:Nat->Heap->Prop) (J:It) (H':Hp),itv=.ref it/\ag X Qx σ H' s2/\iW X.prog X.w X.K tg J fp it tn/\tn 0 s2.heap/\(∀b∈fp,fM X Qx H' b)/\R J H'
def PI(X:Cx)(tg iter:Expr)(wi:TI):Prop:=
 ∀(Qx:List (Addr×Obj)) (s:Shared) (σ:St) (H:Hp) (R:It->Hp->Prop),ag X Qx σ H s->wi σ H R ->
  wpAny (model X.prog X.w) X.A (eval iter X.env) (λv s1=>wpAny (model X.prog X.w) X.A (pyIter v) (yd X Qx σ tg R) X.xe s1) X.xe s
def lL{M:Model}{A:Around}{E:Value->Shared->Prop}{s:Shared}{tg:Expr}{it:Addr}{u:Value}{o:Obj}{n:String}{vs:Array Value}{Q:Unit->Shared->Prop}(ho:s.heap.get? it=some o)(hc:o.cls=.type n)(hd:o.data=.fields vs)
    (hn:["enumerate","zip","dict_itemiterator","dict_reverseitemiterator","odict_iterator","itertools.zip_longest","itertools.pairwise"].contains n=false) (hQ:Q () s):wpAny M A (letOwnedTupleGo tg (.ref it) u) Q E s:=by
  unfold letOwnedTupleGo;cases tg<;>first
    |exact aj hQ
    |(cases u<;>first
        |exact aj hQ
        | (refine af (wpAny_load ho ?_)
           rw[hc,hd];show wpAny M A (if (["enumerate","zip","dict_itemiterator","dict_reverseitemiterator","odict_iterator","itertools.zip_longest","itertools.pairwise"].contains n&&vs[0]? == some (rawInt _))=true then _ else _) Q E s;rw[if_neg (by intro h;rw[hn,Bool.false_and]at h;cases h)];exact aj hQ))
def y8(K:W.Frag)(a:Addr):It:=
 ⟨λi H=>∃xs x,bu K H a xs/\xs[i]?=some x,λi H x H'=>H'=H/\∀xs,bu K H a xs->xs[i]?=some x,λi H=>∃xs,bu K H a xs/\xs.length<=i⟩
def y6(K:W.Frag)(a:Addr):It:=
 ⟨λi H=>∃xs x,cq K H a xs/\xs[i]?=some x,λi H x H'=>H'=H/\∀xs,cq K H a xs->xs[i]?=some x,λi H=>∃xs,cq K H a xs/\xs.length<=i⟩
def ye(lo:Int)(n:Nat):It:=⟨λi _=>i<n,λi H x H'=>H'=H/\x=.int (lo+i),λi _=>n<=i⟩
def OG{P:Program}{w:World}{K:W.Frag}{tg:Expr}(a it:Addr):iW P w K tg (y8 K a) [it] it (λi h=>h.IsListIter it a i) where
 mem:=by simp
 obj:=λi h st b hb=>by
  have e:b=it:=by simpa using hb
  subst e;obtain⟨o,e,c,d⟩:=st;exact⟨o,e,λv z=>by rw[d]at z;cases z⟩
 keep:=λi h h' st k=>st.at λo e=>k it (by simp) o e
 item:=by
  intro X hP hw hK hc i Qx s σ H E I hf st hg;subst hP hw hK;obtain⟨xs,x,hq,hx⟩:=hg;obtain⟨its,rv,p,hz⟩:=I.list hq;obtain⟨u,hu,ru⟩:=rv.get hx;obtain⟨f0,f1,f2,f3,f4,f5⟩:=hf it (by simp);refine wpAny_pyNext_list_item st p.isList (x:=u) (by simpa using hu) λh' st' sb=>?_
  have I1:ag X Qx σ H {s with heap:=h'}:=I.turned (t':=s.toks) (λb o hb e=>(sb.2 b hb).trans e) f0 f1 f3 f4 f5;obtain⟨o,e,c,d⟩:=id st';exact⟨u,rfl,lL (s:={s with heap:=h'}) e c d (by decide) ⟨x,H,I1,ru,⟨rfl,λys hy=>by rw[I.list_inj hy hq];exact hx⟩,st',λb hb=>(hf b hb).1⟩⟩
 done:=by
  intro X hP hw hK hc i Qx s σ H E I hf st hg;subst hP hw hK;obtain⟨xs,hq,hx⟩:=hg;obtain⟨its,rv,p,hz⟩:=I.list hq;obtain⟨f0,f1,f2,f3,f4,f5⟩:=hf it (by simp);have hl:=rv.length;exact wpAny_pyNext_list_end (I.ok.hd hc) st p.isList (by simp;omega) λh' eb=>⟨rfl,I.turned (t':=s.toks) (λb o hb e=>eb b o hb e) f0 f1 f3 f4 f5⟩
 self:=λ_ _ _ _ _ st h=>wpAny_pyIter_listiter st h
def NQ{P:Program}{w:World}{K:W.Frag}{tg:Expr}(a it:Addr):iW P w K tg (y6 K a) [it] it (λi h=>h.IsTupleIter it a i) where
 mem:=by simp
 obj:=λi h st b hb=>by
  have e:b=it:=by simpa using hb
  subst e;obtain⟨o,e,c,d⟩:=st;exact⟨o,e,λv z=>by rw[d]at z;cases z⟩
 keep:=λi h h' st k=>st.at λo e=>k it (by simp) o e
 item:=by
  intro X hP hw hK hc i Qx s σ H E I hf st hg;subst hP hw hK;obtain⟨xs,x,hq,hx⟩:=hg;obtain⟨its,rv,p,hz⟩:=I.tuple hq;obtain⟨u,hu,ru⟩:=rv.get hx;obtain⟨f0,f1,f2,f3,f4,f5⟩:=hf it (by simp);refine wpAny_pyNext_tuple_item st (show s.heap.IsTuple a its.toArray from p) (x:=u) (by simpa using hu) λh' st' sb=>?_
  have I1:ag X Qx σ H {s with heap:=h'}:=I.turned (t':=s.toks) (λb o hb e=>(sb.2 b hb).trans e) f0 f1 f3 f4 f5;obtain⟨o,e,c,d⟩:=id st';exact⟨u,rfl,lL (s:={s with heap:=h'}) e c d (by decide) ⟨x,H,I1,ru,⟨rfl,λys hy=>by rw[I.tuple_inj hy hq];exact hx⟩,st',λb hb=>(hf b hb).1⟩⟩
 done:=by
  intro X hP hw hK hc i Qx s σ H E I hf st hg;subst hP hw hK;obtain⟨xs,hq,hx⟩:=hg;obtain⟨its,rv,p,hz⟩:=I.tuple hq;obtain⟨f0,f1,f2,f3,f4,f5⟩:=hf it (by simp);have hl:=rv.length;exact wpAny_pyNext_tuple_end (I.ok.hd hc) st (show s.heap.IsTuple a its.toArray from p) (by simp;omega) λh' eb=>⟨rfl,I.turned (t':=s.toks) (λb o hb e=>eb b o hb e) f0 f1 f3 f4 f5⟩
 self:=λ_ _ _ _ _ st h=>wpAny_pyIter_tupleiter st h
def NP{P:Program}{w:World}{K:W.Frag}{tg:Expr}(it:Addr)(lo:Int)(n:Nat):iW P w K tg (ye lo n) [it] it (λi h=>IsRangeIter h it (lo+(i:Nat)*1) ((n:Int)-(i:Nat)) 1) where
 mem:=by simp
 obj:=λi h st b hb=>by
  have e:b=it:=by simpa using hb
  subst e;exact⟨_,st,λv z=>by
   have z':Data.fields _=Data.cell v:=z;cases z'⟩
 keep:=λi h h' st k=>k it (by simp) _ st
 item:=by
  intro X hP hw hK hc i Qx s σ H E I hf st hg;subst hP hw hK;obtain⟨f0,f1,f2,f3,f4,f5⟩:=hf it (by simp);have W:=Walks.range (prog:=X.prog) (w:=X.w) (I.ok.hd hc) it lo 1 n;refine W.item i s _ _ hg st λv h' tk hv st' kk=>?_
  obtain⟨t,rfl⟩:=hv;have I1:ag X Qx σ H {s with heap:=h',toks:=tk}:=I.turned (λb o hb e=>kk b o (by simpa using hb) e) f0 f1 f3 f4 f5;refine⟨_,rfl,lL (s:={s with heap:=h',toks:=tk}) (n:="range_iterator") st' rfl rfl (by decide) ⟨.int (lo+i),H,I1,⟨t,?_⟩,⟨rfl,rfl⟩,st',λb hb=>(hf b hb).1⟩⟩;rw[Int.mul_one]
 done:=by
  intro X hP hw hK hc i Qx s σ H E I hf st hg;subst hP hw hK;obtain⟨f0,f1,f2,f3,f4,f5⟩:=hf it (by simp);exact wpAny_pyNext_range_end (I.ok.hd hc) st (by have:n<=i:=hg;omega) λh' eb=>⟨rfl,I.turned (t':=s.toks) (λb o hb e=>eb b o hb e) f0 f1 f3 f4 f5⟩
 self:=λ_ _ _ _ _ st h=>wpAny_pyIter_rangeiter st h
section
variable{X:Cx}{tg:Expr}
def LM{Qx:List (Addr×Obj)}{σ:St}{H:Hp}{s:Shared}{R:It->Hp->Prop}{E:Value->Shared->Prop}{lo hi:Int}{t u v:Tok}{tk:Nat}(I:ag X Qx σ H s)(h1:-(2 ^ 62)<=lo)(h2:lo<2 ^ 62)(h3:-(2 ^ 62)<=hi)(h4:hi<2 ^ 62)
  (q:R (ye lo (hi-lo).toNat) H):wpAny (model X.prog X.w) X.A (pyIter (.ref s.heap.objs.size)) (yd X Qx σ tg R) E {s with heap:=s.heap.push {cls:=.type "range",data:=.fields #[.int lo t,.int hi u,.int 1 v]},toks:=tk}:=by
 refine wpAny_pyIter_range (IsRange.new ..) (small_one h1 h2 h3 h4) ?_;have I1:ag X Qx σ H {s with heap:=s.heap.push {cls:=.type "range",data:=.fields #[.int lo t,.int hi u,.int 1 v]},toks:=tk}:=I.kept λb o e=>bc _ e
 refine⟨(s.heap.push {cls:=.type "range",data:=.fields #[.int lo t,.int hi u,.int 1 v]}).objs.size,[(s.heap.push {cls:=.type "range",data:=.fields #[.int lo t,.int hi u,.int 1 v]}).objs.size],_,_,H,rfl,
  I1.kept (t':=tk) λb o e=>bc _ e,NP _ lo (hi-lo).toNat,?_,λb hb=>?_,q⟩
 ·have e1:lo+((0:Nat):Int)*1=lo:=by simp
  have e2:(((hi-lo).toNat:Nat):Int)-((0:Nat):Int)=Builtin.Range.rangeSize lo hi 1:=by rw[rangeSize_one];split<;>omega
  show IsRangeIter _ _ (lo+((0:Nat):Int)*1) ((((hi-lo).toNat:Nat):Int)-((0:Nat):Int)) 1;rw[e1,e2];exact cf _ rfl
 ·have e:b=(s.heap.push {cls:=.type "range",data:=.fields #[.int lo t,.int hi u,.int 1 v]}).objs.size:=by simpa using hb
  subst e;exact I1.fpOk (ba _) (I1.hok.fresh (ba _))
def F_(ta:TA):TI:=λσ H R=>ta σ H λvs H1=>∃j:Int,vs=[.int j] /\ -(2 ^ 62)<=j/\j<2 ^ 62/\R (ye 0 j.toNat) H1
def MQ{a:Expr}{ta:TA}{p pos:Pos}(hg:Gl X "range")(hm:X.mg "range"=none)(ha:PA X [a] ta)(hs:starEach [a] X.env=[(false,eval a X.env)]:=by rfl):PI X tg (.Call (.Name "range" p) [a] [] pos) (F_ ta):=by
 intro Qx s σ H R I h;refine Call_ (kG I hg hm boot_range (PyProof.Rows.callWith_type1 (bf (ha pos Qx s σ H _ I h) λus s1 ⟨vs,H1,I1,r1,q1⟩=>?_) hs rfl));obtain⟨j,e,q1,q2,q⟩:=q1;subst e;cases r1 with
 |cons r rr=>
  cases rr;obtain⟨t,rfl⟩:=r;exact call_range_1 (LM I1 (by omega) (by omega) q1 q2 (by simpa using q))
def GD(wi:TI)(g:TG)(tb:TS):TS:=λD σ H=>wi σ H λJ H1=>∃W:Nat->Nat->St->Hp->Prop,(∃m,W 0 m σ H1)/\∀i m σ H,W i m σ H ->
 (J.stop i H/\D.nx σ H)\/(J.go i H/\∃N:St->Hp->Prop,(∀σ' H',N σ' H'->∃m',m'<m/\W (i+1) m' σ' H')/\∀x H',J.yld i H x H'->g x σ H' λσ2 H2=>tb {D with nx:=N,ct:=N,bk:=D.nx} σ2 H2)
def pE(fp:List Addr)(h:Heap):List (Addr×Obj):=fp.filterMap λb=>(h.get? b).map λo=>(b,o)
def qT{fp:List Addr}{h:Heap}{b:Addr}{o:Obj}(hb:b∈fp)(e:h.get? b=some o):(b,o)∈pE fp h:=qM_.mpr ⟨b,hb,by rw[e];rfl⟩
def MM{fp:List Addr}{h:Heap}{p:Addr×Obj}(hp:p∈pE fp h):p.1∈fp/\h.get? p.1=some p.2:=by
 obtain⟨b,hb,e⟩:=qM_.mp hp;cases q:h.get? b with
 |none=>rw[q]at e;cases e
 |some o=>
  rw[q]at e;have e':(b,o)=p:=Option.some.inj e;subst e';exact⟨hb,q⟩
def ag.pinned{Qx:List (Addr×Obj)}{σ:St}{H:Hp}{s:Shared}{fp:List Addr}(I:ag X Qx σ H s)(hf:∀b∈fp,fM X Qx H b)(ho:∀b∈fp,∃o,s.heap.get? b=some o/\∀v,o.data≠.cell v):ag X (Qx++pE fp s.heap) σ H s:=
 I.pins_of λp hp=>(qp_.mp hp).elim (λz=>I.pin p (fe _ z)) λz=>by
  obtain⟨hb,e⟩:=MM z;obtain⟨f0,f1,f2,_⟩:=hf p.1 hb;obtain⟨o,e',d⟩:=ho p.1 hb;rw[e]at e';cases e';exact⟨e,f0,f1,f2,d⟩
def ag.unpinned{Qx pl:List (Addr×Obj)}{σ:St}{H:Hp}{s:Shared}(I:ag X (Qx++pl) σ H s):ag X Qx σ H s:=I.pins_of λp hp=>I.pin p (fe _ (ic _ hp))
def Ic{iter:Expr}{body:List Stmt}{wi:TI}{g:TG}{tb:TS}{pos:Pos}(hp:PassesOwn (model X.prog X.w) X.A X.env X.xe)(hc:X.calm=true)(hi:PI X tg iter wi)(hg:PG X tg g)(hb:gz X body tb)
  (hs:∀x,foldedSetIterable iter X.env x=pure x:=by intro _;rfl):PS X (.For tg iter body [] pos) (GD wi g tb):=by
 intro Qx s σ H D I h;refine wpAny_For (bf (hi Qx s σ H _ I h) λv s1 h1=>bf h1 λitv s2 h2=>?_) hs;obtain⟨it,fp,tn,J,H2,e,I2,T,st2,f2,W,⟨m0,w0⟩,turn⟩:=h2;subst e
 -- what stays true of the iterator's objects through the loop
 have stat:∀{H':Hp},(∀b∈fp,H' b=none)->∀b∈fp,fM X Qx H' b:=λhn b hb=>⟨hn b hb,(f2 b hb).2⟩
 refine codeAny_forLoop_any (λn s'=>∃i σ' H',ag X Qx σ' H' s'/\tn i s'.heap/\(∀b∈fp,H' b=none)/\W i n σ' H') ?_ m0 ⟨0,σ,H2,I2,st2,λb hb=>(f2 b hb).1,w0⟩;rintro n s3 ⟨i,σ3,H3,I3,st3,fr3,w3⟩;rcases turn i n σ3 H3 w3 with⟨stop,qn⟩|⟨go,N,hN,step⟩
 ·refine wpAny_passesOwn hp (bf (T.done X rfl rfl rfl hc i Qx s3 σ3 H3 X.xe I3 (stat fr3) st3 stop) λr s4 ⟨hr,I4⟩=>?_);subst hr;exact wpAny_execs_nil ⟨σ3,H3,I4,qn⟩
 ·refine wpAny_passesOwn hp (bf (T.item X rfl rfl rfl hc i Qx s3 σ3 H3 X.xe I3 (stat fr3) st3 go) λr s4 ⟨u,hr,h4⟩=>?_);subst hr;refine wpAny_passesOwn hp (bf h4 λ_ s5 ⟨x,H5,I5,r5,y5,st5,fr5⟩=>?_);have I5':=I5.pinned (stat fr5) (T.obj _ _ st5);refine wpAny_passesOwn hp (bf (hg _ s5 σ3 H5 x u _ I5' r5 (step x H5 y5)) λ_ s6 ⟨σ6,H6,I6,q6⟩=>?_);refine wpAny_passesOwn hp (bf (hb _ s6 σ6 H6 _ I6 q6) λf s7 q7=>?_);have again:∀{σ7:St} {H7:Hp},ag X (Qx++pE fp s5.heap) σ7 H7 s7->N σ7 H7->∃m,m<n/\∃i σ' H',ag X Qx σ' H' s7/\tn i s7.heap/\(∀b∈fp,H' b=none)/\W i m σ' H':=λ{σ7 H7} I7 n7=>by
   obtain⟨m',hm,w7⟩:=hN σ7 H7 n7;refine⟨m',hm,i+1,σ7,H7,I7.unpinned,T.keep _ _ _ st5 λb hb o e=>(I7.pin (b,o) (fe _ (fe _ (qT hb e)))).1,λb hb=>?_,w7⟩;obtain⟨o,e,d⟩:=T.obj _ _ st5 b hb;exact(I7.pin (b,o) (fe _ (fe _ (qT hb e)))).2.1
  cases f with
  |next=>obtain⟨σ7,H7,I7,n7⟩:=q7;exact again I7 n7
  |cont=>obtain⟨σ7,H7,I7,n7⟩:=q7;exact again I7 n7
  |brk=>obtain⟨σ7,H7,I7,q7⟩:=q7;exact⟨σ7,H7,I7.unpinned,q7⟩
  |ret v=>obtain⟨x7,σ7,H7,I7,r7,q7⟩:=q7;exact⟨x7,σ7,H7,I7.unpinned,r7,q7⟩
end
abbrev R2:=V->V->Hp->VK->Prop
def cm(X:Cx)(f:Value->Value->Sem Value)(r:R2):Prop:=
 ∀(Qx:List (Addr×Obj)) (s:Shared) (σ:St) (H:Hp) (x y:V) (v u:Value) (Q:VK),ag X Qx σ H s->ah x v->ah y u->r x y H Q ->
  wpAny (model X.prog X.w) X.A (f v u) (EP X Qx σ Q) X.xe s
def ya(X:Cx)(f:Value->Sem Value)(r:V->Hp->VK->Prop):Prop:=
 ∀(Qx:List (Addr×Obj)) (s:Shared) (σ:St) (H:Hp) (x:V) (v:Value) (Q:VK),ag X Qx σ H s->ah x v->r x H Q ->
  wpAny (model X.prog X.w) X.A (f v) (EP X Qx σ Q) X.xe s
def aq(X:Cx)(f:Value)(r:List V->Hp->VK->Prop):Prop:=
 ∀(Qx:List (Addr×Obj)) (s:Shared) (σ:St) (H:Hp) (xs:List V) (us:List Value) (Q:VK),ag X Qx σ H s->ai xs us->r xs H Q ->
  wpAny (model X.prog X.w) X.A (call f us) (EP X Qx σ Q) X.xe s
def ur(r:R2)(ta tb:TE):TE:=λσ H Q=>ta σ H λx H1=>tb σ H1 λy H2=>r x y H2 Q
def Pm(r:V->Hp->VK->Prop)(ta:TE):TE:=λσ H Q=>ta σ H λx H1=>r x H1 Q
def rI(C:Int->Int->Prop)(g:Int->Int->V):R2:=λx y H Q=>∃i j,x=.int i/\y=.int j/\C i j/\Q (g i j) H
def q0(g:Int->Int->V):R2:=λx y H Q=>∃i j,x=.int i/\y=.int j/\Q (g i j) H
def rU(g:Int->V):V->Hp->VK->Prop:=λx H Q=>∃i,x=.int i/\Q (g i) H
section
variable{X:Cx}{a b c:Expr}{ta tb tc:TE}{pos:Pos}
def zX(ha:PE X a ta)(hb:PE X b tb){Qx:List (Addr×Obj)}{s:Shared}{σ:St}{H:Hp}{R:V->V->Hp->Prop}(I:ag X Qx σ H s)
  (h:ta σ H λx H1=>tb σ H1 λy H2=>R x y H2) {Q:Value->Shared->Prop} {f:Value->Value->Sem Value}
  (hf:∀v u s2 x y H2,ag X Qx σ H2 s2->ah x v->ah y u->R x y H2->wpAny (model X.prog X.w) X.A (f v u) Q X.xe s2):
  wpAny (model X.prog X.w) X.A (eval a X.env) (λv s₁=>wpAny (model X.prog X.w) X.A (eval b X.env) (λu s₂=>wpAny (model X.prog X.w) X.A (f v u) Q X.xe s₂) X.xe s₁) X.xe s:=by
 refine bf (ha Qx s σ H _ I h) λv s1 ⟨x,H1,I1,r1,q1⟩=>?_
 refine bf (hb Qx s1 σ H1 _ I1 q1) λu s2 ⟨y,H2,I2,r2,q2⟩=>?_
 exact hf v u s2 x y H2 I2 r1 r2 q2
def cT{op:Operator}{r:R2}(ho:cm X (binaryOp op) r)(ha:PE X a ta)(hb:PE X b tb):PE X (.BinOp a op b pos) (ur r ta tb):=by
 intro Qx s σ H Q I h;exact wpAny_BinOp (zX ha hb I h λv u s2 x y H2 I2 rx ry q=>ho Qx s2 σ H2 x y v u Q I2 rx ry q)
def Br{op:UnaryOp}{r:V->Hp->VK->Prop}(ho:ya X (unaryOp op) r)(ha:PE X a ta):PE X (.UnaryOp op a pos) (Pm r ta):=by
 intro Qx s σ H Q I h;exact UnaryOp_ (bf (ha Qx s σ H _ I h) λv s1 ⟨x,H1,I1,r1,q1⟩=>ho Qx s1 σ H1 x v Q I1 r1 q1)
def tp{f:Value->Value->Sem Value}{C:Int->Int->Prop}{g:Int->Int->Int}
  (rule:∀(i j:Int) (t u:Tok) (s:Shared) (Q:Value->Shared->Prop) (E:Value->Shared->Prop),C i j->Q (.int (g i j) s.toks) {s with toks:=s.toks+1}->wpAny (model X.prog X.w) X.A (f (.int i t) (.int j u)) Q E s):
  cm X f (rI C λi j=>.int (g i j)):=by
 intro Qx s σ H x y v u Q I rx ry h;obtain⟨i,j,rfl,rfl,hc,q⟩:=h;obtain⟨t,rfl⟩:=rx;obtain⟨t',rfl⟩:=ry;exact rule i j t t' s _ _ hc ⟨.int (g i j),H,I.tok _,⟨_,rfl⟩,q⟩
def zh{f:Value->Value->Sem Value}{g:Int->Int->Int}
  (rule:∀(i j:Int) (t u:Tok) (s:Shared) (Q:Value->Shared->Prop) (E:Value->Shared->Prop),Q (.int (g i j) s.toks) {s with toks:=s.toks+1}->wpAny (model X.prog X.w) X.A (f (.int i t) (.int j u)) Q E s):
  cm X f (q0 λi j=>.int (g i j)):=by
 intro Qx s σ H x y v u Q I rx ry h;obtain⟨i,j,rfl,rfl,q⟩:=h;obtain⟨t,rfl⟩:=rx;obtain⟨t',rfl⟩:=ry;exact rule i j t t' s _ _ ⟨.int (g i j),H,I.tok _,⟨_,rfl⟩,q⟩
def zU{f:Value->Value->Sem Value}{g:Int->Int->Bool}
  (rule:∀(i j:Int) (t u:Tok) (s:Shared) (Q:Value->Shared->Prop) (E:Value->Shared->Prop),Q (.bool (g i j)) s->wpAny (model X.prog X.w) X.A (f (.int i t) (.int j u)) Q E s):
  cm X f (q0 λi j=>.bl (g i j)):=by
 intro Qx s σ H x y v u Q I rx ry h;obtain⟨i,j,rfl,rfl,q⟩:=h;obtain⟨t,rfl⟩:=rx;obtain⟨t',rfl⟩:=ry;exact rule i j t t' s _ _ ⟨.bl (g i j),H,I,rfl,q⟩
def Fk(i j:Int):Prop:=0<j/\j<1073741824
def Ag(i j:Int):Prop:=0<=j/\j<=1000000/\i.natAbs<2 ^ 64
def qz(i j:Int):Prop:=(-(2 ^ 64)<i/\i<2 ^ 64)\/(-(2 ^ 64)<j/\j<2 ^ 64)
def qz.ok{i j:Int}(h:qz i j):IntMulOk i j:=by
 rcases h with⟨h1,h2⟩|⟨h1,h2⟩
 ·exact .of_left (intBits_le_64 h1 h2)
 ·exact .of_right (intBits_le_64 h1 h2)
def op_add:cm X (binaryOp .Add) (q0 λi j=>.int (i+j)):=zh λ_ _ _ _ _ _ _ q=>add_int q
def IR:cm X (binaryOp .Sub) (q0 λi j=>.int (i-j)):=zh λ_ _ _ _ _ _ _ q=>sub_int q
def op_mul:cm X (binaryOp .Mult) (rI qz λi j=>.int (i*j)):=tp λ_ _ _ _ _ _ _ hc q=>mul_int q hc.ok
def B0:cm X (binaryOp .FloorDiv) (rI Fk λi j=>.int (i / j)):=tp λi j _ _ _ _ _ hc q=>by
 have h1:(0:Int)<j:=hc.1;have h2:j<1073741824:=hc.2;exact floordiv_int (by omega) (by rw[ve i (by omega)];exact q) (.inl (PyProof.noPylong_small (by omega)))
def jL:cm X (binaryOp .Mod) (rI (λ_ j=>0<j) λi j=>.int (i % j)):=tp λi j _ _ _ _ _ hc q=>by
 have h1:(0:Int)<j:=hc;exact mod_int' (by omega) (by rw[Int.fmod_eq_emod_of_nonneg i (by omega)];exact q)
def Ls:cm X (binaryOp .Mod) (rI (λ_ j=>j≠0) λi j=>.int (i.fmod j)):=tp λ_ _ _ _ _ _ _ hc q=>mod_int' hc q
def Bb:cm X (binaryOp .Pow) (rI Ag λi j=>.int (i ^ j.toNat)):=tp λ_ _ _ _ _ _ _ hc q=>pow_int_small hc.1 hc.2.1 hc.2.2 q
def Pd{f:Value->Sem Value}{g:Int->Int}
  (rule:∀(i:Int) (t:Tok) (s:Shared) (Q:Value->Shared->Prop) (E:Value->Shared->Prop),Q (.int (g i) s.toks) {s with toks:=s.toks+1}->wpAny (model X.prog X.w) X.A (f (.int i t)) Q E s):
  ya X f (rU λi=>.int (g i)):=by
 intro Qx s σ H x v Q I rx h;obtain⟨i,rfl,q⟩:=h;obtain⟨t,rfl⟩:=rx;exact rule i t s _ _ ⟨.int (g i),H,I.tok _,⟨_,rfl⟩,q⟩
def AF:ya X (unaryOp .USub) (rU λi=>.int (-i)):=Pd λ_ _ _ _ _ q=>neg_int q
def sR{Qx:List (Addr×Obj)}{σ:St}{H:Hp}{s:Shared}{Q:VK}{k k':Bool}(I:ag X Qx σ H s)(q:Q (.bl k) H)(e:k=k'):EP X Qx σ Q (.bool k') s:=by
 subst e;exact⟨.bl k,H,I,rfl,q⟩
def op_lt:cm X (compareOp .Lt) (q0 λi j=>.bl (decide (i<j))):=zU λ_ _ _ _ _ _ _ q=>lt_int q
def HP:cm X (compareOp .LtE) (q0 λi j=>.bl (decide (i<=j))):=zU λ_ _ _ _ _ _ _ q=>le_int q
def HN:cm X (compareOp .Gt) (q0 λi j=>.bl (decide (j<i))):=zU λ_ _ _ _ _ _ _ q=>gt_int q
def MO:cm X (compareOp .Lt) (λx y H Q=>∃i j,x=.str i/\y=.str j/\Q (.bl (decide (i.cps.toList<j.cps.toList))) H):=by
 intro Qx s σ H x y v u Q I rx ry h;obtain⟨i,j,rfl,rfl,q⟩:=h;obtain⟨t,rfl⟩:=rx;obtain⟨t',rfl⟩:=ry;exact lt_str (sR I q rfl)
def op_in_str:cm X (compareOp .In) (λx y H Q=>∃i j,x=.str i/\y=.str j/\Q (.bl (!(Builtin.Str.occurrences j i 0 j.length 1).isEmpty)) H):=by
 intro Qx s σ H x y v u Q I rx ry h;obtain⟨i,j,rfl,rfl,q⟩:=h;obtain⟨t,rfl⟩:=rx;obtain⟨t',rfl⟩:=ry;exact in_str (sR I q rfl)
def op_isN:cm X (compareOp .Is) (λx y H Q=>y=.non/\Q (.bl (decide (x=.non))) H):=by
 intro Qx s σ H x y v u Q I rx ry h;obtain⟨rfl,q⟩:=h;cases ry;refine is_none_gen (sR I q ?_);cases x<;>first
  |(cases rx;rfl)
  |(obtain⟨t,rfl⟩:=rx;rfl)
def op_notN:cm X (compareOp .IsNot) (λx y H Q=>y=.non/\Q (.bl (!decide (x=.non))) H):=by
 intro Qx s σ H x y v u Q I rx ry h;obtain⟨rfl,q⟩:=h;cases ry;refine isnot_none_gen (sR I q ?_);cases x<;>first
  |(cases rx;rfl)
  |(obtain⟨t,rfl⟩:=rx;rfl)
def cm.or{f:Value->Value->Sem Value}{r r':R2}(h:cm X f r)(h':cm X f r'):cm X f (λx y H Q=>r x y H Q\/r' x y H Q):=by
 intro Qx s σ H x y v u Q I rx ry q;rcases q with q|q
 ·exact h Qx s σ H x y v u Q I rx ry q
 ·exact h' Qx s σ H x y v u Q I rx ry q
def mW(b:Expr){op:CmpOp}(h:op≠.In:=by decide)(h2:op≠.NotIn:=by decide):behindInMarks op b=false:=by
 have e1:(op==CmpOp.In)=false:=by cases op<;>first|rfl|exact absurd rfl h
 have e2:(op==CmpOp.NotIn)=false:=by cases op<;>first|rfl|exact absurd rfl h2
 cases b<;>simp[behindInMarks,e1,e2]
def K1{op:CmpOp}{r:R2}(ho:cm X (compareOp op) r)(ha:PE X a ta)(hb:PE X b tb)(hm:behindInMarks op b=false):PE X (.Compare a [op] [b] pos) (ur r ta tb):=by
 intro Qx s σ H Q I h;exact wpAny_Compare1 (zX ha hb I h λv u s2 x y H2 I2 rx ry q=>ho Qx s2 σ H2 x y v u Q I2 rx ry q) hm
def yJ(t:TE):TT:=λσ H Q=>t σ H λx H'=>∃k,x=.bl k/\Q k H'
def xE{op:CmpOp}{r:R2}(ho:cm X (compareOp op) r)(ha:PE X a ta)(hb:PE X b tb)(hm:behindInMarks op b=false):PT X (.Compare a [op] [b] pos) (yJ (ur r ta tb)):=by
 intro Qx s σ H Q I h;refine wpAny_isTrue_Compare1 (bf (ha Qx s σ H _ I h) λv s1 ⟨x,H1,I1,r1,q1⟩=>bf (hb Qx s1 σ H1 _ I1 q1) λu s2 ⟨y,H2,I2,r2,q2⟩=>
  bf (ho Qx s2 σ H2 x y v u _ I2 r1 r2 q2) λc s3 ⟨z,H3,I3,r3,k,e,q3⟩=>?_) hm
 subst e;cases r3;exact wpAny_truthy_bool ⟨H3,I3,q3⟩
def AA(r r':R2)(ta tb tc:TE):TE:=λσ H Q=>ta σ H λx H1=>tb σ H1 λy H2=>r x y H2 λz H3=>∃k,z=.bl k /\
 (if k=true then tc σ H3 λw' H4=>r' y w' H4 Q else Q (.bl false) H3)
def LF{op op':CmpOp}{r r':R2}(ho:cm X (compareOp op) r)(ho':cm X (compareOp op') r')(ha:PE X a ta)(hb:PE X b tb)(hc:PE X c tc)
  (hm:lastMarks [op,op'] [b,c]=false:=by with_unfolding_all rfl):PT X (.Compare a [op,op'] [b,c] pos) (yJ (AA r r' ta tb tc)):=by
 intro Qx s σ H Q I h;refine isTrue_chain (bf (ha Qx s σ H _ I h) λv s1 ⟨x,H1,I1,r1,q1⟩=>test_link (bf (hb Qx s1 σ H1 _ I1 q1) λu s2 ⟨y,H2,I2,r2,q2⟩=>
  bf (ho Qx s2 σ H2 x y v u _ I2 r1 r2 q2) λd s3 ⟨z,H3,I3,r3,k,e,q3⟩=>?_)) hm
 subst e;cases r3;refine wpAny_truthy_bool ?_;cases k with
 |false=>
  obtain⟨k',e',q'⟩:=q3;cases e';exact ite_ff ⟨H3,I3,q'⟩
 |true=>
  refine ite_tt (test_last (bf (hc Qx s3 σ H3 _ I3 q3) λw' s4 ⟨z',H4,I4,r4,q4⟩=>bf (ho' Qx s4 σ H4 y z' u w' _ I4 r2 r4 q4) λd' s5 ⟨z2,H5,I5,r5,k2,e2,q5⟩=>?_));subst e2;cases r5;exact wpAny_truthy_bool ⟨H5,I5,q5⟩
def mX:(sizeLine:Nat)<2 ^ 63:=by rw[sizeLine_eq];decide
def op_add_str:cm X (binaryOp .Add) (λx y H Q=>∃i j,x=.str i/\y=.str j/\i.length+j.length<=sizeLine/\Q (.str (i++j)) H):=by
 intro Qx s σ H x y v u Q I rx ry h;obtain⟨i,j,rfl,rfl,hz,q⟩:=h;obtain⟨t,rfl⟩:=rx;obtain⟨t',rfl⟩:=ry;exact add_str (λt' tk=>⟨.str (i++j),H,I.tok _,⟨_,rfl⟩,q⟩) hz
def cN{x:V}{us:List Value}(r:ai [x] us):∃u,us=[u]/\ah x u:=by
 cases r with
 |cons r1 r2=>cases r2;exact⟨_,rfl,r1⟩
def jN{x y:V}{us:List Value}(r:ai [x,y] us):∃u w',us=[u,w']/\ah x u/\ah y w':=by
 cases r with
 |cons r1 r2=>
  cases r2 with
  |cons r3 r4=>cases r4;exact⟨_,_,rfl,r1,r3⟩
def Mq:aq X (.builtin "abs") (λxs H Q=>∃i,xs=[.int i]/\Q (.int (if i<0 then -i else i)) H):=by
 intro Qx s σ H xs us Q I r h;obtain⟨i,rfl,q⟩:=h;obtain⟨u,rfl,t,rfl⟩:=cN r;exact call_abs_int λu tk=>⟨.int (if i<0 then -i else i),H,I.tok _,⟨_,rfl⟩,q⟩
def Na(hc:X.calm=true):aq X (.builtin "max") (λxs H Q=>∃i j,xs=[.int i,.int j]/\Q (.int (if j > i then j else i)) H):=by
 intro Qx s σ H xs us Q I r h;obtain⟨i,j,rfl,q⟩:=h;obtain⟨u,w',rfl,⟨t,rfl⟩,⟨t',rfl⟩⟩:=jN r;refine max_two_ints (I.ok.hd hc) λh' tk k=>⟨_,H,I.kept k,?_,q⟩
 by_cases hj:j > i
 ·rw[if_pos hj,if_pos hj];exact⟨_,rfl⟩
 ·rw[if_neg hj,if_neg hj];exact⟨_,rfl⟩
def Nc(hc:X.calm=true):aq X (.builtin "min") (λxs H Q=>∃i j,xs=[.int i,.int j]/\Q (.int (if j<i then j else i)) H):=by
 intro Qx s σ H xs us Q I r h;obtain⟨i,j,rfl,q⟩:=h;obtain⟨u,w',rfl,⟨t,rfl⟩,⟨t',rfl⟩⟩:=jN r;refine min_two_ints (I.ok.hd hc) λh' tk k=>⟨_,H,I.kept k,?_,q⟩
 by_cases hj:j<i
 ·rw[if_pos hj,if_pos hj];exact⟨_,rfl⟩
 ·rw[if_neg hj,if_neg hj];exact⟨_,rfl⟩
end
def gu.some_of{v:V}{o:Option Value}(r:gu (some v) o):∃u,o=some u/\ah v u:=by
 cases o with
 |none=>exact(show False from r).elim
 |some u=>exact⟨u,rfl,r⟩
structure bx (k:Nat) (A:Around):Prop where
 hd:A.handled=none
 dp:A.depth+3*k+5<recursionLimit
 un:A.units+16*k+200<cLine
 gd:A.guards=some []
def bx.mono{j k:Nat}{A:Around}(r:bx k A)(h:j<=k):bx j A:=⟨r.hd,by have:=r.dp;omega,by have:=r.un;omega,r.gd⟩
def bx.deeper{k:Nat}{A:Around}(r:bx (k+1) A)(env:Env):bx k (A.deeper env):=
 ⟨r.hd,by have:=r.dp;show A.depth+1+3*k+5<_;omega,by have:=r.un;show A.units+3+16*k+200<_;omega,r.gd⟩
def bx.depth{k:Nat}{A:Around}(r:bx k A):A.depth<recursionLimit:=by have:=r.dp;omega
def bx.units{k:Nat}{A:Around}(r:bx k A):A.units+64<cLine:=by have:=r.un;omega
def pP:TA:=λ_ H Q=>Q [] H
def yK(ta:TE)(tr:TA):TA:=λσ H Q=>ta σ H λx H1=>tr σ H1 λxs H2=>Q (x::xs) H2
section
variable{X:Cx}{e:Expr}{es:List Expr}{te:TE}{t:TA}{pos:Pos}
def dC:PA X [] pP:=λ_ _ _ _ H Q I h=>Calls.spliced_nil ⟨[],H,I,.nil,h⟩
def KZ(ha:PE X e te)(hr:PA X es t)(hs:starEach (e::es) X.env=(false,eval e X.env)::starEach es X.env:=by rfl):PA X (e::es) (yK te t):=by
 intro pos Qx s σ H Q I h;rw[hs];show wpAny _ _ (spliced ((false,eval e X.env)::backTo pos (starEach es X.env))) _ _ s;refine Calls.spliced_cons (bf (ha Qx s σ H _ I h) λu s1 ⟨x,H1,I1,r1,q1⟩=>?_);exact bf (hr pos Qx s1 σ H1 _ I1 q1) λus s2 ⟨xs,H2,I2,r2,q2⟩=>⟨x::xs,H2,I2,.cons r1 r2,q2⟩
def FN(t:TA):TE:=λσ H Q=>t σ H λxs H1=>xs.length<=sizeLine/\∀p,H1 p=none->Q (.ref p) (ar H1 p (.tup xs))
def zy(t:TA):TE:=λσ H Q=>t σ H λxs H1=>xs.length<=sizeLine/\∀p,H1 p=none->Q (.ref p) (ar H1 p (.lst xs))
def Jc{x1}(h:PA X es t):PE X (.Tuple es x1 pos) (FN t):=by
 intro Qx s σ H Q I hq;refine wpAny_Tuple_spliced (bf (h pos Qx s σ H _ I hq) λus s1 ⟨xs,H1,I1,r,z,q⟩=>⟨by rw[<-r.length];exact z,?_⟩);have hf:H1 s1.heap.objs.size=none:=I1.hok.fresh (ba _);refine⟨.ref s1.heap.objs.size,ar H1 s1.heap.objs.size (.tup xs),I1.laid (t':=s1.toks) (λb u e=>bc _ e) (ba _) ?_,rfl,q _ hf⟩;exact⟨z,us,r,⟨_,cf _ rfl,rfl,_,rfl⟩⟩
def Bf(h:PA X es t):PE X (.List es pos) (zy t):=by
 intro Qx s σ H Q I hq;refine wpAny_List_spliced (bf (h pos Qx s σ H _ I hq) λus s1 ⟨xs,H1,I1,r,z,q⟩=>⟨by rw[<-r.length];exact z,?_⟩);have hf:H1 s1.heap.objs.size=none:=I1.hok.fresh (ba _);refine⟨.ref s1.heap.objs.size,ar H1 s1.heap.objs.size (.lst xs),I1.laid (t':=s1.toks) (λb u e=>bc _ e) (ba _) ?_,rfl,q _ hf⟩;exact⟨z,us,0,r,cf _ rfl⟩
end
abbrev Sp:=List V->Hp->VK->XK->Prop
abbrev nk:=List Env->Hp->Shared->XK->Value->Shared->Prop
structure uR (P:Program) (w:World) (K:W.Frag) (mg:Str->Option Value) (base:Heap) (A:Around) (outer:List Env) (s:Shared) (H:Hp):Prop where
 frames:A.frames=some outer
 mod:Mod K mg base
 bs:∀b o,base.get? b=some o->s.heap.get? b=some o/\H b=none
 bsz:base.objs.size<=s.heap.objs.size
 funs:s.heap.FunFrames base outer
 frf:∀b∈ou outer,H b=none
 hok:d7 P w H s.heap
 bare:AllBare s.gens
def CE(outer:List Env)(P:Program)(w:World)(H:Hp)(s:Shared)(Q:VK)(u:Value)(s':Shared):Prop:=
 ∃v H',s'.os=s.os/\AllBare s'.gens/\Un (ou outer) [] H H' s.heap s'.heap/\d7 P w H' s'.heap/\ah v u/\Q v H'
def CR(CX:nk)(outer:List Env)(P:Program)(w:World)(H:Hp)(s:Shared)(Q:VK)(E:XK)(r:Result)(s':Shared):Prop:=
 match r with
 |.ok (.ret u)=>CE outer P w H s Q u s'
 |.ok _=>False
 |.error e=>CX outer H s E e s'
structure du (P:Program) (w:World) (K:W.Frag) (mg:Str->Option Value) (base:Heap) (CX:nk) (k:Nat) (f:Addr) (fd:FuncData) (ps:List Str) (sp:Sp):Prop where
 len:∀vs H Q E,sp vs H Q E->vs.length=ps.length
 run:∀(A:Around) (outer:List Env) (s:Shared) (H:Hp) (args:Args) (us:List Value) (vs:List V) (Q:VK) (E:XK),bx k A->uR P w K mg base A outer s H->BindsTo s fd args (ps.zip us)->ai vs us->sp vs H Q E ->
  codeAny (model P w) A (.call (.ref f) args) (CR CX outer P w H s Q E) s
theorem du.mono{P:Program}{w:World}{K:W.Frag}{mg:Str->Option Value}{base:Heap}{CX:nk}{j k:Nat}{f:Addr}{fd:FuncData}{ps:List Str}{sp:Sp}(F:du P w K mg base CX j f fd ps sp)(h:j<=k):
  du P w K mg base CX k f fd ps sp:=⟨F.len,λA outer s H args us vs Q E hr=>F.run A outer s H args us vs Q E (hr.mono h)⟩
theorem du.imp{P:Program}{w:World}{K:W.Frag}{mg:Str->Option Value}{base:Heap}{CX:nk}{k:Nat}{f:Addr}{fd:FuncData}{ps:List Str}{sp sp':Sp}(F:du P w K mg base CX k f fd ps sp)
  (h:∀vs H Q E,sp' vs H Q E->sp vs H Q E):du P w K mg base CX k f fd ps sp':=
 ⟨λvs H Q E q=>F.len vs H Q E (h _ _ _ _ q),λA outer s H args us vs Q E hr he hb hv hs=>F.run A outer s H args us vs Q E hr he hb hv (h _ _ _ _ hs)⟩
section
variable{X:Cx}{Qx:List (Addr×Obj)}{σ:St}{H:Hp}{s s':Shared}
def ag.env0(I:ag X Qx σ H s):uR X.prog X.w X.K X.mg X.base X.A X.stack s H:=
 ⟨I.ok.frames,I.ok.mod,I.bs,bw I.ok.bsz I.sz,I.stack,I.stkFree,I.hok,I.bare⟩
def ag.after{Q:VK}{u:Value}(I:ag X Qx σ H s)(h:CE X.stack X.prog X.w H s Q u s'):EP X Qx σ Q u s':=by
 obtain⟨v,H',os,bare,un,hok,r,q⟩:=h;obtain⟨hh,g,d,t,os'⟩:=s';obtain rfl:os'=s.os:=os;exact⟨v,H',I.call (h':=hh) (g':=g) (d':=d) (t':=t) (ch:=[]) un hok bare (λb z=>absurd z (by simp)),r,q⟩
end
def mZ(sp:Sp)(dvs:List V)(E:XK)(t:TA):TE:=λσ H Q=>t σ H λvs H1=>sp (vs++dvs) H1 Q E
def iu(K:W.Frag)(fd:FuncData)(ps:List Str)(ds:List Value):Prop:=
 ∀(s:Shared) (us:List Value),K.In s.heap->(us++ds).length=ps.length->BindsTo s fd ⟨us,[]⟩ (ps.zip (us++ds))
def iu.all{K:W.Frag}{fd:FuncData}{ps:List Str}(h:∀us:List Value,us.length=ps.length->bindArgs fd ⟨us,[]⟩=pure (ps.zip us)):iu K fd ps []:=λs us _ hl=>by
 rw[jk]at hl ⊢;exact .of_eq (h us hl)
def sU(CX:nk)(X:Cx)(E:XK):Prop:=∀(Qx:List (Addr×Obj)) (σ:St) (H:Hp) (s:Shared) (e:Value) (s':Shared),ag X Qx σ H s->CX X.stack H s E e s'->X.xe e s'
section
variable{X:Cx}{CX:nk}{k:Nat}{f C:Addr}{fd:FuncData}{ps:List Str}{sp:Sp}{dvs:List V}{ds:List Value}{E:XK}{x m:Str}{p pos QC:Pos}{e o:Expr}{es:List Expr}{ta:TE}{t:TA}
theorem Au{Qx:List (Addr×Obj)}{σ:St}{H:Hp}{s:Shared}{Q:VK}{us:List Value}{vs:List V}(F:du X.prog X.w X.K X.mg X.base CX k f fd ps sp)(hr:bx k X.A)(hb:iu X.K fd ps ds)(hd:ai dvs ds)(hx:sU CX X E)
  (I:ag X Qx σ H s) (r:ai vs us) (h:sp (vs++dvs) H Q E):wpAny (model X.prog X.w) X.A (call (.ref f) us) (EP X Qx σ Q) X.xe s:=by
 have r2:ai (vs++dvs) (us++ds):=r.append hd;have hl:(us++ds).length=ps.length:=by rw[<-r2.length];exact F.len _ _ _ _ h
 refine wpAny_call (codeAny_mono (F.run X.A X.stack s H ⟨us,[]⟩ (us++ds) (vs++dvs) Q E hr I.env0 (hb s us I.kIn hl) r2 h) λr s' hq=>?_);cases r with
 |error e=>exact hx Qx σ H s e s' I hq
 |ok fl=>
  cases fl with
  |ret u=>exact I.after hq
  |next=>exact False.elim hq
  |brk=>exact False.elim hq
  |cont=>exact False.elim hq
def K0(F:du X.prog X.w X.K X.mg X.base CX k f fd ps sp)(hr:bx k X.A)(hg:Gl X x)(hm:X.mg x=some (.ref f))(hk:W.keepIn X.K (.ref f)=true)(hb:iu X.K fd ps ds)(hd:ai dvs ds)(hx:sU CX X E)
  (ha:PA X (e::es) t) (hdb:(x==("__debug__":Str))=false:=by decide) (he:starEach (e::es) X.env=(false,eval e X.env)::starEach es X.env:=by rfl) (hpl:(backTo pos (starEach es X.env)).any (·.1)=false:=by rfl):
  PE X (.Call (.Name x p) (e::es) [] pos) (mZ sp dvs E t):=by
 intro Qx s σ H Q I h;refine wpAny_Call_Name_kw (xM I hg hm ?_ hdb);refine PySem.W.callWith_K (h₀:=X.base) I.ok.mod.kin hk (bf (ha pos Qx s σ H _ I h) λus s1 ⟨vs,H1,I1,r,q⟩=>⟨I1.kIn,?_⟩) he hpl;exact Au F hr hb hd hx I1 r q
def Mm(F:du X.prog X.w X.K X.mg X.base CX k f fd ps sp)(hr:bx k X.A)(hg:Gl X x)(hm:X.mg x=some (.ref f))(hk:W.keepIn X.K (.ref f)=true)(hb:iu X.K fd ps ds)(hd:ai dvs ds)(hx:sU CX X E)
  (hdb:(x==("__debug__":Str))=false:=by decide):PE X (.Call (.Name x p) [] [] pos) (mZ sp dvs E pP):=by
 intro Qx s σ H Q I h;refine wpAny_Call_Name_kw (xM I hg hm ?_ hdb);exact PySem.W.callWith_K0 I.kIn hk (Au (us:=[]) F hr hb hd hx I .nil h)
end
structure bF (N P:List Str) (sc:Scope):Prop where
 kind:sc.kind=.function
 co:sc.isCoroutine=false
 gen:sc.isGenerator=false
 nd:N.Nodup
 pre:N.take P.length=P
 par:∀x∈P,sc.names.lookup x=some .local\/sc.names.lookup x=some .cell
 nofree:∀y∈sc.names,y.2≠.free
theorem bz{N P:List Str}{sc:Scope}(h:sc.kind=.function/\sc.isCoroutine=false/\sc.isGenerator=false/\N.Nodup/\N.take P.length=P/\(∀x∈P,sc.names.lookup x=some .local\/sc.names.lookup x=some .cell)/\∀y∈sc.names,y.2≠.free):bF N P sc:=⟨h.1,h.2.1,h.2.2.1,h.2.2.2.1,h.2.2.2.2.1,h.2.2.2.2.2.1,h.2.2.2.2.2.2⟩
def CG{kindOf:Str->Option NameKind}{x:Str}:∀{binds:List (Str×Value)}{m:Str->Option Value},(∀v,(x,v)∉binds)->bindL kindOf binds m x=m x
 |[],_,_=>rfl
 |(n,v)::r,m,h=>by
  unfold bindL;rw[CG λw hw=>h w (fj _ hw)];split
  ·have:x≠n:=by rintro rfl;exact h v h9
   simp[this]
  ·rfl
def CD{kindOf:Str->Option NameKind}{x:Str}:∀{binds:List (Str×Value)}{m:Str->Option Value},(∀v,(x,v)∉binds)->bindC kindOf binds m x=m x
 |[],_,_=>rfl
 |(n,v)::r,m,h=>by
  unfold bindC;rw[CD λw hw=>h w (fj _ hw)];split
  ·rfl
  ·have:x≠n:=by rintro rfl;exact h v h9
   simp[this]
theorem CF{kindOf:Str->Option NameKind}{x:Str}{v:Value}:∀{P:List Str}{vs:List Value}{i:Nat}{m:Str->Option Value},P.Nodup->P[i]?=some x->vs[i]?=some v->kindOf x=some .local ->
  bindL kindOf (P.zip vs) m x=some v
 |[],_,_,_,_,h,_,_=>by simp at h
 |_::_,[],_,_,_,_,h,_=>by simp at h
 |p::P,w::vs,0,m,nd,h1,h2,hk=>by
  simp at h1 h2;subst h1;subst h2;show bindL kindOf ((p,w)::P.zip vs) m p=_;unfold bindL;rw[CG λv hv=>(qQ1_.mp nd).1 (s_ hv).1,if_pos hk];simp
 |p::P,w::vs,i+1,m,nd,h1,h2,hk=>by
  show bindL kindOf ((p,w)::P.zip vs) m x=_;unfold bindL;exact CF (i:=i) (qQ1_.mp nd).2 (by simpa using h1) (by simpa using h2) hk
theorem CC{kindOf:Str->Option NameKind}{x:Str}{v:Value}:∀{P:List Str}{vs:List Value}{i:Nat}{m:Str->Option Value},P.Nodup->P[i]?=some x->vs[i]?=some v->kindOf x≠some .local ->
  bindC kindOf (P.zip vs) m x=some v
 |[],_,_,_,_,h,_,_=>by simp at h
 |_::_,[],_,_,_,_,h,_=>by simp at h
 |p::P,w::vs,0,m,nd,h1,h2,hk=>by
  simp at h1 h2;subst h1;subst h2;show bindC kindOf ((p,w)::P.zip vs) m p=_;unfold bindC;rw[CD λv hv=>(qQ1_.mp nd).1 (s_ hv).1,if_neg hk];simp
 |p::P,w::vs,i+1,m,nd,h1,h2,hk=>by
  show bindC kindOf ((p,w)::P.zip vs) m x=_;unfold bindC;exact CC (i:=i) (qQ1_.mp nd).2 (by simpa using h1) (by simpa using h2) hk
def eG(N:List Str)(vs:List V):St:=vs.map some++List.replicate (N.length-vs.length) none
def jV(CX:nk)(P:Program)(w:World)(K:W.Frag)(mg:Str->Option Value)(base:Heap)(N:List Str)(qual:Str)(scope:Scope)(f:Addr)(cd:Value)(A:Around)(outer:List Env)(s:Shared)(H:Hp)(E:XK):Cx where
 prog:=P
 w:=w
 K:=K
 mg:=mg
 base:=base
 A:=A.deeper (envOfC qual scope s.heap.objs.size f cd)
 N:=N
 s₀:=s
 H₀:=H
 env:=envOfC qual scope s.heap.objs.size f cd
 outer:=outer
 stack:=envOfC qual scope s.heap.objs.size f cd::outer
 ex:=[]
 calm:=true
 fn:=λ_=>true
 pn:=[]
 xe:=λe s'=>wpAny (model P w) (A.deeper (envOfC qual scope s.heap.objs.size f cd)) (leaving (envOfC qual scope s.heap.objs.size f cd) e) (λ_ s''=>CX outer H s E e s'') (λe' s''=>CX outer H s E e' s'') s'
def BK{sc:Scope}{n:Nat}{x:Str}(h:sc.names.lookup x=some .cell):∃c,(cellsFrom n sc.names []).lookup x=some c:=by
 have q:=PySem.W.cellsFrom_some sc.names n [] (.inl h);exact Option.isSome_iff_exists.mp q
def Nt{CX:nk}{P:Program}{w:World}{K:W.Frag}{mg:Str->Option Value}{base:Heap}{N ps:List Str}{qual:Str}{scope:Scope}{f:Addr}{cd:Value}{A:Around}{outer:List Env}{s s1:Shared}{H:Hp}{E:XK}{us:List Value}{vs:List V}
  (S:bF N ps scope) (hd:A.handled=none) (e0:uR P w K mg base A outer s H) (hl:vs.length=ps.length) (r:ai vs us)
  (x:InCallC s s.heap.objs.size (bindL (envOfC qual scope s.heap.objs.size f cd).kindOf (ps.zip us) λ_=>none) (cellsFrom (s.heap.objs.size+1) scope.names []) (bindC (envOfC qual scope s.heap.objs.size f cd).kindOf (ps.zip us) λ_=>none) s1):
  ag (jV CX P w K mg base N qual scope f cd A outer s H E) [] (eG N vs) H s1:=by
 have hpl:ps.length<=N.length:=by have:=congrArg List.length S.pre;rw[jj]at this;omega
 obtain⟨h1,tk,rfl,hk⟩:=x.done;have noA:∀b:Addr,b∉(jV CX P w K mg base N qual scope f cd A outer s H E).ex:=λb z=>absurd (show b∈([]:List Addr) from z) (by simp)
 refine⟨⟨e0.mod,S.kind,rfl,rfl,ba _,λy z c h1 h2=>?_,λy hy=>?_,λy c _ h=>?_,λ_=>hd,Around.frames_deeper e0.frames,.inr ⟨rfl,rfl⟩,λb z=>absurd z (noA b),e0.bs,e0.bsz,λb _ _=>noA b,λb z=>absurd z (noA b),e0.funs,e0.frf⟩,
  rfl,e0.bare,Un.kept hk,⟨_,x.toInCall.ns,λi y v h1 h2 h3=>?_⟩,λy c h=>⟨_,x.cell y c h⟩,e0.hok.fresh (ba _),λy c h=>?_,λp hp=>absurd (show p∈([]:List (Addr×Obj)) from hp) (by simp),e0.hok.kept hk,?_⟩
 ·exact name_of_addr x.apart (PySem.mem_of_lookup h1) (PySem.mem_of_lookup h2)
 ·have hy:scope.names.lookup y=some .cell\/scope.names.lookup y=some .free:=hy;rcases hy with hy|hy
  ·exact BK hy
  ·exact absurd rfl (S.nofree _ (PySem.mem_of_lookup hy))
 ·exact j0 (x.above y c (PySem.mem_of_lookup h))
 ·have hi:i<vs.length:=by
   unfold eG at h2;by_cases hi:i<vs.length
   ·exact hi
   ·rw[j_ (by simpa using hi)]at h2;rw[mz]at h2;split at h2<;>cases h2
  have ha:vs[i]?=some v:=by
   unfold eG at h2;rw[j9 (by simpa using hi),fo]at h2;cases e:vs[i]? with
   |none=>rw[e]at h2;cases h2
   |some a=>rw[e]at h2;cases h2;rfl
  obtain⟨u,hu,rv⟩:=r.get ha;have hp:ps[i]?=some y:=by
   rw[<-S.pre,List.getElem?_take_of_lt (by omega)];exact h1
  have ndP:ps.Nodup:=by rw[<-S.pre];exact S.nd.sublist (List.take_sublist _ _)
  refine⟨u,rv,?_⟩;rcases S.par y (gq hp) with k|k
  ·exact .inl ⟨k,CF ndP hp hu k⟩
  ·obtain⟨c,e⟩:=BK (n:=s.heap.objs.size+1) k;refine .inr ⟨.inl k,c,e,?_⟩;have q:=x.cell y c e;rw[CC ndP hp hu (by show scope.names.lookup y≠_;rw[k];decide)]at q;exact q
 ·exact e0.hok.fresh (j0 (x.above y c (PySem.mem_of_lookup h)))
 ·unfold eG;show _=N.length;rw[b7,ak,my];omega
theorem F6{CX:nk}{P:Program}{w:World}{K:W.Frag}{mg:Str->Option Value}{base:Heap}{k:Nat}{f:Addr}{name qual:Str}{params:Arguments}{body:List Stmt}{scope:Scope}{dV kV doc pm Qy ct oc:Value}{an od:Option Addr}
  {osl:Array (Option Value)} {N ps:List Str} {sp:Sp} (lk:K.lookup f=some ⟨oc,od,.func (W.fnOf name qual params body scope dV kV doc pm an Qy ct),osl⟩) (hcd:W.codeIn K Qy qual=true) (S:bF N ps scope)
  (len:∀vs H Q E,sp vs H Q E->vs.length=ps.length)
  (QH:∀(A:Around) (outer:List Env) (s:Shared) (H:Hp) (vs:List V) (Q:VK) (E:XK),bx k (A.deeper (envOfC qual scope s.heap.objs.size f Qy))->sp vs H Q E ->
   ∃t,gz (jV CX P w K mg base N qual scope f Qy A outer s H E) body t/\t {nx:=λ_ H'=>Q .non H',rt:=Q} (eG N vs) H):
  du P w K mg base CX (k+1) f (W.fnOf name qual params body scope dV kV doc pm an Qy ct) ps sp:=by
 refine⟨len,λA outer s H args us vs Q E hr e0 hb r hsp=>?_⟩;have hl:=len _ _ _ _ hsp;have KX:K.In s.heap:=e0.mod.kin.keeps λb o e=>(e0.bs b o e).1
 have lim:s.heap.NoLimit:=e0.mod.nolimit.keeps λb o e=>(e0.bs b o e).1
 have hkind:∀y∈ps.zip us,scope.names.lookup y.1=some .local\/(scope.names.lookup y.1=some .cell/\((cellsFrom (s.heap.objs.size+1) scope.names []).lookup y.1).isSome=true):=λ⟨n,v⟩ hy=>by
  rcases S.par n (s_ hy).1 with q|q
  ·exact .inl q
  ·exact .inr ⟨q,PySem.W.cellsFrom_some _ _ _ (.inl q)⟩
 refine codeAny_call_function hr.depth (KX _ _ lk) rfl S.co S.gen rfl (PySem.W.codeRec_of KX hcd) (hb _ _ _ _ ?_);refine wpAny_newFunctionEnv_cells S.kind hkind λenv he s1 x=>?_
 subst he;refine⟨lim.keeps x.toInCall.keep,codeAny_func ?_⟩;obtain⟨t,ht,hq⟩:=QH A outer s H vs Q E (hr.deeper _) hsp;have I:ag (jV CX P w K mg base N qual scope f Qy A outer s H E) [] (eG N vs) H s1:=Nt S hr.hd e0 hl r x;refine wpAny_mono (ht [] s1 (eG N vs) H _ I hq) (λfl s' hs=>?_) λe s' hs=>hs
 have fin:∀{σ':St} {H':Hp} {v:V} {u:Value},ag (jV CX P w K mg base N qual scope f Qy A outer s H E) [] σ' H' s'->ah v u->Q v H'->CE outer P w H s Q u s':=
  λ{σ' H' v u} J rv q=>⟨v,H',J.os,J.bare,J.base,J.hok,rv,q⟩
 cases fl with
 |ret u=>
  obtain⟨v,σ',H',J,rv,q⟩:=hs;exact fin J rv q
 |next=>
  obtain⟨σ',H',J,q⟩:=hs;exact fin (v:=V.non) (u:=Value.none) J rfl q
 |brk=>
  obtain⟨_,_,_,q⟩:=hs;exact False.elim q
 |cont=>
  obtain⟨_,_,_,q⟩:=hs;exact False.elim q
section
variable{X:Cx}{x:Str}{p pos:Pos}{e:Expr}{es:List Expr}{t:TA}{id T:String}{r:List V->Hp->VK->Prop}
def x5(r:List V->Hp->VK->Prop)(t:TA):TE:=λσ H Q=>t σ H λvs H1=>r vs H1 Q
def iG(hc:aq X (.builtin id) r)(hg:Gl X x)(hm:X.mg x=none)(hv:bootBuiltins x=some (.builtin id))(ha:PA X (e::es) t)(hn:x≠"__name__":=by decide)(hdb:(x==("__debug__":Str))=false:=by decide)
  (he:starEach (e::es) X.env=(false,eval e X.env)::starEach es X.env:=by rfl) (hpl:(backTo pos (starEach es X.env)).any (·.1)=false:=by rfl):PE X (.Call (.Name x p) (e::es) [] pos) (x5 r t):=by
 intro Qx s σ H Q I h;refine wpAny_Call_Name_kw (kG I hg hm hv ?_ hn hdb);exact PyProof.Rows.callWith_builtin1 (bf (ha pos Qx s σ H _ I h) λus s1 ⟨vs,H1,I1,r1,q1⟩=>hc Qx s1 σ H1 vs us Q I1 r1 q1) he hpl
def gB(hc:aq X (.type T) r)(hg:Gl X x)(hm:X.mg x=none)(hv:bootBuiltins x=some (.type T))(ha:PA X (e::es) t)(hn:x≠"__name__":=by decide)(hdb:(x==("__debug__":Str))=false:=by decide)
  (he:starEach (e::es) X.env=(false,eval e X.env)::starEach es X.env:=by rfl) (hpl:(backTo pos (starEach es X.env)).any (·.1)=false:=by rfl):PE X (.Call (.Name x p) (e::es) [] pos) (x5 r t):=by
 intro Qx s σ H Q I h;refine wpAny_Call_Name_kw (kG I hg hm hv ?_ hn hdb);exact PyProof.Rows.callWith_type1 (bf (ha pos Qx s σ H _ I h) λus s1 ⟨vs,H1,I1,r1,q1⟩=>hc Qx s1 σ H1 vs us Q I1 r1 q1) he hpl
end
end L2
namespace HT
open PySem PyProof.Rows
section
variable{prog:Program}{w:World}{A:Around}{E:Value->Shared->Prop}{s:Shared}
theorem cat_tup{t b:Addr}{vs ws:List Value}{Q:Value->Shared->Prop}(ht:IsTup s.heap t vs.toArray)(hb:IsTup s.heap b ws.toArray)(hv:vs≠[])
  (h1:ws=[]->Q (.ref t) s) (h2:ws≠[]->Q (.ref s.heap.objs.size) {s with heap:=s.heap.push {cls:=.type "tuple",data:=.seq (vs++ws).toArray}})
  (hsz:vs.length+ws.length<=sizeLine):wpAny (model prog w) A (binaryOp .Add (.ref t) (.ref b)) Q E s:=by
 obtain⟨⟨cls,dd,data,sl⟩,ho,hc,n,hd⟩:=id ht;obtain⟨⟨cls2,dd2,data2,sl2⟩,ho2,hc2,n2,hd2⟩:=id hb;simp only at hc hd hc2 hd2;subst hc hd hc2 hd2;have e:vs.toArray++ws.toArray=(vs++ws).toArray:=by simp
 by_cases hw:ws=[]
 ·exact concat_meets ⟨_,ho,rfl⟩ ⟨_,ho2,rfl⟩ noFill_tuple_add seq_tuple_add PySem.F.slot_tuple_add PySem.F.entry_tuple_add (PySem.F.args_tuple_add_2 _ _)
   (tuple_addW1 t b vs.toArray ws.toArray n n2 dd dd2 sl sl2 (by simpa using hv) (by simp[hw])) ⟨ho,ho2,h1 hw⟩
 ·refine concat_meets ⟨_,ho,rfl⟩ ⟨_,ho2,rfl⟩ noFill_tuple_add seq_tuple_add PySem.F.slot_tuple_add PySem.F.entry_tuple_add (PySem.F.args_tuple_add_2 _ _)
   (tuple_addW2 t b vs.toArray ws.toArray n n2 dd dd2 sl sl2 (by simpa using hv) (by simpa using hw) (by rw[ck,ck];exact hsz)) ⟨ho,ho2,?_⟩
  rw[e];exact h2 hw
def sIx(n d:Nat):Option Int->Nat
 |none=>d
 |some v=>if v<0 then(v+(n:Int)).toNat else min v.toNat n
def Kf(n d:Nat)(hd:d<=n)(o:Option Int):sIx n d o<=n:=by
 cases o with
 |none=>exact hd
 |some v=>
  show(if v<0 then(v+(n:Int)).toNat else min v.toNat n)<=n;by_cases hv:v<0
  ·rw[if_pos hv];omega
  ·rw[if_neg hv];exact sy _ _
def AK(v:Int)(n d:Nat):(if v<0 then max (v+(n:Int)) 0 else min v (n:Int))=((sIx n d (some v):Nat):Int):=by
 show(if v<0 then max (v+(n:Int)) 0 else min v (n:Int))=(((if v<0 then(v+(n:Int)).toNat else min v.toNat n):Nat):Int);by_cases hv:v<0
 ·simp only[if_pos hv];omega
 ·simp only[if_neg hv];omega
def N9(lo hi:Option Int)(n:Nat):Builtin.Slice.sliceAdjust lo hi 1 (n:Int)=(((sIx n 0 lo:Nat):Int),((sIx n n hi:Nat):Int)):=by
 have h1:¬ ((1:Int)<0):=by omega
 unfold Builtin.Slice.sliceAdjust;simp only[h1,if_false];refine Prod.ext ?_ ?_
 ·cases lo with
  |none=>rfl
  |some v=>exact AK v n 0
 ·cases hi with
  |none=>rfl
  |some v=>exact AK v n n
def NJ(i j:Nat):Builtin.Slice.slicePlaces (i:Int) (j:Int) 1=j-i:=by
 unfold Builtin.Slice.slicePlaces;have h1:(1:Int) > 0:=by omega
 simp only[h1,if_true,Int.ediv_one];split<;>omega
def Eg{v:Value}{o:Option Int}{Q:Option Int->Shared->Prop}(p:IsPart v o)(h:Q o s):wpAny (model prog w) A (Builtin.Slice.slicePartIndex v) Q E s:=by
 cases p with
 |none=>exact slicePart_none h
 |int i t=>exact slicePart_int h
def sliceApplied_gen{sl:Addr}{vl vu:Value}{lo hi:Option Int}{n:Nat}{Q:Int×Int×Nat->Shared->Prop}(hs:s.heap.IsSliceOf sl vl vu .none)(pl:IsPart vl lo)(pu:IsPart vu hi)
  (h:Q (((sIx n 0 lo:Nat):Int),1,sIx n n hi-sIx n 0 lo) s):wpAny (model prog w) A (Builtin.Slice.sliceApplied (.ref sl) (pure (n:Int))) Q E s:=by
 obtain⟨os,hos,hcs,hds⟩:=id hs;unfold Builtin.Slice.sliceApplied Builtin.Slice.sliceFields;refine af (af (wpAny_field hos hds (x:=vl) rfl (af (wpAny_field hos hds (x:=vu) rfl (af (wpAny_field hos hds (x:=.none) rfl (aj ?_)))))));refine af (slicePart_none ?_);show wpAny _ _ (if ((1:Int)==0)=true then _ else _) _ _ s;rw[if_neg (by decide)];refine af (Eg pl (af (Eg pu (af (aj ?_)))));show wpAny _ _ (match Builtin.Slice.sliceAdjust lo hi 1 (n:Int) with|(lo,hi)=>pure (lo,(1:Int),Builtin.Slice.slicePlaces lo hi 1)) _ _ s;rw[N9 lo hi n];show wpAny _ _ (pure (((sIx n 0 lo:Nat):Int),(1:Int),Builtin.Slice.slicePlaces ((sIx n 0 lo:Nat):Int) ((sIx n n hi:Nat):Int) 1)) _ _ s;rw[NJ];exact aj h
def LB(xs:Array Value)(i k:Nat):((List.range k).filterMap λ(m:Nat)=>xs[((i:Int)+(m:Int)*1).toNat]?).toArray=((xs.toList.drop i).take k).toArray:=by
 have e:(λ(m:Nat)=>xs[((i:Int)+(m:Int)*1).toNat]?)=λm=>xs[i+m]?:=by
  funext m;have:((i:Int)+(m:Int)*1).toNat=i+m:=by omega
  rw[this]
 rw[e];have:=pick_run xs i k;rw[oo]at this;have e2:((λx=>xs[x]?)∘λx=>i+x)=λm=>xs[i+m]?:=rfl
 rw[e2]at this;rw[this]
def getItem_tuple_cut{t sl:Addr}{items:Array Value}{vl vu:Value}{lo hi:Option Int}{Q:Value->Shared->Prop}(ht:IsTup s.heap t items)(hs:s.heap.IsSliceOf sl vl vu .none)(pl:IsPart vl lo)(pu:IsPart vu hi)
  (hw:¬ (sIx items.size 0 lo=0/\sIx items.size items.size hi=items.size))
  (h:Q (.ref s.heap.objs.size) {s with heap:=s.heap.push {cls:=.type "tuple",data:=.seq ((items.toList.drop (sIx items.size 0 lo)).take (sIx items.size items.size hi-sIx items.size 0 lo)).toArray}})
  (hsz:items.size<=sizeLine):wpAny (model prog w) A (getItem (.ref t) (.ref sl)) Q E s:=by
 have htake:sizeOk (.seq ((items.toList.drop (sIx items.size 0 lo)).take (sIx items.size items.size hi-sIx items.size 0 lo)).toArray):=by
  show((items.toList.drop (sIx items.size 0 lo)).take (sIx items.size items.size hi-sIx items.size 0 lo)).toArray.size<=sizeLine;rw[ck,jj,mx,di];omega
 have hj:sIx items.size items.size hi<=items.size:=Kf _ _ (ba _) hi;obtain⟨os,hos,hcs,hds⟩:=id hs;have hTs:s.TypeIs (.ref sl) "slice":=⟨os,hos,hcs⟩
 unfold getItem
 try with_reducible refine h_ ?_
 first|refine af (aj ?_)|skip
 refine af (wpAny_sequenceKey ht.typeIs (by decide) ?_);refine af (wpAny_callSpecial?_slot (name:=Str.ofString "__getitem__") ht.typeIs PyProof.Rows.slot_tuple_getitem
  (jz PyProof.Rows.slot_tuple_getitem ht.typeIs entry_tuple_getitem ?_ (args_tuple_getitem _ _)))
 show wpAny _ _ (Builtin.Tuple.tupleItemsOf (.ref t) >>= _) _ _ s;refine af (tupleItemsOf_ ht ?_);refine af (wpAny_typeOf hTs ?_);rw[if_pos (by decide)];refine af (sliceApplied_gen hs pl pu ?_);have hno:¬ ((((sIx items.size 0 lo:Nat):Int)==0&&(1:Int)==1&&(sIx items.size items.size hi-sIx items.size 0 lo)==items.size)=true):=by
  intro q;rw[e9,e9]at q;have q1:((sIx items.size 0 lo:Nat):Int)=0:=eq_of_beq q.1.1;have q2:sIx items.size items.size hi-sIx items.size 0 lo=items.size:=eq_of_beq q.2;exact hw ⟨by omega,by omega⟩
 show wpAny _ _ (if (((sIx items.size 0 lo:Nat):Int)==0&&(1:Int)==1&&(sIx items.size items.size hi-sIx items.size 0 lo)==items.size)=true then _ else _) _ _ s;rw[if_neg hno,LB]
 first
  |exact af (m:=Builtin.Tuple.tupleExact _) (d8 (aj ⟨_,rfl,aj h⟩) htake)
  |exact af (m:=Builtin.Tuple.tupleExact _) (d8 (af (aj (aj ⟨_,rfl,aj h⟩))) htake)
  |exact af (af (m:=Builtin.Tuple.tupleExact _) (d8 (aj (aj ⟨_,rfl,aj h⟩)) htake))
  |exact af (af (m:=Builtin.Tuple.tupleExact _) (d8 (aj ⟨_,rfl,aj h⟩) htake))
end
end HT
namespace L2
open PySem PySem.Spec PyProof.Rows
abbrev TO:=St->Hp->(Option Int->Hp->Prop)->Prop
def PO(X:Cx)(e:Option Expr)(t:TO):Prop:=
 ∀(Qx:List (Addr×Obj)) (s:Shared) (σ:St) (H:Hp) (Q:Option Int->Hp->Prop),ag X Qx σ H s->t σ H Q ->
  wpAny (model X.prog X.w) X.A (evalPart e X.env) (λu s'=>∃o H',ag X Qx σ H' s'/\IsPart u o/\Q o H') X.xe s
def Kt:TO:=λ_ H Q=>Q none H
def HH(t:TE):TO:=λσ H Q=>t σ H λx H1=>∃i,x=.int i/\Q (some i) H1
theorem nY{ns:List Int}:∀{us:List Value},ai (ns.map V.int) us->IntsAre us ns:=by
 induction ns with
 |nil=>intro us r;rw[jw]at r;cases r;exact .nil
 |cons n ns ih=>
  intro us r;rw[dz]at r;cases r with
  |cons r1 r2=>
   obtain⟨t,e⟩:=r1;subst e;exact .cons n t (ih r2)
section
variable{X:Cx}{e:Expr}{te:TE}{lo hi:Option Expr}{tl th:TO}{pos p2:Pos}
def B6:PO X none Kt:=by
 intro Qx s σ H Q I h;rw[evalPart_none];exact aj ⟨none,H,I,.none,h⟩
def B7(h:PE X e te):PO X (some e) (HH te):=by
 intro Qx s σ H Q I hw;rw[evalPart_some];refine bf (h Qx s σ H _ I hw) λu s1 ⟨x,H1,I1,r1,q1⟩=>?_
 obtain⟨i,rfl,q⟩:=q1;obtain⟨t,rfl⟩:=r1;exact⟨some i,H1,I1,.int i t,q⟩
def o_(X:Cx)(r:V->Option Int->Option Int->Hp->VK->Prop):Prop:=
 ∀(Qx:List (Addr×Obj)) (s:Shared) (σ:St) (H:Hp) (x:V) (v vl vu:Value) (lo hi:Option Int) (sl:Addr) (Q:VK),ag X Qx σ H s->ah x v->s.heap.IsSliceOf sl vl vu .none->IsPart vl lo->IsPart vu hi->r x lo hi H Q ->
  ∃T id,typeLookup (.type T) "__getitem__"=pure (some (.builtin id))/\s.TypeIs v T/\wpAny (model X.prog X.w) X.A (getItem v (.ref sl)) (EP X Qx σ Q) X.xe s
def o_.or{r r':V->Option Int->Option Int->Hp->VK->Prop}(h:o_ X r)(h':o_ X r'):o_ X (λx lo hi H Q=>r x lo hi H Q\/r' x lo hi H Q):=by
 intro Qx s σ H x v vl vu lo hi sl Q I rx hs pl pu q;rcases q with q|q
 ·exact h Qx s σ H x v vl vu lo hi sl Q I rx hs pl pu q
 ·exact h' Qx s σ H x v vl vu lo hi sl Q I rx hs pl pu q
def Po(r:V->Option Int->Option Int->Hp->VK->Prop)(te:TE)(tl th:TO):TE:=λσ H Q=>te σ H λx H1=>tl σ H1 λl H2=>th σ H2 λu H3=>r x l u H3 Q
def Da{r:V->Option Int->Option Int->Hp->VK->Prop}(hr:o_ X r)(he:PE X e te)(hl:PO X lo tl)(hu:PO X hi th):PE X (.Subscript e (.Slice lo hi none p2) pos) (Po r te tl th):=by
 intro Qx s σ H Q I h;refine Subscript_ (bf (he Qx s σ H _ I h) λv s1 ⟨x,H1,I1,r1,q1⟩=>?_);refine wpAny_Slice (bf (hl Qx s1 σ H1 _ I1 q1) λvl s2 ⟨l,H2,I2,pl,q2⟩=>bf (hu Qx s2 σ H2 _ I2 q2) λvu s3 ⟨u,H3,I3,pu,q3⟩=>?_);rw[evalPart_none];refine aj ?_;have I4:ag X Qx σ H3 {s3 with heap:=s3.heap.push {cls:=.type "slice",data:=.fields #[vl,vu,.none]}}:=I3.kept (t':=s3.toks) λb ob q=>bc _ q
 obtain⟨T,id,hT,ht,hg⟩:=hr Qx {s3 with heap:=s3.heap.push {cls:=.type "slice",data:=.fields #[vl,vu,.none]}} σ H3 x v vl vu l u s3.heap.objs.size Q I4 r1 (Heap.IsSliceOf.new ..) pl pu q3;show wpAny (model X.prog X.w) X.A (subscriptTail e (.Slice lo hi none p2) v (.ref s3.heap.objs.size)) (EP X Qx σ Q) X.xe {s3 with heap:=s3.heap.push {cls:=.type "slice",data:=.fields #[vl,vu,.none]}};exact tail_any (ops:=[.ref s3.heap.objs.size,v]) ht hT hg (by with_unfolding_all rfl)
def gL(xs:List V)(lo hi:Option Int):List V:=(xs.drop (HT.sIx xs.length 0 lo)).take (HT.sIx xs.length xs.length hi-HT.sIx xs.length 0 lo)
def DC(xs:List V)(lo hi:Option Int):(gL xs lo hi).length<=xs.length:=by
 unfold gL;rw[jj,mx];omega
def Gv(K:W.Frag):V->Option Int->Option Int->Hp->VK->Prop:=λx lo hi H Q=>∃a xs,x=.ref a/\cq K H a xs /\
 ¬ (HT.sIx xs.length 0 lo=0/\HT.sIx xs.length xs.length hi=xs.length)/\∀p,H p=none->Q (.ref p) (ar H p (.tup (gL xs lo hi)))
def Km:o_ X (Gv X.K):=by
 intro Qx s σ H x v vl vu lo hi sl Q I rx hs pl pu h;obtain⟨a,xs,rfl,hx,hw,q⟩:=h;cases rx;obtain⟨its,r,ht,hz⟩:=I.tuple hx;have hlen:its.toArray.size=xs.length:=by rw[ck];exact r.length.symm
 refine⟨"tuple",_,PyProof.Rows.slot_tuple_getitem.lookup,ht.typeIs,?_⟩;refine HT.getItem_tuple_cut ht hs pl pu (by rw[hlen];exact hw) ?_ (by rw[hlen];exact hz);rw[hlen];refine⟨.ref s.heap.objs.size,_,I.laid (t':=s.toks) (o:=.tup (gL xs lo hi)) (λb ob q=>bc _ q) (ba _) ?_,rfl,q _ (I.hok.fresh (ba _))⟩;exact⟨bw (DC xs lo hi) hz,_,(r.drop (HT.sIx xs.length 0 lo)).take (HT.sIx xs.length xs.length hi-HT.sIx xs.length 0 lo),IsTup.new _ _⟩
def Hr(K:W.Frag):R2:=λx y H Q=>∃a b xs ys,x=.ref a/\y=.ref b/\cq K H a xs/\cq K H b ys/\xs≠[]/\xs.length+ys.length<=sizeLine /\
 (ys=[]->Q (.ref a) H)/\(ys≠[]->∀p,H p=none->Q (.ref p) (ar H p (.tup (xs++ys))))
def ai.nil_iff{xs:List V}{us:List Value}(r:ai xs us):us=[]↔xs=[]:=by
 cases r with
 |nil=>simp
 |cons _ _=>simp
def Lr:cm X (binaryOp .Add) (Hr X.K):=by
 intro Qx s σ H x y v u Q I rx ry h;obtain⟨a,b,xs,ys,rfl,rfl,ha,hb,hx,hz,q1,q2⟩:=h;cases rx;cases ry;obtain⟨its,r1,p1,_⟩:=I.tuple ha;obtain⟨its2,r2,p2,_⟩:=I.tuple hb;refine HT.cat_tup p1 p2 (λz=>hx (r1.nil_iff.mp z)) (λz=>⟨.ref a,H,I,rfl,q1 (r2.nil_iff.mp z)⟩) (λz=>?_) (by rw[<-r1.length,<-r2.length];exact hz);refine⟨.ref s.heap.objs.size,_,I.laid (t':=s.toks) (o:=.tup (xs++ys)) (λb ob q=>bc _ q) (ba _) ?_,rfl,q2 (λw=>z (r2.nil_iff.mpr w)) _ (I.hok.fresh (ba _))⟩;exact⟨by rw[b7];exact hz,_,r1.append r2,IsTup.new _ _⟩
end
def ng(n:Nat)(i:Int):Option Nat:=if 0<=i then(if i<n then some i.toNat else none) else if -(n:Int)<=i then some (i+n).toNat else none
def gh{α:Type}(xs:List α)(i:Int):Option α:=(ng xs.length i).bind λj=>xs[j]?
def Cs{n:Nat}{i:Int}{j:Nat}(h:ng n i=some j):seqIndex? i n=some j/\j<n /\ -(n:Int)<=i/\i<n:=by
 unfold ng at h;by_cases h0:0<=i
 ·rw[if_pos h0]at h;by_cases h1:i<n
  ·rw[if_pos h1]at h;have e:i.toNat=j:=Option.some.inj h;exact⟨by rw[seqIndex_of h0 h1,e],by omega,by omega,h1⟩
  ·rw[if_neg h1]at h;cases h
 ·rw[if_neg h0]at h;by_cases h1:-(n:Int)<=i
  ·rw[if_pos h1]at h;have e:(i+n).toNat=j:=Option.some.inj h;exact⟨by rw[seqIndex_neg (by omega) h1,e],by omega,h1,by omega⟩
  ·rw[if_neg h1]at h;cases h
def xV{α:Type}{xs:List α}{i:Int}{v:α}(h:gh xs i=some v):∃j,seqIndex? i xs.length=some j/\xs[j]?=some v/\j<xs.length /\ -(xs.length:Int)<=i/\i<xs.length:=by
 unfold gh at h;cases e:ng xs.length i with
 |none=>rw[e]at h;cases h
 |some j=>
  rw[e]at h;obtain⟨h1,h2,h3,h4⟩:=Cs e;exact⟨j,h1,h,h2,h3,h4⟩
def bK{α:Type}{xs:List α}{j:Nat}{v:α}(h:xs[j]?=some v):gh xs (j:Int)=some v:=by
 have hj:j<xs.length:=(qx_.mp h).1;have e:ng xs.length (j:Int)=some j:=by
  unfold ng;rw[if_pos (by omega),if_pos (by omega)];simp
 unfold gh;rw[e];exact h
def oU(b:Expr):Prop:=∀o i,subscripted b false o i=operate [o,i] (getItem o i)
def nh(X:Cx)(r:R2):Prop:=
 ∀(value slice:Expr) (Qx:List (Addr×Obj)) (s:Shared) (σ:St) (H:Hp) (x y:V) (v u:Value) (Q:VK),ag X Qx σ H s->ah x v->ah y u->r x y H Q ->
  subscripted slice false v u=operate [v,u] (getItem v u)->wpAny (model X.prog X.w) X.A (subscriptTail value slice v u) (EP X Qx σ Q) X.xe s
def u3(X:Cx)(id:String)(r:V->List V->Hp->VK->Prop):Prop:=
 ∀(Qx:List (Addr×Obj)) (s:Shared) (σ:St) (H:Hp) (x:V) (xs:List V) (v:Value) (us:List Value) (Q:VK),ag X Qx σ H s->ah x v->ai xs us->r x xs H Q ->
  wpAny (model X.prog X.w) X.A (call (.builtin id) (v::us)) (EP X Qx σ Q) X.xe s
section
variable{X:Cx}{a b:Expr}{ta tb:TE}{pos:Pos}
def nh.or{r r':R2}(h:nh X r)(h':nh X r'):nh X (λx y H Q=>r x y H Q\/r' x y H Q):=by
 intro value slice Qx s σ H x y v u Q I rx ry q hs;rcases q with q|q
 ·exact h value slice Qx s σ H x y v u Q I rx ry q hs
 ·exact h' value slice Qx s σ H x y v u Q I rx ry q hs
def iQ{r:R2}(hr:nh X r)(ha:PE X a ta)(hb:PE X b tb)(hs:oU b):PE X (.Subscript a b pos) (ur r ta tb):=by
 intro Qx s σ H Q I h;exact Subscript_ (zX ha hb I h λv u s2 x y H2 I2 rx ry q=>hr a b Qx s2 σ H2 x y v u Q I2 rx ry q (hs _ _))
def zt(K:W.Frag):R2:=λx y H Q=>∃p xs i v,x=.ref p/\y=.int i/\bu K H p xs/\gh xs i=some v/\Q v H
def zv(K:W.Frag):R2:=λx y H Q=>∃p xs i v,x=.ref p/\y=.int i/\cq K H p xs/\gh xs i=some v/\Q v H
def zu:R2:=λx y H Q=>∃z i c,x=.str z/\y=.int i/\z.length<=sizeLine/\gh z.cps.toList i=some c/\Q (.str ⟨#[c]⟩) H
def ix_list:nh X (zt X.K):=by
 intro value slice Qx s σ H x y v u Q I rx ry h hs;obtain⟨p,xs,i,z,rfl,rfl,hq,he,q⟩:=h;cases rx;obtain⟨t,rfl⟩:=ry;obtain⟨its,r,pl,hz⟩:=I.list hq;obtain⟨j,h1,h2,h3,h4,h5⟩:=xV he;obtain⟨w,ew,rw'⟩:=r.get h2;have hl:=r.length;have hn:=mX;have fin:EP X Qx σ Q w s:=⟨z,H,I,rw',q⟩
 by_cases h0:0<=i
 ·have hj:i.toNat=j:=by
   rw[seqIndex_of h0 h5]at h1;exact Option.some.inj h1
  exact item_listR pl.isList h0 (by omega) (by rw[hj];simpa using ew) fin hs
 ·have hj:(i+(its.toArray.size:Int)).toNat=j:=by
   rw[seqIndex_neg (by omega) h4]at h1;rw[ck,<-hl];exact Option.some.inj h1
  exact subscriptTail_builtinR (x:=w) pl.isList.typeIs slot_list_getitem.lookup
   (wpAny_getItem_list_neg (Q:=λr s'=>r=w/\EP X Qx σ Q r s') pl.isList (by omega) (by rw[ck]<;>omega) (by omega) (by rw[hj];simpa using ew) ⟨rfl,fin⟩) hs
def ix_tup:nh X (zv X.K):=by
 intro value slice Qx s σ H x y v u Q I rx ry h hs;obtain⟨p,xs,i,z,rfl,rfl,hq,he,q⟩:=h;cases rx;obtain⟨t,rfl⟩:=ry;obtain⟨its,r,pl,hz⟩:=I.tuple hq;obtain⟨j,h1,h2,h3,h4,h5⟩:=xV he;obtain⟨w,ew,rw'⟩:=r.get h2;have hl:=r.length;have hn:=mX;have fin:EP X Qx σ Q w s:=⟨z,H,I,rw',q⟩
 exact subscriptTail_builtinR (x:=w) pl.typeIs slot_tuple_getitem.lookup
  (getItem_tuple (j:=j) (Q:=λr s'=>r=w/\EP X Qx σ Q r s') pl (by omega) (by omega) (by rw[ck,<-hl];exact h1) (by simpa using ew) ⟨rfl,fin⟩) hs
def Jh:nh X zu:=by
 intro value slice Qx s σ H x y v u Q I rx ry h hs;obtain⟨z,i,c,rfl,rfl,hz,he,q⟩:=h;obtain⟨t,rfl⟩:=rx;obtain⟨t',rfl⟩:=ry;obtain⟨j,h1,h2,h3,h4,h5⟩:=xV he;have hl:z.cps.toList.length=z.length:=by simp[Str.length]
 rw[hl]at h1 h4 h5;have hn:=mX;exact tail_any (typeIs_str s z t) slot_str_getitem.lookup (getItem_str (c:=c) (by
  have e1:decide (i < -(2 ^ 63:Int))=false:=i4 (by omega);have e2:decide (i>=2 ^ 63)=false:=i4 (by omega);rw[e1,e2,j8]) (by rw[h1];simpa using h2) ⟨.str ⟨#[c]⟩,H,I.tok _,⟨_,rfl⟩,q⟩) hs
def Pw(K:W.Frag):R2:=λx y H Q=>zt K x y H Q\/zv K x y H Q\/zu x y H Q
def ix_seq:nh X (Pw X.K):=ix_list.or (ix_tup.or Jh)
def Ot(its:List Value)(n j:Nat)(u:Value):Obj.mapSeq (·.setIfInBounds j u) {cls:=.type "list",data:=.seq its.toArray n}={cls:=.type "list",data:=.seq (its.set j u).toArray n}:=by
 simp[Obj.mapSeq]
def ag.lst{Qx:List (Addr×Obj)}{σ:St}{H:Hp}{s:Shared}{p:Addr}{xs:List V}(I:ag X Qx σ H s)(h:H p=some (.lst xs)):
  ∃(its:List Value) (n:Nat),ai xs its/\s.heap.get? p=some {cls:=.type "list",data:=.seq its.toArray n}/\xs.length<=sizeLine:=by
 obtain⟨z,its,n,r,e⟩:=I.hok p _ h;exact⟨its,n,r,e,z⟩
def ag.lstUpd{Qx:List (Addr×Obj)}{σ:St}{H:Hp}{s:Shared}{p:Addr}{xs ys:List V}{its its':List Value}{n n':Nat}{f:Obj->Obj}(I:ag X Qx σ H s)(h:H p=some (.lst xs))
  (ho:s.heap.get? p=some {cls:=.type "list",data:=.seq its.toArray n}) (hf:f {cls:=.type "list",data:=.seq its.toArray n}={cls:=.type "list",data:=.seq its'.toArray n'}) (r:ai ys its') (hz:ys.length<=sizeLine) (t:Nat):
  ag X Qx σ (ar H p (.lst ys)) {s with heap:=s.heap.update p f,toks:=t}:=by
 have e:(s.heap.update p f).get? p=some {cls:=.type "list",data:=.seq its'.toArray n'}:=by
  rw[e7 f ho (by rw[hf]<;>rfl),hf]
 refine I.write (x:=p) (e:=p) (by rw[h];trivial) (.inl rfl) (λb u hb q=>(l_ _ _ (Ne.symm hb)).trans q) ⟨_,e⟩ ?_;exact⟨hz,its',n',r,e⟩
def Hy:V->V->V->Hp->(Hp->Prop)->Prop:=λo i v H Q=>∃p xs k j,o=.ref p/\i=.int k/\H p=some (.lst xs)/\ng xs.length k=some j/\Q (ar H p (.lst (xs.set j v)))
def LO:Ah X Hy:=by
 intro Qx s σ H o i v ov iv u Q I ro ri rv h;obtain⟨p,xs,k,j,rfl,rfl,hp,hj,q⟩:=h;cases ro;obtain⟨t,rfl⟩:=ri;obtain⟨its,n,r,ho,hz⟩:=I.lst hp;obtain⟨h1,h2,h3,h4⟩:=Cs hj;have hl:=r.length;have hn:=mX;have I':ag X Qx σ (ar H p (.lst (xs.set j v))) {s with heap:=s.heap.update p (Obj.mapSeq (·.setIfInBounds j u))}:=
  I.lstUpd hp ho (Ot its n j u) (r.set rv j) (by rw[jb];exact hz) s.toks
 by_cases h0:0<=k
 ·have hk:k.toNat=j:=by
   rw[seqIndex_of h0 h4]at h1;exact Option.some.inj h1
  exact PySem.W.ki_setAt ho h0 (by omega) (by rw[ck,<-hl];exact h4) (by rw[hk];exact⟨_,I',q⟩)
 ·have hk:(k+(its.toArray.size:Int)).toNat=j:=by
   rw[seqIndex_neg (by omega) h3]at h1;rw[ck,<-hl];exact Option.some.inj h1
  exact PySem.W.ki_setBack ho (by omega) (by rw[ck,<-hl];exact h3) (by omega) (by rw[hk];exact⟨_,I',q⟩)
def OM(lo hi:Option Int)(n:Nat):(sliceBounds lo hi none n).1=((HT.sIx n 0 lo:Nat):Int)/\(sliceBounds lo hi none n).2.1=((HT.sIx n n hi:Nat):Int)/\(sliceBounds lo hi none n).2.2=1:=by
 refine⟨?_,?_,rfl⟩
 ·cases lo with
  |none=>simp[sliceBounds,HT.sIx]
  |some i=>
   simp only[sliceBounds,HT.sIx,Option.getD_none,show(1:Int) > 0 by decide,if_true];by_cases h:i<0
   ·simp only[h,if_true]<;>omega
   ·simp only[h,if_false]<;>omega
 ·cases hi with
  |none=>simp[sliceBounds,HT.sIx]
  |some i=>
   simp only[sliceBounds,HT.sIx,Option.getD_none,show(1:Int) > 0 by decide,if_true];by_cases h:i<0
   ·simp only[h,if_true]<;>omega
   ·simp only[h,if_false]<;>omega
def OV(its:List Value)(lo hi:Option Int):slicePick its.toArray lo hi none=((its.drop (HT.sIx its.length 0 lo)).take (HT.sIx its.length its.length hi-HT.sIx its.length 0 lo)).toArray:=by
 obtain⟨h1,h2,h3⟩:=OM lo hi its.toArray.size;unfold slicePick;rw[h1,h2,h3];simp only[sliceRange_one,pick_run,ck]<;>rfl
def Gs(K:W.Frag):V->Option Int->Option Int->Hp->VK->Prop:=λx lo hi H Q=>∃a xs,x=.ref a/\bu K H a xs/\∀p,H p=none->Q (.ref p) (ar H p (.lst (gL xs lo hi)))
def sl_list:o_ X (Gs X.K):=by
 intro Qx s σ H x v vl vu lo hi sl Q I rx hs pl pu h;obtain⟨a,xs,rfl,hx,q⟩:=h;cases rx;obtain⟨its,r,ht,hz⟩:=I.list hx;have hlen:=r.length;refine⟨"list",_,slot_list_getitem.lookup,ht.isList.typeIs,?_⟩;refine wpAny_getItem_list_slice ht.isList hs pl pu .none (by simp) ?_ (by rw[ck]<;>omega);rw[OV,<-hlen];refine⟨.ref s.heap.objs.size,_,I.laid (t':=s.toks) (o:=.lst (gL xs lo hi)) (λb ob q=>bc _ q) (ba _) ?_,rfl,q _ (I.hok.fresh (ba _))⟩;exact⟨bw (DC xs lo hi) hz,_,0,(r.drop (HT.sIx xs.length 0 lo)).take (HT.sIx xs.length xs.length hi-HT.sIx xs.length 0 lo),cf _ rfl⟩
def dO:V->Bool
 |.non=>true
 |.bl _=>true
 |.int _=>true
 |.str _=>true
 |_=>false
def cz:V->V->Bool
 |.non,.non=>true
 |.bl a,.bl b=>a==b
 |.bl a,.int b=>(if a then 1 else 0)==b
 |.int a,.bl b=>a==(if b then 1 else 0)
 |.int a,.int b=>a==b
 |.str a,.str b=>a==b
 |_,_=>false
def A4{A:Around}{s:Shared}{y x:V}{u v:Value}(ry:ah y u)(rx:ah x v)(fy:dO y=true)(fx:dO x=true):SeqAt.EqAt A s u v (cz y x):=by
 cases y with
 |non=>
  cases ry;cases x with
  |non=>cases rx;exact SeqAt.EqAt.same _
  |bl b=>cases rx;exact SeqAt.EqAt.none_bool b
  |int b=>obtain⟨t,rfl⟩:=rx;exact SeqAt.EqAt.none_int b t
  |str b=>obtain⟨t,rfl⟩:=rx;exact SeqAt.EqAt.none_str b t
  |_=>exact absurd (show false=true from fx) cn
 |bl a=>
  cases ry;cases x with
  |non=>cases rx;exact SeqAt.EqAt.bool_none a
  |bl b=>cases rx;exact SeqAt.EqAt.bool_bool a b
  |int b=>obtain⟨t,rfl⟩:=rx;exact SeqAt.EqAt.bool_int a b t
  |str b=>obtain⟨t,rfl⟩:=rx;exact SeqAt.EqAt.bool_str a b t
  |_=>exact absurd (show false=true from fx) cn
 |int a=>
  obtain⟨t',rfl⟩:=ry;cases x with
  |non=>cases rx;exact SeqAt.EqAt.int_none a t'
  |bl b=>cases rx;exact SeqAt.EqAt.int_bool a t' b
  |int b=>obtain⟨t,rfl⟩:=rx;exact SeqAt.EqAt.int_int a t' b t
  |str b=>obtain⟨t,rfl⟩:=rx;exact SeqAt.EqAt.int_str a t' b t
  |_=>exact absurd (show false=true from fx) cn
 |str a=>
  obtain⟨t',rfl⟩:=ry;cases x with
  |non=>cases rx;exact SeqAt.EqAt.str_none a t'
  |bl b=>cases rx;exact SeqAt.EqAt.str_bool a t' b
  |int b=>obtain⟨t,rfl⟩:=rx;exact SeqAt.EqAt.str_int a t' b t
  |str b=>obtain⟨t,rfl⟩:=rx;exact SeqAt.EqAt.str_str a t' b t
  |_=>exact absurd (show false=true from fx) cn
 |_=>exact absurd (show false=true from fy) cn
def op_notIn_str:cm X (compareOp .NotIn) (λx y H Q=>∃i j,x=.str i/\y=.str j/\Q (.bl (!(!(Builtin.Str.occurrences j i 0 j.length 1).isEmpty))) H):=by
 intro Qx s σ H x y v u Q I rx ry h;obtain⟨i,j,rfl,rfl,q⟩:=h;obtain⟨t,rfl⟩:=rx;obtain⟨t',rfl⟩:=ry;exact notIn_str ⟨.bl _,H,I,rfl,q⟩
def call_len_seq:aq X (.builtin "len") (λxs H Q=>∃p ys,xs=[.ref p]/\(bu X.K H p ys\/cq X.K H p ys)/\Q (.int ys.length) H):=by
 intro Qx s σ H xs us Q I r h;obtain⟨p,ys,rfl,hq,q⟩:=h;obtain⟨u,rfl,rx⟩:=cN r;cases rx;have hn:=mX;rcases hq with hq|hq
 ·obtain⟨its,r',pl,hz⟩:=I.list hq;have hlen:=r'.length;exact Calls.call_len_list pl.isList (by simp only[ck]<;>omega) ⟨.int ys.length,H,I.tok _,⟨s.toks+1,by rw[ck,hlen]⟩,q⟩
 ·obtain⟨its,r',pl,hz⟩:=I.tuple hq;have hlen:=r'.length;exact len_tuple pl (by simp only[ck]<;>omega) ⟨.int ys.length,H,I.tok _,⟨s.toks+1,by rw[ck,hlen]⟩,q⟩
def call_len_str:aq X (.builtin "len") (λxs H Q=>∃z,xs=[.str z]/\z.length<=sizeLine/\Q (.int z.length) H):=by
 intro Qx s σ H xs us Q I r h;obtain⟨z,rfl,hz,q⟩:=h;obtain⟨u,rfl,t,rfl⟩:=cN r;have hn:=mX;exact len_str (by omega) ⟨.int z.length,H,I.tok _,⟨_,rfl⟩,q⟩
def aq.or{f:Value}{r r':List V->Hp->VK->Prop}(h:aq X f r)(h':aq X f r'):aq X f (λxs H Q=>r xs H Q\/r' xs H Q):=by
 intro Qx s σ H xs us Q I rs q;rcases q with q|q
 ·exact h Qx s σ H xs us Q I rs q
 ·exact h' Qx s σ H xs us Q I rs q
def DJ:aq X (.type "list") (λxs H Q=>∃p ys,xs=[.ref p]/\(bu X.K H p ys\/cq X.K H p ys)/\∀l,H l=none->Q (.ref l) (ar H l (.lst ys))):=by
 intro Qx s σ H xs us Q I r h;obtain⟨p,ys,rfl,hq,q⟩:=h;obtain⟨u,rfl,rx⟩:=cN r;cases rx;have fin:∀(its:List Value),ai ys its->ys.length<=sizeLine->∀(h':Heap) (c':Nat),(∀b o',s.heap.get? b=some o'->h'.get? b=some o') ->
   h'.get? s.heap.objs.size=some {cls:=.type "list",dict:=none,data:=.seq its.toArray c',slots:=#[]}->EP X Qx σ Q (.ref s.heap.objs.size) {s with heap:=h'}:=λits r' hz h' c' kp e=>
  ⟨.ref s.heap.objs.size,_,I.laid (t':=s.toks) kp (ba _) (show aw X.prog X.w _ h' _ (.lst ys) from ⟨hz,its,c',r',e⟩),rfl,q _ (I.hok.fresh (ba _))⟩
 rcases hq with hq|hq
 ·obtain⟨its,r',pl,hz⟩:=I.list hq;have hlen:=r'.length;obtain⟨o,ho,hc,n,hd⟩:=pl.isList;exact call_list_seq p (.inl rfl) ho hc hd (λh' c' kp e=>fin its r' hz h' c' kp e) (by simp only[ck]<;>omega)
 ·obtain⟨its,r',pl,hz⟩:=I.tuple hq;have hlen:=r'.length;obtain⟨o,ho,hc,n,hd⟩:=pl;exact call_list_seq p (.inr rfl) ho hc hd (λh' c' kp e=>fin its r' hz h' c' kp e) (by simp only[ck]<;>omega)
def OR:aq X (.type "tuple") (λxs H Q=>∃p ys,xs=[.ref p]/\((bu X.K H p ys/\∀l,H l=none->Q (.ref l) (ar H l (.tup ys)))\/(cq X.K H p ys/\Q (.ref p) H))):=by
 intro Qx s σ H xs us Q I r h;obtain⟨p,ys,rfl,h⟩:=h;obtain⟨u,rfl,rx⟩:=cN r;cases rx;rcases h with⟨hq,q⟩|⟨hq,q⟩
 ·obtain⟨its,r',pl,hz⟩:=I.list hq;have hlen:=r'.length;refine call_tuple_list pl.isList (λh' kp=>?_) (by simp only[ck]<;>omega);have I1:ag X Qx σ H {s with heap:=h'}:=I.kept (t':=s.toks) kp;have I2:ag X Qx σ (ar H h'.objs.size (.tup ys)) {s with heap:=h'.push {cls:=.type "tuple",data:=.seq its.toArray}}:=
   I1.laid (t':=s.toks) (λb o e=>bc _ e) (ba _) (show aw X.prog X.w _ _ _ (.tup ys) from ⟨hz,its,r',IsTup.new _ _⟩)
  exact⟨.ref h'.objs.size,_,I2,rfl,q _ (I1.hok.fresh (ba _))⟩
 ·obtain⟨its,r',pl,hz⟩:=I.tuple hq;exact call_tuple_same pl ⟨.ref p,H,I,rfl,q⟩
def xx(K:W.Frag)(T:String)(x:V)(H:Hp):Prop:=match x with
 |.str _=>T="str"
 |.int _=>T="int"
 |.ref p=>(T="list"/\∃xs,bu K H p xs)\/(T="tuple"/\∃o,K.lookup p=some o/\o.cls=.type "tuple"/\o.dict=none) \/
   (T="dict"/\((∃kvs,H p=some (.dK kvs))\/∃kvs,H p=some (.dT kvs)))\/(T="set"/\∃S n,H p=some (.set S n))
 |_=>False
def AB{Qx:List (Addr×Obj)}{σ:St}{H:Hp}{s:Shared}{T:String}{x:V}{v:Value}(I:ag X Qx σ H s)(r:ah x v)(ty:xx X.K T x H):
  s.TypeIs v T/\∀a,v=.ref a->∃ob,s.heap.get? a=some ob/\ob.dict=none:=by
 cases x with
 |str z=>
  obtain⟨t,rfl⟩:=r;cases (show T="str" from ty);exact⟨typeIs_str s z t,λ_ e=>nomatch e⟩
 |int i=>
  obtain⟨t,rfl⟩:=r;cases (show T="int" from ty);exact⟨typeIs_int s i t,λ_ e=>nomatch e⟩
 |ref p=>
  cases r;rcases ty with⟨rfl,xs,hq⟩|⟨rfl,o,hk,hc,hd⟩|⟨rfl,hk⟩|⟨rfl,S,n,hk⟩
  ·obtain⟨its,_,pl,_⟩:=I.list hq;refine⟨pl.isList.typeIs,λa e=>?_⟩;cases e;obtain⟨o,n,e,c,hd,_⟩:=pl;exact⟨o,e,hd⟩
  ·refine⟨⟨o,I.kIn p o hk,hc⟩,λa e=>?_⟩;cases e;exact⟨o,I.kIn _ o hk,hd⟩
  ·have z:∃o,s.heap.get? p=some o/\o.ExactDict:=by
    rcases hk with⟨kvs,hk⟩|⟨kvs,hk⟩
    ·obtain⟨_,_,_,_,o,_,_,e,ex,_⟩:=I.hok p _ hk;exact⟨o,e,ex⟩
    ·obtain⟨_,_,_,_,o,_,_,e,ex,_⟩:=I.hok p _ hk;exact⟨o,e,ex⟩
   obtain⟨o,e,ex⟩:=z;refine⟨⟨o,e,ex.1⟩,λa e2=>?_⟩;cases e2;exact⟨o,e,ex.2.1⟩
  ·obtain⟨o,_,_,_,e,ex,_⟩:=I.hok p _ hk;refine⟨⟨o,e,ex.1⟩,λa e2=>?_⟩;cases e2;exact⟨o,e,ex.2.1⟩
 |_=>exact False.elim ty
def GC(K:W.Frag)(T:String)(r:V->List V->Hp->VK->Prop)(to:TE):TE:=λσ H Q=>to σ H λx H1=>xx K T x H1/\r x [] H1 Q
def Pr(K:W.Frag)(T:String)(r:V->List V->Hp->VK->Prop)(to:TE)(t:TA):TE:=λσ H Q=>to σ H λx H1=>xx K T x H1/\t σ H1 λxs H2=>r x xs H2 Q
variable{o e:Expr}{es:List Expr}{to:TE}{t:TA}{name:Str}{QC Qz:Pos}{T id:String}{r:V->List V->Hp->VK->Prop}
def IW(pa:PlainAttrs T)(slot:Slot T name id)(hty:typeOf (.builtin id)=pure (.type "method_descriptor"))(hm:u3 X id r)(ho:PE X o to)
  (QE:attributeBase o name X.env (eval o X.env)=eval o X.env:=by rfl) (QD:(QC.endLine==Qz.line)=true:=by rfl):PE X (.Call (.Attribute o name QC) [] [] Qz) (GC X.K T r to):=by
 intro Qx s σ H Q I h;refine wpAny_Call_method0_late QE QD (bf (ho Qx s σ H _ I h) λv s1 ⟨x,H1,I1,r1,ty,q1⟩=>?_);obtain⟨h1,h2⟩:=AB I1 r1 ty;exact⟨T,id,pa,slot,hty,h1,h2,Calls.callWith_builtin rfl (PySem.evalArgs_none (hm Qx s1 σ H1 x [] v [] Q I1 r1 .nil q1))⟩
def pI(pa:PlainAttrs T)(slot:Slot T name id)(hty:typeOf (.builtin id)=pure (.type "method_descriptor"))(hm:u3 X id r)(ho:PE X o to)(ha:PA X (e::es) t)
  (QE:attributeBase o name X.env (eval o X.env)=eval o X.env:=by rfl)
  (hfew:((backTo Qz (starEach (e::es) X.env)).all (λx=>!x.1)&&(backToKw Qz (keywordEach [] X.env)).all (λx=>x.1.isSome)
   && decide ((e::es).length+([]:List Keyword).length+(if ([]:List Keyword).isEmpty then 0 else 1)<30))=true:=by rfl)
  (QD:(QC.endLine==Qz.line)=true:=by rfl) (hs:starEach (e::es) X.env=(false,eval e X.env)::starEach es X.env:=by rfl) (QF:(backTo Qz (starEach es X.env)).any (·.1)=false:=by rfl):
  PE X (.Call (.Attribute o name QC) (e::es) [] Qz) (Pr X.K T r to t):=by
 intro Qx s σ H Q I h;refine wpAny_Call_method_late QE hfew QD rfl (bf (ho Qx s σ H _ I h) λv s1 ⟨x,H1,I1,r1,ty,q1⟩=>?_);obtain⟨h1,h2⟩:=AB I1 r1 ty;refine⟨T,id,pa,slot,hty,h1,h2,?_⟩;have hA:=ha Qz Qx s1 σ H1 _ I1 q1;rw[hs]at hA ⊢;refine Calls.callWith_builtin (by show(false || (backTo Qz (starEach es X.env)).any (·.1))=false;rw[QF]<;>rfl) (Calls.evalArgs_plain ?_);exact bf hA λus s2 ⟨vs,H2,I2,r2,q2⟩=>hm Qx s2 σ H2 x vs v us Q I2 r1 r2 q2
end
def t5(X:Cx)(id:String)(r:V->List V->Hp->VK->Prop):Prop:=
 ∀(Qx:List (Addr×Obj)) (s:Shared) (σ:St) (H:Hp) (x:V) (xs:List V) (v:Value) (us:List Value) (Q:VK),ag X Qx σ H s->ah x v->ai xs us->r x xs H Q ->
  wpAny (model X.prog X.w) X.A (call (.builtin id) (v::us)) (EP X Qx σ Q) X.xe s
def ai.one:∀{x:V}{us:List Value},ai [x] us->∃u,us=[u]/\ah x u
 |_,_,.cons r .nil=>⟨_,rfl,r⟩
def ai.zero:∀{us:List Value},ai [] us->us=[]
 |_,.nil=>rfl
def ai.dropLast{xs:List V}{us:List Value}(h:ai xs us):ai xs.dropLast us.dropLast:=by
 induction h with
 |nil=>exact .nil
 |cons r t ih=>
  cases t with
  |nil=>exact .nil
  |cons q t'=>exact .cons r ih
def ai.eraseIdx:∀{xs:List V}{us:List Value}(i:Nat),ai xs us->ai (xs.eraseIdx i) (us.eraseIdx i)
 |_,_,_,.nil=>.nil
 |_,_,0,.cons _ t=>t
 |_,_,i+1,.cons r t=>.cons r (ai.eraseIdx i t)
def ai.reverse{xs:List V}{us:List Value}(h:ai xs us):ai xs.reverse us.reverse:=by
 induction h with
 |nil=>exact .nil
 |cons r t ih=>rw[om,om];exact ai.append ih (.cons r .nil)
def ai.rep{xs:List V}{us:List Value}(h:ai xs us):∀k:Nat,ai (List.replicate k xs).flatten (List.replicate k us).flatten
 |0=>.nil
 |k+1=>by
  rw[g9,g9,g8,g8];exact ai.append h (ai.rep h k)
def Ol{α:Type}(l:List α):l.eraseIdx (l.length-1)=l.dropLast:=by
 induction l with
 |nil=>rfl
 |cons a r ih=>
  cases r with
  |nil=>rfl
  |cons b r=>
   have e:(a::b::r).length-1=((b::r).length-1)+1:=by
    have h1:(a::b::r).length=r.length+2:=rfl;have h2:(b::r).length=r.length+1:=rfl;omega
   rw[e,List.eraseIdx_cons_succ,ih]
   all_goals rfl
def CV{α:Type}:∀(l:List α) (i:Nat),(l.eraseIdx i).length<=l.length
 |[],_=>ba _
 |_::_,0=>g7 _
 |_::r,i+1=>Nat.succ_le_succ (CV r i)
def CM(its:List Value):∀(k:Nat) (acc:List Value),
  List.foldl (λx1 x2=>x1++x2) acc.toArray (List.replicate k its.toArray)=(acc++(List.replicate k its).flatten).toArray
 |0,acc=>by simp
 |k+1,acc=>by
  have e:acc.toArray++its.toArray=(acc++its).toArray:=by simp
  have e2:(acc++its)++(List.replicate k its).flatten=acc++(List.replicate (k+1) its).flatten:=by
   rw[g9,g8,jv]
  rw[<-e2,<-CM its k (acc++its),<-e,g9,f9]
section
variable{X:Cx}{Qx:List (Addr×Obj)}{σ:St}{H:Hp}{s:Shared}{l b:Addr}{xs ys zs:List V}
def ag.lset{its its':List Value}{n:Nat}{f:Array Value->Array Value}{t':Nat}(I:ag X Qx σ H s)(hH:H l=some (.lst xs))
  (e:s.heap.get? l=some {cls:=.type "list",data:=.seq its.toArray n}) (hf:f its.toArray=its'.toArray) (hv:ai ys its') (hz:ys.length<=sizeLine):
  ag X Qx σ (ar H l (.lst ys)) {s with heap:=s.heap.update l (Obj.mapSeq f),toks:=t'}:=by
 have q:=PySem.IsL.update e f;rw[hf]at q;refine I.write (x:=l) (e:=l) (by rw[hH];exact trivial) (.inl rfl) (λb' u hb hu=>(l_ s.heap (Obj.mapSeq f) (Ne.symm hb)).trans hu) ⟨_,q⟩ ?_;exact⟨hz,its',_,hv,q⟩
def ag.lnew{its:List Value}{t':Nat}(I:ag X Qx σ H s)(hv:ai ys its)(hz:ys.length<=sizeLine):
  ag X Qx σ (ar H s.heap.objs.size (.lst ys)) {s with heap:=s.heap.push {cls:=.type "list",data:=.seq its.toArray},toks:=t'}:=
 I.laid (λ_ _ q=>bc _ q) (ba _) ⟨hz,its,0,hv,cf _ rfl⟩
def ag.fresh(I:ag X Qx σ H s):H s.heap.objs.size=none:=I.hok.fresh (ba _)
def ag.lstM(I:ag X Qx σ H s)(hH:H l=some (.lst xs)):xs.length<=sizeLine/\∃(its:List Value) (n:Nat),ai xs its/\xs.length=its.length/\s.heap.get? l=some {cls:=.type "list",data:=.seq its.toArray n}:=by
 obtain⟨z,its,n,r,e⟩:=I.hok l _ hH;exact⟨z,its,n,r,r.length,e⟩
def C7{n:Nat}(h:n<=sizeLine):Builtin.List.listTooLong n=false:=by
 unfold Builtin.List.listTooLong;exact i4 (by omega)
end
section
variable{X:Cx}
def Lc:V->List V->Hp->VK->Prop:=λx vs H Q=>∃l xs y,x=.ref l/\vs=[y]/\H l=some (.lst xs)/\xs.length<sizeLine/\Q .non (ar H l (.lst (xs++[y])))
theorem vN:t5 X "list.append" Lc:=by
 intro Qx s σ H x vs v us Q I rx rv h;obtain⟨l,xs,y,rfl,rfl,hH,hz,q⟩:=h;cases rx;obtain⟨u,rfl,ru⟩:=rv.one;obtain⟨z,its,n,r,hl,e⟩:=I.lstM hH;refine call_meets F.slot_list_append ⟨_,e,rfl⟩ F.entry_list_append (F.args_list_append_2 _ _) (PySem.list_append l its.toArray n u (by rw[ck];omega)) ⟨e,?_⟩;refine⟨.non,_,I.lset (its':=its++[u]) hH e (by simp) (r.append (.cons ru .nil)) ?_,rfl,q⟩;rw[b7,lu];omega
def Gp:V->List V->Hp->VK->Prop:=λx vs H Q=>∃l xs y,x=.ref l/\vs=[]/\H l=some (.lst xs)/\xs[xs.length-1]?=some y/\Q y (ar H l (.lst xs.dropLast))
theorem IE:t5 X "list.pop" Gp:=by
 intro Qx s σ H x vs v us Q I rx rv h;obtain⟨l,xs,y,rfl,rfl,hH,hy,q⟩:=h;cases rx;have hus:=rv.zero;subst hus;obtain⟨z,its,n,r,hl,e⟩:=I.lstM hH;obtain⟨u,hu,ru⟩:=r.get hy;have hy':its.toArray[its.toArray.size-1]?=some u:=by
  show its.toArray[its.length-1]?=some u;rw[<-fw,<-hl];exact hu
 refine call_meets F.slot_list_pop ⟨_,e,rfl⟩ F.entry_list_pop (F.args_list_pop_1 _) (MeetsSeq.list_pop_last l its.toArray n u hy' (by rw[ck];omega)) ⟨e,?_⟩;refine⟨y,_,I.lset (its':=its.dropLast) hH e ?_ r.dropLast ?_,ru,q⟩
 ·show its.toArray.eraseIdxIfInBounds (its.toArray.size-1)=its.dropLast.toArray;rw[ck,vc,Ol]
 ·rw[List.length_dropLast];omega
def Ir:V->List V->Hp->VK->Prop:=λx vs H Q=>∃l xs i k y,x=.ref l/\vs=[.int i]/\H l=some (.lst xs) /\ -(2 ^ 63)<=i/\i<2 ^ 63/\seqIndex? i xs.length=some k/\xs[k]?=some y/\Q y (ar H l (.lst (xs.eraseIdx k)))
theorem Mk:t5 X "list.pop" Ir:=by
 intro Qx s σ H x vs v us Q I rx rv h;obtain⟨l,xs,i,k,y,rfl,rfl,hH,h1,h2,hk,hy,q⟩:=h;cases rx;obtain⟨u,rfl,ru⟩:=rv.one;obtain⟨t,rfl⟩:=ru;obtain⟨z,its,n,r,hl,e⟩:=I.lstM hH;obtain⟨w,hw,rw'⟩:=r.get hy;refine call_meets F.slot_list_pop ⟨_,e,rfl⟩ F.entry_list_pop (F.args_list_pop_2 _ _)
  (MeetsSeq.list_pop_at l its.toArray n i t k w (fitsIndex_both h1 h2) (by rw[ck,<-hl];exact hk) (by rw[<-fw];exact hw) (by rw[ck];omega)) ⟨e,?_⟩
 refine⟨y,_,I.lset (its':=its.eraseIdx k) hH e ?_ (r.eraseIdx k) ?_,rw',q⟩
 ·show its.toArray.eraseIdxIfInBounds k=(its.eraseIdx k).toArray;rw[vc]
 ·have:=CV xs k;omega
def xL{α:Type}(xs:List α)(k:Nat):(List.replicate k xs).flatten.length=k*xs.length:=by
 induction k with
 |zero=>simp
 |succ k ih=>rw[g9,g8,b7,ih,Nat.succ_mul,Nat.add_comm]
end
end L2
namespace Att
open PySem PySem.W PySem.Calls PyProof.Rows
def O0{P:Params}{h:Heap}:∀(ns:List Int) (vs:List Value),WellAll P h vs (ns.map WData.int)->IntsAre vs ns:=by
 intro ns
 induction ns with
 |nil=>
  intro vs w;rw[jw]at w;cases w;exact .nil
 |cons n ns ih=>
  intro vs w;rw[dz]at w;cases w with
  |cons a b=>
   cases a;exact .cons _ _ (ih _ b)
def MZ{l:OpenLaw}{n:Nat}(hn:l.most=some n){P:Params}{h:Heap}{args:List WData}{vals:List Value}
  (hpre:l.row.toRowW.claim.pre args=true) (hwl:WellAll P h vals args):
  ∃a vs ns,vals=[Value.ref a]/\args=[WData.list (ns.map WData.int)]/\h.get? a=some {cls:=.type "list",data:=.seq vs.toArray}/\IntsAre vs ns/\ns.length<=n:=by
 have hsh:WShape.hasAll [] args [.list .int]=true:=(pre_splitW hpre).1;have hc:l.pre.holds [] {args:=args}=true:=(pre_splitW hpre).2;obtain⟨d,r,rfl,h1,h2⟩:=hasAllW_cons hsh;obtain rfl:=hasAllW_nil h2;obtain⟨xs,rfl,h3⟩:=hasW_list h1;obtain⟨ns,rfl⟩:=items_int h3;have hlen:ns.length<=n:=by
  unfold OpenLaw.pre at hc;have h4:(WTm.not (.lt (.lit (.int (n:Int))) (.len (.arg 0)))).holds [] {args:=[.list (ns.map .int)]}=true:=by
   have h4:=(holds_andW hc).1;rw[hn]at h4;exact h4
  have h5:=condW_of h4 (w_not (w_lt w_lit (w_len_list (w_arg rfl))));rw[ak]at h5;refine sv λq=>?_
  have q':(n:Int)<((ns.length:Nat):Int):=by omega
  first
   |(rw[jd q']at h5;exact absurd h5 (by decide))
   |(simp at h5;omega)
 cases hwl with
 |cons w1 w2=>
  cases w2;cases w1 with
  |list ho hall=>exact⟨_,_,ns,rfl,rfl,ho,O0 ns _ hall,hlen⟩
def MS(l:OpenLaw)(args:List WData):l.row.toRowW.claim.post args (.bool true) args=true:=
 postW_of (r:=l.row.toRowW) (X:=(true==true))
  (show WShape.has [] (.bool true) .bool=true by first|rfl|decide|simp[WShape.has,WShape.arms,WShape.armsAll])
  (show(WTm.eq .res (.lit (.bool true))).value [] {args:=args,res:=some (.bool true),after:=args}=some (.bool (true==true)) from w_eq_bool (w_res rfl) w_lit) rfl
def attach_call{l:OpenLaw}{n:Nat}{q:Program}{loose:List Str}{XP:(Str->Option Value)->Heap->Prop}{YP:World->Heap->Prop}{d:DefRec}
  (hn:l.most=some n) (hdf:d.params.defaults=[])
  (call:∀(w:World) (s₀ s₁:Shared) (mg mb:Str->Option Value) (fa:Addr) (o:Obj) (pm cd doc:Value) (a:Addr) (vs:List Value) (ns:List Int),
   Ground q loose [] XP w s₀ mg mb s₁.heap->YP w s₁.heap ->
   s₁.heap.get? fa=some o->o.data=.func (docDef d.name d.params d.body d.scope pm cd doc)->s₁.heap.CodeRec cd d.name->mg d.name=some (.ref fa) ->
   s₁.heap.get? a=some {cls:=.type "list",data:=.seq vs.toArray}->IntsAre vs ns->ns.length<=n->s₁.gens=#[] ->
   codeAny (model l.prog w) callerA (.call (.ref fa) ⟨[.ref a],[]⟩) (λr s'=>r=.ok (.ret (.bool true))/\OldK s₁.heap s'.heap/\s'.os=s₁.os/\AllBare s'.gens) s₁):
  WalkO q loose XP YP l.row.toRowW d [] (λf vs=>PySem.call f vs):=by
 intro w s₀ s₁ mg mb G Y fa o pm cd doc dV kV ho hd hcd hD hmg hg args vals as hpre hlay hrd hwl hlo;obtain rfl:dV=.none:=Dflts.none hD hdf;obtain rfl:kV=.none:=Dflts.noKw hD;obtain⟨a,vs,ns,rfl,rfl,hobj,hints,hlen⟩:=MZ hn hpre hwl;refine enter_call (codeAny_mono (call w s₀ s₁ mg mb fa o pm cd doc a vs ns G Y ho (fd_plain hd) hcd hmg hobj hints hlen hg) λr s' hq=>?_);obtain⟨rfl,h2,h3,h4⟩:=hq;exact⟨.inl ⟨.bool true,.bool true,[],rfl,λ_=>rfl,.bool true,MS l _,λ_=>⟨List.Pairwise.nil,λ_ hm=>(nomatch hm)⟩⟩,h2,h3,h4⟩
end Att
namespace L2
open PySem PySem.Spec PyProof.Rows
theorem DX:∀{vs:List Value}{ns:List Int},IntsAre vs ns->ai (ns.map V.int) vs
 |_,_,.nil=>.nil
 |_,_,.cons n t h=>.cons ⟨t,rfl⟩ (DX h)
def yj(H:Hp):Prop:=∀b,H b=none\/∃o xs,H b=some (.frz o (.lst xs))
theorem Ma{P:Program}{w:World}{K:W.Frag}{mg mb:Str->Option Value}{CX:nk}{k:Nat}{fa a:Addr}{fd:FuncData}{x:Str}{sp:Sp}{s₁:Shared}{vs:List Value}{ns:List Int}
  (KX:K.In s₁.heap) (hns:s₁.heap.Ns mainGlobals mg) (hb:s₁.heap.Ns builtinsNs mb) (hbb:∀x:Str,x≠"__name__"->mb x=bootBuiltins x) (hlim:s₁.heap.NoLimit) (hg:s₁.gens=#[])
  (ha:s₁.heap.get? a=some {cls:=.type "list",data:=.seq vs.toArray}) (hi:IntsAre vs ns) (hl:ns.length<=sizeLine) (hr:bx k callerA)
  (F:∀base:Heap,K.In base->base.Ns mainGlobals mg->du P w K mg base CX k fa fd [x] sp) (hbind:∀(s:Shared) (u:Value),BindsTo s fd ⟨[u],[]⟩ [(x,u)])
  (hsp:∀H:Hp,yj H->bu K H a (ns.map V.int)->sp [.ref a] H (λv _=>v=.bl true) λ_ _ _=>False)
  (hCX:∀H e s',CX [] H s₁ (λ_ _ _=>False) e s'->False):
  codeAny (model P w) callerA (.call (.ref fa) ⟨[.ref a],[]⟩) (λr s'=>r=.ok (.ret (.bool true))/\OldK s₁.heap s'.heap/\s'.os=s₁.os/\AllBare s'.gens) s₁:=by
 have rv:=DX hi;have lenV:=hi.length
 -- from an abstract heap in which nothing but the script may be tracked
 have core:∀H:Hp,yj H->bu K H a (ns.map V.int)->d7 P w H s₁.heap->(∀b,H b≠none->b=a)->(H a≠none->K.lookup a=none) ->
   codeAny (model P w) callerA (.call (.ref fa) ⟨[.ref a],[]⟩) (λr s'=>r=.ok (.ret (.bool true))/\OldK s₁.heap s'.heap/\s'.os=s₁.os/\AllBare s'.gens) s₁:=by
  intro H hO hS hok hA hK;have base_of:∀{b:Addr} {o:Obj},s₁.heap.get? b=some o->H b=none->(jS s₁.heap H).get? b=some o:=λe n=>L3 e n
  have noA:∀{b:Addr} {o:Obj} {es:Array DictEntry} {ep:Nat},s₁.heap.get? b=some o->o.data=.dict es ep->H b=none:=λ{b o es ep} e d=>by
   cases q:H b with
   |none=>rfl
   |some u=>
    have e':b=a:=hA b (by rw[q];simp);subst e';rw[ha]at e;cases e;have d':Data.seq vs.toArray _=Data.dict es ep:=d;cases d'
  have nsK:∀{b:Addr} {m:Str->Option Value},s₁.heap.Ns b m->(jS s₁.heap H).Ns b m:=λ{b m} ⟨o,es,ep,e,d,r⟩=>⟨o,es,ep,base_of e (noA e d),d,r⟩
  have hKb:K.In (jS s₁.heap H):=λb o e=>base_of (KX b o e) (by
   cases q:H b with
   |none=>rfl
   |some u=>
    have e':b=a:=hA b (by rw[q];simp);subst e';rw[hK (by rw[q];simp)]at e;cases e)
  have hM:Mod K mg (jS s₁.heap H):=⟨hKb,nsK hns,⟨mb,nsK hb,hbb⟩,let ⟨mc,h1,h2⟩:=hlim;⟨mc,nsK h1,h2⟩⟩
  have e0:uR P w K mg (jS s₁.heap H) callerA [] s₁ H:=⟨rfl,hM,λb o e=>Lp e,Nat.le_of_eq (Nr _ _),trivial,λb hb=>absurd (show b∈([]:List Addr) from hb) (by simp),hok,.of_eq hg⟩
  refine codeAny_mono ((F _ hKb (nsK hns)).run callerA [] s₁ H ⟨[.ref a],[]⟩ [.ref a] [.ref a] _ _ hr e0 (hbind s₁ (.ref a)) (.cons rfl .nil) (hsp H hO hS)) λr s' h=>?_
  cases r with
  |error e=>exact(hCX H e s' h).elim
  |ok fl=>
   cases fl with
   |next=>exact False.elim h
   |brk=>exact False.elim h
   |cont=>exact False.elim h
   |ret u=>
    obtain⟨v,H',os,bare,un,hok',r',q⟩:=h;have q':v=.bl true:=q;subst q';obtain rfl:u=Value.bool true:=r';refine⟨rfl,OldK.of_keep λb o e=>?_,os,bare⟩;cases q:H b with
    |none=>exact un.keep b o e q (by intro z;exact absurd (show b∈([]:List Addr) from z) (by simp)) (by simp)
    |some u=>
     rcases hO b with z|⟨ob,xs,z⟩
     ·rw[q]at z;cases z
     ·have z2:=un.frzs b ob _ z;obtain⟨e1,_⟩:=hok b _ z;obtain⟨e2,_⟩:=hok' b _ z2;rw[e]at e1;cases e1;exact e2
 cases hk:K.lookup a with
 |some o=>
  -- the script is one of the module's own objects
  have e:=KX a o hk;rw[ha]at e;cases e;refine core (λ_=>none) (λ_=>.inl rfl) (.inr ⟨_,vs.toArray,_,hk,rfl,rfl,rfl,by rw[ck,lenV];exact hl,by simpa using rv⟩) (λb u z=>by have z':(none:Option HO)=some u:=z;cases z') (λb z=>absurd rfl z) λz=>absurd rfl z
 |none=>
  refine core (λb=>if b=a then some (.frz {cls:=.type "list",data:=.seq vs.toArray} (.lst (ns.map V.int))) else none) (λb=>?_) (.inl (.inr ⟨{cls:=.type "list",data:=.seq vs.toArray},if_pos rfl⟩)) (λb u z=>?_) (λb z=>?_) λ_=>hk
  ·by_cases hb:b=a
   ·exact .inr ⟨_,_,if_pos hb⟩
   ·exact .inl (if_neg hb)
  ·by_cases hb:b=a
   ·have z':=(if_pos hb).symm.trans z;cases z';subst hb;exact⟨ha,by rw[ak];exact hl,vs,_,rv,ha⟩
   ·have z':=(if_neg hb).symm.trans z;cases z'
  ·by_cases hb:b=a
   ·exact hb
   ·exact absurd (if_neg hb) z
theorem walk_of{l:W.OpenLaw}{n k:Nat}{q:Program}{loose:List Str}{XP:(Str->Option Value)->Heap->Prop}{YP:World->Heap->Prop}{d:DefRec}{K:Params->W.Frag}{CX:World->nk}{sp:World->Sp}{x:Str}
  (hn:l.most=some n) (hn2:n<=sizeLine) (hdf:d.params.defaults=[]) (hr:bx k callerA)
  (hY:∀(w:World) (h:Heap),YP w h->(K w.params).In h)
  (F:∀(w:World) (mg:Str->Option Value) (fa:Addr) (h:Heap),(K w.params).In h->h.Ns mainGlobals mg->mg d.name=some (.ref fa) ->
   ∃fd:FuncData,(∀(s:Shared) (u:Value),BindsTo s fd ⟨[u],[]⟩ [(x,u)]) /\
    ∀base:Heap,(K w.params).In base->base.Ns mainGlobals mg->du l.prog w (K w.params) mg base (CX w) k fa fd [x] (sp w))
  (hsp:∀(w:World) (H:Hp) (a:Addr) (ns:List Int),ns.length<=n->yj H->bu (K w.params) H a (ns.map V.int)->sp w [.ref a] H (λv _=>v=.bl true) λ_ _ _=>False)
  (hCX:∀(w:World) (H:Hp) (s:Shared) (e:Value) (s':Shared),CX w [] H s (λ_ _ _=>False) e s'->False):
  PySem.W.WalkO q loose XP YP l.row.toRowW d [] (λf vs=>PySem.call f vs):=by
 refine Att.attach_call hn hdf λw s₀ s₁ mg mb fa o pm cd doc a vs ns G Y ho hd hcd hmg hobj hints hlen hg=>?_
 have KX:=hY w _ Y;obtain⟨fd,hb,hF⟩:=F w mg fa _ KX G.T.g hmg;exact Ma KX G.T.g G.T.b G.T.builtins G.T.nolimit hg hobj hints (bw hlen hn2) hr hF hb (λH hO hS=>hsp w H a ns hlen hO hS) λH e s'=>hCX w H s₁ e s'
def gW(s:Stmt):Arguments:=match s with
 |.FunctionDef _ a _ _ _ _ _ _ _ _=>a
 |_=>{posonlyargs:=[],args:=[],vararg:=none,kwonlyargs:=[],kw_defaults:=[],kwarg:=none,defaults:=[]}
def eS(s:Stmt):List Stmt:=match s with
 |.FunctionDef _ _ b _ _ _ _ _ _ _=>b
 |_=>[]
def aN(s:Stmt):Scope:=match s with
 |.FunctionDef _ _ _ _ _ _ sc _ _ _=>sc
 |_=>{kind:=.function,names:=[],isGenerator:=false,isCoroutine:=false}
abbrev o6:nk:=λ_ _ _ _ _ _=>False
abbrev E0:XK:=λ_ _ _=>False
def Bq{X:Cx}:sU o6 X E0:=λ_ _ _ _ _ _ _ h=>h.elim
structure t7 (K:W.Frag) (x qual:Str) (st:Stmt) (f:Addr) (fd:FuncData):Prop where
 ex:∃(oc:Value) (od:Option Addr) (kV doc pm:Value) (an:Option Addr) (Qy ct:Value) (osl:Array (Option Value)),
  fd=W.fnOf x qual (gW st) (eS st) (aN st) .none kV doc pm an Qy ct/\K.lookup f=some ⟨oc,od,.func fd,osl⟩/\W.codeIn K Qy qual=true
 kp:W.keepIn K (.ref f)=true
section
variable{P:Program}{w:World}{K:W.Frag}{mg:Str->Option Value}{base:Heap}
theorem t7.ok{x qual:Str}{st:Stmt}{f:Addr}{fd:FuncData}{N ps:List Str}{k:Nat}{sp:Sp}(F:t7 K x qual st f fd)(S:bF N ps (aN st))(len:∀vs H Q E,sp vs H Q E->vs.length=ps.length)
  (QH:∀(Qy:Value) (A:Around) (outer:List Env) (s:Shared) (H:Hp) (vs:List V) (Q:VK) (E:XK),bx k (A.deeper (envOfC qual (aN st) s.heap.objs.size f Qy))->sp vs H Q E ->
   ∃t,gz (jV o6 P w K mg base N qual (aN st) f Qy A outer s H E).nox (eS st) t/\t {nx:=λ_ H'=>Q .non H',rt:=Q} (eG N vs) H):du P w K mg base o6 (k+1) f fd ps sp:=by
 obtain⟨oc,od,kV,doc,pm,an,Qy,ct,osl,rfl,lk,hcd⟩:=F.ex;refine F6 lk hcd S len λA outer s H vs Q E hr hsp=>?_
 obtain⟨t,h,q⟩:=QH Qy A outer s H vs Q E hr hsp;exact⟨t,h.nox,q⟩
theorem t7.binds{x qual:Str}{st:Stmt}{f:Addr}{fd:FuncData}{ps:List Str}(F:t7 K x qual st f fd)
  (h:∀(kV doc pm:Value) (an:Option Addr) (Qy ct:Value) (us:List Value),us.length=ps.length->bindArgs (W.fnOf x qual (gW st) (eS st) (aN st) .none kV doc pm an Qy ct) ⟨us,[]⟩=pure (ps.zip us)):iu K fd ps []:=by
 obtain⟨oc,od,kV,doc,pm,an,Qy,ct,osl,rfl,lk,hcd⟩:=F.ex;exact .all (h kV doc pm an Qy ct)
def A6{x qual:Str}{st:Stmt}{f:Addr}{oc:Value}{od an:Option Addr}{osl:Array (Option Value)}{kV doc pm Qy ct:Value}(l:K.lookup f=some ⟨oc,od,.func (W.fnOf x qual (gW st) (eS st) (aN st) .none kV doc pm an Qy ct),osl⟩)
  (c:W.codeIn K Qy qual=true) (k:W.keepIn K (.ref f)=true):t7 K x qual st f (W.fnOf x qual (gW st) (eS st) (aN st) .none kV doc pm an Qy ct):=⟨⟨oc,od,kV,doc,pm,an,Qy,ct,osl,rfl,l,c⟩,k⟩
end
def pL{A:Around}{k:Nat}(hr:bx k A):A.units+1<cLine:=oi (Nat.add_le_add_left (by decide:1<=64) _) hr.units
def OC{n:Nat}(h:n<=1000):n<sizeLine:=Nat.lt_of_le_of_lt h (by decide)
section
variable{X:Cx}
def pv(i:Nat){x:Str}{pos:Pos}(hN:X.N[i]?=some x:=by rfl)(hv:oy X.env.scope x:=by first|exact Or.inl rfl|exact Or.inr (Or.inl rfl)|exact Or.inr (Or.inr rfl))(hd:(x==("__debug__":Str))=false:=by decide)
  (hcd:(x==("__classdict__":Str))=false:=by decide):PE X (.Name x pos) (z_ i):=jK hN hv hd hcd
end
def aQ{A B:Prop}(h:B):if false=true then A else B:=by
 rw[if_neg cn];exact h
def bZ{A B:Prop}(h:A):if true=true then A else B:=by
 rw[if_pos rfl];exact h
def GK{c A B:Prop}[Decidable c](h1:c->A)(h2:¬ c->B):if c then A else B:=by
 by_cases h:c
 ·rw[if_pos h];exact h1 h
 ·rw[if_neg h];exact h2 h
def ay(H H':Hp):Prop:=∀b o,H b=some o->H' b=some o
def ay.refl(H:Hp):ay H H:=λ_ _ h=>h
def ay.trans{H H1 H2:Hp}(a:ay H H1)(b:ay H1 H2):ay H H2:=λc o h=>b c o (a c o h)
def ay.free{H H':Hp}(e:ay H H'){l:Addr}(h:H' l=Option.none):H l=Option.none:=by
 cases q:H l with
 |none=>rfl
 |some o=>
  rw[e l o q]at h;cases h
def uT{env:Env}:∀(names:List (Str×NameKind)) (acc:List (Str×Addr)),(∀y∈names,y.2=.free->∃c,env.cells.lookup y.1=some c) ->
  ∃cl,(forIn names acc (λ(x:Str×NameKind) (cs:List (Str×Addr))=>if (x.2==NameKind.free)=true then(do let c <- cellOf env x.1;pure (ForInStep.yield ((x.1,c)::cs))) else pure (ForInStep.yield cs)):Sem (List (Str×Addr)))=pure cl /\
   (∀x c,cl.lookup x=some c->env.cells.lookup x=some c\/acc.lookup x=some c)/\(∀x c,acc.lookup x=some c->∃c',cl.lookup x=some c')/\∀y∈names,y.2=.free->∃c,cl.lookup y.1=some c
 |[],acc,_=>⟨acc,rfl,λ_ _ h=>.inr h,λ_ c h=>⟨c,h⟩,λ_ h=>nomatch h⟩
 |(n,k)::r,acc,h=>by
  rw[su];by_cases hk:k=.free
  ·subst hk;obtain⟨c,hc⟩:=h (n,.free) h9 rfl;obtain⟨cl,h1,h2,h3,h4⟩:=uT r ((n,c)::acc) λy hy=>h y (fj _ hy)
   refine⟨cl,?_,λx d e=>?_,λx d e=>?_,λy hy e=>?_⟩
   ·have e1:cellOf env n=pure c:=by unfold cellOf;rw[hc]
    simp only[beq_self_eq_true,if_true,e1,pure_bind];exact h1
   ·rcases h2 x d e with z|z
    ·exact .inl z
    ·rw[lr]at z;split at z
     ·rename_i hx;cases z;have:x=n:=eq_of_beq hx;subst this;exact .inl hc
     ·exact .inr z
   ·refine h3 x (if x==n then c else d) ?_;rw[lr];cases hx:x==n with
    |true=>simp[hx]
    |false=>simp[hx,e]
   ·rcases qh_.mp hy with z|z
    ·subst z;exact h3 n c (by simp[lr])
    ·exact h4 y z e
  ·have hb:(k==NameKind.free)=false:=by simpa using hk
   obtain⟨cl,h1,h2,h3,h4⟩:=uT r acc λy hy=>h y (fj _ hy)
   refine⟨cl,?_,h2,h3,λy hy e=>?_⟩
   ·simp only[hb,m5,if_false,pure_bind];exact h1
   ·rcases qh_.mp hy with z|z
    ·subst z;exact absurd e hk
    ·exact h4 y z e
def D7{scope:Scope}{env:Env}(h:∀y∈scope.names,y.2=.free->∃c,env.cells.lookup y.1=some c):
  ∃cl,closureFor scope env=pure cl/\(∀x c,cl.lookup x=some c->env.cells.lookup x=some c)/\∀y∈scope.names,y.2=.free->∃c,cl.lookup y.1=some c:=by
 obtain⟨cl,h1,h2,h3,h4⟩:=uT scope.names [] h;refine⟨cl,?_,λx c e=>(h2 x c e).elim id λz=>(by cases z),h4⟩;unfold closureFor;refine Eq.trans ?_ h1;refine Eq.trans (bind_pure _) ?_;rfl
def DT{env:Env}:∀{names:List (Str×NameKind)}{x:Str},names.lookup x=some .free ->
  (names.map λ(n,k)=>if (k==NameKind.free&&env.scope.kind==.function&&env.kindOf n==some .cell) then(n,NameKind.cell) else(n,k)).lookup x=some .cell \/
  (names.map λ(n,k)=>if (k==NameKind.free&&env.scope.kind==.function&&env.kindOf n==some .cell) then(n,NameKind.cell) else(n,k)).lookup x=some .free
 |[],_,h=>by simp at h
 |(n,k)::r,x,h=>by
  have ih:=@DT env r x;show List.lookup x ((if (k==NameKind.free&&env.scope.kind==.function&&env.kindOf n==some .cell)=true then(n,NameKind.cell) else(n,k))::_)=_\/List.lookup x ((if (k==NameKind.free&&env.scope.kind==.function&&env.kindOf n==some .cell)=true then(n,NameKind.cell) else(n,k))::_)=_;by_cases hc:(k==NameKind.free&&env.scope.kind==.function&&env.kindOf n==some .cell)=true
  ·rw[if_pos hc];cases hx:x==n with
   |true=>simp only[lr,hx];exact .inl trivial
   |false=>
    simp only[lr,hx]at h ⊢;exact ih h
  ·rw[if_neg hc];cases hx:x==n with
   |true=>
    simp only[lr,hx]at h ⊢;exact .inr h
   |false=>
    simp only[lr,hx]at h ⊢;exact ih h
def DD{env:Env}{names:List (Str×NameKind)}(hn:∀y∈names,y.2≠.cell){x:Str}{k:NameKind}(hk:k=.cell\/k=.free)
  (h:(names.map λ(n,k)=>if (k==NameKind.free&&env.scope.kind==.function&&env.kindOf n==some .cell) then(n,NameKind.cell) else(n,k)).lookup x=some k):(x,NameKind.free)∈names:=by
 obtain⟨⟨n,k'⟩,hm,e⟩:=qf_.mp (PySem.mem_of_lookup h);simp only at e;split at e
 ·rename_i hc;rw[e9,e9]at hc;have:k'=.free:=eq_of_beq hc.1.1;subst this;injection e with e1 _
  subst e1;exact hm
 ·injection e with e1 e2
  subst e1 e2;rcases hk with z|z
  ·exact absurd z (hn _ hm)
  ·subst z;exact hm
def cK(X:Cx)(N:List Str)(scope:Scope)(cl:List (Str×Addr))(C:Addr)(fp:List Addr)(s:Shared)(H:Hp):Cx where
 prog:=X.prog
 w:=X.w
 K:=X.K
 mg:=X.mg
 base:=X.base
 A:=X.A
 N:=N
 s₀:=s
 H₀:=H
 env:=compEnvC scope cl C X.env
 outer:=X.stack
 stack:=X.stack
 ex:=fp
 fn:=λ_=>false
 calm:=X.calm
 pn:=[]
 xe:=λ_ _=>False
structure kU (sc:Scope) (XN N:List Str) (own:Nat) (fr:List Nat) (scope:Scope):Prop where
 kind:scope.kind=.function
 nocell:∀y∈scope.names,y.2≠.cell
 free:∀y∈scope.names,y.2=.free->sc.names.lookup y.1=some .cell\/sc.names.lookup y.1=some .free
 loc:∀y∈scope.names,y.2=.local->scope.names.lookup y.1=some .local
 names:N.drop own=fr.filterMap λi=>XN[i]?
 frl:∀i∈fr,i<XN.length
 len:own<=N.length
 vis:∀x∈N.drop own,scope.names.lookup x=some .free
def σf(fr:List Nat)(σ:St):St:=fr.map λi=>σ.getD i none
def σc(own:Nat)(fr:List Nat)(σ:St):St:=List.replicate own none++σf fr σ
section
variable{X:Cx}{Qx:List (Addr×Obj)}{σ:St}{H:Hp}{s:Shared}{N:List Str}{own:Nat}{fr:List Nat}{scope:Scope}
def DP{XN:List Str}:∀{fr:List Nat},(∀i∈fr,i<XN.length)->∀(j:Nat),(fr.filterMap λi=>XN[i]?)[j]?=(fr[j]?).bind λi=>XN[i]?
 |[],_,j=>by simp
 |i::r,h,j=>by
  have hi:i<XN.length:=h i h9;rw[ie,b6 hi];cases j with
  |zero=>simp[hi]
  |succ j=>simpa using DP (λk hk=>h k (fj _ hk)) j
def L7{cl:List (Str×Addr)}{fp:List Addr}{h':Heap}(I:ag X Qx σ H s)(S:kU X.env.scope X.N N own fr scope)(hcl:∀x c,cl.lookup x=some c->X.env.cells.lookup x=some c)
  (hcf:∀y∈scope.names,y.2=.free->∃c,cl.lookup y.1=some c) (hfp:∀b∈fp,fM X Qx H b) (hfo:∀b∈fp,∃o,s.heap.get? b=some o)
  (hns:h'.Ns s.heap.objs.size λ_=>none) (hk:∀b o,s.heap.get? b=some o->h'.get? b=some o):
  ag (cK X N scope cl s.heap.objs.size fp s H) [] (σc own fr σ) H {s with heap:=h'}:=by
 have kindE:∀x,(Env.kindOf (compEnvC scope cl s.heap.objs.size X.env) x)=(relabel scope X.env).names.lookup x:=λx=>rfl
 have memF:∀x,(Env.kindOf (compEnvC scope cl s.heap.objs.size X.env) x=some .cell\/Env.kindOf (compEnvC scope cl s.heap.objs.size X.env) x=some .free)->(x,NameKind.free)∈scope.names:=λx hx=>by
  rcases hx with z|z
  ·exact DD (env:=X.env) S.nocell (.inl rfl) z
  ·exact DD (env:=X.env) S.nocell (.inr rfl) z
 refine⟨⟨I.ok.mod,S.kind,I.ok.glob,I.ok.blt,ba _,λx y c h1 h2=>I.ok.inj x y c (hcl x c h1) (hcl y c h2),λx hx=>hcf (x,.free) (memF x hx) rfl,λx c h=>absurd (show false=true from h) (by decide),I.ok.hd,I.ok.frames,.inl rfl,λb hb=>?_,I.bs,bw I.ok.bsz I.sz,λb o e hb=>?_,λb hb z=>?_,I.stack,I.stkFree⟩,
  rfl,I.bare,Un.kept hk,⟨_,hns,λi x v e1 e2 e3=>?_⟩,λx c e=>?_,I.hok.fresh (ba _),λx c e=>I.freeC x c (hcl x c e),λp hp=>absurd (show p∈([]:List (Addr×Obj)) from hp) (by simp),I.hok.kept hk,?_⟩
 ·obtain⟨o,ho⟩:=hfo b hb;exact⟨cu (bj ho),λx c e=>(hfp b hb).2.2.2.2.1 x c (hcl x c e)⟩
 ·rcases (hfp b hb).2.2.2.1 with z|z
  ·exact I.ok.noex b o e z
  ·exact absurd (kh (bj (I.ok.bs b o e).1) z) (e_ _)
 ·rcases qh_.mp (I.stkSub b z) with q|q
  ·exact(hfp b hb).2.1 q
  ·exact(hfp b hb).2.2.1 q
 ·have hi:own<=i:=by
   rcases Nat.lt_or_ge i own with z|z
   ·have e2':(σc own fr σ)[i]?=some (some v):=e2;unfold σc at e2';rw[j9 (by simpa using z),mz]at e2';split at e2'<;>cases e2'
   ·exact z
  have e2':(σf fr σ)[i-own]?=some (some v):=by
   have e2':(σc own fr σ)[i]?=some (some v):=e2;unfold σc at e2';rw[j_ (by simpa using hi)]at e2';simpa using e2'
  have e1':(N.drop own)[i-own]?=some x:=by
   have e1':N[i]?=some x:=e1;rw[k_];rw[show own+(i-own)=i by omega];exact e1'
  have hv:scope.names.lookup x=some .free:=S.vis x (gq e1');have hx:X.env.scope.names.lookup x=some .cell\/X.env.scope.names.lookup x=some .free:=S.free (x,.free) (PySem.mem_of_lookup hv) rfl;rw[S.names,DP S.frl]at e1';unfold σf at e2';rw[fo]at e2';cases q:fr[i-own]? with
  |none=>rw[q]at e2';cases e2'
  |some j=>
   rw[q]at e1' e2';have e1'':X.N[j]?=some x:=e1';have e2'':σ.getD j none=some v:=Option.some.inj e2';have e3':σ[j]?=some (some v):=by
    rw[kg]at e2'';cases z:σ[j]? with
    |none=>rw[z]at e2'';cases e2''
    |some y=>rw[z]at e2'';exact congrArg some e2''
   obtain⟨m,hn,hl⟩:=I.loc;obtain⟨u,r,l⟩:=hl j x v e1'' e3' (.inr hx);refine⟨u,r,.inr ⟨DT (env:=X.env) hv,?_⟩⟩;rcases l with⟨k,_⟩|⟨_,c,hc,z⟩
   ·have k':X.env.scope.names.lookup x=some .local:=k;rw[k']at hx;rcases hx with z|z<;>cases z
   ·obtain⟨c',hc'⟩:=hcf (x,.free) (PySem.mem_of_lookup hv) rfl;have:=hcl x c' hc';rw[hc]at this;cases this;exact⟨c,hc',z.keeps hk⟩
 ·obtain⟨v,z⟩:=I.cell x c (hcl x c e);exact⟨v,z.keeps hk⟩
 ·show(σc own fr σ).length=N.length;unfold σc σf;have h1:=congrArg List.length S.names;have h2:(fr.filterMap λi=>X.N[i]?).length=fr.length:=by
   have:∀(l:List Nat),(∀i∈l,i<X.N.length)->(l.filterMap λi=>X.N[i]?).length=l.length:=by
    intro l
    induction l with
    |nil=>intro _;rfl
    |cons i r ih=>
     intro h;rw[ie,b6 (h i h9)];simp[ih λk hk=>h k (fj _ hk)]
   exact this fr S.frl
  rw[mx,h2]at h1;rw[b7,my,ak];have:=S.len;omega
end
section
variable{prog:Program}{w:World}{A:Around}{R:Result->Shared->Prop}{s:Shared}
def OJ{elt target iter:Expr}{ifs:List Expr}{scope:Scope}{pos:Pos}{it acc:Value}{env:Env}(I:Nat->Shared->Prop)
  (turn:∀n s,I n s->wpAny (model prog w) A (pyNext it) (λr s₁=>match r with
   |none=>R (.ok .next) s₁
   |some v=>wpAny (model prog w) A (letOwnedTupleGo target it v) (λ_ s'=>wpAny (model prog w) A (assign target env v) (λ_ s₂=>
     wpAny (model prog w) A (forIn ifs true λc r=>if r=true then do let ok <- isTrue c env (eval c env);pure (ForInStep.yield ok) else pure (ForInStep.yield r)) (λok s₃=>
      if ok=true then wpAny (model prog w) A (eval elt env) (λx s₄=>
       wpAny (model prog w) A (call (.builtin "list.append") [acc,x]) (λ_ s₅=>∃m,m<n/\I m s₅) (λ_ _=>False) s₄) (λ_ _=>False) s₃
      else ∃m,m<n/\I m s₃) (λ_ _=>False) s₂) (λ_ _=>False) s') (λ_ _=>False) s₁) (λ_ _=>False) s)
  (n:Nat) (h:I n s):codeAny (model prog w) A (.compLoop (.ListComp elt [⟨target,iter,ifs,0⟩] scope pos) 0 it acc env) R s:=by
 refine codeAny_loop rfl I (λn s hI=>?_) n h;show wpAny _ A ((compTurn (.ListComp elt [⟨target,iter,ifs,0⟩] scope pos) 0 it acc env).onRaise (λx=>do noteFrame x env;theTreesLotGoes x)) _ _ s;refine wpAny_noted ?_;rw[compTurn_list];refine af (wpAny_standAt (af (wpAny_mono (turn n s hI) (λr s₁ h₁=>?_) λ_ _ z=>False.elim z)));cases r with
 |none=>exact aj h₁
 |some v=>
  refine af (wpAny_mono h₁ (λ_ s' h'=>?_) λ_ _ z=>False.elim z);refine af (wpAny_mono h' (λ_ s₂ h₂=>af (wpAny_mono h₂ (λok s₃ h₃=>?_) λ_ _ z=>False.elim z)) λ_ _ z=>False.elim z);cases ok with
  |false=>exact aj ⟨rfl,h₃⟩
  |true=>
   exact af (af (wpAny_mono h₃ (λx s₄ h₄=>af (wpAny_mono h₄ (λ_ s₅ h₅=>aj (aj ⟨rfl,h₅⟩)) λ_ _ z=>False.elim z)) λ_ _ z=>False.elim z))
end
def Ab(J:It)(a:Addr)(own:Nat)(fr:List Nat)(g:TG)(tf:TT)(te:TE)(σ:St)(H1:Hp)(Q:VK):Prop:=
 ∃(n:Nat) (Pv:Nat->List V->Hp->Prop),Pv 0 [] (ar H1 a (.lst []))/\∀i ys H2,i<=n->H2 a=some (.lst ys)->Pv i ys H2 ->
  (J.stop i H2/\Q (.ref a) H2)\/(i<n/\J.go i H2/\∀x H3,J.yld i H2 x H3->g x (σc own fr σ) H3 λσ4 H4=>(∃ow,ow.length=own/\σ4=ow++σf fr σ)/\tf σ4 H4 λb H5=>
   if b=true then te σ4 H5 λy H6=>H6 a=some (.lst ys)/\ys.length<sizeLine/\Pv (i+1) (ys++[y]) (ar H6 a (.lst (ys++[y])))
   else H5 a=some (.lst ys)/\Pv (i+1) ys H5)
def u0(X:Cx)(ifs:List Expr)(t:TT):Prop:=
 ∀(Qx:List (Addr×Obj)) (s:Shared) (σ:St) (H:Hp) (Q:Bool->Hp->Prop),ag X Qx σ H s->t σ H Q ->
  wpAny (model X.prog X.w) X.A (forIn ifs true λc r=>if r=true then do let ok <- isTrue c X.env (eval c X.env);pure (ForInStep.yield ok) else pure (ForInStep.yield r)) (TP X Qx σ Q) X.xe s
def HG:TT:=λ_ H Q=>Q true H
def Jd{X:Cx}:u0 X [] HG:=λQx s σ H Q I h=>wpAny_tests_nil ⟨H,I,h⟩
def HW{X:Cx}{c:Expr}{t:TT}(h:PT X c t):u0 X [c] t:=λQx s σ H Q I hw=>wpAny_tests_one (h Qx s σ H Q I hw)
section
variable{X:Cx}{Qx:List (Addr×Obj)}{σ:St}{H:Hp}{s:Shared}{N:List Str}{own:Nat}{fr:List Nat}{scope:Scope}{cl:List (Str×Addr)}{elt tg iter:Expr}{ifs:List Expr}{pos:Pos}
 {it:Addr} {fp:List Addr} {tn:Nat->Heap->Prop} {J:It} {g:TG} {tf:TT} {te:TE} {Q:VK} {E:Value->Shared->Prop}
def D8{RR:Value->Addr->Result->Shared->Prop}(hc:X.calm=true)(S:kU X.env.scope X.N N own fr scope)(hcl:∀x c,cl.lookup x=some c->X.env.cells.lookup x=some c)
  (hcf:∀y∈scope.names,y.2=.free->∃c,cl.lookup y.1=some c)
  (hg:∀C s H,PG (cK X N scope cl C fp s H) tg g) (hf:∀C s H,u0 (cK X N scope cl C fp s H) ifs tf) (he:∀C s H,PE (cK X N scope cl C fp s H) elt te)
  (I:ag X Qx σ H s) (T:iW X.prog X.w X.K tg J fp it tn) (st:tn 0 s.heap) (hfp:∀b∈fp,fM X Qx H b) (hw:∀a,H a=none->Ab J a own fr g tf te σ H Q)
  (hRR:∀a C s' H',ag X Qx σ H' s'->Q (.ref a) H'->fM X Qx H' C->(∃m,s'.heap.Ns C m)->RR (.ref a) C (.ok .next) s'):
  wpAny (model X.prog X.w) X.A (newList []) (λacc s₃=>wpAny (model X.prog X.w) X.A (newFunctionEnv scope X.env.globals cl [] X.env.qual none .none (some X.env)) (λcenv s₄=>
   codeAny (model X.prog X.w) X.A (.compStart (.ListComp elt [⟨tg,iter,ifs,0⟩] scope pos) 0 (.ref it) acc {cenv with scope:=relabel scope X.env}) (RR acc cenv.locals) s₄) E s₃) E s:=by
 refine d8 (wpAny_newFunctionEnv S.nocell (by intro y hy;simp at hy) (λh₁ hns₁ hsb₁=>?_) S.kind);dsimp only at hns₁ hsb₁ ⊢;have I3:ag X Qx σ (ar H s.heap.objs.size (.lst [])) {s with heap:=s.heap.push {cls:=.type "list",dict:=none,data:=.seq ([]:List Value).toArray}}:=I.lnew (ys:=[]) (t':=s.toks) .nil (dq _);have hfo:∀b∈fp,∃o,s.heap.get? b=some o:=λb hb=>let ⟨o,ho,_⟩:=T.obj _ _ st b hb;⟨o,ho⟩
 have hlt:∀b∈fp,b<s.heap.objs.size:=λb hb=>let ⟨o,ho⟩:=hfo b hb;bj ho
 have fp3:∀b∈fp,fM X Qx (ar H s.heap.objs.size (.lst [])) b:=λb hb=>⟨by rw[bP (cu (hlt b hb))];exact(hfp b hb).1,(hfp b hb).2⟩
 obtain⟨n0,W,w0,turn⟩:=hw s.heap.objs.size I.fresh;generalize hs3:({s with heap:=s.heap.push {cls:=.type "list",dict:=none,data:=.seq ([]:List Value).toArray}}:Shared)=s3 at I3;have eh:s3.heap=s.heap.push {cls:=.type "list",dict:=none,data:=.seq ([]:List Value).toArray}:=by rw[<-hs3]
 rw[<-eh]at hns₁ hsb₁ ⊢;have hk:∀b o,s3.heap.get? b=some o->h₁.get? b=some o:=λb o e=>hsb₁.extBut b o (cu (bj e)) (bc _ e)
 have hk0:∀b o,s.heap.get? b=some o->s3.heap.get? b=some o:=λb o e=>by rw[eh];exact bc _ e
 have J0:ag (cK X N scope cl s3.heap.objs.size fp s3 (ar H s.heap.objs.size (.lst []))) [] (σc own fr σ) (ar H s.heap.objs.size (.lst [])) {s3 with heap:=h₁}:=
  L7 I3 S hcl hcf fp3 (λb hb=>let ⟨o,ho⟩:=hfo b hb;⟨o,hk0 b o ho⟩) hns₁ hk
 have st0:tn 0 h₁:=T.keep _ _ _ st λb _ o e=>hk b o (hk0 b o e)
 have stat:∀{H':Hp},(∀b∈fp,H' b=none)->∀b∈fp,fM (cK X N scope cl s3.heap.objs.size fp s3 (ar H s.heap.objs.size (.lst []))) [] H' b:=λhn b hb=>
  ⟨hn b hb,(J0.ok.exf b hb).1,J0.ok.exfs b hb,.inl hb,(J0.ok.exf b hb).2,λp hp=>absurd (show p∈([]:List (Addr×Obj)) from hp) (by simp)⟩
 have loop:∀s4:Shared,s4={s3 with heap:=h₁}->codeAny (model X.prog X.w) X.A (.compLoop (.ListComp elt [⟨tg,iter,ifs,0⟩] scope pos) 0 (.ref it) (.ref s.heap.objs.size) (compEnvC scope cl s3.heap.objs.size X.env))
   (RR (.ref s.heap.objs.size) s3.heap.objs.size) s4:=by
  rintro s4 rfl;refine OJ (λn s'=>∃i ow H' ys,ag (cK X N scope cl s3.heap.objs.size fp s3 (ar H s.heap.objs.size (.lst []))) [] (ow++σf fr σ) H' s'/\ow.length=own/\tn i s'.heap/\(∀b∈fp,H' b=none)/\H' s.heap.objs.size=some (.lst ys)/\(n=n0-i/\i<=n0)/\W i ys H') ?_ n0
   ⟨0,List.replicate own none,_,[],J0,by simp,st0,λb hb=>(fp3 b hb).1,bE,⟨rfl,dq _⟩,w0⟩
  rintro n s5 ⟨i,ow,H5,ys,I5,hlo,st5,fr5,ha5,⟨rfl,hi5⟩,w5⟩;rcases turn i ys H5 hi5 ha5 w5 with⟨stop,qn⟩|⟨hin,go,step⟩
  ·refine bf (T.done (cK X N scope cl s3.heap.objs.size fp s3 (ar H s.heap.objs.size (.lst []))) rfl rfl rfl hc i [] s5 _ H5 (λ_ _=>False) I5 (stat fr5) st5 stop) λr s6 ⟨hr,I6⟩=>?_
   subst hr;have IX:ag X Qx σ H5 s6:=I3.call' I6.os I6.base I6.hok I6.bare λb hb=>let ⟨_,f2,_,f4,f5,f6⟩:=fp3 b hb;⟨f4,f2,f5,f6⟩
   refine hRR _ _ s6 H5 IX qn (I3.fpOk (ba _) I6.free) ?_;obtain⟨m,hn,_⟩:=I6.loc;exact⟨m,hn⟩
  ·refine bf (T.item (cK X N scope cl s3.heap.objs.size fp s3 (ar H s.heap.objs.size (.lst []))) rfl rfl rfl hc i [] s5 _ H5 (λ_ _=>False) I5 (stat fr5) st5 go) λr s6 ⟨u,hr,h6⟩=>?_
   subst hr;refine bf h6 λ_ s7 ⟨x,H7,I7,r7,y7,st7,fr7⟩=>?_
   have I7':=(I7.pinned (stat fr7) (T.obj _ _ st7)).weak (σ':=σc own fr σ) (by unfold σc;simp[hlo]) (λj v e=>by
    unfold σc at e;rcases Nat.lt_or_ge j own with z|z
    ·rw[j9 (by simpa using z),mz]at e;split at e<;>cases e
    ·rw[j_ (by simpa using z)]at e;rw[j_ (by rw[hlo];exact z),hlo];simpa using e)
   refine bf (hg _ _ _ _ s7 _ H7 x u _ I7' r7 (step x H7 y7)) λ_ s8 ⟨σ8,H8,I8,⟨ow8,hl8,e8⟩,q8⟩=>?_
   refine bf (hf _ _ _ _ s8 _ H8 _ I8 q8) λok s9 ⟨H9,I9,q9⟩=>?_
   have again:∀{H':Hp} {s':Shared},ag (cK X N scope cl s3.heap.objs.size fp s3 (ar H s.heap.objs.size (.lst []))) ([]++pE fp s7.heap) σ8 H' s'->∀{ys':List V},H' s.heap.objs.size=some (.lst ys')->W (i+1) ys' H' ->
     ∃m,m<n0-i/\∃i ow H' ys,ag (cK X N scope cl s3.heap.objs.size fp s3 (ar H s.heap.objs.size (.lst []))) [] (ow++σf fr σ) H' s'/\ow.length=own/\tn i s'.heap/\(∀b∈fp,H' b=none)/\H' s.heap.objs.size=some (.lst ys)/\(m=n0-i/\i<=n0)/\W i ys H':=λ{H' s'} I' {ys'} ha hw'=>by
    refine⟨n0-(i+1),by omega,i+1,ow8,H',ys',e8▸I'.unpinned,hl8,T.keep _ _ _ st7 λb hb o e=>(I'.pin (b,o) (fe _ (fe _ (qT hb e)))).1,λb hb=>?_,ha,⟨rfl,hin⟩,hw'⟩;obtain⟨o,e,_⟩:=T.obj _ _ st7 b hb;exact(I'.pin (b,o) (fe _ (fe _ (qT hb e)))).2.1
   cases ok with
   |false=>
    have q9':H9 s.heap.objs.size=some (.lst ys)/\W (i+1) ys H9:=by simpa using q9
    obtain⟨ha,hw'⟩:=q9';show if false=true then _ else _
    rw[if_neg (by decide)];exact again I9 ha hw'
   |true=>
    rw[if_pos rfl]at q9;show if true=true then _ else _
    rw[if_pos rfl];refine bf (he _ _ _ _ s9 _ H9 _ I9 q9) λy s10 ⟨v10,H10,I10,r10,ha10,hz10,hw'⟩=>?_
    refine bf (vN _ s10 _ H10 (.ref s.heap.objs.size) [v10] (.ref s.heap.objs.size) [y] (λ_ H'=>H'=ar H10 s.heap.objs.size (.lst (ys++[v10]))) I10 rfl (.cons r10 .nil) ⟨_,ys,v10,rfl,rfl,ha10,hz10,rfl⟩) λ_ s11 ⟨_,H11,I11,_,e11⟩=>?_
    subst e11;exact again I11 bE hw'
 exact codeAny_compStart_list (loop _ (by rw[<-hs3];rfl)) (T.self X.A 0 _ _ _ st0 (loop _ (by rw[<-hs3];rfl)))
end
def yL(own:Nat)(fr:List Nat)(wi:TI)(g:TG)(tf:TT)(te:TE):TE:=λσ H Q=>wi σ H λJ H1=>∀a,H1 a=none->Ab J a own fr g tf te σ H1 Q
section
variable{X:Cx}{sc:Scope}{XN N:List Str}{own:Nat}{fr:List Nat}{scope:Scope}{elt tg iter:Expr}{ifs:List Expr}{pos:Pos}{wi:TI}{g:TG}{tf:TT}{te:TE}
def K2(hc:X.calm=true)(S:kU sc XN N own fr scope)(hi:PI X tg iter wi)
  (hg:∀cl C fp s H,PG (cK X N scope cl C fp s H) tg g) (hf:∀cl C fp s H,u0 (cK X N scope cl C fp s H) ifs tf) (he:∀cl C fp s H,PE (cK X N scope cl C fp s H) elt te)
  (hs:∀x,foldedSetIterable iter X.env x=pure x:=by intro _;rfl) (hsc:X.env.scope=sc:=by rfl) (hxn:X.N=XN:=by rfl):PE X (.ListComp elt [⟨tg,iter,ifs,0⟩] scope pos) (yL own fr wi g tf te):=by
 subst hsc hxn;intro Qx s σ H Q I h;obtain⟨cl,c1,c2,c3⟩:=D7 (scope:=scope) (env:=X.env) λy hy e=>I.ok.has y.1 (S.free y hy e)
 rw[eval_ListComp];refine wpAny_comprehension_free (use:=none) rfl hs c1 S.kind S.loc (bf (hi Qx s σ H _ I h) λxv s1 h1=>bf h1 λitv s2 h2=>?_);obtain⟨it,fp,tn,J,H2,e,I2,T,st2,f2,hw⟩:=h2;subst e;refine D8 hc S c2 c3 (λC s H=>hg cl C fp s H) (λC s H=>hf cl C fp s H) (λC s H=>he cl C fp s H) I2 T st2 f2 hw λa C s' H' I' q fC ⟨m,hn⟩=>?_
 refine⟨m,hn,λh' hs'=>?_⟩;obtain⟨f0,f1,_,f3,f4,f5⟩:=fC;exact⟨.ref a,H',I'.turned (t':=s'.toks) (λb o hb e=>hs'.extBut b o hb e) f0 f1 f3 f4 f5,rfl,q⟩
def B9{i:Nat}{x:Str}{pos' spos:Pos}(hc:X.calm=true)(hN:X.N.Nodup)(hx:X.N[i]?=some x)(hl:ma X.env.scope x)(S:kU sc XN N own fr scope)(hi:PI X tg iter wi)
  (hg:∀cl C fp s H,PG (cK X N scope cl C fp s H) tg g) (hf:∀cl C fp s H,u0 (cK X N scope cl C fp s H) ifs tf) (he:∀cl C fp s H,PE (cK X N scope cl C fp s H) elt te)
  (hsw:swapsWith (.ListComp elt [⟨tg,iter,ifs,0⟩] scope pos) (some (.Name x pos')) spos.line X.env=pure true:=by rfl)
  (hf':X.fn x=true\/X.env.scope.names.lookup x=some .local:=by first|exact .inl rfl|exact .inr rfl|assumption)
  (hs:∀x,foldedSetIterable iter X.env x=pure x:=by intro _;rfl) (hsc:X.env.scope=sc:=by rfl) (hxn:X.N=XN:=by rfl):PS X (.Assign [.Name x pos'] (.ListComp elt [⟨tg,iter,ifs,0⟩] scope pos) spos) (tN (yL own fr wi g tf te) (tJ i)):=by
 subst hsc hxn;intro Qx s σ H D I h;obtain⟨cl,c1,c2,c3⟩:=D7 (scope:=scope) (env:=X.env) λy hy e=>I.ok.has y.1 (S.free y hy e)
 rw[exec_Assign_Name_used _ _ _ _ hsw];refine af (wpAny_standAt (af ?_));show wpAny _ X.A (do let _ <- comprehension (.ListComp elt [⟨tg,iter,ifs,0⟩] scope pos) scope X.env _ (newList []) false (eval iter X.env) (some (assign (.Name x pos') X.env))) _ _ s;refine af (wpAny_mono (wpAny_comprehension_free (use:=some (assign (.Name x pos') X.env)) (Q:=λ_ s'=>SP X Qx D .next s') rfl hs c1 S.kind S.loc
  (bf (hi Qx s σ H _ I h) λxv s1 h1=>bf h1 λitv s2 h2=>?_)) (λ_ s' hq=>aj (aj hq)) λ_ _ e=>e)
 obtain⟨it,fp,tn,J,H2,e,I2,T,st2,f2,hw⟩:=h2;subst e;refine D8 hc S c2 c3 (λC s H=>hg cl C fp s H) (λC s H=>hf cl C fp s H) (λC s H=>he cl C fp s H) I2 T st2 f2 hw λa C s' H' I' q fC ⟨m,hn⟩=>?_
 obtain⟨f0,f1,f2',f3,f4,f5⟩:=fC;show wpAny _ _ (assign (.Name x pos') X.env (.ref a)) _ _ _;refine wpAny_assign_Name (Eu I' hN hx hl (show ah (.ref a) (.ref a) from rfl) (λs2 J2 ⟨b,hb,hb'⟩=>?_) hf');have hbC:C≠b:=by
  rcases hb' with z|z
  ·rw[z];exact f1
  ·exact λe=>f4 _ _ z e.symm
 refine⟨m,hn.sameBut hb hbC,λh' hs'=>?_⟩;exact⟨_,H',J2.turned (t':=s2.toks) (λb o hb e=>hs'.extBut b o hb e) f0 f1 f3 f4 f5,q⟩
end
section
variable{X:Cx}
def rj(K:W.Frag)(T:String)(x:V)(H:Hp)(b:Bool):Prop:=match x with
 |.non=>b=false
 |.bl _=>b=(T=="bool" || T=="int")
 |.int _=>b=(T=="int")
 |.str _=>b=(T=="str")
 |.ref a=>(∃xs,bu K H a xs/\b=(T=="list"))\/(∃xs,cq K H a xs/\b=(T=="tuple"))\/(∃kvs,Rd H a (.dK kvs)/\b=(T=="dict"))
 |_=>False
def mJ{prog:Program}{w:World}{A:Around}{E:Value->Shared->Prop}{s:Shared}{Q:Value->Shared->Prop}{T:String}(hne:(Value.type "NoneType"==Value.type T)=false)(hty:typeOf (.type T)=pure (.type "type"))
  (hsub:isSubtype (.type "NoneType") (.type T)=pure false) (h:Q (.bool false) {s with toks:=s.toks+1}):wpAny (model prog w) A (call (.builtin "isinstance") [.none,.type T]) Q E s:=
 call_isinstance (S:=λ_ R s=>R (.ok (.ret (.bool false))) {s with toks:=s.toks+1}) (λ_ _ _ _ s hs=>by
  obtain⟨h,g,d,t,os⟩:=s;exact isinstance_outer (isinstance_nested_false_none hne hty hsub hs)) h
def ag.lcls{Qx:List (Addr×Obj)}{σ:St}{H:Hp}{s:Shared}{a:Addr}{xs:List V}(I:ag X Qx σ H s)(h:bu X.K H a xs):∃o,s.heap.get? a=some o/\o.cls=.type "list":=by
 obtain⟨its,r,pl,hz⟩:=I.list h;obtain⟨o,ho,hc,_⟩:=pl.isList;exact⟨o,ho,hc⟩
def ag.tcls{Qx:List (Addr×Obj)}{σ:St}{H:Hp}{s:Shared}{a:Addr}{xs:List V}(I:ag X Qx σ H s)(h:cq X.K H a xs):∃o,s.heap.get? a=some o/\o.cls=.type "tuple":=by
 obtain⟨its,r,⟨o,ho,hc,_⟩,hz⟩:=I.tuple h;exact⟨o,ho,hc⟩
def ag.dcls{Qx:List (Addr×Obj)}{σ:St}{H:Hp}{s:Shared}{a:Addr}{kvs:List (av×V)}(I:ag X Qx σ H s)(h:Rd H a (.dK kvs)):∃o,s.heap.get? a=some o/\o.cls=.type "dict":=by
 obtain⟨_,_,vs,_,dd⟩:=h.ok I.hok;obtain⟨o,ho,hc⟩:=dd.typeIs;exact⟨o,ho,hc⟩
theorem kR:aq X (.builtin "isinstance") (λxs H Q=>∃x b,xs=[x,.ty "int"]/\rj X.K "int" x H b/\Q (.bl b) H):=by
 intro Qx s σ H xs us Q I r h;obtain⟨x,b,rfl,hx,q⟩:=h;obtain⟨u,w',rfl,rx,ry⟩:=jN r;cases ry;cases x with
 |non=>cases rx;cases hx;exact mJ (by decide +kernel) F.isi_meta_int F.sub_NoneType_int ⟨.bl _,H,I.tok _,rfl,q⟩
 |bl k=>cases rx;cases hx;exact IsiPair.bool_int ⟨.bl _,H,I,rfl,q⟩
 |int i=>obtain⟨t,rfl⟩:=rx;cases hx;exact IsiPair.int_int ⟨.bl _,H,I,rfl,q⟩
 |str i=>obtain⟨t,rfl⟩:=rx;cases hx;exact IsiPair.str_int ⟨.bl _,H,I.tok _,rfl,q⟩
 |ref a=>
  cases rx;rcases hx with⟨xs,hx,rfl⟩|⟨xs,hx,rfl⟩|⟨xs,hx,rfl⟩
  ·obtain⟨o,ho,hc⟩:=I.lcls hx;exact IsiPair.list_int ho hc ⟨.bl _,H,I.tok _,rfl,q⟩
  ·obtain⟨o,ho,hc⟩:=I.tcls hx;exact IsiPair.tuple_int ho hc ⟨.bl _,H,I.tok _,rfl,q⟩
  ·obtain⟨o,ho,hc⟩:=I.dcls hx;exact IsiPair.dict_int ho hc ⟨.bl _,H,I.tok _,rfl,q⟩
 |_=>exact False.elim hx
theorem jX:aq X (.builtin "isinstance") (λxs H Q=>∃x b,xs=[x,.ty "bool"]/\rj X.K "bool" x H b/\Q (.bl b) H):=by
 intro Qx s σ H xs us Q I r h;obtain⟨x,b,rfl,hx,q⟩:=h;obtain⟨u,w',rfl,rx,ry⟩:=jN r;cases ry;cases x with
 |non=>cases rx;cases hx;exact mJ (by decide +kernel) F.isi_meta_bool F.sub_NoneType_bool ⟨.bl _,H,I.tok _,rfl,q⟩
 |bl k=>cases rx;cases hx;exact IsiPair.bool_bool ⟨.bl _,H,I,rfl,q⟩
 |int i=>obtain⟨t,rfl⟩:=rx;cases hx;exact IsiPair.int_bool ⟨.bl _,H,I.tok _,rfl,q⟩
 |str i=>obtain⟨t,rfl⟩:=rx;cases hx;exact IsiPair.str_bool ⟨.bl _,H,I.tok _,rfl,q⟩
 |ref a=>
  cases rx;rcases hx with⟨xs,hx,rfl⟩|⟨xs,hx,rfl⟩|⟨xs,hx,rfl⟩
  ·obtain⟨o,ho,hc⟩:=I.lcls hx;exact IsiPair.list_bool ho hc ⟨.bl _,H,I.tok _,rfl,q⟩
  ·obtain⟨o,ho,hc⟩:=I.tcls hx;exact IsiPair.tuple_bool ho hc ⟨.bl _,H,I.tok _,rfl,q⟩
  ·obtain⟨o,ho,hc⟩:=I.dcls hx;exact IsiPair.dict_bool ho hc ⟨.bl _,H,I.tok _,rfl,q⟩
 |_=>exact False.elim hx
theorem mC:aq X (.builtin "isinstance") (λxs H Q=>∃x b,xs=[x,.ty "str"]/\rj X.K "str" x H b/\Q (.bl b) H):=by
 intro Qx s σ H xs us Q I r h;obtain⟨x,b,rfl,hx,q⟩:=h;obtain⟨u,w',rfl,rx,ry⟩:=jN r;cases ry;cases x with
 |non=>cases rx;cases hx;exact mJ (by decide +kernel) F.isi_meta_str F.sub_NoneType_str ⟨.bl _,H,I.tok _,rfl,q⟩
 |bl k=>cases rx;cases hx;exact IsiPair.bool_str ⟨.bl _,H,I.tok _,rfl,q⟩
 |int i=>obtain⟨t,rfl⟩:=rx;cases hx;exact IsiPair.int_str ⟨.bl _,H,I.tok _,rfl,q⟩
 |str i=>obtain⟨t,rfl⟩:=rx;cases hx;exact IsiPair.str_str ⟨.bl _,H,I,rfl,q⟩
 |ref a=>
  cases rx;rcases hx with⟨xs,hx,rfl⟩|⟨xs,hx,rfl⟩|⟨xs,hx,rfl⟩
  ·obtain⟨o,ho,hc⟩:=I.lcls hx;exact IsiPair.list_str ho hc ⟨.bl _,H,I.tok _,rfl,q⟩
  ·obtain⟨o,ho,hc⟩:=I.tcls hx;exact IsiPair.tuple_str ho hc ⟨.bl _,H,I.tok _,rfl,q⟩
  ·obtain⟨o,ho,hc⟩:=I.dcls hx;exact IsiPair.dict_str ho hc ⟨.bl _,H,I.tok _,rfl,q⟩
 |_=>exact False.elim hx
theorem nX:aq X (.builtin "isinstance") (λxs H Q=>∃x b,xs=[x,.ty "list"]/\rj X.K "list" x H b/\Q (.bl b) H):=by
 intro Qx s σ H xs us Q I r h;obtain⟨x,b,rfl,hx,q⟩:=h;obtain⟨u,w',rfl,rx,ry⟩:=jN r;cases ry;cases x with
 |non=>cases rx;cases hx;exact mJ (by decide +kernel) F.isi_meta_list F.sub_NoneType_list ⟨.bl _,H,I.tok _,rfl,q⟩
 |bl k=>cases rx;cases hx;exact IsiPair.bool_list ⟨.bl _,H,I.tok _,rfl,q⟩
 |int i=>obtain⟨t,rfl⟩:=rx;cases hx;exact IsiPair.int_list ⟨.bl _,H,I.tok _,rfl,q⟩
 |str i=>obtain⟨t,rfl⟩:=rx;cases hx;exact IsiPair.str_list ⟨.bl _,H,I.tok _,rfl,q⟩
 |ref a=>
  cases rx;rcases hx with⟨xs,hx,rfl⟩|⟨xs,hx,rfl⟩|⟨xs,hx,rfl⟩
  ·obtain⟨o,ho,hc⟩:=I.lcls hx;exact IsiPair.list_list ho hc ⟨.bl _,H,I,rfl,q⟩
  ·obtain⟨o,ho,hc⟩:=I.tcls hx;exact IsiPair.tuple_list ho hc ⟨.bl _,H,I.tok _,rfl,q⟩
  ·obtain⟨o,ho,hc⟩:=I.dcls hx;exact IsiPair.dict_list ho hc ⟨.bl _,H,I.tok _,rfl,q⟩
 |_=>exact False.elim hx
theorem uS:aq X (.builtin "isinstance") (λxs H Q=>∃x b,xs=[x,.ty "tuple"]/\rj X.K "tuple" x H b/\Q (.bl b) H):=by
 intro Qx s σ H xs us Q I r h;obtain⟨x,b,rfl,hx,q⟩:=h;obtain⟨u,w',rfl,rx,ry⟩:=jN r;cases ry;cases x with
 |non=>cases rx;cases hx;exact mJ (by decide +kernel) F.isi_meta_tuple F.sub_NoneType_tuple ⟨.bl _,H,I.tok _,rfl,q⟩
 |bl k=>cases rx;cases hx;exact IsiPair.bool_tuple ⟨.bl _,H,I.tok _,rfl,q⟩
 |int i=>obtain⟨t,rfl⟩:=rx;cases hx;exact IsiPair.int_tuple ⟨.bl _,H,I.tok _,rfl,q⟩
 |str i=>obtain⟨t,rfl⟩:=rx;cases hx;exact IsiPair.str_tuple ⟨.bl _,H,I.tok _,rfl,q⟩
 |ref a=>
  cases rx;rcases hx with⟨xs,hx,rfl⟩|⟨xs,hx,rfl⟩|⟨xs,hx,rfl⟩
  ·obtain⟨o,ho,hc⟩:=I.lcls hx;exact IsiPair.list_tuple ho hc ⟨.bl _,H,I.tok _,rfl,q⟩
  ·obtain⟨o,ho,hc⟩:=I.tcls hx;exact IsiPair.tuple_tuple ho hc ⟨.bl _,H,I,rfl,q⟩
  ·obtain⟨o,ho,hc⟩:=I.dcls hx;exact IsiPair.dict_tuple ho hc ⟨.bl _,H,I.tok _,rfl,q⟩
 |_=>exact False.elim hx
theorem lZ:aq X (.builtin "isinstance") (λxs H Q=>∃x b,xs=[x,.ty "dict"]/\rj X.K "dict" x H b/\Q (.bl b) H):=by
 intro Qx s σ H xs us Q I r h;obtain⟨x,b,rfl,hx,q⟩:=h;obtain⟨u,w',rfl,rx,ry⟩:=jN r;cases ry;cases x with
 |non=>cases rx;cases hx;exact mJ (by decide +kernel) F.isi_meta_dict F.sub_NoneType_dict ⟨.bl _,H,I.tok _,rfl,q⟩
 |bl k=>cases rx;cases hx;exact IsiPair.bool_dict ⟨.bl _,H,I.tok _,rfl,q⟩
 |int i=>obtain⟨t,rfl⟩:=rx;cases hx;exact IsiPair.int_dict ⟨.bl _,H,I.tok _,rfl,q⟩
 |str i=>obtain⟨t,rfl⟩:=rx;cases hx;exact IsiPair.str_dict ⟨.bl _,H,I.tok _,rfl,q⟩
 |ref a=>
  cases rx;rcases hx with⟨xs,hx,rfl⟩|⟨xs,hx,rfl⟩|⟨xs,hx,rfl⟩
  ·obtain⟨o,ho,hc⟩:=I.lcls hx;exact IsiPair.list_dict ho hc ⟨.bl _,H,I.tok _,rfl,q⟩
  ·obtain⟨o,ho,hc⟩:=I.tcls hx;exact IsiPair.tuple_dict ho hc ⟨.bl _,H,I.tok _,rfl,q⟩
  ·obtain⟨o,ho,hc⟩:=I.dcls hx;exact IsiPair.dict_dict ho hc ⟨.bl _,H,I,rfl,q⟩
 |_=>exact False.elim hx
theorem Nf(hc:X.calm=true):aq X (.builtin "sum") (λxs H Q=>∃(p:Addr) (ns:List Int),xs=[.ref p]/\bu X.K H p (ns.map V.int)/\Q (.int ns.sum) H):=by
 intro Qx s σ H xs us Q I r h;obtain⟨p,ns,rfl,hq,q⟩:=h;obtain⟨u,rfl,rx⟩:=cN r;cases rx;obtain⟨its,rv,pl,hz⟩:=I.list hq;have hi:IntsAre its ns:=nY rv;have hall:=hi.allInts;have e0:=hi.numsOf;obtain⟨xs,ex⟩:=hall.items;have e1:numsOf (intItems xs).toList=ns:=by rw[<-ex];exact e0
 rw[nums_intItems]at e1;have hl:=pl.isList;rw[ex]at hl;refine sum_intListG (I.ok.hd hc) hl λh' tk t' hk=>⟨.int ns.sum,H,I.kept hk,⟨t',?_⟩,q⟩
 rw[preSum_eq,oh (by simp),e1]
theorem O5{prog:Program}{w:World}{A:Around}{bs:List Bool}{its:List Value}(rv:ai (bs.map V.bl) its):TruthOf prog w A (λi v=>its.toArray[i]?=some v) λi=>bs.getD i false:=by
 intro i v s Q E hP hQ;have hi:its[i]?=some v:=by simpa using hP
 have hl:=rv.length;rw[ak]at hl;have hlt:i<bs.length:=by rw[hl];exact(qx_.mp hi).1
 obtain⟨u,hu,ru⟩:=rv.get (i:=i) (x:=V.bl (bs.getD i false)) (by rw[fo,kg,b6 hlt];rfl);rw[hi]at hu;cases hu;cases ru;exact wpAny_truthy_bool hQ
def MV(bs:List Bool):(List.range bs.length).any (λi=>bs.getD i false)=bs.any id:=by
 induction bs with
 |nil=>rfl
 |cons b r ih=>
  rw[g6,og,ju,ju,List.any_map];rw[<-ih];rfl
theorem M9(hc:X.calm=true):aq X (.builtin "any") (λxs H Q=>∃(p:Addr) (bs:List Bool),xs=[.ref p]/\bu X.K H p (bs.map V.bl)/\Q (.bl (bs.any id)) H):=by
 intro Qx s σ H xs us Q I r h;obtain⟨p,bs,rfl,hq,q⟩:=h;obtain⟨u,rfl,rx⟩:=cN r;cases rx;obtain⟨its,rv,pl,hz⟩:=I.list hq;have hlt:p<s.heap.objs.size:=by obtain⟨_,e,_⟩:=pl.isList;exact bj e
 have hll:=rv.length;rw[ak]at hll;refine call_any_walk (wpAny_pyIter_list pl.isList ?_);refine⟨s.heap.objs.size,_,_,_,_,_,λi=>bs.getD i false,rfl,Walks.list (A:=X.A.in1) (I.ok.hd hc) _ p (cu hlt) its.toArray,⟨⟨_,cf _ rfl,rfl,rfl⟩,pl.isList.at λo e=>bc _ e⟩,O5 rv,λh' tk hk=>?_⟩;refine⟨.bl (bs.any id),H,I.kept λb o e=>hk b o (by simpa using cu (bj e)) (bc _ e),?_,q⟩;show Value.bool _=Value.bool _;rw[ck,<-hll,MV]
def gK:List V->List V->Bool
 |[],[]=>true
 |x::xs,y::ys=>cz x y&&gK xs ys
 |_,_=>false
def BO:∀{xs ys:List V},xs.length≠ys.length->gK xs ys=false
 |[],[],h=>absurd rfl h
 |[],_::_,_=>rfl
 |_::_,[],_=>rfl
 |x::xs,y::ys,h=>by
  have:=BO (xs:=xs) (ys:=ys) (λe=>h (by simp[e]));simp[gK,this]
def D9:∀{xs ys:List V},xs.length=ys.length->(List.range xs.length).all (λi=>cz (xs.getD i .non) (ys.getD i .non))=gK xs ys
 |[],[],_=>rfl
 |[],_::_,h=>by simp at h
 |_::_,[],h=>by simp at h
 |x::xs,y::ys,h=>by
  have ih:=D9 (xs:=xs) (ys:=ys) (by simpa using h);rw[g6,og,List.all_cons,qq];show(cz x y&&(List.range xs.length).all λi=>cz (xs.getD i .non) (ys.getD i .non))=(cz x y&&gK xs ys);rw[ih]
def KL{A:Around}{s:Shared}{xs ys:List V}{us ws:List Value}(r:ai xs us)(r':ai ys ws)(fx:xs.all dO=true)(fy:ys.all dO=true)(j:Nat)(h1:j<us.toArray.size)(h2:j<ws.toArray.size):
  SeqAt.EqAt A s us.toArray[j] ws.toArray[j] (cz (xs.getD j .non) (ys.getD j .non)):=by
 have l1:=r.length;have l2:=r'.length;have k1:j<xs.length:=by rw[l1];simpa using h1
 have k2:j<ys.length:=by rw[l2];simpa using h2
 obtain⟨u,hu,ru⟩:=r.get (i:=j) (x:=xs.getD j .non) (by rw[kg,b6 k1];rfl);obtain⟨w',hw,rw'⟩:=r'.get (i:=j) (x:=ys.getD j .non) (by rw[kg,b6 k2];rfl);have e1:us.toArray[j]=u:=by
  obtain⟨_,e⟩:=qx_.mp hu;simpa using e
 have e2:ws.toArray[j]=w':=by
  obtain⟨_,e⟩:=qx_.mp hw;simpa using e
 rw[e1,e2];refine A4 ru rw' (qp1_.mp fx _ ?_) (qp1_.mp fy _ ?_)
 ·rw[kg,b6 k1];exact ja k1
 ·rw[kg,b6 k2];exact ja k2
def Gh(K:W.Frag)(neg:Bool):R2:=λx y H Q=>∃p q xs ys,x=.ref p/\y=.ref q/\bu K H p xs/\bu K H q ys/\xs.all dO=true/\ys.all dO=true/\Q (.bl (if neg then !gK xs ys else gK xs ys)) H
def II(hu:X.A.units<cLine):cm X (compareOp .Eq) (Gh X.K false):=by
 intro Qx s σ H x y v u Q I rx ry h;obtain⟨p,q,xs,ys,rfl,rfl,hx,hy,fx,fy,k⟩:=h;cases rx;cases ry;obtain⟨us,r1,p1,z1⟩:=I.list hx;obtain⟨ws,r2,p2,z2⟩:=I.list hy;by_cases hl:xs.length=ys.length
 ·refine SeqAt.eq_listAt p1.isList p2.isList (by simp[<-r1.length,<-r2.length,hl]) hu (λj h1 h2=>KL r1 r2 fx fy j h1 h2) ⟨.bl (gK xs ys),H,I,?_,k⟩;show Value.bool _=Value.bool _;rw[ck,<-r1.length,D9 hl]
 ·refine SeqAt.eq_list_lengthsAt p1.isList p2.isList (by simp[<-r1.length,<-r2.length,hl]) hu ⟨.bl (gK xs ys),H,I,?_,k⟩;rw[BO hl];rfl
def LP(n:Nat):sliceRange (sliceBounds none none (some (-1)) n).1 (sliceBounds none none (some (-1)) n).2.1 (sliceBounds none none (some (-1)) n).2.2=(List.range n).map λk=>n-1-k:=by
 have e:sliceBounds none none (some (-1)) n=((n:Int)-1,-1,-1):=by simp[sliceBounds]
 rw[e];unfold sliceRange;simp only[show ¬ ((-1:Int) > 0) by decide,if_false];by_cases hn:n=0
 ·subst hn;simp
 ·have h1:(n:Int)-1 > -1:=by omega
  rw[if_pos h1];have h2:(((n:Int)-1 - -1 - -1-1) / (- -1)).toNat=n:=by
   rw[show(n:Int)-1 - -1 - -1-1=n by omega,show(- -1:Int)=1 by decide,Int.ediv_one];exact sj n
  rw[h2];refine mw λk hk=>?_
  have:=qz1_.mp hk;omega
def BS{α β:Type}{f g:α->Option β}:∀{l:List α},(∀x∈l,f x=g x)->l.filterMap f=l.filterMap g
 |[],_=>rfl
 |x::r,h=>by rw[ie,ie,h x h9,BS λy hy=>h y (fj _ hy)]
def Ep{α:Type}:∀zs:List α,(List.range zs.length).filterMap (λk=>zs.reverse[zs.length-1-k]?)=zs
 |[]=>rfl
 |z::r=>by
  rw[g6,og,ie,oo];have h0:(z::r).reverse[r.length+1-1-0]?=some z:=by simp
  rw[h0];have h1:List.filterMap ((λk=>(z::r).reverse[r.length+1-1-k]?)∘Nat.succ) (List.range r.length)=List.filterMap (λk=>r.reverse[r.length-1-k]?) (List.range r.length):=by
   apply BS;intro k hk;have hk:=qz1_.mp hk;show(z::r).reverse[r.length+1-1-(k+1)]?=r.reverse[r.length-1-k]?;rw[om,j9 (by simp;omega)];rw[show r.length+1-1-(k+1)=r.length-1-k by omega]
  rw[h1,Ep r]
def LC{α:Type}(xs:List α):((List.range xs.length).map λk=>xs.length-1-k).filterMap (λi=>xs[i]?)=xs.reverse:=by
 have:=Ep xs.reverse;rw[gn,List.reverse_reverse]at this;rw[oo];exact this
def OW(its:List Value):slicePick its.toArray none none (some (-1))=its.reverse.toArray:=by
 unfold slicePick;rw[ck,LP];congr 1;have:=LC its;simpa using this
def FL(K:W.Frag)(te tst:TE):TE:=λσ H Q=>te σ H λx H1=>tst σ H1 λy H2=>y=.int (-1)/\∃p xs,x=.ref p/\bu K H2 p xs/\∀l,H2 l=none->Q (.ref l) (ar H2 l (.lst xs.reverse))
def Ja{e st:Expr}{te tst:TE}{pos p2:Pos}(he:PE X e te)(hst:PE X st tst)(ht:∀o r,letTemporaryGo e o r=pure ():=by intro _ _;rfl):PE X (.Subscript e (.Slice none none (some st) p2) pos) (FL X.K te tst):=by
 intro Qx s σ H Q I h;refine wpAny_Subscript_Slice_step (T:="list") slot_list_getitem.lookup (bf (he Qx s σ H _ I h) λv s1 ⟨x,H1,I1,r1,q1⟩=>?_) ht;refine wpAny_Slice ?_;rw[evalPart_none,evalPart_some];refine aj (aj (bf (hst Qx s1 σ H1 _ I1 q1) λvs s2 ⟨y,H2,I2,r2,q2⟩=>?_));obtain⟨rfl,p,xs,rfl,hx,q⟩:=q2;obtain⟨t,rfl⟩:=r2;cases r1;have I3:ag X Qx σ H2 {s2 with heap:=s2.heap.push {cls:=.type "slice",data:=.fields #[.none,.none,.int (-1) t]}}:=I2.kept (t':=s2.toks) λb ob q=>bc _ q
 obtain⟨its,rv,pl,hz⟩:=I3.list hx;refine⟨pl.isList.typeIs,?_⟩;refine wpAny_getItem_list_slice pl.isList (Heap.IsSliceOf.new ..) .none .none (.int (-1) t) (by decide) ?_ (by rw[ck,<-rv.length];exact hz);rw[OW];refine⟨.ref _,_,I3.laid (t':=s2.toks) (o:=.lst xs.reverse) (λb ob q=>bc _ q) (ba _) ?_,rfl,q _ (I3.hok.fresh (ba _))⟩;exact⟨by rw[gn];exact hz,_,0,rv.reverse,cf _ rfl⟩
def IL:cm X (compareOp .Is) (λx y H Q=>∃b,y=.bl b/\Q (.bl (decide (x=.bl b))) H):=by
 intro Qx s σ H x y v u Q I rx ry h;obtain⟨b,rfl,q⟩:=h;cases ry;cases x with
 |non=>cases rx;exact wpAny_is_plain rfl ⟨.bl _,H,I,(by simp[ah]),q⟩
 |bl k=>cases rx;exact wpAny_is_plain rfl ⟨.bl _,H,I,(by cases k<;>cases b<;>rfl),q⟩
 |int i=>obtain⟨t,rfl⟩:=rx;exact wpAny_is_plain rfl ⟨.bl _,H,I,(by simp[ah]),q⟩
 |str i=>obtain⟨t,rfl⟩:=rx;exact wpAny_is_plain rfl ⟨.bl _,H,I,(by simp[ah]),q⟩
 |byt i=>obtain⟨t,rfl⟩:=rx;exact wpAny_is_plain rfl ⟨.bl _,H,I,(by simp[ah]),q⟩
 |flt i=>obtain⟨t,rfl⟩:=rx;exact wpAny_is_plain rfl ⟨.bl _,H,I,(by simp[ah]),q⟩
 |ref i=>cases rx;exact wpAny_is_plain rfl ⟨.bl _,H,I,(by simp[ah]),q⟩
 |ty i=>cases rx;exact wpAny_is_plain rfl ⟨.bl _,H,I,(by simp[ah]),q⟩
def MN:cm X (compareOp .IsNot) (λx y H Q=>∃b,y=.bl b/\Q (.bl (!decide (x=.bl b))) H):=by
 intro Qx s σ H x y v u Q I rx ry h;obtain⟨b,rfl,q⟩:=h;cases ry;cases x with
 |non=>cases rx;exact wpAny_isNot_plain rfl ⟨.bl _,H,I,(by simp[ah]),q⟩
 |bl k=>cases rx;exact wpAny_isNot_plain rfl ⟨.bl _,H,I,(by cases k<;>cases b<;>rfl),q⟩
 |int i=>obtain⟨t,rfl⟩:=rx;exact wpAny_isNot_plain rfl ⟨.bl _,H,I,(by simp[ah]),q⟩
 |str i=>obtain⟨t,rfl⟩:=rx;exact wpAny_isNot_plain rfl ⟨.bl _,H,I,(by simp[ah]),q⟩
 |byt i=>obtain⟨t,rfl⟩:=rx;exact wpAny_isNot_plain rfl ⟨.bl _,H,I,(by simp[ah]),q⟩
 |flt i=>obtain⟨t,rfl⟩:=rx;exact wpAny_isNot_plain rfl ⟨.bl _,H,I,(by simp[ah]),q⟩
 |ref i=>cases rx;exact wpAny_isNot_plain rfl ⟨.bl _,H,I,(by simp[ah]),q⟩
 |ty i=>cases rx;exact wpAny_isNot_plain rfl ⟨.bl _,H,I,(by simp[ah]),q⟩
def c_(j:Int):Prop:=j.natAbs<2 ^ 1024
def c_.log{j:Int}(h:c_ j):j.natAbs.log2<9000:=by
 by_cases h0:j.natAbs=0
 ·rw[h0];decide +kernel
 ·have:j.natAbs.log2<1024:=(Nat.log2_lt h0).mpr h;omega
def op_mulB:cm X (binaryOp .Mult) (rI (λi j=>c_ i/\c_ j) λi j=>.int (i*j)):=tp λi j _ _ _ _ _ hc q=>by
 have bits:∀{x:Int},c_ x->Builtin.Int.intBits x<=2 ^ 20:=λ{x} h=>by
  unfold Builtin.Int.intBits;split
  ·exact dq _
  ·rename_i h0;have h0':x.natAbs≠0:=λz=>h0 (by simpa using z)
   have:x.natAbs.log2<1024:=(Nat.log2_lt h0').mpr h;omega
 exact mul_int q (.of_bits (bits hc.1) (bits hc.2))
def C8:cm X (binaryOp .FloorDiv) (rI (λ_ j=>0<j/\c_ j) λi j=>.int (i / j)):=tp λi j _ _ _ _ _ hc q=>by
 have h1:(0:Int)<j:=hc.1;exact floordiv_int (by omega) (by rw[ve i (by omega)];exact q) (.inl (PyProof.noPylong_of_log2 hc.2.log))
end
def dJ:Expr->Bool
 |.Starred ..=>true
 |_=>false
def gA{e:Expr}{rest:List Expr}{env:Env}(h:dJ e=false):starEach (e::rest) env=(false,eval e env)::starEach rest env:=by
 cases e<;>first|rfl|exact Bool.noConfusion h
def cV{X:Cx}{e:Expr}{es:List Expr}{te:TE}{t:TA}(ha:PE X e te)(hr:PA X es t)(h:dJ e=false:=by rfl):PA X (e::es) (yK te t):=KZ ha hr (gA h)
def cv(P:Program)(w:World)(K:W.Frag)(mg:Str->Option Value)(base:Heap)(k:Nat)(x:Str)(ps:List Str)(sp:Sp):Prop:=
 ∃(f:Addr) (fd:FuncData),du P w K mg base o6 k f fd ps sp/\iu K fd ps []/\mg x=some (.ref f)/\W.keepIn K (.ref f)=true
section
variable{X:Cx}{k:Nat}{x:Str}{ps:List Str}{sp:Sp}{e:Expr}{es:List Expr}{t:TA}{p pos:Pos}
def pH(G:cv X.prog X.w X.K X.mg X.base k x ps sp)(hr:bx k X.A)(hg:Gl X x)(ha:PA X (e::es) t)(hdb:(x==("__debug__":Str))=false:=by decide)
  (hst:dJ e=false:=by rfl) (hpl:(backTo pos (starEach es X.env)).any (·.1)=false:=by rfl):PE X (.Call (.Name x p) (e::es) [] pos) (mZ sp [] E0 t):=by
 obtain⟨f,fd,F,b,m,kp⟩:=G;exact K0 F hr hg m kp b .nil Bq ha hdb (gA hst) hpl
def IY(G:cv X.prog X.w X.K X.mg X.base k x ps sp)(hr:bx k X.A)(hg:Gl X x)(hdb:(x==("__debug__":Str))=false:=by decide):PE X (.Call (.Name x p) [] [] pos) (mZ sp [] E0 pP):=by
 obtain⟨f,fd,F,b,m,kp⟩:=G;exact Mm F hr hg m kp b .nil Bq hdb
end
def ao(K:W.Frag)(mg:Str->Option Value)(x:Str)(st:Stmt):Prop:=∃(f:Addr) (fd:FuncData),t7 K x x st f fd/\mg x=some (.ref f)
theorem ao.good{P:Program}{w:World}{K:W.Frag}{mg:Str->Option Value}{base:Heap}{x:Str}{st:Stmt}{N ps:List Str}{k:Nat}{sp:Sp}(h:ao K mg x st)(S:bF N ps (aN st))
  (hb:∀(kV doc pm:Value) (an:Option Addr) (Qy ct:Value) (us:List Value),us.length=ps.length->bindArgs (W.fnOf x x (gW st) (eS st) (aN st) .none kV doc pm an Qy ct) ⟨us,[]⟩=pure (ps.zip us))
  (len:∀vs H Q E,sp vs H Q E->vs.length=ps.length)
  (QH:∀(f:Addr) (Qy:Value) (A:Around) (outer:List Env) (s:Shared) (H:Hp) (vs:List V) (Q:VK) (E:XK),bx k (A.deeper (envOfC x (aN st) s.heap.objs.size f Qy))->sp vs H Q E ->
   ∃t,gz (jV o6 P w K mg base N x (aN st) f Qy A outer s H E).nox (eS st) t/\t {nx:=λ_ H'=>Q .non H',rt:=Q} (eG N vs) H):cv P w K mg base (k+1) x ps sp:=by
 obtain⟨f,fd,F,m⟩:=h;exact⟨f,fd,F.ok S len λQy A outer s H vs Q E hr q=>QH f Qy A outer s H vs Q E hr q,F.binds hb,m,F.kp⟩
def has_mk{K:W.Frag}{h:Heap}{mg:Str->Option Value}{x:Str}{st:Stmt}{f:Addr}{oc:Value}{od an:Option Addr}{osl:Array (Option Value)}{kV doc pm Qy ct:Value}(X:K.In h)(G:h.Ns mainGlobals mg)
  (a:W.nsIn K mainGlobals x=some (some (.ref f))) (l:K.lookup f=some ⟨oc,od,.func (W.fnOf x x (gW st) (eS st) (aN st) .none kV doc pm an Qy ct),osl⟩)
  (c:W.codeIn K Qy x=true) (k:W.keepIn K (.ref f)=true):ao K mg x st:=⟨f,_,A6 l c k,PySem.W.mg_of X G a⟩
structure Own (mg:Str->Option Value):Prop where
 len:mg "len"=none
 range:mg "range"=none
 isinstance:mg "isinstance"=none
 int_:mg "int"=none
 bool_:mg "bool"=none
 str_:mg "str"=none
 list_:mg "list"=none
 tuple_:mg "tuple"=none
 dict_:mg "dict"=none
 sum:mg "sum"=none
 min:mg "min"=none
 max:mg "max"=none
 all:mg "all"=none
 any:mg "any"=none
 abs:mg "abs"=none
 zip:mg "zip"=none
 sorted:mg "sorted"=none
 set_:mg "set"=none
 enumerate:mg "enumerate"=none
def IS{K:W.Frag}{h:Heap}{mg:Str->Option Value}(X:K.In h)(G:h.Ns mainGlobals mg)(z1:W.nsIn K mainGlobals "len"=some none)(z2:W.nsIn K mainGlobals "range"=some none)
    (z3:W.nsIn K mainGlobals "isinstance"=some none) (z4:W.nsIn K mainGlobals "int"=some none) (z5:W.nsIn K mainGlobals "bool"=some none) (z6:W.nsIn K mainGlobals "str"=some none)
    (z7:W.nsIn K mainGlobals "list"=some none) (z8:W.nsIn K mainGlobals "tuple"=some none) (z9:W.nsIn K mainGlobals "dict"=some none) (z10:W.nsIn K mainGlobals "sum"=some none)
    (z11:W.nsIn K mainGlobals "min"=some none) (z12:W.nsIn K mainGlobals "max"=some none) (z13:W.nsIn K mainGlobals "all"=some none) (z14:W.nsIn K mainGlobals "any"=some none)
    (z15:W.nsIn K mainGlobals "abs"=some none) (z16:W.nsIn K mainGlobals "zip"=some none) (z17:W.nsIn K mainGlobals "sorted"=some none) (z18:W.nsIn K mainGlobals "set"=some none)
    (z19:W.nsIn K mainGlobals "enumerate"=some none):Own mg:=
  ⟨jc X G z1,jc X G z2,jc X G z3,jc X G z4,jc X G z5,jc X G z6,jc X G z7,jc X G z8,jc X G z9,jc X G z10,
   jc X G z11,jc X G z12,jc X G z13,jc X G z14,jc X G z15,jc X G z16,jc X G z17,jc X G z18,jc X G z19⟩
structure bo (H:Hp) (p c:Addr):Prop where
 ne:p≠c
 dk:∃S k:Int,H p=some (.lst [.ref c,.int S,.int k])
 cs:∃ns:List Int,H c=some (.lst (ns.map V.int))/\ns.length<=64
structure On (p c:Addr) (H H':Hp):Prop where
 d:bo H' p c
 e:∀b o,H b=some o->b≠p->b≠c->H' b=some o
section
variable{p c a:Addr}{H H1 H2:Hp}{o:HO}
def bo.nep(d:bo H p c)(h:H a=none):a≠p:=λz=>by
 obtain⟨S,k,e⟩:=d.dk;rw[z,e]at h;cases h
def bo.nec(d:bo H p c)(h:H a=none):a≠c:=λz=>by
 obtain⟨ns,e,_⟩:=d.cs;rw[z,e]at h;cases h
def bo.alloc(d:bo H p c)(h:H a=none):bo (ar H a o) p c:=by
 obtain⟨S,k,e⟩:=d.dk;obtain⟨ns,e',l⟩:=d.cs;exact⟨d.ne,⟨S,k,by rw[bP (d.nep h).symm];exact e⟩,ns,by rw[bP (d.nec h).symm];exact e',l⟩
def On.trans(x:On p c H H1)(y:On p c H1 H2):On p c H H2:=⟨y.d,λb o h hp hc=>y.e b o (x.e b o h hp hc) hp hc⟩
def On.alloc(x:On p c H H1)(h:H1 a=none):On p c H (ar H1 a o):=
 ⟨x.d.alloc h,λb u q hp hc=>by rw[bP (dX (x.e b u q hp hc) h)];exact x.e b u q hp hc⟩
end
def Cf:Sp:=λvs H Q _=>∃n k:Int,vs=[.int n,.int k]/\∀r:Int,Q (.int r) H
def Ax(K:W.Frag):Sp:=λvs H Q _=>∃(a:Addr) (ns:List Int),vs=[.ref a]/\bu K H a (ns.map V.int)/\∀(p c:Addr) (H':Hp),H p=none->H c=none->bo H' p c->ay H H'->Q (.ref p) H'
def Ay:Sp:=λvs H Q _=>∃(p c:Addr) (m:Int),vs=[.ref p,.int m]/\bo H p c/\0<m/\c_ m/\∀(r:Int) (H':Hp),0<=r->r<m->On p c H H'->Q (.int r) H'
def aw.there{P:Program}{w:World}{H:Hp}{h:Heap}{a:Addr}{o:HO}(x:aw P w H h a o):∃ob,h.get? a=some ob:=by
 cases o with
 |lst xs=>obtain⟨_,_,_,_,e⟩:=x;exact⟨_,e⟩
 |tup xs=>obtain⟨_,_,_,ob,e,_⟩:=x;exact⟨_,e⟩
 |dK kvs=>obtain⟨_,_,_,_,o,_,_,e,_⟩:=x;exact⟨_,e⟩
 |dT kvs=>obtain⟨_,_,_,_,o,_,_,e,_⟩:=x;exact⟨_,e⟩
 |set S n=>obtain⟨o,_,_,_,e,_⟩:=x;exact⟨_,e⟩
 |ins C dx fs=>obtain⟨_,_,_,e,_⟩:=x;exact⟨_,e⟩
 |own y=>obtain⟨_,e⟩:=x;exact⟨_,e⟩
 |xd fs=>obtain⟨_,⟨_,_,_,e,_⟩,_⟩:=x;exact⟨_,e⟩
 |rng lo hi=>obtain⟨_,_,_,e⟩:=x;exact⟨_,e⟩
 |frz ob u=>obtain⟨e,_⟩:=x;exact⟨_,e⟩
 |tbl ps=>exact⟨_,(show h.get? a=some _ from x)⟩
 |met f y=>exact⟨_,(show h.get? a=some _ from x)⟩
 |ext φ=>obtain⟨_,⟨_,e⟩,_⟩:=x;exact⟨_,e⟩
section
variable{X:Cx}
def cB{H:Hp}{a:Addr}{o:HO}(h:H a=none):ay H (ar H a o):=λb u q=>by rw[bP (dX q h)];exact q
def Ho(K:W.Frag):R2:=λx y H Q=>∃a b xs ys,x=.ref a/\y=.ref b/\cq K H a xs/\cq K H b ys/\xs.length+ys.length<=sizeLine/\∀r H',cq K H' r (xs++ys)->ay H H'->Q (.ref r) H'
theorem op_catG:cm X (binaryOp .Add) (Ho X.K):=by
 intro Qx s σ H x y v u Q I rx ry h;obtain⟨a,b,xs,ys,rfl,rfl,ha,hb,hz,q⟩:=h;by_cases hx:xs=[]
 ·subst hx;cases rx;cases ry;obtain⟨its,r1,p1,_⟩:=I.tuple ha;obtain⟨its2,r2,p2,_⟩:=I.tuple hb;obtain⟨⟨cls,dd,data,sl⟩,ho,hc,n,hd⟩:=id p1;obtain⟨⟨cls2,dd2,data2,sl2⟩,ho2,hc2,n2,hd2⟩:=id p2;simp only at hc hd hc2 hd2;subst hc hd hc2 hd2;have e1:its=[]:=r1.nil_iff.mpr rfl;exact concat_meets ⟨_,ho,rfl⟩ ⟨_,ho2,rfl⟩ noFill_tuple_add seq_tuple_add PySem.F.slot_tuple_add PySem.F.entry_tuple_add (PySem.F.args_tuple_add_2 _ _)
   (tuple_addW0 a b its.toArray its2.toArray n n2 dd dd2 sl sl2 (by simp[e1])) ⟨ho,ho2,⟨.ref b,H,I,rfl,q b H hb (ay.refl H)⟩⟩
 ·refine Lr Qx s σ H (.ref a) (.ref b) v u Q I rx ry ⟨a,b,xs,ys,rfl,rfl,ha,hb,hx,hz,λe=>q a H (by rw[e,jk];exact ha) (ay.refl H),λ_ p hp=>q p _ (cq.of bE) (cB hp)⟩
structure QA (X:Cx) (es:List Expr) (t:TA):Prop where
 p:PA X es t
def Ao:QA X [] pP:=⟨dC⟩
def zP{e:Expr}{es:List Expr}{te:TE}{t:TA}(ha:PE X e te)(hr:QA X es t)(h:dJ e=false:=by rfl):QA X (e::es) (yK te t):=⟨cV ha hr.p h⟩
def B2{es:List Expr}{t:TA}{pos:Pos}(h:QA X es t):PE X (.List es pos) (zy t):=Bf h.p
def ag.big{Qx:List (Addr×Obj)}{σ:St}{H:Hp}{s:Shared}(I:ag X Qx σ H s):sysModules<s.heap.objs.size:=by
 have h:mainGlobals<s.heap.objs.size:=(I.mod.glob.keeps I.bk).lt;exact fh (by decide) h
def Mu{P:Program}{w:World}{H:Hp}(h:Heap)(hb:sysModules<h.objs.size):aw P w H (h.push {cls:=.type "dict",data:=.dict #[]}) h.objs.size (.dK []):=
 ⟨dq _,beq_eq_false_iff_ne.mpr (Ne.symm (cu hb)),[],.nil,Heap.DictOf.new h⟩
def JQ:TE:=λ_ H Q=>∀p,H p=none->Q (.ref p) (ar H p (.dK []))
def Mo{pos:Pos}:PE X (.Dict [] [] pos) JQ:=λQx s σ H Q I h=>
 wpAny_Dict_empty ⟨.ref s.heap.objs.size,_,I.laid (a:=s.heap.objs.size) (o:=.dK []) (t':=s.toks) (λ_ _ q=>bc _ q) (ba _) (Mu s.heap I.big),rfl,h _ (I.hok.fresh (ba _))⟩
end
section
variable{prog:Program}{w:World}{A:Around}{E:Value->Shared->Prop}{s:Shared}
theorem Ow{j t:Addr}{k:Nat}{vs:Array Value}{v:Value}{Q:Value->Shared->Prop}(hj:s.heap.IsTupleIter j t k)(ht:s.heap.IsTuple t vs)(hv:vs[k]?=some v)
  (q:∀h',h'.IsTupleIter j t (k+1)->Heap.SameBut j s.heap h'->Q v {s with heap:=h'}):wpAny (model prog w) A (Builtin.SmallTypes.nextOf (.ref j)) Q E s:=by
 obtain⟨oj,ej,cj,dj⟩:=id hj;obtain⟨ot,et,_,nt,dt⟩:=id ht;unfold Builtin.SmallTypes.nextOf;refine af (wpAny_callSpecial?_slot (name:=Str.ofString "__next__") hj.typeIs F.slot_tuple_iterator_next (jz F.slot_tuple_iterator_next hj.typeIs F.entry_tuple_iterator_next ?_ (F.args_tuple_iterator_next_1 _)));refine af (m:=field (.ref j) 0) (wpAny_field ej dj (x:=.ref t) rfl ?_);have nn:¬ ((Value.ref t==Value.none)=true):=cn;show wpAny (model prog w) A.in1 (if (Value.ref t==Value.none)=true then _ else _) _ _ s;rw[if_neg nn];refine af (m:=field (.ref j) 1) (wpAny_field ej dj (x:=.int k 0) rfl (af (m:=seqItems? (.ref t)) (wpAny_seqItems et dt ?_)));simp only[sj,hv];refine af (wpAny_setField ej dj (by simp) (aj ⟨v,rfl,aj (q _ ⟨_,e7 _ ej (Obj.isFreed_of_fields (Obj.data_mapFields dj _)),(Obj.cls_mapFields ..).trans cj,?_⟩ (Heap.SameBut.update ..))⟩));rw[Obj.data_mapFields dj];simp[rawInt]
theorem ML{j t:Addr}{k:Nat}{vs:Array Value}{Q:Value->Shared->Prop}(hh:A.handled=none)(hj:s.heap.IsTupleIter j t k)(ht:s.heap.IsTuple t vs)(hv:vs[k]?=none)
  (q:∀h' e,Heap.ExtBut j s.heap h'->(∃o,h'.get? e=some o/\o.cls=.type "StopIteration")->E (.ref e) {s with heap:=h'}):wpAny (model prog w) A (Builtin.SmallTypes.nextOf (.ref j)) Q E s:=by
 obtain⟨oj,ej,cj,dj⟩:=id hj;obtain⟨ot,et,_,nt,dt⟩:=id ht;unfold Builtin.SmallTypes.nextOf;refine af (wpAny_callSpecial?_slot (name:=Str.ofString "__next__") hj.typeIs F.slot_tuple_iterator_next (jz F.slot_tuple_iterator_next hj.typeIs F.entry_tuple_iterator_next ?_ (F.args_tuple_iterator_next_1 _)));refine af (m:=field (.ref j) 0) (wpAny_field ej dj (x:=.ref t) rfl ?_);have nn:¬ ((Value.ref t==Value.none)=true):=cn;show wpAny (model prog w) A.in1 (if (Value.ref t==Value.none)=true then _ else _) _ _ s;rw[if_neg nn];refine af (m:=field (.ref j) 1) (wpAny_field ej dj (x:=.int k 0) rfl (af (m:=seqItems? (.ref t)) (wpAny_seqItems et dt ?_)));simp only[sj,hv];refine af (wpAny_rule (af (wpAny_setField ej dj (by simp) (af (m:=newExc (.type "StopIteration") []) ?_))));unfold newExc newTuple;refine af (d8 (af (m:=firstArgMember _ _) (wpAny_of_eq (a:=Value.none) (by first|rfl|(simp only[firstArgMember];rfl)) (d8 ?_ (by size_fits)))) (by size_fits));unfold raiseNew;refine af (wpAny_handled ?_);rw[show A.in1.handled=none from hh];exact af (aj (wpAny_throw (q _ _ (((Heap.SameBut.update ..).extBut.push _).push _) ⟨_,cf _ rfl,rfl⟩)))
structure lX (prog:Program) (w:World) (i l:Addr) (it:Nat->Heap->Prop) (sq:Heap->Array Value->Prop):Prop where
 obj:∀k h,it k h->∃o,h.get? i=some o/\∀v,o.data≠.cell v
 itk:∀k h h',it k h->(∀o,h.get? i=some o->h'.get? i=some o)->it k h'
 sqk:∀h h' vs,sq h vs->(∀o,h.get? l=some o->h'.get? l=some o)->sq h' vs
 item:∀(A:Around) (E:Value->Shared->Prop) (s:Shared) (k:Nat) (vs:Array Value) (v:Value) (Q:Value->Shared->Prop),it k s.heap->sq s.heap vs->vs[k]?=some v ->
  (∀h',it (k+1) h'->Heap.SameBut i s.heap h'->Q v {s with heap:=h'})->wpAny (model prog w) A (Builtin.SmallTypes.nextOf (.ref i)) Q E s
 done:∀(A:Around) (E:Value->Shared->Prop) (s:Shared) (k:Nat) (vs:Array Value) (Q:Value->Shared->Prop),A.handled=none->it k s.heap->sq s.heap vs->vs[k]?=none ->
  (∀h' e,Heap.ExtBut i s.heap h'->(∃o,h'.get? e=some o/\o.cls=.type "StopIteration")->E (.ref e) {s with heap:=h'})->wpAny (model prog w) A (Builtin.SmallTypes.nextOf (.ref i)) Q E s
def OD(i l:Addr):lX prog w i l (λk h=>h.IsListIter i l k) (λh vs=>h.IsList l vs) where
 obj:=λk h x=>let ⟨o,e,_,d⟩:=x;⟨o,e,λv z=>by rw[d]at z;cases z⟩
 itk:=λk h h' x f=>let ⟨o,e,r⟩:=x;⟨o,f o e,r⟩
 sqk:=λh h' vs x f=>let ⟨o,e,r⟩:=x;⟨o,f o e,r⟩
 item:=λA E s k vs v Q a b c q=>wpAny_nextOf_list_item a b c q
 done:=λA E s k vs Q hh a b c q=>wpAny_nextOf_list_end hh a b c q
def LR(i l:Addr):lX prog w i l (λk h=>h.IsTupleIter i l k) (λh vs=>h.IsTuple l vs) where
 obj:=λk h x=>let ⟨o,e,_,d⟩:=x;⟨o,e,λv z=>by rw[d]at z;cases z⟩
 itk:=λk h h' x f=>let ⟨o,e,r⟩:=x;⟨o,f o e,r⟩
 sqk:=λh h' vs x f=>let ⟨o,e,r⟩:=x;⟨o,f o e,r⟩
 item:=λA E s k vs v Q a b c q=>Ow a b c q
 done:=λA E s k vs Q hh a b c q=>ML hh a b c q
section
variable{z TI TO i1 i2 l1 l2:Addr}{it1 it2:Nat->Heap->Prop}{sq1 sq2:Heap->Array Value->Prop}
def KM(S1:lX prog w i1 l1 it1 sq1)(S2:lX prog w i2 l2 it2 sq2)(D:ZipApart z TI TO i1 i2 l1 l2){k1 k2:Nat}{xs ys:Array Value}{x y a b:Value}{Q:Value->Shared->Prop}
  (hz:IsZip s.heap z TI TO .none) (hI:IsPair s.heap TI (.ref i1) (.ref i2)) (hO:IsPair s.heap TO a b) (j1:it1 k1 s.heap) (j2:it2 k2 s.heap) (q1:sq1 s.heap xs) (q2:sq2 s.heap ys)
  (hx:xs[k1]?=some x) (hy:ys[k2]?=some y)
  (q:∀h',IsZip h' z TI TO (rawInt s.heap.objs.size)->IsPair h' TO x y->it1 (k1+1) h'->it2 (k2+1) h'->IsPair h' s.heap.objs.size x y->h'.objs.size=s.heap.objs.size+1 ->
   (∀c o,c≠z->c≠TO->c≠i1->c≠i2->s.heap.get? c=some o->h'.get? c=some o)->Q (.ref s.heap.objs.size) {s with heap:=h'}):
  wpAny (model prog w) A (Builtin.«zip.__next__» ⟨[.ref z],[]⟩) (λf s'=>∃v,f=.done (.ret v)/\Q v s') E s:=by
 refine af (m:=field (.ref z) 2) (wpAny_field hz rfl (x:=.bool false) rfl (af (m:=field (.ref z) 3) (wpAny_field hz rfl (x:=.ref TI) rfl (af (wpAny_seqItems hI rfl ?_)))));refine af (m:=Builtin.SmallTypes.ownedTupleIsFree (.ref z)) (af (wpAny_field hz rfl (x:=.none) rfl (aj ?_)));simp only[if_true];refine af (wpAny_rule (af (wpAny_field hz rfl (x:=.ref TO) rfl (af (gi hz (by simp) λh1 hz1 s1=>?_)))));have hz1:IsZip h1 z TI TO .ellipsis:=hz1;refine af ?_;simp only[List.zipIdx_cons,List.zipIdx_nil,su,List.forIn_nil];have e1:∀c o,c≠z->s.heap.get? c=some o->h1.get? c=some o:=λc o hc e=>s1.extBut _ _ hc e
 refine af (af (wpAny_onRaise (af (m:=Builtin.SmallTypes.nextOf (.ref i1)) (S1.item _ _ _ k1 xs x _ (S1.itk _ _ _ j1 λo e=>e1 _ o D.i1z e) (S1.sqk _ _ _ q1 λo e=>e1 _ o D.l1z e) hx λh2 j1' s2=>aj ?_))));have e2:∀c o,c≠z->c≠i1->s.heap.get? c=some o->h2.get? c=some o:=λc o c1 c2 e=>s2.extBut _ _ c2 (e1 c o c1 e)
 have hO2:IsPair h2 TO a b:=e2 _ _ D.TOz D.TOi1 hO;refine af (wpAny_seqItems hO2 rfl (af (wpAny_updateSeq_pair hO2 λh3 hO3 s3=>af (wpAny_letGo (aj ?_)))));have hO3:IsPair h3 TO x b:=hO3;have e3:∀c o,c≠z->c≠i1->c≠TO->s.heap.get? c=some o->h3.get? c=some o:=λc o c1 c2 c3 e=>s3.extBut _ _ c3 (e2 c o c1 c2 e)
 refine af (af (wpAny_onRaise (af (m:=Builtin.SmallTypes.nextOf (.ref i2)) (S2.item _ _ _ k2 ys y _ (S2.itk _ _ _ j2 λo e=>e3 _ o D.i2z D.i12.symm D.TOi2.symm e) (S2.sqk _ _ _ q2 λo e=>e3 _ o D.l2z D.l2i1 D.l2TO e) hy λh4 j2' s4=>aj ?_))));have hO4:IsPair h4 TO x b:=s4.extBut _ _ D.TOi2 hO3;refine af (wpAny_seqItems hO4 rfl (af (wpAny_updateSeq_pair hO4 λh5 hO5 s5=>af (wpAny_letGo (aj (aj ?_))))));have hO5:IsPair h5 TO x y:=hO5;refine af (wpAny_seqItems hO5 rfl (af (wpAny_newTuple ?_)));have hs5:h5.objs.size=s.heap.objs.size:=by rw[s5.1,s4.1,s3.1,s2.1,s1.1]
 have hz5:IsZip h5 z TI TO .ellipsis:=s5.extBut _ _ D.TOz.symm (s4.extBut _ _ D.i2z.symm (s3.extBut _ _ D.TOz.symm (s2.extBut _ _ D.i1z.symm hz1)));have e5:∀c o,c≠z->c≠TO->c≠i1->c≠i2->s.heap.get? c=some o->h5.get? c=some o:=λc o c1 c2 c3 c4 e=>s5.extBut _ _ c2 (s4.extBut _ _ c4 (e3 c o c1 c3 c2 e))
 have lz:z<h5.objs.size:=bj hz5;refine af (m:=Builtin.SmallTypes.ownedTupleHandOut (.ref z) (.ref h5.objs.size)) ?_;unfold Builtin.SmallTypes.ownedTupleHandOut;have hz6:IsZip (h5.push {cls:=.type "tuple",data:=.seq #[x,y]}) z TI TO .ellipsis:=bc _ hz5;refine af (gi hz6 (by simp) λh7 hz7 s7=>?_);have hz7:IsZip h7 z TI TO (rawInt h5.objs.size):=hz7;refine gi hz7 (by simp) λh8 hz8 s8=>?_
 have hz8:IsZip h8 z TI TO (rawInt h5.objs.size):=hz8;have e8:∀c o,c≠z->h5.get? c=some o->h8.get? c=some o:=λc o c1 e=>s8.extBut _ _ c1 (s7.extBut _ _ c1 (bc _ e))
 have p8:IsPair h8 h5.objs.size x y:=s8.extBut _ _ (je lz) (s7.extBut _ _ (je lz) (cf _ rfl));have n8:h8.objs.size=h5.objs.size+1:=by rw[s8.1,s7.1,ib]
 rw[hs5]at hz8 p8 n8;refine aj ⟨_,rfl,?_⟩;show Q (Value.ref h5.objs.size) _;rw[hs5];exact q h8 hz8 (e8 _ _ D.TOz hO5) (S1.itk _ _ _ j1' λo e=>e8 _ o D.i1z (s5.extBut _ _ D.TOi1.symm (s4.extBut _ _ D.i12 (s3.extBut _ _ D.TOi1.symm e)))) (S2.itk _ _ _ j2' λo e=>e8 _ o D.i2z (s5.extBut _ _ D.TOi2.symm e)) p8 n8
  λc o c1 c2 c3 c4 e=>e8 c o c1 (e5 c o c1 c2 c3 c4 e)
def Kc(S1:lX prog w i1 l1 it1 sq1)(S2:lX prog w i2 l2 it2 sq2)(D:ZipApart z TI TO i1 i2 l1 l2)(hh:A.handled=none){k1 k2:Nat}{xs ys:Array Value}{a b:Value}{Q:Fin->Shared->Prop}
  (hz:IsZip s.heap z TI TO .none) (hI:IsPair s.heap TI (.ref i1) (.ref i2)) (hO:IsPair s.heap TO a b) (j1:it1 k1 s.heap) (j2:it2 k2 s.heap) (q1:sq1 s.heap xs) (q2:sq2 s.heap ys)
  (hn:xs[k1]?=none\/ys[k2]?=none)
  (q:∀h' e,(∀c o,c≠z->c≠TO->c≠i1->c≠i2->s.heap.get? c=some o->h'.get? c=some o)->(∃o,h'.get? e=some o/\o.cls=.type "StopIteration")->E (.ref e) {s with heap:=h'}):
  wpAny (model prog w) A (Builtin.«zip.__next__» ⟨[.ref z],[]⟩) Q E s:=by
 refine af (m:=field (.ref z) 2) (wpAny_field hz rfl (x:=.bool false) rfl (af (m:=field (.ref z) 3) (wpAny_field hz rfl (x:=.ref TI) rfl (af (wpAny_seqItems hI rfl ?_)))));refine af (m:=Builtin.SmallTypes.ownedTupleIsFree (.ref z)) (af (wpAny_field hz rfl (x:=.none) rfl (aj ?_)));simp only[if_true];refine af (wpAny_rule (af (wpAny_field hz rfl (x:=.ref TO) rfl (af (gi hz (by simp) λh1 hz1 s1=>?_)))));have hz1:IsZip h1 z TI TO .ellipsis:=hz1;refine af ?_;simp only[List.zipIdx_cons,List.zipIdx_nil,su,List.forIn_nil];have e1:∀c o,c≠z->s.heap.get? c=some o->h1.get? c=some o:=λc o hc e=>s1.extBut _ _ hc e
 have ez:∀{h:Heap} {e:Addr} {o:Obj},IsZip h z TI TO .ellipsis->h.get? e=some o->o.cls=.type "StopIteration"->e≠z:=λhz ho hc x=>by
  subst x;rw[hz]at ho;cases ho;simp at hc
 cases hx:xs[k1]? with
 |none=>
  refine af (af (wpAny_onRaise (af (m:=Builtin.SmallTypes.nextOf (.ref i1)) (S1.done _ _ _ k1 xs _ hh (S1.itk _ _ _ j1 λo e=>e1 _ o D.i1z e) (S1.sqk _ _ _ q1 λo e=>e1 _ o D.l1z e) hx λh2 e s2 he=>?_))));obtain⟨oe,ho,hc⟩:=he;have hz2:IsZip h2 z TI TO .ellipsis:=s2 _ _ D.i1z.symm hz1;exact gi hz2 (by simp) λh3 _ s3=>q h3 e (λc o c1 _ c3 _ u=>s3.extBut _ _ c1 (s2 _ _ c3 (e1 c o c1 u))) ⟨oe,s3.extBut _ _ (ez hz2 ho hc) ho,hc⟩
 |some x=>
  have hy:ys[k2]?=none:=by
   rcases hn with h|h
   ·rw[hx]at h;cases h
   ·exact h
  refine af (af (wpAny_onRaise (af (m:=Builtin.SmallTypes.nextOf (.ref i1)) (S1.item _ _ _ k1 xs x _ (S1.itk _ _ _ j1 λo e=>e1 _ o D.i1z e) (S1.sqk _ _ _ q1 λo e=>e1 _ o D.l1z e) hx λh2 j1' s2=>aj ?_))));have e2:∀c o,c≠z->c≠i1->s.heap.get? c=some o->h2.get? c=some o:=λc o c1 c2 e=>s2.extBut _ _ c2 (e1 c o c1 e)
  have hO2:IsPair h2 TO a b:=e2 _ _ D.TOz D.TOi1 hO;refine af (wpAny_seqItems hO2 rfl (af (wpAny_updateSeq_pair hO2 λh3 hO3 s3=>af (wpAny_letGo (aj ?_)))));have e3:∀c o,c≠z->c≠i1->c≠TO->s.heap.get? c=some o->h3.get? c=some o:=λc o c1 c2 c3 e=>s3.extBut _ _ c3 (e2 c o c1 c2 e)
  refine af (af (wpAny_onRaise (af (m:=Builtin.SmallTypes.nextOf (.ref i2)) (S2.done _ _ _ k2 ys _ hh (S2.itk _ _ _ j2 λo e=>e3 _ o D.i2z D.i12.symm D.TOi2.symm e) (S2.sqk _ _ _ q2 λo e=>e3 _ o D.l2z D.l2i1 D.l2TO e) hy λh4 e s4 he=>?_))));obtain⟨oe,ho,hc⟩:=he;have hz4:IsZip h4 z TI TO .ellipsis:=s4 _ _ D.i2z.symm (s3.extBut _ _ D.TOz.symm (s2.extBut _ _ D.i1z.symm hz1));exact gi hz4 (by simp) λh5 _ s5=>q h5 e (λc o c1 c2 c3 c4 u=>s5.extBut _ _ c1 (s4 _ _ c4 (e3 c o c1 c3 c2 u))) ⟨oe,s5.extBut _ _ (ez hz4 ho hc) ho,hc⟩
end
abbrev xw(hp:Heap)(a b:Addr):Heap:=hp.push {cls:=.type "tuple_iterator",data:=.fields #[.ref a,.int 0 0]}
abbrev xu(hp:Heap)(a b:Addr):Heap:=(xw hp a b).push {cls:=.type "tuple_iterator",data:=.fields #[.ref b,.int 0 0]}
abbrev xt(hp:Heap)(a b:Addr):Heap:=(xu hp a b).push {cls:=.type "tuple",data:=.seq #[.ref hp.objs.size,.ref (xw hp a b).objs.size]}
abbrev xr(hp:Heap)(a b:Addr):Heap:=(xt hp a b).push {cls:=.type "tuple",data:=.seq #[.none,.none]}
abbrev rk(hp:Heap)(a b:Addr):Heap:=(xr hp a b).push {cls:=.type "zip",data:=.fields #[.none,.bool false,.bool false,.ref (xu hp a b).objs.size,.ref (xt hp a b).objs.size]}
def NB(a b:Addr)(xs ys:Array Value):Meets (Builtin.«zip.__new__» ⟨[.type "zip",.ref a,.ref b],[]⟩) (λ_ R s=>s.heap.IsTuple a xs/\s.heap.IsTuple b ys/\R (.ok (.ret (.ref (xr s.heap a b).objs.size))) {s with heap:=rk s.heap a b}):=
 .of_wp λprog w A R s h=>by
  obtain⟨hp,g,d,tk,os⟩:=s;obtain⟨ha,hb,h⟩:=h;have sz:=sub_zip;have ha:Heap.IsTuple (Shared.heap ⟨hp,g,d,tk,os⟩) a xs:=ha;have hb:Heap.IsTuple (Shared.heap ⟨hp.push {cls:=.type "tuple_iterator",data:=.fields #[.ref a,.int 0 0]},g,d,tk,os⟩) b ys:=Heap.IsTuple.push hb _;wp_walk using wpAny_pyIter_tuple ha,wpAny_pyIter_tuple hb;exact⟨_,rfl,h⟩
theorem Ng{a b:Addr}{xs ys:Array Value}{Q:Value->Shared->Prop}(ha:s.heap.IsTuple a xs)(hb:s.heap.IsTuple b ys)
  (q:∀h',IsZip h' (s.heap.objs.size+4) (s.heap.objs.size+2) (s.heap.objs.size+3) .none->IsPair h' (s.heap.objs.size+2) (.ref s.heap.objs.size) (.ref (s.heap.objs.size+1))->IsPair h' (s.heap.objs.size+3) .none .none ->
   h'.IsTupleIter s.heap.objs.size a 0->h'.IsTupleIter (s.heap.objs.size+1) b 0->h'.objs.size=s.heap.objs.size+5->(∀c o,s.heap.get? c=some o->h'.get? c=some o)->Q (.ref (s.heap.objs.size+4)) {s with heap:=h'}):
  wpAny (model prog w) A (call (.type "zip") [.ref a,.ref b]) Q E s:=by
 refine callType_new F.called_zip (by decide) (F.typeCall_zip_2 _ _) (F.newCall_zip_2 _ _) (λo=>F.args_object_init_3 o _ _) F.entry_zip_new (NB a b xs ys) ⟨ha,hb,?_⟩;have n1:(xw s.heap a b).objs.size=s.heap.objs.size+1:=ib ..;have n2:(xu s.heap a b).objs.size=s.heap.objs.size+2:=by rw[ib,n1]
 have n3:(xt s.heap a b).objs.size=s.heap.objs.size+3:=by rw[ib,n2]
 have n4:(xr s.heap a b).objs.size=s.heap.objs.size+4:=by rw[ib,n3]
 have n5:(rk s.heap a b).objs.size=s.heap.objs.size+5:=by rw[ib,n4]
 have p5:(rk s.heap a b).get? (xr s.heap a b).objs.size=some _:=cf _ rfl;have p4:(rk s.heap a b).get? (xt s.heap a b).objs.size=some _:=bc _ (cf _ rfl);have p3:(rk s.heap a b).get? (xu s.heap a b).objs.size=some _:=bc _ (bc _ (cf _ rfl));have p2:(rk s.heap a b).get? (xw s.heap a b).objs.size=some _:=bc _ (bc _ (bc _ (cf _ rfl)));have p1:(rk s.heap a b).get? s.heap.objs.size=some _:=bc _ (bc _ (bc _ (bc _ (cf _ rfl))));show _/\_;rw[n2,n3,n4]at p5;rw[n1,n2]at p3;rw[n3]at p4;rw[n1]at p2;rw[n4];exact⟨⟨_,p5,rfl⟩,q _ p5 p3 p4 ⟨_,p1,rfl,rfl⟩ ⟨_,p2,rfl,rfl⟩ n5 λc o e=>bc _ (bc _ (bc _ (bc _ (bc _ e))))⟩
end
section
variable{X:Cx}{Qx:List (Addr×Obj)}{σ:St}{H:Hp}{s:Shared}{h':Heap}
def ag.turnedL{t':Nat}{ch:List Addr}(I:ag X Qx σ H s)(hf:∀b∈ch,fM X Qx H b)(k:∀b o,b∉ch->s.heap.get? b=some o->h'.get? b=some o):ag X Qx σ H {s with heap:=h',toks:=t'}:=by
 have nit:∀b u,H b=some u->b∉ch:=λb u e z=>by rw[(hf b z).1]at e;cases e
 refine I.step (g':=s.gens) (d':=s.drawn) (ch:=ch) (λb hb=>?_) (λb o _ _ hc e _=>k b o hc e) (λb o _ _ hc e _=>⟨o.slots,k b o hc e⟩) (λ_ _ _ _ n=>n)
  (λb o hc e=>⟨o,k b o hc e⟩) (λ_ _ e=>e) (λ_ _ _ e=>e) (λb ps e=>⟨#[],by rw[e];simp⟩) (λm hm=>?_) (λb u e=>?_) I.bare
 ·obtain⟨_,f1,_,f3,f4,f5⟩:=hf b hb;exact⟨f3,f1,f4,f5⟩
 ·obtain⟨o,es,ep,ho,r⟩:=hm;exact⟨o,es,ep,k _ o (λz=>(hf _ z).2.1 rfl) ho,r⟩
 ·refine(I.hok b u e).stay (λc v hc q=>k c v ?_ q) (λ_ q=>q) λ_ _ q=>q
  rcases hc with z|z
  ·rw[z];exact nit b u e
  ·exact nit c _ z
end
def m9(t:Bool)(K:W.Frag)(H:Hp)(a:Addr)(xs:List V):Prop:=match t with
 |false=>bu K H a xs
 |true=>cq K H a xs
def y4(t:Bool)(K:W.Frag)(a b:Addr):It:=
  ⟨λi H=>∃xs ys x y,m9 t K H a xs/\m9 t K H b ys/\xs[i]?=some x/\ys[i]?=some y,
   λi H v H'=>∃p x y,v=.ref p/\H p=none/\H'=ar H p (.tup [x,y])/\(∀xs,m9 t K H a xs->xs[i]?=some x)/\∀ys,m9 t K H b ys->ys[i]?=some y,
   λi H=>∃xs ys,m9 t K H a xs/\m9 t K H b ys/\(xs.length<=i\/ys.length<=i)⟩
def vf(t:Bool)(i a:Addr)(k:Nat)(h:Heap):Prop:=match t with
 |false=>h.IsListIter i a k
 |true=>h.IsTupleIter i a k
def sqX(t:Bool)(a:Addr)(h:Heap)(vs:Array Value):Prop:=match t with
 |false=>h.IsList a vs
 |true=>h.IsTuple a vs
def gE{prog:Program}{w:World}(t:Bool)(i a:Addr):lX prog w i a (vf t i a) (sqX t a):=by
 cases t
 ·exact OD i a
 ·exact LR i a
section
variable{X:Cx}{Qx:List (Addr×Obj)}{σ:St}{H:Hp}{s:Shared}
def ag.sqX{t:Bool}{a:Addr}{xs:List V}(I:ag X Qx σ H s)(h:m9 t X.K H a xs):∃vs:List Value,ai xs vs/\L2.sqX t a s.heap vs.toArray/\xs.length<=sizeLine:=by
 cases t
 ·obtain⟨its,r,p,hz⟩:=I.list h;exact⟨its,r,p.isList,hz⟩
 ·obtain⟨its,r,p,hz⟩:=I.tuple h;exact⟨its,r,p,hz⟩
def ag.sqX_inj{t:Bool}{a:Addr}{xs ys:List V}(I:ag X Qx σ H s)(h:m9 t X.K H a xs)(h':m9 t X.K H a ys):xs=ys:=by
 cases t
 ·exact I.list_inj h h'
 ·exact I.tuple_inj h h'
end
theorem LX{P:Program}{w:World}{K:W.Frag}{es:List Expr}{ek:Nat}{pos:Pos}(t:Bool)(a b z TI TO i1 i2:Addr)(D:ZipApart z TI TO i1 i2 a b):
  iW P w K (.Tuple es ek pos) (y4 t K a b) [z,TI,TO,i1,i2] z (λi h=>IsZip h z TI TO .none/\IsPair h TI (.ref i1) (.ref i2)/\(∃x y,IsPair h TO x y)/\vf t i1 a i h/\vf t i2 b i h) where
 mem:=by simp
 obj:=λi h st c hc=>by
  obtain⟨hz,hI,⟨x,y,hO⟩,j1,j2⟩:=st;simp only[qh_,da,or_false]at hc;rcases hc with e|e|e|e|e<;>subst e
  ·exact⟨_,hz,λv u=>by cases u⟩
  ·exact⟨_,hI,λv u=>by cases u⟩
  ·exact⟨_,hO,λv u=>by cases u⟩
  ·exact(gE (prog:=P) (w:=w) t _ a).obj _ _ j1
  ·exact(gE (prog:=P) (w:=w) t _ b).obj _ _ j2
 keep:=λi h h' st k=>by
  obtain⟨hz,hI,⟨x,y,hO⟩,j1,j2⟩:=st;exact⟨k z (by simp) _ hz,k TI (by simp) _ hI,⟨x,y,k TO (by simp) _ hO⟩,(gE (prog:=P) (w:=w) t i1 a).itk _ _ _ j1 λo e=>k i1 (by simp) o e,(gE (prog:=P) (w:=w) t i2 b).itk _ _ _ j2 λo e=>k i2 (by simp) o e⟩
 item:=by
  intro X hP hw hK hc i Qx s σ H E I hf st hg;subst hP hw hK;obtain⟨xs,ys,x,y,qa,qb,hx,hy⟩:=hg;obtain⟨hz,hI,⟨x0,y0,hO⟩,j1,j2⟩:=st;obtain⟨va,ra,pa,za⟩:=I.sqX qa;obtain⟨vb,rb,pb,zb⟩:=I.sqX qb;obtain⟨u,hu,ru⟩:=ra.get hx;obtain⟨v,hv,rv⟩:=rb.get hy;have hT:s.TypeIs (.ref z) "zip":=⟨_,hz,rfl⟩
  unfold pyNext;refine af (wpAny_attempt (wpAny_callSpecial?_slot (name:=Str.ofString "__next__") hT F.slot_zip_next (jz F.slot_zip_next hT F.entry_zip_next (KM (gE t i1 a) (gE t i2 b) D hz hI hO j1 j2 pa pb (x:=u) (y:=v) (by simpa using hu) (by simpa using hv)
   λh' a1 a2 a3 a4 a5 a6 a7=>aj ⟨_,rfl,?_⟩) (F.args_zip_next_1 _))))
  refine wpAny_letOwnedTupleGo_zip (s:={s with heap:=h'}) a1 λh2 b1 b2=>?_
  have hn:∀c∈[z,TI,TO,i1,i2],c≠s.heap.objs.size:=λc hc' e=>by
   obtain⟨o,ho,_⟩:∃o,s.heap.get? c=some o/\True:=by
    simp only[qh_,da,or_false]at hc';rcases hc' with q|q|q|q|q
    ·exact⟨_,q▸hz,trivial⟩
    ·exact⟨_,q▸hI,trivial⟩
    ·exact⟨_,q▸hO,trivial⟩
    ·obtain⟨o,ho,_⟩:=(gE (prog:=X.prog) (w:=X.w) t i1 a).obj _ _ j1;exact⟨o,q▸ho,trivial⟩
    ·obtain⟨o,ho,_⟩:=(gE (prog:=X.prog) (w:=X.w) t i2 b).obj _ _ j2;exact⟨o,q▸ho,trivial⟩
   exact absurd (bj ho) (by rw[e];exact e_ _)
  have I0:ag X Qx σ (ar H s.heap.objs.size (.tup [x,y])) {s with heap:=s.heap.push {cls:=.type "tuple",data:=.seq #[u,v]}}:=
   I.laid (t':=s.toks) (λc o e=>bc _ e) (ba _) ⟨by show 2<=sizeLine;decide,[u,v],.cons ru (.cons rv .nil),IsTup.new _ _⟩
  have hf0:∀c∈[z,TI,TO,i1,i2],fM X Qx (ar H s.heap.objs.size (.tup [x,y])) c:=λc hc'=>⟨by rw[bP (hn c hc')];exact(hf c hc').1,(hf c hc').2⟩
  have I1:ag X Qx σ (ar H s.heap.objs.size (.tup [x,y])) {s with heap:=h2}:=ag.turnedL (s:={s with heap:=s.heap.push {cls:=.type "tuple",data:=.seq #[u,v]}}) (t':=s.toks) (ch:=[z,TI,TO,i1,i2]) I0 hf0 λc o hc' e=>by
   simp only[qh_,da,or_false,not_or]at hc';obtain⟨c1,c2,c3,c4,c5⟩:=hc';by_cases hcn:c=s.heap.objs.size
   ·subst hcn;have e':(s.heap.push {cls:=.type "tuple",data:=.seq #[u,v]}).get? s.heap.objs.size=some o:=e;rw[cf _ rfl]at e';cases e';exact b2.extBut _ _ c1 a5
   ·refine b2.extBut _ _ c1 (a7 c o c1 c3 c4 c5 ?_);have e':(s.heap.push {cls:=.type "tuple",data:=.seq #[u,v]}).get? c=some o:=e;rw[Heap.get?_push_ne _ _ _ hcn]at e';exact e'
  refine⟨.ref s.heap.objs.size,_,I1,rfl,⟨_,x,y,rfl,I.hok.fresh (ba _),rfl,λxs' h=>by rw[I.sqX_inj h qa];exact hx,λys' h=>by rw[I.sqX_inj h qb];exact hy⟩,⟨b1,?_,⟨u,v,b2.extBut _ _ D.TOz a2⟩,?_,?_⟩,λc hc'=>(hf0 c hc').1⟩
  ·exact b2.extBut _ _ D.TIz (a7 _ _ D.TIz D.TITO D.TIi1 D.TIi2 hI)
  ·exact(gE (prog:=X.prog) (w:=X.w) t i1 a).itk _ _ _ a3 λo e=>b2.extBut _ _ D.i1z e
  ·exact(gE (prog:=X.prog) (w:=X.w) t i2 b).itk _ _ _ a4 λo e=>b2.extBut _ _ D.i2z e
 done:=by
  intro X hP hw hK hc i Qx s σ H E I hf st hg;subst hP hw hK;obtain⟨xs,ys,qa,qb,hl⟩:=hg;obtain⟨hz,hI,⟨x0,y0,hO⟩,j1,j2⟩:=st;obtain⟨va,ra,pa,za⟩:=I.sqX qa;obtain⟨vb,rb,pb,zb⟩:=I.sqX qb;have la:=ra.length;have lb:=rb.length;have hT:s.TypeIs (.ref z) "zip":=⟨_,hz,rfl⟩
  unfold pyNext;refine af (wpAny_attempt (wpAny_callSpecial?_slot (name:=Str.ofString "__next__") hT F.slot_zip_next (jz F.slot_zip_next hT F.entry_zip_next (Kc (gE t i1 a) (gE t i2 b) D (show X.A.in1.handled=none from I.ok.hd hc) hz hI hO j1 j2 pa pb
   (hl.elim (λh=>.inl (by simp;omega)) λh=>.inr (by simp;omega)) λh' e k he=>?_) (F.args_zip_next_1 _))))
  obtain⟨o,ho,hce⟩:=he;refine af (wpAny_isInstance (T:="StopIteration") (b:=true) ⟨o,ho,hce⟩ isSubtype_stop (aj ⟨rfl,I.turnedL (t':=s.toks) hf λc o hc' e=>?_⟩));simp only[qh_,da,or_false,not_or]at hc';exact k c o hc'.1 hc'.2.2.1 hc'.2.2.2.1 hc'.2.2.2.2 e
 self:=λ_ _ _ _ _ st h=>wpAny_pyIter_zip st.1 h
def Kb{n a b:Nat}(ha:a<n)(hb:b<n):ZipApart (n+4) (n+2) (n+3) n (n+1) a b:=by
 constructor<;>(intro (e:(_:Nat)=_);omega)
def M8:bootBuiltins "zip"=some (.type "zip"):=by decide +kernel
section
variable{X:Cx}
def GJ(K:W.Frag)(ta:TA):TI:=λσ H R=>ta σ H λvs H1=>∃(t:Bool) (a b:Addr),vs=[.ref a,.ref b]/\(∃xs,m9 t K H1 a xs)/\(∃ys,m9 t K H1 b ys)/\R (y4 t K a b) H1
def H_{a b:Expr}{ta:TA}{es:List Expr}{ek:Nat}{p pos pos':Pos}(hg:Gl X "zip")(hm:X.mg "zip"=none)(ha:PA X [a,b] ta)(hs:starEach [a,b] X.env=[(false,eval a X.env),(false,eval b X.env)]:=by rfl)(hs2:starEach [b] X.env=[(false,eval b X.env)]:=by rfl):
  PI X (.Tuple es ek pos') (.Call (.Name "zip" p) [a,b] [] pos) (GJ X.K ta):=by
 intro Qx s σ H R I h;refine Call_ (kG I hg hm M8 (PyProof.Rows.callWith_type1 (bf (ha pos Qx s σ H _ I h) λus s1 ⟨vs,H1,I1,r1,q1⟩=>?_) (by rw[hs,hs2]) (by rw[hs2];rfl)));obtain⟨t,a,b,e,⟨xs,hx⟩,⟨ys,hy⟩,q⟩:=q1;subst e;obtain⟨u,w',rfl,rx,ry⟩:=jN r1;cases rx;cases ry;obtain⟨va,ra,pa,za⟩:=I1.sqX hx;obtain⟨vb,rb,pb,zb⟩:=I1.sqX hy;have la:a<s1.heap.objs.size:=by
  cases t
  ·obtain⟨o,e,_⟩:=pa;exact bj e
  ·obtain⟨o,e,_⟩:=pa;exact bj e
 have lb:b<s1.heap.objs.size:=by
  cases t
  ·obtain⟨o,e,_⟩:=pb;exact bj e
  ·obtain⟨o,e,_⟩:=pb;exact bj e
 have fin:∀h':Heap,IsZip h' (s1.heap.objs.size+4) (s1.heap.objs.size+2) (s1.heap.objs.size+3) .none->IsPair h' (s1.heap.objs.size+2) (.ref s1.heap.objs.size) (.ref (s1.heap.objs.size+1))->IsPair h' (s1.heap.objs.size+3) .none .none ->
   vf t s1.heap.objs.size a 0 h'->vf t (s1.heap.objs.size+1) b 0 h'->h'.objs.size=s1.heap.objs.size+5->(∀c o,s1.heap.get? c=some o->h'.get? c=some o) ->
   wpAny (model X.prog X.w) X.A (pyIter (.ref (s1.heap.objs.size+4))) (yd X Qx σ (.Tuple es ek pos') R) X.xe {s1 with heap:=h'}:=by
  intro h' hz hI hO j1 j2 _ k;refine wpAny_pyIter_zip hz ?_;refine⟨_,[s1.heap.objs.size+4,s1.heap.objs.size+2,s1.heap.objs.size+3,s1.heap.objs.size,s1.heap.objs.size+1],_,_,H1,rfl,I1.kept (t':=s1.toks) k,LX t a b _ _ _ _ _ ?_,⟨hz,hI,⟨_,_,hO⟩,j1,j2⟩,λc hc=>?_,q⟩
  ·exact Kb la lb
  ·have:s1.heap.objs.size<=c:=by
    simp only[qh_,da,or_false]at hc;rcases hc with e|e|e|e|e<;>(rw[e];first|exact ba _|exact Nat.le_add_right _ _)
   exact I1.fpOk this (I1.hok.fresh this)
 cases t
 ·exact call_zip_2 pa pb fin
 ·exact Ng pa pb fin
theorem Nb(hc:X.calm=true):aq X (.builtin "min") (λxs H Q=>∃(p:Addr) (ns:List Int),xs=[.ref p]/\bu X.K H p (ns.map V.int)/\0<ns.length/\∀M,M∈ns->(∀a∈ns,M<=a)->Q (.int M) H):=by
 intro Qx s σ H xs us Q I r h;obtain⟨p,ns,rfl,hq,hn,q⟩:=h;obtain⟨u,rfl,rx⟩:=cN r;cases rx;obtain⟨its,rv,pl,hz⟩:=I.list hq;have hi:IntsAre its ns:=nY rv;obtain⟨zs,ez⟩:=hi.allInts.items;have en:ns=zs.toList.map (·.1):=by rw[<-hi.numsOf,<-nums_intItems,<-ez]
 have hz0:0<zs.size:=by rw[en,ak,di]at hn;exact hn
 have hl:=pl.isList;rw[ez]at hl;refine min_intList (I.ok.hd hc) hl hz0 λv h' tk hv hk=>?_
 obtain⟨t,rfl⟩:=intItems_at hv;obtain⟨h1,h2⟩:=argBest_lt (numAt zs) (zs.size-1);refine⟨.int _,H,I.kept hk,⟨t,rfl⟩,q _ ?_ λa ha=>?_⟩
 ·rw[en,numAt_eq];exact getD_mem (by rw[ak,di];omega)
 ·rw[en]at ha;obtain⟨j,hj,rfl⟩:=mem_getD ha;rw[ak,di]at hj;have:=h2 j (by omega);rw[numAt_eq zs j]at this;exact this
theorem M_(hc:X.calm=true):aq X (.builtin "max") (λxs H Q=>∃(p:Addr) (ns:List Int),xs=[.ref p]/\bu X.K H p (ns.map V.int)/\0<ns.length/\∀M,M∈ns->(∀a∈ns,a<=M)->Q (.int M) H):=by
 intro Qx s σ H xs us Q I r h;obtain⟨p,ns,rfl,hq,hn,q⟩:=h;obtain⟨u,rfl,rx⟩:=cN r;cases rx;obtain⟨its,rv,pl,hz⟩:=I.list hq;have hi:IntsAre its ns:=nY rv;obtain⟨zs,ez⟩:=hi.allInts.items;have en:ns=zs.toList.map (·.1):=by rw[<-hi.numsOf,<-nums_intItems,<-ez]
 have hz0:0<zs.size:=by rw[en,ak,di]at hn;exact hn
 have hl:=pl.isList;rw[ez]at hl;refine max_intList (I.ok.hd hc) hl hz0 λv h' tk hv hk=>?_
 obtain⟨t,rfl⟩:=intItems_at hv;obtain⟨h1,h2⟩:=argBest_gt (numAt zs) (zs.size-1);refine⟨.int _,H,I.kept hk,⟨t,rfl⟩,q _ ?_ λa ha=>?_⟩
 ·rw[en,numAt_eq];exact getD_mem (by rw[ak,di];omega)
 ·rw[en]at ha;obtain⟨j,hj,rfl⟩:=mem_getD ha;rw[ak,di]at hj;have:=h2 j (by omega);rw[numAt_eq zs j]at this;exact this
end
theorem DH{us:List Value}{ns:List Int}(h:IntsAre us ns):ai (ns.map V.int) us:=by
 induction h with
 |nil=>exact .nil
 |cons n t _ ih=>exact .cons ⟨t,rfl⟩ ih
section
variable{X:Cx}
theorem call_sortedI:aq X (.builtin "sorted") (λxs H Q=>∃(p:Addr) (ns:List Int),xs=[.ref p]/\bu X.K H p (ns.map V.int)/\ns.length<64 /\
  ∀(ns':List Int) (l:Addr),ns'.Perm ns->ns'.Pairwise (·<=·)->H l=none->Q (.ref l) (ar H l (.lst (ns'.map V.int)))):=by
 intro Qx s σ H xs us Q I r h;obtain⟨p,ns,rfl,hq,h64,q⟩:=h;obtain⟨u,rfl,rx⟩:=cN r;cases rx;obtain⟨its,rv,pl,hz⟩:=I.list hq;have hi:IntsAre its ns:=nY rv;have hll:=rv.length;rw[ak]at hll;refine sorted_ints pl.isList hi (by omega) λout ns' a1 a2 a3=>?_
 obtain⟨e,he⟩:=sortedAll_at s.heap its out;have hlen:=a2.length_eq;refine⟨.ref (s.heap.objs.size+1),_,I.laid (t':=s.toks) (λb o e=>sortedAll_old e) (g7 _) (show aw X.prog X.w _ _ _ (.lst (ns'.map V.int)) from ⟨?_,out.toList,e,DH a1,he⟩),rfl,q ns' _ a2 a3 (I.hok.fresh (g7 _))⟩;rw[ak,hlen];exact j0 (fh h64 (by decide))
end
def vn(x:Str):It:=⟨λi _=>i<x.cps.size,λi H v H'=>H'=H/\∃c,x.cps[i]?=some c/\v=.str ⟨#[c]⟩,λi _=>x.cps.size<=i⟩
def OH{P:Program}{w:World}{K:W.Frag}{tg:Expr}(it:Addr)(x:Str)(t:Tok):iW P w K tg (vn x) [it] it (λi h=>h.IsStrIter it "str_ascii_iterator" x t i) where
 mem:=by simp
 obj:=λi h st b hb=>by
  have e:b=it:=by simpa using hb
  subst e;obtain⟨o,e,c,d⟩:=st;exact⟨o,e,λv z=>by rw[d]at z;cases z⟩
 keep:=λi h h' st k=>let ⟨o,ho,r⟩:=st;⟨o,k it (by simp) o ho,r⟩
 item:=by
  intro X hP hw hK hc i Qx s σ H E I hf st hg;subst hP hw hK;obtain⟨f0,f1,f2,f3,f4,f5⟩:=hf it (by simp);have W:=Walks.strAscii (prog:=X.prog) (w:=X.w) (I.ok.hd hc) it x t;refine W.item i s _ _ hg st λv h' tk hv st' kk=>?_
  obtain⟨c,u,hc',rfl⟩:=hv;have I1:ag X Qx σ H {s with heap:=h',toks:=tk}:=I.turned (λb o hb e=>kk b o (by simpa using hb) e) f0 f1 f3 f4 f5;obtain⟨o,e,c1,d⟩:=id st';exact⟨_,rfl,lL (s:={s with heap:=h',toks:=tk}) e c1 d (by decide) ⟨.str ⟨#[c]⟩,H,I1,⟨u,rfl⟩,⟨rfl,c,hc',rfl⟩,st',λb hb=>(hf b hb).1⟩⟩
 done:=by
  intro X hP hw hK hc i Qx s σ H E I hf st hg;subst hP hw hK;obtain⟨f0,f1,f2,f3,f4,f5⟩:=hf it (by simp);exact wpAny_pyNext_ascii_end (I.ok.hd hc) st (by have:x.cps.size<=i:=hg;simp;omega) λh' eb=>⟨rfl,I.turned (t':=s.toks) (λb o hb e=>eb b o hb e) f0 f1 f3 f4 f5⟩
 self:=λ_ _ _ _ _ st h=>wpAny_pyIter_striter_ascii st h
def OI{P:Program}{w:World}{K:W.Frag}{tg:Expr}(it:Addr)(x:Str)(t:Tok):iW P w K tg (vn x) [it] it (λi h=>h.IsStrIter it "str_iterator" x t i) where
 mem:=by simp
 obj:=λi h st b hb=>by
  have e:b=it:=by simpa using hb
  subst e;obtain⟨o,e,c,d⟩:=st;exact⟨o,e,λv z=>by rw[d]at z;cases z⟩
 keep:=λi h h' st k=>let ⟨o,ho,r⟩:=st;⟨o,k it (by simp) o ho,r⟩
 item:=by
  intro X hP hw hK hc i Qx s σ H E I hf st hg;subst hP hw hK;obtain⟨f0,f1,f2,f3,f4,f5⟩:=hf it (by simp);have W:=Walks.strWide (prog:=X.prog) (w:=X.w) (I.ok.hd hc) it x t;refine W.item i s _ _ hg st λv h' tk hv st' kk=>?_
  obtain⟨c,u,hc',rfl⟩:=hv;have I1:ag X Qx σ H {s with heap:=h',toks:=tk}:=I.turned (λb o hb e=>kk b o (by simpa using hb) e) f0 f1 f3 f4 f5;obtain⟨o,e,c1,d⟩:=id st';exact⟨_,rfl,lL (s:={s with heap:=h',toks:=tk}) e c1 d (by decide) ⟨.str ⟨#[c]⟩,H,I1,⟨u,rfl⟩,⟨rfl,c,hc',rfl⟩,st',λb hb=>(hf b hb).1⟩⟩
 done:=by
  intro X hP hw hK hc i Qx s σ H E I hf st hg;subst hP hw hK;obtain⟨f0,f1,f2,f3,f4,f5⟩:=hf it (by simp);exact wpAny_pyNext_wide_end (I.ok.hd hc) st (by have:x.cps.size<=i:=hg;simp;omega) λh' eb=>⟨rfl,I.turned (t':=s.toks) (λb o hb e=>eb b o hb e) f0 f1 f3 f4 f5⟩
 self:=λ_ _ _ _ _ st h=>wpAny_pyIter_striter_wide st h
section
variable{X:Cx}
def Lg:V->List V->Hp->VK->Prop:=λx vs H Q=>∃i j,x=.str i/\vs=[.str j]/\Q (.bl (decide (0+j.length<=i.length)&&Builtin.Str.subAt i j 0)) H
theorem OT:t5 X "str.startswith" Lg:=by
 intro Qx s σ H x vs v us Q I rx rv h;obtain⟨i,j,rfl,rfl,q⟩:=h;obtain⟨t,rfl⟩:=rx;obtain⟨u,rfl,t',rfl⟩:=rv.one;exact call_gives F.slot_str_startswith (typeIs_str _ _ _) F.entry_str_startswith (F.args_str_startswith_2 _ _) (gives_str_startswith i j t t') ⟨.bl _,H,I,rfl,q⟩
def Hs:V->List V->Hp->VK->Prop:=λx vs H Q=>∃i j,x=.str i/\vs=[.str j]/\∀n:Int,Q (.int n) H
theorem JN:t5 X "str.find" Hs:=by
 intro Qx s σ H x vs v us Q I rx rv h;obtain⟨i,j,rfl,rfl,q⟩:=h;obtain⟨t,rfl⟩:=rx;obtain⟨u,rfl,t',rfl⟩:=rv.one;exact call_gives F.slot_str_find (typeIs_str _ _ _) F.entry_str_find (F.args_str_find_2 _ _) (gives_str_find i j t t') ⟨.int _,H,I.tok _,⟨_,rfl⟩,q _⟩
end
def KD(prm:Params):List DictEntry->List (Str×Str)->Prop
 |[],[]=>True
 |e::es,kv::kvs=>e.hash=PyData.keyHash prm kv.1/\(∃t,e.key=.str kv.1 t)/\(∃t,e.val=.str kv.2 t)/\KD prm es kvs
 |_,_=>False
structure Ac (K:W.Frag) (prm:Params) (d:Addr) (kvs:List (Str×Str)):Prop where
 obj:∃(es:Array DictEntry) (ep:Nat),K.lookup d=some ⟨.type "dict",none,.dict es ep,#[]⟩/\KD prm es.toList kvs
 nd:(kvs.map (·.1)).Nodup
def getS(kvs:List (Str×Str))(x:Str):Option Str:=(kvs.find? λkv=>kv.1=x).map (·.2)
def KD.keys{P:Program}{w:World}:∀{es:List DictEntry}{kvs:List (Str×Str)},KD w.params es kvs->∀e∈es,∃k,(bW P w).is k e.key=true/\e.hash=(bW P w).hash k
 |[],[],_,e,he=>nomatch he
 |a::es,kv::kvs,⟨h1,⟨t,h2⟩,_,h4⟩,e,he=>by
  rcases qh_.mp he with z|z
  ·subst z;exact⟨.inr kv.1,by rw[h2];exact qM P w kv.1 t,by rw[h1];rfl⟩
  ·exact KD.keys h4 e z
def KD.pairs{P:Program}{w:World}:∀{es:List DictEntry}{kvs:List (Str×Str)},KD w.params es kvs->∃vs:List (av×Value),Pairs (bW P w) es vs/\vs.map (·.1)=kvs.map (λkv=>Sum.inr kv.1) /\
  ∀x y,getS kvs x=some y->∃t,valueAt vs (.inr x)=some (.str y t)
 |[],[],_=>⟨[],.nil,rfl,λx y h=>nomatch h⟩
 |a::es,kv::kvs,⟨h1,⟨t,h2⟩,⟨t',h3⟩,h4⟩=>by
  obtain⟨vs,p,m,g⟩:=KD.pairs (P:=P) h4;refine⟨(.inr kv.1,.str kv.2 t')::vs,.cons (by rw[h2];exact qM P w kv.1 t) h3 p,by simp[m],λx y h=>?_⟩;by_cases e:kv.1=x
  ·subst e;have:kv.2=y:=by simpa[getS]using h
   subst this;exact⟨t',by simp[valueAt]⟩
  ·have h':getS kvs x=some y:=by simpa[getS,e]using h
   obtain⟨t'',h''⟩:=g x y h';exact⟨t'',by
    have:(Sum.inr kv.1:av)≠.inr x:=λz=>e (Sum.inr.inj z)
    simpa[valueAt,this]using h''⟩
section
variable{X:Cx}
def Pu(d:Addr)(kvs:List (Str×Str)):R2:=λx y H Q=>∃i j,x=.ref d/\y=.str i/\getS kvs i=some j/\Q (.str j) H
def Ga{d:Addr}{kvs:List (Str×Str)}(D:Ac X.K X.w.params d kvs):nh X (Pu d kvs):=by
 intro value slice Qx s σ H x y v u Q I rx ry h hs;obtain⟨i,j,rfl,rfl,hg,q⟩:=h;cases rx;obtain⟨t,rfl⟩:=ry;obtain⟨es,ep,lk,kd⟩:=D.obj;obtain⟨vs,hp,hm,hv⟩:=KD.pairs (P:=X.prog) kd;obtain⟨t',hv⟩:=hv i j hg;have ho:=I.kIn d _ lk;have hnd:(vs.map (·.1)).Nodup:=by
  rw[hm,show kvs.map (λkv=>(Sum.inr kv.1:av))=(kvs.map (·.1)).map Sum.inr by simp];unfold List.Nodup;rw[qe2_];exact D.nd.imp λh z=>h (Sum.inr.inj z)
 have dd:s.heap.DictOf (bW X.prog X.w) d vs:=⟨_,es,ep,ho,⟨rfl,rfl,rfl⟩,rfl,λe he=>KD.keys kd e (by simpa using he),hp,hnd⟩
 exact tail_any ⟨_,ho,rfl⟩ slot_dict_getitem.lookup (wpAny_getItem_of (qM _ _ i t) dd.mapOf hv ⟨.str j,H,I.tok _,⟨t',rfl⟩,q⟩) hs
def Gu:V->Option Int->Option Int->Hp->VK->Prop:=λx lo hi H Q=>∃z,x=.str z/\z.length<=sizeLine/\Q (.str (Txt.slice z lo hi)) H
theorem Kl:o_ X Gu:=by
 intro Qx s σ H x v vl vu lo hi sl Q I rx hs pl pu h;obtain⟨z,rfl,hz,q⟩:=h;obtain⟨t,rfl⟩:=rx;obtain⟨o,ho,hc,hd⟩:=hs;refine⟨"str",_,F.slot_str_getitem.lookup,typeIs_str _ _ _,?_⟩;have fin:∀t' k,EP X Qx σ Q (.str (Txt.slice z lo hi) t') {s with toks:=k}:=λt' k=>⟨.str _,H,I.tok k,⟨t',rfl⟩,q⟩
 cases pl with
 |none=>cases pu with
  |none=>exact wpAny_getItem_str_slice (l:=none) (u:=none) (st:=none) ⟨o,ho,hc,hd⟩ rfl (post_val_or_str ⟨bw (Txt.slice_le z _ _) hz,fin⟩)
  |int j uj=>exact wpAny_getItem_str_slice (l:=none) (u:=some (j,uj)) (st:=none) ⟨o,ho,hc,hd⟩ rfl (post_val_or_str ⟨bw (Txt.slice_le z _ _) hz,fin⟩)
 |int i ui=>cases pu with
  |none=>exact wpAny_getItem_str_slice (l:=some (i,ui)) (u:=none) (st:=none) ⟨o,ho,hc,hd⟩ rfl (post_val_or_str ⟨bw (Txt.slice_le z _ _) hz,fin⟩)
  |int j uj=>exact wpAny_getItem_str_slice (l:=some (i,ui)) (u:=some (j,uj)) (st:=none) ⟨o,ho,hc,hd⟩ rfl (post_val_or_str ⟨bw (Txt.slice_le z _ _) hz,fin⟩)
theorem jY{ss:List Str}:∀{us:List Value},ai (ss.map V.str) us->StrsAre us ss:=by
 induction ss with
 |nil=>intro us r;rw[jw]at r;cases r;exact .nil
 |cons n ns ih=>
  intro us r;rw[dz]at r;cases r with
  |cons r1 r2=>
   obtain⟨t,e⟩:=r1;subst e;exact .cons n t (ih r2)
theorem qI{us:List Value}{ss:List Str}(h:StrsAre us ss):ai (ss.map V.str) us:=by
 induction h with
 |nil=>exact .nil
 |cons n t _ ih=>exact .cons ⟨t,rfl⟩ ih
theorem call_sortedS:aq X (.builtin "sorted") (λxs H Q=>∃(p:Addr) (ss:List Str),xs=[.ref p]/\bu X.K H p (ss.map V.str)/\ss.length<64 /\
  ∀(ss':List Str) (l:Addr),ss'.Perm ss->sortedS ss'=true->H l=none->Q (.ref l) (ar H l (.lst (ss'.map V.str)))):=by
 intro Qx s σ H xs us Q I r h;obtain⟨p,ns,rfl,hq,h64,q⟩:=h;obtain⟨u,rfl,rx⟩:=cN r;cases rx;obtain⟨its,rv,pl,hz⟩:=I.list hq;have hi:StrsAre its ns:=jY rv;have hll:=rv.length;rw[ak]at hll;refine sorted_strs pl.isList hi (by omega) λout ns' a1 a2 a3=>?_
 obtain⟨e,he⟩:=sortedAll_at s.heap its out;have hlen:=a2.length_eq;refine⟨.ref (s.heap.objs.size+1),_,I.laid (t':=s.toks) (λb o e=>sortedAll_old e) (g7 _) (show aw X.prog X.w _ _ _ (.lst (ns'.map V.str)) from ⟨?_,out.toList,e,qI a1,he⟩),rfl,q ns' _ a2 a3 (I.hok.fresh (g7 _))⟩;rw[ak,hlen];exact j0 (fh h64 (by decide))
def cJ(ss:List Str):List Nat:=(ss.map λs=>s.cps.toList).flatten
def Bu:∀{us:List Value}{ss:List Str},StrsAre us ss->∃l:List (Str×Tok),us=strValues l/\l.map (·.1)=ss
 |_,_,.nil=>⟨[],rfl,rfl⟩
 |_,_,.cons y t h=>by
  obtain⟨l,e1,e2⟩:=Bu h;exact⟨(y,t)::l,by rw[e1];rfl,by simp[e2]⟩
def wP:∀ss:List Str,(Str.join ⟨#[]⟩ ss).cps.toList=cJ ss
 |[]=>rfl
 |[x]=>by simp[Str.join,cJ]
 |x::y::r=>by
  have ih:=wP (y::r);show((x++(⟨#[]⟩:Str)++Str.join ⟨#[]⟩ (y::r)):Str).cps.toList=_;have e:∀a b:Str,(a++b).cps.toList=a.cps.toList++b.cps.toList:=λa b=>by
   show(a.cps++b.cps).toList=_;simp
  rw[e,e,ih];simp[cJ]
def Ci:∀(ss:List Str) (n:Nat),ss.foldl (λa s=>a+s.length+0) n=n+(cJ ss).length
 |[],n=>by simp[cJ]
 |s::r,n=>by
  rw[f9,Ci r];simp[cJ,Str.length];omega
def Ht(K:W.Frag):V->List V->Hp->VK->Prop:=λx vs H Q=>∃p ss,x=.str ⟨#[]⟩/\vs=[.ref p]/\bu K H p (ss.map V.str)/\(cJ ss).length<=100000/\∀z:Str,z.cps.toList=cJ ss->Q (.str z) H
theorem Ln:t5 X "str.join" (Ht X.K):=by
 intro Qx s σ H x vs v us Q I rx rv h;obtain⟨p,ss,rfl,rfl,hq,hz,q⟩:=h;obtain⟨t,rfl⟩:=rx;obtain⟨u,rfl,ru⟩:=rv.one;cases ru;obtain⟨its,rv,pl,hz'⟩:=I.list hq;obtain⟨l,e1,e2⟩:=Bu (jY rv);have hl:=pl.isList;rw[e1]at hl;have hlen:((l.map (·.1)).toArray.foldl (λa s=>a+s.length+(⟨#[]⟩:Str).length) 0)=(cJ ss).length:=by
  rw[e2,List.foldl_toArray];show ss.foldl (λa s=>a+s.length+0) 0=_;rw[Ci];omega
 refine call_meets F.slot_str_join (typeIs_str _ _ _) F.entry_str_join (F.args_str_join_2 _ _) (meets_str_join_list ⟨#[]⟩ t p l (by
  rw[hlen];show decide (_ > sizeLine)=false;exact i4 (qG2_.mpr (bw hz (by decide))))) ⟨hl,?_⟩
 have hj:∀z:Str,z=Str.join ⟨#[]⟩ ss->∀t' k,EP X Qx σ Q (.str z t') {s with toks:=k}:=λz e t' k=>⟨.str z,H,I.tok k,⟨t',rfl⟩,q z (by rw[e,wP])⟩
 have hlz:(Str.join ⟨#[]⟩ ss).length<=sizeLine:=by
  show(Str.join ⟨#[]⟩ ss).cps.size<=_;rw[<-di,wP];exact bw hz (by decide)
 match l,e2 with
 |[],e2=>exact⟨by rw[StrLaws.glued_eq_join];exact dq _,hj _ (by rw[<-e2];rw[StrLaws.glued_eq_join]) _ _⟩
 |[pp],e2=>exact hj _ (by rw[<-e2];rfl) _ s.toks
 |a::b::r,e2=>exact⟨by rw[StrLaws.glued_eq_join,e2];exact hlz,hj _ (by rw[StrLaws.glued_eq_join,e2]) _ _⟩
end
def eO(xs:Array Nat):Prop:=∀i j:Nat,i<j->∀a b,xs[i]?=some a->xs[j]?=some b->a<b
structure zd (xs:Array Nat) (j p:Nat):Prop where
 le:p<=xs.size
 lt:∀i a,i<p->xs[i]?=some a->a<j
 ge:∀i a,p<=i->xs[i]?=some a->j<=a
def wW{xs:Array Nat}(R:eO xs)(j:Nat):∀(f lo hi:Nat),hi-lo<=f->lo<=hi->hi<=xs.size->(∀i a,i<lo->xs[i]?=some a->a<j)->(∀i a,hi<=i->xs[i]?=some a->j<=a)->zd xs j (SetTable.below.go xs j f lo hi)
 |0,lo,hi,h,l,z,h1,h2=>by
  rw[SetTable.below.go.eq_1];have:lo=hi:=by omega
  subst this;exact⟨z,h1,h2⟩
 |f+1,lo,hi,h,l,z,h1,h2=>by
  rw[SetTable.below.go.eq_2];by_cases c:lo<hi
  ·rw[if_pos c];have hm:(lo+hi) / 2<xs.size:=by omega
   have em:xs[(lo+hi) / 2]?=some xs[(lo+hi) / 2]:=ji hm;have eg:xs.getD ((lo+hi) / 2) j=xs[(lo+hi) / 2]:=by simp[Array.getD,hm]
   dsimp only;rw[eg];by_cases d:xs[(lo+hi) / 2]<j
   ·rw[if_pos d];refine wW R j f _ _ (by omega) (by omega) z (λi a hi' e=>?_) h2;by_cases q:i=(lo+hi) / 2
    ·subst q;rw[em]at e;cases e;exact d
    ·exact fh (R i _ (by omega) a _ e em) d
   ·rw[if_neg d];refine wW R j f _ _ (by omega) (by omega) (by omega) h1 λi a hi' e=>?_
    by_cases q:i=(lo+hi) / 2
    ·subst q;rw[em]at e;cases e;omega
    ·have:=R _ i (by omega) _ a em e;omega
  ·rw[if_neg c];have:lo=hi:=by omega
   subst this;exact⟨z,h1,h2⟩
def BJ{xs:Array Nat}(R:eO xs)(j:Nat):zd xs j (SetTable.below xs j):=by
 unfold SetTable.below;refine wW R j _ _ _ (by omega) (dq _) (ba _) (λi a h=>absurd h (qp _)) λi a h e=>?_
 have:=(qu2_.mp e).1;omega
def KW{xs:Array Nat}(R:eO xs){j p:Nat}(B:zd xs j p):SetTable.below xs j=p:=by
 have C:=BJ R j;generalize SetTable.below xs j=q at C;rcases sf p q with h|h|h
 ·have hp:p<xs.size:=by have:=C.le;omega
  have e:=ji hp;have:=C.lt p _ h e;have:=B.ge p _ (ba _) e;omega
 ·exact h.symm
 ·have hp:q<xs.size:=by have:=B.le;omega
  have e:=ji hp;have:=B.lt q _ h e;have:=C.ge q _ (ba _) e;omega
def Om{xs:Array Nat}{p x:Nat}(hp:p<=xs.size)(i:Nat):(SetTable.insertAt xs p x)[i]?=if i<p then xs[i]? else if i=p then some x else xs[i-1]?:=by
 unfold SetTable.insertAt;have s0:(xs.extract 0 p).size=p:=by simp[Array.size_extract];omega
 rw[Array.getElem?_append];rw[Array.size_push,s0];by_cases h1:i<p
 ·rw[if_pos h1,if_pos (by omega),Array.getElem?_push,if_neg (by rw[s0];omega),Array.getElem?_extract];simp[h1];intro z;omega
 ·rw[if_neg h1];by_cases h2:i=p
  ·subst h2;rw[if_pos rfl,if_pos (by omega),Array.getElem?_push,if_pos s0.symm]
  ·rw[if_neg h2,if_neg (by omega),Array.getElem?_extract];have e:p+(i-(p+1))=i-1:=by omega
   rw[e];by_cases z:i-1<xs.size
   ·simp;omega
   ·simp[z]
def OK{xs:Array Nat}(R:eO xs){x:Nat}(h:xs[SetTable.below xs x]?≠some x):eO (SetTable.insertAt xs (SetTable.below xs x) x):=by
 have B:=BJ R x;generalize SetTable.below xs x=p at B h;have hg:∀i a,p<=i->xs[i]?=some a->x<a:=λi a hi e=>by
  rcases Nat.lt_or_ge x a with q|q
  ·exact q
  ·exfalso;have ax:=B.ge i a hi e;have:a=x:=by omega
   subst this;by_cases z:i=p
   ·exact h (z▸e)
   ·have lt:=(qu2_.mp e).1;have hp:p<xs.size:=by omega
    have ep:=ji hp;have:=R p i (by omega) _ _ ep e;have:=B.ge p _ (ba _) ep;omega
 intro i j hij a b ha hb;rw[Om B.le]at ha hb;by_cases i1:i<p
 ·rw[if_pos i1]at ha;by_cases j1:j<p
  ·rw[if_pos j1]at hb;exact R i j hij a b ha hb
  ·rw[if_neg j1]at hb;have al:=B.lt i a i1 ha;by_cases j2:j=p
   ·rw[if_pos j2]at hb;cases hb;exact al
   ·rw[if_neg j2]at hb;have:=hg (j-1) b (by omega) hb;omega
 ·rw[if_neg i1]at ha;rw[if_neg (by omega)]at hb;rw[if_neg (by omega)]at hb;by_cases i2:i=p
  ·rw[if_pos i2]at ha;cases ha;exact hg (j-1) b (by omega) hb
  ·rw[if_neg i2]at ha;exact R (i-1) (j-1) (by omega) a b ha hb
def iD(t:SetTable):Prop:=t.plain=true->eO t.place/\t.dummies=#[]
def MX:eO #[]:=λi j _ a b h=>by simp at h
def Cr(j:Nat):SetTable.has #[] j=false:=by unfold SetTable.has;simp
def DF{t:SetTable}(hd:t.dummies=#[]){f:Nat->Int}{h:Int}{j:Nat}{d:Option Nat}:∀(n:Nat) (p:SetTable.Probe),p.dummy=none->SetTable.probe.go t f h n p=some (.empty j d)->d=none/\t.place[SetTable.below t.place j]?≠some j
 |0,p,_,e=>by rw[SetTable.probe.go.eq_def]at e;cases e
 |n+1,p,hp,e=>by
  rw[SetTable.probe.go.eq_def]at e;dsimp only at e;have adv:(t.advance p).dummy=none:=by
   unfold SetTable.advance;split
   ·exact hp
   ·exact hp
  cases hs:t.slot p.j with
  |empty=>
   rw[hs]at e;dsimp only at e;cases e;refine⟨hp,λz=>?_⟩;unfold SetTable.slot at hs;dsimp only at hs;rw[if_pos (by rw[z];simp)]at hs;cases hs
  |dummy=>
   exfalso;unfold SetTable.slot at hs;dsimp only at hs;split at hs
   ·cases hs
   ·rw[hd,Cr]at hs;cases hs
  |live i=>
   rw[hs]at e;dsimp only at e;split at e
   ·cases e
   ·exact DF hd n _ adv e
def N3{t:SetTable}(T:iD t)(es:Array (Int×Value))(h:Int)(x:Value):iD (layNew t es h x).2.1:=by
 unfold layNew;split
 ·rename_i slot wd e;dsimp only;unfold SetTable.orStandIn;split
  ·intro hp;have hp':t.plain=true:=hp;obtain⟨R,hd⟩:=T hp';unfold SetTable.freeSlot at e;split at e
   ·rename_i j d e';obtain⟨rfl,ne⟩:=DF hd _ _ rfl e';cases e;exact⟨OK R ne,by show(if SetTable.has t.dummies _=true then _ else t.dummies)=#[];rw[hd,Cr];rfl⟩
   ·cases e
  ·intro hp;cases hp
 ·intro hp;cases hp
def O1{f:Nat->Option Nat}(n:Nat):eO ((((List.range n).filterMap λj=>(f j).map (j,·)).map (·.1)).toArray):=by
 have p:(((List.range n).filterMap λj=>(f j).map (j,·)).map (·.1)).Pairwise (· < ·):=by
  rw[qe2_];refine(List.pairwise_filterMap).mpr ?_;refine List.Pairwise.imp ?_ List.pairwise_lt_range;intro a b hab x hx y hy;obtain⟨u,_,rfl⟩:=qd1_.mp hx;obtain⟨v,_,rfl⟩:=qd1_.mp hy;exact hab
 intro i j hij a b ha hb;rw[List.getElem?_toArray]at ha hb;obtain⟨hi,rfl⟩:=qx_.mp ha;obtain⟨hj,rfl⟩:=qx_.mp hb;exact qq3_.mp p i j hi hj hij
def NK(t:SetTable)(es:Array (Int×Value))(n:Nat):iD (relayAll t es n).2.1:=by
 unfold relayAll;split
 ·rename_i t' order e;dsimp only;split
  ·intro hp;unfold SetTable.relaid SetTable.laid at e;obtain⟨o,_,e⟩:=Option.bind_eq_some_iff.mp e;cases e;exact⟨O1 _,rfl⟩
  ·intro hp;cases hp
 ·intro hp;cases hp
end L2
namespace L2
open PySem
def vC{α:Type}:∀(l:List α) (i:Nat) (h:i<l.length),(l[i]::l.eraseIdx i).Perm l
 |[],i,h=>by simp at h
 |x::l,0,h=>by simp
 |x::l,i+1,h=>by
  have h':i<l.length:=by simpa using h
  simp only[List.getElem_cons_succ,List.eraseIdx_cons_succ];exact(List.Perm.swap _ _ _).trans (.cons _ (vC l i h'))
section
variable{M:Model}{A:Around}{E:Value->Shared->Prop}{s:Shared}
def N_{src:Source}{n:Nat}{Q:Nat->Shared->Prop}(hn:n≠0)(h:∀i d,i<n->Q i {s with drawn:=d}):wpAny M A (choose src n) Q E s:=λΓ p _=>by
 unfold choose;rw[Sem.wp_choose];exact⟨hn,h _ _ (qo _ (Nat.pos_of_ne_zero hn))⟩
def uU{α:Type}:∀(n:Nat) (xs:List α) (s:Shared) {Q:List α->Shared->Prop},xs.length=n->(∀ys d,ys.Perm xs->Q ys {s with drawn:=d})->wpAny M A (drawOrder n xs) Q E s
 |0,xs,s,Q,hl,h=>by
  have e:xs=[]:=j7 hl;subst e;exact aj (h [] s.drawn (.refl _))
 |n+1,[],s,Q,hl,h=>by simp at hl
 |n+1,x::xs,s,Q,hl,h=>by
  show wpAny M A (do
   let i <- choose .order (x::xs).length
   match (x::xs)[i]? with
   |some x'=>return x'::(<- drawOrder n ((x::xs).eraseIdx i))
   |none=>unsupported "internal:drawOrder") Q E s
  refine af (N_ (by simp) λi d hi=>?_);rw[b6 hi];refine af (uU n _ _ (by rw[u_ hi];simp at hl ⊢;exact hl) λys d' hp=>?_);refine aj (h _ d' ((List.Perm.cons _ hp).trans ?_));exact vC (x::xs) i hi
end
def B3{α:Type}(next:Nat->Nat):∀(fuel k:Nat) (left:List α) (out:Array α),fuel=left.length->(pickOrder.go next fuel k left out).toList.Perm (out.toList++left)
 |0,k,left,out,h=>by
  have e:left=[]:=j7 h.symm;subst e;unfold pickOrder.go;simp
 |fuel+1,k,left,out,h=>by
  unfold pickOrder.go;have hlt:next k % left.length<left.length:=qo _ (by omega);rw[b6 hlt];refine(B3 next fuel (k+1) _ _ (by rw[u_ hlt];omega)).trans ?_;rw[Array.toList_push,jv];exact List.Perm.append_left _ (vC _ _ hlt)
def oE{α:Type}(next:Nat->Nat)(xs:Array α):(pickOrder next xs).toList.Perm xs.toList:=by
 unfold pickOrder;have:=B3 next xs.size 0 xs.toList #[] (by simp);simpa using this
end L2
namespace L2
open PySem PySem.Spec PyProof.Rows
abbrev cg(w:World):Bool:=w.params.followText "set-order"
structure dh (prog:Program) (w:World) (us:List Str) (es:Array (Int×Value)) (t:SetTable):Prop where
 el:ElemsOf (PySem.strKind prog w) es.toList
 tx:∃vs:List Str,StrsAre (es.toList.map (·.2)) vs/\vs.Perm us
 nd:us.Nodup
 lt:es.size<scanBound
 fit:t.fits es.size=true
 pl:es.size=0\/t.plain=false
 ld:t.led=!cg w
abbrev cC(es:Array (Int×Value))(ep:Nat)(t:SetTable):Obj:={cls:=.type "set",dict:=none,data:=.set es ep t,slots:=#[]}
def bg(prog:Program)(w:World)(a:Addr)(us:List Str)(h:Heap):Prop:=∃es ep t,h.get? a=some (cC es ep t)/\dh prog w us es t
def dL(us:List Str)(x:Str):List Str:=if x∈us then us else us++[x]
def iE:∀{vs:List Value}{ss:List Str},StrsAre vs ss->vs.length=ss.length
 |_,_,.nil=>rfl
 |_,_,.cons _ _ h=>by simp[iE h]
def Dj:∀{vs:List Value}{ss:List Str},StrsAre vs ss->∀x,x∈ss↔∃v∈vs,Value.isStrOf x v=true
 |_,_,.nil,x=>by simp
 |_,_,.cons y t h,x=>by
  have ih:=Dj h x;have e:Value.isStrOf x (.str y t)=true↔x=y:=⟨λh=>by
   obtain⟨u,h⟩:=Value.isStrOf_shape h;injection h with h1 h2
   exact h1.symm,λh=>by subst h;simp[Value.isStrOf]⟩
  simp only[qh_,exists_eq_or_imp,ih,e]
def qW:∀{vs us:List Value},us.Perm vs->∀{ss:List Str},StrsAre vs ss->∃ss',StrsAre us ss'/\ss'.Perm ss:=by
 intro vs us p
 induction p with
 |nil=>intro ss h;exact⟨ss,h,.refl _⟩
 |cons x p ih=>
  intro ss h;cases h with
  |cons y t h=>obtain⟨ss',a,b⟩:=ih h;exact⟨y::ss',.cons y t a,.cons _ b⟩
 |swap x y l=>
  intro ss h;cases h with
  |cons a t h=>cases h with
   |cons b u h=>exact⟨b::a::_,.cons b u (.cons a t h),.swap _ _ _⟩
 |trans p q ihp ihq=>
  intro ss h;obtain⟨s1,a1,b1⟩:=ihq h;obtain⟨s2,a2,b2⟩:=ihp a1;exact⟨s2,a2,b2.trans b1⟩
def DU:∀{vs:List Value}{ss:List Str}(x:Str) (t:Tok),StrsAre vs ss->StrsAre (vs++[.str x t]) (ss++[x])
 |_,_,x,t,.nil=>.cons x t .nil
 |_,_,x,t,.cons y u h=>.cons y u (DU x t h)
def Oo(t:SetTable)(es:Array (Int×Value))(h:Int)(x:Value):(layNew t es h x).2.1.led=t.led:=by
 have so:∀(u:SetTable) (n:Nat),(u.orStandIn n).led=u.led:=λu n=>by
  unfold SetTable.orStandIn;split<;>rfl
 unfold layNew;split
 ·dsimp only;rw[so];rfl
 ·rfl
def MW(t:SetTable)(es:Array (Int×Value))(n:Nat):(relayAll t es n).2.1.led=t.led/\(t.plain=false->(relayAll t es n).2.1.plain=false):=by
 have la:∀m f mv ld pl hs t' o,SetTable.laid m f mv ld pl hs=some (t',o)->t'.led=ld/\t'.plain=pl:=λm f mv ld pl hs t' o e=>by
  unfold SetTable.laid at e;cases q:SetTable.layClean m hs with
  |none=>rw[q]at e;cases e
  |some ow=>
   rw[q]at e;simp only[Option.bind_eq_bind,Option.bind_some,Option.pure_def,Option.some.injEq,Prod.mk.injEq]at e;obtain⟨e,_⟩:=e;subst e;exact⟨rfl,rfl⟩
 unfold relayAll;split
 ·rename_i t' order e;have:=la _ _ _ _ _ _ _ _ e;dsimp only;split
  ·exact⟨this.1,λz=>by rw[<-z];exact this.2⟩
  ·exact⟨rfl,λ_=>rfl⟩
 ·exact⟨rfl,λ_=>rfl⟩
section
variable{prog:Program}{w:World}{A:Around}{E:Value->Shared->Prop}{s:Shared}{a:Addr}{us:List Str}{x:Str}{tk:Tok}
def dh.mem{es:Array (Int×Value)}{t:SetTable}(T:dh prog w us es t)(x:Str):x∈us↔∃e∈es.toList,(PySem.strKind prog w).is x e.2=true:=by
 obtain⟨vs,h,p⟩:=T.tx;rw[<-p.mem_iff,Dj h x];simp only[qf_];exact⟨λ⟨v,⟨e,he,z⟩,q⟩=>⟨e,he,by subst z;exact q⟩,λ⟨e,he,q⟩=>⟨e.2,⟨e,he,rfl⟩,q⟩⟩
def dh.size{es:Array (Int×Value)}{t:SetTable}(T:dh prog w us es t):es.size=us.length:=by
 obtain⟨vs,h,p⟩:=T.tx;have:=iE h;rw[ak,di]at this;rw[this,p.length_eq]
def M6{g:Bool->Sem Unit}(hg:∀(b:Bool) (s₁:Shared) (R:Unit->Shared->Prop),R () s₁->wpAny (model prog w) A (g b) R E s₁){es es1:Array (Int×Value)}{ep:Nat}{t t2:SetTable}{wd:Bool}{R:Option Bool->Shared->Prop}
  (ho:s.heap.get? a=some (cC es ep t)) (lt:es1.size<scanBound) (fit:t2.fits es1.size=true)
  (h:∀h' es' ep' t',Heap.SameBut a s.heap h'->h'.get? a=some (cC es' ep' t')->es'.toList.Perm es1.toList->t'.fits es'.size=true->t'.led=t2.led->(iD t2->iD t')->(t2.plain=false->t'.plain=false)->R (some true) {s with heap:=h'}):
  wpAny (model prog w) A (do
   storeSet a es1 t2
   if (!wd&&t2.tooFull)=true then do
     g (relayAll t2 es1 (SetTable.grown es1.size)).2.2
     storeSet a (relayAll t2 es1 (SetTable.grown es1.size)).1 (relayAll t2 es1 (SetTable.grown es1.size)).2.1
     pure (some true)
    else pure (some true)) R E s:=by
 refine af (wpAny_storeSet_of ho rfl ?_ (fits_of_scanBound lt));have o1:(s.heap.update a (Obj.putSet es1 t2)).get? a=some (cC es1 (ep+1) t2):=e7 (Obj.putSet es1 t2) ho rfl;have b1:=Heap.SameBut.update s.heap a (Obj.putSet es1 t2);split
 ·have hp:=relayAll_perm t2 es1 (SetTable.grown es1.size);have hf:=relayAll_fits t2 es1 (SetTable.grown es1.size);obtain⟨hl,hq⟩:=MW t2 es1 (SetTable.grown es1.size);have ht:=NK t2 es1 (SetTable.grown es1.size);generalize relayAll t2 es1 (SetTable.grown es1.size)=Rl at hp hf hl hq ht ⊢;obtain⟨es2,t3,g2⟩:=Rl;dsimp only at hp hf hl hq ht ⊢;have sz:es2.size=es1.size:=by have:=hp.length_eq;simpa using this
  refine af (hg _ _ _ ?_);refine af (wpAny_storeSet_of o1 rfl ?_ (fits_of_scanBound (by rw[sz];exact lt)));exact aj (h _ es2 _ t3 (b1.trans (Heap.SameBut.update _ a _)) (e7 (Obj.putSet es2 t3) o1 rfl) hp hf hl (λ_=>ht) hq)
 ·exact aj (h _ es1 _ t2 b1 o1 (.refl _) fit rfl id id)
def BF{α:Type}[DecidableEq α](knd:PySem.KeyKind prog w α){x:α}{v:Value}{es:Array (Int×Value)}{ep:Nat}{t:SetTable}{Q:Bool->Shared->Prop}(ho:s.heap.get? a=some (cC es ep t))(el:ElemsOf knd es.toList)(lt:es.size+1<scanBound)(fit:t.fits es.size=true)(hk:knd.is x v=true)(sc:v.scannable=true)
  (h1:(∃e∈es.toList,knd.is x e.2=true)->Q false s)
  (h2:(∀e∈es.toList,knd.is x e.2=false)->∀h' es' ep' t',Heap.SameBut a s.heap h'->h'.get? a=some (cC es' ep' t')->es'.toList.Perm (es.toList++[(knd.hash x,v)])->t'.fits es'.size=true->t'.led=t.led->(iD t->iD t')->(plainKind v=false->t'.plain=false)->Q true {s with heap:=h'}):
  wpAny (model prog w) A (setAddHashed a v (knd.hash x)) Q E s:=by
 unfold setAddHashed setAddHashedIn;refine h_ (af (g5 ho rfl fit ?_));dsimp only;rw[byScan_of sc (Nat.lt_of_succ_lt lt) el,if_pos rfl];unfold setAddByScan;refine af (af (wpAny_rule ?_));refine af (wpAny_setScan_of hk ho rfl fit el ?_);cases hr:es.toList.findIdx? (λe=>knd.is x e.2) with
 |some j=>
  dsimp only;obtain⟨hj,hp,_⟩:=List.findIdx?_eq_some_iff_getElem.mp hr;exact aj (aj (h1 ⟨_,ja hj,hp⟩))
 |none=>
  dsimp only;have hout:∀e∈es.toList,knd.is x e.2=false:=λe he=>qG3_.mp hr e he
  have pm:=layNew_perm t es (knd.hash x) v;have ft:=layNew_fits t es (knd.hash x) v;have ld:=Oo t es (knd.hash x) v;have td:=λT:iD t=>N3 T es (knd.hash x) v
  generalize layNew t es (knd.hash x) v=L at pm ft ld td ⊢;obtain⟨es1,t1,wd,gv⟩:=L;dsimp only at pm ft ld td ⊢;rw[Array.toList_push]at pm;have sz:es1.size<scanBound:=by
   have:=pm.length_eq;rw[<-di,this,b7,di];exact lt
  have gw:∀(b:Bool) (s₁:Shared) (R:Unit->Shared->Prop),R () s₁->wpAny (model prog w) A (match b with|true=>rule "set.scan.the-table-gave-way"|false=>pure ()) R E s₁:=
   λb s₁ R q=>by
    cases b
    ·exact aj q
    ·exact wpAny_rule q
  refine af (gw _ _ _ ?_);have tl:=λ(R:Option Bool->Shared->Prop) (hR:∀s',Q true s'->R (some true) s') t2 (f2:t2.fits es1.size=true) (l2:t2.led=t.led) (d2:iD t->iD t2) (p2:plainKind v=false->t2.plain=false)=>M6 (wd:=wd) (R:=R) (g:=λb=>match b with|true=>rule "set.scan.the-table-gave-way"|false=>pure ()) gw ho sz f2 λh' es' ep' t' b o p f l d q=>hR _ (h2 hout h' es' ep' t' b o (p.trans pm) f (l.trans l2) (λT=>d (d2 T)) λz=>q (p2 z))
  split
  ·refine af ?_;rw[hashByValue_scannable 8 sc];refine aj ?_;split
   ·exact tl _ (λ_ q=>aj q) _ ft ld td λz=>by simp_all
   ·exact tl _ (λ_ q=>aj q) _ (SetTable.fits_plain_off ft) ld (λ_=>λz=>nomatch z) λ_=>rfl
  ·rename_i hp;refine af (aj ?_);rw[if_pos rfl];exact tl _ (λ_ q=>aj q) _ ft ld td λ_=>by simpa using hp
def Eb{α:Type}{us:List α}{x:α}(h:us.Nodup)(hx:x∉us):(us++[x]).Nodup:=by
 rw[mr];exact⟨h,by simp,λy hy z hz e=>hx (by rw[<-qB_.mp hz,<-e];exact hy)⟩
def wY{Q:Bool->Shared->Prop}(S:bg prog w a us s.heap)(room:us.length+1<scanBound)(h:∀b h',Heap.SameBut a s.heap h'->bg prog w a (dL us x) h'->Q b {s with heap:=h'}):
  wpAny (model prog w) A (setAddHashed a (.str x tk) ((PySem.strKind prog w).hash x)) Q E s:=by
 obtain⟨es,ep,t,ho,T⟩:=id S;have hk:(PySem.strKind prog w).is x (.str x tk)=true:=by show Value.isStrOf x (.str x tk)=true;simp[Value.isStrOf]
 refine BF (PySem.strKind prog w) ho T.el (by rw[T.size];exact room) T.fit hk rfl (λhin=>?_) λhout h' es' ep' t' sb ho' pm ft ld _ pl=>?_
 ·have e:s={s with heap:=s.heap}:=by cases s;rfl
  rw[e];refine h false s.heap (Heap.SameBut.refl a s.heap) ?_;rw[dL,if_pos ((T.mem x).mpr hin)];exact S
 ·have hx:x∉us:=λz=>by
   obtain⟨e,he,hp⟩:=(T.mem x).mp z;rw[hout e he]at hp;cases hp
  refine h true h' sb ⟨es',ep',t',ho',?_⟩;obtain⟨vs,hv,pv⟩:=T.tx;have h1:=DU x tk hv;rw[show(es.toList.map (·.2))++[Value.str x tk]=(es.toList++[((PySem.strKind prog w).hash x,Value.str x tk)]).map (·.2) by simp]at h1;obtain⟨vs',hv',pv'⟩:=qW (pm.map (·.2)) h1;rw[dL,if_neg hx];refine⟨(T.el.push hk rfl).perm pm,⟨vs',hv',pv'.trans (pv.append_right _)⟩,Eb T.nd hx,?_,ft,.inr (pl rfl),ld.trans T.ld⟩;have:=pm.length_eq;rw[<-di,this,b7,di,T.size];exact room
end
def Cg:Slot "set" "__iter__" "set.__iter__":=
 Slot.of (owner:="set") (n:="__iter__") (by rw[typeLookup_type,builtinLookup_eq_fast];kernel_rfl) (by decide +kernel) (by decide +kernel) (by decide +kernel) (by first|exact .inl (by decide +kernel)|exact .inr (by decide +kernel)) (by rw[isSubtype_type];kernel_rfl)
def JA:entryFor table "set.__iter__"=some Builtin.«frozenset.__iter__»:=entryFor_alias (id':="frozenset.__iter__") (by kernel_rfl) rfl (by decide +kernel) (by kernel_rfl)
def Jr(a:Value):argsOk "set.__iter__" ⟨[a],[]⟩:=by
 unfold argsOk;kernel_rfl
def st_next:Slot "set_iterator" "__next__" "set_iterator.__next__":=
 Slot.of (owner:="set_iterator") (n:="__next__") (by rw[typeLookup_type,builtinLookup_eq_fast];kernel_rfl) (by decide +kernel) (by decide +kernel) (by decide +kernel) (by first|exact .inl (by decide +kernel)|exact .inr (by decide +kernel)) (by rw[isSubtype_type];kernel_rfl)
def JB:entryFor table "set_iterator.__next__"=some Builtin.«set_iterator.__next__»:=entryFor_of_fast (by kernel_rfl)
def Js(a:Value):argsOk "set_iterator.__next__" ⟨[a],[]⟩:=by
 unfold argsOk;kernel_rfl
def mN:Slot "set_iterator" "__iter__" "set_iterator.__iter__":=
 Slot.of (owner:="set_iterator") (n:="__iter__") (by rw[typeLookup_type,builtinLookup_eq_fast];kernel_rfl) (by decide +kernel) (by decide +kernel) (by decide +kernel) (by first|exact .inl (by decide +kernel)|exact .inr (by decide +kernel)) (by rw[isSubtype_type];kernel_rfl)
def xR:entryFor table "set_iterator.__iter__"=some Builtin.«dict_keyiterator.__iter__»:=entryFor_alias (id':="dict_keyiterator.__iter__") (by kernel_rfl) rfl (by decide +kernel) (by kernel_rfl)
def xW(a:Value):argsOk "set_iterator.__iter__" ⟨[a],[]⟩:=by
 unfold argsOk;kernel_rfl
section
variable{prog:Program}{w:World}{A:Around}{E:Value->Shared->Prop}{s:Shared}
def KS{α:Type}{Q:α->Shared->Prop}(hh:A.handled=none)
  (h:∀e h',(∀b o,s.heap.get? b=some o->h'.get? b=some o)->Shared.TypeIs {s with heap:=h'} (.ref e) "StopIteration"->E (.ref e) {s with heap:=h'}):
  wpAny (model prog w) A (newExc (.type "StopIteration") [] >>= λe=>raiseNew e) Q E s:=by
 refine af ?_;simp only[newExc,newTuple];refine af (d8 ?_ (by size_fits));refine af (m:=firstArgMember _ _) (wpAny_of_eq (a:=Value.none) (by first|rfl|(simp only[firstArgMember];rfl)) ?_);refine d8 ?_ (by size_fits);simp only[raiseNew];refine af (wpAny_handled ?_);rw[hh];refine af (aj (wpAny_throw ?_));exact h _ _ (λb o e=>bc _ (bc _ e)) ⟨_,cf _ rfl,rfl⟩
def mL{it:Addr}{o:Obj}{Q:Option Value->Shared->Prop}(ho:s.heap.get? it=some o)(hc:o.cls=.type "set_iterator")
  (h:wpAny (model prog w) A.in1 (Builtin.«set_iterator.__next__» ⟨[.ref it],[]⟩) (λr s'=>∃v,r=.done (.ret v)/\Q (some v) s') (λe s'=>s'.TypeIs e "StopIteration"/\Q none s') s):
  wpAny (model prog w) A (pyNext (.ref it)) Q E s:=by
 have ht:s.TypeIs (.ref it) "set_iterator":=⟨o,ho,hc⟩
 unfold pyNext;refine af (wpAny_attempt (wpAny_callSpecial?_slot (name:=Str.ofString "__next__") ht st_next (jz st_next ht JB ?_ (Js _))));refine wpAny_mono h (λr s' ⟨v,e,q⟩=>⟨v,e,aj q⟩) λe s' ⟨t,q⟩=>?_
 exact af (wpAny_isInstance (T:="StopIteration") (b:=true) t isSubtype_stop (aj q))
end
abbrev q_(first:Value)(i:Nat)(a:Addr)(n ep:Nat):Obj:={cls:=.type "set_iterator",data:=.fields #[first,.int (i:Int) 0,.ref a,.int (n:Int) 0,.int (ep:Int) 0]}
section
variable{prog:Program}{w:World}{A:Around}{E:Value->Shared->Prop}{s:Shared}{it a:Addr}{us:List Str}{es:Array (Int×Value)}{ep:Nat}{t:SetTable}
def qP{Q:Array (Int×Value)->Shared->Prop}(ho:s.heap.get? a=some (cC es ep t))(hf:t.fits es.size=true)(h:Q es s):wpAny (model prog w) A (setEntries a) Q E s:=by
 unfold setEntries;exact af (g5 ho rfl hf (aj h))
def fZ{Q:Bool->Shared->Prop}(h:Q (cg w) s):wpAny (model prog w) A setsByText Q E s:=by
 unfold setsByText;exact af (wpAny_askSetting (aj h))
def qV{i slot:Nat}{n:Nat}{Q:Fin->Shared->Prop}(hi:s.heap.get? it=some (q_ (.int (slot:Int) 0) i a n ep))(ho:s.heap.get? a=some (cC es ep t))(hf:t.fits es.size=true)(hn:es.size=n)
  (h:wpAny (model prog w) A (setNext a slot i ep) (λr s'=>wpAny (model prog w) A (match r with
   |some (x,next)=>do
    setField (.ref it) 0 (rawInt next)
    setField (.ref it) 1 (rawInt (i+1))
    ret x
   |none=>do setField (.ref it) 2 .none;raiseNew (<- newExc (.type "StopIteration") [])) Q E s') E s):
  wpAny (model prog w) A (Builtin.«set_iterator.__next__» ⟨[.ref it],[]⟩) Q E s:=by
 unfold Builtin.«set_iterator.__next__»;refine af (m:=slotArgs "__next__" 0 ⟨[.ref it],[]⟩) (aj ?_);dsimp only;refine af (wpAny_fieldsOf hi rfl ?_);show wpAny _ _ (setEntries a >>= _) _ _ s;refine af (qP ho hf ?_);rw[hn];simp only[bne_self_eq_false,m5,if_false];refine af (m:=setNext a slot i ep) h
def vX{o:Obj}{vs:Array Value}{k:Nat}{Q:Fin->Shared->Prop}(hh:A.handled=none)(hi:s.heap.get? it=some o)(hd:o.data=.fields vs)(hk:k<vs.size)
  (h:∀e h',(∀b u,b≠it->s.heap.get? b=some u->h'.get? b=some u)->Shared.TypeIs {s with heap:=h'} (.ref e) "StopIteration"->E (.ref e) {s with heap:=h'}):
  wpAny (model prog w) A (do setField (.ref it) k .none;raiseNew (<- newExc (.type "StopIteration") [])) Q E s:=by
 refine af (wpAny_setField hi hd hk ?_);refine KS hh λe h' kp ty=>h e h' (λb u hb q=>kp b u ?_) ty
 rw[(Heap.SameBut.update s.heap it _).2 b hb];exact q
def Ka(hh:A.handled=none)(hb:cg w=true)(fit:t.fits es.size=true)(it a:Addr)(ne:it≠a):
  WalksS prog w A it [it,a] [it] Eq es.size (λi v=>(pickOrder (w.params.setOrder a ep) es)[i]?.map (·.2)=some v)
   (λi s=>s.heap.get? it=some (q_ (.int 0 0) i a es.size ep)/\s.heap.get? a=some (cC es ep t)) where
 sub:=λb hb=>by simp at hb;simp[hb]
 grefl:=λ_=>rfl
 gtrans:=λ_ _ _ x y=>x.trans y
 frame:=λi s h' tk st _ k=>⟨k it (by simp) _ st.1,k a (by simp) _ st.2⟩
 item:=λi s Q E hi st hQ=>by
  refine mL st.1 rfl (qV (slot:=0) st.1 st.2 fit rfl ?_);have sz:(pickOrder (w.params.setOrder a ep) es).size=es.size:=by have:=(oE (w.params.setOrder a ep) es).length_eq;simpa using this
  unfold setNext;refine af (g5 st.2 rfl fit ?_);dsimp only;refine af (fZ ?_);rw[if_pos hb];simp only[bne_self_eq_false,m5,if_false];unfold setWalk;refine af (af (g5 st.2 rfl fit ?_));dsimp only;refine af (fZ ?_);rw[if_pos hb];refine af (wpAny_askSetting (aj ?_));refine aj ?_;have hlt:i<(pickOrder (w.params.setOrder a ep) es).size:=by rw[sz];exact hi
  show wpAny _ _ (match Option.map (λe=>(e.2,0)) (pickOrder (w.params.setOrder a ep) es)[i]? with
   |some (x,next)=>do
    setField (.ref it) 0 (rawInt (next:Nat))
    setField (.ref it) 1 (rawInt (i+1))
    ret x
   |none=>do setField (.ref it) 2 .none;raiseNew (<- newExc (.type "StopIteration") [])) _ _ _
  rw[ji hlt];dsimp only[Option.map_some];refine af (gi st.1 (by simp) λh1 g1 b1=>?_);refine af (gi g1 (by simp) λh2 g2 b2=>?_);refine aj ⟨_,rfl,hQ _ _ (by rw[ji hlt];rfl) ⟨?_,?_⟩ ⟨?_,rfl,rfl,rfl,ba _⟩⟩
  ·rw[g2];rfl
  ·rw[b2.2 a ne.symm,b1.2 a ne.symm];exact st.2
  ·intro b o hb e;have hb':b≠it:=by simpa using hb
   rw[b2.2 b hb',b1.2 b hb'];exact e
 done:=λs Q E st hQ=>by
  refine mL st.1 rfl (qV (slot:=0) st.1 st.2 fit rfl ?_);have sz:(pickOrder (w.params.setOrder a ep) es).size=es.size:=by have:=(oE (w.params.setOrder a ep) es).length_eq;simpa using this
  unfold setNext;refine af (g5 st.2 rfl fit ?_);dsimp only;refine af (fZ ?_);rw[if_pos hb];simp only[bne_self_eq_false,m5,if_false];unfold setWalk;refine af (af (g5 st.2 rfl fit ?_));dsimp only;refine af (fZ ?_);rw[if_pos hb];refine af (wpAny_askSetting (aj ?_));refine aj ?_;show wpAny _ _ (match Option.map (λe=>(e.2,0)) (pickOrder (w.params.setOrder a ep) es)[es.size]? with
   |some (x,next)=>do
    setField (.ref it) 0 (rawInt (next:Nat))
    setField (.ref it) 1 (rawInt ((es.size:Int)+1))
    ret x
   |none=>do setField (.ref it) 2 .none;raiseNew (<- newExc (.type "StopIteration") [])) _ _ _
  rw[se (show(pickOrder (w.params.setOrder a ep) es).size<=es.size by rw[sz];exact ba _)];dsimp only[Option.map_none];refine vX hh st.1 rfl (by simp) λe h' kp ty=>⟨ty,hQ _ ⟨λb o hb q=>kp b o (by simpa using hb) q,rfl,rfl,rfl,ba _⟩⟩
 self:=λi s Q E st hQ=>by
  have ht:s.TypeIs (.ref it) "set_iterator":=⟨_,st.1,rfl⟩
  refine wpAny_pyIter_slot ht mN (jz mN ht xR ?_ (xW _));show wpAny _ _ (ret (.ref it)) _ _ s;exact aj ⟨_,rfl,"set_iterator",_,ht,st_next.lookup,hQ⟩
def DI{slot i:Nat}{Q:Option (Value×Nat)->Shared->Prop}(hb:cg w=false)(ho:s.heap.get? a=some (cC es ep t))(fit:t.fits es.size=true)(hp:t.plain=true\/es.size<=1)(hl:t.led=true)
  (h:Q (match es[SetTable.below t.place slot]?,t.place[SetTable.below t.place slot]? with
  |some (_,x),some j=>some (x,j+1)
  |_,_=>none) s):wpAny (model prog w) A (setNext a slot i ep) Q E s:=by
 unfold setNext;refine af (g5 ho rfl fit ?_);dsimp only;refine af (fZ ?_);rw[hb];simp only[m5,if_false,Bool.not_false];show wpAny _ _ (if (!t.plain&&decide (es.size > 1))=true then _ else(do
  (if (!t.led&&!es.isEmpty)=true then unsupported "set:maker-not-led" else pure ():Sem Unit)
  pure (match es[SetTable.below t.place slot]?,t.place[SetTable.below t.place slot]? with
   |some (_,x),some j=>some (x,j+1)
   |_,_=>none))) _ _ _
 rw[if_neg (by rcases hp with q|q<;>simp[q])];refine af ?_;rw[if_neg (by rw[hl];simp)];exact aj (aj h)
def kJ(xs:Array Nat)(i:Nat):Nat:=if i=0 then 0 else xs.getD (i-1) 0+1
def Di{xs:Array Nat}(R:eO xs){i:Nat}(hi:i<=xs.size):SetTable.below xs (kJ xs i)=i:=by
 refine KW R ⟨hi,λk a hk e=>?_,λk a hk e=>?_⟩
 ·unfold kJ;rw[if_neg (by omega)];have hm:i-1<xs.size:=by omega
  have em:xs[i-1]?=some xs[i-1]:=ji hm;rw[show xs.getD (i-1) 0=xs[i-1] by simp[Array.getD,hm]];by_cases q:k=i-1
  ·subst q;rw[em]at e;cases e;exact kz _
  ·have:=R k (i-1) (by omega) a _ e em;omega
 ·unfold kJ;split
  ·exact dq _
  ·have hm:i-1<xs.size:=by omega
   have em:xs[i-1]?=some xs[i-1]:=ji hm;rw[show xs.getD (i-1) 0=xs[i-1] by simp[Array.getD,hm]];exact R (i-1) k (by omega) _ a em e
def vM{xs:Array Nat}(h:xs.size<=1):eO xs:=λi j hij a b ha hb=>by
 have:=(qu2_.mp hb).1;omega
def G3(hh:A.handled=none)(hb:cg w=false)(fit:t.fits es.size=true)(hp:t.plain=true\/es.size<=1)(R:eO t.place)(hl:t.led=true)(it a:Addr)(ne:it≠a):
  WalksS prog w A it [it,a] [it] Eq es.size (λi v=>es[i]?.map (·.2)=some v)
   (λi s=>s.heap.get? it=some (q_ (.int ((kJ t.place i:Nat):Int) 0) i a es.size ep)/\s.heap.get? a=some (cC es ep t)) where
 sub:=λb hb=>by simp at hb;simp[hb]
 grefl:=λ_=>rfl
 gtrans:=λ_ _ _ x y=>x.trans y
 frame:=λi s h' tk st _ k=>⟨k it (by simp) _ st.1,k a (by simp) _ st.2⟩
 item:=λi s Q E hi st hQ=>by
  have sz:t.place.size=es.size:=by
   unfold SetTable.fits at fit;simp only[e9,beq_iff_eq]at fit;exact fit.1
  refine mL st.1 rfl (qV (slot:=kJ t.place i) st.1 st.2 fit rfl ?_);refine DI hb st.2 fit hp hl ?_;rw[Di R (by omega),ji hi,ji (show i<t.place.size by omega)];show wpAny _ _ (do
    setField (.ref it) 0 (rawInt ((t.place[i]+1:Nat):Int))
    setField (.ref it) 1 (rawInt ((i:Nat)+1:Int))
    ret es[i].2) _ _ _
  have e2:kJ t.place (i+1)=t.place[i]+1:=by
   unfold kJ;rw[if_neg (by omega)];simp[Array.getD,show i<t.place.size by omega]
  rw[<-e2];refine af (gi st.1 (by simp) λh1 g1 b1=>?_);refine af (gi g1 (by simp) λh2 g2 b2=>?_);refine aj ⟨_,rfl,hQ _ _ (by rw[ji hi];rfl) ⟨?_,?_⟩ ⟨?_,rfl,rfl,rfl,ba _⟩⟩
  ·rw[g2];rfl
  ·rw[b2.2 a ne.symm,b1.2 a ne.symm];exact st.2
  ·intro b o hb e;have hb':b≠it:=by simpa using hb
   rw[b2.2 b hb',b1.2 b hb'];exact e
 done:=λs Q E st hQ=>by
  have sz:t.place.size=es.size:=by
   unfold SetTable.fits at fit;simp only[e9,beq_iff_eq]at fit;exact fit.1
  refine mL st.1 rfl (qV (slot:=kJ t.place es.size) st.1 st.2 fit rfl ?_);refine DI hb st.2 fit hp hl ?_;rw[Di R (by omega),se (ba _)];dsimp only;exact vX hh st.1 rfl (by simp) λe h' kp ty=>⟨ty,hQ _ ⟨λb o hb q=>kp b o (by simpa using hb) q,rfl,rfl,rfl,ba _⟩⟩
 self:=λi s Q E st hQ=>by
  have ht:s.TypeIs (.ref it) "set_iterator":=⟨_,st.1,rfl⟩
  refine wpAny_pyIter_slot ht mN (jz mN ht xR ?_ (xW _));show wpAny _ _ (ret (.ref it)) _ _ s;exact aj ⟨_,rfl,"set_iterator",_,ht,st_next.lookup,hQ⟩
abbrev nJ(ps:List Nat):Obj:={cls:=.type "tuple",data:=.seq (ps.map λ(i:Nat)=>rawInt (i:Int)).toArray}
def DZ{i:Nat}{n:Nat}{tu:Addr}{ps:List Nat}{Q:Fin->Shared->Prop}(hi:s.heap.get? it=some (q_ (.ref tu) i a n ep))(ho:s.heap.get? a=some (cC es ep t))(hu:s.heap.get? tu=some (nJ ps))(hf:t.fits es.size=true)(hn:es.size=n)
  (h:match ps[i]? with
   |some pl=>∃e,es[pl]?=some e/\wpAny (model prog w) A (do
    setField (.ref it) 1 (rawInt (i+1))
    ret e.2) Q E s
   |none=>wpAny (model prog w) A (do setField (.ref it) 0 (rawInt 0);setField (.ref it) 2 .none;raiseNew (<- newExc (.type "StopIteration") [])) Q E s):
  wpAny (model prog w) A (Builtin.«set_iterator.__next__» ⟨[.ref it],[]⟩) Q E s:=by
 unfold Builtin.«set_iterator.__next__»;refine af (m:=slotArgs "__next__" 0 ⟨[.ref it],[]⟩) (aj ?_);dsimp only;refine af (wpAny_fieldsOf hi rfl ?_);show wpAny _ _ (setEntries a >>= _) _ _ s;refine af (qP ho hf ?_);rw[hn];simp only[bne_self_eq_false,m5,if_false];show wpAny _ _ (seqItems? (.ref tu) >>= _) _ _ s;refine af (wpAny_seqItems hu rfl ?_);dsimp only;have e:(ps.map λ(i:Nat)=>rawInt (i:Int)).toArray[((i:Int)).toNat]?=ps[i]?.map λ(i:Nat)=>rawInt (i:Int):=by simp
 rw[e];cases q:ps[i]? with
 |none=>
  rw[q]at h;exact h
 |some pl=>
  rw[q]at h;obtain⟨en,he,h⟩:=h;show wpAny _ _ (setNextDrawn a ((pl:Int)).toNat ((ep:Int)).toNat >>= _) _ _ s;unfold setNextDrawn;refine af (af (g5 ho rfl hf ?_));dsimp only;rw[show((ep:Int)).toNat=ep by simp,show((pl:Int)).toNat=pl by simp];simp only[bne_self_eq_false,m5,if_false];rw[he];exact aj h
def G0(hh:A.handled=none)(fit:t.fits es.size=true)(it a tu:Addr)(ne:it≠a)(nu:it≠tu)(ps:List Nat)(hp:ps.Perm (List.range es.size)):
  WalksS prog w A it [it,a,tu] [it] Eq es.size (λi v=>∃pl e,ps[i]?=some pl/\es[pl]?=some e/\v=e.2)
   (λi s=>s.heap.get? it=some (q_ (.ref tu) i a es.size ep)/\s.heap.get? a=some (cC es ep t)/\s.heap.get? tu=some (nJ ps)) where
 sub:=λb hb=>by simp at hb;simp[hb]
 grefl:=λ_=>rfl
 gtrans:=λ_ _ _ x y=>x.trans y
 frame:=λi s h' tk st _ k=>⟨k it (by simp) _ st.1,k a (by simp) _ st.2.1,k tu (by simp) _ st.2.2⟩
 item:=λi s Q E hi st hQ=>by
  have pl:ps.length=es.size:=by rw[hp.length_eq,i_]
  have hlt:i<ps.length:=by omega
  have hm:ps[i]<es.size:=by have:=hp.mem_iff.mp (ja hlt);simpa using this
  refine mL st.1 rfl (DZ st.1 st.2.1 st.2.2 fit rfl ?_);rw[b6 hlt];refine⟨es[ps[i]],ji hm,?_⟩;refine af (gi st.1 (by simp) λh1 g1 b1=>?_);refine aj ⟨_,rfl,hQ _ _ ⟨_,_,b6 hlt,ji hm,rfl⟩ ⟨?_,?_,?_⟩ ⟨?_,rfl,rfl,rfl,ba _⟩⟩
  ·rw[g1];rfl
  ·rw[b1.2 a ne.symm];exact st.2.1
  ·rw[b1.2 tu nu.symm];exact st.2.2
  ·intro b o hb e;have hb':b≠it:=by simpa using hb
   rw[b1.2 b hb'];exact e
 done:=λs Q E st hQ=>by
  have pl:ps.length=es.size:=by rw[hp.length_eq,i_]
  refine mL st.1 rfl (DZ st.1 st.2.1 st.2.2 fit rfl ?_);rw[ky (by omega)];refine af (gi st.1 (by simp) λh1 g1 b1=>?_);refine vX hh g1 rfl (by simp) λe h' kp ty=>⟨ty,hQ _ ⟨λb o hb q=>kp b o (by simpa using hb) ?_,rfl,rfl,rfl,ba _⟩⟩
  have hb':b≠it:=by simpa using hb
  show h1.get? b=some o;rw[b1.2 b hb'];exact q
 self:=λi s Q E st hQ=>by
  have ht:s.TypeIs (.ref it) "set_iterator":=⟨_,st.1,rfl⟩
  refine wpAny_pyIter_slot ht mN (jz mN ht xR ?_ (xW _));show wpAny _ _ (ret (.ref it)) _ _ s;exact aj ⟨_,rfl,"set_iterator",_,ht,st_next.lookup,hQ⟩
end
def Ad(P:Nat->Value->Prop)(vs:List Value):Prop:=∀acc:Array Value,ItemsOf P acc vs.length->acc.toList.Perm vs
def wA{P:Nat->Value->Prop}{vs out:List Value}(hl:out.length=vs.length)(h:∀i v,P i v->out[i]?=some v)(hp:out.Perm vs):Ad P vs:=λacc ⟨h1,h2⟩=>by
 have e:acc.toList=out:=by
  apply sd;intro i;by_cases hi:i<acc.size
  ·rw[h i acc[i] (h2 i _ (ji hi)),fw,ji hi]
  ·rw[fw,se (by omega),ky (by omega)]
 rw[e];exact hp
section
variable{prog:Program}{w:World}{A:Around}{E:Value->Shared->Prop}{s:Shared}{a:Addr}{es:Array (Int×Value)}{ep:Nat}{t:SetTable}
def M4{Q:Value->Shared->Prop}(ho:s.heap.get? a=some (cC es ep t))(fit:t.fits es.size=true)(lt:es.size<scanBound)(ld:t.led=!cg w)(hR:t.plain=true\/es.size<=1->eO t.place)
  (h:∀(it:Addr) (fp:List Addr) (P:Nat->Value->Prop) (St:Nat->Shared->Prop) (h':Heap) (d:Drawn),(∀A':Around,A'.handled=none->∃n,n=es.size/\WalksS prog w A' it fp [it] Eq n P St)->St 0 {s with heap:=h',drawn:=d}->Ad P (es.toList.map (·.2)) ->
   (∀b∈fp,b=a\/s.heap.objs.size<=b)->s.heap.objs.size<=it->(∀b o,s.heap.get? b=some o->h'.get? b=some o)->Q (.ref it) {s with heap:=h',drawn:=d}):
  wpAny (model prog w) A (pyIter (.ref a)) Q E s:=by
 have alt:a<s.heap.objs.size:=bj ho;have ht:s.TypeIs (.ref a) "set":=⟨_,ho,rfl⟩
 have lv:(es.toList.map (·.2)).length=es.size:=by rw[ak,di]
 refine wpAny_pyIter_slot ht Cg (jz Cg ht JA ?_ (Jr _));unfold Builtin.«frozenset.__iter__» Builtin.Frozenset.slot0;refine af (af (m:=slotArgs "__iter__" 0 ⟨[.ref a],[]⟩) (aj ?_));show wpAny _ _ (pure a) _ _ s;refine aj ?_;unfold Builtin.Frozenset.sizeOf;refine af (af (qP ho fit (aj ?_)));unfold setDrawn;refine af (af (g5 ho rfl fit ?_));dsimp only;refine af (fZ (aj ?_));show wpAny _ _ (if (!cg w&&(!t.plain&&decide (es.size > 1)))=true then _ else _) _ _ s;have fin:∀(first:Value) (h1:Heap) (d:Drawn) (St:Nat->Shared->Prop),(∀b o,s.heap.get? b=some o->h1.get? b=some o)->s.heap.objs.size<=h1.objs.size ->
   (∀s2:Shared,s2.heap.get? h1.objs.size=some (q_ first 0 a es.size ep)->(∀b o,h1.get? b=some o->s2.heap.get? b=some o) ->
    Q (.ref h1.objs.size) {s with heap:=h1.push (q_ first 0 a es.size ep),drawn:=d})->wpAny (model prog w) A.in1 (do
   ret (<- newFields "set_iterator" [first,rawInt 0,.ref a,rawInt es.size,rawInt (<- setEpoch a)])) (λfin s'=>∃v,fin=.done (.ret v)/\∃T' r,s'.TypeIs v T'/\typeLookup (.type T') "__next__"=pure (some r)/\Q v s') E {s with heap:=h1,drawn:=d}:=by
  intro first h1 d St k le q;refine af (wpAny_setEpoch_of (k a _ ho) rfl fit ?_);refine af (d8 ?_ (by size_fits));exact aj ⟨_,rfl,"set_iterator",_,⟨_,cf _ rfl,rfl⟩,st_next.lookup,q {s with heap:=h1.push (q_ first 0 a es.size ep)} (cf _ rfl) λb o e=>bc _ e⟩
 cases hb:cg w with
 |true=>
  rw[if_neg (by simp)];refine af (aj ?_);have e:s={s with heap:=s.heap,drawn:=s.drawn}:=by cases s;rfl
  have hp:=oE (w.params.setOrder a ep) es;have nea:s.heap.objs.size≠a:=je alt;refine fin (.int 0 0) s.heap s.drawn (λ_ _=>True) (λ_ _ e=>e) (ba _) λs2 g k=>?_
  refine h s.heap.objs.size [s.heap.objs.size,a] _ _ _ _ (λA' hA=>⟨es.size,rfl,Ka (ep:=ep) hA hb fit _ a nea⟩) ⟨cf _ rfl,bc _ ho⟩ ?_ (λb m=>?_) (ba _) λb o e=>bc _ e
  ·refine wA (out:=(pickOrder (w.params.setOrder a ep) es).toList.map (·.2)) (by rw[ak,ak,hp.length_eq]) (λi v q=>?_) (hp.map _);rw[fo,fw];exact q
  ·simp only[qh_,da,or_false]at m;rcases m with m|m
   ·exact .inr (by rw[m];exact ba _)
   ·exact .inl m
 |false=>
  have hl:t.led=true:=by rw[ld,hb];rfl
  by_cases h1:t.plain=true\/es.size<=1
  ·rw[if_neg (by rcases h1 with q|q<;>simp[q])];refine af (aj ?_);have nea:s.heap.objs.size≠a:=je alt;refine fin (.int 0 0) s.heap s.drawn (λ_ _=>True) (λ_ _ e=>e) (ba _) λs2 g k=>?_
   refine h s.heap.objs.size [s.heap.objs.size,a] _ _ _ _ (λA' hA=>⟨es.size,rfl,G3 (ep:=ep) hA hb fit h1 (hR h1) hl _ a nea⟩) ⟨cf _ rfl,bc _ ho⟩ ?_ (λb m=>?_) (ba _) λb o e=>bc _ e
   ·refine wA (out:=es.toList.map (·.2)) rfl (λi v q=>?_) (.refl _);rw[fo,fw];exact q
   ·simp only[qh_,da,or_false]at m;rcases m with m|m
    ·exact .inr (by rw[m];exact ba _)
    ·exact .inl m
  ·obtain⟨np,h2⟩:=not_or.mp h1;have np:t.plain=false:=by simpa using np
   rw[if_pos (by simp[np];omega)];refine af (uU es.size (List.range es.size) s (by simp) λps d hp=>?_);refine af (wpAny_newTuple ?_ (by rw[ak,hp.length_eq,i_];exact fits_of_scanBound lt));have nea:s.heap.objs.size≠a:=je alt;have e2:(s.heap.push (nJ ps)).objs.size=s.heap.objs.size+1:=ib ..;refine fin (.ref s.heap.objs.size) (s.heap.push (nJ ps)) d (λ_ _=>True) (λ_ _ e=>bc _ e) (by rw[e2];omega) λs2 g k=>?_
   refine h (s.heap.push (nJ ps)).objs.size [(s.heap.push (nJ ps)).objs.size,a,s.heap.objs.size] _ _ _ _ (λA' hA=>⟨es.size,rfl,G0 (ep:=ep) hA fit _ a s.heap.objs.size (by rw[e2];exact je (gk alt)) (by rw[e2];exact je (kz _)) ps hp⟩) ⟨cf _ rfl,bc _ (bc _ ho),bc _ (cf _ rfl)⟩ ?_ (λb m=>?_) (by rw[e2];omega) λb o e=>bc _ (bc _ e)
   ·have hfm:(ps.filterMap λp=>es[p]?).Perm es.toList:=(hp.filterMap _).trans (by rw[filterMap_getElem?_range]);have hmm:∀p∈ps,p<es.size:=λp m=>by have:=hp.mem_iff.mp m;simpa using this
    have hall:∀(l:List Nat),(∀p∈l,p<es.size)->∀i:Nat,(l.filterMap λp=>es[p]?)[i]?=(l[i]?).bind λp=>es[p]?:=by
     intro l
     induction l with
     |nil=>intro _ i;simp
     |cons x l ih=>
      intro hx i;have hx0:=hx x (by simp);rw[ie,ji hx0];cases i with
      |zero=>simp[hx0]
      |succ i=>simp only[List.getElem?_cons_succ];exact ih (λp m=>hx p (fj _ m)) i
    refine wA (out:=(ps.filterMap λp=>es[p]?).map (·.2)) (by rw[ak,ak,hfm.length_eq]) (λi v ⟨pl,e,q1,q2,q3⟩=>?_) (hfm.map _);rw[fo,hall ps hmm,q1];simp[q2,q3]
   ·simp only[qh_,da,or_false]at m;rcases m with m|m|m
    ·exact .inr (by rw[m,e2];omega)
    ·exact .inl m
    ·exact .inr (by rw[m];exact ba _)
end
def st_len:Slot "set" "__len__" "set.__len__":=
 Slot.of (owner:="set") (n:="__len__") (by rw[typeLookup_type,builtinLookup_eq_fast];kernel_rfl) (by decide +kernel) (by decide +kernel) (by decide +kernel) (by first|exact .inl (by decide +kernel)|exact .inr (by decide +kernel)) (by rw[isSubtype_type];kernel_rfl)
def oW:isSubtype (.type "set") (.type "set")=pure true:=by rw[isSubtype_type];kernel_rfl
section
variable{prog:Program}{w:World}{A:Around}{E:Value->Shared->Prop}{s:Shared}{a:Addr}{us:List Str}
def KR{Q:Bool->Shared->Prop}(ht:s.TypeIs (.ref a) "set")(h:Q false s):wpAny (model prog w) A (Builtin.List.listLengthHint (.ref a)) Q E s:=by
 unfold Builtin.List.listLengthHint;refine af (wpAny_specialOf ht st_len.lookup ?_);have e1:splitId "set.__len__"=some ("set","__len__"):=by decide +kernel
 dsimp only;rw[e1];dsimp only;refine af (wpAny_isInstance ht oW ?_);simp only[Bool.not_true,m5,if_false];refine wpAny_ite ?_;rw[if_pos (by decide +kernel)];refine af (wpAny_typeOf ht ?_);exact aj h
theorem uW{es:Array (Int×Value)}{ep:Nat}{t:SetTable}{Q:List Value->Shared->Prop}(hh:A.handled=none)(ho:s.heap.get? a=some (cC es ep t))(fit:t.fits es.size=true)(lt:es.size<scanBound)(ld:t.led=!cg w)(hR:t.plain=true\/es.size<=1->eO t.place)
  (hQ:∀h' d tk (acc:List Value),acc.Perm (es.toList.map (·.2))->s.heap.objs.size<h'.objs.size->(∀b o,s.heap.get? b=some o->h'.get? b=some o)->Q acc {s with heap:=h',drawn:=d,toks:=tk}):
  wpAny (model prog w) A (collect (.ref a)) Q E s:=by
 have hl:es.size<=sizeLine:=fits_of_scanBound lt;have alt:a<s.heap.objs.size:=bj ho;unfold collect;refine af (wpAny_runValue (i6 F.entry_proto_collect ?_));rw[jl F.plain_proto_collect _];show wpAny _ A.in1 (newList [] >>= λl=>again (.builtin "list.__iadd__" ⟨[l,.ref a],[]⟩)) _ _ s;refine af (d8 ?_ (by size_fits));refine aj ⟨plainId_quiet F.plain_list_iadd _,i6 F.entry_list_iadd ?_⟩;rw[jl F.plain_list_iadd _];show wpAny _ A.in1 (Builtin.List.listExtendWith (.ref s.heap.objs.size) (.ref a) (.ref s.heap.objs.size)) _ _ _;unfold Builtin.List.listExtendWith;have S1:(s.heap.push {cls:=.type "list",data:=.seq ([]:List Value).toArray}).get? a=some (cC es ep t):=bc _ ho;have ht:Shared.TypeIs {s with heap:=s.heap.push {cls:=.type "list",data:=.seq ([]:List Value).toArray}} (.ref a) "set":=⟨_,S1,rfl⟩
 refine af (wpAny_typeOf ht ?_);have h1:Builtin.List.listSameRef (.ref s.heap.objs.size) (.ref a)=false:=by simp[Builtin.List.listSameRef];exact je alt
 have h2:(Value.type "set"==Value.type "list")=false:=by decide
 have h3:(Value.type "set"==Value.type "tuple")=false:=by decide
 simp only[h1,h2,h3,j8,m5,if_false];refine af (M4 S1 fit lt ld hR λit fp P St h' d W st0 td hfp tq kp=>?_);have ht':Shared.TypeIs {s with heap:=h',drawn:=d} (.ref a) "set":=by
  obtain⟨o,e,c⟩:=ht;exact⟨o,kp _ _ e,c⟩
 refine af (h_ (KR ht' ?_));have hA:A.in1.in1.handled=none:=by simp[hh]
 obtain⟨n,hn,W⟩:=W A.in1 (by simp[hh]);subst hn;refine wpAny_ite ?_;rw[if_pos (by decide +kernel)];refine af (wpAny_rule ?_);have sz1:(s.heap.push {cls:=.type "list",data:=.seq ([]:List Value).toArray}).objs.size=s.heap.objs.size+1:=ib ..;have g0:h'.get? s.heap.objs.size=some {cls:=.type "list",data:=.seq ([]:List Value).toArray}:=kp _ _ (cf _ rfl);have nf:s.heap.objs.size∉fp:=λm=>by
  rcases hfp _ m with z|z
  ·exact absurd z (je alt)
  ·rw[sz1]at z;omega
 refine af ?_;show wpAny _ A.in1 (updateSeq s.heap.objs.size (·.push .none) >>= λ_=>updateSeq s.heap.objs.size (·.pop)) _ _ _;refine af (wpAny_updateSeq g0 rfl ?_);have g1:=e7 (Obj.mapSeq (·.push Value.none)) g0 rfl;refine wpAny_updateSeq g1 rfl ?_;have g2:=e7 (Obj.mapSeq (·.pop)) g1 rfl;have oth:∀b o,b≠s.heap.objs.size->h'.get? b=some o->((h'.update s.heap.objs.size (Obj.mapSeq (·.push Value.none))).update s.heap.objs.size (Obj.mapSeq (·.pop))).get? b=some o:=
  λb o hb e=>(l_ _ _ (Ne.symm hb)).trans ((l_ _ _ (Ne.symm hb)).trans e)
 refine aj ⟨plainId_quiet F.plain_extend_loop _,codeAny_extend_loopS W hl _ nf _ es.size 0 _ _ _ rfl (dq _)
  (W.frame 0 {s with heap:=h',drawn:=d} _ s.toks st0 (ba _) λb hb o e=>oth b o (λz=>nf (z▸hb)) e) g2 (ItemsOf.nil P) λs' acc' c' hm g' hacc=>?_⟩
 show wpAny _ A (load s.heap.objs.size >>= _) _ _ s';refine af (wpAny_load g' ?_);have hp:=td acc' (by rw[ak,di];exact hacc);obtain⟨h'',g'',d'',tk'',os''⟩:=s';have e1:g''=s.gens:=hm.gens.symm;have e2:os''=s.os:=hm.os;subst e1 e2;refine aj (hQ h'' d'' tk'' acc'.toList hp (bj g') λb o e=>hm.heap b o (λm=>?_) (oth b o (cu (bj e)) (kp b o (bc _ e))));have lt:=bj e;simp only[qh_,da,or_false]at m;rcases m with m|m
 ·rw[m]at lt;exact e_ _ lt
 ·rw[m]at lt;rw[sz1]at tq;exact absurd lt (qG2_.mpr (Nat.le_of_succ_le tq))
def dh.rises{es:Array (Int×Value)}{t:SetTable}(T:dh prog w us es t)(h:t.plain=true\/es.size<=1):eO t.place:=by
 have fit:=T.fit;unfold SetTable.fits at fit;simp only[e9,beq_iff_eq]at fit;have k:es.size<=1:=by
  rcases T.pl with q|q
  ·omega
  ·exact h.resolve_left (by rw[q];decide)
 exact vM (by rw[fit.1];exact k)
def OP{Q:Value->Shared->Prop}(hh:A.handled=none)(S:bg prog w a us s.heap)(h64:us.length<64)
  (h:∀h' d tk (l:Addr) (out:List Value) (ss:List Str) (e:Nat),StrsAre out ss->ss.Perm us->sortedS ss=true->h'.get? l=some (seqObj "list" out.toArray e)->s.heap.objs.size<=l->(∀b o,s.heap.get? b=some o->h'.get? b=some o) ->
   Q (.ref l) {s with heap:=h',drawn:=d,toks:=tk}):wpAny (model prog w) A (call (.builtin "sorted") [.ref a]) Q E s:=by
 refine Calls.call_function_entry kind_sorted plain_sorted entry_sorted (args_sorted1 _) ?_;unfold Builtin.«sorted»;refine af (m:=checkCount "sorted" 1 1 _) (aj ?_);obtain⟨es,ep,t,ho,T⟩:=S;refine af (uW (by simp[hh]) ho T.fit T.lt T.ld T.rises λh1 d tk acc pa le kp=>?_);obtain⟨vs0,hv0,pv0⟩:=T.tx;obtain⟨vs,hs,hp0⟩:=qW pa hv0;have hp:=hp0.trans pv0;have hlen:acc.length<64:=by rw[iE hs,hp.length_eq];exact h64
 refine af (wpAny_newList ?_ (j0 (fh hlen (by decide))));have hoL:(h1.push (seqObj "list" acc.toArray 0)).get? h1.objs.size=some (seqObj "list" acc.toArray 0):=cf _ rfl;refine af (h_ (jz slot_list_sort ⟨_,hoL,rfl⟩ entry_list_sort (list_sort_treeK strKind_oneLt hoL hs.keysOf (λv₁ v₂ rest e=>keyKind_strs (by rw[<-e];exact hs)) hlen λst' a1 a2=>⟨_,rfl,?_⟩) (args_list_sort _)));obtain⟨ss',b1,b2,b3⟩:=sorted_out_str hs a1 a2;obtain⟨e,he⟩:=sortedHeap_at (out:=(arrOf st').map (·.2)) hoL;refine aj ⟨_,rfl,h _ _ _ _ ((arrOf st').map (·.2)).toList ss' e b1 (b2.trans hp) b3 (by rw[kx];exact he) (j0 le) λb o q=>?_⟩;have lt:=bj (kp b o q);rw[sortedHeap_old (cu lt) (by rw[ib];exact gk lt)];exact bc _ (kp b o q)
end
def fL(val:Nat->Str)(i:Nat):List Str:=((List.range i).map val).foldl dL []
def El(val:Nat->Str)(i:Nat):fL val (i+1)=dL (fL val i) (val i):=by
 unfold fL;rw[qm,ia,n_];rfl
def BC(us:List Str)(x y:Str):y∈dL us x↔y∈us\/y=x:=by
 unfold dL;split
 ·exact⟨.inl,λh=>h.elim id λe=>by subst e;assumption⟩
 ·simp
def Kd{us:List Str}(h:us.Nodup)(x:Str):(dL us x).Nodup:=by
 unfold dL;split
 ·exact h
 ·rename_i n;rw[mr];exact⟨h,by simp,λa ha b hb e=>n (by rw[<-show b=x by simpa using hb,<-e];exact ha)⟩
def aH(ss:List Str):List Str:=ss.foldl dL []
def CK:∀(ss us:List Str) (y:Str),y∈ss.foldl dL us↔y∈us\/y∈ss
 |[],us,y=>by simp
 |x::ss,us,y=>by rw[f9,CK ss,BC,qh_,or_assoc]
def Dr:∀(ss us:List Str),us.Nodup->(ss.foldl dL us).Nodup
 |[],us,h=>h
 |x::ss,us,h=>Dr ss _ (Kd h x)
def cO(ss:List Str)(y:Str):y∈aH ss↔y∈ss:=by rw[aH,CK];simp
def dE(ss:List Str):(aH ss).Nodup:=Dr ss [] j6
def C4{val:Nat->Str}{ss:List Str}(h:∀i (hi:i<ss.length),val i=ss[i]):fL val ss.length=aH ss:=by
 unfold fL aH;congr 1;apply List.ext_getElem
 ·simp
 ·intro i h1 h2;simp[h i h2]
def KN(us:List Str)(x:Str):us.length<=(dL us x).length:=by
 unfold dL;split
 ·exact ba _
 ·rw[b7];omega
def MJ(val:Nat->Str){i n:Nat}(h:i<=n):(fL val i).length<=(fL val n).length:=by
  induction n with
  | zero => have : i = 0 := by omega
            subst this;exact ba _
  |succ n ih=>
    by_cases e:i=n+1
    · subst e;exact ba _
    · have:=ih (by omega)
      rw[El];have:=KN (fL val n) (val n);omega
section
variable{prog:Program}{w:World}{A:Around}{R:Result->Shared->Prop}{I:Addr}{fp wr:List Addr}{G:Array GenState->Array GenState->Prop}{n:Nat}{P:Nat->Value->Prop}{St:Nat->Shared->Prop}
def bg.kept{a:Addr}{us:List Str}{h h':Heap}(S:bg prog w a us h)(k:∀o,h.get? a=some o->h'.get? a=some o):bg prog w a us h':=by
 obtain⟨es,ep,t,ho,T⟩:=S;exact⟨es,ep,t,k _ ho,T⟩
theorem wM(W:WalksS prog w A.in1 I fp wr G n P St)(S:Addr)(hf:S∉fp)(J:Nat->Heap->Prop)(kp:∀i h h',J i h->(∀o,h.get? S=some o->h'.get? S=some o)->J i h')
  (add:∀i v (s':Shared) (Q:Bool->Shared->Prop) (E:Value->Shared->Prop),i<n->P i v->J i s'.heap->(∀b h',Heap.SameBut S s'.heap h'->J (i+1) h'->Q b {s' with heap:=h',toks:=s'.toks+1})->wpAny (model prog w) A.in1 (setAdd S v) Q E s'):
  ∀(k i:Nat) (s:Shared),n-i=k->i<=n->St i s->J i s.heap ->
   (∀s',Moved (S::wr) G s s'->J n s'.heap->R (.ok (.ret .none)) s')->codeAny (model prog w) A (.builtin "set.update.loop" ⟨[.ref S,.ref I],[]⟩) R s:=by
 have nw:S∉wr:=λz=>hf (W.sub _ z)
 have sub:∀b∈wr,b∈S::wr:=λb z=>fj _ z
 intro k
 induction k with
 |zero=>
  intro i s hk hi st hS hR;have e:i=n:=by omega
  subst e;refine i6 F.entry_set_update_loop ?_;rw[jl F.plain_set_update_loop _];show wpAny _ A.in1 (pyNext (.ref I) >>= _) _ _ s;refine af (W.done s _ _ st λs' hm=>?_);show wpAny _ A.in1 (ret Value.none) _ _ s';exact aj (hR s' (hm.mono sub) (kp _ _ _ hS λo q=>hm.heap S _ nw q))
 |succ k ih=>
  intro i s hk hi st hS hR;have lt:i<n:=by omega
  refine i6 F.entry_set_update_loop ?_;rw[jl F.plain_set_update_loop _];show wpAny _ A.in1 (pyNext (.ref I) >>= _) _ _ s;refine af (W.item i s _ _ lt st λv s' hP st' hm=>?_);show wpAny _ A.in1 (holding [v] (setAdd S v) >>= _) _ _ s';refine af (h_ (add i v s' _ _ lt hP (kp _ _ _ hS λo q=>hm.heap S _ nw q) λb h' sb S2=>?_));refine aj ⟨plainId_quiet F.plain_set_update_loop _,ih (i+1) _ (by omega) lt (W.frame _ s' _ _ st' (g7 _) λc hc o e=>?_) S2 λs'' hm'' S3=>?_⟩
  ·rw[sb.2 c (λz:c=S=>hf (by rw[<-z];exact hc))];exact e
  ·refine hR s'' (Moved.trans W.gtrans ((hm.mono sub).then_heap (g7 _) λc o hc e=>?_) hm'') S3;rw[sb.2 c (λz:c=S=>hc (by rw[z];exact h9))];exact e
def uZ{α:Type}[DecidableEq α](knd:PySem.KeyKind prog w α){S:Addr}{x:α}{v:Value}{s':Shared}{Q:Bool->Shared->Prop}{E:Value->Shared->Prop}(hk:knd.is x v=true)(h:wpAny (model prog w) A (setAddHashed S v (knd.hash x)) Q E {s' with toks:=s'.toks+1}):wpAny (model prog w) A (setAdd S v) Q E s':=by
 unfold setAdd;exact h_ (af (knd.pyHash (k:=x) hk h))
def CW(W:WalksS prog w A.in1 I fp wr G n P St)(S:Addr)(hf:S∉fp)(val:Nat->Str)(hv:∀i v,P i v->∃t,v=.str (val i) t)(hb:(fL val n).length+1<scanBound):
  ∀(k i:Nat) (s:Shared),n-i=k->i<=n->St i s->bg prog w S (fL val i) s.heap ->
   (∀s',Moved (S::wr) G s s'->bg prog w S (fL val n) s'.heap->R (.ok (.ret .none)) s')->codeAny (model prog w) A (.builtin "set.update.loop" ⟨[.ref S,.ref I],[]⟩) R s:=
 wM W S hf (λi h=>bg prog w S (fL val i) h) (λ_ _ _ S k=>S.kept k) λi v s' Q E lt hP hS q=>by
  obtain⟨t,rfl⟩:=hv i v hP;refine uZ (PySem.strKind prog w) (x:=val i) (by show Value.isStrOf _ (.str _ t)=true;simp[Value.isStrOf]) (wY (s:={s' with toks:=s'.toks+1}) hS (by have:=MJ val (j0 lt);omega) λb h' sb S2=>q b h' sb ?_);rw[El];exact S2
end
section
variable{prog:Program}{w:World}{A:Around}{E:Value->Shared->Prop}{s:Shared}
theorem NZ(a:Value){Q₁:Value->Shared->Prop}(h:Q₁ (.ref s.heap.objs.size) {s with heap:=s.heap.push (cC #[] 0 (.fresh 0 0 (!cg w)))}):
  codeAny (model prog w) A (.call (.builtin "set.__new__") ⟨[.type "set",a],[]⟩) (wants Q₁ E) s:=by
 refine codeAny_of_tree ?_;show wpAny _ A.in1 (do checkBuiltinCall "set.__new__" ⟨[.type "set",a],[]⟩;again (.builtin "set.__new__" ⟨[.type "set",a],[]⟩)) _ _ s;refine af (wpAny_of_eq (F.newCall_set_1 a) (aj ⟨plainId_quiet F.plain_set_new _,i6 F.entry_set_new ?_⟩));rw[jl F.plain_set_new _];unfold Builtin.«set.__new__» Builtin.Frozenset.newClass;have hsub:=oW;obtain⟨hp,g,d,tk,os⟩:=s;dsimp only;wp_walk;refine wpAny_askSetting (aj ?_);dsimp only;simp only[newObj];refine af (wpAny_alloc (aj ?_));exact aj h
end
def gS:∀{vs:List Value}{ss:List Str},StrsAre vs ss->∀(i:Nat) (v:Value),vs[i]?=some v->∃t,v=.str (ss.getD i ⟨#[]⟩) t
 |_,_,.nil,i,v,h=>by simp at h
 |_,_,.cons y t hr,0,v,h=>by
  simp at h;exact⟨t,by rw[<-h];rfl⟩
 |_,_,.cons y t hr,i+1,v,h=>by
  simp only[List.getElem?_cons_succ]at h;obtain⟨u,e⟩:=gS hr i v h;exact⟨u,by rw[e];rfl⟩
section
variable{prog:Program}{w:World}{A:Around}{E:Value->Shared->Prop}{s:Shared}
abbrev cQ(w:World):Obj:=cC #[] 0 (.fresh 0 0 (!cg w))
theorem BH{x:Value}{P:Shared->Prop}{Q:Value->Shared->Prop}(hq:∀s',P s'->Q (.ref s.heap.objs.size) s')
  (hb:wpAny (model prog w) A.in1.in1 (Builtin.«set.__init__» ⟨[.ref s.heap.objs.size]++[x],[]⟩) (λr s'=>r=.done (.ret .none)/\P s') E {s with heap:=s.heap.push (cQ w)}):
  wpAny (model prog w) A (call (.type "set") [x]) Q E s:=by
 obtain⟨c,tl,hmro⟩:=F.called_set.mro;have hmade:=F.called_set.made;have hsub:=F.called_set.sub;refine wpAny_call (codeAny_of_tree ?_);show wpAny _ _ (callAny (.type "set") _) _ _ _;refine aj ⟨Code.quiet_builtin _ (by decide +kernel),i6 F.entry_type_call ?_⟩;rw[Around.under_plain (weight_type_call_type "set" [x] []) rfl];have h1:=F.called_set.notType;have h2:=F.called_set.canCreate;have hct:=F.typeCall_set_1 x
 repeat (any_goals (first|assumption|wp_step))
 refine codeAny_mono (NZ x (E:=E) (Q₁:=λobj s₁=>obj=.ref s.heap.objs.size/\s₁={s with heap:=s.heap.push (cQ w)}) ⟨rfl,rfl⟩) λr s₁ hr=>?_
 cases r with
 |error e=>exact hr
 |ok fl=>
  cases fl with
  |ret obj=>
   obtain⟨rfl,rfl⟩:=hr;have hS:(s.heap.push (cQ w)).get? s.heap.objs.size=some (cQ w):=cf _ rfl;have hT:Shared.TypeIs {s with heap:=s.heap.push (cQ w)} (.ref s.heap.objs.size) "set":=⟨_,hS,rfl⟩
   have hli:=F.called_set.init.lookup;have hbi:=F.called_set.init.bind (.ref s.heap.objs.size)
   repeat (any_goals (first|assumption|wp_step))
   refine codeAny_mono (codeAny_call_builtin (R:=wants (λr s₂=>r=.none/\P s₂) E) F.called_set.init.plain F.entry_set_init (check_set_init_1 hT (wpAny_mono hb (λr s' ⟨e,p⟩=>?_) λ_ _ h=>h))) λr₂ s₂ hr₂=>?_
   ·subst e;exact⟨rfl,p⟩
   ·cases r₂ with
    |error e=>exact hr₂
    |ok fl₂=>
     cases fl₂ with
     |ret r=>
      obtain⟨rfl,p⟩:=hr₂
      repeat (any_goals (first|assumption|wp_step))
      exact hq _ p
     |_=>exact hr₂.elim
  |_=>exact hr.elim
def Av{h:Heap}{a:Addr}(e:h.get? a=some (cQ w)):bg prog w a [] h:=⟨#[],0,.fresh 0 0 (!cg w),e,⟨λe he=>by simp at he,⟨[],.nil,.refl _⟩,j6,by decide,by simp[SetTable.fits,SetTable.fresh,SetTable.fill],.inl rfl,rfl⟩⟩
def BI{l:Addr}{o:Obj}{T:String}{R:Shared->Prop}{Q:Value->Shared->Prop}(ho:s.heap.get? l=some o)(hc:o.cls=.type T)(hs:isSubtype (.type T) (.type "set")=pure false)(hf:isSubtype (.type T) (.type "frozenset")=pure false)(hne:(Value.type T==Value.type "dict")=false)
  (tq:wpAny (model prog w) A.in1.in1 (pyIter (.ref l)) (λi s1=>wpAny (model prog w) A.in1.in1 (runValue (.builtin "set.update.loop" ⟨[.ref s.heap.objs.size,i],[]⟩)) (λ_ s'=>R s') E s1) E {s with heap:=s.heap.push (cQ w)})
  (h:∀s',R s'->Q (.ref s.heap.objs.size) s'):wpAny (model prog w) A (call (.type "set") [.ref l]) Q E s:=by
 refine BH h ?_;have ho':(s.heap.push (cQ w)).get? l=some o:=bc _ ho;have hS:(s.heap.push (cQ w)).get? s.heap.objs.size=some (cQ w):=cf _ rfl;obtain⟨ocls,odict,odata,oslots⟩:=o;simp only at hc;subst hc;unfold Builtin.«set.__init__» noKeywords Builtin.Frozenset.updateFrom;generalize hPI:pyIter=PI at tq;wp_walk;exact wpAny_mono tq (λa s1 h=>af (wpAny_mono h (λ_ s2 r=>aj (aj ⟨rfl,r⟩)) λ_ _ h=>h)) λ_ _ h=>h
def qF(s:Shared)(P:Heap->Prop)(s':Shared):Prop:=∃h' tk,s'={s with heap:=h',toks:=tk}/\P h'/\∀b o,b<s.heap.objs.size->s.heap.get? b=some o->h'.get? b=some o
def oC{o:Obj}{G:Array GenState->Array GenState->Prop}{P:Heap->Prop}{s':Shared}(hm:Moved [s.heap.objs.size,(s.heap.push (cQ w)).objs.size] G {s with heap:=(s.heap.push (cQ w)).push o} s')(hg:s'.gens=s.gens)(p:P s'.heap):qF s P s':=by
 obtain⟨h',g',d',tk',os'⟩:=s';have ed:d'=s.drawn:=hm.drawn;have eo:os'=s.os:=hm.os;have hg:g'=s.gens:=hg;subst hg ed eo;refine⟨h',tk',rfl,p,λb o hb e=>hm.heap b o ?_ (bc _ (bc _ e))⟩;rw[ib];simp only[qh_,da,or_false,not_or];exact⟨cu hb,cu (gk hb)⟩
theorem CB{l:Addr}{items:Array Value}{R:Heap->Prop}{Q:Value->Shared->Prop}(hh:A.handled=none)(hl:s.heap.IsList l items) (hw:∀(hh3:A.in1.in1.in1.handled=none) (ne:l≠(s.heap.push (cQ w)).objs.size) (nf:s.heap.objs.size∉[(s.heap.push (cQ w)).objs.size,l]) (s1:Shared),s1={s with heap:=(s.heap.push (cQ w)).push {cls:=.type "list_iterator",data:=.fields #[.ref l,.int 0 0]}}->s1.heap.get? s.heap.objs.size=some (cQ w)->s1.heap.IsListIter (s.heap.push (cQ w)).objs.size l 0/\s1.heap.IsList l items ->
   codeAny (model prog w) A.in1.in1 (.builtin "set.update.loop" ⟨[.ref s.heap.objs.size,.ref (s.heap.push (cQ w)).objs.size],[]⟩) (wants (λ_ s'=>qF s R s') E) s1)
  (h:∀(h':Heap) (tk:Nat),R h'->(∀b o,b<s.heap.objs.size->s.heap.get? b=some o->h'.get? b=some o)->Q (.ref s.heap.objs.size) {s with heap:=h',toks:=tk}):wpAny (model prog w) A (call (.type "set") [.ref l]) Q E s:=by
 obtain⟨ol,hol,hcl,nl,hdl⟩:=id hl;have hlS:l<s.heap.objs.size:=bj hol;refine BI (R:=qF s R) hol hcl F.sub_list_set F.sub_list_frozenset (by decide) (wpAny_pyIter_list (hl.push _) (wpAny_runValue ?_)) λs' ⟨h',tk,e,p,k⟩=>by subst e;exact h h' tk p k
 refine hw (by simp[hh]) ?_ ?_ _ rfl (bc _ (cf _ rfl)) ⟨⟨_,cf _ rfl,rfl,rfl⟩,(hl.push _).push _⟩
 ·rw[ib];exact cu (gk hlS)
 ·rw[ib];simp only[qh_,da,or_false,not_or];exact⟨cu (kz _),je hlS⟩
def O8{l:Addr}{items:Array Value}{ss:List Str}{Q:Value->Shared->Prop}(hh:A.handled=none)(hl:s.heap.IsList l items)(hi:StrsAre items.toList ss)(hb:(aH ss).length+1<scanBound)
  (h:∀(h':Heap) (tk:Nat),bg prog w s.heap.objs.size (aH ss) h'->(∀b o,b<s.heap.objs.size->s.heap.get? b=some o->h'.get? b=some o)->Q (.ref s.heap.objs.size) {s with heap:=h',toks:=tk}):
  wpAny (model prog w) A (call (.type "set") [.ref l]) Q E s:=by
 have hz:items.size=ss.length:=by have:=iE hi;simpa using this
 have hm:fL (λi=>ss.getD i ⟨#[]⟩) items.size=aH ss:=by rw[hz];exact C4 λi hi=>by simp[hi]
 refine CB hh hl (λhh3 ne nf s1 e1 g1 st=>?_) h;subst e1;exact CW ((Walks.list hh3 _ l ne items).toS) s.heap.objs.size nf (λi=>ss.getD i ⟨#[]⟩) (λi v hv=>gS hi i v (by rw[fw];exact hv)) (by rw[hm];exact hb) (items.size-0) 0 _ (by omega) (dq _) st (Av g1) λs' m S'=>oC m m.gens (by rw[hm]at S';exact S')
end
def boot_set:bootBuiltins "set"=some (.type "set"):=by decide +kernel
def dW(P:Program)(w:World)(a:Addr)(us:List Str):HO:=.ext (bg P w a us)
section
variable{X:Cx}
def ag.draw{Qx:List (Addr×Obj)}{σ:St}{H:Hp}{s:Shared}(I:ag X Qx σ H s)(d:Drawn):ag X Qx σ H {s with drawn:=d}:=
 ⟨I.ok,I.os,I.bare,I.base,I.loc,I.cell,I.free,I.freeC,I.pin,I.hok,I.len⟩
def Iz(P:Program)(w:World):List V->Hp->VK->Prop:=λxs H Q=>∃(a:Addr) (us:List Str),xs=[.ref a]/\H a=some (dW P w a us)/\us.length<64 /\
  ∀(ss:List Str) (l:Addr),ss.Perm us->sortedS ss=true->H l=none->Q (.ref l) (ar H l (.lst (ss.map V.str)))
theorem DK(hc:X.calm=true):aq X (.builtin "sorted") (Iz X.prog X.w):=by
 intro Qx s σ H xs us Q I r h;obtain⟨a,uu,rfl,hq,h64,q⟩:=h;obtain⟨u,rfl,rx⟩:=cN r;cases rx;have S:bg X.prog X.w a uu s.heap:=(I.hok a _ hq).1;refine OP (I.ok.hd hc) S h64 λh' d tk l out ss e hs hp hso hl le k=>?_
 refine⟨.ref l,_,(I.laid (t':=tk) (o:=.lst (ss.map V.str)) k le ?_).draw d,rfl,q ss l hp hso (I.hok.fresh le)⟩;refine⟨?_,out,e,qI hs,hl⟩;rw[ak,hp.length_eq];exact j0 (fh h64 (by decide))
def nS(x:Str)(n:Int):Str:=⟨(List.replicate n.toNat x.cps.toList).flatten.toArray⟩
def Hv:R2:=λx y H Q=>∃(z:Str) (n:Int),x=.str z/\y=.int n/\z.length<=1000/\n<=1000 /\ -1000<=n/\Q (.str (nS z n)) H
def wS(x:Array Nat):∀n (acc:Array Nat),((List.replicate n x).foldl (·++·) acc)=(acc.toList++(List.replicate n x.toList).flatten).toArray
 |0,acc=>by simp
 |n+1,acc=>by
  rw[g9,f9,wS x n,g9,g8];simp
theorem Lu:cm X (binaryOp .Mult) Hv:=by
 intro Qx s σ H x y v u Q I rx ry h;obtain⟨z,n,rfl,rfl,hz,n1,n0,q⟩:=h;obtain⟨t,rfl⟩:=rx;obtain⟨t',rfl⟩:=ry;have fin:∀(w:Str) (k:Tok) (tk:Nat),w=nS z n->EP X Qx σ Q (.str w k) {s with toks:=tk}:=λw k tk e=>⟨.str w,H,I.tok tk,⟨k,rfl⟩,by rw[e];exact q⟩
 have pos:∀m:Nat,m<=1000->z.length*m<=1000000:=λm hm=>Nat.mul_le_mul hz hm
 refine P.mul_str (by rw[i4 (by omega),i4 (by omega)];rfl) (λh1 _ h2=>?_) (λh1 _=>?_) ?_
 ·have:(2 ^ 63-1) / n>=1000:=by
   have h3:n<=1000:=n1;have h4:0<n:=by omega
   rw[ge_iff_le,Int.le_ediv_iff_mul_le h4];omega
  omega
 ·show decide (_ > sizeLine)=false;refine i4 (qG2_.mpr (bw (pos n.toNat (by omega)) (by decide)))
 ·split
  ·refine⟨by decide,fin _ _ _ ?_⟩;unfold nS;rw[show n.toNat=0 by omega];rfl
  ·split
   ·rename_i h1 h2;refine fin _ _ s.toks ?_;rw[Bool.or_eq_true]at h2;unfold nS;rcases h2 with h3|h3
    ·have:n=1:=by simpa using h3
     rw[this];simp
    ·have hz0:z.cps=#[]:=by
      have:z.cps.size=0:=by simpa[Str.length]using h3
      exact Array.size_eq_zero_iff.mp this
     have e:∀m:Nat,(List.replicate m ([]:List Nat)).flatten=[]:=λm=>by
      induction m with
      |zero=>rfl
      |succ m ih=>rw[g9,g8,ih];rfl
     obtain⟨zc⟩:=z;have hz0:zc=#[]:=hz0;subst hz0;show(⟨#[]⟩:Str)=⟨(List.replicate n.toNat ([]:List Nat)).flatten.toArray⟩;rw[e]
   ·refine⟨?_,fin _ _ _ ?_⟩
    ·show(List.foldl (λx1 x2=>x1++x2) #[] (List.replicate n.toNat z.cps)).size<=_;rw[wS,ck,b7,xL];show 0+n.toNat*z.cps.toList.length<=_;have:=pos n.toNat (by omega);rw[jt]at this;have e:z.cps.toList.length=z.length:=by simp[Str.length]
     rw[e];exact bw (by omega) (show 1000000<=sizeLine by decide)
    ·unfold nS;rw[wS];simp
def Gw(K:W.Frag):V->Option Int->Option Int->Hp->VK->Prop:=λx lo hi H Q=>∃a xs,x=.ref a/\cq K H a xs/\∀p H',ay H H'->cq K H' p (gL xs lo hi)->Q (.ref p) H'
def OS{prog:Program}{w:World}{A:Around}{E:Value->Shared->Prop}{s:Shared}{t sl:Addr}{items:Array Value}{vl vu:Value}{lo hi:Option Int}{Q:Value->Shared->Prop}(ht:IsTup s.heap t items)(hs:s.heap.IsSliceOf sl vl vu .none)(pl:IsPart vl lo)(pu:IsPart vu hi)
  (hw:HT.sIx items.size 0 lo=0/\HT.sIx items.size items.size hi=items.size) (h:Q (.ref t) s):wpAny (model prog w) A (getItem (.ref t) (.ref sl)) Q E s:=by
 obtain⟨os,hos,hcs,hds⟩:=id hs;have hTs:s.TypeIs (.ref sl) "slice":=⟨os,hos,hcs⟩
 unfold getItem
 try with_reducible refine h_ ?_
 first|refine af (aj ?_)|skip
 refine af (wpAny_sequenceKey ht.typeIs (by decide) ?_);refine af (wpAny_callSpecial?_slot (name:=Str.ofString "__getitem__") ht.typeIs PyProof.Rows.slot_tuple_getitem (jz PyProof.Rows.slot_tuple_getitem ht.typeIs entry_tuple_getitem ?_ (args_tuple_getitem _ _)));show wpAny _ _ (Builtin.Tuple.tupleItemsOf (.ref t) >>= _) _ _ s;refine af (tupleItemsOf_ ht (af (wpAny_typeOf hTs ?_)));rw[if_pos (by decide)];refine af (HT.sliceApplied_gen hs pl pu ?_);rw[hw.1,hw.2];dsimp only;rw[if_pos (by simp)];unfold Builtin.Tuple.tupleIsExact;refine af (af (wpAny_typeOf ht.typeIs (aj ?_)));rw[if_pos (by decide)];exact af (wpAny_rule (aj ⟨_,rfl,aj h⟩))
def Jy{xs:List V}{lo hi:Option Int}(hw:HT.sIx xs.length 0 lo=0/\HT.sIx xs.length xs.length hi=xs.length):gL xs lo hi=xs:=by
 unfold gL;rw[hw.1,hw.2,mq,Nat.sub_zero,d_]
def sl_tupW:o_ X (Gw X.K):=by
 intro Qx s σ H x v vl vu lo hi sl Q I rx hs pl pu h;obtain⟨a,xs,rfl,hx,q⟩:=h;by_cases hw:HT.sIx xs.length 0 lo=0/\HT.sIx xs.length xs.length hi=xs.length
 ·cases rx;obtain⟨its,r,ht,hz⟩:=I.tuple hx;have hlen:its.toArray.size=xs.length:=by rw[ck];exact r.length.symm
  refine⟨"tuple",_,PyProof.Rows.slot_tuple_getitem.lookup,ht.typeIs,?_⟩;exact OS ht hs pl pu (by rw[hlen];exact hw) ⟨.ref a,H,I,rfl,q a H (λ_ _ e=>e) (by rw[Jy hw];exact hx)⟩
 ·exact Km Qx s σ H _ v vl vu lo hi sl Q I rx hs pl pu ⟨a,xs,rfl,hx,hw,λp np=>q p _ (λb o e=>by rw[bP (dX e np)];exact e) (cq.of bE)⟩
end
def xS(f:Nat->List Nat):∀n,argBest (λi j=>decide (f i<f j)) n<=n/\∀j,j<=n->f (argBest (λi j=>decide (f i<f j)) n)<=f j
 |0=>⟨ba _,λj hj=>by rw[Nat.le_zero.mp hj];exact ql _⟩
 |n+1=>by
  obtain⟨h1,h2⟩:=xS f n;show(if decide (f (n+1)<f (argBest _ n))=true then n+1 else argBest _ n)<=n+1/\∀j,j<=n+1->f (if decide (f (n+1)<f (argBest _ n))=true then n+1 else argBest _ n)<=f j;by_cases h:f (n+1)<f (argBest (λi j=>decide (f i<f j)) n)
  ·rw[if_pos (jd h)];refine⟨ba _,λj hj=>?_⟩;rcases n9 hj with z|z
   ·exact qk (List.le_of_lt h) (h2 j (by omega))
   ·rw[z];exact ql _
  ·rw[if_neg (λz=>h (kf z))];refine⟨by omega,λj hj=>?_⟩;rcases n9 hj with z|z
   ·exact h2 j (by omega)
   ·rw[z];exact qf1_.mp h
def xT(f:Nat->List Nat):∀n,argBest (λi j=>decide (f j<f i)) n<=n/\∀j,j<=n->f j<=f (argBest (λi j=>decide (f j<f i)) n)
 |0=>⟨ba _,λj hj=>by rw[Nat.le_zero.mp hj];exact ql _⟩
 |n+1=>by
  obtain⟨h1,h2⟩:=xT f n;show(if decide (f (argBest _ n)<f (n+1))=true then n+1 else argBest _ n)<=n+1/\∀j,j<=n+1->f j<=f (if decide (f (argBest _ n)<f (n+1))=true then n+1 else argBest _ n);by_cases h:f (argBest (λi j=>decide (f j<f i)) n)<f (n+1)
  ·rw[if_pos (jd h)];refine⟨ba _,λj hj=>?_⟩;rcases n9 hj with z|z
   ·exact qk (h2 j (by omega)) (List.le_of_lt h)
   ·rw[z];exact ql _
  ·rw[if_neg (λz=>h (kf z))];refine⟨by omega,λj hj=>?_⟩;rcases n9 hj with z|z
   ·exact h2 j (by omega)
   ·rw[z];exact qf1_.mp h
def rB{l:List Str}{i:Nat}(h:i<l.length):l.getD i ⟨#[]⟩∈l:=by
 rw[kg,b6 h];exact ja h
def qZ{l:List Str}{a:Str}(h:a∈l):∃j,j<l.length/\l.getD j ⟨#[]⟩=a:=by
 obtain⟨j,hj,e⟩:=qi2_.mp h;exact⟨j,hj,by rw[kg,b6 hj];exact e⟩
section
variable{prog:Program}{w:World}{A:Around}{E:Value->Shared->Prop}{s:Shared}{l:Addr}{its:Array Value}{ss:List Str}
theorem DB{P:Nat->Value->Prop}(val:Nat->Str)(hval:∀i v,P i v->∃t,v=.str (val i) t):CmpOf prog w A .Lt P (λi j=>decide ((val i).cps.toList<(val j).cps.toList)):=λi j vi vj s Q E hi hj h=>by
 obtain⟨t,rfl⟩:=hval i vi hi;obtain⟨u,rfl⟩:=hval j vj hj;exact richCompare_gives (op:=.Lt) (typeIs_str s _ t) (typeIs_str s _ u) F.slot_str_lt F.entry_str_lt (F.args_str_lt_2 _ _) (gives_str_lt _ _ t u) (λx=>nomatch x) h
theorem DA{P:Nat->Value->Prop}(val:Nat->Str)(hval:∀i v,P i v->∃t,v=.str (val i) t):CmpOf prog w A .Gt P (λi j=>decide ((val j).cps.toList<(val i).cps.toList)):=λi j vi vj s Q E hi hj h=>by
 obtain⟨t,rfl⟩:=hval i vi hi;obtain⟨u,rfl⟩:=hval j vj hj;exact richCompare_gives (op:=.Gt) (typeIs_str s _ t) (typeIs_str s _ u) F.slot_str_gt F.entry_str_gt (F.args_str_gt_2 _ _) (gives_str_gt _ _ t u) (λx=>nomatch x) h
def D_{Q:Value->Shared->Prop}(hl:s.heap.IsList l its)
  (h:∀s₂:Shared,s₂={s with heap:=s.heap.push {cls:=.type "list_iterator",data:=.fields #[.ref l,.int 0 0]}} ->
   (s₂.heap.IsListIter s.heap.objs.size l 0/\s₂.heap.IsList l its)->(∀b∈[s.heap.objs.size,l],b<s₂.heap.objs.size)->l≠s.heap.objs.size->Q (.ref s.heap.objs.size) s₂):
  wpAny (model prog w) A (pyIter (.ref l)) Q E s:=by
 have hlt:l<s.heap.objs.size:=by obtain⟨_,e,_⟩:=hl;exact bj e
 refine wpAny_pyIter_list hl (h _ rfl ⟨⟨_,cf _ rfl,rfl,rfl⟩,hl.push _⟩ (λb hb=>?_) (cu hlt));show b<(s.heap.push _).objs.size;rw[ib];simp only[qh_,da,or_false]at hb;rcases hb with z|z
 ·rw[z];exact kz _
 ·rw[z];exact gk hlt
def Mi{Q:Value->Shared->Prop}(hh:A.handled=none)(hl:s.heap.IsList l its)(hi:StrsAre its.toList ss)(hne:0<ss.length)
  (h:∀x t h' tk,x∈ss->(∀y∈ss,x.cps.toList<=y.cps.toList)->(∀b o,s.heap.get? b=some o->h'.get? b=some o)->Q (.str x t) {s with heap:=h',toks:=tk}):
  wpAny (model prog w) A (call (.builtin "min") [.ref l]) Q E s:=by
 have hsz:its.size=ss.length:=by rw[<-di,iE hi]
 refine call_min_walk (D_ hl λs₂ e st hfp hlI=>?_);subst e;refine⟨_,_,_,_,_,_,_,rfl,Walks.list (A:=A.in1) hh _ l hlI its,st,hfp,by omega,DB (λi=>ss.getD i ⟨#[]⟩) (λi v hv=>gS hi i v (by rw[fw];exact hv)),λv h' tk hP hk=>?_⟩;obtain⟨t,rfl⟩:=gS hi _ v (by rw[fw];exact hP);obtain⟨b1,b2⟩:=xS (λi=>(ss.getD i ⟨#[]⟩).cps.toList) (its.size-1);refine h _ t h' tk (rB (by omega)) (λy hy=>?_) (old_kept hk);obtain⟨j,hj,rfl⟩:=qZ hy;exact b2 j (by omega)
def Mg{Q:Value->Shared->Prop}(hh:A.handled=none)(hl:s.heap.IsList l its)(hi:StrsAre its.toList ss)(hne:0<ss.length)
  (h:∀x t h' tk,x∈ss->(∀y∈ss,y.cps.toList<=x.cps.toList)->(∀b o,s.heap.get? b=some o->h'.get? b=some o)->Q (.str x t) {s with heap:=h',toks:=tk}):
  wpAny (model prog w) A (call (.builtin "max") [.ref l]) Q E s:=by
 have hsz:its.size=ss.length:=by rw[<-di,iE hi]
 refine call_max_walk (D_ hl λs₂ e st hfp hlI=>?_);subst e;refine⟨_,_,_,_,_,_,_,rfl,Walks.list (A:=A.in1) hh _ l hlI its,st,hfp,by omega,DA (λi=>ss.getD i ⟨#[]⟩) (λi v hv=>gS hi i v (by rw[fw];exact hv)),λv h' tk hP hk=>?_⟩;obtain⟨t,rfl⟩:=gS hi _ v (by rw[fw];exact hP);obtain⟨b1,b2⟩:=xT (λi=>(ss.getD i ⟨#[]⟩).cps.toList) (its.size-1);refine h _ t h' tk (rB (by omega)) (λy hy=>?_) (old_kept hk);obtain⟨j,hj,rfl⟩:=qZ hy;exact b2 j (by omega)
end
section
variable{X:Cx}
theorem D3(hc:X.calm=true):aq X (.builtin "min") (λxs H Q=>∃(p:Addr) (ss:List Str),xs=[.ref p]/\bu X.K H p (ss.map V.str)/\0<ss.length/\∀x,x∈ss->(∀y∈ss,x.cps.toList<=y.cps.toList)->Q (.str x) H):=by
 intro Qx s σ H xs us Q I r h;obtain⟨p,ss,rfl,hq,hn,q⟩:=h;obtain⟨u,rfl,rx⟩:=cN r;cases rx;obtain⟨its,rv,pl,hz⟩:=I.list hq;refine Mi (I.ok.hd hc) pl.isList (jY rv) hn λx t h' tk h1 h2 hk=>?_
 exact⟨.str _,H,I.kept hk,⟨t,rfl⟩,q _ h1 h2⟩
theorem D2(hc:X.calm=true):aq X (.builtin "max") (λxs H Q=>∃(p:Addr) (ss:List Str),xs=[.ref p]/\bu X.K H p (ss.map V.str)/\0<ss.length/\∀x,x∈ss->(∀y∈ss,y.cps.toList<=x.cps.toList)->Q (.str x) H):=by
 intro Qx s σ H xs us Q I r h;obtain⟨p,ss,rfl,hq,hn,q⟩:=h;obtain⟨u,rfl,rx⟩:=cN r;cases rx;obtain⟨its,rv,pl,hz⟩:=I.list hq;refine Mg (I.ok.hd hc) pl.isList (jY rv) hn λx t h' tk h1 h2 hk=>?_
 exact⟨.str _,H,I.kept hk,⟨t,rfl⟩,q _ h1 h2⟩
end
end L2
namespace L2
open PySem PySem.Spec PyProof.Rows
open PySem PySem.Spec PyProof.Rows
section
variable{κ:Type}[DecidableEq κ]
def dZ(kvs:List (κ×V))(k:κ):Option V:=(kvs.find? λkv=>decide (kv.1=k)).map (·.2)
def dR(kvs:List (κ×V))(k:κ)(v:V):List (κ×V):=
 if (kvs.any λkv=>decide (kv.1=k))=true then kvs.map (λkv=>if kv.1=k then(kv.1,v) else kv) else kvs++[(k,v)]
def rG{p:κ×V}{r:List (κ×V)}{k:κ}(e:p.1=k):dZ (p::r) k=some p.2:=by simp[dZ,d9,e]
def rH{p:κ×V}{r:List (κ×V)}{k:κ}(e:¬ p.1=k):dZ (p::r) k=dZ r k:=by simp[dZ,d9,e]
def rJ(k:κ):∀kvs:List (κ×V),(kvs.any λkv=>decide (kv.1=k))=(dZ kvs k).isSome
 |[]=>rfl
 |p::r=>by
  rw[ju];by_cases e:p.1=k
  ·simp only[rG e,jd e,Bool.true_or,sa]
  ·rw[rH e,i4 e,qi];exact rJ k r
def uY(kvs:List (κ×V))(k:κ)(v:V):(dR kvs k v).length<=kvs.length+1:=by
 unfold dR;split
 ·rw[ak];omega
 ·rw[b7,g6,List.length_nil];omega
def LK{kvs:List (κ×V)}{k:κ}(v:V)(h:dZ kvs k=none):dR kvs k v=kvs++[(k,v)]:=by
 unfold dR;rw[rJ,h];exact if_neg (by decide)
def gu.isSome_eq{o:Option V}{u:Option Value}(r:gu o u):o.isSome=u.isSome:=by
 cases o with
 |none=>cases u with
  |none=>rfl
  |some _=>exact(show False from r).elim
 |some _=>cases u with
  |none=>exact(show False from r).elim
  |some _=>rfl
def gu.getD{o:Option V}{u:Option Value}{d:V}{d':Value}(r:gu o u)(rd:ah d d'):ah (o.getD d) (u.getD d'):=by
 cases o with
 |none=>cases u with
  |none=>exact rd
  |some _=>exact(show False from r).elim
 |some _=>cases u with
  |none=>exact(show False from r).elim
  |some _=>exact r
def KV.val{kvs:List (κ×V)}{vs:List (κ×Value)}(r:KV kvs vs)(k:κ):gu (dZ kvs k) (valueAt vs k):=by
 unfold KV at r
 induction r with
 |nil=>exact True.intro
 |@cons p q ps qs h t ih=>
  obtain⟨h1,h2⟩:=h;by_cases e:p.1=k
  ·have e':q.1=k:=h1.symm.trans e;have b:valueAt (q::qs) k=some q.2:=by simp[valueAt,d9,e']
   rw[rG e,b];exact h2
  ·have e':¬ q.1=k:=λz=>e (h1.trans z)
   have b:valueAt (q::qs) k=valueAt qs k:=by simp[valueAt,d9,e']
   rw[rH e,b];exact ih
def KV.any{kvs:List (κ×V)}{vs:List (κ×Value)}(r:KV kvs vs)(k:κ):(kvs.any λkv=>decide (kv.1=k))=vs.any λkv=>decide (kv.1=k):=by
 unfold KV at r
 induction r with
 |nil=>rfl
 |cons h t ih=>rw[ju,ju,ih,h.1]
def KV.repl{kvs:List (κ×V)}{vs:List (κ×Value)}(r:KV kvs vs)(k:κ){y:V}{u:Value}(ry:ah y u):
  KV (kvs.map λkv=>if kv.1=k then(kv.1,y) else kv) (vs.map λkv=>if kv.1=k then(kv.1,u) else kv):=by
 unfold KV at r ⊢
 induction r with
 |nil=>exact .nil
 |@cons p q ps qs h t ih=>
  rw[dz,dz];refine .cons ?_ ih;obtain⟨h1,h2⟩:=h;by_cases e:p.1=k
  ·rw[if_pos e,if_pos (h1.symm.trans e)];exact⟨h1,ry⟩
  ·rw[if_neg e,if_neg (λz=>e (h1.trans z))];exact⟨h1,h2⟩
def KV.put{kvs:List (κ×V)}{vs:List (κ×Value)}(r:KV kvs vs)(k:κ){y:V}{u:Value}(ry:ah y u):KV (dR kvs k y) (stored vs k u):=by
 unfold dR stored;rw[r.any k];by_cases e:(vs.any λkv=>decide (kv.1=k))=true
 ·rw[if_pos e,if_pos e];exact r.repl k ry
 ·rw[if_neg e,if_neg e];exact Paired.snoc r ⟨rfl,ry⟩
def KV.length{kvs:List (κ×V)}{vs:List (κ×Value)}(r:KV kvs vs):kvs.length=vs.length:=Paired.length r
end
def lJ{P:Program}{w:World}{k:av}{u:Value}(r:ah (kV k) u):(bW P w).is k u=true:=by
 cases k with
 |inl i=>obtain⟨t,e⟩:=(show ∃t,u=Value.int i t from r);subst e;exact N5 P w i t
 |inr x=>obtain⟨t,e⟩:=(show ∃t,u=Value.str x t from r);subst e;exact qM P w x t
def CS{P:Program}{w:World}:∀{ks:List av}{us:List Value},ai (ks.map kV) us->ItemsAre (bW P w) ks us
 |[],_,r=>by rw[jw]at r;cases r;exact .nil
 |k::ks,_,r=>by
  rw[dz]at r;cases r with
  |cons h t=>exact .cons (lJ h) (CS t)
abbrev KT(H:Hp):List (List av×V)->List (List av×Addr×Value)->Prop:=Paired λp q=>p.1=q.1/\H q.2.1=some (.tup (p.1.map kV))/\ah p.2 q.2.2
def KT.val{H:Hp}{kvs:List (List av×V)}{xs:List (List av×Addr×Value)}(r:KT H kvs xs)(k:List av):gu (dZ kvs k) ((atKey xs k).map (·.2)):=by
 induction r with
 |nil=>exact True.intro
 |@cons p q ps qs h t ih=>
  obtain⟨h1,_,h2⟩:=h;by_cases e:p.1=k
  ·have e':q.1=k:=h1.symm.trans e;have b:atKey (q::qs) k=some q.2:=by simp[atKey,d9,e']
   rw[rG e,b];exact h2
  ·have e':¬ q.1=k:=λz=>e (h1.trans z)
   have b:atKey (q::qs) k=atKey qs k:=by simp[atKey,d9,e']
   rw[rH e,b];exact ih
def KT.repl{H:Hp}{kvs:List (List av×V)}{xs:List (List av×Addr×Value)}(r:KT H kvs xs)(k:List av){y:V}{u:Value}(ry:ah y u):
  KT H (kvs.map λkv=>if kv.1=k then(kv.1,y) else kv) (xs.map (putAt k u)):=by
 induction r with
 |nil=>exact .nil
 |@cons p q ps qs h t ih=>
  rw[dz,dz];refine .cons ?_ ih;obtain⟨h1,h2,h3⟩:=h;unfold putAt;by_cases e:p.1=k
  ·rw[if_pos e,if_pos (h1.symm.trans e)];exact⟨h1,h2,ry⟩
  ·rw[if_neg e,if_neg (λz=>e (h1.trans z))];exact⟨h1,h2,h3⟩
def KT.put{H:Hp}{kvs:List (List av×V)}{xs:List (List av×Addr×Value)}(r:KT H kvs xs)(k:List av){b:Addr}{y:V}{u:Value}(hb:H b=some (.tup (k.map kV)))(ry:ah y u):
  KT H (dR kvs k y) (storedH xs k b u):=by
 have e:(kvs.any λkv=>decide (kv.1=k))=(atKey xs k).isSome:=by
  rw[rJ,(r.val k).isSome_eq,r_]
 unfold dR storedH;rw[e];by_cases q:(atKey xs k).isSome=true
 ·rw[if_pos q,if_pos q];exact r.repl k ry
 ·rw[if_neg q,if_neg q];exact Paired.snoc r ⟨rfl,hb,ry⟩
def KT.keeps{H H':Hp}{kvs:List (List av×V)}{xs:List (List av×Addr×Value)}(r:KT H kvs xs)(ht:∀b ys,H b=some (.tup ys)->H' b=some (.tup ys)):KT H' kvs xs:=
 Paired.mapP r λ_ _ z=>⟨z.1,ht _ _ z.2.1,z.2.2⟩
section
variable{P:Program}{w:World}{H:Hp}{h:Heap}{a:Addr}
def AW{u:HO}(ok:d7 P w H h)(e:Rd H a u):aw P w H h a u:=e.ok ok
def kL{kvs:List (av×V)}(ok:d7 P w H h)(e:Rd H a (.dK kvs)):kvs.length<=sizeLine/\(a==sysModules)=false/\∃vs,KV kvs vs/\h.DictOf (bW P w) a vs:=
 show aw P w H h a (.dK kvs) from AW ok e
def F4{kvs:List (av×V)}(ok:d7 P w H h)(e:H a=some (.dK kvs)):kvs.length<=sizeLine/\(a==sysModules)=false/\∃vs,KV kvs vs/\h.DictOf (bW P w) a vs:=kL ok (.inl e)
def mY{ks:List av}(ok:d7 P w H h)(e:H a=some (.tup (ks.map kV))):(tupleKind (bW P w)).is h ks a:=by
 obtain⟨_,its,r,o,h1,h2,n,h3⟩:=(show aw P w H h a (.tup (ks.map kV)) from ok a _ e)
 exact⟨o,its.toArray,n,h1,h2,h3,by simpa using CS r⟩
def lO{kvs:List (List av×V)}(ok:d7 P w H h)(e:Rd H a (.dT kvs)):kvs.length<=sizeLine/\(a==sysModules)=false /\
  ∃xs,KT H kvs xs/\h.DictOfH (tupleKind (bW P w)) a xs:=by
 obtain⟨z,y,xs,r,o,es,ep,h1,h2,h3,h4,h5⟩:=(show aw P w H h a (.dT kvs) from AW ok e)
 refine⟨z,y,xs,r,o,es,ep,h1,h2,h3,h4,λx hx=>?_,h5⟩;have all:∀{l:List (List av×V)} {m:List (List av×Addr×Value)},KT H l m->∀x∈m,(tupleKind (bW P w)).is h x.1 x.2.1:=by
  intro l m q
  induction q with
  |nil=>intro x hx;exact nomatch hx
  |@cons p q ps qs hq t ih=>
   intro x hx;rcases qh_.mp hx with e|hx
   ·subst e;exact mY ok (by rw[<-hq.1];exact hq.2.1)
   ·exact ih x hx
 exact all r x hx
def F5{kvs:List (List av×V)}(ok:d7 P w H h)(e:H a=some (.dT kvs)):kvs.length<=sizeLine/\(a==sysModules)=false /\
  ∃xs,KT H kvs xs/\h.DictOfH (tupleKind (bW P w)) a xs:=lO ok (.inl e)
end
def jW(H:Hp)(a:Addr)(y:V)(r:Option V):Prop:=
 (∃kvs k,Rd H a (.dK kvs)/\y=kV k/\r=dZ kvs k)\/∃kvs k b,Rd H a (.dT kvs)/\y=.ref b/\H b=some (.tup (k.map kV))/\r=dZ kvs k
def o5(H:Hp)(a:Addr)(y v:V)(H':Hp):Prop:=
 (∃kvs k,H a=some (.dK kvs)/\y=kV k/\kvs.length<sizeLine/\H'=ar H a (.dK (dR kvs k v))) \/
 ∃kvs k b,H a=some (.dT kvs)/\y=.ref b/\H b=some (.tup (k.map kV))/\kvs.length<sizeLine/\H'=ar H a (.dT (dR kvs k v))
def o5.k{H:Hp}{a:Addr}{kvs:List (av×V)}{k:av}{v:V}(e:H a=some (.dK kvs))(hl:kvs.length<sizeLine):o5 H a (kV k) v (ar H a (.dK (dR kvs k v))):=.inl ⟨kvs,k,e,rfl,hl,rfl⟩
section
variable{X:Cx}{Qx:List (Addr×Obj)}{σ:St}{H:Hp}{s:Shared}{a:Addr}{y v:V}{u r:Value}{o:Option V}{A:Around}{E:Value->Shared->Prop}
def Nh{Q:Value->Shared->Prop}(hu:A.units+1<cLine)(I:ag X Qx σ H s)(g:jW H a y (some v))(ry:ah y u)(h:∀w' s',ag X Qx σ H s'->ah v w'->Q w' s'):
  wpAny (model X.prog X.w) A (getItem (.ref a) u) Q E s:=by
 rcases g with⟨kvs,k,e,ey,l⟩|⟨kvs,k,b,e,ey,eb,l⟩
 ·subst ey;obtain⟨z,hd,vs,rel,dd⟩:=kL I.hok e;obtain⟨w',hw,rw'⟩:=gu.some_of (v:=v) (o:=valueAt vs k) (by rw[l];exact rel.val k);exact wpAny_getItem_of (lJ ry) dd.mapOf hw (h w' _ (I.tok _) rw')
 ·subst ey;cases (show u=Value.ref b from ry);obtain⟨z,hd,xs,rel,dd⟩:=lO I.hok e;obtain⟨w',hw,rw'⟩:=gu.some_of (v:=v) (o:=(atKey xs k).map (·.2)) (by rw[l];exact rel.val k);obtain⟨p,hp,hp2⟩:=qd1_.mp hw;refine wpAny_getItem_heap (tupleKind_room_in1 hu) (mY I.hok eb) dd hp ?_;rw[hp2];exact h w' _ (I.tok _) rw'
def Ft{Q:Value->Shared->Prop}(hu:A.units+1<cLine)(I:ag X Qx σ H s)(g:jW H a y o)(ry:ah y u)(h:∀s',ag X Qx σ H s'->Q (.bool o.isSome) s'):
  wpAny (model X.prog X.w) A (compareOp .In u (.ref a)) Q E s:=by
 rcases g with⟨kvs,k,e,ey,l⟩|⟨kvs,k,b,e,ey,eb,l⟩
 ·subst ey;obtain⟨z,hd,vs,rel,dd⟩:=kL I.hok e;refine wpAny_in_of (lJ ry) hd dd.mapOf ?_;rw[<-(rel.val k).isSome_eq,<-l];exact h _ (I.tok _)
 ·subst ey;cases (show u=Value.ref b from ry);obtain⟨z,hd,xs,rel,dd⟩:=lO I.hok e;refine wpAny_in_heap (tupleKind_room_in1 hu) (mY I.hok eb) hd dd ?_;have q:=(rel.val k).isSome_eq;rw[r_]at q;rw[<-q,<-l];exact h _ (I.tok _)
def Jz{Q:Value->Shared->Prop}(hu:A.units+1<cLine)(I:ag X Qx σ H s)(g:jW H a y o)(ry:ah y u)(h:∀s',ag X Qx σ H s'->Q (.bool (!o.isSome)) s'):
  wpAny (model X.prog X.w) A (compareOp .NotIn u (.ref a)) Q E s:=by
 rcases g with⟨kvs,k,e,ey,l⟩|⟨kvs,k,b,e,ey,eb,l⟩
 ·subst ey;obtain⟨z,hd,vs,rel,dd⟩:=kL I.hok e;refine wpAny_notIn_of (lJ ry) hd dd.mapOf ?_;rw[<-(rel.val k).isSome_eq,<-l];exact h _ (I.tok _)
 ·subst ey;cases (show u=Value.ref b from ry);obtain⟨z,hd,xs,rel,dd⟩:=lO I.hok e;refine wpAny_notIn_heap (tupleKind_room_in1 hu) (mY I.hok eb) hd dd ?_;have q:=(rel.val k).isSome_eq;rw[r_]at q;rw[<-q,<-l];exact h _ (I.tok _)
def AL{h':Heap}{t':Nat}{ob:HO}(I:ag X Qx σ H s)(mu:vm (H a))(hs:Heap.SameBut a s.heap h')(he:∃q,h'.get? a=some q)(new:aw X.prog X.w (ar H a ob) h' a ob):
  ag X Qx σ (ar H a ob) {s with heap:=h',toks:=t'}:=
 I.write (x:=a) (e:=a) mu (.inl rfl) (λb q hb z=>(hs.2 b hb).trans z) he new
def G9{P:Program}{w:World}{H':Hp}{h':Heap}{kvs:List (av×V)}{vs:List (av×Value)}(z:kvs.length<=sizeLine)(hd:(a==sysModules)=false)(rel:KV kvs vs)(dd:h'.DictOf (bW P w) a vs):
  aw P w H' h' a (.dK kvs):=⟨z,hd,vs,rel,dd⟩
def Ni{H':Hp}{Q:Unit->Shared->Prop}(hu:A.units+1<cLine)(I:ag X Qx σ H s)(g:o5 H a y v H')(ry:ah y u)(rv:ah v r)(h:∀s',ag X Qx σ H' s'->Q () s'):
  wpAny (model X.prog X.w) A (setItem (.ref a) u r) Q E s:=by
 rcases g with⟨kvs,k,e,ey,l,eH⟩|⟨kvs,k,b,e,ey,eb,l,eH⟩
 ·subst ey eH;obtain⟨z,hd,vs,rel,dd⟩:=F4 I.hok e;have hz:vs.length<=sizeLine:=by rw[<-rel.length];exact z
  have hl:(dR kvs k v).length<=sizeLine:=by have:=uY kvs k v;omega
  refine wpAny_setItem_pairs (hsz:=hz) (lJ ry) dd λh' dd' hs=>h _ ?_
  have he:∃q,h'.get? a=some q:=let ⟨q,_,_,hq,_⟩:=dd';⟨q,hq⟩;exact AL I (by rw[e];exact True.intro) hs he (G9 hl hd (rel.put k rv) dd')
 ·subst ey eH;cases (show u=Value.ref b from ry);obtain⟨z,hd,xs,rel,dd⟩:=F5 I.hok e;have hz:xs.length<=sizeLine:=by rw[<-Paired.length rel];exact z
  have hl:(dR kvs k v).length<=sizeLine:=by have:=uY kvs k v;omega
  refine wpAny_setItem_heap (hsz:=hz) (tupleKind_room_in1 hu) (mY I.hok eb) dd λh' dd' hs=>h _ ?_
  obtain⟨q,es,ep,hq,h2,h3,h4,_,h5⟩:=dd';refine AL I (by rw[e];exact True.intro) hs ⟨q,hq⟩ ⟨hl,hd,_,(rel.put k eb rv).keeps λc ys ec=>?_,q,es,ep,hq,h2,h3,h4,h5⟩;rw[bP (HM ec e (λz=>nomatch z))];exact ec
end
section
variable{X:Cx}{Qx:List (Addr×Obj)}{σ:St}{H:Hp}{s:Shared}{a:Addr}{kvs:List (av×V)}{k:av}{u:Value}{A:Around}{E:Value->Shared->Prop}
def F3{Q:Value->Shared->Prop}(I:ag X Qx σ H s)(e:Rd H a (.dK kvs))(h:∀t s',ag X Qx σ H s'->Q (.int kvs.length t) s'):wpAny (model X.prog X.w) A (call (.builtin "len") [.ref a]) Q E s:=by
 obtain⟨z,hd,vs,rel,dd⟩:=kL I.hok e;refine call_len_dict hd dd (by rw[<-rel.length];rw[sizeLine_eq]at z;omega) ?_;rw[<-rel.length];exact h _ _ (I.tok _)
end
def N0{X:Cx}{Qx:List (Addr×Obj)}{σ:St}{H:Hp}{s:Shared}{a:Addr}{y:V}{o:Option V}(I:ag X Qx σ H s)(g:jW H a y o):s.TypeIs (.ref a) "dict":=by
 rcases g with⟨kvs,k,e,_,_⟩|⟨kvs,k,b,e,_,_,_⟩
 ·obtain⟨_,_,vs,_,dd⟩:=kL I.hok e;exact dd.typeIs
 ·obtain⟨_,_,xs,_,dd⟩:=lO I.hok e;exact dd.typeIs
def HB(td ty tv:TE):TS:=λD σ H=>tv σ H λv H1=>td σ H1 λx H2=>ty σ H2 λy H3=>∃a H4,x=.ref a/\o5 H3 a y v H4/\D.nx σ H4
section
variable{X:Cx}{o i e value:Expr}{pos pos' tpos:Pos}{td ty tv:TE}
def K7(hu:X.A.units+1<cLine)(ho:PE X o td)(hi:PE X i ty)(hv:PE X value tv)(hs:swapsWith value (some (.Subscript o i pos')) pos.line X.env=pure false):
  PS X (.Assign [.Subscript o i pos'] value pos) (HB td ty tv):=by
 intro Qx s σ H D I h;refine wpAny_Assign_Subscript (bf (hv Qx s σ H _ I h) λr s1 ⟨v,H1,I1,rv,q1⟩=>bf (ho Qx s1 σ H1 _ I1 q1) λu s2 ⟨x,H2,I2,rx,q2⟩=>bf (hi Qx s2 σ H2 _ I2 q2) λiv s3 ⟨y,H3,I3,ry,a,H4,ex,g,q3⟩=>?_) hs;subst ex;obtain rfl:u=Value.ref a:=rx;exact Ni hu I3 g ry rv λs4 I4=>⟨σ,H4,I4,q3⟩
end
def lC(kvs more:List (av×V)):List (av×V):=more.foldl (λacc kv=>dR acc kv.1 kv.2) kvs
def DQ:∀(more kvs:List (av×V)),(lC kvs more).length<=kvs.length+more.length
 |[],kvs=>by show kvs.length<=kvs.length+0;omega
 |p::r,kvs=>by
  have h1:=DQ r (dR kvs p.1 p.2);have h2:=uY kvs p.1 p.2;show(lC (dR kvs p.1 p.2) r).length<=_;rw[g6];omega
structure M2 (X:Cx) (o:Expr) (m:Str) (QC:Pos) (e f:Expr) (Qz:Pos):Prop where
 base:attributeBase o m X.env (eval o X.env)=eval o X.env
 few:((backTo Qz (starEach [e,f] X.env)).all (λx=>!x.1)&&(backToKw Qz (keywordEach [] X.env)).all (λx=>x.1.isSome)
  && decide (([e,f]:List Expr).length+([]:List Keyword).length+(if ([]:List Keyword).isEmpty then 0 else 1)<30))=true
 line:(QC.endLine==Qz.line)=true
 trees:backTo Qz (starEach [e,f] X.env)=[(false,eval e X.env),(false,eval f X.env)]
def EE(H:Hp)(a:Addr):Prop:=(∃kvs,Rd H a (.dK kvs))\/∃kvs,Rd H a (.dT kvs)
def Hg{X:Cx}{Qx:List (Addr×Obj)}{σ:St}{H:Hp}{s:Shared}{a:Addr}(I:ag X Qx σ H s)(d:EE H a):
  s.TypeIs (.ref a) "dict"/\(∀b,Value.ref a=.ref b->∃ob,s.heap.get? b=some ob/\ob.dict=none)/\(a==sysModules)=false:=by
 rcases d with⟨kvs,e⟩|⟨kvs,e⟩
 ·obtain⟨_,hd,vs,_,dd⟩:=kL I.hok e;refine⟨dd.typeIs,λb q=>?_,hd⟩;cases q;obtain⟨ob,_,_,h1,h2,_⟩:=dd;exact⟨ob,h1,h2.2.1⟩
 ·obtain⟨_,hd,xs,_,dd⟩:=lO I.hok e;refine⟨dd.typeIs,λb q=>?_,hd⟩;cases q;obtain⟨ob,_,_,h1,h2,_⟩:=dd;exact⟨ob,h1,h2.2.1⟩
section
variable{X:Cx}{Qx:List (Addr×Obj)}{σ:St}{H:Hp}{s:Shared}{a:Addr}{y d:V}{u r:Value}{o:Option V}{A:Around}{E:Value->Shared->Prop}
theorem G7{Q:Value->Shared->Prop}(hu:A.units+1<cLine)(I:ag X Qx σ H s)(g:jW H a y o)(ry:ah y u)(rd:ah d r)(h:∀w' s',ag X Qx σ H s'->ah (o.getD d) w'->Q w' s'):
  wpAny (model X.prog X.w) A (call (.builtin "dict.get") [.ref a,u,r]) Q E s:=by
 rcases g with⟨kvs,k,e,ey,l⟩|⟨kvs,k,b,e,ey,eb,l⟩
 ·subst ey;obtain⟨z,hd,vs,rel,dd⟩:=kL I.hok e;refine call_meetsIn PySem.F.slot_dict_get dd.typeIs PySem.F.entry_dict_get (PySem.F.args_dict_get_3 _ _ _) (meets_dict_get_default (bW X.prog X.w) a (lJ ry) hd r) ⟨_,dd.mapOf,h _ _ (I.tok _) ?_⟩;rw[l];exact(rel.val k).getD rd
 ·subst ey;cases (show u=Value.ref b from ry);obtain⟨z,hd,xs,rel,dd⟩:=lO I.hok e;refine call_meetsIn PySem.F.slot_dict_get dd.typeIs PySem.F.entry_dict_get (PySem.F.args_dict_get_3 _ _ _) (meetsH_dict_get_default (tupleKind (bW X.prog X.w)) a b hd r) ⟨tupleKind_room_in1 hu,k,xs,mY I.hok eb,dd,h _ _ (I.tok _) ?_⟩;rw[l];exact(rel.val k).getD rd
end
def JP(td ty tx:TE):TE:=λσ H Q=>td σ H λx H1=>∃a,x=.ref a/\EE H1 a/\ty σ H1 λy H2=>tx σ H2 λz H3=>∃o,jW H3 a y o/\Q (o.getD z) H3
section
variable{X:Cx}{o e f:Expr}{QC Qz:Pos}{td ty tx:TE}
theorem Mn(hu:X.A.units+1<cLine)(ho:PE X o td)(he:PE X e ty)(hf:PE X f tx)(m:M2 X o "get" QC e f Qz):PE X (.Call (.Attribute o "get" QC) [e,f] [] Qz) (JP td ty tx):=by
 intro Qx s σ H Q I h;refine wpAny_Call_method m.base m.few m.line PySem.F.plainAttrs_dict PySem.F.slot_dict_get PySem.F.type_dict_get (bf (ho Qx s σ H _ I h) λu s1 ⟨x,H1,I1,rx,a,ex,d,q1⟩=>?_);subst ex;obtain rfl:u=Value.ref a:=rx;obtain⟨t1,t2,_⟩:=Hg I1 d;refine⟨t1,t2,?_⟩;rw[m.trees];refine Calls.callWith_builtin rfl (Calls.evalArgs_plain (Calls.spliced_cons (bf (he Qx s1 σ H1 _ I1 q1) λiv s2 ⟨y,H2,I2,ry,q2⟩=>
  Calls.spliced_cons (bf (hf Qx s2 σ H2 _ I2 q2) λfv s3 ⟨z,H3,I3,rz,ov,g,q3⟩=>Calls.spliced_nil ?_))))
 exact G7 hu I3 g ry rz λw' s4 I4 rw'=>⟨_,H3,I4,rw',q3⟩
end
section
variable{κ:Type}[DecidableEq κ]
def KJ{kvs:List (κ×V)}{k:κ}{v:V}(h:dZ kvs k=some v):k∈kvs.map (·.1):=by
 have q:(kvs.any λkv=>decide (kv.1=k))=true:=by
  rw[rJ,h]
  all_goals rfl
 obtain⟨p,hp,e⟩:=qL_.mp q;exact qf_.mpr ⟨p,hp,kf e⟩
end
end L2
namespace L2
open PySem PySem.Spec PyProof.Rows
def nj(H:Hp)(a:Addr)(ob:Obj)(kvs:List (av×V)):Prop:=H a=some (.frz ob (.dK kvs))
def lD{kvs:List (av×V)}{vs:List (av×Value)}(r:KV kvs vs):kvs.length=vs.length:=Paired.length r
def A8:∀{kvs:List (av×V)}{vs:List (av×Value)}{i:Nat}{k:av}{v:V},KV kvs vs->kvs[i]?=some (k,v)->∃u,vs[i]?=some (k,u)/\ah v u
 |_,_,0,_,_,.cons (b:=b) r _,h=>by
  cases h;obtain⟨e,r⟩:=r;exact⟨b.2,by show some b=_;rw[show b=(b.1,b.2) from rfl,<-e],r⟩
 |_,_,i+1,_,_,.cons _ rs,h=>A8 (i:=i) rs (by simpa using h)
def JK{k:av}{u:Value}(h:kK k u=true):ah (kV k) u:=by
 rcases gP h with⟨i,t,rfl,rfl⟩|⟨x,t,rfl,rfl⟩
 ·exact⟨t,rfl⟩
 ·exact⟨t,rfl⟩
section
variable{X:Cx}{Qx:List (Addr×Obj)}{σ:St}{H:Hp}{s:Shared}{a:Addr}{ob:Obj}{kvs:List (av×V)}
def kD(I:ag X Qx σ H s)(h:nj H a ob kvs):s.heap.get? a=some ob/\(a==sysModules)=false/\kvs.length<=sizeLine/\∃vs es ep,KV kvs vs/\s.heap.DictAt (bW X.prog X.w) a vs ep/\ob.data=.dict es ep:=by
 obtain⟨e,hl,hs,vs,r,o,es,ep,e',x1,x2,x3⟩:=(show aw X.prog X.w H s.heap a (.frz ob (.dK kvs)) from I.hok a _ h)
 rw[e]at e';cases e';exact⟨e,hs,hl,vs,es,ep,r,⟨ob,es,e,x1,x2,x3⟩,x2⟩
end
def y9(a:Addr)(ob:Obj)(kvs:List (av×V)):It:=
 ⟨λi H=>nj H a ob kvs/\i<kvs.length,λi H x H'=>H'=H/\∃k v,kvs[i]?=some (k,v)/\x=kV k,λi H=>nj H a ob kvs/\kvs.length<=i⟩
def OF{P:Program}{w:World}{K:W.Frag}{tg:Expr}{a it:Addr}{ob:Obj}{kvs:List (av×V)}{es:Array DictEntry}{ep:Nat}(hep:ob.data=.dict es ep):
  iW P w K tg (y9 a ob kvs) [it] it (λi h=>h.IsKeyIter it a i kvs.length ep) where
 mem:=by simp
 obj:=λi h st b hb=>by
  have e:b=it:=by simpa using hb
  subst e;obtain⟨o,e,c,d⟩:=st;exact⟨o,e,λv z=>by rw[d]at z;cases z⟩
 keep:=λi h h' st k=>st.at λo e=>k it (by simp) o e
 item:=by
  intro X hP hw hK hc i Qx s σ H E I hf st hg;subst hP hw hK;obtain⟨hz,hi⟩:=hg;obtain⟨e,hs,hl,vs,es',ep',r,dd,hd'⟩:=kD I hz;rw[hep]at hd';cases hd';obtain⟨f0,f1,f2,f3,f4,f5⟩:=hf it (by simp);obtain⟨⟨k,v⟩,hx⟩:∃p,kvs[i]?=some p:=⟨kvs[i],by simp[hi]⟩
  obtain⟨u,hu,ru⟩:=A8 r hx;have st':s.heap.IsKeyIter it a i vs.length ep:=by rw[<-lD r];exact st
  refine wpAny_pyNext_dict_item st' dd hu λkey h' hkey hit' sb=>?_
  have I1:ag X Qx σ H {s with heap:=h'}:=I.turned (t':=s.toks) (λb o hb e=>(sb.2 b hb).trans e) f0 f1 f3 f4 f5;obtain⟨o,e,c,d⟩:=id hit';exact⟨key,rfl,lL (s:={s with heap:=h'}) e c d (by decide) ⟨kV k,H,I1,JK hkey,⟨rfl,k,v,hx,rfl⟩,by rw[lD r];exact hit',λb hb=>(hf b hb).1⟩⟩
 done:=by
  intro X hP hw hK hc i Qx s σ H E I hf st hg;subst hP hw hK;obtain⟨hz,hi⟩:=hg;obtain⟨e,hs,hl,vs,es',ep',r,dd,hd'⟩:=kD I hz;rw[hep]at hd';cases hd';obtain⟨f0,f1,f2,f3,f4,f5⟩:=hf it (by simp);have st':s.heap.IsKeyIter it a i vs.length ep:=by rw[<-lD r];exact st
  have hn:vs[i]?=none:=ky (by rw[<-lD r];exact hi);exact wpAny_pyNext_dict_end (I.ok.hd hc) st' dd hn λh' eb=>⟨rfl,I.turned (t':=s.toks) (λb o hb e=>eb b o hb e) f0 f1 f3 f4 f5⟩
 self:=λ_ _ _ _ _ st h=>wpAny_pyIter_keyiter st h
def DN{prog:Program}{w:World}:∀{kvs:List (av×Value)}{us:List Str}{acc:Array Value},kvs.map (·.1)=us.map Sum.inr ->
  ItemsOf (λi v=>∃k x,kvs[i]?=some (k,x)/\(bW prog w).is k v=true) acc kvs.length->StrsAre acc.toList us:=by
 intro kvs us acc hk h;obtain⟨hn,hp⟩:=h;have key:∀(us:List Str) (l:List Value) (kvs:List (av×Value)),kvs.map (·.1)=us.map Sum.inr->l.length=kvs.length->(∀(j:Nat) (v:Value),l[j]?=some v->∃k x,kvs[j]?=some (k,x)/\(bW prog w).is k v=true)->StrsAre l us:=by
  intro us
  induction us with
  |nil=>
   intro l kvs hk hl _;have:kvs=[]:=by simpa using hk
   subst this;have:l=[]:=j7 hl;subst this;exact .nil
  |cons y ys ih=>
   intro l kvs hk hl hp;cases kvs with
   |nil=>simp at hk
   |cons p kvs=>
    cases l with
    |nil=>simp at hl
    |cons v l=>
     simp only[dz,List.cons.injEq]at hk;obtain⟨k,x,e,q⟩:=hp 0 v rfl;have e:p=(k,x):=by simpa using e
     subst e;have hk1:k=Sum.inr y:=hk.1;subst hk1;rcases gP (show kK (Sum.inr y) v=true from q) with⟨i,t,z,_⟩|⟨z,t,e1,rfl⟩
     ·cases z
     ·cases e1;exact .cons _ _ (ih l kvs hk.2 (by simpa using hl) λj v hj=>hp (j+1) v hj)
 refine key us acc.toList kvs hk (by simpa using hn) λj v hj=>hp j v (by simpa using hj)
section
variable{prog:Program}{w:World}{A:Around}{E:Value->Shared->Prop}{s:Shared}{a:Addr}{us:List Str}
def Kn:isSubtype (.type "dict") (.type "dict")=pure true:=by rw[isSubtype_type];kernel_rfl
theorem NF{Q:Bool->Shared->Prop}(ht:s.TypeIs (.ref a) "dict")(h:Q false s):wpAny (model prog w) A (Builtin.List.listLengthHint (.ref a)) Q E s:=by
 unfold Builtin.List.listLengthHint;refine af (wpAny_specialOf ht PySem.F.slot_dict_len.lookup ?_);have e1:splitId "dict.__len__"=some ("dict","__len__"):=by decide +kernel
 dsimp only;rw[e1];dsimp only;refine af (wpAny_isInstance ht Kn ?_);simp only[Bool.not_true,m5,if_false];refine wpAny_ite ?_;rw[if_pos (by decide +kernel)];refine af (wpAny_typeOf ht ?_);exact aj h
theorem OZ{kvs:List (av×Value)}{ep:Nat}{Q:List Value->Shared->Prop}(hh:A.handled=none)(hsm:(a==sysModules)=false)(S:s.heap.DictAt (bW prog w) a kvs ep)(hks:kvs.map (·.1)=us.map Sum.inr)(hl:us.length<=sizeLine)
  (hQ:∀h' d tk (acc:List Value) vs,StrsAre acc vs->vs.Perm us->s.heap.objs.size<h'.objs.size->(∀b o,s.heap.get? b=some o->h'.get? b=some o)->Q acc {s with heap:=h',drawn:=d,toks:=tk}):
  wpAny (model prog w) A (collect (.ref a)) Q E s:=by
 have alt:a<s.heap.objs.size:=S.lt_size;have hkl:kvs.length=us.length:=by have:=congrArg List.length hks;simpa using this
 unfold collect;refine af (wpAny_runValue (i6 F.entry_proto_collect ?_));rw[jl F.plain_proto_collect _];show wpAny _ A.in1 (newList [] >>= λl=>again (.builtin "list.__iadd__" ⟨[l,.ref a],[]⟩)) _ _ s;refine af (d8 ?_ (by size_fits));refine aj ⟨plainId_quiet F.plain_list_iadd _,i6 F.entry_list_iadd ?_⟩;rw[jl F.plain_list_iadd _];show wpAny _ A.in1 (Builtin.List.listExtendWith (.ref s.heap.objs.size) (.ref a) (.ref s.heap.objs.size)) _ _ _;unfold Builtin.List.listExtendWith;have S1:=S.push {cls:=.type "list",data:=.seq ([]:List Value).toArray};have ht:Shared.TypeIs {s with heap:=s.heap.push {cls:=.type "list",data:=.seq ([]:List Value).toArray}} (.ref a) "dict":=S1.dictOf.typeIs;refine af (wpAny_typeOf ht ?_);have h1:Builtin.List.listSameRef (.ref s.heap.objs.size) (.ref a)=false:=by simp[Builtin.List.listSameRef];exact je alt
 have h2:(Value.type "dict"==Value.type "list")=false:=by decide
 have h3:(Value.type "dict"==Value.type "tuple")=false:=by decide
 simp only[h1,h2,h3,j8,m5,if_false];refine af (wpAny_pyIter_dict hsm S1 ?_);generalize hh':((s.heap.push {cls:=.type "list",data:=.seq ([]:List Value).toArray}).push {cls:=.type "dict_keyiterator",data:=.fields #[.ref a,.int 0 0,.int kvs.length 0,.int ep 0]})=h';have sz1:(s.heap.push {cls:=.type "list",data:=.seq ([]:List Value).toArray}).objs.size=s.heap.objs.size+1:=ib ..;have kp:∀b o,(s.heap.push {cls:=.type "list",data:=.seq ([]:List Value).toArray}).get? b=some o->h'.get? b=some o:=λb o e=>by rw[<-hh'];exact bc _ e
 have ht':Shared.TypeIs {s with heap:=h'} (.ref a) "dict":=by
  obtain⟨o,e,c⟩:=ht;exact⟨o,kp _ _ e,c⟩
 have st0:h'.IsKeyIter (s.heap.objs.size+1) a 0 kvs.length ep/\h'.DictAt (bW prog w) a kvs ep:=by
  refine⟨⟨{cls:=.type "dict_keyiterator",data:=.fields #[.ref a,.int 0 0,.int kvs.length 0,.int ep 0]},?_,rfl,rfl⟩,S1.keep kp⟩;rw[<-hh',<-sz1];exact cf _ rfl
 rw[sz1];refine af (h_ (NF ht' ?_));have hA:A.in1.handled=none:=by simp[hh]
 have W:=(Walks.dictKeys (prog:=prog) (w:=w) (A:=A.in1) (knd:=bW prog w) hA (s.heap.objs.size+1) a (λz=>absurd alt (by rw[z];exact qG2_.mpr (g7 _))) kvs ep).toS;refine wpAny_ite ?_;rw[if_pos (by decide +kernel)];refine af (wpAny_rule ?_);have g0:h'.get? s.heap.objs.size=some {cls:=.type "list",data:=.seq ([]:List Value).toArray}:=kp _ _ (cf _ rfl);have nf:s.heap.objs.size∉[s.heap.objs.size+1,a]:=λm=>by
  simp only[qh_,da,or_false]at m;rcases m with z|z
  ·omega
  ·rw[<-z]at alt;exact e_ _ alt
 refine af ?_;show wpAny _ A.in1 (updateSeq s.heap.objs.size (·.push .none) >>= λ_=>updateSeq s.heap.objs.size (·.pop)) _ _ _;refine af (wpAny_updateSeq g0 rfl ?_);have g1:=e7 (Obj.mapSeq (·.push Value.none)) g0 rfl;refine wpAny_updateSeq g1 rfl ?_;have g2:=e7 (Obj.mapSeq (·.pop)) g1 rfl;have oth:∀b o,b≠s.heap.objs.size->h'.get? b=some o->((h'.update s.heap.objs.size (Obj.mapSeq (·.push Value.none))).update s.heap.objs.size (Obj.mapSeq (·.pop))).get? b=some o:=
  λb o hb e=>(l_ _ _ (Ne.symm hb)).trans ((l_ _ _ (Ne.symm hb)).trans e)
 refine aj ⟨plainId_quiet F.plain_extend_loop _,codeAny_extend_loopS W (by rw[hkl];exact hl) _ nf _ kvs.length 0 _ _ _ rfl (dq _)
  (W.frame 0 {s with heap:=h'} _ s.toks st0 (ba _) λb hb o e=>oth b o (λz=>nf (z▸hb)) e) g2 (ItemsOf.nil _) λs' acc' c' hm g' hacc=>?_⟩
 show wpAny _ A (load s.heap.objs.size >>= _) _ _ s';refine af (wpAny_load g' ?_);have hs:=DN hks hacc;obtain⟨h'',g'',d'',tk'',os''⟩:=s';have e1:g''=s.gens:=hm.gens;have e2:os''=s.os:=hm.os;subst e1 e2;refine aj (hQ h'' d'' tk'' acc'.toList us hs (List.Perm.refl _) (bj g') λb o e=>hm.heap b o (λm=>?_) (oth b o (cu (bj e)) (kp b o (bc _ e))));have lt:=bj e;simp only[qh_,da,or_false]at m;rcases m with m|m
 ·rw[m]at lt;exact e_ _ lt
 ·rw[m]at lt;exact absurd lt (qG2_.mpr (g7 _))
def OX{kvs:List (av×Value)}{ep:Nat}{Q:Value->Shared->Prop}(hh:A.handled=none)(hsm:(a==sysModules)=false)(S:s.heap.DictAt (bW prog w) a kvs ep)(hks:kvs.map (·.1)=us.map Sum.inr)(h64:us.length<64)
  (h:∀h' d tk (l:Addr) (out:List Value) (ss:List Str) (e:Nat),StrsAre out ss->ss.Perm us->sortedS ss=true->h'.get? l=some (seqObj "list" out.toArray e)->s.heap.objs.size<=l->(∀b o,s.heap.get? b=some o->h'.get? b=some o) ->
   Q (.ref l) {s with heap:=h',drawn:=d,toks:=tk}):wpAny (model prog w) A (call (.builtin "sorted") [.ref a]) Q E s:=by
 refine Calls.call_function_entry kind_sorted plain_sorted entry_sorted (args_sorted1 _) ?_;unfold Builtin.«sorted»;refine af (m:=checkCount "sorted" 1 1 _) (aj ?_);refine af (OZ (by simp[hh]) hsm S hks (j0 (fh h64 (by decide))) λh1 d tk acc vs hs hp le kp=>?_);have hlen:acc.length<64:=by rw[iE hs,hp.length_eq];exact h64
 refine af (wpAny_newList ?_ (j0 (fh hlen (by decide))));have hoL:(h1.push (seqObj "list" acc.toArray 0)).get? h1.objs.size=some (seqObj "list" acc.toArray 0):=cf _ rfl;refine af (h_ (jz slot_list_sort ⟨_,hoL,rfl⟩ entry_list_sort (list_sort_treeK strKind_oneLt hoL hs.keysOf (λv₁ v₂ rest e=>keyKind_strs (by rw[<-e];exact hs)) hlen λst' a1 a2=>⟨_,rfl,?_⟩) (args_list_sort _)));obtain⟨ss',b1,b2,b3⟩:=sorted_out_str hs a1 a2;obtain⟨e,he⟩:=sortedHeap_at (out:=(arrOf st').map (·.2)) hoL;refine aj ⟨_,rfl,h _ _ _ _ ((arrOf st').map (·.2)).toList ss' e b1 (b2.trans hp) b3 (by rw[kx];exact he) (j0 le) λb o q=>?_⟩;have lt:=bj (kp b o q);rw[sortedHeap_old (cu lt) (by rw[ib];exact gk lt)];exact bc _ (kp b o q)
end
section
variable{X:Cx}
def Iy:List V->Hp->VK->Prop:=λxs H Q=>∃(a:Addr) (ob:Obj) (kvs:List (av×V)) (us:List Str),xs=[.ref a]/\nj H a ob kvs/\kvs.map (·.1)=us.map Sum.inr/\us.length<64 /\
  ∀(ss:List Str) (l:Addr),ss.Perm us->sortedS ss=true->H l=none->Q (.ref l) (ar H l (.lst (ss.map V.str)))
def sE:∀{kvs:List (av×V)}{vs:List (av×Value)},KV kvs vs->kvs.map (·.1)=vs.map (·.1)
 |[],_,.nil=>rfl
 |_::_,_,.cons r rs=>by rw[dz,dz,r.1,sE rs]
theorem Pa(hc:X.calm=true):aq X (.builtin "sorted") Iy:=by
 intro Qx s σ H xs us Q I r h;obtain⟨a,ob,kvs,uu,rfl,hz,hk,h64,q⟩:=h;obtain⟨u,rfl,rx⟩:=cN r;cases rx;obtain⟨e,hs,hl,vs,es,ep,rr,dd,hd⟩:=kD I hz;refine OX (I.ok.hd hc) hs dd (by rw[<-sE rr];exact hk) h64 λh' d tk l out ss e hs hp hso hl le k=>?_
 refine⟨.ref l,_,(I.laid (t':=tk) (o:=.lst (ss.map V.str)) k le ?_).draw d,rfl,q ss l hp hso (I.hok.fresh le)⟩;refine⟨?_,out,e,qI hs,hl⟩;rw[ak,hp.length_eq];exact j0 (fh h64 (by decide))
def Hu:List V->Hp->VK->Prop:=λxs H Q=>∃(a:Addr) (kvs:List (av×V)),xs=[.ref a]/\Rd H a (.dK kvs)/\Q (.int kvs.length) H
def Od:aq X (.builtin "len") Hu:=by
 intro Qx s σ H xs us Q I r h;obtain⟨a,kvs,rfl,e,q⟩:=h;obtain⟨u,rfl,rx⟩:=cN r;cases rx;exact F3 I e λt s' I'=>⟨.int kvs.length,H,I',⟨t,rfl⟩,q⟩
def Gk:R2:=λx y H Q=>∃a v,x=.ref a/\jW H a y (some v)/\Q v H
theorem JJ(hu:X.A.units+1<cLine):nh X Gk:=by
 intro value slice Qx s σ H x y v u Q I rx ry h hs;obtain⟨a,z,rfl,g,q⟩:=h;cases rx;have hT:=N0 I g;unfold subscriptTail;refine af ?_;rw[getitemInPython_of_ne hT.not_modules];refine af (wpAny_specialOf hT PySem.F.slot_dict_getitem.lookup ?_);have fin:wpAny (model X.prog X.w) X.A (subscripted slice false (.ref a) u) (λr s₃=>wpAny (model X.prog X.w) X.A (letTemporaryGo value (.ref a) r >>= λ_=>pure r) (EP X Qx σ Q) X.xe s₃) X.xe s:=by
  rw[hs];exact wpAny_operating (Nh hu I g ry λw' s3 I3 rw'=>af (wpAny_letTemporaryGo (aj ⟨z,H,I3,rw',q⟩)))
 first
  |exact aj (af fin)
  |exact af (aj (af fin))
  |exact af fin
def Gi:R2:=λy x H Q=>∃a o,x=.ref a/\jW H a y o/\Q (.bl o.isSome) H
def Oy(hu:X.A.units+1<cLine):cm X (compareOp .In) Gi:=by
 intro Qx s σ H y x u v Q I ry rx h;obtain⟨a,o,rfl,g,q⟩:=h;cases rx;exact Ft hu I g ry λs' I'=>⟨.bl _,H,I',rfl,q⟩
end
def ig:HO->Bool
 |.lst _=>true
 |.dK _=>true
 |_=>false
def br(H H1 H2:Hp):Prop:=∀b,(H b=none/\∃o ob,ig o=true/\H1 b=some o/\H2 b=some (.frz ob o))\/(¬ (H b=none/\∃o,ig o=true/\H1 b=some o)/\H2 b=H1 b)
section
variable{H H1 H2:Hp}{b:Addr}{o:HO}
def br.keep(f:br H H1 H2)(h:H1 b=some o)(n:ig o=false):H2 b=some o:=by
 rcases f b with⟨_,o',ob,z,e,_⟩|⟨_,z⟩
 ·rw[h]at e;cases e;rw[n]at z;exact absurd z cn
 ·rw[z];exact h
def br.fz(f:br H H1 H2)(hn:H b=none)(h:H1 b=some o)(n:ig o=true):∃ob,H2 b=some (.frz ob o):=by
 rcases f b with⟨_,o',ob,z,e,e2⟩|⟨z,_⟩
 ·rw[h]at e;cases e;exact⟨ob,e2⟩
 ·exact absurd ⟨hn,o,n,h⟩ z
def br.none_of(f:br H H1 H2)(h:H1 b=none):H2 b=none:=by
 rcases f b with⟨_,o',ob,z,e,e2⟩|⟨_,z⟩
 ·rw[h]at e;cases e
 ·rw[z];exact h
end
theorem cv.imp{P:Program}{w:World}{K:W.Frag}{mg:Str->Option Value}{base:Heap}{k:Nat}{x:Str}{ps:List Str}{sp sp':Sp}(G:cv P w K mg base k x ps sp)(h:∀vs H Q E,sp' vs H Q E->sp vs H Q E):cv P w K mg base k x ps sp':=by
 obtain⟨f,fd,F,b,m,kp⟩:=G;exact⟨f,fd,F.imp h,b,m,kp⟩
theorem cv.mono{P:Program}{w:World}{K:W.Frag}{mg:Str->Option Value}{base:Heap}{j k:Nat}{x:Str}{ps:List Str}{sp:Sp}(G:cv P w K mg base j x ps sp)(h:j<=k):cv P w K mg base k x ps sp:=by
 obtain⟨f,fd,F,b,m,kp⟩:=G;exact⟨f,fd,F.mono h,b,m,kp⟩
def Bk:HO->Bool
 |.frz _ _=>true
 |.tup _=>true
 |_=>false
def HS(H H':Hp):Prop:=∀b o,Bk o=true->H b=some o->H' b=some o
section
variable{H H1 H2:Hp}{a p c:Addr}{o:HO}
def HS.refl(H:Hp):HS H H:=λ_ _ _ e=>e
def HS.trans(x:HS H H1)(y:HS H1 H2):HS H H2:=λb o h e=>y b o h (x b o h e)
def ay.hs(s:ay H H1):HS H H1:=λb o _ e=>s b o e
def br.hs(f:br H H1 H2):HS H1 H2:=λb o h e=>f.keep e (by cases o<;>first|rfl|exact absurd h cn)
def hC(h:H a=none):HS H (ar H a o):=λb u _ e=>by rw[bP (dX e h)];exact e
def fR{u:HO}(h:H a=some u)(n:Bk u=false):HS H (ar H a o):=λb v hv e=>by
 by_cases z:b=a
 ·subst z;rw[h]at e;cases e;rw[n]at hv;exact absurd hv cn
 ·rw[bP z];exact e
end
def OL:typeLookup (.type "list") "keys"=pure none:=by rw[typeLookup_type,builtinLookup_eq_fast];kernel_rfl
section
variable{prog:Program}{w:World}{A:Around}{E:Value->Shared->Prop}{s:Shared}
theorem Oa{a:Addr}{xs:Array Value}{n:Nat}{Q:Option Value->Shared->Prop}(hA:A.handled=none)(hx:s.heap.get? a=some {cls:=.type "list",data:=.seq xs n})
  (h:∀h' tk,(∀b o,s.heap.get? b=some o->h'.get? b=some o)->Q none {s with heap:=h',toks:=tk}):wpAny (model prog w) A (getAttr? (.ref a) "keys") Q E s:=by
 obtain⟨hp,g,d,tk,os⟩:=s;have ty:∀t',(⟨hp,g,d,t',os⟩:Shared).TypeIs (.ref a) "list":=λ_=>⟨_,hx,rfl⟩
 have e1:=sub_AttributeError;have e2:=F.slot_list_getattribute.lookup;have e3:=F.slot_list_getattribute.bind (.ref a);have e4:=am_list_getattr_none;unfold getAttr? getAttrBy? getAttrBy
 repeat (any_goals (first|assumption|exact ty _|((with_reducible show wpAny _ _ (call (Value.builtin "list.__getattribute__") _ _) _ _ _);refine call_meets F.slot_list_getattribute (ty _) am_entry_list_getattribute (F.args_list_getattribute_2 _ _) (meets_getattribute_miss_list a xs n #[] "keys" _ OL (by decide +kernel)) ⟨hx,hA,λh' tk' e ne=>?_⟩)|wp_step))
 obtain⟨t',u',he⟩:=ne.there;show wpAny _ _ (getattributeRaised _ _ _ _ _ _ _) _ _ _;unfold getattributeRaised
 repeat (any_goals (first|assumption|wp_step))
 all_goals exact h _ _ ne.keeps
def A3:entryFor table "dict.update.loop"=some Builtin.«dict.update.loop»:=entryFor_of_tree (by kernel_rfl)
def sM:plainId "dict.update.loop"=true:=by decide +kernel
def vT{h h':Heap}{a:Addr}{kvs:List (av×Value)}(hd:h.DictOf (bW prog w) a kvs)(k:∀o,h.get? a=some o->h'.get? a=some o):h'.DictOf (bW prog w) a kvs:=by
 obtain⟨o,es,ep,e,r⟩:=hd;exact⟨o,es,ep,k o e,r⟩
def il(prog:Program)(w:World)(h:Heap)(its:Array Value)(ps:List (av×Value)):Prop:=
 its.size=ps.length/\∀(j:Nat) (k:av) (v:Value),ps[j]?=some (k,v)->∃t key,its[j]?=some (.ref t)/\IsTup h t #[key,v]/\(bW prog w).is k key=true
def il.keep{h h':Heap}{its:Array Value}{ps:List (av×Value)}(x:il prog w h its ps)(k:∀t o,h.get? t=some o->o.cls=.type "tuple"->h'.get? t=some o):il prog w h' its ps:=
 ⟨x.1,λj kk v e=>by
  obtain⟨t,key,a,⟨o,b,c,d⟩,f⟩:=x.2 j kk v e;exact⟨t,key,a,⟨o,k t o b c,c,d⟩,f⟩⟩
def NH{R:Result->Shared->Prop}{it l dd:Addr}{its:Array Value}{ps:List (av×Value)}(hh:A.handled=none)(hli:l≠it)(hdi:dd≠it)(hdl:dd≠l)(hsz:ps.length<=1000):
  ∀(m i:Nat) (s:Shared) (kvs:List (av×Value)) (tk:Tok),ps.length=i+m->s.heap.IsListIter it l i/\s.heap.IsList l its->il prog w s.heap its ps->s.heap.DictOf (bW prog w) dd kvs->kvs.length<=i ->
   (∀h' tk',h'.DictOf (bW prog w) dd ((ps.drop i).foldl (λacc kv=>stored acc kv.1 kv.2) kvs)->(∀b o,b≠it->b≠dd->s.heap.get? b=some o->h'.get? b=some o)->R (.ok (.ret .none)) {s with heap:=h',toks:=tk'}) ->
   codeAny (model prog w) A (.builtin "dict.update.loop" ⟨[.ref dd,.ref it,.int i tk,.none],[]⟩) R s:=by
 have W:=Walks.list (prog:=prog) (w:=w) (A:=A.in1) (by simp[hh]) it l hli its;intro m
 induction m with
 |zero=>
  intro i s kvs tk hm st ht hd hl hR;refine i6 A3 ?_;rw[jl sM _];unfold Builtin.«dict.update.loop»;refine af (W.done s _ _ (by rw[ht.1,hm];exact st) λh' tk' k=>?_);refine af (aj (aj ?_));have e:ps.drop i=[]:=List.drop_of_length_le (by omega);rw[e]at hR;refine hR h' tk' (vT hd λo e=>k dd o (by simp[hdi]) e) λb o n1 _ e=>k b o (by simp[n1]) e
 |succ m ih=>
  intro i s kvs tk hm st ht hd hl hR;have hi:i<ps.length:=by omega
  have hp:ps[i]?=some (ps[i].1,ps[i].2):=b6 hi;obtain⟨t,key,e1,htt,hkey⟩:=ht.2 i _ _ hp;refine i6 A3 ?_;rw[jl sM _];unfold Builtin.«dict.update.loop»;refine af (W.item i s _ _ (by rw[ht.1];exact hi) st λv h' tk' hv st' k=>?_);have hv:v=.ref t:=by rw[e1]at hv;exact(Option.some.inj hv).symm
  subst hv;have nti:∀b o,s.heap.get? b=some o->o.cls=.type "tuple"->b≠it:=λb o e c z=>by
   obtain⟨o',e',c',_⟩:=st.1;rw[<-z,e]at e';cases e';rw[c]at c';exact absurd c' (by decide)
  have ntd:∀b o,s.heap.get? b=some o->o.cls=.type "tuple"->b≠dd:=λb o e c z=>by
   obtain⟨o',e',c'⟩:=hd.typeIs;rw[<-z,e]at e';cases e';rw[c]at c';exact absurd c' (by decide)
  obtain⟨ot,et,ct,nt,dt⟩:=htt;have et':=k t ot (by simp[nti t ot et ct]) et;have hd':h'.DictOf (bW prog w) dd kvs:=vT hd λo e=>k dd o (by simp[hdi]) e
  have ty:Shared.TypeIs {s with heap:=h',toks:=tk'} (.ref t) "tuple":=⟨ot,et',ct⟩
  refine af (h_ ?_);refine af (wpAny_tryCatch ?_);unfold Builtin.Dict.pairItems;refine af (wpAny_typeOf ty ?_);rw[if_pos (by decide)];refine af (wpAny_seqItems et' dt (aj ?_));refine h_ (wpAny_dictSet_pairs hkey hd' (λh2 hd2 sb=>?_) (by rw[sizeLine_eq];omega));refine aj ⟨plainId_quiet sM _,?_⟩;have l2:=sb.2 l hdl.symm;refine ih (i+1) _ (stored kvs ps[i].1 ps[i].2) _ (by omega) ?_ ?_ hd2 ?_ λh3 tk3 hd3 k3=>?_
  ·refine W.frame (i+1) h' h2 st' λb hb o e=>?_
   rcases qh_.mp hb with z|z
   ·rw[z]at e ⊢;exact(sb.2 it hdi.symm).trans e
   ·rw[qB_.mp z]at e ⊢;exact l2.trans e
  ·exact ht.keep λb o e c=>(sb.2 b (ntd b o e c)).trans (k b o (by simp[nti b o e c]) e)
  ·unfold stored;split
   ·rw[ak];omega
   ·rw[b7];show kvs.length+1<=_;omega
  ·refine hR h3 tk3 ?_ λb o n1 n2 e=>k3 b o n1 n2 ((sb.2 b n2).trans (k b o (by simp[n1]) e))
   rw[show ps.drop i=ps[i]::ps.drop (i+1) from qh hi];exact hd3
theorem OO{l:Addr}{its:Array Value}{nl:Nat}{ps:List (av×Value)}{Q:Value->Shared->Prop}(hh:A.handled=none)(hl:s.heap.get? l=some {cls:=.type "list",data:=.seq its nl})(ht:il prog w s.heap its ps)(hsz:ps.length<=1000)
  (h:∀h' tk,h'.DictOf (bW prog w) s.heap.objs.size (ps.foldl (λacc kv=>stored acc kv.1 kv.2) [])->(∀b o,s.heap.get? b=some o->h'.get? b=some o)->Q (.ref s.heap.objs.size) {s with heap:=h',toks:=tk}):
  wpAny (model prog w) A (call (.type "dict") [.ref l]) Q E s:=by
 refine callType_codes (Q₁:=λobj s₁=>obj=.ref s.heap.objs.size/\s₁={s with heap:=s.heap.push {cls:=.type "dict",data:=.dict #[]}}) F.kt_called_dict (F.kt_typeCall_dict_1 _) F.entry_dict_init (kt_code_dict_new _ ⟨rfl,rfl⟩) ?_;rintro obj s₁ ⟨rfl,rfl⟩;have new:(s.heap.push {cls:=.type "dict",data:=.dict #[]}).DictOf (bW prog w) s.heap.objs.size []:=Heap.DictOf.new s.heap;have hl1:(s.heap.push {cls:=.type "dict",data:=.dict #[]}).get? l=some {cls:=.type "list",data:=.seq its nl}:=bc _ hl;have llt:=bj hl;refine⟨new.typeIs,F.args_dict_init_2 _ _,?_⟩;unfold Builtin.«dict.__init__»;refine af ?_;unfold Builtin.Dict.selfAndRest;refine af (wpAny_notOrdered_dict new.typeIs ?_);show wpAny _ _ (pure (s.heap.objs.size,[Value.ref l])) _ _ _;refine aj ?_;show wpAny _ _ (Builtin.Dict.updateFrom "dict.__init__" s.heap.objs.size (.ref l) [] .none) _ _ _;unfold Builtin.Dict.updateFrom;refine af (wpAny_typeOf (T:="list") ⟨_,hl1,rfl⟩ ?_);rw[if_pos (by decide)];refine af (Oa (by simp[hh]) hl1 λh2 tk2 k2=>?_);rw[if_pos (by decide)];refine af (wpAny_rule ?_);have hl2:=k2 _ _ hl1;have isl:Heap.IsList h2 l its:=⟨_,hl2,rfl,nl,rfl⟩
 refine af (wpAny_pyIter_list isl ?_);have sz2:s.heap.objs.size<h2.objs.size:=by
  have:(s.heap.push {cls:=.type "dict",data:=.dict #[]}).get? s.heap.objs.size=some _:=cf _ rfl;exact bj (k2 _ _ this)
 refine aj ⟨plainId_quiet sM _,NH (A:=A.in1) (its:=its) (ps:=ps) (by simp[hh]) (cu (bj hl2)) (cu sz2) (je llt) hsz ps.length 0 _ [] _ (by simp) ⟨⟨_,cf _ rfl,rfl,rfl⟩,isl.push _⟩ ?_ ?_ (dq _) λh3 tk3 hd3 k3=>?_⟩
 ·exact ht.keep λb o e _=>bc _ (k2 _ _ (bc _ e))
 ·exact(vT new λo e=>k2 _ _ e).push _
 ·refine⟨rfl,h h3 tk3 hd3 λb o e=>?_⟩;have lt:=bj e;exact k3 b o (cu (fh lt sz2)) (cu lt) (bc _ (k2 _ _ (bc _ e)))
end
section
variable{X:Cx}
def JD:∀{ps:List (av×V)}{qs:List (av×Value)}{kvs:List (av×V)}{vs:List (av×Value)},KV ps qs->KV kvs vs->KV (lC kvs ps) (qs.foldl (λacc kv=>stored acc kv.1 kv.2) vs):=by
 intro ps qs kvs vs r;unfold KV at r
 induction r generalizing kvs vs with
 |nil=>intro q;exact q
 |@cons p q ps qs h t ih=>
  intro r0;refine ih (kvs:=dR kvs p.1 p.2) (vs:=stored vs q.1 q.2) ?_;rw[<-h.1];exact r0.put p.1 h.2
end
end L2
namespace WordM
open PySem
def sigA:Str:=" !\"#$&'()*+,-./0123456789:;<=>?@ABCDEFGHIJKLMNOPQRSTUVWXYZ[\\]^_`"
def sigB:Str:="abcdefghijklmnopqrstuvwxyz{|}~"
def gc:Str:=sigA++sigB
abbrev cs(x:Str):List Nat:=x.cps.toList
def nL:Str:="0123456789"
def oY:Str:="ABCDEFGHIJKLMNOPQRSTUVWXYZ"
def Kg:Str:=" !\"#$&'()*+,-./:;<=>?\x40[\\]^_`{|}~"
def sI:Str:="abcdefghijklmnopqrstuvwxyz"
def vh:List (Str×Str):=[("figure",nL),("great",oY),("other",Kg),("small",sI)]
def MK:List Str:=["figure","great","other","small"]
def Sg(x:Str):Prop:=∀c∈cs x,c∈cs gc
instance (x:Str):Decidable (Sg x):=by unfold Sg;infer_instance
def fJ(c:Nat):Str:=if c∈cs nL then "figure" else if c∈cs oY then "great" else if c∈cs sI then "small" else "other"
def jT(x m:Str):Bool:=(cs x).any λc=>decide (c∈cs ((L2.getS vh m).getD ⟨#[]⟩))
def dI(x:Str):List Str:=MK.filter λm=>jT x m
def app(a b:Str):cs (a++b)=cs a++cs b:=by
 show(a.cps++b.cps).toList=_;simp
def len(a:Str):a.length=(cs a).length:=by simp[Str.length]
def Sg.app{a b:Str}(ha:Sg a)(hb:Sg b):Sg (a++b):=λc hc=>by
 rw[WordM.app]at hc;rcases qp_.mp hc with z|z
 ·exact ha c z
 ·exact hb c z
def Sg.one{x:Str}(h:Sg x){c:Nat}(hc:c∈cs x):Sg ⟨#[c]⟩:=λd hd=>by
 have:d=c:=by simpa using hd
 rw[this];exact h c hc
def Kj:Sg ⟨#[]⟩:=λc hc=>by simp at hc
def OB{x:Str}{l u:Option Int}{c:Nat}(h:c∈cs (Txt.slice x l u)):c∈cs x:=by
 unfold Txt.slice at h;split at h
 ·exact h
 ·simp only[cs,r9,qM_]at h;obtain⟨i,_,hi⟩:=h;obtain⟨hlt,e⟩:=qu2_.mp hi;rw[<-e];simp
def Sg.slice{x:Str}(h:Sg x)(l u:Option Int):Sg (Txt.slice x l u):=λc hc=>h c (OB hc)
def slice_len(x:Str)(l u:Option Int):(Txt.slice x l u).length<=x.length:=Txt.slice_le x l u
def kX{a b:Str}(h:cs a=cs b):a=b:=by
 obtain⟨a⟩:=a;obtain⟨b⟩:=b;have:a=b:=Array.toList_inj.mp h;rw[this]
def NO{c:Nat}{r:Str}:Txt.slice ((⟨#[c]⟩:Str)++r) (some 1) none=r:=by
 refine kX ?_;have hl:(((⟨#[c]⟩:Str)++r).length)=1+r.length:=by rw[len,app,len];simp
 rw[PyProof.Rows.slice_from_eq (b:=((((⟨#[c]⟩:Str)++r).length:Nat):Int)) (by decide) (by omega) rfl];show((cs ((⟨#[c]⟩:Str)++r)).drop 1).take _=_;rw[app];show((c::cs r).drop 1).take _=cs r;rw[List.drop_one,List.tail_cons,oh];rw[hl,len];omega
def O3{x:Str}(h:x.length=0):Txt.slice x (some 1) none=x:=by
 have h1:=slice_len x (some 1) none;refine kX ?_;have e1:cs (Txt.slice x (some 1) none)=[]:=j7 (by rw[<-len];omega);have e2:cs x=[]:=j7 (by rw[<-len];omega);rw[e1,e2]
def sA{c:Nat}(h:c∈cs gc):∀m∈MK,(c∈cs ((L2.getS vh m).getD ⟨#[]⟩)↔fJ c=m):=by
 revert c;decide +kernel
def mark_in(c:Nat):fJ c∈MK:=by
 unfold fJ;split
 ·decide
 ·split
  ·decide
  ·split
   ·decide
   ·decide
def xB:gc.length=94:=by decide +kernel
def OA:(cs gc).Nodup:=by decide +kernel
def NN(x:Str):(Txt.slice x (some 1) none).length+1<=(if x.length<1 then 1 else x.length):=by
 by_cases h:x.length=0
 ·rw[O3 h,if_pos (by omega)];omega
 ·rw[if_neg (by omega)];rw[PyProof.Rows.slice_from_eq (b:=(x.length:Int)) (by decide) (by omega) rfl];show(((cs x).drop 1).take _).toArray.size+1<=_;rw[ck,jj,mx,<-len];omega
def nodup_len{α:Type}[DecidableEq α]:∀{l m:List α},l.Nodup->(∀x∈l,x∈m)->l.length<=m.length
 |[],m,_,_=>dq _
 |x::l,m,hn,hs=>by
  have hx:=hs x h9;have h2:=qQ1_.mp hn;have ih:=nodup_len (l:=l) (m:=m.erase x) h2.2 λy hy=>by
   have hne:y≠x:=λe=>h2.1 (e▸hy)
   exact(List.mem_erase_of_ne hne).mpr (hs y (fj _ hy))
  rw[List.length_erase_of_mem hx]at ih;have:0<m.length:=List.length_pos_of_mem hx;rw[g6];omega
def fT(a:Int):Nat:=(cs gc).getD (a % 94).toNat 0
def Oz(a:Int):fT a∈cs gc:=by
 have hl:(a % 94).toNat<(cs gc).length:=by
  rw[<-len,xB];have:=jr a (show(0:Int)<94 by decide);have:=jq a (show(94:Int)≠0 by decide);omega
 unfold fT;rw[kg,b6 hl];exact ja hl
def M1{a b:Int}(h:fT a=fT b):a % 94=b % 94:=by
 have b1:=jr a (show(0:Int)<94 by decide);have b2:=jq a (show(94:Int)≠0 by decide);have b3:=jr b (show(0:Int)<94 by decide);have b4:=jq b (show(94:Int)≠0 by decide);have hl:(cs gc).length=94:=by rw[<-len];exact xB
 unfold fT at h;rw[kg,kg,b6 (by omega),b6 (by omega)]at h;have h:(cs gc)[(a % 94).toNat]=(cs gc)[(b % 94).toNat]:=h;have hp:=qq3_.mp OA;rcases sf (a % 94).toNat (b % 94).toNat with z|z|z
 ·exact absurd h (hp _ _ (by omega) (by omega) z)
 ·omega
 ·exact absurd h.symm (hp _ _ (by omega) (by omega) z)
def fW(a:Int)(r:Str)(i:Nat):Str:=(⟨#[fT (a+i)]⟩:Str)++r
def LV{a:Int}{r:Str}{i j:Nat}(hi:i<90)(hj:j<90)(h:fW a r i=fW a r j):i=j:=by
 have h1:cs (fW a r i)=cs (fW a r j):=by rw[h]
 unfold fW at h1;rw[app,app]at h1;have h2:fT (a+i)=fT (a+j):=by
  have:=List.cons.inj h1;exact this.1
 have:=M1 h2;omega
def LU{a:Int}{r:Str}{ss:List Str}{j:Nat}(hj:j<80)(h:∀i,1<=i->i<=j->fW a r i∈ss):j<=ss.length:=by
 have:=nodup_len (l:=(List.range j).map λi=>fW a r (i+1)) (m:=ss) (by
  unfold List.Nodup;rw[qe2_];refine List.Pairwise.imp_of_mem (λ{x y} hx hy hlt e=>?_) List.pairwise_lt_range;have hx:=qz1_.mp hx;have hy:=qz1_.mp hy;have:=LV (by omega) (by omega) e;omega) (λx hx=>by
  obtain⟨i,hi,rfl⟩:=qf_.mp hx;have:=qz1_.mp hi;exact h (i+1) (by omega) (by omega))
 simpa using this
end WordM
namespace L2
open PySem PySem.Spec PyProof.Rows WordM
section
variable{α β:Type}{F G:α->β->Prop}
def fE:∀{xs:List α}{ys:List β}{i:Nat}{x:α},Paired F xs ys->xs[i]?=some x->∃y,ys[i]?=some y/\F x y
 |_,_,_,_,.nil,e=>by simp at e
 |_,_,0,_,.cons r _,e=>by simp at e;subst e;exact⟨_,rfl,r⟩
 |_,_,i+1,x,.cons _ t,e=>by
  obtain⟨u,h1,h2⟩:=fE (i:=i) (x:=x) t (by simpa using e);exact⟨u,by simpa using h1,h2⟩
end
inductive Tv where
 |leaf (v:V)
 |seq (t:Bool) (xs:List Tv)
 |dct (kts:List (Str×Tv))
def VT(S:Bool->Addr->List V->Prop)(D:Addr->List (av×V)->Prop):Nat->V->Tv->Prop
 |0,_,_=>False
 |d+1,x,T=>(dO x=true/\T=.leaf x)\/(∃t a xs Ts,x=.ref a/\S t a xs/\T=.seq t Ts/\Ts.length<=100000/\Paired (VT S D d) xs Ts) \/
   ∃a kvs kts,x=.ref a/\D a kvs/\T=.dct kts/\(kts.map (·.1)).Nodup/\kts.length<64/\Paired (λ(kv:av×V) (kt:Str×Tv)=>kv.1=.inr kt.1/\VT S D d kv.2 kt.2) kvs kts
section
variable{S S':Bool->Addr->List V->Prop}{D D':Addr->List (av×V)->Prop}
def VT.mono(hs:∀t a xs,S t a xs->S' t a xs)(hd:∀a kvs,D a kvs->D' a kvs):∀{d:Nat}{x:V}{T:Tv},VT S D d x T->VT S' D' d x T
 |0,_,_,h=>False.elim h
 |d+1,x,T,h=>by
  rcases h with h|⟨t,a,xs,Ts,h1,h2,h3,hz,h4⟩|⟨a,kvs,kts,h1,h2,h3,h4,h5,h6⟩
  ·exact .inl h
  ·exact .inr (.inl ⟨t,a,xs,Ts,h1,hs _ _ _ h2,h3,hz,Paired.mapP h4 λ_ _ q=>VT.mono hs hd q⟩)
  ·exact .inr (.inr ⟨a,kvs,kts,h1,hd _ _ h2,h3,h4,h5,Paired.mapP h6 λ_ _ q=>⟨q.1,VT.mono hs hd q.2⟩⟩)
def VT.more:∀{d:Nat}{x:V}{T:Tv},VT S D d x T->VT S D (d+1) x T
 |0,_,_,h=>False.elim h
 |d+1,x,T,h=>by
  rcases h with h|⟨t,a,xs,Ts,h1,h2,h3,hz,h4⟩|⟨a,kvs,kts,h1,h2,h3,h4,h5,h6⟩
  ·exact .inl h
  ·exact .inr (.inl ⟨t,a,xs,Ts,h1,h2,h3,hz,Paired.mapP h4 λ_ _ q=>VT.more q⟩)
  ·exact .inr (.inr ⟨a,kvs,kts,h1,h2,h3,h4,h5,Paired.mapP h6 λ_ _ q=>⟨q.1,VT.more q.2⟩⟩)
def VT.le{d e:Nat}(h:d<=e){x:V}{T:Tv}(q:VT S D d x T):VT S D e x T:=by
 obtain⟨k,rfl⟩:=Nat.le.dest h;clear h
 induction k with
 |zero=>exact q
 |succ k ih=>exact VT.more ih
end
def m_(H:Hp)(a:Addr)(kvs:List (av×V)):Prop:=∃ob,nj H a ob kvs
section
variable{K:W.Frag}{H H':Hp}{d:Nat}{x:V}{T:Tv}
def m_.hs(e:HS H H'){a:Addr}{kvs:List (av×V)}(h:m_ H a kvs):m_ H' a kvs:=by
 obtain⟨ob,h⟩:=h;exact⟨ob,e _ _ rfl h⟩
end
def NL:∀(p:Str) (l:List Str),risingS p l=true->∀x∈l,(cs x<cs p)->False:=by
 intro p l
 induction l generalizing p with
 |nil=>intro _ x hx;simp at hx
 |cons y l ih=>
  intro h x hx hlt;have h:(!PySem.Spec.ltCps y.cps.toList p.cps.toList&&risingS y l)=true:=h;rw[e9]at h;have hy:¬ (cs y<cs p):=by
   have:=h.1;rw[ltCps_eq]at this;simpa using this
  rcases qh_.mp hx with z|z
  ·subst z;exact hy hlt
  ·have hxy:¬ (cs x<cs y):=λq=>ih y h.2 x z q
   have h1:cs p<=cs y:=qf1_.mp hy;have h2:cs y<=cs x:=qf1_.mp hxy;exact absurd hlt (qf1_.mpr (qk h1 h2))
def qQ:∀(l:List Str),sortedS l=true->l.Pairwise λa b=>cs a<=cs b
 |[],_=>.nil
 |x::l,h=>by
  have h:risingS x l=true:=h;refine .cons (λy hy=>qf1_.mp λz=>NL x l h y hy z) (qQ l ?_);cases l with
  |nil=>rfl
  |cons y l=>
   have h:(!PySem.Spec.ltCps y.cps.toList x.cps.toList&&risingS y l)=true:=h;rw[e9]at h;exact h.2
open Classical in
noncomputable def aY(us:List Str):List Str:=if h:∃ss:List Str,ss.Perm us/\sortedS ss=true then h.choose else us
def fD(us:List Str):(aY us).Perm us:=by
 unfold aY;split
 ·rename_i h;exact h.choose_spec.1
 ·exact .refl _
def oH{us ss:List Str}(h1:ss.Perm us)(h2:sortedS ss=true):ss=aY us:=by
 have ex:∃ss:List Str,ss.Perm us/\sortedS ss=true:=⟨ss,h1,h2⟩
 have e:aY us=ex.choose:=by unfold aY;rw[dif_pos ex]
 rw[e];exact List.Perm.eq_of_pairwise (λa b _ _ h1 h2=>kX (List.le_antisymm h1 h2)) (qQ _ h2) (qQ _ ex.choose_spec.2) (h1.trans ex.choose_spec.1.symm)
def bX(kts:List (Str×Tv))(k:Str):Option Tv:=(kts.find? λkt=>decide (kt.1=k)).map (·.2)
section
variable{S:Bool->Addr->List V->Prop}{D:Addr->List (av×V)->Prop}{d:Nat}
def sC{kvs:List (av×V)}{kts:List (Str×Tv)}{R:V->Tv->Prop}(h:Paired (λ(kv:av×V) (kt:Str×Tv)=>kv.1=.inr kt.1/\R kv.2 kt.2) kvs kts)(k:Str):
  (bX kts k=none/\dZ kvs (.inr k)=none)\/∃U v,bX kts k=some U/\dZ kvs (.inr k)=some v/\R v U:=by
 induction h with
 |nil=>exact .inl ⟨rfl,rfl⟩
 |@cons kv kt l1 l2 h _ ih=>
  obtain⟨e,r⟩:=h;by_cases z:kt.1=k
  ·refine .inr ⟨kt.2,kv.2,?_,rG (by rw[e,z]),r⟩;unfold bX;rw[d9,jd z];rfl
  ·have e2:bX (kt::l2) k=bX l2 k:=by
    unfold bX;rw[d9,i4 z]
   have e3:dZ (kv::l1) (.inr k)=dZ l1 (.inr k):=rH (by rw[e];exact λq=>z (Sum.inr.inj q));rw[e2,e3];exact ih
def look_mem{kts:List (Str×Tv)}{k:Str}(h:k∈kts.map (·.1)):∃U,bX kts k=some U:=by
 induction kts with
 |nil=>cases h
 |cons kt l ih=>
  by_cases z:kt.1=k
  ·exact⟨kt.2,by unfold bX;rw[d9,jd z];rfl⟩
  ·rcases qh_.mp h with q|q
   ·exact absurd q.symm z
   ·obtain⟨U,hU⟩:=ih q;refine⟨U,?_⟩;unfold bX at hU ⊢;rw[d9,i4 z];exact hU
def Me{kts:List (Str×Tv)}(hn:(kts.map (·.1)).Nodup){i:Nat}{kt:Str×Tv}(h:kts[i]?=some kt):bX kts kt.1=some kt.2:=by
 induction kts generalizing i with
 |nil=>cases h
 |cons a l ih=>
  rw[dz,qQ1_]at hn;cases i with
  |zero=>
   cases h;unfold bX;rw[d9,jd rfl];rfl
  |succ i=>
   have h:l[i]?=some kt:=by simpa using h
   have z:a.1≠kt.1:=λz=>hn.1 (by rw[z];exact qf_.mpr ⟨kt,gq h,rfl⟩)
   have:=ih hn.2 h;unfold bX at this ⊢;rw[d9,i4 z];exact this
end
def cq.hs{K:W.Frag}{H H':Hp}{a:Addr}{xs:List V}(e:HS H H')(h:cq K H a xs):cq K H' a xs:=by
 rcases h with (h|⟨o,h⟩)|h
 ·exact .inl (.inl (e _ _ rfl h))
 ·exact .inl (.inr ⟨o,e _ _ rfl h⟩)
 ·exact .inr h
def qR{α β:Type}{F:α->β->Prop}{a c:List α}{b d:List β}(h1:Paired F a b)(h2:Paired F c d):Paired F (a++c) (b++d):=by
 induction h1 with
 |nil=>exact h2
 |cons r _ ih=>exact .cons r ih
end L2
namespace L2
open PySem PySem.Spec PyProof.Rows
abbrev qD:Hp:=λ_=>none
def m8(H H3 H4:Hp):Prop:=∀b,(∃o ob,ig o=true/\H b=some o/\H3 b=some (.frz ob o)/\H4 b=some o)\/((¬ ∃o ob,ig o=true/\H b=some o/\H3 b=some (.frz ob o))/\H4 b=H3 b)
def Bt(H H3:Hp):∃H4,m8 H H3 H4:=by
 classical
 refine⟨λb=>if h:∃o ob,ig o=true/\H b=some o/\H3 b=some (.frz ob o) then some h.choose else H3 b,λb=>?_⟩;by_cases h:∃o ob,ig o=true/\H b=some o/\H3 b=some (.frz ob o)
 ·obtain⟨ob,h1,h2,h3⟩:=h.choose_spec;exact .inl ⟨h.choose,ob,h1,h2,h3,by dsimp only;rw[dif_pos h]⟩
 ·exact .inr ⟨h,by dsimp only;rw[dif_neg h]⟩
def CO{P:Program}{w:World}{H:Hp}{h:Heap}(hok:d7 P w H h):∃H2,br qD H H2/\d7 P w H2 h:=by
 let H2:Hp:=λb=>match H b with
  |none=>none
  |some o=>match ig o with
   |false=>some o
   |true=>match h.get? b with
    |some ob=>some (.frz ob o)
    |none=>some o
 have new:∀b o ob,H b=some o->ig o=true->h.get? b=some ob->H2 b=some (.frz ob o):=λb o ob h1 n e=>by
  show(match H b with|none=>none|some o=>_)=_;rw[h1];dsimp only;rw[n,e]
 have rest:∀b,(∀o,H b=some o->ig o=false)->H2 b=H b:=λb hn=>by
  show(match H b with|none=>none|some o=>_)=_;cases e:H b with
  |none=>rfl
  |some o=>
   dsimp only;rw[hn o e]
 have fro:br qD H H2:=λb=>by
  cases h1:H b with
  |none=>exact .inr ⟨(λ⟨_,_,_,z⟩=>by cases z),by rw[rest b (λo z=>by rw[h1]at z;cases z),h1]⟩
  |some o=>
   cases n:ig o with
   |true=>
    obtain⟨ob,e⟩:=(hok b o h1).there;exact .inl ⟨rfl,o,ob,n,rfl,new b o ob h1 n e⟩
   |false=>exact .inr ⟨(λ⟨_,o',n',z⟩=>by cases z;rw[n]at n';exact absurd n' cn),by rw[rest b (λo' z=>by rw[h1]at z;cases z;exact n),h1]⟩
 refine⟨H2,fro,λb o e=>?_⟩;have st:∀o,aw P w H h b o->aw P w H2 h b o:=λo x=>x.stay (λ_ _ _ r=>r) (λd r=>fro.keep r rfl) λd xs r=>fro.keep r rfl
 rcases fro b with⟨hn,o',ob,n,z,z'⟩|⟨_,z'⟩
 ·obtain⟨ob2,e2⟩:=(hok b o' z).there;have q2:=new b o' ob2 z n e2;rw[e]at q2;cases q2;exact⟨e2,st _ (hok b _ z)⟩
 ·rw[z']at e;exact st o (hok b o e)
section
variable{H H2 H3 H4:Hp}{b:Addr}{o:HO}
def m8.same(f:br qD H H2)(s:ay H2 H3)(t:m8 H H3 H4):ay H H4:=λb o e=>by
 cases n:ig o with
 |true=>
  obtain⟨ob,e2⟩:=f.fz (b:=b) rfl e n;have e3:=s b _ e2;rcases t b with⟨u,ob',_,z,_,z'⟩|⟨z,_⟩
  ·rw[e]at z;cases z;exact z'
  ·exact absurd ⟨o,ob,n,e,e3⟩ z
 |false=>
  have e3:=s b _ (f.keep e n);rcases t b with⟨u,ob',n',z,_⟩|⟨_,z⟩
  ·rw[e]at z;cases z;rw[n]at n';exact absurd n' cn
  ·rw[z];exact e3
end
def Ek:∀{ps kvs:List (av×V)},((kvs++ps).map (·.1)).Nodup->lC kvs ps=kvs++ps
 |[],kvs,_=>by show kvs=kvs++[];rw[jk]
 |p::ps,kvs,h=>by
  have hv:dZ kvs p.1=none:=by
   cases e:dZ kvs p.1 with
   |none=>rfl
   |some v=>
    have:=KJ e;rw[ia,mr]at h;exact absurd rfl (h.2.2 p.1 this p.1 (by simp))
  show lC (dR kvs p.1 p.2) ps=_;rw[LK p.2 hv,Ek (by simpa using h),jv];rfl
end L2
namespace L2
open PySem PySem.Spec PyProof.Rows WordM
def a_(K:W.Frag)(H:Hp)(t:Bool)(a:Addr)(xs:List V):Prop:=match t with
 |false=>∃ob,H a=some (.frz ob (.lst xs))
 |true=>cq K H a xs
abbrev VP(K:W.Frag)(H:Hp):Nat->V->Tv->Prop:=VT (a_ K H) (m_ H)
def VA(K:W.Frag)(H:Hp)(x:V)(T:Tv):Prop:=∃d,VP K H d x T
abbrev cp(K:W.Frag)(H:Hp):List V->List Tv->Prop:=Paired (VA K H)
def f_(K:W.Frag)(H:Hp):List (av×V)->List (Str×Tv)->Prop:=Paired λ(kv:av×V) (kt:Str×Tv)=>kv.1=.inr kt.1/\VA K H kv.2 kt.2
section
variable{K:W.Frag}{H H' H1 H2:Hp}{x y v:V}{T U:Tv}{a:Addr}{xs:List V}{Ts:List Tv}{t:Bool}{kvs:List (av×V)}{kts:List (Str×Tv)}
def a_.hs(e:HS H H')(h:a_ K H t a xs):a_ K H' t a xs:=by
 cases t with
 |false=>obtain⟨ob,h⟩:=h;exact⟨ob,e _ _ rfl h⟩
 |true=>exact cq.hs e h
def VA.hs(e:HS H H')(h:VA K H x T):VA K H' x T:=by
 obtain⟨d,h⟩:=h;exact⟨d,h.mono (λ_ _ _ q=>q.hs e) λ_ _ q=>q.hs e⟩
def cp.hs(e:HS H H')(h:cp K H xs Ts):cp K H' xs Ts:=Paired.mapP h λ_ _ q=>q.hs e
def f_.hs(e:HS H H')(h:f_ K H kvs kts):f_ K H' kvs kts:=Paired.mapP h λ_ _ q=>⟨q.1,q.2.hs e⟩
def cp.deep(h:cp K H xs Ts):∃d,Paired (VP K H d) xs Ts:=by
 induction h with
 |nil=>exact⟨0,.nil⟩
 |cons r _ ih=>
  obtain⟨d,r⟩:=r;obtain⟨e,ih⟩:=ih;exact⟨max d e,.cons (r.le (Nat.le_max_left _ _)) (Paired.mapP ih λ_ _ q=>VT.le (Nat.le_max_right _ _) q)⟩
def f_.deep(h:f_ K H kvs kts):∃d,Paired (λ(kv:av×V) (kt:Str×Tv)=>kv.1=.inr kt.1/\VP K H d kv.2 kt.2) kvs kts:=by
 unfold f_ at h
 induction h with
 |nil=>exact⟨0,.nil⟩
 |cons r _ ih=>
  obtain⟨k,d,r⟩:=r;obtain⟨e,ih⟩:=ih;exact⟨max d e,.cons ⟨k,r.le (Nat.le_max_left _ _)⟩ (Paired.mapP ih λ_ _ q=>⟨q.1,VT.le (Nat.le_max_right _ _) q.2⟩)⟩
def VA.flat(h:dO x=true):VA K H x (.leaf x):=⟨1,.inl ⟨h,rfl⟩⟩
def VA.seq(h:a_ K H t a xs)(z:Ts.length<=100000)(p:cp K H xs Ts):VA K H (.ref a) (.seq t Ts):=by
 obtain⟨d,p⟩:=p.deep;exact⟨d+1,.inr (.inl ⟨t,a,xs,Ts,rfl,h,rfl,z,p⟩)⟩
def VA.dct(h:m_ H a kvs)(n:(kts.map (·.1)).Nodup)(z:kts.length<64)(p:f_ K H kvs kts):VA K H (.ref a) (.dct kts):=by
 obtain⟨d,p⟩:=p.deep;exact⟨d+1,.inr (.inr ⟨a,kvs,kts,rfl,h,rfl,n,z,p⟩)⟩
def VA.leafI(h:VA K H x (.leaf v)):x=v/\dO v=true:=by
 obtain⟨d,h⟩:=h;cases d with
 |zero=>exact False.elim h
 |succ d=>
  rcases h with⟨f,e⟩|⟨_,_,_,_,_,_,e,_⟩|⟨_,_,_,_,_,e,_⟩
  ·cases e;exact⟨rfl,f⟩
  ·cases e
  ·cases e
def VA.seqI(h:VA K H x (.seq t Ts)):∃a xs,x=.ref a/\a_ K H t a xs/\Ts.length<=100000/\cp K H xs Ts:=by
 obtain⟨d,h⟩:=h;cases d with
 |zero=>exact False.elim h
 |succ d=>
  rcases h with⟨_,e⟩|⟨t',a,xs,Ts',e1,hs,e,z,p⟩|⟨_,_,_,_,_,e,_⟩
  ·cases e
  ·cases e;exact⟨a,xs,e1,hs,z,Paired.mapP p λ_ _ q=>⟨d,q⟩⟩
  ·cases e
def VA.dctI(h:VA K H x (.dct kts)):∃a kvs,x=.ref a/\m_ H a kvs/\(kts.map (·.1)).Nodup/\kts.length<64/\f_ K H kvs kts:=by
 obtain⟨d,h⟩:=h;cases d with
 |zero=>exact False.elim h
 |succ d=>
  rcases h with⟨_,e⟩|⟨_,_,_,_,_,_,e,_⟩|⟨a,kvs,kts',e1,hd,e,n,z,p⟩
  ·cases e
  ·cases e
  ·cases e;exact⟨a,kvs,e1,hd,n,z,Paired.mapP p λ_ _ q=>⟨q.1,d,q.2⟩⟩
end
inductive Sl where
 |no
 |va (T:Tv)
 |own (xs:List Tv)
 |dct (kts:List (Str×Tv))
 |dk
abbrev aW:=List Sl
def eJ:Sl->Bool
 |.own _=>true
 |.dct _=>true
 |_=>false
structure Fm where
 H0:Hp
 dk:Option (Addr×Addr)
structure Kp (dk:Option (Addr×Addr)) (H H':Hp):Prop where
 st:∀b o,H b=some o->(∀p c,dk=some (p,c)->b≠p/\b≠c)->H' b=some o
 dkk:∀p c,dk=some (p,c)->bo H' p c
def Kp.tr{dk:Option (Addr×Addr)}{H H':Hp}(k:Kp dk H H')(b:Addr)(o:HO)(e:H b=some o):∃o',H' b=some o':=by
 cases d:dk with
 |none=>exact⟨o,k.st b o e λp c z=>by rw[d]at z;cases z⟩
 |some pc=>
  obtain⟨p,c⟩:=pc;obtain⟨_,⟨S,i,e1⟩,ns,e2,_⟩:=k.dkk p c d;by_cases h1:b=p
  ·subst h1;exact⟨_,e1⟩
  ·by_cases h2:b=c
   ·subst h2;exact⟨_,e2⟩
   ·exact⟨o,k.st b o e λp' c' z=>by rw[d]at z;cases z;exact⟨h1,h2⟩⟩
def yk(K:W.Frag)(F:Fm)(H:Hp)(ox:Option V):Sl->Prop
 |.no=>True
 |.va T=>∃x,ox=some x/\VA K H x T
 |.own Ts=>∃a xs,ox=some (.ref a)/\H a=some (.lst xs)/\F.H0 a=none/\Ts.length<=100000/\cp K H xs Ts
 |.dct kts=>∃a kvs,ox=some (.ref a)/\H a=some (.dK kvs)/\F.H0 a=none/\(kts.map (·.1)).Nodup/\kts.length<64/\f_ K H kvs kts
 |.dk=>∃p c,F.dk=some (p,c)/\ox=some (.ref p)
def fc(σ:St)(i:Nat):Option V:=(σ[i]?).join
structure au (K:W.Frag) (F:Fm) (ρ:aW) (σ:St) (H:Hp):Prop where
 d0:∀p c,F.dk=some (p,c)->bo F.H0 p c
 kp:Kp F.dk F.H0 H
 len:ρ.length=σ.length
 at_:∀(i:Nat) (s:Sl),ρ[i]?=some s->yk K F H (fc σ i) s
 ap:∀(i j:Nat) (a:Addr) (s t:Sl),ρ[i]?=some s->ρ[j]?=some t->eJ s=true->eJ t=true->fc σ i=some (.ref a)->fc σ j=some (.ref a)->i=j
def ka(F:Fm)(ρ:aW)(σ:St)(H H':Hp):Prop:=∀b o,H b=some o->(∀p c,F.dk=some (p,c)->b≠p/\b≠c)->(∀(i:Nat) (s:Sl),ρ[i]?=some s->eJ s=true->fc σ i≠some (.ref b))->H' b=some o
def kc(ρ' ρ:aW):Prop:=∀(i:Nat) (s':Sl),ρ'[i]?=some s'->eJ s'=true->∃s,ρ[i]?=some s/\eJ s=true
structure bh (K:W.Frag) (F:Fm) (σ:St) (ρ:aW) (H:Hp) (ρ':aW) (H':Hp):Prop where
 fr:au K F ρ' σ H'
 st:ka F ρ σ H H'
 sub:kc ρ' ρ
 tr:∀b o,H b=some o->∃o',H' b=some o'
section
variable{K:W.Frag}{F:Fm}{ρ ρ1 ρ2:aW}{σ:St}{H H' H1 H2:Hp}{x y v:V}{T U:Tv}{a b:Addr}{o:HO}
def kc.refl(ρ:aW):kc ρ ρ:=λi s e m=>⟨s,e,m⟩
def kc.trans(h1:kc ρ1 ρ)(h2:kc ρ2 ρ1):kc ρ2 ρ:=λi s e m=>by
 obtain⟨s1,e1,m1⟩:=h2 i s e m;exact h1 i s1 e1 m1
def au.own_at(fr:au K F ρ σ H){i:Nat}{s:Sl}(e:ρ[i]?=some s)(m:eJ s=true)(q:fc σ i=some (.ref a)):(∃o,H a=some o/\ig o=true)/\F.H0 a=none:=by
 have h:=fr.at_ i s e;cases s with
 |own Ts=>obtain⟨a',xs,e1,e2,e3,_⟩:=h;rw[q]at e1;cases e1;exact⟨⟨_,e2,rfl⟩,e3⟩
 |dct kts=>obtain⟨a',xs,e1,e2,e3,_⟩:=h;rw[q]at e1;cases e1;exact⟨⟨_,e2,rfl⟩,e3⟩
 |no=>cases m
 |va _=>cases m
 |dk=>cases m
theorem au.fresh_nodk(fr:au K F ρ σ H)(h:F.H0 a=none):∀p c,F.dk=some (p,c)->a≠p/\a≠c:=λp c e=>by
 obtain⟨_,⟨S,k,e1⟩,ns,e2,_⟩:=fr.d0 p c e;exact⟨λz=>(by rw[z,e1]at h;cases h),λz=>(by rw[z,e2]at h;cases h)⟩
theorem au.none_nodk(fr:au K F ρ σ H)(h:H a=none):∀p c,F.dk=some (p,c)->a≠p/\a≠c:=λp c e=>by
 obtain⟨_,⟨S,k,e1⟩,ns,e2,_⟩:=fr.kp.dkk p c e;exact⟨λz=>(by rw[z,e1]at h;cases h),λz=>(by rw[z,e2]at h;cases h)⟩
def au.none0(fr:au K F ρ σ H)(h:H a=none):F.H0 a=none:=by
 cases q:F.H0 a with
 |none=>rfl
 |some o=>rw[fr.kp.st a o q (fr.none_nodk h)]at h;cases h
def ka.hs(fr:au K F ρ σ H)(s:ka F ρ σ H H'):HS H H':=λb o h e=>s b o e
 (λp c d=>by
  obtain⟨_,⟨S,k,e1⟩,ns,e2,_⟩:=fr.kp.dkk p c d;exact⟨λz=>(by subst z;rw[e1]at e;cases e;cases h),λz=>(by subst z;rw[e2]at e;cases e;cases h)⟩)
 λi s e1 m q=>by
  obtain⟨⟨o',e2,n⟩,_⟩:=fr.own_at e1 m q;rw[e]at e2;cases e2;cases o<;>first|exact absurd h cn|exact absurd n cn
def ka.trans(s1:ka F ρ σ H H1)(sb:kc ρ1 ρ)(s2:ka F ρ1 σ H1 H2):ka F ρ σ H H2:=λb o e d n=>
 s2 b o (s1 b o e d n) d λi s e1 m=>by
  obtain⟨s',e2,m'⟩:=sb i s e1 m;exact n i s' e2 m'
def bh.trans(a:bh K F σ ρ H ρ1 H1)(b:bh K F σ ρ1 H1 ρ2 H2):bh K F σ ρ H ρ2 H2:=⟨b.fr,a.st.trans a.sub b.st,a.sub.trans b.sub,λc o e=>let ⟨o1,e1⟩:=a.tr c o e;b.tr c o1 e1⟩
def bh.refl(fr:au K F ρ σ H):bh K F σ ρ H ρ H:=⟨fr,λ_ _ e _ _=>e,kc.refl _,λ_ o e=>⟨o,e⟩⟩
def bh.hs(a:bh K F σ ρ H ρ1 H1)(fr:au K F ρ σ H):HS H H1:=a.st.hs fr
theorem au.call(fr:au K F ρ σ H)(k:Kp F.dk H H'):au K F ρ σ H':=by
 have own:∀i s a o,ρ[i]?=some s->eJ s=true->fc σ i=some (.ref a)->H a=some o->H' a=some o:=λi s a o e m q h=>
  k.st a o h (fr.fresh_nodk (fr.own_at e m q).2)
 have hs:HS H H':=λb o h e=>k.st b o e λp c d=>by
  obtain⟨_,⟨S,k,e1⟩,ns,e2,_⟩:=fr.kp.dkk p c d;exact⟨λz=>(by subst z;rw[e1]at e;cases e;cases h),λz=>(by subst z;rw[e2]at e;cases e;cases h)⟩
 refine⟨fr.d0,⟨λb o e n=>k.st b o (fr.kp.st b o e n) n,k.dkk⟩,fr.len,λi s e=>?_,fr.ap⟩;have h:=fr.at_ i s e;cases s with
 |no=>trivial
 |va T=>obtain⟨x,e1,v⟩:=h;exact⟨x,e1,v.hs hs⟩
 |own Ts=>obtain⟨a,xs,e1,e2,e3,z,p⟩:=h;exact⟨a,xs,e1,own i _ a _ e rfl e1 e2,e3,z,p.hs hs⟩
 |dct kts=>obtain⟨a,kvs,e1,e2,e3,n,z,p⟩:=h;exact⟨a,kvs,e1,own i _ a _ e rfl e1 e2,e3,n,z,p.hs hs⟩
 |dk=>exact h
theorem Kp.of_same(fr:au K F ρ σ H)(s:ay H H'):Kp F.dk H H':=⟨λb o e _=>s b o e,λp c d=>by
 obtain⟨ne,⟨S,k,e1⟩,ns,e2,l⟩:=fr.kp.dkk p c d;exact⟨ne,⟨S,k,s _ _ e1⟩,ns,s _ _ e2,l⟩⟩
theorem bh.call(fr:au K F ρ σ H)(k:Kp F.dk H H'):bh K F σ ρ H ρ H':=⟨fr.call k,λb o e d _=>k.st b o e d,kc.refl _,λb o e=>k.tr b o e⟩
def bh.same(fr:au K F ρ σ H)(s:ay H H'):bh K F σ ρ H ρ H':=bh.call fr (Kp.of_same fr s)
end
def bh.non{K:W.Frag}{F:Fm}{ρ ρ1:aW}{σ:St}{H H1:Hp}{a:Addr}(s:bh K F σ ρ H ρ1 H1)(n:H1 a=none):H a=none:=by
 cases e:H a with
 |none=>rfl
 |some o=>
  obtain⟨o',e'⟩:=s.tr a o e;rw[n]at e';cases e'
abbrev UT:=aW->(Tv->aW->Prop)->Prop
abbrev d6:=aW->(Bool->aW->Prop)->Prop
abbrev d3:=aW->(List Tv->aW->Prop)->Prop
inductive Ar where
 |va (T:Tv)
 |dk
abbrev dw:=aW->(List Ar->aW->Prop)->Prop
def qH(K:W.Frag)(dk:Option (Addr×Addr))(H:Hp)(x:V):Ar->Prop
 |.va T=>VA K H x T
 |.dk=>∃p c,dk=some (p,c)/\x=.ref p
def eX(K:W.Frag)(F:Fm)(u:UT):TE:=λσ H QQ=>∃ρ Q,au K F ρ σ H/\u ρ Q/\∀x T H' ρ',bh K F σ ρ H ρ' H'->VA K H' x T->Q T ρ'->QQ x H'
def tI(K:W.Frag)(F:Fm)(u:d6):TT:=λσ H QQ=>∃ρ Q,au K F ρ σ H/\u ρ Q/\∀b H' ρ',bh K F σ ρ H ρ' H'->Q b ρ'->QQ b H'
def pJ(K:W.Frag)(F:Fm)(u:d3):TE:=λσ H QQ=>∃ρ Q,au K F ρ σ H/\u ρ Q/\∀a xs Ts H' ρ',bh K F σ ρ H ρ' H'->H a=none->H' a=some (.lst xs)->Ts.length<=100000->cp K H' xs Ts->Q Ts ρ'->QQ (.ref a) H'
def pK(K:W.Frag)(F:Fm)(u:dw):TA:=λσ H QQ=>∃ρ Q,au K F ρ σ H/\u ρ Q/\∀xs as H' ρ',bh K F σ ρ H ρ' H'->Paired (qH K F.dk H') xs as->Q as ρ'->QQ xs H'
structure UE (X:Cx) (F:Fm) (e:Expr) (u:UT):Prop where
 pe:PE X e (eX X.K F u)
structure UB (X:Cx) (F:Fm) (e:Expr) (u:d6):Prop where
 pt:PT X e (tI X.K F u)
structure UW (X:Cx) (F:Fm) (e:Expr) (u:d6):Prop where
 pw:PW X e (tI X.K F u)
structure UL (X:Cx) (F:Fm) (e:Expr) (u:d3):Prop where
 pe:PE X e (pJ X.K F u)
structure UA (X:Cx) (F:Fm) (es:List Expr) (u:dw):Prop where
 pa:PA X es (pK X.K F u)
def PE.imp{X:Cx}{e:Expr}{t t':TE}(h:PE X e t)(i:∀σ H Q,t' σ H Q->t σ H Q):PE X e t':=λQx s σ H Q I q=>h Qx s σ H Q I (i σ H Q q)
def PT.imp{X:Cx}{e:Expr}{t t':TT}(h:PT X e t)(i:∀σ H Q,t' σ H Q->t σ H Q):PT X e t':=λQx s σ H Q I q=>h Qx s σ H Q I (i σ H Q q)
def PW.imp{X:Cx}{e:Expr}{t t':TT}(h:PW X e t)(i:∀σ H Q,t' σ H Q->t σ H Q):PW X e t':=λwh Qx s σ H Q I q=>h wh Qx s σ H Q I (i σ H Q q)
def PA.imp{X:Cx}{es:List Expr}{t t':TA}(h:PA X es t)(i:∀σ H Q,t' σ H Q->t σ H Q):PA X es t':=λpos Qx s σ H Q I q=>h pos Qx s σ H Q I (i σ H Q q)
def ag.fz{X:Cx}{Qx:List (Addr×Obj)}{σ:St}{H:Hp}{s:Shared}{a:Addr}{o:HO}(I:ag X Qx σ H s)(h:H a=some o)(n:ig o=true):∃ob,ag X Qx σ (ar H a (.frz ob o)) s:=by
 obtain⟨ob,eo⟩:=(I.hok a o h).there;refine⟨ob,?_⟩;have keep:∀b u,H b=some u->ig u=false->ar H a (.frz ob o) b=some u:=λb u e m=>by
  rw[bP (λz=>by subst z;rw[h]at e;cases e;rw[n]at m;cases m)];exact e
 have non:∀b,H b=none->ar H a (.frz ob o) b=none:=λb e=>by
  rw[bP (λz=>by subst z;rw[h]at e;cases e)];exact e
 refine⟨I.ok,I.os,I.bare,⟨I.base.keep,I.base.slot,λb o e n hx=>non b (I.base.free b o e n hx),I.base.there,λb xs e=>keep b _ (I.base.tups b xs e) rfl,λb o u e=>keep b _ (I.base.frzs b o u e) rfl,λb ps e=>?_⟩,I.loc,I.cell,non _ I.free,λx c e=>non c (I.freeC x c e),λp hp=>?_,λb u e=>?_,I.len⟩
 ·obtain⟨more,z⟩:=I.base.tbls b ps e;exact⟨more,keep b _ z rfl⟩
 ·obtain⟨p1,p2,p3⟩:=I.pin p hp;exact⟨p1,non _ p2,p3⟩
 ·have st:∀b u,aw X.prog X.w H s.heap b u->aw X.prog X.w (ar H a (.frz ob o)) s.heap b u:=λb u x=>x.stay (λ_ _ _ r=>r) (λd r=>keep d _ r rfl) λd xs r=>keep d _ r rfl
  by_cases z:b=a
  ·subst z;rw[bE]at e;cases e;exact⟨eo,st _ _ (I.hok b o h)⟩
  ·rw[bP z]at e;exact st _ _ (I.hok b u e)
def y_(Q:VK):VK:=λz H=>Q z H\/∃a o,z=.ref a/\H a=some o/\ig o=true/\∀ob,Q z (ar H a (.frz ob o))
def yn(t:TE):TE:=λσ H Q=>t σ H (y_ Q)
def EP.fz{X:Cx}{Qx:List (Addr×Obj)}{σ:St}{Q:VK}{u:Value}{s:Shared}(h:EP X Qx σ (y_ Q) u s):EP X Qx σ Q u s:=by
 obtain⟨x,H',I,r,q⟩:=h;rcases q with q|⟨a,o,rfl,e,n,q⟩
 ·exact⟨x,H',I,r,q⟩
 ·obtain⟨ob,I'⟩:=I.fz e n;exact⟨_,_,I',r,q ob⟩
def PE.fz{X:Cx}{e:Expr}{t:TE}(h:PE X e t):PE X e (yn t):=λQx s σ H Q I q=>bf (h Qx s σ H _ I q) λ_ _ z=>z.fz
def iz(K:W.Frag)(H H':Hp)(z:V)(W:Tv):Prop:=ay H H'/\(VA K H' z W\/∃a,z=.ref a/\H a=none /\
 ((∃xs Ts,H' a=some (.lst xs)/\W=.seq false Ts/\Ts.length<=100000/\cp K H' xs Ts)\/∃kvs kts,H' a=some (.dK kvs)/\W=.dct kts/\(kts.map (·.1)).Nodup/\kts.length<64/\f_ K H' kvs kts))
section
variable{K:W.Frag}{F:Fm}{ρ ρ1 ρ2:aW}{σ:St}{H H' H1 H2:Hp}{x y v z:V}{T U W:Tv}{a b:Addr}{o:HO}
def iz.va(v:VA K H z W):iz K H H z W:=⟨ay.refl _,.inl v⟩
def iz.flat(h:dO z=true):iz K H H z (.leaf z):=.va (.flat h)
def iz.lst{xs:List V}{Ts:List Tv}(n:H a=none)(z:Ts.length<=100000)(p:cp K H xs Ts):iz K H (ar H a (.lst xs)) (.ref a) (.seq false Ts):=
 ⟨cB n,.inr ⟨a,rfl,n,.inl ⟨xs,Ts,bE,rfl,z,p.hs (hC n)⟩⟩⟩
def iz.tup{xs:List V}{Ts:List Tv}(n:H a=none)(z:Ts.length<=100000)(p:cp K H xs Ts):iz K H (ar H a (.tup xs)) (.ref a) (.seq true Ts):=
 ⟨cB n,.inl (VA.seq (t:=true) (cq.of bE) z (p.hs (hC n)))⟩
def bh.frz(fr:au K F ρ σ H)(s:ay H H')(n:H a=none)(e:H' a=some o)(m:ig o=true)(ob:Obj):bh K F σ ρ H ρ (ar H' a (.frz ob o)):=
 bh.same fr λb u q=>by rw[bP (dX q n)];exact s b u q
def iz.fin(fr:au K F ρ σ H)(r:iz K H H' z W){QQ:VK}(k:∀H'',bh K F σ ρ H ρ H''->VA K H'' z W->QQ z H''):y_ QQ z H':=by
 obtain⟨s,v|⟨a,rfl,n,⟨xs,Ts,e,rfl,l,p⟩|⟨kvs,kts,e,rfl,nd,l,p⟩⟩⟩:=r
 ·exact .inl (k H' (bh.same fr s) v)
 ·refine .inr ⟨a,_,rfl,e,rfl,λob=>k _ (bh.frz fr s n e rfl ob) (VA.seq (t:=false) ⟨ob,bE⟩ l (p.hs (fR e rfl)))⟩
 ·refine .inr ⟨a,_,rfl,e,rfl,λob=>k _ (bh.frz fr s n e rfl ob) (VA.dct ⟨ob,bE⟩ nd l (p.hs (fR e rfl)))⟩
end
abbrev iT(i:Int):Tv:=.leaf (.int i)
abbrev sT(x:Str):Tv:=.leaf (.str x)
abbrev bT(b:Bool):Tv:=.leaf (.bl b)
abbrev nT:Tv:=.leaf .non
abbrev P1:=Tv->(Tv->Prop)->Prop
abbrev P2:=Tv->Tv->(Tv->Prop)->Prop
abbrev Pn:=List Tv->(Tv->Prop)->Prop
section
variable{X:Cx}{F:Fm}
def gJ(i:Nat):UT:=λρ Q=>match ρ[i]? with
 |some (.va T)=>Q T ρ
 |some (.own Ts)=>Q (.seq false Ts) (ρ.set i (.va (.seq false Ts)))
 |some (.dct kts)=>Q (.dct kts) (ρ.set i (.va (.dct kts)))
 |_=>False
def iH{σ:St}{i:Nat}{x:V}(h:fc σ i=some x):σ[i]?=some (some x):=by
 unfold fc at h;cases q:σ[i]? with
 |none=>rw[q]at h;cases h
 |some o=>rw[q]at h;cases o with
  |none=>cases h
  |some y=>cases h;rfl
def Ji{σ:St}{i:Nat}{x:V}(h:σ[i]?=some (some x)):fc σ i=some x:=by
 unfold fc;rw[h];rfl
def au.fzs{K:W.Frag}{ρ:aW}{σ:St}{H:Hp}{i:Nat}{s:Sl}{a:Addr}{o:HO}{T:Tv}(fr:au K F ρ σ H)(e:ρ[i]?=some s)(m:eJ s=true)(q:fc σ i=some (.ref a))(h:H a=some o)(n:ig o=true)(ob:Obj)
  (v:VA K (ar H a (.frz ob o)) (.ref a) T):bh K F σ ρ H (ρ.set i (.va T)) (ar H a (.frz ob o)):=by
 have hi:i<ρ.length:=(qx_.mp e).1;have h0:=(fr.own_at e m q).2;have hd:=fr.fresh_nodk h0;have hs:HS H (ar H a (.frz ob o)):=fR h (by cases o<;>first|rfl|exact absurd n cn);have st:∀b u,b≠a->H b=some u->ar H a (.frz ob o) b=some u:=λb u z e=>by rw[bP z];exact e
 refine⟨⟨fr.d0,⟨λb u e1 n1=>st b u (λz=>by rw[z,h0]at e1;cases e1) (fr.kp.st b u e1 n1),λp c d=>?_⟩,by rw[jb];exact fr.len,λj s' e'=>?_,λj k b s' t' e1 e2 m1 m2 q1 q2=>?_⟩,λb u e1 _ n1=>st b u (λz=>n1 i s e m (by rw[z];exact q)) e1,λj s' e' m'=>?_,λb u e1=>if z:b=a then⟨.frz ob o,z▸bE⟩ else⟨u,st b u z e1⟩⟩
 ·obtain⟨ne,⟨S,k,e1⟩,ns,e2,l⟩:=fr.kp.dkk p c d;exact⟨ne,⟨S,k,st _ _ (hd p c d).1.symm e1⟩,ns,st _ _ (hd p c d).2.symm e2,l⟩
 ·by_cases z:i=j
  ·subst z;rw[gp hi]at e';cases e';exact⟨_,q,v⟩
  ·rw[g_ z]at e';have x:=fr.at_ j s' e';cases s' with
   |no=>trivial
   |va T=>obtain⟨y,e1,v⟩:=x;exact⟨y,e1,v.hs hs⟩
   |own Ts=>obtain⟨b,xs,e1,e2,e3,z',p⟩:=x;exact⟨b,xs,e1,st _ _ (λy=>z (fr.ap i j a s _ e e' m rfl q (by rw[e1,y]))) e2,e3,z',p.hs hs⟩
   |dct kts=>obtain⟨b,kvs,e1,e2,e3,n',z',p⟩:=x;exact⟨b,kvs,e1,st _ _ (λy=>z (fr.ap i j a s _ e e' m rfl q (by rw[e1,y]))) e2,e3,n',z',p.hs hs⟩
   |dk=>exact x
 ·by_cases z1:i=j
  ·subst z1;rw[gp hi]at e1;cases e1;cases m1
  ·by_cases z2:i=k
   ·subst z2;rw[gp hi]at e2;cases e2;cases m2
   ·rw[g_ z1]at e1;rw[g_ z2]at e2;exact fr.ap j k b s' t' e1 e2 m1 m2 q1 q2
 ·by_cases z:i=j
  ·subst z;rw[gp hi]at e';cases e';cases m'
  ·rw[g_ z]at e';exact⟨s',e',m'⟩
def aC(i:Nat){x:Str}{pos:Pos}(hN:X.N[i]?=some x:=by rfl)(hv:oy X.env.scope x:=by first|exact Or.inl rfl|exact Or.inr (Or.inl rfl)|exact Or.inr (Or.inr rfl))(hd:(x==("__debug__":Str))=false:=by decide)(hcd:(x==("__classdict__":Str))=false:=by decide):
  UE X F (.Name x pos) (gJ i):=by
 refine⟨PE.imp (PE.fz (jK hN hv hd hcd)) ?_⟩;rintro σ H QQ ⟨ρ,Q,fr,h,k⟩;unfold gJ at h;split at h
 ·rename_i T e;obtain⟨y,e1,v⟩:=fr.at_ i _ e;exact⟨y,iH e1,.inl (k y T H ρ (bh.refl fr) v h)⟩
 ·rename_i Ts e;obtain⟨a,xs,e1,e2,e3,z,p⟩:=fr.at_ i _ e;refine⟨_,iH e1,.inr ⟨a,_,rfl,e2,rfl,λob=>?_⟩⟩;have v:VA X.K (ar H a (.frz ob (.lst xs))) (.ref a) (.seq false Ts):=VA.seq (t:=false) ⟨ob,bE⟩ z (p.hs (fR e2 rfl));exact k _ _ _ _ (fr.fzs e rfl e1 e2 rfl ob v) v h
 ·rename_i kts e;obtain⟨a,kvs,e1,e2,e3,n,z,p⟩:=fr.at_ i _ e;refine⟨_,iH e1,.inr ⟨a,_,rfl,e2,rfl,λob=>?_⟩⟩;have v:VA X.K (ar H a (.frz ob (.dK kvs))) (.ref a) (.dct kts):=VA.dct ⟨ob,bE⟩ n z (p.hs (fR e2 rfl));exact k _ _ _ _ (fr.fzs e rfl e1 e2 rfl ob v) v h
 ·exact False.elim h
def uC(T:Tv):UT:=λρ Q=>Q T ρ
def tM{e:Expr}{v:V}(h:PE X e (tC v))(f:dO v=true):UE X F e (uC (.leaf v)):=⟨PE.imp h λσ H QQ ⟨ρ,Q,fr,h,k⟩=>k v (.leaf v) H ρ (bh.refl fr) (.flat f) h⟩
def aG{i j pos}:UE X F (.Constant (.int i) j pos) (uC (iT i)):=tM cP rfl
def fI{b j pos}:UE X F (.Constant (.bool b) j pos) (uC (bT b)):=tM Hk rfl
def jG{j pos}:UE X F (.Constant .none j pos) (uC nT):=tM IZ rfl
def bC{x j pos}:UE X F (.Constant (.str x) j pos) (uC (sT x)):=tM Jb rfl
def KA{x:Str}{v:V}{u:Value}{T:Tv}{pos:Pos}(hg:Gl X x)(hm:X.mg x=some u)(r:ah v u)(hv:∀H,VA X.K H v T)(hd:(x==("__debug__":Str))=false:=by decide):UE X F (.Name x pos) (uC T):=
 ⟨PE.imp (B1 hg hm r hd) λσ H QQ ⟨ρ,Q,fr,h,k⟩=>k v T H ρ (bh.refl fr) (hv H) h⟩
def uQ(K:W.Frag)(r:P2)(r':R2):Prop:=∀x y T U H Q (QQ:VK),VA K H x T->VA K H y U->r T U Q->(∀z W H',iz K H H' z W->Q W->QQ z H')->r' x y H QQ
def gM(X:Cx)(f:Value->Value->Sem Value)(r:P2):Prop:=∃r',cm X f r'/\uQ X.K r r'
def ke(r:P2)(ua ub:UT):UT:=λρ Q=>ua ρ λa ρ1=>ub ρ1 λb ρ2=>r a b λc=>Q c ρ2
def xK{r:P2}{r':R2}{ua ub:UT}(hr:uQ X.K r r')(σ:St)(H:Hp)(QQ:VK)(h:eX X.K F (ke r ua ub) σ H QQ):yn (ur r' (eX X.K F ua) (eX X.K F ub)) σ H QQ:=by
 obtain⟨ρ,Q,fr,h,k⟩:=h;refine⟨ρ,_,fr,h,λx T H1 ρ1 s1 v1 q1=>⟨ρ1,_,s1.fr,q1,λy U H2 ρ2 s2 v2 q2=>?_⟩⟩;refine hr x y T U H2 _ _ (v1.hs (s2.hs s1.fr)) v2 q2 λz W H' rw q=>rw.fin s2.fr λH'' s3 v3=>k _ _ _ _ ((s1.trans s2).trans s3) v3 q
variable{a b c:Expr}{ua ub uc:UT}{pos:Pos}
def bS{op:Operator}{r:P2}(ho:gM X (binaryOp op) r)(ha:UE X F a ua)(hb:UE X F b ub):UE X F (.BinOp a op b pos) (ke r ua ub):=by
 obtain⟨r',o,hr⟩:=ho;exact⟨PE.imp (PE.fz (cT o ha.pe hb.pe)) (xK hr)⟩
def J1{op:CmpOp}{r:P2}(ho:gM X (compareOp op) r)(ha:UE X F a ua)(hb:UE X F b ub)(hm:behindInMarks op b=false):UE X F (.Compare a [op] [b] pos) (ke r ua ub):=by
 obtain⟨r',o,hr⟩:=ho;exact⟨PE.imp (PE.fz (K1 o ha.pe hb.pe hm)) (xK hr)⟩
def uB(u:UT):d6:=λρ Q=>u ρ λT ρ'=>∃b,T=bT b/\Q b ρ'
def AY{e:Expr}{t:TE}{u:UT}(h:PT X e (yJ t))(i:∀σ H QQ,eX X.K F u σ H QQ->t σ H QQ):UB X F e (uB u):=⟨PT.imp h λσ H QQ ⟨ρ,Q,fr,h,k⟩=>by
 refine i σ H _ ⟨ρ,_,fr,h,λx T H' ρ' s v q=>?_⟩;obtain⟨b,rfl,q⟩:=q;obtain⟨e,_⟩:=v.leafI;exact⟨b,e,k b H' ρ' s q⟩⟩
def jg(K:W.Frag)(r:P2)(r':R2):Prop:=∀x y T U H Q (QQ:VK),VA K H x T->VA K H y U->r T U Q->(∀z W H',ay H H'->VA K H' z W->Q W->QQ z H')->r' x y H QQ
def b_(X:Cx)(f:Value->Value->Sem Value)(r:P2):Prop:=∃r',cm X f r'/\jg X.K r r'
def jg.raw{K:W.Frag}{r:P2}{r':R2}(h:jg K r r'):uQ K r r':=λx y T U H Q QQ vx vy q k=>h x y T U H Q QQ vx vy q λz W H' s v q'=>k z W H' ⟨s,.inl v⟩ q'
def b_.op{f:Value->Value->Sem Value}{r:P2}(h:b_ X f r):gM X f r:=by
 obtain⟨r',o,h⟩:=h;exact⟨r',o,h.raw⟩
def Mc{r:P2}{r':R2}{ua ub:UT}(hr:jg X.K r r')(σ:St)(H:Hp)(QQ:VK)(h:eX X.K F (ke r ua ub) σ H QQ):ur r' (eX X.K F ua) (eX X.K F ub) σ H QQ:=by
 obtain⟨ρ,Q,fr,h,k⟩:=h;refine⟨ρ,_,fr,h,λx T H1 ρ1 s1 v1 q1=>⟨ρ1,_,s1.fr,q1,λy U H2 ρ2 s2 v2 q2=>?_⟩⟩;exact hr x y T U H2 _ _ (v1.hs (s2.hs s1.fr)) v2 q2 λz W H' s v q=>k _ _ _ _ ((s1.trans s2).trans (bh.same s2.fr s)) v q
def yA{op:CmpOp}{r:P2}(ho:b_ X (compareOp op) r)(ha:UE X F a ua)(hb:UE X F b ub)(hm:behindInMarks op b=false):UB X F (.Compare a [op] [b] pos) (uB (ke r ua ub)):=by
 obtain⟨r',o,hr⟩:=ho;exact AY (xE o ha.pe hb.pe hm) (Mc hr)
def AD(r r':P2)(ua ub uc:UT):UT:=λρ Q=>ua ρ λa ρ1=>ub ρ1 λb ρ2=>r a b λz=>∃k,z=bT k/\(if k=true then uc ρ2 λc ρ3=>r' b c λw=>Q w ρ3 else Q (bT false) ρ2)
def Os{r r':P2}{s s':R2}(hr:jg X.K r s)(hr':jg X.K r' s')(σ:St)(H:Hp)(QQ:VK)(h:eX X.K F (AD r r' ua ub uc) σ H QQ):AA s s' (eX X.K F ua) (eX X.K F ub) (eX X.K F uc) σ H QQ:=by
 obtain⟨ρ,Q,fr,h,k⟩:=h;refine⟨ρ,_,fr,h,λx T H1 ρ1 s1 v1 q1=>⟨ρ1,_,s1.fr,q1,λy U H2 ρ2 s2 v2 q2=>?_⟩⟩;refine hr x y T U H2 _ _ (v1.hs (s2.hs s1.fr)) v2 q2 λz W H3 ss v3 q3=>?_
 obtain⟨b,rfl,q3⟩:=q3;obtain⟨e,_⟩:=v3.leafI;have s3:=bh.same s2.fr ss;refine⟨b,e,?_⟩;cases b with
 |false=>
  rw[if_neg cn]at q3 ⊢;exact k _ _ _ _ ((s1.trans s2).trans s3) (.flat rfl) q3
 |true=>
  rw[if_pos rfl]at q3 ⊢;refine⟨ρ2,_,s3.fr,q3,λz' W' H4 ρ4 s4 v4 q4=>?_⟩;exact hr' y z' U W' H4 _ _ ((v2.hs (s3.hs s2.fr)).hs (s4.hs s3.fr)) v4 q4 λz5 W5 H5 s5 v5 q5=>k _ _ _ _ (((s1.trans s2).trans s3).trans (s4.trans (bh.same s4.fr s5))) v5 q5
def Nv{op op':CmpOp}{r r':P2}(ho:b_ X (compareOp op) r)(ho':b_ X (compareOp op') r')(ha:UE X F a ua)(hb:UE X F b ub)(hc:UE X F c uc)(hm:lastMarks [op,op'] [b,c]=false:=by with_unfolding_all rfl):
  UB X F (.Compare a [op,op'] [b,c] pos) (uB (AD r r' ua ub uc)):=by
 obtain⟨s,o,hr⟩:=ho;obtain⟨s',o',hr'⟩:=ho';exact AY (LF o o' ha.pe hb.pe hc.pe hm) (Os hr hr')
def Am(X:Cx)(f:Value->Sem Value)(r:P1):Prop:=∃r',ya X f r'/\∀x T H Q (QQ:VK),VA X.K H x T->r T Q->(∀z W,VA X.K H z W->Q W->QQ z H)->r' x H QQ
def Pe(r:P1)(ua:UT):UT:=λρ Q=>ua ρ λa ρ1=>r a λc=>Q c ρ1
def yI{op:UnaryOp}{r:P1}(ho:Am X (unaryOp op) r)(ha:UE X F a ua):UE X F (.UnaryOp op a pos) (Pe r ua):=by
 obtain⟨r',o,hr⟩:=ho;refine⟨PE.imp (Br o ha.pe) ?_⟩;rintro σ H QQ ⟨ρ,Q,fr,h,k⟩;exact⟨ρ,_,fr,h,λx T H1 ρ1 s1 v1 q1=>hr x T H1 _ _ v1 q1 λz W v q=>k _ _ _ _ s1 v q⟩
def zj:P1
 |.leaf (.int i),Q=>Q (iT (-i))
 |_,_=>False
def yB:Am X (unaryOp .USub) zj:=⟨_,AF,λx T H Q QQ v h k=>by
 unfold zj at h;split at h
 ·obtain⟨rfl,_⟩:=v.leafI;exact⟨_,rfl,k _ _ (.flat rfl) h⟩
 ·exact False.elim h⟩
def GS(ua ub:UT):UT:=λρ Q=>ua ρ λa ρ1=>∃c,a=bT c/\if c=true then ub ρ1 Q else Q (bT false) ρ1
def mU{op}{u:UT}(h:UE X F a u):UE X F (.BoolOp op [a] pos) u:=⟨I_ h.pe⟩
def jH{rest:List Expr}(ha:UE X F a ua)(hb:UE X F (.BoolOp .And (b::rest) pos) ub):UE X F (.BoolOp .And (a::b::rest) pos) (GS ua ub):=⟨PE.imp (IV ha.pe hb.pe) λσ H QQ ⟨ρ,Q,fr,h,k⟩=>by
 refine⟨ρ,_,fr,h,λx T H1 ρ1 s1 v1 q1=>?_⟩;obtain⟨c,rfl,q1⟩:=q1;obtain⟨e,_⟩:=v1.leafI;refine⟨c,e,?_⟩;cases c with
 |false=>rw[if_neg cn]at q1 ⊢;exact k _ _ _ _ s1 (.flat rfl) q1
 |true=>rw[if_pos rfl]at q1 ⊢;exact⟨ρ1,_,s1.fr,q1,λy U H2 ρ2 s2 v2 q2=>k _ _ _ _ (s1.trans s2) v2 q2⟩⟩
def FO(t u:d6):d6:=λρ Q=>t ρ λc ρ1=>if c=true then u ρ1 Q else Q false ρ1
def Pg(t u:d6):d6:=λρ Q=>t ρ λc ρ1=>if c=true then Q true ρ1 else u ρ1 Q
def FR(t:d6):d6:=λρ Q=>t ρ λc ρ1=>Q (!c) ρ1
variable{ta tb:d6}{rest:List Expr}
def oN(ha:UB X F a ta):UW X F (.BoolOp .And [a] pos) ta:=⟨Lb ha.pt⟩
def gD(ha:UB X F a ta):UW X F (.BoolOp .Or [a] pos) ta:=⟨Im ha.pt⟩
def mT(ha:UB X F a ta)(hb:UW X F (.BoolOp .And (b::rest) pos) tb):UW X F (.BoolOp .And (a::b::rest) pos) (FO ta tb):=⟨PW.imp (Il ha.pt hb.pw) λσ H QQ ⟨ρ,Q,fr,h,k⟩=>by
 refine⟨ρ,_,fr,h,λc H1 ρ1 s1 q1=>?_⟩;cases c with
 |false=>rw[if_neg cn]at q1 ⊢;exact k _ _ _ s1 q1
 |true=>rw[if_pos rfl]at q1 ⊢;exact⟨ρ1,_,s1.fr,q1,λy H2 ρ2 s2 q2=>k _ _ _ (s1.trans s2) q2⟩⟩
def fG(ha:UB X F a ta)(hb:UW X F (.BoolOp .Or (b::rest) pos) tb):UW X F (.BoolOp .Or (a::b::rest) pos) (Pg ta tb):=⟨PW.imp (Hn ha.pt hb.pw) λσ H QQ ⟨ρ,Q,fr,h,k⟩=>by
 refine⟨ρ,_,fr,h,λc H1 ρ1 s1 q1=>?_⟩;cases c with
 |true=>rw[if_pos rfl]at q1 ⊢;exact k _ _ _ s1 q1
 |false=>rw[if_neg cn]at q1 ⊢;exact⟨ρ1,_,s1.fr,q1,λy H2 ρ2 s2 q2=>k _ _ _ (s1.trans s2) q2⟩⟩
def eI{e:Expr}{t:d6}(h:UW X F e t):UB X F e t:=⟨h.pw.pt⟩
def jI(ha:UB X F a ta):UB X F (.UnaryOp .Not a pos) (FR ta):=⟨PT.imp (Ig ha.pt) λσ H QQ ⟨ρ,Q,fr,h,k⟩=>⟨ρ,_,fr,h,λc H1 ρ1 s1 q1=>k _ _ _ s1 q1⟩⟩
def cR{e:Expr}{u:UT}(h:UE X F e u)(he:∀whole,isTrue e X.env whole=(do let v <- whole;standAt e.pos;holding [v] (truthy v)):=by intro _;rfl):UB X F e (uB u):=⟨PT.imp (Ih h.pe he) λσ H QQ ⟨ρ,Q,fr,h,k⟩=>by
 refine⟨ρ,_,fr,h,λx T H' ρ' s v q=>?_⟩;obtain⟨b,rfl,q⟩:=q;obtain⟨e,_⟩:=v.leafI;exact⟨b,e,k b H' ρ' s q⟩⟩
def Pj(t:d6)(ua ub:UT):UT:=λρ Q=>t ρ λc ρ1=>if c=true then ua ρ1 Q else ub ρ1 Q
def vZ(hc:UB X F c ta)(ha:UE X F a ua)(hb:UE X F b ub):UE X F (.IfExp c a b pos) (Pj ta ua ub):=⟨PE.imp (Mp hc.pt ha.pe hb.pe) λσ H QQ ⟨ρ,Q,fr,h,k⟩=>by
 refine⟨ρ,_,fr,h,λc H1 ρ1 s1 q1=>?_⟩;cases c with
 |true=>rw[if_pos rfl]at q1 ⊢;exact⟨ρ1,_,s1.fr,q1,λy U H2 ρ2 s2 v2 q2=>k _ _ _ _ (s1.trans s2) v2 q2⟩
 |false=>rw[if_neg cn]at q1 ⊢;exact⟨ρ1,_,s1.fr,q1,λy U H2 ρ2 s2 v2 q2=>k _ _ _ _ (s1.trans s2) v2 q2⟩⟩
def hZ:dw:=λρ Q=>Q [] ρ
def iP(u:UT)(t:dw):dw:=λρ Q=>u ρ λT ρ1=>t ρ1 λas ρ2=>Q (.va T::as) ρ2
def Pk(i:Nat)(t:dw):dw:=λρ Q=>ρ[i]?=some .dk/\t ρ λas ρ2=>Q (.dk::as) ρ2
def aE:UA X F [] hZ:=⟨PA.imp dC λσ H QQ ⟨ρ,Q,fr,h,k⟩=>k [] [] H ρ (bh.refl fr) .nil h⟩
def aD{e:Expr}{es:List Expr}{u:UT}{t:dw}(ha:UE X F e u)(hr:UA X F es t)(h:dJ e=false:=by rfl):UA X F (e::es) (iP u t):=⟨PA.imp (cV ha.pe hr.pa h) λσ H QQ ⟨ρ,Q,fr,h,k⟩=>by
 refine⟨ρ,_,fr,h,λx T H1 ρ1 s1 v1 q1=>⟨ρ1,_,s1.fr,q1,λxs as H2 ρ2 s2 p2 q2=>?_⟩⟩;exact k _ _ _ _ (s1.trans s2) (.cons (b:=Ar.va T) (v1.hs (s2.hs s1.fr)) p2) q2⟩
def bY(i:Nat){x:Str}{pos:Pos}{es:List Expr}{t:dw}(hr:UA X F es t)(hN:X.N[i]?=some x:=by rfl)(hv:oy X.env.scope x:=by first|exact Or.inl rfl|exact Or.inr (Or.inl rfl)|exact Or.inr (Or.inr rfl))(hd:(x==("__debug__":Str))=false:=by decide)(hcd:(x==("__classdict__":Str))=false:=by decide):
  UA X F (.Name x pos::es) (Pk i t):=⟨PA.imp (cV (jK hN hv hd hcd) hr.pa rfl) λσ H QQ ⟨ρ,Q,fr,⟨e,h⟩,k⟩=>by
 obtain⟨p,c,ed,ex⟩:=fr.at_ i _ e;refine⟨_,iH ex,ρ,_,fr,h,λxs as H2 ρ2 s2 p2 q2=>?_⟩;exact k _ _ _ _ s2 (.cons (b:=Ar.dk) ⟨p,c,ed,rfl⟩ p2) q2⟩
def yl:List Ar->(List Tv->Prop)->Prop
 |[],Q=>Q []
 |.va T::as,Q=>yl as λTs=>Q (T::Ts)
 |.dk::_,_=>False
def iK:∀{as:List Ar}{Q:List Tv->Prop},yl as Q->∃Ts,as=Ts.map Ar.va/\Q Ts
 |[],_,h=>⟨[],rfl,h⟩
 |.va T::as,Q,h=>by
  obtain⟨Ts,rfl,q⟩:=iK (as:=as) (Q:=λTs=>Q (T::Ts)) h;exact⟨T::Ts,rfl,q⟩
 |.dk::_,_,h=>False.elim h
def pj(ua:dw):d3:=λρ Q=>ua ρ λas ρ1=>yl as λTs=>Q Ts ρ1
def iL{K:W.Frag}{dk:Option (Addr×Addr)}{H:Hp}:∀{xs:List V}{Ts:List Tv},Paired (qH K dk H) xs (Ts.map Ar.va)->cp K H xs Ts
 |[],[],_=>.nil
 |_::_,_::_,.cons r t=>.cons r (iL t)
def FS(ua:dw):UT:=λρ Q=>pj ua ρ λTs ρ1=>Ts.length<=100000/\Q (.seq true Ts) ρ1
def FQ(ua:dw):d3:=λρ Q=>pj ua ρ λTs ρ1=>Ts.length<=100000/\Q Ts ρ1
def iJ{n:Nat}(h:n<=100000):n<=sizeLine:=by rw[sizeLine_eq];omega
def xJ{n:Nat}(h:n<100000):n<sizeLine:=by rw[sizeLine_eq];omega
def cA{es:List Expr}{t:dw}{x1}(h:UA X F es t):UE X F (.Tuple es x1 pos) (FS t):=⟨PE.imp (Jc h.pa) λσ H QQ ⟨ρ,Q,fr,h,k⟩=>by
 refine⟨ρ,_,fr,h,λxs as H1 ρ1 s1 p1 q1=>?_⟩;obtain⟨Ts,rfl,z,q⟩:=iK q1;have p:=iL p1;have l:xs.length=Ts.length:=Paired.length p;refine⟨iJ (by omega),λa n=>?_⟩;have r:=iz.tup (K:=X.K) n z p;exact k _ _ _ _ (s1.trans (bh.same s1.fr r.1)) (VA.seq (t:=true) (cq.of bE) z (p.hs (hC n))) q⟩
def cD{es:List Expr}{t:dw}(h:UA X F es t):UL X F (.List es pos) (FQ t):=⟨PE.imp (Bf h.pa) λσ H QQ ⟨ρ,Q,fr,h,k⟩=>by
 refine⟨ρ,_,fr,h,λxs as H1 ρ1 s1 p1 q1=>?_⟩;obtain⟨Ts,rfl,z,q⟩:=iK q1;have p:=iL p1;have l:xs.length=Ts.length:=Paired.length p;refine⟨iJ (by omega),λa n=>?_⟩;exact k _ _ _ _ _ (s1.trans (bh.same s1.fr (cB n))) (s1.non n) bE z (p.hs (hC n)) q⟩
end
def au.fzn{K:W.Frag}{F:Fm}{ρ:aW}{σ:St}{H:Hp}{a:Addr}{o:HO}(fr:au K F ρ σ H)(h:H a=some o)(n:ig o=true)(h0:F.H0 a=none)(na:∀(i:Nat) (s:Sl),ρ[i]?=some s->eJ s=true->fc σ i≠some (.ref a))(o':HO):au K F ρ σ (ar H a o'):=by
 have hd:=fr.fresh_nodk h0;have hs:HS H (ar H a o'):=fR h (by cases o<;>first|rfl|exact absurd n cn);have st:∀b u,b≠a->H b=some u->ar H a o' b=some u:=λb u z e=>by rw[bP z];exact e
 refine⟨fr.d0,⟨λb u e1 n1=>st b u (λz=>by rw[z,h0]at e1;cases e1) (fr.kp.st b u e1 n1),λp c d=>?_⟩,fr.len,λj s' e'=>?_,fr.ap⟩
 ·obtain⟨ne,⟨S,k,e1⟩,ns,e2,l⟩:=fr.kp.dkk p c d;exact⟨ne,⟨S,k,st _ _ (hd p c d).1.symm e1⟩,ns,st _ _ (hd p c d).2.symm e2,l⟩
 ·have x:=fr.at_ j s' e';cases s' with
  |no=>trivial
  |va T=>obtain⟨y,e1,v⟩:=x;exact⟨y,e1,v.hs hs⟩
  |own Ts=>obtain⟨b,xs,e1,e2,e3,z',p⟩:=x;exact⟨b,xs,e1,st _ _ (λy=>na j _ e' rfl (by rw[e1,y])) e2,e3,z',p.hs hs⟩
  |dct kts=>obtain⟨b,kvs,e1,e2,e3,n',z',p⟩:=x;exact⟨b,kvs,e1,st _ _ (λy=>na j _ e' rfl (by rw[e1,y])) e2,e3,n',z',p.hs hs⟩
  |dk=>exact x
def bh.notown{K:W.Frag}{F:Fm}{ρ ρ1:aW}{σ:St}{H H1:Hp}{a:Addr}(s:bh K F σ ρ H ρ1 H1)(fr:au K F ρ σ H)(n:H a=none):∀(i:Nat) (s:Sl),ρ1[i]?=some s->eJ s=true->fc σ i≠some (.ref a):=λi s' e m q=>by
 obtain⟨s0,e0,m0⟩:=s.sub i s' e m;obtain⟨⟨o,e1,_⟩,_⟩:=fr.own_at e0 m0 q;rw[n]at e1;cases e1
def bh.put{K:W.Frag}{F:Fm}{ρ ρ1:aW}{σ:St}{H H1:Hp}{a:Addr}{o:HO}(s:bh K F σ ρ H ρ1 H1)(fr:au K F ρ σ H)(n:H a=none)(e:H1 a=some o)(m:ig o=true)(o':HO):bh K F σ ρ H ρ1 (ar H1 a o'):=
 ⟨s.fr.fzn e m (fr.none0 n) (s.notown fr n) o',λb u q d n1=>by rw[bP (dX q n)];exact s.st b u q d n1,s.sub,λb u q=>by rw[bP (dX q n)];exact s.tr b u q⟩
section
variable{X:Cx}{F:Fm}{e:Expr}{pos:Pos}
def uL(u:d3):UT:=λρ Q=>u ρ λTs ρ1=>Q (.seq false Ts) ρ1
def bG{u:d3}(h:UL X F e u):UE X F e (uL u):=⟨PE.imp (PE.fz h.pe) λσ H QQ ⟨ρ,Q,fr,h,k⟩=>⟨ρ,_,fr,h,λa xs Ts H' ρ' s n e z p q=>
 .inr ⟨a,_,rfl,e,rfl,λob=>k _ _ _ _ (s.put fr n e rfl (.frz ob (.lst xs))) (VA.seq (t:=false) ⟨ob,bE⟩ z (p.hs (fR e rfl))) q⟩⟩⟩
def Ak(K:W.Frag)(r:Pn)(r':List V->Hp->VK->Prop):Prop:=∀xs Ts H Q (QQ:VK),cp K H xs Ts->r Ts Q->(∀z W H',iz K H H' z W->Q W->QQ z H')->r' xs H QQ
def iN(X:Cx)(f:Value)(r:Pn):Prop:=∃r',aq X f r'/\Ak X.K r r'
def uq(r:Pn)(ua:dw):UT:=λρ Q=>pj ua ρ λTs ρ1=>r Ts λW=>Q W ρ1
def BU{r:Pn}{r':List V->Hp->VK->Prop}{ua:dw}(hr:Ak X.K r r')(σ:St)(H:Hp)(QQ:VK)(h:eX X.K F (uq r ua) σ H QQ):yn (x5 r' (pK X.K F ua)) σ H QQ:=by
 obtain⟨ρ,Q,fr,h,k⟩:=h;refine⟨ρ,_,fr,h,λxs as H1 ρ1 s1 p1 q1=>?_⟩;obtain⟨Ts,rfl,q⟩:=iK q1;exact hr xs Ts H1 _ _ (iL p1) q λz W H' rw q=>rw.fin s1.fr λH'' s3 v3=>k _ _ _ _ (s1.trans s3) v3 q
variable{es:List Expr}{x:Str}{p:Pos}{ua:dw}
def bI{id:String}{r:Pn}(hc:iN X (.builtin id) r)(hg:Gl X x)(hm:X.mg x=none)(hv:bootBuiltins x=some (.builtin id))(ha:UA X F (e::es) ua)(hn:x≠"__name__":=by decide)(hdb:(x==("__debug__":Str))=false:=by decide)
  (he:starEach (e::es) X.env=(false,eval e X.env)::starEach es X.env:=by rfl) (hpl:(backTo pos (starEach es X.env)).any (·.1)=false:=by rfl):UE X F (.Call (.Name x p) (e::es) [] pos) (uq r ua):=by
 obtain⟨r',o,hr⟩:=hc;exact⟨PE.imp (PE.fz (iG o hg hm hv ha.pa hn hdb he hpl)) (BU hr)⟩
def fN{id:String}{r:Pn}(hc:iN X (.type id) r)(hg:Gl X x)(hm:X.mg x=none)(hv:bootBuiltins x=some (.type id))(ha:UA X F (e::es) ua)(hn:x≠"__name__":=by decide)(hdb:(x==("__debug__":Str))=false:=by decide)
  (he:starEach (e::es) X.env=(false,eval e X.env)::starEach es X.env:=by rfl) (hpl:(backTo pos (starEach es X.env)).any (·.1)=false:=by rfl):UE X F (.Call (.Name x p) (e::es) [] pos) (uq r ua):=by
 obtain⟨r',o,hr⟩:=hc;exact⟨PE.imp (PE.fz (gB o hg hm hv ha.pa hn hdb he hpl)) (BU hr)⟩
def Aj(K:W.Frag)(r:List Tv->(List Tv->Prop)->Prop)(r':List V->Hp->VK->Prop):Prop:=∀xs Ts H Q (QQ:VK),cp K H xs Ts->r Ts Q->(∀a ys Us H',ay H H'->H a=none->H' a=some (.lst ys)->Us.length<=100000->cp K H' ys Us->Q Us->QQ (.ref a) H')->r' xs H QQ
def oS(X:Cx)(f:Value)(r:List Tv->(List Tv->Prop)->Prop):Prop:=∃r',aq X f r'/\Aj X.K r r'
def ym(r:List Tv->(List Tv->Prop)->Prop)(ua:dw):d3:=λρ Q=>pj ua ρ λTs ρ1=>r Ts λUs=>Q Us ρ1
def BV{r:List Tv->(List Tv->Prop)->Prop}{r':List V->Hp->VK->Prop}{ua:dw}(hr:Aj X.K r r')(σ:St)(H:Hp)(QQ:VK)(h:pJ X.K F (ym r ua) σ H QQ):x5 r' (pK X.K F ua) σ H QQ:=by
 obtain⟨ρ,Q,fr,h,k⟩:=h;refine⟨ρ,_,fr,h,λxs as H1 ρ1 s1 p1 q1=>?_⟩;obtain⟨Ts,rfl,q⟩:=iK q1;exact hr xs Ts H1 _ _ (iL p1) q λa ys Us H' sm n e z p q=>k _ _ _ _ _ (s1.trans (bh.same s1.fr sm)) (s1.non n) e z p q
def vY{id:String}{r:List Tv->(List Tv->Prop)->Prop}(hc:oS X (.builtin id) r)(hg:Gl X x)(hm:X.mg x=none)(hv:bootBuiltins x=some (.builtin id))(ha:UA X F (e::es) ua)(hn:x≠"__name__":=by decide)(hdb:(x==("__debug__":Str))=false:=by decide)
  (he:starEach (e::es) X.env=(false,eval e X.env)::starEach es X.env:=by rfl) (hpl:(backTo pos (starEach es X.env)).any (·.1)=false:=by rfl):UL X F (.Call (.Name x p) (e::es) [] pos) (ym r ua):=by
 obtain⟨r',o,hr⟩:=hc;exact⟨PE.imp (iG o hg hm hv ha.pa hn hdb he hpl) (BV hr)⟩
def nZ{id:String}{r:List Tv->(List Tv->Prop)->Prop}(hc:oS X (.type id) r)(hg:Gl X x)(hm:X.mg x=none)(hv:bootBuiltins x=some (.type id))(ha:UA X F (e::es) ua)(hn:x≠"__name__":=by decide)(hdb:(x==("__debug__":Str))=false:=by decide)
  (he:starEach (e::es) X.env=(false,eval e X.env)::starEach es X.env:=by rfl) (hpl:(backTo pos (starEach es X.env)).any (·.1)=false:=by rfl):UL X F (.Call (.Name x p) (e::es) [] pos) (ym r ua):=by
 obtain⟨r',o,hr⟩:=hc;exact⟨PE.imp (gB o hg hm hv ha.pa hn hdb he hpl) (BV hr)⟩
abbrev bt:=List Ar->(Tv->Prop)->Prop
def yQ(K:W.Frag)(psp:bt):Sp:=λvs H Q _=>∃dk as R,(∀p c,dk=some (p,c)->bo H p c)/\Paired (qH K dk H) vs as/\psp as R/\∀x T H',Kp dk H H'->VA K H' x T->R T->Q x H'
def ae(P:Program)(w:World)(K:W.Frag)(mg:Str->Option Value)(base:Heap)(k:Nat)(x:Str)(ps:List Str)(psp:bt):Prop:=cv P w K mg base k x ps (yQ K psp)
def ae.imp{P:Program}{w:World}{K:W.Frag}{mg:Str->Option Value}{base:Heap}{k:Nat}{ps:List Str}{psp psp':bt}(G:ae P w K mg base k x ps psp)(h:∀as R,psp' as R->psp as R):ae P w K mg base k x ps psp':=
 cv.imp G λvs H Q E ⟨dk,as,R,d,p,q,r⟩=>⟨dk,as,R,d,p,h as R q,r⟩
def ae.mono{P:Program}{w:World}{K:W.Frag}{mg:Str->Option Value}{base:Heap}{j k:Nat}{ps:List Str}{psp:bt}(G:ae P w K mg base j x ps psp)(h:j<=k):ae P w K mg base k x ps psp:=cv.mono G h
def lG(psp:bt)(ua:dw):UT:=λρ Q=>ua ρ λas ρ1=>psp as λW=>Q W ρ1
theorem MH{psp:bt}{ua:dw}(σ:St)(H:Hp)(QQ:VK)(h:eX X.K F (lG psp ua) σ H QQ):mZ (yQ X.K psp) [] E0 (pK X.K F ua) σ H QQ:=by
 obtain⟨ρ,Q,fr,h,k⟩:=h;refine⟨ρ,_,fr,h,λxs as H1 ρ1 s1 p1 q1=>?_⟩;show yQ X.K psp (xs++[]) H1 QQ E0;rw[jk];exact⟨F.dk,as,_,s1.fr.kp.dkk,p1,q1,λz W H' kp v q=>k _ _ _ _ (s1.trans (bh.call s1.fr kp)) v q⟩
def GW{k:Nat}{ps:List Str}{psp:bt}(G:ae X.prog X.w X.K X.mg X.base k x ps psp)(hr:bx k X.A)(hg:Gl X x)(ha:UA X F (e::es) ua)(hdb:(x==("__debug__":Str))=false:=by decide)
  (hst:dJ e=false:=by rfl) (hpl:(backTo pos (starEach es X.env)).any (·.1)=false:=by rfl):UE X F (.Call (.Name x p) (e::es) [] pos) (lG psp ua):=
 ⟨PE.imp (pH G hr hg ha.pa hdb hst hpl) MH⟩
theorem AE{k:Nat}{ps:List Str}{psp:bt}(G:ae X.prog X.w X.K X.mg X.base k x ps psp)(hr:bx k X.A)(hg:Gl X x)(hdb:(x==("__debug__":Str))=false:=by decide):UE X F (.Call (.Name x p) [] [] pos) (lG psp hZ):=
 ⟨PE.imp (IY G hr hg hdb) λσ H QQ ⟨ρ,Q,fr,h,k⟩=>⟨F.dk,[],_,fr.kp.dkk,.nil,h,λz W H' kp v q=>k _ _ _ _ (bh.call fr kp) v q⟩⟩
def Ai(X:Cx)(r:P2):Prop:=∃r',nh X r'/\uQ X.K r r'
variable{a b:Expr}{va vb:UT}
def GX{r:P2}(ho:Ai X r)(ha:UE X F a va)(hb:UE X F b vb)(hs:oU b:=by intro _ _;rfl):UE X F (.Subscript a b pos) (ke r va vb):=by
 obtain⟨r',o,hr⟩:=ho;exact⟨PE.imp (PE.fz (iQ o ha.pe hb.pe hs)) (xK hr)⟩
abbrev uz:=aW->(Option Int->aW->Prop)->Prop
def HJ(K:W.Frag)(F:Fm)(u:uz):TO:=λσ H QQ=>∃ρ Q,au K F ρ σ H/\u ρ Q/\∀o H' ρ',bh K F σ ρ H ρ' H'->Q o ρ'->QQ o H'
structure UO (X:Cx) (F:Fm) (e:Option Expr) (u:uz):Prop where
 po:PO X e (HJ X.K F u)
def PO.imp{e:Option Expr}{t t':TO}(h:PO X e t)(i:∀σ H Q,t' σ H Q->t σ H Q):PO X e t':=λQx s σ H Q I q=>h Qx s σ H Q I (i σ H Q q)
def Pc:uz:=λρ Q=>Q none ρ
def Pb(u:UT):uz:=λρ Q=>u ρ λT ρ1=>∃i,T=iT i/\Q (some i) ρ1
def jE:UO X F none Pc:=⟨PO.imp B6 λσ H QQ ⟨ρ,Q,fr,h,k⟩=>k _ _ _ (bh.refl fr) h⟩
def jD{u:UT}(h:UE X F e u):UO X F (some e) (Pb u):=⟨PO.imp (B7 h.pe) λσ H QQ ⟨ρ,Q,fr,h,k⟩=>⟨ρ,_,fr,h,λx T H1 ρ1 s1 v1 q1=>by
 obtain⟨i,rfl,q⟩:=q1;exact⟨i,v1.leafI.1,k _ _ _ s1 q⟩⟩⟩
abbrev yc:=Tv->Option Int->Option Int->(Tv->Prop)->Prop
def Al(X:Cx)(r:yc):Prop:=∃r',o_ X r'/\∀x T lo hi H Q (QQ:VK),VA X.K H x T->r T lo hi Q->(∀z W H',iz X.K H H' z W->Q W->QQ z H')->r' x lo hi H QQ
def Pf(r:yc)(u:UT)(lo hi:uz):UT:=λρ Q=>u ρ λT ρ1=>lo ρ1 λl ρ2=>hi ρ2 λh ρ3=>r T l h λW=>Q W ρ3
def jB{r:yc}{lo hi:Option Expr}{ul uh:uz}{p2:Pos}(ho:Al X r)(ha:UE X F a va)(hl:UO X F lo ul)(hh:UO X F hi uh):UE X F (.Subscript a (.Slice lo hi none p2) pos) (Pf r va ul uh):=by
 obtain⟨r',o,hr⟩:=ho;refine⟨PE.imp (PE.fz (Da o ha.pe hl.po hh.po)) ?_⟩;rintro σ H QQ ⟨ρ,Q,fr,h,k⟩;refine⟨ρ,_,fr,h,λx T H1 ρ1 s1 v1 q1=>⟨ρ1,_,s1.fr,q1,λl H2 ρ2 s2 q2=>⟨ρ2,_,s2.fr,q2,λu H3 ρ3 s3 q3=>?_⟩⟩⟩;exact hr x T l u H3 _ _ ((v1.hs (s2.hs s1.fr)).hs (s3.hs s2.fr)) q3 λz W H' rw q=>rw.fin s3.fr λH'' s4 v4=>k _ _ _ _ ((s1.trans s2).trans (s3.trans s4)) v4 q
end
structure az where
 nx:aW->Prop
 rt:Tv->Prop
 bk:aW->Prop:=λ_=>False
 ct:aW->Prop:=λ_=>False
abbrev de:=az->aW->Prop
def nF(K:W.Frag)(F:Fm)(u:de):TS:=λD σ H=>∃ρ P,au K F ρ σ H/\u P ρ/\(∀σ' H' ρ',au K F ρ' σ' H'->HS H H'->P.nx ρ'->D.nx σ' H')/\(∀x T H',Kp F.dk F.H0 H'->VA K H' x T->P.rt T->D.rt x H') /\
 (∀σ' H' ρ',au K F ρ' σ' H'->HS H H'->P.bk ρ'->D.bk σ' H')/\∀σ' H' ρ',au K F ρ' σ' H'->HS H H'->P.ct ρ'->D.ct σ' H'
structure US (X:Cx) (F:Fm) (st:Stmt) (u:de):Prop where
 ps:PS X st (nF X.K F u)
structure oz (X:Cx) (F:Fm) (st:List Stmt) (u:de):Prop where
 ps:gz X st (nF X.K F u)
def PS.imp{X:Cx}{st:Stmt}{t t':TS}(h:PS X st t)(i:∀D σ H,t' D σ H->t D σ H):PS X st t':=λQx s σ H D I q=>h Qx s σ H D I (i D σ H q)
def gz.imp{X:Cx}{st:List Stmt}{t t':TS}(h:gz X st t)(i:∀D σ H,t' D σ H->t D σ H):gz X st t':=λQx s σ H D I q=>h Qx s σ H D I (i D σ H q)
section
variable{X:Cx}{F:Fm}{e:Expr}{pos:Pos}{st:Stmt}{rest:List Stmt}{u:UT}
def tT:de:=λP ρ=>P.nx ρ
def tQ(s t:de):de:=λP ρ=>s {P with nx:=λρ'=>t P ρ'} ρ
def bB:oz X F [] tT:=⟨gz.imp xH λD σ H ⟨ρ,P,fr,h,k1,_⟩=>k1 σ H ρ fr (HS.refl _) h⟩
def aJ{s:de}(h:US X F st s):oz X F [st] s:=⟨kY h.ps⟩
def aI{s t:de}(h:US X F st s)(hr:oz X F rest t):oz X F (st::rest) (tQ s t):=⟨gz.imp (gQ h.ps hr.ps) λD σ H ⟨ρ,P,fr,h,k1,k2,k3,k4⟩=>by
 refine⟨ρ,_,fr,h,λσ' H' ρ' fr' hs q=>?_,k2,k3,k4⟩;exact⟨ρ',P,fr',q,λσ2 H2 ρ2 f2 h2 q2=>k1 _ _ _ f2 (hs.trans h2) q2,k2,λσ2 H2 ρ2 f2 h2 q2=>k3 _ _ _ f2 (hs.trans h2) q2,λσ2 H2 ρ2 f2 h2 q2=>k4 _ _ _ f2 (hs.trans h2) q2⟩⟩
def tR(u:UT):de:=λP ρ=>u ρ λT _=>P.rt T
def aR(h:UE X F e u):US X F (.Return (some e) pos) (tR u):=⟨PS.imp (lB h.pe) λD σ H ⟨ρ,P,fr,h,_,k2,_⟩=>⟨ρ,_,fr,h,λx T H' ρ' s v q=>k2 x T H' s.fr.kp v q⟩⟩
def yp(t:d6)(s r:de):de:=λP ρ=>t ρ λb ρ1=>if b=true then s P ρ1 else r P ρ1
def bD{c:Expr}{a b:List Stmt}{t:d6}{s r:de}(hc:UB X F c t)(ha:oz X F a s)(hb:oz X F b r):US X F (.If c a b pos) (yp t s r):=⟨PS.imp (yP hc.pt ha.ps hb.ps) λD σ H ⟨ρ,P,fr,h,k1,k2,k3,k4⟩=>by
 refine⟨ρ,_,fr,h,λb H1 ρ1 s1 q1=>?_⟩;have hs:=s1.hs fr;have fin:∀{v:de},v P ρ1->nF X.K F v D σ H1:=λq=>⟨ρ1,P,s1.fr,q,λσ2 H2 ρ2 f2 h2 q2=>k1 _ _ _ f2 (hs.trans h2) q2,k2,λσ2 H2 ρ2 f2 h2 q2=>k3 _ _ _ f2 (hs.trans h2) q2,λσ2 H2 ρ2 f2 h2 q2=>k4 _ _ _ f2 (hs.trans h2) q2⟩
 cases b with
 |true=>exact bZ (fin (by rw[if_pos rfl]at q1;exact q1))
 |false=>exact aQ (fin (by rw[if_neg cn]at q1;exact q1))⟩
def yN(u:UT):de:=λP ρ=>u ρ λ_ ρ1=>P.nx ρ1
def eF(h:UE X F e u)(hs:swapsWith e none pos.line X.env=pure false:=by rfl):US X F (.Expr e pos) (yN u):=⟨PS.imp (B8 h.pe hs) λD σ H ⟨ρ,P,fr,h,k1,_⟩=>⟨ρ,_,fr,h,λx T H' ρ' s v q=>k1 _ _ _ s.fr (s.hs fr) q⟩⟩
def au.set{K:W.Frag}{ρ:aW}{σ:St}{H:Hp}{i:Nat}{s:Sl}{x:V}(fr:au K F ρ σ H)(v:i<ρ.length->yk K F H (some x) s)(na:eJ s=true->∀a,x=.ref a->∀(j:Nat) (t:Sl),ρ[j]?=some t->eJ t=true->fc σ j≠some (.ref a)):au K F (ρ.set i s) (σ.set i (some x)) H:=by
 have ne:∀j,i≠j->fc (σ.set i (some x)) j=fc σ j:=λj z=>by unfold fc;rw[g_ z]
 have self:∀(h:i<ρ.length),fc (σ.set i (some x)) i=some x:=λh=>by unfold fc;rw[gp (by rw[<-fr.len];exact h)];rfl
 have get:∀(j:Nat) (t:Sl),(ρ.set i s)[j]?=some t->(i=j/\i<ρ.length/\t=s)\/(i≠j/\ρ[j]?=some t):=λj t e=>by
  by_cases z:i=j
  ·subst z;have hi:i<ρ.length:=by
    have:=(qx_.mp e).1;rwa[jb]at this
   rw[gp hi]at e;exact .inl ⟨rfl,hi,(Option.some.inj e).symm⟩
  ·rw[g_ z]at e;exact .inr ⟨z,e⟩
 refine⟨fr.d0,fr.kp,by rw[jb,jb];exact fr.len,λj t e=>?_,λj k a t t' e1 e2 m1 m2 q1 q2=>?_⟩
 ·rcases get j t e with⟨rfl,hi,rfl⟩|⟨z,e⟩
  ·rw[self hi];exact v hi
  ·rw[ne j z];exact fr.at_ j t e
 ·rcases get j t e1 with⟨rfl,hi,rfl⟩|⟨z1,e1⟩
  ·rcases get k t' e2 with⟨rfl,_,rfl⟩|⟨z2,e2⟩
   ·rfl
   ·rw[self hi]at q1;rw[ne k z2]at q2;exact absurd q2 (na m1 a (Option.some.inj q1) k t' e2 m2)
  ·rcases get k t' e2 with⟨rfl,hi,rfl⟩|⟨z2,e2⟩
   ·rw[self hi]at q2;rw[ne j z1]at q1;exact absurd q1 (na m2 a (Option.some.inj q2) j t (by first|exact e1|assumption) m1)
   ·rw[ne j z1]at q1;rw[ne k z2]at q2;exact fr.ap j k a t t' e1 e2 m1 m2 q1 q2
def tP(i:Nat)(u:UT):de:=λP ρ=>u ρ λT ρ1=>P.nx (ρ1.set i (.va T))
def J_{i:Nat}{x:Str}{pos':Pos}(hN:X.N.Nodup)(hi:X.N[i]?=some x)(hx:ma X.env.scope x)(he:UE X F e u)(hs:swapsWith e (some (.Name x pos')) pos.line X.env=pure false:=by rfl)(hf:X.fn x=true\/X.env.scope.names.lookup x=some .local:=by first|exact .inl rfl|exact .inr rfl|assumption):
  US X F (.Assign [.Name x pos'] e pos) (tP i u):=⟨PS.imp (kF hN hi hx he.pe hs hf) λD σ H ⟨ρ,P,fr,h,k1,_⟩=>by
 refine⟨ρ,_,fr,h,λx T H' ρ' s v q=>?_⟩;exact k1 _ _ _ (s.fr.set (s:=.va T) (λ_=>⟨x,rfl,v⟩) (λz=>absurd z cn)) (s.hs fr) q⟩
def tS(i:Nat)(u:d3):de:=λP ρ=>u ρ λTs ρ1=>P.nx (ρ1.set i (.own Ts))
def C1{i:Nat}{u:d3}{t:TE}(ht:∀σ H QQ,pJ X.K F u σ H QQ->t σ H QQ)(D:lY)(σ:St)(H:Hp)(h:nF X.K F (tS i u) D σ H):tN t (tJ i) D σ H:=by
 obtain⟨ρ,P,fr,h,k1,_⟩:=h;refine ht σ H _ ⟨ρ,_,fr,h,λa xs Ts H' ρ' s n e z p q=>?_⟩;exact k1 _ _ _ (s.fr.set (s:=.own Ts) (λ_=>⟨a,xs,rfl,e,fr.none0 n,z,p⟩) (λ_ b eb j t ej mj qj=>by cases eb;exact s.notown fr n j t ej mj qj)) (s.hs fr) q
def J8{i:Nat}{x:Str}{u:d3}{pos':Pos}(hN:X.N.Nodup)(hi:X.N[i]?=some x)(hx:ma X.env.scope x)(he:UL X F e u)(hs:swapsWith e (some (.Name x pos')) pos.line X.env=pure false:=by rfl)(hf:X.fn x=true\/X.env.scope.names.lookup x=some .local:=by first|exact .inl rfl|exact .inr rfl|assumption):
  US X F (.Assign [.Name x pos'] e pos) (tS i u):=⟨PS.imp (kF hN hi hx he.pe hs hf) (C1 λ_ _ _ h=>h)⟩
end
def Fs:Ar->Sl
 |.va T=>.va T
 |.dk=>.dk
def kE(n:Nat)(as:List Ar):aW:=as.map Fs++List.replicate (n-as.length) .no
def Dt{K:W.Frag}{H:Hp}{dk:Option (Addr×Addr)}{N:List Str}{vs:List V}{as:List Ar}(hd:∀p c,dk=some (p,c)->bo H p c)(p:Paired (qH K dk H) vs as):au K ⟨H,dk⟩ (kE N.length as) (eG N vs) H:=by
 have l:vs.length=as.length:=Paired.length p;refine⟨hd,⟨λ_ _ e _=>e,hd⟩,?_,λi s e=>?_,λi j a s t e _ m _ _ _=>?_⟩
 ·unfold kE eG;rw[b7,b7,ak,ak,my,my,l]
 ·unfold kE at e;by_cases hi:i<as.length
  ·rw[j9 (by simpa using hi),fo]at e;obtain⟨r,er,rfl⟩:=qd1_.mp e;have hv:i<vs.length:=by omega
   obtain⟨r',er',h⟩:=fE p (b6 hv);rw[er]at er';cases er';have ex:fc (eG N vs) i=some vs[i]:=by
    refine Ji ?_;unfold eG;rw[j9 (by simpa using hv),fo,b6 hv];rfl
   rw[ex];cases r with
   |va T=>exact⟨_,rfl,h⟩
   |dk=>obtain⟨p,c,e1,e2⟩:=h;exact⟨p,c,e1,by rw[e2]⟩
  ·rw[j_ (by simpa using hi),mz]at e;split at e
   ·cases e;trivial
   ·cases e
 ·unfold kE at e;by_cases hi:i<as.length
  ·rw[j9 (by simpa using hi),fo]at e;obtain⟨r,er,rfl⟩:=qd1_.mp e;cases r<;>cases m
  ·rw[j_ (by simpa using hi),mz]at e;split at e
   ·cases e;cases m
   ·cases e
def ao.pgood{P:Program}{w:World}{K:W.Frag}{mg:Str->Option Value}{base:Heap}{x:Str}{st:Stmt}{N ps:List Str}{k:Nat}{psp:bt}{us:de}(h:ao K mg x st)(S:bF N ps (aN st))
  (hb:∀(kV doc pm:Value) (an:Option Addr) (Qy ct:Value) (us:List Value),us.length=ps.length->bindArgs (W.fnOf x x (gW st) (eS st) (aN st) .none kV doc pm an Qy ct) ⟨us,[]⟩=pure (ps.zip us))
  (QH:∀(f:Addr) (Qy:Value) (A:Around) (outer:List Env) (s:Shared) (H:Hp) (E:XK) (F:Fm),bx k (A.deeper (envOfC x (aN st) s.heap.objs.size f Qy))->oz (jV o6 P w K mg base N x (aN st) f Qy A outer s H E).nox F (eS st) us)
  (hp:∀as R,psp as R->as.length=ps.length/\us {nx:=λ_=>R nT,rt:=R} (kE N.length as)):ae P w K mg base (k+1) x ps psp:=by
 refine h.good S hb (λvs H Q E q=>?_) (λf Qy A outer s H vs Q E hr q=>?_)
 ·obtain⟨dk,as,R,d,p,q,_⟩:=q;rw[Paired.length p];exact(hp as R q).1
 ·obtain⟨dk,as,R,d,p,q,k⟩:=q;refine⟨_,(QH f Qy A outer s H E ⟨H,dk⟩ hr).ps,kE N.length as,_,Dt d p,(hp as R q).2,λσ' H' ρ' fr _ q=>k _ _ _ fr.kp (.flat rfl) q,λx T H' kp v q=>k x T H' kp v q,λ_ _ _ _ _ z=>z,λ_ _ _ _ _ z=>z⟩
def kQ(K:W.Frag)(J:It)(H:Hp)(Ts:List Tv):Prop:=∀H1,HS H H1->(∀i,i<Ts.length->J.go i H1)/\(∀i x H2,i<Ts.length->J.yld i H1 x H2->ay H1 H2/\∃T,Ts[i]?=some T/\VA K H2 x T)/\J.stop Ts.length H1
def Bm(K:W.Frag)(F:Fm)(u:d3):TI:=λσ H R=>∃ρ Q,au K F ρ σ H/\u ρ Q/\∀J Ts H' ρ',bh K F σ ρ H ρ' H'->kQ K J H' Ts->Q Ts ρ'->R J H'
structure UI (X:Cx) (F:Fm) (tg e:Expr) (u:d3):Prop where
 pi:PI X tg e (Bm X.K F u)
def PI.imp{X:Cx}{tg e:Expr}{t t':TI}(h:PI X tg e t)(i:∀σ H Q,t' σ H Q->t σ H Q):PI X tg e t':=λQx s σ H Q I q=>h Qx s σ H Q I (i σ H Q q)
def qy(X:Cx)(tg:Expr)(r:V->Hp->(It->Hp->Prop)->Prop):Prop:=∀(Qx:List (Addr×Obj)) (s:Shared) (σ:St) (H:Hp) (x:V) (v:Value) (R:It->Hp->Prop),ag X Qx σ H s->ah x v->r x H R->wpAny (model X.prog X.w) X.A (pyIter v) (yd X Qx σ tg R) X.xe s
section
variable{X:Cx}{F:Fm}{tg e:Expr}
def qy.or{r r':V->Hp->(It->Hp->Prop)->Prop}(h:qy X tg r)(h':qy X tg r'):qy X tg (λx H R=>r x H R\/r' x H R):=λQx s σ H x v R I rx q=>by
 rcases q with q|q
 ·exact h Qx s σ H x v R I rx q
 ·exact h' Qx s σ H x v R I rx q
def pF{Qx:List (Addr×Obj)}{σ:St}{H:Hp}{s:Shared}(I:ag X Qx σ H s):∀b∈[s.heap.objs.size],fM X Qx H b:=λb hb=>by
 rw[qB_.mp hb];exact I.fpOk (ba _) (I.hok.fresh (ba _))
def it_list:qy X tg (λx H R=>∃a xs,x=.ref a/\bu X.K H a xs/\R (y8 X.K a) H):=by
 rintro Qx s σ H _ v R I r ⟨a,xs,rfl,hq,q⟩;cases r;obtain⟨its,rv,p,hz⟩:=I.list hq;exact wpAny_pyIter_list p.isList ⟨_,[s.heap.objs.size],_,_,H,rfl,I.kept (t':=s.toks) λb o=>bc _,OG a _,⟨_,cf _ rfl,rfl,rfl⟩,pF I,q⟩
def it_tup:qy X tg (λx H R=>∃a xs,x=.ref a/\cq X.K H a xs/\R (y6 X.K a) H):=by
 rintro Qx s σ H _ v R I r ⟨a,xs,rfl,hq,q⟩;cases r;obtain⟨its,rv,p,hz⟩:=I.tuple hq;exact wpAny_pyIter_tuple (show s.heap.IsTuple a its.toArray from p) ⟨_,[s.heap.objs.size],_,_,H,rfl,I.kept (t':=s.toks) λb o=>bc _,NQ a _,⟨_,cf _ rfl,rfl,rfl⟩,pF I,q⟩
def it_str:qy X tg (λx H R=>∃z,x=.str z/\R (vn z) H):=by
 rintro Qx s σ H _ v R I r ⟨z,rfl,q⟩;obtain⟨t,rfl⟩:=r;cases ha:z.cps.all (· < 128) with
 |true=>exact wpAny_pyIter_ascii ha ⟨_,[s.heap.objs.size],_,_,H,rfl,I.kept (t':=s.toks) λb o=>bc _,OH _ z t,⟨_,cf _ rfl,rfl,rfl⟩,pF I,q⟩
 |false=>exact wpAny_pyIter_wide ha ⟨_,[s.heap.objs.size],_,_,H,rfl,I.kept (t':=s.toks) λb o=>bc _,OI _ z t,⟨_,cf _ rfl,rfl,rfl⟩,pF I,q⟩
def JI:qy X tg (λx H R=>∃a ob kvs,x=.ref a/\nj H a ob kvs/\R (y9 a ob kvs) H):=by
 rintro Qx s σ H _ v R I r ⟨a,ob,kvs,rfl,hz,q⟩;cases r;obtain⟨e,hs,hl,vs,es,ep,r,dd,hd⟩:=kD I hz;exact wpAny_pyIter_dict hs dd ⟨_,[s.heap.objs.size],_,_,H,rfl,I.kept (t':=s.toks) λb o=>bc _,OF (a:=a) (ob:=ob) (kvs:=kvs) hd,⟨_,cf _ rfl,rfl,by rw[<-lD r];rfl⟩,pF I,q⟩
def Ey:Tv->(List Tv->Prop)->Prop
 |.seq _ Ts,Q=>Q Ts
 |.leaf (.str z),Q=>Q (z.cps.toList.map λc=>sT ⟨#[c]⟩)
 |.dct kts,Q=>Q (kts.map λkt=>sT kt.1)
 |_,_=>False
def cS{K:W.Frag}{H:Hp}{a:Addr}{xs:List V}(h:a_ K H false a xs):bu K H a xs:=by
 obtain⟨ob,h⟩:=h;exact .inl (.inr ⟨ob,h⟩)
def JH{K:W.Frag}{H:Hp}{a:Addr}{xs:List V}{Ts:List Tv}(h:a_ K H false a xs)(p:cp K H xs Ts):kQ K (y8 K a) H Ts:=λH1 hs=>by
 have l:xs.length=Ts.length:=Paired.length p;have q:=cS (h.hs hs);refine⟨λi hi=>⟨xs,xs[i]'(by omega),q,b6 _⟩,λi x H2 hi ⟨e,y⟩=>?_,⟨xs,q,by omega⟩⟩;subst e;obtain⟨T,eT,v⟩:=fE (p.hs hs) (y xs q);exact⟨ay.refl _,T,eT,v⟩
def Jf{K:W.Frag}{H:Hp}{a:Addr}{xs:List V}{Ts:List Tv}(h:a_ K H true a xs)(p:cp K H xs Ts):kQ K (y6 K a) H Ts:=λH1 hs=>by
 have l:xs.length=Ts.length:=Paired.length p;have q:cq K H1 a xs:=h.hs hs;refine⟨λi hi=>⟨xs,xs[i]'(by omega),q,b6 _⟩,λi x H2 hi ⟨e,y⟩=>?_,⟨xs,q,by omega⟩⟩;subst e;obtain⟨T,eT,v⟩:=fE (p.hs hs) (y xs q);exact⟨ay.refl _,T,eT,v⟩
def Je{K:W.Frag}{H:Hp}{z:Str}:kQ K (vn z) H (z.cps.toList.map λc=>sT ⟨#[c]⟩):=λH1 hs=>by
 refine⟨λi hi=>(show i<z.cps.size by simpa using hi),λi x H2 hi ⟨e,c,ec,ex⟩=>?_,by simp[vn]⟩;subst e ex;refine⟨ay.refl _,sT ⟨#[c]⟩,?_,.flat rfl⟩;rw[fo,fw,ec];rfl
def JG{K:W.Frag}{H:Hp}{a:Addr}{ob:Obj}{kvs:List (av×V)}{kts:List (Str×Tv)}(h:nj H a ob kvs)(p:f_ K H kvs kts):kQ K (y9 a ob kvs) H (kts.map λkt=>sT kt.1):=λH1 hs=>by
 have l:kvs.length=kts.length:=Paired.length p;have q:nj H1 a ob kvs:=hs _ _ rfl h;refine⟨λi hi=>⟨q,by rw[ak]at hi;omega⟩,λi x H2 hi ⟨e,k,v,ek,ex⟩=>?_,⟨q,by rw[ak];omega⟩⟩;subst e ex;obtain⟨kt,ekt,e1,_⟩:=fE p ek;refine⟨ay.refl _,sT kt.1,by rw[fo,ekt];rfl,?_⟩;have e1:k=.inr kt.1:=e1;rw[e1];exact .flat rfl
def Pi(u:UT):d3:=λρ Q=>u ρ λT ρ1=>Ey T λTs=>Q Ts ρ1
def bU{u:UT}(h:UE X F e u):UI X F tg e (Pi u):=⟨λQx s σ H R I ⟨ρ,Q,fr,hu,k⟩=>by
 have IT:qy X tg _:=it_list.or (it_tup.or (it_str.or JI));refine bf (h.pe Qx s σ H (λx H1=>_) I ⟨ρ,_,fr,hu,λx T H' ρ' s v q=>?_⟩) λv s1 ⟨x,H1,I1,r1,q1⟩=>IT Qx s1 σ H1 x v R I1 r1 q1
 unfold Ey at q;split at q
 ·rename_i t Ts;obtain⟨a,xs,rfl,hs,z,p⟩:=v.seqI;cases t with
  |false=>exact .inl ⟨a,xs,rfl,cS hs,k _ _ _ _ s (JH hs p) q⟩
  |true=>exact .inr (.inl ⟨a,xs,rfl,hs,k _ _ _ _ s (Jf hs p) q⟩)
 ·obtain⟨rfl,_⟩:=v.leafI;exact .inr (.inr (.inl ⟨_,rfl,k _ _ _ _ s Je q⟩))
 ·obtain⟨a,kvs,rfl,⟨ob,hd⟩,n,z,p⟩:=v.dctI;exact .inr (.inr (.inr ⟨a,ob,kvs,rfl,hd,k _ _ _ _ s (JG hd p) q⟩))
 ·exact False.elim q⟩
def jQ(lo:Int)(n:Nat):List Tv:=(List.range n).map λ(i:Nat)=>iT (lo+i)
def iF(lo:Int)(n:Nat):(jQ lo n).length=n:=by simp[jQ]
def oI{lo:Int}{n i:Nat}{T:Tv}(h:(jQ lo n)[i]?=some T):i<n/\T=iT (lo+i):=by
 have l:=(qx_.mp h).1;rw[iF]at l;refine⟨l,?_⟩;simp only[jQ,fo,r8 l]at h;exact(Option.some.inj h).symm
def L8{K:W.Frag}{H:Hp}{lo:Int}{n:Nat}:kQ K (ye lo n) H (jQ lo n):=λH1 hs=>by
 have l:(jQ lo n).length=n:=by simp[jQ]
 refine⟨λi hi=>by rw[l]at hi;exact hi,λi x H2 hi ⟨e,ex⟩=>?_,by rw[l];exact ba _⟩;subst e ex;rw[l]at hi;exact⟨ay.refl _,iT (lo+i),by simp[jQ,hi],.flat rfl⟩
def GV(ua:dw):d3:=λρ Q=>pj ua ρ λTs ρ1=>∃j:Int,Ts=[iT j] /\ -(2 ^ 62)<=j/\j<2 ^ 62/\Q (jQ 0 j.toNat) ρ1
def iY{a:Expr}{ua:dw}{p pos:Pos}(hg:Gl X "range")(hm:X.mg "range"=none)(ha:UA X F [a] ua)(hs:starEach [a] X.env=[(false,eval a X.env)]:=by rfl):UI X F tg (.Call (.Name "range" p) [a] [] pos) (GV ua):=⟨PI.imp (MQ hg hm ha.pa hs) λσ H R ⟨ρ,Q,fr,hu,k⟩=>by
 refine⟨ρ,_,fr,hu,λxs as H1 ρ1 s1 p1 q1=>?_⟩;obtain⟨Ts,rfl,j,rfl,h1,h2,q⟩:=iK q1;cases iL p1 with
 |cons v t=>
  cases t;obtain⟨rfl,_⟩:=v.leafI;exact⟨j,rfl,h1,h2,k _ _ _ _ s1 L8 q⟩⟩
def Jg{K:W.Frag}{H:Hp}{t:Bool}{a b:Addr}{xs ys:List V}{Ts Us:List Tv}(h:a_ K H t a xs)(p:cp K H xs Ts)(h':a_ K H t b ys)(p':cp K H ys Us):kQ K (y4 t K a b) H (List.zipWith (λT U=>.seq true [T,U]) Ts Us):=λH1 hs=>by
 have l:xs.length=Ts.length:=Paired.length p;have l':ys.length=Us.length:=Paired.length p';have sq:∀{c:Addr} {zs:List V},a_ K H t c zs->m9 t K H1 c zs:=λ{c zs} h=>by
  have h:=h.hs hs;cases t with
  |false=>exact cS h
  |true=>exact h
 have q:=sq h;have q':=sq h';refine⟨λi hi=>?_,λi x H2 hi ⟨c,y,z,ex,nc,e,hy,hz⟩=>?_,⟨xs,ys,q,q',by rw[List.length_zipWith];omega⟩⟩
 ·rw[List.length_zipWith]at hi;exact⟨xs,ys,xs[i]'(by omega),ys[i]'(by omega),q,q',b6 _,b6 _⟩
 ·subst e ex;obtain⟨T,eT,v⟩:=fE (p.hs hs) (hy xs q);obtain⟨U,eU,v'⟩:=fE (p'.hs hs) (hz ys q');refine⟨cB nc,.seq true [T,U],by rw[List.getElem?_zipWith,eT,eU],VA.seq (t:=true) (cq.of bE) (show 2<=100000 by decide) (.cons (v.hs (hC nc)) (.cons (v'.hs (hC nc)) .nil))⟩
def FT(ua:dw):d3:=λρ Q=>pj ua ρ λTs ρ1=>∃t As Bs,Ts=[.seq t As,.seq t Bs]/\Q (List.zipWith (λT U=>.seq true [T,U]) As Bs) ρ1
def J4{a b:Expr}{ua:dw}{es:List Expr}{ek:Nat}{p pos pos':Pos}(hg:Gl X "zip")(hm:X.mg "zip"=none)(ha:UA X F [a,b] ua)(hs:starEach [a,b] X.env=[(false,eval a X.env),(false,eval b X.env)]:=by rfl)(hs2:starEach [b] X.env=[(false,eval b X.env)]:=by rfl):
  UI X F (.Tuple es ek pos') (.Call (.Name "zip" p) [a,b] [] pos) (FT ua):=⟨PI.imp (H_ hg hm ha.pa hs hs2) λσ H R ⟨ρ,Q,fr,hu,k⟩=>by
 refine⟨ρ,_,fr,hu,λxs as H1 ρ1 s1 p1 q1=>?_⟩;obtain⟨Ts,rfl,t,As,Bs,rfl,q⟩:=iK q1;have sq:∀{c:Addr} {zs:List V},a_ X.K H1 t c zs->m9 t X.K H1 c zs:=λ{c zs} h=>by
  cases t with
  |false=>exact cS h
  |true=>exact h
 cases iL p1 with
 |cons v r=>
  cases r with
  |cons v' r=>
   cases r;obtain⟨a,xs,rfl,hq,z,p⟩:=v.seqI;obtain⟨b,ys,rfl,hq',z',p'⟩:=v'.seqI;exact⟨t,a,b,rfl,⟨xs,sq hq⟩,⟨ys,sq hq'⟩,k _ _ _ _ s1 (Jg hq p hq' p') q⟩⟩
end
abbrev UG:=Tv->aW->(aW->Prop)->Prop
abbrev rh:=List Tv->aW->(aW->Prop)->Prop
def Bl(K:W.Frag)(F:Fm)(m:Nat)(g:UG):TG:=λv σ H QQ=>∃T ρ Q,VA K H v T/\au K F ρ σ H/\g T ρ Q/\∀σ' ρ',au K F ρ' σ' H->σ'.length=σ.length->σ'.drop m=σ.drop m->ρ'.drop m=ρ.drop m->kc ρ' ρ->Q ρ'->QQ σ' H
def ID(K:W.Frag)(F:Fm)(m:Nat)(g:rh):qx:=λvs σ H QQ=>∃Ts ρ Q,cp K H vs Ts/\au K F ρ σ H/\g Ts ρ Q/\∀σ' ρ',au K F ρ' σ' H->σ'.length=σ.length->σ'.drop m=σ.drop m->ρ'.drop m=ρ.drop m->kc ρ' ρ->Q ρ'->QQ σ' H
structure t4 (X:Cx) (F:Fm) (m:Nat) (tg:Expr) (g:UG):Prop where
 pg:PG X tg (Bl X.K F m g)
structure uP (X:Cx) (F:Fm) (m:Nat) (tgs:List Expr) (g:rh):Prop where
 pg:pd X tgs (ID X.K F m g)
def PG.imp{X:Cx}{tg:Expr}{t t':TG}(h:PG X tg t)(i:∀v σ H Q,t' v σ H Q->t v σ H Q):PG X tg t':=λQx s σ H v u Q I r q=>h Qx s σ H v u Q I r (i v σ H Q q)
def pd.imp{X:Cx}{tg:List Expr}{t t':qx}(h:pd X tg t)(i:∀v σ H Q,t' v σ H Q->t v σ H Q):pd X tg t':=λQx s σ H v u Q I r q=>h Qx s σ H v u Q I r (i v σ H Q q)
section
variable{X:Cx}{F:Fm}{pos:Pos}{m:Nat}
def gN(i:Nat):UG:=λT ρ Q=>Q (ρ.set i (.va T))
def drop_set{α:Type}{l:List α}{i m:Nat}{x:α}(h:i<m):(l.set i x).drop m=l.drop m:=by
 rw[List.drop_set,if_pos h]
def Ll{ρ:aW}{i:Nat}{T:Tv}:kc (ρ.set i (.va T)) ρ:=λj s e mm=>by
 by_cases z:i=j
 ·subst z;have hi:i<ρ.length:=by
   have:=(qx_.mp e).1;rwa[jb]at this
  rw[gp hi]at e;cases e;cases mm
 ·rw[g_ z]at e;exact⟨s,e,mm⟩
def dB(i:Nat){x:Str}(hm:i<m)(hN:X.N.Nodup)(hi:X.N[i]?=some x)(hx:ma X.env.scope x)(hf:X.fn x=true\/X.env.scope.names.lookup x=some .local:=by first|exact .inl rfl|exact .inr rfl|assumption):t4 X F m (.Name x pos) (gN i):=⟨PG.imp (K4 hN hi hx hf) λv σ H QQ ⟨T,ρ,Q,vv,fr,h,k⟩=>
 k _ _ (fr.set (s:=.va T) (λ_=>⟨v,rfl,vv⟩) (λz=>absurd z cn)) jb (drop_set hm) (drop_set hm) Ll h⟩
def gT(n:Nat)(g:rh):UG:=λT ρ Q=>∃Ts,T=.seq true Ts/\Ts.length=n/\g Ts ρ Q
def PC:rh:=λTs ρ Q=>Ts=[]/\Q ρ
def PD(g:UG)(gs:rh):rh:=λTs ρ Q=>∃T r,Ts=T::r/\g T ρ λρ1=>gs r ρ1 Q
def KC:uP X F m [] PC:=⟨pd.imp K5 λvs σ H QQ ⟨Ts,ρ,Q,vv,fr,⟨e,h⟩,k⟩=>by
 subst e;cases vv;exact⟨rfl,k _ _ fr rfl rfl rfl (kc.refl _) h⟩⟩
def Dn{e:Expr}{es:List Expr}{g:UG}{gs:rh}(h1:t4 X F m e g)(h2:uP X F m es gs)(hs:(assignEach (e::es) X.env).map (·.2)=assign e X.env::(assignEach es X.env).map (·.2):=by rfl):uP X F m (e::es) (PD g gs):=⟨pd.imp (Lz h1.pg h2.pg hs) λvs σ H QQ ⟨Ts,ρ,Q,vv,fr,⟨T,r,e,h⟩,k⟩=>by
 subst e;cases vv with
 |cons v vs'=>
  refine⟨_,_,rfl,T,ρ,_,v,fr,h,λσ' ρ' f' l d dr sb q=>⟨r,ρ',Q,vs',f',q,λσ2 ρ2 f2 l2 d2 dr2 sb2 q2=>?_⟩⟩;exact k _ _ f2 (l2.trans l) (d2.trans d) (dr2.trans dr) (sb.trans sb2) q2⟩
def J3{es:List Expr}{k:Nat}{g:rh}(n:Nat)(hc:X.calm=true)(h:uP X F m es g)(hn:(assignEach es X.env).length=n:=by rfl)(hst:(assignEach es X.env).findIdx? (·.1)=none:=by rfl):t4 X F m (.Tuple es k pos) (gT n g):=⟨PG.imp (HY hc h.pg hn hst) λv σ H QQ ⟨T,ρ,Q,vv,fr,⟨Ts,e,el,h⟩,k⟩=>by
 subst e;obtain⟨a,xs,rfl,hq,z,p⟩:=vv.seqI;exact⟨a,xs,rfl,hq,(Paired.length p).trans el,Ts,ρ,Q,p,fr,h,k⟩⟩
end
def qv(own:Nat)(fr:List Nat)(ρ:aW):aW:=List.replicate own .no++fr.map λi=>ρ.getD i .no
def oP:List Nat->List Sl->aW->aW
 |i::fr,s::ss,ρ=>oP fr ss (ρ.set i s)
 |_,_,ρ=>ρ
def qw(own:Nat)(fr:List Nat)(ρ ρ':aW):aW:=oP fr (ρ'.drop own) ρ
def gI(own:Nat)(fr:List Nat)(g:UG)(tf:d6)(ue:UT):List Tv->aW->(List Tv->aW->Prop)->Prop
 |[],ρ,Q=>Q [] ρ
 |T::Ts,ρ,Q=>g T (qv own fr ρ) λρ1=>tf ρ1 λb ρ2=>if b=true then ue ρ2 λU ρ3=>gI own fr g tf ue Ts (qw own fr ρ ρ3) λUs ρ4=>Q (U::Us) ρ4 else gI own fr g tf ue Ts (qw own fr ρ ρ2) Q
def lF(own:Nat)(fr:List Nat)(ui:d3)(g:UG)(tf:d6)(ue:UT):d3:=λρ Q=>ui ρ λTs ρ1=>Ts.length<=100000/\gI own fr g tf ue Ts ρ1 Q
def DG:∀(fr:List Nat) (ss:List Sl) (ρ:aW),(oP fr ss ρ).length=ρ.length
 |[],_,_=>rfl
 |_::_,[],_=>rfl
 |i::fr,s::ss,ρ=>by show(oP fr ss _).length=_;rw[DG fr ss,jb]
def uX:∀(fr:List Nat) (ss:List Sl) (ρ:aW) (i:Nat) (s:Sl),fr.length<=ss.length->(oP fr ss ρ)[i]?=some s->(∃j:Nat,fr[j]?=some i/\ss[j]?=some s)\/(i∉fr/\ρ[i]?=some s)
 |[],_,_,i,s,_,h=>.inr ⟨by simp,h⟩
 |_::_,[],_,_,_,l,_=>by simp at l
 |i0::fr,s0::ss,ρ,i,s,l,h=>by
  rcases uX fr ss (ρ.set i0 s0) i s (by simpa using l) h with⟨j,e1,e2⟩|⟨n,e⟩
  ·exact .inl ⟨j+1,by simpa using e1,by simpa using e2⟩
  ·by_cases z:i0=i
   ·subst z;have hi:i0<ρ.length:=by
     have:=(qx_.mp e).1;rwa[jb]at this
    rw[gp hi]at e;exact .inl ⟨0,rfl,by simpa using e⟩
   ·rw[g_ z]at e;exact .inr ⟨by simp[n,Ne.symm z],e⟩
def rA{own:Nat}{fr:List Nat}{σ ow:St}(ho:ow.length=own){j i:Nat}(h:fr[j]?=some i):fc (ow++σf fr σ) (own+j)=fc σ i:=by
 unfold fc σf;rw[j_ (by omega),show own+j-ow.length=j by omega,fo,h];show(some (σ.getD i none)).join=_;rw[kg];cases σ[i]? with
 |none=>rfl
 |some o=>rfl
section
variable{K:W.Frag}{F:Fm}{ρ ρ4 ρ6:aW}{σ ow:St}{H H6:Hp}{own:Nat}{fr:List Nat}
def mS{i:Nat}{s:Sl}(h:(qv own fr ρ)[i]?=some s):(i<own/\s=.no)\/∃j k,i=own+j/\fr[j]?=some k/\s=ρ.getD k .no:=by
 unfold qv at h;by_cases hi:i<own
 ·rw[j9 (by simpa using hi),mz,if_pos hi]at h;exact .inl ⟨hi,(Option.some.inj h).symm⟩
 ·rw[j_ (by simpa using hi),my,fo]at h;obtain⟨k,e,rfl⟩:=qd1_.mp h;exact .inr ⟨i-own,k,by omega,e,rfl⟩
def mK{k:Nat}{s:Sl}(e:s=ρ.getD k .no)(m:s≠.no):ρ[k]?=some s:=by
 rw[kg]at e;cases q:ρ[k]? with
 |none=>rw[q]at e;exact absurd e m
 |some t=>rw[q]at e;rw[e];rfl
def au.pick(f:au K F ρ σ H)(nd:fr.Nodup):au K F (qv own fr ρ) (σc own fr σ) H:=by
 have val:∀{j k:Nat},fr[j]?=some k->fc (σc own fr σ) (own+j)=fc σ k:=λh=>rA (my) h
 refine⟨f.d0,f.kp,?_,λi s e=>?_,λi i' a s t e e' m m' q q'=>?_⟩
 ·unfold qv σc σf;simp
 ·rcases mS e with⟨_,rfl⟩|⟨j,k,rfl,ek,es⟩
  ·trivial
  ·rw[val ek];cases s with
   |no=>trivial
   |_=>exact f.at_ k _ (mK es (λz=>by cases z))
 ·rcases mS e with⟨_,rfl⟩|⟨j,k,rfl,ek,es⟩
  ·cases m
  ·rcases mS e' with⟨_,rfl⟩|⟨j',k',rfl,ek',es'⟩
   ·cases m'
   ·rw[val ek]at q;rw[val ek']at q';have:=f.ap k k' a s t (mK es (λz=>by rw[z]at m;cases m)) (mK es' (λz=>by rw[z]at m';cases m')) m m' q q';subst this;have h1:=(qx_.mp ek).1;rw[(List.getElem?_inj h1 nd).mp (ek.trans ek'.symm)]
def bh.back(f:au K F ρ σ H)(nd:fr.Nodup)(s:bh K F (ow++σf fr σ) ρ4 H ρ6 H6)(f4:au K F ρ4 (ow++σf fr σ) H)(ho:ow.length=own)(hd:ρ4.drop own=(qv own fr ρ).drop own)(sb:kc ρ4 (qv own fr ρ)):bh K F σ ρ H (qw own fr ρ ρ6) H6:=by
 -- a slot of the block that is one's own is the def's own
 have dm:∀(i:Nat) (t:Sl) (a:Addr),ρ4[i]?=some t->eJ t=true->fc (ow++σf fr σ) i=some (.ref a)->∃k u,k∈fr/\ρ[k]?=some u/\eJ u=true/\fc σ k=some (.ref a):=λi t a e m q=>by
  obtain⟨u,eu,mu⟩:=sb i t e m;rcases mS eu with⟨_,rfl⟩|⟨j,k,rfl,ek,es⟩
  ·cases mu
  ·exact⟨k,u,gq ek,mK es (λz=>by rw[z]at mu;cases mu),mu,by rw[<-rA ho ek];exact q⟩
 have st:ka F ρ σ H H6:=λb o e d n=>s.st b o e d λi t e1 m q=>by
  obtain⟨k,u,_,eu,mu,qu⟩:=dm i t b e1 m q;exact n k u eu mu qu
 have l6:fr.length<=(ρ6.drop own).length:=by
  have:=s.fr.len;rw[b7]at this;rw[mx,this,ho];unfold σf;rw[ak];omega
 have sub:kc (qw own fr ρ ρ6) ρ:=λi t e m=>by
  rcases uX fr _ ρ i t l6 e with⟨j,ej,et⟩|⟨_,e⟩
  ·rw[k_]at et;obtain⟨u,eu,mu⟩:=s.sub _ t et m;have:(ρ4.drop own)[j]?=some u:=by rw[k_];exact eu
   rw[hd,k_]at this;rcases mS this with⟨z,_⟩|⟨j',k,ejj,ek,es⟩
   ·omega
   ·have:j'=j:=by omega
    subst this;rw[ej]at ek;cases ek;exact⟨u,mK es (λz=>by rw[z]at mu;cases mu),mu⟩
  ·exact⟨t,e,m⟩
 have hs:HS H H6:=s.hs f4;refine⟨⟨f.d0,s.fr.kp,by unfold qw;rw[DG];exact f.len,λi t e=>?_,λi i' a t t' e e' m m' q q'=>?_⟩,st,sub,s.tr⟩
 ·rcases uX fr _ ρ i t l6 e with⟨j,ej,et⟩|⟨ni,e⟩
  ·rw[k_]at et;have:=s.fr.at_ _ t et;rwa[rA ho ej]at this
  ·have h:=f.at_ i t e;have keep:∀a o,eJ t=true->fc σ i=some (.ref a)->H a=some o->H6 a=some o:=λa o m q e1=>s.st a o e1 (f.fresh_nodk (f.own_at e m q).2) λi' t' e2 m2 q2=>by
    obtain⟨k,u,hk,eu,mu,qu⟩:=dm i' t' a e2 m2 q2;have:=f.ap k i a u t eu e mu m qu q;subst this;exact ni hk
   cases t with
   |no=>trivial
   |va T=>obtain⟨y,e1,v⟩:=h;exact⟨y,e1,v.hs hs⟩
   |own Ts=>obtain⟨a,xs,e1,e2,e3,z,p⟩:=h;exact⟨a,xs,e1,keep a _ rfl e1 e2,e3,z,p.hs hs⟩
   |dct kts=>obtain⟨a,kvs,e1,e2,e3,n,z,p⟩:=h;exact⟨a,kvs,e1,keep a _ rfl e1 e2,e3,n,z,p.hs hs⟩
   |dk=>exact h
 ·obtain⟨u,eu,mu⟩:=sub i t e m;obtain⟨u',eu',mu'⟩:=sub i' t' e' m';exact f.ap i i' a u u' eu eu' mu mu' q q'
end
def vR{K:W.Frag}{F:Fm}{own:Nat}{fr:List Nat}{ui:d3}{g:UG}{tf:d6}{ue:UT}(nd:fr.Nodup)(σ:St)(H:Hp)(QQ:VK)(h:pJ K F (lF own fr ui g tf ue) σ H QQ):yL own fr (Bm K F ui) (Bl K F own g) (tI K F tf) (eX K F ue) σ H QQ:=by
 obtain⟨ρ,Q,f,h,k⟩:=h;refine⟨ρ,_,f,h,λJ Ts H1 ρ1 s1 it q1 a na=>?_⟩;obtain⟨len,q1⟩:=q1;refine⟨Ts.length,λi ys H2=>∃Us ρi,bh K F σ ρ1 H1 ρi H2/\cp K H2 ys Us/\Us.length<=i/\gI own fr g tf ue (Ts.drop i) ρi (λVs ρ'=>Q (Us++Vs) ρ'),⟨[],ρ1,bh.same s1.fr (cB na),.nil,ba _,q1⟩,?_⟩;rintro i ys H2 hi ha ⟨Us,ρi,si,p,hl,q⟩;have hs1:=si.hs s1.fr;obtain⟨go,yld,stop⟩:=it H2 hs1;by_cases hlt:i<Ts.length
 ·refine .inr ⟨hlt,go i hlt,λx H3 hy=>?_⟩;obtain⟨sm,T,eT,vx⟩:=yld i x H3 hlt hy;have s3:=si.trans (bh.same si.fr sm);have ha3:=sm _ _ ha;have ed:Ts.drop i=T::Ts.drop (i+1):=by
   rw[qh hlt];congr 1;rw[b6 hlt]at eT;exact Option.some.inj eT
  rw[ed]at q;have nodk:=s1.fr.none_nodk na;have nown:=s3.notown s1.fr na;refine⟨T,qv own fr ρi,_,vx,s3.fr.pick nd,q,λσ4 ρ4 f4 l4 d4 dr4 sb4 q4=>?_⟩;have e4:σ4=σ4.take own++σf fr σ:=by
   have:σ4.drop own=σf fr σ:=by
    rw[d4];unfold σc;rw[List.drop_append_of_le_length (by simp),List.drop_of_length_le (by simp),gj]
   rw[<-this,qg]
  have lo:(σ4.take own).length=own:=by
   rw[jj,l4];unfold σc;simp
  have notin:∀(j:Nat) (t:Sl),ρ4[j]?=some t->eJ t=true->fc σ4 j≠some (.ref a):=λj t e m z=>by
   obtain⟨u,eu,mu⟩:=sb4 j t e m;rcases mS eu with⟨_,rfl⟩|⟨j',k,rfl,ek,es⟩
   ·cases mu
   ·rw[e4,rA lo ek]at z;exact nown k u (mK es (λz=>by rw[z]at mu;cases mu)) mu z
  refine⟨⟨σ4.take own,lo,e4⟩,ρ4,_,f4,q4,λb H5 ρ5 s5 q5=>?_⟩;have a5:H5 a=some (.lst ys):=s5.st a _ ha3 nodk notin;cases b with
  |true=>
   refine bZ ?_;rw[if_pos rfl]at q5;refine⟨ρ5,_,s5.fr,q5,λy U H6 ρ6 s6 v6 q6=>?_⟩;have s46:=s5.trans s6;have a6:H6 a=some (.lst ys):=s46.st a _ ha3 nodk notin;have lys:ys.length=Us.length:=Paired.length p;refine⟨a6,xJ (by omega),Us++[U],qw own fr ρi ρ6,?_,?_,by rw[b7,lu];omega,?_⟩
   ·rw[e4]at s46 f4;exact(s3.trans (bh.back s3.fr nd s46 f4 lo dr4 sb4)).put s1.fr na a6 rfl _
   ·have h36:=s46.hs f4;exact cp.hs (fR a6 rfl) (Paired.snoc ((p.hs sm.hs).hs h36) v6)
   ·simpa using q6
  |false=>
   refine aQ ?_;rw[if_neg cn]at q5;refine⟨a5,Us,qw own fr ρi ρ5,?_,?_,by omega,q5⟩
   ·rw[e4]at s5 f4;exact s3.trans (bh.back s3.fr nd s5 f4 lo dr4 sb4)
   ·exact(p.hs sm.hs).hs (s5.hs f4)
 ·have e:i=Ts.length:=by omega
  subst e;rw[qf]at q;have q:Q (Us++[]) ρi:=q;rw[jk]at q;exact .inl ⟨stop,k a ys Us H2 ρi (s1.trans si) (s1.non na) ha (by omega) p q⟩
section
variable{X:Cx}{F:Fm}{sc:Scope}{XN N:List Str}{own:Nat}{fr:List Nat}{scope:Scope}{elt tg iter:Expr}{ifs:List Expr}{pos:Pos}{ui:d3}{g:UG}{tf:d6}{ue:UT}
structure UF (X:Cx) (F:Fm) (ifs:List Expr) (u:d6):Prop where
 pf:u0 X ifs (tI X.K F u)
def Aa:d6:=λρ Q=>Q true ρ
def gY:UF X F [] Aa:=⟨λQx s σ H Q I ⟨ρ,Q',f,h,k⟩=>Jd Qx s σ H Q I (k _ _ _ (bh.refl f) h)⟩
def fP{c:Expr}{t:d6}(h:UB X F c t):UF X F [c] t:=⟨HW h.pt⟩
def Bw(hc:X.calm=true)(S:kU sc XN N own fr scope)(nd:fr.Nodup)(hi:UI X F tg iter ui)
  (hg:∀cl C fp s H,t4 (cK X N scope cl C fp s H) F own tg g) (hf:∀cl C fp s H,UF (cK X N scope cl C fp s H) F ifs tf) (he:∀cl C fp s H,UE (cK X N scope cl C fp s H) F elt ue)
  (hs:∀x,foldedSetIterable iter X.env x=pure x:=by intro _;rfl) (hsc:X.env.scope=sc:=by rfl) (hxn:X.N=XN:=by rfl):UL X F (.ListComp elt [⟨tg,iter,ifs,0⟩] scope pos) (lF own fr ui g tf ue):=
 ⟨PE.imp (K2 hc S hi.pi (λcl C fp s H=>(hg cl C fp s H).pg) (λcl C fp s H=>(hf cl C fp s H).pf) (λcl C fp s H=>(he cl C fp s H).pe) hs hsc hxn) (vR nd)⟩
def Bz{i:Nat}{x:Str}{pos' spos:Pos}(hc:X.calm=true)(hN:X.N.Nodup)(hx:X.N[i]?=some x)(hl:ma X.env.scope x)(S:kU sc XN N own fr scope)(nd:fr.Nodup)(hi:UI X F tg iter ui)
  (hg:∀cl C fp s H,t4 (cK X N scope cl C fp s H) F own tg g) (hf:∀cl C fp s H,UF (cK X N scope cl C fp s H) F ifs tf) (he:∀cl C fp s H,UE (cK X N scope cl C fp s H) F elt ue)
  (hsw:swapsWith (.ListComp elt [⟨tg,iter,ifs,0⟩] scope pos) (some (.Name x pos')) spos.line X.env=pure true:=by rfl)
  (hf':X.fn x=true\/X.env.scope.names.lookup x=some .local:=by first|exact .inl rfl|exact .inr rfl|assumption)
  (hs:∀x,foldedSetIterable iter X.env x=pure x:=by intro _;rfl) (hsc:X.env.scope=sc:=by rfl) (hxn:X.N=XN:=by rfl):US X F (.Assign [.Name x pos'] (.ListComp elt [⟨tg,iter,ifs,0⟩] scope pos) spos) (tS i (lF own fr ui g tf ue)):=
 ⟨PS.imp (B9 hc hN hx hl S hi.pi (λcl C fp s H=>(hg cl C fp s H).pg) (λcl C fp s H=>(hf cl C fp s H).pf) (λcl C fp s H=>(he cl C fp s H).pe) hsw hf' hs hsc hxn) (C1 (vR nd))⟩
def PS.fz{st:Stmt}{t:TS}(h:PS X st t):PS X st (λD σ H=>t {D with nx:=λσ' H'=>D.nx σ' H'\/∃a o,H' a=some o/\ig o=true/\∀ob,D.nx σ' (ar H' a (.frz ob o))} σ H):=λQx s σ H D I q=>bf (h Qx s σ H _ I q) λfl s' z=>by
 cases fl with
 |next=>
  obtain⟨σ',H',I',q⟩:=z;rcases q with q|⟨a,o,e,n,q⟩
  ·exact⟨σ',H',I',q⟩
  ·obtain⟨ob,I2⟩:=I'.fz e n;exact⟨σ',_,I2,q ob⟩
 |brk=>exact z
 |cont=>exact z
 |ret u=>exact z
def KG{i:Nat}{x:Str}{pos' spos:Pos}(hc:X.calm=true)(hN:X.N.Nodup)(hx:X.N[i]?=some x)(hl:ma X.env.scope x)(S:kU sc XN N own fr scope)(nd:fr.Nodup)(hi:UI X F tg iter ui)
  (hg:∀cl C fp s H,t4 (cK X N scope cl C fp s H) F own tg g) (hf:∀cl C fp s H,UF (cK X N scope cl C fp s H) F ifs tf) (he:∀cl C fp s H,UE (cK X N scope cl C fp s H) F elt ue)
  (hsw:swapsWith (.ListComp elt [⟨tg,iter,ifs,0⟩] scope pos) (some (.Name x pos')) spos.line X.env=pure true:=by rfl)
  (hf':X.fn x=true\/X.env.scope.names.lookup x=some .local:=by first|exact .inl rfl|exact .inr rfl|assumption)
  (hs:∀x,foldedSetIterable iter X.env x=pure x:=by intro _;rfl) (hsc:X.env.scope=sc:=by rfl) (hxn:X.N=XN:=by rfl):US X F (.Assign [.Name x pos'] (.ListComp elt [⟨tg,iter,ifs,0⟩] scope pos) spos) (tP i (uL (lF own fr ui g tf ue))):=
 ⟨PS.imp (PS.fz (B9 hc hN hx hl S hi.pi (λcl C fp s H=>(hg cl C fp s H).pg) (λcl C fp s H=>(hf cl C fp s H).pf) (λcl C fp s H=>(he cl C fp s H).pe) hsw hf' hs hsc hxn)) λD σ H ⟨ρ,P,f,h,k1,_⟩=>by
  refine vR nd σ H _ ⟨ρ,_,f,h,λa xs Ts H' ρ' s n e z p q=>?_⟩;refine .inr ⟨a,_,e,rfl,λob=>?_⟩;have s2:=s.put f n e rfl (.frz ob (.lst xs));exact k1 _ _ _ (s2.fr.set (s:=.va (.seq false Ts)) (λ_=>⟨_,rfl,VA.seq (t:=false) ⟨ob,bE⟩ z (p.hs (fR e rfl))⟩) (λz=>absurd z cn)) (s2.hs f) q⟩
def jU(g:UG)(ub:de):List Tv->az->aW->Prop
 |[],P,ρ=>P.nx ρ
 |T::Ts,P,ρ=>g T ρ λρ1=>ub {P with nx:=λρ'=>jU g ub Ts P ρ',ct:=λρ'=>jU g ub Ts P ρ',bk:=P.nx} ρ1
def Gx(ui:d3)(g:UG)(ub:de):de:=λP ρ=>ui ρ λTs ρ1=>jU g ub Ts P ρ1
def dS{body:List Stmt}{ub:de}{m:Nat}(hp:PassesOwn (model X.prog X.w) X.A X.env X.xe)(hc:X.calm=true)(hi:UI X F tg iter ui)(hg:t4 X F m tg g)(hb:oz X F body ub)
  (hs:∀x,foldedSetIterable iter X.env x=pure x:=by intro _;rfl):US X F (.For tg iter body [] pos) (Gx ui g ub):=⟨PS.imp (Ic hp hc hi.pi hg.pg hb.ps hs) λD σ H ⟨ρ,P,f,h,k1,k2,k3,k4⟩=>by
 refine⟨ρ,_,f,h,λJ Ts H1 ρ1 s1 it q1=>?_⟩;have h01:=s1.hs f;refine⟨λi m σ' H'=>m=Ts.length-i/\i<=Ts.length/\HS H1 H'/\∃ρi,au X.K F ρi σ' H'/\jU g ub (Ts.drop i) P ρi,⟨_,rfl,dq _,HS.refl _,ρ1,s1.fr,q1⟩,?_⟩;rintro i m σ' H' ⟨rfl,hi,hs,ρi,fi,q⟩;obtain⟨go,yld,stop⟩:=it H' hs;by_cases hlt:i<Ts.length
 ·refine .inr ⟨go i hlt,λσ2 H2=>HS H1 H2/\∃ρ2,au X.K F ρ2 σ2 H2/\jU g ub (Ts.drop (i+1)) P ρ2,λσ2 H2 ⟨hs2,ρ2,f2,q2⟩=>⟨_,by omega,rfl,hlt,hs2,ρ2,f2,q2⟩,λx H3 hy=>?_⟩;obtain⟨sm,T,eT,vx⟩:=yld i x H3 hlt hy;have ed:Ts.drop i=T::Ts.drop (i+1):=by
   rw[qh hlt];congr 1;rw[b6 hlt]at eT;exact Option.some.inj eT
  rw[ed]at q;have f3:=(bh.same fi sm).fr;refine⟨T,ρi,_,vx,f3,q,λσ4 ρ4 f4 _ _ _ _ q4=>?_⟩;have h13:=hs.trans sm.hs;exact⟨ρ4,_,f4,q4,λσ5 H5 ρ5 f5 hs5 q5=>⟨h13.trans hs5,ρ5,f5,q5⟩,k2,λσ5 H5 ρ5 f5 hs5 q5=>k1 _ _ _ f5 (h01.trans (h13.trans hs5)) q5,λσ5 H5 ρ5 f5 hs5 q5=>⟨h13.trans hs5,ρ5,f5,q5⟩⟩
 ·have e:i=Ts.length:=by omega
  subst e;rw[qf]at q;exact .inl ⟨stop,k1 _ _ _ fi (h01.trans hs) q⟩⟩
def Kh(t:d6)(ub:de):de:=λP ρ=>∃W:Nat->aW->Prop,(∃m,W m ρ)/\∀m ρ,W m ρ->t ρ λb ρ1=>if b=true then ub {P with nx:=λρ'=>∃m',m'<m/\W m' ρ',ct:=λρ'=>∃m',m'<m/\W m' ρ',bk:=P.nx} ρ1 else P.nx ρ1
def oG{c:Expr}{body:List Stmt}{t:d6}{ub:de}(hp:PassesOwn (model X.prog X.w) X.A X.env X.xe)(hc:UB X F c t)(hb:oz X F body ub):US X F (.While c body [] pos) (Kh t ub):=⟨PS.imp (LD hp hc.pt hb.ps) λD σ H ⟨ρ,P,f,⟨W,⟨m0,w0⟩,h⟩,k1,k2,k3,k4⟩=>by
 refine⟨λm σ' H'=>HS H H'/\∃ρ',au X.K F ρ' σ' H'/\W m ρ',⟨m0,HS.refl _,ρ,f,w0⟩,?_⟩;rintro m σ' H' ⟨hs,ρ',f',w⟩;refine⟨ρ',_,f',h m ρ' w,λb H1 ρ1 s1 q1=>?_⟩;have h1:=hs.trans (s1.hs f');cases b with
 |true=>
  rw[if_pos rfl]at q1;refine bZ ⟨λσ2 H2=>HS H H2/\∃m',m'<m/\∃ρ2,au X.K F ρ2 σ2 H2/\W m' ρ2,λσ2 H2 ⟨hs2,m',lt,ρ2,f2,w2⟩=>⟨m',lt,hs2,ρ2,f2,w2⟩,?_⟩;exact⟨ρ1,_,s1.fr,q1,λσ5 H5 ρ5 f5 hs5 ⟨m',lt,w5⟩=>⟨h1.trans hs5,m',lt,ρ5,f5,w5⟩,k2,λσ5 H5 ρ5 f5 hs5 q5=>k1 _ _ _ f5 (h1.trans hs5) q5,λσ5 H5 ρ5 f5 hs5 ⟨m',lt,w5⟩=>⟨h1.trans hs5,m',lt,ρ5,f5,w5⟩⟩
 |false=>
  rw[if_neg cn]at q1;exact aQ (k1 _ _ _ s1.fr h1 q1)⟩
end
section
variable{K:W.Frag}{F:Fm}{ρ:aW}{σ:St}{H:Hp}{i:Nat}{s s':Sl}{a:Addr}{o o':HO}
def au.put(fr:au K F ρ σ H)(e:ρ[i]?=some s)(m:eJ s=true)(q:fc σ i=some (.ref a))(h:H a=some o)(n:ig o=true)(v:HS H (ar H a o')->F.H0 a=none->yk K F (ar H a o') (some (.ref a)) s'):bh K F σ ρ H (ρ.set i s') (ar H a o'):=by
 have hi:i<ρ.length:=(qx_.mp e).1;have h0:=(fr.own_at e m q).2;have hd:=fr.fresh_nodk h0;have hs:HS H (ar H a o'):=fR h (by cases o<;>first|rfl|exact absurd n cn);have st:∀b u,b≠a->H b=some u->ar H a o' b=some u:=λb u z e=>by rw[bP z];exact e
 have get:∀(j:Nat) (t:Sl),(ρ.set i s')[j]?=some t->(i=j/\t=s')\/(i≠j/\ρ[j]?=some t):=λj t e'=>by
  by_cases z:i=j
  ·subst z;rw[gp hi]at e';exact .inl ⟨rfl,(Option.some.inj e').symm⟩
  ·rw[g_ z]at e';exact .inr ⟨z,e'⟩
 have sub:kc (ρ.set i s') ρ:=λj t e' m'=>by
  rcases get j t e' with⟨rfl,rfl⟩|⟨z,e'⟩
  ·exact⟨s,e,m⟩
  ·exact⟨t,e',m'⟩
 refine⟨⟨fr.d0,⟨λb u e1 n1=>st b u (λz=>by rw[z,h0]at e1;cases e1) (fr.kp.st b u e1 n1),λp c d=>?_⟩,by rw[jb];exact fr.len,λj t e'=>?_,λj k b t t' e1 e2 m1 m2 q1 q2=>?_⟩,λb u e1 _ n1=>st b u (λz=>n1 i s e m (by rw[z];exact q)) e1,sub,λb u e1=>if z:b=a then⟨o',z▸bE⟩ else⟨u,st b u z e1⟩⟩
 ·obtain⟨ne,⟨S,k,e1⟩,ns,e2,l⟩:=fr.kp.dkk p c d;exact⟨ne,⟨S,k,st _ _ (hd p c d).1.symm e1⟩,ns,st _ _ (hd p c d).2.symm e2,l⟩
 ·rcases get j t e' with⟨rfl,rfl⟩|⟨z,e'⟩
  ·rw[q];exact v hs h0
  ·have x:=fr.at_ j t e';cases t with
   |no=>trivial
   |va T=>obtain⟨y,e1,v⟩:=x;exact⟨y,e1,v.hs hs⟩
   |own Ts=>obtain⟨b,xs,e1,e2,e3,z',p⟩:=x;exact⟨b,xs,e1,st _ _ (λy=>z (fr.ap i j a s _ e e' m rfl q (by rw[e1,y]))) e2,e3,z',p.hs hs⟩
   |dct kts=>obtain⟨b,kvs,e1,e2,e3,n',z',p⟩:=x;exact⟨b,kvs,e1,st _ _ (λy=>z (fr.ap i j a s _ e e' m rfl q (by rw[e1,y]))) e2,e3,n',z',p.hs hs⟩
   |dk=>exact x
 ·obtain⟨u,eu,mu⟩:=sub j t e1 m1;obtain⟨u',eu',mu'⟩:=sub k t' e2 m2;exact fr.ap j k b u u' eu eu' mu mu' q1 q2
end
section
variable{X:Cx}{F:Fm}{e:Expr}{u:UT}{x:Str}{p QC Qz pos:Pos}
def xA(i:Nat)(u:UT):UT:=λρ Q=>(∃Ts,ρ[i]?=some (.own Ts))/\u ρ λT ρ1=>∃Ts,ρ1[i]?=some (.own Ts)/\Ts.length<100000/\Q nT (ρ1.set i (.own (Ts++[T])))
theorem fF(i:Nat)(h:UE X F e u)(hN:X.N[i]?=some x:=by rfl)(hv:oy X.env.scope x:=by first|exact Or.inl rfl|exact Or.inr (Or.inl rfl)|exact Or.inr (Or.inr rfl))(hd:(x==("__debug__":Str))=false:=by decide)(hcd:(x==("__classdict__":Str))=false:=by decide)
  (QE:attributeBase (.Name x p) "append" X.env (eval (.Name x p) X.env)=eval (.Name x p) X.env:=by rfl)
  (hfew:((backTo Qz (starEach [e] X.env)).all (λx=>!x.1)&&(backToKw Qz (keywordEach [] X.env)).all (λx=>x.1.isSome)&&decide (([e]:List Expr).length+([]:List Keyword).length+(if ([]:List Keyword).isEmpty then 0 else 1)<30))=true:=by rfl)
  (QD:(QC.endLine==Qz.line)=true:=by rfl) (hs:starEach [e] X.env=(false,eval e X.env)::starEach [] X.env:=by rfl) (QF:(backTo Qz (starEach [] X.env)).any (·.1)=false:=by rfl) (hst:dJ e=false:=by rfl):
  UE X F (.Call (.Attribute (.Name x p) "append" QC) [e] [] Qz) (xA i u):=⟨PE.imp (pI PySem.F.plainAttrs_list PySem.F.slot_list_append PySem.F.type_list_append vN (jK hN hv hd hcd) (aD h aE hst).pa QE hfew QD hs QF) λσ H QQ ⟨ρ,Q,f,⟨⟨Ts0,e0⟩,hu⟩,k⟩=>by
 obtain⟨a,xs,ea,eH,e3,z,pv⟩:=f.at_ i _ e0;refine⟨_,iH ea,.inl ⟨rfl,xs,bu.of eH⟩,ρ,λas ρ1=>∃T,as=[.va T]/\∃Ts,ρ1[i]?=some (.own Ts)/\Ts.length<100000/\Q nT (ρ1.set i (.own (Ts++[T]))),f,?_,λvs as H1 ρ1 s1 p1 q1=>?_⟩
 ·show u ρ _;have:(λT ρ1=>∃Ts,ρ1[i]?=some (.own Ts)/\Ts.length<100000/\Q nT (ρ1.set i (.own (Ts++[T]))))=(λT (ρ1:aW)=>(hZ ρ1 λas ρ2=>∃T',Ar.va T::as=[.va T']/\∃Ts,ρ2[i]?=some (.own Ts)/\Ts.length<100000/\Q nT (ρ2.set i (.own (Ts++[T'])))) ):=by
   funext T ρ1;apply propext;constructor
   ·intro z;exact⟨T,rfl,z⟩
   ·rintro⟨T',e,z⟩;cases e;exact z
  rw[this]at hu;exact hu
 ·obtain⟨T,rfl,Ts,e1,lt,q⟩:=q1;cases p1 with
  |cons v t=>
   cases t;obtain⟨a',ys,ea',eH1,e3',z',pv'⟩:=s1.fr.at_ i _ e1;rw[ea]at ea';cases ea';have ll:ys.length=Ts.length:=Paired.length pv';refine⟨a,ys,_,rfl,rfl,eH1,xJ (by omega),k _ _ _ _ (s1.trans (s1.fr.put (s':=.own (Ts++[T])) e1 rfl ea eH1 rfl λhs h0=>⟨a,_,rfl,bE,h0,by rw[b7,lu];omega,cp.hs hs (Paired.snoc pv' v)⟩)) (.flat rfl) q⟩⟩
def LL:V->List V->Hp->VK->Prop:=λx vs H Q=>∃l b xs zs,x=.ref l/\vs=[.ref b]/\H l=some (.lst xs)/\Rd H b (.lst zs)/\xs.length+zs.length<=sizeLine/\Q .non (ar H l (.lst (xs++zs)))
theorem Ov:t5 X "list.extend" LL:=by
 rintro Qx s σ H _ _ v us Q I rx rv ⟨l,b,xs,zs,rfl,rfl,hH,hB,hz,q⟩;cases rx;obtain⟨u,rfl,ru⟩:=rv.one;cases ru;obtain⟨z,its,n,r,hl,e⟩:=I.lstM hH;obtain⟨z2,its2,n2,r2,e2⟩:=hB.ok I.hok;have hl2:=r2.length;have hlong:¬ (!its.toArray.isEmpty&&Builtin.List.listTooLong (its.toArray.size+its2.toArray.size))=true:=by
  rw[C7 (by rw[ck,ck];omega),n6];exact cn
 refine call_meets F.slot_list_extend ⟨_,e,rfl⟩ F.entry_list_extend (F.args_list_extend_2 _ _) (AutoSeq1.list_extend_list_list_0 l its.toArray n b its2.toArray n2 hlong (by rw[ck];omega) (by rw[ck,ck];omega)) ⟨e,e2,?_⟩;exact⟨.non,_,I.lset (its':=its++its2) hH e (by simp) (r.append r2) (by rw[b7];omega),rfl,q⟩
def Kx(i:Nat)(u:UT):UT:=λρ Q=>(∃Ts,ρ[i]?=some (.own Ts))/\u ρ λT ρ1=>∃Ts Us,ρ1[i]?=some (.own Ts)/\T=.seq false Us/\Ts.length+Us.length<=100000/\Q nT (ρ1.set i (.own (Ts++Us)))
theorem vF(i:Nat)(h:UE X F e u)(hN:X.N[i]?=some x:=by rfl)(hv:oy X.env.scope x:=by first|exact Or.inl rfl|exact Or.inr (Or.inl rfl)|exact Or.inr (Or.inr rfl))(hd:(x==("__debug__":Str))=false:=by decide)(hcd:(x==("__classdict__":Str))=false:=by decide)
  (QE:attributeBase (.Name x p) "extend" X.env (eval (.Name x p) X.env)=eval (.Name x p) X.env:=by rfl)
  (hfew:((backTo Qz (starEach [e] X.env)).all (λx=>!x.1)&&(backToKw Qz (keywordEach [] X.env)).all (λx=>x.1.isSome)&&decide (([e]:List Expr).length+([]:List Keyword).length+(if ([]:List Keyword).isEmpty then 0 else 1)<30))=true:=by rfl)
  (QD:(QC.endLine==Qz.line)=true:=by rfl) (hs:starEach [e] X.env=(false,eval e X.env)::starEach [] X.env:=by rfl) (QF:(backTo Qz (starEach [] X.env)).any (·.1)=false:=by rfl) (hst:dJ e=false:=by rfl):
  UE X F (.Call (.Attribute (.Name x p) "extend" QC) [e] [] Qz) (Kx i u):=⟨PE.imp (pI PySem.F.plainAttrs_list PySem.F.slot_list_extend PySem.F.type_list_extend Ov (jK hN hv hd hcd) (aD h aE hst).pa QE hfew QD hs QF) λσ H QQ ⟨ρ,Q,f,⟨⟨Ts0,e0⟩,hu⟩,k⟩=>by
 obtain⟨a,xs,ea,eH,e3,z,pv⟩:=f.at_ i _ e0;refine⟨_,iH ea,.inl ⟨rfl,xs,bu.of eH⟩,ρ,λas ρ1=>∃T,as=[.va T]/\∃Ts Us,ρ1[i]?=some (.own Ts)/\T=.seq false Us/\Ts.length+Us.length<=100000/\Q nT (ρ1.set i (.own (Ts++Us))),f,?_,λvs as H1 ρ1 s1 p1 q1=>?_⟩
 ·show u ρ _;have:(λT ρ1=>∃Ts Us,ρ1[i]?=some (.own Ts)/\T=.seq false Us/\Ts.length+Us.length<=100000/\Q nT (ρ1.set i (.own (Ts++Us))))=(λT (ρ1:aW)=>(hZ ρ1 λas ρ2=>∃T',Ar.va T::as=[.va T']/\∃Ts Us,ρ2[i]?=some (.own Ts)/\T'=.seq false Us/\Ts.length+Us.length<=100000/\Q nT (ρ2.set i (.own (Ts++Us)))) ):=by
   funext T ρ1;apply propext;constructor
   ·intro z;exact⟨T,rfl,z⟩
   ·rintro⟨T',e,z⟩;cases e;exact z
  rw[this]at hu;exact hu
 ·obtain⟨T,rfl,Ts,Us,e1,rfl,le,q⟩:=q1;cases p1 with
  |cons v t=>
   cases t;have v:VA X.K H1 _ (.seq false Us):=v;obtain⟨b,zs,rfl,⟨ob,hb⟩,_,pz⟩:=v.seqI;obtain⟨a',ys,ea',eH1,e3',z',pv'⟩:=s1.fr.at_ i _ e1;rw[ea]at ea';cases ea';have ll:ys.length=Ts.length:=Paired.length pv';have lz:zs.length=Us.length:=Paired.length pz;refine⟨a,b,ys,zs,rfl,rfl,eH1,.inr ⟨ob,hb⟩,iJ (by omega),k _ _ _ _ (s1.trans (s1.fr.put (s':=.own (Ts++Us)) e1 rfl ea eH1 rfl λhs h0=>⟨a,_,rfl,bE,h0,by rw[b7];omega,cp.hs hs (qR pv' pz)⟩)) (.flat rfl) q⟩⟩
def JZ(i:Nat)(u:UT):UT:=λρ Q=>(∃Ts,ρ[i]?=some (.own Ts))/\u ρ λJ ρ1=>∃(j:Int) (Ts:List Tv) (T:Tv),J=iT j/\ρ1[i]?=some (.own Ts)/\0<=j/\Ts[j.toNat]?=some T/\Q T (ρ1.set i (.own (Ts.eraseIdx j.toNat)))
def DM{α β:Type}{R:α->β->Prop}:∀{l:List α}{m:List β}(n:Nat),Paired R l m->Paired R (l.eraseIdx n) (m.eraseIdx n)
 |_,_,_,.nil=>.nil
 |_,_,0,.cons _ t=>t
 |_,_,n+1,.cons r t=>.cons r (DM n t)
def qL{α β:Type}{R:α->β->Prop}:∀{l:List α}{m:List β}{n:Nat}{y:β},Paired R l m->m[n]?=some y->∃x,l[n]?=some x/\R x y
 |_,_,_,_,.nil,e=>by simp at e
 |_,_,0,_,.cons r _,e=>by simp at e;subst e;exact⟨_,rfl,r⟩
 |_,_,n+1,_,.cons _ t,e=>by
  obtain⟨x,h1,h2⟩:=qL (n:=n) t (by simpa using e);exact⟨x,by simpa using h1,h2⟩
theorem Nx(i:Nat)(h:UE X F e u)(hN:X.N[i]?=some x:=by rfl)(hv:oy X.env.scope x:=by first|exact Or.inl rfl|exact Or.inr (Or.inl rfl)|exact Or.inr (Or.inr rfl))(hd:(x==("__debug__":Str))=false:=by decide)(hcd:(x==("__classdict__":Str))=false:=by decide)
  (QE:attributeBase (.Name x p) "pop" X.env (eval (.Name x p) X.env)=eval (.Name x p) X.env:=by rfl)
  (hfew:((backTo Qz (starEach [e] X.env)).all (λx=>!x.1)&&(backToKw Qz (keywordEach [] X.env)).all (λx=>x.1.isSome)&&decide (([e]:List Expr).length+([]:List Keyword).length+(if ([]:List Keyword).isEmpty then 0 else 1)<30))=true:=by rfl)
  (QD:(QC.endLine==Qz.line)=true:=by rfl) (hs:starEach [e] X.env=(false,eval e X.env)::starEach [] X.env:=by rfl) (QF:(backTo Qz (starEach [] X.env)).any (·.1)=false:=by rfl) (hst:dJ e=false:=by rfl):
  UE X F (.Call (.Attribute (.Name x p) "pop" QC) [e] [] Qz) (JZ i u):=⟨PE.imp (pI PySem.F.plainAttrs_list PySem.F.slot_list_pop PySem.F.type_list_pop Mk (jK hN hv hd hcd) (aD h aE hst).pa QE hfew QD hs QF) λσ H QQ ⟨ρ,Q,f,⟨⟨Ts0,e0⟩,hu⟩,k⟩=>by
 obtain⟨a,xs,ea,eH,e3,z,pv⟩:=f.at_ i _ e0;refine⟨_,iH ea,.inl ⟨rfl,xs,bu.of eH⟩,ρ,λas ρ1=>∃J,as=[.va J]/\∃(j:Int) (Ts:List Tv) (T:Tv),J=iT j/\ρ1[i]?=some (.own Ts)/\0<=j/\Ts[j.toNat]?=some T/\Q T (ρ1.set i (.own (Ts.eraseIdx j.toNat))),f,?_,λvs as H1 ρ1 s1 p1 q1=>?_⟩
 ·show u ρ _;have:(λJ ρ1=>∃(j:Int) (Ts:List Tv) (T:Tv),J=iT j/\ρ1[i]?=some (.own Ts)/\0<=j/\Ts[j.toNat]?=some T/\Q T (ρ1.set i (.own (Ts.eraseIdx j.toNat))))=(λJ (ρ1:aW)=>(hZ ρ1 λas ρ2=>∃J',Ar.va J::as=[.va J']/\∃(j:Int) (Ts:List Tv) (T:Tv),J'=iT j/\ρ2[i]?=some (.own Ts)/\0<=j/\Ts[j.toNat]?=some T/\Q T (ρ2.set i (.own (Ts.eraseIdx j.toNat)))) ):=by
   funext T ρ1;apply propext;constructor
   ·intro z;exact⟨T,rfl,z⟩
   ·rintro⟨T',e,z⟩;cases e;exact z
  rw[this]at hu;exact hu
 ·obtain⟨J,rfl,j,Ts,T,rfl,e1,h0,eT,q⟩:=q1;cases p1 with
  |cons v t=>
   cases t;obtain⟨rfl,_⟩:=VA.leafI v;obtain⟨a',ys,ea',eH1,e3',z',pv'⟩:=s1.fr.at_ i _ e1;rw[ea]at ea';cases ea';have ll:ys.length=Ts.length:=Paired.length pv';have lt:=(qx_.mp eT).1;obtain⟨y,ey,vy⟩:=qL pv' eT;have s:=s1.fr.put (o':=.lst (ys.eraseIdx j.toNat)) e1 rfl ea eH1 rfl (s':=.own (Ts.eraseIdx j.toNat)) λhs h0=>⟨a,_,rfl,bE,h0,by rw[List.length_eraseIdx];split<;>omega,cp.hs hs (DM _ pv')⟩
   refine⟨a,ys,j,j.toNat,y,rfl,rfl,eH1,by omega,by omega,PySem.StrLaws.seqIndex_nonneg h0 (by omega),ey,k _ _ _ _ (s1.trans s) (vy.hs (s.hs s1.fr)) q⟩⟩
def IA(i:Nat):de:=λP ρ=>P.nx (ρ.set i (.dct []))
def Do{i:Nat}{pos' dpos:Pos}(hN:X.N.Nodup)(hi:X.N[i]?=some x)(hx:ma X.env.scope x)(hs:swapsWith (.Dict [] [] dpos) (some (.Name x pos')) pos.line X.env=pure false:=by rfl)(hf:X.fn x=true\/X.env.scope.names.lookup x=some .local:=by first|exact .inl rfl|exact .inr rfl|assumption):
  US X F (.Assign [.Name x pos'] (.Dict [] [] dpos) pos) (IA i):=⟨PS.imp (kF hN hi hx Mo hs hf) λD σ H ⟨ρ,P,f,h,k1,_⟩ a n=>by
 have s:=bh.same f (cB (o:=.dK []) n);exact k1 _ _ _ (s.fr.set (s:=.dct []) (λ_=>⟨a,[],rfl,bE,f.none0 n,.nil,by decide,.nil⟩) (λ_ b eb j t ej mj qj=>by cases eb;exact s.notown f n j t ej mj qj)) (s.hs f) h⟩
def eQ(kts:List (Str×Tv))(k:Str)(T:Tv):List (Str×Tv):=if (kts.any λkt=>decide (kt.1=k))=true then kts.map (λkt=>if kt.1=k then(kt.1,T) else kt) else kts++[(k,T)]
def KH{K:W.Frag}{H:Hp}{kvs:List (av×V)}{kts:List (Str×Tv)}(p:f_ K H kvs kts)(k:Str):(kvs.any λkv=>decide (kv.1=.inr k))=kts.any λkt=>decide (kt.1=k):=by
 unfold f_ at p
 induction p with
 |nil=>rfl
 |cons r _ ih=>
  rw[ju,ju,ih,r.1];congr 1;rw[i9,decide_eq_true_iff,decide_eq_true_iff];exact⟨λz=>Sum.inr.inj z,λz=>by rw[z]⟩
def KI{K:W.Frag}{H:Hp}{kvs:List (av×V)}{kts:List (Str×Tv)}(p:f_ K H kvs kts){k:Str}{v:V}{T:Tv}(q:VA K H v T):f_ K H (dR kvs (.inr k) v) (eQ kts k T):=by
 unfold dR eQ;rw[KH p k];split
 ·rename_i zz;clear zz;unfold f_ at p ⊢
  induction p with
  |nil=>exact .nil
  |@cons kv kt _ _ r _ ih=>
   refine .cons ?_ ih;dsimp only;by_cases z:kt.1=k
   ·rw[if_pos z,if_pos (by rw[r.1,z])];exact⟨r.1,q⟩
   ·rw[if_neg z,if_neg (by rw[r.1];exact λy=>z (Sum.inr.inj y))];exact r
 ·exact Paired.snoc p ⟨rfl,q⟩
def MU(kts:List (Str×Tv))(k:Str)(T:Tv):(eQ kts k T).map (·.1)=if (kts.any λkt=>decide (kt.1=k))=true then kts.map (·.1) else kts.map (·.1)++[k]:=by
 unfold eQ;split
 ·rw[fg];refine mw λkt _=>?_
  show(if kt.1=k then(kt.1,T) else kt).1=kt.1;split<;>rfl
 ·rw[ia];rfl
def Ef{kts:List (Str×Tv)}{k:Str}{T:Tv}(h:(kts.map (·.1)).Nodup):((eQ kts k T).map (·.1)).Nodup:=by
 rw[MU];split
 ·exact h
 ·rename_i n;rw[mr];refine⟨h,by simp,λa ha b hb=>?_⟩;rw[qB_]at hb;subst hb;rintro rfl;obtain⟨kt,hk,rfl⟩:=qf_.mp ha;exact n (qL_.mpr ⟨kt,hk,by simp⟩)
def HC(i:Nat)(uk uv:UT):de:=λP ρ=>uv ρ λT ρ1=>(∃kts,ρ1[i]?=some (.dct kts))/\uk ρ1 λk ρ2=>∃kts s,ρ2[i]?=some (.dct kts)/\k=sT s/\(eQ kts s T).length<64/\P.nx (ρ2.set i (.dct (eQ kts s T)))
def By{i:Nat}{k:Expr}{uk uv:UT}{pos':Pos}(hu:X.A.units+1<cLine)(hN:X.N[i]?=some x)(hv:oy X.env.scope x)(hk:UE X F k uk)(he:UE X F e uv)(hs:swapsWith e (some (.Subscript (.Name x p) k pos')) pos.line X.env=pure false:=by rfl)(hd:(x==("__debug__":Str))=false:=by decide)(hcd:(x==("__classdict__":Str))=false:=by decide):
  US X F (.Assign [.Subscript (.Name x p) k pos'] e pos) (HC i uk uv):=⟨PS.imp (K7 hu (jK hN hv hd hcd) hk.pe he.pe hs) λD σ H ⟨ρ,P,f,h,k1,_⟩=>by
 refine⟨ρ,_,f,h,λv T H1 ρ1 s1 v1 q1=>?_⟩;obtain⟨⟨kts0,e0⟩,q1⟩:=q1;obtain⟨a,kvs0,ea,eH0,_⟩:=s1.fr.at_ i _ e0;refine⟨_,iH ea,ρ1,_,s1.fr,q1,λy Ky H2 ρ2 s2 v2 q2=>?_⟩;obtain⟨kts,s,e2,rfl,lt,q⟩:=q2;obtain⟨rfl,_⟩:=v2.leafI;obtain⟨a',kvs,ea',eH,h0,nd,l64,p⟩:=s2.fr.at_ i _ e2;rw[ea]at ea';cases ea';have ll:kvs.length=kts.length:=Paired.length p;refine⟨a,_,rfl,o5.k (k:=.inr s) eH (xJ (by omega)),?_⟩;have st:=s2.fr.put (o':=.dK (dR kvs (.inr s) v)) e2 rfl ea eH rfl (s':=.dct (eQ kts s T)) λhs h0=>⟨a,_,rfl,bE,h0,Ef nd,lt,f_.hs hs (KI p (v1.hs (s2.hs s1.fr)))⟩
 exact k1 _ _ _ st.fr (((s1.trans s2).trans st).hs f) q⟩
end
def ag.frozen{X:Cx}{Qx:List (Addr×Obj)}{σ:St}{H H2:Hp}{s:Shared}(I:ag X Qx σ H s)(fro:br qD H H2)(ok2:d7 X.prog X.w H2 s.heap):ag X Qx σ H2 s:=by
 refine⟨I.ok,I.os,I.bare,⟨I.base.keep,I.base.slot,λb o e n hx=>fro.none_of (I.base.free b o e n hx),I.base.there,λb xs e=>fro.keep (I.base.tups b xs e) rfl,λb o u e=>fro.keep (I.base.frzs b o u e) rfl,λb ps e=>?_⟩,I.loc,I.cell,fro.none_of I.free,λx c e=>fro.none_of (I.freeC x c e),λp hp=>?_,ok2,I.len⟩
 ·obtain⟨more,z⟩:=I.base.tbls b ps e;exact⟨more,fro.keep z rfl⟩
 ·obtain⟨p1,p2,p3⟩:=I.pin p hp;exact⟨p1,fro.none_of p2,p3⟩
def ag.thaw{X:Cx}{Qx:List (Addr×Obj)}{σ:St}{H H3 H4:Hp}{s s':Shared}(I:ag X Qx σ H s)(I3:ag X Qx σ H3 s')(th:m8 H H3 H4):ag X Qx σ H4 s':=by
 have stay:∀b o,H3 b=some o->(∀u ob,o≠.frz ob u)->H4 b=some o:=λb o e n=>by
  rcases th b with⟨u,ob,_,_,z,_⟩|⟨_,z⟩
  ·rw[e]at z;cases z;exact absurd rfl (n u ob)
  ·rw[z];exact e
 have none4:∀b,H3 b=none->H4 b=none:=λb e=>by
  rcases th b with⟨u,ob,_,_,z,_⟩|⟨_,z⟩
  ·rw[e]at z;cases z
  ·rw[z];exact e
 refine⟨I3.ok,I3.os,I3.bare,⟨I3.base.keep,I3.base.slot,λb o e n hx=>none4 b (I3.base.free b o e n hx),I3.base.there,λb xs e=>stay b _ (I3.base.tups b xs e) (λ_ _ z=>by cases z),λb o u e=>?_,λb ps e=>?_⟩,I3.loc,I3.cell,none4 _ I3.free,λx c e=>none4 c (I3.freeC x c e),λp hp=>?_,λb o e=>?_,I3.len⟩
 ·rcases th b with⟨o',ob,n,z,_⟩|⟨_,z⟩
  ·rw[I.base.frzs b o u e]at z;cases z;exact absurd n cn
  ·rw[z];exact I3.base.frzs b o u e
 ·obtain⟨more,z⟩:=I3.base.tbls b ps e;exact⟨more,stay b _ z (λ_ _ z=>by cases z)⟩
 ·obtain⟨p1,p2,p3⟩:=I3.pin p hp;exact⟨p1,none4 _ p2,p3⟩
 ·have st:∀o,aw X.prog X.w H3 s'.heap b o->aw X.prog X.w H4 s'.heap b o:=λo x=>x.stay (λ_ _ _ r=>r) (λd r=>stay d _ r (λ_ _ z=>by cases z)) λd xs r=>stay d _ r (λ_ _ z=>by cases z)
  rcases th b with⟨o',ob,n,_,z,z'⟩|⟨_,z⟩
  ·rw[z']at e;cases e;obtain⟨_,y⟩:=(show aw X.prog X.w H3 s'.heap b (.frz ob o) from I3.hok b _ z)
   exact st o y
  ·rw[z]at e;exact st o (I3.hok b o e)
def Px:Sl->Sl
 |.own Ts=>.va (.seq false Ts)
 |.dct kts=>.va (.dct kts)
 |.dk=>.no
 |s=>s
def o8(ρ:aW):aW:=ρ.map Px
def Bj{K:W.Frag}{F:Fm}{ρ:aW}{σ:St}{H H2:Hp}(f:au K F ρ σ H)(fro:br qD H H2):au K ⟨H2,none⟩ (o8 ρ) σ H2:=by
 have hs:=fro.hs;refine⟨λ_ _ z=>(nomatch z),⟨λ_ _ e _=>e,λ_ _ z=>(nomatch z)⟩,by unfold o8;rw[ak];exact f.len,λi s e=>?_,λi j a s t e _ m _ _ _=>?_⟩
 ·unfold o8 at e;rw[fo]at e;obtain⟨s0,e0,rfl⟩:=qd1_.mp e;have h:=f.at_ i s0 e0;cases s0 with
  |no=>trivial
  |va T=>obtain⟨y,e1,v⟩:=h;exact⟨y,e1,v.hs hs⟩
  |own Ts=>
   obtain⟨a,xs,e1,e2,e3,z,p⟩:=h;obtain⟨ob,e4⟩:=fro.fz (b:=a) rfl e2 rfl;exact⟨_,e1,VA.seq (t:=false) ⟨ob,e4⟩ z (p.hs hs)⟩
  |dct kts=>
   obtain⟨a,kvs,e1,e2,e3,n,z,p⟩:=h;obtain⟨ob,e4⟩:=fro.fz (b:=a) rfl e2 rfl;exact⟨_,e1,VA.dct ⟨ob,e4⟩ n z (p.hs hs)⟩
  |dk=>trivial
 ·unfold o8 at e;rw[fo]at e;obtain⟨s0,e0,rfl⟩:=qd1_.mp e;cases s0<;>cases m
def B4{K:W.Frag}{ρ ρ':aW}{σ:St}{H2 H3:Hp}{H0:Hp}(s:bh K ⟨H0,none⟩ σ (o8 ρ) H2 ρ' H3):ay H2 H3:=λb o e=>s.st b o e (λ_ _ z=>(nomatch z)) λi t e1 m=>by
 unfold o8 at e1;rw[fo]at e1;obtain⟨s0,e0,rfl⟩:=qd1_.mp e1;cases s0<;>cases m
section
variable{X:Cx}{F:Fm}{e:Expr}
def GT(u:UT):UT:=λρ Q=>u (o8 ρ) λT _=>∃v,T=.leaf v/\Q T ρ
def rT{u:UT}(h:∀F,UE X F e u):UE X F e (GT u):=⟨λQx s σ H QQ I ⟨ρ,Q,f,hu,k⟩=>by
 obtain⟨H2,fro,ok2⟩:=CO I.hok;have f2:=Bj f fro;refine bf ((h ⟨H2,none⟩).pe Qx s σ H2 (λx H3=>∃v ρ',bh X.K ⟨H2,none⟩ σ (o8 ρ) H2 ρ' H3/\VA X.K H3 x (.leaf v)/\Q (.leaf v) ρ) (I.frozen fro ok2) ⟨_,_,f2,hu,λx T H' ρ' st v q=>?_⟩) λu s' ⟨x,H3,I3,r,q⟩=>?_
 ·obtain⟨w,rfl,q⟩:=q;exact⟨w,ρ',st,v,q⟩
 ·obtain⟨v,ρ',st,va,q⟩:=q;obtain⟨H4,th⟩:=Bt H H3;obtain⟨rfl,fl⟩:=va.leafI;exact⟨x,H4,I.thaw I3 th,r,k _ _ _ _ (bh.same f (m8.same fro (B4 st) th)) (.flat fl) q⟩⟩
def JY(u:d6):d6:=λρ Q=>u (o8 ρ) λb _=>Q b ρ
def Bv{u:d6}(h:∀F,UB X F e u):UB X F e (JY u):=⟨λQx s σ H QQ I ⟨ρ,Q,f,hu,k⟩=>by
 obtain⟨H2,fro,ok2⟩:=CO I.hok;have f2:=Bj f fro;refine bf ((h ⟨H2,none⟩).pt Qx s σ H2 (λb H3=>∃ρ',bh X.K ⟨H2,none⟩ σ (o8 ρ) H2 ρ' H3/\Q b ρ) (I.frozen fro ok2) ⟨_,_,f2,hu,λb H' ρ' st q=>⟨ρ',st,q⟩⟩) λb s' ⟨H3,I3,q⟩=>?_
 obtain⟨ρ',st,q⟩:=q;obtain⟨H4,th⟩:=Bt H H3;exact⟨H4,I.thaw I3 th,k _ _ _ (bh.same f (m8.same fro (B4 st) th)) q⟩⟩
end
mutual
def eqT:Tv->Tv->Bool
 |.leaf v,.leaf w=>cz v w
 |.seq s xs,.seq t ys=>s==t&&bO xs ys
 |_,_=>false
def bO:List Tv->List Tv->Bool
 |[],[]=>true
 |x::xs,y::ys=>eqT x y&&bO xs ys
 |_,_=>false
end
def ff:Nat->Tv->Prop
 |0,_=>False
 |_+1,.leaf _=>True
 |n+1,.seq _ xs=>∀U∈xs,ff n U
 |_+1,.dct _=>False
def wT:∀{xs ys:List Tv},xs.length≠ys.length->bO xs ys=false
 |[],[],h=>absurd rfl h
 |[],_::_,_=>by simp[bO]
 |_::_,[],_=>by simp[bO]
 |x::xs,y::ys,h=>by
  have:=wT (xs:=xs) (ys:=ys) (λe=>h (by simp[e]));simp[bO,this]
def vD:∀{xs ys:List Tv},xs.length=ys.length->(List.range xs.length).all (λi=>eqT (xs.getD i nT) (ys.getD i nT))=bO xs ys
 |[],[],_=>by simp[bO]
 |[],_::_,h=>by simp at h
 |_::_,[],h=>by simp at h
 |x::xs,y::ys,h=>by
  have ih:=vD (xs:=xs) (ys:=ys) (by simpa using h);rw[g6,og,List.all_cons,qq];show(eqT x y&&(List.range xs.length).all λi=>eqT (xs.getD i nT) (ys.getD i nT))=bO (x::xs) (y::ys);rw[ih];simp[bO]
def ff.vp{K:W.Frag}{H:Hp}:∀{n d:Nat}{x:V}{T:Tv},ff n T->VP K H d x T->VP K H n x T
 |0,_,_,_,h,_=>False.elim h
 |_+1,0,_,_,_,h=>False.elim h
 |n+1,d+1,x,T,h,v=>by
  rcases v with v|⟨t,a,xs,Ts,e1,e2,rfl,z,p⟩|⟨a,kvs,kts,e1,e2,rfl,_⟩
  ·exact .inl v
  ·have g:∀U∈Ts,ff n U:=h;refine .inr (.inl ⟨t,a,xs,Ts,e1,e2,rfl,z,?_⟩);clear e2 z h
   induction p with
   |nil=>exact .nil
   |cons r _ ih=>exact .cons ((g _ (.head _)).vp r) (ih λU hU=>g U (.tail _ hU))
  ·exact False.elim h
section
variable{X:Cx}{Qx:List (Addr×Obj)}{σ:St}{H:Hp}{s:Shared}
def Mx{v:V}(h:dO v=true):cz v v=true:=by
 cases v<;>first|exact absurd h cn|simp[cz]
def a_.isList{a:Addr}{xs:List V}(I:ag X Qx σ H s)(h:a_ X.K H false a xs):∃its:List Value,ai xs its/\s.heap.IsList a its.toArray:=by
 obtain⟨its,r,p,_⟩:=I.list (cS h);exact⟨its,r,p.isList⟩
def a_.isTup{a:Addr}{xs:List V}(I:ag X Qx σ H s)(h:a_ X.K H true a xs):∃its:List Value,ai xs its/\s.heap.IsTuple a its.toArray:=by
 obtain⟨its,r,p,_⟩:=I.tuple h;exact⟨its,r,p⟩
def AR(I:ag X Qx σ H s):∀{n:Nat}{x:V}{T U:Tv},VP X.K H n x T->VP X.K H n x U->ff n T->ff n U->eqT T U=true
 |0,_,_,_,h,_,_,_=>False.elim h
 |n+1,x,T,U,h,h',d,d'=>by
  rcases h with⟨f,rfl⟩|⟨t,a,xs,Ts,rfl,e2,rfl,z,p⟩|⟨a,kvs,kts,rfl,e2,rfl,_⟩
  ·rcases h' with⟨_,rfl⟩|⟨t',a',xs',Ts',rfl,_⟩|⟨a',kvs',kts',rfl,_⟩
   ·simp[eqT,Mx f]
   ·cases f
   ·cases f
  ·rcases h' with⟨f,rfl⟩|⟨t',a',xs',Ts',e1',e2',rfl,z',p'⟩|⟨a',kvs',kts',e1',e2',rfl,_⟩
   ·cases f
   ·cases e1';have tt:t=t':=by
     cases t<;>cases t'<;>first|rfl|skip
     ·obtain⟨_,_,l1⟩:=a_.isList I e2;obtain⟨_,_,l2⟩:=a_.isTup I e2';exact absurd rfl (SeqAt.ne_of_list_tuple l1 l2)
     ·obtain⟨_,_,l1⟩:=a_.isList I e2';obtain⟨_,_,l2⟩:=a_.isTup I e2;exact absurd rfl (SeqAt.ne_of_list_tuple l1 l2)
    subst tt;have ex:xs=xs':=by
     cases t with
     |false=>exact I.list_inj (cS e2) (cS e2')
     |true=>exact I.tuple_inj e2 e2'
    subst ex;have d:∀U∈Ts,ff n U:=d;have d':∀U∈Ts',ff n U:=d';have key:∀{xs:List V} {Ts Ts':List Tv},Paired (VP X.K H n) xs Ts->Paired (VP X.K H n) xs Ts'->(∀U∈Ts,ff n U)->(∀U∈Ts',ff n U)->bO Ts Ts'=true:=by
     intro xs Ts Ts' p
     induction p generalizing Ts' with
     |nil=>intro p' _ _;cases p';simp[bO]
     |cons r _ ih=>
      intro p' d d';cases p' with
      |cons r' t'=>simp[bO,AR I r r' (d _ (.head _)) (d' _ (.head _)),ih t' (λU hU=>d U (.tail _ hU)) (λU hU=>d' U (.tail _ hU))]
    simp[eqT,key p p' d d']
   ·exact False.elim d'
  ·exact False.elim d
def kS{x:V}(h:dO x=true):x=.non\/(∃b,x=.bl b)\/(∃i,x=.int i)\/∃z,x=.str z:=by
 cases x with
 |non=>exact .inl rfl
 |bl b=>exact .inr (.inl ⟨b,rfl⟩)
 |int i=>exact .inr (.inr (.inl ⟨i,rfl⟩))
 |str z=>exact .inr (.inr (.inr ⟨z,rfl⟩))
 |_=>exact absurd (show false=true from h) cn
open SeqAt in
def qN(I:ag X Qx σ H s){A:Around}(hu:A.units<cLine){x:V}{v:Value}{t:Bool}{a:Addr}{xs:List V}(f:dO x=true)(r:ah x v)(h:a_ X.K H t a xs):
  EqAt A s v (.ref a) false/\EqAt A s (.ref a) v false/\RcAt A s v (.ref a) false/\RcAt A s (.ref a) v false/\RcNeAt A s v (.ref a) true/\RcNeAt A s (.ref a) v true:=by
 cases t with
 |false=>
  obtain⟨_,_,l⟩:=a_.isList I h;rcases kS f with rfl|⟨b,rfl⟩|⟨b,rfl⟩|⟨b,rfl⟩
  ·cases r;exact⟨.none_list l hu,.list_none l hu,.none_list l hu,.list_none l hu,.none_list l hu,.list_none l hu⟩
  ·cases r;exact⟨.bool_list b l hu,.list_bool b l hu,.bool_list b l hu,.list_bool b l hu,.bool_list b l hu,.list_bool b l hu⟩
  ·obtain⟨t,rfl⟩:=r;exact⟨.int_list b t l hu,.list_int b t l hu,.int_list b t l hu,.list_int b t l hu,.int_list b t l hu,.list_int b t l hu⟩
  ·obtain⟨t,rfl⟩:=r;exact⟨.str_list b t l hu,.list_str b t l hu,.str_list b t l hu,.list_str b t l hu,.str_list b t l hu,.list_str b t l hu⟩
 |true=>
  obtain⟨_,_,l⟩:=a_.isTup I h;rcases kS f with rfl|⟨b,rfl⟩|⟨b,rfl⟩|⟨b,rfl⟩
  ·cases r;exact⟨.none_tuple l hu,.tuple_none l hu,.none_tuple l hu,.tuple_none l hu,.none_tuple l hu,.tuple_none l hu⟩
  ·cases r;exact⟨.bool_tuple b l hu,.tuple_bool b l hu,.bool_tuple b l hu,.tuple_bool b l hu,.bool_tuple b l hu,.tuple_bool b l hu⟩
  ·obtain⟨t,rfl⟩:=r;exact⟨.int_tuple b t l hu,.tuple_int b t l hu,.int_tuple b t l hu,.tuple_int b t l hu,.int_tuple b t l hu,.tuple_int b t l hu⟩
  ·obtain⟨t,rfl⟩:=r;exact⟨.str_tuple b t l hu,.tuple_str b t l hu,.str_tuple b t l hu,.tuple_str b t l hu,.str_tuple b t l hu,.tuple_str b t l hu⟩
open SeqAt in
def Lh{A:Around}{x y:V}{v u:Value}(fx:dO x=true)(fy:dO y=true)(rx:ah x v)(ry:ah y u):RcAt A s v u (cz x y)/\RcNeAt A s v u (!cz x y):=by
 rcases kS fx with rfl|⟨a,rfl⟩|⟨a,rfl⟩|⟨a,rfl⟩<;>rcases kS fy with rfl|⟨b,rfl⟩|⟨b,rfl⟩|⟨b,rfl⟩
 ·cases rx;cases ry;exact⟨.none_none,.none_none⟩
 ·cases rx;cases ry;exact⟨.none_bool b,.none_bool b⟩
 ·cases rx;obtain⟨t,rfl⟩:=ry;exact⟨.none_int b t,.none_int b t⟩
 ·cases rx;obtain⟨t,rfl⟩:=ry;exact⟨.none_str b t,.none_str b t⟩
 ·cases rx;cases ry;exact⟨.bool_none a,.bool_none a⟩
 ·cases rx;cases ry;exact⟨.bool_bool a b,.bool_bool a b⟩
 ·cases rx;obtain⟨t,rfl⟩:=ry;exact⟨.bool_int a b t,.bool_int a b t⟩
 ·cases rx;obtain⟨t,rfl⟩:=ry;exact⟨.bool_str a b t,.bool_str a b t⟩
 ·obtain⟨t',rfl⟩:=rx;cases ry;exact⟨.int_none a t',.int_none a t'⟩
 ·obtain⟨t',rfl⟩:=rx;cases ry;exact⟨.int_bool a t' b,.int_bool a t' b⟩
 ·obtain⟨t',rfl⟩:=rx;obtain⟨t,rfl⟩:=ry;exact⟨.int_int a t' b t,.int_int a t' b t⟩
 ·obtain⟨t',rfl⟩:=rx;obtain⟨t,rfl⟩:=ry;exact⟨.int_str a t' b t,.int_str a t' b t⟩
 ·obtain⟨t',rfl⟩:=rx;cases ry;exact⟨.str_none a t',.str_none a t'⟩
 ·obtain⟨t',rfl⟩:=rx;cases ry;exact⟨.str_bool a t' b,.str_bool a t' b⟩
 ·obtain⟨t',rfl⟩:=rx;obtain⟨t,rfl⟩:=ry;exact⟨.str_int a t' b t,.str_int a t' b t⟩
 ·obtain⟨t',rfl⟩:=rx;obtain⟨t,rfl⟩:=ry;exact⟨.str_str a t' b t,.str_str a t' b t⟩
def Dp{xs:List V}{us:List Value}(r:ai xs us){j:Nat}(h:j<us.toArray.size):∃x,xs[j]?=some x/\ah x us.toArray[j]:=by
 have l:=r.length;have k:j<xs.length:=by rw[l];simpa using h
 obtain⟨u,hu,ru⟩:=r.get (i:=j) (x:=xs[j]) (b6 k);refine⟨_,b6 k,?_⟩;have e1:us.toArray[j]=u:=by
  obtain⟨_,e⟩:=qx_.mp hu;simpa using e
 rw[e1];exact ru
open SeqAt in
def Aq(I:ag X Qx σ H s){A:Around}(hu:A.units<cLine){t:Bool}{a b:Addr}{xs ys:List V}{Ts Us:List Tv}(ha:a_ X.K H t a xs)(hb:a_ X.K H t b ys)(lx:xs.length=Ts.length)(ly:ys.length=Us.length)
  (it:∀(j:Nat) (x y:V) (T U:Tv) (v u:Value),xs[j]?=some x->ys[j]?=some y->Ts[j]?=some T->Us[j]?=some U->ah x v->ah y u->EqAt A.in1 s v u (eqT T U)):RcAt A s (.ref a) (.ref b) (bO Ts Us)/\RcNeAt A s (.ref a) (.ref b) (!bO Ts Us):=by
 have item:∀{vs us:List Value},ai xs vs->ai ys us->∀j (h1:j<vs.toArray.size) (h2:j<us.toArray.size),EqAt A.in1 s vs.toArray[j] us.toArray[j] (eqT (Ts.getD j nT) (Us.getD j nT)):=λ{vs us} r1 r2 j h1 h2=>by
  obtain⟨x,ex,rx⟩:=Dp r1 h1;obtain⟨y,ey,ry⟩:=Dp r2 h2;have k1:=(qx_.mp ex).1;have k2:=(qx_.mp ey).1;refine it j x y _ _ _ _ ex ey ?_ ?_ rx ry
  ·rw[kg,b6 (by omega)];rfl
  ·rw[kg,b6 (by omega)];rfl
 cases t with
 |false=>
  obtain⟨vs,r1,l1⟩:=a_.isList I ha;obtain⟨us,r2,l2⟩:=a_.isList I hb;have n1:=r1.length;have n2:=r2.length;by_cases hl:Ts.length=Us.length
  ·have e1:=RcAt.lists l1 l2 (by simp only[ck];omega) hu (item r1 r2);have e2:=RcNeAt.lists l1 l2 (by simp only[ck];omega) hu (item r1 r2);rw[show vs.toArray.size=Ts.length by rw[ck];omega,vD hl]at e1 e2;exact⟨e1,e2⟩
  ·rw[wT hl];have hne:(vs.toArray.size != us.toArray.size)=true:=by
    rw[bne_iff_ne,ck,ck];omega
   exact⟨.lists_lengths l1 l2 hne hu,.lists_lengths l1 l2 hne hu⟩
 |true=>
  obtain⟨vs,r1,l1⟩:=a_.isTup I ha;obtain⟨us,r2,l2⟩:=a_.isTup I hb;have n1:=r1.length;have n2:=r2.length;have e1:=RcAt.tuples l1 l2 hu (item r1 r2);have e2:=RcNeAt.tuples l1 l2 hu (item r1 r2);have ee:((List.range (min vs.toArray.size us.toArray.size)).all (λi=>eqT (Ts.getD i nT) (Us.getD i nT))&&vs.toArray.size==us.toArray.size)=bO Ts Us:=by
   rw[show vs.toArray.size=Ts.length by rw[ck];omega,show us.toArray.size=Us.length by rw[ck];omega];by_cases hl:Ts.length=Us.length
   ·rw[<-hl,Nat.min_self,vD hl];simp
   ·rw[wT hl,beq_eq_false_iff_ne.mpr hl,n6]
  rw[ee]at e1 e2;exact⟨e1,e2⟩
open SeqAt in
def xP(I:ag X Qx σ H s):∀(n:Nat) {A:Around}{x y:V}{T U:Tv}{v u:Value},A.units+n<cLine->ff n T->ff n U->VP X.K H n x T->VP X.K H n y U->ah x v->ah y u->EqAt A s v u (eqT T U)
 |0,_,_,_,_,_,_,_,_,h,_,_,_,_,_=>False.elim h
 |n+1,A,x,y,T,U,v,u,hu,d,d',h,h',rx,ry=>by
  have hu0:A.units<cLine:=by omega
  have hh:=h;have hh':=h';rcases h with⟨f,rfl⟩|⟨t,a,xs,Ts,rfl,e2,rfl,z,p⟩|⟨a,kvs,kts,rfl,e2,rfl,_⟩
  ·rcases h' with⟨f',rfl⟩|⟨t',a',xs',Ts',rfl,e2',rfl,z',p'⟩|⟨a',kvs',kts',rfl,_,rfl,_⟩
   ·have:=A4 (A:=A) (s:=s) rx ry f f';simpa[eqT]using this
   ·cases ry;have:=(qN I hu0 f rx e2').1;simpa[eqT]using this
   ·exact False.elim d'
  ·rcases h' with⟨f',rfl⟩|⟨t',b,ys,Us,rfl,e2',rfl,z',p'⟩|⟨a',kvs',kts',rfl,_,rfl,_⟩
   ·cases rx;have:=(qN I hu0 f' ry e2).2.1;simpa[eqT]using this
   ·cases rx;cases ry;by_cases ab:a=b
    ·subst ab;have:=AR I hh hh' d d';rw[this];exact EqAt.same _
    ·by_cases tt:t=t'
     ·subst tt;have d:∀U∈Ts,ff n U:=d;have d':∀U∈Us,ff n U:=d';have:=(Aq I hu0 e2 e2' (Paired.length p) (Paired.length p') λj x y T U v u ex ey eT eU rx ry=>by
       obtain⟨T',eT',vx⟩:=fE p ex;obtain⟨U',eU',vy⟩:=fE p' ey;rw[eT]at eT';cases eT';rw[eU]at eU';cases eU';exact xP I n (by show A.units+1+n<_;omega) (d _ (gq eT)) (d' _ (gq eU)) vx vy rx ry).1
      have r:=EqAt.of_refs ab this;simpa[eqT]using r
     ·have e:eqT (.seq t Ts) (.seq t' Us)=false:=by simp[eqT,tt]
      rw[e];refine EqAt.of_refs ab ?_;cases t<;>cases t'<;>first|exact absurd rfl tt|skip
      ·obtain⟨_,_,l1⟩:=a_.isList I e2;obtain⟨_,_,l2⟩:=a_.isTup I e2';exact .list_tuple l1 l2 hu0
      ·obtain⟨_,_,l1⟩:=a_.isTup I e2;obtain⟨_,_,l2⟩:=a_.isList I e2';exact .tuple_list l1 l2 hu0
   ·exact False.elim d'
  ·exact False.elim d
end
def Fl(Ts Us:List Tv):Prop:=Ts=[]\/Us=[]\/((∀T∈Ts,ff 40 T)/\∀U∈Us,ff 40 U)
def kN(neg:Bool):P2
 |.leaf v,.leaf w,Q=>Q (bT (neg != cz v w))
 |.leaf _,.seq _ _,Q=>Q (bT neg)
 |.seq _ _,.leaf _,Q=>Q (bT neg)
 |.seq s xs,.seq t ys,Q=>Fl xs ys/\Q (bT (neg != (s==t&&bO xs ys)))
 |_,_,_=>False
section
variable{X:Cx}
open SeqAt in
def AQ{Qx:List (Addr×Obj)}{σ:St}{H:Hp}{s:Shared}(I:ag X Qx σ H s)(hu:X.A.units+64<cLine){neg:Bool}{x y:V}{T U:Tv}{v u:Value}{Q:Tv->Prop}(vx:VA X.K H x T)(vy:VA X.K H y U)(rx:ah x v)(ry:ah y u)(h:kN neg T U Q):
  ∃b,Q (bT (neg != b))/\RcAt X.A s v u b/\RcNeAt X.A s v u (!b):=by
 have hu0:X.A.units<cLine:=by omega
 unfold kN at h;split at h
 ·obtain⟨rfl,f⟩:=vx.leafI;obtain⟨rfl,f'⟩:=vy.leafI;exact⟨_,h,Lh f f' rx ry⟩
 ·obtain⟨rfl,f⟩:=vx.leafI;obtain⟨a,xs,rfl,hs,_⟩:=vy.seqI;cases ry;have r:=qN I hu0 f rx hs;exact⟨false,by simpa using h,r.2.2.1,r.2.2.2.2.1⟩
 ·obtain⟨rfl,f⟩:=vy.leafI;obtain⟨a,xs,rfl,hs,_⟩:=vx.seqI;cases rx;have r:=qN I hu0 f ry hs;exact⟨false,by simpa using h,r.2.2.2.1,r.2.2.2.2.2⟩
 ·rename_i t Ts t' Us;obtain⟨ok,q⟩:=h;obtain⟨a,xs,rfl,hs,z,p⟩:=vx.seqI;obtain⟨b,ys,rfl,hs',z',p'⟩:=vy.seqI;cases rx;cases ry;refine⟨_,q,?_⟩;by_cases tt:t=t'
  ·subst tt;have e:(t==t&&bO Ts Us)=bO Ts Us:=by simp
   rw[e];refine Aq I hu0 hs hs' (Paired.length p) (Paired.length p') λj x y T U v u ex ey eT eU rx ry=>?_
   rcases ok with rfl|rfl|⟨o1,o2⟩
   ·cases eT
   ·cases eU
   ·obtain⟨T',eT',d,vx⟩:=fE p ex;obtain⟨U',eU',d',vy⟩:=fE p' ey;rw[eT]at eT';cases eT';rw[eU]at eU';cases eU';have k1:=o1 _ (gq eT);have k2:=o2 _ (gq eU);exact xP I 40 (by show X.A.units+1+40<_;omega) k1 k2 (k1.vp vx) (k2.vp vy) rx ry
  ·have e:(t==t'&&bO Ts Us)=false:=by simp[tt]
   rw[e];cases t<;>cases t'<;>first|exact absurd rfl tt|skip
   ·obtain⟨_,_,l1⟩:=a_.isList I hs;obtain⟨_,_,l2⟩:=a_.isTup I hs';exact⟨.list_tuple l1 l2 hu0,.list_tuple l1 l2 hu0⟩
   ·obtain⟨_,_,l1⟩:=a_.isTup I hs;obtain⟨_,_,l2⟩:=a_.isList I hs';exact⟨.tuple_list l1 l2 hu0,.tuple_list l1 l2 hu0⟩
 ·exact False.elim h
def zq(K:W.Frag)(neg:Bool):R2:=λx y H Q=>∃T U,VA K H x T/\VA K H y U/\kN neg T U λW=>∃b,W=bT b/\Q (.bl b) H
def IJ(hu:X.A.units+64<cLine):cm X (compareOp .Eq) (zq X.K false):=by
 rintro Qx s σ H x y v u Q I rx ry ⟨T,U,vx,vy,h⟩;obtain⟨b,⟨b',e,q⟩,r,_⟩:=AQ I hu vx vy rx ry h;cases e;exact r X.prog X.w X.xe _ ⟨.bl b,H,I,rfl,by simpa using q⟩
def IM(hu:X.A.units+64<cLine):cm X (compareOp .NotEq) (zq X.K true):=by
 rintro Qx s σ H x y v u Q I rx ry ⟨T,U,vx,vy,h⟩;obtain⟨b,⟨b',e,q⟩,_,r⟩:=AQ I hu vx vy rx ry h;cases e;exact r X.prog X.w X.xe _ ⟨.bl (!b),H,I,rfl,by simpa using q⟩
def En{neg:Bool}{T U:Tv}{Q Q':Tv->Prop}(h:kN neg T U Q)(i:∀b,Q (bT b)->Q' (bT b)):kN neg T U Q':=by
 unfold kN at h ⊢;split at h
 ·exact i _ h
 ·exact i _ h
 ·exact i _ h
 ·exact⟨h.1,i _ h.2⟩
 ·exact False.elim h
abbrev x9:P2:=kN false
abbrev Ew:P2:=kN true
def lI(hu:X.A.units+64<cLine):b_ X (compareOp .Eq) x9:=⟨_,IJ hu,λx y T U H Q QQ vx vy h k=>⟨T,U,vx,vy,En h λb q=>⟨b,rfl,k _ _ _ (ay.refl _) (.flat rfl) q⟩⟩⟩
def Hm(hu:X.A.units+64<cLine):b_ X (compareOp .NotEq) Ew:=⟨_,IM hu,λx y T U H Q QQ vx vy h k=>⟨T,U,vx,vy,En h λb q=>⟨b,rfl,k _ _ _ (ay.refl _) (.flat rfl) q⟩⟩⟩
end
section
variable{X:Cx}{F:Fm}
def dP{K:W.Frag}{H:Hp}{xs:List V}{T:Tv}(h:cp K H xs [T]):∃x,xs=[x]/\VA K H x T:=by
 cases h with
 |cons r t=>cases t;exact⟨_,rfl,r⟩
def yS{K:W.Frag}{H:Hp}{xs:List V}{T U:Tv}(h:cp K H xs [T,U]):∃x y,xs=[x,y]/\VA K H x T/\VA K H y U:=by
 cases h with
 |cons r t=>
  obtain⟨y,rfl,v⟩:=dP t;exact⟨_,y,rfl,r,v⟩
def Hq(K:W.Frag):R2:=λx y H Q=>∃l b xs zs,x=.ref l/\y=.ref b/\Rd H l (.lst xs)/\Rd H b (.lst zs)/\xs.length+zs.length<=sizeLine/\∀p,H p=none->Q (.ref p) (ar H p (.lst (xs++zs)))
theorem Lq:cm X (binaryOp .Add) (Hq X.K):=by
 rintro Qx s σ H _ _ v u Q I rx ry ⟨l,b,xs,zs,rfl,rfl,hH,hB,hz,q⟩;cases rx;cases ry;obtain⟨z,its,n,r,e⟩:=hH.ok I.hok;obtain⟨z2,its2,n2,r2,e2⟩:=hB.ok I.hok;have l1:=r.length;have l2:=r2.length;refine PySem.P.add_list e e2 ?_ (by rw[ck,ck];omega);rw[show its.toArray++its2.toArray=(its++its2).toArray by simp];exact⟨.ref _,_,I.lnew (t':=s.toks) (r.append r2) (by rw[b7];omega),rfl,q _ I.fresh⟩
def zi:P2
 |.leaf (.int i),.leaf (.int j),Q=>Q (iT (i+j))
 |.leaf (.str x),.leaf (.str y),Q=>x.length+y.length<=100000/\Q (sT (x++y))
 |.seq true xs,.seq true ys,Q=>xs.length+ys.length<=100000/\Q (.seq true (xs++ys))
 |.seq false xs,.seq false ys,Q=>xs.length+ys.length<=100000/\Q (.seq false (xs++ys))
 |_,_,_=>False
def dH:gM X (binaryOp .Add) zi:=⟨_,op_add.or (op_add_str.or (op_catG.or Lq)),λx y T U H Q QQ vx vy h k=>by
 unfold zi at h;split at h
 ·obtain⟨rfl,_⟩:=vx.leafI;obtain⟨rfl,_⟩:=vy.leafI;exact .inl ⟨_,_,rfl,rfl,k _ _ _ (.flat rfl) h⟩
 ·obtain⟨rfl,_⟩:=vx.leafI;obtain⟨rfl,_⟩:=vy.leafI;exact .inr (.inl ⟨_,_,rfl,rfl,iJ h.1,k _ _ _ (.flat rfl) h.2⟩)
 ·obtain⟨a,xs,rfl,hs,z,p⟩:=vx.seqI;obtain⟨b,ys,rfl,hs',z',p'⟩:=vy.seqI;have l1:xs.length=_:=Paired.length p;have l2:ys.length=_:=Paired.length p';refine .inr (.inr (.inl ⟨a,b,xs,ys,rfl,rfl,hs,hs',iJ (by omega),λr H' hr sm=>k _ _ _ ⟨sm,.inl (VA.seq (t:=true) hr (by rw[b7];exact h.1) (qR (p.hs sm.hs) (p'.hs sm.hs)))⟩ h.2⟩))
 ·obtain⟨a,xs,rfl,⟨ob,hs⟩,z,p⟩:=vx.seqI;obtain⟨b,ys,rfl,⟨ob',hs'⟩,z',p'⟩:=vy.seqI;have l1:xs.length=_:=Paired.length p;have l2:ys.length=_:=Paired.length p';refine .inr (.inr (.inr ⟨a,b,xs,ys,rfl,rfl,.inr ⟨ob,hs⟩,.inr ⟨ob',hs'⟩,iJ (by omega),λr n=>k _ _ _ (iz.lst n (by rw[b7];exact h.1) (qR p p')) h.2⟩))
 ·exact False.elim h⟩
def uy(C:Int->Int->Prop)(g:Int->Int->V):P2
 |.leaf (.int i),.leaf (.int j),Q=>C i j/\Q (.leaf (g i j))
 |_,_,_=>False
def tF{f:Value->Value->Sem Value}{C:Int->Int->Prop}{g:Int->Int->V}(h:cm X f (rI C g))(fl:∀i j,dO (g i j)=true):b_ X f (uy C g):=⟨_,h,λx y T U H Q QQ vx vy h k=>by
 unfold uy at h;split at h
 ·obtain⟨rfl,_⟩:=vx.leafI;obtain⟨rfl,_⟩:=vy.leafI;exact⟨_,_,rfl,rfl,h.1,k _ _ _ (ay.refl _) (.flat (fl _ _)) h.2⟩
 ·exact False.elim h⟩
def qC(g:Int->Int->V):P2
 |.leaf (.int i),.leaf (.int j),Q=>Q (.leaf (g i j))
 |_,_,_=>False
def yD{f:Value->Value->Sem Value}{g:Int->Int->V}(h:cm X f (q0 g))(fl:∀i j,dO (g i j)=true):b_ X f (qC g):=⟨_,h,λx y T U H Q QQ vx vy h k=>by
 unfold qC at h;split at h
 ·obtain⟨rfl,_⟩:=vx.leafI;obtain⟨rfl,_⟩:=vy.leafI;exact⟨_,_,rfl,rfl,k _ _ _ (ay.refl _) (.flat (fl _ _)) h⟩
 ·exact False.elim h⟩
abbrev Gg:P2:=qC λi j=>.int (i-j)
def jJ:gM X (binaryOp .Sub) Gg:=(yD IR λ_ _=>rfl).op
def FU(i j:Int):Prop:=qz i j\/(c_ i/\c_ j)
def zT:P2
 |.leaf (.int i),.leaf (.int j),Q=>FU i j/\Q (iT (i*j))
 |.leaf (.str z),.leaf (.int n),Q=>(z.length<=1000/\n<=1000 /\ -1000<=n)/\Q (sT (nS z n))
 |_,_,_=>False
def Ik:gM X (binaryOp .Mult) zT:=⟨_,op_mul.or (op_mulB.or Lu),λx y T U H Q QQ vx vy h k=>by
 unfold zT at h;split at h
 ·obtain⟨rfl,_⟩:=vx.leafI;obtain⟨rfl,_⟩:=vy.leafI;rcases h.1 with c|c
  ·exact .inl ⟨_,_,rfl,rfl,c,k _ _ _ (.flat rfl) h.2⟩
  ·exact .inr (.inl ⟨_,_,rfl,rfl,c,k _ _ _ (.flat rfl) h.2⟩)
 ·obtain⟨rfl,_⟩:=vx.leafI;obtain⟨rfl,_⟩:=vy.leafI;exact .inr (.inr ⟨_,_,rfl,rfl,h.1.1,h.1.2.1,h.1.2.2,k _ _ _ (.flat rfl) h.2⟩)
 ·exact False.elim h⟩
abbrev HQ:P2:=uy (λ_ j=>0<j/\c_ j) λi j=>.int (i / j)
def Cb:gM X (binaryOp .FloorDiv) HQ:=(tF C8 λ_ _=>rfl).op
abbrev Gd:P2:=uy (λ_ j=>0<j) λi j=>.int (i % j)
def yC:gM X (binaryOp .Mod) Gd:=(tF jL λ_ _=>rfl).op
abbrev Ge:P2:=uy Ag λi j=>.int (i ^ j.toNat)
def oZ:gM X (binaryOp .Pow) Ge:=(tF Bb λ_ _=>rfl).op
def Ex:P2
 |.leaf (.int i),.leaf (.int j),Q=>Q (bT (decide (i<j)))
 |.leaf (.str x),.leaf (.str y),Q=>Q (bT (decide (x.cps.toList<y.cps.toList)))
 |_,_,_=>False
def lH:b_ X (compareOp .Lt) Ex:=⟨_,op_lt.or MO,λx y T U H Q QQ vx vy h k=>by
 unfold Ex at h;split at h
 ·obtain⟨rfl,_⟩:=vx.leafI;obtain⟨rfl,_⟩:=vy.leafI;exact .inl ⟨_,_,rfl,rfl,k _ _ _ (ay.refl _) (.flat rfl) h⟩
 ·obtain⟨rfl,_⟩:=vx.leafI;obtain⟨rfl,_⟩:=vy.leafI;exact .inr ⟨_,_,rfl,rfl,k _ _ _ (ay.refl _) (.flat rfl) h⟩
 ·exact False.elim h⟩
abbrev Py:P2:=qC λi j=>.bl (decide (i<=j))
def tE:b_ X (compareOp .LtE) Py:=yD HP λ_ _=>rfl
abbrev Pz:P2:=qC λi j=>.bl (decide (j<i))
def AU:b_ X (compareOp .Gt) Pz:=yD HN λ_ _=>rfl
def yz(v:V):Tv->Bool
 |.leaf w=>decide (w=v)
 |_=>false
def sQ{K:W.Frag}{H:Hp}{x v:V}{T:Tv}(f:dO v=true)(h:VA K H x T):decide (x=v)=yz v T:=by
 cases T with
 |leaf w=>obtain⟨rfl,_⟩:=h.leafI;rfl
 |seq t Ts=>
  obtain⟨a,_,rfl,_⟩:=h.seqI;exact i4 (λz=>by rw[<-z]at f;cases f)
 |dct kts=>
  obtain⟨a,_,rfl,_⟩:=h.dctI;exact i4 (λz=>by rw[<-z]at f;cases f)
def uM(neg:Bool):P2
 |T,.leaf .non,Q=>Q (bT (neg != yz .non T))
 |T,.leaf (.bl b),Q=>Q (bT (neg != yz (.bl b) T))
 |_,_,_=>False
abbrev Ez:P2:=uM false
abbrev Bc:P2:=uM true
def nC:b_ X (compareOp .Is) Ez:=⟨_,op_isN.or IL,λx y T U H Q QQ vx vy h k=>by
 unfold Ez uM at h;split at h
 ·obtain⟨rfl,_⟩:=vy.leafI;exact .inl ⟨rfl,k _ _ _ (ay.refl _) (.flat rfl) (by rw[sQ rfl vx];simpa using h)⟩
 ·obtain⟨rfl,_⟩:=vy.leafI;exact .inr ⟨_,rfl,k _ _ _ (ay.refl _) (.flat rfl) (by rw[sQ rfl vx];simpa using h)⟩
 ·exact False.elim h⟩
def LG:b_ X (compareOp .IsNot) Bc:=⟨_,op_notN.or MN,λx y T U H Q QQ vx vy h k=>by
 unfold Bc uM at h;split at h
 ·obtain⟨rfl,_⟩:=vy.leafI;exact .inl ⟨rfl,k _ _ _ (ay.refl _) (.flat rfl) (by rw[sQ rfl vx];simpa using h)⟩
 ·obtain⟨rfl,_⟩:=vy.leafI;exact .inr ⟨_,rfl,k _ _ _ (ay.refl _) (.flat rfl) (by rw[sQ rfl vx];simpa using h)⟩
 ·exact False.elim h⟩
def xY{Qx:List (Addr×Obj)}{σ:St}{H:Hp}{s:Shared}(I:ag X Qx σ H s):∀{n:Nat}{x:V}{T U:Tv},ff n T->ff n U->VP X.K H n x T->VP X.K H n x U->T=U
 |0,_,_,_,h,_,_,_=>False.elim h
 |n+1,x,T,U,d,d',h,h'=>by
  rcases h with⟨f,rfl⟩|⟨t,a,xs,Ts,rfl,e2,rfl,z,p⟩|⟨a,kvs,kts,rfl,e2,rfl,_⟩
  ·rcases h' with⟨_,rfl⟩|⟨t',a',xs',Ts',rfl,_⟩|⟨a',kvs',kts',rfl,_⟩
   ·rfl
   ·cases f
   ·cases f
  ·rcases h' with⟨f,rfl⟩|⟨t',a',xs',Ts',e1',e2',rfl,z',p'⟩|⟨a',kvs',kts',e1',e2',rfl,_⟩
   ·cases f
   ·cases e1';have tt:t=t':=by
     cases t<;>cases t'<;>first|rfl|skip
     ·obtain⟨_,_,l1⟩:=a_.isList I e2;obtain⟨_,_,l2⟩:=a_.isTup I e2';exact absurd rfl (SeqAt.ne_of_list_tuple l1 l2)
     ·obtain⟨_,_,l1⟩:=a_.isList I e2';obtain⟨_,_,l2⟩:=a_.isTup I e2;exact absurd rfl (SeqAt.ne_of_list_tuple l1 l2)
    subst tt;have ex:xs=xs':=by
     cases t with
     |false=>exact I.list_inj (cS e2) (cS e2')
     |true=>exact I.tuple_inj e2 e2'
    subst ex;have g:∀U∈Ts,ff n U:=d;have g':∀U∈Ts',ff n U:=d';have key:∀{xs:List V} {Ts Ts':List Tv},Paired (VP X.K H n) xs Ts->Paired (VP X.K H n) xs Ts'->(∀U∈Ts,ff n U)->(∀U∈Ts',ff n U)->Ts=Ts':=by
     intro xs Ts Ts' p
     induction p generalizing Ts' with
     |nil=>intro p' _ _;cases p';rfl
     |cons r _ ih=>
      intro p' d d';cases p' with
      |cons r' t'=>rw[xY I (d _ (.head _)) (d' _ (.head _)) r r',ih t' (λU hU=>d U (.tail _ hU)) (λU hU=>d' U (.tail _ hU))]
    rw[key p p' g g']
   ·exact False.elim d'
  ·exact False.elim d
def qG(T:Tv)(Us:List Tv):Prop:=ff 40 T/\∀U∈Us,ff 40 U
open Classical in
def rR{Qx:List (Addr×Obj)}{σ:St}{H:Hp}{s:Shared}(I:ag X Qx σ H s)(hu:X.A.units+64<cLine){x:V}{T:Tv}{v:Value}{ys:List V}{Us:List Tv}{its:List Value}(vx:VA X.K H x T)(rx:ah x v)(p:cp X.K H ys Us)(r:ai ys its)(ok:qG T Us):
  ∃e:Value->Bool,(∀y,y∈its.toArray->SeqAt.EqAt X.A.in1 s y v (e y))/\its.toArray.any e=Us.any λU=>eqT U T:=by
 obtain⟨dx,vx⟩:=vx;have hx:=ok.1.vp vx;refine⟨λw=>decide (∃y U,ah y w/\VP X.K H 40 y U/\ff 40 U/\eqT U T=true),λw hw=>?_,?_⟩
 ·have hw:w∈its:=by simpa using hw
  obtain⟨j,hj,rfl⟩:=qi2_.mp hw;have hj':j<ys.length:=by rw[r.length];exact hj
  obtain⟨u,eu,ru⟩:=r.get (b6 hj');rw[b6 hj]at eu;cases eu;obtain⟨U,eU,d,vU⟩:=fE p (b6 hj');have dU:=ok.2 U (gq eU);have e:=xP I 40 (A:=X.A.in1) (by show X.A.units+1+40<_;omega) dU ok.1 (dU.vp vU) hx ru rx;have ee:decide (∃y U,ah y its[j]/\VP X.K H 40 y U/\ff 40 U/\eqT U T=true)=eqT U T:=by
   rw[i9,decide_eq_true_iff];constructor
   ·rintro⟨y,U',ry,vy,dy,z⟩;have:=ah.inj ry ru;subst this;rw[xY I dU dy (dU.vp vU) vy];exact z
   ·intro z;exact⟨_,U,ru,dU.vp vU,dU,z⟩
  show SeqAt.EqAt X.A.in1 s its[j] v (decide (∃y U,ah y its[j]/\VP X.K H 40 y U/\ff 40 U/\eqT U T=true));rw[ee];exact e
 ·rw[i9,Array.any_eq_true',qL_];constructor
  ·rintro⟨w,hw,z⟩;rw[decide_eq_true_iff]at z;obtain⟨y,U',ry,vy,dy,z⟩:=z;have hw:w∈its:=by simpa using hw
   obtain⟨j,hj,rfl⟩:=qi2_.mp hw;have hj':j<ys.length:=by rw[r.length];exact hj
   obtain⟨u,eu,ru⟩:=r.get (b6 hj');rw[b6 hj]at eu;cases eu;obtain⟨U,eU,d,vU⟩:=fE p (b6 hj');have dU:=ok.2 U (gq eU);have:=ah.inj ry ru;subst this;refine⟨U,gq eU,?_⟩;rw[xY I dU dy (dU.vp vU) vy];exact z
  ·rintro⟨U,hU,z⟩;obtain⟨j,hj,rfl⟩:=qi2_.mp hU;obtain⟨y,ey,d,vy⟩:=qL p (b6 hj);obtain⟨u,eu,ru⟩:=r.get ey;have dU:=ok.2 _ hU;exact⟨u,by simpa using gq eu,jd ⟨y,_,ru,dU.vp vy,dU,z⟩⟩
def zr(K:W.Frag)(neg:Bool):R2:=λx y H Q=>∃T t Us,VA K H x T/\VA K H y (.seq t Us)/\qG T Us/\Q (.bl (neg != Us.any λU=>eqT U T)) H
def IK(hu:X.A.units+64<cLine):cm X (compareOp .In) (zr X.K false):=by
 rintro Qx s σ H x y v u Q I rx ry ⟨T,t,Us,vx,vy,ok,q⟩;obtain⟨a,ys,rfl,hs,z,p⟩:=vy.seqI;cases ry;cases t with
 |false=>
  obtain⟨its,r,l⟩:=a_.isList I hs;obtain⟨e,h1,h2⟩:=rR I hu vx rx p r ok;exact SeqAt.in_listAt e l h1 ⟨.bl _,H,I,rfl,by rw[h2];simpa using q⟩
 |true=>
  obtain⟨its,r,l⟩:=a_.isTup I hs;obtain⟨e,h1,h2⟩:=rR I hu vx rx p r ok;exact SeqAt.in_tupleAt e l h1 ⟨.bl _,H,I,rfl,by rw[h2];simpa using q⟩
def MP(hu:X.A.units+64<cLine):cm X (compareOp .NotIn) (zr X.K true):=by
 rintro Qx s σ H x y v u Q I rx ry ⟨T,t,Us,vx,vy,ok,q⟩;obtain⟨a,ys,rfl,hs,z,p⟩:=vy.seqI;cases ry;cases t with
 |false=>
  obtain⟨its,r,l⟩:=a_.isList I hs;obtain⟨e,h1,h2⟩:=rR I hu vx rx p r ok;exact SeqAt.notIn_listAt e l h1 ⟨.bl _,H,I,rfl,by rw[h2];simpa using q⟩
 |true=>
  obtain⟨its,r,l⟩:=a_.isTup I hs;obtain⟨e,h1,h2⟩:=rR I hu vx rx p r ok;exact SeqAt.notIn_tupleAt e l h1 ⟨.bl _,H,I,rfl,by rw[h2];simpa using q⟩
def Ld:R2:=λy x H Q=>∃a o,x=.ref a/\jW H a y o/\Q (.bl (!o.isSome)) H
def OU(hu:X.A.units+1<cLine):cm X (compareOp .NotIn) Ld:=by
 rintro Qx s σ H y _ u v Q I ry rx ⟨a,o,rfl,g,q⟩;cases rx;exact Jz hu I g ry λs' I'=>⟨.bl _,H,I',rfl,q⟩
def qr(i j:Str):Bool:=!(Builtin.Str.occurrences j i 0 j.length 1).isEmpty
def uN(neg:Bool):P2
 |T,.seq _ Us,Q=>qG T Us/\Q (bT (neg != Us.any λU=>eqT U T))
 |.leaf (.str i),.leaf (.str j),Q=>Q (bT (neg != qr i j))
 |.leaf (.str k),.dct kts,Q=>Q (bT (neg != (bX kts k).isSome))
 |_,_,_=>False
abbrev EA:P2:=uN false
abbrev Bd:P2:=uN true
def nD(hu:X.A.units+64<cLine):b_ X (compareOp .In) EA:=⟨_,(IK hu).or (op_in_str.or (Oy (by omega))),λx y T U H Q QQ vx vy h k=>by
 unfold EA uN at h;split at h
 ·exact .inl ⟨_,_,_,vx,vy,h.1,k _ _ _ (ay.refl _) (.flat rfl) h.2⟩
 ·obtain⟨rfl,_⟩:=vx.leafI;obtain⟨rfl,_⟩:=vy.leafI;exact .inr (.inl ⟨_,_,rfl,rfl,k _ _ _ (ay.refl _) (.flat rfl) (by simpa[qr]using h)⟩)
 ·rename_i kk kts;obtain⟨rfl,_⟩:=vx.leafI;obtain⟨a,kvs,rfl,⟨ob,hd⟩,n,z,p⟩:=vy.dctI;refine .inr (.inr ⟨a,_,rfl,.inl ⟨kvs,.inr kk,.inr ⟨ob,hd⟩,rfl,rfl⟩,k _ _ _ (ay.refl _) (.flat rfl) ?_⟩);rcases sC p kk with⟨e1,e2⟩|⟨U,v,e1,e2,_⟩
  ·rw[e2];rw[e1]at h;exact h
  ·rw[e2];rw[e1]at h;exact h
 ·exact False.elim h⟩
def Dd(hu:X.A.units+64<cLine):b_ X (compareOp .NotIn) Bd:=⟨_,(MP hu).or (op_notIn_str.or (OU (by omega))),λx y T U H Q QQ vx vy h k=>by
 unfold Bd uN at h;split at h
 ·exact .inl ⟨_,_,_,vx,vy,h.1,k _ _ _ (ay.refl _) (.flat rfl) h.2⟩
 ·obtain⟨rfl,_⟩:=vx.leafI;obtain⟨rfl,_⟩:=vy.leafI;exact .inr (.inl ⟨_,_,rfl,rfl,k _ _ _ (ay.refl _) (.flat rfl) (by simpa[qr]using h)⟩)
 ·rename_i kk kts;obtain⟨rfl,_⟩:=vx.leafI;obtain⟨a,kvs,rfl,⟨ob,hd⟩,n,z,p⟩:=vy.dctI;refine .inr (.inr ⟨a,_,rfl,.inl ⟨kvs,.inr kk,.inr ⟨ob,hd⟩,rfl,rfl⟩,k _ _ _ (ay.refl _) (.flat rfl) ?_⟩);rcases sC p kk with⟨e1,e2⟩|⟨U,v,e1,e2,_⟩
  ·rw[e2];rw[e1]at h;exact h
  ·rw[e2];rw[e1]at h;exact h
 ·exact False.elim h⟩
def uw:P2
 |.seq _ Ts,.leaf (.int i),Q=>∃U,gh Ts i=some U/\Q U
 |.leaf (.str z),.leaf (.int i),Q=>z.length<=100000/\∃c,gh z.cps.toList i=some c/\Q (sT ⟨#[c]⟩)
 |.dct kts,.leaf (.str k),Q=>∃U,bX kts k=some U/\Q U
 |_,_,_=>False
def D1{α β:Type}{R:α->β->Prop}{xs:List α}{ys:List β}{i:Int}{y:β}(p:Paired R xs ys)(h:gh ys i=some y):∃x,gh xs i=some x/\R x y:=by
 unfold gh at h ⊢;rw[Paired.length p];cases e:ng ys.length i with
 |none=>rw[e]at h;cases h
 |some j=>
  rw[e]at h;obtain⟨x,ex,r⟩:=qL p (show ys[j]?=some y from h);exact⟨x,ex,r⟩
def Hl(hu:X.A.units+64<cLine):Ai X uw:=⟨_,ix_seq.or (JJ (by omega)),λx y T U H Q QQ vx vy h k=>by
 unfold uw at h;split at h
 ·rename_i t Ts i;obtain⟨rfl,_⟩:=vy.leafI;obtain⟨a,xs,rfl,hs,z,p⟩:=vx.seqI;obtain⟨U,e,q⟩:=h;obtain⟨x,ex,v⟩:=D1 p e;cases t with
  |false=>exact .inl (.inl ⟨a,xs,i,x,rfl,rfl,cS hs,ex,k _ _ _ (.va v) q⟩)
  |true=>exact .inl (.inr (.inl ⟨a,xs,i,x,rfl,rfl,hs,ex,k _ _ _ (.va v) q⟩))
 ·obtain⟨rfl,_⟩:=vx.leafI;obtain⟨rfl,_⟩:=vy.leafI;obtain⟨l,c,e,q⟩:=h;exact .inl (.inr (.inr ⟨_,_,c,rfl,rfl,iJ l,e,k _ _ _ (.flat rfl) q⟩))
 ·rename_i kts kk;obtain⟨rfl,_⟩:=vy.leafI;obtain⟨a,kvs,rfl,⟨ob,hd⟩,n,z,p⟩:=vx.dctI;obtain⟨U,e,q⟩:=h;rcases sC p kk with⟨e1,e2⟩|⟨U',v,e1,e2,vv⟩
  ·rw[e1]at e;cases e
  ·rw[e1]at e;cases e;exact .inr ⟨a,v,rfl,.inl ⟨kvs,.inr kk,.inr ⟨ob,hd⟩,rfl,e2.symm⟩,k _ _ _ (.va vv) q⟩
 ·exact False.elim h⟩
def kP{α:Type}(xs:List α)(lo hi:Option Int):List α:=(xs.drop (HT.sIx xs.length 0 lo)).take (HT.sIx xs.length xs.length hi-HT.sIx xs.length 0 lo)
def DE{α β:Type}{R:α->β->Prop}:∀{l:List α}{m:List β}(n:Nat),Paired R l m->Paired R (l.drop n) (m.drop n)
 |_,_,0,p=>p
 |_,_,_+1,.nil=>.nil
 |_,_,n+1,.cons _ t=>DE n t
def Eo{α β:Type}{R:α->β->Prop}:∀{l:List α}{m:List β}(n:Nat),Paired R l m->Paired R (l.take n) (m.take n)
 |_,_,0,p=>by rw[rq,rq];exact .nil
 |_,_,_+1,.nil=>.nil
 |_,_,n+1,.cons r t=>.cons r (Eo n t)
def Ec{α β:Type}{R:α->β->Prop}{l:List α}{m:List β}(lo hi:Option Int)(p:Paired R l m):Paired R (kP l lo hi) (kP m lo hi):=by
 unfold kP;rw[Paired.length p];exact Eo _ (DE _ p)
def Ms{α:Type}(xs:List α)(lo hi:Option Int):(kP xs lo hi).length<=xs.length:=by
 unfold kP;rw[jj,mx];omega
def Gf:yc
 |.seq t Ts,lo,hi,Q=>Q (.seq t (kP Ts lo hi))
 |.leaf (.str z),lo,hi,Q=>z.length<=100000/\Q (sT (Txt.slice z lo hi))
 |_,_,_,_=>False
def jO:Al X Gf:=⟨_,sl_list.or (sl_tupW.or Kl),λx T lo hi H Q QQ vx h k=>by
 cases T with
 |seq t Ts=>
  have h:Q (.seq t (kP Ts lo hi)):=h;obtain⟨a,xs,rfl,hs,z,p⟩:=vx.seqI;have z':(kP Ts lo hi).length<=100000:=bw (Ms _ _ _) z;cases t with
  |false=>exact .inl ⟨a,xs,rfl,cS hs,λr n=>k _ _ _ (iz.lst n z' (Ec lo hi p)) h⟩
  |true=>exact .inr (.inl ⟨a,xs,rfl,hs,λr H' sm hr=>k _ _ _ ⟨sm,.inl (VA.seq (t:=true) hr z' (Paired.mapP (Ec lo hi p) λ_ _ q=>VA.hs sm.hs q))⟩ h⟩)
 |leaf w=>
  cases w with
  |str zz=>
   have h:zz.length<=100000/\Q (sT (Txt.slice zz lo hi)):=h;obtain⟨rfl,_⟩:=vx.leafI;exact .inr (.inr ⟨_,rfl,iJ h.1,k _ _ _ (.flat rfl) h.2⟩)
  |_=>exact False.elim h
 |dct kts=>exact False.elim h⟩
def uK:Pn
 |[.seq _ Ts],Q=>Q (iT Ts.length)
 |[.leaf (.str z)],Q=>z.length<=100000/\Q (iT z.length)
 |[.dct kts],Q=>Q (iT kts.length)
 |_,_=>False
def cE:iN X (.builtin "len") uK:=⟨_,call_len_seq.or (call_len_str.or Od),λxs Ts H Q QQ vx h k=>by
 unfold uK at h;split at h
 ·rename_i t Ts;obtain⟨x,rfl,v⟩:=dP vx;obtain⟨a,xs,rfl,hs,z,p⟩:=v.seqI;have l:xs.length=_:=Paired.length p;refine .inl ⟨a,xs,rfl,?_,k _ _ _ (.flat rfl) (by rw[l];exact h)⟩;cases t with
  |false=>exact .inl (cS hs)
  |true=>exact .inr hs
 ·obtain⟨x,rfl,v⟩:=dP vx;obtain⟨rfl,_⟩:=v.leafI;exact .inr (.inl ⟨_,rfl,iJ h.1,k _ _ _ (.flat rfl) h.2⟩)
 ·obtain⟨x,rfl,v⟩:=dP vx;obtain⟨a,kvs,rfl,⟨ob,hd⟩,n,z,p⟩:=v.dctI;have l:kvs.length=_:=Paired.length p;exact .inr (.inr ⟨a,kvs,rfl,.inr ⟨ob,hd⟩,k _ _ _ (.flat rfl) (by rw[l];exact h)⟩)
 ·exact False.elim h⟩
def uO(T:String):Tv->Bool
 |.leaf .non=>false
 |.leaf (.bl _)=>T=="bool" || T=="int"
 |.leaf (.int _)=>T=="int"
 |.leaf (.str _)=>T=="str"
 |.leaf _=>false
 |.seq false _=>T=="list"
 |.seq true _=>T=="tuple"
 |.dct _=>T=="dict"
def GR{K:W.Frag}{H:Hp}{x:V}{W:Tv}(T:String)(v:VA K H x W):rj K T x H (uO T W):=by
 cases W with
 |leaf w=>
  obtain⟨rfl,f⟩:=v.leafI;rcases kS f with rfl|⟨b,rfl⟩|⟨b,rfl⟩|⟨b,rfl⟩<;>rfl
 |seq t Ts=>
  obtain⟨a,xs,rfl,hs,z,p⟩:=v.seqI;cases t with
  |false=>exact .inl ⟨xs,cS hs,rfl⟩
  |true=>exact .inr (.inl ⟨xs,hs,rfl⟩)
 |dct kts=>
  obtain⟨a,kvs,rfl,⟨ob,hd⟩,n,z,p⟩:=v.dctI;exact .inr (.inr ⟨kvs,.inr ⟨ob,hd⟩,rfl⟩)
def FP(T:String)(u:UT):UT:=λρ Q=>u ρ λW ρ1=>Q (bT (uO T W)) ρ1
def cH{e t:Expr}{u:UT}{p pos:Pos}(T:String)(hc:aq X (.builtin "isinstance") (λxs H Q=>∃x b,xs=[x,.ty T]/\rj X.K T x H b/\Q (.bl b) H))(hg:Gl X "isinstance")(hm:X.mg "isinstance"=none)(he:UE X F e u)(ht:PE X t (tC (.ty T)))
  (h1:dJ e=false:=by rfl) (h2:dJ t=false:=by rfl) (hpl:(backTo pos (starEach [t] X.env)).any (·.1)=false:=by rfl):UE X F (.Call (.Name "isinstance" p) [e,t] [] pos) (FP T u):=
 ⟨PE.imp (iG hc hg hm boot_isinstance (cV he.pe (cV ht dC h2) h1) (by decide) (by decide) (gA h1) hpl) λσ H QQ ⟨ρ,Q,f,h,k⟩=>
  ⟨ρ,_,f,h,λx W H1 ρ1 s1 v1 q1=>⟨x,_,rfl,GR T v1,k _ _ _ _ s1 (.flat rfl) q1⟩⟩⟩
theorem oM{K:W.Frag}{H:Hp}:∀{xs:List V}{bs:List Bool},cp K H xs (bs.map bT)->xs=bs.map V.bl
 |[],[],_=>rfl
 |_::_,_::_,.cons r t=>by rw[dz,<-oM t,(VA.leafI r).1]
theorem oF{K:W.Frag}{H:Hp}:∀{xs:List V}{ns:List Int},cp K H xs (ns.map iT)->xs=ns.map V.int
 |[],[],_=>rfl
 |_::_,_::_,.cons r t=>by rw[dz,<-oF t,(VA.leafI r).1]
theorem jA{K:W.Frag}{H:Hp}:∀{xs:List V}{ss:List Str},cp K H xs (ss.map sT)->xs=ss.map V.str
 |[],[],_=>rfl
 |_::_,_::_,.cons r t=>by rw[dz,<-jA t,(VA.leafI r).1]
theorem xZ{K:W.Frag}{H:Hp}:∀(bs:List Bool),cp K H (bs.map V.bl) (bs.map bT)
 |[]=>.nil
 |_::bs=>.cons (.flat rfl) (xZ bs)
theorem wZ{K:W.Frag}{H:Hp}:∀(ns:List Int),cp K H (ns.map V.int) (ns.map iT)
 |[]=>.nil
 |_::ns=>.cons (.flat rfl) (wZ ns)
theorem mM{K:W.Frag}{H:Hp}:∀(ss:List Str),cp K H (ss.map V.str) (ss.map sT)
 |[]=>.nil
 |_::ss=>.cons (.flat rfl) (mM ss)
def GP:Pn:=λTs Q=>∃bs:List Bool,Ts=[.seq false (bs.map bT)]/\Q (bT (bs.any id))
def Ij(hc:X.calm=true):iN X (.builtin "any") GP:=⟨_,M9 hc,λxs Ts H Q QQ vx h k=>by
 obtain⟨bs,rfl,q⟩:=h;obtain⟨x,rfl,v⟩:=dP vx;obtain⟨a,ys,rfl,hs,z,p⟩:=v.seqI;rw[oM p]at hs;exact⟨a,bs,rfl,cS hs,k _ _ _ (.flat rfl) q⟩⟩
def Gc:Pn:=λTs Q=>(∃i j:Int,Ts=[iT i,iT j]/\Q (iT (min i j)))\/(∃ns:List Int,Ts=[.seq false (ns.map iT)]/\0<ns.length/\∀M,M∈ns->(∀a∈ns,M<=a)->Q (iT M)) \/
 ∃ss:List Str,Ts=[.seq false (ss.map sT)]/\0<ss.length/\∀x,x∈ss->(∀y∈ss,x.cps.toList<=y.cps.toList)->Q (sT x)
def GQ:Pn:=λTs Q=>(∃i j:Int,Ts=[iT i,iT j]/\Q (iT (max i j)))\/(∃ns:List Int,Ts=[.seq false (ns.map iT)]/\0<ns.length/\∀M,M∈ns->(∀a∈ns,a<=M)->Q (iT M)) \/
 ∃ss:List Str,Ts=[.seq false (ss.map sT)]/\0<ss.length/\∀x,x∈ss->(∀y∈ss,y.cps.toList<=x.cps.toList)->Q (sT x)
def iM(hc:X.calm=true):iN X (.builtin "min") Gc:=⟨_,(Nc hc).or ((Nb hc).or (D3 hc)),λxs Ts H Q QQ vx h k=>by
 rcases h with⟨i,j,rfl,q⟩|⟨ns,rfl,l,q⟩|⟨ss,rfl,l,q⟩
 ·obtain⟨x,y,rfl,v,v'⟩:=yS vx;obtain⟨rfl,_⟩:=v.leafI;obtain⟨rfl,_⟩:=v'.leafI;refine .inl ⟨i,j,rfl,k _ _ _ (.flat rfl) ?_⟩;have e:(if j<i then j else i)=min i j:=by split<;>omega
  rw[e];exact q
 ·obtain⟨x,rfl,v⟩:=dP vx;obtain⟨a,ys,rfl,hs,z,p⟩:=v.seqI;rw[oF p]at hs;exact .inr (.inl ⟨a,ns,rfl,cS hs,l,λM h1 h2=>k _ _ _ (.flat rfl) (q M h1 h2)⟩)
 ·obtain⟨x,rfl,v⟩:=dP vx;obtain⟨a,ys,rfl,hs,z,p⟩:=v.seqI;rw[jA p]at hs;exact .inr (.inr ⟨a,ss,rfl,cS hs,l,λM h1 h2=>k _ _ _ (.flat rfl) (q M h1 h2)⟩)⟩
def gZ(hc:X.calm=true):iN X (.builtin "max") GQ:=⟨_,(Na hc).or ((M_ hc).or (D2 hc)),λxs Ts H Q QQ vx h k=>by
 rcases h with⟨i,j,rfl,q⟩|⟨ns,rfl,l,q⟩|⟨ss,rfl,l,q⟩
 ·obtain⟨x,y,rfl,v,v'⟩:=yS vx;obtain⟨rfl,_⟩:=v.leafI;obtain⟨rfl,_⟩:=v'.leafI;refine .inl ⟨i,j,rfl,k _ _ _ (.flat rfl) ?_⟩;have e:(if j > i then j else i)=max i j:=by split<;>omega
  rw[e];exact q
 ·obtain⟨x,rfl,v⟩:=dP vx;obtain⟨a,ys,rfl,hs,z,p⟩:=v.seqI;rw[oF p]at hs;exact .inr (.inl ⟨a,ns,rfl,cS hs,l,λM h1 h2=>k _ _ _ (.flat rfl) (q M h1 h2)⟩)
 ·obtain⟨x,rfl,v⟩:=dP vx;obtain⟨a,ys,rfl,hs,z,p⟩:=v.seqI;rw[jA p]at hs;exact .inr (.inr ⟨a,ss,rfl,cS hs,l,λM h1 h2=>k _ _ _ (.flat rfl) (q M h1 h2)⟩)⟩
def Lw:List Tv->(List Tv->Prop)->Prop:=λTs Q=>∃t Us,Ts=[.seq t Us]/\Q Us
def qX:oS X (.type "list") Lw:=⟨_,DJ,λxs Ts H Q QQ vx h k=>by
 obtain⟨t,Us,rfl,q⟩:=h;obtain⟨x,rfl,v⟩:=dP vx;obtain⟨a,ys,rfl,hs,z,p⟩:=v.seqI;refine⟨a,ys,rfl,?_,λl n=>k l ys Us _ (cB n) n bE z (cp.hs (hC n) p) q⟩;cases t with
 |false=>exact .inl (cS hs)
 |true=>exact .inr hs⟩
def Be:Pn:=λTs Q=>∃t Us,Ts=[.seq t Us]/\Q (.seq true Us)
def fO:iN X (.type "tuple") Be:=⟨_,OR,λxs Ts H Q QQ vx h k=>by
 obtain⟨t,Us,rfl,q⟩:=h;obtain⟨x,rfl,v⟩:=dP vx;obtain⟨a,ys,rfl,hs,z,p⟩:=v.seqI;refine⟨a,ys,rfl,?_⟩;cases t with
 |false=>exact .inl ⟨cS hs,λl n=>k _ _ _ (iz.tup n z p) q⟩
 |true=>exact .inr ⟨hs,k _ _ _ (.va v) q⟩⟩
def Lx:List Tv->(List Tv->Prop)->Prop:=λTs Q=>(∃ns:List Int,Ts=[.seq false (ns.map iT)]/\ns.length<64/\∀ms:List Int,ms.Perm ns->ms.Pairwise (·<=·)->Q (ms.map iT)) \/
 (∃ss:List Str,Ts=[.seq false (ss.map sT)]/\ss.length<64/\Q ((aY ss).map sT))\/∃kts,Ts=[.dct kts]/\Q ((aY (kts.map (·.1))).map sT)
def rK{K:W.Frag}{H:Hp}{kvs:List (av×V)}{kts:List (Str×Tv)}(p:f_ K H kvs kts):kvs.map (·.1)=(kts.map (·.1)).map Sum.inr:=by
 unfold f_ at p
 induction p with
 |nil=>rfl
 |cons r _ ih=>rw[dz,dz,dz,ih,r.1]
def vG(us:List Str):(aY us).length=us.length:=(fD us).length_eq
def vH(hc:X.calm=true):oS X (.builtin "sorted") Lx:=⟨_,call_sortedI.or (call_sortedS.or (Pa hc)),λxs Ts H Q QQ vx h k=>by
 rcases h with⟨ns,rfl,l,q⟩|⟨ss,rfl,l,q⟩|⟨kts,rfl,q⟩
 ·obtain⟨x,rfl,v⟩:=dP vx;obtain⟨a,ys,rfl,hs,z,p⟩:=v.seqI;rw[oF p]at hs;refine .inl ⟨a,ns,rfl,cS hs,l,λms b h1 h2 n=>k b _ _ _ (cB n) n bE (by rw[ak,h1.length_eq];omega) (wZ ms) (q ms h1 h2)⟩
 ·obtain⟨x,rfl,v⟩:=dP vx;obtain⟨a,ys,rfl,hs,z,p⟩:=v.seqI;rw[jA p]at hs;refine .inr (.inl ⟨a,ss,rfl,cS hs,l,λms b h1 h2 n=>k b _ _ _ (cB n) n bE (by rw[ak,h1.length_eq];omega) (mM ms) (by rw[oH h1 h2];exact q)⟩)
 ·obtain⟨x,rfl,v⟩:=dP vx;obtain⟨a,kvs,rfl,⟨ob,hd⟩,nd,z,p⟩:=v.dctI;refine .inr (.inr ⟨a,ob,kvs,kts.map (·.1),rfl,hd,rK p,by rw[ak];exact z,λms b h1 h2 n=>k b _ _ _ (cB n) n bE (by rw[ak,h1.length_eq,ak];omega) (mM ms) (by rw[oH h1 h2];exact q)⟩)⟩
def GO:Pn:=λTs Q=>∃i:Int,Ts=[iT i]/\Q (iT (if i<0 then -i else i))
def Ii:iN X (.builtin "abs") GO:=⟨_,Mq,λxs Ts H Q QQ vx h k=>by
 obtain⟨i,rfl,q⟩:=h;obtain⟨x,rfl,v⟩:=dP vx;obtain⟨rfl,_⟩:=v.leafI;exact⟨i,rfl,k _ _ _ (.flat rfl) q⟩⟩
def Pl(T:String)(r:Tv->List Tv->(Tv->Prop)->Prop)(u:UT)(ua:dw):UT:=λρ Q=>u ρ λW ρ1=>uO T W=true/\pj ua ρ1 λTs ρ2=>r W Ts λW'=>Q W' ρ2
def Kw{K:W.Frag}{H:Hp}{x:V}{W:Tv}(v:VA K H x W)(h:uO "str" W=true):xx K "str" x H:=by
 cases W with
 |leaf w=>
  obtain⟨rfl,f⟩:=v.leafI;rcases kS f with rfl|⟨b,rfl⟩|⟨b,rfl⟩|⟨b,rfl⟩
  ·cases h
  ·cases h
  ·cases h
  ·rfl
 |seq t Ts=>cases t<;>cases h
 |dct kts=>cases h
theorem sH{name:Str}{id:String}{r:Tv->List Tv->(Tv->Prop)->Prop}{o e:Expr}{es:List Expr}{u:UT}{ua:dw}{QC Qz:Pos}(slot:Slot "str" name id)(hty:typeOf (.builtin id)=pure (.type "method_descriptor"))
  (hm:∃r',u3 X id r'/\∀x W xs Ts H Q (QQ:VK),VA X.K H x W->cp X.K H xs Ts->r W Ts Q->(∀z W H',iz X.K H H' z W->Q W->QQ z H')->r' x xs H QQ) (ho:UE X F o u) (ha:UA X F (e::es) ua)
  (QE:attributeBase o name X.env (eval o X.env)=eval o X.env:=by rfl)
  (hfew:((backTo Qz (starEach (e::es) X.env)).all (λx=>!x.1)&&(backToKw Qz (keywordEach [] X.env)).all (λx=>x.1.isSome)&&decide ((e::es).length+([]:List Keyword).length+(if ([]:List Keyword).isEmpty then 0 else 1)<30))=true:=by rfl)
  (QD:(QC.endLine==Qz.line)=true:=by rfl) (hs:starEach (e::es) X.env=(false,eval e X.env)::starEach es X.env:=by rfl) (QF:(backTo Qz (starEach es X.env)).any (·.1)=false:=by rfl):
  UE X F (.Call (.Attribute o name QC) (e::es) [] Qz) (Pl "str" r u ua):=by
 obtain⟨r',m,hr⟩:=hm;refine⟨PE.imp (PE.fz (pI PySem.F.plainAttrs_str slot hty m ho.pe ha.pa QE hfew QD hs QF)) λσ H QQ ⟨ρ,Q,f,h,k⟩=>⟨ρ,_,f,h,λx W H1 ρ1 s1 v1 q1=>⟨Kw v1 q1.1,ρ1,_,s1.fr,q1.2,λxs as H2 ρ2 s2 p2 q2=>?_⟩⟩⟩;obtain⟨Ts,rfl,q⟩:=iK q2;exact hr x W xs Ts H2 _ _ (v1.hs (s2.hs s1.fr)) (iL p2) q λz W' H' rw q=>rw.fin s2.fr λH'' s4 v4=>k _ _ _ _ ((s1.trans s2).trans s4) v4 q
def KY:Tv->List Tv->(Tv->Prop)->Prop:=λW Ts Q=>∃i j:Str,W=sT i/\Ts=[sT j]/\Q (bT (decide (0+j.length<=i.length)&&Builtin.Str.subAt i j 0))
def MR:∃r',u3 X "str.startswith" r'/\∀x W xs Ts H Q (QQ:VK),VA X.K H x W->cp X.K H xs Ts->KY W Ts Q->(∀z W H',iz X.K H H' z W->Q W->QQ z H')->r' x xs H QQ:=⟨_,OT,λx W xs Ts H Q QQ v p h k=>by
 obtain⟨i,j,rfl,rfl,q⟩:=h;obtain⟨rfl,_⟩:=v.leafI;obtain⟨y,rfl,v'⟩:=dP p;obtain⟨rfl,_⟩:=v'.leafI;exact⟨i,j,rfl,rfl,k _ _ _ (.flat rfl) q⟩⟩
def HR:Tv->List Tv->(Tv->Prop)->Prop:=λW Ts Q=>∃i j:Str,W=sT i/\Ts=[sT j]/\∀n:Int,Q (iT n)
def K6:∃r',u3 X "str.find" r'/\∀x W xs Ts H Q (QQ:VK),VA X.K H x W->cp X.K H xs Ts->HR W Ts Q->(∀z W H',iz X.K H H' z W->Q W->QQ z H')->r' x xs H QQ:=⟨_,JN,λx W xs Ts H Q QQ v p h k=>by
 obtain⟨i,j,rfl,rfl,q⟩:=h;obtain⟨rfl,_⟩:=v.leafI;obtain⟨y,rfl,v'⟩:=dP p;obtain⟨rfl,_⟩:=v'.leafI;exact⟨i,j,rfl,rfl,λn=>k _ _ _ (.flat rfl) (q n)⟩⟩
def HU:Tv->List Tv->(Tv->Prop)->Prop:=λW Ts Q=>∃ss:List Str,W=sT ⟨#[]⟩/\Ts=[.seq false (ss.map sT)]/\(cJ ss).length<=100000/\Q (sT ⟨(cJ ss).toArray⟩)
def B5:∃r',u3 X "str.join" r'/\∀x W xs Ts H Q (QQ:VK),VA X.K H x W->cp X.K H xs Ts->HU W Ts Q->(∀z W H',iz X.K H H' z W->Q W->QQ z H')->r' x xs H QQ:=⟨_,Ln,λx W xs Ts H Q QQ v p h k=>by
 obtain⟨ss,rfl,rfl,l,q⟩:=h;obtain⟨rfl,_⟩:=v.leafI;obtain⟨y,rfl,v'⟩:=dP p;obtain⟨a,ys,rfl,hs,z,p'⟩:=v'.seqI;rw[jA p']at hs;refine⟨a,ss,rfl,rfl,cS hs,l,λz e=>k _ _ _ (.flat rfl) ?_⟩;have:z=⟨(cJ ss).toArray⟩:=by
  cases z with
  |mk c=>congr 1;have e:c.toList=cJ ss:=e;rw[<-e]
 rw[this];exact q⟩
end
section
variable{X:Cx}{F:Fm}{pos:Pos}
def Gy(i j:Nat)(ua:dw):de:=λP ρ=>pj ua ρ λTs ρ1=>∃T U,Ts=[T,U]/\P.nx ((ρ1.set i (.va T)).set j (.va U))
def J9{i j:Nat}{x y:Str}{a b:Expr}{ua:dw}{px py pt:Pos}{kt k2 pt2}(hc:X.calm=true)(hN:X.N.Nodup)(hi:X.N[i]?=some x)(hj:X.N[j]?=some y)(hij:i≠j)
  (hx:X.env.scope.names.lookup x=some .local) (hy:X.env.scope.names.lookup y=some .local) (ha:UA X F [a,b] ua)
  (hw:swappedStores [.Tuple [.Name x px,.Name y py] kt pt] (.Tuple [a,b] k2 pt2) X.env=pure (some [x,y]))
  (hs:swapsWithSole [.Tuple [.Name x px,.Name y py] kt pt] (.Tuple [a,b] k2 pt2) pos.line X.env=pure false:=by rfl):
  US X F (.Assign [.Tuple [.Name x px,.Name y py] kt pt] (.Tuple [a,b] k2 pt2) pos) (Gy i j ua):=⟨PS.imp (Ie hc hN hi hj hij hx hy ha.pa hw hs) λD σ H ⟨ρ,P,f,h,k1,_⟩=>by
 refine⟨ρ,_,f,h,λxs as H1 ρ1 s1 p1 q1=>?_⟩;obtain⟨Ts,rfl,T,U,rfl,q⟩:=iK q1;obtain⟨v,w,rfl,vv,vw⟩:=yS (iL p1);refine⟨v,w,rfl,k1 _ _ _ ?_ (s1.hs f) q⟩;exact(s1.fr.set (s:=.va T) (λ_=>⟨v,rfl,vv⟩) (λz=>absurd z cn)).set (s:=.va U) (λ_=>⟨w,rfl,vw⟩) (λz=>absurd z cn)⟩
def JW(i:Nat)(u:UT):UT:=λρ Q=>(∃Ts,ρ[i]?=some (.own Ts))/\u ρ λJ ρ1=>∃(j:Int) (Ts:List Tv) (T:Tv),J=iT j/\ρ1[i]?=some (.own Ts)/\gh Ts j=some T/\Q T ρ1
def Dm(i:Nat){x:Str}{p:Pos}{e:Expr}{u:UT}(h:UE X F e u)(hs:oU e:=by intro _ _;rfl)(hN:X.N[i]?=some x:=by rfl)(hv:oy X.env.scope x:=by first|exact Or.inl rfl|exact Or.inr (Or.inl rfl)|exact Or.inr (Or.inr rfl))(hd:(x==("__debug__":Str))=false:=by decide)(hcd:(x==("__classdict__":Str))=false:=by decide):
  UE X F (.Subscript (.Name x p) e pos) (JW i u):=⟨PE.imp (iQ ix_list (jK hN hv hd hcd) h.pe hs) λσ H QQ ⟨ρ,Q,f,⟨⟨Ts0,e0⟩,hu⟩,k⟩=>by
 obtain⟨a,xs,ea,eH,e3,z,pv⟩:=f.at_ i _ e0;refine⟨_,iH ea,ρ,_,f,hu,λy J H1 ρ1 s1 v1 q1=>?_⟩;obtain⟨j,Ts,T,rfl,e1,eT,q⟩:=q1;obtain⟨rfl,_⟩:=v1.leafI;obtain⟨a',ys,ea',eH1,e3',z',pv'⟩:=s1.fr.at_ i _ e1;rw[ea]at ea';cases ea';obtain⟨w,ew,vw⟩:=D1 pv' eT;exact⟨a,ys,j,w,rfl,rfl,bu.of eH1,ew,k _ _ _ _ s1 vw q⟩⟩
def eP(K:W.Frag)(mg:Str->Option Value)(x:Str)(T:Tv):Prop:=∃v u,mg x=some u/\ah v u/\∀H,VA K H v T
def pG{x:Str}{T:Tv}(G:eP X.K X.mg x T)(hg:Gl X x)(hd:(x==("__debug__":Str))=false:=by decide):UE X F (.Name x pos) (uC T):=by
 obtain⟨v,u,m,r,h⟩:=G;exact KA hg m r h hd
def pO(K:W.Frag)(prm:Params)(mg:Str->Option Value)(x:Str)(kvs:List (Str×Str)):Prop:=∃d,mg x=some (.ref d)/\Ac K prm d kvs
def Ph(kvs:List (Str×Str))(u:UT):UT:=λρ Q=>u ρ λT ρ1=>∃i j,T=sT i/\getS kvs i=some j/\Q (sT j) ρ1
def AZ{x:Str}{p:Pos}{e:Expr}{u:UT}{kvs:List (Str×Str)}(G:pO X.K X.w.params X.mg x kvs)(hg:Gl X x)(he:UE X F e u)(hs:oU e:=by intro _ _;rfl)(hd:(x==("__debug__":Str))=false:=by decide):UE X F (.Subscript (.Name x p) e pos) (Ph kvs u):=by
 obtain⟨d,m,D⟩:=G;refine⟨PE.imp (iQ (Ga D) (B1 (v:=.ref d) hg m rfl hd) he.pe hs) λσ H QQ ⟨ρ,Q,f,h,k⟩=>⟨ρ,_,f,h,λy T H1 ρ1 s1 v1 q1=>?_⟩⟩;obtain⟨i,j,rfl,ej,q⟩:=q1;obtain⟨rfl,_⟩:=v1.leafI;exact⟨i,j,rfl,rfl,ej,k _ _ _ _ s1 (.flat rfl) q⟩
end
def nI(own:Nat)(fr:List Nat)(g:UG)(tf:d6)(ue:UT)(T:Tv)(ρ:aW)(R:Option Tv->aW->Prop):Prop:=g T (qv own fr ρ) λρ1=>tf ρ1 λb ρ2=>if b=true then ue ρ2 λU ρ3=>R (some U) (qw own fr ρ ρ3) else R none (qw own fr ρ ρ2)
section
variable{own:Nat}{fr:List Nat}{g:UG}{tf:d6}{ue:UT}
def FV(own:Nat)(fr:List Nat)(g:UG)(tf:d6)(ue:UT)(Ts:List Tv)(Q:List Tv->aW->Prop)(o:Option Tv)(ρ:aW):Prop:=match o with
 |some U=>gI own fr g tf ue Ts ρ λUs ρ4=>Q (U::Us) ρ4
 |none=>gI own fr g tf ue Ts ρ Q
def vE(T:Tv)(Ts:List Tv)(ρ:aW)(Q:List Tv->aW->Prop):gI own fr g tf ue (T::Ts) ρ Q=nI own fr g tf ue T ρ (FV own fr g tf ue Ts Q):=rfl
def gR{ρ:aW}(f:Tv->Option Tv):∀{Ts:List Tv}{Q:List Tv->aW->Prop},(∀T∈Ts,∀R:Option Tv->aW->Prop,R (f T) ρ->nI own fr g tf ue T ρ R)->Q (Ts.filterMap f) ρ->gI own fr g tf ue Ts ρ Q
 |[],_,_,q=>q
 |T::Ts,Q,h,q=>by
  rw[vE];refine h T (.head _) _ ?_;rw[ie]at q;cases e:f T with
  |none=>rw[e]at q;exact gR f (λT' hT'=>h T' (.tail _ hT')) q
  |some U=>rw[e]at q;exact gR (Q:=λUs ρ4=>Q (U::Us) ρ4) f (λT' hT'=>h T' (.tail _ hT')) q
def vV{ρ:aW}(f:Tv->Tv){Ts:List Tv}{Q:List Tv->aW->Prop}(h:∀T∈Ts,∀R:Option Tv->aW->Prop,R (some (f T)) ρ->nI own fr g tf ue T ρ R)(q:Q (Ts.map f) ρ):gI own fr g tf ue Ts ρ Q:=
 gR (λT=>some (f T)) h (by rw[show Ts.filterMap (λT=>some (f T))=Ts.map f from List.filterMap_eq_map'▸rfl];exact q)
theorem kB{g:UG}{ub:de}{Ts:List Tv}{P:az}{ρ:aW}(J:Nat->aW->Prop)(h0:J 0 ρ)(hs:∀i T ρ' (N:aW->Prop),Ts[i]?=some T->J i ρ'->(∀ρ'',J (i+1) ρ''->N ρ'')->g T ρ' λρ1=>ub {P with nx:=N,ct:=N,bk:=P.nx} ρ1)
  (hd:∀ρ',J Ts.length ρ'->P.nx ρ'):jU g ub Ts P ρ:=by
 have key:∀(n i:Nat) (ρ:aW),n+i=Ts.length->J i ρ->jU g ub (Ts.drop i) P ρ:=by
  intro n
  induction n with
  |zero=>
   intro i ρ e j;have:i=Ts.length:=by omega
   subst this;rw[qf];exact hd ρ j
  |succ n ih=>
   intro i ρ e j;have hi:i<Ts.length:=by omega
   rw[qh hi];exact hs i _ ρ (λρ'=>jU g ub (Ts.drop (i+1)) P ρ') (b6 hi) j λρ'' j'=>ih (i+1) ρ'' (by omega) j'
 exact key Ts.length 0 ρ (by omega) h0
end
def gF:bt:=λas R=>∃m:Int,as=[.dk,.va (iT m)]/\0<m/\c_ m/\∀r:Int,0<=r->r<m->R (iT r)
def On.kp{p c:Addr}{H H':Hp}(o:On p c H H'):Kp (some (p,c)) H H':=⟨λb u e n=>o.e b u e (n p c rfl).1 (n p c rfl).2,λp' c' e=>by cases e;exact o.d⟩
def cv.take{P:Program}{w:World}{K:W.Frag}{mg:Str->Option Value}{base:Heap}{k:Nat}{x:Str}{ps:List Str}(G:cv P w K mg base k x ps Ay):ae P w K mg base k x ps gF:=cv.imp G λvs H Q E ⟨dk,as,R,d,p,⟨m,e,hm,hb,q⟩,kk⟩=>by
 subst e;cases p with
 |cons r1 t1=>
  cases t1 with
  |cons r2 t2=>
   cases t2;obtain⟨p,c,ed,rfl⟩:=r1;subst ed;obtain⟨rfl,_⟩:=VA.leafI r2;exact⟨p,c,m,rfl,d p c rfl,hm,hb,λr H' h1 h2 o=>kk _ _ _ o.kp (.flat rfl) (q r h1 h2)⟩
def Nz{X:Cx}{F:Fm}{st:List Stmt}:oz X F st (λ_ _=>False):=⟨gz.imp MT λD σ H ⟨_,_,_,h,_⟩=>h⟩
def ao.pfalse{P:Program}{w:World}{K:W.Frag}{mg:Str->Option Value}{base:Heap}{x:Str}{st:Stmt}{N ps:List Str}{k:Nat}{psp:bt}(h:ao K mg x st)(S:bF N ps (aN st))
  (hb:∀(kV doc pm:Value) (an:Option Addr) (Qy ct:Value) (us:List Value),us.length=ps.length->bindArgs (W.fnOf x x (gW st) (eS st) (aN st) .none kV doc pm an Qy ct) ⟨us,[]⟩=pure (ps.zip us)) (hf:∀as R,psp as R->False):ae P w K mg base (k+1) x ps psp:=
 h.pgood S hb (λ_ _ _ _ _ _ _ _ _=>Nz) λas R q=>(hf as R q).elim
def cL{j:Int}(h1:-(10 ^ 100)<j)(h2:j<10 ^ 100):c_ j:=by
 unfold c_;have:j.natAbs<10 ^ 100:=by omega
 exact fh this (by decide +kernel)
section
variable{own:Nat}{fr:List Nat}{g:UG}{tf:d6}{ue:UT}{α:Type}
def iZ{ρ:aW}(c:α->Tv)(f:α->Option Tv):∀{l:List α}{Q:List Tv->aW->Prop},(∀a∈l,∀R:Option Tv->aW->Prop,R (f a) ρ->nI own fr g tf ue (c a) ρ R)->Q (l.filterMap f) ρ->gI own fr g tf ue (l.map c) ρ Q
 |[],_,_,q=>q
 |a::l,Q,h,q=>by
  rw[dz,vE];refine h a (.head _) _ ?_;rw[ie]at q;cases e:f a with
  |none=>rw[e]at q;exact iZ c f (λb hb=>h b (.tail _ hb)) q
  |some U=>rw[e]at q;exact iZ (Q:=λUs ρ4=>Q (U::Us) ρ4) c f (λb hb=>h b (.tail _ hb)) q
def dY{ρ:aW}(c f:α->Tv){l:List α}{Q:List Tv->aW->Prop}(h:∀a∈l,∀R:Option Tv->aW->Prop,R (some (f a)) ρ->nI own fr g tf ue (c a) ρ R)(q:Q (l.map f) ρ):gI own fr g tf ue (l.map c) ρ Q:=
 iZ c (λa=>some (f a)) h (by rw[show l.filterMap (λa=>some (f a))=l.map f from List.filterMap_eq_map'▸rfl];exact q)
def rF{ρ:aW}(r:Tv->Tv->Prop):∀{Ts:List Tv}{Q:List Tv->aW->Prop},(∀T∈Ts,∀R:Option Tv->aW->Prop,(∀U,r T U->R (some U) ρ)->nI own fr g tf ue T ρ R)->(∀Us,Paired r Ts Us->Q Us ρ)->gI own fr g tf ue Ts ρ Q
 |[],_,_,q=>q [] .nil
 |T::Ts,Q,h,q=>by
  rw[vE];exact h T (.head _) _ λU hU=>rF (Q:=λUs ρ4=>Q (U::Us) ρ4) r (λT' hT'=>h T' (.tail _ hT')) λUs p=>q _ (.cons hU p)
theorem gC{g:UG}{ub:de}{P:az}{ρ:aW}(c:α->Tv){l:List α}(J:Nat->aW->Prop)(h0:J 0 ρ)(hs:∀i a ρ' (N:aW->Prop),l[i]?=some a->J i ρ'->(∀ρ'',J (i+1) ρ''->N ρ'')->g (c a) ρ' λρ1=>ub {P with nx:=N,ct:=N,bk:=P.nx} ρ1)
  (hd:∀ρ',J l.length ρ'->P.nx ρ'):jU g ub (l.map c) P ρ:=
 kB J h0 (λi T ρ' N e j hN=>by
  rw[fo]at e;obtain⟨a,ea,rfl⟩:=qd1_.mp e;exact hs i a ρ' N ea j hN) (by rw[ak];exact hd)
end
def xQ(x y:Str):eqT (sT x) (sT y)=decide (x=y):=by
 rw[eqT];show(x==y)=_;exact Bool.beq_eq_decide_eq x y
def Jp{x:Str}{ss:List Str}:((ss.map sT).any λU=>eqT U (sT x))=decide (x∈ss):=by
 rw[List.any_map,i9,qL_,decide_eq_true_iff];constructor
 ·rintro⟨y,hy,e⟩;have e:eqT (sT y) (sT x)=true:=e;rw[xQ,decide_eq_true_iff]at e;rw[<-e];exact hy
 ·intro h;exact⟨x,h,by show eqT (sT x) (sT x)=true;rw[xQ,decide_eq_true_iff]⟩
def L6{x:Str}{ss:List Str}:qG (sT x) (ss.map sT):=⟨trivial,λU hU=>by
 obtain⟨s,_,rfl⟩:=qf_.mp hU;trivial⟩
def i3{b:Bool}{A B:Prop}(h1:b=true->A)(h2:b=false->B):if b=true then A else B:=by
 cases b with
 |true=>exact(if_pos rfl).mpr (h1 rfl)
 |false=>exact(if_neg cn).mpr (h2 rfl)
def kM{p:Prop}[Decidable p]{A B:Prop}(h1:p->A)(h2:¬ p->B):if decide p=true then A else B:=i3 (λh=>h1 (kf h)) λh=>h2 (of_decide_eq_false h)
abbrev vg:=aW->(List (Str×Tv)->aW->Prop)->Prop
def Gb(K:W.Frag)(F:Fm)(u:vg):TE:=λσ H QQ=>∃ρ Q,au K F ρ σ H/\u ρ Q/\∀a kvs kts H' ρ',bh K F σ ρ H ρ' H'->H a=none->H' a=some (.dK kvs)->(kts.map (·.1)).Nodup->kts.length<64->f_ K H' kvs kts->Q kts ρ'->QQ (.ref a) H'
structure UD (X:Cx) (F:Fm) (e:Expr) (u:vg):Prop where
 pe:PE X e (Gb X.K F u)
section
variable{X:Cx}{F:Fm}{e:Expr}{pos:Pos}
def uD(u:vg):UT:=λρ Q=>u ρ λkts ρ1=>Q (.dct kts) ρ1
def GY{u:vg}(h:UD X F e u):UE X F e (uD u):=⟨PE.imp (PE.fz h.pe) λσ H QQ ⟨ρ,Q,fr,h,k⟩=>⟨ρ,_,fr,h,λa kvs kts H' ρ' s n e nd z p q=>
 .inr ⟨a,_,rfl,e,rfl,λob=>k _ _ _ _ (s.put fr n e rfl (.frz ob (.dK kvs))) (VA.dct ⟨ob,bE⟩ nd z (f_.hs (fR e rfl) p)) q⟩⟩⟩
variable{u:UT}{p:Pos}
def Io(K:W.Frag):List V->Hp->VK->Prop:=λxs H Q=>∃(l:Addr) (ys:List V) (ps:List (av×V)),xs=[.ref l]/\Rd H l (.lst ys)/\Paired (λy (p:av×V)=>∃t,y=.ref t/\cq K H t [kV p.1,p.2]) ys ps/\ps.length<=1000 /\
  ∀d,H d=none->Q (.ref d) (ar H d (.dK (lC [] ps)))
def Oc(hc:X.calm=true):aq X (.type "dict") (Io X.K):=by
 rintro Qx s σ H _ us Q I r ⟨l,ys,ps,rfl,hl,hp,hsz,q⟩;obtain⟨u,rfl,rx⟩:=cN r;cases rx;obtain⟨hz,its,n,hv,hget⟩:=(show aw X.prog X.w H s.heap l (.lst ys) from hl.ok I.hok)
 have key:∀{ys:List V} {its:List Value} {ps:List (av×V)},ai ys its->Paired (λy (p:av×V)=>∃t,y=.ref t/\cq X.K H t [kV p.1,p.2]) ys ps ->
   ∃qs:List (av×Value),KV ps qs/\its.length=qs.length/\∀(j:Nat) (k:av) (v:Value),qs[j]?=some (k,v)->∃t kk,its[j]?=some (.ref t)/\IsTup s.heap t #[kk,v]/\(bW X.prog X.w).is k kk=true:=by
  intro ys its ps hv hp
  induction hp generalizing its with
  |nil=>cases hv;exact⟨[],.nil,rfl,λj k v e=>by simp at e⟩
  |@cons y p ys' ps' h _ ih=>
   cases hv with
   |cons r0 rs=>
    obtain⟨t,rfl,ht⟩:=h;cases r0;obtain⟨qs,kq,lq,fq⟩:=ih rs;obtain⟨tits,tv,tt,_⟩:=I.tuple ht;cases tv with
    |@cons _ kk _ _ r1 rs1=>
     cases rs1 with
     |@cons _ vv _ _ r2 rs2=>
      cases rs2;refine⟨(p.1,vv)::qs,.cons ⟨rfl,r2⟩ kq,by rw[g6,g6,lq],λj k v e=>?_⟩;cases j with
      |zero=>
       cases e;exact⟨t,kk,rfl,tt,lJ r1⟩
      |succ j=>exact fq j k v e
 obtain⟨qs,kq,lq,fq⟩:=key hv hp;have hbig:=I.big;have hps:ps.length=qs.length:=Paired.length kq;refine OO (ps:=qs) (I.ok.hd hc) hget ⟨by simpa using lq,λj k v e=>by obtain⟨t,kk,a,b,c⟩:=fq j k v e;exact⟨t,kk,by simpa using a,b,c⟩⟩ (by omega) λh' tk hd k=>?_
 have hlen:=DQ ps [];refine⟨.ref s.heap.objs.size,_,I.laid (t':=tk) (o:=.dK (lC [] ps)) k (ba _) (show aw _ _ _ h' _ (.dK _) from ⟨by rw[sizeLine_eq];have:=hlen;simp at this;omega,?_,_,JD kq .nil,hd⟩),rfl,q _ I.fresh⟩;exact beq_eq_false_iff_ne.mpr (je hbig)
def JV(u:UT):vg:=λρ Q=>u ρ λT ρ1=>∃kts:List (Str×Tv),T=.seq false (kts.map λkt=>.seq true [sT kt.1,kt.2])/\(kts.map (·.1)).Nodup/\kts.length<64/\Q kts ρ1
def C_{K:W.Frag}{H:Hp}:∀{ys:List V}{kts:List (Str×Tv)},cp K H ys (kts.map λkt=>.seq true [sT kt.1,kt.2])->∃ps:List (av×V),Paired (λy (p:av×V)=>∃t,y=.ref t/\cq K H t [kV p.1,p.2]) ys ps/\f_ K H ps kts
 |[],[],_=>⟨[],.nil,.nil⟩
 |y::ys,kt::kts,.cons r t=>by
  obtain⟨ps,h1,h2⟩:=C_ t;obtain⟨a,xs,rfl,hs,z,p⟩:=VA.seqI r;obtain⟨k,v,rfl,vk,vv⟩:∃k v,xs=[k,v]/\VA K H k (sT kt.1)/\VA K H v kt.2:=by
   cases p with
   |cons r1 t1=>
    cases t1 with
    |cons r2 t2=>cases t2;exact⟨_,_,rfl,r1,r2⟩
  obtain⟨rfl,_⟩:=vk.leafI;exact⟨(.inr kt.1,v)::ps,.cons ⟨a,rfl,hs⟩ h1,.cons ⟨rfl,vv⟩ h2⟩
def N8{K:W.Frag}{H:Hp}{kvs:List (av×V)}{kts:List (Str×Tv)}(p:f_ K H kvs kts)(n:(kts.map (·.1)).Nodup):(kvs.map (·.1)).Nodup:=by
 rw[rK p];unfold List.Nodup at n ⊢;rw[qe2_];exact n.imp λh e=>h (Sum.inr.inj e)
def Nw(hc:X.calm=true)(hg:Gl X "dict")(hm:X.mg "dict"=none)(he:UE X F e u)(hst:dJ e=false:=by rfl)(hpl:(backTo pos (starEach [] X.env)).any (·.1)=false:=by rfl):UD X F (.Call (.Name "dict" p) [e] [] pos) (JV u):=
 ⟨PE.imp (gB (Oc hc) hg hm boot_dict (cV he.pe dC hst) (by decide) (by decide) (gA hst) hpl) λσ H QQ ⟨ρ,Q,f,h,k⟩=>by
  refine⟨ρ,_,f,h,λx T H1 ρ1 s1 v1 q1=>?_⟩;obtain⟨kts,rfl,nd,z,q⟩:=q1;obtain⟨a,xs,rfl,⟨ob,hs⟩,zz,p⟩:=v1.seqI;obtain⟨ps,h1,h2⟩:=C_ p;have l2:ps.length=kts.length:=Paired.length h2;refine⟨a,xs,ps,rfl,.inr ⟨ob,hs⟩,h1,by omega,λd n=>?_⟩;rw[Ek (kvs:=[]) (by simpa using N8 h2 nd),gj];exact k _ _ _ _ _ (s1.trans (bh.same s1.fr (cB n))) (s1.non n) bE nd z (f_.hs (hC n) h2) q⟩
variable{x:Str}{QC Qz:Pos}
def JU(ud u ux:UT):UT:=λρ Q=>ud ρ λD ρ1=>∃kts,D=.dct kts/\u ρ1 λJ ρ2=>∃k:Str,J=sT k/\ux ρ2 λW ρ3=>Q ((bX kts k).getD W) ρ3
def Dl{o e2:Expr}{ud ux:UT}(hu:X.A.units+1<cLine)(ho:UE X F o ud)(h:UE X F e u)(hx:UE X F e2 ux)(m:M2 X o "get" QC e e2 Qz:=by exact⟨rfl,rfl,rfl,rfl⟩):UE X F (.Call (.Attribute o "get" QC) [e,e2] [] Qz) (JU ud u ux):=⟨PE.imp (Mn hu ho.pe h.pe hx.pe m) λσ H QQ ⟨ρ,Q,f,hu,k⟩=>by
 refine⟨ρ,_,f,hu,λx D H1 ρ1 s1 v1 q1=>?_⟩;obtain⟨kts,rfl,q1⟩:=q1;obtain⟨a,kvs,rfl,⟨ob,hd⟩,nd,z,p⟩:=v1.dctI;refine⟨a,rfl,.inl ⟨kvs,.inr ⟨ob,hd⟩⟩,ρ1,_,s1.fr,q1,λy J H2 ρ2 s2 v2 q2=>?_⟩;obtain⟨kk,rfl,q2⟩:=q2;obtain⟨rfl,_⟩:=v2.leafI;refine⟨ρ2,_,s2.fr,q2,λz W H3 ρ3 s3 v3 q=>?_⟩;have hs:=(s2.hs s1.fr).trans (s3.hs s2.fr);refine⟨_,.inl ⟨kvs,.inr kk,.inr ⟨ob,hs _ _ rfl hd⟩,rfl,rfl⟩,?_⟩;rcases sC (f_.hs hs p) kk with⟨z1,z2⟩|⟨U,v,z1,z2,vv⟩
 ·rw[z2];rw[z1]at q;exact k _ _ _ _ ((s1.trans s2).trans s3) v3 q
 ·rw[z2];rw[z1]at q;exact k _ _ _ _ ((s1.trans s2).trans s3) vv q⟩
end
section
variable{X:Cx}{F:Fm}
def Hw:R2:=λx y H Q=>∃l k xs,x=.ref l/\y=.int k/\Rd H l (.lst xs) /\ -(2 ^ 63)<=k/\k<2 ^ 63/\xs.length*k.toNat<=sizeLine/\∀p,H p=none->Q (.ref p) (ar H p (.lst (List.replicate k.toNat xs).flatten))
theorem Lv:cm X (binaryOp .Mult) Hw:=by
 rintro Qx s σ H _ _ v u Q I rx ry ⟨l,k,xs,rfl,rfl,hH,h1,h2,hz,q⟩;cases rx;obtain⟨t,rfl⟩:=ry;obtain⟨z,its,n,r,e⟩:=hH.ok I.hok;have hl:=r.length;have hlen:its.toArray.size*k.toNat<=sizeLine:=by rw[ck,<-hl];exact hz
 have hcap:¬ its.toArray.size*k.toNat > (2 ^ 63-1) / 8:=by
  have:(sizeLine:Nat)<=(2 ^ 63-1) / 8:=by decide
  omega
 have hfit:¬ (!Builtin.List.listFitsIndex k)=true:=by
  rw[fitsIndex_both h1 h2];exact cn
 have hlong:¬ Builtin.List.listTooLong (its.toArray.size*k.toNat)=true:=by
  rw[C7 hlen];exact cn
 have hnew:List.foldl (λx1 x2=>x1++x2) #[] (List.replicate (if its.toArray.isEmpty=true then 0 else k.toNat) its.toArray)=(List.replicate k.toNat its).flatten.toArray:=by
  have f0:∀m:Nat,List.foldl (λx1 x2=>x1++x2) #[] (List.replicate m its.toArray)=(List.replicate m its).flatten.toArray:=λm=>by
   have:=CM its m [];rw[gj]at this;exact this
  rw[f0];cases its with
  |nil=>simp
  |cons a r'=>rw[if_neg (by simp)]
 refine wpAny_binaryOp_repeat_ref (T:="list") (U:="int") (by decide) ⟨_,e,rfl⟩ (λs'=>typeIs_int s' k t) noFill_list_mul F.fills_int_mul F.slot_int_rmul repeat_list F.slot_int_index.lookup
  (call_meets F.slot_int_rmul (typeIs_int s k t) F.entry_int_rmul (F.args_int_rmul_2 _ _) (int___rmul___int_list k t l its.toArray n)
   ⟨e,rfl,⟨_,e,rfl⟩,call_meets F.slot_list_mul ⟨_,e,rfl⟩ F.entry_list_mul (F.args_list_mul_2 _ _) (AutoListH.list___mul___list_int_3 l its.toArray n k t hfit hcap hlong) ⟨e,?_⟩⟩)
 rw[hnew];exact⟨.ref _,_,I.lnew (t':=s.toks) (r.rep k.toNat) (by rw[xL,jt];exact hz),rfl,q _ I.fresh⟩
def Ed{α β:Type}{R:α->β->Prop}{l:List α}{m:List β}(p:Paired R l m):∀k:Nat,Paired R (List.replicate k l).flatten (List.replicate k m).flatten
 |0=>.nil
 |k+1=>by rw[g9,g9,g8,g8];exact qR p (Ed p k)
def Bp:P2
 |.seq false xs,.leaf (.int k),Q=>(xs.length*k.toNat<=100000 /\ -(2 ^ 62)<=k/\k<2 ^ 62)/\Q (.seq false (List.replicate k.toNat xs).flatten)
 |T,U,Q=>zT T U Q
def rW:gM X (binaryOp .Mult) Bp:=by
 obtain⟨a,oa,ra⟩:=Ik (X:=X);refine⟨_,oa.or Lv,λx y T U H Q QQ vx vy h k=>?_⟩;unfold Bp at h;split at h
 ·obtain⟨a,xs,rfl,⟨ob,hs⟩,z,p⟩:=vx.seqI;obtain⟨rfl,_⟩:=vy.leafI;obtain⟨⟨h1,h2,h3⟩,q⟩:=h;have l1:xs.length=_:=Paired.length p;refine .inr ⟨a,_,xs,rfl,rfl,.inr ⟨ob,hs⟩,by omega,by omega,iJ (by rw[l1];exact h1),λb n=>k _ _ _ (iz.lst n ?_ (Ed p _)) q⟩;rw[xL,jt];exact h1
 ·exact .inl (ra x y T U H Q QQ vx vy h k)
end
inductive Wd where
 |few (ts:List Str)
 |make (h:Str) (a b:Int) (ms:List Str)
inductive Pt where
 |nothing
 |truths (bs:List Bool)
 |numbers (lo hi st:Int)
 |texts (w:Wd)
 |lists (a b:Int) (f:List Pt)
 |record (a b:Int) (fs:List (Str×Bool×List Pt))
 |table (a b:Int) (w:Wd) (f:List Pt)
def bR:Wd->Tv
 |.few ts=>.seq true [sT "few",.seq true (ts.map sT)]
 |.make h a b ms=>.seq true [sT "make",sT h,iT a,iT b,.seq true (ms.map sT)]
def aT:Pt->Tv
 |.nothing=>.seq true [sT "nothing"]
 |.truths bs=>.seq true [sT "truths",.seq true (bs.map bT)]
 |.numbers lo hi st=>.seq true [sT "numbers",iT lo,iT hi,iT st]
 |.texts w=>.seq true [sT "texts",bR w]
 |.lists a b f=>.seq true [sT "lists",iT a,iT b,.seq true (f.map aT)]
 |.record a b fs=>.seq true [sT "record",iT a,iT b,.seq true (fs.map λx=>.seq true [sT x.1,bT x.2.1,.seq true (x.2.2.map aT)])]
 |.table a b w f=>.seq true [sT "table",iT a,iT b,bR w,.seq true (f.map aT)]
termination_by p=>sizeOf p
decreasing_by
 all_goals simp_wf
 ·have:=j5 ‹_›;omega
 ·obtain⟨x1,x2,x3⟩:=x;have h1:=j5 ‹_∈fs›;have h2:=j5 ‹_∈x3›;simp at h1;omega
 ·have:=j5 ‹_›;omega
abbrev bM(f:List Pt):Tv:=.seq true (f.map aT)
abbrev cI(x:Str×Bool×List Pt):Tv:=.seq true [sT x.1,bT x.2.1,bM x.2.2]
def iX(a b:Int)(f:List Pt):aT (.lists a b f)=.seq true [sT "lists",iT a,iT b,bM f]:=by rw[aT]
def eR(a b:Int)(fs:List (Str×Bool×List Pt)):aT (.record a b fs)=.seq true [sT "record",iT a,iT b,.seq true (fs.map cI)]:=by rw[aT]
def fY(a b:Int)(w:Wd)(f:List Pt):aT (.table a b w f)=.seq true [sT "table",iT a,iT b,bR w,bM f]:=by rw[aT]
def kH:Pt->Str
 |.nothing=>"nothing"
 |.truths _=>"truths"
 |.numbers ..=>"numbers"
 |.texts _=>"texts"
 |.lists ..=>"lists"
 |.record ..=>"record"
 |.table ..=>"table"
def fU:Pt->Nat
 |.nothing=>0
 |.truths _=>1
 |.numbers ..=>2
 |.texts _=>3
 |.lists ..=>4
 |.record ..=>5
 |.table ..=>5
def eZ{a b:Int}{A B:Prop}(h1:a=b->A)(h2:a≠b->B):if (false != cz (.int a) (.int b))=true then A else B:=i3 (λz=>h1 (by simpa[cz]using z)) λz=>h2 (by simpa[cz]using z)
def tO{a b:Str}{A B:Prop}(h1:a=b->A)(h2:a≠b->B):if (false != cz (.str a) (.str b))=true then A else B:=i3 (λz=>h1 (by simpa[cz]using z)) λz=>h2 (by simpa[cz]using z)
def fX(s:Str):Prop:=Sg s/\s.length<=50
def iV(l:List Str):Prop:=l.Pairwise λa b=>cs a<cs b
def N4{a b:Str}(h:cs a<=cs b)(n:a≠b):cs a<cs b:=by
 refine Classical.byContradiction λz=>n (kX (List.le_antisymm h (qf1_.mp z)))
def Kr(l:List Str):∃ss:List Str,ss.Perm l/\sortedS ss=true:=by
 refine⟨l.mergeSort λa b=>decide (cs a<=cs b),List.mergeSort_perm _ _,PyProof.Rows.sortedS_of_pairwise _ ?_⟩;refine(List.pairwise_mergeSort (λa b c h1 h2=>?_) (λa b=>?_) l).imp λ{a b} h=>?_
 ·exact jd (qk (kf h1) (kf h2))
 ·rcases List.le_total (cs a) (cs b) with z|z<;>simp[z]
 ·rw[ltCps_eq];exact i4 (qf1_.mpr (kf h))
def Ks(l:List Str):(aY l).Pairwise λa b=>cs a<=cs b:=by
 obtain⟨ss,h1,h2⟩:=Kr l;rw[<-oH h1 h2];exact qQ _ h2
def Et{l:List Str}(n:l.Nodup):iV (aY l):=by
 have h2:(aY l).Nodup:=(fD l).nodup_iff.mpr n;exact List.Pairwise.imp₂ (λa b h n=>N4 h n) (Ks l) h2
def mD{l:List Str}(h:iV l):l.Nodup:=List.Pairwise.imp (λ{a b} h e=>by rw[e]at h;exact rp _ h) h
def j4(x y:Str):Bool:=decide (0+y.length<=x.length)&&Builtin.Str.subAt x y 0
def aX(x hd:Str):Str:=Txt.slice x (some (hd.length:Int)) none
def dN:Tv->Nat
 |.leaf .non=>0
 |.leaf (.bl _)=>1
 |.leaf (.int _)=>2
 |.leaf (.str _)=>3
 |.leaf _=>5
 |.seq false _=>4
 |.seq true _=>5
 |.dct _=>5
def dA:Nat->Str
 |0=>"nothing"
 |1=>"truth"
 |2=>"number"
 |3=>"text"
 |4=>"list"
 |_=>"dict"
def vQ{kts:List (Str×Tv)}{k:Str}{U:Tv}(h:bX kts k=some U):(k,U)∈kts:=by
 unfold bX at h;obtain⟨kt,h1,h2⟩:=qd1_.mp h;have h3:=rn h1;have h4:=u9 h1;have h5:kt.1=k:=by simpa using h3
 rw[<-h5,<-h2];exact h4
def wN{kts:List (Str×Tv)}(hn:(kts.map (·.1)).Nodup){k:Str}{U:Tv}(h:(k,U)∈kts):bX kts k=some U:=by
 obtain⟨i,hi,e⟩:=qi2_.mp h;have:=Me hn (i:=i) (kt:=(k,U)) (by rw[b6 hi,e]);exact this
def lookD_none{kts:List (Str×Tv)}{k:Str}:bX kts k=none↔k∉kts.map (·.1):=by
 constructor
 ·intro h hk;obtain⟨U,e⟩:=look_mem hk;rw[h]at e;cases e
 ·intro h;cases e:bX kts k with
  |none=>rfl
  |some U=>exact absurd (qf_.mpr ⟨_,vQ e,rfl⟩) h
def sV(K:W.Frag):Sp:=λvs H Q _=>∃(a:Addr) (ns:List Int),vs=[.ref a]/\bu K H a (ns.map V.int)/\ns.length<=63/\∀H',Q (.bl true) H'
def nW(n:Nat):aW:=.no::.dk::List.replicate (n-2) .no
def Ha{K:W.Frag}{H:Hp}{p c:Addr}{N:List Str}{x:V}(hN:2<=N.length)(d:bo H p c):au K ⟨H,some (p,c)⟩ (nW N.length) ((eG N [x]).set 1 (some (.ref p))) H:=by
 have nm:∀(i:Nat) (s:Sl),(nW N.length)[i]?=some s->(s=.dk/\i=1)\/s=.no:=λi s e=>by
  unfold nW at e
  match i,e with
  |0,e=>exact .inr (by simpa using e.symm)
  |1,e=>exact .inl ⟨by simpa using e.symm,rfl⟩
  |i+2,e=>
   have e:(List.replicate (N.length-2) Sl.no)[i]?=some s:=by simpa using e
   exact .inr (List.eq_of_mem_replicate (gq e))
 refine⟨λp' c' e=>by cases e;exact d,⟨λ_ _ e _=>e,λp' c' e=>by cases e;exact d⟩,?_,λi s e=>?_,λi j a s t e _ m _ _ _=>?_⟩
 ·unfold nW eG;simp;omega
 ·rcases nm i s e with⟨rfl,rfl⟩|rfl
  ·refine⟨p,c,rfl,?_⟩;unfold fc eG;rw[gp (by simp;omega)];rfl
  ·trivial
 ·rcases nm i s e with⟨rfl,_⟩|rfl<;>cases m
theorem Dv{K:W.Frag}{mg:Str->Option Value}{x:Str}{a:Addr}{ss:List Str}(m:mg x=some (.ref a))(T:∀H,cq K H a (ss.map V.str))(l:ss.length<=100000:=by decide):eP K mg x (.seq true (ss.map sT)):=by
 refine⟨.ref a,.ref a,m,rfl,λH=>VA.seq (T H) (by rw[ak];exact l) ?_⟩;have key:∀ss:List Str,cp K H (ss.map V.str) (ss.map sT):=λss=>by
  induction ss with
  |nil=>exact .nil
  |cons s ss ih=>exact .cons (.flat rfl) ih
 exact key ss
def K8{X:Cx}{st:List Stmt}{us:de}(h:∀F,oz X F st us):gz X st (λD σ H=>∃F,nF X.K F us D σ H):=λQx s σ H D I ⟨F,q⟩=>(h F).ps Qx s σ H D I q
def JL{X:Cx}{us:de}{D:lY}{p c:Addr}{H:Hp}{N:List Str}{x:V}(hN:2<=N.length)(d:bo H p c)(q:∀H',D.rt (.bl true) H')(h:us {nx:=λ_=>False,rt:=λT=>T=bT true} (nW N.length)):
  ∃F,nF X.K F us D ((eG N [x]).set 1 (some (.ref p))) H:=⟨⟨H,some (p,c)⟩,nW N.length,_,Ha hN d,h,λ_ _ _ _ _ z=>z.elim,λx T H' _ v e=>by
 subst e;obtain⟨rfl,_⟩:=v.leafI;exact q H',λ_ _ _ _ _ z=>z.elim,λ_ _ _ _ _ z=>z.elim⟩
abbrev t6:=List Ar->(List Tv->Prop)->Prop
def yG(K:W.Frag)(lsp:t6):Sp:=λvs H Q _=>∃dk as R,(∀p c,dk=some (p,c)->bo H p c)/\Paired (qH K dk H) vs as/\lsp as R/\∀a xs Ts H',Kp dk H H'->H a=none->H' a=some (.lst xs)->Ts.length<=100000->cp K H' xs Ts->R Ts->Q (.ref a) H'
def pN(P:Program)(w:World)(K:W.Frag)(mg:Str->Option Value)(base:Heap)(k:Nat)(x:Str)(ps:List Str)(lsp:t6):Prop:=cv P w K mg base k x ps (yG K lsp)
def AC(lsp:t6)(ua:dw):d3:=λρ Q=>ua ρ λas ρ1=>lsp as λTs=>Q Ts ρ1
section
variable{X:Cx}{F:Fm}{e:Expr}{es:List Expr}{x:Str}{p pos:Pos}{ua:dw}
theorem Oq{lsp:t6}(σ:St)(H:Hp)(QQ:VK)(h:pJ X.K F (AC lsp ua) σ H QQ):mZ (yG X.K lsp) [] E0 (pK X.K F ua) σ H QQ:=by
 obtain⟨ρ,Q,fr,h,k⟩:=h;refine⟨ρ,_,fr,h,λxs as H1 ρ1 s1 p1 q1=>?_⟩;show yG X.K lsp (xs++[]) H1 QQ E0;rw[jk];exact⟨F.dk,as,_,s1.fr.kp.dkk,p1,q1,λa ys Us H' kp n e z v q=>k _ _ _ _ _ (s1.trans (bh.call s1.fr kp)) (s1.non n) e z v q⟩
def GZ{k:Nat}{ps:List Str}{lsp:t6}(G:pN X.prog X.w X.K X.mg X.base k x ps lsp)(hr:bx k X.A)(hg:Gl X x)(ha:UA X F (e::es) ua)(hdb:(x==("__debug__":Str))=false:=by decide)
  (hst:dJ e=false:=by rfl) (hpl:(backTo pos (starEach es X.env)).any (·.1)=false:=by rfl):UL X F (.Call (.Name x p) (e::es) [] pos) (AC lsp ua):=
 ⟨PE.imp (pH G hr hg ha.pa hdb hst hpl) Oq⟩
abbrev tw:=aW->(List Tv->Prop)->Prop
def HK(K:W.Frag)(F:Fm)(u:tw):TS:=λD σ H=>∃ρ R,au K F ρ σ H/\u ρ R/\∀a xs Ts H',Kp F.dk F.H0 H'->F.H0 a=none->H' a=some (.lst xs)->Ts.length<=100000->cp K H' xs Ts->R Ts->D.rt (.ref a) H'
structure yb (X:Cx) (F:Fm) (st:List Stmt) (u:tw):Prop where
 ps:gz X st (HK X.K F u)
variable{st:Stmt}{rest:List Stmt}
def Gq(u:d3):tw:=λρ R=>u ρ λTs _=>R Ts
def J5{u:d3}(h:UL X F e u):yb X F [.Return (some e) pos] (Gq u):=⟨kY (PS.imp (lB h.pe) λD σ H ⟨ρ,R,fr,h,k⟩=>⟨ρ,_,fr,h,λa xs Ts H' ρ' s n e z v q=>k a xs Ts H' s.fr.kp (fr.none0 n) e z v q⟩)⟩
def Gr(s:de)(t:tw):tw:=λρ R=>s {nx:=λρ'=>t ρ' R,rt:=λ_=>False} ρ
def Bx{s:de}{t:tw}(h:US X F st s)(hr:yb X F rest t):yb X F (st::rest) (Gr s t):=⟨gz.imp (gQ h.ps hr.ps) λD σ H ⟨ρ,R,fr,h,k⟩=>
 ⟨ρ,_,fr,h,λσ' H' ρ' fr' hs q=>⟨ρ',R,fr',q,k⟩,λ_ _ _ _ _ z=>z.elim,λ_ _ _ _ _ z=>z.elim,λ_ _ _ _ _ z=>z.elim⟩⟩
end
def ao.lgood{P:Program}{w:World}{K:W.Frag}{mg:Str->Option Value}{base:Heap}{x:Str}{st:Stmt}{N ps:List Str}{k:Nat}{lsp:t6}{us:tw}(h:ao K mg x st)(S:bF N ps (aN st))
  (hb:∀(kV doc pm:Value) (an:Option Addr) (Qy ct:Value) (us:List Value),us.length=ps.length->bindArgs (W.fnOf x x (gW st) (eS st) (aN st) .none kV doc pm an Qy ct) ⟨us,[]⟩=pure (ps.zip us))
  (QH:∀(f:Addr) (Qy:Value) (A:Around) (outer:List Env) (s:Shared) (H:Hp) (E:XK) (F:Fm),bx k (A.deeper (envOfC x (aN st) s.heap.objs.size f Qy))->yb (jV o6 P w K mg base N x (aN st) f Qy A outer s H E).nox F (eS st) us)
  (hp:∀as R,lsp as R->as.length=ps.length/\us (kE N.length as) R):pN P w K mg base (k+1) x ps lsp:=by
 refine h.good S hb (λvs H Q E q=>?_) (λf Qy A outer s H vs Q E hr q=>?_)
 ·obtain⟨dk,as,R,d,p,q,_⟩:=q;rw[Paired.length p];exact(hp as R q).1
 ·obtain⟨dk,as,R,d,p,q,k⟩:=q;exact⟨_,(QH f Qy A outer s H E ⟨H,dk⟩ hr).ps,kE N.length as,R,Dt d p,(hp as R q).2,λa xs Ts H' kp n e z v q=>k a xs Ts H' kp n e z v q⟩
section
variable{X:Cx}{F:Fm}{st:Stmt}{u:de}
def zw(i:Nat)(u:de):de:=λP ρ=>match ρ[i]? with
 |some (.own Ts)=>u P (ρ.set i (.va (.seq false Ts)))
 |some (.dct kts)=>u P (ρ.set i (.va (.dct kts)))
 |_=>False
def J7(i:Nat)(h:US X F st u):US X F st (zw i u):=⟨λQx s0 σ H D I ⟨ρ,P,fr,q,k1,k2,k3,k4⟩=>by
 unfold zw at q;split at q
 ·rename_i Ts e;obtain⟨a,xs,e1,e2,e3,z,p⟩:=fr.at_ i _ e;obtain⟨ob,I'⟩:=I.fz e2 rfl;have v:VA X.K (ar H a (.frz ob (.lst xs))) (.ref a) (.seq false Ts):=VA.seq (t:=false) ⟨ob,bE⟩ z (p.hs (fR e2 rfl));have st:=fr.fzs e rfl e1 e2 rfl ob v;have hs:=st.hs fr;exact h.ps Qx s0 σ _ D I' ⟨_,P,st.fr,q,λσ' H' ρ' f hh=>k1 σ' H' ρ' f (hs.trans hh),k2,λσ' H' ρ' f hh=>k3 σ' H' ρ' f (hs.trans hh),λσ' H' ρ' f hh=>k4 σ' H' ρ' f (hs.trans hh)⟩
 ·rename_i kts e;obtain⟨a,kvs,e1,e2,e3,n,z,p⟩:=fr.at_ i _ e;obtain⟨ob,I'⟩:=I.fz e2 rfl;have v:VA X.K (ar H a (.frz ob (.dK kvs))) (.ref a) (.dct kts):=VA.dct ⟨ob,bE⟩ n z (p.hs (fR e2 rfl));have st:=fr.fzs e rfl e1 e2 rfl ob v;have hs:=st.hs fr;exact h.ps Qx s0 σ _ D I' ⟨_,P,st.fr,q,λσ' H' ρ' f hh=>k1 σ' H' ρ' f (hs.trans hh),k2,λσ' H' ρ' f hh=>k3 σ' H' ρ' f (hs.trans hh),λσ' H' ρ' f hh=>k4 σ' H' ρ' f (hs.trans hh)⟩
 ·exact False.elim q⟩
end
section
variable{X:Cx}{F:Fm}
variable{x:Str}{p QC Qz pos:Pos}{st:Stmt}
def AH:US X F st (λ_ _=>False):=⟨λQx s σ H D I ⟨_,_,_,h,_⟩=>h.elim⟩
end
end L2
namespace L2
open PySem PySem.Spec PyProof.Rows
def eE:Bool->Value->Bool
 |b,.bool c=>b==c
 |_,_=>false
def mE{b:Bool}{v:Value}(h:eE b v=true):v=.bool b:=by
 cases v<;>simp_all [eE]
def iR(b:Bool):Int:=if b then 1 else 0
section
variable{prog:Program}{w:World}{A:Around}{E:Value->Shared->Prop}{s:Shared}
theorem ND{b:Bool}{Q:Int->Shared->Prop}(h:Q (iR b) {s with toks:=s.toks+1}):wpAny (model prog w) A (pyHash (.bool b)) Q E s:=by
 unfold pyHash;have hv:[Value.bool b].any Value.onHeap=false:=rfl;refine af ?_;rw[cRoomFor,if_neg (by rw[hv];exact cn)];refine aj ?_;refine af (wpAny_specialOf (typeIs_bool' s b) F.slot_bool_hash.lookup ?_);show wpAny _ _ (if (some (Value.builtin "int.__hash__")==some Value.none)=true then _ else _) Q E s;rw[if_neg (by rw[beq_builtin_none];exact cn)];refine af (wpAny_specialOf (typeIs_bool' s b) F.slot_bool_hash.lookup ?_);show wpAny _ _ (callSpecialIfBoundUnlessNone? (.bool b) "__hash__" _ >>= _) Q E s;refine af (wpAny_callSpecialIfBoundUnlessNone?_slot (typeIs_bool' s b) F.slot_bool_hash
  (jz F.slot_bool_hash (typeIs_bool' s b) PySem.entry_int_hash
   (show wpAny _ _ (do ret (<- mkInt (rawHash (iR b)))) _ _ s from ?_) (PySem.args_int_hash _)))
 refine wpAny_ret_mkInt ?_;cases b
 ·exact aj h
 ·exact aj h
def Ke{a b:Bool}{Q:Bool->Shared->Prop}(h:Q (decide (a=b)) s):wpAny (model prog w) A (eqBool (.bool a) (.bool b)) Q E s:=by
 refine SeqAt.EqAt.bool_bool a b _ _ _ _ ?_;have e:(a==b)=decide (a=b):=by cases a<;>cases b<;>rfl
 rw[e];exact h
end
def lE(prog:Program)(w:World):PySem.KeyKind prog w Bool where
 is:=eE
 hash:=iR
 inj:=λv a b ha hb=>by
  have:=(mE ha).symm.trans (mE hb);injection this
 byValue:=λk v h=>by rw[mE h];rfl
 pyHash:=λhv h=>by rw[mE hv];exact ND h
 eqBool:=λhu hv h=>by rw[mE hu,mE hv];exact Ke h
 «strs»:=λk x t v h=>by simp[eE]at h
def cy(f t:Bool):List Bool:=(if f then [false] else [])++(if t then [true] else [])
def gr(f t:Bool):Array (Int×Value):=((cy f t).map λb=>(iR b,Value.bool b)).toArray
def dD(l f t:Bool):SetTable:=⟨7,((cy f t).map λb=>if b then 1 else 0).toArray,#[],0,l,0,true⟩
def GN(l f t b:Bool)(h:b∉cy f t):layNew (dD l f t) (gr f t) (iR b) (.bool b)=(gr (f || !b) (t || b),dD l (f || !b) (t || b),false,false):=by
 cases l<;>cases f<;>cases t<;>cases b<;>first|rfl|exact absurd (by simp[cy]) h
def iB(l f t:Bool):(dD l f t).fits (gr f t).size=true:=by cases l<;>cases f<;>cases t<;>rfl
def F7(l f t:Bool):(dD l f t).tooFull=false:=by cases l<;>cases f<;>cases t<;>rfl
def sX(f t:Bool):(gr f t).size=(cy f t).length:=by simp[gr]
def jR(f t:Bool):(cy f t).length<=2:=by cases f<;>cases t<;>decide
def bq(w:World)(a:Addr)(f t:Bool)(h:Heap):Prop:=∃ep,h.get? a=some (cC (gr f t) ep (dD (!cg w) f t))
section
variable{prog:Program}{w:World}{A:Around}{E:Value->Shared->Prop}{s:Shared}{a:Addr}{f t b:Bool}
def bq.kept{h h':Heap}(S:bq w a f t h)(k:∀o,h.get? a=some o->h'.get? a=some o):bq w a f t h':=by
 obtain⟨ep,e⟩:=S;exact⟨ep,k _ e⟩
def EC:ElemsOf (lE prog w) (gr f t).toList:=λe he=>by
 have he:e∈(cy f t).map λb=>(iR b,Value.bool b):=he
 obtain⟨b,_,rfl⟩:=qf_.mp he;exact⟨⟨b,by show eE b (.bool b)=true;simp[eE],rfl⟩,rfl⟩
def findB:((gr f t).toList.findIdx? λe=>(lE prog w).is b e.2)=none↔b∉cy f t:=by
 rw[qG3_];constructor
 ·intro h hb;have:=h (iR b,.bool b) (by simp only[gr];exact qf_.mpr ⟨b,hb,rfl⟩);exact absurd this (by show ¬ eE b (.bool b)=false;simp[eE])
 ·intro h e he;have he:e∈(cy f t).map λb=>(iR b,Value.bool b):=he
  obtain⟨c,hc,rfl⟩:=qf_.mp he;show eE b (.bool c)=false;simp only[eE,beq_eq_false_iff_ne];exact λz=>h (z▸hc)
def EB{f t b:Bool}(h:b∈cy f t):(f || !b)=f/\(t || b)=t:=by
 cases f<;>cases t<;>cases b<;>simp_all [cy]
def BE{Q:Bool->Shared->Prop}(S:bq w a f t s.heap)(h:∀r h',Heap.SameBut a s.heap h'->bq w a (f || !b) (t || b) h'->Q r {s with heap:=h'}):
  wpAny (model prog w) A (setAddHashed a (.bool b) ((lE prog w).hash b)) Q E s:=by
 obtain⟨ep,ho⟩:=id S;have hk:(lE prog w).is b (.bool b)=true:=by show eE b (.bool b)=true;simp[eE]
 have lt:(gr f t).size<scanBound:=by rw[sX];have:=jR f t;show _<4096;omega
 unfold setAddHashed setAddHashedIn;refine h_ (af (g5 ho rfl (iB _ _ _) ?_));dsimp only;rw[byScan_of (x:=.bool b) rfl lt (EC (prog:=prog) (w:=w)),if_pos rfl];unfold setAddByScan;refine af (af (wpAny_rule ?_));refine af (wpAny_setScan_of hk ho rfl (iB _ _ _) EC ?_);cases hr:(gr f t).toList.findIdx? (λe=>(lE prog w).is b e.2) with
 |some j=>
  dsimp only;have hin:b∈cy f t:=Classical.byContradiction λz=>by rw[findB.mpr z]at hr;cases hr
  refine aj (aj ?_);have e:s={s with heap:=s.heap}:=by cases s;rfl
  rw[e];refine h false s.heap (Heap.SameBut.refl a s.heap) ?_;rw[(EB hin).1,(EB hin).2];exact S
 |none=>
  dsimp only;have hout:=findB.mp hr;rw[show(lE prog w).hash b=iR b from rfl,GN _ _ _ _ hout];dsimp only;refine af (aj ?_);rw[if_pos (show(dD (!cg w) (f || !b) (t || b)).plain=true from rfl)];refine af ?_;rw[show hashByValue 8 (.bool b)=pure true from rfl];refine aj ?_;rw[if_pos rfl];refine af (wpAny_storeSet_of ho rfl ?_ (by rw[sX];have:=jR (f || !b) (t || b);exact bw this (by decide)));rw[F7];have o1:=e7 (Obj.putSet (gr (f || !b) (t || b)) (dD (!cg w) (f || !b) (t || b))) ho rfl;exact aj (aj (h true _ (Heap.SameBut.update s.heap a _) ⟨ep+1,o1⟩))
end
def b9(bs:List Bool):Bool:=bs.any (!·)
def b8(bs:List Bool):Bool:=bs.any id
def L4(bs:List Bool)(b:Bool):b9 (bs++[b])=(b9 bs || !b):=by simp[b9]
def L5(bs:List Bool)(b:Bool):b8 (bs++[b])=(b8 bs || b):=by simp[b8]
section
variable{prog:Program}{w:World}{A:Around}{R:Result->Shared->Prop}{I:Addr}{fp wr:List Addr}{G:Array GenState->Array GenState->Prop}{n:Nat}{P:Nat->Value->Prop}{St:Nat->Shared->Prop}
def C2(W:WalksS prog w A.in1 I fp wr G n P St)(S:Addr)(hf:S∉fp)(bs:List Bool)(hn:n=bs.length)(hv:∀i v,P i v->∃b,bs[i]?=some b/\v=.bool b):
  ∀(k i:Nat) (s:Shared),n-i=k->i<=n->St i s->bq w S (b9 (bs.take i)) (b8 (bs.take i)) s.heap ->
   (∀s',Moved (S::wr) G s s'->bq w S (b9 bs) (b8 bs) s'.heap->R (.ok (.ret .none)) s')->codeAny (model prog w) A (.builtin "set.update.loop" ⟨[.ref S,.ref I],[]⟩) R s:=λk i s hk hi st hS hR=>
 wM W S hf (λi h=>bq w S (b9 (bs.take i)) (b8 (bs.take i)) h) (λ_ _ _ S k=>S.kept k) (λi v s' Q E lt hP hS q=>by
  obtain⟨b,eb,rfl⟩:=hv i v hP;refine uZ (lE prog w) (x:=b) (by show eE b (.bool b)=true;simp[eE]) (BE (s:={s' with toks:=s'.toks+1}) hS λr h' sb S2=>q r h' sb ?_);rw[f7,eb];show bq w S (b9 (bs.take i++[b])) (b8 (bs.take i++[b])) h';rw[L4,L5];exact S2) k i s hk hi st hS λs' m S'=>hR s' m (by rw[hn,d_]at S';exact S')
end
def A1{vs:List Value}{bs:List Bool}(h:vs=bs.map Value.bool)(i:Nat)(v:Value)(e:vs[i]?=some v):∃b,bs[i]?=some b/\v=.bool b:=by
 subst h;rw[fo]at e;obtain⟨b,hb,rfl⟩:=qd1_.mp e;exact⟨b,hb,rfl⟩
section
variable{prog:Program}{w:World}{A:Around}{E:Value->Shared->Prop}{s:Shared}
def O9{l:Addr}{items:Array Value}{bs:List Bool}{Q:Value->Shared->Prop}(hh:A.handled=none)(hl:s.heap.IsList l items)(hi:items.toList=bs.map Value.bool)
  (h:∀(h':Heap) (tk:Nat),bq w s.heap.objs.size (b9 bs) (b8 bs) h'->(∀b o,b<s.heap.objs.size->s.heap.get? b=some o->h'.get? b=some o)->Q (.ref s.heap.objs.size) {s with heap:=h',toks:=tk}):
  wpAny (model prog w) A (call (.type "set") [.ref l]) Q E s:=by
 have hz:items.size=bs.length:=by have:=congrArg List.length hi;simpa using this
 refine CB hh hl (λhh3 ne nf s1 e1 g1 st=>?_) h;subst e1;exact C2 ((Walks.list hh3 _ l ne items).toS) s.heap.objs.size nf bs hz (λi v hv=>A1 hi i v (by rw[fw];exact hv)) (items.size-0) 0 _ (by omega) (dq _) st ⟨0,g1⟩ λs' m S'=>oC m m.gens S'
end
def Ee{vs:List Value}{us:List Bool}(h:vs.Perm (us.map Value.bool)):∃bs:List Bool,vs=bs.map Value.bool/\bs.Perm us:=by
 let g:Value->Bool:=λv=>match v with|.bool b=>b|_=>false
 refine⟨vs.map g,?_,?_⟩
 ·rw[fg]
  conv=>lhs;rw[<-nz vs]
  refine mw λv hv=>?_
  obtain⟨b,_,rfl⟩:=qf_.mp (h.mem_iff.mp hv);rfl
 ·have:=h.map g;rw[fg]at this;have e:us.map (g∘Value.bool)=us:=by
   conv=>rhs;rw[<-nz us]
   exact mw λb _=>rfl
  rwa[e]at this
def Hz(l f t:Bool):eO (dD l f t).place:=by
 cases f<;>cases t<;>first|exact vM (Nat.le_of_ble_eq_true rfl)|skip;intro i j hij a b ha hb;have:=(qu2_.mp hb).1;have h2:(dD l true true).place.size=2:=rfl;have e1:i=0:=by omega
 have e2:j=1:=by omega
 subst e1 e2;cases ha;cases hb;exact Nat.zero_lt_one
@[reducible] def sortB:PyProof.Rows.KeyKind where
 α:=Bool
 blt a b:=!a&&b
 irrefl a:=by cases a<;>rfl
 trans a b c h1 h2:=by cases a<;>cases b<;>cases c<;>simp_all
 negTrans a b c h:=by cases a<;>cases b<;>cases c<;>simp_all
 total a b h1 h2:=by cases a<;>cases b<;>simp_all
 keyOf v:=match v with|.bool b=>some b|_=>none
 dflt:=false
section
variable{prog:Program}{w:World}{A:Around}{E:Value->Shared->Prop}{s:Shared}
theorem Ox{a b:Bool}{Q:Bool->Shared->Prop}(h:Q (!a&&b) s):wpAny (model prog w) A (oneLt' true (.bool a) (.bool b)) Q E s:=by
 rw[oneLt'_eq];simp only[if_true];refine af (wpAny_cRoomFor_byValue rfl ?_);refine af (wpAny_callSpecialIfBound?_slot (typeIs_bool' s a) F.slot_bool_lt ?_);refine call_gives F.slot_bool_lt (typeIs_bool' s a) F.entry_int_lt (F.args_int_lt_2 _ _) (gives_int_lt_bools a b) ?_;have e:decide (b2i a<b2i b)=(!a&&b):=by cases a<;>cases b<;>rfl
 show wpAny _ _ (truthOfDropped (.bool (decide (b2i a<b2i b)))) _ _ _;rw[e];exact wpAny_truthy_bool h
end
def O4:sortB.OneLt:=by
 intro prog w A E s x y a b Q ha hb h;cases x<;>simp only[sortB,reduceCtorEq,Option.some.injEq]at ha;cases y<;>simp only[sortB,reduceCtorEq,Option.some.injEq]at hb;cases ha;cases hb;exact Ox h
def DS:∀(bs:List Bool),(bs.map Value.bool).mapM firstOfTuple'=pure ((bs.map Value.bool).map λ_=>none)
 |[]=>by simp
 |b::bs=>by rw[dz,List.mapM_cons,show firstOfTuple' (.bool b)=pure none from rfl,DS bs];simp
def DR:∀(bs:List Bool),(bs.map Value.bool).mapM typeOf=pure ((bs.map Value.bool).map λ_=>Value.type "bool")
 |[]=>by simp
 |b::bs=>by
  rw[dz,List.mapM_cons,DR bs];show(pure (Value.type "bool") >>= λb=>pure _ >>= λbs=>pure (b::bs))=_;simp
def N2{b c:Bool}{bs:List Bool}:keyKind' (((b::c::bs).map Value.bool).toArray)=pure oneType':=by
 rw[keyKind'_eq,List.mapM_toArray,DS];simp only[map_pure,pure_bind];rw[if_neg (by simp),if_neg (by simp)];rw[oneTypeOnly'_eq,List.mapM_toArray,DR];simp only[map_pure,pure_bind];have hall:((List.map (λ_=>Value.type "bool") ((b::c::bs).map Value.bool)).toArray.all λx=>x==Value.type "bool")=true:=by
  simp only[List.all_toArray,qq,qp1_];intro _ _;rfl
 have h0:(List.map (λ_=>Value.type "bool") ((b::c::bs).map Value.bool)).toArray[0]?=some (Value.type "bool"):=by simp
 rw[h0];simp only[hall,if_true,pure_bind,sa]
def Ly{f t:Bool}{bs:List Bool}(h:bs.Perm (cy f t))(s:∀i j:Nat,i<=j->∀a b,bs[i]?=some a->bs[j]?=some b->(!b&&a)=false):bs=cy f t:=by
 cases f<;>cases t
 ·exact List.perm_nil.mp h
 ·exact List.perm_singleton.mp h
 ·exact List.perm_singleton.mp h
 ·have l:bs.length=2:=h.length_eq
  match bs,l with
  |[a,b],_=>
   have:=s 0 1 (by decide) a b rfl rfl;cases a<;>cases b
   ·exact absurd (h.mem_iff (a:=true)) (by simp[cy])
   ·rfl
   ·cases this
   ·exact absurd (h.mem_iff (a:=false)) (by simp[cy])
section
variable{prog:Program}{w:World}{A:Around}{E:Value->Shared->Prop}{s:Shared}{a:Addr}{f t:Bool}
def NY{Q:Value->Shared->Prop}(hh:A.handled=none)(S:bq w a f t s.heap)
  (h:∀h' d tk (l:Addr) (e:Nat),h'.get? l=some (seqObj "list" ((cy f t).map Value.bool).toArray e)->s.heap.objs.size<=l->(∀b o,s.heap.get? b=some o->h'.get? b=some o) ->
   Q (.ref l) {s with heap:=h',drawn:=d,toks:=tk}):wpAny (model prog w) A (call (.builtin "sorted") [.ref a]) Q E s:=by
 refine Calls.call_function_entry kind_sorted plain_sorted entry_sorted (args_sorted1 _) ?_;unfold Builtin.«sorted»;refine af (m:=checkCount "sorted" 1 1 _) (aj ?_);obtain⟨ep,ho⟩:=S;refine af (uW (by simp[hh]) ho (iB _ _ _) (by rw[sX];have:=jR f t;show _<4096;omega) rfl (λ_=>Hz _ _ _) λh1 d tk acc pa le kp=>?_);obtain⟨bs,hs,hp⟩:=Ee (us:=cy f t) (by simpa[gr,Function.comp_def]using pa);subst hs;have hlen:(bs.map Value.bool).length<64:=by rw[ak,hp.length_eq];have:=jR f t;omega
 refine af (wpAny_newList ?_ (j0 (fh hlen (by decide))));have hoL:(h1.push (seqObj "list" (bs.map Value.bool).toArray 0)).get? h1.objs.size=some (seqObj "list" (bs.map Value.bool).toArray 0):=cf _ rfl;have hko:KeysOf sortB (pairsOf (bs.map Value.bool)):=by
  intro p hp;rw[pairsOf_toList]at hp;obtain⟨b,_,e⟩:=qf_.mp (mem_zip_self hp).2;exact⟨b,by rw[<-e]⟩
 refine af (h_ (jz slot_list_sort ⟨_,hoL,rfl⟩ entry_list_sort (list_sort_treeK O4 hoL hko (λv₁ v₂ rest e=>?_) hlen λst' a1 a2=>⟨_,rfl,?_⟩) (args_list_sort _)))
 ·match bs,e with
  |b::c::bs,e=>rw[<-e];exact N2
 have hl:(arrOf st').toList.Perm ((bs.map Value.bool).zip (bs.map Value.bool)):=by rw[<-pairsOf_toList];exact Array.perm_iff_toList_perm.mp a1
 have hmem:∀p,p∈(arrOf st').toList->p.1=p.2/\p.1∈bs.map Value.bool:=λp hp'=>mem_zip_self (hl.mem_iff.mp hp')
 have pm:((arrOf st').map (·.2)).toList.Perm ((cy f t).map Value.bool):=by
  rw[Array.toList_map];have:=hl.map (·.2);rw[List.map_snd_zip (ba _)]at this;exact this.trans (hp.map _)
 obtain⟨cs,e1,e2⟩:=Ee pm;have e3:cs=cy f t:=Ly e2 λi j hij x y hx hy=>by
  have kk:∀(i:Nat) (x:Bool),cs[i]?=some x->KK sortB (arrOf st') i=x/\i<(arrOf st').size:=λi x hx=>by
   have hv:((arrOf st').map (·.2)).toList[i]?=some (.bool x):=by rw[e1,fo,hx];rfl
   rw[Array.toList_map,fo]at hv;obtain⟨p,hp1,hp2⟩:=qd1_.mp hv;have hm:=hmem p (gq hp1);rw[fw]at hp1;refine⟨?_,(qu2_.mp hp1).1⟩;unfold KK;rw[hp1];show(sortB.keyOf p.1).getD false=x;rw[hm.1,hp2];rfl
  have hi:=kk i x hx;have hj:=kk j y hy;have:=a2 i j hij (by rw[<-a1.size_eq];exact hj.2);rw[hi.1,hj.1]at this;exact this
 subst e3;obtain⟨e,he⟩:=sortedHeap_at (out:=(arrOf st').map (·.2)) hoL;refine aj ⟨_,rfl,h _ _ _ _ e (by rw[<-e1,kx];exact he) (j0 le) λb o q=>?_⟩;have lt:=bj (kp b o q);rw[sortedHeap_old (cu lt) (by rw[ib];exact gk lt)];exact bc _ (kp b o q)
end
end L2
namespace L2
open PySem PySem.Spec PyProof.Rows WordM
def eM(w:World)(a:Addr)(f t:Bool):HO:=.ext (bq w a f t)
section
variable{X:Cx}{F:Fm}
def Hx(w:World)(K:W.Frag):List V->Hp->VK->Prop:=λxs H Q=>∃(p:Addr) (bs:List Bool),xs=[.ref p]/\bu K H p (bs.map V.bl)/\∀a:Addr,H a=none->Q (.ref a) (ar H a (eM w a (b9 bs) (b8 bs)))
theorem A2{bs:List Bool}:∀{vs:List Value},ai (bs.map V.bl) vs->vs=bs.map Value.bool:=by
 induction bs with
 |nil=>intro vs h;cases h;rfl
 |cons b bs ih=>
  intro vs h;cases h with
  |cons r t=>
   rw[dz,<-ih t];have:_=Value.bool b:=r;rw[this]
def Nd(hc:X.calm=true):aq X (.type "set") (Hx X.w X.K):=by
 intro Qx s σ H xs us Q I r h;obtain⟨p,bs,rfl,hq,q⟩:=h;obtain⟨u,rfl,rx⟩:=cN r;cases rx;obtain⟨its,rv,pl,hz'⟩:=I.list hq;refine O9 (I.ok.hd hc) pl.isList (bs:=bs) (A2 rv) λh' tk S k=>?_
 refine⟨.ref s.heap.objs.size,_,I.laid (t':=tk) (o:=eM X.w s.heap.objs.size (b9 bs) (b8 bs)) (λb o e=>k b o (bj e) e) (ba _) ⟨S,?_,λh1 h2 z k'=>z.kept k'⟩,rfl,q _ I.fresh⟩;obtain⟨ep,e⟩:=S;exact⟨_,e⟩
def Le(w:World):List V->Hp->VK->Prop:=λxs H Q=>∃(a:Addr) (f t:Bool),xs=[.ref a]/\H a=some (eM w a f t)/\∀l:Addr,H l=none->Q (.ref l) (ar H l (.lst ((cy f t).map V.bl)))
theorem Ej:∀(bs:List Bool),ai (bs.map V.bl) (bs.map Value.bool)
 |[]=>.nil
 |b::bs=>.cons rfl (Ej bs)
theorem DO(hc:X.calm=true):aq X (.builtin "sorted") (Le X.w):=by
 intro Qx s σ H xs us Q I r h;obtain⟨a,f,t,rfl,hq,q⟩:=h;obtain⟨u,rfl,rx⟩:=cN r;cases rx;have S:bq X.w a f t s.heap:=(I.hok a _ hq).1;refine NY (I.ok.hd hc) S λh' d tk l e hl le k=>?_
 refine⟨.ref l,_,(I.laid (t':=tk) (o:=.lst ((cy f t).map V.bl)) k le ⟨?_,_,e,Ej _,hl⟩).draw d,rfl,q l (I.hok.fresh le)⟩;rw[ak];exact bw (jR f t) (by decide)
variable{pos:Pos}
def N7(u:UT):d3:=λρ Q=>u ρ λT ρ1=>∃bs:List Bool,T=.seq false (bs.map bT)/\Q ((cy (b9 bs) (b8 bs)).map bT) ρ1
theorem O6{e:Expr}{u:UT}{p p' pos':Pos}(hc:X.calm=true)(hg:Gl X "sorted")(hm:X.mg "sorted"=none)(hg':Gl X "set")(hm':X.mg "set"=none)(he:UE X F e u)(hst:dJ e=false:=by rfl)
  (hpl:(backTo pos (starEach [] X.env)).any (·.1)=false:=by rfl) (hpl':(backTo pos' (starEach [] X.env)).any (·.1)=false:=by rfl):
  UL X F (.Call (.Name "sorted" p) [.Call (.Name "set" p') [e] [] pos'] [] pos) (N7 u):=⟨PE.imp (iG (DO hc) hg hm boot_sorted (cV (gB (Nd hc) hg' hm' L2.boot_set (cV he.pe dC hst) (by decide) (by decide) (gA hst) hpl') dC rfl) (by decide) (by decide) rfl hpl) λσ H QQ ⟨ρ,Q,f,h,k⟩=>by
 refine⟨ρ,_,f,h,λx T H1 ρ1 s1 v1 q1=>?_⟩;obtain⟨bs,rfl,q⟩:=q1;obtain⟨a,ys,rfl,hs,z,p⟩:=v1.seqI;rw[oM p]at hs;refine⟨a,bs,rfl,cS hs,λb nb=>⟨b,_,_,rfl,bE,λc nc=>?_⟩⟩;have sm:=(cB (o:=eM X.w b (b9 bs) (b8 bs)) nb).trans (cB (o:=.lst ((cy (b9 bs) (b8 bs)).map V.bl)) nc);exact k _ _ _ _ _ (s1.trans (bh.same s1.fr sm)) (s1.non ((cB nb).free nc)) bE (by rw[ak];have:=jR (b9 bs) (b8 bs);omega) (xZ _) q⟩
def Ip:List V->Hp->VK->Prop:=λxs H Q=>∃(a:Addr) (ob:Obj) (kvs:List (av×V)) (us:List Str),xs=[.ref a]/\nj H a ob kvs/\kvs.map (·.1)=us.map Sum.inr/\∀l:Addr,H l=none->Q (.ref l) (ar H l (.lst (us.map V.str)))
theorem Oe(hc:X.calm=true):aq X (.type "list") Ip:=by
 intro Qx s σ H xs us Q I r h;obtain⟨a,ob,kvs,uu,rfl,hz,hk,q⟩:=h;obtain⟨u,rfl,rx⟩:=cN r;cases rx;obtain⟨e,hs,hl,vs,es,ep,rr,dd,hd⟩:=kD I hz;have hkv:vs.map (·.1)=uu.map Sum.inr:=by rw[<-sE rr];exact hk
 have hlen:vs.length=uu.length:=by have:=congrArg List.length hkv;simpa using this
 have lv:vs.length=kvs.length:=(lD rr).symm;refine PySem.W.kdl_call (PySem.W.kdl_dict (knd:=bW X.prog X.w) (kvs:=vs) (ep:=ep) hs) (I.ok.hd hc) dd (by omega) λh' tk acc c k hl' ha=>?_
 refine⟨.ref _,_,I.laid (t':=tk) (o:=.lst (uu.map V.str)) k (ba _) ⟨by rw[ak];omega,acc.toList,c,qI (DN hkv ha),by rw[kx];exact hl'⟩,rfl,q _ I.fresh⟩
def IU:List Tv->(List Tv->Prop)->Prop:=λTs Q=>∃kts,Ts=[.dct kts]/\Q (kts.map λkt=>sT kt.1)
def LH(hc:X.calm=true):oS X (.type "list") IU:=⟨_,Oe hc,λxs Ts H Q QQ vx h k=>by
 obtain⟨kts,rfl,q⟩:=h;obtain⟨x,rfl,v⟩:=dP vx;obtain⟨a,kvs,rfl,⟨ob,hd⟩,nd,z,p⟩:=v.dctI;refine⟨a,ob,kvs,kts.map (·.1),rfl,hd,rK p,λb n=>?_⟩;have e:(kts.map λkt=>sT kt.1)=(kts.map (·.1)).map sT:=by rw[fg];rfl
 rw[e]at q;exact k b _ _ _ (cB n) n bE (by rw[ak,ak];omega) (mM _) q⟩
def pM(d v:Addr):HO:=.ext λh=>h.IsValuesView v d
def HI(tl:TE):TE:=λσ H Q=>tl σ H λx H1=>∃a ob kvs,x=.ref a/\nj H1 a ob kvs/\∀p,H1 p=none->Q (.ref p) (ar H1 p (pM a p))
theorem K3{o:Expr}{tl:TE}{QC pos:Pos}(hl:PE X o tl)(QE:attributeBase o "values" X.env (eval o X.env)=eval o X.env:=by rfl)(QD:(QC.endLine==pos.line)=true:=by rfl):
  PE X (.Call (.Attribute o "values" QC) [] [] pos) (HI tl):=by
 intro Qx s σ H Q I h;refine wpAny_Call_method (T:="dict") (id:="dict.values") QE rfl QD F.plainAttrs_dict F.slot_dict_values F.type_dict_values (bf (hl Qx s σ H _ I h) λv s1 ⟨x,H1,I1,r1,q1⟩=>?_);obtain⟨a,ob,kvs,e,hz,q⟩:=q1;subst e;cases r1;obtain⟨e,hs,hl,vs,es,ep,r,dd,hd⟩:=kD I1 hz;have hm:=dd.dictOf;refine⟨hm.typeIs,hm.mapOf.noDict,?_⟩;show wpAny _ _ (callWith pos (.builtin "dict.values") [.ref a] [] []) _ _ s1;refine method_meetsIn F.slot_dict_values F.entry_dict_values rfl (PySem.evalArgs_none ⟨rfl,hm.typeIs,F.args_dict_values_1 _,_,meets_dict_values (bW X.prog X.w) a hs,⟨vs,hm⟩,?_⟩);refine⟨.ref _,_,I1.laid (t':=s1.toks) (o:=pM a s1.heap.objs.size) (λb o e=>bc _ e) (ba _) ⟨⟨_,cf _ rfl,rfl,rfl⟩,⟨_,cf _ rfl⟩,?_⟩,rfl,q _ I1.fresh⟩;rintro h1 h2 ⟨o,e,c⟩ k;exact⟨o,k o e,c⟩
def BA:∀{kvs:List (av×V)}{vs:List (av×Value)},KV kvs vs->ai (kvs.map (·.2)) (vs.map (·.2))
 |[],_,.nil=>.nil
 |_::_,_,.cons r rs=>.cons r.2 (BA rs)
def Iq:List V->Hp->VK->Prop:=λxs H Q=>∃(v a:Addr) (ob:Obj) (kvs:List (av×V)),xs=[.ref v]/\H v=some (pM a v)/\nj H a ob kvs/\∀l:Addr,H l=none->Q (.ref l) (ar H l (.lst (kvs.map (·.2))))
def Of(hc:X.calm=true):aq X (.type "list") Iq:=by
 intro Qx s σ H xs us Q I r h;obtain⟨v,a,ob,kvs,rfl,hv,hz,q⟩:=h;obtain⟨u,rfl,rx⟩:=cN r;cases rx;obtain⟨e,hs,hl,vs,es,ep,rr,dd,hd⟩:=kD I hz;obtain⟨hvv,_⟩:=(show aw X.prog X.w H s.heap v (pM a v) from I.hok v _ hv)
 have lv:vs.length=kvs.length:=(lD rr).symm;refine PySem.W.kdl_call (PySem.W.kdl_values (knd:=bW X.prog X.w) (r:=v) (d:=a) (kvs:=vs) (ep:=ep)) (I.ok.hd hc) ⟨hvv,dd⟩ (by omega) λh' tk acc c k hl' ha=>?_
 have ev:acc.toList=vs.map (·.2):=PySem.W.kdl_vals_eq acc.toList (by rw[di];exact ha.1) λj v e=>ha.2 j v (by rw[<-fw];exact e)
 refine⟨.ref _,_,I.laid (t':=tk) (o:=.lst (kvs.map (·.2))) k (ba _) ⟨by rw[ak];omega,acc.toList,c,by rw[ev];exact BA rr,by rw[kx];exact hl'⟩,rfl,q _ I.fresh⟩
def NA{K:W.Frag}{H:Hp}{kvs:List (av×V)}{kts:List (Str×Tv)}(p:f_ K H kvs kts):cp K H (kvs.map (·.2)) (kts.map (·.2)):=by
 unfold f_ at p
 induction p with
 |nil=>exact .nil
 |cons r _ ih=>exact .cons r.2 ih
def JX(u:UT):d3:=λρ Q=>u ρ λT ρ1=>∃kts,T=.dct kts/\Q (kts.map (·.2)) ρ1
def Ny{e:Expr}{u:UT}{p QC Qz:Pos}(hc:X.calm=true)(hg:Gl X "list")(hm:X.mg "list"=none)(he:UE X F e u)
  (QE:attributeBase e "values" X.env (eval e X.env)=eval e X.env:=by rfl) (QD:(QC.endLine==Qz.line)=true:=by rfl) (hpl:(backTo pos (starEach [] X.env)).any (·.1)=false:=by rfl):
  UL X F (.Call (.Name "list" p) [.Call (.Attribute e "values" QC) [] [] Qz] [] pos) (JX u):=⟨PE.imp (gB (Of hc) hg hm boot_list (cV (K3 he.pe QE QD) dC rfl) (by decide) (by decide) rfl hpl) λσ H QQ ⟨ρ,Q,f,h,k⟩=>by
 refine⟨ρ,_,f,h,λx T H1 ρ1 s1 v1 q1=>?_⟩;obtain⟨kts,rfl,q⟩:=q1;obtain⟨a,kvs,rfl,⟨ob,hd⟩,nd,z,p⟩:=v1.dctI;refine⟨a,ob,kvs,rfl,hd,λb nb=>⟨b,a,ob,kvs,rfl,bE,?_,λc nc=>?_⟩⟩
 ·exact(cB nb) _ _ hd
 have sm:=(cB (o:=pM a b) nb).trans (cB (o:=.lst (kvs.map (·.2))) nc);have lk:kvs.length=kts.length:=Paired.length p;exact k _ _ _ _ _ (s1.trans (bh.same s1.fr sm)) (s1.non ((cB nb).free nc)) bE (by rw[ak];omega) (cp.hs ((hC nb).trans (hC nc)) (NA p)) q⟩
end
end L2
namespace L2
open PySem PySem.Spec PyProof.Rows
section
variable{X:Cx}{F:Fm}
def Iv(P:Program)(w:World)(K:W.Frag):List V->Hp->VK->Prop:=λxs H Q=>∃(p:Addr) (ss:List Str),xs=[.ref p]/\bu K H p (ss.map V.str)/\(aH ss).length<4000/\∀a:Addr,H a=none->Q (.ref a) (ar H a (dW P w a (aH ss)))
def Oi(hc:X.calm=true):aq X (.type "set") (Iv X.prog X.w X.K):=by
 intro Qx s σ H xs us Q I r h;obtain⟨p,ss,rfl,hq,hz,q⟩:=h;obtain⟨u,rfl,rx⟩:=cN r;cases rx;obtain⟨its,rv,pl,hz'⟩:=I.list hq;have hi:StrsAre its.toArray.toList ss:=jY rv;refine O8 (I.ok.hd hc) pl.isList hi (by show(aH ss).length+1<4096;omega) λh' tk S k=>?_
 refine⟨.ref s.heap.objs.size,_,I.laid (t':=tk) (o:=dW X.prog X.w s.heap.objs.size (aH ss)) (λb o e=>k b o (bj e) e) (ba _) ⟨S,?_,λh1 h2 z k'=>z.kept k'⟩,rfl,q _ I.fresh⟩;obtain⟨es,ep,t,e,_⟩:=S;exact⟨_,e⟩
variable{pos:Pos}
def N6(u:UT):d3:=λρ Q=>u ρ λT ρ1=>∃ss:List Str,T=.seq false (ss.map sT)/\(aH ss).length<64/\Q ((aY (aH ss)).map sT) ρ1
theorem qJ{e:Expr}{u:UT}{p p' pos':Pos}(hc:X.calm=true)(hg:Gl X "sorted")(hm:X.mg "sorted"=none)(hg':Gl X "set")(hm':X.mg "set"=none)(he:UE X F e u)(hst:dJ e=false:=by rfl)
  (hpl:(backTo pos (starEach [] X.env)).any (·.1)=false:=by rfl) (hpl':(backTo pos' (starEach [] X.env)).any (·.1)=false:=by rfl):
  UL X F (.Call (.Name "sorted" p) [.Call (.Name "set" p') [e] [] pos'] [] pos) (N6 u):=⟨PE.imp (iG (DK hc) hg hm boot_sorted (cV (gB (Oi hc) hg' hm' L2.boot_set (cV he.pe dC hst) (by decide) (by decide) (gA hst) hpl') dC rfl) (by decide) (by decide) rfl hpl) λσ H QQ ⟨ρ,Q,f,h,k⟩=>by
 refine⟨ρ,_,f,h,λx T H1 ρ1 s1 v1 q1=>?_⟩;obtain⟨ss,rfl,l2,q⟩:=q1;obtain⟨a,ys,rfl,hs,z,p⟩:=v1.seqI;rw[jA p]at hs;refine⟨a,ss,rfl,cS hs,by omega,λb nb=>⟨b,aH ss,rfl,bE,l2,λms c h1 h2 nc=>?_⟩⟩;have sm:=(cB (o:=dW X.prog X.w b (aH ss)) nb).trans (cB (o:=.lst (ms.map V.str)) nc);refine k _ _ _ _ _ (s1.trans (bh.same s1.fr sm)) (s1.non ((cB nb).free nc)) bE (by rw[ak,h1.length_eq];omega) (mM ms) ?_;rw[oH h1 h2];exact q⟩
abbrev Hj:P2:=uy (λ_ j=>j≠0) λi j=>.int (i.fmod j)
def La:gM X (binaryOp .Mod) Hj:=(tF Ls λ_ _=>rfl).op
end
end L2
namespace RunM
structure ir (lo hi st:Int):Prop where
 nn:0<=st
 z:st=0->lo=hi
 p:0<st->lo<hi/\st ∣ (hi-lo)
def ir.le{lo hi st:Int}(r:ir lo hi st):lo<=hi:=by
 rcases Int.lt_or_le 0 st with h|h
 ·exact Int.le_of_lt (r.p h).1
 ·have:=r.nn;rw[r.z (by omega)];exact ku _
end RunM
namespace GcdM
open RunM
def g(a b:Int):Int:=((Int.gcd a b:Nat):Int)
def g_nonneg(a b:Int):0<=g a b:=Int.natCast_nonneg _
def g_dvd{d a b:Int}:d ∣ g a b↔d ∣ a/\d ∣ b:=by
 unfold g;constructor
 ·intro h;exact⟨kr h (Int.gcd_dvd_left ..),kr h (Int.gcd_dvd_right ..)⟩
 ·rintro⟨h1,h2⟩;exact Int.dvd_coe_gcd h1 h2
def Hf(a:Int)(h:0<=a):g a 0=a:=by
 unfold g;rw[Int.gcd_zero_right];omega
def rC{a b:Int}(ha:0<=a)(hb:0<=b)(h:∀d:Int,d ∣ a↔d ∣ b):a=b:=by
 have h1:a ∣ b:=(h a).mp (qe _);have h2:b ∣ a:=(h b).mpr (qe _);exact Int.dvd_antisymm ha hb h1 h2
def He{a b:Int}(hb:0<b):g b (a % b)=g a b:=by
 refine rC (g_nonneg _ _) (g_nonneg _ _) λd=>?_
 rw[g_dvd,g_dvd];constructor
 ·rintro⟨h1,h2⟩;refine⟨?_,h1⟩;have:=mn (kr h1 (qd b (a / b))) h2;rw[Int.mul_ediv_add_emod]at this;exact this
 ·rintro⟨h1,h2⟩;refine⟨h2,?_⟩;have:=jo h1 (kr h2 (qd b (a / b)));rw[show a-b*(a / b)=a % b by have:=Int.mul_ediv_add_emod a b;omega]at this;exact this
def stepOf(lo:Int)(ns:List Int):Int:=ns.foldl (λs n=>g (n-lo) s) 0
def wB{lo d:Int}:∀{ns:List Int}{s:Int},d ∣ ns.foldl (λs n=>g (n-lo) s) s↔d ∣ s/\∀n∈ns,d ∣ (n-lo)
 |[],s=>by simp
 |n::r,s=>by
  rw[f9,wB,g_dvd];constructor
  ·rintro⟨⟨h1,h2⟩,h3⟩;refine⟨h2,λm hm=>?_⟩;rcases qh_.mp hm with e|e
   ·rw[e];exact h1
   ·exact h3 m e
  ·rintro⟨h1,h2⟩;exact⟨⟨h2 n h9,h1⟩,λm hm=>h2 m (fj _ hm)⟩
def qK{lo:Int}:∀{ns:List Int}{s:Int},0<=s->0<=ns.foldl (λs n=>g (n-lo) s) s
 |[],s,h=>h
 |n::r,s,_=>qK (ns:=r) (g_nonneg _ _)
def Cd{lo hi st d m:Int}(ok:ir lo hi st):(d ∣ (lo-m)/\d ∣ (hi-m)/\d ∣ (lo+st-m))↔d ∣ (lo-m)/\d ∣ st:=by
 constructor
 ·rintro⟨h1,_,h3⟩;refine⟨h1,?_⟩;have:=jo h3 h1;rw[show lo+st-m-(lo-m)=st by omega]at this;exact this
 ·rintro⟨h1,h2⟩;refine⟨h1,?_,?_⟩
  ·by_cases hs:st=0
   ·rw[<-ok.z hs];exact h1
   ·have hp:0<st:=by have:=ok.nn;omega
    have:=mn h1 (kr h2 (ok.p hp).2);rw[show lo-m+(hi-lo)=hi-m by omega]at this;exact this
  ·have:=mn h1 h2;rw[show lo-m+st=lo+st-m by omega]at this;exact this
def N1{lo hi st lo' hi' st':Int}(ok:ir lo hi st)(ok':ir lo' hi' st'):
  stepOf (if lo'<lo then lo' else lo) [lo,hi,lo+st,lo',hi',lo'+st']=g (g st st') (lo-lo'):=by
 refine rC (qK (ku 0)) (g_nonneg _ _) λd=>?_
 unfold stepOf;rw[wB,g_dvd,g_dvd];have key:∀m:Int,(m=lo\/m=lo')->((d ∣ (0:Int)/\∀n∈[lo,hi,lo+st,lo',hi',lo'+st'],d ∣ (n-m))↔(d ∣ st/\d ∣ st')/\d ∣ (lo-lo')):=by
  intro m hm;have r1:=@Cd lo hi st d m ok;have r2:=@Cd lo' hi' st' d m ok';constructor
  ·rintro⟨_,h⟩;have a1:=r1.mp ⟨h lo (by simp),h hi (by simp),h (lo+st) (by simp)⟩;have a2:=r2.mp ⟨h lo' (by simp),h hi' (by simp),h (lo'+st') (by simp)⟩;refine⟨⟨a1.2,a2.2⟩,?_⟩;have:=jo a1.1 a2.1;rw[show lo-m-(lo'-m)=lo-lo' by omega]at this;exact this
  ·rintro⟨⟨h1,h2⟩,h3⟩;have b1:d ∣ (lo-m):=by
    rcases hm with e|e
    ·rw[e,mi];exact i8 _
    ·rw[e];exact h3
   have b2:d ∣ (lo'-m):=by
    rcases hm with e|e
    ·rw[e];have:=Int.dvd_neg.mpr h3;rw[show -(lo-lo')=lo'-lo by omega]at this;exact this
    ·rw[e,mi];exact i8 _
   have a1:=r1.mpr ⟨b1,h1⟩;have a2:=r2.mpr ⟨b2,h2⟩;refine⟨i8 _,λn hn=>?_⟩;simp only[qh_,da,or_false]at hn;rcases hn with e|e|e|e|e|e<;>rw[e]
   ·exact a1.1
   ·exact a1.2.1
   ·exact a1.2.2
   ·exact a2.1
   ·exact a2.2.1
   ·exact a2.2.2
 split
 ·exact key lo' (.inr rfl)
 ·exact key lo (.inl rfl)
def Cj{lo hi st:Int}(ok:ir lo hi st):lo<=hi/\lo+st<=hi:=by
 refine⟨ok.le,?_⟩;by_cases hs:st=0
 ·rw[hs,<-ok.z hs];omega
 ·have hp:0<st:=by have:=ok.nn;omega
  have:=ok.p hp;have:=Int.le_of_dvd (by omega) this.2;omega
def Hb(a b:Int):g a b=g b a:=by unfold g;rw[Int.gcd_comm]
def F9(a b:Int):g a (-b)=g a b:=by unfold g;rw[Int.gcd_neg]
def g_abs(a:Int):g a 0=if a<0 then -a else a:=by
 unfold g;rw[Int.gcd_zero_right];split<;>omega
def g_turnF{a b:Int}(hb:b≠0):g b (a.fmod b)=g a b:=by
 refine rC (g_nonneg _ _) (g_nonneg _ _) λd=>?_
 rw[g_dvd,g_dvd];have e:=Int.mul_fdiv_add_fmod a b;constructor
 ·rintro⟨h1,h2⟩;refine⟨?_,h1⟩;have:=mn (kr h1 (qd b (a.fdiv b))) h2;rw[e]at this;exact this
 ·rintro⟨h1,h2⟩;refine⟨h2,?_⟩;have:=jo h1 (kr h2 (qd b (a.fdiv b)));rw[show a-b*(a.fdiv b)=a.fmod b by omega]at this;exact this
def fmod_less{a b:Int}(hb:b≠0):(a.fmod b).natAbs<b.natAbs:=by
 rcases Int.lt_or_gt_of_ne hb with h|h
 ·have e:a.fmod b = -((-a).fmod (-b)):=by rw[Int.neg_fmod_neg];omega
  have h1:=Int.fmod_nonneg_of_pos (-a) (show 0 < -b by omega);have h2:=Int.fmod_lt_of_pos (-a) (show 0 < -b by omega);omega
 ·have h1:=Int.fmod_nonneg_of_pos a h;have h2:=Int.fmod_lt_of_pos a h;omega
abbrev R3:=Int×Int×Int
def Ok(a:R3):Prop:=ir a.1 a.2.1 a.2.2
def joinR(a b:R3):R3:=(if b.1<a.1 then b.1 else a.1,if b.2.1 > a.2.1 then b.2.1 else a.2.1,g (g a.2.2 b.2.2) (a.1-b.1))
structure Sub (b a:R3):Prop where
 lo:a.1<=b.1
 hi:b.2.1<=a.2.1
 far:a.2.2 ∣ (b.1-a.1)
 st:a.2.2 ∣ b.2.2
def Nu(a b:R3):joinR a b=joinR b a:=by
 unfold joinR;have h1:(if b.1<a.1 then b.1 else a.1)=(if a.1<b.1 then a.1 else b.1):=by split<;>split<;>omega
 have h2:(if b.2.1 > a.2.1 then b.2.1 else a.2.1)=(if a.2.1 > b.2.1 then a.2.1 else b.2.1):=by split<;>split<;>omega
 rw[h1,h2,Hb a.2.2 b.2.2,show a.1-b.1 = -(b.1-a.1) by omega,F9]
def Dk{a b:R3}:Sub a (joinR a b):=by
 have h:=(g_dvd (d:=g (g a.2.2 b.2.2) (a.1-b.1))).mp (qe _);have h2:=g_dvd.mp h.1;refine⟨?_,?_,?_,h2.1⟩
 ·show(if b.1<a.1 then b.1 else a.1)<=a.1;split<;>omega
 ·show a.2.1<=(if b.2.1 > a.2.1 then b.2.1 else a.2.1);split<;>omega
 ·show g (g a.2.2 b.2.2) (a.1-b.1) ∣ (a.1-(if b.1<a.1 then b.1 else a.1));split
  ·exact h.2
  ·rw[mi];exact i8 _
def OE{a b:R3}:Sub b (joinR a b):=by
 rw[Nu];exact Dk
def MB{a b:R3}(ha:Ok a)(hb:Ok b){m M:Int}(hm:m∈[a.1,a.2.1,a.1+a.2.2,b.1,b.2.1,b.1+b.2.2])(hm':∀x∈[a.1,a.2.1,a.1+a.2.2,b.1,b.2.1,b.1+b.2.2],m<=x)
  (hM:M∈[a.1,a.2.1,a.1+a.2.2,b.1,b.2.1,b.1+b.2.2]) (hM':∀x∈[a.1,a.2.1,a.1+a.2.2,b.1,b.2.1,b.1+b.2.2],x<=M):
  (m,M,stepOf m [a.1,a.2.1,a.1+a.2.2,b.1,b.2.1,b.1+b.2.2])=joinR a b:=by
 have ta:=Cj ha;have tb:=Cj hb;have na:=ha.nn;have nb:=hb.nn;have e1:m=if b.1<a.1 then b.1 else a.1:=by
  have y1:=hm' a.1 (by simp);have y2:=hm' b.1 (by simp);simp only[qh_,da,or_false]at hm;split<;>omega
 have e2:M=if b.2.1 > a.2.1 then b.2.1 else a.2.1:=by
  have y1:=hM' a.2.1 (by simp);have y2:=hM' b.2.1 (by simp);simp only[qh_,da,or_false]at hM;split<;>omega
 have e3:=N1 ha hb;rw[<-e1]at e3;unfold joinR;rw[e3,<-e1,<-e2]
end GcdM
namespace L2
open PySem PySem.Spec PyProof.Rows WordM
def stW_iff{x y:Str}:j4 x y=true↔∃r,cs x=cs y++r:=by
 unfold j4;rw[StrLaws.subAt_eq,e9,decide_eq_true_iff,mq,beq_iff_eq,WordM.len,WordM.len];constructor
 ·rintro⟨h1,h2⟩;have h2:(cs x).take (cs y).length=cs y:=h2;exact⟨(cs x).drop (cs y).length,(qg (cs y).length (cs x)).symm.trans (by rw[h2])⟩
 ·rintro⟨r,e⟩;show _/\(cs x).take _=_;rw[e];exact⟨by rw[b7];omega,by rw[List.take_left'];rfl⟩
def kW{x y:Str}{r:List Nat}(e:cs x=cs y++r):cs (aX x y)=r:=by
 have hl:x.length=(cs y).length+r.length:=by rw[WordM.len,e,b7]
 unfold aX;rw[PyProof.Rows.slice_from_eq (b:=(x.length:Int)) (by omega) (by rw[hl,WordM.len];omega) rfl];show((cs x).drop _).take _=r;rw[hl,WordM.len y,e,show(((cs y).length:Nat):Int).toNat=(cs y).length by omega,List.drop_left,oh];omega
def Eh{x:Str}(h:0<x.length):cs (Txt.slice x none (some (-1)))=(cs x).take (x.length-1):=by
 have e:=beq_iff_eq.mp (PyProof.Rows.slice_closes_to_neg (x:=x) (j:=-1) (k:=-1+x.length) (by decide) (by omega) rfl);rw[e];show((cs x).drop 0).take _=_;rw[mq];congr 1;omega
def OY{x:Str}(h:0<x.length):(Txt.slice x none (some (-1))).length=x.length-1:=by
 rw[WordM.len,Eh h,jj,<-WordM.len];omega
def HL{a b:Str}(h:cs a<cs b):a≠b:=λe=>by rw[e]at h;exact rp _ h
def rN:∀{ys xs:List Str},iV xs->iV ys->(∀x∈xs,x∈ys)->xs.Sublist ys
 |[],xs,_,_,h=>by
  cases xs with
  |nil=>exact .slnil
  |cons x xs=>exact absurd (h x (.head _)) (by simp)
 |y::ys,[],_,_,_=>List.nil_sublist _
 |y::ys,x::xs,hx,hy,h=>by
  have hx':=qb3_.mp hx;have hy':=qb3_.mp hy;by_cases e:x=y
  ·subst e;refine List.Sublist.cons_cons x (rN hx'.2 hy'.2 λz hz=>?_);rcases qh_.mp (h z (.tail _ hz)) with q|q
   ·exact absurd q.symm (HL (hx'.1 z hz))
   ·exact q
  ·have hxy:x∈ys:=(qh_.mp (h x (.head _))).resolve_left e;have yx:cs y<cs x:=hy'.1 x hxy;refine List.Sublist.cons y (rN hx hy'.2 λz hz=>?_);rcases qh_.mp (h z hz) with q|q
   ·subst q;rcases qh_.mp hz with q|q
    ·exact absurd q.symm e
    ·exact absurd (List.lt_trans yx (hx'.1 z q)) (rp _)
   ·exact q
def JM:iV MK:=by unfold iV;decide +kernel
def sort_set_mem{ss:List Str}{x:Str}:x∈aY (aH ss)↔x∈ss:=(fD _).mem_iff.trans (cO ss x)
def gO(ss:List Str):iV (aY (aH ss)):=Et (dE ss)
end L2
namespace L2
open PySem PySem.Spec PyProof.Rows PySem.SeqAt
section
variable{X:Cx}{F:Fm}
def AV(P:Program)(w:World)(K:W.Frag):List V->Hp->VK->Prop:=λxs H Q=>∃(p:Addr) (ss:List Str),xs=[.ref p]/\cq K H p (ss.map V.str)/\ss.length<4000/\∀a:Addr,H a=none->Q (.ref a) (ar H a (dW P w a (aH ss)))
def NG{α β:Type}{R:α->β->Prop}{l:List α}{m:List β}(p:Paired R l m):Paired R l.reverse m.reverse:=by
 induction p with
 |nil=>exact .nil
 |cons r _ ih=>rw[om,om];exact Paired.snoc ih r
end
end L2
namespace L2
open PySem PySem.Spec PyProof.Rows WordM
section
variable{X:Cx}{F:Fm}{pos p:Pos}{e a b elt iter:Expr}{es ifs:List Expr}{x:Str}{u ua ub ue:UT}{ut:dw}{ui:d3}{tf:d6}{sc scope:Scope}{XN N:List Str}{fr:List Nat}
def aL{k m:Nat}{ps:List Str}{psp:bt}(G:ae X.prog X.w X.K X.mg X.base k x ps psp)(hr:bx m X.A)(ha:UA X F (e::es) ut)(hm:k<=m:=by omega)(hg:Gl X x:=by exact rfl)(hdb:(x==("__debug__":Str))=false:=by decide)
  (hst:dJ e=false:=by rfl) (hpl:(backTo pos (starEach es X.env)).any (·.1)=false:=by rfl):UE X F (.Call (.Name x p) (e::es) [] pos) (lG psp ut):=GW G (hr.mono hm) hg ha hdb hst hpl
def aZ(i:Nat){pos':Pos}(hN:X.N.Nodup)(he:UE X F e u)(hi:X.N[i]?=some x:=by rfl)(hx:ma X.env.scope x:=by first|exact Or.inl rfl|exact Or.inr rfl)(hs:swapsWith e (some (.Name x pos')) pos.line X.env=pure false:=by rfl)(hf:X.fn x=true\/X.env.scope.names.lookup x=some .local:=by first|exact .inl rfl|exact .inr rfl|assumption):
  US X F (.Assign [.Name x pos'] e pos) (tP i u):=J_ hN hi hx he hs hf
def fV(i:Nat){ul:d3}{pos':Pos}(hN:X.N.Nodup)(he:UL X F e ul)(hi:X.N[i]?=some x:=by rfl)(hx:ma X.env.scope x:=by first|exact Or.inl rfl|exact Or.inr rfl)(hs:swapsWith e (some (.Name x pos')) pos.line X.env=pure false:=by rfl)(hf:X.fn x=true\/X.env.scope.names.lookup x=some .local:=by first|exact .inl rfl|exact .inr rfl|assumption):
  US X F (.Assign [.Name x pos'] e pos) (tS i ul):=J8 hN hi hx he hs hf
def dM{op:CmpOp}{r:P2}(ho:b_ X (compareOp op) r)(ha:UE X F a ua)(hb:UE X F b ub)(hm:behindInMarks op b=false:=by exact mW _):UB X F (.Compare a [op] [b] pos) (uB (ke r ua ub)):=yA ho ha hb hm
def hJ{op:CmpOp}{r:P2}(ho:gM X (compareOp op) r)(ha:UE X F a ua)(hb:UE X F b ub)(hm:behindInMarks op b=false:=by exact mW _):UE X F (.Compare a [op] [b] pos) (ke r ua ub):=J1 ho ha hb hm
structure Cq (X:Cx) (sc scope:Scope) (XN N:List Str) (fr:List Nat) (x:Str) (iter:Expr):Prop where
 hc:X.calm=true:=by rfl
 k1:scope.kind=.function:=by rfl
 k2:∀y∈scope.names,y.2≠.cell:=by decide +kernel
 k3:∀y∈scope.names,y.2=.free->sc.names.lookup y.1=some .cell\/sc.names.lookup y.1=some .free:=by decide +kernel
 k4:∀y∈scope.names,y.2=.local->scope.names.lookup y.1=some .local:=by decide +kernel
 k5:N.drop 1=fr.filterMap λi=>XN[i]?:=by rfl
 k6:∀i∈fr,i<XN.length:=by decide +kernel
 k7:1<=N.length:=by decide
 k8:∀x∈N.drop 1,scope.names.lookup x=some .free:=by decide +kernel
 nd:fr.Nodup:=by decide
 nN:N.Nodup:=by decide +kernel
 h0:N[0]?=some x:=by rfl
 hl:∀cl C fp s H,ma (cK X N scope cl C fp s H).env.scope x:=by intros;first|exact Or.inl rfl|exact Or.inr rfl
 hfn:∀cl C fp s H,(cK X N scope cl C fp s H).fn x=true\/(cK X N scope cl C fp s H).env.scope.names.lookup x=some .local:=by intros;first|exact .inl rfl|exact .inr rfl
 hs:∀x,foldedSetIterable iter X.env x=pure x:=by intro _;rfl
 hsc:X.env.scope=sc:=by rfl
 hxn:X.N=XN:=by rfl
section
variable{z:Str}{pos' spos:Pos}(i:Nat)(hN:X.N.Nodup)(hi:UI X F (.Name x p) iter ui)(hf:∀cl C fp s H,UF (cK X N scope cl C fp s H) F ifs tf)(he:∀cl C fp s H,UE (cK X N scope cl C fp s H) F elt ue)
include hi hf he
def kI(c:Cq X sc scope XN N fr x iter:=by exact {}):UL X F (.ListComp elt [⟨.Name x p,iter,ifs,0⟩] scope pos) (lF 1 fr ui (gN 0) tf ue):=
 Bw c.hc ⟨c.k1,c.k2,c.k3,c.k4,c.k5,c.k6,c.k7,c.k8⟩ c.nd hi (λcl C fp s H=>dB 0 (by decide) c.nN c.h0 (c.hl cl C fp s H) (c.hfn cl C fp s H)) hf he c.hs c.hsc c.hxn
include hN
def fS(c:Cq X sc scope XN N fr x iter:=by exact {})(hz:X.N[i]?=some z:=by rfl)(hzl:ma X.env.scope z:=by first|exact Or.inl rfl|exact Or.inr rfl)
  (hsw:swapsWith (.ListComp elt [⟨.Name x p,iter,ifs,0⟩] scope pos) (some (.Name z pos')) spos.line X.env=pure true:=by rfl)
  (hf':X.fn z=true\/X.env.scope.names.lookup z=some .local:=by first|exact .inl rfl|exact .inr rfl|assumption):US X F (.Assign [.Name z pos'] (.ListComp elt [⟨.Name x p,iter,ifs,0⟩] scope pos) spos) (tP i (uL (lF 1 fr ui (gN 0) tf ue))):=
 KG c.hc hN hz hzl ⟨c.k1,c.k2,c.k3,c.k4,c.k5,c.k6,c.k7,c.k8⟩ c.nd hi (λcl C fp s H=>dB 0 (by decide) c.nN c.h0 (c.hl cl C fp s H) (c.hfn cl C fp s H)) hf he hsw hf' c.hs c.hsc c.hxn
end
def fH(hi:UI X F (.Name x p) iter ui)(he:∀cl C fp s H,UE (cK X N scope cl C fp s H) F elt ue)(c:Cq X sc scope XN N fr x iter:=by exact {}):UL X F (.ListComp elt [⟨.Name x p,iter,[],0⟩] scope pos) (lF 1 fr ui (gN 0) Aa ue):=kI hi (λ_ _ _ _ _=>gY) he c
def aU{m:Nat}(hr:bx m X.A)(ha:UE X F a ua)(hb:UE X F b ub)(hs:oU b:=by intro _ _;rfl):UE X F (.Subscript a b pos) (ke uw ua ub):=GX (Hl hr.units) ha hb hs
def cF{m:Nat}(hr:bx m X.A)(ha:UE X F a ua)(hb:UE X F b ub):UB X F (.Compare a [.Eq] [b] pos) (uB (ke x9 ua ub)):=yA (lI hr.units) ha hb (mW _)
def dQ{m:Nat}(hr:bx m X.A)(ha:UE X F a ua)(hb:UE X F b ub):UB X F (.Compare a [.NotEq] [b] pos) (uB (ke Ew ua ub)):=yA (Hm hr.units) ha hb (mW _)
end
end L2
namespace L2
open PySem
namespace Lay
def yo(mask:Nat)(i:Nat):Nat:=(i*5+1) % (mask+1)
def x_(mask:Nat):Nat->Nat->Nat
 |0,i=>i
 |k+1,i=>x_ mask k (yo mask i)
def A0(mask:Nat):Bool:=(List.range (mask+1)).all λi=>(List.range (mask+1)).all λj=>(List.range (mask+1)).any λk=>x_ mask k i==j
def Cyc(mask:Nat):Prop:=∀i j,i<=mask->j<=mask->∃k,k<=mask/\x_ mask k i=j
def sS{mask:Nat}(h:A0 mask=true):Cyc mask:=λi j hi hj=>by
 unfold A0 at h;have:=qp1_.mp (qp1_.mp h i (qz1_.mpr (by omega))) j (qz1_.mpr (by omega));obtain⟨k,hk,e⟩:=qL_.mp this;exact⟨k,by have:=qz1_.mp hk;omega,by simpa using e⟩
def cyc7:Cyc 7:=sS (by decide +kernel)
def FX:Cyc 15:=sS (by decide +kernel)
def FY:Cyc 31:=sS (by decide +kernel)
def FZ:Cyc 63:=sS (by decide +kernel)
def lp(mask:Nat):Nat->Nat×Nat->Nat×Nat
 |0,x=>x
 |k+1,x=>lp mask k (SetTable.leap mask x.1 x.2)
def A_(mask:Nat):∀(a b:Nat) (x:Nat×Nat),lp mask (a+b) x=lp mask b (lp mask a x)
 |0,b,x=>by rw[Nat.zero_add];rfl
 |a+1,b,x=>by rw[Nat.succ_add];exact A_ mask a b _
def BW(mask:Nat):∀(k:Nat) (x:Nat×Nat),(lp mask k x).2=x.2 / 32 ^ k
 |0,x=>by simp[lp]
 |k+1,x=>by
  show(lp mask k _).2=_;rw[BW mask k];show x.2 / 32 / 32 ^ k=_;rw[Nat.div_div_eq_div_mul,mh,jt]
def Bn(mask:Nat):∀(k:Nat) (x:Nat×Nat),x.1<=mask->(lp mask k x).1<=mask
 |0,x,h=>h
 |k+1,x,h=>Bn mask k _ (Nat.le_of_lt_succ (qo _ (Nat.succ_pos mask)))
def BX(mask:Nat):∀(k i:Nat),lp mask k (i,0)=(x_ mask k i,0)
 |0,i=>rfl
 |k+1,i=>by
  show lp mask k (SetTable.leap mask i 0)=_;have:SetTable.leap mask i 0=(yo mask i,0):=by
   unfold SetTable.leap yo;simp
  rw[this,BX mask k];rfl
def Jw(h:Int):SetTable.bits h<2 ^ 64:=by
 unfold SetTable.bits;have:=jr h (show(0:Int)<2 ^ 64 by decide);have:=jq h (show(2 ^ 64:Int)≠0 by decide);omega
def tq{mask:Nat}(C:Cyc mask){i p j:Nat}(hi:i<=mask)(hp:p<2 ^ 64)(hj:j<=mask):∃n,n<SetTable.turns mask/\(lp mask n (i,p)).1=j:=by
 have e13:lp mask 13 (i,p)=((lp mask 13 (i,p)).1,0):=by
  have:(lp mask 13 (i,p)).2=0:=by
   rw[BW];exact Nat.div_eq_of_lt (kh hp (by decide))
  rw[<-this]
 obtain⟨k,hk,e⟩:=C (lp mask 13 (i,p)).1 j (Bn mask 13 _ hi) hj;refine⟨13+k,by unfold SetTable.turns;omega,?_⟩;rw[A_,e13,BX];exact e
def CN{mask:Nat}(owner:Array (Option Nat)):∀(fuel i p:Nat),(∃n,n<fuel/\owner.getD (lp mask n (i,p)).1 (some 0)=none)->∃j,SetTable.layClean.free mask owner fuel i p=some j/\owner.getD j (some 0)=none
 |0,i,p,⟨n,h,_⟩=>absurd h (qp _)
 |fuel+1,i,p,⟨n,hn,h⟩=>by
  unfold SetTable.layClean.free;cases e:(List.range (SetTable.runEnd mask i+1-i)).find? λk=>(owner.getD (i+k) (some 0)).isNone with
  |some k=>
   have:=rn e;exact⟨i+k,rfl,by simpa using this⟩
  |none=>
   dsimp only;cases n with
   |zero=>
    have:=qA3_.mp e 0 (qz1_.mpr (by unfold SetTable.runEnd;split<;>omega));have h:owner.getD i (some 0)=none:=h;rw[Nat.add_zero,h]at this;exact absurd rfl this
   |succ n=>exact CN owner fuel _ _ ⟨n,by omega,h⟩
def Dh:∀(l:List (Option Nat)) (j k:Nat),l[j]?=some none->((l.set j (some k)).filterMap id).Perm (k::l.filterMap id)
 |[],j,k,h=>by simp at h
 |x::l,0,k,h=>by
  have:x=none:=by simpa using h
  subst this;simp
 |x::l,j+1,k,h=>by
  have ih:=Dh l j k (by simpa using h);rw[List.set_cons_succ];cases x with
  |none=>simpa using ih
  |some y=>
   simp only[List.filterMap_cons_some (f:=id) (a:=some y) rfl];exact(ih.cons y).trans (.swap _ _ _)
def BY:∀(l:List (Option Nat)),(l.filterMap id).length<l.length->∃j:Nat,l[j]?=some none
 |[],h=>by simp at h
 |none::l,h=>⟨0,rfl⟩
 |some y::l,h=>by
  obtain⟨j,hj⟩:=BY l (by simpa using h);exact⟨j+1,by simpa using hj⟩
structure Own (mask k:Nat) (owner:Array (Option Nat)):Prop where
 sz:owner.size=mask+1
 pm:(owner.toList.filterMap id).Perm (List.range k)
def Ml{mask:Nat}(C:Cyc mask){k:Nat}{owner:Array (Option Nat)}(O:Own mask k owner)(hk:k<=mask)(h:Int):∃j,SetTable.layClean.free mask owner (SetTable.turns mask) (SetTable.bits h % (mask+1)) (SetTable.bits h)=some j/\Own mask (k+1) (owner.setIfInBounds j (some k)):=by
 have len:owner.toList.length=mask+1:=by rw[di,O.sz]
 obtain⟨j,hj⟩:=BY owner.toList (by rw[O.pm.length_eq,i_,len];omega);have gd:∀i,owner.getD i (some 0)=none↔owner.toList[i]?=some none:=λi=>by
  rw[u7,fw];cases owner[i]? with
  |none=>simp
  |some x=>simp
 have hjl:j<=mask:=by
  have:=(qx_.mp hj).1;omega
 obtain⟨n,hn,en⟩:=tq C (i:=SetTable.bits h % (mask+1)) (p:=SetTable.bits h) (Nat.le_of_lt_succ (qo _ (Nat.succ_pos mask))) (Jw h) hjl;obtain⟨j',ej,hj'⟩:=CN owner (SetTable.turns mask) _ _ ⟨n,hn,by rw[en];exact(gd j).mpr hj⟩;refine⟨j',ej,by rw[Array.size_setIfInBounds,O.sz],?_⟩;rw[Array.toList_setIfInBounds];refine(Dh _ _ _ ((gd j').mp hj')).trans ((O.pm.cons k).trans ?_);rw[qm];exact(List.perm_append_singleton k (List.range k)).symm
def Dz{mask:Nat}(C:Cyc mask):∀(hs:List Int) (k:Nat) (owner:Array (Option Nat)),Own mask k owner->k+hs.length<=mask+1->∃o',hs.foldl (init:=some (owner,k)) (λacc h=>do
  let (owner,k) <- acc
  let j <- SetTable.layClean.free mask owner (SetTable.turns mask) (SetTable.bits h % (mask+1)) (SetTable.bits h)
  pure (owner.setIfInBounds j (some k),k+1))=some (o',k+hs.length)/\Own mask (k+hs.length) o'
 |[],k,owner,O,_=>⟨owner,rfl,O⟩
 |h::hs,k,owner,O,hl=>by
  rw[g6]at hl;obtain⟨j,ej,O'⟩:=Ml C O (by omega) h;obtain⟨o',e,O2⟩:=Dz C hs (k+1) _ O' (by omega);refine⟨o',?_,by rw[g6,show k+(hs.length+1)=k+1+hs.length by omega];exact O2⟩;rw[f9,g6,show k+(hs.length+1)=k+1+hs.length by omega,<-e];congr 1;simp[ej]
def MG{mask:Nat}(C:Cyc mask)(hs:Array Int)(hl:hs.size<=mask):∃o,SetTable.layClean mask hs=some o/\Own mask hs.size o:=by
 have O:Own mask 0 (Array.replicate (mask+1) none):=⟨by simp,by
  have:∀n:Nat,(List.replicate n (none:Option Nat)).filterMap id=[]:=λn=>by
   induction n with
   |zero=>rfl
   |succ n ih=>rw[g9,ie];exact ih
  rw[Array.toList_replicate,this];exact .refl _⟩
 obtain⟨o,e,O'⟩:=Dz C hs.toList 0 _ O (by rw[di];omega);rw[Nat.zero_add,di]at e O';refine⟨o,?_,O'⟩;unfold SetTable.layClean;rw[<-Array.foldl_toList,e];rfl
def Md(mask:Nat)(o:Array (Option Nat))(hz:o.size=mask+1):((List.range (mask+1)).filterMap λj=>(o.getD j none).map (j,·)).map (·.2)=o.toList.filterMap id:=by
 rw[List.map_filterMap];have e:o.toList=(List.range (mask+1)).map λj=>o.getD j none:=by
  apply sd;intro i;rw[fo];by_cases hi:i<mask+1
  ·rw[r8 hi,fw,ji (by omega),Option.map_some];rw[u7,ji (by omega)];rfl
  ·rw[ky (by rw[di];omega),ky (by rw[i_];omega)];rfl
 rw[e,oo];congr 1;funext j;simp only[Function.comp,id,Option.map_map];cases o.getD j none<;>rfl
def laid_ok{mask:Nat}(C:Cyc mask)(f mv:Nat)(ld pl:Bool)(hs:Array Int)(hl:hs.size<=mask):∃t order,SetTable.laid mask f mv ld pl hs=some (t,order)/\order.toList.Perm (List.range hs.size)/\t.fits hs.size=true/\t.mask=mask/\t.dummies=#[]/\t.led=ld/\t.plain=pl:=by
 obtain⟨o,e,O⟩:=MG C hs hl;unfold SetTable.laid;rw[e];have p:(((List.range (mask+1)).filterMap λj=>(o.getD j none).map (j,·)).map (·.2)).Perm (List.range hs.size):=by rw[Md mask o O.sz];exact O.pm
 have ln:((List.range (mask+1)).filterMap λj=>(o.getD j none).map (j,·)).length=hs.size:=by
  have:=p.length_eq;rwa[ak,i_]at this
 refine⟨_,_,rfl,by rw[r9];exact p,?_,rfl,rfl,rfl,rfl⟩;unfold SetTable.fits SetTable.fill;simp only[ck,ak,ln];simp[hl]
def order_perm{α:Type}(es:Array α){order:Array Nat}(h:order.toList.Perm (List.range es.size)):(order.filterMap (es[·]?)).toList.Perm es.toList:=by
 rw[Array.toList_filterMap];refine(h.filterMap _).trans ?_;have:(List.range es.size).filterMap (es[·]?)=es.toList:=by
  have e:es.toList=(List.range es.size).filterMap λi=>es.toList[i]?:=by
   have:∀l:List α,(List.range l.length).filterMap (λi=>l[i]?)=l:=by
    intro l
    induction l with
    |nil=>rfl
    |cons x l ih=>
     rw[g6,og,ie,oo];simp only[List.getElem?_cons_zero];congr 1
   have:=this es.toList;rw[di]at this;exact this.symm
  rw[e];congr 1;funext i;rw[fw]
 rw[this]
def above(n:Nat)(h:n<64):Cyc (SetTable.sizeAbove n-1)/\n<SetTable.sizeAbove n/\SetTable.sizeAbove n<=64:=by
 have:∀n<64,(SetTable.sizeAbove n=8\/SetTable.sizeAbove n=16\/SetTable.sizeAbove n=32\/SetTable.sizeAbove n=64)/\n<SetTable.sizeAbove n:=by decide +kernel
 obtain⟨h1,h2⟩:=this n h;refine⟨?_,h2,by omega⟩;rcases h1 with e|e|e|e<;>rw[e]
 ·exact cyc7
 ·exact FX
 ·exact FY
 ·exact FZ
end Lay
end L2
namespace L2
open PySem PySem.Spec PyProof.Rows
section
variable{prog:Program}{w:World}{A:Around}{E:Value->Shared->Prop}{s:Shared}{a:Addr}{us:List Str}
def tD(es:Array (Int×Value))(laid:Option (SetTable×Array Nat)):Sem (Array (Int×Value)×SetTable):=do
 let some (t,order):=laid|unsupported "internal:set-table-without-room"
 let es':=order.filterMap (es[·]?)
 if es'.size != es.size then unsupported "internal:set-table-lost-an-element"
 pure (es',t)
def CA{es:Array (Int×Value)}{t':SetTable}{order:Array Nat}{Q:Array (Int×Value)×SetTable->Shared->Prop}(pm:order.toList.Perm (List.range es.size))
  (h:∀es':Array (Int×Value),es'.toList.Perm es.toList->Q (es',t') s):wpAny (model prog w) A (tD es (some (t',order))) Q E s:=by
 have p:=Lay.order_perm es pm;have sz:(order.filterMap (es[·]?)).size=es.size:=by have:=p.length_eq;rwa[di,di]at this
 unfold tD;dsimp only;rw[if_neg (by rw[sz];simp)];exact af (aj (aj (h _ p)))
def dh.perm{es es':Array (Int×Value)}{t t':SetTable}(T:dh prog w us es t)(p:es'.toList.Perm es.toList)(ft:t'.fits es'.size=true)(pl:t'.plain=t.plain)(ld:t'.led=t.led):dh prog w us es' t':=by
 obtain⟨vs,hv,pv⟩:=T.tx;obtain⟨vs',hv',pv'⟩:=qW (p.map (·.2)) hv;have sz:es'.size=es.size:=by have:=p.length_eq;simpa using this
 exact⟨T.el.perm p,⟨vs',hv',pv'.trans pv⟩,T.nd,by rw[sz];exact T.lt,ft,by rw[sz,pl];exact T.pl,by rw[ld];exact T.ld⟩
def jy(prog:Program)(w:World)(a:Addr)(us:List Str)(h:Heap):Prop:=∃es ep t,h.get? a=some (cC es ep t)/\dh prog w us es t/\(us=[]->t.mask=7)
def jy.sets{h:Heap}:jy prog w a us h->bg prog w a us h:=λ⟨es,ep,t,ho,T,_⟩=>⟨es,ep,t,ho,T⟩
def BG{k:Nat}{Q:Unit->Shared->Prop}(S:jy prog w a us s.heap)(hk:us.length+k<32)
  (h:∀h' es ep t,Heap.SameBut a s.heap h'->h'.get? a=some (cC es ep t)->dh prog w us es t->(us=[]->Lay.Cyc t.mask/\k<=t.mask)->Q () {s with heap:=h'}):wpAny (model prog w) A (setRoomFor a k) Q E s:=by
 obtain⟨es,ep,t,ho,T,hm⟩:=S;unfold setRoomFor;refine af (g5 ho rfl T.fit ?_);dsimp only;have fz:t.place.size=us.length:=by
  have:=T.fit;simp only[SetTable.fits,e9,beq_iff_eq]at this;rw[this.1,T.size]
 cases e:t.roomFor k with
 |none=>
  dsimp only;have es':s={s with heap:=s.heap}:=by cases s;rfl
  rw[es'];refine aj (h _ es ep t (Heap.SameBut.refl a s.heap) ho T λz=>?_);have hm:=hm z;unfold SetTable.roomFor at e;split at e
  ·cases e
  ·rename_i z2;rw[hm];refine⟨Lay.cyc7,?_⟩;unfold SetTable.fill at z2;rw[hm]at z2;omega
 |some wanted=>
  dsimp only;have ew:wanted=(us.length+k)*2:=by
   unfold SetTable.roomFor at e;split at e
   ·injection e with e;rw[<-e,fz]
   ·cases e
  obtain⟨C,lt,le⟩:=Lay.above wanted (by omega);have hz:(es.map (·.1)).size=us.length:=by rw[qc,T.size]
  obtain⟨t',order,e,pm,ft,mk,_,ld,pl⟩:=Lay.laid_ok C t.finger (t.movedTo (SetTable.sizeAbove wanted-1)) t.led t.plain (es.map (·.1)) (by omega);rw[qc]at pm ft;unfold setRelay;refine af (g5 ho rfl T.fit ?_);dsimp only;rw[if_neg (by rw[sizeLine_eq];omega)];unfold SetTable.relaid;rw[e];refine af (m:=tD es (some (t',order))) (CA pm λes' p=>?_);have sz:es'.size=es.size:=by have:=p.length_eq;simpa using this
  have T':dh prog w us es' t':=T.perm p (by rw[sz];exact ft) pl ld;refine wpAny_storeSet_of ho rfl (h _ es' (ep+1) t' (Heap.SameBut.update s.heap a _) (e7 (Obj.putSet es' t') ho rfl) T' λz=>?_) (fits_of_scanBound T'.lt);rw[mk];exact⟨C,by omega⟩
def KU{es:Array (Int×Value)}{ep:Nat}{t:SetTable}{Q:Array (Int×Value)->Shared->Prop}(ho:s.heap.get? a=some (cC es ep t))(T:dh prog w us es t)
  (h:∀(out:Array (Int×Value)) d,out.toList.Perm es.toList->Q out {s with drawn:=d}):wpAny (model prog w) A (setWalk a) Q E s:=by
 have es':s={s with drawn:=s.drawn}:=by cases s;rfl
 unfold setWalk;refine af (g5 ho rfl T.fit ?_);dsimp only;refine af (fZ ?_);cases hb:cg w with
 |true=>
  rw[if_pos rfl];refine af (wpAny_askSetting (aj ?_));rw[es'];exact h _ _ (oE _ _)
 |false=>
  rw[if_neg cn];split
  ·refine af (uU _ _ _ (by simp) λys d p=>aj ?_);exact h _ d (by rw[r9];exact p)
  ·have hl:t.led=true:=by rw[T.ld,hb];rfl
   have:(!t.led&&decide (es.size > 1))=false:=by rw[hl];rfl
   refine af (m:=(if (!t.led&&decide (es.size > 1))=true then unsupported "set:maker-not-led" else pure PUnit.unit)) ?_;rw[this,if_neg cn];refine aj (aj ?_);rw[es'];exact h _ _ (.refl _)
def M5{o:Addr}{vs:List Str}{Q:Bool->Shared->Prop}(S:bg prog w a us s.heap)(O:bg prog w o vs s.heap)(h:Q true s):wpAny (model prog w) A (setsQuiet [o,a]) Q E s:=by
 unfold setsQuiet;refine af (wpAny_forIn_list _ (λl b s'=>b.1=none/\s'=s/\∀x∈l,x=o\/x=a) _ ?_ ?_ _ _ ⟨rfl,rfl,λx hx=>by simpa using hx⟩)
 ·rintro x rest b s' ⟨hb,rfl,hx⟩;obtain⟨us',es,ep,t,ho,T⟩:∃us',bg prog w x us' s'.heap:=by
   rcases hx x (.head _) with rfl|rfl
   ·exact⟨_,O⟩
   ·exact⟨_,S⟩
  refine af (qP ho T.fit ?_);refine af (PySem.MeetsSeq2.wpAny_forIn_array _ (λl b s''=>b.1=none/\s''=s'/\∀e∈l,e∈es.toList) _ ?_ ?_ _ _ ⟨rfl,rfl,λe he=>he⟩)
  ·rintro⟨hh,v⟩ rest' b' s'' ⟨hb',rfl,he⟩;obtain⟨⟨k,hk,_⟩,_⟩:=T.el (hh,v) (he _ (.head _));obtain⟨tk,ev⟩:=Value.isStrOf_shape (show Value.isStrOf k v=true from hk);subst ev;exact aj ⟨rfl,rfl,λe h=>he e (.tail _ h)⟩
  ·rintro b' s'' ⟨hb',rfl,_⟩;dsimp only;rw[hb'];exact aj ⟨rfl,rfl,λx h=>hx x (.tail _ h)⟩
 ·rintro b s' ⟨hb,rfl,_⟩;dsimp only;rw[hb];exact aj h
theorem M7{o:Addr}{vs:List Str}{es:Array (Int×Value)}{ep:Nat}{t:SetTable}{Q:Array (Int×Value)->Shared->Prop}(S:bg prog w a us s.heap)(ho:s.heap.get? o=some (cC es ep t))(T:dh prog w vs es t)
  (h:∀(out:Array (Int×Value)) h' d,out.toList.Perm es.toList->Heap.SameBut a s.heap h'->bg prog w a us h'->Q out {s with heap:=h',drawn:=d}):wpAny (model prog w) A (setWalkUnseen o [a] (some a)) Q E s:=by
 have wk:wpAny (model prog w) A (setWalk o) Q E s:=KU ho T λout d p=>h out s.heap d p (Heap.SameBut.refl a s.heap) S
 unfold setWalkUnseen;refine af (g5 ho rfl T.fit ?_);dsimp only;refine af (fZ ?_);split
 ·exact wk
 ·rename_i z;have hsz:1<es.size:=by
   apply Nat.lt_of_not_le;intro z2;apply z;rw[jd z2,Bool.or_true]
  have hp:t.plain=false:=T.pl.resolve_left (by omega);refine af (M5 S ⟨es,ep,t,ho,T⟩ ?_);rw[if_neg (by simp)];obtain⟨ef,epf,tf,hf,F⟩:=id S;refine af (wpAny_rule ?_);refine af (g5 hf rfl F.fit ?_);dsimp only;split
  ·have F':dh prog w us ef {tf with led:=tf.led&&t.led,plain:=tf.plain&&t.plain}:=⟨F.el,F.tx,F.nd,F.lt,F.fit,.inr (by show(tf.plain&&t.plain)=false;rw[hp,n6]),by show(tf.led&&t.led)=_;rw[F.ld,T.ld,Bool.and_self]⟩
   refine af (wpAny_storeSet_of hf rfl ?_ (fits_of_scanBound F.lt));have e:∀hp':Heap,({s with heap:=hp'}:Shared)={s with heap:=hp',drawn:=s.drawn}:=λ_=>rfl
   rw[e];exact aj (h _ _ _ (.refl _) (Heap.SameBut.update s.heap a _) ⟨ef,epf+1,_,e7 (Obj.putSet ef _) hf rfl,F'⟩)
  ·have e:s={s with heap:=s.heap,drawn:=s.drawn}:=by cases s;rfl
   rw[e];exact aj (h _ _ _ (.refl _) (Heap.SameBut.refl a s.heap) S)
def bg.same{h:Heap}{us':List Str}(S:bg prog w a us h)(n:us'.Nodup)(e:∀x,x∈us↔x∈us'):bg prog w a us' h:=by
 obtain⟨es,ep,t,ho,T⟩:=S;obtain⟨vs,hv,pv⟩:=T.tx;exact⟨es,ep,t,ho,T.el,⟨vs,hv,pv.trans ((ko T.nd n).mpr e)⟩,n,T.lt,T.fit,T.pl,T.ld⟩
def Cz{o:Addr}{vs:List Str}{each:Sem Unit}{Q:Unit->Shared->Prop}(ne:a≠o)(S:jy prog w a us s.heap)(O:bg prog w o vs s.heap)(hl:us.length+vs.length<32)
  (he:∀(s':Shared) (Q':Unit->Shared->Prop),s'.heap.get? o=s.heap.get? o->Q' () s'->wpAny (model prog w) A each Q' E s')
  (h:∀h' d,Heap.SameBut a s.heap h'->jy prog w a (aH (us++vs)) h'->Q () {s with heap:=h',drawn:=d}):wpAny (model prog w) A (setMerge a o each) Q E s:=by
 obtain⟨es,ep,t,ho,T⟩:=id O;have e0:∀s:Shared,s={s with heap:=s.heap,drawn:=s.drawn}:=λs=>by cases s;rfl
 unfold setMerge;rw[if_neg (by simpa using ne)];refine af (g5 ho rfl T.fit ?_);dsimp only;by_cases z0:es.size=0
 ·rw[if_pos (by simpa[u6]using z0)];have ev:vs=[]:=j7 (by rw[<-T.size];exact z0);subst ev;rw[e0 s];refine aj (h _ _ (Heap.SameBut.refl a s.heap) ?_);obtain⟨es1,ep1,t1,h1,T1,m1⟩:=S;have en:∀x,x∈us↔x∈aH (us++[]):=λx=>by rw[cO,jk]
  obtain⟨vs1,hv1,pv1⟩:=T1.tx;refine⟨es1,ep1,t1,h1,⟨T1.el,⟨vs1,hv1,pv1.trans ((ko T1.nd (dE _)).mpr en)⟩,dE _,T1.lt,T1.fit,T1.pl,T1.ld⟩,λz=>m1 ?_⟩;refine qX1_.mpr λx hx=>?_
  have:=(en x).mp hx;rw[z]at this;exact nomatch this
 rw[if_neg (by simpa[u6]using z0)];have hp:t.plain=false:=T.pl.resolve_left z0;have hv0:vs≠[]:=λz=>z0 (by rw[T.size,z];rfl)
 have nn:aH (us++vs)≠[]:=λz=>by
  obtain⟨x,hx⟩:=i7 _ hv0;have:=(cO (us++vs) x).mpr (fe _ hx);rw[z]at this;exact nomatch this
 have full:∀h',bg prog w a (aH (us++vs)) h'->jy prog w a (aH (us++vs)) h':=λh' ⟨es,ep,t,ho,T⟩=>⟨es,ep,t,ho,T,λz=>absurd z nn⟩
 refine af (BG S (by rw[T.size];exact hl) λh1 es1 ep1 t1 b1 g1 T1 m1=>?_);have ho1:h1.get? o=some (cC es ep t):=by rw[b1.2 o (Ne.symm ne)];exact ho
 refine af (g5 (s:={s with heap:=h1}) g1 rfl T1.fit ?_);dsimp only;have fz:t1.place.size=us.length:=by
  have:=T1.fit;simp only[SetTable.fits,e9,beq_iff_eq]at this;rw[this.1,T1.size]
 have nil:t1.fill=0->us=[]:=λz=>j7 (by unfold SetTable.fill at z;omega)
 cases er:t1.road t with
 |slotForSlot=>
  dsimp only;have f0:t1.fill=0:=by
   unfold SetTable.road at er;split at er
   ·cases er
   ·rename_i q;simpa using q
  have eu:=nil f0;subst eu;have T2:dh prog w (aH ([]++vs)) es {t with finger:=t1.finger,led:=t1.led&&t.led,moves:=t1.moves,plain:=t1.plain&&t.plain}:=by
   obtain⟨vs1,hv1,pv1⟩:=T.tx;exact⟨T.el,⟨vs1,hv1,pv1.trans ((ko T.nd (dE _)).mpr λx=>by rw[cO,gj])⟩,dE _,T.lt,T.fit,.inr (by show(t1.plain&&t.plain)=false;rw[hp,n6]),by show(t1.led&&t.led)=_;rw[T1.ld,T.ld,Bool.and_self]⟩
  refine wpAny_storeSet_of g1 rfl ?_ (fits_of_scanBound T.lt);exact h _ s.drawn (b1.trans (Heap.SameBut.update h1 a _)) (full _ ⟨es,ep1+1,_,e7 (Obj.putSet es _) g1 rfl,T2⟩)
 |clean=>
  dsimp only;have f0:t1.fill=0:=by
   unfold SetTable.road at er;split at er
   ·cases er
   ·rename_i q;simpa using q
  have eu:=nil f0;subst eu;obtain⟨C,hk⟩:=m1 rfl;obtain⟨t',order,e,pm,ft,mk,_,ld,pl⟩:=Lay.laid_ok C t1.finger t1.moves (t1.led&&t.led) (t1.plain&&t.plain) (es.map (·.1)) (by rw[qc];exact hk);rw[qc]at pm ft;rw[e];refine af (m:=tD es (some (t',order))) (CA pm λes' p=>?_);have sz:es'.size=es.size:=by have:=p.length_eq;simpa using this
  have T2:dh prog w (aH ([]++vs)) es' t':=by
   obtain⟨vs1,hv1,pv1⟩:=T.tx;obtain⟨vs',hv',pv'⟩:=qW (p.map (·.2)) hv1;exact⟨T.el.perm p,⟨vs',hv',(pv'.trans pv1).trans ((ko T.nd (dE _)).mpr λx=>by rw[cO,gj])⟩,dE _,by rw[sz];exact T.lt,by rw[sz];exact ft,.inr (by rw[pl,hp,n6]),by rw[ld,T1.ld,T.ld,Bool.and_self]⟩
  refine wpAny_storeSet_of g1 rfl ?_ (fits_of_scanBound T2.lt);exact h _ s.drawn (b1.trans (Heap.SameBut.update h1 a _)) (full _ ⟨es',ep1+1,_,e7 (Obj.putSet es' _) g1 rfl,T2⟩)
 |oneByOne=>
  dsimp only;refine af (M7 (s:={s with heap:=h1}) ⟨es1,ep1,t1,g1,T1⟩ ho1 T λout h2 d p b2 S2=>?_);have ho2:h2.get? o=some (cC es ep t):=by rw[b2.2 o (Ne.symm ne)];exact ho1
  have b12:=b1.trans b2;refine af (PySem.MeetsSeq2.wpAny_forIn_array _ (λl _ s'=>∃(us':List Str) (h':Heap),s'={s with heap:=h',drawn:=d}/\Heap.SameBut a s.heap h'/\bg prog w a us' h'/\(∀e∈l,e∈es.toList)/\us'.length+l.length<32/\∀y,(y∈us'\/∃e∈l,(PySem.strKind prog w).is y e.2=true)↔(y∈us\/y∈vs)) _ ?_ ?_ _ _ ?_)
  ·rintro⟨hh,v⟩ rest b s' ⟨us',h',rfl,b',S',hm,hlen,hy⟩;obtain⟨⟨k,hk,eh⟩,_⟩:=T.el (hh,v) (hm _ (.head _));obtain⟨tk,ev⟩:=Value.isStrOf_shape (show Value.isStrOf k v=true from hk);subst ev;have eh:hh=(PySem.strKind prog w).hash k:=eh;subst eh;rw[g6]at hlen;have hb4:scanBound=4096:=rfl;refine af (h_ (wY (s:={s with heap:=h',drawn:=d}) S' (by omega) λbb h3 b3 S3=>?_));have b13:=b'.trans b3;have ho3:h3.get? o=some (cC es ep t):=by rw[b13.2 o (Ne.symm ne)];exact ho
   refine af (he _ _ (by show h3.get? o=s.heap.get? o;rw[ho3,ho]) ?_);refine af (g5 (s:={s with heap:=h3,drawn:=d}) ho3 rfl T.fit ?_);rw[if_neg (by simp)];refine aj ⟨dL us' k,h3,rfl,b13,S3,λe q=>hm e (.tail _ q),?_,λy=>?_⟩
   ·have:(dL us' k).length<=us'.length+1:=by
     unfold dL;split
     ·omega
     ·rw[b7];exact ba _
    omega
   ·rw[BC,<-hy y];have isk:(PySem.strKind prog w).is y (.str k tk)=true↔y=k:=⟨λq=>by
     obtain⟨u,q⟩:=Value.isStrOf_shape (show Value.isStrOf y (.str k tk)=true from q);injection q with q1 q2
     exact q1.symm,λq=>by subst q;exact hk⟩
    constructor
    ·rintro ((q|q)|⟨e,q1,q2⟩)
     ·exact .inl q
     ·exact .inr ⟨_,.head _,isk.mpr q⟩
     ·exact .inr ⟨e,.tail _ q1,q2⟩
    ·rintro (q|⟨e,q1,q2⟩)
     ·exact .inl (.inl q)
     ·rcases qh_.mp q1 with rfl|q1
      ·exact .inl (.inr (isk.mp q2))
      ·exact .inr ⟨e,q1,q2⟩
  ·rintro b s' ⟨us',h',rfl,b',S',_,_,hy⟩;refine aj (h h' d b' (full _ (S'.same (dE _) λx=>?_)));rw[cO,qp_,<-hy x];exact⟨.inl,λq=>q.elim id λ⟨_,q,_⟩=>nomatch q⟩
  ·refine⟨us,h2,rfl,b12,S2,λe q=>p.mem_iff.mp q,?_,λy=>?_⟩
   ·have h1:=p.length_eq;have h2:es.toList.length=vs.length:=by rw[di,T.size]
    omega
   ·rw[T.mem y];exact⟨λq=>q.imp id λ⟨e,q1,q2⟩=>⟨e,p.mem_iff.mp q1,q2⟩,λq=>q.imp id λ⟨e,q1,q2⟩=>⟨e,p.mem_iff.mpr q1,q2⟩⟩
end
def Ae:entryFor table "set.__or__"=some Builtin.«frozenset.__or__»:=entryFor_alias (id':="frozenset.__or__") (by kernel_rfl) rfl (by decide +kernel) (by kernel_rfl)
section
variable{prog:Program}{w:World}{A:Around}{E:Value->Shared->Prop}{s:Shared}{a:Addr}{us:List Str}
open PySem.Builtin.Frozenset in
def oV(id:String)(l:Addr)(r:Value):Sem Value:=do
 let result <- copyOf l
 if r != .ref l then holding [result] (updateFrom id (<- addrOf result) r)
 return result
open PySem.Builtin.Frozenset in
def PB(args:Args):Sem Fin:=do
 let (self,other) <- slot1 "__or__" args
 let (l,r):=if false then(other,self) else(self,other)
 if !(<- isAnySet l <&&> isAnySet r) then rule s!"frozenset.{"__or__"}.declined";return <- ret .notImplemented
 ret (<- oV s!"frozenset.{"__or__"}" (<- addrOf l) r)
def Bo:Builtin.«frozenset.__or__»=PB:=rfl
def mF{Q:Bool->Shared->Prop}(ht:s.TypeIs (.ref a) "set")(h:Q true s):wpAny (model prog w) A (Builtin.Frozenset.isAnySet (.ref a)) Q E s:=by
 unfold Builtin.Frozenset.isAnySet;refine af (wpAny_isInstance (T:="set") (b:=true) ht oW ?_);exact aj h
def bg.ty{h:Heap}(S:bg prog w a us s.heap):s.TypeIs (.ref a) "set":=by
 obtain⟨es,ep,t,ho,T⟩:=S;exact⟨_,ho,rfl⟩
def KQ{Q:Value->Shared->Prop}(S:bg prog w a us s.heap)(hl:us.length<32)
  (h:∀h' d,jy prog w s.heap.objs.size (aH us) h'->s.heap.objs.size<h'.objs.size->(∀b o,b<s.heap.objs.size->s.heap.get? b=some o->h'.get? b=some o)->Q (.ref s.heap.objs.size) {s with heap:=h',drawn:=d}):
  wpAny (model prog w) A (Builtin.Frozenset.copyOf a) Q E s:=by
 have ht:s.TypeIs (.ref a) "set":=bg.ty (h:=s.heap) S;obtain⟨es,ep,t,ho,T⟩:=id S;have la:a<s.heap.objs.size:=bj ho;unfold Builtin.Frozenset.copyOf Builtin.Frozenset.baseOf newSet;refine af (af (wpAny_isInstance (T:="set") (b:=true) ht oW (aj ?_)));rw[if_pos rfl];refine af (af (fZ ?_));dsimp only;refine d8 ?_ (by size_fits);refine af (aj ?_);have g0:(s.heap.push (cC #[] 0 (.fresh 0 0 (!cg w)))).get? s.heap.objs.size=some (cC #[] 0 (.fresh 0 0 (!cg w))):=cf _ rfl;have F0:jy prog w s.heap.objs.size [] (s.heap.push (cC #[] 0 (.fresh 0 0 (!cg w)))):=⟨#[],0,.fresh 0 0 (!cg w),g0,⟨λe he=>by simp at he,⟨[],.nil,.refl _⟩,j6,by decide,by simp[SetTable.fits,SetTable.fresh,SetTable.fill],.inl rfl,rfl⟩,λ_=>rfl⟩
 have S1:bg prog w a us (s.heap.push (cC #[] 0 (.fresh 0 0 (!cg w)))):=⟨es,ep,t,bc _ ho,T⟩
 refine af (Cz (s:={s with heap:=s.heap.push (cC #[] 0 (.fresh 0 0 (!cg w)))}) (je la) F0 S1 (by simpa using hl) (λs' Q' _ q=>aj q) λh' d b F=>?_);rw[gj]at F;refine aj (h h' d F (by rw[b.1,ib];omega) λx o hx e=>?_);rw[b.2 x (cu hx)];exact bc _ e
theorem G4{o:Addr}{vs:List Str}{Q:Value->Shared->Prop}(ne:o≠a)(S:bg prog w a us s.heap)(O:bg prog w o vs s.heap)(hl:us.length+vs.length<32)
  (h:∀h' d,bg prog w s.heap.objs.size (aH (us++vs)) h'->(∀b o,b<s.heap.objs.size->s.heap.get? b=some o->h'.get? b=some o)->Q (.ref s.heap.objs.size) {s with heap:=h',drawn:=d}):
  wpAny (model prog w) A (binaryOp .BitOr (.ref a) (.ref o)) Q E s:=by
 have ht:s.TypeIs (.ref a) "set":=bg.ty (h:=s.heap) S;have ht2:s.TypeIs (.ref o) "set":=bg.ty (h:=s.heap) O;obtain⟨es,ep,t,ho,T⟩:=id O;refine wpAny_binaryOp_same (op:=.BitOr) (T:="set") ht ht2 F.fills_set_or F.slot_set_or (jz F.slot_set_or ht Ae ?_ (F.args_set_or_2 _ _));rw[Bo];show wpAny _ _ (do
  if !(<- Builtin.Frozenset.isAnySet (.ref a) <&&> Builtin.Frozenset.isAnySet (.ref o)) then rule s!"frozenset.{"__or__"}.declined";return <- ret .notImplemented
  ret (<- oV s!"frozenset.{"__or__"}" (<- Builtin.Frozenset.addrOf (.ref a)) (.ref o))) _ _ _
 refine af (af (mF ht ?_));refine mF ht2 ?_;rw[if_neg (by simp)];refine af (aj ?_);have lo:o<s.heap.objs.size:=bj ho;unfold oV;refine af (af (KQ S (by omega) λh1 d1 F1 z1 k1=>?_));rw[if_pos (by simpa using ne)];have ho1:h1.get? o=some (cC es ep t):=k1 o _ lo ho;have ht3:Shared.TypeIs {s with heap:=h1,drawn:=d1} (.ref o) "set":=⟨_,ho1,rfl⟩
 unfold Builtin.Frozenset.updateFrom;refine af (aj (af (h_ (af (mF ht3 ?_)))));rw[if_pos rfl];refine af (aj ?_);unfold Builtin.Frozenset.merge;refine af (wpAny_setEpoch_of (s:={s with heap:=h1,drawn:=d1}) ho1 rfl T.fit ?_);have ln:(aH us).length<=us.length:=by
  have:∀(l m:List Str),(l.foldl dL m).length<=m.length+l.length:=by
   intro l
   induction l with
   |nil=>exact λm=>ba _
   |cons x l ih=>
    intro m;rw[f9,g6];refine bw (ih _) ?_;unfold dL;split
    ·omega
    ·rw[b7,lu];omega
  have:=this us [];simpa[aH]using this
 refine Cz (s:={s with heap:=h1,drawn:=d1}) (je lo) F1 ⟨es,ep,t,ho1,T⟩ (by omega) (λs' Q' e q=>?_) λh2 d2 b2 F2=>?_
 ·unfold Builtin.Frozenset.unchanged;refine af (wpAny_setEpoch_of (s:=s') (by rw[e];exact ho1) rfl T.fit ?_);rw[if_neg (by simp)];exact aj q
 ·refine aj ?_;refine aj ⟨_,rfl,by simp,h h2 d2 (F2.sets.same (dE _) λx=>?_) λb o' hb e=>?_⟩
  ·rw[cO,cO,qp_,qp_,cO]
  ·rw[b2.2 b (cu hb)];exact k1 b o' hb e
end
section
variable{prog:Program}{w:World}{A:Around}{E:Value->Shared->Prop}{s:Shared}
section
variable{l:Addr}{items:Array Value}{Q:Value->Shared->Prop}(hh:A.handled=none)(hl:s.heap.IsTuple l items)
include hh hl
theorem vW{R:Heap->Prop}(hw:∀(o:Obj) (lt:l<s.heap.objs.size) (hh3:A.in1.in1.in1.handled=none) (ne:l≠(s.heap.push (cQ w)).objs.size) (nf:s.heap.objs.size∉[(s.heap.push (cQ w)).objs.size,l]) (s1:Shared),s1={s with heap:=(s.heap.push (cQ w)).push {cls:=.type "tuple_iterator",data:=.fields #[.ref l,.int 0 0]}}->s1.heap.get? s.heap.objs.size=some (cQ w)->s1.heap.IsTupleIter (s.heap.push (cQ w)).objs.size l 0/\s1.heap.IsTuple l items ->
   codeAny (model prog w) A.in1.in1 (.builtin "set.update.loop" ⟨[.ref s.heap.objs.size,.ref (s.heap.push (cQ w)).objs.size],[]⟩) (wants (λ_ s'=>qF s R s') E) s1)
  (h:∀(h':Heap) (tk:Nat),R h'->(∀b o,b<s.heap.objs.size->s.heap.get? b=some o->h'.get? b=some o)->Q (.ref s.heap.objs.size) {s with heap:=h',toks:=tk}):wpAny (model prog w) A (call (.type "set") [.ref l]) Q E s:=by
 obtain⟨ol,hol,hcl,nl,hdl⟩:=id hl;have hlS:l<s.heap.objs.size:=bj hol;refine BI (R:=qF s R) hol hcl F.sub_tuple_set F.sub_tuple_frozenset (by decide) (wpAny_pyIter_tuple (hl.push _) (wpAny_runValue ?_)) λs' ⟨h',tk,e,p,k⟩=>by subst e;exact h h' tk p k
 refine hw ol hlS (by simp[hh]) ?_ ?_ _ rfl (bc _ (cf _ rfl)) ⟨⟨_,cf _ rfl,rfl,rfl⟩,(hl.push _).push _⟩
 ·rw[ib];exact cu (gk hlS)
 ·rw[ib];simp only[qh_,da,or_false,not_or];exact⟨cu (kz _),je hlS⟩
def Ob{ss:List Str}(hi:StrsAre items.toList ss)(hb:ss.length+1<scanBound)
  (h:∀(h':Heap) (tk:Nat),bg prog w s.heap.objs.size (aH ss) h'->(∀b o,b<s.heap.objs.size->s.heap.get? b=some o->h'.get? b=some o)->Q (.ref s.heap.objs.size) {s with heap:=h',toks:=tk}):
  wpAny (model prog w) A (call (.type "set") [.ref l]) Q E s:=by
 have hz:items.size=ss.length:=by have:=iE hi;simpa using this
 have hm:fL (λi=>ss.getD i ⟨#[]⟩) items.size=aH ss:=by rw[hz];exact C4 λi hi=>by simp[hi]
 refine vW hh hl (λo lt hh3 ne nf s1 e1 g1 st=>?_) h;subst e1;exact CW ((Walks.tuple hh3 _ l ne items).toS) s.heap.objs.size nf (λi=>ss.getD i ⟨#[]⟩) (λi v hv=>gS hi i v (by rw[fw];exact hv)) (by rw[hm];exact oi (Nat.succ_le_succ (WordM.nodup_len (dE ss) λx hx=>(cO ss x).mp hx)) hb) (items.size-0) 0 _ (by omega) (dq _) st (Av g1) λs' m S'=>oC m m.gens (by rw[hm]at S';exact S')
def NW{bs:List Bool}(hi:items.toList=bs.map Value.bool)
  (h:∀(h':Heap) (tk:Nat),bq w s.heap.objs.size (b9 bs) (b8 bs) h'->(∀b o,b<s.heap.objs.size->s.heap.get? b=some o->h'.get? b=some o)->Q (.ref s.heap.objs.size) {s with heap:=h',toks:=tk}):
  wpAny (model prog w) A (call (.type "set") [.ref l]) Q E s:=by
 have hz:items.size=bs.length:=by have:=congrArg List.length hi;simpa using this
 refine vW hh hl (λo lt hh3 ne nf s1 e1 g1 st=>?_) h;subst e1;exact C2 ((Walks.tuple hh3 _ l ne items).toS) s.heap.objs.size nf bs hz (λi v hv=>A1 hi i v (by rw[fw];exact hv)) (items.size-0) 0 _ (by omega) (dq _) st ⟨0,g1⟩ λs' m S'=>oC m m.gens S'
end
end
def Ko:isSubtype (.type "dict") (.type "frozenset")=pure false:=by rw[isSubtype_type];kernel_rfl
section
variable{prog:Program}{w:World}{A:Around}{E:Value->Shared->Prop}{s:Shared}{a:Addr}{us:List Str}
def C9:∀{l:List DictEntry}{kvs:List (av×Value)},Pairs (bW prog w) l kvs->∀{us:List Str},kvs.map (·.1)=us.map Sum.inr->l.length=us.length/\∀(i:Nat) (e:DictEntry),l[i]?=some e->∃x,us[i]?=some x/\(bW prog w).is (Sum.inr x) e.key=true
 |_,_,.nil,us,h=>by
  cases us with
  |nil=>exact⟨rfl,λi e z=>by simp at z⟩
  |cons x us=>simp at h
 |_,_,.cons hk hv r,us,h=>by
  cases us with
  |nil=>simp at h
  |cons x us=>
   simp only[dz,List.cons.injEq]at h;obtain⟨h1,h2⟩:=h;obtain⟨a,b⟩:=C9 r h2;refine⟨by simp[a],λi e z=>?_⟩;cases i with
   |zero=>
    simp only[List.getElem?_cons_zero,Option.some.injEq]at z;subst z;refine⟨x,rfl,?_⟩;rw[<-h1]
    first|exact hk|exact hv
   |succ i=>exact b i e (by simpa using z)
def O7{d:Addr}{ob:Obj}{es:Array DictEntry}{ep:Nat}{us:List Str}{Q:PUnit->Shared->Prop}(ne:d≠a)(hob:s.heap.get? d=some ob)(hd:ob.data=.dict es ep)(hk:KeysOf (bW prog w) es)(hl:es.size=us.length)
    (hi:∀(i:Nat) (e:DictEntry),es[i]?=some e->∃x,us[i]?=some x/\(bW prog w).is (Sum.inr x) e.key=true) (S:bg prog w a [] s.heap) (hb:us.length<4000)
    (h:∀h',Heap.SameBut a s.heap h'->bg prog w a (aH us) h'->Q ⟨⟩ {s with heap:=h'}):
    wpAny (model prog w) A (forIn [:es.size] PUnit.unit λi __s=>do
              let __do_lift <- dictEntries d
              match __do_lift[i]? with
                |some e=>do
                  let _ <- holding [e.key] (setAddHashed a e.key e.hash)
                  let __do_lift <- dictEpoch d
                  if (__do_lift != ep) = true then do
                      unsupported (toString "set.__init__"++toString ":changed-during-callback")
                      pure (ForInStep.yield PUnit.unit)
                    else pure (ForInStep.yield PUnit.unit)
                |x=>do
                  unsupported "internal:set-from-dict"
                  pure (ForInStep.yield PUnit.unit)) Q E s:=by
  rw[Std.Legacy.Range.forIn_eq_forIn_range'];have hb4:scanBound=4096:=rfl;refine wpAny_forIn_list _ (λl _ s'=>∃(k:Nat) (h':Heap),l=List.range' k (es.size-k) 1/\k<=es.size/\s'={s with heap:=h'}/\Heap.SameBut a s.heap h'/\bg prog w a (aH (us.take k)) h') Q ?_ ?_ _ _ ?_
  · rintro x rest b s' ⟨k,h',el,hk',rfl,b',S'⟩
    have hlt:k<es.size:=by
      apply Nat.lt_of_not_le;intro z;rw[show es.size-k=0 by omega]at el;cases el
    rw[show es.size-k=(es.size-(k+1))+1 by omega,List.range'_succ]at el;obtain⟨rfl,rfl⟩:x=k/\rest=List.range' (k+1) (es.size-(k+1)) 1:=by injection el with e1 e2;exact⟨e1,e2⟩
    have ho':h'.get? d=some ob:=by rw[b'.2 d ne];exact hob
    refine af (wpAny_dictEntries (s:={s with heap:=h'}) ho' hd ?_);have ee:es[x]?=some es[x]:=ji hlt;rw[ee];dsimp only;obtain⟨y,ey,iy⟩:=hi x _ ee;obtain⟨key,hkk,hh⟩:=hk es[x] (Array.getElem_mem hlt);have:key=Sum.inr y:=(bW prog w).inj _ _ _ hkk iy;subst this;obtain⟨tk,ev⟩:=Value.isStrOf_shape (show Value.isStrOf y es[x].key=true from iy);rw[ev,hh];have ln:(aH (us.take x)).length<=x:=by
      have:=WordM.nodup_len (dE (us.take x)) (m:=us.take x) λz hz=>(cO _ z).mp hz
      rw[jj]at this;omega
    refine af (h_ (wY (s:={s with heap:=h'}) (x:=y) S' (by omega) λbb h3 b3 S3=>?_));have b13:=b'.trans b3;have ho3:h3.get? d=some ob:=by rw[b13.2 d ne];exact hob
    refine af (wpAny_dictEpoch (s:={s with heap:=h3}) ho3 hd ?_);rw[if_neg (by simp)];refine aj ⟨x+1,h3,rfl,hlt,rfl,b13,?_⟩;have:aH (us.take (x+1))=dL (aH (us.take x)) y:=by
      rw[f7,ey];unfold aH;rw[n_];rfl
    rw[this];exact S3
  · rintro b s' ⟨k,h',el,hk',rfl,b',S'⟩
    have:k=es.size:=by
      apply Nat.le_antisymm hk';apply sv;intro z;have:=congrArg List.length el;rw[List.length_range']at this;simp at this;omega
    subst this;rw[hl,d_]at S';exact h h' b' S'
  · refine⟨0,s.heap,?_,dq _,rfl,Heap.SameBut.refl a s.heap,S⟩
    show List.range' 0 ((es.size-0+1-1) / 1) 1=_;rw[Nat.div_one,Nat.add_sub_cancel]
theorem NV{d:Addr}{kvs:List (av×Value)}{ep:Nat}{us:List Str}{Q:Value->Shared->Prop}(hsm:(d==sysModules)=false)(D:s.heap.DictAt (bW prog w) d kvs ep)(hks:kvs.map (·.1)=us.map Sum.inr)(hb:us.length<32)
  (h:∀(h':Heap),bg prog w s.heap.objs.size (aH us) h'->(∀b o,b<s.heap.objs.size->s.heap.get? b=some o->h'.get? b=some o)->Q (.ref s.heap.objs.size) {s with heap:=h'}):
  wpAny (model prog w) A (call (.type "set") [.ref d]) Q E s:=by
 obtain⟨ob,es,hob,hex,hd,hk,hp,hnd⟩:=id D;have ld:d<s.heap.objs.size:=bj hob;refine BH (P:=λs'=>∃h',s'={s with heap:=h'}/\bg prog w s.heap.objs.size (aH us) h'/\∀b o,b<s.heap.objs.size->s.heap.get? b=some o->h'.get? b=some o) (λs' ⟨h',e,p,k⟩=>by subst e;exact h h' p k) ?_;have hS:(s.heap.push (cQ w)).get? s.heap.objs.size=some (cQ w):=cf _ rfl;have hT:Shared.TypeIs {s with heap:=s.heap.push (cQ w)} (.ref s.heap.objs.size) "set":=⟨_,hS,rfl⟩
 have hob':(s.heap.push (cQ w)).get? d=some ob:=bc _ hob;have htd:Shared.TypeIs {s with heap:=s.heap.push (cQ w)} (.ref d) "dict":=⟨_,hob',hex.1⟩
 have hsds:=F.sub_dict_set;have hsdf:=Ko;unfold Builtin.«set.__init__» noKeywords Builtin.Frozenset.updateFrom;have hdt:(Value.type "dict"==Value.type "dict")=true:=by decide
 generalize hRM:setRoomFor=RM;wp_walk;subst hRM;rw[hd];refine aj (af (wpAny_dictEntries hob' hd ?_));obtain⟨el,ei⟩:=C9 hp hks;rw[di]at el;have F0:jy prog w s.heap.objs.size [] (s.heap.push (cC #[] 0 (.fresh 0 0 (!cg w)))):=⟨#[],0,.fresh 0 0 (!cg w),hS,⟨λe he=>by simp at he,⟨[],.nil,.refl _⟩,j6,by decide,by simp[SetTable.fits,SetTable.fresh,SetTable.fill],.inl rfl,rfl⟩,λ_=>rfl⟩
 refine af (BG (s:={s with heap:=s.heap.push (cC #[] 0 (.fresh 0 0 (!cg w)))}) F0 (by simpa[el]using hb) λh1 es1 ep1 t1 b1 g1 T1 _=>?_);have ne:d≠s.heap.objs.size:=cu ld;have ob1:h1.get? d=some ob:=by rw[b1.2 d ne];exact hob'
 refine af (wpAny_dictEntries (s:={s with heap:=h1}) ob1 hd ?_);refine af (O7 (s:={s with heap:=h1}) ne ob1 hd hk el (λi e q=>ei i e (by rw[fw];exact q)) ⟨es1,ep1,t1,g1,T1⟩ (by omega) λh2 b2 S2=>?_);have b12:=b1.trans b2;refine aj (aj ?_);refine⟨rfl,h2,rfl,S2,λb o hb e=>?_⟩;rw[b12.2 b (cu hb)];exact bc _ e
end
section
variable{X:Cx}{F:Fm}
def D6(hc:X.calm=true):aq X (.type "set") (AV X.prog X.w X.K):=by
 intro Qx s σ H xs us Q I r h;obtain⟨p,ss,rfl,hq,hz,q⟩:=h;obtain⟨u,rfl,rx⟩:=cN r;cases rx;obtain⟨its,rv,pl,hz'⟩:=I.tuple hq;refine Ob (I.ok.hd hc) pl (jY rv) (by show ss.length+1<4096;omega) λh' tk S k=>?_
 refine⟨.ref s.heap.objs.size,_,I.laid (t':=tk) (o:=dW X.prog X.w s.heap.objs.size (aH ss)) (λb o e=>k b o (bj e) e) (ba _) ⟨S,?_,λh1 h2 z k'=>z.kept k'⟩,rfl,q _ I.fresh⟩;obtain⟨es,ep,t,e,_⟩:=S;exact⟨_,e⟩
def Gn(P:Program)(w:World):R2:=λx y H Q=>∃(a b:Addr) (us vs:List Str),x=.ref a/\y=.ref b/\b≠a/\H a=some (dW P w a us)/\H b=some (dW P w b vs)/\us.length+vs.length<32/\∀c:Addr,H c=none->Q (.ref c) (ar H c (dW P w c (aH (us++vs))))
def IQ:cm X (binaryOp .BitOr) (Gn X.prog X.w):=by
 intro Qx s σ H x y v u Q I rx ry h;obtain⟨a,b,us,vs,rfl,rfl,ne,ha,hb,hl,q⟩:=h;cases rx;cases ry;refine G4 ne (I.hok a _ ha).1 (I.hok b _ hb).1 hl λh' d S k=>?_
 refine⟨.ref s.heap.objs.size,_,(I.laid (t':=s.toks) (o:=dW X.prog X.w s.heap.objs.size (aH (us++vs))) (λb o e=>k b o (bj e) e) (ba _) ⟨S,?_,λh1 h2 z k'=>z.kept k'⟩).draw d,rfl,q _ I.fresh⟩;obtain⟨es,ep,t,e,_⟩:=S;exact⟨_,e⟩
def Ap(P:Program)(w:World):List V->Hp->VK->Prop:=λxs H Q=>∃(p:Addr) (ob:Obj) (kvs:List (av×V)) (us:List Str),xs=[.ref p]/\nj H p ob kvs/\kvs.map (·.1)=us.map Sum.inr/\us.length<32/\∀a:Addr,H a=none->Q (.ref a) (ar H a (dW P w a (aH us)))
def D5:aq X (.type "set") (Ap X.prog X.w):=by
 intro Qx s σ H xs us Q I r h;obtain⟨p,ob,kvs,uu,rfl,hz,hk,hl,q⟩:=h;obtain⟨u,rfl,rx⟩:=cN r;cases rx;obtain⟨e,hs,_,vs,es,ep,rr,dd,hd⟩:=kD I hz;have hkv:vs.map (·.1)=uu.map Sum.inr:=by rw[<-sE rr];exact hk
 refine NV hs dd hkv hl λh' S k=>?_
 refine⟨.ref s.heap.objs.size,_,I.laid (t':=s.toks) (o:=dW X.prog X.w s.heap.objs.size (aH uu)) (λb o e=>k b o (bj e) e) (ba _) ⟨S,?_,λh1 h2 z k'=>z.kept k'⟩,rfl,q _ I.fresh⟩;obtain⟨es,ep,t,e,_⟩:=S;exact⟨_,e⟩
def zZ(T:Tv)(ss:List Str):Prop:=T=.seq true (ss.map sT)\/∃kts,T=.dct kts/\ss=kts.map (·.1)
def Kz(u v:UT):d3:=λρ Q=>u ρ λT ρ1=>∃ss:List Str,zZ T ss/\ss.length<32/\v ρ1 λU ρ2=>∃ts:List Str,zZ U ts/\ss.length+ts.length<32/\Q ((aY (aH (ss++ts))).map sT) ρ2
def rV(l:List Str):(aH l).length<=l.length:=by
 have:∀(l m:List Str),(l.foldl dL m).length<=m.length+l.length:=by
  intro l
  induction l with
  |nil=>exact λm=>ba _
  |cons x l ih=>
   intro m;rw[f9,g6];refine bw (ih _) ?_;unfold dL;split
   ·omega
   ·rw[b7,lu];omega
 have:=this l [];simpa[aH]using this
def bh.keep{K:W.Frag}{ρ ρ2:aW}{σ:St}{H H1 H2:Hp}{b:Addr}{o:HO}(f:au K F ρ σ H)(n:H b=none)(e:H1 b=some o)(s:bh K F σ ρ H1 ρ2 H2):H2 b=some o:=
 s.st b o e (f.none_nodk n) λi sl e1 m q=>by
  obtain⟨⟨o',e2,_⟩,_⟩:=f.own_at e1 m q;rw[n]at e2;cases e2
def Az{K:W.Frag}{P:Program}{w:World}{H:Hp}{x:V}{T:Tv}{ss:List Str}{Q:VK}(sr:zZ T ss)(v:VA K H x T)(l:ss.length<32)(h:∀b:Addr,H b=none->Q (.ref b) (ar H b (dW P w b (aH ss)))):AV P w K [x] H Q\/Ap P w [x] H Q:=by
 rcases sr with rfl|⟨kts,rfl,rfl⟩
 ·obtain⟨a,ys,rfl,hs,z,p⟩:=v.seqI;rw[jA p]at hs;exact .inl ⟨a,ss,rfl,hs,by omega,h⟩
 ·obtain⟨a,kvs,rfl,⟨ob,hd⟩,nd,z,p⟩:=v.dctI;exact .inr ⟨a,ob,kvs,_,rfl,hd,rK p,l,h⟩
theorem DV{e e':Expr}{u v:UT}{p p1 p2 pos pos1 pos2 pos3:Pos}(hc:X.calm=true)(hg:Gl X "sorted")(hm:X.mg "sorted"=none)(hg':Gl X "set")(hm':X.mg "set"=none)(he:UE X F e u)(he':UE X F e' v)(hst:dJ e=false:=by rfl)(hst':dJ e'=false:=by rfl)
  (hpl:(backTo pos (starEach [] X.env)).any (·.1)=false:=by rfl) (hpl1:(backTo pos1 (starEach [] X.env)).any (·.1)=false:=by rfl) (hpl2:(backTo pos2 (starEach [] X.env)).any (·.1)=false:=by rfl):
  UL X F (.Call (.Name "sorted" p) [.BinOp (.Call (.Name "set" p1) [e] [] pos1) .BitOr (.Call (.Name "set" p2) [e'] [] pos2) pos3] [] pos) (Kz u v):=⟨PE.imp (iG (DK hc) hg hm boot_sorted (cV (cT IQ (gB ((D6 hc).or D5) hg' hm' L2.boot_set (cV he.pe dC hst) (by decide) (by decide) (gA hst) hpl1) (gB ((D6 hc).or D5) hg' hm' L2.boot_set (cV he'.pe dC hst') (by decide) (by decide) (gA hst') hpl2)) dC rfl) (by decide) (by decide) rfl hpl) λσ H QQ ⟨ρ,Q,f,h,k⟩=>by
 refine⟨ρ,_,f,h,λx T H1 ρ1 s1 v1 q1=>?_⟩;obtain⟨ss,sr,l1,h2⟩:=q1;refine Az sr v1 (by omega) λb nb=>?_
 have sm1:=cB (o:=dW X.prog X.w b (aH ss)) nb;have t1:=bh.same s1.fr sm1;refine⟨ρ1,_,t1.fr,h2,λx' U H2 ρ2 s2 v2 q2=>?_⟩;obtain⟨ts,sr',hl,q⟩:=q2;refine Az sr' v2 (by omega) λb' nb'=>?_
 have kb:H2 b=some (dW X.prog X.w b (aH ss)):=bh.keep s1.fr nb bE s2;have ne:b'≠b:=λz=>by rw[z,kb]at nb';cases nb'
 have e1:=rV ss;have e2:=rV ts;refine⟨b,b',aH ss,aH ts,rfl,rfl,ne,by rw[bP ne.symm];exact kb,bE,by omega,λc nc=>?_⟩;have e3:=rV (aH ss++aH ts);rw[b7]at e3;refine⟨c,_,rfl,bE,by omega,λms d h1 h2' nd=>?_⟩;have sm:=((cB (o:=dW X.prog X.w b' (aH ts)) nb').trans (cB (o:=dW X.prog X.w c (aH (aH ss++aH ts))) nc)).trans (cB (o:=.lst (ms.map V.str)) nd);have sall:=(s1.trans t1).trans (s2.trans (bh.same s2.fr sm));refine k _ _ _ _ _ sall ?_ bE (by rw[ak,h1.length_eq];omega) (mM ms) ?_
 ·exact((s1.trans t1).trans s2).non ((cB (o:=dW X.prog X.w b' (aH ts)) nb').free ((cB (o:=dW X.prog X.w c (aH (aH ss++aH ts))) nc).free nd))
 ·rw[oH (h1.trans ((ko (dE _) (dE (ss++ts))).mpr λx=>by rw[cO,cO,qp_,qp_,cO,cO])) h2'];exact q⟩
end
section
variable{prog:Program}{w:World}{A:Around}{E:Value->Shared->Prop}{s:Shared}{a o:Addr}{f t f' t':Bool}
def G_{f t:Bool}(h:(gr f t).isEmpty=true):f=false/\t=false:=by
 cases f<;>cases t<;>first|exact⟨rfl,rfl⟩|exact absurd h (by decide +kernel)
def HA(l f t f' t':Bool):(dD l f t).roomFor (gr f' t').size=none:=by cases l<;>cases f<;>cases t<;>cases f'<;>cases t'<;>rfl
def DY{each:Sem Unit}{Q:Unit->Shared->Prop}(ne:a≠o)(S:bq w a f t s.heap)(O:bq w o f' t' s.heap)
  (he:∀(s':Shared) (Q':Unit->Shared->Prop),s'.heap.get? o=s.heap.get? o->Q' () s'->wpAny (model prog w) A each Q' E s')
  (h:∀h',Heap.SameBut a s.heap h'->bq w a (f || f') (t || t') h'->Q () {s with heap:=h'}):wpAny (model prog w) A (setMerge a o each) Q E s:=by
 obtain⟨ep,ho⟩:=id O;obtain⟨ea,ha⟩:=id S;unfold setMerge;rw[if_neg (by simpa using ne)];refine af (g5 ho rfl (iB _ _ _) ?_);dsimp only;by_cases z0:(gr f' t').isEmpty=true
 ·rw[if_pos z0];obtain⟨rfl,rfl⟩:=G_ z0;have e:s={s with heap:=s.heap}:=by cases s;rfl
  rw[e];exact aj (h _ (Heap.SameBut.refl a s.heap) (by rw[j8,j8];exact S))
 rw[if_neg z0];unfold setRoomFor;refine af (af (g5 ha rfl (iB _ _ _) ?_));dsimp only;rw[HA];dsimp only;refine aj (af (g5 ha rfl (iB _ _ _) ?_));dsimp only;by_cases zs:f=false/\t=false
 ·obtain⟨rfl,rfl⟩:=zs;have er:(dD (!cg w) false false).road (dD (!cg w) f' t')=.slotForSlot:=by cases cg w<;>cases f'<;>cases t'<;>rfl
  rw[er];dsimp only;have et:({dD (!cg w) f' t' with finger:=(dD (!cg w) false false).finger,led:=(dD (!cg w) false false).led&&(dD (!cg w) f' t').led,moves:=(dD (!cg w) false false).moves,plain:=(dD (!cg w) false false).plain&&(dD (!cg w) f' t').plain}:SetTable)=dD (!cg w) f' t':=by cases cg w<;>rfl
  rw[et];refine wpAny_storeSet_of ha rfl ?_ (by rw[sX];exact bw (jR f' t') (by decide));exact h _ (Heap.SameBut.update s.heap a _) ⟨ea+1,e7 (Obj.putSet (gr f' t') (dD (!cg w) f' t')) ha rfl⟩
 ·have er:(dD (!cg w) f t).road (dD (!cg w) f' t')=.oneByOne:=by
   cases f<;>cases t<;>first|exact absurd ⟨rfl,rfl⟩ zs|(cases cg w<;>rfl)
  rw[er];dsimp only;have wk:∀{Q:Array (Int×Value)->Shared->Prop},(∀(out:Array (Int×Value)),out.toList.Perm (gr f' t').toList->Q out s)->wpAny (model prog w) A (setWalkUnseen o [a] (some a)) Q E s:=λ{Q} q=>by
   unfold setWalkUnseen;refine af (g5 ho rfl (iB _ _ _) ?_);dsimp only;refine af (fZ ?_);rw[if_pos (by show(cg w || (!cg w&&true) || _)=true;cases cg w<;>rfl)];unfold setWalk;refine af (g5 ho rfl (iB _ _ _) ?_);dsimp only;refine af (fZ ?_);cases hb:cg w with
   |true=>
    rw[if_pos rfl];exact af (wpAny_askSetting (aj (q _ (oE _ _))))
   |false=>
    rw[if_neg cn];split
    ·rename_i hz;exact absurd (show(!true&&decide ((gr f' t').size > 1))=true from hz) (by simp)
    ·refine af (m:=(if (!true&&decide ((gr f' t').size > 1))=true then unsupported "set:maker-not-led" else pure PUnit.unit)) ?_;rw[if_neg (by simp)];exact aj (aj (q _ (.refl _)))
  refine af (wk λout p=>?_);refine af (PySem.MeetsSeq2.wpAny_forIn_array _ (λl _ s'=>∃(f1 t1:Bool) (h':Heap),s'={s with heap:=h'}/\Heap.SameBut a s.heap h'/\bq w a f1 t1 h'/\(∀e∈l,e∈(gr f' t').toList)/\(f1 || l.any λe=>eE false e.2)=(f || f')/\(t1 || l.any λe=>eE true e.2)=(t || t')) _ ?_ ?_ _ _ ?_)
  ·rintro⟨hh,v⟩ rest b s' ⟨f1,t1,h',rfl,b',S',hm,hf,ht⟩;have hin:(hh,v)∈(cy f' t').map λb=>(iR b,Value.bool b):=hm _ (.head _)
   obtain⟨c,_,ec⟩:=qf_.mp hin;cases ec;refine af (h_ (BE (prog:=prog) (s:={s with heap:=h'}) (b:=c) S' λr h3 b3 S3=>?_));have b13:=b'.trans b3;have ho3:h3.get? o=some (cC (gr f' t') ep (dD (!cg w) f' t')):=by rw[b13.2 o (Ne.symm ne)];exact ho
   refine af (he _ _ (by show h3.get? o=s.heap.get? o;rw[ho3,ho]) ?_);refine af (g5 (s:={s with heap:=h3}) ho3 rfl (iB _ _ _) ?_);rw[if_neg (by simp)];refine aj ⟨_,_,h3,rfl,b13,S3,λe q=>hm e (.tail _ q),?_,?_⟩
   ·rw[<-hf,ju,Bool.or_assoc];cases c<;>rfl
   ·rw[<-ht,ju,Bool.or_assoc];cases c<;>rfl
  ·rintro b s' ⟨f1,t1,h',rfl,b',S',_,hf,ht⟩;rw[List.any_nil,j8]at hf ht;subst hf ht;exact aj (h h' b' S')
  ·refine⟨f,t,s.heap,by cases s;rfl,Heap.SameBut.refl a s.heap,S,λe q=>p.mem_iff.mp q,?_,?_⟩
   ·congr 1;rw[i9,qL_];simp only[p.mem_iff];cases f'<;>cases t'<;>simp[gr,cy,eE]
   ·congr 1;rw[i9,qL_];simp only[p.mem_iff];cases f'<;>cases t'<;>simp[gr,cy,eE]
def NC{Q:Value->Shared->Prop}(S:bq w a f t s.heap)
  (h:∀h',bq w s.heap.objs.size f t h'->s.heap.objs.size<h'.objs.size->(∀b o,b<s.heap.objs.size->s.heap.get? b=some o->h'.get? b=some o)->Q (.ref s.heap.objs.size) {s with heap:=h'}):
  wpAny (model prog w) A (Builtin.Frozenset.copyOf a) Q E s:=by
 obtain⟨ep,ho⟩:=id S;have ht:s.TypeIs (.ref a) "set":=⟨_,ho,rfl⟩
 have la:a<s.heap.objs.size:=bj ho;unfold Builtin.Frozenset.copyOf Builtin.Frozenset.baseOf newSet;refine af (af (wpAny_isInstance (T:="set") (b:=true) ht oW (aj ?_)));rw[if_pos rfl];refine af (af (fZ ?_));dsimp only;refine d8 ?_ (by size_fits);refine af (aj ?_);have F0:bq w s.heap.objs.size false false (s.heap.push (cC #[] 0 (.fresh 0 0 (!cg w)))):=⟨0,cf _ rfl⟩
 refine af (DY (s:={s with heap:=s.heap.push (cC #[] 0 (.fresh 0 0 (!cg w)))}) (je la) F0 ⟨ep,bc _ ho⟩ (λs' Q' _ q=>aj q) λh' b F=>?_);rw[qi,qi]at F;refine aj (h h' F (by rw[b.1,ib];omega) λx o hx e=>?_);rw[b.2 x (cu hx)];exact bc _ e
theorem Jo{Q:Value->Shared->Prop}(ne:o≠a)(S:bq w a f t s.heap)(O:bq w o f' t' s.heap)
  (h:∀h',bq w s.heap.objs.size (f || f') (t || t') h'->(∀b o,b<s.heap.objs.size->s.heap.get? b=some o->h'.get? b=some o)->Q (.ref s.heap.objs.size) {s with heap:=h'}):
  wpAny (model prog w) A (binaryOp .BitOr (.ref a) (.ref o)) Q E s:=by
 obtain⟨ep,ho⟩:=id O;obtain⟨ea,ha⟩:=id S;have ht:s.TypeIs (.ref a) "set":=⟨_,ha,rfl⟩
 have ht2:s.TypeIs (.ref o) "set":=⟨_,ho,rfl⟩
 refine wpAny_binaryOp_same (op:=.BitOr) (T:="set") ht ht2 F.fills_set_or F.slot_set_or (jz F.slot_set_or ht Ae ?_ (F.args_set_or_2 _ _));rw[Bo];show wpAny _ _ (do
  if !(<- Builtin.Frozenset.isAnySet (.ref a) <&&> Builtin.Frozenset.isAnySet (.ref o)) then rule s!"frozenset.{"__or__"}.declined";return <- ret .notImplemented
  ret (<- oV s!"frozenset.{"__or__"}" (<- Builtin.Frozenset.addrOf (.ref a)) (.ref o))) _ _ _
 refine af (af (mF ht ?_));refine mF ht2 ?_;rw[if_neg (by simp)];refine af (aj ?_);have lo:o<s.heap.objs.size:=bj ho;unfold oV;refine af (af (NC S λh1 F1 z1 k1=>?_));rw[if_pos (by simpa using ne)];have ho1:h1.get? o=some (cC (gr f' t') ep (dD (!cg w) f' t')):=k1 o _ lo ho;have ht3:Shared.TypeIs {s with heap:=h1} (.ref o) "set":=⟨_,ho1,rfl⟩
 unfold Builtin.Frozenset.updateFrom;refine af (aj (af (h_ (af (mF ht3 ?_)))));rw[if_pos rfl];refine af (aj ?_);unfold Builtin.Frozenset.merge;refine af (wpAny_setEpoch_of (s:={s with heap:=h1}) ho1 rfl (iB _ _ _) ?_);refine DY (s:={s with heap:=h1}) (je lo) F1 ⟨ep,ho1⟩ (λs' Q' e q=>?_) λh2 b2 F2=>?_
 ·unfold Builtin.Frozenset.unchanged;refine af (wpAny_setEpoch_of (s:=s') (by rw[e];exact ho1) rfl (iB _ _ _) ?_);rw[if_neg (by simp)];exact aj q
 ·refine aj ?_;refine aj ⟨_,rfl,by simp,h h2 F2 λb o' hb e=>?_⟩;rw[b2.2 b (cu hb)];exact k1 b o' hb e
end
section
variable{X:Cx}{F:Fm}
def Iu(w:World)(K:W.Frag):List V->Hp->VK->Prop:=λxs H Q=>∃(p:Addr) (bs:List Bool),xs=[.ref p]/\cq K H p (bs.map V.bl)/\∀a:Addr,H a=none->Q (.ref a) (ar H a (eM w a (b9 bs) (b8 bs)))
def D4(hc:X.calm=true):aq X (.type "set") (Iu X.w X.K):=by
 intro Qx s σ H xs us Q I r h;obtain⟨p,bs,rfl,hq,q⟩:=h;obtain⟨u,rfl,rx⟩:=cN r;cases rx;obtain⟨its,rv,pl,hz'⟩:=I.tuple hq;refine NW (I.ok.hd hc) pl (bs:=bs) (A2 rv) λh' tk S k=>?_
 refine⟨.ref s.heap.objs.size,_,I.laid (t':=tk) (o:=eM X.w s.heap.objs.size (b9 bs) (b8 bs)) (λb o e=>k b o (bj e) e) (ba _) ⟨S,?_,λh1 h2 z k'=>z.kept k'⟩,rfl,q _ I.fresh⟩;obtain⟨ep,e⟩:=S;exact⟨_,e⟩
def Gm(w:World):R2:=λx y H Q=>∃(a b:Addr) (f t f' t':Bool),x=.ref a/\y=.ref b/\b≠a/\H a=some (eM w a f t)/\H b=some (eM w b f' t')/\∀c:Addr,H c=none->Q (.ref c) (ar H c (eM w c (f || f') (t || t')))
def IP:cm X (binaryOp .BitOr) (Gm X.w):=by
 intro Qx s σ H x y v u Q I rx ry h;obtain⟨a,b,f,t,f',t',rfl,rfl,ne,ha,hb,q⟩:=h;cases rx;cases ry;refine Jo ne (I.hok a _ ha).1 (I.hok b _ hb).1 λh' S k=>?_
 refine⟨.ref s.heap.objs.size,_,I.laid (t':=s.toks) (o:=eM X.w s.heap.objs.size (f || f') (t || t')) (λb o e=>k b o (bj e) e) (ba _) ⟨S,?_,λh1 h2 z k'=>z.kept k'⟩,rfl,q _ I.fresh⟩;obtain⟨ep,e⟩:=S;exact⟨_,e⟩
def LZ(u v:UT):d3:=λρ Q=>u ρ λT ρ1=>∃bs:List Bool,T=.seq true (bs.map bT)/\v ρ1 λU ρ2=>∃cs:List Bool,U=.seq true (cs.map bT)/\Q ((cy (b9 bs || b9 cs) (b8 bs || b8 cs)).map bT) ρ2
theorem NT{e e':Expr}{u v:UT}{p p1 p2 pos pos1 pos2 pos3:Pos}(hc:X.calm=true)(hg:Gl X "sorted")(hm:X.mg "sorted"=none)(hg':Gl X "set")(hm':X.mg "set"=none)(he:UE X F e u)(he':UE X F e' v)(hst:dJ e=false:=by rfl)(hst':dJ e'=false:=by rfl)
  (hpl:(backTo pos (starEach [] X.env)).any (·.1)=false:=by rfl) (hpl1:(backTo pos1 (starEach [] X.env)).any (·.1)=false:=by rfl) (hpl2:(backTo pos2 (starEach [] X.env)).any (·.1)=false:=by rfl):
  UL X F (.Call (.Name "sorted" p) [.BinOp (.Call (.Name "set" p1) [e] [] pos1) .BitOr (.Call (.Name "set" p2) [e'] [] pos2) pos3] [] pos) (LZ u v):=⟨PE.imp (iG (DO hc) hg hm boot_sorted (cV (cT IP (gB (D4 hc) hg' hm' L2.boot_set (cV he.pe dC hst) (by decide) (by decide) (gA hst) hpl1) (gB (D4 hc) hg' hm' L2.boot_set (cV he'.pe dC hst') (by decide) (by decide) (gA hst') hpl2)) dC rfl) (by decide) (by decide) rfl hpl) λσ H QQ ⟨ρ,Q,f,h,k⟩=>by
 refine⟨ρ,_,f,h,λx T H1 ρ1 s1 v1 q1=>?_⟩;obtain⟨bs,rfl,h2⟩:=q1;obtain⟨a,ys,rfl,hs,z,p⟩:=v1.seqI;rw[oM p]at hs;refine⟨a,bs,rfl,hs,λb nb=>?_⟩;have sm1:=cB (o:=eM X.w b (b9 bs) (b8 bs)) nb;have t1:=bh.same s1.fr sm1;refine⟨ρ1,_,t1.fr,h2,λx' U H2 ρ2 s2 v2 q2=>?_⟩;obtain⟨cs,rfl,q⟩:=q2;obtain⟨a',ys',rfl,hs',z',p'⟩:=v2.seqI;rw[oM p']at hs';refine⟨a',cs,rfl,hs',λb' nb'=>?_⟩;have kb:H2 b=some (eM X.w b (b9 bs) (b8 bs)):=bh.keep s1.fr nb bE s2;have ne:b'≠b:=λz=>by rw[z,kb]at nb';cases nb'
 refine⟨b,b',_,_,_,_,rfl,rfl,ne,by rw[bP ne.symm];exact kb,bE,λc nc=>?_⟩;refine⟨c,_,_,rfl,bE,λd nd=>?_⟩;have sm:=((cB (o:=eM X.w b' (b9 cs) (b8 cs)) nb').trans (cB (o:=eM X.w c (b9 bs || b9 cs) (b8 bs || b8 cs)) nc)).trans (cB (o:=.lst ((cy (b9 bs || b9 cs) (b8 bs || b8 cs)).map V.bl)) nd);have sall:=(s1.trans t1).trans (s2.trans (bh.same s2.fr sm));refine k _ _ _ _ _ sall ?_ bE (by rw[ak];have:=jR (b9 bs || b9 cs) (b8 bs || b8 cs);omega) (xZ _) q;exact((s1.trans t1).trans s2).non ((cB (o:=eM X.w b' (b9 cs) (b8 cs)) nb').free ((cB (o:=eM X.w c (b9 bs || b9 cs) (b8 bs || b8 cs)) nc).free nd))⟩
end
section
variable{prog:Program}{w:World}{A:Around}{E:Value->Shared->Prop}{s:Shared}{l:Addr}{its:Array Value}{ss:List Str}
def CT{Q:Value->Shared->Prop}(hl:s.heap.IsTuple l its)
  (h:∀s₂:Shared,s₂={s with heap:=s.heap.push {cls:=.type "tuple_iterator",data:=.fields #[.ref l,.int 0 0]}} ->
   (s₂.heap.IsTupleIter s.heap.objs.size l 0/\s₂.heap.IsTuple l its)->(∀b∈[s.heap.objs.size,l],b<s₂.heap.objs.size)->l≠s.heap.objs.size->Q (.ref s.heap.objs.size) s₂):
  wpAny (model prog w) A (pyIter (.ref l)) Q E s:=by
 have hlt:l<s.heap.objs.size:=by obtain⟨_,e,_⟩:=hl;exact bj e
 refine wpAny_pyIter_tuple hl (h _ rfl ⟨⟨_,cf _ rfl,rfl,rfl⟩,hl.push _⟩ (λb hb=>?_) (cu hlt));show b<(s.heap.push _).objs.size;rw[ib];simp only[qh_,da,or_false]at hb;rcases hb with z|z
 ·rw[z];exact kz _
 ·rw[z];exact gk hlt
def Mj{Q:Value->Shared->Prop}(hh:A.handled=none)(hl:s.heap.IsTuple l its)(hi:StrsAre its.toList ss)(hne:0<ss.length)
  (h:∀x t h' tk,x∈ss->(∀y∈ss,x.cps.toList<=y.cps.toList)->(∀b o,s.heap.get? b=some o->h'.get? b=some o)->Q (.str x t) {s with heap:=h',toks:=tk}):
  wpAny (model prog w) A (call (.builtin "min") [.ref l]) Q E s:=by
 have hsz:its.size=ss.length:=by rw[<-di,iE hi]
 refine call_min_walk (CT hl λs₂ e st hfp hlI=>?_);subst e;refine⟨_,_,_,_,_,_,_,rfl,Walks.tuple (A:=A.in1) hh _ l hlI its,st,hfp,by omega,DB (λi=>ss.getD i ⟨#[]⟩) (λi v hv=>gS hi i v (by rw[fw];exact hv)),λv h' tk hP hk=>?_⟩;obtain⟨t,rfl⟩:=gS hi _ v (by rw[fw];exact hP);obtain⟨b1,b2⟩:=xS (λi=>(ss.getD i ⟨#[]⟩).cps.toList) (its.size-1);refine h _ t h' tk (rB (by omega)) (λy hy=>?_) (λb o e=>hk b o (λz=>by rw[qB_]at z;subst z;have:=bj e;exact e_ _ this) (bc _ e));obtain⟨j,hj,rfl⟩:=qZ hy;exact b2 j (by omega)
def Mh{Q:Value->Shared->Prop}(hh:A.handled=none)(hl:s.heap.IsTuple l its)(hi:StrsAre its.toList ss)(hne:0<ss.length)
  (h:∀x t h' tk,x∈ss->(∀y∈ss,y.cps.toList<=x.cps.toList)->(∀b o,s.heap.get? b=some o->h'.get? b=some o)->Q (.str x t) {s with heap:=h',toks:=tk}):
  wpAny (model prog w) A (call (.builtin "max") [.ref l]) Q E s:=by
 have hsz:its.size=ss.length:=by rw[<-di,iE hi]
 refine call_max_walk (CT hl λs₂ e st hfp hlI=>?_);subst e;refine⟨_,_,_,_,_,_,_,rfl,Walks.tuple (A:=A.in1) hh _ l hlI its,st,hfp,by omega,DA (λi=>ss.getD i ⟨#[]⟩) (λi v hv=>gS hi i v (by rw[fw];exact hv)),λv h' tk hP hk=>?_⟩;obtain⟨t,rfl⟩:=gS hi _ v (by rw[fw];exact hP);obtain⟨b1,b2⟩:=xT (λi=>(ss.getD i ⟨#[]⟩).cps.toList) (its.size-1);refine h _ t h' tk (rB (by omega)) (λy hy=>?_) (λb o e=>hk b o (λz=>by rw[qB_]at z;subst z;have:=bj e;exact e_ _ this) (bc _ e));obtain⟨j,hj,rfl⟩:=qZ hy;exact b2 j (by omega)
end
section
variable{X:Cx}
theorem Oh(hc:X.calm=true):aq X (.builtin "min") (λxs H Q=>∃(p:Addr) (ss:List Str),xs=[.ref p]/\cq X.K H p (ss.map V.str)/\0<ss.length/\∀x,x∈ss->(∀y∈ss,x.cps.toList<=y.cps.toList)->Q (.str x) H):=by
 intro Qx s σ H xs us Q I r h;obtain⟨p,ss,rfl,hq,hn,q⟩:=h;obtain⟨u,rfl,rx⟩:=cN r;cases rx;obtain⟨its,rv,pl,hz⟩:=I.tuple hq;refine Mj (I.ok.hd hc) pl (jY rv) hn λx t h' tk h1 h2 hk=>?_
 exact⟨.str _,H,I.kept hk,⟨t,rfl⟩,q _ h1 h2⟩
theorem Og(hc:X.calm=true):aq X (.builtin "max") (λxs H Q=>∃(p:Addr) (ss:List Str),xs=[.ref p]/\cq X.K H p (ss.map V.str)/\0<ss.length/\∀x,x∈ss->(∀y∈ss,y.cps.toList<=x.cps.toList)->Q (.str x) H):=by
 intro Qx s σ H xs us Q I r h;obtain⟨p,ss,rfl,hq,hn,q⟩:=h;obtain⟨u,rfl,rx⟩:=cN r;cases rx;obtain⟨its,rv,pl,hz⟩:=I.tuple hq;refine Mh (I.ok.hd hc) pl (jY rv) hn λx t h' tk h1 h2 hk=>?_
 exact⟨.str _,H,I.kept hk,⟨t,rfl⟩,q _ h1 h2⟩
def Hi:Pn:=λTs Q=>∃(t:Bool) (ss:List Str),Ts=[.seq t (ss.map sT)]/\0<ss.length/\∀x,x∈ss->(∀y∈ss,x.cps.toList<=y.cps.toList)->Q (sT x)
def HV:Pn:=λTs Q=>∃(t:Bool) (ss:List Str),Ts=[.seq t (ss.map sT)]/\0<ss.length/\∀x,x∈ss->(∀y∈ss,y.cps.toList<=x.cps.toList)->Q (sT x)
def K_(hc:X.calm=true):iN X (.builtin "min") Hi:=⟨_,(D3 hc).or (Oh hc),λxs Ts H Q QQ vx h k=>by
 obtain⟨t,ss,rfl,l,q⟩:=h;obtain⟨x,rfl,v⟩:=dP vx;obtain⟨a,ys,rfl,hs,z,p⟩:=v.seqI;rw[jA p]at hs;cases t with
 |false=>exact .inl ⟨a,ss,rfl,cS hs,l,λM h1 h2=>k _ _ _ (.flat rfl) (q M h1 h2)⟩
 |true=>exact .inr ⟨a,ss,rfl,hs,l,λM h1 h2=>k _ _ _ (.flat rfl) (q M h1 h2)⟩⟩
def K9(hc:X.calm=true):iN X (.builtin "max") HV:=⟨_,(D2 hc).or (Og hc),λxs Ts H Q QQ vx h k=>by
 obtain⟨t,ss,rfl,l,q⟩:=h;obtain⟨x,rfl,v⟩:=dP vx;obtain⟨a,ys,rfl,hs,z,p⟩:=v.seqI;rw[jA p]at hs;cases t with
 |false=>exact .inl ⟨a,ss,rfl,cS hs,l,λM h1 h2=>k _ _ _ (.flat rfl) (q M h1 h2)⟩
 |true=>exact .inr ⟨a,ss,rfl,hs,l,λM h1 h2=>k _ _ _ (.flat rfl) (q M h1 h2)⟩⟩
end
end L2
namespace L2
open PySem PySem.Spec PyProof.Rows WordM
def st_lhR:Slot "list_reverseiterator" "__length_hint__" "list_reverseiterator.__length_hint__":=
 Slot.of (owner:="list_reverseiterator") (n:="__length_hint__") (by rw[typeLookup_type,builtinLookup_eq_fast];kernel_rfl) (by decide +kernel) (by decide +kernel) (by decide +kernel) (by first|exact .inl (by decide +kernel)|exact .inr (by decide +kernel)) (by rw[isSubtype_type];kernel_rfl)
def Lo:typeLookup (.type "list_reverseiterator") "__len__"=pure none:=by rw[typeLookup_type,builtinLookup_eq_fast];kernel_rfl
def JO:isSubtype (.type "list_reverseiterator") (.type "list_reverseiterator")=pure true:=by rw[isSubtype_type];kernel_rfl
section
variable{prog:Program}{w:World}{A:Around}{E:Value->Shared->Prop}{s:Shared}{a:Addr}
def M3{Q:Bool->Shared->Prop}(ht:s.TypeIs (.ref a) "list_reverseiterator")(h:Q false s):wpAny (model prog w) A (Builtin.List.listLengthHint (.ref a)) Q E s:=by
 unfold Builtin.List.listLengthHint;refine af (wpAny_specialOf ht Lo ?_);dsimp only;refine wpAny_ite ?_;rw[if_neg (by decide +kernel)];refine wpAny_ite ?_;rw[if_neg (by decide +kernel)];refine af (wpAny_specialOf ht st_lhR.lookup ?_);have e1:splitId "list_reverseiterator.__length_hint__"=some ("list_reverseiterator","__length_hint__"):=by decide +kernel
 dsimp only;rw[e1];dsimp only;refine af (wpAny_isInstance ht JO ?_);simp only[Bool.not_true,m5,if_false];refine wpAny_ite ?_;rw[if_pos (by decide +kernel)];refine wpAny_ite ?_;rw[if_neg (by decide +kernel)];exact aj h
theorem NU{r l:Addr}{items:Array Value}{Q:Value->Shared->Prop}(hh:A.handled=none)(hr:s.heap.IsRevIter r l (items.size-1))(hl:s.heap.IsList l items)(hrl:l≠r)(hz:items.size<=sizeLine)
  (hQ:∀h' tk (acc:Array Value) c,(∀b o,b≠r->s.heap.get? b=some o->h'.get? b=some o)->h'.get? s.heap.objs.size=some {cls:=.type "list",data:=.seq acc c}->ItemsOf (λi v=>items[items.size-1-i]?=some v) acc items.size->Q (.ref s.heap.objs.size) {s with heap:=h',toks:=tk}):
  wpAny (model prog w) A (call (.type "list") [.ref r]) Q E s:=by
 have rlt:r<s.heap.objs.size:=by obtain⟨o,e,_⟩:=id hr;exact bj e
 have llt:l<s.heap.objs.size:=by obtain⟨o,e,_⟩:=id hl;exact bj e
 refine callType_codes F.called_list (F.typeCall_list_1 _) F.entry_list_init (code_list_new (A:=A.in1) _ (Q₁:=λobj s1=>obj=.ref s.heap.objs.size/\s1={s with heap:=s.heap.push {cls:=.type "list",data:=.seq #[]}}) ⟨rfl,rfl⟩) λobj s1 ⟨e1,e2⟩=>?_
 subst e1 e2;have g0:(s.heap.push {cls:=.type "list",data:=.seq #[]}).get? s.heap.objs.size=some {cls:=.type "list",data:=.seq #[]}:=cf _ rfl;refine⟨⟨_,g0,rfl⟩,F.args_list_init_2 _ _,?_⟩;show wpAny _ A.in1.in1 (Builtin.List.listItems (.ref s.heap.objs.size) >>= λold=>Builtin.List.listUpdate (.ref s.heap.objs.size) (λ_=>#[]) >>= λ_=>letGo old.toList.reverse >>= λ_=>Builtin.List.listExtendWith (.ref s.heap.objs.size) (.ref r) .none) _ _ _;refine af ?_;show wpAny _ A.in1.in1 (seqItems? (.ref s.heap.objs.size) >>= _) _ _ _;refine af (wpAny_seqItems g0 rfl ?_);refine aj ?_;refine af ?_;show wpAny _ A.in1.in1 (updateSeq s.heap.objs.size (λ_=>#[])) _ _ _;refine wpAny_updateSeq g0 rfl ?_;have g1:=e7 (Obj.mapSeq (λ_=>(#[]:Array Value))) g0 rfl;have oth:∀b o,b≠s.heap.objs.size->s.heap.get? b=some o->((s.heap.push {cls:=.type "list",data:=.seq #[]}).update s.heap.objs.size (Obj.mapSeq (λ_=>(#[]:Array Value)))).get? b=some o:=
  λb o hb e=>(l_ _ _ (Ne.symm hb)).trans (bc _ e)
 refine af (wpAny_letGo ?_);generalize hh':((s.heap.push {cls:=.type "list",data:=.seq #[]}).update s.heap.objs.size (Obj.mapSeq (λ_=>(#[]:Array Value))))=h' at g1 oth;have r1:h'.IsRevIter r l (items.size-1):=hr.at λo e=>oth r o (cu rlt) e
 have l1:h'.IsList l items:=hl.at λo e=>oth l o (cu llt) e
 have ht:Shared.TypeIs {s with heap:=h'} (.ref r) "list_reverseiterator":=r1.typeIs;unfold Builtin.List.listExtendWith;refine af (wpAny_typeOf ht ?_);have h1:Builtin.List.listSameRef (.ref s.heap.objs.size) (.ref r)=false:=by simp[Builtin.List.listSameRef];exact je rlt
 have h2:(Value.type "list_reverseiterator"==Value.type "list")=false:=by decide
 have h3:(Value.type "list_reverseiterator"==Value.type "tuple")=false:=by decide
 simp only[h1,h2,h3,j8,m5,if_false];refine af (wpAny_pyIter_revIter (s:={s with heap:=h'}) r1 ?_);refine af (h_ (M3 ht ?_));have hA:A.in1.in1.handled=none:=by simp[hh]
 have W:=(Walks.listRev (prog:=prog) (w:=w) (A:=A.in1.in1) hA r l hrl items).toS;have nf:s.heap.objs.size∉[r,l]:=λm=>by
  simp only[qh_,da,or_false]at m;rcases m with z|z
  ·rw[<-z]at rlt;exact e_ _ rlt
  ·rw[<-z]at llt;exact e_ _ llt
 refine wpAny_ite ?_;rw[if_neg (by decide +kernel)];refine aj ⟨plainId_quiet F.plain_extend_loop _,codeAny_extend_loopS (A:=A.in1) W hz _ nf _ items.size 0 _ _ _ rfl (dq _)
  ⟨dq _,by simpa using r1,l1⟩ g1 (ItemsOf.nil _) λs' acc' c' hm g' hacc=>?_⟩
 obtain⟨h'',g'',d'',tk'',os''⟩:=s';have e1:g''=s.gens:=hm.gens;have e2:os''=s.os:=hm.os;have e3:d''=s.drawn:=hm.drawn;subst e1 e2 e3;refine⟨rfl,hQ h'' tk'' acc' c' (λb o hb e=>hm.heap b o (λm=>?_) (oth b o (cu (bj e)) e)) g' hacc⟩;simp only[qh_,da,or_false]at m;rcases m with m|m
 ·have lt:=bj e;rw[m]at lt;exact e_ _ lt
 ·exact hb m
end
def yg(K:W.Frag)(a:Addr)(n:Nat):It:=
  ⟨λi H=>∃xs x,bu K H a xs/\xs.length=n/\i<n/\xs[n-1-i]?=some x,
   λi H v H'=>H'=H/\∀xs,bu K H a xs->xs[n-1-i]?=some v,
   λi H=>i=n⟩
def LW{P:Program}{w:World}{K:W.Frag}{tg:Expr}(a it:Addr)(n:Nat)(hai:a≠it):
  iW P w K tg (yg K a n) [it] it (λi h=>h.IsRevIter it a ((n:Int)-1-i)) where
 mem:=by simp
 obj:=λi h st b hb=>by
  have q:b=it:=by simpa using hb
  subst q;obtain⟨o,e',c,d⟩:=st;exact⟨o,e',λv z=>by rw[d]at z;cases z⟩
 keep:=λi h h' st k=>st.at λo e'=>k it (by simp) o e'
 item:=by
  intro X hP hw hK hc i Qx s σ H E I hf st hg;subst hP hw hK;obtain⟨xs,x,hq,hn,hi,hx⟩:=hg;obtain⟨its,rv,p,hz⟩:=I.list hq;obtain⟨u,hu,ru⟩:=rv.get hx;obtain⟨f0,f1,f2,f3,f4,f5⟩:=hf it (by simp);have ei:((n:Int)-1-i)=((n-1-i:Nat):Int):=by omega
  rw[ei]at st;refine wpAny_pyNext_rev_item st p.isList (x:=u) (by simpa using hu) λh' st' sb=>?_
  have I1:ag X Qx σ H {s with heap:=h'}:=I.turned (t':=s.toks) (λb o hb e=>(sb.2 b hb).trans e) f0 f1 f3 f4 f5;have ej:(((n-1-i:Nat):Int)-1)=(n:Int)-1-((i+1:Nat):Int):=by omega
  rw[ej]at st';obtain⟨o,e,c,d⟩:=id st';exact⟨u,rfl,lL (s:={s with heap:=h'}) e c d (by decide) ⟨x,H,I1,ru,⟨rfl,λys hy=>by rw[I.list_inj hy hq];exact hx⟩,st',λb hb=>(hf b hb).1⟩⟩
 done:=by
  intro X hP hw hK hc i Qx s σ H E I hf st hg;subst hP hw hK;have hg:i=n:=hg;subst hg;obtain⟨f0,f1,f2,f3,f4,f5⟩:=hf it (by simp);have ei:((i:Int)-1-i) = -1:=by omega
  rw[ei]at st;exact wpAny_pyNext_rev_end (I.ok.hd hc) st λh' eb=>⟨rfl,I.turned (t':=s.toks) (λb o hb e=>eb b o hb e) f0 f1 f3 f4 f5⟩
 self:=λ_ _ _ _ _ st h=>wpAny_pyIter_revIter st h
def CH:bootBuiltins "reversed"=some (.type "reversed"):=by decide +kernel
section
variable{X:Cx}{F:Fm}
def GI(K:W.Frag)(ta:TA):TI:=λσ H R=>ta σ H λvs H1=>∃(a:Addr) (xs:List V),vs=[.ref a]/\bu K H1 a xs/\R (yg K a xs.length) H1
def HZ{a tg:Expr}{ta:TA}{p pos:Pos}(hg:Gl X "reversed")(hm:X.mg "reversed"=none)(ha:PA X [a] ta)(hs:starEach [a] X.env=[(false,eval a X.env)]:=by rfl):
  PI X tg (.Call (.Name "reversed" p) [a] [] pos) (GI X.K ta):=by
 intro Qx s σ H R I h;refine Call_ (kG I hg hm CH (PyProof.Rows.callWith_type1 (bf (ha pos Qx s σ H _ I h) λus s1 ⟨vs,H1,I1,r1,q1⟩=>?_) (by rw[hs];rfl) (by rfl)));obtain⟨a,xs,e,hx,q⟩:=q1;subst e;obtain⟨u,rfl,rx⟩:=cN r1;cases rx;obtain⟨its,r,pl,hz⟩:=I1.list hx;have la:a<s1.heap.objs.size:=by obtain⟨o,e,_⟩:=pl.isList;exact bj e
 have le:=r.length;refine call_reversed_list pl.isList ?_;have st:(s1.heap.push (revObj a (↑its.toArray.size-1))).IsRevIter s1.heap.objs.size a ((xs.length:Int)-1-(0:Nat)):=⟨_,cf _ rfl,rfl,by rw[ck,<-le];simp[revObj]⟩
 refine wpAny_pyIter_revIter (s:={s1 with heap:=s1.heap.push (revObj a (↑its.toArray.size-1))}) st ?_;refine⟨_,[s1.heap.objs.size],_,_,H1,rfl,I1.kept (t':=s1.toks) λb o e=>bc _ e,LW a _ xs.length (cu la),st,λc hc=>?_,q⟩;have:c=s1.heap.objs.size:=by simpa using hc
 rw[this];exact I1.fpOk (ba _) (I1.hok.fresh (ba _))
def Hh{K:W.Frag}{H:Hp}{a:Addr}{xs:List V}{Ts:List Tv}(h:a_ K H false a xs)(p:cp K H xs Ts):kQ K (yg K a xs.length) H Ts.reverse:=λH1 hs=>by
 have l:xs.length=Ts.length:=Paired.length p;have q:bu K H1 a xs:=cS (h.hs hs);refine⟨λi hi=>?_,λi x H2 hi ⟨e,y⟩=>?_,by rw[gn];exact l.symm⟩
 ·rw[gn]at hi;exact⟨xs,xs[xs.length-1-i]'(by omega),q,rfl,by omega,b6 _⟩
 ·subst e;rw[gn]at hi;obtain⟨T,eT,v⟩:=fE (p.hs hs) (y xs q);exact⟨ay.refl _,T,by rw[List.getElem?_reverse (by omega),<-l];exact eT,v⟩
def GU(ua:dw):d3:=λρ Q=>pj ua ρ λTs ρ1=>∃Us,Ts=[.seq false Us]/\Q Us.reverse ρ1
def KF{a tg:Expr}{ua:dw}{p pos:Pos}(hg:Gl X "reversed")(hm:X.mg "reversed"=none)(ha:UA X F [a] ua)(hs:starEach [a] X.env=[(false,eval a X.env)]:=by rfl):UI X F tg (.Call (.Name "reversed" p) [a] [] pos) (GU ua):=⟨PI.imp (HZ hg hm ha.pa hs) λσ H R ⟨ρ,Q,fr,hu,k⟩=>by
 refine⟨ρ,_,fr,hu,λxs as H1 ρ1 s1 p1 q1=>?_⟩;obtain⟨Ts,rfl,Us,rfl,q⟩:=iK q1;cases iL p1 with
 |cons v t=>
  cases t;obtain⟨a,xs,rfl,hq,z,p⟩:=v.seqI;exact⟨a,xs,rfl,cS hq,k _ _ _ _ s1 (Hh hq p) q⟩⟩
def LS(K:W.Frag)(te:TE):TE:=λσ H Q=>te σ H λx H1=>∃(a:Addr) (ys:List V),x=.ref a/\bu K H1 a ys/\∀l,H1 l=none->Q (.ref l) (ar H1 l (.lst ys.reverse))
def NI{e:Expr}{te:TE}{p p' pos pos':Pos}(hc:X.calm=true)(hg:Gl X "list")(hm:X.mg "list"=none)(hg':Gl X "reversed")(hm':X.mg "reversed"=none)(he:PE X e te)(hst:dJ e=false:=by rfl):
  PE X (.Call (.Name "list" p) [.Call (.Name "reversed" p') [e] [] pos'] [] pos) (LS X.K te):=by
 intro Qx s σ H Q I h;have hs:starEach [e] X.env=[(false,eval e X.env)]:=gA (rest:=[]) hst;refine wpAny_Call_Name_kw (kG I hg hm boot_list ?_);refine PyProof.Rows.callWith_type1 ?_ (by rfl) (by rfl);show wpAny _ _ (spliced ((false,eval (.Call (.Name "reversed" p') [e] [] pos') X.env)::backTo pos (starEach [] X.env))) _ _ s;refine Calls.spliced_cons ?_;refine wpAny_Call_Name_kw (kG I hg' hm' CH ?_);refine PyProof.Rows.callWith_type1 (bf ((cV he dC hst) pos' Qx s σ H (λvs H1=>∃(a:Addr) (ys:List V),vs=[.ref a]/\bu X.K H1 a ys/\∀l,H1 l=none->Q (.ref l) (ar H1 l (.lst ys.reverse))) I ?_) λus s1 ⟨vs,H1,I1,r1,q1⟩=>?_) (by rw[hs];rfl) (by rfl)
 ·exact cast (congrArg (te σ H) (funext λx=>funext λH1=>propext (by simp[pP]))) h
 ·obtain⟨a,ys,rfl,hx,q⟩:=q1;obtain⟨u,rfl,rx⟩:=cN r1;cases rx;obtain⟨its,r,pl,hz⟩:=I1.list hx;have la:a<s1.heap.objs.size:=by obtain⟨o,e,_⟩:=pl.isList;exact bj e
  have le:=r.length;refine call_reversed_list pl.isList ?_;refine(show wpAny _ _ (spliced []) _ _ _ from Calls.spliced_nil ?_);have ne:a≠s1.heap.objs.size:=cu la;refine NU (s:={s1 with heap:=s1.heap.push (revObj a (↑its.toArray.size-1))}) (I1.ok.hd hc) ⟨_,cf _ rfl,rfl,rfl⟩ (pl.isList.at λo e=>bc _ e) ne (by rw[ck,<-le];exact hz) λh' tk acc c k hl ha=>?_
  have sz:(s1.heap.push (revObj a (↑its.toArray.size-1))).objs.size=s1.heap.objs.size+1:=ib ..;have fr:H1 (s1.heap.objs.size+1)=none:=I1.hok.fresh (g7 _);refine⟨.ref _,_,I1.laid (t':=tk) (a:=s1.heap.objs.size+1) (o:=.lst ys.reverse) (λb o e=>k b o (cu (bj e)) (bc _ e)) (g7 _) ⟨by rw[gn];exact hz,acc.toList,c,?_,by rw[<-sz,kx];exact hl⟩,by rw[<-sz];rfl,q _ fr⟩;have e:acc.toList=its.reverse:=by
   refine sd λi=>?_
   by_cases hi:i<its.length
   ·obtain⟨v,hv⟩:∃v,acc.toList[i]?=some v:=⟨acc.toList[i]'(by rw[di,ha.1];simpa using hi),b6 _⟩
    have:=ha.2 i v (by rw[<-fw];exact hv);rw[hv,List.getElem?_reverse hi];simpa using this.symm
   ·rw[ky (by rw[di,ha.1];simpa using sv hi),ky (by rw[gn];omega)]
  rw[e];exact r.reverse
def LY(i:Nat):d3:=λρ Q=>∃Ts,ρ[i]?=some (.own Ts)/\Q Ts.reverse ρ
def NS{x:Str}{p p' p'' pos pos':Pos}(i:Nat)(hc:X.calm=true)(hg:Gl X "list")(hm:X.mg "list"=none)(hg':Gl X "reversed")(hm':X.mg "reversed"=none)(hN:X.N[i]?=some x:=by rfl)(hv:oy X.env.scope x:=by first|exact Or.inl rfl|exact Or.inr (Or.inl rfl)|exact Or.inr (Or.inr rfl))(hd:(x==("__debug__":Str))=false:=by decide)(hcd:(x==("__classdict__":Str))=false:=by decide):
  UL X F (.Call (.Name "list" p) [.Call (.Name "reversed" p') [.Name x p''] [] pos'] [] pos) (LY i):=⟨PE.imp (NI hc hg hm hg' hm' (jK hN hv hd hcd)) λσ H QQ ⟨ρ,Q,f,⟨Ts,e0,q⟩,k⟩=>by
 obtain⟨a,xs,ea,eH,e3,z,pv⟩:=f.at_ i _ e0;refine⟨_,iH ea,a,xs,rfl,bu.of eH,λl nl=>?_⟩;have sm:=cB (o:=.lst xs.reverse) nl;exact k _ _ _ _ _ (bh.same f sm) ((bh.same f (ay.refl _)).non nl) bE (by rw[gn];exact z) (cp.hs (hC nl) (NG pv)) q⟩
end
end L2
namespace L2
open PySem PySem.Spec PyProof.Rows
def rQ:∀{vs:List Value}{ns:List Int},IntsAre vs ns->vs.length=ns.length
 |_,_,.nil=>rfl
 |_,_,.cons n t h=>by rw[g6,g6,rQ h]
def Dx:∀{vs:List Value}{ns:List Int},IntsAre vs ns->∀x,x∈ns↔∃v∈vs,Value.isInt x v=true
 |_,_,.nil,x=>by simp
 |_,_,.cons n t h,x=>by
  rw[qh_,Dx h x];constructor
  ·rintro (rfl|⟨v,hv,e⟩)
   ·exact⟨_,.head _,by simp[Value.isInt]⟩
   ·exact⟨v,.tail _ hv,e⟩
  ·rintro⟨v,hv,e⟩;rcases qh_.mp hv with rfl|hv
   ·exact .inl (eq_of_beq (show(n==x)=true from e)).symm
   ·exact .inr ⟨v,hv,e⟩
def CP{vs us:List Value}(p:us.Perm vs):∀{ns:List Int},IntsAre vs ns->∃ms,IntsAre us ms/\ms.Perm ns:=by
 induction p with
 |nil=>intro ns h;exact⟨ns,h,.refl _⟩
 |cons x _ ih=>
  intro ns h;cases h with
  |cons n t h=>
   obtain⟨ms,h1,h2⟩:=ih h;exact⟨n::ms,.cons n t h1,h2.cons n⟩
 |swap x y l=>
  intro ns h;cases h with
  |cons n t h=>
   cases h with
   |cons m u h=>exact⟨_,.cons m u (.cons n t h),.swap ..⟩
 |trans _ _ ih1 ih2=>
  intro ns h;obtain⟨ms,h1,h2⟩:=ih2 h;obtain⟨ks,h3,h4⟩:=ih1 h1;exact⟨ks,h3,h4.trans h2⟩
def CQ:∀{vs:List Value}{ns:List Int}(x:Int) (t:Tok),IntsAre vs ns->IntsAre (vs++[.int x t]) (ns++[x])
 |_,_,x,t,.nil=>.cons x t .nil
 |_,_,x,t,.cons n u h=>.cons n u (CQ x t h)
structure iq (prog:Program) (w:World) (us:List Int) (es:Array (Int×Value)) (t:SetTable):Prop where
 el:ElemsOf (PySem.intKind prog w) es.toList
 tx:∃vs:List Int,IntsAre (es.toList.map (·.2)) vs/\vs.Perm us
 nd:us.Nodup
 lt:es.size<scanBound
 fit:t.fits es.size=true
 td:iD t
 ld:t.led=!cg w
def gb(prog:Program)(w:World)(a:Addr)(us:List Int)(h:Heap):Prop:=∃es ep t,h.get? a=some (cC es ep t)/\iq prog w us es t
def iC(us:List Int)(x:Int):List Int:=if x∈us then us else us++[x]
section
variable{prog:Program}{w:World}{A:Around}{E:Value->Shared->Prop}{s:Shared}{a:Addr}{us:List Int}{x:Int}{tk:Tok}
def iq.mem{es:Array (Int×Value)}{t:SetTable}(T:iq prog w us es t)(x:Int):x∈us↔∃e∈es.toList,(PySem.intKind prog w).is x e.2=true:=by
 obtain⟨vs,hv,pv⟩:=T.tx;rw[<-pv.mem_iff,Dx hv];simp only[qf_];exact⟨λ⟨v,⟨e,he,z⟩,q⟩=>⟨e,he,by rw[z];exact q⟩,λ⟨e,he,q⟩=>⟨e.2,⟨e,he,rfl⟩,q⟩⟩
def iq.size{es:Array (Int×Value)}{t:SetTable}(T:iq prog w us es t):es.size=us.length:=by
 obtain⟨vs,hv,pv⟩:=T.tx;have:=rQ hv;rw[<-pv.length_eq,<-this,ak,di]
def KP{Q:Bool->Shared->Prop}(S:gb prog w a us s.heap)(room:us.length+1<scanBound)(h:∀b h',Heap.SameBut a s.heap h'->gb prog w a (iC us x) h'->Q b {s with heap:=h'}):
  wpAny (model prog w) A (setAddHashed a (.int x tk) ((PySem.intKind prog w).hash x)) Q E s:=by
 obtain⟨es,ep,t,ho,T⟩:=id S;have hk:(PySem.intKind prog w).is x (.int x tk)=true:=by show Value.isInt x (.int x tk)=true;simp[Value.isInt]
 refine BF (PySem.intKind prog w) ho T.el (by rw[T.size];exact room) T.fit hk rfl (λhin=>?_) λhout h' es' ep' t' sb ho' pm ft ld td _=>?_
 ·have e:s={s with heap:=s.heap}:=by cases s;rfl
  rw[e];refine h false s.heap (Heap.SameBut.refl a s.heap) ?_;rw[iC,if_pos ((T.mem x).mpr hin)];exact S
 ·have hx:x∉us:=λz=>by
   obtain⟨e,he,hp⟩:=(T.mem x).mp z;rw[hout e he]at hp;cases hp
  refine h true h' sb ⟨es',ep',t',ho',?_⟩;obtain⟨vs,hv,pv⟩:=T.tx;have h1:=CQ x tk hv;rw[show(es.toList.map (·.2))++[Value.int x tk]=(es.toList++[((PySem.intKind prog w).hash x,Value.int x tk)]).map (·.2) by simp]at h1;obtain⟨vs',hv',pv'⟩:=CP (pm.map (·.2)) h1;rw[iC,if_neg hx];refine⟨(T.el.push hk rfl).perm pm,⟨vs',hv',pv'.trans (pv.append_right _)⟩,Eb T.nd hx,?_,ft,td T.td,ld.trans T.ld⟩;have:=pm.length_eq;rw[<-di,this,b7,di,T.size];exact room
def gb.kept{h h':Heap}(S:gb prog w a us h)(k:∀o,h.get? a=some o->h'.get? a=some o):gb prog w a us h':=by
 obtain⟨es,ep,t,ho,T⟩:=S;exact⟨es,ep,t,k _ ho,T⟩
def iq.rises{es:Array (Int×Value)}{t:SetTable}(T:iq prog w us es t)(h:t.plain=true\/es.size<=1):eO t.place:=by
 rcases h with q|q
 ·exact(T.td q).1
 ·have fit:=T.fit;unfold SetTable.fits at fit;simp only[e9,beq_iff_eq]at fit;exact vM (by rw[fit.1];exact q)
def O_{Q:Value->Shared->Prop}(hh:A.handled=none)(S:gb prog w a us s.heap)(h64:us.length<64)
  (h:∀h' d tk (l:Addr) (out:List Value) (ns:List Int) (e:Nat),IntsAre out ns->ns.Perm us->ns.Pairwise (·<=·)->h'.get? l=some (seqObj "list" out.toArray e)->s.heap.objs.size<=l->(∀b o,s.heap.get? b=some o->h'.get? b=some o) ->
   Q (.ref l) {s with heap:=h',drawn:=d,toks:=tk}):wpAny (model prog w) A (call (.builtin "sorted") [.ref a]) Q E s:=by
 refine Calls.call_function_entry kind_sorted plain_sorted entry_sorted (args_sorted1 _) ?_;unfold Builtin.«sorted»;refine af (m:=checkCount "sorted" 1 1 _) (aj ?_);obtain⟨es,ep,t,ho,T⟩:=S;refine af (uW (by simp[hh]) ho T.fit T.lt T.ld T.rises λh1 d tk acc pa le kp=>?_);obtain⟨vs0,hv0,pv0⟩:=T.tx;obtain⟨vs,hs,hp0⟩:=CP pa hv0;have hp:=hp0.trans pv0;have hlen:acc.length<64:=by rw[rQ hs,hp.length_eq];exact h64
 refine af (wpAny_newList ?_ (j0 (fh hlen (by decide))));have hoL:(h1.push (seqObj "list" acc.toArray 0)).get? h1.objs.size=some (seqObj "list" acc.toArray 0):=cf _ rfl;refine af (h_ (jz slot_list_sort ⟨_,hoL,rfl⟩ entry_list_sort (list_sort_tree hoL hs hlen λout ns' a1 a2 a3=>⟨_,rfl,?_⟩) (args_list_sort _)));obtain⟨e,he⟩:=sortedHeap_at (out:=out) hoL;refine aj ⟨_,rfl,h _ _ _ _ out.toList ns' e a1 (a2.trans hp) a3 (by rw[kx];exact he) (j0 le) λb o q=>?_⟩;have lt:=bj (kp b o q);rw[sortedHeap_old (cu lt) (by rw[ib];exact gk lt)];exact bc _ (kp b o q)
end
def eC(ns:List Int):List Int:=ns.foldl iC []
def CJ:∀(ns us:List Int) (y:Int),y∈ns.foldl iC us↔y∈us\/y∈ns
 |[],us,y=>by simp
 |n::ns,us,y=>by
  rw[f9,CJ ns,iC,qh_];split
  ·rename_i h;exact⟨λq=>q.elim .inl λq=>.inr (.inr q),λq=>q.elim .inl λq=>q.elim (λq=>.inl (q▸h)) .inr⟩
  ·rw[qp_,qB_,or_assoc]
def LN(ns:List Int)(y:Int):y∈eC ns↔y∈ns:=by rw[eC,CJ];simp
def Dq:∀(ns us:List Int),us.Nodup->(ns.foldl iC us).Nodup
 |[],us,h=>h
 |n::ns,us,h=>by
  rw[f9];refine Dq ns _ ?_;unfold iC;split
  ·exact h
  ·rename_i q;rw[mr];exact⟨h,by simp,λy hy z hz e=>q (by rw[<-qB_.mp hz,<-e];exact hy)⟩
def Lm(ns:List Int):(eC ns).Nodup:=Dq ns [] j6
def vS:∀(ns us:List Int),(ns.foldl iC us).length<=us.length+ns.length
 |[],us=>by simp
 |n::ns,us=>by
  rw[f9];refine bw (vS ns _) ?_;unfold iC;split<;>simp<;>omega
def M0(ns:List Int)(x:Int):eC (ns++[x])=iC (eC ns) x:=by unfold eC;rw[n_];rfl
def Dw:∀{vs:List Value}{ns:List Int},IntsAre vs ns->∀(i:Nat) (v:Value),vs[i]?=some v->∃n t,ns[i]?=some n/\v=.int n t
 |_,_,.cons n t h,0,v,e=>⟨n,t,rfl,(Option.some.inj e).symm⟩
 |_,_,.cons n t h,i+1,v,e=>Dw h i v e
section
variable{prog:Program}{w:World}{A:Around}{R:Result->Shared->Prop}{I:Addr}{fp wr:List Addr}{G:Array GenState->Array GenState->Prop}{n:Nat}{P:Nat->Value->Prop}{St:Nat->Shared->Prop}
def Mf(W:WalksS prog w A.in1 I fp wr G n P St)(S:Addr)(hf:S∉fp)(ns:List Int)(hn:n=ns.length)(hv:∀i v,P i v->∃x t,ns[i]?=some x/\v=.int x t)(hb:n+1<scanBound):
  ∀(k i:Nat) (s:Shared),n-i=k->i<=n->St i s->gb prog w S (eC (ns.take i)) s.heap ->
   (∀s',Moved (S::wr) G s s'->gb prog w S (eC ns) s'.heap->R (.ok (.ret .none)) s')->codeAny (model prog w) A (.builtin "set.update.loop" ⟨[.ref S,.ref I],[]⟩) R s:=λk i s hk hi st hS hR=>
 wM W S hf (λi h=>gb prog w S (eC (ns.take i)) h) (λ_ _ _ S k=>S.kept k) (λi v s' Q E lt hP hS q=>by
  obtain⟨x,t,ex,rfl⟩:=hv i v hP;have room:(eC (ns.take i)).length+1<scanBound:=by have:=vS (ns.take i) [];rw[jj]at this;unfold eC;simp only[List.length_nil]at this;omega
  refine uZ (PySem.intKind prog w) (x:=x) (by show Value.isInt _ (.int _ t)=true;simp[Value.isInt]) (KP (s:={s' with toks:=s'.toks+1}) hS room λb h' sb S2=>q b h' sb ?_);rw[show ns.take (i+1)=ns.take i++[x] by rw[f7,ex];rfl,M0];exact S2) k i s hk hi st hS λs' m S'=>hR s' m (by rw[hn,d_]at S';exact S')
end
section
variable{prog:Program}{w:World}{A:Around}{E:Value->Shared->Prop}{s:Shared}
def Ki{h:Heap}{a:Addr}(e:h.get? a=some (cQ w)):gb prog w a [] h:=⟨#[],0,.fresh 0 0 (!cg w),e,⟨λe he=>by simp at he,⟨[],.nil,.refl _⟩,j6,by decide,by simp[SetTable.fits,SetTable.fresh,SetTable.fill],λ_=>⟨MX,rfl⟩,rfl⟩⟩
def NX{l:Addr}{items:Array Value}{ns:List Int}{Q:Value->Shared->Prop}(hh:A.handled=none)(hl:s.heap.IsTuple l items)(hi:IntsAre items.toList ns)(hb:ns.length+1<scanBound)
  (h:∀(h':Heap) (tk:Nat),gb prog w s.heap.objs.size (eC ns) h'->(∀b o,b<s.heap.objs.size->s.heap.get? b=some o->h'.get? b=some o)->Q (.ref s.heap.objs.size) {s with heap:=h',toks:=tk}):
  wpAny (model prog w) A (call (.type "set") [.ref l]) Q E s:=by
 have hz:items.size=ns.length:=by have:=rQ hi;simpa using this
 refine vW hh hl (λo lt hh3 ne nf s1 e1 g1 st=>?_) h;subst e1;exact Mf ((Walks.tuple hh3 _ l ne items).toS) s.heap.objs.size nf ns hz (λi v hv=>Dw hi i v (by rw[fw];exact hv)) (by rw[hz];exact hb) (items.size-0) 0 _ (by omega) (dq _) st (Ki g1) λs' m S'=>oC m m.gens S'
end
end L2
namespace L2
open PySem PySem.Spec PyProof.Rows WordM
section
variable{X:Cx}{F:Fm}
def sZ(P:Program)(w:World)(a:Addr)(us:List Int):HO:=.ext (gb P w a us)
def Iw(P:Program)(w:World)(K:W.Frag):List V->Hp->VK->Prop:=λxs H Q=>∃(p:Addr) (ns:List Int),xs=[.ref p]/\cq K H p (ns.map V.int)/\ns.length<4000/\∀a:Addr,H a=none->Q (.ref a) (ar H a (sZ P w a (eC ns)))
def Oj(hc:X.calm=true):aq X (.type "set") (Iw X.prog X.w X.K):=by
 intro Qx s σ H xs us Q I r h;obtain⟨p,ns,rfl,hq,hz,q⟩:=h;obtain⟨u,rfl,rx⟩:=cN r;cases rx;obtain⟨its,rv,pl,hz'⟩:=I.tuple hq;have hi:IntsAre its.toArray.toList ns:=nY rv;refine NX (I.ok.hd hc) pl hi (by show ns.length+1<4096;omega) λh' tk S k=>?_
 refine⟨.ref s.heap.objs.size,_,I.laid (t':=tk) (o:=sZ X.prog X.w s.heap.objs.size (eC ns)) (λb o e=>k b o (bj e) e) (ba _) ⟨S,?_,λh1 h2 z k'=>z.kept k'⟩,rfl,q _ I.fresh⟩;obtain⟨es,ep,t,e,_⟩:=S;exact⟨_,e⟩
def Lf(P:Program)(w:World):List V->Hp->VK->Prop:=λxs H Q=>∃(a:Addr) (us:List Int),xs=[.ref a]/\H a=some (sZ P w a us)/\us.length<64/\∀(ms:List Int) (l:Addr),ms.Perm us->ms.Pairwise (·<=·)->H l=none->Q (.ref l) (ar H l (.lst (ms.map V.int)))
theorem OQ(hc:X.calm=true):aq X (.builtin "sorted") (Lf X.prog X.w):=by
 intro Qx s σ H xs us Q I r h;obtain⟨a,uu,rfl,hq,h64,q⟩:=h;obtain⟨u,rfl,rx⟩:=cN r;cases rx;have S:gb X.prog X.w a uu s.heap:=(I.hok a _ hq).1;refine O_ (I.ok.hd hc) S h64 λh' d tk l out ss e hs hp hso hl le k=>?_
 refine⟨.ref l,_,(I.laid (t':=tk) (o:=.lst (ss.map V.int)) k le ?_).draw d,rfl,q ss l hp hso (I.hok.fresh le)⟩;refine⟨?_,out,e,DH hs,hl⟩;rw[ak,hp.length_eq];exact j0 (fh h64 (by decide))
def NR(u:UT):d3:=λρ Q=>u ρ λT ρ1=>∃ns:List Int,T=.seq true (ns.map iT)/\ns.length<64/\∀ms:List Int,ms.Pairwise (· < ·)->(∀x,x∈ms↔x∈ns)->Q (ms.map iT) ρ1
theorem ON{e:Expr}{u:UT}{p p' pos pos':Pos}(hc:X.calm=true)(hg:Gl X "sorted")(hm:X.mg "sorted"=none)(hg':Gl X "set")(hm':X.mg "set"=none)(he:UE X F e u)(hst:dJ e=false:=by rfl)
  (hpl:(backTo pos (starEach [] X.env)).any (·.1)=false:=by rfl) (hpl':(backTo pos' (starEach [] X.env)).any (·.1)=false:=by rfl):
  UL X F (.Call (.Name "sorted" p) [.Call (.Name "set" p') [e] [] pos'] [] pos) (NR u):=⟨PE.imp (iG (OQ hc) hg hm boot_sorted (cV (gB (Oj hc) hg' hm' L2.boot_set (cV he.pe dC hst) (by decide) (by decide) (gA hst) hpl') dC rfl) (by decide) (by decide) rfl hpl) λσ H QQ ⟨ρ,Q,f,h,k⟩=>by
 refine⟨ρ,_,f,h,λx T H1 ρ1 s1 v1 q1=>?_⟩;obtain⟨ns,rfl,l1,q⟩:=q1;obtain⟨a,ys,rfl,hs,z,p⟩:=v1.seqI;rw[oF p]at hs;have l2:(eC ns).length<=ns.length:=by have:=vS ns [];simpa[eC]using this
 refine⟨a,ns,rfl,hs,by omega,λb nb=>⟨b,eC ns,rfl,bE,by omega,λms c h1 h2 nc=>?_⟩⟩;have sm:=(cB (o:=sZ X.prog X.w b (eC ns)) nb).trans (cB (o:=.lst (ms.map V.int)) nc);refine k _ _ _ _ _ (s1.trans (bh.same s1.fr sm)) (s1.non ((cB nb).free nc)) bE (by rw[ak,h1.length_eq];omega) (wZ ms) (q ms ?_ λx=>by rw[h1.mem_iff,LN]);have nd:ms.Nodup:=h1.nodup_iff.mpr (Lm ns);exact(List.pairwise_and_iff.mpr ⟨h2,nd⟩).imp λ{a b} ⟨x,y⟩=>by have y:a≠b:=y;omega⟩
end
end L2
namespace CutM
open RunM GcdM
structure IsR (S:Int->Prop) (r:R3):Prop where
 lo:S r.1
 lo':∀n,S n->r.1<=n
 hi:S r.2.1
 hi':∀n,S n->n<=r.2.1
 nn:0<=r.2.2
 dv:∀d,d ∣ r.2.2↔∀n,S n->d ∣ (n-r.1)
def isR_of{ns:List Int}{m M:Int}(h1:m∈ns)(h2:∀x∈ns,m<=x)(h3:M∈ns)(h4:∀x∈ns,x<=M):IsR (·∈ns) (m,M,stepOf m ns):=by
 refine⟨h1,h2,h3,h4,qK (ku 0),λd=>?_⟩;show d ∣ stepOf m ns↔_;unfold stepOf;rw[wB];exact⟨λh=>h.2,λh=>⟨i8 _,h⟩⟩
def IsR.ok{S:Int->Prop}{r:R3}(h:IsR S r):Ok r:=by
 have key:r.2.1=r.1->r.2.2=0:=λe=>by
  have:(0:Int) ∣ r.2.2:=(h.dv 0).mpr λn hn=>by
   have h1:=h.lo' n hn;have h2:=h.hi' n hn;rw[show n-r.1=0 by omega];exact i8 _
  exact Int.zero_dvd.mp this
 refine⟨h.nn,λz=>?_,λz=>⟨?_,(h.dv _).mp (qe _) _ h.hi⟩⟩
 ·have:=(h.dv 0).mp (by rw[z];exact i8 _) _ h.hi;have:=Int.zero_dvd.mp this;omega
 ·have h1:=h.lo' _ h.hi;rcases Int.lt_or_le r.1 r.2.1 with q|q
  ·exact q
  ·have:=key (by omega);omega
def R3.ext{a b:R3}(h1:a.1=b.1)(h2:a.2.1=b.2.1)(h3:a.2.2=b.2.2):a=b:=by
 obtain⟨x,y,z⟩:=a;obtain⟨x',y',z'⟩:=b;simp only at h1 h2 h3;rw[h1,h2,h3]
def IsR.unique{S:Int->Prop}{r r':R3}(h:IsR S r)(h':IsR S r'):r=r':=by
 have e1:r.1=r'.1:=by
  have:=h.lo' _ h'.lo;have:=h'.lo' _ h.lo;omega
 have e2:r.2.1=r'.2.1:=by
  have:=h.hi' _ h'.hi;have:=h'.hi' _ h.hi;omega
 refine R3.ext e1 e2 (rC h.nn h'.nn λd=>?_);rw[h.dv,h'.dv,e1]
def IsR.congr{S T:Int->Prop}{r:R3}(h:IsR S r)(e:∀n,S n↔T n):IsR T r:=
 ⟨(e _).mp h.lo,λn hn=>h.lo' n ((e n).mpr hn),(e _).mp h.hi,λn hn=>h.hi' n ((e n).mpr hn),h.nn,λd=>(h.dv d).trans ⟨λk n hn=>k n ((e n).mpr hn),λk n hn=>k n ((e n).mp hn)⟩⟩
def IsR.join{S T:Int->Prop}{a b:R3}(ha:IsR S a)(hb:IsR T b):IsR (λn=>S n\/T n) (joinR a b):=by
 have s1:Sub a (joinR a b):=Dk;have s2:Sub b (joinR a b):=OE;have l1:=s1.lo;have l2:=s2.lo;have l3:=s1.hi;have l4:=s2.hi;refine⟨?_,λn hn=>?_,?_,λn hn=>?_,g_nonneg _ _,λd=>?_⟩
 ·show S (if b.1<a.1 then b.1 else a.1)\/T (if b.1<a.1 then b.1 else a.1);split
  ·exact .inr hb.lo
  ·exact .inl ha.lo
 ·rcases hn with z|z
  ·have:=ha.lo' n z;omega
  ·have:=hb.lo' n z;omega
 ·show S (if b.2.1 > a.2.1 then b.2.1 else a.2.1)\/T (if b.2.1 > a.2.1 then b.2.1 else a.2.1);split
  ·exact .inr hb.hi
  ·exact .inl ha.hi
 ·rcases hn with z|z
  ·have:=ha.hi' n z;omega
  ·have:=hb.hi' n z;omega
 ·show d ∣ g (g a.2.2 b.2.2) (a.1-b.1)↔_;rw[g_dvd,g_dvd,ha.dv,hb.dv];have el:(joinR a b).1=a.1\/(joinR a b).1=b.1:=by
   show(if b.1<a.1 then b.1 else a.1)=a.1\/(if b.1<a.1 then b.1 else a.1)=b.1;split
   ·exact .inr rfl
   ·exact .inl rfl
  constructor
  ·rintro⟨⟨h1,h2⟩,h3⟩;have k1:d ∣ (a.1-(joinR a b).1):=by
    rcases el with e|e<;>rw[e]
    ·rw[mi];exact i8 _
    ·exact h3
   have k2:d ∣ (b.1-(joinR a b).1):=by
    rcases el with e|e<;>rw[e]
    ·rw[show b.1-a.1 = -(a.1-b.1) by omega];exact Int.dvd_neg.mpr h3
    ·rw[mi];exact i8 _
   intro n hn;rcases hn with z|z
   ·have:=mn (h1 n z) k1;rw[show n-a.1+(a.1-(joinR a b).1)=n-(joinR a b).1 by omega]at this;exact this
   ·have:=mn (h2 n z) k2;rw[show n-b.1+(b.1-(joinR a b).1)=n-(joinR a b).1 by omega]at this;exact this
  ·intro h;have k1:=h _ (.inl ha.lo);have k2:=h _ (.inr hb.lo);refine⟨⟨λn hn=>?_,λn hn=>?_⟩,?_⟩
   ·have:=jo (h n (.inl hn)) k1;rw[show n-(joinR a b).1-(a.1-(joinR a b).1)=n-a.1 by omega]at this;exact this
   ·have:=jo (h n (.inr hn)) k2;rw[show n-(joinR a b).1-(b.1-(joinR a b).1)=n-b.1 by omega]at this;exact this
   ·have:=jo k1 k2;rw[show a.1-(joinR a b).1-(b.1-(joinR a b).1)=a.1-b.1 by omega]at this;exact this
end CutM
namespace L2
open PySem PySem.Spec PyProof.Rows WordM
def bJ:List Int->Int
 |[]=>0
 |[x]=>x
 |x::y::l=>min x (bJ (y::l))
def bL:List Int->Int
 |[]=>0
 |[x]=>x
 |x::y::l=>max x (bL (y::l))
def gU:∀{l:List Int},l≠[]->bJ l∈l/\∀x∈l,bJ l<=x
 |[],h=>absurd rfl h
 |[x],_=>⟨.head _,λy hy=>by rw[qB_.mp hy];exact ku _⟩
 |x::y::l,_=>by
  obtain⟨a,b⟩:=gU (l:=y::l) (by simp);rw[bJ];refine⟨?_,λz hz=>?_⟩
  ·by_cases h:x<=bJ (y::l)
   ·rw[Int.min_eq_left h];exact .head _
   ·rw[Int.min_eq_right (by omega)];exact .tail _ a
  ·rcases qh_.mp hz with rfl|hz
   ·omega
   ·have:=b z hz;omega
def gV:∀{l:List Int},l≠[]->bL l∈l/\∀x∈l,x<=bL l
 |[],h=>absurd rfl h
 |[x],_=>⟨.head _,λy hy=>by rw[qB_.mp hy];exact ku _⟩
 |x::y::l,_=>by
  obtain⟨a,b⟩:=gV (l:=y::l) (by simp);rw[bL];refine⟨?_,λz hz=>?_⟩
  ·by_cases h:x<=bL (y::l)
   ·rw[Int.max_eq_right h];exact .tail _ a
   ·rw[Int.max_eq_left (by omega)];exact .head _
  ·rcases qh_.mp hz with rfl|hz
   ·omega
   ·have:=b z hz;omega
def mP{l:List Int}{m:Int}(h1:m∈l)(h2:∀x∈l,m<=x):bJ l=m:=by
 obtain⟨a,b⟩:=gU (l:=l) (λz=>by rw[z]at h1;exact nomatch h1);have:=b m h1;have:=h2 _ a;omega
def mQ{l:List Int}{m:Int}(h1:m∈l)(h2:∀x∈l,x<=m):bL l=m:=by
 obtain⟨a,b⟩:=gV (l:=l) (λz=>by rw[z]at h1;exact nomatch h1);have:=b m h1;have:=h2 _ a;omega
def C5{l m:List Int}(hl:l≠[])(hm:m≠[]):bJ (l++m)=min (bJ l) (bJ m):=by
 obtain⟨a,b⟩:=gU hl;obtain⟨c,d⟩:=gU hm;refine mP ?_ λx hx=>?_
 ·by_cases h:bJ l<=bJ m
  ·rw[Int.min_eq_left h];exact ic _ a
  ·rw[Int.min_eq_right (by omega)];exact fe _ c
 ·rcases qp_.mp hx with hx|hx
  ·have:=b x hx;omega
  ·have:=d x hx;omega
def C3{l m:List Int}(hl:l≠[])(hm:m≠[]):bL (l++m)=max (bL l) (bL m):=by
 obtain⟨a,b⟩:=gV hl;obtain⟨c,d⟩:=gV hm;refine mQ ?_ λx hx=>?_
 ·by_cases h:bL l<=bL m
  ·rw[Int.max_eq_right h];exact fe _ c
  ·rw[Int.max_eq_left (by omega)];exact ic _ a
 ·rcases qp_.mp hx with hx|hx
  ·have:=b x hx;omega
  ·have:=d x hx;omega
def Em{l m:List Int}(h:∀x,x∈l↔x∈m):bJ l=bJ m:=by
 by_cases e:l=[]
 ·subst e;cases m with
  |nil=>rfl
  |cons x m=>exact nomatch (h x).mpr (.head _)
 ·obtain⟨a,b⟩:=gU e;exact(mP ((h _).mp a) λx hx=>b x ((h x).mpr hx)).symm
def CZ{l m:List Int}(h:∀x,x∈l↔x∈m):bL l=bL m:=by
 by_cases e:l=[]
 ·subst e;cases m with
  |nil=>rfl
  |cons x m=>exact nomatch (h x).mpr (.head _)
 ·obtain⟨a,b⟩:=gV e;exact(mQ ((h _).mp a) λx hx=>b x ((h x).mpr hx)).symm
def cM(ns:List Int):GcdM.R3:=(bJ ns,bL ns,GcdM.stepOf (bJ ns) ns)
def kA{ns:List Int}(h:ns≠[]):CutM.IsR (·∈ns) (cM ns):=by
 obtain⟨a,b⟩:=gU h;obtain⟨c,d⟩:=gV h;exact CutM.isR_of a b c d
def rM{ns:List Int}{r:GcdM.R3}(h:CutM.IsR (·∈ns) r):r=cM ns:=h.unique (kA λz=>by have:=h.lo;rw[z]at this;exact nomatch this)
def NM{ns ms:List Int}(h:∀x,x∈ns↔x∈ms):cM ns=cM ms:=by
 by_cases e:ns=[]
 ·subst e;cases ms with
  |nil=>rfl
  |cons x m=>exact nomatch (h x).mpr (.head _)
 ·exact rM ((kA e).congr h)
def MY{ns ms:List Int}(h1:ns≠[])(h2:ms≠[]):GcdM.joinR (cM ns) (cM ms)=cM (ns++ms):=
 rM (((kA h1).join (kA h2)).congr λn=>qp_.symm)
def me:List Nat->List Nat->List Nat
 |a::x,b::y=>if a=b then a::me x y else []
 |_,_=>[]
def C0:∀x y:List Nat,∃r,x=me x y++r
 |[],y=>⟨[],by cases y<;>rfl⟩
 |a::x,[]=>⟨a::x,rfl⟩
 |a::x,b::y=>by
  rw[me];split
  ·obtain⟨r,e⟩:=C0 x y;exact⟨r,by rw[kn,<-e]⟩
  ·exact⟨a::x,rfl⟩
def CU:∀x y:List Nat,∃r,y=me x y++r
 |[],y=>⟨y,by cases y<;>rfl⟩
 |a::x,[]=>⟨[],rfl⟩
 |a::x,b::y=>by
  rw[me];split
  ·rename_i h;obtain⟨r,e⟩:=CU x y;exact⟨r,by rw[kn,<-e,h]⟩
  ·exact⟨b::y,rfl⟩
def Cu:∀(h x y r1 r2:List Nat),x=h++r1->y=h++r2->∃r,me x y=h++r
 |[],x,y,_,_,_,_=>⟨me x y,rfl⟩
 |a::h,x,y,r1,r2,e1,e2=>by
  subst e1 e2;obtain⟨r,e⟩:=Cu h (h++r1) (h++r2) r1 r2 rfl rfl;exact⟨r,by rw[kn,kn,me,if_pos rfl,e];rfl⟩
structure bp (ts:List Str) (hd:Str):Prop where
 all:∀t∈ts,∃r,cs t=cs hd++r
 top:∀h:List Nat,(∀t∈ts,∃r,cs t=h++r)->h.length<=(cs hd).length
def Ia{x y:List Nat}{z:List Nat}{r1 r2:List Nat}(e1:z=x++r1)(e2:z=y++r2)(l:x.length<=y.length):∃r,y=x++r:=by
 refine⟨y.drop x.length,?_⟩;have:y.take x.length=x:=by
  have h1:z.take x.length=x:=by rw[e1,List.take_left]
  have h2:z.take x.length=y.take x.length:=by rw[e2,List.take_append_of_le_length l]
  rw[<-h2,h1]
 exact(qg x.length y).symm.trans (by rw[this])
def bp.pre{ts:List Str}{hd:Str}(ne:ts≠[])(a:bp ts hd){h:List Nat}(k:∀t∈ts,∃r,cs t=h++r):∃r,cs hd=h++r:=by
 obtain⟨t,ht⟩:=i7 _ ne;obtain⟨r1,e1⟩:=k t ht;obtain⟨r2,e2⟩:=a.all t ht;exact Ia e1 e2 (a.top h k)
def Nq{ts:List Str}{h1 h2:Str}(ne:ts≠[])(a:bp ts h1)(b:bp ts h2):h1=h2:=by
 obtain⟨t,ht⟩:=i7 _ ne;obtain⟨r1,e1⟩:=a.all t ht;obtain⟨r2,e2⟩:=b.all t ht;have l1:=a.top _ b.all;have l2:=b.top _ a.all;exact kX (List.append_inj_left (e1.symm.trans e2) (by omega))
def bp.same{ts us:List Str}{hd:Str}(a:bp ts hd)(h:∀x,x∈ts↔x∈us):bp us hd:=⟨λt ht=>a.all t ((h t).mpr ht),λk hk=>a.top k λt ht=>hk t ((h t).mp ht)⟩
def eY:List Str->List Nat
 |[]=>[]
 |[t]=>cs t
 |t::u::l=>me (cs t) (eY (u::l))
def wQ:∀{ts:List Str},ts≠[]->bp ts ⟨(eY ts).toArray⟩
 |[],h=>absurd rfl h
 |[t],_=>⟨λu hu=>⟨[],by rw[qB_.mp hu,jk];rfl⟩,λh k=>by
  obtain⟨r,e⟩:=k t (.head _);show h.length<=(cs t).length;rw[e,b7];omega⟩
 |t::u::l,_=>by
  have ih:=wQ (ts:=u::l) (by simp);have eh:cs ⟨(eY (t::u::l)).toArray⟩=me (cs t) (eY (u::l)):=rfl;have eh':cs ⟨(eY (u::l)).toArray⟩=eY (u::l):=rfl;refine⟨λx hx=>?_,λh k=>?_⟩
  ·rw[eh];rcases qh_.mp hx with rfl|hx
   ·exact C0 _ _
   ·obtain⟨r,e⟩:=ih.all x hx;obtain⟨r',e'⟩:=CU (cs t) (eY (u::l));rw[eh']at e;exact⟨r'++r,by rw[e,<-jv,<-e']⟩
  ·obtain⟨r1,e1⟩:=k t (.head _);obtain⟨r2,e2⟩:=ih.pre (by simp) λx hx=>k x (.tail _ hx)
   rw[eh']at e2;obtain⟨r,e⟩:=Cu h _ _ r1 r2 e1 e2;rw[eh,e,b7];omega
def L1{A B:List Str}{h1 h2 hd:Str}(n1:A≠[])(n2:B≠[])(a:bp A h1)(b:bp B h2)(h:bp [h1,h2] hd):bp (A++B) hd:=by
 obtain⟨r1,e1⟩:=h.all h1 (.head _);obtain⟨r2,e2⟩:=h.all h2 (.tail _ (.head _));refine⟨λt ht=>?_,λk hk=>h.top k λt ht=>?_⟩
 ·rcases qp_.mp ht with ht|ht
  ·obtain⟨r,e⟩:=a.all t ht;exact⟨r1++r,by rw[e,e1,jv]⟩
  ·obtain⟨r,e⟩:=b.all t ht;exact⟨r2++r,by rw[e,e2,jv]⟩
 ·simp only[qh_,da,or_false]at ht;rcases ht with rfl|rfl
  ·exact a.pre n1 λx hx=>hk x (ic _ hx)
  ·exact b.pre n2 λx hx=>hk x (fe _ hx)
def kC(ts:List Str)(hd:Str):List Str:=MK.filter λm=>ts.any λt=>(cs (aX t hd)).any λc=>decide (fJ c=m)
def marksOf_mem{ts:List Str}{hd m:Str}:m∈kC ts hd↔∃t∈ts,∃c∈cs (aX t hd),fJ c=m:=by
 unfold kC;rw[qZ1_,qL_];constructor
 ·rintro⟨_,t,ht,h⟩;obtain⟨c,hc,e⟩:=qL_.mp h;exact⟨t,ht,c,hc,kf e⟩
 ·rintro⟨t,ht,c,hc,rfl⟩;exact⟨mark_in c,t,ht,qL_.mpr ⟨c,hc,jd rfl⟩⟩
def mB(ts:List Str)(hd:Str):iV (kC ts hd):=List.Pairwise.sublist List.filter_sublist JM
structure jh (ts:List Str) (hd:Str) (lo hi:Int) (ms:List Str):Prop where
 he:bp ts hd
 lo1:∃t∈ts,(t.length:Int)-(hd.length:Int)=lo
 lo2:∀t∈ts,lo<=(t.length:Int)-(hd.length:Int)
 hi1:∃t∈ts,(t.length:Int)-(hd.length:Int)=hi
 hi2:∀t∈ts,(t.length:Int)-(hd.length:Int)<=hi
 mks:ms=kC ts hd
def mH{xs ys:List Str}(hx:iV xs)(hy:iV ys)(h:∀x,x∈xs↔x∈ys):xs=ys:=
 (rN hx hy λx hx=>(h x).mp hx).eq_of_length_le (rN hy hx λx hx=>(h x).mpr hx).length_le
def jh.same{ts us:List Str}{hd:Str}{lo hi:Int}{ms:List Str}(m:jh ts hd lo hi ms)(h:∀x,x∈ts↔x∈us):jh us hd lo hi ms:=by
 obtain⟨t1,a1,b1⟩:=m.lo1;obtain⟨t2,a2,b2⟩:=m.hi1;refine⟨m.he.same h,⟨t1,(h _).mp a1,b1⟩,λt ht=>m.lo2 t ((h t).mpr ht),⟨t2,(h _).mp a2,b2⟩,λt ht=>m.hi2 t ((h t).mpr ht),?_⟩;rw[m.mks];refine mH (mB _ _) (mB _ _) λx=>?_
 rw[marksOf_mem,marksOf_mem];exact⟨λ⟨t,ht,z⟩=>⟨t,(h t).mp ht,z⟩,λ⟨t,ht,z⟩=>⟨t,(h t).mpr ht,z⟩⟩
def jh.ne{ts:List Str}{hd:Str}{lo hi:Int}{ms:List Str}(m:jh ts hd lo hi ms):ts≠[]:=λz=>by
 obtain⟨t,ht,_⟩:=m.lo1;rw[z]at ht;exact nomatch ht
def jh.uniq{ts:List Str}{hd hd2:Str}{lo hi lo2 hi2:Int}{ms ms2:List Str}(a:jh ts hd lo hi ms)(b:jh ts hd2 lo2 hi2 ms2):hd=hd2/\lo=lo2/\hi=hi2/\ms=ms2:=by
 have e:=Nq a.ne a.he b.he;subst e;obtain⟨t1,a1,b1⟩:=a.lo1;obtain⟨t2,a2,b2⟩:=a.hi1;obtain⟨u1,c1,d1⟩:=b.lo1;obtain⟨u2,c2,d2⟩:=b.hi1;have x1:=b.lo2 t1 a1;have x2:=a.lo2 u1 c1;have x3:=b.hi2 t2 a2;have x4:=a.hi2 u2 c2;exact⟨rfl,by omega,by omega,by rw[a.mks,b.mks]⟩
def wC{t h1 hd:Str}{r1 r:List Nat}(e1:cs h1=cs hd++r1)(e:cs t=cs h1++r):cs (aX t hd)=cs (aX h1 hd)++cs (aX t h1):=by
 rw[kW e,kW e1,kW (show cs t=cs hd++(r1++r) by rw[e,e1,jv])]
def Kq{t hd:Str}(h:Sg t){r:List Nat}(e:cs t=cs hd++r):Sg (aX t hd):=λc hc=>by
 rw[kW e]at hc;exact h c (by rw[e];exact fe _ hc)
def Ou{x m:Str}(h:Sg x):m∈dI x↔∃c∈cs x,fJ c=m:=by
 rw[dI,qZ1_,jT,qL_];constructor
 ·rintro⟨hm,c,hc,hd⟩;exact⟨c,hc,(sA (h c hc) m hm).mp (kf hd)⟩
 ·rintro⟨c,hc,rfl⟩;exact⟨mark_in c,c,hc,jd ((sA (h c hc) _ (mark_in c)).mpr rfl)⟩
noncomputable def j3(ms ms':List Str):List Str:=aY (aH (ms++ms'))
def jh.shorter{A:List Str}{h1 hd:Str}{lo hi:Int}{ms:List Str}(a:jh A h1 lo hi ms)(sg:Sg h1){r1:List Nat}(e1:cs h1=cs hd++r1):
  (∃t∈A,(t.length:Int)-(hd.length:Int)=lo+(aX h1 hd).length)/\(∀t∈A,lo+(aX h1 hd).length<=(t.length:Int)-(hd.length:Int))/\(∃t∈A,(t.length:Int)-(hd.length:Int)=hi+(aX h1 hd).length)/\(∀t∈A,(t.length:Int)-(hd.length:Int)<=hi+(aX h1 hd).length)/\∀m,m∈j3 ms (dI (aX h1 hd))↔∃t∈A,∃c∈cs (aX t hd),fJ c=m:=by
 have el:(h1.length:Int)=hd.length+(aX h1 hd).length:=by
  rw[WordM.len h1,WordM.len hd,WordM.len (aX h1 hd),kW e1,e1,b7];push_cast;rfl
 obtain⟨t1,a1,b1⟩:=a.lo1;obtain⟨t2,a2,b2⟩:=a.hi1;refine⟨⟨t1,a1,by omega⟩,λt ht=>by have:=a.lo2 t ht;omega,⟨t2,a2,by omega⟩,λt ht=>by have:=a.hi2 t ht;omega,λm=>?_⟩;unfold j3;rw[sort_set_mem,qp_,a.mks,marksOf_mem,Ou (Kq sg e1)];constructor
 ·rintro (⟨t,ht,c,hc,e⟩|⟨c,hc,e⟩)
  ·obtain⟨r,er⟩:=a.he.all t ht;exact⟨t,ht,c,by rw[wC e1 er];exact fe _ hc,e⟩
  ·obtain⟨r,er⟩:=a.he.all t1 a1;exact⟨t1,a1,c,by rw[wC e1 er];exact ic _ hc,e⟩
 ·rintro⟨t,ht,c,hc,e⟩;obtain⟨r,er⟩:=a.he.all t ht;rw[wC e1 er]at hc;rcases qp_.mp hc with hc|hc
  ·exact .inr ⟨c,hc,e⟩
  ·exact .inl ⟨t,ht,c,hc,e⟩
def jh.app{A B:List Str}{h1 h2 hd:Str}{lo1 hi1 lo2 hi2:Int}{ms1 ms2:List Str}(a:jh A h1 lo1 hi1 ms1)(b:jh B h2 lo2 hi2 ms2)(s1:Sg h1)(s2:Sg h2)(h:bp [h1,h2] hd):
  jh (A++B) hd (min (lo1+(aX h1 hd).length) (lo2+(aX h2 hd).length)) (max (hi1+(aX h1 hd).length) (hi2+(aX h2 hd).length)) (j3 (j3 ms1 (dI (aX h1 hd))) (j3 ms2 (dI (aX h2 hd)))):=by
 obtain⟨r1,e1⟩:=h.all h1 (.head _);obtain⟨r2,e2⟩:=h.all h2 (.tail _ (.head _));obtain⟨⟨t1,p1,q1⟩,x1,⟨u1,p2,q2⟩,y1,m1⟩:=a.shorter s1 e1;obtain⟨⟨t2,p3,q3⟩,x2,⟨u2,p4,q4⟩,y2,m2⟩:=b.shorter s2 e2;generalize lo1+((aX h1 hd).length:Int)=l1 at *;generalize hi1+((aX h1 hd).length:Int)=g1 at *;generalize lo2+((aX h2 hd).length:Int)=l2 at *;generalize hi2+((aX h2 hd).length:Int)=g2 at *;refine⟨L1 a.ne b.ne a.he b.he h,?_,λt ht=>?_,?_,λt ht=>?_,?_⟩
 ·by_cases z:l1<=l2
  ·exact⟨t1,ic _ p1,by omega⟩
  ·exact⟨t2,fe _ p3,by omega⟩
 ·rcases qp_.mp ht with ht|ht
  ·have:=x1 t ht;omega
  ·have:=x2 t ht;omega
 ·by_cases z:g1<=g2
  ·exact⟨u2,fe _ p4,by omega⟩
  ·exact⟨u1,ic _ p2,by omega⟩
 ·rcases qp_.mp ht with ht|ht
  ·have:=y1 t ht;omega
  ·have:=y2 t ht;omega
 ·refine mH (gO _) (mB _ _) λm=>?_
  have jm:m∈j3 (j3 ms1 (dI (aX h1 hd))) (j3 ms2 (dI (aX h2 hd)))↔m∈j3 ms1 (dI (aX h1 hd))++j3 ms2 (dI (aX h2 hd)):=sort_set_mem;rw[jm,qp_,m1,m2,marksOf_mem];constructor
  ·rintro (⟨t,ht,z⟩|⟨t,ht,z⟩)
   ·exact⟨t,ic _ ht,z⟩
   ·exact⟨t,fe _ ht,z⟩
  ·rintro⟨t,ht,z⟩;rcases qp_.mp ht with ht|ht
   ·exact .inl ⟨t,ht,z⟩
   ·exact .inr ⟨t,ht,z⟩
def rg(ts:List Str):Wd->Prop
 |.few ss=>ss=aY (aH ts)/\(aH ts).length<7
 |.make hd lo hi ms=>7<=(aH ts).length/\jh ts hd lo hi ms
def jZ{ts us:List Str}(h:∀x,x∈ts↔x∈us):(aH ts).length=(aH us).length/\aY (aH ts)=aY (aH us):=by
 have p:(aH ts).Perm (aH us):=(ko (dE _) (dE _)).mpr λx=>by rw[cO,cO,h]
 exact⟨p.length_eq,mH (gO _) (gO _) λx=>by rw[sort_set_mem,sort_set_mem,h]⟩
def rg.same{ts us:List Str}(h:∀x,x∈ts↔x∈us):∀{W:Wd},rg ts W->rg us W
 |.few ss,w=>⟨by rw[<-(jZ h).2];exact w.1,by rw[<-(jZ h).1];exact w.2⟩
 |.make ..,w=>⟨by rw[<-(jZ h).1];exact w.1,w.2.same h⟩
def rg.uniq{ts:List Str}:∀{W W2:Wd},rg ts W->rg ts W2->W=W2
 |.few ss,.few ss2,a,b=>by rw[a.1,b.1]
 |.few ss,.make ..,a,b=>by have:=a.2;have:=b.1;omega
 |.make ..,.few ss,a,b=>by have:=a.1;have:=b.2;omega
 |.make ..,.make ..,a,b=>by
  obtain⟨e1,e2,e3,e4⟩:=a.2.uniq b.2;rw[e1,e2,e3,e4]
def fK(ts:List Str):Wd:=
 .make ⟨(eY ts).toArray⟩ (bJ (ts.map λt=>(t.length:Int)-((⟨(eY ts).toArray⟩:Str).length:Int))) (bL (ts.map λt=>(t.length:Int)-((⟨(eY ts).toArray⟩:Str).length:Int))) (kC ts ⟨(eY ts).toArray⟩)
def jF{ts:List Str}(h:ts≠[]):∃hd lo hi ms,fK ts=.make hd lo hi ms/\jh ts hd lo hi ms:=by
 refine⟨_,_,_,_,rfl,wQ h,?_,λt ht=>?_,?_,λt ht=>?_,rfl⟩
 ·obtain⟨t,ht,e⟩:=qf_.mp (gU (l:=ts.map λt=>(t.length:Int)-((⟨(eY ts).toArray⟩:Str).length:Int)) (by simpa using h)).1;exact⟨t,ht,e⟩
 ·exact(gU (l:=ts.map λt=>(t.length:Int)-((⟨(eY ts).toArray⟩:Str).length:Int)) (by simpa using h)).2 _ (qf_.mpr ⟨t,ht,rfl⟩)
 ·obtain⟨t,ht,e⟩:=qf_.mp (gV (l:=ts.map λt=>(t.length:Int)-((⟨(eY ts).toArray⟩:Str).length:Int)) (by simpa using h)).1;exact⟨t,ht,e⟩
 ·exact(gV (l:=ts.map λt=>(t.length:Int)-((⟨(eY ts).toArray⟩:Str).length:Int)) (by simpa using h)).2 _ (qf_.mpr ⟨t,ht,rfl⟩)
noncomputable def bN(ts:List Str):Wd:=if (aH ts).length<7 then .few (aY (aH ts)) else fK ts
def rS{ts:List Str}(h:ts≠[]):rg ts (bN ts):=by
 unfold bN;split
 ·rename_i z;exact⟨rfl,z⟩
 ·obtain⟨hd,lo,hi,ms,e,m⟩:=jF h;rw[e];exact⟨by omega,m⟩
def BB{ts:List Str}(h:ts≠[]){W:Wd}(w:rg ts W):W=bN ts:=w.uniq (rS h)
def mG{ts us:List Str}(h:∀x,x∈ts↔x∈us):bN ts=bN us:=by
 by_cases e:ts=[]
 ·subst e;cases us with
  |nil=>rfl
  |cons x m=>exact nomatch (h x).mpr (.head _)
 ·have ne:us≠[]:=λz=>by
   obtain⟨x,hx⟩:=i7 _ e;have:=(h x).mp hx;rw[z]at this;exact nomatch this
  exact BB ne ((rS e).same h)
def kN6:List Nat:=[0,1,2,3,4,5]
def lN(f:List Pt)(k:Nat):Option Pt:=f.find? λp=>decide (fU p=k)
def cX(vs:List Tv):Bool:=vs.any λv=>dN v==0
def d5:Tv->Option Bool
 |.leaf (.bl b)=>some b
 |_=>none
def jf:Tv->Option Int
 |.leaf (.int i)=>some i
 |_=>none
def ij:Tv->Option Str
 |.leaf (.str s)=>some s
 |_=>none
def cw:Tv->Option (List Tv)
 |.seq false xs=>some xs
 |_=>none
def fu:Tv->Option (List (Str×Tv))
 |.dct k=>some k
 |_=>none
def Jv{v:Tv}{b:Str}:ij v=some b↔v=.leaf (.str b):=by
 cases v with
 |leaf x=>cases x<;>simp[ij]
 |seq t xs=>simp[ij]
 |dct k=>simp[ij]
def Ju{v:Tv}{b:List Tv}:cw v=some b↔v=.seq false b:=by
 cases v with
 |leaf x=>cases x<;>simp[cw]
 |seq t xs=>cases t<;>simp[cw]
 |dct k=>simp[cw]
def Jt{v:Tv}{b:List (Str×Tv)}:fu v=some b↔v=.dct b:=by
 cases v with
 |leaf x=>cases x<;>simp[fu]
 |seq t xs=>simp[fu]
 |dct k=>simp[fu]
def aO(ks:List (List (Str×Tv))):List Str:=ks.flatMap λk=>k.map (·.1)
def dF(ks:List (List (Str×Tv))):List Tv:=ks.flatMap λk=>k.map (·.2)
def ix(n:Str)(ks:List (List (Str×Tv))):List Tv:=ks.filterMap λk=>bX k n
def cU(ls:List (List Tv)):List Int:=ls.map λl=>((l.length:Nat):Int)
def bH(ks:List (List (Str×Tv))):List Int:=ks.map λl=>((l.length:Nat):Int)
abbrev mf:=Str×Bool×List Pt
noncomputable def cZ(D:List Tv->List Pt)(ks:List (List (Str×Tv)))(n:Str):mf:=(n,ks.all (λk=>decide (n∈k.map (·.1))),D (ix n ks))
noncomputable def dc(D:List Tv->List Pt)(ks:List (List (Str×Tv))):Pt:=
 if (aH (aO ks)).length<=8 then .record (bJ (bH ks)) (bL (bH ks)) ((aY (aH (aO ks))).map (cZ D ks)) else .table (bJ (bH ks)) (bL (bH ks)) (bN (aO ks)) (D (dF ks))
noncomputable def bA(D:List Tv->List Pt)(vs:List Tv):Nat->Option Pt
 |0=>if cX vs=true then some .nothing else none
 |1=>if vs.filterMap d5=[] then none else some (.truths (cy (b9 (vs.filterMap d5)) (b8 (vs.filterMap d5))))
 |2=>if vs.filterMap jf=[] then none else some (.numbers (cM (vs.filterMap jf)).1 (cM (vs.filterMap jf)).2.1 (cM (vs.filterMap jf)).2.2)
 |3=>if vs.filterMap ij=[] then none else some (.texts (bN (vs.filterMap ij)))
 |4=>if vs.filterMap cw=[] then none else some (.lists (bJ (cU (vs.filterMap cw))) (bL (cU (vs.filterMap cw))) (D (vs.filterMap cw).flatten))
 |5=>if vs.filterMap fu=[] then none else some (dc D (vs.filterMap fu))
 |_=>none
noncomputable def aV:Nat->List Tv->List Pt
 |0,_=>[]
 |n+1,vs=>kN6.filterMap (bA (aV n) vs)
def CI{D:List Tv->List Pt}{vs:List Tv}{k:Nat}{p:Pt}(h:bA D vs k=some p):fU p=k:=by
 unfold bA at h;split at h
 all_goals first|(cases h;done)|skip
 all_goals
  split at h
  all_goals first|(cases h;done)|skip
 all_goals first|(cases h;rfl;done)|skip
 ·cases h;unfold dc;split<;>rfl
def xO{o:Nat->Option Pt}(ho:∀k p,o k=some p->fU p=k):∀(l:List Nat) (k:Nat),k∈l->l.Nodup->lN (l.filterMap o) k=o k
 |[],k,h,_=>nomatch h
 |j::l,k,h,n=>by
  have hn:=qQ1_.mp n;rw[ie];by_cases z:j=k
  ·subst z;cases e:o j with
   |none=>
    dsimp only;have:lN (l.filterMap o) j=none:=by
     unfold lN;rw[qA3_];intro p hp hk;obtain⟨i,hi,ei⟩:=qM_.mp hp;have:=ho i p ei;have hk:=kf hk;rw[this]at hk;subst hk;exact hn.1 hi
    rw[this]
   |some p=>
    dsimp only;unfold lN;rw[d9,jd (ho j p e)]
  ·have hk:k∈l:=by
    rcases qh_.mp h with q|q
    ·exact absurd q.symm z
    ·exact q
   have ih:=xO ho l k hk hn.2;cases e:o j with
   |none=>exact ih
   |some p=>
    dsimp only;unfold lN;rw[d9,i4 (λq=>z (by rw[<-ho j p e];exact q))];exact ih
def BQ{n:Nat}{vs:List Tv}{k:Nat}(h:k∈kN6):lN (aV (n+1) vs) k=bA (aV n) vs k:=xO (λ_ _=>CI) kN6 k h (by decide)
def oR{α:Type}{f:Tv->Option α}{A B:List Tv}(h:∀v,v∈A↔v∈B)(x:α):x∈A.filterMap f↔x∈B.filterMap f:=by
 rw[qM_,qM_];exact⟨λ⟨a,ha,e⟩=>⟨a,(h a).mp ha,e⟩,λ⟨a,ha,e⟩=>⟨a,(h a).mpr ha,e⟩⟩
def oK{α:Type}{A B:List α}(h:∀v,v∈A↔v∈B):(A=[])=(B=[]):=by
 rw[eq_iff_iff,qX1_,qX1_];exact⟨λk a ha=>k a ((h a).mpr ha),λk a ha=>k a ((h a).mp ha)⟩
def wX{α:Type}{p:α->Bool}{A B:List α}(h:∀v,v∈A↔v∈B):A.any p=B.any p:=by
 rw[i9,qL_,qL_];exact⟨λ⟨a,ha,e⟩=>⟨a,(h a).mp ha,e⟩,λ⟨a,ha,e⟩=>⟨a,(h a).mpr ha,e⟩⟩
def KO{α:Type}{p:α->Bool}{A B:List α}(h:∀v,v∈A↔v∈B):A.all p=B.all p:=by
 rw[i9,qp1_,qp1_];exact⟨λk a ha=>k a ((h a).mpr ha),λk a ha=>k a ((h a).mp ha)⟩
def rP{α β:Type}{f:α->β}{A B:List α}(h:∀v,v∈A↔v∈B)(x:β):x∈A.map f↔x∈B.map f:=by
 rw[qf_,qf_];exact⟨λ⟨a,ha,e⟩=>⟨a,(h a).mp ha,e⟩,λ⟨a,ha,e⟩=>⟨a,(h a).mpr ha,e⟩⟩
def DL{α β:Type}{f:α->List β}{A B:List α}(h:∀v,v∈A↔v∈B)(x:β):x∈A.flatMap f↔x∈B.flatMap f:=by
 rw[qh1_,qh1_];exact⟨λ⟨a,ha,e⟩=>⟨a,(h a).mp ha,e⟩,λ⟨a,ha,e⟩=>⟨a,(h a).mpr ha,e⟩⟩
def Mt{D:List Tv->List Pt}(hD:∀A B:List Tv,(∀v,v∈A↔v∈B)->D A=D B){ks js:List (List (Str×Tv))}(h:∀v,v∈ks↔v∈js):dc D ks=dc D js:=by
 have hn:∀x,x∈aO ks↔x∈aO js:=DL h;have e1:bJ (bH ks)=bJ (bH js):=Em (rP h);have e2:bL (bH ks)=bL (bH js):=CZ (rP h);have e3:cZ D ks=cZ D js:=by
  funext n;unfold cZ;rw[KO h,hD (ix n ks) (ix n js) λv=>by
   unfold ix;rw[qM_,qM_];exact⟨λ⟨a,ha,e⟩=>⟨a,(h a).mp ha,e⟩,λ⟨a,ha,e⟩=>⟨a,(h a).mpr ha,e⟩⟩]
 unfold dc;rw[(jZ hn).1,(jZ hn).2,e1,e2,e3,mG hn,hD (dF ks) (dF js) (DL h)]
def Nj{D:List Tv->List Pt}(hD:∀A B:List Tv,(∀v,v∈A↔v∈B)->D A=D B){A B:List Tv}(h:∀v,v∈A↔v∈B)(k:Nat):bA D A k=bA D B k:=by
 unfold bA;split
 ·rw[show cX A=cX B from wX h]
 ·have hb:=oR (f:=d5) h;simp only[oK hb];rw[show b9 (A.filterMap d5)=b9 (B.filterMap d5) from wX hb,show b8 (A.filterMap d5)=b8 (B.filterMap d5) from wX hb]
 ·have hb:=oR (f:=jf) h;simp only[oK hb];rw[NM hb]
 ·have hb:=oR (f:=ij) h;simp only[oK hb];rw[mG hb]
 ·have hb:=oR (f:=cw) h;simp only[oK hb];have e1:bJ (cU (A.filterMap cw))=bJ (cU (B.filterMap cw)):=Em (rP hb);have e2:bL (cU (A.filterMap cw))=bL (cU (B.filterMap cw)):=CZ (rP hb);rw[e1,e2,hD (A.filterMap cw).flatten (B.filterMap cw).flatten λv=>by
   rw[qi1_,qi1_];exact⟨λ⟨l,hl,e⟩=>⟨l,(hb l).mp hl,e⟩,λ⟨l,hl,e⟩=>⟨l,(hb l).mpr hl,e⟩⟩]
 ·have hb:=oR (f:=fu) h;simp only[oK hb];rw[Mt hD hb]
 ·rfl
def rE:∀(n:Nat) (A B:List Tv),(∀v,v∈A↔v∈B)->aV n A=aV n B
 |0,_,_,_=>rfl
 |n+1,A,B,h=>by
  show kN6.filterMap (bA (aV n) A)=kN6.filterMap (bA (aV n) B);rw[show bA (aV n) A=bA (aV n) B from funext (Nj (rE n) h)]
def wV(n:Nat):aV n []=[]:=by
 cases n with
 |zero=>rfl
 |succ n=>rfl
def fk{α:Type}(A T U:List α):Prop:=(∀v∈A,v∈T)/\∀v∈T,v∈U
def fk.fm{α β:Type}{f:α->Option β}{A T U:List α}(h:fk A T U):fk (A.filterMap f) (T.filterMap f) (U.filterMap f):=
 ⟨λx hx=>by obtain⟨a,ha,e⟩:=qM_.mp hx;exact qM_.mpr ⟨a,h.1 a ha,e⟩,λx hx=>by obtain⟨a,ha,e⟩:=qM_.mp hx;exact qM_.mpr ⟨a,h.2 a ha,e⟩⟩
def fk.map{α β:Type}{f:α->β}{A T U:List α}(h:fk A T U):fk (A.map f) (T.map f) (U.map f):=
 ⟨λx hx=>by obtain⟨a,ha,e⟩:=qf_.mp hx;exact qf_.mpr ⟨a,h.1 a ha,e⟩,λx hx=>by obtain⟨a,ha,e⟩:=qf_.mp hx;exact qf_.mpr ⟨a,h.2 a ha,e⟩⟩
def fk.flatMap{α β:Type}{f:α->List β}{A T U:List α}(h:fk A T U):fk (A.flatMap f) (T.flatMap f) (U.flatMap f):=
 ⟨λx hx=>by obtain⟨a,ha,e⟩:=qh1_.mp hx;exact qh1_.mpr ⟨a,h.1 a ha,e⟩,λx hx=>by obtain⟨a,ha,e⟩:=qh1_.mp hx;exact qh1_.mpr ⟨a,h.2 a ha,e⟩⟩
def fk.flat{α:Type}{A T U:List (List α)}(h:fk A T U):fk A.flatten T.flatten U.flatten:=
 ⟨λx hx=>by obtain⟨a,ha,e⟩:=qi1_.mp hx;exact qi1_.mpr ⟨a,h.1 a ha,e⟩,λx hx=>by obtain⟨a,ha,e⟩:=qi1_.mp hx;exact qi1_.mpr ⟨a,h.2 a ha,e⟩⟩
def fk.ne{α:Type}{A T U:List α}(h:fk A T U)(n:A≠[]):T≠[]:=λz=>by
 obtain⟨x,hx⟩:=i7 _ n;have:=h.1 x hx;rw[z]at this;exact nomatch this
def fk.none{α:Type}{A T U:List α}(h:fk A T U)(n:U=[]):T=[]:=qX1_.mpr λx hx=>by
 have:=h.2 x hx;rw[n]at this;exact nomatch this
def xX{α:Type}{p:α->Bool}{A T U:List α}(h:fk A T U)(e:A.any p=U.any p):T.any p=U.any p:=by
 cases hu:U.any p with
 |true=>
  rw[hu]at e;obtain⟨x,hx,q⟩:=qL_.mp e;exact qL_.mpr ⟨x,h.1 x hx,q⟩
 |false=>
  rw[<-p_,qL_]at hu ⊢;exact λ⟨x,hx,q⟩=>hu ⟨x,h.2 x hx,q⟩
def wK{A T U:List Int}(h:fk A T U)(n:A≠[])(e:bJ A=bJ U):bJ T=bJ U:=by
 obtain⟨a,_⟩:=gU n;have nu:U≠[]:=λz=>by have:=h.none z;exact h.ne n this
 obtain⟨_,b⟩:=gU nu;rw[<-e];exact mP (h.1 _ a) λx hx=>by rw[e];exact b x (h.2 x hx)
def wL{A T U:List Int}(h:fk A T U)(n:A≠[])(e:bL A=bL U):bL T=bL U:=by
 obtain⟨a,_⟩:=gV n;have nu:U≠[]:=λz=>by have:=h.none z;exact h.ne n this
 obtain⟨_,b⟩:=gV nu;rw[<-e];exact mQ (h.1 _ a) λx hx=>by rw[e];exact b x (h.2 x hx)
def Lj{A T U:List Int}(h:fk A T U)(n:A≠[])(e:cM A=cM U):cM T=cM U:=by
 have nu:U≠[]:=λz=>by have:=h.none z;exact h.ne n this
 have a:=kA n;have b:=kA nu;rw[e]at a;exact(rM ⟨h.1 _ a.lo,λx hx=>b.lo' x (h.2 x hx),h.1 _ a.hi,λx hx=>b.hi' x (h.2 x hx),a.nn,λd=>⟨λq x hx=>(b.dv d).mp q x (h.2 x hx),λq=>(a.dv d).mpr λx hx=>q x (h.1 x hx)⟩⟩).symm
def xC{A T U:List Str}(h:fk A T U):(aH A).length<=(aH T).length:=WordM.nodup_len (dE A) λx hx=>(cO T x).mpr (h.1 x ((cO A x).mp hx))
def AI{A T U:List Str}(h:fk A T U)(n:A≠[])(e:bN A=bN U):bN T=bN U:=by
 have nu:U≠[]:=λz=>by have:=h.none z;exact h.ne n this
 have a:=rS n;have b:=rS nu;rw[e]at a;refine(BB (h.ne n) ?_).symm;generalize bN U=W at a b;cases W with
 |few ss=>
  have m:∀x,x∈T↔x∈U:=λx=>⟨h.2 x,λhx=>h.1 x (by rw[<-sort_set_mem,<-a.1,b.1,sort_set_mem];exact hx)⟩
  exact b.same λx=>(m x).symm
 |make hd lo hi ms=>
  obtain⟨a1,a2⟩:=a;obtain⟨b1,b2⟩:=b;obtain⟨t1,p1,q1⟩:=a2.lo1;obtain⟨t2,p2,q2⟩:=a2.hi1;refine⟨bw a1 (xC h),⟨λt ht=>b2.he.all t (h.2 t ht),λk hk=>a2.he.top k λt ht=>hk t (h.1 t ht)⟩,⟨t1,h.1 t1 p1,q1⟩,λt ht=>b2.lo2 t (h.2 t ht),⟨t2,h.1 t2 p2,q2⟩,λt ht=>b2.hi2 t (h.2 t ht),?_⟩;rw[b2.mks];refine mH (mB _ _) (mB _ _) λm=>?_
  constructor
  ·intro q;rw[<-b2.mks,a2.mks]at q;obtain⟨t,ht,z⟩:=marksOf_mem.mp q;exact marksOf_mem.mpr ⟨t,h.1 t ht,z⟩
  ·intro q;obtain⟨t,ht,z⟩:=marksOf_mem.mp q;exact marksOf_mem.mpr ⟨t,h.2 t ht,z⟩
def yf(D:List Tv->List Pt):Prop:=∀A T U:List Tv,fk A T U->D A=D U->D T=D U
def G8{D:List Tv->List Pt}(hD:yf D){A T U:List (List (Str×Tv))}(h:fk A T U)(n:A≠[])(e:dc D A=dc D U):dc D T=dc D U:=by
 have hn:fk (aO A) (aO T) (aO U):=h.flatMap;have hn':fk (aO T) (aO U) (aO U):=⟨hn.2,λv q=>q⟩
 have l1:=xC hn;have l2:=xC hn';have nl:bH A≠[]:=by unfold bH;simpa using n
 unfold dc at e;by_cases ha:(aH (aO A)).length<=8
 ·rw[if_pos ha]at e;by_cases hu:(aH (aO U)).length<=8
  ·rw[if_pos hu]at e;injection e with e1 e2 e3
   have en:aY (aH (aO A))=aY (aH (aO U)):=by
    have:=congrArg (List.map (·.1)) e3;rw[fg,fg]at this;have i1:∀(ks:List (List (Str×Tv))),((λx:mf=>x.1)∘cZ D ks)=id:=λks=>rfl
    rw[i1,i1,nz,nz]at this;exact this
   have m:∀x,x∈aO T↔x∈aO U:=λx=>⟨hn.2 x,λhx=>hn.1 x (by rw[<-sort_set_mem,en,sort_set_mem];exact hx)⟩
   unfold dc;rw[if_pos (by rw[(jZ m).1];exact hu),if_pos hu,(jZ m).2];have e4:bJ (bH T)=bJ (bH U):=wK h.map nl e1;have e5:bL (bH T)=bL (bH U):=wL h.map nl e2;rw[e4,e5];congr 1;refine mw λx hx=>?_
   have ex:cZ D A x=cZ D U x:=by
    rw[en]at e3;exact List.map_inj_left.mp e3 x hx
   unfold cZ at ex ⊢;injection ex with _ ex
   injection ex with x1 x2
   have y1:T.all (λk=>decide (x∈k.map (·.1)))=U.all (λk=>decide (x∈k.map (·.1))):=by
    cases hq:U.all (λk=>decide (x∈k.map (·.1))) with
    |true=>exact qp1_.mpr λk hk=>qp1_.mp hq k (h.2 k hk)
    |false=>
     rw[hq]at x1;rw[<-p_,qp1_]at x1 ⊢;exact λz=>x1 λk hk=>z k (h.1 k hk)
   rw[y1,hD _ _ _ (show fk (ix x A) (ix x T) (ix x U) from h.fm) x2]
  ·rw[if_neg hu]at e;cases e
 ·rw[if_neg ha]at e;by_cases hu:(aH (aO U)).length<=8
  ·rw[if_pos hu]at e;cases e
  ·rw[if_neg hu]at e;injection e with e1 e2 e3 e4
   have nn:aO A≠[]:=λz=>by rw[z]at ha;exact ha (by decide)
   have e5:bJ (bH T)=bJ (bH U):=wK h.map nl e1;have e6:bL (bH T)=bL (bH U):=wL h.map nl e2;unfold dc;rw[if_neg (by omega),if_neg hu,e5,e6,AI hn nn e3,hD _ _ _ (show fk (dF A) (dF T) (dF U) from h.flatMap) e4]
def Mv{D:List Tv->List Pt}(hD:yf D){A T U:List Tv}(h:fk A T U)(k:Nat)(e:bA D A k=bA D U k):bA D T k=bA D U k:=by
 have nc:∀{α:Type} {f:Tv->Option α} {g:List α->Pt},((if A.filterMap f=[] then none else some (g (A.filterMap f)))=if U.filterMap f=[] then none else some (g (U.filterMap f)))->(A.filterMap f≠[]->g (A.filterMap f)=g (U.filterMap f)->g (T.filterMap f)=g (U.filterMap f)) ->
   (if T.filterMap f=[] then none else some (g (T.filterMap f)))=if U.filterMap f=[] then none else some (g (U.filterMap f)):=by
  intro α f g e q;have hf:=h.fm (f:=f);by_cases na:A.filterMap f=[]
  ·rw[if_pos na]at e;by_cases nu:U.filterMap f=[]
   ·rw[if_pos nu,if_pos (hf.none nu)]
   ·rw[if_neg nu]at e;cases e
  ·rw[if_neg na]at e;by_cases nu:U.filterMap f=[]
   ·rw[if_pos nu]at e;cases e
   ·rw[if_neg nu]at e;rw[if_neg nu,if_neg (hf.ne na),q na (Option.some.inj e)]
 unfold bA at e ⊢;split at e
 ·have q:cX A=cX U:=by
   cases hu:cX U<;>cases ha:cX A<;>first|rfl|(rw[hu,ha]at e;cases e)
  rw[show cX T=cX U from xX h q]
 ·refine nc (g:=λl=>.truths (cy (b9 l) (b8 l))) e λna q=>?_
  injection q with q
  have hb:=h.fm (f:=d5);have k1:b9 (A.filterMap d5)=b9 (U.filterMap d5)/\b8 (A.filterMap d5)=b8 (U.filterMap d5):=by
   cases a1:b9 (A.filterMap d5)<;>cases a2:b8 (A.filterMap d5)<;>cases a3:b9 (U.filterMap d5)<;>cases a4:b8 (U.filterMap d5)<;>first|exact⟨rfl,rfl⟩|(rw[a1,a2,a3,a4]at q;exact absurd q (by decide))
  show Pt.truths _=Pt.truths _;rw[show b9 (T.filterMap d5)=b9 (U.filterMap d5) from xX hb k1.1,show b8 (T.filterMap d5)=b8 (U.filterMap d5) from xX hb k1.2]
 ·refine nc (g:=λl=>.numbers (cM l).1 (cM l).2.1 (cM l).2.2) e λna q=>?_
  injection q with q1 q2 q3
  have:cM (A.filterMap jf)=cM (U.filterMap jf):=Prod.ext q1 (Prod.ext q2 q3);show Pt.numbers _ _ _=Pt.numbers _ _ _;rw[Lj h.fm na this]
 ·refine nc (g:=λl=>.texts (bN l)) e λna q=>?_
  injection q with q
  show Pt.texts _=Pt.texts _;rw[AI h.fm na q]
 ·refine nc (g:=λl=>.lists (bJ (cU l)) (bL (cU l)) (D l.flatten)) e λna q=>?_
  injection q with q1 q2 q3
  have nl:cU (A.filterMap cw)≠[]:=by unfold cU;simpa using na
  have hb:=h.fm (f:=cw);have e1:bJ (cU (T.filterMap cw))=bJ (cU (U.filterMap cw)):=wK hb.map nl q1;have e2:bL (cU (T.filterMap cw))=bL (cU (U.filterMap cw)):=wL hb.map nl q2;show Pt.lists _ _ _=Pt.lists _ _ _;rw[e1,e2,hD _ _ _ hb.flat q3]
 ·exact nc (g:=dc D) e λna q=>G8 hD h.fm na q
 ·rfl
def BL:∀(n:Nat),yf (aV n)
 |0,_,_,_,_,_=>rfl
 |n+1,A,T,U,h,e=>by
  have ek:∀k∈kN6,bA (aV n) A k=bA (aV n) U k:=λk hk=>by rw[<-BQ hk,<-BQ hk,e]
  show kN6.filterMap (bA (aV n) T)=kN6.filterMap (bA (aV n) U);have key:∀l:List Nat,(∀k∈l,bA (aV n) T k=bA (aV n) U k)->l.filterMap (bA (aV n) T)=l.filterMap (bA (aV n) U):=by
   intro l
   induction l with
   |nil=>intro _;rfl
   |cons k l ih=>intro q;rw[ie,ie,q k (.head _),ih λj hj=>q j (.tail _ hj)]
  exact key kN6 λk hk=>Mv (BL n) h k (ek k hk)
def jC{α:Type}(e:α->Tv):∀{f g:List α},(∀p∈f,∀q,L2.eqT (e p) (e q)=true↔p=q)->(bO (f.map e) (g.map e)=true↔f=g)
 |[],[],_=>by simp[bO]
 |[],_::_,_=>by simp[bO]
 |_::_,[],_=>by simp[bO]
 |p::f,q::g,h=>by
  rw[dz,dz,bO,e9,h p (.head _) q,jC e λx hx=>h x (.tail _ hx),List.cons.injEq]
def hX(x y:Str):L2.eqT (sT x) (sT y)=true↔x=y:=by simp[L2.eqT,cz]
def nH(x y:Int):L2.eqT (iT x) (iT y)=true↔x=y:=by simp[L2.eqT,cz]
def Af(x y:Bool):L2.eqT (bT x) (bT y)=true↔x=y:=by cases x<;>cases y<;>decide
def gH(xs ys:List Tv):L2.eqT (.seq true xs) (.seq true ys)=bO xs ys:=by rw[L2.eqT];rfl
def gG(x y:Tv)(xs ys:List Tv):bO (x::xs) (y::ys)=true↔L2.eqT x y=true/\bO xs ys=true:=by rw[bO,e9]
def jM:bO [] []=true:=by rw[bO]
def AO(a b:List Str):bO (a.map sT) (b.map sT)=true↔a=b:=jC sT λp _ q=>hX p q
def Bi(a b:Wd):L2.eqT (bR a) (bR b)=true↔a=b:=by
 cases a<;>cases b
 ·simp only[bR,gH,gG,hX,jM,AO,true_and,and_true,Wd.few.injEq]
 ·refine⟨λh=>?_,λh=>nomatch h⟩;simp only[bR,gH,gG]at h;exact absurd h.1 (by decide)
 ·refine⟨λh=>?_,λh=>nomatch h⟩;simp only[bR,gH,gG]at h;exact absurd h.1 (by decide)
 ·simp only[bR,gH,gG,hX,nH,jM,AO,true_and,and_true,Wd.make.injEq]
def AN(p:Pt):∃r,aT p=.seq true (sT (kH p)::r):=by cases p<;>(rw[aT];exact⟨_,rfl⟩)
def tK:∀(p q:Pt),L2.eqT (aT p) (aT q)=true↔p=q
 |p,q=>by
  by_cases hw:kH p=kH q
  ·cases p<;>cases q<;>dsimp only[kH]at hw<;>first|exact absurd hw (by decide)|skip
   ·exact⟨λ_=>rfl,λ_=>by rw[aT];decide⟩
   ·simp only[aT,gH,gG,hX,jM,jC bT (λp _ q=>Af p q),true_and,and_true,Pt.truths.injEq]
   ·simp only[aT,gH,gG,hX,nH,jM,true_and,and_true,Pt.numbers.injEq]
   ·simp only[aT,gH,gG,hX,Bi,jM,true_and,and_true,Pt.texts.injEq]
   ·rename_i f _ _ g;have ih:=jC aT (f:=f) (g:=g) λp hp q=>tK p q
    simp only[aT,gH,gG,hX,nH,ih,jM,true_and,and_true,Pt.lists.injEq]
   ·rename_i f _ _ g;have ih:=jC cI (f:=f) (g:=g) λx hx y=>by
     obtain⟨x1,x2,x3⟩:=x;obtain⟨y1,y2,y3⟩:=y;have ih:=jC aT (f:=x3) (g:=y3) λp hp q=>tK p q
     show L2.eqT (.seq true [sT x1,bT x2,.seq true (x3.map aT)]) (.seq true [sT y1,bT y2,.seq true (y3.map aT)])=true↔_;simp only[gH,gG,hX,Af,ih,jM,and_true,Prod.mk.injEq]
    simp only[eR,gH,gG,hX,nH,ih,jM,true_and,and_true,Pt.record.injEq]
   ·rename_i f _ _ _ g;have ih:=jC aT (f:=f) (g:=g) λp hp q=>tK p q
    simp only[aT,gH,gG,hX,nH,Bi,ih,jM,true_and,and_true,Pt.table.injEq]
  ·refine⟨λh=>?_,λh=>absurd (congrArg kH h) hw⟩;obtain⟨r,e⟩:=AN p;obtain⟨r',e'⟩:=AN q;rw[e,e',gH,gG,hX]at h;exact absurd h.1 hw
termination_by p=>sizeOf p
decreasing_by
 all_goals simp_wf
 ·have:=j5 hp;omega
 ·have h1:=j5 hx;have h2:=j5 hp;simp at h1;omega
 ·have:=j5 hp;omega
def tL(f g:List Pt):bO (f.map aT) (g.map aT)=true↔f=g:=jC aT λp _ q=>tK p q
end L2
namespace My
open PySem L2 PyProof.Rows WordM
def top(i:Nat):Stmt:=PySem.Challenge.pw_leastform_k45_cores_of_samples.main.body.getD i (.Pass ⟨0,0,0,0⟩)
abbrev yy:Stmt:=top 4
abbrev yw:Stmt:=top 6
abbrev yv:Stmt:=top 7
abbrev yu:Stmt:=top 8
abbrev yt:Stmt:=top 9
abbrev x8:Stmt:=top 14
abbrev x6:Stmt:=top 15
abbrev yr:Stmt:=top 16
abbrev yq:Stmt:=top 17
abbrev u4:Stmt:=top 18
abbrev zO:Stmt:=top 19
abbrev zN:Stmt:=top 20
abbrev zM:Stmt:=top 21
abbrev zL:Stmt:=top 22
abbrev zK:Stmt:=top 23
abbrev zJ:Stmt:=top 28
abbrev zI:Stmt:=top 29
abbrev uG:Stmt:=top 30
abbrev uF:Stmt:=top 32
abbrev nR:Stmt:=top 33
abbrev uE:Stmt:=top 34
abbrev uA:Stmt:=top 35
abbrev tZ:Stmt:=top 36
abbrev pY:Stmt:=top 37
abbrev pX:Stmt:=top 38
abbrev tY:Stmt:=top 39
abbrev pW:Stmt:=top 40
abbrev pV:Stmt:=top 41
abbrev pU:Stmt:=top 42
abbrev pT:Stmt:=top 43
abbrev nQ:Stmt:=top 44
abbrev nP:Stmt:=top 45
abbrev pS:Stmt:=top 46
abbrev zH:Stmt:=top 48
abbrev tX:Stmt:=top 49
abbrev zG:Stmt:=top 51
abbrev zF:Stmt:=top 52
abbrev zE:Stmt:=top 53
abbrev zD:Stmt:=top 54
abbrev zC:Stmt:=top 55
abbrev yZ:Stmt:=top 56
abbrev yY:Stmt:=top 57
abbrev tW:Stmt:=top 58
abbrev yX:Stmt:=top 59
abbrev yW:Stmt:=top 60
abbrev tV:Stmt:=top 61
abbrev pR:Stmt:=top 62
abbrev tU:Stmt:=top 63
abbrev pQ:Stmt:=top 64
abbrev nO:Stmt:=top 65
abbrev yV:Stmt:=top 66
abbrev yU:Stmt:=top 67
abbrev lT:Stmt:=top 68
abbrev yT:Stmt:=top 69
abbrev lR:Stmt:=top 70
abbrev iA:Stmt:=top 71
abbrev lQ:Stmt:=top 72
abbrev iU:Stmt:=top 73
section
variable{P:Program}{w:World}{K:W.Frag}{mg:Str->Option Value}{base:Heap}
def _root_.L2.On.put{p c:Addr}{H:Hp}(d:bo H p c)(S k:Int):On p c H (ar H p (.lst [.ref c,.int S,.int k])):=by
 obtain⟨ns,e',l⟩:=d.cs;exact⟨⟨d.ne,⟨S,k,bE⟩,ns,by rw[bP d.ne.symm];exact e',l⟩,λb o h hp _=>by rw[bP hp];exact h⟩
theorem _root_.L2.On.cut{p c:Addr}{H:Hp}(d:bo H p c)(ns:List Int)(h:ns.length<=64):On p c H (ar H c (.lst (ns.map V.int))):=by
 obtain⟨S,k,e⟩:=d.dk;exact⟨⟨d.ne,⟨S,k,by rw[bP d.ne];exact e⟩,ns,bE,h⟩,λb o h _ hc=>by rw[bP hc];exact h⟩
theorem Nn(ns:List Int):(ns.map V.int).all dO=true:=by
 rw[qq];exact qp1_.mpr λ_ _=>rfl
theorem MA(ns:List Int):gK (ns.map V.int) []=ns.isEmpty:=by cases ns<;>rfl
def sc_mixed:bF Qi Qi (aN zG):=bz (by decide +kernel)
def JF(h:ao K mg "_law_mixed" zG):cv P w K mg base 1 "_law_mixed" Qi Cf:=by
 refine h.good sc_mixed (fun|_,_,_,_,_,_,[_,_],_=>rfl) (λvs H Q E q=>?_) (λf Qy A outer s H vs Q E hr q=>?_)
 ·obtain⟨n,k,rfl,_⟩:=q;rfl
 ·obtain⟨n,k,rfl,q⟩:=q;have nd:=sc_mixed.nd;refine⟨_,(gQ (kF (i:=0) nd rfl (by first|exact Or.inl rfl|exact Or.inr rfl) (cT jL (cT op_mul (cT op_add (cT op_add (cT jL (pv 0) cP) (cT op_mul cP (pv 1))) cP) cP) cP))
   (gQ (kF (i:=0) nd rfl (by first|exact Or.inl rfl|exact Or.inr rfl) (cT jL (cT op_add (cT op_add (cT op_mul (pv 0) (pv 0)) (cT op_mul cP (pv 1))) cP) cP))
   (kY (lB (cT B0 (cT jL (cT op_mul (cT op_add (cT op_mul (cT jL (pv 0) cP) cP) (cT B0 (pv 0) cP)) cP) cP) cP))))),?_⟩
  refine⟨_,rfl,_,_,rfl,rfl,(by show(0:Int)<_;decide),_,rfl,_,_,rfl,rfl,.inl ⟨by decide,by decide⟩,_,_,rfl,rfl,_,_,rfl,rfl,_,_,rfl,rfl,.inr ⟨by decide,by decide⟩,_,_,rfl,rfl,(by show(0:Int)<_;decide),?_⟩;refine⟨_,rfl,_,rfl,_,_,rfl,rfl,?c,_,rfl,_,_,rfl,rfl,.inl ⟨by decide,by decide⟩,_,_,rfl,rfl,_,_,rfl,rfl,_,_,rfl,rfl,(by show(0:Int)<_;decide),?_⟩
  case c=>
   refine .inl ⟨?_,?_⟩
   ·exact Int.lt_of_lt_of_le (by decide) (jq _ (by decide))
   ·exact Int.lt_trans (jr _ (by decide)) (by decide)
  refine⟨_,rfl,_,_,rfl,rfl,(by show(0:Int)<_;decide),_,_,rfl,rfl,.inr ⟨by decide,by decide⟩,_,rfl,_,_,rfl,rfl,⟨by decide,by decide⟩,_,_,rfl,rfl,_,_,rfl,rfl,.inr ⟨by decide,by decide⟩,_,_,rfl,rfl,(by show(0:Int)<_;decide),_,_,rfl,rfl,⟨by decide,by decide⟩,?_⟩;exact q _
def sc_deck:bF ["_law_script","_law_cells"] P9 (aN zF):=bz (by decide +kernel)
theorem FW(ns:List Int):gL (ns.map V.int) none (some 63)=(ns.take 63).map V.int:=by
 unfold gL;have e1:HT.sIx (ns.map V.int).length 0 none=0:=rfl;rw[e1,mq,Nat.sub_zero,List.map_take];by_cases h:ns.length<=63
 ·rw[oh (by simp[HT.sIx]<;>omega),oh (by simpa using h)]
 ·congr 1;simp[HT.sIx]<;>omega
theorem Hc(h:ao K mg "_law_deck" zF)(B:Own mg):cv P w K mg base 1 "_law_deck" P9 (Ax K):=by
 refine h.good sc_deck (fun|_,_,_,_,_,_,[_],_=>rfl) (λvs H Q E q=>?_) (λf Qy A outer s H vs Q E hr q=>?_)
 ·obtain⟨a,ns,rfl,_⟩:=q;rfl
 ·obtain⟨a,ns,rfl,hS,q⟩:=q;have nd:=sc_deck.nd;refine⟨_,(gQ (kF (i:=1) nd rfl (by first|exact Or.inl rfl|exact Or.inr rfl) (gB DJ rfl B.list_ boot_list (cV (Da sl_list (pv 0) B6 (B7 cP)) dC)))
   (kY (lB (@B2 _ _ _ _ (@zP _ _ _ _ _ (Ja (pv 1) (Br AF cP)) (@zP _ _ _ _ _ (cT op_add (iG (Nf rfl) rfl B.sum boot_sum (cV (pv 1) dC)) (cT op_mul cP (iG call_len_seq rfl B.len dg (cV (pv 1) dC)))) (@zP _ _ _ _ _ cP Ao rfl) rfl) rfl))))),?_⟩
  refine⟨_,rfl,_,rfl,a,_,rfl,hS,λl1 h1=>?_⟩;have e1:ar H l1 (.lst (gL (ns.map V.int) none (some 63)))=ar H l1 (.lst ((ns.take 63).map V.int)):=by rw[FW]
  rw[e1];refine⟨l1,_,rfl,.inl (bu.of bE),λl2 h2=>?_⟩;refine⟨_,rfl,_,rfl,rfl,l2,_,rfl,bu.of bE,λl3 h3=>?_⟩;have n23:l2≠l3:=dX bE h3;refine⟨_,rfl,l2,ns.take 63,rfl,bu.of (by rw[bP n23];exact bE),_,rfl,l2,_,rfl,.inl (bu.of (by rw[bP n23];exact bE)),_,_,rfl,rfl,.inl ⟨by decide,by decide⟩,_,_,rfl,rfl,(by show 3<=sizeLine;decide),λl4 h4=>?_⟩;have n34:l3≠l4:=dX bE h4;have f1:∀b o,H b=some o->ar H l1 (.lst ((ns.take 63).map V.int)) b=some o:=λb o e=>by rw[bP (dX e h1)];exact e
  have s1:ay H (ar H l1 (.lst ((ns.take 63).map V.int))):=f1;have s2:ay H (ar (ar H l1 (.lst ((ns.take 63).map V.int))) l2 (.lst ((ns.take 63).map V.int))):=λb o e=>by rw[bP (dX (s1 b o e) h2)];exact s1 b o e
  have s3:ay H (ar (ar (ar H l1 (.lst ((ns.take 63).map V.int))) l2 (.lst ((ns.take 63).map V.int))) l3 (.lst ((ns.take 63).map V.int).reverse)):=λb o e=>by rw[bP (dX (s2 b o e) h3)];exact s2 b o e
  refine q l4 l3 _ (s3.free h4) (s2.free h3) ⟨n34.symm,⟨_,_,bE⟩,(ns.take 63).reverse,?_,?_⟩ λb o e=>?_
  ·rw[bP n34,bE,List.map_reverse]
  ·rw[gn,jj];omega
  ·rw[bP (dX (s3 b o e) h4)];exact s3 b o e
def sc_take:bF ["_law_deck_here","_law_most","_law_cell"] PY (aN zE):=bz (by decide +kernel)
theorem Hd(h:ao K mg "_law_take" zE)(Rk:cv P w K mg base 1 "_law_mixed" Qi Cf):cv P w K mg base 2 "_law_take" PY Ay:=by
 refine h.good sc_take (fun|_,_,_,_,_,_,[_,_],_=>rfl) (λvs H Q E q=>?_) (λf Qy A outer s H vs Q E hr q=>?_)
 ·obtain⟨p,c,m,rfl,_⟩:=q;rfl
 ·obtain⟨p,c,m,rfl,d,hm,hB,q⟩:=q;have nd:=sc_take.nd;have hu:=Nat.lt_of_succ_lt (pL hr);obtain⟨hne,⟨S,k,hp⟩,ns,hc,hl⟩:=id d;refine⟨_,(gQ (Ib (cT op_add (iQ ix_list (pv 0) cP (λ_ _=>rfl)) cP) (HX (pv 0) cP LO))
   (gQ (yP (xE (II hu) (iQ ix_list (pv 0) cP (λ_ _=>rfl)) (@B2 _ _ _ _ Ao) (mW _))
    (kY (lB (cT jL (pH Rk (hr.mono (by first|decide|omega)) rfl (cV (iQ ix_list (pv 0) cP (λ_ _=>rfl)) (cV (iQ ix_list (pv 0) cP (λ_ _=>rfl)) dC))) (pv 1))))
    xH)
   (gQ (kF (i:=2) nd rfl (by first|exact Or.inl rfl|exact Or.inr rfl) (IW PySem.F.plainAttrs_list PySem.F.slot_list_pop PySem.F.type_list_pop IE (iQ ix_list (pv 0) cP (λ_ _=>rfl))))
   (gQ (yP (xE op_lt (pv 2) (cT Bb cP cP) (mW _))
    (kY (lB (cT jL (pH Rk (hr.mono (by first|decide|omega)) rfl (cV (pv 2) (cV (iQ ix_list (pv 0) cP (λ_ _=>rfl)) dC))) (pv 1))))
    xH)
   (gQ (B8 (pI PySem.F.plainAttrs_list PySem.F.slot_list_append PySem.F.type_list_append vN (iQ ix_list (pv 0) cP (λ_ _=>rfl)) (cV (cT C8 (pv 2) (pv 1)) dC)))
   (kY (lB (cT jL (pv 2) (pv 1))))))))),?_⟩
  -- deck[2]=deck[2]+1
  refine⟨_,rfl,p,_,_,_,rfl,rfl,bu.of hp,rfl,_,_,rfl,rfl,_,rfl,p,_,_,2,rfl,rfl,hp,rfl,?_⟩;have o1:On p c H (ar H p (.lst [.ref c,.int S,.int (k+1)])):=On.put d S (k+1);have hc1:ar H p (.lst [.ref c,.int S,.int (k+1)]) c=some (.lst (ns.map V.int)):=by rw[bP hne.symm];exact hc
  -- if deck[0]==[]
  refine⟨_,rfl,p,_,_,_,rfl,rfl,bu.of bE,rfl,dq _,λl hfree=>?_⟩;have npl:p≠l:=(o1.d.nep hfree).symm;have ncl:c≠l:=(o1.d.nec hfree).symm;have o2:=o1.alloc (o:=.lst []) hfree;have hp2:ar (ar H p (.lst [.ref c,.int S,.int (k+1)])) l (.lst []) p=some (.lst [.ref c,.int S,.int (k+1)]):=by rw[bP npl];exact bE
  have hc2:ar (ar H p (.lst [.ref c,.int S,.int (k+1)])) l (.lst []) c=some (.lst (ns.map V.int)):=by rw[bP ncl];exact hc1
  refine⟨c,l,_,[],rfl,rfl,bu.of hc2,bu.of bE,Nn ns,rfl,_,rfl,?_⟩;rw[show(if false=true then !gK (ns.map V.int) [] else gK (ns.map V.int) [])=ns.isEmpty from MA ns];have fin:∀r H',On p c H H'->Q (.int (r % m)) H':=λr H' o=>q (r % m) H' (jq _ (by omega)) (jr _ hm) o
  rcases List.eq_nil_or_concat ns with e|⟨init,z,e⟩
  ·subst e;refine bZ ?_;refine⟨_,rfl,p,_,_,_,rfl,rfl,bu.of hp2,rfl,_,rfl,p,_,_,_,rfl,rfl,bu.of hp2,rfl,_,_,rfl,λr=>?_⟩;exact⟨_,rfl,_,_,rfl,rfl,hm,fin r _ o2⟩
  ·rw[List.concat_eq_append]at e;subst e;rw[show(init++[z]).isEmpty=false by simp];refine aQ ?_;have hlast:((init++[z]).map V.int)[((init++[z]).map V.int).length-1]?=some (.int z):=by simp
   have hdrop:((init++[z]).map V.int).dropLast=init.map V.int:=by simp
   -- cell=deck[0].pop()
   refine⟨_,rfl,p,_,_,_,rfl,rfl,bu.of hp2,rfl,.inl ⟨rfl,_,bu.of hc2⟩,c,_,_,rfl,rfl,hc2,hlast,?_⟩;rw[hdrop];have hli:init.length<=63:=by rw[b7,lu]at hl;omega
   have o3:=o2.trans (On.cut o2.d init (by omega));have hp3:ar (ar (ar H p (.lst [.ref c,.int S,.int (k+1)])) l (.lst [])) c (.lst (init.map V.int)) p=some (.lst [.ref c,.int S,.int (k+1)]):=by rw[bP hne];exact hp2
   -- if cell<10 ** 18
   refine⟨_,rfl,_,_,rfl,rfl,⟨by decide,by decide,by decide⟩,_,_,rfl,rfl,_,rfl,?_⟩;refine GK (λ_=>?_) (λ_=>?_)
   ·refine⟨_,rfl,_,rfl,p,_,_,_,rfl,rfl,bu.of hp3,rfl,_,_,rfl,λr=>?_⟩;exact⟨_,rfl,_,_,rfl,rfl,hm,fin r _ o3⟩
   ·refine⟨_,rfl,p,_,_,_,rfl,rfl,bu.of hp3,rfl,.inl ⟨rfl,_,bu.of bE⟩,_,rfl,_,rfl,_,_,rfl,rfl,⟨hm,hB⟩,c,_,_,rfl,rfl,bE,OC (by rw[ak];omega),?_⟩;rw[show init.map V.int++[V.int (z / m)]=(init++[z / m]).map V.int by simp];have o4:=o3.trans (On.cut o3.d (init++[z / m]) (by rw[b7,lu];omega));exact⟨_,rfl,_,rfl,_,_,rfl,rfl,hm,fin z _ o4⟩
def rX:bt:=λas R=>as=[]/\R (sT gc)
def wo:bF ["_law_signs_here"] [] (aN zD):=bz (by decide +kernel)
def EW(h:ao K mg "_law_signs" zD)(B:Own mg)    : ae P w K mg base 1 "_law_signs" [] rX:=by
 have nd:=wo.nd;refine h.pgood wo (fun|_,_,_,_,_,_,[],_=>rfl) (λf Qy A outer s H E F hr=>
   (aI (aZ 0 nd bC)
   (aJ (aR (bS dH (aC 0) bC))))) (λas R q=>?_)
 obtain⟨rfl,q⟩:=q;exact⟨rfl,show sigA.length+sigB.length<=100000 by decide +kernel,q⟩
def sK:bt:=λas R=>∃m:Int,as=[.dk,.va (iT m)]/\0<=m/\m<=1000/\∀x:Str,Sg x->(x.length:Int)<=m->R (sT x)
def G6{z:Str}{r:Int}(h0:0<=r)(h1:r<z.length):∃c,gh z.cps.toList r=some c/\c∈cs z:=by
 have hl:r.toNat<(cs z).length:=by rw[<-WordM.len];omega
 refine⟨(cs z)[r.toNat],?_,ja hl⟩;have:=bK (xs:=cs z) (j:=r.toNat) (b6 hl);rw[show((r.toNat:Nat):Int)=r by omega]at this;exact this
def kO{α:Type}{l:List α}{r:Int}(h0:0<=r)(h1:r<l.length):∃m,gh l r=some m/\m∈l:=by
 have hl:r.toNat<l.length:=by omega
 refine⟨l[r.toNat],?_,ja hl⟩;have:=bK (xs:=l) (j:=r.toNat) (b6 hl);rw[show((r.toNat:Nat):Int)=r by omega]at this;exact this
def wm:bF ["_law_deck_here","_law_most","_law_signs_here","_law_some","_law_text_here","_law_k"] PY (aN zC):=bz (by decide +kernel)
def EX(h:ao K mg "_law_text" zC)(B:Own mg)(QS:ae P w K mg base 1 "_law_signs" [] rX)(QB:ae P w K mg base 2 "_law_take" PY gF)   : ae P w K mg base 3 "_law_text" PY sK:=by
 have nd:=wm.nd;refine h.pgood wm (fun|_,_,_,_,_,_,[_,_],_=>rfl) (λf Qy A outer s H E F hr=>
   (aI (aZ 2 nd (AE QS (hr.mono (by omega)) rfl))
   (aI (aZ 3 nd (aU hr (bG (cD (aD (aC 2) (aD (aC 2) (aD bC (aD bC (aD bC (aD bC aE)))))))) (aL QB hr (bY 0 (aD aG aE)))))
   (aI (aZ 4 nd bC)
   (aI (dS (m:=6) g4 rfl (iY rfl B.range (aD (aL QB hr (bY 0 (aD (bS dH (aC 1) aG) aE))) aE)) (dB 5 (by decide) nd rfl (.inl rfl))
    (aJ (aZ 4 nd (bS dH (aC 4) (aU hr (aC 3) (aL QB hr (bY 0 (aD (bI cE rfl B.len dg (aD (aC 3) aE)) aE))))))))
   (aJ (aR (aC 4)))))))) (λas R q=>?_)
 obtain⟨m,rfl,m0,m1,q⟩:=q;refine⟨rfl,rfl,?_⟩;refine⟨by decide,rfl,6,rfl,by decide,cL (by decide) (by decide),λr r0 r6=>?_⟩;obtain⟨z,hz,hzm⟩:=kO (l:=[sT gc,sT gc,sT "0123456789",sT "abc",sT "XYZ",sT "a1"]) r0 r6;refine⟨z,hz,?_⟩;have hzs:∃y,z=sT y/\Sg y/\0<y.length/\y.length<=100:=by
  simp only[qh_,da,or_false]at hzm;rcases hzm with e|e|e|e|e|e<;>subst e
  ·exact⟨_,rfl,λ_ h=>h,by decide +kernel,by decide +kernel⟩
  ·exact⟨_,rfl,λ_ h=>h,by decide +kernel,by decide +kernel⟩
  ·exact⟨_,rfl,by decide +kernel,by decide +kernel,by decide +kernel⟩
  ·exact⟨_,rfl,by decide +kernel,by decide +kernel,by decide +kernel⟩
  ·exact⟨_,rfl,by decide +kernel,by decide +kernel,by decide +kernel⟩
  ·exact⟨_,rfl,by decide +kernel,by decide +kernel,by decide +kernel⟩
 clear hz hzm;obtain⟨y,rfl,y1,y2,y3⟩:=hzs;refine⟨rfl,m+1,rfl,by omega,cL (by omega) (by omega),λn n0 n1=>⟨n,rfl,by omega,by omega,?_⟩⟩;refine kB (λi ρ=>∃(x:Str) (s:Sl),Sg x/\x.length=i/\ρ=[.dk,.va (iT m),.va (sT gc),.va (sT y),.va (sT x),s]) ⟨⟨#[]⟩,.no,Kj,rfl,rfl⟩ ?_ ?_
 ·rintro i T _ N hT ⟨x,s,sx,lx,rfl⟩ hN;have hi:=(oI hT).1;refine⟨rfl,by omega,?_⟩;refine⟨y.length,rfl,by omega,cL (by omega) (by omega),λk k0 k1=>⟨by omega,?_⟩⟩;obtain⟨c,hc,hcm⟩:=G6 (z:=y) k0 k1;refine⟨c,hc,by show x.length+1<=100000;omega,hN _ ⟨x++⟨#[c]⟩,_,sx.app (y1.one hcm),?_,rfl⟩⟩;rw[WordM.len,WordM.app,b7,<-WordM.len,lx];rfl
 ·rintro _ ⟨x,s,sx,lx,rfl⟩;refine q x sx ?_;rw[lx,iF];omega
def Kk(a:Int):Sg ⟨#[fT a]⟩:=λcc hc=>by
 have e:cc=fT a:=by simpa using hc
 rw[e];exact Oz _
def An(m:Int)(ss:List Str):Prop:=ss.Nodup/\∀s∈ss,Sg s/\(s.length:Int)<=(if m<1 then 1 else m)
def wD:bt:=λas R=>∃n m:Int,as=[.dk,.va (iT n),.va (iT m)]/\0<=n/\n<=63/\0<=m/\m<=1000/\∀ss:List Str,(ss.length:Int)=n->An m ss->R (.seq false (ss.map sT))
def wj:bF ["_law_deck_here","_law_many","_law_most","_law_signs_here","_law_found","_law_k","_law_text_here","_law_at"] Qj (aN yZ):=bz (by decide +kernel)
theorem EY(h:ao K mg "_law_unlike" yZ)(B:Own mg)(QS:ae P w K mg base 1 "_law_signs" [] rX)(QT:ae P w K mg base 3 "_law_text" PY sK)   : ae P w K mg base 4 "_law_unlike" Qj wD:=by
 have nd:=wj.nd;refine h.pgood wj (fun|_,_,_,_,_,_,[_,_,_],_=>rfl) (λf Qy A outer s H E F hr=>
   (aI (aZ 3 nd (AE QS (hr.mono (by omega)) rfl))
   (aI (fV 4 nd (cD aE))
   (aI (dS (m:=8) g4 rfl (iY rfl B.range (aD (aC 1) aE)) (dB 5 (by decide) nd rfl (.inl rfl))
    (aI (aZ 6 nd (aL QT hr (bY 0 (aD (aC 2) aE))))
    (aI (aZ 7 nd (sH PySem.F.slot_str_find PySem.F.type_str_find K6 (aC 3) (aD (jB jO (aC 6) jE (jD aG)) aE)))
    (aI (oG g4 (Bv λF=>(dM (nD hr.units) (aC 6) (aC 4) rfl))
     (aI (aZ 7 nd (bS yC (bS dH (aC 7) aG) (bI cE rfl B.len dg (aD (aC 3) aE))))
     (aJ (aZ 6 nd (bS dH (aU hr (aC 3) (aC 7)) (jB jO (aC 6) (jD aG) jE))))))
    (aJ (eF (fF 4 (aC 6))))))))
   (aJ (aR (aC 4))))))) (λas R q=>?_)
 obtain⟨n,m,rfl,n0,n63,m0,m1,q⟩:=q;have hsl:gc.length=94:=xB;refine⟨rfl,rfl,by decide,n,rfl,by omega,by omega,?_⟩;refine kB (λi ρ=>∃(ss:List Str) (s5 s6 s7:Sl),ss.length=i/\An m ss/\ρ=[.dk,.va (iT n),.va (iT m),.va (sT gc),.own (ss.map sT),s5,s6,s7]) ⟨[],.no,.no,.no,rfl,⟨j6,λs hs=>nomatch hs⟩,rfl⟩ ?_ ?_
 ·rintro i T _ N hT ⟨ss,s5,s6,s7,hlen,htx,rfl⟩ hN;obtain⟨hi,rfl⟩:=oI hT;refine⟨rfl,m,rfl,m0,m1,λx0 sx0 hx0=>?_⟩;refine⟨rfl,1,rfl,by omega,gc,_,rfl,rfl,λa0=>?_⟩
  let r:Str:=Txt.slice x0 (some 1) none
  have hr1:r.length+1<=(if x0.length<1 then 1 else x0.length):=NN x0;have sr:Sg r:=sx0.slice _ _;refine⟨λM ρ=>∃(j:Nat) (x:Str),M+j=ss.length+2/\j<=ss.length+1/\(∀i,1<=i->i<j->fW a0 r i∈ss)/\(j=0/\x=x0\/1<=j/\x=fW a0 r j) /\
    ρ=[.dk,.va (iT n),.va (iT m),.va (sT gc),.own (ss.map sT),.va (iT (0+(i:Int))),.va (sT x),.va (iT (if j=0 then a0 else(a0+j) % 94))],
   ⟨ss.length+2,0,x0,rfl,dq _,λi h1 h2=>absurd h2 (qp _),.inl ⟨rfl,rfl⟩,rfl⟩,?_⟩
  rintro M _ ⟨j,x,hM,hj,htr,hx,rfl⟩;have hxl:Sg x/\(x.length:Int)<=(if m<1 then 1 else m)/\Txt.slice x (some 1) none=r:=by
   rcases hx with⟨_,rfl⟩|⟨_,rfl⟩
   ·refine⟨sx0,?_,rfl⟩;split<;>omega
   ·refine⟨Sg.app (Kk _) sr,?_,NO⟩;have:(fW a0 r j).length=r.length+1:=by
     unfold fW;rw[WordM.len,WordM.app,WordM.len,b7];simp;omega
    rw[this];split at hr1<;>split<;>omega
  obtain⟨sx,hxm,hxr⟩:=hxl;have hx1000:x.length<=1000:=by split at hxm<;>omega
  refine⟨L6,_,rfl,?_⟩;rw[Jp];refine i3 (λh1=>?_) (λh1=>?_)
  ·have h1:x∈ss:=by simpa using h1
   have hall:∀i,1<=i->i<=j->fW a0 r i∈ss:=λi i1 i2=>by
    rcases n9 i2 with z|z
    ·exact htr i i1 z
    ·rcases hx with⟨z0,_⟩|⟨_,e⟩
     ·omega
     ·rw[z,<-e];exact h1
   have hjs:j<=ss.length:=LU (by omega) hall;have hmod:((if j=0 then a0 else(a0+(j:Int)) % 94)+1) % 94=(a0+((j+1:Nat):Int)) % 94:=by
    split
    ·rename_i z;subst z;congr 1
    ·push_cast;omega
   have hsl':((gc.length:Nat):Int)=94:=by rw[hsl];rfl
   have e1:((if j=0 then a0 else(a0+(j:Int)) % 94)+1) % ((gc.length:Nat):Int)=(a0+((j+1:Nat):Int)) % 94:=by rw[hsl',hmod]
   have hat:gh gc.cps.toList (((if j=0 then a0 else(a0+(j:Int)) % 94)+1) % ((gc.length:Nat):Int))=some (fT (a0+((j+1:Nat):Int))):=by
    rw[e1];have b1:=jr (a0+((j+1:Nat):Int)) (show(0:Int)<94 by decide);have b2:=jq (a0+((j+1:Nat):Int)) (show(94:Int)≠0 by decide);have hlt:((a0+((j+1:Nat):Int)) % 94).toNat<(cs gc).length:=by rw[<-WordM.len];omega
    have:=bK (xs:=cs gc) (j:=((a0+((j+1:Nat):Int)) % 94).toNat) (b6 hlt);rw[show((((a0+((j+1:Nat):Int)) % 94).toNat:Nat):Int)=(a0+((j+1:Nat):Int)) % 94 by omega]at this;rw[this];unfold fT;rw[kg,b6 hlt];rfl
   refine⟨by omega,by omega,by omega,_,hat,1,rfl,by omega,?_,?_⟩
   ·show 1+(Txt.slice x (some 1) none).length<=100000;rw[hxr];split at hr1<;>omega
   ·refine⟨ss.length+2-(j+1),by omega,j+1,fW a0 r (j+1),by omega,by omega,λi i1 i2=>hall i i1 (by omega),.inr ⟨by omega,rfl⟩,?_⟩;show [Sl.dk,.va (iT n),.va (iT m),.va (sT gc),.own (ss.map sT),.va (iT (0+(i:Int))),.va (sT ((⟨#[fT (a0+((j+1:Nat):Int))]⟩:Str)++Txt.slice x (some 1) none)),.va (iT (((if j=0 then a0 else(a0+(j:Int)) % 94)+1) % ((gc.length:Nat):Int)))]=_;rw[e1,if_neg (by omega),hxr];rfl
  ·have h1:x∉ss:=by simpa using h1
   refine⟨⟨_,rfl⟩,_,rfl,by rw[ak];omega,hN _ ⟨ss++[x],.va (iT (0+(i:Int))),.va (sT x),.va (iT (if j=0 then a0 else(a0+j) % 94)),by rw[b7,hlen];rfl,⟨?_,λs hs=>?_⟩,?_⟩⟩
   ·rw[mr];exact⟨htx.1,by simp,λa ha b hb=>by rw[qB_]at hb;subst hb;rintro rfl;exact h1 ha⟩
   ·rcases qp_.mp hs with z|z
    ·exact htx.2 s z
    ·rw[qB_]at z;subst z;exact⟨sx,hxm⟩
   ·rw[ia];rfl
 ·rintro _ ⟨ss,s5,s6,s7,hlen,htx,rfl⟩;rw[iF]at hlen;exact q ss (by omega) htx
def tH:bt:=λas R=>as=[.dk]/\∀r:Int,-(10 ^ 60)<r->r<10 ^ 60->R (iT r)
def wg:bF ["_law_deck_here","_law_number_here","_law_k"] P6 (aN yY):=bz (by decide +kernel)
def EZ(h:ao K mg "_law_far" yY)(B:Own mg)(QB:ae P w K mg base 2 "_law_take" PY gF)   : ae P w K mg base 3 "_law_far" P6 tH:=by
 have nd:=wg.nd;refine h.pgood wg (fun|_,_,_,_,_,_,[_],_=>rfl) (λf Qy A outer s H E F hr=>
   (aI (aZ 1 nd aG)
   (aI (dS (m:=3) g4 rfl (iY rfl B.range (aD aG aE)) (dB 2 (by decide) nd rfl (.inl rfl))
    (aJ (aZ 1 nd (bS dH (bS rW (aC 1) (bS oZ aG aG)) (aL QB hr (bY 0 (aD (bS oZ aG aG) aE)))))))
   (aJ (aR (bS dH (bS jJ (bS yC (aC 1) (bS jJ (bS rW aG (bS oZ aG aG)) aG)) (bS oZ aG aG)) aG)))))) (λas R q=>?_)
 obtain⟨rfl,q⟩:=q;refine⟨rfl,8,rfl,by decide,by decide,?_⟩;refine kB (λi ρ=>∃(x:Int) (s:Sl),0<=x/\x<10 ^ (8*i)/\ρ=[.dk,.va (iT x),s]) ⟨0,.no,by decide,by decide,rfl⟩ ?_ ?_
 ·rintro i T _ N hT ⟨x,s,x0,x1,rfl⟩ hN;obtain⟨hi,rfl⟩:=oI hT;have hi:i<8:=hi;have xb:x<10 ^ 64:=Int.lt_of_lt_of_le x1 (by
   have:i=0\/i=1\/i=2\/i=3\/i=4\/i=5\/i=6\/i=7:=by omega
   rcases this with e|e|e|e|e|e|e|e<;>subst e<;>decide)
  refine⟨⟨by decide,by decide,by decide⟩,.inr ⟨cL (by omega) (by omega),cL (by decide) (by decide)⟩,rfl,⟨by decide,by decide,by decide⟩,10 ^ 8,rfl,by decide,cL (by decide) (by decide),λr r0 r1=>hN _ ⟨_,_,?_,?_,rfl⟩⟩
  ·show 0<=x*(10 ^ 8:Int)+r;omega
  ·show x*(10 ^ 8:Int)+r<10 ^ (8*(i+1));have e:(10:Int) ^ (8*(i+1))=10 ^ (8*i)*10 ^ 8:=by rw[Nat.mul_add,Int.pow_add]
   rw[e];have h8:r<(10:Int) ^ 8:=r1;generalize (10:Int) ^ (8*i)=y at x1;omega
 ·rintro _ ⟨x,s,x0,x1,rfl⟩;refine⟨⟨by decide,by decide,by decide⟩,.inl (.inl ⟨by decide,by decide⟩),(show(0:Int)<2*10 ^ 60-1 by decide),⟨by decide,by decide,by decide⟩,?_⟩;have h1:=jq x (show(2*10 ^ 60-1:Int)≠0 by decide);have h2:=jr x (show(0:Int)<2*10 ^ 60-1 by decide);refine q _ ?_ ?_
  ·show -(10 ^ 60)<x % (2*10 ^ 60-1)-10 ^ 60+1;omega
  ·show x % (2*10 ^ 60-1)-10 ^ 60+1<10 ^ 60;omega
structure gX (nm tx:List Str) (st sp:Int):Prop where
 n11:nm.length=11
 t9:tx.length=9
 nd:nm.Nodup
 ndt:tx.Nodup
 ns:∀s∈nm,Sg s/\s.length<=40
 ts:∀s∈tx,Sg s/\s.length<=43
 st1:-(10 ^ 57)<=st
 st2:st<=10 ^ 57
 sp1:1<=sp
 sp2:sp<=10 ^ 20
def eW(nm tx:List Str)(st sp:Int):Tv:=.seq false [.seq false (nm.map sT),.seq false (tx.map sT),iT st,iT sp]
def xF:bt:=λas R=>as=[.dk]/\∀nm tx st sp,gX nm tx st sp->R (eW nm tx st sp)
def Jq{a b c:Str}(h:a++b=a++c):b=c:=by
 have:=congrArg cs h;rw[WordM.app,WordM.app]at this;exact kX (List.append_cancel_left this)
def we:bF Qs P6 (aN tW):=bz (by decide +kernel)
def E3(h:ao K mg "_law_world" tW)(B:Own mg)(QB:ae P w K mg base 2 "_law_take" PY gF)(Q2:ae P w K mg base 4 "_law_unlike" Qj wD)(QT:ae P w K mg base 3 "_law_text" PY sK)(QU:ae P w K mg base 3 "_law_far" P6 tH)   : ae P w K mg base 5 "_law_world" P6 xF:=by
 have nd:=we.nd;refine h.pgood we (fun|_,_,_,_,_,_,[_],_=>rfl) (λf Qy A outer s H E F hr=>
   (aI (aZ 1 nd (aU hr (bG (cD (aD aG (aD aG (aD aG (aD aG (aD aG (aD aG (aD aG (aD aG aE)))))))))) (aL QB hr (bY 0 (aD aG aE)))))
   (aI (aZ 2 nd (aL Q2 hr (bY 0 (aD aG (aD (aC 1) aE)))))
   (aI (aZ 3 nd (aL QT hr (bY 0 (aD (bS rW aG (aL QB hr (bY 0 (aD aG aE)))) aE))))
   (aI (fS (sc:=aN tW) (XN:=Qs) (N:=Qo) (fr:=[3]) 4 nd (bU (aL Q2 hr (bY 0 (aD aG (aD (aC 1) aE))))) (λ_ _ _ _ _=>gY) (λ_ _ _ _ _=>(bS dH (aC 1) (aC 0))))
   (aI (aZ 5 nd (aU hr (bG (cD (aD aG (aD aG (aD (yI yB aG) (aD (bS Cb (aL QU hr (bY 0 aE)) aG) aE)))))) (aL QB hr (bY 0 (aD aG aE)))))
   (aJ (aR (bG (cD (aD (aC 2) (aD (aC 4) (aD (aC 5) (aD (bS dH aG (aL QB hr (bY 0 (aD (aU hr (bG (cD (aD aG (aD (bS oZ aG aG) aE)))) (aL QB hr (bY 0 (aD aG aE)))) aE)))) aE)))))))))))))) (λas R q=>?_)
 obtain⟨rfl,q⟩:=q;refine⟨rfl,by decide,rfl,8,rfl,by decide,cL (by decide) (by decide),λr r0 r1=>?_⟩;obtain⟨M,hM,hMm⟩:=kO (l:=[iT 4,iT 3,iT 5,iT 1,iT 4,iT 3,iT 6,iT 40]) r0 r1;have hm:∃m:Int,M=iT m/\1<=m/\m<=40:=by
  simp only[qh_,da,or_false]at hMm;rcases hMm with e|e|e|e|e|e|e|e<;>subst e<;>exact⟨_,rfl,by decide,by decide⟩
 obtain⟨m,rfl,m1,m2⟩:=hm;refine⟨_,hM,?_⟩;clear hM hMm;refine⟨rfl,11,m,rfl,by decide,by decide,by omega,by omega,λnm hnm tnm=>?_⟩;refine⟨rfl,rfl,2,rfl,by decide,cL (by decide) (by decide),λr2 a0 a1=>⟨.inl (.inl ⟨by decide,by decide⟩),_,rfl,by omega,by omega,λhd shd lhd=>?_⟩⟩;refine⟨rfl,9,m,rfl,by decide,by decide,by omega,by omega,λtx htx ttx=>⟨by rw[ak];omega,?_⟩⟩;have lt:∀s∈tx,Sg s/\s.length<=40:=λs hs=>by
  have:=ttx.2 s hs;refine⟨this.1,?_⟩;have:=this.2;split at this<;>omega
 refine dY sT (λs=>sT (hd++s)) (λs hs R q=>?_) ?_
 ·have:=(lt s hs).2;exact⟨show hd.length+s.length<=100000 by omega,q⟩
 refine⟨rfl,rfl,λfr fr0 fr1=>⟨⟨by decide,cL (by decide) (by decide)⟩,(show 4<=100000 by decide),rfl,4,rfl,by decide,cL (by decide) (by decide),λr3 b0 b1=>?_⟩⟩;obtain⟨S,hS,hSm⟩:=kO (l:=[iT 0,iT 7,iT (-40),iT (fr / 1000)]) b0 b1;have hs:∃st:Int,S=iT st /\ -(10 ^ 57)<=st/\st<=10 ^ 57:=by
  simp only[qh_,da,or_false]at hSm;rcases hSm with e|e|e|e<;>subst e
  ·exact⟨_,rfl,by decide,by decide⟩
  ·exact⟨_,rfl,by decide,by decide⟩
  ·exact⟨_,rfl,by decide,by decide⟩
  ·exact⟨_,rfl,by omega,by omega⟩
 obtain⟨st,rfl,st1,st2⟩:=hs;refine⟨_,hS,?_⟩;clear hS hSm;refine⟨rfl,⟨by decide,by decide,by decide⟩,by decide,rfl,2,rfl,by decide,cL (by decide) (by decide),λr4 c0 c1=>?_⟩;obtain⟨W,hW,hWm⟩:=kO (l:=[iT 6,iT (10 ^ 20)]) c0 c1;have hw:∃wi:Int,W=iT wi/\1<=wi/\wi<=10 ^ 20:=by
  simp only[qh_,da,or_false]at hWm;rcases hWm with e|e<;>subst e<;>exact⟨_,rfl,by decide,by decide⟩
 obtain⟨wi,rfl,w1,w2⟩:=hw;refine⟨_,hW,wi,rfl,by omega,cL (by omega) (by omega),λsp sp0 sp1=>⟨(show 4<=100000 by decide),?_⟩⟩;have:=q nm (tx.map λs=>hd++s) st (1+sp) ⟨by omega,by rw[ak];omega,tnm.1,?_,λs hs=>?_,λs hs=>?_,st1,st2,by omega,by omega⟩
 ·show R (.seq false [.seq false (nm.map sT),.seq false (tx.map λs=>sT (hd++s)),iT st,iT (1+sp)]);rw[eW,fg]at this;exact this
 ·unfold List.Nodup;rw[qe2_];exact ttx.1.imp λh e=>h (Jq e)
 ·have:=tnm.2 s hs;refine⟨this.1,?_⟩;have:=this.2;split at this<;>omega
 ·obtain⟨z,hz,rfl⟩:=qf_.mp hs;refine⟨shd.app (lt z hz).1,?_⟩;rw[WordM.len,WordM.app,b7,<-WordM.len,<-WordM.len];have:=(lt z hz).2;omega
def yi(n:Int):Prop:=-(10 ^ 60)<n/\n<10 ^ 60
def wF:bt:=λas R=>∃nm tx st sp,as=[.dk,.va (eW nm tx st sp)]/\gX nm tx st sp/\∀n:Int,yi n->R (iT n)
def IF{a b:Int}(h1:1<=a)(h2:a<=10 ^ 20)(h3:-100<=b)(h4:b<=100):-(10 ^ 22)<=a*b/\a*b<=10 ^ 22:=by
 have e1:a*b<=a*100:=u5 h4 (by omega);have e2:a*(-100)<=a*b:=u5 h3 (by omega);omega
def wc:bF Qt P4 (aN yX):=bz (by decide +kernel)
def E4(h:ao K mg "_law_number" yX)(B:Own mg)(QB:ae P w K mg base 2 "_law_take" PY gF)(QU:ae P w K mg base 3 "_law_far" P6 tH)   : ae P w K mg base 4 "_law_number" P4 wF:=by
 have nd:=wc.nd;refine h.pgood wc (fun|_,_,_,_,_,_,[_,_],_=>rfl) (λf Qy A outer s H E F hr=>
   (aI (aZ 2 nd (aL QB hr (bY 0 (aD aG aE))))
   (aI (bD (cF hr (aC 2) aG)
    (aJ (aR (bS jJ (aL QB hr (bY 0 (aD aG aE))) aG)))
    bB)
   (aI (bD (cF hr (aC 2) aG)
    (aJ (aR (aL QU hr (bY 0 aE))))
    bB)
   (aJ (aR (bS dH (aU hr (aC 1) aG) (bS rW (aU hr (aC 1) aG) (bS jJ (aL QB hr (bY 0 (aD aG aE))) aG))))))))) (λas R q=>?_)
 obtain⟨nm,tx,st,sp,rfl,hw,q⟩:=q;obtain⟨_,_,_,_,_,_,st1,st2,sp1,sp2⟩:=hw;refine⟨rfl,rfl,6,rfl,by decide,cL (by decide) (by decide),λr r0 r1=>?_⟩;refine⟨_,rfl,i3 (λ_=>⟨rfl,9,rfl,by decide,cL (by decide) (by decide),λk k0 k1=>q _ ⟨by omega,by omega⟩⟩) (λ_=>?_)⟩;refine⟨_,rfl,i3 (λ_=>⟨rfl,rfl,λk k0 k1=>q _ ⟨k0,k1⟩⟩) (λ_=>?_)⟩;refine⟨_,rfl,_,rfl,rfl,12,rfl,by decide,cL (by decide) (by decide),λk k0 k1=>⟨.inr ⟨cL (by omega) (by omega),cL (by omega) (by omega)⟩,q _ ?_⟩⟩;have:=IF (b:=k-4) sp1 sp2 (by omega) (by omega);exact⟨by show _<st+sp*(k-4);omega,by show st+sp*(k-4)<_;omega⟩
def yR(tx:List Str):Tv->Prop
 |.leaf .non=>True
 |.leaf (.bl _)=>True
 |.leaf (.int n)=>yi n
 |.leaf (.str s)=>s∈tx
 |_=>False
def pC:bt:=λas R=>∃nm tx st sp,as=[.dk,.va (eW nm tx st sp)]/\gX nm tx st sp/\∀T,yR tx T->R T
def wb:bF Qt P4 (aN yW):=bz (by decide +kernel)
def E5(h:ao K mg "_law_leaf" yW)(B:Own mg)(QB:ae P w K mg base 2 "_law_take" PY gF)(Q9:ae P w K mg base 4 "_law_number" P4 wF)   : ae P w K mg base 5 "_law_leaf" P4 pC:=by
 have nd:=wb.nd;refine h.pgood wb (fun|_,_,_,_,_,_,[_,_],_=>rfl) (λf Qy A outer s H E F hr=>
   (aI (aZ 2 nd (aL QB hr (bY 0 (aD aG aE))))
   (aI (bD (cF hr (aC 2) aG)
    (aJ (aR jG))
    bB)
   (aI (bD (cF hr (aC 2) aG)
    (aJ (aR (hJ (lI hr.units).op (aL QB hr (bY 0 (aD aG aE))) aG)))
    bB)
   (aI (bD (dM lH (aC 2) aG)
    (aJ (aR (aL Q9 hr (bY 0 (aD (aC 1) aE)))))
    bB)
   (aJ (aR (aU hr (aU hr (aC 1) aG) (aL QB hr (bY 0 (aD (bI cE rfl B.len dg (aD (aU hr (aC 1) aG) aE)) aE))))))))))) (λas R q=>?_)
 obtain⟨nm,tx,st,sp,rfl,hw,q⟩:=q;refine⟨rfl,rfl,8,rfl,by decide,cL (by decide) (by decide),λr r0 r1=>?_⟩;refine⟨_,rfl,i3 (λ_=>q nT trivial) (λ_=>?_)⟩;refine⟨_,rfl,i3 (λ_=>⟨rfl,2,rfl,by decide,cL (by decide) (by decide),λk k0 k1=>q (bT _) trivial⟩) (λ_=>?_)⟩;refine⟨_,rfl,i3 (λ_=>⟨rfl,nm,tx,st,sp,rfl,hw,λn hn=>q (iT n) hn⟩) (λ_=>?_)⟩;refine⟨_,rfl,rfl,_,rfl,(tx.map sT).length,rfl,?_,?_,λk k0 k1=>?_⟩
 ·rw[ak,hw.t9];decide
 ·rw[ak,hw.t9];exact cL (by decide) (by decide)
 ·obtain⟨U,hU,hm⟩:=kO (l:=tx.map sT) k0 k1;obtain⟨s,hs,rfl⟩:=qf_.mp hm;exact⟨_,hU,q (sT s) hs⟩
def Fp:Tv->Prop
 |.leaf v=>dO v=true
 |.seq false _=>True
 |.dct _=>True
 |_=>False
def sL:bt:=λas R=>∃T,as=[.va T]/\Fp T/\R (sT (dA (dN T)))
def EO:bF PV PV (aN yy):=bz (by decide +kernel)
def PR(h:ao K mg "kind_of" yy)(B:Own mg)    : ae P w K mg base 1 "kind_of" PV sL:=by
 have nd:=EO.nd;refine h.pgood EO (fun|_,_,_,_,_,_,[_],_=>rfl) (λf Qy A outer s H E F hr=>
   (aI (bD (dM nC (aC 0) jG)
    (aJ (aR bC))
    bB)
   (aI (bD (cR (cH "bool" jX rfl B.isinstance (aC 0) (cG (v:=.ty "bool") rfl B.bool_ boot_bool rfl)))
    (aJ (aR bC))
    bB)
   (aI (bD (cR (cH "int" kR rfl B.isinstance (aC 0) (cG (v:=.ty "int") rfl B.int_ boot_int rfl)))
    (aJ (aR bC))
    bB)
   (aI (bD (cR (cH "str" mC rfl B.isinstance (aC 0) (cG (v:=.ty "str") rfl B.str_ boot_str rfl)))
    (aJ (aR bC))
    bB)
   (aI (bD (cR (cH "list" nX rfl B.isinstance (aC 0) (cG (v:=.ty "list") rfl B.list_ boot_list rfl)))
    (aJ (aR bC))
    bB)
   (aJ (aR bC)))))))) (λas R q=>?_)
 obtain⟨T,rfl,hT,q⟩:=q;refine⟨rfl,?_⟩;cases T with
 |leaf v=>
  rcases kS hT with rfl|⟨b,rfl⟩|⟨b,rfl⟩|⟨b,rfl⟩
  ·exact⟨_,rfl,bZ q⟩
  ·exact⟨_,rfl,aQ ⟨_,rfl,bZ q⟩⟩
  ·exact⟨_,rfl,aQ ⟨_,rfl,aQ ⟨_,rfl,bZ q⟩⟩⟩
  ·exact⟨_,rfl,aQ ⟨_,rfl,aQ ⟨_,rfl,aQ ⟨_,rfl,bZ q⟩⟩⟩⟩
 |seq t xs=>
  cases t with
  |false=>exact⟨_,rfl,aQ ⟨_,rfl,aQ ⟨_,rfl,aQ ⟨_,rfl,aQ ⟨_,rfl,bZ q⟩⟩⟩⟩⟩
  |true=>exact False.elim hT
 |dct kts=>exact⟨_,rfl,aQ ⟨_,rfl,aQ ⟨_,rfl,aQ ⟨_,rfl,aQ ⟨_,rfl,aQ q⟩⟩⟩⟩⟩
def vK:bt:=λas R=>∃x m:Str,as=[.va (sT x),.va (sT m)]/\m∈MK/\x.length<=1000/\R (bT (jT x m))
def EJ:bF Qb Qb (aN x8):=bz (by decide +kernel)
def PL(h:ao K mg "has_mark" x8)(B:Own mg)(GSIGNS:pO K w.params mg "SIGNS" vh)  : ae P w K mg base 1 "has_mark" Qb vK:=by
 have nd:=EJ.nd;refine h.pgood EJ (fun|_,_,_,_,_,_,[_,_],_=>rfl) (λf Qy A outer s H E F hr=>
   (aJ (aR (bI (Ij rfl) rfl B.any boot_any (aD (bG (fH (sc:=aN x8) (XN:=Qb) (N:=["sign","mark"]) (fr:=[1]) (bU (aC 0)) (λ_ _ _ _ _=>(hJ (nD hr.units).op (aC 0) (AZ GSIGNS rfl (aC 1)) rfl)))) aE))))) (λas R q=>?_)
 obtain⟨x,m,rfl,hm,hx,q⟩:=q;obtain⟨S,hS⟩:∃S,getS vh m=some S:=by
  simp only[MK,qh_,da,or_false]at hm;rcases hm with e|e|e|e<;>subst e<;>exact⟨_,rfl⟩
 refine⟨rfl,by rw[ak,<-WordM.len];omega,?_⟩;refine dY (λc=>sT ⟨#[c]⟩) (λc=>bT (decide (c∈cs S))) (λc hc R q=>⟨m,S,rfl,hS,?_⟩) ?_
 ·have e:(false != qr ⟨#[c]⟩ S)=decide (c∈cs S):=by
   unfold qr;rw[StrLaws.found_one];simp
  show R (some (bT (false != qr ⟨#[c]⟩ S))) _;rw[e];exact q
 ·refine⟨(cs x).map λc=>decide (c∈cs S),by rw[fg];rfl,?_⟩;have e:((cs x).map λc=>decide (c∈cs S)).any id=jT x m:=by
   rw[List.any_map,jT,hS];rfl
  rw[e];exact q
def qY:bt:=λas R=>∃x:Str,as=[.va (sT x)]/\x.length<=1000/\R (.seq true ((dI x).map sT))
def EI:bF ["text"] ["text"] (aN x6):=bz (by decide +kernel)
def PK(h:ao K mg "marks_of" x6)(B:Own mg)(RE:ae P w K mg base 1 "has_mark" Qb vK)(GMARKS:eP K mg "MARKS" (.seq true (MK.map sT)))  : ae P w K mg base 2 "marks_of" ["text"] qY:=by
 have nd:=EI.nd;refine h.pgood EI (fun|_,_,_,_,_,_,[_],_=>rfl) (λf Qy A outer s H E F hr=>
   (aJ (aR (fN fO rfl B.tuple_ boot_tuple (aD (bG (kI (sc:=aN x6) (XN:=["text"]) (N:=["mark","text"]) (fr:=[0]) (bU (pG GMARKS rfl)) (λ_ _ _ _ _=>(fP (cR (aL RE hr (aD (aC 1) (aD (aC 0) aE)))))) (λ_ _ _ _ _=>(aC 0)))) aE))))) (λas R q=>?_)
 obtain⟨x,rfl,hx,q⟩:=q;refine⟨rfl,by decide,?_⟩;refine iZ (l:=MK) sT (λm=>if jT x m=true then some (sT m) else none) (λm hm R q=>⟨x,m,rfl,hm,hx,_,rfl,i3 (λz=>?_) (λz=>?_)⟩) ?_
 ·rw[if_pos z]at q;exact q
 ·rw[if_neg (by rw[z];exact cn)]at q;exact q
 ·refine⟨false,_,rfl,?_⟩;have e:(MK.filterMap λm=>if jT x m=true then some (sT m) else none)=(dI x).map sT:=by
   unfold dI;generalize MK=l
   induction l with
   |nil=>rfl
   |cons a l ih=>
    rw[ie,List.filter_cons,ih];cases jT x a<;>simp
  rw[e];exact q
variable{n:Nat}
def yh:List (Str×Str):=[("nothing","nothing"),("truths","truth"),("numbers","number"),("texts","text"),("lists","list"),("record","dict"),("table","dict")]
def b5{α:Type}{x:α}{r:List α}:gh (x::r) 0=some x:=bK (j:=0) rfl
def BN(p:Pt):∃r,aT p=.seq true (sT (kH p)::r)/\r.length<=4:=by
 cases p with
 |record a b fs=>exact⟨_,eR a b fs,by simp⟩
 |lists a b f=>exact⟨_,iX a b f,by simp⟩
 |table a b w f=>exact⟨_,fY a b w f,by simp⟩
 |_=>rw[aT];exact⟨_,rfl,by simp⟩
def IB(p:Pt):getS yh (kH p)=some (dA (fU p)):=by
 cases p<;>rfl
def vB:bt:=λas R=>∃p:Pt,as=[.va (aT p)]/\R (sT (dA (fU p)))
def xk:bF PX PX (aN zJ):=bz (by decide +kernel)
def Fz(h:ao K mg "part_kind" zJ)(B:Own mg)(GPART_KINDS:pO K w.params mg "PART_KINDS" yh)  : ae P w K mg base 1 "part_kind" PX vB:=by
 have nd:=xk.nd;refine h.pgood xk (fun|_,_,_,_,_,_,[_],_=>rfl) (λf Qy A outer s H E F hr=>
   (aJ (aR (AZ GPART_KINDS rfl (aU hr (aC 0) aG))))) (λas R q=>?_)
 obtain⟨p,rfl,q⟩:=q;obtain⟨r,e,_⟩:=BN p;rw[e];exact⟨rfl,_,b5,_,_,rfl,IB p,q⟩
def MF{a b:Nat}(ha:a<=5)(hb:b<=5)(h:dA a=dA b):a=b:=by
 have h1:a=0\/a=1\/a=2\/a=3\/a=4\/a=5:=by omega
 have h2:b=0\/b=1\/b=2\/b=3\/b=4\/b=5:=by omega
 rcases h1 with e|e|e|e|e|e<;>subst e<;>rcases h2 with e|e|e|e|e|e<;>subst e<;>first|rfl|exact absurd h (by decide +kernel)
def L_(p:Pt):fU p<=5:=by cases p<;>simp[fU]
def zW:Option Pt->Tv
 |none=>nT
 |some p=>aT p
def oD:bt:=λas R=>∃(f:List Pt) (k:Nat),as=[.va (bM f),.va (sT (dA k))]/\k<=5/\R (zW (f.find? λp=>decide (fU p=k)))
def xj:bF ["form","kind","part"] Qc (aN zI):=bz (by decide +kernel)
def FA(h:ao K mg "part_for" zI)(B:Own mg)(Q5:ae P w K mg base 1 "part_kind" PX vB)   : ae P w K mg base 2 "part_for" Qc oD:=by
 have nd:=xj.nd;refine h.pgood xj (fun|_,_,_,_,_,_,[_,_],_=>rfl) (λf Qy A outer s H E F hr=>
   (aI (dS (m:=3) g4 rfl (bU (aC 0)) (dB 2 (by decide) nd rfl (.inl rfl))
    (aJ (bD (cF hr (aL Q5 hr (aD (aC 2) aE)) (aC 1))
     (aJ (aR (aC 2)))
     bB)))
   (aJ (aR jG)))) (λas R q=>?_)
 obtain⟨f,k,rfl,hk,q⟩:=q;refine⟨rfl,?_⟩;refine gC aT (l:=f) (λi ρ=>(∀j p,j<i->f[j]?=some p->fU p≠k)/\∃s,ρ=[.va (bM f),.va (sT (dA k)),s]) ⟨λj p h=>absurd h (qp _),.no,rfl⟩ ?_ ?_
 ·rintro i p _ N hp ⟨hj,s,rfl⟩ hN;refine⟨p,rfl,_,rfl,tO (λe=>?_) (λe=>?_)⟩
  ·have e:=MF (L_ p) hk e;have:f.find? (λp=>decide (fU p=k))=some p:=by
    rw[List.find?_eq_some_iff_getElem];obtain⟨hi,rfl⟩:=qx_.mp hp;exact⟨jd e,i,hi,rfl,λj hj'=>by
     have:=hj j f[j] hj' (b6 (by omega));simpa using this⟩
   rw[this]at q;exact q
  ·refine hN _ ⟨λj p' hj' ep=>?_,_,rfl⟩;by_cases z:j=i
   ·subst z;rw[hp]at ep;cases ep;exact λz=>e (by rw[z])
   ·exact hj j p' (by omega) ep
 ·rintro _ ⟨hj,s,rfl⟩;have:f.find? (λp=>decide (fU p=k))=none:=by
   rw[qA3_];intro p hp;obtain⟨j,hj',rfl⟩:=qi2_.mp hp;simpa using hj j _ hj' (b6 hj')
  rw[this]at q;exact q
open GcdM CutM
def gg{N:aW->Prop}{ρ ρ':aW}(e:ρ=ρ')(h:N ρ'):N ρ:=e▸h
def pZ(a:R3):Tv:=.seq true [iT a.1,iT a.2.1,iT a.2.2]
def yO:bt:=λas R=>∃a b:Int,as=[.va (iT a),.va (iT b)]/\0<=a/\0<=b/\R (iT (g a b))
def EN:bF ["one","other","rest"] PU (aN yw):=bz (by decide +kernel)
def PQ(h:ao K mg "divisor_of" yw)(B:Own mg)    : ae P w K mg base 1 "divisor_of" PU yO:=by
 have nd:=EN.nd;refine h.pgood EN (fun|_,_,_,_,_,_,[_,_],_=>rfl) (λf Qy A outer s H E F hr=>
   (aI (oG g4 (dQ hr (aC 1) aG)
    (aI (aZ 2 nd (bS yC (aC 0) (aC 1)))
    (aI (aZ 0 nd (aC 1))
    (aJ (aZ 1 nd (aC 2))))))
   (aJ (aR (aC 0))))) (λas R q=>?_)
 obtain⟨a,b,rfl,a0,b0,q⟩:=q;refine⟨rfl,λm ρ=>∃(x y:Int) (s:Sl),m=y.toNat/\0<=x/\0<=y/\g x y=g a b/\ρ=[.va (iT x),.va (iT y),s],⟨_,a,b,.no,rfl,a0,b0,rfl,rfl⟩,?_⟩;rintro m _ ⟨x,y,s,rfl,x0,y0,e,rfl⟩;refine⟨_,rfl,i3 (λz=>?_) (λz=>?_)⟩
 ·have hy:y≠0:=by simpa[cz]using z
  have h1:=jq x hy;have h2:=jr x (show 0<y by omega);exact⟨(show 0<y by omega),_,by omega,y,x % y,_,rfl,y0,h1,(He (show 0<y by omega)).trans e,rfl⟩
 ·have hy:y=0:=by simpa[cz]using z
  subst hy;rw[Hf x x0]at e;rw[<-e]at q;exact q
def iS(lo hi st:Int):List Int:=[lo,hi,lo+st]
def vI:bt:=λas R=>∃lo hi st:Int,as=[.va (.seq true [iT lo,iT hi,iT st])]/\R (.seq false ((iS lo hi st).map iT))
def EL:bF ["run"] ["run"] (aN yu):=bz (by decide +kernel)
def PN(h:ao K mg "telling_numbers" yu)(B:Own mg)    : ae P w K mg base 1 "telling_numbers" ["run"] vI:=by
 have nd:=EL.nd;refine h.pgood EL (fun|_,_,_,_,_,_,[_],_=>rfl) (λf Qy A outer s H E F hr=>
   (aJ (aR (bG (cD (aD (aU hr (aC 0) aG) (aD (aU hr (aC 0) aG) (aD (bS dH (aU hr (aC 0) aG) (aU hr (aC 0) aG)) aE)))))))) (λas R q=>?_)
 obtain⟨lo,hi,st,rfl,q⟩:=q;exact⟨rfl,_,rfl,_,rfl,_,rfl,_,rfl,by simp,q⟩
def xG:bt:=λas R=>∃ns:List Int,as=[.va (.seq false (ns.map iT))]/\ns≠[]/\R (pZ (cM ns))
def EM:bF ["numbers","lo","step","number"] ["numbers"] (aN yv):=bz (by decide +kernel)
def PP(h:ao K mg "run_of" yv)(B:Own mg)(Rq:ae P w K mg base 1 "divisor_of" PU yO)   : ae P w K mg base 2 "run_of" ["numbers"] xG:=by
 have nd:=EM.nd;refine h.pgood EM (fun|_,_,_,_,_,_,[_],_=>rfl) (λf Qy A outer s H E F hr=>
   (aI (bD (cF hr (bI cE rfl B.len dg (aD (aC 0) aE)) aG)
    (aJ AH)
    bB)
   (aI (aZ 1 nd (bI (iM rfl) rfl B.min boot_min (aD (aC 0) aE)))
   (aI (aZ 2 nd aG)
   (aI (dS (m:=4) g4 rfl (bU (aC 0)) (dB 3 (by decide) nd rfl (.inl rfl))
    (aJ (aZ 2 nd (aL Rq hr (aD (bS jJ (aC 3) (aC 1)) (aD (aC 2) aE))))))
   (aJ (aR (cA (aD (aC 1) (aD (bI (gZ rfl) rfl B.max boot_max (aD (aC 0) aE)) (aD (aC 2) aE))))))))))) (λas R q=>?_)
 obtain⟨ns,rfl,ne,q⟩:=q;have l0:0<ns.length:=qY1_.mpr ne;refine⟨rfl,_,rfl,eZ (λz=>absurd z (by rw[ak];omega)) (λ_=>?_)⟩;refine .inr (.inl ⟨ns,rfl,l0,λlo lo1 lo2=>?_⟩);show az.nx _ _;refine gg (ρ':=[.va (.seq false (ns.map iT)),.va (iT lo),.no,.no]) rfl ?_;have el:lo=bJ ns:=(mP lo1 lo2).symm;refine gC iT (l:=ns) (λi ρ=>∃s3:Sl,ρ=[.va (.seq false (ns.map iT)),.va (iT lo),.va (iT ((ns.take i).foldl (λs n=>g (n-lo) s) 0)),s3]) ⟨.no,rfl⟩ ?_ ?_
 ·rintro i a _ N ha ⟨s3,rfl⟩ hN;have h1:=lo2 a (gq ha);refine⟨a-lo,_,rfl,by omega,qK (ku 0),hN _ ⟨.va (iT a),?_⟩⟩;rw[f7,ha,n_];rfl
 ·rintro _ ⟨s3,rfl⟩;rw[d_];refine .inr (.inl ⟨ns,rfl,l0,λhi hi1 hi2=>⟨by simp,?_⟩⟩);have eh:hi=bL ns:=(mQ hi1 hi2).symm;subst el eh;exact q
def pB:bt:=λas R=>∃a b:R3,as=[.va (pZ a),.va (pZ b)]/\Ok a/\Ok b/\R (pZ (joinR a b))
def EK:bF PU PU (aN yt):=bz (by decide +kernel)
def PM(h:ao K mg "run_joined" yt)(B:Own mg)(Rz:ae P w K mg base 2 "run_of" ["numbers"] xG)(Rn:ae P w K mg base 1 "telling_numbers" ["run"] vI)   : ae P w K mg base 3 "run_joined" PU pB:=by
 have nd:=EK.nd;refine h.pgood EK (fun|_,_,_,_,_,_,[_,_],_=>rfl) (λf Qy A outer s H E F hr=>
   (aJ (aR (aL Rz hr (aD (bS dH (aL Rn hr (aD (aC 0) aE)) (aL Rn hr (aD (aC 1) aE))) aE))))) (λas R q=>?_)
 obtain⟨a,b,rfl,ha,hb,q⟩:=q;refine⟨rfl,a.1,a.2.1,a.2.2,rfl,b.1,b.2.1,b.2.2,rfl,by simp[iS],iS a.1 a.2.1 a.2.2++iS b.1 b.2.1 b.2.2,by rw[ia],by simp[iS],?_⟩;have ne:iS a.1 a.2.1 a.2.2++iS b.1 b.2.1 b.2.2≠[]:=by simp[iS]
 obtain⟨m1,m2⟩:=gU ne;obtain⟨m3,m4⟩:=gV ne;have e:cM (iS a.1 a.2.1 a.2.2++iS b.1 b.2.1 b.2.2)=joinR a b:=MB ha hb m1 m2 m3 m4;rw[e];exact q
def sN{a b:Str}{A B:Prop}(h:a≠b)(k:B):if (false != cz (.str a) (.str b))=true then A else B:=tO (λz=>absurd z h) λ_=>k
def sY{a:Str}{A B:Prop}(k:A):if (false != cz (.str a) (.str a))=true then A else B:=tO (λ_=>k) λz=>absurd rfl z
def rD(lo hi st:Int):aT (.numbers lo hi st)=.seq true [sT "numbers",iT lo,iT hi,iT st]:=by rw[aT]
def qO(bs:List Bool):aT (.truths bs)=.seq true [sT "truths",.seq true (bs.map bT)]:=by rw[aT]
def qU(w:Wd):aT (.texts w)=.seq true [sT "texts",bR w]:=by rw[aT]
def uV:aT .nothing=.seq true [sT "nothing"]:=by rw[aT]
def uJ:bt:=λas R=>∃ms ms':List Str,as=[.va (.seq true (ms.map sT)),.va (.seq true (ms'.map sT))]/\ms.length<=4/\ms'.length<=4/\R (.seq true ((j3 ms ms').map sT))
def EH:bF PU PU (aN yr):=bz (by decide +kernel)
def PJ(h:ao K mg "marks_joined" yr)(B:Own mg)    : ae P w K mg base 1 "marks_joined" PU uJ:=by
 have nd:=EH.nd;refine h.pgood EH (fun|_,_,_,_,_,_,[_,_],_=>rfl) (λf Qy A outer s H E F hr=>
   (aJ (aR (fN fO rfl B.tuple_ boot_tuple (aD (bG (DV rfl rfl B.sorted rfl B.set_ (aC 0) (aC 1))) aE))))) (λas R q=>?_)
 obtain⟨ms,ms',rfl,l1,l2,q⟩:=q;exact⟨rfl,ms,.inl rfl,by omega,ms',.inl rfl,by omega,_,_,rfl,q⟩
def A9:∀(k:Nat) (x y:List Nat),x.take k=y.take k->k<=x.length->k<=y.length->(k=x.length\/k=y.length\/x[k]?≠y[k]?)->me x y=x.take k
 |0,[],y,_,_,_,_=>by cases y<;>rfl
 |0,a::x,[],_,_,_,_=>rfl
 |0,a::x,b::y,_,_,_,h=>by
  rcases h with h|h|h
  ·simp at h
  ·simp at h
  ·have:a≠b:=by simpa using h
   rw[me,if_neg this];rfl
 |k+1,[],y,_,h,_,_=>by simp at h
 |k+1,a::x,[],_,_,h,_=>by simp at h
 |k+1,a::x,b::y,e,h1,h2,h3=>by
  simp only[List.take_succ_cons,List.cons.injEq]at e;rw[me,if_pos e.1,A9 k x y e.2 (by simpa using h1) (by simpa using h2) (by simpa using h3)];rfl
def rm(x y:Str):Str:=⟨(me (cs x) (cs y)).toArray⟩
def Aw(x y:Str):bp [x,y] (rm x y):=wQ (ts:=[x,y]) (by simp)
def Dg:∀(h a b y:List Nat),h++a<=y->y<=h++b->∃r,y=h++r
 |[],a,b,y,_,_=>⟨y,rfl⟩
 |c::h,a,b,[],h1,_=>absurd (List.nil_lt_cons c (h++a)) (qf1_.mpr h1)
 |c::h,a,b,d::y,h1,h2=>by
  rw[kn]at h1 h2;have e:c=d:=by
   rcases sf c d with z|z|z
   ·exact absurd (qe3_.mpr (.inl z)) (qf1_.mpr h2)
   ·exact z
   ·exact absurd (qe3_.mpr (.inl z)) (qf1_.mpr h1)
  subst e;obtain⟨r,e⟩:=Dg h a b y (qf1_.mp λz=>qf1_.mpr h1 (qe3_.mpr (.inr ⟨rfl,z⟩))) (qf1_.mp λz=>qf1_.mpr h2 (qe3_.mpr (.inr ⟨rfl,z⟩)));exact⟨r,by rw[e];rfl⟩
def Np{ts:List Str}{x y hd:Str}(hx:x∈ts)(hy:y∈ts)(lx:∀t∈ts,cs x<=cs t)(ly:∀t∈ts,cs t<=cs y)(h:bp [x,y] hd):bp ts hd:=by
 refine⟨λt ht=>?_,λh' hh=>h.top h' λt ht=>?_⟩
 ·obtain⟨a,ea⟩:=h.all x (by simp);obtain⟨b,eb⟩:=h.all y (by simp);exact Dg (cs hd) a b (cs t) (by rw[<-ea];exact lx t ht) (by rw[<-eb];exact ly t ht)
 ·rcases qh_.mp ht with z|z
  ·rw[z];exact hh x hx
  ·rw[show t=y by simpa using z];exact hh y hy
def LQ{x:Str}{n:Nat}(h:n<=x.length):cs (Txt.slice x none (some (n:Int)))=(cs x).take n:=by
 have e:=beq_iff_eq.mp (PyProof.Rows.slice_closes_toL (x:=x) (j:=(n:Int)) (by omega) (by omega));rw[e];show((cs x).drop 0).take _=_;rw[mq];congr 1
def MI{us:List Str}{hd z:Str}(hs:∀t∈us,Sg t)(e:cs z=cJ (us.map λt=>aX t hd)):dI z=kC us hd:=by
 unfold dI kC;refine List.filter_congr λm hm=>?_
 rw[i9,jT,qL_,qL_,e];unfold cJ;have sg:∀t∈us,∀c∈cs (aX t hd),c∈cs gc:=λt ht c hc=>(hs t ht).slice _ _ c hc
 constructor
 ·rintro⟨c,hc,h2⟩;obtain⟨l,hl,hc⟩:=qi1_.mp hc;obtain⟨t',ht',rfl⟩:=qf_.mp hl;obtain⟨t,ht,rfl⟩:=qf_.mp ht';exact⟨t,ht,qL_.mpr ⟨c,hc,jd ((sA (sg t ht c hc) m hm).mp (kf h2))⟩⟩
 ·rintro⟨t,ht,h2⟩;obtain⟨c,hc,h3⟩:=qL_.mp h2;exact⟨c,qi1_.mpr ⟨_,qf_.mpr ⟨_,qf_.mpr ⟨t,ht,rfl⟩,rfl⟩,hc⟩,jd ((sA (sg t ht c hc) m hm).mpr (kf h3))⟩
def Mr(us:List Str)(n:Nat)(h:∀t∈us,t.length<=n):(cJ us).length<=us.length*n:=by
 induction us with
 |nil=>simp[cJ]
 |cons t us ih=>
  have e:cJ (t::us)=cs t++cJ us:=rfl;rw[e,b7,<-WordM.len,g6,Nat.succ_mul];have:=ih λx hx=>h x (fj _ hx)
  have:=h t h9;omega
def uH:bt:=λas R=>∃x y:Str,as=[.va (sT x),.va (sT y)]/\x.length<=1000/\y.length<=1000/\R (sT (rm x y))
def EG:bF ["one","other","size"] PU (aN yq):=bz (by decide +kernel)
def PH(h:ao K mg "shared_head" yq)(B:Own mg)    : ae P w K mg base 1 "shared_head" PU uH:=by
 have nd:=EG.nd;refine h.pgood EG (fun|_,_,_,_,_,_,[_,_],_=>rfl) (λf Qy A outer s H E F hr=>
   (aI (aZ 2 nd aG)
   (aI (oG g4 (eI (mT (dM lH (aC 2) (bI cE rfl B.len dg (aD (aC 0) aE))) (mT (dM lH (aC 2) (bI cE rfl B.len dg (aD (aC 1) aE))) (oN (cF hr (aU hr (aC 0) (aC 2)) (aU hr (aC 1) (aC 2)))))))
    (aJ (aZ 2 nd (bS dH (aC 2) aG))))
   (aJ (aR (jB jO (aC 0) jE (jD (aC 2)))))))) (λas R q=>?_)
 obtain⟨x,y,rfl,lx,ly,q⟩:=q;have ex:x.length=(cs x).length:=WordM.len x;have ey:y.length=(cs y).length:=WordM.len y;refine⟨rfl,λm ρ=>∃k:Nat,m=x.length-k/\k<=x.length/\k<=y.length/\(cs x).take k=(cs y).take k/\ρ=[.va (sT x),.va (sT y),.va (iT (k:Nat))],⟨_,0,rfl,dq _,dq _,rfl,rfl⟩,?_⟩;rintro m _ ⟨k,rfl,k1,k2,e,rfl⟩;have fin:(k=(cs x).length\/k=(cs y).length\/(cs x)[k]?≠(cs y)[k]?)->R (sT (Txt.slice x none (some (k:Int)))):=λh=>by
  have e2:Txt.slice x none (some (k:Int))=rm x y:=kX (by rw[LQ k1];exact(A9 k (cs x) (cs y) e (by omega) (by omega) h).symm);rw[e2];exact q
 refine⟨by show x.length<=_;omega,_,rfl,kM (λz1=>⟨by show y.length<=_;omega,_,rfl,kM (λz2=>?_) (λz2=>?_)⟩) (λz1=>?_)⟩
 ·have z1:(k:Int)<(x.length:Nat):=z1;have z2:(k:Int)<(y.length:Nat):=z2;have gx:(cs x)[k]?=some (cs x)[k]:=b6 (by omega);have gy:(cs y)[k]?=some (cs y)[k]:=b6 (by omega);refine⟨by show x.length<=_;omega,(cs x)[k],bK (j:=k) gx,by show y.length<=_;omega,(cs y)[k],bK (j:=k) gy,_,rfl,?_⟩;refine tO (λz=>?_) (λz=>?_)
  ·have ee:(cs x)[k]=(cs y)[k]:=by simpa using z
   refine⟨x.length-(k+1),by omega,k+1,rfl,by omega,by omega,?_,by push_cast;rfl⟩;rw[f7,f7,e,gx,gy,ee]
  ·refine⟨_,rfl,by show x.length<=_;omega,fin (.inr (.inr λh=>z ?_))⟩;rw[gx,gy]at h;injection h with h
   rw[h]
 ·have z2:¬ (k:Int)<(y.length:Nat):=z2;exact⟨_,rfl,by show x.length<=_;omega,fin (.inr (.inl (by omega)))⟩
 ·have z1:¬ (k:Int)<(x.length:Nat):=z1;exact⟨_,rfl,by show x.length<=_;omega,fin (.inl (by omega))⟩
def rO:bt:=λas R=>∃(t:Bool) (us:List Str),as=[.va (.seq t (us.map sT))]/\us≠[]/\us.length<=20/\(∀t∈us,fX t)/\R (bR (fK us))
def rZ{us:List Str}{hd:Str}{lo hi:Int}{ms:List Str}(m:jh us hd lo hi ms):Wd.make hd lo hi ms=fK us:=by
 obtain⟨h2,l2,u2,m2,e,k⟩:=jF m.ne;obtain⟨e1,e2,e3,e4⟩:=m.uniq k;rw[e,e1,e2,e3,e4]
def EF:bF Qp P0 (aN u4):=bz (by decide +kernel)
theorem PF(h:ao K mg "make_of" u4)(B:Own mg)(Ri:ae P w K mg base 1 "shared_head" PU uH)(Rg:ae P w K mg base 2 "marks_of" ["text"] qY)   : ae P w K mg base 3 "make_of" P0 rO:=by
 have nd:=EF.nd;refine h.pgood EF (fun|_,_,_,_,_,_,[_],_=>rfl) (λf Qy A outer s H E F hr=>
   (aI (aZ 1 nd (aL Ri hr (aD (bI (K_ rfl) rfl B.min boot_min (aD (aC 0) aE)) (aD (bI (K9 rfl) rfl B.max boot_max (aD (aC 0) aE)) aE))))
   (aI (fS (sc:=aN u4) (XN:=Qp) (N:=["text","head"]) (fr:=[1]) 2 nd (bU (aC 0)) (λ_ _ _ _ _=>gY) (λ_ _ _ _ _=>(jB jO (aC 0) (jD (bI cE rfl B.len dg (aD (aC 1) aE))) jE)))
   (aI (fS (sc:=aN u4) (XN:=Qp) (N:=["tail"]) (fr:=[]) 3 nd (bU (aC 2)) (λ_ _ _ _ _=>gY) (λ_ _ _ _ _=>(bI cE rfl B.len dg (aD (aC 0) aE))))
   (aJ (aR (cA (aD bC (aD (aC 1) (aD (bI (iM rfl) rfl B.min boot_min (aD (aC 3) aE)) (aD (bI (gZ rfl) rfl B.max boot_max (aD (aC 3) aE)) (aD (aL Rg hr (aD (sH PySem.F.slot_str_join PySem.F.type_str_join B5 bC (aD (aC 2) aE)) aE)) aE)))))))))))) (λas R q=>?_)
 obtain⟨t,us,rfl,ne,l64,hu,q⟩:=q;have l0:0<us.length:=qY1_.mpr ne;refine⟨rfl,t,us,rfl,l0,λx x1 x2=>⟨t,us,rfl,l0,λy y1 y2=>⟨x,y,rfl,by have:=(hu x x1).2;omega,by have:=(hu y y1).2;omega,?_⟩⟩⟩;have hh:bp us (rm x y):=Np x1 y1 x2 y2 (Aw x y);generalize rm x y=hd at hh;show az.nx _ _;refine gg (ρ':=[.va (.seq t (us.map sT)),.va (sT hd),.no,.no]) rfl ?_;have rl:∀t∈us,((aX t hd).length:Int)=(t.length:Int)-(hd.length:Int)/\(aX t hd).length<=50:=λt ht=>by
  obtain⟨r,e⟩:=hh.all t ht;have h1:=kW e;have h2:=congrArg List.length e;rw[b7]at h2;have h3:=(hu t ht).2;rw[WordM.len]at h3;rw[WordM.len,WordM.len t,WordM.len hd,h1];omega
 have hl:hd.length<=50:=by
  obtain⟨t,ht⟩:=i7 _ ne;have:=(rl t ht).1;have:=(hu t ht).2;omega
 refine⟨by rw[ak];omega,dY sT (λt=>sT (aX t hd)) (λt ht R q=>⟨by show hd.length<=_;omega,_,rfl,by have:=(hu t ht).2;show t.length<=_;omega,q⟩) ?_⟩;show az.nx _ _;refine gg (ρ':=[.va (.seq t (us.map sT)),.va (sT hd),.va (.seq false ((us.map λt=>aX t hd).map sT)),.no]) (by rw[fg];rfl) ?_;refine⟨by rw[ak,ak];omega,dY sT (λt=>iT (t.length:Nat)) (λt ht R q=>?_) ?_⟩
 ·obtain⟨u,hu',rfl⟩:=qf_.mp ht;exact⟨by have:=(rl u hu').2;show(aX u hd).length<=_;omega,q⟩
 have es:((us.map λt=>aX t hd).map λt=>iT (t.length:Nat))=((us.map λt=>(t.length:Int)-(hd.length:Int))).map iT:=by
  rw[fg,fg];apply mw;intro t ht;show iT ((aX t hd).length:Nat)=iT _;rw[(rl t ht).1]
 rw[es];have ne2:(us.map λt=>(t.length:Int)-(hd.length:Int))≠[]:=by simpa using ne
 refine .inr (.inl ⟨_,rfl,qY1_.mpr ne2,λlo lo1 lo2=>.inr (.inl ⟨_,rfl,qY1_.mpr ne2,λhi hi1 hi2=>?_⟩)⟩);have cl:(cJ (us.map λt=>aX t hd)).length<=1000:=by
  have:=Mr (us.map λt=>aX t hd) 50 λt ht=>by
   obtain⟨u,hu',rfl⟩:=qf_.mp ht;exact(rl u hu').2
  rw[ak]at this;omega
 refine⟨rfl,us.map λt=>aX t hd,rfl,rfl,by omega,_,rfl,by show(cJ (us.map λt=>aX t hd)).length<=_;exact cl,by simp,?_⟩;rw[MI (us:=us) (hd:=hd) (z:=⟨(cJ (us.map λt=>aX t hd)).toArray⟩) (λt ht=>(hu t ht).1) rfl];have m:jh us hd lo hi (kC us hd):=by
  refine⟨hh,?_,λt ht=>lo2 _ (qf_.mpr ⟨t,ht,rfl⟩),?_,λt ht=>hi2 _ (qf_.mpr ⟨t,ht,rfl⟩),rfl⟩
  ·obtain⟨t,ht,e⟩:=qf_.mp lo1;exact⟨t,ht,e⟩
  ·obtain⟨t,ht,e⟩:=qf_.mp hi1;exact⟨t,ht,e⟩
 rw[<-rZ m]at q;exact q
def kT:bt:=λas R=>∃ts:List Str,as=[.va (.seq false (ts.map sT))]/\ts≠[]/\ts.length<=1000/\(aH ts).length<=20/\(∀t∈ts,fX t)/\R (bR (bN ts))
def xI{ts us:List Str}(ne:ts≠[])(h:∀x,x∈ts↔x∈us):fK ts=fK us:=by
 obtain⟨hd,lo,hi,ms,e,m⟩:=jF ne;rw[e];exact rZ (m.same h)
def xq:bF ["texts","unlike"] P0 (aN zO):=bz (by decide +kernel)
def Fu(h:ao K mg "words_of" zO)(B:Own mg)(Rj:ae P w K mg base 3 "make_of" P0 rO)(GMOST_FEW:eP K mg "MOST_FEW" (iT 6))  : ae P w K mg base 4 "words_of" P0 kT:=by
 have nd:=xq.nd;refine h.pgood xq (fun|_,_,_,_,_,_,[_],_=>rfl) (λf Qy A outer s H E F hr=>
   (aI (bD (cF hr (bI cE rfl B.len dg (aD (aC 0) aE)) aG)
    (aJ AH)
    bB)
   (aI (aZ 1 nd (bG (qJ rfl rfl B.sorted rfl B.set_ (aC 0))))
   (aI (bD (dM tE (bI cE rfl B.len dg (aD (aC 1) aE)) (pG GMOST_FEW rfl))
    (aJ (aR (cA (aD bC (aD (fN fO rfl B.tuple_ boot_tuple (aD (aC 1) aE)) aE)))))
    bB)
   (aJ (aR (aL Rj hr (aD (aC 1) aE)))))))) (λas R q=>?_)
 obtain⟨ts,rfl,ne,lt,l20,ht,q⟩:=q;have l0:0<ts.length:=qY1_.mpr ne;refine⟨rfl,_,rfl,eZ (λz=>absurd z (by rw[ak];omega)) (λ_=>?_)⟩;have sl:(aY (aH ts)).length=(aH ts).length:=(fD _).length_eq;refine⟨ts,rfl,by omega,?_⟩;show az.nx _ _;refine gg (ρ':=[.va (.seq false (ts.map sT)),.va (.seq false ((aY (aH ts)).map sT))]) rfl ?_;refine⟨_,rfl,kM (λz=>?_) (λz=>?_)⟩
 ·have z:(((aY (aH ts)).map sT).length:Int)<=6:=z;rw[ak,sl]at z;unfold bN at q;rw[if_pos (by omega)]at q;exact⟨_,_,rfl,by simp,q⟩
 ·have z:¬ (((aY (aH ts)).map sT).length:Int)<=6:=z;rw[ak,sl]at z;unfold bN at q;rw[if_neg (by omega),xI (us:=aY (aH ts)) ne λx=>sort_set_mem.symm]at q;exact⟨false,_,rfl,λe=>by rw[e]at sl;simp at sl;omega,by omega,λt h=>ht t (sort_set_mem.mp h),q⟩
structure qE (ts:List Str):Prop where
 ne:ts≠[]
 le:(aH ts).length<=20
 ok:∀t∈ts,fX t
def wI:bt:=λas R=>∃ts:List Str,as=[.va (bR (bN ts))]/\qE ts/\R (bR (fK ts))
def oO{ts:List Str}(h:ts≠[]):aY (aH ts)≠[]:=λe=>by
 obtain⟨x,hx⟩:=i7 _ h;have:=sort_set_mem.mpr hx;rw[e]at this;exact nomatch this
def xp:bF ["words"] ["words"] (aN zN):=bz (by decide +kernel)
def Fv(h:ao K mg "as_make" zN)(B:Own mg)(Rj:ae P w K mg base 3 "make_of" P0 rO)   : ae P w K mg base 4 "as_make" ["words"] wI:=by
 have nd:=xp.nd;refine h.pgood xp (fun|_,_,_,_,_,_,[_],_=>rfl) (λf Qy A outer s H E F hr=>
   (aJ (aR (vZ (cF hr (aU hr (aC 0) aG) bC) (aL Rj hr (aD (aU hr (aC 0) aG) aE)) (aC 0))))) (λas R q=>?_)
 obtain⟨ts,rfl,ok,q⟩:=q;unfold bN;split
 ·rename_i z;rw[xI (us:=aY (aH ts)) ok.ne λx=>sort_set_mem.symm]at q;exact⟨rfl,_,b5,_,rfl,sY ⟨_,bK (j:=1) rfl,true,_,rfl,oO ok.ne,by rw[(fD _).length_eq];exact ok.le,λt h=>ok.ok t (sort_set_mem.mp h),q⟩⟩
 ·obtain⟨hd,lo,hi,ms,e,m⟩:=jF ok.ne;rw[e]at q ⊢;exact⟨rfl,_,b5,_,rfl,sN (by decide +kernel) q⟩
def vJ:bt:=λas R=>∃(h1:Str) (lo hi:Int) (ms:List Str) (hd:Str),as=[.va (bR (.make h1 lo hi ms)),.va (sT hd)]/\h1.length<=50/\hd.length<=50/\ms.length<=4/\R (bR (.make hd (lo+(aX h1 hd).length) (hi+(aX h1 hd).length) (j3 ms (dI (aX h1 hd)))))
def xo:bF ["make","head","tail","marks"] ["make","head"] (aN zM):=bz (by decide +kernel)
def Fw(h:ao K mg "with_shorter_head" zM)(B:Own mg)(Rh:ae P w K mg base 1 "marks_joined" PU uJ)(Rg:ae P w K mg base 2 "marks_of" ["text"] qY)   : ae P w K mg base 3 "with_shorter_head" ["make","head"] vJ:=by
 have nd:=xo.nd;refine h.pgood xo (fun|_,_,_,_,_,_,[_,_],_=>rfl) (λf Qy A outer s H E F hr=>
   (aI (aZ 2 nd (jB jO (aU hr (aC 0) aG) (jD (bI cE rfl B.len dg (aD (aC 1) aE))) jE))
   (aI (aZ 3 nd (aL Rh hr (aD (aU hr (aC 0) aG) (aD (aL Rg hr (aD (aC 2) aE)) aE))))
   (aJ (aR (cA (aD bC (aD (aC 1) (aD (bS dH (aU hr (aC 0) aG) (bI cE rfl B.len dg (aD (aC 2) aE))) (aD (bS dH (aU hr (aC 0) aG) (bI cE rfl B.len dg (aD (aC 2) aE))) (aD (aC 3) aE))))))))))) (λas R q=>?_)
 obtain⟨h1,lo,hi,ms,hd,rfl,l1,l2,l3,q⟩:=q;have rl:(aX h1 hd).length<=50:=bw (WordM.slice_len ..) l1;have ml:(dI (aX h1 hd)).length<=4:=by
  unfold dI;exact bw (p9 _ _) (by simp[MK])
 refine⟨rfl,_,bK (j:=1) rfl,by show hd.length<=_;omega,_,rfl,by show h1.length<=_;omega,?_⟩;show az.nx _ _;refine gg (ρ':=[.va (bR (.make h1 lo hi ms)),.va (sT hd),.va (sT (aX h1 hd)),.no]) rfl ?_;refine⟨_,bK (j:=4) rfl,aX h1 hd,rfl,by omega,ms,dI (aX h1 hd),rfl,l3,ml,?_⟩;show az.nx _ _;refine gg (ρ':=[.va (bR (.make h1 lo hi ms)),.va (sT hd),.va (sT (aX h1 hd)),.va (.seq true ((j3 ms (dI (aX h1 hd))).map sT))]) rfl ?_;exact⟨_,bK (j:=2) rfl,by show(aX h1 hd).length<=_;omega,_,bK (j:=3) rfl,by show(aX h1 hd).length<=_;omega,by simp,q⟩
def A7{ms ms':List Str}(h1:∀m∈ms,m∈MK)(h2:∀m∈ms',m∈MK):(j3 ms ms').length<=4/\∀m∈j3 ms ms',m∈MK:=by
 have h:∀m∈j3 ms ms',m∈MK:=λm hm=>by
  rcases qp_.mp (sort_set_mem.mp hm) with z|z
  ·exact h1 m z
  ·exact h2 m z
 exact⟨WordM.nodup_len (mD (gO _)) h,h⟩
def Ea{ts:List Str}{hd:Str}{lo hi:Int}{ms:List Str}(m:jh ts hd lo hi ms)(ok:∀t∈ts,fX t):fX hd/\ms.length<=4/\∀x∈ms,x∈MK:=by
 obtain⟨t,ht,_⟩:=m.lo1;obtain⟨r,e⟩:=m.he.all t ht;have hS:=(ok t ht).1;have hl:=(ok t ht).2;have hk:∀x∈ms,x∈MK:=λx hx=>by rw[m.mks]at hx;exact(qZ1_.mp hx).1
 refine⟨⟨λc hc=>hS c (by rw[e];exact ic _ hc),?_⟩,?_,hk⟩
 ·rw[WordM.len]at hl ⊢;rw[e,b7]at hl;omega
 ·rw[m.mks];exact bw (p9 _ _) (by simp[MK])
def wG:bt:=λas R=>∃A B:List Str,as=[.va (bR (fK A)),.va (bR (fK B))]/\A≠[]/\B≠[]/\(∀t∈A,fX t)/\(∀t∈B,fX t)/\R (bR (fK (A++B)))
def xn:bF ["one","other","head","first","second","least","most"] PU (aN zL):=bz (by decide +kernel)
def Fx(h:ao K mg "makes_joined" zL)(B:Own mg)(Ri:ae P w K mg base 1 "shared_head" PU uH)(Q1:ae P w K mg base 3 "with_shorter_head" ["make","head"] vJ)(Rh:ae P w K mg base 1 "marks_joined" PU uJ)   : ae P w K mg base 4 "makes_joined" PU wG:=by
 have nd:=xn.nd;refine h.pgood xn (fun|_,_,_,_,_,_,[_,_],_=>rfl) (λf Qy A outer s H E F hr=>
   (aI (aZ 2 nd (aL Ri hr (aD (aU hr (aC 0) aG) (aD (aU hr (aC 1) aG) aE))))
   (aI (aZ 3 nd (aL Q1 hr (aD (aC 0) (aD (aC 2) aE))))
   (aI (aZ 4 nd (aL Q1 hr (aD (aC 1) (aD (aC 2) aE))))
   (aI (aZ 5 nd (bI (iM rfl) rfl B.min boot_min (aD (aU hr (aC 3) aG) (aD (aU hr (aC 4) aG) aE))))
   (aI (aZ 6 nd (bI (gZ rfl) rfl B.max boot_max (aD (aU hr (aC 3) aG) (aD (aU hr (aC 4) aG) aE))))
   (aJ (aR (cA (aD bC (aD (aC 2) (aD (aC 5) (aD (aC 6) (aD (aL Rh hr (aD (aU hr (aC 3) aG) (aD (aU hr (aC 4) aG) aE))) aE)))))))))))))) (λas R q=>?_)
 obtain⟨A,B,rfl,na,nb,ha,hb,q⟩:=q;obtain⟨h1,lo1,hi1,ms1,e1,m1⟩:=jF na;obtain⟨h2,lo2,hi2,ms2,e2,m2⟩:=jF nb;obtain⟨⟨s1,b1⟩,c1,k1⟩:=Ea m1 ha;obtain⟨⟨s2,b2⟩,c2,k2⟩:=Ea m2 hb;have hh:=Aw h1 h2;have app:=m1.app m2 s1 s2 hh;rw[<-rZ app]at q;obtain⟨r1,er1⟩:=hh.all h1 (.head _);have lh:(rm h1 h2).length<=50:=by
  rw[WordM.len]at b1 ⊢;rw[er1,b7]at b1;omega
 rw[e1,e2];refine⟨rfl,_,bK (j:=1) rfl,_,bK (j:=1) rfl,h1,h2,rfl,by omega,by omega,?_⟩;generalize rm h1 h2=hd at q lh;have mk1:∀x:Str,∀m∈dI x,m∈MK:=λx m hm=>(qZ1_.mp hm).1
 have j1:=(A7 k1 (mk1 (aX h1 hd))).1;have j2:=(A7 k2 (mk1 (aX h2 hd))).1;show az.nx _ _;refine gg (ρ':=[.va (bR (.make h1 lo1 hi1 ms1)),.va (bR (.make h2 lo2 hi2 ms2)),.va (sT hd),.no,.no,.no,.no]) rfl ?_;refine⟨h1,lo1,hi1,ms1,hd,rfl,b1,lh,c1,?_⟩;generalize j3 ms1 (dI (aX h1 hd))=n1 at q j1;generalize lo1+((aX h1 hd).length:Int)=l1 at q;generalize hi1+((aX h1 hd).length:Int)=g1 at q;show az.nx _ _;refine gg (ρ':=[.va (bR (.make h1 lo1 hi1 ms1)),.va (bR (.make h2 lo2 hi2 ms2)),.va (sT hd),.va (bR (.make hd l1 g1 n1)),.no,.no,.no]) rfl ?_;refine⟨h2,lo2,hi2,ms2,hd,rfl,b2,lh,c2,?_⟩;generalize j3 ms2 (dI (aX h2 hd))=n2 at q j2;generalize lo2+((aX h2 hd).length:Int)=l2 at q;generalize hi2+((aX h2 hd).length:Int)=g2 at q;show az.nx _ _;refine gg (ρ':=[.va (bR (.make h1 lo1 hi1 ms1)),.va (bR (.make h2 lo2 hi2 ms2)),.va (sT hd),.va (bR (.make hd l1 g1 n1)),.va (bR (.make hd l2 g2 n2)),.no,.no]) rfl ?_;refine⟨_,bK (j:=2) rfl,_,bK (j:=2) rfl,.inl ⟨_,_,rfl,_,bK (j:=3) rfl,_,bK (j:=3) rfl,.inl ⟨_,_,rfl,?_⟩⟩⟩;exact⟨_,bK (j:=4) rfl,_,bK (j:=4) rfl,n1,n2,rfl,j1,j2,by simp,q⟩
def mI:bt:=λas R=>∃A B:List Str,as=[.va (bR (bN A)),.va (bR (bN B))]/\A≠[]/\B≠[]/\qE (A++B)/\R (bR (bN (A++B)))
def fQ{A C:List Str}(h:∀x∈A,x∈C):(aH A).length<=(aH C).length:=WordM.nodup_len (dE A) λx hx=>(cO C x).mpr (h x ((cO A x).mp hx))
def xl:bF PU PU (aN zK):=bz (by decide +kernel)
def Fy(h:ao K mg "words_joined" zK)(B:Own mg)(QG:ae P w K mg base 4 "words_of" P0 kT)(Q4:ae P w K mg base 4 "makes_joined" PU wG)(Q0:ae P w K mg base 4 "as_make" ["words"] wI)   : ae P w K mg base 5 "words_joined" PU mI:=by
 have nd:=xl.nd;refine h.pgood xl (fun|_,_,_,_,_,_,[_,_],_=>rfl) (λf Qy A outer s H E F hr=>
   (aI (bD (eI (mT (cF hr (aU hr (aC 0) aG) bC) (oN (cF hr (aU hr (aC 1) aG) bC))))
    (aJ (aR (aL QG hr (aD (bS dH (bG (nZ qX rfl B.list_ boot_list (aD (aU hr (aC 0) aG) aE))) (bG (nZ qX rfl B.list_ boot_list (aD (aU hr (aC 1) aG) aE)))) aE))))
    bB)
   (aJ (aR (aL Q4 hr (aD (aL Q0 hr (aD (aC 0) aE)) (aD (aL Q0 hr (aD (aC 1) aE)) aE))))))) (λas R q=>?_)
 obtain⟨A,B,rfl,na,nb,ok,q⟩:=q;have oA:qE A:=⟨na,bw (fQ λx hx=>ic _ hx) ok.le,λt ht=>ok.ok t (ic _ ht)⟩
 have oB:qE B:=⟨nb,bw (fQ λx hx=>fe _ hx) ok.le,λt ht=>ok.ok t (fe _ ht)⟩
 have fin:7<=(aH (A++B)).length->R (bR (fK (A++B))):=λh=>by
  unfold bN at q;rw[if_neg (by omega)]at q;exact q
 by_cases zA:(aH A).length<7
 ·have eA:bN A=.few (aY (aH A)):=by unfold bN;rw[if_pos zA]
  by_cases zB:(aH B).length<7
  ·have eB:bN B=.few (aY (aH B)):=by unfold bN;rw[if_pos zB]
   rw[eA,eB];have es:∀x,x∈aY (aH A)++aY (aH B)↔x∈A++B:=λx=>by rw[qp_,qp_,sort_set_mem,sort_set_mem]
   have l1:(aY (aH A)).length=(aH A).length:=(fD _).length_eq;have l2:(aY (aH B)).length=(aH B).length:=(fD _).length_eq;rw[<-mG es]at q;refine⟨rfl,_,b5,_,rfl,sY ⟨_,b5,_,rfl,sY ⟨_,bK (j:=1) rfl,_,_,rfl,_,bK (j:=1) rfl,_,_,rfl,?_⟩⟩⟩;refine⟨by rw[ak,ak];omega,aY (aH A)++aY (aH B),by rw[ia],?_,?_,?_,λt ht=>ok.ok t ((es t).mp ht),q⟩
   ·intro e;exact oO na (qn2_.mp e).1
   ·rw[b7];omega
   ·have:=fQ (A:=aY (aH A)++aY (aH B)) (C:=A++B) λx hx=>(es x).mp hx
    exact bw this ok.le
  ·have q:=fin (bw (by omega) (fQ (A:=B) (C:=A++B) λx hx=>fe _ hx));have eB:bN B=fK B:=by unfold bN;rw[if_neg zB]
   obtain⟨h2,lo2,hi2,ms2,e2,m2⟩:=jF nb;have aA:[Ar.va (bR (.few (aY (aH A))))]=[.va (bR (bN A))]:=by rw[eA]
   have aB:[Ar.va (bR (.make h2 lo2 hi2 ms2))]=[.va (bR (bN B))]:=by rw[eB,e2]
   rw[eB,eA,e2];exact⟨rfl,_,b5,_,rfl,sY ⟨_,b5,_,rfl,sN (by decide +kernel) ⟨A,aA,oA,B,aB,oB,A,B,rfl,na,nb,oA.ok,oB.ok,q⟩⟩⟩
 ·have q:=fin (bw (by omega) (fQ (A:=A) (C:=A++B) λx hx=>ic _ hx));have eA:bN A=fK A:=by unfold bN;rw[if_neg zA]
  obtain⟨h1,lo1,hi1,ms1,e1,m1⟩:=jF na;have aA:[Ar.va (bR (.make h1 lo1 hi1 ms1))]=[.va (bR (bN A))]:=by rw[eA,e1]
  rw[eA,e1];exact⟨rfl,_,b5,_,rfl,sN (by decide +kernel) (aQ ⟨A,aA,oA,B,rfl,oB,A,B,rfl,na,nb,oA.ok,oB.ok,q⟩)⟩
def Es{s t:de}{P:az}{ρ:aW}{J:aW->Prop}(rest:∀ρ',J ρ'->t P ρ')(main:(∀ρ',J ρ'->t P ρ')->tQ s t P ρ):tQ s t P ρ:=main rest
structure ph (D:List Tv->List Pt):Prop where
 same:∀A B:List Tv,(∀v,v∈A↔v∈B)->D A=D B
 nil:D []=[]
structure gf (V:Tv->Prop) (ks:List (List (Str×Tv))):Prop where
 ne:ks≠[]
 nd:∀k∈ks,(k.map (·.1)).Nodup
 ok:∀k∈ks,∀kt∈k,fX kt.1/\V kt.2
 le:(aH (aO ks)).length<=20
variable{D:List Tv->List Pt}{V:Tv->Prop}{W:(Tv->Prop)->Prop}{lv:Nat}
def gf.nms{ks:List (List (Str×Tv))}(h:gf V ks){n:Str}(hn:n∈aO ks):fX n:=by
 obtain⟨k,hk,hn⟩:=qh1_.mp hn;obtain⟨kt,hkt,rfl⟩:=qf_.mp hn;exact(h.ok k hk kt hkt).1
def look_mem{k:List (Str×Tv)}{n:Str}{v:Tv}(h:bX k n=some v):(n,v)∈k:=by
 unfold bX at h;obtain⟨x,hx,e⟩:=qd1_.mp h;have this:=rn hx;have this:x.1=n:=kf this;have hm:=u9 hx;obtain⟨a,b⟩:=x;simp only at this e;subst this e;exact hm
def sB{k:List (Str×Tv)}(nd:(k.map (·.1)).Nodup){n:Str}{v:Tv}(h:(n,v)∈k):bX k n=some v:=by
 unfold bX
 induction k with
 |nil=>exact nomatch h
 |cons x k ih=>
  rw[dz,qQ1_]at nd;rw[d9];by_cases z:x.1=n
  ·rw[jd z];rcases qh_.mp h with e|h
   ·subst e;rfl
   ·exact absurd (qf_.mpr ⟨(n,v),h,z.symm⟩) nd.1
  ·rw[i4 z];rcases qh_.mp h with e|h
   ·subst e;exact absurd rfl z
   ·exact ih nd.2 h
def xU{ks:List (List (Str×Tv))}(nd:∀k∈ks,(k.map (·.1)).Nodup){n:Str}{v:Tv}:v∈ix n ks↔∃k∈ks,(n,v)∈k:=by
 unfold ix;rw[qM_];exact⟨λ⟨k,hk,e⟩=>⟨k,hk,look_mem e⟩,λ⟨k,hk,e⟩=>⟨k,hk,sB (nd k hk) e⟩⟩
def vls_mem{ks:List (List (Str×Tv))}{v:Tv}:v∈dF ks↔∃k∈ks,∃n,(n,v)∈k:=by
 unfold dF;rw[qh1_];constructor
 ·rintro⟨k,hk,h⟩;obtain⟨x,hx,rfl⟩:=qf_.mp h;exact⟨k,hk,x.1,hx⟩
 ·rintro⟨k,hk,n,h⟩;exact⟨k,hk,qf_.mpr ⟨_,h,rfl⟩⟩
def gf.at_v{ks:List (List (Str×Tv))}(h:gf V ks){n:Str}:∀v∈ix n ks,V v:=λv hv=>by
 obtain⟨k,hk,e⟩:=(xU h.nd).mp hv;exact(h.ok k hk _ e).2
def gf.vls_v{ks:List (List (Str×Tv))}(h:gf V ks):∀v∈dF ks,V v:=λv hv=>by
 obtain⟨k,hk,n,e⟩:=vls_mem.mp hv;exact(h.ok k hk _ e).2
def GM{ks:List (List (Str×Tv))}(hD:ph D)(ne:ks≠[]){n:Str}(h:n∉aO ks):cZ D ks n=(n,false,[]):=by
 have h1:∀k∈ks,n∉k.map (·.1):=λk hk z=>h (qh1_.mpr ⟨k,hk,z⟩)
 have e1:ks.all (λk=>decide (n∈k.map (·.1)))=false:=by
  obtain⟨k,hk⟩:=i7 _ ne;exact List.all_eq_false.mpr ⟨k,hk,by simpa using h1 k hk⟩
 have e2:ix n ks=[]:=by
  unfold ix;rw[qo2_];intro k hk;cases e:bX k n with
  |none=>rfl
  |some v=>exact absurd (qf_.mpr ⟨_,look_mem e,rfl⟩) (h1 k hk)
 unfold cZ;rw[e1,e2,hD.nil]
def Li{ks js:List (List (Str×Tv))}(n:Str):cZ D (ks++js) n=(n,(cZ D ks n).2.1&&(cZ D js n).2.1,D (ix n ks++ix n js)):=by
 unfold cZ ix;rw[List.all_append,i5]
def iI(ks js:List (List (Str×Tv))):aO (ks++js)=aO ks++aO js:=p7 ..
def sD{ks:List (List (Str×Tv))}(h:ks≠[]):bH ks≠[]:=by unfold bH;simpa using h
def Mb{ks js:List (List (Str×Tv))}(h1:ks≠[])(h2:js≠[]):bJ (bH (ks++js))=min (bJ (bH ks)) (bJ (bH js))/\bL (bH (ks++js))=max (bL (bH ks)) (bL (bH js)):=by
 rw[show bH (ks++js)=bH ks++bH js from ia ..];exact⟨C5 (sD h1) (sD h2),C3 (sD h1) (sD h2)⟩
def oq(D:List Tv->List Pt)(W:(Tv->Prop)->Prop):bt:=λas R=>∃V:Tv->Prop,W V/\∃A B:List Tv,as=[.va (bM (D A)),.va (bM (D B))]/\(∀v∈A,V v)/\(∀v∈B,V v)/\R (bM (D (A++B)))
def qt(fs:List mf):Tv:=.dct (fs.map λx=>(x.1,cI x))
def nU:bt:=λas R=>∃(a b:Int) (fs:List mf),as=[.va (aT (.record a b fs))]/\fs.length<=20/\(fs.map (·.1)).Nodup/\R (qt fs)
def xc:bF P7 P7 (aN tZ):=bz (by decide +kernel)
def FF(h:ao K mg "fields_by_name" tZ)(B:Own mg)    : ae P w K mg base 1 "fields_by_name" P7 nU:=by
 have nd:=xc.nd;refine h.pgood xc (fun|_,_,_,_,_,_,[_],_=>rfl) (λf Qy A outer s H E F hr=>
   (aJ (aR (GY (Nw rfl rfl B.dict_ (bG (fH (sc:=aN tZ) (XN:=P7) (N:=["field"]) (fr:=[]) (bU (aU hr (aC 0) aG)) (λ_ _ _ _ _=>(cA (aD (aU hr (aC 0) aG) (aD (aC 0) aE))))))))))) (λas R q=>?_)
 obtain⟨a,b,fs,rfl,l,nd,q⟩:=q;rw[eR];refine⟨rfl,_,bK (j:=3) rfl,by rw[ak];omega,dY cI (λx=>.seq true [sT x.1,cI x]) (λx hx R q=>⟨_,b5,by simp,q⟩) ⟨fs.map λx:mf=>(x.1,cI x),by rw[fg];rfl,by rw[fg];exact nd,by rw[ak];omega,q⟩⟩
def zl(D:List Tv->List Pt)(W:(Tv->Prop)->Prop):bt:=λas R=>∃V:Tv->Prop,W V/\∃(n n':Str) (m m':Bool) (A B:List Tv),as=[.va (cI (n,m,D A)),.va (cI (n',m',D B))]/\(∀v∈A,V v)/\(∀v∈B,V v)/\R (cI (n,m&&m',D (A++B)))
def xa:bF PU PU (aN pY):=bz (by decide +kernel)
def FG(h:ao K mg "field_joined" pY)(B:Own mg)(QI:ae P w K mg base lv "joined" PU (oq D W))   : ae P w K mg base (lv+1) "field_joined" PU (zl D W):=by
 have nd:=xa.nd;refine h.pgood xa (fun|_,_,_,_,_,_,[_,_],_=>rfl) (λf Qy A outer s H E F hr=>
   (aJ (aR (cA (aD (aU hr (aC 0) aG) (aD (jH (aU hr (aC 0) aG) (mU (aU hr (aC 1) aG))) (aD (aL QI hr (aD (aU hr (aC 0) aG) (aD (aU hr (aC 1) aG) aE))) aE))))))) (λas R q=>?_)
 obtain⟨V,hv,n,n',m,m',A,B,rfl,hA,hB,q⟩:=q;refine⟨rfl,_,b5,_,bK (j:=1) rfl,?_⟩;have q:R (.seq true [sT n,bT (m&&m'),bM (D (A++B))]):=q;cases m with
 |true=>
  rw[Bool.true_and]at q;exact⟨_,rfl,bZ ⟨_,bK (j:=1) rfl,_,bK (j:=2) rfl,_,bK (j:=2) rfl,V,hv,A,B,rfl,hA,hB,by simp,q⟩⟩
 |false=>exact⟨_,rfl,aQ ⟨_,bK (j:=2) rfl,_,bK (j:=2) rfl,V,hv,A,B,rfl,hA,hB,by simp,q⟩⟩
noncomputable def bV(D:List Tv->List Pt)(ks:List (List (Str×Tv))):List mf:=(aY (aH (aO ks))).map (cZ D ks)
def mV(ks:List (List (Str×Tv))):(bV D ks).map (·.1)=aY (aH (aO ks)):=by
 unfold bV;rw[fg];exact nz _
def lA(ks:List (List (Str×Tv))):(bV D ks).length=(aH (aO ks)).length:=by
 unfold bV;rw[ak,(fD _).length_eq]
def Cc{ks:List (List (Str×Tv))}(hD:ph D)(ne:ks≠[])(n:Str):(bX ((bV D ks).map λx:mf=>(x.1,cI x)) n).getD (cI (n,false,[]))=cI (cZ D ks n):=by
 by_cases h:n∈aO ks
 ·have e:bX ((bV D ks).map λx:mf=>(x.1,cI x)) n=some (cI (cZ D ks n)):=by
   refine sB ?_ (qf_.mpr ⟨cZ D ks n,qf_.mpr ⟨n,sort_set_mem.mpr h,rfl⟩,rfl⟩);rw[fg];show((bV D ks).map (·.1)).Nodup;rw[mV];exact mD (gO _)
  rw[e];rfl
 ·rw[GM hD ne h];have e:bX ((bV D ks).map λx:mf=>(x.1,cI x)) n=none:=by
   cases e:bX ((bV D ks).map λx:mf=>(x.1,cI x)) n with
   |none=>rfl
   |some v=>
    have h1:n∈((bV D ks).map λx:mf=>(x.1,cI x)).map (·.1):=qf_.mpr ⟨(n,v),look_mem e,rfl⟩;rw[fg]at h1;have h1:n∈(bV D ks).map (·.1):=h1;rw[mV]at h1;exact absurd (sort_set_mem.mp h1) h
  rw[e];rfl
def zp(D:List Tv->List Pt)(W:(Tv->Prop)->Prop):bt:=λas R=>∃V:Tv->Prop,W V/\∃(a b a' b':Int) (ks js:List (List (Str×Tv))) (ns:List Str),as=[.va (aT (.record a b (bV D ks))),.va (aT (.record a' b' (bV D js))),.va (.seq false (ns.map sT))]/\ph D/\gf V ks/\gf V js/\ns.length<=20/\R (aT (.record (min a a') (max b b') (ns.map (cZ D (ks++js)))))
def w_:bF ["one","other","names","first","second","fields","name","lacking"] Qk (aN pX):=bz (by decide +kernel)
def FH(h:ao K mg "records_joined" pX)(B:Own mg)(QJ:ae P w K mg base 1 "fields_by_name" P7 nU)(Rt:ae P w K mg base (lv+1) "field_joined" PU (zl D W))   : ae P w K mg base (lv+2) "records_joined" Qk (zp D W):=by
 have nd:=w_.nd;refine h.pgood w_ (fun|_,_,_,_,_,_,[_,_,_],_=>rfl) (λf Qy A outer s H E F hr=>
   (aI (aZ 3 nd (aL QJ hr (aD (aC 0) aE)))
   (aI (aZ 4 nd (aL QJ hr (aD (aC 1) aE)))
   (aI (fV 5 nd (cD aE))
   (aI (dS (m:=8) g4 rfl (bU (aC 2)) (dB 6 (by decide) nd rfl (.inl rfl))
    (aI (aZ 7 nd (cA (aD (aC 6) (aD fI (aD (cA aE) aE)))))
    (aJ (eF (fF 5 (aL Rt hr (aD (Dl (pL hr) (aC 3) (aC 6) (aC 7)) (aD (Dl (pL hr) (aC 4) (aC 6) (aC 7)) aE))))))))
   (aJ (aR (cA (aD bC (aD (bI (iM rfl) rfl B.min boot_min (aD (aU hr (aC 0) aG) (aD (aU hr (aC 1) aG) aE))) (aD (bI (gZ rfl) rfl B.max boot_max (aD (aU hr (aC 0) aG) (aD (aU hr (aC 1) aG) aE))) (aD (fN fO rfl B.tuple_ boot_tuple (aD (aC 5) aE)) aE)))))))))))) (λas R q=>?_)
 obtain⟨V,hv,a,b,a',b',ks,js,ns,rfl,hD,hk,hj,ln,q⟩:=q;have nd:∀ks:List (List (Str×Tv)),((bV D ks).map (·.1)).Nodup:=λks=>by rw[mV];exact mD (gO _)
 refine⟨rfl,a,b,bV D ks,rfl,by rw[lA];exact hk.le,nd ks,a',b',bV D js,rfl,by rw[lA];exact hj.le,nd js,?_⟩;rw[eR]at q ⊢;rw[eR] 
 let T1:Tv:=.seq true [sT "record",iT a,iT b,.seq true ((bV D ks).map cI)]
 let T2:Tv:=.seq true [sT "record",iT a',iT b',.seq true ((bV D js).map cI)]
 show az.nx _ _;refine gg (ρ':=[.va T1,.va T2,.va (.seq false (ns.map sT)),.va (qt (bV D ks)),.va (qt (bV D js)),.no,.no,.no]) rfl ?_;refine⟨by simp,?_⟩;show az.nx _ _;refine gg (ρ':=[.va T1,.va T2,.va (.seq false (ns.map sT)),.va (qt (bV D ks)),.va (qt (bV D js)),.own [],.no,.no]) rfl ?_;refine gC sT (l:=ns) (λi ρ=>∃s6 s7:Sl,ρ=[.va T1,.va T2,.va (.seq false (ns.map sT)),.va (qt (bV D ks)),.va (qt (bV D js)),.own (((ns.take i).map (cZ D (ks++js))).map cI),s6,s7]) ⟨.no,.no,rfl⟩ ?_ ?_
 ·rintro i n _ N hn ⟨s6,s7,rfl⟩ hN;refine⟨by simp,by simp,?_⟩;show az.nx _ _;refine gg (ρ':=[.va T1,.va T2,.va (.seq false (ns.map sT)),.va (qt (bV D ks)),.va (qt (bV D js)),.own (((ns.take i).map (cZ D (ks++js))).map cI),.va (sT n),.va (cI (n,false,[]))]) rfl ?_;refine⟨⟨_,rfl⟩,_,rfl,_,rfl,_,rfl,_,rfl,V,hv,n,n,(cZ D ks n).2.1,(cZ D js n).2.1,ix n ks,ix n js,?_,hk.at_v,hj.at_v,_,rfl,?_,?_⟩
  ·show [Ar.va ((bX ((bV D ks).map λx:mf=>(x.1,cI x)) n).getD (cI (n,false,[]))),.va ((bX ((bV D js).map λx:mf=>(x.1,cI x)) n).getD (cI (n,false,[])))]=_;rw[Cc hD hk.ne,Cc hD hj.ne];rfl
  ·rw[ak,ak,jj];omega
  ·refine hN _ ⟨.va (sT n),.va (cI (n,false,[])),?_⟩;rw[f7,hn,ia,ia,<-Li];rfl
 ·rintro _ ⟨s6,s7,rfl⟩;rw[d_];exact⟨_,bK (j:=1) rfl,_,bK (j:=1) rfl,.inl ⟨_,_,rfl,_,bK (j:=2) rfl,_,bK (j:=2) rfl,.inl ⟨_,_,rfl,_,_,rfl,by simp,q⟩⟩⟩
def hG{ks:List (List (Str×Tv))}(h:(aH (aO ks)).length<=8):dc D ks=.record (bJ (bH ks)) (bL (bH ks)) (bV D ks):=by unfold dc bV;rw[if_pos h]
def hE{ks:List (List (Str×Tv))}(h:¬ (aH (aO ks)).length<=8):dc D ks=.table (bJ (bH ks)) (bL (bH ks)) (bN (aO ks)) (D (dF ks)):=by unfold dc;rw[if_neg h]
noncomputable def iw(ks:List (List (Str×Tv))):List Tv:=if aO ks=[] then [] else [bR (bN (aO ks))]
def qA:bt:=λas R=>∃(D:List Tv->List Pt) (V:Tv->Prop) (ks:List (List (Str×Tv))),as=[.va (aT (dc D ks))]/\gf V ks/\R (.seq false (iw ks))
def w8:bF ["part","names"] PX (aN tY):=bz (by decide +kernel)
def FI(h:ao K mg "name_words" tY)(B:Own mg)(QG:ae P w K mg base 4 "words_of" P0 kT)   : ae P w K mg base 5 "name_words" PX qA:=by
 have nd:=w8.nd;refine h.pgood w8 (fun|_,_,_,_,_,_,[_],_=>rfl) (λf Qy A outer s H E F hr=>
   (aI (bD (cF hr (aU hr (aC 0) aG) bC)
    (aJ (aR (bG (cD (aD (aU hr (aC 0) aG) aE)))))
    bB)
   (aI (fS (sc:=aN tY) (XN:=["part","names"]) (N:=["field"]) (fr:=[]) 1 nd (bU (aU hr (aC 0) aG)) (λ_ _ _ _ _=>gY) (λ_ _ _ _ _=>(aU hr (aC 0) aG)))
   (aJ (aR (vZ (dM AU (bI cE rfl B.len dg (aD (aC 1) aE)) aG) (bG (cD (aD (aL QG hr (aD (aC 1) aE)) aE))) (bG (cD aE)))))))) (λas R q=>?_)
 obtain⟨D,V,ks,rfl,hk,q⟩:=q;have sl:(aY (aH (aO ks))).length=(aH (aO ks)).length:=(fD _).length_eq;by_cases h:(aH (aO ks)).length<=8
 ·rw[hG h,eR];have ln:(bV D ks).length<=8:=by rw[lA];exact h
  refine⟨rfl,_,b5,_,rfl,sN (by decide +kernel) ⟨_,bK (j:=3) rfl,by rw[ak];omega,dY cI (λx=>sT x.1) (λx hx R q=>⟨_,b5,q⟩) ?_⟩⟩;have en:((bV D ks).map λx=>sT x.1)=(aY (aH (aO ks))).map sT:=by
   rw[<-mV (D:=D),fg];rfl
  rw[en];show az.nx _ _;refine gg (ρ':=[.va (.seq true [sT "record",iT (bJ (bH ks)),iT (bL (bH ks)),.seq true ((bV D ks).map cI)]),.va (.seq false ((aY (aH (aO ks))).map sT))]) rfl ?_;refine⟨_,rfl,kM (λz=>?_) (λz=>?_)⟩
  ·have z:(((aY (aH (aO ks))).map sT).length:Int) > 0:=z;rw[ak]at z;have ne:aO ks≠[]:=λe=>by rw[sl,e]at z;exact absurd z (by decide)
   unfold iw at q;rw[if_neg ne,<-mG (ts:=aY (aH (aO ks))) (us:=aO ks) λx=>sort_set_mem]at q;refine⟨_,rfl,oO ne,by omega,?_,λt ht=>hk.nms (sort_set_mem.mp ht),by simp,q⟩;exact bw (fQ (A:=aY (aH (aO ks))) (C:=aO ks) λx hx=>sort_set_mem.mp hx) hk.le
  ·have z:¬ (((aY (aH (aO ks))).map sT).length:Int) > 0:=z;rw[ak]at z;have e:aO ks=[]:=by
    apply Classical.byContradiction;intro ne;have:=qY1_.mpr (oO ne);omega
   unfold iw at q;rw[if_pos e]at q;exact⟨by simp,q⟩
 ·have ne:aO ks≠[]:=λe=>h (by rw[e];exact dq _)
  unfold iw at q;rw[if_neg ne]at q;rw[hE h,fY];exact⟨rfl,_,b5,_,rfl,sY ⟨_,bK (j:=3) rfl,by simp,q⟩⟩
noncomputable def o9(ks:List (List (Str×Tv))):List (List Tv):=if (aH (aO ks)).length<=8 then(aY (aH (aO ks))).map (λn=>ix n ks) else [dF ks]
def sG{ks:List (List (Str×Tv))}(nd:∀k∈ks,(k.map (·.1)).Nodup)(v:Tv):v∈(o9 ks).flatten↔v∈dF ks:=by
 unfold o9;split
 ·rw[qi1_,vls_mem];constructor
  ·rintro⟨l,hl,hv⟩;obtain⟨n,_,rfl⟩:=qf_.mp hl;obtain⟨k,hk,e⟩:=(xU nd).mp hv;exact⟨k,hk,n,e⟩
  ·rintro⟨k,hk,n,e⟩;refine⟨ix n ks,qf_.mpr ⟨n,sort_set_mem.mpr (qh1_.mpr ⟨k,hk,qf_.mpr ⟨_,e,rfl⟩⟩),rfl⟩,(xU nd).mpr ⟨k,hk,e⟩⟩
 ·rw[g8,List.flatten_nil,jk]
def Cm(ks:List (List (Str×Tv))):(o9 ks).length<=8:=by
 unfold o9;split
 ·rename_i h;rw[ak,(fD _).length_eq];exact h
 ·simp
def qB:bt:=λas R=>∃(D:List Tv->List Pt) (ks:List (List (Str×Tv))),as=[.va (aT (dc D ks))]/\R (.seq false ((o9 ks).map λA=>bM (D A)))
def xi:bF PX PX (aN uG):=bz (by decide +kernel)
def FB(h:ao K mg "forms_within" uG)(B:Own mg)    : ae P w K mg base 1 "forms_within" PX qB:=by
 have nd:=xi.nd;refine h.pgood xi (fun|_,_,_,_,_,_,[_],_=>rfl) (λf Qy A outer s H E F hr=>
   (aI (bD (cF hr (aU hr (aC 0) aG) bC)
    (aJ (aR (bG (cD (aD (aU hr (aC 0) aG) aE)))))
    bB)
   (aI (bD (cF hr (aU hr (aC 0) aG) bC)
    (aJ (aR (bG (fH (sc:=aN uG) (XN:=PX) (N:=["field"]) (fr:=[]) (bU (aU hr (aC 0) aG)) (λ_ _ _ _ _=>(aU hr (aC 0) aG))))))
    bB)
   (aI (bD (cF hr (aU hr (aC 0) aG) bC)
    (aJ (aR (bG (cD (aD (aU hr (aC 0) aG) aE)))))
    bB)
   (aJ (aR (bG (cD aE)))))))) (λas R q=>?_)
 obtain⟨D,ks,rfl,q⟩:=q;unfold o9 at q;by_cases h:(aH (aO ks)).length<=8
 ·rw[if_pos h,fg]at q;rw[hG h,eR];have ln:(bV D ks).length<=8:=by rw[lA];exact h
  refine⟨rfl,_,b5,_,rfl,sN (by decide +kernel) ⟨_,b5,_,rfl,sY ⟨_,bK (j:=3) rfl,by rw[ak];omega,dY cI (λx=>bM x.2.2) (λx hx R q=>⟨_,bK (j:=2) rfl,q⟩) ?_⟩⟩⟩;unfold bV;rw[fg];exact q
 ·rw[if_neg h]at q;rw[hE h,fY];exact⟨rfl,_,b5,_,rfl,sN (by decide +kernel) ⟨_,b5,_,rfl,sN (by decide +kernel) ⟨_,b5,_,rfl,sY ⟨_,bK (j:=4) rfl,by simp,q⟩⟩⟩⟩
def zS(D:List Tv->List Pt)(W:(Tv->Prop)->Prop):bt:=λas R=>∃V:Tv->Prop,W V/\∃As:List (List Tv),as=[.va (.seq false (As.map λA=>bM (D A)))]/\ph D/\(∀A∈As,∀v∈A,V v)/\R (bM (D As.flatten))
def wx:bF ["forms","whole","form"] ["forms"] (aN nP):=bz (by decide +kernel)
def zV(h:ao K mg "all_joined" nP)(B:Own mg)(QI:ae P w K mg base lv "joined" PU (oq D W))   : ae P w K mg base (lv+1) "all_joined" ["forms"] (zS D W):=by
 have nd:=wx.nd;refine h.pgood wx (fun|_,_,_,_,_,_,[_],_=>rfl) (λf Qy A outer s H E F hr=>
   (aI (aZ 1 nd (cA aE))
   (aI (dS (m:=3) g4 rfl (bU (aC 0)) (dB 2 (by decide) nd rfl (.inl rfl))
    (aJ (aZ 1 nd (aL QI hr (aD (aC 1) (aD (aC 2) aE))))))
   (aJ (aR (aC 1)))))) (λas R q=>?_)
 obtain⟨V,hv,As,rfl,hD,hV,q⟩:=q;refine⟨rfl,by simp,?_⟩;refine gC (λA=>bM (D A)) (l:=As) (λi ρ=>∃s2:Sl,ρ=[.va (.seq false (As.map λA=>bM (D A))),.va (bM (D (As.take i).flatten)),s2]) ⟨.no,by rw[rq,List.flatten_nil,hD.nil];rfl⟩ ?_ ?_
 ·rintro i A _ N hA ⟨s2,rfl⟩ hN;refine⟨V,hv,(As.take i).flatten,A,rfl,λv hv=>?_,hV A (gq hA),hN _ ⟨.va (bM (D A)),?_⟩⟩
  ·obtain⟨l,hl,hv⟩:=qi1_.mp hv;exact hV l ((List.take_sublist _ _).subset hl) v hv
  ·rw[f7,hA,p6];show [_,_,_]=[_,Sl.va (bM (D ((As.take i).flatten++(A++[])))),_];rw[jk]
 ·rintro _ ⟨s2,rfl⟩;rw[d_];exact q
def zQ(D:List Tv->List Pt)(W:(Tv->Prop)->Prop):bt:=λas R=>∃V:Tv->Prop,W V/\∃ks js:List (List (Str×Tv)),as=[.va (aT (dc D ks)),.va (aT (dc D js))]/\ph D/\gf V ks/\gf V js/\qE (aO ks++aO js)/\R (aT (.table (min (bJ (bH ks)) (bJ (bH js))) (max (bL (bH ks)) (bL (bH js))) (bN (aO ks++aO js)) (D (dF ks++dF js))))
def AM(ks:List (List (Str×Tv))):∃(w:Str) (r:List Tv),aT (dc D ks)=.seq true (sT w::iT (bJ (bH ks))::iT (bL (bH ks))::r):=by
 by_cases h:(aH (aO ks)).length<=8
 ·rw[hG h,eR];exact⟨_,_,rfl⟩
 ·rw[hE h,fY];exact⟨_,_,rfl⟩
def Ba(ks:List (List (Str×Tv))):(iw ks).length<=1:=by
 unfold iw;split<;>simp
def w6:bF ["one","other","words","make","form"] PU (aN pW):=bz (by decide +kernel)
def FJ(h:ao K mg "tables_joined" pW)(B:Own mg)(QO:ae P w K mg base 5 "name_words" PX qA)(QK:ae P w K mg base 5 "words_joined" PU mI)(Q6:ae P w K mg base (lv+1) "all_joined" ["forms"] (zS D W))(QN:ae P w K mg base 1 "forms_within" PX qB)   : ae P w K mg base (lv+6) "tables_joined" PU (zQ D W):=by
 have nd:=w6.nd;refine h.pgood w6 (fun|_,_,_,_,_,_,[_,_],_=>rfl) (λf Qy A outer s H E F hr=>
   (aI (aZ 2 nd (bS dH (aL QO hr (aD (aC 0) aE)) (aL QO hr (aD (aC 1) aE))))
   (aI (aZ 3 nd (vZ (cF hr (bI cE rfl B.len dg (aD (aC 2) aE)) aG) (aU hr (aC 2) aG) (aL QK hr (aD (aU hr (aC 2) aG) (aD (aU hr (aC 2) aG) aE)))))
   (aI (aZ 4 nd (aL Q6 hr (aD (bS dH (aL QN hr (aD (aC 0) aE)) (aL QN hr (aD (aC 1) aE))) aE)))
   (aJ (aR (cA (aD bC (aD (bI (iM rfl) rfl B.min boot_min (aD (aU hr (aC 0) aG) (aD (aU hr (aC 1) aG) aE))) (aD (bI (gZ rfl) rfl B.max boot_max (aD (aU hr (aC 0) aG) (aD (aU hr (aC 1) aG) aE))) (aD (aC 3) (aD (aC 4) aE)))))))))))) (λas R q=>?_)
 obtain⟨V,hv,ks,js,rfl,hD,hk,hj,ok,q⟩:=q;have l1:=Ba ks;have l2:=Ba js;refine⟨rfl,D,V,ks,rfl,hk,D,V,js,rfl,hj,by omega,?_⟩;show az.nx _ _;refine gg (ρ':=[.va (aT (dc D ks)),.va (aT (dc D js)),.va (.seq false (iw ks++iw js)),.no,.no]) rfl ?_;dsimp only;refine Es (J:=λρ'=>ρ'=[.va (aT (dc D ks)),.va (aT (dc D js)),.va (.seq false (iw ks++iw js)),.va (bR (bN (aO ks++aO js))),.no]) ?rest (λrest=>?main)
 case main=>
  by_cases n1:aO ks=[]
  ·have e1:iw ks=[]:=by unfold iw;rw[if_pos n1]
   have n2:aO js≠[]:=λz=>ok.ne (by rw[n1,z];rfl)
   have e2:iw js=[bR (bN (aO js))]:=by unfold iw;rw[if_neg n2]
   rw[e1,e2,n1,gj,gj]at rest;rw[e1,e2,gj];exact⟨_,rfl,eZ (λ_=>⟨_,b5,rest _ rfl⟩) (λz=>absurd rfl z)⟩
  ·have e1:iw ks=[bR (bN (aO ks))]:=by unfold iw;rw[if_neg n1]
   by_cases n2:aO js=[]
   ·have e2:iw js=[]:=by unfold iw;rw[if_pos n2]
    rw[e1,e2,n2,jk,jk]at rest;rw[e1,e2,jk];exact⟨_,rfl,eZ (λ_=>⟨_,b5,rest _ rfl⟩) (λz=>absurd rfl z)⟩
   ·have e2:iw js=[bR (bN (aO js))]:=by unfold iw;rw[if_neg n2]
    rw[e1,e2,kn,gj]at rest;rw[e1,e2,kn,gj];exact⟨_,rfl,eZ (λz=>absurd z (show ¬ ((2:Nat):Int)=1 by decide)) (λ_=>⟨_,b5,_,bK (j:=1) rfl,aO ks,aO js,rfl,n1,n2,ok,rest _ rfl⟩)⟩
 case rest=>
  rintro _ rfl;have f1:=Cm ks;have f2:=Cm js;refine⟨D,ks,rfl,D,js,rfl,by rw[ak,ak];omega,V,hv,o9 ks++o9 js,by rw[ia],hD,λA hA v hv=>?_,?_⟩
  ·rcases qp_.mp hA with z|z
   ·exact hk.vls_v v ((sG hk.nd v).mp (qi1_.mpr ⟨A,z,hv⟩))
   ·exact hj.vls_v v ((sG hj.nd v).mp (qi1_.mpr ⟨A,z,hv⟩))
  have eD:D (o9 ks++o9 js).flatten=D (dF ks++dF js):=hD.same _ _ λv=>by
   rw[p6,qp_,qp_,sG hk.nd,sG hj.nd]
  rw[eD];obtain⟨w1,r1,E1⟩:=AM (D:=D) ks;obtain⟨w2,r2,E2⟩:=AM (D:=D) js;show az.nx _ _;refine gg (ρ':=[.va (.seq true (sT w1::iT (bJ (bH ks))::iT (bL (bH ks))::r1)),.va (.seq true (sT w2::iT (bJ (bH js))::iT (bL (bH js))::r2)),.va (.seq false (iw ks++iw js)),.va (bR (bN (aO ks++aO js))),.va (bM (D (dF ks++dF js)))]) (by rw[E1,E2];rfl) ?_;rw[fY]at q;exact⟨_,bK (j:=1) rfl,_,bK (j:=1) rfl,.inl ⟨_,_,rfl,_,bK (j:=2) rfl,_,bK (j:=2) rfl,.inl ⟨_,_,rfl,by simp,q⟩⟩⟩
variable{D:List Tv->List Pt}{V:Tv->Prop}{W W':(Tv->Prop)->Prop}{lv:Nat}
def zR(D:List Tv->List Pt)(W:(Tv->Prop)->Prop):bt:=λas R=>∃V:Tv->Prop,W V/\∃ks js:List (List (Str×Tv)),as=[.va (aT (dc D ks)),.va (aT (dc D js))]/\ph D/\gf V ks/\gf V js/\(aH (aO (ks++js))).length<=20/\R (aT (dc D (ks++js)))
def w4:bF Qk PU (aN pV):=bz (by decide +kernel)
def ER(h:ao K mg "dicts_joined" pV)(B:Own mg)(QJ:ae P w K mg base 1 "fields_by_name" P7 nU)(Ru:ae P w K mg base (lv+2) "records_joined" Qk (zp D W))(Rv:ae P w K mg base (lv+6) "tables_joined" PU (zQ D W))(GMOST_FIELDS:eP K mg "MOST_FIELDS" (iT 8))  : ae P w K mg base (lv+7) "dicts_joined" PU (zR D W):=by
 have nd:=w4.nd;refine h.pgood w4 (fun|_,_,_,_,_,_,[_,_],_=>rfl) (λf Qy A outer s H E F hr=>
   (aI (bD (eI (mT (cF hr (aU hr (aC 0) aG) bC) (oN (cF hr (aU hr (aC 1) aG) bC))))
    (aI (aZ 2 nd (bG (DV rfl rfl B.sorted rfl B.set_ (aL QJ hr (aD (aC 0) aE)) (aL QJ hr (aD (aC 1) aE)))))
    (aJ (bD (dM tE (bI cE rfl B.len dg (aD (aC 2) aE)) (pG GMOST_FIELDS rfl))
     (aJ (aR (aL Ru hr (aD (aC 0) (aD (aC 1) (aD (aC 2) aE))))))
     bB)))
    bB)
   (aJ (aR (aL Rv hr (aD (aC 0) (aD (aC 1) aE))))))) (λas R q=>?_)
 obtain⟨V,hv,ks,js,rfl,hD,hk,hj,le,q⟩:=q;have oT:∀t∈aO (ks++js),fX t:=λt ht=>by
  rw[iI]at ht;rcases qp_.mp ht with z|z
  ·exact hk.nms z
  ·exact hj.nms z
 have la:=Mb hk.ne hj.ne;have tab:¬ (aH (aO (ks++js))).length<=8->∀T1 T2:Tv,T1=aT (dc D ks)->T2=aT (dc D js)->∀s2:Sl,tR (lG (zQ D W) (iP (gJ 0) (iP (gJ 1) hZ))) {nx:=λx=>R nT,rt:=R} [.va T1,.va T2,s2]:=by
  rintro h T1 T2 rfl rfl s2;rw[hE h,la.1,la.2,iI,show dF (ks++js)=dF ks++dF js from p7 ..]at q;refine⟨V,hv,ks,js,rfl,hD,hk,hj,⟨λe=>h ?_,by rw[<-iI];exact le,by rw[<-iI];exact oT⟩,q⟩;rw[iI,e];exact dq _
 have nd:∀ks:List (List (Str×Tv)),((bV D ks).map (·.1)).Nodup:=λks=>by rw[mV];exact mD (gO _)
 have sl:∀l:List Str,(aY (aH l)).length=(aH l).length:=λl=>(fD _).length_eq
 by_cases h1:(aH (aO ks)).length<=8
 ·have e1:=hG (D:=D) h1;have E1:=eR (bJ (bH ks)) (bL (bH ks)) (bV D ks);by_cases h2:(aH (aO js)).length<=8
  ·have e2:=hG (D:=D) h2;have E2:=eR (bJ (bH js)) (bL (bH js)) (bV D js);have tab:=λh=>tab h _ _ (by rw[e1,E1]) (by rw[e2,E2])
   have sN8:∀ks:List (List (Str×Tv)),aY (aH (aO ks))=((bV D ks).map λx:mf=>(x.1,cI x)).map (·.1):=λks=>by
    rw[fg];exact(mV (D:=D) ks).symm
   have eN:aY (aH (aY (aH (aO ks))++aY (aH (aO js))))=aY (aH (aO (ks++js))):=(jZ λx=>by rw[iI,qp_,qp_,sort_set_mem,sort_set_mem]).2;have l1:=sl (aO ks);have l2:=sl (aO js);have l3:=sl (aO (ks++js));rw[e1,e2,E1,E2];refine⟨rfl,_,b5,_,rfl,sY ⟨_,b5,_,rfl,sY ⟨_,_,bV D ks,by rw[E1],by rw[lA];exact hk.le,nd ks,aY (aH (aO ks)),.inr ⟨_,rfl,sN8 ks⟩,by omega,_,_,bV D js,by rw[E2],by rw[lA];exact hj.le,nd js,aY (aH (aO js)),.inr ⟨_,rfl,sN8 js⟩,by omega,?_⟩⟩⟩;rw[eN];show az.nx _ _;refine gg (ρ':=[.va (.seq true [sT "record",iT (bJ (bH ks)),iT (bL (bH ks)),.seq true ((bV D ks).map cI)]),.va (.seq true [sT "record",iT (bJ (bH js)),iT (bL (bH js)),.seq true ((bV D js).map cI)]),.va (.seq false ((aY (aH (aO (ks++js)))).map sT))]) rfl ?_;refine⟨_,rfl,kM (λz=>?_) (λz=>?_)⟩
   ·have z:(((aY (aH (aO (ks++js)))).map sT).length:Int)<=8:=z;rw[ak]at z;rw[hG (by omega),la.1,la.2]at q;exact⟨V,hv,_,_,_,_,ks,js,aY (aH (aO (ks++js))),by rw[E1,E2],hD,hk,hj,by omega,q⟩
   ·have z:¬ (((aY (aH (aO (ks++js)))).map sT).length:Int)<=8:=z;rw[ak]at z;exact tab (by omega) (.va (.seq false ((aY (aH (aO (ks++js)))).map sT)))
  ·have e2:=hE (D:=D) h2;have E2:=fY (bJ (bH js)) (bL (bH js)) (bN (aO js)) (D (dF js));have big:¬ (aH (aO (ks++js))).length<=8:=λz=>h2 (bw (fQ (A:=aO js) λx hx=>by rw[iI];exact fe _ hx) z)
   have tab:=tab big _ _ (by rw[e1,E1]) (by rw[e2,E2]);rw[e1,e2,E1,E2];exact⟨rfl,_,b5,_,rfl,sY ⟨_,b5,_,rfl,sN (by decide +kernel) (tab .no)⟩⟩
 ·have e1:=hE (D:=D) h1;have E1:=fY (bJ (bH ks)) (bL (bH ks)) (bN (aO ks)) (D (dF ks));have big:¬ (aH (aO (ks++js))).length<=8:=λz=>h1 (bw (fQ (A:=aO ks) λx hx=>by rw[iI];exact ic _ hx) z)
  have tab:=λT2 e=>tab big _ T2 (by rw[e1,E1]) e
  rw[e1,E1];exact⟨rfl,_,b5,_,rfl,sN (by decide +kernel) (aQ (tab _ rfl .no))⟩
def zm(D:List Tv->List Pt)(W:(Tv->Prop)->Prop):bt:=λas R=>∃V:Tv->Prop,W V/\∃(a b a' b':Int) (A B:List Tv),as=[.va (aT (.lists a b (D A))),.va (aT (.lists a' b' (D B)))]/\(∀v∈A,V v)/\(∀v∈B,V v)/\R (aT (.lists (min a a') (max b b') (D (A++B))))
def wz:bF PU PU (aN pU):=bz (by decide +kernel)
def ES(h:ao K mg "lists_joined" pU)(B:Own mg)(QI:ae P w K mg base lv "joined" PU (oq D W))   : ae P w K mg base (lv+7) "lists_joined" PU (zm D W):=by
 have nd:=wz.nd;refine h.pgood wz (fun|_,_,_,_,_,_,[_,_],_=>rfl) (λf Qy A outer s H E F hr=>
   (aJ (aR (cA (aD bC (aD (bI (iM rfl) rfl B.min boot_min (aD (aU hr (aC 0) aG) (aD (aU hr (aC 1) aG) aE))) (aD (bI (gZ rfl) rfl B.max boot_max (aD (aU hr (aC 0) aG) (aD (aU hr (aC 1) aG) aE))) (aD (aL QI hr (aD (aU hr (aC 0) aG) (aD (aU hr (aC 1) aG) aE))) aE)))))))) (λas R q=>?_)
 obtain⟨V,hv,a,b,a',b',A,B,rfl,hA,hB,q⟩:=q;rw[iX]at q ⊢;rw[iX];exact⟨rfl,_,bK (j:=1) rfl,_,bK (j:=1) rfl,.inl ⟨_,_,rfl,_,bK (j:=2) rfl,_,bK (j:=2) rfl,.inl ⟨_,_,rfl,_,bK (j:=3) rfl,_,bK (j:=3) rfl,V,hv,A,B,rfl,hA,hB,by simp,q⟩⟩⟩
structure ik (V:Tv->Prop) (vs:List Tv):Prop where
 tx:∀t∈vs.filterMap ij,fX t
 tl:(aH (vs.filterMap ij)).length<=20
 ls:∀l∈vs.filterMap cw,∀v∈l,V v
 nd:∀k∈vs.filterMap fu,(k.map (·.1)).Nodup
 ok:∀k∈vs.filterMap fu,∀kt∈k,fX kt.1/\V kt.2
 le:(aH (aO (vs.filterMap fu))).length<=20
def ik.left{A B:List Tv}(h:ik V (A++B)):ik V A where
 tx:=λt ht=>h.tx t (by rw[i5];exact ic _ ht)
 tl:=bw (fQ λx hx=>by rw[i5];exact ic _ hx) h.tl
 ls:=λt ht=>h.ls t (by rw[i5];exact ic _ ht)
 nd:=λt ht=>h.nd t (by rw[i5];exact ic _ ht)
 ok:=λt ht=>h.ok t (by rw[i5];exact ic _ ht)
 le:=bw (fQ λx hx=>by rw[i5,iI];exact ic _ hx) h.le
def ik.right{A B:List Tv}(h:ik V (A++B)):ik V B where
 tx:=λt ht=>h.tx t (by rw[i5];exact fe _ ht)
 tl:=bw (fQ λx hx=>by rw[i5];exact fe _ hx) h.tl
 ls:=λt ht=>h.ls t (by rw[i5];exact fe _ ht)
 nd:=λt ht=>h.nd t (by rw[i5];exact fe _ ht)
 ok:=λt ht=>h.ok t (by rw[i5];exact fe _ ht)
 le:=bw (fQ λx hx=>by rw[i5,iI];exact fe _ hx) h.le
def uI(D:List Tv->List Pt)(W W':(Tv->Prop)->Prop):bt:=λas R=>∃V:Tv->Prop,W V/\∃V':Tv->Prop,W' V'/\∃(A B:List Tv) (k:Nat) (p q r:Pt),as=[.va (aT p),.va (aT q)]/\ph D/\ik V (A++B)/\(∀v∈A++B,V' v)/\bA D A k=some p/\bA D B k=some q/\bA D (A++B) k=some r/\R (aT r)
def eK{c:Prop}[Decidable c]{x p:Pt}(h:(if c then none else some x)=some p):¬ c/\x=p:=by
 by_cases z:c
 ·rw[if_pos z]at h;cases h
 ·rw[if_neg z]at h;exact⟨z,by injection h⟩
def J6(bs cs:List Bool):cy (b9 (bs++cs)) (b8 (bs++cs))=cy (b9 (cy (b9 bs) (b8 bs)) || b9 (cy (b9 cs) (b8 cs))) (b8 (cy (b9 bs) (b8 bs)) || b8 (cy (b9 cs) (b8 cs))):=by
 have e:∀f t:Bool,b9 (cy f t)=f/\b8 (cy f t)=t:=λf t=>by cases f<;>cases t<;>exact⟨rfl,rfl⟩
 rw[(e _ _).1,(e _ _).2,(e _ _).1,(e _ _).2];unfold b9 b8;rw[m7,m7]
def um:bF PU PU (aN pT):=bz (by decide +kernel)
def ET(h:ao K mg "parts_joined" pT)(B:Own mg)(Q3:ae P w K mg base 3 "run_joined" PU pB)(QK:ae P w K mg base 5 "words_joined" PU mI)(Rx:ae P w K mg base (lv+7) "lists_joined" PU (zm D W))(Rw:ae P w K mg base (lv+7) "dicts_joined" PU (zR D W))   : ae P w K mg base (lv+8) "parts_joined" PU (uI D W W'):=by
 have nd:=um.nd;refine h.pgood um (fun|_,_,_,_,_,_,[_,_],_=>rfl) (λf Qy A outer s H E F hr=>
   (aI (bD (cF hr (aU hr (aC 0) aG) bC)
    (aJ (aR (aC 0)))
    bB)
   (aI (bD (cF hr (aU hr (aC 0) aG) bC)
    (aJ (aR (cA (aD bC (aD (fN fO rfl B.tuple_ boot_tuple (aD (bG (NT rfl rfl B.sorted rfl B.set_ (aU hr (aC 0) aG) (aU hr (aC 1) aG))) aE)) aE)))))
    bB)
   (aI (bD (cF hr (aU hr (aC 0) aG) bC)
    (aJ (aR (bS dH (cA (aD bC aE)) (aL Q3 hr (aD (jB jO (aC 0) (jD aG) jE) (aD (jB jO (aC 1) (jD aG) jE) aE))))))
    bB)
   (aI (bD (cF hr (aU hr (aC 0) aG) bC)
    (aJ (aR (cA (aD bC (aD (aL QK hr (aD (aU hr (aC 0) aG) (aD (aU hr (aC 1) aG) aE))) aE)))))
    bB)
   (aI (bD (cF hr (aU hr (aC 0) aG) bC)
    (aJ (aR (aL Rx hr (aD (aC 0) (aD (aC 1) aE)))))
    bB)
   (aJ (aR (aL Rw hr (aD (aC 0) (aD (aC 1) aE))))))))))) (λas R q=>?_)
 obtain⟨V,hv,V',hv',A,B,k,p,p',r,rfl,hD,hV,hV',h1,h2,h3,q⟩:=q;have fa:∀{α:Type} (f:Tv->Option α),(A++B).filterMap f=A.filterMap f++B.filterMap f:=λf=>i5 ..
 unfold bA at h1;split at h1
 ·have hA:cX A=true:=by
   apply Classical.byContradiction;intro z;rw[if_neg z]at h1;cases h1
  rw[if_pos hA]at h1;cases h1;have h3:(if cX (A++B)=true then some Pt.nothing else none)=some r:=h3;rw[if_pos (by unfold cX at hA ⊢;rw[m7,hA];rfl)]at h3;cases h3;rw[uV]at q ⊢;exact⟨rfl,_,b5,_,rfl,sY q⟩
 ·have h3:(if (A++B).filterMap d5=[] then none else some (Pt.truths (cy (b9 ((A++B).filterMap d5)) (b8 ((A++B).filterMap d5)))))=some r:=h3;obtain⟨nA,rfl⟩:=eK h1;obtain⟨nB,rfl⟩:=eK (c:=B.filterMap d5=[]) h2;rw[fa d5,if_neg (λe=>nA (qn2_.mp e).1),J6]at h3;cases h3;rw[qO]at q ⊢;rw[qO];exact⟨rfl,_,b5,_,rfl,sN (by decide +kernel) ⟨_,b5,_,rfl,sY ⟨_,bK (j:=1) rfl,_,rfl,_,bK (j:=1) rfl,_,rfl,_,_,rfl,by simp,q⟩⟩⟩
 ·have h3:(if (A++B).filterMap jf=[] then none else some (Pt.numbers (cM ((A++B).filterMap jf)).1 (cM ((A++B).filterMap jf)).2.1 (cM ((A++B).filterMap jf)).2.2))=some r:=h3;obtain⟨nA,rfl⟩:=eK h1;obtain⟨nB,rfl⟩:=eK (c:=B.filterMap jf=[]) h2;rw[fa jf,if_neg (λe=>nA (qn2_.mp e).1),<-MY nA nB]at h3;cases h3;rw[rD]at q ⊢;rw[rD];exact⟨rfl,_,b5,_,rfl,sN (by decide +kernel) ⟨_,b5,_,rfl,sN (by decide +kernel) ⟨_,b5,_,rfl,sY ⟨by simp,_,rfl,_,rfl,_,_,rfl,(kA nA).ok,(kA nB).ok,by simp,q⟩⟩⟩⟩
 ·have h3:(if (A++B).filterMap ij=[] then none else some (Pt.texts (bN ((A++B).filterMap ij))))=some r:=h3;obtain⟨nA,rfl⟩:=eK h1;obtain⟨nB,rfl⟩:=eK (c:=B.filterMap ij=[]) h2;have ne:A.filterMap ij++B.filterMap ij≠[]:=λe=>nA (qn2_.mp e).1
  rw[fa ij,if_neg ne]at h3;cases h3;have tx:=hV.tx;have tl:=hV.tl;rw[fa ij]at tx tl;rw[qU]at q ⊢;rw[qU];exact⟨rfl,_,b5,_,rfl,sN (by decide +kernel) ⟨_,b5,_,rfl,sN (by decide +kernel) ⟨_,b5,_,rfl,sN (by decide +kernel) ⟨_,b5,_,rfl,sY ⟨_,bK (j:=1) rfl,_,bK (j:=1) rfl,_,_,rfl,nA,nB,⟨ne,tl,tx⟩,by simp,q⟩⟩⟩⟩⟩
 ·have h3:(if (A++B).filterMap cw=[] then none else some (Pt.lists (bJ (cU ((A++B).filterMap cw))) (bL (cU ((A++B).filterMap cw))) (D ((A++B).filterMap cw).flatten)))=some r:=h3;obtain⟨nA,rfl⟩:=eK h1;obtain⟨nB,rfl⟩:=eK (c:=B.filterMap cw=[]) h2;have hl:=hV.ls;rw[fa cw]at hl;have l1:cU (A.filterMap cw)≠[]:=by unfold cU;simpa using nA
  have l2:cU (B.filterMap cw)≠[]:=by unfold cU;simpa using nB
  rw[fa cw,if_neg (λe=>nA (qn2_.mp e).1),show cU (A.filterMap cw++B.filterMap cw)=cU (A.filterMap cw)++cU (B.filterMap cw) from ia ..,C5 l1 l2,C3 l1 l2,p6]at h3;cases h3;have ea:∀(a b a' b':Int) (f g:List Pt),[Ar.va (.seq true [sT "lists",iT a,iT b,bM f]),.va (.seq true [sT "lists",iT a',iT b',bM g])]=[.va (aT (.lists a b f)),.va (aT (.lists a' b' g))]:=λa b a' b' f g=>by rw[iX,iX]
  rw[iX (bJ (cU (A.filterMap cw))),iX (bJ (cU (B.filterMap cw)))];refine⟨rfl,_,b5,_,rfl,sN (by decide +kernel) ⟨_,b5,_,rfl,sN (by decide +kernel) ⟨_,b5,_,rfl,sN (by decide +kernel) ⟨_,b5,_,rfl,sN (by decide +kernel) ⟨_,b5,_,rfl,sY ⟨V,hv,_,_,_,_,_,_,ea _ _ _ _ _ _,λv hv=>?_,λv hv=>?_,q⟩⟩⟩⟩⟩⟩
  ·obtain⟨l,hl',hv⟩:=qi1_.mp hv;exact hl l (ic _ hl') v hv
  ·obtain⟨l,hl',hv⟩:=qi1_.mp hv;exact hl l (fe _ hl') v hv
 ·have h3:(if (A++B).filterMap fu=[] then none else some (dc D ((A++B).filterMap fu)))=some r:=h3;obtain⟨nA,rfl⟩:=eK h1;obtain⟨nB,rfl⟩:=eK (c:=B.filterMap fu=[]) h2;rw[fa fu,if_neg (λe=>nA (qn2_.mp e).1)]at h3;cases h3;have vl:=hV.left;have vr:=hV.right;have le:=hV.le;rw[fa fu]at le;have fin:∀T1:Tv,T1=aT (dc D (A.filterMap fu))->tR (lG (zR D W) (iP (gJ 0) (iP (gJ 1) hZ))) {nx:=λx=>R nT,rt:=R} [.va T1,.va (aT (dc D (B.filterMap fu)))]:=by
   rintro T1 rfl;exact⟨V,hv,_,_,rfl,hD,⟨nA,vl.nd,vl.ok,vl.le⟩,⟨nB,vr.nd,vr.ok,vr.le⟩,le,q⟩
  by_cases h:(aH (aO (A.filterMap fu))).length<=8
  ·have fin:=fin _ (by rw[hG h,eR]);rw[hG h,eR (bJ (bH (A.filterMap fu)))];exact⟨rfl,_,b5,_,rfl,sN (by decide +kernel) ⟨_,b5,_,rfl,sN (by decide +kernel) ⟨_,b5,_,rfl,sN (by decide +kernel) ⟨_,b5,_,rfl,sN (by decide +kernel) ⟨_,b5,_,rfl,sN (by decide +kernel) fin⟩⟩⟩⟩⟩
  ·have fin:=fin _ (by rw[hE h,fY]);rw[hE h,fY (bJ (bH (A.filterMap fu)))];exact⟨rfl,_,b5,_,rfl,sN (by decide +kernel) ⟨_,b5,_,rfl,sN (by decide +kernel) ⟨_,b5,_,rfl,sN (by decide +kernel) ⟨_,b5,_,rfl,sN (by decide +kernel) ⟨_,b5,_,rfl,sN (by decide +kernel) fin⟩⟩⟩⟩⟩
 ·cases h1
variable{D:List Tv->List Pt}{W W':(Tv->Prop)->Prop}{lv:Nat}
def BM{A B:List Tv}{k:Nat}(h:bA D B k=none):bA D (A++B) k=bA D A k:=by
 have no:∀{c:Prop} [Decidable c] {x:Pt},(if c then none else some x)=none->c:=λ{c} _ {x} h=>by
  by_cases z:c
  ·exact z
  ·rw[if_neg z]at h;cases h
 unfold bA at h ⊢;split at h
 ·have hB:cX B=false:=by
   cases e:cX B with
   |false=>rfl
   |true=>rw[e,if_pos rfl]at h;cases h
  have:cX (A++B)=cX A:=by
   show(A++B).any _=A.any _;rw[m7,show(B.any λv=>dN v==0)=false from hB,j8]
  rw[this]
 all_goals first|(have z:=no h;rw[i5,z,jk])|rfl
def Nk{A B:List Tv}{k:Nat}(h:bA D A k=none):bA D (A++B) k=bA D B k:=by
 have no:∀{c:Prop} [Decidable c] {x:Pt},(if c then none else some x)=none->c:=λ{c} _ {x} h=>by
  by_cases z:c
  ·exact z
  ·rw[if_neg z]at h;cases h
 unfold bA at h ⊢;split at h
 ·have hB:cX A=false:=by
   cases e:cX A with
   |false=>rfl
   |true=>rw[e,if_pos rfl]at h;cases h
  have:cX (A++B)=cX B:=by
   show(A++B).any _=B.any _;rw[m7,show(A.any λv=>dN v==0)=false from hB,qi]
  rw[this]
 all_goals first|(have z:=no h;rw[i5,z,gj])|rfl
def Mw{A B:List Tv}{k:Nat}{p:Pt}(h:bA D A k=some p):∃r,bA D (A++B) k=some r:=by
 have no:∀{c:Prop} [Decidable c] {x:Pt},(if c then none else some x)=none->c:=λ{c} _ {x} h=>by
  by_cases z:c
  ·exact z
  ·rw[if_neg z]at h;cases h
 cases e:bA D (A++B) k with
 |some r=>exact⟨r,rfl⟩
 |none=>
  unfold bA at h e;split at h
  ·have hA:cX A=true:=by
    cases z:cX A with
    |true=>rfl
    |false=>rw[z,if_neg cn]at h;cases h
   have:cX (A++B)=true:=by
    show(A++B).any _=true;rw[m7,show(A.any λv=>dN v==0)=true from hA];rfl
   rw[this,if_pos rfl]at e;cases e
  all_goals first|(have z:=no e;rw[i5]at z;exact absurd (qn2_.mp z).1 (eK h).1)|cases h
noncomputable def jx(D:List Tv->List Pt)(vs:List Tv):List Pt:=kN6.filterMap (bA D vs)
def Ck{vs:List Tv}{k:Nat}(h:k∈kN6):lN (jx D vs) k=bA D vs k:=xO (λ_ _=>CI) kN6 k h (by decide)
def wy:bF ["one","other","parts","kind","both"] PU (aN nQ):=bz (by decide +kernel)
def zf(h:ao K mg "joined" nQ)(B:Own mg)(QL:ae P w K mg base 2 "part_for" Qc oD)(Ry:ae P w K mg base (lv+8) "parts_joined" PU (uI D W W'))(GKINDS:eP K mg "KINDS" (.seq true (kN6.map λk=>sT (dA k))))(hD:ph D)(hW:∀V':Tv->Prop,W' V'->∃V:Tv->Prop,W V/\∀vs:List Tv,(∀v∈vs,V' v)->ik V vs):ae P w K mg base (lv+9) "joined" PU (oq (jx D) W'):=by
 have nd:=wy.nd;refine h.pgood wy (fun|_,_,_,_,_,_,[_,_],_=>rfl) (λf Qy A outer s H E F hr=>
   (aI (fV 2 nd (cD aE))
   (aI (dS (m:=5) g4 rfl (bU (pG GKINDS rfl)) (dB 3 (by decide) nd rfl (.inl rfl))
    (aI (fS (sc:=aN nQ) (XN:=["one","other","parts","kind","both"]) (N:=PX) (fr:=[]) 4 nd (bU (bG (cD (aD (aL QL hr (aD (aC 0) (aD (aC 3) aE))) (aD (aL QL hr (aD (aC 1) (aD (aC 3) aE))) aE))))) (λ_ _ _ _ _=>(fP (dM LG (aC 0) jG))) (λ_ _ _ _ _=>(aC 0)))
    (aI (bD (cF hr (bI cE rfl B.len dg (aD (aC 4) aE)) aG)
     (aJ (eF (fF 2 (aU hr (aC 4) aG))))
     bB)
    (aJ (bD (cF hr (bI cE rfl B.len dg (aD (aC 4) aE)) aG)
     (aJ (eF (fF 2 (aL Ry hr (aD (aU hr (aC 4) aG) (aD (aU hr (aC 4) aG) aE))))))
     bB)))))
   (aJ (aR (fN fO rfl B.tuple_ boot_tuple (aD (aC 2) aE))))))) (λas R q=>?_)
 obtain⟨V',hv',A,B,rfl,hA,hB,q⟩:=q;obtain⟨V,hv,hV⟩:=hW V' hv';refine⟨rfl,by simp,?_⟩;show az.nx _ _;refine gg (ρ':=[.va (bM (jx D A)),.va (bM (jx D B)),.own [],.no,.no]) rfl ?_;have hall:∀v∈A++B,V' v:=λv hv=>(qp_.mp hv).elim (hA v) (hB v)
 have hAB:ik V (A++B):=hV _ hall;refine kB (λi ρ=>∃(L:List Pt) (s1 s2:Sl),L=((kN6.take i).filterMap (bA D (A++B)))/\ρ=[.va (bM (jx D A)),.va (bM (jx D B)),.own (L.map aT),s1,s2]) ⟨[],.no,.no,rfl,rfl⟩ ?_ ?_
 ·rintro i T _ N hT ⟨L,s1,s2,eL,rfl⟩ hN;have hT:(kN6.map λk=>sT (dA k))[i]?=some T:=hT;rw[fo,qd1_]at hT;obtain⟨k,hk,rfl⟩:=hT;have hkm:k∈kN6:=gq hk;have hk6:k<=5:=by
   simp only[kN6,qh_,da,or_false]at hkm;omega
  have hi:i<6:=(qx_.mp hk).1;have et:(kN6.take (i+1)).filterMap (bA D (A++B))=(kN6.take i).filterMap (bA D (A++B))++(bA D (A++B) k).toList:=by
   rw[f7,i5,hk];cases e:bA D (A++B) k<;>simp[e]
  have ll:((kN6.take i).filterMap (bA D (A++B))).length<=6:=by
   refine bw (kj _ _) ?_;rw[jj];omega
  rw[<-eL]at et ll;refine⟨jx D A,k,rfl,hk6,jx D B,k,rfl,hk6,by simp,by simp,?_⟩;have fA:((jx D A).find? λp=>decide (fU p=k))=bA D A k:=Ck hkm;have fB:((jx D B).find? λp=>decide (fU p=k))=bA D B k:=Ck hkm;rw[fA,fB];refine iZ zW (λo=>o.map aT) (l:=[bA D A k,bA D B k]) (λo ho R q=>?_) ?_
  ·cases o with
   |none=>exact⟨_,rfl,aQ q⟩
   |some p=>
    obtain⟨r,e,_⟩:=BN p;have q:R (some (aT p)) _:=q;rw[e]at q;rw[show zW (some p)=.seq true (sT (kH p)::r) from e];exact⟨_,rfl,bZ q⟩
  have put:∀(r:Pt) (s4:Sl),bA D (A++B) k=some r->N [.va (bM (jx D A)),.va (bM (jx D B)),.own (L.map aT++[aT r]),.va (sT (dA k)),s4]:=λr s4 e=>hN _ ⟨L++[r],.va (sT (dA k)),s4,by rw[et,e];rfl,by rw[ia];rfl⟩
  have one:∀(p:Pt),bA D (A++B) k=some p->(tQ (yp (uB (ke x9 (uq uK (iP (gJ 4) hZ)) (uC (iT 1)))) (yN (xA 2 (ke uw (gJ 4) (uC (iT 0))))) tT) (yp (uB (ke x9 (uq uK (iP (gJ 4) hZ)) (uC (iT 2)))) (yN (xA 2 (lG (uI D W W') (iP (ke uw (gJ 4) (uC (iT 0))) (iP (ke uw (gJ 4) (uC (iT 1))) hZ))))) tT)) {nx:=N,rt:=R,bk:=λρ'=>tR (uq Be (iP (gJ 2) hZ)) {nx:=λx=>R nT,rt:=R} ρ',ct:=N} [.va (bM (jx D A)),.va (bM (jx D B)),.own (L.map aT),.va (sT (dA k)),.va (.seq false [aT p])]:=λp e=>
   ⟨_,rfl,eZ (λ_=>⟨⟨_,rfl⟩,_,b5,_,rfl,by rw[ak];omega,_,rfl,eZ (λz=>absurd z (show ¬ ((1:Nat):Int)=2 by decide)) (λ_=>put p _ e)⟩) (λz=>absurd rfl z)⟩
  cases ea:bA D A k with
  |none=>
   cases eb:bA D B k with
   |none=>
    have e0:bA D (A++B) k=none:=(BM eb).trans ea;exact⟨_,rfl,eZ (λz=>absurd z (by decide)) (λ_=>⟨_,rfl,eZ (λz=>absurd z (by decide)) (λ_=>hN _ ⟨L,.va (sT (dA k)),_,by rw[et,e0];simp,rfl⟩)⟩)⟩
   |some p=>exact one p ((Nk ea).trans eb)
  |some p=>
   cases eb:bA D B k with
   |none=>exact one p ((BM eb).trans ea)
   |some p'=>
    obtain⟨r,er⟩:=Mw (B:=B) ea;exact⟨_,rfl,eZ (λz=>absurd z (show ¬ ((2:Nat):Int)=1 by decide)) (λ_=>⟨_,rfl,eZ (λ_=>⟨⟨_,rfl⟩,_,b5,_,bK (j:=1) rfl,V,hv,V',hv',A,B,k,p,p',r,rfl,hD,hAB,hall,ea,eb,er,_,rfl,by rw[ak];omega,put r _ er⟩) (λz=>absurd rfl z)⟩)⟩
 ·rintro _ ⟨L,s1,s2,eL,rfl⟩;have eL:L=jx D (A++B):=eL;subst eL;exact⟨false,_,rfl,q⟩
def G5{rs:List Str}{r:Int}(h0:0<=r)(h1:r<rs.length):∃x,rs[r.toNat]?=some x:=⟨rs[r.toNat]'(by omega),b6 _⟩
def CY{α β:Type}(f:α->β):∀(l:List α) (i:Nat),(l.map f).eraseIdx i=(l.eraseIdx i).map f
 |[],_=>by simp
 |_::_,0=>by simp
 |a::l,i+1=>by simp[CY f l i]
variable{n:Nat}
def LI{kts:List (Str×Tv)}{s:Str}{T:Tv}{kt:Str×Tv}(h:kt∈eQ kts s T):kt∈kts\/kt=(s,T):=by
 unfold eQ at h;split at h
 ·obtain⟨x,hx,rfl⟩:=qf_.mp h;split
  ·rename_i e;rw[e];exact .inr rfl
  ·exact .inl hx
 ·rcases qp_.mp h with h|h
  ·exact .inl h
  ·exact .inr (qB_.mp h)
def De{kts:List (Str×Tv)}{s:Str}{T:Tv}:(eQ kts s T).length<=kts.length+1:=by
 unfold eQ;split
 ·rw[ak];omega
 ·rw[b7];exact ba _
def VD(nm tx:List Str):Nat->Tv->Prop
 |0,_=>False
 |_+1,.leaf .non=>True
 |_+1,.leaf (.bl _)=>True
 |_+1,.leaf (.int i)=>yi i
 |_+1,.leaf (.str s)=>s∈tx
 |n+1,.seq false xs=>xs.length<=11/\∀x∈xs,VD nm tx n x
 |n+1,.dct kts=>(kts.map (·.1)).Nodup/\kts.length<=11/\∀kt∈kts,kt.1∈nm/\VD nm tx n kt.2
 |_,_=>False
def Cv{nm tx:List Str}{T:Tv}(h:yR tx T):VD nm tx (n+1) T:=by
 cases T with
 |leaf v=>cases v<;>exact h
 |seq t xs=>exact False.elim h
 |dct k=>exact False.elim h
def VD.put{nm tx:List Str}{kts:List (Str×Tv)}{s:Str}{T:Tv}(h:VD nm tx (n+1) (.dct kts))(l:kts.length<11)(hs:s∈nm)(hT:VD nm tx n T):VD nm tx (n+1) (.dct (eQ kts s T)):=by
 refine⟨Ef h.1,by have:=De (kts:=kts) (s:=s) (T:=T);omega,λkt hk=>?_⟩;rcases LI hk with z|rfl
 ·exact h.2.2 kt z
 ·exact⟨hs,hT⟩
def mO(n:Nat):bt:=λas R=>∃nm tx st sp,∃deep way:Int,as=[.dk,.va (eW nm tx st sp),.va (iT deep),.va (iT way)]/\gX nm tx st sp/\0<=deep/\deep<n/\0<=way/\way<=9/\∀T,VD nm tx n T->R T
def Bh(n:Nat):bt:=λas R=>∃nm tx st sp,∃deep many:Int,as=[.dk,.va (eW nm tx st sp),.va (iT deep),.va (iT many)]/\gX nm tx st sp/\1<=deep/\deep<=n/\0<=many/\many<=11/\∀T,VD nm tx (n+1) T->R T
def wa:bF ["_law_deck_here","_law_world_here","_law_deep","_law_many","_law_names","_law_found","_law_k","_law_name"] Qq (aN tV):=bz (by decide +kernel)
def E6(h:ao K mg "_law_dict" tV)(B:Own mg)(QB:ae P w K mg base 2 "_law_take" PY gF)(QP:ae P w K mg base (6+2*n) "_law_value" P_ (mO n))   : ae P w K mg base (6+2*n+1) "_law_dict" Qq (Bh n):=by
 have nd:=wa.nd;refine h.pgood wa (fun|_,_,_,_,_,_,[_,_,_,_],_=>rfl) (λf Qy A outer s H E F hr=>
   (aI (fV 4 nd (nZ qX rfl B.list_ boot_list (aD (aU hr (aC 1) aG) aE)))
   (aI (Do (i:=5) nd rfl (.inl rfl))
   (aI (dS (m:=8) g4 rfl (iY rfl B.range (aD (aC 3) aE)) (dB 6 (by decide) nd rfl (.inl rfl))
    (aI (aZ 7 nd (Nx 4 (aL QB hr (bY 0 (aD (rT λF=>(bI cE rfl B.len dg (aD (aC 4) aE))) aE)))))
    (aJ (By (i:=5) (pL hr) rfl (by first|exact Or.inl rfl|exact Or.inr (Or.inl rfl)|exact Or.inr (Or.inr rfl)) (aC 7) (aL QP hr (bY 0 (aD (aC 1) (aD (bI (gZ rfl) rfl B.max boot_max (aD aG (aD (bS jJ (bS jJ (aC 2) aG) (bS Cb (aC 3) aG)) aE))) (aD aG aE)))))))))
   (aJ (aR (aC 5))))))) (λas R q=>?_)
 obtain⟨nm,tx,st,sp,deep,many,rfl,hw,d1,dn,m0,m11,q⟩:=q;refine⟨rfl,_,rfl,false,_,rfl,?_⟩;refine⟨_,rfl,by omega,by omega,?_⟩;refine kB (λi ρ=>∃(rs:List Str) (kts:List (Str×Tv)) (s1 s2:Sl),rs.length+i=11/\(∀s∈rs,s∈nm)/\kts.length<=i/\VD nm tx (n+1) (.dct kts)/\ρ=[.dk,.va (eW nm tx st sp),.va (iT deep),.va (iT many),.own (rs.map sT),.dct kts,s1,s2]) ⟨nm,[],.no,.no,hw.n11,λs h=>h,dq _,⟨j6,by decide,λkt h=>nomatch h⟩,rfl⟩ ?_ ?_
 ·rintro i T _ N hT ⟨rs,kts,s1,s2,hl,hr,hk,hv,rfl⟩ hN;have hi:=(oI hT).1;refine⟨⟨_,rfl⟩,rfl,_,rfl,(rs.map sT).length,rfl,by rw[ak];omega,by rw[ak];exact cL (by omega) (by omega),λr r0 r1=>?_⟩;rw[ak]at r1;obtain⟨x,hx⟩:=G5 r0 r1;refine⟨r,_,sT x,rfl,rfl,r0,by rw[fo,hx];rfl,?_⟩;rw[CY];have hxn:=hr x (gq hx);refine⟨rfl,⟨by decide,cL (by decide) (by decide)⟩,.inl ⟨0,_,rfl,nm,tx,st,sp,_,9,rfl,hw,by omega,by omega,by decide,by decide,λT hT=>?_⟩⟩;have pl:=De (kts:=kts) (s:=x) (T:=T);have el:(rs.eraseIdx r.toNat).length=rs.length-1:=by rw[List.length_eraseIdx,if_pos (by omega)]
  exact⟨⟨_,rfl⟩,kts,x,rfl,rfl,by omega,hN _ ⟨rs.eraseIdx r.toNat,eQ kts x T,_,_,by omega,λs hs=>hr s (List.mem_of_mem_eraseIdx hs),by omega,hv.put (by omega) hxn hT,rfl⟩⟩
 ·rintro _ ⟨rs,kts,s1,s2,hl,hr,hk,hv,rfl⟩;exact q _ hv
def qS{α β:Type}{r:α->β->Prop}{g:β->Prop}(h:∀a b,r a b->g b):∀{l:List α}{m:List β},Paired r l m->∀b∈m,g b
 |_,_,.nil,b,hb=>nomatch hb
 |_,_,.cons r t,b,hb=>by
  rcases qh_.mp hb with rfl|hb
  ·exact h _ _ r
  ·exact qS h t b hb
def ug:bF Qu P_ (aN pR):=bz (by decide +kernel)
def E7(h:ao K mg "_law_value" pR)(B:Own mg)(QB:ae P w K mg base 2 "_law_take" PY gF)(QV:ae P w K mg base 5 "_law_leaf" P4 pC)(QP:ae P w K mg base (6+2*n) "_law_value" P_ (mO n))(RC:ae P w K mg base (6+2*n+1) "_law_dict" Qq (Bh n))   : ae P w K mg base (6+2*n+2) "_law_value" P_ (mO (n+1)):=by
 have nd:=ug.nd;refine h.pgood ug (fun|_,_,_,_,_,_,[_,_,_,_],_=>rfl) (λf Qy A outer s H E F hr=>
   (aI (bD (cF hr (aC 3) aG)
    (aJ (aZ 3 nd (aL QB hr (bY 0 (aD aG aE)))))
    bB)
   (aI (bD (eI (fG (cF hr (aC 2) aG) (gD (dM lH (aC 3) aG))))
    (aJ (aR (aL QV hr (bY 0 (aD (aC 1) aE)))))
    bB)
   (aI (aZ 4 nd (aU hr (bG (cD (aD aG (aD aG (aD aG (aD aG (aD aG (aD aG (aD aG (aD aG aE)))))))))) (aL QB hr (bY 0 (aD aG aE)))))
   (aI (bD (dM lH (aC 3) aG)
    (aJ (aR (bG (fH (sc:=aN pR) (XN:=Qu) (N:=["_law_k","_law_deck_here","_law_world_here","_law_deep"]) (fr:=[0,1,2]) (iY rfl B.range (aD (aC 4) aE)) (λ_ _ _ _ _=>(aL QP hr (bY 1 (aD (aC 2) (aD (bS jJ (aC 3) aG) (aD aG aE))))))))))
    bB)
   (aI (bD (cF hr (aL QB hr (bY 0 (aD aG aE))) aG)
    (aJ (aZ 4 nd (bS dH aG (aL QB hr (bY 0 (aD aG aE))))))
    bB)
   (aJ (aR (aL RC hr (bY 0 (aD (aC 1) (aD (aC 2) (aD (aC 4) aE))))))))))))) (λas R q=>?_)
 obtain⟨nm,tx,st,sp,deep,way,rfl,hw,d0,d1,w0,w9,q⟩:=q;refine⟨rfl,_,rfl,eZ (λ_=>⟨rfl,9,rfl,by decide,cL (by decide) (by decide),λway w0 w9=>?_⟩) (λ_=>?_)⟩
 all_goals
  refine⟨_,rfl,eZ (λ_=>bZ ⟨rfl,nm,tx,st,sp,rfl,hw,λT hT=>q T (Cv hT)⟩) (λz=>⟨_,rfl,i3 (λ_=>⟨rfl,nm,tx,st,sp,rfl,hw,λT hT=>q T (Cv hT)⟩) (λ_=>?_)⟩)⟩;refine⟨by decide,rfl,8,rfl,by decide,cL (by decide) (by decide),λr r0 r1=>?_⟩;obtain⟨M,hM,hMm⟩:=kO (l:=[iT 0,iT 1,iT 2,iT 3,iT 2,iT 1,iT 4,iT 6]) r0 r1;have hm:∃m:Int,M=iT m/\0<=m/\m<=6:=by
   simp only[qh_,da,or_false]at hMm;rcases hMm with e|e|e|e|e|e|e|e<;>subst e<;>exact⟨_,rfl,by decide,by decide⟩
  obtain⟨m,rfl,m0,m6⟩:=hm;refine⟨_,hM,?_⟩;clear hM hMm;refine⟨_,rfl,i3 (λ_=>⟨_,rfl,by omega,by omega,by rw[iF];omega,rF (λT U=>VD nm tx n U) (λT hT R hR=>⟨rfl,nm,tx,st,sp,_,9,rfl,hw,by omega,by omega,by decide,by decide,λU hU=>hR U hU⟩) (λUs hUs=>?_)⟩) (λ_=>?_)⟩
  ·refine q _ ⟨?_,qS (g:=VD nm tx n) (λa b h=>h) hUs⟩;have:=hUs.length;rw[iF]at this;omega
  ·exact⟨rfl,6,rfl,by decide,cL (by decide) (by decide),λr r0 r1=>⟨_,rfl,i3 (λ_=>⟨rfl,4,rfl,by decide,cL (by decide) (by decide),λe e0 e1=>⟨rfl,nm,tx,st,sp,deep,_,rfl,hw,by omega,by omega,by omega,by omega,λT hT=>q T hT⟩⟩) (λ_=>⟨rfl,nm,tx,st,sp,deep,_,rfl,hw,by omega,by omega,by omega,by omega,λT hT=>q T hT⟩)⟩⟩
def wR(hv:ao K mg "_law_value" pR)(hd:ao K mg "_law_dict" tV)(B:Own mg)(G1:ae P w K mg base 2 "_law_take" PY gF)(G2:ae P w K mg base 5 "_law_leaf" P4 pC):∀n:Nat,ae P w K mg base (6+2*n) "_law_value" P_ (mO n)
 |0=>hv.pfalse ug (fun|_,_,_,_,_,_,[_,_,_,_],_=>rfl) λas R ⟨_,_,_,_,_,_,_,_,h0,h1,_⟩=>by omega
 |n+1=>E7 hv B G1 G2 (wR hv hd B G1 G2 n) (E6 hd B G1 (wR hv hd B G1 G2 n))
def Fo{nm tx:List Str}{st sp:Int}(hw:gX nm tx st sp){n:Nat}{vs:List Tv}(h:∀v∈vs,VD nm tx (n+1) v):ik (VD nm tx n) vs:=by
 have hs:∀t∈vs.filterMap ij,t∈tx:=λt ht=>by
  obtain⟨v,hv,e⟩:=qM_.mp ht;rw[Jv]at e;subst e;exact h _ hv
 have hd:∀k∈vs.filterMap fu,VD nm tx (n+1) (.dct k):=λk hk=>by
  obtain⟨v,hv,e⟩:=qM_.mp hk;rw[Jt]at e;subst e;exact h _ hv
 have hn:∀x∈aO (vs.filterMap fu),x∈nm:=λx hx=>by
  obtain⟨k,hk,hx⟩:=qh1_.mp hx;obtain⟨kt,hkt,rfl⟩:=qf_.mp hx;exact((hd k hk).2.2 kt hkt).1
 refine⟨λt ht=>?_,?_,λl hl=>?_,λk hk=>(hd k hk).1,λk hk kt hkt=>?_,?_⟩
 ·have:=hw.ts t (hs t ht);exact⟨this.1,by have:=this.2;omega⟩
 ·have:=WordM.nodup_len (dE (vs.filterMap ij)) (m:=tx) λx hx=>hs x ((cO _ x).mp hx)
  have:=hw.t9;omega
 ·obtain⟨v,hv,e⟩:=qM_.mp hl;rw[Ju]at e;subst e;exact(h _ hv).2
 ·have a:=(hd k hk).2.2 kt hkt;have:=hw.ns kt.1 a.1;exact⟨⟨this.1,by have:=this.2;omega⟩,a.2⟩
 ·have:=WordM.nodup_len (dE (aO (vs.filterMap fu))) (m:=nm) λx hx=>hn x ((cO _ x).mp hx)
  have:=hw.n11;omega
def WD(n:Nat)(V:Tv->Prop):Prop:=∃nm tx st sp,gX nm tx st sp/\V=VD nm tx n
def ED(n:Nat):ph (aV n):=⟨rE n,wV n⟩
def D0:List Tv->List Pt:=λ_=>[]
def W0:(Tv->Prop)->Prop:=λV=>∀v,¬ V v
section
variable{D:List Tv->List Pt}{W W':(Tv->Prop)->Prop}{lv:Nat}
def JE(hj:ao K mg "joined" nQ)(hp:ao K mg "parts_joined" pT)(hl:ao K mg "lists_joined" pU)(hd:ao K mg "dicts_joined" pV)(ht:ao K mg "tables_joined" pW)(ha:ao K mg "all_joined" nP)(hr:ao K mg "records_joined" pX)(hf:ao K mg "field_joined" pY)(B:Own mg)
  (QL:ae P w K mg base 2 "part_for" Qc oD) (Q3:ae P w K mg base 3 "run_joined" PU pB) (QK:ae P w K mg base 5 "words_joined" PU mI) (QJ:ae P w K mg base 1 "fields_by_name" P7 nU) (QO:ae P w K mg base 5 "name_words" PX qA) (QN:ae P w K mg base 1 "forms_within" PX qB)
  (GMOST_FIELDS:eP K mg "MOST_FIELDS" (iT 8)) (GKINDS:eP K mg "KINDS" (.seq true (kN6.map λk=>sT (dA k))))
  (hD:ph D) (hW:∀V':Tv->Prop,W' V'->∃V:Tv->Prop,W V/\∀vs:List Tv,(∀v∈vs,V' v)->ik V vs)
  (QI:ae P w K mg base lv "joined" PU (oq D W)):ae P w K mg base (lv+9) "joined" PU (oq (jx D) W'):=
 zf (lv:=lv) hj B QL (ET hp B Q3 QK (ES hl B QI) (ER hd B QJ (FH hr B QJ (FG hf B QI)) (FJ ht B QO QK (zV ha B QI) QN) GMOST_FIELDS)) GKINDS hD hW
def wU(D:List Tv->List Pt)(k:Nat):bA D [] k=none:=by
 unfold bA;split<;>rfl
def BZ(D:List Tv->List Pt):jx D []=[]:=by
 unfold jx;rw[qo2_];exact λk _=>wU D k
def IG(n:Nat):aV (n+1)=jx (aV n):=funext λvs=>rfl
def sP{V:Tv->Prop}(h:∀v,¬ V v){A:List Tv}(hA:∀v∈A,V v):A=[]:=qX1_.mpr λv hv=>h v (hA v hv)
def Cn(hj:ao K mg "joined" nQ)(hp:ao K mg "parts_joined" pT)(hl:ao K mg "lists_joined" pU)(hd:ao K mg "dicts_joined" pV)(ht:ao K mg "tables_joined" pW)(ha:ao K mg "all_joined" nP)(hr:ao K mg "records_joined" pX)(hf:ao K mg "field_joined" pY)(B:Own mg)
  (QL:ae P w K mg base 2 "part_for" Qc oD) (Q3:ae P w K mg base 3 "run_joined" PU pB) (QK:ae P w K mg base 5 "words_joined" PU mI) (QJ:ae P w K mg base 1 "fields_by_name" P7 nU) (QO:ae P w K mg base 5 "name_words" PX qA) (QN:ae P w K mg base 1 "forms_within" PX qB)
  (GMOST_FIELDS:eP K mg "MOST_FIELDS" (iT 8)) (GKINDS:eP K mg "KINDS" (.seq true (kN6.map λk=>sT (dA k)))):∀n:Nat,ae P w K mg base (9*n+9) "joined" PU (oq (aV n) (WD n))
 |0=>by
  have z:ae P w K mg base 8 "parts_joined" PU (uI D0 (λ_=>True) W0):=hp.pfalse um (fun|_,_,_,_,_,_,[_,_],_=>rfl) λas R ⟨V,_,V',h0,A,B',k,p,q,r,_,_,_,ha',h1,_⟩=>by
   have:A=[]:=sP h0 λv hv=>ha' v (ic _ hv)
   rw[this,wU]at h1;cases h1
  have g:=zf (lv:=0) (D:=D0) (W:=λ_=>True) (W':=W0) hj B QL z GKINDS ⟨λ_ _ _=>rfl,rfl⟩ (λV' h0=>⟨V',trivial,λvs hvs=>by
   rw[sP h0 hvs];exact⟨λt h=>(nomatch h),dq _,λt h=>(nomatch h),λt h=>(nomatch h),λt h=>(nomatch h),dq _⟩⟩)
  refine g.imp λas R ⟨V,⟨nm,tx,st,sp,hw,eV⟩,A,B',e,hA,hB,q⟩=>?_
  subst eV;have h0:∀v,¬ VD nm tx 0 v:=λv h=>h
  have eA:=sP h0 hA;have eB:=sP h0 hB;subst eA eB;refine⟨VD nm tx 0,h0,[],[],?_,λv h=>(nomatch h),λv h=>(nomatch h),?_⟩
  ·rw[e,BZ];rfl
  ·rw[jk,BZ];exact q
 |n+1=>by
  rw[IG];exact JE hj hp hl hd ht ha hr hf B QL Q3 QK QJ QO QN GMOST_FIELDS GKINDS (ED n) (λV' ⟨nm,tx,st,sp,hw,e⟩=>⟨VD nm tx n,⟨nm,tx,st,sp,hw,rfl⟩,λvs h=>Fo hw λv hv=>by have:=h v hv;rw[e]at this;exact this⟩) (Cn hj hp hl hd ht ha hr hf B QL Q3 QK QJ QO QN GMOST_FIELDS GKINDS n)
end
variable{n:Nat}
def yM{c:Nat}{S:Str}{A B:Prop}(h1:c∈cs S->A)(h2:c∉cs S->B):if (false != qr ⟨#[c]⟩ S)=true then A else B:=by
 have:(false != qr ⟨#[c]⟩ S)=decide (c∈cs S):=by unfold qr;rw[StrLaws.found_one];simp
 rw[this];exact kM h1 h2
def yE:bt:=λas R=>∃c:Nat,as=[.va (sT ⟨#[c]⟩)]/\R (sT (fJ c))
def v8:bF Qd Qd (aN yU):=bz (by decide +kernel)
def Fc(h:ao K mg "_law_mark" yU)(B:Own mg)    : ae P w K mg base 1 "_law_mark" Qd yE:=by
 have nd:=v8.nd;refine h.pgood v8 (fun|_,_,_,_,_,_,[_],_=>rfl) (λf Qy A outer s H E F hr=>
   (aI (bD (dM (nD hr.units) (aC 0) bC rfl)
    (aJ (aR bC))
    bB)
   (aI (bD (dM (nD hr.units) (aC 0) bC rfl)
    (aJ (aR bC))
    bB)
   (aI (bD (dM (nD hr.units) (aC 0) bC rfl)
    (aJ (aR bC))
    bB)
   (aJ (aR bC)))))) (λas R q=>?_)
 obtain⟨c,rfl,q⟩:=q;unfold fJ at q;refine⟨rfl,_,rfl,yM (λa=>?_) (λa=>⟨_,rfl,yM (λb=>?_) (λb=>⟨_,rfl,yM (λd=>?_) (λd=>?_)⟩)⟩)⟩
 ·rw[if_pos (show c∈cs nL from a)]at q;exact q
 ·rw[if_neg (show c∉cs nL from a),if_pos (show c∈cs oY from b)]at q;exact q
 ·rw[if_neg (show c∉cs nL from a),if_neg (show c∉cs oY from b),if_pos (show c∈cs sI from d)]at q;exact q
 ·rw[if_neg (show c∉cs nL from a),if_neg (show c∉cs oY from b),if_neg (show c∉cs sI from d)]at q;exact q
def vL:bt:=λas R=>∃a b:Int,as=[.va (iT a),.va (iT b)]/\R (iT (GcdM.g a b))
def v9:bF PZ PZ (aN yV):=bz (by decide +kernel)
def Fb(h:ao K mg "_law_divisor" yV)(B:Own mg)    : ae P w K mg base 1 "_law_divisor" PZ vL:=by
 have nd:=v9.nd;refine h.pgood v9 (fun|_,_,_,_,_,_,[_,_],_=>rfl) (λf Qy A outer s H E F hr=>
   (aI (oG g4 (dQ hr (aC 1) aG)
    (aJ (J9 (i:=0) (j:=1) rfl nd rfl rfl (by decide) rfl rfl (aD (aC 1) (aD (bS La (aC 0) (aC 1)) aE)) (by rfl))))
   (aJ (aR (bI Ii rfl B.abs boot_abs (aD (aC 0) aE)))))) (λas R q=>?_)
 obtain⟨a,b,rfl,q⟩:=q;refine⟨rfl,λm ρ=>∃x y:Int,m=y.natAbs/\GcdM.g x y=GcdM.g a b/\ρ=[.va (iT x),.va (iT y)],⟨_,a,b,rfl,rfl,rfl⟩,?_⟩;rintro m _ ⟨x,y,rfl,e,rfl⟩;refine⟨_,rfl,i3 (λz=>?_) (λz=>?_)⟩
 ·have hy:y≠0:=by simpa[cz]using z
  exact⟨hy,_,_,rfl,_,GcdM.fmod_less hy,y,x.fmod y,rfl,(GcdM.g_turnF hy).trans e,rfl⟩
 ·have hy:y=0:=by simpa[cz]using z
  subst hy;rw[GcdM.g_abs x]at e;refine⟨_,rfl,?_⟩;rw[e];exact q
def tG:bt:=λas R=>∃ns:List Int,as=[.va (.seq false (ns.map iT))]/\ns≠[]/\R (pZ (cM ns))
def CL{n0 d:Int}:∀{ns:List Int}{s:Int},d ∣ ns.foldl (λs n=>GcdM.g s (n-n0)) s↔d ∣ s/\∀n∈ns,d ∣ (n-n0)
 |[],s=>⟨λh=>⟨h,λn hn=>nomatch hn⟩,λh=>h.1⟩
 |a::ns,s=>by
  rw[f9,CL,GcdM.g_dvd];constructor
  ·rintro⟨⟨h1,h2⟩,h3⟩;refine⟨h1,λn hn=>?_⟩;rcases qh_.mp hn with rfl|hn
   ·exact h2
   ·exact h3 n hn
  ·rintro⟨h1,h2⟩;exact⟨⟨h1,h2 a (.head _)⟩,λn hn=>h2 n (.tail _ hn)⟩
def Ds{n0:Int}:∀{ns:List Int}{s:Int},0<=s->0<=ns.foldl (λs n=>GcdM.g s (n-n0)) s
 |[],s,h=>h
 |a::ns,s,h=>by rw[f9];exact Ds (GcdM.g_nonneg _ _)
def vz:bF ["_law_numbers","_law_step","_law_number_here"] Qf (aN yT):=bz (by decide +kernel)
def Fe(h:ao K mg "_law_run" yT)(B:Own mg)(Ra:ae P w K mg base 1 "_law_divisor" PZ vL)   : ae P w K mg base 2 "_law_run" Qf tG:=by
 have nd:=vz.nd;refine h.pgood vz (fun|_,_,_,_,_,_,[_],_=>rfl) (λf Qy A outer s H E F hr=>
   (aI (aZ 1 nd aG)
   (aI (dS (m:=3) g4 rfl (bU (aC 0)) (dB 2 (by decide) nd rfl (.inl rfl))
    (aJ (aZ 1 nd (aL Ra hr (aD (aC 1) (aD (bS jJ (aC 2) (aU hr (aC 0) aG)) aE))))))
   (aJ (aR (cA (aD (bI (iM rfl) rfl B.min boot_min (aD (aC 0) aE)) (aD (bI (gZ rfl) rfl B.max boot_max (aD (aC 0) aE)) (aD (aC 1) aE))))))))) (λas R q=>?_)
 obtain⟨ns,rfl,ne,q⟩:=q;have l0:0<ns.length:=qY1_.mpr ne;obtain⟨n0,hn0⟩:∃n0,ns[0]?=some n0:=⟨_,b6 l0⟩
 have n0m:=gq hn0;have b5:gh (ns.map iT) 0=some (iT n0):=bK (j:=0) (by rw[fo,hn0];rfl);refine⟨rfl,?_⟩;refine gC iT (l:=ns) (λi ρ=>∃s2:Sl,ρ=[.va (.seq false (ns.map iT)),.va (iT ((ns.take i).foldl (λs n=>GcdM.g s (n-n0)) 0)),s2]) ⟨.no,rfl⟩ ?_ ?_
 ·rintro i a _ N ha ⟨s2,rfl⟩ hN;refine⟨_,b5,_,a-n0,rfl,hN _ ⟨.va (iT a),?_⟩⟩;rw[f7,ha,n_];rfl
 ·rintro _ ⟨s2,rfl⟩;rw[d_];refine .inr (.inl ⟨ns,rfl,l0,λlo lo1 lo2=>.inr (.inl ⟨ns,rfl,l0,λhi hi1 hi2=>⟨by simp,?_⟩⟩)⟩);have e:(lo,hi,ns.foldl (λs n=>GcdM.g s (n-n0)) 0)=cM ns:=rM ⟨lo1,lo2,hi1,hi2,Ds (ku 0),λd=>by
   show d ∣ ns.foldl (λs n=>GcdM.g s (n-n0)) 0↔∀n,n∈ns->d ∣ (n-lo);rw[CL];constructor
   ·rintro⟨_,h⟩ n hn;have:=jo (h n hn) (h lo lo1);rwa[show n-n0-(lo-n0)=n-lo by omega]at this
   ·intro h;refine⟨i8 _,λn hn=>?_⟩;have:=jo (h n hn) (h n0 n0m);rwa[show n-lo-(n0-lo)=n-n0 by omega]at this⟩
  rw[<-e]at q;exact q
def vA{t h:Str}(e:j4 t h=true):cs t=cs h++cs (aX t h)/\(aX t h).length+h.length=t.length:=by
 obtain⟨r,er⟩:=stW_iff.mp e;have:=kW er;refine⟨by rw[this];exact er,?_⟩;have l:=congrArg List.length er;rw[b7,<-WordM.len,<-WordM.len]at l;rw[WordM.len (aX t h),this];omega
def AJ:∀{ss:List Str}{m:Nat},(∀s∈ss,s.length<=m)->(cJ ss).length<=ss.length*m
 |[],m,_=>by simp[cJ]
 |s::ss,m,h=>by
  have h1:=h s (.head _);have h2:=AJ (ss:=ss) (m:=m) λt ht=>h t (.tail _ ht)
  have e:(cJ (s::ss)).length=s.length+(cJ ss).length:=by simp[cJ,Str.length]
  rw[e,g6,Nat.succ_mul];omega
def Jx{ss:List Str}{s:Str}{c:Nat}(hs:s∈ss)(hc:c∈cs s):c∈cJ ss:=by
 unfold cJ;exact qh1_.mpr ⟨s,hs,hc⟩
def oQ:bt:=λas R=>∃ss:List Str,as=[.va (.seq false (ss.map sT))]/\ss≠[]/\(∀s∈ss,Sg s/\s.length<=43)/\(aH ss).length<64/\R (bR (bN ss))
def v7:bF Qg Qe (aN lT):=bz (by decide +kernel)
theorem Fd(h:ao K mg "_law_words" lT)(B:Own mg)(Rb:ae P w K mg base 1 "_law_mark" Qd yE)   : ae P w K mg base 2 "_law_words" Qe oQ:=by
 have nd:=v7.nd;refine h.pgood v7 (fun|_,_,_,_,_,_,[_],_=>rfl) (λf Qy A outer s H E F hr=>
   (aI (aZ 1 nd (bG (qJ rfl rfl B.sorted rfl B.set_ (aC 0))))
   (aI (bD (dM lH (bI cE rfl B.len dg (aD (aC 1) aE)) aG)
    (aJ (aR (cA (aD bC (aD (fN fO rfl B.tuple_ boot_tuple (aD (aC 1) aE)) aE)))))
    bB)
   (aI (aZ 2 nd (aU hr (aC 1) aG))
   (aI (oG g4 (dQ hr (bG (kI (sc:=aN lT) (XN:=Qg) (N:=Qo) (fr:=[2]) (bU (aC 1)) (λ_ _ _ _ _=>(fP (jI (cR (sH PySem.F.slot_str_startswith PySem.F.type_str_startswith MR (aC 0) (aD (aC 1) aE)))))) (λ_ _ _ _ _=>(aC 0)))) (bG (cD aE)))
    (aJ (aZ 2 nd (jB jO (aC 2) jE (jD (yI yB aG))))))
   (aI (fS (sc:=aN lT) (XN:=Qg) (N:=Qo) (fr:=[2]) 3 nd (bU (aC 1)) (λ_ _ _ _ _=>gY) (λ_ _ _ _ _=>(jB jO (aC 0) (jD (bI cE rfl B.len dg (aD (aC 1) aE))) jE)))
   (aI (fS (sc:=aN lT) (XN:=Qg) (N:=["_law_rest"]) (fr:=[]) 4 nd (bU (aC 3)) (λ_ _ _ _ _=>gY) (λ_ _ _ _ _=>(bI cE rfl B.len dg (aD (aC 0) aE))))
   (aI (aZ 5 nd (bG (qJ rfl rfl B.sorted rfl B.set_ (bG (fH (sc:=aN lT) (XN:=Qg) (N:=Qd) (fr:=[]) (bU (sH PySem.F.slot_str_join PySem.F.type_str_join B5 bC (aD (aC 3) aE))) (λ_ _ _ _ _=>(aL Rb hr (aD (aC 0) aE))))))))
   (aJ (aR (cA (aD bC (aD (aC 2) (aD (bI (iM rfl) rfl B.min boot_min (aD (aC 4) aE)) (aD (bI (gZ rfl) rfl B.max boot_max (aD (aC 4) aE)) (aD (fN fO rfl B.tuple_ boot_tuple (aD (aC 5) aE)) aE)))))))))))))))) (λas R q=>?_)
 obtain⟨ss,rfl,ne,ht,l64,q⟩:=q;have hl:(aY (aH ss)).length=(aH ss).length:=vG _;have hr:=gO ss;have hm:∀x,x∈aY (aH ss)↔x∈ss:=λx=>sort_set_mem
 have hne:0<(aH ss).length:=by
  obtain⟨x,hx⟩:=i7 _ ne;exact List.length_pos_of_mem ((cO ss x).mpr hx)
 have ewd:bN ss=if (aH ss).length<7 then .few (aY (aH ss)) else fK ss:=rfl
 refine⟨rfl,ss,rfl,l64,?_⟩;generalize aY (aH ss)=us at hl hr hm ewd;have hu:∀t∈us,Sg t/\t.length<=43:=λt h=>ht t ((hm t).mp h)
 refine⟨_,rfl,i3 (λz=>?_) (λz=>?_)⟩
 ·have z:((us.map sT).length:Int)<7:=by simpa using z
  rw[ak]at z;rw[ewd,if_pos (by omega)]at q;exact⟨_,_,rfl,by simp,q⟩
 have z:¬ ((us.map sT).length:Int)<7:=by simpa using z
 rw[ak]at z;have nd:us.Nodup:=mD hr;obtain⟨x0,hx0⟩:∃x0,us[0]?=some x0:=⟨_,b6 (by omega)⟩
 have b5:gh (us.map sT) 0=some (sT x0):=bK (j:=0) (by rw[fo,hx0];rfl);have x0m:=gq hx0;refine⟨_,b5,?_⟩;refine⟨λm ρ=>∃(h:Str) (s3 s4 s5:Sl),m=h.length/\Sg h/\h.length<=43/\((∃r,cs x0=cs h++r)/\∀h':List Nat,(∀t∈us,∃r,cs t=h'++r)->h'.length<=(cs h).length)/\ρ=[.va (.seq false (ss.map sT)),.va (.seq false (us.map sT)),.va (sT h),s3,s4,s5],⟨_,x0,_,_,_,rfl,(hu x0 x0m).1,(hu x0 x0m).2,⟨⟨[],by rw[jk]⟩,λh' hh=>by obtain⟨r,e⟩:=hh x0 x0m;rw[e,b7];omega⟩,rfl⟩,?_⟩;rintro m _ ⟨h,s3,s4,s5,rfl,sh,lh,⟨hpre,htop⟩,rfl⟩;refine⟨by rw[ak];omega,?_⟩;refine iZ sT (λt=>if j4 t h=true then none else some (sT t)) (λt ht' R q=>⟨rfl,_,_,rfl,rfl,_,rfl,i3 (λz=>?_) (λz=>?_)⟩) ?_
 ·have z:(!j4 t h)=true:=z;have z:j4 t h=false:=by cases e:j4 t h with|false=>rfl|true=>rw[e]at z;cases z
  rw[if_neg (by rw[z];exact cn)]at q;exact q
 ·have z:(!j4 t h)=false:=z;have z:j4 t h=true:=by cases e:j4 t h with|true=>rfl|false=>rw[e]at z;cases z
  rw[if_pos z]at q;exact q
 refine⟨by simp,.inr (.inl rfl),_,rfl,i3 (λz=>?_) (λz=>?_)⟩
 ·have hpos:0<h.length:=by
   refine Nat.pos_of_ne_zero λe=>?_
   have:(us.filterMap λt=>if j4 t h=true then none else some (sT t))=[]:=qo2_.mpr λt _=>by
    rw[if_pos];refine stW_iff.mpr ⟨cs t,?_⟩;rw[WordM.len]at e;rw[j7 e];rfl
   rw[this]at z;simp[bO]at z
  have l':=OY hpos;have cl':=Eh hpos;have hlen:h.length=(cs h).length:=WordM.len h;have nst:¬ ∀t∈us,j4 t h=true:=λhall=>by
   have:(us.filterMap λt=>if j4 t h=true then none else some (sT t))=[]:=qo2_.mpr λt ht'=>by rw[if_pos (hall t ht')]
   rw[this]at z;simp[bO]at z
  refine⟨_,rfl,by omega,_,by rw[l'];omega,Txt.slice h none (some (-1)),_,_,_,rfl,sh.slice _ _,by rw[l'];omega,⟨?_,λh' hh=>?_⟩,rfl⟩
  ·obtain⟨r,e⟩:=hpre;refine⟨(cs h).drop (h.length-1)++r,?_⟩;rw[cl',<-jv,qg];exact e
  ·rw[cl',jj];have h1:=htop h' hh;have:h'.length≠(cs h).length:=λe=>nst λt ht'=>by
    obtain⟨r1,e1⟩:=hpre;obtain⟨r2,e2⟩:=hh x0 x0m;have eh:h'=cs h:=List.append_inj_left (e2.symm.trans e1) e;obtain⟨r,e3⟩:=hh t ht';exact stW_iff.mpr ⟨r,by rw[e3,eh]⟩
   omega
 have hall:∀t∈us,j4 t h=true:=by
  have:(us.filterMap λt=>if j4 t h=true then none else some (sT t))=[]:=by
   generalize (us.filterMap λt=>if j4 t h=true then none else some (sT t))=L at z;cases L with
   |nil=>rfl
   |cons a L=>simp[bO]at z
  intro t ht';have:=qo2_.mp this t ht';cases e:j4 t h with
  |true=>rfl
  |false=>rw[e]at this;simp at this
 have rl:∀t∈us,(aX t h).length<=43:=λt ht'=>by
  have:=(vA (hall t ht')).2;have:=(hu t ht').2;omega
 refine⟨by rw[ak];omega,dY sT (λt=>sT (aX t h)) (λt ht' R q=>⟨by omega,_,rfl,by have:=(hu t ht').2;omega,q⟩) ?_⟩;refine⟨by rw[ak];omega,dY (λt=>sT (aX t h)) (λt=>iT ((aX t h).length:Nat)) (λt ht' R q=>⟨by have:=rl t ht';omega,q⟩) ?_⟩;have cl:(cJ (us.map λt=>aX t h)).length<=64*43:=by
  have:=AJ (ss:=us.map λt=>aX t h) (m:=43) λs hs=>by
   obtain⟨t,ht',rfl⟩:=qf_.mp hs;exact rl t ht'
  rw[ak]at this;have:=jn 43 (show us.length<=64 by omega);omega
 refine⟨rfl,us.map λt=>aX t h,rfl,by rw[fg];rfl,by omega,?_⟩;refine⟨by rw[ak];show(cJ (us.map λt=>aX t h)).length<=100000;omega,?_⟩;refine dY (λc:Nat=>sT ⟨#[c]⟩) (λc=>sT (fJ c)) (λc hc R q=>⟨c,rfl,q⟩) ?_;have mkm:∀m∈(cJ (us.map λt=>aX t h)).map fJ,m∈MK:=λm hm=>by
  obtain⟨c,_,rfl⟩:=qf_.mp hm;exact WordM.mark_in c
 have sl4:(aH ((cJ (us.map λt=>aX t h)).map fJ)).length<=4:=WordM.nodup_len (dE _) (m:=MK) λx hx=>mkm x ((cO _ x).mp hx)
 refine⟨(cJ (us.map λt=>aX t h)).map fJ,by rw[fg];rfl,by omega,?_⟩;have en:(us.map λt=>iT ((aX t h).length:Nat))=(us.map λt=>(((aX t h).length:Nat):Int)).map iT:=by rw[fg];rfl
 refine .inr (.inl ⟨us.map λt=>(((aX t h).length:Nat):Int),by rw[<-en],by rw[ak];omega,λlo lo1 lo2=>.inr (.inl ⟨us.map λt=>(((aX t h).length:Nat):Int),by rw[<-en],by rw[ak];omega,λhi hi1 hi2=>⟨_,_,rfl,by simp,?_⟩⟩)⟩);have rf:∀t∈us,(t.length:Int)-(h.length:Int)=((aX t h).length:Nat):=λt ht'=>by have:=(vA (hall t ht')).2;omega
 have mo:jh us h lo hi (aY (aH ((cJ (us.map λt=>aX t h)).map fJ))):=by
  obtain⟨t1,t1m,e1⟩:=qf_.mp lo1;obtain⟨t2,t2m,e2⟩:=qf_.mp hi1;refine⟨⟨λt ht'=>⟨_,(vA (hall t ht')).1⟩,htop⟩,⟨t1,t1m,by rw[rf t1 t1m];exact e1⟩,λt ht'=>by rw[rf t ht'];exact lo2 _ (qf_.mpr ⟨t,ht',rfl⟩),⟨t2,t2m,by rw[rf t2 t2m];exact e2⟩,λt ht'=>by rw[rf t ht'];exact hi2 _ (qf_.mpr ⟨t,ht',rfl⟩),?_⟩;refine mH (gO _) (mB _ _) λm=>?_
  rw[sort_set_mem,marksOf_mem,qf_];constructor
  ·rintro⟨c,hc,e⟩;obtain⟨x,hx,hc⟩:=qh1_.mp (show c∈(us.map λt=>aX t h).flatMap cs from hc);obtain⟨t,ht',rfl⟩:=qf_.mp hx;exact⟨t,ht',c,hc,e⟩
  ·rintro⟨t,ht',c,hc,e⟩;exact⟨c,Jx (qf_.mpr ⟨t,ht',rfl⟩) hc,e⟩
 rw[ewd,if_neg (by omega),xI (us:=us) ne λx=>(hm x).symm,<-rZ mo]at q;exact q
abbrev jP(k:List (Str×Tv)):List Str:=k.map (·.1)
def dG(ks:List (List (Str×Tv))):List Str:=ks.flatMap jP
def allK_mem{ks:List (List (Str×Tv))}{x:Str}:x∈dG ks↔∃k∈ks,x∈jP k:=qh1_
def JC{a b:Nat}:(false != cz (.int (a:Nat)) (.int (b:Nat)))=true↔a=b:=by
 constructor
 ·intro z;have:(a:Int)=(b:Int):=by simpa[cz]using z
  omega
 ·intro e;subst e;simp[cz]
def A5{α β:Type}{g:α->Option β}:∀{ks:List α},(ks.filterMap g).length=ks.length↔∀k∈ks,(g k).isSome=true
 |[]=>by simp
 |k::ks=>by
  have ih:=A5 (g:=g) (ks:=ks);have le:=kj g ks;rw[ie];cases e:g k with
  |none=>
   simp only[g6,List.forall_mem_cons,e];constructor
   ·intro h;omega
   ·intro h;exact absurd h.1 (by simp)
  |some v=>
   simp only[g6,List.forall_mem_cons,e,sa,true_and];rw[<-ih];omega
def look_some{k:List (Str×Tv)}{x:Str}:(bX k x).isSome=true↔x∈jP k:=by
 cases e:bX k x with
 |none=>exact⟨λh=>(nomatch h),λh=>absurd h (lookD_none.mp e)⟩
 |some U=>exact⟨λ_=>qf_.mpr ⟨_,vQ e,rfl⟩,λ_=>rfl⟩
def BD{ks:List (List (Str×Tv))}(h:∀k∈ks,k.length<=11)(i:Nat):(dG (ks.take i)).length<=ks.length*11:=by
 have h1:∀l:List (List (Str×Tv)),(∀k∈l,k.length<=11)->(dG l).length<=l.length*11:=λl=>by
  induction l with
  |nil=>intro _;simp[dG]
  |cons k l ih=>
   intro hk;have a:=hk k (.head _);have b:=ih λx hx=>hk x (.tail _ hx)
   show(jP k++dG l).length<=_;rw[b7,ak,g6];omega
 have:=h1 (ks.take i) λk hk=>h k (ny hk)
 rw[jj]at this;have:min i ks.length*11<=ks.length*11:=jn _ (sy _ _);omega
def iO(ks:List (List (Str×Tv))):List Tv:=ks.flatMap λk=>k.map (·.2)
def DW{ks:List (List (Str×Tv))}(h:∀k∈ks,k.length<=11)(i:Nat):(iO (ks.take i)).length<=ks.length*11:=by
 have e:∀l:List (List (Str×Tv)),(iO l).length=(dG l).length:=λl=>by
  induction l with
  |nil=>rfl
  |cons k l ih=>
   show(k.map (·.2)++iO l).length=(jP k++dG l).length;rw[b7,b7,ih,ak,ak]
 rw[e];exact BD h i
def Cy{ks:List (List (Str×Tv))}{i:Nat}{k:List (Str×Tv)}(h:ks[i]?=some k):dG (ks.take (i+1))=dG (ks.take i)++jP k:=by
 obtain⟨hi,rfl⟩:=qx_.mp h;unfold dG;rw[pq hi,p7];simp
def Ei{ks:List (List (Str×Tv))}{i:Nat}{k:List (Str×Tv)}(h:ks[i]?=some k):iO (ks.take (i+1))=iO (ks.take i)++k.map (·.2):=by
 obtain⟨hi,rfl⟩:=qx_.mp h;unfold iO;rw[pq hi,p7];simp
def nE(m:Nat):bt:=λas R=>∃(n:Nat) (nm tx:List Str) (st sp:Int) (vs:List Tv),as=[.va (.seq false vs)]/\gX nm tx st sp/\(∀v∈vs,VD nm tx n v)/\vs.length*11 ^ n<=1100000/\n<m/\n<=50/\R (bM (aV n vs))
def B_(m:Nat):bt:=λas R=>∃(n:Nat) (nm tx:List Str) (st sp:Int) (ks:List (List (Str×Tv))),as=[.va (.seq false (ks.map Tv.dct))]/\gX nm tx st sp/\(∀k∈ks,VD nm tx (n+1) (.dct k))/\ks≠[]/\ks.length*11 ^ (n+1)<=1100000/\n<m/\n<=50/\R (aT (dc (aV n) ks))
variable{m:Nat}
def vt:bF Ql ["_law_dicts_here"] (aN lR):=bz (by decide +kernel)
def Ff(h:ao K mg "_law_dicts" lR)(B:Own mg)(QM:ae P w K mg base (3+2*m) "_law_due" Qa (nE m))(QZ:ae P w K mg base 2 "_law_words" Qe oQ)   : ae P w K mg base (3+2*m+1) "_law_dicts" ["_law_dicts_here"] (B_ m):=by
 have nd:=vt.nd;refine h.pgood vt (fun|_,_,_,_,_,_,[_],_=>rfl) (λf Qy A outer s H E F hr=>
   (aI (fV 1 nd (cD aE))
   (aI (dS (m:=8) g4 rfl (bU (aC 0)) (dB 2 (by decide) nd rfl (.inl rfl))
    (aJ (eF (vF 1 (bG (nZ (LH rfl) rfl B.list_ boot_list (aD (aC 2) aE)))))))
   (aI (fV 1 nd (qJ rfl rfl B.sorted rfl B.set_ (aC 1)))
   (aI (aZ 3 nd (bI (iM rfl) rfl B.min boot_min (aD (bG (fH (sc:=aN lR) (XN:=Ql) (N:=["_law_one"]) (fr:=[]) (bU (aC 0)) (λ_ _ _ _ _=>(bI cE rfl B.len dg (aD (aC 0) aE))))) aE)))
   (aI (aZ 4 nd (bI (gZ rfl) rfl B.max boot_max (aD (bG (fH (sc:=aN lR) (XN:=Ql) (N:=["_law_one"]) (fr:=[]) (bU (aC 0)) (λ_ _ _ _ _=>(bI cE rfl B.len dg (aD (aC 0) aE))))) aE)))
   (aI (bD (dM AU (rT λF=>(bI cE rfl B.len dg (aD (aC 1) aE))) aG)
    (aI (fV 5 nd (cD aE))
    (aI (dS (m:=8) g4 rfl (bU (aC 0)) (dB 2 (by decide) nd rfl (.inl rfl))
     (aJ (eF (vF 5 (bG (Ny rfl rfl B.list_ (aC 2)))))))
    (aJ (aR (cA (aD bC (aD (aC 3) (aD (aC 4) (aD (aL QZ hr (aD (aC 1) aE)) (aD (aL QM hr (aD (aC 5) aE)) aE))))))))))
    bB)
   (aI (fV 6 nd (cD aE))
   (aI (dS (m:=8) g4 rfl (bU (aC 1)) (dB 7 (by decide) nd rfl (.inr rfl))
    (aI (Bz (i:=5) (sc:=aN lR) (XN:=Ql) (N:=["_law_one","_law_name"]) (own:=1) (fr:=[7]) rfl nd rfl (.inl rfl) ⟨rfl,by decide +kernel,by decide +kernel,by decide +kernel,rfl,by decide +kernel,by decide,by decide +kernel⟩ (by decide) (bU (aC 0)) (λ_ _ _ _ _=>(dB 0 (by decide) (show(["_law_one","_law_name"]:List Str).Nodup by decide +kernel) rfl (by first|exact Or.inl rfl|exact Or.inr rfl))) (λ_ _ _ _ _=>(fP (dM (nD hr.units) (aC 1) (aC 0) rfl))) (λ_ _ _ _ _=>(aU hr (aC 0) (aC 1))))
    (aJ (eF (fF 6 (cA (aD (aC 7) (aD (hJ (lI hr.units).op (rT λF=>(bI cE rfl B.len dg (aD (aC 5) aE))) (bI cE rfl B.len dg (aD (aC 0) aE))) (aD (aL QM hr (aD (aC 5) aE)) aE)))))))))
   (aJ (aR (cA (aD bC (aD (aC 3) (aD (aC 4) (aD (fN fO rfl B.tuple_ boot_tuple (aD (aC 6) aE)) aE)))))))))))))))) (λas R q=>?_)
 obtain⟨n,nm,tx,st,sp,ks,rfl,hw,hk,kne,hl,nm',n50,q⟩:=q;have knd:∀k∈ks,(jP k).Nodup:=λk h=>(hk k h).1
 have k11:∀k∈ks,k.length<=11:=λk h=>(hk k h).2.1
 have knm:∀k∈ks,∀x∈jP k,x∈nm:=λk h x hx=>by
  obtain⟨kt,hkt,rfl⟩:=qf_.mp hx;exact((hk k h).2.2 kt hkt).1
 have p1:1<=11 ^ n:=nv _ _ (by decide);have hl2:ks.length*11*11 ^ n<=1100000:=by rw[mh]at hl;rw[nr,jt 11];exact hl
 have hl3:ks.length<=100000:=by
  have:=bw (pk (ks.length*11) p1) hl2;omega
 have kb:∀j,(dG (ks.take j)).length<=100000/\(iO (ks.take j)).length<=100000:=λj=>by
  have a:=BD k11 j;have b:=DW k11 j;cases n with
  |zero=>
   have z:∀k∈ks.take j,k=[]:=λk h=>qX1_.mpr λkt hkt=>((hk k (ny h)).2.2 kt hkt).2
   have e1:dG (ks.take j)=[]:=List.flatMap_eq_nil_iff.mpr λk h=>by rw[z k h];rfl
   have e2:iO (ks.take j)=[]:=List.flatMap_eq_nil_iff.mpr λk h=>by rw[z k h];rfl
   rw[e1,e2];exact⟨dq _,dq _⟩
  |succ n=>
   have p2:1<=11 ^ n:=nv _ _ (by decide);have:ks.length*11*11<=1100000:=by
    refine bw (pk _ p2) ?_;rw[nr (ks.length*11),jt 11 (11 ^ n),<-mh];exact hl2
   omega
 have kpos:0<ks.length:=qY1_.mpr kne;refine⟨rfl,by simp,?_⟩;refine gC Tv.dct (l:=ks) (λi ρ=>∃s2,ρ=[.va (.seq false (ks.map Tv.dct)),.own ((dG (ks.take i)).map sT),s2,.no,.no,.no,.no,.no]) ⟨_,rfl⟩ ?_ ?_
 ·rintro i k _ N hki ⟨s2,rfl⟩ hN;have l1:=(kb (i+1)).1;rw[Cy hki,b7,ak]at l1;refine⟨⟨_,rfl⟩,k,rfl,_,_,rfl,rfl,by rw[ak,ak];omega,hN _ ⟨.va (.dct k),?_⟩⟩;show [Sl.va (.seq false (ks.map Tv.dct)),.own ((dG (ks.take i)).map sT++k.map λkt=>sT kt.1),.va (.dct k),.no,.no,.no,.no,.no]=_;rw[Cy hki,ia,fg];rfl
 rintro _ ⟨s2,rfl⟩;rw[d_];have sl:(aH (dG ks)).length<=11:=by
  have:=WordM.nodup_len (dE (dG ks)) (m:=nm) λx hx=>by
   obtain⟨k,h1,h2⟩:=allK_mem.mp ((cO _ x).mp hx);exact knm k h1 x h2
  rw[hw.n11]at this;exact this
 refine⟨dG ks,rfl,by omega,?_⟩;have hr:=gO (dG ks);have hm:∀x,x∈aY (aH (dG ks))↔∃k∈ks,x∈jP k:=λx=>sort_set_mem.trans allK_mem
 have nl:(aY (aH (dG ks))).length<=11:=by rw[vG];exact sl
 have enm:∀x,x∈aY (aH (dG ks))↔x∈aO ks:=λx=>sort_set_mem
 have slm:(aY (aH (dG ks))).length=(aH (aO ks)).length:=vG _;have erc:bV (aV n) ks=(aY (aH (dG ks))).map (cZ (aV n) ks):=rfl;generalize aY (aH (dG ks))=names at hr hm nl enm slm erc;have nn:∀x∈names,Sg x/\x.length<=40:=λx hx=>by
  obtain⟨k,h1,h2⟩:=(hm x).mp hx;exact hw.ns x (knm k h1 x h2)
 have lens:(ks.map λk=>iT (k.length:Nat))=(ks.map λk=>((k.length:Nat):Int)).map iT:=by rw[fg];rfl
 refine⟨by rw[ak];omega,dY Tv.dct (λk=>iT (k.length:Nat)) (λk hk R q=>q) ?_⟩;refine .inr (.inl ⟨ks.map λk=>((k.length:Nat):Int),by rw[lens],by rw[ak];exact kpos,λa a1 a2=>?_⟩);refine⟨by rw[ak];omega,dY Tv.dct (λk=>iT (k.length:Nat)) (λk hk R q=>q) ?_⟩;refine .inr (.inl ⟨ks.map λk=>((k.length:Nat):Int),by rw[lens],by rw[ak];exact kpos,λb b1 b2=>?_⟩);have ea:bJ (bH ks)=a:=mP a1 a2;have eb:bL (bH ks)=b:=mQ b1 b2;refine⟨_,rfl,_,rfl,i3 (λz=>?_) (λz=>?_)⟩
 ·have z:(8:Int)<((names.map sT).length:Nat):=by simpa using z
  rw[ak]at z;refine⟨by simp,?_⟩;refine gC Tv.dct (l:=ks) (λi ρ=>∃s2,ρ=[.va (.seq false (ks.map Tv.dct)),.own (names.map sT),s2,.va (iT a),.va (iT b),.own (iO (ks.take i)),.no,.no]) ⟨_,rfl⟩ ?_ ?_
  ·rintro i k _ N hki ⟨s2,rfl⟩ hN;have l1:=(kb (i+1)).2;rw[Ei hki,b7,ak]at l1;refine⟨⟨_,rfl⟩,k,rfl,_,_,rfl,rfl,by rw[ak];omega,hN _ ⟨.va (.dct k),?_⟩⟩;rw[Ei hki];rfl
  rintro _ ⟨s2,rfl⟩;rw[d_];have vl:=DW k11 ks.length;rw[d_]at vl;have snd:(aH names).length=names.length:=by
   have h1:=WordM.nodup_len (dE names) (m:=names) λx hx=>(cO _ x).mp hx
   have h2:=WordM.nodup_len (mD hr) (m:=aH names) λx hx=>(cO _ x).mpr hx
   omega
  refine⟨names,rfl,λe=>by rw[e]at z;simp at z,λx hx=>⟨(nn x hx).1,by have:=(nn x hx).2;omega⟩,by omega,?_⟩;rw[hE (by omega),ea,eb,<-mG enm,fY]at q;refine⟨n,nm,tx,st,sp,iO ks,rfl,hw,λv hv=>?_,?_,nm',n50,by simp,q⟩
  ·obtain⟨k,h1,h2⟩:=qh1_.mp hv;obtain⟨kt,h3,rfl⟩:=qf_.mp h2;exact((hk k h1).2.2 kt h3).2
  ·exact bw (jn _ vl) hl2
 ·have z:¬ (8:Int)<((names.map sT).length:Nat):=by simpa using z
  rw[ak]at z;refine⟨by simp,?_⟩;refine gC sT (l:=names) (λi ρ=>∃(s2 s5 s7:Sl),ρ=[.va (.seq false (ks.map Tv.dct)),.va (.seq false (names.map sT)),s2,.va (iT a),.va (iT b),s5,.own (((names.take i).map (cZ (aV n) ks)).map cI),s7]) ⟨_,_,_,rfl⟩ ?_ ?_
  ·rintro i x _ N hx ⟨s2,s5,s7,rfl⟩ hN;have xm:=gq hx;refine⟨by rw[ak];omega,?_⟩;refine iZ Tv.dct (λk=>bX k x) (λk hk R q=>⟨_,rfl,i3 (λz=>?_) (λz=>?_)⟩) ?_
   ·cases e:bX k x with
    |none=>rw[e]at z;cases z
    |some U=>rw[e]at q;exact⟨U,e,q⟩
   ·cases e:bX k x with
    |none=>rw[e]at q;exact q
    |some U=>rw[e]at z;cases z
   have vle:=kj (λk=>bX k x) ks;refine⟨⟨_,rfl⟩,_,rfl,n,nm,tx,st,sp,ks.filterMap (λk=>bX k x),rfl,hw,λv hv=>?_,?_,nm',n50,by simp,_,rfl,?_,?_⟩
   ·obtain⟨k,h1,h2⟩:=qM_.mp hv;exact((hk k h1).2.2 _ (vQ h2)).2
   ·refine bw (jn _ vle) (bw ?_ hl2);exact jn _ (by omega)
   ·rw[ak,ak,jj];omega
   ·refine hN _ ⟨s2,.va (.seq false (ks.filterMap λk=>bX k x)),.va (sT x),?_⟩;rw[f7,hx,ia,ia];have eb:(false != cz (.int ((ks.filterMap λk=>bX k x).length:Nat)) (.int ((ks.map Tv.dct).length:Nat)))=ks.all (λk=>decide (x∈k.map (·.1))):=by
     rw[i9,ak,JC,A5,qp1_];exact⟨λh k hk=>jd (look_some.mp (h k hk)),λh k hk=>look_some.mpr (kf (h k hk))⟩
    rw[eb];rfl
  ·rintro _ ⟨s2,s5,s7,rfl⟩;rw[d_];rw[hG (by omega),ea,eb,eR,erc]at q;exact⟨_,_,rfl,by simp,q⟩
variable{m:Nat}
theorem kZ{b:Bool}{A:de}{P:az}{ρ:aW}{α:Type}{J:α->Prop}(e:α->aW)(h1:b=true->(∀x,J x->P.nx (e x))->A P ρ)(h2:b=false->∃x,J x/\e x=ρ)(rest:∀x,J x->P.nx (e x)):if b=true then A P ρ else tT P ρ:=by
 cases b with
 |true=>exact bZ (h1 rfl rest)
 |false=>
  obtain⟨x,hx,rfl⟩:=h2 rfl;exact aQ (rest x hx)
def nV{N:aW->Prop}{ρ ρ':aW}(h:N ρ')(e:ρ=ρ'):N ρ:=e▸h
def md(k:Nat)(l:List Tv):List Tv:=l.filterMap λv=>bif dN v==k then some v else none
def sel_mem{k:Nat}{l:List Tv}{v:Tv}:v∈md k l↔v∈l/\dN v=k:=by
 unfold md;rw[qM_];constructor
 ·rintro⟨a,ha,e⟩;cases c:dN a==k with
  |true=>rw[c]at e;cases e;exact⟨ha,by simpa using c⟩
  |false=>rw[c]at e;cases e
 ·rintro⟨h,e⟩;exact⟨v,h,by rw[e];simp⟩
def xD(k:Nat)(l:List Tv):(md k l).length<=l.length:=kj _ _
def VD.six{nm tx:List Str}{n:Nat}{v:Tv}(h:VD nm tx n v):v=nT\/(∃b,v=bT b)\/(∃i,v=iT i)\/(∃s,v=sT s)\/(∃xs,v=.seq false xs)\/∃k,v=.dct k:=by
 cases n with
 |zero=>exact False.elim h
 |succ n=>
  cases v with
  |leaf v=>cases v with
   |non=>exact .inl rfl
   |bl b=>exact .inr (.inl ⟨b,rfl⟩)
   |int i=>exact .inr (.inr (.inl ⟨i,rfl⟩))
   |str s=>exact .inr (.inr (.inr (.inl ⟨s,rfl⟩)))
   |_=>exact False.elim h
  |seq t xs=>cases t with
   |false=>exact .inr (.inr (.inr (.inr (.inl ⟨xs,rfl⟩))))
   |true=>exact False.elim h
  |dct k=>exact .inr (.inr (.inr (.inr (.inr ⟨k,rfl⟩))))
def ip(n:Nat)(vs:List Tv)(c:Nat)(f:List Pt):Prop:=f=(kN6.take c).filterMap (bA (aV (n-1)) vs)
def ip.nil(n:Nat)(vs:List Tv):ip n vs 0 []:=rfl
def Jj{c:Nat}(h:c<6):kN6[c]?=some c:=by
 have:c=0\/c=1\/c=2\/c=3\/c=4\/c=5:=by omega
 rcases this with rfl|rfl|rfl|rfl|rfl|rfl<;>rfl
def ip.next{n c:Nat}{vs:List Tv}{f:List Pt}(h:ip n vs c f)(hc:c<6):(kN6.take (c+1)).filterMap (bA (aV (n-1)) vs)=f++(bA (aV (n-1)) vs c).toList:=by
 rw[f7,i5,Jj hc,<-(show f=_ from h)];cases e:bA (aV (n-1)) vs c<;>simp[e]
def ip.skip{n c:Nat}{vs:List Tv}{f:List Pt}(h:ip n vs c f)(hc:c<6)(e:bA (aV (n-1)) vs c=none):ip n vs (c+1) f:=by
 show f=_;rw[h.next hc,e];simp
def ip.add{n c:Nat}{vs:List Tv}{f:List Pt}{p:Pt}(h:ip n vs c f)(hc:c<6)(e:bA (aV (n-1)) vs c=some p):ip n vs (c+1) (f++[p]):=by
 show f++[p]=_;rw[h.next hc,e];simp
def ip.len{n c:Nat}{vs:List Tv}{f:List Pt}(h:ip n vs c f):f.length<=6:=by
 rw[show f=_ from h];exact bw (kj _ _) (by rw[jj];exact sy _ _)
def ip.form{n:Nat}{vs:List Tv}{f:List Pt}(h:ip n vs 6 f)(hn:n=0->vs=[]):f=aV n vs:=by
 have h:f=kN6.filterMap (bA (aV (n-1)) vs):=h;cases n with
 |zero=>
  rw[h,hn rfl,qo2_.mpr λk _=>wU _ k];rfl
 |succ n=>exact h
def oX{α:Type}{f:Tv->Option α}{c:α->Tv}{k:Nat}{vs:List Tv}(h:∀v∈vs,(bif dN v==k then some v else none)=(f v).map c):md k vs=(vs.filterMap f).map c:=by
 unfold md
 induction vs with
 |nil=>rfl
 |cons v vs ih=>
  rw[ie,ie,h v (.head _),ih λx hx=>h x (.tail _ hx)];cases f v<;>rfl
def has0{vs:List Tv}:(vs.filterMap λv=>bif dN v==0 then some (iT 1) else none)=[]↔cX vs=false:=by
 unfold cX;rw[qo2_,List.any_eq_false];constructor
 ·intro h v hv z;have:=h v hv;rw[z]at this;cases this
 ·intro h v hv;have:=h v hv;cases c:dN v==0 with
  |true=>exact absurd c this
  |false=>rfl
def neNil{L:List Tv}:(true != (true&&bO L []))=true↔L≠[]:=by
 cases L with
 |nil=>simp[bO]
 |cons a L=>simp[bO]
def nG{L:List Tv}(z:(true != (false==false&&bO L []))=false):L=[]:=by
 cases L with
 |nil=>rfl
 |cons a L=>simp[bO]at z
def t8:bF P8 Qa (aN iA):=bz (by decide +kernel)
def Fg(h:ao K mg "_law_due" iA)(B:Own mg)(Rc:ae P w K mg base 2 "_law_run" Qf tG)(QZ:ae P w K mg base 2 "_law_words" Qe oQ)(QM:ae P w K mg base (3+2*m) "_law_due" Qa (nE m))(RD:ae P w K mg base (3+2*m+1) "_law_dicts" ["_law_dicts_here"] (B_ m))   : ae P w K mg base (3+2*m+2) "_law_due" Qa (nE (m+1)):=by
 have nd:=t8.nd;refine h.pgood t8 (fun|_,_,_,_,_,_,[_],_=>rfl) (λf Qy A outer s H E F hr=>
   (aI (fV 1 nd (cD aE))
   (aI (bD (dQ hr (bG (kI (sc:=aN iA) (XN:=P8) (N:=P3) (fr:=[]) (bU (aC 0)) (λ_ _ _ _ _=>(fP (dM nC (aC 0) jG))) (λ_ _ _ _ _=>aG))) (bG (cD aE)))
    (aJ (eF (fF 1 (cA (aD bC aE)))))
    bB)
   (aI (aZ 2 nd (bG (O6 rfl rfl B.sorted rfl B.set_ (bG (kI (sc:=aN iA) (XN:=P8) (N:=P3) (fr:=[]) (bU (aC 0)) (λ_ _ _ _ _=>(fP (cR (cH "bool" jX rfl B.isinstance (aC 0) (cG (v:=.ty "bool") rfl B.bool_ boot_bool rfl))))) (λ_ _ _ _ _=>(aC 0)))))))
   (aI (bD (dQ hr (aC 2) (bG (cD aE)))
    (aJ (eF (fF 1 (cA (aD bC (aD (fN fO rfl B.tuple_ boot_tuple (aD (aC 2) aE)) aE))))))
    bB)
   (aI (fS (sc:=aN iA) (XN:=P8) (N:=P3) (fr:=[]) 3 nd (bU (aC 0)) (λ_ _ _ _ _=>(fP (eI (mT (cR (cH "int" kR rfl B.isinstance (aC 0) (cG (v:=.ty "int") rfl B.int_ boot_int rfl))) (oN (jI (cR (cH "bool" jX rfl B.isinstance (aC 0) (cG (v:=.ty "bool") rfl B.bool_ boot_bool rfl))))))))) (λ_ _ _ _ _=>(aC 0)))
   (aI (bD (dQ hr (aC 3) (bG (cD aE)))
    (aJ (eF (fF 1 (bS dH (cA (aD bC aE)) (aL Rc hr (aD (aC 3) aE))))))
    bB)
   (aI (fS (sc:=aN iA) (XN:=P8) (N:=P3) (fr:=[]) 4 nd (bU (aC 0)) (λ_ _ _ _ _=>(fP (cR (cH "str" mC rfl B.isinstance (aC 0) (cG (v:=.ty "str") rfl B.str_ boot_str rfl))))) (λ_ _ _ _ _=>(aC 0)))
   (aI (bD (dQ hr (aC 4) (bG (cD aE)))
    (aJ (eF (fF 1 (cA (aD bC (aD (aL QZ hr (aD (aC 4) aE)) aE))))))
    bB)
   (aI (fS (sc:=aN iA) (XN:=P8) (N:=P3) (fr:=[]) 5 nd (bU (aC 0)) (λ_ _ _ _ _=>(fP (cR (cH "list" nX rfl B.isinstance (aC 0) (cG (v:=.ty "list") rfl B.list_ boot_list rfl))))) (λ_ _ _ _ _=>(aC 0)))
   (aI (bD (dQ hr (aC 5) (bG (cD aE)))
    (aI (fS (sc:=aN iA) (XN:=P8) (N:=["_law_row"]) (fr:=[]) 6 nd (bU (aC 5)) (λ_ _ _ _ _=>gY) (λ_ _ _ _ _=>(bI cE rfl B.len dg (aD (aC 0) aE))))
    (aI (fV 7 nd (cD aE))
    (aI (dS (m:=10) g4 rfl (bU (aC 5)) (dB 8 (by decide) nd rfl (.inl rfl))
     (aJ (eF (vF 7 (aC 8)))))
    (aJ (eF (fF 1 (cA (aD bC (aD (bI (iM rfl) rfl B.min boot_min (aD (aC 6) aE)) (aD (bI (gZ rfl) rfl B.max boot_max (aD (aC 6) aE)) (aD (aL QM hr (aD (aC 7) aE)) aE)))))))))))
    bB)
   (aI (fS (sc:=aN iA) (XN:=P8) (N:=P3) (fr:=[]) 9 nd (bU (aC 0)) (λ_ _ _ _ _=>(fP (cR (cH "dict" lZ rfl B.isinstance (aC 0) (cG (v:=.ty "dict") rfl B.dict_ boot_dict rfl))))) (λ_ _ _ _ _=>(aC 0)))
   (aI (bD (dQ hr (aC 9) (bG (cD aE)))
    (aJ (eF (fF 1 (aL RD hr (aD (aC 9) aE)))))
    bB)
   (aJ (aR (fN fO rfl B.tuple_ boot_tuple (aD (aC 1) aE))))))))))))))))) (λas R q=>?_)
 obtain⟨n,nm,tx,st,sp,vs,rfl,hw,hv,hl,nm',n50,q⟩:=q;have p1:1<=11 ^ n:=nv _ _ (by decide);have vl:vs.length<=100000:=by
  cases n with
  |zero=>
   have:vs=[]:=qX1_.mpr λv h=>hv v h
   rw[this];exact dq _
  |succ n=>
   have p2:1<=11 ^ n:=nv _ _ (by decide);have:=bw (pk (vs.length*11) p2) (by rw[nr,jt 11,<-mh];exact hl);omega
 refine⟨rfl,by simp,?_⟩;refine⟨vl,gR (λv=>bif dN v==0 then some (iT 1) else none) (λv hvm R q=>?_) ?_⟩
 ·rcases VD.six (hv v hvm) with rfl|⟨b,rfl⟩|⟨i,rfl⟩|⟨s,rfl⟩|⟨xs,rfl⟩|⟨k,rfl⟩<;>first|exact⟨_,rfl,bZ q⟩|exact⟨_,rfl,aQ q⟩
 have npos:vs≠[]->∃n',n=n'+1:=λne=>by
  obtain⟨v,hvm⟩:=i7 _ ne;cases n with
  |zero=>exact False.elim (hv v hvm)
  |succ n=>exact⟨n,rfl⟩
 have nes:∀{k:Nat},md k vs≠[]->vs≠[]:=λ{k} h e=>h (by rw[e];rfl)
 refine⟨by simp,.inr (.inl rfl),_,rfl,kZ (J:=ip n vs 1) (λf=>[.va (.seq false vs),.own (f.map aT),.no,.no,.no,.no,.no,.no,.no,.no]) (λz rest=>?_) (λz=>?_) (λf hf=>?_)⟩
 ·have z:=neNil.mp z;have k0:cX vs=true:=by
   cases e:cX vs with
   |true=>rfl
   |false=>exact absurd (has0.mpr e) z
  exact⟨⟨_,rfl⟩,by simp,_,rfl,by simp,nV (rest [.nothing] ((ip.nil _ _).add (by decide) (by show(if cX vs=true then _ else _)=_;rw[if_pos k0]))) (by simp only[dz,jw,aT];rfl)⟩
 ·have k0:=has0.mp (nG z);exact⟨[],(ip.nil n vs).skip (by decide) (by show(if cX vs=true then _ else _)=_;rw[k0,if_neg cn]),rfl⟩
 refine⟨vl,gR (λv=>bif dN v==1 then some v else none) (λv hvm R q=>?_) ?_⟩
 ·rcases VD.six (hv v hvm) with rfl|⟨b,rfl⟩|⟨i,rfl⟩|⟨s,rfl⟩|⟨xs,rfl⟩|⟨k,rfl⟩<;>first|exact⟨_,rfl,bZ q⟩|exact⟨_,rfl,aQ q⟩
 have ebs:md 1 vs=(vs.filterMap d5).map bT:=oX λv h=>by
  rcases VD.six (hv v h) with rfl|⟨b,rfl⟩|⟨i,rfl⟩|⟨s,rfl⟩|⟨xs,rfl⟩|⟨k,rfl⟩<;>rfl
 generalize hbs:vs.filterMap d5=bs at ebs;refine⟨bs,by rw[<-ebs];rfl,?_⟩;generalize hu:(cy (b9 bs) (b8 bs))=us;refine⟨by simp,.inr (.inl rfl),_,rfl,kZ (J:=ip n vs 2) (λf=>[.va (.seq false vs),.own (f.map aT),.va (.seq false (us.map bT)),.no,.no,.no,.no,.no,.no,.no]) (λz rest=>?_) (λz=>?_) (λf hf=>?_)⟩
 ·have z:=neNil.mp z;have une:us≠[]:=λe=>z (by rw[e];rfl)
  have bne:bs≠[]:=λe=>une (by rw[<-hu,e];rfl)
  have hl6:=hf.len;exact⟨⟨_,rfl⟩,_,_,rfl,by simp,_,rfl,by rw[ak];omega,nV (rest (f++[.truths us]) (hf.add (by decide) (by show(if vs.filterMap d5=[] then _ else some (Pt.truths (cy (b9 (vs.filterMap d5)) (b8 (vs.filterMap d5)))))=_;rw[hbs,if_neg bne,hu]))) (by rw[ia];simp only[dz,jw,aT];rfl)⟩
 ·have z:us=[]:=qO2_.mp (nG z);have be:bs=[]:=by
   rw[z]at hu;cases bs with
   |nil=>rfl
   |cons b bs=>cases b<;>simp[cy,b9,b8]at hu
  exact⟨f,hf.skip (by decide) (by show(if vs.filterMap d5=[] then _ else _)=_;rw[hbs,if_pos be]),rfl⟩
 clear ebs;refine⟨vl,gR (λv=>bif dN v==2 then some v else none) (λv hvm R q=>?_) ?_⟩
 ·rcases VD.six (hv v hvm) with rfl|⟨b,rfl⟩|⟨i,rfl⟩|⟨s,rfl⟩|⟨xs,rfl⟩|⟨k,rfl⟩
  ·exact⟨_,rfl,aQ (aQ q)⟩
  ·exact⟨_,rfl,bZ ⟨_,rfl,aQ q⟩⟩
  ·exact⟨_,rfl,bZ ⟨_,rfl,bZ q⟩⟩
  ·exact⟨_,rfl,aQ (aQ q)⟩
  ·exact⟨_,rfl,aQ (aQ q)⟩
  ·exact⟨_,rfl,aQ (aQ q)⟩
 have ens:md 2 vs=(vs.filterMap jf).map iT:=oX λv h=>by
  rcases VD.six (hv v h) with rfl|⟨b,rfl⟩|⟨i,rfl⟩|⟨s,rfl⟩|⟨xs,rfl⟩|⟨k,rfl⟩<;>rfl
 generalize hns:vs.filterMap jf=ns at ens;have ens':(vs.filterMap λv=>bif dN v==2 then some v else none)=ns.map iT:=ens;rw[ens'];have nsl:ns.length<=vs.length:=by have:=xD 2 vs;rw[ens,ak]at this;exact this
 refine⟨by simp,.inr (.inl rfl),_,rfl,kZ (J:=ip n vs 3) (λf=>[.va (.seq false vs),.own (f.map aT),.va (.seq false (us.map bT)),.va (.seq false (ns.map iT)),.no,.no,.no,.no,.no,.no]) (λz rest=>?_) (λz=>?_) (λf hf=>?_)⟩
 ·have z:=neNil.mp z;have nne:ns≠[]:=λe=>z (by rw[e];rfl)
  have hl6:=hf.len;exact⟨⟨_,rfl⟩,by simp,ns,rfl,nne,by simp,_,rfl,by rw[ak];omega,nV (rest (f++[.numbers (cM ns).1 (cM ns).2.1 (cM ns).2.2]) (hf.add (by decide) (by show(if vs.filterMap jf=[] then _ else some (Pt.numbers (cM (vs.filterMap jf)).1 (cM (vs.filterMap jf)).2.1 (cM (vs.filterMap jf)).2.2))=_;rw[hns,if_neg nne]))) (by rw[ia];simp only[dz,jw,aT];rfl)⟩
 ·have z:=nG z;exact⟨f,hf.skip (by decide) (by show(if vs.filterMap jf=[] then _ else _)=_;rw[hns,if_pos (qO2_.mp z)]),rfl⟩
 clear ens ens' nsl;refine⟨vl,gR (λv=>bif dN v==3 then some v else none) (λv hvm R q=>?_) ?_⟩
 ·rcases VD.six (hv v hvm) with rfl|⟨b,rfl⟩|⟨i,rfl⟩|⟨s,rfl⟩|⟨xs,rfl⟩|⟨k,rfl⟩<;>first|exact⟨_,rfl,bZ q⟩|exact⟨_,rfl,aQ q⟩
 have ets:md 3 vs=(vs.filterMap ij).map sT:=oX λv h=>by
  rcases VD.six (hv v h) with rfl|⟨b,rfl⟩|⟨i,rfl⟩|⟨s,rfl⟩|⟨xs,rfl⟩|⟨k,rfl⟩<;>rfl
 generalize hts:vs.filterMap ij=ts at ets;have ets':(vs.filterMap λv=>bif dN v==3 then some v else none)=ts.map sT:=ets;rw[ets'];refine⟨by simp,.inr (.inl rfl),_,rfl,kZ (J:=ip n vs 4) (λf=>[.va (.seq false vs),.own (f.map aT),.va (.seq false (us.map bT)),.va (.seq false (ns.map iT)),.va (.seq false (ts.map sT)),.no,.no,.no,.no,.no]) (λz rest=>?_) (λz=>?_) (λf hf=>?_)⟩
 ·have z:=neNil.mp z;have tne:ts≠[]:=λe=>z (by rw[e];rfl)
  obtain⟨n',rfl⟩:=npos (nes (k:=3) λe=>z (by rw[<-ets,e]));have hl6:=hf.len;have tm:∀s∈ts,s∈tx:=λs hs=>by
   have:sT s∈md 3 vs:=by rw[ets];exact qf_.mpr ⟨s,hs,rfl⟩
   exact hv _ (sel_mem.mp this).1
  have sl:(aH ts).length<=9:=by
   have:=WordM.nodup_len (dE ts) (m:=tx) λx hx=>tm x ((cO _ x).mp hx)
   rw[hw.t9]at this;exact this
  exact⟨⟨_,rfl⟩,ts,rfl,tne,λs hs=>hw.ts s (tm s hs),by omega,by simp,_,rfl,by rw[ak];omega,nV (rest (f++[.texts (bN ts)]) (hf.add (by decide) (by show(if vs.filterMap ij=[] then _ else some (Pt.texts (bN (vs.filterMap ij))))=_;rw[hts,if_neg tne]))) (by rw[ia];simp only[dz,jw,aT];rfl)⟩
 ·have z:=nG z;exact⟨f,hf.skip (by decide) (by show(if vs.filterMap ij=[] then _ else _)=_;rw[hts,if_pos (qO2_.mp z)]),rfl⟩
 clear ets ets';refine⟨vl,gR (λv=>bif dN v==4 then some v else none) (λv hvm R q=>?_) ?_⟩
 ·rcases VD.six (hv v hvm) with rfl|⟨b,rfl⟩|⟨i,rfl⟩|⟨s,rfl⟩|⟨xs,rfl⟩|⟨k,rfl⟩<;>first|exact⟨_,rfl,bZ q⟩|exact⟨_,rfl,aQ q⟩
 have exs:md 4 vs=(vs.filterMap cw).map (Tv.seq false):=oX λv h=>by
  rcases VD.six (hv v h) with rfl|⟨b,rfl⟩|⟨i,rfl⟩|⟨s,rfl⟩|⟨xs,rfl⟩|⟨k,rfl⟩<;>rfl
 generalize hxs:vs.filterMap cw=xs at exs;have exs':(vs.filterMap λv=>bif dN v==4 then some v else none)=xs.map (Tv.seq false):=exs;rw[exs'];have xsl:xs.length<=vs.length:=by have:=xD 4 vs;rw[exs,ak]at this;exact this
 refine⟨by simp,.inr (.inl rfl),_,rfl,kZ (J:=λx:List Pt×Sl×Sl×Sl=>ip n vs 5 x.1) (λx=>[.va (.seq false vs),.own (x.1.map aT),.va (.seq false (us.map bT)),.va (.seq false (ns.map iT)),.va (.seq false (ts.map sT)),.va (.seq false (xs.map (Tv.seq false))),x.2.1,x.2.2.1,x.2.2.2,.no]) (λz rest=>?_) (λz=>?_) ?_⟩
 ·have z:=neNil.mp z;obtain⟨n',rfl⟩:=npos (nes (k:=4) λe=>z (by rw[<-exs,e]));have xne:xs≠[]:=λe=>z (by rw[e];rfl)
  have hl6:=hf.len;have xv:∀x∈xs,x.length<=11/\∀y∈x,VD nm tx n' y:=λx hx=>by
   have:Tv.seq false x∈md 4 vs:=by rw[exs];exact qf_.mpr ⟨x,hx,rfl⟩
   exact hv _ (sel_mem.mp this).1
  have xpos:0<xs.length:=by
   cases xs with
   |nil=>exact absurd rfl z
   |cons a xs=>simp
  have hl2:vs.length*11*11 ^ n'<=1100000:=by rw[mh]at hl;rw[nr,jt 11];exact hl
  have fl:∀i,(xs.take i).flatten.length<=vs.length*11:=λi=>by
   have key:∀l:List (List Tv),(∀x∈l,x.length<=11)->l.flatten.length<=l.length*11:=λl=>by
    induction l with
    |nil=>intro _;simp
    |cons a l ih=>
     intro h;have h1:=h a (.head _);have h2:=ih λx hx=>h x (.tail _ hx)
     rw[g8,b7,g6];omega
   have h1:=key (xs.take i) λx hx=>(xv x (ny hx)).1
   rw[jj]at h1;have:min i xs.length*11<=vs.length*11:=jn _ (by omega);omega
  have fb:∀i,(xs.take i).flatten.length<=100000:=λi=>by
   have a:=fl i;cases n' with
   |zero=>
    have:(xs.take i).flatten=[]:=List.flatten_eq_nil_iff.mpr λx hx=>qX1_.mpr λy hy=>(xv x (ny hx)).2 y hy
    rw[this];exact dq _
   |succ n'=>
    have p2:1<=11 ^ n':=nv _ _ (by decide);have:vs.length*11*11<=1100000:=by
     refine bw (pk _ p2) ?_;rw[nr (vs.length*11),jt 11 (11 ^ n'),<-mh];exact hl2
    omega
  have lens:(xs.map λx=>iT (x.length:Nat))=(xs.map λx=>((x.length:Nat):Int)).map iT:=by rw[fg];rfl
  refine⟨by rw[ak];omega,dY (Tv.seq false) (λx=>iT (x.length:Nat)) (λx hx R q=>q) ?_⟩;refine⟨by simp,?_⟩;refine gC (Tv.seq false) (l:=xs) (λi ρ=>∃s8,ρ=[.va (.seq false vs),.own (f.map aT),.va (.seq false (us.map bT)),.va (.seq false (ns.map iT)),.va (.seq false (ts.map sT)),.va (.seq false (xs.map (Tv.seq false))),.va (.seq false (xs.map λx=>iT (x.length:Nat))),.own (xs.take i).flatten,s8,.no]) ⟨_,rfl⟩ ?_ ?_
  ·rintro i x _ N hx ⟨s8,rfl⟩ hN;have et:(xs.take (i+1)).flatten=(xs.take i).flatten++x:=by
    obtain⟨hi,rfl⟩:=qx_.mp hx;rw[pq hi,p6];simp
   have l1:=fb (i+1);rw[et,b7]at l1;refine⟨⟨_,rfl⟩,_,_,rfl,rfl,by omega,hN _ ⟨.va (.seq false x),?_⟩⟩;rw[et];rfl
  rintro _ ⟨s8,rfl⟩;rw[d_];have fl':=fl xs.length;rw[d_]at fl';refine⟨⟨_,rfl⟩,.inr (.inl ⟨xs.map λx=>((x.length:Nat):Int),by rw[lens],by rw[ak];exact xpos,λa a1 a2=>.inr (.inl ⟨xs.map λx=>((x.length:Nat):Int),by rw[lens],by rw[ak];exact xpos,λb b1 b2=>?_⟩)⟩)⟩;have ea:bJ (cU xs)=a:=mP a1 a2;have eb:bL (cU xs)=b:=mQ b1 b2;refine⟨n',nm,tx,st,sp,xs.flatten,rfl,hw,λv hv=>?_,bw (jn _ fl') hl2,by omega,by omega,by simp,_,rfl,by rw[ak];omega,?_⟩
  ·obtain⟨x,h1,h2⟩:=qi1_.mp hv;exact(xv x h1).2 v h2
  ·exact nV (rest (f++[.lists a b (aV n' xs.flatten)],.va (.seq false (xs.map λx=>iT (x.length:Nat))),.va (.seq false xs.flatten),s8) (hf.add (by decide) (by show(if vs.filterMap cw=[] then _ else some (Pt.lists (bJ (cU (vs.filterMap cw))) (bL (cU (vs.filterMap cw))) (aV n' (vs.filterMap cw).flatten)))=_;rw[hxs,if_neg xne,ea,eb]))) (by rw[ia];simp only[dz,jw,aT];rfl)
 ·have z:=nG z;exact⟨(f,.no,.no,.no),hf.skip (by decide) (by show(if vs.filterMap cw=[] then _ else _)=_;rw[hxs,if_pos (qO2_.mp z)]),rfl⟩
 rintro⟨f,s6,s7,s8⟩ hf;have hf:ip n vs 5 f:=hf;clear exs exs' xsl;refine⟨vl,gR (λv=>bif dN v==5 then some v else none) (λv hvm R q=>?_) ?_⟩
 ·rcases VD.six (hv v hvm) with rfl|⟨b,rfl⟩|⟨i,rfl⟩|⟨s,rfl⟩|⟨xs,rfl⟩|⟨k,rfl⟩<;>first|exact⟨_,rfl,bZ q⟩|exact⟨_,rfl,aQ q⟩
 have eks:md 5 vs=(vs.filterMap fu).map Tv.dct:=oX λv h=>by
  rcases VD.six (hv v h) with rfl|⟨b,rfl⟩|⟨i,rfl⟩|⟨s,rfl⟩|⟨xs,rfl⟩|⟨k,rfl⟩<;>rfl
 generalize hks:vs.filterMap fu=ks at eks;have eks':(vs.filterMap λv=>bif dN v==5 then some v else none)=ks.map Tv.dct:=eks;rw[eks'];have ksl:ks.length<=vs.length:=by have:=xD 5 vs;rw[eks,ak]at this;exact this
 refine⟨by simp,.inr (.inl rfl),_,rfl,kZ (J:=ip n vs 6) (λf=>[.va (.seq false vs),.own (f.map aT),.va (.seq false (us.map bT)),.va (.seq false (ns.map iT)),.va (.seq false (ts.map sT)),.va (.seq false (xs.map (Tv.seq false))),s6,s7,s8,.va (.seq false (ks.map Tv.dct))]) (λz rest=>?_) (λz=>?_) (λf hf=>?_)⟩
 ·have z:=neNil.mp z;obtain⟨n',rfl⟩:=npos (nes (k:=5) λe=>z (by rw[<-eks,e]));have kne:ks≠[]:=λe=>z (by rw[e];rfl)
  have hl6:=hf.len;refine⟨⟨_,rfl⟩,n',nm,tx,st,sp,ks,rfl,hw,λk hk=>?_,kne,bw (jn _ ksl) hl,by omega,by omega,_,rfl,by rw[ak];exact oi hl6 (by decide),nV (rest (f++[dc (aV n') ks]) (hf.add (by decide) (by show(if vs.filterMap fu=[] then _ else some (dc (aV n') (vs.filterMap fu)))=_;rw[hks,if_neg kne]))) (by rw[ia];rfl)⟩;have:Tv.dct k∈md 5 vs:=by rw[eks];exact qf_.mpr ⟨k,hk,rfl⟩
  exact hv _ (sel_mem.mp this).1
 ·have z:=nG z;exact⟨f,hf.skip (by decide) (by show(if vs.filterMap fu=[] then _ else _)=_;rw[hks,if_pos (qO2_.mp z)]),rfl⟩
 have:=hf.form λe=>by
  apply Classical.byContradiction;intro ne;obtain⟨n',e'⟩:=npos ne;omega
 rw[<-this]at q;exact⟨_,_,rfl,q⟩
def yH(hd:ao K mg "_law_due" iA)(hk:ao K mg "_law_dicts" lR)(B:Own mg)(G1:ae P w K mg base 2 "_law_run" Qf tG)(G2:ae P w K mg base 2 "_law_words" Qe oQ):∀m:Nat,ae P w K mg base (3+2*m) "_law_due" Qa (nE m)
 |0=>hd.pfalse t8 (fun|_,_,_,_,_,_,[_],_=>rfl) λas R ⟨_,_,_,_,_,_,_,_,_,_,h,_⟩=>by omega
 |m+1=>Fg hd B G1 G2 (yH hd hk B G1 G2 m) (Ff hk B (yH hd hk B G1 G2 m) G2)
end
end My
namespace L2
open PySem PySem.Spec PyProof.Rows WordM
def df:Nat->Tv->Prop
 |0,_=>False
 |_+1,.leaf .non=>True
 |_+1,.leaf (.bl _)=>True
 |_+1,.leaf (.int _)=>True
 |_+1,.leaf (.str _)=>True
 |n+1,.seq _ xs=>xs.length<=100000/\∀x∈xs,df n x
 |_+1,_=>False
def df.le:∀{n m:Nat}{T:Tv},n<=m->df n T->df m T
 |0,_,_,_,h=>False.elim h
 |_+1,0,_,l,_=>absurd l (by omega)
 |n+1,m+1,T,l,h=>by
  cases T with
  |leaf v=>cases v<;>exact h
  |seq t xs=>exact⟨h.1,λx hx=>df.le (by omega) (h.2 x hx)⟩
  |dct k=>exact h
def Er(n:Nat){t:Bool}{ss:List Str}(l:ss.length<=100000):df (n+2) (.seq t (ss.map sT)):=⟨by rw[ak];exact l,λx hx=>by
 obtain⟨s,_,rfl⟩:=qf_.mp hx;trivial⟩
end L2
namespace My
open PySem L2 PyProof.Rows WordM
section
variable{P:Program}{w:World}{K:W.Frag}{mg:Str->Option Value}{base:Heap}
variable{n:Nat}
def oJ(n:Nat):bt:=λas R=>∃V:Tv->Prop,WD n V/\∃v:Tv,as=[.va v]/\V v/\R (bM (aV n [v]))
def wE(n:Nat):bt:=λas R=>∃V:Tv->Prop,WD n V/\∃v:Tv,as=[.va v]/\V v/\∀p,aV n [v]=[p]->R (aT p)
def sJ(n:Nat):bt:=λas R=>∃V:Tv->Prop,WD n V/\∃vs:List Tv,as=[.va (.seq false vs)]/\vs.length<=1000/\(∀v∈vs,V v)/\R (bM (aV n vs))
def BR:∀vs:List Tv,(vs.map λv=>[v]).flatten=vs
 |[]=>rfl
 |v::vs=>by rw[dz,g8,BR vs];rfl
def wu:bF P5 P5 (aN pS):=bz (by decide +kernel)
def zg(h:ao K mg "told" pS)(B:Own mg)(Q6:ae P w K mg base (9*n+10) "all_joined" ["forms"] (zS (aV n) (WD n)))(QX:ae P w K mg base (9*n+10) "form_of" PV (oJ n))   : ae P w K mg base (9*n+11) "told" P5 (sJ n):=by
 have nd:=wu.nd;refine h.pgood wu (fun|_,_,_,_,_,_,[_],_=>rfl) (λf Qy A outer s H E F hr=>
   (aJ (aR (aL Q6 hr (aD (bG (fH (sc:=aN pS) (XN:=P5) (N:=["sample"]) (fr:=[]) (bU (aC 0)) (λ_ _ _ _ _=>(aL QX hr (aD (aC 0) aE))))) aE))))) (λas R q=>?_)
 obtain⟨V,hV,vs,rfl,lv,hv,q⟩:=q;refine⟨rfl,by omega,vV (λv=>bM (aV n [v])) (λv hvm R q=>⟨V,hV,v,rfl,hv v hvm,q⟩) ?_⟩;refine⟨V,hV,vs.map λv=>[v],by rw[fg];rfl,ED n,λA hA v hvA=>?_,?_⟩
 ·obtain⟨x,hx,rfl⟩:=qf_.mp hA;rw[qB_.mp hvA];exact hv x hx
 ·rw[BR];exact q
def zo(n:Nat):bt:=λas R=>∃V:Tv->Prop,WD n V/\∃xs:List Tv,as=[.va (.seq false xs)]/\xs.length<=1000/\(∀v∈xs,V v)/\R (aT (.lists (xs.length:Nat) (xs.length:Nat) (aV n xs)))
def xh:bF PV PV (aN uF):=bz (by decide +kernel)
def FC(h:ao K mg "list_part" uF)(B:Own mg)(Q7:ae P w K mg base (9*n+11) "told" P5 (sJ n))   : ae P w K mg base (9*n+12) "list_part" PV (zo n):=by
 have nd:=xh.nd;refine h.pgood xh (fun|_,_,_,_,_,_,[_],_=>rfl) (λf Qy A outer s H E F hr=>
   (aJ (aR (cA (aD bC (aD (bI cE rfl B.len dg (aD (aC 0) aE)) (aD (bI cE rfl B.len dg (aD (aC 0) aE)) (aD (aL Q7 hr (aD (aC 0) aE)) aE)))))))) (λas R q=>?_)
 obtain⟨V,hV,xs,rfl,lx,hv,q⟩:=q;rw[iX]at q;exact⟨rfl,V,hV,xs,rfl,lx,hv,by simp,q⟩
def zk(n:Nat):bt:=λas R=>∃V:Tv->Prop,WD n V/\∃k:List (Str×Tv),as=[.va (.dct k)]/\(k.map (·.1)).Nodup/\k.length<=20/\(∀kt∈k,fX kt.1/\V kt.2)/\R (aT (dc (aV n) [k]))
def xg:bF ["value","size","names"] PV (aN nR):=bz (by decide +kernel)
def FD(h:ao K mg "dict_part" nR)(B:Own mg)(QX:ae P w K mg base (9*n+10) "form_of" PV (oJ n))(Q7:ae P w K mg base (9*n+11) "told" P5 (sJ n))(QG:ae P w K mg base 4 "words_of" P0 kT)(GMOST_FIELDS:eP K mg "MOST_FIELDS" (iT 8))  : ae P w K mg base (9*n+12) "dict_part" PV (zk n):=by
 have nd:=xg.nd;refine h.pgood xg (fun|_,_,_,_,_,_,[_],_=>rfl) (λf Qy A outer s H E F hr=>
   (aI (aZ 1 nd (bI cE rfl B.len dg (aD (aC 0) aE)))
   (aI (aZ 2 nd (bG (vY (vH rfl) rfl B.sorted boot_sorted (aD (aC 0) aE))))
   (aI (bD (dM tE (aC 1) (pG GMOST_FIELDS rfl))
    (aJ (aR (cA (aD bC (aD (aC 1) (aD (aC 1) (aD (fN fO rfl B.tuple_ boot_tuple (aD (bG (fH (sc:=aN nR) (XN:=["value","size","names"]) (N:=["name","value"]) (fr:=[0]) (bU (aC 2)) (λ_ _ _ _ _=>(cA (aD (aC 0) (aD fI (aD (aL QX hr (aD (aU hr (aC 1) (aC 0)) aE)) aE))))))) aE)) aE)))))))
    bB)
   (aJ (aR (cA (aD bC (aD (aC 1) (aD (aC 1) (aD (aL QG hr (aD (aC 2) aE)) (aD (aL Q7 hr (aD (bG (fH (sc:=aN nR) (XN:=["value","size","names"]) (N:=["name","value"]) (fr:=[0]) (bU (aC 2)) (λ_ _ _ _ _=>(aU hr (aC 1) (aC 0))))) aE)) aE)))))))))))) (λas R q=>?_)
 obtain⟨V,hV,k,rfl,nd,lk,hk,q⟩:=q;refine⟨rfl,?_⟩;have enm:aO [k]=k.map (·.1):=by unfold aO;rw[List.flatMap_cons,List.flatMap_nil,jk]
 have sn:(aH (aO [k])).Perm (k.map (·.1)):=(ko (dE _) nd).mpr λx=>by rw[cO,enm]
 have sl:(aH (aO [k])).length=k.length:=by rw[sn.length_eq,ak]
 have es:aY (k.map (·.1))=aY (aH (aO [k])):=mH (Et nd) (gO _) λx=>by rw[(fD _).mem_iff,sort_set_mem,enm]
 have eL:bJ (bH [k])=(k.length:Nat)/\bL (bH [k])=(k.length:Nat):=⟨rfl,rfl⟩
 have sk:(aY (aH (aO [k]))).length=k.length:=by rw[(fD _).length_eq,sl]
 have lk':∀x∈aY (aH (aO [k])),∃v,bX k x=some v/\(x,v)∈k:=λx hx=>by
  rw[sort_set_mem,enm]at hx;obtain⟨kt,hkt,rfl⟩:=qf_.mp hx;exact⟨kt.2,sB nd hkt,hkt⟩
 refine .inr (.inr ⟨k,rfl,?_⟩);rw[es];show az.nx _ _;refine gg (ρ':=[.va (.dct k),.va (iT (k.length:Nat)),.va (.seq false ((aY (aH (aO [k]))).map sT))]) rfl ?_;refine⟨_,rfl,kM (λz=>?_) (λz=>?_)⟩
 ·have z:((k.length:Nat):Int)<=8:=z;rw[hG (by omega),eR]at q;refine⟨by rw[ak];omega,dY sT (λx=>cI (cZ (aV n) [k] x)) (λx hx R q=>?_) ⟨_,_,rfl,by simp,?_⟩⟩
  ·obtain⟨v,e,hm⟩:=lk' x hx;have ea:ix x [k]=[v]:=by unfold ix;rw[ie,e];rfl
   have eall:[k].all (λk=>decide (x∈k.map (·.1)))=true:=by
    rw[List.all_cons,List.all_nil,Bool.and_true];exact jd (qf_.mpr ⟨_,hm,rfl⟩)
   unfold cZ at q;rw[ea,eall]at q;exact⟨_,e,V,hV,v,rfl,(hk _ hm).2,by simp,q⟩
  ·unfold bV at q;rw[fg]at q;exact q
 ·have z:¬ ((k.length:Nat):Int)<=8:=z;have ne:aO [k]≠[]:=λe=>by rw[e]at sl;have:k.length=0:=sl.symm;omega
  rw[hE (by omega),fY,<-mG (ts:=aY (aH (aO [k]))) (us:=aO [k]) λx=>sort_set_mem]at q;refine⟨_,rfl,oO ne,by omega,?_,λt ht=>?_,?_⟩
  ·have:=fQ (A:=aY (aH (aO [k]))) (C:=aO [k]) λx hx=>sort_set_mem.mp hx
   omega
  ·obtain⟨v,e,hm⟩:=lk' t ht;exact(hk _ hm).1
  have ev:aV n ((aY (aH (aO [k]))).map λx=>(bX k x).getD nT)=aV n (dF [k]):=rE n _ _ λv=>by
   rw[qf_,vls_mem];constructor
   ·rintro⟨x,hx,rfl⟩;obtain⟨v,e,hm⟩:=lk' x hx;rw[e];exact⟨k,.head _,x,hm⟩
   ·rintro⟨k',hk',x,hm⟩;rw[qB_]at hk';subst hk';refine⟨x,sort_set_mem.mpr (by rw[enm];exact qf_.mpr ⟨_,hm,rfl⟩),?_⟩;rw[sB nd hm];rfl
  rw[<-ev]at q;refine⟨by rw[ak];omega,dY sT (λx=>(bX k x).getD nT) (λx hx R q=>?_) ⟨V,hV,_,rfl,by rw[ak];omega,λv hv=>?_,by simp,q⟩⟩
  ·obtain⟨v,e,hm⟩:=lk' x hx;rw[e]at q;exact⟨v,e,q⟩
  ·obtain⟨x,hx,rfl⟩:=qf_.mp hv;obtain⟨v,e,hm⟩:=lk' x hx;rw[e];exact(hk _ hm).2
def uo:bF ["value","kind"] PV (aN uE):=bz (by decide +kernel)
def FE(h:ao K mg "part_of" uE)(B:Own mg)(Rf:ae P w K mg base 1 "kind_of" PV sL)(QG:ae P w K mg base 4 "words_of" P0 kT)(Ro:ae P w K mg base (9*n+12) "list_part" PV (zo n))(Rp:ae P w K mg base (9*n+12) "dict_part" PV (zk n))   : ae P w K mg base (9*n+13) "part_of" PV (wE (n+1)):=by
 have nd:=uo.nd;refine h.pgood uo (fun|_,_,_,_,_,_,[_],_=>rfl) (λf Qy A outer s H E F hr=>
   (aI (aZ 1 nd (aL Rf hr (aD (aC 0) aE)))
   (aI (bD (cF hr (aC 1) bC)
    (aJ (aR (cA (aD bC (aD (cA (aD (aC 0) aE)) aE)))))
    bB)
   (aI (bD (cF hr (aC 1) bC)
    (aJ (aR (cA (aD bC (aD (aC 0) (aD (aC 0) (aD aG aE)))))))
    bB)
   (aI (bD (cF hr (aC 1) bC)
    (aJ (aR (cA (aD bC (aD (aL QG hr (aD (bG (cD (aD (aC 0) aE))) aE)) aE)))))
    bB)
   (aI (bD (cF hr (aC 1) bC)
    (aJ (aR (aL Ro hr (aD (aC 0) aE))))
    bB)
   (aI (bD (cF hr (aC 1) bC)
    (aJ (aR (aL Rp hr (aD (aC 0) aE))))
    bB)
   (aJ (aR (cA (aD bC aE))))))))))) (λas R q=>?_)
 obtain⟨V,⟨nm,tx,st,sp,hw,rfl⟩,v,rfl,hv,q⟩:=q;have W:WD n (VD nm tx n):=⟨nm,tx,st,sp,hw,rfl⟩
 rcases VD.six hv with rfl|⟨b,rfl⟩|⟨i,rfl⟩|⟨s,rfl⟩|⟨xs,rfl⟩|⟨k,rfl⟩
 ·have q:=q .nothing rfl;rw[uV]at q;exact⟨rfl,nT,rfl,rfl,_,rfl,sN (by decide +kernel) ⟨_,rfl,sN (by decide +kernel) ⟨_,rfl,sN (by decide +kernel) ⟨_,rfl,sN (by decide +kernel) ⟨_,rfl,sN (by decide +kernel) ⟨by simp,q⟩⟩⟩⟩⟩⟩
 ·have q:=q (.truths [b]) (by cases b<;>rfl);rw[qO]at q;exact⟨rfl,bT b,rfl,rfl,_,rfl,sY ⟨by simp,by simp,q⟩⟩
 ·have q:=q (.numbers i i 0) (by
   show [Pt.numbers i i (GcdM.g (i-i) 0)]=_;rw[mi];rfl)
  rw[rD]at q;exact⟨rfl,iT i,rfl,rfl,_,rfl,sN (show dA 2≠_ by decide +kernel) ⟨_,rfl,sY ⟨by simp,q⟩⟩⟩
 ·have q:=q (.texts (bN [s])) rfl;rw[qU]at q;have hs:=hw.ts s hv;exact⟨rfl,sT s,rfl,rfl,_,rfl,sN (show dA 3≠_ by decide +kernel) ⟨_,rfl,sN (show dA 3≠_ by decide +kernel) ⟨_,rfl,sY ⟨by simp,[s],rfl,by simp,by simp,bw (rV _) (by simp),λt ht=>by rw[qB_.mp ht];exact⟨hs.1,by have:=hs.2;omega⟩,by simp,q⟩⟩⟩⟩
 ·have q:=q (.lists (xs.length:Nat) (xs.length:Nat) (aV n xs)) (by
   show [Pt.lists (xs.length:Nat) (xs.length:Nat) (aV n (xs++[]))]=_;rw[jk])
  exact⟨rfl,.seq false xs,rfl,trivial,_,rfl,sN (show dA 4≠_ by decide +kernel) ⟨_,rfl,sN (show dA 4≠_ by decide +kernel) ⟨_,rfl,sN (show dA 4≠_ by decide +kernel) ⟨_,rfl,sY ⟨VD nm tx n,W,xs,rfl,bw hv.1 (by decide),hv.2,q⟩⟩⟩⟩⟩
 ·have q:=q (dc (aV n) [k]) rfl;exact⟨rfl,.dct k,rfl,trivial,_,rfl,sN (show dA 5≠_ by decide +kernel) ⟨_,rfl,sN (show dA 5≠_ by decide +kernel) ⟨_,rfl,sN (show dA 5≠_ by decide +kernel) ⟨_,rfl,sN (show dA 5≠_ by decide +kernel) ⟨_,rfl,sY ⟨VD nm tx n,W,k,rfl,hv.1,bw hv.2.1 (by decide),λkt hkt=>⟨⟨(hw.ns kt.1 (hv.2.2 kt hkt).1).1,by have:=(hw.ns kt.1 (hv.2.2 kt hkt).1).2;omega⟩,(hv.2.2 kt hkt).2⟩,q⟩⟩⟩⟩⟩⟩
def xf:bF PV PV (aN uA):=bz (by decide +kernel)
def ze(h:ao K mg "form_of" uA)(B:Own mg)(Rr:ae P w K mg base (9*n+9) "part_of" PV (wE n))   : ae P w K mg base (9*n+10) "form_of" PV (oJ n):=by
 have nd:=xf.nd;refine h.pgood xf (fun|_,_,_,_,_,_,[_],_=>rfl) (λf Qy A outer s H E F hr=>
   (aJ (aR (cA (aD (aL Rr hr (aD (aC 0) aE)) aE))))) (λas R q=>?_)
 obtain⟨V,hV,v,rfl,hv,q⟩:=q;refine⟨rfl,V,hV,v,rfl,hv,λp e=>⟨by simp,?_⟩⟩;rw[e]at q;exact q
def Cp(ht:ao K mg "told" pS)(hf:ao K mg "form_of" uA)(hp:ao K mg "part_of" uE)(hl:ao K mg "list_part" uF)(hd:ao K mg "dict_part" nR)(ha:ao K mg "all_joined" nP)(B:Own mg)
  (Rf:ae P w K mg base 1 "kind_of" PV sL) (QG:ae P w K mg base 4 "words_of" P0 kT) (GMOST_FIELDS:eP K mg "MOST_FIELDS" (iT 8)) (Gj:∀n:Nat,ae P w K mg base (9*n+9) "joined" PU (oq (aV n) (WD n))):∀n:Nat,ae P w K mg base (9*n+10) "form_of" PV (oJ n)/\ae P w K mg base (9*n+11) "told" P5 (sJ n)
 |0=>by
  have p0:ae P w K mg base 9 "part_of" PV (wE 0):=hp.pfalse uo (fun|_,_,_,_,_,_,[_],_=>rfl) λas R ⟨V,⟨nm,tx,st,sp,hw,e⟩,v,_,hv,_⟩=>by subst e;exact hv
  have f0:=ze (n:=0) hf B p0;exact⟨f0,zg (n:=0) ht B (zV (lv:=9) ha B (Gj 0)) f0⟩
 |n+1=>by
  obtain⟨f,t⟩:=Cp ht hf hp hl hd ha B Rf QG GMOST_FIELDS Gj n;have f1:=ze (n:=n+1) hf B ((FE (n:=n) hp B Rf QG (FC hl B t) (FD hd B f t QG GMOST_FIELDS)).mono (by omega));exact⟨f1,zg (n:=n+1) ht B (zV (lv:=9*(n+1)+9) ha B (Gj (n+1))) f1⟩
variable{n:Nat}
def cx:Nat->Tv->Prop
 |0,_=>False
 |_+1,.leaf .non=>True
 |_+1,.leaf (.bl _)=>True
 |_+1,.leaf (.int _)=>True
 |_+1,.leaf (.str _)=>True
 |n+1,.seq _ xs=>xs.length<=100000/\∀x∈xs,cx n x
 |n+1,.dct kts=>(kts.map (·.1)).Nodup/\kts.length<64/\∀kt∈kts,cx n kt.2
 |_+1,_=>False
def cx.vd{nm tx:List Str}:∀{n:Nat}{T:Tv},VD nm tx n T->cx n T
 |0,_,h=>h
 |n+1,.leaf v,h=>by cases v<;>first|trivial|exact h
 |n+1,.seq false xs,h=>⟨bw h.1 (by decide),λx hx=>cx.vd (h.2 x hx)⟩
 |n+1,.seq true xs,h=>False.elim h
 |n+1,.dct k,h=>⟨h.1,oi h.2.1 (by decide),λkt hk=>cx.vd (h.2.2 kt hk).2⟩
def cx.le:∀{n m:Nat}{T:Tv},n<=m->cx n T->cx m T
 |0,_,_,_,h=>False.elim h
 |_+1,0,_,l,_=>absurd l (by omega)
 |n+1,m+1,.leaf v,_,h=>by cases v<;>first|trivial|exact h
 |n+1,m+1,.seq t xs,l,h=>⟨h.1,λx hx=>cx.le (by omega) (h.2 x hx)⟩
 |n+1,m+1,.dct k,l,h=>⟨h.1,h.2.1,λkt hk=>cx.le (by omega) (h.2.2 kt hk)⟩
def L0(ss:List Str):bO (ss.map sT) (ss.map sT)=true:=by
 induction ss with
 |nil=>simp[bO]
 |cons s ss ih=>rw[dz,bO,ih,xQ];simp
def pA(n:Nat):bt:=λas R=>∃T:Tv,as=[.va T,.va T]/\cx n T/\R (bT true)
def wJ{α:Type}(xs:List α):((xs.map λ_=>bT true).any λU=>L2.eqT U (bT false))=false:=by
 rw[Bool.eq_false_iff];intro z;obtain⟨U,hU,e⟩:=qL_.mp z;obtain⟨_,_,rfl⟩:=qf_.mp hU;simp[L2.eqT,cz]at e
def xN{α:Type}(xs:List α):qG (bT false) (xs.map λ_=>bT true):=⟨trivial,λU hU=>by
 obtain⟨_,_,rfl⟩:=qf_.mp hU;trivial⟩
def Cw(xs:List Tv):List.zipWith (λT U=>Tv.seq true [T,U]) xs xs=xs.map λx=>.seq true [x,x]:=by
 induction xs with
 |nil=>rfl
 |cons x xs ih=>rw[List.zipWith_cons_cons,ih];rfl
def Mz{s:Str}:(false != cz (.str s) (.str s))=true:=by simp[cz]
def Nm{i:Int}:(false != cz (.int i) (.int i))=true:=by simp[cz]
def Nl{b:Bool}:(false != cz (.bl b) (.bl b))=true:=by simp[cz]
def t_:bF PZ PZ (aN nO):=bz (by decide +kernel)
def E_(h:ao K mg "_law_same" nO)(B:Own mg)(QW:ae P w K mg base (1+n) "_law_same" PZ (pA n))   : ae P w K mg base (1+n+1) "_law_same" PZ (pA (n+1)):=by
 have nd:=t_.nd;refine h.pgood t_ (fun|_,_,_,_,_,_,[_,_],_=>rfl) (λf Qy A outer s H E F hr=>
   (aI (bD (eI (fG (cR (cH "bool" jX rfl B.isinstance (aC 0) (cG (v:=.ty "bool") rfl B.bool_ boot_bool rfl))) (gD (cR (cH "bool" jX rfl B.isinstance (aC 1) (cG (v:=.ty "bool") rfl B.bool_ boot_bool rfl))))))
    (aJ (aR (jH (cH "bool" jX rfl B.isinstance (aC 0) (cG (v:=.ty "bool") rfl B.bool_ boot_bool rfl)) (jH (cH "bool" jX rfl B.isinstance (aC 1) (cG (v:=.ty "bool") rfl B.bool_ boot_bool rfl)) (mU (hJ (lI hr.units).op (aC 0) (aC 1)))))))
    bB)
   (aI (bD (eI (fG (cR (cH "int" kR rfl B.isinstance (aC 0) (cG (v:=.ty "int") rfl B.int_ boot_int rfl))) (gD (cR (cH "int" kR rfl B.isinstance (aC 1) (cG (v:=.ty "int") rfl B.int_ boot_int rfl))))))
    (aJ (aR (jH (cH "int" kR rfl B.isinstance (aC 0) (cG (v:=.ty "int") rfl B.int_ boot_int rfl)) (jH (cH "int" kR rfl B.isinstance (aC 1) (cG (v:=.ty "int") rfl B.int_ boot_int rfl)) (mU (hJ (lI hr.units).op (aC 0) (aC 1)))))))
    bB)
   (aI (bD (eI (fG (cR (cH "str" mC rfl B.isinstance (aC 0) (cG (v:=.ty "str") rfl B.str_ boot_str rfl))) (gD (cR (cH "str" mC rfl B.isinstance (aC 1) (cG (v:=.ty "str") rfl B.str_ boot_str rfl))))))
    (aJ (aR (jH (cH "str" mC rfl B.isinstance (aC 0) (cG (v:=.ty "str") rfl B.str_ boot_str rfl)) (jH (cH "str" mC rfl B.isinstance (aC 1) (cG (v:=.ty "str") rfl B.str_ boot_str rfl)) (mU (hJ (lI hr.units).op (aC 0) (aC 1)))))))
    bB)
   (aI (bD (eI (fG (dM nC (aC 0) jG) (gD (dM nC (aC 1) jG))))
    (aJ (aR (jH (hJ (nC).op (aC 0) jG) (mU (hJ (nC).op (aC 1) jG)))))
    bB)
   (aI (bD (eI (fG (cR (cH "dict" lZ rfl B.isinstance (aC 0) (cG (v:=.ty "dict") rfl B.dict_ boot_dict rfl))) (gD (cR (cH "dict" lZ rfl B.isinstance (aC 1) (cG (v:=.ty "dict") rfl B.dict_ boot_dict rfl))))))
    (aI (bD (eI (fG (jI (cR (cH "dict" lZ rfl B.isinstance (aC 0) (cG (v:=.ty "dict") rfl B.dict_ boot_dict rfl)))) (fG (jI (cR (cH "dict" lZ rfl B.isinstance (aC 1) (cG (v:=.ty "dict") rfl B.dict_ boot_dict rfl)))) (gD (dQ hr (bG (vY (vH rfl) rfl B.sorted boot_sorted (aD (aC 0) aE))) (bG (vY (vH rfl) rfl B.sorted boot_sorted (aD (aC 1) aE))))))))
     (aJ (aR fI))
     bB)
    (aJ (aR (hJ (Dd hr.units).op fI (bG (fH (sc:=aN nO) (XN:=PZ) (N:=["_law_name","_law_one","_law_other"]) (fr:=[0,1]) (bU (aC 0)) (λ_ _ _ _ _=>(aL QW hr (aD (aU hr (aC 1) (aC 0)) (aD (aU hr (aC 2) (aC 0)) aE)))))) rfl))))
    bB)
   (aI (bD (eI (fG (dQ hr (cH "list" nX rfl B.isinstance (aC 0) (cG (v:=.ty "list") rfl B.list_ boot_list rfl)) (cH "list" nX rfl B.isinstance (aC 1) (cG (v:=.ty "list") rfl B.list_ boot_list rfl))) (gD (dQ hr (cH "tuple" uS rfl B.isinstance (aC 0) (cG (v:=.ty "tuple") rfl B.tuple_ boot_tuple rfl)) (cH "tuple" uS rfl B.isinstance (aC 1) (cG (v:=.ty "tuple") rfl B.tuple_ boot_tuple rfl))))))
    (aJ (aR fI))
    bB)
   (aJ (aR (jH (hJ (lI hr.units).op (bI cE rfl B.len dg (aD (aC 0) aE)) (bI cE rfl B.len dg (aD (aC 1) aE))) (mU (hJ (Dd hr.units).op fI (bG (Bw (sc:=aN nO) (XN:=PZ) (N:=["_law_a","_law_b"]) (own:=2) (fr:=[]) rfl ⟨rfl,by decide +kernel,by decide +kernel,by decide +kernel,rfl,by decide +kernel,by decide,by decide +kernel⟩ (by decide) (J4 rfl B.zip (aD (aC 0) (aD (aC 1) aE))) (λ_ _ _ _ _=>(J3 2 rfl (Dn (dB 0 (by decide) (show(["_law_a","_law_b"]:List Str).Nodup by decide +kernel) rfl (by first|exact Or.inl rfl|exact Or.inr rfl)) (Dn (dB 1 (by decide) (show(["_law_a","_law_b"]:List Str).Nodup by decide +kernel) rfl (by first|exact Or.inl rfl|exact Or.inr rfl)) KC)))) (λ_ _ _ _ _=>gY) (λ_ _ _ _ _=>(aL QW hr (aD (aC 0) (aD (aC 1) aE)))))) rfl)))))))))))) (λas R q=>?_)
 obtain⟨T,rfl,h,q⟩:=q;cases T with
 |dct kts=>
  refine⟨rfl,_,rfl,aQ ⟨_,rfl,aQ ⟨_,rfl,aQ ⟨_,rfl,aQ ⟨_,rfl,aQ ⟨_,rfl,aQ ⟨_,rfl,aQ ⟨_,rfl,aQ ⟨_,rfl,bZ (bZ ⟨_,rfl,aQ ⟨_,rfl,aQ ?_⟩⟩)⟩⟩⟩⟩⟩⟩⟩⟩⟩;refine .inr (.inr ⟨kts,rfl,.inr (.inr ⟨kts,rfl,.inr (.inr ⟨?_,?_⟩),_,rfl,?_⟩)⟩)
  ·intro U hU;obtain⟨s,_,rfl⟩:=qf_.mp hU;trivial
  ·intro U hU;obtain⟨s,_,rfl⟩:=qf_.mp hU;trivial
  rw[L0];refine aQ ⟨by rw[ak];have:=h.2.1;omega,?_⟩;refine dY (λkt:Str×Tv=>sT kt.1) (λkt=>bT true) (λkt hk R q=>⟨_,wN h.1 hk,_,wN h.1 hk,kt.2,rfl,h.2.2 kt hk,q⟩) ⟨xN kts,?_⟩;rw[wJ];exact q
 |leaf v=>
  cases v with
  |non=>exact⟨rfl,_,rfl,aQ ⟨_,rfl,aQ ⟨_,rfl,aQ ⟨_,rfl,aQ ⟨_,rfl,aQ ⟨_,rfl,aQ ⟨_,rfl,bZ (bZ ⟨_,rfl,bZ q⟩)⟩⟩⟩⟩⟩⟩⟩
  |bl b=>
   rw[<-Nl (b:=b)]at q;exact⟨rfl,_,rfl,bZ (bZ ⟨_,rfl,bZ ⟨_,rfl,bZ q⟩⟩)⟩
  |int i=>
   rw[<-Nm (i:=i)]at q;exact⟨rfl,_,rfl,aQ ⟨_,rfl,aQ ⟨_,rfl,bZ (bZ ⟨_,rfl,bZ ⟨_,rfl,bZ q⟩⟩)⟩⟩⟩
  |str s=>
   rw[<-Mz (s:=s)]at q;exact⟨rfl,_,rfl,aQ ⟨_,rfl,aQ ⟨_,rfl,aQ ⟨_,rfl,aQ ⟨_,rfl,bZ (bZ ⟨_,rfl,bZ ⟨_,rfl,bZ q⟩⟩)⟩⟩⟩⟩⟩
  |_=>exact False.elim h
 |seq t xs=>
  cases t with
  |false=>
   refine⟨rfl,_,rfl,aQ ⟨_,rfl,aQ ⟨_,rfl,aQ ⟨_,rfl,aQ ⟨_,rfl,aQ ⟨_,rfl,aQ ⟨_,rfl,aQ ⟨_,rfl,aQ ⟨_,rfl,aQ ⟨_,rfl,aQ ⟨_,rfl,aQ ⟨_,rfl,aQ ⟨_,rfl,eZ (λ_=>⟨false,xs,xs,rfl,?_⟩) (λz=>absurd rfl z)⟩⟩⟩⟩⟩⟩⟩⟩⟩⟩⟩⟩⟩;rw[Cw];refine⟨by rw[ak];have:=h.1;omega,dY (λx=>.seq true [x,x]) (λx=>bT true) (λx hx R q=>⟨_,rfl,rfl,_,_,rfl,_,_,rfl,rfl,x,rfl,h.2 x hx,q⟩) ⟨xN xs,?_⟩⟩;rw[wJ];exact q
  |true=>
   refine⟨rfl,_,rfl,aQ ⟨_,rfl,aQ ⟨_,rfl,aQ ⟨_,rfl,aQ ⟨_,rfl,aQ ⟨_,rfl,aQ ⟨_,rfl,aQ ⟨_,rfl,aQ ⟨_,rfl,aQ ⟨_,rfl,aQ ⟨_,rfl,aQ ⟨_,rfl,aQ ⟨_,rfl,eZ (λ_=>⟨true,xs,xs,rfl,?_⟩) (λz=>absurd rfl z)⟩⟩⟩⟩⟩⟩⟩⟩⟩⟩⟩⟩⟩;rw[Cw];refine⟨by rw[ak];have:=h.1;omega,dY (λx=>.seq true [x,x]) (λx=>bT true) (λx hx R q=>⟨_,rfl,rfl,_,_,rfl,_,_,rfl,rfl,x,rfl,h.2 x hx,q⟩) ⟨xN xs,?_⟩⟩;rw[wJ];exact q
def Co(h:ao K mg "_law_same" nO)(B:Own mg):∀n:Nat,ae P w K mg base (1+n) "_law_same" PZ (pA n)
 |0=>h.pfalse t_ (fun|_,_,_,_,_,_,[_,_],_=>rfl) λas R ⟨_,_,h,_⟩=>h
 |n+1=>E_ h B (Co h B n)
def Ce(ts:List Str)(ne:ts≠[]):df 3 (bR (bN ts)):=by
 unfold bN;split
 ·rename_i h;refine⟨by simp,λx hx=>?_⟩;simp only[qh_,da,or_false]at hx;rcases hx with rfl|rfl
  ·trivial
  ·exact Er 0 (by rw[(fD _).length_eq];omega)
 ·obtain⟨hd,lo,hi,ms,e,m⟩:=jF ne;rw[e];refine⟨by simp,λx hx=>?_⟩;simp only[qh_,da,or_false]at hx;rcases hx with rfl|rfl|rfl|rfl|rfl
  ·trivial
  ·trivial
  ·trivial
  ·trivial
  ·refine Er 0 ?_;rw[m.mks];exact bw (p9 _ _) (by decide)
def Lk{D:List Tv->List Pt}{d:Nat}(hD:∀A,df (d+3) (bM (D A))){ks:List (List (Str×Tv))}:df (d+6) (aT (dc D ks)):=by
 by_cases h:(aH (aO ks)).length<=8
 ·rw[hG h,eR];refine⟨by simp,λx hx=>?_⟩;simp only[qh_,da,or_false]at hx;rcases hx with rfl|rfl|rfl|rfl
  ·trivial
  ·trivial
  ·trivial
  ·refine⟨by rw[ak,lA];omega,λy hy=>?_⟩;obtain⟨x,hx,rfl⟩:=qf_.mp hy;obtain⟨n,_,rfl⟩:=qf_.mp hx;refine⟨by simp,λz hz=>?_⟩;have hz:z∈[sT n,bT (cZ D ks n).2.1,bM (D (ix n ks))]:=hz;simp only[qh_,da,or_false]at hz;rcases hz with rfl|rfl|rfl
   ·trivial
   ·trivial
   ·exact hD _
 ·have ne:aO ks≠[]:=λe=>h (by rw[e];exact dq _)
  rw[hE h,fY];refine⟨by simp,λx hx=>?_⟩;simp only[qh_,da,or_false]at hx;rcases hx with rfl|rfl|rfl|rfl|rfl
  ·trivial
  ·trivial
  ·trivial
  ·exact(Ce _ ne).le (by omega)
  ·exact(hD _).le (by omega)
def Df:∀(n:Nat) (A:List Tv),df (4*n+6) (bM (aV n A))
 |0,A=>⟨by simp[aV],λx hx=>by simp[aV]at hx⟩
 |n+1,A=>by
  have ih:=Df n;refine⟨?_,λx hx=>?_⟩
  ·rw[ak];exact bw (kj _ _) (by decide)
  ·obtain⟨p,hp,rfl⟩:=qf_.mp hx;obtain⟨k,_,e⟩:=qM_.mp hp;show df (4*n+9) (aT p);unfold bA at e;split at e
   ·have:p=.nothing:=by
     split at e
     ·cases e;rfl
     ·cases e
    rw[this,uV];refine⟨by simp,λx hx=>?_⟩;rw[qB_.mp hx];trivial
   ·obtain⟨_,rfl⟩:=eK e;rw[qO];refine⟨by simp,λx hx=>?_⟩;simp only[qh_,da,or_false]at hx;rcases hx with rfl|rfl
    ·trivial
    ·refine⟨by rw[ak];exact bw (jR _ _) (by decide),λx hx=>?_⟩;obtain⟨b,_,rfl⟩:=qf_.mp hx;trivial
   ·obtain⟨_,rfl⟩:=eK e;rw[rD];refine⟨by simp,λx hx=>?_⟩;simp only[qh_,da,or_false]at hx;rcases hx with rfl|rfl|rfl|rfl<;>trivial
   ·obtain⟨ne,rfl⟩:=eK e;rw[qU];refine⟨by simp,λx hx=>?_⟩;simp only[qh_,da,or_false]at hx;rcases hx with rfl|rfl
    ·trivial
    ·exact(Ce _ ne).le (by omega)
   ·obtain⟨_,rfl⟩:=eK e;rw[iX];refine⟨by simp,λx hx=>?_⟩;simp only[qh_,da,or_false]at hx;rcases hx with rfl|rfl|rfl|rfl
    ·trivial
    ·trivial
    ·trivial
    ·exact(ih _).le (by omega)
   ·obtain⟨_,rfl⟩:=eK e;exact Lk (d:=4*n+3) λA=>ih A
   ·cases e
variable{n:Nat}
def cb:Nat->Tv->Prop
 |0,_=>False
 |_+1,.leaf .non=>True
 |_+1,.leaf (.bl _)=>True
 |_+1,.leaf (.int _)=>True
 |_+1,.leaf (.str _)=>True
 |n+1,.seq false xs=>xs.length<=1000/\∀x∈xs,cb n x
 |n+1,.dct kts=>(kts.map (·.1)).Nodup/\kts.length<64/\∀kt∈kts,cb n kt.2
 |_,_=>False
def cb.six{n:Nat}{v:Tv}(h:cb (n+1) v):v=nT\/(∃b,v=bT b)\/(∃i,v=iT i)\/(∃s,v=sT s)\/(∃xs,v=.seq false xs)\/∃k,v=.dct k:=by
 cases v with
 |leaf v=>cases v with
  |non=>exact .inl rfl
  |bl b=>exact .inr (.inl ⟨b,rfl⟩)
  |int i=>exact .inr (.inr (.inl ⟨i,rfl⟩))
  |str s=>exact .inr (.inr (.inr (.inl ⟨s,rfl⟩)))
  |_=>exact False.elim h
 |seq t xs=>cases t with
  |false=>exact .inr (.inr (.inr (.inr (.inl ⟨xs,rfl⟩))))
  |true=>exact False.elim h
 |dct k=>exact .inr (.inr (.inr (.inr (.inr ⟨k,rfl⟩))))
def cb.vd{nm tx:List Str}:∀{n:Nat}{T:Tv},VD nm tx n T->cb n T
 |0,_,h=>h
 |n+1,.leaf v,h=>by cases v<;>first|trivial|exact h
 |n+1,.seq false xs,h=>⟨bw h.1 (by decide),λx hx=>cb.vd (h.2 x hx)⟩
 |n+1,.seq true xs,h=>False.elim h
 |n+1,.dct k,h=>⟨h.1,oi h.2.1 (by decide),λkt hk=>cb.vd (h.2.2 kt hk).2⟩
def pD(n:Nat):bt:=λas R=>∃T,as=[.va T]/\cb n T/\R T
def LJ{kts:List (Str×Tv)}(nd:(kts.map (·.1)).Nodup){j:Nat}{kt:Str×Tv}(h:kts[j]?=some kt):eQ (kts.take j) kt.1 kt.2=kts.take (j+1):=by
 obtain⟨hj,rfl⟩:=qx_.mp h;have hn:kts[j].1∉(kts.take j).map (·.1):=λz=>by
  obtain⟨e,he,ee⟩:=qf_.mp z;obtain⟨k,hk,e2⟩:=qi2_.mp he;rw[jj]at hk;rw[List.getElem_take]at e2;rw[List.nodup_iff_pairwise_ne,qe2_,qq3_]at nd;exact nd k j (by omega) hj (by omega) (by rw[e2];exact ee)
 unfold eQ;rw[if_neg,pq hj];intro z;obtain⟨e,he,ee⟩:=qL_.mp z;exact hn (qf_.mpr ⟨e,he,kf ee⟩)
def uf:bF ["_law_value_here","_law_found","_law_name"] P3 (aN pQ):=bz (by decide +kernel)
def E9(h:ao K mg "_law_copy" pQ)(B:Own mg)(QR:ae P w K mg base (1+n) "_law_copy" P3 (pD n))   : ae P w K mg base (1+n+1) "_law_copy" P3 (pD (n+1)):=by
 have nd:=uf.nd;refine h.pgood uf (fun|_,_,_,_,_,_,[_],_=>rfl) (λf Qy A outer s H E F hr=>
   (aI (bD (cR (cH "list" nX rfl B.isinstance (aC 0) (cG (v:=.ty "list") rfl B.list_ boot_list rfl)))
    (aJ (aR (bG (fH (sc:=aN pQ) (XN:=["_law_value_here","_law_found","_law_name"]) (N:=["_law_item"]) (fr:=[]) (bU (aC 0)) (λ_ _ _ _ _=>(aL QR hr (aD (aC 0) aE)))))))
    bB)
   (aI (bD (cR (cH "dict" lZ rfl B.isinstance (aC 0) (cG (v:=.ty "dict") rfl B.dict_ boot_dict rfl)))
    (aI (Do (i:=1) nd rfl (.inl rfl))
    (aI (dS (m:=3) g4 rfl (bU (aC 0)) (dB 2 (by decide) nd rfl (.inl rfl))
     (aJ (By (i:=1) (pL hr) rfl (by first|exact Or.inl rfl|exact Or.inr (Or.inl rfl)|exact Or.inr (Or.inr rfl)) (aC 2) (aL QR hr (aD (aU hr (aC 0) (aC 2)) aE)))))
    (aJ (aR (aC 1)))))
    bB)
   (aJ (aR (aC 0)))))) (λas R q=>?_)
 obtain⟨T,rfl,h,q⟩:=q;rcases cb.six h with rfl|⟨b,rfl⟩|⟨i,rfl⟩|⟨s,rfl⟩|⟨xs,rfl⟩|⟨kts,rfl⟩
 ·exact⟨rfl,_,rfl,aQ ⟨_,rfl,aQ q⟩⟩
 ·exact⟨rfl,_,rfl,aQ ⟨_,rfl,aQ q⟩⟩
 ·exact⟨rfl,_,rfl,aQ ⟨_,rfl,aQ q⟩⟩
 ·exact⟨rfl,_,rfl,aQ ⟨_,rfl,aQ q⟩⟩
 ·refine⟨rfl,_,rfl,bZ ⟨by have:=h.1;omega,vV (λx=>x) (λx hx R q=>⟨x,rfl,h.2 x hx,q⟩) (by rw[List.map_id'];exact q)⟩⟩
 ·refine⟨rfl,_,rfl,aQ ⟨_,rfl,bZ ?_⟩⟩;refine gC (λkt:Str×Tv=>sT kt.1) (l:=kts) (λi ρ=>∃s2,ρ=[.va (.dct kts),.dct (kts.take i),s2]) ⟨_,rfl⟩ ?_ ?_
  ·rintro i kt _ N hk ⟨s2,rfl⟩ hN;have km:=gq hk;have e:=LJ h.1 hk;refine⟨_,wN h.1 km,kt.2,rfl,h.2.2 kt km,⟨_,rfl⟩,_,_,rfl,rfl,by rw[e,jj];have:=h.2.1;omega,?_⟩;rw[e];exact hN _ ⟨_,rfl⟩
  ·rintro _ ⟨s2,rfl⟩;rw[d_];exact q
def Du(h:ao K mg "_law_copy" pQ)(B:Own mg):∀n:Nat,ae P w K mg base (1+n) "_law_copy" P3 (pD n)
 |0=>h.pfalse uf (fun|_,_,_,_,_,_,[_],_=>rfl) λas R ⟨_,_,h,_⟩=>h
 |n+1=>E9 h B (Du h B n)
variable{n:Nat}
noncomputable def o7(n:Nat)(vs:List Tv):List Tv:=(List.range (vs.length+1)).map λi=>bM (aV n (vs.drop i))
noncomputable def nq(n:Nat)(ws:List Tv)(k:Nat):List Tv:=(List.range (k+1)).map λj=>bM (aV n (ws.take j).reverse)
def JT(n:Nat)(vs:List Tv):(nq n vs.reverse vs.length).reverse=o7 n vs:=by
 unfold nq o7;refine List.ext_getElem (by simp) λi h1 h2=>?_
 simp only[gn,ak,i_]at h1;rw[List.getElem_reverse,List.getElem_map,List.getElem_map,List.getElem_range,List.getElem_range];simp only[ak,i_];rw[List.take_reverse,List.reverse_reverse];congr 3;omega
def Kv(n:Nat)(ws:List Tv)(k:Nat)(v:Tv)(h:ws[k]?=some v):nq n ws (k+1)=nq n ws k++[bM (aV n ([v]++(ws.take k).reverse))]:=by
 unfold nq;rw[qm,ia,List.map_singleton,f7,h];simp
def Ku(n:Nat)(ws:List Tv)(k:Nat):gh (nq n ws k) (-1)=some (bM (aV n (ws.take k).reverse)):=by
 unfold nq;rw[qm,ia,List.map_singleton];unfold gh;have e:ng (k+1) (-1)=some k:=by
  unfold ng;rw[if_neg (by omega),if_pos (by omega)];congr 1;omega
 simp[e]
def Ca(n:Nat):bt:=λas R=>∃V:Tv->Prop,WD n V/\∃vs:List Tv,as=[.va (.seq false (vs.map λv=>bM (aV n [v])))]/\vs.length<=100/\(∀v∈vs,V v)/\R (.seq false (o7 n vs))
def wt:bF ["forms","tails","form"] ["forms"] (aN zH):=bz (by decide +kernel)
def EU(h:ao K mg "tails_told" zH)(B:Own mg)(QI:ae P w K mg base (9*n+9) "joined" PU (oq (aV n) (WD n)))(Brev:mg "reversed"=none):ae P w K mg base (9*n+12) "tails_told" ["forms"] (Ca n):=by
 have nd:=wt.nd;refine h.pgood wt (fun|_,_,_,_,_,_,[_],_=>rfl) (λf Qy A outer s H E F hr=>
   (aI (fV 1 nd (cD (aD (cA aE) aE)))
   (aI (dS (m:=3) g4 rfl (KF rfl Brev (aD (aC 0) aE)) (dB 2 (by decide) nd rfl (.inl rfl))
    (aJ (eF (fF 1 (aL QI hr (aD (aC 2) (aD (Dm 1 (yI yB aG)) aE)))))))
   (aJ (aR (bG (NS 1 rfl rfl B.list_ rfl Brev))))))) (λas R q=>?_)
 obtain⟨V,hV,vs,rfl,lv,hv,q⟩:=q;refine⟨rfl,by simp,by simp,?_⟩;refine⟨_,rfl,?_⟩;rw[<-List.map_reverse];refine gC (λv=>bM (aV n [v])) (l:=vs.reverse) (λi ρ=>∃s2:Sl,ρ=[.va (.seq false (vs.map λv=>bM (aV n [v]))),.own (nq n vs.reverse i),s2]) ⟨_,by unfold nq;rw[show(List.range (0+1))=[0] from rfl];simp[wV];rfl⟩ ?_ ?_
 ·rintro i v _ N hi ⟨s2,rfl⟩ hN;have el:gh (nq n vs.reverse i) (-1)=some (bM (aV n (vs.reverse.take i).reverse)):=Ku n vs.reverse i;have li:i<vs.length:=by have:=(qx_.mp hi).1;rwa[gn]at this
  refine⟨⟨_,rfl⟩,⟨_,rfl⟩,_,_,_,rfl,rfl,el,V,hV,[v],(vs.reverse.take i).reverse,rfl,(λu hu=>?_),(λu hu=>?_),_,rfl,?_,?_⟩
  ·rw[qB_.mp hu];exact hv v (qB3_.mp (gq hi))
  ·exact hv u (qB3_.mp (ny (qB3_.mp hu)))
  ·unfold nq;rw[ak,i_];omega
  ·refine hN _ ⟨.va (bM (aV n [v])),?_⟩;rw[Kv n vs.reverse i v hi];rfl
 ·rintro _ ⟨s2,rfl⟩;refine⟨_,rfl,?_⟩;rw[gn,JT];exact q
variable{n:Nat}
def cY(vs:List Tv)(ps:List Nat):List Tv:=ps.filterMap λj=>vs[j]?
open Classical in
noncomputable def bQ(n:Nat)(vs:List Tv):Nat->List Nat
 |0=>[]
 |i+1=>if aV n (cY vs (bQ n vs i)++vs.drop (i+1))=aV n vs then bQ n vs i else bQ n vs i++[i]
abbrev ki(ps:List Nat):List Tv:=ps.map λ(i:Nat)=>iT (i:Int)
def Bg(n:Nat):bt:=λas R=>∃V:Tv->Prop,WD n V/\n<=4/\∃vs:List Tv,as=[.va (.seq false vs)]/\vs.length<=60/\(∀v∈vs,V v)/\R (.seq true (ki (bQ n vs vs.length)))
def sF(n:Nat)(vs:List Tv):∀i,(∀j∈bQ n vs i,j<i)/\(bQ n vs i).Pairwise (· < ·)/\(bQ n vs i).length<=i
 |0=>by rw[bQ];exact⟨(λj h=>nomatch h),.nil,ba _⟩
 |i+1=>by
  obtain⟨h1,h2,h3⟩:=sF n vs i;rw[bQ];split
  ·exact⟨λj hj=>gk (h1 j hj),h2,by omega⟩
  ·refine⟨λj hj=>?_,List.pairwise_append.mpr ⟨h2,List.pairwise_singleton _ _,λa ha b hb=>?_⟩,by rw[b7];show _+1<=_;omega⟩
   ·rcases qp_.mp hj with q|q
    ·exact gk (h1 j q)
    ·rw[qB_.mp q];exact kz _
   ·rw[qB_.mp hb];exact h1 a ha
def rY{vs:List Tv}{ps:List Nat}:∀v∈cY vs ps,v∈vs:=λv h=>by
 obtain⟨j,_,e⟩:=qM_.mp h;exact gq e
def BP:∀{n m:Nat}{T:Tv},n<=m->df n T->ff m T
 |0,_,_,_,h=>False.elim h
 |_+1,0,_,l,_=>absurd l (by omega)
 |n+1,m+1,.leaf v,_,_=>trivial
 |n+1,m+1,.seq t xs,l,h=>λx hx=>BP (tj l) (h.2 x hx)
 |n+1,m+1,.dct k,_,h=>False.elim h
def mR{n:Nat}(hn:n<=4)(A:List Tv):∀U∈(aV n A).map aT,ff 40 U:=λU hU=>BP (n:=4*n+5) (by omega) ((Df n A).2 U hU)
def AX(n:Nat)(vs:List Tv)(i:Nat)(h:i<=vs.length):gh (o7 n vs) (i:Int)=some (bM (aV n (vs.drop i))):=by
 unfold gh;have e:ng (o7 n vs).length (i:Int)=some i:=by
  unfold ng o7;rw[if_pos (by omega),ak,i_,if_pos (by omega)];rfl
 rw[e];show(o7 n vs)[i]?=_;unfold o7;rw[fo,r8 (by omega)];rfl
def zx{f g:List Pt}{A B:Prop}(h1:f≠g->A)(h2:f=g->B):if (true != (true==true&&bO (f.map aT) (g.map aT)))=true then A else B:=by
 by_cases h:f=g
 ·rw[(tL f g).mpr h];exact h2 h
 ·rw[show bO (f.map aT) (g.map aT)=false from by rw[<-p_,tL];exact h];exact h1 h
def wq:bF Qv P5 (aN tX):=bz (by decide +kernel)
def EV(h:ao K mg "core" tX)(B:Own mg)(QX:ae P w K mg base (9*n+10) "form_of" PV (oJ n))(RA:ae P w K mg base (9*n+12) "tails_told" ["forms"] (Ca n))(QI:ae P w K mg base (9*n+9) "joined" PU (oq (aV n) (WD n)))   : ae P w K mg base (9*n+14) "core" P5 (Bg n):=by
 have nd:=wq.nd;refine h.pgood wq (fun|_,_,_,_,_,_,[_],_=>rfl) (λf Qy A outer s H E F hr=>
   (aI (fS (sc:=aN tX) (XN:=Qv) (N:=["sample"]) (fr:=[]) 1 nd (bU (aC 0)) (λ_ _ _ _ _=>gY) (λ_ _ _ _ _=>(aL QX hr (aD (aC 0) aE))))
   (aI (aZ 2 nd (aL RA hr (aD (aC 1) aE)))
   (aI (aZ 3 nd (cA aE))
   (aI (fV 4 nd (cD aE))
   (aI (dS (m:=6) g4 rfl (iY rfl B.range (aD (bI cE rfl B.len dg (aD (aC 1) aE)) aE)) (dB 5 (by decide) nd rfl (.inl rfl))
    (aJ (bD (dQ hr (aL QI hr (aD (aC 3) (aD (aU hr (aC 2) (bS dH (aC 5) aG)) aE))) (aU hr (aC 2) aG))
     (aI (eF (fF 4 (aC 5)))
     (aJ (aZ 3 nd (aL QI hr (aD (aC 3) (aD (aU hr (aC 1) (aC 5)) aE))))))
     bB)))
   (aJ (aR (fN fO rfl B.tuple_ boot_tuple (aD (aC 4) aE)))))))))) (λas R q=>?_)
 obtain⟨V,hV,n4,vs,rfl,lv,hv,q⟩:=q;refine⟨rfl,by omega,vV (λv=>bM (aV n [v])) (λv hvm R q=>⟨V,hV,v,rfl,hv v hvm,q⟩) ?_⟩;refine⟨V,hV,vs,rfl,by omega,hv,?_⟩;show az.nx _ _;refine gg (ρ':=[.va (.seq false vs),.va (.seq false (vs.map λv=>bM (aV n [v]))),.va (.seq false (o7 n vs)),.no,.no,.no]) rfl ?_;have lf:(vs.map λv=>bM (aV n [v])).length=vs.length:=ak ..;refine⟨by simp,by simp,_,rfl,by omega,by omega,?_⟩;rw[show(((vs.map λv=>bM (aV n [v])).length:Nat):Int).toNat=vs.length by rw[lf];rfl];refine kB (λi ρ=>∃s5:Sl,ρ=[.va (.seq false vs),.va (.seq false (vs.map λv=>bM (aV n [v]))),.va (.seq false (o7 n vs)),.va (bM (aV n (cY vs (bQ n vs i)))),.own (ki (bQ n vs i)),s5]) ⟨.no,by rw[bQ];simp[cY,wV]⟩ ?_ ?_
 ·rintro i T _ N hT ⟨s5,rfl⟩ hN;obtain⟨li,rfl⟩:=oI hT;rw[Int.zero_add];have pv:∀v∈cY vs (bQ n vs i),V v:=λv h=>hv v (rY v h)
  have e1:=AX n vs (i+1) li;have e0:=AX n vs 0 (dq _);rw[mq]at e0;refine⟨_,e1,V,hV,cY vs (bQ n vs i),vs.drop (i+1),rfl,pv,(λv h=>hv v (List.mem_of_mem_drop h)),_,e0,.inr (.inr ⟨mR n4 _,mR n4 _⟩),_,rfl,zx (λz=>?_) (λz=>?_)⟩
  ·have ek:bQ n vs (i+1)=bQ n vs i++[i]:=by rw[bQ,if_neg z]
   have ev:vs[i]?=some vs[i]:=b6 li;have ef:gh (vs.map λv=>bM (aV n [v])) (i:Int)=some (bM (aV n [vs[i]])):=bK (by rw[fo,ev];rfl);have ep:cY vs (bQ n vs (i+1))=cY vs (bQ n vs i)++[vs[i]]:=by
    rw[ek];unfold cY;rw[i5,ie,ev];rfl
   refine⟨⟨_,rfl⟩,_,rfl,by rw[ak];have:=(sF n vs i).2.2;omega,_,ef,V,hV,cY vs (bQ n vs i),[vs[i]],rfl,pv,(λv h=>by rw[qB_.mp h];exact hv _ (ja li)),?_⟩;refine hN _ ⟨.va (iT (i:Int)),?_⟩;rw[ep,ek];unfold ki;rw[ia];rfl
  ·refine hN _ ⟨.va (iT (i:Int)),?_⟩;rw[show bQ n vs (i+1)=bQ n vs i by rw[bQ,if_pos z]];rfl
 ·rintro _ ⟨s5,rfl⟩;rw[iF];exact⟨_,_,rfl,q⟩
def LA(vs:List Tv)(a b:List Nat):cY vs (a++b)=cY vs a++cY vs b:=by unfold cY;rw[i5]
def mem_pick{vs:List Tv}{ps:List Nat}{v:Tv}:v∈cY vs ps↔∃j∈ps,vs[j]?=some v:=by unfold cY;rw[qM_]
def vO{vs:List Tv}{i:Nat}{v:Tv}:v∈vs.drop i↔∃j,i<=j/\vs[j]?=some v:=by
 rw[List.mem_iff_getElem?];constructor
 ·rintro⟨k,e⟩;rw[k_]at e;exact⟨i+k,by omega,e⟩
 ·rintro⟨j,l,e⟩;exact⟨j-i,by rw[k_,show i+(j-i)=j by omega];exact e⟩
def Dy(n:Nat)(vs:List Tv):∀i,i<=vs.length->aV n (cY vs (bQ n vs i)++vs.drop i)=aV n vs
 |0,_=>by rw[bQ];rfl
 |i+1,l=>by
  have ih:=Dy n vs i (by omega);by_cases z:aV n (cY vs (bQ n vs i)++vs.drop (i+1))=aV n vs
  ·rw[bQ,if_pos z];exact z
  ·rw[bQ,if_neg z,LA,<-ih];refine rE n _ _ λv=>?_
   rw[jv,qp_,qp_,qp_,mem_pick,vO,vO,mem_pick];refine or_congr Iff.rfl ⟨λh=>?_,λ⟨j,lj,e⟩=>?_⟩
   ·rcases h with⟨j,hj,e⟩|⟨j,lj,e⟩
    ·rw[qB_]at hj;exact⟨j,by omega,e⟩
    ·exact⟨j,by omega,e⟩
   ·by_cases q:j=i
    ·exact .inl ⟨j,by rw[q];exact .head _,e⟩
    ·exact .inr ⟨j,by omega,e⟩
def L9(n:Nat)(vs:List Tv):aV n (cY vs (bQ n vs vs.length))=aV n vs:=by
 have:=Dy n vs vs.length (ba _);rwa[qf,jk]at this
def Ct(n:Nat)(vs:List Tv):∀i k,i<=k->(∀j∈bQ n vs i,j∈bQ n vs k)/\∀j∈bQ n vs k,j∈bQ n vs i\/i<=j
 |i,0,l=>by
  have:i=0:=by omega
  subst this;exact⟨λj h=>h,λj h=>.inl h⟩
 |i,k+1,l=>by
  by_cases e:i=k+1
  ·subst e;exact⟨λj h=>h,λj h=>.inl h⟩
  ·obtain⟨h1,h2⟩:=Ct n vs i k (by omega);rw[bQ];split
   ·exact⟨h1,h2⟩
   ·refine⟨λj hj=>ic _ (h1 j hj),λj hj=>?_⟩;rcases qp_.mp hj with q|q
    ·exact h2 j q
    ·rw[qB_.mp q];exact .inr (by omega)
def wO(n:Nat)(vs:List Tv):∀i g,g∈bQ n vs i->aV n (cY vs (bQ n vs g)++vs.drop (g+1))≠aV n vs
 |0,g,h=>by rw[bQ]at h;exact nomatch h
 |i+1,g,h=>by
  by_cases z:aV n (cY vs (bQ n vs i)++vs.drop (i+1))=aV n vs
  ·rw[bQ,if_pos z]at h;exact wO n vs i g h
  ·rw[bQ,if_neg z]at h;rcases qp_.mp h with q|q
   ·exact wO n vs i g q
   ·rw[qB_.mp q];exact z
def MC(n:Nat)(vs:List Tv){g:Nat}(hg:g∈bQ n vs vs.length):aV n (cY vs ((bQ n vs vs.length).filter λk=>decide (k≠g)))≠aV n vs:=λz=>by
 have hw:=wO n vs vs.length g hg;have lg:=(sF n vs vs.length).1 g hg;obtain⟨_,h2⟩:=Ct n vs g vs.length (by omega);refine hw (BL n _ _ _ ⟨λv hv=>?_,λv hv=>?_⟩ z)
 ·obtain⟨j,hj,e⟩:=mem_pick.mp hv;obtain⟨hj,ne⟩:=qZ1_.mp hj;have ne:=kf ne;rw[qp_,mem_pick,vO];rcases h2 j hj with q|q
  ·exact .inl ⟨j,q,e⟩
  ·exact .inr ⟨j,by omega,e⟩
 ·rcases qp_.mp hv with q|q
  ·exact rY v q
  ·exact List.mem_of_mem_drop q
def AG:∀{a b:List Int},a.Pairwise (· < ·)->b.Pairwise (· < ·)->(∀x,x∈a↔x∈b)->a=b
 |[],[],_,_,_=>rfl
 |[],y::b,_,_,h=>nomatch (h y).mpr (.head _)
 |x::a,[],_,_,h=>nomatch (h x).mp (.head _)
 |x::a,y::b,ha,hb,h=>by
  obtain⟨a1,a2⟩:=qb3_.mp ha;obtain⟨b1,b2⟩:=qb3_.mp hb;have e:x=y:=by
   rcases qh_.mp ((h x).mp (.head _)) with q|q
   ·exact q
   ·rcases qh_.mp ((h y).mpr (.head _)) with r|r
    ·exact r.symm
    ·have:=b1 x q;have:=a1 y r;omega
  subst e;rw[AG a2 b2 λz=>⟨λq=>?_,λq=>?_⟩]
  ·rcases qh_.mp ((h z).mp (.tail _ q)) with r|r
   ·have:=a1 z q;omega
   ·exact r
  ·rcases qh_.mp ((h z).mpr (.tail _ q)) with r|r
   ·have:=b1 z q;omega
   ·exact r
def yF(ps:List Nat):ki ps=(ps.map λ(i:Nat)=>(i:Int)).map iT:=by rw[fg];rfl
def AS(ps:List Nat):bO (ki ps) (ki ps)=true:=by rw[yF];exact(jC iT λp _ q=>nH p q).mpr rfl
def sO(ps:List Nat):∀U∈ki ps,ff 40 U:=λU h=>by
 obtain⟨i,_,rfl⟩:=qf_.mp h;trivial
def Dc(vs:List Tv)(p:Nat->Bool):∀ps:List Nat,(ps.filterMap λi=>if p i=true then vs[i]? else none)=cY vs (ps.filter p)
 |[]=>rfl
 |i::ps=>by
  rw[ie,List.filter_cons,Dc vs p ps];cases p i with
  |true=>rfl
  |false=>rfl
def Gz{f g:List Pt}{A B:Prop}(h1:f=g->A)(h2:f≠g->B):if (false != (true==true&&bO (f.map aT) (g.map aT)))=true then A else B:=by
 by_cases h:f=g
 ·rw[(tL f g).mpr h];exact h1 h
 ·rw[show bO (f.map aT) (g.map aT)=false from by rw[<-p_,tL];exact h];exact h2 h
def wH:bt:=λas R=>∃(nm tx:List Str) (st sp:Int) (vs:List Tv),as=[.va (.seq false vs),.va (.seq true (ki (bQ 4 vs vs.length)))]/\gX nm tx st sp/\vs.length<=60/\(∀v∈vs,VD nm tx 4 v)/\R (bT true)
def vq:bF Qh Qm (aN lQ):=bz (by decide +kernel)
theorem Fh(h:ao K mg "_law_is_core" lQ)(B:Own mg)(QM:ae P w K mg base 13 "_law_due" Qa (nE 5))   : ae P w K mg base 15 "_law_is_core" Qm wH:=by
 have nd:=vq.nd;refine h.pgood vq (fun|_,_,_,_,_,_,[_,_],_=>rfl) (λf Qy A outer s H E F hr=>
   (aI (bD (eI (fG (jI (cR (cH "tuple" uS rfl B.isinstance (aC 1) (cG (v:=.ty "tuple") rfl B.tuple_ boot_tuple rfl)))) (gD (dQ hr (bG (kI (sc:=aN lQ) (XN:=Qh) (N:=["_law_k"]) (fr:=[]) (bU (aC 1)) (λ_ _ _ _ _=>(fP (eI (fG (cR (cH "bool" jX rfl B.isinstance (aC 0) (cG (v:=.ty "bool") rfl B.bool_ boot_bool rfl))) (gD (jI (cR (cH "int" kR rfl B.isinstance (aC 0) (cG (v:=.ty "int") rfl B.int_ boot_int rfl))))))))) (λ_ _ _ _ _=>(aC 0)))) (bG (cD aE))))))
    (aJ (aR fI))
    bB)
   (aI (bD (eI (fG (dQ hr (bG (nZ qX rfl B.list_ boot_list (aD (aC 1) aE))) (bG (ON rfl rfl B.sorted rfl B.set_ (aC 1)))) (gD (dQ hr (bG (kI (sc:=aN lQ) (XN:=Qh) (N:=["_law_k","_law_samples_here"]) (fr:=[0]) (bU (aC 1)) (λ_ _ _ _ _=>(fP (jI (Nv tE lH aG (aC 0) (bI cE rfl B.len dg (aD (aC 1) aE)))))) (λ_ _ _ _ _=>(aC 0)))) (bG (cD aE))))))
    (aJ (aR fI))
    bB)
   (aI (aZ 2 nd (aL QM hr (aD (aC 0) aE)))
   (aI (bD (dQ hr (aL QM hr (aD (bG (fH (sc:=aN lQ) (XN:=Qh) (N:=["_law_k","_law_samples_here"]) (fr:=[0]) (bU (aC 1)) (λ_ _ _ _ _=>(aU hr (aC 1) (aC 0))))) aE)) (aC 2))
    (aJ (aR fI))
    bB)
   (aI (dS (m:=4) g4 rfl (bU (aC 1)) (dB 3 (by decide) nd rfl (.inr rfl))
    (aJ (bD (cF hr (aL QM hr (aD (bG (kI (sc:=aN lQ) (XN:=Qh) (N:=["_law_k","_law_samples_here","_law_gone"]) (fr:=[0,3]) (bU (aC 1)) (λ_ _ _ _ _=>(fP (dQ hr (aC 0) (aC 2)))) (λ_ _ _ _ _=>(aU hr (aC 1) (aC 0))))) aE)) (aC 2))
     (aJ (aR fI))
     bB)))
   (aJ (aR fI)))))))) (λas R q=>?_)
 obtain⟨nm,tx,st,sp,vs,rfl,hw,lv,hv,q⟩:=q;have kl:=sF 4 vs vs.length;have lk:(ki (bQ 4 vs vs.length)).length<=60:=by rw[ak];omega
 refine⟨rfl,_,rfl,aQ ⟨by omega,gR (λ_=>none) (λT hT R q=>?_) ?_⟩⟩
 ·obtain⟨i,_,rfl⟩:=qf_.mp hT;exact⟨_,rfl,aQ ⟨_,rfl,aQ q⟩⟩
 rw[show ∀l:List Tv,l.filterMap (λ_=>(none:Option Tv))=[] from λl=>by simp];refine⟨by simp,.inl rfl,_,rfl,aQ ?_⟩;generalize hps:bQ 4 vs vs.length=ps at *;show az.nx _ _;refine gg (ρ':=[.va (.seq false vs),.va (.seq true (ki ps)),.no,.no]) rfl ?_;refine⟨_,_,rfl,ps.map (λ(i:Nat)=>(i:Int)),by rw[yF],by rw[ak]at lk ⊢;omega,λms m1 m2=>?_⟩;have em:ms=ps.map (λ(i:Nat)=>(i:Int)):=AG m1 (qe2_.mpr (kl.2.1.imp λh=>Int.ofNat_lt.mpr h)) m2;subst em;rw[<-yF];refine⟨.inr (.inr ⟨sO ps,sO ps⟩),_,rfl,?_⟩;rw[AS];refine aQ ⟨by omega,gR (λ_=>none) (λT hT R q=>?_) ?_⟩
 ·obtain⟨i,hi,rfl⟩:=qf_.mp hT;have li:=kl.1 i hi;refine⟨_,rfl,kM (λ_=>⟨_,rfl,?_⟩) (λz=>absurd (Int.natCast_nonneg i) z)⟩;rw[show decide ((i:Int)<((vs.length:Nat):Int))=true from jd (Int.ofNat_lt.mpr li)];exact aQ q
 rw[show ∀l:List Tv,l.filterMap (λ_=>(none:Option Tv))=[] from λl=>by simp];refine⟨by simp,.inl rfl,_,rfl,aQ ?_⟩;show az.nx _ _;refine gg (ρ':=[.va (.seq false vs),.va (.seq true (ki ps)),.no,.no]) rfl ?_;have bd:∀l:List Tv,l.length<=60->l.length*11 ^ 4<=1100000:=λl h=>bw (jn _ h) (by decide)
 have hp:∀qs:List Nat,(∀j∈qs,j<vs.length)->∀v∈cY vs qs,VD nm tx 4 v:=λqs _ v h=>hv v (rY v h)
 have pl:∀qs:List Nat,(cY vs qs).length<=qs.length:=λqs=>kj _ _
 refine⟨4,nm,tx,st,sp,vs,rfl,hw,hv,bd vs lv,by decide,by decide,?_⟩;show az.nx _ _;refine gg (ρ':=[.va (.seq false vs),.va (.seq true (ki ps)),.va (bM (aV 4 vs)),.no]) rfl ?_;refine⟨by omega,iZ (λ(i:Nat)=>iT (i:Int)) (λi=>vs[i]?) (λi hi R q=>?_) ?_⟩
 ·have ei:vs[i]?=some (vs[i]'(kl.1 i hi)):=b6 _;rw[ei]at q;exact⟨_,bK ei,q⟩
 have lk':ps.length<=60:=by rw[ak]at lk;exact lk
 refine⟨4,nm,tx,st,sp,cY vs ps,rfl,hw,hp ps kl.1,bd _ (bw (pl ps) lk'),by decide,by decide,?_⟩;have ea:aV 4 (cY vs ps)=aV 4 vs:=by rw[<-hps];exact L9 4 vs
 rw[ea];refine⟨.inr (.inr ⟨mR (ba _) _,mR (ba _) _⟩),_,rfl,zx (λz=>absurd rfl z) (λ_=>?_)⟩;refine gC (λ(i:Nat)=>iT (i:Int)) (l:=ps) (λi ρ=>∃s3:Sl,ρ=[.va (.seq false vs),.va (.seq true (ki ps)),.va (bM (aV 4 vs)),s3]) ⟨_,rfl⟩ ?_ (λ_ ⟨_,e⟩=>by subst e;exact q);rintro k g _ N hg ⟨s3,rfl⟩ hN;have gm:=gq hg;refine⟨by omega,iZ (λ(i:Nat)=>iT (i:Int)) (λi=>if decide (i≠g)=true then vs[i]? else none) (λi hi R q=>?_) ?_⟩
 ·have ei:vs[i]?=some (vs[i]'(kl.1 i hi)):=b6 _;refine⟨_,rfl,?_⟩;by_cases z:i=g
  ·subst z;rw[if_neg (by simp)]at q;show if (true != cz (V.int (i:Int)) (V.int (i:Int)))=true then _ else _
   rw[if_neg (by simp[cz])];exact q
  ·rw[if_pos (by simpa using z),ei]at q;show if (true != cz (V.int (i:Int)) (V.int (g:Int)))=true then _ else _
   rw[if_pos (by simp[cz];omega)];exact⟨_,bK ei,q⟩
 rw[Dc];have lf:(cY vs (ps.filter λi=>decide (i≠g))).length<=60:=bw (pl _) (bw (p9 _ _) lk');refine⟨4,nm,tx,st,sp,_,rfl,hw,(λv h=>hv v (rY v h)),bd _ lf,by decide,by decide,?_⟩;refine⟨.inr (.inr ⟨mR (ba _) _,mR (ba _) _⟩),_,rfl,Gz (λz=>?_) (λ_=>hN _ ⟨_,rfl⟩)⟩;rw[<-hps]at gm z;exact absurd z (MC 4 vs gm)
variable{n:Nat}
def vP:t6:=λas R=>∃nm tx st sp,∃many:Int,as=[.dk,.va (eW nm tx st sp),.va (iT many)]/\gX nm tx st sp/\0<=many/\many<=60/\∀Us:List Tv,(Us.length:Int)=many->(∀U∈Us,VD nm tx 4 U)->R Us
def v_:bF Qw Qn (aN tU):=bz (by decide +kernel)
def E8(h:ao K mg "_law_samples" tU)(B:Own mg)(QB:ae P w K mg base 2 "_law_take" PY gF)(QP:ae P w K mg base 14 "_law_value" P_ (mO 4))   : pN P w K mg base 15 "_law_samples" Qn vP:=by
 have nd:=v_.nd;refine h.lgood v_ (fun|_,_,_,_,_,_,[_,_,_],_=>rfl) (λf Qy A outer s H E F hr=>
   (Bx (aZ 3 nd (aU hr (bG (cD (aD aG (aD aG (aD aG (aD aG (aD aG (aD aG aE)))))))) (aL QB hr (bY 0 (aD aG aE)))))
   (Bx (aZ 4 nd (aU hr (bG (cD (aD aG (aD aG (aD aG (aD aG aE)))))) (aL QB hr (bY 0 (aD aG aE)))))
   (J5 (fH (sc:=aN tU) (XN:=Qw) (N:=["_law_k","_law_deck_here","_law_world_here","_law_way","_law_deep"]) (fr:=[0,1,3,4]) (iY rfl B.range (aD (aC 2) aE)) (λ_ _ _ _ _=>(aL QP hr (bY 1 (aD (aC 2) (aD (aC 4) (aD (aC 3) aE))))))))))) (λas R q=>?_)
 obtain⟨nm,tx,st,sp,many,rfl,hw,m0,m6,q⟩:=q;refine⟨rfl,by simp,rfl,6,rfl,by decide,cL (by decide) (by decide),λr r0 r1=>?_⟩;obtain⟨W,hW,hWm⟩:=kO (l:=[iT 9,iT 9,iT 1,iT 5,iT 7,iT 8]) r0 r1;have hw':∃d:Int,W=iT d/\0<=d/\d<=9:=by
  simp only[qh_,da,or_false]at hWm;rcases hWm with e|e|e|e|e|e<;>subst e<;>exact⟨_,rfl,by decide,by decide⟩
 obtain⟨way,rfl,w0,w9⟩:=hw';refine⟨_,hW,by simp,rfl,4,rfl,by decide,cL (by decide) (by decide),λc c0 c1=>?_⟩;obtain⟨D,hD,hDm⟩:=kO (l:=[iT 2,iT 2,iT 1,iT 3]) c0 c1;have hd':∃d:Int,D=iT d/\0<=d/\d<4:=by
  simp only[qh_,da,or_false]at hDm;rcases hDm with e|e|e|e<;>subst e<;>exact⟨_,rfl,by decide,by decide⟩
 obtain⟨d,rfl,d0,d1⟩:=hd';refine⟨_,hD,_,rfl,by omega,by omega,by rw[iF];omega,rF (λT U=>VD nm tx 4 U) (λT hT R hR=>⟨rfl,nm,tx,st,sp,d,way,rfl,hw,d0,by omega,w0,w9,λU hU=>hR U hU⟩) (λUs hUs=>?_)⟩;refine q Us ?_ (qS (g:=VD nm tx 4) (λa b h=>h) hUs);have:=hUs.length;rw[iF]at this;omega
def IC{nm tx:List Str}{n:Nat}(T:Tv)(hT:yR tx T):VD nm tx (n+1) T:=by
 cases T with
 |leaf v=>cases v<;>first|exact hT|exact False.elim hT
 |seq t xs=>exact False.elim hT
 |dct k=>exact False.elim hT
def cb.le:∀{n m:Nat}{T:Tv},n<=m->cb n T->cb m T
 |0,_,_,_,h=>False.elim h
 |_+1,0,_,l,_=>absurd l (by omega)
 |n+1,m+1,.leaf v,_,h=>by cases v<;>first|trivial|exact h
 |n+1,m+1,.seq false xs,l,h=>⟨h.1,λx hx=>cb.le (tj l) (h.2 x hx)⟩
 |n+1,m+1,.seq true xs,l,h=>False.elim h
 |n+1,m+1,.dct k,l,h=>⟨h.1,h.2.1,λkt hk=>cb.le (tj l) (h.2.2 kt hk)⟩
def vo:bF Qr P9 (aN iU):=bz (by decide +kernel)
theorem IH{f:Addr}{fd:FuncData}(F:t7 K "law" "law" iU f fd)(B:Own mg)(RB:cv P w K mg base 1 "_law_deck" P9 (Ax K))(Q8:ae P w K mg base 5 "_law_world" P6 xF)(QY:ae P w K mg base 50 "core" P5 (Bg 4))(Q_:pN P w K mg base 15 "_law_samples" Qn vP)(QB:ae P w K mg base 2 "_law_take" PY gF)(QV:ae P w K mg base 5 "_law_leaf" P4 pC)(QR:ae P w K mg base 6 "_law_copy" P3 (pD 5))(QW:ae P w K mg base 23 "_law_same" PZ (pA 22))(Re:ae P w K mg base 15 "_law_is_core" Qm wH)   : du P w K mg base o6 53 f fd P9 (sV K):=by
 refine F.ok vo (λvs H Q E q=>?_) (λQy A outer s H vs Q E hr q=>?_)
 ·obtain⟨a,ns,rfl,_⟩:=q;rfl
 ·obtain⟨aa,ns,rfl,hS,hlen,q⟩:=q;have nd:=vo.nd;refine⟨_,(gQ (kF (i:=1) nd rfl (by first|exact Or.inl rfl|exact Or.inr rfl) (pH RB (hr.mono (by omega)) rfl (cV (pv 0) dC)))
   (K8 λF=>(aI (aZ 2 nd (aL Q8 hr (bY 1 aE)))
   (aI (bD (dQ hr (aL QY hr (aD (bG (cD aE)) aE)) (cA aE))
    (aJ (aR fI))
    bB)
   (aI (dS (m:=7) g4 rfl (iY rfl B.range (aD aG aE)) (dB 3 (by decide) nd rfl (.inl rfl))
    (aI (fV 4 nd (GZ Q_ (hr.mono (by omega)) rfl (bY 1 (aD (aC 2) (aD (aL QB hr (bY 1 (aD aG aE))) aE)))))
    (aI (bD (cF hr (aL QB hr (bY 1 (aD aG aE))) aG)
     (aJ (Bz (i:=4) (sc:=aN iU) (XN:=Qr) (N:=["_law_j","_law_deck_here","_law_world_here"]) (own:=1) (fr:=[1,2]) rfl nd rfl (.inl rfl) ⟨rfl,by decide +kernel,by decide +kernel,by decide +kernel,rfl,by decide +kernel,by decide,by decide +kernel⟩ (by decide) (iY rfl B.range (aD aG aE)) (λ_ _ _ _ _=>(dB 0 (by decide) (show(["_law_j","_law_deck_here","_law_world_here"]:List Str).Nodup by decide +kernel) rfl (by first|exact Or.inl rfl|exact Or.inr rfl))) (λ_ _ _ _ _=>gY) (λ_ _ _ _ _=>(aL QV hr (bY 1 (aD (aC 2) aE))))))
     bB)
    (aI (bD (eI (mT (Bv λF=>(dQ hr (aC 4) (bG (cD aE)))) (oN (cF hr (aL QB hr (bY 1 (aD aG aE))) aG))))
     (aJ (eF (fF 4 (aL QR hr (aD (Dm 4 (aL QB hr (bY 1 (aD (rT λF=>(bI cE rfl B.len dg (aD (aC 4) aE))) aE)))) aE)))))
     bB)
    (aI (J7 4 (aZ 5 nd (aL QR hr (aD (aC 4) aE))))
    (aI (aZ 6 nd (aL QY hr (aD (aC 5) aE)))
    (aJ (bD (eI (fG (jI (cR (aL Re hr (aD (aC 4) (aD (aC 6) aE))))) (fG (jI (cR (aL QW hr (aD (aC 5) (aD (aC 4) aE))))) (gD (dQ hr (aL QY hr (aD (aC 5) aE)) (aC 6))))))
     (aJ (aR fI))
     bB))))))))
   (aJ (aR fI))))))),?_⟩
  refine⟨_,rfl,aa,ns,rfl,hS,λp c H1 np nc d1 s1=>?_⟩;refine JL (N:=Qr) (by decide) d1 q ?_;clear q hS hlen hr d1 s1 np nc;refine⟨rfl,rfl,λnm tx st sp hw=>?_⟩;have W4:WD 4 (VD nm tx 4):=⟨nm,tx,st,sp,hw,rfl⟩
  show az.nx _ _;refine gg (ρ':=[.no,.dk,.va (eW nm tx st sp),.no,.no,.no,.no]) rfl ?_;refine⟨by simp,VD nm tx 4,W4,ba _,[],rfl,by simp,(λv h=>nomatch h),?_⟩;rw[show ki (bQ 4 [] ([]:List Tv).length)=[] by show ki (bQ 4 [] 0)=[];rw[bQ];rfl];refine⟨by simp,.inl rfl,_,rfl,aQ ?_⟩;refine⟨_,rfl,by decide,by decide,?_⟩;refine kB (λi ρ=>∃s3 s4 s5 s6:Sl,ρ=[.no,.dk,.va (eW nm tx st sp),s3,s4,s5,s6]) ⟨_,_,_,_,rfl⟩ ?_ (λ_ ⟨_,_,_,_,e⟩=>by subst e;rfl);rintro i T _ N hT ⟨s3,s4,s5,s6,rfl⟩ hN;refine⟨rfl,rfl,7,rfl,by decide,cL (by decide) (by decide),λr r0 r1=>⟨nm,tx,st,sp,r,rfl,hw,r0,by omega,λUs lU hU=>?_⟩⟩;show az.nx _ _;refine gg (ρ':=[.no,.dk,.va (eW nm tx st sp),.va T,.own Us,s5,s6]) rfl ?_;refine⟨rfl,8,rfl,by decide,cL (by decide) (by decide),λa a0 a1=>⟨_,rfl,kZ (J:=λV:List Tv=>V.length<=12/\∀v∈V,VD nm tx 4 v) (λV=>[.no,.dk,.va (eW nm tx st sp),.va T,.own V,s5,s6]) (λz rest=>?_) (λz=>⟨Us,⟨by omega,hU⟩,rfl⟩) (λV hV=>?_)⟩⟩
  ·refine⟨_,rfl,by decide,by decide,by rw[iF];decide,?_⟩;refine rF (λT U=>VD nm tx 4 U) (λT hT R hR=>⟨rfl,nm,tx,st,sp,rfl,hw,λU hU=>hR U (IC U hU)⟩) (λVs hVs=>?_);have l:=hVs.length;rw[iF]at l;exact rest Vs ⟨by have:(12:Int).toNat=12:=rfl;omega,qS (g:=VD nm tx 4) (λa b h=>h) hVs⟩
  obtain⟨lV,hV⟩:=hV;dsimp only;refine Es (J:=λρ'=>∃W:List Tv,(W.length<=13/\∀v∈W,VD nm tx 4 v)/\ρ'=[.no,.dk,.va (eW nm tx st sp),.va T,.own W,s5,s6]) ?rest (λrest=>?main)
  case main=>
   by_cases z:V=[]
   ·subst z;exact⟨by simp,.inl rfl,_,rfl,aQ (rest _ ⟨[],⟨by simp,hV⟩,rfl⟩)⟩
   ·obtain⟨x,xs,rfl⟩:=List.exists_cons_of_ne_nil z;refine⟨by simp,.inr (.inl rfl),_,rfl,?_⟩;rw[show bO (x::xs) []=false by simp[bO]];refine bZ ⟨rfl,2,rfl,by decide,cL (by decide) (by decide),λb b0 b1=>⟨_,rfl,i3 (λz=>?_) (λz=>rest _ ⟨x::xs,⟨by omega,hV⟩,rfl⟩)⟩⟩;refine⟨⟨_,rfl⟩,⟨_,rfl⟩,rfl,⟨_,rfl,(((x::xs).length:Nat):Int),rfl,by simp,cL (by simp;omega) (by have:(x::xs).length<=12:=lV;omega),λr r0 r1=>?_⟩⟩;have rl:r.toNat<(x::xs).length:=by omega
    have er:gh (x::xs) r=some ((x::xs)[r.toNat]):=by
     have:=bK (b6 rl);rwa[Int.toNat_of_nonneg r0]at this
    have hx:=hV _ (ja rl);refine⟨r,_,_,rfl,rfl,er,_,rfl,.le (by decide) (cb.vd hx),_,rfl,by have:(x::xs).length<=12:=lV;omega,rest _ ⟨x::xs++[(x::xs)[r.toNat]],⟨by rw[b7];show _+1<=_;omega,λv hv=>?_⟩,rfl⟩⟩;rcases qp_.mp hv with q|q
    ·exact hV v q
    ·rw[qB_.mp q];exact hx
  case rest=>
   rintro _ ⟨W,⟨lW,hW⟩,rfl⟩;have cW:cb 5 (.seq false W):=⟨by omega,λx hx=>.vd (hW x hx)⟩
   have sW:cx 22 (.seq false W):=⟨by omega,λx hx=>.le (by decide) (cx.vd (hW x hx))⟩
   refine⟨_,rfl,cW,?_⟩;show az.nx _ _;refine gg (ρ':=[.no,.dk,.va (eW nm tx st sp),.va T,.va (.seq false W),.va (.seq false W),s6]) rfl ?_;refine⟨VD nm tx 4,W4,ba _,W,rfl,by omega,hW,?_⟩;show az.nx _ _;refine gg (ρ':=[.no,.dk,.va (eW nm tx st sp),.va T,.va (.seq false W),.va (.seq false W),.va (.seq true (ki (bQ 4 W W.length)))]) rfl ?_;refine⟨nm,tx,st,sp,W,rfl,hw,by omega,hW,_,rfl,aQ ⟨_,rfl,sW,_,rfl,aQ ?_⟩⟩;refine⟨VD nm tx 4,W4,ba _,W,rfl,by omega,hW,.inr (.inr ⟨sO _,sO _⟩),_,rfl,?_⟩;rw[AS];exact aQ (hN _ ⟨_,_,_,_,rfl⟩)
end
end My
namespace My
open PySem L2 PyProof.Rows
open WordM
open PySem
theorem all_mk{l:W.OpenLaw}{w:World}{K:W.Frag}{h:Heap}{mg:Str->Option Value}{fa:Addr}(X:K.In h)(G:h.Ns mainGlobals mg)(hfa:mg "law"=some (.ref fa)){f57:Addr}{v_57 t_57:Option Addr}{p_57:Array (Option Value)}{u_57 w_57 x_57 y_57 r_57 q_57:Value}
 (Sx:ao K mg "kind_of" yy)
 (Sy:ao K mg "divisor_of" yw)
 (Sz:ao K mg "run_of" yv)
 (SA:ao K mg "telling_numbers" yu)
 (SB:ao K mg "run_joined" yt)
 (SC:ao K mg "has_mark" x8)
 (SD:ao K mg "marks_of" x6)
 (SE:ao K mg "marks_joined" yr)
 (SF:ao K mg "shared_head" yq)
 (SG:ao K mg "make_of" u4)
 (RF:ao K mg "words_of" zO)
 (RG:ao K mg "as_make" zN)
 (RH:ao K mg "with_shorter_head" zM)
 (RI:ao K mg "makes_joined" zL)
 (RJ:ao K mg "words_joined" zK)
 (RK:ao K mg "part_kind" zJ)
 (RL:ao K mg "part_for" zI)
 (RN:ao K mg "forms_within" uG)
 (RO:ao K mg "list_part" uF)
 (RP:ao K mg "dict_part" nR)
 (RQ:ao K mg "part_of" uE)
 (RS:ao K mg "form_of" uA)
 (RT:ao K mg "fields_by_name" tZ)
 (RU:ao K mg "field_joined" pY)
 (RV:ao K mg "records_joined" pX)
 (RW:ao K mg "name_words" tY)
 (RX:ao K mg "tables_joined" pW)
 (RY:ao K mg "dicts_joined" pV)
 (RZ:ao K mg "lists_joined" pU)
 (R0:ao K mg "parts_joined" pT)
 (R1:ao K mg "joined" nQ)
 (Rm:ao K mg "all_joined" nP)
 (R4:ao K mg "told" pS)
 (R5:ao K mg "tails_told" zH)
 (R6:ao K mg "core" tX)
 (R7:ao K mg "_law_mixed" zG)
 (R8:ao K mg "_law_deck" zF)
 (R9:ao K mg "_law_take" zE)
 (R_:ao K mg "_law_signs" zD)
 (Sa:ao K mg "_law_text" zC)
 (Sb:ao K mg "_law_unlike" yZ)
 (Sd:ao K mg "_law_far" yY)
 (Se:ao K mg "_law_world" tW)
 (Sf:ao K mg "_law_number" yX)
 (Sh:ao K mg "_law_leaf" yW)
 (Si:ao K mg "_law_dict" tV)
 (Sj:ao K mg "_law_value" pR)
 (Sk:ao K mg "_law_samples" tU)
 (Sm:ao K mg "_law_copy" pQ)
 (Sn:ao K mg "_law_same" nO)
 (So:ao K mg "_law_divisor" yV)
 (Sq:ao K mg "_law_mark" yU)
 (Sr:ao K mg "_law_words" lT)
 (Ss:ao K mg "_law_run" yT)
 (Su:ao K mg "_law_dicts" lR)
 (Sv:ao K mg "_law_due" iA)
 (Sw:ao K mg "_law_is_core" lQ)
 (a57:W.nsIn K mainGlobals "law"=some (some (.ref f57))) (l57:K.lookup f57=some ⟨u_57,v_57,.func (W.fnOf "law" "law" (gW iU) (eS iU) (aN iU) .none w_57 x_57 y_57 t_57 r_57 q_57),p_57⟩) (c57:W.codeIn K r_57 "law"=true) (k57:W.keepIn K (.ref f57)=true)
    (z0:W.nsIn K mainGlobals "len"=some none) (z1:W.nsIn K mainGlobals "range"=some none) (z2:W.nsIn K mainGlobals "isinstance"=some none) (z3:W.nsIn K mainGlobals "int"=some none) (z4:W.nsIn K mainGlobals "bool"=some none) (z5:W.nsIn K mainGlobals "str"=some none) (z6:W.nsIn K mainGlobals "list"=some none) (z7:W.nsIn K mainGlobals "tuple"=some none) (z8:W.nsIn K mainGlobals "dict"=some none) (z9:W.nsIn K mainGlobals "sum"=some none) (z10:W.nsIn K mainGlobals "min"=some none) (z11:W.nsIn K mainGlobals "max"=some none) (z12:W.nsIn K mainGlobals "all"=some none) (z13:W.nsIn K mainGlobals "any"=some none) (z14:W.nsIn K mainGlobals "abs"=some none) (z15:W.nsIn K mainGlobals "zip"=some none) (z16:W.nsIn K mainGlobals "sorted"=some none) (z17:W.nsIn K mainGlobals "set"=some none) (z18:W.nsIn K mainGlobals "enumerate"=some none) {aSIGNS aMARKS aPK:Addr} {tk1 tk2 tk3 tk4 tk5 tk6 tk7 tk8 um1 um2 um3 um4 tp1 tp2 tp3 tp4 tp5 tp6 tp7 tp8 tp9 tp10 tp11 tp12 tp13 tp14:Tok} {epS nM epP:Nat} {ddM:Option Addr} {slM:Array (Option Value)} {aKN:Addr} {uk1 uk2 uk3 uk4 uk5 uk6:Tok} {nK:Nat} {slK:Array (Option Value)} {tkF tkF8:Tok}
    (aS:W.nsIn K mainGlobals "SIGNS"=some (some (.ref aSIGNS)))
    (lS:K.lookup aSIGNS=some ⟨.type "dict",none,.dict #[{hash:=PyData.keyHash w.params ("figure":Str),key:=.str "figure" tk1,val:=.str "0123456789" tk2},{hash:=PyData.keyHash w.params ("great":Str),key:=.str "great" tk3,val:=.str "ABCDEFGHIJKLMNOPQRSTUVWXYZ" tk4},{hash:=PyData.keyHash w.params ("other":Str),key:=.str "other" tk5,val:=.str " !\"#$&'()*+,-./:;<=>?\x40[\\]^_`{|}~" tk6},{hash:=PyData.keyHash w.params ("small":Str),key:=.str "small" tk7,val:=.str "abcdefghijklmnopqrstuvwxyz" tk8}] epS,#[]⟩)
    (aM:W.nsIn K mainGlobals "MARKS"=some (some (.ref aMARKS)))
    (lM:K.lookup aMARKS=some ⟨.type "tuple",ddM,.seq #[.str "figure" um1,.str "great" um2,.str "other" um3,.str "small" um4] nM,slM⟩)
    (aP:W.nsIn K mainGlobals "PART_KINDS"=some (some (.ref aPK)))
    (lP:K.lookup aPK=some ⟨.type "dict",none,.dict #[{hash:=PyData.keyHash w.params ("nothing":Str),key:=.str "nothing" tp1,val:=.str "nothing" tp2},{hash:=PyData.keyHash w.params ("truths":Str),key:=.str "truths" tp3,val:=.str "truth" tp4},{hash:=PyData.keyHash w.params ("numbers":Str),key:=.str "numbers" tp5,val:=.str "number" tp6},{hash:=PyData.keyHash w.params ("texts":Str),key:=.str "texts" tp7,val:=.str "text" tp8},{hash:=PyData.keyHash w.params ("lists":Str),key:=.str "lists" tp9,val:=.str "list" tp10},{hash:=PyData.keyHash w.params ("record":Str),key:=.str "record" tp11,val:=.str "dict" tp12},{hash:=PyData.keyHash w.params ("table":Str),key:=.str "table" tp13,val:=.str "dict" tp14}] epP,#[]⟩)
    (aK:W.nsIn K mainGlobals "KINDS"=some (some (.ref aKN)))
    (lK:K.lookup aKN=some ⟨.type "tuple",none,.seq #[.str "nothing" uk1,.str "truth" uk2,.str "number" uk3,.str "text" uk4,.str "list" uk5,.str "dict" uk6] nK,slK⟩)
    (aF:W.nsIn K mainGlobals "MOST_FEW"=some (some (.int 6 tkF)))
    (aF8:W.nsIn K mainGlobals "MOST_FIELDS"=some (some (.int 8 tkF8)))
    (zrv:W.nsIn K mainGlobals "reversed"=some none):
    ∃fd:FuncData,(∀(s:Shared) (v:Value),BindsTo s fd ⟨[v],[]⟩ [("_law_script",v)])/\∀base:Heap,K.In base->base.Ns mainGlobals mg->du l.prog w K mg base o6 53 fa fd P9 (sV K):=by
  have e:=hfa.symm.trans (PySem.W.mg_of X G a57);cases e;have B:Own mg:=IS X G z0 z1 z2 z3 z4 z5 z6 z7 z8 z9 z10 z11 z12 z13 z14 z15 z16 z17 z18;refine⟨W.fnOf "law" "law" (gW iU) (eS iU) (aN iU) .none w_57 x_57 y_57 t_57 r_57 q_57,λs v=>.of_eq rfl,λbase KB GB=>?_⟩;have GSIGNS:pO K w.params mg "SIGNS" vh:=⟨aSIGNS,PySem.W.mg_of X G aS,⟨⟨_,_,lS,⟨rfl,⟨_,rfl⟩,⟨_,rfl⟩,rfl,⟨_,rfl⟩,⟨_,rfl⟩,rfl,⟨_,rfl⟩,⟨_,rfl⟩,rfl,⟨_,rfl⟩,⟨_,rfl⟩,trivial⟩⟩,by decide +kernel⟩⟩
  have GPART_KINDS:pO K w.params mg "PART_KINDS" yh:=⟨aPK,PySem.W.mg_of X G aP,⟨⟨_,_,lP,⟨rfl,⟨_,rfl⟩,⟨_,rfl⟩,rfl,⟨_,rfl⟩,⟨_,rfl⟩,rfl,⟨_,rfl⟩,⟨_,rfl⟩,rfl,⟨_,rfl⟩,⟨_,rfl⟩,rfl,⟨_,rfl⟩,⟨_,rfl⟩,rfl,⟨_,rfl⟩,⟨_,rfl⟩,rfl,⟨_,rfl⟩,⟨_,rfl⟩,trivial⟩⟩,by decide +kernel⟩⟩
  have TM:∀H,cq K H aMARKS (MK.map V.str):=λH=>.inr ⟨_,_,_,lM,rfl,rfl,by show 4<=sizeLine;decide,.cons ⟨_,rfl⟩ (.cons ⟨_,rfl⟩ (.cons ⟨_,rfl⟩ (.cons ⟨_,rfl⟩ .nil)))⟩
  have GMARKS:eP K mg "MARKS" (.seq true (MK.map sT)):=Dv (PySem.W.mg_of X G aM) TM;have TKN:∀H,cq K H aKN ((kN6.map dA).map V.str):=λH=>.inr ⟨_,_,_,lK,rfl,rfl,by show 6<=sizeLine;decide,.cons ⟨_,rfl⟩ (.cons ⟨_,rfl⟩ (.cons ⟨_,rfl⟩ (.cons ⟨_,rfl⟩ (.cons ⟨_,rfl⟩ (.cons ⟨_,rfl⟩ .nil)))))⟩
  have GKINDS:eP K mg "KINDS" (.seq true (kN6.map λk=>sT (dA k))):=Dv (PySem.W.mg_of X G aK) TKN;have GMOST_FEW:eP K mg "MOST_FEW" (iT 6):=⟨.int 6,_,PySem.W.mg_of X G aF,⟨_,rfl⟩,λH=>.flat rfl⟩
  have GMOST_FIELDS:eP K mg "MOST_FIELDS" (iT 8):=⟨.int 8,_,PySem.W.mg_of X G aF8,⟨_,rfl⟩,λH=>.flat rfl⟩
  have Brev:mg "reversed"=none:=jc X G zrv;have QB:ae l.prog w K mg base 2 "_law_take" PY gF:=cv.take (Hd R9 (JF R7));have QS:ae l.prog w K mg base 1 "_law_signs" [] rX:=EW R_ B ;have QT:ae l.prog w K mg base 3 "_law_text" PY sK:=EX Sa B QS QB;have Q2:ae l.prog w K mg base 4 "_law_unlike" Qj wD:=EY Sb B QS QT;have QU:ae l.prog w K mg base 3 "_law_far" P6 tH:=EZ Sd B QB;have Q8:ae l.prog w K mg base 5 "_law_world" P6 xF:=E3 Se B QB Q2 QT QU;have Q9:ae l.prog w K mg base 4 "_law_number" P4 wF:=E4 Sf B QB QU;have QV:ae l.prog w K mg base 5 "_law_leaf" P4 pC:=E5 Sh B QB Q9;have Rf:ae l.prog w K mg base 1 "kind_of" PV sL:=PR Sx B ;have RE:ae l.prog w K mg base 1 "has_mark" Qb vK:=PL SC B GSIGNS;have Rg:ae l.prog w K mg base 2 "marks_of" ["text"] qY:=PK SD B RE GMARKS;have Q5:ae l.prog w K mg base 1 "part_kind" PX vB:=Fz RK B GPART_KINDS;have QL:ae l.prog w K mg base 2 "part_for" Qc oD:=FA RL B Q5;have Rq:ae l.prog w K mg base 1 "divisor_of" PU yO:=PQ Sy B ;have Rn:ae l.prog w K mg base 1 "telling_numbers" ["run"] vI:=PN SA B ;have Rz:ae l.prog w K mg base 2 "run_of" ["numbers"] xG:=PP Sz B Rq;have Q3:ae l.prog w K mg base 3 "run_joined" PU pB:=PM SB B Rz Rn;have Rh:ae l.prog w K mg base 1 "marks_joined" PU uJ:=PJ SE B ;have Ri:ae l.prog w K mg base 1 "shared_head" PU uH:=PH SF B ;have Rj:ae l.prog w K mg base 3 "make_of" P0 rO:=PF SG B Ri Rg;have QG:ae l.prog w K mg base 4 "words_of" P0 kT:=Fu RF B Rj GMOST_FEW;have Q0:ae l.prog w K mg base 4 "as_make" ["words"] wI:=Fv RG B Rj;have Q1:ae l.prog w K mg base 3 "with_shorter_head" ["make","head"] vJ:=Fw RH B Rh Rg;have Q4:ae l.prog w K mg base 4 "makes_joined" PU wG:=Fx RI B Ri Q1 Rh;have QK:ae l.prog w K mg base 5 "words_joined" PU mI:=Fy RJ B QG Q4 Q0;have QJ:ae l.prog w K mg base 1 "fields_by_name" P7 nU:=FF RT B ;have QO:ae l.prog w K mg base 5 "name_words" PX qA:=FI RW B QG;have QN:ae l.prog w K mg base 1 "forms_within" PX qB:=FB RN B ;have QP:ae l.prog w K mg base 14 "_law_value" P_ (mO 4):=wR Sj Si B QB QV 4;have Rb:ae l.prog w K mg base 1 "_law_mark" Qd yE:=Fc Sq B ;have Ra:ae l.prog w K mg base 1 "_law_divisor" PZ vL:=Fb So B ;have Rc:ae l.prog w K mg base 2 "_law_run" Qf tG:=Fe Ss B Ra;have QZ:ae l.prog w K mg base 2 "_law_words" Qe oQ:=Fd Sr B Rb;have QM:ae l.prog w K mg base 13 "_law_due" Qa (nE 5):=yH Sv Su B Rc QZ 5;have QW:ae l.prog w K mg base 23 "_law_same" PZ (pA 22):=Co Sn B 22;have QR:ae l.prog w K mg base 6 "_law_copy" P3 (pD 5):=Du Sm B 5;have Re:ae l.prog w K mg base 15 "_law_is_core" Qm wH:=Fh Sw B QM;have Q_:pN l.prog w K mg base 15 "_law_samples" Qn vP:=E8 Sk B QB QP;have Gj:∀n:Nat,ae l.prog w K mg base (9*n+9) "joined" PU (oq (aV n) (WD n)):=λn=>Cn R1 R0 RZ RY RX Rm RV RU B QL Q3 QK QJ QO QN GMOST_FIELDS GKINDS n
  have Gform:=(Cp R4 RS RQ RO RP Rm B Rf QG GMOST_FIELDS Gj 4).1;have Gtails:=EU R5 B (Gj 4) Brev;have QY:=EV R6 B Gform Gtails (Gj 4);exact IH (A6 (st:=iU) l57 c57 k57) B (Hc R8 B) Q8 QY Q_ QB QV QR QW Re 
def walk{l:W.OpenLaw}{q:Program}{loose:List Str}{XP:(Str->Option Value)->Heap->Prop}{YP:World->Heap->Prop}{d:DefRec}{K:Params->W.Frag}(hn:l.most=some 63)(hdf:d.params.defaults=[])
  (hY:∀(w:World) (h:Heap),YP w h->(K w.params).In h)
  (F:∀(w:World) (mg:Str->Option Value) (fa:Addr) (h:Heap),(K w.params).In h->h.Ns mainGlobals mg->mg d.name=some (.ref fa) ->
   ∃fd:FuncData,(∀(s:Shared) (u:Value),BindsTo s fd ⟨[u],[]⟩ [("_law_script",u)])/\∀base:Heap,(K w.params).In base->base.Ns mainGlobals mg->du l.prog w (K w.params) mg base o6 53 fa fd P9 (sV (K w.params))):
  PySem.W.WalkO q loose XP YP l.row.toRowW d [] (λf vs=>PySem.call f vs):=
 L2.walk_of (n:=63) (k:=53) (x:="_law_script") (CX:=λ_=>o6) (sp:=λw=>sV (K w.params)) hn (by decide) hdf ⟨rfl,by decide,by decide,rfl⟩ hY F (λ_ _ a ns hl _ hS=>⟨a,ns,rfl,hS,hl,λ_=>rfl⟩) λ_ _ _ _ _ z=>z
end My
inductive PySem.W.Fast:Prop
|tw17135790134474374214
|tw14201525087779477856
|tw111554570476030912
|tw9031412051949610017
|tw11344256175053214849
|tw18430600074339346689
|tw13947104782527003009
|tw631660484844333697
|tw14800360443376191105
|tw11330633935949277985
|tw10629051892190763841
|tw6996800403963843906
|tw292219484533317090
|tw14917527859082456770
|tw1842359437144062658
|tw1575266229522320322
|tw13772605453616402370
|tw14219075873311126787
|tw3040918484375851044
|tw14292672705519569156
|tw11832141372302916996
|tw14297552252136929732
|tw5884715818531783236
|tw3052048877254825604
|tw2101774682883206437
|tw14425053023789142341
|tw13654831205029168517
|tw9993175208007166469
|tw12685853982389475845
|tw12061971144043291365
|tw14333202130329102758
|tw7608273819819699846
|tw11999987921634338470
|tw11907811766701791910
|tw7712216670668994374
|tw395918976413333991
|tw4799648621441345159
|tw15490944697305391943
|tw56825495471172616
|tw2798793163107082408
|tw5084976361157923464
|tw8092978567333091080
|tw132880634553456424
|tw14190903400490417353
|tw13944390365401445801
|tw8835438667187223049
|tw9592286824137120681
|tw3189500245602009546
|tw15802982866969212586
|tw12473321286497947115
|tw12550899791409309868
|tw11697469122309195980
|tw16333213024705307916
|tw6629152325325181228
|tw12515954338654408172
|tw17033660691311936300
|tw143546603239999436
|tw3762893610506241197
|tw8187881899711428781
|tw5774244507410330861
|tw13133376185819646253
|tw4238984700834879053
|tw10451015830386416237
|tw17958627843020580461
|tw11577778373414251245
|tw6890112269950267341
|tw11173427866338578766
|tw3832887732978207086
|tw11855122729043894766
|tw9286780561868204718
|tw6605438299946746766
|tw15136917989817062735
|tw15652671371505860079
|tw3785744466006666735
|tw3915329195838351087
|tw13160580348954976272
|tw10799896876551467792
|tw16255331424648971088
|tw4777333976404448144
|tw15641190591642866545
|tw11860324986704292721
|tw567181609012700145
|tw1256450708663645202
|tw18401473595622202450
|tw6461395158413930898
|tw11868167237066019378
|tw7235351811280302674
|tw17923725646517890738
|tw17020713490105630899
|tw14196789434190347988
|tw16784200893241694996
|tw5889227724872860693
|tw11805598553866792181
|tw8442457870951171701
|tw11630533609711544117
|tw13941127739420271477
|tw3144930851651018006
|tw768238065420189174
|tw3343071142251606582
|tw13495315360946918294
|tw13772602446567198710
|tw3863818444891331671
|tw8813773351131659383
|tw11787955606785347799
|tw14065411858300458008
|tw18222155239554512952
|tw7757019402447431992
|tw3173165832738405976
|tw16493985259777262200
|tw4612506938316895896
|tw7476697357082423000
|tw6448041832587268856
|tw17277249155707542009
|tw14889407241113406265
|tw3391502939135531001
|tw12863529661193700602
|tw5372201187553238394
|tw15184343397377521434
|tw8745063548249740090
|tw2988791983176238235
|tw613130288850596059
|tw12973865377312066843
|tw2198938660795254107
|tw4897689819129690555
|tw1544490500811090395
|tw11858865232012807995
|tw2399329582738507675
|tw2815831885399863420
|tw8915036692267560284
|tw6414934810931854812
|tw17625518382504806204
|tw163693130932327260
|tw15855606873862509564
|tw1517114752065081373
|tw5593267290478383293
|tw7411484719425100125
|tw4199926823992896893
|tw14116576718568477053
|tw18123833693849938557
|tw2908819155959669790
|tw16493849188237263390
|tw18161779359877320127
|tw14831148296390354655
|tw14629283672699502527
|tw2742134231750095839
open PySem PySem.W PyProof.Rows
set_option maxRecDepth 100000 in
set_option maxHeartbeats 0 in
theorem PySem.Challenge.cw_leastform_k45_cores_of_samples_holds : PySem.Challenge.rw_leastform_k45_cores_of_samples.Holds := by
 w_on; o_law; k_head; (case hw => w_witness2)
 k_fill
 refine My.walk (l := PySem.Challenge.rw_leastform_k45_cores_of_samples) rfl rfl (fun w h Y => PySem.W.kIn_of Y) ?F
 case F =>
  intro w mg fa h KX G hmg
  refine' My.all_mk KX G hmg (L2.has_mk KX G ?a0 ?l0 ?c0 ?k0) (L2.has_mk KX G ?a1 ?l1 ?c1 ?k1) (L2.has_mk KX G ?a2 ?l2 ?c2 ?k2) (L2.has_mk KX G ?a3 ?l3 ?c3 ?k3) (L2.has_mk KX G ?a4 ?l4 ?c4 ?k4) (L2.has_mk KX G ?a5 ?l5 ?c5 ?k5) (L2.has_mk KX G ?a6 ?l6 ?c6 ?k6) (L2.has_mk KX G ?a7 ?l7 ?c7 ?k7) (L2.has_mk KX G ?a8 ?l8 ?c8 ?k8) (L2.has_mk KX G ?a9 ?l9 ?c9 ?k9) (L2.has_mk KX G ?a10 ?l10 ?c10 ?k10) (L2.has_mk KX G ?a11 ?l11 ?c11 ?k11) (L2.has_mk KX G ?a12 ?l12 ?c12 ?k12) (L2.has_mk KX G ?a13 ?l13 ?c13 ?k13) (L2.has_mk KX G ?a14 ?l14 ?c14 ?k14) (L2.has_mk KX G ?a15 ?l15 ?c15 ?k15) (L2.has_mk KX G ?a16 ?l16 ?c16 ?k16) (L2.has_mk KX G ?a17 ?l17 ?c17 ?k17) (L2.has_mk KX G ?a18 ?l18 ?c18 ?k18) (L2.has_mk KX G ?a19 ?l19 ?c19 ?k19) (L2.has_mk KX G ?a20 ?l20 ?c20 ?k20) (L2.has_mk KX G ?a21 ?l21 ?c21 ?k21) (L2.has_mk KX G ?a22 ?l22 ?c22 ?k22) (L2.has_mk KX G ?a23 ?l23 ?c23 ?k23) (L2.has_mk KX G ?a24 ?l24 ?c24 ?k24) (L2.has_mk KX G ?a25 ?l25 ?c25 ?k25) (L2.has_mk KX G ?a26 ?l26 ?c26 ?k26) (L2.has_mk KX G ?a27 ?l27 ?c27 ?k27) (L2.has_mk KX G ?a28 ?l28 ?c28 ?k28) (L2.has_mk KX G ?a29 ?l29 ?c29 ?k29) (L2.has_mk KX G ?a30 ?l30 ?c30 ?k30) (L2.has_mk KX G ?a31 ?l31 ?c31 ?k31) (L2.has_mk KX G ?a32 ?l32 ?c32 ?k32) (L2.has_mk KX G ?a33 ?l33 ?c33 ?k33) (L2.has_mk KX G ?a34 ?l34 ?c34 ?k34) (L2.has_mk KX G ?a35 ?l35 ?c35 ?k35) (L2.has_mk KX G ?a36 ?l36 ?c36 ?k36) (L2.has_mk KX G ?a37 ?l37 ?c37 ?k37) (L2.has_mk KX G ?a38 ?l38 ?c38 ?k38) (L2.has_mk KX G ?a39 ?l39 ?c39 ?k39) (L2.has_mk KX G ?a40 ?l40 ?c40 ?k40) (L2.has_mk KX G ?a41 ?l41 ?c41 ?k41) (L2.has_mk KX G ?a42 ?l42 ?c42 ?k42) (L2.has_mk KX G ?a43 ?l43 ?c43 ?k43) (L2.has_mk KX G ?a44 ?l44 ?c44 ?k44) (L2.has_mk KX G ?a45 ?l45 ?c45 ?k45) (L2.has_mk KX G ?a46 ?l46 ?c46 ?k46) (L2.has_mk KX G ?a47 ?l47 ?c47 ?k47) (L2.has_mk KX G ?a48 ?l48 ?c48 ?k48) (L2.has_mk KX G ?a49 ?l49 ?c49 ?k49) (L2.has_mk KX G ?a50 ?l50 ?c50 ?k50) (L2.has_mk KX G ?a51 ?l51 ?c51 ?k51) (L2.has_mk KX G ?a52 ?l52 ?c52 ?k52) (L2.has_mk KX G ?a53 ?l53 ?c53 ?k53) (L2.has_mk KX G ?a54 ?l54 ?c54 ?k54) (L2.has_mk KX G ?a55 ?l55 ?c55 ?k55) (L2.has_mk KX G ?a56 ?l56 ?c56 ?k56) ?a57 ?l57 ?c57 ?k57 ?z0 ?z1 ?z2 ?z3 ?z4 ?z5 ?z6 ?z7 ?z8 ?z9 ?z10 ?z11 ?z12 ?z13 ?z14 ?z15 ?z16 ?z17 ?z18 ?aS ?lS ?aM ?lM ?aP ?lP ?aK ?lK ?aF ?aF8 ?zrv
  any_goals k_is
