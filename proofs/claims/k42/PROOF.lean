import PyProof.Rows.All
import Wide.All
import OpenK.AllK
import PySem.Challenge.RW_leastform_k42_forms_of_any_hand_joined
set_option Elab.async false
set_option linter.all false
set_option maxRecDepth 100000
set_option maxHeartbeats 4000000
set_option compiler.extract_closed false
def af:=@PySem.wpAny_bind
def aj:=@PySem.wpAny_pure
def ak:=@List.length_map
def qd_:=@List.mem_map
def qe_:=@List.mem_cons
def bh:=@PySem.Heap.get?_push_of_some
def bg:=@Nat.le_refl
def bo:=@PySem.Heap.lt_size
def bw:=@List.length_append
def qj_:=@List.mem_append
def b9:=@List.getElem?_eq_getElem
def b_:=@List.not_mem_nil
def ck:=@PySem.Heap.get?_push_size
def cg:=@List.size_toArray
def cq:=@Bool.false_ne_true
def cx:=@Nat.le_trans
def cz:=@Nat.ne_of_lt
def de:=@List.mem_append_right
def dh:=@List.map_map
def du:=@PySem.boot_len
def e7:=@Array.length_toList
def e6:=@List.map_cons
def gg:=@List.mem_append_left
def gf:=@List.getElem?_map
def gc:=@List.length_cons
def gb:=@List.map_append
def gm:=@List.filterMap_cons
def qB_:=@List.getElem?_eq_some_iff
def gk:=@List.append_nil
def gp:=@decide_eq_true
def g6:=@Nat.zero_le
def h9:=@Array.getElem?_toList
def g_:=@PySem.wpAny_setState_of
def ic:=@PySem.wpAny_holding
def n6:=@Bool.false_eq_true
def qJ_:=@List.mem_singleton
def iq:=@decide_eq_false
def ip:=@of_decide_eq_true
def i5:=@List.mem_of_getElem?
def i4:=@List.replicate_succ
def i3:=@PySem.Heap.size_push
def iz:=@List.exists_mem_of_ne_nil
def i_:=@List.length_replicate
def jc:=@Nat.ne_of_gt
def jb:=@Array.getElem?_eq_getElem
def ja:=@PySem.W.mg_none_of
def qU_:=@List.append_eq_nil_iff
def jt:=@PySem.wpAny_call_entry
def jr:=@PySem.PassesOwn.never
def qX_:=@List.any_eq_true
def kj:=@Nat.lt_of_lt_of_le
def ki:=@List.getD_eq_getElem?_getD
def qa1_:=@Option.map_eq_some_iff
def d7:=@List.find?_cons
def qc1_:=@List.mem_flatten
def qd1_:=@List.mem_filter
def ff:=@Nat.le_of_lt
def fe:=@List.mem_cons_self
def fc:=@List.mem_cons_of_mem
def qh1_:=@List.nodup_cons
def fb:=@Bool.and_eq_true
def e_:=@List.append_assoc
def qk1_:=@List.not_lt
def e9:=@PySem.wpAny_newObj_type
def fu:=@List.length_take
def fo:=@PySem.Heap.get?_update_self
def qo1_:=@List.mem_flatMap
def fk:=@List.filterMap_append
def gi:=@List.nil_append
def g5:=@Nat.lt_irrefl
def g4:=@List.getElem?_set_self
def qt1_:=@List.mem_filterMap
def gz:=@Nat.lt_trans
def gu:=@List.take_add_one
def gr:=@PySem.wpAny_setField_rec
def h_:=@List.getElem?_set_ne
def qy1_:=@List.mem_range
def ix:=@List.length_set
def i9:=@List.flatten_cons
def qB1_:=@List.all_eq_true
def i8:=@List.pairwise_map
def i7:=@Nat.lt_succ_of_lt
def qE1_:=@List.eq_nil_iff_forall_not_mem
def i6:=@PySem.codeAny_builtin
def jn:=@List.getElem?_append_left
def jl:=@Nat.le_succ
def jk:=@List.eq_nil_of_length_eq_zero
def jj:=@List.take_length
def ji:=@Int.emod_lt_of_pos
def jh:=@Int.emod_nonneg
def jg:=@Int.dvd_zero
def jf:=@List.flatten_append
def je:=@List.any_append
def jd:=@PySem.Around.under_plainId
def j9:=@List.getElem?_append_right
def j8:=@List.foldl_cons
def j7:=@List.length_singleton
def j6:=@List.getElem_mem
def j5:=@Bool.eq_iff_iff
def j4:=@Int.dvd_trans
def j3:=@List.cons_append
def qX1_:=@List.mem_replicate
def kx:=@Bool.or_false
def ku:=@List.lookup_cons
def kr:=@List.any_cons
def kn:=@Int.dvd_sub
def qc2_:=@List.length_pos_iff
def qd2_:=@List.nodup_iff_pairwise_ne
def my:=@List.getElem?_replicate
def mx:=@List.length_drop
def mw:=@PySem.Heap.get?_update_other
def mr:=@List.map_congr_left
def qi2_:=@Array.getElem?_eq_some_iff
def mq:=@Nat.lt_succ_self
def mi:=@List.length_range
def mh:=@List.nodup_nil
def qm2_:=@List.mem_iff_getElem
def mf:=@Bool.and_false
def me:=@Int.le_refl
def md:=@Int.dvd_add
def l_:=@List.perm_ext_iff_of_nodup
def lu:=@List.append_cancel_left
def qs2_:=@List.filterMap_eq_nil_iff
def nz:=@List.filterMap_map
def ny:=@Nat.lt_of_le_of_lt
def nv:=@List.getElem?_drop
def nq:=@List.take_of_length_le
def nk:=@List.range_succ_eq_map
def qy2_:=@Nat.not_lt
def nj:=@List.getElem?_eq_none
def oo:=@List.drop_zero
def om:=@Nat.lt_or_eq_of_le
def oi:=@List.drop_eq_getElem_cons
def oh:=@List.map_id
def og:=@Int.sub_self
def qF2_:=@List.pairwise_cons
def qG2_:=@List.find?_eq_none
def n_:=@List.filter_sublist
def n9:=@List.length_filterMap_le
def qJ2_:=@List.map_eq_nil_iff
def qi:=@List.map_nil
def qh:=@List.all_map
def qg:=@Nat.not_lt_zero
def qf:=@Nat.mod_lt
def qe:=@List.nodup_append
def qd:=@Nat.mul_comm
def qc:=@List.le_refl
def p_:=@List.le_trans
def p9:=@Bool.false_or
def p7:=@List.toList_toArray
def p6:=@List.take_append_drop
def p0:=@List.drop_length
def pq:=@List.sizeOf_lt_of_mem
def pk:=@Int.dvd_refl
def pj:=@Int.dvd_mul_right
def ph:=@Array.size_map
def qa3_:=@List.cons_lt_cons_iff
def pd:=@List.length_filter_le
def o_:=@List.flatMap_append
def s_:=@List.of_mem_zip
def sy:=@List.take_sublist
def sv:=@List.reverse_cons
def su:=@Nat.le_of_not_lt
def sk:=@List.forIn_cons
def sj:=@Int.toNat_natCast
def sf:=@List.length_reverse
def se:=@Nat.lt_trichotomy
def sd:=@Array.getElem?_eq_none
def sa:=@Array.toArray_toList
def r_:=@List.foldl_append
def r9:=@Int.lt_of_lt_of_le
def r8:=@List.take_zero
def rq:=@List.lt_irrefl
def rp:=@List.nil_sublist
def rn:=@Nat.lt_of_not_le
def rk:=@List.ne_nil_of_mem
def rj:=@List.sublist_append_left
def uo:=@Int.fdiv_eq_ediv_of_nonneg
def um:=@List.eraseIdxIfInBounds_toArray
def qx3_:=@List.pairwise_iff_getElem
def uk:=@List.length_eraseIdx_of_lt
def qz3_:=@List.findIdx?_eq_none_iff
def uw:=@List.length_erase_of_mem
def uv:=@Array.getD_eq_getD_getElem?
def ur:=@Array.isEmpty_iff_size_eq_zero
def uq:=@Int.mul_le_mul_of_nonneg_left
namespace L2
open PySem PySem.Spec PyProof.Rows
abbrev Oh:List Str:=["one","other"]
abbrev Oi:List Str:=["_law_one","_law_other"]
abbrev Oj:List Str:=["_law_deck_here","_law_most"]
abbrev Ol:List Str:=["part"]
abbrev Om:List Str:=["_law_part_here"]
abbrev Oo:List Str:=["_law_deck_here"]
abbrev Oq:List Str:=["texts"]
abbrev Os:List Str:=["_law_some"]
abbrev Ot:List Str:=["record"]
abbrev Ou:List Str:=["_law_deck_here","_law_world_here","_law_deep","_law_most"]
abbrev Ov:List Str:=["_law_words"]
abbrev Ow:List Str:=["_law_script"]
abbrev Ox:List Str:=["_law_sign"]
abbrev Oy:List Str:=["_law_some","_law_head","_law_at","_law_least","_law_most","_law_marks","_law_one"]
abbrev Oz:List Str:=["text","mark"]
abbrev OA:List Str:=["form","kind"]
abbrev OB:List Str:=["_law_number_here","_law_k"]
abbrev OC:List Str:=["_law_deck_here","_law_world_here"]
abbrev OD:List Str:=["_law_deck_here","_law_world_here","_law_deep","_law_many","_law_names","_law_some","_law_fields","_law_musts","_law_least","_law_most"]
abbrev OE:List Str:=["_law_deck_here","_law_world_here","_law_deep","_law_most","_law_kinds","_law_some"]
abbrev OF:List Str:=["_law_deck_here","_law_many","_law_most"]
abbrev OG:List Str:=["texts","head","tails","sizes"]
abbrev OH:List Str:=["_law_k","_law_mark_here","_law_bits"]
abbrev OI:List Str:=["_law_one","_law_other","_law_least","_law_most","_law_names","_law_known","_law_inner_here","_law_form_here","_law_fields","_law_name","_law_some","_law_must"]
abbrev OJ:List Str:=["_law_script","_law_deck_here","_law_world_here","_law_k","_law_one","_law_other","_law_third","_law_due","_law_whole"]
abbrev OK:List Str:=["_law_deck_here","_law_most","_law_names","_law_head","_law_texts","_law_start"]
abbrev OL:List Str:=["_law_deck_here","_law_least","_law_most","_law_bits","_law_marks","_law_some"]
abbrev OM:List Str:=["_law_deck_here","_law_world_here","_law_texts","_law_some"]
abbrev ON:List Str:=["_law_deck_here","_law_world_here","_law_deep"]
abbrev OO:List Str:=["_law_deck_here","_law_world_here","_law_deep","_law_many"]
abbrev OP:List Str:=["_law_deck_here","_law_world_here","_law_deep","_law_kind","_law_most"]
abbrev OQ:List Str:=["_law_one","_law_other","_law_word","_law_step"]
abbrev OR:List Str:=["_law_one","_law_other","_law_kinds","_law_found","_law_words","_law_some"]
abbrev ba:=Sum Int Str
def kP:ba->Value->Bool
 |.inl k,v=>Value.isInt k v
 |.inr x,v=>Value.isStrOf x v
def DW(w:World):ba->Int
 |.inl k=>hashInt k
 |.inr x=>hashStr w x
theorem hZ:∀{k:ba}{v:Value},kP k v=true->(∃i t,k=Sum.inl i/\v=Value.int i t)\/(∃x t,k=Sum.inr x/\v=Value.str x t)
 |.inl i,v,h=>by
  obtain⟨t,e⟩:=Value.isInt_shape (k:=i) (v:=v) h;exact .inl ⟨i,t,rfl,e⟩
 |.inr x,v,h=>by
  obtain⟨t,e⟩:=Value.isStrOf_shape (x:=x) (v:=v) h;exact .inr ⟨x,t,rfl,e⟩
theorem K3(i:Int)(t:Tok):kP (.inl i) (.int i t)=true:=by simp[kP,Value.isInt]
theorem K4(x:Str)(t:Tok):kP (.inr x) (.str x t)=true:=by simp[kP,Value.isStrOf]
theorem F4(a b:Int):decide ((Sum.inl a:ba)=Sum.inl b)=(a==b):=by
 by_cases e:a=b
 ·subst e;simp
 ·have h:¬ (Sum.inl a:ba)=Sum.inl b:=λq=>e (Sum.inl.inj q)
  rw[iq h];exact(beq_eq_false_iff_ne.mpr e).symm
theorem F7(a b:Str):decide ((Sum.inr a:ba)=Sum.inr b)=decide (a=b):=by
 by_cases e:a=b
 ·subst e;simp
 ·have h:¬ (Sum.inr a:ba)=Sum.inr b:=λq=>e (Sum.inr.inj q)
  rw[iq h,iq e]
theorem F5(a:Int)(b:Str):decide ((Sum.inl a:ba)=Sum.inr b)=false:=iq (λq=>nomatch q)
theorem F6(a:Str)(b:Int):decide ((Sum.inr a:ba)=Sum.inl b)=false:=iq (λq=>nomatch q)
def cA(prog:Program)(w:World):PySem.KeyKind prog w ba where
 is:=kP
 hash:=DW w
 inj:=λv a b ha hb=>by
  rcases hZ ha with⟨i,t,rfl,rfl⟩|⟨x,t,rfl,rfl⟩
  ·rcases hZ hb with⟨j,u,rfl,e⟩|⟨y,u,rfl,e⟩
   ·injection e with e1 _;rw[e1]
   ·exact nomatch e
  ·rcases hZ hb with⟨j,u,rfl,e⟩|⟨y,u,rfl,e⟩
   ·exact nomatch e
   ·injection e with e1 _;rw[e1]
 byValue:=λk v h=>by
  rcases hZ h with⟨i,t,rfl,rfl⟩|⟨x,t,rfl,rfl⟩<;>rfl
 pyHash:=λhv h=>by
  rcases hZ hv with⟨i,t,rfl,rfl⟩|⟨x,t,rfl,rfl⟩
  ·exact wpAny_pyHash_int h
  ·exact wpAny_pyHash_str h
 eqBool:=λhu hv h=>by
  rcases hZ hu with⟨i,t,rfl,rfl⟩|⟨x,t,rfl,rfl⟩
  ·rcases hZ hv with⟨j,u,rfl,rfl⟩|⟨y,u,rfl,rfl⟩
   ·rw[F4]at h;exact wpAny_eqBool_int h
   ·rw[F5]at h;exact SeqAt.EqAt.int_str i t y u _ _ _ _ h
  ·rcases hZ hv with⟨j,u,rfl,rfl⟩|⟨y,u,rfl,rfl⟩
   ·rw[F6]at h;exact SeqAt.EqAt.str_int x t j u _ _ _ _ h
   ·rw[F7]at h;exact wpAny_eqBool_str h
 «strs»:=λk x t v h=>by
  rcases hZ h with⟨i,u,rfl,e⟩|⟨y,u,rfl,e⟩
  ·exact nomatch e
  ·injection e with e1 _
   subst e1;cases v<;>rfl
theorem Na(prog:Program)(w:World)(i:Int)(t:Tok):(cA prog w).is (.inl i) (.int i t)=true:=K3 i t
theorem qW(prog:Program)(w:World)(x:Str)(t:Tok):(cA prog w).is (.inr x) (.str x t)=true:=K4 x t
inductive V where
 |non|bl (b:Bool)|int (i:Int)|str (x:Str)|byt (b:Array UInt8)|flt (b:UInt64)|ref (a:Addr)|ty (n:String)
 deriving DecidableEq
def ah:V->Value->Prop
 |.non,u=>u=Value.none
 |.bl b,u=>u=Value.bool b
 |.int i,u=>∃t,u=Value.int i t
 |.str x,u=>∃t,u=Value.str x t
 |.byt b,u=>∃t,u=Value.bytes b t
 |.flt b,u=>∃t,u=Value.float b t
 |.ref a,u=>u=Value.ref a
 |.ty n,u=>u=Value.type n
abbrev ai:List V->List Value->Prop:=Paired ah
theorem ai.length{xs:List V}{us:List Value}(r:ai xs us):xs.length=us.length:=Paired.length r
theorem ai.get:∀{xs:List V}{us:List Value}{i:Nat}{x:V},ai xs us->xs[i]?=some x->∃u,us[i]?=some u/\ah x u
 |_,_,_,_,.nil,e=>by simp at e
 |_,_,0,_,.cons r _,e=>by simp at e;subst e;exact⟨_,rfl,r⟩
 |_,_,i+1,x,.cons _ t,e=>by
  obtain⟨u,h1,h2⟩:=ai.get (i:=i) (x:=x) t (by simpa using e);exact⟨u,by simpa using h1,h2⟩
theorem ai.set{x:V}{u:Value}(r:ah x u):∀{xs:List V}{us:List Value}(i:Nat),ai xs us->ai (xs.set i x) (us.set i u)
 |_,_,_,.nil=>.nil
 |_,_,0,.cons _ t=>.cons r t
 |_,_,i+1,.cons q t=>.cons q (ai.set r i t)
theorem ai.append:∀{xs ys:List V}{us ws:List Value},ai xs us->ai ys ws->ai (xs++ys) (us++ws)
 |_,_,_,_,.nil,s=>s
 |_,_,_,_,.cons r t,s=>.cons r (ai.append t s)
theorem ai.take:∀{xs:List V}{us:List Value}(n:Nat),ai xs us->ai (xs.take n) (us.take n)
 |_,_,0,_=>.nil
 |_,_,_+1,.nil=>.nil
 |_,_,n+1,.cons r t=>.cons r (ai.take n t)
theorem ai.drop:∀{xs:List V}{us:List Value}(n:Nat),ai xs us->ai (xs.drop n) (us.drop n)
 |_,_,0,r=>r
 |_,_,_+1,.nil=>.nil
 |_,_,n+1,.cons _ t=>ai.drop n t
def g9:Option V->Option Value->Prop
 |some v,some u=>ah v u
 |none,none=>True
 |_,_=>False
def KV{κ:Type}:List (κ×V)->List (κ×Value)->Prop:=Paired λ(p:κ×V) (q:κ×Value)=>p.1=q.1/\ah p.2 q.2
def kV:ba->V
 |.inl i=>.int i
 |.inr x=>.str x
inductive HO where
 /-- a list -/
 |lst (xs:List V)
 /-- a tuple (never changes) -/
 |tup (xs:List V)
 /-- a dict whose keys are ints and texts; one whose keys are tuples of ints and texts (the empty one is both) -/
 |dK (kvs:List (ba×V))|dT (kvs:List (List ba×V))
 /-- a set of ints: its members, its size -/
 |set (S:Int->Bool) (n:Nat)
 /-- an instance of the class at C, its dict at dx, its attributes -/
 |ins (C dx:Addr) (fs:List (Str×V))
 /-- the dict of the instance at x -/
 |own (x:Addr)
 /-- the dict of an exception -/
 |xd (fs:List (Str×V))
 /-- a bound method, f of x -/
 |met (f x:Addr)
 /-- a range object lo, lo + 1, .. below hi -/
 |rng (lo hi:Int)
 /-- a thing that is known to the object (the script; a dict while a loop walks it): read, never written while it is so -/
 |frz (o:Obj) (u:HO)
 /-- a code object's table -/
 |tbl (ps:Array Value)
 /-- any other thing, by what is true of its one object (a def of one's own: SetO a S n := HO.ext fun h => ..) -/
 |ext (φ:Heap->Prop)
abbrev Hp:=Addr->Option HO
def au(H:Hp)(a:Addr)(o:HO):Hp:=λb=>if b=a then some o else H b
theorem bJ{H:Hp}{a:Addr}{o:HO}:au H a o a=some o:=by unfold au;rw[if_pos rfl]
theorem bR{H:Hp}{a b:Addr}{o:HO}(h:b≠a):au H a o b=H b:=by unfold au;rw[if_neg h]
theorem eI{H:Hp}{a b:Addr}{o:HO}(h:H a=some o)(h':H b=none):a≠b:=by
 intro e;subst e;rw[h]at h';cases h'
section
variable(P:Program)(w:World)
def ay(H:Hp)(h:Heap)(a:Addr):HO->Prop
 |.lst xs=>xs.length<=sizeLine/\∃(its:List Value) (n:Nat),ai xs its/\h.get? a=some {cls:=.type "list",data:=.seq its.toArray n}
 |.tup xs=>xs.length<=sizeLine/\∃its:List Value,ai xs its/\IsTup h a its.toArray
 |.dK kvs=>kvs.length<=sizeLine/\(a==sysModules)=false/\∃vs,KV kvs vs/\h.DictOf (cA P w) a vs
 |.dT kvs=>kvs.length<=sizeLine/\(a==sysModules)=false/\∃xs:List (List ba×Addr×Value),
   Paired (λ(p:List ba×V) (q:List ba×Addr×Value)=>p.1=q.1/\H q.2.1=some (.tup (p.1.map kV))/\ah p.2 q.2.2) kvs xs /\
   ∃o es ep,h.get? a=some o/\o.ExactDict/\o.data=.dict es ep/\es.toList=xs.map (entryOfKey (tupleKind (cA P w)))/\(xs.map (·.1)).Nodup
 |.set S n=>h.SetOf (intKind P w) a S n
 |.ins C dx fs=>H dx=some (.own a)/\fs.length<=1000/\dx≠a/\h.get? a=some (PySem.W.instObj C dx) /\
   ∃mA,h.Ns1 dx mA/\(∀f,g9 (fs.lookup f) (mA f))/\PySem.Within mA (fs.map (·.1))
 |.own _=>∃o,h.get? a=some o
 |.xd fs=>∃mA,h.Ns1 a mA/\∀f,g9 (fs.lookup f) (mA f)
 |.rng lo hi=>∃t u v,h.get? a=some {cls:=.type "range",data:=.fields #[.int lo t,.int hi u,.int 1 v]}
 |.frz o u=>h.get? a=some o/\ay H h a u
 |.tbl ps=>h.get? a=some {cls:=.none,data:=.fields ps}
 |.met f x=>h.get? a=some (PySem.W.methodObj (.ref f) (.ref x))
 |.ext φ=>φ h/\(∃o,h.get? a=some o)/\∀h1 h2:Heap,φ h1->(∀o,h1.get? a=some o->h2.get? a=some o)->φ h2
def fj(H:Hp)(h:Heap):Prop:=∀a o,H a=some o->ay P w H h a o
end
section
variable{P:Program}{w:World}{H H':Hp}{h h':Heap}{a:Addr}{o:HO}
theorem ay.lt(x:ay P w H h a o):a<h.objs.size:=by
 cases o with
 |lst xs=>obtain⟨_,_,_,_,e⟩:=x;exact bo e
 |tup xs=>obtain⟨_,_,_,p⟩:=x;exact p.lt
 |dK kvs=>obtain⟨_,_,_,_,o,_,_,e,_⟩:=x;exact bo e
 |dT kvs=>obtain⟨_,_,_,_,o,_,_,e,_⟩:=x;exact bo e
 |set S n=>obtain⟨o,_,_,_,e,_⟩:=x;exact bo e
 |ins C dx fs=>obtain⟨_,_,_,e,_⟩:=x;exact bo e
 |own y=>obtain⟨_,e⟩:=x;exact bo e
 |xd fs=>obtain⟨_,⟨_,_,_,e,_⟩,_⟩:=x;exact bo e
 |rng lo hi=>obtain⟨_,_,_,e⟩:=x;exact bo e
 |frz ob u=>obtain⟨e,_⟩:=x;exact bo e
 |tbl ps=>exact bo (show h.get? a=some _ from x)
 |met f y=>exact bo (show h.get? a=some _ from x)
 |ext φ=>obtain⟨_,⟨_,e⟩,_⟩:=x;exact bo e
theorem Paired.mapP{α β:Type}{F G:α->β->Prop}:∀{l₁:List α}{l₂:List β},Paired F l₁ l₂->(∀a b,F a b->G a b)->Paired G l₁ l₂
 |_,_,.nil,_=>.nil
 |_,_,.cons r t,f=>.cons (f _ _ r) (Paired.mapP t f)
theorem ay.stay(x:ay P w H h a o)(k:∀b u,(b=a\/H b=some (.own a))->h.get? b=some u->h'.get? b=some u)
  (ho:∀b,H b=some (.own a)->H' b=some (.own a)) (ht:∀b xs,H b=some (.tup xs)->H' b=some (.tup xs)):ay P w H' h' a o:=by
 induction o with
 |lst xs=>obtain⟨z,its,n,r,e⟩:=x;exact⟨z,its,n,r,k _ _ (.inl rfl) e⟩
 |tup xs=>obtain⟨z,its,r,ob,e,c⟩:=x;exact⟨z,its,r,ob,k _ _ (.inl rfl) e,c⟩
 |dK kvs=>obtain⟨z,y,vs,r,ob,es,ep,e,c⟩:=x;exact⟨z,y,vs,r,ob,es,ep,k _ _ (.inl rfl) e,c⟩
 |dT kvs=>
  obtain⟨z,y,xs,r,ob,es,ep,e,c⟩:=x;exact⟨z,y,xs,Paired.mapP r λp q z=>⟨z.1,ht _ _ z.2.1,z.2.2⟩,ob,es,ep,k _ _ (.inl rfl) e,c⟩
 |set S n=>obtain⟨ob,es,ep,t,e,c⟩:=x;exact⟨ob,es,ep,t,k _ _ (.inl rfl) e,c⟩
 |ins C dx fs=>
  obtain⟨d,z,ne,e,mA,⟨od,es,ep,e2,c⟩,r⟩:=x;exact⟨ho _ d,z,ne,k _ _ (.inl rfl) e,mA,⟨od,es,ep,k _ _ (.inr d) e2,c⟩,r⟩
 |own y=>obtain⟨ob,e⟩:=x;exact⟨ob,k _ _ (.inl rfl) e⟩
 |xd fs=>obtain⟨mA,⟨od,es,ep,e,c⟩,r⟩:=x;exact⟨mA,⟨od,es,ep,k _ _ (.inl rfl) e,c⟩,r⟩
 |rng lo hi=>obtain⟨t,u,v,e⟩:=x;exact⟨t,u,v,k _ _ (.inl rfl) e⟩
 |frz ob u ih=>obtain⟨e,q⟩:=x;exact⟨k _ _ (.inl rfl) e,ih q⟩
 |tbl ps=>
  have e:h.get? a=some {cls:=.none,data:=.fields ps}:=x;show h'.get? a=some {cls:=.none,data:=.fields ps};exact k a _ (.inl rfl) e
 |met f y=>
  have e:h.get? a=some (PySem.W.methodObj (.ref f) (.ref y)):=x;show h'.get? a=some (PySem.W.methodObj (.ref f) (.ref y));exact k a _ (.inl rfl) e
 |ext φ=>obtain⟨p,⟨o,e⟩,st⟩:=x;exact⟨st _ _ p λo q=>k _ _ (.inl rfl) q,⟨o,k _ _ (.inl rfl) e⟩,st⟩
theorem fj.lt(x:fj P w H h)(e:H a=some o):a<h.objs.size:=(x a o e).lt
theorem fj.fresh(x:fj P w H h)(e:h.objs.size<=a):H a=none:=by
 cases q:H a with
 |none=>rfl
 |some u=>exact absurd (kj (x.lt q) e) (g5 _)
theorem fj.kept(x:fj P w H h)(k:∀b u,h.get? b=some u->h'.get? b=some u):fj P w H h':=λa o e=>
 (x a o e).stay (λb u _ q=>k b u q) (λ_ q=>q) λ_ _ q=>q
theorem fj.laid(x:fj P w H h)(k:∀b u,h.get? b=some u->h'.get? b=some u)(hp:h.objs.size<=a)(new:ay P w (au H a o) h' a o):fj P w (au H a o) h':=λb u e=>by
 have hn:=x.fresh hp;by_cases hb:b=a
 ·subst hb;rw[bJ]at e;cases e;exact new
 ·rw[bR hb]at e;exact(x b u e).stay (λc v _ q=>k c v q) (λc q=>by rw[bR (eI q hn)];exact q) λc xs q=>by rw[bR (eI q hn)];exact q
end
def Rd(H:Hp)(a:Addr)(u:HO):Prop:=H a=some u\/∃o,H a=some (.frz o u)
theorem Rd.ok{P:Program}{w:World}{H:Hp}{h:Heap}{a:Addr}{u:HO}(r:Rd H a u)(x:fj P w H h):ay P w H h a u:=by
 rcases r with r|⟨o,r⟩
 ·exact x a u r
 ·obtain⟨_,q⟩:=x a _ r;exact q
def v7:Option HO->Prop
 |some (.lst _)=>True
 |some (.dK _)=>True
 |some (.dT _)=>True
 |some (.set _ _)=>True
 |some (.ins _ _ _)=>True
 |some (.ext _)=>True
 |_=>False
section
variable{P:Program}{w:World}{H:Hp}{h h':Heap}{x e:Addr}{o':HO}
theorem fj.write(ok:fj P w H h)(mu:v7 (H x))(he:e=x\/H e=some (.own x))(k:∀b u,b≠e->h.get? b=some u->h'.get? b=some u)(heo:∃u,h'.get? e=some u)
  (new:ay P w (au H x o') h' x o'):fj P w (au H x o') h':=λb u q=>by
 have nown:∀c y,H c=some (.own y)->c≠x:=λc y r z=>by subst z;rw[r]at mu;exact mu
 have ntup:∀c xs,H c=some (.tup xs)->c≠x:=λc xs r z=>by subst z;rw[r]at mu;exact mu
 by_cases hb:b=x
 ·subst hb;rw[bJ]at q;cases q;exact new
 ·rw[bR hb]at q;by_cases hbe:b=e
  ·have q':H b=some (.own x):=by
    rcases he with z|z
    ·exact absurd (hbe.trans z) hb
    ·rw[hbe];exact z
   rw[q]at q';cases q';obtain⟨v,hv⟩:=heo;exact⟨v,by rw[hbe];exact hv⟩
  ·refine(ok b u q).stay (λc v hc r=>k c v ?_ r) (λc r=>by rw[bR (nown c b r)];exact r) λc xs r=>by rw[bR (ntup c xs r)];exact r
   rcases hc with rfl|hc
   ·exact hbe
   ·rintro rfl;rcases he with z|z
    ·exact nown c b hc z
    ·rw[hc]at z;cases z;exact hb rfl
end
structure Un (fs ex:List Addr) (H H':Hp) (h h':Heap):Prop where
 keep:∀b o,h.get? b=some o->H b=none->b∉fs->b∉ex->h'.get? b=some o
 slot:∀b o,h.get? b=some o->H b=none->b∈fs->b∉ex->∃sl,h'.get? b=some {o with slots:=sl}
 free:∀b o,h.get? b=some o->H b=none->b∉ex->H' b=none
 there:∀b o,h.get? b=some o->b∉ex->∃o',h'.get? b=some o'
 tups:∀b xs,H b=some (.tup xs)->H' b=some (.tup xs)
 frzs:∀b o u,H b=some (.frz o u)->H' b=some (.frz o u)
 tbls:∀b ps,H b=some (.tbl ps)->∃more,H' b=some (.tbl (ps++more))
section
variable{fs fs' ex ex':List Addr}{H H1 H2:Hp}{h h1 h2 h':Heap}{a x e:Addr}{o:HO}
theorem Un.any(u:Un fs ex H H1 h h1){b:Addr}{ob:Obj}(q:h.get? b=some ob)(n:H b=none)(hx:b∉ex):∃sl,h1.get? b=some {ob with slots:=sl}:=by
 by_cases hb:b∈fs
 ·exact u.slot b ob q n hb hx
 ·exact⟨ob.slots,u.keep b ob q n hb hx⟩
theorem Un.kept(k:∀b u,h.get? b=some u->h'.get? b=some u):Un fs ex H H h h':=
 ⟨λb ob q _ _ _=>k b ob q,λb ob q _ _ _=>⟨ob.slots,k b ob q⟩,λ_ _ _ n _=>n,λb ob q _=>⟨ob,k b ob q⟩,λ_ _ q=>q,λ_ _ _ q=>q,λ_ ps q=>⟨#[],by rw[q];simp⟩⟩
theorem Un.refl:Un fs ex H H h h:=Un.kept λ_ _ q=>q
theorem Un.laid(k:∀b u,h.get? b=some u->h'.get? b=some u)(hp:h.objs.size<=a)(hn:H a=none):Un fs ex H (au H a o) h h' where
 keep:=λb u q _ _ _=>k b u q
 slot:=λb u q _ _ _=>⟨u.slots,k b u q⟩
 free:=λb u q n _=>by rw[bR (cz (kj (bo q) hp))];exact n
 there:=λb u q _=>⟨u,k b u q⟩
 tups:=λb xs q=>by rw[bR (eI q hn)];exact q
 frzs:=λb u xs q=>by rw[bR (eI q hn)];exact q
 tbls:=λb ps q=>⟨#[],by rw[bR (eI q hn),q];simp⟩
theorem Un.write(mu:v7 (H x))(he:e=x\/H e=some (.own x))(k:∀b u,b≠e->h.get? b=some u->h'.get? b=some u)(heo:∃u,h'.get? e=some u):Un fs ex H (au H x o) h h':=by
 have hx:∀b,H b=none->b≠x:=λb n z=>by subst z;rw[n]at mu;exact mu
 have hb:∀b,H b=none->b≠e:=λb n z=>by
  subst z;rcases he with r|r
  ·exact hx b n r
  ·rw[n]at r;cases r
 have hm:∀b u,H b=some u->¬ v7 (some u)->b≠x:=λb u q nm z=>by subst z;rw[q]at mu;exact nm mu
 refine⟨λb u q n _ _=>k b u (hb b n) q,λb u q n _ _=>⟨u.slots,k b u (hb b n) q⟩,λb u q n _=>by rw[bR (hx b n)];exact n,λb u q _=>?_,
  λb xs q=>by rw[bR (hm b _ q λz=>z)];exact q,λb u xs q=>by rw[bR (hm b _ q λz=>z)];exact q,λb ps q=>⟨#[],by rw[bR (hm b _ q λz=>z),q];simp⟩⟩
 by_cases hbe:b=e
 ·subst hbe;exact heo
 ·exact⟨u,k b u hbe q⟩
end
def vh(h:Heap)(H:Hp):List Addr:=(List.range h.objs.size).filter λa=>(H a).isSome
def jX(h:Heap)(H:Hp):Heap:=PySem.W.hideAll h (vh h H)
theorem KZ(h:Heap)(H:Hp):(jX h H).objs.size=h.objs.size:=PySem.W.hideAll_size _ _
theorem JG{h:Heap}{H:Hp}{b:Addr}{o:Obj}(e:h.get? b=some o)(n:H b=none):(jX h H).get? b=some o:=
 PySem.W.hideAll_get _ e λhm=>by
  have q:(H b).isSome=true:=(qd1_.mp hm).2;rw[n]at q;simp at q
theorem Jp{h:Heap}{H:Hp}{b:Addr}{o:Obj}(e:(jX h H).get? b=some o):h.get? b=some o/\H b=none:=by
 have e':h.get? b=some o:=PySem.W.of_hideAll (vh h H) e;refine⟨e',?_⟩;cases q:H b with
 |none=>rfl
 |some x=>
  have hm:b∈vh h H:=qd1_.mpr ⟨qy1_.mpr (bo e'),by simp[q]⟩;have z:(jX h H).get? b=none:=PySem.W.hideAll_none (vh h H) hm;rw[z]at e;cases e
structure Mod (K:W.Frag) (mg:Str->Option Value) (base:Heap):Prop where
 kin:K.In base
 glob:base.Ns mainGlobals mg
 blt:∃mb,base.Ns builtinsNs mb/\∀x:Str,x≠"__name__"->mb x=bootBuiltins x
 nolimit:base.NoLimit
structure Cx where
 prog:Program
 w:World
 K:W.Frag
 mg:Str->Option Value
 base:Heap
 A:Around
 N:List Str
 s₀:Shared
 H₀:Hp
 env:Env
 outer:List Env
 stack:List Env
 ex:List Addr
 fn:Str->Bool
 calm:Bool
 pn:List (Addr×Obj)
 xe:Value->Shared->Prop
def oq(l:List Env):List Addr:=l.filterMap (·.frame)
abbrev Cx.fs(X:Cx):List Addr:=oq X.outer
def q0(sc:Scope)(x:Str):Prop:=sc.names.lookup x=some .local\/sc.names.lookup x=some .cell\/sc.names.lookup x=some .free
def lr(sc:Scope)(x:Str):Prop:=sc.names.lookup x=some .local\/sc.names.lookup x=some .cell
def DK(env:Env)(h:Heap)(m:Str->Option Value)(x:Str)(u:Value):Prop:=
 (env.kindOf x=some .local/\m x=some u)\/((env.kindOf x=some .cell\/env.kindOf x=some .free)/\∃c,env.cells.lookup x=some c/\h.IsCell c (some u))
structure Cx.Ok (X:Cx):Prop where
 mod:Mod X.K X.mg X.base
 kind:X.env.scope.kind=.function
 glob:X.env.globals=mainGlobals
 blt:X.env.builtins=builtinsNs
 above:X.s₀.heap.objs.size<=X.env.locals
 inj:∀x y c,X.env.cells.lookup x=some c->X.env.cells.lookup y=some c->x=y
 has:∀x,(X.env.kindOf x=some .cell\/X.env.kindOf x=some .free)->∃c,X.env.cells.lookup x=some c
 cab:∀x c,X.fn x=true->X.env.cells.lookup x=some c->X.s₀.heap.objs.size<=c
 hd:X.calm=true->X.A.handled=none
 frames:X.A.frames=some X.stack
 stk:X.stack=X.outer\/(X.stack=X.env::X.outer/\X.env.frame=some X.env.locals)
 exf:∀b∈X.ex,b≠X.env.locals/\∀x c,X.env.cells.lookup x=some c->c≠b
 bs:∀b o,X.base.get? b=some o->X.s₀.heap.get? b=some o/\X.H₀ b=none
 bsz:X.base.objs.size<=X.s₀.heap.objs.size
 noex:∀b o,X.base.get? b=some o->b∉X.ex
 exfs:∀b∈X.ex,b∉X.fs
 funs:X.s₀.heap.FunFrames X.base X.outer
 frf:∀b∈X.fs,X.H₀ b=none
structure ag (X:Cx) (OS:List (Addr×Obj)) (σ:List (Option V)) (H:Hp) (s:Shared):Prop where
 ok:X.Ok
 os:s.os=X.s₀.os
 bare:AllBare s.gens
 base:Un X.fs X.ex X.H₀ H X.s₀.heap s.heap
 loc:∃m,s.heap.Ns X.env.locals m/\∀(i:Nat) (x:Str) (v:V),X.N[i]?=some x->σ[i]?=some (some v)->q0 X.env.scope x->∃u,ah v u/\DK X.env s.heap m x u
 cell:∀x c,X.env.cells.lookup x=some c->∃v,s.heap.IsCell c v
 free:H X.env.locals=none
 freeC:∀x c,X.env.cells.lookup x=some c->H c=none
 pin:∀p∈X.pn++OS,s.heap.get? p.1=some p.2/\H p.1=none/\p.1≠X.env.locals/\p.1∉X.fs/\∀v,p.2.data≠.cell v
 hok:fj X.prog X.w H s.heap
 len:σ.length=X.N.length
section
variable{X:Cx}{OS:List (Addr×Obj)}{σ:List (Option V)}{H H':Hp}{s:Shared}{h':Heap}
theorem Cx.Ok.nofr(ok:X.Ok){b:Addr}{o:Obj}(e:X.base.get? b=some o):b∉X.fs:=λhb=>by
 have:=(ok.funs.mem hb).1;rw[e]at this;cases this
theorem ag.bs(I:ag X OS σ H s):∀b o,X.base.get? b=some o->s.heap.get? b=some o/\H b=none:=λb o e=>
 ⟨I.base.keep b o (I.ok.bs b o e).1 (I.ok.bs b o e).2 (I.ok.nofr e) (I.ok.noex b o e),I.base.free b o (I.ok.bs b o e).1 (I.ok.bs b o e).2 (I.ok.noex b o e)⟩
theorem ag.bk(I:ag X OS σ H s):∀b o,X.base.get? b=some o->s.heap.get? b=some o:=λb o e=>(I.bs b o e).1
theorem ag.mod(I:ag X OS σ H s):Mod X.K X.mg X.base:=I.ok.mod
theorem ag.kIn(I:ag X OS σ H s):X.K.In s.heap:=I.ok.mod.kin.keeps I.bk
theorem ag.lt(I:ag X OS σ H s):X.env.locals<s.heap.objs.size:=let ⟨_,hn,_⟩:=I.loc;hn.lt
theorem ag.sz(I:ag X OS σ H s):X.s₀.heap.objs.size<=s.heap.objs.size:=cx I.ok.above (ff I.lt)
theorem ag.nofs(I:ag X OS σ H s){a:Addr}(h:s.heap.objs.size<=a):a∉X.fs:=λhb=>by
 obtain⟨_,o,ho,_⟩:=I.ok.funs.mem hb;exact absurd (kj (bo ho) (cx I.sz h)) (g5 _)
theorem ag.cne(I:ag X OS σ H s):∀x c,X.env.cells.lookup x=some c->c≠X.env.locals:=λx c e z=>by
 obtain⟨v,o,ho,hd⟩:=I.cell x c e;obtain⟨m,⟨o',es,ep,ho',hd',_⟩,_⟩:=I.loc;rw[z,ho']at ho;cases ho;rw[hd']at hd;cases hd
theorem ag.funs(I:ag X OS σ H s):s.heap.FunFrames X.base X.outer:=by
 have all:∀(l:List Env),(∀b∈oq l,b∈X.fs)->X.s₀.heap.FunFrames X.base l->s.heap.FunFrames X.base l:=by
  intro l
  induction l with
  |nil=>intro _ _;trivial
  |cons env r ih=>
   intro hs hl;obtain⟨hk,⟨L,o,hf,hn,ho,hd⟩,hr⟩:=hl;have hL:L∈X.fs:=hs L (by unfold oq;rw[gm,hf];exact fe);obtain⟨sl,e⟩:=I.base.slot L o ho (I.ok.frf L hL) hL λz=>I.ok.exfs L z hL
   exact⟨hk,⟨L,_,hf,hn,e,hd⟩,ih (λb hb=>hs b (by unfold oq;rw[gm,hf];exact fc _ hb)) hr⟩
 exact all X.outer (λ_ hb=>hb) I.ok.funs
theorem ag.stack(I:ag X OS σ H s):s.heap.FunFrames X.base X.stack:=by
 rcases I.ok.stk with e|⟨e,hf⟩
 ·rw[e];exact I.funs
 ·rw[e];obtain⟨m,hn,_⟩:=I.loc;refine .cons (by rw[I.ok.kind];decide) hf hn ?_ I.funs;exact Heap.get?_none_of_le (cx I.ok.bsz I.ok.above)
theorem ag.stkSub(I:ag X OS σ H s):∀b∈oq X.stack,b∈X.env.locals::X.fs:=λb hb=>by
 rcases I.ok.stk with e|⟨e,hf⟩
 ·rw[e]at hb;exact fc _ hb
 ·rw[e]at hb;unfold oq at hb;rw[gm,hf]at hb;exact hb
theorem ag.stkFree(I:ag X OS σ H s):∀b∈oq X.stack,H b=none:=λb hb=>by
 rcases qe_.mp (I.stkSub b hb) with e|hb
 ·rw[e];exact I.free
 ·obtain⟨_,o,ho,_⟩:=I.ok.funs.mem hb;exact I.base.free b o ho (I.ok.frf b hb) λz=>I.ok.exfs b z hb
theorem ag.step{g':Array GenState}{t':Nat}{d':Drawn}{ch:List Addr}(I:ag X OS σ H s)
  (hch:∀b∈ch,(b∈X.ex\/X.s₀.heap.objs.size<=b)/\b≠X.env.locals/\(∀x c,X.env.cells.lookup x=some c->c≠b)/\∀p∈X.pn++OS,p.1≠b)
  (keep:∀b o,b≠X.env.locals->b∉X.fs->b∉ch->s.heap.get? b=some o->H b=none->h'.get? b=some o)
  (slot:∀b o,b≠X.env.locals->b∈X.fs->b∉ch->s.heap.get? b=some o->H b=none->∃sl,h'.get? b=some {o with slots:=sl}) (free:∀b o,b∉ch->s.heap.get? b=some o->H b=none->H' b=none)
  (there:∀b o,b∉ch->s.heap.get? b=some o->∃o',h'.get? b=some o')
  (tups:∀b xs,H b=some (.tup xs)->H' b=some (.tup xs)) (frzs:∀b o u,H b=some (.frz o u)->H' b=some (.frz o u)) (tbls:∀b ps,H b=some (.tbl ps)->∃more,H' b=some (.tbl (ps++more)))
  (ns:∀m,s.heap.Ns X.env.locals m->h'.Ns X.env.locals m) (hok:fj X.prog X.w H' h') (hg:AllBare g'):
  ag X OS σ H' {s with heap:=h',gens:=g',drawn:=d',toks:=t'}:=by
 have neL:∀b o,X.s₀.heap.get? b=some o->b≠X.env.locals:=λb o e=>cz (kj (bo e) I.ok.above)
 have neC:∀b o,X.s₀.heap.get? b=some o->b∉X.ex->b∉ch:=λb o e hx hb=>by
  rcases (hch b hb).1 with z|z
  ·exact hx z
  ·exact absurd (kj (bo e) z) (g5 _)
 have cellK:∀x c,X.env.cells.lookup x=some c->∀v,s.heap.IsCell c v->h'.IsCell c v:=λx c e v ⟨o,ho,hd⟩=>by
  have nch:c∉ch:=λz=>(hch c z).2.2.1 x c e rfl
  by_cases hc:c∈X.fs
  ·obtain⟨sl,q⟩:=slot c o (I.cne x c e) hc nch ho (I.freeC x c e);exact⟨_,q,hd⟩
  ·exact⟨o,keep c o (I.cne x c e) hc nch ho (I.freeC x c e),hd⟩
 refine⟨I.ok,I.os,hg,⟨λb o e n hb hx=>?_,λb o e n hb hx=>?_,λb o e n hx=>?_,λb o e hx=>?_,λb xs e=>tups b xs (I.base.tups b xs e),λb o xs e=>frzs b o xs (I.base.frzs b o xs e),λb ps e=>?_⟩,?_,λx c e=>?_,?_,λx c e=>?_,λp hp=>?_,hok,I.len⟩
 ·exact keep b o (neL b o e) hb (neC b o e hx) (I.base.keep b o e n hb hx) (I.base.free b o e n hx)
 ·obtain⟨sl,e1⟩:=I.base.slot b o e n hb hx;obtain⟨sl',e2⟩:=slot b _ (neL b o e) hb (neC b o e hx) e1 (I.base.free b o e n hx);exact⟨sl',e2⟩
 ·obtain⟨o',e1⟩:=I.base.there b o e hx;exact free b o' (neC b o e hx) e1 (I.base.free b o e n hx)
 ·obtain⟨o',e1⟩:=I.base.there b o e hx;exact there b o' (neC b o e hx) e1
 ·obtain⟨m1,e1⟩:=I.base.tbls b ps e;obtain⟨m2,e2⟩:=tbls b _ e1;exact⟨m1++m2,by rw[e2,Array.append_assoc]⟩
 ·obtain⟨m,hn,hl⟩:=I.loc;refine⟨m,ns m hn,λi x v e1 e2 e3=>?_⟩;obtain⟨u,r,l⟩:=hl i x v e1 e2 e3;refine⟨u,r,?_⟩;rcases l with l|⟨k,c,e,z⟩
  ·exact .inl l
  ·exact .inr ⟨k,c,e,cellK x c e _ z⟩
 ·obtain⟨v,z⟩:=I.cell x c e;exact⟨v,cellK x c e v z⟩
 ·obtain⟨m,⟨o,_,_,ho,_⟩,_⟩:=I.loc;exact free _ o (λz=>(hch _ z).2.1 rfl) ho I.free
 ·obtain⟨v,o,ho,hd⟩:=I.cell x c e;exact free c o (λz=>(hch c z).2.2.1 x c e rfl) ho (I.freeC x c e)
 ·obtain⟨e,n,ne,nf,d⟩:=I.pin p hp;have nch:p.1∉ch:=λz=>(hch p.1 z).2.2.2 p hp rfl
  exact⟨keep p.1 p.2 ne nf nch e n,free p.1 p.2 nch e n,ne,nf,d⟩
theorem ag.un{t':Nat}(I:ag X OS σ H s)(u:Un X.fs [] H H' s.heap h')(hok:fj X.prog X.w H' h'):ag X OS σ H' {s with heap:=h',toks:=t'}:=by
 obtain⟨m,⟨o,es,ep,ho,r⟩,_⟩:=id I.loc;obtain⟨sl,hL⟩:=u.any ho I.free (by simp)
 exact I.step (g':=s.gens) (d':=s.drawn) (ch:=[]) (λ_ z=>nomatch z) (λb o _ hb _ e n=>u.keep b o e n hb (by simp)) (λb o _ hb _ e n=>u.slot b o e n hb (by simp)) (λb o _ e n=>u.free b o e n (by simp)) (λb o _ e=>u.there b o e (by simp)) u.tups u.frzs u.tbls (λm' hm=>by
  obtain⟨o',es',ep',ho',r'⟩:=hm;rw[ho]at ho';cases ho'
  exact⟨_,es',ep',hL,r'⟩) hok I.bare
theorem ag.call{g':Array GenState}{t':Nat}{d':Drawn}{ch:List Addr}(I:ag X OS σ H s)(u:Un (oq X.stack) ch H H' s.heap h')(hok:fj X.prog X.w H' h')(hg:AllBare g')
  (hch:∀b∈ch,(b∈X.ex\/X.s₀.heap.objs.size<=b)/\b≠X.env.locals/\(∀x c,X.env.cells.lookup x=some c->c≠b)/\∀p∈X.pn++OS,p.1≠b):
  ag X OS σ H' {s with heap:=h',gens:=g',drawn:=d',toks:=t'}:=by
 obtain⟨m,⟨o,es,ep,ho,r⟩,_⟩:=id I.loc;obtain⟨sl,hL⟩:=u.any ho I.free λz=>(hch _ z).2.1 rfl
 exact I.step (ch:=ch) hch (λb o hL hb hc e n=>u.keep b o e n (λz=>(qe_.mp (I.stkSub b z)).elim hL hb) hc) (λb o _ _ hc e n=>u.any e n hc) (λb o hc e n=>u.free b o e n hc) (λb o hc e=>u.there b o e hc) u.tups u.frzs u.tbls (λm' hm=>by
  obtain⟨o',es',ep',ho',r'⟩:=hm;rw[ho]at ho';cases ho'
  exact⟨_,es',ep',hL,r'⟩) hok hg
theorem ag.turned{t':Nat}{it:Addr}(I:ag X OS σ H s)(k:∀b o,b≠it->s.heap.get? b=some o->h'.get? b=some o)(hn:H it=none)(hL:it≠X.env.locals)
  (h1:it∈X.ex\/X.s₀.heap.objs.size<=it) (h2:∀x c,X.env.cells.lookup x=some c->c≠it) (h3:∀p∈X.pn++OS,p.1≠it):ag X OS σ H {s with heap:=h',toks:=t'}:=by
 have nit:∀b u,H b=some u->b≠it:=λb u e z=>by rw[z,hn]at e;cases e
 refine I.step (g':=s.gens) (d':=s.drawn) (ch:=[it]) (λb hb=>?_) (λb o _ _ hc e _=>k b o (λz=>hc (by simp[z])) e) (λb o _ _ hc e _=>⟨o.slots,k b o (λz=>hc (by simp[z])) e⟩) (λ_ _ _ _ n=>n)
  (λb o hc e=>⟨o,k b o (λz=>hc (by simp[z])) e⟩) (λ_ _ e=>e) (λ_ _ _ e=>e) (λb ps e=>⟨#[],by rw[e];simp⟩) (λm hm=>?_) (λb u e=>?_) I.bare
 ·have e:b=it:=by simpa using hb
  subst e;exact⟨h1,hL,h2,h3⟩
 ·obtain⟨o,es,ep,ho,r⟩:=hm;exact⟨o,es,ep,k _ o (Ne.symm hL) ho,r⟩
 ·refine(I.hok b u e).stay (λc v hc q=>k c v ?_ q) (λ_ q=>q) λ_ _ q=>q
  rcases hc with z|z
  ·rw[z];exact nit b u e
  ·exact nit c _ z
theorem ag.tok(I:ag X OS σ H s)(t:Nat):ag X OS σ H {s with toks:=t}:=I.un (h':=s.heap) (t':=t) Un.refl I.hok
theorem ag.kept{t':Nat}(I:ag X OS σ H s)(k:∀b u,s.heap.get? b=some u->h'.get? b=some u):ag X OS σ H {s with heap:=h',toks:=t'}:=I.un (Un.kept k) (I.hok.kept k)
theorem ag.laid{a:Addr}{o:HO}{t':Nat}(I:ag X OS σ H s)(k:∀b u,s.heap.get? b=some u->h'.get? b=some u)(hp:s.heap.objs.size<=a)(new:ay X.prog X.w (au H a o) h' a o):
  ag X OS σ (au H a o) {s with heap:=h',toks:=t'}:=I.un (Un.laid k hp (I.hok.fresh hp)) (I.hok.laid k hp new)
theorem ag.write{x e:Addr}{o:HO}{t':Nat}(I:ag X OS σ H s)(mu:v7 (H x))(he:e=x\/H e=some (.own x))(k:∀b u,b≠e->s.heap.get? b=some u->h'.get? b=some u)(heo:∃u,h'.get? e=some u)
  (new:ay X.prog X.w (au H x o) h' x o):ag X OS σ (au H x o) {s with heap:=h',toks:=t'}:=I.un (Un.write mu he k heo) (I.hok.write mu he k heo new)
theorem ag.weak{σ':List (Option V)}(I:ag X OS σ H s)(hl:σ'.length=σ.length)(w:∀(i:Nat) v,σ'[i]?=some (some v)->σ[i]?=some (some v)):ag X OS σ' H s:=
 ⟨I.ok,I.os,I.bare,I.base,let ⟨m,hn,hl'⟩:=I.loc;⟨m,hn,λi x v e1 e2 e3=>hl' i x v e1 (w i v e2) e3⟩,I.cell,I.free,I.freeC,I.pin,I.hok,hl.trans I.len⟩
theorem ag.pins_of{pins':List (Addr×Obj)}(I:ag X OS σ H s)(h:∀p∈pins',s.heap.get? p.1=some p.2/\H p.1=none/\p.1≠X.env.locals/\p.1∉X.fs/\∀v,p.2.data≠.cell v):ag X pins' σ H s:=
 ⟨I.ok,I.os,I.bare,I.base,I.loc,I.cell,I.free,I.freeC,λp hp=>(qj_.mp hp).elim (λz=>I.pin p (gg _ z)) (h p),I.hok,I.len⟩
theorem B4{N:List Str}(hN:N.Nodup){i j:Nat}{x:Str}(a:N[i]?=some x)(b:N[j]?=some x):i=j:=by
 obtain⟨h1,e1⟩:=qB_.mp a;obtain⟨h2,e2⟩:=qB_.mp b;exact(List.getElem_inj hN).mp (e1.trans e2.symm)
theorem CY{M:Model}{A:Around}{E:Value->Shared->Prop}{i:Nat}{x:Str}{v:V}{u:Value}{Q:Unit->Shared->Prop}(I:ag X OS σ H s)(hN:X.N.Nodup)(hi:X.N[i]?=some x)(hx:lr X.env.scope x)(r:ah v u)
  (h:∀s',ag X OS (σ.set i (some v)) H s'->(∃a,Heap.SameBut a s.heap s'.heap/\(a=X.env.locals\/X.env.cells.lookup x=some a))->Q () s') (hf:X.fn x=true\/X.env.scope.names.lookup x=some .local:=by first|exact .inl rfl|exact .inr rfl|assumption):wpAny M A (storeName X.env x u) Q E s:=by
 obtain⟨m,hn,hl⟩:=id I.loc;have hcls:(X.env.scope.kind==.class || (X.env.scope.kind==.module&&X.env.locals != X.env.globals))=false:=by rw[I.ok.kind];rfl
 have hiσ:i<σ.length:=by rw[I.len];exact(qB_.mp hi).1
 have cne:=I.cne;have tracked:∀{a:Addr} {h':Heap},(∃o,s.heap.get? a=some o/\H a=none)->Heap.SameBut a s.heap h'->fj X.prog X.w H h':=λ{a h'} ha hs b ob e=>by
  obtain⟨_,_,hfree⟩:=ha;refine(I.hok b ob e).stay (λc w' hc q=>(hs.2 c ?_).trans q) (λ_ q=>q) λ_ _ q=>q
  rintro rfl;rcases hc with rfl|hc
  ·rw[hfree]at e;cases e
  ·rw[hfree]at hc;cases hc
 rcases hx with hk|hk
 ·refine wpAny_storeName_local hk hn (λh' hn' hs=>?_) hcls;obtain⟨oL,_,_,hoL,_⟩:=id hn;refine h _ ⟨I.ok,I.os,I.bare,⟨λb o e n hb hx=>?_,λb o e n hb hx=>?_,I.base.free,λb o e hx=>?_,I.base.tups,I.base.frzs,I.base.tbls⟩,⟨_,hn',λj y v' e1 e2 e3=>?_⟩,λy c e=>?_,I.free,I.freeC,λp hp=>?_,tracked ⟨oL,hoL,I.free⟩ hs,by simpa using I.len⟩ ⟨_,hs,.inl rfl⟩
  ·exact(hs.2 b (cz (kj (bo e) I.ok.above))).trans (I.base.keep b o e n hb hx)
  ·obtain⟨sl,e1⟩:=I.base.slot b o e n hb hx;exact⟨sl,(hs.2 b (cz (kj (bo e) I.ok.above))).trans e1⟩
  ·obtain⟨o',e1⟩:=I.base.there b o e hx;exact⟨o',(hs.2 b (cz (kj (bo e) I.ok.above))).trans e1⟩
  ·by_cases hj:j=i
   ·subst hj;rw[hi]at e1;cases e1;rw[g4 hiσ]at e2;cases e2;exact⟨u,r,.inl ⟨hk,by simp⟩⟩
   ·rw[h_ (Ne.symm hj)]at e2;obtain⟨u',r',q⟩:=hl j y v' e1 e2 e3;refine⟨u',r',?_⟩;rcases q with⟨k,e⟩|⟨k,c,e,z⟩
    ·refine .inl ⟨k,?_⟩;have:y≠x:=λe=>hj (B4 hN e1 (e▸hi))
     simp[this,e]
    ·exact .inr ⟨k,c,e,z.sameBut hs (cne y c e)⟩
  ·obtain⟨w',z⟩:=I.cell y c e;exact⟨w',z.sameBut hs (cne y c e)⟩
  ·obtain⟨e,n,ne,nf,d⟩:=I.pin p hp;exact⟨(hs.2 p.1 ne).trans e,n,ne,nf,d⟩
 ·have hfn:X.fn x=true:=by
   rcases hf with z|z
   ·exact z
   ·rw[z]at hk;cases hk
  obtain⟨c,hc⟩:=I.ok.has x (.inl hk);obtain⟨w',z⟩:=I.cell x c hc;refine wpAny_storeName_cell I.ok.kind hk hc z (λh' hc' hs=>?_);obtain⟨oc,hoc,hocd⟩:=id z;refine h {s with heap:=h'} ⟨I.ok,I.os,I.bare,⟨λb o e n hb hx=>?_,λb o e n hb hx=>?_,I.base.free,λb o e hx=>?_,I.base.tups,I.base.frzs,I.base.tbls⟩,⟨m,hn.sameBut hs (Ne.symm (cne x c hc)),λj y v' e1 e2 e3=>?_⟩,λy c' e=>?_,I.free,I.freeC,λp hp=>?_,tracked ⟨oc,hoc,I.freeC x c hc⟩ hs,by simpa using I.len⟩ ⟨c,hs,.inr hc⟩
  ·exact(hs.2 b (cz (kj (bo e) (I.ok.cab x c hfn hc)))).trans (I.base.keep b o e n hb hx)
  ·obtain⟨sl,e1⟩:=I.base.slot b o e n hb hx;exact⟨sl,(hs.2 b (cz (kj (bo e) (I.ok.cab x c hfn hc)))).trans e1⟩
  ·obtain⟨o',e1⟩:=I.base.there b o e hx;exact⟨o',(hs.2 b (cz (kj (bo e) (I.ok.cab x c hfn hc)))).trans e1⟩
  ·by_cases hj:j=i
   ·subst hj;rw[hi]at e1;cases e1;rw[g4 hiσ]at e2;cases e2;exact⟨u,r,.inr ⟨.inl hk,c,hc,hc'⟩⟩
   ·rw[h_ (Ne.symm hj)]at e2;obtain⟨u',r',q⟩:=hl j y v' e1 e2 e3;refine⟨u',r',?_⟩;rcases q with q|⟨k,c',e,z'⟩
    ·exact .inl q
    ·refine .inr ⟨k,c',e,z'.sameBut hs ?_⟩;rintro rfl;exact hj (B4 hN e1 (I.ok.inj _ _ _ e hc▸hi))
  ·by_cases hcc:c'=c
   ·subst hcc;exact⟨_,hc'⟩
   ·obtain⟨w2,z2⟩:=I.cell y c' e;exact⟨w2,z2.sameBut hs hcc⟩
  ·obtain⟨e,n,ne,nf,d⟩:=I.pin p hp;refine⟨(hs.2 p.1 ?_).trans e,n,ne,nf,d⟩;intro q;rw[q,hoc]at e;have q':oc=p.2:=Option.some.inj e;exact d w' (by rw[<-q'];exact hocd)
theorem rS{M:Model}{A:Around}{E:Value->Shared->Prop}{i:Nat}{x:Str}{v:V}{u:Value}{Q:Unit->Shared->Prop}(I:ag X OS σ H s)(hN:X.N.Nodup)(hi:X.N[i]?=some x)(hx:lr X.env.scope x)(r:ah v u)
  (h:∀s',ag X OS (σ.set i (some v)) H s'->Q () s') (hf:X.fn x=true\/X.env.scope.names.lookup x=some .local:=by first|exact .inl rfl|exact .inr rfl|assumption):wpAny M A (storeName X.env x u) Q E s:=
 CY I hN hi hx r (λs' I' _=>h s' I') hf
theorem ag.call'{s':Shared}{ch:List Addr}(I:ag X OS σ H s)(ho:s'.os=s.os)(u:Un (oq X.stack) ch H H' s.heap s'.heap)(hok:fj X.prog X.w H' s'.heap)(hg:AllBare s'.gens)
  (hch:∀b∈ch,(b∈X.ex\/X.s₀.heap.objs.size<=b)/\b≠X.env.locals/\(∀x c,X.env.cells.lookup x=some c->c≠b)/\∀p∈X.pn++OS,p.1≠b):ag X OS σ H' s':=by
 obtain⟨h',g',d',t',o'⟩:=s';have e:o'=s.os:=ho;subst e;exact I.call (g':=g') (t':=t') (d':=d') u hok hg hch
end
abbrev XK:=Value->Option Addr->Hp->Prop
abbrev St:=List (Option V)
abbrev VK:=V->Hp->Prop
abbrev TE:=St->Hp->VK->Prop
abbrev TT:=St->Hp->(Bool->Hp->Prop)->Prop
abbrev TA:=St->Hp->(List V->Hp->Prop)->Prop
structure mC where
 nx:St->Hp->Prop
 rt:VK
 bk:St->Hp->Prop:=λ_ _=>False
 ct:St->Hp->Prop:=λ_ _=>False
abbrev TS:=mC->St->Hp->Prop
def EP(X:Cx)(OS:List (Addr×Obj))(σ:St)(Q:VK)(u:Value)(s':Shared):Prop:=∃v H',ag X OS σ H' s'/\ah v u/\Q v H'
def TP(X:Cx)(OS:List (Addr×Obj))(σ:St)(Q:Bool->Hp->Prop)(b:Bool)(s':Shared):Prop:=∃H',ag X OS σ H' s'/\Q b H'
def AP(X:Cx)(OS:List (Addr×Obj))(σ:St)(Q:List V->Hp->Prop)(us:List Value)(s':Shared):Prop:=∃vs H',ag X OS σ H' s'/\ai vs us/\Q vs H'
def SP(X:Cx)(OS:List (Addr×Obj))(D:mC)(f:Flow)(s':Shared):Prop:=
 match f with
 |.next=>∃σ' H',ag X OS σ' H' s'/\D.nx σ' H'
 |.brk=>∃σ' H',ag X OS σ' H' s'/\D.bk σ' H'
 |.cont=>∃σ' H',ag X OS σ' H' s'/\D.ct σ' H'
 |.ret u=>∃v σ' H',ag X OS σ' H' s'/\ah v u/\D.rt v H'
def PE(X:Cx)(e:Expr)(t:TE):Prop:=
 ∀(OS:List (Addr×Obj)) (s:Shared) (σ:St) (H:Hp) (Q:VK),ag X OS σ H s->t σ H Q->wpAny (model X.prog X.w) X.A (eval e X.env) (EP X OS σ Q) X.xe s
def PT(X:Cx)(e:Expr)(t:TT):Prop:=
 ∀(OS:List (Addr×Obj)) (s:Shared) (σ:St) (H:Hp) (Q:Bool->Hp->Prop),ag X OS σ H s->t σ H Q->wpAny (model X.prog X.w) X.A (isTrue e X.env (eval e X.env)) (TP X OS σ Q) X.xe s
def PW(X:Cx)(e:Expr)(t:TT):Prop:=
 ∀(whole:Sem Value) (OS:List (Addr×Obj)) (s:Shared) (σ:St) (H:Hp) (Q:Bool->Hp->Prop),ag X OS σ H s->t σ H Q->wpAny (model X.prog X.w) X.A (isTrue e X.env whole) (TP X OS σ Q) X.xe s
theorem PW.pt{X:Cx}{e:Expr}{t:TT}(h:PW X e t):PT X e t:=h _
def PA(X:Cx)(es:List Expr)(t:TA):Prop:=
 ∀(pos:Pos) (OS:List (Addr×Obj)) (s:Shared) (σ:St) (H:Hp) (Q:List V->Hp->Prop),ag X OS σ H s->t σ H Q->wpAny (model X.prog X.w) X.A (spliced (backTo pos (starEach es X.env))) (AP X OS σ Q) X.xe s
def PS(X:Cx)(st:Stmt)(t:TS):Prop:=
 ∀(OS:List (Addr×Obj)) (s:Shared) (σ:St) (H:Hp) (D:mC),ag X OS σ H s->t D σ H->wpAny (model X.prog X.w) X.A (exec st X.env) (SP X OS D) X.xe s
def ik(X:Cx)(st:List Stmt)(t:TS):Prop:=
 ∀(OS:List (Addr×Obj)) (s:Shared) (σ:St) (H:Hp) (D:mC),ag X OS σ H s->t D σ H->wpAny (model X.prog X.w) X.A (execs st X.env) (SP X OS D) X.xe s
theorem bq{α:Type}{t:Sem α}{Q Q':α->Shared->Prop}{M:Model}{A:Around}{E:Value->Shared->Prop}{s:Shared}(h:wpAny M A t Q E s)(hQ:∀a s,Q a s->Q' a s):wpAny M A t Q' E s:=wpAny_mono h hQ λ_ _ x=>x
section
variable{X:Cx}
def yy(i:Nat):TE:=λσ H Q=>∃v,σ[i]?=some (some v)/\Q v H
def tC(v:V):TE:=λ_ H Q=>Q v H
theorem nO{i:Nat}{x:Str}{pos:Pos}(hN:X.N[i]?=some x)(hv:q0 X.env.scope x)(hd:(x==("__debug__":Str))=false:=by decide)(hcd:(x==("__classdict__":Str))=false:=by decide):PE X (.Name x pos) (yy i):=by
 intro OS s σ H Q I h;obtain⟨v,e,h⟩:=h;obtain⟨m,hn,hl⟩:=I.loc;obtain⟨u,r,l⟩:=hl i x v hN e hv;have fin:EP X OS σ Q u s:=⟨v,H,I,r,h⟩
 rcases l with⟨hk,hm⟩|⟨hk,c,hc,hcell⟩
 ·exact wpAny_Name (wpAny_loadName_local I.ok.kind hk hn hm fin) hd
 ·rcases hk with hk|hk
  ·exact wpAny_Name (wpAny_loadName_cell I.ok.kind hk hc hcell fin) hd
  ·exact wpAny_Name (wpAny_loadName_free I.ok.kind hk hc hcell fin hcd) hd
theorem cJ{i j pos}:PE X (.Constant (.int i) j pos) (tC (.int i)):=λ_ _ _ H _ I h=>wpAny_Constant_int ⟨.int i,H,I.tok _,⟨_,rfl⟩,h⟩
theorem E5{b j pos}:PE X (.Constant (.bool b) j pos) (tC (.bl b)):=λ_ _ _ H _ I h=>Constant_bool ⟨.bl b,H,I,rfl,h⟩
theorem Gs{j pos}:PE X (.Constant .none j pos) (tC .non):=λ_ _ _ H _ I h=>Constant_none ⟨.non,H,I,rfl,h⟩
theorem Ig{x j pos}:PE X (.Constant (.str x) j pos) (tC (.str x)):=λ_ _ _ H _ I h=>Calls.Constant_str ⟨.str x,H,I.tok _,⟨_,rfl⟩,h⟩
def Gl(X:Cx)(x:Str):Prop:=X.env.kindOf x=some .globalImplicit
theorem xL{E:Value->Shared->Prop}{OS:List (Addr×Obj)}{s:Shared}{σ:St}{H:Hp}{x:Str}{u:Value}{pos:Pos}{Q:Value->Shared->Prop}(I:ag X OS σ H s)(hg:Gl X x)(hm:X.mg x=some u)(h:Q u s)
  (hd:(x==("__debug__":Str))=false:=by decide):wpAny (model X.prog X.w) X.A (eval (.Name x pos) X.env) Q E s:=
 Calls.Name_function_global I.ok.kind hg (Calls.loadGlobal_global (by rw[I.ok.glob];exact I.mod.glob.keeps I.bk) hm h) hd
theorem nR{E:Value->Shared->Prop}{OS:List (Addr×Obj)}{s:Shared}{σ:St}{H:Hp}{x:Str}{u:Value}{pos:Pos}{Q:Value->Shared->Prop}(I:ag X OS σ H s)(hg:Gl X x)(hm:X.mg x=none)(hv:bootBuiltins x=some u)(h:Q u s)
  (hn:x≠"__name__":=by decide) (hd:(x==("__debug__":Str))=false:=by decide):wpAny (model X.prog X.w) X.A (eval (.Name x pos) X.env) Q E s:=by
 obtain⟨mb,h1,h2⟩:=I.mod.blt;exact Calls.Name_function_global I.ok.kind hg (Calls.loadGlobal_builtin (by rw[I.ok.glob];exact I.mod.glob.keeps I.bk) hm (by rw[I.ok.blt];exact h1.keeps I.bk) ((h2 x hn).trans hv) h) hd
theorem An{x:Str}{v:V}{u:Value}{pos:Pos}(hg:Gl X x)(hm:X.mg x=some u)(r:ah v u)(hd:(x==("__debug__":Str))=false:=by decide):PE X (.Name x pos) (tC v):=
 λ_ _ _ H _ I h=>xL I hg hm ⟨v,H,I,r,h⟩ hd
theorem dY{x:Str}{v:V}{u:Value}{pos:Pos}(hg:Gl X x)(hm:X.mg x=none)(hv:bootBuiltins x=some u)(r:ah v u)(hn:x≠"__name__":=by decide)(hd:(x==("__debug__":Str))=false:=by decide):PE X (.Name x pos) (tC v):=
 λ_ _ _ H _ I h=>nR I hg hm hv ⟨v,H,I,r,h⟩ hn hd
variable{a b:Expr}{ta tb:TE}{pos:Pos}
def tB(t:TE):TT:=λσ H Q=>t σ H λx H1=>∃c,x=.bl c/\Q c H1
theorem HE{e:Expr}{t:TE}(h:PE X e t)(he:∀whole,isTrue e X.env whole=(do let v <- whole;standAt e.pos;holding [v] (truthy v)):=by intro _;rfl):PT X e (tB t):=by
 intro OS s σ H Q I hw;refine isTrue_plain (bq (h OS s σ H _ I hw) λv s1 ⟨x,H1,I1,r1,q1⟩=>?_) (he _);obtain⟨d,rfl,q⟩:=q1;cases r1;exact wpAny_truthy_bool ⟨H1,I1,q⟩
variable{tA tB':TT}{rest:List Expr}
def FS(t u:TT):TT:=λσ H Q=>t σ H λc H1=>if c=true then u σ H1 Q else Q false H1
def NV(t u:TT):TT:=λσ H Q=>t σ H λc H1=>if c=true then Q true H1 else u σ H1 Q
def FW(t:TT):TT:=λσ H Q=>t σ H λc H1=>Q (!c) H1
theorem IH(ha:PT X a tA):PW X (.BoolOp .And [a] pos) tA:=by
 intro wh OS s σ H Q I h;refine isTrue_and (bq (ha OS s σ H Q I h) λc s1 e=>?_);cases c with
 |true=>exact isTrue_and_nil e
 |false=>exact e
theorem HJ(ha:PT X a tA):PW X (.BoolOp .Or [a] pos) tA:=by
 intro wh OS s σ H Q I h;refine isTrue_or (bq (ha OS s σ H Q I h) λc s1 e=>?_);cases c with
 |false=>exact isTrue_or_nil e
 |true=>exact e
theorem HI(ha:PT X a tA)(hb:PW X (.BoolOp .And (b::rest) pos) tB'):PW X (.BoolOp .And (a::b::rest) pos) (FS tA tB'):=by
 intro wh OS s σ H Q I h;refine isTrue_and (bq (ha OS s σ H _ I h) λc s1 ⟨H1,I1,q1⟩=>?_);cases c with
 |true=>exact hb wh OS s1 σ H1 Q I1 q1
 |false=>exact⟨H1,I1,q1⟩
theorem E8(ha:PT X a tA)(hb:PW X (.BoolOp .Or (b::rest) pos) tB'):PW X (.BoolOp .Or (a::b::rest) pos) (NV tA tB'):=by
 intro wh OS s σ H Q I h;refine isTrue_or (bq (ha OS s σ H _ I h) λc s1 ⟨H1,I1,q1⟩=>?_);cases c with
 |true=>exact⟨H1,I1,q1⟩
 |false=>exact hb wh OS s1 σ H1 Q I1 q1
theorem HD(ha:PT X a tA):PT X (.UnaryOp .Not a pos) (FW tA):=by
 intro OS s σ H Q I h;exact isTrue_not (ha OS s σ H (λc H1=>Q (!c) H1) I h)
def Fl(ta tb:TE):TE:=λσ H Q=>ta σ H λx H1=>∃c,x=.bl c/\if c=true then tb σ H1 Q else Q (.bl false) H1
theorem Gu{op}{t:TE}(h:PE X a t):PE X (.BoolOp op [a] pos) t:=λOS s σ H Q I hw=>BoolOp_one (h OS s σ H Q I hw)
theorem Gp(ha:PE X a ta)(hb:PE X (.BoolOp .And (b::rest) pos) tb):PE X (.BoolOp .And (a::b::rest) pos) (Fl ta tb):=by
 intro OS s σ H Q I h;refine BoolOp_and (bq (ha OS s σ H _ I h) λv s1 ⟨x,H1,I1,r1,q1⟩=>?_);obtain⟨c,rfl,q1⟩:=q1;cases r1;refine wpAny_truthy_bool ?_;cases c with
 |true=>exact hb OS s1 σ H1 Q I1 q1
 |false=>exact⟨.bl false,H1,I1,rfl,q1⟩
def NW(t:TT)(ta tb:TE):TE:=λσ H Q=>t σ H λc H1=>if c=true then ta σ H1 Q else tb σ H1 Q
theorem J5{c:Expr}(hc:PT X c tA)(ha:PE X a ta)(hb:PE X b tb):PE X (.IfExp c a b pos) (NW tA ta tb):=by
 intro OS s σ H Q I h;refine wpAny_IfExp (bq (hc OS s σ H _ I h) λd s1 ⟨H1,I1,q1⟩=>?_);cases d with
 |true=>exact ha OS s1 σ H1 Q I1 q1
 |false=>exact hb OS s1 σ H1 Q I1 q1
end
def bx(K:W.Frag)(H:Hp)(a:Addr)(xs:List V):Prop:=
 Rd H a (.lst xs) \/
  ∃(o:Obj) (its:Array Value) (n:Nat),K.lookup a=some o/\o.cls=.type "list"/\o.dict=none/\o.data=.seq its n/\its.size<=sizeLine/\ai xs its.toList
def cv(K:W.Frag)(H:Hp)(a:Addr)(xs:List V):Prop:=
 Rd H a (.tup xs) \/
  ∃(o:Obj) (its:Array Value) (n:Nat),K.lookup a=some o/\o.cls=.type "tuple"/\o.data=.seq its n/\its.size<=sizeLine/\ai xs its.toList
def DL:Value->Option V
 |.none=>some .non
 |.bool b=>some (.bl b)
 |.int i _=>some (.int i)
 |.str x _=>some (.str x)
 |.bytes b _=>some (.byt b)
 |.float b _=>some (.flt b)
 |.ref a=>some (.ref a)
 |.type n=>some (.ty n)
 |_=>none
theorem ah.abs{x:V}{u:Value}(r:ah x u):DL u=some x:=by
 cases x with
 |non=>cases r;rfl
 |bl _=>cases r;rfl
 |int _=>obtain⟨t,rfl⟩:=r;rfl
 |str _=>obtain⟨t,rfl⟩:=r;rfl
 |byt _=>obtain⟨t,rfl⟩:=r;rfl
 |flt _=>obtain⟨t,rfl⟩:=r;rfl
 |ref _=>cases r;rfl
 |ty _=>cases r;rfl
theorem ah.inj{x y:V}{u:Value}(r:ah x u)(q:ah y u):x=y:=Option.some.inj (r.abs.symm.trans q.abs)
theorem ai.inj:∀{xs ys:List V}{us:List Value},ai xs us->ai ys us->xs=ys
 |_,_,_,.nil,.nil=>rfl
 |_,_,_,.cons r t,.cons r' t'=>by rw[r.inj r',ai.inj t t']
section
variable{X:Cx}{OS:List (Addr×Obj)}{σ:St}{H:Hp}{s:Shared}{a:Addr}{xs ys:List V}
theorem bx.of{K:W.Frag}(h:H a=some (.lst xs)):bx K H a xs:=.inl (.inl h)
theorem cv.of{K:W.Frag}(h:H a=some (.tup xs)):cv K H a xs:=.inl (.inl h)
theorem ag.list(I:ag X OS σ H s)(h:bx X.K H a xs):∃its:List Value,ai xs its/\PlainL s.heap a its.toArray/\xs.length<=sizeLine:=by
 rcases h with h|⟨o,its,n,hk,hc,hd,hs,hz,r⟩
 ·obtain⟨z,its,n,r,e⟩:=h.ok I.hok;exact⟨its,r,⟨_,n,e,rfl,rfl,rfl⟩,z⟩
 ·refine⟨its.toList,r,⟨o,n,I.kIn a o hk,hc,hd,by simpa using hs⟩,?_⟩;have e:=r.length;simp only[e7]at e;omega
theorem ag.tuple(I:ag X OS σ H s)(h:cv X.K H a xs):∃its:List Value,ai xs its/\IsTup s.heap a its.toArray/\xs.length<=sizeLine:=by
 rcases h with h|⟨o,its,n,hk,hc,hs,hz,r⟩
 ·obtain⟨z,its,r,p⟩:=h.ok I.hok;exact⟨its,r,p,z⟩
 ·refine⟨its.toList,r,⟨o,I.kIn a o hk,hc,n,by simpa using hs⟩,?_⟩;have e:=r.length;simp only[e7]at e;omega
theorem ag.list_inj(I:ag X OS σ H s)(h:bx X.K H a xs)(h':bx X.K H a ys):xs=ys:=by
 obtain⟨its,r,⟨o,n,e,_,_,d⟩,_⟩:=I.list h;obtain⟨its',r',⟨o',n',e',_,_,d'⟩,_⟩:=I.list h';rw[e]at e';cases e';rw[d]at d';injection d' with d1 _
 have:its=its':=by simpa using congrArg Array.toList d1
 subst this;exact r.inj r'
theorem ag.tuple_inj(I:ag X OS σ H s)(h:cv X.K H a xs)(h':cv X.K H a ys):xs=ys:=by
 obtain⟨its,r,⟨o,e,_,n,d⟩,_⟩:=I.tuple h;obtain⟨its',r',⟨o',e',_,n',d'⟩,_⟩:=I.tuple h';rw[e]at e';cases e';rw[d]at d';injection d' with d1 _
 have:its=its':=by simpa using congrArg Array.toList d1
 subst this;exact r.inj r'
end
abbrev Cx.wish(X:Cx)(E:Value->Shared->Prop):Cx:={X with xe:=E}
abbrev Cx.nox(X:Cx):Cx:=X.wish λ_ _=>False
theorem Cx.Ok.wish{X:Cx}(ok:X.Ok)(E:Value->Shared->Prop):(X.wish E).Ok:=
 ⟨ok.mod,ok.kind,ok.glob,ok.blt,ok.above,ok.inj,ok.has,ok.cab,ok.hd,ok.frames,ok.stk,ok.exf,ok.bs,ok.bsz,ok.noex,ok.exfs,ok.funs,ok.frf⟩
theorem Cx.Ok.unwish{X:Cx}{E:Value->Shared->Prop}(ok:(X.wish E).Ok):X.Ok:=
 ⟨ok.mod,ok.kind,ok.glob,ok.blt,ok.above,ok.inj,ok.has,ok.cab,ok.hd,ok.frames,ok.stk,ok.exf,ok.bs,ok.bsz,ok.noex,ok.exfs,ok.funs,ok.frf⟩
section
variable{X:Cx}{OS:List (Addr×Obj)}{σ:St}{H:Hp}{s:Shared}{E:Value->Shared->Prop}
theorem ag.wish(I:ag X OS σ H s)(E:Value->Shared->Prop):ag (X.wish E) OS σ H s:=⟨I.ok.wish E,I.os,I.bare,I.base,I.loc,I.cell,I.free,I.freeC,I.pin,I.hok,I.len⟩
theorem ag.unwish(I:ag (X.wish E) OS σ H s):ag X OS σ H s:=⟨I.ok.unwish,I.os,I.bare,I.base,I.loc,I.cell,I.free,I.freeC,I.pin,I.hok,I.len⟩
theorem SP.unwish{D:mC}{f:Flow}{s':Shared}(h:SP (X.wish E) OS D f s'):SP X OS D f s':=by
 cases f with
 |next=>obtain⟨σ',H',I,q⟩:=h;exact⟨σ',H',I.unwish,q⟩
 |brk=>obtain⟨σ',H',I,q⟩:=h;exact⟨σ',H',I.unwish,q⟩
 |cont=>obtain⟨σ',H',I,q⟩:=h;exact⟨σ',H',I.unwish,q⟩
 |ret u=>obtain⟨v,σ',H',I,r,q⟩:=h;exact⟨v,σ',H',I.unwish,r,q⟩
theorem ik.nox{st:List Stmt}{t:TS}(h:ik X.nox st t):ik X st t:=λOS s σ H D I hw=>
 wpAny_mono (h OS s σ H D (I.wish _) hw) (λ_ _ q=>q.unwish) λ_ _ z=>False.elim z
end
section
variable{X:Cx}{st:Stmt}{rest:List Stmt}{t u:TS}{e:Expr}{te:TE}{pos:Pos}
def GX:TS:=λD σ H=>D.nx σ H
def Fo(t u:TS):TS:=λD σ H=>t {D with nx:=u D} σ H
theorem xG:ik X [] GX:=λ_ _ σ H _ I h=>wpAny_execs_nil ⟨σ,H,I,h⟩
theorem jA(h1:PS X st t)(h2:ik X rest u):ik X (st::rest) (Fo t u):=by
 intro OS s σ H D I h;refine wpAny_execs_cons (bq (h1 OS s σ H {D with nx:=u D} I h) λf s1 q=>?_);cases f with
 |next=>
  obtain⟨σ',H',I',q⟩:=q;exact h2 OS s1 σ' H' D I' q
 |ret v=>exact q
 |brk=>exact q
 |cont=>exact q
theorem mZ(h1:PS X st t):ik X [st] t:=by
 intro OS s σ H D I h;refine wpAny_execs_cons (bq (h1 OS s σ H D I h) λf s1 q=>?_);cases f with
 |next=>exact wpAny_execs_nil q
 |ret v=>exact q
 |brk=>exact q
 |cont=>exact q
theorem ag.quiet{OS:List (Addr×Obj)}{σ:St}{H:Hp}{s:Shared}(I:ag X OS σ H s):interactive X.env=false:=by simp[interactive,I.ok.kind]
def Fn(te:TE):TS:=λD σ H=>te σ H λ_ H1=>D.nx σ H1
theorem Ax(he:PE X e te)(hs:swapsWith e none pos.line X.env=pure false:=by rfl):PS X (.Expr e pos) (Fn te):=by
 intro OS s σ H D I h;exact wpAny_Expr_any (bq (he OS s σ H _ I h) λv s1 ⟨x,H1,I1,r1,q1⟩=>⟨σ,H1,I1,q1⟩) I.quiet hs
def FY(te:TE):TS:=λD σ H=>te σ H D.rt
theorem nJ(he:PE X e te):PS X (.Return (some e) pos) (FY te):=by
 intro OS s σ H D I h;exact wpAny_Return_some (bq (he OS s σ H _ I h) λv s1 ⟨x,H1,I1,r1,q1⟩=>⟨x,σ,H1,I1,r1,q1⟩)
def FV(c:TT)(t u:TS):TS:=λD σ H=>c σ H λb H1=>if b=true then t D σ H1 else u D σ H1
theorem yJ{c:Expr}{a b:List Stmt}{tc:TT}(hc:PT X c tc)(ha:ik X a t)(hb:ik X b u):PS X (.If c a b pos) (FV tc t u):=by
 intro OS s σ H D I h;refine wpAny_If (bq (hc OS s σ H _ I h) λd s1 ⟨H1,I1,q1⟩=>?_);cases d with
 |true=>exact ha OS s1 σ H1 D I1 q1
 |false=>exact hb OS s1 σ H1 D I1 q1
def Hb:TS:=λ_ _ _=>False
theorem MO{sts:List Stmt}:ik X sts Hb:=λ_ _ _ _ _ _ h=>h.elim
end
abbrev TG:=V->St->Hp->(St->Hp->Prop)->Prop
abbrev ou:=List V->St->Hp->(St->Hp->Prop)->Prop
def PG(X:Cx)(target:Expr)(t:TG):Prop:=
 ∀(OS:List (Addr×Obj)) (s:Shared) (σ:St) (H:Hp) (v:V) (u:Value) (Q:St->Hp->Prop),ag X OS σ H s->ah v u->t v σ H Q ->
  wpAny (model X.prog X.w) X.A (assign target X.env u) (λ_ s'=>∃σ' H',ag X OS σ' H' s'/\Q σ' H') X.xe s
def oy(X:Cx)(ts:List Expr)(t:ou):Prop:=
 ∀(OS:List (Addr×Obj)) (s:Shared) (σ:St) (H:Hp) (vs:List V) (us:List Value) (Q:St->Hp->Prop),ag X OS σ H s->ai vs us->t vs σ H Q ->
  wpAny (model X.prog X.w) X.A (assignInOrder ((assignEach ts X.env).map (·.2)) us) (λ_ s'=>∃σ' H',ag X OS σ' H' s'/\Q σ' H') X.xe s
abbrev zR:=V->V->V->Hp->(Hp->Prop)->Prop
def w6(X:Cx)(t:zR):Prop:=
 ∀(OS:List (Addr×Obj)) (s:Shared) (σ:St) (H:Hp) (o i v:V) (ov iv u:Value) (Q:Hp->Prop),ag X OS σ H s->ah o ov->ah i iv->ah v u->t o i v H Q ->
  wpAny (model X.prog X.w) X.A (setItem ov iv u) (λ_ s'=>∃H',ag X OS σ H' s'/\Q H') X.xe s
section
variable{X:Cx}{pos:Pos}
def tW(i:Nat):TG:=λv σ H Q=>Q (σ.set i (some v)) H
theorem Iz{i:Nat}{x:Str}(hN:X.N.Nodup)(hi:X.N[i]?=some x)(hx:lr X.env.scope x)(hf:X.fn x=true\/X.env.scope.names.lookup x=some .local:=by first|exact .inl rfl|exact .inr rfl|assumption):PG X (.Name x pos) (tW i):=by
 intro OS s σ H v u Q I r h;exact wpAny_assign_Name (rS I hN hi hx r (λs' I'=>⟨_,H,I',h⟩) hf)
def DQ:ou:=λvs σ H Q=>vs=[]/\Q σ H
def FG(t:TG)(u:ou):ou:=λvs σ H Q=>∃v r,vs=v::r/\t v σ H λσ' H'=>u r σ' H' Q
theorem IA:oy X [] DQ:=by
 intro OS s σ H vs us Q I r h;obtain⟨e,h⟩:=h;subst e;cases r;exact assignInOrder_nil ⟨σ,H,I,h⟩
theorem J7{e:Expr}{es:List Expr}{t:TG}{u:ou}(h1:PG X e t)(h2:oy X es u)
  (hs:(assignEach (e::es) X.env).map (·.2)=assign e X.env::(assignEach es X.env).map (·.2):=by rfl):oy X (e::es) (FG t u):=by
 intro OS s σ H vs us Q I r h;obtain⟨v,vr,e1,h⟩:=h;subst e1;cases r with
 |cons r rr=>
  rw[hs];refine assignInOrder_cons (bq (h1 OS s σ H _ _ _ I r h) λ_ s1 ⟨σ1,H1,I1,q1⟩=>?_);exact h2 OS s1 σ1 H1 _ _ Q I1 rr q1
def DS(K:W.Frag)(n:Nat)(t:ou):TG:=λv σ H Q=>∃a xs,v=.ref a/\cv K H a xs/\xs.length=n/\t xs σ H Q
theorem Im{es:List Expr}{k:Nat}{t:ou}{n:Nat}(hc:X.calm=true)(h:oy X es t)
  (hn:(assignEach es X.env).length=n:=by rfl) (hst:(assignEach es X.env).findIdx? (·.1)=none:=by rfl):PG X (.Tuple es k pos) (DS X.K n t):=by
 intro OS s σ H v u Q I r hw;obtain⟨a,xs,e1,hq,hl,hw⟩:=hw;subst e1;cases r;obtain⟨its,rv,ht,hz⟩:=I.tuple hq;refine assign_Tuple_tuple (I.ok.hd hc) ht (by simp[hn,<-hl,rv.length]) hst λh' hx=>?_
 have I1:ag X OS σ H {s with heap:=h'}:=I.kept (t':=s.toks) λb o e=>hx b o (cz (bo e)) e
 exact h OS _ σ H xs _ Q I1 (by simpa using rv) hw
def DR(to ti:TE)(t:zR):TG:=λv σ H Q=>to σ H λo H1=>ti σ H1 λi H2=>t o i v H2 λH3=>Q σ H3
theorem Il{o i:Expr}{to ti:TE}{t:zR}(ho:PE X o to)(hi:PE X i ti)(hs:w6 X t)
  (ha:∀v,assign (.Subscript o i pos) X.env v=(do
   let ov <- holding [v] (eval o X.env)
   let iv <- holding [v,ov] (eval i X.env)
   standAt pos
   holding [v,ov,iv] (setItem ov iv v)
   release [v,ov,iv] []):=by intro _;rfl):PG X (.Subscript o i pos) (DR to ti t):=by
 intro OS s σ H v u Q I r h;rw[ha];refine af (ic (bq (ho OS s σ H _ I h) λov s1 ⟨x,H1,I1,r1,q1⟩=>?_));refine af (ic (bq (hi OS s1 σ H1 _ I1 q1) λiv s2 ⟨y,H2,I2,r2,q2⟩=>?_));refine af (wpAny_standAt (af (ic (bq (hs OS s2 σ H2 x y v ov iv u _ I2 r1 r2 r q2) λ_ s3 ⟨H3,I3,q3⟩=>?_))));exact wpAny_release ⟨σ,H3,I3,q3⟩
def uA(te:TE)(g:TG):TS:=λD σ H=>te σ H λx H1=>g x σ H1 D.nx
theorem A9{tg e:Expr}{te:TE}{g:TG}(he:PE X e te)(hg:PG X tg g)(hs:swapsWithSole [tg] e pos.line X.env=pure false:=by rfl)(hw:swappedStores [tg] e X.env=pure none:=by rfl)
  (h1:(assignEach [tg] X.env).map (·.2)=[assign tg X.env]:=by rfl):PS X (.Assign [tg] e pos) (uA te g):=by
 intro OS s σ H D I h;refine wpAny_Assign_stores (bq (he OS s σ H _ I h) λv s1 ⟨x,H1,I1,r1,q1⟩=>?_) hs hw;rw[h1];exact bq (hg OS s1 σ H1 x v _ I1 r1 q1) λ_ s2 q=>q
theorem lG{i:Nat}{x:Str}{e:Expr}{te:TE}{pos':Pos}(hN:X.N.Nodup)(hi:X.N[i]?=some x)(hx:lr X.env.scope x)(he:PE X e te)(hs:swapsWith e (some (.Name x pos')) pos.line X.env=pure false:=by rfl)(hf:X.fn x=true\/X.env.scope.names.lookup x=some .local:=by first|exact .inl rfl|exact .inr rfl|assumption):
  PS X (.Assign [.Name x pos'] e pos) (uA te (tW i)):=by
 intro OS s σ H D I h;refine wpAny_Assign_Name (bq (he OS s σ H _ I h) λv s1 ⟨y,H1,I1,r1,q1⟩=>?_) hs;exact rS I1 hN hi hx r1 (λs2 I2=>⟨_,H1,I2,q1⟩) hf
def FX(i j:Nat)(ta:TA):TS:=λD σ H=>ta σ H λvs H1=>∃v w,vs=[v,w]/\D.nx ((σ.set i (some v)).set j (some w)) H1
theorem HC{i j:Nat}{x y:Str}{a b:Expr}{ta:TA}{px py pt:Pos}{kt k2 pt2}(hc:X.calm=true)(hN:X.N.Nodup)(hi:X.N[i]?=some x)(hj:X.N[j]?=some y)(hij:i≠j)
  (hx:X.env.scope.names.lookup x=some .local) (hy:X.env.scope.names.lookup y=some .local) (ha:PA X [a,b] ta)
  (hw:swappedStores [.Tuple [.Name x px,.Name y py] kt pt] (.Tuple [a,b] k2 pt2) X.env=pure (some [x,y]))
  (hs:swapsWithSole [.Tuple [.Name x px,.Name y py] kt pt] (.Tuple [a,b] k2 pt2) pos.line X.env=pure false:=by rfl):
  PS X (.Assign [.Tuple [.Name x px,.Name y py] kt pt] (.Tuple [a,b] k2 pt2) pos) (FX i j ta):=by
 intro OS s σ H D I h;rw[exec_Assign_arm];refine af (wpAny_standAt ?_);rw[hs];refine af (aj ?_);rw[if_neg (by decide)];refine af (Tuple_ (bq (ha _ OS s σ H _ I h) λus s1 ⟨vs,H1,I1,r1,q1⟩=>?_));obtain⟨v,w,e1,q1⟩:=q1;subst e1;obtain⟨u1,u2,rfl,rv,rw'⟩:∃u1 u2,us=[u1,u2]/\ah v u1/\ah w u2:=by
  cases r1 with
  |cons p q=>
   cases q with
   |cons p' q'=>
    cases q';exact⟨_,_,rfl,p,p'⟩
 refine e9 ?_ (by show 2<=sizeLine;decide);have I2:ag X OS σ H1 {s1 with heap:=s1.heap.push {cls:=.type "tuple",data:=.seq [u1,u2].toArray}}:=I1.kept (t':=s1.toks) λb o e=>bh _ e
 rw[hw];refine af (aj ?_);show wpAny (model X.prog X.w) X.A (do rule "assign.swapped-stores";let items <- unpackItems (.ref s1.heap.objs.size) 2 none;assignInOrder [λv=>bindName X.env y v,λv=>bindName X.env x v] items.reverse;pure Flow.next) _ _ _;refine af (wpAny_rule (af (unpackItems_tuple (items:=#[u1,u2]) (I.ok.hd hc) (IsTup.new s1.heap _) λh' hx'=>?_)));have I3:=I2.kept (h':=h') (t':=s1.toks) λb o e=>hx' b o (cz (bo e)) e
 show wpAny _ _ (assignInOrder [λv=>bindName X.env y v,λv=>bindName X.env x v] [u2,u1] >>= λ_=>pure Flow.next) _ _ _;refine af (assignInOrder_cons (wpAny_bindName (rS I3 hN hj (.inl hy) rw' (λs2 I4=>?_) (.inr hy))));refine assignInOrder_cons (wpAny_bindName (rS I4 hN hi (.inl hx) rv (λs3 I5=>assignInOrder_nil (aj ?_)) (.inr hx)));rw[List.set_comm _ _ (Ne.symm hij)]at I5;exact⟨_,H1,I5,q1⟩
def Hc(c:TT)(tb:TS):TS:=λD σ H=>∃W:Nat->St->Hp->Prop,(∃m,W m σ H)/\∀m σ H,W m σ H ->
 c σ H λb H1=>if b=true then ∃N:St->Hp->Prop,(∀σ' H',N σ' H'->∃m',m'<m/\W m' σ' H')/\tb {D with nx:=N,ct:=N,bk:=D.nx} σ H1 else D.nx σ H1
theorem LJ{c:Expr}{body:List Stmt}{tc:TT}{tb:TS}(hp:PassesOwn (model X.prog X.w) X.A X.env X.xe)(hc:PT X c tc)(hb:ik X body tb):PS X (.While c body [] pos) (Hc tc tb):=by
 intro OS s σ H D I h;obtain⟨W,⟨m0,w0⟩,turn⟩:=h;refine wpAny_While (codeAny_whileLoop (λn s'=>∃σ' H',ag X OS σ' H' s'/\W n σ' H') ?_ m0 ⟨σ,H,I,w0⟩);rintro n s1 ⟨σ1,H1,I1,w1⟩;refine wpAny_passesOwn hp (bq (hc OS s1 σ1 H1 _ I1 (turn n σ1 H1 w1)) λb s2 ⟨H2,I2,q2⟩=>?_);cases b with
 |true=>
  obtain⟨N,hN,q2⟩:=q2;rw[if_pos rfl];refine wpAny_passesOwn hp (bq (hb OS s2 σ1 H2 _ I2 q2) λf s3 q3=>?_);cases f with
  |next=>
   obtain⟨σ3,H3,I3,n3⟩:=q3;obtain⟨m',hm,w3⟩:=hN σ3 H3 n3;exact⟨m',hm,σ3,H3,I3,w3⟩
  |cont=>
   obtain⟨σ3,H3,I3,n3⟩:=q3;obtain⟨m',hm,w3⟩:=hN σ3 H3 n3;exact⟨m',hm,σ3,H3,I3,w3⟩
  |brk=>exact q3
  |ret v=>exact q3
 |false=>
  rw[if_neg cq];exact wpAny_execs_nil ⟨σ1,H2,I2,q2⟩
end
structure It where
 go:Nat->Hp->Prop
 yld:Nat->Hp->V->Hp->Prop
 stop:Nat->Hp->Prop
def fQ(X:Cx)(OS:List (Addr×Obj))(H:Hp)(b:Addr):Prop:=
 H b=none/\b≠X.env.locals/\b∉X.fs/\(b∈X.ex\/X.s₀.heap.objs.size<=b)/\(∀x c,X.env.cells.lookup x=some c->c≠b)/\∀p∈X.pn++OS,p.1≠b
theorem ag.fpOk{X:Cx}{OS:List (Addr×Obj)}{σ:St}{H H':Hp}{s:Shared}{b:Addr}(I:ag X OS σ H s)(hb:s.heap.objs.size<=b)(hn:H' b=none):fQ X OS H' b:=by
 refine⟨hn,jc (kj I.lt hb),I.nofs hb,.inr (cx I.sz hb),λx c e z=>?_,λp hp z=>?_⟩
 ·obtain⟨v,q⟩:=I.cell x c e;exact absurd (kj q.lt (by rw[z];exact hb)) (g5 _)
 ·exact absurd (kj (bo (I.pin p hp).1) (by rw[z];exact hb)) (g5 _)
structure jK (P:Program) (w:World) (K:W.Frag) (tg:Expr) (J:It) (fp:List Addr) (it:Addr) (tn:Nat->Heap->Prop):Prop where
 mem:it∈fp
 obj:∀i h,tn i h->∀b∈fp,∃o,h.get? b=some o/\∀v,o.data≠.cell v
 keep:∀i h h',tn i h->(∀b∈fp,∀o,h.get? b=some o->h'.get? b=some o)->tn i h'
 item:∀(X:Cx),X.prog=P->X.w=w->X.K=K->X.calm=true->∀(i:Nat) (OS:List (Addr×Obj)) (s:Shared) (σ:St) (H:Hp) (E:Value->Shared->Prop),ag X OS σ H s->(∀b∈fp,fQ X OS H b)->tn i s.heap->J.go i H ->
  wpAny (model P w) X.A (pyNext (.ref it)) (λr s1=>∃u,r=some u /\
   wpAny (model P w) X.A (letOwnedTupleGo tg (.ref it) u) (λ_ s2=>∃x H',ag X OS σ H' s2/\ah x u/\J.yld i H x H'/\tn (i+1) s2.heap/\∀b∈fp,H' b=none) E s1) E s
 done:∀(X:Cx),X.prog=P->X.w=w->X.K=K->X.calm=true->∀(i:Nat) (OS:List (Addr×Obj)) (s:Shared) (σ:St) (H:Hp) (E:Value->Shared->Prop),ag X OS σ H s->(∀b∈fp,fQ X OS H b)->tn i s.heap->J.stop i H ->
  wpAny (model P w) X.A (pyNext (.ref it)) (λr s1=>r=none/\ag X OS σ H s1) E s
 self:∀(A:Around) (i:Nat) (s:Shared) (Q:Value->Shared->Prop) (E:Value->Shared->Prop),tn i s.heap->Q (.ref it) s->wpAny (model P w) A (pyIter (.ref it)) Q E s
abbrev TI:=St->Hp->(It->Hp->Prop)->Prop
def v5(X:Cx)(OS:List (Addr×Obj))(σ:St)(tg:Expr)(R:It->Hp->Prop)(itv:Value)(s2:Shared):Prop:=
 ∃(it:Addr) (fp:List Addr) (tn:Nat->Heap->Prop) (J:It) (H':Hp),itv=.ref it/\ag X OS σ H' s2/\jK X.prog X.w X.K tg J fp it tn/\tn 0 s2.heap/\(∀b∈fp,fQ X OS H' b)/\R J H'
def PI(X:Cx)(tg iter:Expr)(wi:TI):Prop:=
 ∀(OS:List (Addr×Obj)) (s:Shared) (σ:St) (H:Hp) (R:It->Hp->Prop),ag X OS σ H s->wi σ H R ->
  wpAny (model X.prog X.w) X.A (eval iter X.env) (λv s1=>wpAny (model X.prog X.w) X.A (pyIter v) (v5 X OS σ tg R) X.xe s1) X.xe s
theorem nX{M:Model}{A:Around}{E:Value->Shared->Prop}{s:Shared}{tg:Expr}{it:Addr}{u:Value}{o:Obj}{n:String}{vs:Array Value}{Q:Unit->Shared->Prop}(ho:s.heap.get? it=some o)(hc:o.cls=.type n)(hd:o.data=.fields vs)
    (hn:["enumerate","zip","dict_itemiterator","dict_reverseitemiterator","odict_iterator","itertools.zip_longest","itertools.pairwise"].contains n=false) (hQ:Q () s):wpAny M A (letOwnedTupleGo tg (.ref it) u) Q E s:=by
  unfold letOwnedTupleGo;cases tg<;>first
    |exact aj hQ
    |(cases u<;>first
        |exact aj hQ
        | (refine af (wpAny_load ho ?_)
           rw[hc,hd];show wpAny M A (if (["enumerate","zip","dict_itemiterator","dict_reverseitemiterator","odict_iterator","itertools.zip_longest","itertools.pairwise"].contains n&&vs[0]? == some (rawInt _))=true then _ else _) Q E s;rw[if_neg (by intro h;rw[hn,Bool.false_and]at h;cases h)]
           exact aj hQ))
def wt(K:W.Frag)(a:Addr):It:=
 ⟨λi H=>∃xs x,bx K H a xs/\xs[i]?=some x,λi H x H'=>H'=H/\∀xs,bx K H a xs->xs[i]?=some x,λi H=>∃xs,bx K H a xs/\xs.length<=i⟩
def wq(K:W.Frag)(a:Addr):It:=
 ⟨λi H=>∃xs x,cv K H a xs/\xs[i]?=some x,λi H x H'=>H'=H/\∀xs,cv K H a xs->xs[i]?=some x,λi H=>∃xs,cv K H a xs/\xs.length<=i⟩
def v8(lo:Int)(n:Nat):It:=⟨λi _=>i<n,λi H x H'=>H'=H/\x=.int (lo+i),λi _=>n<=i⟩
theorem Mv{P:Program}{w:World}{K:W.Frag}{tg:Expr}(a it:Addr):jK P w K tg (wt K a) [it] it (λi h=>h.IsListIter it a i) where
 mem:=by simp
 obj:=λi h st b hb=>by
  have e:b=it:=by simpa using hb
  subst e;obtain⟨o,e,c,d⟩:=st;exact⟨o,e,λv z=>by rw[d]at z;cases z⟩
 keep:=λi h h' st k=>st.at λo e=>k it (by simp) o e
 item:=by
  intro X hP hw hK hc i OS s σ H E I hf st hg;subst hP hw hK;obtain⟨xs,x,hq,hx⟩:=hg;obtain⟨its,rv,p,hz⟩:=I.list hq;obtain⟨u,hu,ru⟩:=rv.get hx;obtain⟨f0,f1,f2,f3,f4,f5⟩:=hf it (by simp);refine wpAny_pyNext_list_item st p.isList (x:=u) (by simpa using hu) λh' st' sb=>?_
  have I1:ag X OS σ H {s with heap:=h'}:=I.turned (t':=s.toks) (λb o hb e=>(sb.2 b hb).trans e) f0 f1 f3 f4 f5;obtain⟨o,e,c,d⟩:=id st';exact⟨u,rfl,nX (s:={s with heap:=h'}) e c d (by decide) ⟨x,H,I1,ru,⟨rfl,λys hy=>by rw[I.list_inj hy hq];exact hx⟩,st',λb hb=>(hf b hb).1⟩⟩
 done:=by
  intro X hP hw hK hc i OS s σ H E I hf st hg;subst hP hw hK;obtain⟨xs,hq,hx⟩:=hg;obtain⟨its,rv,p,hz⟩:=I.list hq;obtain⟨f0,f1,f2,f3,f4,f5⟩:=hf it (by simp);have hl:=rv.length;exact wpAny_pyNext_list_end (I.ok.hd hc) st p.isList (by simp;omega) λh' eb=>⟨rfl,I.turned (t':=s.toks) (λb o hb e=>eb b o hb e) f0 f1 f3 f4 f5⟩
 self:=λ_ _ _ _ _ st h=>wpAny_pyIter_listiter st h
theorem Mj{P:Program}{w:World}{K:W.Frag}{tg:Expr}(a it:Addr):jK P w K tg (wq K a) [it] it (λi h=>h.IsTupleIter it a i) where
 mem:=by simp
 obj:=λi h st b hb=>by
  have e:b=it:=by simpa using hb
  subst e;obtain⟨o,e,c,d⟩:=st;exact⟨o,e,λv z=>by rw[d]at z;cases z⟩
 keep:=λi h h' st k=>st.at λo e=>k it (by simp) o e
 item:=by
  intro X hP hw hK hc i OS s σ H E I hf st hg;subst hP hw hK;obtain⟨xs,x,hq,hx⟩:=hg;obtain⟨its,rv,p,hz⟩:=I.tuple hq;obtain⟨u,hu,ru⟩:=rv.get hx;obtain⟨f0,f1,f2,f3,f4,f5⟩:=hf it (by simp);refine wpAny_pyNext_tuple_item st (show s.heap.IsTuple a its.toArray from p) (x:=u) (by simpa using hu) λh' st' sb=>?_
  have I1:ag X OS σ H {s with heap:=h'}:=I.turned (t':=s.toks) (λb o hb e=>(sb.2 b hb).trans e) f0 f1 f3 f4 f5;obtain⟨o,e,c,d⟩:=id st';exact⟨u,rfl,nX (s:={s with heap:=h'}) e c d (by decide) ⟨x,H,I1,ru,⟨rfl,λys hy=>by rw[I.tuple_inj hy hq];exact hx⟩,st',λb hb=>(hf b hb).1⟩⟩
 done:=by
  intro X hP hw hK hc i OS s σ H E I hf st hg;subst hP hw hK;obtain⟨xs,hq,hx⟩:=hg;obtain⟨its,rv,p,hz⟩:=I.tuple hq;obtain⟨f0,f1,f2,f3,f4,f5⟩:=hf it (by simp);have hl:=rv.length;exact wpAny_pyNext_tuple_end (I.ok.hd hc) st (show s.heap.IsTuple a its.toArray from p) (by simp;omega) λh' eb=>⟨rfl,I.turned (t':=s.toks) (λb o hb e=>eb b o hb e) f0 f1 f3 f4 f5⟩
 self:=λ_ _ _ _ _ st h=>wpAny_pyIter_tupleiter st h
theorem Mi{P:Program}{w:World}{K:W.Frag}{tg:Expr}(it:Addr)(lo:Int)(n:Nat):jK P w K tg (v8 lo n) [it] it (λi h=>IsRangeIter h it (lo+(i:Nat)*1) ((n:Int)-(i:Nat)) 1) where
 mem:=by simp
 obj:=λi h st b hb=>by
  have e:b=it:=by simpa using hb
  subst e
  exact⟨_,st,λv z=>by
   have z':Data.fields _=Data.cell v:=z
   cases z'⟩
 keep:=λi h h' st k=>k it (by simp) _ st
 item:=by
  intro X hP hw hK hc i OS s σ H E I hf st hg;subst hP hw hK;obtain⟨f0,f1,f2,f3,f4,f5⟩:=hf it (by simp);have W:=Walks.range (prog:=X.prog) (w:=X.w) (I.ok.hd hc) it lo 1 n;refine W.item i s _ _ hg st λv h' tk hv st' kk=>?_
  obtain⟨t,rfl⟩:=hv;have I1:ag X OS σ H {s with heap:=h',toks:=tk}:=I.turned (λb o hb e=>kk b o (by simpa using hb) e) f0 f1 f3 f4 f5;refine⟨_,rfl,nX (s:={s with heap:=h',toks:=tk}) (n:="range_iterator") st' rfl rfl (by decide) ⟨.int (lo+i),H,I1,⟨t,?_⟩,⟨rfl,rfl⟩,st',λb hb=>(hf b hb).1⟩⟩;rw[Int.mul_one]
 done:=by
  intro X hP hw hK hc i OS s σ H E I hf st hg;subst hP hw hK;obtain⟨f0,f1,f2,f3,f4,f5⟩:=hf it (by simp);exact wpAny_pyNext_range_end (I.ok.hd hc) st (by have:n<=i:=hg;omega) λh' eb=>⟨rfl,I.turned (t':=s.toks) (λb o hb e=>eb b o hb e) f0 f1 f3 f4 f5⟩
 self:=λ_ _ _ _ _ st h=>wpAny_pyIter_rangeiter st h
section
variable{X:Cx}{tg:Expr}
theorem LN{OS:List (Addr×Obj)}{σ:St}{H:Hp}{s:Shared}{R:It->Hp->Prop}{E:Value->Shared->Prop}{lo hi:Int}{t u v:Tok}{tk:Nat}(I:ag X OS σ H s)(h1:-(2 ^ 62)<=lo)(h2:lo<2 ^ 62)(h3:-(2 ^ 62)<=hi)(h4:hi<2 ^ 62)
  (q:R (v8 lo (hi-lo).toNat) H):wpAny (model X.prog X.w) X.A (pyIter (.ref s.heap.objs.size)) (v5 X OS σ tg R) E {s with heap:=s.heap.push {cls:=.type "range",data:=.fields #[.int lo t,.int hi u,.int 1 v]},toks:=tk}:=by
 refine wpAny_pyIter_range (IsRange.new ..) (small_one h1 h2 h3 h4) ?_;have I1:ag X OS σ H {s with heap:=s.heap.push {cls:=.type "range",data:=.fields #[.int lo t,.int hi u,.int 1 v]},toks:=tk}:=I.kept λb o e=>bh _ e
 refine⟨(s.heap.push {cls:=.type "range",data:=.fields #[.int lo t,.int hi u,.int 1 v]}).objs.size,[(s.heap.push {cls:=.type "range",data:=.fields #[.int lo t,.int hi u,.int 1 v]}).objs.size],_,_,H,rfl,
  I1.kept (t':=tk) λb o e=>bh _ e,Mi _ lo (hi-lo).toNat,?_,λb hb=>?_,q⟩
 ·have e1:lo+((0:Nat):Int)*1=lo:=by simp
  have e2:(((hi-lo).toNat:Nat):Int)-((0:Nat):Int)=Builtin.Range.rangeSize lo hi 1:=by rw[rangeSize_one];split<;>omega
  show IsRangeIter _ _ (lo+((0:Nat):Int)*1) ((((hi-lo).toNat:Nat):Int)-((0:Nat):Int)) 1;rw[e1,e2];exact ck _ rfl
 ·have e:b=(s.heap.push {cls:=.type "range",data:=.fields #[.int lo t,.int hi u,.int 1 v]}).objs.size:=by simpa using hb
  subst e;exact I1.fpOk (bg _) (I1.hok.fresh (bg _))
def FL(ta:TA):TI:=λσ H R=>ta σ H λvs H1=>∃j:Int,vs=[.int j] /\ -(2 ^ 62)<=j/\j<2 ^ 62/\R (v8 0 j.toNat) H1
theorem Le{a:Expr}{ta:TA}{p pos:Pos}(hg:Gl X "range")(hm:X.mg "range"=none)(ha:PA X [a] ta)(hs:starEach [a] X.env=[(false,eval a X.env)]:=by rfl):PI X tg (.Call (.Name "range" p) [a] [] pos) (FL ta):=by
 intro OS s σ H R I h;refine Call_ (nR I hg hm boot_range (PyProof.Rows.callWith_type1 (bq (ha pos OS s σ H _ I h) λus s1 ⟨vs,H1,I1,r1,q1⟩=>?_) hs rfl));obtain⟨j,e,q1,q2,q⟩:=q1;subst e;cases r1 with
 |cons r rr=>
  cases rr;obtain⟨t,rfl⟩:=r;exact call_range_1 (LN I1 (by omega) (by omega) q1 q2 (by simpa using q))
def FU(wi:TI)(g:TG)(tb:TS):TS:=λD σ H=>wi σ H λJ H1=>∃W:Nat->Nat->St->Hp->Prop,(∃m,W 0 m σ H1)/\∀i m σ H,W i m σ H ->
 (J.stop i H/\D.nx σ H)\/(J.go i H/\∃N:St->Hp->Prop,(∀σ' H',N σ' H'->∃m',m'<m/\W (i+1) m' σ' H')/\∀x H',J.yld i H x H'->g x σ H' λσ2 H2=>tb {D with nx:=N,ct:=N,bk:=D.nx} σ2 H2)
def pW(fp:List Addr)(h:Heap):List (Addr×Obj):=fp.filterMap λb=>(h.get? b).map λo=>(b,o)
theorem rA{fp:List Addr}{h:Heap}{b:Addr}{o:Obj}(hb:b∈fp)(e:h.get? b=some o):(b,o)∈pW fp h:=qt1_.mpr ⟨b,hb,by rw[e];rfl⟩
theorem La{fp:List Addr}{h:Heap}{p:Addr×Obj}(hp:p∈pW fp h):p.1∈fp/\h.get? p.1=some p.2:=by
 obtain⟨b,hb,e⟩:=qt1_.mp hp;cases q:h.get? b with
 |none=>rw[q]at e;cases e
 |some o=>
  rw[q]at e;have e':(b,o)=p:=Option.some.inj e;subst e';exact⟨hb,q⟩
theorem ag.pinned{OS:List (Addr×Obj)}{σ:St}{H:Hp}{s:Shared}{fp:List Addr}(I:ag X OS σ H s)(hf:∀b∈fp,fQ X OS H b)(ho:∀b∈fp,∃o,s.heap.get? b=some o/\∀v,o.data≠.cell v):ag X (OS++pW fp s.heap) σ H s:=
 I.pins_of λp hp=>(qj_.mp hp).elim (λz=>I.pin p (de _ z)) λz=>by
  obtain⟨hb,e⟩:=La z;obtain⟨f0,f1,f2,_⟩:=hf p.1 hb;obtain⟨o,e',d⟩:=ho p.1 hb;rw[e]at e';cases e';exact⟨e,f0,f1,f2,d⟩
theorem ag.unpinned{OS pl:List (Addr×Obj)}{σ:St}{H:Hp}{s:Shared}(I:ag X (OS++pl) σ H s):ag X OS σ H s:=I.pins_of λp hp=>I.pin p (de _ (gg _ hp))
theorem HB{iter:Expr}{body:List Stmt}{wi:TI}{g:TG}{tb:TS}{pos:Pos}(hp:PassesOwn (model X.prog X.w) X.A X.env X.xe)(hc:X.calm=true)(hi:PI X tg iter wi)(hg:PG X tg g)(hb:ik X body tb)
  (hs:∀x,foldedSetIterable iter X.env x=pure x:=by intro _;rfl):PS X (.For tg iter body [] pos) (FU wi g tb):=by
 intro OS s σ H D I h;refine wpAny_For (bq (hi OS s σ H _ I h) λv s1 h1=>bq h1 λitv s2 h2=>?_) hs;obtain⟨it,fp,tn,J,H2,e,I2,T,st2,f2,W,⟨m0,w0⟩,turn⟩:=h2;subst e
 -- what stays true of the iterator's objects through the loop
 have stat:∀{H':Hp},(∀b∈fp,H' b=none)->∀b∈fp,fQ X OS H' b:=λhn b hb=>⟨hn b hb,(f2 b hb).2⟩
 refine codeAny_forLoop_any (λn s'=>∃i σ' H',ag X OS σ' H' s'/\tn i s'.heap/\(∀b∈fp,H' b=none)/\W i n σ' H') ?_ m0 ⟨0,σ,H2,I2,st2,λb hb=>(f2 b hb).1,w0⟩;rintro n s3 ⟨i,σ3,H3,I3,st3,fr3,w3⟩;rcases turn i n σ3 H3 w3 with⟨stop,qn⟩|⟨go,N,hN,step⟩
 ·refine wpAny_passesOwn hp (bq (T.done X rfl rfl rfl hc i OS s3 σ3 H3 X.xe I3 (stat fr3) st3 stop) λr s4 ⟨hr,I4⟩=>?_);subst hr;exact wpAny_execs_nil ⟨σ3,H3,I4,qn⟩
 ·refine wpAny_passesOwn hp (bq (T.item X rfl rfl rfl hc i OS s3 σ3 H3 X.xe I3 (stat fr3) st3 go) λr s4 ⟨u,hr,h4⟩=>?_);subst hr;refine wpAny_passesOwn hp (bq h4 λ_ s5 ⟨x,H5,I5,r5,y5,st5,fr5⟩=>?_);have I5':=I5.pinned (stat fr5) (T.obj _ _ st5);refine wpAny_passesOwn hp (bq (hg _ s5 σ3 H5 x u _ I5' r5 (step x H5 y5)) λ_ s6 ⟨σ6,H6,I6,q6⟩=>?_);refine wpAny_passesOwn hp (bq (hb _ s6 σ6 H6 _ I6 q6) λf s7 q7=>?_);have again:∀{σ7:St} {H7:Hp},ag X (OS++pW fp s5.heap) σ7 H7 s7->N σ7 H7->∃m,m<n/\∃i σ' H',ag X OS σ' H' s7/\tn i s7.heap/\(∀b∈fp,H' b=none)/\W i m σ' H':=λ{σ7 H7} I7 n7=>by
   obtain⟨m',hm,w7⟩:=hN σ7 H7 n7;refine⟨m',hm,i+1,σ7,H7,I7.unpinned,T.keep _ _ _ st5 λb hb o e=>(I7.pin (b,o) (de _ (de _ (rA hb e)))).1,λb hb=>?_,w7⟩;obtain⟨o,e,d⟩:=T.obj _ _ st5 b hb;exact(I7.pin (b,o) (de _ (de _ (rA hb e)))).2.1
  cases f with
  |next=>obtain⟨σ7,H7,I7,n7⟩:=q7;exact again I7 n7
  |cont=>obtain⟨σ7,H7,I7,n7⟩:=q7;exact again I7 n7
  |brk=>obtain⟨σ7,H7,I7,q7⟩:=q7;exact⟨σ7,H7,I7.unpinned,q7⟩
  |ret v=>obtain⟨x7,σ7,H7,I7,r7,q7⟩:=q7;exact⟨x7,σ7,H7,I7.unpinned,r7,q7⟩
end
abbrev R2:=V->V->Hp->VK->Prop
def cn(X:Cx)(f:Value->Value->Sem Value)(r:R2):Prop:=
 ∀(OS:List (Addr×Obj)) (s:Shared) (σ:St) (H:Hp) (x y:V) (v u:Value) (Q:VK),ag X OS σ H s->ah x v->ah y u->r x y H Q ->
  wpAny (model X.prog X.w) X.A (f v u) (EP X OS σ Q) X.xe s
def vt(X:Cx)(f:Value->Sem Value)(r:V->Hp->VK->Prop):Prop:=
 ∀(OS:List (Addr×Obj)) (s:Shared) (σ:St) (H:Hp) (x:V) (v:Value) (Q:VK),ag X OS σ H s->ah x v->r x H Q ->
  wpAny (model X.prog X.w) X.A (f v) (EP X OS σ Q) X.xe s
def aq(X:Cx)(f:Value)(r:List V->Hp->VK->Prop):Prop:=
 ∀(OS:List (Addr×Obj)) (s:Shared) (σ:St) (H:Hp) (xs:List V) (us:List Value) (Q:VK),ag X OS σ H s->ai xs us->r xs H Q ->
  wpAny (model X.prog X.w) X.A (call f us) (EP X OS σ Q) X.xe s
def t4(r:R2)(ta tb:TE):TE:=λσ H Q=>ta σ H λx H1=>tb σ H1 λy H2=>r x y H2 Q
def NT(r:V->Hp->VK->Prop)(ta:TE):TE:=λσ H Q=>ta σ H λx H1=>r x H1 Q
def rI(C:Int->Int->Prop)(g:Int->Int->V):R2:=λx y H Q=>∃i j,x=.int i/\y=.int j/\C i j/\Q (g i j) H
def qw(g:Int->Int->V):R2:=λx y H Q=>∃i j,x=.int i/\y=.int j/\Q (g i j) H
def rU(g:Int->V):V->Hp->VK->Prop:=λx H Q=>∃i,x=.int i/\Q (g i) H
section
variable{X:Cx}{a b c:Expr}{ta tb tc:TE}{pos:Pos}
theorem zQ(ha:PE X a ta)(hb:PE X b tb){OS:List (Addr×Obj)}{s:Shared}{σ:St}{H:Hp}{R:V->V->Hp->Prop}(I:ag X OS σ H s)
  (h:ta σ H λx H1=>tb σ H1 λy H2=>R x y H2) {Q:Value->Shared->Prop} {f:Value->Value->Sem Value}
  (hf:∀v u s2 x y H2,ag X OS σ H2 s2->ah x v->ah y u->R x y H2->wpAny (model X.prog X.w) X.A (f v u) Q X.xe s2):
  wpAny (model X.prog X.w) X.A (eval a X.env) (λv s₁=>wpAny (model X.prog X.w) X.A (eval b X.env) (λu s₂=>wpAny (model X.prog X.w) X.A (f v u) Q X.xe s₂) X.xe s₁) X.xe s:=by
 refine bq (ha OS s σ H _ I h) λv s1 ⟨x,H1,I1,r1,q1⟩=>?_
 refine bq (hb OS s1 σ H1 _ I1 q1) λu s2 ⟨y,H2,I2,r2,q2⟩=>?_
 exact hf v u s2 x y H2 I2 r1 r2 q2
theorem cN{op:Operator}{r:R2}(ho:cn X (binaryOp op) r)(ha:PE X a ta)(hb:PE X b tb):PE X (.BinOp a op b pos) (t4 r ta tb):=by
 intro OS s σ H Q I h;exact wpAny_BinOp (zQ ha hb I h λv u s2 x y H2 I2 rx ry q=>ho OS s2 σ H2 x y v u Q I2 rx ry q)
theorem zo{op:UnaryOp}{r:V->Hp->VK->Prop}(ho:vt X (unaryOp op) r)(ha:PE X a ta):PE X (.UnaryOp op a pos) (NT r ta):=by
 intro OS s σ H Q I h;exact UnaryOp_ (bq (ha OS s σ H _ I h) λv s1 ⟨x,H1,I1,r1,q1⟩=>ho OS s1 σ H1 x v Q I1 r1 q1)
theorem tj{f:Value->Value->Sem Value}{C:Int->Int->Prop}{g:Int->Int->Int}
  (rule:∀(i j:Int) (t u:Tok) (s:Shared) (Q:Value->Shared->Prop) (E:Value->Shared->Prop),C i j->Q (.int (g i j) s.toks) {s with toks:=s.toks+1}->wpAny (model X.prog X.w) X.A (f (.int i t) (.int j u)) Q E s):
  cn X f (rI C λi j=>.int (g i j)):=by
 intro OS s σ H x y v u Q I rx ry h;obtain⟨i,j,rfl,rfl,hc,q⟩:=h;obtain⟨t,rfl⟩:=rx;obtain⟨t',rfl⟩:=ry;exact rule i j t t' s _ _ hc ⟨.int (g i j),H,I.tok _,⟨_,rfl⟩,q⟩
theorem xi{f:Value->Value->Sem Value}{g:Int->Int->Int}
  (rule:∀(i j:Int) (t u:Tok) (s:Shared) (Q:Value->Shared->Prop) (E:Value->Shared->Prop),Q (.int (g i j) s.toks) {s with toks:=s.toks+1}->wpAny (model X.prog X.w) X.A (f (.int i t) (.int j u)) Q E s):
  cn X f (qw λi j=>.int (g i j)):=by
 intro OS s σ H x y v u Q I rx ry h;obtain⟨i,j,rfl,rfl,q⟩:=h;obtain⟨t,rfl⟩:=rx;obtain⟨t',rfl⟩:=ry;exact rule i j t t' s _ _ ⟨.int (g i j),H,I.tok _,⟨_,rfl⟩,q⟩
theorem zN{f:Value->Value->Sem Value}{g:Int->Int->Bool}
  (rule:∀(i j:Int) (t u:Tok) (s:Shared) (Q:Value->Shared->Prop) (E:Value->Shared->Prop),Q (.bool (g i j)) s->wpAny (model X.prog X.w) X.A (f (.int i t) (.int j u)) Q E s):
  cn X f (qw λi j=>.bl (g i j)):=by
 intro OS s σ H x y v u Q I rx ry h;obtain⟨i,j,rfl,rfl,q⟩:=h;obtain⟨t,rfl⟩:=rx;obtain⟨t',rfl⟩:=ry;exact rule i j t t' s _ _ ⟨.bl (g i j),H,I,rfl,q⟩
def DI(i j:Int):Prop:=0<j/\j<1073741824
def w4(i j:Int):Prop:=0<=j/\j<=1000000/\i.natAbs<2 ^ 64
def qt(i j:Int):Prop:=(-(2 ^ 64)<i/\i<2 ^ 64)\/(-(2 ^ 64)<j/\j<2 ^ 64)
theorem qt.ok{i j:Int}(h:qt i j):IntMulOk i j:=by
 rcases h with⟨h1,h2⟩|⟨h1,h2⟩
 ·exact .of_left (intBits_le_64 h1 h2)
 ·exact .of_right (intBits_le_64 h1 h2)
theorem op_add:cn X (binaryOp .Add) (qw λi j=>.int (i+j)):=xi λ_ _ _ _ _ _ _ q=>add_int q
theorem Gm:cn X (binaryOp .Sub) (qw λi j=>.int (i-j)):=xi λ_ _ _ _ _ _ _ q=>sub_int q
theorem op_mul:cn X (binaryOp .Mult) (rI qt λi j=>.int (i*j)):=tj λ_ _ _ _ _ _ _ hc q=>mul_int q hc.ok
theorem Al:cn X (binaryOp .FloorDiv) (rI DI λi j=>.int (i / j)):=tj λi j _ _ _ _ _ hc q=>by
 have h1:(0:Int)<j:=hc.1;have h2:j<1073741824:=hc.2;exact floordiv_int (by omega) (by rw[uo i (by omega)];exact q) (.inl (PyProof.noPylong_small (by omega)))
theorem jQ:cn X (binaryOp .Mod) (rI (λ_ j=>0<j) λi j=>.int (i % j)):=tj λi j _ _ _ _ _ hc q=>by
 have h1:(0:Int)<j:=hc;exact mod_int' (by omega) (by rw[Int.fmod_eq_emod_of_nonneg i (by omega)];exact q)
theorem Js:cn X (binaryOp .Mod) (rI (λ_ j=>j≠0) λi j=>.int (i.fmod j)):=tj λ_ _ _ _ _ _ _ hc q=>mod_int' hc q
theorem yl:cn X (binaryOp .Pow) (rI w4 λi j=>.int (i ^ j.toNat)):=tj λ_ _ _ _ _ _ _ hc q=>pow_int_small hc.1 hc.2.1 hc.2.2 q
theorem NL{f:Value->Sem Value}{g:Int->Int}
  (rule:∀(i:Int) (t:Tok) (s:Shared) (Q:Value->Shared->Prop) (E:Value->Shared->Prop),Q (.int (g i) s.toks) {s with toks:=s.toks+1}->wpAny (model X.prog X.w) X.A (f (.int i t)) Q E s):
  vt X f (rU λi=>.int (g i)):=by
 intro OS s σ H x v Q I rx h;obtain⟨i,rfl,q⟩:=h;obtain⟨t,rfl⟩:=rx;exact rule i t s _ _ ⟨.int (g i),H,I.tok _,⟨_,rfl⟩,q⟩
theorem AQ:vt X (unaryOp .USub) (rU λi=>.int (-i)):=NL λ_ _ _ _ _ q=>neg_int q
theorem tF{OS:List (Addr×Obj)}{σ:St}{H:Hp}{s:Shared}{Q:VK}{k k':Bool}(I:ag X OS σ H s)(q:Q (.bl k) H)(e:k=k'):EP X OS σ Q (.bool k') s:=by
 subst e;exact⟨.bl k,H,I,rfl,q⟩
theorem op_lt:cn X (compareOp .Lt) (qw λi j=>.bl (decide (i<j))):=zN λ_ _ _ _ _ _ _ q=>lt_int q
theorem EV:cn X (compareOp .LtE) (qw λi j=>.bl (decide (i<=j))):=zN λ_ _ _ _ _ _ _ q=>le_int q
theorem EU:cn X (compareOp .Gt) (qw λi j=>.bl (decide (j<i))):=zN λ_ _ _ _ _ _ _ q=>gt_int q
theorem Lc:cn X (compareOp .Lt) (λx y H Q=>∃i j,x=.str i/\y=.str j/\Q (.bl (decide (i.cps.toList<j.cps.toList))) H):=by
 intro OS s σ H x y v u Q I rx ry h;obtain⟨i,j,rfl,rfl,q⟩:=h;obtain⟨t,rfl⟩:=rx;obtain⟨t',rfl⟩:=ry;exact lt_str (tF I q rfl)
theorem op_in_str:cn X (compareOp .In) (λx y H Q=>∃i j,x=.str i/\y=.str j/\Q (.bl (!(Builtin.Str.occurrences j i 0 j.length 1).isEmpty)) H):=by
 intro OS s σ H x y v u Q I rx ry h;obtain⟨i,j,rfl,rfl,q⟩:=h;obtain⟨t,rfl⟩:=rx;obtain⟨t',rfl⟩:=ry;exact in_str (tF I q rfl)
theorem op_isN:cn X (compareOp .Is) (λx y H Q=>y=.non/\Q (.bl (decide (x=.non))) H):=by
 intro OS s σ H x y v u Q I rx ry h;obtain⟨rfl,q⟩:=h;cases ry;refine is_none_gen (tF I q ?_);cases x<;>first
  |(cases rx;rfl)
  |(obtain⟨t,rfl⟩:=rx;rfl)
theorem op_notN:cn X (compareOp .IsNot) (λx y H Q=>y=.non/\Q (.bl (!decide (x=.non))) H):=by
 intro OS s σ H x y v u Q I rx ry h;obtain⟨rfl,q⟩:=h;cases ry;refine isnot_none_gen (tF I q ?_);cases x<;>first
  |(cases rx;rfl)
  |(obtain⟨t,rfl⟩:=rx;rfl)
theorem cn.or{f:Value->Value->Sem Value}{r r':R2}(h:cn X f r)(h':cn X f r'):cn X f (λx y H Q=>r x y H Q\/r' x y H Q):=by
 intro OS s σ H x y v u Q I rx ry q;rcases q with q|q
 ·exact h OS s σ H x y v u Q I rx ry q
 ·exact h' OS s σ H x y v u Q I rx ry q
theorem nP(b:Expr){op:CmpOp}(h:op≠.In:=by decide)(h2:op≠.NotIn:=by decide):behindInMarks op b=false:=by
 have e1:(op==CmpOp.In)=false:=by cases op<;>first|rfl|exact absurd rfl h
 have e2:(op==CmpOp.NotIn)=false:=by cases op<;>first|rfl|exact absurd rfl h2
 cases b<;>simp[behindInMarks,e1,e2]
theorem Iw{op:CmpOp}{r:R2}(ho:cn X (compareOp op) r)(ha:PE X a ta)(hb:PE X b tb)(hm:behindInMarks op b=false):PE X (.Compare a [op] [b] pos) (t4 r ta tb):=by
 intro OS s σ H Q I h;exact wpAny_Compare1 (zQ ha hb I h λv u s2 x y H2 I2 rx ry q=>ho OS s2 σ H2 x y v u Q I2 rx ry q) hm
def xw(t:TE):TT:=λσ H Q=>t σ H λx H'=>∃k,x=.bl k/\Q k H'
theorem xD{op:CmpOp}{r:R2}(ho:cn X (compareOp op) r)(ha:PE X a ta)(hb:PE X b tb)(hm:behindInMarks op b=false):PT X (.Compare a [op] [b] pos) (xw (t4 r ta tb)):=by
 intro OS s σ H Q I h
 refine wpAny_isTrue_Compare1 (bq (ha OS s σ H _ I h) λv s1 ⟨x,H1,I1,r1,q1⟩=>bq (hb OS s1 σ H1 _ I1 q1) λu s2 ⟨y,H2,I2,r2,q2⟩=>
  bq (ho OS s2 σ H2 x y v u _ I2 r1 r2 q2) λc s3 ⟨z,H3,I3,r3,k,e,q3⟩=>?_) hm
 subst e;cases r3;exact wpAny_truthy_bool ⟨H3,I3,q3⟩
theorem nQ:(sizeLine:Nat)<2 ^ 63:=by rw[sizeLine_eq];decide
theorem op_add_str:cn X (binaryOp .Add) (λx y H Q=>∃i j,x=.str i/\y=.str j/\i.length+j.length<=sizeLine/\Q (.str (i++j)) H):=by
 intro OS s σ H x y v u Q I rx ry h;obtain⟨i,j,rfl,rfl,hz,q⟩:=h;obtain⟨t,rfl⟩:=rx;obtain⟨t',rfl⟩:=ry;exact add_str (λt' tk=>⟨.str (i++j),H,I.tok _,⟨_,rfl⟩,q⟩) hz
theorem cI{x:V}{us:List Value}(r:ai [x] us):∃u,us=[u]/\ah x u:=by
 cases r with
 |cons r1 r2=>cases r2;exact⟨_,rfl,r1⟩
theorem jS{x y:V}{us:List Value}(r:ai [x,y] us):∃u w',us=[u,w']/\ah x u/\ah y w':=by
 cases r with
 |cons r1 r2=>
  cases r2 with
  |cons r3 r4=>cases r4;exact⟨_,_,rfl,r1,r3⟩
theorem Km:aq X (.builtin "abs") (λxs H Q=>∃i,xs=[.int i]/\Q (.int (if i<0 then -i else i)) H):=by
 intro OS s σ H xs us Q I r h;obtain⟨i,rfl,q⟩:=h;obtain⟨u,rfl,t,rfl⟩:=cI r;exact call_abs_int λu tk=>⟨.int (if i<0 then -i else i),H,I.tok _,⟨_,rfl⟩,q⟩
theorem LD(hc:X.calm=true):aq X (.builtin "max") (λxs H Q=>∃i j,xs=[.int i,.int j]/\Q (.int (if j > i then j else i)) H):=by
 intro OS s σ H xs us Q I r h;obtain⟨i,j,rfl,q⟩:=h;obtain⟨u,w',rfl,⟨t,rfl⟩,⟨t',rfl⟩⟩:=jS r;refine max_two_ints (I.ok.hd hc) λh' tk k=>⟨_,H,I.kept k,?_,q⟩
 by_cases hj:j > i
 ·rw[if_pos hj,if_pos hj];exact⟨_,rfl⟩
 ·rw[if_neg hj,if_neg hj];exact⟨_,rfl⟩
theorem LG(hc:X.calm=true):aq X (.builtin "min") (λxs H Q=>∃i j,xs=[.int i,.int j]/\Q (.int (if j<i then j else i)) H):=by
 intro OS s σ H xs us Q I r h;obtain⟨i,j,rfl,q⟩:=h;obtain⟨u,w',rfl,⟨t,rfl⟩,⟨t',rfl⟩⟩:=jS r;refine min_two_ints (I.ok.hd hc) λh' tk k=>⟨_,H,I.kept k,?_,q⟩
 by_cases hj:j<i
 ·rw[if_pos hj,if_pos hj];exact⟨_,rfl⟩
 ·rw[if_neg hj,if_neg hj];exact⟨_,rfl⟩
theorem LA:aq X (.type "int") (λxs H Q=>(∃i,xs=[.int i]/\Q (.int i) H)\/∃k,xs=[.bl k]/\Q (.int (if k then 1 else 0)) H):=by
 intro OS s σ H xs us Q I r h;rcases h with⟨i,rfl,q⟩|⟨k,rfl,q⟩
 ·obtain⟨u,rfl,t,rfl⟩:=cI r;exact call_int_int ⟨.int i,H,I,⟨_,rfl⟩,q⟩
 ·obtain⟨u,rfl,r1⟩:=cI r;cases r1;exact call_int_bool ⟨.int (if k then 1 else 0),H,I.tok _,⟨_,rfl⟩,q⟩
end
theorem g9.some_of{v:V}{o:Option Value}(r:g9 (some v) o):∃u,o=some u/\ah v u:=by
 cases o with
 |none=>exact(show False from r).elim
 |some u=>exact⟨u,rfl,r⟩
structure bt (k:Nat) (A:Around):Prop where
 hd:A.handled=none
 dp:A.depth+3*k+5<recursionLimit
 un:A.units+16*k+200<cLine
 gd:A.guards=some []
theorem bt.mono{j k:Nat}{A:Around}(r:bt k A)(h:j<=k):bt j A:=⟨r.hd,by have:=r.dp;omega,by have:=r.un;omega,r.gd⟩
theorem bt.deeper{k:Nat}{A:Around}(r:bt (k+1) A)(env:Env):bt k (A.deeper env):=
 ⟨r.hd,by have:=r.dp;show A.depth+1+3*k+5<_;omega,by have:=r.un;show A.units+3+16*k+200<_;omega,r.gd⟩
theorem bt.depth{k:Nat}{A:Around}(r:bt k A):A.depth<recursionLimit:=by have:=r.dp;omega
theorem bt.units{k:Nat}{A:Around}(r:bt k A):A.units+64<cLine:=by have:=r.un;omega
def tZ:TA:=λ_ H Q=>Q [] H
def yD(ta:TE)(tr:TA):TA:=λσ H Q=>ta σ H λx H1=>tr σ H1 λxs H2=>Q (x::xs) H2
section
variable{X:Cx}{e:Expr}{es:List Expr}{te:TE}{t:TA}{pos:Pos}
theorem cW:PA X [] tZ:=λ_ _ _ _ H Q I h=>Calls.spliced_nil ⟨[],H,I,.nil,h⟩
theorem Iu(ha:PE X e te)(hr:PA X es t)(hs:starEach (e::es) X.env=(false,eval e X.env)::starEach es X.env:=by rfl):PA X (e::es) (yD te t):=by
 intro pos OS s σ H Q I h;rw[hs];show wpAny _ _ (spliced ((false,eval e X.env)::backTo pos (starEach es X.env))) _ _ s;refine Calls.spliced_cons (bq (ha OS s σ H _ I h) λu s1 ⟨x,H1,I1,r1,q1⟩=>?_);exact bq (hr pos OS s1 σ H1 _ I1 q1) λus s2 ⟨xs,H2,I2,r2,q2⟩=>⟨x::xs,H2,I2,.cons r1 r2,q2⟩
def Fp(t:TA):TE:=λσ H Q=>t σ H λxs H1=>xs.length<=sizeLine/\∀p,H1 p=none->Q (.ref p) (au H1 p (.tup xs))
def yw(t:TA):TE:=λσ H Q=>t σ H λxs H1=>xs.length<=sizeLine/\∀p,H1 p=none->Q (.ref p) (au H1 p (.lst xs))
theorem Ih{x1}(h:PA X es t):PE X (.Tuple es x1 pos) (Fp t):=by
 intro OS s σ H Q I hq;refine wpAny_Tuple_spliced (bq (h pos OS s σ H _ I hq) λus s1 ⟨xs,H1,I1,r,z,q⟩=>⟨by rw[<-r.length];exact z,?_⟩);have hf:H1 s1.heap.objs.size=none:=I1.hok.fresh (bg _);refine⟨.ref s1.heap.objs.size,au H1 s1.heap.objs.size (.tup xs),I1.laid (t':=s1.toks) (λb u e=>bh _ e) (bg _) ?_,rfl,q _ hf⟩;exact⟨z,us,r,⟨_,ck _ rfl,rfl,_,rfl⟩⟩
theorem A8(h:PA X es t):PE X (.List es pos) (yw t):=by
 intro OS s σ H Q I hq;refine wpAny_List_spliced (bq (h pos OS s σ H _ I hq) λus s1 ⟨xs,H1,I1,r,z,q⟩=>⟨by rw[<-r.length];exact z,?_⟩);have hf:H1 s1.heap.objs.size=none:=I1.hok.fresh (bg _);refine⟨.ref s1.heap.objs.size,au H1 s1.heap.objs.size (.lst xs),I1.laid (t':=s1.toks) (λb u e=>bh _ e) (bg _) ?_,rfl,q _ hf⟩;exact⟨z,us,0,r,ck _ rfl⟩
end
abbrev Sp:=List V->Hp->VK->XK->Prop
abbrev oz:=List Env->Hp->Shared->XK->Value->Shared->Prop
structure uU (P:Program) (w:World) (K:W.Frag) (mg:Str->Option Value) (base:Heap) (A:Around) (outer:List Env) (s:Shared) (H:Hp):Prop where
 frames:A.frames=some outer
 mod:Mod K mg base
 bs:∀b o,base.get? b=some o->s.heap.get? b=some o/\H b=none
 bsz:base.objs.size<=s.heap.objs.size
 funs:s.heap.FunFrames base outer
 frf:∀b∈oq outer,H b=none
 hok:fj P w H s.heap
 bare:AllBare s.gens
def CE(outer:List Env)(P:Program)(w:World)(H:Hp)(s:Shared)(Q:VK)(u:Value)(s':Shared):Prop:=
 ∃v H',s'.os=s.os/\AllBare s'.gens/\Un (oq outer) [] H H' s.heap s'.heap/\fj P w H' s'.heap/\ah v u/\Q v H'
def CR(CX:oz)(outer:List Env)(P:Program)(w:World)(H:Hp)(s:Shared)(Q:VK)(E:XK)(r:Result)(s':Shared):Prop:=
 match r with
 |.ok (.ret u)=>CE outer P w H s Q u s'
 |.ok _=>False
 |.error e=>CX outer H s E e s'
structure f_ (P:Program) (w:World) (K:W.Frag) (mg:Str->Option Value) (base:Heap) (CX:oz) (k:Nat) (f:Addr) (fd:FuncData) (ps:List Str) (sp:Sp):Prop where
 len:∀vs H Q E,sp vs H Q E->vs.length=ps.length
 run:∀(A:Around) (outer:List Env) (s:Shared) (H:Hp) (args:Args) (us:List Value) (vs:List V) (Q:VK) (E:XK),bt k A->uU P w K mg base A outer s H->BindsTo s fd args (ps.zip us)->ai vs us->sp vs H Q E ->
  codeAny (model P w) A (.call (.ref f) args) (CR CX outer P w H s Q E) s
theorem f_.imp{P:Program}{w:World}{K:W.Frag}{mg:Str->Option Value}{base:Heap}{CX:oz}{k:Nat}{f:Addr}{fd:FuncData}{ps:List Str}{sp sp':Sp}(F:f_ P w K mg base CX k f fd ps sp)
  (h:∀vs H Q E,sp' vs H Q E->sp vs H Q E):f_ P w K mg base CX k f fd ps sp':=
 ⟨λvs H Q E q=>F.len vs H Q E (h _ _ _ _ q),λA outer s H args us vs Q E hr he hb hv hs=>F.run A outer s H args us vs Q E hr he hb hv (h _ _ _ _ hs)⟩
section
variable{X:Cx}{OS:List (Addr×Obj)}{σ:St}{H:Hp}{s s':Shared}
theorem ag.env0(I:ag X OS σ H s):uU X.prog X.w X.K X.mg X.base X.A X.stack s H:=
 ⟨I.ok.frames,I.ok.mod,I.bs,cx I.ok.bsz I.sz,I.stack,I.stkFree,I.hok,I.bare⟩
theorem ag.after{Q:VK}{u:Value}(I:ag X OS σ H s)(h:CE X.stack X.prog X.w H s Q u s'):EP X OS σ Q u s':=by
 obtain⟨v,H',os,bare,un,hok,r,q⟩:=h;obtain⟨hh,g,d,t,os'⟩:=s';obtain rfl:os'=s.os:=os;exact⟨v,H',I.call (h':=hh) (g':=g) (d':=d) (t':=t) (ch:=[]) un hok bare (λb z=>absurd z (by simp)),r,q⟩
end
def qA(sp:Sp)(dvs:List V)(E:XK)(t:TA):TE:=λσ H Q=>t σ H λvs H1=>sp (vs++dvs) H1 Q E
def il(K:W.Frag)(fd:FuncData)(ps:List Str)(ds:List Value):Prop:=
 ∀(s:Shared) (us:List Value),K.In s.heap->(us++ds).length=ps.length->BindsTo s fd ⟨us,[]⟩ (ps.zip (us++ds))
theorem il.all{K:W.Frag}{fd:FuncData}{ps:List Str}(h:∀us:List Value,us.length=ps.length->bindArgs fd ⟨us,[]⟩=pure (ps.zip us)):il K fd ps []:=λs us _ hl=>by
 rw[gk]at hl ⊢;exact .of_eq (h us hl)
def tH(CX:oz)(X:Cx)(E:XK):Prop:=∀(OS:List (Addr×Obj)) (σ:St) (H:Hp) (s:Shared) (e:Value) (s':Shared),ag X OS σ H s->CX X.stack H s E e s'->X.xe e s'
section
variable{X:Cx}{CX:oz}{k:Nat}{f C:Addr}{fd:FuncData}{ps:List Str}{sp:Sp}{dvs:List V}{ds:List Value}{E:XK}{x m:Str}{p pos OY:Pos}{e o:Expr}{es:List Expr}{ta:TE}{t:TA}
theorem AE{OS:List (Addr×Obj)}{σ:St}{H:Hp}{s:Shared}{Q:VK}{us:List Value}{vs:List V}(F:f_ X.prog X.w X.K X.mg X.base CX k f fd ps sp)(hr:bt k X.A)(hb:il X.K fd ps ds)(hd:ai dvs ds)(hx:tH CX X E)
  (I:ag X OS σ H s) (r:ai vs us) (h:sp (vs++dvs) H Q E):wpAny (model X.prog X.w) X.A (call (.ref f) us) (EP X OS σ Q) X.xe s:=by
 have r2:ai (vs++dvs) (us++ds):=r.append hd;have hl:(us++ds).length=ps.length:=by rw[<-r2.length];exact F.len _ _ _ _ h
 refine wpAny_call (codeAny_mono (F.run X.A X.stack s H ⟨us,[]⟩ (us++ds) (vs++dvs) Q E hr I.env0 (hb s us I.kIn hl) r2 h) λr s' hq=>?_);cases r with
 |error e=>exact hx OS σ H s e s' I hq
 |ok fl=>
  cases fl with
  |ret u=>exact I.after hq
  |next=>exact False.elim hq
  |brk=>exact False.elim hq
  |cont=>exact False.elim hq
theorem Iv(F:f_ X.prog X.w X.K X.mg X.base CX k f fd ps sp)(hr:bt k X.A)(hg:Gl X x)(hm:X.mg x=some (.ref f))(hk:W.keepIn X.K (.ref f)=true)(hb:il X.K fd ps ds)(hd:ai dvs ds)(hx:tH CX X E)
  (ha:PA X (e::es) t) (hdb:(x==("__debug__":Str))=false:=by decide) (he:starEach (e::es) X.env=(false,eval e X.env)::starEach es X.env:=by rfl) (hpl:(backTo pos (starEach es X.env)).any (·.1)=false:=by rfl):
  PE X (.Call (.Name x p) (e::es) [] pos) (qA sp dvs E t):=by
 intro OS s σ H Q I h;refine wpAny_Call_Name_kw (xL I hg hm ?_ hdb);refine PySem.W.callWith_K (h₀:=X.base) I.ok.mod.kin hk (bq (ha pos OS s σ H _ I h) λus s1 ⟨vs,H1,I1,r,q⟩=>⟨I1.kIn,?_⟩) he hpl;exact AE F hr hb hd hx I1 r q
theorem J3(F:f_ X.prog X.w X.K X.mg X.base CX k f fd ps sp)(hr:bt k X.A)(hg:Gl X x)(hm:X.mg x=some (.ref f))(hk:W.keepIn X.K (.ref f)=true)(hb:il X.K fd ps ds)(hd:ai dvs ds)(hx:tH CX X E)
  (hdb:(x==("__debug__":Str))=false:=by decide):PE X (.Call (.Name x p) [] [] pos) (qA sp dvs E tZ):=by
 intro OS s σ H Q I h;refine wpAny_Call_Name_kw (xL I hg hm ?_ hdb);exact PySem.W.callWith_K0 I.kIn hk (AE (us:=[]) F hr hb hd hx I .nil h)
end
structure dP (N P:List Str) (sc:Scope):Prop where
 kind:sc.kind=.function
 co:sc.isCoroutine=false
 gen:sc.isGenerator=false
 nd:N.Nodup
 pre:N.take P.length=P
 par:∀x∈P,sc.names.lookup x=some .local\/sc.names.lookup x=some .cell
 nofree:∀y∈sc.names,y.2≠.free
theorem lg{N P:List Str}{sc:Scope}(h:sc.kind=.function/\sc.isCoroutine=false/\sc.isGenerator=false/\N.Nodup/\N.take P.length=P/\(∀x∈P,sc.names.lookup x=some .local\/sc.names.lookup x=some .cell)/\∀y∈sc.names,y.2≠.free):dP N P sc:=⟨h.1,h.2.1,h.2.2.1,h.2.2.2.1,h.2.2.2.2.1,h.2.2.2.2.2.1,h.2.2.2.2.2.2⟩
theorem BE{kindOf:Str->Option NameKind}{x:Str}:∀{binds:List (Str×Value)}{m:Str->Option Value},(∀v,(x,v)∉binds)->bindL kindOf binds m x=m x
 |[],_,_=>rfl
 |(n,v)::r,m,h=>by
  unfold bindL;rw[BE λw hw=>h w (fc _ hw)];split
  ·have:x≠n:=by rintro rfl;exact h v fe
   simp[this]
  ·rfl
theorem BC{kindOf:Str->Option NameKind}{x:Str}:∀{binds:List (Str×Value)}{m:Str->Option Value},(∀v,(x,v)∉binds)->bindC kindOf binds m x=m x
 |[],_,_=>rfl
 |(n,v)::r,m,h=>by
  unfold bindC;rw[BC λw hw=>h w (fc _ hw)];split
  ·rfl
  ·have:x≠n:=by rintro rfl;exact h v fe
   simp[this]
theorem BD{kindOf:Str->Option NameKind}{x:Str}{v:Value}:∀{P:List Str}{vs:List Value}{i:Nat}{m:Str->Option Value},P.Nodup->P[i]?=some x->vs[i]?=some v->kindOf x=some .local ->
  bindL kindOf (P.zip vs) m x=some v
 |[],_,_,_,_,h,_,_=>by simp at h
 |_::_,[],_,_,_,_,h,_=>by simp at h
 |p::P,w::vs,0,m,nd,h1,h2,hk=>by
  simp at h1 h2;subst h1;subst h2;show bindL kindOf ((p,w)::P.zip vs) m p=_;unfold bindL;rw[BE λv hv=>(qh1_.mp nd).1 (s_ hv).1,if_pos hk];simp
 |p::P,w::vs,i+1,m,nd,h1,h2,hk=>by
  show bindL kindOf ((p,w)::P.zip vs) m x=_;unfold bindL;exact BD (i:=i) (qh1_.mp nd).2 (by simpa using h1) (by simpa using h2) hk
theorem BB{kindOf:Str->Option NameKind}{x:Str}{v:Value}:∀{P:List Str}{vs:List Value}{i:Nat}{m:Str->Option Value},P.Nodup->P[i]?=some x->vs[i]?=some v->kindOf x≠some .local ->
  bindC kindOf (P.zip vs) m x=some v
 |[],_,_,_,_,h,_,_=>by simp at h
 |_::_,[],_,_,_,_,h,_=>by simp at h
 |p::P,w::vs,0,m,nd,h1,h2,hk=>by
  simp at h1 h2;subst h1;subst h2;show bindC kindOf ((p,w)::P.zip vs) m p=_;unfold bindC;rw[BC λv hv=>(qh1_.mp nd).1 (s_ hv).1,if_neg hk];simp
 |p::P,w::vs,i+1,m,nd,h1,h2,hk=>by
  show bindC kindOf ((p,w)::P.zip vs) m x=_;unfold bindC;exact BB (i:=i) (qh1_.mp nd).2 (by simpa using h1) (by simpa using h2) hk
def fE(N:List Str)(vs:List V):St:=vs.map some++List.replicate (N.length-vs.length) none
def gK(CX:oz)(P:Program)(w:World)(K:W.Frag)(mg:Str->Option Value)(base:Heap)(N:List Str)(qual:Str)(scope:Scope)(f:Addr)(cd:Value)(A:Around)(outer:List Env)(s:Shared)(H:Hp)(E:XK):Cx where
 prog:=P
 w:=w
 K:=K
 mg:=mg
 base:=base
 A:=A.deeper (envOfC qual scope s.heap.objs.size f cd)
 N:=N
 s₀:=s
 H₀:=H
 env:=envOfC qual scope s.heap.objs.size f cd
 outer:=outer
 stack:=envOfC qual scope s.heap.objs.size f cd::outer
 ex:=[]
 calm:=true
 fn:=λ_=>true
 pn:=[]
 xe:=λe s'=>wpAny (model P w) (A.deeper (envOfC qual scope s.heap.objs.size f cd)) (leaving (envOfC qual scope s.heap.objs.size f cd) e) (λ_ s''=>CX outer H s E e s'') (λe' s''=>CX outer H s E e' s'') s'
theorem BO{sc:Scope}{n:Nat}{x:Str}(h:sc.names.lookup x=some .cell):∃c,(cellsFrom n sc.names []).lookup x=some c:=by
 have q:=PySem.W.cellsFrom_some sc.names n [] (.inl h);exact Option.isSome_iff_exists.mp q
theorem K0{CX:oz}{P:Program}{w:World}{K:W.Frag}{mg:Str->Option Value}{base:Heap}{N ps:List Str}{qual:Str}{scope:Scope}{f:Addr}{cd:Value}{A:Around}{outer:List Env}{s s1:Shared}{H:Hp}{E:XK}{us:List Value}{vs:List V}
  (S:dP N ps scope) (hd:A.handled=none) (e0:uU P w K mg base A outer s H) (hl:vs.length=ps.length) (r:ai vs us)
  (x:InCallC s s.heap.objs.size (bindL (envOfC qual scope s.heap.objs.size f cd).kindOf (ps.zip us) λ_=>none) (cellsFrom (s.heap.objs.size+1) scope.names []) (bindC (envOfC qual scope s.heap.objs.size f cd).kindOf (ps.zip us) λ_=>none) s1):
  ag (gK CX P w K mg base N qual scope f cd A outer s H E) [] (fE N vs) H s1:=by
 have hpl:ps.length<=N.length:=by have:=congrArg List.length S.pre;rw[fu]at this;omega
 obtain⟨h1,tk,rfl,hk⟩:=x.done;have noA:∀b:Addr,b∉(gK CX P w K mg base N qual scope f cd A outer s H E).ex:=λb z=>absurd (show b∈([]:List Addr) from z) (by simp)
 refine⟨⟨e0.mod,S.kind,rfl,rfl,bg _,λy z c h1 h2=>?_,λy hy=>?_,λy c _ h=>?_,λ_=>hd,Around.frames_deeper e0.frames,.inr ⟨rfl,rfl⟩,λb z=>absurd z (noA b),e0.bs,e0.bsz,λb _ _=>noA b,λb z=>absurd z (noA b),e0.funs,e0.frf⟩,
  rfl,e0.bare,Un.kept hk,⟨_,x.toInCall.ns,λi y v h1 h2 h3=>?_⟩,λy c h=>⟨_,x.cell y c h⟩,e0.hok.fresh (bg _),λy c h=>?_,λp hp=>absurd (show p∈([]:List (Addr×Obj)) from hp) (by simp),e0.hok.kept hk,?_⟩
 ·exact name_of_addr x.apart (PySem.mem_of_lookup h1) (PySem.mem_of_lookup h2)
 ·have hy:scope.names.lookup y=some .cell\/scope.names.lookup y=some .free:=hy;rcases hy with hy|hy
  ·exact BO hy
  ·exact absurd rfl (S.nofree _ (PySem.mem_of_lookup hy))
 ·exact ff (x.above y c (PySem.mem_of_lookup h))
 ·have hi:i<vs.length:=by
   unfold fE at h2;by_cases hi:i<vs.length
   ·exact hi
   ·rw[j9 (by simpa using hi)]at h2;rw[my]at h2;split at h2<;>cases h2
  have ha:vs[i]?=some v:=by
   unfold fE at h2;rw[jn (by simpa using hi),gf]at h2;cases e:vs[i]? with
   |none=>rw[e]at h2;cases h2
   |some a=>rw[e]at h2;cases h2;rfl
  obtain⟨u,hu,rv⟩:=r.get ha;have hp:ps[i]?=some y:=by
   rw[<-S.pre,List.getElem?_take_of_lt (by omega)];exact h1
  have ndP:ps.Nodup:=by rw[<-S.pre];exact S.nd.sublist (sy _ _)
  refine⟨u,rv,?_⟩;rcases S.par y (i5 hp) with k|k
  ·exact .inl ⟨k,BD ndP hp hu k⟩
  ·obtain⟨c,e⟩:=BO (n:=s.heap.objs.size+1) k;refine .inr ⟨.inl k,c,e,?_⟩;have q:=x.cell y c e;rw[BB ndP hp hu (by show scope.names.lookup y≠_;rw[k];decide)]at q;exact q
 ·exact e0.hok.fresh (ff (x.above y c (PySem.mem_of_lookup h)))
 ·unfold fE;show _=N.length;rw[bw,ak,i_];omega
theorem FE{CX:oz}{P:Program}{w:World}{K:W.Frag}{mg:Str->Option Value}{base:Heap}{k:Nat}{f:Addr}{name qual:Str}{params:Arguments}{body:List Stmt}{scope:Scope}{dV kV doc pm OV ct oc:Value}{an od:Option Addr}
  {osl:Array (Option Value)} {N ps:List Str} {sp:Sp} (lk:K.lookup f=some ⟨oc,od,.func (W.fnOf name qual params body scope dV kV doc pm an OV ct),osl⟩) (hcd:W.codeIn K OV qual=true) (S:dP N ps scope)
  (len:∀vs H Q E,sp vs H Q E->vs.length=ps.length)
  (OX:∀(A:Around) (outer:List Env) (s:Shared) (H:Hp) (vs:List V) (Q:VK) (E:XK),bt k (A.deeper (envOfC qual scope s.heap.objs.size f OV))->sp vs H Q E ->
   ∃t,ik (gK CX P w K mg base N qual scope f OV A outer s H E) body t/\t {nx:=λ_ H'=>Q .non H',rt:=Q} (fE N vs) H):
  f_ P w K mg base CX (k+1) f (W.fnOf name qual params body scope dV kV doc pm an OV ct) ps sp:=by
 refine⟨len,λA outer s H args us vs Q E hr e0 hb r hsp=>?_⟩;have hl:=len _ _ _ _ hsp;have KX:K.In s.heap:=e0.mod.kin.keeps λb o e=>(e0.bs b o e).1
 have lim:s.heap.NoLimit:=e0.mod.nolimit.keeps λb o e=>(e0.bs b o e).1
 have hkind:∀y∈ps.zip us,scope.names.lookup y.1=some .local\/(scope.names.lookup y.1=some .cell/\((cellsFrom (s.heap.objs.size+1) scope.names []).lookup y.1).isSome=true):=λ⟨n,v⟩ hy=>by
  rcases S.par n (s_ hy).1 with q|q
  ·exact .inl q
  ·exact .inr ⟨q,PySem.W.cellsFrom_some _ _ _ (.inl q)⟩
 refine codeAny_call_function hr.depth (KX _ _ lk) rfl S.co S.gen rfl (PySem.W.codeRec_of KX hcd) (hb _ _ _ _ ?_);refine wpAny_newFunctionEnv_cells S.kind hkind λenv he s1 x=>?_
 subst he;refine⟨lim.keeps x.toInCall.keep,codeAny_func ?_⟩;obtain⟨t,ht,hq⟩:=OX A outer s H vs Q E (hr.deeper _) hsp;have I:ag (gK CX P w K mg base N qual scope f OV A outer s H E) [] (fE N vs) H s1:=K0 S hr.hd e0 hl r x;refine wpAny_mono (ht [] s1 (fE N vs) H _ I hq) (λfl s' hs=>?_) λe s' hs=>hs
 have fin:∀{σ':St} {H':Hp} {v:V} {u:Value},ag (gK CX P w K mg base N qual scope f OV A outer s H E) [] σ' H' s'->ah v u->Q v H'->CE outer P w H s Q u s':=
  λ{σ' H' v u} J rv q=>⟨v,H',J.os,J.bare,J.base,J.hok,rv,q⟩
 cases fl with
 |ret u=>
  obtain⟨v,σ',H',J,rv,q⟩:=hs;exact fin J rv q
 |next=>
  obtain⟨σ',H',J,q⟩:=hs;exact fin (v:=V.non) (u:=Value.none) J rfl q
 |brk=>
  obtain⟨_,_,_,q⟩:=hs;exact False.elim q
 |cont=>
  obtain⟨_,_,_,q⟩:=hs;exact False.elim q
section
variable{X:Cx}{x:Str}{p pos:Pos}{e:Expr}{es:List Expr}{t:TA}{id T:String}{r:List V->Hp->VK->Prop}
def vm(r:List V->Hp->VK->Prop)(t:TA):TE:=λσ H Q=>t σ H λvs H1=>r vs H1 Q
theorem iD(hc:aq X (.builtin id) r)(hg:Gl X x)(hm:X.mg x=none)(hv:bootBuiltins x=some (.builtin id))(ha:PA X (e::es) t)(hn:x≠"__name__":=by decide)(hdb:(x==("__debug__":Str))=false:=by decide)
  (he:starEach (e::es) X.env=(false,eval e X.env)::starEach es X.env:=by rfl) (hpl:(backTo pos (starEach es X.env)).any (·.1)=false:=by rfl):PE X (.Call (.Name x p) (e::es) [] pos) (vm r t):=by
 intro OS s σ H Q I h;refine wpAny_Call_Name_kw (nR I hg hm hv ?_ hn hdb);exact PyProof.Rows.callWith_builtin1 (bq (ha pos OS s σ H _ I h) λus s1 ⟨vs,H1,I1,r1,q1⟩=>hc OS s1 σ H1 vs us Q I1 r1 q1) he hpl
theorem fS(hc:aq X (.type T) r)(hg:Gl X x)(hm:X.mg x=none)(hv:bootBuiltins x=some (.type T))(ha:PA X (e::es) t)(hn:x≠"__name__":=by decide)(hdb:(x==("__debug__":Str))=false:=by decide)
  (he:starEach (e::es) X.env=(false,eval e X.env)::starEach es X.env:=by rfl) (hpl:(backTo pos (starEach es X.env)).any (·.1)=false:=by rfl):PE X (.Call (.Name x p) (e::es) [] pos) (vm r t):=by
 intro OS s σ H Q I h;refine wpAny_Call_Name_kw (nR I hg hm hv ?_ hn hdb);exact PyProof.Rows.callWith_type1 (bq (ha pos OS s σ H _ I h) λus s1 ⟨vs,H1,I1,r1,q1⟩=>hc OS s1 σ H1 vs us Q I1 r1 q1) he hpl
end
end L2
namespace HT
open PySem PyProof.Rows
section
variable{prog:Program}{w:World}{A:Around}{E:Value->Shared->Prop}{s:Shared}
theorem cat_tup{t b:Addr}{vs ws:List Value}{Q:Value->Shared->Prop}(ht:IsTup s.heap t vs.toArray)(hb:IsTup s.heap b ws.toArray)(hv:vs≠[])
  (h1:ws=[]->Q (.ref t) s) (h2:ws≠[]->Q (.ref s.heap.objs.size) {s with heap:=s.heap.push {cls:=.type "tuple",data:=.seq (vs++ws).toArray}})
  (hsz:vs.length+ws.length<=sizeLine):wpAny (model prog w) A (binaryOp .Add (.ref t) (.ref b)) Q E s:=by
 obtain⟨⟨cls,dd,data,sl⟩,ho,hc,n,hd⟩:=id ht;obtain⟨⟨cls2,dd2,data2,sl2⟩,ho2,hc2,n2,hd2⟩:=id hb;simp only at hc hd hc2 hd2;subst hc hd hc2 hd2;have e:vs.toArray++ws.toArray=(vs++ws).toArray:=by simp
 by_cases hw:ws=[]
 ·exact concat_meets ⟨_,ho,rfl⟩ ⟨_,ho2,rfl⟩ noFill_tuple_add seq_tuple_add PySem.F.slot_tuple_add PySem.F.entry_tuple_add (PySem.F.args_tuple_add_2 _ _)
   (tuple_addW1 t b vs.toArray ws.toArray n n2 dd dd2 sl sl2 (by simpa using hv) (by simp[hw])) ⟨ho,ho2,h1 hw⟩
 ·refine concat_meets ⟨_,ho,rfl⟩ ⟨_,ho2,rfl⟩ noFill_tuple_add seq_tuple_add PySem.F.slot_tuple_add PySem.F.entry_tuple_add (PySem.F.args_tuple_add_2 _ _)
   (tuple_addW2 t b vs.toArray ws.toArray n n2 dd dd2 sl sl2 (by simpa using hv) (by simpa using hw) (by rw[cg,cg];exact hsz)) ⟨ho,ho2,?_⟩
  rw[e];exact h2 hw
def sIx(n d:Nat):Option Int->Nat
 |none=>d
 |some v=>if v<0 then(v+(n:Int)).toNat else min v.toNat n
theorem HV(n d:Nat)(hd:d<=n)(o:Option Int):sIx n d o<=n:=by
 cases o with
 |none=>exact hd
 |some v=>
  show(if v<0 then(v+(n:Int)).toNat else min v.toNat n)<=n;by_cases hv:v<0
  ·rw[if_pos hv];omega
  ·rw[if_neg hv];exact Nat.min_le_right _ _
theorem AV(v:Int)(n d:Nat):(if v<0 then max (v+(n:Int)) 0 else min v (n:Int))=((sIx n d (some v):Nat):Int):=by
 show(if v<0 then max (v+(n:Int)) 0 else min v (n:Int))=(((if v<0 then(v+(n:Int)).toNat else min v.toNat n):Nat):Int);by_cases hv:v<0
 ·simp only[if_pos hv];omega
 ·simp only[if_neg hv];omega
theorem MC(lo hi:Option Int)(n:Nat):Builtin.Slice.sliceAdjust lo hi 1 (n:Int)=(((sIx n 0 lo:Nat):Int),((sIx n n hi:Nat):Int)):=by
 have h1:¬ ((1:Int)<0):=by omega
 unfold Builtin.Slice.sliceAdjust;simp only[h1,if_false];refine Prod.ext ?_ ?_
 ·cases lo with
  |none=>rfl
  |some v=>exact AV v n 0
 ·cases hi with
  |none=>rfl
  |some v=>exact AV v n n
theorem L9(i j:Nat):Builtin.Slice.slicePlaces (i:Int) (j:Int) 1=j-i:=by
 unfold Builtin.Slice.slicePlaces;have h1:(1:Int) > 0:=by omega
 simp only[h1,if_true,Int.ediv_one];split<;>omega
theorem Ck{v:Value}{o:Option Int}{Q:Option Int->Shared->Prop}(p:IsPart v o)(h:Q o s):wpAny (model prog w) A (Builtin.Slice.slicePartIndex v) Q E s:=by
 cases p with
 |none=>exact slicePart_none h
 |int i t=>exact slicePart_int h
theorem sliceApplied_gen{sl:Addr}{vl vu:Value}{lo hi:Option Int}{n:Nat}{Q:Int×Int×Nat->Shared->Prop}(hs:s.heap.IsSliceOf sl vl vu .none)(pl:IsPart vl lo)(pu:IsPart vu hi)
  (h:Q (((sIx n 0 lo:Nat):Int),1,sIx n n hi-sIx n 0 lo) s):wpAny (model prog w) A (Builtin.Slice.sliceApplied (.ref sl) (pure (n:Int))) Q E s:=by
 obtain⟨os,hos,hcs,hds⟩:=id hs;unfold Builtin.Slice.sliceApplied Builtin.Slice.sliceFields;refine af (af (wpAny_field hos hds (x:=vl) rfl (af (wpAny_field hos hds (x:=vu) rfl (af (wpAny_field hos hds (x:=.none) rfl (aj ?_)))))));refine af (slicePart_none ?_);show wpAny _ _ (if ((1:Int)==0)=true then _ else _) _ _ s;rw[if_neg (by decide)];refine af (Ck pl (af (Ck pu (af (aj ?_)))));show wpAny _ _ (match Builtin.Slice.sliceAdjust lo hi 1 (n:Int) with|(lo,hi)=>pure (lo,(1:Int),Builtin.Slice.slicePlaces lo hi 1)) _ _ s;rw[MC lo hi n];show wpAny _ _ (pure (((sIx n 0 lo:Nat):Int),(1:Int),Builtin.Slice.slicePlaces ((sIx n 0 lo:Nat):Int) ((sIx n n hi:Nat):Int) 1)) _ _ s;rw[L9];exact aj h
theorem J8(xs:Array Value)(i k:Nat):((List.range k).filterMap λ(m:Nat)=>xs[((i:Int)+(m:Int)*1).toNat]?).toArray=((xs.toList.drop i).take k).toArray:=by
 have e:(λ(m:Nat)=>xs[((i:Int)+(m:Int)*1).toNat]?)=λm=>xs[i+m]?:=by
  funext m;have:((i:Int)+(m:Int)*1).toNat=i+m:=by omega
  rw[this]
 rw[e];have:=pick_run xs i k;rw[nz]at this;have e2:((λx=>xs[x]?)∘λx=>i+x)=λm=>xs[i+m]?:=rfl
 rw[e2]at this;rw[this]
theorem getItem_tuple_cut{t sl:Addr}{items:Array Value}{vl vu:Value}{lo hi:Option Int}{Q:Value->Shared->Prop}(ht:IsTup s.heap t items)(hs:s.heap.IsSliceOf sl vl vu .none)(pl:IsPart vl lo)(pu:IsPart vu hi)
  (hw:¬ (sIx items.size 0 lo=0/\sIx items.size items.size hi=items.size))
  (h:Q (.ref s.heap.objs.size) {s with heap:=s.heap.push {cls:=.type "tuple",data:=.seq ((items.toList.drop (sIx items.size 0 lo)).take (sIx items.size items.size hi-sIx items.size 0 lo)).toArray}})
  (hsz:items.size<=sizeLine):wpAny (model prog w) A (getItem (.ref t) (.ref sl)) Q E s:=by
 have htake:sizeOk (.seq ((items.toList.drop (sIx items.size 0 lo)).take (sIx items.size items.size hi-sIx items.size 0 lo)).toArray):=by
  show((items.toList.drop (sIx items.size 0 lo)).take (sIx items.size items.size hi-sIx items.size 0 lo)).toArray.size<=sizeLine;rw[cg,fu,mx,e7];omega
 have hj:sIx items.size items.size hi<=items.size:=HV _ _ (bg _) hi;obtain⟨os,hos,hcs,hds⟩:=id hs;have hTs:s.TypeIs (.ref sl) "slice":=⟨os,hos,hcs⟩
 unfold getItem
 try with_reducible refine ic ?_
 first|refine af (aj ?_)|skip
 refine af (wpAny_sequenceKey ht.typeIs (by decide) ?_)
 refine af (wpAny_callSpecial?_slot (name:=Str.ofString "__getitem__") ht.typeIs PyProof.Rows.slot_tuple_getitem
  (jt PyProof.Rows.slot_tuple_getitem ht.typeIs entry_tuple_getitem ?_ (args_tuple_getitem _ _)))
 show wpAny _ _ (Builtin.Tuple.tupleItemsOf (.ref t) >>= _) _ _ s;refine af (tupleItemsOf_ ht ?_);refine af (wpAny_typeOf hTs ?_);rw[if_pos (by decide)];refine af (sliceApplied_gen hs pl pu ?_);have hno:¬ ((((sIx items.size 0 lo:Nat):Int)==0&&(1:Int)==1&&(sIx items.size items.size hi-sIx items.size 0 lo)==items.size)=true):=by
  intro q;rw[fb,fb]at q;have q1:((sIx items.size 0 lo:Nat):Int)=0:=eq_of_beq q.1.1;have q2:sIx items.size items.size hi-sIx items.size 0 lo=items.size:=eq_of_beq q.2;exact hw ⟨by omega,by omega⟩
 show wpAny _ _ (if (((sIx items.size 0 lo:Nat):Int)==0&&(1:Int)==1&&(sIx items.size items.size hi-sIx items.size 0 lo)==items.size)=true then _ else _) _ _ s;rw[if_neg hno,J8]
 first
  |exact af (m:=Builtin.Tuple.tupleExact _) (e9 (aj ⟨_,rfl,aj h⟩) htake)
  |exact af (m:=Builtin.Tuple.tupleExact _) (e9 (af (aj (aj ⟨_,rfl,aj h⟩))) htake)
  |exact af (af (m:=Builtin.Tuple.tupleExact _) (e9 (aj (aj ⟨_,rfl,aj h⟩)) htake))
  |exact af (af (m:=Builtin.Tuple.tupleExact _) (e9 (aj ⟨_,rfl,aj h⟩) htake))
end
end HT
namespace L2
open PySem PySem.Spec PyProof.Rows
abbrev TO:=St->Hp->(Option Int->Hp->Prop)->Prop
def PO(X:Cx)(e:Option Expr)(t:TO):Prop:=
 ∀(OS:List (Addr×Obj)) (s:Shared) (σ:St) (H:Hp) (Q:Option Int->Hp->Prop),ag X OS σ H s->t σ H Q ->
  wpAny (model X.prog X.w) X.A (evalPart e X.env) (λu s'=>∃o H',ag X OS σ H' s'/\IsPart u o/\Q o H') X.xe s
def KC:TO:=λ_ H Q=>Q none H
def GZ(t:TE):TO:=λσ H Q=>t σ H λx H1=>∃i,x=.int i/\Q (some i) H1
theorem rB{ns:List Int}:∀{us:List Value},ai (ns.map V.int) us->IntsAre us ns:=by
 induction ns with
 |nil=>intro us r;rw[qi]at r;cases r;exact .nil
 |cons n ns ih=>
  intro us r;rw[e6]at r;cases r with
  |cons r1 r2=>
   obtain⟨t,e⟩:=r1;subst e;exact .cons n t (ih r2)
section
variable{X:Cx}{e:Expr}{te:TE}{lo hi:Option Expr}{tl th:TO}{pos p2:Pos}
theorem Av:PO X none KC:=by
 intro OS s σ H Q I h;rw[evalPart_none];exact aj ⟨none,H,I,.none,h⟩
theorem Aw(h:PE X e te):PO X (some e) (GZ te):=by
 intro OS s σ H Q I hw;rw[evalPart_some];refine bq (h OS s σ H _ I hw) λu s1 ⟨x,H1,I1,r1,q1⟩=>?_
 obtain⟨i,rfl,q⟩:=q1;obtain⟨t,rfl⟩:=r1;exact⟨some i,H1,I1,.int i t,q⟩
def o9(X:Cx)(r:V->Option Int->Option Int->Hp->VK->Prop):Prop:=
 ∀(OS:List (Addr×Obj)) (s:Shared) (σ:St) (H:Hp) (x:V) (v vl vu:Value) (lo hi:Option Int) (sl:Addr) (Q:VK),ag X OS σ H s->ah x v->s.heap.IsSliceOf sl vl vu .none->IsPart vl lo->IsPart vu hi->r x lo hi H Q ->
  ∃T id,typeLookup (.type T) "__getitem__"=pure (some (.builtin id))/\s.TypeIs v T/\wpAny (model X.prog X.w) X.A (getItem v (.ref sl)) (EP X OS σ Q) X.xe s
theorem o9.or{r r':V->Option Int->Option Int->Hp->VK->Prop}(h:o9 X r)(h':o9 X r'):o9 X (λx lo hi H Q=>r x lo hi H Q\/r' x lo hi H Q):=by
 intro OS s σ H x v vl vu lo hi sl Q I rx hs pl pu q;rcases q with q|q
 ·exact h OS s σ H x v vl vu lo hi sl Q I rx hs pl pu q
 ·exact h' OS s σ H x v vl vu lo hi sl Q I rx hs pl pu q
def NU(r:V->Option Int->Option Int->Hp->VK->Prop)(te:TE)(tl th:TO):TE:=λσ H Q=>te σ H λx H1=>tl σ H1 λl H2=>th σ H2 λu H3=>r x l u H3 Q
theorem Bj{r:V->Option Int->Option Int->Hp->VK->Prop}(hr:o9 X r)(he:PE X e te)(hl:PO X lo tl)(hu:PO X hi th):PE X (.Subscript e (.Slice lo hi none p2) pos) (NU r te tl th):=by
 intro OS s σ H Q I h;refine Subscript_ (bq (he OS s σ H _ I h) λv s1 ⟨x,H1,I1,r1,q1⟩=>?_);refine wpAny_Slice (bq (hl OS s1 σ H1 _ I1 q1) λvl s2 ⟨l,H2,I2,pl,q2⟩=>bq (hu OS s2 σ H2 _ I2 q2) λvu s3 ⟨u,H3,I3,pu,q3⟩=>?_);rw[evalPart_none];refine aj ?_;have I4:ag X OS σ H3 {s3 with heap:=s3.heap.push {cls:=.type "slice",data:=.fields #[vl,vu,.none]}}:=I3.kept (t':=s3.toks) λb ob q=>bh _ q
 obtain⟨T,id,hT,ht,hg⟩:=hr OS {s3 with heap:=s3.heap.push {cls:=.type "slice",data:=.fields #[vl,vu,.none]}} σ H3 x v vl vu l u s3.heap.objs.size Q I4 r1 (Heap.IsSliceOf.new ..) pl pu q3;show wpAny (model X.prog X.w) X.A (subscriptTail e (.Slice lo hi none p2) v (.ref s3.heap.objs.size)) (EP X OS σ Q) X.xe {s3 with heap:=s3.heap.push {cls:=.type "slice",data:=.fields #[vl,vu,.none]}};exact tail_any (ops:=[.ref s3.heap.objs.size,v]) ht hT hg (by with_unfolding_all rfl)
def gZ(xs:List V)(lo hi:Option Int):List V:=(xs.drop (HT.sIx xs.length 0 lo)).take (HT.sIx xs.length xs.length hi-HT.sIx xs.length 0 lo)
theorem Ct(xs:List V)(lo hi:Option Int):(gZ xs lo hi).length<=xs.length:=by
 unfold gZ;rw[fu,mx];omega
def Ee(K:W.Frag):V->Option Int->Option Int->Hp->VK->Prop:=λx lo hi H Q=>∃a xs,x=.ref a/\cv K H a xs /\
 ¬ (HT.sIx xs.length 0 lo=0/\HT.sIx xs.length xs.length hi=xs.length)/\∀p,H p=none->Q (.ref p) (au H p (.tup (gZ xs lo hi)))
theorem Ia:o9 X (Ee X.K):=by
 intro OS s σ H x v vl vu lo hi sl Q I rx hs pl pu h;obtain⟨a,xs,rfl,hx,hw,q⟩:=h;cases rx;obtain⟨its,r,ht,hz⟩:=I.tuple hx;have hlen:its.toArray.size=xs.length:=by rw[cg];exact r.length.symm
 refine⟨"tuple",_,PyProof.Rows.slot_tuple_getitem.lookup,ht.typeIs,?_⟩;refine HT.getItem_tuple_cut ht hs pl pu (by rw[hlen];exact hw) ?_ (by rw[hlen];exact hz);rw[hlen];refine⟨.ref s.heap.objs.size,_,I.laid (t':=s.toks) (o:=.tup (gZ xs lo hi)) (λb ob q=>bh _ q) (bg _) ?_,rfl,q _ (I.hok.fresh (bg _))⟩;exact⟨cx (Ct xs lo hi) hz,_,(r.drop (HT.sIx xs.length 0 lo)).take (HT.sIx xs.length xs.length hi-HT.sIx xs.length 0 lo),IsTup.new _ _⟩
def Fb(K:W.Frag):R2:=λx y H Q=>∃a b xs ys,x=.ref a/\y=.ref b/\cv K H a xs/\cv K H b ys/\xs≠[]/\xs.length+ys.length<=sizeLine /\
 (ys=[]->Q (.ref a) H)/\(ys≠[]->∀p,H p=none->Q (.ref p) (au H p (.tup (xs++ys))))
theorem ai.nil_iff{xs:List V}{us:List Value}(r:ai xs us):us=[]↔xs=[]:=by
 cases r with
 |nil=>simp
 |cons _ _=>simp
theorem Jr:cn X (binaryOp .Add) (Fb X.K):=by
 intro OS s σ H x y v u Q I rx ry h;obtain⟨a,b,xs,ys,rfl,rfl,ha,hb,hx,hz,q1,q2⟩:=h;cases rx;cases ry;obtain⟨its,r1,p1,_⟩:=I.tuple ha;obtain⟨its2,r2,p2,_⟩:=I.tuple hb;refine HT.cat_tup p1 p2 (λz=>hx (r1.nil_iff.mp z)) (λz=>⟨.ref a,H,I,rfl,q1 (r2.nil_iff.mp z)⟩) (λz=>?_) (by rw[<-r1.length,<-r2.length];exact hz);refine⟨.ref s.heap.objs.size,_,I.laid (t':=s.toks) (o:=.tup (xs++ys)) (λb ob q=>bh _ q) (bg _) ?_,rfl,q2 (λw=>z (r2.nil_iff.mpr w)) _ (I.hok.fresh (bg _))⟩;exact⟨by rw[bw];exact hz,_,r1.append r2,IsTup.new _ _⟩
end
def qy(n:Nat)(i:Int):Option Nat:=if 0<=i then(if i<n then some i.toNat else none) else if -(n:Int)<=i then some (i+n).toNat else none
def j_{α:Type}(xs:List α)(i:Int):Option α:=(qy xs.length i).bind λj=>xs[j]?
theorem Ab{n:Nat}{i:Int}{j:Nat}(h:qy n i=some j):seqIndex? i n=some j/\j<n /\ -(n:Int)<=i/\i<n:=by
 unfold qy at h;by_cases h0:0<=i
 ·rw[if_pos h0]at h;by_cases h1:i<n
  ·rw[if_pos h1]at h;have e:i.toNat=j:=Option.some.inj h;exact⟨by rw[seqIndex_of h0 h1,e],by omega,by omega,h1⟩
  ·rw[if_neg h1]at h;cases h
 ·rw[if_neg h0]at h;by_cases h1:-(n:Int)<=i
  ·rw[if_pos h1]at h;have e:(i+n).toNat=j:=Option.some.inj h;exact⟨by rw[seqIndex_neg (by omega) h1,e],by omega,h1,by omega⟩
  ·rw[if_neg h1]at h;cases h
theorem xT{α:Type}{xs:List α}{i:Int}{v:α}(h:j_ xs i=some v):∃j,seqIndex? i xs.length=some j/\xs[j]?=some v/\j<xs.length /\ -(xs.length:Int)<=i/\i<xs.length:=by
 unfold j_ at h;cases e:qy xs.length i with
 |none=>rw[e]at h;cases h
 |some j=>
  rw[e]at h;obtain⟨h1,h2,h3,h4⟩:=Ab e;exact⟨j,h1,h,h2,h3,h4⟩
theorem aR{α:Type}{xs:List α}{j:Nat}{v:α}(h:xs[j]?=some v):j_ xs (j:Int)=some v:=by
 have hj:j<xs.length:=(qB_.mp h).1;have e:qy xs.length (j:Int)=some j:=by
  unfold qy;rw[if_pos (by omega),if_pos (by omega)];simp
 unfold j_;rw[e];exact h
def sS(b:Expr):Prop:=∀o i,subscripted b false o i=operate [o,i] (getItem o i)
def m_(X:Cx)(r:R2):Prop:=
 ∀(value slice:Expr) (OS:List (Addr×Obj)) (s:Shared) (σ:St) (H:Hp) (x y:V) (v u:Value) (Q:VK),ag X OS σ H s->ah x v->ah y u->r x y H Q ->
  subscripted slice false v u=operate [v,u] (getItem v u)->wpAny (model X.prog X.w) X.A (subscriptTail value slice v u) (EP X OS σ Q) X.xe s
def ug(X:Cx)(id:String)(r:V->List V->Hp->VK->Prop):Prop:=
 ∀(OS:List (Addr×Obj)) (s:Shared) (σ:St) (H:Hp) (x:V) (xs:List V) (v:Value) (us:List Value) (Q:VK),ag X OS σ H s->ah x v->ai xs us->r x xs H Q ->
  wpAny (model X.prog X.w) X.A (call (.builtin id) (v::us)) (EP X OS σ Q) X.xe s
section
variable{X:Cx}{a b:Expr}{ta tb:TE}{pos:Pos}
theorem m_.or{r r':R2}(h:m_ X r)(h':m_ X r'):m_ X (λx y H Q=>r x y H Q\/r' x y H Q):=by
 intro value slice OS s σ H x y v u Q I rx ry q hs;rcases q with q|q
 ·exact h value slice OS s σ H x y v u Q I rx ry q hs
 ·exact h' value slice OS s σ H x y v u Q I rx ry q hs
theorem jU{r:R2}(hr:m_ X r)(ha:PE X a ta)(hb:PE X b tb)(hs:sS b):PE X (.Subscript a b pos) (t4 r ta tb):=by
 intro OS s σ H Q I h;exact Subscript_ (zQ ha hb I h λv u s2 x y H2 I2 rx ry q=>hr a b OS s2 σ H2 x y v u Q I2 rx ry q (hs _ _))
def zq(K:W.Frag):R2:=λx y H Q=>∃p xs i v,x=.ref p/\y=.int i/\bx K H p xs/\j_ xs i=some v/\Q v H
def zt(K:W.Frag):R2:=λx y H Q=>∃p xs i v,x=.ref p/\y=.int i/\cv K H p xs/\j_ xs i=some v/\Q v H
def zr:R2:=λx y H Q=>∃z i c,x=.str z/\y=.int i/\z.length<=sizeLine/\j_ z.cps.toList i=some c/\Q (.str ⟨#[c]⟩) H
theorem ix_list:m_ X (zq X.K):=by
 intro value slice OS s σ H x y v u Q I rx ry h hs;obtain⟨p,xs,i,z,rfl,rfl,hq,he,q⟩:=h;cases rx;obtain⟨t,rfl⟩:=ry;obtain⟨its,r,pl,hz⟩:=I.list hq;obtain⟨j,h1,h2,h3,h4,h5⟩:=xT he;obtain⟨w,ew,rw'⟩:=r.get h2;have hl:=r.length;have hn:=nQ;have fin:EP X OS σ Q w s:=⟨z,H,I,rw',q⟩
 by_cases h0:0<=i
 ·have hj:i.toNat=j:=by
   rw[seqIndex_of h0 h5]at h1;exact Option.some.inj h1
  exact item_listR pl.isList h0 (by omega) (by rw[hj];simpa using ew) fin hs
 ·have hj:(i+(its.toArray.size:Int)).toNat=j:=by
   rw[seqIndex_neg (by omega) h4]at h1;rw[cg,<-hl];exact Option.some.inj h1
  exact subscriptTail_builtinR (x:=w) pl.isList.typeIs slot_list_getitem.lookup
   (wpAny_getItem_list_neg (Q:=λr s'=>r=w/\EP X OS σ Q r s') pl.isList (by omega) (by rw[cg]<;>omega) (by omega) (by rw[hj];simpa using ew) ⟨rfl,fin⟩) hs
theorem ix_tup:m_ X (zt X.K):=by
 intro value slice OS s σ H x y v u Q I rx ry h hs;obtain⟨p,xs,i,z,rfl,rfl,hq,he,q⟩:=h;cases rx;obtain⟨t,rfl⟩:=ry;obtain⟨its,r,pl,hz⟩:=I.tuple hq;obtain⟨j,h1,h2,h3,h4,h5⟩:=xT he;obtain⟨w,ew,rw'⟩:=r.get h2;have hl:=r.length;have hn:=nQ;have fin:EP X OS σ Q w s:=⟨z,H,I,rw',q⟩
 exact subscriptTail_builtinR (x:=w) pl.typeIs slot_tuple_getitem.lookup
  (getItem_tuple (j:=j) (Q:=λr s'=>r=w/\EP X OS σ Q r s') pl (by omega) (by omega) (by rw[cg,<-hl];exact h1) (by simpa using ew) ⟨rfl,fin⟩) hs
theorem GW:m_ X zr:=by
 intro value slice OS s σ H x y v u Q I rx ry h hs;obtain⟨z,i,c,rfl,rfl,hz,he,q⟩:=h;obtain⟨t,rfl⟩:=rx;obtain⟨t',rfl⟩:=ry;obtain⟨j,h1,h2,h3,h4,h5⟩:=xT he;have hl:z.cps.toList.length=z.length:=by simp[Str.length]
 rw[hl]at h1 h4 h5;have hn:=nQ
 exact tail_any (typeIs_str s z t) slot_str_getitem.lookup (getItem_str (c:=c) (by
  have e1:decide (i < -(2 ^ 63:Int))=false:=iq (by omega);have e2:decide (i>=2 ^ 63)=false:=iq (by omega)
  rw[e1,e2,kx]) (by rw[h1];simpa using h2) ⟨.str ⟨#[c]⟩,H,I.tok _,⟨_,rfl⟩,q⟩) hs
def NZ(K:W.Frag):R2:=λx y H Q=>zq K x y H Q\/zt K x y H Q\/zr x y H Q
theorem ix_seq:m_ X (NZ X.K):=ix_list.or (ix_tup.or GW)
theorem L0(its:List Value)(n j:Nat)(u:Value):Obj.mapSeq (·.setIfInBounds j u) {cls:=.type "list",data:=.seq its.toArray n}={cls:=.type "list",data:=.seq (its.set j u).toArray n}:=by
 simp[Obj.mapSeq]
theorem ag.lst{OS:List (Addr×Obj)}{σ:St}{H:Hp}{s:Shared}{p:Addr}{xs:List V}(I:ag X OS σ H s)(h:H p=some (.lst xs)):
  ∃(its:List Value) (n:Nat),ai xs its/\s.heap.get? p=some {cls:=.type "list",data:=.seq its.toArray n}/\xs.length<=sizeLine:=by
 obtain⟨z,its,n,r,e⟩:=I.hok p _ h;exact⟨its,n,r,e,z⟩
theorem ag.lstUpd{OS:List (Addr×Obj)}{σ:St}{H:Hp}{s:Shared}{p:Addr}{xs ys:List V}{its its':List Value}{n n':Nat}{f:Obj->Obj}(I:ag X OS σ H s)(h:H p=some (.lst xs))
  (ho:s.heap.get? p=some {cls:=.type "list",data:=.seq its.toArray n}) (hf:f {cls:=.type "list",data:=.seq its.toArray n}={cls:=.type "list",data:=.seq its'.toArray n'}) (r:ai ys its') (hz:ys.length<=sizeLine) (t:Nat):
  ag X OS σ (au H p (.lst ys)) {s with heap:=s.heap.update p f,toks:=t}:=by
 have e:(s.heap.update p f).get? p=some {cls:=.type "list",data:=.seq its'.toArray n'}:=by
  rw[fo f ho (by rw[hf]<;>rfl),hf]
 refine I.write (x:=p) (e:=p) (by rw[h];trivial) (.inl rfl) (λb u hb q=>(mw _ _ (Ne.symm hb)).trans q) ⟨_,e⟩ ?_;exact⟨hz,its',n',r,e⟩
def Fh:V->V->V->Hp->(Hp->Prop)->Prop:=λo i v H Q=>∃p xs k j,o=.ref p/\i=.int k/\H p=some (.lst xs)/\qy xs.length k=some j/\Q (au H p (.lst (xs.set j v)))
theorem LO:w6 X Fh:=by
 intro OS s σ H o i v ov iv u Q I ro ri rv h;obtain⟨p,xs,k,j,rfl,rfl,hp,hj,q⟩:=h;cases ro;obtain⟨t,rfl⟩:=ri;obtain⟨its,n,r,ho,hz⟩:=I.lst hp;obtain⟨h1,h2,h3,h4⟩:=Ab hj;have hl:=r.length;have hn:=nQ;have I':ag X OS σ (au H p (.lst (xs.set j v))) {s with heap:=s.heap.update p (Obj.mapSeq (·.setIfInBounds j u))}:=
  I.lstUpd hp ho (L0 its n j u) (r.set rv j) (by rw[ix];exact hz) s.toks
 by_cases h0:0<=k
 ·have hk:k.toNat=j:=by
   rw[seqIndex_of h0 h4]at h1;exact Option.some.inj h1
  exact PySem.W.ki_setAt ho h0 (by omega) (by rw[cg,<-hl];exact h4) (by rw[hk];exact⟨_,I',q⟩)
 ·have hk:(k+(its.toArray.size:Int)).toNat=j:=by
   rw[seqIndex_neg (by omega) h3]at h1;rw[cg,<-hl];exact Option.some.inj h1
  exact PySem.W.ki_setBack ho (by omega) (by rw[cg,<-hl];exact h3) (by omega) (by rw[hk];exact⟨_,I',q⟩)
theorem Np(lo hi:Option Int)(n:Nat):(sliceBounds lo hi none n).1=((HT.sIx n 0 lo:Nat):Int)/\(sliceBounds lo hi none n).2.1=((HT.sIx n n hi:Nat):Int)/\(sliceBounds lo hi none n).2.2=1:=by
 refine⟨?_,?_,rfl⟩
 ·cases lo with
  |none=>simp[sliceBounds,HT.sIx]
  |some i=>
   simp only[sliceBounds,HT.sIx,Option.getD_none,show(1:Int) > 0 by decide,if_true];by_cases h:i<0
   ·simp only[h,if_true]<;>omega
   ·simp only[h,if_false]<;>omega
 ·cases hi with
  |none=>simp[sliceBounds,HT.sIx]
  |some i=>
   simp only[sliceBounds,HT.sIx,Option.getD_none,show(1:Int) > 0 by decide,if_true];by_cases h:i<0
   ·simp only[h,if_true]<;>omega
   ·simp only[h,if_false]<;>omega
theorem MY(its:List Value)(lo hi:Option Int):slicePick its.toArray lo hi none=((its.drop (HT.sIx its.length 0 lo)).take (HT.sIx its.length its.length hi-HT.sIx its.length 0 lo)).toArray:=by
 obtain⟨h1,h2,h3⟩:=Np lo hi its.toArray.size;unfold slicePick;rw[h1,h2,h3];simp only[sliceRange_one,pick_run,cg]<;>rfl
def Ec(K:W.Frag):V->Option Int->Option Int->Hp->VK->Prop:=λx lo hi H Q=>∃a xs,x=.ref a/\bx K H a xs/\∀p,H p=none->Q (.ref p) (au H p (.lst (gZ xs lo hi)))
theorem sl_list:o9 X (Ec X.K):=by
 intro OS s σ H x v vl vu lo hi sl Q I rx hs pl pu h;obtain⟨a,xs,rfl,hx,q⟩:=h;cases rx;obtain⟨its,r,ht,hz⟩:=I.list hx;have hlen:=r.length;refine⟨"list",_,slot_list_getitem.lookup,ht.isList.typeIs,?_⟩;refine wpAny_getItem_list_slice ht.isList hs pl pu .none (by simp) ?_ (by rw[cg]<;>omega);rw[MY,<-hlen];refine⟨.ref s.heap.objs.size,_,I.laid (t':=s.toks) (o:=.lst (gZ xs lo hi)) (λb ob q=>bh _ q) (bg _) ?_,rfl,q _ (I.hok.fresh (bg _))⟩;exact⟨cx (Ct xs lo hi) hz,_,0,(r.drop (HT.sIx xs.length 0 lo)).take (HT.sIx xs.length xs.length hi-HT.sIx xs.length 0 lo),ck _ rfl⟩
def eE:V->Bool
 |.non=>true
 |.bl _=>true
 |.int _=>true
 |.str _=>true
 |_=>false
def di:V->V->Bool
 |.non,.non=>true
 |.bl a,.bl b=>a==b
 |.bl a,.int b=>(if a then 1 else 0)==b
 |.int a,.bl b=>a==(if b then 1 else 0)
 |.int a,.int b=>a==b
 |.str a,.str b=>a==b
 |_,_=>false
theorem x9{A:Around}{s:Shared}{y x:V}{u v:Value}(ry:ah y u)(rx:ah x v)(fy:eE y=true)(fx:eE x=true):SeqAt.EqAt A s u v (di y x):=by
 cases y with
 |non=>
  cases ry;cases x with
  |non=>cases rx;exact SeqAt.EqAt.same _
  |bl b=>cases rx;exact SeqAt.EqAt.none_bool b
  |int b=>obtain⟨t,rfl⟩:=rx;exact SeqAt.EqAt.none_int b t
  |str b=>obtain⟨t,rfl⟩:=rx;exact SeqAt.EqAt.none_str b t
  |_=>exact absurd (show false=true from fx) cq
 |bl a=>
  cases ry;cases x with
  |non=>cases rx;exact SeqAt.EqAt.bool_none a
  |bl b=>cases rx;exact SeqAt.EqAt.bool_bool a b
  |int b=>obtain⟨t,rfl⟩:=rx;exact SeqAt.EqAt.bool_int a b t
  |str b=>obtain⟨t,rfl⟩:=rx;exact SeqAt.EqAt.bool_str a b t
  |_=>exact absurd (show false=true from fx) cq
 |int a=>
  obtain⟨t',rfl⟩:=ry;cases x with
  |non=>cases rx;exact SeqAt.EqAt.int_none a t'
  |bl b=>cases rx;exact SeqAt.EqAt.int_bool a t' b
  |int b=>obtain⟨t,rfl⟩:=rx;exact SeqAt.EqAt.int_int a t' b t
  |str b=>obtain⟨t,rfl⟩:=rx;exact SeqAt.EqAt.int_str a t' b t
  |_=>exact absurd (show false=true from fx) cq
 |str a=>
  obtain⟨t',rfl⟩:=ry;cases x with
  |non=>cases rx;exact SeqAt.EqAt.str_none a t'
  |bl b=>cases rx;exact SeqAt.EqAt.str_bool a t' b
  |int b=>obtain⟨t,rfl⟩:=rx;exact SeqAt.EqAt.str_int a t' b t
  |str b=>obtain⟨t,rfl⟩:=rx;exact SeqAt.EqAt.str_str a t' b t
  |_=>exact absurd (show false=true from fx) cq
 |_=>exact absurd (show false=true from fy) cq
theorem op_notIn_str:cn X (compareOp .NotIn) (λx y H Q=>∃i j,x=.str i/\y=.str j/\Q (.bl (!(!(Builtin.Str.occurrences j i 0 j.length 1).isEmpty))) H):=by
 intro OS s σ H x y v u Q I rx ry h;obtain⟨i,j,rfl,rfl,q⟩:=h;obtain⟨t,rfl⟩:=rx;obtain⟨t',rfl⟩:=ry;exact notIn_str ⟨.bl _,H,I,rfl,q⟩
theorem call_len_seq:aq X (.builtin "len") (λxs H Q=>∃p ys,xs=[.ref p]/\(bx X.K H p ys\/cv X.K H p ys)/\Q (.int ys.length) H):=by
 intro OS s σ H xs us Q I r h;obtain⟨p,ys,rfl,hq,q⟩:=h;obtain⟨u,rfl,rx⟩:=cI r;cases rx;have hn:=nQ;rcases hq with hq|hq
 ·obtain⟨its,r',pl,hz⟩:=I.list hq;have hlen:=r'.length;exact Calls.call_len_list pl.isList (by simp only[cg]<;>omega) ⟨.int ys.length,H,I.tok _,⟨s.toks+1,by rw[cg,hlen]⟩,q⟩
 ·obtain⟨its,r',pl,hz⟩:=I.tuple hq;have hlen:=r'.length;exact len_tuple pl (by simp only[cg]<;>omega) ⟨.int ys.length,H,I.tok _,⟨s.toks+1,by rw[cg,hlen]⟩,q⟩
theorem call_len_str:aq X (.builtin "len") (λxs H Q=>∃z,xs=[.str z]/\z.length<=sizeLine/\Q (.int z.length) H):=by
 intro OS s σ H xs us Q I r h;obtain⟨z,rfl,hz,q⟩:=h;obtain⟨u,rfl,t,rfl⟩:=cI r;have hn:=nQ;exact len_str (by omega) ⟨.int z.length,H,I.tok _,⟨_,rfl⟩,q⟩
theorem aq.or{f:Value}{r r':List V->Hp->VK->Prop}(h:aq X f r)(h':aq X f r'):aq X f (λxs H Q=>r xs H Q\/r' xs H Q):=by
 intro OS s σ H xs us Q I rs q;rcases q with q|q
 ·exact h OS s σ H xs us Q I rs q
 ·exact h' OS s σ H xs us Q I rs q
theorem CD:aq X (.type "list") (λxs H Q=>∃p ys,xs=[.ref p]/\(bx X.K H p ys\/cv X.K H p ys)/\∀l,H l=none->Q (.ref l) (au H l (.lst ys))):=by
 intro OS s σ H xs us Q I r h;obtain⟨p,ys,rfl,hq,q⟩:=h;obtain⟨u,rfl,rx⟩:=cI r;cases rx;have fin:∀(its:List Value),ai ys its->ys.length<=sizeLine->∀(h':Heap) (c':Nat),(∀b o',s.heap.get? b=some o'->h'.get? b=some o') ->
   h'.get? s.heap.objs.size=some {cls:=.type "list",dict:=none,data:=.seq its.toArray c',slots:=#[]}->EP X OS σ Q (.ref s.heap.objs.size) {s with heap:=h'}:=λits r' hz h' c' kp e=>
  ⟨.ref s.heap.objs.size,_,I.laid (t':=s.toks) kp (bg _) (show ay X.prog X.w _ h' _ (.lst ys) from ⟨hz,its,c',r',e⟩),rfl,q _ (I.hok.fresh (bg _))⟩
 rcases hq with hq|hq
 ·obtain⟨its,r',pl,hz⟩:=I.list hq;have hlen:=r'.length;obtain⟨o,ho,hc,n,hd⟩:=pl.isList;exact call_list_seq p (.inl rfl) ho hc hd (λh' c' kp e=>fin its r' hz h' c' kp e) (by simp only[cg]<;>omega)
 ·obtain⟨its,r',pl,hz⟩:=I.tuple hq;have hlen:=r'.length;obtain⟨o,ho,hc,n,hd⟩:=pl;exact call_list_seq p (.inr rfl) ho hc hd (λh' c' kp e=>fin its r' hz h' c' kp e) (by simp only[cg]<;>omega)
theorem Nv:aq X (.type "tuple") (λxs H Q=>∃p ys,xs=[.ref p]/\((bx X.K H p ys/\∀l,H l=none->Q (.ref l) (au H l (.tup ys)))\/(cv X.K H p ys/\Q (.ref p) H))):=by
 intro OS s σ H xs us Q I r h;obtain⟨p,ys,rfl,h⟩:=h;obtain⟨u,rfl,rx⟩:=cI r;cases rx;rcases h with⟨hq,q⟩|⟨hq,q⟩
 ·obtain⟨its,r',pl,hz⟩:=I.list hq;have hlen:=r'.length;refine call_tuple_list pl.isList (λh' kp=>?_) (by simp only[cg]<;>omega);have I1:ag X OS σ H {s with heap:=h'}:=I.kept (t':=s.toks) kp;have I2:ag X OS σ (au H h'.objs.size (.tup ys)) {s with heap:=h'.push {cls:=.type "tuple",data:=.seq its.toArray}}:=
   I1.laid (t':=s.toks) (λb o e=>bh _ e) (bg _) (show ay X.prog X.w _ _ _ (.tup ys) from ⟨hz,its,r',IsTup.new _ _⟩)
  exact⟨.ref h'.objs.size,_,I2,rfl,q _ (I1.hok.fresh (bg _))⟩
 ·obtain⟨its,r',pl,hz⟩:=I.tuple hq;exact call_tuple_same pl ⟨.ref p,H,I,rfl,q⟩
def vg(K:W.Frag)(T:String)(x:V)(H:Hp):Prop:=match x with
 |.str _=>T="str"
 |.int _=>T="int"
 |.ref p=>(T="list"/\∃xs,bx K H p xs)\/(T="tuple"/\∃o,K.lookup p=some o/\o.cls=.type "tuple"/\o.dict=none) \/
   (T="dict"/\((∃kvs,H p=some (.dK kvs))\/∃kvs,H p=some (.dT kvs)))\/(T="set"/\∃S n,H p=some (.set S n))
 |_=>False
theorem AM{OS:List (Addr×Obj)}{σ:St}{H:Hp}{s:Shared}{T:String}{x:V}{v:Value}(I:ag X OS σ H s)(r:ah x v)(ty:vg X.K T x H):
  s.TypeIs v T/\∀a,v=.ref a->∃ob,s.heap.get? a=some ob/\ob.dict=none:=by
 cases x with
 |str z=>
  obtain⟨t,rfl⟩:=r;cases (show T="str" from ty);exact⟨typeIs_str s z t,λ_ e=>nomatch e⟩
 |int i=>
  obtain⟨t,rfl⟩:=r;cases (show T="int" from ty);exact⟨typeIs_int s i t,λ_ e=>nomatch e⟩
 |ref p=>
  cases r;rcases ty with⟨rfl,xs,hq⟩|⟨rfl,o,hk,hc,hd⟩|⟨rfl,hk⟩|⟨rfl,S,n,hk⟩
  ·obtain⟨its,_,pl,_⟩:=I.list hq;refine⟨pl.isList.typeIs,λa e=>?_⟩;cases e;obtain⟨o,n,e,c,hd,_⟩:=pl;exact⟨o,e,hd⟩
  ·refine⟨⟨o,I.kIn p o hk,hc⟩,λa e=>?_⟩;cases e;exact⟨o,I.kIn _ o hk,hd⟩
  ·have z:∃o,s.heap.get? p=some o/\o.ExactDict:=by
    rcases hk with⟨kvs,hk⟩|⟨kvs,hk⟩
    ·obtain⟨_,_,_,_,o,_,_,e,ex,_⟩:=I.hok p _ hk;exact⟨o,e,ex⟩
    ·obtain⟨_,_,_,_,o,_,_,e,ex,_⟩:=I.hok p _ hk;exact⟨o,e,ex⟩
   obtain⟨o,e,ex⟩:=z;refine⟨⟨o,e,ex.1⟩,λa e2=>?_⟩;cases e2;exact⟨o,e,ex.2.1⟩
  ·obtain⟨o,_,_,_,e,ex,_⟩:=I.hok p _ hk;refine⟨⟨o,e,ex.1⟩,λa e2=>?_⟩;cases e2;exact⟨o,e,ex.2.1⟩
 |_=>exact False.elim ty
def FT(K:W.Frag)(T:String)(r:V->List V->Hp->VK->Prop)(to:TE):TE:=λσ H Q=>to σ H λx H1=>vg K T x H1/\r x [] H1 Q
def NX(K:W.Frag)(T:String)(r:V->List V->Hp->VK->Prop)(to:TE)(t:TA):TE:=λσ H Q=>to σ H λx H1=>vg K T x H1/\t σ H1 λxs H2=>r x xs H2 Q
variable{o e:Expr}{es:List Expr}{to:TE}{t:TA}{name:Str}{OY OW:Pos}{T id:String}{r:V->List V->Hp->VK->Prop}
theorem Gq(pa:PlainAttrs T)(slot:Slot T name id)(hty:typeOf (.builtin id)=pure (.type "method_descriptor"))(hm:ug X id r)(ho:PE X o to)
  (O3:attributeBase o name X.env (eval o X.env)=eval o X.env:=by rfl) (O1:(OY.endLine==OW.line)=true:=by rfl):PE X (.Call (.Attribute o name OY) [] [] OW) (FT X.K T r to):=by
 intro OS s σ H Q I h;refine wpAny_Call_method0_late O3 O1 (bq (ho OS s σ H _ I h) λv s1 ⟨x,H1,I1,r1,ty,q1⟩=>?_);obtain⟨h1,h2⟩:=AM I1 r1 ty;exact⟨T,id,pa,slot,hty,h1,h2,Calls.callWith_builtin rfl (PySem.evalArgs_none (hm OS s1 σ H1 x [] v [] Q I1 r1 .nil q1))⟩
theorem qB(pa:PlainAttrs T)(slot:Slot T name id)(hty:typeOf (.builtin id)=pure (.type "method_descriptor"))(hm:ug X id r)(ho:PE X o to)(ha:PA X (e::es) t)
  (O3:attributeBase o name X.env (eval o X.env)=eval o X.env:=by rfl)
  (hfew:((backTo OW (starEach (e::es) X.env)).all (λx=>!x.1)&&(backToKw OW (keywordEach [] X.env)).all (λx=>x.1.isSome)
   && decide ((e::es).length+([]:List Keyword).length+(if ([]:List Keyword).isEmpty then 0 else 1)<30))=true:=by rfl)
  (O1:(OY.endLine==OW.line)=true:=by rfl) (hs:starEach (e::es) X.env=(false,eval e X.env)::starEach es X.env:=by rfl) (O0:(backTo OW (starEach es X.env)).any (·.1)=false:=by rfl):
  PE X (.Call (.Attribute o name OY) (e::es) [] OW) (NX X.K T r to t):=by
 intro OS s σ H Q I h;refine wpAny_Call_method_late O3 hfew O1 rfl (bq (ho OS s σ H _ I h) λv s1 ⟨x,H1,I1,r1,ty,q1⟩=>?_);obtain⟨h1,h2⟩:=AM I1 r1 ty;refine⟨T,id,pa,slot,hty,h1,h2,?_⟩;have hA:=ha OW OS s1 σ H1 _ I1 q1;rw[hs]at hA ⊢;refine Calls.callWith_builtin (by show(false || (backTo OW (starEach es X.env)).any (·.1))=false;rw[O0]<;>rfl) (Calls.evalArgs_plain ?_);exact bq hA λus s2 ⟨vs,H2,I2,r2,q2⟩=>hm OS s2 σ H2 x vs v us Q I2 r1 r2 q2
end
def tp(X:Cx)(id:String)(r:V->List V->Hp->VK->Prop):Prop:=
 ∀(OS:List (Addr×Obj)) (s:Shared) (σ:St) (H:Hp) (x:V) (xs:List V) (v:Value) (us:List Value) (Q:VK),ag X OS σ H s->ah x v->ai xs us->r x xs H Q ->
  wpAny (model X.prog X.w) X.A (call (.builtin id) (v::us)) (EP X OS σ Q) X.xe s
theorem ai.one:∀{x:V}{us:List Value},ai [x] us->∃u,us=[u]/\ah x u
 |_,_,.cons r .nil=>⟨_,rfl,r⟩
theorem ai.zero:∀{us:List Value},ai [] us->us=[]
 |_,.nil=>rfl
theorem ai.dropLast{xs:List V}{us:List Value}(h:ai xs us):ai xs.dropLast us.dropLast:=by
 induction h with
 |nil=>exact .nil
 |cons r t ih=>
  cases t with
  |nil=>exact .nil
  |cons q t'=>exact .cons r ih
theorem ai.eraseIdx:∀{xs:List V}{us:List Value}(i:Nat),ai xs us->ai (xs.eraseIdx i) (us.eraseIdx i)
 |_,_,_,.nil=>.nil
 |_,_,0,.cons _ t=>t
 |_,_,i+1,.cons r t=>.cons r (ai.eraseIdx i t)
theorem ai.reverse{xs:List V}{us:List Value}(h:ai xs us):ai xs.reverse us.reverse:=by
 induction h with
 |nil=>exact .nil
 |cons r t ih=>rw[sv,sv];exact ai.append ih (.cons r .nil)
theorem ai.rep{xs:List V}{us:List Value}(h:ai xs us):∀k:Nat,ai (List.replicate k xs).flatten (List.replicate k us).flatten
 |0=>.nil
 |k+1=>by
  rw[i4,i4,i9,i9];exact ai.append h (ai.rep h k)
theorem LW{α:Type}(l:List α):l.eraseIdx (l.length-1)=l.dropLast:=by
 induction l with
 |nil=>rfl
 |cons a r ih=>
  cases r with
  |nil=>rfl
  |cons b r=>
   have e:(a::b::r).length-1=((b::r).length-1)+1:=by
    have h1:(a::b::r).length=r.length+2:=rfl;have h2:(b::r).length=r.length+1:=rfl;omega
   rw[e,List.eraseIdx_cons_succ,ih]
   all_goals rfl
theorem Dm{α:Type}:∀(l:List α) (i:Nat),(l.eraseIdx i).length<=l.length
 |[],_=>bg _
 |_::_,0=>jl _
 |_::r,i+1=>Nat.succ_le_succ (Dm r i)
theorem Dg(its:List Value):∀(k:Nat) (acc:List Value),
  List.foldl (λx1 x2=>x1++x2) acc.toArray (List.replicate k its.toArray)=(acc++(List.replicate k its).flatten).toArray
 |0,acc=>by simp
 |k+1,acc=>by
  have e:acc.toArray++its.toArray=(acc++its).toArray:=by simp
  have e2:(acc++its)++(List.replicate k its).flatten=acc++(List.replicate (k+1) its).flatten:=by
   rw[i4,i9,e_]
  rw[<-e2,<-Dg its k (acc++its),<-e,i4,j8]
section
variable{X:Cx}{OS:List (Addr×Obj)}{σ:St}{H:Hp}{s:Shared}{l b:Addr}{xs ys zs:List V}
theorem ag.lset{its its':List Value}{n:Nat}{f:Array Value->Array Value}{t':Nat}(I:ag X OS σ H s)(hH:H l=some (.lst xs))
  (e:s.heap.get? l=some {cls:=.type "list",data:=.seq its.toArray n}) (hf:f its.toArray=its'.toArray) (hv:ai ys its') (hz:ys.length<=sizeLine):
  ag X OS σ (au H l (.lst ys)) {s with heap:=s.heap.update l (Obj.mapSeq f),toks:=t'}:=by
 have q:=PySem.IsL.update e f;rw[hf]at q;refine I.write (x:=l) (e:=l) (by rw[hH];exact trivial) (.inl rfl) (λb' u hb hu=>(mw s.heap (Obj.mapSeq f) (Ne.symm hb)).trans hu) ⟨_,q⟩ ?_;exact⟨hz,its',_,hv,q⟩
theorem ag.lnew{its:List Value}{t':Nat}(I:ag X OS σ H s)(hv:ai ys its)(hz:ys.length<=sizeLine):
  ag X OS σ (au H s.heap.objs.size (.lst ys)) {s with heap:=s.heap.push {cls:=.type "list",data:=.seq its.toArray},toks:=t'}:=
 I.laid (λ_ _ q=>bh _ q) (bg _) ⟨hz,its,0,hv,ck _ rfl⟩
theorem ag.fresh(I:ag X OS σ H s):H s.heap.objs.size=none:=I.hok.fresh (bg _)
theorem ag.lstM(I:ag X OS σ H s)(hH:H l=some (.lst xs)):xs.length<=sizeLine/\∃(its:List Value) (n:Nat),ai xs its/\xs.length=its.length/\s.heap.get? l=some {cls:=.type "list",data:=.seq its.toArray n}:=by
 obtain⟨z,its,n,r,e⟩:=I.hok l _ hH;exact⟨z,its,n,r,r.length,e⟩
theorem B6{n:Nat}(h:n<=sizeLine):Builtin.List.listTooLong n=false:=by
 unfold Builtin.List.listTooLong;exact iq (by omega)
end
section
variable{X:Cx}
def II:V->List V->Hp->VK->Prop:=λx vs H Q=>∃l xs y,x=.ref l/\vs=[y]/\H l=some (.lst xs)/\xs.length<sizeLine/\Q .non (au H l (.lst (xs++[y])))
theorem vP:tp X "list.append" II:=by
 intro OS s σ H x vs v us Q I rx rv h;obtain⟨l,xs,y,rfl,rfl,hH,hz,q⟩:=h;cases rx;obtain⟨u,rfl,ru⟩:=rv.one;obtain⟨z,its,n,r,hl,e⟩:=I.lstM hH;refine call_meets F.slot_list_append ⟨_,e,rfl⟩ F.entry_list_append (F.args_list_append_2 _ _) (PySem.list_append l its.toArray n u (by rw[cg];omega)) ⟨e,?_⟩;refine⟨.non,_,I.lset (its':=its++[u]) hH e (by simp) (r.append (.cons ru .nil)) ?_,rfl,q⟩;rw[bw,j7];omega
def Eb:V->List V->Hp->VK->Prop:=λx vs H Q=>∃l xs y,x=.ref l/\vs=[]/\H l=some (.lst xs)/\xs[xs.length-1]?=some y/\Q y (au H l (.lst xs.dropLast))
theorem Gb:tp X "list.pop" Eb:=by
 intro OS s σ H x vs v us Q I rx rv h;obtain⟨l,xs,y,rfl,rfl,hH,hy,q⟩:=h;cases rx;have hus:=rv.zero;subst hus;obtain⟨z,its,n,r,hl,e⟩:=I.lstM hH;obtain⟨u,hu,ru⟩:=r.get hy;have hy':its.toArray[its.toArray.size-1]?=some u:=by
  show its.toArray[its.length-1]?=some u;rw[<-h9,<-hl];exact hu
 refine call_meets F.slot_list_pop ⟨_,e,rfl⟩ F.entry_list_pop (F.args_list_pop_1 _) (MeetsSeq.list_pop_last l its.toArray n u hy' (by rw[cg];omega)) ⟨e,?_⟩;refine⟨y,_,I.lset (its':=its.dropLast) hH e ?_ r.dropLast ?_,ru,q⟩
 ·show its.toArray.eraseIdxIfInBounds (its.toArray.size-1)=its.dropLast.toArray;rw[cg,um,LW]
 ·rw[List.length_dropLast];omega
def HM:V->List V->Hp->VK->Prop:=λx vs H Q=>∃l xs i k y,x=.ref l/\vs=[.int i]/\H l=some (.lst xs) /\ -(2 ^ 63)<=i/\i<2 ^ 63/\seqIndex? i xs.length=some k/\xs[k]?=some y/\Q y (au H l (.lst (xs.eraseIdx k)))
theorem JY:tp X "list.pop" HM:=by
 intro OS s σ H x vs v us Q I rx rv h;obtain⟨l,xs,i,k,y,rfl,rfl,hH,h1,h2,hk,hy,q⟩:=h;cases rx;obtain⟨u,rfl,ru⟩:=rv.one;obtain⟨t,rfl⟩:=ru;obtain⟨z,its,n,r,hl,e⟩:=I.lstM hH;obtain⟨w,hw,rw'⟩:=r.get hy;refine call_meets F.slot_list_pop ⟨_,e,rfl⟩ F.entry_list_pop (F.args_list_pop_2 _ _)
  (MeetsSeq.list_pop_at l its.toArray n i t k w (fitsIndex_both h1 h2) (by rw[cg,<-hl];exact hk) (by rw[<-h9];exact hw) (by rw[cg];omega)) ⟨e,?_⟩
 refine⟨y,_,I.lset (its':=its.eraseIdx k) hH e ?_ (r.eraseIdx k) ?_,rw',q⟩
 ·show its.toArray.eraseIdxIfInBounds k=(its.eraseIdx k).toArray;rw[um]
 ·have:=Dm xs k;omega
theorem xK{α:Type}(xs:List α)(k:Nat):(List.replicate k xs).flatten.length=k*xs.length:=by
 induction k with
 |zero=>simp
 |succ k ih=>rw[i4,i9,bw,ih,Nat.succ_mul,Nat.add_comm]
end
end L2
namespace Att
open PySem PySem.W PySem.Calls PyProof.Rows
theorem M5{P:Params}{h:Heap}:∀(ns:List Int) (vs:List Value),WellAll P h vs (ns.map WData.int)->IntsAre vs ns:=by
 intro ns
 induction ns with
 |nil=>
  intro vs w;rw[qi]at w;cases w;exact .nil
 |cons n ns ih=>
  intro vs w;rw[e6]at w;cases w with
  |cons a b=>
   cases a;exact .cons _ _ (ih _ b)
theorem MV{l:OpenLaw}{n:Nat}(hn:l.most=some n){P:Params}{h:Heap}{args:List WData}{vals:List Value}
  (hpre:l.row.toRowW.claim.pre args=true) (hwl:WellAll P h vals args):
  ∃a vs ns,vals=[Value.ref a]/\args=[WData.list (ns.map WData.int)]/\h.get? a=some {cls:=.type "list",data:=.seq vs.toArray}/\IntsAre vs ns/\ns.length<=n:=by
 have hsh:WShape.hasAll [] args [.list .int]=true:=(pre_splitW hpre).1;have hc:l.pre.holds [] {args:=args}=true:=(pre_splitW hpre).2;obtain⟨d,r,rfl,h1,h2⟩:=hasAllW_cons hsh;obtain rfl:=hasAllW_nil h2;obtain⟨xs,rfl,h3⟩:=hasW_list h1;obtain⟨ns,rfl⟩:=items_int h3;have hlen:ns.length<=n:=by
  unfold OpenLaw.pre at hc;have h4:(WTm.not (.lt (.lit (.int (n:Int))) (.len (.arg 0)))).holds [] {args:=[.list (ns.map .int)]}=true:=by
   have h4:=(holds_andW hc).1;rw[hn]at h4;exact h4
  have h5:=condW_of h4 (w_not (w_lt w_lit (w_len_list (w_arg rfl))));rw[ak]at h5;refine su λq=>?_
  have q':(n:Int)<((ns.length:Nat):Int):=by omega
  first
   |(rw[gp q']at h5;exact absurd h5 (by decide))
   |(simp at h5;omega)
 cases hwl with
 |cons w1 w2=>
  cases w2;cases w1 with
  |list ho hall=>exact⟨_,_,ns,rfl,rfl,ho,M5 ns _ hall,hlen⟩
theorem MN(l:OpenLaw)(args:List WData):l.row.toRowW.claim.post args (.bool true) args=true:=
 postW_of (r:=l.row.toRowW) (X:=(true==true))
  (show WShape.has [] (.bool true) .bool=true by first|rfl|decide|simp[WShape.has,WShape.arms,WShape.armsAll])
  (show(WTm.eq .res (.lit (.bool true))).value [] {args:=args,res:=some (.bool true),after:=args}=some (.bool (true==true)) from w_eq_bool (w_res rfl) w_lit) rfl
theorem attach_call{l:OpenLaw}{n:Nat}{q:Program}{loose:List Str}{XP:(Str->Option Value)->Heap->Prop}{YP:World->Heap->Prop}{d:DefRec}
  (hn:l.most=some n) (hdf:d.params.defaults=[])
  (call:∀(w:World) (s₀ s₁:Shared) (mg mb:Str->Option Value) (fa:Addr) (o:Obj) (pm cd doc:Value) (a:Addr) (vs:List Value) (ns:List Int),
   Ground q loose [] XP w s₀ mg mb s₁.heap->YP w s₁.heap ->
   s₁.heap.get? fa=some o->o.data=.func (docDef d.name d.params d.body d.scope pm cd doc)->s₁.heap.CodeRec cd d.name->mg d.name=some (.ref fa) ->
   s₁.heap.get? a=some {cls:=.type "list",data:=.seq vs.toArray}->IntsAre vs ns->ns.length<=n->s₁.gens=#[] ->
   codeAny (model l.prog w) callerA (.call (.ref fa) ⟨[.ref a],[]⟩) (λr s'=>r=.ok (.ret (.bool true))/\OldK s₁.heap s'.heap/\s'.os=s₁.os/\AllBare s'.gens) s₁):
  WalkO q loose XP YP l.row.toRowW d [] (λf vs=>PySem.call f vs):=by
 intro w s₀ s₁ mg mb G Y fa o pm cd doc dV kV ho hd hcd hD hmg hg args vals as hpre hlay hrd hwl hlo;obtain rfl:dV=.none:=Dflts.none hD hdf;obtain rfl:kV=.none:=Dflts.noKw hD;obtain⟨a,vs,ns,rfl,rfl,hobj,hints,hlen⟩:=MV hn hpre hwl;refine enter_call (codeAny_mono (call w s₀ s₁ mg mb fa o pm cd doc a vs ns G Y ho (fd_plain hd) hcd hmg hobj hints hlen hg) λr s' hq=>?_);obtain⟨rfl,h2,h3,h4⟩:=hq;exact⟨.inl ⟨.bool true,.bool true,[],rfl,λ_=>rfl,.bool true,MN l _,λ_=>⟨List.Pairwise.nil,λ_ hm=>(nomatch hm)⟩⟩,h2,h3,h4⟩
end Att
namespace L2
open PySem PySem.Spec PyProof.Rows
theorem C2:∀{vs:List Value}{ns:List Int},IntsAre vs ns->ai (ns.map V.int) vs
 |_,_,.nil=>.nil
 |_,_,.cons n t h=>.cons ⟨t,rfl⟩ (C2 h)
def zU(H:Hp):Prop:=∀b,H b=none\/∃o xs,H b=some (.frz o (.lst xs))
theorem JO{P:Program}{w:World}{K:W.Frag}{mg mb:Str->Option Value}{CX:oz}{k:Nat}{fa a:Addr}{fd:FuncData}{x:Str}{sp:Sp}{s₁:Shared}{vs:List Value}{ns:List Int}
  (KX:K.In s₁.heap) (hns:s₁.heap.Ns mainGlobals mg) (hb:s₁.heap.Ns builtinsNs mb) (hbb:∀x:Str,x≠"__name__"->mb x=bootBuiltins x) (hlim:s₁.heap.NoLimit) (hg:s₁.gens=#[])
  (ha:s₁.heap.get? a=some {cls:=.type "list",data:=.seq vs.toArray}) (hi:IntsAre vs ns) (hl:ns.length<=sizeLine) (hr:bt k callerA)
  (F:∀base:Heap,K.In base->base.Ns mainGlobals mg->f_ P w K mg base CX k fa fd [x] sp) (hbind:∀(s:Shared) (u:Value),BindsTo s fd ⟨[u],[]⟩ [(x,u)])
  (hsp:∀H:Hp,zU H->bx K H a (ns.map V.int)->sp [.ref a] H (λv _=>v=.bl true) λ_ _ _=>False)
  (hCX:∀H e s',CX [] H s₁ (λ_ _ _=>False) e s'->False):
  codeAny (model P w) callerA (.call (.ref fa) ⟨[.ref a],[]⟩) (λr s'=>r=.ok (.ret (.bool true))/\OldK s₁.heap s'.heap/\s'.os=s₁.os/\AllBare s'.gens) s₁:=by
 have rv:=C2 hi;have lenV:=hi.length
 -- from an abstract heap in which nothing but the script may be tracked
 have core:∀H:Hp,zU H->bx K H a (ns.map V.int)->fj P w H s₁.heap->(∀b,H b≠none->b=a)->(H a≠none->K.lookup a=none) ->
   codeAny (model P w) callerA (.call (.ref fa) ⟨[.ref a],[]⟩) (λr s'=>r=.ok (.ret (.bool true))/\OldK s₁.heap s'.heap/\s'.os=s₁.os/\AllBare s'.gens) s₁:=by
  intro H hO hS hok hA hK;have base_of:∀{b:Addr} {o:Obj},s₁.heap.get? b=some o->H b=none->(jX s₁.heap H).get? b=some o:=λe n=>JG e n
  have noA:∀{b:Addr} {o:Obj} {es:Array DictEntry} {ep:Nat},s₁.heap.get? b=some o->o.data=.dict es ep->H b=none:=λ{b o es ep} e d=>by
   cases q:H b with
   |none=>rfl
   |some u=>
    have e':b=a:=hA b (by rw[q];simp);subst e';rw[ha]at e;cases e;have d':Data.seq vs.toArray _=Data.dict es ep:=d;cases d'
  have nsK:∀{b:Addr} {m:Str->Option Value},s₁.heap.Ns b m->(jX s₁.heap H).Ns b m:=λ{b m} ⟨o,es,ep,e,d,r⟩=>⟨o,es,ep,base_of e (noA e d),d,r⟩
  have hKb:K.In (jX s₁.heap H):=λb o e=>base_of (KX b o e) (by
   cases q:H b with
   |none=>rfl
   |some u=>
    have e':b=a:=hA b (by rw[q];simp);subst e'
    rw[hK (by rw[q];simp)]at e;cases e)
  have hM:Mod K mg (jX s₁.heap H):=⟨hKb,nsK hns,⟨mb,nsK hb,hbb⟩,let ⟨mc,h1,h2⟩:=hlim;⟨mc,nsK h1,h2⟩⟩
  have e0:uU P w K mg (jX s₁.heap H) callerA [] s₁ H:=⟨rfl,hM,λb o e=>Jp e,Nat.le_of_eq (KZ _ _),trivial,λb hb=>absurd (show b∈([]:List Addr) from hb) (by simp),hok,.of_eq hg⟩
  refine codeAny_mono ((F _ hKb (nsK hns)).run callerA [] s₁ H ⟨[.ref a],[]⟩ [.ref a] [.ref a] _ _ hr e0 (hbind s₁ (.ref a)) (.cons rfl .nil) (hsp H hO hS)) λr s' h=>?_
  cases r with
  |error e=>exact(hCX H e s' h).elim
  |ok fl=>
   cases fl with
   |next=>exact False.elim h
   |brk=>exact False.elim h
   |cont=>exact False.elim h
   |ret u=>
    obtain⟨v,H',os,bare,un,hok',r',q⟩:=h;have q':v=.bl true:=q;subst q';obtain rfl:u=Value.bool true:=r';refine⟨rfl,OldK.of_keep λb o e=>?_,os,bare⟩;cases q:H b with
    |none=>exact un.keep b o e q (by intro z;exact absurd (show b∈([]:List Addr) from z) (by simp)) (by simp)
    |some u=>
     rcases hO b with z|⟨ob,xs,z⟩
     ·rw[q]at z;cases z
     ·have z2:=un.frzs b ob _ z;obtain⟨e1,_⟩:=hok b _ z;obtain⟨e2,_⟩:=hok' b _ z2;rw[e]at e1;cases e1;exact e2
 cases hk:K.lookup a with
 |some o=>
  -- the script is one of the module's own objects
  have e:=KX a o hk;rw[ha]at e;cases e;refine core (λ_=>none) (λ_=>.inl rfl) (.inr ⟨_,vs.toArray,_,hk,rfl,rfl,rfl,by rw[cg,lenV];exact hl,by simpa using rv⟩) (λb u z=>by have z':(none:Option HO)=some u:=z;cases z') (λb z=>absurd rfl z) λz=>absurd rfl z
 |none=>
  refine core (λb=>if b=a then some (.frz {cls:=.type "list",data:=.seq vs.toArray} (.lst (ns.map V.int))) else none) (λb=>?_) (.inl (.inr ⟨{cls:=.type "list",data:=.seq vs.toArray},if_pos rfl⟩)) (λb u z=>?_) (λb z=>?_) λ_=>hk
  ·by_cases hb:b=a
   ·exact .inr ⟨_,_,if_pos hb⟩
   ·exact .inl (if_neg hb)
  ·by_cases hb:b=a
   ·have z':=(if_pos hb).symm.trans z;cases z';subst hb;exact⟨ha,by rw[ak];exact hl,vs,_,rv,ha⟩
   ·have z':=(if_neg hb).symm.trans z;cases z'
  ·by_cases hb:b=a
   ·exact hb
   ·exact absurd (if_neg hb) z
theorem walk_of{l:W.OpenLaw}{n k:Nat}{q:Program}{loose:List Str}{XP:(Str->Option Value)->Heap->Prop}{YP:World->Heap->Prop}{d:DefRec}{K:Params->W.Frag}{CX:World->oz}{sp:World->Sp}{x:Str}
  (hn:l.most=some n) (hn2:n<=sizeLine) (hdf:d.params.defaults=[]) (hr:bt k callerA)
  (hY:∀(w:World) (h:Heap),YP w h->(K w.params).In h)
  (F:∀(w:World) (mg:Str->Option Value) (fa:Addr) (h:Heap),(K w.params).In h->h.Ns mainGlobals mg->mg d.name=some (.ref fa) ->
   ∃fd:FuncData,(∀(s:Shared) (u:Value),BindsTo s fd ⟨[u],[]⟩ [(x,u)]) /\
    ∀base:Heap,(K w.params).In base->base.Ns mainGlobals mg->f_ l.prog w (K w.params) mg base (CX w) k fa fd [x] (sp w))
  (hsp:∀(w:World) (H:Hp) (a:Addr) (ns:List Int),ns.length<=n->zU H->bx (K w.params) H a (ns.map V.int)->sp w [.ref a] H (λv _=>v=.bl true) λ_ _ _=>False)
  (hCX:∀(w:World) (H:Hp) (s:Shared) (e:Value) (s':Shared),CX w [] H s (λ_ _ _=>False) e s'->False):
  PySem.W.WalkO q loose XP YP l.row.toRowW d [] (λf vs=>PySem.call f vs):=by
 refine Att.attach_call hn hdf λw s₀ s₁ mg mb fa o pm cd doc a vs ns G Y ho hd hcd hmg hobj hints hlen hg=>?_
 have KX:=hY w _ Y;obtain⟨fd,hb,hF⟩:=F w mg fa _ KX G.T.g hmg;exact JO KX G.T.g G.T.b G.T.builtins G.T.nolimit hg hobj hints (cx hlen hn2) hr hF hb (λH hO hS=>hsp w H a ns hlen hO hS) λH e s'=>hCX w H s₁ e s'
def fL(s:Stmt):Arguments:=match s with
 |.FunctionDef _ a _ _ _ _ _ _ _ _=>a
 |_=>{posonlyargs:=[],args:=[],vararg:=none,kwonlyargs:=[],kw_defaults:=[],kwarg:=none,defaults:=[]}
def dE(s:Stmt):List Stmt:=match s with
 |.FunctionDef _ _ b _ _ _ _ _ _ _=>b
 |_=>[]
def aY(s:Stmt):Scope:=match s with
 |.FunctionDef _ _ _ _ _ _ sc _ _ _=>sc
 |_=>{kind:=.function,names:=[],isGenerator:=false,isCoroutine:=false}
abbrev ky:oz:=λ_ _ _ _ _ _=>False
abbrev E0:XK:=λ_ _ _=>False
theorem zm{X:Cx}:tH ky X E0:=λ_ _ _ _ _ _ _ h=>h.elim
structure tq (K:W.Frag) (x qual:Str) (st:Stmt) (f:Addr) (fd:FuncData):Prop where
 ex:∃(oc:Value) (od:Option Addr) (kV doc pm:Value) (an:Option Addr) (OV ct:Value) (osl:Array (Option Value)),
  fd=W.fnOf x qual (fL st) (dE st) (aY st) .none kV doc pm an OV ct/\K.lookup f=some ⟨oc,od,.func fd,osl⟩/\W.codeIn K OV qual=true
 kp:W.keepIn K (.ref f)=true
section
variable{P:Program}{w:World}{K:W.Frag}{mg:Str->Option Value}{base:Heap}
theorem tq.ok{x qual:Str}{st:Stmt}{f:Addr}{fd:FuncData}{N ps:List Str}{k:Nat}{sp:Sp}(F:tq K x qual st f fd)(S:dP N ps (aY st))(len:∀vs H Q E,sp vs H Q E->vs.length=ps.length)
  (OX:∀(OV:Value) (A:Around) (outer:List Env) (s:Shared) (H:Hp) (vs:List V) (Q:VK) (E:XK),bt k (A.deeper (envOfC qual (aY st) s.heap.objs.size f OV))->sp vs H Q E ->
   ∃t,ik (gK ky P w K mg base N qual (aY st) f OV A outer s H E).nox (dE st) t/\t {nx:=λ_ H'=>Q .non H',rt:=Q} (fE N vs) H):f_ P w K mg base ky (k+1) f fd ps sp:=by
 obtain⟨oc,od,kV,doc,pm,an,OV,ct,osl,rfl,lk,hcd⟩:=F.ex;refine FE lk hcd S len λA outer s H vs Q E hr hsp=>?_
 obtain⟨t,h,q⟩:=OX OV A outer s H vs Q E hr hsp;exact⟨t,h.nox,q⟩
theorem tq.binds{x qual:Str}{st:Stmt}{f:Addr}{fd:FuncData}{ps:List Str}(F:tq K x qual st f fd)
  (h:∀(kV doc pm:Value) (an:Option Addr) (OV ct:Value) (us:List Value),us.length=ps.length->bindArgs (W.fnOf x qual (fL st) (dE st) (aY st) .none kV doc pm an OV ct) ⟨us,[]⟩=pure (ps.zip us)):il K fd ps []:=by
 obtain⟨oc,od,kV,doc,pm,an,OV,ct,osl,rfl,lk,hcd⟩:=F.ex;exact .all (h kV doc pm an OV ct)
theorem ya{x qual:Str}{st:Stmt}{f:Addr}{oc:Value}{od an:Option Addr}{osl:Array (Option Value)}{kV doc pm OV ct:Value}(l:K.lookup f=some ⟨oc,od,.func (W.fnOf x qual (fL st) (dE st) (aY st) .none kV doc pm an OV ct),osl⟩)
  (c:W.codeIn K OV qual=true) (k:W.keepIn K (.ref f)=true):tq K x qual st f (W.fnOf x qual (fL st) (dE st) (aY st) .none kV doc pm an OV ct):=⟨⟨oc,od,kV,doc,pm,an,OV,ct,osl,rfl,l,c⟩,k⟩
end
theorem yL{A:Around}{k:Nat}(hr:bt k A):A.units+1<cLine:=ny (Nat.add_le_add_left (by decide:1<=64) _) hr.units
theorem Mp{n:Nat}(h:n<=1000):n<sizeLine:=Nat.lt_of_le_of_lt h (by decide)
section
variable{X:Cx}
theorem pv(i:Nat){x:Str}{pos:Pos}(hN:X.N[i]?=some x:=by rfl)(hv:q0 X.env.scope x:=by first|exact Or.inl rfl|exact Or.inr (Or.inl rfl)|exact Or.inr (Or.inr rfl))(hd:(x==("__debug__":Str))=false:=by decide)
  (hcd:(x==("__classdict__":Str))=false:=by decide):PE X (.Name x pos) (yy i):=nO hN hv hd hcd
end
theorem bH{A B:Prop}(h:B):if false=true then A else B:=by
 rw[if_neg cq];exact h
theorem cT{A B:Prop}(h:A):if true=true then A else B:=by
 rw[if_pos rfl];exact h
theorem DV{c A B:Prop}[Decidable c](h1:c->A)(h2:¬ c->B):if c then A else B:=by
 by_cases h:c
 ·rw[if_pos h];exact h1 h
 ·rw[if_neg h];exact h2 h
def aw(H H':Hp):Prop:=∀b o,H b=some o->H' b=some o
theorem aw.refl(H:Hp):aw H H:=λ_ _ h=>h
theorem aw.trans{H H1 H2:Hp}(a:aw H H1)(b:aw H1 H2):aw H H2:=λc o h=>b c o (a c o h)
theorem aw.free{H H':Hp}(e:aw H H'){l:Addr}(h:H' l=Option.none):H l=Option.none:=by
 cases q:H l with
 |none=>rfl
 |some o=>
  rw[e l o q]at h;cases h
theorem uW{env:Env}:∀(names:List (Str×NameKind)) (acc:List (Str×Addr)),(∀y∈names,y.2=.free->∃c,env.cells.lookup y.1=some c) ->
  ∃cl,(forIn names acc (λ(x:Str×NameKind) (cs:List (Str×Addr))=>if (x.2==NameKind.free)=true then(do let c <- cellOf env x.1;pure (ForInStep.yield ((x.1,c)::cs))) else pure (ForInStep.yield cs)):Sem (List (Str×Addr)))=pure cl /\
   (∀x c,cl.lookup x=some c->env.cells.lookup x=some c\/acc.lookup x=some c)/\(∀x c,acc.lookup x=some c->∃c',cl.lookup x=some c')/\∀y∈names,y.2=.free->∃c,cl.lookup y.1=some c
 |[],acc,_=>⟨acc,rfl,λ_ _ h=>.inr h,λ_ c h=>⟨c,h⟩,λ_ h=>nomatch h⟩
 |(n,k)::r,acc,h=>by
  rw[sk];by_cases hk:k=.free
  ·subst hk;obtain⟨c,hc⟩:=h (n,.free) fe rfl;obtain⟨cl,h1,h2,h3,h4⟩:=uW r ((n,c)::acc) λy hy=>h y (fc _ hy)
   refine⟨cl,?_,λx d e=>?_,λx d e=>?_,λy hy e=>?_⟩
   ·have e1:cellOf env n=pure c:=by unfold cellOf;rw[hc]
    simp only[beq_self_eq_true,if_true,e1,pure_bind];exact h1
   ·rcases h2 x d e with z|z
    ·exact .inl z
    ·rw[ku]at z;split at z
     ·rename_i hx;cases z;have:x=n:=eq_of_beq hx;subst this;exact .inl hc
     ·exact .inr z
   ·refine h3 x (if x==n then c else d) ?_;rw[ku];cases hx:x==n with
    |true=>simp[hx]
    |false=>simp[hx,e]
   ·rcases qe_.mp hy with z|z
    ·subst z;exact h3 n c (by simp[ku])
    ·exact h4 y z e
  ·have hb:(k==NameKind.free)=false:=by simpa using hk
   obtain⟨cl,h1,h2,h3,h4⟩:=uW r acc λy hy=>h y (fc _ hy)
   refine⟨cl,?_,h2,h3,λy hy e=>?_⟩
   ·simp only[hb,n6,if_false,pure_bind];exact h1
   ·rcases qe_.mp hy with z|z
    ·subst z;exact absurd e hk
    ·exact h4 y z e
theorem C9{scope:Scope}{env:Env}(h:∀y∈scope.names,y.2=.free->∃c,env.cells.lookup y.1=some c):
  ∃cl,closureFor scope env=pure cl/\(∀x c,cl.lookup x=some c->env.cells.lookup x=some c)/\∀y∈scope.names,y.2=.free->∃c,cl.lookup y.1=some c:=by
 obtain⟨cl,h1,h2,h3,h4⟩:=uW scope.names [] h;refine⟨cl,?_,λx c e=>(h2 x c e).elim id λz=>(by cases z),h4⟩;unfold closureFor;refine Eq.trans ?_ h1;refine Eq.trans (bind_pure _) ?_;rfl
theorem zX{env:Env}:∀{names:List (Str×NameKind)}{x:Str},names.lookup x=some .free ->
  (names.map λ(n,k)=>if (k==NameKind.free&&env.scope.kind==.function&&env.kindOf n==some .cell) then(n,NameKind.cell) else(n,k)).lookup x=some .cell \/
  (names.map λ(n,k)=>if (k==NameKind.free&&env.scope.kind==.function&&env.kindOf n==some .cell) then(n,NameKind.cell) else(n,k)).lookup x=some .free
 |[],_,h=>by simp at h
 |(n,k)::r,x,h=>by
  have ih:=@zX env r x;show List.lookup x ((if (k==NameKind.free&&env.scope.kind==.function&&env.kindOf n==some .cell)=true then(n,NameKind.cell) else(n,k))::_)=_\/List.lookup x ((if (k==NameKind.free&&env.scope.kind==.function&&env.kindOf n==some .cell)=true then(n,NameKind.cell) else(n,k))::_)=_;by_cases hc:(k==NameKind.free&&env.scope.kind==.function&&env.kindOf n==some .cell)=true
  ·rw[if_pos hc];cases hx:x==n with
   |true=>simp only[ku,hx];exact .inl trivial
   |false=>
    simp only[ku,hx]at h ⊢;exact ih h
  ·rw[if_neg hc];cases hx:x==n with
   |true=>
    simp only[ku,hx]at h ⊢;exact .inr h
   |false=>
    simp only[ku,hx]at h ⊢;exact ih h
theorem Cu{env:Env}{names:List (Str×NameKind)}(hn:∀y∈names,y.2≠.cell){x:Str}{k:NameKind}(hk:k=.cell\/k=.free)
  (h:(names.map λ(n,k)=>if (k==NameKind.free&&env.scope.kind==.function&&env.kindOf n==some .cell) then(n,NameKind.cell) else(n,k)).lookup x=some k):(x,NameKind.free)∈names:=by
 obtain⟨⟨n,k'⟩,hm,e⟩:=qd_.mp (PySem.mem_of_lookup h);simp only at e;split at e
 ·rename_i hc;rw[fb,fb]at hc;have:k'=.free:=eq_of_beq hc.1.1;subst this;injection e with e1 _
  subst e1;exact hm
 ·injection e with e1 e2
  subst e1 e2;rcases hk with z|z
  ·exact absurd z (hn _ hm)
  ·subst z;exact hm
def cG(X:Cx)(N:List Str)(scope:Scope)(cl:List (Str×Addr))(C:Addr)(fp:List Addr)(s:Shared)(H:Hp):Cx where
 prog:=X.prog
 w:=X.w
 K:=X.K
 mg:=X.mg
 base:=X.base
 A:=X.A
 N:=N
 s₀:=s
 H₀:=H
 env:=compEnvC scope cl C X.env
 outer:=X.stack
 stack:=X.stack
 ex:=fp
 fn:=λ_=>false
 calm:=X.calm
 pn:=[]
 xe:=λ_ _=>False
structure kU (sc:Scope) (XN N:List Str) (own:Nat) (fr:List Nat) (scope:Scope):Prop where
 kind:scope.kind=.function
 nocell:∀y∈scope.names,y.2≠.cell
 free:∀y∈scope.names,y.2=.free->sc.names.lookup y.1=some .cell\/sc.names.lookup y.1=some .free
 loc:∀y∈scope.names,y.2=.local->scope.names.lookup y.1=some .local
 names:N.drop own=fr.filterMap λi=>XN[i]?
 frl:∀i∈fr,i<XN.length
 len:own<=N.length
 vis:∀x∈N.drop own,scope.names.lookup x=some .free
def σf(fr:List Nat)(σ:St):St:=fr.map λi=>σ.getD i none
def σc(own:Nat)(fr:List Nat)(σ:St):St:=List.replicate own none++σf fr σ
section
variable{X:Cx}{OS:List (Addr×Obj)}{σ:St}{H:Hp}{s:Shared}{N:List Str}{own:Nat}{fr:List Nat}{scope:Scope}
theorem CI{XN:List Str}:∀{fr:List Nat},(∀i∈fr,i<XN.length)->∀(j:Nat),(fr.filterMap λi=>XN[i]?)[j]?=(fr[j]?).bind λi=>XN[i]?
 |[],_,j=>by simp
 |i::r,h,j=>by
  have hi:i<XN.length:=h i fe;rw[gm,b9 hi];cases j with
  |zero=>simp[hi]
  |succ j=>simpa using CI (λk hk=>h k (fc _ hk)) j
theorem JK{cl:List (Str×Addr)}{fp:List Addr}{h':Heap}(I:ag X OS σ H s)(S:kU X.env.scope X.N N own fr scope)(hcl:∀x c,cl.lookup x=some c->X.env.cells.lookup x=some c)
  (hcf:∀y∈scope.names,y.2=.free->∃c,cl.lookup y.1=some c) (hfp:∀b∈fp,fQ X OS H b) (hfo:∀b∈fp,∃o,s.heap.get? b=some o)
  (hns:h'.Ns s.heap.objs.size λ_=>none) (hk:∀b o,s.heap.get? b=some o->h'.get? b=some o):
  ag (cG X N scope cl s.heap.objs.size fp s H) [] (σc own fr σ) H {s with heap:=h'}:=by
 have kindE:∀x,(Env.kindOf (compEnvC scope cl s.heap.objs.size X.env) x)=(relabel scope X.env).names.lookup x:=λx=>rfl
 have memF:∀x,(Env.kindOf (compEnvC scope cl s.heap.objs.size X.env) x=some .cell\/Env.kindOf (compEnvC scope cl s.heap.objs.size X.env) x=some .free)->(x,NameKind.free)∈scope.names:=λx hx=>by
  rcases hx with z|z
  ·exact Cu (env:=X.env) S.nocell (.inl rfl) z
  ·exact Cu (env:=X.env) S.nocell (.inr rfl) z
 refine⟨⟨I.ok.mod,S.kind,I.ok.glob,I.ok.blt,bg _,λx y c h1 h2=>I.ok.inj x y c (hcl x c h1) (hcl y c h2),λx hx=>hcf (x,.free) (memF x hx) rfl,λx c h=>absurd (show false=true from h) (by decide),I.ok.hd,I.ok.frames,.inl rfl,λb hb=>?_,I.bs,cx I.ok.bsz I.sz,λb o e hb=>?_,λb hb z=>?_,I.stack,I.stkFree⟩,
  rfl,I.bare,Un.kept hk,⟨_,hns,λi x v e1 e2 e3=>?_⟩,λx c e=>?_,I.hok.fresh (bg _),λx c e=>I.freeC x c (hcl x c e),λp hp=>absurd (show p∈([]:List (Addr×Obj)) from hp) (by simp),I.hok.kept hk,?_⟩
 ·obtain⟨o,ho⟩:=hfo b hb;exact⟨cz (bo ho),λx c e=>(hfp b hb).2.2.2.2.1 x c (hcl x c e)⟩
 ·rcases (hfp b hb).2.2.2.1 with z|z
  ·exact I.ok.noex b o e z
  ·exact absurd (kj (bo (I.ok.bs b o e).1) z) (g5 _)
 ·rcases qe_.mp (I.stkSub b z) with q|q
  ·exact(hfp b hb).2.1 q
  ·exact(hfp b hb).2.2.1 q
 ·have hi:own<=i:=by
   rcases Nat.lt_or_ge i own with z|z
   ·have e2':(σc own fr σ)[i]?=some (some v):=e2;unfold σc at e2';rw[jn (by simpa using z),my]at e2';split at e2'<;>cases e2'
   ·exact z
  have e2':(σf fr σ)[i-own]?=some (some v):=by
   have e2':(σc own fr σ)[i]?=some (some v):=e2;unfold σc at e2';rw[j9 (by simpa using hi)]at e2';simpa using e2'
  have e1':(N.drop own)[i-own]?=some x:=by
   have e1':N[i]?=some x:=e1;rw[nv];rw[show own+(i-own)=i by omega];exact e1'
  have hv:scope.names.lookup x=some .free:=S.vis x (i5 e1');have hx:X.env.scope.names.lookup x=some .cell\/X.env.scope.names.lookup x=some .free:=S.free (x,.free) (PySem.mem_of_lookup hv) rfl;rw[S.names,CI S.frl]at e1';unfold σf at e2';rw[gf]at e2';cases q:fr[i-own]? with
  |none=>rw[q]at e2';cases e2'
  |some j=>
   rw[q]at e1' e2';have e1'':X.N[j]?=some x:=e1';have e2'':σ.getD j none=some v:=Option.some.inj e2';have e3':σ[j]?=some (some v):=by
    rw[ki]at e2'';cases z:σ[j]? with
    |none=>rw[z]at e2'';cases e2''
    |some y=>rw[z]at e2'';exact congrArg some e2''
   obtain⟨m,hn,hl⟩:=I.loc;obtain⟨u,r,l⟩:=hl j x v e1'' e3' (.inr hx);refine⟨u,r,.inr ⟨zX (env:=X.env) hv,?_⟩⟩;rcases l with⟨k,_⟩|⟨_,c,hc,z⟩
   ·have k':X.env.scope.names.lookup x=some .local:=k;rw[k']at hx;rcases hx with z|z<;>cases z
   ·obtain⟨c',hc'⟩:=hcf (x,.free) (PySem.mem_of_lookup hv) rfl;have:=hcl x c' hc';rw[hc]at this;cases this;exact⟨c,hc',z.keeps hk⟩
 ·obtain⟨v,z⟩:=I.cell x c (hcl x c e);exact⟨v,z.keeps hk⟩
 ·show(σc own fr σ).length=N.length;unfold σc σf;have h1:=congrArg List.length S.names;have h2:(fr.filterMap λi=>X.N[i]?).length=fr.length:=by
   have:∀(l:List Nat),(∀i∈l,i<X.N.length)->(l.filterMap λi=>X.N[i]?).length=l.length:=by
    intro l
    induction l with
    |nil=>intro _;rfl
    |cons i r ih=>
     intro h;rw[gm,b9 (h i fe)];simp[ih λk hk=>h k (fc _ hk)]
   exact this fr S.frl
  rw[mx,h2]at h1;rw[bw,i_,ak];have:=S.len;omega
end
section
variable{prog:Program}{w:World}{A:Around}{R:Result->Shared->Prop}{s:Shared}
theorem Nl{elt target iter:Expr}{ifs:List Expr}{scope:Scope}{pos:Pos}{it acc:Value}{env:Env}(I:Nat->Shared->Prop)
  (turn:∀n s,I n s->wpAny (model prog w) A (pyNext it) (λr s₁=>match r with
   |none=>R (.ok .next) s₁
   |some v=>wpAny (model prog w) A (letOwnedTupleGo target it v) (λ_ s'=>wpAny (model prog w) A (assign target env v) (λ_ s₂=>
     wpAny (model prog w) A (forIn ifs true λc r=>if r=true then do let ok <- isTrue c env (eval c env);pure (ForInStep.yield ok) else pure (ForInStep.yield r)) (λok s₃=>
      if ok=true then wpAny (model prog w) A (eval elt env) (λx s₄=>
       wpAny (model prog w) A (call (.builtin "list.append") [acc,x]) (λ_ s₅=>∃m,m<n/\I m s₅) (λ_ _=>False) s₄) (λ_ _=>False) s₃
      else ∃m,m<n/\I m s₃) (λ_ _=>False) s₂) (λ_ _=>False) s') (λ_ _=>False) s₁) (λ_ _=>False) s)
  (n:Nat) (h:I n s):codeAny (model prog w) A (.compLoop (.ListComp elt [⟨target,iter,ifs,0⟩] scope pos) 0 it acc env) R s:=by
 refine codeAny_loop rfl I (λn s hI=>?_) n h;show wpAny _ A ((compTurn (.ListComp elt [⟨target,iter,ifs,0⟩] scope pos) 0 it acc env).onRaise (λx=>do noteFrame x env;theTreesLotGoes x)) _ _ s;refine wpAny_noted ?_;rw[compTurn_list];refine af (wpAny_standAt (af (wpAny_mono (turn n s hI) (λr s₁ h₁=>?_) λ_ _ z=>False.elim z)));cases r with
 |none=>exact aj h₁
 |some v=>
  refine af (wpAny_mono h₁ (λ_ s' h'=>?_) λ_ _ z=>False.elim z);refine af (wpAny_mono h' (λ_ s₂ h₂=>af (wpAny_mono h₂ (λok s₃ h₃=>?_) λ_ _ z=>False.elim z)) λ_ _ z=>False.elim z);cases ok with
  |false=>exact aj ⟨rfl,h₃⟩
  |true=>
   exact af (af (wpAny_mono h₃ (λx s₄ h₄=>af (wpAny_mono h₄ (λ_ s₅ h₅=>aj (aj ⟨rfl,h₅⟩)) λ_ _ z=>False.elim z)) λ_ _ z=>False.elim z))
end
def y4(J:It)(a:Addr)(own:Nat)(fr:List Nat)(g:TG)(tf:TT)(te:TE)(σ:St)(H1:Hp)(Q:VK):Prop:=
 ∃(n:Nat) (Pv:Nat->List V->Hp->Prop),Pv 0 [] (au H1 a (.lst []))/\∀i ys H2,i<=n->H2 a=some (.lst ys)->Pv i ys H2 ->
  (J.stop i H2/\Q (.ref a) H2)\/(i<n/\J.go i H2/\∀x H3,J.yld i H2 x H3->g x (σc own fr σ) H3 λσ4 H4=>(∃ow,ow.length=own/\σ4=ow++σf fr σ)/\tf σ4 H4 λb H5=>
   if b=true then te σ4 H5 λy H6=>H6 a=some (.lst ys)/\ys.length<sizeLine/\Pv (i+1) (ys++[y]) (au H6 a (.lst (ys++[y])))
   else H5 a=some (.lst ys)/\Pv (i+1) ys H5)
def uf(X:Cx)(ifs:List Expr)(t:TT):Prop:=
 ∀(OS:List (Addr×Obj)) (s:Shared) (σ:St) (H:Hp) (Q:Bool->Hp->Prop),ag X OS σ H s->t σ H Q ->
  wpAny (model X.prog X.w) X.A (forIn ifs true λc r=>if r=true then do let ok <- isTrue c X.env (eval c X.env);pure (ForInStep.yield ok) else pure (ForInStep.yield r)) (TP X OS σ Q) X.xe s
def GY:TT:=λ_ H Q=>Q true H
theorem Ii{X:Cx}:uf X [] GY:=λOS s σ H Q I h=>wpAny_tests_nil ⟨H,I,h⟩
theorem Ij{X:Cx}{c:Expr}{t:TT}(h:PT X c t):uf X [c] t:=λOS s σ H Q I hw=>wpAny_tests_one (h OS s σ H Q I hw)
section
variable{X:Cx}{OS:List (Addr×Obj)}{σ:St}{H:Hp}{s:Shared}{N:List Str}{own:Nat}{fr:List Nat}{scope:Scope}{cl:List (Str×Addr)}{elt tg iter:Expr}{ifs:List Expr}{pos:Pos}
 {it:Addr} {fp:List Addr} {tn:Nat->Heap->Prop} {J:It} {g:TG} {tf:TT} {te:TE} {Q:VK} {E:Value->Shared->Prop}
theorem C_{RR:Value->Addr->Result->Shared->Prop}(hc:X.calm=true)(S:kU X.env.scope X.N N own fr scope)(hcl:∀x c,cl.lookup x=some c->X.env.cells.lookup x=some c)
  (hcf:∀y∈scope.names,y.2=.free->∃c,cl.lookup y.1=some c)
  (hg:∀C s H,PG (cG X N scope cl C fp s H) tg g) (hf:∀C s H,uf (cG X N scope cl C fp s H) ifs tf) (he:∀C s H,PE (cG X N scope cl C fp s H) elt te)
  (I:ag X OS σ H s) (T:jK X.prog X.w X.K tg J fp it tn) (st:tn 0 s.heap) (hfp:∀b∈fp,fQ X OS H b) (hw:∀a,H a=none->y4 J a own fr g tf te σ H Q)
  (hRR:∀a C s' H',ag X OS σ H' s'->Q (.ref a) H'->fQ X OS H' C->(∃m,s'.heap.Ns C m)->RR (.ref a) C (.ok .next) s'):
  wpAny (model X.prog X.w) X.A (newList []) (λacc s₃=>wpAny (model X.prog X.w) X.A (newFunctionEnv scope X.env.globals cl [] X.env.qual none .none (some X.env)) (λcenv s₄=>
   codeAny (model X.prog X.w) X.A (.compStart (.ListComp elt [⟨tg,iter,ifs,0⟩] scope pos) 0 (.ref it) acc {cenv with scope:=relabel scope X.env}) (RR acc cenv.locals) s₄) E s₃) E s:=by
 refine e9 (wpAny_newFunctionEnv S.nocell (by intro y hy;simp at hy) (λh₁ hns₁ hsb₁=>?_) S.kind);dsimp only at hns₁ hsb₁ ⊢;have I3:ag X OS σ (au H s.heap.objs.size (.lst [])) {s with heap:=s.heap.push {cls:=.type "list",dict:=none,data:=.seq ([]:List Value).toArray}}:=I.lnew (ys:=[]) (t':=s.toks) .nil (g6 _);have hfo:∀b∈fp,∃o,s.heap.get? b=some o:=λb hb=>let ⟨o,ho,_⟩:=T.obj _ _ st b hb;⟨o,ho⟩
 have hlt:∀b∈fp,b<s.heap.objs.size:=λb hb=>let ⟨o,ho⟩:=hfo b hb;bo ho
 have fp3:∀b∈fp,fQ X OS (au H s.heap.objs.size (.lst [])) b:=λb hb=>⟨by rw[bR (cz (hlt b hb))];exact(hfp b hb).1,(hfp b hb).2⟩
 obtain⟨n0,W,w0,turn⟩:=hw s.heap.objs.size I.fresh;generalize hs3:({s with heap:=s.heap.push {cls:=.type "list",dict:=none,data:=.seq ([]:List Value).toArray}}:Shared)=s3 at I3;have eh:s3.heap=s.heap.push {cls:=.type "list",dict:=none,data:=.seq ([]:List Value).toArray}:=by rw[<-hs3]
 rw[<-eh]at hns₁ hsb₁ ⊢;have hk:∀b o,s3.heap.get? b=some o->h₁.get? b=some o:=λb o e=>hsb₁.extBut b o (cz (bo e)) (bh _ e)
 have hk0:∀b o,s.heap.get? b=some o->s3.heap.get? b=some o:=λb o e=>by rw[eh];exact bh _ e
 have J0:ag (cG X N scope cl s3.heap.objs.size fp s3 (au H s.heap.objs.size (.lst []))) [] (σc own fr σ) (au H s.heap.objs.size (.lst [])) {s3 with heap:=h₁}:=
  JK I3 S hcl hcf fp3 (λb hb=>let ⟨o,ho⟩:=hfo b hb;⟨o,hk0 b o ho⟩) hns₁ hk
 have st0:tn 0 h₁:=T.keep _ _ _ st λb _ o e=>hk b o (hk0 b o e)
 have stat:∀{H':Hp},(∀b∈fp,H' b=none)->∀b∈fp,fQ (cG X N scope cl s3.heap.objs.size fp s3 (au H s.heap.objs.size (.lst []))) [] H' b:=λhn b hb=>
  ⟨hn b hb,(J0.ok.exf b hb).1,J0.ok.exfs b hb,.inl hb,(J0.ok.exf b hb).2,λp hp=>absurd (show p∈([]:List (Addr×Obj)) from hp) (by simp)⟩
 have loop:∀s4:Shared,s4={s3 with heap:=h₁}->codeAny (model X.prog X.w) X.A (.compLoop (.ListComp elt [⟨tg,iter,ifs,0⟩] scope pos) 0 (.ref it) (.ref s.heap.objs.size) (compEnvC scope cl s3.heap.objs.size X.env))
   (RR (.ref s.heap.objs.size) s3.heap.objs.size) s4:=by
  rintro s4 rfl;refine Nl (λn s'=>∃i ow H' ys,ag (cG X N scope cl s3.heap.objs.size fp s3 (au H s.heap.objs.size (.lst []))) [] (ow++σf fr σ) H' s'/\ow.length=own/\tn i s'.heap/\(∀b∈fp,H' b=none)/\H' s.heap.objs.size=some (.lst ys)/\(n=n0-i/\i<=n0)/\W i ys H') ?_ n0
   ⟨0,List.replicate own none,_,[],J0,by simp,st0,λb hb=>(fp3 b hb).1,bJ,⟨rfl,g6 _⟩,w0⟩
  rintro n s5 ⟨i,ow,H5,ys,I5,hlo,st5,fr5,ha5,⟨rfl,hi5⟩,w5⟩;rcases turn i ys H5 hi5 ha5 w5 with⟨stop,qn⟩|⟨hin,go,step⟩
  ·refine bq (T.done (cG X N scope cl s3.heap.objs.size fp s3 (au H s.heap.objs.size (.lst []))) rfl rfl rfl hc i [] s5 _ H5 (λ_ _=>False) I5 (stat fr5) st5 stop) λr s6 ⟨hr,I6⟩=>?_
   subst hr;have IX:ag X OS σ H5 s6:=I3.call' I6.os I6.base I6.hok I6.bare λb hb=>let ⟨_,f2,_,f4,f5,f6⟩:=fp3 b hb;⟨f4,f2,f5,f6⟩
   refine hRR _ _ s6 H5 IX qn (I3.fpOk (bg _) I6.free) ?_;obtain⟨m,hn,_⟩:=I6.loc;exact⟨m,hn⟩
  ·refine bq (T.item (cG X N scope cl s3.heap.objs.size fp s3 (au H s.heap.objs.size (.lst []))) rfl rfl rfl hc i [] s5 _ H5 (λ_ _=>False) I5 (stat fr5) st5 go) λr s6 ⟨u,hr,h6⟩=>?_
   subst hr;refine bq h6 λ_ s7 ⟨x,H7,I7,r7,y7,st7,fr7⟩=>?_
   have I7':=(I7.pinned (stat fr7) (T.obj _ _ st7)).weak (σ':=σc own fr σ) (by unfold σc;simp[hlo]) (λj v e=>by
    unfold σc at e;rcases Nat.lt_or_ge j own with z|z
    ·rw[jn (by simpa using z),my]at e;split at e<;>cases e
    ·rw[j9 (by simpa using z)]at e;rw[j9 (by rw[hlo];exact z),hlo]
     simpa using e)
   refine bq (hg _ _ _ _ s7 _ H7 x u _ I7' r7 (step x H7 y7)) λ_ s8 ⟨σ8,H8,I8,⟨ow8,hl8,e8⟩,q8⟩=>?_
   refine bq (hf _ _ _ _ s8 _ H8 _ I8 q8) λok s9 ⟨H9,I9,q9⟩=>?_
   have again:∀{H':Hp} {s':Shared},ag (cG X N scope cl s3.heap.objs.size fp s3 (au H s.heap.objs.size (.lst []))) ([]++pW fp s7.heap) σ8 H' s'->∀{ys':List V},H' s.heap.objs.size=some (.lst ys')->W (i+1) ys' H' ->
     ∃m,m<n0-i/\∃i ow H' ys,ag (cG X N scope cl s3.heap.objs.size fp s3 (au H s.heap.objs.size (.lst []))) [] (ow++σf fr σ) H' s'/\ow.length=own/\tn i s'.heap/\(∀b∈fp,H' b=none)/\H' s.heap.objs.size=some (.lst ys)/\(m=n0-i/\i<=n0)/\W i ys H':=λ{H' s'} I' {ys'} ha hw'=>by
    refine⟨n0-(i+1),by omega,i+1,ow8,H',ys',e8▸I'.unpinned,hl8,T.keep _ _ _ st7 λb hb o e=>(I'.pin (b,o) (de _ (de _ (rA hb e)))).1,λb hb=>?_,ha,⟨rfl,hin⟩,hw'⟩;obtain⟨o,e,_⟩:=T.obj _ _ st7 b hb;exact(I'.pin (b,o) (de _ (de _ (rA hb e)))).2.1
   cases ok with
   |false=>
    have q9':H9 s.heap.objs.size=some (.lst ys)/\W (i+1) ys H9:=by simpa using q9
    obtain⟨ha,hw'⟩:=q9';show if false=true then _ else _
    rw[if_neg (by decide)];exact again I9 ha hw'
   |true=>
    rw[if_pos rfl]at q9;show if true=true then _ else _
    rw[if_pos rfl];refine bq (he _ _ _ _ s9 _ H9 _ I9 q9) λy s10 ⟨v10,H10,I10,r10,ha10,hz10,hw'⟩=>?_
    refine bq (vP _ s10 _ H10 (.ref s.heap.objs.size) [v10] (.ref s.heap.objs.size) [y] (λ_ H'=>H'=au H10 s.heap.objs.size (.lst (ys++[v10]))) I10 rfl (.cons r10 .nil) ⟨_,ys,v10,rfl,rfl,ha10,hz10,rfl⟩) λ_ s11 ⟨_,H11,I11,_,e11⟩=>?_
    subst e11;exact again I11 bJ hw'
 exact codeAny_compStart_list (loop _ (by rw[<-hs3];rfl)) (T.self X.A 0 _ _ _ st0 (loop _ (by rw[<-hs3];rfl)))
end
def yE(own:Nat)(fr:List Nat)(wi:TI)(g:TG)(tf:TT)(te:TE):TE:=λσ H Q=>wi σ H λJ H1=>∀a,H1 a=none->y4 J a own fr g tf te σ H1 Q
section
variable{X:Cx}{sc:Scope}{XN N:List Str}{own:Nat}{fr:List Nat}{scope:Scope}{elt tg iter:Expr}{ifs:List Expr}{pos:Pos}{wi:TI}{g:TG}{tf:TT}{te:TE}
theorem Iy(hc:X.calm=true)(S:kU sc XN N own fr scope)(hi:PI X tg iter wi)
  (hg:∀cl C fp s H,PG (cG X N scope cl C fp s H) tg g) (hf:∀cl C fp s H,uf (cG X N scope cl C fp s H) ifs tf) (he:∀cl C fp s H,PE (cG X N scope cl C fp s H) elt te)
  (hs:∀x,foldedSetIterable iter X.env x=pure x:=by intro _;rfl) (hsc:X.env.scope=sc:=by rfl) (hxn:X.N=XN:=by rfl):PE X (.ListComp elt [⟨tg,iter,ifs,0⟩] scope pos) (yE own fr wi g tf te):=by
 subst hsc hxn;intro OS s σ H Q I h;obtain⟨cl,c1,c2,c3⟩:=C9 (scope:=scope) (env:=X.env) λy hy e=>I.ok.has y.1 (S.free y hy e)
 rw[eval_ListComp];refine wpAny_comprehension_free (use:=none) rfl hs c1 S.kind S.loc (bq (hi OS s σ H _ I h) λxv s1 h1=>bq h1 λitv s2 h2=>?_);obtain⟨it,fp,tn,J,H2,e,I2,T,st2,f2,hw⟩:=h2;subst e;refine C_ hc S c2 c3 (λC s H=>hg cl C fp s H) (λC s H=>hf cl C fp s H) (λC s H=>he cl C fp s H) I2 T st2 f2 hw λa C s' H' I' q fC ⟨m,hn⟩=>?_
 refine⟨m,hn,λh' hs'=>?_⟩;obtain⟨f0,f1,_,f3,f4,f5⟩:=fC;exact⟨.ref a,H',I'.turned (t':=s'.toks) (λb o hb e=>hs'.extBut b o hb e) f0 f1 f3 f4 f5,rfl,q⟩
theorem Ay{i:Nat}{x:Str}{pos' spos:Pos}(hc:X.calm=true)(hN:X.N.Nodup)(hx:X.N[i]?=some x)(hl:lr X.env.scope x)(S:kU sc XN N own fr scope)(hi:PI X tg iter wi)
  (hg:∀cl C fp s H,PG (cG X N scope cl C fp s H) tg g) (hf:∀cl C fp s H,uf (cG X N scope cl C fp s H) ifs tf) (he:∀cl C fp s H,PE (cG X N scope cl C fp s H) elt te)
  (hsw:swapsWith (.ListComp elt [⟨tg,iter,ifs,0⟩] scope pos) (some (.Name x pos')) spos.line X.env=pure true:=by rfl)
  (hf':X.fn x=true\/X.env.scope.names.lookup x=some .local:=by first|exact .inl rfl|exact .inr rfl|assumption)
  (hs:∀x,foldedSetIterable iter X.env x=pure x:=by intro _;rfl) (hsc:X.env.scope=sc:=by rfl) (hxn:X.N=XN:=by rfl):PS X (.Assign [.Name x pos'] (.ListComp elt [⟨tg,iter,ifs,0⟩] scope pos) spos) (uA (yE own fr wi g tf te) (tW i)):=by
 subst hsc hxn;intro OS s σ H D I h;obtain⟨cl,c1,c2,c3⟩:=C9 (scope:=scope) (env:=X.env) λy hy e=>I.ok.has y.1 (S.free y hy e)
 rw[exec_Assign_Name_used _ _ _ _ hsw];refine af (wpAny_standAt (af ?_));show wpAny _ X.A (do let _ <- comprehension (.ListComp elt [⟨tg,iter,ifs,0⟩] scope pos) scope X.env _ (newList []) false (eval iter X.env) (some (assign (.Name x pos') X.env))) _ _ s
 refine af (wpAny_mono (wpAny_comprehension_free (use:=some (assign (.Name x pos') X.env)) (Q:=λ_ s'=>SP X OS D .next s') rfl hs c1 S.kind S.loc
  (bq (hi OS s σ H _ I h) λxv s1 h1=>bq h1 λitv s2 h2=>?_)) (λ_ s' hq=>aj (aj hq)) λ_ _ e=>e)
 obtain⟨it,fp,tn,J,H2,e,I2,T,st2,f2,hw⟩:=h2;subst e;refine C_ hc S c2 c3 (λC s H=>hg cl C fp s H) (λC s H=>hf cl C fp s H) (λC s H=>he cl C fp s H) I2 T st2 f2 hw λa C s' H' I' q fC ⟨m,hn⟩=>?_
 obtain⟨f0,f1,f2',f3,f4,f5⟩:=fC;show wpAny _ _ (assign (.Name x pos') X.env (.ref a)) _ _ _;refine wpAny_assign_Name (CY I' hN hx hl (show ah (.ref a) (.ref a) from rfl) (λs2 J2 ⟨b,hb,hb'⟩=>?_) hf');have hbC:C≠b:=by
  rcases hb' with z|z
  ·rw[z];exact f1
  ·exact λe=>f4 _ _ z e.symm
 refine⟨m,hn.sameBut hb hbC,λh' hs'=>?_⟩;exact⟨_,H',J2.turned (t':=s2.toks) (λb o hb e=>hs'.extBut b o hb e) f0 f1 f3 f4 f5,q⟩
end
section
variable{X:Cx}
def q_(K:W.Frag)(T:String)(x:V)(H:Hp)(b:Bool):Prop:=match x with
 |.non=>b=false
 |.bl _=>b=(T=="bool" || T=="int")
 |.int _=>b=(T=="int")
 |.str _=>b=(T=="str")
 |.ref a=>(∃xs,bx K H a xs/\b=(T=="list"))\/(∃xs,cv K H a xs/\b=(T=="tuple"))\/(∃kvs,Rd H a (.dK kvs)/\b=(T=="dict"))
 |_=>False
theorem mQ{prog:Program}{w:World}{A:Around}{E:Value->Shared->Prop}{s:Shared}{Q:Value->Shared->Prop}{T:String}(hne:(Value.type "NoneType"==Value.type T)=false)(hty:typeOf (.type T)=pure (.type "type"))
  (hsub:isSubtype (.type "NoneType") (.type T)=pure false) (h:Q (.bool false) {s with toks:=s.toks+1}):wpAny (model prog w) A (call (.builtin "isinstance") [.none,.type T]) Q E s:=
 call_isinstance (S:=λ_ R s=>R (.ok (.ret (.bool false))) {s with toks:=s.toks+1}) (λ_ _ _ _ s hs=>by
  obtain⟨h,g,d,t,os⟩:=s
  exact isinstance_outer (isinstance_nested_false_none hne hty hsub hs)) h
theorem ag.lcls{OS:List (Addr×Obj)}{σ:St}{H:Hp}{s:Shared}{a:Addr}{xs:List V}(I:ag X OS σ H s)(h:bx X.K H a xs):∃o,s.heap.get? a=some o/\o.cls=.type "list":=by
 obtain⟨its,r,pl,hz⟩:=I.list h;obtain⟨o,ho,hc,_⟩:=pl.isList;exact⟨o,ho,hc⟩
theorem ag.tcls{OS:List (Addr×Obj)}{σ:St}{H:Hp}{s:Shared}{a:Addr}{xs:List V}(I:ag X OS σ H s)(h:cv X.K H a xs):∃o,s.heap.get? a=some o/\o.cls=.type "tuple":=by
 obtain⟨its,r,⟨o,ho,hc,_⟩,hz⟩:=I.tuple h;exact⟨o,ho,hc⟩
theorem ag.dcls{OS:List (Addr×Obj)}{σ:St}{H:Hp}{s:Shared}{a:Addr}{kvs:List (ba×V)}(I:ag X OS σ H s)(h:Rd H a (.dK kvs)):∃o,s.heap.get? a=some o/\o.cls=.type "dict":=by
 obtain⟨_,_,vs,_,dd⟩:=h.ok I.hok;obtain⟨o,ho,hc⟩:=dd.typeIs;exact⟨o,ho,hc⟩
theorem qS:aq X (.builtin "isinstance") (λxs H Q=>∃x b,xs=[x,.ty "int"]/\q_ X.K "int" x H b/\Q (.bl b) H):=by
 intro OS s σ H xs us Q I r h;obtain⟨x,b,rfl,hx,q⟩:=h;obtain⟨u,w',rfl,rx,ry⟩:=jS r;cases ry;cases x with
 |non=>cases rx;cases hx;exact mQ (by decide +kernel) F.isi_meta_int F.sub_NoneType_int ⟨.bl _,H,I.tok _,rfl,q⟩
 |bl k=>cases rx;cases hx;exact IsiPair.bool_int ⟨.bl _,H,I,rfl,q⟩
 |int i=>obtain⟨t,rfl⟩:=rx;cases hx;exact IsiPair.int_int ⟨.bl _,H,I,rfl,q⟩
 |str i=>obtain⟨t,rfl⟩:=rx;cases hx;exact IsiPair.str_int ⟨.bl _,H,I.tok _,rfl,q⟩
 |ref a=>
  cases rx;rcases hx with⟨xs,hx,rfl⟩|⟨xs,hx,rfl⟩|⟨xs,hx,rfl⟩
  ·obtain⟨o,ho,hc⟩:=I.lcls hx;exact IsiPair.list_int ho hc ⟨.bl _,H,I.tok _,rfl,q⟩
  ·obtain⟨o,ho,hc⟩:=I.tcls hx;exact IsiPair.tuple_int ho hc ⟨.bl _,H,I.tok _,rfl,q⟩
  ·obtain⟨o,ho,hc⟩:=I.dcls hx;exact IsiPair.dict_int ho hc ⟨.bl _,H,I.tok _,rfl,q⟩
 |_=>exact False.elim hx
theorem qQ:aq X (.builtin "isinstance") (λxs H Q=>∃x b,xs=[x,.ty "bool"]/\q_ X.K "bool" x H b/\Q (.bl b) H):=by
 intro OS s σ H xs us Q I r h;obtain⟨x,b,rfl,hx,q⟩:=h;obtain⟨u,w',rfl,rx,ry⟩:=jS r;cases ry;cases x with
 |non=>cases rx;cases hx;exact mQ (by decide +kernel) F.isi_meta_bool F.sub_NoneType_bool ⟨.bl _,H,I.tok _,rfl,q⟩
 |bl k=>cases rx;cases hx;exact IsiPair.bool_bool ⟨.bl _,H,I,rfl,q⟩
 |int i=>obtain⟨t,rfl⟩:=rx;cases hx;exact IsiPair.int_bool ⟨.bl _,H,I.tok _,rfl,q⟩
 |str i=>obtain⟨t,rfl⟩:=rx;cases hx;exact IsiPair.str_bool ⟨.bl _,H,I.tok _,rfl,q⟩
 |ref a=>
  cases rx;rcases hx with⟨xs,hx,rfl⟩|⟨xs,hx,rfl⟩|⟨xs,hx,rfl⟩
  ·obtain⟨o,ho,hc⟩:=I.lcls hx;exact IsiPair.list_bool ho hc ⟨.bl _,H,I.tok _,rfl,q⟩
  ·obtain⟨o,ho,hc⟩:=I.tcls hx;exact IsiPair.tuple_bool ho hc ⟨.bl _,H,I.tok _,rfl,q⟩
  ·obtain⟨o,ho,hc⟩:=I.dcls hx;exact IsiPair.dict_bool ho hc ⟨.bl _,H,I.tok _,rfl,q⟩
 |_=>exact False.elim hx
theorem qR:aq X (.builtin "isinstance") (λxs H Q=>∃x b,xs=[x,.ty "str"]/\q_ X.K "str" x H b/\Q (.bl b) H):=by
 intro OS s σ H xs us Q I r h;obtain⟨x,b,rfl,hx,q⟩:=h;obtain⟨u,w',rfl,rx,ry⟩:=jS r;cases ry;cases x with
 |non=>cases rx;cases hx;exact mQ (by decide +kernel) F.isi_meta_str F.sub_NoneType_str ⟨.bl _,H,I.tok _,rfl,q⟩
 |bl k=>cases rx;cases hx;exact IsiPair.bool_str ⟨.bl _,H,I.tok _,rfl,q⟩
 |int i=>obtain⟨t,rfl⟩:=rx;cases hx;exact IsiPair.int_str ⟨.bl _,H,I.tok _,rfl,q⟩
 |str i=>obtain⟨t,rfl⟩:=rx;cases hx;exact IsiPair.str_str ⟨.bl _,H,I,rfl,q⟩
 |ref a=>
  cases rx;rcases hx with⟨xs,hx,rfl⟩|⟨xs,hx,rfl⟩|⟨xs,hx,rfl⟩
  ·obtain⟨o,ho,hc⟩:=I.lcls hx;exact IsiPair.list_str ho hc ⟨.bl _,H,I.tok _,rfl,q⟩
  ·obtain⟨o,ho,hc⟩:=I.tcls hx;exact IsiPair.tuple_str ho hc ⟨.bl _,H,I.tok _,rfl,q⟩
  ·obtain⟨o,ho,hc⟩:=I.dcls hx;exact IsiPair.dict_str ho hc ⟨.bl _,H,I.tok _,rfl,q⟩
 |_=>exact False.elim hx
theorem CG:aq X (.builtin "isinstance") (λxs H Q=>∃x b,xs=[x,.ty "list"]/\q_ X.K "list" x H b/\Q (.bl b) H):=by
 intro OS s σ H xs us Q I r h;obtain⟨x,b,rfl,hx,q⟩:=h;obtain⟨u,w',rfl,rx,ry⟩:=jS r;cases ry;cases x with
 |non=>cases rx;cases hx;exact mQ (by decide +kernel) F.isi_meta_list F.sub_NoneType_list ⟨.bl _,H,I.tok _,rfl,q⟩
 |bl k=>cases rx;cases hx;exact IsiPair.bool_list ⟨.bl _,H,I.tok _,rfl,q⟩
 |int i=>obtain⟨t,rfl⟩:=rx;cases hx;exact IsiPair.int_list ⟨.bl _,H,I.tok _,rfl,q⟩
 |str i=>obtain⟨t,rfl⟩:=rx;cases hx;exact IsiPair.str_list ⟨.bl _,H,I.tok _,rfl,q⟩
 |ref a=>
  cases rx;rcases hx with⟨xs,hx,rfl⟩|⟨xs,hx,rfl⟩|⟨xs,hx,rfl⟩
  ·obtain⟨o,ho,hc⟩:=I.lcls hx;exact IsiPair.list_list ho hc ⟨.bl _,H,I,rfl,q⟩
  ·obtain⟨o,ho,hc⟩:=I.tcls hx;exact IsiPair.tuple_list ho hc ⟨.bl _,H,I.tok _,rfl,q⟩
  ·obtain⟨o,ho,hc⟩:=I.dcls hx;exact IsiPair.dict_list ho hc ⟨.bl _,H,I.tok _,rfl,q⟩
 |_=>exact False.elim hx
theorem zZ:aq X (.builtin "isinstance") (λxs H Q=>∃x b,xs=[x,.ty "tuple"]/\q_ X.K "tuple" x H b/\Q (.bl b) H):=by
 intro OS s σ H xs us Q I r h;obtain⟨x,b,rfl,hx,q⟩:=h;obtain⟨u,w',rfl,rx,ry⟩:=jS r;cases ry;cases x with
 |non=>cases rx;cases hx;exact mQ (by decide +kernel) F.isi_meta_tuple F.sub_NoneType_tuple ⟨.bl _,H,I.tok _,rfl,q⟩
 |bl k=>cases rx;cases hx;exact IsiPair.bool_tuple ⟨.bl _,H,I.tok _,rfl,q⟩
 |int i=>obtain⟨t,rfl⟩:=rx;cases hx;exact IsiPair.int_tuple ⟨.bl _,H,I.tok _,rfl,q⟩
 |str i=>obtain⟨t,rfl⟩:=rx;cases hx;exact IsiPair.str_tuple ⟨.bl _,H,I.tok _,rfl,q⟩
 |ref a=>
  cases rx;rcases hx with⟨xs,hx,rfl⟩|⟨xs,hx,rfl⟩|⟨xs,hx,rfl⟩
  ·obtain⟨o,ho,hc⟩:=I.lcls hx;exact IsiPair.list_tuple ho hc ⟨.bl _,H,I.tok _,rfl,q⟩
  ·obtain⟨o,ho,hc⟩:=I.tcls hx;exact IsiPair.tuple_tuple ho hc ⟨.bl _,H,I,rfl,q⟩
  ·obtain⟨o,ho,hc⟩:=I.dcls hx;exact IsiPair.dict_tuple ho hc ⟨.bl _,H,I.tok _,rfl,q⟩
 |_=>exact False.elim hx
theorem qP:aq X (.builtin "isinstance") (λxs H Q=>∃x b,xs=[x,.ty "dict"]/\q_ X.K "dict" x H b/\Q (.bl b) H):=by
 intro OS s σ H xs us Q I r h;obtain⟨x,b,rfl,hx,q⟩:=h;obtain⟨u,w',rfl,rx,ry⟩:=jS r;cases ry;cases x with
 |non=>cases rx;cases hx;exact mQ (by decide +kernel) F.isi_meta_dict F.sub_NoneType_dict ⟨.bl _,H,I.tok _,rfl,q⟩
 |bl k=>cases rx;cases hx;exact IsiPair.bool_dict ⟨.bl _,H,I.tok _,rfl,q⟩
 |int i=>obtain⟨t,rfl⟩:=rx;cases hx;exact IsiPair.int_dict ⟨.bl _,H,I.tok _,rfl,q⟩
 |str i=>obtain⟨t,rfl⟩:=rx;cases hx;exact IsiPair.str_dict ⟨.bl _,H,I.tok _,rfl,q⟩
 |ref a=>
  cases rx;rcases hx with⟨xs,hx,rfl⟩|⟨xs,hx,rfl⟩|⟨xs,hx,rfl⟩
  ·obtain⟨o,ho,hc⟩:=I.lcls hx;exact IsiPair.list_dict ho hc ⟨.bl _,H,I.tok _,rfl,q⟩
  ·obtain⟨o,ho,hc⟩:=I.tcls hx;exact IsiPair.tuple_dict ho hc ⟨.bl _,H,I.tok _,rfl,q⟩
  ·obtain⟨o,ho,hc⟩:=I.dcls hx;exact IsiPair.dict_dict ho hc ⟨.bl _,H,I,rfl,q⟩
 |_=>exact False.elim hx
theorem LH(hc:X.calm=true):aq X (.builtin "sum") (λxs H Q=>∃(p:Addr) (ns:List Int),xs=[.ref p]/\bx X.K H p (ns.map V.int)/\Q (.int ns.sum) H):=by
 intro OS s σ H xs us Q I r h;obtain⟨p,ns,rfl,hq,q⟩:=h;obtain⟨u,rfl,rx⟩:=cI r;cases rx;obtain⟨its,rv,pl,hz⟩:=I.list hq;have hi:IntsAre its ns:=rB rv;have hall:=hi.allInts;have e0:=hi.numsOf;obtain⟨xs,ex⟩:=hall.items;have e1:numsOf (intItems xs).toList=ns:=by rw[<-ex];exact e0
 rw[nums_intItems]at e1;have hl:=pl.isList;rw[ex]at hl;refine sum_intListG (I.ok.hd hc) hl λh' tk t' hk=>⟨.int ns.sum,H,I.kept hk,⟨t',?_⟩,q⟩
 rw[preSum_eq,nq (by simp),e1]
theorem Nh{prog:Program}{w:World}{A:Around}{bs:List Bool}{its:List Value}(rv:ai (bs.map V.bl) its):TruthOf prog w A (λi v=>its.toArray[i]?=some v) λi=>bs.getD i false:=by
 intro i v s Q E hP hQ;have hi:its[i]?=some v:=by simpa using hP
 have hl:=rv.length;rw[ak]at hl;have hlt:i<bs.length:=by rw[hl];exact(qB_.mp hi).1
 obtain⟨u,hu,ru⟩:=rv.get (i:=i) (x:=V.bl (bs.getD i false)) (by rw[gf,ki,b9 hlt];rfl);rw[hi]at hu;cases hu;cases ru;exact wpAny_truthy_bool hQ
theorem MP(bs:List Bool):(List.range bs.length).any (λi=>bs.getD i false)=bs.any id:=by
 induction bs with
 |nil=>rfl
 |cons b r ih=>
  rw[gc,nk,kr,kr,List.any_map];rw[<-ih];rfl
theorem Lz(hc:X.calm=true):aq X (.builtin "any") (λxs H Q=>∃(p:Addr) (bs:List Bool),xs=[.ref p]/\bx X.K H p (bs.map V.bl)/\Q (.bl (bs.any id)) H):=by
 intro OS s σ H xs us Q I r h;obtain⟨p,bs,rfl,hq,q⟩:=h;obtain⟨u,rfl,rx⟩:=cI r;cases rx;obtain⟨its,rv,pl,hz⟩:=I.list hq;have hlt:p<s.heap.objs.size:=by obtain⟨_,e,_⟩:=pl.isList;exact bo e
 have hll:=rv.length;rw[ak]at hll;refine call_any_walk (wpAny_pyIter_list pl.isList ?_);refine⟨s.heap.objs.size,_,_,_,_,_,λi=>bs.getD i false,rfl,Walks.list (A:=X.A.in1) (I.ok.hd hc) _ p (cz hlt) its.toArray,⟨⟨_,ck _ rfl,rfl,rfl⟩,pl.isList.at λo e=>bh _ e⟩,Nh rv,λh' tk hk=>?_⟩;refine⟨.bl (bs.any id),H,I.kept λb o e=>hk b o (by simpa using cz (bo e)) (bh _ e),?_,q⟩;show Value.bool _=Value.bool _;rw[cg,<-hll,MP]
def gY:List V->List V->Bool
 |[],[]=>true
 |x::xs,y::ys=>di x y&&gY xs ys
 |_,_=>false
theorem BQ:∀{xs ys:List V},xs.length≠ys.length->gY xs ys=false
 |[],[],h=>absurd rfl h
 |[],_::_,_=>rfl
 |_::_,[],_=>rfl
 |x::xs,y::ys,h=>by
  have:=BQ (xs:=xs) (ys:=ys) (λe=>h (by simp[e]));simp[gY,this]
theorem Da:∀{xs ys:List V},xs.length=ys.length->(List.range xs.length).all (λi=>di (xs.getD i .non) (ys.getD i .non))=gY xs ys
 |[],[],_=>rfl
 |[],_::_,h=>by simp at h
 |_::_,[],h=>by simp at h
 |x::xs,y::ys,h=>by
  have ih:=Da (xs:=xs) (ys:=ys) (by simpa using h);rw[gc,nk,List.all_cons,qh];show(di x y&&(List.range xs.length).all λi=>di (xs.getD i .non) (ys.getD i .non))=(di x y&&gY xs ys);rw[ih]
theorem Ka{A:Around}{s:Shared}{xs ys:List V}{us ws:List Value}(r:ai xs us)(r':ai ys ws)(fx:xs.all eE=true)(fy:ys.all eE=true)(j:Nat)(h1:j<us.toArray.size)(h2:j<ws.toArray.size):
  SeqAt.EqAt A s us.toArray[j] ws.toArray[j] (di (xs.getD j .non) (ys.getD j .non)):=by
 have l1:=r.length;have l2:=r'.length;have k1:j<xs.length:=by rw[l1];simpa using h1
 have k2:j<ys.length:=by rw[l2];simpa using h2
 obtain⟨u,hu,ru⟩:=r.get (i:=j) (x:=xs.getD j .non) (by rw[ki,b9 k1];rfl);obtain⟨w',hw,rw'⟩:=r'.get (i:=j) (x:=ys.getD j .non) (by rw[ki,b9 k2];rfl);have e1:us.toArray[j]=u:=by
  obtain⟨_,e⟩:=qB_.mp hu;simpa using e
 have e2:ws.toArray[j]=w':=by
  obtain⟨_,e⟩:=qB_.mp hw;simpa using e
 rw[e1,e2];refine x9 ru rw' (qB1_.mp fx _ ?_) (qB1_.mp fy _ ?_)
 ·rw[ki,b9 k1];exact j6 k1
 ·rw[ki,b9 k2];exact j6 k2
def D7(K:W.Frag)(neg:Bool):R2:=λx y H Q=>∃p q xs ys,x=.ref p/\y=.ref q/\bx K H p xs/\bx K H q ys/\xs.all eE=true/\ys.all eE=true/\Q (.bl (if neg then !gY xs ys else gY xs ys)) H
theorem Ge(hu:X.A.units<cLine):cn X (compareOp .Eq) (D7 X.K false):=by
 intro OS s σ H x y v u Q I rx ry h;obtain⟨p,q,xs,ys,rfl,rfl,hx,hy,fx,fy,k⟩:=h;cases rx;cases ry;obtain⟨us,r1,p1,z1⟩:=I.list hx;obtain⟨ws,r2,p2,z2⟩:=I.list hy;by_cases hl:xs.length=ys.length
 ·refine SeqAt.eq_listAt p1.isList p2.isList (by simp[<-r1.length,<-r2.length,hl]) hu (λj h1 h2=>Ka r1 r2 fx fy j h1 h2) ⟨.bl (gY xs ys),H,I,?_,k⟩;show Value.bool _=Value.bool _;rw[cg,<-r1.length,Da hl]
 ·refine SeqAt.eq_list_lengthsAt p1.isList p2.isList (by simp[<-r1.length,<-r2.length,hl]) hu ⟨.bl (gY xs ys),H,I,?_,k⟩;rw[BQ hl];rfl
theorem LP(n:Nat):sliceRange (sliceBounds none none (some (-1)) n).1 (sliceBounds none none (some (-1)) n).2.1 (sliceBounds none none (some (-1)) n).2.2=(List.range n).map λk=>n-1-k:=by
 have e:sliceBounds none none (some (-1)) n=((n:Int)-1,-1,-1):=by simp[sliceBounds]
 rw[e];unfold sliceRange;simp only[show ¬ ((-1:Int) > 0) by decide,if_false];by_cases hn:n=0
 ·subst hn;simp
 ·have h1:(n:Int)-1 > -1:=by omega
  rw[if_pos h1];have h2:(((n:Int)-1 - -1 - -1-1) / (- -1)).toNat=n:=by
   rw[show(n:Int)-1 - -1 - -1-1=n by omega,show(- -1:Int)=1 by decide,Int.ediv_one];exact sj n
  rw[h2];refine mr λk hk=>?_
  have:=qy1_.mp hk;omega
theorem fm_congr{α β:Type}{f g:α->Option β}:∀{l:List α},(∀x∈l,f x=g x)->l.filterMap f=l.filterMap g
 |[],_=>rfl
 |x::r,h=>by rw[gm,gm,h x fe,fm_congr λy hy=>h y (fc _ hy)]
theorem CU{α:Type}:∀zs:List α,(List.range zs.length).filterMap (λk=>zs.reverse[zs.length-1-k]?)=zs
 |[]=>rfl
 |z::r=>by
  rw[gc,nk,gm,nz];have h0:(z::r).reverse[r.length+1-1-0]?=some z:=by simp
  rw[h0];have h1:List.filterMap ((λk=>(z::r).reverse[r.length+1-1-k]?)∘Nat.succ) (List.range r.length)=List.filterMap (λk=>r.reverse[r.length-1-k]?) (List.range r.length):=by
   apply fm_congr;intro k hk;have hk:=qy1_.mp hk;show(z::r).reverse[r.length+1-1-(k+1)]?=r.reverse[r.length-1-k]?;rw[sv,jn (by simp;omega)];rw[show r.length+1-1-(k+1)=r.length-1-k by omega]
  rw[h1,CU r]
theorem LI{α:Type}(xs:List α):((List.range xs.length).map λk=>xs.length-1-k).filterMap (λi=>xs[i]?)=xs.reverse:=by
 have:=CU xs.reverse;rw[sf,List.reverse_reverse]at this;rw[nz];exact this
theorem MZ(its:List Value):slicePick its.toArray none none (some (-1))=its.reverse.toArray:=by
 unfold slicePick;rw[cg,LP];congr 1;have:=LI its;simpa using this
def FZ(K:W.Frag)(te tst:TE):TE:=λσ H Q=>te σ H λx H1=>tst σ H1 λy H2=>y=.int (-1)/\∃p xs,x=.ref p/\bx K H2 p xs/\∀l,H2 l=none->Q (.ref l) (au H2 l (.lst xs.reverse))
theorem Ie{e st:Expr}{te tst:TE}{pos p2:Pos}(he:PE X e te)(hst:PE X st tst)(ht:∀o r,letTemporaryGo e o r=pure ():=by intro _ _;rfl):PE X (.Subscript e (.Slice none none (some st) p2) pos) (FZ X.K te tst):=by
 intro OS s σ H Q I h;refine wpAny_Subscript_Slice_step (T:="list") slot_list_getitem.lookup (bq (he OS s σ H _ I h) λv s1 ⟨x,H1,I1,r1,q1⟩=>?_) ht;refine wpAny_Slice ?_;rw[evalPart_none,evalPart_some];refine aj (aj (bq (hst OS s1 σ H1 _ I1 q1) λvs s2 ⟨y,H2,I2,r2,q2⟩=>?_));obtain⟨rfl,p,xs,rfl,hx,q⟩:=q2;obtain⟨t,rfl⟩:=r2;cases r1;have I3:ag X OS σ H2 {s2 with heap:=s2.heap.push {cls:=.type "slice",data:=.fields #[.none,.none,.int (-1) t]}}:=I2.kept (t':=s2.toks) λb ob q=>bh _ q
 obtain⟨its,rv,pl,hz⟩:=I3.list hx;refine⟨pl.isList.typeIs,?_⟩;refine wpAny_getItem_list_slice pl.isList (Heap.IsSliceOf.new ..) .none .none (.int (-1) t) (by decide) ?_ (by rw[cg,<-rv.length];exact hz);rw[MZ];refine⟨.ref _,_,I3.laid (t':=s2.toks) (o:=.lst xs.reverse) (λb ob q=>bh _ q) (bg _) ?_,rfl,q _ (I3.hok.fresh (bg _))⟩;exact⟨by rw[sf];exact hz,_,0,rv.reverse,ck _ rfl⟩
theorem Gh:cn X (compareOp .Is) (λx y H Q=>∃b,y=.bl b/\Q (.bl (decide (x=.bl b))) H):=by
 intro OS s σ H x y v u Q I rx ry h;obtain⟨b,rfl,q⟩:=h;cases ry;cases x with
 |non=>cases rx;exact wpAny_is_plain rfl ⟨.bl _,H,I,(by simp[ah]),q⟩
 |bl k=>cases rx;exact wpAny_is_plain rfl ⟨.bl _,H,I,(by cases k<;>cases b<;>rfl),q⟩
 |int i=>obtain⟨t,rfl⟩:=rx;exact wpAny_is_plain rfl ⟨.bl _,H,I,(by simp[ah]),q⟩
 |str i=>obtain⟨t,rfl⟩:=rx;exact wpAny_is_plain rfl ⟨.bl _,H,I,(by simp[ah]),q⟩
 |byt i=>obtain⟨t,rfl⟩:=rx;exact wpAny_is_plain rfl ⟨.bl _,H,I,(by simp[ah]),q⟩
 |flt i=>obtain⟨t,rfl⟩:=rx;exact wpAny_is_plain rfl ⟨.bl _,H,I,(by simp[ah]),q⟩
 |ref i=>cases rx;exact wpAny_is_plain rfl ⟨.bl _,H,I,(by simp[ah]),q⟩
 |ty i=>cases rx;exact wpAny_is_plain rfl ⟨.bl _,H,I,(by simp[ah]),q⟩
theorem Lb:cn X (compareOp .IsNot) (λx y H Q=>∃b,y=.bl b/\Q (.bl (!decide (x=.bl b))) H):=by
 intro OS s σ H x y v u Q I rx ry h;obtain⟨b,rfl,q⟩:=h;cases ry;cases x with
 |non=>cases rx;exact wpAny_isNot_plain rfl ⟨.bl _,H,I,(by simp[ah]),q⟩
 |bl k=>cases rx;exact wpAny_isNot_plain rfl ⟨.bl _,H,I,(by cases k<;>cases b<;>rfl),q⟩
 |int i=>obtain⟨t,rfl⟩:=rx;exact wpAny_isNot_plain rfl ⟨.bl _,H,I,(by simp[ah]),q⟩
 |str i=>obtain⟨t,rfl⟩:=rx;exact wpAny_isNot_plain rfl ⟨.bl _,H,I,(by simp[ah]),q⟩
 |byt i=>obtain⟨t,rfl⟩:=rx;exact wpAny_isNot_plain rfl ⟨.bl _,H,I,(by simp[ah]),q⟩
 |flt i=>obtain⟨t,rfl⟩:=rx;exact wpAny_isNot_plain rfl ⟨.bl _,H,I,(by simp[ah]),q⟩
 |ref i=>cases rx;exact wpAny_isNot_plain rfl ⟨.bl _,H,I,(by simp[ah]),q⟩
 |ty i=>cases rx;exact wpAny_isNot_plain rfl ⟨.bl _,H,I,(by simp[ah]),q⟩
def dc(j:Int):Prop:=j.natAbs<2 ^ 1024
theorem dc.log{j:Int}(h:dc j):j.natAbs.log2<9000:=by
 by_cases h0:j.natAbs=0
 ·rw[h0];decide +kernel
 ·have:j.natAbs.log2<1024:=(Nat.log2_lt h0).mpr h;omega
theorem op_mulB:cn X (binaryOp .Mult) (rI (λi j=>dc i/\dc j) λi j=>.int (i*j)):=tj λi j _ _ _ _ _ hc q=>by
 have bits:∀{x:Int},dc x->Builtin.Int.intBits x<=2 ^ 20:=λ{x} h=>by
  unfold Builtin.Int.intBits;split
  ·exact g6 _
  ·rename_i h0;have h0':x.natAbs≠0:=λz=>h0 (by simpa using z)
   have:x.natAbs.log2<1024:=(Nat.log2_lt h0').mpr h;omega
 exact mul_int q (.of_bits (bits hc.1) (bits hc.2))
theorem Bf:cn X (binaryOp .FloorDiv) (rI (λ_ j=>0<j/\dc j) λi j=>.int (i / j)):=tj λi j _ _ _ _ _ hc q=>by
 have h1:(0:Int)<j:=hc.1;exact floordiv_int (by omega) (by rw[uo i (by omega)];exact q) (.inl (PyProof.noPylong_of_log2 hc.2.log))
end
def dQ:Expr->Bool
 |.Starred ..=>true
 |_=>false
theorem gP{e:Expr}{rest:List Expr}{env:Env}(h:dQ e=false):starEach (e::rest) env=(false,eval e env)::starEach rest env:=by
 cases e<;>first|rfl|exact Bool.noConfusion h
theorem cM{X:Cx}{e:Expr}{es:List Expr}{te:TE}{t:TA}(ha:PE X e te)(hr:PA X es t)(h:dQ e=false:=by rfl):PA X (e::es) (yD te t):=Iu ha hr (gP h)
def dq(P:Program)(w:World)(K:W.Frag)(mg:Str->Option Value)(base:Heap)(k:Nat)(x:Str)(ps:List Str)(sp:Sp):Prop:=
 ∃(f:Addr) (fd:FuncData),f_ P w K mg base ky k f fd ps sp/\il K fd ps []/\mg x=some (.ref f)/\W.keepIn K (.ref f)=true
section
variable{X:Cx}{k:Nat}{x:Str}{ps:List Str}{sp:Sp}{e:Expr}{es:List Expr}{t:TA}{p pos:Pos}
theorem tS(G:dq X.prog X.w X.K X.mg X.base k x ps sp)(hr:bt k X.A)(hg:Gl X x)(ha:PA X (e::es) t)(hdb:(x==("__debug__":Str))=false:=by decide)
  (hst:dQ e=false:=by rfl) (hpl:(backTo pos (starEach es X.env)).any (·.1)=false:=by rfl):PE X (.Call (.Name x p) (e::es) [] pos) (qA sp [] E0 t):=by
 obtain⟨f,fd,F,b,m,kp⟩:=G;exact Iv F hr hg m kp b .nil zm ha hdb (gP hst) hpl
theorem Gr(G:dq X.prog X.w X.K X.mg X.base k x ps sp)(hr:bt k X.A)(hg:Gl X x)(hdb:(x==("__debug__":Str))=false:=by decide):PE X (.Call (.Name x p) [] [] pos) (qA sp [] E0 tZ):=by
 obtain⟨f,fd,F,b,m,kp⟩:=G;exact J3 F hr hg m kp b .nil zm hdb
end
def ao(K:W.Frag)(mg:Str->Option Value)(x:Str)(st:Stmt):Prop:=∃(f:Addr) (fd:FuncData),tq K x x st f fd/\mg x=some (.ref f)
theorem ao.good{P:Program}{w:World}{K:W.Frag}{mg:Str->Option Value}{base:Heap}{x:Str}{st:Stmt}{N ps:List Str}{k:Nat}{sp:Sp}(h:ao K mg x st)(S:dP N ps (aY st))
  (hb:∀(kV doc pm:Value) (an:Option Addr) (OV ct:Value) (us:List Value),us.length=ps.length->bindArgs (W.fnOf x x (fL st) (dE st) (aY st) .none kV doc pm an OV ct) ⟨us,[]⟩=pure (ps.zip us))
  (len:∀vs H Q E,sp vs H Q E->vs.length=ps.length)
  (OX:∀(f:Addr) (OV:Value) (A:Around) (outer:List Env) (s:Shared) (H:Hp) (vs:List V) (Q:VK) (E:XK),bt k (A.deeper (envOfC x (aY st) s.heap.objs.size f OV))->sp vs H Q E ->
   ∃t,ik (gK ky P w K mg base N x (aY st) f OV A outer s H E).nox (dE st) t/\t {nx:=λ_ H'=>Q .non H',rt:=Q} (fE N vs) H):dq P w K mg base (k+1) x ps sp:=by
 obtain⟨f,fd,F,m⟩:=h;exact⟨f,fd,F.ok S len λOV A outer s H vs Q E hr q=>OX f OV A outer s H vs Q E hr q,F.binds hb,m,F.kp⟩
theorem has_mk{K:W.Frag}{h:Heap}{mg:Str->Option Value}{x:Str}{st:Stmt}{f:Addr}{oc:Value}{od an:Option Addr}{osl:Array (Option Value)}{kV doc pm OV ct:Value}(X:K.In h)(G:h.Ns mainGlobals mg)
  (a:W.nsIn K mainGlobals x=some (some (.ref f))) (l:K.lookup f=some ⟨oc,od,.func (W.fnOf x x (fL st) (dE st) (aY st) .none kV doc pm an OV ct),osl⟩)
  (c:W.codeIn K OV x=true) (k:W.keepIn K (.ref f)=true):ao K mg x st:=⟨f,_,ya l c k,PySem.W.mg_of X G a⟩
structure Own (mg:Str->Option Value):Prop where
 len:mg "len"=none
 range:mg "range"=none
 isinstance:mg "isinstance"=none
 int_:mg "int"=none
 bool_:mg "bool"=none
 str_:mg "str"=none
 list_:mg "list"=none
 tuple_:mg "tuple"=none
 dict_:mg "dict"=none
 sum:mg "sum"=none
 min:mg "min"=none
 max:mg "max"=none
 all:mg "all"=none
 any:mg "any"=none
 abs:mg "abs"=none
 zip:mg "zip"=none
 sorted:mg "sorted"=none
 set_:mg "set"=none
 enumerate:mg "enumerate"=none
theorem Gn{K:W.Frag}{h:Heap}{mg:Str->Option Value}(X:K.In h)(G:h.Ns mainGlobals mg)(z1:W.nsIn K mainGlobals "len"=some none)(z2:W.nsIn K mainGlobals "range"=some none)
    (z3:W.nsIn K mainGlobals "isinstance"=some none) (z4:W.nsIn K mainGlobals "int"=some none) (z5:W.nsIn K mainGlobals "bool"=some none) (z6:W.nsIn K mainGlobals "str"=some none)
    (z7:W.nsIn K mainGlobals "list"=some none) (z8:W.nsIn K mainGlobals "tuple"=some none) (z9:W.nsIn K mainGlobals "dict"=some none) (z10:W.nsIn K mainGlobals "sum"=some none)
    (z11:W.nsIn K mainGlobals "min"=some none) (z12:W.nsIn K mainGlobals "max"=some none) (z13:W.nsIn K mainGlobals "all"=some none) (z14:W.nsIn K mainGlobals "any"=some none)
    (z15:W.nsIn K mainGlobals "abs"=some none) (z16:W.nsIn K mainGlobals "zip"=some none) (z17:W.nsIn K mainGlobals "sorted"=some none) (z18:W.nsIn K mainGlobals "set"=some none)
    (z19:W.nsIn K mainGlobals "enumerate"=some none):Own mg:=
  ⟨ja X G z1,ja X G z2,ja X G z3,ja X G z4,ja X G z5,ja X G z6,ja X G z7,ja X G z8,ja X G z9,ja X G z10,
   ja X G z11,ja X G z12,ja X G z13,ja X G z14,ja X G z15,ja X G z16,ja X G z17,ja X G z18,ja X G z19⟩
structure bp (H:Hp) (p c:Addr):Prop where
 ne:p≠c
 dk:∃S k:Int,H p=some (.lst [.ref c,.int S,.int k])
 cs:∃ns:List Int,H c=some (.lst (ns.map V.int))/\ns.length<=64
structure On (p c:Addr) (H H':Hp):Prop where
 d:bp H' p c
 e:∀b o,H b=some o->b≠p->b≠c->H' b=some o
section
variable{p c a:Addr}{H H1 H2:Hp}{o:HO}
theorem bp.nep(d:bp H p c)(h:H a=none):a≠p:=λz=>by
 obtain⟨S,k,e⟩:=d.dk;rw[z,e]at h;cases h
theorem bp.nec(d:bp H p c)(h:H a=none):a≠c:=λz=>by
 obtain⟨ns,e,_⟩:=d.cs;rw[z,e]at h;cases h
theorem bp.alloc(d:bp H p c)(h:H a=none):bp (au H a o) p c:=by
 obtain⟨S,k,e⟩:=d.dk;obtain⟨ns,e',l⟩:=d.cs;exact⟨d.ne,⟨S,k,by rw[bR (d.nep h).symm];exact e⟩,ns,by rw[bR (d.nec h).symm];exact e',l⟩
theorem On.trans(x:On p c H H1)(y:On p c H1 H2):On p c H H2:=⟨y.d,λb o h hp hc=>y.e b o (x.e b o h hp hc) hp hc⟩
theorem On.alloc(x:On p c H H1)(h:H1 a=none):On p c H (au H1 a o):=
 ⟨x.d.alloc h,λb u q hp hc=>by rw[bR (eI (x.e b u q hp hc) h)];exact x.e b u q hp hc⟩
end
def B9:Sp:=λvs H Q _=>∃n k:Int,vs=[.int n,.int k]/\∀r:Int,Q (.int r) H
def AI(K:W.Frag):Sp:=λvs H Q _=>∃(a:Addr) (ns:List Int),vs=[.ref a]/\bx K H a (ns.map V.int)/\∀(p c:Addr) (H':Hp),H p=none->H c=none->bp H' p c->aw H H'->Q (.ref p) H'
def AJ:Sp:=λvs H Q _=>∃(p c:Addr) (m:Int),vs=[.ref p,.int m]/\bp H p c/\0<m/\dc m/\∀(r:Int) (H':Hp),0<=r->r<m->On p c H H'->Q (.int r) H'
theorem ay.there{P:Program}{w:World}{H:Hp}{h:Heap}{a:Addr}{o:HO}(x:ay P w H h a o):∃ob,h.get? a=some ob:=by
 cases o with
 |lst xs=>obtain⟨_,_,_,_,e⟩:=x;exact⟨_,e⟩
 |tup xs=>obtain⟨_,_,_,ob,e,_⟩:=x;exact⟨_,e⟩
 |dK kvs=>obtain⟨_,_,_,_,o,_,_,e,_⟩:=x;exact⟨_,e⟩
 |dT kvs=>obtain⟨_,_,_,_,o,_,_,e,_⟩:=x;exact⟨_,e⟩
 |set S n=>obtain⟨o,_,_,_,e,_⟩:=x;exact⟨_,e⟩
 |ins C dx fs=>obtain⟨_,_,_,e,_⟩:=x;exact⟨_,e⟩
 |own y=>obtain⟨_,e⟩:=x;exact⟨_,e⟩
 |xd fs=>obtain⟨_,⟨_,_,_,e,_⟩,_⟩:=x;exact⟨_,e⟩
 |rng lo hi=>obtain⟨_,_,_,e⟩:=x;exact⟨_,e⟩
 |frz ob u=>obtain⟨e,_⟩:=x;exact⟨_,e⟩
 |tbl ps=>exact⟨_,(show h.get? a=some _ from x)⟩
 |met f y=>exact⟨_,(show h.get? a=some _ from x)⟩
 |ext φ=>obtain⟨_,⟨_,e⟩,_⟩:=x;exact⟨_,e⟩
section
variable{X:Cx}
theorem cC{H:Hp}{a:Addr}{o:HO}(h:H a=none):aw H (au H a o):=λb u q=>by rw[bR (eI q h)];exact q
def E9(K:W.Frag):R2:=λx y H Q=>∃a b xs ys,x=.ref a/\y=.ref b/\cv K H a xs/\cv K H b ys/\xs.length+ys.length<=sizeLine/\∀r H',cv K H' r (xs++ys)->aw H H'->Q (.ref r) H'
theorem op_catG:cn X (binaryOp .Add) (E9 X.K):=by
 intro OS s σ H x y v u Q I rx ry h;obtain⟨a,b,xs,ys,rfl,rfl,ha,hb,hz,q⟩:=h;by_cases hx:xs=[]
 ·subst hx;cases rx;cases ry;obtain⟨its,r1,p1,_⟩:=I.tuple ha;obtain⟨its2,r2,p2,_⟩:=I.tuple hb;obtain⟨⟨cls,dd,data,sl⟩,ho,hc,n,hd⟩:=id p1;obtain⟨⟨cls2,dd2,data2,sl2⟩,ho2,hc2,n2,hd2⟩:=id p2;simp only at hc hd hc2 hd2;subst hc hd hc2 hd2;have e1:its=[]:=r1.nil_iff.mpr rfl;exact concat_meets ⟨_,ho,rfl⟩ ⟨_,ho2,rfl⟩ noFill_tuple_add seq_tuple_add PySem.F.slot_tuple_add PySem.F.entry_tuple_add (PySem.F.args_tuple_add_2 _ _)
   (tuple_addW0 a b its.toArray its2.toArray n n2 dd dd2 sl sl2 (by simp[e1])) ⟨ho,ho2,⟨.ref b,H,I,rfl,q b H hb (aw.refl H)⟩⟩
 ·refine Jr OS s σ H (.ref a) (.ref b) v u Q I rx ry ⟨a,b,xs,ys,rfl,rfl,ha,hb,hx,hz,λe=>q a H (by rw[e,gk];exact ha) (aw.refl H),λ_ p hp=>q p _ (cv.of bJ) (cC hp)⟩
structure QA (X:Cx) (es:List Expr) (t:TA):Prop where
 p:PA X es t
theorem Ba:QA X [] tZ:=⟨cW⟩
theorem zJ{e:Expr}{es:List Expr}{te:TE}{t:TA}(ha:PE X e te)(hr:QA X es t)(h:dQ e=false:=by rfl):QA X (e::es) (yD te t):=⟨cM ha hr.p h⟩
theorem Ao{es:List Expr}{t:TA}{pos:Pos}(h:QA X es t):PE X (.List es pos) (yw t):=A8 h.p
theorem ag.big{OS:List (Addr×Obj)}{σ:St}{H:Hp}{s:Shared}(I:ag X OS σ H s):sysModules<s.heap.objs.size:=by
 have h:mainGlobals<s.heap.objs.size:=(I.mod.glob.keeps I.bk).lt;exact gz (by decide) h
end
section
variable{prog:Program}{w:World}{A:Around}{E:Value->Shared->Prop}{s:Shared}
theorem L4{j t:Addr}{k:Nat}{vs:Array Value}{v:Value}{Q:Value->Shared->Prop}(hj:s.heap.IsTupleIter j t k)(ht:s.heap.IsTuple t vs)(hv:vs[k]?=some v)
  (q:∀h',h'.IsTupleIter j t (k+1)->Heap.SameBut j s.heap h'->Q v {s with heap:=h'}):wpAny (model prog w) A (Builtin.SmallTypes.nextOf (.ref j)) Q E s:=by
 obtain⟨oj,ej,cj,dj⟩:=id hj;obtain⟨ot,et,_,nt,dt⟩:=id ht;unfold Builtin.SmallTypes.nextOf;refine af (wpAny_callSpecial?_slot (name:=Str.ofString "__next__") hj.typeIs F.slot_tuple_iterator_next (jt F.slot_tuple_iterator_next hj.typeIs F.entry_tuple_iterator_next ?_ (F.args_tuple_iterator_next_1 _)));refine af (m:=field (.ref j) 0) (wpAny_field ej dj (x:=.ref t) rfl ?_);have nn:¬ ((Value.ref t==Value.none)=true):=cq;show wpAny (model prog w) A.in1 (if (Value.ref t==Value.none)=true then _ else _) _ _ s;rw[if_neg nn];refine af (m:=field (.ref j) 1) (wpAny_field ej dj (x:=.int k 0) rfl (af (m:=seqItems? (.ref t)) (wpAny_seqItems et dt ?_)));simp only[sj,hv];refine af (wpAny_setField ej dj (by simp) (aj ⟨v,rfl,aj (q _ ⟨_,fo _ ej (Obj.isFreed_of_fields (Obj.data_mapFields dj _)),(Obj.cls_mapFields ..).trans cj,?_⟩ (Heap.SameBut.update ..))⟩));rw[Obj.data_mapFields dj];simp[rawInt]
theorem K_{j t:Addr}{k:Nat}{vs:Array Value}{Q:Value->Shared->Prop}(hh:A.handled=none)(hj:s.heap.IsTupleIter j t k)(ht:s.heap.IsTuple t vs)(hv:vs[k]?=none)
  (q:∀h' e,Heap.ExtBut j s.heap h'->(∃o,h'.get? e=some o/\o.cls=.type "StopIteration")->E (.ref e) {s with heap:=h'}):wpAny (model prog w) A (Builtin.SmallTypes.nextOf (.ref j)) Q E s:=by
 obtain⟨oj,ej,cj,dj⟩:=id hj;obtain⟨ot,et,_,nt,dt⟩:=id ht;unfold Builtin.SmallTypes.nextOf;refine af (wpAny_callSpecial?_slot (name:=Str.ofString "__next__") hj.typeIs F.slot_tuple_iterator_next (jt F.slot_tuple_iterator_next hj.typeIs F.entry_tuple_iterator_next ?_ (F.args_tuple_iterator_next_1 _)));refine af (m:=field (.ref j) 0) (wpAny_field ej dj (x:=.ref t) rfl ?_);have nn:¬ ((Value.ref t==Value.none)=true):=cq;show wpAny (model prog w) A.in1 (if (Value.ref t==Value.none)=true then _ else _) _ _ s;rw[if_neg nn];refine af (m:=field (.ref j) 1) (wpAny_field ej dj (x:=.int k 0) rfl (af (m:=seqItems? (.ref t)) (wpAny_seqItems et dt ?_)));simp only[sj,hv];refine af (wpAny_rule (af (wpAny_setField ej dj (by simp) (af (m:=newExc (.type "StopIteration") []) ?_))));unfold newExc newTuple;refine af (e9 (af (m:=firstArgMember _ _) (wpAny_of_eq (a:=Value.none) (by first|rfl|(simp only[firstArgMember];rfl)) (e9 ?_ (by size_fits)))) (by size_fits));unfold raiseNew;refine af (wpAny_handled ?_);rw[show A.in1.handled=none from hh];exact af (aj (wpAny_throw (q _ _ (((Heap.SameBut.update ..).extBut.push _).push _) ⟨_,ck _ rfl,rfl⟩)))
structure mB (prog:Program) (w:World) (i l:Addr) (it:Nat->Heap->Prop) (sq:Heap->Array Value->Prop):Prop where
 obj:∀k h,it k h->∃o,h.get? i=some o/\∀v,o.data≠.cell v
 itk:∀k h h',it k h->(∀o,h.get? i=some o->h'.get? i=some o)->it k h'
 sqk:∀h h' vs,sq h vs->(∀o,h.get? l=some o->h'.get? l=some o)->sq h' vs
 item:∀(A:Around) (E:Value->Shared->Prop) (s:Shared) (k:Nat) (vs:Array Value) (v:Value) (Q:Value->Shared->Prop),it k s.heap->sq s.heap vs->vs[k]?=some v ->
  (∀h',it (k+1) h'->Heap.SameBut i s.heap h'->Q v {s with heap:=h'})->wpAny (model prog w) A (Builtin.SmallTypes.nextOf (.ref i)) Q E s
 done:∀(A:Around) (E:Value->Shared->Prop) (s:Shared) (k:Nat) (vs:Array Value) (Q:Value->Shared->Prop),A.handled=none->it k s.heap->sq s.heap vs->vs[k]?=none ->
  (∀h' e,Heap.ExtBut i s.heap h'->(∃o,h'.get? e=some o/\o.cls=.type "StopIteration")->E (.ref e) {s with heap:=h'})->wpAny (model prog w) A (Builtin.SmallTypes.nextOf (.ref i)) Q E s
theorem Mq(i l:Addr):mB prog w i l (λk h=>h.IsListIter i l k) (λh vs=>h.IsList l vs) where
 obj:=λk h x=>let ⟨o,e,_,d⟩:=x;⟨o,e,λv z=>by rw[d]at z;cases z⟩
 itk:=λk h h' x f=>let ⟨o,e,r⟩:=x;⟨o,f o e,r⟩
 sqk:=λh h' vs x f=>let ⟨o,e,r⟩:=x;⟨o,f o e,r⟩
 item:=λA E s k vs v Q a b c q=>wpAny_nextOf_list_item a b c q
 done:=λA E s k vs Q hh a b c q=>wpAny_nextOf_list_end hh a b c q
theorem LR(i l:Addr):mB prog w i l (λk h=>h.IsTupleIter i l k) (λh vs=>h.IsTuple l vs) where
 obj:=λk h x=>let ⟨o,e,_,d⟩:=x;⟨o,e,λv z=>by rw[d]at z;cases z⟩
 itk:=λk h h' x f=>let ⟨o,e,r⟩:=x;⟨o,f o e,r⟩
 sqk:=λh h' vs x f=>let ⟨o,e,r⟩:=x;⟨o,f o e,r⟩
 item:=λA E s k vs v Q a b c q=>L4 a b c q
 done:=λA E s k vs Q hh a b c q=>K_ hh a b c q
section
variable{z TI TO i1 i2 l1 l2:Addr}{it1 it2:Nat->Heap->Prop}{sq1 sq2:Heap->Array Value->Prop}
theorem Kd(S1:mB prog w i1 l1 it1 sq1)(S2:mB prog w i2 l2 it2 sq2)(D:ZipApart z TI TO i1 i2 l1 l2){k1 k2:Nat}{xs ys:Array Value}{x y a b:Value}{Q:Value->Shared->Prop}
  (hz:IsZip s.heap z TI TO .none) (hI:IsPair s.heap TI (.ref i1) (.ref i2)) (hO:IsPair s.heap TO a b) (j1:it1 k1 s.heap) (j2:it2 k2 s.heap) (q1:sq1 s.heap xs) (q2:sq2 s.heap ys)
  (hx:xs[k1]?=some x) (hy:ys[k2]?=some y)
  (q:∀h',IsZip h' z TI TO (rawInt s.heap.objs.size)->IsPair h' TO x y->it1 (k1+1) h'->it2 (k2+1) h'->IsPair h' s.heap.objs.size x y->h'.objs.size=s.heap.objs.size+1 ->
   (∀c o,c≠z->c≠TO->c≠i1->c≠i2->s.heap.get? c=some o->h'.get? c=some o)->Q (.ref s.heap.objs.size) {s with heap:=h'}):
  wpAny (model prog w) A (Builtin.«zip.__next__» ⟨[.ref z],[]⟩) (λf s'=>∃v,f=.done (.ret v)/\Q v s') E s:=by
 refine af (m:=field (.ref z) 2) (wpAny_field hz rfl (x:=.bool false) rfl (af (m:=field (.ref z) 3) (wpAny_field hz rfl (x:=.ref TI) rfl (af (wpAny_seqItems hI rfl ?_)))));refine af (m:=Builtin.SmallTypes.ownedTupleIsFree (.ref z)) (af (wpAny_field hz rfl (x:=.none) rfl (aj ?_)));simp only[if_true];refine af (wpAny_rule (af (wpAny_field hz rfl (x:=.ref TO) rfl (af (gr hz (by simp) λh1 hz1 s1=>?_)))));have hz1:IsZip h1 z TI TO .ellipsis:=hz1;refine af ?_;simp only[List.zipIdx_cons,List.zipIdx_nil,sk,List.forIn_nil];have e1:∀c o,c≠z->s.heap.get? c=some o->h1.get? c=some o:=λc o hc e=>s1.extBut _ _ hc e
 refine af (af (wpAny_onRaise (af (m:=Builtin.SmallTypes.nextOf (.ref i1)) (S1.item _ _ _ k1 xs x _ (S1.itk _ _ _ j1 λo e=>e1 _ o D.i1z e) (S1.sqk _ _ _ q1 λo e=>e1 _ o D.l1z e) hx λh2 j1' s2=>aj ?_))));have e2:∀c o,c≠z->c≠i1->s.heap.get? c=some o->h2.get? c=some o:=λc o c1 c2 e=>s2.extBut _ _ c2 (e1 c o c1 e)
 have hO2:IsPair h2 TO a b:=e2 _ _ D.TOz D.TOi1 hO;refine af (wpAny_seqItems hO2 rfl (af (wpAny_updateSeq_pair hO2 λh3 hO3 s3=>af (wpAny_letGo (aj ?_)))));have hO3:IsPair h3 TO x b:=hO3;have e3:∀c o,c≠z->c≠i1->c≠TO->s.heap.get? c=some o->h3.get? c=some o:=λc o c1 c2 c3 e=>s3.extBut _ _ c3 (e2 c o c1 c2 e)
 refine af (af (wpAny_onRaise (af (m:=Builtin.SmallTypes.nextOf (.ref i2)) (S2.item _ _ _ k2 ys y _ (S2.itk _ _ _ j2 λo e=>e3 _ o D.i2z D.i12.symm D.TOi2.symm e) (S2.sqk _ _ _ q2 λo e=>e3 _ o D.l2z D.l2i1 D.l2TO e) hy λh4 j2' s4=>aj ?_))));have hO4:IsPair h4 TO x b:=s4.extBut _ _ D.TOi2 hO3;refine af (wpAny_seqItems hO4 rfl (af (wpAny_updateSeq_pair hO4 λh5 hO5 s5=>af (wpAny_letGo (aj (aj ?_))))));have hO5:IsPair h5 TO x y:=hO5;refine af (wpAny_seqItems hO5 rfl (af (wpAny_newTuple ?_)));have hs5:h5.objs.size=s.heap.objs.size:=by rw[s5.1,s4.1,s3.1,s2.1,s1.1]
 have hz5:IsZip h5 z TI TO .ellipsis:=s5.extBut _ _ D.TOz.symm (s4.extBut _ _ D.i2z.symm (s3.extBut _ _ D.TOz.symm (s2.extBut _ _ D.i1z.symm hz1)));have e5:∀c o,c≠z->c≠TO->c≠i1->c≠i2->s.heap.get? c=some o->h5.get? c=some o:=λc o c1 c2 c3 c4 e=>s5.extBut _ _ c2 (s4.extBut _ _ c4 (e3 c o c1 c3 c2 e))
 have lz:z<h5.objs.size:=bo hz5;refine af (m:=Builtin.SmallTypes.ownedTupleHandOut (.ref z) (.ref h5.objs.size)) ?_;unfold Builtin.SmallTypes.ownedTupleHandOut;have hz6:IsZip (h5.push {cls:=.type "tuple",data:=.seq #[x,y]}) z TI TO .ellipsis:=bh _ hz5;refine af (gr hz6 (by simp) λh7 hz7 s7=>?_);have hz7:IsZip h7 z TI TO (rawInt h5.objs.size):=hz7;refine gr hz7 (by simp) λh8 hz8 s8=>?_
 have hz8:IsZip h8 z TI TO (rawInt h5.objs.size):=hz8;have e8:∀c o,c≠z->h5.get? c=some o->h8.get? c=some o:=λc o c1 e=>s8.extBut _ _ c1 (s7.extBut _ _ c1 (bh _ e))
 have p8:IsPair h8 h5.objs.size x y:=s8.extBut _ _ (jc lz) (s7.extBut _ _ (jc lz) (ck _ rfl));have n8:h8.objs.size=h5.objs.size+1:=by rw[s8.1,s7.1,i3]
 rw[hs5]at hz8 p8 n8;refine aj ⟨_,rfl,?_⟩;show Q (Value.ref h5.objs.size) _;rw[hs5];exact q h8 hz8 (e8 _ _ D.TOz hO5) (S1.itk _ _ _ j1' λo e=>e8 _ o D.i1z (s5.extBut _ _ D.TOi1.symm (s4.extBut _ _ D.i12 (s3.extBut _ _ D.TOi1.symm e)))) (S2.itk _ _ _ j2' λo e=>e8 _ o D.i2z (s5.extBut _ _ D.TOi2.symm e)) p8 n8
  λc o c1 c2 c3 c4 e=>e8 c o c1 (e5 c o c1 c2 c3 c4 e)
theorem Hu(S1:mB prog w i1 l1 it1 sq1)(S2:mB prog w i2 l2 it2 sq2)(D:ZipApart z TI TO i1 i2 l1 l2)(hh:A.handled=none){k1 k2:Nat}{xs ys:Array Value}{a b:Value}{Q:Fin->Shared->Prop}
  (hz:IsZip s.heap z TI TO .none) (hI:IsPair s.heap TI (.ref i1) (.ref i2)) (hO:IsPair s.heap TO a b) (j1:it1 k1 s.heap) (j2:it2 k2 s.heap) (q1:sq1 s.heap xs) (q2:sq2 s.heap ys)
  (hn:xs[k1]?=none\/ys[k2]?=none)
  (q:∀h' e,(∀c o,c≠z->c≠TO->c≠i1->c≠i2->s.heap.get? c=some o->h'.get? c=some o)->(∃o,h'.get? e=some o/\o.cls=.type "StopIteration")->E (.ref e) {s with heap:=h'}):
  wpAny (model prog w) A (Builtin.«zip.__next__» ⟨[.ref z],[]⟩) Q E s:=by
 refine af (m:=field (.ref z) 2) (wpAny_field hz rfl (x:=.bool false) rfl (af (m:=field (.ref z) 3) (wpAny_field hz rfl (x:=.ref TI) rfl (af (wpAny_seqItems hI rfl ?_)))));refine af (m:=Builtin.SmallTypes.ownedTupleIsFree (.ref z)) (af (wpAny_field hz rfl (x:=.none) rfl (aj ?_)));simp only[if_true];refine af (wpAny_rule (af (wpAny_field hz rfl (x:=.ref TO) rfl (af (gr hz (by simp) λh1 hz1 s1=>?_)))));have hz1:IsZip h1 z TI TO .ellipsis:=hz1;refine af ?_;simp only[List.zipIdx_cons,List.zipIdx_nil,sk,List.forIn_nil];have e1:∀c o,c≠z->s.heap.get? c=some o->h1.get? c=some o:=λc o hc e=>s1.extBut _ _ hc e
 have ez:∀{h:Heap} {e:Addr} {o:Obj},IsZip h z TI TO .ellipsis->h.get? e=some o->o.cls=.type "StopIteration"->e≠z:=λhz ho hc x=>by
  subst x;rw[hz]at ho;cases ho;simp at hc
 cases hx:xs[k1]? with
 |none=>
  refine af (af (wpAny_onRaise (af (m:=Builtin.SmallTypes.nextOf (.ref i1)) (S1.done _ _ _ k1 xs _ hh (S1.itk _ _ _ j1 λo e=>e1 _ o D.i1z e) (S1.sqk _ _ _ q1 λo e=>e1 _ o D.l1z e) hx λh2 e s2 he=>?_))));obtain⟨oe,ho,hc⟩:=he;have hz2:IsZip h2 z TI TO .ellipsis:=s2 _ _ D.i1z.symm hz1;exact gr hz2 (by simp) λh3 _ s3=>q h3 e (λc o c1 _ c3 _ u=>s3.extBut _ _ c1 (s2 _ _ c3 (e1 c o c1 u))) ⟨oe,s3.extBut _ _ (ez hz2 ho hc) ho,hc⟩
 |some x=>
  have hy:ys[k2]?=none:=by
   rcases hn with h|h
   ·rw[hx]at h;cases h
   ·exact h
  refine af (af (wpAny_onRaise (af (m:=Builtin.SmallTypes.nextOf (.ref i1)) (S1.item _ _ _ k1 xs x _ (S1.itk _ _ _ j1 λo e=>e1 _ o D.i1z e) (S1.sqk _ _ _ q1 λo e=>e1 _ o D.l1z e) hx λh2 j1' s2=>aj ?_))));have e2:∀c o,c≠z->c≠i1->s.heap.get? c=some o->h2.get? c=some o:=λc o c1 c2 e=>s2.extBut _ _ c2 (e1 c o c1 e)
  have hO2:IsPair h2 TO a b:=e2 _ _ D.TOz D.TOi1 hO;refine af (wpAny_seqItems hO2 rfl (af (wpAny_updateSeq_pair hO2 λh3 hO3 s3=>af (wpAny_letGo (aj ?_)))));have e3:∀c o,c≠z->c≠i1->c≠TO->s.heap.get? c=some o->h3.get? c=some o:=λc o c1 c2 c3 e=>s3.extBut _ _ c3 (e2 c o c1 c2 e)
  refine af (af (wpAny_onRaise (af (m:=Builtin.SmallTypes.nextOf (.ref i2)) (S2.done _ _ _ k2 ys _ hh (S2.itk _ _ _ j2 λo e=>e3 _ o D.i2z D.i12.symm D.TOi2.symm e) (S2.sqk _ _ _ q2 λo e=>e3 _ o D.l2z D.l2i1 D.l2TO e) hy λh4 e s4 he=>?_))));obtain⟨oe,ho,hc⟩:=he;have hz4:IsZip h4 z TI TO .ellipsis:=s4 _ _ D.i2z.symm (s3.extBut _ _ D.TOz.symm (s2.extBut _ _ D.i1z.symm hz1));exact gr hz4 (by simp) λh5 _ s5=>q h5 e (λc o c1 c2 c3 c4 u=>s5.extBut _ _ c1 (s4 _ _ c4 (e3 c o c1 c3 c2 u))) ⟨oe,s5.extBut _ _ (ez hz4 ho hc) ho,hc⟩
end
abbrev vf(hp:Heap)(a b:Addr):Heap:=hp.push {cls:=.type "tuple_iterator",data:=.fields #[.ref a,.int 0 0]}
abbrev ve(hp:Heap)(a b:Addr):Heap:=(vf hp a b).push {cls:=.type "tuple_iterator",data:=.fields #[.ref b,.int 0 0]}
abbrev vd(hp:Heap)(a b:Addr):Heap:=(ve hp a b).push {cls:=.type "tuple",data:=.seq #[.ref hp.objs.size,.ref (vf hp a b).objs.size]}
abbrev vc(hp:Heap)(a b:Addr):Heap:=(vd hp a b).push {cls:=.type "tuple",data:=.seq #[.none,.none]}
abbrev rf(hp:Heap)(a b:Addr):Heap:=(vc hp a b).push {cls:=.type "zip",data:=.fields #[.none,.bool false,.bool false,.ref (ve hp a b).objs.size,.ref (vd hp a b).objs.size]}
theorem Lo(a b:Addr)(xs ys:Array Value):Meets (Builtin.«zip.__new__» ⟨[.type "zip",.ref a,.ref b],[]⟩) (λ_ R s=>s.heap.IsTuple a xs/\s.heap.IsTuple b ys/\R (.ok (.ret (.ref (vc s.heap a b).objs.size))) {s with heap:=rf s.heap a b}):=
 .of_wp λprog w A R s h=>by
  obtain⟨hp,g,d,tk,os⟩:=s;obtain⟨ha,hb,h⟩:=h;have sz:=sub_zip;have ha:Heap.IsTuple (Shared.heap ⟨hp,g,d,tk,os⟩) a xs:=ha;have hb:Heap.IsTuple (Shared.heap ⟨hp.push {cls:=.type "tuple_iterator",data:=.fields #[.ref a,.int 0 0]},g,d,tk,os⟩) b ys:=Heap.IsTuple.push hb _;wp_walk using wpAny_pyIter_tuple ha,wpAny_pyIter_tuple hb;exact⟨_,rfl,h⟩
theorem KO{a b:Addr}{xs ys:Array Value}{Q:Value->Shared->Prop}(ha:s.heap.IsTuple a xs)(hb:s.heap.IsTuple b ys)
  (q:∀h',IsZip h' (s.heap.objs.size+4) (s.heap.objs.size+2) (s.heap.objs.size+3) .none->IsPair h' (s.heap.objs.size+2) (.ref s.heap.objs.size) (.ref (s.heap.objs.size+1))->IsPair h' (s.heap.objs.size+3) .none .none ->
   h'.IsTupleIter s.heap.objs.size a 0->h'.IsTupleIter (s.heap.objs.size+1) b 0->h'.objs.size=s.heap.objs.size+5->(∀c o,s.heap.get? c=some o->h'.get? c=some o)->Q (.ref (s.heap.objs.size+4)) {s with heap:=h'}):
  wpAny (model prog w) A (call (.type "zip") [.ref a,.ref b]) Q E s:=by
 refine callType_new F.called_zip (by decide) (F.typeCall_zip_2 _ _) (F.newCall_zip_2 _ _) (λo=>F.args_object_init_3 o _ _) F.entry_zip_new (Lo a b xs ys) ⟨ha,hb,?_⟩;have n1:(vf s.heap a b).objs.size=s.heap.objs.size+1:=i3 ..;have n2:(ve s.heap a b).objs.size=s.heap.objs.size+2:=by rw[i3,n1]
 have n3:(vd s.heap a b).objs.size=s.heap.objs.size+3:=by rw[i3,n2]
 have n4:(vc s.heap a b).objs.size=s.heap.objs.size+4:=by rw[i3,n3]
 have n5:(rf s.heap a b).objs.size=s.heap.objs.size+5:=by rw[i3,n4]
 have p5:(rf s.heap a b).get? (vc s.heap a b).objs.size=some _:=ck _ rfl;have p4:(rf s.heap a b).get? (vd s.heap a b).objs.size=some _:=bh _ (ck _ rfl);have p3:(rf s.heap a b).get? (ve s.heap a b).objs.size=some _:=bh _ (bh _ (ck _ rfl));have p2:(rf s.heap a b).get? (vf s.heap a b).objs.size=some _:=bh _ (bh _ (bh _ (ck _ rfl)));have p1:(rf s.heap a b).get? s.heap.objs.size=some _:=bh _ (bh _ (bh _ (bh _ (ck _ rfl))));show _/\_;rw[n2,n3,n4]at p5;rw[n1,n2]at p3;rw[n3]at p4;rw[n1]at p2;rw[n4];exact⟨⟨_,p5,rfl⟩,q _ p5 p3 p4 ⟨_,p1,rfl,rfl⟩ ⟨_,p2,rfl,rfl⟩ n5 λc o e=>bh _ (bh _ (bh _ (bh _ (bh _ e))))⟩
end
section
variable{X:Cx}{OS:List (Addr×Obj)}{σ:St}{H:Hp}{s:Shared}{h':Heap}
theorem ag.turnedL{t':Nat}{ch:List Addr}(I:ag X OS σ H s)(hf:∀b∈ch,fQ X OS H b)(k:∀b o,b∉ch->s.heap.get? b=some o->h'.get? b=some o):ag X OS σ H {s with heap:=h',toks:=t'}:=by
 have nit:∀b u,H b=some u->b∉ch:=λb u e z=>by rw[(hf b z).1]at e;cases e
 refine I.step (g':=s.gens) (d':=s.drawn) (ch:=ch) (λb hb=>?_) (λb o _ _ hc e _=>k b o hc e) (λb o _ _ hc e _=>⟨o.slots,k b o hc e⟩) (λ_ _ _ _ n=>n)
  (λb o hc e=>⟨o,k b o hc e⟩) (λ_ _ e=>e) (λ_ _ _ e=>e) (λb ps e=>⟨#[],by rw[e];simp⟩) (λm hm=>?_) (λb u e=>?_) I.bare
 ·obtain⟨_,f1,_,f3,f4,f5⟩:=hf b hb;exact⟨f3,f1,f4,f5⟩
 ·obtain⟨o,es,ep,ho,r⟩:=hm;exact⟨o,es,ep,k _ o (λz=>(hf _ z).2.1 rfl) ho,r⟩
 ·refine(I.hok b u e).stay (λc v hc q=>k c v ?_ q) (λ_ q=>q) λ_ _ q=>q
  rcases hc with z|z
  ·rw[z];exact nit b u e
  ·exact nit c _ z
end
def m5(t:Bool)(K:W.Frag)(H:Hp)(a:Addr)(xs:List V):Prop:=match t with
 |false=>bx K H a xs
 |true=>cv K H a xs
def wo(t:Bool)(K:W.Frag)(a b:Addr):It:=
  ⟨λi H=>∃xs ys x y,m5 t K H a xs/\m5 t K H b ys/\xs[i]?=some x/\ys[i]?=some y,
   λi H v H'=>∃p x y,v=.ref p/\H p=none/\H'=au H p (.tup [x,y])/\(∀xs,m5 t K H a xs->xs[i]?=some x)/\∀ys,m5 t K H b ys->ys[i]?=some y,
   λi H=>∃xs ys,m5 t K H a xs/\m5 t K H b ys/\(xs.length<=i\/ys.length<=i)⟩
def uz(t:Bool)(i a:Addr)(k:Nat)(h:Heap):Prop:=match t with
 |false=>h.IsListIter i a k
 |true=>h.IsTupleIter i a k
def sqX(t:Bool)(a:Addr)(h:Heap)(vs:Array Value):Prop:=match t with
 |false=>h.IsList a vs
 |true=>h.IsTuple a vs
theorem gS{prog:Program}{w:World}(t:Bool)(i a:Addr):mB prog w i a (uz t i a) (sqX t a):=by
 cases t
 ·exact Mq i a
 ·exact LR i a
section
variable{X:Cx}{OS:List (Addr×Obj)}{σ:St}{H:Hp}{s:Shared}
theorem ag.sqX{t:Bool}{a:Addr}{xs:List V}(I:ag X OS σ H s)(h:m5 t X.K H a xs):∃vs:List Value,ai xs vs/\L2.sqX t a s.heap vs.toArray/\xs.length<=sizeLine:=by
 cases t
 ·obtain⟨its,r,p,hz⟩:=I.list h;exact⟨its,r,p.isList,hz⟩
 ·obtain⟨its,r,p,hz⟩:=I.tuple h;exact⟨its,r,p,hz⟩
theorem ag.sqX_inj{t:Bool}{a:Addr}{xs ys:List V}(I:ag X OS σ H s)(h:m5 t X.K H a xs)(h':m5 t X.K H a ys):xs=ys:=by
 cases t
 ·exact I.list_inj h h'
 ·exact I.tuple_inj h h'
end
theorem Li{P:Program}{w:World}{K:W.Frag}{es:List Expr}{ek:Nat}{pos:Pos}(t:Bool)(a b z TI TO i1 i2:Addr)(D:ZipApart z TI TO i1 i2 a b):
  jK P w K (.Tuple es ek pos) (wo t K a b) [z,TI,TO,i1,i2] z (λi h=>IsZip h z TI TO .none/\IsPair h TI (.ref i1) (.ref i2)/\(∃x y,IsPair h TO x y)/\uz t i1 a i h/\uz t i2 b i h) where
 mem:=by simp
 obj:=λi h st c hc=>by
  obtain⟨hz,hI,⟨x,y,hO⟩,j1,j2⟩:=st;simp only[qe_,b_,or_false]at hc;rcases hc with e|e|e|e|e<;>subst e
  ·exact⟨_,hz,λv u=>by cases u⟩
  ·exact⟨_,hI,λv u=>by cases u⟩
  ·exact⟨_,hO,λv u=>by cases u⟩
  ·exact(gS (prog:=P) (w:=w) t _ a).obj _ _ j1
  ·exact(gS (prog:=P) (w:=w) t _ b).obj _ _ j2
 keep:=λi h h' st k=>by
  obtain⟨hz,hI,⟨x,y,hO⟩,j1,j2⟩:=st;exact⟨k z (by simp) _ hz,k TI (by simp) _ hI,⟨x,y,k TO (by simp) _ hO⟩,(gS (prog:=P) (w:=w) t i1 a).itk _ _ _ j1 λo e=>k i1 (by simp) o e,(gS (prog:=P) (w:=w) t i2 b).itk _ _ _ j2 λo e=>k i2 (by simp) o e⟩
 item:=by
  intro X hP hw hK hc i OS s σ H E I hf st hg;subst hP hw hK;obtain⟨xs,ys,x,y,qa,qb,hx,hy⟩:=hg;obtain⟨hz,hI,⟨x0,y0,hO⟩,j1,j2⟩:=st;obtain⟨va,ra,pa,za⟩:=I.sqX qa;obtain⟨vb,rb,pb,zb⟩:=I.sqX qb;obtain⟨u,hu,ru⟩:=ra.get hx;obtain⟨v,hv,rv⟩:=rb.get hy;have hT:s.TypeIs (.ref z) "zip":=⟨_,hz,rfl⟩
  unfold pyNext
  refine af (wpAny_attempt (wpAny_callSpecial?_slot (name:=Str.ofString "__next__") hT F.slot_zip_next (jt F.slot_zip_next hT F.entry_zip_next (Kd (gS t i1 a) (gS t i2 b) D hz hI hO j1 j2 pa pb (x:=u) (y:=v) (by simpa using hu) (by simpa using hv)
   λh' a1 a2 a3 a4 a5 a6 a7=>aj ⟨_,rfl,?_⟩) (F.args_zip_next_1 _))))
  refine wpAny_letOwnedTupleGo_zip (s:={s with heap:=h'}) a1 λh2 b1 b2=>?_
  have hn:∀c∈[z,TI,TO,i1,i2],c≠s.heap.objs.size:=λc hc' e=>by
   obtain⟨o,ho,_⟩:∃o,s.heap.get? c=some o/\True:=by
    simp only[qe_,b_,or_false]at hc';rcases hc' with q|q|q|q|q
    ·exact⟨_,q▸hz,trivial⟩
    ·exact⟨_,q▸hI,trivial⟩
    ·exact⟨_,q▸hO,trivial⟩
    ·obtain⟨o,ho,_⟩:=(gS (prog:=X.prog) (w:=X.w) t i1 a).obj _ _ j1;exact⟨o,q▸ho,trivial⟩
    ·obtain⟨o,ho,_⟩:=(gS (prog:=X.prog) (w:=X.w) t i2 b).obj _ _ j2;exact⟨o,q▸ho,trivial⟩
   exact absurd (bo ho) (by rw[e];exact g5 _)
  have I0:ag X OS σ (au H s.heap.objs.size (.tup [x,y])) {s with heap:=s.heap.push {cls:=.type "tuple",data:=.seq #[u,v]}}:=
   I.laid (t':=s.toks) (λc o e=>bh _ e) (bg _) ⟨by show 2<=sizeLine;decide,[u,v],.cons ru (.cons rv .nil),IsTup.new _ _⟩
  have hf0:∀c∈[z,TI,TO,i1,i2],fQ X OS (au H s.heap.objs.size (.tup [x,y])) c:=λc hc'=>⟨by rw[bR (hn c hc')];exact(hf c hc').1,(hf c hc').2⟩
  have I1:ag X OS σ (au H s.heap.objs.size (.tup [x,y])) {s with heap:=h2}:=ag.turnedL (s:={s with heap:=s.heap.push {cls:=.type "tuple",data:=.seq #[u,v]}}) (t':=s.toks) (ch:=[z,TI,TO,i1,i2]) I0 hf0 λc o hc' e=>by
   simp only[qe_,b_,or_false,not_or]at hc';obtain⟨c1,c2,c3,c4,c5⟩:=hc';by_cases hcn:c=s.heap.objs.size
   ·subst hcn;have e':(s.heap.push {cls:=.type "tuple",data:=.seq #[u,v]}).get? s.heap.objs.size=some o:=e;rw[ck _ rfl]at e';cases e';exact b2.extBut _ _ c1 a5
   ·refine b2.extBut _ _ c1 (a7 c o c1 c3 c4 c5 ?_);have e':(s.heap.push {cls:=.type "tuple",data:=.seq #[u,v]}).get? c=some o:=e;rw[Heap.get?_push_ne _ _ _ hcn]at e';exact e'
  refine⟨.ref s.heap.objs.size,_,I1,rfl,⟨_,x,y,rfl,I.hok.fresh (bg _),rfl,λxs' h=>by rw[I.sqX_inj h qa];exact hx,λys' h=>by rw[I.sqX_inj h qb];exact hy⟩,⟨b1,?_,⟨u,v,b2.extBut _ _ D.TOz a2⟩,?_,?_⟩,λc hc'=>(hf0 c hc').1⟩
  ·exact b2.extBut _ _ D.TIz (a7 _ _ D.TIz D.TITO D.TIi1 D.TIi2 hI)
  ·exact(gS (prog:=X.prog) (w:=X.w) t i1 a).itk _ _ _ a3 λo e=>b2.extBut _ _ D.i1z e
  ·exact(gS (prog:=X.prog) (w:=X.w) t i2 b).itk _ _ _ a4 λo e=>b2.extBut _ _ D.i2z e
 done:=by
  intro X hP hw hK hc i OS s σ H E I hf st hg;subst hP hw hK;obtain⟨xs,ys,qa,qb,hl⟩:=hg;obtain⟨hz,hI,⟨x0,y0,hO⟩,j1,j2⟩:=st;obtain⟨va,ra,pa,za⟩:=I.sqX qa;obtain⟨vb,rb,pb,zb⟩:=I.sqX qb;have la:=ra.length;have lb:=rb.length;have hT:s.TypeIs (.ref z) "zip":=⟨_,hz,rfl⟩
  unfold pyNext
  refine af (wpAny_attempt (wpAny_callSpecial?_slot (name:=Str.ofString "__next__") hT F.slot_zip_next (jt F.slot_zip_next hT F.entry_zip_next (Hu (gS t i1 a) (gS t i2 b) D (show X.A.in1.handled=none from I.ok.hd hc) hz hI hO j1 j2 pa pb
   (hl.elim (λh=>.inl (by simp;omega)) λh=>.inr (by simp;omega)) λh' e k he=>?_) (F.args_zip_next_1 _))))
  obtain⟨o,ho,hce⟩:=he;refine af (wpAny_isInstance (T:="StopIteration") (b:=true) ⟨o,ho,hce⟩ isSubtype_stop (aj ⟨rfl,I.turnedL (t':=s.toks) hf λc o hc' e=>?_⟩));simp only[qe_,b_,or_false,not_or]at hc';exact k c o hc'.1 hc'.2.2.1 hc'.2.2.2.1 hc'.2.2.2.2 e
 self:=λ_ _ _ _ _ st h=>wpAny_pyIter_zip st.1 h
theorem Ht{n a b:Nat}(ha:a<n)(hb:b<n):ZipApart (n+4) (n+2) (n+3) n (n+1) a b:=by
 constructor<;>(intro (e:(_:Nat)=_);omega)
theorem Ly:bootBuiltins "zip"=some (.type "zip"):=by decide +kernel
section
variable{X:Cx}
def DU(K:W.Frag)(ta:TA):TI:=λσ H R=>ta σ H λvs H1=>∃(t:Bool) (a b:Addr),vs=[.ref a,.ref b]/\(∃xs,m5 t K H1 a xs)/\(∃ys,m5 t K H1 b ys)/\R (wo t K a b) H1
theorem Io{a b:Expr}{ta:TA}{es:List Expr}{ek:Nat}{p pos pos':Pos}(hg:Gl X "zip")(hm:X.mg "zip"=none)(ha:PA X [a,b] ta)(hs:starEach [a,b] X.env=[(false,eval a X.env),(false,eval b X.env)]:=by rfl)(hs2:starEach [b] X.env=[(false,eval b X.env)]:=by rfl):
  PI X (.Tuple es ek pos') (.Call (.Name "zip" p) [a,b] [] pos) (DU X.K ta):=by
 intro OS s σ H R I h;refine Call_ (nR I hg hm Ly (PyProof.Rows.callWith_type1 (bq (ha pos OS s σ H _ I h) λus s1 ⟨vs,H1,I1,r1,q1⟩=>?_) (by rw[hs,hs2]) (by rw[hs2];rfl)));obtain⟨t,a,b,e,⟨xs,hx⟩,⟨ys,hy⟩,q⟩:=q1;subst e;obtain⟨u,w',rfl,rx,ry⟩:=jS r1;cases rx;cases ry;obtain⟨va,ra,pa,za⟩:=I1.sqX hx;obtain⟨vb,rb,pb,zb⟩:=I1.sqX hy;have la:a<s1.heap.objs.size:=by
  cases t
  ·obtain⟨o,e,_⟩:=pa;exact bo e
  ·obtain⟨o,e,_⟩:=pa;exact bo e
 have lb:b<s1.heap.objs.size:=by
  cases t
  ·obtain⟨o,e,_⟩:=pb;exact bo e
  ·obtain⟨o,e,_⟩:=pb;exact bo e
 have fin:∀h':Heap,IsZip h' (s1.heap.objs.size+4) (s1.heap.objs.size+2) (s1.heap.objs.size+3) .none->IsPair h' (s1.heap.objs.size+2) (.ref s1.heap.objs.size) (.ref (s1.heap.objs.size+1))->IsPair h' (s1.heap.objs.size+3) .none .none ->
   uz t s1.heap.objs.size a 0 h'->uz t (s1.heap.objs.size+1) b 0 h'->h'.objs.size=s1.heap.objs.size+5->(∀c o,s1.heap.get? c=some o->h'.get? c=some o) ->
   wpAny (model X.prog X.w) X.A (pyIter (.ref (s1.heap.objs.size+4))) (v5 X OS σ (.Tuple es ek pos') R) X.xe {s1 with heap:=h'}:=by
  intro h' hz hI hO j1 j2 _ k;refine wpAny_pyIter_zip hz ?_;refine⟨_,[s1.heap.objs.size+4,s1.heap.objs.size+2,s1.heap.objs.size+3,s1.heap.objs.size,s1.heap.objs.size+1],_,_,H1,rfl,I1.kept (t':=s1.toks) k,Li t a b _ _ _ _ _ ?_,⟨hz,hI,⟨_,_,hO⟩,j1,j2⟩,λc hc=>?_,q⟩
  ·exact Ht la lb
  ·have:s1.heap.objs.size<=c:=by
    simp only[qe_,b_,or_false]at hc;rcases hc with e|e|e|e|e<;>(rw[e];first|exact bg _|exact Nat.le_add_right _ _)
   exact I1.fpOk this (I1.hok.fresh this)
 cases t
 ·exact call_zip_2 pa pb fin
 ·exact KO pa pb fin
theorem LF(hc:X.calm=true):aq X (.builtin "min") (λxs H Q=>∃(p:Addr) (ns:List Int),xs=[.ref p]/\bx X.K H p (ns.map V.int)/\0<ns.length/\∀M,M∈ns->(∀a∈ns,M<=a)->Q (.int M) H):=by
 intro OS s σ H xs us Q I r h;obtain⟨p,ns,rfl,hq,hn,q⟩:=h;obtain⟨u,rfl,rx⟩:=cI r;cases rx;obtain⟨its,rv,pl,hz⟩:=I.list hq;have hi:IntsAre its ns:=rB rv;obtain⟨zs,ez⟩:=hi.allInts.items;have en:ns=zs.toList.map (·.1):=by rw[<-hi.numsOf,<-nums_intItems,<-ez]
 have hz0:0<zs.size:=by rw[en,ak,e7]at hn;exact hn
 have hl:=pl.isList;rw[ez]at hl;refine min_intList (I.ok.hd hc) hl hz0 λv h' tk hv hk=>?_
 obtain⟨t,rfl⟩:=intItems_at hv;obtain⟨h1,h2⟩:=argBest_lt (numAt zs) (zs.size-1);refine⟨.int _,H,I.kept hk,⟨t,rfl⟩,q _ ?_ λa ha=>?_⟩
 ·rw[en,numAt_eq];exact getD_mem (by rw[ak,e7];omega)
 ·rw[en]at ha;obtain⟨j,hj,rfl⟩:=mem_getD ha;rw[ak,e7]at hj;have:=h2 j (by omega);rw[numAt_eq zs j]at this;exact this
theorem LC(hc:X.calm=true):aq X (.builtin "max") (λxs H Q=>∃(p:Addr) (ns:List Int),xs=[.ref p]/\bx X.K H p (ns.map V.int)/\0<ns.length/\∀M,M∈ns->(∀a∈ns,a<=M)->Q (.int M) H):=by
 intro OS s σ H xs us Q I r h;obtain⟨p,ns,rfl,hq,hn,q⟩:=h;obtain⟨u,rfl,rx⟩:=cI r;cases rx;obtain⟨its,rv,pl,hz⟩:=I.list hq;have hi:IntsAre its ns:=rB rv;obtain⟨zs,ez⟩:=hi.allInts.items;have en:ns=zs.toList.map (·.1):=by rw[<-hi.numsOf,<-nums_intItems,<-ez]
 have hz0:0<zs.size:=by rw[en,ak,e7]at hn;exact hn
 have hl:=pl.isList;rw[ez]at hl;refine max_intList (I.ok.hd hc) hl hz0 λv h' tk hv hk=>?_
 obtain⟨t,rfl⟩:=intItems_at hv;obtain⟨h1,h2⟩:=argBest_gt (numAt zs) (zs.size-1);refine⟨.int _,H,I.kept hk,⟨t,rfl⟩,q _ ?_ λa ha=>?_⟩
 ·rw[en,numAt_eq];exact getD_mem (by rw[ak,e7];omega)
 ·rw[en]at ha;obtain⟨j,hj,rfl⟩:=mem_getD ha;rw[ak,e7]at hj;have:=h2 j (by omega);rw[numAt_eq zs j]at this;exact this
end
theorem Ni{us:List Value}{ns:List Int}(h:IntsAre us ns):ai (ns.map V.int) us:=by
 induction h with
 |nil=>exact .nil
 |cons n t _ ih=>exact .cons ⟨t,rfl⟩ ih
section
variable{X:Cx}
theorem call_sortedI:aq X (.builtin "sorted") (λxs H Q=>∃(p:Addr) (ns:List Int),xs=[.ref p]/\bx X.K H p (ns.map V.int)/\ns.length<64 /\
  ∀(ns':List Int) (l:Addr),ns'.Perm ns->ns'.Pairwise (·<=·)->H l=none->Q (.ref l) (au H l (.lst (ns'.map V.int)))):=by
 intro OS s σ H xs us Q I r h;obtain⟨p,ns,rfl,hq,h64,q⟩:=h;obtain⟨u,rfl,rx⟩:=cI r;cases rx;obtain⟨its,rv,pl,hz⟩:=I.list hq;have hi:IntsAre its ns:=rB rv;have hll:=rv.length;rw[ak]at hll;refine sorted_ints pl.isList hi (by omega) λout ns' a1 a2 a3=>?_
 obtain⟨e,he⟩:=sortedAll_at s.heap its out;have hlen:=a2.length_eq;refine⟨.ref (s.heap.objs.size+1),_,I.laid (t':=s.toks) (λb o e=>sortedAll_old e) (jl _) (show ay X.prog X.w _ _ _ (.lst (ns'.map V.int)) from ⟨?_,out.toList,e,Ni a1,he⟩),rfl,q ns' _ a2 a3 (I.hok.fresh (jl _))⟩;rw[ak,hlen];exact ff (gz h64 (by decide))
end
def u7(x:Str):It:=⟨λi _=>i<x.cps.size,λi H v H'=>H'=H/\∃c,x.cps[i]?=some c/\v=.str ⟨#[c]⟩,λi _=>x.cps.size<=i⟩
theorem Mw{P:Program}{w:World}{K:W.Frag}{tg:Expr}(it:Addr)(x:Str)(t:Tok):jK P w K tg (u7 x) [it] it (λi h=>h.IsStrIter it "str_ascii_iterator" x t i) where
 mem:=by simp
 obj:=λi h st b hb=>by
  have e:b=it:=by simpa using hb
  subst e;obtain⟨o,e,c,d⟩:=st;exact⟨o,e,λv z=>by rw[d]at z;cases z⟩
 keep:=λi h h' st k=>let ⟨o,ho,r⟩:=st;⟨o,k it (by simp) o ho,r⟩
 item:=by
  intro X hP hw hK hc i OS s σ H E I hf st hg;subst hP hw hK;obtain⟨f0,f1,f2,f3,f4,f5⟩:=hf it (by simp);have W:=Walks.strAscii (prog:=X.prog) (w:=X.w) (I.ok.hd hc) it x t;refine W.item i s _ _ hg st λv h' tk hv st' kk=>?_
  obtain⟨c,u,hc',rfl⟩:=hv;have I1:ag X OS σ H {s with heap:=h',toks:=tk}:=I.turned (λb o hb e=>kk b o (by simpa using hb) e) f0 f1 f3 f4 f5;obtain⟨o,e,c1,d⟩:=id st';exact⟨_,rfl,nX (s:={s with heap:=h',toks:=tk}) e c1 d (by decide) ⟨.str ⟨#[c]⟩,H,I1,⟨u,rfl⟩,⟨rfl,c,hc',rfl⟩,st',λb hb=>(hf b hb).1⟩⟩
 done:=by
  intro X hP hw hK hc i OS s σ H E I hf st hg;subst hP hw hK;obtain⟨f0,f1,f2,f3,f4,f5⟩:=hf it (by simp);exact wpAny_pyNext_ascii_end (I.ok.hd hc) st (by have:x.cps.size<=i:=hg;simp;omega) λh' eb=>⟨rfl,I.turned (t':=s.toks) (λb o hb e=>eb b o hb e) f0 f1 f3 f4 f5⟩
 self:=λ_ _ _ _ _ st h=>wpAny_pyIter_striter_ascii st h
theorem Mx{P:Program}{w:World}{K:W.Frag}{tg:Expr}(it:Addr)(x:Str)(t:Tok):jK P w K tg (u7 x) [it] it (λi h=>h.IsStrIter it "str_iterator" x t i) where
 mem:=by simp
 obj:=λi h st b hb=>by
  have e:b=it:=by simpa using hb
  subst e;obtain⟨o,e,c,d⟩:=st;exact⟨o,e,λv z=>by rw[d]at z;cases z⟩
 keep:=λi h h' st k=>let ⟨o,ho,r⟩:=st;⟨o,k it (by simp) o ho,r⟩
 item:=by
  intro X hP hw hK hc i OS s σ H E I hf st hg;subst hP hw hK;obtain⟨f0,f1,f2,f3,f4,f5⟩:=hf it (by simp);have W:=Walks.strWide (prog:=X.prog) (w:=X.w) (I.ok.hd hc) it x t;refine W.item i s _ _ hg st λv h' tk hv st' kk=>?_
  obtain⟨c,u,hc',rfl⟩:=hv;have I1:ag X OS σ H {s with heap:=h',toks:=tk}:=I.turned (λb o hb e=>kk b o (by simpa using hb) e) f0 f1 f3 f4 f5;obtain⟨o,e,c1,d⟩:=id st';exact⟨_,rfl,nX (s:={s with heap:=h',toks:=tk}) e c1 d (by decide) ⟨.str ⟨#[c]⟩,H,I1,⟨u,rfl⟩,⟨rfl,c,hc',rfl⟩,st',λb hb=>(hf b hb).1⟩⟩
 done:=by
  intro X hP hw hK hc i OS s σ H E I hf st hg;subst hP hw hK;obtain⟨f0,f1,f2,f3,f4,f5⟩:=hf it (by simp);exact wpAny_pyNext_wide_end (I.ok.hd hc) st (by have:x.cps.size<=i:=hg;simp;omega) λh' eb=>⟨rfl,I.turned (t':=s.toks) (λb o hb e=>eb b o hb e) f0 f1 f3 f4 f5⟩
 self:=λ_ _ _ _ _ st h=>wpAny_pyIter_striter_wide st h
section
variable{X:Cx}
def IL:V->List V->Hp->VK->Prop:=λx vs H Q=>∃i j,x=.str i/\vs=[.str j]/\Q (.bl (decide (0+j.length<=i.length)&&Builtin.Str.subAt i j 0)) H
theorem Nx:tp X "str.startswith" IL:=by
 intro OS s σ H x vs v us Q I rx rv h;obtain⟨i,j,rfl,rfl,q⟩:=h;obtain⟨t,rfl⟩:=rx;obtain⟨u,rfl,t',rfl⟩:=rv.one;exact call_gives F.slot_str_startswith (typeIs_str _ _ _) F.entry_str_startswith (F.args_str_startswith_2 _ _) (gives_str_startswith i j t t') ⟨.bl _,H,I,rfl,q⟩
def Fc:V->List V->Hp->VK->Prop:=λx vs H Q=>∃i j,x=.str i/\vs=[.str j]/\∀n:Int,Q (.int n) H
theorem Jn:tp X "str.find" Fc:=by
 intro OS s σ H x vs v us Q I rx rv h;obtain⟨i,j,rfl,rfl,q⟩:=h;obtain⟨t,rfl⟩:=rx;obtain⟨u,rfl,t',rfl⟩:=rv.one;exact call_gives F.slot_str_find (typeIs_str _ _ _) F.entry_str_find (F.args_str_find_2 _ _) (gives_str_find i j t t') ⟨.int _,H,I.tok _,⟨_,rfl⟩,q _⟩
end
def KD(prm:Params):List DictEntry->List (Str×Str)->Prop
 |[],[]=>True
 |e::es,kv::kvs=>e.hash=PyData.keyHash prm kv.1/\(∃t,e.key=.str kv.1 t)/\(∃t,e.val=.str kv.2 t)/\KD prm es kvs
 |_,_=>False
structure y6 (K:W.Frag) (prm:Params) (d:Addr) (kvs:List (Str×Str)):Prop where
 obj:∃(es:Array DictEntry) (ep:Nat),K.lookup d=some ⟨.type "dict",none,.dict es ep,#[]⟩/\KD prm es.toList kvs
 nd:(kvs.map (·.1)).Nodup
def getS(kvs:List (Str×Str))(x:Str):Option Str:=(kvs.find? λkv=>kv.1=x).map (·.2)
theorem KD.keys{P:Program}{w:World}:∀{es:List DictEntry}{kvs:List (Str×Str)},KD w.params es kvs->∀e∈es,∃k,(cA P w).is k e.key=true/\e.hash=(cA P w).hash k
 |[],[],_,e,he=>nomatch he
 |a::es,kv::kvs,⟨h1,⟨t,h2⟩,_,h4⟩,e,he=>by
  rcases qe_.mp he with z|z
  ·subst z;exact⟨.inr kv.1,by rw[h2];exact qW P w kv.1 t,by rw[h1];rfl⟩
  ·exact KD.keys h4 e z
theorem KD.pairs{P:Program}{w:World}:∀{es:List DictEntry}{kvs:List (Str×Str)},KD w.params es kvs->∃vs:List (ba×Value),Pairs (cA P w) es vs/\vs.map (·.1)=kvs.map (λkv=>Sum.inr kv.1) /\
  ∀x y,getS kvs x=some y->∃t,valueAt vs (.inr x)=some (.str y t)
 |[],[],_=>⟨[],.nil,rfl,λx y h=>nomatch h⟩
 |a::es,kv::kvs,⟨h1,⟨t,h2⟩,⟨t',h3⟩,h4⟩=>by
  obtain⟨vs,p,m,g⟩:=KD.pairs (P:=P) h4;refine⟨(.inr kv.1,.str kv.2 t')::vs,.cons (by rw[h2];exact qW P w kv.1 t) h3 p,by simp[m],λx y h=>?_⟩;by_cases e:kv.1=x
  ·subst e;have:kv.2=y:=by simpa[getS]using h
   subst this;exact⟨t',by simp[valueAt]⟩
  ·have h':getS kvs x=some y:=by simpa[getS,e]using h
   obtain⟨t'',h''⟩:=g x y h'
   exact⟨t'',by
    have:(Sum.inr kv.1:ba)≠.inr x:=λz=>e (Sum.inr.inj z)
    simpa[valueAt,this]using h''⟩
section
variable{X:Cx}
def NY(d:Addr)(kvs:List (Str×Str)):R2:=λx y H Q=>∃i j,x=.ref d/\y=.str i/\getS kvs i=some j/\Q (.str j) H
theorem FM{d:Addr}{kvs:List (Str×Str)}(D:y6 X.K X.w.params d kvs):m_ X (NY d kvs):=by
 intro value slice OS s σ H x y v u Q I rx ry h hs;obtain⟨i,j,rfl,rfl,hg,q⟩:=h;cases rx;obtain⟨t,rfl⟩:=ry;obtain⟨es,ep,lk,kd⟩:=D.obj;obtain⟨vs,hp,hm,hv⟩:=KD.pairs (P:=X.prog) kd;obtain⟨t',hv⟩:=hv i j hg;have ho:=I.kIn d _ lk;have hnd:(vs.map (·.1)).Nodup:=by
  rw[hm,show kvs.map (λkv=>(Sum.inr kv.1:ba))=(kvs.map (·.1)).map Sum.inr by simp];unfold List.Nodup;rw[i8];exact D.nd.imp λh z=>h (Sum.inr.inj z)
 have dd:s.heap.DictOf (cA X.prog X.w) d vs:=⟨_,es,ep,ho,⟨rfl,rfl,rfl⟩,rfl,λe he=>KD.keys kd e (by simpa using he),hp,hnd⟩
 exact tail_any ⟨_,ho,rfl⟩ slot_dict_getitem.lookup (wpAny_getItem_of (qW _ _ i t) dd.mapOf hv ⟨.str j,H,I.tok _,⟨t',rfl⟩,q⟩) hs
def Ed:V->Option Int->Option Int->Hp->VK->Prop:=λx lo hi H Q=>∃z,x=.str z/\z.length<=sizeLine/\Q (.str (Txt.slice z lo hi)) H
theorem H_:o9 X Ed:=by
 intro OS s σ H x v vl vu lo hi sl Q I rx hs pl pu h;obtain⟨z,rfl,hz,q⟩:=h;obtain⟨t,rfl⟩:=rx;obtain⟨o,ho,hc,hd⟩:=hs;refine⟨"str",_,F.slot_str_getitem.lookup,typeIs_str _ _ _,?_⟩;have fin:∀t' k,EP X OS σ Q (.str (Txt.slice z lo hi) t') {s with toks:=k}:=λt' k=>⟨.str _,H,I.tok k,⟨t',rfl⟩,q⟩
 cases pl with
 |none=>cases pu with
  |none=>exact wpAny_getItem_str_slice (l:=none) (u:=none) (st:=none) ⟨o,ho,hc,hd⟩ rfl (post_val_or_str ⟨cx (Txt.slice_le z _ _) hz,fin⟩)
  |int j uj=>exact wpAny_getItem_str_slice (l:=none) (u:=some (j,uj)) (st:=none) ⟨o,ho,hc,hd⟩ rfl (post_val_or_str ⟨cx (Txt.slice_le z _ _) hz,fin⟩)
 |int i ui=>cases pu with
  |none=>exact wpAny_getItem_str_slice (l:=some (i,ui)) (u:=none) (st:=none) ⟨o,ho,hc,hd⟩ rfl (post_val_or_str ⟨cx (Txt.slice_le z _ _) hz,fin⟩)
  |int j uj=>exact wpAny_getItem_str_slice (l:=some (i,ui)) (u:=some (j,uj)) (st:=none) ⟨o,ho,hc,hd⟩ rfl (post_val_or_str ⟨cx (Txt.slice_le z _ _) hz,fin⟩)
theorem jM{ss:List Str}:∀{us:List Value},ai (ss.map V.str) us->StrsAre us ss:=by
 induction ss with
 |nil=>intro us r;rw[qi]at r;cases r;exact .nil
 |cons n ns ih=>
  intro us r;rw[e6]at r;cases r with
  |cons r1 r2=>
   obtain⟨t,e⟩:=r1;subst e;exact .cons n t (ih r2)
theorem vC{us:List Value}{ss:List Str}(h:StrsAre us ss):ai (ss.map V.str) us:=by
 induction h with
 |nil=>exact .nil
 |cons n t _ ih=>exact .cons ⟨t,rfl⟩ ih
theorem call_sortedS:aq X (.builtin "sorted") (λxs H Q=>∃(p:Addr) (ss:List Str),xs=[.ref p]/\bx X.K H p (ss.map V.str)/\ss.length<64 /\
  ∀(ss':List Str) (l:Addr),ss'.Perm ss->sortedS ss'=true->H l=none->Q (.ref l) (au H l (.lst (ss'.map V.str)))):=by
 intro OS s σ H xs us Q I r h;obtain⟨p,ns,rfl,hq,h64,q⟩:=h;obtain⟨u,rfl,rx⟩:=cI r;cases rx;obtain⟨its,rv,pl,hz⟩:=I.list hq;have hi:StrsAre its ns:=jM rv;have hll:=rv.length;rw[ak]at hll;refine sorted_strs pl.isList hi (by omega) λout ns' a1 a2 a3=>?_
 obtain⟨e,he⟩:=sortedAll_at s.heap its out;have hlen:=a2.length_eq;refine⟨.ref (s.heap.objs.size+1),_,I.laid (t':=s.toks) (λb o e=>sortedAll_old e) (jl _) (show ay X.prog X.w _ _ _ (.lst (ns'.map V.str)) from ⟨?_,out.toList,e,vC a1,he⟩),rfl,q ns' _ a2 a3 (I.hok.fresh (jl _))⟩;rw[ak,hlen];exact ff (gz h64 (by decide))
def cY(ss:List Str):List Nat:=(ss.map λs=>s.cps.toList).flatten
theorem Cd:∀{us:List Value}{ss:List Str},StrsAre us ss->∃l:List (Str×Tok),us=strValues l/\l.map (·.1)=ss
 |_,_,.nil=>⟨[],rfl,rfl⟩
 |_,_,.cons y t h=>by
  obtain⟨l,e1,e2⟩:=Cd h;exact⟨(y,t)::l,by rw[e1];rfl,by simp[e2]⟩
theorem wO:∀ss:List Str,(Str.join ⟨#[]⟩ ss).cps.toList=cY ss
 |[]=>rfl
 |[x]=>by simp[Str.join,cY]
 |x::y::r=>by
  have ih:=wO (y::r);show((x++(⟨#[]⟩:Str)++Str.join ⟨#[]⟩ (y::r)):Str).cps.toList=_;have e:∀a b:Str,(a++b).cps.toList=a.cps.toList++b.cps.toList:=λa b=>by
   show(a.cps++b.cps).toList=_;simp
  rw[e,e,ih];simp[cY]
theorem Ca:∀(ss:List Str) (n:Nat),ss.foldl (λa s=>a+s.length+0) n=n+(cY ss).length
 |[],n=>by simp[cY]
 |s::r,n=>by
  rw[j8,Ca r];simp[cY,Str.length];omega
def Fd(K:W.Frag):V->List V->Hp->VK->Prop:=λx vs H Q=>∃p ss,x=.str ⟨#[]⟩/\vs=[.ref p]/\bx K H p (ss.map V.str)/\(cY ss).length<=100000/\∀z:Str,z.cps.toList=cY ss->Q (.str z) H
theorem Jo:tp X "str.join" (Fd X.K):=by
 intro OS s σ H x vs v us Q I rx rv h;obtain⟨p,ss,rfl,rfl,hq,hz,q⟩:=h;obtain⟨t,rfl⟩:=rx;obtain⟨u,rfl,ru⟩:=rv.one;cases ru;obtain⟨its,rv,pl,hz'⟩:=I.list hq;obtain⟨l,e1,e2⟩:=Cd (jM rv);have hl:=pl.isList;rw[e1]at hl;have hlen:((l.map (·.1)).toArray.foldl (λa s=>a+s.length+(⟨#[]⟩:Str).length) 0)=(cY ss).length:=by
  rw[e2,List.foldl_toArray];show ss.foldl (λa s=>a+s.length+0) 0=_;rw[Ca];omega
 refine call_meets F.slot_str_join (typeIs_str _ _ _) F.entry_str_join (F.args_str_join_2 _ _) (meets_str_join_list ⟨#[]⟩ t p l (by
  rw[hlen];show decide (_ > sizeLine)=false
  exact iq (qy2_.mpr (cx hz (by decide))))) ⟨hl,?_⟩
 have hj:∀z:Str,z=Str.join ⟨#[]⟩ ss->∀t' k,EP X OS σ Q (.str z t') {s with toks:=k}:=λz e t' k=>⟨.str z,H,I.tok k,⟨t',rfl⟩,q z (by rw[e,wO])⟩
 have hlz:(Str.join ⟨#[]⟩ ss).length<=sizeLine:=by
  show(Str.join ⟨#[]⟩ ss).cps.size<=_;rw[<-e7,wO];exact cx hz (by decide)
 match l,e2 with
 |[],e2=>exact⟨by rw[StrLaws.glued_eq_join];exact g6 _,hj _ (by rw[<-e2];rw[StrLaws.glued_eq_join]) _ _⟩
 |[pp],e2=>exact hj _ (by rw[<-e2];rfl) _ s.toks
 |a::b::r,e2=>exact⟨by rw[StrLaws.glued_eq_join,e2];exact hlz,hj _ (by rw[StrLaws.glued_eq_join,e2]) _ _⟩
end
def fV(xs:Array Nat):Prop:=∀i j:Nat,i<j->∀a b,xs[i]?=some a->xs[j]?=some b->a<b
structure wz (xs:Array Nat) (j p:Nat):Prop where
 le:p<=xs.size
 lt:∀i a,i<p->xs[i]?=some a->a<j
 ge:∀i a,p<=i->xs[i]?=some a->j<=a
theorem wU{xs:Array Nat}(R:fV xs)(j:Nat):∀(f lo hi:Nat),hi-lo<=f->lo<=hi->hi<=xs.size->(∀i a,i<lo->xs[i]?=some a->a<j)->(∀i a,hi<=i->xs[i]?=some a->j<=a)->wz xs j (SetTable.below.go xs j f lo hi)
 |0,lo,hi,h,l,z,h1,h2=>by
  rw[SetTable.below.go.eq_1];have:lo=hi:=by omega
  subst this;exact⟨z,h1,h2⟩
 |f+1,lo,hi,h,l,z,h1,h2=>by
  rw[SetTable.below.go.eq_2];by_cases c:lo<hi
  ·rw[if_pos c];have hm:(lo+hi) / 2<xs.size:=by omega
   have em:xs[(lo+hi) / 2]?=some xs[(lo+hi) / 2]:=jb hm;have eg:xs.getD ((lo+hi) / 2) j=xs[(lo+hi) / 2]:=by simp[Array.getD,hm]
   dsimp only;rw[eg];by_cases d:xs[(lo+hi) / 2]<j
   ·rw[if_pos d];refine wU R j f _ _ (by omega) (by omega) z (λi a hi' e=>?_) h2;by_cases q:i=(lo+hi) / 2
    ·subst q;rw[em]at e;cases e;exact d
    ·exact gz (R i _ (by omega) a _ e em) d
   ·rw[if_neg d];refine wU R j f _ _ (by omega) (by omega) (by omega) h1 λi a hi' e=>?_
    by_cases q:i=(lo+hi) / 2
    ·subst q;rw[em]at e;cases e;omega
    ·have:=R _ i (by omega) _ a em e;omega
  ·rw[if_neg c];have:lo=hi:=by omega
   subst this;exact⟨z,h1,h2⟩
theorem BM{xs:Array Nat}(R:fV xs)(j:Nat):wz xs j (SetTable.below xs j):=by
 unfold SetTable.below;refine wU R j _ _ _ (by omega) (g6 _) (bg _) (λi a h=>absurd h (qg _)) λi a h e=>?_
 have:=(qi2_.mp e).1;omega
theorem Kl{xs:Array Nat}(R:fV xs){j p:Nat}(B:wz xs j p):SetTable.below xs j=p:=by
 have C:=BM R j;generalize SetTable.below xs j=q at C;rcases se p q with h|h|h
 ·have hp:p<xs.size:=by have:=C.le;omega
  have e:=jb hp;have:=C.lt p _ h e;have:=B.ge p _ (bg _) e;omega
 ·exact h.symm
 ·have hp:q<xs.size:=by have:=B.le;omega
  have e:=jb hp;have:=B.lt q _ h e;have:=C.ge q _ (bg _) e;omega
theorem LY{xs:Array Nat}{p x:Nat}(hp:p<=xs.size)(i:Nat):(SetTable.insertAt xs p x)[i]?=if i<p then xs[i]? else if i=p then some x else xs[i-1]?:=by
 unfold SetTable.insertAt;have s0:(xs.extract 0 p).size=p:=by simp[Array.size_extract];omega
 rw[Array.getElem?_append];rw[Array.size_push,s0];by_cases h1:i<p
 ·rw[if_pos h1,if_pos (by omega),Array.getElem?_push,if_neg (by rw[s0];omega),Array.getElem?_extract];simp[h1];intro z;omega
 ·rw[if_neg h1];by_cases h2:i=p
  ·subst h2;rw[if_pos rfl,if_pos (by omega),Array.getElem?_push,if_pos s0.symm]
  ·rw[if_neg h2,if_neg (by omega),Array.getElem?_extract];have e:p+(i-(p+1))=i-1:=by omega
   rw[e];by_cases z:i-1<xs.size
   ·simp;omega
   ·simp[z]
theorem Nm{xs:Array Nat}(R:fV xs){x:Nat}(h:xs[SetTable.below xs x]?≠some x):fV (SetTable.insertAt xs (SetTable.below xs x) x):=by
 have B:=BM R x;generalize SetTable.below xs x=p at B h;have hg:∀i a,p<=i->xs[i]?=some a->x<a:=λi a hi e=>by
  rcases Nat.lt_or_ge x a with q|q
  ·exact q
  ·exfalso;have ax:=B.ge i a hi e;have:a=x:=by omega
   subst this;by_cases z:i=p
   ·exact h (z▸e)
   ·have lt:=(qi2_.mp e).1;have hp:p<xs.size:=by omega
    have ep:=jb hp;have:=R p i (by omega) _ _ ep e;have:=B.ge p _ (bg _) ep;omega
 intro i j hij a b ha hb;rw[LY B.le]at ha hb;by_cases i1:i<p
 ·rw[if_pos i1]at ha;by_cases j1:j<p
  ·rw[if_pos j1]at hb;exact R i j hij a b ha hb
  ·rw[if_neg j1]at hb;have al:=B.lt i a i1 ha;by_cases j2:j=p
   ·rw[if_pos j2]at hb;cases hb;exact al
   ·rw[if_neg j2]at hb;have:=hg (j-1) b (by omega) hb;omega
 ·rw[if_neg i1]at ha;rw[if_neg (by omega)]at hb;rw[if_neg (by omega)]at hb;by_cases i2:i=p
  ·rw[if_pos i2]at ha;cases ha;exact hg (j-1) b (by omega) hb
  ·rw[if_neg i2]at ha;exact R (i-1) (j-1) (by omega) a b ha hb
def jL(t:SetTable):Prop:=t.plain=true->fV t.place/\t.dummies=#[]
theorem Aa(j:Nat):SetTable.has #[] j=false:=by unfold SetTable.has;simp
theorem Cw{t:SetTable}(hd:t.dummies=#[]){f:Nat->Int}{h:Int}{j:Nat}{d:Option Nat}:∀(n:Nat) (p:SetTable.Probe),p.dummy=none->SetTable.probe.go t f h n p=some (.empty j d)->d=none/\t.place[SetTable.below t.place j]?≠some j
 |0,p,_,e=>by rw[SetTable.probe.go.eq_def]at e;cases e
 |n+1,p,hp,e=>by
  rw[SetTable.probe.go.eq_def]at e;dsimp only at e;have adv:(t.advance p).dummy=none:=by
   unfold SetTable.advance;split
   ·exact hp
   ·exact hp
  cases hs:t.slot p.j with
  |empty=>
   rw[hs]at e;dsimp only at e;cases e;refine⟨hp,λz=>?_⟩;unfold SetTable.slot at hs;dsimp only at hs;rw[if_pos (by rw[z];simp)]at hs;cases hs
  |dummy=>
   exfalso;unfold SetTable.slot at hs;dsimp only at hs;split at hs
   ·cases hs
   ·rw[hd,Aa]at hs;cases hs
  |live i=>
   rw[hs]at e;dsimp only at e;split at e
   ·cases e
   ·exact Cw hd n _ adv e
theorem M8{t:SetTable}(T:jL t)(es:Array (Int×Value))(h:Int)(x:Value):jL (layNew t es h x).2.1:=by
 unfold layNew;split
 ·rename_i slot wd e;dsimp only;unfold SetTable.orStandIn;split
  ·intro hp;have hp':t.plain=true:=hp;obtain⟨R,hd⟩:=T hp';unfold SetTable.freeSlot at e;split at e
   ·rename_i j d e';obtain⟨rfl,ne⟩:=Cw hd _ _ rfl e';cases e;exact⟨Nm R ne,by show(if SetTable.has t.dummies _=true then _ else t.dummies)=#[];rw[hd,Aa];rfl⟩
   ·cases e
  ·intro hp;cases hp
 ·intro hp;cases hp
theorem Nb{f:Nat->Option Nat}(n:Nat):fV ((((List.range n).filterMap λj=>(f j).map (j,·)).map (·.1)).toArray):=by
 have p:(((List.range n).filterMap λj=>(f j).map (j,·)).map (·.1)).Pairwise (· < ·):=by
  rw[i8];refine(List.pairwise_filterMap).mpr ?_;refine List.Pairwise.imp ?_ List.pairwise_lt_range;intro a b hab x hx y hy;obtain⟨u,_,rfl⟩:=qa1_.mp hx;obtain⟨v,_,rfl⟩:=qa1_.mp hy;exact hab
 intro i j hij a b ha hb;rw[List.getElem?_toArray]at ha hb;obtain⟨hi,rfl⟩:=qB_.mp ha;obtain⟨hj,rfl⟩:=qB_.mp hb;exact qx3_.mp p i j hi hj hij
theorem L_(t:SetTable)(es:Array (Int×Value))(n:Nat):jL (relayAll t es n).2.1:=by
 unfold relayAll;split
 ·rename_i t' order e;dsimp only;split
  ·intro hp;unfold SetTable.relaid SetTable.laid at e;obtain⟨o,_,e⟩:=Option.bind_eq_some_iff.mp e;cases e;exact⟨Nb _,rfl⟩
  ·intro hp;cases hp
 ·intro hp;cases hp
end L2
namespace L2
open PySem
theorem rC{α:Type}:∀(l:List α) (i:Nat) (h:i<l.length),(l[i]::l.eraseIdx i).Perm l
 |[],i,h=>by simp at h
 |x::l,0,h=>by simp
 |x::l,i+1,h=>by
  have h':i<l.length:=by simpa using h
  simp only[List.getElem_cons_succ,List.eraseIdx_cons_succ];exact(List.Perm.swap _ _ _).trans (.cons _ (rC l i h'))
section
variable{M:Model}{A:Around}{E:Value->Shared->Prop}{s:Shared}
theorem MD{src:Source}{n:Nat}{Q:Nat->Shared->Prop}(hn:n≠0)(h:∀i d,i<n->Q i {s with drawn:=d}):wpAny M A (choose src n) Q E s:=λΓ p _=>by
 unfold choose;rw[Sem.wp_choose];exact⟨hn,h _ _ (qf _ (Nat.pos_of_ne_zero hn))⟩
theorem uX{α:Type}:∀(n:Nat) (xs:List α) (s:Shared) {Q:List α->Shared->Prop},xs.length=n->(∀ys d,ys.Perm xs->Q ys {s with drawn:=d})->wpAny M A (drawOrder n xs) Q E s
 |0,xs,s,Q,hl,h=>by
  have e:xs=[]:=jk hl;subst e;exact aj (h [] s.drawn (.refl _))
 |n+1,[],s,Q,hl,h=>by simp at hl
 |n+1,x::xs,s,Q,hl,h=>by
  show wpAny M A (do
   let i <- choose .order (x::xs).length
   match (x::xs)[i]? with
   |some x'=>return x'::(<- drawOrder n ((x::xs).eraseIdx i))
   |none=>unsupported "internal:drawOrder") Q E s
  refine af (MD (by simp) λi d hi=>?_);rw[b9 hi];refine af (uX n _ _ (by rw[uk hi];simp at hl ⊢;exact hl) λys d' hp=>?_);refine aj (h _ d' ((List.Perm.cons _ hp).trans ?_));exact rC (x::xs) i hi
end
theorem Ap{α:Type}(next:Nat->Nat):∀(fuel k:Nat) (left:List α) (out:Array α),fuel=left.length->(pickOrder.go next fuel k left out).toList.Perm (out.toList++left)
 |0,k,left,out,h=>by
  have e:left=[]:=jk h.symm;subst e;unfold pickOrder.go;simp
 |fuel+1,k,left,out,h=>by
  unfold pickOrder.go;have hlt:next k % left.length<left.length:=qf _ (by omega);rw[b9 hlt];refine(Ap next fuel (k+1) _ _ (by rw[uk hlt];omega)).trans ?_;rw[Array.toList_push,e_];exact List.Perm.append_left _ (rC _ _ hlt)
theorem oZ{α:Type}(next:Nat->Nat)(xs:Array α):(pickOrder next xs).toList.Perm xs.toList:=by
 unfold pickOrder;have:=Ap next xs.size 0 xs.toList #[] (by simp);simpa using this
end L2
namespace L2
open PySem PySem.Spec PyProof.Rows
abbrev cf(w:World):Bool:=w.params.followText "set-order"
structure dg (prog:Program) (w:World) (us:List Str) (es:Array (Int×Value)) (t:SetTable):Prop where
 el:ElemsOf (PySem.strKind prog w) es.toList
 tx:∃vs:List Str,StrsAre (es.toList.map (·.2)) vs/\vs.Perm us
 nd:us.Nodup
 lt:es.size<scanBound
 fit:t.fits es.size=true
 pl:es.size=0\/t.plain=false
 ld:t.led=!cf w
abbrev cB(es:Array (Int×Value))(ep:Nat)(t:SetTable):Obj:={cls:=.type "set",dict:=none,data:=.set es ep t,slots:=#[]}
def bf(prog:Program)(w:World)(a:Addr)(us:List Str)(h:Heap):Prop:=∃es ep t,h.get? a=some (cB es ep t)/\dg prog w us es t
def dL(us:List Str)(x:Str):List Str:=if x∈us then us else us++[x]
theorem iZ:∀{vs:List Value}{ss:List Str},StrsAre vs ss->vs.length=ss.length
 |_,_,.nil=>rfl
 |_,_,.cons _ _ h=>by simp[iZ h]
theorem Bt:∀{vs:List Value}{ss:List Str},StrsAre vs ss->∀x,x∈ss↔∃v∈vs,Value.isStrOf x v=true
 |_,_,.nil,x=>by simp
 |_,_,.cons y t h,x=>by
  have ih:=Bt h x
  have e:Value.isStrOf x (.str y t)=true↔x=y:=⟨λh=>by
   obtain⟨u,h⟩:=Value.isStrOf_shape h;injection h with h1 h2
   exact h1.symm,λh=>by subst h;simp[Value.isStrOf]⟩
  simp only[qe_,exists_eq_or_imp,ih,e]
theorem rE:∀{vs us:List Value},us.Perm vs->∀{ss:List Str},StrsAre vs ss->∃ss',StrsAre us ss'/\ss'.Perm ss:=by
 intro vs us p
 induction p with
 |nil=>intro ss h;exact⟨ss,h,.refl _⟩
 |cons x p ih=>
  intro ss h;cases h with
  |cons y t h=>obtain⟨ss',a,b⟩:=ih h;exact⟨y::ss',.cons y t a,.cons _ b⟩
 |swap x y l=>
  intro ss h;cases h with
  |cons a t h=>cases h with
   |cons b u h=>exact⟨b::a::_,.cons b u (.cons a t h),.swap _ _ _⟩
 |trans p q ihp ihq=>
  intro ss h;obtain⟨s1,a1,b1⟩:=ihq h;obtain⟨s2,a2,b2⟩:=ihp a1;exact⟨s2,a2,b2.trans b1⟩
theorem CZ:∀{vs:List Value}{ss:List Str}(x:Str) (t:Tok),StrsAre vs ss->StrsAre (vs++[.str x t]) (ss++[x])
 |_,_,x,t,.nil=>.cons x t .nil
 |_,_,x,t,.cons y u h=>.cons y u (CZ x t h)
theorem LZ(t:SetTable)(es:Array (Int×Value))(h:Int)(x:Value):(layNew t es h x).2.1.led=t.led:=by
 have so:∀(u:SetTable) (n:Nat),(u.orStandIn n).led=u.led:=λu n=>by
  unfold SetTable.orStandIn;split<;>rfl
 unfold layNew;split
 ·dsimp only;rw[so];rfl
 ·rfl
theorem MQ(t:SetTable)(es:Array (Int×Value))(n:Nat):(relayAll t es n).2.1.led=t.led/\(t.plain=false->(relayAll t es n).2.1.plain=false):=by
 have la:∀m f mv ld pl hs t' o,SetTable.laid m f mv ld pl hs=some (t',o)->t'.led=ld/\t'.plain=pl:=λm f mv ld pl hs t' o e=>by
  unfold SetTable.laid at e;cases q:SetTable.layClean m hs with
  |none=>rw[q]at e;cases e
  |some ow=>
   rw[q]at e;simp only[Option.bind_eq_bind,Option.bind_some,Option.pure_def,Option.some.injEq,Prod.mk.injEq]at e;obtain⟨e,_⟩:=e;subst e;exact⟨rfl,rfl⟩
 unfold relayAll;split
 ·rename_i t' order e;have:=la _ _ _ _ _ _ _ _ e;dsimp only;split
  ·exact⟨this.1,λz=>by rw[<-z];exact this.2⟩
  ·exact⟨rfl,λ_=>rfl⟩
 ·exact⟨rfl,λ_=>rfl⟩
section
variable{prog:Program}{w:World}{A:Around}{E:Value->Shared->Prop}{s:Shared}{a:Addr}{us:List Str}{x:Str}{tk:Tok}
theorem dg.mem{es:Array (Int×Value)}{t:SetTable}(T:dg prog w us es t)(x:Str):x∈us↔∃e∈es.toList,(PySem.strKind prog w).is x e.2=true:=by
 obtain⟨vs,h,p⟩:=T.tx;rw[<-p.mem_iff,Bt h x];simp only[qd_];exact⟨λ⟨v,⟨e,he,z⟩,q⟩=>⟨e,he,by subst z;exact q⟩,λ⟨e,he,q⟩=>⟨e.2,⟨e,he,rfl⟩,q⟩⟩
theorem dg.size{es:Array (Int×Value)}{t:SetTable}(T:dg prog w us es t):es.size=us.length:=by
 obtain⟨vs,h,p⟩:=T.tx;have:=iZ h;rw[ak,e7]at this;rw[this,p.length_eq]
theorem Lw{g:Bool->Sem Unit}(hg:∀(b:Bool) (s₁:Shared) (R:Unit->Shared->Prop),R () s₁->wpAny (model prog w) A (g b) R E s₁){es es1:Array (Int×Value)}{ep:Nat}{t t2:SetTable}{wd:Bool}{R:Option Bool->Shared->Prop}
  (ho:s.heap.get? a=some (cB es ep t)) (lt:es1.size<scanBound) (fit:t2.fits es1.size=true)
  (h:∀h' es' ep' t',Heap.SameBut a s.heap h'->h'.get? a=some (cB es' ep' t')->es'.toList.Perm es1.toList->t'.fits es'.size=true->t'.led=t2.led->(jL t2->jL t')->(t2.plain=false->t'.plain=false)->R (some true) {s with heap:=h'}):
  wpAny (model prog w) A (do
   storeSet a es1 t2
   if (!wd&&t2.tooFull)=true then do
     g (relayAll t2 es1 (SetTable.grown es1.size)).2.2
     storeSet a (relayAll t2 es1 (SetTable.grown es1.size)).1 (relayAll t2 es1 (SetTable.grown es1.size)).2.1
     pure (some true)
    else pure (some true)) R E s:=by
 refine af (wpAny_storeSet_of ho rfl ?_ (fits_of_scanBound lt));have o1:(s.heap.update a (Obj.putSet es1 t2)).get? a=some (cB es1 (ep+1) t2):=fo (Obj.putSet es1 t2) ho rfl;have b1:=Heap.SameBut.update s.heap a (Obj.putSet es1 t2);split
 ·have hp:=relayAll_perm t2 es1 (SetTable.grown es1.size);have hf:=relayAll_fits t2 es1 (SetTable.grown es1.size);obtain⟨hl,hq⟩:=MQ t2 es1 (SetTable.grown es1.size);have ht:=L_ t2 es1 (SetTable.grown es1.size);generalize relayAll t2 es1 (SetTable.grown es1.size)=Rl at hp hf hl hq ht ⊢;obtain⟨es2,t3,g2⟩:=Rl;dsimp only at hp hf hl hq ht ⊢;have sz:es2.size=es1.size:=by have:=hp.length_eq;simpa using this
  refine af (hg _ _ _ ?_);refine af (wpAny_storeSet_of o1 rfl ?_ (fits_of_scanBound (by rw[sz];exact lt)));exact aj (h _ es2 _ t3 (b1.trans (Heap.SameBut.update _ a _)) (fo (Obj.putSet es2 t3) o1 rfl) hp hf hl (λ_=>ht) hq)
 ·exact aj (h _ es1 _ t2 b1 o1 (.refl _) fit rfl id id)
theorem Kg{α:Type}[DecidableEq α](knd:PySem.KeyKind prog w α){x:α}{v:Value}{es:Array (Int×Value)}{ep:Nat}{t:SetTable}{Q:Bool->Shared->Prop}(ho:s.heap.get? a=some (cB es ep t))(el:ElemsOf knd es.toList)(lt:es.size+1<scanBound)(fit:t.fits es.size=true)(hk:knd.is x v=true)(sc:v.scannable=true)
  (h1:(∃e∈es.toList,knd.is x e.2=true)->Q false s)
  (h2:(∀e∈es.toList,knd.is x e.2=false)->∀h' es' ep' t',Heap.SameBut a s.heap h'->h'.get? a=some (cB es' ep' t')->es'.toList.Perm (es.toList++[(knd.hash x,v)])->t'.fits es'.size=true->t'.led=t.led->(jL t->jL t')->(plainKind v=false->t'.plain=false)->Q true {s with heap:=h'}):
  wpAny (model prog w) A (setAddHashed a v (knd.hash x)) Q E s:=by
 unfold setAddHashed setAddHashedIn;refine ic (af (g_ ho rfl fit ?_));dsimp only;rw[byScan_of sc (Nat.lt_of_succ_lt lt) el,if_pos rfl];unfold setAddByScan;refine af (af (wpAny_rule ?_));refine af (wpAny_setScan_of hk ho rfl fit el ?_);cases hr:es.toList.findIdx? (λe=>knd.is x e.2) with
 |some j=>
  dsimp only;obtain⟨hj,hp,_⟩:=List.findIdx?_eq_some_iff_getElem.mp hr;exact aj (aj (h1 ⟨_,j6 hj,hp⟩))
 |none=>
  dsimp only;have hout:∀e∈es.toList,knd.is x e.2=false:=λe he=>qz3_.mp hr e he
  have pm:=layNew_perm t es (knd.hash x) v;have ft:=layNew_fits t es (knd.hash x) v;have ld:=LZ t es (knd.hash x) v;have td:=λT:jL t=>M8 T es (knd.hash x) v
  generalize layNew t es (knd.hash x) v=L at pm ft ld td ⊢;obtain⟨es1,t1,wd,gv⟩:=L;dsimp only at pm ft ld td ⊢;rw[Array.toList_push]at pm;have sz:es1.size<scanBound:=by
   have:=pm.length_eq;rw[<-e7,this,bw,e7];exact lt
  have gw:∀(b:Bool) (s₁:Shared) (R:Unit->Shared->Prop),R () s₁->wpAny (model prog w) A (match b with|true=>rule "set.scan.the-table-gave-way"|false=>pure ()) R E s₁:=
   λb s₁ R q=>by
    cases b
    ·exact aj q
    ·exact wpAny_rule q
  refine af (gw _ _ _ ?_);have tl:=λ(R:Option Bool->Shared->Prop) (hR:∀s',Q true s'->R (some true) s') t2 (f2:t2.fits es1.size=true) (l2:t2.led=t.led) (d2:jL t->jL t2) (p2:plainKind v=false->t2.plain=false)=>Lw (wd:=wd) (R:=R) (g:=λb=>match b with|true=>rule "set.scan.the-table-gave-way"|false=>pure ()) gw ho sz f2 λh' es' ep' t' b o p f l d q=>hR _ (h2 hout h' es' ep' t' b o (p.trans pm) f (l.trans l2) (λT=>d (d2 T)) λz=>q (p2 z))
  split
  ·refine af ?_;rw[hashByValue_scannable 8 sc];refine aj ?_;split
   ·exact tl _ (λ_ q=>aj q) _ ft ld td λz=>by simp_all
   ·exact tl _ (λ_ q=>aj q) _ (SetTable.fits_plain_off ft) ld (λ_=>λz=>nomatch z) λ_=>rfl
  ·rename_i hp;refine af (aj ?_);rw[if_pos rfl];exact tl _ (λ_ q=>aj q) _ ft ld td λ_=>by simpa using hp
theorem L5{α:Type}{us:List α}{x:α}(h:us.Nodup)(hx:x∉us):(us++[x]).Nodup:=by
 rw[qe];exact⟨h,by simp,λy hy z hz e=>hx (by rw[<-qJ_.mp hz,<-e];exact hy)⟩
theorem wW{Q:Bool->Shared->Prop}(S:bf prog w a us s.heap)(room:us.length+1<scanBound)(h:∀b h',Heap.SameBut a s.heap h'->bf prog w a (dL us x) h'->Q b {s with heap:=h'}):
  wpAny (model prog w) A (setAddHashed a (.str x tk) ((PySem.strKind prog w).hash x)) Q E s:=by
 obtain⟨es,ep,t,ho,T⟩:=id S;have hk:(PySem.strKind prog w).is x (.str x tk)=true:=by show Value.isStrOf x (.str x tk)=true;simp[Value.isStrOf]
 refine Kg (PySem.strKind prog w) ho T.el (by rw[T.size];exact room) T.fit hk rfl (λhin=>?_) λhout h' es' ep' t' sb ho' pm ft ld _ pl=>?_
 ·have e:s={s with heap:=s.heap}:=by cases s;rfl
  rw[e];refine h false s.heap (Heap.SameBut.refl a s.heap) ?_;rw[dL,if_pos ((T.mem x).mpr hin)];exact S
 ·have hx:x∉us:=λz=>by
   obtain⟨e,he,hp⟩:=(T.mem x).mp z;rw[hout e he]at hp;cases hp
  refine h true h' sb ⟨es',ep',t',ho',?_⟩;obtain⟨vs,hv,pv⟩:=T.tx;have h1:=CZ x tk hv;rw[show(es.toList.map (·.2))++[Value.str x tk]=(es.toList++[((PySem.strKind prog w).hash x,Value.str x tk)]).map (·.2) by simp]at h1;obtain⟨vs',hv',pv'⟩:=rE (pm.map (·.2)) h1;rw[dL,if_neg hx];refine⟨(T.el.push hk rfl).perm pm,⟨vs',hv',pv'.trans (pv.append_right _)⟩,L5 T.nd hx,?_,ft,.inr (pl rfl),ld.trans T.ld⟩;have:=pm.length_eq;rw[<-e7,this,bw,e7,T.size];exact room
end
theorem B_:Slot "set" "__iter__" "set.__iter__":=
 Slot.of (owner:="set") (n:="__iter__") (by rw[typeLookup_type,builtinLookup_eq_fast];kernel_rfl) (by decide +kernel) (by decide +kernel) (by decide +kernel) (by first|exact .inl (by decide +kernel)|exact .inr (by decide +kernel)) (by rw[isSubtype_type];kernel_rfl)
theorem IY:entryFor table "set.__iter__"=some Builtin.«frozenset.__iter__»:=entryFor_alias (id':="frozenset.__iter__") (by kernel_rfl) rfl (by decide +kernel) (by kernel_rfl)
theorem HA(a:Value):argsOk "set.__iter__" ⟨[a],[]⟩:=by
 unfold argsOk;kernel_rfl
theorem st_next:Slot "set_iterator" "__next__" "set_iterator.__next__":=
 Slot.of (owner:="set_iterator") (n:="__next__") (by rw[typeLookup_type,builtinLookup_eq_fast];kernel_rfl) (by decide +kernel) (by decide +kernel) (by decide +kernel) (by first|exact .inl (by decide +kernel)|exact .inr (by decide +kernel)) (by rw[isSubtype_type];kernel_rfl)
theorem IZ:entryFor table "set_iterator.__next__"=some Builtin.«set_iterator.__next__»:=entryFor_of_fast (by kernel_rfl)
theorem Jw(a:Value):argsOk "set_iterator.__next__" ⟨[a],[]⟩:=by
 unfold argsOk;kernel_rfl
theorem mX:Slot "set_iterator" "__iter__" "set_iterator.__iter__":=
 Slot.of (owner:="set_iterator") (n:="__iter__") (by rw[typeLookup_type,builtinLookup_eq_fast];kernel_rfl) (by decide +kernel) (by decide +kernel) (by decide +kernel) (by first|exact .inl (by decide +kernel)|exact .inr (by decide +kernel)) (by rw[isSubtype_type];kernel_rfl)
theorem xQ:entryFor table "set_iterator.__iter__"=some Builtin.«dict_keyiterator.__iter__»:=entryFor_alias (id':="dict_keyiterator.__iter__") (by kernel_rfl) rfl (by decide +kernel) (by kernel_rfl)
theorem xU(a:Value):argsOk "set_iterator.__iter__" ⟨[a],[]⟩:=by
 unfold argsOk;kernel_rfl
section
variable{prog:Program}{w:World}{A:Around}{E:Value->Shared->Prop}{s:Shared}
theorem Kj{α:Type}{Q:α->Shared->Prop}(hh:A.handled=none)
  (h:∀e h',(∀b o,s.heap.get? b=some o->h'.get? b=some o)->Shared.TypeIs {s with heap:=h'} (.ref e) "StopIteration"->E (.ref e) {s with heap:=h'}):
  wpAny (model prog w) A (newExc (.type "StopIteration") [] >>= λe=>raiseNew e) Q E s:=by
 refine af ?_;simp only[newExc,newTuple];refine af (e9 ?_ (by size_fits));refine af (m:=firstArgMember _ _) (wpAny_of_eq (a:=Value.none) (by first|rfl|(simp only[firstArgMember];rfl)) ?_);refine e9 ?_ (by size_fits);simp only[raiseNew];refine af (wpAny_handled ?_);rw[hh];refine af (aj (wpAny_throw ?_));exact h _ _ (λb o e=>bh _ (bh _ e)) ⟨_,ck _ rfl,rfl⟩
theorem mS{it:Addr}{o:Obj}{Q:Option Value->Shared->Prop}(ho:s.heap.get? it=some o)(hc:o.cls=.type "set_iterator")
  (h:wpAny (model prog w) A.in1 (Builtin.«set_iterator.__next__» ⟨[.ref it],[]⟩) (λr s'=>∃v,r=.done (.ret v)/\Q (some v) s') (λe s'=>s'.TypeIs e "StopIteration"/\Q none s') s):
  wpAny (model prog w) A (pyNext (.ref it)) Q E s:=by
 have ht:s.TypeIs (.ref it) "set_iterator":=⟨o,ho,hc⟩
 unfold pyNext;refine af (wpAny_attempt (wpAny_callSpecial?_slot (name:=Str.ofString "__next__") ht st_next (jt st_next ht IZ ?_ (Jw _))));refine wpAny_mono h (λr s' ⟨v,e,q⟩=>⟨v,e,aj q⟩) λe s' ⟨t,q⟩=>?_
 exact af (wpAny_isInstance (T:="StopIteration") (b:=true) t isSubtype_stop (aj q))
end
abbrev qz(first:Value)(i:Nat)(a:Addr)(n ep:Nat):Obj:={cls:=.type "set_iterator",data:=.fields #[first,.int (i:Int) 0,.ref a,.int (n:Int) 0,.int (ep:Int) 0]}
section
variable{prog:Program}{w:World}{A:Around}{E:Value->Shared->Prop}{s:Shared}{it a:Addr}{us:List Str}{es:Array (Int×Value)}{ep:Nat}{t:SetTable}
theorem oS{Q:Array (Int×Value)->Shared->Prop}(ho:s.heap.get? a=some (cB es ep t))(hf:t.fits es.size=true)(h:Q es s):wpAny (model prog w) A (setEntries a) Q E s:=by
 unfold setEntries;exact af (g_ ho rfl hf (aj h))
theorem gO{Q:Bool->Shared->Prop}(h:Q (cf w) s):wpAny (model prog w) A setsByText Q E s:=by
 unfold setsByText;exact af (wpAny_askSetting (aj h))
theorem rD{i slot:Nat}{n:Nat}{Q:Fin->Shared->Prop}(hi:s.heap.get? it=some (qz (.int (slot:Int) 0) i a n ep))(ho:s.heap.get? a=some (cB es ep t))(hf:t.fits es.size=true)(hn:es.size=n)
  (h:wpAny (model prog w) A (setNext a slot i ep) (λr s'=>wpAny (model prog w) A (match r with
   |some (x,next)=>do
    setField (.ref it) 0 (rawInt next)
    setField (.ref it) 1 (rawInt (i+1))
    ret x
   |none=>do setField (.ref it) 2 .none;raiseNew (<- newExc (.type "StopIteration") [])) Q E s') E s):
  wpAny (model prog w) A (Builtin.«set_iterator.__next__» ⟨[.ref it],[]⟩) Q E s:=by
 unfold Builtin.«set_iterator.__next__»;refine af (m:=slotArgs "__next__" 0 ⟨[.ref it],[]⟩) (aj ?_);dsimp only;refine af (wpAny_fieldsOf hi rfl ?_);show wpAny _ _ (setEntries a >>= _) _ _ s;refine af (oS ho hf ?_);rw[hn];simp only[bne_self_eq_false,n6,if_false];refine af (m:=setNext a slot i ep) h
theorem vX{o:Obj}{vs:Array Value}{k:Nat}{Q:Fin->Shared->Prop}(hh:A.handled=none)(hi:s.heap.get? it=some o)(hd:o.data=.fields vs)(hk:k<vs.size)
  (h:∀e h',(∀b u,b≠it->s.heap.get? b=some u->h'.get? b=some u)->Shared.TypeIs {s with heap:=h'} (.ref e) "StopIteration"->E (.ref e) {s with heap:=h'}):
  wpAny (model prog w) A (do setField (.ref it) k .none;raiseNew (<- newExc (.type "StopIteration") [])) Q E s:=by
 refine af (wpAny_setField hi hd hk ?_);refine Kj hh λe h' kp ty=>h e h' (λb u hb q=>kp b u ?_) ty
 rw[(Heap.SameBut.update s.heap it _).2 b hb];exact q
theorem Hs(hh:A.handled=none)(hb:cf w=true)(fit:t.fits es.size=true)(it a:Addr)(ne:it≠a):
  WalksS prog w A it [it,a] [it] Eq es.size (λi v=>(pickOrder (w.params.setOrder a ep) es)[i]?.map (·.2)=some v)
   (λi s=>s.heap.get? it=some (qz (.int 0 0) i a es.size ep)/\s.heap.get? a=some (cB es ep t)) where
 sub:=λb hb=>by simp at hb;simp[hb]
 grefl:=λ_=>rfl
 gtrans:=λ_ _ _ x y=>x.trans y
 frame:=λi s h' tk st _ k=>⟨k it (by simp) _ st.1,k a (by simp) _ st.2⟩
 item:=λi s Q E hi st hQ=>by
  refine mS st.1 rfl (rD (slot:=0) st.1 st.2 fit rfl ?_);have sz:(pickOrder (w.params.setOrder a ep) es).size=es.size:=by have:=(oZ (w.params.setOrder a ep) es).length_eq;simpa using this
  unfold setNext;refine af (g_ st.2 rfl fit ?_);dsimp only;refine af (gO ?_);rw[if_pos hb];simp only[bne_self_eq_false,n6,if_false];unfold setWalk;refine af (af (g_ st.2 rfl fit ?_));dsimp only;refine af (gO ?_);rw[if_pos hb];refine af (wpAny_askSetting (aj ?_));refine aj ?_;have hlt:i<(pickOrder (w.params.setOrder a ep) es).size:=by rw[sz];exact hi
  show wpAny _ _ (match Option.map (λe=>(e.2,0)) (pickOrder (w.params.setOrder a ep) es)[i]? with
   |some (x,next)=>do
    setField (.ref it) 0 (rawInt (next:Nat))
    setField (.ref it) 1 (rawInt (i+1))
    ret x
   |none=>do setField (.ref it) 2 .none;raiseNew (<- newExc (.type "StopIteration") [])) _ _ _
  rw[jb hlt];dsimp only[Option.map_some];refine af (gr st.1 (by simp) λh1 g1 b1=>?_);refine af (gr g1 (by simp) λh2 g2 b2=>?_);refine aj ⟨_,rfl,hQ _ _ (by rw[jb hlt];rfl) ⟨?_,?_⟩ ⟨?_,rfl,rfl,rfl,bg _⟩⟩
  ·rw[g2];rfl
  ·rw[b2.2 a ne.symm,b1.2 a ne.symm];exact st.2
  ·intro b o hb e;have hb':b≠it:=by simpa using hb
   rw[b2.2 b hb',b1.2 b hb'];exact e
 done:=λs Q E st hQ=>by
  refine mS st.1 rfl (rD (slot:=0) st.1 st.2 fit rfl ?_);have sz:(pickOrder (w.params.setOrder a ep) es).size=es.size:=by have:=(oZ (w.params.setOrder a ep) es).length_eq;simpa using this
  unfold setNext;refine af (g_ st.2 rfl fit ?_);dsimp only;refine af (gO ?_);rw[if_pos hb];simp only[bne_self_eq_false,n6,if_false];unfold setWalk;refine af (af (g_ st.2 rfl fit ?_));dsimp only;refine af (gO ?_);rw[if_pos hb];refine af (wpAny_askSetting (aj ?_));refine aj ?_
  show wpAny _ _ (match Option.map (λe=>(e.2,0)) (pickOrder (w.params.setOrder a ep) es)[es.size]? with
   |some (x,next)=>do
    setField (.ref it) 0 (rawInt (next:Nat))
    setField (.ref it) 1 (rawInt ((es.size:Int)+1))
    ret x
   |none=>do setField (.ref it) 2 .none;raiseNew (<- newExc (.type "StopIteration") [])) _ _ _
  rw[sd (show(pickOrder (w.params.setOrder a ep) es).size<=es.size by rw[sz];exact bg _)];dsimp only[Option.map_none];refine vX hh st.1 rfl (by simp) λe h' kp ty=>⟨ty,hQ _ ⟨λb o hb q=>kp b o (by simpa using hb) q,rfl,rfl,rfl,bg _⟩⟩
 self:=λi s Q E st hQ=>by
  have ht:s.TypeIs (.ref it) "set_iterator":=⟨_,st.1,rfl⟩
  refine wpAny_pyIter_slot ht mX (jt mX ht xQ ?_ (xU _));show wpAny _ _ (ret (.ref it)) _ _ s;exact aj ⟨_,rfl,"set_iterator",_,ht,st_next.lookup,hQ⟩
theorem CC{slot i:Nat}{Q:Option (Value×Nat)->Shared->Prop}(hb:cf w=false)(ho:s.heap.get? a=some (cB es ep t))(fit:t.fits es.size=true)(hp:t.plain=true\/es.size<=1)(hl:t.led=true)
  (h:Q (match es[SetTable.below t.place slot]?,t.place[SetTable.below t.place slot]? with
  |some (_,x),some j=>some (x,j+1)
  |_,_=>none) s):wpAny (model prog w) A (setNext a slot i ep) Q E s:=by
 unfold setNext;refine af (g_ ho rfl fit ?_);dsimp only;refine af (gO ?_);rw[hb];simp only[n6,if_false,Bool.not_false]
 show wpAny _ _ (if (!t.plain&&decide (es.size > 1))=true then _ else(do
  (if (!t.led&&!es.isEmpty)=true then unsupported "set:maker-not-led" else pure ():Sem Unit)
  pure (match es[SetTable.below t.place slot]?,t.place[SetTable.below t.place slot]? with
   |some (_,x),some j=>some (x,j+1)
   |_,_=>none))) _ _ _
 rw[if_neg (by rcases hp with q|q<;>simp[q])];refine af ?_;rw[if_neg (by rw[hl];simp)];exact aj (aj h)
def kO(xs:Array Nat)(i:Nat):Nat:=if i=0 then 0 else xs.getD (i-1) 0+1
theorem Br{xs:Array Nat}(R:fV xs){i:Nat}(hi:i<=xs.size):SetTable.below xs (kO xs i)=i:=by
 refine Kl R ⟨hi,λk a hk e=>?_,λk a hk e=>?_⟩
 ·unfold kO;rw[if_neg (by omega)];have hm:i-1<xs.size:=by omega
  have em:xs[i-1]?=some xs[i-1]:=jb hm;rw[show xs.getD (i-1) 0=xs[i-1] by simp[Array.getD,hm]];by_cases q:k=i-1
  ·subst q;rw[em]at e;cases e;exact mq _
  ·have:=R k (i-1) (by omega) a _ e em;omega
 ·unfold kO;split
  ·exact g6 _
  ·have hm:i-1<xs.size:=by omega
   have em:xs[i-1]?=some xs[i-1]:=jb hm;rw[show xs.getD (i-1) 0=xs[i-1] by simp[Array.getD,hm]];exact R (i-1) k (by omega) _ a em e
theorem CQ{xs:Array Nat}(h:xs.size<=1):fV xs:=λi j hij a b ha hb=>by
 have:=(qi2_.mp hb).1;omega
theorem Gy(hh:A.handled=none)(hb:cf w=false)(fit:t.fits es.size=true)(hp:t.plain=true\/es.size<=1)(R:fV t.place)(hl:t.led=true)(it a:Addr)(ne:it≠a):
  WalksS prog w A it [it,a] [it] Eq es.size (λi v=>es[i]?.map (·.2)=some v)
   (λi s=>s.heap.get? it=some (qz (.int ((kO t.place i:Nat):Int) 0) i a es.size ep)/\s.heap.get? a=some (cB es ep t)) where
 sub:=λb hb=>by simp at hb;simp[hb]
 grefl:=λ_=>rfl
 gtrans:=λ_ _ _ x y=>x.trans y
 frame:=λi s h' tk st _ k=>⟨k it (by simp) _ st.1,k a (by simp) _ st.2⟩
 item:=λi s Q E hi st hQ=>by
  have sz:t.place.size=es.size:=by
   unfold SetTable.fits at fit;simp only[fb,beq_iff_eq]at fit;exact fit.1
  refine mS st.1 rfl (rD (slot:=kO t.place i) st.1 st.2 fit rfl ?_);refine CC hb st.2 fit hp hl ?_;rw[Br R (by omega),jb hi,jb (show i<t.place.size by omega)]
  show wpAny _ _ (do
    setField (.ref it) 0 (rawInt ((t.place[i]+1:Nat):Int))
    setField (.ref it) 1 (rawInt ((i:Nat)+1:Int))
    ret es[i].2) _ _ _
  have e2:kO t.place (i+1)=t.place[i]+1:=by
   unfold kO;rw[if_neg (by omega)];simp[Array.getD,show i<t.place.size by omega]
  rw[<-e2];refine af (gr st.1 (by simp) λh1 g1 b1=>?_);refine af (gr g1 (by simp) λh2 g2 b2=>?_);refine aj ⟨_,rfl,hQ _ _ (by rw[jb hi];rfl) ⟨?_,?_⟩ ⟨?_,rfl,rfl,rfl,bg _⟩⟩
  ·rw[g2];rfl
  ·rw[b2.2 a ne.symm,b1.2 a ne.symm];exact st.2
  ·intro b o hb e;have hb':b≠it:=by simpa using hb
   rw[b2.2 b hb',b1.2 b hb'];exact e
 done:=λs Q E st hQ=>by
  have sz:t.place.size=es.size:=by
   unfold SetTable.fits at fit;simp only[fb,beq_iff_eq]at fit;exact fit.1
  refine mS st.1 rfl (rD (slot:=kO t.place es.size) st.1 st.2 fit rfl ?_);refine CC hb st.2 fit hp hl ?_;rw[Br R (by omega),sd (bg _)];dsimp only;exact vX hh st.1 rfl (by simp) λe h' kp ty=>⟨ty,hQ _ ⟨λb o hb q=>kp b o (by simpa using hb) q,rfl,rfl,rfl,bg _⟩⟩
 self:=λi s Q E st hQ=>by
  have ht:s.TypeIs (.ref it) "set_iterator":=⟨_,st.1,rfl⟩
  refine wpAny_pyIter_slot ht mX (jt mX ht xQ ?_ (xU _));show wpAny _ _ (ret (.ref it)) _ _ s;exact aj ⟨_,rfl,"set_iterator",_,ht,st_next.lookup,hQ⟩
abbrev oC(ps:List Nat):Obj:={cls:=.type "tuple",data:=.seq (ps.map λ(i:Nat)=>rawInt (i:Int)).toArray}
theorem C4{i:Nat}{n:Nat}{tu:Addr}{ps:List Nat}{Q:Fin->Shared->Prop}(hi:s.heap.get? it=some (qz (.ref tu) i a n ep))(ho:s.heap.get? a=some (cB es ep t))(hu:s.heap.get? tu=some (oC ps))(hf:t.fits es.size=true)(hn:es.size=n)
  (h:match ps[i]? with
   |some pl=>∃e,es[pl]?=some e/\wpAny (model prog w) A (do
    setField (.ref it) 1 (rawInt (i+1))
    ret e.2) Q E s
   |none=>wpAny (model prog w) A (do setField (.ref it) 0 (rawInt 0);setField (.ref it) 2 .none;raiseNew (<- newExc (.type "StopIteration") [])) Q E s):
  wpAny (model prog w) A (Builtin.«set_iterator.__next__» ⟨[.ref it],[]⟩) Q E s:=by
 unfold Builtin.«set_iterator.__next__»;refine af (m:=slotArgs "__next__" 0 ⟨[.ref it],[]⟩) (aj ?_);dsimp only;refine af (wpAny_fieldsOf hi rfl ?_);show wpAny _ _ (setEntries a >>= _) _ _ s;refine af (oS ho hf ?_);rw[hn];simp only[bne_self_eq_false,n6,if_false];show wpAny _ _ (seqItems? (.ref tu) >>= _) _ _ s;refine af (wpAny_seqItems hu rfl ?_);dsimp only;have e:(ps.map λ(i:Nat)=>rawInt (i:Int)).toArray[((i:Int)).toNat]?=ps[i]?.map λ(i:Nat)=>rawInt (i:Int):=by simp
 rw[e];cases q:ps[i]? with
 |none=>
  rw[q]at h;exact h
 |some pl=>
  rw[q]at h;obtain⟨en,he,h⟩:=h;show wpAny _ _ (setNextDrawn a ((pl:Int)).toNat ((ep:Int)).toNat >>= _) _ _ s;unfold setNextDrawn;refine af (af (g_ ho rfl hf ?_));dsimp only;rw[show((ep:Int)).toNat=ep by simp,show((pl:Int)).toNat=pl by simp];simp only[bne_self_eq_false,n6,if_false];rw[he];exact aj h
theorem Gx(hh:A.handled=none)(fit:t.fits es.size=true)(it a tu:Addr)(ne:it≠a)(nu:it≠tu)(ps:List Nat)(hp:ps.Perm (List.range es.size)):
  WalksS prog w A it [it,a,tu] [it] Eq es.size (λi v=>∃pl e,ps[i]?=some pl/\es[pl]?=some e/\v=e.2)
   (λi s=>s.heap.get? it=some (qz (.ref tu) i a es.size ep)/\s.heap.get? a=some (cB es ep t)/\s.heap.get? tu=some (oC ps)) where
 sub:=λb hb=>by simp at hb;simp[hb]
 grefl:=λ_=>rfl
 gtrans:=λ_ _ _ x y=>x.trans y
 frame:=λi s h' tk st _ k=>⟨k it (by simp) _ st.1,k a (by simp) _ st.2.1,k tu (by simp) _ st.2.2⟩
 item:=λi s Q E hi st hQ=>by
  have pl:ps.length=es.size:=by rw[hp.length_eq,mi]
  have hlt:i<ps.length:=by omega
  have hm:ps[i]<es.size:=by have:=hp.mem_iff.mp (j6 hlt);simpa using this
  refine mS st.1 rfl (C4 st.1 st.2.1 st.2.2 fit rfl ?_);rw[b9 hlt];refine⟨es[ps[i]],jb hm,?_⟩;refine af (gr st.1 (by simp) λh1 g1 b1=>?_);refine aj ⟨_,rfl,hQ _ _ ⟨_,_,b9 hlt,jb hm,rfl⟩ ⟨?_,?_,?_⟩ ⟨?_,rfl,rfl,rfl,bg _⟩⟩
  ·rw[g1];rfl
  ·rw[b1.2 a ne.symm];exact st.2.1
  ·rw[b1.2 tu nu.symm];exact st.2.2
  ·intro b o hb e;have hb':b≠it:=by simpa using hb
   rw[b1.2 b hb'];exact e
 done:=λs Q E st hQ=>by
  have pl:ps.length=es.size:=by rw[hp.length_eq,mi]
  refine mS st.1 rfl (C4 st.1 st.2.1 st.2.2 fit rfl ?_);rw[nj (by omega)];refine af (gr st.1 (by simp) λh1 g1 b1=>?_);refine vX hh g1 rfl (by simp) λe h' kp ty=>⟨ty,hQ _ ⟨λb o hb q=>kp b o (by simpa using hb) ?_,rfl,rfl,rfl,bg _⟩⟩
  have hb':b≠it:=by simpa using hb
  show h1.get? b=some o;rw[b1.2 b hb'];exact q
 self:=λi s Q E st hQ=>by
  have ht:s.TypeIs (.ref it) "set_iterator":=⟨_,st.1,rfl⟩
  refine wpAny_pyIter_slot ht mX (jt mX ht xQ ?_ (xU _));show wpAny _ _ (ret (.ref it)) _ _ s;exact aj ⟨_,rfl,"set_iterator",_,ht,st_next.lookup,hQ⟩
end
def y8(P:Nat->Value->Prop)(vs:List Value):Prop:=∀acc:Array Value,ItemsOf P acc vs.length->acc.toList.Perm vs
theorem wC{P:Nat->Value->Prop}{vs out:List Value}(hl:out.length=vs.length)(h:∀i v,P i v->out[i]?=some v)(hp:out.Perm vs):y8 P vs:=λacc ⟨h1,h2⟩=>by
 have e:acc.toList=out:=by
  apply List.ext_getElem?;intro i;by_cases hi:i<acc.size
  ·rw[h i acc[i] (h2 i _ (jb hi)),h9,jb hi]
  ·rw[h9,sd (by omega),nj (by omega)]
 rw[e];exact hp
section
variable{prog:Program}{w:World}{A:Around}{E:Value->Shared->Prop}{s:Shared}{a:Addr}{es:Array (Int×Value)}{ep:Nat}{t:SetTable}
theorem Ls{Q:Value->Shared->Prop}(ho:s.heap.get? a=some (cB es ep t))(fit:t.fits es.size=true)(lt:es.size<scanBound)(ld:t.led=!cf w)(hR:t.plain=true\/es.size<=1->fV t.place)
  (h:∀(it:Addr) (fp:List Addr) (P:Nat->Value->Prop) (St:Nat->Shared->Prop) (h':Heap) (d:Drawn),(∀A':Around,A'.handled=none->∃n,n=es.size/\WalksS prog w A' it fp [it] Eq n P St)->St 0 {s with heap:=h',drawn:=d}->y8 P (es.toList.map (·.2)) ->
   (∀b∈fp,b=a\/s.heap.objs.size<=b)->s.heap.objs.size<=it->(∀b o,s.heap.get? b=some o->h'.get? b=some o)->Q (.ref it) {s with heap:=h',drawn:=d}):
  wpAny (model prog w) A (pyIter (.ref a)) Q E s:=by
 have alt:a<s.heap.objs.size:=bo ho;have ht:s.TypeIs (.ref a) "set":=⟨_,ho,rfl⟩
 have lv:(es.toList.map (·.2)).length=es.size:=by rw[ak,e7]
 refine wpAny_pyIter_slot ht B_ (jt B_ ht IY ?_ (HA _));unfold Builtin.«frozenset.__iter__» Builtin.Frozenset.slot0;refine af (af (m:=slotArgs "__iter__" 0 ⟨[.ref a],[]⟩) (aj ?_));show wpAny _ _ (pure a) _ _ s;refine aj ?_;unfold Builtin.Frozenset.sizeOf;refine af (af (oS ho fit (aj ?_)));unfold setDrawn;refine af (af (g_ ho rfl fit ?_));dsimp only;refine af (gO (aj ?_));show wpAny _ _ (if (!cf w&&(!t.plain&&decide (es.size > 1)))=true then _ else _) _ _ s;have fin:∀(first:Value) (h1:Heap) (d:Drawn) (St:Nat->Shared->Prop),(∀b o,s.heap.get? b=some o->h1.get? b=some o)->s.heap.objs.size<=h1.objs.size ->
   (∀s2:Shared,s2.heap.get? h1.objs.size=some (qz first 0 a es.size ep)->(∀b o,h1.get? b=some o->s2.heap.get? b=some o) ->
    Q (.ref h1.objs.size) {s with heap:=h1.push (qz first 0 a es.size ep),drawn:=d})->wpAny (model prog w) A.in1 (do
   ret (<- newFields "set_iterator" [first,rawInt 0,.ref a,rawInt es.size,rawInt (<- setEpoch a)])) (λfin s'=>∃v,fin=.done (.ret v)/\∃T' r,s'.TypeIs v T'/\typeLookup (.type T') "__next__"=pure (some r)/\Q v s') E {s with heap:=h1,drawn:=d}:=by
  intro first h1 d St k le q;refine af (wpAny_setEpoch_of (k a _ ho) rfl fit ?_);refine af (e9 ?_ (by size_fits));exact aj ⟨_,rfl,"set_iterator",_,⟨_,ck _ rfl,rfl⟩,st_next.lookup,q {s with heap:=h1.push (qz first 0 a es.size ep)} (ck _ rfl) λb o e=>bh _ e⟩
 cases hb:cf w with
 |true=>
  rw[if_neg (by simp)];refine af (aj ?_);have e:s={s with heap:=s.heap,drawn:=s.drawn}:=by cases s;rfl
  have hp:=oZ (w.params.setOrder a ep) es;have nea:s.heap.objs.size≠a:=jc alt;refine fin (.int 0 0) s.heap s.drawn (λ_ _=>True) (λ_ _ e=>e) (bg _) λs2 g k=>?_
  refine h s.heap.objs.size [s.heap.objs.size,a] _ _ _ _ (λA' hA=>⟨es.size,rfl,Hs (ep:=ep) hA hb fit _ a nea⟩) ⟨ck _ rfl,bh _ ho⟩ ?_ (λb m=>?_) (bg _) λb o e=>bh _ e
  ·refine wC (out:=(pickOrder (w.params.setOrder a ep) es).toList.map (·.2)) (by rw[ak,ak,hp.length_eq]) (λi v q=>?_) (hp.map _);rw[gf,h9];exact q
  ·simp only[qe_,b_,or_false]at m;rcases m with m|m
   ·exact .inr (by rw[m];exact bg _)
   ·exact .inl m
 |false=>
  have hl:t.led=true:=by rw[ld,hb];rfl
  by_cases h1:t.plain=true\/es.size<=1
  ·rw[if_neg (by rcases h1 with q|q<;>simp[q])];refine af (aj ?_);have nea:s.heap.objs.size≠a:=jc alt;refine fin (.int 0 0) s.heap s.drawn (λ_ _=>True) (λ_ _ e=>e) (bg _) λs2 g k=>?_
   refine h s.heap.objs.size [s.heap.objs.size,a] _ _ _ _ (λA' hA=>⟨es.size,rfl,Gy (ep:=ep) hA hb fit h1 (hR h1) hl _ a nea⟩) ⟨ck _ rfl,bh _ ho⟩ ?_ (λb m=>?_) (bg _) λb o e=>bh _ e
   ·refine wC (out:=es.toList.map (·.2)) rfl (λi v q=>?_) (.refl _);rw[gf,h9];exact q
   ·simp only[qe_,b_,or_false]at m;rcases m with m|m
    ·exact .inr (by rw[m];exact bg _)
    ·exact .inl m
  ·obtain⟨np,h2⟩:=not_or.mp h1;have np:t.plain=false:=by simpa using np
   rw[if_pos (by simp[np];omega)];refine af (uX es.size (List.range es.size) s (by simp) λps d hp=>?_);refine af (wpAny_newTuple ?_ (by rw[ak,hp.length_eq,mi];exact fits_of_scanBound lt));have nea:s.heap.objs.size≠a:=jc alt;have e2:(s.heap.push (oC ps)).objs.size=s.heap.objs.size+1:=i3 ..;refine fin (.ref s.heap.objs.size) (s.heap.push (oC ps)) d (λ_ _=>True) (λ_ _ e=>bh _ e) (by rw[e2];omega) λs2 g k=>?_
   refine h (s.heap.push (oC ps)).objs.size [(s.heap.push (oC ps)).objs.size,a,s.heap.objs.size] _ _ _ _ (λA' hA=>⟨es.size,rfl,Gx (ep:=ep) hA fit _ a s.heap.objs.size (by rw[e2];exact jc (i7 alt)) (by rw[e2];exact jc (mq _)) ps hp⟩) ⟨ck _ rfl,bh _ (bh _ ho),bh _ (ck _ rfl)⟩ ?_ (λb m=>?_) (by rw[e2];omega) λb o e=>bh _ (bh _ e)
   ·have hfm:(ps.filterMap λp=>es[p]?).Perm es.toList:=(hp.filterMap _).trans (by rw[filterMap_getElem?_range]);have hmm:∀p∈ps,p<es.size:=λp m=>by have:=hp.mem_iff.mp m;simpa using this
    have hall:∀(l:List Nat),(∀p∈l,p<es.size)->∀i:Nat,(l.filterMap λp=>es[p]?)[i]?=(l[i]?).bind λp=>es[p]?:=by
     intro l
     induction l with
     |nil=>intro _ i;simp
     |cons x l ih=>
      intro hx i;have hx0:=hx x (by simp);rw[gm,jb hx0];cases i with
      |zero=>simp[hx0]
      |succ i=>simp only[List.getElem?_cons_succ];exact ih (λp m=>hx p (fc _ m)) i
    refine wC (out:=(ps.filterMap λp=>es[p]?).map (·.2)) (by rw[ak,ak,hfm.length_eq]) (λi v ⟨pl,e,q1,q2,q3⟩=>?_) (hfm.map _);rw[gf,hall ps hmm,q1];simp[q2,q3]
   ·simp only[qe_,b_,or_false]at m;rcases m with m|m|m
    ·exact .inr (by rw[m,e2];omega)
    ·exact .inl m
    ·exact .inr (by rw[m];exact bg _)
end
theorem st_len:Slot "set" "__len__" "set.__len__":=
 Slot.of (owner:="set") (n:="__len__") (by rw[typeLookup_type,builtinLookup_eq_fast];kernel_rfl) (by decide +kernel) (by decide +kernel) (by decide +kernel) (by first|exact .inl (by decide +kernel)|exact .inr (by decide +kernel)) (by rw[isSubtype_type];kernel_rfl)
theorem GI:entryFor table "set.__len__"=some Builtin.«frozenset.__len__»:=entryFor_alias (id':="frozenset.__len__") (by kernel_rfl) rfl (by decide +kernel) (by kernel_rfl)
theorem GA(a:Value):argsOk "set.__len__" ⟨[a],[]⟩:=by
 unfold argsOk;kernel_rfl
theorem pP:isSubtype (.type "set") (.type "set")=pure true:=by rw[isSubtype_type];kernel_rfl
section
variable{prog:Program}{w:World}{A:Around}{E:Value->Shared->Prop}{s:Shared}{a:Addr}{us:List Str}
theorem Ki{Q:Bool->Shared->Prop}(ht:s.TypeIs (.ref a) "set")(h:Q false s):wpAny (model prog w) A (Builtin.List.listLengthHint (.ref a)) Q E s:=by
 unfold Builtin.List.listLengthHint;refine af (wpAny_specialOf ht st_len.lookup ?_);have e1:splitId "set.__len__"=some ("set","__len__"):=by decide +kernel
 dsimp only;rw[e1];dsimp only;refine af (wpAny_isInstance ht pP ?_);simp only[Bool.not_true,n6,if_false];refine wpAny_ite ?_;rw[if_pos (by decide +kernel)];refine af (wpAny_typeOf ht ?_);exact aj h
theorem CA{es:Array (Int×Value)}{ep:Nat}{t:SetTable}{Q:List Value->Shared->Prop}(hh:A.handled=none)(ho:s.heap.get? a=some (cB es ep t))(fit:t.fits es.size=true)(lt:es.size<scanBound)(ld:t.led=!cf w)(hR:t.plain=true\/es.size<=1->fV t.place)
  (hQ:∀h' d tk (acc:List Value),acc.Perm (es.toList.map (·.2))->s.heap.objs.size<h'.objs.size->(∀b o,s.heap.get? b=some o->h'.get? b=some o)->Q acc {s with heap:=h',drawn:=d,toks:=tk}):
  wpAny (model prog w) A (collect (.ref a)) Q E s:=by
 have hl:es.size<=sizeLine:=fits_of_scanBound lt;have alt:a<s.heap.objs.size:=bo ho;unfold collect;refine af (wpAny_runValue (i6 F.entry_proto_collect ?_));rw[jd F.plain_proto_collect _];show wpAny _ A.in1 (newList [] >>= λl=>again (.builtin "list.__iadd__" ⟨[l,.ref a],[]⟩)) _ _ s;refine af (e9 ?_ (by size_fits));refine aj ⟨plainId_quiet F.plain_list_iadd _,i6 F.entry_list_iadd ?_⟩;rw[jd F.plain_list_iadd _];show wpAny _ A.in1 (Builtin.List.listExtendWith (.ref s.heap.objs.size) (.ref a) (.ref s.heap.objs.size)) _ _ _;unfold Builtin.List.listExtendWith;have S1:(s.heap.push {cls:=.type "list",data:=.seq ([]:List Value).toArray}).get? a=some (cB es ep t):=bh _ ho;have ht:Shared.TypeIs {s with heap:=s.heap.push {cls:=.type "list",data:=.seq ([]:List Value).toArray}} (.ref a) "set":=⟨_,S1,rfl⟩
 refine af (wpAny_typeOf ht ?_);have h1:Builtin.List.listSameRef (.ref s.heap.objs.size) (.ref a)=false:=by simp[Builtin.List.listSameRef];exact jc alt
 have h2:(Value.type "set"==Value.type "list")=false:=by decide
 have h3:(Value.type "set"==Value.type "tuple")=false:=by decide
 simp only[h1,h2,h3,kx,n6,if_false];refine af (Ls S1 fit lt ld hR λit fp P St h' d W st0 td hfp tm kp=>?_);have ht':Shared.TypeIs {s with heap:=h',drawn:=d} (.ref a) "set":=by
  obtain⟨o,e,c⟩:=ht;exact⟨o,kp _ _ e,c⟩
 refine af (ic (Ki ht' ?_));have hA:A.in1.in1.handled=none:=by simp[hh]
 obtain⟨n,hn,W⟩:=W A.in1 (by simp[hh]);subst hn;refine wpAny_ite ?_;rw[if_pos (by decide +kernel)];refine af (wpAny_rule ?_);have sz1:(s.heap.push {cls:=.type "list",data:=.seq ([]:List Value).toArray}).objs.size=s.heap.objs.size+1:=i3 ..;have g0:h'.get? s.heap.objs.size=some {cls:=.type "list",data:=.seq ([]:List Value).toArray}:=kp _ _ (ck _ rfl);have nf:s.heap.objs.size∉fp:=λm=>by
  rcases hfp _ m with z|z
  ·exact absurd z (jc alt)
  ·rw[sz1]at z;omega
 refine af ?_;show wpAny _ A.in1 (updateSeq s.heap.objs.size (·.push .none) >>= λ_=>updateSeq s.heap.objs.size (·.pop)) _ _ _;refine af (wpAny_updateSeq g0 rfl ?_);have g1:=fo (Obj.mapSeq (·.push Value.none)) g0 rfl;refine wpAny_updateSeq g1 rfl ?_;have g2:=fo (Obj.mapSeq (·.pop)) g1 rfl;have oth:∀b o,b≠s.heap.objs.size->h'.get? b=some o->((h'.update s.heap.objs.size (Obj.mapSeq (·.push Value.none))).update s.heap.objs.size (Obj.mapSeq (·.pop))).get? b=some o:=
  λb o hb e=>(mw _ _ (Ne.symm hb)).trans ((mw _ _ (Ne.symm hb)).trans e)
 refine aj ⟨plainId_quiet F.plain_extend_loop _,codeAny_extend_loopS W hl _ nf _ es.size 0 _ _ _ rfl (g6 _)
  (W.frame 0 {s with heap:=h',drawn:=d} _ s.toks st0 (bg _) λb hb o e=>oth b o (λz=>nf (z▸hb)) e) g2 (ItemsOf.nil P) λs' acc' c' hm g' hacc=>?_⟩
 show wpAny _ A (load s.heap.objs.size >>= _) _ _ s';refine af (wpAny_load g' ?_);have hp:=td acc' (by rw[ak,e7];exact hacc);obtain⟨h'',g'',d'',tk'',os''⟩:=s';have e1:g''=s.gens:=hm.gens.symm;have e2:os''=s.os:=hm.os;subst e1 e2;refine aj (hQ h'' d'' tk'' acc'.toList hp (bo g') λb o e=>hm.heap b o (λm=>?_) (oth b o (cz (bo e)) (kp b o (bh _ e))));have lt:=bo e;simp only[qe_,b_,or_false]at m;rcases m with m|m
 ·rw[m]at lt;exact g5 _ lt
 ·rw[m]at lt;rw[sz1]at tm;exact absurd lt (qy2_.mpr (Nat.le_of_succ_le tm))
theorem dg.rises{es:Array (Int×Value)}{t:SetTable}(T:dg prog w us es t)(h:t.plain=true\/es.size<=1):fV t.place:=by
 have fit:=T.fit;unfold SetTable.fits at fit;simp only[fb,beq_iff_eq]at fit;have k:es.size<=1:=by
  rcases T.pl with q|q
  ·omega
  ·exact h.resolve_left (by rw[q];decide)
 exact CQ (by rw[fit.1];exact k)
theorem Nu{Q:Value->Shared->Prop}(hh:A.handled=none)(S:bf prog w a us s.heap)(h64:us.length<64)
  (h:∀h' d tk (l:Addr) (out:List Value) (ss:List Str) (e:Nat),StrsAre out ss->ss.Perm us->sortedS ss=true->h'.get? l=some (seqObj "list" out.toArray e)->s.heap.objs.size<=l->(∀b o,s.heap.get? b=some o->h'.get? b=some o) ->
   Q (.ref l) {s with heap:=h',drawn:=d,toks:=tk}):wpAny (model prog w) A (call (.builtin "sorted") [.ref a]) Q E s:=by
 refine Calls.call_function_entry kind_sorted plain_sorted entry_sorted (args_sorted1 _) ?_;unfold Builtin.«sorted»;refine af (m:=checkCount "sorted" 1 1 _) (aj ?_);obtain⟨es,ep,t,ho,T⟩:=S;refine af (CA (by simp[hh]) ho T.fit T.lt T.ld T.rises λh1 d tk acc pa le kp=>?_);obtain⟨vs0,hv0,pv0⟩:=T.tx;obtain⟨vs,hs,hp0⟩:=rE pa hv0;have hp:=hp0.trans pv0;have hlen:acc.length<64:=by rw[iZ hs,hp.length_eq];exact h64
 refine af (wpAny_newList ?_ (ff (gz hlen (by decide))));have hoL:(h1.push (seqObj "list" acc.toArray 0)).get? h1.objs.size=some (seqObj "list" acc.toArray 0):=ck _ rfl;refine af (ic (jt slot_list_sort ⟨_,hoL,rfl⟩ entry_list_sort (list_sort_treeK strKind_oneLt hoL hs.keysOf (λv₁ v₂ rest e=>keyKind_strs (by rw[<-e];exact hs)) hlen λst' a1 a2=>⟨_,rfl,?_⟩) (args_list_sort _)));obtain⟨ss',b1,b2,b3⟩:=sorted_out_str hs a1 a2;obtain⟨e,he⟩:=sortedHeap_at (out:=(arrOf st').map (·.2)) hoL;refine aj ⟨_,rfl,h _ _ _ _ ((arrOf st').map (·.2)).toList ss' e b1 (b2.trans hp) b3 (by rw[sa];exact he) (ff le) λb o q=>?_⟩;have lt:=bo (kp b o q);rw[sortedHeap_old (cz lt) (by rw[i3];exact i7 lt)];exact bh _ (kp b o q)
end
def fO(val:Nat->Str)(i:Nat):List Str:=((List.range i).map val).foldl dL []
theorem vQ(val:Nat->Str)(i:Nat):fO val (i+1)=dL (fO val i) (val i):=by
 unfold fO;rw[List.range_succ,gb,r_];rfl
theorem B2(val:Nat->Str):∀i,(fO val i).length<=i
 |0=>bg _
 |i+1=>by
  rw[vQ];have:=B2 val i;unfold dL;split
  ·omega
  ·rw[bw,j7];omega
theorem BH(us:List Str)(x y:Str):y∈dL us x↔y∈us\/y=x:=by
 unfold dL;split
 ·exact⟨.inl,λh=>h.elim id λe=>by subst e;assumption⟩
 ·simp
theorem Hv{us:List Str}(h:us.Nodup)(x:Str):(dL us x).Nodup:=by
 unfold dL;split
 ·exact h
 ·rename_i n;rw[qe];exact⟨h,by simp,λa ha b hb e=>n (by rw[<-show b=x by simpa using hb,<-e];exact ha)⟩
def aH(ss:List Str):List Str:=ss.foldl dL []
theorem Df:∀(ss us:List Str) (y:Str),y∈ss.foldl dL us↔y∈us\/y∈ss
 |[],us,y=>by simp
 |x::ss,us,y=>by rw[j8,Df ss,BH,qe_,or_assoc]
theorem BR:∀(ss us:List Str),us.Nodup->(ss.foldl dL us).Nodup
 |[],us,h=>h
 |x::ss,us,h=>BR ss _ (Hv h x)
theorem cZ(ss:List Str)(y:Str):y∈aH ss↔y∈ss:=by rw[aH,Df];simp
theorem dX(ss:List Str):(aH ss).Nodup:=BR ss [] mh
theorem wM{val:Nat->Str}{ss:List Str}(h:∀i (hi:i<ss.length),val i=ss[i]):fO val ss.length=aH ss:=by
 unfold fO aH;congr 1;apply List.ext_getElem
 ·simp
 ·intro i h1 h2;simp[h i h2]
theorem Ke(us:List Str)(x:Str):us.length<=(dL us x).length:=by
 unfold dL;split
 ·exact bg _
 ·rw[bw];omega
theorem K9(val:Nat->Str){i n:Nat}(h:i<=n):(fO val i).length<=(fO val n).length:=by
  induction n with
  | zero => have : i = 0 := by omega
            subst this;exact bg _
  |succ n ih=>
    by_cases e:i=n+1
    · subst e;exact bg _
    · have:=ih (by omega)
      rw[vQ];have:=Ke (fO val n) (val n);omega
section
variable{prog:Program}{w:World}{A:Around}{R:Result->Shared->Prop}{I:Addr}{fp wr:List Addr}{G:Array GenState->Array GenState->Prop}{n:Nat}{P:Nat->Value->Prop}{St:Nat->Shared->Prop}
theorem bf.kept{a:Addr}{us:List Str}{h h':Heap}(S:bf prog w a us h)(k:∀o,h.get? a=some o->h'.get? a=some o):bf prog w a us h':=by
 obtain⟨es,ep,t,ho,T⟩:=S;exact⟨es,ep,t,k _ ho,T⟩
theorem B1(W:WalksS prog w A.in1 I fp wr G n P St)(S:Addr)(hf:S∉fp)(J:Nat->Heap->Prop)(kp:∀i h h',J i h->(∀o,h.get? S=some o->h'.get? S=some o)->J i h')
  (add:∀i v (s':Shared) (Q:Bool->Shared->Prop) (E:Value->Shared->Prop),i<n->P i v->J i s'.heap->(∀b h',Heap.SameBut S s'.heap h'->J (i+1) h'->Q b {s' with heap:=h',toks:=s'.toks+1})->wpAny (model prog w) A.in1 (setAdd S v) Q E s'):
  ∀(k i:Nat) (s:Shared),n-i=k->i<=n->St i s->J i s.heap ->
   (∀s',Moved (S::wr) G s s'->J n s'.heap->R (.ok (.ret .none)) s')->codeAny (model prog w) A (.builtin "set.update.loop" ⟨[.ref S,.ref I],[]⟩) R s:=by
 have nw:S∉wr:=λz=>hf (W.sub _ z)
 have sub:∀b∈wr,b∈S::wr:=λb z=>fc _ z
 intro k
 induction k with
 |zero=>
  intro i s hk hi st hS hR;have e:i=n:=by omega
  subst e;refine i6 F.entry_set_update_loop ?_;rw[jd F.plain_set_update_loop _];show wpAny _ A.in1 (pyNext (.ref I) >>= _) _ _ s;refine af (W.done s _ _ st λs' hm=>?_);show wpAny _ A.in1 (ret Value.none) _ _ s';exact aj (hR s' (hm.mono sub) (kp _ _ _ hS λo q=>hm.heap S _ nw q))
 |succ k ih=>
  intro i s hk hi st hS hR;have lt:i<n:=by omega
  refine i6 F.entry_set_update_loop ?_;rw[jd F.plain_set_update_loop _];show wpAny _ A.in1 (pyNext (.ref I) >>= _) _ _ s;refine af (W.item i s _ _ lt st λv s' hP st' hm=>?_);show wpAny _ A.in1 (holding [v] (setAdd S v) >>= _) _ _ s';refine af (ic (add i v s' _ _ lt hP (kp _ _ _ hS λo q=>hm.heap S _ nw q) λb h' sb S2=>?_));refine aj ⟨plainId_quiet F.plain_set_update_loop _,ih (i+1) _ (by omega) lt (W.frame _ s' _ _ st' (jl _) λc hc o e=>?_) S2 λs'' hm'' S3=>?_⟩
  ·rw[sb.2 c (λz:c=S=>hf (by rw[<-z];exact hc))];exact e
  ·refine hR s'' (Moved.trans W.gtrans ((hm.mono sub).then_heap (jl _) λc o hc e=>?_) hm'') S3;rw[sb.2 c (λz:c=S=>hc (by rw[z];exact fe))];exact e
theorem Cp{α:Type}[DecidableEq α](knd:PySem.KeyKind prog w α){S:Addr}{x:α}{v:Value}{s':Shared}{Q:Bool->Shared->Prop}{E:Value->Shared->Prop}(hk:knd.is x v=true)(h:wpAny (model prog w) A (setAddHashed S v (knd.hash x)) Q E {s' with toks:=s'.toks+1}):wpAny (model prog w) A (setAdd S v) Q E s':=by
 unfold setAdd;exact ic (af (knd.pyHash (k:=x) hk h))
theorem CL(W:WalksS prog w A.in1 I fp wr G n P St)(S:Addr)(hf:S∉fp)(val:Nat->Str)(hv:∀i v,P i v->∃t,v=.str (val i) t)(hb:(fO val n).length+1<scanBound):
  ∀(k i:Nat) (s:Shared),n-i=k->i<=n->St i s->bf prog w S (fO val i) s.heap ->
   (∀s',Moved (S::wr) G s s'->bf prog w S (fO val n) s'.heap->R (.ok (.ret .none)) s')->codeAny (model prog w) A (.builtin "set.update.loop" ⟨[.ref S,.ref I],[]⟩) R s:=
 B1 W S hf (λi h=>bf prog w S (fO val i) h) (λ_ _ _ S k=>S.kept k) λi v s' Q E lt hP hS q=>by
  obtain⟨t,rfl⟩:=hv i v hP;refine Cp (PySem.strKind prog w) (x:=val i) (by show Value.isStrOf _ (.str _ t)=true;simp[Value.isStrOf]) (wW (s:={s' with toks:=s'.toks+1}) hS (by have:=K9 val (ff lt);omega) λb h' sb S2=>q b h' sb ?_);rw[vQ];exact S2
end
section
variable{prog:Program}{w:World}{A:Around}{E:Value->Shared->Prop}{s:Shared}
theorem NH(a:Value){Q₁:Value->Shared->Prop}(h:Q₁ (.ref s.heap.objs.size) {s with heap:=s.heap.push (cB #[] 0 (.fresh 0 0 (!cf w)))}):
  codeAny (model prog w) A (.call (.builtin "set.__new__") ⟨[.type "set",a],[]⟩) (wants Q₁ E) s:=by
 refine codeAny_of_tree ?_;show wpAny _ A.in1 (do checkBuiltinCall "set.__new__" ⟨[.type "set",a],[]⟩;again (.builtin "set.__new__" ⟨[.type "set",a],[]⟩)) _ _ s;refine af (wpAny_of_eq (F.newCall_set_1 a) (aj ⟨plainId_quiet F.plain_set_new _,i6 F.entry_set_new ?_⟩));rw[jd F.plain_set_new _];unfold Builtin.«set.__new__» Builtin.Frozenset.newClass;have hsub:=pP;obtain⟨hp,g,d,tk,os⟩:=s;dsimp only;wp_walk;refine wpAny_askSetting (aj ?_);dsimp only;simp only[newObj];refine af (wpAny_alloc (aj ?_));exact aj h
end
theorem iE:∀{vs:List Value}{ss:List Str},StrsAre vs ss->∀(i:Nat) (v:Value),vs[i]?=some v->∃t,v=.str (ss.getD i ⟨#[]⟩) t
 |_,_,.nil,i,v,h=>by simp at h
 |_,_,.cons y t hr,0,v,h=>by
  simp at h;exact⟨t,by rw[<-h];rfl⟩
 |_,_,.cons y t hr,i+1,v,h=>by
  simp only[List.getElem?_cons_succ]at h;obtain⟨u,e⟩:=iE hr i v h;exact⟨u,by rw[e];rfl⟩
section
variable{prog:Program}{w:World}{A:Around}{E:Value->Shared->Prop}{s:Shared}
abbrev cP(w:World):Obj:=cB #[] 0 (.fresh 0 0 (!cf w))
theorem BK{x:Value}{P:Shared->Prop}{Q:Value->Shared->Prop}(hq:∀s',P s'->Q (.ref s.heap.objs.size) s')
  (hb:wpAny (model prog w) A.in1.in1 (Builtin.«set.__init__» ⟨[.ref s.heap.objs.size]++[x],[]⟩) (λr s'=>r=.done (.ret .none)/\P s') E {s with heap:=s.heap.push (cP w)}):
  wpAny (model prog w) A (call (.type "set") [x]) Q E s:=by
 obtain⟨c,tl,hmro⟩:=F.called_set.mro;have hmade:=F.called_set.made;have hsub:=F.called_set.sub;refine wpAny_call (codeAny_of_tree ?_);show wpAny _ _ (callAny (.type "set") _) _ _ _;refine aj ⟨Code.quiet_builtin _ (by decide +kernel),i6 F.entry_type_call ?_⟩;rw[Around.under_plain (weight_type_call_type "set" [x] []) rfl];have h1:=F.called_set.notType;have h2:=F.called_set.canCreate;have hct:=F.typeCall_set_1 x
 repeat (any_goals (first|assumption|wp_step))
 refine codeAny_mono (NH x (E:=E) (Q₁:=λobj s₁=>obj=.ref s.heap.objs.size/\s₁={s with heap:=s.heap.push (cP w)}) ⟨rfl,rfl⟩) λr s₁ hr=>?_
 cases r with
 |error e=>exact hr
 |ok fl=>
  cases fl with
  |ret obj=>
   obtain⟨rfl,rfl⟩:=hr;have hS:(s.heap.push (cP w)).get? s.heap.objs.size=some (cP w):=ck _ rfl;have hT:Shared.TypeIs {s with heap:=s.heap.push (cP w)} (.ref s.heap.objs.size) "set":=⟨_,hS,rfl⟩
   have hli:=F.called_set.init.lookup;have hbi:=F.called_set.init.bind (.ref s.heap.objs.size)
   repeat (any_goals (first|assumption|wp_step))
   refine codeAny_mono (codeAny_call_builtin (R:=wants (λr s₂=>r=.none/\P s₂) E) F.called_set.init.plain F.entry_set_init (check_set_init_1 hT (wpAny_mono hb (λr s' ⟨e,p⟩=>?_) λ_ _ h=>h))) λr₂ s₂ hr₂=>?_
   ·subst e;exact⟨rfl,p⟩
   ·cases r₂ with
    |error e=>exact hr₂
    |ok fl₂=>
     cases fl₂ with
     |ret r=>
      obtain⟨rfl,p⟩:=hr₂
      repeat (any_goals (first|assumption|wp_step))
      exact hq _ p
     |_=>exact hr₂.elim
  |_=>exact hr.elim
theorem AF{h:Heap}{a:Addr}(e:h.get? a=some (cP w)):bf prog w a [] h:=⟨#[],0,.fresh 0 0 (!cf w),e,⟨λe he=>by simp at he,⟨[],.nil,.refl _⟩,mh,by decide,by simp[SetTable.fits,SetTable.fresh,SetTable.fill],.inl rfl,rfl⟩⟩
theorem BL{l:Addr}{o:Obj}{T:String}{R:Shared->Prop}{Q:Value->Shared->Prop}(ho:s.heap.get? l=some o)(hc:o.cls=.type T)(hs:isSubtype (.type T) (.type "set")=pure false)(hf:isSubtype (.type T) (.type "frozenset")=pure false)(hne:(Value.type T==Value.type "dict")=false)
  (tm:wpAny (model prog w) A.in1.in1 (pyIter (.ref l)) (λi s1=>wpAny (model prog w) A.in1.in1 (runValue (.builtin "set.update.loop" ⟨[.ref s.heap.objs.size,i],[]⟩)) (λ_ s'=>R s') E s1) E {s with heap:=s.heap.push (cP w)})
  (h:∀s',R s'->Q (.ref s.heap.objs.size) s'):wpAny (model prog w) A (call (.type "set") [.ref l]) Q E s:=by
 refine BK h ?_;have ho':(s.heap.push (cP w)).get? l=some o:=bh _ ho;have hS:(s.heap.push (cP w)).get? s.heap.objs.size=some (cP w):=ck _ rfl;obtain⟨ocls,odict,odata,oslots⟩:=o;simp only at hc;subst hc;unfold Builtin.«set.__init__» noKeywords Builtin.Frozenset.updateFrom;generalize hPI:pyIter=PI at tm;wp_walk;exact wpAny_mono tm (λa s1 h=>af (wpAny_mono h (λ_ s2 r=>aj (aj ⟨rfl,r⟩)) λ_ _ h=>h)) λ_ _ h=>h
def qN(s:Shared)(P:Heap->Prop)(s':Shared):Prop:=∃h' tk,s'={s with heap:=h',toks:=tk}/\P h'/\∀b o,b<s.heap.objs.size->s.heap.get? b=some o->h'.get? b=some o
theorem vL{o:Obj}{G:Array GenState->Array GenState->Prop}{P:Heap->Prop}{s':Shared}(hm:Moved [s.heap.objs.size,(s.heap.push (cP w)).objs.size] G {s with heap:=(s.heap.push (cP w)).push o} s')(hg:s'.gens=s.gens)(p:P s'.heap):qN s P s':=by
 obtain⟨h',g',d',tk',os'⟩:=s';have ed:d'=s.drawn:=hm.drawn;have eo:os'=s.os:=hm.os;have hg:g'=s.gens:=hg;subst hg ed eo;refine⟨h',tk',rfl,p,λb o hb e=>hm.heap b o ?_ (bh _ (bh _ e))⟩;rw[i3];simp only[qe_,b_,or_false,not_or];exact⟨cz hb,cz (i7 hb)⟩
theorem Lv{l:Addr}{items:Array Value}{R:Heap->Prop}{Q:Value->Shared->Prop}(hh:A.handled=none)(hl:s.heap.IsList l items) (hw:∀(hh3:A.in1.in1.in1.handled=none) (ne:l≠(s.heap.push (cP w)).objs.size) (nf:s.heap.objs.size∉[(s.heap.push (cP w)).objs.size,l]) (s1:Shared),s1={s with heap:=(s.heap.push (cP w)).push {cls:=.type "list_iterator",data:=.fields #[.ref l,.int 0 0]}}->s1.heap.get? s.heap.objs.size=some (cP w)->s1.heap.IsListIter (s.heap.push (cP w)).objs.size l 0/\s1.heap.IsList l items ->
   codeAny (model prog w) A.in1.in1 (.builtin "set.update.loop" ⟨[.ref s.heap.objs.size,.ref (s.heap.push (cP w)).objs.size],[]⟩) (wants (λ_ s'=>qN s R s') E) s1)
  (h:∀(h':Heap) (tk:Nat),R h'->(∀b o,b<s.heap.objs.size->s.heap.get? b=some o->h'.get? b=some o)->Q (.ref s.heap.objs.size) {s with heap:=h',toks:=tk}):wpAny (model prog w) A (call (.type "set") [.ref l]) Q E s:=by
 obtain⟨ol,hol,hcl,nl,hdl⟩:=id hl;have hlS:l<s.heap.objs.size:=bo hol;refine BL (R:=qN s R) hol hcl F.sub_list_set F.sub_list_frozenset (by decide) (wpAny_pyIter_list (hl.push _) (wpAny_runValue ?_)) λs' ⟨h',tk,e,p,k⟩=>by subst e;exact h h' tk p k
 refine hw (by simp[hh]) ?_ ?_ _ rfl (bh _ (ck _ rfl)) ⟨⟨_,ck _ rfl,rfl,rfl⟩,(hl.push _).push _⟩
 ·rw[i3];exact cz (i7 hlS)
 ·rw[i3];simp only[qe_,b_,or_false,not_or];exact⟨cz (mq _),jc hlS⟩
theorem CB{l:Addr}{items:Array Value}{ss:List Str}{Q:Value->Shared->Prop}(hh:A.handled=none)(hl:s.heap.IsList l items)(hi:StrsAre items.toList ss)(hb:(aH ss).length+1<scanBound)
  (h:∀(h':Heap) (tk:Nat),bf prog w s.heap.objs.size (aH ss) h'->(∀b o,b<s.heap.objs.size->s.heap.get? b=some o->h'.get? b=some o)->Q (.ref s.heap.objs.size) {s with heap:=h',toks:=tk}):
  wpAny (model prog w) A (call (.type "set") [.ref l]) Q E s:=by
 have hz:items.size=ss.length:=by have:=iZ hi;simpa using this
 have hm:fO (λi=>ss.getD i ⟨#[]⟩) items.size=aH ss:=by rw[hz];exact wM λi hi=>by simp[hi]
 refine Lv hh hl (λhh3 ne nf s1 e1 g1 st=>?_) h;subst e1;exact CL ((Walks.list hh3 _ l ne items).toS) s.heap.objs.size nf (λi=>ss.getD i ⟨#[]⟩) (λi v hv=>iE hi i v (by rw[h9];exact hv)) (by rw[hm];exact hb) (items.size-0) 0 _ (by omega) (g6 _) st (AF g1) λs' m S'=>vL m m.gens (by rw[hm]at S';exact S')
theorem NC{l:Addr}{items:Array Value}{ss:List Str}{Q:Value->Shared->Prop}(hh:A.handled=none)(hl:s.heap.IsList l items)(hi:StrsAre items.toList ss)(hb:ss.length+1<scanBound)
  (h:∀(h':Heap) (tk:Nat),bf prog w s.heap.objs.size (aH ss) h'->(∀b o,b<s.heap.objs.size->s.heap.get? b=some o->h'.get? b=some o)->Q (.ref s.heap.objs.size) {s with heap:=h',toks:=tk}):
  wpAny (model prog w) A (call (.type "set") [.ref l]) Q E s:=CB hh hl hi (by
 have:(aH ss).length<=ss.length:=by
  have:=B2 (λi=>ss.getD i ⟨#[]⟩) ss.length;rwa[wM (ss:=ss) (λi hi=>by simp[hi])]at this
 omega) h
end
theorem boot_set:bootBuiltins "set"=some (.type "set"):=by decide +kernel
def dJ(P:Program)(w:World)(a:Addr)(us:List Str):HO:=.ext (bf P w a us)
section
variable{X:Cx}
theorem ag.draw{OS:List (Addr×Obj)}{σ:St}{H:Hp}{s:Shared}(I:ag X OS σ H s)(d:Drawn):ag X OS σ H {s with drawn:=d}:=
 ⟨I.ok,I.os,I.bare,I.base,I.loc,I.cell,I.free,I.freeC,I.pin,I.hok,I.len⟩
def Fi(P:Program)(w:World)(K:W.Frag):List V->Hp->VK->Prop:=λxs H Q=>∃(p:Addr) (ss:List Str),xs=[.ref p]/\bx K H p (ss.map V.str)/\ss.length<4000/\∀a:Addr,H a=none->Q (.ref a) (au H a (dJ P w a (aH ss)))
theorem BF(hc:X.calm=true):aq X (.type "set") (Fi X.prog X.w X.K):=by
 intro OS s σ H xs us Q I r h;obtain⟨p,ss,rfl,hq,hz,q⟩:=h;obtain⟨u,rfl,rx⟩:=cI r;cases rx;obtain⟨its,rv,pl,hz'⟩:=I.list hq;have hi:StrsAre its.toArray.toList ss:=jM rv;refine NC (I.ok.hd hc) pl.isList hi (by show ss.length+1<4096;omega) λh' tk S k=>?_
 refine⟨.ref s.heap.objs.size,_,I.laid (t':=tk) (o:=dJ X.prog X.w s.heap.objs.size (aH ss)) (λb o e=>k b o (bo e) e) (bg _) ⟨S,?_,λh1 h2 z k'=>z.kept k'⟩,rfl,q _ I.fresh⟩;obtain⟨es,ep,t,e,_⟩:=S;exact⟨_,e⟩
def HU(P:Program)(w:World):List V->Hp->VK->Prop:=λxs H Q=>∃(a:Addr) (us:List Str),xs=[.ref a]/\H a=some (dJ P w a us)/\us.length<64 /\
  ∀(ss:List Str) (l:Addr),ss.Perm us->sortedS ss=true->H l=none->Q (.ref l) (au H l (.lst (ss.map V.str)))
theorem uZ(hc:X.calm=true):aq X (.builtin "sorted") (HU X.prog X.w):=by
 intro OS s σ H xs us Q I r h;obtain⟨a,uu,rfl,hq,h64,q⟩:=h;obtain⟨u,rfl,rx⟩:=cI r;cases rx;have S:bf X.prog X.w a uu s.heap:=(I.hok a _ hq).1;refine Nu (I.ok.hd hc) S h64 λh' d tk l out ss e hs hp hso hl le k=>?_
 refine⟨.ref l,_,(I.laid (t':=tk) (o:=.lst (ss.map V.str)) k le ?_).draw d,rfl,q ss l hp hso (I.hok.fresh le)⟩;refine⟨?_,out,e,vC hs,hl⟩;rw[ak,hp.length_eq];exact ff (gz h64 (by decide))
def lX(x:Str)(n:Int):Str:=⟨(List.replicate n.toNat x.cps.toList).flatten.toArray⟩
def Ff:R2:=λx y H Q=>∃(z:Str) (n:Int),x=.str z/\y=.int n/\z.length<=1000/\n<=1000 /\ -1000<=n/\Q (.str (lX z n)) H
theorem wR(x:Array Nat):∀n (acc:Array Nat),((List.replicate n x).foldl (·++·) acc)=(acc.toList++(List.replicate n x.toList).flatten).toArray
 |0,acc=>by simp
 |n+1,acc=>by
  rw[i4,j8,wR x n,i4,i9];simp
theorem Jt:cn X (binaryOp .Mult) Ff:=by
 intro OS s σ H x y v u Q I rx ry h;obtain⟨z,n,rfl,rfl,hz,n1,n0,q⟩:=h;obtain⟨t,rfl⟩:=rx;obtain⟨t',rfl⟩:=ry;have fin:∀(w:Str) (k:Tok) (tk:Nat),w=lX z n->EP X OS σ Q (.str w k) {s with toks:=tk}:=λw k tk e=>⟨.str w,H,I.tok tk,⟨k,rfl⟩,by rw[e];exact q⟩
 have pos:∀m:Nat,m<=1000->z.length*m<=1000000:=λm hm=>Nat.mul_le_mul hz hm
 refine P.mul_str (by rw[iq (by omega),iq (by omega)];rfl) (λh1 _ h2=>?_) (λh1 _=>?_) ?_
 ·have:(2 ^ 63-1) / n>=1000:=by
   have h3:n<=1000:=n1;have h4:0<n:=by omega
   rw[ge_iff_le,Int.le_ediv_iff_mul_le h4];omega
  omega
 ·show decide (_ > sizeLine)=false;refine iq (qy2_.mpr (cx (pos n.toNat (by omega)) (by decide)))
 ·split
  ·refine⟨by decide,fin _ _ _ ?_⟩;unfold lX;rw[show n.toNat=0 by omega];rfl
  ·split
   ·rename_i h1 h2;refine fin _ _ s.toks ?_;rw[Bool.or_eq_true]at h2;unfold lX;rcases h2 with h3|h3
    ·have:n=1:=by simpa using h3
     rw[this];simp
    ·have hz0:z.cps=#[]:=by
      have:z.cps.size=0:=by simpa[Str.length]using h3
      exact Array.size_eq_zero_iff.mp this
     have e:∀m:Nat,(List.replicate m ([]:List Nat)).flatten=[]:=λm=>by
      induction m with
      |zero=>rfl
      |succ m ih=>rw[i4,i9,ih];rfl
     obtain⟨zc⟩:=z;have hz0:zc=#[]:=hz0;subst hz0;show(⟨#[]⟩:Str)=⟨(List.replicate n.toNat ([]:List Nat)).flatten.toArray⟩;rw[e]
   ·refine⟨?_,fin _ _ _ ?_⟩
    ·show(List.foldl (λx1 x2=>x1++x2) #[] (List.replicate n.toNat z.cps)).size<=_;rw[wR,cg,bw,xK];show 0+n.toNat*z.cps.toList.length<=_;have:=pos n.toNat (by omega);rw[qd]at this;have e:z.cps.toList.length=z.length:=by simp[Str.length]
     rw[e];exact cx (by omega) (show 1000000<=sizeLine by decide)
    ·unfold lX;rw[wR];simp
def Ef(K:W.Frag):V->Option Int->Option Int->Hp->VK->Prop:=λx lo hi H Q=>∃a xs,x=.ref a/\cv K H a xs/\∀p H',aw H H'->cv K H' p (gZ xs lo hi)->Q (.ref p) H'
theorem Nw{prog:Program}{w:World}{A:Around}{E:Value->Shared->Prop}{s:Shared}{t sl:Addr}{items:Array Value}{vl vu:Value}{lo hi:Option Int}{Q:Value->Shared->Prop}(ht:IsTup s.heap t items)(hs:s.heap.IsSliceOf sl vl vu .none)(pl:IsPart vl lo)(pu:IsPart vu hi)
  (hw:HT.sIx items.size 0 lo=0/\HT.sIx items.size items.size hi=items.size) (h:Q (.ref t) s):wpAny (model prog w) A (getItem (.ref t) (.ref sl)) Q E s:=by
 obtain⟨os,hos,hcs,hds⟩:=id hs;have hTs:s.TypeIs (.ref sl) "slice":=⟨os,hos,hcs⟩
 unfold getItem
 try with_reducible refine ic ?_
 first|refine af (aj ?_)|skip
 refine af (wpAny_sequenceKey ht.typeIs (by decide) ?_);refine af (wpAny_callSpecial?_slot (name:=Str.ofString "__getitem__") ht.typeIs PyProof.Rows.slot_tuple_getitem (jt PyProof.Rows.slot_tuple_getitem ht.typeIs entry_tuple_getitem ?_ (args_tuple_getitem _ _)));show wpAny _ _ (Builtin.Tuple.tupleItemsOf (.ref t) >>= _) _ _ s;refine af (tupleItemsOf_ ht (af (wpAny_typeOf hTs ?_)));rw[if_pos (by decide)];refine af (HT.sliceApplied_gen hs pl pu ?_);rw[hw.1,hw.2];dsimp only;rw[if_pos (by simp)];unfold Builtin.Tuple.tupleIsExact;refine af (af (wpAny_typeOf ht.typeIs (aj ?_)));rw[if_pos (by decide)];exact af (wpAny_rule (aj ⟨_,rfl,aj h⟩))
theorem JE{xs:List V}{lo hi:Option Int}(hw:HT.sIx xs.length 0 lo=0/\HT.sIx xs.length xs.length hi=xs.length):gZ xs lo hi=xs:=by
 unfold gZ;rw[hw.1,hw.2,oo,Nat.sub_zero,jj]
theorem sl_tupW:o9 X (Ef X.K):=by
 intro OS s σ H x v vl vu lo hi sl Q I rx hs pl pu h;obtain⟨a,xs,rfl,hx,q⟩:=h;by_cases hw:HT.sIx xs.length 0 lo=0/\HT.sIx xs.length xs.length hi=xs.length
 ·cases rx;obtain⟨its,r,ht,hz⟩:=I.tuple hx;have hlen:its.toArray.size=xs.length:=by rw[cg];exact r.length.symm
  refine⟨"tuple",_,PyProof.Rows.slot_tuple_getitem.lookup,ht.typeIs,?_⟩;exact Nw ht hs pl pu (by rw[hlen];exact hw) ⟨.ref a,H,I,rfl,q a H (λ_ _ e=>e) (by rw[JE hw];exact hx)⟩
 ·exact Ia OS s σ H _ v vl vu lo hi sl Q I rx hs pl pu ⟨a,xs,rfl,hx,hw,λp np=>q p _ (λb o e=>by rw[bR (eI e np)];exact e) (cv.of bJ)⟩
theorem LB:aq X (.builtin "len") (λxs H Q=>∃(a:Addr) (us:List Str),xs=[.ref a]/\H a=some (dJ X.prog X.w a us)/\Q (.int us.length) H):=by
 intro OS s σ H xs us Q I r h;obtain⟨a,uu,rfl,hq,q⟩:=h;obtain⟨u,rfl,rx⟩:=cI r;cases rx;have S:bf X.prog X.w a uu s.heap:=(I.hok a _ hq).1;obtain⟨es,ep,t,ho,T⟩:=S;have ht:s.TypeIs (.ref a) "set":=⟨_,ho,rfl⟩
 have hs:=T.size;have hb:(es.size:Int)<2 ^ 63:=r9 (Int.ofNat_lt.mpr T.lt) (by decide);refine Calls.call_function_entry kind_len plain_len entry_len (args_len1 _) ?_;unfold Builtin.«len»;refine af (m:=oneArg "len" _) (aj ?_);refine af (m:=callSpecial? (.ref a) (Str.ofString "__len__")) (wpAny_callSpecial?_slot (name:=Str.ofString "__len__") ht st_len (jt st_len ht GI ?_ (GA _)));unfold Builtin.«frozenset.__len__» Builtin.Frozenset.slot0 Builtin.Frozenset.sizeOf;refine af (af (m:=slotArgs "__len__" 0 ⟨[.ref a],[]⟩) (aj ?_));show wpAny _ _ (pure a) _ _ s;refine aj ?_;refine af (af (oS ho T.fit (aj ?_)));refine af (wpAny_mkInt (aj ⟨_,rfl,?_⟩));refine af (ic (aj ?_));refine af (wpAny_letGo ?_);show wpAny _ _ (if ((es.size:Nat):Int)<0 then _ else _) _ _ _;rw[if_neg (by omega)];show wpAny _ _ (if ((es.size:Nat):Int)>=2 ^ 63 then _ else _) _ _ _;rw[if_neg (by omega)];refine af (wpAny_mkInt (aj ⟨_,rfl,.int uu.length,H,(I.tok _),⟨_,by rw[hs]⟩,q⟩))
end
theorem xR(f:Nat->List Nat):∀n,argBest (λi j=>decide (f i<f j)) n<=n/\∀j,j<=n->f (argBest (λi j=>decide (f i<f j)) n)<=f j
 |0=>⟨bg _,λj hj=>by rw[Nat.le_zero.mp hj];exact qc _⟩
 |n+1=>by
  obtain⟨h1,h2⟩:=xR f n;show(if decide (f (n+1)<f (argBest _ n))=true then n+1 else argBest _ n)<=n+1/\∀j,j<=n+1->f (if decide (f (n+1)<f (argBest _ n))=true then n+1 else argBest _ n)<=f j;by_cases h:f (n+1)<f (argBest (λi j=>decide (f i<f j)) n)
  ·rw[if_pos (gp h)];refine⟨bg _,λj hj=>?_⟩;rcases om hj with z|z
   ·exact p_ (List.le_of_lt h) (h2 j (by omega))
   ·rw[z];exact qc _
  ·rw[if_neg (λz=>h (ip z))];refine⟨by omega,λj hj=>?_⟩;rcases om hj with z|z
   ·exact h2 j (by omega)
   ·rw[z];exact qk1_.mp h
theorem xS(f:Nat->List Nat):∀n,argBest (λi j=>decide (f j<f i)) n<=n/\∀j,j<=n->f j<=f (argBest (λi j=>decide (f j<f i)) n)
 |0=>⟨bg _,λj hj=>by rw[Nat.le_zero.mp hj];exact qc _⟩
 |n+1=>by
  obtain⟨h1,h2⟩:=xS f n;show(if decide (f (argBest _ n)<f (n+1))=true then n+1 else argBest _ n)<=n+1/\∀j,j<=n+1->f j<=f (if decide (f (argBest _ n)<f (n+1))=true then n+1 else argBest _ n);by_cases h:f (argBest (λi j=>decide (f j<f i)) n)<f (n+1)
  ·rw[if_pos (gp h)];refine⟨bg _,λj hj=>?_⟩;rcases om hj with z|z
   ·exact p_ (h2 j (by omega)) (List.le_of_lt h)
   ·rw[z];exact qc _
  ·rw[if_neg (λz=>h (ip z))];refine⟨by omega,λj hj=>?_⟩;rcases om hj with z|z
   ·exact h2 j (by omega)
   ·rw[z];exact qk1_.mp h
theorem rL{l:List Str}{i:Nat}(h:i<l.length):l.getD i ⟨#[]⟩∈l:=by
 rw[ki,b9 h];exact j6 h
theorem rH{l:List Str}{a:Str}(h:a∈l):∃j,j<l.length/\l.getD j ⟨#[]⟩=a:=by
 obtain⟨j,hj,e⟩:=qm2_.mp h;exact⟨j,hj,by rw[ki,b9 hj];exact e⟩
section
variable{prog:Program}{w:World}{A:Around}{E:Value->Shared->Prop}{s:Shared}{l:Addr}{its:Array Value}{ss:List Str}
theorem Cs{P:Nat->Value->Prop}(val:Nat->Str)(hval:∀i v,P i v->∃t,v=.str (val i) t):CmpOf prog w A .Lt P (λi j=>decide ((val i).cps.toList<(val j).cps.toList)):=λi j vi vj s Q E hi hj h=>by
 obtain⟨t,rfl⟩:=hval i vi hi;obtain⟨u,rfl⟩:=hval j vj hj;exact richCompare_gives (op:=.Lt) (typeIs_str s _ t) (typeIs_str s _ u) F.slot_str_lt F.entry_str_lt (F.args_str_lt_2 _ _) (gives_str_lt _ _ t u) (λx=>nomatch x) h
theorem Cr{P:Nat->Value->Prop}(val:Nat->Str)(hval:∀i v,P i v->∃t,v=.str (val i) t):CmpOf prog w A .Gt P (λi j=>decide ((val j).cps.toList<(val i).cps.toList)):=λi j vi vj s Q E hi hj h=>by
 obtain⟨t,rfl⟩:=hval i vi hi;obtain⟨u,rfl⟩:=hval j vj hj;exact richCompare_gives (op:=.Gt) (typeIs_str s _ t) (typeIs_str s _ u) F.slot_str_gt F.entry_str_gt (F.args_str_gt_2 _ _) (gives_str_gt _ _ t u) (λx=>nomatch x) h
theorem Dc{Q:Value->Shared->Prop}(hl:s.heap.IsList l its)
  (h:∀s₂:Shared,s₂={s with heap:=s.heap.push {cls:=.type "list_iterator",data:=.fields #[.ref l,.int 0 0]}} ->
   (s₂.heap.IsListIter s.heap.objs.size l 0/\s₂.heap.IsList l its)->(∀b∈[s.heap.objs.size,l],b<s₂.heap.objs.size)->l≠s.heap.objs.size->Q (.ref s.heap.objs.size) s₂):
  wpAny (model prog w) A (pyIter (.ref l)) Q E s:=by
 have hlt:l<s.heap.objs.size:=by obtain⟨_,e,_⟩:=hl;exact bo e
 refine wpAny_pyIter_list hl (h _ rfl ⟨⟨_,ck _ rfl,rfl,rfl⟩,hl.push _⟩ (λb hb=>?_) (cz hlt));show b<(s.heap.push _).objs.size;rw[i3];simp only[qe_,b_,or_false]at hb;rcases hb with z|z
 ·rw[z];exact mq _
 ·rw[z];exact i7 hlt
theorem JV{Q:Value->Shared->Prop}(hh:A.handled=none)(hl:s.heap.IsList l its)(hi:StrsAre its.toList ss)(hne:0<ss.length)
  (h:∀x t h' tk,x∈ss->(∀y∈ss,x.cps.toList<=y.cps.toList)->(∀b o,s.heap.get? b=some o->h'.get? b=some o)->Q (.str x t) {s with heap:=h',toks:=tk}):
  wpAny (model prog w) A (call (.builtin "min") [.ref l]) Q E s:=by
 have hsz:its.size=ss.length:=by rw[<-e7,iZ hi]
 refine call_min_walk (Dc hl λs₂ e st hfp hlI=>?_);subst e;refine⟨_,_,_,_,_,_,_,rfl,Walks.list (A:=A.in1) hh _ l hlI its,st,hfp,by omega,Cs (λi=>ss.getD i ⟨#[]⟩) (λi v hv=>iE hi i v (by rw[h9];exact hv)),λv h' tk hP hk=>?_⟩;obtain⟨t,rfl⟩:=iE hi _ v (by rw[h9];exact hP);obtain⟨b1,b2⟩:=xR (λi=>(ss.getD i ⟨#[]⟩).cps.toList) (its.size-1);refine h _ t h' tk (rL (by omega)) (λy hy=>?_) (old_kept hk);obtain⟨j,hj,rfl⟩:=rH hy;exact b2 j (by omega)
theorem JT{Q:Value->Shared->Prop}(hh:A.handled=none)(hl:s.heap.IsList l its)(hi:StrsAre its.toList ss)(hne:0<ss.length)
  (h:∀x t h' tk,x∈ss->(∀y∈ss,y.cps.toList<=x.cps.toList)->(∀b o,s.heap.get? b=some o->h'.get? b=some o)->Q (.str x t) {s with heap:=h',toks:=tk}):
  wpAny (model prog w) A (call (.builtin "max") [.ref l]) Q E s:=by
 have hsz:its.size=ss.length:=by rw[<-e7,iZ hi]
 refine call_max_walk (Dc hl λs₂ e st hfp hlI=>?_);subst e;refine⟨_,_,_,_,_,_,_,rfl,Walks.list (A:=A.in1) hh _ l hlI its,st,hfp,by omega,Cr (λi=>ss.getD i ⟨#[]⟩) (λi v hv=>iE hi i v (by rw[h9];exact hv)),λv h' tk hP hk=>?_⟩;obtain⟨t,rfl⟩:=iE hi _ v (by rw[h9];exact hP);obtain⟨b1,b2⟩:=xS (λi=>(ss.getD i ⟨#[]⟩).cps.toList) (its.size-1);refine h _ t h' tk (rL (by omega)) (λy hy=>?_) (old_kept hk);obtain⟨j,hj,rfl⟩:=rH hy;exact b2 j (by omega)
end
section
variable{X:Cx}
theorem C6(hc:X.calm=true):aq X (.builtin "min") (λxs H Q=>∃(p:Addr) (ss:List Str),xs=[.ref p]/\bx X.K H p (ss.map V.str)/\0<ss.length/\∀x,x∈ss->(∀y∈ss,x.cps.toList<=y.cps.toList)->Q (.str x) H):=by
 intro OS s σ H xs us Q I r h;obtain⟨p,ss,rfl,hq,hn,q⟩:=h;obtain⟨u,rfl,rx⟩:=cI r;cases rx;obtain⟨its,rv,pl,hz⟩:=I.list hq;refine JV (I.ok.hd hc) pl.isList (jM rv) hn λx t h' tk h1 h2 hk=>?_
 exact⟨.str _,H,I.kept hk,⟨t,rfl⟩,q _ h1 h2⟩
theorem C5(hc:X.calm=true):aq X (.builtin "max") (λxs H Q=>∃(p:Addr) (ss:List Str),xs=[.ref p]/\bx X.K H p (ss.map V.str)/\0<ss.length/\∀x,x∈ss->(∀y∈ss,y.cps.toList<=x.cps.toList)->Q (.str x) H):=by
 intro OS s σ H xs us Q I r h;obtain⟨p,ss,rfl,hq,hn,q⟩:=h;obtain⟨u,rfl,rx⟩:=cI r;cases rx;obtain⟨its,rv,pl,hz⟩:=I.list hq;refine JT (I.ok.hd hc) pl.isList (jM rv) hn λx t h' tk h1 h2 hk=>?_
 exact⟨.str _,H,I.kept hk,⟨t,rfl⟩,q _ h1 h2⟩
end
end L2
namespace L2
open PySem PySem.Spec PyProof.Rows
open PySem PySem.Spec PyProof.Rows
section
variable{κ:Type}[DecidableEq κ]
def eR(kvs:List (κ×V))(k:κ):Option V:=(kvs.find? λkv=>decide (kv.1=k)).map (·.2)
def iS(kvs:List (κ×V))(k:κ)(v:V):List (κ×V):=
 if (kvs.any λkv=>decide (kv.1=k))=true then kvs.map (λkv=>if kv.1=k then(kv.1,v) else kv) else kvs++[(k,v)]
theorem rP{p:κ×V}{r:List (κ×V)}{k:κ}(e:p.1=k):eR (p::r) k=some p.2:=by simp[eR,d7,e]
theorem rQ{p:κ×V}{r:List (κ×V)}{k:κ}(e:¬ p.1=k):eR (p::r) k=eR r k:=by simp[eR,d7,e]
theorem vY(k:κ):∀kvs:List (κ×V),(kvs.any λkv=>decide (kv.1=k))=(eR kvs k).isSome
 |[]=>rfl
 |p::r=>by
  rw[kr];by_cases e:p.1=k
  ·simp only[rP e,gp e,Bool.true_or,Option.isSome_some]
  ·rw[rQ e,iq e,p9];exact vY k r
theorem M9(kvs:List (κ×V))(k:κ)(v:V):(iS kvs k v).length<=kvs.length+1:=by
 unfold iS;split
 ·rw[ak];omega
 ·rw[bw,gc,List.length_nil];omega
theorem LL{kvs:List (κ×V)}{k:κ}(v:V)(h:eR kvs k=none):iS kvs k v=kvs++[(k,v)]:=by
 unfold iS;rw[vY,h];exact if_neg (by decide)
theorem g9.isSome_eq{o:Option V}{u:Option Value}(r:g9 o u):o.isSome=u.isSome:=by
 cases o with
 |none=>cases u with
  |none=>rfl
  |some _=>exact(show False from r).elim
 |some _=>cases u with
  |none=>exact(show False from r).elim
  |some _=>rfl
theorem g9.getD{o:Option V}{u:Option Value}{d:V}{d':Value}(r:g9 o u)(rd:ah d d'):ah (o.getD d) (u.getD d'):=by
 cases o with
 |none=>cases u with
  |none=>exact rd
  |some _=>exact(show False from r).elim
 |some _=>cases u with
  |none=>exact(show False from r).elim
  |some _=>exact r
theorem KV.val{kvs:List (κ×V)}{vs:List (κ×Value)}(r:KV kvs vs)(k:κ):g9 (eR kvs k) (valueAt vs k):=by
 unfold KV at r
 induction r with
 |nil=>exact True.intro
 |@cons p q ps qs h t ih=>
  obtain⟨h1,h2⟩:=h;by_cases e:p.1=k
  ·have e':q.1=k:=h1.symm.trans e;have b:valueAt (q::qs) k=some q.2:=by simp[valueAt,d7,e']
   rw[rP e,b];exact h2
  ·have e':¬ q.1=k:=λz=>e (h1.trans z)
   have b:valueAt (q::qs) k=valueAt qs k:=by simp[valueAt,d7,e']
   rw[rQ e,b];exact ih
theorem KV.any{kvs:List (κ×V)}{vs:List (κ×Value)}(r:KV kvs vs)(k:κ):(kvs.any λkv=>decide (kv.1=k))=vs.any λkv=>decide (kv.1=k):=by
 unfold KV at r
 induction r with
 |nil=>rfl
 |cons h t ih=>rw[kr,kr,ih,h.1]
theorem KV.repl{kvs:List (κ×V)}{vs:List (κ×Value)}(r:KV kvs vs)(k:κ){y:V}{u:Value}(ry:ah y u):
  KV (kvs.map λkv=>if kv.1=k then(kv.1,y) else kv) (vs.map λkv=>if kv.1=k then(kv.1,u) else kv):=by
 unfold KV at r ⊢
 induction r with
 |nil=>exact .nil
 |@cons p q ps qs h t ih=>
  rw[e6,e6];refine .cons ?_ ih;obtain⟨h1,h2⟩:=h;by_cases e:p.1=k
  ·rw[if_pos e,if_pos (h1.symm.trans e)];exact⟨h1,ry⟩
  ·rw[if_neg e,if_neg (λz=>e (h1.trans z))];exact⟨h1,h2⟩
theorem KV.put{kvs:List (κ×V)}{vs:List (κ×Value)}(r:KV kvs vs)(k:κ){y:V}{u:Value}(ry:ah y u):KV (iS kvs k y) (stored vs k u):=by
 unfold iS stored;rw[r.any k];by_cases e:(vs.any λkv=>decide (kv.1=k))=true
 ·rw[if_pos e,if_pos e];exact r.repl k ry
 ·rw[if_neg e,if_neg e];exact Paired.snoc r ⟨rfl,ry⟩
theorem KV.length{kvs:List (κ×V)}{vs:List (κ×Value)}(r:KV kvs vs):kvs.length=vs.length:=Paired.length r
end
theorem nW{P:Program}{w:World}{k:ba}{u:Value}(r:ah (kV k) u):(cA P w).is k u=true:=by
 cases k with
 |inl i=>obtain⟨t,e⟩:=(show ∃t,u=Value.int i t from r);subst e;exact Na P w i t
 |inr x=>obtain⟨t,e⟩:=(show ∃t,u=Value.str x t from r);subst e;exact qW P w x t
theorem Dj{P:Program}{w:World}:∀{ks:List ba}{us:List Value},ai (ks.map kV) us->ItemsAre (cA P w) ks us
 |[],_,r=>by rw[qi]at r;cases r;exact .nil
 |k::ks,_,r=>by
  rw[e6]at r;cases r with
  |cons h t=>exact .cons (nW h) (Dj t)
abbrev KT(H:Hp):List (List ba×V)->List (List ba×Addr×Value)->Prop:=Paired λp q=>p.1=q.1/\H q.2.1=some (.tup (p.1.map kV))/\ah p.2 q.2.2
theorem KT.val{H:Hp}{kvs:List (List ba×V)}{xs:List (List ba×Addr×Value)}(r:KT H kvs xs)(k:List ba):g9 (eR kvs k) ((atKey xs k).map (·.2)):=by
 induction r with
 |nil=>exact True.intro
 |@cons p q ps qs h t ih=>
  obtain⟨h1,_,h2⟩:=h;by_cases e:p.1=k
  ·have e':q.1=k:=h1.symm.trans e;have b:atKey (q::qs) k=some q.2:=by simp[atKey,d7,e']
   rw[rP e,b];exact h2
  ·have e':¬ q.1=k:=λz=>e (h1.trans z)
   have b:atKey (q::qs) k=atKey qs k:=by simp[atKey,d7,e']
   rw[rQ e,b];exact ih
section
variable{P:Program}{w:World}{H:Hp}{h:Heap}{a:Addr}
theorem xu{u:HO}(ok:fj P w H h)(e:Rd H a u):ay P w H h a u:=e.ok ok
theorem lU{kvs:List (ba×V)}(ok:fj P w H h)(e:Rd H a (.dK kvs)):kvs.length<=sizeLine/\(a==sysModules)=false/\∃vs,KV kvs vs/\h.DictOf (cA P w) a vs:=
 show ay P w H h a (.dK kvs) from xu ok e
theorem pY{ks:List ba}(ok:fj P w H h)(e:H a=some (.tup (ks.map kV))):(tupleKind (cA P w)).is h ks a:=by
 obtain⟨_,its,r,o,h1,h2,n,h3⟩:=(show ay P w H h a (.tup (ks.map kV)) from ok a _ e)
 exact⟨o,its.toArray,n,h1,h2,h3,by simpa using Dj r⟩
theorem nY{kvs:List (List ba×V)}(ok:fj P w H h)(e:Rd H a (.dT kvs)):kvs.length<=sizeLine/\(a==sysModules)=false /\
  ∃xs,KT H kvs xs/\h.DictOfH (tupleKind (cA P w)) a xs:=by
 obtain⟨z,y,xs,r,o,es,ep,h1,h2,h3,h4,h5⟩:=(show ay P w H h a (.dT kvs) from xu ok e)
 refine⟨z,y,xs,r,o,es,ep,h1,h2,h3,h4,λx hx=>?_,h5⟩;have all:∀{l:List (List ba×V)} {m:List (List ba×Addr×Value)},KT H l m->∀x∈m,(tupleKind (cA P w)).is h x.1 x.2.1:=by
  intro l m q
  induction q with
  |nil=>intro x hx;exact nomatch hx
  |@cons p q ps qs hq t ih=>
   intro x hx;rcases qe_.mp hx with e|hx
   ·subst e;exact pY ok (by rw[<-hq.1];exact hq.2.1)
   ·exact ih x hx
 exact all r x hx
end
def kA(H:Hp)(a:Addr)(y:V)(r:Option V):Prop:=
 (∃kvs k,Rd H a (.dK kvs)/\y=kV k/\r=eR kvs k)\/∃kvs k b,Rd H a (.dT kvs)/\y=.ref b/\H b=some (.tup (k.map kV))/\r=eR kvs k
section
variable{X:Cx}{OS:List (Addr×Obj)}{σ:St}{H:Hp}{s:Shared}{a:Addr}{y v:V}{u r:Value}{o:Option V}{A:Around}{E:Value->Shared->Prop}
theorem KP{Q:Value->Shared->Prop}(hu:A.units+1<cLine)(I:ag X OS σ H s)(g:kA H a y (some v))(ry:ah y u)(h:∀w' s',ag X OS σ H s'->ah v w'->Q w' s'):
  wpAny (model X.prog X.w) A (getItem (.ref a) u) Q E s:=by
 rcases g with⟨kvs,k,e,ey,l⟩|⟨kvs,k,b,e,ey,eb,l⟩
 ·subst ey;obtain⟨z,hd,vs,rel,dd⟩:=lU I.hok e;obtain⟨w',hw,rw'⟩:=g9.some_of (v:=v) (o:=valueAt vs k) (by rw[l];exact rel.val k);exact wpAny_getItem_of (nW ry) dd.mapOf hw (h w' _ (I.tok _) rw')
 ·subst ey;cases (show u=Value.ref b from ry);obtain⟨z,hd,xs,rel,dd⟩:=nY I.hok e;obtain⟨w',hw,rw'⟩:=g9.some_of (v:=v) (o:=(atKey xs k).map (·.2)) (by rw[l];exact rel.val k);obtain⟨p,hp,hp2⟩:=qa1_.mp hw;refine wpAny_getItem_heap (tupleKind_room_in1 hu) (pY I.hok eb) dd hp ?_;rw[hp2];exact h w' _ (I.tok _) rw'
theorem DN{Q:Value->Shared->Prop}(hu:A.units+1<cLine)(I:ag X OS σ H s)(g:kA H a y o)(ry:ah y u)(h:∀s',ag X OS σ H s'->Q (.bool o.isSome) s'):
  wpAny (model X.prog X.w) A (compareOp .In u (.ref a)) Q E s:=by
 rcases g with⟨kvs,k,e,ey,l⟩|⟨kvs,k,b,e,ey,eb,l⟩
 ·subst ey;obtain⟨z,hd,vs,rel,dd⟩:=lU I.hok e;refine wpAny_in_of (nW ry) hd dd.mapOf ?_;rw[<-(rel.val k).isSome_eq,<-l];exact h _ (I.tok _)
 ·subst ey;cases (show u=Value.ref b from ry);obtain⟨z,hd,xs,rel,dd⟩:=nY I.hok e;refine wpAny_in_heap (tupleKind_room_in1 hu) (pY I.hok eb) hd dd ?_;have q:=(rel.val k).isSome_eq;rw[Option.isSome_map]at q;rw[<-q,<-l];exact h _ (I.tok _)
theorem JF{Q:Value->Shared->Prop}(hu:A.units+1<cLine)(I:ag X OS σ H s)(g:kA H a y o)(ry:ah y u)(h:∀s',ag X OS σ H s'->Q (.bool (!o.isSome)) s'):
  wpAny (model X.prog X.w) A (compareOp .NotIn u (.ref a)) Q E s:=by
 rcases g with⟨kvs,k,e,ey,l⟩|⟨kvs,k,b,e,ey,eb,l⟩
 ·subst ey;obtain⟨z,hd,vs,rel,dd⟩:=lU I.hok e;refine wpAny_notIn_of (nW ry) hd dd.mapOf ?_;rw[<-(rel.val k).isSome_eq,<-l];exact h _ (I.tok _)
 ·subst ey;cases (show u=Value.ref b from ry);obtain⟨z,hd,xs,rel,dd⟩:=nY I.hok e;refine wpAny_notIn_heap (tupleKind_room_in1 hu) (pY I.hok eb) hd dd ?_;have q:=(rel.val k).isSome_eq;rw[Option.isSome_map]at q;rw[<-q,<-l];exact h _ (I.tok _)
end
section
variable{X:Cx}{OS:List (Addr×Obj)}{σ:St}{H:Hp}{s:Shared}{a:Addr}{kvs:List (ba×V)}{k:ba}{u:Value}{A:Around}{E:Value->Shared->Prop}
theorem FD{Q:Value->Shared->Prop}(I:ag X OS σ H s)(e:Rd H a (.dK kvs))(h:∀t s',ag X OS σ H s'->Q (.int kvs.length t) s'):wpAny (model X.prog X.w) A (call (.builtin "len") [.ref a]) Q E s:=by
 obtain⟨z,hd,vs,rel,dd⟩:=lU I.hok e;refine call_len_dict hd dd (by rw[<-rel.length];rw[sizeLine_eq]at z;omega) ?_;rw[<-rel.length];exact h _ _ (I.tok _)
end
theorem NI{X:Cx}{OS:List (Addr×Obj)}{σ:St}{H:Hp}{s:Shared}{a:Addr}{y:V}{o:Option V}(I:ag X OS σ H s)(g:kA H a y o):s.TypeIs (.ref a) "dict":=by
 rcases g with⟨kvs,k,e,_,_⟩|⟨kvs,k,b,e,_,_,_⟩
 ·obtain⟨_,_,vs,_,dd⟩:=lU I.hok e;exact dd.typeIs
 ·obtain⟨_,_,xs,_,dd⟩:=nY I.hok e;exact dd.typeIs
def lH(kvs more:List (ba×V)):List (ba×V):=more.foldl (λacc kv=>iS acc kv.1 kv.2) kvs
theorem CJ:∀(more kvs:List (ba×V)),(lH kvs more).length<=kvs.length+more.length
 |[],kvs=>by show kvs.length<=kvs.length+0;omega
 |p::r,kvs=>by
  have h1:=CJ r (iS kvs p.1 p.2);have h2:=M9 kvs p.1 p.2;show(lH (iS kvs p.1 p.2) r).length<=_;rw[gc];omega
structure M2 (X:Cx) (o:Expr) (m:Str) (OY:Pos) (e f:Expr) (OW:Pos):Prop where
 base:attributeBase o m X.env (eval o X.env)=eval o X.env
 few:((backTo OW (starEach [e,f] X.env)).all (λx=>!x.1)&&(backToKw OW (keywordEach [] X.env)).all (λx=>x.1.isSome)
  && decide (([e,f]:List Expr).length+([]:List Keyword).length+(if ([]:List Keyword).isEmpty then 0 else 1)<30))=true
 line:(OY.endLine==OW.line)=true
 trees:backTo OW (starEach [e,f] X.env)=[(false,eval e X.env),(false,eval f X.env)]
def DD(H:Hp)(a:Addr):Prop:=(∃kvs,Rd H a (.dK kvs))\/∃kvs,Rd H a (.dT kvs)
theorem GR{X:Cx}{OS:List (Addr×Obj)}{σ:St}{H:Hp}{s:Shared}{a:Addr}(I:ag X OS σ H s)(d:DD H a):
  s.TypeIs (.ref a) "dict"/\(∀b,Value.ref a=.ref b->∃ob,s.heap.get? b=some ob/\ob.dict=none)/\(a==sysModules)=false:=by
 rcases d with⟨kvs,e⟩|⟨kvs,e⟩
 ·obtain⟨_,hd,vs,_,dd⟩:=lU I.hok e;refine⟨dd.typeIs,λb q=>?_,hd⟩;cases q;obtain⟨ob,_,_,h1,h2,_⟩:=dd;exact⟨ob,h1,h2.2.1⟩
 ·obtain⟨_,hd,xs,_,dd⟩:=nY I.hok e;refine⟨dd.typeIs,λb q=>?_,hd⟩;cases q;obtain⟨ob,_,_,h1,h2,_⟩:=dd;exact⟨ob,h1,h2.2.1⟩
section
variable{X:Cx}{OS:List (Addr×Obj)}{σ:St}{H:Hp}{s:Shared}{a:Addr}{y d:V}{u r:Value}{o:Option V}{A:Around}{E:Value->Shared->Prop}
theorem GF{Q:Value->Shared->Prop}(hu:A.units+1<cLine)(I:ag X OS σ H s)(g:kA H a y o)(ry:ah y u)(rd:ah d r)(h:∀w' s',ag X OS σ H s'->ah (o.getD d) w'->Q w' s'):
  wpAny (model X.prog X.w) A (call (.builtin "dict.get") [.ref a,u,r]) Q E s:=by
 rcases g with⟨kvs,k,e,ey,l⟩|⟨kvs,k,b,e,ey,eb,l⟩
 ·subst ey;obtain⟨z,hd,vs,rel,dd⟩:=lU I.hok e;refine call_meetsIn PySem.F.slot_dict_get dd.typeIs PySem.F.entry_dict_get (PySem.F.args_dict_get_3 _ _ _) (meets_dict_get_default (cA X.prog X.w) a (nW ry) hd r) ⟨_,dd.mapOf,h _ _ (I.tok _) ?_⟩;rw[l];exact(rel.val k).getD rd
 ·subst ey;cases (show u=Value.ref b from ry);obtain⟨z,hd,xs,rel,dd⟩:=nY I.hok e;refine call_meetsIn PySem.F.slot_dict_get dd.typeIs PySem.F.entry_dict_get (PySem.F.args_dict_get_3 _ _ _) (meetsH_dict_get_default (tupleKind (cA X.prog X.w)) a b hd r) ⟨tupleKind_room_in1 hu,k,xs,pY I.hok eb,dd,h _ _ (I.tok _) ?_⟩;rw[l];exact(rel.val k).getD rd
end
def Ha(td ty tx:TE):TE:=λσ H Q=>td σ H λx H1=>∃a,x=.ref a/\DD H1 a/\ty σ H1 λy H2=>tx σ H2 λz H3=>∃o,kA H3 a y o/\Q (o.getD z) H3
section
variable{X:Cx}{o e f:Expr}{OY OW:Pos}{td ty tx:TE}
theorem J4(hu:X.A.units+1<cLine)(ho:PE X o td)(he:PE X e ty)(hf:PE X f tx)(m:M2 X o "get" OY e f OW):PE X (.Call (.Attribute o "get" OY) [e,f] [] OW) (Ha td ty tx):=by
 intro OS s σ H Q I h;refine wpAny_Call_method m.base m.few m.line PySem.F.plainAttrs_dict PySem.F.slot_dict_get PySem.F.type_dict_get (bq (ho OS s σ H _ I h) λu s1 ⟨x,H1,I1,rx,a,ex,d,q1⟩=>?_);subst ex;obtain rfl:u=Value.ref a:=rx;obtain⟨t1,t2,_⟩:=GR I1 d;refine⟨t1,t2,?_⟩;rw[m.trees]
 refine Calls.callWith_builtin rfl (Calls.evalArgs_plain (Calls.spliced_cons (bq (he OS s1 σ H1 _ I1 q1) λiv s2 ⟨y,H2,I2,ry,q2⟩=>
  Calls.spliced_cons (bq (hf OS s2 σ H2 _ I2 q2) λfv s3 ⟨z,H3,I3,rz,ov,g,q3⟩=>Calls.spliced_nil ?_))))
 exact GF hu I3 g ry rz λw' s4 I4 rw'=>⟨_,H3,I4,rw',q3⟩
end
section
variable{κ:Type}[DecidableEq κ]
theorem J_{kvs:List (κ×V)}{k:κ}{v:V}(h:eR kvs k=some v):k∈kvs.map (·.1):=by
 have q:(kvs.any λkv=>decide (kv.1=k))=true:=by
  rw[vY,h]
  all_goals rfl
 obtain⟨p,hp,e⟩:=qX_.mp q;exact qd_.mpr ⟨p,hp,ip e⟩
end
end L2
namespace L2
open PySem PySem.Spec PyProof.Rows
def qr(H:Hp)(a:Addr)(ob:Obj)(kvs:List (ba×V)):Prop:=H a=some (.frz ob (.dK kvs))
theorem pX{kvs:List (ba×V)}{vs:List (ba×Value)}(r:KV kvs vs):kvs.length=vs.length:=Paired.length r
theorem ye:∀{kvs:List (ba×V)}{vs:List (ba×Value)}{i:Nat}{k:ba}{v:V},KV kvs vs->kvs[i]?=some (k,v)->∃u,vs[i]?=some (k,u)/\ah v u
 |_,_,0,_,_,.cons (b:=b) r _,h=>by
  cases h;obtain⟨e,r⟩:=r;exact⟨b.2,by show some b=_;rw[show b=(b.1,b.2) from rfl,<-e],r⟩
 |_,_,i+1,_,_,.cons _ rs,h=>ye (i:=i) rs (by simpa using h)
theorem Jk{k:ba}{u:Value}(h:kP k u=true):ah (kV k) u:=by
 rcases hZ h with⟨i,t,rfl,rfl⟩|⟨x,t,rfl,rfl⟩
 ·exact⟨t,rfl⟩
 ·exact⟨t,rfl⟩
section
variable{X:Cx}{OS:List (Addr×Obj)}{σ:St}{H:Hp}{s:Shared}{a:Addr}{ob:Obj}{kvs:List (ba×V)}
theorem pN(I:ag X OS σ H s)(h:qr H a ob kvs):s.heap.get? a=some ob/\(a==sysModules)=false/\kvs.length<=sizeLine/\∃vs es ep,KV kvs vs/\s.heap.DictAt (cA X.prog X.w) a vs ep/\ob.data=.dict es ep:=by
 obtain⟨e,hl,hs,vs,r,o,es,ep,e',x1,x2,x3⟩:=(show ay X.prog X.w H s.heap a (.frz ob (.dK kvs)) from I.hok a _ h)
 rw[e]at e';cases e';exact⟨e,hs,hl,vs,es,ep,r,⟨ob,es,e,x1,x2,x3⟩,x2⟩
end
def wx(a:Addr)(ob:Obj)(kvs:List (ba×V)):It:=
 ⟨λi H=>qr H a ob kvs/\i<kvs.length,λi H x H'=>H'=H/\∃k v,kvs[i]?=some (k,v)/\x=kV k,λi H=>qr H a ob kvs/\kvs.length<=i⟩
theorem Ms{P:Program}{w:World}{K:W.Frag}{tg:Expr}{a it:Addr}{ob:Obj}{kvs:List (ba×V)}{es:Array DictEntry}{ep:Nat}(hep:ob.data=.dict es ep):
  jK P w K tg (wx a ob kvs) [it] it (λi h=>h.IsKeyIter it a i kvs.length ep) where
 mem:=by simp
 obj:=λi h st b hb=>by
  have e:b=it:=by simpa using hb
  subst e;obtain⟨o,e,c,d⟩:=st;exact⟨o,e,λv z=>by rw[d]at z;cases z⟩
 keep:=λi h h' st k=>st.at λo e=>k it (by simp) o e
 item:=by
  intro X hP hw hK hc i OS s σ H E I hf st hg;subst hP hw hK;obtain⟨hz,hi⟩:=hg;obtain⟨e,hs,hl,vs,es',ep',r,dd,hd'⟩:=pN I hz;rw[hep]at hd';cases hd';obtain⟨f0,f1,f2,f3,f4,f5⟩:=hf it (by simp);obtain⟨⟨k,v⟩,hx⟩:∃p,kvs[i]?=some p:=⟨kvs[i],by simp[hi]⟩
  obtain⟨u,hu,ru⟩:=ye r hx;have st':s.heap.IsKeyIter it a i vs.length ep:=by rw[<-pX r];exact st
  refine wpAny_pyNext_dict_item st' dd hu λkey h' hkey hit' sb=>?_
  have I1:ag X OS σ H {s with heap:=h'}:=I.turned (t':=s.toks) (λb o hb e=>(sb.2 b hb).trans e) f0 f1 f3 f4 f5;obtain⟨o,e,c,d⟩:=id hit';exact⟨key,rfl,nX (s:={s with heap:=h'}) e c d (by decide) ⟨kV k,H,I1,Jk hkey,⟨rfl,k,v,hx,rfl⟩,by rw[pX r];exact hit',λb hb=>(hf b hb).1⟩⟩
 done:=by
  intro X hP hw hK hc i OS s σ H E I hf st hg;subst hP hw hK;obtain⟨hz,hi⟩:=hg;obtain⟨e,hs,hl,vs,es',ep',r,dd,hd'⟩:=pN I hz;rw[hep]at hd';cases hd';obtain⟨f0,f1,f2,f3,f4,f5⟩:=hf it (by simp);have st':s.heap.IsKeyIter it a i vs.length ep:=by rw[<-pX r];exact st
  have hn:vs[i]?=none:=nj (by rw[<-pX r];exact hi);exact wpAny_pyNext_dict_end (I.ok.hd hc) st' dd hn λh' eb=>⟨rfl,I.turned (t':=s.toks) (λb o hb e=>eb b o hb e) f0 f1 f3 f4 f5⟩
 self:=λ_ _ _ _ _ st h=>wpAny_pyIter_keyiter st h
theorem Nq{prog:Program}{w:World}:∀{kvs:List (ba×Value)}{us:List Str}{acc:Array Value},kvs.map (·.1)=us.map Sum.inr ->
  ItemsOf (λi v=>∃k x,kvs[i]?=some (k,x)/\(cA prog w).is k v=true) acc kvs.length->StrsAre acc.toList us:=by
 intro kvs us acc hk h;obtain⟨hn,hp⟩:=h;have key:∀(us:List Str) (l:List Value) (kvs:List (ba×Value)),kvs.map (·.1)=us.map Sum.inr->l.length=kvs.length->(∀(j:Nat) (v:Value),l[j]?=some v->∃k x,kvs[j]?=some (k,x)/\(cA prog w).is k v=true)->StrsAre l us:=by
  intro us
  induction us with
  |nil=>
   intro l kvs hk hl _;have:kvs=[]:=by simpa using hk
   subst this;have:l=[]:=jk hl;subst this;exact .nil
  |cons y ys ih=>
   intro l kvs hk hl hp;cases kvs with
   |nil=>simp at hk
   |cons p kvs=>
    cases l with
    |nil=>simp at hl
    |cons v l=>
     simp only[e6,List.cons.injEq]at hk;obtain⟨k,x,e,q⟩:=hp 0 v rfl;have e:p=(k,x):=by simpa using e
     subst e;have hk1:k=Sum.inr y:=hk.1;subst hk1;rcases hZ (show kP (Sum.inr y) v=true from q) with⟨i,t,z,_⟩|⟨z,t,e1,rfl⟩
     ·cases z
     ·cases e1;exact .cons _ _ (ih l kvs hk.2 (by simpa using hl) λj v hj=>hp (j+1) v hj)
 refine key us acc.toList kvs hk (by simpa using hn) λj v hj=>hp j v (by simpa using hj)
section
variable{prog:Program}{w:World}{A:Around}{E:Value->Shared->Prop}{s:Shared}{a:Addr}{us:List Str}
theorem Ib:isSubtype (.type "dict") (.type "dict")=pure true:=by rw[isSubtype_type];kernel_rfl
theorem Lr{Q:Bool->Shared->Prop}(ht:s.TypeIs (.ref a) "dict")(h:Q false s):wpAny (model prog w) A (Builtin.List.listLengthHint (.ref a)) Q E s:=by
 unfold Builtin.List.listLengthHint;refine af (wpAny_specialOf ht PySem.F.slot_dict_len.lookup ?_);have e1:splitId "dict.__len__"=some ("dict","__len__"):=by decide +kernel
 dsimp only;rw[e1];dsimp only;refine af (wpAny_isInstance ht Ib ?_);simp only[Bool.not_true,n6,if_false];refine wpAny_ite ?_;rw[if_pos (by decide +kernel)];refine af (wpAny_typeOf ht ?_);exact aj h
theorem M4{kvs:List (ba×Value)}{ep:Nat}{Q:List Value->Shared->Prop}(hh:A.handled=none)(hsm:(a==sysModules)=false)(S:s.heap.DictAt (cA prog w) a kvs ep)(hks:kvs.map (·.1)=us.map Sum.inr)(hl:us.length<=sizeLine)
  (hQ:∀h' d tk (acc:List Value) vs,StrsAre acc vs->vs.Perm us->s.heap.objs.size<h'.objs.size->(∀b o,s.heap.get? b=some o->h'.get? b=some o)->Q acc {s with heap:=h',drawn:=d,toks:=tk}):
  wpAny (model prog w) A (collect (.ref a)) Q E s:=by
 have alt:a<s.heap.objs.size:=S.lt_size;have hkl:kvs.length=us.length:=by have:=congrArg List.length hks;simpa using this
 unfold collect;refine af (wpAny_runValue (i6 F.entry_proto_collect ?_));rw[jd F.plain_proto_collect _];show wpAny _ A.in1 (newList [] >>= λl=>again (.builtin "list.__iadd__" ⟨[l,.ref a],[]⟩)) _ _ s;refine af (e9 ?_ (by size_fits));refine aj ⟨plainId_quiet F.plain_list_iadd _,i6 F.entry_list_iadd ?_⟩;rw[jd F.plain_list_iadd _];show wpAny _ A.in1 (Builtin.List.listExtendWith (.ref s.heap.objs.size) (.ref a) (.ref s.heap.objs.size)) _ _ _;unfold Builtin.List.listExtendWith;have S1:=S.push {cls:=.type "list",data:=.seq ([]:List Value).toArray};have ht:Shared.TypeIs {s with heap:=s.heap.push {cls:=.type "list",data:=.seq ([]:List Value).toArray}} (.ref a) "dict":=S1.dictOf.typeIs;refine af (wpAny_typeOf ht ?_);have h1:Builtin.List.listSameRef (.ref s.heap.objs.size) (.ref a)=false:=by simp[Builtin.List.listSameRef];exact jc alt
 have h2:(Value.type "dict"==Value.type "list")=false:=by decide
 have h3:(Value.type "dict"==Value.type "tuple")=false:=by decide
 simp only[h1,h2,h3,kx,n6,if_false];refine af (wpAny_pyIter_dict hsm S1 ?_);generalize hh':((s.heap.push {cls:=.type "list",data:=.seq ([]:List Value).toArray}).push {cls:=.type "dict_keyiterator",data:=.fields #[.ref a,.int 0 0,.int kvs.length 0,.int ep 0]})=h';have sz1:(s.heap.push {cls:=.type "list",data:=.seq ([]:List Value).toArray}).objs.size=s.heap.objs.size+1:=i3 ..;have kp:∀b o,(s.heap.push {cls:=.type "list",data:=.seq ([]:List Value).toArray}).get? b=some o->h'.get? b=some o:=λb o e=>by rw[<-hh'];exact bh _ e
 have ht':Shared.TypeIs {s with heap:=h'} (.ref a) "dict":=by
  obtain⟨o,e,c⟩:=ht;exact⟨o,kp _ _ e,c⟩
 have st0:h'.IsKeyIter (s.heap.objs.size+1) a 0 kvs.length ep/\h'.DictAt (cA prog w) a kvs ep:=by
  refine⟨⟨{cls:=.type "dict_keyiterator",data:=.fields #[.ref a,.int 0 0,.int kvs.length 0,.int ep 0]},?_,rfl,rfl⟩,S1.keep kp⟩;rw[<-hh',<-sz1];exact ck _ rfl
 rw[sz1];refine af (ic (Lr ht' ?_));have hA:A.in1.handled=none:=by simp[hh]
 have W:=(Walks.dictKeys (prog:=prog) (w:=w) (A:=A.in1) (knd:=cA prog w) hA (s.heap.objs.size+1) a (λz=>absurd alt (by rw[z];exact qy2_.mpr (jl _))) kvs ep).toS;refine wpAny_ite ?_;rw[if_pos (by decide +kernel)];refine af (wpAny_rule ?_);have g0:h'.get? s.heap.objs.size=some {cls:=.type "list",data:=.seq ([]:List Value).toArray}:=kp _ _ (ck _ rfl);have nf:s.heap.objs.size∉[s.heap.objs.size+1,a]:=λm=>by
  simp only[qe_,b_,or_false]at m;rcases m with z|z
  ·omega
  ·rw[<-z]at alt;exact g5 _ alt
 refine af ?_;show wpAny _ A.in1 (updateSeq s.heap.objs.size (·.push .none) >>= λ_=>updateSeq s.heap.objs.size (·.pop)) _ _ _;refine af (wpAny_updateSeq g0 rfl ?_);have g1:=fo (Obj.mapSeq (·.push Value.none)) g0 rfl;refine wpAny_updateSeq g1 rfl ?_;have g2:=fo (Obj.mapSeq (·.pop)) g1 rfl;have oth:∀b o,b≠s.heap.objs.size->h'.get? b=some o->((h'.update s.heap.objs.size (Obj.mapSeq (·.push Value.none))).update s.heap.objs.size (Obj.mapSeq (·.pop))).get? b=some o:=
  λb o hb e=>(mw _ _ (Ne.symm hb)).trans ((mw _ _ (Ne.symm hb)).trans e)
 refine aj ⟨plainId_quiet F.plain_extend_loop _,codeAny_extend_loopS W (by rw[hkl];exact hl) _ nf _ kvs.length 0 _ _ _ rfl (g6 _)
  (W.frame 0 {s with heap:=h'} _ s.toks st0 (bg _) λb hb o e=>oth b o (λz=>nf (z▸hb)) e) g2 (ItemsOf.nil _) λs' acc' c' hm g' hacc=>?_⟩
 show wpAny _ A (load s.heap.objs.size >>= _) _ _ s';refine af (wpAny_load g' ?_);have hs:=Nq hks hacc;obtain⟨h'',g'',d'',tk'',os''⟩:=s';have e1:g''=s.gens:=hm.gens;have e2:os''=s.os:=hm.os;subst e1 e2;refine aj (hQ h'' d'' tk'' acc'.toList us hs (List.Perm.refl _) (bo g') λb o e=>hm.heap b o (λm=>?_) (oth b o (cz (bo e)) (kp b o (bh _ e))));have lt:=bo e;simp only[qe_,b_,or_false]at m;rcases m with m|m
 ·rw[m]at lt;exact g5 _ lt
 ·rw[m]at lt;exact absurd lt (qy2_.mpr (jl _))
theorem M0{kvs:List (ba×Value)}{ep:Nat}{Q:Value->Shared->Prop}(hh:A.handled=none)(hsm:(a==sysModules)=false)(S:s.heap.DictAt (cA prog w) a kvs ep)(hks:kvs.map (·.1)=us.map Sum.inr)(h64:us.length<64)
  (h:∀h' d tk (l:Addr) (out:List Value) (ss:List Str) (e:Nat),StrsAre out ss->ss.Perm us->sortedS ss=true->h'.get? l=some (seqObj "list" out.toArray e)->s.heap.objs.size<=l->(∀b o,s.heap.get? b=some o->h'.get? b=some o) ->
   Q (.ref l) {s with heap:=h',drawn:=d,toks:=tk}):wpAny (model prog w) A (call (.builtin "sorted") [.ref a]) Q E s:=by
 refine Calls.call_function_entry kind_sorted plain_sorted entry_sorted (args_sorted1 _) ?_;unfold Builtin.«sorted»;refine af (m:=checkCount "sorted" 1 1 _) (aj ?_);refine af (M4 (by simp[hh]) hsm S hks (ff (gz h64 (by decide))) λh1 d tk acc vs hs hp le kp=>?_);have hlen:acc.length<64:=by rw[iZ hs,hp.length_eq];exact h64
 refine af (wpAny_newList ?_ (ff (gz hlen (by decide))));have hoL:(h1.push (seqObj "list" acc.toArray 0)).get? h1.objs.size=some (seqObj "list" acc.toArray 0):=ck _ rfl;refine af (ic (jt slot_list_sort ⟨_,hoL,rfl⟩ entry_list_sort (list_sort_treeK strKind_oneLt hoL hs.keysOf (λv₁ v₂ rest e=>keyKind_strs (by rw[<-e];exact hs)) hlen λst' a1 a2=>⟨_,rfl,?_⟩) (args_list_sort _)));obtain⟨ss',b1,b2,b3⟩:=sorted_out_str hs a1 a2;obtain⟨e,he⟩:=sortedHeap_at (out:=(arrOf st').map (·.2)) hoL;refine aj ⟨_,rfl,h _ _ _ _ ((arrOf st').map (·.2)).toList ss' e b1 (b2.trans hp) b3 (by rw[sa];exact he) (ff le) λb o q=>?_⟩;have lt:=bo (kp b o q);rw[sortedHeap_old (cz lt) (by rw[i3];exact i7 lt)];exact bh _ (kp b o q)
end
section
variable{X:Cx}
def HR:List V->Hp->VK->Prop:=λxs H Q=>∃(a:Addr) (ob:Obj) (kvs:List (ba×V)) (us:List Str),xs=[.ref a]/\qr H a ob kvs/\kvs.map (·.1)=us.map Sum.inr/\us.length<64 /\
  ∀(ss:List Str) (l:Addr),ss.Perm us->sortedS ss=true->H l=none->Q (.ref l) (au H l (.lst (ss.map V.str)))
theorem xM:∀{kvs:List (ba×V)}{vs:List (ba×Value)},KV kvs vs->kvs.map (·.1)=vs.map (·.1)
 |[],_,.nil=>rfl
 |_::_,_,.cons r rs=>by rw[e6,e6,r.1,xM rs]
theorem Nk(hc:X.calm=true):aq X (.builtin "sorted") HR:=by
 intro OS s σ H xs us Q I r h;obtain⟨a,ob,kvs,uu,rfl,hz,hk,h64,q⟩:=h;obtain⟨u,rfl,rx⟩:=cI r;cases rx;obtain⟨e,hs,hl,vs,es,ep,rr,dd,hd⟩:=pN I hz;refine M0 (I.ok.hd hc) hs dd (by rw[<-xM rr];exact hk) h64 λh' d tk l out ss e hs hp hso hl le k=>?_
 refine⟨.ref l,_,(I.laid (t':=tk) (o:=.lst (ss.map V.str)) k le ?_).draw d,rfl,q ss l hp hso (I.hok.fresh le)⟩;refine⟨?_,out,e,vC hs,hl⟩;rw[ak,hp.length_eq];exact ff (gz h64 (by decide))
end
theorem Ce:∀{xs:List V}{us:List Value},xs.length=us.length->(∀(i:Nat) (x:V) (u:Value),xs[i]?=some x->us[i]?=some u->ah x u)->ai xs us
 |[],[],_,_=>.nil
 |[],_::_,h,_=>by simp at h
 |_::_,[],h,_=>by simp at h
 |x::xs,u::us,h,f=>.cons (f 0 x u rfl rfl) (Ce (by simpa using h) λi x' u' a b=>f (i+1) x' u' (by simpa using a) (by simpa using b))
theorem NA{xs:List V}{acc:Array Value}{P:Nat->Value->Prop}(h:ItemsOf P acc xs.length)(f:∀(i:Nat) (x:V) (u:Value),xs[i]?=some x->P i u->ah x u):ai xs acc.toList:=
 Ce (by rw[e7];exact h.1.symm) λi x u a b=>f i x u a (h.2 i u (by rw[<-h9];exact b))
section
variable{X:Cx}
def HN:List V->Hp->VK->Prop:=λxs H Q=>∃j:Int,xs=[.int j]/\∀p,H p=none->Q (.ref p) (au H p (.rng 0 j))
theorem NG:aq X (.type "range") HN:=by
 intro OS s σ H xs us Q I r h;obtain⟨j,rfl,q⟩:=h;obtain⟨u,rfl,rx⟩:=cI r;obtain⟨t,rfl⟩:=rx;exact call_range_1 ⟨.ref _,_,I.laid (t':=s.toks+1+1) (o:=.rng 0 j) (λb o e=>bh _ e) (bg _) ⟨_,_,_,ck _ rfl⟩,rfl,q _ I.fresh⟩
def HL:List V->Hp->VK->Prop:=λxs H Q=>∃(p:Addr) (n:Nat),xs=[.ref p]/\H p=some (.rng 0 n)/\n<=sizeLine/\∀l,H l=none->Q (.ref l) (au H l (.lst ((List.range n).map λ(i:Nat)=>V.int i)))
theorem ML(hc:X.calm=true):aq X (.type "list") HL:=by
 intro OS s σ H xs us Q I r h;obtain⟨p,n,rfl,hp,hn,q⟩:=h;obtain⟨u,rfl,rx⟩:=cI r;cases rx;obtain⟨t,u,v,e⟩:=(show ay X.prog X.w H s.heap p (.rng 0 n) from I.hok p _ hp)
 have hz:n<=2 ^ 24:=by rw[sizeLine_eq]at hn;exact hn
 refine call_list_range (I.ok.hd hc) e (small_one (by decide) (by decide) (by omega) (by omega)) (n:=n) (by rw[rangeSize_one];split<;>omega) hz λh' tk acc c k hl ha=>?_
 refine⟨.ref _,_,I.laid (t':=tk) (o:=.lst ((List.range n).map λ(i:Nat)=>V.int i)) k (bg _) ⟨by simpa using hn,acc.toList,c,NA (P:=λi v=>∃t,v=.int (0+i*1) t) (by simpa using ha) ?_,by simpa using hl⟩,rfl,q _ I.fresh⟩;intro i x u hx hu;rw[gf]at hx;obtain⟨k,hk,rfl⟩:=qa1_.mp hx;have hk:i=k:=by
  have:=(qB_.mp hk)
  obtain⟨h1,h2⟩:=this;simpa using h2
 subst hk;obtain⟨t,rfl⟩:=hu;exact⟨t,by simp⟩
def Fe:List V->Hp->VK->Prop:=λxs H Q=>∃(a:Addr) (kvs:List (ba×V)),xs=[.ref a]/\Rd H a (.dK kvs)/\Q (.int kvs.length) H
theorem MJ:aq X (.builtin "len") Fe:=by
 intro OS s σ H xs us Q I r h;obtain⟨a,kvs,rfl,e,q⟩:=h;obtain⟨u,rfl,rx⟩:=cI r;cases rx;exact FD I e λt s' I'=>⟨.int kvs.length,H,I',⟨t,rfl⟩,q⟩
def D9:R2:=λx y H Q=>∃a v,x=.ref a/\kA H a y (some v)/\Q v H
theorem Jj(hu:X.A.units+1<cLine):m_ X D9:=by
 intro value slice OS s σ H x y v u Q I rx ry h hs;obtain⟨a,z,rfl,g,q⟩:=h;cases rx;have hT:=NI I g;unfold subscriptTail;refine af ?_;rw[getitemInPython_of_ne hT.not_modules];refine af (wpAny_specialOf hT PySem.F.slot_dict_getitem.lookup ?_);have fin:wpAny (model X.prog X.w) X.A (subscripted slice false (.ref a) u) (λr s₃=>wpAny (model X.prog X.w) X.A (letTemporaryGo value (.ref a) r >>= λ_=>pure r) (EP X OS σ Q) X.xe s₃) X.xe s:=by
  rw[hs];exact wpAny_operating (KP hu I g ry λw' s3 I3 rw'=>af (wpAny_letTemporaryGo (aj ⟨z,H,I3,rw',q⟩)))
 first
  |exact aj (af fin)
  |exact af (aj (af fin))
  |exact af fin
def D8:R2:=λy x H Q=>∃a o,x=.ref a/\kA H a y o/\Q (.bl o.isSome) H
theorem L7(hu:X.A.units+1<cLine):cn X (compareOp .In) D8:=by
 intro OS s σ H y x u v Q I ry rx h;obtain⟨a,o,rfl,g,q⟩:=h;cases rx;exact DN hu I g ry λs' I'=>⟨.bl _,H,I',rfl,q⟩
end
def ie:HO->Bool
 |.lst _=>true
 |.dK _=>true
 |_=>false
def bu(H H1 H2:Hp):Prop:=∀b,(H b=none/\∃o ob,ie o=true/\H1 b=some o/\H2 b=some (.frz ob o))\/(¬ (H b=none/\∃o,ie o=true/\H1 b=some o)/\H2 b=H1 b)
section
variable{H H1 H2:Hp}{b:Addr}{o:HO}
theorem bu.keep(f:bu H H1 H2)(h:H1 b=some o)(n:ie o=false):H2 b=some o:=by
 rcases f b with⟨_,o',ob,z,e,_⟩|⟨_,z⟩
 ·rw[h]at e;cases e;rw[n]at z;exact absurd z cq
 ·rw[z];exact h
theorem bu.fz(f:bu H H1 H2)(hn:H b=none)(h:H1 b=some o)(n:ie o=true):∃ob,H2 b=some (.frz ob o):=by
 rcases f b with⟨_,o',ob,z,e,e2⟩|⟨z,_⟩
 ·rw[h]at e;cases e;exact⟨ob,e2⟩
 ·exact absurd ⟨hn,o,n,h⟩ z
theorem bu.none_of(f:bu H H1 H2)(h:H1 b=none):H2 b=none:=by
 rcases f b with⟨_,o',ob,z,e,e2⟩|⟨_,z⟩
 ·rw[h]at e;cases e
 ·rw[z];exact h
end
theorem dq.imp{P:Program}{w:World}{K:W.Frag}{mg:Str->Option Value}{base:Heap}{k:Nat}{x:Str}{ps:List Str}{sp sp':Sp}(G:dq P w K mg base k x ps sp)(h:∀vs H Q E,sp' vs H Q E->sp vs H Q E):dq P w K mg base k x ps sp':=by
 obtain⟨f,fd,F,b,m,kp⟩:=G;exact⟨f,fd,F.imp h,b,m,kp⟩
def zf:HO->Bool
 |.frz _ _=>true
 |.tup _=>true
 |_=>false
def HS(H H':Hp):Prop:=∀b o,zf o=true->H b=some o->H' b=some o
section
variable{H H1 H2:Hp}{a p c:Addr}{o:HO}
theorem HS.refl(H:Hp):HS H H:=λ_ _ _ e=>e
theorem HS.trans(x:HS H H1)(y:HS H1 H2):HS H H2:=λb o h e=>y b o h (x b o h e)
theorem aw.hs(s:aw H H1):HS H H1:=λb o _ e=>s b o e
theorem bu.hs(f:bu H H1 H2):HS H1 H2:=λb o h e=>f.keep e (by cases o<;>first|rfl|exact absurd h cq)
theorem jR(h:H a=none):HS H (au H a o):=λb u _ e=>by rw[bR (eI e h)];exact e
theorem iP{u:HO}(h:H a=some u)(n:zf u=false):HS H (au H a o):=λb v hv e=>by
 by_cases z:b=a
 ·subst z;rw[h]at e;cases e;rw[n]at hv;exact absurd hv cq
 ·rw[bR z];exact e
end
theorem Nn:typeLookup (.type "list") "keys"=pure none:=by rw[typeLookup_type,builtinLookup_eq_fast];kernel_rfl
section
variable{prog:Program}{w:World}{A:Around}{E:Value->Shared->Prop}{s:Shared}
theorem ME{a:Addr}{xs:Array Value}{n:Nat}{Q:Option Value->Shared->Prop}(hA:A.handled=none)(hx:s.heap.get? a=some {cls:=.type "list",data:=.seq xs n})
  (h:∀h' tk,(∀b o,s.heap.get? b=some o->h'.get? b=some o)->Q none {s with heap:=h',toks:=tk}):wpAny (model prog w) A (getAttr? (.ref a) "keys") Q E s:=by
 obtain⟨hp,g,d,tk,os⟩:=s;have ty:∀t',(⟨hp,g,d,t',os⟩:Shared).TypeIs (.ref a) "list":=λ_=>⟨_,hx,rfl⟩
 have e1:=sub_AttributeError;have e2:=F.slot_list_getattribute.lookup;have e3:=F.slot_list_getattribute.bind (.ref a);have e4:=am_list_getattr_none;unfold getAttr? getAttrBy? getAttrBy
 repeat (any_goals (first|assumption|exact ty _|((with_reducible show wpAny _ _ (call (Value.builtin "list.__getattribute__") _ _) _ _ _);refine call_meets F.slot_list_getattribute (ty _) am_entry_list_getattribute (F.args_list_getattribute_2 _ _) (meets_getattribute_miss_list a xs n #[] "keys" _ Nn (by decide +kernel)) ⟨hx,hA,λh' tk' e ne=>?_⟩)|wp_step))
 obtain⟨t',u',he⟩:=ne.there;show wpAny _ _ (getattributeRaised _ _ _ _ _ _ _) _ _ _;unfold getattributeRaised
 repeat (any_goals (first|assumption|wp_step))
 all_goals exact h _ _ ne.keeps
theorem x8:entryFor table "dict.update.loop"=some Builtin.«dict.update.loop»:=entryFor_of_tree (by kernel_rfl)
theorem tD:plainId "dict.update.loop"=true:=by decide +kernel
theorem vV{h h':Heap}{a:Addr}{kvs:List (ba×Value)}(hd:h.DictOf (cA prog w) a kvs)(k:∀o,h.get? a=some o->h'.get? a=some o):h'.DictOf (cA prog w) a kvs:=by
 obtain⟨o,es,ep,e,r⟩:=hd;exact⟨o,es,ep,k o e,r⟩
def ig(prog:Program)(w:World)(h:Heap)(its:Array Value)(ps:List (ba×Value)):Prop:=
 its.size=ps.length/\∀(j:Nat) (k:ba) (v:Value),ps[j]?=some (k,v)->∃t key,its[j]?=some (.ref t)/\IsTup h t #[key,v]/\(cA prog w).is k key=true
theorem ig.keep{h h':Heap}{its:Array Value}{ps:List (ba×Value)}(x:ig prog w h its ps)(k:∀t o,h.get? t=some o->o.cls=.type "tuple"->h'.get? t=some o):ig prog w h' its ps:=
 ⟨x.1,λj kk v e=>by
  obtain⟨t,key,a,⟨o,b,c,d⟩,f⟩:=x.2 j kk v e
  exact⟨t,key,a,⟨o,k t o b c,c,d⟩,f⟩⟩
theorem L8{R:Result->Shared->Prop}{it l dd:Addr}{its:Array Value}{ps:List (ba×Value)}(hh:A.handled=none)(hli:l≠it)(hdi:dd≠it)(hdl:dd≠l)(hsz:ps.length<=1000):
  ∀(m i:Nat) (s:Shared) (kvs:List (ba×Value)) (tk:Tok),ps.length=i+m->s.heap.IsListIter it l i/\s.heap.IsList l its->ig prog w s.heap its ps->s.heap.DictOf (cA prog w) dd kvs->kvs.length<=i ->
   (∀h' tk',h'.DictOf (cA prog w) dd ((ps.drop i).foldl (λacc kv=>stored acc kv.1 kv.2) kvs)->(∀b o,b≠it->b≠dd->s.heap.get? b=some o->h'.get? b=some o)->R (.ok (.ret .none)) {s with heap:=h',toks:=tk'}) ->
   codeAny (model prog w) A (.builtin "dict.update.loop" ⟨[.ref dd,.ref it,.int i tk,.none],[]⟩) R s:=by
 have W:=Walks.list (prog:=prog) (w:=w) (A:=A.in1) (by simp[hh]) it l hli its;intro m
 induction m with
 |zero=>
  intro i s kvs tk hm st ht hd hl hR;refine i6 x8 ?_;rw[jd tD _];unfold Builtin.«dict.update.loop»;refine af (W.done s _ _ (by rw[ht.1,hm];exact st) λh' tk' k=>?_);refine af (aj (aj ?_));have e:ps.drop i=[]:=List.drop_of_length_le (by omega);rw[e]at hR;refine hR h' tk' (vV hd λo e=>k dd o (by simp[hdi]) e) λb o n1 _ e=>k b o (by simp[n1]) e
 |succ m ih=>
  intro i s kvs tk hm st ht hd hl hR;have hi:i<ps.length:=by omega
  have hp:ps[i]?=some (ps[i].1,ps[i].2):=b9 hi;obtain⟨t,key,e1,htt,hkey⟩:=ht.2 i _ _ hp;refine i6 x8 ?_;rw[jd tD _];unfold Builtin.«dict.update.loop»;refine af (W.item i s _ _ (by rw[ht.1];exact hi) st λv h' tk' hv st' k=>?_);have hv:v=.ref t:=by rw[e1]at hv;exact(Option.some.inj hv).symm
  subst hv;have nti:∀b o,s.heap.get? b=some o->o.cls=.type "tuple"->b≠it:=λb o e c z=>by
   obtain⟨o',e',c',_⟩:=st.1;rw[<-z,e]at e';cases e';rw[c]at c';exact absurd c' (by decide)
  have ntd:∀b o,s.heap.get? b=some o->o.cls=.type "tuple"->b≠dd:=λb o e c z=>by
   obtain⟨o',e',c'⟩:=hd.typeIs;rw[<-z,e]at e';cases e';rw[c]at c';exact absurd c' (by decide)
  obtain⟨ot,et,ct,nt,dt⟩:=htt;have et':=k t ot (by simp[nti t ot et ct]) et;have hd':h'.DictOf (cA prog w) dd kvs:=vV hd λo e=>k dd o (by simp[hdi]) e
  have ty:Shared.TypeIs {s with heap:=h',toks:=tk'} (.ref t) "tuple":=⟨ot,et',ct⟩
  refine af (ic ?_);refine af (wpAny_tryCatch ?_);unfold Builtin.Dict.pairItems;refine af (wpAny_typeOf ty ?_);rw[if_pos (by decide)];refine af (wpAny_seqItems et' dt (aj ?_));refine ic (wpAny_dictSet_pairs hkey hd' (λh2 hd2 sb=>?_) (by rw[sizeLine_eq];omega));refine aj ⟨plainId_quiet tD _,?_⟩;have l2:=sb.2 l hdl.symm;refine ih (i+1) _ (stored kvs ps[i].1 ps[i].2) _ (by omega) ?_ ?_ hd2 ?_ λh3 tk3 hd3 k3=>?_
  ·refine W.frame (i+1) h' h2 st' λb hb o e=>?_
   rcases qe_.mp hb with z|z
   ·rw[z]at e ⊢;exact(sb.2 it hdi.symm).trans e
   ·rw[qJ_.mp z]at e ⊢;exact l2.trans e
  ·exact ht.keep λb o e c=>(sb.2 b (ntd b o e c)).trans (k b o (by simp[nti b o e c]) e)
  ·unfold stored;split
   ·rw[ak];omega
   ·rw[bw];show kvs.length+1<=_;omega
  ·refine hR h3 tk3 ?_ λb o n1 n2 e=>k3 b o n1 n2 ((sb.2 b n2).trans (k b o (by simp[n1]) e))
   rw[show ps.drop i=ps[i]::ps.drop (i+1) from oi hi];exact hd3
theorem Nt{l:Addr}{its:Array Value}{nl:Nat}{ps:List (ba×Value)}{Q:Value->Shared->Prop}(hh:A.handled=none)(hl:s.heap.get? l=some {cls:=.type "list",data:=.seq its nl})(ht:ig prog w s.heap its ps)(hsz:ps.length<=1000)
  (h:∀h' tk,h'.DictOf (cA prog w) s.heap.objs.size (ps.foldl (λacc kv=>stored acc kv.1 kv.2) [])->(∀b o,s.heap.get? b=some o->h'.get? b=some o)->Q (.ref s.heap.objs.size) {s with heap:=h',toks:=tk}):
  wpAny (model prog w) A (call (.type "dict") [.ref l]) Q E s:=by
 refine callType_codes (Q₁:=λobj s₁=>obj=.ref s.heap.objs.size/\s₁={s with heap:=s.heap.push {cls:=.type "dict",data:=.dict #[]}}) F.kt_called_dict (F.kt_typeCall_dict_1 _) F.entry_dict_init (kt_code_dict_new _ ⟨rfl,rfl⟩) ?_;rintro obj s₁ ⟨rfl,rfl⟩;have new:(s.heap.push {cls:=.type "dict",data:=.dict #[]}).DictOf (cA prog w) s.heap.objs.size []:=Heap.DictOf.new s.heap;have hl1:(s.heap.push {cls:=.type "dict",data:=.dict #[]}).get? l=some {cls:=.type "list",data:=.seq its nl}:=bh _ hl;have llt:=bo hl;refine⟨new.typeIs,F.args_dict_init_2 _ _,?_⟩;unfold Builtin.«dict.__init__»;refine af ?_;unfold Builtin.Dict.selfAndRest;refine af (wpAny_notOrdered_dict new.typeIs ?_);show wpAny _ _ (pure (s.heap.objs.size,[Value.ref l])) _ _ _;refine aj ?_;show wpAny _ _ (Builtin.Dict.updateFrom "dict.__init__" s.heap.objs.size (.ref l) [] .none) _ _ _;unfold Builtin.Dict.updateFrom;refine af (wpAny_typeOf (T:="list") ⟨_,hl1,rfl⟩ ?_);rw[if_pos (by decide)];refine af (ME (by simp[hh]) hl1 λh2 tk2 k2=>?_);rw[if_pos (by decide)];refine af (wpAny_rule ?_);have hl2:=k2 _ _ hl1;have isl:Heap.IsList h2 l its:=⟨_,hl2,rfl,nl,rfl⟩
 refine af (wpAny_pyIter_list isl ?_);have sz2:s.heap.objs.size<h2.objs.size:=by
  have:(s.heap.push {cls:=.type "dict",data:=.dict #[]}).get? s.heap.objs.size=some _:=ck _ rfl;exact bo (k2 _ _ this)
 refine aj ⟨plainId_quiet tD _,L8 (A:=A.in1) (its:=its) (ps:=ps) (by simp[hh]) (cz (bo hl2)) (cz sz2) (jc llt) hsz ps.length 0 _ [] _ (by simp) ⟨⟨_,ck _ rfl,rfl,rfl⟩,isl.push _⟩ ?_ ?_ (g6 _) λh3 tk3 hd3 k3=>?_⟩
 ·exact ht.keep λb o e _=>bh _ (k2 _ _ (bh _ e))
 ·exact(vV new λo e=>k2 _ _ e).push _
 ·refine⟨rfl,h h3 tk3 hd3 λb o e=>?_⟩;have lt:=bo e;exact k3 b o (cz (gz lt sz2)) (cz lt) (bh _ (k2 _ _ (bh _ e)))
end
section
variable{X:Cx}
theorem I_:∀{ps:List (ba×V)}{qs:List (ba×Value)}{kvs:List (ba×V)}{vs:List (ba×Value)},KV ps qs->KV kvs vs->KV (lH kvs ps) (qs.foldl (λacc kv=>stored acc kv.1 kv.2) vs):=by
 intro ps qs kvs vs r;unfold KV at r
 induction r generalizing kvs vs with
 |nil=>intro q;exact q
 |@cons p q ps qs h t ih=>
  intro r0;refine ih (kvs:=iS kvs p.1 p.2) (vs:=stored vs q.1 q.2) ?_;rw[<-h.1];exact r0.put p.1 h.2
end
end L2
namespace WordM
open PySem
def sigA:Str:=" !\"#$&'()*+,-./0123456789:;<=>?@ABCDEFGHIJKLMNOPQRSTUVWXYZ[\\]^_`"
def sigB:Str:="abcdefghijklmnopqrstuvwxyz{|}~"
def d6:Str:=sigA++sigB
abbrev cs(x:Str):List Nat:=x.cps.toList
def oG:Str:="0123456789"
def pQ:Str:="ABCDEFGHIJKLMNOPQRSTUVWXYZ"
def HW:Str:=" !\"#$&'()*+,-./:;<=>?\x40[\\]^_`{|}~"
def sV:Str:="abcdefghijklmnopqrstuvwxyz"
def t_:List (Str×Str):=[("figure",oG),("great",pQ),("other",HW),("small",sV)]
def MK:List Str:=["figure","great","other","small"]
def Sg(x:Str):Prop:=∀c∈cs x,c∈cs d6
instance (x:Str):Decidable (Sg x):=by unfold Sg;infer_instance
def cR(c:Nat):Str:=if c∈cs oG then "figure" else if c∈cs pQ then "great" else if c∈cs sV then "small" else "other"
def jY(x m:Str):Bool:=(cs x).any λc=>decide (c∈cs ((L2.getS t_ m).getD ⟨#[]⟩))
def dN(x:Str):List Str:=MK.filter λm=>jY x m
theorem app(a b:Str):cs (a++b)=cs a++cs b:=by
 show(a.cps++b.cps).toList=_;simp
theorem len(a:Str):a.length=(cs a).length:=by simp[Str.length]
theorem Sg.app{a b:Str}(ha:Sg a)(hb:Sg b):Sg (a++b):=λc hc=>by
 rw[WordM.app]at hc;rcases qj_.mp hc with z|z
 ·exact ha c z
 ·exact hb c z
theorem Sg.one{x:Str}(h:Sg x){c:Nat}(hc:c∈cs x):Sg ⟨#[c]⟩:=λd hd=>by
 have:d=c:=by simpa using hd
 rw[this];exact h c hc
theorem HY:Sg ⟨#[]⟩:=λc hc=>by simp at hc
theorem Mo{x:Str}{l u:Option Int}{c:Nat}(h:c∈cs (Txt.slice x l u)):c∈cs x:=by
 unfold Txt.slice at h;split at h
 ·exact h
 ·simp only[cs,p7,qt1_]at h;obtain⟨i,_,hi⟩:=h;obtain⟨hlt,e⟩:=qi2_.mp hi;rw[<-e];simp
theorem Sg.slice{x:Str}(h:Sg x)(l u:Option Int):Sg (Txt.slice x l u):=λc hc=>h c (Mo hc)
theorem slice_len(x:Str)(l u:Option Int):(Txt.slice x l u).length<=x.length:=Txt.slice_le x l u
theorem kG{a b:Str}(h:cs a=cs b):a=b:=by
 obtain⟨a⟩:=a;obtain⟨b⟩:=b;have:a=b:=Array.toList_inj.mp h;rw[this]
theorem Mg{c:Nat}{r:Str}:Txt.slice ((⟨#[c]⟩:Str)++r) (some 1) none=r:=by
 refine kG ?_;have hl:(((⟨#[c]⟩:Str)++r).length)=1+r.length:=by rw[len,app,len];simp
 rw[PyProof.Rows.slice_from_eq (b:=((((⟨#[c]⟩:Str)++r).length:Nat):Int)) (by decide) (by omega) rfl];show((cs ((⟨#[c]⟩:Str)++r)).drop 1).take _=_;rw[app];show((c::cs r).drop 1).take _=cs r;rw[List.drop_one,List.tail_cons,nq];rw[hl,len];omega
theorem Nf{x:Str}(h:x.length=0):Txt.slice x (some 1) none=x:=by
 have h1:=slice_len x (some 1) none;refine kG ?_;have e1:cs (Txt.slice x (some 1) none)=[]:=jk (by rw[<-len];omega);have e2:cs x=[]:=jk (by rw[<-len];omega);rw[e1,e2]
theorem sG{c:Nat}(h:c∈cs d6):∀m∈MK,(c∈cs ((L2.getS t_ m).getD ⟨#[]⟩)↔cR c=m):=by
 revert c;decide +kernel
theorem sH(c:Nat):cR c∈MK:=by
 unfold cR;split
 ·decide
 ·split
  ·decide
  ·split
   ·decide
   ·decide
theorem xB:d6.length=94:=by decide +kernel
theorem Mn:(cs d6).Nodup:=by decide +kernel
theorem Mf(x:Str):(Txt.slice x (some 1) none).length+1<=(if x.length<1 then 1 else x.length):=by
 by_cases h:x.length=0
 ·rw[Nf h,if_pos (by omega)];omega
 ·rw[if_neg (by omega)];rw[PyProof.Rows.slice_from_eq (b:=(x.length:Int)) (by decide) (by omega) rfl];show(((cs x).drop 1).take _).toArray.size+1<=_;rw[cg,fu,mx,<-len];omega
theorem nodup_len{α:Type}[DecidableEq α]:∀{l m:List α},l.Nodup->(∀x∈l,x∈m)->l.length<=m.length
 |[],m,_,_=>g6 _
 |x::l,m,hn,hs=>by
  have hx:=hs x fe;have h2:=qh1_.mp hn;have ih:=nodup_len (l:=l) (m:=m.erase x) h2.2 λy hy=>by
   have hne:y≠x:=λe=>h2.1 (e▸hy)
   exact(List.mem_erase_of_ne hne).mpr (hs y (fc _ hy))
  rw[uw hx]at ih;have:0<m.length:=List.length_pos_of_mem hx;rw[gc];omega
def gG(a:Int):Nat:=(cs d6).getD (a % 94).toNat 0
theorem Mm(a:Int):gG a∈cs d6:=by
 have hl:(a % 94).toNat<(cs d6).length:=by
  rw[<-len,xB];have:=ji a (show(0:Int)<94 by decide);have:=jh a (show(94:Int)≠0 by decide);omega
 unfold gG;rw[ki,b9 hl];exact j6 hl
theorem Ml{a b:Int}(h:gG a=gG b):a % 94=b % 94:=by
 have b1:=ji a (show(0:Int)<94 by decide);have b2:=jh a (show(94:Int)≠0 by decide);have b3:=ji b (show(0:Int)<94 by decide);have b4:=jh b (show(94:Int)≠0 by decide);have hl:(cs d6).length=94:=by rw[<-len];exact xB
 unfold gG at h;rw[ki,ki,b9 (by omega),b9 (by omega)]at h;have h:(cs d6)[(a % 94).toNat]=(cs d6)[(b % 94).toNat]:=h;have hp:=qx3_.mp Mn;rcases se (a % 94).toNat (b % 94).toNat with z|z|z
 ·exact absurd h (hp _ _ (by omega) (by omega) z)
 ·omega
 ·exact absurd h.symm (hp _ _ (by omega) (by omega) z)
def gI(a:Int)(r:Str)(i:Nat):Str:=(⟨#[gG (a+i)]⟩:Str)++r
theorem Lh{a:Int}{r:Str}{i j:Nat}(hi:i<90)(hj:j<90)(h:gI a r i=gI a r j):i=j:=by
 have h1:cs (gI a r i)=cs (gI a r j):=by rw[h]
 unfold gI at h1;rw[app,app]at h1;have h2:gG (a+i)=gG (a+j):=by
  have:=List.cons.inj h1;exact this.1
 have:=Ml h2;omega
theorem Lg{a:Int}{r:Str}{ss:List Str}{j:Nat}(hj:j<80)(h:∀i,1<=i->i<=j->gI a r i∈ss):j<=ss.length:=by
 have:=nodup_len (l:=(List.range j).map λi=>gI a r (i+1)) (m:=ss) (by
  unfold List.Nodup;rw[i8];refine List.Pairwise.imp_of_mem (λ{x y} hx hy hlt e=>?_) List.pairwise_lt_range;have hx:=qy1_.mp hx;have hy:=qy1_.mp hy;have:=Lh (by omega) (by omega) e;omega) (λx hx=>by
  obtain⟨i,hi,rfl⟩:=qd_.mp hx;have:=qy1_.mp hi
  exact h (i+1) (by omega) (by omega))
 simpa using this
end WordM
namespace L2
open PySem PySem.Spec PyProof.Rows WordM
section
variable{α β:Type}{F G:α->β->Prop}
theorem fR:∀{xs:List α}{ys:List β}{i:Nat}{x:α},Paired F xs ys->xs[i]?=some x->∃y,ys[i]?=some y/\F x y
 |_,_,_,_,.nil,e=>by simp at e
 |_,_,0,_,.cons r _,e=>by simp at e;subst e;exact⟨_,rfl,r⟩
 |_,_,i+1,x,.cons _ t,e=>by
  obtain⟨u,h1,h2⟩:=fR (i:=i) (x:=x) t (by simpa using e);exact⟨u,by simpa using h1,h2⟩
end
inductive Tv where
 |leaf (v:V)
 |seq (t:Bool) (xs:List Tv)
 |dct (OT:List (Str×Tv))
def VT(S:Bool->Addr->List V->Prop)(D:Addr->List (ba×V)->Prop):Nat->V->Tv->Prop
 |0,_,_=>False
 |d+1,x,T=>(eE x=true/\T=.leaf x)\/(∃t a xs Ts,x=.ref a/\S t a xs/\T=.seq t Ts/\Ts.length<=100000/\Paired (VT S D d) xs Ts) \/
   ∃a kvs OT,x=.ref a/\D a kvs/\T=.dct OT/\(OT.map (·.1)).Nodup/\OT.length<64/\Paired (λ(kv:ba×V) (kt:Str×Tv)=>kv.1=.inr kt.1/\VT S D d kv.2 kt.2) kvs OT
section
variable{S S':Bool->Addr->List V->Prop}{D D':Addr->List (ba×V)->Prop}
theorem VT.mono(hs:∀t a xs,S t a xs->S' t a xs)(hd:∀a kvs,D a kvs->D' a kvs):∀{d:Nat}{x:V}{T:Tv},VT S D d x T->VT S' D' d x T
 |0,_,_,h=>False.elim h
 |d+1,x,T,h=>by
  rcases h with h|⟨t,a,xs,Ts,h1,h2,h3,hz,h4⟩|⟨a,kvs,OT,h1,h2,h3,h4,h5,h6⟩
  ·exact .inl h
  ·exact .inr (.inl ⟨t,a,xs,Ts,h1,hs _ _ _ h2,h3,hz,Paired.mapP h4 λ_ _ q=>VT.mono hs hd q⟩)
  ·exact .inr (.inr ⟨a,kvs,OT,h1,hd _ _ h2,h3,h4,h5,Paired.mapP h6 λ_ _ q=>⟨q.1,VT.mono hs hd q.2⟩⟩)
theorem VT.more:∀{d:Nat}{x:V}{T:Tv},VT S D d x T->VT S D (d+1) x T
 |0,_,_,h=>False.elim h
 |d+1,x,T,h=>by
  rcases h with h|⟨t,a,xs,Ts,h1,h2,h3,hz,h4⟩|⟨a,kvs,OT,h1,h2,h3,h4,h5,h6⟩
  ·exact .inl h
  ·exact .inr (.inl ⟨t,a,xs,Ts,h1,h2,h3,hz,Paired.mapP h4 λ_ _ q=>VT.more q⟩)
  ·exact .inr (.inr ⟨a,kvs,OT,h1,h2,h3,h4,h5,Paired.mapP h6 λ_ _ q=>⟨q.1,VT.more q.2⟩⟩)
theorem VT.le{d e:Nat}(h:d<=e){x:V}{T:Tv}(q:VT S D d x T):VT S D e x T:=by
 obtain⟨k,rfl⟩:=Nat.le.dest h;clear h
 induction k with
 |zero=>exact q
 |succ k ih=>exact VT.more ih
end
def m9(H:Hp)(a:Addr)(kvs:List (ba×V)):Prop:=∃ob,qr H a ob kvs
section
variable{K:W.Frag}{H H':Hp}{d:Nat}{x:V}{T:Tv}
theorem m9.hs(e:HS H H'){a:Addr}{kvs:List (ba×V)}(h:m9 H a kvs):m9 H' a kvs:=by
 obtain⟨ob,h⟩:=h;exact⟨ob,e _ _ rfl h⟩
end
theorem Mc:∀(p:Str) (l:List Str),risingS p l=true->∀x∈l,(cs x<cs p)->False:=by
 intro p l
 induction l generalizing p with
 |nil=>intro _ x hx;simp at hx
 |cons y l ih=>
  intro h x hx hlt;have h:(!PySem.Spec.ltCps y.cps.toList p.cps.toList&&risingS y l)=true:=h;rw[fb]at h;have hy:¬ (cs y<cs p):=by
   have:=h.1;rw[ltCps_eq]at this;simpa using this
  rcases qe_.mp hx with z|z
  ·subst z;exact hy hlt
  ·have hxy:¬ (cs x<cs y):=λq=>ih y h.2 x z q
   have h1:cs p<=cs y:=qk1_.mp hy;have h2:cs y<=cs x:=qk1_.mp hxy;exact absurd hlt (qk1_.mpr (p_ h1 h2))
theorem qY:∀(l:List Str),sortedS l=true->l.Pairwise λa b=>cs a<=cs b
 |[],_=>.nil
 |x::l,h=>by
  have h:risingS x l=true:=h;refine .cons (λy hy=>qk1_.mp λz=>Mc x l h y hy z) (qY l ?_);cases l with
  |nil=>rfl
  |cons y l=>
   have h:(!PySem.Spec.ltCps y.cps.toList x.cps.toList&&risingS y l)=true:=h;rw[fb]at h;exact h.2
open Classical in
noncomputable def aZ(us:List Str):List Str:=if h:∃ss:List Str,ss.Perm us/\sortedS ss=true then h.choose else us
theorem dM(us:List Str):(aZ us).Perm us:=by
 unfold aZ;split
 ·rename_i h;exact h.choose_spec.1
 ·exact .refl _
theorem mK{us ss:List Str}(h1:ss.Perm us)(h2:sortedS ss=true):ss=aZ us:=by
 have ex:∃ss:List Str,ss.Perm us/\sortedS ss=true:=⟨ss,h1,h2⟩
 have e:aZ us=ex.choose:=by unfold aZ;rw[dif_pos ex]
 rw[e];exact List.Perm.eq_of_pairwise (λa b _ _ h1 h2=>kG (List.le_antisymm h1 h2)) (qY _ h2) (qY _ ex.choose_spec.2) (h1.trans ex.choose_spec.1.symm)
def dA(OT:List (Str×Tv))(k:Str):Option Tv:=(OT.find? λkt=>decide (kt.1=k)).map (·.2)
section
variable{S:Bool->Addr->List V->Prop}{D:Addr->List (ba×V)->Prop}{d:Nat}
theorem sJ{kvs:List (ba×V)}{OT:List (Str×Tv)}{R:V->Tv->Prop}(h:Paired (λ(kv:ba×V) (kt:Str×Tv)=>kv.1=.inr kt.1/\R kv.2 kt.2) kvs OT)(k:Str):
  (dA OT k=none/\eR kvs (.inr k)=none)\/∃U v,dA OT k=some U/\eR kvs (.inr k)=some v/\R v U:=by
 induction h with
 |nil=>exact .inl ⟨rfl,rfl⟩
 |@cons kv kt l1 l2 h _ ih=>
  obtain⟨e,r⟩:=h;by_cases z:kt.1=k
  ·refine .inr ⟨kt.2,kv.2,?_,rP (by rw[e,z]),r⟩;unfold dA;rw[d7,gp z];rfl
  ·have e2:dA (kt::l2) k=dA l2 k:=by
    unfold dA;rw[d7,iq z]
   have e3:eR (kv::l1) (.inr k)=eR l1 (.inr k):=rQ (by rw[e];exact λq=>z (Sum.inr.inj q));rw[e2,e3];exact ih
theorem JR{OT:List (Str×Tv)}(hn:(OT.map (·.1)).Nodup){i:Nat}{kt:Str×Tv}(h:OT[i]?=some kt):dA OT kt.1=some kt.2:=by
 induction OT generalizing i with
 |nil=>cases h
 |cons a l ih=>
  rw[e6,qh1_]at hn;cases i with
  |zero=>
   cases h;unfold dA;rw[d7,gp rfl];rfl
  |succ i=>
   have h:l[i]?=some kt:=by simpa using h
   have z:a.1≠kt.1:=λz=>hn.1 (by rw[z];exact qd_.mpr ⟨kt,i5 h,rfl⟩)
   have:=ih hn.2 h;unfold dA at this ⊢;rw[d7,iq z];exact this
end
theorem cv.hs{K:W.Frag}{H H':Hp}{a:Addr}{xs:List V}(e:HS H H')(h:cv K H a xs):cv K H' a xs:=by
 rcases h with (h|⟨o,h⟩)|h
 ·exact .inl (.inl (e _ _ rfl h))
 ·exact .inl (.inr ⟨o,e _ _ rfl h⟩)
 ·exact .inr h
theorem qZ{α β:Type}{F:α->β->Prop}{a c:List α}{b d:List β}(h1:Paired F a b)(h2:Paired F c d):Paired F (a++c) (b++d):=by
 induction h1 with
 |nil=>exact h2
 |cons r _ ih=>exact .cons r ih
end L2
namespace L2
open PySem PySem.Spec PyProof.Rows
abbrev qL:Hp:=λ_=>none
def mz(H H3 H4:Hp):Prop:=∀b,(∃o ob,ie o=true/\H b=some o/\H3 b=some (.frz ob o)/\H4 b=some o)\/((¬ ∃o ob,ie o=true/\H b=some o/\H3 b=some (.frz ob o))/\H4 b=H3 b)
theorem Cc(H H3:Hp):∃H4,mz H H3 H4:=by
 classical
 refine⟨λb=>if h:∃o ob,ie o=true/\H b=some o/\H3 b=some (.frz ob o) then some h.choose else H3 b,λb=>?_⟩;by_cases h:∃o ob,ie o=true/\H b=some o/\H3 b=some (.frz ob o)
 ·obtain⟨ob,h1,h2,h3⟩:=h.choose_spec;exact .inl ⟨h.choose,ob,h1,h2,h3,by dsimp only;rw[dif_pos h]⟩
 ·exact .inr ⟨h,by dsimp only;rw[dif_neg h]⟩
theorem Di{P:Program}{w:World}{H:Hp}{h:Heap}(hok:fj P w H h):∃H2,bu qL H H2/\fj P w H2 h:=by
 let H2:Hp:=λb=>match H b with
  |none=>none
  |some o=>match ie o with
   |false=>some o
   |true=>match h.get? b with
    |some ob=>some (.frz ob o)
    |none=>some o
 have new:∀b o ob,H b=some o->ie o=true->h.get? b=some ob->H2 b=some (.frz ob o):=λb o ob h1 n e=>by
  show(match H b with|none=>none|some o=>_)=_;rw[h1];dsimp only;rw[n,e]
 have rest:∀b,(∀o,H b=some o->ie o=false)->H2 b=H b:=λb hn=>by
  show(match H b with|none=>none|some o=>_)=_;cases e:H b with
  |none=>rfl
  |some o=>
   dsimp only;rw[hn o e]
 have fro:bu qL H H2:=λb=>by
  cases h1:H b with
  |none=>exact .inr ⟨(λ⟨_,_,_,z⟩=>by cases z),by rw[rest b (λo z=>by rw[h1]at z;cases z),h1]⟩
  |some o=>
   cases n:ie o with
   |true=>
    obtain⟨ob,e⟩:=(hok b o h1).there;exact .inl ⟨rfl,o,ob,n,rfl,new b o ob h1 n e⟩
   |false=>exact .inr ⟨(λ⟨_,o',n',z⟩=>by cases z;rw[n]at n';exact absurd n' cq),by rw[rest b (λo' z=>by rw[h1]at z;cases z;exact n),h1]⟩
 refine⟨H2,fro,λb o e=>?_⟩;have st:∀o,ay P w H h b o->ay P w H2 h b o:=λo x=>x.stay (λ_ _ _ r=>r) (λd r=>fro.keep r rfl) λd xs r=>fro.keep r rfl
 rcases fro b with⟨hn,o',ob,n,z,z'⟩|⟨_,z'⟩
 ·obtain⟨ob2,e2⟩:=(hok b o' z).there;have q2:=new b o' ob2 z n e2;rw[e]at q2;cases q2;exact⟨e2,st _ (hok b _ z)⟩
 ·rw[z']at e;exact st o (hok b o e)
section
variable{H H2 H3 H4:Hp}{b:Addr}{o:HO}
theorem mz.same(f:bu qL H H2)(s:aw H2 H3)(t:mz H H3 H4):aw H H4:=λb o e=>by
 cases n:ie o with
 |true=>
  obtain⟨ob,e2⟩:=f.fz (b:=b) rfl e n;have e3:=s b _ e2;rcases t b with⟨u,ob',_,z,_,z'⟩|⟨z,_⟩
  ·rw[e]at z;cases z;exact z'
  ·exact absurd ⟨o,ob,n,e,e3⟩ z
 |false=>
  have e3:=s b _ (f.keep e n);rcases t b with⟨u,ob',n',z,_⟩|⟨_,z⟩
  ·rw[e]at z;cases z;rw[n]at n';exact absurd n' cq
  ·rw[z];exact e3
end
theorem CN:∀{ps kvs:List (ba×V)},((kvs++ps).map (·.1)).Nodup->lH kvs ps=kvs++ps
 |[],kvs,_=>by show kvs=kvs++[];rw[gk]
 |p::ps,kvs,h=>by
  have hv:eR kvs p.1=none:=by
   cases e:eR kvs p.1 with
   |none=>rfl
   |some v=>
    have:=J_ e;rw[gb,qe]at h;exact absurd rfl (h.2.2 p.1 this p.1 (by simp))
  show lH (iS kvs p.1 p.2) ps=_;rw[LL p.2 hv,CN (by simpa using h),e_];rfl
def wu(K:W.Frag)(a:Addr):It:=
  ⟨λi H=>∃xs x,bx K H a xs/\xs[i]?=some x,
   λi H v H'=>∃p x,v=.ref p/\H p=none/\H'=au H p (.tup [.int (i:Int),x])/\∀xs,bx K H a xs->xs[i]?=some x,
   λi H=>∃xs,bx K H a xs/\xs.length<=i⟩
theorem Mt{P:Program}{w:World}{K:W.Frag}{es:List Expr}{ek:Nat}{pos:Pos}(a e it:Addr)(hei:e≠it)(hae:a≠e)(hai:a≠it):
  jK P w K (.Tuple es ek pos) (wu K a) [e,it] e (λi h=>(∃old,IsEnum h e it (i:Int) old)/\h.IsListIter it a i) where
 mem:=by simp
 obj:=λi h st b hb=>by
  obtain⟨⟨old,st⟩,j⟩:=st;rcases qe_.mp hb with rfl|hb
  ·exact⟨_,st,λv z=>by
    have z':Data.fields _=Data.cell v:=z
    cases z'⟩
  ·have q:b=it:=by simpa using hb
   subst q;obtain⟨o,e',c,d⟩:=j;exact⟨o,e',λv z=>by rw[d]at z;cases z⟩
 keep:=λi h h' ⟨⟨old,st⟩,j⟩ k=>⟨⟨old,k e (by simp) _ st⟩,j.at λo e'=>k it (by simp) o e'⟩
 item:=by
  intro X hP hw hK hc i OS s σ H E I hf st hg;subst hP hw hK;obtain⟨xs,x,hx,hi⟩:=hg;obtain⟨⟨old,st⟩,j⟩:=st;obtain⟨its,r,pl,hz⟩:=I.list hx;obtain⟨u,hu,ru⟩:=r.get hi;refine wpAny_pyNext_enum_item st j pl.isList (x:=u) (by simpa using hu) hei λh' a1 a2 a3 a4 a5=>⟨_,rfl,?_⟩
  refine wpAny_letOwnedTupleGo_enum (s:={s with heap:=h',toks:=s.toks+1}) a1 λh2 b1 b2=>?_
  have hne:e≠s.heap.objs.size:=cz (bo st);have hni:it≠s.heap.objs.size:=by obtain⟨o,e',_⟩:=id j;exact cz (bo e')
  have hn:∀c∈[e,it],c≠s.heap.objs.size:=λc hc'=>by
   simp only[qe_,b_,or_false]at hc';rcases hc' with q|q
   ·rw[q];exact hne
   ·rw[q];exact hni
  have I0:ag X OS σ (au H s.heap.objs.size (.tup [.int (i:Int),x])) {s with heap:=s.heap.push {cls:=.type "tuple",data:=.seq #[.int (i:Int) s.toks,u]}}:=
   I.laid (t':=s.toks) (λc o e=>bh _ e) (bg _) ⟨by show 2<=sizeLine;decide,[.int (i:Int) s.toks,u],.cons ⟨_,rfl⟩ (.cons ru .nil),IsTup.new _ _⟩
  have hf0:∀c∈[e,it],fQ X OS (au H s.heap.objs.size (.tup [.int (i:Int),x])) c:=λc hc'=>⟨by rw[bR (hn c hc')];exact(hf c hc').1,(hf c hc').2⟩
  have I1:ag X OS σ (au H s.heap.objs.size (.tup [.int (i:Int),x])) {s with heap:=h2,toks:=s.toks+1}:=ag.turnedL (s:={s with heap:=s.heap.push {cls:=.type "tuple",data:=.seq #[.int (i:Int) s.toks,u]}}) (t':=s.toks+1) (ch:=[e,it]) I0 hf0 λc o hc' e'=>by
   simp only[qe_,b_,or_false,not_or]at hc';obtain⟨c1,c2⟩:=hc';by_cases hcn:c=s.heap.objs.size
   ·subst hcn;have e'':(s.heap.push {cls:=.type "tuple",data:=.seq #[.int (i:Int) s.toks,u]}).get? s.heap.objs.size=some o:=e';rw[ck _ rfl]at e'';cases e'';exact b2.extBut _ _ c1 a3
   ·refine b2.extBut _ _ c1 (a5 c o c1 c2 ?_);have e'':(s.heap.push {cls:=.type "tuple",data:=.seq #[.int (i:Int) s.toks,u]}).get? c=some o:=e';rw[Heap.get?_push_ne _ _ _ hcn]at e'';exact e''
  refine⟨.ref s.heap.objs.size,_,I1,rfl,⟨_,x,rfl,I.hok.fresh (bg _),rfl,λxs' h=>by rw[I.list_inj h hx];exact hi⟩,⟨⟨u,by have:=b1;push_cast;exact this⟩,a2.at λo e'=>b2.extBut _ _ (Ne.symm hei) e'⟩,λc hc'=>(hf0 c hc').1⟩
 done:=by
  intro X hP hw hK hc i OS s σ H E I hf st hg;subst hP hw hK;obtain⟨xs,hx,hi⟩:=hg;obtain⟨⟨old,st⟩,j⟩:=st;obtain⟨its,r,pl,hz⟩:=I.list hx;have la:=r.length;refine wpAny_pyNext_enum_end (I.ok.hd hc) st j pl.isList (by simp;omega) λh' eb=>⟨rfl,I.turnedL (t':=s.toks) hf λc o hc' e'=>?_⟩
  simp only[qe_,b_,or_false,not_or]at hc';exact eb c o hc'.2 e'
 self:=λ_ _ _ _ _ ⟨⟨_,st⟩,_⟩ h=>wpAny_pyIter_enum st h
theorem M1:bootBuiltins "enumerate"=some (.type "enumerate"):=by decide +kernel
section
variable{X:Cx}
def FK(K:W.Frag)(ta:TA):TI:=λσ H R=>ta σ H λvs H1=>∃a:Addr,vs=[.ref a]/\(∃xs,bx K H1 a xs)/\R (wu K a) H1
theorem IB{a:Expr}{ta:TA}{es:List Expr}{ek:Nat}{p pos pos':Pos}(hg:Gl X "enumerate")(hm:X.mg "enumerate"=none)(ha:PA X [a] ta)(hs:starEach [a] X.env=[(false,eval a X.env)]:=by rfl):
  PI X (.Tuple es ek pos') (.Call (.Name "enumerate" p) [a] [] pos) (FK X.K ta):=by
 intro OS s σ H R I h;refine Call_ (nR I hg hm M1 (PyProof.Rows.callWith_type1 (bq (ha pos OS s σ H _ I h) λus s1 ⟨vs,H1,I1,r1,q1⟩=>?_) (by rw[hs];rfl) (by rfl)));obtain⟨a,e,⟨xs,hx⟩,q⟩:=q1;subst e;obtain⟨u,rfl,rx⟩:=cI r1;cases rx;obtain⟨its,r,pl,hz⟩:=I1.list hx;have la:a<s1.heap.objs.size:=by obtain⟨o,e,_⟩:=pl.isList;exact bo e
 refine call_enumerate_list pl.isList λh' e1 e2 _ k=>?_
 refine wpAny_pyIter_enum e1 ?_;refine⟨_,[s1.heap.objs.size+1,s1.heap.objs.size],_,_,H1,rfl,I1.kept (t':=s1.toks) k,Mt a _ _ (by intro (e:(_:Nat)=_);omega) (cz (i7 la)) (cz la),⟨⟨_,e1⟩,e2⟩,λc hc=>?_,q⟩;have:s1.heap.objs.size<=c:=by
  simp only[qe_,b_,or_false]at hc;rcases hc with e|e<;>(rw[e];first|exact bg _|exact Nat.le_add_right _ _)
 exact I1.fpOk this (I1.hok.fresh this)
end
end L2
namespace L2
open PySem PySem.Spec PyProof.Rows WordM
def az(K:W.Frag)(H:Hp)(t:Bool)(a:Addr)(xs:List V):Prop:=match t with
 |false=>∃ob,H a=some (.frz ob (.lst xs))
 |true=>cv K H a xs
abbrev VP(K:W.Frag)(H:Hp):Nat->V->Tv->Prop:=VT (az K H) (m9 H)
def VA(K:W.Frag)(H:Hp)(x:V)(T:Tv):Prop:=∃d,VP K H d x T
abbrev cy(K:W.Frag)(H:Hp):List V->List Tv->Prop:=Paired (VA K H)
def jo(K:W.Frag)(H:Hp):List (ba×V)->List (Str×Tv)->Prop:=Paired λ(kv:ba×V) (kt:Str×Tv)=>kv.1=.inr kt.1/\VA K H kv.2 kt.2
section
variable{K:W.Frag}{H H' H1 H2:Hp}{x y v:V}{T U:Tv}{a:Addr}{xs:List V}{Ts:List Tv}{t:Bool}{kvs:List (ba×V)}{OT:List (Str×Tv)}
theorem az.hs(e:HS H H')(h:az K H t a xs):az K H' t a xs:=by
 cases t with
 |false=>obtain⟨ob,h⟩:=h;exact⟨ob,e _ _ rfl h⟩
 |true=>exact cv.hs e h
theorem VA.hs(e:HS H H')(h:VA K H x T):VA K H' x T:=by
 obtain⟨d,h⟩:=h;exact⟨d,h.mono (λ_ _ _ q=>q.hs e) λ_ _ q=>q.hs e⟩
theorem cy.hs(e:HS H H')(h:cy K H xs Ts):cy K H' xs Ts:=Paired.mapP h λ_ _ q=>q.hs e
theorem jo.hs(e:HS H H')(h:jo K H kvs OT):jo K H' kvs OT:=Paired.mapP h λ_ _ q=>⟨q.1,q.2.hs e⟩
theorem cy.deep(h:cy K H xs Ts):∃d,Paired (VP K H d) xs Ts:=by
 induction h with
 |nil=>exact⟨0,.nil⟩
 |cons r _ ih=>
  obtain⟨d,r⟩:=r;obtain⟨e,ih⟩:=ih;exact⟨max d e,.cons (r.le (Nat.le_max_left _ _)) (Paired.mapP ih λ_ _ q=>VT.le (Nat.le_max_right _ _) q)⟩
theorem jo.deep(h:jo K H kvs OT):∃d,Paired (λ(kv:ba×V) (kt:Str×Tv)=>kv.1=.inr kt.1/\VP K H d kv.2 kt.2) kvs OT:=by
 unfold jo at h
 induction h with
 |nil=>exact⟨0,.nil⟩
 |cons r _ ih=>
  obtain⟨k,d,r⟩:=r;obtain⟨e,ih⟩:=ih;exact⟨max d e,.cons ⟨k,r.le (Nat.le_max_left _ _)⟩ (Paired.mapP ih λ_ _ q=>⟨q.1,VT.le (Nat.le_max_right _ _) q.2⟩)⟩
theorem VA.flat(h:eE x=true):VA K H x (.leaf x):=⟨1,.inl ⟨h,rfl⟩⟩
theorem VA.seq(h:az K H t a xs)(z:Ts.length<=100000)(p:cy K H xs Ts):VA K H (.ref a) (.seq t Ts):=by
 obtain⟨d,p⟩:=p.deep;exact⟨d+1,.inr (.inl ⟨t,a,xs,Ts,rfl,h,rfl,z,p⟩)⟩
theorem VA.dct(h:m9 H a kvs)(n:(OT.map (·.1)).Nodup)(z:OT.length<64)(p:jo K H kvs OT):VA K H (.ref a) (.dct OT):=by
 obtain⟨d,p⟩:=p.deep;exact⟨d+1,.inr (.inr ⟨a,kvs,OT,rfl,h,rfl,n,z,p⟩)⟩
theorem VA.leafI(h:VA K H x (.leaf v)):x=v/\eE v=true:=by
 obtain⟨d,h⟩:=h;cases d with
 |zero=>exact False.elim h
 |succ d=>
  rcases h with⟨f,e⟩|⟨_,_,_,_,_,_,e,_⟩|⟨_,_,_,_,_,e,_⟩
  ·cases e;exact⟨rfl,f⟩
  ·cases e
  ·cases e
theorem VA.seqI(h:VA K H x (.seq t Ts)):∃a xs,x=.ref a/\az K H t a xs/\Ts.length<=100000/\cy K H xs Ts:=by
 obtain⟨d,h⟩:=h;cases d with
 |zero=>exact False.elim h
 |succ d=>
  rcases h with⟨_,e⟩|⟨t',a,xs,Ts',e1,hs,e,z,p⟩|⟨_,_,_,_,_,e,_⟩
  ·cases e
  ·cases e;exact⟨a,xs,e1,hs,z,Paired.mapP p λ_ _ q=>⟨d,q⟩⟩
  ·cases e
theorem VA.dctI(h:VA K H x (.dct OT)):∃a kvs,x=.ref a/\m9 H a kvs/\(OT.map (·.1)).Nodup/\OT.length<64/\jo K H kvs OT:=by
 obtain⟨d,h⟩:=h;cases d with
 |zero=>exact False.elim h
 |succ d=>
  rcases h with⟨_,e⟩|⟨_,_,_,_,_,_,e,_⟩|⟨a,kvs,kts',e1,hd,e,n,z,p⟩
  ·cases e
  ·cases e
  ·cases e;exact⟨a,kvs,e1,hd,n,z,Paired.mapP p λ_ _ q=>⟨q.1,d,q.2⟩⟩
end
inductive Sl where
 |no
 |va (T:Tv)
 |own (xs:List Tv)
 |dct (OT:List (Str×Tv))
 |dk
abbrev aV:=List Sl
def fG:Sl->Bool
 |.own _=>true
 |.dct _=>true
 |_=>false
structure Fm where
 H0:Hp
 dk:Option (Addr×Addr)
structure Kp (dk:Option (Addr×Addr)) (H H':Hp):Prop where
 st:∀b o,H b=some o->(∀p c,dk=some (p,c)->b≠p/\b≠c)->H' b=some o
 dkk:∀p c,dk=some (p,c)->bp H' p c
theorem Kp.tr{dk:Option (Addr×Addr)}{H H':Hp}(k:Kp dk H H')(b:Addr)(o:HO)(e:H b=some o):∃o',H' b=some o':=by
 cases d:dk with
 |none=>exact⟨o,k.st b o e λp c z=>by rw[d]at z;cases z⟩
 |some pc=>
  obtain⟨p,c⟩:=pc;obtain⟨_,⟨S,i,e1⟩,ns,e2,_⟩:=k.dkk p c d;by_cases h1:b=p
  ·subst h1;exact⟨_,e1⟩
  ·by_cases h2:b=c
   ·subst h2;exact⟨_,e2⟩
   ·exact⟨o,k.st b o e λp' c' z=>by rw[d]at z;cases z;exact⟨h1,h2⟩⟩
def zT(K:W.Frag)(F:Fm)(H:Hp)(ox:Option V):Sl->Prop
 |.no=>True
 |.va T=>∃x,ox=some x/\VA K H x T
 |.own Ts=>∃a xs,ox=some (.ref a)/\H a=some (.lst xs)/\F.H0 a=none/\Ts.length<=100000/\cy K H xs Ts
 |.dct OT=>∃a kvs,ox=some (.ref a)/\H a=some (.dK kvs)/\F.H0 a=none/\(OT.map (·.1)).Nodup/\OT.length<64/\jo K H kvs OT
 |.dk=>∃p c,F.dk=some (p,c)/\ox=some (.ref p)
def fg(σ:St)(i:Nat):Option V:=(σ[i]?).join
structure ar (K:W.Frag) (F:Fm) (ρ:aV) (σ:St) (H:Hp):Prop where
 d0:∀p c,F.dk=some (p,c)->bp F.H0 p c
 kp:Kp F.dk F.H0 H
 len:ρ.length=σ.length
 at_:∀(i:Nat) (s:Sl),ρ[i]?=some s->zT K F H (fg σ i) s
 ap:∀(i j:Nat) (a:Addr) (s t:Sl),ρ[i]?=some s->ρ[j]?=some t->fG s=true->fG t=true->fg σ i=some (.ref a)->fg σ j=some (.ref a)->i=j
def ke(F:Fm)(ρ:aV)(σ:St)(H H':Hp):Prop:=∀b o,H b=some o->(∀p c,F.dk=some (p,c)->b≠p/\b≠c)->(∀(i:Nat) (s:Sl),ρ[i]?=some s->fG s=true->fg σ i≠some (.ref b))->H' b=some o
def kf(ρ' ρ:aV):Prop:=∀(i:Nat) (s':Sl),ρ'[i]?=some s'->fG s'=true->∃s,ρ[i]?=some s/\fG s=true
structure bj (K:W.Frag) (F:Fm) (σ:St) (ρ:aV) (H:Hp) (ρ':aV) (H':Hp):Prop where
 fr:ar K F ρ' σ H'
 st:ke F ρ σ H H'
 sub:kf ρ' ρ
 tr:∀b o,H b=some o->∃o',H' b=some o'
section
variable{K:W.Frag}{F:Fm}{ρ ρ1 ρ2:aV}{σ:St}{H H' H1 H2:Hp}{x y v:V}{T U:Tv}{a b:Addr}{o:HO}
theorem kf.refl(ρ:aV):kf ρ ρ:=λi s e m=>⟨s,e,m⟩
theorem kf.trans(h1:kf ρ1 ρ)(h2:kf ρ2 ρ1):kf ρ2 ρ:=λi s e m=>by
 obtain⟨s1,e1,m1⟩:=h2 i s e m;exact h1 i s1 e1 m1
theorem ar.own_at(fr:ar K F ρ σ H){i:Nat}{s:Sl}(e:ρ[i]?=some s)(m:fG s=true)(q:fg σ i=some (.ref a)):(∃o,H a=some o/\ie o=true)/\F.H0 a=none:=by
 have h:=fr.at_ i s e;cases s with
 |own Ts=>obtain⟨a',xs,e1,e2,e3,_⟩:=h;rw[q]at e1;cases e1;exact⟨⟨_,e2,rfl⟩,e3⟩
 |dct OT=>obtain⟨a',xs,e1,e2,e3,_⟩:=h;rw[q]at e1;cases e1;exact⟨⟨_,e2,rfl⟩,e3⟩
 |no=>cases m
 |va _=>cases m
 |dk=>cases m
theorem ar.fresh_nodk(fr:ar K F ρ σ H)(h:F.H0 a=none):∀p c,F.dk=some (p,c)->a≠p/\a≠c:=λp c e=>by
 obtain⟨_,⟨S,k,e1⟩,ns,e2,_⟩:=fr.d0 p c e;exact⟨λz=>(by rw[z,e1]at h;cases h),λz=>(by rw[z,e2]at h;cases h)⟩
theorem ar.none_nodk(fr:ar K F ρ σ H)(h:H a=none):∀p c,F.dk=some (p,c)->a≠p/\a≠c:=λp c e=>by
 obtain⟨_,⟨S,k,e1⟩,ns,e2,_⟩:=fr.kp.dkk p c e;exact⟨λz=>(by rw[z,e1]at h;cases h),λz=>(by rw[z,e2]at h;cases h)⟩
theorem ar.none0(fr:ar K F ρ σ H)(h:H a=none):F.H0 a=none:=by
 cases q:F.H0 a with
 |none=>rfl
 |some o=>rw[fr.kp.st a o q (fr.none_nodk h)]at h;cases h
theorem ke.hs(fr:ar K F ρ σ H)(s:ke F ρ σ H H'):HS H H':=λb o h e=>s b o e
 (λp c d=>by
  obtain⟨_,⟨S,k,e1⟩,ns,e2,_⟩:=fr.kp.dkk p c d
  exact⟨λz=>(by subst z;rw[e1]at e;cases e;cases h),λz=>(by subst z;rw[e2]at e;cases e;cases h)⟩)
 λi s e1 m q=>by
  obtain⟨⟨o',e2,n⟩,_⟩:=fr.own_at e1 m q;rw[e]at e2;cases e2;cases o<;>first|exact absurd h cq|exact absurd n cq
theorem ke.trans(s1:ke F ρ σ H H1)(sb:kf ρ1 ρ)(s2:ke F ρ1 σ H1 H2):ke F ρ σ H H2:=λb o e d n=>
 s2 b o (s1 b o e d n) d λi s e1 m=>by
  obtain⟨s',e2,m'⟩:=sb i s e1 m;exact n i s' e2 m'
theorem bj.trans(a:bj K F σ ρ H ρ1 H1)(b:bj K F σ ρ1 H1 ρ2 H2):bj K F σ ρ H ρ2 H2:=⟨b.fr,a.st.trans a.sub b.st,a.sub.trans b.sub,λc o e=>let ⟨o1,e1⟩:=a.tr c o e;b.tr c o1 e1⟩
theorem bj.refl(fr:ar K F ρ σ H):bj K F σ ρ H ρ H:=⟨fr,λ_ _ e _ _=>e,kf.refl _,λ_ o e=>⟨o,e⟩⟩
theorem bj.hs(a:bj K F σ ρ H ρ1 H1)(fr:ar K F ρ σ H):HS H H1:=a.st.hs fr
theorem ar.call(fr:ar K F ρ σ H)(k:Kp F.dk H H'):ar K F ρ σ H':=by
 have own:∀i s a o,ρ[i]?=some s->fG s=true->fg σ i=some (.ref a)->H a=some o->H' a=some o:=λi s a o e m q h=>
  k.st a o h (fr.fresh_nodk (fr.own_at e m q).2)
 have hs:HS H H':=λb o h e=>k.st b o e λp c d=>by
  obtain⟨_,⟨S,k,e1⟩,ns,e2,_⟩:=fr.kp.dkk p c d;exact⟨λz=>(by subst z;rw[e1]at e;cases e;cases h),λz=>(by subst z;rw[e2]at e;cases e;cases h)⟩
 refine⟨fr.d0,⟨λb o e n=>k.st b o (fr.kp.st b o e n) n,k.dkk⟩,fr.len,λi s e=>?_,fr.ap⟩;have h:=fr.at_ i s e;cases s with
 |no=>trivial
 |va T=>obtain⟨x,e1,v⟩:=h;exact⟨x,e1,v.hs hs⟩
 |own Ts=>obtain⟨a,xs,e1,e2,e3,z,p⟩:=h;exact⟨a,xs,e1,own i _ a _ e rfl e1 e2,e3,z,p.hs hs⟩
 |dct OT=>obtain⟨a,kvs,e1,e2,e3,n,z,p⟩:=h;exact⟨a,kvs,e1,own i _ a _ e rfl e1 e2,e3,n,z,p.hs hs⟩
 |dk=>exact h
theorem Kp.of_same(fr:ar K F ρ σ H)(s:aw H H'):Kp F.dk H H':=⟨λb o e _=>s b o e,λp c d=>by
 obtain⟨ne,⟨S,k,e1⟩,ns,e2,l⟩:=fr.kp.dkk p c d
 exact⟨ne,⟨S,k,s _ _ e1⟩,ns,s _ _ e2,l⟩⟩
theorem bj.call(fr:ar K F ρ σ H)(k:Kp F.dk H H'):bj K F σ ρ H ρ H':=⟨fr.call k,λb o e d _=>k.st b o e d,kf.refl _,λb o e=>k.tr b o e⟩
theorem bj.same(fr:ar K F ρ σ H)(s:aw H H'):bj K F σ ρ H ρ H':=bj.call fr (Kp.of_same fr s)
end
theorem bj.non{K:W.Frag}{F:Fm}{ρ ρ1:aV}{σ:St}{H H1:Hp}{a:Addr}(s:bj K F σ ρ H ρ1 H1)(n:H1 a=none):H a=none:=by
 cases e:H a with
 |none=>rfl
 |some o=>
  obtain⟨o',e'⟩:=s.tr a o e;rw[n]at e';cases e'
abbrev UT:=aV->(Tv->aV->Prop)->Prop
abbrev d9:=aV->(Bool->aV->Prop)->Prop
abbrev f9:=aV->(List Tv->aV->Prop)->Prop
inductive Ar where
 |va (T:Tv)
 |dk
abbrev d5:=aV->(List Ar->aV->Prop)->Prop
def uV(K:W.Frag)(dk:Option (Addr×Addr))(H:Hp)(x:V):Ar->Prop
 |.va T=>VA K H x T
 |.dk=>∃p c,dk=some (p,c)/\x=.ref p
def iR(K:W.Frag)(F:Fm)(u:UT):TE:=λσ H QQ=>∃ρ Q,ar K F ρ σ H/\u ρ Q/\∀x T H' ρ',bj K F σ ρ H ρ' H'->VA K H' x T->Q T ρ'->QQ x H'
def tT(K:W.Frag)(F:Fm)(u:d9):TT:=λσ H QQ=>∃ρ Q,ar K F ρ σ H/\u ρ Q/\∀b H' ρ',bj K F σ ρ H ρ' H'->Q b ρ'->QQ b H'
def tU(K:W.Frag)(F:Fm)(u:f9):TE:=λσ H QQ=>∃ρ Q,ar K F ρ σ H/\u ρ Q/\∀a xs Ts H' ρ',bj K F σ ρ H ρ' H'->H a=none->H' a=some (.lst xs)->Ts.length<=100000->cy K H' xs Ts->Q Ts ρ'->QQ (.ref a) H'
def tV(K:W.Frag)(F:Fm)(u:d5):TA:=λσ H QQ=>∃ρ Q,ar K F ρ σ H/\u ρ Q/\∀xs as H' ρ',bj K F σ ρ H ρ' H'->Paired (uV K F.dk H') xs as->Q as ρ'->QQ xs H'
structure UE (X:Cx) (F:Fm) (e:Expr) (u:UT):Prop where
 pe:PE X e (iR X.K F u)
structure UB (X:Cx) (F:Fm) (e:Expr) (u:d9):Prop where
 pt:PT X e (tT X.K F u)
structure UW (X:Cx) (F:Fm) (e:Expr) (u:d9):Prop where
 pw:PW X e (tT X.K F u)
structure UL (X:Cx) (F:Fm) (e:Expr) (u:f9):Prop where
 pe:PE X e (tU X.K F u)
structure UA (X:Cx) (F:Fm) (es:List Expr) (u:d5):Prop where
 pa:PA X es (tV X.K F u)
theorem PE.imp{X:Cx}{e:Expr}{t t':TE}(h:PE X e t)(i:∀σ H Q,t' σ H Q->t σ H Q):PE X e t':=λOS s σ H Q I q=>h OS s σ H Q I (i σ H Q q)
theorem PT.imp{X:Cx}{e:Expr}{t t':TT}(h:PT X e t)(i:∀σ H Q,t' σ H Q->t σ H Q):PT X e t':=λOS s σ H Q I q=>h OS s σ H Q I (i σ H Q q)
theorem PW.imp{X:Cx}{e:Expr}{t t':TT}(h:PW X e t)(i:∀σ H Q,t' σ H Q->t σ H Q):PW X e t':=λwh OS s σ H Q I q=>h wh OS s σ H Q I (i σ H Q q)
theorem PA.imp{X:Cx}{es:List Expr}{t t':TA}(h:PA X es t)(i:∀σ H Q,t' σ H Q->t σ H Q):PA X es t':=λpos OS s σ H Q I q=>h pos OS s σ H Q I (i σ H Q q)
theorem ag.fz{X:Cx}{OS:List (Addr×Obj)}{σ:St}{H:Hp}{s:Shared}{a:Addr}{o:HO}(I:ag X OS σ H s)(h:H a=some o)(n:ie o=true):∃ob,ag X OS σ (au H a (.frz ob o)) s:=by
 obtain⟨ob,eo⟩:=(I.hok a o h).there;refine⟨ob,?_⟩;have keep:∀b u,H b=some u->ie u=false->au H a (.frz ob o) b=some u:=λb u e m=>by
  rw[bR (λz=>by subst z;rw[h]at e;cases e;rw[n]at m;cases m)];exact e
 have non:∀b,H b=none->au H a (.frz ob o) b=none:=λb e=>by
  rw[bR (λz=>by subst z;rw[h]at e;cases e)];exact e
 refine⟨I.ok,I.os,I.bare,⟨I.base.keep,I.base.slot,λb o e n hx=>non b (I.base.free b o e n hx),I.base.there,λb xs e=>keep b _ (I.base.tups b xs e) rfl,λb o u e=>keep b _ (I.base.frzs b o u e) rfl,λb ps e=>?_⟩,I.loc,I.cell,non _ I.free,λx c e=>non c (I.freeC x c e),λp hp=>?_,λb u e=>?_,I.len⟩
 ·obtain⟨more,z⟩:=I.base.tbls b ps e;exact⟨more,keep b _ z rfl⟩
 ·obtain⟨p1,p2,p3⟩:=I.pin p hp;exact⟨p1,non _ p2,p3⟩
 ·have st:∀b u,ay X.prog X.w H s.heap b u->ay X.prog X.w (au H a (.frz ob o)) s.heap b u:=λb u x=>x.stay (λ_ _ _ r=>r) (λd r=>keep d _ r rfl) λd xs r=>keep d _ r rfl
  by_cases z:b=a
  ·subst z;rw[bJ]at e;cases e;exact⟨eo,st _ _ (I.hok b o h)⟩
  ·rw[bR z]at e;exact st _ _ (I.hok b u e)
def wy(Q:VK):VK:=λz H=>Q z H\/∃a o,z=.ref a/\H a=some o/\ie o=true/\∀ob,Q z (au H a (.frz ob o))
def wa(t:TE):TE:=λσ H Q=>t σ H (wy Q)
theorem EP.fz{X:Cx}{OS:List (Addr×Obj)}{σ:St}{Q:VK}{u:Value}{s:Shared}(h:EP X OS σ (wy Q) u s):EP X OS σ Q u s:=by
 obtain⟨x,H',I,r,q⟩:=h;rcases q with q|⟨a,o,rfl,e,n,q⟩
 ·exact⟨x,H',I,r,q⟩
 ·obtain⟨ob,I'⟩:=I.fz e n;exact⟨_,_,I',r,q ob⟩
theorem PE.fz{X:Cx}{e:Expr}{t:TE}(h:PE X e t):PE X e (wa t):=λOS s σ H Q I q=>bq (h OS s σ H _ I q) λ_ _ z=>z.fz
def iu(K:W.Frag)(H H':Hp)(z:V)(W:Tv):Prop:=aw H H'/\(VA K H' z W\/∃a,z=.ref a/\H a=none /\
 ((∃xs Ts,H' a=some (.lst xs)/\W=.seq false Ts/\Ts.length<=100000/\cy K H' xs Ts)\/∃kvs OT,H' a=some (.dK kvs)/\W=.dct OT/\(OT.map (·.1)).Nodup/\OT.length<64/\jo K H' kvs OT))
section
variable{K:W.Frag}{F:Fm}{ρ ρ1 ρ2:aV}{σ:St}{H H' H1 H2:Hp}{x y v z:V}{T U W:Tv}{a b:Addr}{o:HO}
theorem iu.va(v:VA K H z W):iu K H H z W:=⟨aw.refl _,.inl v⟩
theorem iu.flat(h:eE z=true):iu K H H z (.leaf z):=.va (.flat h)
theorem iu.lst{xs:List V}{Ts:List Tv}(n:H a=none)(z:Ts.length<=100000)(p:cy K H xs Ts):iu K H (au H a (.lst xs)) (.ref a) (.seq false Ts):=
 ⟨cC n,.inr ⟨a,rfl,n,.inl ⟨xs,Ts,bJ,rfl,z,p.hs (jR n)⟩⟩⟩
theorem iu.tup{xs:List V}{Ts:List Tv}(n:H a=none)(z:Ts.length<=100000)(p:cy K H xs Ts):iu K H (au H a (.tup xs)) (.ref a) (.seq true Ts):=
 ⟨cC n,.inl (VA.seq (t:=true) (cv.of bJ) z (p.hs (jR n)))⟩
theorem bj.frz(fr:ar K F ρ σ H)(s:aw H H')(n:H a=none)(e:H' a=some o)(m:ie o=true)(ob:Obj):bj K F σ ρ H ρ (au H' a (.frz ob o)):=
 bj.same fr λb u q=>by rw[bR (eI q n)];exact s b u q
theorem iu.fin(fr:ar K F ρ σ H)(r:iu K H H' z W){QQ:VK}(k:∀H'',bj K F σ ρ H ρ H''->VA K H'' z W->QQ z H''):wy QQ z H':=by
 obtain⟨s,v|⟨a,rfl,n,⟨xs,Ts,e,rfl,l,p⟩|⟨kvs,OT,e,rfl,nd,l,p⟩⟩⟩:=r
 ·exact .inl (k H' (bj.same fr s) v)
 ·refine .inr ⟨a,_,rfl,e,rfl,λob=>k _ (bj.frz fr s n e rfl ob) (VA.seq (t:=false) ⟨ob,bJ⟩ l (p.hs (iP e rfl)))⟩
 ·refine .inr ⟨a,_,rfl,e,rfl,λob=>k _ (bj.frz fr s n e rfl ob) (VA.dct ⟨ob,bJ⟩ nd l (p.hs (iP e rfl)))⟩
end
abbrev iT(i:Int):Tv:=.leaf (.int i)
abbrev sT(x:Str):Tv:=.leaf (.str x)
abbrev bT(b:Bool):Tv:=.leaf (.bl b)
abbrev nT:Tv:=.leaf .non
abbrev P1:=Tv->(Tv->Prop)->Prop
abbrev P2:=Tv->Tv->(Tv->Prop)->Prop
abbrev Pn:=List Tv->(Tv->Prop)->Prop
section
variable{X:Cx}{F:Fm}
def dI(i:Nat):UT:=λρ Q=>match ρ[i]? with
 |some (.va T)=>Q T ρ
 |some (.own Ts)=>Q (.seq false Ts) (ρ.set i (.va (.seq false Ts)))
 |some (.dct OT)=>Q (.dct OT) (ρ.set i (.va (.dct OT)))
 |_=>False
theorem kX{σ:St}{i:Nat}{x:V}(h:fg σ i=some x):σ[i]?=some (some x):=by
 unfold fg at h;cases q:σ[i]? with
 |none=>rw[q]at h;cases h
 |some o=>rw[q]at h;cases o with
  |none=>cases h
  |some y=>cases h;rfl
theorem F3{σ:St}{i:Nat}{x:V}(h:σ[i]?=some (some x)):fg σ i=some x:=by
 unfold fg;rw[h];rfl
theorem ar.fzs{K:W.Frag}{ρ:aV}{σ:St}{H:Hp}{i:Nat}{s:Sl}{a:Addr}{o:HO}{T:Tv}(fr:ar K F ρ σ H)(e:ρ[i]?=some s)(m:fG s=true)(q:fg σ i=some (.ref a))(h:H a=some o)(n:ie o=true)(ob:Obj)
  (v:VA K (au H a (.frz ob o)) (.ref a) T):bj K F σ ρ H (ρ.set i (.va T)) (au H a (.frz ob o)):=by
 have hi:i<ρ.length:=(qB_.mp e).1;have h0:=(fr.own_at e m q).2;have hd:=fr.fresh_nodk h0;have hs:HS H (au H a (.frz ob o)):=iP h (by cases o<;>first|rfl|exact absurd n cq);have st:∀b u,b≠a->H b=some u->au H a (.frz ob o) b=some u:=λb u z e=>by rw[bR z];exact e
 refine⟨⟨fr.d0,⟨λb u e1 n1=>st b u (λz=>by rw[z,h0]at e1;cases e1) (fr.kp.st b u e1 n1),λp c d=>?_⟩,by rw[ix];exact fr.len,λj s' e'=>?_,λj k b s' t' e1 e2 m1 m2 q1 q2=>?_⟩,λb u e1 _ n1=>st b u (λz=>n1 i s e m (by rw[z];exact q)) e1,λj s' e' m'=>?_,λb u e1=>if z:b=a then⟨.frz ob o,z▸bJ⟩ else⟨u,st b u z e1⟩⟩
 ·obtain⟨ne,⟨S,k,e1⟩,ns,e2,l⟩:=fr.kp.dkk p c d;exact⟨ne,⟨S,k,st _ _ (hd p c d).1.symm e1⟩,ns,st _ _ (hd p c d).2.symm e2,l⟩
 ·by_cases z:i=j
  ·subst z;rw[g4 hi]at e';cases e';exact⟨_,q,v⟩
  ·rw[h_ z]at e';have x:=fr.at_ j s' e';cases s' with
   |no=>trivial
   |va T=>obtain⟨y,e1,v⟩:=x;exact⟨y,e1,v.hs hs⟩
   |own Ts=>obtain⟨b,xs,e1,e2,e3,z',p⟩:=x;exact⟨b,xs,e1,st _ _ (λy=>z (fr.ap i j a s _ e e' m rfl q (by rw[e1,y]))) e2,e3,z',p.hs hs⟩
   |dct OT=>obtain⟨b,kvs,e1,e2,e3,n',z',p⟩:=x;exact⟨b,kvs,e1,st _ _ (λy=>z (fr.ap i j a s _ e e' m rfl q (by rw[e1,y]))) e2,e3,n',z',p.hs hs⟩
   |dk=>exact x
 ·by_cases z1:i=j
  ·subst z1;rw[g4 hi]at e1;cases e1;cases m1
  ·by_cases z2:i=k
   ·subst z2;rw[g4 hi]at e2;cases e2;cases m2
   ·rw[h_ z1]at e1;rw[h_ z2]at e2;exact fr.ap j k b s' t' e1 e2 m1 m2 q1 q2
 ·by_cases z:i=j
  ·subst z;rw[g4 hi]at e';cases e';cases m'
  ·rw[h_ z]at e';exact⟨s',e',m'⟩
theorem aD(i:Nat){x:Str}{pos:Pos}(hN:X.N[i]?=some x:=by rfl)(hv:q0 X.env.scope x:=by first|exact Or.inl rfl|exact Or.inr (Or.inl rfl)|exact Or.inr (Or.inr rfl))(hd:(x==("__debug__":Str))=false:=by decide)(hcd:(x==("__classdict__":Str))=false:=by decide):
  UE X F (.Name x pos) (dI i):=by
 refine⟨PE.imp (PE.fz (nO hN hv hd hcd)) ?_⟩;rintro σ H QQ ⟨ρ,Q,fr,h,k⟩;unfold dI at h;split at h
 ·rename_i T e;obtain⟨y,e1,v⟩:=fr.at_ i _ e;exact⟨y,kX e1,.inl (k y T H ρ (bj.refl fr) v h)⟩
 ·rename_i Ts e;obtain⟨a,xs,e1,e2,e3,z,p⟩:=fr.at_ i _ e;refine⟨_,kX e1,.inr ⟨a,_,rfl,e2,rfl,λob=>?_⟩⟩;have v:VA X.K (au H a (.frz ob (.lst xs))) (.ref a) (.seq false Ts):=VA.seq (t:=false) ⟨ob,bJ⟩ z (p.hs (iP e2 rfl));exact k _ _ _ _ (fr.fzs e rfl e1 e2 rfl ob v) v h
 ·rename_i OT e;obtain⟨a,kvs,e1,e2,e3,n,z,p⟩:=fr.at_ i _ e;refine⟨_,kX e1,.inr ⟨a,_,rfl,e2,rfl,λob=>?_⟩⟩;have v:VA X.K (au H a (.frz ob (.dK kvs))) (.ref a) (.dct OT):=VA.dct ⟨ob,bJ⟩ n z (p.hs (iP e2 rfl));exact k _ _ _ _ (fr.fzs e rfl e1 e2 rfl ob v) v h
 ·exact False.elim h
def uC(T:Tv):UT:=λρ Q=>Q T ρ
theorem tY{e:Expr}{v:V}(h:PE X e (tC v))(f:eE v=true):UE X F e (uC (.leaf v)):=⟨PE.imp h λσ H QQ ⟨ρ,Q,fr,h,k⟩=>k v (.leaf v) H ρ (bj.refl fr) (.flat f) h⟩
theorem aG{i j pos}:UE X F (.Constant (.int i) j pos) (uC (iT i)):=tY cJ rfl
theorem gE{b j pos}:UE X F (.Constant (.bool b) j pos) (uC (bT b)):=tY E5 rfl
theorem nG{j pos}:UE X F (.Constant .none j pos) (uC nT):=tY Gs rfl
theorem bB{x j pos}:UE X F (.Constant (.str x) j pos) (uC (sT x)):=tY Ig rfl
theorem KL{x:Str}{v:V}{u:Value}{T:Tv}{pos:Pos}(hg:Gl X x)(hm:X.mg x=some u)(r:ah v u)(hv:∀H,VA X.K H v T)(hd:(x==("__debug__":Str))=false:=by decide):UE X F (.Name x pos) (uC T):=
 ⟨PE.imp (An hg hm r hd) λσ H QQ ⟨ρ,Q,fr,h,k⟩=>k v T H ρ (bj.refl fr) (hv H) h⟩
def uT(K:W.Frag)(r:P2)(r':R2):Prop:=∀x y T U H Q (QQ:VK),VA K H x T->VA K H y U->r T U Q->(∀z W H',iu K H H' z W->Q W->QQ z H')->r' x y H QQ
def hE(X:Cx)(f:Value->Value->Sem Value)(r:P2):Prop:=∃r',cn X f r'/\uT X.K r r'
def jx(r:P2)(ua ub:UT):UT:=λρ Q=>ua ρ λa ρ1=>ub ρ1 λb ρ2=>r a b λc=>Q c ρ2
theorem xJ{r:P2}{r':R2}{ua ub:UT}(hr:uT X.K r r')(σ:St)(H:Hp)(QQ:VK)(h:iR X.K F (jx r ua ub) σ H QQ):wa (t4 r' (iR X.K F ua) (iR X.K F ub)) σ H QQ:=by
 obtain⟨ρ,Q,fr,h,k⟩:=h;refine⟨ρ,_,fr,h,λx T H1 ρ1 s1 v1 q1=>⟨ρ1,_,s1.fr,q1,λy U H2 ρ2 s2 v2 q2=>?_⟩⟩;refine hr x y T U H2 _ _ (v1.hs (s2.hs s1.fr)) v2 q2 λz W H' rw q=>rw.fin s2.fr λH'' s3 v3=>k _ _ _ _ ((s1.trans s2).trans s3) v3 q
variable{a b c:Expr}{ua ub uc:UT}{pos:Pos}
theorem bC{op:Operator}{r:P2}(ho:hE X (binaryOp op) r)(ha:UE X F a ua)(hb:UE X F b ub):UE X F (.BinOp a op b pos) (jx r ua ub):=by
 obtain⟨r',o,hr⟩:=ho;exact⟨PE.imp (PE.fz (cN o ha.pe hb.pe)) (xJ hr)⟩
theorem Hi{op:CmpOp}{r:P2}(ho:hE X (compareOp op) r)(ha:UE X F a ua)(hb:UE X F b ub)(hm:behindInMarks op b=false):UE X F (.Compare a [op] [b] pos) (jx r ua ub):=by
 obtain⟨r',o,hr⟩:=ho;exact⟨PE.imp (PE.fz (Iw o ha.pe hb.pe hm)) (xJ hr)⟩
def uB(u:UT):d9:=λρ Q=>u ρ λT ρ'=>∃b,T=bT b/\Q b ρ'
theorem G8{e:Expr}{t:TE}{u:UT}(h:PT X e (xw t))(i:∀σ H QQ,iR X.K F u σ H QQ->t σ H QQ):UB X F e (uB u):=⟨PT.imp h λσ H QQ ⟨ρ,Q,fr,h,k⟩=>by
 refine i σ H _ ⟨ρ,_,fr,h,λx T H' ρ' s v q=>?_⟩;obtain⟨b,rfl,q⟩:=q;obtain⟨e,_⟩:=v.leafI
 exact⟨b,e,k b H' ρ' s q⟩⟩
def lj(K:W.Frag)(r:P2)(r':R2):Prop:=∀x y T U H Q (QQ:VK),VA K H x T->VA K H y U->r T U Q->(∀z W H',aw H H'->VA K H' z W->Q W->QQ z H')->r' x y H QQ
def cw(X:Cx)(f:Value->Value->Sem Value)(r:P2):Prop:=∃r',cn X f r'/\lj X.K r r'
theorem lj.raw{K:W.Frag}{r:P2}{r':R2}(h:lj K r r'):uT K r r':=λx y T U H Q QQ vx vy q k=>h x y T U H Q QQ vx vy q λz W H' s v q'=>k z W H' ⟨s,.inl v⟩ q'
theorem cw.op{f:Value->Value->Sem Value}{r:P2}(h:cw X f r):hE X f r:=by
 obtain⟨r',o,h⟩:=h;exact⟨r',o,h.raw⟩
theorem JP{r:P2}{r':R2}{ua ub:UT}(hr:lj X.K r r')(σ:St)(H:Hp)(QQ:VK)(h:iR X.K F (jx r ua ub) σ H QQ):t4 r' (iR X.K F ua) (iR X.K F ub) σ H QQ:=by
 obtain⟨ρ,Q,fr,h,k⟩:=h;refine⟨ρ,_,fr,h,λx T H1 ρ1 s1 v1 q1=>⟨ρ1,_,s1.fr,q1,λy U H2 ρ2 s2 v2 q2=>?_⟩⟩;exact hr x y T U H2 _ _ (v1.hs (s2.hs s1.fr)) v2 q2 λz W H' s v q=>k _ _ _ _ ((s1.trans s2).trans (bj.same s2.fr s)) v q
theorem xX{op:CmpOp}{r:P2}(ho:cw X (compareOp op) r)(ha:UE X F a ua)(hb:UE X F b ub)(hm:behindInMarks op b=false):UB X F (.Compare a [op] [b] pos) (uB (jx r ua ub)):=by
 obtain⟨r',o,hr⟩:=ho;exact G8 (xD o ha.pe hb.pe hm) (JP hr)
def xc(X:Cx)(f:Value->Sem Value)(r:P1):Prop:=∃r',vt X f r'/\∀x T H Q (QQ:VK),VA X.K H x T->r T Q->(∀z W,VA X.K H z W->Q W->QQ z H)->r' x H QQ
def NM(r:P1)(ua:UT):UT:=λρ Q=>ua ρ λa ρ1=>r a λc=>Q c ρ1
theorem tJ{op:UnaryOp}{r:P1}(ho:xc X (unaryOp op) r)(ha:UE X F a ua):UE X F (.UnaryOp op a pos) (NM r ua):=by
 obtain⟨r',o,hr⟩:=ho;refine⟨PE.imp (zo o ha.pe) ?_⟩;rintro σ H QQ ⟨ρ,Q,fr,h,k⟩;exact⟨ρ,_,fr,h,λx T H1 ρ1 s1 v1 q1=>hr x T H1 _ _ v1 q1 λz W v q=>k _ _ _ _ s1 v q⟩
def xk:P1
 |.leaf (.int i),Q=>Q (iT (-i))
 |_,_=>False
theorem sW:xc X (unaryOp .USub) xk:=⟨_,AQ,λx T H Q QQ v h k=>by
 unfold xk at h;split at h
 ·obtain⟨rfl,_⟩:=v.leafI;exact⟨_,rfl,k _ _ (.flat rfl) h⟩
 ·exact False.elim h⟩
def G4(ua ub:UT):UT:=λρ Q=>ua ρ λa ρ1=>∃c,a=bT c/\if c=true then ub ρ1 Q else Q (bT false) ρ1
theorem lF{op}{u:UT}(h:UE X F a u):UE X F (.BoolOp op [a] pos) u:=⟨Gu h.pe⟩
theorem iM{rest:List Expr}(ha:UE X F a ua)(hb:UE X F (.BoolOp .And (b::rest) pos) ub):UE X F (.BoolOp .And (a::b::rest) pos) (G4 ua ub):=⟨PE.imp (Gp ha.pe hb.pe) λσ H QQ ⟨ρ,Q,fr,h,k⟩=>by
 refine⟨ρ,_,fr,h,λx T H1 ρ1 s1 v1 q1=>?_⟩;obtain⟨c,rfl,q1⟩:=q1;obtain⟨e,_⟩:=v1.leafI;refine⟨c,e,?_⟩;cases c with
 |false=>rw[if_neg cq]at q1 ⊢;exact k _ _ _ _ s1 (.flat rfl) q1
 |true=>rw[if_pos rfl]at q1 ⊢;exact⟨ρ1,_,s1.fr,q1,λy U H2 ρ2 s2 v2 q2=>k _ _ _ _ (s1.trans s2) v2 q2⟩⟩
def Fq(t u:d9):d9:=λρ Q=>t ρ λc ρ1=>if c=true then u ρ1 Q else Q false ρ1
def NO(t u:d9):d9:=λρ Q=>t ρ λc ρ1=>if c=true then Q true ρ1 else u ρ1 Q
def Fv(t:d9):d9:=λρ Q=>t ρ λc ρ1=>Q (!c) ρ1
variable{ta tb:d9}{rest:List Expr}
theorem mW(ha:UB X F a ta):UW X F (.BoolOp .And [a] pos) ta:=⟨IH ha.pt⟩
theorem iL(ha:UB X F a ta):UW X F (.BoolOp .Or [a] pos) ta:=⟨HJ ha.pt⟩
theorem kJ(ha:UB X F a ta)(hb:UW X F (.BoolOp .And (b::rest) pos) tb):UW X F (.BoolOp .And (a::b::rest) pos) (Fq ta tb):=⟨PW.imp (HI ha.pt hb.pw) λσ H QQ ⟨ρ,Q,fr,h,k⟩=>by
 refine⟨ρ,_,fr,h,λc H1 ρ1 s1 q1=>?_⟩;cases c with
 |false=>rw[if_neg cq]at q1 ⊢;exact k _ _ _ s1 q1
 |true=>rw[if_pos rfl]at q1 ⊢;exact⟨ρ1,_,s1.fr,q1,λy H2 ρ2 s2 q2=>k _ _ _ (s1.trans s2) q2⟩⟩
theorem gC(ha:UB X F a ta)(hb:UW X F (.BoolOp .Or (b::rest) pos) tb):UW X F (.BoolOp .Or (a::b::rest) pos) (NO ta tb):=⟨PW.imp (E8 ha.pt hb.pw) λσ H QQ ⟨ρ,Q,fr,h,k⟩=>by
 refine⟨ρ,_,fr,h,λc H1 ρ1 s1 q1=>?_⟩;cases c with
 |true=>rw[if_pos rfl]at q1 ⊢;exact k _ _ _ s1 q1
 |false=>rw[if_neg cq]at q1 ⊢;exact⟨ρ1,_,s1.fr,q1,λy H2 ρ2 s2 q2=>k _ _ _ (s1.trans s2) q2⟩⟩
theorem fF{e:Expr}{t:d9}(h:UW X F e t):UB X F e t:=⟨h.pw.pt⟩
theorem jP(ha:UB X F a ta):UB X F (.UnaryOp .Not a pos) (Fv ta):=⟨PT.imp (HD ha.pt) λσ H QQ ⟨ρ,Q,fr,h,k⟩=>⟨ρ,_,fr,h,λc H1 ρ1 s1 q1=>k _ _ _ s1 q1⟩⟩
theorem eF{e:Expr}{u:UT}(h:UE X F e u)(he:∀whole,isTrue e X.env whole=(do let v <- whole;standAt e.pos;holding [v] (truthy v)):=by intro _;rfl):UB X F e (uB u):=⟨PT.imp (HE h.pe he) λσ H QQ ⟨ρ,Q,fr,h,k⟩=>by
 refine⟨ρ,_,fr,h,λx T H' ρ' s v q=>?_⟩;obtain⟨b,rfl,q⟩:=q;obtain⟨e,_⟩:=v.leafI
 exact⟨b,e,k b H' ρ' s q⟩⟩
def NQ(t:d9)(ua ub:UT):UT:=λρ Q=>t ρ λc ρ1=>if c=true then ua ρ1 Q else ub ρ1 Q
theorem wB(hc:UB X F c ta)(ha:UE X F a ua)(hb:UE X F b ub):UE X F (.IfExp c a b pos) (NQ ta ua ub):=⟨PE.imp (J5 hc.pt ha.pe hb.pe) λσ H QQ ⟨ρ,Q,fr,h,k⟩=>by
 refine⟨ρ,_,fr,h,λc H1 ρ1 s1 q1=>?_⟩;cases c with
 |true=>rw[if_pos rfl]at q1 ⊢;exact⟨ρ1,_,s1.fr,q1,λy U H2 ρ2 s2 v2 q2=>k _ _ _ _ (s1.trans s2) v2 q2⟩
 |false=>rw[if_neg cq]at q1 ⊢;exact⟨ρ1,_,s1.fr,q1,λy U H2 ρ2 s2 v2 q2=>k _ _ _ _ (s1.trans s2) v2 q2⟩⟩
def eG:d5:=λρ Q=>Q [] ρ
def dF(u:UT)(t:d5):d5:=λρ Q=>u ρ λT ρ1=>t ρ1 λas ρ2=>Q (.va T::as) ρ2
def NR(i:Nat)(t:d5):d5:=λρ Q=>ρ[i]?=some .dk/\t ρ λas ρ2=>Q (.dk::as) ρ2
theorem aE:UA X F [] eG:=⟨PA.imp cW λσ H QQ ⟨ρ,Q,fr,h,k⟩=>k [] [] H ρ (bj.refl fr) .nil h⟩
theorem aC{e:Expr}{es:List Expr}{u:UT}{t:d5}(ha:UE X F e u)(hr:UA X F es t)(h:dQ e=false:=by rfl):UA X F (e::es) (dF u t):=⟨PA.imp (cM ha.pe hr.pa h) λσ H QQ ⟨ρ,Q,fr,h,k⟩=>by
 refine⟨ρ,_,fr,h,λx T H1 ρ1 s1 v1 q1=>⟨ρ1,_,s1.fr,q1,λxs as H2 ρ2 s2 p2 q2=>?_⟩⟩
 exact k _ _ _ _ (s1.trans s2) (.cons (b:=Ar.va T) (v1.hs (s2.hs s1.fr)) p2) q2⟩
theorem bS(i:Nat){x:Str}{pos:Pos}{es:List Expr}{t:d5}(hr:UA X F es t)(hN:X.N[i]?=some x:=by rfl)(hv:q0 X.env.scope x:=by first|exact Or.inl rfl|exact Or.inr (Or.inl rfl)|exact Or.inr (Or.inr rfl))(hd:(x==("__debug__":Str))=false:=by decide)(hcd:(x==("__classdict__":Str))=false:=by decide):
  UA X F (.Name x pos::es) (NR i t):=⟨PA.imp (cM (nO hN hv hd hcd) hr.pa rfl) λσ H QQ ⟨ρ,Q,fr,⟨e,h⟩,k⟩=>by
 obtain⟨p,c,ed,ex⟩:=fr.at_ i _ e;refine⟨_,kX ex,ρ,_,fr,h,λxs as H2 ρ2 s2 p2 q2=>?_⟩
 exact k _ _ _ _ s2 (.cons (b:=Ar.dk) ⟨p,c,ed,rfl⟩ p2) q2⟩
def v9:List Ar->(List Tv->Prop)->Prop
 |[],Q=>Q []
 |.va T::as,Q=>v9 as λTs=>Q (T::Ts)
 |.dk::_,_=>False
theorem iJ:∀{as:List Ar}{Q:List Tv->Prop},v9 as Q->∃Ts,as=Ts.map Ar.va/\Q Ts
 |[],_,h=>⟨[],rfl,h⟩
 |.va T::as,Q,h=>by
  obtain⟨Ts,rfl,q⟩:=iJ (as:=as) (Q:=λTs=>Q (T::Ts)) h;exact⟨T::Ts,rfl,q⟩
 |.dk::_,_,h=>False.elim h
def o5(ua:d5):f9:=λρ Q=>ua ρ λas ρ1=>v9 as λTs=>Q Ts ρ1
theorem iK{K:W.Frag}{dk:Option (Addr×Addr)}{H:Hp}:∀{xs:List V}{Ts:List Tv},Paired (uV K dk H) xs (Ts.map Ar.va)->cy K H xs Ts
 |[],[],_=>.nil
 |_::_,_::_,.cons r t=>.cons r (iK t)
def yP(ua:d5):UT:=λρ Q=>o5 ua ρ λTs ρ1=>Ts.length<=100000/\Q (.seq true Ts) ρ1
def Fu(ua:d5):f9:=λρ Q=>o5 ua ρ λTs ρ1=>Ts.length<=100000/\Q Ts ρ1
theorem iI{n:Nat}(h:n<=100000):n<=sizeLine:=by rw[sizeLine_eq];omega
theorem Ag{n:Nat}(h:n<100000):n<sizeLine:=by rw[sizeLine_eq];omega
theorem bQ{es:List Expr}{t:d5}{x1}(h:UA X F es t):UE X F (.Tuple es x1 pos) (yP t):=⟨PE.imp (Ih h.pa) λσ H QQ ⟨ρ,Q,fr,h,k⟩=>by
 refine⟨ρ,_,fr,h,λxs as H1 ρ1 s1 p1 q1=>?_⟩;obtain⟨Ts,rfl,z,q⟩:=iJ q1;have p:=iK p1;have l:xs.length=Ts.length:=Paired.length p;refine⟨iI (by omega),λa n=>?_⟩;have r:=iu.tup (K:=X.K) n z p
 exact k _ _ _ _ (s1.trans (bj.same s1.fr r.1)) (VA.seq (t:=true) (cv.of bJ) z (p.hs (jR n))) q⟩
theorem cQ{es:List Expr}{t:d5}(h:UA X F es t):UL X F (.List es pos) (Fu t):=⟨PE.imp (A8 h.pa) λσ H QQ ⟨ρ,Q,fr,h,k⟩=>by
 refine⟨ρ,_,fr,h,λxs as H1 ρ1 s1 p1 q1=>?_⟩;obtain⟨Ts,rfl,z,q⟩:=iJ q1;have p:=iK p1;have l:xs.length=Ts.length:=Paired.length p;refine⟨iI (by omega),λa n=>?_⟩
 exact k _ _ _ _ _ (s1.trans (bj.same s1.fr (cC n))) (s1.non n) bJ z (p.hs (jR n)) q⟩
end
theorem ar.fzn{K:W.Frag}{F:Fm}{ρ:aV}{σ:St}{H:Hp}{a:Addr}{o:HO}(fr:ar K F ρ σ H)(h:H a=some o)(n:ie o=true)(h0:F.H0 a=none)(na:∀(i:Nat) (s:Sl),ρ[i]?=some s->fG s=true->fg σ i≠some (.ref a))(o':HO):ar K F ρ σ (au H a o'):=by
 have hd:=fr.fresh_nodk h0;have hs:HS H (au H a o'):=iP h (by cases o<;>first|rfl|exact absurd n cq);have st:∀b u,b≠a->H b=some u->au H a o' b=some u:=λb u z e=>by rw[bR z];exact e
 refine⟨fr.d0,⟨λb u e1 n1=>st b u (λz=>by rw[z,h0]at e1;cases e1) (fr.kp.st b u e1 n1),λp c d=>?_⟩,fr.len,λj s' e'=>?_,fr.ap⟩
 ·obtain⟨ne,⟨S,k,e1⟩,ns,e2,l⟩:=fr.kp.dkk p c d;exact⟨ne,⟨S,k,st _ _ (hd p c d).1.symm e1⟩,ns,st _ _ (hd p c d).2.symm e2,l⟩
 ·have x:=fr.at_ j s' e';cases s' with
  |no=>trivial
  |va T=>obtain⟨y,e1,v⟩:=x;exact⟨y,e1,v.hs hs⟩
  |own Ts=>obtain⟨b,xs,e1,e2,e3,z',p⟩:=x;exact⟨b,xs,e1,st _ _ (λy=>na j _ e' rfl (by rw[e1,y])) e2,e3,z',p.hs hs⟩
  |dct OT=>obtain⟨b,kvs,e1,e2,e3,n',z',p⟩:=x;exact⟨b,kvs,e1,st _ _ (λy=>na j _ e' rfl (by rw[e1,y])) e2,e3,n',z',p.hs hs⟩
  |dk=>exact x
theorem bj.notown{K:W.Frag}{F:Fm}{ρ ρ1:aV}{σ:St}{H H1:Hp}{a:Addr}(s:bj K F σ ρ H ρ1 H1)(fr:ar K F ρ σ H)(n:H a=none):∀(i:Nat) (s:Sl),ρ1[i]?=some s->fG s=true->fg σ i≠some (.ref a):=λi s' e m q=>by
 obtain⟨s0,e0,m0⟩:=s.sub i s' e m;obtain⟨⟨o,e1,_⟩,_⟩:=fr.own_at e0 m0 q;rw[n]at e1;cases e1
theorem bj.put{K:W.Frag}{F:Fm}{ρ ρ1:aV}{σ:St}{H H1:Hp}{a:Addr}{o:HO}(s:bj K F σ ρ H ρ1 H1)(fr:ar K F ρ σ H)(n:H a=none)(e:H1 a=some o)(m:ie o=true)(o':HO):bj K F σ ρ H ρ1 (au H1 a o'):=
 ⟨s.fr.fzn e m (fr.none0 n) (s.notown fr n) o',λb u q d n1=>by rw[bR (eI q n)];exact s.st b u q d n1,s.sub,λb u q=>by rw[bR (eI q n)];exact s.tr b u q⟩
section
variable{X:Cx}{F:Fm}{e:Expr}{pos:Pos}
def uL(u:f9):UT:=λρ Q=>u ρ λTs ρ1=>Q (.seq false Ts) ρ1
theorem bM{u:f9}(h:UL X F e u):UE X F e (uL u):=⟨PE.imp (PE.fz h.pe) λσ H QQ ⟨ρ,Q,fr,h,k⟩=>⟨ρ,_,fr,h,λa xs Ts H' ρ' s n e z p q=>
 .inr ⟨a,_,rfl,e,rfl,λob=>k _ _ _ _ (s.put fr n e rfl (.frz ob (.lst xs))) (VA.seq (t:=false) ⟨ob,bJ⟩ z (p.hs (iP e rfl))) q⟩⟩⟩
def w_(K:W.Frag)(r:Pn)(r':List V->Hp->VK->Prop):Prop:=∀xs Ts H Q (QQ:VK),cy K H xs Ts->r Ts Q->(∀z W H',iu K H H' z W->Q W->QQ z H')->r' xs H QQ
def iQ(X:Cx)(f:Value)(r:Pn):Prop:=∃r',aq X f r'/\w_ X.K r r'
def tw(r:Pn)(ua:d5):UT:=λρ Q=>o5 ua ρ λTs ρ1=>r Ts λW=>Q W ρ1
theorem Ae{r:Pn}{r':List V->Hp->VK->Prop}{ua:d5}(hr:w_ X.K r r')(σ:St)(H:Hp)(QQ:VK)(h:iR X.K F (tw r ua) σ H QQ):wa (vm r' (tV X.K F ua)) σ H QQ:=by
 obtain⟨ρ,Q,fr,h,k⟩:=h;refine⟨ρ,_,fr,h,λxs as H1 ρ1 s1 p1 q1=>?_⟩;obtain⟨Ts,rfl,q⟩:=iJ q1;exact hr xs Ts H1 _ _ (iK p1) q λz W H' rw q=>rw.fin s1.fr λH'' s3 v3=>k _ _ _ _ (s1.trans s3) v3 q
variable{es:List Expr}{x:Str}{p:Pos}{ua:d5}
theorem bK{id:String}{r:Pn}(hc:iQ X (.builtin id) r)(hg:Gl X x)(hm:X.mg x=none)(hv:bootBuiltins x=some (.builtin id))(ha:UA X F (e::es) ua)(hn:x≠"__name__":=by decide)(hdb:(x==("__debug__":Str))=false:=by decide)
  (he:starEach (e::es) X.env=(false,eval e X.env)::starEach es X.env:=by rfl) (hpl:(backTo pos (starEach es X.env)).any (·.1)=false:=by rfl):UE X F (.Call (.Name x p) (e::es) [] pos) (tw r ua):=by
 obtain⟨r',o,hr⟩:=hc;exact⟨PE.imp (PE.fz (iD o hg hm hv ha.pa hn hdb he hpl)) (Ae hr)⟩
theorem fD{id:String}{r:Pn}(hc:iQ X (.type id) r)(hg:Gl X x)(hm:X.mg x=none)(hv:bootBuiltins x=some (.type id))(ha:UA X F (e::es) ua)(hn:x≠"__name__":=by decide)(hdb:(x==("__debug__":Str))=false:=by decide)
  (he:starEach (e::es) X.env=(false,eval e X.env)::starEach es X.env:=by rfl) (hpl:(backTo pos (starEach es X.env)).any (·.1)=false:=by rfl):UE X F (.Call (.Name x p) (e::es) [] pos) (tw r ua):=by
 obtain⟨r',o,hr⟩:=hc;exact⟨PE.imp (PE.fz (fS o hg hm hv ha.pa hn hdb he hpl)) (Ae hr)⟩
def w9(K:W.Frag)(r:List Tv->(List Tv->Prop)->Prop)(r':List V->Hp->VK->Prop):Prop:=∀xs Ts H Q (QQ:VK),cy K H xs Ts->r Ts Q->(∀a ys Us H',aw H H'->H a=none->H' a=some (.lst ys)->Us.length<=100000->cy K H' ys Us->Q Us->QQ (.ref a) H')->r' xs H QQ
def sR(X:Cx)(f:Value)(r:List Tv->(List Tv->Prop)->Prop):Prop:=∃r',aq X f r'/\w9 X.K r r'
def v_(r:List Tv->(List Tv->Prop)->Prop)(ua:d5):f9:=λρ Q=>o5 ua ρ λTs ρ1=>r Ts λUs=>Q Us ρ1
theorem Af{r:List Tv->(List Tv->Prop)->Prop}{r':List V->Hp->VK->Prop}{ua:d5}(hr:w9 X.K r r')(σ:St)(H:Hp)(QQ:VK)(h:tU X.K F (v_ r ua) σ H QQ):vm r' (tV X.K F ua) σ H QQ:=by
 obtain⟨ρ,Q,fr,h,k⟩:=h;refine⟨ρ,_,fr,h,λxs as H1 ρ1 s1 p1 q1=>?_⟩;obtain⟨Ts,rfl,q⟩:=iJ q1;exact hr xs Ts H1 _ _ (iK p1) q λa ys Us H' sm n e z p q=>k _ _ _ _ _ (s1.trans (bj.same s1.fr sm)) (s1.non n) e z p q
theorem pC{id:String}{r:List Tv->(List Tv->Prop)->Prop}(hc:sR X (.builtin id) r)(hg:Gl X x)(hm:X.mg x=none)(hv:bootBuiltins x=some (.builtin id))(ha:UA X F (e::es) ua)(hn:x≠"__name__":=by decide)(hdb:(x==("__debug__":Str))=false:=by decide)
  (he:starEach (e::es) X.env=(false,eval e X.env)::starEach es X.env:=by rfl) (hpl:(backTo pos (starEach es X.env)).any (·.1)=false:=by rfl):UL X F (.Call (.Name x p) (e::es) [] pos) (v_ r ua):=by
 obtain⟨r',o,hr⟩:=hc;exact⟨PE.imp (iD o hg hm hv ha.pa hn hdb he hpl) (Af hr)⟩
theorem oU{id:String}{r:List Tv->(List Tv->Prop)->Prop}(hc:sR X (.type id) r)(hg:Gl X x)(hm:X.mg x=none)(hv:bootBuiltins x=some (.type id))(ha:UA X F (e::es) ua)(hn:x≠"__name__":=by decide)(hdb:(x==("__debug__":Str))=false:=by decide)
  (he:starEach (e::es) X.env=(false,eval e X.env)::starEach es X.env:=by rfl) (hpl:(backTo pos (starEach es X.env)).any (·.1)=false:=by rfl):UL X F (.Call (.Name x p) (e::es) [] pos) (v_ r ua):=by
 obtain⟨r',o,hr⟩:=hc;exact⟨PE.imp (fS o hg hm hv ha.pa hn hdb he hpl) (Af hr)⟩
abbrev bz:=List Ar->(Tv->Prop)->Prop
def yK(K:W.Frag)(psp:bz):Sp:=λvs H Q _=>∃dk as R,(∀p c,dk=some (p,c)->bp H p c)/\Paired (uV K dk H) vs as/\psp as R/\∀x T H',Kp dk H H'->VA K H' x T->R T->Q x H'
def ae(P:Program)(w:World)(K:W.Frag)(mg:Str->Option Value)(base:Heap)(k:Nat)(x:Str)(ps:List Str)(psp:bz):Prop:=dq P w K mg base k x ps (yK K psp)
theorem ae.imp{P:Program}{w:World}{K:W.Frag}{mg:Str->Option Value}{base:Heap}{k:Nat}{ps:List Str}{psp psp':bz}(G:ae P w K mg base k x ps psp)(h:∀as R,psp' as R->psp as R):ae P w K mg base k x ps psp':=
 dq.imp G λvs H Q E ⟨dk,as,R,d,p,q,r⟩=>⟨dk,as,R,d,p,h as R q,r⟩
def gF(psp:bz)(ua:d5):UT:=λρ Q=>ua ρ λas ρ1=>psp as λW=>Q W ρ1
theorem K7{psp:bz}{ua:d5}(σ:St)(H:Hp)(QQ:VK)(h:iR X.K F (gF psp ua) σ H QQ):qA (yK X.K psp) [] E0 (tV X.K F ua) σ H QQ:=by
 obtain⟨ρ,Q,fr,h,k⟩:=h;refine⟨ρ,_,fr,h,λxs as H1 ρ1 s1 p1 q1=>?_⟩;show yK X.K psp (xs++[]) H1 QQ E0;rw[gk];exact⟨F.dk,as,_,s1.fr.kp.dkk,p1,q1,λz W H' kp v q=>k _ _ _ _ (s1.trans (bj.call s1.fr kp)) v q⟩
theorem G9{k:Nat}{ps:List Str}{psp:bz}(G:ae X.prog X.w X.K X.mg X.base k x ps psp)(hr:bt k X.A)(hg:Gl X x)(ha:UA X F (e::es) ua)(hdb:(x==("__debug__":Str))=false:=by decide)
  (hst:dQ e=false:=by rfl) (hpl:(backTo pos (starEach es X.env)).any (·.1)=false:=by rfl):UE X F (.Call (.Name x p) (e::es) [] pos) (gF psp ua):=
 ⟨PE.imp (tS G hr hg ha.pa hdb hst hpl) K7⟩
theorem AN{k:Nat}{ps:List Str}{psp:bz}(G:ae X.prog X.w X.K X.mg X.base k x ps psp)(hr:bt k X.A)(hg:Gl X x)(hdb:(x==("__debug__":Str))=false:=by decide):UE X F (.Call (.Name x p) [] [] pos) (gF psp eG):=
 ⟨PE.imp (Gr G hr hg hdb) λσ H QQ ⟨ρ,Q,fr,h,k⟩=>⟨F.dk,[],_,fr.kp.dkk,.nil,h,λz W H' kp v q=>k _ _ _ _ (bj.call fr kp) v q⟩⟩
def w8(X:Cx)(r:P2):Prop:=∃r',m_ X r'/\uT X.K r r'
variable{a b:Expr}{va vb:UT}
theorem Gv{r:P2}(ho:w8 X r)(ha:UE X F a va)(hb:UE X F b vb)(hs:sS b:=by intro _ _;rfl):UE X F (.Subscript a b pos) (jx r va vb):=by
 obtain⟨r',o,hr⟩:=ho;exact⟨PE.imp (PE.fz (jU o ha.pe hb.pe hs)) (xJ hr)⟩
abbrev t8:=aV->(Option Int->aV->Prop)->Prop
def FO(K:W.Frag)(F:Fm)(u:t8):TO:=λσ H QQ=>∃ρ Q,ar K F ρ σ H/\u ρ Q/\∀o H' ρ',bj K F σ ρ H ρ' H'->Q o ρ'->QQ o H'
structure UO (X:Cx) (F:Fm) (e:Option Expr) (u:t8):Prop where
 po:PO X e (FO X.K F u)
theorem PO.imp{e:Option Expr}{t t':TO}(h:PO X e t)(i:∀σ H Q,t' σ H Q->t σ H Q):PO X e t':=λOS s σ H Q I q=>h OS s σ H Q I (i σ H Q q)
def NK:t8:=λρ Q=>Q none ρ
def NJ(u:UT):t8:=λρ Q=>u ρ λT ρ1=>∃i,T=iT i/\Q (some i) ρ1
theorem jC:UO X F none NK:=⟨PO.imp Av λσ H QQ ⟨ρ,Q,fr,h,k⟩=>k _ _ _ (bj.refl fr) h⟩
theorem jB{u:UT}(h:UE X F e u):UO X F (some e) (NJ u):=⟨PO.imp (Aw h.pe) λσ H QQ ⟨ρ,Q,fr,h,k⟩=>⟨ρ,_,fr,h,λx T H1 ρ1 s1 v1 q1=>by
 obtain⟨i,rfl,q⟩:=q1
 exact⟨i,v1.leafI.1,k _ _ _ s1 q⟩⟩⟩
abbrev vz:=Tv->Option Int->Option Int->(Tv->Prop)->Prop
def xa(X:Cx)(r:vz):Prop:=∃r',o9 X r'/\∀x T lo hi H Q (QQ:VK),VA X.K H x T->r T lo hi Q->(∀z W H',iu X.K H H' z W->Q W->QQ z H')->r' x lo hi H QQ
def NN(r:vz)(u:UT)(lo hi:t8):UT:=λρ Q=>u ρ λT ρ1=>lo ρ1 λl ρ2=>hi ρ2 λh ρ3=>r T l h λW=>Q W ρ3
theorem iY{r:vz}{lo hi:Option Expr}{ul uh:t8}{p2:Pos}(ho:xa X r)(ha:UE X F a va)(hl:UO X F lo ul)(hh:UO X F hi uh):UE X F (.Subscript a (.Slice lo hi none p2) pos) (NN r va ul uh):=by
 obtain⟨r',o,hr⟩:=ho;refine⟨PE.imp (PE.fz (Bj o ha.pe hl.po hh.po)) ?_⟩;rintro σ H QQ ⟨ρ,Q,fr,h,k⟩;refine⟨ρ,_,fr,h,λx T H1 ρ1 s1 v1 q1=>⟨ρ1,_,s1.fr,q1,λl H2 ρ2 s2 q2=>⟨ρ2,_,s2.fr,q2,λu H3 ρ3 s3 q3=>?_⟩⟩⟩;exact hr x T l u H3 _ _ ((v1.hs (s2.hs s1.fr)).hs (s3.hs s2.fr)) q3 λz W H' rw q=>rw.fin s3.fr λH'' s4 v4=>k _ _ _ _ ((s1.trans s2).trans (s3.trans s4)) v4 q
end
structure av where
 nx:aV->Prop
 rt:Tv->Prop
 bk:aV->Prop:=λ_=>False
 ct:aV->Prop:=λ_=>False
abbrev d_:=av->aV->Prop
def nV(K:W.Frag)(F:Fm)(u:d_):TS:=λD σ H=>∃ρ P,ar K F ρ σ H/\u P ρ/\(∀σ' H' ρ',ar K F ρ' σ' H'->HS H H'->P.nx ρ'->D.nx σ' H')/\(∀x T H',Kp F.dk F.H0 H'->VA K H' x T->P.rt T->D.rt x H') /\
 (∀σ' H' ρ',ar K F ρ' σ' H'->HS H H'->P.bk ρ'->D.bk σ' H')/\∀σ' H' ρ',ar K F ρ' σ' H'->HS H H'->P.ct ρ'->D.ct σ' H'
structure US (X:Cx) (F:Fm) (st:Stmt) (u:d_):Prop where
 ps:PS X st (nV X.K F u)
structure km (X:Cx) (F:Fm) (st:List Stmt) (u:d_):Prop where
 ps:ik X st (nV X.K F u)
theorem PS.imp{X:Cx}{st:Stmt}{t t':TS}(h:PS X st t)(i:∀D σ H,t' D σ H->t D σ H):PS X st t':=λOS s σ H D I q=>h OS s σ H D I (i D σ H q)
theorem ik.imp{X:Cx}{st:List Stmt}{t t':TS}(h:ik X st t)(i:∀D σ H,t' D σ H->t D σ H):ik X st t':=λOS s σ H D I q=>h OS s σ H D I (i D σ H q)
section
variable{X:Cx}{F:Fm}{e:Expr}{pos:Pos}{st:Stmt}{rest:List Stmt}{u:UT}
def yQ:d_:=λP ρ=>P.nx ρ
def oF(s t:d_):d_:=λP ρ=>s {P with nx:=λρ'=>t P ρ'} ρ
theorem bO:km X F [] yQ:=⟨ik.imp xG λD σ H ⟨ρ,P,fr,h,k1,_⟩=>k1 σ H ρ fr (HS.refl _) h⟩
theorem aO{s:d_}(h:US X F st s):km X F [st] s:=⟨mZ h.ps⟩
theorem aI{s t:d_}(h:US X F st s)(hr:km X F rest t):km X F (st::rest) (oF s t):=⟨ik.imp (jA h.ps hr.ps) λD σ H ⟨ρ,P,fr,h,k1,k2,k3,k4⟩=>by
 refine⟨ρ,_,fr,h,λσ' H' ρ' fr' hs q=>?_,k2,k3,k4⟩
 exact⟨ρ',P,fr',q,λσ2 H2 ρ2 f2 h2 q2=>k1 _ _ _ f2 (hs.trans h2) q2,k2,λσ2 H2 ρ2 f2 h2 q2=>k3 _ _ _ f2 (hs.trans h2) q2,λσ2 H2 ρ2 f2 h2 q2=>k4 _ _ _ f2 (hs.trans h2) q2⟩⟩
def lV(u:UT):d_:=λP ρ=>u ρ λT _=>P.rt T
theorem aT(h:UE X F e u):US X F (.Return (some e) pos) (lV u):=⟨PS.imp (nJ h.pe) λD σ H ⟨ρ,P,fr,h,_,k2,_⟩=>⟨ρ,_,fr,h,λx T H' ρ' s v q=>k2 x T H' s.fr.kp v q⟩⟩
def wc(t:d9)(s r:d_):d_:=λP ρ=>t ρ λb ρ1=>if b=true then s P ρ1 else r P ρ1
theorem bP{c:Expr}{a b:List Stmt}{t:d9}{s r:d_}(hc:UB X F c t)(ha:km X F a s)(hb:km X F b r):US X F (.If c a b pos) (wc t s r):=⟨PS.imp (yJ hc.pt ha.ps hb.ps) λD σ H ⟨ρ,P,fr,h,k1,k2,k3,k4⟩=>by
 refine⟨ρ,_,fr,h,λb H1 ρ1 s1 q1=>?_⟩;have hs:=s1.hs fr;have fin:∀{v:d_},v P ρ1->nV X.K F v D σ H1:=λq=>⟨ρ1,P,s1.fr,q,λσ2 H2 ρ2 f2 h2 q2=>k1 _ _ _ f2 (hs.trans h2) q2,k2,λσ2 H2 ρ2 f2 h2 q2=>k3 _ _ _ f2 (hs.trans h2) q2,λσ2 H2 ρ2 f2 h2 q2=>k4 _ _ _ f2 (hs.trans h2) q2⟩
 cases b with
 |true=>exact cT (fin (by rw[if_pos rfl]at q1;exact q1))
 |false=>exact bH (fin (by rw[if_neg cq]at q1;exact q1))⟩
def yG(u:UT):d_:=λP ρ=>u ρ λ_ ρ1=>P.nx ρ1
theorem kF(h:UE X F e u)(hs:swapsWith e none pos.line X.env=pure false:=by rfl):US X F (.Expr e pos) (yG u):=⟨PS.imp (Ax h.pe hs) λD σ H ⟨ρ,P,fr,h,k1,_⟩=>⟨ρ,_,fr,h,λx T H' ρ' s v q=>k1 _ _ _ s.fr (s.hs fr) q⟩⟩
theorem ar.set{K:W.Frag}{ρ:aV}{σ:St}{H:Hp}{i:Nat}{s:Sl}{x:V}(fr:ar K F ρ σ H)(v:i<ρ.length->zT K F H (some x) s)(na:fG s=true->∀a,x=.ref a->∀(j:Nat) (t:Sl),ρ[j]?=some t->fG t=true->fg σ j≠some (.ref a)):ar K F (ρ.set i s) (σ.set i (some x)) H:=by
 have ne:∀j,i≠j->fg (σ.set i (some x)) j=fg σ j:=λj z=>by unfold fg;rw[h_ z]
 have self:∀(h:i<ρ.length),fg (σ.set i (some x)) i=some x:=λh=>by unfold fg;rw[g4 (by rw[<-fr.len];exact h)];rfl
 have get:∀(j:Nat) (t:Sl),(ρ.set i s)[j]?=some t->(i=j/\i<ρ.length/\t=s)\/(i≠j/\ρ[j]?=some t):=λj t e=>by
  by_cases z:i=j
  ·subst z;have hi:i<ρ.length:=by
    have:=(qB_.mp e).1;rwa[ix]at this
   rw[g4 hi]at e;exact .inl ⟨rfl,hi,(Option.some.inj e).symm⟩
  ·rw[h_ z]at e;exact .inr ⟨z,e⟩
 refine⟨fr.d0,fr.kp,by rw[ix,ix];exact fr.len,λj t e=>?_,λj k a t t' e1 e2 m1 m2 q1 q2=>?_⟩
 ·rcases get j t e with⟨rfl,hi,rfl⟩|⟨z,e⟩
  ·rw[self hi];exact v hi
  ·rw[ne j z];exact fr.at_ j t e
 ·rcases get j t e1 with⟨rfl,hi,rfl⟩|⟨z1,e1⟩
  ·rcases get k t' e2 with⟨rfl,_,rfl⟩|⟨z2,e2⟩
   ·rfl
   ·rw[self hi]at q1;rw[ne k z2]at q2;exact absurd q2 (na m1 a (Option.some.inj q1) k t' e2 m2)
  ·rcases get k t' e2 with⟨rfl,hi,rfl⟩|⟨z2,e2⟩
   ·rw[self hi]at q2;rw[ne j z1]at q1;exact absurd q1 (na m2 a (Option.some.inj q2) j t (by first|exact e1|assumption) m1)
   ·rw[ne j z1]at q1;rw[ne k z2]at q2;exact fr.ap j k a t t' e1 e2 m1 m2 q1 q2
def oE(i:Nat)(u:UT):d_:=λP ρ=>u ρ λT ρ1=>P.nx (ρ1.set i (.va T))
theorem Hr{i:Nat}{x:Str}{pos':Pos}(hN:X.N.Nodup)(hi:X.N[i]?=some x)(hx:lr X.env.scope x)(he:UE X F e u)(hs:swapsWith e (some (.Name x pos')) pos.line X.env=pure false:=by rfl)(hf:X.fn x=true\/X.env.scope.names.lookup x=some .local:=by first|exact .inl rfl|exact .inr rfl|assumption):
  US X F (.Assign [.Name x pos'] e pos) (oE i u):=⟨PS.imp (lG hN hi hx he.pe hs hf) λD σ H ⟨ρ,P,fr,h,k1,_⟩=>by
 refine⟨ρ,_,fr,h,λx T H' ρ' s v q=>?_⟩
 exact k1 _ _ _ (s.fr.set (s:=.va T) (λ_=>⟨x,rfl,v⟩) (λz=>absurd z cq)) (s.hs fr) q⟩
def uE(i:Nat)(u:f9):d_:=λP ρ=>u ρ λTs ρ1=>P.nx (ρ1.set i (.own Ts))
theorem BZ{i:Nat}{u:f9}{t:TE}(ht:∀σ H QQ,tU X.K F u σ H QQ->t σ H QQ)(D:mC)(σ:St)(H:Hp)(h:nV X.K F (uE i u) D σ H):uA t (tW i) D σ H:=by
 obtain⟨ρ,P,fr,h,k1,_⟩:=h;refine ht σ H _ ⟨ρ,_,fr,h,λa xs Ts H' ρ' s n e z p q=>?_⟩;exact k1 _ _ _ (s.fr.set (s:=.own Ts) (λ_=>⟨a,xs,rfl,e,fr.none0 n,z,p⟩) (λ_ b eb j t ej mj qj=>by cases eb;exact s.notown fr n j t ej mj qj)) (s.hs fr) q
theorem Ho{i:Nat}{x:Str}{u:f9}{pos':Pos}(hN:X.N.Nodup)(hi:X.N[i]?=some x)(hx:lr X.env.scope x)(he:UL X F e u)(hs:swapsWith e (some (.Name x pos')) pos.line X.env=pure false:=by rfl)(hf:X.fn x=true\/X.env.scope.names.lookup x=some .local:=by first|exact .inl rfl|exact .inr rfl|assumption):
  US X F (.Assign [.Name x pos'] e pos) (uE i u):=⟨PS.imp (lG hN hi hx he.pe hs hf) (BZ λ_ _ _ h=>h)⟩
end
def DM:Ar->Sl
 |.va T=>.va T
 |.dk=>.dk
def iN(n:Nat)(as:List Ar):aV:=as.map DM++List.replicate (n-as.length) .no
theorem Kx{K:W.Frag}{H:Hp}{dk:Option (Addr×Addr)}{N:List Str}{vs:List V}{as:List Ar}(hd:∀p c,dk=some (p,c)->bp H p c)(p:Paired (uV K dk H) vs as):ar K ⟨H,dk⟩ (iN N.length as) (fE N vs) H:=by
 have l:vs.length=as.length:=Paired.length p;refine⟨hd,⟨λ_ _ e _=>e,hd⟩,?_,λi s e=>?_,λi j a s t e _ m _ _ _=>?_⟩
 ·unfold iN fE;rw[bw,bw,ak,ak,i_,i_,l]
 ·unfold iN at e;by_cases hi:i<as.length
  ·rw[jn (by simpa using hi),gf]at e;obtain⟨r,er,rfl⟩:=qa1_.mp e;have hv:i<vs.length:=by omega
   obtain⟨r',er',h⟩:=fR p (b9 hv);rw[er]at er';cases er';have ex:fg (fE N vs) i=some vs[i]:=by
    refine F3 ?_;unfold fE;rw[jn (by simpa using hv),gf,b9 hv];rfl
   rw[ex];cases r with
   |va T=>exact⟨_,rfl,h⟩
   |dk=>obtain⟨p,c,e1,e2⟩:=h;exact⟨p,c,e1,by rw[e2]⟩
  ·rw[j9 (by simpa using hi),my]at e;split at e
   ·cases e;trivial
   ·cases e
 ·unfold iN at e;by_cases hi:i<as.length
  ·rw[jn (by simpa using hi),gf]at e;obtain⟨r,er,rfl⟩:=qa1_.mp e;cases r<;>cases m
  ·rw[j9 (by simpa using hi),my]at e;split at e
   ·cases e;cases m
   ·cases e
theorem ao.pgood{P:Program}{w:World}{K:W.Frag}{mg:Str->Option Value}{base:Heap}{x:Str}{st:Stmt}{N ps:List Str}{k:Nat}{psp:bz}{us:d_}(h:ao K mg x st)(S:dP N ps (aY st))
  (hb:∀(kV doc pm:Value) (an:Option Addr) (OV ct:Value) (us:List Value),us.length=ps.length->bindArgs (W.fnOf x x (fL st) (dE st) (aY st) .none kV doc pm an OV ct) ⟨us,[]⟩=pure (ps.zip us))
  (OX:∀(f:Addr) (OV:Value) (A:Around) (outer:List Env) (s:Shared) (H:Hp) (E:XK) (F:Fm),bt k (A.deeper (envOfC x (aY st) s.heap.objs.size f OV))->km (gK ky P w K mg base N x (aY st) f OV A outer s H E).nox F (dE st) us)
  (hp:∀as R,psp as R->as.length=ps.length/\us {nx:=λ_=>R nT,rt:=R} (iN N.length as)):ae P w K mg base (k+1) x ps psp:=by
 refine h.good S hb (λvs H Q E q=>?_) (λf OV A outer s H vs Q E hr q=>?_)
 ·obtain⟨dk,as,R,d,p,q,_⟩:=q;rw[Paired.length p];exact(hp as R q).1
 ·obtain⟨dk,as,R,d,p,q,k⟩:=q;refine⟨_,(OX f OV A outer s H E ⟨H,dk⟩ hr).ps,iN N.length as,_,Kx d p,(hp as R q).2,λσ' H' ρ' fr _ q=>k _ _ _ fr.kp (.flat rfl) q,λx T H' kp v q=>k x T H' kp v q,λ_ _ _ _ _ z=>z,λ_ _ _ _ _ z=>z⟩
def kT(K:W.Frag)(J:It)(H:Hp)(Ts:List Tv):Prop:=∀H1,HS H H1->(∀i,i<Ts.length->J.go i H1)/\(∀i x H2,i<Ts.length->J.yld i H1 x H2->aw H1 H2/\∃T,Ts[i]?=some T/\VA K H2 x T)/\J.stop Ts.length H1
def zi(K:W.Frag)(F:Fm)(u:f9):TI:=λσ H R=>∃ρ Q,ar K F ρ σ H/\u ρ Q/\∀J Ts H' ρ',bj K F σ ρ H ρ' H'->kT K J H' Ts->Q Ts ρ'->R J H'
structure UI (X:Cx) (F:Fm) (tg e:Expr) (u:f9):Prop where
 pi:PI X tg e (zi X.K F u)
theorem PI.imp{X:Cx}{tg e:Expr}{t t':TI}(h:PI X tg e t)(i:∀σ H Q,t' σ H Q->t σ H Q):PI X tg e t':=λOS s σ H Q I q=>h OS s σ H Q I (i σ H Q q)
def qq(X:Cx)(tg:Expr)(r:V->Hp->(It->Hp->Prop)->Prop):Prop:=∀(OS:List (Addr×Obj)) (s:Shared) (σ:St) (H:Hp) (x:V) (v:Value) (R:It->Hp->Prop),ag X OS σ H s->ah x v->r x H R->wpAny (model X.prog X.w) X.A (pyIter v) (v5 X OS σ tg R) X.xe s
section
variable{X:Cx}{F:Fm}{tg e:Expr}
theorem qq.or{r r':V->Hp->(It->Hp->Prop)->Prop}(h:qq X tg r)(h':qq X tg r'):qq X tg (λx H R=>r x H R\/r' x H R):=λOS s σ H x v R I rx q=>by
 rcases q with q|q
 ·exact h OS s σ H x v R I rx q
 ·exact h' OS s σ H x v R I rx q
theorem pZ{OS:List (Addr×Obj)}{σ:St}{H:Hp}{s:Shared}(I:ag X OS σ H s):∀b∈[s.heap.objs.size],fQ X OS H b:=λb hb=>by
 rw[qJ_.mp hb];exact I.fpOk (bg _) (I.hok.fresh (bg _))
theorem it_list:qq X tg (λx H R=>∃a xs,x=.ref a/\bx X.K H a xs/\R (wt X.K a) H):=by
 rintro OS s σ H _ v R I r ⟨a,xs,rfl,hq,q⟩;cases r;obtain⟨its,rv,p,hz⟩:=I.list hq;exact wpAny_pyIter_list p.isList ⟨_,[s.heap.objs.size],_,_,H,rfl,I.kept (t':=s.toks) λb o=>bh _,Mv a _,⟨_,ck _ rfl,rfl,rfl⟩,pZ I,q⟩
theorem it_tup:qq X tg (λx H R=>∃a xs,x=.ref a/\cv X.K H a xs/\R (wq X.K a) H):=by
 rintro OS s σ H _ v R I r ⟨a,xs,rfl,hq,q⟩;cases r;obtain⟨its,rv,p,hz⟩:=I.tuple hq;exact wpAny_pyIter_tuple (show s.heap.IsTuple a its.toArray from p) ⟨_,[s.heap.objs.size],_,_,H,rfl,I.kept (t':=s.toks) λb o=>bh _,Mj a _,⟨_,ck _ rfl,rfl,rfl⟩,pZ I,q⟩
theorem it_str:qq X tg (λx H R=>∃z,x=.str z/\R (u7 z) H):=by
 rintro OS s σ H _ v R I r ⟨z,rfl,q⟩;obtain⟨t,rfl⟩:=r;cases ha:z.cps.all (· < 128) with
 |true=>exact wpAny_pyIter_ascii ha ⟨_,[s.heap.objs.size],_,_,H,rfl,I.kept (t':=s.toks) λb o=>bh _,Mw _ z t,⟨_,ck _ rfl,rfl,rfl⟩,pZ I,q⟩
 |false=>exact wpAny_pyIter_wide ha ⟨_,[s.heap.objs.size],_,_,H,rfl,I.kept (t':=s.toks) λb o=>bh _,Mx _ z t,⟨_,ck _ rfl,rfl,rfl⟩,pZ I,q⟩
theorem Ji:qq X tg (λx H R=>∃a ob kvs,x=.ref a/\qr H a ob kvs/\R (wx a ob kvs) H):=by
 rintro OS s σ H _ v R I r ⟨a,ob,kvs,rfl,hz,q⟩;cases r;obtain⟨e,hs,hl,vs,es,ep,r,dd,hd⟩:=pN I hz;exact wpAny_pyIter_dict hs dd ⟨_,[s.heap.objs.size],_,_,H,rfl,I.kept (t':=s.toks) λb o=>bh _,Ms (a:=a) (ob:=ob) (kvs:=kvs) hd,⟨_,ck _ rfl,rfl,by rw[<-pX r];rfl⟩,pZ I,q⟩
def Dx:Tv->(List Tv->Prop)->Prop
 |.seq _ Ts,Q=>Q Ts
 |.leaf (.str z),Q=>Q (z.cps.toList.map λc=>sT ⟨#[c]⟩)
 |.dct OT,Q=>Q (OT.map λkt=>sT kt.1)
 |_,_=>False
theorem cH{K:W.Frag}{H:Hp}{a:Addr}{xs:List V}(h:az K H false a xs):bx K H a xs:=by
 obtain⟨ob,h⟩:=h;exact .inl (.inr ⟨ob,h⟩)
theorem Jh{K:W.Frag}{H:Hp}{a:Addr}{xs:List V}{Ts:List Tv}(h:az K H false a xs)(p:cy K H xs Ts):kT K (wt K a) H Ts:=λH1 hs=>by
 have l:xs.length=Ts.length:=Paired.length p;have q:=cH (h.hs hs);refine⟨λi hi=>⟨xs,xs[i]'(by omega),q,b9 _⟩,λi x H2 hi ⟨e,y⟩=>?_,⟨xs,q,by omega⟩⟩;subst e;obtain⟨T,eT,v⟩:=fR (p.hs hs) (y xs q);exact⟨aw.refl _,T,eT,v⟩
theorem GU{K:W.Frag}{H:Hp}{a:Addr}{xs:List V}{Ts:List Tv}(h:az K H true a xs)(p:cy K H xs Ts):kT K (wq K a) H Ts:=λH1 hs=>by
 have l:xs.length=Ts.length:=Paired.length p;have q:cv K H1 a xs:=h.hs hs;refine⟨λi hi=>⟨xs,xs[i]'(by omega),q,b9 _⟩,λi x H2 hi ⟨e,y⟩=>?_,⟨xs,q,by omega⟩⟩;subst e;obtain⟨T,eT,v⟩:=fR (p.hs hs) (y xs q);exact⟨aw.refl _,T,eT,v⟩
theorem GT{K:W.Frag}{H:Hp}{z:Str}:kT K (u7 z) H (z.cps.toList.map λc=>sT ⟨#[c]⟩):=λH1 hs=>by
 refine⟨λi hi=>(show i<z.cps.size by simpa using hi),λi x H2 hi ⟨e,c,ec,ex⟩=>?_,by simp[u7]⟩;subst e ex;refine⟨aw.refl _,sT ⟨#[c]⟩,?_,.flat rfl⟩;rw[gf,h9,ec];rfl
theorem Jf{K:W.Frag}{H:Hp}{a:Addr}{ob:Obj}{kvs:List (ba×V)}{OT:List (Str×Tv)}(h:qr H a ob kvs)(p:jo K H kvs OT):kT K (wx a ob kvs) H (OT.map λkt=>sT kt.1):=λH1 hs=>by
 have l:kvs.length=OT.length:=Paired.length p;have q:qr H1 a ob kvs:=hs _ _ rfl h;refine⟨λi hi=>⟨q,by rw[ak]at hi;omega⟩,λi x H2 hi ⟨e,k,v,ek,ex⟩=>?_,⟨q,by rw[ak];omega⟩⟩;subst e ex;obtain⟨kt,ekt,e1,_⟩:=fR p ek;refine⟨aw.refl _,sT kt.1,by rw[gf,ekt];rfl,?_⟩;have e1:k=.inr kt.1:=e1;rw[e1];exact .flat rfl
def Dn(u:UT):f9:=λρ Q=>u ρ λT ρ1=>Dx T λTs=>Q Ts ρ1
theorem cD{u:UT}(h:UE X F e u):UI X F tg e (Dn u):=⟨λOS s σ H R I ⟨ρ,Q,fr,hu,k⟩=>by
 have IT:qq X tg _:=it_list.or (it_tup.or (it_str.or Ji));refine bq (h.pe OS s σ H (λx H1=>_) I ⟨ρ,_,fr,hu,λx T H' ρ' s v q=>?_⟩) λv s1 ⟨x,H1,I1,r1,q1⟩=>IT OS s1 σ H1 x v R I1 r1 q1
 unfold Dx at q;split at q
 ·rename_i t Ts;obtain⟨a,xs,rfl,hs,z,p⟩:=v.seqI;cases t with
  |false=>exact .inl ⟨a,xs,rfl,cH hs,k _ _ _ _ s (Jh hs p) q⟩
  |true=>exact .inr (.inl ⟨a,xs,rfl,hs,k _ _ _ _ s (GU hs p) q⟩)
 ·obtain⟨rfl,_⟩:=v.leafI;exact .inr (.inr (.inl ⟨_,rfl,k _ _ _ _ s GT q⟩))
 ·obtain⟨a,kvs,rfl,⟨ob,hd⟩,n,z,p⟩:=v.dctI;exact .inr (.inr (.inr ⟨a,ob,kvs,rfl,hd,k _ _ _ _ s (Jf hd p) q⟩))
 ·exact False.elim q⟩
def gJ(lo:Int)(n:Nat):List Tv:=(List.range n).map λ(i:Nat)=>iT (lo+i)
theorem iC(lo:Int)(n:Nat):(gJ lo n).length=n:=by simp[gJ]
theorem mM{lo:Int}{n i:Nat}{T:Tv}(h:(gJ lo n)[i]?=some T):i<n/\T=iT (lo+i):=by
 have l:=(qB_.mp h).1;rw[iC]at l;refine⟨l,?_⟩;simp only[gJ,gf,List.getElem?_range l]at h;exact(Option.some.inj h).symm
theorem JL{K:W.Frag}{H:Hp}{lo:Int}{n:Nat}:kT K (v8 lo n) H (gJ lo n):=λH1 hs=>by
 have l:(gJ lo n).length=n:=by simp[gJ]
 refine⟨λi hi=>by rw[l]at hi;exact hi,λi x H2 hi ⟨e,ex⟩=>?_,by rw[l];exact bg _⟩;subst e ex;rw[l]at hi;exact⟨aw.refl _,iT (lo+i),by simp[gJ,hi],.flat rfl⟩
def G7(ua:d5):f9:=λρ Q=>o5 ua ρ λTs ρ1=>∃j:Int,Ts=[iT j] /\ -(2 ^ 62)<=j/\j<2 ^ 62/\Q (gJ 0 j.toNat) ρ1
theorem kD{a:Expr}{ua:d5}{p pos:Pos}(hg:Gl X "range")(hm:X.mg "range"=none)(ha:UA X F [a] ua)(hs:starEach [a] X.env=[(false,eval a X.env)]:=by rfl):UI X F tg (.Call (.Name "range" p) [a] [] pos) (G7 ua):=⟨PI.imp (Le hg hm ha.pa hs) λσ H R ⟨ρ,Q,fr,hu,k⟩=>by
 refine⟨ρ,_,fr,hu,λxs as H1 ρ1 s1 p1 q1=>?_⟩;obtain⟨Ts,rfl,j,rfl,h1,h2,q⟩:=iJ q1;cases iK p1 with
 |cons v t=>
  cases t;obtain⟨rfl,_⟩:=v.leafI
  exact⟨j,rfl,h1,h2,k _ _ _ _ s1 JL q⟩⟩
theorem Jg{K:W.Frag}{H:Hp}{a:Addr}{xs:List V}{Ts:List Tv}(h:az K H false a xs)(p:cy K H xs Ts):kT K (wu K a) H (Ts.mapIdx λi T=>.seq true [iT (i:Nat),T]):=λH1 hs=>by
 have l:xs.length=Ts.length:=Paired.length p;have q:=cH (h.hs hs);refine⟨λi hi=>⟨xs,xs[i]'(by simpa[l]using hi),q,b9 _⟩,λi x H2 hi ⟨b,y,ex,nb,e,hy⟩=>?_,⟨xs,q,by simp[l]⟩⟩;subst e ex;obtain⟨T,eT,v⟩:=fR (p.hs hs) (hy xs q);refine⟨cC nb,.seq true [iT (i:Nat),T],by rw[List.getElem?_mapIdx,eT];rfl,VA.seq (t:=true) (cv.of bJ) (show 2<=100000 by decide) (.cons (.flat rfl) (.cons (v.hs (jR nb)) .nil))⟩
def G5(ua:d5):f9:=λρ Q=>o5 ua ρ λTs ρ1=>∃Us,Ts=[.seq false Us]/\Q (Us.mapIdx λi T=>.seq true [iT (i:Nat),T]) ρ1
theorem KM{a:Expr}{ua:d5}{es:List Expr}{ek:Nat}{p pos pos':Pos}(hg:Gl X "enumerate")(hm:X.mg "enumerate"=none)(ha:UA X F [a] ua)(hs:starEach [a] X.env=[(false,eval a X.env)]:=by rfl):UI X F (.Tuple es ek pos') (.Call (.Name "enumerate" p) [a] [] pos) (G5 ua):=⟨PI.imp (IB hg hm ha.pa hs) λσ H R ⟨ρ,Q,fr,hu,k⟩=>by
 refine⟨ρ,_,fr,hu,λxs as H1 ρ1 s1 p1 q1=>?_⟩;obtain⟨Ts,rfl,Us,rfl,q⟩:=iJ q1;cases iK p1 with
 |cons v t=>
  cases t;obtain⟨a,xs,rfl,hq,z,p⟩:=v.seqI
  exact⟨a,rfl,⟨xs,cH hq⟩,k _ _ _ _ s1 (Jg hq p) q⟩⟩
theorem GV{K:W.Frag}{H:Hp}{t:Bool}{a b:Addr}{xs ys:List V}{Ts Us:List Tv}(h:az K H t a xs)(p:cy K H xs Ts)(h':az K H t b ys)(p':cy K H ys Us):kT K (wo t K a b) H (List.zipWith (λT U=>.seq true [T,U]) Ts Us):=λH1 hs=>by
 have l:xs.length=Ts.length:=Paired.length p;have l':ys.length=Us.length:=Paired.length p';have sq:∀{c:Addr} {zs:List V},az K H t c zs->m5 t K H1 c zs:=λ{c zs} h=>by
  have h:=h.hs hs;cases t with
  |false=>exact cH h
  |true=>exact h
 have q:=sq h;have q':=sq h';refine⟨λi hi=>?_,λi x H2 hi ⟨c,y,z,ex,nc,e,hy,hz⟩=>?_,⟨xs,ys,q,q',by rw[List.length_zipWith];omega⟩⟩
 ·rw[List.length_zipWith]at hi;exact⟨xs,ys,xs[i]'(by omega),ys[i]'(by omega),q,q',b9 _,b9 _⟩
 ·subst e ex;obtain⟨T,eT,v⟩:=fR (p.hs hs) (hy xs q);obtain⟨U,eU,v'⟩:=fR (p'.hs hs) (hz ys q');refine⟨cC nc,.seq true [T,U],by rw[List.getElem?_zipWith,eT,eU],VA.seq (t:=true) (cv.of bJ) (show 2<=100000 by decide) (.cons (v.hs (jR nc)) (.cons (v'.hs (jR nc)) .nil))⟩
def Fw(ua:d5):f9:=λρ Q=>o5 ua ρ λTs ρ1=>∃t As Bs,Ts=[.seq t As,.seq t Bs]/\Q (List.zipWith (λT U=>.seq true [T,U]) As Bs) ρ1
theorem Hk{a b:Expr}{ua:d5}{es:List Expr}{ek:Nat}{p pos pos':Pos}(hg:Gl X "zip")(hm:X.mg "zip"=none)(ha:UA X F [a,b] ua)(hs:starEach [a,b] X.env=[(false,eval a X.env),(false,eval b X.env)]:=by rfl)(hs2:starEach [b] X.env=[(false,eval b X.env)]:=by rfl):
  UI X F (.Tuple es ek pos') (.Call (.Name "zip" p) [a,b] [] pos) (Fw ua):=⟨PI.imp (Io hg hm ha.pa hs hs2) λσ H R ⟨ρ,Q,fr,hu,k⟩=>by
 refine⟨ρ,_,fr,hu,λxs as H1 ρ1 s1 p1 q1=>?_⟩;obtain⟨Ts,rfl,t,As,Bs,rfl,q⟩:=iJ q1;have sq:∀{c:Addr} {zs:List V},az X.K H1 t c zs->m5 t X.K H1 c zs:=λ{c zs} h=>by
  cases t with
  |false=>exact cH h
  |true=>exact h
 cases iK p1 with
 |cons v r=>
  cases r with
  |cons v' r=>
   cases r;obtain⟨a,xs,rfl,hq,z,p⟩:=v.seqI;obtain⟨b,ys,rfl,hq',z',p'⟩:=v'.seqI
   exact⟨t,a,b,rfl,⟨xs,sq hq⟩,⟨ys,sq hq'⟩,k _ _ _ _ s1 (GV hq p hq' p') q⟩⟩
end
abbrev UG:=Tv->aV->(aV->Prop)->Prop
abbrev o8:=List Tv->aV->(aV->Prop)->Prop
def zh(K:W.Frag)(F:Fm)(m:Nat)(g:UG):TG:=λv σ H QQ=>∃T ρ Q,VA K H v T/\ar K F ρ σ H/\g T ρ Q/\∀σ' ρ',ar K F ρ' σ' H->σ'.length=σ.length->σ'.drop m=σ.drop m->ρ'.drop m=ρ.drop m->kf ρ' ρ->Q ρ'->QQ σ' H
def Ga(K:W.Frag)(F:Fm)(m:Nat)(g:o8):ou:=λvs σ H QQ=>∃Ts ρ Q,cy K H vs Ts/\ar K F ρ σ H/\g Ts ρ Q/\∀σ' ρ',ar K F ρ' σ' H->σ'.length=σ.length->σ'.drop m=σ.drop m->ρ'.drop m=ρ.drop m->kf ρ' ρ->Q ρ'->QQ σ' H
structure qp (X:Cx) (F:Fm) (m:Nat) (tg:Expr) (g:UG):Prop where
 pg:PG X tg (zh X.K F m g)
structure qM (X:Cx) (F:Fm) (m:Nat) (tgs:List Expr) (g:o8):Prop where
 pg:oy X tgs (Ga X.K F m g)
theorem PG.imp{X:Cx}{tg:Expr}{t t':TG}(h:PG X tg t)(i:∀v σ H Q,t' v σ H Q->t v σ H Q):PG X tg t':=λOS s σ H v u Q I r q=>h OS s σ H v u Q I r (i v σ H Q q)
theorem oy.imp{X:Cx}{tg:List Expr}{t t':ou}(h:oy X tg t)(i:∀v σ H Q,t' v σ H Q->t v σ H Q):oy X tg t':=λOS s σ H v u Q I r q=>h OS s σ H v u Q I r (i v σ H Q q)
section
variable{X:Cx}{F:Fm}{pos:Pos}{m:Nat}
def gN(i:Nat):UG:=λT ρ Q=>Q (ρ.set i (.va T))
theorem drop_set{α:Type}{l:List α}{i m:Nat}{x:α}(h:i<m):(l.set i x).drop m=l.drop m:=by
 rw[List.drop_set,if_pos h]
theorem IR{ρ:aV}{i:Nat}{T:Tv}:kf (ρ.set i (.va T)) ρ:=λj s e mm=>by
 by_cases z:i=j
 ·subst z;have hi:i<ρ.length:=by
   have:=(qB_.mp e).1;rwa[ix]at this
  rw[g4 hi]at e;cases e;cases mm
 ·rw[h_ z]at e;exact⟨s,e,mm⟩
theorem dD(i:Nat){x:Str}(hm:i<m)(hN:X.N.Nodup)(hi:X.N[i]?=some x)(hx:lr X.env.scope x)(hf:X.fn x=true\/X.env.scope.names.lookup x=some .local:=by first|exact .inl rfl|exact .inr rfl|assumption):qp X F m (.Name x pos) (gN i):=⟨PG.imp (Iz hN hi hx hf) λv σ H QQ ⟨T,ρ,Q,vv,fr,h,k⟩=>
 k _ _ (fr.set (s:=.va T) (λ_=>⟨v,rfl,vv⟩) (λz=>absurd z cq)) ix (drop_set hm) (drop_set hm) IR h⟩
def gT(n:Nat)(g:o8):UG:=λT ρ Q=>∃Ts,T=.seq true Ts/\Ts.length=n/\g Ts ρ Q
def N4:o8:=λTs ρ Q=>Ts=[]/\Q ρ
def N5(g:UG)(gs:o8):o8:=λTs ρ Q=>∃T r,Ts=T::r/\g T ρ λρ1=>gs r ρ1 Q
theorem wY:qM X F m [] N4:=⟨oy.imp IA λvs σ H QQ ⟨Ts,ρ,Q,vv,fr,⟨e,h⟩,k⟩=>by
 subst e;cases vv
 exact⟨rfl,k _ _ fr rfl rfl rfl (kf.refl _) h⟩⟩
theorem kW{e:Expr}{es:List Expr}{g:UG}{gs:o8}(h1:qp X F m e g)(h2:qM X F m es gs)(hs:(assignEach (e::es) X.env).map (·.2)=assign e X.env::(assignEach es X.env).map (·.2):=by rfl):qM X F m (e::es) (N5 g gs):=⟨oy.imp (J7 h1.pg h2.pg hs) λvs σ H QQ ⟨Ts,ρ,Q,vv,fr,⟨T,r,e,h⟩,k⟩=>by
 subst e;cases vv with
 |cons v vs'=>
  refine⟨_,_,rfl,T,ρ,_,v,fr,h,λσ' ρ' f' l d dr sb q=>⟨r,ρ',Q,vs',f',q,λσ2 ρ2 f2 l2 d2 dr2 sb2 q2=>?_⟩⟩
  exact k _ _ f2 (l2.trans l) (d2.trans d) (dr2.trans dr) (sb.trans sb2) q2⟩
theorem AO{es:List Expr}{k:Nat}{g:o8}(n:Nat)(hc:X.calm=true)(h:qM X F m es g)(hn:(assignEach es X.env).length=n:=by rfl)(hst:(assignEach es X.env).findIdx? (·.1)=none:=by rfl):qp X F m (.Tuple es k pos) (gT n g):=⟨PG.imp (Im hc h.pg hn hst) λv σ H QQ ⟨T,ρ,Q,vv,fr,⟨Ts,e,el,h⟩,k⟩=>by
 subst e;obtain⟨a,xs,rfl,hq,z,p⟩:=vv.seqI
 exact⟨a,xs,rfl,hq,(Paired.length p).trans el,Ts,ρ,Q,p,fr,h,k⟩⟩
end
def qm(own:Nat)(fr:List Nat)(ρ:aV):aV:=List.replicate own .no++fr.map λi=>ρ.getD i .no
def pJ:List Nat->List Sl->aV->aV
 |i::fr,s::ss,ρ=>pJ fr ss (ρ.set i s)
 |_,_,ρ=>ρ
def qo(own:Nat)(fr:List Nat)(ρ ρ':aV):aV:=pJ fr (ρ'.drop own) ρ
def gW(own:Nat)(fr:List Nat)(g:UG)(tf:d9)(ue:UT):List Tv->aV->(List Tv->aV->Prop)->Prop
 |[],ρ,Q=>Q [] ρ
 |T::Ts,ρ,Q=>g T (qm own fr ρ) λρ1=>tf ρ1 λb ρ2=>if b=true then ue ρ2 λU ρ3=>gW own fr g tf ue Ts (qo own fr ρ ρ3) λUs ρ4=>Q (U::Us) ρ4 else gW own fr g tf ue Ts (qo own fr ρ ρ2) Q
def lO(own:Nat)(fr:List Nat)(ui:f9)(g:UG)(tf:d9)(ue:UT):f9:=λρ Q=>ui ρ λTs ρ1=>Ts.length<=100000/\gW own fr g tf ue Ts ρ1 Q
theorem Cy:∀(fr:List Nat) (ss:List Sl) (ρ:aV),(pJ fr ss ρ).length=ρ.length
 |[],_,_=>rfl
 |_::_,[],_=>rfl
 |i::fr,s::ss,ρ=>by show(pJ fr ss _).length=_;rw[Cy fr ss,ix]
theorem vD:∀(fr:List Nat) (ss:List Sl) (ρ:aV) (i:Nat) (s:Sl),fr.length<=ss.length->(pJ fr ss ρ)[i]?=some s->(∃j:Nat,fr[j]?=some i/\ss[j]?=some s)\/(i∉fr/\ρ[i]?=some s)
 |[],_,_,i,s,_,h=>.inr ⟨by simp,h⟩
 |_::_,[],_,_,_,l,_=>by simp at l
 |i0::fr,s0::ss,ρ,i,s,l,h=>by
  rcases vD fr ss (ρ.set i0 s0) i s (by simpa using l) h with⟨j,e1,e2⟩|⟨n,e⟩
  ·exact .inl ⟨j+1,by simpa using e1,by simpa using e2⟩
  ·by_cases z:i0=i
   ·subst z;have hi:i0<ρ.length:=by
     have:=(qB_.mp e).1;rwa[ix]at this
    rw[g4 hi]at e;exact .inl ⟨0,rfl,by simpa using e⟩
   ·rw[h_ z]at e;exact .inr ⟨by simp[n,Ne.symm z],e⟩
theorem rK{own:Nat}{fr:List Nat}{σ ow:St}(ho:ow.length=own){j i:Nat}(h:fr[j]?=some i):fg (ow++σf fr σ) (own+j)=fg σ i:=by
 unfold fg σf;rw[j9 (by omega),show own+j-ow.length=j by omega,gf,h];show(some (σ.getD i none)).join=_;rw[ki];cases σ[i]? with
 |none=>rfl
 |some o=>rfl
section
variable{K:W.Frag}{F:Fm}{ρ ρ4 ρ6:aV}{σ ow:St}{H H6:Hp}{own:Nat}{fr:List Nat}
theorem nE{i:Nat}{s:Sl}(h:(qm own fr ρ)[i]?=some s):(i<own/\s=.no)\/∃j k,i=own+j/\fr[j]?=some k/\s=ρ.getD k .no:=by
 unfold qm at h;by_cases hi:i<own
 ·rw[jn (by simpa using hi),my,if_pos hi]at h;exact .inl ⟨hi,(Option.some.inj h).symm⟩
 ·rw[j9 (by simpa using hi),i_,gf]at h;obtain⟨k,e,rfl⟩:=qa1_.mp h;exact .inr ⟨i-own,k,by omega,e,rfl⟩
theorem mR{k:Nat}{s:Sl}(e:s=ρ.getD k .no)(m:s≠.no):ρ[k]?=some s:=by
 rw[ki]at e;cases q:ρ[k]? with
 |none=>rw[q]at e;exact absurd e m
 |some t=>rw[q]at e;rw[e];rfl
theorem ar.pick(f:ar K F ρ σ H)(nd:fr.Nodup):ar K F (qm own fr ρ) (σc own fr σ) H:=by
 have val:∀{j k:Nat},fr[j]?=some k->fg (σc own fr σ) (own+j)=fg σ k:=λh=>rK (i_) h
 refine⟨f.d0,f.kp,?_,λi s e=>?_,λi i' a s t e e' m m' q q'=>?_⟩
 ·unfold qm σc σf;simp
 ·rcases nE e with⟨_,rfl⟩|⟨j,k,rfl,ek,es⟩
  ·trivial
  ·rw[val ek];cases s with
   |no=>trivial
   |_=>exact f.at_ k _ (mR es (λz=>by cases z))
 ·rcases nE e with⟨_,rfl⟩|⟨j,k,rfl,ek,es⟩
  ·cases m
  ·rcases nE e' with⟨_,rfl⟩|⟨j',k',rfl,ek',es'⟩
   ·cases m'
   ·rw[val ek]at q;rw[val ek']at q';have:=f.ap k k' a s t (mR es (λz=>by rw[z]at m;cases m)) (mR es' (λz=>by rw[z]at m';cases m')) m m' q q';subst this;have h1:=(qB_.mp ek).1;rw[(List.getElem?_inj h1 nd).mp (ek.trans ek'.symm)]
theorem bj.back(f:ar K F ρ σ H)(nd:fr.Nodup)(s:bj K F (ow++σf fr σ) ρ4 H ρ6 H6)(f4:ar K F ρ4 (ow++σf fr σ) H)(ho:ow.length=own)(hd:ρ4.drop own=(qm own fr ρ).drop own)(sb:kf ρ4 (qm own fr ρ)):bj K F σ ρ H (qo own fr ρ ρ6) H6:=by
 -- a slot of the block that is one's own is the def's own
 have dm:∀(i:Nat) (t:Sl) (a:Addr),ρ4[i]?=some t->fG t=true->fg (ow++σf fr σ) i=some (.ref a)->∃k u,k∈fr/\ρ[k]?=some u/\fG u=true/\fg σ k=some (.ref a):=λi t a e m q=>by
  obtain⟨u,eu,mu⟩:=sb i t e m;rcases nE eu with⟨_,rfl⟩|⟨j,k,rfl,ek,es⟩
  ·cases mu
  ·exact⟨k,u,i5 ek,mR es (λz=>by rw[z]at mu;cases mu),mu,by rw[<-rK ho ek];exact q⟩
 have st:ke F ρ σ H H6:=λb o e d n=>s.st b o e d λi t e1 m q=>by
  obtain⟨k,u,_,eu,mu,qu⟩:=dm i t b e1 m q;exact n k u eu mu qu
 have l6:fr.length<=(ρ6.drop own).length:=by
  have:=s.fr.len;rw[bw]at this;rw[mx,this,ho];unfold σf;rw[ak];omega
 have sub:kf (qo own fr ρ ρ6) ρ:=λi t e m=>by
  rcases vD fr _ ρ i t l6 e with⟨j,ej,et⟩|⟨_,e⟩
  ·rw[nv]at et;obtain⟨u,eu,mu⟩:=s.sub _ t et m;have:(ρ4.drop own)[j]?=some u:=by rw[nv];exact eu
   rw[hd,nv]at this;rcases nE this with⟨z,_⟩|⟨j',k,ejj,ek,es⟩
   ·omega
   ·have:j'=j:=by omega
    subst this;rw[ej]at ek;cases ek;exact⟨u,mR es (λz=>by rw[z]at mu;cases mu),mu⟩
  ·exact⟨t,e,m⟩
 have hs:HS H H6:=s.hs f4;refine⟨⟨f.d0,s.fr.kp,by unfold qo;rw[Cy];exact f.len,λi t e=>?_,λi i' a t t' e e' m m' q q'=>?_⟩,st,sub,s.tr⟩
 ·rcases vD fr _ ρ i t l6 e with⟨j,ej,et⟩|⟨ni,e⟩
  ·rw[nv]at et;have:=s.fr.at_ _ t et;rwa[rK ho ej]at this
  ·have h:=f.at_ i t e;have keep:∀a o,fG t=true->fg σ i=some (.ref a)->H a=some o->H6 a=some o:=λa o m q e1=>s.st a o e1 (f.fresh_nodk (f.own_at e m q).2) λi' t' e2 m2 q2=>by
    obtain⟨k,u,hk,eu,mu,qu⟩:=dm i' t' a e2 m2 q2;have:=f.ap k i a u t eu e mu m qu q;subst this;exact ni hk
   cases t with
   |no=>trivial
   |va T=>obtain⟨y,e1,v⟩:=h;exact⟨y,e1,v.hs hs⟩
   |own Ts=>obtain⟨a,xs,e1,e2,e3,z,p⟩:=h;exact⟨a,xs,e1,keep a _ rfl e1 e2,e3,z,p.hs hs⟩
   |dct OT=>obtain⟨a,kvs,e1,e2,e3,n,z,p⟩:=h;exact⟨a,kvs,e1,keep a _ rfl e1 e2,e3,n,z,p.hs hs⟩
   |dk=>exact h
 ·obtain⟨u,eu,mu⟩:=sub i t e m;obtain⟨u',eu',mu'⟩:=sub i' t' e' m';exact f.ap i i' a u u' eu eu' mu mu' q q'
end
theorem vR{K:W.Frag}{F:Fm}{own:Nat}{fr:List Nat}{ui:f9}{g:UG}{tf:d9}{ue:UT}(nd:fr.Nodup)(σ:St)(H:Hp)(QQ:VK)(h:tU K F (lO own fr ui g tf ue) σ H QQ):yE own fr (zi K F ui) (zh K F own g) (tT K F tf) (iR K F ue) σ H QQ:=by
 obtain⟨ρ,Q,f,h,k⟩:=h;refine⟨ρ,_,f,h,λJ Ts H1 ρ1 s1 it q1 a na=>?_⟩;obtain⟨len,q1⟩:=q1;refine⟨Ts.length,λi ys H2=>∃Us ρi,bj K F σ ρ1 H1 ρi H2/\cy K H2 ys Us/\Us.length<=i/\gW own fr g tf ue (Ts.drop i) ρi (λVs ρ'=>Q (Us++Vs) ρ'),⟨[],ρ1,bj.same s1.fr (cC na),.nil,bg _,q1⟩,?_⟩;rintro i ys H2 hi ha ⟨Us,ρi,si,p,hl,q⟩;have hs1:=si.hs s1.fr;obtain⟨go,yld,stop⟩:=it H2 hs1;by_cases hlt:i<Ts.length
 ·refine .inr ⟨hlt,go i hlt,λx H3 hy=>?_⟩;obtain⟨sm,T,eT,vx⟩:=yld i x H3 hlt hy;have s3:=si.trans (bj.same si.fr sm);have ha3:=sm _ _ ha;have ed:Ts.drop i=T::Ts.drop (i+1):=by
   rw[oi hlt];congr 1;rw[b9 hlt]at eT;exact Option.some.inj eT
  rw[ed]at q;have nodk:=s1.fr.none_nodk na;have nown:=s3.notown s1.fr na;refine⟨T,qm own fr ρi,_,vx,s3.fr.pick nd,q,λσ4 ρ4 f4 l4 d4 dr4 sb4 q4=>?_⟩;have e4:σ4=σ4.take own++σf fr σ:=by
   have:σ4.drop own=σf fr σ:=by
    rw[d4];unfold σc;rw[List.drop_append_of_le_length (by simp),List.drop_of_length_le (by simp),gi]
   rw[<-this,p6]
  have lo:(σ4.take own).length=own:=by
   rw[fu,l4];unfold σc;simp
  have notin:∀(j:Nat) (t:Sl),ρ4[j]?=some t->fG t=true->fg σ4 j≠some (.ref a):=λj t e m z=>by
   obtain⟨u,eu,mu⟩:=sb4 j t e m;rcases nE eu with⟨_,rfl⟩|⟨j',k,rfl,ek,es⟩
   ·cases mu
   ·rw[e4,rK lo ek]at z;exact nown k u (mR es (λz=>by rw[z]at mu;cases mu)) mu z
  refine⟨⟨σ4.take own,lo,e4⟩,ρ4,_,f4,q4,λb H5 ρ5 s5 q5=>?_⟩;have a5:H5 a=some (.lst ys):=s5.st a _ ha3 nodk notin;cases b with
  |true=>
   refine cT ?_;rw[if_pos rfl]at q5;refine⟨ρ5,_,s5.fr,q5,λy U H6 ρ6 s6 v6 q6=>?_⟩;have s46:=s5.trans s6;have a6:H6 a=some (.lst ys):=s46.st a _ ha3 nodk notin;have lys:ys.length=Us.length:=Paired.length p;refine⟨a6,Ag (by omega),Us++[U],qo own fr ρi ρ6,?_,?_,by rw[bw,j7];omega,?_⟩
   ·rw[e4]at s46 f4;exact(s3.trans (bj.back s3.fr nd s46 f4 lo dr4 sb4)).put s1.fr na a6 rfl _
   ·have h36:=s46.hs f4;exact cy.hs (iP a6 rfl) (Paired.snoc ((p.hs sm.hs).hs h36) v6)
   ·simpa using q6
  |false=>
   refine bH ?_;rw[if_neg cq]at q5;refine⟨a5,Us,qo own fr ρi ρ5,?_,?_,by omega,q5⟩
   ·rw[e4]at s5 f4;exact s3.trans (bj.back s3.fr nd s5 f4 lo dr4 sb4)
   ·exact(p.hs sm.hs).hs (s5.hs f4)
 ·have e:i=Ts.length:=by omega
  subst e;rw[p0]at q;have q:Q (Us++[]) ρi:=q;rw[gk]at q;exact .inl ⟨stop,k a ys Us H2 ρi (s1.trans si) (s1.non na) ha (by omega) p q⟩
section
variable{X:Cx}{F:Fm}{sc:Scope}{XN N:List Str}{own:Nat}{fr:List Nat}{scope:Scope}{elt tg iter:Expr}{ifs:List Expr}{pos:Pos}{ui:f9}{g:UG}{tf:d9}{ue:UT}
structure UF (X:Cx) (F:Fm) (ifs:List Expr) (u:d9):Prop where
 pf:uf X ifs (tT X.K F u)
def yz:d9:=λρ Q=>Q true ρ
theorem jO:UF X F [] yz:=⟨λOS s σ H Q I ⟨ρ,Q',f,h,k⟩=>Ii OS s σ H Q I (k _ _ _ (bj.refl f) h)⟩
theorem kK{c:Expr}{t:d9}(h:UB X F c t):UF X F [c] t:=⟨Ij h.pt⟩
theorem wX(hc:X.calm=true)(S:kU sc XN N own fr scope)(nd:fr.Nodup)(hi:UI X F tg iter ui)
  (hg:∀cl C fp s H,qp (cG X N scope cl C fp s H) F own tg g) (hf:∀cl C fp s H,UF (cG X N scope cl C fp s H) F ifs tf) (he:∀cl C fp s H,UE (cG X N scope cl C fp s H) F elt ue)
  (hs:∀x,foldedSetIterable iter X.env x=pure x:=by intro _;rfl) (hsc:X.env.scope=sc:=by rfl) (hxn:X.N=XN:=by rfl):UL X F (.ListComp elt [⟨tg,iter,ifs,0⟩] scope pos) (lO own fr ui g tf ue):=
 ⟨PE.imp (Iy hc S hi.pi (λcl C fp s H=>(hg cl C fp s H).pg) (λcl C fp s H=>(hf cl C fp s H).pf) (λcl C fp s H=>(he cl C fp s H).pe) hs hsc hxn) (vR nd)⟩
theorem KN{i:Nat}{x:Str}{pos' spos:Pos}(hc:X.calm=true)(hN:X.N.Nodup)(hx:X.N[i]?=some x)(hl:lr X.env.scope x)(S:kU sc XN N own fr scope)(nd:fr.Nodup)(hi:UI X F tg iter ui)
  (hg:∀cl C fp s H,qp (cG X N scope cl C fp s H) F own tg g) (hf:∀cl C fp s H,UF (cG X N scope cl C fp s H) F ifs tf) (he:∀cl C fp s H,UE (cG X N scope cl C fp s H) F elt ue)
  (hsw:swapsWith (.ListComp elt [⟨tg,iter,ifs,0⟩] scope pos) (some (.Name x pos')) spos.line X.env=pure true:=by rfl)
  (hf':X.fn x=true\/X.env.scope.names.lookup x=some .local:=by first|exact .inl rfl|exact .inr rfl|assumption)
  (hs:∀x,foldedSetIterable iter X.env x=pure x:=by intro _;rfl) (hsc:X.env.scope=sc:=by rfl) (hxn:X.N=XN:=by rfl):US X F (.Assign [.Name x pos'] (.ListComp elt [⟨tg,iter,ifs,0⟩] scope pos) spos) (uE i (lO own fr ui g tf ue)):=
 ⟨PS.imp (Ay hc hN hx hl S hi.pi (λcl C fp s H=>(hg cl C fp s H).pg) (λcl C fp s H=>(hf cl C fp s H).pf) (λcl C fp s H=>(he cl C fp s H).pe) hsw hf' hs hsc hxn) (BZ (vR nd))⟩
theorem PS.fz{st:Stmt}{t:TS}(h:PS X st t):PS X st (λD σ H=>t {D with nx:=λσ' H'=>D.nx σ' H'\/∃a o,H' a=some o/\ie o=true/\∀ob,D.nx σ' (au H' a (.frz ob o))} σ H):=λOS s σ H D I q=>bq (h OS s σ H _ I q) λfl s' z=>by
 cases fl with
 |next=>
  obtain⟨σ',H',I',q⟩:=z;rcases q with q|⟨a,o,e,n,q⟩
  ·exact⟨σ',H',I',q⟩
  ·obtain⟨ob,I2⟩:=I'.fz e n;exact⟨σ',_,I2,q ob⟩
 |brk=>exact z
 |cont=>exact z
 |ret u=>exact z
theorem J9{i:Nat}{x:Str}{pos' spos:Pos}(hc:X.calm=true)(hN:X.N.Nodup)(hx:X.N[i]?=some x)(hl:lr X.env.scope x)(S:kU sc XN N own fr scope)(nd:fr.Nodup)(hi:UI X F tg iter ui)
  (hg:∀cl C fp s H,qp (cG X N scope cl C fp s H) F own tg g) (hf:∀cl C fp s H,UF (cG X N scope cl C fp s H) F ifs tf) (he:∀cl C fp s H,UE (cG X N scope cl C fp s H) F elt ue)
  (hsw:swapsWith (.ListComp elt [⟨tg,iter,ifs,0⟩] scope pos) (some (.Name x pos')) spos.line X.env=pure true:=by rfl)
  (hf':X.fn x=true\/X.env.scope.names.lookup x=some .local:=by first|exact .inl rfl|exact .inr rfl|assumption)
  (hs:∀x,foldedSetIterable iter X.env x=pure x:=by intro _;rfl) (hsc:X.env.scope=sc:=by rfl) (hxn:X.N=XN:=by rfl):US X F (.Assign [.Name x pos'] (.ListComp elt [⟨tg,iter,ifs,0⟩] scope pos) spos) (oE i (uL (lO own fr ui g tf ue))):=
 ⟨PS.imp (PS.fz (Ay hc hN hx hl S hi.pi (λcl C fp s H=>(hg cl C fp s H).pg) (λcl C fp s H=>(hf cl C fp s H).pf) (λcl C fp s H=>(he cl C fp s H).pe) hsw hf' hs hsc hxn)) λD σ H ⟨ρ,P,f,h,k1,_⟩=>by
  refine vR nd σ H _ ⟨ρ,_,f,h,λa xs Ts H' ρ' s n e z p q=>?_⟩;refine .inr ⟨a,_,e,rfl,λob=>?_⟩;have s2:=s.put f n e rfl (.frz ob (.lst xs))
  exact k1 _ _ _ (s2.fr.set (s:=.va (.seq false Ts)) (λ_=>⟨_,rfl,VA.seq (t:=false) ⟨ob,bJ⟩ z (p.hs (iP e rfl))⟩) (λz=>absurd z cq)) (s2.hs f) q⟩
def jZ(g:UG)(ub:d_):List Tv->av->aV->Prop
 |[],P,ρ=>P.nx ρ
 |T::Ts,P,ρ=>g T ρ λρ1=>ub {P with nx:=λρ'=>jZ g ub Ts P ρ',ct:=λρ'=>jZ g ub Ts P ρ',bk:=P.nx} ρ1
def yu(ui:f9)(g:UG)(ub:d_):d_:=λP ρ=>ui ρ λTs ρ1=>jZ g ub Ts P ρ1
theorem fZ{body:List Stmt}{ub:d_}{m:Nat}(hp:PassesOwn (model X.prog X.w) X.A X.env X.xe)(hc:X.calm=true)(hi:UI X F tg iter ui)(hg:qp X F m tg g)(hb:km X F body ub)
  (hs:∀x,foldedSetIterable iter X.env x=pure x:=by intro _;rfl):US X F (.For tg iter body [] pos) (yu ui g ub):=⟨PS.imp (HB hp hc hi.pi hg.pg hb.ps hs) λD σ H ⟨ρ,P,f,h,k1,k2,k3,k4⟩=>by
 refine⟨ρ,_,f,h,λJ Ts H1 ρ1 s1 it q1=>?_⟩;have h01:=s1.hs f;refine⟨λi m σ' H'=>m=Ts.length-i/\i<=Ts.length/\HS H1 H'/\∃ρi,ar X.K F ρi σ' H'/\jZ g ub (Ts.drop i) P ρi,⟨_,rfl,g6 _,HS.refl _,ρ1,s1.fr,q1⟩,?_⟩;rintro i m σ' H' ⟨rfl,hi,hs,ρi,fi,q⟩;obtain⟨go,yld,stop⟩:=it H' hs;by_cases hlt:i<Ts.length
 ·refine .inr ⟨go i hlt,λσ2 H2=>HS H1 H2/\∃ρ2,ar X.K F ρ2 σ2 H2/\jZ g ub (Ts.drop (i+1)) P ρ2,λσ2 H2 ⟨hs2,ρ2,f2,q2⟩=>⟨_,by omega,rfl,hlt,hs2,ρ2,f2,q2⟩,λx H3 hy=>?_⟩;obtain⟨sm,T,eT,vx⟩:=yld i x H3 hlt hy;have ed:Ts.drop i=T::Ts.drop (i+1):=by
   rw[oi hlt];congr 1;rw[b9 hlt]at eT;exact Option.some.inj eT
  rw[ed]at q;have f3:=(bj.same fi sm).fr;refine⟨T,ρi,_,vx,f3,q,λσ4 ρ4 f4 _ _ _ _ q4=>?_⟩;have h13:=hs.trans sm.hs;exact⟨ρ4,_,f4,q4,λσ5 H5 ρ5 f5 hs5 q5=>⟨h13.trans hs5,ρ5,f5,q5⟩,k2,λσ5 H5 ρ5 f5 hs5 q5=>k1 _ _ _ f5 (h01.trans (h13.trans hs5)) q5,λσ5 H5 ρ5 f5 hs5 q5=>⟨h13.trans hs5,ρ5,f5,q5⟩⟩
 ·have e:i=Ts.length:=by omega
  subst e;rw[p0]at q
  exact .inl ⟨stop,k1 _ _ _ fi (h01.trans hs) q⟩⟩
def HX(t:d9)(ub:d_):d_:=λP ρ=>∃W:Nat->aV->Prop,(∃m,W m ρ)/\∀m ρ,W m ρ->t ρ λb ρ1=>if b=true then ub {P with nx:=λρ'=>∃m',m'<m/\W m' ρ',ct:=λρ'=>∃m',m'<m/\W m' ρ',bk:=P.nx} ρ1 else P.nx ρ1
theorem pB{c:Expr}{body:List Stmt}{t:d9}{ub:d_}(hp:PassesOwn (model X.prog X.w) X.A X.env X.xe)(hc:UB X F c t)(hb:km X F body ub):US X F (.While c body [] pos) (HX t ub):=⟨PS.imp (LJ hp hc.pt hb.ps) λD σ H ⟨ρ,P,f,⟨W,⟨m0,w0⟩,h⟩,k1,k2,k3,k4⟩=>by
 refine⟨λm σ' H'=>HS H H'/\∃ρ',ar X.K F ρ' σ' H'/\W m ρ',⟨m0,HS.refl _,ρ,f,w0⟩,?_⟩;rintro m σ' H' ⟨hs,ρ',f',w⟩;refine⟨ρ',_,f',h m ρ' w,λb H1 ρ1 s1 q1=>?_⟩;have h1:=hs.trans (s1.hs f');cases b with
 |true=>
  rw[if_pos rfl]at q1;refine cT ⟨λσ2 H2=>HS H H2/\∃m',m'<m/\∃ρ2,ar X.K F ρ2 σ2 H2/\W m' ρ2,λσ2 H2 ⟨hs2,m',lt,ρ2,f2,w2⟩=>⟨m',lt,hs2,ρ2,f2,w2⟩,?_⟩;exact⟨ρ1,_,s1.fr,q1,λσ5 H5 ρ5 f5 hs5 ⟨m',lt,w5⟩=>⟨h1.trans hs5,m',lt,ρ5,f5,w5⟩,k2,λσ5 H5 ρ5 f5 hs5 q5=>k1 _ _ _ f5 (h1.trans hs5) q5,λσ5 H5 ρ5 f5 hs5 ⟨m',lt,w5⟩=>⟨h1.trans hs5,m',lt,ρ5,f5,w5⟩⟩
 |false=>
  rw[if_neg cq]at q1
  exact bH (k1 _ _ _ s1.fr h1 q1)⟩
end
section
variable{K:W.Frag}{F:Fm}{ρ:aV}{σ:St}{H:Hp}{i:Nat}{s s':Sl}{a:Addr}{o o':HO}
theorem ar.put(fr:ar K F ρ σ H)(e:ρ[i]?=some s)(m:fG s=true)(q:fg σ i=some (.ref a))(h:H a=some o)(n:ie o=true)(v:HS H (au H a o')->F.H0 a=none->zT K F (au H a o') (some (.ref a)) s'):bj K F σ ρ H (ρ.set i s') (au H a o'):=by
 have hi:i<ρ.length:=(qB_.mp e).1;have h0:=(fr.own_at e m q).2;have hd:=fr.fresh_nodk h0;have hs:HS H (au H a o'):=iP h (by cases o<;>first|rfl|exact absurd n cq);have st:∀b u,b≠a->H b=some u->au H a o' b=some u:=λb u z e=>by rw[bR z];exact e
 have get:∀(j:Nat) (t:Sl),(ρ.set i s')[j]?=some t->(i=j/\t=s')\/(i≠j/\ρ[j]?=some t):=λj t e'=>by
  by_cases z:i=j
  ·subst z;rw[g4 hi]at e';exact .inl ⟨rfl,(Option.some.inj e').symm⟩
  ·rw[h_ z]at e';exact .inr ⟨z,e'⟩
 have sub:kf (ρ.set i s') ρ:=λj t e' m'=>by
  rcases get j t e' with⟨rfl,rfl⟩|⟨z,e'⟩
  ·exact⟨s,e,m⟩
  ·exact⟨t,e',m'⟩
 refine⟨⟨fr.d0,⟨λb u e1 n1=>st b u (λz=>by rw[z,h0]at e1;cases e1) (fr.kp.st b u e1 n1),λp c d=>?_⟩,by rw[ix];exact fr.len,λj t e'=>?_,λj k b t t' e1 e2 m1 m2 q1 q2=>?_⟩,λb u e1 _ n1=>st b u (λz=>n1 i s e m (by rw[z];exact q)) e1,sub,λb u e1=>if z:b=a then⟨o',z▸bJ⟩ else⟨u,st b u z e1⟩⟩
 ·obtain⟨ne,⟨S,k,e1⟩,ns,e2,l⟩:=fr.kp.dkk p c d;exact⟨ne,⟨S,k,st _ _ (hd p c d).1.symm e1⟩,ns,st _ _ (hd p c d).2.symm e2,l⟩
 ·rcases get j t e' with⟨rfl,rfl⟩|⟨z,e'⟩
  ·rw[q];exact v hs h0
  ·have x:=fr.at_ j t e';cases t with
   |no=>trivial
   |va T=>obtain⟨y,e1,v⟩:=x;exact⟨y,e1,v.hs hs⟩
   |own Ts=>obtain⟨b,xs,e1,e2,e3,z',p⟩:=x;exact⟨b,xs,e1,st _ _ (λy=>z (fr.ap i j a s _ e e' m rfl q (by rw[e1,y]))) e2,e3,z',p.hs hs⟩
   |dct OT=>obtain⟨b,kvs,e1,e2,e3,n',z',p⟩:=x;exact⟨b,kvs,e1,st _ _ (λy=>z (fr.ap i j a s _ e e' m rfl q (by rw[e1,y]))) e2,e3,n',z',p.hs hs⟩
   |dk=>exact x
 ·obtain⟨u,eu,mu⟩:=sub j t e1 m1;obtain⟨u',eu',mu'⟩:=sub k t' e2 m2;exact fr.ap j k b u u' eu eu' mu mu' q1 q2
end
section
variable{X:Cx}{F:Fm}{e:Expr}{u:UT}{x:Str}{p OY OW pos:Pos}
def xA(i:Nat)(u:UT):UT:=λρ Q=>(∃Ts,ρ[i]?=some (.own Ts))/\u ρ λT ρ1=>∃Ts,ρ1[i]?=some (.own Ts)/\Ts.length<100000/\Q nT (ρ1.set i (.own (Ts++[T])))
theorem mI(i:Nat)(h:UE X F e u)(hN:X.N[i]?=some x:=by rfl)(hv:q0 X.env.scope x:=by first|exact Or.inl rfl|exact Or.inr (Or.inl rfl)|exact Or.inr (Or.inr rfl))(hd:(x==("__debug__":Str))=false:=by decide)(hcd:(x==("__classdict__":Str))=false:=by decide)
  (O3:attributeBase (.Name x p) "append" X.env (eval (.Name x p) X.env)=eval (.Name x p) X.env:=by rfl)
  (hfew:((backTo OW (starEach [e] X.env)).all (λx=>!x.1)&&(backToKw OW (keywordEach [] X.env)).all (λx=>x.1.isSome)&&decide (([e]:List Expr).length+([]:List Keyword).length+(if ([]:List Keyword).isEmpty then 0 else 1)<30))=true:=by rfl)
  (O1:(OY.endLine==OW.line)=true:=by rfl) (hs:starEach [e] X.env=(false,eval e X.env)::starEach [] X.env:=by rfl) (O0:(backTo OW (starEach [] X.env)).any (·.1)=false:=by rfl) (hst:dQ e=false:=by rfl):
  UE X F (.Call (.Attribute (.Name x p) "append" OY) [e] [] OW) (xA i u):=⟨PE.imp (qB PySem.F.plainAttrs_list PySem.F.slot_list_append PySem.F.type_list_append vP (nO hN hv hd hcd) (aC h aE hst).pa O3 hfew O1 hs O0) λσ H QQ ⟨ρ,Q,f,⟨⟨Ts0,e0⟩,hu⟩,k⟩=>by
 obtain⟨a,xs,ea,eH,e3,z,pv⟩:=f.at_ i _ e0;refine⟨_,kX ea,.inl ⟨rfl,xs,bx.of eH⟩,ρ,λas ρ1=>∃T,as=[.va T]/\∃Ts,ρ1[i]?=some (.own Ts)/\Ts.length<100000/\Q nT (ρ1.set i (.own (Ts++[T]))),f,?_,λvs as H1 ρ1 s1 p1 q1=>?_⟩
 ·show u ρ _;have:(λT ρ1=>∃Ts,ρ1[i]?=some (.own Ts)/\Ts.length<100000/\Q nT (ρ1.set i (.own (Ts++[T]))))=(λT (ρ1:aV)=>(eG ρ1 λas ρ2=>∃T',Ar.va T::as=[.va T']/\∃Ts,ρ2[i]?=some (.own Ts)/\Ts.length<100000/\Q nT (ρ2.set i (.own (Ts++[T'])))) ):=by
   funext T ρ1;apply propext;constructor
   ·intro z;exact⟨T,rfl,z⟩
   ·rintro⟨T',e,z⟩;cases e;exact z
  rw[this]at hu;exact hu
 ·obtain⟨T,rfl,Ts,e1,lt,q⟩:=q1;cases p1 with
  |cons v t=>
   cases t;obtain⟨a',ys,ea',eH1,e3',z',pv'⟩:=s1.fr.at_ i _ e1;rw[ea]at ea';cases ea';have ll:ys.length=Ts.length:=Paired.length pv'
   refine⟨a,ys,_,rfl,rfl,eH1,Ag (by omega),k _ _ _ _ (s1.trans (s1.fr.put (s':=.own (Ts++[T])) e1 rfl ea eH1 rfl λhs h0=>⟨a,_,rfl,bJ,h0,by rw[bw,j7];omega,cy.hs hs (Paired.snoc pv' v)⟩)) (.flat rfl) q⟩⟩
def LM:V->List V->Hp->VK->Prop:=λx vs H Q=>∃l b xs zs,x=.ref l/\vs=[.ref b]/\H l=some (.lst xs)/\Rd H b (.lst zs)/\xs.length+zs.length<=sizeLine/\Q .non (au H l (.lst (xs++zs)))
theorem L3:tp X "list.extend" LM:=by
 rintro OS s σ H _ _ v us Q I rx rv ⟨l,b,xs,zs,rfl,rfl,hH,hB,hz,q⟩;cases rx;obtain⟨u,rfl,ru⟩:=rv.one;cases ru;obtain⟨z,its,n,r,hl,e⟩:=I.lstM hH;obtain⟨z2,its2,n2,r2,e2⟩:=hB.ok I.hok;have hl2:=r2.length;have hlong:¬ (!its.toArray.isEmpty&&Builtin.List.listTooLong (its.toArray.size+its2.toArray.size))=true:=by
  rw[B6 (by rw[cg,cg];omega),mf];exact cq
 refine call_meets F.slot_list_extend ⟨_,e,rfl⟩ F.entry_list_extend (F.args_list_extend_2 _ _) (AutoSeq1.list_extend_list_list_0 l its.toArray n b its2.toArray n2 hlong (by rw[cg];omega) (by rw[cg,cg];omega)) ⟨e,e2,?_⟩;exact⟨.non,_,I.lset (its':=its++its2) hH e (by simp) (r.append r2) (by rw[bw];omega),rfl,q⟩
def KG(i:Nat)(u:UT):UT:=λρ Q=>(∃Ts,ρ[i]?=some (.own Ts))/\u ρ λT ρ1=>∃Ts Us,ρ1[i]?=some (.own Ts)/\T=.seq false Us/\Ts.length+Us.length<=100000/\Q nT (ρ1.set i (.own (Ts++Us)))
theorem C0(i:Nat)(h:UE X F e u)(hN:X.N[i]?=some x:=by rfl)(hv:q0 X.env.scope x:=by first|exact Or.inl rfl|exact Or.inr (Or.inl rfl)|exact Or.inr (Or.inr rfl))(hd:(x==("__debug__":Str))=false:=by decide)(hcd:(x==("__classdict__":Str))=false:=by decide)
  (O3:attributeBase (.Name x p) "extend" X.env (eval (.Name x p) X.env)=eval (.Name x p) X.env:=by rfl)
  (hfew:((backTo OW (starEach [e] X.env)).all (λx=>!x.1)&&(backToKw OW (keywordEach [] X.env)).all (λx=>x.1.isSome)&&decide (([e]:List Expr).length+([]:List Keyword).length+(if ([]:List Keyword).isEmpty then 0 else 1)<30))=true:=by rfl)
  (O1:(OY.endLine==OW.line)=true:=by rfl) (hs:starEach [e] X.env=(false,eval e X.env)::starEach [] X.env:=by rfl) (O0:(backTo OW (starEach [] X.env)).any (·.1)=false:=by rfl) (hst:dQ e=false:=by rfl):
  UE X F (.Call (.Attribute (.Name x p) "extend" OY) [e] [] OW) (KG i u):=⟨PE.imp (qB PySem.F.plainAttrs_list PySem.F.slot_list_extend PySem.F.type_list_extend L3 (nO hN hv hd hcd) (aC h aE hst).pa O3 hfew O1 hs O0) λσ H QQ ⟨ρ,Q,f,⟨⟨Ts0,e0⟩,hu⟩,k⟩=>by
 obtain⟨a,xs,ea,eH,e3,z,pv⟩:=f.at_ i _ e0;refine⟨_,kX ea,.inl ⟨rfl,xs,bx.of eH⟩,ρ,λas ρ1=>∃T,as=[.va T]/\∃Ts Us,ρ1[i]?=some (.own Ts)/\T=.seq false Us/\Ts.length+Us.length<=100000/\Q nT (ρ1.set i (.own (Ts++Us))),f,?_,λvs as H1 ρ1 s1 p1 q1=>?_⟩
 ·show u ρ _;have:(λT ρ1=>∃Ts Us,ρ1[i]?=some (.own Ts)/\T=.seq false Us/\Ts.length+Us.length<=100000/\Q nT (ρ1.set i (.own (Ts++Us))))=(λT (ρ1:aV)=>(eG ρ1 λas ρ2=>∃T',Ar.va T::as=[.va T']/\∃Ts Us,ρ2[i]?=some (.own Ts)/\T'=.seq false Us/\Ts.length+Us.length<=100000/\Q nT (ρ2.set i (.own (Ts++Us)))) ):=by
   funext T ρ1;apply propext;constructor
   ·intro z;exact⟨T,rfl,z⟩
   ·rintro⟨T',e,z⟩;cases e;exact z
  rw[this]at hu;exact hu
 ·obtain⟨T,rfl,Ts,Us,e1,rfl,le,q⟩:=q1;cases p1 with
  |cons v t=>
   cases t;have v:VA X.K H1 _ (.seq false Us):=v;obtain⟨b,zs,rfl,⟨ob,hb⟩,_,pz⟩:=v.seqI;obtain⟨a',ys,ea',eH1,e3',z',pv'⟩:=s1.fr.at_ i _ e1;rw[ea]at ea';cases ea';have ll:ys.length=Ts.length:=Paired.length pv';have lz:zs.length=Us.length:=Paired.length pz
   refine⟨a,b,ys,zs,rfl,rfl,eH1,.inr ⟨ob,hb⟩,iI (by omega),k _ _ _ _ (s1.trans (s1.fr.put (s':=.own (Ts++Us)) e1 rfl ea eH1 rfl λhs h0=>⟨a,_,rfl,bJ,h0,by rw[bw];omega,cy.hs hs (qZ pv' pz)⟩)) (.flat rfl) q⟩⟩
def Hh(i:Nat)(u:UT):UT:=λρ Q=>(∃Ts,ρ[i]?=some (.own Ts))/\u ρ λJ ρ1=>∃(j:Int) (Ts:List Tv) (T:Tv),J=iT j/\ρ1[i]?=some (.own Ts)/\0<=j/\Ts[j.toNat]?=some T/\Q T (ρ1.set i (.own (Ts.eraseIdx j.toNat)))
theorem CF{α β:Type}{R:α->β->Prop}:∀{l:List α}{m:List β}(n:Nat),Paired R l m->Paired R (l.eraseIdx n) (m.eraseIdx n)
 |_,_,_,.nil=>.nil
 |_,_,0,.cons _ t=>t
 |_,_,n+1,.cons r t=>.cons r (CF n t)
theorem qV{α β:Type}{R:α->β->Prop}:∀{l:List α}{m:List β}{n:Nat}{y:β},Paired R l m->m[n]?=some y->∃x,l[n]?=some x/\R x y
 |_,_,_,_,.nil,e=>by simp at e
 |_,_,0,_,.cons r _,e=>by simp at e;subst e;exact⟨_,rfl,r⟩
 |_,_,n+1,_,.cons _ t,e=>by
  obtain⟨x,h1,h2⟩:=qV (n:=n) t (by simpa using e);exact⟨x,by simpa using h1,h2⟩
theorem wA(i:Nat)(h:UE X F e u)(hN:X.N[i]?=some x:=by rfl)(hv:q0 X.env.scope x:=by first|exact Or.inl rfl|exact Or.inr (Or.inl rfl)|exact Or.inr (Or.inr rfl))(hd:(x==("__debug__":Str))=false:=by decide)(hcd:(x==("__classdict__":Str))=false:=by decide)
  (O3:attributeBase (.Name x p) "pop" X.env (eval (.Name x p) X.env)=eval (.Name x p) X.env:=by rfl)
  (hfew:((backTo OW (starEach [e] X.env)).all (λx=>!x.1)&&(backToKw OW (keywordEach [] X.env)).all (λx=>x.1.isSome)&&decide (([e]:List Expr).length+([]:List Keyword).length+(if ([]:List Keyword).isEmpty then 0 else 1)<30))=true:=by rfl)
  (O1:(OY.endLine==OW.line)=true:=by rfl) (hs:starEach [e] X.env=(false,eval e X.env)::starEach [] X.env:=by rfl) (O0:(backTo OW (starEach [] X.env)).any (·.1)=false:=by rfl) (hst:dQ e=false:=by rfl):
  UE X F (.Call (.Attribute (.Name x p) "pop" OY) [e] [] OW) (Hh i u):=⟨PE.imp (qB PySem.F.plainAttrs_list PySem.F.slot_list_pop PySem.F.type_list_pop JY (nO hN hv hd hcd) (aC h aE hst).pa O3 hfew O1 hs O0) λσ H QQ ⟨ρ,Q,f,⟨⟨Ts0,e0⟩,hu⟩,k⟩=>by
 obtain⟨a,xs,ea,eH,e3,z,pv⟩:=f.at_ i _ e0;refine⟨_,kX ea,.inl ⟨rfl,xs,bx.of eH⟩,ρ,λas ρ1=>∃J,as=[.va J]/\∃(j:Int) (Ts:List Tv) (T:Tv),J=iT j/\ρ1[i]?=some (.own Ts)/\0<=j/\Ts[j.toNat]?=some T/\Q T (ρ1.set i (.own (Ts.eraseIdx j.toNat))),f,?_,λvs as H1 ρ1 s1 p1 q1=>?_⟩
 ·show u ρ _;have:(λJ ρ1=>∃(j:Int) (Ts:List Tv) (T:Tv),J=iT j/\ρ1[i]?=some (.own Ts)/\0<=j/\Ts[j.toNat]?=some T/\Q T (ρ1.set i (.own (Ts.eraseIdx j.toNat))))=(λJ (ρ1:aV)=>(eG ρ1 λas ρ2=>∃J',Ar.va J::as=[.va J']/\∃(j:Int) (Ts:List Tv) (T:Tv),J'=iT j/\ρ2[i]?=some (.own Ts)/\0<=j/\Ts[j.toNat]?=some T/\Q T (ρ2.set i (.own (Ts.eraseIdx j.toNat)))) ):=by
   funext T ρ1;apply propext;constructor
   ·intro z;exact⟨T,rfl,z⟩
   ·rintro⟨T',e,z⟩;cases e;exact z
  rw[this]at hu;exact hu
 ·obtain⟨J,rfl,j,Ts,T,rfl,e1,h0,eT,q⟩:=q1;cases p1 with
  |cons v t=>
   cases t;obtain⟨rfl,_⟩:=VA.leafI v;obtain⟨a',ys,ea',eH1,e3',z',pv'⟩:=s1.fr.at_ i _ e1;rw[ea]at ea';cases ea';have ll:ys.length=Ts.length:=Paired.length pv';have lt:=(qB_.mp eT).1;obtain⟨y,ey,vy⟩:=qV pv' eT;have s:=s1.fr.put (o':=.lst (ys.eraseIdx j.toNat)) e1 rfl ea eH1 rfl (s':=.own (Ts.eraseIdx j.toNat)) λhs h0=>⟨a,_,rfl,bJ,h0,by rw[List.length_eraseIdx];split<;>omega,cy.hs hs (CF _ pv')⟩
   refine⟨a,ys,j,j.toNat,y,rfl,rfl,eH1,by omega,by omega,PySem.StrLaws.seqIndex_nonneg h0 (by omega),ey,k _ _ _ _ (s1.trans s) (vy.hs (s.hs s1.fr)) q⟩⟩
end
theorem ag.frozen{X:Cx}{OS:List (Addr×Obj)}{σ:St}{H H2:Hp}{s:Shared}(I:ag X OS σ H s)(fro:bu qL H H2)(ok2:fj X.prog X.w H2 s.heap):ag X OS σ H2 s:=by
 refine⟨I.ok,I.os,I.bare,⟨I.base.keep,I.base.slot,λb o e n hx=>fro.none_of (I.base.free b o e n hx),I.base.there,λb xs e=>fro.keep (I.base.tups b xs e) rfl,λb o u e=>fro.keep (I.base.frzs b o u e) rfl,λb ps e=>?_⟩,I.loc,I.cell,fro.none_of I.free,λx c e=>fro.none_of (I.freeC x c e),λp hp=>?_,ok2,I.len⟩
 ·obtain⟨more,z⟩:=I.base.tbls b ps e;exact⟨more,fro.keep z rfl⟩
 ·obtain⟨p1,p2,p3⟩:=I.pin p hp;exact⟨p1,fro.none_of p2,p3⟩
theorem ag.thaw{X:Cx}{OS:List (Addr×Obj)}{σ:St}{H H3 H4:Hp}{s s':Shared}(I:ag X OS σ H s)(I3:ag X OS σ H3 s')(th:mz H H3 H4):ag X OS σ H4 s':=by
 have stay:∀b o,H3 b=some o->(∀u ob,o≠.frz ob u)->H4 b=some o:=λb o e n=>by
  rcases th b with⟨u,ob,_,_,z,_⟩|⟨_,z⟩
  ·rw[e]at z;cases z;exact absurd rfl (n u ob)
  ·rw[z];exact e
 have none4:∀b,H3 b=none->H4 b=none:=λb e=>by
  rcases th b with⟨u,ob,_,_,z,_⟩|⟨_,z⟩
  ·rw[e]at z;cases z
  ·rw[z];exact e
 refine⟨I3.ok,I3.os,I3.bare,⟨I3.base.keep,I3.base.slot,λb o e n hx=>none4 b (I3.base.free b o e n hx),I3.base.there,λb xs e=>stay b _ (I3.base.tups b xs e) (λ_ _ z=>by cases z),λb o u e=>?_,λb ps e=>?_⟩,I3.loc,I3.cell,none4 _ I3.free,λx c e=>none4 c (I3.freeC x c e),λp hp=>?_,λb o e=>?_,I3.len⟩
 ·rcases th b with⟨o',ob,n,z,_⟩|⟨_,z⟩
  ·rw[I.base.frzs b o u e]at z;cases z;exact absurd n cq
  ·rw[z];exact I3.base.frzs b o u e
 ·obtain⟨more,z⟩:=I3.base.tbls b ps e;exact⟨more,stay b _ z (λ_ _ z=>by cases z)⟩
 ·obtain⟨p1,p2,p3⟩:=I3.pin p hp;exact⟨p1,none4 _ p2,p3⟩
 ·have st:∀o,ay X.prog X.w H3 s'.heap b o->ay X.prog X.w H4 s'.heap b o:=λo x=>x.stay (λ_ _ _ r=>r) (λd r=>stay d _ r (λ_ _ z=>by cases z)) λd xs r=>stay d _ r (λ_ _ z=>by cases z)
  rcases th b with⟨o',ob,n,_,z,z'⟩|⟨_,z⟩
  ·rw[z']at e;cases e;obtain⟨_,y⟩:=(show ay X.prog X.w H3 s'.heap b (.frz ob o) from I3.hok b _ z)
   exact st o y
  ·rw[z]at e;exact st o (I3.hok b o e)
def N0:Sl->Sl
 |.own Ts=>.va (.seq false Ts)
 |.dct OT=>.va (.dct OT)
 |.dk=>.no
 |s=>s
def o6(ρ:aV):aV:=ρ.map N0
theorem ze{K:W.Frag}{F:Fm}{ρ:aV}{σ:St}{H H2:Hp}(f:ar K F ρ σ H)(fro:bu qL H H2):ar K ⟨H2,none⟩ (o6 ρ) σ H2:=by
 have hs:=fro.hs;refine⟨λ_ _ z=>(nomatch z),⟨λ_ _ e _=>e,λ_ _ z=>(nomatch z)⟩,by unfold o6;rw[ak];exact f.len,λi s e=>?_,λi j a s t e _ m _ _ _=>?_⟩
 ·unfold o6 at e;rw[gf]at e;obtain⟨s0,e0,rfl⟩:=qa1_.mp e;have h:=f.at_ i s0 e0;cases s0 with
  |no=>trivial
  |va T=>obtain⟨y,e1,v⟩:=h;exact⟨y,e1,v.hs hs⟩
  |own Ts=>
   obtain⟨a,xs,e1,e2,e3,z,p⟩:=h;obtain⟨ob,e4⟩:=fro.fz (b:=a) rfl e2 rfl;exact⟨_,e1,VA.seq (t:=false) ⟨ob,e4⟩ z (p.hs hs)⟩
  |dct OT=>
   obtain⟨a,kvs,e1,e2,e3,n,z,p⟩:=h;obtain⟨ob,e4⟩:=fro.fz (b:=a) rfl e2 rfl;exact⟨_,e1,VA.dct ⟨ob,e4⟩ n z (p.hs hs)⟩
  |dk=>trivial
 ·unfold o6 at e;rw[gf]at e;obtain⟨s0,e0,rfl⟩:=qa1_.mp e;cases s0<;>cases m
theorem Aq{K:W.Frag}{ρ ρ':aV}{σ:St}{H2 H3:Hp}{H0:Hp}(s:bj K ⟨H0,none⟩ σ (o6 ρ) H2 ρ' H3):aw H2 H3:=λb o e=>s.st b o e (λ_ _ z=>(nomatch z)) λi t e1 m=>by
 unfold o6 at e1;rw[gf]at e1;obtain⟨s0,e0,rfl⟩:=qa1_.mp e1;cases s0<;>cases m
section
variable{X:Cx}{F:Fm}{e:Expr}
def G6(u:UT):UT:=λρ Q=>u (o6 ρ) λT _=>∃v,T=.leaf v/\Q T ρ
theorem wZ{u:UT}(h:∀F,UE X F e u):UE X F e (G6 u):=⟨λOS s σ H QQ I ⟨ρ,Q,f,hu,k⟩=>by
 obtain⟨H2,fro,ok2⟩:=Di I.hok;have f2:=ze f fro;refine bq ((h ⟨H2,none⟩).pe OS s σ H2 (λx H3=>∃v ρ',bj X.K ⟨H2,none⟩ σ (o6 ρ) H2 ρ' H3/\VA X.K H3 x (.leaf v)/\Q (.leaf v) ρ) (I.frozen fro ok2) ⟨_,_,f2,hu,λx T H' ρ' st v q=>?_⟩) λu s' ⟨x,H3,I3,r,q⟩=>?_
 ·obtain⟨w,rfl,q⟩:=q;exact⟨w,ρ',st,v,q⟩
 ·obtain⟨v,ρ',st,va,q⟩:=q;obtain⟨H4,th⟩:=Cc H H3;obtain⟨rfl,fl⟩:=va.leafI
  exact⟨x,H4,I.thaw I3 th,r,k _ _ _ _ (bj.same f (mz.same fro (Aq st) th)) (.flat fl) q⟩⟩
def Hg(u:d9):d9:=λρ Q=>u (o6 ρ) λb _=>Q b ρ
theorem KJ{u:d9}(h:∀F,UB X F e u):UB X F e (Hg u):=⟨λOS s σ H QQ I ⟨ρ,Q,f,hu,k⟩=>by
 obtain⟨H2,fro,ok2⟩:=Di I.hok;have f2:=ze f fro;refine bq ((h ⟨H2,none⟩).pt OS s σ H2 (λb H3=>∃ρ',bj X.K ⟨H2,none⟩ σ (o6 ρ) H2 ρ' H3/\Q b ρ) (I.frozen fro ok2) ⟨_,_,f2,hu,λb H' ρ' st q=>⟨ρ',st,q⟩⟩) λb s' ⟨H3,I3,q⟩=>?_
 obtain⟨ρ',st,q⟩:=q;obtain⟨H4,th⟩:=Cc H H3
 exact⟨H4,I.thaw I3 th,k _ _ _ (bj.same f (mz.same fro (Aq st) th)) q⟩⟩
end
mutual
def eqT:Tv->Tv->Bool
 |.leaf v,.leaf w=>di v w
 |.seq s xs,.seq t ys=>s==t&&cX xs ys
 |_,_=>false
def cX:List Tv->List Tv->Bool
 |[],[]=>true
 |x::xs,y::ys=>eqT x y&&cX xs ys
 |_,_=>false
end
def gn:Nat->Tv->Prop
 |0,_=>False
 |_+1,.leaf _=>True
 |n+1,.seq _ xs=>∀U∈xs,gn n U
 |_+1,.dct _=>False
theorem wS:∀{xs ys:List Tv},xs.length≠ys.length->cX xs ys=false
 |[],[],h=>absurd rfl h
 |[],_::_,_=>by simp[cX]
 |_::_,[],_=>by simp[cX]
 |x::xs,y::ys,h=>by
  have:=wS (xs:=xs) (ys:=ys) (λe=>h (by simp[e]));simp[cX,this]
theorem vF:∀{xs ys:List Tv},xs.length=ys.length->(List.range xs.length).all (λi=>eqT (xs.getD i nT) (ys.getD i nT))=cX xs ys
 |[],[],_=>by simp[cX]
 |[],_::_,h=>by simp at h
 |_::_,[],h=>by simp at h
 |x::xs,y::ys,h=>by
  have ih:=vF (xs:=xs) (ys:=ys) (by simpa using h);rw[gc,nk,List.all_cons,qh];show(eqT x y&&(List.range xs.length).all λi=>eqT (xs.getD i nT) (ys.getD i nT))=cX (x::xs) (y::ys);rw[ih];simp[cX]
theorem gn.vp{K:W.Frag}{H:Hp}:∀{n d:Nat}{x:V}{T:Tv},gn n T->VP K H d x T->VP K H n x T
 |0,_,_,_,h,_=>False.elim h
 |_+1,0,_,_,_,h=>False.elim h
 |n+1,d+1,x,T,h,v=>by
  rcases v with v|⟨t,a,xs,Ts,e1,e2,rfl,z,p⟩|⟨a,kvs,OT,e1,e2,rfl,_⟩
  ·exact .inl v
  ·have g:∀U∈Ts,gn n U:=h;refine .inr (.inl ⟨t,a,xs,Ts,e1,e2,rfl,z,?_⟩);clear e2 z h
   induction p with
   |nil=>exact .nil
   |cons r _ ih=>exact .cons ((g _ (.head _)).vp r) (ih λU hU=>g U (.tail _ hU))
  ·exact False.elim h
section
variable{X:Cx}{OS:List (Addr×Obj)}{σ:St}{H:Hp}{s:Shared}
theorem Kr{v:V}(h:eE v=true):di v v=true:=by
 cases v<;>first|exact absurd h cq|simp[di]
theorem az.isList{a:Addr}{xs:List V}(I:ag X OS σ H s)(h:az X.K H false a xs):∃its:List Value,ai xs its/\s.heap.IsList a its.toArray:=by
 obtain⟨its,r,p,_⟩:=I.list (cH h);exact⟨its,r,p.isList⟩
theorem az.isTup{a:Addr}{xs:List V}(I:ag X OS σ H s)(h:az X.K H true a xs):∃its:List Value,ai xs its/\s.heap.IsTuple a its.toArray:=by
 obtain⟨its,r,p,_⟩:=I.tuple h;exact⟨its,r,p⟩
theorem AY(I:ag X OS σ H s):∀{n:Nat}{x:V}{T U:Tv},VP X.K H n x T->VP X.K H n x U->gn n T->gn n U->eqT T U=true
 |0,_,_,_,h,_,_,_=>False.elim h
 |n+1,x,T,U,h,h',d,d'=>by
  rcases h with⟨f,rfl⟩|⟨t,a,xs,Ts,rfl,e2,rfl,z,p⟩|⟨a,kvs,OT,rfl,e2,rfl,_⟩
  ·rcases h' with⟨_,rfl⟩|⟨t',a',xs',Ts',rfl,_⟩|⟨a',kvs',kts',rfl,_⟩
   ·simp[eqT,Kr f]
   ·cases f
   ·cases f
  ·rcases h' with⟨f,rfl⟩|⟨t',a',xs',Ts',e1',e2',rfl,z',p'⟩|⟨a',kvs',kts',e1',e2',rfl,_⟩
   ·cases f
   ·cases e1';have tt:t=t':=by
     cases t<;>cases t'<;>first|rfl|skip
     ·obtain⟨_,_,l1⟩:=az.isList I e2;obtain⟨_,_,l2⟩:=az.isTup I e2';exact absurd rfl (SeqAt.ne_of_list_tuple l1 l2)
     ·obtain⟨_,_,l1⟩:=az.isList I e2';obtain⟨_,_,l2⟩:=az.isTup I e2;exact absurd rfl (SeqAt.ne_of_list_tuple l1 l2)
    subst tt;have ex:xs=xs':=by
     cases t with
     |false=>exact I.list_inj (cH e2) (cH e2')
     |true=>exact I.tuple_inj e2 e2'
    subst ex;have d:∀U∈Ts,gn n U:=d;have d':∀U∈Ts',gn n U:=d';have key:∀{xs:List V} {Ts Ts':List Tv},Paired (VP X.K H n) xs Ts->Paired (VP X.K H n) xs Ts'->(∀U∈Ts,gn n U)->(∀U∈Ts',gn n U)->cX Ts Ts'=true:=by
     intro xs Ts Ts' p
     induction p generalizing Ts' with
     |nil=>intro p' _ _;cases p';simp[cX]
     |cons r _ ih=>
      intro p' d d';cases p' with
      |cons r' t'=>simp[cX,AY I r r' (d _ (.head _)) (d' _ (.head _)),ih t' (λU hU=>d U (.tail _ hU)) (λU hU=>d' U (.tail _ hU))]
    simp[eqT,key p p' d d']
   ·exact False.elim d'
  ·exact False.elim d
theorem mG{x:V}(h:eE x=true):x=.non\/(∃b,x=.bl b)\/(∃i,x=.int i)\/∃z,x=.str z:=by
 cases x with
 |non=>exact .inl rfl
 |bl b=>exact .inr (.inl ⟨b,rfl⟩)
 |int i=>exact .inr (.inr (.inl ⟨i,rfl⟩))
 |str z=>exact .inr (.inr (.inr ⟨z,rfl⟩))
 |_=>exact absurd (show false=true from h) cq
open SeqAt in
theorem qX(I:ag X OS σ H s){A:Around}(hu:A.units<cLine){x:V}{v:Value}{t:Bool}{a:Addr}{xs:List V}(f:eE x=true)(r:ah x v)(h:az X.K H t a xs):
  EqAt A s v (.ref a) false/\EqAt A s (.ref a) v false/\RcAt A s v (.ref a) false/\RcAt A s (.ref a) v false/\RcNeAt A s v (.ref a) true/\RcNeAt A s (.ref a) v true:=by
 cases t with
 |false=>
  obtain⟨_,_,l⟩:=az.isList I h;rcases mG f with rfl|⟨b,rfl⟩|⟨b,rfl⟩|⟨b,rfl⟩
  ·cases r;exact⟨.none_list l hu,.list_none l hu,.none_list l hu,.list_none l hu,.none_list l hu,.list_none l hu⟩
  ·cases r;exact⟨.bool_list b l hu,.list_bool b l hu,.bool_list b l hu,.list_bool b l hu,.bool_list b l hu,.list_bool b l hu⟩
  ·obtain⟨t,rfl⟩:=r;exact⟨.int_list b t l hu,.list_int b t l hu,.int_list b t l hu,.list_int b t l hu,.int_list b t l hu,.list_int b t l hu⟩
  ·obtain⟨t,rfl⟩:=r;exact⟨.str_list b t l hu,.list_str b t l hu,.str_list b t l hu,.list_str b t l hu,.str_list b t l hu,.list_str b t l hu⟩
 |true=>
  obtain⟨_,_,l⟩:=az.isTup I h;rcases mG f with rfl|⟨b,rfl⟩|⟨b,rfl⟩|⟨b,rfl⟩
  ·cases r;exact⟨.none_tuple l hu,.tuple_none l hu,.none_tuple l hu,.tuple_none l hu,.none_tuple l hu,.tuple_none l hu⟩
  ·cases r;exact⟨.bool_tuple b l hu,.tuple_bool b l hu,.bool_tuple b l hu,.tuple_bool b l hu,.bool_tuple b l hu,.tuple_bool b l hu⟩
  ·obtain⟨t,rfl⟩:=r;exact⟨.int_tuple b t l hu,.tuple_int b t l hu,.int_tuple b t l hu,.tuple_int b t l hu,.int_tuple b t l hu,.tuple_int b t l hu⟩
  ·obtain⟨t,rfl⟩:=r;exact⟨.str_tuple b t l hu,.tuple_str b t l hu,.str_tuple b t l hu,.tuple_str b t l hu,.str_tuple b t l hu,.tuple_str b t l hu⟩
open SeqAt in
theorem IM{A:Around}{x y:V}{v u:Value}(fx:eE x=true)(fy:eE y=true)(rx:ah x v)(ry:ah y u):RcAt A s v u (di x y)/\RcNeAt A s v u (!di x y):=by
 rcases mG fx with rfl|⟨a,rfl⟩|⟨a,rfl⟩|⟨a,rfl⟩<;>rcases mG fy with rfl|⟨b,rfl⟩|⟨b,rfl⟩|⟨b,rfl⟩
 ·cases rx;cases ry;exact⟨.none_none,.none_none⟩
 ·cases rx;cases ry;exact⟨.none_bool b,.none_bool b⟩
 ·cases rx;obtain⟨t,rfl⟩:=ry;exact⟨.none_int b t,.none_int b t⟩
 ·cases rx;obtain⟨t,rfl⟩:=ry;exact⟨.none_str b t,.none_str b t⟩
 ·cases rx;cases ry;exact⟨.bool_none a,.bool_none a⟩
 ·cases rx;cases ry;exact⟨.bool_bool a b,.bool_bool a b⟩
 ·cases rx;obtain⟨t,rfl⟩:=ry;exact⟨.bool_int a b t,.bool_int a b t⟩
 ·cases rx;obtain⟨t,rfl⟩:=ry;exact⟨.bool_str a b t,.bool_str a b t⟩
 ·obtain⟨t',rfl⟩:=rx;cases ry;exact⟨.int_none a t',.int_none a t'⟩
 ·obtain⟨t',rfl⟩:=rx;cases ry;exact⟨.int_bool a t' b,.int_bool a t' b⟩
 ·obtain⟨t',rfl⟩:=rx;obtain⟨t,rfl⟩:=ry;exact⟨.int_int a t' b t,.int_int a t' b t⟩
 ·obtain⟨t',rfl⟩:=rx;obtain⟨t,rfl⟩:=ry;exact⟨.int_str a t' b t,.int_str a t' b t⟩
 ·obtain⟨t',rfl⟩:=rx;cases ry;exact⟨.str_none a t',.str_none a t'⟩
 ·obtain⟨t',rfl⟩:=rx;cases ry;exact⟨.str_bool a t' b,.str_bool a t' b⟩
 ·obtain⟨t',rfl⟩:=rx;obtain⟨t,rfl⟩:=ry;exact⟨.str_int a t' b t,.str_int a t' b t⟩
 ·obtain⟨t',rfl⟩:=rx;obtain⟨t,rfl⟩:=ry;exact⟨.str_str a t' b t,.str_str a t' b t⟩
theorem Bw{xs:List V}{us:List Value}(r:ai xs us){j:Nat}(h:j<us.toArray.size):∃x,xs[j]?=some x/\ah x us.toArray[j]:=by
 have l:=r.length;have k:j<xs.length:=by rw[l];simpa using h
 obtain⟨u,hu,ru⟩:=r.get (i:=j) (x:=xs[j]) (b9 k);refine⟨_,b9 k,?_⟩;have e1:us.toArray[j]=u:=by
  obtain⟨_,e⟩:=qB_.mp hu;simpa using e
 rw[e1];exact ru
open SeqAt in
theorem Bc(I:ag X OS σ H s){A:Around}(hu:A.units<cLine){t:Bool}{a b:Addr}{xs ys:List V}{Ts Us:List Tv}(ha:az X.K H t a xs)(hb:az X.K H t b ys)(lx:xs.length=Ts.length)(ly:ys.length=Us.length)
  (it:∀(j:Nat) (x y:V) (T U:Tv) (v u:Value),xs[j]?=some x->ys[j]?=some y->Ts[j]?=some T->Us[j]?=some U->ah x v->ah y u->EqAt A.in1 s v u (eqT T U)):RcAt A s (.ref a) (.ref b) (cX Ts Us)/\RcNeAt A s (.ref a) (.ref b) (!cX Ts Us):=by
 have item:∀{vs us:List Value},ai xs vs->ai ys us->∀j (h1:j<vs.toArray.size) (h2:j<us.toArray.size),EqAt A.in1 s vs.toArray[j] us.toArray[j] (eqT (Ts.getD j nT) (Us.getD j nT)):=λ{vs us} r1 r2 j h1 h2=>by
  obtain⟨x,ex,rx⟩:=Bw r1 h1;obtain⟨y,ey,ry⟩:=Bw r2 h2;have k1:=(qB_.mp ex).1;have k2:=(qB_.mp ey).1;refine it j x y _ _ _ _ ex ey ?_ ?_ rx ry
  ·rw[ki,b9 (by omega)];rfl
  ·rw[ki,b9 (by omega)];rfl
 cases t with
 |false=>
  obtain⟨vs,r1,l1⟩:=az.isList I ha;obtain⟨us,r2,l2⟩:=az.isList I hb;have n1:=r1.length;have n2:=r2.length;by_cases hl:Ts.length=Us.length
  ·have e1:=RcAt.lists l1 l2 (by simp only[cg];omega) hu (item r1 r2);have e2:=RcNeAt.lists l1 l2 (by simp only[cg];omega) hu (item r1 r2);rw[show vs.toArray.size=Ts.length by rw[cg];omega,vF hl]at e1 e2;exact⟨e1,e2⟩
  ·rw[wS hl];have hne:(vs.toArray.size != us.toArray.size)=true:=by
    rw[bne_iff_ne,cg,cg];omega
   exact⟨.lists_lengths l1 l2 hne hu,.lists_lengths l1 l2 hne hu⟩
 |true=>
  obtain⟨vs,r1,l1⟩:=az.isTup I ha;obtain⟨us,r2,l2⟩:=az.isTup I hb;have n1:=r1.length;have n2:=r2.length;have e1:=RcAt.tuples l1 l2 hu (item r1 r2);have e2:=RcNeAt.tuples l1 l2 hu (item r1 r2);have ee:((List.range (min vs.toArray.size us.toArray.size)).all (λi=>eqT (Ts.getD i nT) (Us.getD i nT))&&vs.toArray.size==us.toArray.size)=cX Ts Us:=by
   rw[show vs.toArray.size=Ts.length by rw[cg];omega,show us.toArray.size=Us.length by rw[cg];omega];by_cases hl:Ts.length=Us.length
   ·rw[<-hl,Nat.min_self,vF hl];simp
   ·rw[wS hl,beq_eq_false_iff_ne.mpr hl,mf]
  rw[ee]at e1 e2;exact⟨e1,e2⟩
open SeqAt in
theorem xO(I:ag X OS σ H s):∀(n:Nat) {A:Around}{x y:V}{T U:Tv}{v u:Value},A.units+n<cLine->gn n T->gn n U->VP X.K H n x T->VP X.K H n y U->ah x v->ah y u->EqAt A s v u (eqT T U)
 |0,_,_,_,_,_,_,_,_,h,_,_,_,_,_=>False.elim h
 |n+1,A,x,y,T,U,v,u,hu,d,d',h,h',rx,ry=>by
  have hu0:A.units<cLine:=by omega
  have hh:=h;have hh':=h';rcases h with⟨f,rfl⟩|⟨t,a,xs,Ts,rfl,e2,rfl,z,p⟩|⟨a,kvs,OT,rfl,e2,rfl,_⟩
  ·rcases h' with⟨f',rfl⟩|⟨t',a',xs',Ts',rfl,e2',rfl,z',p'⟩|⟨a',kvs',kts',rfl,_,rfl,_⟩
   ·have:=x9 (A:=A) (s:=s) rx ry f f';simpa[eqT]using this
   ·cases ry;have:=(qX I hu0 f rx e2').1;simpa[eqT]using this
   ·exact False.elim d'
  ·rcases h' with⟨f',rfl⟩|⟨t',b,ys,Us,rfl,e2',rfl,z',p'⟩|⟨a',kvs',kts',rfl,_,rfl,_⟩
   ·cases rx;have:=(qX I hu0 f' ry e2).2.1;simpa[eqT]using this
   ·cases rx;cases ry;by_cases ab:a=b
    ·subst ab;have:=AY I hh hh' d d';rw[this];exact EqAt.same _
    ·by_cases tt:t=t'
     ·subst tt;have d:∀U∈Ts,gn n U:=d;have d':∀U∈Us,gn n U:=d'
      have:=(Bc I hu0 e2 e2' (Paired.length p) (Paired.length p') λj x y T U v u ex ey eT eU rx ry=>by
       obtain⟨T',eT',vx⟩:=fR p ex;obtain⟨U',eU',vy⟩:=fR p' ey;rw[eT]at eT';cases eT';rw[eU]at eU';cases eU'
       exact xO I n (by show A.units+1+n<_;omega) (d _ (i5 eT)) (d' _ (i5 eU)) vx vy rx ry).1
      have r:=EqAt.of_refs ab this;simpa[eqT]using r
     ·have e:eqT (.seq t Ts) (.seq t' Us)=false:=by simp[eqT,tt]
      rw[e];refine EqAt.of_refs ab ?_;cases t<;>cases t'<;>first|exact absurd rfl tt|skip
      ·obtain⟨_,_,l1⟩:=az.isList I e2;obtain⟨_,_,l2⟩:=az.isTup I e2';exact .list_tuple l1 l2 hu0
      ·obtain⟨_,_,l1⟩:=az.isTup I e2;obtain⟨_,_,l2⟩:=az.isList I e2';exact .tuple_list l1 l2 hu0
   ·exact False.elim d'
  ·exact False.elim d
end
def DJ(Ts Us:List Tv):Prop:=Ts=[]\/Us=[]\/((∀T∈Ts,gn 40 T)/\∀U∈Us,gn 40 U)
def kR(neg:Bool):P2
 |.leaf v,.leaf w,Q=>Q (bT (neg != di v w))
 |.leaf _,.seq _ _,Q=>Q (bT neg)
 |.seq _ _,.leaf _,Q=>Q (bT neg)
 |.seq s xs,.seq t ys,Q=>DJ xs ys/\Q (bT (neg != (s==t&&cX xs ys)))
 |_,_,_=>False
section
variable{X:Cx}
open SeqAt in
theorem AX{OS:List (Addr×Obj)}{σ:St}{H:Hp}{s:Shared}(I:ag X OS σ H s)(hu:X.A.units+64<cLine){neg:Bool}{x y:V}{T U:Tv}{v u:Value}{Q:Tv->Prop}(vx:VA X.K H x T)(vy:VA X.K H y U)(rx:ah x v)(ry:ah y u)(h:kR neg T U Q):
  ∃b,Q (bT (neg != b))/\RcAt X.A s v u b/\RcNeAt X.A s v u (!b):=by
 have hu0:X.A.units<cLine:=by omega
 unfold kR at h;split at h
 ·obtain⟨rfl,f⟩:=vx.leafI;obtain⟨rfl,f'⟩:=vy.leafI;exact⟨_,h,IM f f' rx ry⟩
 ·obtain⟨rfl,f⟩:=vx.leafI;obtain⟨a,xs,rfl,hs,_⟩:=vy.seqI;cases ry;have r:=qX I hu0 f rx hs;exact⟨false,by simpa using h,r.2.2.1,r.2.2.2.2.1⟩
 ·obtain⟨rfl,f⟩:=vy.leafI;obtain⟨a,xs,rfl,hs,_⟩:=vx.seqI;cases rx;have r:=qX I hu0 f ry hs;exact⟨false,by simpa using h,r.2.2.2.1,r.2.2.2.2.2⟩
 ·rename_i t Ts t' Us;obtain⟨ok,q⟩:=h;obtain⟨a,xs,rfl,hs,z,p⟩:=vx.seqI;obtain⟨b,ys,rfl,hs',z',p'⟩:=vy.seqI;cases rx;cases ry;refine⟨_,q,?_⟩;by_cases tt:t=t'
  ·subst tt;have e:(t==t&&cX Ts Us)=cX Ts Us:=by simp
   rw[e];refine Bc I hu0 hs hs' (Paired.length p) (Paired.length p') λj x y T U v u ex ey eT eU rx ry=>?_
   rcases ok with rfl|rfl|⟨o1,o2⟩
   ·cases eT
   ·cases eU
   ·obtain⟨T',eT',d,vx⟩:=fR p ex;obtain⟨U',eU',d',vy⟩:=fR p' ey;rw[eT]at eT';cases eT';rw[eU]at eU';cases eU';have k1:=o1 _ (i5 eT);have k2:=o2 _ (i5 eU);exact xO I 40 (by show X.A.units+1+40<_;omega) k1 k2 (k1.vp vx) (k2.vp vy) rx ry
  ·have e:(t==t'&&cX Ts Us)=false:=by simp[tt]
   rw[e];cases t<;>cases t'<;>first|exact absurd rfl tt|skip
   ·obtain⟨_,_,l1⟩:=az.isList I hs;obtain⟨_,_,l2⟩:=az.isTup I hs';exact⟨.list_tuple l1 l2 hu0,.list_tuple l1 l2 hu0⟩
   ·obtain⟨_,_,l1⟩:=az.isTup I hs;obtain⟨_,_,l2⟩:=az.isList I hs';exact⟨.tuple_list l1 l2 hu0,.tuple_list l1 l2 hu0⟩
 ·exact False.elim h
def xp(K:W.Frag)(neg:Bool):R2:=λx y H Q=>∃T U,VA K H x T/\VA K H y U/\kR neg T U λW=>∃b,W=bT b/\Q (.bl b) H
theorem Gf(hu:X.A.units+64<cLine):cn X (compareOp .Eq) (xp X.K false):=by
 rintro OS s σ H x y v u Q I rx ry ⟨T,U,vx,vy,h⟩;obtain⟨b,⟨b',e,q⟩,r,_⟩:=AX I hu vx vy rx ry h;cases e;exact r X.prog X.w X.xe _ ⟨.bl b,H,I,rfl,by simpa using q⟩
theorem Gi(hu:X.A.units+64<cLine):cn X (compareOp .NotEq) (xp X.K true):=by
 rintro OS s σ H x y v u Q I rx ry ⟨T,U,vx,vy,h⟩;obtain⟨b,⟨b',e,q⟩,_,r⟩:=AX I hu vx vy rx ry h;cases e;exact r X.prog X.w X.xe _ ⟨.bl (!b),H,I,rfl,by simpa using q⟩
theorem CS{neg:Bool}{T U:Tv}{Q Q':Tv->Prop}(h:kR neg T U Q)(i:∀b,Q (bT b)->Q' (bT b)):kR neg T U Q':=by
 unfold kR at h ⊢;split at h
 ·exact i _ h
 ·exact i _ h
 ·exact i _ h
 ·exact⟨h.1,i _ h.2⟩
 ·exact False.elim h
abbrev vo:P2:=kR false
abbrev Dv:P2:=kR true
theorem jT(hu:X.A.units+64<cLine):cw X (compareOp .Eq) vo:=⟨_,Gf hu,λx y T U H Q QQ vx vy h k=>⟨T,U,vx,vy,CS h λb q=>⟨b,rfl,k _ _ _ (aw.refl _) (.flat rfl) q⟩⟩⟩
theorem E7(hu:X.A.units+64<cLine):cw X (compareOp .NotEq) Dv:=⟨_,Gi hu,λx y T U H Q QQ vx vy h k=>⟨T,U,vx,vy,CS h λb q=>⟨b,rfl,k _ _ _ (aw.refl _) (.flat rfl) q⟩⟩⟩
end
section
variable{X:Cx}{F:Fm}
theorem dH{K:W.Frag}{H:Hp}{xs:List V}{T:Tv}(h:cy K H xs [T]):∃x,xs=[x]/\VA K H x T:=by
 cases h with
 |cons r t=>cases t;exact⟨_,rfl,r⟩
theorem yO{K:W.Frag}{H:Hp}{xs:List V}{T U:Tv}(h:cy K H xs [T,U]):∃x y,xs=[x,y]/\VA K H x T/\VA K H y U:=by
 cases h with
 |cons r t=>
  obtain⟨y,rfl,v⟩:=dH t;exact⟨_,y,rfl,r,v⟩
def E_(K:W.Frag):R2:=λx y H Q=>∃l b xs zs,x=.ref l/\y=.ref b/\Rd H l (.lst xs)/\Rd H b (.lst zs)/\xs.length+zs.length<=sizeLine/\∀p,H p=none->Q (.ref p) (au H p (.lst (xs++zs)))
theorem Jq:cn X (binaryOp .Add) (E_ X.K):=by
 rintro OS s σ H _ _ v u Q I rx ry ⟨l,b,xs,zs,rfl,rfl,hH,hB,hz,q⟩;cases rx;cases ry;obtain⟨z,its,n,r,e⟩:=hH.ok I.hok;obtain⟨z2,its2,n2,r2,e2⟩:=hB.ok I.hok;have l1:=r.length;have l2:=r2.length;refine PySem.P.add_list e e2 ?_ (by rw[cg,cg];omega);rw[show its.toArray++its2.toArray=(its++its2).toArray by simp];exact⟨.ref _,_,I.lnew (t':=s.toks) (r.append r2) (by rw[bw];omega),rfl,q _ I.fresh⟩
def zM:P2
 |.leaf (.int i),.leaf (.int j),Q=>Q (iT (i+j))
 |.leaf (.str x),.leaf (.str y),Q=>x.length+y.length<=100000/\Q (sT (x++y))
 |.seq true xs,.seq true ys,Q=>xs.length+ys.length<=100000/\Q (.seq true (xs++ys))
 |.seq false xs,.seq false ys,Q=>xs.length+ys.length<=100000/\Q (.seq false (xs++ys))
 |_,_,_=>False
theorem bY:hE X (binaryOp .Add) zM:=⟨_,op_add.or (op_add_str.or (op_catG.or Jq)),λx y T U H Q QQ vx vy h k=>by
 unfold zM at h;split at h
 ·obtain⟨rfl,_⟩:=vx.leafI;obtain⟨rfl,_⟩:=vy.leafI;exact .inl ⟨_,_,rfl,rfl,k _ _ _ (.flat rfl) h⟩
 ·obtain⟨rfl,_⟩:=vx.leafI;obtain⟨rfl,_⟩:=vy.leafI;exact .inr (.inl ⟨_,_,rfl,rfl,iI h.1,k _ _ _ (.flat rfl) h.2⟩)
 ·obtain⟨a,xs,rfl,hs,z,p⟩:=vx.seqI;obtain⟨b,ys,rfl,hs',z',p'⟩:=vy.seqI;have l1:xs.length=_:=Paired.length p;have l2:ys.length=_:=Paired.length p';refine .inr (.inr (.inl ⟨a,b,xs,ys,rfl,rfl,hs,hs',iI (by omega),λr H' hr sm=>k _ _ _ ⟨sm,.inl (VA.seq (t:=true) hr (by rw[bw];exact h.1) (qZ (p.hs sm.hs) (p'.hs sm.hs)))⟩ h.2⟩))
 ·obtain⟨a,xs,rfl,⟨ob,hs⟩,z,p⟩:=vx.seqI;obtain⟨b,ys,rfl,⟨ob',hs'⟩,z',p'⟩:=vy.seqI;have l1:xs.length=_:=Paired.length p;have l2:ys.length=_:=Paired.length p';refine .inr (.inr (.inr ⟨a,b,xs,ys,rfl,rfl,.inr ⟨ob,hs⟩,.inr ⟨ob',hs'⟩,iI (by omega),λr n=>k _ _ _ (iu.lst n (by rw[bw];exact h.1) (qZ p p')) h.2⟩))
 ·exact False.elim h⟩
def t6(C:Int->Int->Prop)(g:Int->Int->V):P2
 |.leaf (.int i),.leaf (.int j),Q=>C i j/\Q (.leaf (g i j))
 |_,_,_=>False
theorem tQ{f:Value->Value->Sem Value}{C:Int->Int->Prop}{g:Int->Int->V}(h:cn X f (rI C g))(fl:∀i j,eE (g i j)=true):cw X f (t6 C g):=⟨_,h,λx y T U H Q QQ vx vy h k=>by
 unfold t6 at h;split at h
 ·obtain⟨rfl,_⟩:=vx.leafI;obtain⟨rfl,_⟩:=vy.leafI;exact⟨_,_,rfl,rfl,h.1,k _ _ _ (aw.refl _) (.flat (fl _ _)) h.2⟩
 ·exact False.elim h⟩
def qK(g:Int->Int->V):P2
 |.leaf (.int i),.leaf (.int j),Q=>Q (.leaf (g i j))
 |_,_,_=>False
theorem yA{f:Value->Value->Sem Value}{g:Int->Int->V}(h:cn X f (qw g))(fl:∀i j,eE (g i j)=true):cw X f (qK g):=⟨_,h,λx y T U H Q QQ vx vy h k=>by
 unfold qK at h;split at h
 ·obtain⟨rfl,_⟩:=vx.leafI;obtain⟨rfl,_⟩:=vy.leafI;exact⟨_,_,rfl,rfl,k _ _ _ (aw.refl _) (.flat (fl _ _)) h⟩
 ·exact False.elim h⟩
abbrev D6:P2:=qK λi j=>.int (i-j)
theorem gU:hE X (binaryOp .Sub) D6:=(yA Gm λ_ _=>rfl).op
def Fx(i j:Int):Prop:=qt i j\/(dc i/\dc j)
def zL:P2
 |.leaf (.int i),.leaf (.int j),Q=>Fx i j/\Q (iT (i*j))
 |.leaf (.str z),.leaf (.int n),Q=>(z.length<=1000/\n<=1000 /\ -1000<=n)/\Q (sT (lX z n))
 |_,_,_=>False
theorem HH:hE X (binaryOp .Mult) zL:=⟨_,op_mul.or (op_mulB.or Jt),λx y T U H Q QQ vx vy h k=>by
 unfold zL at h;split at h
 ·obtain⟨rfl,_⟩:=vx.leafI;obtain⟨rfl,_⟩:=vy.leafI;rcases h.1 with c|c
  ·exact .inl ⟨_,_,rfl,rfl,c,k _ _ _ (.flat rfl) h.2⟩
  ·exact .inr (.inl ⟨_,_,rfl,rfl,c,k _ _ _ (.flat rfl) h.2⟩)
 ·obtain⟨rfl,_⟩:=vx.leafI;obtain⟨rfl,_⟩:=vy.leafI;exact .inr (.inr ⟨_,_,rfl,rfl,h.1.1,h.1.2.1,h.1.2.2,k _ _ _ (.flat rfl) h.2⟩)
 ·exact False.elim h⟩
abbrev EW:P2:=t6 (λ_ j=>0<j/\dc j) λi j=>.int (i / j)
theorem AA:hE X (binaryOp .FloorDiv) EW:=(tQ Bf λ_ _=>rfl).op
abbrev D3:P2:=t6 (λ_ j=>0<j) λi j=>.int (i % j)
theorem sX:hE X (binaryOp .Mod) D3:=(tQ jQ λ_ _=>rfl).op
abbrev D4:P2:=t6 w4 λi j=>.int (i ^ j.toNat)
theorem pR:hE X (binaryOp .Pow) D4:=(tQ yl λ_ _=>rfl).op
def Dw:P2
 |.leaf (.int i),.leaf (.int j),Q=>Q (bT (decide (i<j)))
 |.leaf (.str x),.leaf (.str y),Q=>Q (bT (decide (x.cps.toList<y.cps.toList)))
 |_,_,_=>False
theorem tO:cw X (compareOp .Lt) Dw:=⟨_,op_lt.or Lc,λx y T U H Q QQ vx vy h k=>by
 unfold Dw at h;split at h
 ·obtain⟨rfl,_⟩:=vx.leafI;obtain⟨rfl,_⟩:=vy.leafI;exact .inl ⟨_,_,rfl,rfl,k _ _ _ (aw.refl _) (.flat rfl) h⟩
 ·obtain⟨rfl,_⟩:=vx.leafI;obtain⟨rfl,_⟩:=vy.leafI;exact .inr ⟨_,_,rfl,rfl,k _ _ _ (aw.refl _) (.flat rfl) h⟩
 ·exact False.elim h⟩
abbrev N1:P2:=qK λi j=>.bl (decide (i<=j))
theorem xq:cw X (compareOp .LtE) N1:=yA EV λ_ _=>rfl
abbrev N2:P2:=qK λi j=>.bl (decide (j<i))
theorem tR:cw X (compareOp .Gt) N2:=yA EU λ_ _=>rfl
def wj(v:V):Tv->Bool
 |.leaf w=>decide (w=v)
 |_=>false
theorem tE{K:W.Frag}{H:Hp}{x v:V}{T:Tv}(f:eE v=true)(h:VA K H x T):decide (x=v)=wj v T:=by
 cases T with
 |leaf w=>obtain⟨rfl,_⟩:=h.leafI;rfl
 |seq t Ts=>
  obtain⟨a,_,rfl,_⟩:=h.seqI;exact iq (λz=>by rw[<-z]at f;cases f)
 |dct OT=>
  obtain⟨a,_,rfl,_⟩:=h.dctI;exact iq (λz=>by rw[<-z]at f;cases f)
def uQ(neg:Bool):P2
 |T,.leaf .non,Q=>Q (bT (neg != wj .non T))
 |T,.leaf (.bl b),Q=>Q (bT (neg != wj (.bl b) T))
 |_,_,_=>False
abbrev Dy:P2:=uQ false
abbrev yn:P2:=uQ true
theorem tP:cw X (compareOp .Is) Dy:=⟨_,op_isN.or Gh,λx y T U H Q QQ vx vy h k=>by
 unfold Dy uQ at h;split at h
 ·obtain⟨rfl,_⟩:=vy.leafI;exact .inl ⟨rfl,k _ _ _ (aw.refl _) (.flat rfl) (by rw[tE rfl vx];simpa using h)⟩
 ·obtain⟨rfl,_⟩:=vy.leafI;exact .inr ⟨_,rfl,k _ _ _ (aw.refl _) (.flat rfl) (by rw[tE rfl vx];simpa using h)⟩
 ·exact False.elim h⟩
theorem LK:cw X (compareOp .IsNot) yn:=⟨_,op_notN.or Lb,λx y T U H Q QQ vx vy h k=>by
 unfold yn uQ at h;split at h
 ·obtain⟨rfl,_⟩:=vy.leafI;exact .inl ⟨rfl,k _ _ _ (aw.refl _) (.flat rfl) (by rw[tE rfl vx];simpa using h)⟩
 ·obtain⟨rfl,_⟩:=vy.leafI;exact .inr ⟨_,rfl,k _ _ _ (aw.refl _) (.flat rfl) (by rw[tE rfl vx];simpa using h)⟩
 ·exact False.elim h⟩
theorem xV{OS:List (Addr×Obj)}{σ:St}{H:Hp}{s:Shared}(I:ag X OS σ H s):∀{n:Nat}{x:V}{T U:Tv},gn n T->gn n U->VP X.K H n x T->VP X.K H n x U->T=U
 |0,_,_,_,h,_,_,_=>False.elim h
 |n+1,x,T,U,d,d',h,h'=>by
  rcases h with⟨f,rfl⟩|⟨t,a,xs,Ts,rfl,e2,rfl,z,p⟩|⟨a,kvs,OT,rfl,e2,rfl,_⟩
  ·rcases h' with⟨_,rfl⟩|⟨t',a',xs',Ts',rfl,_⟩|⟨a',kvs',kts',rfl,_⟩
   ·rfl
   ·cases f
   ·cases f
  ·rcases h' with⟨f,rfl⟩|⟨t',a',xs',Ts',e1',e2',rfl,z',p'⟩|⟨a',kvs',kts',e1',e2',rfl,_⟩
   ·cases f
   ·cases e1';have tt:t=t':=by
     cases t<;>cases t'<;>first|rfl|skip
     ·obtain⟨_,_,l1⟩:=az.isList I e2;obtain⟨_,_,l2⟩:=az.isTup I e2';exact absurd rfl (SeqAt.ne_of_list_tuple l1 l2)
     ·obtain⟨_,_,l1⟩:=az.isList I e2';obtain⟨_,_,l2⟩:=az.isTup I e2;exact absurd rfl (SeqAt.ne_of_list_tuple l1 l2)
    subst tt;have ex:xs=xs':=by
     cases t with
     |false=>exact I.list_inj (cH e2) (cH e2')
     |true=>exact I.tuple_inj e2 e2'
    subst ex;have g:∀U∈Ts,gn n U:=d;have g':∀U∈Ts',gn n U:=d';have key:∀{xs:List V} {Ts Ts':List Tv},Paired (VP X.K H n) xs Ts->Paired (VP X.K H n) xs Ts'->(∀U∈Ts,gn n U)->(∀U∈Ts',gn n U)->Ts=Ts':=by
     intro xs Ts Ts' p
     induction p generalizing Ts' with
     |nil=>intro p' _ _;cases p';rfl
     |cons r _ ih=>
      intro p' d d';cases p' with
      |cons r' t'=>rw[xV I (d _ (.head _)) (d' _ (.head _)) r r',ih t' (λU hU=>d U (.tail _ hU)) (λU hU=>d' U (.tail _ hU))]
    rw[key p p' g g']
   ·exact False.elim d'
  ·exact False.elim d
def oP(T:Tv)(Us:List Tv):Prop:=gn 40 T/\∀U∈Us,gn 40 U
open Classical in
theorem rZ{OS:List (Addr×Obj)}{σ:St}{H:Hp}{s:Shared}(I:ag X OS σ H s)(hu:X.A.units+64<cLine){x:V}{T:Tv}{v:Value}{ys:List V}{Us:List Tv}{its:List Value}(vx:VA X.K H x T)(rx:ah x v)(p:cy X.K H ys Us)(r:ai ys its)(ok:oP T Us):
  ∃e:Value->Bool,(∀y,y∈its.toArray->SeqAt.EqAt X.A.in1 s y v (e y))/\its.toArray.any e=Us.any λU=>eqT U T:=by
 obtain⟨dx,vx⟩:=vx;have hx:=ok.1.vp vx;refine⟨λw=>decide (∃y U,ah y w/\VP X.K H 40 y U/\gn 40 U/\eqT U T=true),λw hw=>?_,?_⟩
 ·have hw:w∈its:=by simpa using hw
  obtain⟨j,hj,rfl⟩:=qm2_.mp hw;have hj':j<ys.length:=by rw[r.length];exact hj
  obtain⟨u,eu,ru⟩:=r.get (b9 hj');rw[b9 hj]at eu;cases eu;obtain⟨U,eU,d,vU⟩:=fR p (b9 hj');have dU:=ok.2 U (i5 eU);have e:=xO I 40 (A:=X.A.in1) (by show X.A.units+1+40<_;omega) dU ok.1 (dU.vp vU) hx ru rx;have ee:decide (∃y U,ah y its[j]/\VP X.K H 40 y U/\gn 40 U/\eqT U T=true)=eqT U T:=by
   rw[j5,decide_eq_true_iff];constructor
   ·rintro⟨y,U',ry,vy,dy,z⟩;have:=ah.inj ry ru;subst this;rw[xV I dU dy (dU.vp vU) vy];exact z
   ·intro z;exact⟨_,U,ru,dU.vp vU,dU,z⟩
  show SeqAt.EqAt X.A.in1 s its[j] v (decide (∃y U,ah y its[j]/\VP X.K H 40 y U/\gn 40 U/\eqT U T=true));rw[ee];exact e
 ·rw[j5,Array.any_eq_true',qX_];constructor
  ·rintro⟨w,hw,z⟩;rw[decide_eq_true_iff]at z;obtain⟨y,U',ry,vy,dy,z⟩:=z;have hw:w∈its:=by simpa using hw
   obtain⟨j,hj,rfl⟩:=qm2_.mp hw;have hj':j<ys.length:=by rw[r.length];exact hj
   obtain⟨u,eu,ru⟩:=r.get (b9 hj');rw[b9 hj]at eu;cases eu;obtain⟨U,eU,d,vU⟩:=fR p (b9 hj');have dU:=ok.2 U (i5 eU);have:=ah.inj ry ru;subst this;refine⟨U,i5 eU,?_⟩;rw[xV I dU dy (dU.vp vU) vy];exact z
  ·rintro⟨U,hU,z⟩;obtain⟨j,hj,rfl⟩:=qm2_.mp hU;obtain⟨y,ey,d,vy⟩:=qV p (b9 hj);obtain⟨u,eu,ru⟩:=r.get ey;have dU:=ok.2 _ hU;exact⟨u,by simpa using i5 eu,gp ⟨y,_,ru,dU.vp vy,dU,z⟩⟩
def zp(K:W.Frag)(neg:Bool):R2:=λx y H Q=>∃T t Us,VA K H x T/\VA K H y (.seq t Us)/\oP T Us/\Q (.bl (neg != Us.any λU=>eqT U T)) H
theorem Gg(hu:X.A.units+64<cLine):cn X (compareOp .In) (zp X.K false):=by
 rintro OS s σ H x y v u Q I rx ry ⟨T,t,Us,vx,vy,ok,q⟩;obtain⟨a,ys,rfl,hs,z,p⟩:=vy.seqI;cases ry;cases t with
 |false=>
  obtain⟨its,r,l⟩:=az.isList I hs;obtain⟨e,h1,h2⟩:=rZ I hu vx rx p r ok;exact SeqAt.in_listAt e l h1 ⟨.bl _,H,I,rfl,by rw[h2];simpa using q⟩
 |true=>
  obtain⟨its,r,l⟩:=az.isTup I hs;obtain⟨e,h1,h2⟩:=rZ I hu vx rx p r ok;exact SeqAt.in_tupleAt e l h1 ⟨.bl _,H,I,rfl,by rw[h2];simpa using q⟩
theorem Ld(hu:X.A.units+64<cLine):cn X (compareOp .NotIn) (zp X.K true):=by
 rintro OS s σ H x y v u Q I rx ry ⟨T,t,Us,vx,vy,ok,q⟩;obtain⟨a,ys,rfl,hs,z,p⟩:=vy.seqI;cases ry;cases t with
 |false=>
  obtain⟨its,r,l⟩:=az.isList I hs;obtain⟨e,h1,h2⟩:=rZ I hu vx rx p r ok;exact SeqAt.notIn_listAt e l h1 ⟨.bl _,H,I,rfl,by rw[h2];simpa using q⟩
 |true=>
  obtain⟨its,r,l⟩:=az.isTup I hs;obtain⟨e,h1,h2⟩:=rZ I hu vx rx p r ok;exact SeqAt.notIn_tupleAt e l h1 ⟨.bl _,H,I,rfl,by rw[h2];simpa using q⟩
def IJ:R2:=λy x H Q=>∃a o,x=.ref a/\kA H a y o/\Q (.bl (!o.isSome)) H
theorem MX(hu:X.A.units+1<cLine):cn X (compareOp .NotIn) IJ:=by
 rintro OS s σ H y _ u v Q I ry rx ⟨a,o,rfl,g,q⟩;cases rx;exact JF hu I g ry λs' I'=>⟨.bl _,H,I',rfl,q⟩
def qk(i j:Str):Bool:=!(Builtin.Str.occurrences j i 0 j.length 1).isEmpty
def uR(neg:Bool):P2
 |T,.seq _ Us,Q=>oP T Us/\Q (bT (neg != Us.any λU=>eqT U T))
 |.leaf (.str i),.leaf (.str j),Q=>Q (bT (neg != qk i j))
 |.leaf (.str k),.dct OT,Q=>Q (bT (neg != (dA OT k).isSome))
 |_,_,_=>False
abbrev Dz:P2:=uR false
abbrev A6:P2:=uR true
theorem nU(hu:X.A.units+64<cLine):cw X (compareOp .In) Dz:=⟨_,(Gg hu).or (op_in_str.or (L7 (by omega))),λx y T U H Q QQ vx vy h k=>by
 unfold Dz uR at h;split at h
 ·exact .inl ⟨_,_,_,vx,vy,h.1,k _ _ _ (aw.refl _) (.flat rfl) h.2⟩
 ·obtain⟨rfl,_⟩:=vx.leafI;obtain⟨rfl,_⟩:=vy.leafI;exact .inr (.inl ⟨_,_,rfl,rfl,k _ _ _ (aw.refl _) (.flat rfl) (by simpa[qk]using h)⟩)
 ·rename_i kk OT;obtain⟨rfl,_⟩:=vx.leafI;obtain⟨a,kvs,rfl,⟨ob,hd⟩,n,z,p⟩:=vy.dctI;refine .inr (.inr ⟨a,_,rfl,.inl ⟨kvs,.inr kk,.inr ⟨ob,hd⟩,rfl,rfl⟩,k _ _ _ (aw.refl _) (.flat rfl) ?_⟩);rcases sJ p kk with⟨e1,e2⟩|⟨U,v,e1,e2,_⟩
  ·rw[e2];rw[e1]at h;exact h
  ·rw[e2];rw[e1]at h;exact h
 ·exact False.elim h⟩
theorem Bl(hu:X.A.units+64<cLine):cw X (compareOp .NotIn) A6:=⟨_,(Ld hu).or (op_notIn_str.or (MX (by omega))),λx y T U H Q QQ vx vy h k=>by
 unfold A6 uR at h;split at h
 ·exact .inl ⟨_,_,_,vx,vy,h.1,k _ _ _ (aw.refl _) (.flat rfl) h.2⟩
 ·obtain⟨rfl,_⟩:=vx.leafI;obtain⟨rfl,_⟩:=vy.leafI;exact .inr (.inl ⟨_,_,rfl,rfl,k _ _ _ (aw.refl _) (.flat rfl) (by simpa[qk]using h)⟩)
 ·rename_i kk OT;obtain⟨rfl,_⟩:=vx.leafI;obtain⟨a,kvs,rfl,⟨ob,hd⟩,n,z,p⟩:=vy.dctI;refine .inr (.inr ⟨a,_,rfl,.inl ⟨kvs,.inr kk,.inr ⟨ob,hd⟩,rfl,rfl⟩,k _ _ _ (aw.refl _) (.flat rfl) ?_⟩);rcases sJ p kk with⟨e1,e2⟩|⟨U,v,e1,e2,_⟩
  ·rw[e2];rw[e1]at h;exact h
  ·rw[e2];rw[e1]at h;exact h
 ·exact False.elim h⟩
def t5:P2
 |.seq _ Ts,.leaf (.int i),Q=>∃U,j_ Ts i=some U/\Q U
 |.leaf (.str z),.leaf (.int i),Q=>z.length<=100000/\∃c,j_ z.cps.toList i=some c/\Q (sT ⟨#[c]⟩)
 |.dct OT,.leaf (.str k),Q=>∃U,dA OT k=some U/\Q U
 |_,_,_=>False
theorem MG{α β:Type}{R:α->β->Prop}{xs:List α}{ys:List β}{i:Int}{y:β}(p:Paired R xs ys)(h:j_ ys i=some y):∃x,j_ xs i=some x/\R x y:=by
 unfold j_ at h ⊢;rw[Paired.length p];cases e:qy ys.length i with
 |none=>rw[e]at h;cases h
 |some j=>
  rw[e]at h;obtain⟨x,ex,r⟩:=qV p (show ys[j]?=some y from h);exact⟨x,ex,r⟩
theorem E6(hu:X.A.units+64<cLine):w8 X t5:=⟨_,ix_seq.or (Jj (by omega)),λx y T U H Q QQ vx vy h k=>by
 unfold t5 at h;split at h
 ·rename_i t Ts i;obtain⟨rfl,_⟩:=vy.leafI;obtain⟨a,xs,rfl,hs,z,p⟩:=vx.seqI;obtain⟨U,e,q⟩:=h;obtain⟨x,ex,v⟩:=MG p e;cases t with
  |false=>exact .inl (.inl ⟨a,xs,i,x,rfl,rfl,cH hs,ex,k _ _ _ (.va v) q⟩)
  |true=>exact .inl (.inr (.inl ⟨a,xs,i,x,rfl,rfl,hs,ex,k _ _ _ (.va v) q⟩))
 ·obtain⟨rfl,_⟩:=vx.leafI;obtain⟨rfl,_⟩:=vy.leafI;obtain⟨l,c,e,q⟩:=h;exact .inl (.inr (.inr ⟨_,_,c,rfl,rfl,iI l,e,k _ _ _ (.flat rfl) q⟩))
 ·rename_i OT kk;obtain⟨rfl,_⟩:=vy.leafI;obtain⟨a,kvs,rfl,⟨ob,hd⟩,n,z,p⟩:=vx.dctI;obtain⟨U,e,q⟩:=h;rcases sJ p kk with⟨e1,e2⟩|⟨U',v,e1,e2,vv⟩
  ·rw[e1]at e;cases e
  ·rw[e1]at e;cases e;exact .inr ⟨a,v,rfl,.inl ⟨kvs,.inr kk,.inr ⟨ob,hd⟩,rfl,e2.symm⟩,k _ _ _ (.va vv) q⟩
 ·exact False.elim h⟩
def kS{α:Type}(xs:List α)(lo hi:Option Int):List α:=(xs.drop (HT.sIx xs.length 0 lo)).take (HT.sIx xs.length xs.length hi-HT.sIx xs.length 0 lo)
theorem Cv{α β:Type}{R:α->β->Prop}:∀{l:List α}{m:List β}(n:Nat),Paired R l m->Paired R (l.drop n) (m.drop n)
 |_,_,0,p=>p
 |_,_,_+1,.nil=>.nil
 |_,_,n+1,.cons _ t=>Cv n t
theorem CT{α β:Type}{R:α->β->Prop}:∀{l:List α}{m:List β}(n:Nat),Paired R l m->Paired R (l.take n) (m.take n)
 |_,_,0,p=>by rw[r8,r8];exact .nil
 |_,_,_+1,.nil=>.nil
 |_,_,n+1,.cons r t=>.cons r (CT n t)
theorem Cg{α β:Type}{R:α->β->Prop}{l:List α}{m:List β}(lo hi:Option Int)(p:Paired R l m):Paired R (kS l lo hi) (kS m lo hi):=by
 unfold kS;rw[Paired.length p];exact CT _ (Cv _ p)
theorem Ko{α:Type}(xs:List α)(lo hi:Option Int):(kS xs lo hi).length<=xs.length:=by
 unfold kS;rw[fu,mx];omega
def D5:vz
 |.seq t Ts,lo,hi,Q=>Q (.seq t (kS Ts lo hi))
 |.leaf (.str z),lo,hi,Q=>z.length<=100000/\Q (sT (Txt.slice z lo hi))
 |_,_,_,_=>False
theorem jG:xa X D5:=⟨_,sl_list.or (sl_tupW.or H_),λx T lo hi H Q QQ vx h k=>by
 cases T with
 |seq t Ts=>
  have h:Q (.seq t (kS Ts lo hi)):=h;obtain⟨a,xs,rfl,hs,z,p⟩:=vx.seqI;have z':(kS Ts lo hi).length<=100000:=cx (Ko _ _ _) z;cases t with
  |false=>exact .inl ⟨a,xs,rfl,cH hs,λr n=>k _ _ _ (iu.lst n z' (Cg lo hi p)) h⟩
  |true=>exact .inr (.inl ⟨a,xs,rfl,hs,λr H' sm hr=>k _ _ _ ⟨sm,.inl (VA.seq (t:=true) hr z' (Paired.mapP (Cg lo hi p) λ_ _ q=>VA.hs sm.hs q))⟩ h⟩)
 |leaf w=>
  cases w with
  |str zz=>
   have h:zz.length<=100000/\Q (sT (Txt.slice zz lo hi)):=h;obtain⟨rfl,_⟩:=vx.leafI;exact .inr (.inr ⟨_,rfl,iI h.1,k _ _ _ (.flat rfl) h.2⟩)
  |_=>exact False.elim h
 |dct OT=>exact False.elim h⟩
def uP:Pn
 |[.seq _ Ts],Q=>Q (iT Ts.length)
 |[.leaf (.str z)],Q=>z.length<=100000/\Q (iT z.length)
 |[.dct OT],Q=>Q (iT OT.length)
 |_,_=>False
theorem cF:iQ X (.builtin "len") uP:=⟨_,call_len_seq.or (call_len_str.or MJ),λxs Ts H Q QQ vx h k=>by
 unfold uP at h;split at h
 ·rename_i t Ts;obtain⟨x,rfl,v⟩:=dH vx;obtain⟨a,xs,rfl,hs,z,p⟩:=v.seqI;have l:xs.length=_:=Paired.length p;refine .inl ⟨a,xs,rfl,?_,k _ _ _ (.flat rfl) (by rw[l];exact h)⟩;cases t with
  |false=>exact .inl (cH hs)
  |true=>exact .inr hs
 ·obtain⟨x,rfl,v⟩:=dH vx;obtain⟨rfl,_⟩:=v.leafI;exact .inr (.inl ⟨_,rfl,iI h.1,k _ _ _ (.flat rfl) h.2⟩)
 ·obtain⟨x,rfl,v⟩:=dH vx;obtain⟨a,kvs,rfl,⟨ob,hd⟩,n,z,p⟩:=v.dctI;have l:kvs.length=_:=Paired.length p;exact .inr (.inr ⟨a,kvs,rfl,.inr ⟨ob,hd⟩,k _ _ _ (.flat rfl) (by rw[l];exact h)⟩)
 ·exact False.elim h⟩
def uS(T:String):Tv->Bool
 |.leaf .non=>false
 |.leaf (.bl _)=>T=="bool" || T=="int"
 |.leaf (.int _)=>T=="int"
 |.leaf (.str _)=>T=="str"
 |.leaf _=>false
 |.seq false _=>T=="list"
 |.seq true _=>T=="tuple"
 |.dct _=>T=="dict"
theorem G0{K:W.Frag}{H:Hp}{x:V}{W:Tv}(T:String)(v:VA K H x W):q_ K T x H (uS T W):=by
 cases W with
 |leaf w=>
  obtain⟨rfl,f⟩:=v.leafI;rcases mG f with rfl|⟨b,rfl⟩|⟨b,rfl⟩|⟨b,rfl⟩<;>rfl
 |seq t Ts=>
  obtain⟨a,xs,rfl,hs,z,p⟩:=v.seqI;cases t with
  |false=>exact .inl ⟨xs,cH hs,rfl⟩
  |true=>exact .inr (.inl ⟨xs,hs,rfl⟩)
 |dct OT=>
  obtain⟨a,kvs,rfl,⟨ob,hd⟩,n,z,p⟩:=v.dctI;exact .inr (.inr ⟨kvs,.inr ⟨ob,hd⟩,rfl⟩)
def Ft(T:String)(u:UT):UT:=λρ Q=>u ρ λW ρ1=>Q (bT (uS T W)) ρ1
theorem dZ{e t:Expr}{u:UT}{p pos:Pos}(T:String)(hc:aq X (.builtin "isinstance") (λxs H Q=>∃x b,xs=[x,.ty T]/\q_ X.K T x H b/\Q (.bl b) H))(hg:Gl X "isinstance")(hm:X.mg "isinstance"=none)(he:UE X F e u)(ht:PE X t (tC (.ty T)))
  (h1:dQ e=false:=by rfl) (h2:dQ t=false:=by rfl) (hpl:(backTo pos (starEach [t] X.env)).any (·.1)=false:=by rfl):UE X F (.Call (.Name "isinstance" p) [e,t] [] pos) (Ft T u):=
 ⟨PE.imp (iD hc hg hm boot_isinstance (cM he.pe (cM ht cW h2) h1) (by decide) (by decide) (gP h1) hpl) λσ H QQ ⟨ρ,Q,f,h,k⟩=>
  ⟨ρ,_,f,h,λx W H1 ρ1 s1 v1 q1=>⟨x,_,rfl,G0 T v1,k _ _ _ _ s1 (.flat rfl) q1⟩⟩⟩
theorem pH{K:W.Frag}{H:Hp}:∀{xs:List V}{bs:List Bool},cy K H xs (bs.map bT)->xs=bs.map V.bl
 |[],[],_=>rfl
 |_::_,_::_,.cons r t=>by rw[e6,<-pH t,(VA.leafI r).1]
theorem rO{K:W.Frag}{H:Hp}:∀{xs:List V}{ns:List Int},cy K H xs (ns.map iT)->xs=ns.map V.int
 |[],[],_=>rfl
 |_::_,_::_,.cons r t=>by rw[e6,<-rO t,(VA.leafI r).1]
theorem iB{K:W.Frag}{H:Hp}:∀{xs:List V}{ss:List Str},cy K H xs (ss.map sT)->xs=ss.map V.str
 |[],[],_=>rfl
 |_::_,_::_,.cons r t=>by rw[e6,<-iB t,(VA.leafI r).1]
theorem xW{K:W.Frag}{H:Hp}:∀(bs:List Bool),cy K H (bs.map V.bl) (bs.map bT)
 |[]=>.nil
 |_::bs=>.cons (.flat rfl) (xW bs)
theorem Cf{K:W.Frag}{H:Hp}:∀(ns:List Int),cy K H (ns.map V.int) (ns.map iT)
 |[]=>.nil
 |_::ns=>.cons (.flat rfl) (Cf ns)
theorem mV{K:W.Frag}{H:Hp}:∀(ss:List Str),cy K H (ss.map V.str) (ss.map sT)
 |[]=>.nil
 |_::ss=>.cons (.flat rfl) (mV ss)
def DZ:Pn:=λTs Q=>∃bs:List Bool,Ts=[.seq false (bs.map bT)]/\Q (bT (bs.any id))
theorem HG(hc:X.calm=true):iQ X (.builtin "any") DZ:=⟨_,Lz hc,λxs Ts H Q QQ vx h k=>by
 obtain⟨bs,rfl,q⟩:=h;obtain⟨x,rfl,v⟩:=dH vx;obtain⟨a,ys,rfl,hs,z,p⟩:=v.seqI;rw[pH p]at hs
 exact⟨a,bs,rfl,cH hs,k _ _ _ (.flat rfl) q⟩⟩
def D2:Pn:=λTs Q=>(∃i j:Int,Ts=[iT i,iT j]/\Q (iT (min i j)))\/(∃ns:List Int,Ts=[.seq false (ns.map iT)]/\0<ns.length/\∀M,M∈ns->(∀a∈ns,M<=a)->Q (iT M)) \/
 ∃ss:List Str,Ts=[.seq false (ss.map sT)]/\0<ss.length/\∀x,x∈ss->(∀y∈ss,x.cps.toList<=y.cps.toList)->Q (sT x)
def D1:Pn:=λTs Q=>(∃i j:Int,Ts=[iT i,iT j]/\Q (iT (max i j)))\/(∃ns:List Int,Ts=[.seq false (ns.map iT)]/\0<ns.length/\∀M,M∈ns->(∀a∈ns,a<=M)->Q (iT M)) \/
 ∃ss:List Str,Ts=[.seq false (ss.map sT)]/\0<ss.length/\∀x,x∈ss->(∀y∈ss,y.cps.toList<=x.cps.toList)->Q (sT x)
theorem fT(hc:X.calm=true):iQ X (.builtin "min") D2:=⟨_,(LG hc).or ((LF hc).or (C6 hc)),λxs Ts H Q QQ vx h k=>by
 rcases h with⟨i,j,rfl,q⟩|⟨ns,rfl,l,q⟩|⟨ss,rfl,l,q⟩
 ·obtain⟨x,y,rfl,v,v'⟩:=yO vx;obtain⟨rfl,_⟩:=v.leafI;obtain⟨rfl,_⟩:=v'.leafI;refine .inl ⟨i,j,rfl,k _ _ _ (.flat rfl) ?_⟩;have e:(if j<i then j else i)=min i j:=by split<;>omega
  rw[e];exact q
 ·obtain⟨x,rfl,v⟩:=dH vx;obtain⟨a,ys,rfl,hs,z,p⟩:=v.seqI;rw[rO p]at hs;exact .inr (.inl ⟨a,ns,rfl,cH hs,l,λM h1 h2=>k _ _ _ (.flat rfl) (q M h1 h2)⟩)
 ·obtain⟨x,rfl,v⟩:=dH vx;obtain⟨a,ys,rfl,hs,z,p⟩:=v.seqI;rw[iB p]at hs
  exact .inr (.inr ⟨a,ss,rfl,cH hs,l,λM h1 h2=>k _ _ _ (.flat rfl) (q M h1 h2)⟩)⟩
theorem gV(hc:X.calm=true):iQ X (.builtin "max") D1:=⟨_,(LD hc).or ((LC hc).or (C5 hc)),λxs Ts H Q QQ vx h k=>by
 rcases h with⟨i,j,rfl,q⟩|⟨ns,rfl,l,q⟩|⟨ss,rfl,l,q⟩
 ·obtain⟨x,y,rfl,v,v'⟩:=yO vx;obtain⟨rfl,_⟩:=v.leafI;obtain⟨rfl,_⟩:=v'.leafI;refine .inl ⟨i,j,rfl,k _ _ _ (.flat rfl) ?_⟩;have e:(if j > i then j else i)=max i j:=by split<;>omega
  rw[e];exact q
 ·obtain⟨x,rfl,v⟩:=dH vx;obtain⟨a,ys,rfl,hs,z,p⟩:=v.seqI;rw[rO p]at hs;exact .inr (.inl ⟨a,ns,rfl,cH hs,l,λM h1 h2=>k _ _ _ (.flat rfl) (q M h1 h2)⟩)
 ·obtain⟨x,rfl,v⟩:=dH vx;obtain⟨a,ys,rfl,hs,z,p⟩:=v.seqI;rw[iB p]at hs
  exact .inr (.inr ⟨a,ss,rfl,cH hs,l,λM h1 h2=>k _ _ _ (.flat rfl) (q M h1 h2)⟩)⟩
def Jv:List Tv->(List Tv->Prop)->Prop:=λTs Q=>∃t Us,Ts=[.seq t Us]/\Q Us
theorem oW:sR X (.type "list") Jv:=⟨_,CD,λxs Ts H Q QQ vx h k=>by
 obtain⟨t,Us,rfl,q⟩:=h;obtain⟨x,rfl,v⟩:=dH vx;obtain⟨a,ys,rfl,hs,z,p⟩:=v.seqI;refine⟨a,ys,rfl,?_,λl n=>k l ys Us _ (cC n) n bJ z (cy.hs (jR n) p) q⟩;cases t with
 |false=>exact .inl (cH hs)
 |true=>exact .inr hs⟩
def A7:Pn:=λTs Q=>∃t Us,Ts=[.seq t Us]/\Q (.seq true Us)
theorem fK:iQ X (.type "tuple") A7:=⟨_,Nv,λxs Ts H Q QQ vx h k=>by
 obtain⟨t,Us,rfl,q⟩:=h;obtain⟨x,rfl,v⟩:=dH vx;obtain⟨a,ys,rfl,hs,z,p⟩:=v.seqI;refine⟨a,ys,rfl,?_⟩;cases t with
 |false=>exact .inl ⟨cH hs,λl n=>k _ _ _ (iu.tup n z p) q⟩
 |true=>exact .inr ⟨hs,k _ _ _ (.va v) q⟩⟩
def Iq:List Tv->(List Tv->Prop)->Prop:=λTs Q=>(∃ns:List Int,Ts=[.seq false (ns.map iT)]/\ns.length<64/\∀ms:List Int,ms.Perm ns->ms.Pairwise (·<=·)->Q (ms.map iT)) \/
 (∃ss:List Str,Ts=[.seq false (ss.map sT)]/\ss.length<64/\Q ((aZ ss).map sT))\/∃OT,Ts=[.dct OT]/\Q ((aZ (OT.map (·.1))).map sT)
theorem vZ{K:W.Frag}{H:Hp}{kvs:List (ba×V)}{OT:List (Str×Tv)}(p:jo K H kvs OT):kvs.map (·.1)=(OT.map (·.1)).map Sum.inr:=by
 unfold jo at p
 induction p with
 |nil=>rfl
 |cons r _ ih=>rw[e6,e6,e6,ih,r.1]
theorem vK(us:List Str):(aZ us).length=us.length:=(dM us).length_eq
theorem oV(hc:X.calm=true):sR X (.builtin "sorted") Iq:=⟨_,call_sortedI.or (call_sortedS.or (Nk hc)),λxs Ts H Q QQ vx h k=>by
 rcases h with⟨ns,rfl,l,q⟩|⟨ss,rfl,l,q⟩|⟨OT,rfl,q⟩
 ·obtain⟨x,rfl,v⟩:=dH vx;obtain⟨a,ys,rfl,hs,z,p⟩:=v.seqI;rw[rO p]at hs;refine .inl ⟨a,ns,rfl,cH hs,l,λms b h1 h2 n=>k b _ _ _ (cC n) n bJ (by rw[ak,h1.length_eq];omega) (Cf ms) (q ms h1 h2)⟩
 ·obtain⟨x,rfl,v⟩:=dH vx;obtain⟨a,ys,rfl,hs,z,p⟩:=v.seqI;rw[iB p]at hs;refine .inr (.inl ⟨a,ss,rfl,cH hs,l,λms b h1 h2 n=>k b _ _ _ (cC n) n bJ (by rw[ak,h1.length_eq];omega) (mV ms) (by rw[mK h1 h2];exact q)⟩)
 ·obtain⟨x,rfl,v⟩:=dH vx;obtain⟨a,kvs,rfl,⟨ob,hd⟩,nd,z,p⟩:=v.dctI
  refine .inr (.inr ⟨a,ob,kvs,OT.map (·.1),rfl,hd,vZ p,by rw[ak];exact z,λms b h1 h2 n=>k b _ _ _ (cC n) n bJ (by rw[ak,h1.length_eq,ak];omega) (mV ms) (by rw[mK h1 h2];exact q)⟩)⟩
theorem Kb{K:W.Frag}{H:Hp}{n:Nat}:cy K H ((List.range n).map λ(i:Nat)=>V.int i) (gJ 0 n):=by
 unfold gJ;generalize List.range n=l
 induction l with
 |nil=>exact .nil
 |cons i l ih=>exact .cons (show VA K H (V.int i) (iT (0+i)) by rw[Int.zero_add];exact .flat rfl) ih
def Hf(ua:d5):f9:=λρ Q=>o5 ua ρ λTs ρ1=>∃n:Nat,Ts=[iT n]/\n<=100000/\Q (gJ 0 n) ρ1
theorem Lm{a:Expr}{ua:d5}{p p' pos pos':Pos}(hc:X.calm=true)(hg:Gl X "range")(hm:X.mg "range"=none)(hg':Gl X "list")(hm':X.mg "list"=none)(ha:UA X F [a] ua)
  (he:starEach [a] X.env=(false,eval a X.env)::starEach [] X.env:=by rfl) (hpl:(backTo pos (starEach [] X.env)).any (·.1)=false:=by rfl) (hpl':(backTo pos' (starEach [] X.env)).any (·.1)=false:=by rfl):
  UL X F (.Call (.Name "list" p') [.Call (.Name "range" p) [a] [] pos] [] pos') (Hf ua):=⟨PE.imp (fS (ML hc) hg' hm' boot_list (cM (fS NG hg hm boot_range ha.pa (by decide) (by decide) he hpl) cW rfl) (by decide) (by decide) rfl hpl') λσ H QQ ⟨ρ,Q,f,h,k⟩=>by
 refine⟨ρ,_,f,h,λxs as H1 ρ1 s1 p1 q1=>?_⟩;obtain⟨Ts,rfl,n,rfl,l,q⟩:=iJ q1;obtain⟨x,rfl,v⟩:=dH (iK p1);obtain⟨rfl,_⟩:=v.leafI;refine⟨n,rfl,λr nr=>⟨r,n,rfl,bJ,iI l,λb nb=>?_⟩⟩;have sm:=(cC (o:=.rng 0 n) nr).trans (cC (o:=.lst ((List.range n).map λ(i:Nat)=>V.int i)) nb);refine k _ _ _ _ _ (s1.trans (bj.same s1.fr sm)) (s1.non ((cC nr).free nb)) bJ (by simp[gJ];exact l) ?_ q
 exact Kb⟩
def DY:Pn:=λTs Q=>∃i:Int,Ts=[iT i]/\Q (iT (if i<0 then -i else i))
theorem HF:iQ X (.builtin "abs") DY:=⟨_,Km,λxs Ts H Q QQ vx h k=>by
 obtain⟨i,rfl,q⟩:=h;obtain⟨x,rfl,v⟩:=dH vx;obtain⟨rfl,_⟩:=v.leafI
 exact⟨i,rfl,k _ _ _ (.flat rfl) q⟩⟩
def xj:Pn
 |[.leaf (.int i)],Q=>Q (iT i)
 |[.leaf (.bl b)],Q=>Q (iT (if b then 1 else 0))
 |_,_=>False
theorem A_:iQ X (.type "int") xj:=⟨_,LA,λxs Ts H Q QQ vx h k=>by
 unfold xj at h;split at h
 ·obtain⟨x,rfl,v⟩:=dH vx;obtain⟨rfl,_⟩:=v.leafI;exact .inl ⟨_,rfl,k _ _ _ (.flat rfl) h⟩
 ·obtain⟨x,rfl,v⟩:=dH vx;obtain⟨rfl,_⟩:=v.leafI;exact .inr ⟨_,rfl,k _ _ _ (.flat rfl) h⟩
 ·exact False.elim h⟩
def NS(T:String)(r:Tv->List Tv->(Tv->Prop)->Prop)(u:UT)(ua:d5):UT:=λρ Q=>u ρ λW ρ1=>uS T W=true/\o5 ua ρ1 λTs ρ2=>r W Ts λW'=>Q W' ρ2
theorem KF{K:W.Frag}{H:Hp}{x:V}{W:Tv}(v:VA K H x W)(h:uS "str" W=true):vg K "str" x H:=by
 cases W with
 |leaf w=>
  obtain⟨rfl,f⟩:=v.leafI;rcases mG f with rfl|⟨b,rfl⟩|⟨b,rfl⟩|⟨b,rfl⟩
  ·cases h
  ·cases h
  ·cases h
  ·rfl
 |seq t Ts=>cases t<;>cases h
 |dct OT=>cases h
theorem sU{name:Str}{id:String}{r:Tv->List Tv->(Tv->Prop)->Prop}{o e:Expr}{es:List Expr}{u:UT}{ua:d5}{OY OW:Pos}(slot:Slot "str" name id)(hty:typeOf (.builtin id)=pure (.type "method_descriptor"))
  (hm:∃r',ug X id r'/\∀x W xs Ts H Q (QQ:VK),VA X.K H x W->cy X.K H xs Ts->r W Ts Q->(∀z W H',iu X.K H H' z W->Q W->QQ z H')->r' x xs H QQ) (ho:UE X F o u) (ha:UA X F (e::es) ua)
  (O3:attributeBase o name X.env (eval o X.env)=eval o X.env:=by rfl)
  (hfew:((backTo OW (starEach (e::es) X.env)).all (λx=>!x.1)&&(backToKw OW (keywordEach [] X.env)).all (λx=>x.1.isSome)&&decide ((e::es).length+([]:List Keyword).length+(if ([]:List Keyword).isEmpty then 0 else 1)<30))=true:=by rfl)
  (O1:(OY.endLine==OW.line)=true:=by rfl) (hs:starEach (e::es) X.env=(false,eval e X.env)::starEach es X.env:=by rfl) (O0:(backTo OW (starEach es X.env)).any (·.1)=false:=by rfl):
  UE X F (.Call (.Attribute o name OY) (e::es) [] OW) (NS "str" r u ua):=by
 obtain⟨r',m,hr⟩:=hm;refine⟨PE.imp (PE.fz (qB PySem.F.plainAttrs_str slot hty m ho.pe ha.pa O3 hfew O1 hs O0)) λσ H QQ ⟨ρ,Q,f,h,k⟩=>⟨ρ,_,f,h,λx W H1 ρ1 s1 v1 q1=>⟨KF v1 q1.1,ρ1,_,s1.fr,q1.2,λxs as H2 ρ2 s2 p2 q2=>?_⟩⟩⟩;obtain⟨Ts,rfl,q⟩:=iJ q2;exact hr x W xs Ts H2 _ _ (v1.hs (s2.hs s1.fr)) (iK p2) q λz W' H' rw q=>rw.fin s2.fr λH'' s4 v4=>k _ _ _ _ ((s1.trans s2).trans s4) v4 q
def Ir:Tv->List Tv->(Tv->Prop)->Prop:=λW Ts Q=>∃i j:Str,W=sT i/\Ts=[sT j]/\Q (bT (decide (0+j.length<=i.length)&&Builtin.Str.subAt i j 0))
theorem Lf:∃r',ug X "str.startswith" r'/\∀x W xs Ts H Q (QQ:VK),VA X.K H x W->cy X.K H xs Ts->Ir W Ts Q->(∀z W H',iu X.K H H' z W->Q W->QQ z H')->r' x xs H QQ:=⟨_,Nx,λx W xs Ts H Q QQ v p h k=>by
 obtain⟨i,j,rfl,rfl,q⟩:=h;obtain⟨rfl,_⟩:=v.leafI;obtain⟨y,rfl,v'⟩:=dH p;obtain⟨rfl,_⟩:=v'.leafI
 exact⟨i,j,rfl,rfl,k _ _ _ (.flat rfl) q⟩⟩
def EX:Tv->List Tv->(Tv->Prop)->Prop:=λW Ts Q=>∃i j:Str,W=sT i/\Ts=[sT j]/\∀n:Int,Q (iT n)
theorem IC:∃r',ug X "str.find" r'/\∀x W xs Ts H Q (QQ:VK),VA X.K H x W->cy X.K H xs Ts->EX W Ts Q->(∀z W H',iu X.K H H' z W->Q W->QQ z H')->r' x xs H QQ:=⟨_,Jn,λx W xs Ts H Q QQ v p h k=>by
 obtain⟨i,j,rfl,rfl,q⟩:=h;obtain⟨rfl,_⟩:=v.leafI;obtain⟨y,rfl,v'⟩:=dH p;obtain⟨rfl,_⟩:=v'.leafI
 exact⟨i,j,rfl,rfl,λn=>k _ _ _ (.flat rfl) (q n)⟩⟩
def EY:Tv->List Tv->(Tv->Prop)->Prop:=λW Ts Q=>∃ss:List Str,W=sT ⟨#[]⟩/\Ts=[.seq false (ss.map sT)]/\(cY ss).length<=100000/\Q (sT ⟨(cY ss).toArray⟩)
theorem Au:∃r',ug X "str.join" r'/\∀x W xs Ts H Q (QQ:VK),VA X.K H x W->cy X.K H xs Ts->EY W Ts Q->(∀z W H',iu X.K H H' z W->Q W->QQ z H')->r' x xs H QQ:=⟨_,Jo,λx W xs Ts H Q QQ v p h k=>by
 obtain⟨ss,rfl,rfl,l,q⟩:=h;obtain⟨rfl,_⟩:=v.leafI;obtain⟨y,rfl,v'⟩:=dH p;obtain⟨a,ys,rfl,hs,z,p'⟩:=v'.seqI;rw[iB p']at hs;refine⟨a,ss,rfl,rfl,cH hs,l,λz e=>k _ _ _ (.flat rfl) ?_⟩;have:z=⟨(cY ss).toArray⟩:=by
  cases z with
  |mk c=>congr 1;have e:c.toList=cY ss:=e;rw[<-e]
 rw[this];exact q⟩
end
section
variable{X:Cx}{F:Fm}{pos:Pos}
def FQ(u:UT)(g:UG):d_:=λP ρ=>u ρ λT ρ1=>g T ρ1 P.nx
theorem Hm{tg e:Expr}{u:UT}{g:UG}{m:Nat}(he:UE X F e u)(hg:qp X F m tg g)(hs:swapsWithSole [tg] e pos.line X.env=pure false:=by rfl)(hw:swappedStores [tg] e X.env=pure none:=by rfl)
  (h1:(assignEach [tg] X.env).map (·.2)=[assign tg X.env]:=by rfl):US X F (.Assign [tg] e pos) (FQ u g):=⟨PS.imp (A9 he.pe hg.pg hs hw h1) λD σ H ⟨ρ,P,f,h,k1,_⟩=>by
 refine⟨ρ,_,f,h,λx T H1 ρ1 s1 v1 q1=>⟨T,ρ1,_,v1,s1.fr,q1,λσ' ρ' f' _ _ _ _ q=>?_⟩⟩
 exact k1 _ _ _ f' (s1.hs f) q⟩
def FR(i j:Nat)(ua:d5):d_:=λP ρ=>o5 ua ρ λTs ρ1=>∃T U,Ts=[T,U]/\P.nx ((ρ1.set i (.va T)).set j (.va U))
theorem Hq{i j:Nat}{x y:Str}{a b:Expr}{ua:d5}{px py pt:Pos}{kt k2 pt2}(hc:X.calm=true)(hN:X.N.Nodup)(hi:X.N[i]?=some x)(hj:X.N[j]?=some y)(hij:i≠j)
  (hx:X.env.scope.names.lookup x=some .local) (hy:X.env.scope.names.lookup y=some .local) (ha:UA X F [a,b] ua)
  (hw:swappedStores [.Tuple [.Name x px,.Name y py] kt pt] (.Tuple [a,b] k2 pt2) X.env=pure (some [x,y]))
  (hs:swapsWithSole [.Tuple [.Name x px,.Name y py] kt pt] (.Tuple [a,b] k2 pt2) pos.line X.env=pure false:=by rfl):
  US X F (.Assign [.Tuple [.Name x px,.Name y py] kt pt] (.Tuple [a,b] k2 pt2) pos) (FR i j ua):=⟨PS.imp (HC hc hN hi hj hij hx hy ha.pa hw hs) λD σ H ⟨ρ,P,f,h,k1,_⟩=>by
 refine⟨ρ,_,f,h,λxs as H1 ρ1 s1 p1 q1=>?_⟩;obtain⟨Ts,rfl,T,U,rfl,q⟩:=iJ q1;obtain⟨v,w,rfl,vv,vw⟩:=yO (iK p1);refine⟨v,w,rfl,k1 _ _ _ ?_ (s1.hs f) q⟩
 exact(s1.fr.set (s:=.va T) (λ_=>⟨v,rfl,vv⟩) (λz=>absurd z cq)).set (s:=.va U) (λ_=>⟨w,rfl,vw⟩) (λz=>absurd z cq)⟩
def fW(K:W.Frag)(mg:Str->Option Value)(x:Str)(T:Tv):Prop:=∃v u,mg x=some u/\ah v u/\∀H,VA K H v T
theorem tK{x:Str}{T:Tv}(G:fW X.K X.mg x T)(hg:Gl X x)(hd:(x==("__debug__":Str))=false:=by decide):UE X F (.Name x pos) (uC T):=by
 obtain⟨v,u,m,r,h⟩:=G;exact KL hg m r h hd
def qD(K:W.Frag)(prm:Params)(mg:Str->Option Value)(x:Str)(kvs:List (Str×Str)):Prop:=∃d,mg x=some (.ref d)/\y6 K prm d kvs
def NP(kvs:List (Str×Str))(u:UT):UT:=λρ Q=>u ρ λT ρ1=>∃i j,T=sT i/\getS kvs i=some j/\Q (sT j) ρ1
theorem xy{x:Str}{p:Pos}{e:Expr}{u:UT}{kvs:List (Str×Str)}(G:qD X.K X.w.params X.mg x kvs)(hg:Gl X x)(he:UE X F e u)(hs:sS e:=by intro _ _;rfl)(hd:(x==("__debug__":Str))=false:=by decide):UE X F (.Subscript (.Name x p) e pos) (NP kvs u):=by
 obtain⟨d,m,D⟩:=G;refine⟨PE.imp (jU (FM D) (An (v:=.ref d) hg m rfl hd) he.pe hs) λσ H QQ ⟨ρ,Q,f,h,k⟩=>⟨ρ,_,f,h,λy T H1 ρ1 s1 v1 q1=>?_⟩⟩;obtain⟨i,j,rfl,ej,q⟩:=q1;obtain⟨rfl,_⟩:=v1.leafI;exact⟨i,j,rfl,rfl,ej,k _ _ _ _ s1 (.flat rfl) q⟩
def Lk(u:UT):f9:=λρ Q=>u ρ λT ρ1=>∃ss:List Str,T=.seq false (ss.map sT)/\ss.length<4000/\(aH ss).length<64/\Q ((aZ (aH ss)).map sT) ρ1
theorem Cn{e:Expr}{u:UT}{p p' pos':Pos}(hc:X.calm=true)(hg:Gl X "sorted")(hm:X.mg "sorted"=none)(hg':Gl X "set")(hm':X.mg "set"=none)(he:UE X F e u)(hst:dQ e=false:=by rfl)
  (hpl:(backTo pos (starEach [] X.env)).any (·.1)=false:=by rfl) (hpl':(backTo pos' (starEach [] X.env)).any (·.1)=false:=by rfl):
  UL X F (.Call (.Name "sorted" p) [.Call (.Name "set" p') [e] [] pos'] [] pos) (Lk u):=⟨PE.imp (iD (uZ hc) hg hm boot_sorted (cM (fS (BF hc) hg' hm' L2.boot_set (cM he.pe cW hst) (by decide) (by decide) (gP hst) hpl') cW rfl) (by decide) (by decide) rfl hpl) λσ H QQ ⟨ρ,Q,f,h,k⟩=>by
 refine⟨ρ,_,f,h,λx T H1 ρ1 s1 v1 q1=>?_⟩;obtain⟨ss,rfl,l1,l2,q⟩:=q1;obtain⟨a,ys,rfl,hs,z,p⟩:=v1.seqI;rw[iB p]at hs;refine⟨a,ss,rfl,cH hs,l1,λb nb=>⟨b,aH ss,rfl,bJ,l2,λms c h1 h2 nc=>?_⟩⟩;have sm:=(cC (o:=dJ X.prog X.w b (aH ss)) nb).trans (cC (o:=.lst (ms.map V.str)) nc);refine k _ _ _ _ _ (s1.trans (bj.same s1.fr sm)) (s1.non ((cC nb).free nc)) bJ (by rw[ak,h1.length_eq];omega) (mV ms) ?_;rw[mK h1 h2]
 exact q⟩
def KH(u:UT):UT:=λρ Q=>u ρ λT ρ1=>∃ss:List Str,T=.seq false (ss.map sT)/\ss.length<4000/\Q (iT (aH ss).length) ρ1
theorem MA{e:Expr}{u:UT}{p p' pos':Pos}(hc:X.calm=true)(hg:Gl X "len")(hm:X.mg "len"=none)(hg':Gl X "set")(hm':X.mg "set"=none)(he:UE X F e u)(hst:dQ e=false:=by rfl)
  (hpl:(backTo pos (starEach [] X.env)).any (·.1)=false:=by rfl) (hpl':(backTo pos' (starEach [] X.env)).any (·.1)=false:=by rfl):
  UE X F (.Call (.Name "len" p) [.Call (.Name "set" p') [e] [] pos'] [] pos) (KH u):=⟨PE.imp (iD LB hg hm du (cM (fS (BF hc) hg' hm' L2.boot_set (cM he.pe cW hst) (by decide) (by decide) (gP hst) hpl') cW rfl) (by decide) (by decide) rfl hpl) λσ H QQ ⟨ρ,Q,f,h,k⟩=>by
 refine⟨ρ,_,f,h,λx T H1 ρ1 s1 v1 q1=>?_⟩;obtain⟨ss,rfl,l1,q⟩:=q1;obtain⟨a,ys,rfl,hs,z,p⟩:=v1.seqI;rw[iB p]at hs;refine⟨a,ss,rfl,cH hs,l1,λb nb=>⟨b,aH ss,rfl,bJ,?_⟩⟩
 exact k _ _ _ _ (s1.trans (bj.same s1.fr (cC nb))) (.flat rfl) q⟩
end
def qC(own:Nat)(fr:List Nat)(g:UG)(tf:d9)(ue:UT)(T:Tv)(ρ:aV)(R:Option Tv->aV->Prop):Prop:=g T (qm own fr ρ) λρ1=>tf ρ1 λb ρ2=>if b=true then ue ρ2 λU ρ3=>R (some U) (qo own fr ρ ρ3) else R none (qo own fr ρ ρ2)
section
variable{own:Nat}{fr:List Nat}{g:UG}{tf:d9}{ue:UT}
def Fy(own:Nat)(fr:List Nat)(g:UG)(tf:d9)(ue:UT)(Ts:List Tv)(Q:List Tv->aV->Prop)(o:Option Tv)(ρ:aV):Prop:=match o with
 |some U=>gW own fr g tf ue Ts ρ λUs ρ4=>Q (U::Us) ρ4
 |none=>gW own fr g tf ue Ts ρ Q
theorem vG(T:Tv)(Ts:List Tv)(ρ:aV)(Q:List Tv->aV->Prop):gW own fr g tf ue (T::Ts) ρ Q=qC own fr g tf ue T ρ (Fy own fr g tf ue Ts Q):=rfl
theorem vW{ρ:aV}{Ts:List Tv}{Q:List Tv->aV->Prop}(J:Nat->List Tv->aV->Prop)(h0:J 0 [] ρ)(hs:∀i T Us ρ',Ts[i]?=some T->J i Us ρ'->∀R:Option Tv->aV->Prop,(∀o ρ'',J (i+1) (Us++o.toList) ρ''->R o ρ'')->qC own fr g tf ue T ρ' R)
  (hd:∀Us ρ',J Ts.length Us ρ'->Q Us ρ'):gW own fr g tf ue Ts ρ Q:=by
 have key:∀(n i:Nat) (Us:List Tv) (ρ:aV) (Q:List Tv->aV->Prop),n+i=Ts.length->J i Us ρ->(∀Vs ρ',J Ts.length (Us++Vs) ρ'->Q Vs ρ')->gW own fr g tf ue (Ts.drop i) ρ Q:=by
  intro n
  induction n with
  |zero=>
   intro i Us ρ Q e j hd;have:i=Ts.length:=by omega
   subst this;rw[p0];exact hd [] ρ (by rw[gk];exact j)
  |succ n ih=>
   intro i Us ρ Q e j hd;have hi:i<Ts.length:=by omega
   rw[oi hi,vG];refine hs i _ Us ρ (b9 hi) j _ λo ρ'' j'=>?_
   cases o with
   |none=>exact ih (i+1) _ ρ'' Q (by omega) j' λVs ρ' q=>hd Vs ρ' (by simpa using q)
   |some U=>exact ih (i+1) _ ρ'' (λUs ρ4=>Q (U::Us) ρ4) (by omega) j' λVs ρ' q=>hd (U::Vs) ρ' (by simpa using q)
 exact key Ts.length 0 [] ρ Q (by omega) h0 λVs ρ' q=>hd Vs ρ' (by simpa using q)
theorem kZ{g:UG}{ub:d_}{Ts:List Tv}{P:av}{ρ:aV}(J:Nat->aV->Prop)(h0:J 0 ρ)(hs:∀i T ρ' (N:aV->Prop),Ts[i]?=some T->J i ρ'->(∀ρ'',J (i+1) ρ''->N ρ'')->g T ρ' λρ1=>ub {P with nx:=N,ct:=N,bk:=P.nx} ρ1)
  (hd:∀ρ',J Ts.length ρ'->P.nx ρ'):jZ g ub Ts P ρ:=by
 have key:∀(n i:Nat) (ρ:aV),n+i=Ts.length->J i ρ->jZ g ub (Ts.drop i) P ρ:=by
  intro n
  induction n with
  |zero=>
   intro i ρ e j;have:i=Ts.length:=by omega
   subst this;rw[p0];exact hd ρ j
  |succ n ih=>
   intro i ρ e j;have hi:i<Ts.length:=by omega
   rw[oi hi];exact hs i _ ρ (λρ'=>jZ g ub (Ts.drop (i+1)) P ρ') (b9 hi) j λρ'' j'=>ih (i+1) ρ'' (by omega) j'
 exact key Ts.length 0 ρ (by omega) h0
end
def gB:bz:=λas R=>∃m:Int,as=[.dk,.va (iT m)]/\0<m/\dc m/\∀r:Int,0<=r->r<m->R (iT r)
theorem On.kp{p c:Addr}{H H':Hp}(o:On p c H H'):Kp (some (p,c)) H H':=⟨λb u e n=>o.e b u e (n p c rfl).1 (n p c rfl).2,λp' c' e=>by cases e;exact o.d⟩
theorem dq.take{P:Program}{w:World}{K:W.Frag}{mg:Str->Option Value}{base:Heap}{k:Nat}{x:Str}{ps:List Str}(G:dq P w K mg base k x ps AJ):ae P w K mg base k x ps gB:=dq.imp G λvs H Q E ⟨dk,as,R,d,p,⟨m,e,hm,hb,q⟩,kk⟩=>by
 subst e;cases p with
 |cons r1 t1=>
  cases t1 with
  |cons r2 t2=>
   cases t2;obtain⟨p,c,ed,rfl⟩:=r1;subst ed;obtain⟨rfl,_⟩:=VA.leafI r2;exact⟨p,c,m,rfl,d p c rfl,hm,hb,λr H' h1 h2 o=>kk _ _ _ o.kp (.flat rfl) (q r h1 h2)⟩
theorem Ln{X:Cx}{F:Fm}{st:List Stmt}:km X F st (λ_ _=>False):=⟨ik.imp MO λD σ H ⟨_,_,_,h,_⟩=>h⟩
theorem ao.pfalse{P:Program}{w:World}{K:W.Frag}{mg:Str->Option Value}{base:Heap}{x:Str}{st:Stmt}{N ps:List Str}{k:Nat}{psp:bz}(h:ao K mg x st)(S:dP N ps (aY st))
  (hb:∀(kV doc pm:Value) (an:Option Addr) (OV ct:Value) (us:List Value),us.length=ps.length->bindArgs (W.fnOf x x (fL st) (dE st) (aY st) .none kV doc pm an OV ct) ⟨us,[]⟩=pure (ps.zip us)) (hf:∀as R,psp as R->False):ae P w K mg base (k+1) x ps psp:=
 h.pgood S hb (λ_ _ _ _ _ _ _ _ _=>Ln) λas R q=>(hf as R q).elim
theorem bW{j:Int}(h1:-(10 ^ 100)<j)(h2:j<10 ^ 100):dc j:=by
 unfold dc;have:j.natAbs<10 ^ 100:=by omega
 exact gz this (by decide +kernel)
section
variable{own:Nat}{fr:List Nat}{g:UG}{tf:d9}{ue:UT}{α:Type}
theorem iA{ρ:aV}(c:α->Tv)(f:α->Option Tv):∀{l:List α}{Q:List Tv->aV->Prop},(∀a∈l,∀R:Option Tv->aV->Prop,R (f a) ρ->qC own fr g tf ue (c a) ρ R)->Q (l.filterMap f) ρ->gW own fr g tf ue (l.map c) ρ Q
 |[],_,_,q=>q
 |a::l,Q,h,q=>by
  rw[e6,vG];refine h a (.head _) _ ?_;rw[gm]at q;cases e:f a with
  |none=>rw[e]at q;exact iA c f (λb hb=>h b (.tail _ hb)) q
  |some U=>rw[e]at q;exact iA (Q:=λUs ρ4=>Q (U::Us) ρ4) c f (λb hb=>h b (.tail _ hb)) q
theorem eJ{ρ:aV}(c f:α->Tv){l:List α}{Q:List Tv->aV->Prop}(h:∀a∈l,∀R:Option Tv->aV->Prop,R (some (f a)) ρ->qC own fr g tf ue (c a) ρ R)(q:Q (l.map f) ρ):gW own fr g tf ue (l.map c) ρ Q:=
 iA c (λa=>some (f a)) h (by rw[show l.filterMap (λa=>some (f a))=l.map f from List.filterMap_eq_map'▸rfl];exact q)
theorem rN{ρ:aV}(r:Tv->Tv->Prop):∀{Ts:List Tv}{Q:List Tv->aV->Prop},(∀T∈Ts,∀R:Option Tv->aV->Prop,(∀U,r T U->R (some U) ρ)->qC own fr g tf ue T ρ R)->(∀Us,Paired r Ts Us->Q Us ρ)->gW own fr g tf ue Ts ρ Q
 |[],_,_,q=>q [] .nil
 |T::Ts,Q,h,q=>by
  rw[vG];exact h T (.head _) _ λU hU=>rN (Q:=λUs ρ4=>Q (U::Us) ρ4) r (λT' hT'=>h T' (.tail _ hT')) λUs p=>q _ (.cons hU p)
theorem lE{g:UG}{ub:d_}{P:av}{ρ:aV}(c:α->Tv){l:List α}(J:Nat->aV->Prop)(h0:J 0 ρ)(hs:∀i a ρ' (N:aV->Prop),l[i]?=some a->J i ρ'->(∀ρ'',J (i+1) ρ''->N ρ'')->g (c a) ρ' λρ1=>ub {P with nx:=N,ct:=N,bk:=P.nx} ρ1)
  (hd:∀ρ',J l.length ρ'->P.nx ρ'):jZ g ub (l.map c) P ρ:=
 kZ J h0 (λi T ρ' N e j hN=>by
  rw[gf]at e;obtain⟨a,ea,rfl⟩:=qa1_.mp e
  exact hs i a ρ' N ea j hN) (by rw[ak];exact hd)
end
theorem xP(x y:Str):eqT (sT x) (sT y)=decide (x=y):=by
 rw[eqT];show(x==y)=_;exact Bool.beq_eq_decide_eq x y
theorem Hy{x:Str}{ss:List Str}:((ss.map sT).any λU=>eqT U (sT x))=decide (x∈ss):=by
 rw[List.any_map,j5,qX_,decide_eq_true_iff];constructor
 ·rintro⟨y,hy,e⟩;have e:eqT (sT y) (sT x)=true:=e;rw[xP,decide_eq_true_iff]at e;rw[<-e];exact hy
 ·intro h;exact⟨x,h,by show eqT (sT x) (sT x)=true;rw[xP,decide_eq_true_iff]⟩
theorem JJ{x:Str}{ss:List Str}:oP (sT x) (ss.map sT):=⟨trivial,λU hU=>by
 obtain⟨s,_,rfl⟩:=qd_.mp hU
 trivial⟩
theorem kh{b:Bool}{A B:Prop}(h1:b=true->A)(h2:b=false->B):if b=true then A else B:=by
 cases b with
 |true=>exact(if_pos rfl).mpr (h1 rfl)
 |false=>exact(if_neg cq).mpr (h2 rfl)
theorem jW{p:Prop}[Decidable p]{A B:Prop}(h1:p->A)(h2:¬ p->B):if decide p=true then A else B:=kh (λh=>h1 (ip h)) λh=>h2 (of_decide_eq_false h)
abbrev u5:=aV->(List (Str×Tv)->aV->Prop)->Prop
def FN(K:W.Frag)(F:Fm)(u:u5):TE:=λσ H QQ=>∃ρ Q,ar K F ρ σ H/\u ρ Q/\∀a kvs OT H' ρ',bj K F σ ρ H ρ' H'->H a=none->H' a=some (.dK kvs)->(OT.map (·.1)).Nodup->OT.length<64->jo K H' kvs OT->Q OT ρ'->QQ (.ref a) H'
structure UD (X:Cx) (F:Fm) (e:Expr) (u:u5):Prop where
 pe:PE X e (FN X.K F u)
section
variable{X:Cx}{F:Fm}{e:Expr}{pos:Pos}
def uD(u:u5):UT:=λρ Q=>u ρ λOT ρ1=>Q (.dct OT) ρ1
theorem Gw{u:u5}(h:UD X F e u):UE X F e (uD u):=⟨PE.imp (PE.fz h.pe) λσ H QQ ⟨ρ,Q,fr,h,k⟩=>⟨ρ,_,fr,h,λa kvs OT H' ρ' s n e nd z p q=>
 .inr ⟨a,_,rfl,e,rfl,λob=>k _ _ _ _ (s.put fr n e rfl (.frz ob (.dK kvs))) (VA.dct ⟨ob,bJ⟩ nd z (jo.hs (iP e rfl) p)) q⟩⟩⟩
variable{u:UT}{p:Pos}
def HK(K:W.Frag):List V->Hp->VK->Prop:=λxs H Q=>∃(l:Addr) (ys:List V) (ps:List (ba×V)),xs=[.ref l]/\Rd H l (.lst ys)/\Paired (λy (p:ba×V)=>∃t,y=.ref t/\cv K H t [kV p.1,p.2]) ys ps/\ps.length<=1000 /\
  ∀d,H d=none->Q (.ref d) (au H d (.dK (lH [] ps)))
theorem MI(hc:X.calm=true):aq X (.type "dict") (HK X.K):=by
 rintro OS s σ H _ us Q I r ⟨l,ys,ps,rfl,hl,hp,hsz,q⟩;obtain⟨u,rfl,rx⟩:=cI r;cases rx;obtain⟨hz,its,n,hv,hget⟩:=(show ay X.prog X.w H s.heap l (.lst ys) from hl.ok I.hok)
 have key:∀{ys:List V} {its:List Value} {ps:List (ba×V)},ai ys its->Paired (λy (p:ba×V)=>∃t,y=.ref t/\cv X.K H t [kV p.1,p.2]) ys ps ->
   ∃qs:List (ba×Value),KV ps qs/\its.length=qs.length/\∀(j:Nat) (k:ba) (v:Value),qs[j]?=some (k,v)->∃t kk,its[j]?=some (.ref t)/\IsTup s.heap t #[kk,v]/\(cA X.prog X.w).is k kk=true:=by
  intro ys its ps hv hp
  induction hp generalizing its with
  |nil=>cases hv;exact⟨[],.nil,rfl,λj k v e=>by simp at e⟩
  |@cons y p ys' ps' h _ ih=>
   cases hv with
   |cons r0 rs=>
    obtain⟨t,rfl,ht⟩:=h;cases r0;obtain⟨qs,kq,lq,fq⟩:=ih rs;obtain⟨tits,tv,tt,_⟩:=I.tuple ht;cases tv with
    |@cons _ kk _ _ r1 rs1=>
     cases rs1 with
     |@cons _ vv _ _ r2 rs2=>
      cases rs2;refine⟨(p.1,vv)::qs,.cons ⟨rfl,r2⟩ kq,by rw[gc,gc,lq],λj k v e=>?_⟩;cases j with
      |zero=>
       cases e;exact⟨t,kk,rfl,tt,nW r1⟩
      |succ j=>exact fq j k v e
 obtain⟨qs,kq,lq,fq⟩:=key hv hp;have hbig:=I.big;have hps:ps.length=qs.length:=Paired.length kq;refine Nt (ps:=qs) (I.ok.hd hc) hget ⟨by simpa using lq,λj k v e=>by obtain⟨t,kk,a,b,c⟩:=fq j k v e;exact⟨t,kk,by simpa using a,b,c⟩⟩ (by omega) λh' tk hd k=>?_
 have hlen:=CJ ps [];refine⟨.ref s.heap.objs.size,_,I.laid (t':=tk) (o:=.dK (lH [] ps)) k (bg _) (show ay _ _ _ h' _ (.dK _) from ⟨by rw[sizeLine_eq];have:=hlen;simp at this;omega,?_,_,I_ kq .nil,hd⟩),rfl,q _ I.fresh⟩;exact beq_eq_false_iff_ne.mpr (jc hbig)
def He(u:UT):u5:=λρ Q=>u ρ λT ρ1=>∃OT:List (Str×Tv),T=.seq false (OT.map λkt=>.seq true [sT kt.1,kt.2])/\(OT.map (·.1)).Nodup/\OT.length<64/\Q OT ρ1
theorem Bh{K:W.Frag}{H:Hp}:∀{ys:List V}{OT:List (Str×Tv)},cy K H ys (OT.map λkt=>.seq true [sT kt.1,kt.2])->∃ps:List (ba×V),Paired (λy (p:ba×V)=>∃t,y=.ref t/\cv K H t [kV p.1,p.2]) ys ps/\jo K H ps OT
 |[],[],_=>⟨[],.nil,.nil⟩
 |y::ys,kt::OT,.cons r t=>by
  obtain⟨ps,h1,h2⟩:=Bh t;obtain⟨a,xs,rfl,hs,z,p⟩:=VA.seqI r;obtain⟨k,v,rfl,vk,vv⟩:∃k v,xs=[k,v]/\VA K H k (sT kt.1)/\VA K H v kt.2:=by
   cases p with
   |cons r1 t1=>
    cases t1 with
    |cons r2 t2=>cases t2;exact⟨_,_,rfl,r1,r2⟩
  obtain⟨rfl,_⟩:=vk.leafI;exact⟨(.inr kt.1,v)::ps,.cons ⟨a,rfl,hs⟩ h1,.cons ⟨rfl,vv⟩ h2⟩
theorem MB{K:W.Frag}{H:Hp}{kvs:List (ba×V)}{OT:List (Str×Tv)}(p:jo K H kvs OT)(n:(OT.map (·.1)).Nodup):(kvs.map (·.1)).Nodup:=by
 rw[vZ p];unfold List.Nodup at n ⊢;rw[i8];exact n.imp λh e=>h (Sum.inr.inj e)
theorem Ll(hc:X.calm=true)(hg:Gl X "dict")(hm:X.mg "dict"=none)(he:UE X F e u)(hst:dQ e=false:=by rfl)(hpl:(backTo pos (starEach [] X.env)).any (·.1)=false:=by rfl):UD X F (.Call (.Name "dict" p) [e] [] pos) (He u):=
 ⟨PE.imp (fS (MI hc) hg hm boot_dict (cM he.pe cW hst) (by decide) (by decide) (gP hst) hpl) λσ H QQ ⟨ρ,Q,f,h,k⟩=>by
  refine⟨ρ,_,f,h,λx T H1 ρ1 s1 v1 q1=>?_⟩;obtain⟨OT,rfl,nd,z,q⟩:=q1;obtain⟨a,xs,rfl,⟨ob,hs⟩,zz,p⟩:=v1.seqI;obtain⟨ps,h1,h2⟩:=Bh p;have l2:ps.length=OT.length:=Paired.length h2;refine⟨a,xs,ps,rfl,.inr ⟨ob,hs⟩,h1,by omega,λd n=>?_⟩;rw[CN (kvs:=[]) (by simpa using MB h2 nd),gi]
  exact k _ _ _ _ _ (s1.trans (bj.same s1.fr (cC n))) (s1.non n) bJ nd z (jo.hs (jR n) h2) q⟩
variable{x:Str}{OY OW:Pos}
def Hd(ud u ux:UT):UT:=λρ Q=>ud ρ λD ρ1=>∃OT,D=.dct OT/\u ρ1 λJ ρ2=>∃k:Str,J=sT k/\ux ρ2 λW ρ3=>Q ((dA OT k).getD W) ρ3
theorem Bv{o e2:Expr}{ud ux:UT}(hu:X.A.units+1<cLine)(ho:UE X F o ud)(h:UE X F e u)(hx:UE X F e2 ux)(m:M2 X o "get" OY e e2 OW:=by exact⟨rfl,rfl,rfl,rfl⟩):UE X F (.Call (.Attribute o "get" OY) [e,e2] [] OW) (Hd ud u ux):=⟨PE.imp (J4 hu ho.pe h.pe hx.pe m) λσ H QQ ⟨ρ,Q,f,hu,k⟩=>by
 refine⟨ρ,_,f,hu,λx D H1 ρ1 s1 v1 q1=>?_⟩;obtain⟨OT,rfl,q1⟩:=q1;obtain⟨a,kvs,rfl,⟨ob,hd⟩,nd,z,p⟩:=v1.dctI;refine⟨a,rfl,.inl ⟨kvs,.inr ⟨ob,hd⟩⟩,ρ1,_,s1.fr,q1,λy J H2 ρ2 s2 v2 q2=>?_⟩;obtain⟨kk,rfl,q2⟩:=q2;obtain⟨rfl,_⟩:=v2.leafI;refine⟨ρ2,_,s2.fr,q2,λz W H3 ρ3 s3 v3 q=>?_⟩;have hs:=(s2.hs s1.fr).trans (s3.hs s2.fr);refine⟨_,.inl ⟨kvs,.inr kk,.inr ⟨ob,hs _ _ rfl hd⟩,rfl,rfl⟩,?_⟩;rcases sJ (jo.hs hs p) kk with⟨z1,z2⟩|⟨U,v,z1,z2,vv⟩
 ·rw[z2];rw[z1]at q;exact k _ _ _ _ ((s1.trans s2).trans s3) v3 q
 ·rw[z2];rw[z1]at q;exact k _ _ _ _ ((s1.trans s2).trans s3) vv q⟩
end
section
variable{X:Cx}{F:Fm}
def Fg:R2:=λx y H Q=>∃l k xs,x=.ref l/\y=.int k/\Rd H l (.lst xs) /\ -(2 ^ 63)<=k/\k<2 ^ 63/\xs.length*k.toNat<=sizeLine/\∀p,H p=none->Q (.ref p) (au H p (.lst (List.replicate k.toNat xs).flatten))
theorem Ju:cn X (binaryOp .Mult) Fg:=by
 rintro OS s σ H _ _ v u Q I rx ry ⟨l,k,xs,rfl,rfl,hH,h1,h2,hz,q⟩;cases rx;obtain⟨t,rfl⟩:=ry;obtain⟨z,its,n,r,e⟩:=hH.ok I.hok;have hl:=r.length;have hlen:its.toArray.size*k.toNat<=sizeLine:=by rw[cg,<-hl];exact hz
 have hcap:¬ its.toArray.size*k.toNat > (2 ^ 63-1) / 8:=by
  have:(sizeLine:Nat)<=(2 ^ 63-1) / 8:=by decide
  omega
 have hfit:¬ (!Builtin.List.listFitsIndex k)=true:=by
  rw[fitsIndex_both h1 h2];exact cq
 have hlong:¬ Builtin.List.listTooLong (its.toArray.size*k.toNat)=true:=by
  rw[B6 hlen];exact cq
 have hnew:List.foldl (λx1 x2=>x1++x2) #[] (List.replicate (if its.toArray.isEmpty=true then 0 else k.toNat) its.toArray)=(List.replicate k.toNat its).flatten.toArray:=by
  have f0:∀m:Nat,List.foldl (λx1 x2=>x1++x2) #[] (List.replicate m its.toArray)=(List.replicate m its).flatten.toArray:=λm=>by
   have:=Dg its m [];rw[gi]at this;exact this
  rw[f0];cases its with
  |nil=>simp
  |cons a r'=>rw[if_neg (by simp)]
 refine wpAny_binaryOp_repeat_ref (T:="list") (U:="int") (by decide) ⟨_,e,rfl⟩ (λs'=>typeIs_int s' k t) noFill_list_mul F.fills_int_mul F.slot_int_rmul repeat_list F.slot_int_index.lookup
  (call_meets F.slot_int_rmul (typeIs_int s k t) F.entry_int_rmul (F.args_int_rmul_2 _ _) (int___rmul___int_list k t l its.toArray n)
   ⟨e,rfl,⟨_,e,rfl⟩,call_meets F.slot_list_mul ⟨_,e,rfl⟩ F.entry_list_mul (F.args_list_mul_2 _ _) (AutoListH.list___mul___list_int_3 l its.toArray n k t hfit hcap hlong) ⟨e,?_⟩⟩)
 rw[hnew];exact⟨.ref _,_,I.lnew (t':=s.toks) (r.rep k.toNat) (by rw[xK,qd];exact hz),rfl,q _ I.fresh⟩
theorem Ci{α β:Type}{R:α->β->Prop}{l:List α}{m:List β}(p:Paired R l m):∀k:Nat,Paired R (List.replicate k l).flatten (List.replicate k m).flatten
 |0=>.nil
 |k+1=>by rw[i4,i4,i9,i9];exact qZ p (Ci p k)
def zl:P2
 |.seq false xs,.leaf (.int k),Q=>(xs.length*k.toNat<=100000 /\ -(2 ^ 62)<=k/\k<2 ^ 62)/\Q (.seq false (List.replicate k.toNat xs).flatten)
 |T,U,Q=>zL T U Q
theorem jN:hE X (binaryOp .Mult) zl:=by
 obtain⟨a,oa,ra⟩:=HH (X:=X);refine⟨_,oa.or Ju,λx y T U H Q QQ vx vy h k=>?_⟩;unfold zl at h;split at h
 ·obtain⟨a,xs,rfl,⟨ob,hs⟩,z,p⟩:=vx.seqI;obtain⟨rfl,_⟩:=vy.leafI;obtain⟨⟨h1,h2,h3⟩,q⟩:=h;have l1:xs.length=_:=Paired.length p;refine .inr ⟨a,_,xs,rfl,rfl,.inr ⟨ob,hs⟩,by omega,by omega,iI (by rw[l1];exact h1),λb n=>k _ _ _ (iu.lst n ?_ (Ci p _)) q⟩;rw[xK,qd];exact h1
 ·exact .inl (ra x y T U H Q QQ vx vy h k)
end
inductive Wd where
 |few (ts:List Str)
 |make (h:Str) (a b:Int) (ms:List Str)
inductive Pt where
 |nothing
 |truths (bs:List Bool)
 |numbers (lo hi st:Int)
 |texts (w:Wd)
 |lists (a b:Int) (f:List Pt)
 |record (a b:Int) (fs:List (Str×Bool×List Pt))
 |table (a b:Int) (w:Wd) (f:List Pt)
def bV:Wd->Tv
 |.few ts=>.seq true [sT "few",.seq true (ts.map sT)]
 |.make h a b ms=>.seq true [sT "make",sT h,iT a,iT b,.seq true (ms.map sT)]
def aQ:Pt->Tv
 |.nothing=>.seq true [sT "nothing"]
 |.truths bs=>.seq true [sT "truths",.seq true (bs.map bT)]
 |.numbers lo hi st=>.seq true [sT "numbers",iT lo,iT hi,iT st]
 |.texts w=>.seq true [sT "texts",bV w]
 |.lists a b f=>.seq true [sT "lists",iT a,iT b,.seq true (f.map aQ)]
 |.record a b fs=>.seq true [sT "record",iT a,iT b,.seq true (fs.map λx=>.seq true [sT x.1,bT x.2.1,.seq true (x.2.2.map aQ)])]
 |.table a b w f=>.seq true [sT "table",iT a,iT b,bV w,.seq true (f.map aQ)]
termination_by p=>sizeOf p
decreasing_by
 all_goals simp_wf
 ·have:=pq ‹_›;omega
 ·obtain⟨x1,x2,x3⟩:=x;have h1:=pq ‹_∈fs›;have h2:=pq ‹_∈x3›;simp at h1;omega
 ·have:=pq ‹_›;omega
abbrev bE(f:List Pt):Tv:=.seq true (f.map aQ)
abbrev bG(x:Str×Bool×List Pt):Tv:=.seq true [sT x.1,bT x.2.1,bE x.2.2]
theorem gM(a b:Int)(f:List Pt):aQ (.lists a b f)=.seq true [sT "lists",iT a,iT b,bE f]:=by rw[aQ]
theorem dC(a b:Int)(fs:List (Str×Bool×List Pt)):aQ (.record a b fs)=.seq true [sT "record",iT a,iT b,.seq true (fs.map bG)]:=by rw[aQ]
theorem eZ(a b:Int)(w:Wd)(f:List Pt):aQ (.table a b w f)=.seq true [sT "table",iT a,iT b,bV w,bE f]:=by rw[aQ]
def kN:Pt->Str
 |.nothing=>"nothing"
 |.truths _=>"truths"
 |.numbers ..=>"numbers"
 |.texts _=>"texts"
 |.lists ..=>"lists"
 |.record ..=>"record"
 |.table ..=>"table"
def bZ:Pt->Nat
 |.nothing=>0
 |.truths _=>1
 |.numbers ..=>2
 |.texts _=>3
 |.lists ..=>4
 |.record ..=>5
 |.table ..=>5
theorem cL{a b:Int}{A B:Prop}(h1:a=b->A)(h2:a≠b->B):if (false != di (.int a) (.int b))=true then A else B:=kh (λz=>h1 (by simpa[di]using z)) λz=>h2 (by simpa[di]using z)
theorem qE{a b:Str}{A B:Prop}(h1:a=b->A)(h2:a≠b->B):if (false != di (.str a) (.str b))=true then A else B:=kh (λz=>h1 (by simpa[di]using z)) λz=>h2 (by simpa[di]using z)
def eY(s:Str):Prop:=Sg s/\s.length<=50
def eV(l:List Str):Prop:=l.Pairwise λa b=>cs a<cs b
def zV(n:Int):Prop:=-(10 ^ 61)<n/\n<10 ^ 61
def fP:Wd->Prop
 |.few ts=>1<=ts.length/\ts.length<=6/\eV ts/\∀t∈ts,eY t
 |.make h a b ms=>eY h/\0<=a/\a<=b/\1<=b/\b<=100/\ms.Sublist MK/\ms≠[]
def GS:Wd->Bool
 |.few _=>false
 |.make ..=>true
def RunOk(lo hi st:Int):Prop:=zV lo/\zV hi/\zV st/\lo<=hi/\0<=st/\(st=0↔lo=hi)/\(st≠0->(hi-lo) % st=0)
def jD(fs:List (Str×Bool×List Pt)):Nat:=(fs.filter λx=>x.2.1).length
abbrev lD(f:List Pt):Prop:=f.Pairwise λp q=>bZ p<bZ q
theorem M_{a b:Str}(h:cs a<=cs b)(n:a≠b):cs a<cs b:=by
 refine Classical.byContradiction λz=>n (kG (List.le_antisymm h (qk1_.mp z)))
theorem IV(l:List Str):∃ss:List Str,ss.Perm l/\sortedS ss=true:=by
 refine⟨l.mergeSort λa b=>decide (cs a<=cs b),List.mergeSort_perm _ _,PyProof.Rows.sortedS_of_pairwise _ ?_⟩;refine(List.pairwise_mergeSort (λa b c h1 h2=>?_) (λa b=>?_) l).imp λ{a b} h=>?_
 ·exact gp (p_ (ip h1) (ip h2))
 ·rcases List.le_total (cs a) (cs b) with z|z<;>simp[z]
 ·rw[ltCps_eq];exact iq (qk1_.mpr (ip h))
theorem KA(l:List Str):(aZ l).Pairwise λa b=>cs a<=cs b:=by
 obtain⟨ss,h1,h2⟩:=IV l;rw[<-mK h1 h2];exact qY _ h2
theorem vJ{l:List Str}(n:l.Nodup):eV (aZ l):=by
 have h2:(aZ l).Nodup:=(dM l).nodup_iff.mpr n;exact List.Pairwise.imp₂ (λa b h n=>M_ h n) (KA l) h2
theorem mE{l:List Str}(h:eV l):l.Nodup:=List.Pairwise.imp (λ{a b} h e=>by rw[e]at h;exact rq _ h) h
def kg(x y:Str):Bool:=decide (0+y.length<=x.length)&&Builtin.Str.subAt x y 0
def bA(x hd:Str):Str:=Txt.slice x (some (hd.length:Int)) none
def iU:Wd->Str->Bool
 |.few ss,x=>decide (x∈ss)
 |.make hd lo hi ms,x=>kg x hd&&((decide (lo<=((bA x hd).length:Int))&&decide (((bA x hd).length:Int)<=hi))&&(cs (bA x hd)).all λc=>decide (cR c∈ms))
def lR:Tv->Nat
 |.leaf .non=>0
 |.leaf (.bl _)=>1
 |.leaf (.int _)=>2
 |.leaf (.str _)=>3
 |.leaf _=>5
 |.seq false _=>4
 |.seq true _=>5
 |.dct _=>5
def fJ:Nat->Str
 |0=>"nothing"
 |1=>"truth"
 |2=>"number"
 |3=>"text"
 |4=>"list"
 |_=>"dict"
theorem B0{OT:List (Str×Tv)}(hn:(OT.map (·.1)).Nodup){k:Str}{U:Tv}(h:(k,U)∈OT):dA OT k=some U:=by
 obtain⟨i,hi,e⟩:=qm2_.mp h;have:=JR hn (i:=i) (kt:=(k,U)) (by rw[b9 hi,e]);exact this
def tL(K:W.Frag):Sp:=λvs H Q _=>∃(a:Addr) (ns:List Int),vs=[.ref a]/\bx K H a (ns.map V.int)/\ns.length<=63/\∀H',Q (.bl true) H'
def oO(n:Nat):aV:=.no::.dk::List.replicate (n-2) .no
theorem GJ{K:W.Frag}{H:Hp}{p c:Addr}{N:List Str}{x:V}(hN:2<=N.length)(d:bp H p c):ar K ⟨H,some (p,c)⟩ (oO N.length) ((fE N [x]).set 1 (some (.ref p))) H:=by
 have nm:∀(i:Nat) (s:Sl),(oO N.length)[i]?=some s->(s=.dk/\i=1)\/s=.no:=λi s e=>by
  unfold oO at e
  match i,e with
  |0,e=>exact .inr (by simpa using e.symm)
  |1,e=>exact .inl ⟨by simpa using e.symm,rfl⟩
  |i+2,e=>
   have e:(List.replicate (N.length-2) Sl.no)[i]?=some s:=by simpa using e
   exact .inr (List.eq_of_mem_replicate (i5 e))
 refine⟨λp' c' e=>by cases e;exact d,⟨λ_ _ e _=>e,λp' c' e=>by cases e;exact d⟩,?_,λi s e=>?_,λi j a s t e _ m _ _ _=>?_⟩
 ·unfold oO fE;simp;omega
 ·rcases nm i s e with⟨rfl,rfl⟩|rfl
  ·refine⟨p,c,rfl,?_⟩;unfold fg fE;rw[g4 (by simp;omega)];rfl
  ·trivial
 ·rcases nm i s e with⟨rfl,_⟩|rfl<;>cases m
theorem BV{K:W.Frag}{mg:Str->Option Value}{x:Str}{a:Addr}{ss:List Str}(m:mg x=some (.ref a))(T:∀H,cv K H a (ss.map V.str))(l:ss.length<=100000:=by decide):fW K mg x (.seq true (ss.map sT)):=by
 refine⟨.ref a,.ref a,m,rfl,λH=>VA.seq (T H) (by rw[ak];exact l) ?_⟩;have key:∀ss:List Str,cy K H (ss.map V.str) (ss.map sT):=λss=>by
  induction ss with
  |nil=>exact .nil
  |cons s ss ih=>exact .cons (.flat rfl) ih
 exact key ss
theorem ID{X:Cx}{st:List Stmt}{us:d_}(h:∀F,km X F st us):ik X st (λD σ H=>∃F,nV X.K F us D σ H):=λOS s σ H D I ⟨F,q⟩=>(h F).ps OS s σ H D I q
theorem Jl{X:Cx}{us:d_}{D:mC}{p c:Addr}{H:Hp}{N:List Str}{x:V}(hN:2<=N.length)(d:bp H p c)(q:∀H',D.rt (.bl true) H')(h:us {nx:=λ_=>False,rt:=λT=>T=bT true} (oO N.length)):
  ∃F,nV X.K F us D ((fE N [x]).set 1 (some (.ref p))) H:=⟨⟨H,some (p,c)⟩,oO N.length,_,GJ hN d,h,λ_ _ _ _ _ z=>z.elim,λx T H' _ v e=>by
 subst e;obtain⟨rfl,_⟩:=v.leafI
 exact q H',λ_ _ _ _ _ z=>z.elim,λ_ _ _ _ _ z=>z.elim⟩
section
variable{X:Cx}{F:Fm}
variable{x:Str}{p OY OW pos:Pos}{st:Stmt}
theorem AS:US X F st (λ_ _=>False):=⟨λOS s σ H D I ⟨_,_,_,h,_⟩=>h.elim⟩
end
end L2
namespace L2
open PySem PySem.Spec PyProof.Rows
def eX:Bool->Value->Bool
 |b,.bool c=>b==c
 |_,_=>false
theorem mF{b:Bool}{v:Value}(h:eX b v=true):v=.bool b:=by
 cases v<;>simp_all [eX]
def jH(b:Bool):Int:=if b then 1 else 0
section
variable{prog:Program}{w:World}{A:Around}{E:Value->Shared->Prop}{s:Shared}
theorem Lq{b:Bool}{Q:Int->Shared->Prop}(h:Q (jH b) {s with toks:=s.toks+1}):wpAny (model prog w) A (pyHash (.bool b)) Q E s:=by
 unfold pyHash;have hv:[Value.bool b].any Value.onHeap=false:=rfl;refine af ?_;rw[cRoomFor,if_neg (by rw[hv];exact cq)];refine aj ?_;refine af (wpAny_specialOf (typeIs_bool' s b) F.slot_bool_hash.lookup ?_);show wpAny _ _ (if (some (Value.builtin "int.__hash__")==some Value.none)=true then _ else _) Q E s;rw[if_neg (by rw[beq_builtin_none];exact cq)];refine af (wpAny_specialOf (typeIs_bool' s b) F.slot_bool_hash.lookup ?_);show wpAny _ _ (callSpecialIfBoundUnlessNone? (.bool b) "__hash__" _ >>= _) Q E s
 refine af (wpAny_callSpecialIfBoundUnlessNone?_slot (typeIs_bool' s b) F.slot_bool_hash
  (jt F.slot_bool_hash (typeIs_bool' s b) PySem.entry_int_hash
   (show wpAny _ _ (do ret (<- mkInt (rawHash (jH b)))) _ _ s from ?_) (PySem.args_int_hash _)))
 refine wpAny_ret_mkInt ?_;cases b
 ·exact aj h
 ·exact aj h
theorem Hw{a b:Bool}{Q:Bool->Shared->Prop}(h:Q (decide (a=b)) s):wpAny (model prog w) A (eqBool (.bool a) (.bool b)) Q E s:=by
 refine SeqAt.EqAt.bool_bool a b _ _ _ _ ?_;have e:(a==b)=decide (a=b):=by cases a<;>cases b<;>rfl
 rw[e];exact h
end
def lI(prog:Program)(w:World):PySem.KeyKind prog w Bool where
 is:=eX
 hash:=jH
 inj:=λv a b ha hb=>by
  have:=(mF ha).symm.trans (mF hb);injection this
 byValue:=λk v h=>by rw[mF h];rfl
 pyHash:=λhv h=>by rw[mF hv];exact Lq h
 eqBool:=λhu hv h=>by rw[mF hu,mF hv];exact Hw h
 «strs»:=λk x t v h=>by simp[eX]at h
def cp(f t:Bool):List Bool:=(if f then [false] else [])++(if t then [true] else [])
def g8(f t:Bool):Array (Int×Value):=((cp f t).map λb=>(jH b,Value.bool b)).toArray
def dB(l f t:Bool):SetTable:=⟨7,((cp f t).map λb=>if b then 1 else 0).toArray,#[],0,l,0,true⟩
theorem DX(l f t b:Bool)(h:b∉cp f t):layNew (dB l f t) (g8 f t) (jH b) (.bool b)=(g8 (f || !b) (t || b),dB l (f || !b) (t || b),false,false):=by
 cases l<;>cases f<;>cases t<;>cases b<;>first|rfl|exact absurd (by simp[cp]) h
theorem iW(l f t:Bool):(dB l f t).fits (g8 f t).size=true:=by cases l<;>cases f<;>cases t<;>rfl
theorem FF(l f t:Bool):(dB l f t).tooFull=false:=by cases l<;>cases f<;>cases t<;>rfl
theorem tM(f t:Bool):(g8 f t).size=(cp f t).length:=by simp[g8]
theorem iV(f t:Bool):(cp f t).length<=2:=by cases f<;>cases t<;>decide
def br(w:World)(a:Addr)(f t:Bool)(h:Heap):Prop:=∃ep,h.get? a=some (cB (g8 f t) ep (dB (!cf w) f t))
section
variable{prog:Program}{w:World}{A:Around}{E:Value->Shared->Prop}{s:Shared}{a:Addr}{f t b:Bool}
theorem br.kept{h h':Heap}(S:br w a f t h)(k:∀o,h.get? a=some o->h'.get? a=some o):br w a f t h':=by
 obtain⟨ep,e⟩:=S;exact⟨ep,k _ e⟩
theorem DB:ElemsOf (lI prog w) (g8 f t).toList:=λe he=>by
 have he:e∈(cp f t).map λb=>(jH b,Value.bool b):=he
 obtain⟨b,_,rfl⟩:=qd_.mp he;exact⟨⟨b,by show eX b (.bool b)=true;simp[eX],rfl⟩,rfl⟩
theorem findB:((g8 f t).toList.findIdx? λe=>(lI prog w).is b e.2)=none↔b∉cp f t:=by
 rw[qz3_];constructor
 ·intro h hb;have:=h (jH b,.bool b) (by simp only[g8];exact qd_.mpr ⟨b,hb,rfl⟩);exact absurd this (by show ¬ eX b (.bool b)=false;simp[eX])
 ·intro h e he;have he:e∈(cp f t).map λb=>(jH b,Value.bool b):=he
  obtain⟨c,hc,rfl⟩:=qd_.mp he;show eX b (.bool c)=false;simp only[eX,beq_eq_false_iff_ne];exact λz=>h (z▸hc)
theorem DA{f t b:Bool}(h:b∈cp f t):(f || !b)=f/\(t || b)=t:=by
 cases f<;>cases t<;>cases b<;>simp_all [cp]
theorem BI{Q:Bool->Shared->Prop}(S:br w a f t s.heap)(h:∀r h',Heap.SameBut a s.heap h'->br w a (f || !b) (t || b) h'->Q r {s with heap:=h'}):
  wpAny (model prog w) A (setAddHashed a (.bool b) ((lI prog w).hash b)) Q E s:=by
 obtain⟨ep,ho⟩:=id S;have hk:(lI prog w).is b (.bool b)=true:=by show eX b (.bool b)=true;simp[eX]
 have lt:(g8 f t).size<scanBound:=by rw[tM];have:=iV f t;show _<4096;omega
 unfold setAddHashed setAddHashedIn;refine ic (af (g_ ho rfl (iW _ _ _) ?_));dsimp only;rw[byScan_of (x:=.bool b) rfl lt (DB (prog:=prog) (w:=w)),if_pos rfl];unfold setAddByScan;refine af (af (wpAny_rule ?_));refine af (wpAny_setScan_of hk ho rfl (iW _ _ _) DB ?_);cases hr:(g8 f t).toList.findIdx? (λe=>(lI prog w).is b e.2) with
 |some j=>
  dsimp only;have hin:b∈cp f t:=Classical.byContradiction λz=>by rw[findB.mpr z]at hr;cases hr
  refine aj (aj ?_);have e:s={s with heap:=s.heap}:=by cases s;rfl
  rw[e];refine h false s.heap (Heap.SameBut.refl a s.heap) ?_;rw[(DA hin).1,(DA hin).2];exact S
 |none=>
  dsimp only;have hout:=findB.mp hr;rw[show(lI prog w).hash b=jH b from rfl,DX _ _ _ _ hout];dsimp only;refine af (aj ?_);rw[if_pos (show(dB (!cf w) (f || !b) (t || b)).plain=true from rfl)];refine af ?_;rw[show hashByValue 8 (.bool b)=pure true from rfl];refine aj ?_;rw[if_pos rfl];refine af (wpAny_storeSet_of ho rfl ?_ (by rw[tM];have:=iV (f || !b) (t || b);exact cx this (by decide)));rw[FF];have o1:=fo (Obj.putSet (g8 (f || !b) (t || b)) (dB (!cf w) (f || !b) (t || b))) ho rfl;exact aj (aj (h true _ (Heap.SameBut.update s.heap a _) ⟨ep+1,o1⟩))
end
def b7(bs:List Bool):Bool:=bs.any (!·)
def b5(bs:List Bool):Bool:=bs.any id
theorem JH(bs:List Bool)(b:Bool):b7 (bs++[b])=(b7 bs || !b):=by simp[b7]
theorem JI(bs:List Bool)(b:Bool):b5 (bs++[b])=(b5 bs || b):=by simp[b5]
section
variable{prog:Program}{w:World}{A:Around}{R:Result->Shared->Prop}{I:Addr}{fp wr:List Addr}{G:Array GenState->Array GenState->Prop}{n:Nat}{P:Nat->Value->Prop}{St:Nat->Shared->Prop}
theorem JS(W:WalksS prog w A.in1 I fp wr G n P St)(S:Addr)(hf:S∉fp)(bs:List Bool)(hn:n=bs.length)(hv:∀i v,P i v->∃b,bs[i]?=some b/\v=.bool b):
  ∀(k i:Nat) (s:Shared),n-i=k->i<=n->St i s->br w S (b7 (bs.take i)) (b5 (bs.take i)) s.heap ->
   (∀s',Moved (S::wr) G s s'->br w S (b7 bs) (b5 bs) s'.heap->R (.ok (.ret .none)) s')->codeAny (model prog w) A (.builtin "set.update.loop" ⟨[.ref S,.ref I],[]⟩) R s:=λk i s hk hi st hS hR=>
 B1 W S hf (λi h=>br w S (b7 (bs.take i)) (b5 (bs.take i)) h) (λ_ _ _ S k=>S.kept k) (λi v s' Q E lt hP hS q=>by
  obtain⟨b,eb,rfl⟩:=hv i v hP;refine Cp (lI prog w) (x:=b) (by show eX b (.bool b)=true;simp[eX]) (BI (s:={s' with toks:=s'.toks+1}) hS λr h' sb S2=>q r h' sb ?_);rw[gu,eb];show br w S (b7 (bs.take i++[b])) (b5 (bs.take i++[b])) h';rw[JH,JI]
  exact S2) k i s hk hi st hS λs' m S'=>hR s' m (by rw[hn,jj]at S';exact S')
end
theorem GD{vs:List Value}{bs:List Bool}(h:vs=bs.map Value.bool)(i:Nat)(v:Value)(e:vs[i]?=some v):∃b,bs[i]?=some b/\v=.bool b:=by
 subst h;rw[gf]at e;obtain⟨b,hb,rfl⟩:=qa1_.mp e;exact⟨b,hb,rfl⟩
theorem Cj{vs:List Value}{us:List Bool}(h:vs.Perm (us.map Value.bool)):∃bs:List Bool,vs=bs.map Value.bool/\bs.Perm us:=by
 let g:Value->Bool:=λv=>match v with|.bool b=>b|_=>false
 refine⟨vs.map g,?_,?_⟩
 ·rw[dh]
  conv=>lhs;rw[<-oh vs]
  refine mr λv hv=>?_
  obtain⟨b,_,rfl⟩:=qd_.mp (h.mem_iff.mp hv);rfl
 ·have:=h.map g;rw[dh]at this;have e:us.map (g∘Value.bool)=us:=by
   conv=>rhs;rw[<-oh us]
   exact mr λb _=>rfl
  rwa[e]at this
theorem Fj(l f t:Bool):fV (dB l f t).place:=by
 cases f<;>cases t<;>first|exact CQ (Nat.le_of_ble_eq_true rfl)|skip;intro i j hij a b ha hb;have:=(qi2_.mp hb).1;have h2:(dB l true true).place.size=2:=rfl;have e1:i=0:=by omega
 have e2:j=1:=by omega
 subst e1 e2;cases ha;cases hb;exact Nat.zero_lt_one
@[reducible] def sortB:PyProof.Rows.KeyKind where
 α:=Bool
 blt a b:=!a&&b
 irrefl a:=by cases a<;>rfl
 trans a b c h1 h2:=by cases a<;>cases b<;>cases c<;>simp_all
 negTrans a b c h:=by cases a<;>cases b<;>cases c<;>simp_all
 total a b h1 h2:=by cases a<;>cases b<;>simp_all
 keyOf v:=match v with|.bool b=>some b|_=>none
 dflt:=false
section
variable{prog:Program}{w:World}{A:Around}{E:Value->Shared->Prop}{s:Shared}
theorem L6{a b:Bool}{Q:Bool->Shared->Prop}(h:Q (!a&&b) s):wpAny (model prog w) A (oneLt' true (.bool a) (.bool b)) Q E s:=by
 rw[oneLt'_eq];simp only[if_true];refine af (wpAny_cRoomFor_byValue rfl ?_);refine af (wpAny_callSpecialIfBound?_slot (typeIs_bool' s a) F.slot_bool_lt ?_);refine call_gives F.slot_bool_lt (typeIs_bool' s a) F.entry_int_lt (F.args_int_lt_2 _ _) (gives_int_lt_bools a b) ?_;have e:decide (b2i a<b2i b)=(!a&&b):=by cases a<;>cases b<;>rfl
 show wpAny _ _ (truthOfDropped (.bool (decide (b2i a<b2i b)))) _ _ _;rw[e];exact wpAny_truthy_bool h
end
theorem Ng:sortB.OneLt:=by
 intro prog w A E s x y a b Q ha hb h;cases x<;>simp only[sortB,reduceCtorEq,Option.some.injEq]at ha;cases y<;>simp only[sortB,reduceCtorEq,Option.some.injEq]at hb;cases ha;cases hb;exact L6 h
theorem zY:∀(bs:List Bool),(bs.map Value.bool).mapM firstOfTuple'=pure ((bs.map Value.bool).map λ_=>none)
 |[]=>by simp
 |b::bs=>by rw[e6,List.mapM_cons,show firstOfTuple' (.bool b)=pure none from rfl,zY bs];simp
theorem CK:∀(bs:List Bool),(bs.map Value.bool).mapM typeOf=pure ((bs.map Value.bool).map λ_=>Value.type "bool")
 |[]=>by simp
 |b::bs=>by
  rw[e6,List.mapM_cons,CK bs];show(pure (Value.type "bool") >>= λb=>pure _ >>= λbs=>pure (b::bs))=_;simp
theorem M7{b c:Bool}{bs:List Bool}:keyKind' (((b::c::bs).map Value.bool).toArray)=pure oneType':=by
 rw[keyKind'_eq,List.mapM_toArray,zY];simp only[map_pure,pure_bind];rw[if_neg (by simp),if_neg (by simp)];rw[oneTypeOnly'_eq,List.mapM_toArray,CK];simp only[map_pure,pure_bind];have hall:((List.map (λ_=>Value.type "bool") ((b::c::bs).map Value.bool)).toArray.all λx=>x==Value.type "bool")=true:=by
  simp only[List.all_toArray,qh,qB1_];intro _ _;rfl
 have h0:(List.map (λ_=>Value.type "bool") ((b::c::bs).map Value.bool)).toArray[0]?=some (Value.type "bool"):=by simp
 rw[h0];simp only[hall,if_true,pure_bind,Option.isSome_some]
theorem J6{f t:Bool}{bs:List Bool}(h:bs.Perm (cp f t))(s:∀i j:Nat,i<=j->∀a b,bs[i]?=some a->bs[j]?=some b->(!b&&a)=false):bs=cp f t:=by
 cases f<;>cases t
 ·exact List.perm_nil.mp h
 ·exact List.perm_singleton.mp h
 ·exact List.perm_singleton.mp h
 ·have l:bs.length=2:=h.length_eq
  match bs,l with
  |[a,b],_=>
   have:=s 0 1 (by decide) a b rfl rfl;cases a<;>cases b
   ·exact absurd (h.mem_iff (a:=true)) (by simp[cp])
   ·rfl
   ·cases this
   ·exact absurd (h.mem_iff (a:=false)) (by simp[cp])
section
variable{prog:Program}{w:World}{A:Around}{E:Value->Shared->Prop}{s:Shared}{a:Addr}{f t:Bool}
theorem NF{Q:Value->Shared->Prop}(hh:A.handled=none)(S:br w a f t s.heap)
  (h:∀h' d tk (l:Addr) (e:Nat),h'.get? l=some (seqObj "list" ((cp f t).map Value.bool).toArray e)->s.heap.objs.size<=l->(∀b o,s.heap.get? b=some o->h'.get? b=some o) ->
   Q (.ref l) {s with heap:=h',drawn:=d,toks:=tk}):wpAny (model prog w) A (call (.builtin "sorted") [.ref a]) Q E s:=by
 refine Calls.call_function_entry kind_sorted plain_sorted entry_sorted (args_sorted1 _) ?_;unfold Builtin.«sorted»;refine af (m:=checkCount "sorted" 1 1 _) (aj ?_);obtain⟨ep,ho⟩:=S;refine af (CA (by simp[hh]) ho (iW _ _ _) (by rw[tM];have:=iV f t;show _<4096;omega) rfl (λ_=>Fj _ _ _) λh1 d tk acc pa le kp=>?_);obtain⟨bs,hs,hp⟩:=Cj (us:=cp f t) (by simpa[g8,Function.comp_def]using pa);subst hs;have hlen:(bs.map Value.bool).length<64:=by rw[ak,hp.length_eq];have:=iV f t;omega
 refine af (wpAny_newList ?_ (ff (gz hlen (by decide))));have hoL:(h1.push (seqObj "list" (bs.map Value.bool).toArray 0)).get? h1.objs.size=some (seqObj "list" (bs.map Value.bool).toArray 0):=ck _ rfl;have hko:KeysOf sortB (pairsOf (bs.map Value.bool)):=by
  intro p hp;rw[pairsOf_toList]at hp;obtain⟨b,_,e⟩:=qd_.mp (mem_zip_self hp).2;exact⟨b,by rw[<-e]⟩
 refine af (ic (jt slot_list_sort ⟨_,hoL,rfl⟩ entry_list_sort (list_sort_treeK Ng hoL hko (λv₁ v₂ rest e=>?_) hlen λst' a1 a2=>⟨_,rfl,?_⟩) (args_list_sort _)))
 ·match bs,e with
  |b::c::bs,e=>rw[<-e];exact M7
 have hl:(arrOf st').toList.Perm ((bs.map Value.bool).zip (bs.map Value.bool)):=by rw[<-pairsOf_toList];exact Array.perm_iff_toList_perm.mp a1
 have hmem:∀p,p∈(arrOf st').toList->p.1=p.2/\p.1∈bs.map Value.bool:=λp hp'=>mem_zip_self (hl.mem_iff.mp hp')
 have pm:((arrOf st').map (·.2)).toList.Perm ((cp f t).map Value.bool):=by
  rw[Array.toList_map];have:=hl.map (·.2);rw[List.map_snd_zip (bg _)]at this;exact this.trans (hp.map _)
 obtain⟨cs,e1,e2⟩:=Cj pm;have e3:cs=cp f t:=J6 e2 λi j hij x y hx hy=>by
  have kk:∀(i:Nat) (x:Bool),cs[i]?=some x->KK sortB (arrOf st') i=x/\i<(arrOf st').size:=λi x hx=>by
   have hv:((arrOf st').map (·.2)).toList[i]?=some (.bool x):=by rw[e1,gf,hx];rfl
   rw[Array.toList_map,gf]at hv;obtain⟨p,hp1,hp2⟩:=qa1_.mp hv;have hm:=hmem p (i5 hp1);rw[h9]at hp1;refine⟨?_,(qi2_.mp hp1).1⟩;unfold KK;rw[hp1];show(sortB.keyOf p.1).getD false=x;rw[hm.1,hp2];rfl
  have hi:=kk i x hx;have hj:=kk j y hy;have:=a2 i j hij (by rw[<-a1.size_eq];exact hj.2);rw[hi.1,hj.1]at this;exact this
 subst e3;obtain⟨e,he⟩:=sortedHeap_at (out:=(arrOf st').map (·.2)) hoL;refine aj ⟨_,rfl,h _ _ _ _ e (by rw[<-e1,sa];exact he) (ff le) λb o q=>?_⟩;have lt:=bo (kp b o q);rw[sortedHeap_old (cz lt) (by rw[i3];exact i7 lt)];exact bh _ (kp b o q)
end
end L2
namespace L2
open PySem PySem.Spec PyProof.Rows WordM
def fU(w:World)(a:Addr)(f t:Bool):HO:=.ext (br w a f t)
section
variable{X:Cx}{F:Fm}
theorem GE{bs:List Bool}:∀{vs:List Value},ai (bs.map V.bl) vs->vs=bs.map Value.bool:=by
 induction bs with
 |nil=>intro vs h;cases h;rfl
 |cons b bs ih=>
  intro vs h;cases h with
  |cons r t=>
   rw[e6,<-ih t];have:_=Value.bool b:=r;rw[this]
def IK(w:World):List V->Hp->VK->Prop:=λxs H Q=>∃(a:Addr) (f t:Bool),xs=[.ref a]/\H a=some (fU w a f t)/\∀l:Addr,H l=none->Q (.ref l) (au H l (.lst ((cp f t).map V.bl)))
theorem Co:∀(bs:List Bool),ai (bs.map V.bl) (bs.map Value.bool)
 |[]=>.nil
 |b::bs=>.cons rfl (Co bs)
theorem CH(hc:X.calm=true):aq X (.builtin "sorted") (IK X.w):=by
 intro OS s σ H xs us Q I r h;obtain⟨a,f,t,rfl,hq,q⟩:=h;obtain⟨u,rfl,rx⟩:=cI r;cases rx;have S:br X.w a f t s.heap:=(I.hok a _ hq).1;refine NF (I.ok.hd hc) S λh' d tk l e hl le k=>?_
 refine⟨.ref l,_,(I.laid (t':=tk) (o:=.lst ((cp f t).map V.bl)) k le ⟨?_,_,e,Co _,hl⟩).draw d,rfl,q l (I.hok.fresh le)⟩;rw[ak];exact cx (iV f t) (by decide)
variable{pos:Pos}
end
end L2
namespace L2
open PySem PySem.Spec PyProof.Rows
section
variable{X:Cx}{F:Fm}
def HQ(P:Program)(w:World)(K:W.Frag):List V->Hp->VK->Prop:=λxs H Q=>∃(p:Addr) (ss:List Str),xs=[.ref p]/\bx K H p (ss.map V.str)/\(aH ss).length<4000/\∀a:Addr,H a=none->Q (.ref a) (au H a (dJ P w a (aH ss)))
theorem LU(hc:X.calm=true):aq X (.type "set") (HQ X.prog X.w X.K):=by
 intro OS s σ H xs us Q I r h;obtain⟨p,ss,rfl,hq,hz,q⟩:=h;obtain⟨u,rfl,rx⟩:=cI r;cases rx;obtain⟨its,rv,pl,hz'⟩:=I.list hq;have hi:StrsAre its.toArray.toList ss:=jM rv;refine CB (I.ok.hd hc) pl.isList hi (by show(aH ss).length+1<4096;omega) λh' tk S k=>?_
 refine⟨.ref s.heap.objs.size,_,I.laid (t':=tk) (o:=dJ X.prog X.w s.heap.objs.size (aH ss)) (λb o e=>k b o (bo e) e) (bg _) ⟨S,?_,λh1 h2 z k'=>z.kept k'⟩,rfl,q _ I.fresh⟩;obtain⟨es,ep,t,e,_⟩:=S;exact⟨_,e⟩
variable{pos:Pos}
def Mz(u:UT):f9:=λρ Q=>u ρ λT ρ1=>∃ss:List Str,T=.seq false (ss.map sT)/\(aH ss).length<64/\Q ((aZ (aH ss)).map sT) ρ1
theorem Cz{e:Expr}{u:UT}{p p' pos':Pos}(hc:X.calm=true)(hg:Gl X "sorted")(hm:X.mg "sorted"=none)(hg':Gl X "set")(hm':X.mg "set"=none)(he:UE X F e u)(hst:dQ e=false:=by rfl)
  (hpl:(backTo pos (starEach [] X.env)).any (·.1)=false:=by rfl) (hpl':(backTo pos' (starEach [] X.env)).any (·.1)=false:=by rfl):
  UL X F (.Call (.Name "sorted" p) [.Call (.Name "set" p') [e] [] pos'] [] pos) (Mz u):=⟨PE.imp (iD (uZ hc) hg hm boot_sorted (cM (fS (LU hc) hg' hm' L2.boot_set (cM he.pe cW hst) (by decide) (by decide) (gP hst) hpl') cW rfl) (by decide) (by decide) rfl hpl) λσ H QQ ⟨ρ,Q,f,h,k⟩=>by
 refine⟨ρ,_,f,h,λx T H1 ρ1 s1 v1 q1=>?_⟩;obtain⟨ss,rfl,l2,q⟩:=q1;obtain⟨a,ys,rfl,hs,z,p⟩:=v1.seqI;rw[iB p]at hs;refine⟨a,ss,rfl,cH hs,by omega,λb nb=>⟨b,aH ss,rfl,bJ,l2,λms c h1 h2 nc=>?_⟩⟩;have sm:=(cC (o:=dJ X.prog X.w b (aH ss)) nb).trans (cC (o:=.lst (ms.map V.str)) nc);refine k _ _ _ _ _ (s1.trans (bj.same s1.fr sm)) (s1.non ((cC nb).free nc)) bJ (by rw[ak,h1.length_eq];omega) (mV ms) ?_;rw[mK h1 h2]
 exact q⟩
abbrev E4:P2:=t6 (λ_ j=>j≠0) λi j=>.int (i.fmod j)
theorem IG:hE X (binaryOp .Mod) E4:=(tQ Js λ_ _=>rfl).op
end
end L2
namespace RunM
structure RunOk (lo hi st:Int):Prop where
 nn:0<=st
 z:st=0->lo=hi
 p:0<st->lo<hi/\st ∣ (hi-lo)
theorem RunOk.le{lo hi st:Int}(r:RunOk lo hi st):lo<=hi:=by
 rcases Int.lt_or_le 0 st with h|h
 ·exact Int.le_of_lt (r.p h).1
 ·have:=r.nn;rw[r.z (by omega)];exact me _
end RunM
namespace GcdM
open RunM
def g(a b:Int):Int:=((Int.gcd a b:Nat):Int)
theorem kY(a b:Int):0<=g a b:=Int.natCast_nonneg _
theorem g_dvd{d a b:Int}:d ∣ g a b↔d ∣ a/\d ∣ b:=by
 unfold g;constructor
 ·intro h;exact⟨j4 h (Int.gcd_dvd_left ..),j4 h (Int.gcd_dvd_right ..)⟩
 ·rintro⟨h1,h2⟩;exact Int.dvd_coe_gcd h1 h2
theorem GO(a:Int)(h:0<=a):g a 0=a:=by
 unfold g;rw[Int.gcd_zero_right];omega
theorem rM{a b:Int}(ha:0<=a)(hb:0<=b)(h:∀d:Int,d ∣ a↔d ∣ b):a=b:=by
 have h1:a ∣ b:=(h a).mp (pk _);have h2:b ∣ a:=(h b).mpr (pk _);exact Int.dvd_antisymm ha hb h1 h2
theorem GN{a b:Int}(hb:0<b):g b (a % b)=g a b:=by
 refine rM (kY _ _) (kY _ _) λd=>?_
 rw[g_dvd,g_dvd];constructor
 ·rintro⟨h1,h2⟩;refine⟨?_,h1⟩;have:=md (j4 h1 (pj b (a / b))) h2;rw[Int.mul_ediv_add_emod]at this;exact this
 ·rintro⟨h1,h2⟩;refine⟨h2,?_⟩;have:=kn h1 (j4 h2 (pj b (a / b)));rw[show a-b*(a / b)=a % b by have:=Int.mul_ediv_add_emod a b;omega]at this;exact this
def stepOf(lo:Int)(ns:List Int):Int:=ns.foldl (λs n=>g (n-lo) s) 0
theorem wD{lo d:Int}:∀{ns:List Int}{s:Int},d ∣ ns.foldl (λs n=>g (n-lo) s) s↔d ∣ s/\∀n∈ns,d ∣ (n-lo)
 |[],s=>by simp
 |n::r,s=>by
  rw[j8,wD,g_dvd];constructor
  ·rintro⟨⟨h1,h2⟩,h3⟩;refine⟨h2,λm hm=>?_⟩;rcases qe_.mp hm with e|e
   ·rw[e];exact h1
   ·exact h3 m e
  ·rintro⟨h1,h2⟩;exact⟨⟨h2 n fe,h1⟩,λm hm=>h2 m (fc _ hm)⟩
theorem qT{lo:Int}:∀{ns:List Int}{s:Int},0<=s->0<=ns.foldl (λs n=>g (n-lo) s) s
 |[],s,h=>h
 |n::r,s,_=>qT (ns:=r) (kY _ _)
theorem AD{lo hi st d m:Int}(ok:RunOk lo hi st):(d ∣ (lo-m)/\d ∣ (hi-m)/\d ∣ (lo+st-m))↔d ∣ (lo-m)/\d ∣ st:=by
 constructor
 ·rintro⟨h1,_,h3⟩;refine⟨h1,?_⟩;have:=kn h3 h1;rw[show lo+st-m-(lo-m)=st by omega]at this;exact this
 ·rintro⟨h1,h2⟩;refine⟨h1,?_,?_⟩
  ·by_cases hs:st=0
   ·rw[<-ok.z hs];exact h1
   ·have hp:0<st:=by have:=ok.nn;omega
    have:=md h1 (j4 h2 (ok.p hp).2);rw[show lo-m+(hi-lo)=hi-m by omega]at this;exact this
  ·have:=md h1 h2;rw[show lo-m+st=lo+st-m by omega]at this;exact this
theorem M6{lo hi st lo' hi' st':Int}(ok:RunOk lo hi st)(ok':RunOk lo' hi' st'):
  stepOf (if lo'<lo then lo' else lo) [lo,hi,lo+st,lo',hi',lo'+st']=g (g st st') (lo-lo'):=by
 refine rM (qT (me 0)) (kY _ _) λd=>?_
 unfold stepOf;rw[wD,g_dvd,g_dvd];have key:∀m:Int,(m=lo\/m=lo')->((d ∣ (0:Int)/\∀n∈[lo,hi,lo+st,lo',hi',lo'+st'],d ∣ (n-m))↔(d ∣ st/\d ∣ st')/\d ∣ (lo-lo')):=by
  intro m hm;have r1:=@AD lo hi st d m ok;have r2:=@AD lo' hi' st' d m ok';constructor
  ·rintro⟨_,h⟩;have a1:=r1.mp ⟨h lo (by simp),h hi (by simp),h (lo+st) (by simp)⟩;have a2:=r2.mp ⟨h lo' (by simp),h hi' (by simp),h (lo'+st') (by simp)⟩;refine⟨⟨a1.2,a2.2⟩,?_⟩;have:=kn a1.1 a2.1;rw[show lo-m-(lo'-m)=lo-lo' by omega]at this;exact this
  ·rintro⟨⟨h1,h2⟩,h3⟩;have b1:d ∣ (lo-m):=by
    rcases hm with e|e
    ·rw[e,og];exact jg _
    ·rw[e];exact h3
   have b2:d ∣ (lo'-m):=by
    rcases hm with e|e
    ·rw[e];have:=Int.dvd_neg.mpr h3;rw[show -(lo-lo')=lo'-lo by omega]at this;exact this
    ·rw[e,og];exact jg _
   have a1:=r1.mpr ⟨b1,h1⟩;have a2:=r2.mpr ⟨b2,h2⟩;refine⟨jg _,λn hn=>?_⟩;simp only[qe_,b_,or_false]at hn;rcases hn with e|e|e|e|e|e<;>rw[e]
   ·exact a1.1
   ·exact a1.2.1
   ·exact a1.2.2
   ·exact a2.1
   ·exact a2.2.1
   ·exact a2.2.2
 split
 ·exact key lo' (.inr rfl)
 ·exact key lo (.inl rfl)
theorem Cb{lo hi st:Int}(ok:RunOk lo hi st):lo<=hi/\lo+st<=hi:=by
 refine⟨ok.le,?_⟩;by_cases hs:st=0
 ·rw[hs,<-ok.z hs];omega
 ·have hp:0<st:=by have:=ok.nn;omega
  have:=ok.p hp;have:=Int.le_of_dvd (by omega) this.2;omega
theorem GK(a b:Int):g a b=g b a:=by unfold g;rw[Int.gcd_comm]
theorem FH(a b:Int):g a (-b)=g a b:=by unfold g;rw[Int.gcd_neg]
theorem g_abs(a:Int):g a 0=if a<0 then -a else a:=by
 unfold g;rw[Int.gcd_zero_right];split<;>omega
theorem g_turnF{a b:Int}(hb:b≠0):g b (a.fmod b)=g a b:=by
 refine rM (kY _ _) (kY _ _) λd=>?_
 rw[g_dvd,g_dvd];have e:=Int.mul_fdiv_add_fmod a b;constructor
 ·rintro⟨h1,h2⟩;refine⟨?_,h1⟩;have:=md (j4 h1 (pj b (a.fdiv b))) h2;rw[e]at this;exact this
 ·rintro⟨h1,h2⟩;refine⟨h2,?_⟩;have:=kn h1 (j4 h2 (pj b (a.fdiv b)));rw[show a-b*(a.fdiv b)=a.fmod b by omega]at this;exact this
theorem fmod_less{a b:Int}(hb:b≠0):(a.fmod b).natAbs<b.natAbs:=by
 rcases Int.lt_or_gt_of_ne hb with h|h
 ·have e:a.fmod b = -((-a).fmod (-b)):=by rw[Int.neg_fmod_neg];omega
  have h1:=Int.fmod_nonneg_of_pos (-a) (show 0 < -b by omega);have h2:=Int.fmod_lt_of_pos (-a) (show 0 < -b by omega);omega
 ·have h1:=Int.fmod_nonneg_of_pos a h;have h2:=Int.fmod_lt_of_pos a h;omega
abbrev R3:=Int×Int×Int
def Ok(a:R3):Prop:=RunOk a.1 a.2.1 a.2.2
def joinR(a b:R3):R3:=(if b.1<a.1 then b.1 else a.1,if b.2.1 > a.2.1 then b.2.1 else a.2.1,g (g a.2.2 b.2.2) (a.1-b.1))
structure Sub (b a:R3):Prop where
 lo:a.1<=b.1
 hi:b.2.1<=a.2.1
 far:a.2.2 ∣ (b.1-a.1)
 st:a.2.2 ∣ b.2.2
theorem K1(a b:R3):joinR a b=joinR b a:=by
 unfold joinR;have h1:(if b.1<a.1 then b.1 else a.1)=(if a.1<b.1 then a.1 else b.1):=by split<;>split<;>omega
 have h2:(if b.2.1 > a.2.1 then b.2.1 else a.2.1)=(if a.2.1 > b.2.1 then a.2.1 else b.2.1):=by split<;>split<;>omega
 rw[h1,h2,GK a.2.2 b.2.2,show a.1-b.1 = -(b.1-a.1) by omega,FH]
theorem Bu{a b:R3}:Sub a (joinR a b):=by
 have h:=(g_dvd (d:=g (g a.2.2 b.2.2) (a.1-b.1))).mp (pk _);have h2:=g_dvd.mp h.1;refine⟨?_,?_,?_,h2.1⟩
 ·show(if b.1<a.1 then b.1 else a.1)<=a.1;split<;>omega
 ·show a.2.1<=(if b.2.1 > a.2.1 then b.2.1 else a.2.1);split<;>omega
 ·show g (g a.2.2 b.2.2) (a.1-b.1) ∣ (a.1-(if b.1<a.1 then b.1 else a.1));split
  ·exact h.2
  ·rw[og];exact jg _
theorem Mr{a b:R3}:Sub b (joinR a b):=by
 rw[K1];exact Bu
theorem K2{a b:R3}(ha:Ok a)(hb:Ok b){m M:Int}(hm:m∈[a.1,a.2.1,a.1+a.2.2,b.1,b.2.1,b.1+b.2.2])(hm':∀x∈[a.1,a.2.1,a.1+a.2.2,b.1,b.2.1,b.1+b.2.2],m<=x)
  (hM:M∈[a.1,a.2.1,a.1+a.2.2,b.1,b.2.1,b.1+b.2.2]) (hM':∀x∈[a.1,a.2.1,a.1+a.2.2,b.1,b.2.1,b.1+b.2.2],x<=M):
  (m,M,stepOf m [a.1,a.2.1,a.1+a.2.2,b.1,b.2.1,b.1+b.2.2])=joinR a b:=by
 have ta:=Cb ha;have tb:=Cb hb;have na:=ha.nn;have nb:=hb.nn;have e1:m=if b.1<a.1 then b.1 else a.1:=by
  have y1:=hm' a.1 (by simp);have y2:=hm' b.1 (by simp);simp only[qe_,b_,or_false]at hm;split<;>omega
 have e2:M=if b.2.1 > a.2.1 then b.2.1 else a.2.1:=by
  have y1:=hM' a.2.1 (by simp);have y2:=hM' b.2.1 (by simp);simp only[qe_,b_,or_false]at hM;split<;>omega
 have e3:=M6 ha hb;rw[<-e1]at e3;unfold joinR;rw[e3,<-e1,<-e2]
end GcdM
namespace L2
open PySem PySem.Spec PyProof.Rows WordM
theorem stW_iff{x y:Str}:kg x y=true↔∃r,cs x=cs y++r:=by
 unfold kg;rw[StrLaws.subAt_eq,fb,decide_eq_true_iff,oo,beq_iff_eq,WordM.len,WordM.len];constructor
 ·rintro⟨h1,h2⟩;have h2:(cs x).take (cs y).length=cs y:=h2;exact⟨(cs x).drop (cs y).length,(p6 (cs y).length (cs x)).symm.trans (by rw[h2])⟩
 ·rintro⟨r,e⟩;show _/\(cs x).take _=_;rw[e];exact⟨by rw[bw];omega,by rw[List.take_left'];rfl⟩
theorem dW{x y:Str}{r:List Nat}(e:cs x=cs y++r):cs (bA x y)=r:=by
 have hl:x.length=(cs y).length+r.length:=by rw[WordM.len,e,bw]
 unfold bA;rw[PyProof.Rows.slice_from_eq (b:=(x.length:Int)) (by omega) (by rw[hl,WordM.len];omega) rfl];show((cs x).drop _).take _=r;rw[hl,WordM.len y,e,show(((cs y).length:Nat):Int).toNat=(cs y).length by omega,List.drop_left,nq];omega
theorem Cm{x:Str}(h:0<x.length):cs (Txt.slice x none (some (-1)))=(cs x).take (x.length-1):=by
 have e:=beq_iff_eq.mp (PyProof.Rows.slice_closes_to_neg (x:=x) (j:=-1) (k:=-1+x.length) (by decide) (by omega) rfl);rw[e];show((cs x).drop 0).take _=_;rw[oo];congr 1;omega
theorem M3{x:Str}(h:0<x.length):(Txt.slice x none (some (-1))).length=x.length-1:=by
 rw[WordM.len,Cm h,fu,<-WordM.len];omega
theorem FP{a b:Str}(h:cs a<cs b):a≠b:=λe=>by rw[e]at h;exact rq _ h
theorem pD:∀{ys xs:List Str},eV xs->eV ys->(∀x∈xs,x∈ys)->xs.Sublist ys
 |[],xs,_,_,h=>by
  cases xs with
  |nil=>exact .slnil
  |cons x xs=>exact absurd (h x (.head _)) (by simp)
 |y::ys,[],_,_,_=>rp _
 |y::ys,x::xs,hx,hy,h=>by
  have hx':=qF2_.mp hx;have hy':=qF2_.mp hy;by_cases e:x=y
  ·subst e;refine List.Sublist.cons_cons x (pD hx'.2 hy'.2 λz hz=>?_);rcases qe_.mp (h z (.tail _ hz)) with q|q
   ·exact absurd q.symm (FP (hx'.1 z hz))
   ·exact q
  ·have hxy:x∈ys:=(qe_.mp (h x (.head _))).resolve_left e;have yx:cs y<cs x:=hy'.1 x hxy;refine List.Sublist.cons y (pD hx hy'.2 λz hz=>?_);rcases qe_.mp (h z hz) with q|q
   ·subst q;rcases qe_.mp hz with q|q
    ·exact absurd q.symm e
    ·exact absurd (List.lt_trans yx (hx'.1 z q)) (rq _)
   ·exact q
theorem xI:eV MK:=by unfold eV;decide +kernel
theorem sort_set_mem{ss:List Str}{x:Str}:x∈aZ (aH ss)↔x∈ss:=(dM _).mem_iff.trans (cZ ss x)
theorem hX(ss:List Str):eV (aZ (aH ss)):=vJ (dX ss)
end L2
namespace L2
open PySem PySem.Spec PyProof.Rows PySem.SeqAt
section
variable{X:Cx}{F:Fm}
def xr(P:Program)(w:World)(K:W.Frag):List V->Hp->VK->Prop:=λxs H Q=>∃(p:Addr) (ss:List Str),xs=[.ref p]/\cv K H p (ss.map V.str)/\ss.length<4000/\∀a:Addr,H a=none->Q (.ref a) (au H a (dJ P w a (aH ss)))
def EH(K:W.Frag)(n:Nat)(t:ou):TG:=λv σ H Q=>∃a xs,v=.ref a/\bx K H a xs/\xs.length=n/\t xs σ H Q
theorem Ik{es:List Expr}{k:Nat}{pos:Pos}{t:ou}{n:Nat}(hc:X.calm=true)(h:oy X es t)
  (hn:(assignEach es X.env).length=n:=by rfl) (hst:(assignEach es X.env).findIdx? (·.1)=none:=by rfl):PG X (.Tuple es k pos) (EH X.K n t):=by
 intro OS s σ H v u Q I r hw;obtain⟨a,xs,e1,hq,hl,hw⟩:=hw;subst e1;cases r;obtain⟨its,rv,⟨o,m,e,c,d,dd⟩,hz⟩:=I.list hq;have ht:s.heap.IsList a its.toArray:=⟨o,e,c,m,dd⟩
 have hs:(assignEach es X.env).length=its.toArray.size:=by simp[hn,<-hl,rv.length]
 rw[assign_Tuple];refine af (wpAny_standAt ?_);unfold unpack;rw[hs,hst];refine af (ic (PySem.W.kun_itemsOf (I.ok.hd hc) ht λh' hx=>?_));have I1:ag X OS σ H {s with heap:=h'}:=I.kept (t':=s.toks) λb o e=>hx b o (cz (bo e)) e
 exact h OS _ σ H xs _ Q I1 (by simpa using rv) hw
def gL(n:Nat)(g:o8):UG:=λT ρ Q=>∃Ts,T=.seq false Ts/\Ts.length=n/\g Ts ρ Q
theorem Hj{m:Nat}{es:List Expr}{k:Nat}{pos:Pos}{g:o8}(n:Nat)(hc:X.calm=true)(h:qM X F m es g)(hn:(assignEach es X.env).length=n:=by rfl)(hst:(assignEach es X.env).findIdx? (·.1)=none:=by rfl):qp X F m (.Tuple es k pos) (gL n g):=⟨PG.imp (Ik hc h.pg hn hst) λv σ H QQ ⟨T,ρ,Q,vv,fr,⟨Ts,e,el,h⟩,k⟩=>by
 subst e;obtain⟨a,xs,rfl,hq,z,p⟩:=vv.seqI
 exact⟨a,xs,rfl,cH hq,(Paired.length p).trans el,Ts,ρ,Q,p,fr,h,k⟩⟩
end
end L2
namespace L2
open PySem PySem.Spec PyProof.Rows WordM
section
variable{X:Cx}{F:Fm}{pos p:Pos}{e a b elt iter:Expr}{es ifs:List Expr}{x:Str}{u ua ub ue:UT}{ut:d5}{ui:f9}{tf:d9}{sc scope:Scope}{XN N:List Str}{fr:List Nat}
theorem aL{k m:Nat}{ps:List Str}{psp:bz}(G:ae X.prog X.w X.K X.mg X.base k x ps psp)(hr:bt m X.A)(ha:UA X F (e::es) ut)(hm:k<=m:=by omega)(hg:Gl X x:=by exact rfl)(hdb:(x==("__debug__":Str))=false:=by decide)
  (hst:dQ e=false:=by rfl) (hpl:(backTo pos (starEach es X.env)).any (·.1)=false:=by rfl):UE X F (.Call (.Name x p) (e::es) [] pos) (gF psp ut):=G9 G (hr.mono hm) hg ha hdb hst hpl
theorem aW(i:Nat){pos':Pos}(hN:X.N.Nodup)(he:UE X F e u)(hi:X.N[i]?=some x:=by rfl)(hx:lr X.env.scope x:=by first|exact Or.inl rfl|exact Or.inr rfl)(hs:swapsWith e (some (.Name x pos')) pos.line X.env=pure false:=by rfl)(hf:X.fn x=true\/X.env.scope.names.lookup x=some .local:=by first|exact .inl rfl|exact .inr rfl|assumption):
  US X F (.Assign [.Name x pos'] e pos) (oE i u):=Hr hN hi hx he hs hf
theorem kQ(i:Nat){ul:f9}{pos':Pos}(hN:X.N.Nodup)(he:UL X F e ul)(hi:X.N[i]?=some x:=by rfl)(hx:lr X.env.scope x:=by first|exact Or.inl rfl|exact Or.inr rfl)(hs:swapsWith e (some (.Name x pos')) pos.line X.env=pure false:=by rfl)(hf:X.fn x=true\/X.env.scope.names.lookup x=some .local:=by first|exact .inl rfl|exact .inr rfl|assumption):
  US X F (.Assign [.Name x pos'] e pos) (uE i ul):=Ho hN hi hx he hs hf
theorem eP{op:CmpOp}{r:P2}(ho:cw X (compareOp op) r)(ha:UE X F a ua)(hb:UE X F b ub)(hm:behindInMarks op b=false:=by exact nP _):UB X F (.Compare a [op] [b] pos) (uB (jx r ua ub)):=xX ho ha hb hm
theorem gD{op:CmpOp}{r:P2}(ho:hE X (compareOp op) r)(ha:UE X F a ua)(hb:UE X F b ub)(hm:behindInMarks op b=false:=by exact nP _):UE X F (.Compare a [op] [b] pos) (jx r ua ub):=Hi ho ha hb hm
structure Cq (X:Cx) (sc scope:Scope) (XN N:List Str) (fr:List Nat) (x:Str) (iter:Expr):Prop where
 hc:X.calm=true:=by rfl
 k1:scope.kind=.function:=by rfl
 k2:∀y∈scope.names,y.2≠.cell:=by decide +kernel
 k3:∀y∈scope.names,y.2=.free->sc.names.lookup y.1=some .cell\/sc.names.lookup y.1=some .free:=by decide +kernel
 k4:∀y∈scope.names,y.2=.local->scope.names.lookup y.1=some .local:=by decide +kernel
 k5:N.drop 1=fr.filterMap λi=>XN[i]?:=by rfl
 k6:∀i∈fr,i<XN.length:=by decide +kernel
 k7:1<=N.length:=by decide
 k8:∀x∈N.drop 1,scope.names.lookup x=some .free:=by decide +kernel
 nd:fr.Nodup:=by decide
 nN:N.Nodup:=by decide +kernel
 h0:N[0]?=some x:=by rfl
 hl:∀cl C fp s H,lr (cG X N scope cl C fp s H).env.scope x:=by intros;first|exact Or.inl rfl|exact Or.inr rfl
 hfn:∀cl C fp s H,(cG X N scope cl C fp s H).fn x=true\/(cG X N scope cl C fp s H).env.scope.names.lookup x=some .local:=by intros;first|exact .inl rfl|exact .inr rfl
 hs:∀x,foldedSetIterable iter X.env x=pure x:=by intro _;rfl
 hsc:X.env.scope=sc:=by rfl
 hxn:X.N=XN:=by rfl
section
variable{z:Str}{pos' spos:Pos}(i:Nat)(hN:X.N.Nodup)(hi:UI X F (.Name x p) iter ui)(hf:∀cl C fp s H,UF (cG X N scope cl C fp s H) F ifs tf)(he:∀cl C fp s H,UE (cG X N scope cl C fp s H) F elt ue)
include hi hf he
theorem tI(c:Cq X sc scope XN N fr x iter:=by exact {}):UL X F (.ListComp elt [⟨.Name x p,iter,ifs,0⟩] scope pos) (lO 1 fr ui (gN 0) tf ue):=
 wX c.hc ⟨c.k1,c.k2,c.k3,c.k4,c.k5,c.k6,c.k7,c.k8⟩ c.nd hi (λcl C fp s H=>dD 0 (by decide) c.nN c.h0 (c.hl cl C fp s H) (c.hfn cl C fp s H)) hf he c.hs c.hsc c.hxn
include hN
theorem jF(c:Cq X sc scope XN N fr x iter:=by exact {})(hz:X.N[i]?=some z:=by rfl)(hzl:lr X.env.scope z:=by first|exact Or.inl rfl|exact Or.inr rfl)
  (hsw:swapsWith (.ListComp elt [⟨.Name x p,iter,ifs,0⟩] scope pos) (some (.Name z pos')) spos.line X.env=pure true:=by rfl)
  (hf':X.fn z=true\/X.env.scope.names.lookup z=some .local:=by first|exact .inl rfl|exact .inr rfl|assumption):US X F (.Assign [.Name z pos'] (.ListComp elt [⟨.Name x p,iter,ifs,0⟩] scope pos) spos) (oE i (uL (lO 1 fr ui (gN 0) tf ue))):=
 J9 c.hc hN hz hzl ⟨c.k1,c.k2,c.k3,c.k4,c.k5,c.k6,c.k7,c.k8⟩ c.nd hi (λcl C fp s H=>dD 0 (by decide) c.nN c.h0 (c.hl cl C fp s H) (c.hfn cl C fp s H)) hf he hsw hf' c.hs c.hsc c.hxn
end
theorem fM(hi:UI X F (.Name x p) iter ui)(he:∀cl C fp s H,UE (cG X N scope cl C fp s H) F elt ue)(c:Cq X sc scope XN N fr x iter:=by exact {}):UL X F (.ListComp elt [⟨.Name x p,iter,[],0⟩] scope pos) (lO 1 fr ui (gN 0) yz ue):=tI hi (λ_ _ _ _ _=>jO) he c
theorem aJ{m:Nat}(hr:bt m X.A)(ha:UE X F a ua)(hb:UE X F b ub)(hs:sS b:=by intro _ _;rfl):UE X F (.Subscript a b pos) (jx t5 ua ub):=Gv (E6 hr.units) ha hb hs
theorem bU{m:Nat}(hr:bt m X.A)(ha:UE X F a ua)(hb:UE X F b ub):UB X F (.Compare a [.Eq] [b] pos) (uB (jx vo ua ub)):=xX (jT hr.units) ha hb (nP _)
theorem nZ{m:Nat}(hr:bt m X.A)(ha:UE X F a ua)(hb:UE X F b ub):UB X F (.Compare a [.NotEq] [b] pos) (uB (jx Dv ua ub)):=xX (E7 hr.units) ha hb (nP _)
end
end L2
namespace L2
open PySem
namespace Lay
def wb(mask:Nat)(i:Nat):Nat:=(i*5+1) % (mask+1)
def vq(mask:Nat):Nat->Nat->Nat
 |0,i=>i
 |k+1,i=>vq mask k (wb mask i)
def x5(mask:Nat):Bool:=(List.range (mask+1)).all λi=>(List.range (mask+1)).all λj=>(List.range (mask+1)).any λk=>vq mask k i==j
def Cyc(mask:Nat):Prop:=∀i j,i<=mask->j<=mask->∃k,k<=mask/\vq mask k i=j
theorem tG{mask:Nat}(h:x5 mask=true):Cyc mask:=λi j hi hj=>by
 unfold x5 at h;have:=qB1_.mp (qB1_.mp h i (qy1_.mpr (by omega))) j (qy1_.mpr (by omega));obtain⟨k,hk,e⟩:=qX_.mp this;exact⟨k,by have:=qy1_.mp hk;omega,by simpa using e⟩
theorem cyc7:Cyc 7:=tG (by decide +kernel)
theorem FA:Cyc 15:=tG (by decide +kernel)
theorem FB:Cyc 31:=tG (by decide +kernel)
theorem FC:Cyc 63:=tG (by decide +kernel)
def lp(mask:Nat):Nat->Nat×Nat->Nat×Nat
 |0,x=>x
 |k+1,x=>lp mask k (SetTable.leap mask x.1 x.2)
theorem yh(mask:Nat):∀(a b:Nat) (x:Nat×Nat),lp mask (a+b) x=lp mask b (lp mask a x)
 |0,b,x=>by rw[Nat.zero_add];rfl
 |a+1,b,x=>by rw[Nat.succ_add];exact yh mask a b _
theorem Ai(mask:Nat):∀(k:Nat) (x:Nat×Nat),(lp mask k x).2=x.2 / 32 ^ k
 |0,x=>by simp[lp]
 |k+1,x=>by
  show(lp mask k _).2=_;rw[Ai mask k];show x.2 / 32 / 32 ^ k=_;rw[Nat.div_div_eq_div_mul,Nat.pow_succ,qd]
theorem zj(mask:Nat):∀(k:Nat) (x:Nat×Nat),x.1<=mask->(lp mask k x).1<=mask
 |0,x,h=>h
 |k+1,x,h=>zj mask k _ (Nat.le_of_lt_succ (qf _ (Nat.succ_pos mask)))
theorem Aj(mask:Nat):∀(k i:Nat),lp mask k (i,0)=(vq mask k i,0)
 |0,i=>rfl
 |k+1,i=>by
  show lp mask k (SetTable.leap mask i 0)=_;have:SetTable.leap mask i 0=(wb mask i,0):=by
   unfold SetTable.leap wb;simp
  rw[this,Aj mask k];rfl
theorem JD(h:Int):SetTable.bits h<2 ^ 64:=by
 unfold SetTable.bits;have:=ji h (show(0:Int)<2 ^ 64 by decide);have:=jh h (show(2 ^ 64:Int)≠0 by decide);omega
theorem tm{mask:Nat}(C:Cyc mask){i p j:Nat}(hi:i<=mask)(hp:p<2 ^ 64)(hj:j<=mask):∃n,n<SetTable.turns mask/\(lp mask n (i,p)).1=j:=by
 have e13:lp mask 13 (i,p)=((lp mask 13 (i,p)).1,0):=by
  have:(lp mask 13 (i,p)).2=0:=by
   rw[Ai];exact Nat.div_eq_of_lt (kj hp (by decide))
  rw[<-this]
 obtain⟨k,hk,e⟩:=C (lp mask 13 (i,p)).1 j (zj mask 13 _ hi) hj;refine⟨13+k,by unfold SetTable.turns;omega,?_⟩;rw[yh,e13,Aj];exact e
theorem Dh{mask:Nat}(owner:Array (Option Nat)):∀(fuel i p:Nat),(∃n,n<fuel/\owner.getD (lp mask n (i,p)).1 (some 0)=none)->∃j,SetTable.layClean.free mask owner fuel i p=some j/\owner.getD j (some 0)=none
 |0,i,p,⟨n,h,_⟩=>absurd h (qg _)
 |fuel+1,i,p,⟨n,hn,h⟩=>by
  unfold SetTable.layClean.free;cases e:(List.range (SetTable.runEnd mask i+1-i)).find? λk=>(owner.getD (i+k) (some 0)).isNone with
  |some k=>
   have:=List.find?_some e;exact⟨i+k,rfl,by simpa using this⟩
  |none=>
   dsimp only;cases n with
   |zero=>
    have:=qG2_.mp e 0 (qy1_.mpr (by unfold SetTable.runEnd;split<;>omega));have h:owner.getD i (some 0)=none:=h;rw[Nat.add_zero,h]at this;exact absurd rfl this
   |succ n=>exact Dh owner fuel _ _ ⟨n,by omega,h⟩
theorem Bq:∀(l:List (Option Nat)) (j k:Nat),l[j]?=some none->((l.set j (some k)).filterMap id).Perm (k::l.filterMap id)
 |[],j,k,h=>by simp at h
 |x::l,0,k,h=>by
  have:x=none:=by simpa using h
  subst this;simp
 |x::l,j+1,k,h=>by
  have ih:=Bq l j k (by simpa using h);rw[List.set_cons_succ];cases x with
  |none=>simpa using ih
  |some y=>
   simp only[List.filterMap_cons_some (f:=id) (a:=some y) rfl];exact(ih.cons y).trans (.swap _ _ _)
theorem Ak:∀(l:List (Option Nat)),(l.filterMap id).length<l.length->∃j:Nat,l[j]?=some none
 |[],h=>by simp at h
 |none::l,h=>⟨0,rfl⟩
 |some y::l,h=>by
  obtain⟨j,hj⟩:=Ak l (by simpa using h);exact⟨j+1,by simpa using hj⟩
structure Own (mask k:Nat) (owner:Array (Option Nat)):Prop where
 sz:owner.size=mask+1
 pm:(owner.toList.filterMap id).Perm (List.range k)
theorem JZ{mask:Nat}(C:Cyc mask){k:Nat}{owner:Array (Option Nat)}(O:Own mask k owner)(hk:k<=mask)(h:Int):∃j,SetTable.layClean.free mask owner (SetTable.turns mask) (SetTable.bits h % (mask+1)) (SetTable.bits h)=some j/\Own mask (k+1) (owner.setIfInBounds j (some k)):=by
 have len:owner.toList.length=mask+1:=by rw[e7,O.sz]
 obtain⟨j,hj⟩:=Ak owner.toList (by rw[O.pm.length_eq,mi,len];omega);have gd:∀i,owner.getD i (some 0)=none↔owner.toList[i]?=some none:=λi=>by
  rw[uv,h9];cases owner[i]? with
  |none=>simp
  |some x=>simp
 have hjl:j<=mask:=by
  have:=(qB_.mp hj).1;omega
 obtain⟨n,hn,en⟩:=tm C (i:=SetTable.bits h % (mask+1)) (p:=SetTable.bits h) (Nat.le_of_lt_succ (qf _ (Nat.succ_pos mask))) (JD h) hjl;obtain⟨j',ej,hj'⟩:=Dh owner (SetTable.turns mask) _ _ ⟨n,hn,by rw[en];exact(gd j).mpr hj⟩;refine⟨j',ej,by rw[Array.size_setIfInBounds,O.sz],?_⟩;rw[Array.toList_setIfInBounds];refine(Bq _ _ _ ((gd j').mp hj')).trans ((O.pm.cons k).trans ?_);rw[List.range_succ];exact(List.perm_append_singleton k (List.range k)).symm
theorem BW{mask:Nat}(C:Cyc mask):∀(hs:List Int) (k:Nat) (owner:Array (Option Nat)),Own mask k owner->k+hs.length<=mask+1->∃o',hs.foldl (init:=some (owner,k)) (λacc h=>do
  let (owner,k) <- acc
  let j <- SetTable.layClean.free mask owner (SetTable.turns mask) (SetTable.bits h % (mask+1)) (SetTable.bits h)
  pure (owner.setIfInBounds j (some k),k+1))=some (o',k+hs.length)/\Own mask (k+hs.length) o'
 |[],k,owner,O,_=>⟨owner,rfl,O⟩
 |h::hs,k,owner,O,hl=>by
  rw[gc]at hl;obtain⟨j,ej,O'⟩:=JZ C O (by omega) h;obtain⟨o',e,O2⟩:=BW C hs (k+1) _ O' (by omega);refine⟨o',?_,by rw[gc,show k+(hs.length+1)=k+1+hs.length by omega];exact O2⟩;rw[j8,gc,show k+(hs.length+1)=k+1+hs.length by omega,<-e];congr 1;simp[ej]
theorem K6{mask:Nat}(C:Cyc mask)(hs:Array Int)(hl:hs.size<=mask):∃o,SetTable.layClean mask hs=some o/\Own mask hs.size o:=by
 have O:Own mask 0 (Array.replicate (mask+1) none):=⟨by simp,by
  have:∀n:Nat,(List.replicate n (none:Option Nat)).filterMap id=[]:=λn=>by
   induction n with
   |zero=>rfl
   |succ n ih=>rw[i4,gm];exact ih
  rw[Array.toList_replicate,this]
  exact .refl _⟩
 obtain⟨o,e,O'⟩:=BW C hs.toList 0 _ O (by rw[e7];omega);rw[Nat.zero_add,e7]at e O';refine⟨o,?_,O'⟩;unfold SetTable.layClean;rw[<-Array.foldl_toList,e];rfl
theorem JQ(mask:Nat)(o:Array (Option Nat))(hz:o.size=mask+1):((List.range (mask+1)).filterMap λj=>(o.getD j none).map (j,·)).map (·.2)=o.toList.filterMap id:=by
 rw[List.map_filterMap];have e:o.toList=(List.range (mask+1)).map λj=>o.getD j none:=by
  apply List.ext_getElem?;intro i;rw[gf];by_cases hi:i<mask+1
  ·rw[List.getElem?_range hi,h9,jb (by omega),Option.map_some];rw[uv,jb (by omega)];rfl
  ·rw[nj (by rw[e7];omega),nj (by rw[mi];omega)];rfl
 rw[e,nz];congr 1;funext j;simp only[Function.comp,id,Option.map_map];cases o.getD j none<;>rfl
theorem laid_ok{mask:Nat}(C:Cyc mask)(f mv:Nat)(ld pl:Bool)(hs:Array Int)(hl:hs.size<=mask):∃t order,SetTable.laid mask f mv ld pl hs=some (t,order)/\order.toList.Perm (List.range hs.size)/\t.fits hs.size=true/\t.mask=mask/\t.dummies=#[]/\t.led=ld/\t.plain=pl:=by
 obtain⟨o,e,O⟩:=K6 C hs hl;unfold SetTable.laid;rw[e];have p:(((List.range (mask+1)).filterMap λj=>(o.getD j none).map (j,·)).map (·.2)).Perm (List.range hs.size):=by rw[JQ mask o O.sz];exact O.pm
 have ln:((List.range (mask+1)).filterMap λj=>(o.getD j none).map (j,·)).length=hs.size:=by
  have:=p.length_eq;rwa[ak,mi]at this
 refine⟨_,_,rfl,by rw[p7];exact p,?_,rfl,rfl,rfl,rfl⟩;unfold SetTable.fits SetTable.fill;simp only[cg,ak,ln];simp[hl]
theorem order_perm{α:Type}(es:Array α){order:Array Nat}(h:order.toList.Perm (List.range es.size)):(order.filterMap (es[·]?)).toList.Perm es.toList:=by
 rw[Array.toList_filterMap];refine(h.filterMap _).trans ?_;have:(List.range es.size).filterMap (es[·]?)=es.toList:=by
  have e:es.toList=(List.range es.size).filterMap λi=>es.toList[i]?:=by
   have:∀l:List α,(List.range l.length).filterMap (λi=>l[i]?)=l:=by
    intro l
    induction l with
    |nil=>rfl
    |cons x l ih=>
     rw[gc,nk,gm,nz];simp only[List.getElem?_cons_zero];congr 1
   have:=this es.toList;rw[e7]at this;exact this.symm
  rw[e];congr 1;funext i;rw[h9]
 rw[this]
theorem above(n:Nat)(h:n<64):Cyc (SetTable.sizeAbove n-1)/\n<SetTable.sizeAbove n/\SetTable.sizeAbove n<=64:=by
 have:∀n<64,(SetTable.sizeAbove n=8\/SetTable.sizeAbove n=16\/SetTable.sizeAbove n=32\/SetTable.sizeAbove n=64)/\n<SetTable.sizeAbove n:=by decide +kernel
 obtain⟨h1,h2⟩:=this n h;refine⟨?_,h2,by omega⟩;rcases h1 with e|e|e|e<;>rw[e]
 ·exact cyc7
 ·exact FA
 ·exact FB
 ·exact FC
end Lay
end L2
namespace L2
open PySem PySem.Spec PyProof.Rows
section
variable{prog:Program}{w:World}{A:Around}{E:Value->Shared->Prop}{s:Shared}{a:Addr}{us:List Str}
def tN(es:Array (Int×Value))(laid:Option (SetTable×Array Nat)):Sem (Array (Int×Value)×SetTable):=do
 let some (t,order):=laid|unsupported "internal:set-table-without-room"
 let es':=order.filterMap (es[·]?)
 if es'.size != es.size then unsupported "internal:set-table-lost-an-element"
 pure (es',t)
theorem Bz{es:Array (Int×Value)}{t':SetTable}{order:Array Nat}{Q:Array (Int×Value)×SetTable->Shared->Prop}(pm:order.toList.Perm (List.range es.size))
  (h:∀es':Array (Int×Value),es'.toList.Perm es.toList->Q (es',t') s):wpAny (model prog w) A (tN es (some (t',order))) Q E s:=by
 have p:=Lay.order_perm es pm;have sz:(order.filterMap (es[·]?)).size=es.size:=by have:=p.length_eq;rwa[e7,e7]at this
 unfold tN;dsimp only;rw[if_neg (by rw[sz];simp)];exact af (aj (aj (h _ p)))
theorem dg.perm{es es':Array (Int×Value)}{t t':SetTable}(T:dg prog w us es t)(p:es'.toList.Perm es.toList)(ft:t'.fits es'.size=true)(pl:t'.plain=t.plain)(ld:t'.led=t.led):dg prog w us es' t':=by
 obtain⟨vs,hv,pv⟩:=T.tx;obtain⟨vs',hv',pv'⟩:=rE (p.map (·.2)) hv;have sz:es'.size=es.size:=by have:=p.length_eq;simpa using this
 exact⟨T.el.perm p,⟨vs',hv',pv'.trans pv⟩,T.nd,by rw[sz];exact T.lt,ft,by rw[sz,pl];exact T.pl,by rw[ld];exact T.ld⟩
def jq(prog:Program)(w:World)(a:Addr)(us:List Str)(h:Heap):Prop:=∃es ep t,h.get? a=some (cB es ep t)/\dg prog w us es t/\(us=[]->t.mask=7)
theorem jq.sets{h:Heap}:jq prog w a us h->bf prog w a us h:=λ⟨es,ep,t,ho,T,_⟩=>⟨es,ep,t,ho,T⟩
theorem BJ{k:Nat}{Q:Unit->Shared->Prop}(S:jq prog w a us s.heap)(hk:us.length+k<32)
  (h:∀h' es ep t,Heap.SameBut a s.heap h'->h'.get? a=some (cB es ep t)->dg prog w us es t->(us=[]->Lay.Cyc t.mask/\k<=t.mask)->Q () {s with heap:=h'}):wpAny (model prog w) A (setRoomFor a k) Q E s:=by
 obtain⟨es,ep,t,ho,T,hm⟩:=S;unfold setRoomFor;refine af (g_ ho rfl T.fit ?_);dsimp only;have fz:t.place.size=us.length:=by
  have:=T.fit;simp only[SetTable.fits,fb,beq_iff_eq]at this;rw[this.1,T.size]
 cases e:t.roomFor k with
 |none=>
  dsimp only;have es':s={s with heap:=s.heap}:=by cases s;rfl
  rw[es'];refine aj (h _ es ep t (Heap.SameBut.refl a s.heap) ho T λz=>?_);have hm:=hm z;unfold SetTable.roomFor at e;split at e
  ·cases e
  ·rename_i z2;rw[hm];refine⟨Lay.cyc7,?_⟩;unfold SetTable.fill at z2;rw[hm]at z2;omega
 |some wanted=>
  dsimp only;have ew:wanted=(us.length+k)*2:=by
   unfold SetTable.roomFor at e;split at e
   ·injection e with e;rw[<-e,fz]
   ·cases e
  obtain⟨C,lt,le⟩:=Lay.above wanted (by omega);have hz:(es.map (·.1)).size=us.length:=by rw[ph,T.size]
  obtain⟨t',order,e,pm,ft,mk,_,ld,pl⟩:=Lay.laid_ok C t.finger (t.movedTo (SetTable.sizeAbove wanted-1)) t.led t.plain (es.map (·.1)) (by omega);rw[ph]at pm ft;unfold setRelay;refine af (g_ ho rfl T.fit ?_);dsimp only;rw[if_neg (by rw[sizeLine_eq];omega)];unfold SetTable.relaid;rw[e];refine af (m:=tN es (some (t',order))) (Bz pm λes' p=>?_);have sz:es'.size=es.size:=by have:=p.length_eq;simpa using this
  have T':dg prog w us es' t':=T.perm p (by rw[sz];exact ft) pl ld;refine wpAny_storeSet_of ho rfl (h _ es' (ep+1) t' (Heap.SameBut.update s.heap a _) (fo (Obj.putSet es' t') ho rfl) T' λz=>?_) (fits_of_scanBound T'.lt);rw[mk];exact⟨C,by omega⟩
theorem Kk{es:Array (Int×Value)}{ep:Nat}{t:SetTable}{Q:Array (Int×Value)->Shared->Prop}(ho:s.heap.get? a=some (cB es ep t))(T:dg prog w us es t)
  (h:∀(out:Array (Int×Value)) d,out.toList.Perm es.toList->Q out {s with drawn:=d}):wpAny (model prog w) A (setWalk a) Q E s:=by
 have es':s={s with drawn:=s.drawn}:=by cases s;rfl
 unfold setWalk;refine af (g_ ho rfl T.fit ?_);dsimp only;refine af (gO ?_);cases hb:cf w with
 |true=>
  rw[if_pos rfl];refine af (wpAny_askSetting (aj ?_));rw[es'];exact h _ _ (oZ _ _)
 |false=>
  rw[if_neg cq];split
  ·refine af (uX _ _ _ (by simp) λys d p=>aj ?_);exact h _ d (by rw[p7];exact p)
  ·have hl:t.led=true:=by rw[T.ld,hb];rfl
   have:(!t.led&&decide (es.size > 1))=false:=by rw[hl];rfl
   refine af (m:=(if (!t.led&&decide (es.size > 1))=true then unsupported "set:maker-not-led" else pure PUnit.unit)) ?_;rw[this,if_neg cq];refine aj (aj ?_);rw[es'];exact h _ _ (.refl _)
theorem Lu{o:Addr}{vs:List Str}{Q:Bool->Shared->Prop}(S:bf prog w a us s.heap)(O:bf prog w o vs s.heap)(h:Q true s):wpAny (model prog w) A (setsQuiet [o,a]) Q E s:=by
 unfold setsQuiet;refine af (wpAny_forIn_list _ (λl b s'=>b.1=none/\s'=s/\∀x∈l,x=o\/x=a) _ ?_ ?_ _ _ ⟨rfl,rfl,λx hx=>by simpa using hx⟩)
 ·rintro x rest b s' ⟨hb,rfl,hx⟩;obtain⟨us',es,ep,t,ho,T⟩:∃us',bf prog w x us' s'.heap:=by
   rcases hx x (.head _) with rfl|rfl
   ·exact⟨_,O⟩
   ·exact⟨_,S⟩
  refine af (oS ho T.fit ?_);refine af (PySem.MeetsSeq2.wpAny_forIn_array _ (λl b s''=>b.1=none/\s''=s'/\∀e∈l,e∈es.toList) _ ?_ ?_ _ _ ⟨rfl,rfl,λe he=>he⟩)
  ·rintro⟨hh,v⟩ rest' b' s'' ⟨hb',rfl,he⟩;obtain⟨⟨k,hk,_⟩,_⟩:=T.el (hh,v) (he _ (.head _));obtain⟨tk,ev⟩:=Value.isStrOf_shape (show Value.isStrOf k v=true from hk);subst ev;exact aj ⟨rfl,rfl,λe h=>he e (.tail _ h)⟩
  ·rintro b' s'' ⟨hb',rfl,_⟩;dsimp only;rw[hb'];exact aj ⟨rfl,rfl,λx h=>hx x (.tail _ h)⟩
 ·rintro b s' ⟨hb,rfl,_⟩;dsimp only;rw[hb];exact aj h
theorem Lx{o:Addr}{vs:List Str}{es:Array (Int×Value)}{ep:Nat}{t:SetTable}{Q:Array (Int×Value)->Shared->Prop}(S:bf prog w a us s.heap)(ho:s.heap.get? o=some (cB es ep t))(T:dg prog w vs es t)
  (h:∀(out:Array (Int×Value)) h' d,out.toList.Perm es.toList->Heap.SameBut a s.heap h'->bf prog w a us h'->Q out {s with heap:=h',drawn:=d}):wpAny (model prog w) A (setWalkUnseen o [a] (some a)) Q E s:=by
 have wk:wpAny (model prog w) A (setWalk o) Q E s:=Kk ho T λout d p=>h out s.heap d p (Heap.SameBut.refl a s.heap) S
 unfold setWalkUnseen;refine af (g_ ho rfl T.fit ?_);dsimp only;refine af (gO ?_);split
 ·exact wk
 ·rename_i z;have hsz:1<es.size:=by
   apply rn;intro z2;apply z;rw[gp z2,Bool.or_true]
  have hp:t.plain=false:=T.pl.resolve_left (by omega);refine af (Lu S ⟨es,ep,t,ho,T⟩ ?_);rw[if_neg (by simp)];obtain⟨ef,epf,tf,hf,F⟩:=id S;refine af (wpAny_rule ?_);refine af (g_ hf rfl F.fit ?_);dsimp only;split
  ·have F':dg prog w us ef {tf with led:=tf.led&&t.led,plain:=tf.plain&&t.plain}:=⟨F.el,F.tx,F.nd,F.lt,F.fit,.inr (by show(tf.plain&&t.plain)=false;rw[hp,mf]),by show(tf.led&&t.led)=_;rw[F.ld,T.ld,Bool.and_self]⟩
   refine af (wpAny_storeSet_of hf rfl ?_ (fits_of_scanBound F.lt));have e:∀hp':Heap,({s with heap:=hp'}:Shared)={s with heap:=hp',drawn:=s.drawn}:=λ_=>rfl
   rw[e];exact aj (h _ _ _ (.refl _) (Heap.SameBut.update s.heap a _) ⟨ef,epf+1,_,fo (Obj.putSet ef _) hf rfl,F'⟩)
  ·have e:s={s with heap:=s.heap,drawn:=s.drawn}:=by cases s;rfl
   rw[e];exact aj (h _ _ _ (.refl _) (Heap.SameBut.refl a s.heap) S)
theorem bf.same{h:Heap}{us':List Str}(S:bf prog w a us h)(n:us'.Nodup)(e:∀x,x∈us↔x∈us'):bf prog w a us' h:=by
 obtain⟨es,ep,t,ho,T⟩:=S;obtain⟨vs,hv,pv⟩:=T.tx;exact⟨es,ep,t,ho,T.el,⟨vs,hv,pv.trans ((l_ T.nd n).mpr e)⟩,n,T.lt,T.fit,T.pl,T.ld⟩
theorem By{o:Addr}{vs:List Str}{each:Sem Unit}{Q:Unit->Shared->Prop}(ne:a≠o)(S:jq prog w a us s.heap)(O:bf prog w o vs s.heap)(hl:us.length+vs.length<32)
  (he:∀(s':Shared) (Q':Unit->Shared->Prop),s'.heap.get? o=s.heap.get? o->Q' () s'->wpAny (model prog w) A each Q' E s')
  (h:∀h' d,Heap.SameBut a s.heap h'->jq prog w a (aH (us++vs)) h'->Q () {s with heap:=h',drawn:=d}):wpAny (model prog w) A (setMerge a o each) Q E s:=by
 obtain⟨es,ep,t,ho,T⟩:=id O;have e0:∀s:Shared,s={s with heap:=s.heap,drawn:=s.drawn}:=λs=>by cases s;rfl
 unfold setMerge;rw[if_neg (by simpa using ne)];refine af (g_ ho rfl T.fit ?_);dsimp only;by_cases z0:es.size=0
 ·rw[if_pos (by simpa[ur]using z0)];have ev:vs=[]:=jk (by rw[<-T.size];exact z0);subst ev;rw[e0 s];refine aj (h _ _ (Heap.SameBut.refl a s.heap) ?_);obtain⟨es1,ep1,t1,h1,T1,m1⟩:=S;have en:∀x,x∈us↔x∈aH (us++[]):=λx=>by rw[cZ,gk]
  obtain⟨vs1,hv1,pv1⟩:=T1.tx;refine⟨es1,ep1,t1,h1,⟨T1.el,⟨vs1,hv1,pv1.trans ((l_ T1.nd (dX _)).mpr en)⟩,dX _,T1.lt,T1.fit,T1.pl,T1.ld⟩,λz=>m1 ?_⟩;refine qE1_.mpr λx hx=>?_
  have:=(en x).mp hx;rw[z]at this;exact nomatch this
 rw[if_neg (by simpa[ur]using z0)];have hp:t.plain=false:=T.pl.resolve_left z0;have hv0:vs≠[]:=λz=>z0 (by rw[T.size,z];rfl)
 have nn:aH (us++vs)≠[]:=λz=>by
  obtain⟨x,hx⟩:=iz _ hv0;have:=(cZ (us++vs) x).mpr (de _ hx);rw[z]at this;exact nomatch this
 have full:∀h',bf prog w a (aH (us++vs)) h'->jq prog w a (aH (us++vs)) h':=λh' ⟨es,ep,t,ho,T⟩=>⟨es,ep,t,ho,T,λz=>absurd z nn⟩
 refine af (BJ S (by rw[T.size];exact hl) λh1 es1 ep1 t1 b1 g1 T1 m1=>?_);have ho1:h1.get? o=some (cB es ep t):=by rw[b1.2 o (Ne.symm ne)];exact ho
 refine af (g_ (s:={s with heap:=h1}) g1 rfl T1.fit ?_);dsimp only;have fz:t1.place.size=us.length:=by
  have:=T1.fit;simp only[SetTable.fits,fb,beq_iff_eq]at this;rw[this.1,T1.size]
 have nil:t1.fill=0->us=[]:=λz=>jk (by unfold SetTable.fill at z;omega)
 cases er:t1.road t with
 |slotForSlot=>
  dsimp only;have f0:t1.fill=0:=by
   unfold SetTable.road at er;split at er
   ·cases er
   ·rename_i q;simpa using q
  have eu:=nil f0;subst eu;have T2:dg prog w (aH ([]++vs)) es {t with finger:=t1.finger,led:=t1.led&&t.led,moves:=t1.moves,plain:=t1.plain&&t.plain}:=by
   obtain⟨vs1,hv1,pv1⟩:=T.tx;exact⟨T.el,⟨vs1,hv1,pv1.trans ((l_ T.nd (dX _)).mpr λx=>by rw[cZ,gi])⟩,dX _,T.lt,T.fit,.inr (by show(t1.plain&&t.plain)=false;rw[hp,mf]),by show(t1.led&&t.led)=_;rw[T1.ld,T.ld,Bool.and_self]⟩
  refine wpAny_storeSet_of g1 rfl ?_ (fits_of_scanBound T.lt);exact h _ s.drawn (b1.trans (Heap.SameBut.update h1 a _)) (full _ ⟨es,ep1+1,_,fo (Obj.putSet es _) g1 rfl,T2⟩)
 |clean=>
  dsimp only;have f0:t1.fill=0:=by
   unfold SetTable.road at er;split at er
   ·cases er
   ·rename_i q;simpa using q
  have eu:=nil f0;subst eu;obtain⟨C,hk⟩:=m1 rfl;obtain⟨t',order,e,pm,ft,mk,_,ld,pl⟩:=Lay.laid_ok C t1.finger t1.moves (t1.led&&t.led) (t1.plain&&t.plain) (es.map (·.1)) (by rw[ph];exact hk);rw[ph]at pm ft;rw[e];refine af (m:=tN es (some (t',order))) (Bz pm λes' p=>?_);have sz:es'.size=es.size:=by have:=p.length_eq;simpa using this
  have T2:dg prog w (aH ([]++vs)) es' t':=by
   obtain⟨vs1,hv1,pv1⟩:=T.tx;obtain⟨vs',hv',pv'⟩:=rE (p.map (·.2)) hv1;exact⟨T.el.perm p,⟨vs',hv',(pv'.trans pv1).trans ((l_ T.nd (dX _)).mpr λx=>by rw[cZ,gi])⟩,dX _,by rw[sz];exact T.lt,by rw[sz];exact ft,.inr (by rw[pl,hp,mf]),by rw[ld,T1.ld,T.ld,Bool.and_self]⟩
  refine wpAny_storeSet_of g1 rfl ?_ (fits_of_scanBound T2.lt);exact h _ s.drawn (b1.trans (Heap.SameBut.update h1 a _)) (full _ ⟨es',ep1+1,_,fo (Obj.putSet es' _) g1 rfl,T2⟩)
 |oneByOne=>
  dsimp only;refine af (Lx (s:={s with heap:=h1}) ⟨es1,ep1,t1,g1,T1⟩ ho1 T λout h2 d p b2 S2=>?_);have ho2:h2.get? o=some (cB es ep t):=by rw[b2.2 o (Ne.symm ne)];exact ho1
  have b12:=b1.trans b2;refine af (PySem.MeetsSeq2.wpAny_forIn_array _ (λl _ s'=>∃(us':List Str) (h':Heap),s'={s with heap:=h',drawn:=d}/\Heap.SameBut a s.heap h'/\bf prog w a us' h'/\(∀e∈l,e∈es.toList)/\us'.length+l.length<32/\∀y,(y∈us'\/∃e∈l,(PySem.strKind prog w).is y e.2=true)↔(y∈us\/y∈vs)) _ ?_ ?_ _ _ ?_)
  ·rintro⟨hh,v⟩ rest b s' ⟨us',h',rfl,b',S',hm,hlen,hy⟩;obtain⟨⟨k,hk,eh⟩,_⟩:=T.el (hh,v) (hm _ (.head _));obtain⟨tk,ev⟩:=Value.isStrOf_shape (show Value.isStrOf k v=true from hk);subst ev;have eh:hh=(PySem.strKind prog w).hash k:=eh;subst eh;rw[gc]at hlen;have hb4:scanBound=4096:=rfl;refine af (ic (wW (s:={s with heap:=h',drawn:=d}) S' (by omega) λbb h3 b3 S3=>?_));have b13:=b'.trans b3;have ho3:h3.get? o=some (cB es ep t):=by rw[b13.2 o (Ne.symm ne)];exact ho
   refine af (he _ _ (by show h3.get? o=s.heap.get? o;rw[ho3,ho]) ?_);refine af (g_ (s:={s with heap:=h3,drawn:=d}) ho3 rfl T.fit ?_);rw[if_neg (by simp)];refine aj ⟨dL us' k,h3,rfl,b13,S3,λe q=>hm e (.tail _ q),?_,λy=>?_⟩
   ·have:(dL us' k).length<=us'.length+1:=by
     unfold dL;split
     ·omega
     ·rw[bw];exact bg _
    omega
   ·rw[BH,<-hy y]
    have isk:(PySem.strKind prog w).is y (.str k tk)=true↔y=k:=⟨λq=>by
     obtain⟨u,q⟩:=Value.isStrOf_shape (show Value.isStrOf y (.str k tk)=true from q);injection q with q1 q2
     exact q1.symm,λq=>by subst q;exact hk⟩
    constructor
    ·rintro ((q|q)|⟨e,q1,q2⟩)
     ·exact .inl q
     ·exact .inr ⟨_,.head _,isk.mpr q⟩
     ·exact .inr ⟨e,.tail _ q1,q2⟩
    ·rintro (q|⟨e,q1,q2⟩)
     ·exact .inl (.inl q)
     ·rcases qe_.mp q1 with rfl|q1
      ·exact .inl (.inr (isk.mp q2))
      ·exact .inr ⟨e,q1,q2⟩
  ·rintro b s' ⟨us',h',rfl,b',S',_,_,hy⟩;refine aj (h h' d b' (full _ (S'.same (dX _) λx=>?_)));rw[cZ,qj_,<-hy x];exact⟨.inl,λq=>q.elim id λ⟨_,q,_⟩=>nomatch q⟩
  ·refine⟨us,h2,rfl,b12,S2,λe q=>p.mem_iff.mp q,?_,λy=>?_⟩
   ·have h1:=p.length_eq;have h2:es.toList.length=vs.length:=by rw[e7,T.size]
    omega
   ·rw[T.mem y];exact⟨λq=>q.imp id λ⟨e,q1,q2⟩=>⟨e,p.mem_iff.mp q1,q2⟩,λq=>q.imp id λ⟨e,q1,q2⟩=>⟨e,p.mem_iff.mpr q1,q2⟩⟩
end
theorem y_:entryFor table "set.__or__"=some Builtin.«frozenset.__or__»:=entryFor_alias (id':="frozenset.__or__") (by kernel_rfl) rfl (by decide +kernel) (by kernel_rfl)
section
variable{prog:Program}{w:World}{A:Around}{E:Value->Shared->Prop}{s:Shared}{a:Addr}{us:List Str}
open PySem.Builtin.Frozenset in
def pO(id:String)(l:Addr)(r:Value):Sem Value:=do
 let result <- copyOf l
 if r != .ref l then holding [result] (updateFrom id (<- addrOf result) r)
 return result
open PySem.Builtin.Frozenset in
def N3(args:Args):Sem Fin:=do
 let (self,other) <- slot1 "__or__" args
 let (l,r):=if false then(other,self) else(self,other)
 if !(<- isAnySet l <&&> isAnySet r) then rule s!"frozenset.{"__or__"}.declined";return <- ret .notImplemented
 ret (<- pO s!"frozenset.{"__or__"}" (<- addrOf l) r)
theorem zk:Builtin.«frozenset.__or__»=N3:=rfl
theorem mH{Q:Bool->Shared->Prop}(ht:s.TypeIs (.ref a) "set")(h:Q true s):wpAny (model prog w) A (Builtin.Frozenset.isAnySet (.ref a)) Q E s:=by
 unfold Builtin.Frozenset.isAnySet;refine af (wpAny_isInstance (T:="set") (b:=true) ht pP ?_);exact aj h
theorem bf.ty{h:Heap}(S:bf prog w a us s.heap):s.TypeIs (.ref a) "set":=by
 obtain⟨es,ep,t,ho,T⟩:=S;exact⟨_,ho,rfl⟩
theorem Kh{Q:Value->Shared->Prop}(S:bf prog w a us s.heap)(hl:us.length<32)
  (h:∀h' d,jq prog w s.heap.objs.size (aH us) h'->s.heap.objs.size<h'.objs.size->(∀b o,b<s.heap.objs.size->s.heap.get? b=some o->h'.get? b=some o)->Q (.ref s.heap.objs.size) {s with heap:=h',drawn:=d}):
  wpAny (model prog w) A (Builtin.Frozenset.copyOf a) Q E s:=by
 have ht:s.TypeIs (.ref a) "set":=bf.ty (h:=s.heap) S;obtain⟨es,ep,t,ho,T⟩:=id S;have la:a<s.heap.objs.size:=bo ho;unfold Builtin.Frozenset.copyOf Builtin.Frozenset.baseOf newSet;refine af (af (wpAny_isInstance (T:="set") (b:=true) ht pP (aj ?_)));rw[if_pos rfl];refine af (af (gO ?_));dsimp only;refine e9 ?_ (by size_fits);refine af (aj ?_);have g0:(s.heap.push (cB #[] 0 (.fresh 0 0 (!cf w)))).get? s.heap.objs.size=some (cB #[] 0 (.fresh 0 0 (!cf w))):=ck _ rfl;have F0:jq prog w s.heap.objs.size [] (s.heap.push (cB #[] 0 (.fresh 0 0 (!cf w)))):=⟨#[],0,.fresh 0 0 (!cf w),g0,⟨λe he=>by simp at he,⟨[],.nil,.refl _⟩,mh,by decide,by simp[SetTable.fits,SetTable.fresh,SetTable.fill],.inl rfl,rfl⟩,λ_=>rfl⟩
 have S1:bf prog w a us (s.heap.push (cB #[] 0 (.fresh 0 0 (!cf w)))):=⟨es,ep,t,bh _ ho,T⟩
 refine af (By (s:={s with heap:=s.heap.push (cB #[] 0 (.fresh 0 0 (!cf w)))}) (jc la) F0 S1 (by simpa using hl) (λs' Q' _ q=>aj q) λh' d b F=>?_);rw[gi]at F;refine aj (h h' d F (by rw[b.1,i3];omega) λx o hx e=>?_);rw[b.2 x (cz hx)];exact bh _ e
theorem Gz{o:Addr}{vs:List Str}{Q:Value->Shared->Prop}(ne:o≠a)(S:bf prog w a us s.heap)(O:bf prog w o vs s.heap)(hl:us.length+vs.length<32)
  (h:∀h' d,bf prog w s.heap.objs.size (aH (us++vs)) h'->(∀b o,b<s.heap.objs.size->s.heap.get? b=some o->h'.get? b=some o)->Q (.ref s.heap.objs.size) {s with heap:=h',drawn:=d}):
  wpAny (model prog w) A (binaryOp .BitOr (.ref a) (.ref o)) Q E s:=by
 have ht:s.TypeIs (.ref a) "set":=bf.ty (h:=s.heap) S;have ht2:s.TypeIs (.ref o) "set":=bf.ty (h:=s.heap) O;obtain⟨es,ep,t,ho,T⟩:=id O;refine wpAny_binaryOp_same (op:=.BitOr) (T:="set") ht ht2 F.fills_set_or F.slot_set_or (jt F.slot_set_or ht y_ ?_ (F.args_set_or_2 _ _));rw[zk]
 show wpAny _ _ (do
  if !(<- Builtin.Frozenset.isAnySet (.ref a) <&&> Builtin.Frozenset.isAnySet (.ref o)) then rule s!"frozenset.{"__or__"}.declined";return <- ret .notImplemented
  ret (<- pO s!"frozenset.{"__or__"}" (<- Builtin.Frozenset.addrOf (.ref a)) (.ref o))) _ _ _
 refine af (af (mH ht ?_));refine mH ht2 ?_;rw[if_neg (by simp)];refine af (aj ?_);have lo:o<s.heap.objs.size:=bo ho;unfold pO;refine af (af (Kh S (by omega) λh1 d1 F1 z1 k1=>?_));rw[if_pos (by simpa using ne)];have ho1:h1.get? o=some (cB es ep t):=k1 o _ lo ho;have ht3:Shared.TypeIs {s with heap:=h1,drawn:=d1} (.ref o) "set":=⟨_,ho1,rfl⟩
 unfold Builtin.Frozenset.updateFrom;refine af (aj (af (ic (af (mH ht3 ?_)))));rw[if_pos rfl];refine af (aj ?_);unfold Builtin.Frozenset.merge;refine af (wpAny_setEpoch_of (s:={s with heap:=h1,drawn:=d1}) ho1 rfl T.fit ?_);have ln:(aH us).length<=us.length:=by
  have:∀(l m:List Str),(l.foldl dL m).length<=m.length+l.length:=by
   intro l
   induction l with
   |nil=>exact λm=>bg _
   |cons x l ih=>
    intro m;rw[j8,gc];refine cx (ih _) ?_;unfold dL;split
    ·omega
    ·rw[bw,j7];omega
  have:=this us [];simpa[aH]using this
 refine By (s:={s with heap:=h1,drawn:=d1}) (jc lo) F1 ⟨es,ep,t,ho1,T⟩ (by omega) (λs' Q' e q=>?_) λh2 d2 b2 F2=>?_
 ·unfold Builtin.Frozenset.unchanged;refine af (wpAny_setEpoch_of (s:=s') (by rw[e];exact ho1) rfl T.fit ?_);rw[if_neg (by simp)];exact aj q
 ·refine aj ?_;refine aj ⟨_,rfl,by simp,h h2 d2 (F2.sets.same (dX _) λx=>?_) λb o' hb e=>?_⟩
  ·rw[cZ,cZ,qj_,qj_,cZ]
  ·rw[b2.2 b (cz hb)];exact k1 b o' hb e
end
section
variable{prog:Program}{w:World}{A:Around}{E:Value->Shared->Prop}{s:Shared}
section
variable{l:Addr}{items:Array Value}{Q:Value->Shared->Prop}(hh:A.handled=none)(hl:s.heap.IsTuple l items)
include hh hl
theorem BA{R:Heap->Prop}(hw:∀(o:Obj) (lt:l<s.heap.objs.size) (hh3:A.in1.in1.in1.handled=none) (ne:l≠(s.heap.push (cP w)).objs.size) (nf:s.heap.objs.size∉[(s.heap.push (cP w)).objs.size,l]) (s1:Shared),s1={s with heap:=(s.heap.push (cP w)).push {cls:=.type "tuple_iterator",data:=.fields #[.ref l,.int 0 0]}}->s1.heap.get? s.heap.objs.size=some (cP w)->s1.heap.IsTupleIter (s.heap.push (cP w)).objs.size l 0/\s1.heap.IsTuple l items ->
   codeAny (model prog w) A.in1.in1 (.builtin "set.update.loop" ⟨[.ref s.heap.objs.size,.ref (s.heap.push (cP w)).objs.size],[]⟩) (wants (λ_ s'=>qN s R s') E) s1)
  (h:∀(h':Heap) (tk:Nat),R h'->(∀b o,b<s.heap.objs.size->s.heap.get? b=some o->h'.get? b=some o)->Q (.ref s.heap.objs.size) {s with heap:=h',toks:=tk}):wpAny (model prog w) A (call (.type "set") [.ref l]) Q E s:=by
 obtain⟨ol,hol,hcl,nl,hdl⟩:=id hl;have hlS:l<s.heap.objs.size:=bo hol;refine BL (R:=qN s R) hol hcl F.sub_tuple_set F.sub_tuple_frozenset (by decide) (wpAny_pyIter_tuple (hl.push _) (wpAny_runValue ?_)) λs' ⟨h',tk,e,p,k⟩=>by subst e;exact h h' tk p k
 refine hw ol hlS (by simp[hh]) ?_ ?_ _ rfl (bh _ (ck _ rfl)) ⟨⟨_,ck _ rfl,rfl,rfl⟩,(hl.push _).push _⟩
 ·rw[i3];exact cz (i7 hlS)
 ·rw[i3];simp only[qe_,b_,or_false,not_or];exact⟨cz (mq _),jc hlS⟩
theorem MF{ss:List Str}(hi:StrsAre items.toList ss)(hb:ss.length+1<scanBound)
  (h:∀(h':Heap) (tk:Nat),bf prog w s.heap.objs.size (aH ss) h'->(∀b o,b<s.heap.objs.size->s.heap.get? b=some o->h'.get? b=some o)->Q (.ref s.heap.objs.size) {s with heap:=h',toks:=tk}):
  wpAny (model prog w) A (call (.type "set") [.ref l]) Q E s:=by
 have hz:items.size=ss.length:=by have:=iZ hi;simpa using this
 have hm:fO (λi=>ss.getD i ⟨#[]⟩) items.size=aH ss:=by rw[hz];exact wM λi hi=>by simp[hi]
 refine BA hh hl (λo lt hh3 ne nf s1 e1 g1 st=>?_) h;subst e1;exact CL ((Walks.tuple hh3 _ l ne items).toS) s.heap.objs.size nf (λi=>ss.getD i ⟨#[]⟩) (λi v hv=>iE hi i v (by rw[h9];exact hv)) (by rw[hm];exact ny (Nat.succ_le_succ (WordM.nodup_len (dX ss) λx hx=>(cZ ss x).mp hx)) hb) (items.size-0) 0 _ (by omega) (g6 _) st (AF g1) λs' m S'=>vL m m.gens (by rw[hm]at S';exact S')
theorem ND{bs:List Bool}(hi:items.toList=bs.map Value.bool)
  (h:∀(h':Heap) (tk:Nat),br w s.heap.objs.size (b7 bs) (b5 bs) h'->(∀b o,b<s.heap.objs.size->s.heap.get? b=some o->h'.get? b=some o)->Q (.ref s.heap.objs.size) {s with heap:=h',toks:=tk}):
  wpAny (model prog w) A (call (.type "set") [.ref l]) Q E s:=by
 have hz:items.size=bs.length:=by have:=congrArg List.length hi;simpa using this
 refine BA hh hl (λo lt hh3 ne nf s1 e1 g1 st=>?_) h;subst e1;exact JS ((Walks.tuple hh3 _ l ne items).toS) s.heap.objs.size nf bs hz (λi v hv=>GD hi i v (by rw[h9];exact hv)) (items.size-0) 0 _ (by omega) (g6 _) st ⟨0,g1⟩ λs' m S'=>vL m m.gens S'
end
end
theorem Ic:isSubtype (.type "dict") (.type "frozenset")=pure false:=by rw[isSubtype_type];kernel_rfl
section
variable{prog:Program}{w:World}{A:Around}{E:Value->Shared->Prop}{s:Shared}{a:Addr}{us:List Str}
theorem Bg:∀{l:List DictEntry}{kvs:List (ba×Value)},Pairs (cA prog w) l kvs->∀{us:List Str},kvs.map (·.1)=us.map Sum.inr->l.length=us.length/\∀(i:Nat) (e:DictEntry),l[i]?=some e->∃x,us[i]?=some x/\(cA prog w).is (Sum.inr x) e.key=true
 |_,_,.nil,us,h=>by
  cases us with
  |nil=>exact⟨rfl,λi e z=>by simp at z⟩
  |cons x us=>simp at h
 |_,_,.cons hk hv r,us,h=>by
  cases us with
  |nil=>simp at h
  |cons x us=>
   simp only[e6,List.cons.injEq]at h;obtain⟨h1,h2⟩:=h;obtain⟨a,b⟩:=Bg r h2;refine⟨by simp[a],λi e z=>?_⟩;cases i with
   |zero=>
    simp only[List.getElem?_cons_zero,Option.some.injEq]at z;subst z;refine⟨x,rfl,?_⟩;rw[<-h1]
    first|exact hk|exact hv
   |succ i=>exact b i e (by simpa using z)
theorem Nj{d:Addr}{ob:Obj}{es:Array DictEntry}{ep:Nat}{us:List Str}{Q:PUnit->Shared->Prop}(ne:d≠a)(hob:s.heap.get? d=some ob)(hd:ob.data=.dict es ep)(hk:KeysOf (cA prog w) es)(hl:es.size=us.length)
    (hi:∀(i:Nat) (e:DictEntry),es[i]?=some e->∃x,us[i]?=some x/\(cA prog w).is (Sum.inr x) e.key=true) (S:bf prog w a [] s.heap) (hb:us.length<4000)
    (h:∀h',Heap.SameBut a s.heap h'->bf prog w a (aH us) h'->Q ⟨⟩ {s with heap:=h'}):
    wpAny (model prog w) A (forIn [:es.size] PUnit.unit λi __s=>do
              let __do_lift <- dictEntries d
              match __do_lift[i]? with
                |some e=>do
                  let _ <- holding [e.key] (setAddHashed a e.key e.hash)
                  let __do_lift <- dictEpoch d
                  if (__do_lift != ep) = true then do
                      unsupported (toString "set.__init__"++toString ":changed-during-callback")
                      pure (ForInStep.yield PUnit.unit)
                    else pure (ForInStep.yield PUnit.unit)
                |x=>do
                  unsupported "internal:set-from-dict"
                  pure (ForInStep.yield PUnit.unit)) Q E s:=by
  rw[Std.Legacy.Range.forIn_eq_forIn_range'];have hb4:scanBound=4096:=rfl;refine wpAny_forIn_list _ (λl _ s'=>∃(k:Nat) (h':Heap),l=List.range' k (es.size-k) 1/\k<=es.size/\s'={s with heap:=h'}/\Heap.SameBut a s.heap h'/\bf prog w a (aH (us.take k)) h') Q ?_ ?_ _ _ ?_
  · rintro x rest b s' ⟨k,h',el,hk',rfl,b',S'⟩
    have hlt:k<es.size:=by
      apply rn;intro z;rw[show es.size-k=0 by omega]at el;cases el
    rw[show es.size-k=(es.size-(k+1))+1 by omega,List.range'_succ]at el;obtain⟨rfl,rfl⟩:x=k/\rest=List.range' (k+1) (es.size-(k+1)) 1:=by injection el with e1 e2;exact⟨e1,e2⟩
    have ho':h'.get? d=some ob:=by rw[b'.2 d ne];exact hob
    refine af (wpAny_dictEntries (s:={s with heap:=h'}) ho' hd ?_);have ee:es[x]?=some es[x]:=jb hlt;rw[ee];dsimp only;obtain⟨y,ey,iy⟩:=hi x _ ee;obtain⟨key,hkk,hh⟩:=hk es[x] (Array.getElem_mem hlt);have:key=Sum.inr y:=(cA prog w).inj _ _ _ hkk iy;subst this;obtain⟨tk,ev⟩:=Value.isStrOf_shape (show Value.isStrOf y es[x].key=true from iy);rw[ev,hh];have ln:(aH (us.take x)).length<=x:=by
      have:=WordM.nodup_len (dX (us.take x)) (m:=us.take x) λz hz=>(cZ _ z).mp hz
      rw[fu]at this;omega
    refine af (ic (wW (s:={s with heap:=h'}) (x:=y) S' (by omega) λbb h3 b3 S3=>?_));have b13:=b'.trans b3;have ho3:h3.get? d=some ob:=by rw[b13.2 d ne];exact hob
    refine af (wpAny_dictEpoch (s:={s with heap:=h3}) ho3 hd ?_);rw[if_neg (by simp)];refine aj ⟨x+1,h3,rfl,hlt,rfl,b13,?_⟩;have:aH (us.take (x+1))=dL (aH (us.take x)) y:=by
      rw[gu,ey];unfold aH;rw[r_];rfl
    rw[this];exact S3
  · rintro b s' ⟨k,h',el,hk',rfl,b',S'⟩
    have:k=es.size:=by
      apply Nat.le_antisymm hk';apply su;intro z;have:=congrArg List.length el;rw[List.length_range']at this;simp at this;omega
    subst this;rw[hl,jj]at S';exact h h' b' S'
  · refine⟨0,s.heap,?_,g6 _,rfl,Heap.SameBut.refl a s.heap,S⟩
    show List.range' 0 ((es.size-0+1-1) / 1) 1=_;rw[Nat.div_one,Nat.add_sub_cancel]
theorem NB{d:Addr}{kvs:List (ba×Value)}{ep:Nat}{us:List Str}{Q:Value->Shared->Prop}(hsm:(d==sysModules)=false)(D:s.heap.DictAt (cA prog w) d kvs ep)(hks:kvs.map (·.1)=us.map Sum.inr)(hb:us.length<32)
  (h:∀(h':Heap),bf prog w s.heap.objs.size (aH us) h'->(∀b o,b<s.heap.objs.size->s.heap.get? b=some o->h'.get? b=some o)->Q (.ref s.heap.objs.size) {s with heap:=h'}):
  wpAny (model prog w) A (call (.type "set") [.ref d]) Q E s:=by
 obtain⟨ob,es,hob,hex,hd,hk,hp,hnd⟩:=id D;have ld:d<s.heap.objs.size:=bo hob;refine BK (P:=λs'=>∃h',s'={s with heap:=h'}/\bf prog w s.heap.objs.size (aH us) h'/\∀b o,b<s.heap.objs.size->s.heap.get? b=some o->h'.get? b=some o) (λs' ⟨h',e,p,k⟩=>by subst e;exact h h' p k) ?_;have hS:(s.heap.push (cP w)).get? s.heap.objs.size=some (cP w):=ck _ rfl;have hT:Shared.TypeIs {s with heap:=s.heap.push (cP w)} (.ref s.heap.objs.size) "set":=⟨_,hS,rfl⟩
 have hob':(s.heap.push (cP w)).get? d=some ob:=bh _ hob;have htd:Shared.TypeIs {s with heap:=s.heap.push (cP w)} (.ref d) "dict":=⟨_,hob',hex.1⟩
 have hsds:=F.sub_dict_set;have hsdf:=Ic;unfold Builtin.«set.__init__» noKeywords Builtin.Frozenset.updateFrom;have hdt:(Value.type "dict"==Value.type "dict")=true:=by decide
 generalize hRM:setRoomFor=RM;wp_walk;subst hRM;rw[hd];refine aj (af (wpAny_dictEntries hob' hd ?_));obtain⟨el,ei⟩:=Bg hp hks;rw[e7]at el;have F0:jq prog w s.heap.objs.size [] (s.heap.push (cB #[] 0 (.fresh 0 0 (!cf w)))):=⟨#[],0,.fresh 0 0 (!cf w),hS,⟨λe he=>by simp at he,⟨[],.nil,.refl _⟩,mh,by decide,by simp[SetTable.fits,SetTable.fresh,SetTable.fill],.inl rfl,rfl⟩,λ_=>rfl⟩
 refine af (BJ (s:={s with heap:=s.heap.push (cB #[] 0 (.fresh 0 0 (!cf w)))}) F0 (by simpa[el]using hb) λh1 es1 ep1 t1 b1 g1 T1 _=>?_);have ne:d≠s.heap.objs.size:=cz ld;have ob1:h1.get? d=some ob:=by rw[b1.2 d ne];exact hob'
 refine af (wpAny_dictEntries (s:={s with heap:=h1}) ob1 hd ?_);refine af (Nj (s:={s with heap:=h1}) ne ob1 hd hk el (λi e q=>ei i e (by rw[h9];exact q)) ⟨es1,ep1,t1,g1,T1⟩ (by omega) λh2 b2 S2=>?_);have b12:=b1.trans b2;refine aj (aj ?_);refine⟨rfl,h2,rfl,S2,λb o hb e=>?_⟩;rw[b12.2 b (cz hb)];exact bh _ e
end
section
variable{X:Cx}{F:Fm}
theorem C8(hc:X.calm=true):aq X (.type "set") (xr X.prog X.w X.K):=by
 intro OS s σ H xs us Q I r h;obtain⟨p,ss,rfl,hq,hz,q⟩:=h;obtain⟨u,rfl,rx⟩:=cI r;cases rx;obtain⟨its,rv,pl,hz'⟩:=I.tuple hq;refine MF (I.ok.hd hc) pl (jM rv) (by show ss.length+1<4096;omega) λh' tk S k=>?_
 refine⟨.ref s.heap.objs.size,_,I.laid (t':=tk) (o:=dJ X.prog X.w s.heap.objs.size (aH ss)) (λb o e=>k b o (bo e) e) (bg _) ⟨S,?_,λh1 h2 z k'=>z.kept k'⟩,rfl,q _ I.fresh⟩;obtain⟨es,ep,t,e,_⟩:=S;exact⟨_,e⟩
def Ea(P:Program)(w:World):R2:=λx y H Q=>∃(a b:Addr) (us vs:List Str),x=.ref a/\y=.ref b/\b≠a/\H a=some (dJ P w a us)/\H b=some (dJ P w b vs)/\us.length+vs.length<32/\∀c:Addr,H c=none->Q (.ref c) (au H c (dJ P w c (aH (us++vs))))
theorem Gk:cn X (binaryOp .BitOr) (Ea X.prog X.w):=by
 intro OS s σ H x y v u Q I rx ry h;obtain⟨a,b,us,vs,rfl,rfl,ne,ha,hb,hl,q⟩:=h;cases rx;cases ry;refine Gz ne (I.hok a _ ha).1 (I.hok b _ hb).1 hl λh' d S k=>?_
 refine⟨.ref s.heap.objs.size,_,(I.laid (t':=s.toks) (o:=dJ X.prog X.w s.heap.objs.size (aH (us++vs))) (λb o e=>k b o (bo e) e) (bg _) ⟨S,?_,λh1 h2 z k'=>z.kept k'⟩).draw d,rfl,q _ I.fresh⟩;obtain⟨es,ep,t,e,_⟩:=S;exact⟨_,e⟩
def Bb(P:Program)(w:World):List V->Hp->VK->Prop:=λxs H Q=>∃(p:Addr) (ob:Obj) (kvs:List (ba×V)) (us:List Str),xs=[.ref p]/\qr H p ob kvs/\kvs.map (·.1)=us.map Sum.inr/\us.length<32/\∀a:Addr,H a=none->Q (.ref a) (au H a (dJ P w a (aH us)))
theorem C7:aq X (.type "set") (Bb X.prog X.w):=by
 intro OS s σ H xs us Q I r h;obtain⟨p,ob,kvs,uu,rfl,hz,hk,hl,q⟩:=h;obtain⟨u,rfl,rx⟩:=cI r;cases rx;obtain⟨e,hs,_,vs,es,ep,rr,dd,hd⟩:=pN I hz;have hkv:vs.map (·.1)=uu.map Sum.inr:=by rw[<-xM rr];exact hk
 refine NB hs dd hkv hl λh' S k=>?_
 refine⟨.ref s.heap.objs.size,_,I.laid (t':=s.toks) (o:=dJ X.prog X.w s.heap.objs.size (aH uu)) (λb o e=>k b o (bo e) e) (bg _) ⟨S,?_,λh1 h2 z k'=>z.kept k'⟩,rfl,q _ I.fresh⟩;obtain⟨es,ep,t,e,_⟩:=S;exact⟨_,e⟩
def zS(T:Tv)(ss:List Str):Prop:=T=.seq true (ss.map sT)\/∃OT,T=.dct OT/\ss=OT.map (·.1)
def KI(u v:UT):f9:=λρ Q=>u ρ λT ρ1=>∃ss:List Str,zS T ss/\ss.length<32/\v ρ1 λU ρ2=>∃ts:List Str,zS U ts/\ss.length+ts.length<32/\Q ((aZ (aH (ss++ts))).map sT) ρ2
theorem xC(l:List Str):(aH l).length<=l.length:=by
 have:∀(l m:List Str),(l.foldl dL m).length<=m.length+l.length:=by
  intro l
  induction l with
  |nil=>exact λm=>bg _
  |cons x l ih=>
   intro m;rw[j8,gc];refine cx (ih _) ?_;unfold dL;split
   ·omega
   ·rw[bw,j7];omega
 have:=this l [];simpa[aH]using this
theorem bj.keep{K:W.Frag}{ρ ρ2:aV}{σ:St}{H H1 H2:Hp}{b:Addr}{o:HO}(f:ar K F ρ σ H)(n:H b=none)(e:H1 b=some o)(s:bj K F σ ρ H1 ρ2 H2):H2 b=some o:=
 s.st b o e (f.none_nodk n) λi sl e1 m q=>by
  obtain⟨⟨o',e2,_⟩,_⟩:=f.own_at e1 m q;rw[n]at e2;cases e2
theorem AK{K:W.Frag}{P:Program}{w:World}{H:Hp}{x:V}{T:Tv}{ss:List Str}{Q:VK}(sr:zS T ss)(v:VA K H x T)(l:ss.length<32)(h:∀b:Addr,H b=none->Q (.ref b) (au H b (dJ P w b (aH ss)))):xr P w K [x] H Q\/Bb P w [x] H Q:=by
 rcases sr with rfl|⟨OT,rfl,rfl⟩
 ·obtain⟨a,ys,rfl,hs,z,p⟩:=v.seqI;rw[iB p]at hs;exact .inl ⟨a,ss,rfl,hs,by omega,h⟩
 ·obtain⟨a,kvs,rfl,⟨ob,hd⟩,nd,z,p⟩:=v.dctI;exact .inr ⟨a,ob,kvs,_,rfl,hd,vZ p,l,h⟩
theorem C1{e e':Expr}{u v:UT}{p p1 p2 pos pos1 pos2 pos3:Pos}(hc:X.calm=true)(hg:Gl X "sorted")(hm:X.mg "sorted"=none)(hg':Gl X "set")(hm':X.mg "set"=none)(he:UE X F e u)(he':UE X F e' v)(hst:dQ e=false:=by rfl)(hst':dQ e'=false:=by rfl)
  (hpl:(backTo pos (starEach [] X.env)).any (·.1)=false:=by rfl) (hpl1:(backTo pos1 (starEach [] X.env)).any (·.1)=false:=by rfl) (hpl2:(backTo pos2 (starEach [] X.env)).any (·.1)=false:=by rfl):
  UL X F (.Call (.Name "sorted" p) [.BinOp (.Call (.Name "set" p1) [e] [] pos1) .BitOr (.Call (.Name "set" p2) [e'] [] pos2) pos3] [] pos) (KI u v):=⟨PE.imp (iD (uZ hc) hg hm boot_sorted (cM (cN Gk (fS ((C8 hc).or C7) hg' hm' L2.boot_set (cM he.pe cW hst) (by decide) (by decide) (gP hst) hpl1) (fS ((C8 hc).or C7) hg' hm' L2.boot_set (cM he'.pe cW hst') (by decide) (by decide) (gP hst') hpl2)) cW rfl) (by decide) (by decide) rfl hpl) λσ H QQ ⟨ρ,Q,f,h,k⟩=>by
 refine⟨ρ,_,f,h,λx T H1 ρ1 s1 v1 q1=>?_⟩;obtain⟨ss,sr,l1,h2⟩:=q1;refine AK sr v1 (by omega) λb nb=>?_
 have sm1:=cC (o:=dJ X.prog X.w b (aH ss)) nb;have t1:=bj.same s1.fr sm1;refine⟨ρ1,_,t1.fr,h2,λx' U H2 ρ2 s2 v2 q2=>?_⟩;obtain⟨ts,sr',hl,q⟩:=q2;refine AK sr' v2 (by omega) λb' nb'=>?_
 have kb:H2 b=some (dJ X.prog X.w b (aH ss)):=bj.keep s1.fr nb bJ s2;have ne:b'≠b:=λz=>by rw[z,kb]at nb';cases nb'
 have e1:=xC ss;have e2:=xC ts;refine⟨b,b',aH ss,aH ts,rfl,rfl,ne,by rw[bR ne.symm];exact kb,bJ,by omega,λc nc=>?_⟩;have e3:=xC (aH ss++aH ts);rw[bw]at e3;refine⟨c,_,rfl,bJ,by omega,λms d h1 h2' nd=>?_⟩;have sm:=((cC (o:=dJ X.prog X.w b' (aH ts)) nb').trans (cC (o:=dJ X.prog X.w c (aH (aH ss++aH ts))) nc)).trans (cC (o:=.lst (ms.map V.str)) nd);have sall:=(s1.trans t1).trans (s2.trans (bj.same s2.fr sm));refine k _ _ _ _ _ sall ?_ bJ (by rw[ak,h1.length_eq];omega) (mV ms) ?_
 ·exact((s1.trans t1).trans s2).non ((cC (o:=dJ X.prog X.w b' (aH ts)) nb').free ((cC (o:=dJ X.prog X.w c (aH (aH ss++aH ts))) nc).free nd))
 ·rw[mK (h1.trans ((l_ (dX _) (dX (ss++ts))).mpr λx=>by rw[cZ,cZ,qj_,qj_,cZ,cZ])) h2']
  exact q⟩
end
section
variable{prog:Program}{w:World}{A:Around}{E:Value->Shared->Prop}{s:Shared}{a o:Addr}{f t f' t':Bool}
theorem GG{f t:Bool}(h:(g8 f t).isEmpty=true):f=false/\t=false:=by
 cases f<;>cases t<;>first|exact⟨rfl,rfl⟩|exact absurd h (by decide +kernel)
theorem Fk(l f t f' t':Bool):(dB l f t).roomFor (g8 f' t').size=none:=by cases l<;>cases f<;>cases t<;>cases f'<;>cases t'<;>rfl
theorem C3{each:Sem Unit}{Q:Unit->Shared->Prop}(ne:a≠o)(S:br w a f t s.heap)(O:br w o f' t' s.heap)
  (he:∀(s':Shared) (Q':Unit->Shared->Prop),s'.heap.get? o=s.heap.get? o->Q' () s'->wpAny (model prog w) A each Q' E s')
  (h:∀h',Heap.SameBut a s.heap h'->br w a (f || f') (t || t') h'->Q () {s with heap:=h'}):wpAny (model prog w) A (setMerge a o each) Q E s:=by
 obtain⟨ep,ho⟩:=id O;obtain⟨ea,ha⟩:=id S;unfold setMerge;rw[if_neg (by simpa using ne)];refine af (g_ ho rfl (iW _ _ _) ?_);dsimp only;by_cases z0:(g8 f' t').isEmpty=true
 ·rw[if_pos z0];obtain⟨rfl,rfl⟩:=GG z0;have e:s={s with heap:=s.heap}:=by cases s;rfl
  rw[e];exact aj (h _ (Heap.SameBut.refl a s.heap) (by rw[kx,kx];exact S))
 rw[if_neg z0];unfold setRoomFor;refine af (af (g_ ha rfl (iW _ _ _) ?_));dsimp only;rw[Fk];dsimp only;refine aj (af (g_ ha rfl (iW _ _ _) ?_));dsimp only;by_cases zs:f=false/\t=false
 ·obtain⟨rfl,rfl⟩:=zs;have er:(dB (!cf w) false false).road (dB (!cf w) f' t')=.slotForSlot:=by cases cf w<;>cases f'<;>cases t'<;>rfl
  rw[er];dsimp only;have et:({dB (!cf w) f' t' with finger:=(dB (!cf w) false false).finger,led:=(dB (!cf w) false false).led&&(dB (!cf w) f' t').led,moves:=(dB (!cf w) false false).moves,plain:=(dB (!cf w) false false).plain&&(dB (!cf w) f' t').plain}:SetTable)=dB (!cf w) f' t':=by cases cf w<;>rfl
  rw[et];refine wpAny_storeSet_of ha rfl ?_ (by rw[tM];exact cx (iV f' t') (by decide));exact h _ (Heap.SameBut.update s.heap a _) ⟨ea+1,fo (Obj.putSet (g8 f' t') (dB (!cf w) f' t')) ha rfl⟩
 ·have er:(dB (!cf w) f t).road (dB (!cf w) f' t')=.oneByOne:=by
   cases f<;>cases t<;>first|exact absurd ⟨rfl,rfl⟩ zs|(cases cf w<;>rfl)
  rw[er];dsimp only;have wk:∀{Q:Array (Int×Value)->Shared->Prop},(∀(out:Array (Int×Value)),out.toList.Perm (g8 f' t').toList->Q out s)->wpAny (model prog w) A (setWalkUnseen o [a] (some a)) Q E s:=λ{Q} q=>by
   unfold setWalkUnseen;refine af (g_ ho rfl (iW _ _ _) ?_);dsimp only;refine af (gO ?_);rw[if_pos (by show(cf w || (!cf w&&true) || _)=true;cases cf w<;>rfl)];unfold setWalk;refine af (g_ ho rfl (iW _ _ _) ?_);dsimp only;refine af (gO ?_);cases hb:cf w with
   |true=>
    rw[if_pos rfl];exact af (wpAny_askSetting (aj (q _ (oZ _ _))))
   |false=>
    rw[if_neg cq];split
    ·rename_i hz;exact absurd (show(!true&&decide ((g8 f' t').size > 1))=true from hz) (by simp)
    ·refine af (m:=(if (!true&&decide ((g8 f' t').size > 1))=true then unsupported "set:maker-not-led" else pure PUnit.unit)) ?_;rw[if_neg (by simp)];exact aj (aj (q _ (.refl _)))
  refine af (wk λout p=>?_);refine af (PySem.MeetsSeq2.wpAny_forIn_array _ (λl _ s'=>∃(f1 t1:Bool) (h':Heap),s'={s with heap:=h'}/\Heap.SameBut a s.heap h'/\br w a f1 t1 h'/\(∀e∈l,e∈(g8 f' t').toList)/\(f1 || l.any λe=>eX false e.2)=(f || f')/\(t1 || l.any λe=>eX true e.2)=(t || t')) _ ?_ ?_ _ _ ?_)
  ·rintro⟨hh,v⟩ rest b s' ⟨f1,t1,h',rfl,b',S',hm,hf,ht⟩;have hin:(hh,v)∈(cp f' t').map λb=>(jH b,Value.bool b):=hm _ (.head _)
   obtain⟨c,_,ec⟩:=qd_.mp hin;cases ec;refine af (ic (BI (prog:=prog) (s:={s with heap:=h'}) (b:=c) S' λr h3 b3 S3=>?_));have b13:=b'.trans b3;have ho3:h3.get? o=some (cB (g8 f' t') ep (dB (!cf w) f' t')):=by rw[b13.2 o (Ne.symm ne)];exact ho
   refine af (he _ _ (by show h3.get? o=s.heap.get? o;rw[ho3,ho]) ?_);refine af (g_ (s:={s with heap:=h3}) ho3 rfl (iW _ _ _) ?_);rw[if_neg (by simp)];refine aj ⟨_,_,h3,rfl,b13,S3,λe q=>hm e (.tail _ q),?_,?_⟩
   ·rw[<-hf,kr,Bool.or_assoc];cases c<;>rfl
   ·rw[<-ht,kr,Bool.or_assoc];cases c<;>rfl
  ·rintro b s' ⟨f1,t1,h',rfl,b',S',_,hf,ht⟩;rw[List.any_nil,kx]at hf ht;subst hf ht;exact aj (h h' b' S')
  ·refine⟨f,t,s.heap,by cases s;rfl,Heap.SameBut.refl a s.heap,S,λe q=>p.mem_iff.mp q,?_,?_⟩
   ·congr 1;rw[j5,qX_];simp only[p.mem_iff];cases f'<;>cases t'<;>simp[g8,cp,eX]
   ·congr 1;rw[j5,qX_];simp only[p.mem_iff];cases f'<;>cases t'<;>simp[g8,cp,eX]
theorem Lp{Q:Value->Shared->Prop}(S:br w a f t s.heap)
  (h:∀h',br w s.heap.objs.size f t h'->s.heap.objs.size<h'.objs.size->(∀b o,b<s.heap.objs.size->s.heap.get? b=some o->h'.get? b=some o)->Q (.ref s.heap.objs.size) {s with heap:=h'}):
  wpAny (model prog w) A (Builtin.Frozenset.copyOf a) Q E s:=by
 obtain⟨ep,ho⟩:=id S;have ht:s.TypeIs (.ref a) "set":=⟨_,ho,rfl⟩
 have la:a<s.heap.objs.size:=bo ho;unfold Builtin.Frozenset.copyOf Builtin.Frozenset.baseOf newSet;refine af (af (wpAny_isInstance (T:="set") (b:=true) ht pP (aj ?_)));rw[if_pos rfl];refine af (af (gO ?_));dsimp only;refine e9 ?_ (by size_fits);refine af (aj ?_);have F0:br w s.heap.objs.size false false (s.heap.push (cB #[] 0 (.fresh 0 0 (!cf w)))):=⟨0,ck _ rfl⟩
 refine af (C3 (s:={s with heap:=s.heap.push (cB #[] 0 (.fresh 0 0 (!cf w)))}) (jc la) F0 ⟨ep,bh _ ho⟩ (λs' Q' _ q=>aj q) λh' b F=>?_);rw[p9,p9]at F;refine aj (h h' F (by rw[b.1,i3];omega) λx o hx e=>?_);rw[b.2 x (cz hx)];exact bh _ e
theorem Hx{Q:Value->Shared->Prop}(ne:o≠a)(S:br w a f t s.heap)(O:br w o f' t' s.heap)
  (h:∀h',br w s.heap.objs.size (f || f') (t || t') h'->(∀b o,b<s.heap.objs.size->s.heap.get? b=some o->h'.get? b=some o)->Q (.ref s.heap.objs.size) {s with heap:=h'}):
  wpAny (model prog w) A (binaryOp .BitOr (.ref a) (.ref o)) Q E s:=by
 obtain⟨ep,ho⟩:=id O;obtain⟨ea,ha⟩:=id S;have ht:s.TypeIs (.ref a) "set":=⟨_,ha,rfl⟩
 have ht2:s.TypeIs (.ref o) "set":=⟨_,ho,rfl⟩
 refine wpAny_binaryOp_same (op:=.BitOr) (T:="set") ht ht2 F.fills_set_or F.slot_set_or (jt F.slot_set_or ht y_ ?_ (F.args_set_or_2 _ _));rw[zk]
 show wpAny _ _ (do
  if !(<- Builtin.Frozenset.isAnySet (.ref a) <&&> Builtin.Frozenset.isAnySet (.ref o)) then rule s!"frozenset.{"__or__"}.declined";return <- ret .notImplemented
  ret (<- pO s!"frozenset.{"__or__"}" (<- Builtin.Frozenset.addrOf (.ref a)) (.ref o))) _ _ _
 refine af (af (mH ht ?_));refine mH ht2 ?_;rw[if_neg (by simp)];refine af (aj ?_);have lo:o<s.heap.objs.size:=bo ho;unfold pO;refine af (af (Lp S λh1 F1 z1 k1=>?_));rw[if_pos (by simpa using ne)];have ho1:h1.get? o=some (cB (g8 f' t') ep (dB (!cf w) f' t')):=k1 o _ lo ho;have ht3:Shared.TypeIs {s with heap:=h1} (.ref o) "set":=⟨_,ho1,rfl⟩
 unfold Builtin.Frozenset.updateFrom;refine af (aj (af (ic (af (mH ht3 ?_)))));rw[if_pos rfl];refine af (aj ?_);unfold Builtin.Frozenset.merge;refine af (wpAny_setEpoch_of (s:={s with heap:=h1}) ho1 rfl (iW _ _ _) ?_);refine C3 (s:={s with heap:=h1}) (jc lo) F1 ⟨ep,ho1⟩ (λs' Q' e q=>?_) λh2 b2 F2=>?_
 ·unfold Builtin.Frozenset.unchanged;refine af (wpAny_setEpoch_of (s:=s') (by rw[e];exact ho1) rfl (iW _ _ _) ?_);rw[if_neg (by simp)];exact aj q
 ·refine aj ?_;refine aj ⟨_,rfl,by simp,h h2 F2 λb o' hb e=>?_⟩;rw[b2.2 b (cz hb)];exact k1 b o' hb e
end
section
variable{X:Cx}{F:Fm}
def HP(w:World)(K:W.Frag):List V->Hp->VK->Prop:=λxs H Q=>∃(p:Addr) (bs:List Bool),xs=[.ref p]/\cv K H p (bs.map V.bl)/\∀a:Addr,H a=none->Q (.ref a) (au H a (fU w a (b7 bs) (b5 bs)))
theorem vH(hc:X.calm=true):aq X (.type "set") (HP X.w X.K):=by
 intro OS s σ H xs us Q I r h;obtain⟨p,bs,rfl,hq,q⟩:=h;obtain⟨u,rfl,rx⟩:=cI r;cases rx;obtain⟨its,rv,pl,hz'⟩:=I.tuple hq;refine ND (I.ok.hd hc) pl (bs:=bs) (GE rv) λh' tk S k=>?_
 refine⟨.ref s.heap.objs.size,_,I.laid (t':=tk) (o:=fU X.w s.heap.objs.size (b7 bs) (b5 bs)) (λb o e=>k b o (bo e) e) (bg _) ⟨S,?_,λh1 h2 z k'=>z.kept k'⟩,rfl,q _ I.fresh⟩;obtain⟨ep,e⟩:=S;exact⟨_,e⟩
def D_(w:World):R2:=λx y H Q=>∃(a b:Addr) (f t f' t':Bool),x=.ref a/\y=.ref b/\b≠a/\H a=some (fU w a f t)/\H b=some (fU w b f' t')/\∀c:Addr,H c=none->Q (.ref c) (au H c (fU w c (f || f') (t || t')))
theorem Gj:cn X (binaryOp .BitOr) (D_ X.w):=by
 intro OS s σ H x y v u Q I rx ry h;obtain⟨a,b,f,t,f',t',rfl,rfl,ne,ha,hb,q⟩:=h;cases rx;cases ry;refine Hx ne (I.hok a _ ha).1 (I.hok b _ hb).1 λh' S k=>?_
 refine⟨.ref s.heap.objs.size,_,I.laid (t':=s.toks) (o:=fU X.w s.heap.objs.size (f || f') (t || t')) (λb o e=>k b o (bo e) e) (bg _) ⟨S,?_,λh1 h2 z k'=>z.kept k'⟩,rfl,q _ I.fresh⟩;obtain⟨ep,e⟩:=S;exact⟨_,e⟩
def Lj(u v:UT):f9:=λρ Q=>u ρ λT ρ1=>∃bs:List Bool,T=.seq true (bs.map bT)/\v ρ1 λU ρ2=>∃cs:List Bool,U=.seq true (cs.map bT)/\Q ((cp (b7 bs || b7 cs) (b5 bs || b5 cs)).map bT) ρ2
theorem Nz{e e':Expr}{u v:UT}{p p1 p2 pos pos1 pos2 pos3:Pos}(hc:X.calm=true)(hg:Gl X "sorted")(hm:X.mg "sorted"=none)(hg':Gl X "set")(hm':X.mg "set"=none)(he:UE X F e u)(he':UE X F e' v)(hst:dQ e=false:=by rfl)(hst':dQ e'=false:=by rfl)
  (hpl:(backTo pos (starEach [] X.env)).any (·.1)=false:=by rfl) (hpl1:(backTo pos1 (starEach [] X.env)).any (·.1)=false:=by rfl) (hpl2:(backTo pos2 (starEach [] X.env)).any (·.1)=false:=by rfl):
  UL X F (.Call (.Name "sorted" p) [.BinOp (.Call (.Name "set" p1) [e] [] pos1) .BitOr (.Call (.Name "set" p2) [e'] [] pos2) pos3] [] pos) (Lj u v):=⟨PE.imp (iD (CH hc) hg hm boot_sorted (cM (cN Gj (fS (vH hc) hg' hm' L2.boot_set (cM he.pe cW hst) (by decide) (by decide) (gP hst) hpl1) (fS (vH hc) hg' hm' L2.boot_set (cM he'.pe cW hst') (by decide) (by decide) (gP hst') hpl2)) cW rfl) (by decide) (by decide) rfl hpl) λσ H QQ ⟨ρ,Q,f,h,k⟩=>by
 refine⟨ρ,_,f,h,λx T H1 ρ1 s1 v1 q1=>?_⟩;obtain⟨bs,rfl,h2⟩:=q1;obtain⟨a,ys,rfl,hs,z,p⟩:=v1.seqI;rw[pH p]at hs;refine⟨a,bs,rfl,hs,λb nb=>?_⟩;have sm1:=cC (o:=fU X.w b (b7 bs) (b5 bs)) nb;have t1:=bj.same s1.fr sm1;refine⟨ρ1,_,t1.fr,h2,λx' U H2 ρ2 s2 v2 q2=>?_⟩;obtain⟨cs,rfl,q⟩:=q2;obtain⟨a',ys',rfl,hs',z',p'⟩:=v2.seqI;rw[pH p']at hs';refine⟨a',cs,rfl,hs',λb' nb'=>?_⟩;have kb:H2 b=some (fU X.w b (b7 bs) (b5 bs)):=bj.keep s1.fr nb bJ s2;have ne:b'≠b:=λz=>by rw[z,kb]at nb';cases nb'
 refine⟨b,b',_,_,_,_,rfl,rfl,ne,by rw[bR ne.symm];exact kb,bJ,λc nc=>?_⟩;refine⟨c,_,_,rfl,bJ,λd nd=>?_⟩;have sm:=((cC (o:=fU X.w b' (b7 cs) (b5 cs)) nb').trans (cC (o:=fU X.w c (b7 bs || b7 cs) (b5 bs || b5 cs)) nc)).trans (cC (o:=.lst ((cp (b7 bs || b7 cs) (b5 bs || b5 cs)).map V.bl)) nd);have sall:=(s1.trans t1).trans (s2.trans (bj.same s2.fr sm));refine k _ _ _ _ _ sall ?_ bJ (by rw[ak];have:=iV (b7 bs || b7 cs) (b5 bs || b5 cs);omega) (xW _) q
 exact((s1.trans t1).trans s2).non ((cC (o:=fU X.w b' (b7 cs) (b5 cs)) nb').free ((cC (o:=fU X.w c (b7 bs || b7 cs) (b5 bs || b5 cs)) nc).free nd))⟩
end
section
variable{prog:Program}{w:World}{A:Around}{E:Value->Shared->Prop}{s:Shared}{l:Addr}{its:Array Value}{ss:List Str}
theorem Dk{Q:Value->Shared->Prop}(hl:s.heap.IsTuple l its)
  (h:∀s₂:Shared,s₂={s with heap:=s.heap.push {cls:=.type "tuple_iterator",data:=.fields #[.ref l,.int 0 0]}} ->
   (s₂.heap.IsTupleIter s.heap.objs.size l 0/\s₂.heap.IsTuple l its)->(∀b∈[s.heap.objs.size,l],b<s₂.heap.objs.size)->l≠s.heap.objs.size->Q (.ref s.heap.objs.size) s₂):
  wpAny (model prog w) A (pyIter (.ref l)) Q E s:=by
 have hlt:l<s.heap.objs.size:=by obtain⟨_,e,_⟩:=hl;exact bo e
 refine wpAny_pyIter_tuple hl (h _ rfl ⟨⟨_,ck _ rfl,rfl,rfl⟩,hl.push _⟩ (λb hb=>?_) (cz hlt));show b<(s.heap.push _).objs.size;rw[i3];simp only[qe_,b_,or_false]at hb;rcases hb with z|z
 ·rw[z];exact mq _
 ·rw[z];exact i7 hlt
theorem JW{Q:Value->Shared->Prop}(hh:A.handled=none)(hl:s.heap.IsTuple l its)(hi:StrsAre its.toList ss)(hne:0<ss.length)
  (h:∀x t h' tk,x∈ss->(∀y∈ss,x.cps.toList<=y.cps.toList)->(∀b o,s.heap.get? b=some o->h'.get? b=some o)->Q (.str x t) {s with heap:=h',toks:=tk}):
  wpAny (model prog w) A (call (.builtin "min") [.ref l]) Q E s:=by
 have hsz:its.size=ss.length:=by rw[<-e7,iZ hi]
 refine call_min_walk (Dk hl λs₂ e st hfp hlI=>?_);subst e;refine⟨_,_,_,_,_,_,_,rfl,Walks.tuple (A:=A.in1) hh _ l hlI its,st,hfp,by omega,Cs (λi=>ss.getD i ⟨#[]⟩) (λi v hv=>iE hi i v (by rw[h9];exact hv)),λv h' tk hP hk=>?_⟩;obtain⟨t,rfl⟩:=iE hi _ v (by rw[h9];exact hP);obtain⟨b1,b2⟩:=xR (λi=>(ss.getD i ⟨#[]⟩).cps.toList) (its.size-1);refine h _ t h' tk (rL (by omega)) (λy hy=>?_) (λb o e=>hk b o (λz=>by rw[qJ_]at z;subst z;have:=bo e;exact g5 _ this) (bh _ e));obtain⟨j,hj,rfl⟩:=rH hy;exact b2 j (by omega)
theorem JU{Q:Value->Shared->Prop}(hh:A.handled=none)(hl:s.heap.IsTuple l its)(hi:StrsAre its.toList ss)(hne:0<ss.length)
  (h:∀x t h' tk,x∈ss->(∀y∈ss,y.cps.toList<=x.cps.toList)->(∀b o,s.heap.get? b=some o->h'.get? b=some o)->Q (.str x t) {s with heap:=h',toks:=tk}):
  wpAny (model prog w) A (call (.builtin "max") [.ref l]) Q E s:=by
 have hsz:its.size=ss.length:=by rw[<-e7,iZ hi]
 refine call_max_walk (Dk hl λs₂ e st hfp hlI=>?_);subst e;refine⟨_,_,_,_,_,_,_,rfl,Walks.tuple (A:=A.in1) hh _ l hlI its,st,hfp,by omega,Cr (λi=>ss.getD i ⟨#[]⟩) (λi v hv=>iE hi i v (by rw[h9];exact hv)),λv h' tk hP hk=>?_⟩;obtain⟨t,rfl⟩:=iE hi _ v (by rw[h9];exact hP);obtain⟨b1,b2⟩:=xS (λi=>(ss.getD i ⟨#[]⟩).cps.toList) (its.size-1);refine h _ t h' tk (rL (by omega)) (λy hy=>?_) (λb o e=>hk b o (λz=>by rw[qJ_]at z;subst z;have:=bo e;exact g5 _ this) (bh _ e));obtain⟨j,hj,rfl⟩:=rH hy;exact b2 j (by omega)
end
section
variable{X:Cx}
theorem LS(hc:X.calm=true):aq X (.builtin "min") (λxs H Q=>∃(p:Addr) (ss:List Str),xs=[.ref p]/\cv X.K H p (ss.map V.str)/\0<ss.length/\∀x,x∈ss->(∀y∈ss,x.cps.toList<=y.cps.toList)->Q (.str x) H):=by
 intro OS s σ H xs us Q I r h;obtain⟨p,ss,rfl,hq,hn,q⟩:=h;obtain⟨u,rfl,rx⟩:=cI r;cases rx;obtain⟨its,rv,pl,hz⟩:=I.tuple hq;refine JW (I.ok.hd hc) pl (jM rv) hn λx t h' tk h1 h2 hk=>?_
 exact⟨.str _,H,I.kept hk,⟨t,rfl⟩,q _ h1 h2⟩
theorem MM(hc:X.calm=true):aq X (.builtin "max") (λxs H Q=>∃(p:Addr) (ss:List Str),xs=[.ref p]/\cv X.K H p (ss.map V.str)/\0<ss.length/\∀x,x∈ss->(∀y∈ss,y.cps.toList<=x.cps.toList)->Q (.str x) H):=by
 intro OS s σ H xs us Q I r h;obtain⟨p,ss,rfl,hq,hn,q⟩:=h;obtain⟨u,rfl,rx⟩:=cI r;cases rx;obtain⟨its,rv,pl,hz⟩:=I.tuple hq;refine JU (I.ok.hd hc) pl (jM rv) hn λx t h' tk h1 h2 hk=>?_
 exact⟨.str _,H,I.kept hk,⟨t,rfl⟩,q _ h1 h2⟩
def E3:Pn:=λTs Q=>∃(t:Bool) (ss:List Str),Ts=[.seq t (ss.map sT)]/\0<ss.length/\∀x,x∈ss->(∀y∈ss,x.cps.toList<=y.cps.toList)->Q (sT x)
def EZ:Pn:=λTs Q=>∃(t:Bool) (ss:List Str),Ts=[.seq t (ss.map sT)]/\0<ss.length/\∀x,x∈ss->(∀y∈ss,y.cps.toList<=x.cps.toList)->Q (sT x)
theorem IF(hc:X.calm=true):iQ X (.builtin "min") E3:=⟨_,(C6 hc).or (LS hc),λxs Ts H Q QQ vx h k=>by
 obtain⟨t,ss,rfl,l,q⟩:=h;obtain⟨x,rfl,v⟩:=dH vx;obtain⟨a,ys,rfl,hs,z,p⟩:=v.seqI;rw[iB p]at hs;cases t with
 |false=>exact .inl ⟨a,ss,rfl,cH hs,l,λM h1 h2=>k _ _ _ (.flat rfl) (q M h1 h2)⟩
 |true=>exact .inr ⟨a,ss,rfl,hs,l,λM h1 h2=>k _ _ _ (.flat rfl) (q M h1 h2)⟩⟩
theorem IE(hc:X.calm=true):iQ X (.builtin "max") EZ:=⟨_,(C5 hc).or (MM hc),λxs Ts H Q QQ vx h k=>by
 obtain⟨t,ss,rfl,l,q⟩:=h;obtain⟨x,rfl,v⟩:=dH vx;obtain⟨a,ys,rfl,hs,z,p⟩:=v.seqI;rw[iB p]at hs;cases t with
 |false=>exact .inl ⟨a,ss,rfl,cH hs,l,λM h1 h2=>k _ _ _ (.flat rfl) (q M h1 h2)⟩
 |true=>exact .inr ⟨a,ss,rfl,hs,l,λM h1 h2=>k _ _ _ (.flat rfl) (q M h1 h2)⟩⟩
end
end L2
namespace L2
open PySem PySem.Spec PyProof.Rows WordM
section
variable{X:Cx}{F:Fm}
def Ny(u:UT):f9:=λρ Q=>u ρ λT ρ1=>∃bs:List Bool,T=.seq true (bs.map bT)/\Q ((cp (b7 bs) (b5 bs)).map bT) ρ1
theorem Nr{e:Expr}{u:UT}{p p' pos pos':Pos}(hc:X.calm=true)(hg:Gl X "sorted")(hm:X.mg "sorted"=none)(hg':Gl X "set")(hm':X.mg "set"=none)(he:UE X F e u)(hst:dQ e=false:=by rfl)
  (hpl:(backTo pos (starEach [] X.env)).any (·.1)=false:=by rfl) (hpl':(backTo pos' (starEach [] X.env)).any (·.1)=false:=by rfl):
  UL X F (.Call (.Name "sorted" p) [.Call (.Name "set" p') [e] [] pos'] [] pos) (Ny u):=⟨PE.imp (iD (CH hc) hg hm boot_sorted (cM (fS (vH hc) hg' hm' L2.boot_set (cM he.pe cW hst) (by decide) (by decide) (gP hst) hpl') cW rfl) (by decide) (by decide) rfl hpl) λσ H QQ ⟨ρ,Q,f,h,k⟩=>by
 refine⟨ρ,_,f,h,λx T H1 ρ1 s1 v1 q1=>?_⟩;obtain⟨bs,rfl,q⟩:=q1;obtain⟨a,ys,rfl,hs,z,p⟩:=v1.seqI;rw[pH p]at hs;refine⟨a,bs,rfl,hs,λb nb=>⟨b,_,_,rfl,bJ,λc nc=>?_⟩⟩;have sm:=(cC (o:=fU X.w b (b7 bs) (b5 bs)) nb).trans (cC (o:=.lst ((cp (b7 bs) (b5 bs)).map V.bl)) nc)
 exact k _ _ _ _ _ (s1.trans (bj.same s1.fr sm)) (s1.non ((cC nb).free nc)) bJ (by rw[ak];have:=iV (b7 bs) (b5 bs);omega) (xW _) q⟩
end
section
variable{P:Program}{w:World}{K:W.Frag}{mg:Str->Option Value}{base:Heap}{x:Str}{st:Stmt}{k:Nat}{psp:bz}{us:d_}
theorem ao.pg1(N:List Str){a:Str}(h:ao K mg x st)
  (OX:∀{f:Addr} {OV:Value} {A:Around} {outer:List Env} {s:Shared} {H:Hp} {E:XK} {F:Fm},N.Nodup->bt k (A.deeper (envOfC x (aY st) s.heap.objs.size f OV))->km (gK ky P w K mg base N x (aY st) f OV A outer s H E).nox F (dE st) us)
  (hp:∀as R,psp as R->as.length=[a].length/\us {nx:=λ_=>R nT,rt:=R} (iN N.length as))
  (S:dP N [a] (aY st):=by exact lg (by decide +kernel))
  (hb:∀(kV doc pm:Value) (an:Option Addr) (OV ct v0:Value),bindArgs (W.fnOf x x (fL st) (dE st) (aY st) .none kV doc pm an OV ct) ⟨[v0],[]⟩=pure ([a].zip [v0]):=by exact λ_ _ _ _ _ _ _=>rfl):ae P w K mg base (k+1) x [a] psp:=
 h.pgood S (λkV doc pm an OV ct us hl=>match us,hl with|[v0],_=>hb kV doc pm an OV ct v0) (λf OV A outer s H E F hr=>OX S.nd hr) hp
theorem ao.pg2(N:List Str){a b:Str}(h:ao K mg x st)
  (OX:∀{f:Addr} {OV:Value} {A:Around} {outer:List Env} {s:Shared} {H:Hp} {E:XK} {F:Fm},N.Nodup->bt k (A.deeper (envOfC x (aY st) s.heap.objs.size f OV))->km (gK ky P w K mg base N x (aY st) f OV A outer s H E).nox F (dE st) us)
  (hp:∀as R,psp as R->as.length=[a,b].length/\us {nx:=λ_=>R nT,rt:=R} (iN N.length as))
  (S:dP N [a,b] (aY st):=by exact lg (by decide +kernel))
  (hb:∀(kV doc pm:Value) (an:Option Addr) (OV ct v0 v1:Value),bindArgs (W.fnOf x x (fL st) (dE st) (aY st) .none kV doc pm an OV ct) ⟨[v0,v1],[]⟩=pure ([a,b].zip [v0,v1]):=by exact λ_ _ _ _ _ _ _ _=>rfl):ae P w K mg base (k+1) x [a,b] psp:=
 h.pgood S (λkV doc pm an OV ct us hl=>match us,hl with|[v0,v1],_=>hb kV doc pm an OV ct v0 v1) (λf OV A outer s H E F hr=>OX S.nd hr) hp
theorem ao.pg3(N:List Str){a b c:Str}(h:ao K mg x st)
  (OX:∀{f:Addr} {OV:Value} {A:Around} {outer:List Env} {s:Shared} {H:Hp} {E:XK} {F:Fm},N.Nodup->bt k (A.deeper (envOfC x (aY st) s.heap.objs.size f OV))->km (gK ky P w K mg base N x (aY st) f OV A outer s H E).nox F (dE st) us)
  (hp:∀as R,psp as R->as.length=[a,b,c].length/\us {nx:=λ_=>R nT,rt:=R} (iN N.length as))
  (S:dP N [a,b,c] (aY st):=by exact lg (by decide +kernel))
  (hb:∀(kV doc pm:Value) (an:Option Addr) (OV ct v0 v1 v2:Value),bindArgs (W.fnOf x x (fL st) (dE st) (aY st) .none kV doc pm an OV ct) ⟨[v0,v1,v2],[]⟩=pure ([a,b,c].zip [v0,v1,v2]):=by exact λ_ _ _ _ _ _ _ _ _=>rfl):ae P w K mg base (k+1) x [a,b,c] psp:=
 h.pgood S (λkV doc pm an OV ct us hl=>match us,hl with|[v0,v1,v2],_=>hb kV doc pm an OV ct v0 v1 v2) (λf OV A outer s H E F hr=>OX S.nd hr) hp
theorem ao.pg4(N:List Str){a b c d:Str}(h:ao K mg x st)
  (OX:∀{f:Addr} {OV:Value} {A:Around} {outer:List Env} {s:Shared} {H:Hp} {E:XK} {F:Fm},N.Nodup->bt k (A.deeper (envOfC x (aY st) s.heap.objs.size f OV))->km (gK ky P w K mg base N x (aY st) f OV A outer s H E).nox F (dE st) us)
  (hp:∀as R,psp as R->as.length=[a,b,c,d].length/\us {nx:=λ_=>R nT,rt:=R} (iN N.length as))
  (S:dP N [a,b,c,d] (aY st):=by exact lg (by decide +kernel))
  (hb:∀(kV doc pm:Value) (an:Option Addr) (OV ct v0 v1 v2 v3:Value),bindArgs (W.fnOf x x (fL st) (dE st) (aY st) .none kV doc pm an OV ct) ⟨[v0,v1,v2,v3],[]⟩=pure ([a,b,c,d].zip [v0,v1,v2,v3]):=by exact λ_ _ _ _ _ _ _ _ _ _=>rfl):ae P w K mg base (k+1) x [a,b,c,d] psp:=
 h.pgood S (λkV doc pm an OV ct us hl=>match us,hl with|[v0,v1,v2,v3],_=>hb kV doc pm an OV ct v0 v1 v2 v3) (λf OV A outer s H E F hr=>OX S.nd hr) hp
theorem ao.pg5(N:List Str){a b c d e:Str}(h:ao K mg x st)
  (OX:∀{f:Addr} {OV:Value} {A:Around} {outer:List Env} {s:Shared} {H:Hp} {E:XK} {F:Fm},N.Nodup->bt k (A.deeper (envOfC x (aY st) s.heap.objs.size f OV))->km (gK ky P w K mg base N x (aY st) f OV A outer s H E).nox F (dE st) us)
  (hp:∀as R,psp as R->as.length=[a,b,c,d,e].length/\us {nx:=λ_=>R nT,rt:=R} (iN N.length as))
  (S:dP N [a,b,c,d,e] (aY st):=by exact lg (by decide +kernel))
  (hb:∀(kV doc pm:Value) (an:Option Addr) (OV ct v0 v1 v2 v3 v4:Value),bindArgs (W.fnOf x x (fL st) (dE st) (aY st) .none kV doc pm an OV ct) ⟨[v0,v1,v2,v3,v4],[]⟩=pure ([a,b,c,d,e].zip [v0,v1,v2,v3,v4]):=by exact λ_ _ _ _ _ _ _ _ _ _ _=>rfl):ae P w K mg base (k+1) x [a,b,c,d,e] psp:=
 h.pgood S (λkV doc pm an OV ct us hl=>match us,hl with|[v0,v1,v2,v3,v4],_=>hb kV doc pm an OV ct v0 v1 v2 v3 v4) (λf OV A outer s H E F hr=>OX S.nd hr) hp
end
end L2
namespace ShowM
variable{M:Type}[DecidableEq M]
def u6(mk:Nat->M)(hd:List Nat)(lo hi:Int)(ms:List M)(x:List Nat):Prop:=∃r,x=hd++r/\lo<=(r.length:Int)/\(r.length:Int)<=hi/\∀c∈r,mk c∈ms
structure kc (mk:Nat->M) (hd:List Nat) (lo hi:Int) (ms:List M) (S:List (List Nat)):Prop where
 some:∃(n:Nat) (G:List Nat),1<=n/\7<=G.length/\G.Nodup/\(∀m∈ms,∃c∈G,mk c=m)/\∀g∈G,hd++List.replicate n g∈S
 low:∃r:List Nat,(r.length:Int)<=lo/\hd++r∈S
 high:∃r:List Nat,hi<=(r.length:Int)/\hd++r∈S
theorem B5{α:Type}[DecidableEq α]:∀{l m:List α},l.Nodup->(∀x∈l,x∈m)->l.length<=m.length
 |[],m,_,_=>g6 _
 |x::l,m,hn,hs=>by
  have hx:=hs x fe;have h2:=qh1_.mp hn;have ih:=B5 (l:=l) (m:=m.erase x) h2.2 λy hy=>(List.mem_erase_of_ne (show y≠x from λe=>h2.1 (by rw[<-e];exact hy))).mpr (hs y (fc _ hy))
  rw[uw hx]at ih;have:0<m.length:=List.length_pos_of_mem hx;rw[gc];omega
theorem kc.few{mk:Nat->M}{hd:List Nat}{lo hi:Int}{ms:List M}{S:List (List Nat)}(T:kc mk hd lo hi ms S){ss:List (List Nat)}(h6:ss.length<=6)(h:∀x∈S,x∈ss):False:=by
 obtain⟨n,G,n1,g7,nd,_,hG⟩:=T.some;have hn:(G.map λg=>hd++List.replicate n g).Nodup:=by
  unfold List.Nodup;rw[i8];refine nd.imp λ{a b} ne e=>ne ?_
  have e:=lu e;obtain⟨k,rfl⟩:∃k,n=k+1:=⟨n-1,by omega⟩
  rw[i4,i4]at e;exact(List.cons.inj e).1
 have:=B5 hn λx hx=>by
  obtain⟨g,hg,rfl⟩:=qd_.mp hx;exact h _ (hG g hg)
 rw[ak]at this;omega
theorem kc.make{mk:Nat->M}{hd hd2:List Nat}{lo hi lo2 hi2:Int}{ms ms2:List M}{S:List (List Nat)}(T:kc mk hd lo hi ms S)(h:∀x∈S,u6 mk hd2 lo2 hi2 ms2 x):∀x,u6 mk hd lo hi ms x->u6 mk hd2 lo2 hi2 ms2 x:=by
 obtain⟨n,G,n1,g7,nd,cov,hG⟩:=T.some;obtain⟨d,hd'⟩:∃d,hd=hd2++d:=by
  match G,g7,nd,hG with
  |g1::g2::G',_,nd,hG=>
   obtain⟨r1,e1,_⟩:=h _ (hG g1 (by simp));obtain⟨r2,e2,_⟩:=h _ (hG g2 (by simp));have ne:g1≠g2:=by
    have:=(qh1_.mp nd).1;simp at this;exact this.1
   obtain⟨k,rfl⟩:∃k,n=k+1:=⟨n-1,by omega⟩
   rw[List.append_eq_append_iff]at e1 e2;rcases e1 with⟨a,ha,hb⟩|⟨a,ha,hb⟩
   ·rcases e2 with⟨a',ha',hb'⟩|⟨a',ha',hb'⟩
    ·have:a=a':=lu (ha.symm.trans ha');subst this;cases a with
     |nil=>exact⟨[],by simpa using ha.symm⟩
     |cons y a=>
      rw[i4,j3]at hb hb';exact absurd ((List.cons.inj hb).1.trans (List.cons.inj hb').1.symm) ne
    ·exact⟨a',ha'⟩
   ·exact⟨a,ha⟩
 subst hd';have strip:∀{r:List Nat},(hd2++d)++r∈S->lo2<=((d++r).length:Int)/\((d++r).length:Int)<=hi2/\∀c∈d++r,mk c∈ms2:=λ{r} hr=>by
  obtain⟨r',e,h1,h2,h3⟩:=h _ hr;rw[e_]at e;have:=lu e;rw[this];exact⟨h1,h2,h3⟩
 obtain⟨rl,l1,l2⟩:=T.low;obtain⟨rh,h1,h2⟩:=T.high;have sl:=strip l2;have sh:=strip h2;rintro x ⟨r,rfl,r1,r2,r3⟩;refine⟨d++r,by rw[e_],?_,?_,λc hc=>?_⟩
 ·have:=sl.1;rw[bw]at this ⊢;omega
 ·have:=sh.2.1;rw[bw]at this ⊢;omega
 ·rcases qj_.mp hc with z|z
  ·exact sl.2.2 c (gg _ z)
  ·obtain⟨g,hg,e⟩:=cov _ (r3 c z);rw[<-e];obtain⟨k,rfl⟩:∃k,n=k+1:=⟨n-1,by omega⟩
   exact(strip (hG g hg)).2.2 g (de _ (by rw[i4];exact fe))
end ShowM
namespace CutM
open RunM GcdM
structure IsR (S:Int->Prop) (r:R3):Prop where
 lo:S r.1
 lo':∀n,S n->r.1<=n
 hi:S r.2.1
 hi':∀n,S n->n<=r.2.1
 nn:0<=r.2.2
 dv:∀d,d ∣ r.2.2↔∀n,S n->d ∣ (n-r.1)
theorem isR_of{ns:List Int}{m M:Int}(h1:m∈ns)(h2:∀x∈ns,m<=x)(h3:M∈ns)(h4:∀x∈ns,x<=M):IsR (·∈ns) (m,M,stepOf m ns):=by
 refine⟨h1,h2,h3,h4,qT (me 0),λd=>?_⟩;show d ∣ stepOf m ns↔_;unfold stepOf;rw[wD];exact⟨λh=>h.2,λh=>⟨jg _,h⟩⟩
theorem IsR.ok{S:Int->Prop}{r:R3}(h:IsR S r):Ok r:=by
 have key:r.2.1=r.1->r.2.2=0:=λe=>by
  have:(0:Int) ∣ r.2.2:=(h.dv 0).mpr λn hn=>by
   have h1:=h.lo' n hn;have h2:=h.hi' n hn;rw[show n-r.1=0 by omega];exact jg _
  exact Int.zero_dvd.mp this
 refine⟨h.nn,λz=>?_,λz=>⟨?_,(h.dv _).mp (pk _) _ h.hi⟩⟩
 ·have:=(h.dv 0).mp (by rw[z];exact jg _) _ h.hi;have:=Int.zero_dvd.mp this;omega
 ·have h1:=h.lo' _ h.hi;rcases Int.lt_or_le r.1 r.2.1 with q|q
  ·exact q
  ·have:=key (by omega);omega
theorem R3.ext{a b:R3}(h1:a.1=b.1)(h2:a.2.1=b.2.1)(h3:a.2.2=b.2.2):a=b:=by
 obtain⟨x,y,z⟩:=a;obtain⟨x',y',z'⟩:=b;simp only at h1 h2 h3;rw[h1,h2,h3]
theorem IsR.unique{S:Int->Prop}{r r':R3}(h:IsR S r)(h':IsR S r'):r=r':=by
 have e1:r.1=r'.1:=by
  have:=h.lo' _ h'.lo;have:=h'.lo' _ h.lo;omega
 have e2:r.2.1=r'.2.1:=by
  have:=h.hi' _ h'.hi;have:=h'.hi' _ h.hi;omega
 refine R3.ext e1 e2 (rM h.nn h'.nn λd=>?_);rw[h.dv,h'.dv,e1]
theorem IsR.congr{S T:Int->Prop}{r:R3}(h:IsR S r)(e:∀n,S n↔T n):IsR T r:=
 ⟨(e _).mp h.lo,λn hn=>h.lo' n ((e n).mpr hn),(e _).mp h.hi,λn hn=>h.hi' n ((e n).mpr hn),h.nn,λd=>(h.dv d).trans ⟨λk n hn=>k n ((e n).mpr hn),λk n hn=>k n ((e n).mp hn)⟩⟩
theorem IsR.join{S T:Int->Prop}{a b:R3}(ha:IsR S a)(hb:IsR T b):IsR (λn=>S n\/T n) (joinR a b):=by
 have s1:Sub a (joinR a b):=Bu;have s2:Sub b (joinR a b):=Mr;have l1:=s1.lo;have l2:=s2.lo;have l3:=s1.hi;have l4:=s2.hi;refine⟨?_,λn hn=>?_,?_,λn hn=>?_,kY _ _,λd=>?_⟩
 ·show S (if b.1<a.1 then b.1 else a.1)\/T (if b.1<a.1 then b.1 else a.1);split
  ·exact .inr hb.lo
  ·exact .inl ha.lo
 ·rcases hn with z|z
  ·have:=ha.lo' n z;omega
  ·have:=hb.lo' n z;omega
 ·show S (if b.2.1 > a.2.1 then b.2.1 else a.2.1)\/T (if b.2.1 > a.2.1 then b.2.1 else a.2.1);split
  ·exact .inr hb.hi
  ·exact .inl ha.hi
 ·rcases hn with z|z
  ·have:=ha.hi' n z;omega
  ·have:=hb.hi' n z;omega
 ·show d ∣ g (g a.2.2 b.2.2) (a.1-b.1)↔_;rw[g_dvd,g_dvd,ha.dv,hb.dv];have el:(joinR a b).1=a.1\/(joinR a b).1=b.1:=by
   show(if b.1<a.1 then b.1 else a.1)=a.1\/(if b.1<a.1 then b.1 else a.1)=b.1;split
   ·exact .inr rfl
   ·exact .inl rfl
  constructor
  ·rintro⟨⟨h1,h2⟩,h3⟩;have k1:d ∣ (a.1-(joinR a b).1):=by
    rcases el with e|e<;>rw[e]
    ·rw[og];exact jg _
    ·exact h3
   have k2:d ∣ (b.1-(joinR a b).1):=by
    rcases el with e|e<;>rw[e]
    ·rw[show b.1-a.1 = -(a.1-b.1) by omega];exact Int.dvd_neg.mpr h3
    ·rw[og];exact jg _
   intro n hn;rcases hn with z|z
   ·have:=md (h1 n z) k1;rw[show n-a.1+(a.1-(joinR a b).1)=n-(joinR a b).1 by omega]at this;exact this
   ·have:=md (h2 n z) k2;rw[show n-b.1+(b.1-(joinR a b).1)=n-(joinR a b).1 by omega]at this;exact this
  ·intro h;have k1:=h _ (.inl ha.lo);have k2:=h _ (.inr hb.lo);refine⟨⟨λn hn=>?_,λn hn=>?_⟩,?_⟩
   ·have:=kn (h n (.inl hn)) k1;rw[show n-(joinR a b).1-(a.1-(joinR a b).1)=n-a.1 by omega]at this;exact this
   ·have:=kn (h n (.inr hn)) k2;rw[show n-(joinR a b).1-(b.1-(joinR a b).1)=n-b.1 by omega]at this;exact this
   ·have:=kn k1 k2;rw[show a.1-(joinR a b).1-(b.1-(joinR a b).1)=a.1-b.1 by omega]at this;exact this
end CutM
namespace L2
open PySem PySem.Spec PyProof.Rows WordM
def aX:List Int->Int
 |[]=>0
 |[x]=>x
 |x::y::l=>min x (aX (y::l))
def bD:List Int->Int
 |[]=>0
 |[x]=>x
 |x::y::l=>max x (bD (y::l))
theorem iF:∀{l:List Int},l≠[]->aX l∈l/\∀x∈l,aX l<=x
 |[],h=>absurd rfl h
 |[x],_=>⟨.head _,λy hy=>by rw[qJ_.mp hy];exact me _⟩
 |x::y::l,_=>by
  obtain⟨a,b⟩:=iF (l:=y::l) (by simp);rw[aX];refine⟨?_,λz hz=>?_⟩
  ·by_cases h:x<=aX (y::l)
   ·rw[Int.min_eq_left h];exact .head _
   ·rw[Int.min_eq_right (by omega)];exact .tail _ a
  ·rcases qe_.mp hz with rfl|hz
   ·omega
   ·have:=b z hz;omega
theorem iG:∀{l:List Int},l≠[]->bD l∈l/\∀x∈l,x<=bD l
 |[],h=>absurd rfl h
 |[x],_=>⟨.head _,λy hy=>by rw[qJ_.mp hy];exact me _⟩
 |x::y::l,_=>by
  obtain⟨a,b⟩:=iG (l:=y::l) (by simp);rw[bD];refine⟨?_,λz hz=>?_⟩
  ·by_cases h:x<=bD (y::l)
   ·rw[Int.max_eq_right h];exact .tail _ a
   ·rw[Int.max_eq_left (by omega)];exact .head _
  ·rcases qe_.mp hz with rfl|hz
   ·omega
   ·have:=b z hz;omega
theorem nC{l:List Int}{m:Int}(h1:m∈l)(h2:∀x∈l,m<=x):aX l=m:=by
 obtain⟨a,b⟩:=iF (l:=l) (λz=>by rw[z]at h1;exact nomatch h1);have:=b m h1;have:=h2 _ a;omega
theorem nD{l:List Int}{m:Int}(h1:m∈l)(h2:∀x∈l,x<=m):bD l=m:=by
 obtain⟨a,b⟩:=iG (l:=l) (λz=>by rw[z]at h1;exact nomatch h1);have:=b m h1;have:=h2 _ a;omega
theorem rW{l m:List Int}(hl:l≠[])(hm:m≠[]):aX (l++m)=min (aX l) (aX m):=by
 obtain⟨a,b⟩:=iF hl;obtain⟨c,d⟩:=iF hm;refine nC ?_ λx hx=>?_
 ·by_cases h:aX l<=aX m
  ·rw[Int.min_eq_left h];exact gg _ a
  ·rw[Int.min_eq_right (by omega)];exact de _ c
 ·rcases qj_.mp hx with hx|hx
  ·have:=b x hx;omega
  ·have:=d x hx;omega
theorem rX{l m:List Int}(hl:l≠[])(hm:m≠[]):bD (l++m)=max (bD l) (bD m):=by
 obtain⟨a,b⟩:=iG hl;obtain⟨c,d⟩:=iG hm;refine nD ?_ λx hx=>?_
 ·by_cases h:bD l<=bD m
  ·rw[Int.max_eq_right h];exact de _ c
  ·rw[Int.max_eq_left (by omega)];exact gg _ a
 ·rcases qj_.mp hx with hx|hx
  ·have:=b x hx;omega
  ·have:=d x hx;omega
theorem CO{l m:List Int}(h:∀x,x∈l↔x∈m):aX l=aX m:=by
 by_cases e:l=[]
 ·subst e;cases m with
  |nil=>rfl
  |cons x m=>exact nomatch (h x).mpr (.head _)
 ·obtain⟨a,b⟩:=iF e;exact(nC ((h _).mp a) λx hx=>b x ((h x).mpr hx)).symm
theorem CM{l m:List Int}(h:∀x,x∈l↔x∈m):bD l=bD m:=by
 by_cases e:l=[]
 ·subst e;cases m with
  |nil=>rfl
  |cons x m=>exact nomatch (h x).mpr (.head _)
 ·obtain⟨a,b⟩:=iG e;exact(nD ((h _).mp a) λx hx=>b x ((h x).mpr hx)).symm
def cK(ns:List Int):GcdM.R3:=(aX ns,bD ns,GcdM.stepOf (aX ns) ns)
theorem mL{ns:List Int}(h:ns≠[]):CutM.IsR (·∈ns) (cK ns):=by
 obtain⟨a,b⟩:=iF h;obtain⟨c,d⟩:=iG h;exact CutM.isR_of a b c d
theorem wE{ns:List Int}{r:GcdM.R3}(h:CutM.IsR (·∈ns) r):r=cK ns:=h.unique (mL λz=>by have:=h.lo;rw[z]at this;exact nomatch this)
theorem Md{ns ms:List Int}(h:∀x,x∈ns↔x∈ms):cK ns=cK ms:=by
 by_cases e:ns=[]
 ·subst e;cases ms with
  |nil=>rfl
  |cons x m=>exact nomatch (h x).mpr (.head _)
 ·exact wE ((mL e).congr h)
theorem CV{ns ms:List Int}(h1:ns≠[])(h2:ms≠[]):GcdM.joinR (cK ns) (cK ms)=cK (ns++ms):=
 wE (((mL h1).join (mL h2)).congr λn=>qj_.symm)
def k_:List Nat->List Nat->List Nat
 |a::x,b::y=>if a=b then a::k_ x y else []
 |_,_=>[]
theorem BX:∀x y:List Nat,∃r,x=k_ x y++r
 |[],y=>⟨[],by cases y<;>rfl⟩
 |a::x,[]=>⟨a::x,rfl⟩
 |a::x,b::y=>by
  rw[k_];split
  ·obtain⟨r,e⟩:=BX x y;exact⟨r,by rw[j3,<-e]⟩
  ·exact⟨a::x,rfl⟩
theorem Dl:∀x y:List Nat,∃r,y=k_ x y++r
 |[],y=>⟨y,by cases y<;>rfl⟩
 |a::x,[]=>⟨[],rfl⟩
 |a::x,b::y=>by
  rw[k_];split
  ·rename_i h;obtain⟨r,e⟩:=Dl x y;exact⟨r,by rw[j3,<-e,h]⟩
  ·exact⟨b::y,rfl⟩
theorem Ac:∀(h x y r1 r2:List Nat),x=h++r1->y=h++r2->∃r,k_ x y=h++r
 |[],x,y,_,_,_,_=>⟨k_ x y,rfl⟩
 |a::h,x,y,r1,r2,e1,e2=>by
  subst e1 e2;obtain⟨r,e⟩:=Ac h (h++r1) (h++r2) r1 r2 rfl rfl;exact⟨r,by rw[j3,j3,k_,if_pos rfl,e];rfl⟩
structure a_ (ts:List Str) (hd:Str):Prop where
 all:∀t∈ts,∃r,cs t=cs hd++r
 top:∀h:List Nat,(∀t∈ts,∃r,cs t=h++r)->h.length<=(cs hd).length
theorem Ip{x y:List Nat}{z:List Nat}{r1 r2:List Nat}(e1:z=x++r1)(e2:z=y++r2)(l:x.length<=y.length):∃r,y=x++r:=by
 refine⟨y.drop x.length,?_⟩;have:y.take x.length=x:=by
  have h1:z.take x.length=x:=by rw[e1,List.take_left]
  have h2:z.take x.length=y.take x.length:=by rw[e2,List.take_append_of_le_length l]
  rw[<-h2,h1]
 exact(p6 x.length y).symm.trans (by rw[this])
theorem a_.pre{ts:List Str}{hd:Str}(ne:ts≠[])(a:a_ ts hd){h:List Nat}(k:∀t∈ts,∃r,cs t=h++r):∃r,cs hd=h++r:=by
 obtain⟨t,ht⟩:=iz _ ne;obtain⟨r1,e1⟩:=k t ht;obtain⟨r2,e2⟩:=a.all t ht;exact Ip e1 e2 (a.top h k)
theorem KY{ts:List Str}{h1 h2:Str}(ne:ts≠[])(a:a_ ts h1)(b:a_ ts h2):h1=h2:=by
 obtain⟨t,ht⟩:=iz _ ne;obtain⟨r1,e1⟩:=a.all t ht;obtain⟨r2,e2⟩:=b.all t ht;have l1:=a.top _ b.all;have l2:=b.top _ a.all;exact kG (List.append_inj_left (e1.symm.trans e2) (by omega))
theorem a_.same{ts us:List Str}{hd:Str}(a:a_ ts hd)(h:∀x,x∈ts↔x∈us):a_ us hd:=⟨λt ht=>a.all t ((h t).mpr ht),λk hk=>a.top k λt ht=>hk t ((h t).mp ht)⟩
def fN:List Str->List Nat
 |[]=>[]
 |[t]=>cs t
 |t::u::l=>k_ (cs t) (fN (u::l))
theorem wP:∀{ts:List Str},ts≠[]->a_ ts ⟨(fN ts).toArray⟩
 |[],h=>absurd rfl h
 |[t],_=>⟨λu hu=>⟨[],by rw[qJ_.mp hu,gk];rfl⟩,λh k=>by
  obtain⟨r,e⟩:=k t (.head _);show h.length<=(cs t).length
  rw[e,bw];omega⟩
 |t::u::l,_=>by
  have ih:=wP (ts:=u::l) (by simp);have eh:cs ⟨(fN (t::u::l)).toArray⟩=k_ (cs t) (fN (u::l)):=rfl;have eh':cs ⟨(fN (u::l)).toArray⟩=fN (u::l):=rfl;refine⟨λx hx=>?_,λh k=>?_⟩
  ·rw[eh];rcases qe_.mp hx with rfl|hx
   ·exact BX _ _
   ·obtain⟨r,e⟩:=ih.all x hx;obtain⟨r',e'⟩:=Dl (cs t) (fN (u::l));rw[eh']at e;exact⟨r'++r,by rw[e,<-e_,<-e']⟩
  ·obtain⟨r1,e1⟩:=k t (.head _);obtain⟨r2,e2⟩:=ih.pre (by simp) λx hx=>k x (.tail _ hx)
   rw[eh']at e2;obtain⟨r,e⟩:=Ac h _ _ r1 r2 e1 e2;rw[eh,e,bw];omega
theorem Kz{A B:List Str}{h1 h2 hd:Str}(n1:A≠[])(n2:B≠[])(a:a_ A h1)(b:a_ B h2)(h:a_ [h1,h2] hd):a_ (A++B) hd:=by
 obtain⟨r1,e1⟩:=h.all h1 (.head _);obtain⟨r2,e2⟩:=h.all h2 (.tail _ (.head _));refine⟨λt ht=>?_,λk hk=>h.top k λt ht=>?_⟩
 ·rcases qj_.mp ht with ht|ht
  ·obtain⟨r,e⟩:=a.all t ht;exact⟨r1++r,by rw[e,e1,e_]⟩
  ·obtain⟨r,e⟩:=b.all t ht;exact⟨r2++r,by rw[e,e2,e_]⟩
 ·simp only[qe_,b_,or_false]at ht;rcases ht with rfl|rfl
  ·exact a.pre n1 λx hx=>hk x (gg _ hx)
  ·exact b.pre n2 λx hx=>hk x (de _ hx)
def iH(ts:List Str)(hd:Str):List Str:=MK.filter λm=>ts.any λt=>(cs (bA t hd)).any λc=>decide (cR c=m)
theorem marksOf_mem{ts:List Str}{hd m:Str}:m∈iH ts hd↔∃t∈ts,∃c∈cs (bA t hd),cR c=m:=by
 unfold iH;rw[qd1_,qX_];constructor
 ·rintro⟨_,t,ht,h⟩;obtain⟨c,hc,e⟩:=qX_.mp h;exact⟨t,ht,c,hc,ip e⟩
 ·rintro⟨t,ht,c,hc,rfl⟩;exact⟨sH c,t,ht,qX_.mpr ⟨c,hc,gp rfl⟩⟩
theorem kB(ts:List Str)(hd:Str):eV (iH ts hd):=List.Pairwise.sublist n_ xI
structure iw (ts:List Str) (hd:Str) (lo hi:Int) (ms:List Str):Prop where
 he:a_ ts hd
 lo1:∃t∈ts,(t.length:Int)-(hd.length:Int)=lo
 lo2:∀t∈ts,lo<=(t.length:Int)-(hd.length:Int)
 hi1:∃t∈ts,(t.length:Int)-(hd.length:Int)=hi
 hi2:∀t∈ts,(t.length:Int)-(hd.length:Int)<=hi
 mks:ms=iH ts hd
theorem kE{xs ys:List Str}(hx:eV xs)(hy:eV ys)(h:∀x,x∈xs↔x∈ys):xs=ys:=
 (pD hx hy λx hx=>(h x).mp hx).eq_of_length_le (pD hy hx λx hx=>(h x).mpr hx).length_le
theorem iw.same{ts us:List Str}{hd:Str}{lo hi:Int}{ms:List Str}(m:iw ts hd lo hi ms)(h:∀x,x∈ts↔x∈us):iw us hd lo hi ms:=by
 obtain⟨t1,a1,b1⟩:=m.lo1;obtain⟨t2,a2,b2⟩:=m.hi1;refine⟨m.he.same h,⟨t1,(h _).mp a1,b1⟩,λt ht=>m.lo2 t ((h t).mpr ht),⟨t2,(h _).mp a2,b2⟩,λt ht=>m.hi2 t ((h t).mpr ht),?_⟩;rw[m.mks];refine kE (kB _ _) (kB _ _) λx=>?_
 rw[marksOf_mem,marksOf_mem];exact⟨λ⟨t,ht,z⟩=>⟨t,(h t).mp ht,z⟩,λ⟨t,ht,z⟩=>⟨t,(h t).mpr ht,z⟩⟩
theorem iw.ne{ts:List Str}{hd:Str}{lo hi:Int}{ms:List Str}(m:iw ts hd lo hi ms):ts≠[]:=λz=>by
 obtain⟨t,ht,_⟩:=m.lo1;rw[z]at ht;exact nomatch ht
theorem iw.uniq{ts:List Str}{hd hd2:Str}{lo hi lo2 hi2:Int}{ms ms2:List Str}(a:iw ts hd lo hi ms)(b:iw ts hd2 lo2 hi2 ms2):hd=hd2/\lo=lo2/\hi=hi2/\ms=ms2:=by
 have e:=KY a.ne a.he b.he;subst e;obtain⟨t1,a1,b1⟩:=a.lo1;obtain⟨t2,a2,b2⟩:=a.hi1;obtain⟨u1,c1,d1⟩:=b.lo1;obtain⟨u2,c2,d2⟩:=b.hi1;have x1:=b.lo2 t1 a1;have x2:=a.lo2 u1 c1;have x3:=b.hi2 t2 a2;have x4:=a.hi2 u2 c2;exact⟨rfl,by omega,by omega,by rw[a.mks,b.mks]⟩
theorem wF{t h1 hd:Str}{r1 r:List Nat}(e1:cs h1=cs hd++r1)(e:cs t=cs h1++r):cs (bA t hd)=cs (bA h1 hd)++cs (bA t h1):=by
 rw[dW e,dW e1,dW (show cs t=cs hd++(r1++r) by rw[e,e1,e_])]
theorem IU{t hd:Str}(h:Sg t){r:List Nat}(e:cs t=cs hd++r):Sg (bA t hd):=λc hc=>by
 rw[dW e]at hc;exact h c (by rw[e];exact de _ hc)
theorem L1{x m:Str}(h:Sg x):m∈dN x↔∃c∈cs x,cR c=m:=by
 rw[dN,qd1_,jY,qX_];constructor
 ·rintro⟨hm,c,hc,hd⟩;exact⟨c,hc,(sG (h c hc) m hm).mp (ip hd)⟩
 ·rintro⟨c,hc,rfl⟩;exact⟨sH c,c,hc,gp ((sG (h c hc) _ (sH c)).mpr rfl)⟩
noncomputable def ju(ms ms':List Str):List Str:=aZ (aH (ms++ms'))
theorem iw.shorter{A:List Str}{h1 hd:Str}{lo hi:Int}{ms:List Str}(a:iw A h1 lo hi ms)(sg:Sg h1){r1:List Nat}(e1:cs h1=cs hd++r1):
  (∃t∈A,(t.length:Int)-(hd.length:Int)=lo+(bA h1 hd).length)/\(∀t∈A,lo+(bA h1 hd).length<=(t.length:Int)-(hd.length:Int))/\(∃t∈A,(t.length:Int)-(hd.length:Int)=hi+(bA h1 hd).length)/\(∀t∈A,(t.length:Int)-(hd.length:Int)<=hi+(bA h1 hd).length)/\∀m,m∈ju ms (dN (bA h1 hd))↔∃t∈A,∃c∈cs (bA t hd),cR c=m:=by
 have el:(h1.length:Int)=hd.length+(bA h1 hd).length:=by
  rw[WordM.len h1,WordM.len hd,WordM.len (bA h1 hd),dW e1,e1,bw];push_cast;rfl
 obtain⟨t1,a1,b1⟩:=a.lo1;obtain⟨t2,a2,b2⟩:=a.hi1;refine⟨⟨t1,a1,by omega⟩,λt ht=>by have:=a.lo2 t ht;omega,⟨t2,a2,by omega⟩,λt ht=>by have:=a.hi2 t ht;omega,λm=>?_⟩;unfold ju;rw[sort_set_mem,qj_,a.mks,marksOf_mem,L1 (IU sg e1)];constructor
 ·rintro (⟨t,ht,c,hc,e⟩|⟨c,hc,e⟩)
  ·obtain⟨r,er⟩:=a.he.all t ht;exact⟨t,ht,c,by rw[wF e1 er];exact de _ hc,e⟩
  ·obtain⟨r,er⟩:=a.he.all t1 a1;exact⟨t1,a1,c,by rw[wF e1 er];exact gg _ hc,e⟩
 ·rintro⟨t,ht,c,hc,e⟩;obtain⟨r,er⟩:=a.he.all t ht;rw[wF e1 er]at hc;rcases qj_.mp hc with hc|hc
  ·exact .inr ⟨c,hc,e⟩
  ·exact .inl ⟨t,ht,c,hc,e⟩
theorem iw.app{A B:List Str}{h1 h2 hd:Str}{lo1 hi1 lo2 hi2:Int}{ms1 ms2:List Str}(a:iw A h1 lo1 hi1 ms1)(b:iw B h2 lo2 hi2 ms2)(s1:Sg h1)(s2:Sg h2)(h:a_ [h1,h2] hd):
  iw (A++B) hd (min (lo1+(bA h1 hd).length) (lo2+(bA h2 hd).length)) (max (hi1+(bA h1 hd).length) (hi2+(bA h2 hd).length)) (ju (ju ms1 (dN (bA h1 hd))) (ju ms2 (dN (bA h2 hd)))):=by
 obtain⟨r1,e1⟩:=h.all h1 (.head _);obtain⟨r2,e2⟩:=h.all h2 (.tail _ (.head _));obtain⟨⟨t1,p1,q1⟩,x1,⟨u1,p2,q2⟩,y1,m1⟩:=a.shorter s1 e1;obtain⟨⟨t2,p3,q3⟩,x2,⟨u2,p4,q4⟩,y2,m2⟩:=b.shorter s2 e2;generalize lo1+((bA h1 hd).length:Int)=l1 at *;generalize hi1+((bA h1 hd).length:Int)=g1 at *;generalize lo2+((bA h2 hd).length:Int)=l2 at *;generalize hi2+((bA h2 hd).length:Int)=g2 at *;refine⟨Kz a.ne b.ne a.he b.he h,?_,λt ht=>?_,?_,λt ht=>?_,?_⟩
 ·by_cases z:l1<=l2
  ·exact⟨t1,gg _ p1,by omega⟩
  ·exact⟨t2,de _ p3,by omega⟩
 ·rcases qj_.mp ht with ht|ht
  ·have:=x1 t ht;omega
  ·have:=x2 t ht;omega
 ·by_cases z:g1<=g2
  ·exact⟨u2,de _ p4,by omega⟩
  ·exact⟨u1,gg _ p2,by omega⟩
 ·rcases qj_.mp ht with ht|ht
  ·have:=y1 t ht;omega
  ·have:=y2 t ht;omega
 ·refine kE (hX _) (kB _ _) λm=>?_
  have jm:m∈ju (ju ms1 (dN (bA h1 hd))) (ju ms2 (dN (bA h2 hd)))↔m∈ju ms1 (dN (bA h1 hd))++ju ms2 (dN (bA h2 hd)):=sort_set_mem;rw[jm,qj_,m1,m2,marksOf_mem];constructor
  ·rintro (⟨t,ht,z⟩|⟨t,ht,z⟩)
   ·exact⟨t,gg _ ht,z⟩
   ·exact⟨t,de _ ht,z⟩
  ·rintro⟨t,ht,z⟩;rcases qj_.mp ht with ht|ht
   ·exact .inl ⟨t,ht,z⟩
   ·exact .inr ⟨t,ht,z⟩
def o7(ts:List Str):Wd->Prop
 |.few ss=>ss=aZ (aH ts)/\(aH ts).length<7
 |.make hd lo hi ms=>7<=(aH ts).length/\iw ts hd lo hi ms
theorem gQ{ts us:List Str}(h:∀x,x∈ts↔x∈us):(aH ts).length=(aH us).length/\aZ (aH ts)=aZ (aH us):=by
 have p:(aH ts).Perm (aH us):=(l_ (dX _) (dX _)).mpr λx=>by rw[cZ,cZ,h]
 exact⟨p.length_eq,kE (hX _) (hX _) λx=>by rw[sort_set_mem,sort_set_mem,h]⟩
theorem o7.same{ts us:List Str}(h:∀x,x∈ts↔x∈us):∀{W:Wd},o7 ts W->o7 us W
 |.few ss,w=>⟨by rw[<-(gQ h).2];exact w.1,by rw[<-(gQ h).1];exact w.2⟩
 |.make ..,w=>⟨by rw[<-(gQ h).1];exact w.1,w.2.same h⟩
theorem o7.uniq{ts:List Str}:∀{W W2:Wd},o7 ts W->o7 ts W2->W=W2
 |.few ss,.few ss2,a,b=>by rw[a.1,b.1]
 |.few ss,.make ..,a,b=>by have:=a.2;have:=b.1;omega
 |.make ..,.few ss,a,b=>by have:=a.1;have:=b.2;omega
 |.make ..,.make ..,a,b=>by
  obtain⟨e1,e2,e3,e4⟩:=a.2.uniq b.2;rw[e1,e2,e3,e4]
def fX(ts:List Str):Wd:=
 .make ⟨(fN ts).toArray⟩ (aX (ts.map λt=>(t.length:Int)-((⟨(fN ts).toArray⟩:Str).length:Int))) (bD (ts.map λt=>(t.length:Int)-((⟨(fN ts).toArray⟩:Str).length:Int))) (iH ts ⟨(fN ts).toArray⟩)
theorem fY{ts:List Str}(h:ts≠[]):∃hd lo hi ms,fX ts=.make hd lo hi ms/\iw ts hd lo hi ms:=by
 refine⟨_,_,_,_,rfl,wP h,?_,λt ht=>?_,?_,λt ht=>?_,rfl⟩
 ·obtain⟨t,ht,e⟩:=qd_.mp (iF (l:=ts.map λt=>(t.length:Int)-((⟨(fN ts).toArray⟩:Str).length:Int)) (by simpa using h)).1;exact⟨t,ht,e⟩
 ·exact(iF (l:=ts.map λt=>(t.length:Int)-((⟨(fN ts).toArray⟩:Str).length:Int)) (by simpa using h)).2 _ (qd_.mpr ⟨t,ht,rfl⟩)
 ·obtain⟨t,ht,e⟩:=qd_.mp (iG (l:=ts.map λt=>(t.length:Int)-((⟨(fN ts).toArray⟩:Str).length:Int)) (by simpa using h)).1;exact⟨t,ht,e⟩
 ·exact(iG (l:=ts.map λt=>(t.length:Int)-((⟨(fN ts).toArray⟩:Str).length:Int)) (by simpa using h)).2 _ (qd_.mpr ⟨t,ht,rfl⟩)
noncomputable def bN(ts:List Str):Wd:=if (aH ts).length<7 then .few (aZ (aH ts)) else fX ts
theorem mT{ts:List Str}(h:ts≠[]):o7 ts (bN ts):=by
 unfold bN;split
 ·rename_i z;exact⟨rfl,z⟩
 ·obtain⟨hd,lo,hi,ms,e,m⟩:=fY h;rw[e];exact⟨by omega,m⟩
theorem sB{ts:List Str}(h:ts≠[]){W:Wd}(w:o7 ts W):W=bN ts:=w.uniq (mT h)
theorem kC{ts us:List Str}(h:∀x,x∈ts↔x∈us):bN ts=bN us:=by
 by_cases e:ts=[]
 ·subst e;cases us with
  |nil=>rfl
  |cons x m=>exact nomatch (h x).mpr (.head _)
 ·have ne:us≠[]:=λz=>by
   obtain⟨x,hx⟩:=iz _ e;have:=(h x).mp hx;rw[z]at this;exact nomatch this
  exact sB ne ((mT e).same h)
def kN6:List Nat:=[0,1,2,3,4,5]
def eQ(f:List Pt)(k:Nat):Option Pt:=f.find? λp=>decide (bZ p=k)
def dS(vs:List Tv):Bool:=vs.any λv=>lR v==0
def fh:Tv->Option Bool
 |.leaf (.bl b)=>some b
 |_=>none
def gq:Tv->Option Int
 |.leaf (.int i)=>some i
 |_=>none
def f7:Tv->Option Str
 |.leaf (.str s)=>some s
 |_=>none
def b8:Tv->Option (List Tv)
 |.seq false xs=>some xs
 |_=>none
def d3:Tv->Option (List (Str×Tv))
 |.dct k=>some k
 |_=>none
theorem Jx{v:Tv}{b:Bool}:fh v=some b↔v=.leaf (.bl b):=by
 cases v with
 |leaf x=>cases x<;>simp[fh]
 |seq t xs=>simp[fh]
 |dct k=>simp[fh]
theorem Jz{v:Tv}{b:Int}:gq v=some b↔v=.leaf (.int b):=by
 cases v with
 |leaf x=>cases x<;>simp[gq]
 |seq t xs=>simp[gq]
 |dct k=>simp[gq]
theorem JB{v:Tv}{b:Str}:f7 v=some b↔v=.leaf (.str b):=by
 cases v with
 |leaf x=>cases x<;>simp[f7]
 |seq t xs=>simp[f7]
 |dct k=>simp[f7]
theorem JA{v:Tv}{b:List Tv}:b8 v=some b↔v=.seq false b:=by
 cases v with
 |leaf x=>cases x<;>simp[b8]
 |seq t xs=>cases t<;>simp[b8]
 |dct k=>simp[b8]
theorem Jy{v:Tv}{b:List (Str×Tv)}:d3 v=some b↔v=.dct b:=by
 cases v with
 |leaf x=>cases x<;>simp[d3]
 |seq t xs=>simp[d3]
 |dct k=>simp[d3]
def aN(ks:List (List (Str×Tv))):List Str:=ks.flatMap λk=>k.map (·.1)
def cO(ks:List (List (Str×Tv))):List Tv:=ks.flatMap λk=>k.map (·.2)
def cm(n:Str)(ks:List (List (Str×Tv))):List Tv:=ks.filterMap λk=>dA k n
def cE(ls:List (List Tv)):List Int:=ls.map λl=>((l.length:Nat):Int)
def aU(ks:List (List (Str×Tv))):List Int:=ks.map λl=>((l.length:Nat):Int)
abbrev jw:=Str×Bool×List Pt
noncomputable def bX(D:List Tv->List Pt)(ks:List (List (Str×Tv)))(n:Str):jw:=(n,ks.all (λk=>decide (n∈k.map (·.1))),D (cm n ks))
noncomputable def dz(D:List Tv->List Pt)(ks:List (List (Str×Tv))):Pt:=
 if (aH (aN ks)).length<=8 then .record (aX (aU ks)) (bD (aU ks)) ((aZ (aH (aN ks))).map (bX D ks)) else .table (aX (aU ks)) (bD (aU ks)) (bN (aN ks)) (D (cO ks))
noncomputable def bF(D:List Tv->List Pt)(vs:List Tv):Nat->Option Pt
 |0=>if dS vs=true then some .nothing else none
 |1=>if vs.filterMap fh=[] then none else some (.truths (cp (b7 (vs.filterMap fh)) (b5 (vs.filterMap fh))))
 |2=>if vs.filterMap gq=[] then none else some (.numbers (cK (vs.filterMap gq)).1 (cK (vs.filterMap gq)).2.1 (cK (vs.filterMap gq)).2.2)
 |3=>if vs.filterMap f7=[] then none else some (.texts (bN (vs.filterMap f7)))
 |4=>if vs.filterMap b8=[] then none else some (.lists (aX (cE (vs.filterMap b8))) (bD (cE (vs.filterMap b8))) (D (vs.filterMap b8).flatten))
 |5=>if vs.filterMap d3=[] then none else some (dz D (vs.filterMap d3))
 |_=>none
noncomputable def bI:Nat->List Tv->List Pt
 |0,_=>[]
 |n+1,vs=>kN6.filterMap (bF (bI n) vs)
theorem Dd{D:List Tv->List Pt}{vs:List Tv}{k:Nat}{p:Pt}(h:bF D vs k=some p):bZ p=k:=by
 unfold bF at h;split at h
 all_goals first|(cases h;done)|skip
 all_goals
  split at h
  all_goals first|(cases h;done)|skip
 all_goals first|(cases h;rfl;done)|skip
 ·cases h;unfold dz;split<;>rfl
theorem A0{o:Nat->Option Pt}(ho:∀k p,o k=some p->bZ p=k):∀(l:List Nat) (k:Nat),k∈l->l.Nodup->eQ (l.filterMap o) k=o k
 |[],k,h,_=>nomatch h
 |j::l,k,h,n=>by
  have hn:=qh1_.mp n;rw[gm];by_cases z:j=k
  ·subst z;cases e:o j with
   |none=>
    dsimp only;have:eQ (l.filterMap o) j=none:=by
     unfold eQ;rw[qG2_];intro p hp hk;obtain⟨i,hi,ei⟩:=qt1_.mp hp;have:=ho i p ei;have hk:=ip hk;rw[this]at hk;subst hk;exact hn.1 hi
    rw[this]
   |some p=>
    dsimp only;unfold eQ;rw[d7,gp (ho j p e)]
  ·have hk:k∈l:=by
    rcases qe_.mp h with q|q
    ·exact absurd q.symm z
    ·exact q
   have ih:=A0 ho l k hk hn.2;cases e:o j with
   |none=>exact ih
   |some p=>
    dsimp only;unfold eQ;rw[d7,iq (λq=>z (by rw[<-ho j p e];exact q))];exact ih
theorem kH{α:Type}{f:Tv->Option α}{A B:List Tv}(h:∀v,v∈A↔v∈B)(x:α):x∈A.filterMap f↔x∈B.filterMap f:=by
 rw[qt1_,qt1_];exact⟨λ⟨a,ha,e⟩=>⟨a,(h a).mp ha,e⟩,λ⟨a,ha,e⟩=>⟨a,(h a).mpr ha,e⟩⟩
theorem mP{α:Type}{A B:List α}(h:∀v,v∈A↔v∈B):(A=[])=(B=[]):=by
 rw[eq_iff_iff,qE1_,qE1_];exact⟨λk a ha=>k a ((h a).mpr ha),λk a ha=>k a ((h a).mp ha)⟩
theorem wV{α:Type}{p:α->Bool}{A B:List α}(h:∀v,v∈A↔v∈B):A.any p=B.any p:=by
 rw[j5,qX_,qX_];exact⟨λ⟨a,ha,e⟩=>⟨a,(h a).mp ha,e⟩,λ⟨a,ha,e⟩=>⟨a,(h a).mpr ha,e⟩⟩
theorem Kf{α:Type}{p:α->Bool}{A B:List α}(h:∀v,v∈A↔v∈B):A.all p=B.all p:=by
 rw[j5,qB1_,qB1_];exact⟨λk a ha=>k a ((h a).mpr ha),λk a ha=>k a ((h a).mp ha)⟩
theorem rY{α β:Type}{f:α->β}{A B:List α}(h:∀v,v∈A↔v∈B)(x:β):x∈A.map f↔x∈B.map f:=by
 rw[qd_,qd_];exact⟨λ⟨a,ha,e⟩=>⟨a,(h a).mp ha,e⟩,λ⟨a,ha,e⟩=>⟨a,(h a).mpr ha,e⟩⟩
theorem mD{α β:Type}{f:α->List β}{A B:List α}(h:∀v,v∈A↔v∈B)(x:β):x∈A.flatMap f↔x∈B.flatMap f:=by
 rw[qo1_,qo1_];exact⟨λ⟨a,ha,e⟩=>⟨a,(h a).mp ha,e⟩,λ⟨a,ha,e⟩=>⟨a,(h a).mpr ha,e⟩⟩
theorem Kq{D:List Tv->List Pt}(hD:∀A B:List Tv,(∀v,v∈A↔v∈B)->D A=D B){ks js:List (List (Str×Tv))}(h:∀v,v∈ks↔v∈js):dz D ks=dz D js:=by
 have hn:∀x,x∈aN ks↔x∈aN js:=mD h;have e1:aX (aU ks)=aX (aU js):=CO (rY h);have e2:bD (aU ks)=bD (aU js):=CM (rY h);have e3:bX D ks=bX D js:=by
  funext n;unfold bX
  rw[Kf h,hD (cm n ks) (cm n js) λv=>by
   unfold cm;rw[qt1_,qt1_]
   exact⟨λ⟨a,ha,e⟩=>⟨a,(h a).mp ha,e⟩,λ⟨a,ha,e⟩=>⟨a,(h a).mpr ha,e⟩⟩]
 unfold dz;rw[(gQ hn).1,(gQ hn).2,e1,e2,e3,kC hn,hD (cO ks) (cO js) (mD h)]
theorem KQ{D:List Tv->List Pt}(hD:∀A B:List Tv,(∀v,v∈A↔v∈B)->D A=D B){A B:List Tv}(h:∀v,v∈A↔v∈B)(k:Nat):bF D A k=bF D B k:=by
 unfold bF;split
 ·rw[show dS A=dS B from wV h]
 ·have hb:=kH (f:=fh) h;simp only[mP hb];rw[show b7 (A.filterMap fh)=b7 (B.filterMap fh) from wV hb,show b5 (A.filterMap fh)=b5 (B.filterMap fh) from wV hb]
 ·have hb:=kH (f:=gq) h;simp only[mP hb];rw[Md hb]
 ·have hb:=kH (f:=f7) h;simp only[mP hb];rw[kC hb]
 ·have hb:=kH (f:=b8) h;simp only[mP hb];have e1:aX (cE (A.filterMap b8))=aX (cE (B.filterMap b8)):=CO (rY hb);have e2:bD (cE (A.filterMap b8))=bD (cE (B.filterMap b8)):=CM (rY hb)
  rw[e1,e2,hD (A.filterMap b8).flatten (B.filterMap b8).flatten λv=>by
   rw[qc1_,qc1_]
   exact⟨λ⟨l,hl,e⟩=>⟨l,(hb l).mp hl,e⟩,λ⟨l,hl,e⟩=>⟨l,(hb l).mpr hl,e⟩⟩]
 ·have hb:=kH (f:=d3) h;simp only[mP hb];rw[Kq hD hb]
 ·rfl
theorem mJ:∀(n:Nat) (A B:List Tv),(∀v,v∈A↔v∈B)->bI n A=bI n B
 |0,_,_,_=>rfl
 |n+1,A,B,h=>by
  show kN6.filterMap (bF (bI n) A)=kN6.filterMap (bF (bI n) B);rw[show bF (bI n) A=bF (bI n) B from funext (KQ (mJ n) h)]
theorem pG(n:Nat):bI n []=[]:=by
 cases n with
 |zero=>rfl
 |succ n=>rfl
end L2
namespace My
open PySem L2 PyProof.Rows WordM
def top(i:Nat):Stmt:=PySem.Challenge.pw_leastform_k42_forms_of_any_hand_joined.main.body.getD i (.Pass ⟨0,0,0,0⟩)
abbrev Du:Stmt:=top 4
abbrev Dt:Stmt:=top 5
abbrev Ds:Stmt:=top 6
abbrev Dr:Stmt:=top 7
abbrev wg:Stmt:=top 12
abbrev we:Stmt:=top 13
abbrev Dq:Stmt:=top 14
abbrev Dp:Stmt:=top 15
abbrev vn:Stmt:=top 16
abbrev Do:Stmt:=top 17
abbrev zu:Stmt:=top 18
abbrev zv:Stmt:=top 19
abbrev zw:Stmt:=top 20
abbrev zx:Stmt:=top 21
abbrev zy:Stmt:=top 26
abbrev z_:Stmt:=top 27
abbrev zI:Stmt:=top 28
abbrev zH:Stmt:=top 30
abbrev uK:Stmt:=top 31
abbrev uJ:Stmt:=top 32
abbrev zG:Stmt:=top 33
abbrev uI:Stmt:=top 34
abbrev uH:Stmt:=top 35
abbrev uG:Stmt:=top 36
abbrev qI:Stmt:=top 37
abbrev qH:Stmt:=top 38
abbrev uF:Stmt:=top 39
abbrev zF:Stmt:=top 41
abbrev zE:Stmt:=top 42
abbrev zD:Stmt:=top 43
abbrev zC:Stmt:=top 44
abbrev yo:Stmt:=top 45
abbrev yp:Stmt:=top 46
abbrev yq:Stmt:=top 47
abbrev yZ:Stmt:=top 48
abbrev yY:Stmt:=top 50
abbrev yX:Stmt:=top 51
abbrev oK:Stmt:=top 52
abbrev yW:Stmt:=top 53
abbrev yV:Stmt:=top 54
abbrev oJ:Stmt:=top 55
abbrev oI:Stmt:=top 56
abbrev yr:Stmt:=top 57
abbrev yt:Stmt:=top 58
abbrev yU:Stmt:=top 59
abbrev lW:Stmt:=top 60
abbrev yT:Stmt:=top 61
abbrev yS:Stmt:=top 62
abbrev yR:Stmt:=top 63
abbrev oH:Stmt:=top 64
abbrev qG:Stmt:=top 65
abbrev qF:Stmt:=top 66
abbrev jJ:Stmt:=top 67
section
variable{P:Program}{w:World}{K:W.Frag}{mg:Str->Option Value}{base:Heap}
theorem _root_.L2.On.put{p c:Addr}{H:Hp}(d:bp H p c)(S k:Int):On p c H (au H p (.lst [.ref c,.int S,.int k])):=by
 obtain⟨ns,e',l⟩:=d.cs;exact⟨⟨d.ne,⟨S,k,bJ⟩,ns,by rw[bR d.ne.symm];exact e',l⟩,λb o h hp _=>by rw[bR hp];exact h⟩
theorem _root_.L2.On.cut{p c:Addr}{H:Hp}(d:bp H p c)(ns:List Int)(h:ns.length<=64):On p c H (au H c (.lst (ns.map V.int))):=by
 obtain⟨S,k,e⟩:=d.dk;exact⟨⟨d.ne,⟨S,k,by rw[bR d.ne];exact e⟩,ns,bJ,h⟩,λb o h _ hc=>by rw[bR hc];exact h⟩
theorem KU(ns:List Int):(ns.map V.int).all eE=true:=by
 rw[qh];exact qB1_.mpr λ_ _=>rfl
theorem Kt(ns:List Int):gY (ns.map V.int) []=ns.isEmpty:=by cases ns<;>rfl
theorem sc_mixed:dP OB OB (aY zF):=lg (by decide +kernel)
theorem Jc(h:ao K mg "_law_mixed" zF):dq P w K mg base 1 "_law_mixed" OB B9:=by
 refine h.good sc_mixed (fun|_,_,_,_,_,_,[_,_],_=>rfl) (λvs H Q E q=>?_) (λf OV A outer s H vs Q E hr q=>?_)
 ·obtain⟨n,k,rfl,_⟩:=q;rfl
 ·obtain⟨n,k,rfl,q⟩:=q;have nd:=sc_mixed.nd
  refine⟨_,(jA (lG (i:=0) nd rfl (by first|exact Or.inl rfl|exact Or.inr rfl) (cN jQ (cN op_mul (cN op_add (cN op_add (cN jQ (pv 0) cJ) (cN op_mul cJ (pv 1))) cJ) cJ) cJ))
   (jA (lG (i:=0) nd rfl (by first|exact Or.inl rfl|exact Or.inr rfl) (cN jQ (cN op_add (cN op_add (cN op_mul (pv 0) (pv 0)) (cN op_mul cJ (pv 1))) cJ) cJ))
   (mZ (nJ (cN Al (cN jQ (cN op_mul (cN op_add (cN op_mul (cN jQ (pv 0) cJ) cJ) (cN Al (pv 0) cJ)) cJ) cJ) cJ))))),?_⟩
  refine⟨_,rfl,_,_,rfl,rfl,(by show(0:Int)<_;decide),_,rfl,_,_,rfl,rfl,.inl ⟨by decide,by decide⟩,_,_,rfl,rfl,_,_,rfl,rfl,_,_,rfl,rfl,.inr ⟨by decide,by decide⟩,_,_,rfl,rfl,(by show(0:Int)<_;decide),?_⟩;refine⟨_,rfl,_,rfl,_,_,rfl,rfl,?c,_,rfl,_,_,rfl,rfl,.inl ⟨by decide,by decide⟩,_,_,rfl,rfl,_,_,rfl,rfl,_,_,rfl,rfl,(by show(0:Int)<_;decide),?_⟩
  case c=>
   refine .inl ⟨?_,?_⟩
   ·exact r9 (by decide) (jh _ (by decide))
   ·exact Int.lt_trans (ji _ (by decide)) (by decide)
  refine⟨_,rfl,_,_,rfl,rfl,(by show(0:Int)<_;decide),_,_,rfl,rfl,.inr ⟨by decide,by decide⟩,_,rfl,_,_,rfl,rfl,⟨by decide,by decide⟩,_,_,rfl,rfl,_,_,rfl,rfl,.inr ⟨by decide,by decide⟩,_,_,rfl,rfl,(by show(0:Int)<_;decide),_,_,rfl,rfl,⟨by decide,by decide⟩,?_⟩;exact q _
theorem sc_deck:dP ["_law_script","_law_cells"] Ow (aY zE):=lg (by decide +kernel)
theorem Fz(ns:List Int):gZ (ns.map V.int) none (some 63)=(ns.take 63).map V.int:=by
 unfold gZ;have e1:HT.sIx (ns.map V.int).length 0 none=0:=rfl;rw[e1,oo,Nat.sub_zero,List.map_take];by_cases h:ns.length<=63
 ·rw[nq (by simp[HT.sIx]<;>omega),nq (by simpa using h)]
 ·congr 1;simp[HT.sIx]<;>omega
theorem GL(h:ao K mg "_law_deck" zE)(B:Own mg):dq P w K mg base 1 "_law_deck" Ow (AI K):=by
 refine h.good sc_deck (fun|_,_,_,_,_,_,[_],_=>rfl) (λvs H Q E q=>?_) (λf OV A outer s H vs Q E hr q=>?_)
 ·obtain⟨a,ns,rfl,_⟩:=q;rfl
 ·obtain⟨a,ns,rfl,hS,q⟩:=q;have nd:=sc_deck.nd
  refine⟨_,(jA (lG (i:=1) nd rfl (by first|exact Or.inl rfl|exact Or.inr rfl) (fS CD rfl B.list_ boot_list (cM (Bj sl_list (pv 0) Av (Aw cJ)) cW)))
   (mZ (nJ (@Ao _ _ _ _ (@zJ _ _ _ _ _ (Ie (pv 1) (zo AQ cJ)) (@zJ _ _ _ _ _ (cN op_add (iD (LH rfl) rfl B.sum boot_sum (cM (pv 1) cW)) (cN op_mul cJ (iD call_len_seq rfl B.len du (cM (pv 1) cW)))) (@zJ _ _ _ _ _ cJ Ba rfl) rfl) rfl))))),?_⟩
  refine⟨_,rfl,_,rfl,a,_,rfl,hS,λl1 h1=>?_⟩;have e1:au H l1 (.lst (gZ (ns.map V.int) none (some 63)))=au H l1 (.lst ((ns.take 63).map V.int)):=by rw[Fz]
  rw[e1];refine⟨l1,_,rfl,.inl (bx.of bJ),λl2 h2=>?_⟩;refine⟨_,rfl,_,rfl,rfl,l2,_,rfl,bx.of bJ,λl3 h3=>?_⟩;have n23:l2≠l3:=eI bJ h3;refine⟨_,rfl,l2,ns.take 63,rfl,bx.of (by rw[bR n23];exact bJ),_,rfl,l2,_,rfl,.inl (bx.of (by rw[bR n23];exact bJ)),_,_,rfl,rfl,.inl ⟨by decide,by decide⟩,_,_,rfl,rfl,(by show 3<=sizeLine;decide),λl4 h4=>?_⟩;have n34:l3≠l4:=eI bJ h4;have f1:∀b o,H b=some o->au H l1 (.lst ((ns.take 63).map V.int)) b=some o:=λb o e=>by rw[bR (eI e h1)];exact e
  have s1:aw H (au H l1 (.lst ((ns.take 63).map V.int))):=f1;have s2:aw H (au (au H l1 (.lst ((ns.take 63).map V.int))) l2 (.lst ((ns.take 63).map V.int))):=λb o e=>by rw[bR (eI (s1 b o e) h2)];exact s1 b o e
  have s3:aw H (au (au (au H l1 (.lst ((ns.take 63).map V.int))) l2 (.lst ((ns.take 63).map V.int))) l3 (.lst ((ns.take 63).map V.int).reverse)):=λb o e=>by rw[bR (eI (s2 b o e) h3)];exact s2 b o e
  refine q l4 l3 _ (s3.free h4) (s2.free h3) ⟨n34.symm,⟨_,_,bJ⟩,(ns.take 63).reverse,?_,?_⟩ λb o e=>?_
  ·rw[bR n34,bJ,List.map_reverse]
  ·rw[sf,fu];omega
  ·rw[bR (eI (s3 b o e) h4)];exact s3 b o e
theorem sc_take:dP ["_law_deck_here","_law_most","_law_cell"] Oj (aY zD):=lg (by decide +kernel)
theorem GM(h:ao K mg "_law_take" zD)(PF:dq P w K mg base 1 "_law_mixed" OB B9):dq P w K mg base 2 "_law_take" Oj AJ:=by
 refine h.good sc_take (fun|_,_,_,_,_,_,[_,_],_=>rfl) (λvs H Q E q=>?_) (λf OV A outer s H vs Q E hr q=>?_)
 ·obtain⟨p,c,m,rfl,_⟩:=q;rfl
 ·obtain⟨p,c,m,rfl,d,hm,hB,q⟩:=q;have nd:=sc_take.nd;have hu:=Nat.lt_of_succ_lt (yL hr);obtain⟨hne,⟨S,k,hp⟩,ns,hc,hl⟩:=id d
  refine⟨_,(jA (A9 (cN op_add (jU ix_list (pv 0) cJ (λ_ _=>rfl)) cJ) (Il (pv 0) cJ LO))
   (jA (yJ (xD (Ge hu) (jU ix_list (pv 0) cJ (λ_ _=>rfl)) (@Ao _ _ _ _ Ba) (nP _))
    (mZ (nJ (cN jQ (tS PF (hr.mono (by first|decide|omega)) rfl (cM (jU ix_list (pv 0) cJ (λ_ _=>rfl)) (cM (jU ix_list (pv 0) cJ (λ_ _=>rfl)) cW))) (pv 1))))
    xG)
   (jA (lG (i:=2) nd rfl (by first|exact Or.inl rfl|exact Or.inr rfl) (Gq PySem.F.plainAttrs_list PySem.F.slot_list_pop PySem.F.type_list_pop Gb (jU ix_list (pv 0) cJ (λ_ _=>rfl))))
   (jA (yJ (xD op_lt (pv 2) (cN yl cJ cJ) (nP _))
    (mZ (nJ (cN jQ (tS PF (hr.mono (by first|decide|omega)) rfl (cM (pv 2) (cM (jU ix_list (pv 0) cJ (λ_ _=>rfl)) cW))) (pv 1))))
    xG)
   (jA (Ax (qB PySem.F.plainAttrs_list PySem.F.slot_list_append PySem.F.type_list_append vP (jU ix_list (pv 0) cJ (λ_ _=>rfl)) (cM (cN Bf (pv 2) (pv 1)) cW)))
   (mZ (nJ (cN jQ (pv 2) (pv 1))))))))),?_⟩
  -- deck[2]=deck[2]+1
  refine⟨_,rfl,p,_,_,_,rfl,rfl,bx.of hp,rfl,_,_,rfl,rfl,_,rfl,p,_,_,2,rfl,rfl,hp,rfl,?_⟩;have o1:On p c H (au H p (.lst [.ref c,.int S,.int (k+1)])):=On.put d S (k+1);have hc1:au H p (.lst [.ref c,.int S,.int (k+1)]) c=some (.lst (ns.map V.int)):=by rw[bR hne.symm];exact hc
  -- if deck[0]==[]
  refine⟨_,rfl,p,_,_,_,rfl,rfl,bx.of bJ,rfl,g6 _,λl hfree=>?_⟩;have npl:p≠l:=(o1.d.nep hfree).symm;have ncl:c≠l:=(o1.d.nec hfree).symm;have o2:=o1.alloc (o:=.lst []) hfree;have hp2:au (au H p (.lst [.ref c,.int S,.int (k+1)])) l (.lst []) p=some (.lst [.ref c,.int S,.int (k+1)]):=by rw[bR npl];exact bJ
  have hc2:au (au H p (.lst [.ref c,.int S,.int (k+1)])) l (.lst []) c=some (.lst (ns.map V.int)):=by rw[bR ncl];exact hc1
  refine⟨c,l,_,[],rfl,rfl,bx.of hc2,bx.of bJ,KU ns,rfl,_,rfl,?_⟩;rw[show(if false=true then !gY (ns.map V.int) [] else gY (ns.map V.int) [])=ns.isEmpty from Kt ns];have fin:∀r H',On p c H H'->Q (.int (r % m)) H':=λr H' o=>q (r % m) H' (jh _ (by omega)) (ji _ hm) o
  rcases List.eq_nil_or_concat ns with e|⟨init,z,e⟩
  ·subst e;refine cT ?_;refine⟨_,rfl,p,_,_,_,rfl,rfl,bx.of hp2,rfl,_,rfl,p,_,_,_,rfl,rfl,bx.of hp2,rfl,_,_,rfl,λr=>?_⟩;exact⟨_,rfl,_,_,rfl,rfl,hm,fin r _ o2⟩
  ·rw[List.concat_eq_append]at e;subst e;rw[show(init++[z]).isEmpty=false by simp];refine bH ?_;have hlast:((init++[z]).map V.int)[((init++[z]).map V.int).length-1]?=some (.int z):=by simp
   have hdrop:((init++[z]).map V.int).dropLast=init.map V.int:=by simp
   -- cell=deck[0].pop()
   refine⟨_,rfl,p,_,_,_,rfl,rfl,bx.of hp2,rfl,.inl ⟨rfl,_,bx.of hc2⟩,c,_,_,rfl,rfl,hc2,hlast,?_⟩;rw[hdrop];have hli:init.length<=63:=by rw[bw,j7]at hl;omega
   have o3:=o2.trans (On.cut o2.d init (by omega));have hp3:au (au (au H p (.lst [.ref c,.int S,.int (k+1)])) l (.lst [])) c (.lst (init.map V.int)) p=some (.lst [.ref c,.int S,.int (k+1)]):=by rw[bR hne];exact hp2
   -- if cell<10 ** 18
   refine⟨_,rfl,_,_,rfl,rfl,⟨by decide,by decide,by decide⟩,_,_,rfl,rfl,_,rfl,?_⟩;refine DV (λ_=>?_) (λ_=>?_)
   ·refine⟨_,rfl,_,rfl,p,_,_,_,rfl,rfl,bx.of hp3,rfl,_,_,rfl,λr=>?_⟩;exact⟨_,rfl,_,_,rfl,rfl,hm,fin r _ o3⟩
   ·refine⟨_,rfl,p,_,_,_,rfl,rfl,bx.of hp3,rfl,.inl ⟨rfl,_,bx.of bJ⟩,_,rfl,_,rfl,_,_,rfl,rfl,⟨hm,hB⟩,c,_,_,rfl,rfl,bJ,Mp (by rw[ak];omega),?_⟩;rw[show init.map V.int++[V.int (z / m)]=(init++[z / m]).map V.int by simp];have o4:=o3.trans (On.cut o3.d (init++[z / m]) (by rw[bw,j7];omega));exact⟨_,rfl,_,rfl,_,_,rfl,rfl,hm,fin z _ o4⟩
def sE:bz:=λas R=>as=[]/\R (sT d6)
theorem u_:dP ["_law_signs_here"] [] (aY zC):=lg (by decide +kernel)
theorem Ek(h:ao K mg "_law_signs" zC)(B:Own mg)    : ae P w K mg base 1 "_law_signs" [] sE:=by
 have nd:=u_.nd
 refine h.pgood u_ (fun|_,_,_,_,_,_,[],_=>rfl) (λf OV A outer s H E F hr=>
   (aI (aW 0 nd bB)
   (aO (aT (bC bY (aD 0) bB))))) (λas R q=>?_)
 obtain⟨rfl,q⟩:=q;exact⟨rfl,show sigA.length+sigB.length<=100000 by decide +kernel,q⟩
def pS:bz:=λas R=>∃m:Int,as=[.dk,.va (iT m)]/\0<=m/\m<=1000/\∀x:Str,Sg x->(x.length:Int)<=m->R (sT x)
theorem GC{z:Str}{r:Int}(h0:0<=r)(h1:r<z.length):∃c,j_ z.cps.toList r=some c/\c∈cs z:=by
 have hl:r.toNat<(cs z).length:=by rw[<-WordM.len];omega
 refine⟨(cs z)[r.toNat],?_,j6 hl⟩;have:=aR (xs:=cs z) (j:=r.toNat) (b9 hl);rw[show((r.toNat:Nat):Int)=r by omega]at this;exact this
theorem lZ{α:Type}{l:List α}{r:Int}(h0:0<=r)(h1:r<l.length):∃m,j_ l r=some m/\m∈l:=by
 have hl:r.toNat<l.length:=by omega
 refine⟨l[r.toNat],?_,j6 hl⟩;have:=aR (xs:=l) (j:=r.toNat) (b9 hl);rw[show((r.toNat:Nat):Int)=r by omega]at this;exact this
theorem El(h:ao K mg "_law_text" yo)(B:Own mg)(Pd:ae P w K mg base 1 "_law_signs" [] sE)(OU:ae P w K mg base 2 "_law_take" Oj gB)   : ae P w K mg base 3 "_law_text" Oj pS:=by
 refine h.pg2 ["_law_deck_here","_law_most","_law_signs_here","_law_some","_law_text_here","_law_k"] (λnd hr=>
   (aI (aW 2 nd (AN Pd (hr.mono (by omega)) rfl))
   (aI (aW 3 nd (aJ hr (bM (cQ (aC (aD 2) (aC (aD 2) (aC bB (aC bB (aC bB (aC bB aE)))))))) (aL OU hr (bS 0 (aC aG aE)))))
   (aI (aW 4 nd bB)
   (aI (fZ (m:=6) jr rfl (kD rfl B.range (aC (aL OU hr (bS 0 (aC (bC bY (aD 1) aG) aE))) aE)) (dD 5 (by decide) nd rfl (.inl rfl))
    (aO (aW 4 nd (bC bY (aD 4) (aJ hr (aD 3) (aL OU hr (bS 0 (aC (bK cF rfl B.len du (aC (aD 3) aE)) aE))))))))
   (aO (aT (aD 4)))))))) (λas R q=>?_)
 obtain⟨m,rfl,m0,m1,q⟩:=q;refine⟨rfl,rfl,?_⟩;refine⟨by decide,rfl,6,rfl,by decide,bW (by decide) (by decide),λr r0 r6=>?_⟩;obtain⟨z,hz,hzm⟩:=lZ (l:=[sT d6,sT d6,sT "0123456789",sT "abc",sT "XYZ",sT "a1"]) r0 r6;refine⟨z,hz,?_⟩;have hzs:∃y,z=sT y/\Sg y/\0<y.length/\y.length<=100:=by
  simp only[qe_,b_,or_false]at hzm;rcases hzm with e|e|e|e|e|e<;>subst e
  ·exact⟨_,rfl,λ_ h=>h,by decide +kernel,by decide +kernel⟩
  ·exact⟨_,rfl,λ_ h=>h,by decide +kernel,by decide +kernel⟩
  ·exact⟨_,rfl,by decide +kernel,by decide +kernel,by decide +kernel⟩
  ·exact⟨_,rfl,by decide +kernel,by decide +kernel,by decide +kernel⟩
  ·exact⟨_,rfl,by decide +kernel,by decide +kernel,by decide +kernel⟩
  ·exact⟨_,rfl,by decide +kernel,by decide +kernel,by decide +kernel⟩
 clear hz hzm;obtain⟨y,rfl,y1,y2,y3⟩:=hzs;refine⟨rfl,m+1,rfl,by omega,bW (by omega) (by omega),λn n0 n1=>⟨n,rfl,by omega,by omega,?_⟩⟩;refine kZ (λi ρ=>∃(x:Str) (s:Sl),Sg x/\x.length=i/\ρ=[.dk,.va (iT m),.va (sT d6),.va (sT y),.va (sT x),s]) ⟨⟨#[]⟩,.no,HY,rfl,rfl⟩ ?_ ?_
 ·rintro i T _ N hT ⟨x,s,sx,lx,rfl⟩ hN;have hi:=(mM hT).1;refine⟨rfl,by omega,?_⟩;refine⟨y.length,rfl,by omega,bW (by omega) (by omega),λk k0 k1=>⟨by omega,?_⟩⟩;obtain⟨c,hc,hcm⟩:=GC (z:=y) k0 k1;refine⟨c,hc,by show x.length+1<=100000;omega,hN _ ⟨x++⟨#[c]⟩,_,sx.app (y1.one hcm),?_,rfl⟩⟩;rw[WordM.len,WordM.app,bw,<-WordM.len,lx];rfl
 ·rintro _ ⟨x,s,sx,lx,rfl⟩;refine q x sx ?_;rw[lx,iC];omega
theorem HZ(a:Int):Sg ⟨#[gG a]⟩:=λcc hc=>by
 have e:cc=gG a:=by simpa using hc
 rw[e];exact Mm _
def xf(m:Int)(ss:List Str):Prop:=ss.Nodup/\∀s∈ss,Sg s/\(s.length:Int)<=(if m<1 then 1 else m)
def wH:bz:=λas R=>∃n m:Int,as=[.dk,.va (iT n),.va (iT m)]/\0<=n/\n<=63/\0<=m/\m<=1000/\∀ss:List Str,(ss.length:Int)=n->xf m ss->R (.seq false (ss.map sT))
theorem Em(h:ao K mg "_law_unlike" yp)(B:Own mg)(Pd:ae P w K mg base 1 "_law_signs" [] sE)(O_:ae P w K mg base 3 "_law_text" Oj pS)   : ae P w K mg base 4 "_law_unlike" OF wH:=by
 refine h.pg3 ["_law_deck_here","_law_many","_law_most","_law_signs_here","_law_found","_law_k","_law_text_here","_law_at"] (λnd hr=>
   (aI (aW 3 nd (AN Pd (hr.mono (by omega)) rfl))
   (aI (kQ 4 nd (cQ aE))
   (aI (fZ (m:=8) jr rfl (kD rfl B.range (aC (aD 1) aE)) (dD 5 (by decide) nd rfl (.inl rfl))
    (aI (aW 6 nd (aL O_ hr (bS 0 (aC (aD 2) aE))))
    (aI (aW 7 nd (sU PySem.F.slot_str_find PySem.F.type_str_find IC (aD 3) (aC (iY jG (aD 6) jC (jB aG)) aE)))
    (aI (pB jr (KJ λF=>(eP (nU hr.units) (aD 6) (aD 4) rfl))
     (aI (aW 7 nd (bC sX (bC bY (aD 7) aG) (bK cF rfl B.len du (aC (aD 3) aE))))
     (aO (aW 6 nd (bC bY (aJ hr (aD 3) (aD 7)) (iY jG (aD 6) (jB aG) jC))))))
    (aO (kF (mI 4 (aD 6))))))))
   (aO (aT (aD 4))))))) (λas R q=>?_)
 obtain⟨n,m,rfl,n0,n63,m0,m1,q⟩:=q;have hsl:d6.length=94:=xB;refine⟨rfl,rfl,by decide,n,rfl,by omega,by omega,?_⟩;refine kZ (λi ρ=>∃(ss:List Str) (s5 s6 s7:Sl),ss.length=i/\xf m ss/\ρ=[.dk,.va (iT n),.va (iT m),.va (sT d6),.own (ss.map sT),s5,s6,s7]) ⟨[],.no,.no,.no,rfl,⟨mh,λs hs=>nomatch hs⟩,rfl⟩ ?_ ?_
 ·rintro i T _ N hT ⟨ss,s5,s6,s7,hlen,htx,rfl⟩ hN;obtain⟨hi,rfl⟩:=mM hT;refine⟨rfl,m,rfl,m0,m1,λx0 sx0 hx0=>?_⟩;refine⟨rfl,1,rfl,by omega,d6,_,rfl,rfl,λa0=>?_⟩
  let r:Str:=Txt.slice x0 (some 1) none
  have hr1:r.length+1<=(if x0.length<1 then 1 else x0.length):=Mf x0;have sr:Sg r:=sx0.slice _ _
  refine⟨λM ρ=>∃(j:Nat) (x:Str),M+j=ss.length+2/\j<=ss.length+1/\(∀i,1<=i->i<j->gI a0 r i∈ss)/\(j=0/\x=x0\/1<=j/\x=gI a0 r j) /\
    ρ=[.dk,.va (iT n),.va (iT m),.va (sT d6),.own (ss.map sT),.va (iT (0+(i:Int))),.va (sT x),.va (iT (if j=0 then a0 else(a0+j) % 94))],
   ⟨ss.length+2,0,x0,rfl,g6 _,λi h1 h2=>absurd h2 (qg _),.inl ⟨rfl,rfl⟩,rfl⟩,?_⟩
  rintro M _ ⟨j,x,hM,hj,htr,hx,rfl⟩;have hxl:Sg x/\(x.length:Int)<=(if m<1 then 1 else m)/\Txt.slice x (some 1) none=r:=by
   rcases hx with⟨_,rfl⟩|⟨_,rfl⟩
   ·refine⟨sx0,?_,rfl⟩;split<;>omega
   ·refine⟨Sg.app (HZ _) sr,?_,Mg⟩;have:(gI a0 r j).length=r.length+1:=by
     unfold gI;rw[WordM.len,WordM.app,WordM.len,bw];simp;omega
    rw[this];split at hr1<;>split<;>omega
  obtain⟨sx,hxm,hxr⟩:=hxl;have hx1000:x.length<=1000:=by split at hxm<;>omega
  refine⟨JJ,_,rfl,?_⟩;rw[Hy];refine kh (λh1=>?_) (λh1=>?_)
  ·have h1:x∈ss:=by simpa using h1
   have hall:∀i,1<=i->i<=j->gI a0 r i∈ss:=λi i1 i2=>by
    rcases om i2 with z|z
    ·exact htr i i1 z
    ·rcases hx with⟨z0,_⟩|⟨_,e⟩
     ·omega
     ·rw[z,<-e];exact h1
   have hjs:j<=ss.length:=Lg (by omega) hall;have hmod:((if j=0 then a0 else(a0+(j:Int)) % 94)+1) % 94=(a0+((j+1:Nat):Int)) % 94:=by
    split
    ·rename_i z;subst z;congr 1
    ·push_cast;omega
   have hsl':((d6.length:Nat):Int)=94:=by rw[hsl];rfl
   have e1:((if j=0 then a0 else(a0+(j:Int)) % 94)+1) % ((d6.length:Nat):Int)=(a0+((j+1:Nat):Int)) % 94:=by rw[hsl',hmod]
   have hat:j_ d6.cps.toList (((if j=0 then a0 else(a0+(j:Int)) % 94)+1) % ((d6.length:Nat):Int))=some (gG (a0+((j+1:Nat):Int))):=by
    rw[e1];have b1:=ji (a0+((j+1:Nat):Int)) (show(0:Int)<94 by decide);have b2:=jh (a0+((j+1:Nat):Int)) (show(94:Int)≠0 by decide);have hlt:((a0+((j+1:Nat):Int)) % 94).toNat<(cs d6).length:=by rw[<-WordM.len];omega
    have:=aR (xs:=cs d6) (j:=((a0+((j+1:Nat):Int)) % 94).toNat) (b9 hlt);rw[show((((a0+((j+1:Nat):Int)) % 94).toNat:Nat):Int)=(a0+((j+1:Nat):Int)) % 94 by omega]at this;rw[this];unfold gG;rw[ki,b9 hlt];rfl
   refine⟨by omega,by omega,by omega,_,hat,1,rfl,by omega,?_,?_⟩
   ·show 1+(Txt.slice x (some 1) none).length<=100000;rw[hxr];split at hr1<;>omega
   ·refine⟨ss.length+2-(j+1),by omega,j+1,gI a0 r (j+1),by omega,by omega,λi i1 i2=>hall i i1 (by omega),.inr ⟨by omega,rfl⟩,?_⟩;show [Sl.dk,.va (iT n),.va (iT m),.va (sT d6),.own (ss.map sT),.va (iT (0+(i:Int))),.va (sT ((⟨#[gG (a0+((j+1:Nat):Int))]⟩:Str)++Txt.slice x (some 1) none)),.va (iT (((if j=0 then a0 else(a0+(j:Int)) % 94)+1) % ((d6.length:Nat):Int)))]=_;rw[e1,if_neg (by omega),hxr];rfl
  ·have h1:x∉ss:=by simpa using h1
   refine⟨⟨_,rfl⟩,_,rfl,by rw[ak];omega,hN _ ⟨ss++[x],.va (iT (0+(i:Int))),.va (sT x),.va (iT (if j=0 then a0 else(a0+j) % 94)),by rw[bw,hlen];rfl,⟨?_,λs hs=>?_⟩,?_⟩⟩
   ·rw[qe];exact⟨htx.1,by simp,λa ha b hb=>by rw[qJ_]at hb;subst hb;rintro rfl;exact h1 ha⟩
   ·rcases qj_.mp hs with z|z
    ·exact htx.2 s z
    ·rw[qJ_]at z;subst z;exact⟨sx,hxm⟩
   ·rw[gb];rfl
 ·rintro _ ⟨ss,s5,s6,s7,hlen,htx,rfl⟩;rw[iC]at hlen;exact q ss (by omega) htx
def yH:bz:=λas R=>as=[.dk]/\∀r:Int,-(10 ^ 60)<r->r<10 ^ 60->R (iT r)
theorem En(h:ao K mg "_law_far" yq)(B:Own mg)(OU:ae P w K mg base 2 "_law_take" Oj gB)   : ae P w K mg base 3 "_law_far" Oo yH:=by
 refine h.pg1 ["_law_deck_here","_law_number_here","_law_k"] (λnd hr=>
   (aI (aW 1 nd aG)
   (aI (fZ (m:=3) jr rfl (kD rfl B.range (aC aG aE)) (dD 2 (by decide) nd rfl (.inl rfl))
    (aO (aW 1 nd (bC bY (bC jN (aD 1) (bC pR aG aG)) (aL OU hr (bS 0 (aC (bC pR aG aG) aE)))))))
   (aO (aT (bC bY (bC gU (bC sX (aD 1) (bC gU (bC jN aG (bC pR aG aG)) aG)) (bC pR aG aG)) aG)))))) (λas R q=>?_)
 obtain⟨rfl,q⟩:=q;refine⟨rfl,8,rfl,by decide,by decide,?_⟩;refine kZ (λi ρ=>∃(x:Int) (s:Sl),0<=x/\x<10 ^ (8*i)/\ρ=[.dk,.va (iT x),s]) ⟨0,.no,by decide,by decide,rfl⟩ ?_ ?_
 ·rintro i T _ N hT ⟨x,s,x0,x1,rfl⟩ hN;obtain⟨hi,rfl⟩:=mM hT;have hi:i<8:=hi
  have xb:x<10 ^ 64:=r9 x1 (by
   have:i=0\/i=1\/i=2\/i=3\/i=4\/i=5\/i=6\/i=7:=by omega
   rcases this with e|e|e|e|e|e|e|e<;>subst e<;>decide)
  refine⟨⟨by decide,by decide,by decide⟩,.inr ⟨bW (by omega) (by omega),bW (by decide) (by decide)⟩,rfl,⟨by decide,by decide,by decide⟩,10 ^ 8,rfl,by decide,bW (by decide) (by decide),λr r0 r1=>hN _ ⟨_,_,?_,?_,rfl⟩⟩
  ·show 0<=x*(10 ^ 8:Int)+r;omega
  ·show x*(10 ^ 8:Int)+r<10 ^ (8*(i+1));have e:(10:Int) ^ (8*(i+1))=10 ^ (8*i)*10 ^ 8:=by rw[Nat.mul_add,Int.pow_add]
   rw[e];have h8:r<(10:Int) ^ 8:=r1;generalize (10:Int) ^ (8*i)=y at x1;omega
 ·rintro _ ⟨x,s,x0,x1,rfl⟩;refine⟨⟨by decide,by decide,by decide⟩,.inl (.inl ⟨by decide,by decide⟩),(show(0:Int)<2*10 ^ 60-1 by decide),⟨by decide,by decide,by decide⟩,?_⟩;have h1:=jh x (show(2*10 ^ 60-1:Int)≠0 by decide);have h2:=ji x (show(0:Int)<2*10 ^ 60-1 by decide);refine q _ ?_ ?_
  ·show -(10 ^ 60)<x % (2*10 ^ 60-1)-10 ^ 60+1;omega
  ·show x % (2*10 ^ 60-1)-10 ^ 60+1<10 ^ 60;omega
structure nF (nm tx:List Str) (st sp:Int):Prop where
 n11:nm.length=11
 t9:tx.length=9
 nd:nm.Nodup
 ndt:tx.Nodup
 ns:∀s∈nm,Sg s/\s.length<=40
 ts:∀s∈tx,Sg s/\s.length<=43
 st1:-(10 ^ 57)<=st
 st2:st<=10 ^ 57
 sp1:1<=sp
 sp2:sp<=10 ^ 20
def eO(nm tx:List Str)(st sp:Int):Tv:=.seq false [.seq false (nm.map sT),.seq false (tx.map sT),iT st,iT sp]
def xE:bz:=λas R=>as=[.dk]/\∀nm tx st sp,nF nm tx st sp->R (eO nm tx st sp)
theorem Hz{a b c:Str}(h:a++b=a++c):b=c:=by
 have:=congrArg cs h;rw[WordM.app,WordM.app]at this;exact kG (lu this)
theorem Eo(h:ao K mg "_law_world" yZ)(B:Own mg)(OU:ae P w K mg base 2 "_law_take" Oj gB)(Pi:ae P w K mg base 4 "_law_unlike" OF wH)(O_:ae P w K mg base 3 "_law_text" Oj pS)(Pq:ae P w K mg base 3 "_law_far" Oo yH)   : ae P w K mg base 5 "_law_world" Oo xE:=by
 refine h.pg1 OK (λnd hr=>
   (aI (aW 1 nd (aJ hr (bM (cQ (aC aG (aC aG (aC aG (aC aG (aC aG (aC aG (aC aG (aC aG aE)))))))))) (aL OU hr (bS 0 (aC aG aE)))))
   (aI (aW 2 nd (aL Pi hr (bS 0 (aC aG (aC (aD 1) aE)))))
   (aI (aW 3 nd (aL O_ hr (bS 0 (aC (bC jN aG (aL OU hr (bS 0 (aC aG aE)))) aE))))
   (aI (jF (sc:=aY yZ) (XN:=OK) (N:=["_law_text_here","_law_head"]) (fr:=[3]) 4 nd (cD (aL Pi hr (bS 0 (aC aG (aC (aD 1) aE))))) (λ_ _ _ _ _=>jO) (λ_ _ _ _ _=>(bC bY (aD 1) (aD 0))))
   (aI (aW 5 nd (aJ hr (bM (cQ (aC aG (aC aG (aC (tJ sW aG) (aC (bC AA (aL Pq hr (bS 0 aE)) aG) aE)))))) (aL OU hr (bS 0 (aC aG aE)))))
   (aO (aT (bM (cQ (aC (aD 2) (aC (aD 4) (aC (aD 5) (aC (bC bY aG (aL OU hr (bS 0 (aC (aJ hr (bM (cQ (aC aG (aC (bC pR aG aG) aE)))) (aL OU hr (bS 0 (aC aG aE)))) aE)))) aE)))))))))))))) (λas R q=>?_)
 obtain⟨rfl,q⟩:=q;refine⟨rfl,by decide,rfl,8,rfl,by decide,bW (by decide) (by decide),λr r0 r1=>?_⟩;obtain⟨M,hM,hMm⟩:=lZ (l:=[iT 4,iT 3,iT 5,iT 1,iT 4,iT 3,iT 6,iT 40]) r0 r1;have hm:∃m:Int,M=iT m/\1<=m/\m<=40:=by
  simp only[qe_,b_,or_false]at hMm;rcases hMm with e|e|e|e|e|e|e|e<;>subst e<;>exact⟨_,rfl,by decide,by decide⟩
 obtain⟨m,rfl,m1,m2⟩:=hm;refine⟨_,hM,?_⟩;clear hM hMm;refine⟨rfl,11,m,rfl,by decide,by decide,by omega,by omega,λnm hnm tnm=>?_⟩;refine⟨rfl,rfl,2,rfl,by decide,bW (by decide) (by decide),λr2 a0 a1=>⟨.inl (.inl ⟨by decide,by decide⟩),_,rfl,by omega,by omega,λhd shd lhd=>?_⟩⟩;refine⟨rfl,9,m,rfl,by decide,by decide,by omega,by omega,λtx htx ttx=>⟨by rw[ak];omega,?_⟩⟩;have lt:∀s∈tx,Sg s/\s.length<=40:=λs hs=>by
  have:=ttx.2 s hs;refine⟨this.1,?_⟩;have:=this.2;split at this<;>omega
 refine eJ sT (λs=>sT (hd++s)) (λs hs R q=>?_) ?_
 ·have:=(lt s hs).2;exact⟨show hd.length+s.length<=100000 by omega,q⟩
 refine⟨rfl,rfl,λfr fr0 fr1=>⟨⟨by decide,bW (by decide) (by decide)⟩,(show 4<=100000 by decide),rfl,4,rfl,by decide,bW (by decide) (by decide),λr3 b0 b1=>?_⟩⟩;obtain⟨S,hS,hSm⟩:=lZ (l:=[iT 0,iT 7,iT (-40),iT (fr / 1000)]) b0 b1;have hs:∃st:Int,S=iT st /\ -(10 ^ 57)<=st/\st<=10 ^ 57:=by
  simp only[qe_,b_,or_false]at hSm;rcases hSm with e|e|e|e<;>subst e
  ·exact⟨_,rfl,by decide,by decide⟩
  ·exact⟨_,rfl,by decide,by decide⟩
  ·exact⟨_,rfl,by decide,by decide⟩
  ·exact⟨_,rfl,by omega,by omega⟩
 obtain⟨st,rfl,st1,st2⟩:=hs;refine⟨_,hS,?_⟩;clear hS hSm;refine⟨rfl,⟨by decide,by decide,by decide⟩,by decide,rfl,2,rfl,by decide,bW (by decide) (by decide),λr4 c0 c1=>?_⟩;obtain⟨W,hW,hWm⟩:=lZ (l:=[iT 6,iT (10 ^ 20)]) c0 c1;have hw:∃wi:Int,W=iT wi/\1<=wi/\wi<=10 ^ 20:=by
  simp only[qe_,b_,or_false]at hWm;rcases hWm with e|e<;>subst e<;>exact⟨_,rfl,by decide,by decide⟩
 obtain⟨wi,rfl,w1,w2⟩:=hw;refine⟨_,hW,wi,rfl,by omega,bW (by omega) (by omega),λsp sp0 sp1=>⟨(show 4<=100000 by decide),?_⟩⟩;have:=q nm (tx.map λs=>hd++s) st (1+sp) ⟨by omega,by rw[ak];omega,tnm.1,?_,λs hs=>?_,λs hs=>?_,st1,st2,by omega,by omega⟩
 ·show R (.seq false [.seq false (nm.map sT),.seq false (tx.map λs=>sT (hd++s)),iT st,iT (1+sp)]);rw[eO,dh]at this;exact this
 ·unfold List.Nodup;rw[i8];exact ttx.1.imp λh e=>h (Hz e)
 ·have:=tnm.2 s hs;refine⟨this.1,?_⟩;have:=this.2;split at this<;>omega
 ·obtain⟨z,hz,rfl⟩:=qd_.mp hs;refine⟨shd.app (lt z hz).1,?_⟩;rw[WordM.len,WordM.app,bw,<-WordM.len,<-WordM.len];have:=(lt z hz).2;omega
theorem yi{a b:Int}(h1:1<=a)(h2:a<=10 ^ 20)(h3:-100<=b)(h4:b<=100):-(10 ^ 22)<=a*b/\a*b<=10 ^ 22:=by
 have e1:a*b<=a*100:=uq h4 (by omega);have e2:a*(-100)<=a*b:=uq h3 (by omega);omega
def vO:bz:=λas R=>∃x m:Str,as=[.va (sT x),.va (sT m)]/\m∈MK/\x.length<=4000/\R (bT (jY x m))
theorem Oa(h:ao K mg "has_mark" wg)(B:Own mg)(GSIGNS:qD K w.params mg "SIGNS" t_)  : ae P w K mg base 1 "has_mark" Oz vO:=by
 refine h.pg2 Oz (λnd hr=>
   (aO (aT (bK (HG rfl) rfl B.any boot_any (aC (bM (fM (sc:=aY wg) (XN:=Oz) (N:=["sign","mark"]) (fr:=[1]) (cD (aD 0)) (λ_ _ _ _ _=>(gD (nU hr.units).op (aD 0) (xy GSIGNS rfl (aD 1)) rfl)))) aE))))) (λas R q=>?_)
 obtain⟨x,m,rfl,hm,hx,q⟩:=q;obtain⟨S,hS⟩:∃S,getS t_ m=some S:=by
  simp only[MK,qe_,b_,or_false]at hm;rcases hm with e|e|e|e<;>subst e<;>exact⟨_,rfl⟩
 refine⟨rfl,by rw[ak,<-WordM.len];omega,?_⟩;refine eJ (λc=>sT ⟨#[c]⟩) (λc=>bT (decide (c∈cs S))) (λc hc R q=>⟨m,S,rfl,hS,?_⟩) ?_
 ·have e:(false != qk ⟨#[c]⟩ S)=decide (c∈cs S):=by
   unfold qk;rw[StrLaws.found_one];simp
  show R (some (bT (false != qk ⟨#[c]⟩ S))) _;rw[e];exact q
 ·refine⟨(cs x).map λc=>decide (c∈cs S),by rw[dh];rfl,?_⟩;have e:((cs x).map λc=>decide (c∈cs S)).any id=jY x m:=by
   rw[List.any_map,jY,hS];rfl
  rw[e];exact q
def rG:bz:=λas R=>∃x:Str,as=[.va (sT x)]/\x.length<=4000/\R (.seq true ((dN x).map sT))
theorem N_(h:ao K mg "marks_of" we)(B:Own mg)(P3:ae P w K mg base 1 "has_mark" Oz vO)(GMARKS:fW K mg "MARKS" (.seq true (MK.map sT)))  : ae P w K mg base 2 "marks_of" ["text"] rG:=by
 refine h.pg1 ["text"] (λnd hr=>
   (aO (aT (fD fK rfl B.tuple_ boot_tuple (aC (bM (tI (sc:=aY we) (XN:=["text"]) (N:=["mark","text"]) (fr:=[0]) (cD (tK GMARKS rfl)) (λ_ _ _ _ _=>(kK (eF (aL P3 hr (aC (aD 1) (aC (aD 0) aE)))))) (λ_ _ _ _ _=>(aD 0)))) aE))))) (λas R q=>?_)
 obtain⟨x,rfl,hx,q⟩:=q;refine⟨rfl,by decide,?_⟩;refine iA (l:=MK) sT (λm=>if jY x m=true then some (sT m) else none) (λm hm R q=>⟨x,m,rfl,hm,hx,_,rfl,kh (λz=>?_) (λz=>?_)⟩) ?_
 ·rw[if_pos z]at q;exact q
 ·rw[if_neg (by rw[z];exact cq)]at q;exact q
 ·refine⟨false,_,rfl,?_⟩;have e:(MK.filterMap λm=>if jY x m=true then some (sT m) else none)=(dN x).map sT:=by
   unfold dN;generalize MK=l
   induction l with
   |nil=>rfl
   |cons a l ih=>
    rw[gm,List.filter_cons,ih];cases jY x a<;>simp
  rw[e];exact q
variable{n:Nat}
def zW:List (Str×Str):=[("nothing","nothing"),("truths","truth"),("numbers","number"),("texts","text"),("lists","list"),("record","dict"),("table","dict")]
theorem bc{α:Type}{x:α}{r:List α}:j_ (x::r) 0=some x:=aR (j:=0) rfl
theorem wT(p:Pt):∃r,aQ p=.seq true (sT (kN p)::r)/\r.length<=4:=by
 cases p with
 |record a b fs=>exact⟨_,dC a b fs,by simp⟩
 |lists a b f=>exact⟨_,gM a b f,by simp⟩
 |table a b w f=>exact⟨_,eZ a b w f,by simp⟩
 |_=>rw[aQ];exact⟨_,rfl,by simp⟩
theorem F8(p:Pt):getS zW (kN p)=some (fJ (bZ p)):=by
 cases p<;>rfl
def vE:bz:=λas R=>∃p:Pt,as=[.va (aQ p)]/\R (sT (fJ (bZ p)))
theorem EK(h:ao K mg "part_kind" zy)(B:Own mg)(GPART_KINDS:qD K w.params mg "PART_KINDS" zW)  : ae P w K mg base 1 "part_kind" Ol vE:=by
 refine h.pg1 Ol (λnd hr=>
   (aO (aT (xy GPART_KINDS rfl (aJ hr (aD 0) aG))))) (λas R q=>?_)
 obtain⟨p,rfl,q⟩:=q;obtain⟨r,e,_⟩:=wT p;rw[e];exact⟨rfl,_,bc,_,_,rfl,F8 p,q⟩
theorem K5{a b:Nat}(ha:a<=5)(hb:b<=5)(h:fJ a=fJ b):a=b:=by
 have h1:a=0\/a=1\/a=2\/a=3\/a=4\/a=5:=by omega
 have h2:b=0\/b=1\/b=2\/b=3\/b=4\/b=5:=by omega
 rcases h1 with e|e|e|e|e|e<;>subst e<;>rcases h2 with e|e|e|e|e|e<;>subst e<;>first|rfl|exact absurd h (by decide +kernel)
theorem JN(p:Pt):bZ p<=5:=by cases p<;>simp[bZ]
def zP:Option Pt->Tv
 |none=>nT
 |some p=>aQ p
def oX:bz:=λas R=>∃(f:List Pt) (k:Nat),as=[.va (bE f),.va (sT (fJ k))]/\k<=5/\R (zP (f.find? λp=>decide (bZ p=k)))
theorem EL(h:ao K mg "part_for" z_)(B:Own mg)(Pp:ae P w K mg base 1 "part_kind" Ol vE)   : ae P w K mg base 2 "part_for" OA oX:=by
 refine h.pg2 ["form","kind","part"] (λnd hr=>
   (aI (fZ (m:=3) jr rfl (cD (aD 0)) (dD 2 (by decide) nd rfl (.inl rfl))
    (aO (bP (bU hr (aL Pp hr (aC (aD 2) aE)) (aD 1))
     (aO (aT (aD 2)))
     bO)))
   (aO (aT nG)))) (λas R q=>?_)
 obtain⟨f,k,rfl,hk,q⟩:=q;refine⟨rfl,?_⟩;refine lE aQ (l:=f) (λi ρ=>(∀j p,j<i->f[j]?=some p->bZ p≠k)/\∃s,ρ=[.va (bE f),.va (sT (fJ k)),s]) ⟨λj p h=>absurd h (qg _),.no,rfl⟩ ?_ ?_
 ·rintro i p _ N hp ⟨hj,s,rfl⟩ hN;refine⟨p,rfl,_,rfl,qE (λe=>?_) (λe=>?_)⟩
  ·have e:=K5 (JN p) hk e;have:f.find? (λp=>decide (bZ p=k))=some p:=by
    rw[List.find?_eq_some_iff_getElem];obtain⟨hi,rfl⟩:=qB_.mp hp
    exact⟨gp e,i,hi,rfl,λj hj'=>by
     have:=hj j f[j] hj' (b9 (by omega))
     simpa using this⟩
   rw[this]at q;exact q
  ·refine hN _ ⟨λj p' hj' ep=>?_,_,rfl⟩;by_cases z:j=i
   ·subst z;rw[hp]at ep;cases ep;exact λz=>e (by rw[z])
   ·exact hj j p' (by omega) ep
 ·rintro _ ⟨hj,s,rfl⟩;have:f.find? (λp=>decide (bZ p=k))=none:=by
   rw[qG2_];intro p hp;obtain⟨j,hj',rfl⟩:=qm2_.mp hp;simpa using hj j _ hj' (b9 hj')
  rw[this]at q;exact q
open GcdM CutM
theorem dw{N:aV->Prop}{ρ ρ':aV}(e:ρ=ρ')(h:N ρ'):N ρ:=e▸h
def uM(a:R3):Tv:=.seq true [iT a.1,iT a.2.1,iT a.2.2]
def yI:bz:=λas R=>∃a b:Int,as=[.va (iT a),.va (iT b)]/\0<=a/\0<=b/\R (iT (g a b))
theorem Oe(h:ao K mg "divisor_of" Du)(B:Own mg)    : ae P w K mg base 1 "divisor_of" Oh yI:=by
 refine h.pg2 ["one","other","rest"] (λnd hr=>
   (aI (pB jr (nZ hr (aD 1) aG)
    (aI (aW 2 nd (bC sX (aD 0) (aD 1)))
    (aI (aW 0 nd (aD 1))
    (aO (aW 1 nd (aD 2))))))
   (aO (aT (aD 0))))) (λas R q=>?_)
 obtain⟨a,b,rfl,a0,b0,q⟩:=q;refine⟨rfl,λm ρ=>∃(x y:Int) (s:Sl),m=y.toNat/\0<=x/\0<=y/\g x y=g a b/\ρ=[.va (iT x),.va (iT y),s],⟨_,a,b,.no,rfl,a0,b0,rfl,rfl⟩,?_⟩;rintro m _ ⟨x,y,s,rfl,x0,y0,e,rfl⟩;refine⟨_,rfl,kh (λz=>?_) (λz=>?_)⟩
 ·have hy:y≠0:=by simpa[di]using z
  have h1:=jh x hy;have h2:=ji x (show 0<y by omega);exact⟨(show 0<y by omega),_,by omega,y,x % y,_,rfl,y0,h1,(GN (show 0<y by omega)).trans e,rfl⟩
 ·have hy:y=0:=by simpa[di]using z
  subst hy;rw[GO x x0]at e;rw[<-e]at q;exact q
def jI(lo hi st:Int):List Int:=[lo,hi,lo+st]
def vM:bz:=λas R=>∃lo hi st:Int,as=[.va (.seq true [iT lo,iT hi,iT st])]/\R (.seq false ((jI lo hi st).map iT))
theorem Oc(h:ao K mg "telling_numbers" Ds)(B:Own mg)    : ae P w K mg base 1 "telling_numbers" ["run"] vM:=by
 refine h.pg1 ["run"] (λnd hr=>
   (aO (aT (bM (cQ (aC (aJ hr (aD 0) aG) (aC (aJ hr (aD 0) aG) (aC (bC bY (aJ hr (aD 0) aG) (aJ hr (aD 0) aG)) aE)))))))) (λas R q=>?_)
 obtain⟨lo,hi,st,rfl,q⟩:=q;exact⟨rfl,_,rfl,_,rfl,_,rfl,_,rfl,by simp,q⟩
def xF:bz:=λas R=>∃ns:List Int,as=[.va (.seq false (ns.map iT))]/\ns≠[]/\R (uM (cK ns))
theorem Od(h:ao K mg "run_of" Dt)(B:Own mg)(PJ:ae P w K mg base 1 "divisor_of" Oh yI)   : ae P w K mg base 2 "run_of" ["numbers"] xF:=by
 refine h.pg1 ["numbers","lo","step","number"] (λnd hr=>
   (aI (bP (bU hr (bK cF rfl B.len du (aC (aD 0) aE)) aG)
    (aO AS)
    bO)
   (aI (aW 1 nd (bK (fT rfl) rfl B.min boot_min (aC (aD 0) aE)))
   (aI (aW 2 nd aG)
   (aI (fZ (m:=4) jr rfl (cD (aD 0)) (dD 3 (by decide) nd rfl (.inl rfl))
    (aO (aW 2 nd (aL PJ hr (aC (bC gU (aD 3) (aD 1)) (aC (aD 2) aE))))))
   (aO (aT (bQ (aC (aD 1) (aC (bK (gV rfl) rfl B.max boot_max (aC (aD 0) aE)) (aC (aD 2) aE))))))))))) (λas R q=>?_)
 obtain⟨ns,rfl,ne,q⟩:=q;have l0:0<ns.length:=qc2_.mpr ne;refine⟨rfl,_,rfl,cL (λz=>absurd z (by rw[ak];omega)) (λ_=>?_)⟩;refine .inr (.inl ⟨ns,rfl,l0,λlo lo1 lo2=>?_⟩);show av.nx _ _;refine dw (ρ':=[.va (.seq false (ns.map iT)),.va (iT lo),.no,.no]) rfl ?_;have el:lo=aX ns:=(nC lo1 lo2).symm;refine lE iT (l:=ns) (λi ρ=>∃s3:Sl,ρ=[.va (.seq false (ns.map iT)),.va (iT lo),.va (iT ((ns.take i).foldl (λs n=>g (n-lo) s) 0)),s3]) ⟨.no,rfl⟩ ?_ ?_
 ·rintro i a _ N ha ⟨s3,rfl⟩ hN;have h1:=lo2 a (i5 ha);refine⟨a-lo,_,rfl,by omega,qT (me 0),hN _ ⟨.va (iT a),?_⟩⟩;rw[gu,ha,r_];rfl
 ·rintro _ ⟨s3,rfl⟩;rw[jj];refine .inr (.inl ⟨ns,rfl,l0,λhi hi1 hi2=>⟨by simp,?_⟩⟩);have eh:hi=bD ns:=(nD hi1 hi2).symm;subst el eh;exact q
def pU:bz:=λas R=>∃a b:R3,as=[.va (uM a),.va (uM b)]/\Ok a/\Ok b/\R (uM (joinR a b))
theorem Ob(h:ao K mg "run_joined" Dr)(B:Own mg)(PM:ae P w K mg base 2 "run_of" ["numbers"] xF)(PH:ae P w K mg base 1 "telling_numbers" ["run"] vM)   : ae P w K mg base 3 "run_joined" Oh pU:=by
 refine h.pg2 Oh (λnd hr=>
   (aO (aT (aL PM hr (aC (bC bY (aL PH hr (aC (aD 0) aE)) (aL PH hr (aC (aD 1) aE))) aE))))) (λas R q=>?_)
 obtain⟨a,b,rfl,ha,hb,q⟩:=q;refine⟨rfl,a.1,a.2.1,a.2.2,rfl,b.1,b.2.1,b.2.2,rfl,by simp[jI],jI a.1 a.2.1 a.2.2++jI b.1 b.2.1 b.2.2,by rw[gb],by simp[jI],?_⟩;have ne:jI a.1 a.2.1 a.2.2++jI b.1 b.2.1 b.2.2≠[]:=by simp[jI]
 obtain⟨m1,m2⟩:=iF ne;obtain⟨m3,m4⟩:=iG ne;have e:cK (jI a.1 a.2.1 a.2.2++jI b.1 b.2.1 b.2.2)=joinR a b:=K2 ha hb m1 m2 m3 m4;rw[e];exact q
theorem sN{a b:Str}{A B:Prop}(h:a≠b)(k:B):if (false != di (.str a) (.str b))=true then A else B:=qE (λz=>absurd z h) λ_=>k
theorem sY{a:Str}{A B:Prop}(k:A):if (false != di (.str a) (.str a))=true then A else B:=qE (λ_=>k) λz=>absurd rfl z
theorem pA(lo hi st:Int):aQ (.numbers lo hi st)=.seq true [sT "numbers",iT lo,iT hi,iT st]:=by rw[aQ]
theorem oR(bs:List Bool):aQ (.truths bs)=.seq true [sT "truths",.seq true (bs.map bT)]:=by rw[aQ]
theorem oT(w:Wd):aQ (.texts w)=.seq true [sT "texts",bV w]:=by rw[aQ]
theorem uY:aQ .nothing=.seq true [sT "nothing"]:=by rw[aQ]
def uO:bz:=λas R=>∃ms ms':List Str,as=[.va (.seq true (ms.map sT)),.va (.seq true (ms'.map sT))]/\ms.length<=4/\ms'.length<=4/\R (.seq true ((ju ms ms').map sT))
theorem N9(h:ao K mg "marks_joined" Dq)(B:Own mg)    : ae P w K mg base 1 "marks_joined" Oh uO:=by
 refine h.pg2 Oh (λnd hr=>
   (aO (aT (fD fK rfl B.tuple_ boot_tuple (aC (bM (C1 rfl rfl B.sorted rfl B.set_ (aD 0) (aD 1))) aE))))) (λas R q=>?_)
 obtain⟨ms,ms',rfl,l1,l2,q⟩:=q;exact⟨rfl,ms,.inl rfl,by omega,ms',.inl rfl,by omega,_,_,rfl,q⟩
theorem yf:∀(k:Nat) (x y:List Nat),x.take k=y.take k->k<=x.length->k<=y.length->(k=x.length\/k=y.length\/x[k]?≠y[k]?)->k_ x y=x.take k
 |0,[],y,_,_,_,_=>by cases y<;>rfl
 |0,a::x,[],_,_,_,_=>rfl
 |0,a::x,b::y,_,_,_,h=>by
  rcases h with h|h|h
  ·simp at h
  ·simp at h
  ·have:a≠b:=by simpa using h
   rw[k_,if_neg this];rfl
 |k+1,[],y,_,h,_,_=>by simp at h
 |k+1,a::x,[],_,_,h,_=>by simp at h
 |k+1,a::x,b::y,e,h1,h2,h3=>by
  simp only[List.take_succ_cons,List.cons.injEq]at e;rw[k_,if_pos e.1,yf k x y e.2 (by simpa using h1) (by simpa using h2) (by simpa using h3)];rfl
def rg(x y:Str):Str:=⟨(k_ (cs x) (cs y)).toArray⟩
theorem AG(x y:Str):a_ [x,y] (rg x y):=wP (ts:=[x,y]) (by simp)
theorem Bp:∀(h a b y:List Nat),h++a<=y->y<=h++b->∃r,y=h++r
 |[],a,b,y,_,_=>⟨y,rfl⟩
 |c::h,a,b,[],h1,_=>absurd (List.nil_lt_cons c (h++a)) (qk1_.mpr h1)
 |c::h,a,b,d::y,h1,h2=>by
  rw[j3]at h1 h2;have e:c=d:=by
   rcases se c d with z|z|z
   ·exact absurd (qa3_.mpr (.inl z)) (qk1_.mpr h2)
   ·exact z
   ·exact absurd (qa3_.mpr (.inl z)) (qk1_.mpr h1)
  subst e;obtain⟨r,e⟩:=Bp h a b y (qk1_.mp λz=>qk1_.mpr h1 (qa3_.mpr (.inr ⟨rfl,z⟩))) (qk1_.mp λz=>qk1_.mpr h2 (qa3_.mpr (.inr ⟨rfl,z⟩)));exact⟨r,by rw[e];rfl⟩
theorem KW{ts:List Str}{x y hd:Str}(hx:x∈ts)(hy:y∈ts)(lx:∀t∈ts,cs x<=cs t)(ly:∀t∈ts,cs t<=cs y)(h:a_ [x,y] hd):a_ ts hd:=by
 refine⟨λt ht=>?_,λh' hh=>h.top h' λt ht=>?_⟩
 ·obtain⟨a,ea⟩:=h.all x (by simp);obtain⟨b,eb⟩:=h.all y (by simp);exact Bp (cs hd) a b (cs t) (by rw[<-ea];exact lx t ht) (by rw[<-eb];exact ly t ht)
 ·rcases qe_.mp ht with z|z
  ·rw[z];exact hh x hx
  ·rw[show t=y by simpa using z];exact hh y hy
theorem LQ{x:Str}{n:Nat}(h:n<=x.length):cs (Txt.slice x none (some (n:Int)))=(cs x).take n:=by
 have e:=beq_iff_eq.mp (PyProof.Rows.slice_closes_toL (x:=x) (j:=(n:Int)) (by omega) (by omega));rw[e];show((cs x).drop 0).take _=_;rw[oo];congr 1
theorem K8{us:List Str}{hd z:Str}(hs:∀t∈us,Sg t)(e:cs z=cY (us.map λt=>bA t hd)):dN z=iH us hd:=by
 unfold dN iH;refine List.filter_congr λm hm=>?_
 rw[j5,jY,qX_,qX_,e];unfold cY;have sg:∀t∈us,∀c∈cs (bA t hd),c∈cs d6:=λt ht c hc=>(hs t ht).slice _ _ c hc
 constructor
 ·rintro⟨c,hc,h2⟩;obtain⟨l,hl,hc⟩:=qc1_.mp hc;obtain⟨t',ht',rfl⟩:=qd_.mp hl;obtain⟨t,ht,rfl⟩:=qd_.mp ht';exact⟨t,ht,qX_.mpr ⟨c,hc,gp ((sG (sg t ht c hc) m hm).mp (ip h2))⟩⟩
 ·rintro⟨t,ht,h2⟩;obtain⟨c,hc,h3⟩:=qX_.mp h2;exact⟨c,qc1_.mpr ⟨_,qd_.mpr ⟨_,qd_.mpr ⟨t,ht,rfl⟩,rfl⟩,hc⟩,gp ((sG (sg t ht c hc) m hm).mpr (ip h3))⟩
theorem BN(us:List Str)(n:Nat)(h:∀t∈us,t.length<=n):(cY us).length<=us.length*n:=by
 induction us with
 |nil=>simp[cY]
 |cons t us ih=>
  have e:cY (t::us)=cs t++cY us:=rfl;rw[e,bw,<-WordM.len,gc,Nat.succ_mul];have:=ih λx hx=>h x (fc _ hx)
  have:=h t fe;omega
def uN:bz:=λas R=>∃x y:Str,as=[.va (sT x),.va (sT y)]/\x.length<=1000/\y.length<=1000/\R (sT (rg x y))
theorem N8(h:ao K mg "shared_head" Dp)(B:Own mg)    : ae P w K mg base 1 "shared_head" Oh uN:=by
 refine h.pg2 ["one","other","size"] (λnd hr=>
   (aI (aW 2 nd aG)
   (aI (pB jr (fF (kJ (eP tO (aD 2) (bK cF rfl B.len du (aC (aD 0) aE))) (kJ (eP tO (aD 2) (bK cF rfl B.len du (aC (aD 1) aE))) (mW (bU hr (aJ hr (aD 0) (aD 2)) (aJ hr (aD 1) (aD 2)))))))
    (aO (aW 2 nd (bC bY (aD 2) aG))))
   (aO (aT (iY jG (aD 0) jC (jB (aD 2)))))))) (λas R q=>?_)
 obtain⟨x,y,rfl,lx,ly,q⟩:=q;have ex:x.length=(cs x).length:=WordM.len x;have ey:y.length=(cs y).length:=WordM.len y;refine⟨rfl,λm ρ=>∃k:Nat,m=x.length-k/\k<=x.length/\k<=y.length/\(cs x).take k=(cs y).take k/\ρ=[.va (sT x),.va (sT y),.va (iT (k:Nat))],⟨_,0,rfl,g6 _,g6 _,rfl,rfl⟩,?_⟩;rintro m _ ⟨k,rfl,k1,k2,e,rfl⟩;have fin:(k=(cs x).length\/k=(cs y).length\/(cs x)[k]?≠(cs y)[k]?)->R (sT (Txt.slice x none (some (k:Int)))):=λh=>by
  have e2:Txt.slice x none (some (k:Int))=rg x y:=kG (by rw[LQ k1];exact(yf k (cs x) (cs y) e (by omega) (by omega) h).symm);rw[e2];exact q
 refine⟨by show x.length<=_;omega,_,rfl,jW (λz1=>⟨by show y.length<=_;omega,_,rfl,jW (λz2=>?_) (λz2=>?_)⟩) (λz1=>?_)⟩
 ·have z1:(k:Int)<(x.length:Nat):=z1;have z2:(k:Int)<(y.length:Nat):=z2;have gx:(cs x)[k]?=some (cs x)[k]:=b9 (by omega);have gy:(cs y)[k]?=some (cs y)[k]:=b9 (by omega);refine⟨by show x.length<=_;omega,(cs x)[k],aR (j:=k) gx,by show y.length<=_;omega,(cs y)[k],aR (j:=k) gy,_,rfl,?_⟩;refine qE (λz=>?_) (λz=>?_)
  ·have ee:(cs x)[k]=(cs y)[k]:=by simpa using z
   refine⟨x.length-(k+1),by omega,k+1,rfl,by omega,by omega,?_,by push_cast;rfl⟩;rw[gu,gu,e,gx,gy,ee]
  ·refine⟨_,rfl,by show x.length<=_;omega,fin (.inr (.inr λh=>z ?_))⟩;rw[gx,gy]at h;injection h with h
   rw[h]
 ·have z2:¬ (k:Int)<(y.length:Nat):=z2;exact⟨_,rfl,by show x.length<=_;omega,fin (.inr (.inl (by omega)))⟩
 ·have z1:¬ (k:Int)<(x.length:Nat):=z1;exact⟨_,rfl,by show x.length<=_;omega,fin (.inl (by omega))⟩
def rV:bz:=λas R=>∃(t:Bool) (us:List Str),as=[.va (.seq t (us.map sT))]/\us≠[]/\us.length<=63/\(∀t∈us,eY t)/\R (bV (fX us))
theorem pL{us:List Str}{hd:Str}{lo hi:Int}{ms:List Str}(m:iw us hd lo hi ms):Wd.make hd lo hi ms=fX us:=by
 obtain⟨h2,l2,u2,m2,e,k⟩:=fY m.ne;obtain⟨e1,e2,e3,e4⟩:=m.uniq k;rw[e,e1,e2,e3,e4]
theorem N7(h:ao K mg "make_of" vn)(B:Own mg)(PB:ae P w K mg base 1 "shared_head" Oh uN)(Py:ae P w K mg base 2 "marks_of" ["text"] rG)   : ae P w K mg base 3 "make_of" Oq rV:=by
 refine h.pg1 OG (λnd hr=>
   (aI (aW 1 nd (aL PB hr (aC (bK (IF rfl) rfl B.min boot_min (aC (aD 0) aE)) (aC (bK (IE rfl) rfl B.max boot_max (aC (aD 0) aE)) aE))))
   (aI (jF (sc:=aY vn) (XN:=OG) (N:=["text","head"]) (fr:=[1]) 2 nd (cD (aD 0)) (λ_ _ _ _ _=>jO) (λ_ _ _ _ _=>(iY jG (aD 0) (jB (bK cF rfl B.len du (aC (aD 1) aE))) jC)))
   (aI (jF (sc:=aY vn) (XN:=OG) (N:=["tail"]) (fr:=[]) 3 nd (cD (aD 2)) (λ_ _ _ _ _=>jO) (λ_ _ _ _ _=>(bK cF rfl B.len du (aC (aD 0) aE))))
   (aO (aT (bQ (aC bB (aC (aD 1) (aC (bK (fT rfl) rfl B.min boot_min (aC (aD 3) aE)) (aC (bK (gV rfl) rfl B.max boot_max (aC (aD 3) aE)) (aC (aL Py hr (aC (sU PySem.F.slot_str_join PySem.F.type_str_join Au bB (aC (aD 2) aE)) aE)) aE)))))))))))) (λas R q=>?_)
 obtain⟨t,us,rfl,ne,l64,hu,q⟩:=q;have l0:0<us.length:=qc2_.mpr ne;refine⟨rfl,t,us,rfl,l0,λx x1 x2=>⟨t,us,rfl,l0,λy y1 y2=>⟨x,y,rfl,by have:=(hu x x1).2;omega,by have:=(hu y y1).2;omega,?_⟩⟩⟩;have hh:a_ us (rg x y):=KW x1 y1 x2 y2 (AG x y);generalize rg x y=hd at hh;show av.nx _ _;refine dw (ρ':=[.va (.seq t (us.map sT)),.va (sT hd),.no,.no]) rfl ?_;have rl:∀t∈us,((bA t hd).length:Int)=(t.length:Int)-(hd.length:Int)/\(bA t hd).length<=50:=λt ht=>by
  obtain⟨r,e⟩:=hh.all t ht;have h1:=dW e;have h2:=congrArg List.length e;rw[bw]at h2;have h3:=(hu t ht).2;rw[WordM.len]at h3;rw[WordM.len,WordM.len t,WordM.len hd,h1];omega
 have hl:hd.length<=50:=by
  obtain⟨t,ht⟩:=iz _ ne;have:=(rl t ht).1;have:=(hu t ht).2;omega
 refine⟨by rw[ak];omega,eJ sT (λt=>sT (bA t hd)) (λt ht R q=>⟨by show hd.length<=_;omega,_,rfl,by have:=(hu t ht).2;show t.length<=_;omega,q⟩) ?_⟩;show av.nx _ _;refine dw (ρ':=[.va (.seq t (us.map sT)),.va (sT hd),.va (.seq false ((us.map λt=>bA t hd).map sT)),.no]) (by rw[dh];rfl) ?_;refine⟨by rw[ak,ak];omega,eJ sT (λt=>iT (t.length:Nat)) (λt ht R q=>?_) ?_⟩
 ·obtain⟨u,hu',rfl⟩:=qd_.mp ht;exact⟨by have:=(rl u hu').2;show(bA u hd).length<=_;omega,q⟩
 have es:((us.map λt=>bA t hd).map λt=>iT (t.length:Nat))=((us.map λt=>(t.length:Int)-(hd.length:Int))).map iT:=by
  rw[dh,dh];apply mr;intro t ht;show iT ((bA t hd).length:Nat)=iT _;rw[(rl t ht).1]
 rw[es];have ne2:(us.map λt=>(t.length:Int)-(hd.length:Int))≠[]:=by simpa using ne
 refine .inr (.inl ⟨_,rfl,qc2_.mpr ne2,λlo lo1 lo2=>.inr (.inl ⟨_,rfl,qc2_.mpr ne2,λhi hi1 hi2=>?_⟩)⟩);have cl:(cY (us.map λt=>bA t hd)).length<=4000:=by
  have:=BN (us.map λt=>bA t hd) 50 λt ht=>by
   obtain⟨u,hu',rfl⟩:=qd_.mp ht;exact(rl u hu').2
  rw[ak]at this;omega
 refine⟨rfl,us.map λt=>bA t hd,rfl,rfl,by omega,_,rfl,by show(cY (us.map λt=>bA t hd)).length<=_;exact cl,by simp,?_⟩;rw[K8 (us:=us) (hd:=hd) (z:=⟨(cY (us.map λt=>bA t hd)).toArray⟩) (λt ht=>(hu t ht).1) rfl];have m:iw us hd lo hi (iH us hd):=by
  refine⟨hh,?_,λt ht=>lo2 _ (qd_.mpr ⟨t,ht,rfl⟩),?_,λt ht=>hi2 _ (qd_.mpr ⟨t,ht,rfl⟩),rfl⟩
  ·obtain⟨t,ht,e⟩:=qd_.mp lo1;exact⟨t,ht,e⟩
  ·obtain⟨t,ht,e⟩:=qd_.mp hi1;exact⟨t,ht,e⟩
 rw[<-pL m]at q;exact q
def rF:bz:=λas R=>∃ts:List Str,as=[.va (.seq false (ts.map sT))]/\ts≠[]/\ts.length<=1000/\(aH ts).length<=63/\(∀t∈ts,eY t)/\R (bV (bN ts))
theorem xH{ts us:List Str}(ne:ts≠[])(h:∀x,x∈ts↔x∈us):fX ts=fX us:=by
 obtain⟨hd,lo,hi,ms,e,m⟩:=fY ne;rw[e];exact pL (m.same h)
theorem N6(h:ao K mg "words_of" Do)(B:Own mg)(PC:ae P w K mg base 3 "make_of" Oq rV)(GMOST_FEW:fW K mg "MOST_FEW" (iT 6))  : ae P w K mg base 4 "words_of" Oq rF:=by
 refine h.pg1 ["texts","unlike"] (λnd hr=>
   (aI (bP (bU hr (bK cF rfl B.len du (aC (aD 0) aE)) aG)
    (aO AS)
    bO)
   (aI (aW 1 nd (bM (Cz rfl rfl B.sorted rfl B.set_ (aD 0))))
   (aI (bP (eP xq (bK cF rfl B.len du (aC (aD 1) aE)) (tK GMOST_FEW rfl))
    (aO (aT (bQ (aC bB (aC (fD fK rfl B.tuple_ boot_tuple (aC (aD 1) aE)) aE)))))
    bO)
   (aO (aT (aL PC hr (aC (aD 1) aE)))))))) (λas R q=>?_)
 obtain⟨ts,rfl,ne,lt,l20,ht,q⟩:=q;have l0:0<ts.length:=qc2_.mpr ne;refine⟨rfl,_,rfl,cL (λz=>absurd z (by rw[ak];omega)) (λ_=>?_)⟩;have sl:(aZ (aH ts)).length=(aH ts).length:=(dM _).length_eq;refine⟨ts,rfl,by omega,?_⟩;show av.nx _ _;refine dw (ρ':=[.va (.seq false (ts.map sT)),.va (.seq false ((aZ (aH ts)).map sT))]) rfl ?_;refine⟨_,rfl,jW (λz=>?_) (λz=>?_)⟩
 ·have z:(((aZ (aH ts)).map sT).length:Int)<=6:=z;rw[ak,sl]at z;unfold bN at q;rw[if_pos (by omega)]at q;exact⟨_,_,rfl,by simp,q⟩
 ·have z:¬ (((aZ (aH ts)).map sT).length:Int)<=6:=z;rw[ak,sl]at z;unfold bN at q;rw[if_neg (by omega),xH (us:=aZ (aH ts)) ne λx=>sort_set_mem.symm]at q;exact⟨false,_,rfl,λe=>by rw[e]at sl;simp at sl;omega,by omega,λt h=>ht t (sort_set_mem.mp h),q⟩
def oQ(ts:List Str):Prop:=∀h lo hi ms,fX ts=.make h lo hi ms->eY h
structure cu (ts:List Str):Prop where
 ne:ts≠[]
 hd:oQ ts
 ok:(aH ts).length<7->∀t∈ts,eY t
def wJ:bz:=λas R=>∃ts:List Str,as=[.va (bV (bN ts))]/\cu ts/\R (bV (fX ts))
theorem pI{ts:List Str}(h:ts≠[]):aZ (aH ts)≠[]:=λe=>by
 obtain⟨x,hx⟩:=iz _ h;have:=sort_set_mem.mpr hx;rw[e]at this;exact nomatch this
theorem DO(h:ao K mg "as_make" zu)(B:Own mg)(PC:ae P w K mg base 3 "make_of" Oq rV)   : ae P w K mg base 4 "as_make" ["words"] wJ:=by
 refine h.pg1 ["words"] (λnd hr=>
   (aO (aT (wB (bU hr (aJ hr (aD 0) aG) bB) (aL PC hr (aC (aJ hr (aD 0) aG) aE)) (aD 0))))) (λas R q=>?_)
 obtain⟨ts,rfl,ok,q⟩:=q;unfold bN;split
 ·rename_i z;rw[xH (us:=aZ (aH ts)) ok.ne λx=>sort_set_mem.symm]at q;exact⟨rfl,_,bc,_,rfl,sY ⟨_,aR (j:=1) rfl,true,_,rfl,pI ok.ne,by rw[(dM _).length_eq];omega,λt h=>ok.ok z t (sort_set_mem.mp h),q⟩⟩
 ·obtain⟨hd,lo,hi,ms,e,m⟩:=fY ok.ne;rw[e]at q ⊢;exact⟨rfl,_,bc,_,rfl,sN (by decide +kernel) q⟩
def vN:bz:=λas R=>∃(h1:Str) (lo hi:Int) (ms:List Str) (hd:Str),as=[.va (bV (.make h1 lo hi ms)),.va (sT hd)]/\h1.length<=50/\hd.length<=50/\ms.length<=4/\R (bV (.make hd (lo+(bA h1 hd).length) (hi+(bA h1 hd).length) (ju ms (dN (bA h1 hd)))))
theorem DP(h:ao K mg "with_shorter_head" zv)(B:Own mg)(Pz:ae P w K mg base 1 "marks_joined" Oh uO)(Py:ae P w K mg base 2 "marks_of" ["text"] rG)   : ae P w K mg base 3 "with_shorter_head" ["make","head"] vN:=by
 refine h.pg2 ["make","head","tail","marks"] (λnd hr=>
   (aI (aW 2 nd (iY jG (aJ hr (aD 0) aG) (jB (bK cF rfl B.len du (aC (aD 1) aE))) jC))
   (aI (aW 3 nd (aL Pz hr (aC (aJ hr (aD 0) aG) (aC (aL Py hr (aC (aD 2) aE)) aE))))
   (aO (aT (bQ (aC bB (aC (aD 1) (aC (bC bY (aJ hr (aD 0) aG) (bK cF rfl B.len du (aC (aD 2) aE))) (aC (bC bY (aJ hr (aD 0) aG) (bK cF rfl B.len du (aC (aD 2) aE))) (aC (aD 3) aE))))))))))) (λas R q=>?_)
 obtain⟨h1,lo,hi,ms,hd,rfl,l1,l2,l3,q⟩:=q;have rl:(bA h1 hd).length<=50:=cx (WordM.slice_len ..) l1;have ml:(dN (bA h1 hd)).length<=4:=by
  unfold dN;exact cx (pd _ _) (by simp[MK])
 refine⟨rfl,_,aR (j:=1) rfl,by show hd.length<=_;omega,_,rfl,by show h1.length<=_;omega,?_⟩;show av.nx _ _;refine dw (ρ':=[.va (bV (.make h1 lo hi ms)),.va (sT hd),.va (sT (bA h1 hd)),.no]) rfl ?_;refine⟨_,aR (j:=4) rfl,bA h1 hd,rfl,by omega,ms,dN (bA h1 hd),rfl,l3,ml,?_⟩;show av.nx _ _;refine dw (ρ':=[.va (bV (.make h1 lo hi ms)),.va (sT hd),.va (sT (bA h1 hd)),.va (.seq true ((ju ms (dN (bA h1 hd))).map sT))]) rfl ?_;exact⟨_,aR (j:=2) rfl,by show(bA h1 hd).length<=_;omega,_,aR (j:=3) rfl,by show(bA h1 hd).length<=_;omega,by simp,q⟩
theorem yd{ms ms':List Str}(h1:∀m∈ms,m∈MK)(h2:∀m∈ms',m∈MK):(ju ms ms').length<=4/\∀m∈ju ms ms',m∈MK:=by
 have h:∀m∈ju ms ms',m∈MK:=λm hm=>by
  rcases qj_.mp (sort_set_mem.mp hm) with z|z
  ·exact h1 m z
  ·exact h2 m z
 exact⟨WordM.nodup_len (mE (hX _)) h,h⟩
theorem CP{ts:List Str}{hd:Str}{lo hi:Int}{ms:List Str}(m:iw ts hd lo hi ms):ms.length<=4/\∀x∈ms,x∈MK:=by
 have hk:∀x∈ms,x∈MK:=λx hx=>by rw[m.mks]at hx;exact(qd1_.mp hx).1
 exact⟨by rw[m.mks];exact cx (pd _ _) (by simp[MK]),hk⟩
def wI:bz:=λas R=>∃A B:List Str,as=[.va (bV (fX A)),.va (bV (fX B))]/\A≠[]/\B≠[]/\oQ A/\oQ B/\R (bV (fX (A++B)))
theorem EI(h:ao K mg "makes_joined" zw)(B:Own mg)(PB:ae P w K mg base 1 "shared_head" Oh uN)(Ph:ae P w K mg base 3 "with_shorter_head" ["make","head"] vN)(Pz:ae P w K mg base 1 "marks_joined" Oh uO)   : ae P w K mg base 4 "makes_joined" Oh wI:=by
 refine h.pg2 ["one","other","head","first","second","least","most"] (λnd hr=>
   (aI (aW 2 nd (aL PB hr (aC (aJ hr (aD 0) aG) (aC (aJ hr (aD 1) aG) aE))))
   (aI (aW 3 nd (aL Ph hr (aC (aD 0) (aC (aD 2) aE))))
   (aI (aW 4 nd (aL Ph hr (aC (aD 1) (aC (aD 2) aE))))
   (aI (aW 5 nd (bK (fT rfl) rfl B.min boot_min (aC (aJ hr (aD 3) aG) (aC (aJ hr (aD 4) aG) aE))))
   (aI (aW 6 nd (bK (gV rfl) rfl B.max boot_max (aC (aJ hr (aD 3) aG) (aC (aJ hr (aD 4) aG) aE))))
   (aO (aT (bQ (aC bB (aC (aD 2) (aC (aD 5) (aC (aD 6) (aC (aL Pz hr (aC (aJ hr (aD 3) aG) (aC (aJ hr (aD 4) aG) aE))) aE)))))))))))))) (λas R q=>?_)
 obtain⟨A,B,rfl,na,nb,ha,hb,q⟩:=q;obtain⟨h1,lo1,hi1,ms1,e1,m1⟩:=fY na;obtain⟨h2,lo2,hi2,ms2,e2,m2⟩:=fY nb;obtain⟨s1,b1⟩:=ha _ _ _ _ e1;obtain⟨s2,b2⟩:=hb _ _ _ _ e2;obtain⟨c1,k1⟩:=CP m1;obtain⟨c2,k2⟩:=CP m2;have hh:=AG h1 h2;have app:=m1.app m2 s1 s2 hh;rw[<-pL app]at q;obtain⟨r1,er1⟩:=hh.all h1 (.head _);have lh:(rg h1 h2).length<=50:=by
  rw[WordM.len]at b1 ⊢;rw[er1,bw]at b1;omega
 rw[e1,e2];refine⟨rfl,_,aR (j:=1) rfl,_,aR (j:=1) rfl,h1,h2,rfl,by omega,by omega,?_⟩;generalize rg h1 h2=hd at q lh;have mk1:∀x:Str,∀m∈dN x,m∈MK:=λx m hm=>(qd1_.mp hm).1
 have j1:=(yd k1 (mk1 (bA h1 hd))).1;have j2:=(yd k2 (mk1 (bA h2 hd))).1;show av.nx _ _;refine dw (ρ':=[.va (bV (.make h1 lo1 hi1 ms1)),.va (bV (.make h2 lo2 hi2 ms2)),.va (sT hd),.no,.no,.no,.no]) rfl ?_;refine⟨h1,lo1,hi1,ms1,hd,rfl,b1,lh,c1,?_⟩;generalize ju ms1 (dN (bA h1 hd))=n1 at q j1;generalize lo1+((bA h1 hd).length:Int)=l1 at q;generalize hi1+((bA h1 hd).length:Int)=g1 at q;show av.nx _ _;refine dw (ρ':=[.va (bV (.make h1 lo1 hi1 ms1)),.va (bV (.make h2 lo2 hi2 ms2)),.va (sT hd),.va (bV (.make hd l1 g1 n1)),.no,.no,.no]) rfl ?_;refine⟨h2,lo2,hi2,ms2,hd,rfl,b2,lh,c2,?_⟩;generalize ju ms2 (dN (bA h2 hd))=n2 at q j2;generalize lo2+((bA h2 hd).length:Int)=l2 at q;generalize hi2+((bA h2 hd).length:Int)=g2 at q;show av.nx _ _;refine dw (ρ':=[.va (bV (.make h1 lo1 hi1 ms1)),.va (bV (.make h2 lo2 hi2 ms2)),.va (sT hd),.va (bV (.make hd l1 g1 n1)),.va (bV (.make hd l2 g2 n2)),.no,.no]) rfl ?_;refine⟨_,aR (j:=2) rfl,_,aR (j:=2) rfl,.inl ⟨_,_,rfl,_,aR (j:=3) rfl,_,aR (j:=3) rfl,.inl ⟨_,_,rfl,?_⟩⟩⟩;exact⟨_,aR (j:=4) rfl,_,aR (j:=4) rfl,n1,n2,rfl,j1,j2,by simp,q⟩
def mO:bz:=λas R=>∃A B:List Str,as=[.va (bV (bN A)),.va (bV (bN B))]/\cu A/\cu B/\R (bV (bN (A++B)))
theorem gA{A C:List Str}(h:∀x∈A,x∈C):(aH A).length<=(aH C).length:=WordM.nodup_len (dX A) λx hx=>(cZ C x).mpr (h x ((cZ A x).mp hx))
theorem EJ(h:ao K mg "words_joined" zx)(B:Own mg)(PD:ae P w K mg base 4 "words_of" Oq rF)(Po:ae P w K mg base 4 "makes_joined" Oh wI)(Pg:ae P w K mg base 4 "as_make" ["words"] wJ)   : ae P w K mg base 5 "words_joined" Oh mO:=by
 refine h.pg2 Oh (λnd hr=>
   (aI (bP (fF (kJ (bU hr (aJ hr (aD 0) aG) bB) (mW (bU hr (aJ hr (aD 1) aG) bB))))
    (aO (aT (aL PD hr (aC (bC bY (bM (oU oW rfl B.list_ boot_list (aC (aJ hr (aD 0) aG) aE))) (bM (oU oW rfl B.list_ boot_list (aC (aJ hr (aD 1) aG) aE)))) aE))))
    bO)
   (aO (aT (aL Po hr (aC (aL Pg hr (aC (aD 0) aE)) (aC (aL Pg hr (aC (aD 1) aE)) aE))))))) (λas R q=>?_)
 obtain⟨A,B,rfl,oA,oB,q⟩:=q;have na:=oA.ne;have nb:=oB.ne;have fin:7<=(aH (A++B)).length->R (bV (fX (A++B))):=λh=>by
  unfold bN at q;rw[if_neg (by omega)]at q;exact q
 by_cases zA:(aH A).length<7
 ·have eA:bN A=.few (aZ (aH A)):=by unfold bN;rw[if_pos zA]
  by_cases zB:(aH B).length<7
  ·have eB:bN B=.few (aZ (aH B)):=by unfold bN;rw[if_pos zB]
   rw[eA,eB];have es:∀x,x∈aZ (aH A)++aZ (aH B)↔x∈A++B:=λx=>by rw[qj_,qj_,sort_set_mem,sort_set_mem]
   have l1:(aZ (aH A)).length=(aH A).length:=(dM _).length_eq;have l2:(aZ (aH B)).length=(aH B).length:=(dM _).length_eq;rw[<-kC es]at q;refine⟨rfl,_,bc,_,rfl,sY ⟨_,bc,_,rfl,sY ⟨_,aR (j:=1) rfl,_,_,rfl,_,aR (j:=1) rfl,_,_,rfl,?_⟩⟩⟩;refine⟨by rw[ak,ak];omega,aZ (aH A)++aZ (aH B),by rw[gb],?_,?_,?_,λt ht=>(qj_.mp ((es t).mp ht)).elim (oA.ok zA t) (oB.ok zB t),q⟩
   ·intro e;exact pI na (qU_.mp e).1
   ·rw[bw];omega
   ·have:=WordM.nodup_len (dX (aZ (aH A)++aZ (aH B))) λx hx=>(cZ _ x).mp hx
    rw[bw]at this;omega
  ·have q:=fin (cx (by omega) (gA (A:=B) (C:=A++B) λx hx=>de _ hx));have eB:bN B=fX B:=by unfold bN;rw[if_neg zB]
   obtain⟨h2,lo2,hi2,ms2,e2,m2⟩:=fY nb;have aA:[Ar.va (bV (.few (aZ (aH A))))]=[.va (bV (bN A))]:=by rw[eA]
   have aB:[Ar.va (bV (.make h2 lo2 hi2 ms2))]=[.va (bV (bN B))]:=by rw[eB,e2]
   rw[eB,eA,e2];exact⟨rfl,_,bc,_,rfl,sY ⟨_,bc,_,rfl,sN (by decide +kernel) ⟨A,aA,oA,B,aB,oB,A,B,rfl,na,nb,oA.hd,oB.hd,q⟩⟩⟩
 ·have q:=fin (cx (by omega) (gA (A:=A) (C:=A++B) λx hx=>gg _ hx));have eA:bN A=fX A:=by unfold bN;rw[if_neg zA]
  obtain⟨h1,lo1,hi1,ms1,e1,m1⟩:=fY na;have aA:[Ar.va (bV (.make h1 lo1 hi1 ms1))]=[.va (bV (bN A))]:=by rw[eA,e1]
  rw[eA,e1];exact⟨rfl,_,bc,_,rfl,sN (by decide +kernel) (bH ⟨A,aA,oA,B,rfl,oB,A,B,rfl,na,nb,oA.hd,oB.hd,q⟩)⟩
theorem MW{s t:d_}{P:av}{ρ:aV}{J:aV->Prop}(rest:∀ρ',J ρ'->t P ρ')(main:(∀ρ',J ρ'->t P ρ')->oF s t P ρ):oF s t P ρ:=main rest
structure ng (D:List Tv->List Pt):Prop where
 same:∀A B:List Tv,(∀v,v∈A↔v∈B)->D A=D B
 nil:D []=[]
structure jv (V:List Tv->Prop):Prop where
 nil:V []
 app:∀A B:List Tv,V A->V B->V (A++B)
structure da (V:List Tv->Prop) (ks:List (List (Str×Tv))):Prop where
 ne:ks≠[]
 nd:∀k∈ks,(k.map (·.1)).Nodup
 nm:aN ks=[]\/cu (aN ks)
 sm:(aH (aN ks)).length<=8->∀n∈aN ks,eY n
 at_v:∀n,V (cm n ks)
 vls:V (cO ks)
variable{D:List Tv->List Pt}{V:List Tv->Prop}{lv:Nat}
theorem wN{k:List (Str×Tv)}{n:Str}{v:Tv}(h:dA k n=some v):(n,v)∈k:=by
 unfold dA at h;obtain⟨x,hx,e⟩:=qa1_.mp h;have this:=List.find?_some hx;have this:x.1=n:=ip this;have hm:=List.mem_of_find?_eq_some hx;obtain⟨a,b⟩:=x;simp only at this e;subst this e;exact hm
theorem Ah{k:List (Str×Tv)}(nd:(k.map (·.1)).Nodup){n:Str}{v:Tv}(h:(n,v)∈k):dA k n=some v:=by
 unfold dA
 induction k with
 |nil=>exact nomatch h
 |cons x k ih=>
  rw[e6,qh1_]at nd;rw[d7];by_cases z:x.1=n
  ·rw[gp z];rcases qe_.mp h with e|h
   ·subst e;rfl
   ·exact absurd (qd_.mpr ⟨(n,v),h,z.symm⟩) nd.1
  ·rw[iq z];rcases qe_.mp h with e|h
   ·subst e;exact absurd rfl z
   ·exact ih nd.2 h
theorem kI{ks:List (List (Str×Tv))}(nd:∀k∈ks,(k.map (·.1)).Nodup){n:Str}{v:Tv}:v∈cm n ks↔∃k∈ks,(n,v)∈k:=by
 unfold cm;rw[qt1_];exact⟨λ⟨k,hk,e⟩=>⟨k,hk,wN e⟩,λ⟨k,hk,e⟩=>⟨k,hk,Ah (nd k hk) e⟩⟩
theorem BG{ks:List (List (Str×Tv))}{v:Tv}:v∈cO ks↔∃k∈ks,∃n,(n,v)∈k:=by
 unfold cO;rw[qo1_];constructor
 ·rintro⟨k,hk,h⟩;obtain⟨x,hx,rfl⟩:=qd_.mp h;exact⟨k,hk,x.1,hx⟩
 ·rintro⟨k,hk,n,h⟩;exact⟨k,hk,qd_.mpr ⟨_,h,rfl⟩⟩
theorem zO{ks:List (List (Str×Tv))}(hD:ng D)(ne:ks≠[]){n:Str}(h:n∉aN ks):bX D ks n=(n,false,[]):=by
 have h1:∀k∈ks,n∉k.map (·.1):=λk hk z=>h (qo1_.mpr ⟨k,hk,z⟩)
 have e1:ks.all (λk=>decide (n∈k.map (·.1)))=false:=by
  obtain⟨k,hk⟩:=iz _ ne;exact List.all_eq_false.mpr ⟨k,hk,by simpa using h1 k hk⟩
 have e2:cm n ks=[]:=by
  unfold cm;rw[qs2_];intro k hk;cases e:dA k n with
  |none=>rfl
  |some v=>exact absurd (qd_.mpr ⟨_,wN e,rfl⟩) (h1 k hk)
 unfold bX;rw[e1,e2,hD.nil]
theorem sD{ks js:List (List (Str×Tv))}(n:Str):bX D (ks++js) n=(n,(bX D ks n).2.1&&(bX D js n).2.1,D (cm n ks++cm n js)):=by
 unfold bX cm;rw[List.all_append,fk]
theorem gR(ks js:List (List (Str×Tv))):aN (ks++js)=aN ks++aN js:=o_ ..
theorem sK{ks:List (List (Str×Tv))}(h:ks≠[]):aU ks≠[]:=by unfold aU;simpa using h
theorem BY{ks js:List (List (Str×Tv))}(h1:ks≠[])(h2:js≠[]):aX (aU (ks++js))=min (aX (aU ks)) (aX (aU js))/\bD (aU (ks++js))=max (bD (aU ks)) (bD (aU js)):=by
 rw[show aU (ks++js)=aU ks++aU js from gb ..];exact⟨rW (sK h1) (sK h2),rX (sK h1) (sK h2)⟩
def kl(D:List Tv->List Pt)(V:List Tv->Prop):bz:=λas R=>∃A B:List Tv,as=[.va (bE (D A)),.va (bE (D B))]/\V A/\V B/\R (bE (D (A++B)))
def ql(fs:List jw):Tv:=.dct (fs.map λx=>(x.1,bG x))
def oM:bz:=λas R=>∃(a b:Int) (fs:List jw),as=[.va (aQ (.record a b fs))]/\fs.length<=20/\(fs.map (·.1)).Nodup/\R (ql fs)
theorem EN(h:ao K mg "fields_by_name" zH)(B:Own mg)    : ae P w K mg base 1 "fields_by_name" Ot oM:=by
 refine h.pg1 Ot (λnd hr=>
   (aO (aT (Gw (Ll rfl rfl B.dict_ (bM (fM (sc:=aY zH) (XN:=Ot) (N:=["field"]) (fr:=[]) (cD (aJ hr (aD 0) aG)) (λ_ _ _ _ _=>(bQ (aC (aJ hr (aD 0) aG) (aC (aD 0) aE))))))))))) (λas R q=>?_)
 obtain⟨a,b,fs,rfl,l,nd,q⟩:=q;rw[dC];refine⟨rfl,_,aR (j:=3) rfl,by rw[ak];omega,eJ bG (λx=>.seq true [sT x.1,bG x]) (λx hx R q=>⟨_,bc,by simp,q⟩) ⟨fs.map λx:jw=>(x.1,bG x),by rw[dh];rfl,by rw[dh];exact nd,by rw[ak];omega,q⟩⟩
def xm(D:List Tv->List Pt)(V:List Tv->Prop):bz:=λas R=>∃(n n':Str) (m m':Bool) (A B:List Tv),as=[.va (bG (n,m,D A)),.va (bG (n',m',D B))]/\V A/\V B/\R (bG (n,m&&m',D (A++B)))
theorem EO(h:ao K mg "field_joined" uK)(B:Own mg)(OZ:ae P w K mg base lv "joined" Oh (kl D V))   : ae P w K mg base (lv+1) "field_joined" Oh (xm D V):=by
 refine h.pg2 Oh (λnd hr=>
   (aO (aT (bQ (aC (aJ hr (aD 0) aG) (aC (iM (aJ hr (aD 0) aG) (lF (aJ hr (aD 1) aG))) (aC (aL OZ hr (aC (aJ hr (aD 0) aG) (aC (aJ hr (aD 1) aG) aE))) aE))))))) (λas R q=>?_)
 obtain⟨n,n',m,m',A,B,rfl,hA,hB,q⟩:=q;refine⟨rfl,_,bc,_,aR (j:=1) rfl,?_⟩;have q:R (.seq true [sT n,bT (m&&m'),bE (D (A++B))]):=q;cases m with
 |true=>
  rw[Bool.true_and]at q;exact⟨_,rfl,cT ⟨_,aR (j:=1) rfl,_,aR (j:=2) rfl,_,aR (j:=2) rfl,A,B,rfl,hA,hB,by simp,q⟩⟩
 |false=>exact⟨_,rfl,bH ⟨_,aR (j:=2) rfl,_,aR (j:=2) rfl,A,B,rfl,hA,hB,by simp,q⟩⟩
noncomputable def bL(D:List Tv->List Pt)(ks:List (List (Str×Tv))):List jw:=(aZ (aH (aN ks))).map (bX D ks)
theorem nI(ks:List (List (Str×Tv))):(bL D ks).map (·.1)=aZ (aH (aN ks)):=by
 unfold bL;rw[dh];exact oh _
theorem iO(ks:List (List (Str×Tv))):(bL D ks).length=(aH (aN ks)).length:=by
 unfold bL;rw[ak,(dM _).length_eq]
theorem AC{ks:List (List (Str×Tv))}(hD:ng D)(ne:ks≠[])(n:Str):(dA ((bL D ks).map λx:jw=>(x.1,bG x)) n).getD (bG (n,false,[]))=bG (bX D ks n):=by
 by_cases h:n∈aN ks
 ·have e:dA ((bL D ks).map λx:jw=>(x.1,bG x)) n=some (bG (bX D ks n)):=by
   refine Ah ?_ (qd_.mpr ⟨bX D ks n,qd_.mpr ⟨n,sort_set_mem.mpr h,rfl⟩,rfl⟩);rw[dh];show((bL D ks).map (·.1)).Nodup;rw[nI];exact mE (hX _)
  rw[e];rfl
 ·rw[zO hD ne h];have e:dA ((bL D ks).map λx:jw=>(x.1,bG x)) n=none:=by
   cases e:dA ((bL D ks).map λx:jw=>(x.1,bG x)) n with
   |none=>rfl
   |some v=>
    have h1:n∈((bL D ks).map λx:jw=>(x.1,bG x)).map (·.1):=qd_.mpr ⟨(n,v),wN e,rfl⟩;rw[dh]at h1;have h1:n∈(bL D ks).map (·.1):=h1;rw[nI]at h1;exact absurd (sort_set_mem.mp h1) h
  rw[e];rfl
def xo(D:List Tv->List Pt)(V:List Tv->Prop):bz:=λas R=>∃(a b a' b':Int) (ks js:List (List (Str×Tv))) (ns:List Str),as=[.va (aQ (.record a b (bL D ks))),.va (aQ (.record a' b' (bL D js))),.va (.seq false (ns.map sT))]/\ng D/\da V ks/\da V js/\(aH (aN ks)).length<=8/\(aH (aN js)).length<=8/\ns.length<=20/\R (aQ (.record (min a a') (max b b') (ns.map (bX D (ks++js)))))
theorem ER(h:ao K mg "records_joined" uJ)(B:Own mg)(O4:ae P w K mg base 1 "fields_by_name" Ot oM)(PK:ae P w K mg base (lv+1) "field_joined" Oh (xm D V))   : ae P w K mg base (lv+2) "records_joined" ["one","other","names"] (xo D V):=by
 refine h.pg3 ["one","other","names","first","second","fields","name","lacking"] (λnd hr=>
   (aI (aW 3 nd (aL O4 hr (aC (aD 0) aE)))
   (aI (aW 4 nd (aL O4 hr (aC (aD 1) aE)))
   (aI (kQ 5 nd (cQ aE))
   (aI (fZ (m:=8) jr rfl (cD (aD 2)) (dD 6 (by decide) nd rfl (.inl rfl))
    (aI (aW 7 nd (bQ (aC (aD 6) (aC gE (aC (bQ aE) aE)))))
    (aO (kF (mI 5 (aL PK hr (aC (Bv (yL hr) (aD 3) (aD 6) (aD 7)) (aC (Bv (yL hr) (aD 4) (aD 6) (aD 7)) aE))))))))
   (aO (aT (bQ (aC bB (aC (bK (fT rfl) rfl B.min boot_min (aC (aJ hr (aD 0) aG) (aC (aJ hr (aD 1) aG) aE))) (aC (bK (gV rfl) rfl B.max boot_max (aC (aJ hr (aD 0) aG) (aC (aJ hr (aD 1) aG) aE))) (aC (fD fK rfl B.tuple_ boot_tuple (aC (aD 5) aE)) aE)))))))))))) (λas R q=>?_)
 obtain⟨a,b,a',b',ks,js,ns,rfl,hD,hk,hj,h8,h8',ln,q⟩:=q;have nd:∀ks:List (List (Str×Tv)),((bL D ks).map (·.1)).Nodup:=λks=>by rw[nI];exact mE (hX _)
 refine⟨rfl,a,b,bL D ks,rfl,by rw[iO];omega,nd ks,a',b',bL D js,rfl,by rw[iO];omega,nd js,?_⟩;rw[dC]at q ⊢;rw[dC] 
 let T1:Tv:=.seq true [sT "record",iT a,iT b,.seq true ((bL D ks).map bG)]
 let T2:Tv:=.seq true [sT "record",iT a',iT b',.seq true ((bL D js).map bG)]
 show av.nx _ _;refine dw (ρ':=[.va T1,.va T2,.va (.seq false (ns.map sT)),.va (ql (bL D ks)),.va (ql (bL D js)),.no,.no,.no]) rfl ?_;refine⟨by simp,?_⟩;show av.nx _ _;refine dw (ρ':=[.va T1,.va T2,.va (.seq false (ns.map sT)),.va (ql (bL D ks)),.va (ql (bL D js)),.own [],.no,.no]) rfl ?_;refine lE sT (l:=ns) (λi ρ=>∃s6 s7:Sl,ρ=[.va T1,.va T2,.va (.seq false (ns.map sT)),.va (ql (bL D ks)),.va (ql (bL D js)),.own (((ns.take i).map (bX D (ks++js))).map bG),s6,s7]) ⟨.no,.no,rfl⟩ ?_ ?_
 ·rintro i n _ N hn ⟨s6,s7,rfl⟩ hN;refine⟨by simp,by simp,?_⟩;show av.nx _ _;refine dw (ρ':=[.va T1,.va T2,.va (.seq false (ns.map sT)),.va (ql (bL D ks)),.va (ql (bL D js)),.own (((ns.take i).map (bX D (ks++js))).map bG),.va (sT n),.va (bG (n,false,[]))]) rfl ?_;refine⟨⟨_,rfl⟩,_,rfl,_,rfl,_,rfl,_,rfl,n,n,(bX D ks n).2.1,(bX D js n).2.1,cm n ks,cm n js,?_,hk.at_v n,hj.at_v n,_,rfl,?_,?_⟩
  ·show [Ar.va ((dA ((bL D ks).map λx:jw=>(x.1,bG x)) n).getD (bG (n,false,[]))),.va ((dA ((bL D js).map λx:jw=>(x.1,bG x)) n).getD (bG (n,false,[])))]=_;rw[AC hD hk.ne,AC hD hj.ne];rfl
  ·rw[ak,ak,fu];omega
  ·refine hN _ ⟨.va (sT n),.va (bG (n,false,[])),?_⟩;rw[gu,hn,gb,gb,<-sD];rfl
 ·rintro _ ⟨s6,s7,rfl⟩;rw[jj];exact⟨_,aR (j:=1) rfl,_,aR (j:=1) rfl,.inl ⟨_,_,rfl,_,aR (j:=2) rfl,_,aR (j:=2) rfl,.inl ⟨_,_,rfl,_,_,rfl,by simp,q⟩⟩⟩
theorem eC{ks:List (List (Str×Tv))}(h:(aH (aN ks)).length<=8):dz D ks=.record (aX (aU ks)) (bD (aU ks)) (bL D ks):=by unfold dz bL;rw[if_pos h]
theorem fH{ks:List (List (Str×Tv))}(h:¬ (aH (aN ks)).length<=8):dz D ks=.table (aX (aU ks)) (bD (aU ks)) (bN (aN ks)) (D (cO ks)):=by unfold dz;rw[if_neg h]
noncomputable def ir(ks:List (List (Str×Tv))):List Tv:=if aN ks=[] then [] else [bV (bN (aN ks))]
def qJ:bz:=λas R=>∃(D:List Tv->List Pt) (V:List Tv->Prop) (ks:List (List (Str×Tv))),as=[.va (aQ (dz D ks))]/\da V ks/\R (.seq false (ir ks))
theorem ES(h:ao K mg "name_words" zG)(B:Own mg)(PD:ae P w K mg base 4 "words_of" Oq rF)   : ae P w K mg base 5 "name_words" Ol qJ:=by
 refine h.pg1 ["part","names"] (λnd hr=>
   (aI (bP (bU hr (aJ hr (aD 0) aG) bB)
    (aO (aT (bM (cQ (aC (aJ hr (aD 0) aG) aE)))))
    bO)
   (aI (jF (sc:=aY zG) (XN:=["part","names"]) (N:=["field"]) (fr:=[]) 1 nd (cD (aJ hr (aD 0) aG)) (λ_ _ _ _ _=>jO) (λ_ _ _ _ _=>(aJ hr (aD 0) aG)))
   (aO (aT (wB (eP tR (bK cF rfl B.len du (aC (aD 1) aE)) aG) (bM (cQ (aC (aL PD hr (aC (aD 1) aE)) aE))) (bM (cQ aE)))))))) (λas R q=>?_)
 obtain⟨D,V,ks,rfl,hk,q⟩:=q;have sl:(aZ (aH (aN ks))).length=(aH (aN ks)).length:=(dM _).length_eq;by_cases h:(aH (aN ks)).length<=8
 ·rw[eC h,dC];have ln:(bL D ks).length<=8:=by rw[iO];exact h
  refine⟨rfl,_,bc,_,rfl,sN (by decide +kernel) ⟨_,aR (j:=3) rfl,by rw[ak];omega,eJ bG (λx=>sT x.1) (λx hx R q=>⟨_,bc,q⟩) ?_⟩⟩;have en:((bL D ks).map λx=>sT x.1)=(aZ (aH (aN ks))).map sT:=by
   rw[<-nI (D:=D),dh];rfl
  rw[en];show av.nx _ _;refine dw (ρ':=[.va (.seq true [sT "record",iT (aX (aU ks)),iT (bD (aU ks)),.seq true ((bL D ks).map bG)]),.va (.seq false ((aZ (aH (aN ks))).map sT))]) rfl ?_;refine⟨_,rfl,jW (λz=>?_) (λz=>?_)⟩
  ·have z:(((aZ (aH (aN ks))).map sT).length:Int) > 0:=z;rw[ak]at z;have ne:aN ks≠[]:=λe=>by rw[sl,e]at z;exact absurd z (by decide)
   unfold ir at q;rw[if_neg ne,<-kC (ts:=aZ (aH (aN ks))) (us:=aN ks) λx=>sort_set_mem]at q;refine⟨_,rfl,pI ne,by omega,?_,λt ht=>hk.sm h t (sort_set_mem.mp ht),by simp,q⟩;have:=gA (A:=aZ (aH (aN ks))) (C:=aN ks) λx hx=>sort_set_mem.mp hx
   omega
  ·have z:¬ (((aZ (aH (aN ks))).map sT).length:Int) > 0:=z;rw[ak]at z;have e:aN ks=[]:=by
    apply Classical.byContradiction;intro ne;have:=qc2_.mpr (pI ne);omega
   unfold ir at q;rw[if_pos e]at q;exact⟨by simp,q⟩
 ·have ne:aN ks≠[]:=λe=>h (by rw[e];exact g6 _)
  unfold ir at q;rw[if_neg ne]at q;rw[fH h,eZ];exact⟨rfl,_,bc,_,rfl,sY ⟨_,aR (j:=3) rfl,by simp,q⟩⟩
noncomputable def fw(ks:List (List (Str×Tv))):List (List Tv):=if (aH (aN ks)).length<=8 then(aZ (aH (aN ks))).map (λn=>cm n ks) else [cO ks]
theorem sP{ks:List (List (Str×Tv))}(nd:∀k∈ks,(k.map (·.1)).Nodup)(v:Tv):v∈(fw ks).flatten↔v∈cO ks:=by
 unfold fw;split
 ·rw[qc1_,BG];constructor
  ·rintro⟨l,hl,hv⟩;obtain⟨n,_,rfl⟩:=qd_.mp hl;obtain⟨k,hk,e⟩:=(kI nd).mp hv;exact⟨k,hk,n,e⟩
  ·rintro⟨k,hk,n,e⟩;refine⟨cm n ks,qd_.mpr ⟨n,sort_set_mem.mpr (qo1_.mpr ⟨k,hk,qd_.mpr ⟨_,e,rfl⟩⟩),rfl⟩,(kI nd).mpr ⟨k,hk,e⟩⟩
 ·rw[i9,List.flatten_nil,gk]
theorem sQ(ks:List (List (Str×Tv))):(fw ks).length<=8:=by
 unfold fw;split
 ·rename_i h;rw[ak,(dM _).length_eq];exact h
 ·simp
def gX:bz:=λas R=>∃(D:List Tv->List Pt) (ks:List (List (Str×Tv))),as=[.va (aQ (dz D ks))]/\R (.seq false ((fw ks).map λA=>bE (D A)))
theorem EM(h:ao K mg "forms_within" zI)(B:Own mg)    : ae P w K mg base 1 "forms_within" Ol gX:=by
 refine h.pg1 Ol (λnd hr=>
   (aI (bP (bU hr (aJ hr (aD 0) aG) bB)
    (aO (aT (bM (cQ (aC (aJ hr (aD 0) aG) aE)))))
    bO)
   (aI (bP (bU hr (aJ hr (aD 0) aG) bB)
    (aO (aT (bM (fM (sc:=aY zI) (XN:=Ol) (N:=["field"]) (fr:=[]) (cD (aJ hr (aD 0) aG)) (λ_ _ _ _ _=>(aJ hr (aD 0) aG))))))
    bO)
   (aI (bP (bU hr (aJ hr (aD 0) aG) bB)
    (aO (aT (bM (cQ (aC (aJ hr (aD 0) aG) aE)))))
    bO)
   (aO (aT (bM (cQ aE)))))))) (λas R q=>?_)
 obtain⟨D,ks,rfl,q⟩:=q;unfold fw at q;by_cases h:(aH (aN ks)).length<=8
 ·rw[if_pos h,dh]at q;rw[eC h,dC];have ln:(bL D ks).length<=8:=by rw[iO];exact h
  refine⟨rfl,_,bc,_,rfl,sN (by decide +kernel) ⟨_,bc,_,rfl,sY ⟨_,aR (j:=3) rfl,by rw[ak];omega,eJ bG (λx=>bE x.2.2) (λx hx R q=>⟨_,aR (j:=2) rfl,q⟩) ?_⟩⟩⟩;unfold bL;rw[dh];exact q
 ·rw[if_neg h]at q;rw[fH h,eZ];exact⟨rfl,_,bc,_,rfl,sN (by decide +kernel) ⟨_,bc,_,rfl,sN (by decide +kernel) ⟨_,bc,_,rfl,sY ⟨_,aR (j:=4) rfl,by simp,q⟩⟩⟩⟩
def xl(D:List Tv->List Pt)(V:List Tv->Prop):bz:=λas R=>∃As:List (List Tv),as=[.va (.seq false (As.map λA=>bE (D A)))]/\ng D/\jv V/\(∀A∈As,V A)/\R (bE (D As.flatten))
theorem Ej(h:ao K mg "all_joined" uF)(B:Own mg)(OZ:ae P w K mg base lv "joined" Oh (kl D V))   : ae P w K mg base (lv+1) "all_joined" ["forms"] (xl D V):=by
 refine h.pg1 ["forms","whole","form"] (λnd hr=>
   (aI (aW 1 nd (bQ aE))
   (aI (fZ (m:=3) jr rfl (cD (aD 0)) (dD 2 (by decide) nd rfl (.inl rfl))
    (aO (aW 1 nd (aL OZ hr (aC (aD 1) (aC (aD 2) aE))))))
   (aO (aT (aD 1)))))) (λas R q=>?_)
 obtain⟨As,rfl,hD,cl,hV,q⟩:=q;have fl:∀L:List (List Tv),(∀A∈L,V A)->V L.flatten:=λL=>by
  induction L with
  |nil=>exact λ_=>cl.nil
  |cons A L ih=>exact λh=>cl.app A L.flatten (h A (.head _)) (ih λB hB=>h B (.tail _ hB))
 refine⟨rfl,by simp,?_⟩;refine lE (λA=>bE (D A)) (l:=As) (λi ρ=>∃s2:Sl,ρ=[.va (.seq false (As.map λA=>bE (D A))),.va (bE (D (As.take i).flatten)),s2]) ⟨.no,by rw[r8,List.flatten_nil,hD.nil];rfl⟩ ?_ ?_
 ·rintro i A _ N hA ⟨s2,rfl⟩ hN;refine⟨(As.take i).flatten,A,rfl,fl _ λB hB=>hV B ((sy _ _).subset hB),hV A (i5 hA),hN _ ⟨.va (bE (D A)),?_⟩⟩
  ·rw[gu,hA,jf];show [_,_,_]=[_,Sl.va (bE (D ((As.take i).flatten++(A++[])))),_];rw[gk]
 ·rintro _ ⟨s2,rfl⟩;rw[jj];exact q
def zK(D:List Tv->List Pt)(V:List Tv->Prop):bz:=λas R=>∃ks js:List (List (Str×Tv)),as=[.va (aQ (dz D ks)),.va (aQ (dz D js))]/\ng D/\jv V/\da V ks/\da V js/\aN ks++aN js≠[]/\R (aQ (.table (min (aX (aU ks)) (aX (aU js))) (max (bD (aU ks)) (bD (aU js))) (bN (aN ks++aN js)) (D (cO ks++cO js))))
theorem AW(ks:List (List (Str×Tv))):∃(w:Str) (r:List Tv),aQ (dz D ks)=.seq true (sT w::iT (aX (aU ks))::iT (bD (aU ks))::r):=by
 by_cases h:(aH (aN ks)).length<=8
 ·rw[eC h,dC];exact⟨_,_,rfl⟩
 ·rw[fH h,eZ];exact⟨_,_,rfl⟩
theorem yj(ks:List (List (Str×Tv))):(ir ks).length<=1:=by
 unfold ir;split<;>simp
theorem ET(h:ao K mg "tables_joined" uI)(B:Own mg)(O9:ae P w K mg base 5 "name_words" Ol qJ)(O5:ae P w K mg base 5 "words_joined" Oh mO)(PU:ae P w K mg base (lv+1) "all_joined" ["forms"] (xl D V))(O8:ae P w K mg base 1 "forms_within" Ol gX)   : ae P w K mg base (lv+6) "tables_joined" Oh (zK D V):=by
 refine h.pg2 ["one","other","words","make","form"] (λnd hr=>
   (aI (aW 2 nd (bC bY (aL O9 hr (aC (aD 0) aE)) (aL O9 hr (aC (aD 1) aE))))
   (aI (aW 3 nd (wB (bU hr (bK cF rfl B.len du (aC (aD 2) aE)) aG) (aJ hr (aD 2) aG) (aL O5 hr (aC (aJ hr (aD 2) aG) (aC (aJ hr (aD 2) aG) aE)))))
   (aI (aW 4 nd (aL PU hr (aC (bC bY (aL O8 hr (aC (aD 0) aE)) (aL O8 hr (aC (aD 1) aE))) aE)))
   (aO (aT (bQ (aC bB (aC (bK (fT rfl) rfl B.min boot_min (aC (aJ hr (aD 0) aG) (aC (aJ hr (aD 1) aG) aE))) (aC (bK (gV rfl) rfl B.max boot_max (aC (aJ hr (aD 0) aG) (aC (aJ hr (aD 1) aG) aE))) (aC (aD 3) (aC (aD 4) aE)))))))))))) (λas R q=>?_)
 obtain⟨ks,js,rfl,hD,cl,hk,hj,ok,q⟩:=q;have l1:=yj ks;have l2:=yj js;refine⟨rfl,D,V,ks,rfl,hk,D,V,js,rfl,hj,by omega,?_⟩;show av.nx _ _;refine dw (ρ':=[.va (aQ (dz D ks)),.va (aQ (dz D js)),.va (.seq false (ir ks++ir js)),.no,.no]) rfl ?_;dsimp only;refine MW (J:=λρ'=>ρ'=[.va (aQ (dz D ks)),.va (aQ (dz D js)),.va (.seq false (ir ks++ir js)),.va (bV (bN (aN ks++aN js))),.no]) ?rest (λrest=>?main)
 case main=>
  by_cases n1:aN ks=[]
  ·have e1:ir ks=[]:=by unfold ir;rw[if_pos n1]
   have n2:aN js≠[]:=λz=>ok (by rw[n1,z];rfl)
   have e2:ir js=[bV (bN (aN js))]:=by unfold ir;rw[if_neg n2]
   rw[e1,e2,n1,gi,gi]at rest;rw[e1,e2,gi];exact⟨_,rfl,cL (λ_=>⟨_,bc,rest _ rfl⟩) (λz=>absurd rfl z)⟩
  ·have e1:ir ks=[bV (bN (aN ks))]:=by unfold ir;rw[if_neg n1]
   by_cases n2:aN js=[]
   ·have e2:ir js=[]:=by unfold ir;rw[if_pos n2]
    rw[e1,e2,n2,gk,gk]at rest;rw[e1,e2,gk];exact⟨_,rfl,cL (λ_=>⟨_,bc,rest _ rfl⟩) (λz=>absurd rfl z)⟩
   ·have e2:ir js=[bV (bN (aN js))]:=by unfold ir;rw[if_neg n2]
    rw[e1,e2,j3,gi]at rest;rw[e1,e2,j3,gi];exact⟨_,rfl,cL (λz=>absurd z (show ¬ ((2:Nat):Int)=1 by decide)) (λ_=>⟨_,bc,_,aR (j:=1) rfl,aN ks,aN js,rfl,hk.nm.resolve_left n1,hj.nm.resolve_left n2,rest _ rfl⟩)⟩
 case rest=>
  rintro _ rfl;have f1:=sQ ks;have f2:=sQ js;refine⟨D,ks,rfl,D,js,rfl,by rw[ak,ak];omega,fw ks++fw js,by rw[gb],hD,cl,λA hA=>?_,?_⟩
  ·have f:∀ks:List (List (Str×Tv)),da V ks->∀A∈fw ks,V A:=λks hk A hA=>by
    unfold fw at hA;split at hA
    ·obtain⟨n,_,rfl⟩:=qd_.mp hA;exact hk.at_v n
    ·rw[qJ_.mp hA];exact hk.vls
   rcases qj_.mp hA with z|z
   ·exact f ks hk A z
   ·exact f js hj A z
  have eD:D (fw ks++fw js).flatten=D (cO ks++cO js):=hD.same _ _ λv=>by
   rw[jf,qj_,qj_,sP hk.nd,sP hj.nd]
  rw[eD];obtain⟨w1,r1,E1⟩:=AW (D:=D) ks;obtain⟨w2,r2,E2⟩:=AW (D:=D) js;show av.nx _ _;refine dw (ρ':=[.va (.seq true (sT w1::iT (aX (aU ks))::iT (bD (aU ks))::r1)),.va (.seq true (sT w2::iT (aX (aU js))::iT (bD (aU js))::r2)),.va (.seq false (ir ks++ir js)),.va (bV (bN (aN ks++aN js))),.va (bE (D (cO ks++cO js)))]) (by rw[E1,E2];rfl) ?_;rw[eZ]at q;exact⟨_,aR (j:=1) rfl,_,aR (j:=1) rfl,.inl ⟨_,_,rfl,_,aR (j:=2) rfl,_,aR (j:=2) rfl,.inl ⟨_,_,rfl,by simp,q⟩⟩⟩
variable{D:List Tv->List Pt}{V V':List Tv->Prop}{lv:Nat}
def oN(D:List Tv->List Pt)(V:List Tv->Prop):bz:=λas R=>∃ks js:List (List (Str×Tv)),as=[.va (aQ (dz D ks)),.va (aQ (dz D js))]/\ng D/\jv V/\da V ks/\da V js/\R (aQ (dz D (ks++js)))
theorem Eg(h:ao K mg "dicts_joined" uH)(B:Own mg)(O4:ae P w K mg base 1 "fields_by_name" Ot oM)(PL:ae P w K mg base (lv+2) "records_joined" ["one","other","names"] (xo D V))(PN:ae P w K mg base (lv+6) "tables_joined" Oh (zK D V))(GMOST_FIELDS:fW K mg "MOST_FIELDS" (iT 8))  : ae P w K mg base (lv+7) "dicts_joined" Oh (oN D V):=by
 refine h.pg2 ["one","other","names"] (λnd hr=>
   (aI (bP (fF (kJ (bU hr (aJ hr (aD 0) aG) bB) (mW (bU hr (aJ hr (aD 1) aG) bB))))
    (aI (aW 2 nd (bM (C1 rfl rfl B.sorted rfl B.set_ (aL O4 hr (aC (aD 0) aE)) (aL O4 hr (aC (aD 1) aE)))))
    (aO (bP (eP xq (bK cF rfl B.len du (aC (aD 2) aE)) (tK GMOST_FIELDS rfl))
     (aO (aT (aL PL hr (aC (aD 0) (aC (aD 1) (aC (aD 2) aE))))))
     bO)))
    bO)
   (aO (aT (aL PN hr (aC (aD 0) (aC (aD 1) aE))))))) (λas R q=>?_)
 obtain⟨ks,js,rfl,hD,cl,hk,hj,q⟩:=q;have la:=BY hk.ne hj.ne;have tab:¬ (aH (aN (ks++js))).length<=8->∀T1 T2:Tv,T1=aQ (dz D ks)->T2=aQ (dz D js)->∀s2:Sl,lV (gF (zK D V) (dF (dI 0) (dF (dI 1) eG))) {nx:=λx=>R nT,rt:=R} [.va T1,.va T2,s2]:=by
  rintro h T1 T2 rfl rfl s2;rw[fH h,la.1,la.2,gR,show cO (ks++js)=cO ks++cO js from o_ ..]at q;refine⟨ks,js,rfl,hD,cl,hk,hj,(λe=>h ?_),q⟩;rw[gR,e];exact g6 _
 have nd:∀ks:List (List (Str×Tv)),((bL D ks).map (·.1)).Nodup:=λks=>by rw[nI];exact mE (hX _)
 have sl:∀l:List Str,(aZ (aH l)).length=(aH l).length:=λl=>(dM _).length_eq
 by_cases h1:(aH (aN ks)).length<=8
 ·have e1:=eC (D:=D) h1;have E1:=dC (aX (aU ks)) (bD (aU ks)) (bL D ks);by_cases h2:(aH (aN js)).length<=8
  ·have e2:=eC (D:=D) h2;have E2:=dC (aX (aU js)) (bD (aU js)) (bL D js);have tab:=λh=>tab h _ _ (by rw[e1,E1]) (by rw[e2,E2])
   have sN8:∀ks:List (List (Str×Tv)),aZ (aH (aN ks))=((bL D ks).map λx:jw=>(x.1,bG x)).map (·.1):=λks=>by
    rw[dh];exact(nI (D:=D) ks).symm
   have eN:aZ (aH (aZ (aH (aN ks))++aZ (aH (aN js))))=aZ (aH (aN (ks++js))):=(gQ λx=>by rw[gR,qj_,qj_,sort_set_mem,sort_set_mem]).2;have l1:=sl (aN ks);have l2:=sl (aN js);have l3:=sl (aN (ks++js));rw[e1,e2,E1,E2];refine⟨rfl,_,bc,_,rfl,sY ⟨_,bc,_,rfl,sY ⟨_,_,bL D ks,by rw[E1],by rw[iO];omega,nd ks,aZ (aH (aN ks)),.inr ⟨_,rfl,sN8 ks⟩,by omega,_,_,bL D js,by rw[E2],by rw[iO];omega,nd js,aZ (aH (aN js)),.inr ⟨_,rfl,sN8 js⟩,by omega,?_⟩⟩⟩;rw[eN];show av.nx _ _;refine dw (ρ':=[.va (.seq true [sT "record",iT (aX (aU ks)),iT (bD (aU ks)),.seq true ((bL D ks).map bG)]),.va (.seq true [sT "record",iT (aX (aU js)),iT (bD (aU js)),.seq true ((bL D js).map bG)]),.va (.seq false ((aZ (aH (aN (ks++js)))).map sT))]) rfl ?_;refine⟨_,rfl,jW (λz=>?_) (λz=>?_)⟩
   ·have z:(((aZ (aH (aN (ks++js)))).map sT).length:Int)<=8:=z;rw[ak]at z;rw[eC (by omega),la.1,la.2]at q;exact⟨_,_,_,_,ks,js,aZ (aH (aN (ks++js))),by rw[E1,E2],hD,hk,hj,h1,h2,by omega,q⟩
   ·have z:¬ (((aZ (aH (aN (ks++js)))).map sT).length:Int)<=8:=z;rw[ak]at z;exact tab (by omega) (.va (.seq false ((aZ (aH (aN (ks++js)))).map sT)))
  ·have e2:=fH (D:=D) h2;have E2:=eZ (aX (aU js)) (bD (aU js)) (bN (aN js)) (D (cO js));have big:¬ (aH (aN (ks++js))).length<=8:=λz=>h2 (cx (gA (A:=aN js) λx hx=>by rw[gR];exact de _ hx) z)
   have tab:=tab big _ _ (by rw[e1,E1]) (by rw[e2,E2]);rw[e1,e2,E1,E2];exact⟨rfl,_,bc,_,rfl,sY ⟨_,bc,_,rfl,sN (by decide +kernel) (tab .no)⟩⟩
 ·have e1:=fH (D:=D) h1;have E1:=eZ (aX (aU ks)) (bD (aU ks)) (bN (aN ks)) (D (cO ks));have big:¬ (aH (aN (ks++js))).length<=8:=λz=>h1 (cx (gA (A:=aN ks) λx hx=>by rw[gR];exact gg _ hx) z)
  have tab:=λT2 e=>tab big _ T2 (by rw[e1,E1]) e
  rw[e1,E1];exact⟨rfl,_,bc,_,rfl,sN (by decide +kernel) (bH (tab _ rfl .no))⟩
def xn(D:List Tv->List Pt)(V:List Tv->Prop):bz:=λas R=>∃(a b a' b':Int) (A B:List Tv),as=[.va (aQ (.lists a b (D A))),.va (aQ (.lists a' b' (D B)))]/\V A/\V B/\R (aQ (.lists (min a a') (max b b') (D (A++B))))
theorem Eh(h:ao K mg "lists_joined" uG)(B:Own mg)(OZ:ae P w K mg base lv "joined" Oh (kl D V))   : ae P w K mg base (lv+7) "lists_joined" Oh (xn D V):=by
 refine h.pg2 Oh (λnd hr=>
   (aO (aT (bQ (aC bB (aC (bK (fT rfl) rfl B.min boot_min (aC (aJ hr (aD 0) aG) (aC (aJ hr (aD 1) aG) aE))) (aC (bK (gV rfl) rfl B.max boot_max (aC (aJ hr (aD 0) aG) (aC (aJ hr (aD 1) aG) aE))) (aC (aL OZ hr (aC (aJ hr (aD 0) aG) (aC (aJ hr (aD 1) aG) aE))) aE)))))))) (λas R q=>?_)
 obtain⟨a,b,a',b',A,B,rfl,hA,hB,q⟩:=q;rw[gM]at q ⊢;rw[gM];exact⟨rfl,_,aR (j:=1) rfl,_,aR (j:=1) rfl,.inl ⟨_,_,rfl,_,aR (j:=2) rfl,_,aR (j:=2) rfl,.inl ⟨_,_,rfl,_,aR (j:=3) rfl,_,aR (j:=3) rfl,A,B,rfl,hA,hB,by simp,q⟩⟩⟩
structure dn (V:List Tv->Prop) (vs:List Tv):Prop where
 tx:vs.filterMap f7=[]\/cu (vs.filterMap f7)
 ls:V (vs.filterMap b8).flatten
 dk:vs.filterMap d3=[]\/da V (vs.filterMap d3)
def lY(D:List Tv->List Pt)(V V':List Tv->Prop):bz:=λas R=>∃(A B:List Tv) (k:Nat) (p q r:Pt),as=[.va (aQ p),.va (aQ q)]/\ng D/\jv V/\dn V A/\dn V B/\V' A/\V' B/\bF D A k=some p/\bF D B k=some q/\bF D (A++B) k=some r/\R (aQ r)
theorem cU{c:Prop}[Decidable c]{x p:Pt}(h:(if c then none else some x)=some p):¬ c/\x=p:=by
 by_cases z:c
 ·rw[if_pos z]at h;cases h
 ·rw[if_neg z]at h;exact⟨z,by injection h⟩
theorem AR(bs cs:List Bool):cp (b7 (bs++cs)) (b5 (bs++cs))=cp (b7 (cp (b7 bs) (b5 bs)) || b7 (cp (b7 cs) (b5 cs))) (b5 (cp (b7 bs) (b5 bs)) || b5 (cp (b7 cs) (b5 cs))):=by
 have e:∀f t:Bool,b7 (cp f t)=f/\b5 (cp f t)=t:=λf t=>by cases f<;>cases t<;>exact⟨rfl,rfl⟩
 rw[(e _ _).1,(e _ _).2,(e _ _).1,(e _ _).2];unfold b7 b5;rw[je,je]
theorem DE:dP Oh Oh (aY qI):=lg (by decide +kernel)
theorem Ei(h:ao K mg "parts_joined" qI)(B:Own mg)(Pm:ae P w K mg base 3 "run_joined" Oh pU)(O5:ae P w K mg base 5 "words_joined" Oh mO)(PQ:ae P w K mg base (lv+7) "lists_joined" Oh (xn D V))(PP:ae P w K mg base (lv+7) "dicts_joined" Oh (oN D V))   : ae P w K mg base (lv+8) "parts_joined" Oh (lY D V V'):=by
 refine h.pg2 Oh (λnd hr=>
   (aI (bP (bU hr (aJ hr (aD 0) aG) bB)
    (aO (aT (aD 0)))
    bO)
   (aI (bP (bU hr (aJ hr (aD 0) aG) bB)
    (aO (aT (bQ (aC bB (aC (fD fK rfl B.tuple_ boot_tuple (aC (bM (Nz rfl rfl B.sorted rfl B.set_ (aJ hr (aD 0) aG) (aJ hr (aD 1) aG))) aE)) aE)))))
    bO)
   (aI (bP (bU hr (aJ hr (aD 0) aG) bB)
    (aO (aT (bC bY (bQ (aC bB aE)) (aL Pm hr (aC (iY jG (aD 0) (jB aG) jC) (aC (iY jG (aD 1) (jB aG) jC) aE))))))
    bO)
   (aI (bP (bU hr (aJ hr (aD 0) aG) bB)
    (aO (aT (bQ (aC bB (aC (aL O5 hr (aC (aJ hr (aD 0) aG) (aC (aJ hr (aD 1) aG) aE))) aE)))))
    bO)
   (aI (bP (bU hr (aJ hr (aD 0) aG) bB)
    (aO (aT (aL PQ hr (aC (aD 0) (aC (aD 1) aE)))))
    bO)
   (aO (aT (aL PP hr (aC (aD 0) (aC (aD 1) aE))))))))))) (λas R q=>?_)
 obtain⟨A,B,k,p,p',r,rfl,hD,cl,vA,vB,_,_,h1,h2,h3,q⟩:=q;have fa:∀{α:Type} (f:Tv->Option α),(A++B).filterMap f=A.filterMap f++B.filterMap f:=λf=>fk ..
 unfold bF at h1;split at h1
 ·have hA:dS A=true:=by
   apply Classical.byContradiction;intro z;rw[if_neg z]at h1;cases h1
  rw[if_pos hA]at h1;cases h1;have h3:(if dS (A++B)=true then some Pt.nothing else none)=some r:=h3;rw[if_pos (by unfold dS at hA ⊢;rw[je,hA];rfl)]at h3;cases h3;rw[uY]at q ⊢;exact⟨rfl,_,bc,_,rfl,sY q⟩
 ·have h3:(if (A++B).filterMap fh=[] then none else some (Pt.truths (cp (b7 ((A++B).filterMap fh)) (b5 ((A++B).filterMap fh)))))=some r:=h3;obtain⟨nA,rfl⟩:=cU h1;obtain⟨nB,rfl⟩:=cU (c:=B.filterMap fh=[]) h2;rw[fa fh,if_neg (λe=>nA (qU_.mp e).1),AR]at h3;cases h3;rw[oR]at q ⊢;rw[oR];exact⟨rfl,_,bc,_,rfl,sN (by decide +kernel) ⟨_,bc,_,rfl,sY ⟨_,aR (j:=1) rfl,_,rfl,_,aR (j:=1) rfl,_,rfl,_,_,rfl,by simp,q⟩⟩⟩
 ·have h3:(if (A++B).filterMap gq=[] then none else some (Pt.numbers (cK ((A++B).filterMap gq)).1 (cK ((A++B).filterMap gq)).2.1 (cK ((A++B).filterMap gq)).2.2))=some r:=h3;obtain⟨nA,rfl⟩:=cU h1;obtain⟨nB,rfl⟩:=cU (c:=B.filterMap gq=[]) h2;rw[fa gq,if_neg (λe=>nA (qU_.mp e).1),<-CV nA nB]at h3;cases h3;rw[pA]at q ⊢;rw[pA];exact⟨rfl,_,bc,_,rfl,sN (by decide +kernel) ⟨_,bc,_,rfl,sN (by decide +kernel) ⟨_,bc,_,rfl,sY ⟨by simp,_,rfl,_,rfl,_,_,rfl,(mL nA).ok,(mL nB).ok,by simp,q⟩⟩⟩⟩
 ·have h3:(if (A++B).filterMap f7=[] then none else some (Pt.texts (bN ((A++B).filterMap f7))))=some r:=h3;obtain⟨nA,rfl⟩:=cU h1;obtain⟨nB,rfl⟩:=cU (c:=B.filterMap f7=[]) h2;have ne:A.filterMap f7++B.filterMap f7≠[]:=λe=>nA (qU_.mp e).1
  rw[fa f7,if_neg ne]at h3;cases h3;rw[oT]at q ⊢;rw[oT];exact⟨rfl,_,bc,_,rfl,sN (by decide +kernel) ⟨_,bc,_,rfl,sN (by decide +kernel) ⟨_,bc,_,rfl,sN (by decide +kernel) ⟨_,bc,_,rfl,sY ⟨_,aR (j:=1) rfl,_,aR (j:=1) rfl,_,_,rfl,vA.tx.resolve_left nA,vB.tx.resolve_left nB,by simp,q⟩⟩⟩⟩⟩
 ·have h3:(if (A++B).filterMap b8=[] then none else some (Pt.lists (aX (cE ((A++B).filterMap b8))) (bD (cE ((A++B).filterMap b8))) (D ((A++B).filterMap b8).flatten)))=some r:=h3;obtain⟨nA,rfl⟩:=cU h1;obtain⟨nB,rfl⟩:=cU (c:=B.filterMap b8=[]) h2;have l1:cE (A.filterMap b8)≠[]:=by unfold cE;simpa using nA
  have l2:cE (B.filterMap b8)≠[]:=by unfold cE;simpa using nB
  rw[fa b8,if_neg (λe=>nA (qU_.mp e).1),show cE (A.filterMap b8++B.filterMap b8)=cE (A.filterMap b8)++cE (B.filterMap b8) from gb ..,rW l1 l2,rX l1 l2,jf]at h3;cases h3;have ea:∀(a b a' b':Int) (f g:List Pt),[Ar.va (.seq true [sT "lists",iT a,iT b,bE f]),.va (.seq true [sT "lists",iT a',iT b',bE g])]=[.va (aQ (.lists a b f)),.va (aQ (.lists a' b' g))]:=λa b a' b' f g=>by rw[gM,gM]
  rw[gM (aX (cE (A.filterMap b8))),gM (aX (cE (B.filterMap b8)))];refine⟨rfl,_,bc,_,rfl,sN (by decide +kernel) ⟨_,bc,_,rfl,sN (by decide +kernel) ⟨_,bc,_,rfl,sN (by decide +kernel) ⟨_,bc,_,rfl,sN (by decide +kernel) ⟨_,bc,_,rfl,sY ⟨_,_,_,_,_,_,ea _ _ _ _ _ _,vA.ls,vB.ls,q⟩⟩⟩⟩⟩⟩
 ·have h3:(if (A++B).filterMap d3=[] then none else some (dz D ((A++B).filterMap d3)))=some r:=h3;obtain⟨nA,rfl⟩:=cU h1;obtain⟨nB,rfl⟩:=cU (c:=B.filterMap d3=[]) h2;rw[fa d3,if_neg (λe=>nA (qU_.mp e).1)]at h3;cases h3;have fin:∀T1:Tv,T1=aQ (dz D (A.filterMap d3))->lV (gF (oN D V) (dF (dI 0) (dF (dI 1) eG))) {nx:=λx=>R nT,rt:=R} [.va T1,.va (aQ (dz D (B.filterMap d3)))]:=by
   rintro T1 rfl;exact⟨_,_,rfl,hD,cl,vA.dk.resolve_left nA,vB.dk.resolve_left nB,q⟩
  by_cases h:(aH (aN (A.filterMap d3))).length<=8
  ·have fin:=fin _ (by rw[eC h,dC]);rw[eC h,dC (aX (aU (A.filterMap d3)))];exact⟨rfl,_,bc,_,rfl,sN (by decide +kernel) ⟨_,bc,_,rfl,sN (by decide +kernel) ⟨_,bc,_,rfl,sN (by decide +kernel) ⟨_,bc,_,rfl,sN (by decide +kernel) ⟨_,bc,_,rfl,sN (by decide +kernel) fin⟩⟩⟩⟩⟩
  ·have fin:=fin _ (by rw[fH h,eZ]);rw[fH h,eZ (aX (aU (A.filterMap d3)))];exact⟨rfl,_,bc,_,rfl,sN (by decide +kernel) ⟨_,bc,_,rfl,sN (by decide +kernel) ⟨_,bc,_,rfl,sN (by decide +kernel) ⟨_,bc,_,rfl,sN (by decide +kernel) ⟨_,bc,_,rfl,sN (by decide +kernel) fin⟩⟩⟩⟩⟩
 ·cases h1
variable{D:List Tv->List Pt}{V V':List Tv->Prop}{lv:Nat}
theorem pF{A B:List Tv}{k:Nat}(h:bF D B k=none):bF D (A++B) k=bF D A k:=by
 have no:∀{c:Prop} [Decidable c] {x:Pt},(if c then none else some x)=none->c:=λ{c} _ {x} h=>by
  by_cases z:c
  ·exact z
  ·rw[if_neg z]at h;cases h
 unfold bF at h ⊢;split at h
 ·have hB:dS B=false:=by
   cases e:dS B with
   |false=>rfl
   |true=>rw[e,if_pos rfl]at h;cases h
  have:dS (A++B)=dS A:=by
   show(A++B).any _=A.any _;rw[je,show(B.any λv=>lR v==0)=false from hB,kx]
  rw[this]
 all_goals first|(have z:=no h;rw[fk,z,gk])|rfl
theorem vT{A B:List Tv}{k:Nat}(h:bF D A k=none):bF D (A++B) k=bF D B k:=by
 have no:∀{c:Prop} [Decidable c] {x:Pt},(if c then none else some x)=none->c:=λ{c} _ {x} h=>by
  by_cases z:c
  ·exact z
  ·rw[if_neg z]at h;cases h
 unfold bF at h ⊢;split at h
 ·have hB:dS A=false:=by
   cases e:dS A with
   |false=>rfl
   |true=>rw[e,if_pos rfl]at h;cases h
  have:dS (A++B)=dS B:=by
   show(A++B).any _=B.any _;rw[je,show(A.any λv=>lR v==0)=false from hB,p9]
  rw[this]
 all_goals first|(have z:=no h;rw[fk,z,gi])|rfl
theorem BP{A B:List Tv}{k:Nat}{p:Pt}(h:bF D A k=some p):∃r,bF D (A++B) k=some r:=by
 have no:∀{c:Prop} [Decidable c] {x:Pt},(if c then none else some x)=none->c:=λ{c} _ {x} h=>by
  by_cases z:c
  ·exact z
  ·rw[if_neg z]at h;cases h
 cases e:bF D (A++B) k with
 |some r=>exact⟨r,rfl⟩
 |none=>
  unfold bF at h e;split at h
  ·have hA:dS A=true:=by
    cases z:dS A with
    |true=>rfl
    |false=>rw[z,if_neg cq]at h;cases h
   have:dS (A++B)=true:=by
    show(A++B).any _=true;rw[je,show(A.any λv=>lR v==0)=true from hA];rfl
   rw[this,if_pos rfl]at e;cases e
  all_goals first|(have z:=no e;rw[fk]at z;exact absurd (qU_.mp z).1 (cU h).1)|cases h
noncomputable def d8(D:List Tv->List Pt)(vs:List Tv):List Pt:=kN6.filterMap (bF D vs)
theorem A1{vs:List Tv}{k:Nat}(h:k∈kN6):eQ (d8 D vs) k=bF D vs k:=A0 (λ_ _=>Dd) kN6 k h (by decide)
theorem xg(h:ao K mg "joined" qH)(B:Own mg)(O7:ae P w K mg base 2 "part_for" OA oX)(PR:ae P w K mg base (lv+8) "parts_joined" Oh (lY D V V'))(GKINDS:fW K mg "KINDS" (.seq true (kN6.map λk=>sT (fJ k))))(hD:ng D)(cl:jv V)(hV:∀A,V' A->dn V A):ae P w K mg base (lv+9) "joined" Oh (kl (d8 D) V'):=by
 refine h.pg2 ["one","other","parts","kind","both"] (λnd hr=>
   (aI (kQ 2 nd (cQ aE))
   (aI (fZ (m:=5) jr rfl (cD (tK GKINDS rfl)) (dD 3 (by decide) nd rfl (.inl rfl))
    (aI (jF (sc:=aY qH) (XN:=["one","other","parts","kind","both"]) (N:=Ol) (fr:=[]) 4 nd (cD (bM (cQ (aC (aL O7 hr (aC (aD 0) (aC (aD 3) aE))) (aC (aL O7 hr (aC (aD 1) (aC (aD 3) aE))) aE))))) (λ_ _ _ _ _=>(kK (eP LK (aD 0) nG))) (λ_ _ _ _ _=>(aD 0)))
    (aI (bP (bU hr (bK cF rfl B.len du (aC (aD 4) aE)) aG)
     (aO (kF (mI 2 (aJ hr (aD 4) aG))))
     bO)
    (aO (bP (bU hr (bK cF rfl B.len du (aC (aD 4) aE)) aG)
     (aO (kF (mI 2 (aL PR hr (aC (aJ hr (aD 4) aG) (aC (aJ hr (aD 4) aG) aE))))))
     bO)))))
   (aO (aT (fD fK rfl B.tuple_ boot_tuple (aC (aD 2) aE))))))) (λas R q=>?_)
 obtain⟨A,B,rfl,hA,hB,q⟩:=q;refine⟨rfl,by simp,?_⟩;show av.nx _ _;refine dw (ρ':=[.va (bE (d8 D A)),.va (bE (d8 D B)),.own [],.no,.no]) rfl ?_;refine kZ (λi ρ=>∃(L:List Pt) (s1 s2:Sl),L=((kN6.take i).filterMap (bF D (A++B)))/\ρ=[.va (bE (d8 D A)),.va (bE (d8 D B)),.own (L.map aQ),s1,s2]) ⟨[],.no,.no,rfl,rfl⟩ ?_ ?_
 ·rintro i T _ N hT ⟨L,s1,s2,eL,rfl⟩ hN;have hT:(kN6.map λk=>sT (fJ k))[i]?=some T:=hT;rw[gf,qa1_]at hT;obtain⟨k,hk,rfl⟩:=hT;have hkm:k∈kN6:=i5 hk;have hk6:k<=5:=by
   simp only[kN6,qe_,b_,or_false]at hkm;omega
  have hi:i<6:=(qB_.mp hk).1;have et:(kN6.take (i+1)).filterMap (bF D (A++B))=(kN6.take i).filterMap (bF D (A++B))++(bF D (A++B) k).toList:=by
   rw[gu,fk,hk];cases e:bF D (A++B) k<;>simp[e]
  have ll:((kN6.take i).filterMap (bF D (A++B))).length<=6:=by
   refine cx (n9 _ _) ?_;rw[fu];omega
  rw[<-eL]at et ll;refine⟨d8 D A,k,rfl,hk6,d8 D B,k,rfl,hk6,by simp,by simp,?_⟩;have fA:((d8 D A).find? λp=>decide (bZ p=k))=bF D A k:=A1 hkm;have fB:((d8 D B).find? λp=>decide (bZ p=k))=bF D B k:=A1 hkm;rw[fA,fB];refine iA zP (λo=>o.map aQ) (l:=[bF D A k,bF D B k]) (λo ho R q=>?_) ?_
  ·cases o with
   |none=>exact⟨_,rfl,bH q⟩
   |some p=>
    obtain⟨r,e,_⟩:=wT p;have q:R (some (aQ p)) _:=q;rw[e]at q;rw[show zP (some p)=.seq true (sT (kN p)::r) from e];exact⟨_,rfl,cT q⟩
  have put:∀(r:Pt) (s4:Sl),bF D (A++B) k=some r->N [.va (bE (d8 D A)),.va (bE (d8 D B)),.own (L.map aQ++[aQ r]),.va (sT (fJ k)),s4]:=λr s4 e=>hN _ ⟨L++[r],.va (sT (fJ k)),s4,by rw[et,e];rfl,by rw[gb];rfl⟩
  have one:∀(p:Pt),bF D (A++B) k=some p->(oF (wc (uB (jx vo (tw uP (dF (dI 4) eG)) (uC (iT 1)))) (yG (xA 2 (jx t5 (dI 4) (uC (iT 0))))) yQ) (wc (uB (jx vo (tw uP (dF (dI 4) eG)) (uC (iT 2)))) (yG (xA 2 (gF (lY D V V') (dF (jx t5 (dI 4) (uC (iT 0))) (dF (jx t5 (dI 4) (uC (iT 1))) eG))))) yQ)) {nx:=N,rt:=R,bk:=λρ'=>lV (tw A7 (dF (dI 2) eG)) {nx:=λx=>R nT,rt:=R} ρ',ct:=N} [.va (bE (d8 D A)),.va (bE (d8 D B)),.own (L.map aQ),.va (sT (fJ k)),.va (.seq false [aQ p])]:=λp e=>
   ⟨_,rfl,cL (λ_=>⟨⟨_,rfl⟩,_,bc,_,rfl,by rw[ak];omega,_,rfl,cL (λz=>absurd z (show ¬ ((1:Nat):Int)=2 by decide)) (λ_=>put p _ e)⟩) (λz=>absurd rfl z)⟩
  cases ea:bF D A k with
  |none=>
   cases eb:bF D B k with
   |none=>
    have e0:bF D (A++B) k=none:=(pF eb).trans ea;exact⟨_,rfl,cL (λz=>absurd z (by decide)) (λ_=>⟨_,rfl,cL (λz=>absurd z (by decide)) (λ_=>hN _ ⟨L,.va (sT (fJ k)),_,by rw[et,e0];simp,rfl⟩)⟩)⟩
   |some p=>exact one p ((vT ea).trans eb)
  |some p=>
   cases eb:bF D B k with
   |none=>exact one p ((pF eb).trans ea)
   |some p'=>
    obtain⟨r,er⟩:=BP (B:=B) ea;exact⟨_,rfl,cL (λz=>absurd z (show ¬ ((2:Nat):Int)=1 by decide)) (λ_=>⟨_,rfl,cL (λ_=>⟨⟨_,rfl⟩,_,bc,_,aR (j:=1) rfl,A,B,k,p,p',r,rfl,hD,cl,hV A hA,hV B hB,hA,hB,ea,eb,er,_,rfl,by rw[ak];omega,put r _ er⟩) (λz=>absurd rfl z)⟩)⟩
 ·rintro _ ⟨L,s1,s2,eL,rfl⟩;have eL:L=d8 D (A++B):=eL;subst eL;exact⟨false,_,rfl,q⟩
open WordM
theorem Jd{T:List Str}{hd:Str}(h:a_ T hd)(ne:T≠[])(hs:∀t∈T,Sg t):Sg hd:=by
 obtain⟨t,ht⟩:=iz _ ne;obtain⟨r,e⟩:=h.all t ht;exact λc hc=>hs t ht c (by rw[e];exact gg _ hc)
theorem FJ{T:List Str}(ne:T≠[])(ht:∀t∈T,eY t):oQ T:=λh lo hi ms e=>by
 obtain⟨h',lo',hi',ms',e',m⟩:=fY ne;rw[e']at e;cases e;obtain⟨t,pt⟩:=iz _ ne;obtain⟨r,er⟩:=m.he.all t pt;refine⟨Jd m.he ne λt h=>(ht t h).1,?_⟩;have:=(ht t pt).2;rw[WordM.len,er,bw]at this;rw[WordM.len];omega
theorem xx{T:List Str}(ne:T≠[])(ht:∀t∈T,eY t):cu T:=⟨ne,FJ ne ht,λ_=>ht⟩
theorem yb{A B:List Str}(ne:A≠[])(h:oQ A):oQ (A++B):=λh' lo hi ms e=>by
 have n2:A++B≠[]:=λz=>ne (qU_.mp z).1
 obtain⟨h1,lo1,hi1,ms1,e1,m1⟩:=fY n2;rw[e1]at e;cases e;obtain⟨h2,lo2,hi2,ms2,e2,m2⟩:=fY ne;obtain⟨s2,l2⟩:=h _ _ _ _ e2;obtain⟨r,er⟩:=m2.he.pre ne λt ht=>m1.he.all t (gg _ ht)
 refine⟨λc hc=>s2 c (by rw[er];exact gg _ hc),?_⟩;rw[WordM.len,er,bw]at l2;rw[WordM.len];omega
theorem cu.app{A B:List Str}(a:cu A)(b:cu B):cu (A++B) where
 ne:=λz=>a.ne (qU_.mp z).1
 hd:=yb a.ne a.hd
 ok:=λl t ht=>by
  rcases qj_.mp ht with z|z
  ·exact a.ok (ny (gA λx hx=>gg _ hx) l) t z
  ·exact b.ok (ny (gA λx hx=>de _ hx) l) t z
theorem ym{A B:List Str}(a:A=[]\/cu A)(b:B=[]\/cu B):A++B=[]\/cu (A++B):=by
 rcases a with rfl|a
 ·exact b
 ·rcases b with rfl|b
  ·rw[gk];exact .inr a
  ·exact .inr (a.app b)
theorem da.app{V:List Tv->Prop}(cl:jv V){ks js:List (List (Str×Tv))}(a:da V ks)(b:da V js):da V (ks++js) where
 ne:=λz=>a.ne (qU_.mp z).1
 nd:=λk hk=>(qj_.mp hk).elim (a.nd k) (b.nd k)
 nm:=by rw[gR];exact ym a.nm b.nm
 sm:=λl n hn=>by
  rw[gR]at l hn;rcases qj_.mp hn with z|z
  ·exact a.sm (cx (gA λx hx=>gg _ hx) l) n z
  ·exact b.sm (cx (gA λx hx=>de _ hx) l) n z
 at_v:=λn=>by
  rw[show cm n (ks++js)=cm n ks++cm n js from fk ..];exact cl.app _ _ (a.at_v n) (b.at_v n)
 vls:=by
  rw[show cO (ks++js)=cO ks++cO js from o_ ..];exact cl.app _ _ a.vls b.vls
theorem dn.ok{V:List Tv->Prop}(cl:jv V):jv (dn V) where
 nil:=⟨.inl rfl,cl.nil,.inl rfl⟩
 app:=λA B a b=>by
  refine⟨by rw[fk];exact ym a.tx b.tx,by rw[fk,jf];exact cl.app _ _ a.ls b.ls,?_⟩;rw[fk];rcases a.dk with z|a
  ·rw[z];exact b.dk
  ·rcases b.dk with z|b
   ·rw[z,gk];exact .inr a
   ·exact .inr (a.app cl b)
def LV:Nat->List Tv->Prop
 |0=>λA=>A=[]
 |n+1=>dn (LV n)
theorem gH:∀n,jv (LV n)
 |0=>⟨rfl,λA B a b=>by rw[show A=[] from a,show B=[] from b];rfl⟩
 |n+1=>dn.ok (gH n)
theorem DC(n:Nat):ng (bI n):=⟨mJ n,pG n⟩
def D0:List Tv->List Pt:=λ_=>[]
section
variable{D:List Tv->List Pt}{V V':List Tv->Prop}{lv:Nat}
theorem Jb(hj:ao K mg "joined" qH)(hp:ao K mg "parts_joined" qI)(hl:ao K mg "lists_joined" uG)(hd:ao K mg "dicts_joined" uH)(ht:ao K mg "tables_joined" uI)(ha:ao K mg "all_joined" uF)(hr:ao K mg "records_joined" uJ)(hf:ao K mg "field_joined" uK)(B:Own mg)
  (O7:ae P w K mg base 2 "part_for" OA oX) (Pm:ae P w K mg base 3 "run_joined" Oh pU) (O5:ae P w K mg base 5 "words_joined" Oh mO) (O4:ae P w K mg base 1 "fields_by_name" Ot oM) (O9:ae P w K mg base 5 "name_words" Ol qJ) (O8:ae P w K mg base 1 "forms_within" Ol gX)
  (GMOST_FIELDS:fW K mg "MOST_FIELDS" (iT 8)) (GKINDS:fW K mg "KINDS" (.seq true (kN6.map λk=>sT (fJ k))))
  (hD:ng D) (cl:jv V) (hV:∀A,V' A->dn V A)
  (OZ:ae P w K mg base lv "joined" Oh (kl D V)):ae P w K mg base (lv+9) "joined" Oh (kl (d8 D) V'):=
 xg (lv:=lv) hj B O7 (Ei hp B Pm O5 (Eh hl B OZ) (Eg hd B O4 (ER hr B O4 (EO hf B OZ)) (ET ht B O9 O5 (Ej ha B OZ) O8) GMOST_FIELDS)) GKINDS hD cl hV
theorem sA(D:List Tv->List Pt)(k:Nat):bF D [] k=none:=by
 unfold bF;split<;>rfl
theorem sF(D:List Tv->List Pt):d8 D []=[]:=by
 unfold d8;rw[qs2_];exact λk _=>sA D k
theorem yk(n:Nat):bI (n+1)=d8 (bI n):=funext λvs=>rfl
theorem A3(hj:ao K mg "joined" qH)(hp:ao K mg "parts_joined" qI)(hl:ao K mg "lists_joined" uG)(hd:ao K mg "dicts_joined" uH)(ht:ao K mg "tables_joined" uI)(ha:ao K mg "all_joined" uF)(hr:ao K mg "records_joined" uJ)(hf:ao K mg "field_joined" uK)(B:Own mg)
  (O7:ae P w K mg base 2 "part_for" OA oX) (Pm:ae P w K mg base 3 "run_joined" Oh pU) (O5:ae P w K mg base 5 "words_joined" Oh mO) (O4:ae P w K mg base 1 "fields_by_name" Ot oM) (O9:ae P w K mg base 5 "name_words" Ol qJ) (O8:ae P w K mg base 1 "forms_within" Ol gX)
  (GMOST_FIELDS:fW K mg "MOST_FIELDS" (iT 8)) (GKINDS:fW K mg "KINDS" (.seq true (kN6.map λk=>sT (fJ k)))):∀n:Nat,ae P w K mg base (9*n+9) "joined" Oh (kl (bI n) (LV n))
 |0=>by
  have z:ae P w K mg base 8 "parts_joined" Oh (lY D0 (λ_=>True) (LV 0)):=hp.pfalse DE (fun|_,_,_,_,_,_,[_,_],_=>rfl) λas R ⟨A,B',k,p,q,r,_,_,_,_,_,ha',_,h1,_⟩=>by
   rw[show A=[] from ha',sA]at h1;cases h1
  have g:=xg (lv:=0) (D:=D0) (V:=λ_=>True) (V':=LV 0) hj B O7 z GKINDS ⟨λ_ _ _=>rfl,rfl⟩ ⟨trivial,λ_ _ _ _=>trivial⟩ (λA hA=>by
   rw[show A=[] from hA]
   exact⟨.inl rfl,trivial,.inl rfl⟩)
  refine g.imp λas R ⟨A,B',e,hA,hB,q⟩=>?_
  have eA:A=[]:=hA;have eB:B'=[]:=hB;subst eA eB;refine⟨[],[],?_,rfl,rfl,?_⟩
  ·rw[e,sF];rfl
  ·rw[gk,sF];exact q
 |n+1=>by
  rw[yk];exact Jb hj hp hl hd ht ha hr hf B O7 Pm O5 O4 O9 O8 GMOST_FIELDS GKINDS (DC n) (gH n) (λA hA=>hA) (A3 hj hp hl hd ht ha hr hf B O7 Pm O5 O4 O9 O8 GMOST_FIELDS GKINDS n)
end
open WordM
theorem cu.same{A B:List Str}(h:∀x,x∈A↔x∈B)(a:cu A):cu B where
 ne:=by
  obtain⟨x,hx⟩:=iz _ a.ne;exact rk ((h x).mp hx)
 hd:=λh' lo hi ms e=>a.hd h' lo hi ms (by rw[xH a.ne h];exact e)
 ok:=λl t ht=>a.ok (by rw[(gQ h).1];exact l) t ((h t).mpr ht)
theorem Am{A B:List Str}(h:∀x,x∈A↔x∈B)(a:A=[]\/cu A):B=[]\/cu B:=by
 rcases a with rfl|a
 ·exact .inl (qE1_.mpr λx hx=>nomatch (h x).mpr hx)
 ·exact .inr (a.same h)
def u0(V:List Tv->Prop):Prop:=∀A B:List Tv,(∀v,v∈A↔v∈B)->V A->V B
theorem da.same{V:List Tv->Prop}(sm:u0 V){ks js:List (List (Str×Tv))}(h:∀k,k∈ks↔k∈js)(a:da V ks):da V js where
 ne:=by
  obtain⟨x,hx⟩:=iz _ a.ne;exact rk ((h x).mp hx)
 nd:=λk hk=>a.nd k ((h k).mpr hk)
 nm:=Am (mD h) a.nm
 sm:=λl n hn=>a.sm (by have:=(gQ (ts:=aN ks) (us:=aN js) (mD h)).1;omega) n ((mD h n).mpr hn)
 at_v:=λn=>sm _ _ (λv=>by
  unfold cm;rw[qt1_,qt1_]
  exact⟨λ⟨a,ha,e⟩=>⟨a,(h a).mp ha,e⟩,λ⟨a,ha,e⟩=>⟨a,(h a).mpr ha,e⟩⟩) (a.at_v n)
 vls:=sm _ _ (mD h) a.vls
theorem dn.sm{V:List Tv->Prop}(sm:u0 V):u0 (dn V):=λA B h a=>by
 refine⟨Am (kH h) a.tx,sm _ _ (λv=>?_) a.ls,?_⟩
 ·have:=kH (f:=b8) h;rw[qc1_,qc1_];exact⟨λ⟨l,h1,h2⟩=>⟨l,(this l).mp h1,h2⟩,λ⟨l,h1,h2⟩=>⟨l,(this l).mpr h1,h2⟩⟩
 ·have:=kH (f:=d3) h;rcases a.dk with z|a
  ·exact .inl (by rw[<-mP this];exact z)
  ·exact .inr (a.same sm this)
theorem sI:∀n,u0 (LV n)
 |0=>λA B h a=>qE1_.mpr λx hx=>by
  have:=(h x).mpr hx;rw[show A=[] from a]at this;exact nomatch this
 |n+1=>dn.sm (sI n)
open WordM ShowM
theorem letW_make{hd x:Str}{lo hi:Int}{ms:List Str}:iU (.make hd lo hi ms) x=true↔u6 cR (cs hd) lo hi ms (cs x):=by
 unfold iU u6;rw[fb,fb,fb,decide_eq_true_iff,decide_eq_true_iff,qB1_,stW_iff,WordM.len];constructor
 ·rintro⟨⟨r,e⟩,⟨h1,h2⟩,h3⟩;rw[dW e]at h1 h2 h3;exact⟨r,e,h1,h2,λc hc=>ip (h3 c hc)⟩
 ·rintro⟨r,e,h1,h2,h3⟩;rw[dW e];exact⟨⟨r,e⟩,⟨h1,h2⟩,λc hc=>gp (h3 c hc)⟩
def yN(W:Wd)(ts:List Str):Prop:=(∀t∈ts,iU W t=true/\Sg t/\t.length<=200)/\∀W2,fP W2->(∀t∈ts,iU W2 t=true)->∀x,iU W x=true->iU W2 x=true
theorem Mk{ss:List Str}(h:fP (.few ss)):yN (.few ss) ss:=
 ⟨λt ht=>⟨gp ht,(h.2.2.2 t ht).1,cx (h.2.2.2 t ht).2 (by decide)⟩,λW2 _ k x hx=>k x (ip hx)⟩
theorem Me{hd:Str}{lo hi:Int}{ms:List Str}{ts:List Str}(T:kc cR (cs hd) lo hi ms (ts.map cs))(h:∀t∈ts,iU (.make hd lo hi ms) t=true/\Sg t/\t.length<=200):yN (.make hd lo hi ms) ts:=by
 refine⟨h,λW2 ok k x hx=>?_⟩;cases W2 with
 |few ss=>
  refine(T.few (ss:=ss.map cs) (by rw[ak];exact ok.2.1) λy hy=>?_).elim;obtain⟨t,ht,rfl⟩:=qd_.mp hy;exact qd_.mpr ⟨t,ip (k t ht),rfl⟩
 |make hd2 lo2 hi2 ms2=>
  rw[letW_make]at hx ⊢;refine T.make (λy hy=>?_) _ hx;obtain⟨t,ht,rfl⟩:=qd_.mp hy;exact letW_make.mp (k t ht)
def dR(c:Nat)(n:Int):Str:=lX ⟨#[c]⟩ n
theorem fI(c:Nat)(n:Int):cs (dR c n)=List.replicate n.toNat c:=by
 show((List.replicate n.toNat [c]).flatten.toArray).toList=_;rw[p7]
 induction n.toNat with
 |zero=>rfl
 |succ k ih=>rw[i4,i9,ih,i4];rfl
theorem IP(c:Nat)(n:Int):(dR c n).length=n.toNat:=by rw[WordM.len,fI,i_]
theorem xZ{c:Nat}(h:c∈cs d6)(n:Int):Sg (dR c n):=λd hd=>by
 rw[fI]at hd;rw[(qX1_.mp hd).2];exact h
def AH(m:Str):List Nat:=cs ((L2.getS t_ m).getD ⟨#[]⟩)
def jy:List Str->List Nat
 |[]=>[]
 |m::r=>(AH m).take 7++r.map λm=>(AH m).headD 0
def jV(ms:List Str):List Nat:=(cs d6).filter λc=>decide (cR c∈ms)
structure tX (ms:List Str) (G:List Nat):Prop where
 many:7<=G.length
 nd:G.Nodup
 cov:∀m∈ms,∃c∈G,cR c=m
 mine:∀c∈G,cR c∈ms
 sg:∀c∈G,c∈cs d6
instance (ms:List Str) (G:List Nat):Decidable (tX ms G):=
 decidable_of_iff (7<=G.length/\G.Nodup/\(∀m∈ms,∃c∈G,cR c=m)/\(∀c∈G,cR c∈ms)/\∀c∈G,c∈cs d6) ⟨λ⟨a,b,c,d,e⟩=>⟨a,b,c,d,e⟩,λ⟨a,b,c,d,e⟩=>⟨a,b,c,d,e⟩⟩
def yv(a b c d:Bool):List Str:=(if a then [("figure":Str)] else [])++((if b then [("great":Str)] else [])++((if c then [("other":Str)] else [])++(if d then [("small":Str)] else [])))
theorem rR{x:Str}{l ms:List Str}(h:ms.Sublist (x::l)):∃(a:Bool) (ms':List Str),ms'.Sublist l/\ms=(if a then [x] else [])++ms':=by
 cases h with
 |cons _ h=>exact⟨false,_,h,rfl⟩
 |cons_cons _ h=>exact⟨true,_,h,rfl⟩
theorem G_{ms:List Str}(h:ms.Sublist MK):∃a b c d,ms=yv a b c d:=by
 obtain⟨a,m1,h1,e1⟩:=rR h;obtain⟨b,m2,h2,e2⟩:=rR h1;obtain⟨c,m3,h3,e3⟩:=rR h2;obtain⟨d,m4,h4,e4⟩:=rR h3;have e5:=List.sublist_nil.mp h4;exact⟨a,b,c,d,by rw[e1,e2,e3,e4,e5];unfold yv;rw[gk]⟩
theorem rT{ms:List Str}(h1:ms.Sublist MK)(h2:ms≠[]):tX ms (jy ms)/\tX ms (jV ms)/\(jy ms).length<=10:=by
 obtain⟨a,b,c,d,rfl⟩:=G_ h1;revert h2;cases a<;>cases b<;>cases c<;>cases d<;>intro h2<;>first|exact absurd rfl h2|decide +kernel
def cV:Wd->List Str
 |.few ss=>ss
 |.make hd lo hi ms=>((jy ms).map λc=>hd++dR c hi)++(if lo<hi then [hd++dR ((jy ms).headD 0) lo] else [])
theorem pM{G:List Nat}(h:7<=G.length):G.headD 0∈G:=by
 cases G with
 |nil=>simp at h
 |cons c G=>exact fe
theorem Ad{hd:Str}{lo hi n:Int}{ms:List Str}{G:List Nat}(S:tX ms G)(shd:Sg hd)(hl:hd.length<=50){c:Nat}(hc:c∈G)(h0:0<=n)(h1:lo<=n)(h2:n<=hi)(h3:hi<=100):
  iU (.make hd lo hi ms) (hd++dR c n)=true/\Sg (hd++dR c n)/\(hd++dR c n).length<=200:=by
 refine⟨letW_make.mpr ⟨_,by rw[WordM.app,fI],?_,?_,λd hd=>?_⟩,shd.app (xZ (S.sg c hc) n),?_⟩
 ·rw[i_];omega
 ·rw[i_];omega
 ·rw[(qX1_.mp hd).2];exact S.mine c hc
 ·rw[WordM.len,WordM.app,bw,<-WordM.len,<-WordM.len,IP];omega
theorem Mh:∀{W:Wd},fP W->yN W (cV W)
 |.few ss,h=>Mk h
 |.make hd lo hi ms,⟨⟨shd,hl⟩,lo0,lohi,hi1,hi62,b1,b2⟩=>by
  obtain⟨S,_,_⟩:=rT b1 b2;have m1:∀g∈jy ms,hd++dR g hi∈cV (.make hd lo hi ms):=λg hg=>gg _ (qd_.mpr ⟨g,hg,rfl⟩)
  refine Me ⟨⟨hi.toNat,jy ms,by omega,S.many,S.nd,S.cov,λg hg=>?_⟩,?_,?_⟩ λt ht=>?_
  ·exact qd_.mpr ⟨_,m1 g hg,by rw[WordM.app,fI]⟩
  ·by_cases h:lo<hi
   ·refine⟨List.replicate lo.toNat ((jy ms).headD 0),by rw[i_];omega,qd_.mpr ⟨hd++dR ((jy ms).headD 0) lo,?_,by rw[WordM.app,fI]⟩⟩;show _∈_++(if lo<hi then _ else _);rw[if_pos h];exact de _ fe
   ·exact⟨List.replicate hi.toNat ((jy ms).headD 0),by rw[i_];omega,qd_.mpr ⟨_,m1 _ (pM S.many),by rw[WordM.app,fI]⟩⟩
  ·exact⟨List.replicate hi.toNat ((jy ms).headD 0),by rw[i_];omega,qd_.mpr ⟨_,m1 _ (pM S.many),by rw[WordM.app,fI]⟩⟩
  ·have ht:t∈((jy ms).map λc=>hd++dR c hi)++(if lo<hi then [hd++dR ((jy ms).headD 0) lo] else []):=ht;rcases qj_.mp ht with z|z
   ·obtain⟨c,hc,rfl⟩:=qd_.mp z;exact Ad S shd hl hc (by omega) lohi (by omega) hi62
   ·split at z
    ·have:t=hd++dR ((jy ms).headD 0) lo:=by simpa using z
     subst this;exact Ad S shd hl (pM S.many) lo0 (by omega) lohi hi62
    ·simp at z
open WordM ShowM
theorem Bn{ss:List Str}(h:eV ss):aZ (aH ss)=ss:=kE (hX _) h λx=>sort_set_mem
theorem IS{ss:List Str}(h:eV ss):(aH ss).length=ss.length:=by
 have:=congrArg List.length (Bn h);rwa[(dM _).length_eq]at this
theorem JX{ms:List Str}(h:ms.Sublist MK):eV ms:=List.Pairwise.sublist h xI
theorem vI{hd:Str}{lo hi:Int}{ms:List Str}(ok:fP (.make hd lo hi ms)):7<=(aH (cV (.make hd lo hi ms))).length/\iw (cV (.make hd lo hi ms)) hd lo hi ms:=by
 have sh:=Mh ok;obtain⟨⟨shd,hl⟩,lo0,lohi,hi1,hi62,b1,b2⟩:=ok;obtain⟨S,_,_⟩:=rT b1 b2;have m1:∀g∈jy ms,hd++dR g hi∈cV (.make hd lo hi ms):=λg hg=>gg _ (qd_.mpr ⟨g,hg,rfl⟩)
 have inj:∀c d:Nat,hd++dR c hi=hd++dR d hi->c=d:=λc d e=>by
  have e:=congrArg cs e;rw[WordM.app,WordM.app,fI,fI]at e;have e:=lu e;obtain⟨k,ek⟩:∃k,hi.toNat=k+1:=⟨hi.toNat-1,by omega⟩
  rw[ek,i4,i4]at e;injection e
 have len:∀t∈cV (.make hd lo hi ms),∃r,cs t=cs hd++r/\lo<=(r.length:Int)/\(r.length:Int)<=hi/\∀c∈r,cR c∈ms:=λt ht=>letW_make.mp (sh.1 t ht).1
 have dl:∀{t:Str} {r:List Nat},cs t=cs hd++r->(t.length:Int)-(hd.length:Int)=r.length:=λ{t r} e=>by
  rw[WordM.len t,WordM.len hd,e,bw];push_cast;omega
 have mlo:∃t∈cV (.make hd lo hi ms),(t.length:Int)-(hd.length:Int)=lo:=by
  by_cases z:lo<hi
  ·refine⟨hd++dR ((jy ms).headD 0) lo,?_,?_⟩
   ·show _∈_++(if lo<hi then _ else _);rw[if_pos z];exact de _ (.head _)
   ·rw[dl (WordM.app _ _),fI,i_];omega
  ·refine⟨_,m1 _ (pM S.many),?_⟩;rw[dl (WordM.app _ _),fI,i_];omega
 have mhi:∃t∈cV (.make hd lo hi ms),(t.length:Int)-(hd.length:Int)=hi:=⟨_,m1 _ (pM S.many),by rw[dl (WordM.app _ _),fI,i_];omega⟩
 refine⟨?_,⟨λt ht=>?_,λk hk=>?_⟩,mlo,λt ht=>?_,mhi,λt ht=>?_,?_⟩
 ·have nd:((jy ms).map λc=>hd++dR c hi).Nodup:=by
   rw[qd2_,i8];exact(qd2_.mp S.nd).imp λh e=>h (inj _ _ e)
  have:=WordM.nodup_len nd (m:=aH (cV (.make hd lo hi ms))) λx hx=>(cZ _ x).mpr (gg _ hx)
  rw[ak]at this;have:=S.many;omega
 ·obtain⟨r,e,_⟩:=len t ht;exact⟨r,e⟩
 ·have m7:=S.many;have nd:=S.nd
  match hG:jy ms,m7 with
  |c::d::G,_=>
   rw[hG]at nd m1;have ne:c≠d:=λz=>by subst z;exact(qh1_.mp nd).1 (.head _)
   obtain⟨r1,e1⟩:=hk _ (m1 c (.head _));obtain⟨r2,e2⟩:=hk _ (m1 d (.tail _ (.head _)));obtain⟨n,en⟩:∃n,hi.toNat=n+1:=⟨hi.toNat-1,by omega⟩
   rw[WordM.app,fI,en,i4]at e1 e2;apply su;intro lt;have g1:(k++r1)[(cs hd).length]?=some c:=by rw[<-e1];simp
   have g2:(k++r2)[(cs hd).length]?=some d:=by rw[<-e2];simp
   rw[jn lt]at g1 g2;rw[g1]at g2;exact ne (Option.some.inj g2)
  |[_],h=>simp at h
  |[],h=>simp at h
 ·obtain⟨r,e,h1,h2,_⟩:=len t ht;rw[dl e];exact h1
 ·obtain⟨r,e,h1,h2,_⟩:=len t ht;rw[dl e];exact h2
 ·refine kE (JX b1) (kB _ _) λm=>?_
  rw[marksOf_mem];constructor
  ·intro hm;obtain⟨c,hc,e⟩:=S.cov m hm;obtain⟨n,en⟩:∃n,hi.toNat=n+1:=⟨hi.toNat-1,by omega⟩
   refine⟨_,m1 c hc,c,?_,e⟩;rw[dW (WordM.app hd (dR c hi)),fI,en,i4];exact .head _
  ·rintro⟨t,ht,c,hc,rfl⟩;obtain⟨r,e,_,_,h3⟩:=len t ht;rw[dW e]at hc;exact h3 c hc
theorem Bd:∀{W:Wd},fP W->bN (cV W)=W
 |.few ss,h=>by
  have hs:=IS h.2.2.1;show bN ss=_;unfold bN;rw[if_pos (by rw[hs];have:=h.2.1;omega),Bn h.2.2.1]
 |.make hd lo hi ms,h=>by
  obtain⟨h7,m⟩:=vI h;unfold bN;rw[if_neg (by omega)];exact(pL m).symm
theorem nH{W:Wd}(h:fP W):cV W≠[]:=λz=>by
 cases W with
 |few ss=>have:ss=[]:=z;have h1:=h.1;rw[this]at h1;simp at h1
 |make hd lo hi ms=>have:=(vI h).2.ne;exact this z
theorem Kc{T A:List Str}(ne:T≠[])(h:∀t∈A,iU (bN T) t=true):bN (A++T)=bN T:=by
 have w:=mT ne;have ne2:A++T≠[]:=λz=>ne (qU_.mp z).2
 refine(sB ne2 ?_).symm;generalize bN T=W at w h;cases W with
 |few ss=>
  refine w.same λx=>⟨λhx=>de _ hx,λhx=>?_⟩
  rcases qj_.mp hx with q|q
  ·have:=ip (h x q);rw[w.1]at this;exact sort_set_mem.mp this
  ·exact q
 |make hd lo hi ms=>
  obtain⟨h7,m⟩:=w;have hA:∀t∈A,∃r,cs t=cs hd++r/\(t.length:Int)-(hd.length:Int)=r.length/\lo<=(r.length:Int)/\(r.length:Int)<=hi/\∀c∈r,cR c∈ms:=λt ht=>by
   obtain⟨r,e,a,b,c⟩:=letW_make.mp (h t ht);exact⟨r,e,by rw[WordM.len t,WordM.len hd,e,bw];push_cast;omega,a,b,c⟩
  obtain⟨t1,p1,q1⟩:=m.lo1;obtain⟨t2,p2,q2⟩:=m.hi1;refine⟨cx h7 (gA λx hx=>de _ hx),⟨λt ht=>?_,λk hk=>m.he.top k λt ht=>hk t (de _ ht)⟩,⟨t1,de _ p1,q1⟩,λt ht=>?_,⟨t2,de _ p2,q2⟩,λt ht=>?_,?_⟩
  ·rcases qj_.mp ht with q|q
   ·obtain⟨r,e,_⟩:=hA t q;exact⟨r,e⟩
   ·exact m.he.all t q
  ·rcases qj_.mp ht with q|q
   ·obtain⟨r,e,el,a,b,_⟩:=hA t q;omega
   ·exact m.lo2 t q
  ·rcases qj_.mp ht with q|q
   ·obtain⟨r,e,el,a,b,_⟩:=hA t q;omega
   ·exact m.hi2 t q
  ·rw[m.mks];refine kE (kB _ _) (kB _ _) λx=>?_
   rw[marksOf_mem,marksOf_mem];constructor
   ·rintro⟨t,ht,z⟩;exact⟨t,de _ ht,z⟩
   ·rintro⟨t,ht,c,hc,rfl⟩;rcases qj_.mp ht with q|q
    ·obtain⟨r,e,el,a,b,k⟩:=hA t q;rw[dW e]at hc;have:=k c hc;rw[m.mks,marksOf_mem]at this;exact this
    ·exact⟨t,q,c,hc,rfl⟩
theorem Be{W:Wd}(h:fP W):cu (cV W):=by
 cases W with
 |few ss=>exact xx (nH h) h.2.2.2
 |make hd lo hi ms=>
  obtain⟨h7,m⟩:=vI h;refine⟨nH h,λh' lo' hi' ms' e=>?_,λz=>by omega⟩;rw[<-pL m]at e;cases e;exact h.1
open WordM ShowM
theorem Gd{D:List Tv->List Pt}{S:List Tv}{K:Nat}(h:∀v∈S,lR v=K){k:Nat}(hk:k≠K):bF D S k=none:=by
 have no:∀{α:Type} {f:Tv->Option α} {j:Nat},(∀v a,f v=some a->lR v=j)->j≠K->S.filterMap f=[]:=λ{α f j} hf hj=>by
  rw[qs2_];intro v hv;cases e:f v with
  |none=>rfl
  |some a=>exact absurd ((hf v a e).symm.trans (h v hv)) hj
 unfold bF;split
 ·have:dS S=false:=by
   show S.any _=false;rw[List.any_eq_false];intro v hv;rw[h v hv];simpa using λe=>hk (by omega)
  rw[this];rfl
 ·rw[if_pos (no (j:=1) (λv a e=>by rw[Jx]at e;subst e;rfl) hk)]
 ·rw[if_pos (no (j:=2) (λv a e=>by rw[Jz]at e;subst e;rfl) hk)]
 ·rw[if_pos (no (j:=3) (λv a e=>by rw[JB]at e;subst e;rfl) hk)]
 ·rw[if_pos (no (j:=4) (λv a e=>by rw[JA]at e;subst e;rfl) hk)]
 ·rw[if_pos (no (j:=5) (λv a e=>by rw[Jy]at e;subst e;rfl) hk)]
 ·rfl
def iX(D:List Tv->List Pt)(V:List Tv->Prop)(p:Pt)(S:List Tv):Prop:=(∀v∈S,lR v=bZ p)/\bF D S (bZ p)=some p/\dn V S
theorem BS{D:List Tv->List Pt}{V:List Tv->Prop}(cl:jv V):∀{f:List Pt},lD f->(∀p∈f,∃S,iX D V p S)->∃S,(∀k,bF D S k=eQ f k)/\dn V S
 |[],_,_=>⟨[],λk=>sA D k,(dn.ok cl).nil⟩
 |p::f,up,h=>by
  obtain⟨S,s1,s2,s3⟩:=h p (.head _);have up':=qF2_.mp up;obtain⟨T,t1,t2⟩:=BS cl (f:=f) up'.2 λq hq=>h q (.tail _ hq)
  refine⟨S++T,λk=>?_,(dn.ok cl).app S T s3 t2⟩;unfold eQ at t1 ⊢;rw[d7];by_cases z:bZ p=k
  ·subst z;rw[gp rfl];have:bF D T (bZ p)=none:=by
    rw[t1,qG2_];intro q hq;have:=up'.1 q hq;simp;omega
   rw[pF this];exact s2
  ·rw[iq z,vT (Gd s1 λe=>z e.symm)];exact t1 k
theorem fm_congr{α β:Type}{f g:α->Option β}:∀{l:List α},(∀x∈l,f x=g x)->l.filterMap f=l.filterMap g
 |[],_=>rfl
 |x::l,h=>by rw[gm,gm,h x (.head _),fm_congr λy hy=>h y (.tail _ hy)]
theorem sL:∀{f:List Pt}(ks:List Nat),lD f->ks.Pairwise (· < ·)->(∀p∈f,bZ p∈ks)->ks.filterMap (eQ f)=f
 |[],[],_,_,_=>rfl
 |p::f,[],_,_,h=>nomatch h p (.head _)
 |f,k::ks,up,kp,h=>by
  have kp':=qF2_.mp kp;rw[gm];cases f with
  |nil=>exact sL (f:=[]) ks up kp'.2 (λp hp=>nomatch hp)
  |cons p f=>
   have up':=qF2_.mp up;by_cases z:bZ p=k
   ·subst z;have e:eQ (p::f) (bZ p)=some p:=by unfold eQ;rw[d7,gp rfl]
    rw[e];have g:ks.filterMap (eQ (p::f))=ks.filterMap (eQ f):=fm_congr λj hj=>by
     have:=kp'.1 j hj;unfold eQ;rw[d7,iq (by omega)]
    show p::ks.filterMap (eQ (p::f))=p::f
    rw[g,sL ks up'.2 kp'.2 λq hq=>by
     have h1:=up'.1 q hq;rcases qe_.mp (h q (.tail _ hq)) with e|e
     ·omega
     ·exact e]
   ·have e:eQ (p::f) k=none:=by
     unfold eQ;rw[qG2_];intro q hq;have hp:k<bZ p:=by
      rcases qe_.mp (h p (.head _)) with e|e
      ·exact absurd e z
      ·exact kp'.1 _ e
     rcases qe_.mp hq with rfl|hq
     ·simp;omega
     ·have:=up'.1 q hq;simp;omega
    rw[e];exact sL (f:=p::f) ks up kp'.2 λq hq=>by
     rcases qe_.mp (h q hq) with e|e
     ·exfalso;have hp:k<bZ p:=by
       rcases qe_.mp (h p (.head _)) with e'|e'
       ·exact absurd e' z
       ·exact kp'.1 _ e'
      rcases qe_.mp hq with rfl|hq
      ·omega
      ·have:=up'.1 q hq;omega
     ·exact e
theorem Kw{n:Nat}{f:List Pt}(up:lD f)(h:∀p∈f,∃S,iX (bI n) (LV n) p S):∃S,bI (n+1) S=f/\LV (n+1) S:=by
 obtain⟨S,h1,h2⟩:=BS (gH n) up h;refine⟨S,?_,h2⟩;show kN6.filterMap (bF (bI n) S)=f;rw[show bF (bI n) S=eQ f from funext h1];exact sL kN6 up (by decide) λp _=>by cases p<;>simp[bZ,kN6]
open WordM ShowM
theorem nS{α β:Type}{c:α->Tv}{f:Tv->Option β}{g:α->β}(h:∀a,f (c a)=some (g a)):∀l:List α,(l.map c).filterMap f=l.map g
 |[]=>rfl
 |a::l=>by rw[e6,gm,h a,nS h l];rfl
theorem lT{α β:Type}{c:α->Tv}{f:Tv->Option β}(h:∀a,f (c a)=none):∀l:List α,(l.map c).filterMap f=[]
 |[]=>rfl
 |a::l=>by rw[e6,gm,h a,lT h l]
theorem pE{α:Type}(l:List α):l.map (λx=>x)=l:=List.map_id' l
theorem Nc{D:List Tv->List Pt}{V:List Tv->Prop}(cl:jv V):iX D V .nothing [nT]:=⟨λv hv=>by rw[qJ_.mp hv];rfl,rfl,.inl rfl,cl.nil,.inl rfl⟩
theorem Mb{D:List Tv->List Pt}{V:List Tv->Prop}(cl:jv V){bs:List Bool}(h:bs=[false]\/bs=[true]\/bs=[false,true]):∃S,iX D V (.truths bs) S:=by
 refine⟨bs.map bT,λv hv=>?_,?_,?_⟩
 ·obtain⟨b,_,rfl⟩:=qd_.mp hv;rfl
 ·show(if (bs.map bT).filterMap fh=[] then none else some (Pt.truths (cp (b7 ((bs.map bT).filterMap fh)) (b5 ((bs.map bT).filterMap fh)))))=some (Pt.truths bs);rw[nS (c:=bT) (f:=fh) (g:=λb=>b) (λb=>rfl),pE];rcases h with rfl|rfl|rfl<;>rfl
 ·rcases h with rfl|rfl|rfl<;>exact⟨.inl rfl,cl.nil,.inl rfl⟩
theorem Nd{D:List Tv->List Pt}{V:List Tv->Prop}(cl:jv V){lo hi st:Int}(h:lo<=hi/\0<=st/\(st=0↔lo=hi)/\(st≠0->(hi-lo) % st=0)):∃S,iX D V (.numbers lo hi st) S:=by
 refine⟨[lo,hi,lo+st].map iT,λv hv=>?_,?_,⟨.inl rfl,cl.nil,.inl rfl⟩⟩
 ·obtain⟨b,_,rfl⟩:=qd_.mp hv;rfl
 ·show(if ([lo,hi,lo+st].map iT).filterMap gq=[] then none else some (Pt.numbers (cK (([lo,hi,lo+st].map iT).filterMap gq)).1 (cK (([lo,hi,lo+st].map iT).filterMap gq)).2.1 (cK (([lo,hi,lo+st].map iT).filterMap gq)).2.2))=some (Pt.numbers lo hi st);rw[nS (c:=iT) (f:=gq) (g:=λb=>b) (λb=>rfl),pE];obtain⟨h1,h2,h3,h4⟩:=h;have dv:st ∣ hi-lo:=by
   by_cases z:st=0
   ·rw[z,h3.mp z];exact⟨0,by omega⟩
   ·exact Int.dvd_of_emod_eq_zero (h4 z)
  have le:lo+st<=hi:=by
   by_cases z:hi=lo
   ·have:=h3.mpr z.symm;omega
   ·have:=Int.le_of_dvd (by omega) dv;omega
  have e:(lo,hi,st)=cK [lo,hi,lo+st]:=wE ⟨by simp,λn hn=>?_,by simp,λn hn=>?_,h2,λd=>⟨λhd n hn=>?_,λhd=>?_⟩⟩
  ·rw[<-e];rfl
  ·show lo<=n;simp only[qe_,b_,or_false]at hn;omega
  ·show n<=hi;simp only[qe_,b_,or_false]at hn;omega
  ·show d ∣ n-lo;have hd:d ∣ st:=hd;simp only[qe_,b_,or_false]at hn;rcases hn with rfl|rfl|rfl
   ·exact⟨0,by omega⟩
   ·exact j4 hd dv
   ·rwa[show lo+st-lo=st by omega]
  ·have:d ∣ lo+st-lo:=hd (lo+st) (by simp);rwa[show lo+st-lo=st by omega]at this
theorem MT{D:List Tv->List Pt}{V:List Tv->Prop}(cl:jv V){w:Wd}(h:fP w):∃S,iX D V (.texts w) S:=by
 have e:((cV w).map sT).filterMap f7=cV w:=by rw[nS (c:=sT) (f:=f7) (g:=λb=>b) (λb=>rfl),pE]
 refine⟨(cV w).map sT,λv hv=>?_,?_,?_⟩
 ·obtain⟨b,_,rfl⟩:=qd_.mp hv;rfl
 ·show(if ((cV w).map sT).filterMap f7=[] then none else some (Pt.texts (bN (((cV w).map sT).filterMap f7))))=some (Pt.texts w);rw[e,if_neg (nH h),Bd h]
 ·refine⟨by rw[e];exact .inr (Be h),?_,.inl (lT (c:=sT) (f:=d3) (λb=>rfl) _)⟩;rw[lT (c:=sT) (f:=b8) λb=>rfl];exact cl.nil
def jz(n:Int)(s:Tv):List Tv:=List.replicate n.toNat s
theorem MR{n:Nat}{a b:Int}{f:List Pt}(a0:0<=a)(ab:a<=b)(b0:b=0->f=[])(h:b≠0->f≠[]/\∃S,bI n S=f/\LV n S):∃S,iX (bI n) (LV n) (.lists a b f) S:=by
 have nl:=(gH n).nil;have main:∀ls:List (List Tv),ls≠[]->aX (cE ls)=a->bD (cE ls)=b->bI n ls.flatten=f->LV n ls.flatten->∃S,iX (bI n) (LV n) (.lists a b f) S:=λls ne e1 e2 e3 hv=>by
  have e:(ls.map (Tv.seq false)).filterMap b8=ls:=by rw[nS (c:=Tv.seq false) (f:=b8) (g:=λb=>b) (λb=>rfl),pE]
  refine⟨ls.map (Tv.seq false),λv hv=>?_,?_,?_⟩
  ·obtain⟨b,_,rfl⟩:=qd_.mp hv;rfl
  ·show(if (ls.map (Tv.seq false)).filterMap b8=[] then none else some (Pt.lists (aX (cE ((ls.map (Tv.seq false)).filterMap b8))) (bD (cE ((ls.map (Tv.seq false)).filterMap b8))) (bI n ((ls.map (Tv.seq false)).filterMap b8).flatten)))=some (Pt.lists a b f);rw[e,if_neg ne,e1,e2,e3]
  ·exact⟨.inl (lT (c:=Tv.seq false) (f:=f7) (λb=>rfl) _),by rw[e];exact hv,.inl (lT (c:=Tv.seq false) (f:=d3) (λb=>rfl) _)⟩
 by_cases z:b=0
 ·subst z;have:a=0:=by omega
  subst this;exact main [[]] (by simp) rfl rfl (by rw[b0 rfl];exact pG n) nl
 ·obtain⟨fn,S,eS,vS⟩:=h z;have sn:S≠[]:=λe=>fn (by rw[<-eS,e];exact pG n)
  have mem:∀v,v∈(S.map (jz b)++S.map (jz a)).flatten↔v∈S:=λv=>by
   rw[qc1_];constructor
   ·rintro⟨l,hl,hv⟩;rcases qj_.mp hl with q|q
    ·obtain⟨s,hs,rfl⟩:=qd_.mp q;rw[(qX1_.mp hv).2];exact hs
    ·obtain⟨s,hs,rfl⟩:=qd_.mp q;rw[(qX1_.mp hv).2];exact hs
   ·intro hv;exact⟨jz b v,gg _ (qd_.mpr ⟨v,hv,rfl⟩),qX1_.mpr ⟨by omega,rfl⟩⟩
  obtain⟨s,hs⟩:=iz _ sn;have la:∀c:Int,0<=c->(((jz c s).length:Nat):Int)=c:=λc h0=>by unfold jz;rw[i_];omega
  have ia:a∈cE (S.map (jz b)++S.map (jz a)):=qd_.mpr ⟨jz a s,de _ (qd_.mpr ⟨s,hs,rfl⟩),la a a0⟩;have ib:b∈cE (S.map (jz b)++S.map (jz a)):=qd_.mpr ⟨jz b s,gg _ (qd_.mpr ⟨s,hs,rfl⟩),la b (by omega)⟩;have al:∀x∈cE (S.map (jz b)++S.map (jz a)),x=a\/x=b:=λx hx=>by
   obtain⟨l,hl,rfl⟩:=qd_.mp hx;rcases qj_.mp hl with q|q
   ·obtain⟨t,_,rfl⟩:=qd_.mp q;right;unfold jz;rw[i_];omega
   ·obtain⟨t,_,rfl⟩:=qd_.mp q;left;unfold jz;rw[i_];omega
  refine main (S.map (jz b)++S.map (jz a)) (λe=>?_) (nC ia λx hx=>by rcases al x hx with q|q<;>omega) (nD ib λx hx=>by rcases al x hx with q|q<;>omega) ?_ ?_
  ·rw[e]at ia;exact nomatch ia
  ·rw[mJ n _ S mem];exact eS
  ·exact sI n S _ (λv=>(mem v).symm) vS
open WordM ShowM
theorem DT{A C:List Str}(h:A.Sublist C):∀s,A.length<=s->s<=C.length->∃S,A.Sublist S/\S.Sublist C/\S.length=s:=by
 induction h with
 |slnil=>exact λs _ h=>⟨[],.slnil,.slnil,by rw[List.length_nil]at h ⊢;omega⟩
 |@cons l1 l2 a h ih=>
  intro s h1 h2;rw[gc]at h2;by_cases z:s<=l2.length
  ·obtain⟨S,x,y,e⟩:=ih s h1 z;exact⟨S,x,y.cons _,e⟩
  ·exact⟨a::l2,h.cons _,List.Sublist.refl _,by rw[gc];omega⟩
 |@cons_cons l1 l2 a _ ih=>
  intro s h1 h2;rw[gc]at h1 h2;obtain⟨S,x,y,e⟩:=ih (s-1) (by omega) (by omega);exact⟨a::S,x.cons_cons _,y.cons_cons _,by rw[gc];omega⟩
def oD:List Str->List (List Str)
 |[]=>[[]]
 |x::xs=>oD xs++(oD xs).map (x::·)
theorem mem_subl{ns:List Str}:∀{N:List Str},ns∈oD N↔ns.Sublist N
 |[]=>by simp[oD]
 |x::xs=>by
  rw[oD,qj_,qd_];constructor
  ·rintro (h|⟨m,h,rfl⟩)
   ·exact .cons _ (mem_subl.mp h)
   ·exact .cons_cons _ (mem_subl.mp h)
  ·intro h;cases h with
   |cons _ h=>exact .inl (mem_subl.mpr h)
   |cons_cons _ h=>exact .inr ⟨_,mem_subl.mpr h,rfl⟩
def kz(N Mu:List Str)(a b:Int):List (List Str):=(oD N).filter λns=>decide ((∀m∈Mu,m∈ns)/\a<=ns.length/\ns.length<=b)
theorem mem_shp{N Mu:List Str}{a b:Int}{ns:List Str}:ns∈kz N Mu a b↔ns.Sublist N/\(∀m∈Mu,m∈ns)/\a<=ns.length/\ns.length<=b:=by
 unfold kz;rw[qd1_,mem_subl,decide_eq_true_iff]
theorem kL{N Mu A C:List Str}{a b c:Int}(h1:A.Sublist C)(h2:C.Sublist N)(hm:∀m∈Mu,m∈A)(l1:A.length<=c)(l2:c<=C.length)(ac:a<=c)(cb:c<=b):∃ns∈kz N Mu a b,(ns.length:Int)=c/\A.Sublist ns/\ns.Sublist C:=by
 obtain⟨S,s1,s2,s3⟩:=DT h1 c.toNat (by omega) (by omega);exact⟨S,mem_shp.mpr ⟨s2.trans h2,λm hm'=>s1.subset (hm m hm'),by omega,by omega⟩,by omega,s1,s2⟩
def qx(g:Str->List Tv)(ns:List Str)(t:Str)(s:Tv):List (Str×Tv):=ns.map λx=>(x,if x=t then s else(g x).headD nT)
def dO(g:Str->List Tv)(Sh:List (List Str))(N:List Str):List (List (Str×Tv)):=Sh.flatMap λns=>N.flatMap λt=>(g t).map λs=>qx g ns t s
theorem mem_allD{g:Str->List Tv}{Sh:List (List Str)}{N:List Str}{k:List (Str×Tv)}:k∈dO g Sh N↔∃ns∈Sh,∃t∈N,∃s∈g t,k=qx g ns t s:=by
 unfold dO;rw[qo1_];constructor
 ·rintro⟨ns,h1,h⟩;obtain⟨t,h2,h⟩:=qo1_.mp h;obtain⟨s,h3,rfl⟩:=qd_.mp h;exact⟨ns,h1,t,h2,s,h3,rfl⟩
 ·rintro⟨ns,h1,t,h2,s,h3,rfl⟩;exact⟨ns,h1,qo1_.mpr ⟨t,h2,qd_.mpr ⟨s,h3,rfl⟩⟩⟩
theorem B3(g:Str->List Tv)(ns:List Str)(t:Str)(s:Tv):(qx g ns t s).map (·.1)=ns:=by
 unfold qx;rw[dh];exact List.map_id' ns
theorem FI{l:List Tv}(h:l≠[]):l.headD nT∈l:=by
 cases l with
 |nil=>exact absurd rfl h
 |cons x l=>exact .head _
theorem mkD_mem{g:Str->List Tv}{ns:List Str}{t x:Str}{s v:Tv}:(x,v)∈qx g ns t s↔x∈ns/\v=if x=t then s else(g x).headD nT:=by
 unfold qx;rw[qd_];constructor
 ·rintro⟨y,hy,e⟩;cases e;exact⟨hy,rfl⟩
 ·rintro⟨h1,rfl⟩;exact⟨x,h1,rfl⟩
structure c_ (g:Str->List Tv) (Sh:List (List Str)) (N:List Str) (a b:Int):Prop where
 n0:N≠[]
 nd:N.Nodup
 sub:∀ns∈Sh,ns.Sublist N
 ga:∀x∈N,g x≠[]
 la:∃ns∈Sh,(ns.length:Int)=a
 lb:∃ns∈Sh,(ns.length:Int)=b
 le:∀ns∈Sh,a<=ns.length/\ns.length<=b
 all:∀x∈N,∃ns∈Sh,x∈ns
section
variable{g:Str->List Tv}{Sh:List (List Str)}{N:List Str}{a b:Int}
theorem c_.has(h:c_ g Sh N a b){ns:List Str}(hn:ns∈Sh):∃k∈dO g Sh N,k.map (·.1)=ns/\k.length=ns.length:=by
 obtain⟨t,ht⟩:=iz _ h.n0;obtain⟨s,hs⟩:=iz _ (h.ga t ht);exact⟨_,mem_allD.mpr ⟨ns,hn,t,ht,s,hs,rfl⟩,B3 ..,by unfold qx;rw[ak]⟩
theorem c_.key{k:List (Str×Tv)}(hk:k∈dO g Sh N):k.map (·.1)∈Sh/\k.length=(k.map (·.1)).length:=by
 obtain⟨ns,h1,t,_,s,_,rfl⟩:=mem_allD.mp hk;rw[B3];exact⟨h1,by unfold qx;rw[ak]⟩
theorem c_.knd(h:c_ g Sh N a b):∀k∈dO g Sh N,(k.map (·.1)).Nodup:=λk hk=>List.Nodup.sublist (h.sub _ (c_.key hk).1) h.nd
theorem c_.nms(h:c_ g Sh N a b)(x:Str):x∈aN (dO g Sh N)↔x∈N:=by
 unfold aN;rw[qo1_];constructor
 ·rintro⟨k,hk,hx⟩;exact(h.sub _ (c_.key hk).1).subset hx
 ·intro hx;obtain⟨ns,h1,h2⟩:=h.all x hx;obtain⟨k,hk,e,_⟩:=h.has h1;exact⟨k,hk,by rw[e];exact h2⟩
theorem c_.ats(h:c_ g Sh N a b){x:Str}(hx:x∈N)(v:Tv):v∈cm x (dO g Sh N)↔v∈g x:=by
 rw[kI h.knd];constructor
 ·rintro⟨k,hk,e⟩;obtain⟨ns,h1,t,h2,s,h3,rfl⟩:=mem_allD.mp hk;obtain⟨_,rfl⟩:=mkD_mem.mp e;split
  ·rename_i z;rw[z];exact h3
  ·exact FI (h.ga x hx)
 ·intro hv;obtain⟨ns,h1,h2⟩:=h.all x hx;exact⟨_,mem_allD.mpr ⟨ns,h1,x,hx,v,hv,rfl⟩,mkD_mem.mpr ⟨h2,by rw[if_pos rfl]⟩⟩
theorem c_.vls(h:c_ g Sh N a b)(v:Tv):v∈cO (dO g Sh N)↔v∈(N.map g).flatten:=by
 rw[BG,qc1_];constructor
 ·rintro⟨k,hk,x,e⟩;have hx:x∈N:=(h.nms x).mp (qo1_.mpr ⟨k,hk,qd_.mpr ⟨_,e,rfl⟩⟩);exact⟨g x,qd_.mpr ⟨x,hx,rfl⟩,(h.ats hx v).mp ((kI h.knd).mpr ⟨k,hk,e⟩)⟩
 ·rintro⟨l,hl,hv⟩;obtain⟨x,hx,rfl⟩:=qd_.mp hl;obtain⟨k,hk,e⟩:=(kI h.knd).mp ((h.ats hx v).mpr hv);exact⟨k,hk,x,e⟩
theorem c_.lens(h:c_ g Sh N a b):aX (aU (dO g Sh N))=a/\bD (aU (dO g Sh N))=b:=by
 have al:∀x∈aU (dO g Sh N),a<=x/\x<=b:=λx hx=>by
  obtain⟨k,hk,rfl⟩:=qd_.mp hx;obtain⟨h1,h2⟩:=c_.key hk;have:=h.le _ h1;rw[<-h2]at this;exact this
 constructor
 ·obtain⟨ns,h1,e⟩:=h.la;obtain⟨k,hk,_,l⟩:=h.has h1;exact nC (qd_.mpr ⟨k,hk,by rw[l];exact e⟩) λx hx=>(al x hx).1
 ·obtain⟨ns,h1,e⟩:=h.lb;obtain⟨k,hk,_,l⟩:=h.has h1;exact nD (qd_.mpr ⟨k,hk,by rw[l];exact e⟩) λx hx=>(al x hx).2
theorem c_.ks(h:c_ g Sh N a b){V:List Tv->Prop}(cl:jv V)(sm:u0 V)(hv:∀x∈N,V (g x))(ok:cu N)(tx:(aH N).length<=8->∀n∈N,eY n):da V (dO g Sh N) where
 ne:=by
  obtain⟨ns,h1,_⟩:=h.la;obtain⟨k,hk,_⟩:=h.has h1;exact rk hk
 nd:=h.knd
 nm:=.inr (ok.same λx=>(h.nms x).symm)
 sm:=λl n hn=>tx (by rw[<-(gQ h.nms).1];exact l) n ((h.nms n).mp hn)
 at_v:=λn=>by
  by_cases hn:n∈N
  ·exact sm _ _ (λv=>(h.ats hn v).symm) (hv n hn)
  ·have:cm n (dO g Sh N)=[]:=qE1_.mpr λv hv=>by
    obtain⟨k,hk,e⟩:=(kI h.knd).mp hv;exact hn ((h.nms n).mp (qo1_.mpr ⟨k,hk,qd_.mpr ⟨_,e,rfl⟩⟩))
   rw[this];exact cl.nil
 vls:=by
  refine sm _ _ (λv=>(h.vls v).symm) ?_;have:∀L:List Str,(∀x∈L,V (g x))->V (L.map g).flatten:=λL=>by
   induction L with
   |nil=>exact λ_=>cl.nil
   |cons x L ih=>exact λh=>cl.app _ _ (h x (.head _)) (ih λy hy=>h y (.tail _ hy))
  exact this N hv
end
open WordM ShowM
theorem wG{n:Nat}{p:Pt}{ks:List (List (Str×Tv))}(kp:bZ p=5)(e:dz (bI n) ks=p)(h:da (LV n) ks):∃S,iX (bI n) (LV n) p S:=by
 have e2:(ks.map Tv.dct).filterMap d3=ks:=by rw[nS (c:=Tv.dct) (f:=d3) (g:=λb=>b) (λb=>rfl),pE]
 refine⟨ks.map Tv.dct,λv hv=>?_,?_,?_⟩
 ·obtain⟨b,_,rfl⟩:=qd_.mp hv;exact kp.symm
 ·rw[kp];show(if (ks.map Tv.dct).filterMap d3=[] then none else some (dz (bI n) ((ks.map Tv.dct).filterMap d3)))=some p;rw[e2,if_neg h.ne,e]
 ·exact⟨.inl (lT (c:=Tv.dct) (f:=f7) (λb=>rfl) _),by rw[lT (c:=Tv.dct) (f:=b8) λb=>rfl];exact(gH n).nil,by rw[e2];exact .inr h⟩
theorem pick{n:Nat}:∀{fs:List jw},(fs.map (·.1)).Nodup->(∀x∈fs,∃S,bI n S=x.2.2/\LV n S)->∃g:Str->List Tv,∀x∈fs,bI n (g x.1)=x.2.2/\LV n (g x.1)
 |[],_,_=>⟨λ_=>[],λx hx=>nomatch hx⟩
 |y::fs,nd,h=>by
  rw[e6,qh1_]at nd;obtain⟨S,s1,s2⟩:=h y (.head _);obtain⟨g,hg⟩:=pick nd.2 λx hx=>h x (.tail _ hx)
  refine⟨λm=>if m=y.1 then S else g m,λx hx=>?_⟩;rcases qe_.mp hx with rfl|hx
  ·dsimp only;rw[if_pos rfl];exact⟨s1,s2⟩
  ·dsimp only;rw[if_neg λe=>nd.1 (qd_.mpr ⟨x,hx,e⟩)];exact hg x hx
def cS(fs:List jw):List Str:=(fs.filter λx=>x.2.1).map (·.1)
theorem B7:∀{fs:List jw},(fs.map (·.1)).Nodup->∀{x y:jw},x∈fs->y∈fs->x.1=y.1->x=y
 |z::fs,nd,x,y,hx,hy,e=>by
  rw[e6,qh1_]at nd;rcases qe_.mp hx with ex|hx'<;>rcases qe_.mp hy with ey|hy'
  ·rw[ex,ey]
  ·exact(nd.1 (qd_.mpr ⟨y,hy',by rw[<-ex];exact e.symm⟩)).elim
  ·exact(nd.1 (qd_.mpr ⟨x,hx',by rw[<-ey];exact e⟩)).elim
  ·exact B7 nd.2 hx' hy' e
theorem Ma{n:Nat}{a b:Int}{fs:List jw}(a0:0<=a)(ab:a<=b)(l8:fs.length<=8)(ri:eV (fs.map (·.1)))(hf:∀x∈fs,eY x.1/\x.2.2≠[]/\∃S,bI n S=x.2.2/\LV n S)(ma:((cS fs).length:Int)<=a)(bl:b<=fs.length)(st:(cS fs).length<fs.length->a<fs.length/\((cS fs).length:Int)<b):∃S,iX (bI n) (LV n) (.record a b fs) S:=by
 have nd:(fs.map (·.1)).Nodup:=mE ri;have nl:=(gH n).nil;by_cases z:fs=[]
 ·subst z;have e1:b=0:=by simp at bl;omega
  have e2:a=0:=by omega
  subst e1 e2;have e0:aZ (aH (aN [[]]))=[]:=qE1_.mpr λx hx=>nomatch (show x∈([]:List Str) from sort_set_mem.mp hx)
  have l0:(aH (aN [[]])).length=0:=by rw[<-(dM _).length_eq,e0];rfl
  refine wG (ks:=[[]]) rfl ?_ ⟨by simp,(λk hk=>by rw[qJ_.mp hk];exact mh),.inl rfl,(λ_ n hn=>nomatch (show n∈([]:List Str) from hn)),(λn=>nl),nl⟩;rw[eC (by omega)];unfold bL;rw[e0];rfl
 obtain⟨g,hg⟩:=pick nd λx hx=>(hf x hx).2.2
 have lN:(fs.map (·.1)).length=fs.length:=ak ..;have sM:(cS fs).Sublist (fs.map (·.1)):=List.Sublist.map _ n_;have nM:(cS fs).Nodup:=List.Nodup.sublist sM nd;have hN:∀x∈fs.map (·.1),∃y∈fs,y.1=x:=λx hx=>by
  obtain⟨y,hy,e⟩:=qd_.mp hx;exact⟨y,hy,e⟩
 have strict:∀x∈fs.map (·.1),x∉cS fs->a<fs.length/\((cS fs).length:Int)<b:=λx hx hm=>by
  refine st (rn λle=>hm ?_);rw[sM.eq_of_length_le (by omega)];exact hx
 have sh:c_ g (kz (fs.map (·.1)) (cS fs) a b) (fs.map (·.1)) a b:=by
  refine⟨λe=>z (qJ2_.mp e),nd,λns h=>(mem_shp.mp h).1,λx hx e=>?_,?_,?_,λns h=>(mem_shp.mp h).2.2,λx hx=>?_⟩
  ·obtain⟨y,hy,rfl⟩:=hN x hx;have:=(hg y hy).1;rw[e,pG]at this;exact(hf y hy).2.1 this.symm
  ·obtain⟨ns,h1,h2,_⟩:=kL (Mu:=cS fs) (a:=a) (b:=b) (c:=a) sM (List.Sublist.refl _) (λm h=>h) ma (by omega) (by omega) ab;exact⟨ns,h1,h2⟩
  ·obtain⟨ns,h1,h2,_⟩:=kL (Mu:=cS fs) (a:=a) (b:=b) (c:=b) sM (List.Sublist.refl _) (λm h=>h) (by omega) (by omega) ab (by omega);exact⟨ns,h1,h2⟩
  ·by_cases hm:x∈cS fs
   ·obtain⟨ns,h1,h2,h3,_⟩:=kL (Mu:=cS fs) (a:=a) (b:=b) (c:=b) sM (List.Sublist.refl _) (λm h=>h) (by omega) (by omega) ab (by omega);exact⟨ns,h1,h3.subset hm⟩
   ·obtain⟨_,s2⟩:=strict x hx hm;have nA:((fs.map (·.1)).filter λy=>decide (y∈x::cS fs)).Nodup:=List.Nodup.sublist n_ nd;have lA:=WordM.nodup_len nA (m:=x::cS fs) λy hy=>ip (qd1_.mp hy).2
    rw[gc]at lA;obtain⟨ns,h1,h2,h3,_⟩:=kL (N:=fs.map (·.1)) (Mu:=cS fs) (a:=a) (b:=b) (c:=b) (A:=(fs.map (·.1)).filter λy=>decide (y∈x::cS fs)) n_ (List.Sublist.refl _) (λm h=>qd1_.mpr ⟨sM.subset h,gp (.tail _ h)⟩) (by omega) (by omega) ab (by omega);exact⟨ns,h1,h3.subset (qd1_.mpr ⟨hx,gp (.head _)⟩)⟩
 have tx:∀x∈fs.map (·.1),eY x:=λx hx=>by
  obtain⟨y,hy,rfl⟩:=hN x hx;exact(hf y hy).1
 have ko:=sh.ks (gH n) (sI n) (λx hx=>by
  obtain⟨y,hy,rfl⟩:=hN x hx
  exact(hg y hy).2) (xx sh.n0 tx) (λ_=>tx)
 refine wG (ks:=dO g (kz (fs.map (·.1)) (cS fs) a b) (fs.map (·.1))) rfl ?_ ko;have eN:aZ (aH (aN (dO g (kz (fs.map (·.1)) (cS fs) a b) (fs.map (·.1)))))=fs.map (·.1):=kE (hX _) ri λx=>sort_set_mem.trans (sh.nms x)
 have l2:=(dM (aH (aN (dO g (kz (fs.map (·.1)) (cS fs) a b) (fs.map (·.1)))))).length_eq;rw[eN]at l2;rw[eC (by omega),sh.lens.1,sh.lens.2];have:bL (bI n) (dO g (kz (fs.map (·.1)) (cS fs) a b) (fs.map (·.1)))=fs:=by
  unfold bL;rw[eN,dh];have:∀x∈fs,bX (bI n) (dO g (kz (fs.map (·.1)) (cS fs) a b) (fs.map (·.1))) x.1=x:=λx hx=>by
   have hx1:x.1∈fs.map (·.1):=qd_.mpr ⟨x,hx,rfl⟩;have e1:bI n (cm x.1 (dO g (kz (fs.map (·.1)) (cS fs) a b) (fs.map (·.1))))=x.2.2:=by
    rw[mJ n _ (g x.1) λv=>sh.ats hx1 v];exact(hg x hx).1
   have e2:((dO g (kz (fs.map (·.1)) (cS fs) a b) (fs.map (·.1))).all λk=>decide (x.1∈k.map (·.1)))=x.2.1:=by
    cases e:x.2.1 with
    |true=>
     refine qB1_.mpr λk hk=>gp ((mem_shp.mp (c_.key hk).1).2.1 x.1 (qd_.mpr ⟨x,qd1_.mpr ⟨hx,e⟩,rfl⟩))
    |false=>
     have hm:x.1∉cS fs:=λh=>by
      obtain⟨y,hy,e'⟩:=qd_.mp h;obtain⟨h1,h2⟩:=qd1_.mp hy;have:=B7 nd h1 hx e';rw[this,e]at h2;cases h2
     obtain⟨s1,_⟩:=strict x.1 hx1 hm;have sub:(cS fs).Sublist ((fs.map (·.1)).filter λy=>decide (y≠x.1)):=by
      have:=List.Sublist.filter (λy=>decide (y≠x.1)) sM;rwa[List.filter_eq_self.mpr λy hy=>gp (show y≠x.1 from λe=>hm (by rw[<-e];exact hy))]at this
     have lC:=WordM.nodup_len nd (m:=x.1::(fs.map (·.1)).filter λy=>decide (y≠x.1)) λy hy=>by
      by_cases q:y=x.1
      ·rw[q];exact .head _
      ·exact .tail _ (qd1_.mpr ⟨hy,gp q⟩)
     rw[gc]at lC;obtain⟨ns,h1,_,_,h4⟩:=kL (N:=fs.map (·.1)) (Mu:=cS fs) (a:=a) (b:=b) (c:=a) sub n_ (λm h=>h) ma (by omega) (by omega) ab;obtain⟨k,hk,ek,_⟩:=sh.has h1;refine List.all_eq_false.mpr ⟨k,hk,?_⟩;rw[ek];intro q;have:=(qd1_.mp (h4.subset (ip q))).2;exact absurd rfl (ip this)
   unfold bX;rw[e1,e2]
  calc fs.map _=fs.map id:=mr this
   _=fs:=oh fs
 rw[this]
open WordM ShowM
theorem Ky{ms:List Str}(sub:ms.Sublist MK)(ne:ms≠[]):10<=(jV ms).length:=by
 obtain⟨m,hm⟩:=iz _ ne;have hk:m∈MK:=sub.subset hm;have h1:10<=(cs d6).countP λc=>decide (cR c=m):=by
  simp only[MK,qe_,b_,or_false]at hk;rcases hk with rfl|rfl|rfl|rfl<;>decide +kernel
 have h2:((cs d6).countP λc=>decide (cR c=m))<=(cs d6).countP λc=>decide (cR c∈ms):=List.countP_mono_left λc _ h=>gp (by rw[ip h];exact hm)
 unfold jV;rw[<-List.countP_eq_length_filter];omega
def qv(h:Str)(k:Int)(c d:Nat):Str:=h++(dR c 1++dR d k)
theorem yM(h:Str)(k:Int)(c d:Nat):cs (qv h k c d)=cs h++c::List.replicate k.toNat d:=by
 unfold qv;rw[WordM.app,WordM.app,fI,fI];rfl
theorem xY{h:Str}{k:Int}{c d c' d':Nat}(e:qv h k c d=qv h k c' d'):c=c'/\(1<=k->d=d'):=by
 have:=congrArg cs e;rw[yM,yM]at this;have:=lu this;injection this with h1 h2
 refine⟨h1,λhk=>?_⟩;have hm:d∈List.replicate k.toNat d':=by rw[<-h2];exact qX1_.mpr ⟨by omega,rfl⟩
 exact(qX1_.mp hm).2
theorem yg{α β:Type}{f:α->List β}{m:Nat}:∀{l:List α},(∀a∈l,(f a).length=m)->(l.flatMap f).length=l.length*m
 |[],_=>by simp
 |a::l,h=>by
  rw[List.flatMap_cons,bw,h a (.head _),yg λb hb=>h b (.tail _ hb),gc,Nat.succ_mul];omega
theorem AL{h:Str}{lo hi:Int}{ms:List Str}(ok:fP (.make h lo hi ms)){c d:Nat}(hc:c∈jV ms)(hd:d∈jV ms):iU (.make h lo hi ms) (qv h (hi-1) c d)=true/\Sg (qv h (hi-1) c d):=by
 obtain⟨⟨sh,lh⟩,a0,ab,b1,b100,sub,ne⟩:=ok;obtain⟨_,S,_⟩:=rT sub ne;refine⟨letW_make.mpr ⟨_,yM ..,?_,?_,λx hx=>?_⟩,?_⟩
 ·rw[gc,i_];omega
 ·rw[gc,i_];omega
 ·rcases qe_.mp hx with rfl|hx
  ·exact S.mine _ hc
  ·rw[(qX1_.mp hx).2];exact S.mine _ hd
 ·exact sh.app ((xZ (S.sg c hc) 1).app (xZ (S.sg d hd) _))
theorem Jm{h:Str}{lo hi:Int}{ms:List Str}(ok:fP (.make h lo hi ms)):∃L:List Str,L.Nodup/\(∀t∈L,iU (.make h lo hi ms) t=true/\Sg t)/\10<=L.length/\(2<=hi->100<=L.length):=by
 have ok':=ok;obtain⟨_,a0,ab,b1,b100,sub,ne⟩:=ok';obtain⟨_,S,_⟩:=rT sub ne;have ten:=Ky sub ne;by_cases z:2<=hi
 ·refine⟨(jV ms).flatMap λc=>(jV ms).map λd=>qv h (hi-1) c d,?_,λt ht=>?_,?_⟩
  ·rw[qd2_,List.pairwise_flatMap];refine⟨λc hc=>?_,(qd2_.mp S.nd).imp λhne x hx y hy e=>?_⟩
   ·rw[i8];exact(qd2_.mp S.nd).imp λhne e=>hne ((xY e).2 (by omega))
   ·obtain⟨d,_,rfl⟩:=qd_.mp hx;obtain⟨d',_,rfl⟩:=qd_.mp hy;exact hne (xY e).1
  ·obtain⟨c,hc,ht⟩:=qo1_.mp ht;obtain⟨d,hd,rfl⟩:=qd_.mp ht;exact AL ok hc hd
  ·rw[yg (m:=(jV ms).length) λa _=>ak ..];have:=Nat.mul_le_mul ten ten;exact⟨by omega,λ_=>by omega⟩
 ·refine⟨(jV ms).map λc=>qv h (hi-1) c c,?_,λt ht=>?_,by rw[ak];omega,λq=>absurd q z⟩
  ·rw[qd2_,i8];exact(qd2_.mp S.nd).imp λhne e=>hne (xY e).1
  ·obtain⟨c,hc,rfl⟩:=qd_.mp ht;exact AL ok hc hc
theorem MS{n:Nat}{a b:Int}{h:Str}{lo hi:Int}{ms:List Str}{f:List Pt}(a0:0<=a)(ab:a<=b)(b1:1<=b)(bb:b<=10\/2<=hi/\b<=100)(ok:fP (.make h lo hi ms))(fn:f≠[])(hf:∃S,bI n S=f/\LV n S):∃S,iX (bI n) (LV n) (.table a b (.make h lo hi ms) f) S:=by
 obtain⟨S,eS,vS⟩:=hf;have sn:S≠[]:=λe=>fn (by rw[<-eS,e];exact pG n)
 obtain⟨L,nL,hL,l10,l100⟩:=Jm ok;have eW:=Bd ok;have rts:=Be ok;have nN:=dX (cV (.make h lo hi ms)++L);have mN:=cZ (cV (.make h lo hi ms)++L);have lN:L.length<=(aH (cV (.make h lo hi ms)++L)).length:=WordM.nodup_len nL λx hx=>(mN x).mpr (de _ hx)
 have w1:bN (aH (cV (.make h lo hi ms)++L))=.make h lo hi ms:=by
  rw[kC (us:=L++cV (.make h lo hi ms)) λx=>by rw[mN,qj_,qj_,or_comm],Kc (nH ok) (by rw[eW];exact λt ht=>(hL t ht).1),eW]
 have s0:∀B:List Str,(∀x,x∈B↔x∈cV (.make h lo hi ms)++L)->10<=(aH B).length:=λB hB=>cx l10 (WordM.nodup_len nL λx hx=>(cZ B x).mpr ((hB x).mpr (de _ hx)))
 have tsN:cu (aH (cV (.make h lo hi ms)++L)):=cu.same (A:=cV (.make h lo hi ms)++L) (λx=>(mN x).symm) ⟨(λe=>nH ok (qU_.mp e).1),yb (nH ok) rts.hd,λl=>absurd l (by have:=s0 _ λx=>Iff.rfl;omega)⟩;generalize hN:aH (cV (.make h lo hi ms)++L)=N at nN mN lN w1 tsN;have bl:b<=N.length:=by
  rcases bb with q|⟨q1,q2⟩
  ·omega
  ·have:=l100 q1;omega
 have sN:=s0 N mN;have sh:c_ (λ_=>S) (kz N [] a b) N a b:=by
  refine⟨tsN.ne,nN,λns h=>(mem_shp.mp h).1,λx hx=>sn,?_,?_,λns h=>(mem_shp.mp h).2.2,λx hx=>?_⟩
  ·obtain⟨ns,h1,h2,_⟩:=kL (N:=N) (Mu:=[]) (a:=a) (b:=b) (c:=a) (rp _) (List.Sublist.refl _) (λm h=>nomatch h) (by simpa using a0) (by omega) (by omega) ab;exact⟨ns,h1,h2⟩
  ·obtain⟨ns,h1,h2,_⟩:=kL (N:=N) (Mu:=[]) (a:=a) (b:=b) (c:=b) (rp _) (List.Sublist.refl _) (λm h=>nomatch h) (by simp;omega) (by omega) ab (by omega);exact⟨ns,h1,h2⟩
  ·obtain⟨ns,h1,h2,h3,_⟩:=kL (N:=N) (Mu:=[]) (a:=a) (b:=b) (c:=b) (List.singleton_sublist.mpr hx) (List.Sublist.refl _) (λm h=>nomatch h) (by simpa using b1) (by omega) ab (by omega);exact⟨ns,h1,h3.subset (.head _)⟩
 have ko:=sh.ks (gH n) (sI n) (λx hx=>vS) tsN (λl=>absurd l (by omega));refine wG (ks:=dO (λ_=>S) (kz N [] a b) N) rfl ?_ ko;have e8:=(gQ sh.nms).1;rw[fH (by omega),sh.lens.1,sh.lens.2,kC sh.nms,w1];have:bI n (cO (dO (λ_=>S) (kz N [] a b) N))=f:=by
  rw[mJ n _ S λv=>?_]
  ·exact eS
  ·rw[sh.vls,qc1_];constructor
   ·rintro⟨l,hl,hv⟩;obtain⟨x,_,rfl⟩:=qd_.mp hl;exact hv
   ·intro hv;obtain⟨x,hx⟩:=iz _ tsN.ne;exact⟨S,qd_.mpr ⟨x,hx,rfl⟩,hv⟩
 rw[this]
open WordM ShowM
def Of(b:Int):Wd->Prop
 |.make _ _ hi _=>b<=10\/2<=hi/\b<=100
 |.few _=>False
def jE:Nat->Pt->Prop
 |0,_=>False
 |_+1,.nothing=>True
 |_+1,.truths bs=>bs=[false]\/bs=[true]\/bs=[false,true]
 |_+1,.numbers lo hi st=>RunOk lo hi st
 |_+1,.texts w=>fP w
 |n+1,.lists a b f=>0<=a/\a<=b/\b<=100/\(b=0->f=[])/\(b≠0->f≠[]/\lD f/\∀p∈f,jE n p)
 |n+1,.record a b fs=>0<=a/\a<=b/\fs.length<=8/\eV (fs.map (·.1))/\(∀x∈fs,eY x.1/\x.2.2≠[]/\lD x.2.2/\∀p∈x.2.2,jE n p)/\(jD fs:Int)<=a/\b<=fs.length/\(jD fs<fs.length->a<fs.length/\jD fs<b)
 |n+1,.table a b w f=>((0<=a/\a<=11)/\Of b w)/\a<=b/\1<=b/\b<=100/\fP w/\GS w=true/\f≠[]/\lD f/\∀p∈f,jE n p
abbrev lJ(n:Nat)(f:List Pt):Prop:=lD f/\∀p∈f,jE n p
theorem Bm:∀{n:Nat}{f:List Pt},lJ n f->∃S,bI n S=f/\LV n S
 |0,[],_=>⟨[],rfl,rfl⟩
 |0,p::f,h=>False.elim (h.2 p (.head _))
 |n+1,f,h=>Kw h.1 λp hp=>by
  have ih:=λ{f:List Pt}=>Bm (n:=n) (f:=f)
  have k:=h.2 p hp;have cl:=gH n;cases p with
  |nothing=>exact⟨_,Nc cl⟩
  |truths bs=>exact Mb cl k
  |numbers lo hi st=>exact Nd cl k.2.2.2
  |texts w=>exact MT cl k
  |lists a b f=>
   obtain⟨h1,h2,h3,h4,h5⟩:=k;exact MR h1 h2 h4 λz=>⟨(h5 z).1,ih (h5 z).2⟩
  |record a b fs=>
   obtain⟨h1,h2,h3,h4,h5,h6,h7,h8⟩:=k;have lm:(cS fs).length=jD fs:=by unfold cS jD;rw[ak]
   exact Ma h1 h2 h3 h4 (λx hx=>⟨(h5 x hx).1,(h5 x hx).2.1,ih (h5 x hx).2.2⟩) (by rw[lm];exact h6) h7 (λz=>by rw[lm]at z ⊢;exact h8 z)
  |table a b w f=>
   obtain⟨⟨⟨h1,_⟩,hb⟩,h2,h3,_,h4,h5,h6,h7⟩:=k;cases w with
   |few ss=>exact False.elim hb
   |make h lo hi ms=>exact MS h1 h2 h3 hb h4 h6 (ih h7)
theorem MH(b:Int)(h1:1<=b)(h2:b<=15):∃ms:List Str,([((1:Int),("figure":Str)),(2,"great"),(4,"other"),(8,"small")].filterMap λx=>if b / x.1 % 2=1 then some (sT x.2) else none)=ms.map sT/\ms.Sublist MK/\ms≠[]:=by
 have:b=1\/b=2\/b=3\/b=4\/b=5\/b=6\/b=7\/b=8\/b=9\/b=10\/b=11\/b=12\/b=13\/b=14\/b=15:=by omega
 rcases this with e|e|e|e|e|e|e|e|e|e|e|e|e|e|e<;>subst e
 ·exact⟨["figure"],rfl,by decide,by decide⟩
 ·exact⟨["great"],rfl,by decide,by decide⟩
 ·exact⟨["figure","great"],rfl,by decide,by decide⟩
 ·exact⟨["other"],rfl,by decide,by decide⟩
 ·exact⟨["figure","other"],rfl,by decide,by decide⟩
 ·exact⟨["great","other"],rfl,by decide,by decide⟩
 ·exact⟨["figure","great","other"],rfl,by decide,by decide⟩
 ·exact⟨["small"],rfl,by decide,by decide⟩
 ·exact⟨["figure","small"],rfl,by decide,by decide⟩
 ·exact⟨["great","small"],rfl,by decide,by decide⟩
 ·exact⟨["figure","great","small"],rfl,by decide,by decide⟩
 ·exact⟨["other","small"],rfl,by decide,by decide⟩
 ·exact⟨["figure","other","small"],rfl,by decide,by decide⟩
 ·exact⟨["great","other","small"],rfl,by decide,by decide⟩
 ·exact⟨["figure","great","other","small"],rfl,by decide,by decide⟩
structure wm (h:Str) (a b:Int) (ms:List Str):Prop where
 h3:Sg h/\h.length<=3
 a0:0<=a
 a3:a<=3
 ab:a<=b
 b1:1<=b
 b6:b<=6
 sub:ms.Sublist MK
 ne:ms≠[]
theorem wm.ok{h:Str}{a b:Int}{ms:List Str}(m:wm h a b ms):fP (.make h a b ms):=⟨⟨m.h3.1,by have:=m.h3.2;omega⟩,m.a0,m.ab,m.b1,by have:=m.b6;omega,m.sub,m.ne⟩
def pV:bz:=λas R=>as=[.dk]/\∀h a b ms,wm h a b ms->R (bV (.make h a b ms))
theorem Ep(h:ao K mg "_law_make" yY)(B:Own mg)(OU:ae P w K mg base 2 "_law_take" Oj gB)(O_:ae P w K mg base 3 "_law_text" Oj pS)   : ae P w K mg base 4 "_law_make" Oo pV:=by
 refine h.pg1 OL (λnd hr=>
   (aI (aW 1 nd (aL OU hr (bS 0 (aC aG aE))))
   (aI (aW 2 nd (bK (gV rfl) rfl B.max boot_max (aC aG (aC (bC bY (aD 1) (aL OU hr (bS 0 (aC aG aE)))) aE))))
   (aI (aW 3 nd (bC bY aG (aL OU hr (bS 0 (aC aG aE)))))
   (aI (aW 4 nd (bM (cQ (aC bB (aC bB (aC bB (aC bB aE)))))))
   (aI (aW 5 nd (fD fK rfl B.tuple_ boot_tuple (aC (bM (wX (sc:=aY yY) (XN:=OL) (N:=OH) (own:=2) (fr:=[3]) rfl ⟨rfl,by decide +kernel,by decide +kernel,by decide +kernel,rfl,by decide +kernel,by decide,by decide +kernel⟩ (by decide) (KM rfl B.enumerate (aC (aD 4) aE)) (λ_ _ _ _ _=>(AO 2 rfl (kW (dD 0 (by decide) (show(OH:List Str).Nodup by decide +kernel) rfl (by first|exact Or.inl rfl|exact Or.inr rfl)) (kW (dD 1 (by decide) (show(OH:List Str).Nodup by decide +kernel) rfl (by first|exact Or.inl rfl|exact Or.inr rfl)) wY)))) (λ_ _ _ _ _=>(kK (bU hr (bC sX (bC AA (aD 2) (aJ hr (bM (cQ (aC aG (aC aG (aC aG (aC aG aE)))))) (aD 0))) aG) aG))) (λ_ _ _ _ _=>(aD 1)))) aE)))
   (aO (aT (bQ (aC bB (aC (aL O_ hr (bS 0 (aC aG aE))) (aC (aD 1) (aC (aD 2) (aC (aD 5) aE)))))))))))))) (λas R q=>?_)
 obtain⟨rfl,q⟩:=q;refine⟨rfl,rfl,4,rfl,by decide,bW (by decide) (by decide),λa a0 a1=>?_⟩;refine⟨rfl,4,rfl,by decide,bW (by decide) (by decide),λc c0 c1=>.inl ⟨_,_,rfl,?_⟩⟩;refine⟨rfl,15,rfl,by decide,bW (by decide) (by decide),λd d0 d1=>⟨by decide,?_⟩⟩;obtain⟨ms,e,sub,ne⟩:=MH (1+d) (by omega) (by omega);refine⟨_,rfl,by decide,?_⟩;refine iA (l:=[((1:Int),(0:Nat),("figure":Str)),(2,1,"great"),(4,2,"other"),(8,3,"small")]) (λx=>.seq true [iT (x.2.1:Nat),sT x.2.2]) (λx=>if (1+d) / x.1 % 2=1 then some (sT x.2.2) else none) (λx hx R q=>?_) ?_
 ·simp only[qe_,b_,or_false]at hx;rcases hx with rfl|rfl|rfl|rfl
  all_goals
   refine⟨_,rfl,rfl,_,_,rfl,_,_,rfl,rfl,by decide,_,rfl,⟨by decide,bW (by decide) (by decide)⟩,(show(0:Int)<2 by decide),_,rfl,?_⟩;refine kh (λz=>?_) (λz=>?_)
   ·rw[if_pos (by simpa[di]using z)]at q;exact q
   ·rw[if_neg (by simpa[di]using z)]at q;exact q
 ·have e':([((1:Int),(0:Nat),("figure":Str)),(2,1,"great"),(4,2,"other"),(8,3,"small")].filterMap λx=>if (1+d) / x.1 % 2=1 then some (sT x.2.2) else none)=ms.map sT:=e;rw[e'];refine⟨_,_,rfl,rfl,3,rfl,by decide,by decide,λh sh lh=>⟨(show 5<=100000 by decide),q h a _ ms ⟨⟨sh,by omega⟩,a0,by omega,by omega,by omega,by omega,sub,ne⟩⟩⟩
theorem wK{α:Type}{ps rs tx:List α}{j:Nat}{x:α}(h:(ps++rs).Perm tx)(e:rs[j]?=some x):((ps++[x])++rs.eraseIdx j).Perm tx:=by
 obtain⟨hj,rfl⟩:=qB_.mp e;refine List.Perm.trans ?_ h;rw[e_];exact List.Perm.append_left _ (rC rs j hj)
theorem x6{rs:List Str}{r:Int}(h0:0<=r)(h1:r<rs.length):∃x,rs[r.toNat]?=some x:=⟨rs[r.toNat]'(by omega),b9 _⟩
theorem rJ{α β:Type}(f:α->β):∀(l:List α) (i:Nat),(l.map f).eraseIdx i=(l.eraseIdx i).map f
 |[],_=>by simp
 |_::_,0=>by simp
 |a::l,i+1=>by simp[rJ f l i]
def qU:bz:=λas R=>∃nm tx st sp,as=[.dk,.va (eO nm tx st sp)]/\nF nm tx st sp/\∀w,fP w->R (bV w)
theorem Er(h:ao K mg "_law_some_words" yX)(B:Own mg)(OU:ae P w K mg base 2 "_law_take" Oj gB)(Pe:ae P w K mg base 4 "_law_make" Oo pV)   : ae P w K mg base 5 "_law_some_words" OC qU:=by
 refine h.pg2 OM (λnd hr=>
   (aI (bP (bU hr (aL OU hr (bS 0 (aC aG aE))) aG)
    (aO (aT (aL Pe hr (bS 0 aE))))
    bO)
   (aI (kQ 2 nd (oU oW rfl B.list_ boot_list (aC (aJ hr (aD 1) aG) aE)))
   (aI (jF (sc:=aY yX) (XN:=OM) (N:=["_law_k","_law_deck_here","_law_texts"]) (fr:=[0,2]) 3 nd (kD rfl B.range (aC (bC bY aG (aL OU hr (bS 0 (aC aG aE)))) aE)) (λ_ _ _ _ _=>jO) (λ_ _ _ _ _=>(wA 2 (aL OU hr (bS 1 (aC (wZ λF=>(bK cF rfl B.len du (aC (aD 2) aE))) aE))))))
   (aO (aT (bQ (aC bB (aC (fD fK rfl B.tuple_ boot_tuple (aC (bM (pC (oV rfl) rfl B.sorted boot_sorted (aC (aD 3) aE))) aE)) aE))))))))) (λas R q=>?_)
 obtain⟨nm,tx,st,sp,rfl,hw,q⟩:=q;refine⟨rfl,rfl,2,rfl,by decide,bW (by decide) (by decide),λa a0 a1=>⟨_,rfl,kh (λ_=>⟨rfl,rfl,λh a b ms m=>q _ m.ok⟩) (λ_=>?_)⟩⟩;refine⟨_,rfl,false,_,rfl,?_⟩;refine⟨rfl,6,rfl,by decide,bW (by decide) (by decide),λn n0 n1=>⟨_,rfl,by omega,by omega,by rw[iC];omega,?_⟩⟩;refine vW (λi Us ρ=>∃ps rs:List Str,Us=ps.map sT/\ps.length=i/\(ps++rs).Perm tx/\ρ=[.dk,.va (eO nm tx st sp),.own (rs.map sT),.no]) ⟨[],tx,rfl,rfl,List.Perm.refl _,rfl⟩ ?_ ?_
 ·rintro i T _ _ hT ⟨ps,rs,rfl,hl,hp,rfl⟩ R hR;have hi:=(mM hT).1;have hlen:=hp.length_eq;rw[bw,hw.t9]at hlen;refine⟨⟨_,rfl⟩,rfl,_,rfl,(rs.map sT).length,rfl,by rw[ak];omega,by rw[ak];exact bW (by omega) (by omega),λr r0 r1=>?_⟩;rw[ak]at r1;obtain⟨x,hx⟩:=x6 r0 r1;refine⟨r,_,sT x,rfl,rfl,r0,by rw[gf,hx];rfl,hR (some (sT x)) _ ⟨ps++[x],rs.eraseIdx r.toNat,by rw[gb];rfl,by rw[bw,hl];rfl,wK hp hx,?_⟩⟩;show [Sl.dk,.va (eO nm tx st sp),.own ((rs.map sT).eraseIdx r.toNat),.no]=_;rw[rJ]
 ·rintro _ _ ⟨ps,rs,rfl,hl,hp,rfl⟩;rw[iC]at hl;have hnd:ps.Nodup:=(hp.nodup_iff.mpr hw.ndt).sublist (rj _ _);refine .inr (.inl ⟨ps,rfl,by omega,?_⟩);refine⟨false,_,rfl,by simp,q (.few (aZ ps)) ⟨by rw[vK];omega,by rw[vK];omega,vJ hnd,λt ht=>?_⟩⟩;have ht:t∈tx:=hp.mem_iff.mp (gg _ ((dM ps).mem_iff.mp ht));exact⟨(hw.ts t ht).1,by have:=(hw.ts t ht).2;omega⟩
variable{n:Nat}
def lB(n:Nat):bz:=λas R=>∃nm tx st sp,∃deep most:Int,as=[.dk,.va (eO nm tx st sp),.va (iT deep),.va (iT most)]/\nF nm tx st sp/\0<=deep/\deep<n/\1<=most/\most<=6/\∀f,f≠[]->lJ n f->R (bE f)
def Bk(n:Nat):bz:=λas R=>∃nm tx st sp,∃deep:Int,as=[.dk,.va (eO nm tx st sp),.va (iT deep)]/\nF nm tx st sp/\1<=deep/\deep<=n/\∀a b w f,jE (n+1) (.table a b w f)->R (aQ (.table a b w f))
def yC(n:Nat):bz:=λas R=>∃nm tx st sp,∃deep many:Int,as=[.dk,.va (eO nm tx st sp),.va (iT deep),.va (iT many)]/\nF nm tx st sp/\1<=deep/\deep<=n/\0<=many/\many<=8/\∀a b fs,jE (n+1) (.record a b fs)->R (aQ (.record a b fs))
def Az(n:Nat):bz:=λas R=>∃nm tx st sp,∃deep kind most:Int,as=[.dk,.va (eO nm tx st sp),.va (iT deep),.va (iT kind),.va (iT most)]/\nF nm tx st sp/\0<=deep/\deep<=n/\0<=kind/\kind<=5/\1<=most/\most<=6/\∀p,jE (n+1) p->(bZ p:Int)=kind->R (aQ p)
theorem Et(h:ao K mg "_law_table" yW)(B:Own mg)(Pe:ae P w K mg base 4 "_law_make" Oo pV)(OU:ae P w K mg base 2 "_law_take" Oj gB)(Pa:ae P w K mg base (6+3*n) "_law_form" Ou (lB n))   : ae P w K mg base (6+3*n+1) "_law_table" ON (Bk n):=by
 refine h.pg3 ["_law_deck_here","_law_world_here","_law_deep","_law_make_here","_law_most"] (λnd hr=>
   (aI (aW 3 nd (aL Pe hr (bS 0 aE)))
   (aI (aW 4 nd (bC bY aG (aL OU hr (bS 0 (aC aG aE)))))
   (aI (bP (fF (kJ (eP tR (aJ hr (aD 3) aG) aG) (mW (bU hr (aL OU hr (bS 0 (aC aG aE))) aG))))
    (aO (aW 4 nd aG))
    bO)
   (aO (aT (bQ (aC bB (aC (aL OU hr (bS 0 (aC (bC bY (bK (fT rfl) rfl B.min boot_min (aC (aD 4) (aC aG aE))) aG) aE))) (aC (aD 4) (aC (aD 3) (aC (aL Pa hr (bS 0 (aC (aD 1) (aC (bC gU (aD 2) aG) (aC aG aE))))) aE)))))))))))) (λas R q=>?_)
 obtain⟨nm,tx,st,sp,deep,rfl,hw,d0,d1,q⟩:=q;refine⟨rfl,rfl,rfl,λh a b ms m=>?_⟩;refine⟨rfl,10,rfl,by decide,bW (by decide) (by decide),λc c0 c1=>?_⟩;have fin:∀most:Int,1<=most->most<=60->(most<=10\/1<b)->∀k:Int,0<=k->k<min most 3+1->∀f,f≠[]->lJ n f->R (aQ (.table k most (.make h a b ms) f)):=λmost m1 m2 m3 k k0 k1 f fn hf=>q _ _ _ _ ⟨⟨⟨k0,by omega⟩,(show most<=10\/2<=b/\most<=100 by omega)⟩,by omega,m1,by omega,m.ok,rfl,fn,hf.1,hf.2⟩
 refine⟨_,rfl,_,rfl,kh (λz=>⟨rfl,8,rfl,by decide,bW (by decide) (by decide),λe e0 e1=>⟨_,rfl,kh (λ_=>?_) (λ_=>?_)⟩⟩) (λz=>bH ?_)⟩
 all_goals
  refine⟨rfl,.inl ⟨_,_,rfl,_,rfl,by omega,bW (by omega) (by omega),λk k0 k1=>⟨rfl,nm,tx,st,sp,_,_,rfl,hw,by omega,by omega,by decide,by decide,λf fn hf=>⟨by simp,?_⟩⟩⟩⟩;have:=fin _ (by omega) (by omega) (by first|exact .inl (by omega)|exact .inr (ip z)) k k0 k1 f fn hf;rw[eZ]at this;exact this
theorem De{n:Nat}:∀{ss:List Str}{Us:List Tv},Paired (λT U=>∃(s:Str) (b:Bool) (f:List Pt),T=sT s/\U=bG (s,b,f)/\f≠[]/\lJ n f) (ss.map sT) Us->∃fs:List (Str×Bool×List Pt),Us=fs.map bG/\fs.map (·.1)=ss/\∀x∈fs,x.2.2≠[]/\lJ n x.2.2
 |[],[],_=>⟨[],rfl,rfl,λx hx=>nomatch hx⟩
 |s::ss,U::Us,.cons r t=>by
  obtain⟨fs,rfl,e2,h⟩:=De (ss:=ss) t;obtain⟨s',b,f,e,rfl,fn,hf⟩:=r;have e:s=s':=by cases e;rfl
  subst e;refine⟨(s,b,f)::fs,rfl,by rw[e6,e2],λx hx=>?_⟩;rcases qe_.mp hx with rfl|hx
  ·exact⟨fn,hf⟩
  ·exact h x hx
theorem Kv(fs:List (Str×Bool×List Pt)):(fs.filterMap λx=>if x.2.1=true then some (bG x) else none)=(fs.filter λx=>x.2.1).map bG:=by
 induction fs with
 |nil=>rfl
 |cons x fs ih=>
  rw[gm,List.filter_cons];cases h:x.2.1 with
  |true=>simp[h,ih]
  |false=>simp[h,ih]
theorem Es(h:ao K mg "_law_record" oK)(B:Own mg)(OU:ae P w K mg base 2 "_law_take" Oj gB)(Pa:ae P w K mg base (6+3*n) "_law_form" Ou (lB n))   : ae P w K mg base (6+3*n+1) "_law_record" OO (yC n):=by
 refine h.pg4 OD (λnd hr=>
   (aI (kQ 4 nd (oU oW rfl B.list_ boot_list (aC (aJ hr (aD 1) aG) aE)))
   (aI (aW 5 nd (bM (pC (oV rfl) rfl B.sorted boot_sorted (aC (bM (fM (sc:=aY oK) (XN:=OD) (N:=["_law_k","_law_deck_here","_law_names"]) (fr:=[0,4]) (kD rfl B.range (aC (aD 3) aE)) (λ_ _ _ _ _=>(wA 2 (aL OU hr (bS 1 (aC (wZ λF=>(bK cF rfl B.len du (aC (aD 2) aE))) aE))))))) aE))))
   (aI (aW 6 nd (fD fK rfl B.tuple_ boot_tuple (aC (bM (fM (sc:=aY oK) (XN:=OD) (N:=["_law_name","_law_deck_here","_law_world_here","_law_deep"]) (fr:=[0,1,2]) (cD (aD 5)) (λ_ _ _ _ _=>(bQ (aC (aD 0) (aC (gD (jT hr.units).op (aL OU hr (bS 1 (aC aG aE))) aG) (aC (aL Pa hr (bS 1 (aC (aD 2) (aC (bC gU (aD 3) aG) (aC aG aE))))) aE))))))) aE)))
   (aI (aW 7 nd (bK cF rfl B.len du (aC (bM (tI (sc:=aY oK) (XN:=OD) (N:=["_law_field"]) (fr:=[]) (cD (aD 6)) (λ_ _ _ _ _=>(kK (eF (aJ hr (aD 0) aG)))) (λ_ _ _ _ _=>(aD 0)))) aE)))
   (aI (aW 8 nd (aD 3))
   (aI (aW 9 nd (aD 3))
   (aI (bP (eP tO (aD 7) (aD 3))
    (aI (aW 8 nd (bC bY (aD 7) (aL OU hr (bS 0 (aC (bC gU (aD 3) (aD 7)) aE)))))
    (aI (aW 9 nd (bK (gV rfl) rfl B.max boot_max (aC (aD 8) (aC (bC bY (aD 7) aG) aE))))
    (aO (aW 9 nd (bC bY (aD 9) (aL OU hr (bS 0 (aC (bC bY (bC gU (aD 3) (aD 9)) aG) aE))))))))
    bO)
   (aO (aT (bQ (aC bB (aC (aD 8) (aC (aD 9) (aC (aD 6) aE))))))))))))))) (λas R q=>?_)
 obtain⟨nm,tx,st,sp,deep,many,rfl,hw,d0,d1,m0,m8,q⟩:=q;refine⟨rfl,_,rfl,false,_,rfl,?_⟩;refine⟨_,rfl,by omega,by omega,by rw[iC];omega,?_⟩;refine vW (λi Us ρ=>∃ps rs:List Str,Us=ps.map sT/\ps.length=i/\(ps++rs).Perm nm/\ρ=[.dk,.va (eO nm tx st sp),.va (iT deep),.va (iT many),.own (rs.map sT),.no,.no,.no,.no,.no]) ⟨[],nm,rfl,rfl,List.Perm.refl _,rfl⟩ ?_ ?_
 ·rintro i T _ _ hT ⟨ps,rs,rfl,hl,hp,rfl⟩ R hR;have hi:=(mM hT).1;have hlen:=hp.length_eq;rw[bw,hw.n11]at hlen;refine⟨⟨_,rfl⟩,rfl,_,rfl,(rs.map sT).length,rfl,by rw[ak];omega,by rw[ak];exact bW (by omega) (by omega),λr r0 r1=>?_⟩;rw[ak]at r1;obtain⟨x,hx⟩:=x6 r0 r1;refine⟨r,_,sT x,rfl,rfl,r0,by rw[gf,hx];rfl,hR (some (sT x)) _ ⟨ps++[x],rs.eraseIdx r.toNat,by rw[gb];rfl,by rw[bw,hl];rfl,wK hp hx,?_⟩⟩;show [Sl.dk,.va (eO nm tx st sp),.va (iT deep),.va (iT many),.own ((rs.map sT).eraseIdx r.toNat),.no,.no,.no,.no,.no]=_;rw[rJ]
 ·rintro _ _ ⟨ps,rs,rfl,hl,hp,rfl⟩;rw[iC]at hl;have hnd:ps.Nodup:=(hp.nodup_iff.mpr hw.nd).sublist (rj _ _);have hps:(aZ ps).length=many.toNat:=by rw[vK,hl]
  have hrise:=vJ hnd;have htx:∀s∈aZ ps,eY s:=λs hs=>by
   have hs:s∈nm:=hp.mem_iff.mp (gg _ ((dM ps).mem_iff.mp hs));exact⟨(hw.ns s hs).1,by have:=(hw.ns s hs).2;omega⟩
  refine .inr (.inl ⟨ps,rfl,by omega,?_⟩);refine⟨by rw[ak];omega,?_⟩;refine rN (λT U=>∃(s:Str) (b:Bool) (f:List Pt),T=sT s/\U=bG (s,b,f)/\f≠[]/\lJ n f) (λT hT R hR=>?_) (λUs hUs=>?_)
  ·obtain⟨s,hs,rfl⟩:=qd_.mp hT;refine⟨rfl,2,rfl,by decide,bW (by decide) (by decide),λr r0 r1=>?_⟩;exact⟨rfl,nm,tx,st,sp,_,_,rfl,hw,by omega,by omega,by decide,by decide,λf fn hf=>⟨by simp,hR _ ⟨s,_,f,rfl,rfl,fn,hf⟩⟩⟩
  ·obtain⟨fs,rfl,hf1,hf2⟩:=De hUs;have hfl:fs.length=many.toNat:=by rw[<-hps,<-hf1,ak]
   refine⟨false,_,rfl,?_⟩;refine⟨by rw[ak];omega,?_⟩;refine iA bG (λx=>if x.2.1=true then some (bG x) else none) (λx hx R q=>⟨_,rfl,_,rfl,kh (λz=>?_) (λz=>?_)⟩) ?_
   ·rw[if_pos z]at q;exact q
   ·rw[if_neg (by rw[z];exact cq)]at q;exact q
   rw[Kv];have hml:jD fs<=fs.length:=pd _ _;have fin:∀a b:Int,0<=a->a<=b->(jD fs:Int)<=a->b<=fs.length->(jD fs<fs.length->a<fs.length/\jD fs<b)->R (.seq true [sT "record",iT a,iT b,.seq true (fs.map bG)]):=λa b h1 h2 h3 h4 h5=>by
    have:=q a b fs ⟨h1,h2,by omega,by rw[hf1];exact hrise,λx hx=>⟨htx x.1 (by rw[<-hf1];exact qd_.mpr ⟨x,hx,rfl⟩),(hf2 x hx).1,(hf2 x hx).2.1,(hf2 x hx).2.2⟩,h3,h4,h5⟩;rw[dC]at this;exact this
   have hmu:((fs.filter λx=>x.2.1).map bG).length=jD fs:=by rw[ak];rfl
   generalize hmm:((fs.filter λx=>x.2.1).map bG)=ml at hmu ⊢;refine⟨_,rfl,kh (λz=>?_) (λz=>?_)⟩
   ·have z:((ml.length:Nat):Int)<many:=by simpa using z
    refine⟨rfl,_,rfl,by omega,bW (by omega) (by omega),λk k0 k1=>.inl ⟨_,_,rfl,rfl,_,rfl,by omega,bW (by omega) (by omega),λj j0 j1=>⟨by simp,fin _ _ (by omega) (by omega) (by omega) (by omega) (λ_=>by omega)⟩⟩⟩
   ·have z:¬ ((ml.length:Nat):Int)<many:=by simpa using z
    exact⟨by simp,fin _ _ (by omega) (by omega) (by omega) (by omega) (λ_=>by omega)⟩
variable{n:Nat}
theorem MU{st sp k m:Int}(h1:-(10 ^ 57)<=st)(h2:st<=10 ^ 57)(h3:1<=sp)(h4:sp<=10 ^ 20)(k0:0<=k)(k1:k<12)(m0:0<=m)(m7:m<=7):RunOk (st+sp*(k-4)) (st+sp*(k-4)+m*sp) (sp*min m 1):=by
 have e1:=yi (b:=k-4) h3 h4 (by omega) (by omega);have e2:=yi (b:=m) h3 h4 (by omega) (by omega);have e2':m*sp=sp*m:=Int.mul_comm _ _;by_cases hm:m=0
 ·subst hm;have e3:sp*min 0 1=0:=by rw[show min (0:Int) 1=0 by decide,Int.mul_zero]
  have e4:(0:Int)*sp=0:=Int.zero_mul _;rw[e3,e4];exact⟨⟨by omega,by omega⟩,⟨by omega,by omega⟩,⟨by decide,by decide⟩,by omega,by omega,⟨λ_=>by omega,λ_=>rfl⟩,λz=>absurd rfl z⟩
 ·have e3:sp*min m 1=sp:=by rw[show min m 1=1 by omega,Int.mul_one]
  rw[e3];have pos:0<m*sp:=Int.mul_pos (by omega) (by omega);refine⟨⟨by omega,by omega⟩,⟨by omega,by omega⟩,⟨by omega,by omega⟩,by omega,by omega,⟨λz=>by omega,λz=>by omega⟩,λ_=>?_⟩;rw[show st+sp*(k-4)+m*sp-(st+sp*(k-4))=m*sp by omega];exact Int.mul_emod_left _ _
theorem Eu(h:ao K mg "_law_part" yV)(B:Own mg)(OU:ae P w K mg base 2 "_law_take" Oj gB)(Pu:ae P w K mg base 5 "_law_some_words" OC qU)(Pa:ae P w K mg base (6+3*n) "_law_form" Ou (lB n))(PY:ae P w K mg base (6+3*n+1) "_law_table" ON (Bk n))(PX:ae P w K mg base (6+3*n+1) "_law_record" OO (yC n))   : ae P w K mg base (6+3*n+2) "_law_part" OP (Az n):=by
 refine h.pg5 ["_law_deck_here","_law_world_here","_law_deep","_law_kind","_law_most","_law_low","_law_many","_law_least","_law_high","_law_inner_here"] (λnd hr=>
   (aI (bP (bU hr (aD 3) aG)
    (aO (aT (bQ (aC bB aE))))
    bO)
   (aI (bP (bU hr (aD 3) aG)
    (aO (aT (bQ (aC bB (aC (aJ hr (bM (cQ (aC (bQ (aC gE aE)) (aC (bQ (aC gE aE)) (aC (bQ (aC gE (aC gE aE))) aE))))) (aL OU hr (bS 0 (aC aG aE)))) aE)))))
    bO)
   (aI (bP (bU hr (aD 3) aG)
    (aI (aW 5 nd (bC bY (aJ hr (aD 1) aG) (bC jN (aJ hr (aD 1) aG) (bC gU (aL OU hr (bS 0 (aC aG aE))) aG))))
    (aI (aW 6 nd (aJ hr (bM (cQ (aC aG (aC aG (aC aG (aC aG (aC aG aE))))))) (aL OU hr (bS 0 (aC aG aE)))))
    (aO (aT (bQ (aC bB (aC (aD 5) (aC (bC bY (aD 5) (bC jN (aD 6) (aJ hr (aD 1) aG))) (aC (bC jN (aJ hr (aD 1) aG) (bK (fT rfl) rfl B.min boot_min (aC (aD 6) (aC aG aE)))) aE)))))))))
    bO)
   (aI (bP (bU hr (aD 3) aG)
    (aO (aT (bQ (aC bB (aC (aL Pu hr (bS 0 (aC (aD 1) aE))) aE)))))
    bO)
   (aI (bP (bU hr (aD 3) aG)
    (aI (aW 7 nd (bC jN (aL OU hr (bS 0 (aC aG aE))) (bK (fT rfl) rfl B.min boot_min (aC aG (aC (aD 2) aE)))))
    (aI (aW 8 nd (bC bY (aD 7) (bC jN (aJ hr (bM (cQ (aC aG (aC aG (aC aG (aC aG aE)))))) (aL OU hr (bS 0 (aC aG aE)))) (bK (fT rfl) rfl B.min boot_min (aC aG (aC (aD 2) aE))))))
    (aI (aW 9 nd (bQ aE))
    (aI (bP (eP tR (aD 8) aG)
     (aO (aW 9 nd (aL Pa hr (bS 0 (aC (aD 1) (aC (bC gU (aD 2) aG) (aC aG aE)))))))
     bO)
    (aO (aT (bQ (aC bB (aC (aD 7) (aC (aD 8) (aC (aD 9) aE)))))))))))
    bO)
   (aI (bP (bU hr (aD 2) aG)
    (aO (aT (bQ (aC bB (aC aG (aC aG (aC (bQ aE) aE)))))))
    bO)
   (aI (bP (bU hr (aL OU hr (bS 0 (aC aG aE))) aG)
    (aO (aT (aL PY hr (bS 0 (aC (aD 1) (aC (aD 2) aE))))))
    bO)
   (aI (aW 6 nd (aL OU hr (bS 0 (aC (aJ hr (bM (cQ (aC aG (aC aG aE)))) (fD A_ rfl B.int_ boot_int (aC (gD (jT hr.units).op (aD 4) aG) aE))) aE))))
   (aI (bP (fF (kJ (bU hr (aD 4) aG) (kJ (bU hr (aD 2) aG) (mW (bU hr (aL OU hr (bS 0 (aC aG aE))) aG)))))
    (aO (aW 6 nd aG))
    bO)
   (aO (aT (aL PX hr (bS 0 (aC (aD 1) (aC (aD 2) (aC (aD 6) aE))))))))))))))))) (λas R q=>?_)
 obtain⟨nm,tx,st,sp,deep,kind,most,rfl,hw,d0,d1,k0,k5,m1,m6,q⟩:=q;refine⟨rfl,_,rfl,cL (λe=>?_) (λe0=>⟨_,rfl,cL (λe=>?_) (λe1=>⟨_,rfl,cL (λe=>?_) (λe2=>⟨_,rfl,cL (λe=>?_) (λe3=>⟨_,rfl,cL (λe=>?_) (λe4=>?_)⟩)⟩)⟩)⟩)⟩
 ·have:=q .nothing trivial (by rw[e];rfl);rw[aQ]at this;exact⟨by decide,this⟩
 ·refine⟨by decide,by decide,by decide,by decide,rfl,3,rfl,by decide,bW (by decide) (by decide),λr r0 r1=>?_⟩;obtain⟨U,hU,hm⟩:=lZ (l:=[Tv.seq true [bT false],.seq true [bT true],.seq true [bT false,bT true]]) r0 r1;refine⟨U,hU,by simp,?_⟩;simp only[qe_,b_,or_false]at hm;rcases hm with rfl|rfl|rfl
  ·have:=q (.truths [false]) (.inl rfl) (by rw[e];rfl);rw[aQ]at this;exact this
  ·have:=q (.truths [true]) (.inr (.inl rfl)) (by rw[e];rfl);rw[aQ]at this;exact this
  ·have:=q (.truths [false,true]) (.inr (.inr rfl)) (by rw[e];rfl);rw[aQ]at this;exact this
 ·have hst1:=hw.st1;have hst2:=hw.st2;have hsp1:=hw.sp1;have hsp2:=hw.sp2;refine⟨_,rfl,_,rfl,rfl,12,rfl,by decide,bW (by decide) (by decide),λk k0 k1=>⟨.inr ⟨bW (by omega) (by omega),bW (by omega) (by omega)⟩,?_⟩⟩;refine⟨by decide,rfl,5,rfl,by decide,bW (by decide) (by decide),λr r0 r1=>?_⟩;obtain⟨U,hU,hm⟩:=lZ (l:=[iT 0,iT 1,iT 2,iT 3,iT 7]) r0 r1;have hm:∃m:Int,U=iT m/\0<=m/\m<=7:=by
   simp only[qe_,b_,or_false]at hm;rcases hm with e|e|e|e|e<;>subst e<;>exact⟨_,rfl,by decide,by decide⟩
  obtain⟨m,rfl,mm0,mm7⟩:=hm;refine⟨_,hU,?_⟩;clear hU;refine⟨_,rfl,.inr ⟨bW (by omega) (by omega),bW (by omega) (by omega)⟩,_,rfl,.inl ⟨_,_,rfl,.inr ⟨bW (by omega) (by omega),bW (by omega) (by omega)⟩,by simp,?_⟩⟩;have:=q (.numbers _ _ _) (MU hst1 hst2 hsp1 hsp2 k0 k1 mm0 mm7) (by rw[e];rfl);rw[aQ]at this;exact this
 ·refine⟨rfl,nm,tx,st,sp,rfl,hw,λw ww=>⟨by simp,?_⟩⟩;have:=q (.texts w) ww (by rw[e];rfl);rw[aQ]at this;exact this
 ·have hd:min 1 deep=0\/min 1 deep=1:=by omega
  refine⟨rfl,4,rfl,by decide,bW (by decide) (by decide),λa a0 a1=>.inl ⟨_,_,rfl,.inl (.inl ⟨by omega,by omega⟩),?_⟩⟩;refine⟨by decide,rfl,4,rfl,by decide,bW (by decide) (by decide),λr r0 r1=>?_⟩;obtain⟨U,hU,hm⟩:=lZ (l:=[iT 0,iT 1,iT 2,iT 57]) r0 r1;have hm:∃m:Int,U=iT m/\0<=m/\m<=57:=by
   simp only[qe_,b_,or_false]at hm;rcases hm with e|e|e|e<;>subst e<;>exact⟨_,rfl,by decide,by decide⟩
  obtain⟨m,rfl,mm0,mm7⟩:=hm;refine⟨_,hU,.inl ⟨_,_,rfl,.inl (.inl ⟨by omega,by omega⟩),?_⟩⟩;clear hU;refine⟨by decide,_,rfl,jW (λz=>?_) (λz=>?_)⟩
  ·have hd1:1<=deep:=by
    rcases hd with h|h
    ·rw[h]at z;omega
    ·omega
   refine⟨rfl,nm,tx,st,sp,_,_,rfl,hw,by omega,by omega,by decide,by decide,λf fn hf=>⟨by simp,?_⟩⟩;have:=q (.lists (a*min 1 deep) (a*min 1 deep+m*min 1 deep) f) ⟨?_,?_,?_,λz'=>by omega,λ_=>⟨fn,hf.1,hf.2⟩⟩ (by rw[e];rfl)
   ·rw[gM]at this;exact this
   ·rcases hd with h|h<;>rw[h]<;>omega
   ·rcases hd with h|h<;>rw[h]<;>omega
   ·rcases hd with h|h<;>rw[h]<;>omega
  ·have h0:a*min 1 deep=0/\a*min 1 deep+m*min 1 deep=0:=by rcases hd with h|h<;>rw[h]at z ⊢<;>omega
   refine⟨by simp,?_⟩;have:=q (.lists (a*min 1 deep) (a*min 1 deep+m*min 1 deep) []) ⟨by omega,by omega,by omega,λ_=>rfl,λz'=>by omega⟩ (by rw[e];rfl);rw[gM]at this;exact this
 ·have hk:kind=5:=by omega
  refine⟨_,rfl,cL (λe=>?_) (λe5=>?_)⟩
  ·have:=q (.record 0 0 []) ⟨by decide,by decide,by decide,.nil,λx hx=>(nomatch hx),by decide,by decide,λh=>absurd h (by decide)⟩ (by rw[hk];rfl);rw[dC]at this;exact⟨by decide,by decide,this⟩
  ·refine⟨rfl,3,rfl,by decide,bW (by decide) (by decide),λr r0 r1=>⟨_,rfl,cL (λ_=>?_) (λ_=>?_)⟩⟩
   ·exact⟨rfl,nm,tx,st,sp,deep,rfl,hw,by omega,d1,λa b w f hp=>q _ hp (by rw[hk];rfl)⟩
   ·refine⟨rfl,by decide,?_⟩;have hmen:∃U:Int,j_ [iT 4,iT 3] (if (false != di (.int most) (.int 2))=true then 1 else 0)=some (iT U)/\3<=U/\U<=4:=by
     by_cases h:(false != di (.int most) (.int 2))=true
     ·rw[if_pos h];exact⟨3,rfl,by decide,by decide⟩
     ·rw[if_neg h];exact⟨4,rfl,by decide,by decide⟩
    obtain⟨U,hU,u3,u4⟩:=hmen;refine⟨_,hU,U,rfl,by omega,bW (by omega) (by omega),λm m0 mU=>?_⟩;have rcd:∀mn:Int,0<=mn->mn<=8->yC n [.dk,.va (eO nm tx st sp),.va (iT deep),.va (iT mn)] R:=λmn h1 h2=>⟨nm,tx,st,sp,deep,mn,rfl,hw,by omega,d1,h1,h2,λa b fs hp=>q _ hp (by rw[hk];rfl)⟩
    refine⟨_,rfl,cL (λ_=>⟨_,rfl,cL (λ_=>⟨rfl,4,rfl,by decide,bW (by decide) (by decide),λj j0 j1=>⟨_,rfl,cL (λ_=>?_) (λ_=>?_)⟩⟩) (λ_=>bH ?_)⟩) (λ_=>bH ?_)⟩
    ·exact⟨rfl,rcd 8 (by decide) (by decide)⟩
    ·exact⟨rfl,rcd m (by omega) (by omega)⟩
    ·exact⟨rfl,rcd m (by omega) (by omega)⟩
    ·exact⟨rfl,rcd m (by omega) (by omega)⟩
variable{n:Nat}
theorem Bi{n:Nat}:∀{ks:List Int}{Us:List Tv},Paired (λT U=>∃(k:Int) (p:Pt),T=iT k/\U=aQ p/\jE (n+1) p/\(bZ p:Int)=k) (ks.map iT) Us->∃f:List Pt,Us=f.map aQ/\f.map (λp=>(bZ p:Int))=ks/\∀p∈f,jE (n+1) p
 |[],[],_=>⟨[],rfl,rfl,λx hx=>nomatch hx⟩
 |k::ks,U::Us,.cons r t=>by
  obtain⟨fs,rfl,e2,h⟩:=Bi (ks:=ks) t;obtain⟨k',p,e,rfl,hp,hk⟩:=r;have e:k=k':=by cases e;rfl
  subst e;refine⟨p::fs,rfl,by rw[e6,e2,hk],λx hx=>?_⟩;rcases qe_.mp hx with rfl|hx
  ·exact hp
  ·exact h x hx
theorem JC{rs:List Int}{r:Int}(h0:0<=r)(h1:r<rs.length):∃x,rs[r.toNat]?=some x:=⟨rs[r.toNat]'(by omega),b9 _⟩
theorem DF:dP OE Ou (aY oJ):=lg (by decide +kernel)
theorem Ew(h:ao K mg "_law_form" oJ)(B:Own mg)(OU:ae P w K mg base 2 "_law_take" Oj gB)(PZ:ae P w K mg base (6+3*n+2) "_law_part" OP (Az n))   : ae P w K mg base (6+3*n+3) "_law_form" Ou (lB (n+1)):=by
 refine h.pg4 OE (λnd hr=>
   (aI (kQ 4 nd (Lm rfl rfl B.range rfl B.list_ (aC aG aE)))
   (aI (jF (sc:=aY oJ) (XN:=OE) (N:=["_law_k","_law_deck_here","_law_kinds"]) (fr:=[0,4]) 5 nd (kD rfl B.range (aC (bC bY aG (aL OU hr (bS 0 (aC (aD 3) aE)))) aE)) (λ_ _ _ _ _=>jO) (λ_ _ _ _ _=>(wA 2 (aL OU hr (bS 1 (aC (wZ λF=>(bK cF rfl B.len du (aC (aD 2) aE))) aE))))))
   (aO (aT (fD fK rfl B.tuple_ boot_tuple (aC (bM (fM (sc:=aY oJ) (XN:=OE) (N:=["_law_kind","_law_deck_here","_law_world_here","_law_deep","_law_most"]) (fr:=[0,1,2,3]) (cD (bM (pC (oV rfl) rfl B.sorted boot_sorted (aC (aD 5) aE)))) (λ_ _ _ _ _=>(aL PZ hr (bS 1 (aC (aD 2) (aC (aD 3) (aC (aD 0) (aC (aD 4) aE))))))))) aE))))))) (λas R q=>?_)
 obtain⟨nm,tx,st,sp,deep,most,rfl,hw,d0,d1,m1,m6,q⟩:=q;refine⟨rfl,6,rfl,by decide,?_⟩;refine⟨rfl,_,rfl,by omega,bW (by omega) (by omega),λc c0 c1=>⟨_,rfl,by omega,by omega,by rw[iC];omega,?_⟩⟩;refine vW (λi Us ρ=>∃ps rs:List Int,Us=ps.map iT/\ps.length=i/\(ps++rs).Perm [0,1,2,3,4,5]/\ρ=[.dk,.va (eO nm tx st sp),.va (iT deep),.va (iT most),.own (rs.map iT),.no]) ⟨[],[0,1,2,3,4,5],rfl,rfl,List.Perm.refl _,rfl⟩ ?_ ?_
 ·rintro i T _ _ hT ⟨ps,rs,rfl,hl,hp,rfl⟩ R hR;have hi:=(mM hT).1;have hlen:=hp.length_eq;rw[bw]at hlen;have hlen:ps.length+rs.length=6:=hlen;refine⟨⟨_,rfl⟩,rfl,_,rfl,(rs.map iT).length,rfl,by rw[ak];omega,by rw[ak];exact bW (by omega) (by omega),λr r0 r1=>?_⟩;rw[ak]at r1;obtain⟨x,hx⟩:=JC r0 r1;refine⟨r,_,iT x,rfl,rfl,r0,by rw[gf,hx];rfl,hR (some (iT x)) _ ⟨ps++[x],rs.eraseIdx r.toNat,by rw[gb];rfl,by rw[bw,hl];rfl,wK hp hx,?_⟩⟩;show [Sl.dk,.va (eO nm tx st sp),.va (iT deep),.va (iT most),.own ((rs.map iT).eraseIdx r.toNat),.no]=_;rw[rJ]
 ·rintro _ _ ⟨ps,rs,rfl,hl,hp,rfl⟩;rw[iC]at hl;have hnd:ps.Nodup:=(hp.nodup_iff.mpr (by decide)).sublist (rj _ _);refine .inl ⟨ps,rfl,by omega,λms hm hs=>?_⟩;have hml:ms.length=ps.length:=hm.length_eq;refine⟨by rw[ak];omega,?_⟩;refine rN (λT U=>∃(k:Int) (p:Pt),T=iT k/\U=aQ p/\jE (n+1) p/\(bZ p:Int)=k) (λT hT R hR=>?_) (λUs hUs=>?_)
  ·obtain⟨k,hk,rfl⟩:=qd_.mp hT;have hk:k∈[0,1,2,3,4,5]:=hp.mem_iff.mp (gg _ (hm.mem_iff.mp hk));have hk:0<=k/\k<=5:=by
    simp only[qe_,b_,or_false]at hk;omega
   exact⟨rfl,nm,tx,st,sp,deep,k,most,rfl,hw,d0,by omega,hk.1,hk.2,m1,m6,λp hp hkp=>hR _ ⟨k,p,rfl,rfl,hp,hkp⟩⟩
  ·obtain⟨f,rfl,e,hf⟩:=Bi hUs;refine⟨false,_,rfl,q f (λz=>?_) ⟨?_,hf⟩⟩
   ·rw[z]at e;have:ms.length=0:=by rw[<-e];rfl
    omega
   ·have h1:ms.Pairwise (· < ·):=by
     have h2:ms.Nodup:=hm.nodup_iff.mpr hnd;exact List.Pairwise.imp₂ (λa b h n=>by omega) hs h2
    rw[<-e,i8]at h1;exact h1.imp λh=>by omega
theorem sO(hf:ao K mg "_law_form" oJ)(hp:ao K mg "_law_part" yV)(ht:ao K mg "_law_table" yW)(hrc:ao K mg "_law_record" oK)(B:Own mg)(G1:ae P w K mg base 2 "_law_take" Oj gB)(G2:ae P w K mg base 4 "_law_make" Oo pV)
  (G3:ae P w K mg base 5 "_law_some_words" OC qU):∀n:Nat,ae P w K mg base (6+3*n) "_law_form" Ou (lB n)
 |0=>hf.pfalse DF (fun|_,_,_,_,_,_,[_,_,_,_],_=>rfl) λas R ⟨_,_,_,_,_,_,_,_,h0,h1,_⟩=>by omega
 |n+1=>Ew hf B G1 (Eu hp B G1 G3 (sO hf hp ht hrc B G1 G2 G3 n) (Et ht B G2 G1 (sO hf hp ht hrc B G1 G2 G3 n)) (Es hrc B G1 (sO hf hp ht hrc B G1 G2 G3 n)))
open WordM
structure Hl where
 t:Str
 lo:Int
 hi:Int
 ms:List Str
def qO(i:Hl)(A:List Str):Prop:=A≠[]/\iw A i.t i.lo i.hi i.ms
theorem GQ(t:Str):qO ⟨t,0,0,[]⟩ [t]:=by
 have e0:cs t=cs t++[]:=(gk _).symm;refine⟨by simp,⟨λx hx=>⟨[],by rw[qJ_.mp hx,gk]⟩,λh k=>?_⟩,⟨t,by simp,by dsimp only;omega⟩,λx hx=>by rw[qJ_.mp hx];dsimp only;omega,⟨t,by simp,by dsimp only;omega⟩,λx hx=>by rw[qJ_.mp hx];dsimp only;omega,?_⟩
 ·obtain⟨r,e⟩:=k t (.head _);rw[e,bw];omega
 ·symm;refine qE1_.mpr λm hm=>?_
  obtain⟨x,hx,c,hc,_⟩:=marksOf_mem.mp hm;rw[qJ_.mp hx,dW e0]at hc;exact nomatch hc
theorem Je{I:List (Hl×List Str)}(ne:I≠[])(ok:∀x∈I,qO x.1 x.2){h:Str}(hh:a_ (I.map λx=>x.1.t) h):
  iw (I.map (·.2)).flatten h (aX (I.map λx=>x.1.lo+((x.1.t.length:Int)-h.length))) (bD (I.map λx=>x.1.hi+((x.1.t.length:Int)-h.length))) (iH (I.map (·.2)).flatten h):=by
 have mem:∀{t:Str},t∈(I.map (·.2)).flatten↔∃x∈I,t∈x.2:=λ{t}=>by
  rw[qc1_];constructor
  ·rintro⟨l,hl,ht⟩;obtain⟨x,hx,rfl⟩:=qd_.mp hl;exact⟨x,hx,ht⟩
  ·rintro⟨x,hx,ht⟩;exact⟨x.2,qd_.mpr ⟨x,hx,rfl⟩,ht⟩
 have hp:∀x∈I,∃r,cs x.1.t=cs h++r:=λx hx=>hh.all _ (qd_.mpr ⟨x,hx,rfl⟩)
 have lens:∀x∈I,∀t∈x.2,(t.length:Int)-h.length=((t.length:Int)-x.1.t.length)+((x.1.t.length:Int)-h.length):=λx hx t ht=>by omega
 have nl:(I.map λx=>x.1.lo+((x.1.t.length:Int)-h.length))≠[]:=λe=>ne (qJ2_.mp e)
 have nh:(I.map λx=>x.1.hi+((x.1.t.length:Int)-h.length))≠[]:=λe=>ne (qJ2_.mp e)
 refine⟨⟨λt ht=>?_,λq hq=>?_⟩,?_,λt ht=>?_,?_,λt ht=>?_,rfl⟩
 ·obtain⟨x,hx,ht⟩:=mem.mp ht;obtain⟨r,e⟩:=hp x hx;obtain⟨s,e'⟩:=(ok x hx).2.he.all t ht;exact⟨r++s,by rw[e',e,e_]⟩
 ·refine hh.top q λt ht=>?_
  obtain⟨x,hx,rfl⟩:=qd_.mp ht;exact(ok x hx).2.he.pre (ok x hx).1 λy hy=>hq y (mem.mpr ⟨x,hx,hy⟩)
 ·obtain⟨x,hx,e⟩:=qd_.mp (iF nl).1;obtain⟨t,ht,et⟩:=(ok x hx).2.lo1;refine⟨t,mem.mpr ⟨x,hx,ht⟩,?_⟩;rw[<-e];omega
 ·obtain⟨x,hx,ht⟩:=mem.mp ht;have h1:=(iF nl).2 _ (qd_.mpr ⟨x,hx,rfl⟩);have h2:=(ok x hx).2.lo2 t ht;omega
 ·obtain⟨x,hx,e⟩:=qd_.mp (iG nh).1;obtain⟨t,ht,et⟩:=(ok x hx).2.hi1;refine⟨t,mem.mpr ⟨x,hx,ht⟩,?_⟩;rw[<-e];omega
 ·obtain⟨x,hx,ht⟩:=mem.mp ht;have h1:=(iG nh).2 _ (qd_.mpr ⟨x,hx,rfl⟩);have h2:=(ok x hx).2.hi2 t ht;omega
theorem LX{I:List (Hl×List Str)}(ok:∀x∈I,qO x.1 x.2){h:Str}(hh:a_ (I.map λx=>x.1.t) h)(m:Str):m∈iH (I.map (·.2)).flatten h↔∃x∈I,(∃c∈cs (bA x.1.t h),cR c=m)\/m∈x.1.ms:=by
 have hp:∀x∈I,∃r,cs x.1.t=cs h++r:=λx hx=>hh.all _ (qd_.mpr ⟨x,hx,rfl⟩)
 rw[marksOf_mem];constructor
 ·rintro⟨t,ht,c,hc,e⟩;obtain⟨l,hl,ht⟩:=qc1_.mp ht;obtain⟨x,hx,rfl⟩:=qd_.mp hl;obtain⟨r,er⟩:=hp x hx;obtain⟨s,es⟩:=(ok x hx).2.he.all t ht;rw[dW (r:=r++s) (by rw[es,er,e_])]at hc;refine⟨x,hx,?_⟩;rcases qj_.mp hc with z|z
  ·exact .inl ⟨c,by rw[dW er];exact z,e⟩
  ·refine .inr ?_;rw[(ok x hx).2.mks,marksOf_mem];exact⟨t,ht,c,by rw[dW es];exact z,e⟩
 ·rintro⟨x,hx,q⟩;obtain⟨r,er⟩:=hp x hx;rcases q with⟨c,hc,e⟩|q
  ·obtain⟨t,ht⟩:=iz _ (ok x hx).1;obtain⟨s,es⟩:=(ok x hx).2.he.all t ht;rw[dW er]at hc;exact⟨t,qc1_.mpr ⟨x.2,qd_.mpr ⟨x,hx,rfl⟩,ht⟩,c,by rw[dW (r:=r++s) (by rw[es,er,e_])];exact gg _ hc,e⟩
  ·rw[(ok x hx).2.mks,marksOf_mem]at q;obtain⟨t,ht,c,hc,e⟩:=q;obtain⟨s,es⟩:=(ok x hx).2.he.all t ht;rw[dW es]at hc;exact⟨t,qc1_.mpr ⟨x.2,qd_.mpr ⟨x,hx,rfl⟩,ht⟩,c,by rw[dW (r:=r++s) (by rw[es,er,e_])];exact de _ hc,e⟩
noncomputable def zg:Wd->List Hl
 |.few ss=>ss.map λt=>⟨t,0,0,[]⟩
 |.make h lo hi ms=>[⟨h,lo,hi,ms⟩]
structure GH (x:Hl×List Str):Prop where
 hl:qO x.1 x.2
 hi:x.1.hi=0\/7<=(aH x.2).length
 tx:eY x.1.t
theorem GP{t:Str}(h:eY t):GH (⟨t,0,0,[]⟩,[t]):=⟨GQ t,.inl rfl,h⟩
theorem A5{x:Hl×List Str}(h:GH x)(z:x.1.hi=0)(t:Str):t∈x.2↔t=x.1.t:=by
 have m:∀t∈x.2,t=x.1.t:=λt ht=>by
  obtain⟨r,e⟩:=h.hl.2.he.all t ht;have l:=h.hl.2.hi2 t ht;rw[z,WordM.len,WordM.len,e,bw]at l;have:r=[]:=jk (by omega);rw[this,gk]at e;exact kG e
 refine⟨m t,λe=>?_⟩;obtain⟨u,hu⟩:=iz _ h.hl.1;rw[e,<-m u hu];exact hu
theorem fl_mem{I:List (Hl×List Str)}{t:Str}:t∈(I.map (·.2)).flatten↔∃x∈I,t∈x.2:=by
 rw[qc1_];constructor
 ·rintro⟨l,hl,ht⟩;obtain⟨x,hx,rfl⟩:=qd_.mp hl;exact⟨x,hx,ht⟩
 ·rintro⟨x,hx,ht⟩;exact⟨x.2,qd_.mpr ⟨x,hx,rfl⟩,ht⟩
theorem BU{ss:List Str}(h:∀t∈ss,eY t):(∀x∈ss.map λt=>((⟨t,0,0,[]⟩:Hl),[t]),GH x)/\∀t,t∈((ss.map λt=>((⟨t,0,0,[]⟩:Hl),[t])).map (·.2)).flatten↔t∈ss:=by
 refine⟨λx hx=>?_,λt=>?_⟩
 ·obtain⟨t,ht,rfl⟩:=qd_.mp hx;exact GP (h t ht)
 ·rw[fl_mem];constructor
  ·rintro⟨x,hx,ht⟩;obtain⟨u,hu,rfl⟩:=qd_.mp hx;rw[qJ_.mp ht];exact hu
  ·exact λht=>⟨_,qd_.mpr ⟨t,ht,rfl⟩,.head _⟩
theorem wQ{A:List Str}(h:cu A):∃I:List (Hl×List Str),I.map (·.1)=zg (bN A)/\I≠[]/\I.length<=6/\(∀x∈I,GH x)/\∀t,t∈(I.map (·.2)).flatten↔t∈A:=by
 have w:=mT h.ne;cases e:bN A with
 |few ss=>
  rw[e]at w;obtain⟨rfl,l7⟩:=w;have g:=BU (ss:=aZ (aH A)) λt ht=>h.ok l7 t (sort_set_mem.mp ht)
  refine⟨(aZ (aH A)).map λt=>(⟨t,0,0,[]⟩,[t]),by rw[dh];rfl,λe=>pI h.ne (qJ2_.mp e),by rw[ak,(dM _).length_eq];omega,g.1,λt=>by rw[g.2,sort_set_mem]⟩
 |make hd lo hi ms=>
  rw[e]at w;obtain⟨l7,m⟩:=w;have ht:eY hd:=by
   obtain⟨h',lo',hi',ms',e',m'⟩:=fY h.ne;have:=(m.uniq m').1;rw[this];exact h.hd _ _ _ _ e'
  exact⟨[(⟨hd,lo,hi,ms⟩,A)],rfl,by simp,by simp,λx hx=>by rw[qJ_.mp hx];exact⟨⟨h.ne,m⟩,.inr l7,ht⟩,λt=>by simp⟩
open WordM
def dG(i:Hl):Tv:=.seq true [sT i.t,iT i.lo,iT i.hi,.seq true (i.ms.map sT)]
def mY:bz:=λas R=>∃W:Wd,as=[.va (bV W)]/\(∀ss,W=.few ss->ss.length<=6)/\R (.seq false ((zg W).map dG))
theorem EA(h:ao K mg "_law_hulls" yU)(B:Own mg)    : ae P w K mg base 1 "_law_hulls" Ov mY:=by
 refine h.pg1 Ov (λnd hr=>
   (aI (bP (bU hr (aJ hr (aD 0) aG) bB)
    (aO (aT (bM (cQ (aC (iY jG (aD 0) (jB aG) jC) aE)))))
    bO)
   (aO (aT (bM (fM (sc:=aY yU) (XN:=Ov) (N:=["_law_text_here"]) (fr:=[]) (cD (aJ hr (aD 0) aG)) (λ_ _ _ _ _=>(bQ (aC (aD 0) (aC aG (aC aG (aC (bQ aE) aE)))))))))))) (λas R q=>?_)
 obtain⟨W,rfl,l6,q⟩:=q;cases W with
 |few ss=>
  have l6:=l6 ss rfl;refine⟨rfl,_,bc,_,rfl,sN (by decide +kernel) ⟨_,aR (j:=1) rfl,by rw[ak];omega,eJ sT (λt=>dG ⟨t,0,0,[]⟩) (λt ht R q=>⟨by simp,by simp,q⟩) ?_⟩⟩;have q:R (.seq false ((ss.map λt=>(⟨t,0,0,[]⟩:Hl)).map dG)):=q;rw[dh]at q;exact q
 |make h lo hi ms=>exact⟨rfl,_,bc,_,rfl,sY ⟨_,rfl,by simp,q⟩⟩
open WordM
theorem yF{c:Nat}{S:Str}{A B:Prop}(h1:c∈cs S->A)(h2:c∉cs S->B):if (false != qk ⟨#[c]⟩ S)=true then A else B:=by
 have:(false != qk ⟨#[c]⟩ S)=decide (c∈cs S):=by unfold qk;rw[StrLaws.found_one];simp
 rw[this];exact jW h1 h2
def yB:bz:=λas R=>∃c:Nat,as=[.va (sT ⟨#[c]⟩)]/\R (sT (cR c))
theorem Ez(h:ao K mg "_law_mark" yt)(B:Own mg)    : ae P w K mg base 1 "_law_mark" Ox yB:=by
 refine h.pg1 Ox (λnd hr=>
   (aI (bP (eP (nU hr.units) (aD 0) bB rfl)
    (aO (aT bB))
    bO)
   (aI (bP (eP (nU hr.units) (aD 0) bB rfl)
    (aO (aT bB))
    bO)
   (aI (bP (eP (nU hr.units) (aD 0) bB rfl)
    (aO (aT bB))
    bO)
   (aO (aT bB)))))) (λas R q=>?_)
 obtain⟨c,rfl,q⟩:=q;unfold cR at q;refine⟨rfl,_,rfl,yF (λa=>?_) (λa=>⟨_,rfl,yF (λb=>?_) (λb=>⟨_,rfl,yF (λd=>?_) (λd=>?_)⟩)⟩)⟩
 ·rw[if_pos (show c∈cs oG from a)]at q;exact q
 ·rw[if_neg (show c∉cs oG from a),if_pos (show c∈cs pQ from b)]at q;exact q
 ·rw[if_neg (show c∉cs oG from a),if_neg (show c∉cs pQ from b),if_pos (show c∈cs sV from d)]at q;exact q
 ·rw[if_neg (show c∉cs oG from a),if_neg (show c∉cs pQ from b),if_neg (show c∉cs sV from d)]at q;exact q
def sZ:bz:=λas R=>∃I:List Hl,as=[.va (.seq false (I.map dG))]/\I≠[]/\I.length<=40/\(∀i∈I,Sg i.t/\i.t.length<=100/\eV i.ms/\∀m∈i.ms,m∈MK)/\∀h,a_ (I.map (·.t)) h->Sg h->∀ms,eV ms->(∀m,m∈ms↔∃x∈I,(∃c∈cs (bA x.t h),cR c=m)\/m∈x.ms)->R (bV (.make h (aX (I.map λx=>x.lo+((x.t.length:Int)-h.length))) (bD (I.map λx=>x.hi+((x.t.length:Int)-h.length))) ms))
theorem EB(h:ao K mg "_law_hull" lW)(B:Own mg)(Pw:ae P w K mg base 1 "_law_mark" Ox yB)   : ae P w K mg base 2 "_law_hull" Os sZ:=by
 refine h.pg1 Oy (λnd hr=>
   (aI (aW 1 nd (aJ hr (aJ hr (aD 0) aG) aG))
   (aI (pB jr (nZ hr (bM (tI (sc:=aY lW) (XN:=Oy) (N:=["_law_one","_law_head"]) (fr:=[1]) (cD (aD 0)) (λ_ _ _ _ _=>(kK (jP (eF (sU PySem.F.slot_str_startswith PySem.F.type_str_startswith Lf (aJ hr (aD 0) aG) (aC (aD 1) aE)))))) (λ_ _ _ _ _=>(aD 0)))) (bM (cQ aE)))
    (aO (aW 1 nd (iY jG (aD 1) jC (jB (tJ sW aG))))))
   (aI (aW 2 nd (bK cF rfl B.len du (aC (aD 1) aE)))
   (aI (aW 3 nd (bK (fT rfl) rfl B.min boot_min (aC (bM (fM (sc:=aY lW) (XN:=Oy) (N:=["_law_one","_law_at"]) (fr:=[2]) (cD (aD 0)) (λ_ _ _ _ _=>(bC gU (bC bY (aJ hr (aD 0) aG) (bK cF rfl B.len du (aC (aJ hr (aD 0) aG) aE))) (aD 1))))) aE)))
   (aI (aW 4 nd (bK (gV rfl) rfl B.max boot_max (aC (bM (fM (sc:=aY lW) (XN:=Oy) (N:=["_law_one","_law_at"]) (fr:=[2]) (cD (aD 0)) (λ_ _ _ _ _=>(bC gU (bC bY (aJ hr (aD 0) aG) (bK cF rfl B.len du (aC (aJ hr (aD 0) aG) aE))) (aD 1))))) aE)))
   (aI (KN (i:=5) (sc:=aY lW) (XN:=Oy) (N:=Ox) (own:=1) (fr:=[]) rfl nd rfl (.inl rfl) ⟨rfl,by decide +kernel,by decide +kernel,by decide +kernel,rfl,by decide +kernel,by decide,by decide +kernel⟩ (by decide) (cD (sU PySem.F.slot_str_join PySem.F.type_str_join Au bB (aC (bM (fM (sc:=aY lW) (XN:=Oy) (N:=["_law_one","_law_at"]) (fr:=[2]) (cD (aD 0)) (λ_ _ _ _ _=>(iY jG (aJ hr (aD 0) aG) (jB (aD 1)) jC)))) aE))) (λ_ _ _ _ _=>(dD 0 (by decide) (show(Ox:List Str).Nodup by decide +kernel) rfl (by first|exact Or.inl rfl|exact Or.inr rfl))) (λ_ _ _ _ _=>jO) (λ_ _ _ _ _=>(aL Pw hr (aC (aD 0) aE))))
   (aI (fZ (m:=7) jr rfl (cD (aD 0)) (dD 6 (by decide) nd rfl (.inl rfl))
    (aO (kF (C0 5 (bM (oU oW rfl B.list_ boot_list (aC (aJ hr (aD 6) aG) aE)))))))
   (aO (aT (bQ (aC bB (aC (aD 1) (aC (aD 3) (aC (aD 4) (aC (fD fK rfl B.tuple_ boot_tuple (aC (bM (Cz rfl rfl B.sorted rfl B.set_ (aD 5))) aE)) aE)))))))))))))))) (λas R q=>?_)
 obtain⟨I,rfl,ne,l40,hI,q⟩:=q;obtain⟨i0,I',rfl⟩:=List.exists_cons_of_ne_nil ne;have i0m:i0∈i0::I':=.head _;refine⟨rfl,_,bc,_,bc,?_⟩;generalize hI0:i0::I'=I at hI q l40 i0m;refine⟨λm ρ=>∃(h:Str) (s2 s3 s4 s5 s6:Sl),m=h.length/\Sg h/\h.length<=100/\((∃r,cs i0.t=cs h++r)/\∀h':List Nat,(∀i∈I,∃r,cs i.t=h'++r)->h'.length<=(cs h).length)/\ρ=[.va (.seq false (I.map dG)),.va (sT h),s2,s3,s4,s5,s6],⟨_,i0.t,_,_,_,_,_,rfl,(hI i0 i0m).1,(hI i0 i0m).2.1,⟨⟨[],by rw[gk]⟩,λh' hh=>by obtain⟨r,e⟩:=hh i0 i0m;rw[e,bw];omega⟩,by rw[<-hI0];rfl⟩,?_⟩;rintro m _ ⟨h,s2,s3,s4,s5,s6,rfl,sh,lh,⟨hpre,htop⟩,rfl⟩;refine⟨by rw[ak];omega,?_⟩;refine iA dG (λi=>if kg i.t h=true then none else some (dG i)) (λi hi R q=>⟨_,bc,rfl,_,_,rfl,rfl,_,rfl,kh (λz=>?_) (λz=>?_)⟩) ?_
 ·have z:(!kg i.t h)=true:=z;have z:kg i.t h=false:=by cases e:kg i.t h with|false=>rfl|true=>rw[e]at z;cases z
  rw[if_neg (by rw[z];exact cq)]at q;exact q
 ·have z:(!kg i.t h)=false:=z;have z:kg i.t h=true:=by cases e:kg i.t h with|true=>rfl|false=>rw[e]at z;cases z
  rw[if_pos z]at q;exact q
 refine⟨by simp,.inr (.inl rfl),_,rfl,kh (λz=>?_) (λz=>?_)⟩
 ·have hpos:0<h.length:=by
   refine Nat.pos_of_ne_zero λe=>?_
   have:(I.filterMap λi=>if kg i.t h=true then none else some (dG i))=[]:=qs2_.mpr λi _=>by
    rw[if_pos];refine stW_iff.mpr ⟨cs i.t,?_⟩;rw[WordM.len]at e;rw[jk e];rfl
   rw[this]at z;simp[cX]at z
  have l':=M3 hpos;have cl':=Cm hpos;have hlen:h.length=(cs h).length:=WordM.len h;have nst:¬ ∀i∈I,kg i.t h=true:=λhall=>by
   have:(I.filterMap λi=>if kg i.t h=true then none else some (dG i))=[]:=qs2_.mpr λt ht'=>by rw[if_pos (hall t ht')]
   rw[this]at z;simp[cX]at z
  refine⟨_,rfl,by omega,_,by rw[l'];omega,Txt.slice h none (some (-1)),_,_,_,_,_,rfl,sh.slice _ _,by rw[l'];omega,⟨?_,λh' hh=>?_⟩,rfl⟩
  ·obtain⟨r,e⟩:=hpre;refine⟨(cs h).drop (h.length-1)++r,?_⟩;rw[cl',<-e_,p6];exact e
  ·rw[cl',fu];have h1:=htop h' hh;have:h'.length≠(cs h).length:=λe=>nst λt ht'=>by
    obtain⟨r1,e1⟩:=hpre;obtain⟨r2,e2⟩:=hh i0 i0m;have eh:h'=cs h:=List.append_inj_left (e2.symm.trans e1) e;obtain⟨r,e3⟩:=hh t ht';exact stW_iff.mpr ⟨r,by rw[e3,eh]⟩
   omega
 have hall:∀i∈I,kg i.t h=true:=by
  have:(I.filterMap λi=>if kg i.t h=true then none else some (dG i))=[]:=by
   generalize (I.filterMap λi=>if kg i.t h=true then none else some (dG i))=L at z;cases L with
   |nil=>rfl
   |cons a L=>simp[cX]at z
  intro i hi;have:=qs2_.mp this i hi;apply Classical.byContradiction;intro q;rw[if_neg q]at this;cases this
 have hh:a_ (I.map (·.t)) h:=⟨λt ht=>by
  obtain⟨i,hi,rfl⟩:=qd_.mp ht
  exact stW_iff.mp (hall i hi),λh' hh=>htop h' λi hi=>hh i.t (qd_.mpr ⟨i,hi,rfl⟩)⟩
 have ne':I≠[]:=λz=>by rw[z]at i0m;exact nomatch i0m
 refine⟨by show h.length<=_;omega,?_⟩;show av.nx _ _;refine dw (ρ':=[.va (.seq false (I.map dG)),.va (sT h),.va (iT (h.length:Nat)),s3,s4,s5,s6]) rfl ?_;have cmp:∀f:Hl->Int,(I.map λi=>iT (f i+(i.t.length:Nat)-(h.length:Nat)))=(I.map λx=>f x+((x.t.length:Int)-h.length)).map iT:=λf=>by
  rw[dh];apply mr;intro i _;show iT _=iT _;rw[Int.add_sub_assoc]
 have nn:∀f:Hl->Int,0<(I.map λx=>f x+((x.t.length:Int)-h.length)).length:=λf=>by rw[ak];exact qc2_.mpr ne'
 refine⟨by rw[ak];omega,eJ dG (λi=>iT (i.lo+(i.t.length:Nat)-(h.length:Nat))) (λi hi R q=>⟨_,aR (j:=1) rfl,_,bc,by have:=(hI i hi).2.1;show i.t.length<=_;omega,q⟩) ?_⟩;rw[cmp];refine .inr (.inl ⟨_,rfl,nn _,λlo lo1 lo2=>?_⟩);rw[<-nC lo1 lo2];show av.nx _ _;refine dw (ρ':=[.va (.seq false (I.map dG)),.va (sT h),.va (iT (h.length:Nat)),.va (iT (aX (I.map λx=>x.lo+((x.t.length:Int)-h.length)))),s4,s5,s6]) rfl ?_;refine⟨by rw[ak];omega,eJ dG (λi=>iT (i.hi+(i.t.length:Nat)-(h.length:Nat))) (λi hi R q=>⟨_,aR (j:=2) rfl,_,bc,by have:=(hI i hi).2.1;show i.t.length<=_;omega,q⟩) ?_⟩;rw[cmp];refine .inr (.inl ⟨_,rfl,nn _,λhi hi1 hi2=>?_⟩);rw[<-nD hi1 hi2];show av.nx _ _;generalize eL:aX (I.map λx=>x.lo+((x.t.length:Int)-h.length))=least at q ⊢;generalize eM:bD (I.map λx=>x.hi+((x.t.length:Int)-h.length))=most at q ⊢;refine dw (ρ':=[.va (.seq false (I.map dG)),.va (sT h),.va (iT (h.length:Nat)),.va (iT least),.va (iT most),s5,s6]) rfl ?_;have rl:∀t∈I.map (λi=>bA i.t h),t.length<=100:=λt ht=>by
  obtain⟨i,hi,rfl⟩:=qd_.mp ht;obtain⟨r,e⟩:=hh.all i.t (qd_.mpr ⟨i,hi,rfl⟩);have:=(hI i hi).2.1;rw[WordM.len,e,bw]at this;rw[WordM.len,dW e];omega
 have cl:(cY (I.map λi=>bA i.t h)).length<=40*100:=cx (BN _ 100 rl) (Nat.mul_le_mul_right _ (by rw[ak];exact l40));refine⟨rfl,by rw[ak];omega,eJ dG (λi=>sT (bA i.t h)) (λi hi R q=>⟨_,bc,_,rfl,by have:=(hI i hi).2.1;show i.t.length<=_;omega,q⟩) ?_⟩;refine⟨I.map λi=>bA i.t h,rfl,by rw[dh];rfl,by omega,?_⟩;have hC:∀c,c∈cY (I.map λi=>bA i.t h)↔∃i∈I,c∈cs (bA i.t h):=λc=>by
  unfold cY;rw[qc1_];constructor
  ·rintro⟨l,hl,hc⟩;obtain⟨t',ht',rfl⟩:=qd_.mp hl;obtain⟨i,hi,rfl⟩:=qd_.mp ht';exact⟨i,hi,hc⟩
  ·rintro⟨i,hi,hc⟩;exact⟨_,qd_.mpr ⟨_,qd_.mpr ⟨i,hi,rfl⟩,rfl⟩,hc⟩
 generalize cY (I.map λi=>bA i.t h)=C at hC cl ⊢;have ml:∀M:List Str,(∀m∈M,m∈MK)->(aH M).length<=4:=λM hM=>WordM.nodup_len (dX M) λm hm=>hM m ((cZ M m).mp hm)
 refine⟨by rw[ak];show C.length<=_;omega,eJ (λc=>sT ⟨#[c]⟩) (λc=>sT (cR c)) (l:=C) (λc hc R q=>⟨c,rfl,q⟩) ?_⟩;show av.nx _ _;refine dw (ρ':=[.va (.seq false (I.map dG)),.va (sT h),.va (iT (h.length:Nat)),.va (iT least),.va (iT most),.own ((C.map cR).map sT),s6]) (by rw[dh];rfl) ?_;refine lE dG (l:=I) (λj ρ=>∃(M:List Str) (s6:Sl),(∀m,m∈M↔(∃c∈C,cR c=m)\/∃i∈I.take j,m∈i.ms)/\M.length<=4000+4*j/\(∀m∈M,m∈MK)/\ρ=[.va (.seq false (I.map dG)),.va (sT h),.va (iT (h.length:Nat)),.va (iT least),.va (iT most),.own (M.map sT),s6]) ⟨C.map cR,s6,λm=>?_,by rw[ak];omega,λm hm=>?_,rfl⟩ ?_ ?_
 ·rw[qd_];exact⟨.inl,λq=>q.elim id λ⟨i,hi,_⟩=>nomatch hi⟩
 ·obtain⟨c,_,rfl⟩:=qd_.mp hm;exact sH c
 ·rintro j i _ N hj ⟨M,s6,hM,lM,kM,rfl⟩ hN;have him:=i5 hj;have hjl:j<I.length:=(qB_.mp hj).1;have l4:i.ms.length<=4:=(pD (hI i him).2.2.1 xI (hI i him).2.2.2).length_le;refine⟨⟨_,rfl⟩,_,aR (j:=3) rfl,true,_,rfl,_,_,rfl,rfl,by rw[ak,ak];omega,hN _ ⟨M++i.ms,.va (dG i),λm=>?_,by rw[bw];omega,λm hm=>(qj_.mp hm).elim (kM m) ((hI i him).2.2.2 m),?_⟩⟩
  ·rw[qj_,hM,gu,hj];constructor
   ·rintro ((q|⟨i',hi',q⟩)|q)
    ·exact .inl q
    ·exact .inr ⟨i',gg _ hi',q⟩
    ·exact .inr ⟨i,de _ (.head _),q⟩
   ·rintro (q|⟨i',hi',q⟩)
    ·exact .inl (.inl q)
    ·rcases qj_.mp hi' with z|z
     ·exact .inl (.inr ⟨i',z,q⟩)
     ·have:i'=i:=qJ_.mp z;rw[this]at q;exact .inr q
  ·rw[gb];rfl
 ·rintro _ ⟨M,s6,hM,lM,kM,rfl⟩;refine⟨M,rfl,ny (ml M kM) (by decide),false,_,rfl,by simp,?_⟩;have q:=q h hh sh (aZ (aH M)) (hX M) λm=>?_
  ·rw[eL,eM]at q;exact q
  rw[sort_set_mem,hM,jj];constructor
  ·rintro (⟨c,hc,e⟩|⟨i,hi,q⟩)
   ·obtain⟨i,hi,hc⟩:=(hC c).mp hc;exact⟨i,hi,.inl ⟨c,hc,e⟩⟩
   ·exact⟨i,hi,.inr q⟩
  ·rintro⟨i,hi,⟨c,hc,e⟩|q⟩
   ·exact .inl ⟨c,(hC c).mpr ⟨i,hi,hc⟩,e⟩
   ·exact .inr ⟨i,hi,q⟩
open WordM
theorem x_{α β:Type}{f:α->Option β}{g:α->β}:∀{l:List α},(∀x∈l,f x=some (g x))->l.filterMap f=l.map g
 |[],_=>rfl
 |x::l,h=>by rw[gm,h x (.head _),e6,x_ λy hy=>h y (.tail _ hy)]
theorem zd{α β:Type}{f:α->Option β}:∀{l:List α}{x:α},x∈l->f x=none->(l.filterMap f).length<l.length
 |y::l,x,h,e=>by
  have q:=n9 f l;rcases qe_.mp h with rfl|h
  ·rw[gm,e,gc];exact Nat.lt_succ_of_le q
  ·have:=zd h e;rw[gm];cases f y with
   |none=>exact Nat.lt_succ_of_le q
   |some z=>exact Nat.succ_lt_succ this
def eH(x:Hl×List Str):Tv:=dG x.1
def lQ:bz:=λas R=>∃J:List (Hl×List Str),as=[.va (.seq false (J.map eH))]/\J≠[]/\J.length<=20/\(∀x∈J,GH x)/\R (bV (bN (J.map (·.2)).flatten))
theorem EC(h:ao K mg "_law_words_of" yT)(B:Own mg)(Px:ae P w K mg base 2 "_law_hull" Os sZ)   : ae P w K mg base 3 "_law_words_of" Os lQ:=by
 refine h.pg1 ["_law_some","_law_texts"] (λnd hr=>
   (aI (jF (sc:=aY yT) (XN:=["_law_some","_law_texts"]) (N:=["_law_one"]) (fr:=[]) 1 nd (cD (aD 0)) (λ_ _ _ _ _=>(kK (bU hr (aJ hr (aD 0) aG) aG))) (λ_ _ _ _ _=>(aJ hr (aD 0) aG)))
   (aI (bP (fF (kJ (bU hr (bK cF rfl B.len du (aC (aD 1) aE)) (bK cF rfl B.len du (aC (aD 0) aE))) (mW (eP tO (MA rfl rfl B.len rfl B.set_ (aD 1)) aG))))
    (aO (aT (bQ (aC bB (aC (fD fK rfl B.tuple_ boot_tuple (aC (bM (Cn rfl rfl B.sorted rfl B.set_ (aD 1))) aE)) aE)))))
    bO)
   (aO (aT (aL Px hr (aC (aD 0) aE))))))) (λas R q=>?_)
 obtain⟨J,rfl,ne,l20,hJ,q⟩:=q;have fne:(J.map (·.2)).flatten≠[]:=λz=>by
  obtain⟨x,hx⟩:=iz _ ne;obtain⟨t,ht⟩:=iz _ (hJ x hx).hl.1;have:=fl_mem.mpr ⟨x,hx,ht⟩;rw[z]at this;exact nomatch this
 have hull:7<=(aH (J.map (·.2)).flatten).length->∀s1:Sl,lV (gF sZ (dF (dI 0) eG)) {nx:=λx=>R nT,rt:=R} [.va (.seq false (J.map eH)),s1]:=λh7 s1=>by
  refine⟨J.map (·.1),by rw[dh];rfl,λe=>ne (qJ2_.mp e),by rw[ak];omega,λi hi=>?_,λh hh sh ms rm hm=>?_⟩
  ·obtain⟨x,hx,rfl⟩:=qd_.mp hi;have g:=hJ x hx;refine⟨g.tx.1,by have:=g.tx.2;omega,?_,λm hm=>?_⟩
   ·rw[g.hl.2.mks];exact kB _ _
   ·rw[g.hl.2.mks]at hm;exact(qd1_.mp hm).1
  ·rw[dh]at hh;have ok:∀x∈J,qO x.1 x.2:=λx hx=>(hJ x hx).hl
   have m:=Je ne ok hh;have e:ms=iH (J.map (·.2)).flatten h:=kE rm (kB _ _) λm=>by
    rw[hm,LX ok hh];constructor
    ·rintro⟨i,hi,q⟩;obtain⟨x,hx,rfl⟩:=qd_.mp hi;exact⟨x,hx,q⟩
    ·rintro⟨x,hx,q⟩;exact⟨x.1,qd_.mpr ⟨x,hx,rfl⟩,q⟩
   rw[<-e]at m;rw[dh,dh];have w:o7 (J.map (·.2)).flatten (.make h _ _ ms):=⟨h7,m⟩
   rw[<-sB fne w]at q;exact q
 refine⟨rfl,by rw[ak];omega,?_⟩;refine iA eH (λx=>if x.1.hi=0 then some (sT x.1.t) else none) (λx hx R q=>⟨_,aR (j:=2) rfl,_,rfl,cL (λz=>?_) (λz=>?_)⟩) ?_
 ·rw[if_pos z]at q;exact⟨_,bc,q⟩
 ·rw[if_neg z]at q;exact q
 have et:J.filterMap (λx=>if x.1.hi=0 then some (sT x.1.t) else none)=(J.filterMap λx=>if x.1.hi=0 then some x.1.t else none).map sT:=by
  rw[List.map_filterMap];congr 1;funext x;split<;>rfl
 rw[et];show av.nx _ _;refine dw (ρ':=[.va (.seq false (J.map eH)),.va (.seq false ((J.filterMap λx=>if x.1.hi=0 then some x.1.t else none).map sT))]) rfl ?_;by_cases z:∀x∈J,x.1.hi=0
 ·have e:(J.filterMap λx=>if x.1.hi=0 then some x.1.t else none)=J.map (·.1.t):=by
   exact x_ λx hx=>if_pos (z x hx)
  rw[e];have sm:∀t,t∈J.map (·.1.t)↔t∈(J.map (·.2)).flatten:=λt=>by
   rw[fl_mem,qd_];exact⟨λ⟨x,hx,e⟩=>⟨x,hx,(A5 (hJ x hx) (z x hx) t).mpr e.symm⟩,λ⟨x,hx,e⟩=>⟨x,hx,((A5 (hJ x hx) (z x hx) t).mp e).symm⟩⟩
  have ss:=gQ sm;refine⟨_,rfl,cL (λ_=>⟨_,rfl,by rw[ak];omega,_,rfl,jW (λl7=>?_) (λl7=>?_)⟩) (λk=>absurd (show((((J.map (·.1.t)).map sT).length:Nat):Int)=((J.map eH).length:Nat) by rw[ak,ak,ak]) k)⟩
  ·have l7:((aH (J.map (·.1.t))).length:Int)<7:=l7;have w:o7 (J.map (·.2)).flatten (.few (aZ (aH (J.map (·.1.t))))):=⟨ss.2,by rw[<-ss.1];omega⟩
   rw[<-sB fne w]at q;exact⟨_,rfl,by rw[ak];omega,by omega,false,_,rfl,by simp,q⟩
  ·have l7:¬ ((aH (J.map (·.1.t))).length:Int)<7:=l7;exact hull (by rw[<-ss.1];omega) (.va (.seq false ((J.map (·.1.t)).map sT)))
 ·obtain⟨x,hx,hz⟩:=Classical.byContradiction λ(k:¬ ∃x∈J,x.1.hi≠0)=>z λx hx=>Classical.byContradiction λq=>k ⟨x,hx,q⟩
  have h7:7<=(aH (J.map (·.2)).flatten).length:=cx ((hJ x hx).hi.resolve_left hz) (gA λt ht=>fl_mem.mpr ⟨x,hx,ht⟩);have lt:=zd (f:=λx=>if x.1.hi=0 then some x.1.t else none) hx (if_neg hz)
  exact⟨_,rfl,cL (λk=>absurd k λk=>by
   have k:((((J.filterMap λx=>if x.1.hi=0 then some x.1.t else none).map sT).length:Nat):Int)=((J.map eH).length:Nat):=k;rw[ak,ak]at k
   omega) (λ_=>hull h7 (.va (.seq false ((J.filterMap λx=>if x.1.hi=0 then some x.1.t else none).map sT))))⟩
structure Og (ks:List (List (Str×Tv))) (J:List (Hl×List Str)):Prop where
 len:J.length<=8
 gh:∀x∈J,GH x
 mem:∀t,t∈(J.map (·.2)).flatten↔t∈aN ks
 few:(aH (aN ks)).length<=8->J.map (·.1.t)=aZ (aH (aN ks))
def pK:bz:=λas R=>∃(D:List Tv->List Pt) (V:List Tv->Prop) (ks:List (List (Str×Tv))),as=[.va (aQ (dz D ks))]/\da V ks/\∀J,Og ks J->R (.seq false (J.map eH))
theorem ED(h:ao K mg "_law_named" yS)(B:Own mg)(Pc:ae P w K mg base 1 "_law_hulls" Ov mY)   : ae P w K mg base 2 "_law_named" Om pK:=by
 refine h.pg1 Om (λnd hr=>
   (aI (bP (bU hr (aJ hr (aD 0) aG) bB)
    (aO (aT (aL Pc hr (aC (aJ hr (aD 0) aG) aE))))
    bO)
   (aO (aT (bM (fM (sc:=aY yS) (XN:=Om) (N:=["_law_field"]) (fr:=[]) (cD (aJ hr (aD 0) aG)) (λ_ _ _ _ _=>(bQ (aC (aJ hr (aD 0) aG) (aC aG (aC aG (aC (bQ aE) aE)))))))))))) (λas R q=>?_)
 obtain⟨D,V,ks,rfl,hk,q⟩:=q;by_cases h:(aH (aN ks)).length<=8
 ·rw[eC h,dC];have ln:(bL D ks).length<=8:=by rw[iO];exact h
  refine⟨rfl,_,bc,_,rfl,sN (by decide +kernel) ⟨_,aR (j:=3) rfl,by rw[ak];omega,eJ bG (λx=>dG ⟨x.1,0,0,[]⟩) (λx hx R q=>⟨_,bc,by simp,by simp,q⟩) ?_⟩⟩;have g:=BU (ss:=aZ (aH (aN ks))) λt ht=>hk.sm h t (sort_set_mem.mp ht)
  have q:=q ((aZ (aH (aN ks))).map λt=>(⟨t,0,0,[]⟩,[t])) ⟨by rw[ak,(dM _).length_eq];exact h,g.1,λt=>by rw[g.2,sort_set_mem],λ_=>by rw[dh];exact oh _⟩;unfold bL;rw[dh];rw[dh]at q;exact q
 ·have ne:aN ks≠[]:=λe=>h (by rw[e];exact g6 _)
  obtain⟨J,e,_,l6,gj,mj⟩:=wQ (hk.nm.resolve_left ne);rw[fH h,eZ];have q:=q J ⟨by omega,gj,mj,λz=>absurd z h⟩;refine⟨rfl,_,bc,_,rfl,sY ⟨_,aR (j:=3) rfl,bN (aN ks),rfl,λss e=>?_,?_⟩⟩
  ·have w:=mT ne;rw[e]at w;rw[w.1,(dM _).length_eq];have:=w.2;omega
  ·rw[<-e,dh];exact q
theorem EE(h:ao K mg "_law_inner" yR)(B:Own mg)    : ae P w K mg base 1 "_law_inner" Om gX:=by
 refine h.pg1 Om (λnd hr=>
   (aI (bP (bU hr (aJ hr (aD 0) aG) bB)
    (aO (aT (bM (cQ (aC (aJ hr (aD 0) aG) aE)))))
    bO)
   (aO (aT (bM (fM (sc:=aY yR) (XN:=Om) (N:=["_law_field"]) (fr:=[]) (cD (aJ hr (aD 0) aG)) (λ_ _ _ _ _=>(aJ hr (aD 0) aG)))))))) (λas R q=>?_)
 obtain⟨D,ks,rfl,q⟩:=q;unfold fw at q;by_cases h:(aH (aN ks)).length<=8
 ·rw[if_pos h,dh]at q;rw[eC h,dC];have ln:(bL D ks).length<=8:=by rw[iO];exact h
  refine⟨rfl,_,bc,_,rfl,sN (by decide +kernel) ⟨_,aR (j:=3) rfl,by rw[ak];omega,eJ bG (λx=>bE x.2.2) (λx hx R q=>⟨_,aR (j:=2) rfl,q⟩) ?_⟩⟩;unfold bL;rw[dh];exact q
 ·rw[if_neg h]at q;rw[fH h,eZ];exact⟨rfl,_,bc,_,rfl,sY ⟨_,aR (j:=4) rfl,by simp,q⟩⟩
variable{D:List Tv->List Pt}{V V':List Tv->Prop}{lv:Nat}
theorem y9(ks:List (List (Str×Tv))):∃r:List Tv,aQ (dz D ks)=.seq true (sT (if (aH (aN ks)).length<=8 then "record" else "table")::iT (aX (aU ks))::iT (bD (aU ks))::r):=by
 by_cases h:(aH (aN ks)).length<=8
 ·rw[eC h,dC,if_pos h];exact⟨_,rfl⟩
 ·rw[fH h,eZ,if_neg h];exact⟨_,rfl⟩
theorem xt(ks:List (List (Str×Tv)))(n:Str):(bL D ks).filterMap (λx=>if x.1=n then some (bG x) else none)=if n∈aN ks then [bG (bX D ks n)] else []:=by
 have key:∀l:List Str,l.Nodup->(l.map (bX D ks)).filterMap (λx=>if x.1=n then some (bG x) else none)=if n∈l then [bG (bX D ks n)] else []:=λl=>by
  induction l with
  |nil=>exact λ_=>rfl
  |cons a l ih=>
   intro nd;have hn:=qh1_.mp nd;have ih:=ih hn.2;rw[e6,gm];by_cases z:a=n
   ·subst z;rw[if_neg hn.1]at ih;rw[show(if (bX D ks a).1=a then some (bG (bX D ks a)) else none)=some (bG (bX D ks a)) from if_pos rfl,ih,if_pos (.head _)]
   ·rw[show(if (bX D ks a).1=n then some (bG (bX D ks a)) else none)=none from if_neg z];show List.filterMap _ _=_;rw[ih];have:n∈a::l↔n∈l:=⟨λh=>(qe_.mp h).resolve_left λe=>z e.symm,.tail _⟩
    simp only[this]
 have:=key (aZ (aH (aN ks))) (mE (hX _));rw[show bL D ks=(aZ (aH (aN ks))).map (bX D ks) from rfl,this];simp only[sort_set_mem]
theorem EF(h:ao K mg "_law_dicts_both" oH)(B:Own mg)(Pk:ae P w K mg base 2 "_law_named" Om pK)(Pl:ae P w K mg base 1 "_law_inner" Om gX)(Pb:ae P w K mg base lv "_law_both" Oi (kl D V))(Pf:ae P w K mg base 3 "_law_words_of" Os lQ)   : ae P w K mg base (lv+4) "_law_dicts_both" Oi (oN D V):=by
 refine h.pg2 OI (λnd hr=>
   (aI (aW 2 nd (bK (fT rfl) rfl B.min boot_min (aC (aJ hr (aD 0) aG) (aC (aJ hr (aD 1) aG) aE))))
   (aI (aW 3 nd (bK (gV rfl) rfl B.max boot_max (aC (aJ hr (aD 0) aG) (aC (aJ hr (aD 1) aG) aE))))
   (aI (aW 4 nd (bC bY (aL Pk hr (aC (aD 0) aE)) (aL Pk hr (aC (aD 1) aE))))
   (aI (aW 5 nd (bM (Cn rfl rfl B.sorted rfl B.set_ (bM (fM (sc:=aY oH) (XN:=OI) (N:=["_law_name"]) (fr:=[]) (cD (aD 4)) (λ_ _ _ _ _=>(aJ hr (aD 0) aG)))))))
   (aI (bP (fF (gC (bU hr (aJ hr (aD 0) aG) bB) (gC (bU hr (aJ hr (aD 1) aG) bB) (iL (eP tR (bK cF rfl B.len du (aC (aD 5) aE)) aG)))))
    (aI (aW 6 nd (bQ aE))
    (aI (fZ (m:=12) jr rfl (cD (bC bY (aL Pl hr (aC (aD 0) aE)) (aL Pl hr (aC (aD 1) aE)))) (dD 7 (by decide) nd rfl (.inl rfl))
     (aO (aW 6 nd (aL Pb hr (aC (aD 6) (aC (aD 7) aE))))))
    (aO (aT (bQ (aC bB (aC (aD 2) (aC (aD 3) (aC (aL Pf hr (aC (aD 4) aE)) (aC (aD 6) aE))))))))))
    bO)
   (aI (kQ 8 nd (cQ aE))
   (aI (fZ (m:=12) jr rfl (cD (aD 5)) (dD 9 (by decide) nd rfl (.inr rfl))
    (aI (jF (sc:=aY oH) (XN:=OI) (N:=["_law_field","_law_name"]) (fr:=[9]) 10 nd (cD (bC bY (aJ hr (aD 0) aG) (aJ hr (aD 1) aG))) (λ_ _ _ _ _=>(kK (bU hr (aJ hr (aD 0) aG) (aD 1)))) (λ_ _ _ _ _=>(aD 0)))
    (aI (aW 11 nd (iM (gD (jT hr.units).op (bK cF rfl B.len du (aC (aD 10) aE)) aG) (iM (aJ hr (aJ hr (aD 10) aG) aG) (lF (aJ hr (aJ hr (aD 10) (tJ sW aG)) aG)))))
    (aO (kF (mI 8 (bQ (aC (aD 9) (aC (aD 11) (aC (aL Pb hr (aC (aJ hr (aJ hr (aD 10) aG) aG) (aC (aJ hr (aJ hr (aD 10) (tJ sW aG)) aG) aE))) aE))))))))))
   (aO (aT (bQ (aC bB (aC (aD 2) (aC (aD 3) (aC (fD fK rfl B.tuple_ boot_tuple (aC (aD 8) aE)) aE))))))))))))))) (λas R q=>?_)
 obtain⟨ks,js,rfl,hD,cl,hk,hj,q⟩:=q;have la:=BY hk.ne hj.ne;obtain⟨r1,E1⟩:=y9 (D:=D) ks;obtain⟨r2,E2⟩:=y9 (D:=D) js;rw[E1,E2];refine⟨rfl,_,aR (j:=1) rfl,_,aR (j:=1) rfl,.inl ⟨_,_,rfl,_,aR (j:=2) rfl,_,aR (j:=2) rfl,.inl ⟨_,_,rfl,?_⟩⟩⟩;refine⟨D,V,ks,by rw[E1],hk,λJ1 h1=>⟨D,V,js,by rw[E2],hj,λJ2 h2=>⟨by have:=h1.len;have:=h2.len;rw[ak,ak];omega,?_⟩⟩⟩;rw[<-gb];have l1:=h1.len;have l2:=h2.len;generalize hw1:(if (aH (aN ks)).length<=8 then("record":Str) else "table")=w1 at E1 ⊢;generalize hw2:(if (aH (aN js)).length<=8 then("record":Str) else "table")=w2 at E2 ⊢;generalize eT1:Tv.seq true (sT w1::iT (aX (aU ks))::iT (bD (aU ks))::r1)=T1;generalize eT2:Tv.seq true (sT w2::iT (aX (aU js))::iT (bD (aU js))::r2)=T2;rw[eT1]at E1;rw[eT2]at E2;rw[<-la.1,<-la.2];show av.nx _ _;refine dw (ρ':=[.va T1,.va T2,.va (iT (aX (aU (ks++js)))),.va (iT (bD (aU (ks++js)))),.va (.seq false ((J1++J2).map eH)),.no,.no,.no,.no,.no,.no,.no]) rfl ?_;have lh:((J1++J2).map (·.1.t)).length<=16:=by rw[ak,bw];omega
 have sle:(aH ((J1++J2).map (·.1.t))).length<=((J1++J2).map (·.1.t)).length:=WordM.nodup_len (dX _) λx hx=>(cZ _ x).mp hx
 refine⟨by rw[ak,bw];omega,eJ eH (λx=>sT x.1.t) (λx hx R q=>⟨_,bc,q⟩) ⟨(J1++J2).map (·.1.t),by rw[dh];rfl,by omega,by omega,?_⟩⟩;generalize eK:aZ (aH ((J1++J2).map (·.1.t)))=Kn;show av.nx _ _;refine dw (ρ':=[.va T1,.va T2,.va (iT (aX (aU (ks++js)))),.va (iT (bD (aU (ks++js)))),.va (.seq false ((J1++J2).map eH)),.va (.seq false (Kn.map sT)),.no,.no,.no,.no,.no,.no]) rfl ?_;have tab:¬ (aH (aN (ks++js))).length<=8->∀P:av,P.rt=R->oF (oE 6 (yP eG)) (oF (yu (Dn (jx zM (gF gX (dF (dI 0) eG)) (gF gX (dF (dI 1) eG)))) (gN 7) (oE 6 (gF (kl D V) (dF (dI 6) (dF (dI 7) eG))))) (lV (yP (dF (uC (sT "table")) (dF (dI 2) (dF (dI 3) (dF (gF lQ (dF (dI 4) eG)) (dF (dI 6) eG)))))))) P [.va T1,.va T2,.va (iT (aX (aU (ks++js)))),.va (iT (bD (aU (ks++js)))),.va (.seq false ((J1++J2).map eH)),.va (.seq false (Kn.map sT)),.no,.no,.no,.no,.no,.no]:=by
  intro h P hP;rw[fH h,eZ]at q;have f1:=sQ ks;have f2:=sQ js;have hf:∀A∈fw ks++fw js,V A:=λA hA=>by
   have f:∀ks:List (List (Str×Tv)),da V ks->∀A∈fw ks,V A:=λks hk A hA=>by
    unfold fw at hA;split at hA
    ·obtain⟨n,_,rfl⟩:=qd_.mp hA;exact hk.at_v n
    ·rw[qJ_.mp hA];exact hk.vls
   exact(qj_.mp hA).elim (f ks hk A) (f js hj A)
  have fl:∀L:List (List Tv),(∀A∈L,V A)->V L.flatten:=λL=>by
   induction L with
   |nil=>exact λ_=>cl.nil
   |cons A L ih=>exact λh=>cl.app A L.flatten (h A (.head _)) (ih λB hB=>h B (.tail _ hB))
  have eD:D (fw ks++fw js).flatten=D (cO (ks++js)):=hD.same _ _ λv=>by
   rw[show cO (ks++js)=cO ks++cO js from o_ ..,jf,qj_,qj_,sP hk.nd,sP hj.nd]
  refine⟨by simp,?_⟩;show av.nx _ _;refine dw (ρ':=[.va T1,.va T2,.va (iT (aX (aU (ks++js)))),.va (iT (bD (aU (ks++js)))),.va (.seq false ((J1++J2).map eH)),.va (.seq false (Kn.map sT)),.va (bE (D [])),.no,.no,.no,.no,.no]) (by rw[hD.nil];rfl) ?_;refine⟨D,ks,by rw[E1],D,js,by rw[E2],by rw[ak,ak];omega,?_⟩;rw[<-gb];refine lE (λA=>bE (D A)) (l:=fw ks++fw js) (λi ρ=>∃s7:Sl,ρ=[.va T1,.va T2,.va (iT (aX (aU (ks++js)))),.va (iT (bD (aU (ks++js)))),.va (.seq false ((J1++J2).map eH)),.va (.seq false (Kn.map sT)),.va (bE (D ((fw ks++fw js).take i).flatten)),s7,.no,.no,.no,.no]) ⟨.no,rfl⟩ ?_ ?_
  ·rintro i A _ N hA ⟨s7,rfl⟩ hN;refine⟨((fw ks++fw js).take i).flatten,A,rfl,fl _ λB hB=>hf B ((sy _ _).subset hB),hf A (i5 hA),hN _ ⟨.va (bE (D A)),?_⟩⟩;have e:((fw ks++fw js).take (i+1)).flatten=((fw ks++fw js).take i).flatten++A:=by
    rw[gu,hA,jf];show _++(A++[])=_;rw[gk]
   rw[e];rfl
  ·rintro _ ⟨s7,rfl⟩;rw[jj,eD];have nn:aN (ks++js)≠[]:=λe=>h (by rw[e];exact g6 _)
   have fm:∀t,t∈((J1++J2).map (·.2)).flatten↔t∈aN (ks++js):=λt=>by
    rw[gb,jf,qj_,h1.mem,h2.mem,gR,qj_]
   refine⟨J1++J2,rfl,λz=>?_,by rw[bw];omega,λx hx=>(qj_.mp hx).elim (h1.gh x) (h2.gh x),?_⟩
   ·obtain⟨t,ht⟩:=iz _ nn;have:=(fm t).mpr ht;rw[z]at this;exact nomatch this
   ·rw[kC fm];refine⟨by simp,?_⟩;show P.rt _;rw[hP];exact q
 have big1:¬ (aH (aN ks)).length<=8->¬ (aH (aN (ks++js))).length<=8:=λh2 z=>h2 (cx (gA λx hx=>by rw[gR];exact gg _ hx) z)
 have big2:¬ (aH (aN js)).length<=8->¬ (aH (aN (ks++js))).length<=8:=λh2 z=>h2 (cx (gA λx hx=>by rw[gR];exact de _ hx) z)
 by_cases k1:(aH (aN ks)).length<=8
 ·rw[if_pos k1]at hw1;subst hw1;by_cases k2:(aH (aN js)).length<=8
  ·rw[if_pos k2]at hw2;subst hw2;have eN:Kn=aZ (aH (aN (ks++js))):=by
    rw[<-eK,gb,h1.few k1,h2.few k2];exact(gQ λx=>by rw[gR,qj_,qj_,sort_set_mem,sort_set_mem]).2
   have lN:Kn.length=(aH (aN (ks++js))).length:=by rw[eN,(dM _).length_eq]
   have F1:T1=.seq true [sT "record",iT (aX (aU ks)),iT (bD (aU ks)),.seq true ((bL D ks).map bG)]:=by rw[<-E1,eC k1,dC]
   have F2:T2=.seq true [sT "record",iT (aX (aU js)),iT (bD (aU js)),.seq true ((bL D js).map bG)]:=by rw[<-E2,eC k2,dC]
   rw[F1,F2]at tab ⊢;refine⟨_,bc,_,rfl,sN (by decide +kernel) ⟨_,bc,_,rfl,sN (by decide +kernel) ⟨_,rfl,jW (λz=>?_) (λz=>?_)⟩⟩⟩
   ·have z:(((Kn.map sT).length:Nat):Int) > 8:=z;rw[ak]at z;exact tab (by omega) _ rfl
   ·have z:¬ (((Kn.map sT).length:Nat):Int) > 8:=z;rw[ak]at z;have l8:(aH (aN (ks++js))).length<=8:=by omega
    rw[eC l8,dC]at q;clear tab;refine⟨by simp,?_⟩;show av.nx _ _
    let U1:Tv:=.seq true [sT "record",iT (aX (aU ks)),iT (bD (aU ks)),.seq true ((bL D ks).map bG)]
    let U2:Tv:=.seq true [sT "record",iT (aX (aU js)),iT (bD (aU js)),.seq true ((bL D js).map bG)]
    refine dw (ρ':=[.va U1,.va U2,.va (iT (aX (aU (ks++js)))),.va (iT (bD (aU (ks++js)))),.va (.seq false ((J1++J2).map eH)),.va (.seq false (Kn.map sT)),.no,.no,.own [],.no,.no,.no]) rfl ?_;have c1:(bL D ks).length<=8:=by rw[iO];exact k1
    have c2:(bL D js).length<=8:=by rw[iO];exact k2
    refine lE sT (l:=Kn) (λi ρ=>∃s9 s10 s11:Sl,ρ=[.va U1,.va U2,.va (iT (aX (aU (ks++js)))),.va (iT (bD (aU (ks++js)))),.va (.seq false ((J1++J2).map eH)),.va (.seq false (Kn.map sT)),.no,.no,.own (((Kn.take i).map (bX D (ks++js))).map bG),s9,s10,s11]) ⟨.no,.no,.no,rfl⟩ ?_ ?_
    ·rintro i n _ N hn ⟨s9,s10,s11,rfl⟩ hN;have nm:n∈aN ks\/n∈aN js:=by
      have:=i5 hn;rw[eN,sort_set_mem,gR,qj_]at this;exact this
     have et:((Kn.take (i+1)).map (bX D (ks++js))).map bG=((Kn.take i).map (bX D (ks++js))).map bG++[bG (bX D (ks++js) n)]:=by
      rw[gu,hn,gb,gb];rfl
     have lt:(((Kn.take i).map (bX D (ks++js))).map bG).length<=8:=by rw[ak,ak,fu];omega
     generalize ((Kn.take i).map (bX D (ks++js))).map bG=Fs at et lt ⊢;refine⟨_,aR (j:=3) rfl,_,aR (j:=3) rfl,by rw[ak,ak];omega,by rw[bw,ak,ak];omega,?_⟩;rw[<-gb];refine iA bG (λx=>if x.1=n then some (bG x) else none) (λx hx R q=>⟨_,bc,_,rfl,qE (λz=>?_) (λz=>?_)⟩) ?_
     ·rw[if_pos z]at q;exact q
     ·rw[if_neg z]at q;exact q
     rw[fk,xt,xt];have put:∀(b:Bool) (A:List Tv) (s10 s11:Sl),(n,b,D A)=bX D (ks++js) n->N [.va U1,.va U2,.va (iT (aX (aU (ks++js)))),.va (iT (bD (aU (ks++js)))),.va (.seq false ((J1++J2).map eH)),.va (.seq false (Kn.map sT)),.no,.no,.own (Fs++[bG (n,b,D A)]),.va (sT n),s10,s11]:=λb A s10 s11 e=>hN _ ⟨.va (sT n),s10,s11,by rw[et,e]⟩
     by_cases m1:n∈aN ks
     ·by_cases m2:n∈aN js
      ·rw[if_pos m1,if_pos m2];obtain⟨b1,e1⟩:∃b1,bX D ks n=(n,b1,D (cm n ks)):=⟨_,rfl⟩
       obtain⟨b2,e2⟩:∃b2,bX D js n=(n,b2,D (cm n js)):=⟨_,rfl⟩
       have pt:=λs10 s11=>put (b1&&b2) (cm n ks++cm n js) s10 s11 (by rw[sD,e1,e2])
       rw[e1,e2];show av.nx _ _;refine dw (ρ':=[.va U1,.va U2,.va (iT (aX (aU (ks++js)))),.va (iT (bD (aU (ks++js)))),.va (.seq false ((J1++J2).map eH)),.va (.seq false (Kn.map sT)),.no,.no,.own Fs,.va (sT n),.va (.seq false [bG (n,b1,D (cm n ks)),bG (n,b2,D (cm n js))]),s11]) rfl ?_;cases b1 with
       |true=>exact⟨_,rfl,cT ⟨_,bc,_,aR (j:=1) rfl,true,rfl,cT ⟨_,rfl,_,aR (j:=1) rfl,⟨_,rfl⟩,_,bc,_,aR (j:=2) rfl,_,rfl,_,aR (j:=2) rfl,_,_,rfl,hk.at_v n,hj.at_v n,by simp,_,rfl,by omega,pt _ _⟩⟩⟩
       |false=>exact⟨_,rfl,cT ⟨_,bc,_,aR (j:=1) rfl,false,rfl,bH ⟨⟨_,rfl⟩,_,bc,_,aR (j:=2) rfl,_,rfl,_,aR (j:=2) rfl,_,_,rfl,hk.at_v n,hj.at_v n,by simp,_,rfl,by omega,pt _ _⟩⟩⟩
      ·rw[if_pos m1,if_neg m2];obtain⟨b1,e1⟩:∃b1,bX D ks n=(n,b1,D (cm n ks)):=⟨_,rfl⟩
       have e2:=zO hD hj.ne m2;have e3:D (cm n ks++cm n ks)=D (cm n ks++cm n js):=hD.same _ _ λv=>by
        have:cm n js=[]:=qE1_.mpr λv hv=>by
         obtain⟨k,hk',e⟩:=(kI hj.nd).mp hv;exact m2 (qo1_.mpr ⟨k,hk',qd_.mpr ⟨_,e,rfl⟩⟩)
        rw[this,gk,qj_];exact⟨λz=>z.elim id id,.inl⟩
       have pt:=λs10 s11=>put false (cm n ks++cm n ks) s10 s11 (by rw[sD,e2,e3,mf])
       rw[e1];show av.nx _ _;refine dw (ρ':=[.va U1,.va U2,.va (iT (aX (aU (ks++js)))),.va (iT (bD (aU (ks++js)))),.va (.seq false ((J1++J2).map eH)),.va (.seq false (Kn.map sT)),.no,.no,.own Fs,.va (sT n),.va (.seq false [bG (n,b1,D (cm n ks))]),s11]) rfl ?_;exact⟨_,rfl,bH ⟨⟨_,rfl⟩,_,bc,_,aR (j:=2) rfl,_,rfl,_,aR (j:=2) rfl,_,_,rfl,hk.at_v n,hk.at_v n,by simp,_,rfl,by omega,pt _ _⟩⟩
     ·have m2:=nm.resolve_left m1;rw[if_neg m1,if_pos m2];obtain⟨b2,e2⟩:∃b2,bX D js n=(n,b2,D (cm n js)):=⟨_,rfl⟩
      have e1:=zO hD hk.ne m1;have e3:D (cm n js++cm n js)=D (cm n ks++cm n js):=hD.same _ _ λv=>by
       have:cm n ks=[]:=qE1_.mpr λv hv=>by
        obtain⟨k,hk',e⟩:=(kI hk.nd).mp hv;exact m1 (qo1_.mpr ⟨k,hk',qd_.mpr ⟨_,e,rfl⟩⟩)
       rw[this,gi,qj_];exact⟨λz=>z.elim id id,.inl⟩
      have pt:=λs10 s11=>put false (cm n js++cm n js) s10 s11 (by rw[sD,e1,e3,Bool.false_and])
      rw[e2];show av.nx _ _;refine dw (ρ':=[.va U1,.va U2,.va (iT (aX (aU (ks++js)))),.va (iT (bD (aU (ks++js)))),.va (.seq false ((J1++J2).map eH)),.va (.seq false (Kn.map sT)),.no,.no,.own Fs,.va (sT n),.va (.seq false [bG (n,b2,D (cm n js))]),s11]) rfl ?_;exact⟨_,rfl,bH ⟨⟨_,rfl⟩,_,bc,_,aR (j:=2) rfl,_,rfl,_,aR (j:=2) rfl,_,_,rfl,hj.at_v n,hj.at_v n,by simp,_,rfl,by omega,pt _ _⟩⟩
    ·rintro _ ⟨s9,s10,s11,rfl⟩;rw[jj];rw[show bL D (ks++js)=Kn.map (bX D (ks++js)) by rw[eN];rfl]at q;exact⟨false,_,rfl,by simp,q⟩
  ·rw[if_neg k2]at hw2;subst hw2;have F1:T1=.seq true [sT "record",iT (aX (aU ks)),iT (bD (aU ks)),.seq true ((bL D ks).map bG)]:=by rw[<-E1,eC k1,dC]
   have tab:=tab (big2 k2);rw[F1,<-eT2]at tab ⊢;exact⟨_,bc,_,rfl,sN (by decide +kernel) ⟨_,bc,_,rfl,sY (cT (tab _ rfl))⟩⟩
 ·rw[if_neg k1]at hw1;subst hw1;have tab:=tab (big1 k1);rw[<-eT1]at tab ⊢;exact⟨_,bc,_,rfl,sY (cT (tab _ rfl))⟩
def oY:bz:=λas R=>∃a b:Int,as=[.va (iT a),.va (iT b)]/\R (iT (GcdM.g a b))
theorem Ey(h:ao K mg "_law_divisor" yr)(B:Own mg)    : ae P w K mg base 1 "_law_divisor" Oi oY:=by
 refine h.pg2 Oi (λnd hr=>
   (aI (pB jr (nZ hr (aD 1) aG)
    (aO (Hq (i:=0) (j:=1) rfl nd rfl rfl (by decide) rfl rfl (aC (aD 1) (aC (bC IG (aD 0) (aD 1)) aE)) (by rfl))))
   (aO (aT (bK HF rfl B.abs boot_abs (aC (aD 0) aE)))))) (λas R q=>?_)
 obtain⟨a,b,rfl,q⟩:=q;refine⟨rfl,λm ρ=>∃x y:Int,m=y.natAbs/\GcdM.g x y=GcdM.g a b/\ρ=[.va (iT x),.va (iT y)],⟨_,a,b,rfl,rfl,rfl⟩,?_⟩;rintro m _ ⟨x,y,rfl,e,rfl⟩;refine⟨_,rfl,kh (λz=>?_) (λz=>?_)⟩
 ·have hy:y≠0:=by simpa[di]using z
  exact⟨hy,_,_,rfl,_,GcdM.fmod_less hy,y,x.fmod y,rfl,(GcdM.g_turnF hy).trans e,rfl⟩
 ·have hy:y=0:=by simpa[di]using z
  subst hy;rw[GcdM.g_abs x]at e;refine⟨_,rfl,?_⟩;rw[e];exact q
variable{D:List Tv->List Pt}{V V':List Tv->Prop}{lv:Nat}
theorem yc{A:List Str}(ne:A≠[]):∀ss,bN A=.few ss->ss.length<=6:=λss e=>by
 have w:=mT ne;rw[e]at w;rw[w.1,(dM _).length_eq];have:=w.2;omega
theorem Hn(bs cs:List Bool):cp (b7 (bs++cs)) (b5 (bs++cs))=cp (b7 (cp (b7 bs) (b5 bs)++cp (b7 cs) (b5 cs))) (b5 (cp (b7 bs) (b5 bs)++cp (b7 cs) (b5 cs))):=by
 rw[AR];unfold b7 b5;rw[je,je]
theorem JM{ns ms:List Int}(h1:ns≠[])(h2:ms≠[]):cK (ns++ms)=(min (aX ns) (aX ms),max (bD ns) (bD ms),GcdM.g (GcdM.g (cK ns).2.2 (cK ms).2.2) (aX ns-aX ms)):=by
 have e:=CV h1 h2;have e1:(cK (ns++ms)).1=min (aX ns) (aX ms):=rW h1 h2;have e2:(cK (ns++ms)).2.1=max (bD ns) (bD ms):=rX h1 h2;have e3:(cK (ns++ms)).2.2=GcdM.g (GcdM.g (cK ns).2.2 (cK ms).2.2) (aX ns-aX ms):=by rw[<-e];rfl
 rw[<-e1,<-e2,<-e3]
theorem DH:dP OQ Oi (aY qG):=lg (by decide +kernel)
theorem EG(h:ao K mg "_law_parts_both" qG)(B:Own mg)(Pj:ae P w K mg base 1 "_law_divisor" Oi oY)(Pf:ae P w K mg base 3 "_law_words_of" Os lQ)(Pc:ae P w K mg base 1 "_law_hulls" Ov mY)(Pb:ae P w K mg base lv "_law_both" Oi (kl D V))(P0:ae P w K mg base (lv+4) "_law_dicts_both" Oi (oN D V))   : ae P w K mg base (lv+5) "_law_parts_both" Oi (lY D V V'):=by
 refine h.pg2 OQ (λnd hr=>
   (aI (aW 2 nd (aJ hr (aD 0) aG))
   (aI (bP (bU hr (aD 2) bB)
    (aO (aT (bQ (aC (aD 2) (aC (fD fK rfl B.tuple_ boot_tuple (aC (bM (Nr rfl rfl B.sorted rfl B.set_ (bC bY (aJ hr (aD 0) aG) (aJ hr (aD 1) aG)))) aE)) aE)))))
    bO)
   (aI (bP (bU hr (aD 2) bB)
    (aI (aW 3 nd (aL Pj hr (aC (aL Pj hr (aC (aJ hr (aD 0) aG) (aC (aJ hr (aD 1) aG) aE))) (aC (bC gU (aJ hr (aD 0) aG) (aJ hr (aD 1) aG)) aE))))
    (aO (aT (bQ (aC (aD 2) (aC (bK (fT rfl) rfl B.min boot_min (aC (aJ hr (aD 0) aG) (aC (aJ hr (aD 1) aG) aE))) (aC (bK (gV rfl) rfl B.max boot_max (aC (aJ hr (aD 0) aG) (aC (aJ hr (aD 1) aG) aE))) (aC (aD 3) aE))))))))
    bO)
   (aI (bP (bU hr (aD 2) bB)
    (aO (aT (bQ (aC (aD 2) (aC (aL Pf hr (aC (bC bY (aL Pc hr (aC (aJ hr (aD 0) aG) aE)) (aL Pc hr (aC (aJ hr (aD 1) aG) aE))) aE)) aE)))))
    bO)
   (aI (bP (bU hr (aD 2) bB)
    (aO (aT (bQ (aC (aD 2) (aC (bK (fT rfl) rfl B.min boot_min (aC (aJ hr (aD 0) aG) (aC (aJ hr (aD 1) aG) aE))) (aC (bK (gV rfl) rfl B.max boot_max (aC (aJ hr (aD 0) aG) (aC (aJ hr (aD 1) aG) aE))) (aC (aL Pb hr (aC (aJ hr (aD 0) aG) (aC (aJ hr (aD 1) aG) aE))) aE)))))))
    bO)
   (aI (bP (bU hr (aD 2) bB)
    (aO (aT (aD 0)))
    bO)
   (aO (aT (aL P0 hr (aC (aD 0) (aC (aD 1) aE)))))))))))) (λas R q=>?_)
 obtain⟨A,B,k,p,p',r,rfl,hD,cl,vA,vB,_,_,h1,h2,h3,q⟩:=q;have fa:∀{α:Type} (f:Tv->Option α),(A++B).filterMap f=A.filterMap f++B.filterMap f:=λf=>fk ..
 unfold bF at h1;split at h1
 ·have hA:dS A=true:=by
   apply Classical.byContradiction;intro z;rw[if_neg z]at h1;cases h1
  rw[if_pos hA]at h1;cases h1;have h3:(if dS (A++B)=true then some Pt.nothing else none)=some r:=h3;rw[if_pos (by unfold dS at hA ⊢;rw[je,hA];rfl)]at h3;cases h3;rw[uY]at q ⊢;exact⟨rfl,_,bc,_,rfl,sN (by decide +kernel) ⟨_,rfl,sN (by decide +kernel) ⟨_,rfl,sN (by decide +kernel) ⟨_,rfl,sN (by decide +kernel) ⟨_,rfl,sY q⟩⟩⟩⟩⟩
 ·have h3:(if (A++B).filterMap fh=[] then none else some (Pt.truths (cp (b7 ((A++B).filterMap fh)) (b5 ((A++B).filterMap fh)))))=some r:=h3;obtain⟨nA,rfl⟩:=cU h1;obtain⟨nB,rfl⟩:=cU (c:=B.filterMap fh=[]) h2;rw[fa fh,if_neg (λe=>nA (qU_.mp e).1),Hn]at h3;cases h3;rw[oR]at q ⊢;rw[oR];exact⟨rfl,_,bc,_,rfl,sY ⟨_,aR (j:=1) rfl,_,aR (j:=1) rfl,by rw[ak,ak];have:=iV (b7 (A.filterMap fh)) (b5 (A.filterMap fh));have:=iV (b7 (B.filterMap fh)) (b5 (B.filterMap fh));omega,_,by rw[<-gb],false,_,rfl,by simp,q⟩⟩
 ·have h3:(if (A++B).filterMap gq=[] then none else some (Pt.numbers (cK ((A++B).filterMap gq)).1 (cK ((A++B).filterMap gq)).2.1 (cK ((A++B).filterMap gq)).2.2))=some r:=h3;obtain⟨nA,rfl⟩:=cU h1;obtain⟨nB,rfl⟩:=cU (c:=B.filterMap gq=[]) h2;rw[fa gq,if_neg (λe=>nA (qU_.mp e).1),JM nA nB]at h3;cases h3;rw[pA]at q ⊢;rw[pA];exact⟨rfl,_,bc,_,rfl,sN (by decide +kernel) ⟨_,rfl,sY ⟨_,aR (j:=3) rfl,_,aR (j:=3) rfl,_,_,rfl,_,aR (j:=1) rfl,_,aR (j:=1) rfl,_,_,rfl,_,aR (j:=1) rfl,_,aR (j:=1) rfl,.inl ⟨_,_,rfl,_,aR (j:=2) rfl,_,aR (j:=2) rfl,.inl ⟨_,_,rfl,by simp,q⟩⟩⟩⟩⟩
 ·have h3:(if (A++B).filterMap f7=[] then none else some (Pt.texts (bN ((A++B).filterMap f7))))=some r:=h3;obtain⟨nA,rfl⟩:=cU h1;obtain⟨nB,rfl⟩:=cU (c:=B.filterMap f7=[]) h2;have ne:A.filterMap f7++B.filterMap f7≠[]:=λe=>nA (qU_.mp e).1
  rw[fa f7,if_neg ne]at h3;cases h3;rw[oT]at q ⊢;rw[oT];obtain⟨J1,e1,n1,l1,g1,m1⟩:=wQ (vA.tx.resolve_left nA);obtain⟨J2,e2,n2,l2,g2,m2⟩:=wQ (vB.tx.resolve_left nB);have fm:∀t,t∈((J1++J2).map (·.2)).flatten↔t∈A.filterMap f7++B.filterMap f7:=λt=>by
   rw[gb,jf,qj_,m1,m2,qj_]
  rw[<-kC fm]at q;have c1:=congrArg List.length e1;have c2:=congrArg List.length e2;rw[ak]at c1 c2;exact⟨rfl,_,bc,_,rfl,sN (by decide +kernel) ⟨_,rfl,sN (by decide +kernel) ⟨_,rfl,sY ⟨_,aR (j:=1) rfl,_,rfl,yc nA,_,aR (j:=1) rfl,_,rfl,yc nB,by rw[ak,ak];omega,J1++J2,by rw[<-e1,<-e2,dh,dh,gb];rfl,λz=>n1 (qU_.mp z).1,by rw[bw];omega,λx hx=>(qj_.mp hx).elim (g1 x) (g2 x),by simp,q⟩⟩⟩⟩
 ·have h3:(if (A++B).filterMap b8=[] then none else some (Pt.lists (aX (cE ((A++B).filterMap b8))) (bD (cE ((A++B).filterMap b8))) (D ((A++B).filterMap b8).flatten)))=some r:=h3;obtain⟨nA,rfl⟩:=cU h1;obtain⟨nB,rfl⟩:=cU (c:=B.filterMap b8=[]) h2;have l1:cE (A.filterMap b8)≠[]:=by unfold cE;simpa using nA
  have l2:cE (B.filterMap b8)≠[]:=by unfold cE;simpa using nB
  rw[fa b8,if_neg (λe=>nA (qU_.mp e).1),show cE (A.filterMap b8++B.filterMap b8)=cE (A.filterMap b8)++cE (B.filterMap b8) from gb ..,rW l1 l2,rX l1 l2,jf]at h3;cases h3;rw[gM]at q ⊢;rw[gM];exact⟨rfl,_,bc,_,rfl,sN (by decide +kernel) ⟨_,rfl,sN (by decide +kernel) ⟨_,rfl,sN (by decide +kernel) ⟨_,rfl,sY ⟨_,aR (j:=1) rfl,_,aR (j:=1) rfl,.inl ⟨_,_,rfl,_,aR (j:=2) rfl,_,aR (j:=2) rfl,.inl ⟨_,_,rfl,_,aR (j:=3) rfl,_,aR (j:=3) rfl,_,_,rfl,vA.ls,vB.ls,by simp,q⟩⟩⟩⟩⟩⟩⟩
 ·have h3:(if (A++B).filterMap d3=[] then none else some (dz D ((A++B).filterMap d3)))=some r:=h3;obtain⟨nA,rfl⟩:=cU h1;obtain⟨nB,rfl⟩:=cU (c:=B.filterMap d3=[]) h2;rw[fa d3,if_neg (λe=>nA (qU_.mp e).1)]at h3;cases h3;have fin:∀(T1:Tv) (s2 s3:Sl),T1=aQ (dz D (A.filterMap d3))->lV (gF (oN D V) (dF (dI 0) (dF (dI 1) eG))) {nx:=λx=>R nT,rt:=R} [.va T1,.va (aQ (dz D (B.filterMap d3))),s2,s3]:=by
   rintro T1 s2 s3 rfl;exact⟨_,_,rfl,hD,cl,vA.dk.resolve_left nA,vB.dk.resolve_left nB,q⟩
  by_cases h:(aH (aN (A.filterMap d3))).length<=8
  ·have fin:=λs2 s3=>fin _ s2 s3 (by rw[eC h,dC])
   rw[eC h,dC (aX (aU (A.filterMap d3)))];exact⟨rfl,_,bc,_,rfl,sN (by decide +kernel) ⟨_,rfl,sN (by decide +kernel) ⟨_,rfl,sN (by decide +kernel) ⟨_,rfl,sN (by decide +kernel) ⟨_,rfl,sN (by decide +kernel) (fin (.va (sT "record")) .no)⟩⟩⟩⟩⟩
  ·have fin:=λs2 s3=>fin _ s2 s3 (by rw[fH h,eZ])
   rw[fH h,eZ (aX (aU (A.filterMap d3)))];exact⟨rfl,_,bc,_,rfl,sN (by decide +kernel) ⟨_,rfl,sN (by decide +kernel) ⟨_,rfl,sN (by decide +kernel) ⟨_,rfl,sN (by decide +kernel) ⟨_,rfl,sN (by decide +kernel) (fin (.va (sT "table")) .no)⟩⟩⟩⟩⟩
 ·cases h1
variable{D:List Tv->List Pt}{V V':List Tv->Prop}{lv:Nat}
theorem AZ{o:Nat->Option Pt}(ho:∀k p,o k=some p->bZ p=k):∀(l:List Nat) (k:Nat),l.Nodup->(l.filterMap o).filterMap (λp=>if bZ p=k then some (aQ p) else none)=if k∈l then(o k).toList.map aQ else []
 |[],k,_=>rfl
 |j::l,k,n=>by
  have hn:=qh1_.mp n;have ih:=AZ ho l k hn.2;rw[gm];by_cases z:j=k
  ·subst z;rw[if_neg hn.1]at ih;rw[if_pos (.head _)];cases e:o j with
   |none=>exact ih
   |some p=>
    dsimp only;rw[gm,if_pos (ho j p e),ih];rfl
  ·have:k∈j::l↔k∈l:=⟨λh=>(qe_.mp h).resolve_left λe=>z e.symm,.tail _⟩
   simp only[this];cases e:o j with
   |none=>exact ih
   |some p=>
    dsimp only;rw[gm,if_neg (λq=>z (by rw[<-ho j p e];exact q))];exact ih
def uy:Nat->List Str
 |0=>["nothing"]
 |1=>["truths"]
 |2=>["numbers"]
 |3=>Oq
 |4=>["lists"]
 |_=>["record","table"]
def t7(k:Nat):Tv:=.seq true ((uy k).map sT)
theorem F9:∀x∈([("nothing",0),("truths",1),("numbers",2),("texts",3),("lists",4),("record",5),("table",5)]:List (Str×Nat)),∀k∈kN6,((uy k).map sT).any (λU=>L2.eqT U (sT x.1))=decide (x.2=k):=by decide +kernel
theorem F_{k:Nat}(hk:k∈kN6)(p:Pt):((uy k).map sT).any (λU=>L2.eqT U (sT (kN p)))=decide (bZ p=k):=F9 (kN p,bZ p) (by cases p<;>simp[kN,bZ]) k hk
theorem xh(h:ao K mg "_law_both" qF)(B:Own mg)(P4:ae P w K mg base (lv+5) "_law_parts_both" Oi (lY D V V'))(hD:ng D)(cl:jv V)(hV:∀A,V' A->dn V A):ae P w K mg base (lv+6) "_law_both" Oi (kl (d8 D) V'):=by
 refine h.pg2 OR (λnd hr=>
   (aI (aW 2 nd (bM (cQ (aC (bQ (aC bB aE)) (aC (bQ (aC bB aE)) (aC (bQ (aC bB aE)) (aC (bQ (aC bB aE)) (aC (bQ (aC bB aE)) (aC (bQ (aC bB (aC bB aE))) aE)))))))))
   (aI (kQ 3 nd (cQ aE))
   (aI (fZ (m:=6) jr rfl (cD (aD 2)) (dD 4 (by decide) nd rfl (.inr rfl))
    (aI (jF (sc:=aY qF) (XN:=OR) (N:=["_law_part_here","_law_words"]) (fr:=[4]) 5 nd (cD (bC bY (aD 0) (aD 1))) (λ_ _ _ _ _=>(kK (eP (nU hr.units) (aJ hr (aD 0) aG) (aD 1) rfl))) (λ_ _ _ _ _=>(aD 0)))
    (aI (bP (bU hr (bK cF rfl B.len du (aC (aD 5) aE)) aG)
     (aO (kF (mI 3 (aL P4 hr (aC (aJ hr (aD 5) aG) (aC (aJ hr (aD 5) aG) aE))))))
     bO)
    (aO (kF (C0 3 (bC jN (aD 5) (fD A_ rfl B.int_ boot_int (aC (gD (jT hr.units).op (bK cF rfl B.len du (aC (aD 5) aE)) aG) aE)))))))))
   (aO (aT (fD fK rfl B.tuple_ boot_tuple (aC (aD 3) aE)))))))) (λas R q=>?_)
 obtain⟨A,B,rfl,hA,hB,q⟩:=q;refine⟨rfl,by simp,by simp,by simp,by simp,by simp,by simp,by simp,by simp,?_⟩;show av.nx _ _;refine dw (ρ':=[.va (bE (d8 D A)),.va (bE (d8 D B)),.va (.seq false (kN6.map t7)),.own [],.no,.no]) rfl ?_;refine kZ (λi ρ=>∃(L:List Pt) (s1 s2:Sl),L=((kN6.take i).filterMap (bF D (A++B)))/\ρ=[.va (bE (d8 D A)),.va (bE (d8 D B)),.va (.seq false (kN6.map t7)),.own (L.map aQ),s1,s2]) ⟨[],.no,.no,rfl,rfl⟩ ?_ ?_
 ·rintro i T _ N hT ⟨L,s1,s2,eL,rfl⟩ hN;have hT:(kN6.map t7)[i]?=some T:=hT;rw[gf,qa1_]at hT;obtain⟨k,hk,rfl⟩:=hT;have hkm:k∈kN6:=i5 hk;have hk6:k<=5:=by
   simp only[kN6,qe_,b_,or_false]at hkm;omega
  have hi:i<6:=(qB_.mp hk).1;have et:(kN6.take (i+1)).filterMap (bF D (A++B))=(kN6.take i).filterMap (bF D (A++B))++(bF D (A++B) k).toList:=by
   rw[gu,fk,hk];cases e:bF D (A++B) k<;>simp[e]
  have ll:((kN6.take i).filterMap (bF D (A++B))).length<=6:=by
   refine cx (n9 _ _) ?_;rw[fu];omega
  rw[<-eL]at et ll;have lA:∀A,(d8 D A).length<=6:=λA=>n9 _ _
  refine⟨by have:=lA A;have:=lA B;rw[ak,ak];omega,by have:=lA A;have:=lA B;rw[bw,ak,ak];omega,?_⟩;rw[<-gb];refine iA aQ (λp=>if bZ p=k then some (aQ p) else none) (λp hp R q=>?_) ?_
  ·obtain⟨r,e,_⟩:=wT p
   have ok:oP (sT (kN p)) ((uy k).map sT):=⟨trivial,λU hU=>by
    obtain⟨_,_,rfl⟩:=qd_.mp hU
    trivial⟩
   rw[e]at q ⊢;have ka:=F_ hkm p;refine⟨_,bc,ok,_,rfl,?_⟩;show if (false != ((uy k).map sT).any λU=>L2.eqT U (sT (kN p)))=true then _ else _
   rw[ka];refine kh (λz=>?_) (λz=>?_)
   ·have z:bZ p=k:=by simpa using z
    rw[if_pos z]at q;exact q
   ·have z:¬ bZ p=k:=by simpa using z
    rw[if_neg z]at q;exact q
  have fl:∀A,(d8 D A).filterMap (λp=>if bZ p=k then some (aQ p) else none)=(bF D A k).toList.map aQ:=λA=>by
   have:=AZ (o:=bF D A) (λ_ _=>Dd) kN6 k (by decide);rw[if_pos hkm]at this;exact this
  rw[fk,fl,fl];show av.nx _ _;refine dw (ρ':=[.va (bE (d8 D A)),.va (bE (d8 D B)),.va (.seq false (kN6.map t7)),.own (L.map aQ),.va (t7 k),.va (.seq false ((bF D A k).toList.map aQ++(bF D B k).toList.map aQ))]) rfl ?_;have lL:(L.map aQ).length<=6:=by rw[ak];exact ll
  have put:∀(r:Pt) (s4 s5:Sl),bF D (A++B) k=some r->N [.va (bE (d8 D A)),.va (bE (d8 D B)),.va (.seq false (kN6.map t7)),.own (L.map aQ++[aQ r]),s4,s5]:=λr s4 s5 e=>hN _ ⟨L++[r],s4,s5,by rw[et,e];rfl,by rw[gb];rfl⟩
  cases ea:bF D A k with
  |none=>
   cases eb:bF D B k with
   |none=>
    have e0:bF D (A++B) k=none:=(pF eb).trans ea;refine⟨_,rfl,cL (λz=>absurd z (by decide)) (λ_=>?_)⟩;refine⟨⟨_,rfl⟩,⟨by decide,by decide,by decide⟩,_,_,rfl,rfl,?_,?_⟩
    ·show(L.map aQ).length+0<=_;omega
    ·show N [_,_,_,.own (L.map aQ++[]),_,_];rw[gk];exact hN _ ⟨L,_,_,by rw[et,e0];simp,rfl⟩
   |some p=>
    have e0:=(vT (B:=B) ea).trans eb;refine⟨_,rfl,cL (λz=>absurd z (show ¬ ((1:Nat):Int)=2 by decide)) (λ_=>⟨⟨_,rfl⟩,⟨show 1*(1:Int).toNat<=100000 by decide,show -(2 ^ 62:Int)<=1 by decide,show(1:Int)<2 ^ 62 by decide⟩,_,_,rfl,rfl,?_,put p _ _ e0⟩)⟩;show(L.map aQ).length+1<=_;omega
  |some p=>
   cases eb:bF D B k with
   |none=>
    have e0:=(pF (A:=A) eb).trans ea;refine⟨_,rfl,cL (λz=>absurd z (show ¬ ((1:Nat):Int)=2 by decide)) (λ_=>⟨⟨_,rfl⟩,⟨show 1*(1:Int).toNat<=100000 by decide,show -(2 ^ 62:Int)<=1 by decide,show(1:Int)<2 ^ 62 by decide⟩,_,_,rfl,rfl,?_,put p _ _ e0⟩)⟩;show(L.map aQ).length+1<=_;omega
   |some p'=>
    obtain⟨r,er⟩:=BP (B:=B) ea;refine⟨_,rfl,cL (λ_=>⟨⟨_,rfl⟩,_,bc,_,aR (j:=1) rfl,A,B,k,p,p',r,rfl,hD,cl,hV A hA,hV B hB,hA,hB,ea,eb,er,_,rfl,by omega,⟨_,rfl⟩,⟨show 2*(0:Int).toNat<=100000 by decide,show -(2 ^ 62:Int)<=0 by decide,show(0:Int)<2 ^ 62 by decide⟩,_,_,rfl,rfl,?_,?_⟩) (λz=>absurd rfl z)⟩
    ·show(L.map aQ++[aQ r]).length+0<=_;rw[bw];show(L.map aQ).length+1+0<=_;omega
    ·show N [_,_,_,.own (L.map aQ++[aQ r]++[]),_,_];rw[gk];exact put r _ _ er
 ·rintro _ ⟨L,s1,s2,eL,rfl⟩;have eL:L=d8 D (A++B):=eL;subst eL;exact⟨false,_,rfl,q⟩
section
variable{D:List Tv->List Pt}{V V':List Tv->Prop}{lv:Nat}
theorem Ja(hb:ao K mg "_law_both" qF)(hp:ao K mg "_law_parts_both" qG)(hd:ao K mg "_law_dicts_both" oH)(B:Own mg)
  (Gdiv:ae P w K mg base 1 "_law_divisor" Oi oY) (Gwof:ae P w K mg base 3 "_law_words_of" Os lQ) (Ghl:ae P w K mg base 1 "_law_hulls" Ov mY) (Gnm:ae P w K mg base 2 "_law_named" Om pK) (Gin:ae P w K mg base 1 "_law_inner" Om gX)
  (hD:ng D) (cl:jv V) (hV:∀A,V' A->dn V A)
  (Gboth:ae P w K mg base lv "_law_both" Oi (kl D V)):ae P w K mg base (lv+6) "_law_both" Oi (kl (d8 D) V'):=
 xh (lv:=lv) hb B (EG hp B Gdiv Gwof Ghl Gboth (EF hd B Gnm Gin Gboth Gwof)) hD cl hV
theorem A2(hb:ao K mg "_law_both" qF)(hp:ao K mg "_law_parts_both" qG)(hd:ao K mg "_law_dicts_both" oH)(B:Own mg)
  (Gdiv:ae P w K mg base 1 "_law_divisor" Oi oY) (Gwof:ae P w K mg base 3 "_law_words_of" Os lQ) (Ghl:ae P w K mg base 1 "_law_hulls" Ov mY) (Gnm:ae P w K mg base 2 "_law_named" Om pK) (Gin:ae P w K mg base 1 "_law_inner" Om gX):∀n:Nat,ae P w K mg base (6*n+6) "_law_both" Oi (kl (bI n) (LV n))
 |0=>by
  have z:ae P w K mg base 5 "_law_parts_both" Oi (lY D0 (λ_=>True) (LV 0)):=hp.pfalse DH (fun|_,_,_,_,_,_,[_,_],_=>rfl) λas R ⟨A,B',k,p,q,r,_,_,_,_,_,ha',_,h1,_⟩=>by
   rw[show A=[] from ha',sA]at h1;cases h1
  have g:=xh (lv:=0) (D:=D0) (V:=λ_=>True) (V':=LV 0) hb B z ⟨λ_ _ _=>rfl,rfl⟩ ⟨trivial,λ_ _ _ _=>trivial⟩ (λA hA=>by
   rw[show A=[] from hA]
   exact⟨.inl rfl,trivial,.inl rfl⟩)
  refine g.imp λas R ⟨A,B',e,hA,hB,q⟩=>?_
  have eA:A=[]:=hA;have eB:B'=[]:=hB;subst eA eB;refine⟨[],[],?_,rfl,rfl,?_⟩
  ·rw[e,sF];rfl
  ·rw[gk,sF];exact q
 |n+1=>by
  rw[yk];exact Ja hb hp hd B Gdiv Gwof Ghl Gnm Gin (DC n) (gH n) (λA hA=>hA) (A2 hb hp hd B Gdiv Gwof Ghl Gnm Gin n)
end
end
end My
namespace L2
open PySem PySem.Spec PyProof.Rows WordM
def df:Nat->Tv->Prop
 |0,_=>False
 |_+1,.leaf .non=>True
 |_+1,.leaf (.bl _)=>True
 |_+1,.leaf (.int _)=>True
 |_+1,.leaf (.str _)=>True
 |n+1,.seq _ xs=>xs.length<=100000/\∀x∈xs,df n x
 |_+1,_=>False
theorem df.le:∀{n m:Nat}{T:Tv},n<=m->df n T->df m T
 |0,_,_,_,h=>False.elim h
 |_+1,0,_,l,_=>absurd l (by omega)
 |n+1,m+1,T,l,h=>by
  cases T with
  |leaf v=>cases v<;>exact h
  |seq t xs=>exact⟨h.1,λx hx=>df.le (by omega) (h.2 x hx)⟩
  |dct k=>exact h
theorem CW(n:Nat){t:Bool}{ss:List Str}(l:ss.length<=100000):df (n+2) (.seq t (ss.map sT)):=⟨by rw[ak];exact l,λx hx=>by
 obtain⟨s,_,rfl⟩:=qd_.mp hx
 trivial⟩
end L2
namespace My
open PySem L2 PyProof.Rows WordM
section
variable{P:Program}{w:World}{K:W.Frag}{mg:Str->Option Value}{base:Heap}
variable{n:Nat}
def ij:Nat->Tv->Prop
 |0,_=>False
 |_+1,.leaf .non=>True
 |_+1,.leaf (.bl _)=>True
 |_+1,.leaf (.int _)=>True
 |_+1,.leaf (.str _)=>True
 |n+1,.seq _ xs=>xs.length<=100000/\∀x∈xs,ij n x
 |n+1,.dct OT=>(OT.map (·.1)).Nodup/\OT.length<64/\∀kt∈OT,ij n kt.2
 |_+1,_=>False
theorem ij.of:∀{n:Nat}{T:Tv},df n T->ij n T
 |0,_,h=>h
 |n+1,.leaf v,h=>by cases v<;>first|trivial|exact h
 |n+1,.seq t xs,h=>⟨h.1,λx hx=>ij.of (h.2 x hx)⟩
 |n+1,.dct k,h=>False.elim h
theorem Ku(ss:List Str):cX (ss.map sT) (ss.map sT)=true:=by
 induction ss with
 |nil=>simp[cX]
 |cons s ss ih=>rw[e6,cX,ih,xP];simp
def pT(n:Nat):bz:=λas R=>∃T:Tv,as=[.va T,.va T]/\ij n T/\R (bT true)
theorem wL{α:Type}(xs:List α):((xs.map λ_=>bT true).any λU=>L2.eqT U (bT false))=false:=by
 rw[Bool.eq_false_iff];intro z;obtain⟨U,hU,e⟩:=qX_.mp z;obtain⟨_,_,rfl⟩:=qd_.mp hU;simp[L2.eqT,di]at e
theorem xN{α:Type}(xs:List α):oP (bT false) (xs.map λ_=>bT true):=⟨trivial,λU hU=>by
 obtain⟨_,_,rfl⟩:=qd_.mp hU
 trivial⟩
theorem Bx(xs:List Tv):List.zipWith (λT U=>Tv.seq true [T,U]) xs xs=xs.map λx=>.seq true [x,x]:=by
 induction xs with
 |nil=>rfl
 |cons x xs ih=>rw[List.zipWith_cons_cons,ih];rfl
theorem Ks{s:Str}:(false != di (.str s) (.str s))=true:=by simp[di]
theorem KS{i:Int}:(false != di (.int i) (.int i))=true:=by simp[di]
theorem KR{b:Bool}:(false != di (.bl b) (.bl b))=true:=by simp[di]
theorem DG:dP Oi Oi (aY oI):=lg (by decide +kernel)
theorem Ex(h:ao K mg "_law_same" oI)(B:Own mg)(O6:ae P w K mg base (1+n) "_law_same" Oi (pT n))   : ae P w K mg base (1+n+1) "_law_same" Oi (pT (n+1)):=by
 refine h.pg2 Oi (λnd hr=>
   (aI (bP (fF (gC (eF (dZ "bool" qQ rfl B.isinstance (aD 0) (dY (v:=.ty "bool") rfl B.bool_ boot_bool rfl))) (iL (eF (dZ "bool" qQ rfl B.isinstance (aD 1) (dY (v:=.ty "bool") rfl B.bool_ boot_bool rfl))))))
    (aO (aT (iM (dZ "bool" qQ rfl B.isinstance (aD 0) (dY (v:=.ty "bool") rfl B.bool_ boot_bool rfl)) (iM (dZ "bool" qQ rfl B.isinstance (aD 1) (dY (v:=.ty "bool") rfl B.bool_ boot_bool rfl)) (lF (gD (jT hr.units).op (aD 0) (aD 1)))))))
    bO)
   (aI (bP (fF (gC (eF (dZ "int" qS rfl B.isinstance (aD 0) (dY (v:=.ty "int") rfl B.int_ boot_int rfl))) (iL (eF (dZ "int" qS rfl B.isinstance (aD 1) (dY (v:=.ty "int") rfl B.int_ boot_int rfl))))))
    (aO (aT (iM (dZ "int" qS rfl B.isinstance (aD 0) (dY (v:=.ty "int") rfl B.int_ boot_int rfl)) (iM (dZ "int" qS rfl B.isinstance (aD 1) (dY (v:=.ty "int") rfl B.int_ boot_int rfl)) (lF (gD (jT hr.units).op (aD 0) (aD 1)))))))
    bO)
   (aI (bP (fF (gC (eF (dZ "str" qR rfl B.isinstance (aD 0) (dY (v:=.ty "str") rfl B.str_ boot_str rfl))) (iL (eF (dZ "str" qR rfl B.isinstance (aD 1) (dY (v:=.ty "str") rfl B.str_ boot_str rfl))))))
    (aO (aT (iM (dZ "str" qR rfl B.isinstance (aD 0) (dY (v:=.ty "str") rfl B.str_ boot_str rfl)) (iM (dZ "str" qR rfl B.isinstance (aD 1) (dY (v:=.ty "str") rfl B.str_ boot_str rfl)) (lF (gD (jT hr.units).op (aD 0) (aD 1)))))))
    bO)
   (aI (bP (fF (gC (eP tP (aD 0) nG) (iL (eP tP (aD 1) nG))))
    (aO (aT (iM (gD (tP).op (aD 0) nG) (lF (gD (tP).op (aD 1) nG)))))
    bO)
   (aI (bP (fF (gC (eF (dZ "dict" qP rfl B.isinstance (aD 0) (dY (v:=.ty "dict") rfl B.dict_ boot_dict rfl))) (iL (eF (dZ "dict" qP rfl B.isinstance (aD 1) (dY (v:=.ty "dict") rfl B.dict_ boot_dict rfl))))))
    (aI (bP (fF (gC (jP (eF (dZ "dict" qP rfl B.isinstance (aD 0) (dY (v:=.ty "dict") rfl B.dict_ boot_dict rfl)))) (gC (jP (eF (dZ "dict" qP rfl B.isinstance (aD 1) (dY (v:=.ty "dict") rfl B.dict_ boot_dict rfl)))) (iL (nZ hr (bM (pC (oV rfl) rfl B.sorted boot_sorted (aC (aD 0) aE))) (bM (pC (oV rfl) rfl B.sorted boot_sorted (aC (aD 1) aE))))))))
     (aO (aT gE))
     bO)
    (aO (aT (gD (Bl hr.units).op gE (bM (fM (sc:=aY oI) (XN:=Oi) (N:=["_law_name","_law_one","_law_other"]) (fr:=[0,1]) (cD (aD 0)) (λ_ _ _ _ _=>(aL O6 hr (aC (aJ hr (aD 1) (aD 0)) (aC (aJ hr (aD 2) (aD 0)) aE)))))) rfl))))
    bO)
   (aI (bP (fF (gC (nZ hr (dZ "list" CG rfl B.isinstance (aD 0) (dY (v:=.ty "list") rfl B.list_ boot_list rfl)) (dZ "list" CG rfl B.isinstance (aD 1) (dY (v:=.ty "list") rfl B.list_ boot_list rfl))) (iL (nZ hr (dZ "tuple" zZ rfl B.isinstance (aD 0) (dY (v:=.ty "tuple") rfl B.tuple_ boot_tuple rfl)) (dZ "tuple" zZ rfl B.isinstance (aD 1) (dY (v:=.ty "tuple") rfl B.tuple_ boot_tuple rfl))))))
    (aO (aT gE))
    bO)
   (aO (aT (iM (gD (jT hr.units).op (bK cF rfl B.len du (aC (aD 0) aE)) (bK cF rfl B.len du (aC (aD 1) aE))) (lF (gD (Bl hr.units).op gE (bM (wX (sc:=aY oI) (XN:=Oi) (N:=["_law_a","_law_b"]) (own:=2) (fr:=[]) rfl ⟨rfl,by decide +kernel,by decide +kernel,by decide +kernel,rfl,by decide +kernel,by decide,by decide +kernel⟩ (by decide) (Hk rfl B.zip (aC (aD 0) (aC (aD 1) aE))) (λ_ _ _ _ _=>(AO 2 rfl (kW (dD 0 (by decide) (show(["_law_a","_law_b"]:List Str).Nodup by decide +kernel) rfl (by first|exact Or.inl rfl|exact Or.inr rfl)) (kW (dD 1 (by decide) (show(["_law_a","_law_b"]:List Str).Nodup by decide +kernel) rfl (by first|exact Or.inl rfl|exact Or.inr rfl)) wY)))) (λ_ _ _ _ _=>jO) (λ_ _ _ _ _=>(aL O6 hr (aC (aD 0) (aC (aD 1) aE)))))) rfl)))))))))))) (λas R q=>?_)
 obtain⟨T,rfl,h,q⟩:=q;cases T with
 |dct OT=>
  refine⟨rfl,_,rfl,bH ⟨_,rfl,bH ⟨_,rfl,bH ⟨_,rfl,bH ⟨_,rfl,bH ⟨_,rfl,bH ⟨_,rfl,bH ⟨_,rfl,bH ⟨_,rfl,cT (cT ⟨_,rfl,bH ⟨_,rfl,bH ?_⟩⟩)⟩⟩⟩⟩⟩⟩⟩⟩⟩;refine .inr (.inr ⟨OT,rfl,.inr (.inr ⟨OT,rfl,.inr (.inr ⟨?_,?_⟩),_,rfl,?_⟩)⟩)
  ·intro U hU;obtain⟨s,_,rfl⟩:=qd_.mp hU;trivial
  ·intro U hU;obtain⟨s,_,rfl⟩:=qd_.mp hU;trivial
  rw[Ku];refine bH ⟨by rw[ak];have:=h.2.1;omega,?_⟩;refine eJ (λkt:Str×Tv=>sT kt.1) (λkt=>bT true) (λkt hk R q=>⟨_,B0 h.1 hk,_,B0 h.1 hk,kt.2,rfl,h.2.2 kt hk,q⟩) ⟨xN OT,?_⟩;rw[wL];exact q
 |leaf v=>
  cases v with
  |non=>exact⟨rfl,_,rfl,bH ⟨_,rfl,bH ⟨_,rfl,bH ⟨_,rfl,bH ⟨_,rfl,bH ⟨_,rfl,bH ⟨_,rfl,cT (cT ⟨_,rfl,cT q⟩)⟩⟩⟩⟩⟩⟩⟩
  |bl b=>
   rw[<-KR (b:=b)]at q;exact⟨rfl,_,rfl,cT (cT ⟨_,rfl,cT ⟨_,rfl,cT q⟩⟩)⟩
  |int i=>
   rw[<-KS (i:=i)]at q;exact⟨rfl,_,rfl,bH ⟨_,rfl,bH ⟨_,rfl,cT (cT ⟨_,rfl,cT ⟨_,rfl,cT q⟩⟩)⟩⟩⟩
  |str s=>
   rw[<-Ks (s:=s)]at q;exact⟨rfl,_,rfl,bH ⟨_,rfl,bH ⟨_,rfl,bH ⟨_,rfl,bH ⟨_,rfl,cT (cT ⟨_,rfl,cT ⟨_,rfl,cT q⟩⟩)⟩⟩⟩⟩⟩
  |_=>exact False.elim h
 |seq t xs=>
  cases t with
  |false=>
   refine⟨rfl,_,rfl,bH ⟨_,rfl,bH ⟨_,rfl,bH ⟨_,rfl,bH ⟨_,rfl,bH ⟨_,rfl,bH ⟨_,rfl,bH ⟨_,rfl,bH ⟨_,rfl,bH ⟨_,rfl,bH ⟨_,rfl,bH ⟨_,rfl,bH ⟨_,rfl,cL (λ_=>⟨false,xs,xs,rfl,?_⟩) (λz=>absurd rfl z)⟩⟩⟩⟩⟩⟩⟩⟩⟩⟩⟩⟩⟩;rw[Bx];refine⟨by rw[ak];have:=h.1;omega,eJ (λx=>.seq true [x,x]) (λx=>bT true) (λx hx R q=>⟨_,rfl,rfl,_,_,rfl,_,_,rfl,rfl,x,rfl,h.2 x hx,q⟩) ⟨xN xs,?_⟩⟩;rw[wL];exact q
  |true=>
   refine⟨rfl,_,rfl,bH ⟨_,rfl,bH ⟨_,rfl,bH ⟨_,rfl,bH ⟨_,rfl,bH ⟨_,rfl,bH ⟨_,rfl,bH ⟨_,rfl,bH ⟨_,rfl,bH ⟨_,rfl,bH ⟨_,rfl,bH ⟨_,rfl,bH ⟨_,rfl,cL (λ_=>⟨true,xs,xs,rfl,?_⟩) (λz=>absurd rfl z)⟩⟩⟩⟩⟩⟩⟩⟩⟩⟩⟩⟩⟩;rw[Bx];refine⟨by rw[ak];have:=h.1;omega,eJ (λx=>.seq true [x,x]) (λx=>bT true) (λx hx R q=>⟨_,rfl,rfl,_,_,rfl,_,_,rfl,rfl,x,rfl,h.2 x hx,q⟩) ⟨xN xs,?_⟩⟩;rw[wL];exact q
theorem A4(h:ao K mg "_law_same" oI)(B:Own mg):∀n:Nat,ae P w K mg base (1+n) "_law_same" Oi (pT n)
 |0=>h.pfalse DG (fun|_,_,_,_,_,_,[_,_],_=>rfl) λas R ⟨_,_,h,_⟩=>h
 |n+1=>Ex h B (A4 h B n)
theorem B8(ts:List Str)(ne:ts≠[]):df 3 (bV (bN ts)):=by
 unfold bN;split
 ·rename_i h;refine⟨by simp,λx hx=>?_⟩;simp only[qe_,b_,or_false]at hx;rcases hx with rfl|rfl
  ·trivial
  ·exact CW 0 (by rw[(dM _).length_eq];omega)
 ·obtain⟨hd,lo,hi,ms,e,m⟩:=fY ne;rw[e];refine⟨by simp,λx hx=>?_⟩;simp only[qe_,b_,or_false]at hx;rcases hx with rfl|rfl|rfl|rfl|rfl
  ·trivial
  ·trivial
  ·trivial
  ·trivial
  ·refine CW 0 ?_;rw[m.mks];exact cx (pd _ _) (by decide)
theorem IQ{D:List Tv->List Pt}{d:Nat}(hD:∀A,df (d+3) (bE (D A))){ks:List (List (Str×Tv))}:df (d+6) (aQ (dz D ks)):=by
 by_cases h:(aH (aN ks)).length<=8
 ·rw[eC h,dC];refine⟨by simp,λx hx=>?_⟩;simp only[qe_,b_,or_false]at hx;rcases hx with rfl|rfl|rfl|rfl
  ·trivial
  ·trivial
  ·trivial
  ·refine⟨by rw[ak,iO];omega,λy hy=>?_⟩;obtain⟨x,hx,rfl⟩:=qd_.mp hy;obtain⟨n,_,rfl⟩:=qd_.mp hx;refine⟨by simp,λz hz=>?_⟩;have hz:z∈[sT n,bT (bX D ks n).2.1,bE (D (cm n ks))]:=hz;simp only[qe_,b_,or_false]at hz;rcases hz with rfl|rfl|rfl
   ·trivial
   ·trivial
   ·exact hD _
 ·have ne:aN ks≠[]:=λe=>h (by rw[e];exact g6 _)
  rw[fH h,eZ];refine⟨by simp,λx hx=>?_⟩;simp only[qe_,b_,or_false]at hx;rcases hx with rfl|rfl|rfl|rfl|rfl
  ·trivial
  ·trivial
  ·trivial
  ·exact(B8 _ ne).le (by omega)
  ·exact(hD _).le (by omega)
theorem Bo:∀(n:Nat) (A:List Tv),df (4*n+6) (bE (bI n A))
 |0,A=>⟨by simp[bI],λx hx=>by simp[bI]at hx⟩
 |n+1,A=>by
  have ih:=Bo n;refine⟨?_,λx hx=>?_⟩
  ·rw[ak];exact cx (n9 _ _) (by decide)
  ·obtain⟨p,hp,rfl⟩:=qd_.mp hx;obtain⟨k,_,e⟩:=qt1_.mp hp;show df (4*n+9) (aQ p);unfold bF at e;split at e
   ·have:p=.nothing:=by
     split at e
     ·cases e;rfl
     ·cases e
    rw[this,uY];refine⟨by simp,λx hx=>?_⟩;rw[qJ_.mp hx];trivial
   ·obtain⟨_,rfl⟩:=cU e;rw[oR];refine⟨by simp,λx hx=>?_⟩;simp only[qe_,b_,or_false]at hx;rcases hx with rfl|rfl
    ·trivial
    ·refine⟨by rw[ak];exact cx (iV _ _) (by decide),λx hx=>?_⟩;obtain⟨b,_,rfl⟩:=qd_.mp hx;trivial
   ·obtain⟨_,rfl⟩:=cU e;rw[pA];refine⟨by simp,λx hx=>?_⟩;simp only[qe_,b_,or_false]at hx;rcases hx with rfl|rfl|rfl|rfl<;>trivial
   ·obtain⟨ne,rfl⟩:=cU e;rw[oT];refine⟨by simp,λx hx=>?_⟩;simp only[qe_,b_,or_false]at hx;rcases hx with rfl|rfl
    ·trivial
    ·exact(B8 _ ne).le (by omega)
   ·obtain⟨_,rfl⟩:=cU e;rw[gM];refine⟨by simp,λx hx=>?_⟩;simp only[qe_,b_,or_false]at hx;rcases hx with rfl|rfl|rfl|rfl
    ·trivial
    ·trivial
    ·trivial
    ·exact(ih _).le (by omega)
   ·obtain⟨_,rfl⟩:=cU e;exact IQ (d:=4*n+3) λA=>ih A
   ·cases e
theorem IW{f:List Pt}(h:lJ 3 f):∃S,bE f=bE (bI 3 S)/\LV 3 S:=by
 obtain⟨S,e,l⟩:=Bm h;exact⟨S,by rw[e],l⟩
theorem AU{α β:Type}{g:β->Prop}:∀{xs:List α}{ys:List β},Paired (λ_ y=>g y) xs ys->∀y∈ys,g y
 |_,_,.nil,y,h=>nomatch h
 |_,_,.cons r t,y,h=>by
  rcases qe_.mp h with rfl|h
  ·exact r
  ·exact AU t y h
theorem sC{A B:List Tv}(h:∀v,v∈A↔v∈B):bE (bI 3 A)=bE (bI 3 B):=by rw[mJ 3 A B h]
theorem u9:dP OJ Ow (aY jJ):=lg (by decide +kernel)
theorem Gc{f:Addr}{fd:FuncData}(F:tq K "law" "law" jJ f fd)(B:Own mg)(PV:dq P w K mg base 1 "_law_deck" Ow (AI K))(Pr:ae P w K mg base 5 "_law_world" Oo xE)(Pa:ae P w K mg base 15 "_law_form" Ou (lB 3))(OU:ae P w K mg base 2 "_law_take" Oj gB)(Pb:ae P w K mg base 24 "_law_both" Oi (kl (bI 3) (LV 3)))(O6:ae P w K mg base 19 "_law_same" Oi (pT 18))(OZ:ae P w K mg base 36 "joined" Oh (kl (bI 3) (LV 3)))   : f_ P w K mg base ky 37 f fd Ow (tL K):=by
 refine F.ok u9 (λvs H Q E q=>?_) (λOV A outer s H vs Q E hr q=>?_)
 ·obtain⟨a,ns,rfl,_⟩:=q;rfl
 ·obtain⟨aa,ns,rfl,hS,hlen,q⟩:=q;have nd:=u9.nd
  refine⟨_,(jA (lG (i:=1) nd rfl (by first|exact Or.inl rfl|exact Or.inr rfl) (tS PV (hr.mono (by omega)) rfl (cM (pv 0) cW)))
   (ID λF=>(aI (aW 2 nd (aL Pr hr (bS 1 aE)))
   (aI (fZ (m:=9) jr rfl (kD rfl B.range (aC aG aE)) (dD 3 (by decide) nd rfl (.inl rfl))
    (aI (Hm (m:=9) (bM (fM (sc:=aY jJ) (XN:=OJ) (N:=["_law_j","_law_deck_here","_law_world_here"]) (fr:=[1,2]) (kD rfl B.range (aC aG aE)) (λ_ _ _ _ _=>(aL Pa hr (bS 1 (aC (aD 2) (aC (aL OU hr (bS 1 (aC aG aE))) (aC aG aE)))))))) (Hj 3 rfl (kW (dD 4 (by decide) nd rfl (.inl rfl)) (kW (dD 5 (by decide) nd rfl (.inl rfl)) (kW (dD 6 (by decide) nd rfl (.inl rfl)) wY)))))
    (aI (aW 7 nd (aL Pb hr (aC (aD 4) (aC (aD 5) aE))))
    (aI (bP (fF (gC (jP (eF (aL O6 hr (aC (aL OZ hr (aC (aD 4) (aC (aD 5) aE))) (aC (aD 7) aE))))) (iL (jP (eF (aL O6 hr (aC (aL OZ hr (aC (aD 5) (aC (aD 4) aE))) (aC (aD 7) aE))))))))
     (aO (aT gE))
     bO)
    (aI (aW 8 nd (aL Pb hr (aC (aD 7) (aC (aD 6) aE))))
    (aI (bP (fF (gC (jP (eF (aL O6 hr (aC (aL OZ hr (aC (aD 7) (aC (aD 6) aE))) (aC (aD 8) aE))))) (iL (jP (eF (aL O6 hr (aC (aL OZ hr (aC (aD 4) (aC (aL OZ hr (aC (aD 6) (aC (aD 5) aE))) aE))) (aC (aD 8) aE))))))))
     (aO (aT gE))
     bO)
    (aO (bP (fF (gC (jP (eF (aL O6 hr (aC (aL OZ hr (aC (aL OZ hr (aC (aD 6) (aC (aD 4) aE))) (aC (aD 5) aE))) (aC (aD 8) aE))))) (iL (jP (eF (aL O6 hr (aC (aL OZ hr (aC (aD 4) (aC (aD 4) aE))) (aC (aD 4) aE))))))))
     (aO (aT gE))
     bO))))))))
   (aO (aT gE)))))),?_⟩
  refine⟨_,rfl,aa,ns,rfl,hS,λp c H1 np nc d1 s1=>?_⟩;refine Jl (N:=OJ) (by decide) d1 q ?_;clear q hS hlen hr d1 s1 np nc;refine⟨rfl,rfl,λnm tx st sp hw=>?_⟩;show av.nx _ _;refine dw (ρ':=[.no,.dk,.va (eO nm tx st sp),.no,.no,.no,.no,.no,.no]) rfl ?_;refine⟨_,rfl,by decide,by decide,?_⟩;refine kZ (λi ρ=>∃s3 s4 s5 s6 s7 s8:Sl,ρ=[.no,.dk,.va (eO nm tx st sp),s3,s4,s5,s6,s7,s8]) ⟨_,_,_,_,_,_,rfl⟩ ?_ (λ_ ⟨_,_,_,_,_,_,e⟩=>by subst e;rfl);rintro i T _ N hT ⟨s3,s4,s5,s6,s7,s8,rfl⟩ hN;refine⟨_,rfl,by decide,by decide,by rw[iC];decide,?_⟩;refine rN (λT U=>∃S,U=bE (bI 3 S)/\LV 3 S) (λT hT R hR=>⟨rfl,rfl,3,rfl,by decide,bW (by decide) (by decide),λr r0 r1=>⟨nm,tx,st,sp,r,6,rfl,hw,r0,by omega,by decide,by decide,λf _ hf=>hR _ (IW hf)⟩⟩) (λUs hUs=>?_);have l:=hUs.length;rw[iC]at l;have al:∀U∈Us,∃S,U=bE (bI 3 S)/\LV 3 S:=AU hUs
  match Us,l,al with
  |[U1,U2,U3],_,al=>
   obtain⟨A,rfl,hA⟩:=al U1 (.head _);obtain⟨B,rfl,hB⟩:=al U2 (.tail _ (.head _));obtain⟨C,rfl,hC⟩:=al U3 (.tail _ (.tail _ (.head _)));clear al hUs l;refine⟨_,rfl,rfl,_,_,rfl,_,_,rfl,_,_,rfl,rfl,?_⟩;have AB:=(gH 3).app A B hA hB;have sm:∀A,ij 18 (bE (bI 3 A)):=λA=>.of (Bo 3 A)
   have m1:bE (bI 3 (B++A))=bE (bI 3 (A++B)):=sC λv=>by simp only[qj_];exact Or.comm
   have m2:bE (bI 3 (A++(C++B)))=bE (bI 3 (A++B++C)):=sC λv=>by simp only[qj_];exact⟨λh=>h.elim (λa=>.inl (.inl a)) λh=>h.elim .inr λb=>.inl (.inr b),λh=>h.elim (λh=>h.elim .inl λb=>.inr (.inr b)) λc=>.inr (.inl c)⟩
   have m3:bE (bI 3 (C++A++B))=bE (bI 3 (A++B++C)):=sC λv=>by simp only[qj_];exact⟨λh=>h.elim (λh=>h.elim .inr λa=>.inl (.inl a)) λb=>.inl (.inr b),λh=>h.elim (λh=>h.elim (λa=>.inl (.inr a)) .inr) λc=>.inl (.inl c)⟩
   have m4:bE (bI 3 (A++A))=bE (bI 3 A):=sC λv=>by simp only[qj_];exact⟨λh=>h.elim id id,.inl⟩
   refine⟨A,B,rfl,hA,hB,?_⟩;show av.nx _ _;refine dw (ρ':=[.no,.dk,.va (eO nm tx st sp),.va T,.va (bE (bI 3 A)),.va (bE (bI 3 B)),.va (bE (bI 3 C)),.va (bE (bI 3 (A++B))),s8]) rfl ?_;refine⟨A,B,rfl,hA,hB,_,rfl,sm _,_,rfl,bH ⟨B,A,rfl,hB,hA,?_⟩⟩;rw[m1];refine⟨_,rfl,sm _,_,rfl,bH ⟨A++B,C,rfl,AB,hC,?_⟩⟩;show av.nx _ _;refine dw (ρ':=[.no,.dk,.va (eO nm tx st sp),.va T,.va (bE (bI 3 A)),.va (bE (bI 3 B)),.va (bE (bI 3 C)),.va (bE (bI 3 (A++B))),.va (bE (bI 3 (A++B++C)))]) rfl ?_;refine⟨A++B,C,rfl,AB,hC,_,rfl,sm _,_,rfl,bH ⟨C,B,rfl,hC,hB,A,C++B,rfl,hA,(gH 3).app C B hC hB,?_⟩⟩;rw[m2];refine⟨_,rfl,sm _,_,rfl,bH ⟨C,A,rfl,hC,hA,C++A,B,rfl,(gH 3).app C A hC hA,hB,?_⟩⟩;rw[m3];refine⟨_,rfl,sm _,_,rfl,bH ⟨A,A,rfl,hA,hA,?_⟩⟩;rw[m4];exact⟨_,rfl,sm _,_,rfl,bH (hN _ ⟨_,_,_,_,_,_,rfl⟩)⟩
end
end My
namespace My
open PySem L2 PyProof.Rows
open WordM
open PySem
theorem all_mk{l:W.OpenLaw}{w:World}{K:W.Frag}{h:Heap}{mg:Str->Option Value}{fa:Addr}(X:K.In h)(G:h.Ns mainGlobals mg)(hfa:mg "law"=some (.ref fa)){f52:Addr}{v_52 t_52:Option Addr}{p_52:Array (Option Value)}{u_52 w_52 x_52 y_52 r_52 q_52:Value}
 (QL:ao K mg "divisor_of" Du)
 (QM:ao K mg "run_of" Dt)
 (QN:ao K mg "telling_numbers" Ds)
 (QO:ao K mg "run_joined" Dr)
 (QP:ao K mg "has_mark" wg)
 (QR:ao K mg "marks_of" we)
 (QS:ao K mg "marks_joined" Dq)
 (QT:ao K mg "shared_head" Dp)
 (QU:ao K mg "make_of" vn)
 (QV:ao K mg "words_of" Do)
 (P5:ao K mg "as_make" zu)
 (P6:ao K mg "with_shorter_head" zv)
 (P7:ao K mg "makes_joined" zw)
 (P8:ao K mg "words_joined" zx)
 (P9:ao K mg "part_kind" zy)
 (P_:ao K mg "part_for" z_)
 (Qa:ao K mg "forms_within" zI)
 (Qb:ao K mg "fields_by_name" zH)
 (Qc:ao K mg "field_joined" uK)
 (Qd:ao K mg "records_joined" uJ)
 (Qe:ao K mg "name_words" zG)
 (Qf:ao K mg "tables_joined" uI)
 (Qg:ao K mg "dicts_joined" uH)
 (Qh:ao K mg "lists_joined" uG)
 (Qi:ao K mg "parts_joined" qI)
 (Qj:ao K mg "joined" qH)
 (Qk:ao K mg "all_joined" uF)
 (Ql:ao K mg "_law_mixed" zF)
 (Qm:ao K mg "_law_deck" zE)
 (Qn:ao K mg "_law_take" zD)
 (Qo:ao K mg "_law_signs" zC)
 (Qp:ao K mg "_law_text" yo)
 (Qq:ao K mg "_law_unlike" yp)
 (Qr:ao K mg "_law_far" yq)
 (Qs:ao K mg "_law_world" yZ)
 (Qt:ao K mg "_law_make" yY)
 (Qu:ao K mg "_law_some_words" yX)
 (Qv:ao K mg "_law_record" oK)
 (Qw:ao K mg "_law_table" yW)
 (Qx:ao K mg "_law_part" yV)
 (Qy:ao K mg "_law_form" oJ)
 (Qz:ao K mg "_law_same" oI)
 (QB:ao K mg "_law_divisor" yr)
 (QC:ao K mg "_law_mark" yt)
 (QD:ao K mg "_law_hulls" yU)
 (QE:ao K mg "_law_hull" lW)
 (QF:ao K mg "_law_words_of" yT)
 (QG:ao K mg "_law_named" yS)
 (QH:ao K mg "_law_inner" yR)
 (QI:ao K mg "_law_dicts_both" oH)
 (QJ:ao K mg "_law_parts_both" qG)
 (QK:ao K mg "_law_both" qF)
 (a52:W.nsIn K mainGlobals "law"=some (some (.ref f52))) (l52:K.lookup f52=some ⟨u_52,v_52,.func (W.fnOf "law" "law" (fL jJ) (dE jJ) (aY jJ) .none w_52 x_52 y_52 t_52 r_52 q_52),p_52⟩) (c52:W.codeIn K r_52 "law"=true) (k52:W.keepIn K (.ref f52)=true)
    (z0:W.nsIn K mainGlobals "len"=some none) (z1:W.nsIn K mainGlobals "range"=some none) (z2:W.nsIn K mainGlobals "isinstance"=some none) (z3:W.nsIn K mainGlobals "int"=some none) (z4:W.nsIn K mainGlobals "bool"=some none) (z5:W.nsIn K mainGlobals "str"=some none) (z6:W.nsIn K mainGlobals "list"=some none) (z7:W.nsIn K mainGlobals "tuple"=some none) (z8:W.nsIn K mainGlobals "dict"=some none) (z9:W.nsIn K mainGlobals "sum"=some none) (z10:W.nsIn K mainGlobals "min"=some none) (z11:W.nsIn K mainGlobals "max"=some none) (z12:W.nsIn K mainGlobals "all"=some none) (z13:W.nsIn K mainGlobals "any"=some none) (z14:W.nsIn K mainGlobals "abs"=some none) (z15:W.nsIn K mainGlobals "zip"=some none) (z16:W.nsIn K mainGlobals "sorted"=some none) (z17:W.nsIn K mainGlobals "set"=some none) (z18:W.nsIn K mainGlobals "enumerate"=some none) {aSIGNS aMARKS aPK:Addr} {tk1 tk2 tk3 tk4 tk5 tk6 tk7 tk8 um1 um2 um3 um4 tp1 tp2 tp3 tp4 tp5 tp6 tp7 tp8 tp9 tp10 tp11 tp12 tp13 tp14:Tok} {epS nM epP:Nat} {ddM:Option Addr} {slM:Array (Option Value)} {aKN:Addr} {uk1 uk2 uk3 uk4 uk5 uk6:Tok} {nK:Nat} {slK:Array (Option Value)} {tkF tkF8:Tok}
    (aS:W.nsIn K mainGlobals "SIGNS"=some (some (.ref aSIGNS)))
    (lS:K.lookup aSIGNS=some ⟨.type "dict",none,.dict #[{hash:=PyData.keyHash w.params ("figure":Str),key:=.str "figure" tk1,val:=.str "0123456789" tk2},{hash:=PyData.keyHash w.params ("great":Str),key:=.str "great" tk3,val:=.str "ABCDEFGHIJKLMNOPQRSTUVWXYZ" tk4},{hash:=PyData.keyHash w.params ("other":Str),key:=.str "other" tk5,val:=.str " !\"#$&'()*+,-./:;<=>?\x40[\\]^_`{|}~" tk6},{hash:=PyData.keyHash w.params ("small":Str),key:=.str "small" tk7,val:=.str "abcdefghijklmnopqrstuvwxyz" tk8}] epS,#[]⟩)
    (aM:W.nsIn K mainGlobals "MARKS"=some (some (.ref aMARKS)))
    (lM:K.lookup aMARKS=some ⟨.type "tuple",ddM,.seq #[.str "figure" um1,.str "great" um2,.str "other" um3,.str "small" um4] nM,slM⟩)
    (aP:W.nsIn K mainGlobals "PART_KINDS"=some (some (.ref aPK)))
    (lP:K.lookup aPK=some ⟨.type "dict",none,.dict #[{hash:=PyData.keyHash w.params ("nothing":Str),key:=.str "nothing" tp1,val:=.str "nothing" tp2},{hash:=PyData.keyHash w.params ("truths":Str),key:=.str "truths" tp3,val:=.str "truth" tp4},{hash:=PyData.keyHash w.params ("numbers":Str),key:=.str "numbers" tp5,val:=.str "number" tp6},{hash:=PyData.keyHash w.params ("texts":Str),key:=.str "texts" tp7,val:=.str "text" tp8},{hash:=PyData.keyHash w.params ("lists":Str),key:=.str "lists" tp9,val:=.str "list" tp10},{hash:=PyData.keyHash w.params ("record":Str),key:=.str "record" tp11,val:=.str "dict" tp12},{hash:=PyData.keyHash w.params ("table":Str),key:=.str "table" tp13,val:=.str "dict" tp14}] epP,#[]⟩)
    (aK:W.nsIn K mainGlobals "KINDS"=some (some (.ref aKN)))
    (lK:K.lookup aKN=some ⟨.type "tuple",none,.seq #[.str "nothing" uk1,.str "truth" uk2,.str "number" uk3,.str "text" uk4,.str "list" uk5,.str "dict" uk6] nK,slK⟩)
    (aF:W.nsIn K mainGlobals "MOST_FEW"=some (some (.int 6 tkF)))
    (aF8:W.nsIn K mainGlobals "MOST_FIELDS"=some (some (.int 8 tkF8))):
    ∃fd:FuncData,(∀(s:Shared) (v:Value),BindsTo s fd ⟨[v],[]⟩ [("_law_script",v)])/\∀base:Heap,K.In base->base.Ns mainGlobals mg->f_ l.prog w K mg base ky 37 fa fd Ow (tL K):=by
  have e:=hfa.symm.trans (PySem.W.mg_of X G a52);cases e;have B:Own mg:=Gn X G z0 z1 z2 z3 z4 z5 z6 z7 z8 z9 z10 z11 z12 z13 z14 z15 z16 z17 z18;refine⟨W.fnOf "law" "law" (fL jJ) (dE jJ) (aY jJ) .none w_52 x_52 y_52 t_52 r_52 q_52,λs v=>.of_eq rfl,λbase KB GB=>?_⟩;have GSIGNS:qD K w.params mg "SIGNS" t_:=⟨aSIGNS,PySem.W.mg_of X G aS,⟨⟨_,_,lS,⟨rfl,⟨_,rfl⟩,⟨_,rfl⟩,rfl,⟨_,rfl⟩,⟨_,rfl⟩,rfl,⟨_,rfl⟩,⟨_,rfl⟩,rfl,⟨_,rfl⟩,⟨_,rfl⟩,trivial⟩⟩,by decide +kernel⟩⟩
  have GPART_KINDS:qD K w.params mg "PART_KINDS" zW:=⟨aPK,PySem.W.mg_of X G aP,⟨⟨_,_,lP,⟨rfl,⟨_,rfl⟩,⟨_,rfl⟩,rfl,⟨_,rfl⟩,⟨_,rfl⟩,rfl,⟨_,rfl⟩,⟨_,rfl⟩,rfl,⟨_,rfl⟩,⟨_,rfl⟩,rfl,⟨_,rfl⟩,⟨_,rfl⟩,rfl,⟨_,rfl⟩,⟨_,rfl⟩,rfl,⟨_,rfl⟩,⟨_,rfl⟩,trivial⟩⟩,by decide +kernel⟩⟩
  have TM:∀H,cv K H aMARKS (MK.map V.str):=λH=>.inr ⟨_,_,_,lM,rfl,rfl,by show 4<=sizeLine;decide,.cons ⟨_,rfl⟩ (.cons ⟨_,rfl⟩ (.cons ⟨_,rfl⟩ (.cons ⟨_,rfl⟩ .nil)))⟩
  have GMARKS:fW K mg "MARKS" (.seq true (MK.map sT)):=BV (PySem.W.mg_of X G aM) TM;have TKN:∀H,cv K H aKN ((kN6.map fJ).map V.str):=λH=>.inr ⟨_,_,_,lK,rfl,rfl,by show 6<=sizeLine;decide,.cons ⟨_,rfl⟩ (.cons ⟨_,rfl⟩ (.cons ⟨_,rfl⟩ (.cons ⟨_,rfl⟩ (.cons ⟨_,rfl⟩ (.cons ⟨_,rfl⟩ .nil)))))⟩
  have GKINDS:fW K mg "KINDS" (.seq true (kN6.map λk=>sT (fJ k))):=BV (PySem.W.mg_of X G aK) TKN;have GMOST_FEW:fW K mg "MOST_FEW" (iT 6):=⟨.int 6,_,PySem.W.mg_of X G aF,⟨_,rfl⟩,λH=>.flat rfl⟩
  have GMOST_FIELDS:fW K mg "MOST_FIELDS" (iT 8):=⟨.int 8,_,PySem.W.mg_of X G aF8,⟨_,rfl⟩,λH=>.flat rfl⟩
  have OU:ae l.prog w K mg base 2 "_law_take" Oj gB:=dq.take (GM Qn (Jc Ql));have Pd:ae l.prog w K mg base 1 "_law_signs" [] sE:=Ek Qo B ;have O_:ae l.prog w K mg base 3 "_law_text" Oj pS:=El Qp B Pd OU;have Pi:ae l.prog w K mg base 4 "_law_unlike" OF wH:=Em Qq B Pd O_;have Pq:ae l.prog w K mg base 3 "_law_far" Oo yH:=En Qr B OU;have Pr:ae l.prog w K mg base 5 "_law_world" Oo xE:=Eo Qs B OU Pi O_ Pq;have P3:ae l.prog w K mg base 1 "has_mark" Oz vO:=Oa QP B GSIGNS;have Py:ae l.prog w K mg base 2 "marks_of" ["text"] rG:=N_ QR B P3 GMARKS;have Pp:ae l.prog w K mg base 1 "part_kind" Ol vE:=EK P9 B GPART_KINDS;have O7:ae l.prog w K mg base 2 "part_for" OA oX:=EL P_ B Pp;have PJ:ae l.prog w K mg base 1 "divisor_of" Oh yI:=Oe QL B ;have PH:ae l.prog w K mg base 1 "telling_numbers" ["run"] vM:=Oc QN B ;have PM:ae l.prog w K mg base 2 "run_of" ["numbers"] xF:=Od QM B PJ;have Pm:ae l.prog w K mg base 3 "run_joined" Oh pU:=Ob QO B PM PH;have Pz:ae l.prog w K mg base 1 "marks_joined" Oh uO:=N9 QS B ;have PB:ae l.prog w K mg base 1 "shared_head" Oh uN:=N8 QT B ;have PC:ae l.prog w K mg base 3 "make_of" Oq rV:=N7 QU B PB Py;have PD:ae l.prog w K mg base 4 "words_of" Oq rF:=N6 QV B PC GMOST_FEW;have Pg:ae l.prog w K mg base 4 "as_make" ["words"] wJ:=DO P5 B PC;have Ph:ae l.prog w K mg base 3 "with_shorter_head" ["make","head"] vN:=DP P6 B Pz Py;have Po:ae l.prog w K mg base 4 "makes_joined" Oh wI:=EI P7 B PB Ph Pz;have O5:ae l.prog w K mg base 5 "words_joined" Oh mO:=EJ P8 B PD Po Pg;have O4:ae l.prog w K mg base 1 "fields_by_name" Ot oM:=EN Qb B ;have O9:ae l.prog w K mg base 5 "name_words" Ol qJ:=ES Qe B PD;have O8:ae l.prog w K mg base 1 "forms_within" Ol gX:=EM Qa B ;have Pe:ae l.prog w K mg base 4 "_law_make" Oo pV:=Ep Qt B OU O_;have Pu:ae l.prog w K mg base 5 "_law_some_words" OC qU:=Er Qu B OU Pe;have Pa:ae l.prog w K mg base 15 "_law_form" Ou (lB 3):=sO Qy Qx Qw Qv B OU Pe Pu 3;have Pc:ae l.prog w K mg base 1 "_law_hulls" Ov mY:=EA QD B ;have Pw:ae l.prog w K mg base 1 "_law_mark" Ox yB:=Ez QC B ;have Px:ae l.prog w K mg base 2 "_law_hull" Os sZ:=EB QE B Pw;have Pf:ae l.prog w K mg base 3 "_law_words_of" Os lQ:=EC QF B Px;have Pk:ae l.prog w K mg base 2 "_law_named" Om pK:=ED QG B Pc;have Pl:ae l.prog w K mg base 1 "_law_inner" Om gX:=EE QH B ;have Pj:ae l.prog w K mg base 1 "_law_divisor" Oi oY:=Ey QB B ;have O6:ae l.prog w K mg base 19 "_law_same" Oi (pT 18):=A4 Qz B 18;have OZ:=A3 Qj Qi Qh Qg Qf Qk Qd Qc B O7 Pm O5 O4 O9 O8 GMOST_FIELDS GKINDS 3;have Pb:=A2 QK QJ QI B Pj Pf Pc Pk Pl 3;exact Gc (ya (st:=jJ) l52 c52 k52) B (GL Qm B) Pr Pa OU Pb O6 OZ 
theorem walk{l:W.OpenLaw}{q:Program}{loose:List Str}{XP:(Str->Option Value)->Heap->Prop}{YP:World->Heap->Prop}{d:DefRec}{K:Params->W.Frag}(hn:l.most=some 63)(hdf:d.params.defaults=[])
  (hY:∀(w:World) (h:Heap),YP w h->(K w.params).In h)
  (F:∀(w:World) (mg:Str->Option Value) (fa:Addr) (h:Heap),(K w.params).In h->h.Ns mainGlobals mg->mg d.name=some (.ref fa) ->
   ∃fd:FuncData,(∀(s:Shared) (u:Value),BindsTo s fd ⟨[u],[]⟩ [("_law_script",u)])/\∀base:Heap,(K w.params).In base->base.Ns mainGlobals mg->f_ l.prog w (K w.params) mg base ky 37 fa fd Ow (tL (K w.params))):
  PySem.W.WalkO q loose XP YP l.row.toRowW d [] (λf vs=>PySem.call f vs):=
 L2.walk_of (n:=63) (k:=37) (x:="_law_script") (CX:=λ_=>ky) (sp:=λw=>tL (K w.params)) hn (by decide) hdf ⟨rfl,by decide,by decide,rfl⟩ hY F (λ_ _ a ns hl _ hS=>⟨a,ns,rfl,hS,hl,λ_=>rfl⟩) λ_ _ _ _ _ z=>z
end My
inductive PySem.W.Fast:Prop
|tw7761229288143535758
|tw3824119932641963008
|tw15350674905684201536
|tw9588027646927727744
|tw7920732199380359360
|tw5189729206261744160
|tw6856559925245842080
|tw1988433260225719072
|tw15543639022092234433
|tw5312595208348849857
|tw5442346795614851937
|tw4874336853209500898
|tw9785788198213640578
|tw8944339021185126818
|tw18044962550321372610
|tw2396751164060097026
|tw11907762446251715234
|tw774815490355998562
|tw13886856844672707875
|tw92405843252828451
|tw11996061740480417123
|tw13208044048280139267
|tw9796918114470562916
|tw17086104103638165060
|tw12557166693741710052
|tw1645533363844318277
|tw8473134411760226597
|tw5006231944467482981
|tw8260190220236100229
|tw10312181030625435365
|tw13920523836055209925
|tw12851916152466691142
|tw2996419037456256070
|tw17056124643599548582
|tw13753701342181453254
|tw10202854633717355462
|tw14209208042284258695
|tw14721523747281919431
|tw11669418936488904455
|tw17202541563438154984
|tw10713828920278280680
|tw10771723745694977800
|tw375519671375656776
|tw6448821135259087752
|tw13980904306749616073
|tw1340339908297317418
|tw9204236848339427882
|tw9657126589717202858
|tw11667006419694458923
|tw3685938087429028907
|tw2257153006991579307
|tw4357757913454400779
|tw8363035406576381100
|tw7102608172118295468
|tw16794884128979400620
|tw9437282921707905037
|tw17712401582855698637
|tw1584668496708932813
|tw5933951163370414509
|tw6026305783708466029
|tw11336075898819036526
|tw10061180017047151470
|tw1466723188347962639
|tw9246591469862523343
|tw4651887558694852175
|tw13242171118671226543
|tw3038911870711943951
|tw17972082351866179375
|tw11359234438089729264
|tw4024352102743541168
|tw2642003894396191504
|tw15239051958150712080
|tw9619924208914231313
|tw4059556701193918769
|tw17880432536972525009
|tw1943882215311999537
|tw16931181748259620657
|tw12469306080163005554
|tw15239680645687737842
|tw14683418176402995475
|tw14774655277802022323
|tw8531693553786811091
|tw13750635690603848116
|tw2800710561802137140
|tw7907252820471801460
|tw9956410379276277460
|tw18304101895445700340
|tw4440794809456033588
|tw3675958102096667669
|tw3015899049011443189
|tw14852168537176384053
|tw390795532463575733
|tw7620457440120660661
|tw10429677124394048245
|tw11049384448603603829
|tw14142992210607505430
|tw10771807112160809430
|tw17330114529229056502
|tw9796636404639353366
|tw8297261561025592982
|tw236168706847825207
|tw8225506777592878551
|tw15445651287945484472
|tw310450541324737720
|tw11098438731904280024
|tw5210804163672700504
|tw16480721218509014648
|tw7409010161866780280
|tw13950214550081090200
|tw2017527728121056088
|tw10037386818409474040
|tw8947607550106467354
|tw13761956176470046138
|tw11473463515955401274
|tw11499709972022100890
|tw2294320530240299962
|tw14120111385363924986
|tw12515151738496899259
|tw6488653386463828379
|tw671141427907738716
|tw8793525829857380444
|tw1493523354182119772
|tw17604706876116148604
|tw5401977564224200156
|tw13909886196647504860
|tw3095989047954691101
|tw56803870223327357
|tw11059575414620765533
|tw14257121691953590813
|tw17956584320923888381
|tw4762558000341965597
|tw4625408836683760445
|tw14662453179862785949
|tw13359335978871400510
|tw8735779112034362622
|tw11136133258913097566
|tw16321249155044825759
|tw96909643317468063
open PySem PySem.W PyProof.Rows
set_option maxRecDepth 100000 in
set_option maxHeartbeats 0 in
theorem PySem.Challenge.cw_leastform_k42_forms_of_any_hand_joined_holds : PySem.Challenge.rw_leastform_k42_forms_of_any_hand_joined.Holds := by
 w_on; o_law; k_head; (case hw => w_witness2)
 k_fill
 refine My.walk (l := PySem.Challenge.rw_leastform_k42_forms_of_any_hand_joined) rfl rfl (fun w h Y => PySem.W.kIn_of Y) ?F
 case F =>
  intro w mg fa h KX G hmg
  refine' My.all_mk KX G hmg (L2.has_mk KX G ?a0 ?l0 ?c0 ?k0) (L2.has_mk KX G ?a1 ?l1 ?c1 ?k1) (L2.has_mk KX G ?a2 ?l2 ?c2 ?k2) (L2.has_mk KX G ?a3 ?l3 ?c3 ?k3) (L2.has_mk KX G ?a4 ?l4 ?c4 ?k4) (L2.has_mk KX G ?a5 ?l5 ?c5 ?k5) (L2.has_mk KX G ?a6 ?l6 ?c6 ?k6) (L2.has_mk KX G ?a7 ?l7 ?c7 ?k7) (L2.has_mk KX G ?a8 ?l8 ?c8 ?k8) (L2.has_mk KX G ?a9 ?l9 ?c9 ?k9) (L2.has_mk KX G ?a10 ?l10 ?c10 ?k10) (L2.has_mk KX G ?a11 ?l11 ?c11 ?k11) (L2.has_mk KX G ?a12 ?l12 ?c12 ?k12) (L2.has_mk KX G ?a13 ?l13 ?c13 ?k13) (L2.has_mk KX G ?a14 ?l14 ?c14 ?k14) (L2.has_mk KX G ?a15 ?l15 ?c15 ?k15) (L2.has_mk KX G ?a16 ?l16 ?c16 ?k16) (L2.has_mk KX G ?a17 ?l17 ?c17 ?k17) (L2.has_mk KX G ?a18 ?l18 ?c18 ?k18) (L2.has_mk KX G ?a19 ?l19 ?c19 ?k19) (L2.has_mk KX G ?a20 ?l20 ?c20 ?k20) (L2.has_mk KX G ?a21 ?l21 ?c21 ?k21) (L2.has_mk KX G ?a22 ?l22 ?c22 ?k22) (L2.has_mk KX G ?a23 ?l23 ?c23 ?k23) (L2.has_mk KX G ?a24 ?l24 ?c24 ?k24) (L2.has_mk KX G ?a25 ?l25 ?c25 ?k25) (L2.has_mk KX G ?a26 ?l26 ?c26 ?k26) (L2.has_mk KX G ?a27 ?l27 ?c27 ?k27) (L2.has_mk KX G ?a28 ?l28 ?c28 ?k28) (L2.has_mk KX G ?a29 ?l29 ?c29 ?k29) (L2.has_mk KX G ?a30 ?l30 ?c30 ?k30) (L2.has_mk KX G ?a31 ?l31 ?c31 ?k31) (L2.has_mk KX G ?a32 ?l32 ?c32 ?k32) (L2.has_mk KX G ?a33 ?l33 ?c33 ?k33) (L2.has_mk KX G ?a34 ?l34 ?c34 ?k34) (L2.has_mk KX G ?a35 ?l35 ?c35 ?k35) (L2.has_mk KX G ?a36 ?l36 ?c36 ?k36) (L2.has_mk KX G ?a37 ?l37 ?c37 ?k37) (L2.has_mk KX G ?a38 ?l38 ?c38 ?k38) (L2.has_mk KX G ?a39 ?l39 ?c39 ?k39) (L2.has_mk KX G ?a40 ?l40 ?c40 ?k40) (L2.has_mk KX G ?a41 ?l41 ?c41 ?k41) (L2.has_mk KX G ?a42 ?l42 ?c42 ?k42) (L2.has_mk KX G ?a43 ?l43 ?c43 ?k43) (L2.has_mk KX G ?a44 ?l44 ?c44 ?k44) (L2.has_mk KX G ?a45 ?l45 ?c45 ?k45) (L2.has_mk KX G ?a46 ?l46 ?c46 ?k46) (L2.has_mk KX G ?a47 ?l47 ?c47 ?k47) (L2.has_mk KX G ?a48 ?l48 ?c48 ?k48) (L2.has_mk KX G ?a49 ?l49 ?c49 ?k49) (L2.has_mk KX G ?a50 ?l50 ?c50 ?k50) (L2.has_mk KX G ?a51 ?l51 ?c51 ?k51) ?a52 ?l52 ?c52 ?k52 ?z0 ?z1 ?z2 ?z3 ?z4 ?z5 ?z6 ?z7 ?z8 ?z9 ?z10 ?z11 ?z12 ?z13 ?z14 ?z15 ?z16 ?z17 ?z18 ?aS ?lS ?aM ?lM ?aP ?lP ?aK ?lK ?aF ?aF8
  any_goals k_is
