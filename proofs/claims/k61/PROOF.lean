import PyProof.Rows.All
import Wide.All
import OpenK.AllK
import PySem.Challenge.RW_leastform_k61_forms_of_samples_within
set_option Elab.async false
set_option linter.all false
set_option maxRecDepth 100000
set_option maxHeartbeats 4000000
set_option compiler.extract_closed false
noncomputable section
def af:=@PySem.wpAny_bind
def ao:=@PySem.wpAny_pure
def aq:=@List.length_map
def qd_:=@List.mem_map
def bp:=@Nat.le_refl
def bu:=@Nat.le_trans
def b5:=@PySem.Heap.lt_size
def b6:=@PySem.Heap.get?_push_of_some
def b8:=@List.length_append
def b9:=@Bool.false_ne_true
def qk_:=@List.mem_cons
def cb:=@List.getElem?_eq_getElem
def cg:=@List.size_toArray
def cm:=@decide_eq_true
def cv:=@List.map_map
def cz:=@Nat.ne_of_lt
def cy:=@PySem.Heap.get?_push_size
def qr_:=@List.mem_append
def de:=@List.mem_append_right
def df:=@PySem.boot_len
def dq:=@decide_eq_false
def d9:=@List.map_cons
def d8:=@Nat.zero_le
def fe:=@List.mem_append_left
def fc:=@Array.length_toList
def fb:=@List.not_mem_nil
def qA_:=@List.any_eq_true
def qB_:=@List.getElem?_eq_some_iff
def gm:=@of_decide_eq_true
def g4:=@List.getElem?_map
def qE_:=@List.all_eq_true
def gz:=@PySem.wpAny_setState_of
def ib:=@List.mem_cons_self
def ia:=@List.mem_cons_of_mem
def h_:=@Array.getElem?_toList
def n_:=@Bool.false_eq_true
def iw:=@List.length_cons
def i9:=@List.filterMap_cons
def i8:=@List.append_nil
def i7:=@List.mem_of_getElem?
def i6:=@Bool.and_eq_true
def i5:=@PySem.wpAny_holding
def i4:=@PySem.PassesOwn.never
def jd:=@PySem.W.mg_none_of
def qS_:=@List.mem_filter
def qT_:=@List.mem_filterMap
def ji:=@List.getD_eq_getElem?_getD
def jh:=@Array.getElem?_eq_getElem
def jx:=@List.all_map
def qX_:=@List.mem_singleton
def jw:=@List.filterMap_append
def j0:=@Nat.ne_of_gt
def dg:=@List.replicate_succ
def dz:=@Nat.lt_of_lt_of_le
def dw:=@List.map_append
def du:=@Bool.true_and
def e6:=@Nat.le_of_lt
def qf1_:=@Option.map_eq_some_iff
def d_:=@PySem.Heap.size_push
def qh1_:=@List.mem_flatten
def qi1_:=@List.not_lt
def fh:=@List.length_replicate
def fg:=@List.find?_cons
def ql1_:=@List.mem_range
def fw:=@Bool.false_and
def fu:=@PySem.Heap.get?_update_self
def fo:=@List.append_assoc
def fm:=@Bool.eq_iff_iff
def fk:=@List.length_filter_le
def fj:=@PySem.wpAny_call_entry
def gk:=@List.getElem?_set_self
def gj:=@Nat.lt_trans
def gi:=@List.nil_append
def gh:=@PySem.wpAny_newObj_type
def g_:=@Nat.lt_irrefl
def g9:=@List.getElem?_set_ne
def g8:=@List.length_take
def g6:=@List.flatten_cons
def ie:=@List.any_cons
def ic:=@List.exists_mem_of_ne_nil
def qC1_:=@List.mem_flatMap
def qD1_:=@List.nodup_cons
def jc:=@List.length_set
def jb:=@List.all_cons
def qG1_:=@List.mem_iff_getElem
def ja:=@List.toList_toArray
def i_:=@PySem.codeAny_builtin
def jr:=@Nat.le_succ
def jq:=@Nat.lt_succ_of_lt
def jo:=@Int.emod_lt_of_pos
def jn:=@Int.emod_nonneg
def jl:=@Int.le_refl
def jk:=@Int.dvd_zero
def qP1_:=@List.find?_eq_none
def jj:=@PySem.Around.under_plainId
def j_:=@List.getElem?_append_right
def j9:=@List.getElem?_append_left
def j8:=@List.foldl_cons
def j7:=@List.getElem_mem
def j6:=@List.take_add_one
def j5:=@List.cons_append
def qX1_:=@List.length_pos_iff
def ku:=@Bool.or_false
def kr:=@List.length_singleton
def ko:=@List.lookup_cons
def kn:=@List.pairwise_map
def km:=@Nat.not_lt_zero
def kl:=@List.eq_nil_of_length_eq_zero
def kj:=@Int.dvd_refl
def ki:=@Int.dvd_sub
def kh:=@List.perm_ext_iff_of_nodup
def qh2_:=@List.append_eq_nil_iff
def m7:=@List.getElem?_replicate
def m5:=@List.length_drop
def mz:=@List.map_nil
def mw:=@PySem.Heap.get?_update_other
def mr:=@List.take_of_length_le
def mq:=@List.range_succ_eq_map
def qo2_:=@Array.getElem?_eq_some_iff
def mn:=@Nat.lt_succ_self
def mi:=@List.length_range
def mh:=@List.nodup_nil
def mf:=@List.take_length
def me:=@Bool.and_false
def md:=@Int.dvd_add
def ma:=@Int.sub_self
def qw2_:=@Int.zero_dvd
def l_:=@List.any_append
def lu:=@PySem.wpAny_setField_rec
def nr:=@List.filterMap_map
def oq:=@List.getElem?_drop
def oo:=@List.map_congr_left
def qC2_:=@Nat.not_lt
def om:=@Nat.lt_trichotomy
def qE2_:=@List.pairwise_iff_getElem
def oj:=@Nat.mod_lt
def oi:=@List.nodup_append
def oh:=@List.getElem?_eq_none
def og:=@Nat.mul_comm
def oe:=@Nat.lt_or_eq_of_le
def n9:=@List.find?_some
def n8:=@List.mem_of_find?_eq_some
def n6:=@Int.dvd_trans
def nz:=@List.append_cancel_left
def ny:=@List.filter_cons
def nv:=@Bool.and_true
def p5:=@List.drop_zero
def pq:=@List.le_refl
def pk:=@List.le_trans
def pj:=@Bool.false_or
def ph:=@List.drop_eq_getElem_cons
def pd:=@List.sizeOf_lt_of_mem
def pb:=@Array.size_map
def qX2_:=@List.eq_nil_iff_forall_not_mem
def qY2_:=@List.cons_lt_cons_iff
def rk:=@List.of_mem_zip
def rj:=@List.reverse_cons
def rg:=@List.length_reverse
def rf:=@Array.getElem?_eq_none
def rb:=@Array.toArray_toList
def q_:=@List.foldl_append
def qz:=@Option.isSome_map
def qy:=@List.take_append_drop
def qx:=@List.drop_length
def qw:=@List.take_zero
def qv:=@Bool.beq_eq_decide_eq
def qt:=@List.lt_irrefl
def qr:=@Nat.div_div_eq_div_mul
def qq:=@Nat.lt_of_not_le
def qp:=@Int.lt_of_lt_of_le
def qo:=@List.find?_eq_some_iff_getElem
def qm:=@List.flatten_append
def ql:=@Option.isNone_iff_eq_none
def qr3_:=@List.map_eq_nil_iff
def qk:=@Bool.and_assoc
def s_:=@Int.fdiv_eq_ediv_of_nonneg
def sy:=@List.eraseIdxIfInBounds_toArray
def sv:=@List.length_eraseIdx_of_lt
def qw3_:=@List.findIdx?_eq_none_iff
def su:=@List.length_erase_of_mem
def sq:=@Array.getD_eq_getD_getElem?
def sj:=@Array.isEmpty_iff_size_eq_zero
def tp:=@Int.mul_le_mul_of_nonneg_left
def tm:=@List.filterMap_eq_nil_iff
def tj:=@List.length_filterMap_le
namespace L2
open PySem PySem.Spec PyProof.Rows
noncomputable abbrev OH:List Str:=["one","other"]
noncomputable abbrev OI:List Str:=["part"]
noncomputable abbrev OJ:List Str:=["_law_one","_law_other"]
noncomputable abbrev OK:List Str:=["value"]
noncomputable abbrev OL:List Str:=["_law_deck_here","_law_most"]
noncomputable abbrev OM:List Str:=["record"]
noncomputable abbrev ON:List Str:=["texts"]
noncomputable abbrev OO:List Str:=["form","kind"]
noncomputable abbrev OP:List Str:=["_law_part","_law_value_here"]
noncomputable abbrev OQ:List Str:=["_law_script"]
noncomputable abbrev OR:List Str:=["_law_deck_here"]
noncomputable abbrev OS:List Str:=["_law_deck_here","_law_world_here"]
noncomputable abbrev OT:List Str:=["_law_deck_here","_law_world_here","_law_deep","_law_way"]
noncomputable abbrev OU:List Str:=["samples"]
noncomputable abbrev OV:List Str:=["_law_words","_law_text_here"]
noncomputable abbrev OW:List Str:=["part","name"]
noncomputable abbrev OX:List Str:=["_law_part"]
noncomputable abbrev OY:List Str:=["_law_one","_law_other","_law_here","_law_there"]
noncomputable abbrev OZ:List Str:=["text","mark"]
noncomputable abbrev O0:List Str:=["words","text"]
noncomputable abbrev O1:List Str:=["_law_words"]
noncomputable abbrev O3:List Str:=["_law_form","_law_value_here"]
noncomputable abbrev O4:List Str:=["_law_one","_law_other","_law_word","_law_some"]
noncomputable abbrev O5:List Str:=["_law_number_here","_law_k"]
noncomputable abbrev O6:List Str:=["_law_sign","_law_words"]
noncomputable abbrev O7:List Str:=["signs","shortest","longest","most"]
noncomputable abbrev O8:List Str:=["one","other","records","names"]
noncomputable abbrev O9:List Str:=["_law_one","_law_other","_law_strange"]
noncomputable abbrev O_:List Str:=["_law_one","_law_other","_law_part","_law_some"]
noncomputable abbrev Pa:List Str:=["_law_deck_here","_law_many","_law_most"]
noncomputable abbrev Pb:List Str:=["texts","head","tails","sizes"]
noncomputable abbrev Pc:List Str:=["_law_deck_here","_law_world_here","_law_deep","_law_way","_law_many"]
noncomputable abbrev Pd:List Str:=["_law_deck_here","_law_world_here","_law_many"]
noncomputable abbrev Pe:List Str:=["words","head","marks","signs","texts"]
noncomputable abbrev Pf:List Str:=["signs","length","place"]
noncomputable abbrev Pg:List Str:=["one","other","name","names"]
noncomputable abbrev Ph:List Str:=["_law_words","_law_good","_law_found"]
noncomputable abbrev Pi:List Str:=["_law_deck_here","_law_most","_law_names","_law_head","_law_texts","_law_start"]
noncomputable abbrev Pj:List Str:=["_law_deck_here","_law_world_here","_law_way"]
noncomputable abbrev Pk:List Str:=["_law_deck_here","_law_world_here","_law_deep","_law_many"]
noncomputable abbrev Pl:List Str:=["_law_deck_here","_law_world_here","_law_many","_law_way","_law_deep"]
noncomputable abbrev Pm:List Str:=["words","many","signs","texts","length","here"]
noncomputable abbrev Po:List Str:=["_law_script","_law_deck_here","_law_world_here","_law_one","_law_other","_law_forms","_law_here","_law_there"]
noncomputable abbrev ay:=Sum Int Str
noncomputable def kU:ay->Value->Bool
 |.inl k,v=>Value.isInt k v
 |.inr x,v=>Value.isStrOf x v
noncomputable def FO(w:World):ay->Int
 |.inl k=>hashInt k
 |.inr x=>hashStr w x
theorem iD:∀{k:ay}{v:Value},kU k v=true->(∃i t,k=Sum.inl i/\v=Value.int i t)\/(∃x t,k=Sum.inr x/\v=Value.str x t)
 |.inl i,v,h=>by
  obtain⟨t,e⟩:=Value.isInt_shape (k:=i) (v:=v) h;exact .inl ⟨i,t,rfl,e⟩
 |.inr x,v,h=>by
  obtain⟨t,e⟩:=Value.isStrOf_shape (x:=x) (v:=v) h;exact .inr ⟨x,t,rfl,e⟩
theorem Nb(i:Int)(t:Tok):kU (.inl i) (.int i t)=true:=by simp[kU,Value.isInt]
theorem Nc(x:Str)(t:Tok):kU (.inr x) (.str x t)=true:=by simp[kU,Value.isStrOf]
theorem Ii(a b:Int):decide ((Sum.inl a:ay)=Sum.inl b)=(a==b):=by
 by_cases e:a=b
 ·subst e;simp
 ·have h:¬ (Sum.inl a:ay)=Sum.inl b:=λq=>e (Sum.inl.inj q)
  rw[dq h];exact(beq_eq_false_iff_ne.mpr e).symm
theorem Il(a b:Str):decide ((Sum.inr a:ay)=Sum.inr b)=decide (a=b):=by
 by_cases e:a=b
 ·subst e;simp
 ·have h:¬ (Sum.inr a:ay)=Sum.inr b:=λq=>e (Sum.inr.inj q)
  rw[dq h,dq e]
theorem Ij(a:Int)(b:Str):decide ((Sum.inl a:ay)=Sum.inr b)=false:=dq (λq=>nomatch q)
theorem Ik(a:Str)(b:Int):decide ((Sum.inr a:ay)=Sum.inl b)=false:=dq (λq=>nomatch q)
noncomputable def cB(prog:Program)(w:World):PySem.KeyKind prog w ay where
 is:=kU
 hash:=FO w
 inj:=λv a b ha hb=>by
  rcases iD ha with⟨i,t,rfl,rfl⟩|⟨x,t,rfl,rfl⟩
  ·rcases iD hb with⟨j,u,rfl,e⟩|⟨y,u,rfl,e⟩
   ·injection e with e1 _;rw[e1]
   ·exact nomatch e
  ·rcases iD hb with⟨j,u,rfl,e⟩|⟨y,u,rfl,e⟩
   ·exact nomatch e
   ·injection e with e1 _;rw[e1]
 byValue:=λk v h=>by
  rcases iD h with⟨i,t,rfl,rfl⟩|⟨x,t,rfl,rfl⟩<;>rfl
 pyHash:=λhv h=>by
  rcases iD hv with⟨i,t,rfl,rfl⟩|⟨x,t,rfl,rfl⟩
  ·exact wpAny_pyHash_int h
  ·exact wpAny_pyHash_str h
 eqBool:=λhu hv h=>by
  rcases iD hu with⟨i,t,rfl,rfl⟩|⟨x,t,rfl,rfl⟩
  ·rcases iD hv with⟨j,u,rfl,rfl⟩|⟨y,u,rfl,rfl⟩
   ·rw[Ii]at h;exact wpAny_eqBool_int h
   ·rw[Ij]at h;exact SeqAt.EqAt.int_str i t y u _ _ _ _ h
  ·rcases iD hv with⟨j,u,rfl,rfl⟩|⟨y,u,rfl,rfl⟩
   ·rw[Ik]at h;exact SeqAt.EqAt.str_int x t j u _ _ _ _ h
   ·rw[Il]at h;exact wpAny_eqBool_str h
 «strs»:=λk x t v h=>by
  rcases iD h with⟨i,u,rfl,e⟩|⟨y,u,rfl,e⟩
  ·exact nomatch e
  ·injection e with e1 _
   subst e1;cases v<;>rfl
theorem NJ(prog:Program)(w:World)(i:Int)(t:Tok):(cB prog w).is (.inl i) (.int i t)=true:=Nb i t
theorem rB(prog:Program)(w:World)(x:Str)(t:Tok):(cB prog w).is (.inr x) (.str x t)=true:=Nc x t
inductive V where
 |non|bl (b:Bool)|int (i:Int)|str (x:Str)|byt (b:Array UInt8)|flt (b:UInt64)|ref (a:Addr)|ty (n:String)
 deriving DecidableEq
noncomputable def aj:V->Value->Prop
 |.non,u=>u=Value.none
 |.bl b,u=>u=Value.bool b
 |.int i,u=>∃t,u=Value.int i t
 |.str x,u=>∃t,u=Value.str x t
 |.byt b,u=>∃t,u=Value.bytes b t
 |.flt b,u=>∃t,u=Value.float b t
 |.ref a,u=>u=Value.ref a
 |.ty n,u=>u=Value.type n
noncomputable abbrev ak:List V->List Value->Prop:=Paired aj
theorem ak.length{xs:List V}{us:List Value}(r:ak xs us):xs.length=us.length:=Paired.length r
theorem ak.get:∀{xs:List V}{us:List Value}{i:Nat}{x:V},ak xs us->xs[i]?=some x->∃u,us[i]?=some u/\aj x u
 |_,_,_,_,.nil,e=>by simp at e
 |_,_,0,_,.cons r _,e=>by simp at e;subst e;exact⟨_,rfl,r⟩
 |_,_,i+1,x,.cons _ t,e=>by
  obtain⟨u,h1,h2⟩:=ak.get (i:=i) (x:=x) t (by simpa using e);exact⟨u,by simpa using h1,h2⟩
theorem ak.set{x:V}{u:Value}(r:aj x u):∀{xs:List V}{us:List Value}(i:Nat),ak xs us->ak (xs.set i x) (us.set i u)
 |_,_,_,.nil=>.nil
 |_,_,0,.cons _ t=>.cons r t
 |_,_,i+1,.cons q t=>.cons q (ak.set r i t)
theorem ak.append:∀{xs ys:List V}{us ws:List Value},ak xs us->ak ys ws->ak (xs++ys) (us++ws)
 |_,_,_,_,.nil,s=>s
 |_,_,_,_,.cons r t,s=>.cons r (ak.append t s)
theorem ak.take:∀{xs:List V}{us:List Value}(n:Nat),ak xs us->ak (xs.take n) (us.take n)
 |_,_,0,_=>.nil
 |_,_,_+1,.nil=>.nil
 |_,_,n+1,.cons r t=>.cons r (ak.take n t)
theorem ak.drop:∀{xs:List V}{us:List Value}(n:Nat),ak xs us->ak (xs.drop n) (us.drop n)
 |_,_,0,r=>r
 |_,_,_+1,.nil=>.nil
 |_,_,n+1,.cons _ t=>ak.drop n t
noncomputable def gq:Option V->Option Value->Prop
 |some v,some u=>aj v u
 |none,none=>True
 |_,_=>False
noncomputable def KV{κ:Type}:List (κ×V)->List (κ×Value)->Prop:=Paired λ(p:κ×V) (q:κ×Value)=>p.1=q.1/\aj p.2 q.2
noncomputable def kV:ay->V
 |.inl i=>.int i
 |.inr x=>.str x
inductive HO where
 /-- a list -/
 |lst (xs:List V)
 /-- a tuple (never changes) -/
 |tup (xs:List V)
 /-- a dict whose keys are ints and texts; one whose keys are tuples of ints and texts (the empty one is both) -/
 |dK (kvs:List (ay×V))|dT (kvs:List (List ay×V))
 /-- a set of ints: its members, its size -/
 |set (S:Int->Bool) (n:Nat)
 /-- an instance of the class at C, its dict at dx, its attributes -/
 |ins (C dx:Addr) (fs:List (Str×V))
 /-- the dict of the instance at x -/
 |own (x:Addr)
 /-- the dict of an exception -/
 |xd (fs:List (Str×V))
 /-- a bound method, f of x -/
 |met (f x:Addr)
 /-- a range object lo, lo + 1, .. below hi -/
 |rng (lo hi:Int)
 /-- a thing that is known to the object (the script; a dict while a loop walks it): read, never written while it is so -/
 |frz (o:Obj) (u:HO)
 /-- a code object's table -/
 |tbl (ps:Array Value)
 /-- any other thing, by what is true of its one object (a def of one's own: SetO a S n := HO.ext fun h => ..) -/
 |ext (φ:Heap->Prop)
noncomputable abbrev Hp:=Addr->Option HO
noncomputable def aw(H:Hp)(a:Addr)(o:HO):Hp:=λb=>if b=a then some o else H b
theorem bL{H:Hp}{a:Addr}{o:HO}:aw H a o a=some o:=by unfold aw;rw[if_pos rfl]
theorem bU{H:Hp}{a b:Addr}{o:HO}(h:b≠a):aw H a o b=H b:=by unfold aw;rw[if_neg h]
theorem GV{H:Hp}{a b:Addr}{o u:HO}(h:H a=some o)(h':H b=some u)(d:o≠u):a≠b:=by
 intro e;subst e;rw[h]at h';exact d (Option.some.inj h')
theorem eW{H:Hp}{a b:Addr}{o:HO}(h:H a=some o)(h':H b=none):a≠b:=by
 intro e;subst e;rw[h]at h';cases h'
section
variable(P:Program)(w:World)
noncomputable def a_(H:Hp)(h:Heap)(a:Addr):HO->Prop
 |.lst xs=>xs.length<=sizeLine/\∃(its:List Value) (n:Nat),ak xs its/\h.get? a=some {cls:=.type "list",data:=.seq its.toArray n}
 |.tup xs=>xs.length<=sizeLine/\∃its:List Value,ak xs its/\IsTup h a its.toArray
 |.dK kvs=>kvs.length<=sizeLine/\(a==sysModules)=false/\∃vs,KV kvs vs/\h.DictOf (cB P w) a vs
 |.dT kvs=>kvs.length<=sizeLine/\(a==sysModules)=false/\∃xs:List (List ay×Addr×Value),
   Paired (λ(p:List ay×V) (q:List ay×Addr×Value)=>p.1=q.1/\H q.2.1=some (.tup (p.1.map kV))/\aj p.2 q.2.2) kvs xs /\
   ∃o es ep,h.get? a=some o/\o.ExactDict/\o.data=.dict es ep/\es.toList=xs.map (entryOfKey (tupleKind (cB P w)))/\(xs.map (·.1)).Nodup
 |.set S n=>h.SetOf (intKind P w) a S n
 |.ins C dx fs=>H dx=some (.own a)/\fs.length<=1000/\dx≠a/\h.get? a=some (PySem.W.instObj C dx) /\
   ∃mA,h.Ns1 dx mA/\(∀f,gq (fs.lookup f) (mA f))/\PySem.Within mA (fs.map (·.1))
 |.own _=>∃o,h.get? a=some o
 |.xd fs=>∃mA,h.Ns1 a mA/\∀f,gq (fs.lookup f) (mA f)
 |.rng lo hi=>∃t u v,h.get? a=some {cls:=.type "range",data:=.fields #[.int lo t,.int hi u,.int 1 v]}
 |.frz o u=>h.get? a=some o/\a_ H h a u
 |.tbl ps=>h.get? a=some {cls:=.none,data:=.fields ps}
 |.met f x=>h.get? a=some (PySem.W.methodObj (.ref f) (.ref x))
 |.ext φ=>φ h/\(∃o,h.get? a=some o)/\∀h1 h2:Heap,φ h1->(∀o,h1.get? a=some o->h2.get? a=some o)->φ h2
noncomputable def d7(H:Hp)(h:Heap):Prop:=∀a o,H a=some o->a_ P w H h a o
end
section
variable{P:Program}{w:World}{H H':Hp}{h h':Heap}{a:Addr}{o:HO}
theorem a_.lt(x:a_ P w H h a o):a<h.objs.size:=by
 cases o with
 |lst xs=>obtain⟨_,_,_,_,e⟩:=x;exact b5 e
 |tup xs=>obtain⟨_,_,_,p⟩:=x;exact p.lt
 |dK kvs=>obtain⟨_,_,_,_,o,_,_,e,_⟩:=x;exact b5 e
 |dT kvs=>obtain⟨_,_,_,_,o,_,_,e,_⟩:=x;exact b5 e
 |set S n=>obtain⟨o,_,_,_,e,_⟩:=x;exact b5 e
 |ins C dx fs=>obtain⟨_,_,_,e,_⟩:=x;exact b5 e
 |own y=>obtain⟨_,e⟩:=x;exact b5 e
 |xd fs=>obtain⟨_,⟨_,_,_,e,_⟩,_⟩:=x;exact b5 e
 |rng lo hi=>obtain⟨_,_,_,e⟩:=x;exact b5 e
 |frz ob u=>obtain⟨e,_⟩:=x;exact b5 e
 |tbl ps=>exact b5 (show h.get? a=some _ from x)
 |met f y=>exact b5 (show h.get? a=some _ from x)
 |ext φ=>obtain⟨_,⟨_,e⟩,_⟩:=x;exact b5 e
theorem Paired.mapP{α β:Type}{F G:α->β->Prop}:∀{l₁:List α}{l₂:List β},Paired F l₁ l₂->(∀a b,F a b->G a b)->Paired G l₁ l₂
 |_,_,.nil,_=>.nil
 |_,_,.cons r t,f=>.cons (f _ _ r) (Paired.mapP t f)
theorem a_.stay(x:a_ P w H h a o)(k:∀b u,(b=a\/H b=some (.own a))->h.get? b=some u->h'.get? b=some u)
  (ho:∀b,H b=some (.own a)->H' b=some (.own a)) (ht:∀b xs,H b=some (.tup xs)->H' b=some (.tup xs)):a_ P w H' h' a o:=by
 induction o with
 |lst xs=>obtain⟨z,its,n,r,e⟩:=x;exact⟨z,its,n,r,k _ _ (.inl rfl) e⟩
 |tup xs=>obtain⟨z,its,r,ob,e,c⟩:=x;exact⟨z,its,r,ob,k _ _ (.inl rfl) e,c⟩
 |dK kvs=>obtain⟨z,y,vs,r,ob,es,ep,e,c⟩:=x;exact⟨z,y,vs,r,ob,es,ep,k _ _ (.inl rfl) e,c⟩
 |dT kvs=>
  obtain⟨z,y,xs,r,ob,es,ep,e,c⟩:=x;exact⟨z,y,xs,Paired.mapP r λp q z=>⟨z.1,ht _ _ z.2.1,z.2.2⟩,ob,es,ep,k _ _ (.inl rfl) e,c⟩
 |set S n=>obtain⟨ob,es,ep,t,e,c⟩:=x;exact⟨ob,es,ep,t,k _ _ (.inl rfl) e,c⟩
 |ins C dx fs=>
  obtain⟨d,z,ne,e,mA,⟨od,es,ep,e2,c⟩,r⟩:=x;exact⟨ho _ d,z,ne,k _ _ (.inl rfl) e,mA,⟨od,es,ep,k _ _ (.inr d) e2,c⟩,r⟩
 |own y=>obtain⟨ob,e⟩:=x;exact⟨ob,k _ _ (.inl rfl) e⟩
 |xd fs=>obtain⟨mA,⟨od,es,ep,e,c⟩,r⟩:=x;exact⟨mA,⟨od,es,ep,k _ _ (.inl rfl) e,c⟩,r⟩
 |rng lo hi=>obtain⟨t,u,v,e⟩:=x;exact⟨t,u,v,k _ _ (.inl rfl) e⟩
 |frz ob u ih=>obtain⟨e,q⟩:=x;exact⟨k _ _ (.inl rfl) e,ih q⟩
 |tbl ps=>
  have e:h.get? a=some {cls:=.none,data:=.fields ps}:=x;show h'.get? a=some {cls:=.none,data:=.fields ps};exact k a _ (.inl rfl) e
 |met f y=>
  have e:h.get? a=some (PySem.W.methodObj (.ref f) (.ref y)):=x;show h'.get? a=some (PySem.W.methodObj (.ref f) (.ref y));exact k a _ (.inl rfl) e
 |ext φ=>obtain⟨p,⟨o,e⟩,st⟩:=x;exact⟨st _ _ p λo q=>k _ _ (.inl rfl) q,⟨o,k _ _ (.inl rfl) e⟩,st⟩
theorem d7.lt(x:d7 P w H h)(e:H a=some o):a<h.objs.size:=(x a o e).lt
theorem d7.fresh(x:d7 P w H h)(e:h.objs.size<=a):H a=none:=by
 cases q:H a with
 |none=>rfl
 |some u=>exact absurd (dz (x.lt q) e) (g_ _)
theorem d7.kept(x:d7 P w H h)(k:∀b u,h.get? b=some u->h'.get? b=some u):d7 P w H h':=λa o e=>
 (x a o e).stay (λb u _ q=>k b u q) (λ_ q=>q) λ_ _ q=>q
theorem d7.laid(x:d7 P w H h)(k:∀b u,h.get? b=some u->h'.get? b=some u)(hp:h.objs.size<=a)(new:a_ P w (aw H a o) h' a o):d7 P w (aw H a o) h':=λb u e=>by
 have hn:=x.fresh hp;by_cases hb:b=a
 ·subst hb;rw[bL]at e;cases e;exact new
 ·rw[bU hb]at e;exact(x b u e).stay (λc v _ q=>k c v q) (λc q=>by rw[bU (eW q hn)];exact q) λc xs q=>by rw[bU (eW q hn)];exact q
end
noncomputable def Rd(H:Hp)(a:Addr)(u:HO):Prop:=H a=some u\/∃o,H a=some (.frz o u)
theorem Rd.ok{P:Program}{w:World}{H:Hp}{h:Heap}{a:Addr}{u:HO}(r:Rd H a u)(x:d7 P w H h):a_ P w H h a u:=by
 rcases r with r|⟨o,r⟩
 ·exact x a u r
 ·obtain⟨_,q⟩:=x a _ r;exact q
noncomputable def t5:Option HO->Prop
 |some (.lst _)=>True
 |some (.dK _)=>True
 |some (.dT _)=>True
 |some (.set _ _)=>True
 |some (.ins _ _ _)=>True
 |some (.ext _)=>True
 |_=>False
section
variable{P:Program}{w:World}{H:Hp}{h h':Heap}{x e:Addr}{o':HO}
theorem d7.write(ok:d7 P w H h)(mu:t5 (H x))(he:e=x\/H e=some (.own x))(k:∀b u,b≠e->h.get? b=some u->h'.get? b=some u)(heo:∃u,h'.get? e=some u)
  (new:a_ P w (aw H x o') h' x o'):d7 P w (aw H x o') h':=λb u q=>by
 have nown:∀c y,H c=some (.own y)->c≠x:=λc y r z=>by subst z;rw[r]at mu;exact mu
 have ntup:∀c xs,H c=some (.tup xs)->c≠x:=λc xs r z=>by subst z;rw[r]at mu;exact mu
 by_cases hb:b=x
 ·subst hb;rw[bL]at q;cases q;exact new
 ·rw[bU hb]at q;by_cases hbe:b=e
  ·have q':H b=some (.own x):=by
    rcases he with z|z
    ·exact absurd (hbe.trans z) hb
    ·rw[hbe];exact z
   rw[q]at q';cases q';obtain⟨v,hv⟩:=heo;exact⟨v,by rw[hbe];exact hv⟩
  ·refine(ok b u q).stay (λc v hc r=>k c v ?_ r) (λc r=>by rw[bU (nown c b r)];exact r) λc xs r=>by rw[bU (ntup c xs r)];exact r
   rcases hc with rfl|hc
   ·exact hbe
   ·rintro rfl;rcases he with z|z
    ·exact nown c b hc z
    ·rw[hc]at z;cases z;exact hb rfl
end
structure Un (fs ex:List Addr) (H H':Hp) (h h':Heap):Prop where
 keep:∀b o,h.get? b=some o->H b=none->b∉fs->b∉ex->h'.get? b=some o
 slot:∀b o,h.get? b=some o->H b=none->b∈fs->b∉ex->∃sl,h'.get? b=some {o with slots:=sl}
 free:∀b o,h.get? b=some o->H b=none->b∉ex->H' b=none
 there:∀b o,h.get? b=some o->b∉ex->∃o',h'.get? b=some o'
 tups:∀b xs,H b=some (.tup xs)->H' b=some (.tup xs)
 frzs:∀b o u,H b=some (.frz o u)->H' b=some (.frz o u)
 tbls:∀b ps,H b=some (.tbl ps)->∃more,H' b=some (.tbl (ps++more))
section
variable{fs fs' ex ex':List Addr}{H H1 H2:Hp}{h h1 h2 h':Heap}{a x e:Addr}{o:HO}
theorem Un.any(u:Un fs ex H H1 h h1){b:Addr}{ob:Obj}(q:h.get? b=some ob)(n:H b=none)(hx:b∉ex):∃sl,h1.get? b=some {ob with slots:=sl}:=by
 by_cases hb:b∈fs
 ·exact u.slot b ob q n hb hx
 ·exact⟨ob.slots,u.keep b ob q n hb hx⟩
theorem Un.kept(k:∀b u,h.get? b=some u->h'.get? b=some u):Un fs ex H H h h':=
 ⟨λb ob q _ _ _=>k b ob q,λb ob q _ _ _=>⟨ob.slots,k b ob q⟩,λ_ _ _ n _=>n,λb ob q _=>⟨ob,k b ob q⟩,λ_ _ q=>q,λ_ _ _ q=>q,λ_ ps q=>⟨#[],by rw[q];simp⟩⟩
theorem Un.refl:Un fs ex H H h h:=Un.kept λ_ _ q=>q
theorem Un.laid(k:∀b u,h.get? b=some u->h'.get? b=some u)(hp:h.objs.size<=a)(hn:H a=none):Un fs ex H (aw H a o) h h' where
 keep:=λb u q _ _ _=>k b u q
 slot:=λb u q _ _ _=>⟨u.slots,k b u q⟩
 free:=λb u q n _=>by rw[bU (cz (dz (b5 q) hp))];exact n
 there:=λb u q _=>⟨u,k b u q⟩
 tups:=λb xs q=>by rw[bU (eW q hn)];exact q
 frzs:=λb u xs q=>by rw[bU (eW q hn)];exact q
 tbls:=λb ps q=>⟨#[],by rw[bU (eW q hn),q];simp⟩
theorem Un.write(mu:t5 (H x))(he:e=x\/H e=some (.own x))(k:∀b u,b≠e->h.get? b=some u->h'.get? b=some u)(heo:∃u,h'.get? e=some u):Un fs ex H (aw H x o) h h':=by
 have hx:∀b,H b=none->b≠x:=λb n z=>by subst z;rw[n]at mu;exact mu
 have hb:∀b,H b=none->b≠e:=λb n z=>by
  subst z;rcases he with r|r
  ·exact hx b n r
  ·rw[n]at r;cases r
 have hm:∀b u,H b=some u->¬ t5 (some u)->b≠x:=λb u q nm z=>by subst z;rw[q]at mu;exact nm mu
 refine⟨λb u q n _ _=>k b u (hb b n) q,λb u q n _ _=>⟨u.slots,k b u (hb b n) q⟩,λb u q n _=>by rw[bU (hx b n)];exact n,λb u q _=>?_,
  λb xs q=>by rw[bU (hm b _ q λz=>z)];exact q,λb u xs q=>by rw[bU (hm b _ q λz=>z)];exact q,λb ps q=>⟨#[],by rw[bU (hm b _ q λz=>z),q];simp⟩⟩
 by_cases hbe:b=e
 ·subst hbe;exact heo
 ·exact⟨u,k b u hbe q⟩
end
noncomputable def ug(h:Heap)(H:Hp):List Addr:=(List.range h.objs.size).filter λa=>(H a).isSome
noncomputable def kA(h:Heap)(H:Hp):Heap:=PySem.W.hideAll h (ug h H)
theorem M8(h:Heap)(H:Hp):(kA h H).objs.size=h.objs.size:=PySem.W.hideAll_size _ _
theorem Km{h:Heap}{H:Hp}{b:Addr}{o:Obj}(e:h.get? b=some o)(n:H b=none):(kA h H).get? b=some o:=
 PySem.W.hideAll_get _ e λhm=>by
  have q:(H b).isSome=true:=(qS_.mp hm).2;rw[n]at q;simp at q
theorem Jf{h:Heap}{H:Hp}{b:Addr}{o:Obj}(e:(kA h H).get? b=some o):h.get? b=some o/\H b=none:=by
 have e':h.get? b=some o:=PySem.W.of_hideAll (ug h H) e;refine⟨e',?_⟩;cases q:H b with
 |none=>rfl
 |some x=>
  have hm:b∈ug h H:=qS_.mpr ⟨ql1_.mpr (b5 e'),by simp[q]⟩;have z:(kA h H).get? b=none:=PySem.W.hideAll_none (ug h H) hm;rw[z]at e;cases e
structure Mod (K:W.Frag) (mg:Str->Option Value) (base:Heap):Prop where
 kin:K.In base
 glob:base.Ns mainGlobals mg
 blt:∃mb,base.Ns builtinsNs mb/\∀x:Str,x≠"__name__"->mb x=bootBuiltins x
 nolimit:base.NoLimit
structure Cx where
 prog:Program
 w:World
 K:W.Frag
 mg:Str->Option Value
 base:Heap
 A:Around
 N:List Str
 s₀:Shared
 H₀:Hp
 env:Env
 outer:List Env
 stack:List Env
 ex:List Addr
 fn:Str->Bool
 calm:Bool
 pn:List (Addr×Obj)
 xe:Value->Shared->Prop
noncomputable def ou(l:List Env):List Addr:=l.filterMap (·.frame)
noncomputable abbrev Cx.fs(X:Cx):List Addr:=ou X.outer
noncomputable def qb(sc:Scope)(x:Str):Prop:=sc.names.lookup x=some .local\/sc.names.lookup x=some .cell\/sc.names.lookup x=some .free
noncomputable def kz(sc:Scope)(x:Str):Prop:=sc.names.lookup x=some .local\/sc.names.lookup x=some .cell
noncomputable def EJ(env:Env)(h:Heap)(m:Str->Option Value)(x:Str)(u:Value):Prop:=
 (env.kindOf x=some .local/\m x=some u)\/((env.kindOf x=some .cell\/env.kindOf x=some .free)/\∃c,env.cells.lookup x=some c/\h.IsCell c (some u))
structure Cx.Ok (X:Cx):Prop where
 mod:Mod X.K X.mg X.base
 kind:X.env.scope.kind=.function
 glob:X.env.globals=mainGlobals
 blt:X.env.builtins=builtinsNs
 above:X.s₀.heap.objs.size<=X.env.locals
 inj:∀x y c,X.env.cells.lookup x=some c->X.env.cells.lookup y=some c->x=y
 has:∀x,(X.env.kindOf x=some .cell\/X.env.kindOf x=some .free)->∃c,X.env.cells.lookup x=some c
 cab:∀x c,X.fn x=true->X.env.cells.lookup x=some c->X.s₀.heap.objs.size<=c
 hd:X.calm=true->X.A.handled=none
 frames:X.A.frames=some X.stack
 stk:X.stack=X.outer\/(X.stack=X.env::X.outer/\X.env.frame=some X.env.locals)
 exf:∀b∈X.ex,b≠X.env.locals/\∀x c,X.env.cells.lookup x=some c->c≠b
 bs:∀b o,X.base.get? b=some o->X.s₀.heap.get? b=some o/\X.H₀ b=none
 bsz:X.base.objs.size<=X.s₀.heap.objs.size
 noex:∀b o,X.base.get? b=some o->b∉X.ex
 exfs:∀b∈X.ex,b∉X.fs
 funs:X.s₀.heap.FunFrames X.base X.outer
 frf:∀b∈X.fs,X.H₀ b=none
structure ag (X:Cx) (Pp:List (Addr×Obj)) (σ:List (Option V)) (H:Hp) (s:Shared):Prop where
 ok:X.Ok
 os:s.os=X.s₀.os
 bare:AllBare s.gens
 base:Un X.fs X.ex X.H₀ H X.s₀.heap s.heap
 loc:∃m,s.heap.Ns X.env.locals m/\∀(i:Nat) (x:Str) (v:V),X.N[i]?=some x->σ[i]?=some (some v)->qb X.env.scope x->∃u,aj v u/\EJ X.env s.heap m x u
 cell:∀x c,X.env.cells.lookup x=some c->∃v,s.heap.IsCell c v
 free:H X.env.locals=none
 freeC:∀x c,X.env.cells.lookup x=some c->H c=none
 pin:∀p∈X.pn++Pp,s.heap.get? p.1=some p.2/\H p.1=none/\p.1≠X.env.locals/\p.1∉X.fs/\∀v,p.2.data≠.cell v
 hok:d7 X.prog X.w H s.heap
 len:σ.length=X.N.length
section
variable{X:Cx}{Pp:List (Addr×Obj)}{σ:List (Option V)}{H H':Hp}{s:Shared}{h':Heap}
theorem Cx.Ok.nofr(ok:X.Ok){b:Addr}{o:Obj}(e:X.base.get? b=some o):b∉X.fs:=λhb=>by
 have:=(ok.funs.mem hb).1;rw[e]at this;cases this
theorem ag.bs(I:ag X Pp σ H s):∀b o,X.base.get? b=some o->s.heap.get? b=some o/\H b=none:=λb o e=>
 ⟨I.base.keep b o (I.ok.bs b o e).1 (I.ok.bs b o e).2 (I.ok.nofr e) (I.ok.noex b o e),I.base.free b o (I.ok.bs b o e).1 (I.ok.bs b o e).2 (I.ok.noex b o e)⟩
theorem ag.bk(I:ag X Pp σ H s):∀b o,X.base.get? b=some o->s.heap.get? b=some o:=λb o e=>(I.bs b o e).1
theorem ag.mod(I:ag X Pp σ H s):Mod X.K X.mg X.base:=I.ok.mod
theorem ag.kIn(I:ag X Pp σ H s):X.K.In s.heap:=I.ok.mod.kin.keeps I.bk
theorem ag.lt(I:ag X Pp σ H s):X.env.locals<s.heap.objs.size:=let ⟨_,hn,_⟩:=I.loc;hn.lt
theorem ag.sz(I:ag X Pp σ H s):X.s₀.heap.objs.size<=s.heap.objs.size:=bu I.ok.above (e6 I.lt)
theorem ag.nofs(I:ag X Pp σ H s){a:Addr}(h:s.heap.objs.size<=a):a∉X.fs:=λhb=>by
 obtain⟨_,o,ho,_⟩:=I.ok.funs.mem hb;exact absurd (dz (b5 ho) (bu I.sz h)) (g_ _)
theorem ag.cne(I:ag X Pp σ H s):∀x c,X.env.cells.lookup x=some c->c≠X.env.locals:=λx c e z=>by
 obtain⟨v,o,ho,hd⟩:=I.cell x c e;obtain⟨m,⟨o',es,ep,ho',hd',_⟩,_⟩:=I.loc;rw[z,ho']at ho;cases ho;rw[hd']at hd;cases hd
theorem ag.funs(I:ag X Pp σ H s):s.heap.FunFrames X.base X.outer:=by
 have all:∀(l:List Env),(∀b∈ou l,b∈X.fs)->X.s₀.heap.FunFrames X.base l->s.heap.FunFrames X.base l:=by
  intro l
  induction l with
  |nil=>intro _ _;trivial
  |cons env r ih=>
   intro hs hl;obtain⟨hk,⟨L,o,hf,hn,ho,hd⟩,hr⟩:=hl;have hL:L∈X.fs:=hs L (by unfold ou;rw[i9,hf];exact ib);obtain⟨sl,e⟩:=I.base.slot L o ho (I.ok.frf L hL) hL λz=>I.ok.exfs L z hL
   exact⟨hk,⟨L,_,hf,hn,e,hd⟩,ih (λb hb=>hs b (by unfold ou;rw[i9,hf];exact ia _ hb)) hr⟩
 exact all X.outer (λ_ hb=>hb) I.ok.funs
theorem ag.stack(I:ag X Pp σ H s):s.heap.FunFrames X.base X.stack:=by
 rcases I.ok.stk with e|⟨e,hf⟩
 ·rw[e];exact I.funs
 ·rw[e];obtain⟨m,hn,_⟩:=I.loc;refine .cons (by rw[I.ok.kind];decide) hf hn ?_ I.funs;exact Heap.get?_none_of_le (bu I.ok.bsz I.ok.above)
theorem ag.stkSub(I:ag X Pp σ H s):∀b∈ou X.stack,b∈X.env.locals::X.fs:=λb hb=>by
 rcases I.ok.stk with e|⟨e,hf⟩
 ·rw[e]at hb;exact ia _ hb
 ·rw[e]at hb;unfold ou at hb;rw[i9,hf]at hb;exact hb
theorem ag.stkFree(I:ag X Pp σ H s):∀b∈ou X.stack,H b=none:=λb hb=>by
 rcases qk_.mp (I.stkSub b hb) with e|hb
 ·rw[e];exact I.free
 ·obtain⟨_,o,ho,_⟩:=I.ok.funs.mem hb;exact I.base.free b o ho (I.ok.frf b hb) λz=>I.ok.exfs b z hb
theorem ag.step{g':Array GenState}{t':Nat}{d':Drawn}{ch:List Addr}(I:ag X Pp σ H s)
  (hch:∀b∈ch,(b∈X.ex\/X.s₀.heap.objs.size<=b)/\b≠X.env.locals/\(∀x c,X.env.cells.lookup x=some c->c≠b)/\∀p∈X.pn++Pp,p.1≠b)
  (keep:∀b o,b≠X.env.locals->b∉X.fs->b∉ch->s.heap.get? b=some o->H b=none->h'.get? b=some o)
  (slot:∀b o,b≠X.env.locals->b∈X.fs->b∉ch->s.heap.get? b=some o->H b=none->∃sl,h'.get? b=some {o with slots:=sl}) (free:∀b o,b∉ch->s.heap.get? b=some o->H b=none->H' b=none)
  (there:∀b o,b∉ch->s.heap.get? b=some o->∃o',h'.get? b=some o')
  (tups:∀b xs,H b=some (.tup xs)->H' b=some (.tup xs)) (frzs:∀b o u,H b=some (.frz o u)->H' b=some (.frz o u)) (tbls:∀b ps,H b=some (.tbl ps)->∃more,H' b=some (.tbl (ps++more)))
  (ns:∀m,s.heap.Ns X.env.locals m->h'.Ns X.env.locals m) (hok:d7 X.prog X.w H' h') (hg:AllBare g'):
  ag X Pp σ H' {s with heap:=h',gens:=g',drawn:=d',toks:=t'}:=by
 have neL:∀b o,X.s₀.heap.get? b=some o->b≠X.env.locals:=λb o e=>cz (dz (b5 e) I.ok.above)
 have neC:∀b o,X.s₀.heap.get? b=some o->b∉X.ex->b∉ch:=λb o e hx hb=>by
  rcases (hch b hb).1 with z|z
  ·exact hx z
  ·exact absurd (dz (b5 e) z) (g_ _)
 have cellK:∀x c,X.env.cells.lookup x=some c->∀v,s.heap.IsCell c v->h'.IsCell c v:=λx c e v ⟨o,ho,hd⟩=>by
  have nch:c∉ch:=λz=>(hch c z).2.2.1 x c e rfl
  by_cases hc:c∈X.fs
  ·obtain⟨sl,q⟩:=slot c o (I.cne x c e) hc nch ho (I.freeC x c e);exact⟨_,q,hd⟩
  ·exact⟨o,keep c o (I.cne x c e) hc nch ho (I.freeC x c e),hd⟩
 refine⟨I.ok,I.os,hg,⟨λb o e n hb hx=>?_,λb o e n hb hx=>?_,λb o e n hx=>?_,λb o e hx=>?_,λb xs e=>tups b xs (I.base.tups b xs e),λb o xs e=>frzs b o xs (I.base.frzs b o xs e),λb ps e=>?_⟩,?_,λx c e=>?_,?_,λx c e=>?_,λp hp=>?_,hok,I.len⟩
 ·exact keep b o (neL b o e) hb (neC b o e hx) (I.base.keep b o e n hb hx) (I.base.free b o e n hx)
 ·obtain⟨sl,e1⟩:=I.base.slot b o e n hb hx;obtain⟨sl',e2⟩:=slot b _ (neL b o e) hb (neC b o e hx) e1 (I.base.free b o e n hx);exact⟨sl',e2⟩
 ·obtain⟨o',e1⟩:=I.base.there b o e hx;exact free b o' (neC b o e hx) e1 (I.base.free b o e n hx)
 ·obtain⟨o',e1⟩:=I.base.there b o e hx;exact there b o' (neC b o e hx) e1
 ·obtain⟨m1,e1⟩:=I.base.tbls b ps e;obtain⟨m2,e2⟩:=tbls b _ e1;exact⟨m1++m2,by rw[e2,Array.append_assoc]⟩
 ·obtain⟨m,hn,hl⟩:=I.loc;refine⟨m,ns m hn,λi x v e1 e2 e3=>?_⟩;obtain⟨u,r,l⟩:=hl i x v e1 e2 e3;refine⟨u,r,?_⟩;rcases l with l|⟨k,c,e,z⟩
  ·exact .inl l
  ·exact .inr ⟨k,c,e,cellK x c e _ z⟩
 ·obtain⟨v,z⟩:=I.cell x c e;exact⟨v,cellK x c e v z⟩
 ·obtain⟨m,⟨o,_,_,ho,_⟩,_⟩:=I.loc;exact free _ o (λz=>(hch _ z).2.1 rfl) ho I.free
 ·obtain⟨v,o,ho,hd⟩:=I.cell x c e;exact free c o (λz=>(hch c z).2.2.1 x c e rfl) ho (I.freeC x c e)
 ·obtain⟨e,n,ne,nf,d⟩:=I.pin p hp;have nch:p.1∉ch:=λz=>(hch p.1 z).2.2.2 p hp rfl
  exact⟨keep p.1 p.2 ne nf nch e n,free p.1 p.2 nch e n,ne,nf,d⟩
theorem ag.un{t':Nat}(I:ag X Pp σ H s)(u:Un X.fs [] H H' s.heap h')(hok:d7 X.prog X.w H' h'):ag X Pp σ H' {s with heap:=h',toks:=t'}:=by
 obtain⟨m,⟨o,es,ep,ho,r⟩,_⟩:=id I.loc;obtain⟨sl,hL⟩:=u.any ho I.free (by simp)
 exact I.step (g':=s.gens) (d':=s.drawn) (ch:=[]) (λ_ z=>nomatch z) (λb o _ hb _ e n=>u.keep b o e n hb (by simp)) (λb o _ hb _ e n=>u.slot b o e n hb (by simp)) (λb o _ e n=>u.free b o e n (by simp)) (λb o _ e=>u.there b o e (by simp)) u.tups u.frzs u.tbls (λm' hm=>by
  obtain⟨o',es',ep',ho',r'⟩:=hm;rw[ho]at ho';cases ho'
  exact⟨_,es',ep',hL,r'⟩) hok I.bare
theorem ag.call{g':Array GenState}{t':Nat}{d':Drawn}{ch:List Addr}(I:ag X Pp σ H s)(u:Un (ou X.stack) ch H H' s.heap h')(hok:d7 X.prog X.w H' h')(hg:AllBare g')
  (hch:∀b∈ch,(b∈X.ex\/X.s₀.heap.objs.size<=b)/\b≠X.env.locals/\(∀x c,X.env.cells.lookup x=some c->c≠b)/\∀p∈X.pn++Pp,p.1≠b):
  ag X Pp σ H' {s with heap:=h',gens:=g',drawn:=d',toks:=t'}:=by
 obtain⟨m,⟨o,es,ep,ho,r⟩,_⟩:=id I.loc;obtain⟨sl,hL⟩:=u.any ho I.free λz=>(hch _ z).2.1 rfl
 exact I.step (ch:=ch) hch (λb o hL hb hc e n=>u.keep b o e n (λz=>(qk_.mp (I.stkSub b z)).elim hL hb) hc) (λb o _ _ hc e n=>u.any e n hc) (λb o hc e n=>u.free b o e n hc) (λb o hc e=>u.there b o e hc) u.tups u.frzs u.tbls (λm' hm=>by
  obtain⟨o',es',ep',ho',r'⟩:=hm;rw[ho]at ho';cases ho'
  exact⟨_,es',ep',hL,r'⟩) hok hg
theorem ag.turned{t':Nat}{it:Addr}(I:ag X Pp σ H s)(k:∀b o,b≠it->s.heap.get? b=some o->h'.get? b=some o)(hn:H it=none)(hL:it≠X.env.locals)
  (h1:it∈X.ex\/X.s₀.heap.objs.size<=it) (h2:∀x c,X.env.cells.lookup x=some c->c≠it) (h3:∀p∈X.pn++Pp,p.1≠it):ag X Pp σ H {s with heap:=h',toks:=t'}:=by
 have nit:∀b u,H b=some u->b≠it:=λb u e z=>by rw[z,hn]at e;cases e
 refine I.step (g':=s.gens) (d':=s.drawn) (ch:=[it]) (λb hb=>?_) (λb o _ _ hc e _=>k b o (λz=>hc (by simp[z])) e) (λb o _ _ hc e _=>⟨o.slots,k b o (λz=>hc (by simp[z])) e⟩) (λ_ _ _ _ n=>n)
  (λb o hc e=>⟨o,k b o (λz=>hc (by simp[z])) e⟩) (λ_ _ e=>e) (λ_ _ _ e=>e) (λb ps e=>⟨#[],by rw[e];simp⟩) (λm hm=>?_) (λb u e=>?_) I.bare
 ·have e:b=it:=by simpa using hb
  subst e;exact⟨h1,hL,h2,h3⟩
 ·obtain⟨o,es,ep,ho,r⟩:=hm;exact⟨o,es,ep,k _ o (Ne.symm hL) ho,r⟩
 ·refine(I.hok b u e).stay (λc v hc q=>k c v ?_ q) (λ_ q=>q) λ_ _ q=>q
  rcases hc with z|z
  ·rw[z];exact nit b u e
  ·exact nit c _ z
theorem ag.tok(I:ag X Pp σ H s)(t:Nat):ag X Pp σ H {s with toks:=t}:=I.un (h':=s.heap) (t':=t) Un.refl I.hok
theorem ag.kept{t':Nat}(I:ag X Pp σ H s)(k:∀b u,s.heap.get? b=some u->h'.get? b=some u):ag X Pp σ H {s with heap:=h',toks:=t'}:=I.un (Un.kept k) (I.hok.kept k)
theorem ag.laid{a:Addr}{o:HO}{t':Nat}(I:ag X Pp σ H s)(k:∀b u,s.heap.get? b=some u->h'.get? b=some u)(hp:s.heap.objs.size<=a)(new:a_ X.prog X.w (aw H a o) h' a o):
  ag X Pp σ (aw H a o) {s with heap:=h',toks:=t'}:=I.un (Un.laid k hp (I.hok.fresh hp)) (I.hok.laid k hp new)
theorem ag.write{x e:Addr}{o:HO}{t':Nat}(I:ag X Pp σ H s)(mu:t5 (H x))(he:e=x\/H e=some (.own x))(k:∀b u,b≠e->s.heap.get? b=some u->h'.get? b=some u)(heo:∃u,h'.get? e=some u)
  (new:a_ X.prog X.w (aw H x o) h' x o):ag X Pp σ (aw H x o) {s with heap:=h',toks:=t'}:=I.un (Un.write mu he k heo) (I.hok.write mu he k heo new)
theorem ag.weak{σ':List (Option V)}(I:ag X Pp σ H s)(hl:σ'.length=σ.length)(w:∀(i:Nat) v,σ'[i]?=some (some v)->σ[i]?=some (some v)):ag X Pp σ' H s:=
 ⟨I.ok,I.os,I.bare,I.base,let ⟨m,hn,hl'⟩:=I.loc;⟨m,hn,λi x v e1 e2 e3=>hl' i x v e1 (w i v e2) e3⟩,I.cell,I.free,I.freeC,I.pin,I.hok,hl.trans I.len⟩
theorem ag.pins_of{pins':List (Addr×Obj)}(I:ag X Pp σ H s)(h:∀p∈pins',s.heap.get? p.1=some p.2/\H p.1=none/\p.1≠X.env.locals/\p.1∉X.fs/\∀v,p.2.data≠.cell v):ag X pins' σ H s:=
 ⟨I.ok,I.os,I.bare,I.base,I.loc,I.cell,I.free,I.freeC,λp hp=>(qr_.mp hp).elim (λz=>I.pin p (fe _ z)) (h p),I.hok,I.len⟩
theorem Bv{N:List Str}(hN:N.Nodup){i j:Nat}{x:Str}(a:N[i]?=some x)(b:N[j]?=some x):i=j:=by
 obtain⟨h1,e1⟩:=qB_.mp a;obtain⟨h2,e2⟩:=qB_.mp b;exact(List.getElem_inj hN).mp (e1.trans e2.symm)
theorem Cs{M:Model}{A:Around}{E:Value->Shared->Prop}{i:Nat}{x:Str}{v:V}{u:Value}{Q:Unit->Shared->Prop}(I:ag X Pp σ H s)(hN:X.N.Nodup)(hi:X.N[i]?=some x)(hx:kz X.env.scope x)(r:aj v u)
  (h:∀s',ag X Pp (σ.set i (some v)) H s'->(∃a,Heap.SameBut a s.heap s'.heap/\(a=X.env.locals\/X.env.cells.lookup x=some a))->Q () s') (hf:X.fn x=true\/X.env.scope.names.lookup x=some .local:=by first|exact .inl rfl|exact .inr rfl|assumption):wpAny M A (storeName X.env x u) Q E s:=by
 obtain⟨m,hn,hl⟩:=id I.loc;have hcls:(X.env.scope.kind==.class || (X.env.scope.kind==.module&&X.env.locals != X.env.globals))=false:=by rw[I.ok.kind];rfl
 have hiσ:i<σ.length:=by rw[I.len];exact(qB_.mp hi).1
 have cne:=I.cne;have tracked:∀{a:Addr} {h':Heap},(∃o,s.heap.get? a=some o/\H a=none)->Heap.SameBut a s.heap h'->d7 X.prog X.w H h':=λ{a h'} ha hs b ob e=>by
  obtain⟨_,_,hfree⟩:=ha;refine(I.hok b ob e).stay (λc w' hc q=>(hs.2 c ?_).trans q) (λ_ q=>q) λ_ _ q=>q
  rintro rfl;rcases hc with rfl|hc
  ·rw[hfree]at e;cases e
  ·rw[hfree]at hc;cases hc
 rcases hx with hk|hk
 ·refine wpAny_storeName_local hk hn (λh' hn' hs=>?_) hcls;obtain⟨oL,_,_,hoL,_⟩:=id hn;refine h _ ⟨I.ok,I.os,I.bare,⟨λb o e n hb hx=>?_,λb o e n hb hx=>?_,I.base.free,λb o e hx=>?_,I.base.tups,I.base.frzs,I.base.tbls⟩,⟨_,hn',λj y v' e1 e2 e3=>?_⟩,λy c e=>?_,I.free,I.freeC,λp hp=>?_,tracked ⟨oL,hoL,I.free⟩ hs,by simpa using I.len⟩ ⟨_,hs,.inl rfl⟩
  ·exact(hs.2 b (cz (dz (b5 e) I.ok.above))).trans (I.base.keep b o e n hb hx)
  ·obtain⟨sl,e1⟩:=I.base.slot b o e n hb hx;exact⟨sl,(hs.2 b (cz (dz (b5 e) I.ok.above))).trans e1⟩
  ·obtain⟨o',e1⟩:=I.base.there b o e hx;exact⟨o',(hs.2 b (cz (dz (b5 e) I.ok.above))).trans e1⟩
  ·by_cases hj:j=i
   ·subst hj;rw[hi]at e1;cases e1;rw[gk hiσ]at e2;cases e2;exact⟨u,r,.inl ⟨hk,by simp⟩⟩
   ·rw[g9 (Ne.symm hj)]at e2;obtain⟨u',r',q⟩:=hl j y v' e1 e2 e3;refine⟨u',r',?_⟩;rcases q with⟨k,e⟩|⟨k,c,e,z⟩
    ·refine .inl ⟨k,?_⟩;have:y≠x:=λe=>hj (Bv hN e1 (e▸hi))
     simp[this,e]
    ·exact .inr ⟨k,c,e,z.sameBut hs (cne y c e)⟩
  ·obtain⟨w',z⟩:=I.cell y c e;exact⟨w',z.sameBut hs (cne y c e)⟩
  ·obtain⟨e,n,ne,nf,d⟩:=I.pin p hp;exact⟨(hs.2 p.1 ne).trans e,n,ne,nf,d⟩
 ·have hfn:X.fn x=true:=by
   rcases hf with z|z
   ·exact z
   ·rw[z]at hk;cases hk
  obtain⟨c,hc⟩:=I.ok.has x (.inl hk);obtain⟨w',z⟩:=I.cell x c hc;refine wpAny_storeName_cell I.ok.kind hk hc z (λh' hc' hs=>?_);obtain⟨oc,hoc,hocd⟩:=id z;refine h {s with heap:=h'} ⟨I.ok,I.os,I.bare,⟨λb o e n hb hx=>?_,λb o e n hb hx=>?_,I.base.free,λb o e hx=>?_,I.base.tups,I.base.frzs,I.base.tbls⟩,⟨m,hn.sameBut hs (Ne.symm (cne x c hc)),λj y v' e1 e2 e3=>?_⟩,λy c' e=>?_,I.free,I.freeC,λp hp=>?_,tracked ⟨oc,hoc,I.freeC x c hc⟩ hs,by simpa using I.len⟩ ⟨c,hs,.inr hc⟩
  ·exact(hs.2 b (cz (dz (b5 e) (I.ok.cab x c hfn hc)))).trans (I.base.keep b o e n hb hx)
  ·obtain⟨sl,e1⟩:=I.base.slot b o e n hb hx;exact⟨sl,(hs.2 b (cz (dz (b5 e) (I.ok.cab x c hfn hc)))).trans e1⟩
  ·obtain⟨o',e1⟩:=I.base.there b o e hx;exact⟨o',(hs.2 b (cz (dz (b5 e) (I.ok.cab x c hfn hc)))).trans e1⟩
  ·by_cases hj:j=i
   ·subst hj;rw[hi]at e1;cases e1;rw[gk hiσ]at e2;cases e2;exact⟨u,r,.inr ⟨.inl hk,c,hc,hc'⟩⟩
   ·rw[g9 (Ne.symm hj)]at e2;obtain⟨u',r',q⟩:=hl j y v' e1 e2 e3;refine⟨u',r',?_⟩;rcases q with q|⟨k,c',e,z'⟩
    ·exact .inl q
    ·refine .inr ⟨k,c',e,z'.sameBut hs ?_⟩;rintro rfl;exact hj (Bv hN e1 (I.ok.inj _ _ _ e hc▸hi))
  ·by_cases hcc:c'=c
   ·subst hcc;exact⟨_,hc'⟩
   ·obtain⟨w2,z2⟩:=I.cell y c' e;exact⟨w2,z2.sameBut hs hcc⟩
  ·obtain⟨e,n,ne,nf,d⟩:=I.pin p hp;refine⟨(hs.2 p.1 ?_).trans e,n,ne,nf,d⟩;intro q;rw[q,hoc]at e;have q':oc=p.2:=Option.some.inj e;exact d w' (by rw[<-q'];exact hocd)
theorem Dg{M:Model}{A:Around}{E:Value->Shared->Prop}{i:Nat}{x:Str}{v:V}{u:Value}{Q:Unit->Shared->Prop}(I:ag X Pp σ H s)(hN:X.N.Nodup)(hi:X.N[i]?=some x)(hx:kz X.env.scope x)(r:aj v u)
  (h:∀s',ag X Pp (σ.set i (some v)) H s'->Q () s') (hf:X.fn x=true\/X.env.scope.names.lookup x=some .local:=by first|exact .inl rfl|exact .inr rfl|assumption):wpAny M A (storeName X.env x u) Q E s:=
 Cs I hN hi hx r (λs' I' _=>h s' I') hf
theorem ag.call'{s':Shared}{ch:List Addr}(I:ag X Pp σ H s)(ho:s'.os=s.os)(u:Un (ou X.stack) ch H H' s.heap s'.heap)(hok:d7 X.prog X.w H' s'.heap)(hg:AllBare s'.gens)
  (hch:∀b∈ch,(b∈X.ex\/X.s₀.heap.objs.size<=b)/\b≠X.env.locals/\(∀x c,X.env.cells.lookup x=some c->c≠b)/\∀p∈X.pn++Pp,p.1≠b):ag X Pp σ H' s':=by
 obtain⟨h',g',d',t',o'⟩:=s';have e:o'=s.os:=ho;subst e;exact I.call (g':=g') (t':=t') (d':=d') u hok hg hch
end
noncomputable abbrev XK:=Value->Option Addr->Hp->Prop
noncomputable abbrev St:=List (Option V)
noncomputable abbrev VK:=V->Hp->Prop
noncomputable abbrev TE:=St->Hp->VK->Prop
noncomputable abbrev TT:=St->Hp->(Bool->Hp->Prop)->Prop
noncomputable abbrev TA:=St->Hp->(List V->Hp->Prop)->Prop
structure mN where
 nx:St->Hp->Prop
 rt:VK
 bk:St->Hp->Prop:=λ_ _=>False
 ct:St->Hp->Prop:=λ_ _=>False
noncomputable abbrev TS:=mN->St->Hp->Prop
noncomputable def EP(X:Cx)(Pp:List (Addr×Obj))(σ:St)(Q:VK)(u:Value)(s':Shared):Prop:=∃v H',ag X Pp σ H' s'/\aj v u/\Q v H'
noncomputable def TP(X:Cx)(Pp:List (Addr×Obj))(σ:St)(Q:Bool->Hp->Prop)(b:Bool)(s':Shared):Prop:=∃H',ag X Pp σ H' s'/\Q b H'
noncomputable def AP(X:Cx)(Pp:List (Addr×Obj))(σ:St)(Q:List V->Hp->Prop)(us:List Value)(s':Shared):Prop:=∃vs H',ag X Pp σ H' s'/\ak vs us/\Q vs H'
noncomputable def SP(X:Cx)(Pp:List (Addr×Obj))(D:mN)(f:Flow)(s':Shared):Prop:=
 match f with
 |.next=>∃σ' H',ag X Pp σ' H' s'/\D.nx σ' H'
 |.brk=>∃σ' H',ag X Pp σ' H' s'/\D.bk σ' H'
 |.cont=>∃σ' H',ag X Pp σ' H' s'/\D.ct σ' H'
 |.ret u=>∃v σ' H',ag X Pp σ' H' s'/\aj v u/\D.rt v H'
noncomputable def PE(X:Cx)(e:Expr)(t:TE):Prop:=
 ∀(Pp:List (Addr×Obj)) (s:Shared) (σ:St) (H:Hp) (Q:VK),ag X Pp σ H s->t σ H Q->wpAny (model X.prog X.w) X.A (eval e X.env) (EP X Pp σ Q) X.xe s
noncomputable def PT(X:Cx)(e:Expr)(t:TT):Prop:=
 ∀(Pp:List (Addr×Obj)) (s:Shared) (σ:St) (H:Hp) (Q:Bool->Hp->Prop),ag X Pp σ H s->t σ H Q->wpAny (model X.prog X.w) X.A (isTrue e X.env (eval e X.env)) (TP X Pp σ Q) X.xe s
noncomputable def PW(X:Cx)(e:Expr)(t:TT):Prop:=
 ∀(whole:Sem Value) (Pp:List (Addr×Obj)) (s:Shared) (σ:St) (H:Hp) (Q:Bool->Hp->Prop),ag X Pp σ H s->t σ H Q->wpAny (model X.prog X.w) X.A (isTrue e X.env whole) (TP X Pp σ Q) X.xe s
theorem PW.pt{X:Cx}{e:Expr}{t:TT}(h:PW X e t):PT X e t:=h _
noncomputable def PA(X:Cx)(es:List Expr)(t:TA):Prop:=
 ∀(pos:Pos) (Pp:List (Addr×Obj)) (s:Shared) (σ:St) (H:Hp) (Q:List V->Hp->Prop),ag X Pp σ H s->t σ H Q->wpAny (model X.prog X.w) X.A (spliced (backTo pos (starEach es X.env))) (AP X Pp σ Q) X.xe s
noncomputable def PS(X:Cx)(st:Stmt)(t:TS):Prop:=
 ∀(Pp:List (Addr×Obj)) (s:Shared) (σ:St) (H:Hp) (D:mN),ag X Pp σ H s->t D σ H->wpAny (model X.prog X.w) X.A (exec st X.env) (SP X Pp D) X.xe s
noncomputable def iq(X:Cx)(st:List Stmt)(t:TS):Prop:=
 ∀(Pp:List (Addr×Obj)) (s:Shared) (σ:St) (H:Hp) (D:mN),ag X Pp σ H s->t D σ H->wpAny (model X.prog X.w) X.A (execs st X.env) (SP X Pp D) X.xe s
theorem bj{α:Type}{t:Sem α}{Q Q':α->Shared->Prop}{M:Model}{A:Around}{E:Value->Shared->Prop}{s:Shared}(h:wpAny M A t Q E s)(hQ:∀a s,Q a s->Q' a s):wpAny M A t Q' E s:=wpAny_mono h hQ λ_ _ x=>x
section
variable{X:Cx}
noncomputable def xp(i:Nat):TE:=λσ H Q=>∃v,σ[i]?=some (some v)/\Q v H
noncomputable def tC(v:V):TE:=λ_ H Q=>Q v H
theorem lZ{i:Nat}{x:Str}{pos:Pos}(hN:X.N[i]?=some x)(hv:qb X.env.scope x)(hd:(x==("__debug__":Str))=false:=by decide)(hcd:(x==("__classdict__":Str))=false:=by decide):PE X (.Name x pos) (xp i):=by
 intro Pp s σ H Q I h;obtain⟨v,e,h⟩:=h;obtain⟨m,hn,hl⟩:=I.loc;obtain⟨u,r,l⟩:=hl i x v hN e hv;have fin:EP X Pp σ Q u s:=⟨v,H,I,r,h⟩
 rcases l with⟨hk,hm⟩|⟨hk,c,hc,hcell⟩
 ·exact wpAny_Name (wpAny_loadName_local I.ok.kind hk hn hm fin) hd
 ·rcases hk with hk|hk
  ·exact wpAny_Name (wpAny_loadName_cell I.ok.kind hk hc hcell fin) hd
  ·exact wpAny_Name (wpAny_loadName_free I.ok.kind hk hc hcell fin hcd) hd
theorem cR{i j pos}:PE X (.Constant (.int i) j pos) (tC (.int i)):=λ_ _ _ H _ I h=>wpAny_Constant_int ⟨.int i,H,I.tok _,⟨_,rfl⟩,h⟩
theorem Hc{b j pos}:PE X (.Constant (.bool b) j pos) (tC (.bl b)):=λ_ _ _ H _ I h=>Constant_bool ⟨.bl b,H,I,rfl,h⟩
theorem Hz{j pos}:PE X (.Constant .none j pos) (tC .non):=λ_ _ _ H _ I h=>Constant_none ⟨.non,H,I,rfl,h⟩
theorem HC{x j pos}:PE X (.Constant (.str x) j pos) (tC (.str x)):=λ_ _ _ H _ I h=>Calls.Constant_str ⟨.str x,H,I.tok _,⟨_,rfl⟩,h⟩
noncomputable def Gl(X:Cx)(x:Str):Prop:=X.env.kindOf x=some .globalImplicit
theorem yL{E:Value->Shared->Prop}{Pp:List (Addr×Obj)}{s:Shared}{σ:St}{H:Hp}{x:Str}{u:Value}{pos:Pos}{Q:Value->Shared->Prop}(I:ag X Pp σ H s)(hg:Gl X x)(hm:X.mg x=some u)(h:Q u s)
  (hd:(x==("__debug__":Str))=false:=by decide):wpAny (model X.prog X.w) X.A (eval (.Name x pos) X.env) Q E s:=
 Calls.Name_function_global I.ok.kind hg (Calls.loadGlobal_global (by rw[I.ok.glob];exact I.mod.glob.keeps I.bk) hm h) hd
theorem tP{E:Value->Shared->Prop}{Pp:List (Addr×Obj)}{s:Shared}{σ:St}{H:Hp}{x:Str}{u:Value}{pos:Pos}{Q:Value->Shared->Prop}(I:ag X Pp σ H s)(hg:Gl X x)(hm:X.mg x=none)(hv:bootBuiltins x=some u)(h:Q u s)
  (hn:x≠"__name__":=by decide) (hd:(x==("__debug__":Str))=false:=by decide):wpAny (model X.prog X.w) X.A (eval (.Name x pos) X.env) Q E s:=by
 obtain⟨mb,h1,h2⟩:=I.mod.blt;exact Calls.Name_function_global I.ok.kind hg (Calls.loadGlobal_builtin (by rw[I.ok.glob];exact I.mod.glob.keeps I.bk) hm (by rw[I.ok.blt];exact h1.keeps I.bk) ((h2 x hn).trans hv) h) hd
theorem BD{x:Str}{v:V}{u:Value}{pos:Pos}(hg:Gl X x)(hm:X.mg x=some u)(r:aj v u)(hd:(x==("__debug__":Str))=false:=by decide):PE X (.Name x pos) (tC v):=
 λ_ _ _ H _ I h=>yL I hg hm ⟨v,H,I,r,h⟩ hd
theorem gU{x:Str}{v:V}{u:Value}{pos:Pos}(hg:Gl X x)(hm:X.mg x=none)(hv:bootBuiltins x=some u)(r:aj v u)(hn:x≠"__name__":=by decide)(hd:(x==("__debug__":Str))=false:=by decide):PE X (.Name x pos) (tC v):=
 λ_ _ _ H _ I h=>tP I hg hm hv ⟨v,H,I,r,h⟩ hn hd
variable{a b:Expr}{ta tb:TE}{pos:Pos}
noncomputable def tB(t:TE):TT:=λσ H Q=>t σ H λx H1=>∃c,x=.bl c/\Q c H1
theorem HL{e:Expr}{t:TE}(h:PE X e t)(he:∀whole,isTrue e X.env whole=(do let v <- whole;standAt e.pos;holding [v] (truthy v)):=by intro _;rfl):PT X e (tB t):=by
 intro Pp s σ H Q I hw;refine isTrue_plain (bj (h Pp s σ H _ I hw) λv s1 ⟨x,H1,I1,r1,q1⟩=>?_) (he _);obtain⟨d,rfl,q⟩:=q1;cases r1;exact wpAny_truthy_bool ⟨H1,I1,q⟩
variable{tA tB':TT}{rest:List Expr}
noncomputable def Fk(t u:TT):TT:=λσ H Q=>t σ H λc H1=>if c=true then u σ H1 Q else Q false H1
noncomputable def Oi(t u:TT):TT:=λσ H Q=>t σ H λc H1=>if c=true then Q true H1 else u σ H1 Q
noncomputable def Fp(t:TT):TT:=λσ H Q=>t σ H λc H1=>Q (!c) H1
theorem K7(ha:PT X a tA):PW X (.BoolOp .And [a] pos) tA:=by
 intro wh Pp s σ H Q I h;refine isTrue_and (bj (ha Pp s σ H Q I h) λc s1 e=>?_);cases c with
 |true=>exact isTrue_and_nil e
 |false=>exact e
theorem HQ(ha:PT X a tA):PW X (.BoolOp .Or [a] pos) tA:=by
 intro wh Pp s σ H Q I h;refine isTrue_or (bj (ha Pp s σ H Q I h) λc s1 e=>?_);cases c with
 |false=>exact isTrue_or_nil e
 |true=>exact e
theorem HP(ha:PT X a tA)(hb:PW X (.BoolOp .And (b::rest) pos) tB'):PW X (.BoolOp .And (a::b::rest) pos) (Fk tA tB'):=by
 intro wh Pp s σ H Q I h;refine isTrue_and (bj (ha Pp s σ H _ I h) λc s1 ⟨H1,I1,q1⟩=>?_);cases c with
 |true=>exact hb wh Pp s1 σ H1 Q I1 q1
 |false=>exact⟨H1,I1,q1⟩
theorem Hh(ha:PT X a tA)(hb:PW X (.BoolOp .Or (b::rest) pos) tB'):PW X (.BoolOp .Or (a::b::rest) pos) (Oi tA tB'):=by
 intro wh Pp s σ H Q I h;refine isTrue_or (bj (ha Pp s σ H _ I h) λc s1 ⟨H1,I1,q1⟩=>?_);cases c with
 |true=>exact⟨H1,I1,q1⟩
 |false=>exact hb wh Pp s1 σ H1 Q I1 q1
theorem HK(ha:PT X a tA):PT X (.UnaryOp .Not a pos) (Fp tA):=by
 intro Pp s σ H Q I h;exact isTrue_not (ha Pp s σ H (λc H1=>Q (!c) H1) I h)
noncomputable def Gx(ta tb:TE):TE:=λσ H Q=>ta σ H λx H1=>∃c,x=.bl c/\if c=true then tb σ H1 Q else Q (.bl false) H1
noncomputable def Fq(ta tb:TE):TE:=λσ H Q=>ta σ H λx H1=>∃c,x=.bl c/\if c=true then Q (.bl true) H1 else tb σ H1 Q
theorem HA{op}{t:TE}(h:PE X a t):PE X (.BoolOp op [a] pos) t:=λPp s σ H Q I hw=>BoolOp_one (h Pp s σ H Q I hw)
theorem Hw(ha:PE X a ta)(hb:PE X (.BoolOp .And (b::rest) pos) tb):PE X (.BoolOp .And (a::b::rest) pos) (Gx ta tb):=by
 intro Pp s σ H Q I h;refine BoolOp_and (bj (ha Pp s σ H _ I h) λv s1 ⟨x,H1,I1,r1,q1⟩=>?_);obtain⟨c,rfl,q1⟩:=q1;cases r1;refine wpAny_truthy_bool ?_;cases c with
 |true=>exact hb Pp s1 σ H1 Q I1 q1
 |false=>exact⟨.bl false,H1,I1,rfl,q1⟩
theorem Hd(ha:PE X a ta)(hb:PE X (.BoolOp .Or (b::rest) pos) tb):PE X (.BoolOp .Or (a::b::rest) pos) (Fq ta tb):=by
 intro Pp s σ H Q I h;refine BoolOp_or (bj (ha Pp s σ H _ I h) λv s1 ⟨x,H1,I1,r1,q1⟩=>?_);obtain⟨c,rfl,q1⟩:=q1;cases r1;refine wpAny_truthy_bool ?_;cases c with
 |false=>exact hb Pp s1 σ H1 Q I1 q1
 |true=>exact⟨.bl true,H1,I1,rfl,q1⟩
noncomputable def Oj(t:TT)(ta tb:TE):TE:=λσ H Q=>t σ H λc H1=>if c=true then ta σ H1 Q else tb σ H1 Q
theorem LI{c:Expr}(hc:PT X c tA)(ha:PE X a ta)(hb:PE X b tb):PE X (.IfExp c a b pos) (Oj tA ta tb):=by
 intro Pp s σ H Q I h;refine wpAny_IfExp (bj (hc Pp s σ H _ I h) λd s1 ⟨H1,I1,q1⟩=>?_);cases d with
 |true=>exact ha Pp s1 σ H1 Q I1 q1
 |false=>exact hb Pp s1 σ H1 Q I1 q1
end
noncomputable def b_(K:W.Frag)(H:Hp)(a:Addr)(xs:List V):Prop:=
 Rd H a (.lst xs) \/
  ∃(o:Obj) (its:Array Value) (n:Nat),K.lookup a=some o/\o.cls=.type "list"/\o.dict=none/\o.data=.seq its n/\its.size<=sizeLine/\ak xs its.toList
noncomputable def cu(K:W.Frag)(H:Hp)(a:Addr)(xs:List V):Prop:=
 Rd H a (.tup xs) \/
  ∃(o:Obj) (its:Array Value) (n:Nat),K.lookup a=some o/\o.cls=.type "tuple"/\o.data=.seq its n/\its.size<=sizeLine/\ak xs its.toList
noncomputable def EM:Value->Option V
 |.none=>some .non
 |.bool b=>some (.bl b)
 |.int i _=>some (.int i)
 |.str x _=>some (.str x)
 |.bytes b _=>some (.byt b)
 |.float b _=>some (.flt b)
 |.ref a=>some (.ref a)
 |.type n=>some (.ty n)
 |_=>none
theorem aj.abs{x:V}{u:Value}(r:aj x u):EM u=some x:=by
 cases x with
 |non=>cases r;rfl
 |bl _=>cases r;rfl
 |int _=>obtain⟨t,rfl⟩:=r;rfl
 |str _=>obtain⟨t,rfl⟩:=r;rfl
 |byt _=>obtain⟨t,rfl⟩:=r;rfl
 |flt _=>obtain⟨t,rfl⟩:=r;rfl
 |ref _=>cases r;rfl
 |ty _=>cases r;rfl
theorem aj.inj{x y:V}{u:Value}(r:aj x u)(q:aj y u):x=y:=Option.some.inj (r.abs.symm.trans q.abs)
theorem ak.inj:∀{xs ys:List V}{us:List Value},ak xs us->ak ys us->xs=ys
 |_,_,_,.nil,.nil=>rfl
 |_,_,_,.cons r t,.cons r' t'=>by rw[r.inj r',ak.inj t t']
section
variable{X:Cx}{Pp:List (Addr×Obj)}{σ:St}{H:Hp}{s:Shared}{a:Addr}{xs ys:List V}
theorem b_.of{K:W.Frag}(h:H a=some (.lst xs)):b_ K H a xs:=.inl (.inl h)
theorem cu.of{K:W.Frag}(h:H a=some (.tup xs)):cu K H a xs:=.inl (.inl h)
theorem ag.list(I:ag X Pp σ H s)(h:b_ X.K H a xs):∃its:List Value,ak xs its/\PlainL s.heap a its.toArray/\xs.length<=sizeLine:=by
 rcases h with h|⟨o,its,n,hk,hc,hd,hs,hz,r⟩
 ·obtain⟨z,its,n,r,e⟩:=h.ok I.hok;exact⟨its,r,⟨_,n,e,rfl,rfl,rfl⟩,z⟩
 ·refine⟨its.toList,r,⟨o,n,I.kIn a o hk,hc,hd,by simpa using hs⟩,?_⟩;have e:=r.length;simp only[fc]at e;omega
theorem ag.tuple(I:ag X Pp σ H s)(h:cu X.K H a xs):∃its:List Value,ak xs its/\IsTup s.heap a its.toArray/\xs.length<=sizeLine:=by
 rcases h with h|⟨o,its,n,hk,hc,hs,hz,r⟩
 ·obtain⟨z,its,r,p⟩:=h.ok I.hok;exact⟨its,r,p,z⟩
 ·refine⟨its.toList,r,⟨o,I.kIn a o hk,hc,n,by simpa using hs⟩,?_⟩;have e:=r.length;simp only[fc]at e;omega
theorem ag.list_inj(I:ag X Pp σ H s)(h:b_ X.K H a xs)(h':b_ X.K H a ys):xs=ys:=by
 obtain⟨its,r,⟨o,n,e,_,_,d⟩,_⟩:=I.list h;obtain⟨its',r',⟨o',n',e',_,_,d'⟩,_⟩:=I.list h';rw[e]at e';cases e';rw[d]at d';injection d' with d1 _
 have:its=its':=by simpa using congrArg Array.toList d1
 subst this;exact r.inj r'
theorem ag.tuple_inj(I:ag X Pp σ H s)(h:cu X.K H a xs)(h':cu X.K H a ys):xs=ys:=by
 obtain⟨its,r,⟨o,e,_,n,d⟩,_⟩:=I.tuple h;obtain⟨its',r',⟨o',e',_,n',d'⟩,_⟩:=I.tuple h';rw[e]at e';cases e';rw[d]at d';injection d' with d1 _
 have:its=its':=by simpa using congrArg Array.toList d1
 subst this;exact r.inj r'
end
noncomputable abbrev Cx.wish(X:Cx)(E:Value->Shared->Prop):Cx:={X with xe:=E}
noncomputable abbrev Cx.nox(X:Cx):Cx:=X.wish λ_ _=>False
theorem Cx.Ok.wish{X:Cx}(ok:X.Ok)(E:Value->Shared->Prop):(X.wish E).Ok:=
 ⟨ok.mod,ok.kind,ok.glob,ok.blt,ok.above,ok.inj,ok.has,ok.cab,ok.hd,ok.frames,ok.stk,ok.exf,ok.bs,ok.bsz,ok.noex,ok.exfs,ok.funs,ok.frf⟩
theorem Cx.Ok.unwish{X:Cx}{E:Value->Shared->Prop}(ok:(X.wish E).Ok):X.Ok:=
 ⟨ok.mod,ok.kind,ok.glob,ok.blt,ok.above,ok.inj,ok.has,ok.cab,ok.hd,ok.frames,ok.stk,ok.exf,ok.bs,ok.bsz,ok.noex,ok.exfs,ok.funs,ok.frf⟩
section
variable{X:Cx}{Pp:List (Addr×Obj)}{σ:St}{H:Hp}{s:Shared}{E:Value->Shared->Prop}
theorem ag.wish(I:ag X Pp σ H s)(E:Value->Shared->Prop):ag (X.wish E) Pp σ H s:=⟨I.ok.wish E,I.os,I.bare,I.base,I.loc,I.cell,I.free,I.freeC,I.pin,I.hok,I.len⟩
theorem ag.unwish(I:ag (X.wish E) Pp σ H s):ag X Pp σ H s:=⟨I.ok.unwish,I.os,I.bare,I.base,I.loc,I.cell,I.free,I.freeC,I.pin,I.hok,I.len⟩
theorem SP.unwish{D:mN}{f:Flow}{s':Shared}(h:SP (X.wish E) Pp D f s'):SP X Pp D f s':=by
 cases f with
 |next=>obtain⟨σ',H',I,q⟩:=h;exact⟨σ',H',I.unwish,q⟩
 |brk=>obtain⟨σ',H',I,q⟩:=h;exact⟨σ',H',I.unwish,q⟩
 |cont=>obtain⟨σ',H',I,q⟩:=h;exact⟨σ',H',I.unwish,q⟩
 |ret u=>obtain⟨v,σ',H',I,r,q⟩:=h;exact⟨v,σ',H',I.unwish,r,q⟩
theorem iq.nox{st:List Stmt}{t:TS}(h:iq X.nox st t):iq X st t:=λPp s σ H D I hw=>
 wpAny_mono (h Pp s σ H D (I.wish _) hw) (λ_ _ q=>q.unwish) λ_ _ z=>False.elim z
end
section
variable{X:Cx}{st:Stmt}{rest:List Stmt}{t u:TS}{e:Expr}{te:TE}{pos:Pos}
noncomputable def Gz:TS:=λD σ H=>D.nx σ H
noncomputable def Fu(t u:TS):TS:=λD σ H=>t {D with nx:=u D} σ H
theorem yC:iq X [] Gz:=λ_ _ σ H _ I h=>wpAny_execs_nil ⟨σ,H,I,h⟩
theorem iZ(h1:PS X st t)(h2:iq X rest u):iq X (st::rest) (Fu t u):=by
 intro Pp s σ H D I h;refine wpAny_execs_cons (bj (h1 Pp s σ H {D with nx:=u D} I h) λf s1 q=>?_);cases f with
 |next=>
  obtain⟨σ',H',I',q⟩:=q;exact h2 Pp s1 σ' H' D I' q
 |ret v=>exact q
 |brk=>exact q
 |cont=>exact q
theorem nF(h1:PS X st t):iq X [st] t:=by
 intro Pp s σ H D I h;refine wpAny_execs_cons (bj (h1 Pp s σ H D I h) λf s1 q=>?_);cases f with
 |next=>exact wpAny_execs_nil q
 |ret v=>exact q
 |brk=>exact q
 |cont=>exact q
theorem ag.quiet{Pp:List (Addr×Obj)}{σ:St}{H:Hp}{s:Shared}(I:ag X Pp σ H s):interactive X.env=false:=by simp[interactive,I.ok.kind]
noncomputable def Gy(te:TE):TS:=λD σ H=>te σ H λ_ H1=>D.nx σ H1
theorem BJ(he:PE X e te)(hs:swapsWith e none pos.line X.env=pure false:=by rfl):PS X (.Expr e pos) (Gy te):=by
 intro Pp s σ H D I h;exact wpAny_Expr_any (bj (he Pp s σ H _ I h) λv s1 ⟨x,H1,I1,r1,q1⟩=>⟨σ,H1,I1,q1⟩) I.quiet hs
noncomputable def Fs(te:TE):TS:=λD σ H=>te σ H D.rt
theorem nQ(he:PE X e te):PS X (.Return (some e) pos) (Fs te):=by
 intro Pp s σ H D I h;exact wpAny_Return_some (bj (he Pp s σ H _ I h) λv s1 ⟨x,H1,I1,r1,q1⟩=>⟨x,σ,H1,I1,r1,q1⟩)
noncomputable def Fo(c:TT)(t u:TS):TS:=λD σ H=>c σ H λb H1=>if b=true then t D σ H1 else u D σ H1
theorem zP{c:Expr}{a b:List Stmt}{tc:TT}(hc:PT X c tc)(ha:iq X a t)(hb:iq X b u):PS X (.If c a b pos) (Fo tc t u):=by
 intro Pp s σ H D I h;refine wpAny_If (bj (hc Pp s σ H _ I h) λd s1 ⟨H1,I1,q1⟩=>?_);cases d with
 |true=>exact ha Pp s1 σ H1 D I1 q1
 |false=>exact hb Pp s1 σ H1 D I1 q1
noncomputable def Jt:TS:=λ_ _ _=>False
theorem MP{sts:List Stmt}:iq X sts Jt:=λ_ _ _ _ _ _ h=>h.elim
end
noncomputable abbrev TG:=V->St->Hp->(St->Hp->Prop)->Prop
noncomputable def PG(X:Cx)(target:Expr)(t:TG):Prop:=
 ∀(Pp:List (Addr×Obj)) (s:Shared) (σ:St) (H:Hp) (v:V) (u:Value) (Q:St->Hp->Prop),ag X Pp σ H s->aj v u->t v σ H Q ->
  wpAny (model X.prog X.w) X.A (assign target X.env u) (λ_ s'=>∃σ' H',ag X Pp σ' H' s'/\Q σ' H') X.xe s
noncomputable abbrev u3:=V->V->V->Hp->(Hp->Prop)->Prop
noncomputable def xa(X:Cx)(t:u3):Prop:=
 ∀(Pp:List (Addr×Obj)) (s:Shared) (σ:St) (H:Hp) (o i v:V) (ov iv u:Value) (Q:Hp->Prop),ag X Pp σ H s->aj o ov->aj i iv->aj v u->t o i v H Q ->
  wpAny (model X.prog X.w) X.A (setItem ov iv u) (λ_ s'=>∃H',ag X Pp σ H' s'/\Q H') X.xe s
section
variable{X:Cx}{pos:Pos}
noncomputable def uI(i:Nat):TG:=λv σ H Q=>Q (σ.set i (some v)) H
theorem K1{i:Nat}{x:Str}(hN:X.N.Nodup)(hi:X.N[i]?=some x)(hx:kz X.env.scope x)(hf:X.fn x=true\/X.env.scope.names.lookup x=some .local:=by first|exact .inl rfl|exact .inr rfl|assumption):PG X (.Name x pos) (uI i):=by
 intro Pp s σ H v u Q I r h;exact wpAny_assign_Name (Dg I hN hi hx r (λs' I'=>⟨_,H,I',h⟩) hf)
noncomputable def FM(to ti:TE)(t:u3):TG:=λv σ H Q=>to σ H λo H1=>ti σ H1 λi H2=>t o i v H2 λH3=>Q σ H3
theorem HG{o i:Expr}{to ti:TE}{t:u3}(ho:PE X o to)(hi:PE X i ti)(hs:xa X t)
  (ha:∀v,assign (.Subscript o i pos) X.env v=(do
   let ov <- holding [v] (eval o X.env)
   let iv <- holding [v,ov] (eval i X.env)
   standAt pos
   holding [v,ov,iv] (setItem ov iv v)
   release [v,ov,iv] []):=by intro _;rfl):PG X (.Subscript o i pos) (FM to ti t):=by
 intro Pp s σ H v u Q I r h;rw[ha];refine af (i5 (bj (ho Pp s σ H _ I h) λov s1 ⟨x,H1,I1,r1,q1⟩=>?_));refine af (i5 (bj (hi Pp s1 σ H1 _ I1 q1) λiv s2 ⟨y,H2,I2,r2,q2⟩=>?_));refine af (wpAny_standAt (af (i5 (bj (hs Pp s2 σ H2 x y v ov iv u _ I2 r1 r2 r q2) λ_ s3 ⟨H3,I3,q3⟩=>?_))));exact wpAny_release ⟨σ,H3,I3,q3⟩
noncomputable def uO(te:TE)(g:TG):TS:=λD σ H=>te σ H λx H1=>g x σ H1 D.nx
theorem HI{tg e:Expr}{te:TE}{g:TG}(he:PE X e te)(hg:PG X tg g)(hs:swapsWithSole [tg] e pos.line X.env=pure false:=by rfl)(hw:swappedStores [tg] e X.env=pure none:=by rfl)
  (h1:(assignEach [tg] X.env).map (·.2)=[assign tg X.env]:=by rfl):PS X (.Assign [tg] e pos) (uO te g):=by
 intro Pp s σ H D I h;refine wpAny_Assign_stores (bj (he Pp s σ H _ I h) λv s1 ⟨x,H1,I1,r1,q1⟩=>?_) hs hw;rw[h1];exact bj (hg Pp s1 σ H1 x v _ I1 r1 q1) λ_ s2 q=>q
theorem kP{i:Nat}{x:Str}{e:Expr}{te:TE}{pos':Pos}(hN:X.N.Nodup)(hi:X.N[i]?=some x)(hx:kz X.env.scope x)(he:PE X e te)(hs:swapsWith e (some (.Name x pos')) pos.line X.env=pure false:=by rfl)(hf:X.fn x=true\/X.env.scope.names.lookup x=some .local:=by first|exact .inl rfl|exact .inr rfl|assumption):
  PS X (.Assign [.Name x pos'] e pos) (uO te (uI i)):=by
 intro Pp s σ H D I h;refine wpAny_Assign_Name (bj (he Pp s σ H _ I h) λv s1 ⟨y,H1,I1,r1,q1⟩=>?_) hs;exact Dg I1 hN hi hx r1 (λs2 I2=>⟨_,H1,I2,q1⟩) hf
noncomputable def Ju(c:TT)(tb:TS):TS:=λD σ H=>∃W:Nat->St->Hp->Prop,(∃m,W m σ H)/\∀m σ H,W m σ H ->
 c σ H λb H1=>if b=true then ∃N:St->Hp->Prop,(∀σ' H',N σ' H'->∃m',m'<m/\W m' σ' H')/\tb {D with nx:=N,ct:=N,bk:=D.nx} σ H1 else D.nx σ H1
theorem LM{c:Expr}{body:List Stmt}{tc:TT}{tb:TS}(hp:PassesOwn (model X.prog X.w) X.A X.env X.xe)(hc:PT X c tc)(hb:iq X body tb):PS X (.While c body [] pos) (Ju tc tb):=by
 intro Pp s σ H D I h;obtain⟨W,⟨m0,w0⟩,turn⟩:=h;refine wpAny_While (codeAny_whileLoop (λn s'=>∃σ' H',ag X Pp σ' H' s'/\W n σ' H') ?_ m0 ⟨σ,H,I,w0⟩);rintro n s1 ⟨σ1,H1,I1,w1⟩;refine wpAny_passesOwn hp (bj (hc Pp s1 σ1 H1 _ I1 (turn n σ1 H1 w1)) λb s2 ⟨H2,I2,q2⟩=>?_);cases b with
 |true=>
  obtain⟨N,hN,q2⟩:=q2;rw[if_pos rfl];refine wpAny_passesOwn hp (bj (hb Pp s2 σ1 H2 _ I2 q2) λf s3 q3=>?_);cases f with
  |next=>
   obtain⟨σ3,H3,I3,n3⟩:=q3;obtain⟨m',hm,w3⟩:=hN σ3 H3 n3;exact⟨m',hm,σ3,H3,I3,w3⟩
  |cont=>
   obtain⟨σ3,H3,I3,n3⟩:=q3;obtain⟨m',hm,w3⟩:=hN σ3 H3 n3;exact⟨m',hm,σ3,H3,I3,w3⟩
  |brk=>exact q3
  |ret v=>exact q3
 |false=>
  rw[if_neg b9];exact wpAny_execs_nil ⟨σ1,H2,I2,q2⟩
end
structure It where
 go:Nat->Hp->Prop
 yld:Nat->Hp->V->Hp->Prop
 stop:Nat->Hp->Prop
noncomputable def iB(X:Cx)(Pp:List (Addr×Obj))(H:Hp)(b:Addr):Prop:=
 H b=none/\b≠X.env.locals/\b∉X.fs/\(b∈X.ex\/X.s₀.heap.objs.size<=b)/\(∀x c,X.env.cells.lookup x=some c->c≠b)/\∀p∈X.pn++Pp,p.1≠b
theorem ag.fpOk{X:Cx}{Pp:List (Addr×Obj)}{σ:St}{H H':Hp}{s:Shared}{b:Addr}(I:ag X Pp σ H s)(hb:s.heap.objs.size<=b)(hn:H' b=none):iB X Pp H' b:=by
 refine⟨hn,j0 (dz I.lt hb),I.nofs hb,.inr (bu I.sz hb),λx c e z=>?_,λp hp z=>?_⟩
 ·obtain⟨v,q⟩:=I.cell x c e;exact absurd (dz q.lt (by rw[z];exact hb)) (g_ _)
 ·exact absurd (dz (b5 (I.pin p hp).1) (by rw[z];exact hb)) (g_ _)
structure lG (P:Program) (w:World) (K:W.Frag) (tg:Expr) (J:It) (fp:List Addr) (it:Addr) (tn:Nat->Heap->Prop):Prop where
 mem:it∈fp
 obj:∀i h,tn i h->∀b∈fp,∃o,h.get? b=some o/\∀v,o.data≠.cell v
 keep:∀i h h',tn i h->(∀b∈fp,∀o,h.get? b=some o->h'.get? b=some o)->tn i h'
 item:∀(X:Cx),X.prog=P->X.w=w->X.K=K->X.calm=true->∀(i:Nat) (Pp:List (Addr×Obj)) (s:Shared) (σ:St) (H:Hp) (E:Value->Shared->Prop),ag X Pp σ H s->(∀b∈fp,iB X Pp H b)->tn i s.heap->J.go i H ->
  wpAny (model P w) X.A (pyNext (.ref it)) (λr s1=>∃u,r=some u /\
   wpAny (model P w) X.A (letOwnedTupleGo tg (.ref it) u) (λ_ s2=>∃x H',ag X Pp σ H' s2/\aj x u/\J.yld i H x H'/\tn (i+1) s2.heap/\∀b∈fp,H' b=none) E s1) E s
 done:∀(X:Cx),X.prog=P->X.w=w->X.K=K->X.calm=true->∀(i:Nat) (Pp:List (Addr×Obj)) (s:Shared) (σ:St) (H:Hp) (E:Value->Shared->Prop),ag X Pp σ H s->(∀b∈fp,iB X Pp H b)->tn i s.heap->J.stop i H ->
  wpAny (model P w) X.A (pyNext (.ref it)) (λr s1=>r=none/\ag X Pp σ H s1) E s
 self:∀(A:Around) (i:Nat) (s:Shared) (Q:Value->Shared->Prop) (E:Value->Shared->Prop),tn i s.heap->Q (.ref it) s->wpAny (model P w) A (pyIter (.ref it)) Q E s
noncomputable abbrev TI:=St->Hp->(It->Hp->Prop)->Prop
noncomputable def wx(X:Cx)(Pp:List (Addr×Obj))(σ:St)(tg:Expr)(R:It->Hp->Prop)(itv:Value)(s2:Shared):Prop:=
 ∃(it:Addr) (fp:List Addr) (tn:Nat->Heap->Prop) (J:It) (H':Hp),itv=.ref it/\ag X Pp σ H' s2/\lG X.prog X.w X.K tg J fp it tn/\tn 0 s2.heap/\(∀b∈fp,iB X Pp H' b)/\R J H'
noncomputable def PI(X:Cx)(tg iter:Expr)(wi:TI):Prop:=
 ∀(Pp:List (Addr×Obj)) (s:Shared) (σ:St) (H:Hp) (R:It->Hp->Prop),ag X Pp σ H s->wi σ H R ->
  wpAny (model X.prog X.w) X.A (eval iter X.env) (λv s1=>wpAny (model X.prog X.w) X.A (pyIter v) (wx X Pp σ tg R) X.xe s1) X.xe s
theorem nZ{M:Model}{A:Around}{E:Value->Shared->Prop}{s:Shared}{tg:Expr}{it:Addr}{u:Value}{o:Obj}{n:String}{vs:Array Value}{Q:Unit->Shared->Prop}(ho:s.heap.get? it=some o)(hc:o.cls=.type n)(hd:o.data=.fields vs)
    (hn:["enumerate","zip","dict_itemiterator","dict_reverseitemiterator","odict_iterator","itertools.zip_longest","itertools.pairwise"].contains n=false) (hQ:Q () s):wpAny M A (letOwnedTupleGo tg (.ref it) u) Q E s:=by
  unfold letOwnedTupleGo;cases tg<;>first
    |exact ao hQ
    |(cases u<;>first
        |exact ao hQ
        | (refine af (wpAny_load ho ?_)
           rw[hc,hd];show wpAny M A (if (["enumerate","zip","dict_itemiterator","dict_reverseitemiterator","odict_iterator","itertools.zip_longest","itertools.pairwise"].contains n&&vs[0]? == some (rawInt _))=true then _ else _) Q E s;rw[if_neg (by intro h;rw[hn,fw]at h;cases h)]
           exact ao hQ))
noncomputable def wz(K:W.Frag)(a:Addr):It:=
 ⟨λi H=>∃xs x,b_ K H a xs/\xs[i]?=some x,λi H x H'=>H'=H/\∀xs,b_ K H a xs->xs[i]?=some x,λi H=>∃xs,b_ K H a xs/\xs.length<=i⟩
noncomputable def wy(K:W.Frag)(a:Addr):It:=
 ⟨λi H=>∃xs x,cu K H a xs/\xs[i]?=some x,λi H x H'=>H'=H/\∀xs,cu K H a xs->xs[i]?=some x,λi H=>∃xs,cu K H a xs/\xs.length<=i⟩
noncomputable def uy(lo:Int)(n:Nat):It:=⟨λi _=>i<n,λi H x H'=>H'=H/\x=.int (lo+i),λi _=>n<=i⟩
theorem Me{P:Program}{w:World}{K:W.Frag}{tg:Expr}(a it:Addr):lG P w K tg (wz K a) [it] it (λi h=>h.IsListIter it a i) where
 mem:=by simp
 obj:=λi h st b hb=>by
  have e:b=it:=by simpa using hb
  subst e;obtain⟨o,e,c,d⟩:=st;exact⟨o,e,λv z=>by rw[d]at z;cases z⟩
 keep:=λi h h' st k=>st.at λo e=>k it (by simp) o e
 item:=by
  intro X hP hw hK hc i Pp s σ H E I hf st hg;subst hP hw hK;obtain⟨xs,x,hq,hx⟩:=hg;obtain⟨its,rv,p,hz⟩:=I.list hq;obtain⟨u,hu,ru⟩:=rv.get hx;obtain⟨f0,f1,f2,f3,f4,f5⟩:=hf it (by simp);refine wpAny_pyNext_list_item st p.isList (x:=u) (by simpa using hu) λh' st' sb=>?_
  have I1:ag X Pp σ H {s with heap:=h'}:=I.turned (t':=s.toks) (λb o hb e=>(sb.2 b hb).trans e) f0 f1 f3 f4 f5;obtain⟨o,e,c,d⟩:=id st';exact⟨u,rfl,nZ (s:={s with heap:=h'}) e c d (by decide) ⟨x,H,I1,ru,⟨rfl,λys hy=>by rw[I.list_inj hy hq];exact hx⟩,st',λb hb=>(hf b hb).1⟩⟩
 done:=by
  intro X hP hw hK hc i Pp s σ H E I hf st hg;subst hP hw hK;obtain⟨xs,hq,hx⟩:=hg;obtain⟨its,rv,p,hz⟩:=I.list hq;obtain⟨f0,f1,f2,f3,f4,f5⟩:=hf it (by simp);have hl:=rv.length;exact wpAny_pyNext_list_end (I.ok.hd hc) st p.isList (by simp;omega) λh' eb=>⟨rfl,I.turned (t':=s.toks) (λb o hb e=>eb b o hb e) f0 f1 f3 f4 f5⟩
 self:=λ_ _ _ _ _ st h=>wpAny_pyIter_listiter st h
theorem Nx{P:Program}{w:World}{K:W.Frag}{tg:Expr}(a it:Addr):lG P w K tg (wy K a) [it] it (λi h=>h.IsTupleIter it a i) where
 mem:=by simp
 obj:=λi h st b hb=>by
  have e:b=it:=by simpa using hb
  subst e;obtain⟨o,e,c,d⟩:=st;exact⟨o,e,λv z=>by rw[d]at z;cases z⟩
 keep:=λi h h' st k=>st.at λo e=>k it (by simp) o e
 item:=by
  intro X hP hw hK hc i Pp s σ H E I hf st hg;subst hP hw hK;obtain⟨xs,x,hq,hx⟩:=hg;obtain⟨its,rv,p,hz⟩:=I.tuple hq;obtain⟨u,hu,ru⟩:=rv.get hx;obtain⟨f0,f1,f2,f3,f4,f5⟩:=hf it (by simp);refine wpAny_pyNext_tuple_item st (show s.heap.IsTuple a its.toArray from p) (x:=u) (by simpa using hu) λh' st' sb=>?_
  have I1:ag X Pp σ H {s with heap:=h'}:=I.turned (t':=s.toks) (λb o hb e=>(sb.2 b hb).trans e) f0 f1 f3 f4 f5;obtain⟨o,e,c,d⟩:=id st';exact⟨u,rfl,nZ (s:={s with heap:=h'}) e c d (by decide) ⟨x,H,I1,ru,⟨rfl,λys hy=>by rw[I.tuple_inj hy hq];exact hx⟩,st',λb hb=>(hf b hb).1⟩⟩
 done:=by
  intro X hP hw hK hc i Pp s σ H E I hf st hg;subst hP hw hK;obtain⟨xs,hq,hx⟩:=hg;obtain⟨its,rv,p,hz⟩:=I.tuple hq;obtain⟨f0,f1,f2,f3,f4,f5⟩:=hf it (by simp);have hl:=rv.length;exact wpAny_pyNext_tuple_end (I.ok.hd hc) st (show s.heap.IsTuple a its.toArray from p) (by simp;omega) λh' eb=>⟨rfl,I.turned (t':=s.toks) (λb o hb e=>eb b o hb e) f0 f1 f3 f4 f5⟩
 self:=λ_ _ _ _ _ st h=>wpAny_pyIter_tupleiter st h
theorem Nw{P:Program}{w:World}{K:W.Frag}{tg:Expr}(it:Addr)(lo:Int)(n:Nat):lG P w K tg (uy lo n) [it] it (λi h=>IsRangeIter h it (lo+(i:Nat)*1) ((n:Int)-(i:Nat)) 1) where
 mem:=by simp
 obj:=λi h st b hb=>by
  have e:b=it:=by simpa using hb
  subst e
  exact⟨_,st,λv z=>by
   have z':Data.fields _=Data.cell v:=z
   cases z'⟩
 keep:=λi h h' st k=>k it (by simp) _ st
 item:=by
  intro X hP hw hK hc i Pp s σ H E I hf st hg;subst hP hw hK;obtain⟨f0,f1,f2,f3,f4,f5⟩:=hf it (by simp);have W:=Walks.range (prog:=X.prog) (w:=X.w) (I.ok.hd hc) it lo 1 n;refine W.item i s _ _ hg st λv h' tk hv st' kk=>?_
  obtain⟨t,rfl⟩:=hv;have I1:ag X Pp σ H {s with heap:=h',toks:=tk}:=I.turned (λb o hb e=>kk b o (by simpa using hb) e) f0 f1 f3 f4 f5;refine⟨_,rfl,nZ (s:={s with heap:=h',toks:=tk}) (n:="range_iterator") st' rfl rfl (by decide) ⟨.int (lo+i),H,I1,⟨t,?_⟩,⟨rfl,rfl⟩,st',λb hb=>(hf b hb).1⟩⟩;rw[Int.mul_one]
 done:=by
  intro X hP hw hK hc i Pp s σ H E I hf st hg;subst hP hw hK;obtain⟨f0,f1,f2,f3,f4,f5⟩:=hf it (by simp);exact wpAny_pyNext_range_end (I.ok.hd hc) st (by have:n<=i:=hg;omega) λh' eb=>⟨rfl,I.turned (t':=s.toks) (λb o hb e=>eb b o hb e) f0 f1 f3 f4 f5⟩
 self:=λ_ _ _ _ _ st h=>wpAny_pyIter_rangeiter st h
section
variable{X:Cx}{tg:Expr}
theorem LS{Pp:List (Addr×Obj)}{σ:St}{H:Hp}{s:Shared}{R:It->Hp->Prop}{E:Value->Shared->Prop}{lo hi:Int}{t u v:Tok}{tk:Nat}(I:ag X Pp σ H s)(h1:-(2 ^ 62)<=lo)(h2:lo<2 ^ 62)(h3:-(2 ^ 62)<=hi)(h4:hi<2 ^ 62)
  (q:R (uy lo (hi-lo).toNat) H):wpAny (model X.prog X.w) X.A (pyIter (.ref s.heap.objs.size)) (wx X Pp σ tg R) E {s with heap:=s.heap.push {cls:=.type "range",data:=.fields #[.int lo t,.int hi u,.int 1 v]},toks:=tk}:=by
 refine wpAny_pyIter_range (IsRange.new ..) (small_one h1 h2 h3 h4) ?_;have I1:ag X Pp σ H {s with heap:=s.heap.push {cls:=.type "range",data:=.fields #[.int lo t,.int hi u,.int 1 v]},toks:=tk}:=I.kept λb o e=>b6 _ e
 refine⟨(s.heap.push {cls:=.type "range",data:=.fields #[.int lo t,.int hi u,.int 1 v]}).objs.size,[(s.heap.push {cls:=.type "range",data:=.fields #[.int lo t,.int hi u,.int 1 v]}).objs.size],_,_,H,rfl,
  I1.kept (t':=tk) λb o e=>b6 _ e,Nw _ lo (hi-lo).toNat,?_,λb hb=>?_,q⟩
 ·have e1:lo+((0:Nat):Int)*1=lo:=by simp
  have e2:(((hi-lo).toNat:Nat):Int)-((0:Nat):Int)=Builtin.Range.rangeSize lo hi 1:=by rw[rangeSize_one];split<;>omega
  show IsRangeIter _ _ (lo+((0:Nat):Int)*1) ((((hi-lo).toNat:Nat):Int)-((0:Nat):Int)) 1;rw[e1,e2];exact cy _ rfl
 ·have e:b=(s.heap.push {cls:=.type "range",data:=.fields #[.int lo t,.int hi u,.int 1 v]}).objs.size:=by simpa using hb
  subst e;exact I1.fpOk (bp _) (I1.hok.fresh (bp _))
noncomputable def GR(ta:TA):TI:=λσ H R=>ta σ H λvs H1=>∃j:Int,vs=[.int j] /\ -(2 ^ 62)<=j/\j<2 ^ 62/\R (uy 0 j.toNat) H1
theorem MN{a:Expr}{ta:TA}{p pos:Pos}(hg:Gl X "range")(hm:X.mg "range"=none)(ha:PA X [a] ta)(hs:starEach [a] X.env=[(false,eval a X.env)]:=by rfl):PI X tg (.Call (.Name "range" p) [a] [] pos) (GR ta):=by
 intro Pp s σ H R I h;refine Call_ (tP I hg hm boot_range (PyProof.Rows.callWith_type1 (bj (ha pos Pp s σ H _ I h) λus s1 ⟨vs,H1,I1,r1,q1⟩=>?_) hs rfl));obtain⟨j,e,q1,q2,q⟩:=q1;subst e;cases r1 with
 |cons r rr=>
  cases rr;obtain⟨t,rfl⟩:=r;exact call_range_1 (LS I1 (by omega) (by omega) q1 q2 (by simpa using q))
noncomputable def Fn(wi:TI)(g:TG)(tb:TS):TS:=λD σ H=>wi σ H λJ H1=>∃W:Nat->Nat->St->Hp->Prop,(∃m,W 0 m σ H1)/\∀i m σ H,W i m σ H ->
 (J.stop i H/\D.nx σ H)\/(J.go i H/\∃N:St->Hp->Prop,(∀σ' H',N σ' H'->∃m',m'<m/\W (i+1) m' σ' H')/\∀x H',J.yld i H x H'->g x σ H' λσ2 H2=>tb {D with nx:=N,ct:=N,bk:=D.nx} σ2 H2)
noncomputable def pY(fp:List Addr)(h:Heap):List (Addr×Obj):=fp.filterMap λb=>(h.get? b).map λo=>(b,o)
theorem rJ{fp:List Addr}{h:Heap}{b:Addr}{o:Obj}(hb:b∈fp)(e:h.get? b=some o):(b,o)∈pY fp h:=qT_.mpr ⟨b,hb,by rw[e];rfl⟩
theorem MI{fp:List Addr}{h:Heap}{p:Addr×Obj}(hp:p∈pY fp h):p.1∈fp/\h.get? p.1=some p.2:=by
 obtain⟨b,hb,e⟩:=qT_.mp hp;cases q:h.get? b with
 |none=>rw[q]at e;cases e
 |some o=>
  rw[q]at e;have e':(b,o)=p:=Option.some.inj e;subst e';exact⟨hb,q⟩
theorem ag.pinned{Pp:List (Addr×Obj)}{σ:St}{H:Hp}{s:Shared}{fp:List Addr}(I:ag X Pp σ H s)(hf:∀b∈fp,iB X Pp H b)(ho:∀b∈fp,∃o,s.heap.get? b=some o/\∀v,o.data≠.cell v):ag X (Pp++pY fp s.heap) σ H s:=
 I.pins_of λp hp=>(qr_.mp hp).elim (λz=>I.pin p (de _ z)) λz=>by
  obtain⟨hb,e⟩:=MI z;obtain⟨f0,f1,f2,_⟩:=hf p.1 hb;obtain⟨o,e',d⟩:=ho p.1 hb;rw[e]at e';cases e';exact⟨e,f0,f1,f2,d⟩
theorem ag.unpinned{Pp pl:List (Addr×Obj)}{σ:St}{H:Hp}{s:Shared}(I:ag X (Pp++pl) σ H s):ag X Pp σ H s:=I.pins_of λp hp=>I.pin p (de _ (fe _ hp))
theorem HJ{iter:Expr}{body:List Stmt}{wi:TI}{g:TG}{tb:TS}{pos:Pos}(hp:PassesOwn (model X.prog X.w) X.A X.env X.xe)(hc:X.calm=true)(hi:PI X tg iter wi)(hg:PG X tg g)(hb:iq X body tb)
  (hs:∀x,foldedSetIterable iter X.env x=pure x:=by intro _;rfl):PS X (.For tg iter body [] pos) (Fn wi g tb):=by
 intro Pp s σ H D I h;refine wpAny_For (bj (hi Pp s σ H _ I h) λv s1 h1=>bj h1 λitv s2 h2=>?_) hs;obtain⟨it,fp,tn,J,H2,e,I2,T,st2,f2,W,⟨m0,w0⟩,turn⟩:=h2;subst e
 -- what stays true of the iterator's objects through the loop
 have stat:∀{H':Hp},(∀b∈fp,H' b=none)->∀b∈fp,iB X Pp H' b:=λhn b hb=>⟨hn b hb,(f2 b hb).2⟩
 refine codeAny_forLoop_any (λn s'=>∃i σ' H',ag X Pp σ' H' s'/\tn i s'.heap/\(∀b∈fp,H' b=none)/\W i n σ' H') ?_ m0 ⟨0,σ,H2,I2,st2,λb hb=>(f2 b hb).1,w0⟩;rintro n s3 ⟨i,σ3,H3,I3,st3,fr3,w3⟩;rcases turn i n σ3 H3 w3 with⟨stop,qn⟩|⟨go,N,hN,step⟩
 ·refine wpAny_passesOwn hp (bj (T.done X rfl rfl rfl hc i Pp s3 σ3 H3 X.xe I3 (stat fr3) st3 stop) λr s4 ⟨hr,I4⟩=>?_);subst hr;exact wpAny_execs_nil ⟨σ3,H3,I4,qn⟩
 ·refine wpAny_passesOwn hp (bj (T.item X rfl rfl rfl hc i Pp s3 σ3 H3 X.xe I3 (stat fr3) st3 go) λr s4 ⟨u,hr,h4⟩=>?_);subst hr;refine wpAny_passesOwn hp (bj h4 λ_ s5 ⟨x,H5,I5,r5,y5,st5,fr5⟩=>?_);have I5':=I5.pinned (stat fr5) (T.obj _ _ st5);refine wpAny_passesOwn hp (bj (hg _ s5 σ3 H5 x u _ I5' r5 (step x H5 y5)) λ_ s6 ⟨σ6,H6,I6,q6⟩=>?_);refine wpAny_passesOwn hp (bj (hb _ s6 σ6 H6 _ I6 q6) λf s7 q7=>?_);have again:∀{σ7:St} {H7:Hp},ag X (Pp++pY fp s5.heap) σ7 H7 s7->N σ7 H7->∃m,m<n/\∃i σ' H',ag X Pp σ' H' s7/\tn i s7.heap/\(∀b∈fp,H' b=none)/\W i m σ' H':=λ{σ7 H7} I7 n7=>by
   obtain⟨m',hm,w7⟩:=hN σ7 H7 n7;refine⟨m',hm,i+1,σ7,H7,I7.unpinned,T.keep _ _ _ st5 λb hb o e=>(I7.pin (b,o) (de _ (de _ (rJ hb e)))).1,λb hb=>?_,w7⟩;obtain⟨o,e,d⟩:=T.obj _ _ st5 b hb;exact(I7.pin (b,o) (de _ (de _ (rJ hb e)))).2.1
  cases f with
  |next=>obtain⟨σ7,H7,I7,n7⟩:=q7;exact again I7 n7
  |cont=>obtain⟨σ7,H7,I7,n7⟩:=q7;exact again I7 n7
  |brk=>obtain⟨σ7,H7,I7,q7⟩:=q7;exact⟨σ7,H7,I7.unpinned,q7⟩
  |ret v=>obtain⟨x7,σ7,H7,I7,r7,q7⟩:=q7;exact⟨x7,σ7,H7,I7.unpinned,r7,q7⟩
end
noncomputable abbrev R2:=V->V->Hp->VK->Prop
noncomputable def cf(X:Cx)(f:Value->Value->Sem Value)(r:R2):Prop:=
 ∀(Pp:List (Addr×Obj)) (s:Shared) (σ:St) (H:Hp) (x y:V) (v u:Value) (Q:VK),ag X Pp σ H s->aj x v->aj y u->r x y H Q ->
  wpAny (model X.prog X.w) X.A (f v u) (EP X Pp σ Q) X.xe s
noncomputable def ur(X:Cx)(f:Value->Sem Value)(r:V->Hp->VK->Prop):Prop:=
 ∀(Pp:List (Addr×Obj)) (s:Shared) (σ:St) (H:Hp) (x:V) (v:Value) (Q:VK),ag X Pp σ H s->aj x v->r x H Q ->
  wpAny (model X.prog X.w) X.A (f v) (EP X Pp σ Q) X.xe s
noncomputable def au(X:Cx)(f:Value)(r:List V->Hp->VK->Prop):Prop:=
 ∀(Pp:List (Addr×Obj)) (s:Shared) (σ:St) (H:Hp) (xs:List V) (us:List Value) (Q:VK),ag X Pp σ H s->ak xs us->r xs H Q ->
  wpAny (model X.prog X.w) X.A (call f us) (EP X Pp σ Q) X.xe s
noncomputable def r9(r:R2)(ta tb:TE):TE:=λσ H Q=>ta σ H λx H1=>tb σ H1 λy H2=>r x y H2 Q
noncomputable def Og(r:V->Hp->VK->Prop)(ta:TE):TE:=λσ H Q=>ta σ H λx H1=>r x H1 Q
noncomputable def rI(C:Int->Int->Prop)(g:Int->Int->V):R2:=λx y H Q=>∃i j,x=.int i/\y=.int j/\C i j/\Q (g i j) H
noncomputable def o_(g:Int->Int->V):R2:=λx y H Q=>∃i j,x=.int i/\y=.int j/\Q (g i j) H
noncomputable def rU(g:Int->V):V->Hp->VK->Prop:=λx H Q=>∃i,x=.int i/\Q (g i) H
section
variable{X:Cx}{a b c:Expr}{ta tb tc:TE}{pos:Pos}
theorem u4(ha:PE X a ta)(hb:PE X b tb){Pp:List (Addr×Obj)}{s:Shared}{σ:St}{H:Hp}{R:V->V->Hp->Prop}(I:ag X Pp σ H s)
  (h:ta σ H λx H1=>tb σ H1 λy H2=>R x y H2) {Q:Value->Shared->Prop} {f:Value->Value->Sem Value}
  (hf:∀v u s2 x y H2,ag X Pp σ H2 s2->aj x v->aj y u->R x y H2->wpAny (model X.prog X.w) X.A (f v u) Q X.xe s2):
  wpAny (model X.prog X.w) X.A (eval a X.env) (λv s₁=>wpAny (model X.prog X.w) X.A (eval b X.env) (λu s₂=>wpAny (model X.prog X.w) X.A (f v u) Q X.xe s₂) X.xe s₁) X.xe s:=by
 refine bj (ha Pp s σ H _ I h) λv s1 ⟨x,H1,I1,r1,q1⟩=>?_
 refine bj (hb Pp s1 σ H1 _ I1 q1) λu s2 ⟨y,H2,I2,r2,q2⟩=>?_
 exact hf v u s2 x y H2 I2 r1 r2 q2
theorem cT{op:Operator}{r:R2}(ho:cf X (binaryOp op) r)(ha:PE X a ta)(hb:PE X b tb):PE X (.BinOp a op b pos) (r9 r ta tb):=by
 intro Pp s σ H Q I h;exact wpAny_BinOp (u4 ha hb I h λv u s2 x y H2 I2 rx ry q=>ho Pp s2 σ H2 x y v u Q I2 rx ry q)
theorem yi{op:UnaryOp}{r:V->Hp->VK->Prop}(ho:ur X (unaryOp op) r)(ha:PE X a ta):PE X (.UnaryOp op a pos) (Og r ta):=by
 intro Pp s σ H Q I h;exact UnaryOp_ (bj (ha Pp s σ H _ I h) λv s1 ⟨x,H1,I1,r1,q1⟩=>ho Pp s1 σ H1 x v Q I1 r1 q1)
theorem r_{f:Value->Value->Sem Value}{C:Int->Int->Prop}{g:Int->Int->Int}
  (rule:∀(i j:Int) (t u:Tok) (s:Shared) (Q:Value->Shared->Prop) (E:Value->Shared->Prop),C i j->Q (.int (g i j) s.toks) {s with toks:=s.toks+1}->wpAny (model X.prog X.w) X.A (f (.int i t) (.int j u)) Q E s):
  cf X f (rI C λi j=>.int (g i j)):=by
 intro Pp s σ H x y v u Q I rx ry h;obtain⟨i,j,rfl,rfl,hc,q⟩:=h;obtain⟨t,rfl⟩:=rx;obtain⟨t',rfl⟩:=ry;exact rule i j t t' s _ _ hc ⟨.int (g i j),H,I.tok _,⟨_,rfl⟩,q⟩
theorem xn{f:Value->Value->Sem Value}{g:Int->Int->Int}
  (rule:∀(i j:Int) (t u:Tok) (s:Shared) (Q:Value->Shared->Prop) (E:Value->Shared->Prop),Q (.int (g i j) s.toks) {s with toks:=s.toks+1}->wpAny (model X.prog X.w) X.A (f (.int i t) (.int j u)) Q E s):
  cf X f (o_ λi j=>.int (g i j)):=by
 intro Pp s σ H x y v u Q I rx ry h;obtain⟨i,j,rfl,rfl,q⟩:=h;obtain⟨t,rfl⟩:=rx;obtain⟨t',rfl⟩:=ry;exact rule i j t t' s _ _ ⟨.int (g i j),H,I.tok _,⟨_,rfl⟩,q⟩
theorem vN{f:Value->Value->Sem Value}{g:Int->Int->Bool}
  (rule:∀(i j:Int) (t u:Tok) (s:Shared) (Q:Value->Shared->Prop) (E:Value->Shared->Prop),Q (.bool (g i j)) s->wpAny (model X.prog X.w) X.A (f (.int i t) (.int j u)) Q E s):
  cf X f (o_ λi j=>.bl (g i j)):=by
 intro Pp s σ H x y v u Q I rx ry h;obtain⟨i,j,rfl,rfl,q⟩:=h;obtain⟨t,rfl⟩:=rx;obtain⟨t',rfl⟩:=ry;exact rule i j t t' s _ _ ⟨.bl (g i j),H,I,rfl,q⟩
noncomputable def EH(i j:Int):Prop:=0<j/\j<1073741824
noncomputable def w_(i j:Int):Prop:=0<=j/\j<=1000000/\i.natAbs<2 ^ 64
noncomputable def qe(i j:Int):Prop:=(-(2 ^ 64)<i/\i<2 ^ 64)\/(-(2 ^ 64)<j/\j<2 ^ 64)
theorem qe.ok{i j:Int}(h:qe i j):IntMulOk i j:=by
 rcases h with⟨h1,h2⟩|⟨h1,h2⟩
 ·exact .of_left (intBits_le_64 h1 h2)
 ·exact .of_right (intBits_le_64 h1 h2)
theorem op_add:cf X (binaryOp .Add) (o_ λi j=>.int (i+j)):=xn λ_ _ _ _ _ _ _ q=>add_int q
theorem Hu:cf X (binaryOp .Sub) (o_ λi j=>.int (i-j)):=xn λ_ _ _ _ _ _ _ q=>sub_int q
theorem op_mul:cf X (binaryOp .Mult) (rI qe λi j=>.int (i*j)):=r_ λ_ _ _ _ _ _ _ hc q=>mul_int q hc.ok
theorem BC:cf X (binaryOp .FloorDiv) (rI EH λi j=>.int (i / j)):=r_ λi j _ _ _ _ _ hc q=>by
 have h1:(0:Int)<j:=hc.1;have h2:j<1073741824:=hc.2;exact floordiv_int (by omega) (by rw[s_ i (by omega)];exact q) (.inl (PyProof.noPylong_small (by omega)))
theorem jU:cf X (binaryOp .Mod) (rI (λ_ j=>0<j) λi j=>.int (i % j)):=r_ λi j _ _ _ _ _ hc q=>by
 have h1:(0:Int)<j:=hc;exact mod_int' (by omega) (by rw[Int.fmod_eq_emod_of_nonneg i (by omega)];exact q)
theorem AK:cf X (binaryOp .Pow) (rI w_ λi j=>.int (i ^ j.toNat)):=r_ λ_ _ _ _ _ _ _ hc q=>pow_int_small hc.1 hc.2.1 hc.2.2 q
theorem N8{f:Value->Sem Value}{g:Int->Int}
  (rule:∀(i:Int) (t:Tok) (s:Shared) (Q:Value->Shared->Prop) (E:Value->Shared->Prop),Q (.int (g i) s.toks) {s with toks:=s.toks+1}->wpAny (model X.prog X.w) X.A (f (.int i t)) Q E s):
  ur X f (rU λi=>.int (g i)):=by
 intro Pp s σ H x v Q I rx h;obtain⟨i,rfl,q⟩:=h;obtain⟨t,rfl⟩:=rx;exact rule i t s _ _ ⟨.int (g i),H,I.tok _,⟨_,rfl⟩,q⟩
theorem Ae:ur X (unaryOp .USub) (rU λi=>.int (-i)):=N8 λ_ _ _ _ _ q=>neg_int q
theorem tS{Pp:List (Addr×Obj)}{σ:St}{H:Hp}{s:Shared}{Q:VK}{k k':Bool}(I:ag X Pp σ H s)(q:Q (.bl k) H)(e:k=k'):EP X Pp σ Q (.bool k') s:=by
 subst e;exact⟨.bl k,H,I,rfl,q⟩
theorem op_lt:cf X (compareOp .Lt) (o_ λi j=>.bl (decide (i<j))):=vN λ_ _ _ _ _ _ _ q=>lt_int q
theorem GY:cf X (compareOp .LtE) (o_ λi j=>.bl (decide (i<=j))):=vN λ_ _ _ _ _ _ _ q=>le_int q
theorem GX:cf X (compareOp .Gt) (o_ λi j=>.bl (decide (j<i))):=vN λ_ _ _ _ _ _ _ q=>gt_int q
theorem GW:cf X (compareOp .GtE) (o_ λi j=>.bl (decide (j<=i))):=vN λ_ _ _ _ _ _ _ q=>ge_int q
theorem ML:cf X (compareOp .Lt) (λx y H Q=>∃i j,x=.str i/\y=.str j/\Q (.bl (decide (i.cps.toList<j.cps.toList))) H):=by
 intro Pp s σ H x y v u Q I rx ry h;obtain⟨i,j,rfl,rfl,q⟩:=h;obtain⟨t,rfl⟩:=rx;obtain⟨t',rfl⟩:=ry;exact lt_str (tS I q rfl)
theorem op_in_str:cf X (compareOp .In) (λx y H Q=>∃i j,x=.str i/\y=.str j/\Q (.bl (!(Builtin.Str.occurrences j i 0 j.length 1).isEmpty)) H):=by
 intro Pp s σ H x y v u Q I rx ry h;obtain⟨i,j,rfl,rfl,q⟩:=h;obtain⟨t,rfl⟩:=rx;obtain⟨t',rfl⟩:=ry;exact in_str (tS I q rfl)
theorem op_isN:cf X (compareOp .Is) (λx y H Q=>y=.non/\Q (.bl (decide (x=.non))) H):=by
 intro Pp s σ H x y v u Q I rx ry h;obtain⟨rfl,q⟩:=h;cases ry;refine is_none_gen (tS I q ?_);cases x<;>first
  |(cases rx;rfl)
  |(obtain⟨t,rfl⟩:=rx;rfl)
theorem op_notN:cf X (compareOp .IsNot) (λx y H Q=>y=.non/\Q (.bl (!decide (x=.non))) H):=by
 intro Pp s σ H x y v u Q I rx ry h;obtain⟨rfl,q⟩:=h;cases ry;refine isnot_none_gen (tS I q ?_);cases x<;>first
  |(cases rx;rfl)
  |(obtain⟨t,rfl⟩:=rx;rfl)
theorem cf.or{f:Value->Value->Sem Value}{r r':R2}(h:cf X f r)(h':cf X f r'):cf X f (λx y H Q=>r x y H Q\/r' x y H Q):=by
 intro Pp s σ H x y v u Q I rx ry q;rcases q with q|q
 ·exact h Pp s σ H x y v u Q I rx ry q
 ·exact h' Pp s σ H x y v u Q I rx ry q
theorem nR(b:Expr){op:CmpOp}(h:op≠.In:=by decide)(h2:op≠.NotIn:=by decide):behindInMarks op b=false:=by
 have e1:(op==CmpOp.In)=false:=by cases op<;>first|rfl|exact absurd rfl h
 have e2:(op==CmpOp.NotIn)=false:=by cases op<;>first|rfl|exact absurd rfl h2
 cases b<;>simp[behindInMarks,e1,e2]
theorem KZ{op:CmpOp}{r:R2}(ho:cf X (compareOp op) r)(ha:PE X a ta)(hb:PE X b tb)(hm:behindInMarks op b=false):PE X (.Compare a [op] [b] pos) (r9 r ta tb):=by
 intro Pp s σ H Q I h;exact wpAny_Compare1 (u4 ha hb I h λv u s2 x y H2 I2 rx ry q=>ho Pp s2 σ H2 x y v u Q I2 rx ry q) hm
noncomputable def zI(t:TE):TT:=λσ H Q=>t σ H λx H'=>∃k,x=.bl k/\Q k H'
theorem xX{op:CmpOp}{r:R2}(ho:cf X (compareOp op) r)(ha:PE X a ta)(hb:PE X b tb)(hm:behindInMarks op b=false):PT X (.Compare a [op] [b] pos) (zI (r9 r ta tb)):=by
 intro Pp s σ H Q I h
 refine wpAny_isTrue_Compare1 (bj (ha Pp s σ H _ I h) λv s1 ⟨x,H1,I1,r1,q1⟩=>bj (hb Pp s1 σ H1 _ I1 q1) λu s2 ⟨y,H2,I2,r2,q2⟩=>
  bj (ho Pp s2 σ H2 x y v u _ I2 r1 r2 q2) λc s3 ⟨z,H3,I3,r3,k,e,q3⟩=>?_) hm
 subst e;cases r3;exact wpAny_truthy_bool ⟨H3,I3,q3⟩
noncomputable def zD(r r':R2)(ta tb tc:TE):TE:=λσ H Q=>ta σ H λx H1=>tb σ H1 λy H2=>r x y H2 λz H3=>∃k,z=.bl k /\
 (if k=true then tc σ H3 λw' H4=>r' y w' H4 Q else Q (.bl false) H3)
theorem LF{op op':CmpOp}{r r':R2}(ho:cf X (compareOp op) r)(ho':cf X (compareOp op') r')(ha:PE X a ta)(hb:PE X b tb)(hc:PE X c tc)
  (hm:lastMarks [op,op'] [b,c]=false:=by with_unfolding_all rfl):PE X (.Compare a [op,op'] [b,c] pos) (zD r r' ta tb tc):=by
 intro Pp s σ H Q I h
 refine Compare_chain (bj (ha Pp s σ H _ I h) λv s1 ⟨x,H1,I1,r1,q1⟩=>chain_link (bj (hb Pp s1 σ H1 _ I1 q1) λu s2 ⟨y,H2,I2,r2,q2⟩=>
  bj (ho Pp s2 σ H2 x y v u _ I2 r1 r2 q2) λd s3 ⟨z,H3,I3,r3,k,e,q3⟩=>?_)) hm
 subst e;cases r3;refine wpAny_truthy_bool ?_;cases k with
 |false=>exact ite_ff ⟨.bl false,H3,I3,rfl,q3⟩
 |true=>exact ite_tt (chain_last (bj (hc Pp s3 σ H3 _ I3 q3) λw' s4 ⟨z',H4,I4,r4,q4⟩=>ho' Pp s4 σ H4 y z' u w' Q I4 r2 r4 q4))
theorem LN{op op':CmpOp}{r r':R2}(ho:cf X (compareOp op) r)(ho':cf X (compareOp op') r')(ha:PE X a ta)(hb:PE X b tb)(hc:PE X c tc)
  (hm:lastMarks [op,op'] [b,c]=false:=by with_unfolding_all rfl):PT X (.Compare a [op,op'] [b,c] pos) (zI (zD r r' ta tb tc)):=by
 intro Pp s σ H Q I h
 refine isTrue_chain (bj (ha Pp s σ H _ I h) λv s1 ⟨x,H1,I1,r1,q1⟩=>test_link (bj (hb Pp s1 σ H1 _ I1 q1) λu s2 ⟨y,H2,I2,r2,q2⟩=>
  bj (ho Pp s2 σ H2 x y v u _ I2 r1 r2 q2) λd s3 ⟨z,H3,I3,r3,k,e,q3⟩=>?_)) hm
 subst e;cases r3;refine wpAny_truthy_bool ?_;cases k with
 |false=>
  obtain⟨k',e',q'⟩:=q3;cases e';exact ite_ff ⟨H3,I3,q'⟩
 |true=>
  refine ite_tt (test_last (bj (hc Pp s3 σ H3 _ I3 q3) λw' s4 ⟨z',H4,I4,r4,q4⟩=>bj (ho' Pp s4 σ H4 y z' u w' _ I4 r2 r4 q4) λd' s5 ⟨z2,H5,I5,r5,k2,e2,q5⟩=>?_));subst e2;cases r5;exact wpAny_truthy_bool ⟨H5,I5,q5⟩
theorem nS:(sizeLine:Nat)<2 ^ 63:=by rw[sizeLine_eq];decide
theorem op_add_str:cf X (binaryOp .Add) (λx y H Q=>∃i j,x=.str i/\y=.str j/\i.length+j.length<=sizeLine/\Q (.str (i++j)) H):=by
 intro Pp s σ H x y v u Q I rx ry h;obtain⟨i,j,rfl,rfl,hz,q⟩:=h;obtain⟨t,rfl⟩:=rx;obtain⟨t',rfl⟩:=ry;exact add_str (λt' tk=>⟨.str (i++j),H,I.tok _,⟨_,rfl⟩,q⟩) hz
theorem cY{x:V}{us:List Value}(r:ak [x] us):∃u,us=[u]/\aj x u:=by
 cases r with
 |cons r1 r2=>cases r2;exact⟨_,rfl,r1⟩
theorem nX{x y:V}{us:List Value}(r:ak [x,y] us):∃u w',us=[u,w']/\aj x u/\aj y w':=by
 cases r with
 |cons r1 r2=>
  cases r2 with
  |cons r3 r4=>cases r4;exact⟨_,_,rfl,r1,r3⟩
theorem Lo(hc:X.calm=true):au X (.builtin "max") (λxs H Q=>∃i j,xs=[.int i,.int j]/\Q (.int (if j > i then j else i)) H):=by
 intro Pp s σ H xs us Q I r h;obtain⟨i,j,rfl,q⟩:=h;obtain⟨u,w',rfl,⟨t,rfl⟩,⟨t',rfl⟩⟩:=nX r;refine max_two_ints (I.ok.hd hc) λh' tk k=>⟨_,H,I.kept k,?_,q⟩
 by_cases hj:j > i
 ·rw[if_pos hj,if_pos hj];exact⟨_,rfl⟩
 ·rw[if_neg hj,if_neg hj];exact⟨_,rfl⟩
theorem Lq(hc:X.calm=true):au X (.builtin "min") (λxs H Q=>∃i j,xs=[.int i,.int j]/\Q (.int (if j<i then j else i)) H):=by
 intro Pp s σ H xs us Q I r h;obtain⟨i,j,rfl,q⟩:=h;obtain⟨u,w',rfl,⟨t,rfl⟩,⟨t',rfl⟩⟩:=nX r;refine min_two_ints (I.ok.hd hc) λh' tk k=>⟨_,H,I.kept k,?_,q⟩
 by_cases hj:j<i
 ·rw[if_pos hj,if_pos hj];exact⟨_,rfl⟩
 ·rw[if_neg hj,if_neg hj];exact⟨_,rfl⟩
end
theorem gq.some_of{v:V}{o:Option Value}(r:gq (some v) o):∃u,o=some u/\aj v u:=by
 cases o with
 |none=>exact(show False from r).elim
 |some u=>exact⟨u,rfl,r⟩
structure br (k:Nat) (A:Around):Prop where
 hd:A.handled=none
 dp:A.depth+3*k+5<recursionLimit
 un:A.units+16*k+200<cLine
 gd:A.guards=some []
theorem br.mono{j k:Nat}{A:Around}(r:br k A)(h:j<=k):br j A:=⟨r.hd,by have:=r.dp;omega,by have:=r.un;omega,r.gd⟩
theorem br.deeper{k:Nat}{A:Around}(r:br (k+1) A)(env:Env):br k (A.deeper env):=
 ⟨r.hd,by have:=r.dp;show A.depth+1+3*k+5<_;omega,by have:=r.un;show A.units+3+16*k+200<_;omega,r.gd⟩
theorem br.depth{k:Nat}{A:Around}(r:br k A):A.depth<recursionLimit:=by have:=r.dp;omega
theorem br.units{k:Nat}{A:Around}(r:br k A):A.units+64<cLine:=by have:=r.un;omega
noncomputable def uN:TA:=λ_ H Q=>Q [] H
noncomputable def zJ(ta:TE)(tr:TA):TA:=λσ H Q=>ta σ H λx H1=>tr σ H1 λxs H2=>Q (x::xs) H2
section
variable{X:Cx}{e:Expr}{es:List Expr}{te:TE}{t:TA}{pos:Pos}
theorem eO:PA X [] uN:=λ_ _ _ _ H Q I h=>Calls.spliced_nil ⟨[],H,I,.nil,h⟩
theorem Jn(ha:PE X e te)(hr:PA X es t)(hs:starEach (e::es) X.env=(false,eval e X.env)::starEach es X.env:=by rfl):PA X (e::es) (zJ te t):=by
 intro pos Pp s σ H Q I h;rw[hs];show wpAny _ _ (spliced ((false,eval e X.env)::backTo pos (starEach es X.env))) _ _ s;refine Calls.spliced_cons (bj (ha Pp s σ H _ I h) λu s1 ⟨x,H1,I1,r1,q1⟩=>?_);exact bj (hr pos Pp s1 σ H1 _ I1 q1) λus s2 ⟨xs,H2,I2,r2,q2⟩=>⟨x::xs,H2,I2,.cons r1 r2,q2⟩
noncomputable def Fv(t:TA):TE:=λσ H Q=>t σ H λxs H1=>xs.length<=sizeLine/\∀p,H1 p=none->Q (.ref p) (aw H1 p (.tup xs))
noncomputable def zk(t:TA):TE:=λσ H Q=>t σ H λxs H1=>xs.length<=sizeLine/\∀p,H1 p=none->Q (.ref p) (aw H1 p (.lst xs))
theorem HD{x1}(h:PA X es t):PE X (.Tuple es x1 pos) (Fv t):=by
 intro Pp s σ H Q I hq;refine wpAny_Tuple_spliced (bj (h pos Pp s σ H _ I hq) λus s1 ⟨xs,H1,I1,r,z,q⟩=>⟨by rw[<-r.length];exact z,?_⟩);have hf:H1 s1.heap.objs.size=none:=I1.hok.fresh (bp _);refine⟨.ref s1.heap.objs.size,aw H1 s1.heap.objs.size (.tup xs),I1.laid (t':=s1.toks) (λb u e=>b6 _ e) (bp _) ?_,rfl,q _ hf⟩;exact⟨z,us,r,⟨_,cy _ rfl,rfl,_,rfl⟩⟩
theorem AO(h:PA X es t):PE X (.List es pos) (zk t):=by
 intro Pp s σ H Q I hq;refine wpAny_List_spliced (bj (h pos Pp s σ H _ I hq) λus s1 ⟨xs,H1,I1,r,z,q⟩=>⟨by rw[<-r.length];exact z,?_⟩);have hf:H1 s1.heap.objs.size=none:=I1.hok.fresh (bp _);refine⟨.ref s1.heap.objs.size,aw H1 s1.heap.objs.size (.lst xs),I1.laid (t':=s1.toks) (λb u e=>b6 _ e) (bp _) ?_,rfl,q _ hf⟩;exact⟨z,us,0,r,cy _ rfl⟩
end
noncomputable abbrev Sp:=List V->Hp->VK->XK->Prop
noncomputable abbrev nq:=List Env->Hp->Shared->XK->Value->Shared->Prop
structure vQ (P:Program) (w:World) (K:W.Frag) (mg:Str->Option Value) (base:Heap) (A:Around) (outer:List Env) (s:Shared) (H:Hp):Prop where
 frames:A.frames=some outer
 mod:Mod K mg base
 bs:∀b o,base.get? b=some o->s.heap.get? b=some o/\H b=none
 bsz:base.objs.size<=s.heap.objs.size
 funs:s.heap.FunFrames base outer
 frf:∀b∈ou outer,H b=none
 hok:d7 P w H s.heap
 bare:AllBare s.gens
noncomputable def CE(outer:List Env)(P:Program)(w:World)(H:Hp)(s:Shared)(Q:VK)(u:Value)(s':Shared):Prop:=
 ∃v H',s'.os=s.os/\AllBare s'.gens/\Un (ou outer) [] H H' s.heap s'.heap/\d7 P w H' s'.heap/\aj v u/\Q v H'
noncomputable def CR(CX:nq)(outer:List Env)(P:Program)(w:World)(H:Hp)(s:Shared)(Q:VK)(E:XK)(r:Result)(s':Shared):Prop:=
 match r with
 |.ok (.ret u)=>CE outer P w H s Q u s'
 |.ok _=>False
 |.error e=>CX outer H s E e s'
structure dj (P:Program) (w:World) (K:W.Frag) (mg:Str->Option Value) (base:Heap) (CX:nq) (k:Nat) (f:Addr) (fd:FuncData) (ps:List Str) (sp:Sp):Prop where
 len:∀vs H Q E,sp vs H Q E->vs.length=ps.length
 run:∀(A:Around) (outer:List Env) (s:Shared) (H:Hp) (args:Args) (us:List Value) (vs:List V) (Q:VK) (E:XK),br k A->vQ P w K mg base A outer s H->BindsTo s fd args (ps.zip us)->ak vs us->sp vs H Q E ->
  codeAny (model P w) A (.call (.ref f) args) (CR CX outer P w H s Q E) s
theorem dj.mono{P:Program}{w:World}{K:W.Frag}{mg:Str->Option Value}{base:Heap}{CX:nq}{j k:Nat}{f:Addr}{fd:FuncData}{ps:List Str}{sp:Sp}(F:dj P w K mg base CX j f fd ps sp)(h:j<=k):
  dj P w K mg base CX k f fd ps sp:=⟨F.len,λA outer s H args us vs Q E hr=>F.run A outer s H args us vs Q E (hr.mono h)⟩
theorem dj.imp{P:Program}{w:World}{K:W.Frag}{mg:Str->Option Value}{base:Heap}{CX:nq}{k:Nat}{f:Addr}{fd:FuncData}{ps:List Str}{sp sp':Sp}(F:dj P w K mg base CX k f fd ps sp)
  (h:∀vs H Q E,sp' vs H Q E->sp vs H Q E):dj P w K mg base CX k f fd ps sp':=
 ⟨λvs H Q E q=>F.len vs H Q E (h _ _ _ _ q),λA outer s H args us vs Q E hr he hb hv hs=>F.run A outer s H args us vs Q E hr he hb hv (h _ _ _ _ hs)⟩
section
variable{X:Cx}{Pp:List (Addr×Obj)}{σ:St}{H:Hp}{s s':Shared}
theorem ag.env0(I:ag X Pp σ H s):vQ X.prog X.w X.K X.mg X.base X.A X.stack s H:=
 ⟨I.ok.frames,I.ok.mod,I.bs,bu I.ok.bsz I.sz,I.stack,I.stkFree,I.hok,I.bare⟩
theorem ag.after{Q:VK}{u:Value}(I:ag X Pp σ H s)(h:CE X.stack X.prog X.w H s Q u s'):EP X Pp σ Q u s':=by
 obtain⟨v,H',os,bare,un,hok,r,q⟩:=h;obtain⟨hh,g,d,t,os'⟩:=s';obtain rfl:os'=s.os:=os;exact⟨v,H',I.call (h':=hh) (g':=g) (d':=d) (t':=t) (ch:=[]) un hok bare (λb z=>absurd z (by simp)),r,q⟩
end
noncomputable def qD(sp:Sp)(dvs:List V)(E:XK)(t:TA):TE:=λσ H Q=>t σ H λvs H1=>sp (vs++dvs) H1 Q E
noncomputable def ir(K:W.Frag)(fd:FuncData)(ps:List Str)(ds:List Value):Prop:=
 ∀(s:Shared) (us:List Value),K.In s.heap->(us++ds).length=ps.length->BindsTo s fd ⟨us,[]⟩ (ps.zip (us++ds))
theorem ir.all{K:W.Frag}{fd:FuncData}{ps:List Str}(h:∀us:List Value,us.length=ps.length->bindArgs fd ⟨us,[]⟩=pure (ps.zip us)):ir K fd ps []:=λs us _ hl=>by
 rw[i8]at hl ⊢;exact .of_eq (h us hl)
noncomputable def tU(CX:nq)(X:Cx)(E:XK):Prop:=∀(Pp:List (Addr×Obj)) (σ:St) (H:Hp) (s:Shared) (e:Value) (s':Shared),ag X Pp σ H s->CX X.stack H s E e s'->X.xe e s'
section
variable{X:Cx}{CX:nq}{k:Nat}{f C:Addr}{fd:FuncData}{ps:List Str}{sp:Sp}{dvs:List V}{ds:List Value}{E:XK}{x m:Str}{p pos Pw:Pos}{e o:Expr}{es:List Expr}{ta:TE}{t:TA}
theorem A0{Pp:List (Addr×Obj)}{σ:St}{H:Hp}{s:Shared}{Q:VK}{us:List Value}{vs:List V}(F:dj X.prog X.w X.K X.mg X.base CX k f fd ps sp)(hr:br k X.A)(hb:ir X.K fd ps ds)(hd:ak dvs ds)(hx:tU CX X E)
  (I:ag X Pp σ H s) (r:ak vs us) (h:sp (vs++dvs) H Q E):wpAny (model X.prog X.w) X.A (call (.ref f) us) (EP X Pp σ Q) X.xe s:=by
 have r2:ak (vs++dvs) (us++ds):=r.append hd;have hl:(us++ds).length=ps.length:=by rw[<-r2.length];exact F.len _ _ _ _ h
 refine wpAny_call (codeAny_mono (F.run X.A X.stack s H ⟨us,[]⟩ (us++ds) (vs++dvs) Q E hr I.env0 (hb s us I.kIn hl) r2 h) λr s' hq=>?_);cases r with
 |error e=>exact hx Pp σ H s e s' I hq
 |ok fl=>
  cases fl with
  |ret u=>exact I.after hq
  |next=>exact False.elim hq
  |brk=>exact False.elim hq
  |cont=>exact False.elim hq
theorem KY(F:dj X.prog X.w X.K X.mg X.base CX k f fd ps sp)(hr:br k X.A)(hg:Gl X x)(hm:X.mg x=some (.ref f))(hk:W.keepIn X.K (.ref f)=true)(hb:ir X.K fd ps ds)(hd:ak dvs ds)(hx:tU CX X E)
  (ha:PA X (e::es) t) (hdb:(x==("__debug__":Str))=false:=by decide) (he:starEach (e::es) X.env=(false,eval e X.env)::starEach es X.env:=by rfl) (hpl:(backTo pos (starEach es X.env)).any (·.1)=false:=by rfl):
  PE X (.Call (.Name x p) (e::es) [] pos) (qD sp dvs E t):=by
 intro Pp s σ H Q I h;refine wpAny_Call_Name_kw (yL I hg hm ?_ hdb);refine PySem.W.callWith_K (h₀:=X.base) I.ok.mod.kin hk (bj (ha pos Pp s σ H _ I h) λus s1 ⟨vs,H1,I1,r,q⟩=>⟨I1.kIn,?_⟩) he hpl;exact A0 F hr hb hd hx I1 r q
theorem LD(F:dj X.prog X.w X.K X.mg X.base CX k f fd ps sp)(hr:br k X.A)(hg:Gl X x)(hm:X.mg x=some (.ref f))(hk:W.keepIn X.K (.ref f)=true)(hb:ir X.K fd ps ds)(hd:ak dvs ds)(hx:tU CX X E)
  (hdb:(x==("__debug__":Str))=false:=by decide):PE X (.Call (.Name x p) [] [] pos) (qD sp dvs E uN):=by
 intro Pp s σ H Q I h;refine wpAny_Call_Name_kw (yL I hg hm ?_ hdb);exact PySem.W.callWith_K0 I.kIn hk (A0 (us:=[]) F hr hb hd hx I .nil h)
end
structure dN (N P:List Str) (sc:Scope):Prop where
 kind:sc.kind=.function
 co:sc.isCoroutine=false
 gen:sc.isGenerator=false
 nd:N.Nodup
 pre:N.take P.length=P
 par:∀x∈P,sc.names.lookup x=some .local\/sc.names.lookup x=some .cell
 nofree:∀y∈sc.names,y.2≠.free
theorem ke{N P:List Str}{sc:Scope}(h:sc.kind=.function/\sc.isCoroutine=false/\sc.isGenerator=false/\N.Nodup/\N.take P.length=P/\(∀x∈P,sc.names.lookup x=some .local\/sc.names.lookup x=some .cell)/\∀y∈sc.names,y.2≠.free):dN N P sc:=⟨h.1,h.2.1,h.2.2.1,h.2.2.2.1,h.2.2.2.2.1,h.2.2.2.2.2.1,h.2.2.2.2.2.2⟩
theorem CQ{kindOf:Str->Option NameKind}{x:Str}:∀{binds:List (Str×Value)}{m:Str->Option Value},(∀v,(x,v)∉binds)->bindL kindOf binds m x=m x
 |[],_,_=>rfl
 |(n,v)::r,m,h=>by
  unfold bindL;rw[CQ λw hw=>h w (ia _ hw)];split
  ·have:x≠n:=by rintro rfl;exact h v ib
   simp[this]
  ·rfl
theorem CO{kindOf:Str->Option NameKind}{x:Str}:∀{binds:List (Str×Value)}{m:Str->Option Value},(∀v,(x,v)∉binds)->bindC kindOf binds m x=m x
 |[],_,_=>rfl
 |(n,v)::r,m,h=>by
  unfold bindC;rw[CO λw hw=>h w (ia _ hw)];split
  ·rfl
  ·have:x≠n:=by rintro rfl;exact h v ib
   simp[this]
theorem CP{kindOf:Str->Option NameKind}{x:Str}{v:Value}:∀{P:List Str}{vs:List Value}{i:Nat}{m:Str->Option Value},P.Nodup->P[i]?=some x->vs[i]?=some v->kindOf x=some .local ->
  bindL kindOf (P.zip vs) m x=some v
 |[],_,_,_,_,h,_,_=>by simp at h
 |_::_,[],_,_,_,_,h,_=>by simp at h
 |p::P,w::vs,0,m,nd,h1,h2,hk=>by
  simp at h1 h2;subst h1;subst h2;show bindL kindOf ((p,w)::P.zip vs) m p=_;unfold bindL;rw[CQ λv hv=>(qD1_.mp nd).1 (rk hv).1,if_pos hk];simp
 |p::P,w::vs,i+1,m,nd,h1,h2,hk=>by
  show bindL kindOf ((p,w)::P.zip vs) m x=_;unfold bindL;exact CP (i:=i) (qD1_.mp nd).2 (by simpa using h1) (by simpa using h2) hk
theorem CN{kindOf:Str->Option NameKind}{x:Str}{v:Value}:∀{P:List Str}{vs:List Value}{i:Nat}{m:Str->Option Value},P.Nodup->P[i]?=some x->vs[i]?=some v->kindOf x≠some .local ->
  bindC kindOf (P.zip vs) m x=some v
 |[],_,_,_,_,h,_,_=>by simp at h
 |_::_,[],_,_,_,_,h,_=>by simp at h
 |p::P,w::vs,0,m,nd,h1,h2,hk=>by
  simp at h1 h2;subst h1;subst h2;show bindC kindOf ((p,w)::P.zip vs) m p=_;unfold bindC;rw[CO λv hv=>(qD1_.mp nd).1 (rk hv).1,if_neg hk];simp
 |p::P,w::vs,i+1,m,nd,h1,h2,hk=>by
  show bindC kindOf ((p,w)::P.zip vs) m x=_;unfold bindC;exact CN (i:=i) (qD1_.mp nd).2 (by simpa using h1) (by simpa using h2) hk
noncomputable def fG(N:List Str)(vs:List V):St:=vs.map some++List.replicate (N.length-vs.length) none
noncomputable def hZ(CX:nq)(P:Program)(w:World)(K:W.Frag)(mg:Str->Option Value)(base:Heap)(N:List Str)(qual:Str)(scope:Scope)(f:Addr)(cd:Value)(A:Around)(outer:List Env)(s:Shared)(H:Hp)(E:XK):Cx where
 prog:=P
 w:=w
 K:=K
 mg:=mg
 base:=base
 A:=A.deeper (envOfC qual scope s.heap.objs.size f cd)
 N:=N
 s₀:=s
 H₀:=H
 env:=envOfC qual scope s.heap.objs.size f cd
 outer:=outer
 stack:=envOfC qual scope s.heap.objs.size f cd::outer
 ex:=[]
 calm:=true
 fn:=λ_=>true
 pn:=[]
 xe:=λe s'=>wpAny (model P w) (A.deeper (envOfC qual scope s.heap.objs.size f cd)) (leaving (envOfC qual scope s.heap.objs.size f cd) e) (λ_ s''=>CX outer H s E e s'') (λe' s''=>CX outer H s E e' s'') s'
theorem Bf{sc:Scope}{n:Nat}{x:Str}(h:sc.names.lookup x=some .cell):∃c,(cellsFrom n sc.names []).lookup x=some c:=by
 have q:=PySem.W.cellsFrom_some sc.names n [] (.inl h);exact Option.isSome_iff_exists.mp q
theorem M9{CX:nq}{P:Program}{w:World}{K:W.Frag}{mg:Str->Option Value}{base:Heap}{N ps:List Str}{qual:Str}{scope:Scope}{f:Addr}{cd:Value}{A:Around}{outer:List Env}{s s1:Shared}{H:Hp}{E:XK}{us:List Value}{vs:List V}
  (S:dN N ps scope) (hd:A.handled=none) (e0:vQ P w K mg base A outer s H) (hl:vs.length=ps.length) (r:ak vs us)
  (x:InCallC s s.heap.objs.size (bindL (envOfC qual scope s.heap.objs.size f cd).kindOf (ps.zip us) λ_=>none) (cellsFrom (s.heap.objs.size+1) scope.names []) (bindC (envOfC qual scope s.heap.objs.size f cd).kindOf (ps.zip us) λ_=>none) s1):
  ag (hZ CX P w K mg base N qual scope f cd A outer s H E) [] (fG N vs) H s1:=by
 have hpl:ps.length<=N.length:=by have:=congrArg List.length S.pre;rw[g8]at this;omega
 obtain⟨h1,tk,rfl,hk⟩:=x.done;have noA:∀b:Addr,b∉(hZ CX P w K mg base N qual scope f cd A outer s H E).ex:=λb z=>absurd (show b∈([]:List Addr) from z) (by simp)
 refine⟨⟨e0.mod,S.kind,rfl,rfl,bp _,λy z c h1 h2=>?_,λy hy=>?_,λy c _ h=>?_,λ_=>hd,Around.frames_deeper e0.frames,.inr ⟨rfl,rfl⟩,λb z=>absurd z (noA b),e0.bs,e0.bsz,λb _ _=>noA b,λb z=>absurd z (noA b),e0.funs,e0.frf⟩,
  rfl,e0.bare,Un.kept hk,⟨_,x.toInCall.ns,λi y v h1 h2 h3=>?_⟩,λy c h=>⟨_,x.cell y c h⟩,e0.hok.fresh (bp _),λy c h=>?_,λp hp=>absurd (show p∈([]:List (Addr×Obj)) from hp) (by simp),e0.hok.kept hk,?_⟩
 ·exact name_of_addr x.apart (PySem.mem_of_lookup h1) (PySem.mem_of_lookup h2)
 ·have hy:scope.names.lookup y=some .cell\/scope.names.lookup y=some .free:=hy;rcases hy with hy|hy
  ·exact Bf hy
  ·exact absurd rfl (S.nofree _ (PySem.mem_of_lookup hy))
 ·exact e6 (x.above y c (PySem.mem_of_lookup h))
 ·have hi:i<vs.length:=by
   unfold fG at h2;by_cases hi:i<vs.length
   ·exact hi
   ·rw[j_ (by simpa using hi)]at h2;rw[m7]at h2;split at h2<;>cases h2
  have ha:vs[i]?=some v:=by
   unfold fG at h2;rw[j9 (by simpa using hi),g4]at h2;cases e:vs[i]? with
   |none=>rw[e]at h2;cases h2
   |some a=>rw[e]at h2;cases h2;rfl
  obtain⟨u,hu,rv⟩:=r.get ha;have hp:ps[i]?=some y:=by
   rw[<-S.pre,List.getElem?_take_of_lt (by omega)];exact h1
  have ndP:ps.Nodup:=by rw[<-S.pre];exact S.nd.sublist (List.take_sublist _ _)
  refine⟨u,rv,?_⟩;rcases S.par y (i7 hp) with k|k
  ·exact .inl ⟨k,CP ndP hp hu k⟩
  ·obtain⟨c,e⟩:=Bf (n:=s.heap.objs.size+1) k;refine .inr ⟨.inl k,c,e,?_⟩;have q:=x.cell y c e;rw[CN ndP hp hu (by show scope.names.lookup y≠_;rw[k];decide)]at q;exact q
 ·exact e0.hok.fresh (e6 (x.above y c (PySem.mem_of_lookup h)))
 ·unfold fG;show _=N.length;rw[b8,aq,fh];omega
theorem GO{CX:nq}{P:Program}{w:World}{K:W.Frag}{mg:Str->Option Value}{base:Heap}{k:Nat}{f:Addr}{name qual:Str}{params:Arguments}{body:List Stmt}{scope:Scope}{dV kV doc pm Pu ct oc:Value}{an od:Option Addr}
  {osl:Array (Option Value)} {N ps:List Str} {sp:Sp} (lk:K.lookup f=some ⟨oc,od,.func (W.fnOf name qual params body scope dV kV doc pm an Pu ct),osl⟩) (hcd:W.codeIn K Pu qual=true) (S:dN N ps scope)
  (len:∀vs H Q E,sp vs H Q E->vs.length=ps.length)
  (Px:∀(A:Around) (outer:List Env) (s:Shared) (H:Hp) (vs:List V) (Q:VK) (E:XK),br k (A.deeper (envOfC qual scope s.heap.objs.size f Pu))->sp vs H Q E ->
   ∃t,iq (hZ CX P w K mg base N qual scope f Pu A outer s H E) body t/\t {nx:=λ_ H'=>Q .non H',rt:=Q} (fG N vs) H):
  dj P w K mg base CX (k+1) f (W.fnOf name qual params body scope dV kV doc pm an Pu ct) ps sp:=by
 refine⟨len,λA outer s H args us vs Q E hr e0 hb r hsp=>?_⟩;have hl:=len _ _ _ _ hsp;have KX:K.In s.heap:=e0.mod.kin.keeps λb o e=>(e0.bs b o e).1
 have lim:s.heap.NoLimit:=e0.mod.nolimit.keeps λb o e=>(e0.bs b o e).1
 have hkind:∀y∈ps.zip us,scope.names.lookup y.1=some .local\/(scope.names.lookup y.1=some .cell/\((cellsFrom (s.heap.objs.size+1) scope.names []).lookup y.1).isSome=true):=λ⟨n,v⟩ hy=>by
  rcases S.par n (rk hy).1 with q|q
  ·exact .inl q
  ·exact .inr ⟨q,PySem.W.cellsFrom_some _ _ _ (.inl q)⟩
 refine codeAny_call_function hr.depth (KX _ _ lk) rfl S.co S.gen rfl (PySem.W.codeRec_of KX hcd) (hb _ _ _ _ ?_);refine wpAny_newFunctionEnv_cells S.kind hkind λenv he s1 x=>?_
 subst he;refine⟨lim.keeps x.toInCall.keep,codeAny_func ?_⟩;obtain⟨t,ht,hq⟩:=Px A outer s H vs Q E (hr.deeper _) hsp;have I:ag (hZ CX P w K mg base N qual scope f Pu A outer s H E) [] (fG N vs) H s1:=M9 S hr.hd e0 hl r x;refine wpAny_mono (ht [] s1 (fG N vs) H _ I hq) (λfl s' hs=>?_) λe s' hs=>hs
 have fin:∀{σ':St} {H':Hp} {v:V} {u:Value},ag (hZ CX P w K mg base N qual scope f Pu A outer s H E) [] σ' H' s'->aj v u->Q v H'->CE outer P w H s Q u s':=
  λ{σ' H' v u} J rv q=>⟨v,H',J.os,J.bare,J.base,J.hok,rv,q⟩
 cases fl with
 |ret u=>
  obtain⟨v,σ',H',J,rv,q⟩:=hs;exact fin J rv q
 |next=>
  obtain⟨σ',H',J,q⟩:=hs;exact fin (v:=V.non) (u:=Value.none) J rfl q
 |brk=>
  obtain⟨_,_,_,q⟩:=hs;exact False.elim q
 |cont=>
  obtain⟨_,_,_,q⟩:=hs;exact False.elim q
section
variable{X:Cx}{x:Str}{p pos:Pos}{e:Expr}{es:List Expr}{t:TA}{id T:String}{r:List V->Hp->VK->Prop}
noncomputable def um(r:List V->Hp->VK->Prop)(t:TA):TE:=λσ H Q=>t σ H λvs H1=>r vs H1 Q
theorem kH(hc:au X (.builtin id) r)(hg:Gl X x)(hm:X.mg x=none)(hv:bootBuiltins x=some (.builtin id))(ha:PA X (e::es) t)(hn:x≠"__name__":=by decide)(hdb:(x==("__debug__":Str))=false:=by decide)
  (he:starEach (e::es) X.env=(false,eval e X.env)::starEach es X.env:=by rfl) (hpl:(backTo pos (starEach es X.env)).any (·.1)=false:=by rfl):PE X (.Call (.Name x p) (e::es) [] pos) (um r t):=by
 intro Pp s σ H Q I h;refine wpAny_Call_Name_kw (tP I hg hm hv ?_ hn hdb);exact PyProof.Rows.callWith_builtin1 (bj (ha pos Pp s σ H _ I h) λus s1 ⟨vs,H1,I1,r1,q1⟩=>hc Pp s1 σ H1 vs us Q I1 r1 q1) he hpl
theorem jM(hc:au X (.type T) r)(hg:Gl X x)(hm:X.mg x=none)(hv:bootBuiltins x=some (.type T))(ha:PA X (e::es) t)(hn:x≠"__name__":=by decide)(hdb:(x==("__debug__":Str))=false:=by decide)
  (he:starEach (e::es) X.env=(false,eval e X.env)::starEach es X.env:=by rfl) (hpl:(backTo pos (starEach es X.env)).any (·.1)=false:=by rfl):PE X (.Call (.Name x p) (e::es) [] pos) (um r t):=by
 intro Pp s σ H Q I h;refine wpAny_Call_Name_kw (tP I hg hm hv ?_ hn hdb);exact PyProof.Rows.callWith_type1 (bj (ha pos Pp s σ H _ I h) λus s1 ⟨vs,H1,I1,r1,q1⟩=>hc Pp s1 σ H1 vs us Q I1 r1 q1) he hpl
end
end L2
namespace HT
open PySem PyProof.Rows
section
variable{prog:Program}{w:World}{A:Around}{E:Value->Shared->Prop}{s:Shared}
theorem cat_tup{t b:Addr}{vs ws:List Value}{Q:Value->Shared->Prop}(ht:IsTup s.heap t vs.toArray)(hb:IsTup s.heap b ws.toArray)(hv:vs≠[])
  (h1:ws=[]->Q (.ref t) s) (h2:ws≠[]->Q (.ref s.heap.objs.size) {s with heap:=s.heap.push {cls:=.type "tuple",data:=.seq (vs++ws).toArray}})
  (hsz:vs.length+ws.length<=sizeLine):wpAny (model prog w) A (binaryOp .Add (.ref t) (.ref b)) Q E s:=by
 obtain⟨⟨cls,dd,data,sl⟩,ho,hc,n,hd⟩:=id ht;obtain⟨⟨cls2,dd2,data2,sl2⟩,ho2,hc2,n2,hd2⟩:=id hb;simp only at hc hd hc2 hd2;subst hc hd hc2 hd2;have e:vs.toArray++ws.toArray=(vs++ws).toArray:=by simp
 by_cases hw:ws=[]
 ·exact concat_meets ⟨_,ho,rfl⟩ ⟨_,ho2,rfl⟩ noFill_tuple_add seq_tuple_add PySem.F.slot_tuple_add PySem.F.entry_tuple_add (PySem.F.args_tuple_add_2 _ _)
   (tuple_addW1 t b vs.toArray ws.toArray n n2 dd dd2 sl sl2 (by simpa using hv) (by simp[hw])) ⟨ho,ho2,h1 hw⟩
 ·refine concat_meets ⟨_,ho,rfl⟩ ⟨_,ho2,rfl⟩ noFill_tuple_add seq_tuple_add PySem.F.slot_tuple_add PySem.F.entry_tuple_add (PySem.F.args_tuple_add_2 _ _)
   (tuple_addW2 t b vs.toArray ws.toArray n n2 dd dd2 sl sl2 (by simpa using hv) (by simpa using hw) (by rw[cg,cg];exact hsz)) ⟨ho,ho2,?_⟩
  rw[e];exact h2 hw
noncomputable def sIx(n d:Nat):Option Int->Nat
 |none=>d
 |some v=>if v<0 then(v+(n:Int)).toNat else min v.toNat n
theorem sIx_none(n d:Nat):sIx n d none=d:=rfl
theorem sIx_nat(n d k:Nat):sIx n d (some (k:Int))=min k n:=by
 show(if (k:Int)<0 then((k:Int)+(n:Int)).toNat else min (k:Int).toNat n)=min k n;rw[if_neg (by omega),Int.toNat_natCast]
theorem JR(n d:Nat)(hd:d<=n)(o:Option Int):sIx n d o<=n:=by
 cases o with
 |none=>exact hd
 |some v=>
  show(if v<0 then(v+(n:Int)).toNat else min v.toNat n)<=n;by_cases hv:v<0
  ·rw[if_pos hv];omega
  ·rw[if_neg hv];exact Nat.min_le_right _ _
theorem Am(v:Int)(n d:Nat):(if v<0 then max (v+(n:Int)) 0 else min v (n:Int))=((sIx n d (some v):Nat):Int):=by
 show(if v<0 then max (v+(n:Int)) 0 else min v (n:Int))=(((if v<0 then(v+(n:Int)).toNat else min v.toNat n):Nat):Int);by_cases hv:v<0
 ·simp only[if_pos hv];omega
 ·simp only[if_neg hv];omega
theorem Ml(lo hi:Option Int)(n:Nat):Builtin.Slice.sliceAdjust lo hi 1 (n:Int)=(((sIx n 0 lo:Nat):Int),((sIx n n hi:Nat):Int)):=by
 have h1:¬ ((1:Int)<0):=by omega
 unfold Builtin.Slice.sliceAdjust;simp only[h1,if_false];refine Prod.ext ?_ ?_
 ·cases lo with
  |none=>rfl
  |some v=>exact Am v n 0
 ·cases hi with
  |none=>rfl
  |some v=>exact Am v n n
theorem N1(i j:Nat):Builtin.Slice.slicePlaces (i:Int) (j:Int) 1=j-i:=by
 unfold Builtin.Slice.slicePlaces;have h1:(1:Int) > 0:=by omega
 simp only[h1,if_true,Int.ediv_one];split<;>omega
theorem Dk{v:Value}{o:Option Int}{Q:Option Int->Shared->Prop}(p:IsPart v o)(h:Q o s):wpAny (model prog w) A (Builtin.Slice.slicePartIndex v) Q E s:=by
 cases p with
 |none=>exact slicePart_none h
 |int i t=>exact slicePart_int h
theorem sliceApplied_gen{sl:Addr}{vl vu:Value}{lo hi:Option Int}{n:Nat}{Q:Int×Int×Nat->Shared->Prop}(hs:s.heap.IsSliceOf sl vl vu .none)(pl:IsPart vl lo)(pu:IsPart vu hi)
  (h:Q (((sIx n 0 lo:Nat):Int),1,sIx n n hi-sIx n 0 lo) s):wpAny (model prog w) A (Builtin.Slice.sliceApplied (.ref sl) (pure (n:Int))) Q E s:=by
 obtain⟨os,hos,hcs,hds⟩:=id hs;unfold Builtin.Slice.sliceApplied Builtin.Slice.sliceFields;refine af (af (wpAny_field hos hds (x:=vl) rfl (af (wpAny_field hos hds (x:=vu) rfl (af (wpAny_field hos hds (x:=.none) rfl (ao ?_)))))));refine af (slicePart_none ?_);show wpAny _ _ (if ((1:Int)==0)=true then _ else _) _ _ s;rw[if_neg (by decide)];refine af (Dk pl (af (Dk pu (af (ao ?_)))));show wpAny _ _ (match Builtin.Slice.sliceAdjust lo hi 1 (n:Int) with|(lo,hi)=>pure (lo,(1:Int),Builtin.Slice.slicePlaces lo hi 1)) _ _ s;rw[Ml lo hi n];show wpAny _ _ (pure (((sIx n 0 lo:Nat):Int),(1:Int),Builtin.Slice.slicePlaces ((sIx n 0 lo:Nat):Int) ((sIx n n hi:Nat):Int) 1)) _ _ s;rw[N1];exact ao h
theorem LK(xs:Array Value)(i k:Nat):((List.range k).filterMap λ(m:Nat)=>xs[((i:Int)+(m:Int)*1).toNat]?).toArray=((xs.toList.drop i).take k).toArray:=by
 have e:(λ(m:Nat)=>xs[((i:Int)+(m:Int)*1).toNat]?)=λm=>xs[i+m]?:=by
  funext m;have:((i:Int)+(m:Int)*1).toNat=i+m:=by omega
  rw[this]
 rw[e];have:=pick_run xs i k;rw[nr]at this;have e2:((λx=>xs[x]?)∘λx=>i+x)=λm=>xs[i+m]?:=rfl
 rw[e2]at this;rw[this]
theorem getItem_tuple_cut{t sl:Addr}{items:Array Value}{vl vu:Value}{lo hi:Option Int}{Q:Value->Shared->Prop}(ht:IsTup s.heap t items)(hs:s.heap.IsSliceOf sl vl vu .none)(pl:IsPart vl lo)(pu:IsPart vu hi)
  (hw:¬ (sIx items.size 0 lo=0/\sIx items.size items.size hi=items.size))
  (h:Q (.ref s.heap.objs.size) {s with heap:=s.heap.push {cls:=.type "tuple",data:=.seq ((items.toList.drop (sIx items.size 0 lo)).take (sIx items.size items.size hi-sIx items.size 0 lo)).toArray}})
  (hsz:items.size<=sizeLine):wpAny (model prog w) A (getItem (.ref t) (.ref sl)) Q E s:=by
 have htake:sizeOk (.seq ((items.toList.drop (sIx items.size 0 lo)).take (sIx items.size items.size hi-sIx items.size 0 lo)).toArray):=by
  show((items.toList.drop (sIx items.size 0 lo)).take (sIx items.size items.size hi-sIx items.size 0 lo)).toArray.size<=sizeLine;rw[cg,g8,m5,fc];omega
 have hj:sIx items.size items.size hi<=items.size:=JR _ _ (bp _) hi;obtain⟨os,hos,hcs,hds⟩:=id hs;have hTs:s.TypeIs (.ref sl) "slice":=⟨os,hos,hcs⟩
 unfold getItem
 try with_reducible refine i5 ?_
 first|refine af (ao ?_)|skip
 refine af (wpAny_sequenceKey ht.typeIs (by decide) ?_)
 refine af (wpAny_callSpecial?_slot (name:=Str.ofString "__getitem__") ht.typeIs PyProof.Rows.slot_tuple_getitem
  (fj PyProof.Rows.slot_tuple_getitem ht.typeIs entry_tuple_getitem ?_ (args_tuple_getitem _ _)))
 show wpAny _ _ (Builtin.Tuple.tupleItemsOf (.ref t) >>= _) _ _ s;refine af (tupleItemsOf_ ht ?_);refine af (wpAny_typeOf hTs ?_);rw[if_pos (by decide)];refine af (sliceApplied_gen hs pl pu ?_);have hno:¬ ((((sIx items.size 0 lo:Nat):Int)==0&&(1:Int)==1&&(sIx items.size items.size hi-sIx items.size 0 lo)==items.size)=true):=by
  intro q;rw[i6,i6]at q;have q1:((sIx items.size 0 lo:Nat):Int)=0:=eq_of_beq q.1.1;have q2:sIx items.size items.size hi-sIx items.size 0 lo=items.size:=eq_of_beq q.2;exact hw ⟨by omega,by omega⟩
 show wpAny _ _ (if (((sIx items.size 0 lo:Nat):Int)==0&&(1:Int)==1&&(sIx items.size items.size hi-sIx items.size 0 lo)==items.size)=true then _ else _) _ _ s;rw[if_neg hno,LK]
 first
  |exact af (m:=Builtin.Tuple.tupleExact _) (gh (ao ⟨_,rfl,ao h⟩) htake)
  |exact af (m:=Builtin.Tuple.tupleExact _) (gh (af (ao (ao ⟨_,rfl,ao h⟩))) htake)
  |exact af (af (m:=Builtin.Tuple.tupleExact _) (gh (ao (ao ⟨_,rfl,ao h⟩)) htake))
  |exact af (af (m:=Builtin.Tuple.tupleExact _) (gh (ao ⟨_,rfl,ao h⟩) htake))
end
end HT
namespace L2
open PySem PySem.Spec PyProof.Rows
noncomputable abbrev TO:=St->Hp->(Option Int->Hp->Prop)->Prop
noncomputable def PO(X:Cx)(e:Option Expr)(t:TO):Prop:=
 ∀(Pp:List (Addr×Obj)) (s:Shared) (σ:St) (H:Hp) (Q:Option Int->Hp->Prop),ag X Pp σ H s->t σ H Q ->
  wpAny (model X.prog X.w) X.A (evalPart e X.env) (λu s'=>∃o H',ag X Pp σ H' s'/\IsPart u o/\Q o H') X.xe s
noncomputable def KG:TO:=λ_ H Q=>Q none H
noncomputable def GC(t:TE):TO:=λσ H Q=>t σ H λx H1=>∃i,x=.int i/\Q (some i) H1
theorem rK{ns:List Int}:∀{us:List Value},ak (ns.map V.int) us->IntsAre us ns:=by
 induction ns with
 |nil=>intro us r;rw[mz]at r;cases r;exact .nil
 |cons n ns ih=>
  intro us r;rw[d9]at r;cases r with
  |cons r1 r2=>
   obtain⟨t,e⟩:=r1;subst e;exact .cons n t (ih r2)
section
variable{X:Cx}{e:Expr}{te:TE}{lo hi:Option Expr}{tl th:TO}{pos p2:Pos}
theorem BH:PO X none KG:=by
 intro Pp s σ H Q I h;rw[evalPart_none];exact ao ⟨none,H,I,.none,h⟩
theorem BI(h:PE X e te):PO X (some e) (GC te):=by
 intro Pp s σ H Q I hw;rw[evalPart_some];refine bj (h Pp s σ H _ I hw) λu s1 ⟨x,H1,I1,r1,q1⟩=>?_
 obtain⟨i,rfl,q⟩:=q1;obtain⟨t,rfl⟩:=r1;exact⟨some i,H1,I1,.int i t,q⟩
noncomputable def o8(X:Cx)(r:V->Option Int->Option Int->Hp->VK->Prop):Prop:=
 ∀(Pp:List (Addr×Obj)) (s:Shared) (σ:St) (H:Hp) (x:V) (v vl vu:Value) (lo hi:Option Int) (sl:Addr) (Q:VK),ag X Pp σ H s->aj x v->s.heap.IsSliceOf sl vl vu .none->IsPart vl lo->IsPart vu hi->r x lo hi H Q ->
  ∃T id,typeLookup (.type T) "__getitem__"=pure (some (.builtin id))/\s.TypeIs v T/\wpAny (model X.prog X.w) X.A (getItem v (.ref sl)) (EP X Pp σ Q) X.xe s
theorem o8.or{r r':V->Option Int->Option Int->Hp->VK->Prop}(h:o8 X r)(h':o8 X r'):o8 X (λx lo hi H Q=>r x lo hi H Q\/r' x lo hi H Q):=by
 intro Pp s σ H x v vl vu lo hi sl Q I rx hs pl pu q;rcases q with q|q
 ·exact h Pp s σ H x v vl vu lo hi sl Q I rx hs pl pu q
 ·exact h' Pp s σ H x v vl vu lo hi sl Q I rx hs pl pu q
noncomputable def Oh(r:V->Option Int->Option Int->Hp->VK->Prop)(te:TE)(tl th:TO):TE:=λσ H Q=>te σ H λx H1=>tl σ H1 λl H2=>th σ H2 λu H3=>r x l u H3 Q
theorem BA{r:V->Option Int->Option Int->Hp->VK->Prop}(hr:o8 X r)(he:PE X e te)(hl:PO X lo tl)(hu:PO X hi th):PE X (.Subscript e (.Slice lo hi none p2) pos) (Oh r te tl th):=by
 intro Pp s σ H Q I h;refine Subscript_ (bj (he Pp s σ H _ I h) λv s1 ⟨x,H1,I1,r1,q1⟩=>?_);refine wpAny_Slice (bj (hl Pp s1 σ H1 _ I1 q1) λvl s2 ⟨l,H2,I2,pl,q2⟩=>bj (hu Pp s2 σ H2 _ I2 q2) λvu s3 ⟨u,H3,I3,pu,q3⟩=>?_);rw[evalPart_none];refine ao ?_;have I4:ag X Pp σ H3 {s3 with heap:=s3.heap.push {cls:=.type "slice",data:=.fields #[vl,vu,.none]}}:=I3.kept (t':=s3.toks) λb ob q=>b6 _ q
 obtain⟨T,id,hT,ht,hg⟩:=hr Pp {s3 with heap:=s3.heap.push {cls:=.type "slice",data:=.fields #[vl,vu,.none]}} σ H3 x v vl vu l u s3.heap.objs.size Q I4 r1 (Heap.IsSliceOf.new ..) pl pu q3;show wpAny (model X.prog X.w) X.A (subscriptTail e (.Slice lo hi none p2) v (.ref s3.heap.objs.size)) (EP X Pp σ Q) X.xe {s3 with heap:=s3.heap.push {cls:=.type "slice",data:=.fields #[vl,vu,.none]}};exact tail_any (ops:=[.ref s3.heap.objs.size,v]) ht hT hg (by with_unfolding_all rfl)
noncomputable def iA(xs:List V)(lo hi:Option Int):List V:=(xs.drop (HT.sIx xs.length 0 lo)).take (HT.sIx xs.length xs.length hi-HT.sIx xs.length 0 lo)
theorem Dp(xs:List V)(lo hi:Option Int):(iA xs lo hi).length<=xs.length:=by
 unfold iA;rw[g8,m5];omega
noncomputable def Fh(K:W.Frag):V->Option Int->Option Int->Hp->VK->Prop:=λx lo hi H Q=>∃a xs,x=.ref a/\cu K H a xs /\
 ¬ (HT.sIx xs.length 0 lo=0/\HT.sIx xs.length xs.length hi=xs.length)/\∀p,H p=none->Q (.ref p) (aw H p (.tup (iA xs lo hi)))
theorem Jo:o8 X (Fh X.K):=by
 intro Pp s σ H x v vl vu lo hi sl Q I rx hs pl pu h;obtain⟨a,xs,rfl,hx,hw,q⟩:=h;cases rx;obtain⟨its,r,ht,hz⟩:=I.tuple hx;have hlen:its.toArray.size=xs.length:=by rw[cg];exact r.length.symm
 refine⟨"tuple",_,PyProof.Rows.slot_tuple_getitem.lookup,ht.typeIs,?_⟩;refine HT.getItem_tuple_cut ht hs pl pu (by rw[hlen];exact hw) ?_ (by rw[hlen];exact hz);rw[hlen];refine⟨.ref s.heap.objs.size,_,I.laid (t':=s.toks) (o:=.tup (iA xs lo hi)) (λb ob q=>b6 _ q) (bp _) ?_,rfl,q _ (I.hok.fresh (bp _))⟩;exact⟨bu (Dp xs lo hi) hz,_,(r.drop (HT.sIx xs.length 0 lo)).take (HT.sIx xs.length xs.length hi-HT.sIx xs.length 0 lo),IsTup.new _ _⟩
noncomputable def Gb(K:W.Frag):R2:=λx y H Q=>∃a b xs ys,x=.ref a/\y=.ref b/\cu K H a xs/\cu K H b ys/\xs≠[]/\xs.length+ys.length<=sizeLine /\
 (ys=[]->Q (.ref a) H)/\(ys≠[]->∀p,H p=none->Q (.ref p) (aw H p (.tup (xs++ys))))
theorem ak.nil_iff{xs:List V}{us:List Value}(r:ak xs us):us=[]↔xs=[]:=by
 cases r with
 |nil=>simp
 |cons _ _=>simp
theorem Jh:cf X (binaryOp .Add) (Gb X.K):=by
 intro Pp s σ H x y v u Q I rx ry h;obtain⟨a,b,xs,ys,rfl,rfl,ha,hb,hx,hz,q1,q2⟩:=h;cases rx;cases ry;obtain⟨its,r1,p1,_⟩:=I.tuple ha;obtain⟨its2,r2,p2,_⟩:=I.tuple hb;refine HT.cat_tup p1 p2 (λz=>hx (r1.nil_iff.mp z)) (λz=>⟨.ref a,H,I,rfl,q1 (r2.nil_iff.mp z)⟩) (λz=>?_) (by rw[<-r1.length,<-r2.length];exact hz);refine⟨.ref s.heap.objs.size,_,I.laid (t':=s.toks) (o:=.tup (xs++ys)) (λb ob q=>b6 _ q) (bp _) ?_,rfl,q2 (λw=>z (r2.nil_iff.mpr w)) _ (I.hok.fresh (bp _))⟩;exact⟨by rw[b8];exact hz,_,r1.append r2,IsTup.new _ _⟩
end
noncomputable def qf(n:Nat)(i:Int):Option Nat:=if 0<=i then(if i<n then some i.toNat else none) else if -(n:Int)<=i then some (i+n).toNat else none
noncomputable def je{α:Type}(xs:List α)(i:Int):Option α:=(qf xs.length i).bind λj=>xs[j]?
theorem AA{n:Nat}{i:Int}{j:Nat}(h:qf n i=some j):seqIndex? i n=some j/\j<n /\ -(n:Int)<=i/\i<n:=by
 unfold qf at h;by_cases h0:0<=i
 ·rw[if_pos h0]at h;by_cases h1:i<n
  ·rw[if_pos h1]at h;have e:i.toNat=j:=Option.some.inj h;exact⟨by rw[seqIndex_of h0 h1,e],by omega,by omega,h1⟩
  ·rw[if_neg h1]at h;cases h
 ·rw[if_neg h0]at h;by_cases h1:-(n:Int)<=i
  ·rw[if_pos h1]at h;have e:(i+n).toNat=j:=Option.some.inj h;exact⟨by rw[seqIndex_neg (by omega) h1,e],by omega,h1,by omega⟩
  ·rw[if_neg h1]at h;cases h
theorem yS{α:Type}{xs:List α}{i:Int}{v:α}(h:je xs i=some v):∃j,seqIndex? i xs.length=some j/\xs[j]?=some v/\j<xs.length /\ -(xs.length:Int)<=i/\i<xs.length:=by
 unfold je at h;cases e:qf xs.length i with
 |none=>rw[e]at h;cases h
 |some j=>
  rw[e]at h;obtain⟨h1,h2,h3,h4⟩:=AA e;exact⟨j,h1,h,h2,h3,h4⟩
theorem aQ{α:Type}{xs:List α}{j:Nat}{v:α}(h:xs[j]?=some v):je xs (j:Int)=some v:=by
 have hj:j<xs.length:=(qB_.mp h).1;have e:qf xs.length (j:Int)=some j:=by
  unfold qf;rw[if_pos (by omega),if_pos (by omega)];simp
 unfold je;rw[e];exact h
noncomputable def tF(b:Expr):Prop:=∀o i,subscripted b false o i=operate [o,i] (getItem o i)
noncomputable def nk(X:Cx)(r:R2):Prop:=
 ∀(value slice:Expr) (Pp:List (Addr×Obj)) (s:Shared) (σ:St) (H:Hp) (x y:V) (v u:Value) (Q:VK),ag X Pp σ H s->aj x v->aj y u->r x y H Q ->
  subscripted slice false v u=operate [v,u] (getItem v u)->wpAny (model X.prog X.w) X.A (subscriptTail value slice v u) (EP X Pp σ Q) X.xe s
noncomputable def sf(X:Cx)(id:String)(r:V->List V->Hp->VK->Prop):Prop:=
 ∀(Pp:List (Addr×Obj)) (s:Shared) (σ:St) (H:Hp) (x:V) (xs:List V) (v:Value) (us:List Value) (Q:VK),ag X Pp σ H s->aj x v->ak xs us->r x xs H Q ->
  wpAny (model X.prog X.w) X.A (call (.builtin id) (v::us)) (EP X Pp σ Q) X.xe s
section
variable{X:Cx}{a b:Expr}{ta tb:TE}{pos:Pos}
theorem nk.or{r r':R2}(h:nk X r)(h':nk X r'):nk X (λx y H Q=>r x y H Q\/r' x y H Q):=by
 intro value slice Pp s σ H x y v u Q I rx ry q hs;rcases q with q|q
 ·exact h value slice Pp s σ H x y v u Q I rx ry q hs
 ·exact h' value slice Pp s σ H x y v u Q I rx ry q hs
theorem jX{r:R2}(hr:nk X r)(ha:PE X a ta)(hb:PE X b tb)(hs:tF b):PE X (.Subscript a b pos) (r9 r ta tb):=by
 intro Pp s σ H Q I h;exact Subscript_ (u4 ha hb I h λv u s2 x y H2 I2 rx ry q=>hr a b Pp s2 σ H2 x y v u Q I2 rx ry q (hs _ _))
noncomputable def zv(K:W.Frag):R2:=λx y H Q=>∃p xs i v,x=.ref p/\y=.int i/\b_ K H p xs/\je xs i=some v/\Q v H
noncomputable def zx(K:W.Frag):R2:=λx y H Q=>∃p xs i v,x=.ref p/\y=.int i/\cu K H p xs/\je xs i=some v/\Q v H
noncomputable def zw:R2:=λx y H Q=>∃z i c,x=.str z/\y=.int i/\z.length<=sizeLine/\je z.cps.toList i=some c/\Q (.str ⟨#[c]⟩) H
theorem ix_list:nk X (zv X.K):=by
 intro value slice Pp s σ H x y v u Q I rx ry h hs;obtain⟨p,xs,i,z,rfl,rfl,hq,he,q⟩:=h;cases rx;obtain⟨t,rfl⟩:=ry;obtain⟨its,r,pl,hz⟩:=I.list hq;obtain⟨j,h1,h2,h3,h4,h5⟩:=yS he;obtain⟨w,ew,rw'⟩:=r.get h2;have hl:=r.length;have hn:=nS;have fin:EP X Pp σ Q w s:=⟨z,H,I,rw',q⟩
 by_cases h0:0<=i
 ·have hj:i.toNat=j:=by
   rw[seqIndex_of h0 h5]at h1;exact Option.some.inj h1
  exact item_listR pl.isList h0 (by omega) (by rw[hj];simpa using ew) fin hs
 ·have hj:(i+(its.toArray.size:Int)).toNat=j:=by
   rw[seqIndex_neg (by omega) h4]at h1;rw[cg,<-hl];exact Option.some.inj h1
  exact subscriptTail_builtinR (x:=w) pl.isList.typeIs slot_list_getitem.lookup
   (wpAny_getItem_list_neg (Q:=λr s'=>r=w/\EP X Pp σ Q r s') pl.isList (by omega) (by rw[cg]<;>omega) (by omega) (by rw[hj];simpa using ew) ⟨rfl,fin⟩) hs
theorem ix_tup:nk X (zx X.K):=by
 intro value slice Pp s σ H x y v u Q I rx ry h hs;obtain⟨p,xs,i,z,rfl,rfl,hq,he,q⟩:=h;cases rx;obtain⟨t,rfl⟩:=ry;obtain⟨its,r,pl,hz⟩:=I.tuple hq;obtain⟨j,h1,h2,h3,h4,h5⟩:=yS he;obtain⟨w,ew,rw'⟩:=r.get h2;have hl:=r.length;have hn:=nS;have fin:EP X Pp σ Q w s:=⟨z,H,I,rw',q⟩
 exact subscriptTail_builtinR (x:=w) pl.typeIs slot_tuple_getitem.lookup
  (getItem_tuple (j:=j) (Q:=λr s'=>r=w/\EP X Pp σ Q r s') pl (by omega) (by omega) (by rw[cg,<-hl];exact h1) (by simpa using ew) ⟨rfl,fin⟩) hs
theorem Ig:nk X zw:=by
 intro value slice Pp s σ H x y v u Q I rx ry h hs;obtain⟨z,i,c,rfl,rfl,hz,he,q⟩:=h;obtain⟨t,rfl⟩:=rx;obtain⟨t',rfl⟩:=ry;obtain⟨j,h1,h2,h3,h4,h5⟩:=yS he;have hl:z.cps.toList.length=z.length:=by simp[Str.length]
 rw[hl]at h1 h4 h5;have hn:=nS
 exact tail_any (typeIs_str s z t) slot_str_getitem.lookup (getItem_str (c:=c) (by
  have e1:decide (i < -(2 ^ 63:Int))=false:=dq (by omega);have e2:decide (i>=2 ^ 63)=false:=dq (by omega)
  rw[e1,e2,ku]) (by rw[h1];simpa using h2) ⟨.str ⟨#[c]⟩,H,I.tok _,⟨_,rfl⟩,q⟩) hs
noncomputable def Oq(K:W.Frag):R2:=λx y H Q=>zv K x y H Q\/zx K x y H Q\/zw x y H Q
theorem ix_seq:nk X (Oq X.K):=ix_list.or (ix_tup.or Ig)
theorem MA(its:List Value)(n j:Nat)(u:Value):Obj.mapSeq (·.setIfInBounds j u) {cls:=.type "list",data:=.seq its.toArray n}={cls:=.type "list",data:=.seq (its.set j u).toArray n}:=by
 simp[Obj.mapSeq]
theorem ag.lst{Pp:List (Addr×Obj)}{σ:St}{H:Hp}{s:Shared}{p:Addr}{xs:List V}(I:ag X Pp σ H s)(h:H p=some (.lst xs)):
  ∃(its:List Value) (n:Nat),ak xs its/\s.heap.get? p=some {cls:=.type "list",data:=.seq its.toArray n}/\xs.length<=sizeLine:=by
 obtain⟨z,its,n,r,e⟩:=I.hok p _ h;exact⟨its,n,r,e,z⟩
theorem ag.lstUpd{Pp:List (Addr×Obj)}{σ:St}{H:Hp}{s:Shared}{p:Addr}{xs ys:List V}{its its':List Value}{n n':Nat}{f:Obj->Obj}(I:ag X Pp σ H s)(h:H p=some (.lst xs))
  (ho:s.heap.get? p=some {cls:=.type "list",data:=.seq its.toArray n}) (hf:f {cls:=.type "list",data:=.seq its.toArray n}={cls:=.type "list",data:=.seq its'.toArray n'}) (r:ak ys its') (hz:ys.length<=sizeLine) (t:Nat):
  ag X Pp σ (aw H p (.lst ys)) {s with heap:=s.heap.update p f,toks:=t}:=by
 have e:(s.heap.update p f).get? p=some {cls:=.type "list",data:=.seq its'.toArray n'}:=by
  rw[fu f ho (by rw[hf]<;>rfl),hf]
 refine I.write (x:=p) (e:=p) (by rw[h];trivial) (.inl rfl) (λb u hb q=>(mw _ _ (Ne.symm hb)).trans q) ⟨_,e⟩ ?_;exact⟨hz,its',n',r,e⟩
noncomputable def Gp:V->V->V->Hp->(Hp->Prop)->Prop:=λo i v H Q=>∃p xs k j,o=.ref p/\i=.int k/\H p=some (.lst xs)/\qf xs.length k=some j/\Q (aw H p (.lst (xs.set j v)))
theorem LV:xa X Gp:=by
 intro Pp s σ H o i v ov iv u Q I ro ri rv h;obtain⟨p,xs,k,j,rfl,rfl,hp,hj,q⟩:=h;cases ro;obtain⟨t,rfl⟩:=ri;obtain⟨its,n,r,ho,hz⟩:=I.lst hp;obtain⟨h1,h2,h3,h4⟩:=AA hj;have hl:=r.length;have hn:=nS;have I':ag X Pp σ (aw H p (.lst (xs.set j v))) {s with heap:=s.heap.update p (Obj.mapSeq (·.setIfInBounds j u))}:=
  I.lstUpd hp ho (MA its n j u) (r.set rv j) (by rw[jc];exact hz) s.toks
 by_cases h0:0<=k
 ·have hk:k.toNat=j:=by
   rw[seqIndex_of h0 h4]at h1;exact Option.some.inj h1
  exact PySem.W.ki_setAt ho h0 (by omega) (by rw[cg,<-hl];exact h4) (by rw[hk];exact⟨_,I',q⟩)
 ·have hk:(k+(its.toArray.size:Int)).toNat=j:=by
   rw[seqIndex_neg (by omega) h3]at h1;rw[cg,<-hl];exact Option.some.inj h1
  exact PySem.W.ki_setBack ho (by omega) (by rw[cg,<-hl];exact h3) (by omega) (by rw[hk];exact⟨_,I',q⟩)
theorem NV(lo hi:Option Int)(n:Nat):(sliceBounds lo hi none n).1=((HT.sIx n 0 lo:Nat):Int)/\(sliceBounds lo hi none n).2.1=((HT.sIx n n hi:Nat):Int)/\(sliceBounds lo hi none n).2.2=1:=by
 refine⟨?_,?_,rfl⟩
 ·cases lo with
  |none=>simp[sliceBounds,HT.sIx]
  |some i=>
   simp only[sliceBounds,HT.sIx,Option.getD_none,show(1:Int) > 0 by decide,if_true];by_cases h:i<0
   ·simp only[h,if_true]<;>omega
   ·simp only[h,if_false]<;>omega
 ·cases hi with
  |none=>simp[sliceBounds,HT.sIx]
  |some i=>
   simp only[sliceBounds,HT.sIx,Option.getD_none,show(1:Int) > 0 by decide,if_true];by_cases h:i<0
   ·simp only[h,if_true]<;>omega
   ·simp only[h,if_false]<;>omega
theorem Np(its:List Value)(lo hi:Option Int):slicePick its.toArray lo hi none=((its.drop (HT.sIx its.length 0 lo)).take (HT.sIx its.length its.length hi-HT.sIx its.length 0 lo)).toArray:=by
 obtain⟨h1,h2,h3⟩:=NV lo hi its.toArray.size;unfold slicePick;rw[h1,h2,h3];simp only[sliceRange_one,pick_run,cg]<;>rfl
noncomputable def Ff(K:W.Frag):V->Option Int->Option Int->Hp->VK->Prop:=λx lo hi H Q=>∃a xs,x=.ref a/\b_ K H a xs/\∀p,H p=none->Q (.ref p) (aw H p (.lst (iA xs lo hi)))
theorem sl_list:o8 X (Ff X.K):=by
 intro Pp s σ H x v vl vu lo hi sl Q I rx hs pl pu h;obtain⟨a,xs,rfl,hx,q⟩:=h;cases rx;obtain⟨its,r,ht,hz⟩:=I.list hx;have hlen:=r.length;refine⟨"list",_,slot_list_getitem.lookup,ht.isList.typeIs,?_⟩;refine wpAny_getItem_list_slice ht.isList hs pl pu .none (by simp) ?_ (by rw[cg]<;>omega);rw[Np,<-hlen];refine⟨.ref s.heap.objs.size,_,I.laid (t':=s.toks) (o:=.lst (iA xs lo hi)) (λb ob q=>b6 _ q) (bp _) ?_,rfl,q _ (I.hok.fresh (bp _))⟩;exact⟨bu (Dp xs lo hi) hz,_,0,(r.drop (HT.sIx xs.length 0 lo)).take (HT.sIx xs.length xs.length hi-HT.sIx xs.length 0 lo),cy _ rfl⟩
noncomputable def eC:V->Bool
 |.non=>true
 |.bl _=>true
 |.int _=>true
 |.str _=>true
 |_=>false
noncomputable def dr:V->V->Bool
 |.non,.non=>true
 |.bl a,.bl b=>a==b
 |.bl a,.int b=>(if a then 1 else 0)==b
 |.int a,.bl b=>a==(if b then 1 else 0)
 |.int a,.int b=>a==b
 |.str a,.str b=>a==b
 |_,_=>false
theorem A9{A:Around}{s:Shared}{y x:V}{u v:Value}(ry:aj y u)(rx:aj x v)(fy:eC y=true)(fx:eC x=true):SeqAt.EqAt A s u v (dr y x):=by
 cases y with
 |non=>
  cases ry;cases x with
  |non=>cases rx;exact SeqAt.EqAt.same _
  |bl b=>cases rx;exact SeqAt.EqAt.none_bool b
  |int b=>obtain⟨t,rfl⟩:=rx;exact SeqAt.EqAt.none_int b t
  |str b=>obtain⟨t,rfl⟩:=rx;exact SeqAt.EqAt.none_str b t
  |_=>exact absurd (show false=true from fx) b9
 |bl a=>
  cases ry;cases x with
  |non=>cases rx;exact SeqAt.EqAt.bool_none a
  |bl b=>cases rx;exact SeqAt.EqAt.bool_bool a b
  |int b=>obtain⟨t,rfl⟩:=rx;exact SeqAt.EqAt.bool_int a b t
  |str b=>obtain⟨t,rfl⟩:=rx;exact SeqAt.EqAt.bool_str a b t
  |_=>exact absurd (show false=true from fx) b9
 |int a=>
  obtain⟨t',rfl⟩:=ry;cases x with
  |non=>cases rx;exact SeqAt.EqAt.int_none a t'
  |bl b=>cases rx;exact SeqAt.EqAt.int_bool a t' b
  |int b=>obtain⟨t,rfl⟩:=rx;exact SeqAt.EqAt.int_int a t' b t
  |str b=>obtain⟨t,rfl⟩:=rx;exact SeqAt.EqAt.int_str a t' b t
  |_=>exact absurd (show false=true from fx) b9
 |str a=>
  obtain⟨t',rfl⟩:=ry;cases x with
  |non=>cases rx;exact SeqAt.EqAt.str_none a t'
  |bl b=>cases rx;exact SeqAt.EqAt.str_bool a t' b
  |int b=>obtain⟨t,rfl⟩:=rx;exact SeqAt.EqAt.str_int a t' b t
  |str b=>obtain⟨t,rfl⟩:=rx;exact SeqAt.EqAt.str_str a t' b t
  |_=>exact absurd (show false=true from fx) b9
 |_=>exact absurd (show false=true from fy) b9
theorem op_notIn_str:cf X (compareOp .NotIn) (λx y H Q=>∃i j,x=.str i/\y=.str j/\Q (.bl (!(!(Builtin.Str.occurrences j i 0 j.length 1).isEmpty))) H):=by
 intro Pp s σ H x y v u Q I rx ry h;obtain⟨i,j,rfl,rfl,q⟩:=h;obtain⟨t,rfl⟩:=rx;obtain⟨t',rfl⟩:=ry;exact notIn_str ⟨.bl _,H,I,rfl,q⟩
theorem call_len_seq:au X (.builtin "len") (λxs H Q=>∃p ys,xs=[.ref p]/\(b_ X.K H p ys\/cu X.K H p ys)/\Q (.int ys.length) H):=by
 intro Pp s σ H xs us Q I r h;obtain⟨p,ys,rfl,hq,q⟩:=h;obtain⟨u,rfl,rx⟩:=cY r;cases rx;have hn:=nS;rcases hq with hq|hq
 ·obtain⟨its,r',pl,hz⟩:=I.list hq;have hlen:=r'.length;exact Calls.call_len_list pl.isList (by simp only[cg]<;>omega) ⟨.int ys.length,H,I.tok _,⟨s.toks+1,by rw[cg,hlen]⟩,q⟩
 ·obtain⟨its,r',pl,hz⟩:=I.tuple hq;have hlen:=r'.length;exact len_tuple pl (by simp only[cg]<;>omega) ⟨.int ys.length,H,I.tok _,⟨s.toks+1,by rw[cg,hlen]⟩,q⟩
theorem call_len_str:au X (.builtin "len") (λxs H Q=>∃z,xs=[.str z]/\z.length<=sizeLine/\Q (.int z.length) H):=by
 intro Pp s σ H xs us Q I r h;obtain⟨z,rfl,hz,q⟩:=h;obtain⟨u,rfl,t,rfl⟩:=cY r;have hn:=nS;exact len_str (by omega) ⟨.int z.length,H,I.tok _,⟨_,rfl⟩,q⟩
theorem au.or{f:Value}{r r':List V->Hp->VK->Prop}(h:au X f r)(h':au X f r'):au X f (λxs H Q=>r xs H Q\/r' xs H Q):=by
 intro Pp s σ H xs us Q I rs q;rcases q with q|q
 ·exact h Pp s σ H xs us Q I rs q
 ·exact h' Pp s σ H xs us Q I rs q
theorem Dy:au X (.type "list") (λxs H Q=>∃p ys,xs=[.ref p]/\(b_ X.K H p ys\/cu X.K H p ys)/\∀l,H l=none->Q (.ref l) (aw H l (.lst ys))):=by
 intro Pp s σ H xs us Q I r h;obtain⟨p,ys,rfl,hq,q⟩:=h;obtain⟨u,rfl,rx⟩:=cY r;cases rx;have fin:∀(its:List Value),ak ys its->ys.length<=sizeLine->∀(h':Heap) (c':Nat),(∀b o',s.heap.get? b=some o'->h'.get? b=some o') ->
   h'.get? s.heap.objs.size=some {cls:=.type "list",dict:=none,data:=.seq its.toArray c',slots:=#[]}->EP X Pp σ Q (.ref s.heap.objs.size) {s with heap:=h'}:=λits r' hz h' c' kp e=>
  ⟨.ref s.heap.objs.size,_,I.laid (t':=s.toks) kp (bp _) (show a_ X.prog X.w _ h' _ (.lst ys) from ⟨hz,its,c',r',e⟩),rfl,q _ (I.hok.fresh (bp _))⟩
 rcases hq with hq|hq
 ·obtain⟨its,r',pl,hz⟩:=I.list hq;have hlen:=r'.length;obtain⟨o,ho,hc,n,hd⟩:=pl.isList;exact call_list_seq p (.inl rfl) ho hc hd (λh' c' kp e=>fin its r' hz h' c' kp e) (by simp only[cg]<;>omega)
 ·obtain⟨its,r',pl,hz⟩:=I.tuple hq;have hlen:=r'.length;obtain⟨o,ho,hc,n,hd⟩:=pl;exact call_list_seq p (.inr rfl) ho hc hd (λh' c' kp e=>fin its r' hz h' c' kp e) (by simp only[cg]<;>omega)
theorem Nk:au X (.type "tuple") (λxs H Q=>∃p ys,xs=[.ref p]/\((b_ X.K H p ys/\∀l,H l=none->Q (.ref l) (aw H l (.tup ys)))\/(cu X.K H p ys/\Q (.ref p) H))):=by
 intro Pp s σ H xs us Q I r h;obtain⟨p,ys,rfl,h⟩:=h;obtain⟨u,rfl,rx⟩:=cY r;cases rx;rcases h with⟨hq,q⟩|⟨hq,q⟩
 ·obtain⟨its,r',pl,hz⟩:=I.list hq;have hlen:=r'.length;refine call_tuple_list pl.isList (λh' kp=>?_) (by simp only[cg]<;>omega);have I1:ag X Pp σ H {s with heap:=h'}:=I.kept (t':=s.toks) kp;have I2:ag X Pp σ (aw H h'.objs.size (.tup ys)) {s with heap:=h'.push {cls:=.type "tuple",data:=.seq its.toArray}}:=
   I1.laid (t':=s.toks) (λb o e=>b6 _ e) (bp _) (show a_ X.prog X.w _ _ _ (.tup ys) from ⟨hz,its,r',IsTup.new _ _⟩)
  exact⟨.ref h'.objs.size,_,I2,rfl,q _ (I1.hok.fresh (bp _))⟩
 ·obtain⟨its,r',pl,hz⟩:=I.tuple hq;exact call_tuple_same pl ⟨.ref p,H,I,rfl,q⟩
noncomputable def uf(K:W.Frag)(T:String)(x:V)(H:Hp):Prop:=match x with
 |.str _=>T="str"
 |.int _=>T="int"
 |.ref p=>(T="list"/\∃xs,b_ K H p xs)\/(T="tuple"/\∃o,K.lookup p=some o/\o.cls=.type "tuple"/\o.dict=none) \/
   (T="dict"/\((∃kvs,H p=some (.dK kvs))\/∃kvs,H p=some (.dT kvs)))\/(T="set"/\∃S n,H p=some (.set S n))
 |_=>False
theorem Ad{Pp:List (Addr×Obj)}{σ:St}{H:Hp}{s:Shared}{T:String}{x:V}{v:Value}(I:ag X Pp σ H s)(r:aj x v)(ty:uf X.K T x H):
  s.TypeIs v T/\∀a,v=.ref a->∃ob,s.heap.get? a=some ob/\ob.dict=none:=by
 cases x with
 |str z=>
  obtain⟨t,rfl⟩:=r;cases (show T="str" from ty);exact⟨typeIs_str s z t,λ_ e=>nomatch e⟩
 |int i=>
  obtain⟨t,rfl⟩:=r;cases (show T="int" from ty);exact⟨typeIs_int s i t,λ_ e=>nomatch e⟩
 |ref p=>
  cases r;rcases ty with⟨rfl,xs,hq⟩|⟨rfl,o,hk,hc,hd⟩|⟨rfl,hk⟩|⟨rfl,S,n,hk⟩
  ·obtain⟨its,_,pl,_⟩:=I.list hq;refine⟨pl.isList.typeIs,λa e=>?_⟩;cases e;obtain⟨o,n,e,c,hd,_⟩:=pl;exact⟨o,e,hd⟩
  ·refine⟨⟨o,I.kIn p o hk,hc⟩,λa e=>?_⟩;cases e;exact⟨o,I.kIn _ o hk,hd⟩
  ·have z:∃o,s.heap.get? p=some o/\o.ExactDict:=by
    rcases hk with⟨kvs,hk⟩|⟨kvs,hk⟩
    ·obtain⟨_,_,_,_,o,_,_,e,ex,_⟩:=I.hok p _ hk;exact⟨o,e,ex⟩
    ·obtain⟨_,_,_,_,o,_,_,e,ex,_⟩:=I.hok p _ hk;exact⟨o,e,ex⟩
   obtain⟨o,e,ex⟩:=z;refine⟨⟨o,e,ex.1⟩,λa e2=>?_⟩;cases e2;exact⟨o,e,ex.2.1⟩
  ·obtain⟨o,_,_,_,e,ex,_⟩:=I.hok p _ hk;refine⟨⟨o,e,ex.1⟩,λa e2=>?_⟩;cases e2;exact⟨o,e,ex.2.1⟩
 |_=>exact False.elim ty
noncomputable def Fl(K:W.Frag)(T:String)(r:V->List V->Hp->VK->Prop)(to:TE):TE:=λσ H Q=>to σ H λx H1=>uf K T x H1/\r x [] H1 Q
noncomputable def Ol(K:W.Frag)(T:String)(r:V->List V->Hp->VK->Prop)(to:TE)(t:TA):TE:=λσ H Q=>to σ H λx H1=>uf K T x H1/\t σ H1 λxs H2=>r x xs H2 Q
variable{o e:Expr}{es:List Expr}{to:TE}{t:TA}{name:Str}{Pw Pq:Pos}{T id:String}{r:V->List V->Hp->VK->Prop}
theorem Hx(pa:PlainAttrs T)(slot:Slot T name id)(hty:typeOf (.builtin id)=pure (.type "method_descriptor"))(hm:sf X id r)(ho:PE X o to)
  (PB:attributeBase o name X.env (eval o X.env)=eval o X.env:=by rfl) (Pz:(Pw.endLine==Pq.line)=true:=by rfl):PE X (.Call (.Attribute o name Pw) [] [] Pq) (Fl X.K T r to):=by
 intro Pp s σ H Q I h;refine wpAny_Call_method0_late PB Pz (bj (ho Pp s σ H _ I h) λv s1 ⟨x,H1,I1,r1,ty,q1⟩=>?_);obtain⟨h1,h2⟩:=Ad I1 r1 ty;exact⟨T,id,pa,slot,hty,h1,h2,Calls.callWith_builtin rfl (PySem.evalArgs_none (hm Pp s1 σ H1 x [] v [] Q I1 r1 .nil q1))⟩
theorem qF(pa:PlainAttrs T)(slot:Slot T name id)(hty:typeOf (.builtin id)=pure (.type "method_descriptor"))(hm:sf X id r)(ho:PE X o to)(ha:PA X (e::es) t)
  (PB:attributeBase o name X.env (eval o X.env)=eval o X.env:=by rfl)
  (hfew:((backTo Pq (starEach (e::es) X.env)).all (λx=>!x.1)&&(backToKw Pq (keywordEach [] X.env)).all (λx=>x.1.isSome)
   && decide ((e::es).length+([]:List Keyword).length+(if ([]:List Keyword).isEmpty then 0 else 1)<30))=true:=by rfl)
  (Pz:(Pw.endLine==Pq.line)=true:=by rfl) (hs:starEach (e::es) X.env=(false,eval e X.env)::starEach es X.env:=by rfl) (Py:(backTo Pq (starEach es X.env)).any (·.1)=false:=by rfl):
  PE X (.Call (.Attribute o name Pw) (e::es) [] Pq) (Ol X.K T r to t):=by
 intro Pp s σ H Q I h;refine wpAny_Call_method_late PB hfew Pz rfl (bj (ho Pp s σ H _ I h) λv s1 ⟨x,H1,I1,r1,ty,q1⟩=>?_);obtain⟨h1,h2⟩:=Ad I1 r1 ty;refine⟨T,id,pa,slot,hty,h1,h2,?_⟩;have hA:=ha Pq Pp s1 σ H1 _ I1 q1;rw[hs]at hA ⊢;refine Calls.callWith_builtin (by show(false || (backTo Pq (starEach es X.env)).any (·.1))=false;rw[Py]<;>rfl) (Calls.evalArgs_plain ?_);exact bj hA λus s2 ⟨vs,H2,I2,r2,q2⟩=>hm Pp s2 σ H2 x vs v us Q I2 r1 r2 q2
end
noncomputable def rn(X:Cx)(id:String)(r:V->List V->Hp->VK->Prop):Prop:=
 ∀(Pp:List (Addr×Obj)) (s:Shared) (σ:St) (H:Hp) (x:V) (xs:List V) (v:Value) (us:List Value) (Q:VK),ag X Pp σ H s->aj x v->ak xs us->r x xs H Q ->
  wpAny (model X.prog X.w) X.A (call (.builtin id) (v::us)) (EP X Pp σ Q) X.xe s
theorem ak.one:∀{x:V}{us:List Value},ak [x] us->∃u,us=[u]/\aj x u
 |_,_,.cons r .nil=>⟨_,rfl,r⟩
theorem ak.zero:∀{us:List Value},ak [] us->us=[]
 |_,.nil=>rfl
theorem ak.dropLast{xs:List V}{us:List Value}(h:ak xs us):ak xs.dropLast us.dropLast:=by
 induction h with
 |nil=>exact .nil
 |cons r t ih=>
  cases t with
  |nil=>exact .nil
  |cons q t'=>exact .cons r ih
theorem ak.eraseIdx:∀{xs:List V}{us:List Value}(i:Nat),ak xs us->ak (xs.eraseIdx i) (us.eraseIdx i)
 |_,_,_,.nil=>.nil
 |_,_,0,.cons _ t=>t
 |_,_,i+1,.cons r t=>.cons r (ak.eraseIdx i t)
theorem ak.reverse{xs:List V}{us:List Value}(h:ak xs us):ak xs.reverse us.reverse:=by
 induction h with
 |nil=>exact .nil
 |cons r t ih=>rw[rj,rj];exact ak.append ih (.cons r .nil)
theorem ak.rep{xs:List V}{us:List Value}(h:ak xs us):∀k:Nat,ak (List.replicate k xs).flatten (List.replicate k us).flatten
 |0=>.nil
 |k+1=>by
  rw[dg,dg,g6,g6];exact ak.append h (ak.rep h k)
theorem Mw{α:Type}(l:List α):l.eraseIdx (l.length-1)=l.dropLast:=by
 induction l with
 |nil=>rfl
 |cons a r ih=>
  cases r with
  |nil=>rfl
  |cons b r=>
   have e:(a::b::r).length-1=((b::r).length-1)+1:=by
    have h1:(a::b::r).length=r.length+2:=rfl;have h2:(b::r).length=r.length+1:=rfl;omega
   rw[e,List.eraseIdx_cons_succ,ih]
   all_goals rfl
theorem C2{α:Type}:∀(l:List α) (i:Nat),(l.eraseIdx i).length<=l.length
 |[],_=>bp _
 |_::_,0=>jr _
 |_::r,i+1=>Nat.succ_le_succ (C2 r i)
theorem CV(its:List Value):∀(k:Nat) (acc:List Value),
  List.foldl (λx1 x2=>x1++x2) acc.toArray (List.replicate k its.toArray)=(acc++(List.replicate k its).flatten).toArray
 |0,acc=>by simp
 |k+1,acc=>by
  have e:acc.toArray++its.toArray=(acc++its).toArray:=by simp
  have e2:(acc++its)++(List.replicate k its).flatten=acc++(List.replicate (k+1) its).flatten:=by
   rw[dg,g6,fo]
  rw[<-e2,<-CV its k (acc++its),<-e,dg,j8]
section
variable{X:Cx}{Pp:List (Addr×Obj)}{σ:St}{H:Hp}{s:Shared}{l b:Addr}{xs ys zs:List V}
theorem ag.lset{its its':List Value}{n:Nat}{f:Array Value->Array Value}{t':Nat}(I:ag X Pp σ H s)(hH:H l=some (.lst xs))
  (e:s.heap.get? l=some {cls:=.type "list",data:=.seq its.toArray n}) (hf:f its.toArray=its'.toArray) (hv:ak ys its') (hz:ys.length<=sizeLine):
  ag X Pp σ (aw H l (.lst ys)) {s with heap:=s.heap.update l (Obj.mapSeq f),toks:=t'}:=by
 have q:=PySem.IsL.update e f;rw[hf]at q;refine I.write (x:=l) (e:=l) (by rw[hH];exact trivial) (.inl rfl) (λb' u hb hu=>(mw s.heap (Obj.mapSeq f) (Ne.symm hb)).trans hu) ⟨_,q⟩ ?_;exact⟨hz,its',_,hv,q⟩
theorem ag.lnew{its:List Value}{t':Nat}(I:ag X Pp σ H s)(hv:ak ys its)(hz:ys.length<=sizeLine):
  ag X Pp σ (aw H s.heap.objs.size (.lst ys)) {s with heap:=s.heap.push {cls:=.type "list",data:=.seq its.toArray},toks:=t'}:=
 I.laid (λ_ _ q=>b6 _ q) (bp _) ⟨hz,its,0,hv,cy _ rfl⟩
theorem ag.fresh(I:ag X Pp σ H s):H s.heap.objs.size=none:=I.hok.fresh (bp _)
theorem ag.lstM(I:ag X Pp σ H s)(hH:H l=some (.lst xs)):xs.length<=sizeLine/\∃(its:List Value) (n:Nat),ak xs its/\xs.length=its.length/\s.heap.get? l=some {cls:=.type "list",data:=.seq its.toArray n}:=by
 obtain⟨z,its,n,r,e⟩:=I.hok l _ hH;exact⟨z,its,n,r,r.length,e⟩
theorem Bw{n:Nat}(h:n<=sizeLine):Builtin.List.listTooLong n=false:=by
 unfold Builtin.List.listTooLong;exact dq (by omega)
end
section
variable{X:Cx}
noncomputable def Kq:V->List V->Hp->VK->Prop:=λx vs H Q=>∃l xs y,x=.ref l/\vs=[y]/\H l=some (.lst xs)/\xs.length<sizeLine/\Q .non (aw H l (.lst (xs++[y])))
theorem wN:rn X "list.append" Kq:=by
 intro Pp s σ H x vs v us Q I rx rv h;obtain⟨l,xs,y,rfl,rfl,hH,hz,q⟩:=h;cases rx;obtain⟨u,rfl,ru⟩:=rv.one;obtain⟨z,its,n,r,hl,e⟩:=I.lstM hH;refine call_meets F.slot_list_append ⟨_,e,rfl⟩ F.entry_list_append (F.args_list_append_2 _ _) (PySem.list_append l its.toArray n u (by rw[cg];omega)) ⟨e,?_⟩;refine⟨.non,_,I.lset (its':=its++[u]) hH e (by simp) (r.append (.cons ru .nil)) ?_,rfl,q⟩;rw[b8,kr];omega
noncomputable def Fe:V->List V->Hp->VK->Prop:=λx vs H Q=>∃l xs y,x=.ref l/\vs=[]/\H l=some (.lst xs)/\xs[xs.length-1]?=some y/\Q y (aw H l (.lst xs.dropLast))
theorem Io:rn X "list.pop" Fe:=by
 intro Pp s σ H x vs v us Q I rx rv h;obtain⟨l,xs,y,rfl,rfl,hH,hy,q⟩:=h;cases rx;have hus:=rv.zero;subst hus;obtain⟨z,its,n,r,hl,e⟩:=I.lstM hH;obtain⟨u,hu,ru⟩:=r.get hy;have hy':its.toArray[its.toArray.size-1]?=some u:=by
  show its.toArray[its.length-1]?=some u;rw[<-h_,<-hl];exact hu
 refine call_meets F.slot_list_pop ⟨_,e,rfl⟩ F.entry_list_pop (F.args_list_pop_1 _) (MeetsSeq.list_pop_last l its.toArray n u hy' (by rw[cg];omega)) ⟨e,?_⟩;refine⟨y,_,I.lset (its':=its.dropLast) hH e ?_ r.dropLast ?_,ru,q⟩
 ·show its.toArray.eraseIdxIfInBounds (its.toArray.size-1)=its.dropLast.toArray;rw[cg,sy,Mw]
 ·rw[List.length_dropLast];omega
noncomputable def HU:V->List V->Hp->VK->Prop:=λx vs H Q=>∃l xs i k y,x=.ref l/\vs=[.int i]/\H l=some (.lst xs) /\ -(2 ^ 63)<=i/\i<2 ^ 63/\seqIndex? i xs.length=some k/\xs[k]?=some y/\Q y (aw H l (.lst (xs.eraseIdx k)))
theorem LB:rn X "list.pop" HU:=by
 intro Pp s σ H x vs v us Q I rx rv h;obtain⟨l,xs,i,k,y,rfl,rfl,hH,h1,h2,hk,hy,q⟩:=h;cases rx;obtain⟨u,rfl,ru⟩:=rv.one;obtain⟨t,rfl⟩:=ru;obtain⟨z,its,n,r,hl,e⟩:=I.lstM hH;obtain⟨w,hw,rw'⟩:=r.get hy;refine call_meets F.slot_list_pop ⟨_,e,rfl⟩ F.entry_list_pop (F.args_list_pop_2 _ _)
  (MeetsSeq.list_pop_at l its.toArray n i t k w (fitsIndex_both h1 h2) (by rw[cg,<-hl];exact hk) (by rw[<-h_];exact hw) (by rw[cg];omega)) ⟨e,?_⟩
 refine⟨y,_,I.lset (its':=its.eraseIdx k) hH e ?_ (r.eraseIdx k) ?_,rw',q⟩
 ·show its.toArray.eraseIdxIfInBounds k=(its.eraseIdx k).toArray;rw[sy]
 ·have:=C2 xs k;omega
theorem yK{α:Type}(xs:List α)(k:Nat):(List.replicate k xs).flatten.length=k*xs.length:=by
 induction k with
 |zero=>simp
 |succ k ih=>rw[dg,g6,b8,ih,Nat.succ_mul,Nat.add_comm]
end
end L2
namespace Att
open PySem PySem.W PySem.Calls PyProof.Rows
theorem Nu{P:Params}{h:Heap}:∀(ns:List Int) (vs:List Value),WellAll P h vs (ns.map WData.int)->IntsAre vs ns:=by
 intro ns
 induction ns with
 |nil=>
  intro vs w;rw[mz]at w;cases w;exact .nil
 |cons n ns ih=>
  intro vs w;rw[d9]at w;cases w with
  |cons a b=>
   cases a;exact .cons _ _ (ih _ b)
theorem MW{l:OpenLaw}{n:Nat}(hn:l.most=some n){P:Params}{h:Heap}{args:List WData}{vals:List Value}
  (hpre:l.row.toRowW.claim.pre args=true) (hwl:WellAll P h vals args):
  ∃a vs ns,vals=[Value.ref a]/\args=[WData.list (ns.map WData.int)]/\h.get? a=some {cls:=.type "list",data:=.seq vs.toArray}/\IntsAre vs ns/\ns.length<=n:=by
 have hsh:WShape.hasAll [] args [.list .int]=true:=(pre_splitW hpre).1;have hc:l.pre.holds [] {args:=args}=true:=(pre_splitW hpre).2;obtain⟨d,r,rfl,h1,h2⟩:=hasAllW_cons hsh;obtain rfl:=hasAllW_nil h2;obtain⟨xs,rfl,h3⟩:=hasW_list h1;obtain⟨ns,rfl⟩:=items_int h3;have hlen:ns.length<=n:=by
  unfold OpenLaw.pre at hc;have h4:(WTm.not (.lt (.lit (.int (n:Int))) (.len (.arg 0)))).holds [] {args:=[.list (ns.map .int)]}=true:=by
   have h4:=(holds_andW hc).1;rw[hn]at h4;exact h4
  have h5:=condW_of h4 (w_not (w_lt w_lit (w_len_list (w_arg rfl))));rw[aq]at h5;refine Nat.le_of_not_lt λq=>?_
  have q':(n:Int)<((ns.length:Nat):Int):=by omega
  first
   |(rw[cm q']at h5;exact absurd h5 (by decide))
   |(simp at h5;omega)
 cases hwl with
 |cons w1 w2=>
  cases w2;cases w1 with
  |list ho hall=>exact⟨_,_,ns,rfl,rfl,ho,Nu ns _ hall,hlen⟩
theorem MO(l:OpenLaw)(args:List WData):l.row.toRowW.claim.post args (.bool true) args=true:=
 postW_of (r:=l.row.toRowW) (X:=(true==true))
  (show WShape.has [] (.bool true) .bool=true by first|rfl|decide|simp[WShape.has,WShape.arms,WShape.armsAll])
  (show(WTm.eq .res (.lit (.bool true))).value [] {args:=args,res:=some (.bool true),after:=args}=some (.bool (true==true)) from w_eq_bool (w_res rfl) w_lit) rfl
theorem attach_call{l:OpenLaw}{n:Nat}{q:Program}{loose:List Str}{XP:(Str->Option Value)->Heap->Prop}{YP:World->Heap->Prop}{d:DefRec}
  (hn:l.most=some n) (hdf:d.params.defaults=[])
  (call:∀(w:World) (s₀ s₁:Shared) (mg mb:Str->Option Value) (fa:Addr) (o:Obj) (pm cd doc:Value) (a:Addr) (vs:List Value) (ns:List Int),
   Ground q loose [] XP w s₀ mg mb s₁.heap->YP w s₁.heap ->
   s₁.heap.get? fa=some o->o.data=.func (docDef d.name d.params d.body d.scope pm cd doc)->s₁.heap.CodeRec cd d.name->mg d.name=some (.ref fa) ->
   s₁.heap.get? a=some {cls:=.type "list",data:=.seq vs.toArray}->IntsAre vs ns->ns.length<=n->s₁.gens=#[] ->
   codeAny (model l.prog w) callerA (.call (.ref fa) ⟨[.ref a],[]⟩) (λr s'=>r=.ok (.ret (.bool true))/\OldK s₁.heap s'.heap/\s'.os=s₁.os/\AllBare s'.gens) s₁):
  WalkO q loose XP YP l.row.toRowW d [] (λf vs=>PySem.call f vs):=by
 intro w s₀ s₁ mg mb G Y fa o pm cd doc dV kV ho hd hcd hD hmg hg args vals as hpre hlay hrd hwl hlo;obtain rfl:dV=.none:=Dflts.none hD hdf;obtain rfl:kV=.none:=Dflts.noKw hD;obtain⟨a,vs,ns,rfl,rfl,hobj,hints,hlen⟩:=MW hn hpre hwl;refine enter_call (codeAny_mono (call w s₀ s₁ mg mb fa o pm cd doc a vs ns G Y ho (fd_plain hd) hcd hmg hobj hints hlen hg) λr s' hq=>?_);obtain⟨rfl,h2,h3,h4⟩:=hq;exact⟨.inl ⟨.bool true,.bool true,[],rfl,λ_=>rfl,.bool true,MO l _,λ_=>⟨List.Pairwise.nil,λ_ hm=>(nomatch hm)⟩⟩,h2,h3,h4⟩
end Att
namespace L2
open PySem PySem.Spec PyProof.Rows
theorem Cv:∀{vs:List Value}{ns:List Int},IntsAre vs ns->ak (ns.map V.int) vs
 |_,_,.nil=>.nil
 |_,_,.cons n t h=>.cons ⟨t,rfl⟩ (Cv h)
noncomputable def wc(H:Hp):Prop:=∀b,H b=none\/∃o xs,H b=some (.frz o (.lst xs))
theorem L4{P:Program}{w:World}{K:W.Frag}{mg mb:Str->Option Value}{CX:nq}{k:Nat}{fa a:Addr}{fd:FuncData}{x:Str}{sp:Sp}{s₁:Shared}{vs:List Value}{ns:List Int}
  (KX:K.In s₁.heap) (hns:s₁.heap.Ns mainGlobals mg) (hb:s₁.heap.Ns builtinsNs mb) (hbb:∀x:Str,x≠"__name__"->mb x=bootBuiltins x) (hlim:s₁.heap.NoLimit) (hg:s₁.gens=#[])
  (ha:s₁.heap.get? a=some {cls:=.type "list",data:=.seq vs.toArray}) (hi:IntsAre vs ns) (hl:ns.length<=sizeLine) (hr:br k callerA)
  (F:∀base:Heap,K.In base->base.Ns mainGlobals mg->dj P w K mg base CX k fa fd [x] sp) (hbind:∀(s:Shared) (u:Value),BindsTo s fd ⟨[u],[]⟩ [(x,u)])
  (hsp:∀H:Hp,wc H->b_ K H a (ns.map V.int)->sp [.ref a] H (λv _=>v=.bl true) λ_ _ _=>False)
  (hCX:∀H e s',CX [] H s₁ (λ_ _ _=>False) e s'->False):
  codeAny (model P w) callerA (.call (.ref fa) ⟨[.ref a],[]⟩) (λr s'=>r=.ok (.ret (.bool true))/\OldK s₁.heap s'.heap/\s'.os=s₁.os/\AllBare s'.gens) s₁:=by
 have rv:=Cv hi;have lenV:=hi.length
 -- from an abstract heap in which nothing but the script may be tracked
 have core:∀H:Hp,wc H->b_ K H a (ns.map V.int)->d7 P w H s₁.heap->(∀b,H b≠none->b=a)->(H a≠none->K.lookup a=none) ->
   codeAny (model P w) callerA (.call (.ref fa) ⟨[.ref a],[]⟩) (λr s'=>r=.ok (.ret (.bool true))/\OldK s₁.heap s'.heap/\s'.os=s₁.os/\AllBare s'.gens) s₁:=by
  intro H hO hS hok hA hK;have base_of:∀{b:Addr} {o:Obj},s₁.heap.get? b=some o->H b=none->(kA s₁.heap H).get? b=some o:=λe n=>Km e n
  have noA:∀{b:Addr} {o:Obj} {es:Array DictEntry} {ep:Nat},s₁.heap.get? b=some o->o.data=.dict es ep->H b=none:=λ{b o es ep} e d=>by
   cases q:H b with
   |none=>rfl
   |some u=>
    have e':b=a:=hA b (by rw[q];simp);subst e';rw[ha]at e;cases e;have d':Data.seq vs.toArray _=Data.dict es ep:=d;cases d'
  have nsK:∀{b:Addr} {m:Str->Option Value},s₁.heap.Ns b m->(kA s₁.heap H).Ns b m:=λ{b m} ⟨o,es,ep,e,d,r⟩=>⟨o,es,ep,base_of e (noA e d),d,r⟩
  have hKb:K.In (kA s₁.heap H):=λb o e=>base_of (KX b o e) (by
   cases q:H b with
   |none=>rfl
   |some u=>
    have e':b=a:=hA b (by rw[q];simp);subst e'
    rw[hK (by rw[q];simp)]at e;cases e)
  have hM:Mod K mg (kA s₁.heap H):=⟨hKb,nsK hns,⟨mb,nsK hb,hbb⟩,let ⟨mc,h1,h2⟩:=hlim;⟨mc,nsK h1,h2⟩⟩
  have e0:vQ P w K mg (kA s₁.heap H) callerA [] s₁ H:=⟨rfl,hM,λb o e=>Jf e,Nat.le_of_eq (M8 _ _),trivial,λb hb=>absurd (show b∈([]:List Addr) from hb) (by simp),hok,.of_eq hg⟩
  refine codeAny_mono ((F _ hKb (nsK hns)).run callerA [] s₁ H ⟨[.ref a],[]⟩ [.ref a] [.ref a] _ _ hr e0 (hbind s₁ (.ref a)) (.cons rfl .nil) (hsp H hO hS)) λr s' h=>?_
  cases r with
  |error e=>exact(hCX H e s' h).elim
  |ok fl=>
   cases fl with
   |next=>exact False.elim h
   |brk=>exact False.elim h
   |cont=>exact False.elim h
   |ret u=>
    obtain⟨v,H',os,bare,un,hok',r',q⟩:=h;have q':v=.bl true:=q;subst q';obtain rfl:u=Value.bool true:=r';refine⟨rfl,OldK.of_keep λb o e=>?_,os,bare⟩;cases q:H b with
    |none=>exact un.keep b o e q (by intro z;exact absurd (show b∈([]:List Addr) from z) (by simp)) (by simp)
    |some u=>
     rcases hO b with z|⟨ob,xs,z⟩
     ·rw[q]at z;cases z
     ·have z2:=un.frzs b ob _ z;obtain⟨e1,_⟩:=hok b _ z;obtain⟨e2,_⟩:=hok' b _ z2;rw[e]at e1;cases e1;exact e2
 cases hk:K.lookup a with
 |some o=>
  -- the script is one of the module's own objects
  have e:=KX a o hk;rw[ha]at e;cases e;refine core (λ_=>none) (λ_=>.inl rfl) (.inr ⟨_,vs.toArray,_,hk,rfl,rfl,rfl,by rw[cg,lenV];exact hl,by simpa using rv⟩) (λb u z=>by have z':(none:Option HO)=some u:=z;cases z') (λb z=>absurd rfl z) λz=>absurd rfl z
 |none=>
  refine core (λb=>if b=a then some (.frz {cls:=.type "list",data:=.seq vs.toArray} (.lst (ns.map V.int))) else none) (λb=>?_) (.inl (.inr ⟨{cls:=.type "list",data:=.seq vs.toArray},if_pos rfl⟩)) (λb u z=>?_) (λb z=>?_) λ_=>hk
  ·by_cases hb:b=a
   ·exact .inr ⟨_,_,if_pos hb⟩
   ·exact .inl (if_neg hb)
  ·by_cases hb:b=a
   ·have z':=(if_pos hb).symm.trans z;cases z';subst hb;exact⟨ha,by rw[aq];exact hl,vs,_,rv,ha⟩
   ·have z':=(if_neg hb).symm.trans z;cases z'
  ·by_cases hb:b=a
   ·exact hb
   ·exact absurd (if_neg hb) z
theorem walk_of{l:W.OpenLaw}{n k:Nat}{q:Program}{loose:List Str}{XP:(Str->Option Value)->Heap->Prop}{YP:World->Heap->Prop}{d:DefRec}{K:Params->W.Frag}{CX:World->nq}{sp:World->Sp}{x:Str}
  (hn:l.most=some n) (hn2:n<=sizeLine) (hdf:d.params.defaults=[]) (hr:br k callerA)
  (hY:∀(w:World) (h:Heap),YP w h->(K w.params).In h)
  (F:∀(w:World) (mg:Str->Option Value) (fa:Addr) (h:Heap),(K w.params).In h->h.Ns mainGlobals mg->mg d.name=some (.ref fa) ->
   ∃fd:FuncData,(∀(s:Shared) (u:Value),BindsTo s fd ⟨[u],[]⟩ [(x,u)]) /\
    ∀base:Heap,(K w.params).In base->base.Ns mainGlobals mg->dj l.prog w (K w.params) mg base (CX w) k fa fd [x] (sp w))
  (hsp:∀(w:World) (H:Hp) (a:Addr) (ns:List Int),ns.length<=n->wc H->b_ (K w.params) H a (ns.map V.int)->sp w [.ref a] H (λv _=>v=.bl true) λ_ _ _=>False)
  (hCX:∀(w:World) (H:Hp) (s:Shared) (e:Value) (s':Shared),CX w [] H s (λ_ _ _=>False) e s'->False):
  PySem.W.WalkO q loose XP YP l.row.toRowW d [] (λf vs=>PySem.call f vs):=by
 refine Att.attach_call hn hdf λw s₀ s₁ mg mb fa o pm cd doc a vs ns G Y ho hd hcd hmg hobj hints hlen hg=>?_
 have KX:=hY w _ Y;obtain⟨fd,hb,hF⟩:=F w mg fa _ KX G.T.g hmg;exact L4 KX G.T.g G.T.b G.T.builtins G.T.nolimit hg hobj hints (bu hlen hn2) hr hF hb (λH hO hS=>hsp w H a ns hlen hO hS) λH e s'=>hCX w H s₁ e s'
noncomputable def fZ(s:Stmt):Arguments:=match s with
 |.FunctionDef _ a _ _ _ _ _ _ _ _=>a
 |_=>{posonlyargs:=[],args:=[],vararg:=none,kwonlyargs:=[],kw_defaults:=[],kwarg:=none,defaults:=[]}
noncomputable def dZ(s:Stmt):List Stmt:=match s with
 |.FunctionDef _ _ b _ _ _ _ _ _ _=>b
 |_=>[]
noncomputable def aV(s:Stmt):Scope:=match s with
 |.FunctionDef _ _ _ _ _ _ sc _ _ _=>sc
 |_=>{kind:=.function,names:=[],isGenerator:=false,isCoroutine:=false}
noncomputable abbrev lj:nq:=λ_ _ _ _ _ _=>False
noncomputable abbrev E0:XK:=λ_ _ _=>False
theorem yh{X:Cx}:tU lj X E0:=λ_ _ _ _ _ _ _ h=>h.elim
structure rp (K:W.Frag) (x qual:Str) (st:Stmt) (f:Addr) (fd:FuncData):Prop where
 ex:∃(oc:Value) (od:Option Addr) (kV doc pm:Value) (an:Option Addr) (Pu ct:Value) (osl:Array (Option Value)),
  fd=W.fnOf x qual (fZ st) (dZ st) (aV st) .none kV doc pm an Pu ct/\K.lookup f=some ⟨oc,od,.func fd,osl⟩/\W.codeIn K Pu qual=true
 kp:W.keepIn K (.ref f)=true
section
variable{P:Program}{w:World}{K:W.Frag}{mg:Str->Option Value}{base:Heap}
theorem rp.ok{x qual:Str}{st:Stmt}{f:Addr}{fd:FuncData}{N ps:List Str}{k:Nat}{sp:Sp}(F:rp K x qual st f fd)(S:dN N ps (aV st))(len:∀vs H Q E,sp vs H Q E->vs.length=ps.length)
  (Px:∀(Pu:Value) (A:Around) (outer:List Env) (s:Shared) (H:Hp) (vs:List V) (Q:VK) (E:XK),br k (A.deeper (envOfC qual (aV st) s.heap.objs.size f Pu))->sp vs H Q E ->
   ∃t,iq (hZ lj P w K mg base N qual (aV st) f Pu A outer s H E).nox (dZ st) t/\t {nx:=λ_ H'=>Q .non H',rt:=Q} (fG N vs) H):dj P w K mg base lj (k+1) f fd ps sp:=by
 obtain⟨oc,od,kV,doc,pm,an,Pu,ct,osl,rfl,lk,hcd⟩:=F.ex;refine GO lk hcd S len λA outer s H vs Q E hr hsp=>?_
 obtain⟨t,h,q⟩:=Px Pu A outer s H vs Q E hr hsp;exact⟨t,h.nox,q⟩
theorem rp.binds{x qual:Str}{st:Stmt}{f:Addr}{fd:FuncData}{ps:List Str}(F:rp K x qual st f fd)
  (h:∀(kV doc pm:Value) (an:Option Addr) (Pu ct:Value) (us:List Value),us.length=ps.length->bindArgs (W.fnOf x qual (fZ st) (dZ st) (aV st) .none kV doc pm an Pu ct) ⟨us,[]⟩=pure (ps.zip us)):ir K fd ps []:=by
 obtain⟨oc,od,kV,doc,pm,an,Pu,ct,osl,rfl,lk,hcd⟩:=F.ex;exact .all (h kV doc pm an Pu ct)
theorem Ba{x qual:Str}{st:Stmt}{f:Addr}{oc:Value}{od an:Option Addr}{osl:Array (Option Value)}{kV doc pm Pu ct:Value}(l:K.lookup f=some ⟨oc,od,.func (W.fnOf x qual (fZ st) (dZ st) (aV st) .none kV doc pm an Pu ct),osl⟩)
  (c:W.codeIn K Pu qual=true) (k:W.keepIn K (.ref f)=true):rp K x qual st f (W.fnOf x qual (fZ st) (dZ st) (aV st) .none kV doc pm an Pu ct):=⟨⟨oc,od,kV,doc,pm,an,Pu,ct,osl,rfl,l,c⟩,k⟩
end
theorem uH{A:Around}{k:Nat}(hr:br k A):A.units+1<cLine:=Nat.lt_of_le_of_lt (Nat.add_le_add_left (by decide:1<=64) _) hr.units
theorem M5{n:Nat}(h:n<=1000):n<sizeLine:=Nat.lt_of_le_of_lt h (by decide)
section
variable{X:Cx}
theorem pv(i:Nat){x:Str}{pos:Pos}(hN:X.N[i]?=some x:=by rfl)(hv:qb X.env.scope x:=by first|exact Or.inl rfl|exact Or.inr (Or.inl rfl)|exact Or.inr (Or.inr rfl))(hd:(x==("__debug__":Str))=false:=by decide)
  (hcd:(x==("__classdict__":Str))=false:=by decide):PE X (.Name x pos) (xp i):=lZ hN hv hd hcd
end
theorem bG{A B:Prop}(h:B):if false=true then A else B:=by
 rw[if_neg b9];exact h
theorem bW{A B:Prop}(h:A):if true=true then A else B:=by
 rw[if_pos rfl];exact h
theorem FN{c A B:Prop}[Decidable c](h1:c->A)(h2:¬ c->B):if c then A else B:=by
 by_cases h:c
 ·rw[if_pos h];exact h1 h
 ·rw[if_neg h];exact h2 h
noncomputable def ba(H H':Hp):Prop:=∀b o,H b=some o->H' b=some o
theorem ba.refl(H:Hp):ba H H:=λ_ _ h=>h
theorem ba.trans{H H1 H2:Hp}(a:ba H H1)(b:ba H1 H2):ba H H2:=λc o h=>b c o (a c o h)
theorem ba.free{H H':Hp}(e:ba H H'){l:Addr}(h:H' l=Option.none):H l=Option.none:=by
 cases q:H l with
 |none=>rfl
 |some o=>
  rw[e l o q]at h;cases h
theorem vS{env:Env}:∀(names:List (Str×NameKind)) (acc:List (Str×Addr)),(∀y∈names,y.2=.free->∃c,env.cells.lookup y.1=some c) ->
  ∃cl,(forIn names acc (λ(x:Str×NameKind) (cs:List (Str×Addr))=>if (x.2==NameKind.free)=true then(do let c <- cellOf env x.1;pure (ForInStep.yield ((x.1,c)::cs))) else pure (ForInStep.yield cs)):Sem (List (Str×Addr)))=pure cl /\
   (∀x c,cl.lookup x=some c->env.cells.lookup x=some c\/acc.lookup x=some c)/\(∀x c,acc.lookup x=some c->∃c',cl.lookup x=some c')/\∀y∈names,y.2=.free->∃c,cl.lookup y.1=some c
 |[],acc,_=>⟨acc,rfl,λ_ _ h=>.inr h,λ_ c h=>⟨c,h⟩,λ_ h=>nomatch h⟩
 |(n,k)::r,acc,h=>by
  rw[List.forIn_cons];by_cases hk:k=.free
  ·subst hk;obtain⟨c,hc⟩:=h (n,.free) ib rfl;obtain⟨cl,h1,h2,h3,h4⟩:=vS r ((n,c)::acc) λy hy=>h y (ia _ hy)
   refine⟨cl,?_,λx d e=>?_,λx d e=>?_,λy hy e=>?_⟩
   ·have e1:cellOf env n=pure c:=by unfold cellOf;rw[hc]
    simp only[beq_self_eq_true,if_true,e1,pure_bind];exact h1
   ·rcases h2 x d e with z|z
    ·exact .inl z
    ·rw[ko]at z;split at z
     ·rename_i hx;cases z;have:x=n:=eq_of_beq hx;subst this;exact .inl hc
     ·exact .inr z
   ·refine h3 x (if x==n then c else d) ?_;rw[ko];cases hx:x==n with
    |true=>simp[hx]
    |false=>simp[hx,e]
   ·rcases qk_.mp hy with z|z
    ·subst z;exact h3 n c (by simp[ko])
    ·exact h4 y z e
  ·have hb:(k==NameKind.free)=false:=by simpa using hk
   obtain⟨cl,h1,h2,h3,h4⟩:=vS r acc λy hy=>h y (ia _ hy)
   refine⟨cl,?_,h2,h3,λy hy e=>?_⟩
   ·simp only[hb,n_,if_false,pure_bind];exact h1
   ·rcases qk_.mp hy with z|z
    ·subst z;exact absurd e hk
    ·exact h4 y z e
theorem CF{scope:Scope}{env:Env}(h:∀y∈scope.names,y.2=.free->∃c,env.cells.lookup y.1=some c):
  ∃cl,closureFor scope env=pure cl/\(∀x c,cl.lookup x=some c->env.cells.lookup x=some c)/\∀y∈scope.names,y.2=.free->∃c,cl.lookup y.1=some c:=by
 obtain⟨cl,h1,h2,h3,h4⟩:=vS scope.names [] h;refine⟨cl,?_,λx c e=>(h2 x c e).elim id λz=>(by cases z),h4⟩;unfold closureFor;refine Eq.trans ?_ h1;refine Eq.trans (bind_pure _) ?_;rfl
theorem DG{env:Env}:∀{names:List (Str×NameKind)}{x:Str},names.lookup x=some .free ->
  (names.map λ(n,k)=>if (k==NameKind.free&&env.scope.kind==.function&&env.kindOf n==some .cell) then(n,NameKind.cell) else(n,k)).lookup x=some .cell \/
  (names.map λ(n,k)=>if (k==NameKind.free&&env.scope.kind==.function&&env.kindOf n==some .cell) then(n,NameKind.cell) else(n,k)).lookup x=some .free
 |[],_,h=>by simp at h
 |(n,k)::r,x,h=>by
  have ih:=@DG env r x;show List.lookup x ((if (k==NameKind.free&&env.scope.kind==.function&&env.kindOf n==some .cell)=true then(n,NameKind.cell) else(n,k))::_)=_\/List.lookup x ((if (k==NameKind.free&&env.scope.kind==.function&&env.kindOf n==some .cell)=true then(n,NameKind.cell) else(n,k))::_)=_;by_cases hc:(k==NameKind.free&&env.scope.kind==.function&&env.kindOf n==some .cell)=true
  ·rw[if_pos hc];cases hx:x==n with
   |true=>simp only[ko,hx];exact .inl trivial
   |false=>
    simp only[ko,hx]at h ⊢;exact ih h
  ·rw[if_neg hc];cases hx:x==n with
   |true=>
    simp only[ko,hx]at h ⊢;exact .inr h
   |false=>
    simp only[ko,hx]at h ⊢;exact ih h
theorem Dq{env:Env}{names:List (Str×NameKind)}(hn:∀y∈names,y.2≠.cell){x:Str}{k:NameKind}(hk:k=.cell\/k=.free)
  (h:(names.map λ(n,k)=>if (k==NameKind.free&&env.scope.kind==.function&&env.kindOf n==some .cell) then(n,NameKind.cell) else(n,k)).lookup x=some k):(x,NameKind.free)∈names:=by
 obtain⟨⟨n,k'⟩,hm,e⟩:=qd_.mp (PySem.mem_of_lookup h);simp only at e;split at e
 ·rename_i hc;rw[i6,i6]at hc;have:k'=.free:=eq_of_beq hc.1.1;subst this;injection e with e1 _
  subst e1;exact hm
 ·injection e with e1 e2
  subst e1 e2;rcases hk with z|z
  ·exact absurd z (hn _ hm)
  ·subst z;exact hm
noncomputable def cN(X:Cx)(N:List Str)(scope:Scope)(cl:List (Str×Addr))(C:Addr)(fp:List Addr)(s:Shared)(H:Hp):Cx where
 prog:=X.prog
 w:=X.w
 K:=X.K
 mg:=X.mg
 base:=X.base
 A:=X.A
 N:=N
 s₀:=s
 H₀:=H
 env:=compEnvC scope cl C X.env
 outer:=X.stack
 stack:=X.stack
 ex:=fp
 fn:=λ_=>false
 calm:=X.calm
 pn:=[]
 xe:=λ_ _=>False
structure lN (sc:Scope) (XN N:List Str) (own:Nat) (fr:List Nat) (scope:Scope):Prop where
 kind:scope.kind=.function
 nocell:∀y∈scope.names,y.2≠.cell
 free:∀y∈scope.names,y.2=.free->sc.names.lookup y.1=some .cell\/sc.names.lookup y.1=some .free
 loc:∀y∈scope.names,y.2=.local->scope.names.lookup y.1=some .local
 names:N.drop own=fr.filterMap λi=>XN[i]?
 frl:∀i∈fr,i<XN.length
 len:own<=N.length
 vis:∀x∈N.drop own,scope.names.lookup x=some .free
noncomputable def σf(fr:List Nat)(σ:St):St:=fr.map λi=>σ.getD i none
noncomputable def σc(own:Nat)(fr:List Nat)(σ:St):St:=List.replicate own none++σf fr σ
section
variable{X:Cx}{Pp:List (Addr×Obj)}{σ:St}{H:Hp}{s:Shared}{N:List Str}{own:Nat}{fr:List Nat}{scope:Scope}
theorem DC{XN:List Str}:∀{fr:List Nat},(∀i∈fr,i<XN.length)->∀(j:Nat),(fr.filterMap λi=>XN[i]?)[j]?=(fr[j]?).bind λi=>XN[i]?
 |[],_,j=>by simp
 |i::r,h,j=>by
  have hi:i<XN.length:=h i ib;rw[i9,cb hi];cases j with
  |zero=>simp[hi]
  |succ j=>simpa using DC (λk hk=>h k (ia _ hk)) j
theorem L1{cl:List (Str×Addr)}{fp:List Addr}{h':Heap}(I:ag X Pp σ H s)(S:lN X.env.scope X.N N own fr scope)(hcl:∀x c,cl.lookup x=some c->X.env.cells.lookup x=some c)
  (hcf:∀y∈scope.names,y.2=.free->∃c,cl.lookup y.1=some c) (hfp:∀b∈fp,iB X Pp H b) (hfo:∀b∈fp,∃o,s.heap.get? b=some o)
  (hns:h'.Ns s.heap.objs.size λ_=>none) (hk:∀b o,s.heap.get? b=some o->h'.get? b=some o):
  ag (cN X N scope cl s.heap.objs.size fp s H) [] (σc own fr σ) H {s with heap:=h'}:=by
 have kindE:∀x,(Env.kindOf (compEnvC scope cl s.heap.objs.size X.env) x)=(relabel scope X.env).names.lookup x:=λx=>rfl
 have memF:∀x,(Env.kindOf (compEnvC scope cl s.heap.objs.size X.env) x=some .cell\/Env.kindOf (compEnvC scope cl s.heap.objs.size X.env) x=some .free)->(x,NameKind.free)∈scope.names:=λx hx=>by
  rcases hx with z|z
  ·exact Dq (env:=X.env) S.nocell (.inl rfl) z
  ·exact Dq (env:=X.env) S.nocell (.inr rfl) z
 refine⟨⟨I.ok.mod,S.kind,I.ok.glob,I.ok.blt,bp _,λx y c h1 h2=>I.ok.inj x y c (hcl x c h1) (hcl y c h2),λx hx=>hcf (x,.free) (memF x hx) rfl,λx c h=>absurd (show false=true from h) (by decide),I.ok.hd,I.ok.frames,.inl rfl,λb hb=>?_,I.bs,bu I.ok.bsz I.sz,λb o e hb=>?_,λb hb z=>?_,I.stack,I.stkFree⟩,
  rfl,I.bare,Un.kept hk,⟨_,hns,λi x v e1 e2 e3=>?_⟩,λx c e=>?_,I.hok.fresh (bp _),λx c e=>I.freeC x c (hcl x c e),λp hp=>absurd (show p∈([]:List (Addr×Obj)) from hp) (by simp),I.hok.kept hk,?_⟩
 ·obtain⟨o,ho⟩:=hfo b hb;exact⟨cz (b5 ho),λx c e=>(hfp b hb).2.2.2.2.1 x c (hcl x c e)⟩
 ·rcases (hfp b hb).2.2.2.1 with z|z
  ·exact I.ok.noex b o e z
  ·exact absurd (dz (b5 (I.ok.bs b o e).1) z) (g_ _)
 ·rcases qk_.mp (I.stkSub b z) with q|q
  ·exact(hfp b hb).2.1 q
  ·exact(hfp b hb).2.2.1 q
 ·have hi:own<=i:=by
   rcases Nat.lt_or_ge i own with z|z
   ·have e2':(σc own fr σ)[i]?=some (some v):=e2;unfold σc at e2';rw[j9 (by simpa using z),m7]at e2';split at e2'<;>cases e2'
   ·exact z
  have e2':(σf fr σ)[i-own]?=some (some v):=by
   have e2':(σc own fr σ)[i]?=some (some v):=e2;unfold σc at e2';rw[j_ (by simpa using hi)]at e2';simpa using e2'
  have e1':(N.drop own)[i-own]?=some x:=by
   have e1':N[i]?=some x:=e1;rw[oq];rw[show own+(i-own)=i by omega];exact e1'
  have hv:scope.names.lookup x=some .free:=S.vis x (i7 e1');have hx:X.env.scope.names.lookup x=some .cell\/X.env.scope.names.lookup x=some .free:=S.free (x,.free) (PySem.mem_of_lookup hv) rfl;rw[S.names,DC S.frl]at e1';unfold σf at e2';rw[g4]at e2';cases q:fr[i-own]? with
  |none=>rw[q]at e2';cases e2'
  |some j=>
   rw[q]at e1' e2';have e1'':X.N[j]?=some x:=e1';have e2'':σ.getD j none=some v:=Option.some.inj e2';have e3':σ[j]?=some (some v):=by
    rw[ji]at e2'';cases z:σ[j]? with
    |none=>rw[z]at e2'';cases e2''
    |some y=>rw[z]at e2'';exact congrArg some e2''
   obtain⟨m,hn,hl⟩:=I.loc;obtain⟨u,r,l⟩:=hl j x v e1'' e3' (.inr hx);refine⟨u,r,.inr ⟨DG (env:=X.env) hv,?_⟩⟩;rcases l with⟨k,_⟩|⟨_,c,hc,z⟩
   ·have k':X.env.scope.names.lookup x=some .local:=k;rw[k']at hx;rcases hx with z|z<;>cases z
   ·obtain⟨c',hc'⟩:=hcf (x,.free) (PySem.mem_of_lookup hv) rfl;have:=hcl x c' hc';rw[hc]at this;cases this;exact⟨c,hc',z.keeps hk⟩
 ·obtain⟨v,z⟩:=I.cell x c (hcl x c e);exact⟨v,z.keeps hk⟩
 ·show(σc own fr σ).length=N.length;unfold σc σf;have h1:=congrArg List.length S.names;have h2:(fr.filterMap λi=>X.N[i]?).length=fr.length:=by
   have:∀(l:List Nat),(∀i∈l,i<X.N.length)->(l.filterMap λi=>X.N[i]?).length=l.length:=by
    intro l
    induction l with
    |nil=>intro _;rfl
    |cons i r ih=>
     intro h;rw[i9,cb (h i ib)];simp[ih λk hk=>h k (ia _ hk)]
   exact this fr S.frl
  rw[m5,h2]at h1;rw[b8,fh,aq];have:=S.len;omega
end
section
variable{prog:Program}{w:World}{A:Around}{R:Result->Shared->Prop}{s:Shared}
theorem NS{elt target iter:Expr}{ifs:List Expr}{scope:Scope}{pos:Pos}{it acc:Value}{env:Env}(I:Nat->Shared->Prop)
  (turn:∀n s,I n s->wpAny (model prog w) A (pyNext it) (λr s₁=>match r with
   |none=>R (.ok .next) s₁
   |some v=>wpAny (model prog w) A (letOwnedTupleGo target it v) (λ_ s'=>wpAny (model prog w) A (assign target env v) (λ_ s₂=>
     wpAny (model prog w) A (forIn ifs true λc r=>if r=true then do let ok <- isTrue c env (eval c env);pure (ForInStep.yield ok) else pure (ForInStep.yield r)) (λok s₃=>
      if ok=true then wpAny (model prog w) A (eval elt env) (λx s₄=>
       wpAny (model prog w) A (call (.builtin "list.append") [acc,x]) (λ_ s₅=>∃m,m<n/\I m s₅) (λ_ _=>False) s₄) (λ_ _=>False) s₃
      else ∃m,m<n/\I m s₃) (λ_ _=>False) s₂) (λ_ _=>False) s') (λ_ _=>False) s₁) (λ_ _=>False) s)
  (n:Nat) (h:I n s):codeAny (model prog w) A (.compLoop (.ListComp elt [⟨target,iter,ifs,0⟩] scope pos) 0 it acc env) R s:=by
 refine codeAny_loop rfl I (λn s hI=>?_) n h;show wpAny _ A ((compTurn (.ListComp elt [⟨target,iter,ifs,0⟩] scope pos) 0 it acc env).onRaise (λx=>do noteFrame x env;theTreesLotGoes x)) _ _ s;refine wpAny_noted ?_;rw[compTurn_list];refine af (wpAny_standAt (af (wpAny_mono (turn n s hI) (λr s₁ h₁=>?_) λ_ _ z=>False.elim z)));cases r with
 |none=>exact ao h₁
 |some v=>
  refine af (wpAny_mono h₁ (λ_ s' h'=>?_) λ_ _ z=>False.elim z);refine af (wpAny_mono h' (λ_ s₂ h₂=>af (wpAny_mono h₂ (λok s₃ h₃=>?_) λ_ _ z=>False.elim z)) λ_ _ z=>False.elim z);cases ok with
  |false=>exact ao ⟨rfl,h₃⟩
  |true=>
   exact af (af (wpAny_mono h₃ (λx s₄ h₄=>af (wpAny_mono h₄ (λ_ s₅ h₅=>ao (ao ⟨rfl,h₅⟩)) λ_ _ z=>False.elim z)) λ_ _ z=>False.elim z))
end
noncomputable def xx(J:It)(a:Addr)(own:Nat)(fr:List Nat)(g:TG)(tf:TT)(te:TE)(σ:St)(H1:Hp)(Q:VK):Prop:=
 ∃(n:Nat) (Pv:Nat->List V->Hp->Prop),Pv 0 [] (aw H1 a (.lst []))/\∀i ys H2,i<=n->H2 a=some (.lst ys)->Pv i ys H2 ->
  (J.stop i H2/\Q (.ref a) H2)\/(i<n/\J.go i H2/\∀x H3,J.yld i H2 x H3->g x (σc own fr σ) H3 λσ4 H4=>(∃ow,ow.length=own/\σ4=ow++σf fr σ)/\tf σ4 H4 λb H5=>
   if b=true then te σ4 H5 λy H6=>H6 a=some (.lst ys)/\ys.length<sizeLine/\Pv (i+1) (ys++[y]) (aw H6 a (.lst (ys++[y])))
   else H5 a=some (.lst ys)/\Pv (i+1) ys H5)
noncomputable def se(X:Cx)(ifs:List Expr)(t:TT):Prop:=
 ∀(Pp:List (Addr×Obj)) (s:Shared) (σ:St) (H:Hp) (Q:Bool->Hp->Prop),ag X Pp σ H s->t σ H Q ->
  wpAny (model X.prog X.w) X.A (forIn ifs true λc r=>if r=true then do let ok <- isTrue c X.env (eval c X.env);pure (ForInStep.yield ok) else pure (ForInStep.yield r)) (TP X Pp σ Q) X.xe s
noncomputable def GA:TT:=λ_ H Q=>Q true H
theorem HE{X:Cx}:se X [] GA:=λPp s σ H Q I h=>wpAny_tests_nil ⟨H,I,h⟩
theorem HF{X:Cx}{c:Expr}{t:TT}(h:PT X c t):se X [c] t:=λPp s σ H Q I hw=>wpAny_tests_one (h Pp s σ H Q I hw)
section
variable{X:Cx}{Pp:List (Addr×Obj)}{σ:St}{H:Hp}{s:Shared}{N:List Str}{own:Nat}{fr:List Nat}{scope:Scope}{cl:List (Str×Addr)}{elt tg iter:Expr}{ifs:List Expr}{pos:Pos}
 {it:Addr} {fp:List Addr} {tn:Nat->Heap->Prop} {J:It} {g:TG} {tf:TT} {te:TE} {Q:VK} {E:Value->Shared->Prop}
theorem CG{RR:Value->Addr->Result->Shared->Prop}(hc:X.calm=true)(S:lN X.env.scope X.N N own fr scope)(hcl:∀x c,cl.lookup x=some c->X.env.cells.lookup x=some c)
  (hcf:∀y∈scope.names,y.2=.free->∃c,cl.lookup y.1=some c)
  (hg:∀C s H,PG (cN X N scope cl C fp s H) tg g) (hf:∀C s H,se (cN X N scope cl C fp s H) ifs tf) (he:∀C s H,PE (cN X N scope cl C fp s H) elt te)
  (I:ag X Pp σ H s) (T:lG X.prog X.w X.K tg J fp it tn) (st:tn 0 s.heap) (hfp:∀b∈fp,iB X Pp H b) (hw:∀a,H a=none->xx J a own fr g tf te σ H Q)
  (hRR:∀a C s' H',ag X Pp σ H' s'->Q (.ref a) H'->iB X Pp H' C->(∃m,s'.heap.Ns C m)->RR (.ref a) C (.ok .next) s'):
  wpAny (model X.prog X.w) X.A (newList []) (λacc s₃=>wpAny (model X.prog X.w) X.A (newFunctionEnv scope X.env.globals cl [] X.env.qual none .none (some X.env)) (λcenv s₄=>
   codeAny (model X.prog X.w) X.A (.compStart (.ListComp elt [⟨tg,iter,ifs,0⟩] scope pos) 0 (.ref it) acc {cenv with scope:=relabel scope X.env}) (RR acc cenv.locals) s₄) E s₃) E s:=by
 refine gh (wpAny_newFunctionEnv S.nocell (by intro y hy;simp at hy) (λh₁ hns₁ hsb₁=>?_) S.kind);dsimp only at hns₁ hsb₁ ⊢;have I3:ag X Pp σ (aw H s.heap.objs.size (.lst [])) {s with heap:=s.heap.push {cls:=.type "list",dict:=none,data:=.seq ([]:List Value).toArray}}:=I.lnew (ys:=[]) (t':=s.toks) .nil (d8 _);have hfo:∀b∈fp,∃o,s.heap.get? b=some o:=λb hb=>let ⟨o,ho,_⟩:=T.obj _ _ st b hb;⟨o,ho⟩
 have hlt:∀b∈fp,b<s.heap.objs.size:=λb hb=>let ⟨o,ho⟩:=hfo b hb;b5 ho
 have fp3:∀b∈fp,iB X Pp (aw H s.heap.objs.size (.lst [])) b:=λb hb=>⟨by rw[bU (cz (hlt b hb))];exact(hfp b hb).1,(hfp b hb).2⟩
 obtain⟨n0,W,w0,turn⟩:=hw s.heap.objs.size I.fresh;generalize hs3:({s with heap:=s.heap.push {cls:=.type "list",dict:=none,data:=.seq ([]:List Value).toArray}}:Shared)=s3 at I3;have eh:s3.heap=s.heap.push {cls:=.type "list",dict:=none,data:=.seq ([]:List Value).toArray}:=by rw[<-hs3]
 rw[<-eh]at hns₁ hsb₁ ⊢;have hk:∀b o,s3.heap.get? b=some o->h₁.get? b=some o:=λb o e=>hsb₁.extBut b o (cz (b5 e)) (b6 _ e)
 have hk0:∀b o,s.heap.get? b=some o->s3.heap.get? b=some o:=λb o e=>by rw[eh];exact b6 _ e
 have J0:ag (cN X N scope cl s3.heap.objs.size fp s3 (aw H s.heap.objs.size (.lst []))) [] (σc own fr σ) (aw H s.heap.objs.size (.lst [])) {s3 with heap:=h₁}:=
  L1 I3 S hcl hcf fp3 (λb hb=>let ⟨o,ho⟩:=hfo b hb;⟨o,hk0 b o ho⟩) hns₁ hk
 have st0:tn 0 h₁:=T.keep _ _ _ st λb _ o e=>hk b o (hk0 b o e)
 have stat:∀{H':Hp},(∀b∈fp,H' b=none)->∀b∈fp,iB (cN X N scope cl s3.heap.objs.size fp s3 (aw H s.heap.objs.size (.lst []))) [] H' b:=λhn b hb=>
  ⟨hn b hb,(J0.ok.exf b hb).1,J0.ok.exfs b hb,.inl hb,(J0.ok.exf b hb).2,λp hp=>absurd (show p∈([]:List (Addr×Obj)) from hp) (by simp)⟩
 have loop:∀s4:Shared,s4={s3 with heap:=h₁}->codeAny (model X.prog X.w) X.A (.compLoop (.ListComp elt [⟨tg,iter,ifs,0⟩] scope pos) 0 (.ref it) (.ref s.heap.objs.size) (compEnvC scope cl s3.heap.objs.size X.env))
   (RR (.ref s.heap.objs.size) s3.heap.objs.size) s4:=by
  rintro s4 rfl;refine NS (λn s'=>∃i ow H' ys,ag (cN X N scope cl s3.heap.objs.size fp s3 (aw H s.heap.objs.size (.lst []))) [] (ow++σf fr σ) H' s'/\ow.length=own/\tn i s'.heap/\(∀b∈fp,H' b=none)/\H' s.heap.objs.size=some (.lst ys)/\(n=n0-i/\i<=n0)/\W i ys H') ?_ n0
   ⟨0,List.replicate own none,_,[],J0,by simp,st0,λb hb=>(fp3 b hb).1,bL,⟨rfl,d8 _⟩,w0⟩
  rintro n s5 ⟨i,ow,H5,ys,I5,hlo,st5,fr5,ha5,⟨rfl,hi5⟩,w5⟩;rcases turn i ys H5 hi5 ha5 w5 with⟨stop,qn⟩|⟨hin,go,step⟩
  ·refine bj (T.done (cN X N scope cl s3.heap.objs.size fp s3 (aw H s.heap.objs.size (.lst []))) rfl rfl rfl hc i [] s5 _ H5 (λ_ _=>False) I5 (stat fr5) st5 stop) λr s6 ⟨hr,I6⟩=>?_
   subst hr;have IX:ag X Pp σ H5 s6:=I3.call' I6.os I6.base I6.hok I6.bare λb hb=>let ⟨_,f2,_,f4,f5,f6⟩:=fp3 b hb;⟨f4,f2,f5,f6⟩
   refine hRR _ _ s6 H5 IX qn (I3.fpOk (bp _) I6.free) ?_;obtain⟨m,hn,_⟩:=I6.loc;exact⟨m,hn⟩
  ·refine bj (T.item (cN X N scope cl s3.heap.objs.size fp s3 (aw H s.heap.objs.size (.lst []))) rfl rfl rfl hc i [] s5 _ H5 (λ_ _=>False) I5 (stat fr5) st5 go) λr s6 ⟨u,hr,h6⟩=>?_
   subst hr;refine bj h6 λ_ s7 ⟨x,H7,I7,r7,y7,st7,fr7⟩=>?_
   have I7':=(I7.pinned (stat fr7) (T.obj _ _ st7)).weak (σ':=σc own fr σ) (by unfold σc;simp[hlo]) (λj v e=>by
    unfold σc at e;rcases Nat.lt_or_ge j own with z|z
    ·rw[j9 (by simpa using z),m7]at e;split at e<;>cases e
    ·rw[j_ (by simpa using z)]at e;rw[j_ (by rw[hlo];exact z),hlo]
     simpa using e)
   refine bj (hg _ _ _ _ s7 _ H7 x u _ I7' r7 (step x H7 y7)) λ_ s8 ⟨σ8,H8,I8,⟨ow8,hl8,e8⟩,q8⟩=>?_
   refine bj (hf _ _ _ _ s8 _ H8 _ I8 q8) λok s9 ⟨H9,I9,q9⟩=>?_
   have again:∀{H':Hp} {s':Shared},ag (cN X N scope cl s3.heap.objs.size fp s3 (aw H s.heap.objs.size (.lst []))) ([]++pY fp s7.heap) σ8 H' s'->∀{ys':List V},H' s.heap.objs.size=some (.lst ys')->W (i+1) ys' H' ->
     ∃m,m<n0-i/\∃i ow H' ys,ag (cN X N scope cl s3.heap.objs.size fp s3 (aw H s.heap.objs.size (.lst []))) [] (ow++σf fr σ) H' s'/\ow.length=own/\tn i s'.heap/\(∀b∈fp,H' b=none)/\H' s.heap.objs.size=some (.lst ys)/\(m=n0-i/\i<=n0)/\W i ys H':=λ{H' s'} I' {ys'} ha hw'=>by
    refine⟨n0-(i+1),by omega,i+1,ow8,H',ys',e8▸I'.unpinned,hl8,T.keep _ _ _ st7 λb hb o e=>(I'.pin (b,o) (de _ (de _ (rJ hb e)))).1,λb hb=>?_,ha,⟨rfl,hin⟩,hw'⟩;obtain⟨o,e,_⟩:=T.obj _ _ st7 b hb;exact(I'.pin (b,o) (de _ (de _ (rJ hb e)))).2.1
   cases ok with
   |false=>
    have q9':H9 s.heap.objs.size=some (.lst ys)/\W (i+1) ys H9:=by simpa using q9
    obtain⟨ha,hw'⟩:=q9';show if false=true then _ else _
    rw[if_neg (by decide)];exact again I9 ha hw'
   |true=>
    rw[if_pos rfl]at q9;show if true=true then _ else _
    rw[if_pos rfl];refine bj (he _ _ _ _ s9 _ H9 _ I9 q9) λy s10 ⟨v10,H10,I10,r10,ha10,hz10,hw'⟩=>?_
    refine bj (wN _ s10 _ H10 (.ref s.heap.objs.size) [v10] (.ref s.heap.objs.size) [y] (λ_ H'=>H'=aw H10 s.heap.objs.size (.lst (ys++[v10]))) I10 rfl (.cons r10 .nil) ⟨_,ys,v10,rfl,rfl,ha10,hz10,rfl⟩) λ_ s11 ⟨_,H11,I11,_,e11⟩=>?_
    subst e11;exact again I11 bL hw'
 exact codeAny_compStart_list (loop _ (by rw[<-hs3];rfl)) (T.self X.A 0 _ _ _ st0 (loop _ (by rw[<-hs3];rfl)))
end
noncomputable def zK(own:Nat)(fr:List Nat)(wi:TI)(g:TG)(tf:TT)(te:TE):TE:=λσ H Q=>wi σ H λJ H1=>∀a,H1 a=none->xx J a own fr g tf te σ H1 Q
section
variable{X:Cx}{sc:Scope}{XN N:List Str}{own:Nat}{fr:List Nat}{scope:Scope}{elt tg iter:Expr}{ifs:List Expr}{pos:Pos}{wi:TI}{g:TG}{tf:TT}{te:TE}
theorem K0(hc:X.calm=true)(S:lN sc XN N own fr scope)(hi:PI X tg iter wi)
  (hg:∀cl C fp s H,PG (cN X N scope cl C fp s H) tg g) (hf:∀cl C fp s H,se (cN X N scope cl C fp s H) ifs tf) (he:∀cl C fp s H,PE (cN X N scope cl C fp s H) elt te)
  (hs:∀x,foldedSetIterable iter X.env x=pure x:=by intro _;rfl) (hsc:X.env.scope=sc:=by rfl) (hxn:X.N=XN:=by rfl):PE X (.ListComp elt [⟨tg,iter,ifs,0⟩] scope pos) (zK own fr wi g tf te):=by
 subst hsc hxn;intro Pp s σ H Q I h;obtain⟨cl,c1,c2,c3⟩:=CF (scope:=scope) (env:=X.env) λy hy e=>I.ok.has y.1 (S.free y hy e)
 rw[eval_ListComp];refine wpAny_comprehension_free (use:=none) rfl hs c1 S.kind S.loc (bj (hi Pp s σ H _ I h) λxv s1 h1=>bj h1 λitv s2 h2=>?_);obtain⟨it,fp,tn,J,H2,e,I2,T,st2,f2,hw⟩:=h2;subst e;refine CG hc S c2 c3 (λC s H=>hg cl C fp s H) (λC s H=>hf cl C fp s H) (λC s H=>he cl C fp s H) I2 T st2 f2 hw λa C s' H' I' q fC ⟨m,hn⟩=>?_
 refine⟨m,hn,λh' hs'=>?_⟩;obtain⟨f0,f1,_,f3,f4,f5⟩:=fC;exact⟨.ref a,H',I'.turned (t':=s'.toks) (λb o hb e=>hs'.extBut b o hb e) f0 f1 f3 f4 f5,rfl,q⟩
theorem BK{i:Nat}{x:Str}{pos' spos:Pos}(hc:X.calm=true)(hN:X.N.Nodup)(hx:X.N[i]?=some x)(hl:kz X.env.scope x)(S:lN sc XN N own fr scope)(hi:PI X tg iter wi)
  (hg:∀cl C fp s H,PG (cN X N scope cl C fp s H) tg g) (hf:∀cl C fp s H,se (cN X N scope cl C fp s H) ifs tf) (he:∀cl C fp s H,PE (cN X N scope cl C fp s H) elt te)
  (hsw:swapsWith (.ListComp elt [⟨tg,iter,ifs,0⟩] scope pos) (some (.Name x pos')) spos.line X.env=pure true:=by rfl)
  (hf':X.fn x=true\/X.env.scope.names.lookup x=some .local:=by first|exact .inl rfl|exact .inr rfl|assumption)
  (hs:∀x,foldedSetIterable iter X.env x=pure x:=by intro _;rfl) (hsc:X.env.scope=sc:=by rfl) (hxn:X.N=XN:=by rfl):PS X (.Assign [.Name x pos'] (.ListComp elt [⟨tg,iter,ifs,0⟩] scope pos) spos) (uO (zK own fr wi g tf te) (uI i)):=by
 subst hsc hxn;intro Pp s σ H D I h;obtain⟨cl,c1,c2,c3⟩:=CF (scope:=scope) (env:=X.env) λy hy e=>I.ok.has y.1 (S.free y hy e)
 rw[exec_Assign_Name_used _ _ _ _ hsw];refine af (wpAny_standAt (af ?_));show wpAny _ X.A (do let _ <- comprehension (.ListComp elt [⟨tg,iter,ifs,0⟩] scope pos) scope X.env _ (newList []) false (eval iter X.env) (some (assign (.Name x pos') X.env))) _ _ s
 refine af (wpAny_mono (wpAny_comprehension_free (use:=some (assign (.Name x pos') X.env)) (Q:=λ_ s'=>SP X Pp D .next s') rfl hs c1 S.kind S.loc
  (bj (hi Pp s σ H _ I h) λxv s1 h1=>bj h1 λitv s2 h2=>?_)) (λ_ s' hq=>ao (ao hq)) λ_ _ e=>e)
 obtain⟨it,fp,tn,J,H2,e,I2,T,st2,f2,hw⟩:=h2;subst e;refine CG hc S c2 c3 (λC s H=>hg cl C fp s H) (λC s H=>hf cl C fp s H) (λC s H=>he cl C fp s H) I2 T st2 f2 hw λa C s' H' I' q fC ⟨m,hn⟩=>?_
 obtain⟨f0,f1,f2',f3,f4,f5⟩:=fC;show wpAny _ _ (assign (.Name x pos') X.env (.ref a)) _ _ _;refine wpAny_assign_Name (Cs I' hN hx hl (show aj (.ref a) (.ref a) from rfl) (λs2 J2 ⟨b,hb,hb'⟩=>?_) hf');have hbC:C≠b:=by
  rcases hb' with z|z
  ·rw[z];exact f1
  ·exact λe=>f4 _ _ z e.symm
 refine⟨m,hn.sameBut hb hbC,λh' hs'=>?_⟩;exact⟨_,H',J2.turned (t':=s2.toks) (λb o hb e=>hs'.extBut b o hb e) f0 f1 f3 f4 f5,q⟩
end
section
variable{X:Cx}
noncomputable def sd(K:W.Frag)(T:String)(x:V)(H:Hp)(b:Bool):Prop:=match x with
 |.non=>b=false
 |.bl _=>b=(T=="bool" || T=="int")
 |.int _=>b=(T=="int")
 |.str _=>b=(T=="str")
 |.ref a=>(∃xs,b_ K H a xs/\b=(T=="list"))\/(∃xs,cu K H a xs/\b=(T=="tuple"))\/(∃kvs,Rd H a (.dK kvs)/\b=(T=="dict"))
 |_=>False
theorem sM{prog:Program}{w:World}{A:Around}{E:Value->Shared->Prop}{s:Shared}{Q:Value->Shared->Prop}{T:String}(hne:(Value.type "NoneType"==Value.type T)=false)(hty:typeOf (.type T)=pure (.type "type"))
  (hsub:isSubtype (.type "NoneType") (.type T)=pure false) (h:Q (.bool false) {s with toks:=s.toks+1}):wpAny (model prog w) A (call (.builtin "isinstance") [.none,.type T]) Q E s:=
 call_isinstance (S:=λ_ R s=>R (.ok (.ret (.bool false))) {s with toks:=s.toks+1}) (λ_ _ _ _ s hs=>by
  obtain⟨h,g,d,t,os⟩:=s
  exact isinstance_outer (isinstance_nested_false_none hne hty hsub hs)) h
theorem ag.lcls{Pp:List (Addr×Obj)}{σ:St}{H:Hp}{s:Shared}{a:Addr}{xs:List V}(I:ag X Pp σ H s)(h:b_ X.K H a xs):∃o,s.heap.get? a=some o/\o.cls=.type "list":=by
 obtain⟨its,r,pl,hz⟩:=I.list h;obtain⟨o,ho,hc,_⟩:=pl.isList;exact⟨o,ho,hc⟩
theorem ag.tcls{Pp:List (Addr×Obj)}{σ:St}{H:Hp}{s:Shared}{a:Addr}{xs:List V}(I:ag X Pp σ H s)(h:cu X.K H a xs):∃o,s.heap.get? a=some o/\o.cls=.type "tuple":=by
 obtain⟨its,r,⟨o,ho,hc,_⟩,hz⟩:=I.tuple h;exact⟨o,ho,hc⟩
theorem ag.dcls{Pp:List (Addr×Obj)}{σ:St}{H:Hp}{s:Shared}{a:Addr}{kvs:List (ay×V)}(I:ag X Pp σ H s)(h:Rd H a (.dK kvs)):∃o,s.heap.get? a=some o/\o.cls=.type "dict":=by
 obtain⟨_,_,vs,_,dd⟩:=h.ok I.hok;obtain⟨o,ho,hc⟩:=dd.typeIs;exact⟨o,ho,hc⟩
theorem vZ:au X (.builtin "isinstance") (λxs H Q=>∃x b,xs=[x,.ty "int"]/\sd X.K "int" x H b/\Q (.bl b) H):=by
 intro Pp s σ H xs us Q I r h;obtain⟨x,b,rfl,hx,q⟩:=h;obtain⟨u,w',rfl,rx,ry⟩:=nX r;cases ry;cases x with
 |non=>cases rx;cases hx;exact sM (by decide +kernel) F.isi_meta_int F.sub_NoneType_int ⟨.bl _,H,I.tok _,rfl,q⟩
 |bl k=>cases rx;cases hx;exact IsiPair.bool_int ⟨.bl _,H,I,rfl,q⟩
 |int i=>obtain⟨t,rfl⟩:=rx;cases hx;exact IsiPair.int_int ⟨.bl _,H,I,rfl,q⟩
 |str i=>obtain⟨t,rfl⟩:=rx;cases hx;exact IsiPair.str_int ⟨.bl _,H,I.tok _,rfl,q⟩
 |ref a=>
  cases rx;rcases hx with⟨xs,hx,rfl⟩|⟨xs,hx,rfl⟩|⟨xs,hx,rfl⟩
  ·obtain⟨o,ho,hc⟩:=I.lcls hx;exact IsiPair.list_int ho hc ⟨.bl _,H,I.tok _,rfl,q⟩
  ·obtain⟨o,ho,hc⟩:=I.tcls hx;exact IsiPair.tuple_int ho hc ⟨.bl _,H,I.tok _,rfl,q⟩
  ·obtain⟨o,ho,hc⟩:=I.dcls hx;exact IsiPair.dict_int ho hc ⟨.bl _,H,I.tok _,rfl,q⟩
 |_=>exact False.elim hx
theorem vV:au X (.builtin "isinstance") (λxs H Q=>∃x b,xs=[x,.ty "bool"]/\sd X.K "bool" x H b/\Q (.bl b) H):=by
 intro Pp s σ H xs us Q I r h;obtain⟨x,b,rfl,hx,q⟩:=h;obtain⟨u,w',rfl,rx,ry⟩:=nX r;cases ry;cases x with
 |non=>cases rx;cases hx;exact sM (by decide +kernel) F.isi_meta_bool F.sub_NoneType_bool ⟨.bl _,H,I.tok _,rfl,q⟩
 |bl k=>cases rx;cases hx;exact IsiPair.bool_bool ⟨.bl _,H,I,rfl,q⟩
 |int i=>obtain⟨t,rfl⟩:=rx;cases hx;exact IsiPair.int_bool ⟨.bl _,H,I.tok _,rfl,q⟩
 |str i=>obtain⟨t,rfl⟩:=rx;cases hx;exact IsiPair.str_bool ⟨.bl _,H,I.tok _,rfl,q⟩
 |ref a=>
  cases rx;rcases hx with⟨xs,hx,rfl⟩|⟨xs,hx,rfl⟩|⟨xs,hx,rfl⟩
  ·obtain⟨o,ho,hc⟩:=I.lcls hx;exact IsiPair.list_bool ho hc ⟨.bl _,H,I.tok _,rfl,q⟩
  ·obtain⟨o,ho,hc⟩:=I.tcls hx;exact IsiPair.tuple_bool ho hc ⟨.bl _,H,I.tok _,rfl,q⟩
  ·obtain⟨o,ho,hc⟩:=I.dcls hx;exact IsiPair.dict_bool ho hc ⟨.bl _,H,I.tok _,rfl,q⟩
 |_=>exact False.elim hx
theorem vY:au X (.builtin "isinstance") (λxs H Q=>∃x b,xs=[x,.ty "str"]/\sd X.K "str" x H b/\Q (.bl b) H):=by
 intro Pp s σ H xs us Q I r h;obtain⟨x,b,rfl,hx,q⟩:=h;obtain⟨u,w',rfl,rx,ry⟩:=nX r;cases ry;cases x with
 |non=>cases rx;cases hx;exact sM (by decide +kernel) F.isi_meta_str F.sub_NoneType_str ⟨.bl _,H,I.tok _,rfl,q⟩
 |bl k=>cases rx;cases hx;exact IsiPair.bool_str ⟨.bl _,H,I.tok _,rfl,q⟩
 |int i=>obtain⟨t,rfl⟩:=rx;cases hx;exact IsiPair.int_str ⟨.bl _,H,I.tok _,rfl,q⟩
 |str i=>obtain⟨t,rfl⟩:=rx;cases hx;exact IsiPair.str_str ⟨.bl _,H,I,rfl,q⟩
 |ref a=>
  cases rx;rcases hx with⟨xs,hx,rfl⟩|⟨xs,hx,rfl⟩|⟨xs,hx,rfl⟩
  ·obtain⟨o,ho,hc⟩:=I.lcls hx;exact IsiPair.list_str ho hc ⟨.bl _,H,I.tok _,rfl,q⟩
  ·obtain⟨o,ho,hc⟩:=I.tcls hx;exact IsiPair.tuple_str ho hc ⟨.bl _,H,I.tok _,rfl,q⟩
  ·obtain⟨o,ho,hc⟩:=I.dcls hx;exact IsiPair.dict_str ho hc ⟨.bl _,H,I.tok _,rfl,q⟩
 |_=>exact False.elim hx
theorem vT:au X (.builtin "isinstance") (λxs H Q=>∃x b,xs=[x,.ty "list"]/\sd X.K "list" x H b/\Q (.bl b) H):=by
 intro Pp s σ H xs us Q I r h;obtain⟨x,b,rfl,hx,q⟩:=h;obtain⟨u,w',rfl,rx,ry⟩:=nX r;cases ry;cases x with
 |non=>cases rx;cases hx;exact sM (by decide +kernel) F.isi_meta_list F.sub_NoneType_list ⟨.bl _,H,I.tok _,rfl,q⟩
 |bl k=>cases rx;cases hx;exact IsiPair.bool_list ⟨.bl _,H,I.tok _,rfl,q⟩
 |int i=>obtain⟨t,rfl⟩:=rx;cases hx;exact IsiPair.int_list ⟨.bl _,H,I.tok _,rfl,q⟩
 |str i=>obtain⟨t,rfl⟩:=rx;cases hx;exact IsiPair.str_list ⟨.bl _,H,I.tok _,rfl,q⟩
 |ref a=>
  cases rx;rcases hx with⟨xs,hx,rfl⟩|⟨xs,hx,rfl⟩|⟨xs,hx,rfl⟩
  ·obtain⟨o,ho,hc⟩:=I.lcls hx;exact IsiPair.list_list ho hc ⟨.bl _,H,I,rfl,q⟩
  ·obtain⟨o,ho,hc⟩:=I.tcls hx;exact IsiPair.tuple_list ho hc ⟨.bl _,H,I.tok _,rfl,q⟩
  ·obtain⟨o,ho,hc⟩:=I.dcls hx;exact IsiPair.dict_list ho hc ⟨.bl _,H,I.tok _,rfl,q⟩
 |_=>exact False.elim hx
theorem Lr(hc:X.calm=true):au X (.builtin "sum") (λxs H Q=>∃(p:Addr) (ns:List Int),xs=[.ref p]/\b_ X.K H p (ns.map V.int)/\Q (.int ns.sum) H):=by
 intro Pp s σ H xs us Q I r h;obtain⟨p,ns,rfl,hq,q⟩:=h;obtain⟨u,rfl,rx⟩:=cY r;cases rx;obtain⟨its,rv,pl,hz⟩:=I.list hq;have hi:IntsAre its ns:=rK rv;have hall:=hi.allInts;have e0:=hi.numsOf;obtain⟨xs,ex⟩:=hall.items;have e1:numsOf (intItems xs).toList=ns:=by rw[<-ex];exact e0
 rw[nums_intItems]at e1;have hl:=pl.isList;rw[ex]at hl;refine sum_intListG (I.ok.hd hc) hl λh' tk t' hk=>⟨.int ns.sum,H,I.kept hk,⟨t',?_⟩,q⟩
 rw[preSum_eq,mr (by simp),e1]
theorem Dv{prog:Program}{w:World}{A:Around}{bs:List Bool}{its:List Value}(rv:ak (bs.map V.bl) its):TruthOf prog w A (λi v=>its.toArray[i]?=some v) λi=>bs.getD i false:=by
 intro i v s Q E hP hQ;have hi:its[i]?=some v:=by simpa using hP
 have hl:=rv.length;rw[aq]at hl;have hlt:i<bs.length:=by rw[hl];exact(qB_.mp hi).1
 obtain⟨u,hu,ru⟩:=rv.get (i:=i) (x:=V.bl (bs.getD i false)) (by rw[g4,ji,cb hlt];rfl);rw[hi]at hu;cases hu;cases ru;exact wpAny_truthy_bool hQ
theorem MS(bs:List Bool):(List.range bs.length).all (λi=>bs.getD i false)=bs.all id:=by
 induction bs with
 |nil=>rfl
 |cons b r ih=>
  rw[iw,mq,jb,jb,jx];rw[<-ih];rfl
theorem MT(bs:List Bool):(List.range bs.length).any (λi=>bs.getD i false)=bs.any id:=by
 induction bs with
 |nil=>rfl
 |cons b r ih=>
  rw[iw,mq,ie,ie,List.any_map];rw[<-ih];rfl
theorem Ll(hc:X.calm=true):au X (.builtin "all") (λxs H Q=>∃(p:Addr) (bs:List Bool),xs=[.ref p]/\b_ X.K H p (bs.map V.bl)/\Q (.bl (bs.all id)) H):=by
 intro Pp s σ H xs us Q I r h;obtain⟨p,bs,rfl,hq,q⟩:=h;obtain⟨u,rfl,rx⟩:=cY r;cases rx;obtain⟨its,rv,pl,hz⟩:=I.list hq;have hlt:p<s.heap.objs.size:=by obtain⟨_,e,_⟩:=pl.isList;exact b5 e
 have hll:=rv.length;rw[aq]at hll;refine call_all_walk (wpAny_pyIter_list pl.isList ?_);refine⟨s.heap.objs.size,_,_,_,_,_,λi=>bs.getD i false,rfl,Walks.list (A:=X.A.in1) (I.ok.hd hc) _ p (cz hlt) its.toArray,⟨⟨_,cy _ rfl,rfl,rfl⟩,pl.isList.at λo e=>b6 _ e⟩,Dv rv,λh' tk hk=>?_⟩;refine⟨.bl (bs.all id),H,I.kept λb o e=>hk b o (by simpa using cz (b5 e)) (b6 _ e),?_,q⟩;show Value.bool _=Value.bool _;rw[cg,<-hll,MS]
theorem Lm(hc:X.calm=true):au X (.builtin "any") (λxs H Q=>∃(p:Addr) (bs:List Bool),xs=[.ref p]/\b_ X.K H p (bs.map V.bl)/\Q (.bl (bs.any id)) H):=by
 intro Pp s σ H xs us Q I r h;obtain⟨p,bs,rfl,hq,q⟩:=h;obtain⟨u,rfl,rx⟩:=cY r;cases rx;obtain⟨its,rv,pl,hz⟩:=I.list hq;have hlt:p<s.heap.objs.size:=by obtain⟨_,e,_⟩:=pl.isList;exact b5 e
 have hll:=rv.length;rw[aq]at hll;refine call_any_walk (wpAny_pyIter_list pl.isList ?_);refine⟨s.heap.objs.size,_,_,_,_,_,λi=>bs.getD i false,rfl,Walks.list (A:=X.A.in1) (I.ok.hd hc) _ p (cz hlt) its.toArray,⟨⟨_,cy _ rfl,rfl,rfl⟩,pl.isList.at λo e=>b6 _ e⟩,Dv rv,λh' tk hk=>?_⟩;refine⟨.bl (bs.any id),H,I.kept λb o e=>hk b o (by simpa using cz (b5 e)) (b6 _ e),?_,q⟩;show Value.bool _=Value.bool _;rw[cg,<-hll,MT]
noncomputable def hX:List V->List V->Bool
 |[],[]=>true
 |x::xs,y::ys=>dr x y&&hX xs ys
 |_,_=>false
theorem Bi:∀{xs ys:List V},xs.length≠ys.length->hX xs ys=false
 |[],[],h=>absurd rfl h
 |[],_::_,_=>rfl
 |_::_,[],_=>rfl
 |x::xs,y::ys,h=>by
  have:=Bi (xs:=xs) (ys:=ys) (λe=>h (by simp[e]));simp[hX,this]
theorem CH:∀{xs ys:List V},xs.length=ys.length->(List.range xs.length).all (λi=>dr (xs.getD i .non) (ys.getD i .non))=hX xs ys
 |[],[],_=>rfl
 |[],_::_,h=>by simp at h
 |_::_,[],h=>by simp at h
 |x::xs,y::ys,h=>by
  have ih:=CH (xs:=xs) (ys:=ys) (by simpa using h);rw[iw,mq,jb,jx];show(dr x y&&(List.range xs.length).all λi=>dr (xs.getD i .non) (ys.getD i .non))=(dr x y&&hX xs ys);rw[ih]
theorem KW{A:Around}{s:Shared}{xs ys:List V}{us ws:List Value}(r:ak xs us)(r':ak ys ws)(fx:xs.all eC=true)(fy:ys.all eC=true)(j:Nat)(h1:j<us.toArray.size)(h2:j<ws.toArray.size):
  SeqAt.EqAt A s us.toArray[j] ws.toArray[j] (dr (xs.getD j .non) (ys.getD j .non)):=by
 have l1:=r.length;have l2:=r'.length;have k1:j<xs.length:=by rw[l1];simpa using h1
 have k2:j<ys.length:=by rw[l2];simpa using h2
 obtain⟨u,hu,ru⟩:=r.get (i:=j) (x:=xs.getD j .non) (by rw[ji,cb k1];rfl);obtain⟨w',hw,rw'⟩:=r'.get (i:=j) (x:=ys.getD j .non) (by rw[ji,cb k2];rfl);have e1:us.toArray[j]=u:=by
  obtain⟨_,e⟩:=qB_.mp hu;simpa using e
 have e2:ws.toArray[j]=w':=by
  obtain⟨_,e⟩:=qB_.mp hw;simpa using e
 rw[e1,e2];refine A9 ru rw' (qE_.mp fx _ ?_) (qE_.mp fy _ ?_)
 ·rw[ji,cb k1];exact j7 k1
 ·rw[ji,cb k2];exact j7 k2
noncomputable def E8(K:W.Frag)(neg:Bool):R2:=λx y H Q=>∃p q xs ys,x=.ref p/\y=.ref q/\b_ K H p xs/\b_ K H q ys/\xs.all eC=true/\ys.all eC=true/\Q (.bl (if neg then !hX xs ys else hX xs ys)) H
theorem Iu(hu:X.A.units<cLine):cf X (compareOp .Eq) (E8 X.K false):=by
 intro Pp s σ H x y v u Q I rx ry h;obtain⟨p,q,xs,ys,rfl,rfl,hx,hy,fx,fy,k⟩:=h;cases rx;cases ry;obtain⟨us,r1,p1,z1⟩:=I.list hx;obtain⟨ws,r2,p2,z2⟩:=I.list hy;by_cases hl:xs.length=ys.length
 ·refine SeqAt.eq_listAt p1.isList p2.isList (by simp[<-r1.length,<-r2.length,hl]) hu (λj h1 h2=>KW r1 r2 fx fy j h1 h2) ⟨.bl (hX xs ys),H,I,?_,k⟩;show Value.bool _=Value.bool _;rw[cg,<-r1.length,CH hl]
 ·refine SeqAt.eq_list_lengthsAt p1.isList p2.isList (by simp[<-r1.length,<-r2.length,hl]) hu ⟨.bl (hX xs ys),H,I,?_,k⟩;rw[Bi hl];rfl
theorem LW(n:Nat):sliceRange (sliceBounds none none (some (-1)) n).1 (sliceBounds none none (some (-1)) n).2.1 (sliceBounds none none (some (-1)) n).2.2=(List.range n).map λk=>n-1-k:=by
 have e:sliceBounds none none (some (-1)) n=((n:Int)-1,-1,-1):=by simp[sliceBounds]
 rw[e];unfold sliceRange;simp only[show ¬ ((-1:Int) > 0) by decide,if_false];by_cases hn:n=0
 ·subst hn;simp
 ·have h1:(n:Int)-1 > -1:=by omega
  rw[if_pos h1];have h2:(((n:Int)-1 - -1 - -1-1) / (- -1)).toNat=n:=by
   rw[show(n:Int)-1 - -1 - -1-1=n by omega,show(- -1:Int)=1 by decide,Int.ediv_one];exact Int.toNat_natCast n
  rw[h2];refine oo λk hk=>?_
  have:=ql1_.mp hk;omega
theorem Bk{α β:Type}{f g:α->Option β}:∀{l:List α},(∀x∈l,f x=g x)->l.filterMap f=l.filterMap g
 |[],_=>rfl
 |x::r,h=>by rw[i9,i9,h x ib,Bk λy hy=>h y (ia _ hy)]
theorem Ci{α:Type}:∀zs:List α,(List.range zs.length).filterMap (λk=>zs.reverse[zs.length-1-k]?)=zs
 |[]=>rfl
 |z::r=>by
  rw[iw,mq,i9,nr];have h0:(z::r).reverse[r.length+1-1-0]?=some z:=by simp
  rw[h0];have h1:List.filterMap ((λk=>(z::r).reverse[r.length+1-1-k]?)∘Nat.succ) (List.range r.length)=List.filterMap (λk=>r.reverse[r.length-1-k]?) (List.range r.length):=by
   apply Bk;intro k hk;have hk:=ql1_.mp hk;show(z::r).reverse[r.length+1-1-(k+1)]?=r.reverse[r.length-1-k]?;rw[rj,j9 (by simp;omega)];rw[show r.length+1-1-(k+1)=r.length-1-k by omega]
  rw[h1,Ci r]
theorem LL{α:Type}(xs:List α):((List.range xs.length).map λk=>xs.length-1-k).filterMap (λi=>xs[i]?)=xs.reverse:=by
 have:=Ci xs.reverse;rw[rg,List.reverse_reverse]at this;rw[nr];exact this
theorem Nq(its:List Value):slicePick its.toArray none none (some (-1))=its.reverse.toArray:=by
 unfold slicePick;rw[cg,LW];congr 1;have:=LL its;simpa using this
noncomputable def Ft(K:W.Frag)(te tst:TE):TE:=λσ H Q=>te σ H λx H1=>tst σ H1 λy H2=>y=.int (-1)/\∃p xs,x=.ref p/\b_ K H2 p xs/\∀l,H2 l=none->Q (.ref l) (aw H2 l (.lst xs.reverse))
theorem HB{e st:Expr}{te tst:TE}{pos p2:Pos}(he:PE X e te)(hst:PE X st tst)(ht:∀o r,letTemporaryGo e o r=pure ():=by intro _ _;rfl):PE X (.Subscript e (.Slice none none (some st) p2) pos) (Ft X.K te tst):=by
 intro Pp s σ H Q I h;refine wpAny_Subscript_Slice_step (T:="list") slot_list_getitem.lookup (bj (he Pp s σ H _ I h) λv s1 ⟨x,H1,I1,r1,q1⟩=>?_) ht;refine wpAny_Slice ?_;rw[evalPart_none,evalPart_some];refine ao (ao (bj (hst Pp s1 σ H1 _ I1 q1) λvs s2 ⟨y,H2,I2,r2,q2⟩=>?_));obtain⟨rfl,p,xs,rfl,hx,q⟩:=q2;obtain⟨t,rfl⟩:=r2;cases r1;have I3:ag X Pp σ H2 {s2 with heap:=s2.heap.push {cls:=.type "slice",data:=.fields #[.none,.none,.int (-1) t]}}:=I2.kept (t':=s2.toks) λb ob q=>b6 _ q
 obtain⟨its,rv,pl,hz⟩:=I3.list hx;refine⟨pl.isList.typeIs,?_⟩;refine wpAny_getItem_list_slice pl.isList (Heap.IsSliceOf.new ..) .none .none (.int (-1) t) (by decide) ?_ (by rw[cg,<-rv.length];exact hz);rw[Nq];refine⟨.ref _,_,I3.laid (t':=s2.toks) (o:=.lst xs.reverse) (λb ob q=>b6 _ q) (bp _) ?_,rfl,q _ (I3.hok.fresh (bp _))⟩;exact⟨by rw[rg];exact hz,_,0,rv.reverse,cy _ rfl⟩
theorem Iy:cf X (compareOp .Is) (λx y H Q=>∃b,y=.bl b/\Q (.bl (decide (x=.bl b))) H):=by
 intro Pp s σ H x y v u Q I rx ry h;obtain⟨b,rfl,q⟩:=h;cases ry;cases x with
 |non=>cases rx;exact wpAny_is_plain rfl ⟨.bl _,H,I,(by simp[aj]),q⟩
 |bl k=>cases rx;exact wpAny_is_plain rfl ⟨.bl _,H,I,(by cases k<;>cases b<;>rfl),q⟩
 |int i=>obtain⟨t,rfl⟩:=rx;exact wpAny_is_plain rfl ⟨.bl _,H,I,(by simp[aj]),q⟩
 |str i=>obtain⟨t,rfl⟩:=rx;exact wpAny_is_plain rfl ⟨.bl _,H,I,(by simp[aj]),q⟩
 |byt i=>obtain⟨t,rfl⟩:=rx;exact wpAny_is_plain rfl ⟨.bl _,H,I,(by simp[aj]),q⟩
 |flt i=>obtain⟨t,rfl⟩:=rx;exact wpAny_is_plain rfl ⟨.bl _,H,I,(by simp[aj]),q⟩
 |ref i=>cases rx;exact wpAny_is_plain rfl ⟨.bl _,H,I,(by simp[aj]),q⟩
 |ty i=>cases rx;exact wpAny_is_plain rfl ⟨.bl _,H,I,(by simp[aj]),q⟩
theorem MJ:cf X (compareOp .IsNot) (λx y H Q=>∃b,y=.bl b/\Q (.bl (!decide (x=.bl b))) H):=by
 intro Pp s σ H x y v u Q I rx ry h;obtain⟨b,rfl,q⟩:=h;cases ry;cases x with
 |non=>cases rx;exact wpAny_isNot_plain rfl ⟨.bl _,H,I,(by simp[aj]),q⟩
 |bl k=>cases rx;exact wpAny_isNot_plain rfl ⟨.bl _,H,I,(by cases k<;>cases b<;>rfl),q⟩
 |int i=>obtain⟨t,rfl⟩:=rx;exact wpAny_isNot_plain rfl ⟨.bl _,H,I,(by simp[aj]),q⟩
 |str i=>obtain⟨t,rfl⟩:=rx;exact wpAny_isNot_plain rfl ⟨.bl _,H,I,(by simp[aj]),q⟩
 |byt i=>obtain⟨t,rfl⟩:=rx;exact wpAny_isNot_plain rfl ⟨.bl _,H,I,(by simp[aj]),q⟩
 |flt i=>obtain⟨t,rfl⟩:=rx;exact wpAny_isNot_plain rfl ⟨.bl _,H,I,(by simp[aj]),q⟩
 |ref i=>cases rx;exact wpAny_isNot_plain rfl ⟨.bl _,H,I,(by simp[aj]),q⟩
 |ty i=>cases rx;exact wpAny_isNot_plain rfl ⟨.bl _,H,I,(by simp[aj]),q⟩
noncomputable def cx(j:Int):Prop:=j.natAbs<2 ^ 1024
theorem cx.log{j:Int}(h:cx j):j.natAbs.log2<9000:=by
 by_cases h0:j.natAbs=0
 ·rw[h0];decide +kernel
 ·have:j.natAbs.log2<1024:=(Nat.log2_lt h0).mpr h;omega
theorem op_mulB:cf X (binaryOp .Mult) (rI (λi j=>cx i/\cx j) λi j=>.int (i*j)):=r_ λi j _ _ _ _ _ hc q=>by
 have bits:∀{x:Int},cx x->Builtin.Int.intBits x<=2 ^ 20:=λ{x} h=>by
  unfold Builtin.Int.intBits;split
  ·exact d8 _
  ·rename_i h0;have h0':x.natAbs≠0:=λz=>h0 (by simpa using z)
   have:x.natAbs.log2<1024:=(Nat.log2_lt h0').mpr h;omega
 exact mul_int q (.of_bits (bits hc.1) (bits hc.2))
theorem Bx:cf X (binaryOp .FloorDiv) (rI (λ_ j=>0<j/\cx j) λi j=>.int (i / j)):=r_ λi j _ _ _ _ _ hc q=>by
 have h1:(0:Int)<j:=hc.1;exact floordiv_int (by omega) (by rw[s_ i (by omega)];exact q) (.inl (PyProof.noPylong_of_log2 hc.2.log))
end
noncomputable def eX:Expr->Bool
 |.Starred ..=>true
 |_=>false
theorem jK{e:Expr}{rest:List Expr}{env:Env}(h:eX e=false):starEach (e::rest) env=(false,eval e env)::starEach rest env:=by
 cases e<;>first|rfl|exact Bool.noConfusion h
theorem dR{X:Cx}{e:Expr}{es:List Expr}{te:TE}{t:TA}(ha:PE X e te)(hr:PA X es t)(h:eX e=false:=by rfl):PA X (e::es) (zJ te t):=Jn ha hr (jK h)
noncomputable def cw(P:Program)(w:World)(K:W.Frag)(mg:Str->Option Value)(base:Heap)(k:Nat)(x:Str)(ps:List Str)(sp:Sp):Prop:=
 ∃(f:Addr) (fd:FuncData),dj P w K mg base lj k f fd ps sp/\ir K fd ps []/\mg x=some (.ref f)/\W.keepIn K (.ref f)=true
section
variable{X:Cx}{k:Nat}{x:Str}{ps:List Str}{sp:Sp}{e:Expr}{es:List Expr}{t:TA}{p pos:Pos}
theorem uA(G:cw X.prog X.w X.K X.mg X.base k x ps sp)(hr:br k X.A)(hg:Gl X x)(ha:PA X (e::es) t)(hdb:(x==("__debug__":Str))=false:=by decide)
  (hst:eX e=false:=by rfl) (hpl:(backTo pos (starEach es X.env)).any (·.1)=false:=by rfl):PE X (.Call (.Name x p) (e::es) [] pos) (qD sp [] E0 t):=by
 obtain⟨f,fd,F,b,m,kp⟩:=G;exact KY F hr hg m kp b .nil yh ha hdb (jK hst) hpl
theorem Hy(G:cw X.prog X.w X.K X.mg X.base k x ps sp)(hr:br k X.A)(hg:Gl X x)(hdb:(x==("__debug__":Str))=false:=by decide):PE X (.Call (.Name x p) [] [] pos) (qD sp [] E0 uN):=by
 obtain⟨f,fd,F,b,m,kp⟩:=G;exact LD F hr hg m kp b .nil yh hdb
end
noncomputable def ai(K:W.Frag)(mg:Str->Option Value)(x:Str)(st:Stmt):Prop:=∃(f:Addr) (fd:FuncData),rp K x x st f fd/\mg x=some (.ref f)
theorem ai.good{P:Program}{w:World}{K:W.Frag}{mg:Str->Option Value}{base:Heap}{x:Str}{st:Stmt}{N ps:List Str}{k:Nat}{sp:Sp}(h:ai K mg x st)(S:dN N ps (aV st))
  (hb:∀(kV doc pm:Value) (an:Option Addr) (Pu ct:Value) (us:List Value),us.length=ps.length->bindArgs (W.fnOf x x (fZ st) (dZ st) (aV st) .none kV doc pm an Pu ct) ⟨us,[]⟩=pure (ps.zip us))
  (len:∀vs H Q E,sp vs H Q E->vs.length=ps.length)
  (Px:∀(f:Addr) (Pu:Value) (A:Around) (outer:List Env) (s:Shared) (H:Hp) (vs:List V) (Q:VK) (E:XK),br k (A.deeper (envOfC x (aV st) s.heap.objs.size f Pu))->sp vs H Q E ->
   ∃t,iq (hZ lj P w K mg base N x (aV st) f Pu A outer s H E).nox (dZ st) t/\t {nx:=λ_ H'=>Q .non H',rt:=Q} (fG N vs) H):cw P w K mg base (k+1) x ps sp:=by
 obtain⟨f,fd,F,m⟩:=h;exact⟨f,fd,F.ok S len λPu A outer s H vs Q E hr q=>Px f Pu A outer s H vs Q E hr q,F.binds hb,m,F.kp⟩
theorem has_mk{K:W.Frag}{h:Heap}{mg:Str->Option Value}{x:Str}{st:Stmt}{f:Addr}{oc:Value}{od an:Option Addr}{osl:Array (Option Value)}{kV doc pm Pu ct:Value}(X:K.In h)(G:h.Ns mainGlobals mg)
  (a:W.nsIn K mainGlobals x=some (some (.ref f))) (l:K.lookup f=some ⟨oc,od,.func (W.fnOf x x (fZ st) (dZ st) (aV st) .none kV doc pm an Pu ct),osl⟩)
  (c:W.codeIn K Pu x=true) (k:W.keepIn K (.ref f)=true):ai K mg x st:=⟨f,_,Ba l c k,PySem.W.mg_of X G a⟩
structure Own (mg:Str->Option Value):Prop where
 len:mg "len"=none
 range:mg "range"=none
 isinstance:mg "isinstance"=none
 int_:mg "int"=none
 bool_:mg "bool"=none
 str_:mg "str"=none
 list_:mg "list"=none
 tuple_:mg "tuple"=none
 dict_:mg "dict"=none
 sum:mg "sum"=none
 min:mg "min"=none
 max:mg "max"=none
 all:mg "all"=none
 any:mg "any"=none
 abs:mg "abs"=none
 zip:mg "zip"=none
 sorted:mg "sorted"=none
 set_:mg "set"=none
 enumerate:mg "enumerate"=none
theorem Hv{K:W.Frag}{h:Heap}{mg:Str->Option Value}(X:K.In h)(G:h.Ns mainGlobals mg)(z1:W.nsIn K mainGlobals "len"=some none)(z2:W.nsIn K mainGlobals "range"=some none)
    (z3:W.nsIn K mainGlobals "isinstance"=some none) (z4:W.nsIn K mainGlobals "int"=some none) (z5:W.nsIn K mainGlobals "bool"=some none) (z6:W.nsIn K mainGlobals "str"=some none)
    (z7:W.nsIn K mainGlobals "list"=some none) (z8:W.nsIn K mainGlobals "tuple"=some none) (z9:W.nsIn K mainGlobals "dict"=some none) (z10:W.nsIn K mainGlobals "sum"=some none)
    (z11:W.nsIn K mainGlobals "min"=some none) (z12:W.nsIn K mainGlobals "max"=some none) (z13:W.nsIn K mainGlobals "all"=some none) (z14:W.nsIn K mainGlobals "any"=some none)
    (z15:W.nsIn K mainGlobals "abs"=some none) (z16:W.nsIn K mainGlobals "zip"=some none) (z17:W.nsIn K mainGlobals "sorted"=some none) (z18:W.nsIn K mainGlobals "set"=some none)
    (z19:W.nsIn K mainGlobals "enumerate"=some none):Own mg:=
  ⟨jd X G z1,jd X G z2,jd X G z3,jd X G z4,jd X G z5,jd X G z6,jd X G z7,jd X G z8,jd X G z9,jd X G z10,
   jd X G z11,jd X G z12,jd X G z13,jd X G z14,jd X G z15,jd X G z16,jd X G z17,jd X G z18,jd X G z19⟩
structure bt (H:Hp) (p c:Addr):Prop where
 ne:p≠c
 dk:∃S k:Int,H p=some (.lst [.ref c,.int S,.int k])
 cs:∃ns:List Int,H c=some (.lst (ns.map V.int))/\ns.length<=64
structure On (p c:Addr) (H H':Hp):Prop where
 d:bt H' p c
 e:∀b o,H b=some o->b≠p->b≠c->H' b=some o
section
variable{p c a:Addr}{H H1 H2:Hp}{o:HO}
theorem bt.nep(d:bt H p c)(h:H a=none):a≠p:=λz=>by
 obtain⟨S,k,e⟩:=d.dk;rw[z,e]at h;cases h
theorem bt.nec(d:bt H p c)(h:H a=none):a≠c:=λz=>by
 obtain⟨ns,e,_⟩:=d.cs;rw[z,e]at h;cases h
theorem bt.alloc(d:bt H p c)(h:H a=none):bt (aw H a o) p c:=by
 obtain⟨S,k,e⟩:=d.dk;obtain⟨ns,e',l⟩:=d.cs;exact⟨d.ne,⟨S,k,by rw[bU (d.nep h).symm];exact e⟩,ns,by rw[bU (d.nec h).symm];exact e',l⟩
theorem On.trans(x:On p c H H1)(y:On p c H1 H2):On p c H H2:=⟨y.d,λb o h hp hc=>y.e b o (x.e b o h hp hc) hp hc⟩
theorem On.alloc(x:On p c H H1)(h:H1 a=none):On p c H (aw H1 a o):=
 ⟨x.d.alloc h,λb u q hp hc=>by rw[bU (eW (x.e b u q hp hc) h)];exact x.e b u q hp hc⟩
end
noncomputable def BQ:Sp:=λvs H Q _=>∃n k:Int,vs=[.int n,.int k]/\∀r:Int,Q (.int r) H
noncomputable def z_(K:W.Frag):Sp:=λvs H Q _=>∃(a:Addr) (ns:List Int),vs=[.ref a]/\b_ K H a (ns.map V.int)/\∀(p c:Addr) (H':Hp),H p=none->H c=none->bt H' p c->ba H H'->Q (.ref p) H'
noncomputable def Aa:Sp:=λvs H Q _=>∃(p c:Addr) (m:Int),vs=[.ref p,.int m]/\bt H p c/\0<m/\cx m/\∀(r:Int) (H':Hp),0<=r->r<m->On p c H H'->Q (.int r) H'
theorem a_.there{P:Program}{w:World}{H:Hp}{h:Heap}{a:Addr}{o:HO}(x:a_ P w H h a o):∃ob,h.get? a=some ob:=by
 cases o with
 |lst xs=>obtain⟨_,_,_,_,e⟩:=x;exact⟨_,e⟩
 |tup xs=>obtain⟨_,_,_,ob,e,_⟩:=x;exact⟨_,e⟩
 |dK kvs=>obtain⟨_,_,_,_,o,_,_,e,_⟩:=x;exact⟨_,e⟩
 |dT kvs=>obtain⟨_,_,_,_,o,_,_,e,_⟩:=x;exact⟨_,e⟩
 |set S n=>obtain⟨o,_,_,_,e,_⟩:=x;exact⟨_,e⟩
 |ins C dx fs=>obtain⟨_,_,_,e,_⟩:=x;exact⟨_,e⟩
 |own y=>obtain⟨_,e⟩:=x;exact⟨_,e⟩
 |xd fs=>obtain⟨_,⟨_,_,_,e,_⟩,_⟩:=x;exact⟨_,e⟩
 |rng lo hi=>obtain⟨_,_,_,e⟩:=x;exact⟨_,e⟩
 |frz ob u=>obtain⟨e,_⟩:=x;exact⟨_,e⟩
 |tbl ps=>exact⟨_,(show h.get? a=some _ from x)⟩
 |met f y=>exact⟨_,(show h.get? a=some _ from x)⟩
 |ext φ=>obtain⟨_,⟨_,e⟩,_⟩:=x;exact⟨_,e⟩
section
variable{X:Cx}
theorem dC{H:Hp}{a:Addr}{o:HO}(h:H a=none):ba H (aw H a o):=λb u q=>by rw[bU (eW q h)];exact q
noncomputable def Hi(K:W.Frag):R2:=λx y H Q=>∃a b xs ys,x=.ref a/\y=.ref b/\cu K H a xs/\cu K H b ys/\xs.length+ys.length<=sizeLine/\∀r H',cu K H' r (xs++ys)->ba H H'->Q (.ref r) H'
theorem op_catG:cf X (binaryOp .Add) (Hi X.K):=by
 intro Pp s σ H x y v u Q I rx ry h;obtain⟨a,b,xs,ys,rfl,rfl,ha,hb,hz,q⟩:=h;by_cases hx:xs=[]
 ·subst hx;cases rx;cases ry;obtain⟨its,r1,p1,_⟩:=I.tuple ha;obtain⟨its2,r2,p2,_⟩:=I.tuple hb;obtain⟨⟨cls,dd,data,sl⟩,ho,hc,n,hd⟩:=id p1;obtain⟨⟨cls2,dd2,data2,sl2⟩,ho2,hc2,n2,hd2⟩:=id p2;simp only at hc hd hc2 hd2;subst hc hd hc2 hd2;have e1:its=[]:=r1.nil_iff.mpr rfl;exact concat_meets ⟨_,ho,rfl⟩ ⟨_,ho2,rfl⟩ noFill_tuple_add seq_tuple_add PySem.F.slot_tuple_add PySem.F.entry_tuple_add (PySem.F.args_tuple_add_2 _ _)
   (tuple_addW0 a b its.toArray its2.toArray n n2 dd dd2 sl sl2 (by simp[e1])) ⟨ho,ho2,⟨.ref b,H,I,rfl,q b H hb (ba.refl H)⟩⟩
 ·refine Jh Pp s σ H (.ref a) (.ref b) v u Q I rx ry ⟨a,b,xs,ys,rfl,rfl,ha,hb,hx,hz,λe=>q a H (by rw[e,i8];exact ha) (ba.refl H),λ_ p hp=>q p _ (cu.of bL) (dC hp)⟩
structure QA (X:Cx) (es:List Expr) (t:TA):Prop where
 p:PA X es t
theorem AW:QA X [] uN:=⟨eO⟩
theorem vc{e:Expr}{es:List Expr}{te:TE}{t:TA}(ha:PE X e te)(hr:QA X es t)(h:eX e=false:=by rfl):QA X (e::es) (zJ te t):=⟨dR ha hr.p h⟩
theorem BE{es:List Expr}{t:TA}{pos:Pos}(h:QA X es t):PE X (.List es pos) (zk t):=AO h.p
theorem ag.big{Pp:List (Addr×Obj)}{σ:St}{H:Hp}{s:Shared}(I:ag X Pp σ H s):sysModules<s.heap.objs.size:=by
 have h:mainGlobals<s.heap.objs.size:=(I.mod.glob.keeps I.bk).lt;exact gj (by decide) h
theorem Kc{P:Program}{w:World}{H:Hp}(h:Heap)(hb:sysModules<h.objs.size):a_ P w H (h.push {cls:=.type "dict",data:=.dict #[]}) h.objs.size (.dK []):=
 ⟨d8 _,beq_eq_false_iff_ne.mpr (Ne.symm (cz hb)),[],.nil,Heap.DictOf.new h⟩
noncomputable def Js:TE:=λ_ H Q=>∀p,H p=none->Q (.ref p) (aw H p (.dK []))
theorem LH{pos:Pos}:PE X (.Dict [] [] pos) Js:=λPp s σ H Q I h=>
 wpAny_Dict_empty ⟨.ref s.heap.objs.size,_,I.laid (a:=s.heap.objs.size) (o:=.dK []) (t':=s.toks) (λ_ _ q=>b6 _ q) (bp _) (Kc s.heap I.big),rfl,h _ (I.hok.fresh (bp _))⟩
theorem Lp(hc:X.calm=true):au X (.builtin "min") (λxs H Q=>∃(p:Addr) (ns:List Int),xs=[.ref p]/\b_ X.K H p (ns.map V.int)/\0<ns.length/\∀M,M∈ns->(∀a∈ns,M<=a)->Q (.int M) H):=by
 intro Pp s σ H xs us Q I r h;obtain⟨p,ns,rfl,hq,hn,q⟩:=h;obtain⟨u,rfl,rx⟩:=cY r;cases rx;obtain⟨its,rv,pl,hz⟩:=I.list hq;have hi:IntsAre its ns:=rK rv;obtain⟨zs,ez⟩:=hi.allInts.items;have en:ns=zs.toList.map (·.1):=by rw[<-hi.numsOf,<-nums_intItems,<-ez]
 have hz0:0<zs.size:=by rw[en,aq,fc]at hn;exact hn
 have hl:=pl.isList;rw[ez]at hl;refine min_intList (I.ok.hd hc) hl hz0 λv h' tk hv hk=>?_
 obtain⟨t,rfl⟩:=intItems_at hv;obtain⟨h1,h2⟩:=argBest_lt (numAt zs) (zs.size-1);refine⟨.int _,H,I.kept hk,⟨t,rfl⟩,q _ ?_ λa ha=>?_⟩
 ·rw[en,numAt_eq];exact getD_mem (by rw[aq,fc];omega)
 ·rw[en]at ha;obtain⟨j,hj,rfl⟩:=mem_getD ha;rw[aq,fc]at hj;have:=h2 j (by omega);rw[numAt_eq zs j]at this;exact this
theorem Ln(hc:X.calm=true):au X (.builtin "max") (λxs H Q=>∃(p:Addr) (ns:List Int),xs=[.ref p]/\b_ X.K H p (ns.map V.int)/\0<ns.length/\∀M,M∈ns->(∀a∈ns,a<=M)->Q (.int M) H):=by
 intro Pp s σ H xs us Q I r h;obtain⟨p,ns,rfl,hq,hn,q⟩:=h;obtain⟨u,rfl,rx⟩:=cY r;cases rx;obtain⟨its,rv,pl,hz⟩:=I.list hq;have hi:IntsAre its ns:=rK rv;obtain⟨zs,ez⟩:=hi.allInts.items;have en:ns=zs.toList.map (·.1):=by rw[<-hi.numsOf,<-nums_intItems,<-ez]
 have hz0:0<zs.size:=by rw[en,aq,fc]at hn;exact hn
 have hl:=pl.isList;rw[ez]at hl;refine max_intList (I.ok.hd hc) hl hz0 λv h' tk hv hk=>?_
 obtain⟨t,rfl⟩:=intItems_at hv;obtain⟨h1,h2⟩:=argBest_gt (numAt zs) (zs.size-1);refine⟨.int _,H,I.kept hk,⟨t,rfl⟩,q _ ?_ λa ha=>?_⟩
 ·rw[en,numAt_eq];exact getD_mem (by rw[aq,fc];omega)
 ·rw[en]at ha;obtain⟨j,hj,rfl⟩:=mem_getD ha;rw[aq,fc]at hj;have:=h2 j (by omega);rw[numAt_eq zs j]at this;exact this
end
theorem NO{us:List Value}{ns:List Int}(h:IntsAre us ns):ak (ns.map V.int) us:=by
 induction h with
 |nil=>exact .nil
 |cons n t _ ih=>exact .cons ⟨t,rfl⟩ ih
section
variable{X:Cx}
theorem call_sortedI:au X (.builtin "sorted") (λxs H Q=>∃(p:Addr) (ns:List Int),xs=[.ref p]/\b_ X.K H p (ns.map V.int)/\ns.length<64 /\
  ∀(ns':List Int) (l:Addr),ns'.Perm ns->ns'.Pairwise (·<=·)->H l=none->Q (.ref l) (aw H l (.lst (ns'.map V.int)))):=by
 intro Pp s σ H xs us Q I r h;obtain⟨p,ns,rfl,hq,h64,q⟩:=h;obtain⟨u,rfl,rx⟩:=cY r;cases rx;obtain⟨its,rv,pl,hz⟩:=I.list hq;have hi:IntsAre its ns:=rK rv;have hll:=rv.length;rw[aq]at hll;refine sorted_ints pl.isList hi (by omega) λout ns' a1 a2 a3=>?_
 obtain⟨e,he⟩:=sortedAll_at s.heap its out;have hlen:=a2.length_eq;refine⟨.ref (s.heap.objs.size+1),_,I.laid (t':=s.toks) (λb o e=>sortedAll_old e) (jr _) (show a_ X.prog X.w _ _ _ (.lst (ns'.map V.int)) from ⟨?_,out.toList,e,NO a1,he⟩),rfl,q ns' _ a2 a3 (I.hok.fresh (jr _))⟩;rw[aq,hlen];exact e6 (gj h64 (by decide))
end
noncomputable def t7(x:Str):It:=⟨λi _=>i<x.cps.size,λi H v H'=>H'=H/\∃c,x.cps[i]?=some c/\v=.str ⟨#[c]⟩,λi _=>x.cps.size<=i⟩
theorem Mf{P:Program}{w:World}{K:W.Frag}{tg:Expr}(it:Addr)(x:Str)(t:Tok):lG P w K tg (t7 x) [it] it (λi h=>h.IsStrIter it "str_ascii_iterator" x t i) where
 mem:=by simp
 obj:=λi h st b hb=>by
  have e:b=it:=by simpa using hb
  subst e;obtain⟨o,e,c,d⟩:=st;exact⟨o,e,λv z=>by rw[d]at z;cases z⟩
 keep:=λi h h' st k=>let ⟨o,ho,r⟩:=st;⟨o,k it (by simp) o ho,r⟩
 item:=by
  intro X hP hw hK hc i Pp s σ H E I hf st hg;subst hP hw hK;obtain⟨f0,f1,f2,f3,f4,f5⟩:=hf it (by simp);have W:=Walks.strAscii (prog:=X.prog) (w:=X.w) (I.ok.hd hc) it x t;refine W.item i s _ _ hg st λv h' tk hv st' kk=>?_
  obtain⟨c,u,hc',rfl⟩:=hv;have I1:ag X Pp σ H {s with heap:=h',toks:=tk}:=I.turned (λb o hb e=>kk b o (by simpa using hb) e) f0 f1 f3 f4 f5;obtain⟨o,e,c1,d⟩:=id st';exact⟨_,rfl,nZ (s:={s with heap:=h',toks:=tk}) e c1 d (by decide) ⟨.str ⟨#[c]⟩,H,I1,⟨u,rfl⟩,⟨rfl,c,hc',rfl⟩,st',λb hb=>(hf b hb).1⟩⟩
 done:=by
  intro X hP hw hK hc i Pp s σ H E I hf st hg;subst hP hw hK;obtain⟨f0,f1,f2,f3,f4,f5⟩:=hf it (by simp);exact wpAny_pyNext_ascii_end (I.ok.hd hc) st (by have:x.cps.size<=i:=hg;simp;omega) λh' eb=>⟨rfl,I.turned (t':=s.toks) (λb o hb e=>eb b o hb e) f0 f1 f3 f4 f5⟩
 self:=λ_ _ _ _ _ st h=>wpAny_pyIter_striter_ascii st h
theorem Mg{P:Program}{w:World}{K:W.Frag}{tg:Expr}(it:Addr)(x:Str)(t:Tok):lG P w K tg (t7 x) [it] it (λi h=>h.IsStrIter it "str_iterator" x t i) where
 mem:=by simp
 obj:=λi h st b hb=>by
  have e:b=it:=by simpa using hb
  subst e;obtain⟨o,e,c,d⟩:=st;exact⟨o,e,λv z=>by rw[d]at z;cases z⟩
 keep:=λi h h' st k=>let ⟨o,ho,r⟩:=st;⟨o,k it (by simp) o ho,r⟩
 item:=by
  intro X hP hw hK hc i Pp s σ H E I hf st hg;subst hP hw hK;obtain⟨f0,f1,f2,f3,f4,f5⟩:=hf it (by simp);have W:=Walks.strWide (prog:=X.prog) (w:=X.w) (I.ok.hd hc) it x t;refine W.item i s _ _ hg st λv h' tk hv st' kk=>?_
  obtain⟨c,u,hc',rfl⟩:=hv;have I1:ag X Pp σ H {s with heap:=h',toks:=tk}:=I.turned (λb o hb e=>kk b o (by simpa using hb) e) f0 f1 f3 f4 f5;obtain⟨o,e,c1,d⟩:=id st';exact⟨_,rfl,nZ (s:={s with heap:=h',toks:=tk}) e c1 d (by decide) ⟨.str ⟨#[c]⟩,H,I1,⟨u,rfl⟩,⟨rfl,c,hc',rfl⟩,st',λb hb=>(hf b hb).1⟩⟩
 done:=by
  intro X hP hw hK hc i Pp s σ H E I hf st hg;subst hP hw hK;obtain⟨f0,f1,f2,f3,f4,f5⟩:=hf it (by simp);exact wpAny_pyNext_wide_end (I.ok.hd hc) st (by have:x.cps.size<=i:=hg;simp;omega) λh' eb=>⟨rfl,I.turned (t':=s.toks) (λb o hb e=>eb b o hb e) f0 f1 f3 f4 f5⟩
 self:=λ_ _ _ _ _ st h=>wpAny_pyIter_striter_wide st h
section
variable{X:Cx}
noncomputable def Kt:V->List V->Hp->VK->Prop:=λx vs H Q=>∃i j,x=.str i/\vs=[.str j]/\Q (.bl (decide (0+j.length<=i.length)&&Builtin.Str.subAt i j 0)) H
theorem Nm:rn X "str.startswith" Kt:=by
 intro Pp s σ H x vs v us Q I rx rv h;obtain⟨i,j,rfl,rfl,q⟩:=h;obtain⟨t,rfl⟩:=rx;obtain⟨u,rfl,t',rfl⟩:=rv.one;exact call_gives F.slot_str_startswith (typeIs_str _ _ _) F.entry_str_startswith (F.args_str_startswith_2 _ _) (gives_str_startswith i j t t') ⟨.bl _,H,I,rfl,q⟩
noncomputable def Gc:V->List V->Hp->VK->Prop:=λx vs H Q=>∃i j,x=.str i/\vs=[.str j]/\∀n:Int,Q (.int n) H
theorem Jd:rn X "str.find" Gc:=by
 intro Pp s σ H x vs v us Q I rx rv h;obtain⟨i,j,rfl,rfl,q⟩:=h;obtain⟨t,rfl⟩:=rx;obtain⟨u,rfl,t',rfl⟩:=rv.one;exact call_gives F.slot_str_find (typeIs_str _ _ _) F.entry_str_find (F.args_str_find_2 _ _) (gives_str_find i j t t') ⟨.int _,H,I.tok _,⟨_,rfl⟩,q _⟩
theorem boot_repr:bootBuiltins "repr"=some (.builtin "repr"):=by decide +kernel
theorem call_reprB:au X (.builtin "repr") (λxs H Q=>∃b,xs=[.bl b]/\Q (.str (if b then "True" else "False")) H):=by
 intro Pp s σ H xs us Q I r h;obtain⟨b,rfl,q⟩:=h;obtain⟨u,rfl,rx⟩:=cY r;cases rx;exact PySem.P.repr_of_bool ⟨.str _,H,I.tok _,⟨_,rfl⟩,q⟩
end
noncomputable def KD(prm:Params):List DictEntry->List (Str×Str)->Prop
 |[],[]=>True
 |e::es,kv::kvs=>e.hash=PyData.keyHash prm kv.1/\(∃t,e.key=.str kv.1 t)/\(∃t,e.val=.str kv.2 t)/\KD prm es kvs
 |_,_=>False
structure xy (K:W.Frag) (prm:Params) (d:Addr) (kvs:List (Str×Str)):Prop where
 obj:∃(es:Array DictEntry) (ep:Nat),K.lookup d=some ⟨.type "dict",none,.dict es ep,#[]⟩/\KD prm es.toList kvs
 nd:(kvs.map (·.1)).Nodup
noncomputable def getS(kvs:List (Str×Str))(x:Str):Option Str:=(kvs.find? λkv=>kv.1=x).map (·.2)
theorem KD.keys{P:Program}{w:World}:∀{es:List DictEntry}{kvs:List (Str×Str)},KD w.params es kvs->∀e∈es,∃k,(cB P w).is k e.key=true/\e.hash=(cB P w).hash k
 |[],[],_,e,he=>nomatch he
 |a::es,kv::kvs,⟨h1,⟨t,h2⟩,_,h4⟩,e,he=>by
  rcases qk_.mp he with z|z
  ·subst z;exact⟨.inr kv.1,by rw[h2];exact rB P w kv.1 t,by rw[h1];rfl⟩
  ·exact KD.keys h4 e z
theorem KD.pairs{P:Program}{w:World}:∀{es:List DictEntry}{kvs:List (Str×Str)},KD w.params es kvs->∃vs:List (ay×Value),Pairs (cB P w) es vs/\vs.map (·.1)=kvs.map (λkv=>Sum.inr kv.1) /\
  ∀x y,getS kvs x=some y->∃t,valueAt vs (.inr x)=some (.str y t)
 |[],[],_=>⟨[],.nil,rfl,λx y h=>nomatch h⟩
 |a::es,kv::kvs,⟨h1,⟨t,h2⟩,⟨t',h3⟩,h4⟩=>by
  obtain⟨vs,p,m,g⟩:=KD.pairs (P:=P) h4;refine⟨(.inr kv.1,.str kv.2 t')::vs,.cons (by rw[h2];exact rB P w kv.1 t) h3 p,by simp[m],λx y h=>?_⟩;by_cases e:kv.1=x
  ·subst e;have:kv.2=y:=by simpa[getS]using h
   subst this;exact⟨t',by simp[valueAt]⟩
  ·have h':getS kvs x=some y:=by simpa[getS,e]using h
   obtain⟨t'',h''⟩:=g x y h'
   exact⟨t'',by
    have:(Sum.inr kv.1:ay)≠.inr x:=λz=>e (Sum.inr.inj z)
    simpa[valueAt,this]using h''⟩
section
variable{X:Cx}
noncomputable def Oo(d:Addr)(kvs:List (Str×Str)):R2:=λx y H Q=>∃i j,x=.ref d/\y=.str i/\getS kvs i=some j/\Q (.str j) H
theorem GS{d:Addr}{kvs:List (Str×Str)}(D:xy X.K X.w.params d kvs):nk X (Oo d kvs):=by
 intro value slice Pp s σ H x y v u Q I rx ry h hs;obtain⟨i,j,rfl,rfl,hg,q⟩:=h;cases rx;obtain⟨t,rfl⟩:=ry;obtain⟨es,ep,lk,kd⟩:=D.obj;obtain⟨vs,hp,hm,hv⟩:=KD.pairs (P:=X.prog) kd;obtain⟨t',hv⟩:=hv i j hg;have ho:=I.kIn d _ lk;have hnd:(vs.map (·.1)).Nodup:=by
  rw[hm,show kvs.map (λkv=>(Sum.inr kv.1:ay))=(kvs.map (·.1)).map Sum.inr by simp];unfold List.Nodup;rw[kn];exact D.nd.imp λh z=>h (Sum.inr.inj z)
 have dd:s.heap.DictOf (cB X.prog X.w) d vs:=⟨_,es,ep,ho,⟨rfl,rfl,rfl⟩,rfl,λe he=>KD.keys kd e (by simpa using he),hp,hnd⟩
 exact tail_any ⟨_,ho,rfl⟩ slot_dict_getitem.lookup (wpAny_getItem_of (rB _ _ i t) dd.mapOf hv ⟨.str j,H,I.tok _,⟨t',rfl⟩,q⟩) hs
noncomputable def Fg:V->Option Int->Option Int->Hp->VK->Prop:=λx lo hi H Q=>∃z,x=.str z/\z.length<=sizeLine/\Q (.str (Txt.slice z lo hi)) H
theorem JX:o8 X Fg:=by
 intro Pp s σ H x v vl vu lo hi sl Q I rx hs pl pu h;obtain⟨z,rfl,hz,q⟩:=h;obtain⟨t,rfl⟩:=rx;obtain⟨o,ho,hc,hd⟩:=hs;refine⟨"str",_,F.slot_str_getitem.lookup,typeIs_str _ _ _,?_⟩;have fin:∀t' k,EP X Pp σ Q (.str (Txt.slice z lo hi) t') {s with toks:=k}:=λt' k=>⟨.str _,H,I.tok k,⟨t',rfl⟩,q⟩
 cases pl with
 |none=>cases pu with
  |none=>exact wpAny_getItem_str_slice (l:=none) (u:=none) (st:=none) ⟨o,ho,hc,hd⟩ rfl (post_val_or_str ⟨bu (Txt.slice_le z _ _) hz,fin⟩)
  |int j uj=>exact wpAny_getItem_str_slice (l:=none) (u:=some (j,uj)) (st:=none) ⟨o,ho,hc,hd⟩ rfl (post_val_or_str ⟨bu (Txt.slice_le z _ _) hz,fin⟩)
 |int i ui=>cases pu with
  |none=>exact wpAny_getItem_str_slice (l:=some (i,ui)) (u:=none) (st:=none) ⟨o,ho,hc,hd⟩ rfl (post_val_or_str ⟨bu (Txt.slice_le z _ _) hz,fin⟩)
  |int j uj=>exact wpAny_getItem_str_slice (l:=some (i,ui)) (u:=some (j,uj)) (st:=none) ⟨o,ho,hc,hd⟩ rfl (post_val_or_str ⟨bu (Txt.slice_le z _ _) hz,fin⟩)
theorem kE{ss:List Str}:∀{us:List Value},ak (ss.map V.str) us->StrsAre us ss:=by
 induction ss with
 |nil=>intro us r;rw[mz]at r;cases r;exact .nil
 |cons n ns ih=>
  intro us r;rw[d9]at r;cases r with
  |cons r1 r2=>
   obtain⟨t,e⟩:=r1;subst e;exact .cons n t (ih r2)
theorem wA{us:List Value}{ss:List Str}(h:StrsAre us ss):ak (ss.map V.str) us:=by
 induction h with
 |nil=>exact .nil
 |cons n t _ ih=>exact .cons ⟨t,rfl⟩ ih
theorem call_sortedS:au X (.builtin "sorted") (λxs H Q=>∃(p:Addr) (ss:List Str),xs=[.ref p]/\b_ X.K H p (ss.map V.str)/\ss.length<64 /\
  ∀(ss':List Str) (l:Addr),ss'.Perm ss->sortedS ss'=true->H l=none->Q (.ref l) (aw H l (.lst (ss'.map V.str)))):=by
 intro Pp s σ H xs us Q I r h;obtain⟨p,ns,rfl,hq,h64,q⟩:=h;obtain⟨u,rfl,rx⟩:=cY r;cases rx;obtain⟨its,rv,pl,hz⟩:=I.list hq;have hi:StrsAre its ns:=kE rv;have hll:=rv.length;rw[aq]at hll;refine sorted_strs pl.isList hi (by omega) λout ns' a1 a2 a3=>?_
 obtain⟨e,he⟩:=sortedAll_at s.heap its out;have hlen:=a2.length_eq;refine⟨.ref (s.heap.objs.size+1),_,I.laid (t':=s.toks) (λb o e=>sortedAll_old e) (jr _) (show a_ X.prog X.w _ _ _ (.lst (ns'.map V.str)) from ⟨?_,out.toList,e,wA a1,he⟩),rfl,q ns' _ a2 a3 (I.hok.fresh (jr _))⟩;rw[aq,hlen];exact e6 (gj h64 (by decide))
noncomputable def bN(ss:List Str):List Nat:=(ss.map λs=>s.cps.toList).flatten
theorem BW:∀{us:List Value}{ss:List Str},StrsAre us ss->∃l:List (Str×Tok),us=strValues l/\l.map (·.1)=ss
 |_,_,.nil=>⟨[],rfl,rfl⟩
 |_,_,.cons y t h=>by
  obtain⟨l,e1,e2⟩:=BW h;exact⟨(y,t)::l,by rw[e1];rfl,by simp[e2]⟩
theorem xJ:∀ss:List Str,(Str.join ⟨#[]⟩ ss).cps.toList=bN ss
 |[]=>rfl
 |[x]=>by simp[Str.join,bN]
 |x::y::r=>by
  have ih:=xJ (y::r);show((x++(⟨#[]⟩:Str)++Str.join ⟨#[]⟩ (y::r)):Str).cps.toList=_;have e:∀a b:Str,(a++b).cps.toList=a.cps.toList++b.cps.toList:=λa b=>by
   show(a.cps++b.cps).toList=_;simp
  rw[e,e,ih];simp[bN]
theorem BS:∀(ss:List Str) (n:Nat),ss.foldl (λa s=>a+s.length+0) n=n+(bN ss).length
 |[],n=>by simp[bN]
 |s::r,n=>by
  rw[j8,BS r];simp[bN,Str.length];omega
noncomputable def Ge(K:W.Frag):V->List V->Hp->VK->Prop:=λx vs H Q=>∃p ss,x=.str ⟨#[]⟩/\vs=[.ref p]/\b_ K H p (ss.map V.str)/\(bN ss).length<=100000/\∀z:Str,z.cps.toList=bN ss->Q (.str z) H
theorem Je:rn X "str.join" (Ge X.K):=by
 intro Pp s σ H x vs v us Q I rx rv h;obtain⟨p,ss,rfl,rfl,hq,hz,q⟩:=h;obtain⟨t,rfl⟩:=rx;obtain⟨u,rfl,ru⟩:=rv.one;cases ru;obtain⟨its,rv,pl,hz'⟩:=I.list hq;obtain⟨l,e1,e2⟩:=BW (kE rv);have hl:=pl.isList;rw[e1]at hl;have hlen:((l.map (·.1)).toArray.foldl (λa s=>a+s.length+(⟨#[]⟩:Str).length) 0)=(bN ss).length:=by
  rw[e2,List.foldl_toArray];show ss.foldl (λa s=>a+s.length+0) 0=_;rw[BS];omega
 refine call_meets F.slot_str_join (typeIs_str _ _ _) F.entry_str_join (F.args_str_join_2 _ _) (meets_str_join_list ⟨#[]⟩ t p l (by
  rw[hlen];show decide (_ > sizeLine)=false
  exact dq (qC2_.mpr (bu hz (by decide))))) ⟨hl,?_⟩
 have hj:∀z:Str,z=Str.join ⟨#[]⟩ ss->∀t' k,EP X Pp σ Q (.str z t') {s with toks:=k}:=λz e t' k=>⟨.str z,H,I.tok k,⟨t',rfl⟩,q z (by rw[e,xJ])⟩
 have hlz:(Str.join ⟨#[]⟩ ss).length<=sizeLine:=by
  show(Str.join ⟨#[]⟩ ss).cps.size<=_;rw[<-fc,xJ];exact bu hz (by decide)
 match l,e2 with
 |[],e2=>exact⟨by rw[StrLaws.glued_eq_join];exact d8 _,hj _ (by rw[<-e2];rw[StrLaws.glued_eq_join]) _ _⟩
 |[pp],e2=>exact hj _ (by rw[<-e2];rfl) _ s.toks
 |a::b::r,e2=>exact⟨by rw[StrLaws.glued_eq_join,e2];exact hlz,hj _ (by rw[StrLaws.glued_eq_join,e2]) _ _⟩
end
noncomputable def gE(xs:Array Nat):Prop:=∀i j:Nat,i<j->∀a b,xs[i]?=some a->xs[j]?=some b->a<b
structure w8 (xs:Array Nat) (j p:Nat):Prop where
 le:p<=xs.size
 lt:∀i a,i<p->xs[i]?=some a->a<j
 ge:∀i a,p<=i->xs[i]?=some a->j<=a
theorem xP{xs:Array Nat}(R:gE xs)(j:Nat):∀(f lo hi:Nat),hi-lo<=f->lo<=hi->hi<=xs.size->(∀i a,i<lo->xs[i]?=some a->a<j)->(∀i a,hi<=i->xs[i]?=some a->j<=a)->w8 xs j (SetTable.below.go xs j f lo hi)
 |0,lo,hi,h,l,z,h1,h2=>by
  rw[SetTable.below.go.eq_1];have:lo=hi:=by omega
  subst this;exact⟨z,h1,h2⟩
 |f+1,lo,hi,h,l,z,h1,h2=>by
  rw[SetTable.below.go.eq_2];by_cases c:lo<hi
  ·rw[if_pos c];have hm:(lo+hi) / 2<xs.size:=by omega
   have em:xs[(lo+hi) / 2]?=some xs[(lo+hi) / 2]:=jh hm;have eg:xs.getD ((lo+hi) / 2) j=xs[(lo+hi) / 2]:=by simp[Array.getD,hm]
   dsimp only;rw[eg];by_cases d:xs[(lo+hi) / 2]<j
   ·rw[if_pos d];refine xP R j f _ _ (by omega) (by omega) z (λi a hi' e=>?_) h2;by_cases q:i=(lo+hi) / 2
    ·subst q;rw[em]at e;cases e;exact d
    ·exact gj (R i _ (by omega) a _ e em) d
   ·rw[if_neg d];refine xP R j f _ _ (by omega) (by omega) (by omega) h1 λi a hi' e=>?_
    by_cases q:i=(lo+hi) / 2
    ·subst q;rw[em]at e;cases e;omega
    ·have:=R _ i (by omega) _ a em e;omega
  ·rw[if_neg c];have:lo=hi:=by omega
   subst this;exact⟨z,h1,h2⟩
theorem Be{xs:Array Nat}(R:gE xs)(j:Nat):w8 xs j (SetTable.below xs j):=by
 unfold SetTable.below;refine xP R j _ _ _ (by omega) (d8 _) (bp _) (λi a h=>absurd h (km _)) λi a h e=>?_
 have:=(qo2_.mp e).1;omega
theorem J9{xs:Array Nat}(R:gE xs){j p:Nat}(B:w8 xs j p):SetTable.below xs j=p:=by
 have C:=Be R j;generalize SetTable.below xs j=q at C;rcases om p q with h|h|h
 ·have hp:p<xs.size:=by have:=C.le;omega
  have e:=jh hp;have:=C.lt p _ h e;have:=B.ge p _ (bp _) e;omega
 ·exact h.symm
 ·have hp:q<xs.size:=by have:=B.le;omega
  have e:=jh hp;have:=B.lt q _ h e;have:=C.ge q _ (bp _) e;omega
theorem Mx{xs:Array Nat}{p x:Nat}(hp:p<=xs.size)(i:Nat):(SetTable.insertAt xs p x)[i]?=if i<p then xs[i]? else if i=p then some x else xs[i-1]?:=by
 unfold SetTable.insertAt;have s0:(xs.extract 0 p).size=p:=by simp[Array.size_extract];omega
 rw[Array.getElem?_append];rw[Array.size_push,s0];by_cases h1:i<p
 ·rw[if_pos h1,if_pos (by omega),Array.getElem?_push,if_neg (by rw[s0];omega),Array.getElem?_extract];simp[h1];intro z;omega
 ·rw[if_neg h1];by_cases h2:i=p
  ·subst h2;rw[if_pos rfl,if_pos (by omega),Array.getElem?_push,if_pos s0.symm]
  ·rw[if_neg h2,if_neg (by omega),Array.getElem?_extract];have e:p+(i-(p+1))=i-1:=by omega
   rw[e];by_cases z:i-1<xs.size
   ·simp;omega
   ·simp[z]
theorem NT{xs:Array Nat}(R:gE xs){x:Nat}(h:xs[SetTable.below xs x]?≠some x):gE (SetTable.insertAt xs (SetTable.below xs x) x):=by
 have B:=Be R x;generalize SetTable.below xs x=p at B h;have hg:∀i a,p<=i->xs[i]?=some a->x<a:=λi a hi e=>by
  rcases Nat.lt_or_ge x a with q|q
  ·exact q
  ·exfalso;have ax:=B.ge i a hi e;have:a=x:=by omega
   subst this;by_cases z:i=p
   ·exact h (z▸e)
   ·have lt:=(qo2_.mp e).1;have hp:p<xs.size:=by omega
    have ep:=jh hp;have:=R p i (by omega) _ _ ep e;have:=B.ge p _ (bp _) ep;omega
 intro i j hij a b ha hb;rw[Mx B.le]at ha hb;by_cases i1:i<p
 ·rw[if_pos i1]at ha;by_cases j1:j<p
  ·rw[if_pos j1]at hb;exact R i j hij a b ha hb
  ·rw[if_neg j1]at hb;have al:=B.lt i a i1 ha;by_cases j2:j=p
   ·rw[if_pos j2]at hb;cases hb;exact al
   ·rw[if_neg j2]at hb;have:=hg (j-1) b (by omega) hb;omega
 ·rw[if_neg i1]at ha;rw[if_neg (by omega)]at hb;rw[if_neg (by omega)]at hb;by_cases i2:i=p
  ·rw[if_pos i2]at ha;cases ha;exact hg (j-1) b (by omega) hb
  ·rw[if_neg i2]at ha;exact R (i-1) (j-1) (by omega) a b ha hb
noncomputable def jH(t:SetTable):Prop:=t.plain=true->gE t.place/\t.dummies=#[]
theorem Az(j:Nat):SetTable.has #[] j=false:=by unfold SetTable.has;simp
theorem Ds{t:SetTable}(hd:t.dummies=#[]){f:Nat->Int}{h:Int}{j:Nat}{d:Option Nat}:∀(n:Nat) (p:SetTable.Probe),p.dummy=none->SetTable.probe.go t f h n p=some (.empty j d)->d=none/\t.place[SetTable.below t.place j]?≠some j
 |0,p,_,e=>by rw[SetTable.probe.go.eq_def]at e;cases e
 |n+1,p,hp,e=>by
  rw[SetTable.probe.go.eq_def]at e;dsimp only at e;have adv:(t.advance p).dummy=none:=by
   unfold SetTable.advance;split
   ·exact hp
   ·exact hp
  cases hs:t.slot p.j with
  |empty=>
   rw[hs]at e;dsimp only at e;cases e;refine⟨hp,λz=>?_⟩;unfold SetTable.slot at hs;dsimp only at hs;rw[if_pos (by rw[z];simp)]at hs;cases hs
  |dummy=>
   exfalso;unfold SetTable.slot at hs;dsimp only at hs;split at hs
   ·cases hs
   ·rw[hd,Az]at hs;cases hs
  |live i=>
   rw[hs]at e;dsimp only at e;split at e
   ·cases e
   ·exact Ds hd n _ adv e
theorem NH{t:SetTable}(T:jH t)(es:Array (Int×Value))(h:Int)(x:Value):jH (layNew t es h x).2.1:=by
 unfold layNew;split
 ·rename_i slot wd e;dsimp only;unfold SetTable.orStandIn;split
  ·intro hp;have hp':t.plain=true:=hp;obtain⟨R,hd⟩:=T hp';unfold SetTable.freeSlot at e;split at e
   ·rename_i j d e';obtain⟨rfl,ne⟩:=Ds hd _ _ rfl e';cases e;exact⟨NT R ne,by show(if SetTable.has t.dummies _=true then _ else t.dummies)=#[];rw[hd,Az];rfl⟩
   ·cases e
  ·intro hp;cases hp
 ·intro hp;cases hp
theorem NK{f:Nat->Option Nat}(n:Nat):gE ((((List.range n).filterMap λj=>(f j).map (j,·)).map (·.1)).toArray):=by
 have p:(((List.range n).filterMap λj=>(f j).map (j,·)).map (·.1)).Pairwise (· < ·):=by
  rw[kn];refine(List.pairwise_filterMap).mpr ?_;refine List.Pairwise.imp ?_ List.pairwise_lt_range;intro a b hab x hx y hy;obtain⟨u,_,rfl⟩:=qf1_.mp hx;obtain⟨v,_,rfl⟩:=qf1_.mp hy;exact hab
 intro i j hij a b ha hb;rw[List.getElem?_toArray]at ha hb;obtain⟨hi,rfl⟩:=qB_.mp ha;obtain⟨hj,rfl⟩:=qB_.mp hb;exact qE2_.mp p i j hi hj hij
theorem N2(t:SetTable)(es:Array (Int×Value))(n:Nat):jH (relayAll t es n).2.1:=by
 unfold relayAll;split
 ·rename_i t' order e;dsimp only;split
  ·intro hp;unfold SetTable.relaid SetTable.laid at e;obtain⟨o,_,e⟩:=Option.bind_eq_some_iff.mp e;cases e;exact⟨NK _,rfl⟩
  ·intro hp;cases hp
 ·intro hp;cases hp
end L2
namespace L2
open PySem
theorem wG{α:Type}:∀(l:List α) (i:Nat) (h:i<l.length),(l[i]::l.eraseIdx i).Perm l
 |[],i,h=>by simp at h
 |x::l,0,h=>by simp
 |x::l,i+1,h=>by
  have h':i<l.length:=by simpa using h
  simp only[List.getElem_cons_succ,List.eraseIdx_cons_succ];exact(List.Perm.swap _ _ _).trans (.cons _ (wG l i h'))
section
variable{M:Model}{A:Around}{E:Value->Shared->Prop}{s:Shared}
theorem Mm{src:Source}{n:Nat}{Q:Nat->Shared->Prop}(hn:n≠0)(h:∀i d,i<n->Q i {s with drawn:=d}):wpAny M A (choose src n) Q E s:=λΓ p _=>by
 unfold choose;rw[Sem.wp_choose];exact⟨hn,h _ _ (oj _ (Nat.pos_of_ne_zero hn))⟩
theorem vW{α:Type}:∀(n:Nat) (xs:List α) (s:Shared) {Q:List α->Shared->Prop},xs.length=n->(∀ys d,ys.Perm xs->Q ys {s with drawn:=d})->wpAny M A (drawOrder n xs) Q E s
 |0,xs,s,Q,hl,h=>by
  have e:xs=[]:=kl hl;subst e;exact ao (h [] s.drawn (.refl _))
 |n+1,[],s,Q,hl,h=>by simp at hl
 |n+1,x::xs,s,Q,hl,h=>by
  show wpAny M A (do
   let i <- choose .order (x::xs).length
   match (x::xs)[i]? with
   |some x'=>return x'::(<- drawOrder n ((x::xs).eraseIdx i))
   |none=>unsupported "internal:drawOrder") Q E s
  refine af (Mm (by simp) λi d hi=>?_);rw[cb hi];refine af (vW n _ _ (by rw[sv hi];simp at hl ⊢;exact hl) λys d' hp=>?_);refine ao (h _ d' ((List.Perm.cons _ hp).trans ?_));exact wG (x::xs) i hi
end
theorem BF{α:Type}(next:Nat->Nat):∀(fuel k:Nat) (left:List α) (out:Array α),fuel=left.length->(pickOrder.go next fuel k left out).toList.Perm (out.toList++left)
 |0,k,left,out,h=>by
  have e:left=[]:=kl h.symm;subst e;unfold pickOrder.go;simp
 |fuel+1,k,left,out,h=>by
  unfold pickOrder.go;have hlt:next k % left.length<left.length:=oj _ (by omega);rw[cb hlt];refine(BF next fuel (k+1) _ _ (by rw[sv hlt];omega)).trans ?_;rw[Array.toList_push,fo];exact List.Perm.append_left _ (wG _ _ hlt)
theorem oU{α:Type}(next:Nat->Nat)(xs:Array α):(pickOrder next xs).toList.Perm xs.toList:=by
 unfold pickOrder;have:=BF next xs.size 0 xs.toList #[] (by simp);simpa using this
end L2
namespace L2
open PySem PySem.Spec PyProof.Rows
noncomputable abbrev cj(w:World):Bool:=w.params.followText "set-order"
structure dc (prog:Program) (w:World) (us:List Str) (es:Array (Int×Value)) (t:SetTable):Prop where
 el:ElemsOf (PySem.strKind prog w) es.toList
 tx:∃vs:List Str,StrsAre (es.toList.map (·.2)) vs/\vs.Perm us
 nd:us.Nodup
 lt:es.size<scanBound
 fit:t.fits es.size=true
 pl:es.size=0\/t.plain=false
 ld:t.led=!cj w
noncomputable abbrev cG(es:Array (Int×Value))(ep:Nat)(t:SetTable):Obj:={cls:=.type "set",dict:=none,data:=.set es ep t,slots:=#[]}
noncomputable def bh(prog:Program)(w:World)(a:Addr)(us:List Str)(h:Heap):Prop:=∃es ep t,h.get? a=some (cG es ep t)/\dc prog w us es t
noncomputable def dY(us:List Str)(x:Str):List Str:=if x∈us then us else us++[x]
theorem iY:∀{vs:List Value}{ss:List Str},StrsAre vs ss->vs.length=ss.length
 |_,_,.nil=>rfl
 |_,_,.cons _ _ h=>by simp[iY h]
theorem Dh:∀{vs:List Value}{ss:List Str},StrsAre vs ss->∀x,x∈ss↔∃v∈vs,Value.isStrOf x v=true
 |_,_,.nil,x=>by simp
 |_,_,.cons y t h,x=>by
  have ih:=Dh h x
  have e:Value.isStrOf x (.str y t)=true↔x=y:=⟨λh=>by
   obtain⟨u,h⟩:=Value.isStrOf_shape h;injection h with h1 h2
   exact h1.symm,λh=>by subst h;simp[Value.isStrOf]⟩
  simp only[qk_,exists_eq_or_imp,ih,e]
theorem rN:∀{vs us:List Value},us.Perm vs->∀{ss:List Str},StrsAre vs ss->∃ss',StrsAre us ss'/\ss'.Perm ss:=by
 intro vs us p
 induction p with
 |nil=>intro ss h;exact⟨ss,h,.refl _⟩
 |cons x p ih=>
  intro ss h;cases h with
  |cons y t h=>obtain⟨ss',a,b⟩:=ih h;exact⟨y::ss',.cons y t a,.cons _ b⟩
 |swap x y l=>
  intro ss h;cases h with
  |cons a t h=>cases h with
   |cons b u h=>exact⟨b::a::_,.cons b u (.cons a t h),.swap _ _ _⟩
 |trans p q ihp ihq=>
  intro ss h;obtain⟨s1,a1,b1⟩:=ihq h;obtain⟨s2,a2,b2⟩:=ihp a1;exact⟨s2,a2,b2.trans b1⟩
theorem Ct:∀{vs:List Value}{ss:List Str}(x:Str) (t:Tok),StrsAre vs ss->StrsAre (vs++[.str x t]) (ss++[x])
 |_,_,x,t,.nil=>.cons x t .nil
 |_,_,x,t,.cons y u h=>.cons y u (Ct x t h)
theorem Mz(t:SetTable)(es:Array (Int×Value))(h:Int)(x:Value):(layNew t es h x).2.1.led=t.led:=by
 have so:∀(u:SetTable) (n:Nat),(u.orStandIn n).led=u.led:=λu n=>by
  unfold SetTable.orStandIn;split<;>rfl
 unfold layNew;split
 ·dsimp only;rw[so];rfl
 ·rfl
theorem MU(t:SetTable)(es:Array (Int×Value))(n:Nat):(relayAll t es n).2.1.led=t.led/\(t.plain=false->(relayAll t es n).2.1.plain=false):=by
 have la:∀m f mv ld pl hs t' o,SetTable.laid m f mv ld pl hs=some (t',o)->t'.led=ld/\t'.plain=pl:=λm f mv ld pl hs t' o e=>by
  unfold SetTable.laid at e;cases q:SetTable.layClean m hs with
  |none=>rw[q]at e;cases e
  |some ow=>
   rw[q]at e;simp only[Option.bind_eq_bind,Option.bind_some,Option.pure_def,Option.some.injEq,Prod.mk.injEq]at e;obtain⟨e,_⟩:=e;subst e;exact⟨rfl,rfl⟩
 unfold relayAll;split
 ·rename_i t' order e;have:=la _ _ _ _ _ _ _ _ e;dsimp only;split
  ·exact⟨this.1,λz=>by rw[<-z];exact this.2⟩
  ·exact⟨rfl,λ_=>rfl⟩
 ·exact⟨rfl,λ_=>rfl⟩
section
variable{prog:Program}{w:World}{A:Around}{E:Value->Shared->Prop}{s:Shared}{a:Addr}{us:List Str}{x:Str}{tk:Tok}
theorem dc.mem{es:Array (Int×Value)}{t:SetTable}(T:dc prog w us es t)(x:Str):x∈us↔∃e∈es.toList,(PySem.strKind prog w).is x e.2=true:=by
 obtain⟨vs,h,p⟩:=T.tx;rw[<-p.mem_iff,Dh h x];simp only[qd_];exact⟨λ⟨v,⟨e,he,z⟩,q⟩=>⟨e,he,by subst z;exact q⟩,λ⟨e,he,q⟩=>⟨e.2,⟨e,he,rfl⟩,q⟩⟩
theorem dc.size{es:Array (Int×Value)}{t:SetTable}(T:dc prog w us es t):es.size=us.length:=by
 obtain⟨vs,h,p⟩:=T.tx;have:=iY h;rw[aq,fc]at this;rw[this,p.length_eq]
theorem Lj{g:Bool->Sem Unit}(hg:∀(b:Bool) (s₁:Shared) (R:Unit->Shared->Prop),R () s₁->wpAny (model prog w) A (g b) R E s₁){es es1:Array (Int×Value)}{ep:Nat}{t t2:SetTable}{wd:Bool}{R:Option Bool->Shared->Prop}
  (ho:s.heap.get? a=some (cG es ep t)) (lt:es1.size<scanBound) (fit:t2.fits es1.size=true)
  (h:∀h' es' ep' t',Heap.SameBut a s.heap h'->h'.get? a=some (cG es' ep' t')->es'.toList.Perm es1.toList->t'.fits es'.size=true->t'.led=t2.led->(jH t2->jH t')->(t2.plain=false->t'.plain=false)->R (some true) {s with heap:=h'}):
  wpAny (model prog w) A (do
   storeSet a es1 t2
   if (!wd&&t2.tooFull)=true then do
     g (relayAll t2 es1 (SetTable.grown es1.size)).2.2
     storeSet a (relayAll t2 es1 (SetTable.grown es1.size)).1 (relayAll t2 es1 (SetTable.grown es1.size)).2.1
     pure (some true)
    else pure (some true)) R E s:=by
 refine af (wpAny_storeSet_of ho rfl ?_ (fits_of_scanBound lt));have o1:(s.heap.update a (Obj.putSet es1 t2)).get? a=some (cG es1 (ep+1) t2):=fu (Obj.putSet es1 t2) ho rfl;have b1:=Heap.SameBut.update s.heap a (Obj.putSet es1 t2);split
 ·have hp:=relayAll_perm t2 es1 (SetTable.grown es1.size);have hf:=relayAll_fits t2 es1 (SetTable.grown es1.size);obtain⟨hl,hq⟩:=MU t2 es1 (SetTable.grown es1.size);have ht:=N2 t2 es1 (SetTable.grown es1.size);generalize relayAll t2 es1 (SetTable.grown es1.size)=Rl at hp hf hl hq ht ⊢;obtain⟨es2,t3,g2⟩:=Rl;dsimp only at hp hf hl hq ht ⊢;have sz:es2.size=es1.size:=by have:=hp.length_eq;simpa using this
  refine af (hg _ _ _ ?_);refine af (wpAny_storeSet_of o1 rfl ?_ (fits_of_scanBound (by rw[sz];exact lt)));exact ao (h _ es2 _ t3 (b1.trans (Heap.SameBut.update _ a _)) (fu (Obj.putSet es2 t3) o1 rfl) hp hf hl (λ_=>ht) hq)
 ·exact ao (h _ es1 _ t2 b1 o1 (.refl _) fit rfl id id)
theorem J4{α:Type}[DecidableEq α](knd:PySem.KeyKind prog w α){x:α}{v:Value}{es:Array (Int×Value)}{ep:Nat}{t:SetTable}{Q:Bool->Shared->Prop}(ho:s.heap.get? a=some (cG es ep t))(el:ElemsOf knd es.toList)(lt:es.size+1<scanBound)(fit:t.fits es.size=true)(hk:knd.is x v=true)(sc:v.scannable=true)
  (h1:(∃e∈es.toList,knd.is x e.2=true)->Q false s)
  (h2:(∀e∈es.toList,knd.is x e.2=false)->∀h' es' ep' t',Heap.SameBut a s.heap h'->h'.get? a=some (cG es' ep' t')->es'.toList.Perm (es.toList++[(knd.hash x,v)])->t'.fits es'.size=true->t'.led=t.led->(jH t->jH t')->(plainKind v=false->t'.plain=false)->Q true {s with heap:=h'}):
  wpAny (model prog w) A (setAddHashed a v (knd.hash x)) Q E s:=by
 unfold setAddHashed setAddHashedIn;refine i5 (af (gz ho rfl fit ?_));dsimp only;rw[byScan_of sc (Nat.lt_of_succ_lt lt) el,if_pos rfl];unfold setAddByScan;refine af (af (wpAny_rule ?_));refine af (wpAny_setScan_of hk ho rfl fit el ?_);cases hr:es.toList.findIdx? (λe=>knd.is x e.2) with
 |some j=>
  dsimp only;obtain⟨hj,hp,_⟩:=List.findIdx?_eq_some_iff_getElem.mp hr;exact ao (ao (h1 ⟨_,j7 hj,hp⟩))
 |none=>
  dsimp only;have hout:∀e∈es.toList,knd.is x e.2=false:=λe he=>qw3_.mp hr e he
  have pm:=layNew_perm t es (knd.hash x) v;have ft:=layNew_fits t es (knd.hash x) v;have ld:=Mz t es (knd.hash x) v;have td:=λT:jH t=>NH T es (knd.hash x) v
  generalize layNew t es (knd.hash x) v=L at pm ft ld td ⊢;obtain⟨es1,t1,wd,gv⟩:=L;dsimp only at pm ft ld td ⊢;rw[Array.toList_push]at pm;have sz:es1.size<scanBound:=by
   have:=pm.length_eq;rw[<-fc,this,b8,fc];exact lt
  have gw:∀(b:Bool) (s₁:Shared) (R:Unit->Shared->Prop),R () s₁->wpAny (model prog w) A (match b with|true=>rule "set.scan.the-table-gave-way"|false=>pure ()) R E s₁:=
   λb s₁ R q=>by
    cases b
    ·exact ao q
    ·exact wpAny_rule q
  refine af (gw _ _ _ ?_);have tl:=λ(R:Option Bool->Shared->Prop) (hR:∀s',Q true s'->R (some true) s') t2 (f2:t2.fits es1.size=true) (l2:t2.led=t.led) (d2:jH t->jH t2) (p2:plainKind v=false->t2.plain=false)=>Lj (wd:=wd) (R:=R) (g:=λb=>match b with|true=>rule "set.scan.the-table-gave-way"|false=>pure ()) gw ho sz f2 λh' es' ep' t' b o p f l d q=>hR _ (h2 hout h' es' ep' t' b o (p.trans pm) f (l.trans l2) (λT=>d (d2 T)) λz=>q (p2 z))
  split
  ·refine af ?_;rw[hashByValue_scannable 8 sc];refine ao ?_;split
   ·exact tl _ (λ_ q=>ao q) _ ft ld td λz=>by simp_all
   ·exact tl _ (λ_ q=>ao q) _ (SetTable.fits_plain_off ft) ld (λ_=>λz=>nomatch z) λ_=>rfl
  ·rename_i hp;refine af (ao ?_);rw[if_pos rfl];exact tl _ (λ_ q=>ao q) _ ft ld td λ_=>by simpa using hp
theorem NX{α:Type}{us:List α}{x:α}(h:us.Nodup)(hx:x∉us):(us++[x]).Nodup:=by
 rw[oi];exact⟨h,by simp,λy hy z hz e=>hx (by rw[<-qX_.mp hz,<-e];exact hy)⟩
theorem xR{Q:Bool->Shared->Prop}(S:bh prog w a us s.heap)(room:us.length+1<scanBound)(h:∀b h',Heap.SameBut a s.heap h'->bh prog w a (dY us x) h'->Q b {s with heap:=h'}):
  wpAny (model prog w) A (setAddHashed a (.str x tk) ((PySem.strKind prog w).hash x)) Q E s:=by
 obtain⟨es,ep,t,ho,T⟩:=id S;have hk:(PySem.strKind prog w).is x (.str x tk)=true:=by show Value.isStrOf x (.str x tk)=true;simp[Value.isStrOf]
 refine J4 (PySem.strKind prog w) ho T.el (by rw[T.size];exact room) T.fit hk rfl (λhin=>?_) λhout h' es' ep' t' sb ho' pm ft ld _ pl=>?_
 ·have e:s={s with heap:=s.heap}:=by cases s;rfl
  rw[e];refine h false s.heap (Heap.SameBut.refl a s.heap) ?_;rw[dY,if_pos ((T.mem x).mpr hin)];exact S
 ·have hx:x∉us:=λz=>by
   obtain⟨e,he,hp⟩:=(T.mem x).mp z;rw[hout e he]at hp;cases hp
  refine h true h' sb ⟨es',ep',t',ho',?_⟩;obtain⟨vs,hv,pv⟩:=T.tx;have h1:=Ct x tk hv;rw[show(es.toList.map (·.2))++[Value.str x tk]=(es.toList++[((PySem.strKind prog w).hash x,Value.str x tk)]).map (·.2) by simp]at h1;obtain⟨vs',hv',pv'⟩:=rN (pm.map (·.2)) h1;rw[dY,if_neg hx];refine⟨(T.el.push hk rfl).perm pm,⟨vs',hv',pv'.trans (pv.append_right _)⟩,NX T.nd hx,?_,ft,.inr (pl rfl),ld.trans T.ld⟩;have:=pm.length_eq;rw[<-fc,this,b8,fc,T.size];exact room
end
theorem BR:Slot "set" "__iter__" "set.__iter__":=
 Slot.of (owner:="set") (n:="__iter__") (by rw[typeLookup_type,builtinLookup_eq_fast];kernel_rfl) (by decide +kernel) (by decide +kernel) (by decide +kernel) (by first|exact .inl (by decide +kernel)|exact .inr (by decide +kernel)) (by rw[isSubtype_type];kernel_rfl)
theorem IM:entryFor table "set.__iter__"=some Builtin.«frozenset.__iter__»:=entryFor_alias (id':="frozenset.__iter__") (by kernel_rfl) rfl (by decide +kernel) (by kernel_rfl)
theorem JI(a:Value):argsOk "set.__iter__" ⟨[a],[]⟩:=by
 unfold argsOk;kernel_rfl
theorem st_next:Slot "set_iterator" "__next__" "set_iterator.__next__":=
 Slot.of (owner:="set_iterator") (n:="__next__") (by rw[typeLookup_type,builtinLookup_eq_fast];kernel_rfl) (by decide +kernel) (by decide +kernel) (by decide +kernel) (by first|exact .inl (by decide +kernel)|exact .inr (by decide +kernel)) (by rw[isSubtype_type];kernel_rfl)
theorem IP:entryFor table "set_iterator.__next__"=some Builtin.«set_iterator.__next__»:=entryFor_of_fast (by kernel_rfl)
theorem JJ(a:Value):argsOk "set_iterator.__next__" ⟨[a],[]⟩:=by
 unfold argsOk;kernel_rfl
theorem mZ:Slot "set_iterator" "__iter__" "set_iterator.__iter__":=
 Slot.of (owner:="set_iterator") (n:="__iter__") (by rw[typeLookup_type,builtinLookup_eq_fast];kernel_rfl) (by decide +kernel) (by decide +kernel) (by decide +kernel) (by first|exact .inl (by decide +kernel)|exact .inr (by decide +kernel)) (by rw[isSubtype_type];kernel_rfl)
theorem yP:entryFor table "set_iterator.__iter__"=some Builtin.«dict_keyiterator.__iter__»:=entryFor_alias (id':="dict_keyiterator.__iter__") (by kernel_rfl) rfl (by decide +kernel) (by kernel_rfl)
theorem yT(a:Value):argsOk "set_iterator.__iter__" ⟨[a],[]⟩:=by
 unfold argsOk;kernel_rfl
section
variable{prog:Program}{w:World}{A:Around}{E:Value->Shared->Prop}{s:Shared}
theorem J7{α:Type}{Q:α->Shared->Prop}(hh:A.handled=none)
  (h:∀e h',(∀b o,s.heap.get? b=some o->h'.get? b=some o)->Shared.TypeIs {s with heap:=h'} (.ref e) "StopIteration"->E (.ref e) {s with heap:=h'}):
  wpAny (model prog w) A (newExc (.type "StopIteration") [] >>= λe=>raiseNew e) Q E s:=by
 refine af ?_;simp only[newExc,newTuple];refine af (gh ?_ (by size_fits));refine af (m:=firstArgMember _ _) (wpAny_of_eq (a:=Value.none) (by first|rfl|(simp only[firstArgMember];rfl)) ?_);refine gh ?_ (by size_fits);simp only[raiseNew];refine af (wpAny_handled ?_);rw[hh];refine af (ao (wpAny_throw ?_));exact h _ _ (λb o e=>b6 _ (b6 _ e)) ⟨_,cy _ rfl,rfl⟩
theorem mY{it:Addr}{o:Obj}{Q:Option Value->Shared->Prop}(ho:s.heap.get? it=some o)(hc:o.cls=.type "set_iterator")
  (h:wpAny (model prog w) A.in1 (Builtin.«set_iterator.__next__» ⟨[.ref it],[]⟩) (λr s'=>∃v,r=.done (.ret v)/\Q (some v) s') (λe s'=>s'.TypeIs e "StopIteration"/\Q none s') s):
  wpAny (model prog w) A (pyNext (.ref it)) Q E s:=by
 have ht:s.TypeIs (.ref it) "set_iterator":=⟨o,ho,hc⟩
 unfold pyNext;refine af (wpAny_attempt (wpAny_callSpecial?_slot (name:=Str.ofString "__next__") ht st_next (fj st_next ht IP ?_ (JJ _))));refine wpAny_mono h (λr s' ⟨v,e,q⟩=>⟨v,e,ao q⟩) λe s' ⟨t,q⟩=>?_
 exact af (wpAny_isInstance (T:="StopIteration") (b:=true) t isSubtype_stop (ao q))
end
noncomputable abbrev qg(first:Value)(i:Nat)(a:Addr)(n ep:Nat):Obj:={cls:=.type "set_iterator",data:=.fields #[first,.int (i:Int) 0,.ref a,.int (n:Int) 0,.int (ep:Int) 0]}
section
variable{prog:Program}{w:World}{A:Around}{E:Value->Shared->Prop}{s:Shared}{it a:Addr}{us:List Str}{es:Array (Int×Value)}{ep:Nat}{t:SetTable}
theorem rD{Q:Array (Int×Value)->Shared->Prop}(ho:s.heap.get? a=some (cG es ep t))(hf:t.fits es.size=true)(h:Q es s):wpAny (model prog w) A (setEntries a) Q E s:=by
 unfold setEntries;exact af (gz ho rfl hf (ao h))
theorem gS{Q:Bool->Shared->Prop}(h:Q (cj w) s):wpAny (model prog w) A setsByText Q E s:=by
 unfold setsByText;exact af (wpAny_askSetting (ao h))
theorem rL{i slot:Nat}{n:Nat}{Q:Fin->Shared->Prop}(hi:s.heap.get? it=some (qg (.int (slot:Int) 0) i a n ep))(ho:s.heap.get? a=some (cG es ep t))(hf:t.fits es.size=true)(hn:es.size=n)
  (h:wpAny (model prog w) A (setNext a slot i ep) (λr s'=>wpAny (model prog w) A (match r with
   |some (x,next)=>do
    setField (.ref it) 0 (rawInt next)
    setField (.ref it) 1 (rawInt (i+1))
    ret x
   |none=>do setField (.ref it) 2 .none;raiseNew (<- newExc (.type "StopIteration") [])) Q E s') E s):
  wpAny (model prog w) A (Builtin.«set_iterator.__next__» ⟨[.ref it],[]⟩) Q E s:=by
 unfold Builtin.«set_iterator.__next__»;refine af (m:=slotArgs "__next__" 0 ⟨[.ref it],[]⟩) (ao ?_);dsimp only;refine af (wpAny_fieldsOf hi rfl ?_);show wpAny _ _ (setEntries a >>= _) _ _ s;refine af (rD ho hf ?_);rw[hn];simp only[bne_self_eq_false,n_,if_false];refine af (m:=setNext a slot i ep) h
theorem wV{o:Obj}{vs:Array Value}{k:Nat}{Q:Fin->Shared->Prop}(hh:A.handled=none)(hi:s.heap.get? it=some o)(hd:o.data=.fields vs)(hk:k<vs.size)
  (h:∀e h',(∀b u,b≠it->s.heap.get? b=some u->h'.get? b=some u)->Shared.TypeIs {s with heap:=h'} (.ref e) "StopIteration"->E (.ref e) {s with heap:=h'}):
  wpAny (model prog w) A (do setField (.ref it) k .none;raiseNew (<- newExc (.type "StopIteration") [])) Q E s:=by
 refine af (wpAny_setField hi hd hk ?_);refine J7 hh λe h' kp ty=>h e h' (λb u hb q=>kp b u ?_) ty
 rw[(Heap.SameBut.update s.heap it _).2 b hb];exact q
theorem JD(hh:A.handled=none)(hb:cj w=true)(fit:t.fits es.size=true)(it a:Addr)(ne:it≠a):
  WalksS prog w A it [it,a] [it] Eq es.size (λi v=>(pickOrder (w.params.setOrder a ep) es)[i]?.map (·.2)=some v)
   (λi s=>s.heap.get? it=some (qg (.int 0 0) i a es.size ep)/\s.heap.get? a=some (cG es ep t)) where
 sub:=λb hb=>by simp at hb;simp[hb]
 grefl:=λ_=>rfl
 gtrans:=λ_ _ _ x y=>x.trans y
 frame:=λi s h' tk st _ k=>⟨k it (by simp) _ st.1,k a (by simp) _ st.2⟩
 item:=λi s Q E hi st hQ=>by
  refine mY st.1 rfl (rL (slot:=0) st.1 st.2 fit rfl ?_);have sz:(pickOrder (w.params.setOrder a ep) es).size=es.size:=by have:=(oU (w.params.setOrder a ep) es).length_eq;simpa using this
  unfold setNext;refine af (gz st.2 rfl fit ?_);dsimp only;refine af (gS ?_);rw[if_pos hb];simp only[bne_self_eq_false,n_,if_false];unfold setWalk;refine af (af (gz st.2 rfl fit ?_));dsimp only;refine af (gS ?_);rw[if_pos hb];refine af (wpAny_askSetting (ao ?_));refine ao ?_;have hlt:i<(pickOrder (w.params.setOrder a ep) es).size:=by rw[sz];exact hi
  show wpAny _ _ (match Option.map (λe=>(e.2,0)) (pickOrder (w.params.setOrder a ep) es)[i]? with
   |some (x,next)=>do
    setField (.ref it) 0 (rawInt (next:Nat))
    setField (.ref it) 1 (rawInt (i+1))
    ret x
   |none=>do setField (.ref it) 2 .none;raiseNew (<- newExc (.type "StopIteration") [])) _ _ _
  rw[jh hlt];dsimp only[Option.map_some];refine af (lu st.1 (by simp) λh1 g1 b1=>?_);refine af (lu g1 (by simp) λh2 g2 b2=>?_);refine ao ⟨_,rfl,hQ _ _ (by rw[jh hlt];rfl) ⟨?_,?_⟩ ⟨?_,rfl,rfl,rfl,bp _⟩⟩
  ·rw[g2];rfl
  ·rw[b2.2 a ne.symm,b1.2 a ne.symm];exact st.2
  ·intro b o hb e;have hb':b≠it:=by simpa using hb
   rw[b2.2 b hb',b1.2 b hb'];exact e
 done:=λs Q E st hQ=>by
  refine mY st.1 rfl (rL (slot:=0) st.1 st.2 fit rfl ?_);have sz:(pickOrder (w.params.setOrder a ep) es).size=es.size:=by have:=(oU (w.params.setOrder a ep) es).length_eq;simpa using this
  unfold setNext;refine af (gz st.2 rfl fit ?_);dsimp only;refine af (gS ?_);rw[if_pos hb];simp only[bne_self_eq_false,n_,if_false];unfold setWalk;refine af (af (gz st.2 rfl fit ?_));dsimp only;refine af (gS ?_);rw[if_pos hb];refine af (wpAny_askSetting (ao ?_));refine ao ?_
  show wpAny _ _ (match Option.map (λe=>(e.2,0)) (pickOrder (w.params.setOrder a ep) es)[es.size]? with
   |some (x,next)=>do
    setField (.ref it) 0 (rawInt (next:Nat))
    setField (.ref it) 1 (rawInt ((es.size:Int)+1))
    ret x
   |none=>do setField (.ref it) 2 .none;raiseNew (<- newExc (.type "StopIteration") [])) _ _ _
  rw[rf (show(pickOrder (w.params.setOrder a ep) es).size<=es.size by rw[sz];exact bp _)];dsimp only[Option.map_none];refine wV hh st.1 rfl (by simp) λe h' kp ty=>⟨ty,hQ _ ⟨λb o hb q=>kp b o (by simpa using hb) q,rfl,rfl,rfl,bp _⟩⟩
 self:=λi s Q E st hQ=>by
  have ht:s.TypeIs (.ref it) "set_iterator":=⟨_,st.1,rfl⟩
  refine wpAny_pyIter_slot ht mZ (fj mZ ht yP ?_ (yT _));show wpAny _ _ (ret (.ref it)) _ _ s;exact ao ⟨_,rfl,"set_iterator",_,ht,st_next.lookup,hQ⟩
theorem Dx{slot i:Nat}{Q:Option (Value×Nat)->Shared->Prop}(hb:cj w=false)(ho:s.heap.get? a=some (cG es ep t))(fit:t.fits es.size=true)(hp:t.plain=true\/es.size<=1)(hl:t.led=true)
  (h:Q (match es[SetTable.below t.place slot]?,t.place[SetTable.below t.place slot]? with
  |some (_,x),some j=>some (x,j+1)
  |_,_=>none) s):wpAny (model prog w) A (setNext a slot i ep) Q E s:=by
 unfold setNext;refine af (gz ho rfl fit ?_);dsimp only;refine af (gS ?_);rw[hb];simp only[n_,if_false,Bool.not_false]
 show wpAny _ _ (if (!t.plain&&decide (es.size > 1))=true then _ else(do
  (if (!t.led&&!es.isEmpty)=true then unsupported "set:maker-not-led" else pure ():Sem Unit)
  pure (match es[SetTable.below t.place slot]?,t.place[SetTable.below t.place slot]? with
   |some (_,x),some j=>some (x,j+1)
   |_,_=>none))) _ _ _
 rw[if_neg (by rcases hp with q|q<;>simp[q])];refine af ?_;rw[if_neg (by rw[hl];simp)];exact ao (ao h)
noncomputable def kS(xs:Array Nat)(i:Nat):Nat:=if i=0 then 0 else xs.getD (i-1) 0+1
theorem Df{xs:Array Nat}(R:gE xs){i:Nat}(hi:i<=xs.size):SetTable.below xs (kS xs i)=i:=by
 refine J9 R ⟨hi,λk a hk e=>?_,λk a hk e=>?_⟩
 ·unfold kS;rw[if_neg (by omega)];have hm:i-1<xs.size:=by omega
  have em:xs[i-1]?=some xs[i-1]:=jh hm;rw[show xs.getD (i-1) 0=xs[i-1] by simp[Array.getD,hm]];by_cases q:k=i-1
  ·subst q;rw[em]at e;cases e;exact mn _
  ·have:=R k (i-1) (by omega) a _ e em;omega
 ·unfold kS;split
  ·exact d8 _
  ·have hm:i-1<xs.size:=by omega
   have em:xs[i-1]?=some xs[i-1]:=jh hm;rw[show xs.getD (i-1) 0=xs[i-1] by simp[Array.getD,hm]];exact R (i-1) k (by omega) _ a em e
theorem C9{xs:Array Nat}(h:xs.size<=1):gE xs:=λi j hij a b ha hb=>by
 have:=(qo2_.mp hb).1;omega
theorem IC(hh:A.handled=none)(hb:cj w=false)(fit:t.fits es.size=true)(hp:t.plain=true\/es.size<=1)(R:gE t.place)(hl:t.led=true)(it a:Addr)(ne:it≠a):
  WalksS prog w A it [it,a] [it] Eq es.size (λi v=>es[i]?.map (·.2)=some v)
   (λi s=>s.heap.get? it=some (qg (.int ((kS t.place i:Nat):Int) 0) i a es.size ep)/\s.heap.get? a=some (cG es ep t)) where
 sub:=λb hb=>by simp at hb;simp[hb]
 grefl:=λ_=>rfl
 gtrans:=λ_ _ _ x y=>x.trans y
 frame:=λi s h' tk st _ k=>⟨k it (by simp) _ st.1,k a (by simp) _ st.2⟩
 item:=λi s Q E hi st hQ=>by
  have sz:t.place.size=es.size:=by
   unfold SetTable.fits at fit;simp only[i6,beq_iff_eq]at fit;exact fit.1
  refine mY st.1 rfl (rL (slot:=kS t.place i) st.1 st.2 fit rfl ?_);refine Dx hb st.2 fit hp hl ?_;rw[Df R (by omega),jh hi,jh (show i<t.place.size by omega)]
  show wpAny _ _ (do
    setField (.ref it) 0 (rawInt ((t.place[i]+1:Nat):Int))
    setField (.ref it) 1 (rawInt ((i:Nat)+1:Int))
    ret es[i].2) _ _ _
  have e2:kS t.place (i+1)=t.place[i]+1:=by
   unfold kS;rw[if_neg (by omega)];simp[Array.getD,show i<t.place.size by omega]
  rw[<-e2];refine af (lu st.1 (by simp) λh1 g1 b1=>?_);refine af (lu g1 (by simp) λh2 g2 b2=>?_);refine ao ⟨_,rfl,hQ _ _ (by rw[jh hi];rfl) ⟨?_,?_⟩ ⟨?_,rfl,rfl,rfl,bp _⟩⟩
  ·rw[g2];rfl
  ·rw[b2.2 a ne.symm,b1.2 a ne.symm];exact st.2
  ·intro b o hb e;have hb':b≠it:=by simpa using hb
   rw[b2.2 b hb',b1.2 b hb'];exact e
 done:=λs Q E st hQ=>by
  have sz:t.place.size=es.size:=by
   unfold SetTable.fits at fit;simp only[i6,beq_iff_eq]at fit;exact fit.1
  refine mY st.1 rfl (rL (slot:=kS t.place es.size) st.1 st.2 fit rfl ?_);refine Dx hb st.2 fit hp hl ?_;rw[Df R (by omega),rf (bp _)];dsimp only;exact wV hh st.1 rfl (by simp) λe h' kp ty=>⟨ty,hQ _ ⟨λb o hb q=>kp b o (by simpa using hb) q,rfl,rfl,rfl,bp _⟩⟩
 self:=λi s Q E st hQ=>by
  have ht:s.TypeIs (.ref it) "set_iterator":=⟨_,st.1,rfl⟩
  refine wpAny_pyIter_slot ht mZ (fj mZ ht yP ?_ (yT _));show wpAny _ _ (ret (.ref it)) _ _ s;exact ao ⟨_,rfl,"set_iterator",_,ht,st_next.lookup,hQ⟩
noncomputable abbrev oE(ps:List Nat):Obj:={cls:=.type "tuple",data:=.seq (ps.map λ(i:Nat)=>rawInt (i:Int)).toArray}
theorem Cy{i:Nat}{n:Nat}{tu:Addr}{ps:List Nat}{Q:Fin->Shared->Prop}(hi:s.heap.get? it=some (qg (.ref tu) i a n ep))(ho:s.heap.get? a=some (cG es ep t))(hu:s.heap.get? tu=some (oE ps))(hf:t.fits es.size=true)(hn:es.size=n)
  (h:match ps[i]? with
   |some pl=>∃e,es[pl]?=some e/\wpAny (model prog w) A (do
    setField (.ref it) 1 (rawInt (i+1))
    ret e.2) Q E s
   |none=>wpAny (model prog w) A (do setField (.ref it) 0 (rawInt 0);setField (.ref it) 2 .none;raiseNew (<- newExc (.type "StopIteration") [])) Q E s):
  wpAny (model prog w) A (Builtin.«set_iterator.__next__» ⟨[.ref it],[]⟩) Q E s:=by
 unfold Builtin.«set_iterator.__next__»;refine af (m:=slotArgs "__next__" 0 ⟨[.ref it],[]⟩) (ao ?_);dsimp only;refine af (wpAny_fieldsOf hi rfl ?_);show wpAny _ _ (setEntries a >>= _) _ _ s;refine af (rD ho hf ?_);rw[hn];simp only[bne_self_eq_false,n_,if_false];show wpAny _ _ (seqItems? (.ref tu) >>= _) _ _ s;refine af (wpAny_seqItems hu rfl ?_);dsimp only;have e:(ps.map λ(i:Nat)=>rawInt (i:Int)).toArray[((i:Int)).toNat]?=ps[i]?.map λ(i:Nat)=>rawInt (i:Int):=by simp
 rw[e];cases q:ps[i]? with
 |none=>
  rw[q]at h;exact h
 |some pl=>
  rw[q]at h;obtain⟨en,he,h⟩:=h;show wpAny _ _ (setNextDrawn a ((pl:Int)).toNat ((ep:Int)).toNat >>= _) _ _ s;unfold setNextDrawn;refine af (af (gz ho rfl hf ?_));dsimp only;rw[show((ep:Int)).toNat=ep by simp,show((pl:Int)).toNat=pl by simp];simp only[bne_self_eq_false,n_,if_false];rw[he];exact ao h
theorem GL(hh:A.handled=none)(fit:t.fits es.size=true)(it a tu:Addr)(ne:it≠a)(nu:it≠tu)(ps:List Nat)(hp:ps.Perm (List.range es.size)):
  WalksS prog w A it [it,a,tu] [it] Eq es.size (λi v=>∃pl e,ps[i]?=some pl/\es[pl]?=some e/\v=e.2)
   (λi s=>s.heap.get? it=some (qg (.ref tu) i a es.size ep)/\s.heap.get? a=some (cG es ep t)/\s.heap.get? tu=some (oE ps)) where
 sub:=λb hb=>by simp at hb;simp[hb]
 grefl:=λ_=>rfl
 gtrans:=λ_ _ _ x y=>x.trans y
 frame:=λi s h' tk st _ k=>⟨k it (by simp) _ st.1,k a (by simp) _ st.2.1,k tu (by simp) _ st.2.2⟩
 item:=λi s Q E hi st hQ=>by
  have pl:ps.length=es.size:=by rw[hp.length_eq,mi]
  have hlt:i<ps.length:=by omega
  have hm:ps[i]<es.size:=by have:=hp.mem_iff.mp (j7 hlt);simpa using this
  refine mY st.1 rfl (Cy st.1 st.2.1 st.2.2 fit rfl ?_);rw[cb hlt];refine⟨es[ps[i]],jh hm,?_⟩;refine af (lu st.1 (by simp) λh1 g1 b1=>?_);refine ao ⟨_,rfl,hQ _ _ ⟨_,_,cb hlt,jh hm,rfl⟩ ⟨?_,?_,?_⟩ ⟨?_,rfl,rfl,rfl,bp _⟩⟩
  ·rw[g1];rfl
  ·rw[b1.2 a ne.symm];exact st.2.1
  ·rw[b1.2 tu nu.symm];exact st.2.2
  ·intro b o hb e;have hb':b≠it:=by simpa using hb
   rw[b1.2 b hb'];exact e
 done:=λs Q E st hQ=>by
  have pl:ps.length=es.size:=by rw[hp.length_eq,mi]
  refine mY st.1 rfl (Cy st.1 st.2.1 st.2.2 fit rfl ?_);rw[oh (by omega)];refine af (lu st.1 (by simp) λh1 g1 b1=>?_);refine wV hh g1 rfl (by simp) λe h' kp ty=>⟨ty,hQ _ ⟨λb o hb q=>kp b o (by simpa using hb) ?_,rfl,rfl,rfl,bp _⟩⟩
  have hb':b≠it:=by simpa using hb
  show h1.get? b=some o;rw[b1.2 b hb'];exact q
 self:=λi s Q E st hQ=>by
  have ht:s.TypeIs (.ref it) "set_iterator":=⟨_,st.1,rfl⟩
  refine wpAny_pyIter_slot ht mZ (fj mZ ht yP ?_ (yT _));show wpAny _ _ (ret (.ref it)) _ _ s;exact ao ⟨_,rfl,"set_iterator",_,ht,st_next.lookup,hQ⟩
end
noncomputable def x6(P:Nat->Value->Prop)(vs:List Value):Prop:=∀acc:Array Value,ItemsOf P acc vs.length->acc.toList.Perm vs
theorem wZ{P:Nat->Value->Prop}{vs out:List Value}(hl:out.length=vs.length)(h:∀i v,P i v->out[i]?=some v)(hp:out.Perm vs):x6 P vs:=λacc ⟨h1,h2⟩=>by
 have e:acc.toList=out:=by
  apply List.ext_getElem?;intro i;by_cases hi:i<acc.size
  ·rw[h i acc[i] (h2 i _ (jh hi)),h_,jh hi]
  ·rw[h_,rf (by omega),oh (by omega)]
 rw[e];exact hp
section
variable{prog:Program}{w:World}{A:Around}{E:Value->Shared->Prop}{s:Shared}{a:Addr}{es:Array (Int×Value)}{ep:Nat}{t:SetTable}
theorem Lg{Q:Value->Shared->Prop}(ho:s.heap.get? a=some (cG es ep t))(fit:t.fits es.size=true)(lt:es.size<scanBound)(ld:t.led=!cj w)(hR:t.plain=true\/es.size<=1->gE t.place)
  (h:∀(it:Addr) (fp:List Addr) (P:Nat->Value->Prop) (St:Nat->Shared->Prop) (h':Heap) (d:Drawn),(∀A':Around,A'.handled=none->∃n,n=es.size/\WalksS prog w A' it fp [it] Eq n P St)->St 0 {s with heap:=h',drawn:=d}->x6 P (es.toList.map (·.2)) ->
   (∀b∈fp,b=a\/s.heap.objs.size<=b)->s.heap.objs.size<=it->(∀b o,s.heap.get? b=some o->h'.get? b=some o)->Q (.ref it) {s with heap:=h',drawn:=d}):
  wpAny (model prog w) A (pyIter (.ref a)) Q E s:=by
 have alt:a<s.heap.objs.size:=b5 ho;have ht:s.TypeIs (.ref a) "set":=⟨_,ho,rfl⟩
 have lv:(es.toList.map (·.2)).length=es.size:=by rw[aq,fc]
 refine wpAny_pyIter_slot ht BR (fj BR ht IM ?_ (JI _));unfold Builtin.«frozenset.__iter__» Builtin.Frozenset.slot0;refine af (af (m:=slotArgs "__iter__" 0 ⟨[.ref a],[]⟩) (ao ?_));show wpAny _ _ (pure a) _ _ s;refine ao ?_;unfold Builtin.Frozenset.sizeOf;refine af (af (rD ho fit (ao ?_)));unfold setDrawn;refine af (af (gz ho rfl fit ?_));dsimp only;refine af (gS (ao ?_));show wpAny _ _ (if (!cj w&&(!t.plain&&decide (es.size > 1)))=true then _ else _) _ _ s;have fin:∀(first:Value) (h1:Heap) (d:Drawn) (St:Nat->Shared->Prop),(∀b o,s.heap.get? b=some o->h1.get? b=some o)->s.heap.objs.size<=h1.objs.size ->
   (∀s2:Shared,s2.heap.get? h1.objs.size=some (qg first 0 a es.size ep)->(∀b o,h1.get? b=some o->s2.heap.get? b=some o) ->
    Q (.ref h1.objs.size) {s with heap:=h1.push (qg first 0 a es.size ep),drawn:=d})->wpAny (model prog w) A.in1 (do
   ret (<- newFields "set_iterator" [first,rawInt 0,.ref a,rawInt es.size,rawInt (<- setEpoch a)])) (λfin s'=>∃v,fin=.done (.ret v)/\∃T' r,s'.TypeIs v T'/\typeLookup (.type T') "__next__"=pure (some r)/\Q v s') E {s with heap:=h1,drawn:=d}:=by
  intro first h1 d St k le q;refine af (wpAny_setEpoch_of (k a _ ho) rfl fit ?_);refine af (gh ?_ (by size_fits));exact ao ⟨_,rfl,"set_iterator",_,⟨_,cy _ rfl,rfl⟩,st_next.lookup,q {s with heap:=h1.push (qg first 0 a es.size ep)} (cy _ rfl) λb o e=>b6 _ e⟩
 cases hb:cj w with
 |true=>
  rw[if_neg (by simp)];refine af (ao ?_);have e:s={s with heap:=s.heap,drawn:=s.drawn}:=by cases s;rfl
  have hp:=oU (w.params.setOrder a ep) es;have nea:s.heap.objs.size≠a:=j0 alt;refine fin (.int 0 0) s.heap s.drawn (λ_ _=>True) (λ_ _ e=>e) (bp _) λs2 g k=>?_
  refine h s.heap.objs.size [s.heap.objs.size,a] _ _ _ _ (λA' hA=>⟨es.size,rfl,JD (ep:=ep) hA hb fit _ a nea⟩) ⟨cy _ rfl,b6 _ ho⟩ ?_ (λb m=>?_) (bp _) λb o e=>b6 _ e
  ·refine wZ (out:=(pickOrder (w.params.setOrder a ep) es).toList.map (·.2)) (by rw[aq,aq,hp.length_eq]) (λi v q=>?_) (hp.map _);rw[g4,h_];exact q
  ·simp only[qk_,fb,or_false]at m;rcases m with m|m
   ·exact .inr (by rw[m];exact bp _)
   ·exact .inl m
 |false=>
  have hl:t.led=true:=by rw[ld,hb];rfl
  by_cases h1:t.plain=true\/es.size<=1
  ·rw[if_neg (by rcases h1 with q|q<;>simp[q])];refine af (ao ?_);have nea:s.heap.objs.size≠a:=j0 alt;refine fin (.int 0 0) s.heap s.drawn (λ_ _=>True) (λ_ _ e=>e) (bp _) λs2 g k=>?_
   refine h s.heap.objs.size [s.heap.objs.size,a] _ _ _ _ (λA' hA=>⟨es.size,rfl,IC (ep:=ep) hA hb fit h1 (hR h1) hl _ a nea⟩) ⟨cy _ rfl,b6 _ ho⟩ ?_ (λb m=>?_) (bp _) λb o e=>b6 _ e
   ·refine wZ (out:=es.toList.map (·.2)) rfl (λi v q=>?_) (.refl _);rw[g4,h_];exact q
   ·simp only[qk_,fb,or_false]at m;rcases m with m|m
    ·exact .inr (by rw[m];exact bp _)
    ·exact .inl m
  ·obtain⟨np,h2⟩:=not_or.mp h1;have np:t.plain=false:=by simpa using np
   rw[if_pos (by simp[np];omega)];refine af (vW es.size (List.range es.size) s (by simp) λps d hp=>?_);refine af (wpAny_newTuple ?_ (by rw[aq,hp.length_eq,mi];exact fits_of_scanBound lt));have nea:s.heap.objs.size≠a:=j0 alt;have e2:(s.heap.push (oE ps)).objs.size=s.heap.objs.size+1:=d_ ..;refine fin (.ref s.heap.objs.size) (s.heap.push (oE ps)) d (λ_ _=>True) (λ_ _ e=>b6 _ e) (by rw[e2];omega) λs2 g k=>?_
   refine h (s.heap.push (oE ps)).objs.size [(s.heap.push (oE ps)).objs.size,a,s.heap.objs.size] _ _ _ _ (λA' hA=>⟨es.size,rfl,GL (ep:=ep) hA fit _ a s.heap.objs.size (by rw[e2];exact j0 (jq alt)) (by rw[e2];exact j0 (mn _)) ps hp⟩) ⟨cy _ rfl,b6 _ (b6 _ ho),b6 _ (cy _ rfl)⟩ ?_ (λb m=>?_) (by rw[e2];omega) λb o e=>b6 _ (b6 _ e)
   ·have hfm:(ps.filterMap λp=>es[p]?).Perm es.toList:=(hp.filterMap _).trans (by rw[filterMap_getElem?_range]);have hmm:∀p∈ps,p<es.size:=λp m=>by have:=hp.mem_iff.mp m;simpa using this
    have hall:∀(l:List Nat),(∀p∈l,p<es.size)->∀i:Nat,(l.filterMap λp=>es[p]?)[i]?=(l[i]?).bind λp=>es[p]?:=by
     intro l
     induction l with
     |nil=>intro _ i;simp
     |cons x l ih=>
      intro hx i;have hx0:=hx x (by simp);rw[i9,jh hx0];cases i with
      |zero=>simp[hx0]
      |succ i=>simp only[List.getElem?_cons_succ];exact ih (λp m=>hx p (ia _ m)) i
    refine wZ (out:=(ps.filterMap λp=>es[p]?).map (·.2)) (by rw[aq,aq,hfm.length_eq]) (λi v ⟨pl,e,q1,q2,q3⟩=>?_) (hfm.map _);rw[g4,hall ps hmm,q1];simp[q2,q3]
   ·simp only[qk_,fb,or_false]at m;rcases m with m|m|m
    ·exact .inr (by rw[m,e2];omega)
    ·exact .inl m
    ·exact .inr (by rw[m];exact bp _)
end
theorem st_len:Slot "set" "__len__" "set.__len__":=
 Slot.of (owner:="set") (n:="__len__") (by rw[typeLookup_type,builtinLookup_eq_fast];kernel_rfl) (by decide +kernel) (by decide +kernel) (by decide +kernel) (by first|exact .inl (by decide +kernel)|exact .inr (by decide +kernel)) (by rw[isSubtype_type];kernel_rfl)
theorem pS:isSubtype (.type "set") (.type "set")=pure true:=by rw[isSubtype_type];kernel_rfl
section
variable{prog:Program}{w:World}{A:Around}{E:Value->Shared->Prop}{s:Shared}{a:Addr}{us:List Str}
theorem J6{Q:Bool->Shared->Prop}(ht:s.TypeIs (.ref a) "set")(h:Q false s):wpAny (model prog w) A (Builtin.List.listLengthHint (.ref a)) Q E s:=by
 unfold Builtin.List.listLengthHint;refine af (wpAny_specialOf ht st_len.lookup ?_);have e1:splitId "set.__len__"=some ("set","__len__"):=by decide +kernel
 dsimp only;rw[e1];dsimp only;refine af (wpAny_isInstance ht pS ?_);simp only[Bool.not_true,n_,if_false];refine wpAny_ite ?_;rw[if_pos (by decide +kernel)];refine af (wpAny_typeOf ht ?_);exact ao h
theorem Dw{es:Array (Int×Value)}{ep:Nat}{t:SetTable}{Q:List Value->Shared->Prop}(hh:A.handled=none)(ho:s.heap.get? a=some (cG es ep t))(fit:t.fits es.size=true)(lt:es.size<scanBound)(ld:t.led=!cj w)(hR:t.plain=true\/es.size<=1->gE t.place)
  (hQ:∀h' d tk (acc:List Value),acc.Perm (es.toList.map (·.2))->s.heap.objs.size<h'.objs.size->(∀b o,s.heap.get? b=some o->h'.get? b=some o)->Q acc {s with heap:=h',drawn:=d,toks:=tk}):
  wpAny (model prog w) A (collect (.ref a)) Q E s:=by
 have hl:es.size<=sizeLine:=fits_of_scanBound lt;have alt:a<s.heap.objs.size:=b5 ho;unfold collect;refine af (wpAny_runValue (i_ F.entry_proto_collect ?_));rw[jj F.plain_proto_collect _];show wpAny _ A.in1 (newList [] >>= λl=>again (.builtin "list.__iadd__" ⟨[l,.ref a],[]⟩)) _ _ s;refine af (gh ?_ (by size_fits));refine ao ⟨plainId_quiet F.plain_list_iadd _,i_ F.entry_list_iadd ?_⟩;rw[jj F.plain_list_iadd _];show wpAny _ A.in1 (Builtin.List.listExtendWith (.ref s.heap.objs.size) (.ref a) (.ref s.heap.objs.size)) _ _ _;unfold Builtin.List.listExtendWith;have S1:(s.heap.push {cls:=.type "list",data:=.seq ([]:List Value).toArray}).get? a=some (cG es ep t):=b6 _ ho;have ht:Shared.TypeIs {s with heap:=s.heap.push {cls:=.type "list",data:=.seq ([]:List Value).toArray}} (.ref a) "set":=⟨_,S1,rfl⟩
 refine af (wpAny_typeOf ht ?_);have h1:Builtin.List.listSameRef (.ref s.heap.objs.size) (.ref a)=false:=by simp[Builtin.List.listSameRef];exact j0 alt
 have h2:(Value.type "set"==Value.type "list")=false:=by decide
 have h3:(Value.type "set"==Value.type "tuple")=false:=by decide
 simp only[h1,h2,h3,ku,n_,if_false];refine af (Lg S1 fit lt ld hR λit fp P St h' d W st0 td hfp rm kp=>?_);have ht':Shared.TypeIs {s with heap:=h',drawn:=d} (.ref a) "set":=by
  obtain⟨o,e,c⟩:=ht;exact⟨o,kp _ _ e,c⟩
 refine af (i5 (J6 ht' ?_));have hA:A.in1.in1.handled=none:=by simp[hh]
 obtain⟨n,hn,W⟩:=W A.in1 (by simp[hh]);subst hn;refine wpAny_ite ?_;rw[if_pos (by decide +kernel)];refine af (wpAny_rule ?_);have sz1:(s.heap.push {cls:=.type "list",data:=.seq ([]:List Value).toArray}).objs.size=s.heap.objs.size+1:=d_ ..;have g0:h'.get? s.heap.objs.size=some {cls:=.type "list",data:=.seq ([]:List Value).toArray}:=kp _ _ (cy _ rfl);have nf:s.heap.objs.size∉fp:=λm=>by
  rcases hfp _ m with z|z
  ·exact absurd z (j0 alt)
  ·rw[sz1]at z;omega
 refine af ?_;show wpAny _ A.in1 (updateSeq s.heap.objs.size (·.push .none) >>= λ_=>updateSeq s.heap.objs.size (·.pop)) _ _ _;refine af (wpAny_updateSeq g0 rfl ?_);have g1:=fu (Obj.mapSeq (·.push Value.none)) g0 rfl;refine wpAny_updateSeq g1 rfl ?_;have g2:=fu (Obj.mapSeq (·.pop)) g1 rfl;have oth:∀b o,b≠s.heap.objs.size->h'.get? b=some o->((h'.update s.heap.objs.size (Obj.mapSeq (·.push Value.none))).update s.heap.objs.size (Obj.mapSeq (·.pop))).get? b=some o:=
  λb o hb e=>(mw _ _ (Ne.symm hb)).trans ((mw _ _ (Ne.symm hb)).trans e)
 refine ao ⟨plainId_quiet F.plain_extend_loop _,codeAny_extend_loopS W hl _ nf _ es.size 0 _ _ _ rfl (d8 _)
  (W.frame 0 {s with heap:=h',drawn:=d} _ s.toks st0 (bp _) λb hb o e=>oth b o (λz=>nf (z▸hb)) e) g2 (ItemsOf.nil P) λs' acc' c' hm g' hacc=>?_⟩
 show wpAny _ A (load s.heap.objs.size >>= _) _ _ s';refine af (wpAny_load g' ?_);have hp:=td acc' (by rw[aq,fc];exact hacc);obtain⟨h'',g'',d'',tk'',os''⟩:=s';have e1:g''=s.gens:=hm.gens.symm;have e2:os''=s.os:=hm.os;subst e1 e2;refine ao (hQ h'' d'' tk'' acc'.toList hp (b5 g') λb o e=>hm.heap b o (λm=>?_) (oth b o (cz (b5 e)) (kp b o (b6 _ e))));have lt:=b5 e;simp only[qk_,fb,or_false]at m;rcases m with m|m
 ·rw[m]at lt;exact g_ _ lt
 ·rw[m]at lt;rw[sz1]at rm;exact absurd lt (qC2_.mpr (Nat.le_of_succ_le rm))
theorem dc.rises{es:Array (Int×Value)}{t:SetTable}(T:dc prog w us es t)(h:t.plain=true\/es.size<=1):gE t.place:=by
 have fit:=T.fit;unfold SetTable.fits at fit;simp only[i6,beq_iff_eq]at fit;have k:es.size<=1:=by
  rcases T.pl with q|q
  ·omega
  ·exact h.resolve_left (by rw[q];decide)
 exact C9 (by rw[fit.1];exact k)
theorem Ni{Q:Value->Shared->Prop}(hh:A.handled=none)(S:bh prog w a us s.heap)(h64:us.length<64)
  (h:∀h' d tk (l:Addr) (out:List Value) (ss:List Str) (e:Nat),StrsAre out ss->ss.Perm us->sortedS ss=true->h'.get? l=some (seqObj "list" out.toArray e)->s.heap.objs.size<=l->(∀b o,s.heap.get? b=some o->h'.get? b=some o) ->
   Q (.ref l) {s with heap:=h',drawn:=d,toks:=tk}):wpAny (model prog w) A (call (.builtin "sorted") [.ref a]) Q E s:=by
 refine Calls.call_function_entry kind_sorted plain_sorted entry_sorted (args_sorted1 _) ?_;unfold Builtin.«sorted»;refine af (m:=checkCount "sorted" 1 1 _) (ao ?_);obtain⟨es,ep,t,ho,T⟩:=S;refine af (Dw (by simp[hh]) ho T.fit T.lt T.ld T.rises λh1 d tk acc pa le kp=>?_);obtain⟨vs0,hv0,pv0⟩:=T.tx;obtain⟨vs,hs,hp0⟩:=rN pa hv0;have hp:=hp0.trans pv0;have hlen:acc.length<64:=by rw[iY hs,hp.length_eq];exact h64
 refine af (wpAny_newList ?_ (e6 (gj hlen (by decide))));have hoL:(h1.push (seqObj "list" acc.toArray 0)).get? h1.objs.size=some (seqObj "list" acc.toArray 0):=cy _ rfl;refine af (i5 (fj slot_list_sort ⟨_,hoL,rfl⟩ entry_list_sort (list_sort_treeK strKind_oneLt hoL hs.keysOf (λv₁ v₂ rest e=>keyKind_strs (by rw[<-e];exact hs)) hlen λst' a1 a2=>⟨_,rfl,?_⟩) (args_list_sort _)));obtain⟨ss',b1,b2,b3⟩:=sorted_out_str hs a1 a2;obtain⟨e,he⟩:=sortedHeap_at (out:=(arrOf st').map (·.2)) hoL;refine ao ⟨_,rfl,h _ _ _ _ ((arrOf st').map (·.2)).toList ss' e b1 (b2.trans hp) b3 (by rw[rb];exact he) (e6 le) λb o q=>?_⟩;have lt:=b5 (kp b o q);rw[sortedHeap_old (cz lt) (by rw[d_];exact jq lt)];exact b6 _ (kp b o q)
end
noncomputable def gH(val:Nat->Str)(i:Nat):List Str:=((List.range i).map val).foldl dY []
theorem C7(val:Nat->Str)(i:Nat):gH val (i+1)=dY (gH val i) (val i):=by
 unfold gH;rw[List.range_succ,dw,q_];rfl
theorem B1(us:List Str)(x y:Str):y∈dY us x↔y∈us\/y=x:=by
 unfold dY;split
 ·exact⟨.inl,λh=>h.elim id λe=>by subst e;assumption⟩
 ·simp
theorem JE{us:List Str}(h:us.Nodup)(x:Str):(dY us x).Nodup:=by
 unfold dY;split
 ·exact h
 ·rename_i n;rw[oi];exact⟨h,by simp,λa ha b hb e=>n (by rw[<-show b=x by simpa using hb,<-e];exact ha)⟩
noncomputable def aN(ss:List Str):List Str:=ss.foldl dY []
theorem CU:∀(ss us:List Str) (y:Str),y∈ss.foldl dY us↔y∈us\/y∈ss
 |[],us,y=>by simp
 |x::ss,us,y=>by rw[j8,CU ss,B1,qk_,or_assoc]
theorem Bl:∀(ss us:List Str),us.Nodup->(ss.foldl dY us).Nodup
 |[],us,h=>h
 |x::ss,us,h=>Bl ss _ (JE h x)
theorem dM(ss:List Str)(y:Str):y∈aN ss↔y∈ss:=by rw[aN,CU];simp
theorem eI(ss:List Str):(aN ss).Nodup:=Bl ss [] mh
theorem Bs{val:Nat->Str}{ss:List Str}(h:∀i (hi:i<ss.length),val i=ss[i]):gH val ss.length=aN ss:=by
 unfold gH aN;congr 1;apply List.ext_getElem
 ·simp
 ·intro i h1 h2;simp[h i h2]
theorem J1(us:List Str)(x:Str):us.length<=(dY us x).length:=by
 unfold dY;split
 ·exact bp _
 ·rw[b8];omega
theorem MH(val:Nat->Str){i n:Nat}(h:i<=n):(gH val i).length<=(gH val n).length:=by
  induction n with
  | zero => have : i = 0 := by omega
            subst this;exact bp _
  |succ n ih=>
    by_cases e:i=n+1
    · subst e;exact bp _
    · have:=ih (by omega)
      rw[C7];have:=J1 (gH val n) (val n);omega
section
variable{prog:Program}{w:World}{A:Around}{R:Result->Shared->Prop}{I:Addr}{fp wr:List Addr}{G:Array GenState->Array GenState->Prop}{n:Nat}{P:Nat->Value->Prop}{St:Nat->Shared->Prop}
theorem bh.kept{a:Addr}{us:List Str}{h h':Heap}(S:bh prog w a us h)(k:∀o,h.get? a=some o->h'.get? a=some o):bh prog w a us h':=by
 obtain⟨es,ep,t,ho,T⟩:=S;exact⟨es,ep,t,k _ ho,T⟩
theorem Bq(W:WalksS prog w A.in1 I fp wr G n P St)(S:Addr)(hf:S∉fp)(J:Nat->Heap->Prop)(kp:∀i h h',J i h->(∀o,h.get? S=some o->h'.get? S=some o)->J i h')
  (add:∀i v (s':Shared) (Q:Bool->Shared->Prop) (E:Value->Shared->Prop),i<n->P i v->J i s'.heap->(∀b h',Heap.SameBut S s'.heap h'->J (i+1) h'->Q b {s' with heap:=h',toks:=s'.toks+1})->wpAny (model prog w) A.in1 (setAdd S v) Q E s'):
  ∀(k i:Nat) (s:Shared),n-i=k->i<=n->St i s->J i s.heap ->
   (∀s',Moved (S::wr) G s s'->J n s'.heap->R (.ok (.ret .none)) s')->codeAny (model prog w) A (.builtin "set.update.loop" ⟨[.ref S,.ref I],[]⟩) R s:=by
 have nw:S∉wr:=λz=>hf (W.sub _ z)
 have sub:∀b∈wr,b∈S::wr:=λb z=>ia _ z
 intro k
 induction k with
 |zero=>
  intro i s hk hi st hS hR;have e:i=n:=by omega
  subst e;refine i_ F.entry_set_update_loop ?_;rw[jj F.plain_set_update_loop _];show wpAny _ A.in1 (pyNext (.ref I) >>= _) _ _ s;refine af (W.done s _ _ st λs' hm=>?_);show wpAny _ A.in1 (ret Value.none) _ _ s';exact ao (hR s' (hm.mono sub) (kp _ _ _ hS λo q=>hm.heap S _ nw q))
 |succ k ih=>
  intro i s hk hi st hS hR;have lt:i<n:=by omega
  refine i_ F.entry_set_update_loop ?_;rw[jj F.plain_set_update_loop _];show wpAny _ A.in1 (pyNext (.ref I) >>= _) _ _ s;refine af (W.item i s _ _ lt st λv s' hP st' hm=>?_);show wpAny _ A.in1 (holding [v] (setAdd S v) >>= _) _ _ s';refine af (i5 (add i v s' _ _ lt hP (kp _ _ _ hS λo q=>hm.heap S _ nw q) λb h' sb S2=>?_));refine ao ⟨plainId_quiet F.plain_set_update_loop _,ih (i+1) _ (by omega) lt (W.frame _ s' _ _ st' (jr _) λc hc o e=>?_) S2 λs'' hm'' S3=>?_⟩
  ·rw[sb.2 c (λz:c=S=>hf (by rw[<-z];exact hc))];exact e
  ·refine hR s'' (Moved.trans W.gtrans ((hm.mono sub).then_heap (jr _) λc o hc e=>?_) hm'') S3;rw[sb.2 c (λz:c=S=>hc (by rw[z];exact ib))];exact e
theorem Dm{α:Type}[DecidableEq α](knd:PySem.KeyKind prog w α){S:Addr}{x:α}{v:Value}{s':Shared}{Q:Bool->Shared->Prop}{E:Value->Shared->Prop}(hk:knd.is x v=true)(h:wpAny (model prog w) A (setAddHashed S v (knd.hash x)) Q E {s' with toks:=s'.toks+1}):wpAny (model prog w) A (setAdd S v) Q E s':=by
 unfold setAdd;exact i5 (af (knd.pyHash (k:=x) hk h))
theorem C3(W:WalksS prog w A.in1 I fp wr G n P St)(S:Addr)(hf:S∉fp)(val:Nat->Str)(hv:∀i v,P i v->∃t,v=.str (val i) t)(hb:(gH val n).length+1<scanBound):
  ∀(k i:Nat) (s:Shared),n-i=k->i<=n->St i s->bh prog w S (gH val i) s.heap ->
   (∀s',Moved (S::wr) G s s'->bh prog w S (gH val n) s'.heap->R (.ok (.ret .none)) s')->codeAny (model prog w) A (.builtin "set.update.loop" ⟨[.ref S,.ref I],[]⟩) R s:=
 Bq W S hf (λi h=>bh prog w S (gH val i) h) (λ_ _ _ S k=>S.kept k) λi v s' Q E lt hP hS q=>by
  obtain⟨t,rfl⟩:=hv i v hP;refine Dm (PySem.strKind prog w) (x:=val i) (by show Value.isStrOf _ (.str _ t)=true;simp[Value.isStrOf]) (xR (s:={s' with toks:=s'.toks+1}) hS (by have:=MH val (e6 lt);omega) λb h' sb S2=>q b h' sb ?_);rw[C7];exact S2
end
section
variable{prog:Program}{w:World}{A:Around}{E:Value->Shared->Prop}{s:Shared}
theorem NC(a:Value){Q₁:Value->Shared->Prop}(h:Q₁ (.ref s.heap.objs.size) {s with heap:=s.heap.push (cG #[] 0 (.fresh 0 0 (!cj w)))}):
  codeAny (model prog w) A (.call (.builtin "set.__new__") ⟨[.type "set",a],[]⟩) (wants Q₁ E) s:=by
 refine codeAny_of_tree ?_;show wpAny _ A.in1 (do checkBuiltinCall "set.__new__" ⟨[.type "set",a],[]⟩;again (.builtin "set.__new__" ⟨[.type "set",a],[]⟩)) _ _ s;refine af (wpAny_of_eq (F.newCall_set_1 a) (ao ⟨plainId_quiet F.plain_set_new _,i_ F.entry_set_new ?_⟩));rw[jj F.plain_set_new _];unfold Builtin.«set.__new__» Builtin.Frozenset.newClass;have hsub:=pS;obtain⟨hp,g,d,tk,os⟩:=s;dsimp only;wp_walk;refine wpAny_askSetting (ao ?_);dsimp only;simp only[newObj];refine af (wpAny_alloc (ao ?_));exact ao h
end
theorem iH:∀{vs:List Value}{ss:List Str},StrsAre vs ss->∀(i:Nat) (v:Value),vs[i]?=some v->∃t,v=.str (ss.getD i ⟨#[]⟩) t
 |_,_,.nil,i,v,h=>by simp at h
 |_,_,.cons y t hr,0,v,h=>by
  simp at h;exact⟨t,by rw[<-h];rfl⟩
 |_,_,.cons y t hr,i+1,v,h=>by
  simp only[List.getElem?_cons_succ]at h;obtain⟨u,e⟩:=iH hr i v h;exact⟨u,by rw[e];rfl⟩
section
variable{prog:Program}{w:World}{A:Around}{E:Value->Shared->Prop}{s:Shared}
noncomputable abbrev cV(w:World):Obj:=cG #[] 0 (.fresh 0 0 (!cj w))
theorem Bc{x:Value}{P:Shared->Prop}{Q:Value->Shared->Prop}(hq:∀s',P s'->Q (.ref s.heap.objs.size) s')
  (hb:wpAny (model prog w) A.in1.in1 (Builtin.«set.__init__» ⟨[.ref s.heap.objs.size]++[x],[]⟩) (λr s'=>r=.done (.ret .none)/\P s') E {s with heap:=s.heap.push (cV w)}):
  wpAny (model prog w) A (call (.type "set") [x]) Q E s:=by
 obtain⟨c,tl,hmro⟩:=F.called_set.mro;have hmade:=F.called_set.made;have hsub:=F.called_set.sub;refine wpAny_call (codeAny_of_tree ?_);show wpAny _ _ (callAny (.type "set") _) _ _ _;refine ao ⟨Code.quiet_builtin _ (by decide +kernel),i_ F.entry_type_call ?_⟩;rw[Around.under_plain (weight_type_call_type "set" [x] []) rfl];have h1:=F.called_set.notType;have h2:=F.called_set.canCreate;have hct:=F.typeCall_set_1 x
 repeat (any_goals (first|assumption|wp_step))
 refine codeAny_mono (NC x (E:=E) (Q₁:=λobj s₁=>obj=.ref s.heap.objs.size/\s₁={s with heap:=s.heap.push (cV w)}) ⟨rfl,rfl⟩) λr s₁ hr=>?_
 cases r with
 |error e=>exact hr
 |ok fl=>
  cases fl with
  |ret obj=>
   obtain⟨rfl,rfl⟩:=hr;have hS:(s.heap.push (cV w)).get? s.heap.objs.size=some (cV w):=cy _ rfl;have hT:Shared.TypeIs {s with heap:=s.heap.push (cV w)} (.ref s.heap.objs.size) "set":=⟨_,hS,rfl⟩
   have hli:=F.called_set.init.lookup;have hbi:=F.called_set.init.bind (.ref s.heap.objs.size)
   repeat (any_goals (first|assumption|wp_step))
   refine codeAny_mono (codeAny_call_builtin (R:=wants (λr s₂=>r=.none/\P s₂) E) F.called_set.init.plain F.entry_set_init (check_set_init_1 hT (wpAny_mono hb (λr s' ⟨e,p⟩=>?_) λ_ _ h=>h))) λr₂ s₂ hr₂=>?_
   ·subst e;exact⟨rfl,p⟩
   ·cases r₂ with
    |error e=>exact hr₂
    |ok fl₂=>
     cases fl₂ with
     |ret r=>
      obtain⟨rfl,p⟩:=hr₂
      repeat (any_goals (first|assumption|wp_step))
      exact hq _ p
     |_=>exact hr₂.elim
  |_=>exact hr.elim
theorem A1{h:Heap}{a:Addr}(e:h.get? a=some (cV w)):bh prog w a [] h:=⟨#[],0,.fresh 0 0 (!cj w),e,⟨λe he=>by simp at he,⟨[],.nil,.refl _⟩,mh,by decide,by simp[SetTable.fits,SetTable.fresh,SetTable.fill],.inl rfl,rfl⟩⟩
theorem Bd{l:Addr}{o:Obj}{T:String}{R:Shared->Prop}{Q:Value->Shared->Prop}(ho:s.heap.get? l=some o)(hc:o.cls=.type T)(hs:isSubtype (.type T) (.type "set")=pure false)(hf:isSubtype (.type T) (.type "frozenset")=pure false)(hne:(Value.type T==Value.type "dict")=false)
  (rm:wpAny (model prog w) A.in1.in1 (pyIter (.ref l)) (λi s1=>wpAny (model prog w) A.in1.in1 (runValue (.builtin "set.update.loop" ⟨[.ref s.heap.objs.size,i],[]⟩)) (λ_ s'=>R s') E s1) E {s with heap:=s.heap.push (cV w)})
  (h:∀s',R s'->Q (.ref s.heap.objs.size) s'):wpAny (model prog w) A (call (.type "set") [.ref l]) Q E s:=by
 refine Bc h ?_;have ho':(s.heap.push (cV w)).get? l=some o:=b6 _ ho;have hS:(s.heap.push (cV w)).get? s.heap.objs.size=some (cV w):=cy _ rfl;obtain⟨ocls,odict,odata,oslots⟩:=o;simp only at hc;subst hc;unfold Builtin.«set.__init__» noKeywords Builtin.Frozenset.updateFrom;generalize hPI:pyIter=PI at rm;wp_walk;exact wpAny_mono rm (λa s1 h=>af (wpAny_mono h (λ_ s2 r=>ao (ao ⟨rfl,r⟩)) λ_ _ h=>h)) λ_ _ h=>h
noncomputable def qW(s:Shared)(P:Heap->Prop)(s':Shared):Prop:=∃h' tk,s'={s with heap:=h',toks:=tk}/\P h'/\∀b o,b<s.heap.objs.size->s.heap.get? b=some o->h'.get? b=some o
theorem wJ{o:Obj}{G:Array GenState->Array GenState->Prop}{P:Heap->Prop}{s':Shared}(hm:Moved [s.heap.objs.size,(s.heap.push (cV w)).objs.size] G {s with heap:=(s.heap.push (cV w)).push o} s')(hg:s'.gens=s.gens)(p:P s'.heap):qW s P s':=by
 obtain⟨h',g',d',tk',os'⟩:=s';have ed:d'=s.drawn:=hm.drawn;have eo:os'=s.os:=hm.os;have hg:g'=s.gens:=hg;subst hg ed eo;refine⟨h',tk',rfl,p,λb o hb e=>hm.heap b o ?_ (b6 _ (b6 _ e))⟩;rw[d_];simp only[qk_,fb,or_false,not_or];exact⟨cz hb,cz (jq hb)⟩
theorem Li{l:Addr}{items:Array Value}{R:Heap->Prop}{Q:Value->Shared->Prop}(hh:A.handled=none)(hl:s.heap.IsList l items) (hw:∀(hh3:A.in1.in1.in1.handled=none) (ne:l≠(s.heap.push (cV w)).objs.size) (nf:s.heap.objs.size∉[(s.heap.push (cV w)).objs.size,l]) (s1:Shared),s1={s with heap:=(s.heap.push (cV w)).push {cls:=.type "list_iterator",data:=.fields #[.ref l,.int 0 0]}}->s1.heap.get? s.heap.objs.size=some (cV w)->s1.heap.IsListIter (s.heap.push (cV w)).objs.size l 0/\s1.heap.IsList l items ->
   codeAny (model prog w) A.in1.in1 (.builtin "set.update.loop" ⟨[.ref s.heap.objs.size,.ref (s.heap.push (cV w)).objs.size],[]⟩) (wants (λ_ s'=>qW s R s') E) s1)
  (h:∀(h':Heap) (tk:Nat),R h'->(∀b o,b<s.heap.objs.size->s.heap.get? b=some o->h'.get? b=some o)->Q (.ref s.heap.objs.size) {s with heap:=h',toks:=tk}):wpAny (model prog w) A (call (.type "set") [.ref l]) Q E s:=by
 obtain⟨ol,hol,hcl,nl,hdl⟩:=id hl;have hlS:l<s.heap.objs.size:=b5 hol;refine Bd (R:=qW s R) hol hcl F.sub_list_set F.sub_list_frozenset (by decide) (wpAny_pyIter_list (hl.push _) (wpAny_runValue ?_)) λs' ⟨h',tk,e,p,k⟩=>by subst e;exact h h' tk p k
 refine hw (by simp[hh]) ?_ ?_ _ rfl (b6 _ (cy _ rfl)) ⟨⟨_,cy _ rfl,rfl,rfl⟩,(hl.push _).push _⟩
 ·rw[d_];exact cz (jq hlS)
 ·rw[d_];simp only[qk_,fb,or_false,not_or];exact⟨cz (mn _),j0 hlS⟩
theorem NQ{l:Addr}{items:Array Value}{ss:List Str}{Q:Value->Shared->Prop}(hh:A.handled=none)(hl:s.heap.IsList l items)(hi:StrsAre items.toList ss)(hb:(aN ss).length+1<scanBound)
  (h:∀(h':Heap) (tk:Nat),bh prog w s.heap.objs.size (aN ss) h'->(∀b o,b<s.heap.objs.size->s.heap.get? b=some o->h'.get? b=some o)->Q (.ref s.heap.objs.size) {s with heap:=h',toks:=tk}):
  wpAny (model prog w) A (call (.type "set") [.ref l]) Q E s:=by
 have hz:items.size=ss.length:=by have:=iY hi;simpa using this
 have hm:gH (λi=>ss.getD i ⟨#[]⟩) items.size=aN ss:=by rw[hz];exact Bs λi hi=>by simp[hi]
 refine Li hh hl (λhh3 ne nf s1 e1 g1 st=>?_) h;subst e1;exact C3 ((Walks.list hh3 _ l ne items).toS) s.heap.objs.size nf (λi=>ss.getD i ⟨#[]⟩) (λi v hv=>iH hi i v (by rw[h_];exact hv)) (by rw[hm];exact hb) (items.size-0) 0 _ (by omega) (d8 _) st (A1 g1) λs' m S'=>wJ m m.gens (by rw[hm]at S';exact S')
end
theorem boot_set:bootBuiltins "set"=some (.type "set"):=by decide +kernel
noncomputable def eR(P:Program)(w:World)(a:Addr)(us:List Str):HO:=.ext (bh P w a us)
section
variable{X:Cx}
theorem ag.draw{Pp:List (Addr×Obj)}{σ:St}{H:Hp}{s:Shared}(I:ag X Pp σ H s)(d:Drawn):ag X Pp σ H {s with drawn:=d}:=
 ⟨I.ok,I.os,I.bare,I.base,I.loc,I.cell,I.free,I.freeC,I.pin,I.hok,I.len⟩
noncomputable def JP(P:Program)(w:World):List V->Hp->VK->Prop:=λxs H Q=>∃(a:Addr) (us:List Str),xs=[.ref a]/\H a=some (eR P w a us)/\us.length<64 /\
  ∀(ss:List Str) (l:Addr),ss.Perm us->sortedS ss=true->H l=none->Q (.ref l) (aw H l (.lst (ss.map V.str)))
theorem Dz(hc:X.calm=true):au X (.builtin "sorted") (JP X.prog X.w):=by
 intro Pp s σ H xs us Q I r h;obtain⟨a,uu,rfl,hq,h64,q⟩:=h;obtain⟨u,rfl,rx⟩:=cY r;cases rx;have S:bh X.prog X.w a uu s.heap:=(I.hok a _ hq).1;refine Ni (I.ok.hd hc) S h64 λh' d tk l out ss e hs hp hso hl le k=>?_
 refine⟨.ref l,_,(I.laid (t':=tk) (o:=.lst (ss.map V.str)) k le ?_).draw d,rfl,q ss l hp hso (I.hok.fresh le)⟩;refine⟨?_,out,e,wA hs,hl⟩;rw[aq,hp.length_eq];exact e6 (gj h64 (by decide))
noncomputable def iR(x:Str)(n:Int):Str:=⟨(List.replicate n.toNat x.cps.toList).flatten.toArray⟩
noncomputable def Gh:R2:=λx y H Q=>∃(z:Str) (n:Int),x=.str z/\y=.int n/\z.length<=1000/\n<=1000 /\ -1000<=n/\Q (.str (iR z n)) H
theorem xM(x:Array Nat):∀n (acc:Array Nat),((List.replicate n x).foldl (·++·) acc)=(acc.toList++(List.replicate n x.toList).flatten).toArray
 |0,acc=>by simp
 |n+1,acc=>by
  rw[dg,j8,xM x n,dg,g6];simp
theorem Ji:cf X (binaryOp .Mult) Gh:=by
 intro Pp s σ H x y v u Q I rx ry h;obtain⟨z,n,rfl,rfl,hz,n1,n0,q⟩:=h;obtain⟨t,rfl⟩:=rx;obtain⟨t',rfl⟩:=ry;have fin:∀(w:Str) (k:Tok) (tk:Nat),w=iR z n->EP X Pp σ Q (.str w k) {s with toks:=tk}:=λw k tk e=>⟨.str w,H,I.tok tk,⟨k,rfl⟩,by rw[e];exact q⟩
 have pos:∀m:Nat,m<=1000->z.length*m<=1000000:=λm hm=>Nat.mul_le_mul hz hm
 refine P.mul_str (by rw[dq (by omega),dq (by omega)];rfl) (λh1 _ h2=>?_) (λh1 _=>?_) ?_
 ·have:(2 ^ 63-1) / n>=1000:=by
   have h3:n<=1000:=n1;have h4:0<n:=by omega
   rw[ge_iff_le,Int.le_ediv_iff_mul_le h4];omega
  omega
 ·show decide (_ > sizeLine)=false;refine dq (qC2_.mpr (bu (pos n.toNat (by omega)) (by decide)))
 ·split
  ·refine⟨by decide,fin _ _ _ ?_⟩;unfold iR;rw[show n.toNat=0 by omega];rfl
  ·split
   ·rename_i h1 h2;refine fin _ _ s.toks ?_;rw[Bool.or_eq_true]at h2;unfold iR;rcases h2 with h3|h3
    ·have:n=1:=by simpa using h3
     rw[this];simp
    ·have hz0:z.cps=#[]:=by
      have:z.cps.size=0:=by simpa[Str.length]using h3
      exact Array.size_eq_zero_iff.mp this
     have e:∀m:Nat,(List.replicate m ([]:List Nat)).flatten=[]:=λm=>by
      induction m with
      |zero=>rfl
      |succ m ih=>rw[dg,g6,ih];rfl
     obtain⟨zc⟩:=z;have hz0:zc=#[]:=hz0;subst hz0;show(⟨#[]⟩:Str)=⟨(List.replicate n.toNat ([]:List Nat)).flatten.toArray⟩;rw[e]
   ·refine⟨?_,fin _ _ _ ?_⟩
    ·show(List.foldl (λx1 x2=>x1++x2) #[] (List.replicate n.toNat z.cps)).size<=_;rw[xM,cg,b8,yK];show 0+n.toNat*z.cps.toList.length<=_;have:=pos n.toNat (by omega);rw[og]at this;have e:z.cps.toList.length=z.length:=by simp[Str.length]
     rw[e];exact bu (by omega) (show 1000000<=sizeLine by decide)
    ·unfold iR;rw[xM];simp
noncomputable def Fi(K:W.Frag):V->Option Int->Option Int->Hp->VK->Prop:=λx lo hi H Q=>∃a xs,x=.ref a/\cu K H a xs/\∀p H',ba H H'->cu K H' p (iA xs lo hi)->Q (.ref p) H'
theorem Nl{prog:Program}{w:World}{A:Around}{E:Value->Shared->Prop}{s:Shared}{t sl:Addr}{items:Array Value}{vl vu:Value}{lo hi:Option Int}{Q:Value->Shared->Prop}(ht:IsTup s.heap t items)(hs:s.heap.IsSliceOf sl vl vu .none)(pl:IsPart vl lo)(pu:IsPart vu hi)
  (hw:HT.sIx items.size 0 lo=0/\HT.sIx items.size items.size hi=items.size) (h:Q (.ref t) s):wpAny (model prog w) A (getItem (.ref t) (.ref sl)) Q E s:=by
 obtain⟨os,hos,hcs,hds⟩:=id hs;have hTs:s.TypeIs (.ref sl) "slice":=⟨os,hos,hcs⟩
 unfold getItem
 try with_reducible refine i5 ?_
 first|refine af (ao ?_)|skip
 refine af (wpAny_sequenceKey ht.typeIs (by decide) ?_);refine af (wpAny_callSpecial?_slot (name:=Str.ofString "__getitem__") ht.typeIs PyProof.Rows.slot_tuple_getitem (fj PyProof.Rows.slot_tuple_getitem ht.typeIs entry_tuple_getitem ?_ (args_tuple_getitem _ _)));show wpAny _ _ (Builtin.Tuple.tupleItemsOf (.ref t) >>= _) _ _ s;refine af (tupleItemsOf_ ht (af (wpAny_typeOf hTs ?_)));rw[if_pos (by decide)];refine af (HT.sliceApplied_gen hs pl pu ?_);rw[hw.1,hw.2];dsimp only;rw[if_pos (by simp)];unfold Builtin.Tuple.tupleIsExact;refine af (af (wpAny_typeOf ht.typeIs (ao ?_)));rw[if_pos (by decide)];exact af (wpAny_rule (ao ⟨_,rfl,ao h⟩))
theorem JL{xs:List V}{lo hi:Option Int}(hw:HT.sIx xs.length 0 lo=0/\HT.sIx xs.length xs.length hi=xs.length):iA xs lo hi=xs:=by
 unfold iA;rw[hw.1,hw.2,p5,Nat.sub_zero,mf]
theorem sl_tupW:o8 X (Fi X.K):=by
 intro Pp s σ H x v vl vu lo hi sl Q I rx hs pl pu h;obtain⟨a,xs,rfl,hx,q⟩:=h;by_cases hw:HT.sIx xs.length 0 lo=0/\HT.sIx xs.length xs.length hi=xs.length
 ·cases rx;obtain⟨its,r,ht,hz⟩:=I.tuple hx;have hlen:its.toArray.size=xs.length:=by rw[cg];exact r.length.symm
  refine⟨"tuple",_,PyProof.Rows.slot_tuple_getitem.lookup,ht.typeIs,?_⟩;exact Nl ht hs pl pu (by rw[hlen];exact hw) ⟨.ref a,H,I,rfl,q a H (λ_ _ e=>e) (by rw[JL hw];exact hx)⟩
 ·exact Jo Pp s σ H _ v vl vu lo hi sl Q I rx hs pl pu ⟨a,xs,rfl,hx,hw,λp np=>q p _ (λb o e=>by rw[bU (eW e np)];exact e) (cu.of bL)⟩
end
inductive Lf where
 |non
 |int (i:Int)
 |str (x:Str)
noncomputable def Lf.v:Lf->V
 |.non=>.non
 |.int i=>.int i
 |.str x=>.str x
noncomputable def Lf.t:Lf->Str
 |.non=>"None"
 |.int i=>toString i
 |.str x=>reprText x
noncomputable def Lf.ok:Lf->Prop
 |.non=>True
 |.int i=>i.natAbs.log2<1920
 |.str x=>(reprText x).length<=100000
inductive Rp where
 |lf (l:Lf)
 |tup (a:Addr) (ls:List Lf)
noncomputable def Rp.v:Rp->V
 |.lf l=>l.v
 |.tup a _=>.ref a
noncomputable def Rp.t:Rp->Str
 |.lf l=>l.t
 |.tup _ ls=>tupleText (ls.map Lf.t)
noncomputable def Rp.At(K:W.Frag)(H:Hp):Rp->Prop
 |.lf l=>l.ok
 |.tup a ls=>cu K H a (ls.map Lf.v)/\∀l∈ls,l.ok
theorem Co{prog:Program}{w:World}:∀{l:Lf}{u:Value},l.ok->aj l.v u->ReprIs prog w u l.t
 |.non,u,_,r=>by cases r;exact ReprIs.none
 |.int i,u,h,r=>by obtain⟨t,rfl⟩:=r;exact ReprIs.int t h
 |.str x,u,h,r=>by obtain⟨t,rfl⟩:=r;exact ReprIs.str x t (bu h (by decide))
theorem DP{prog:Program}{w:World}{as:List Addr}{h₀:Heap}{d:Nat}:∀{ls:List Lf}{us:List Value},(∀l∈ls,l.ok)->ak (ls.map Lf.v) us->ReprAllK prog w as h₀ d us (ls.map Lf.t)
 |[],us,_,r=>by rw[mz]at r;cases r;exact .nil
 |l::ls,us,h,r=>by
  rw[d9]at r;cases r with
  |cons r1 r2=>exact .cons (.of_is (Co (h l ib) r1) as h₀ d) (DP (λx hx=>h x (ia _ hx)) r2)
noncomputable def Rp.ad:Rp->List Addr
 |.lf _=>[]
 |.tup a _=>[a]
section
variable{X:Cx}
theorem wE{Pp:List (Addr×Obj)}{σ:St}{H:Hp}{s:Shared}(I:ag X Pp σ H s){as:List Addr}:∀{is:List Rp}{us:List Value},(∀i∈is,i.At X.K H)->(∀i∈is,∀b∈i.ad,b∈as)->ak (is.map Rp.v) us->ReprAllK X.prog X.w as s.heap 1 us (is.map Rp.t)
  |[],us,_,_,r=>by rw[mz]at r;cases r;exact .nil
  |.lf l::is,us,h,ha,r=>by
    rw[d9]at r;cases r with
    |cons r1 r2=>exact .cons (.of_is (Co (h _ ib) r1) as s.heap 1) (wE I (λx hx=>h x (ia _ hx)) (λx hx=>ha x (ia _ hx)) r2)
  |.tup a ls::is,us,h,ha,r=>by
    rw[d9]at r;cases r with
    |cons r1 r2=>
      cases r1;obtain⟨hq,hk⟩:=h _ ib;obtain⟨its,rv,ht,hz⟩:=I.tuple hq;obtain⟨o,ho,hc,n,hd⟩:=ht;have T:=ReprK.tuple (prog:=X.prog) (w:=X.w) (as:=[]) (d:=0) ho hc hd (by simp) (DP hk (by simpa using rv))
      exact .cons (T.more (by intro b hb; have : b = a := by simpa using hb
                              subst this;exact ha _ ib b (by simp[Rp.ad]))) (wE I (λx hx=>h x (ia _ hx)) (λx hx=>ha x (ia _ hx)) r2)
theorem br.r16{k:Nat}{A:Around}(r:br k A):A.units+16<cLine:=by
 have:=r.un;omega
noncomputable def Gn(K:W.Frag):List V->Hp->VK->Prop:=λxs H Q=>
 (∃l:Lf,xs=[l.v]/\l.ok/\Q (.str l.t) H) \/
 (∃(a:Addr) (is:List Rp),xs=[.ref a]/\cu K H a (is.map Rp.v)/\(∀i∈is,i.At K H)/\(∀i∈is,a∉i.ad)/\(tupleText (is.map Rp.t)).length<=sizeLine/\Q (.str (tupleText (is.map Rp.t))) H)
theorem Mu(hg:X.A.guards=some [])(hu:X.A.units+16<cLine):au X (.builtin "repr") (Gn X.K):=by
 intro Pp s σ H xs us Q I r h;rcases h with⟨l,rfl,hk,q⟩|⟨a,is,rfl,hq,hat,hne,hz,q⟩
 ·obtain⟨u,rfl,rx⟩:=cY r;cases l with
  |non=>cases rx;exact PySem.P.repr_of_none ⟨.str _,H,I.tok _,⟨_,rfl⟩,q⟩
  |int i=>obtain⟨t,rfl⟩:=rx;exact PySem.P.repr_of_int hk ⟨.str _,H,I.tok _,⟨_,rfl⟩,q⟩
  |str x=>obtain⟨t,rfl⟩:=rx;exact PySem.P.repr_of_str ⟨.str _,H,I.tok _,⟨_,rfl⟩,q⟩ (bu hk (by decide))
 ·obtain⟨u,rfl,rx⟩:=cY r;cases rx;obtain⟨its,rv,ht,hz'⟩:=I.tuple hq;obtain⟨o,ho,hc,n,hd⟩:=id ht;have hT:s.TypeIs (.ref a) "tuple":=⟨o,ho,hc⟩
  have R:=wE I (as:=(is.map Rp.ad).flatten) hat (λi hi b hb=>qh1_.mpr ⟨i.ad,qd_.mpr ⟨i,hi,rfl⟩,hb⟩) rv;have na:a∉(is.map Rp.ad).flatten:=λz=>by
   obtain⟨l,hl,hb⟩:=qh1_.mp z;obtain⟨i,hi,rfl⟩:=qd_.mp hl;exact hne i hi hb
  refine Calls.call_function_entry F.kind_repr F.plain_repr F.entry_repr (F.args_repr1 _) ?_;unfold Builtin.«repr»;have u1:X.A.in1.units=X.A.units+1:=rfl;refine af (m:=oneArg "repr" _) (ao (af (wpAny_cRoomFor (by rw[u1];omega) ?_)));refine af (wpAny_specialOf (name:=Str.ofString "__repr__") hT F.slot_tuple_repr.lookup ?_);refine af (m:=callSpecialIfBound? _ (Str.ofString "__repr__")) (wpAny_callSpecialIfBound?_slotG (name:=Str.ofString "__repr__") hT F.slot_tuple_repr (call_tuple_reprK ho hc hd na (by simpa using R) (A:=X.A.in1) (g:=[]) hg (λb _=>Clear.nil b) (by rw[u1];omega) (λ_ _ e=>e) (λh' u tk k=>?_) hz));refine af (wpAny_isInstance (T:="str") (b:=true) rfl isSubtype_str_str (ao ⟨_,rfl,.str _,H,I.kept (t':=tk) k,⟨u,rfl⟩,q⟩))
end
theorem yQ(f:Nat->List Nat):∀n,argBest (λi j=>decide (f i<f j)) n<=n/\∀j,j<=n->f (argBest (λi j=>decide (f i<f j)) n)<=f j
 |0=>⟨bp _,λj hj=>by rw[Nat.le_zero.mp hj];exact pq _⟩
 |n+1=>by
  obtain⟨h1,h2⟩:=yQ f n;show(if decide (f (n+1)<f (argBest _ n))=true then n+1 else argBest _ n)<=n+1/\∀j,j<=n+1->f (if decide (f (n+1)<f (argBest _ n))=true then n+1 else argBest _ n)<=f j;by_cases h:f (n+1)<f (argBest (λi j=>decide (f i<f j)) n)
  ·rw[if_pos (cm h)];refine⟨bp _,λj hj=>?_⟩;rcases oe hj with z|z
   ·exact pk (List.le_of_lt h) (h2 j (by omega))
   ·rw[z];exact pq _
  ·rw[if_neg (λz=>h (gm z))];refine⟨by omega,λj hj=>?_⟩;rcases oe hj with z|z
   ·exact h2 j (by omega)
   ·rw[z];exact qi1_.mp h
theorem yR(f:Nat->List Nat):∀n,argBest (λi j=>decide (f j<f i)) n<=n/\∀j,j<=n->f j<=f (argBest (λi j=>decide (f j<f i)) n)
 |0=>⟨bp _,λj hj=>by rw[Nat.le_zero.mp hj];exact pq _⟩
 |n+1=>by
  obtain⟨h1,h2⟩:=yR f n;show(if decide (f (argBest _ n)<f (n+1))=true then n+1 else argBest _ n)<=n+1/\∀j,j<=n+1->f j<=f (if decide (f (argBest _ n)<f (n+1))=true then n+1 else argBest _ n);by_cases h:f (argBest (λi j=>decide (f j<f i)) n)<f (n+1)
  ·rw[if_pos (cm h)];refine⟨bp _,λj hj=>?_⟩;rcases oe hj with z|z
   ·exact pk (h2 j (by omega)) (List.le_of_lt h)
   ·rw[z];exact pq _
  ·rw[if_neg (λz=>h (gm z))];refine⟨by omega,λj hj=>?_⟩;rcases oe hj with z|z
   ·exact h2 j (by omega)
   ·rw[z];exact qi1_.mp h
theorem rW{l:List Str}{i:Nat}(h:i<l.length):l.getD i ⟨#[]⟩∈l:=by
 rw[ji,cb h];exact j7 h
theorem rT{l:List Str}{a:Str}(h:a∈l):∃j,j<l.length/\l.getD j ⟨#[]⟩=a:=by
 obtain⟨j,hj,e⟩:=qG1_.mp h;exact⟨j,hj,by rw[ji,cb hj];exact e⟩
section
variable{prog:Program}{w:World}{A:Around}{E:Value->Shared->Prop}{s:Shared}{l:Addr}{its:Array Value}{ss:List Str}
theorem Do{P:Nat->Value->Prop}(val:Nat->Str)(hval:∀i v,P i v->∃t,v=.str (val i) t):CmpOf prog w A .Lt P (λi j=>decide ((val i).cps.toList<(val j).cps.toList)):=λi j vi vj s Q E hi hj h=>by
 obtain⟨t,rfl⟩:=hval i vi hi;obtain⟨u,rfl⟩:=hval j vj hj;exact richCompare_gives (op:=.Lt) (typeIs_str s _ t) (typeIs_str s _ u) F.slot_str_lt F.entry_str_lt (F.args_str_lt_2 _ _) (gives_str_lt _ _ t u) (λx=>nomatch x) h
theorem Dn{P:Nat->Value->Prop}(val:Nat->Str)(hval:∀i v,P i v->∃t,v=.str (val i) t):CmpOf prog w A .Gt P (λi j=>decide ((val j).cps.toList<(val i).cps.toList)):=λi j vi vj s Q E hi hj h=>by
 obtain⟨t,rfl⟩:=hval i vi hi;obtain⟨u,rfl⟩:=hval j vj hj;exact richCompare_gives (op:=.Gt) (typeIs_str s _ t) (typeIs_str s _ u) F.slot_str_gt F.entry_str_gt (F.args_str_gt_2 _ _) (gives_str_gt _ _ t u) (λx=>nomatch x) h
theorem DI{Q:Value->Shared->Prop}(hl:s.heap.IsList l its)
  (h:∀s₂:Shared,s₂={s with heap:=s.heap.push {cls:=.type "list_iterator",data:=.fields #[.ref l,.int 0 0]}} ->
   (s₂.heap.IsListIter s.heap.objs.size l 0/\s₂.heap.IsList l its)->(∀b∈[s.heap.objs.size,l],b<s₂.heap.objs.size)->l≠s.heap.objs.size->Q (.ref s.heap.objs.size) s₂):
  wpAny (model prog w) A (pyIter (.ref l)) Q E s:=by
 have hlt:l<s.heap.objs.size:=by obtain⟨_,e,_⟩:=hl;exact b5 e
 refine wpAny_pyIter_list hl (h _ rfl ⟨⟨_,cy _ rfl,rfl,rfl⟩,hl.push _⟩ (λb hb=>?_) (cz hlt));show b<(s.heap.push _).objs.size;rw[d_];simp only[qk_,fb,or_false]at hb;rcases hb with z|z
 ·rw[z];exact mn _
 ·rw[z];exact jq hlt
theorem Lz{Q:Value->Shared->Prop}(hh:A.handled=none)(hl:s.heap.IsList l its)(hi:StrsAre its.toList ss)(hne:0<ss.length)
  (h:∀x t h' tk,x∈ss->(∀y∈ss,x.cps.toList<=y.cps.toList)->(∀b o,s.heap.get? b=some o->h'.get? b=some o)->Q (.str x t) {s with heap:=h',toks:=tk}):
  wpAny (model prog w) A (call (.builtin "min") [.ref l]) Q E s:=by
 have hsz:its.size=ss.length:=by rw[<-fc,iY hi]
 refine call_min_walk (DI hl λs₂ e st hfp hlI=>?_);subst e;refine⟨_,_,_,_,_,_,_,rfl,Walks.list (A:=A.in1) hh _ l hlI its,st,hfp,by omega,Do (λi=>ss.getD i ⟨#[]⟩) (λi v hv=>iH hi i v (by rw[h_];exact hv)),λv h' tk hP hk=>?_⟩;obtain⟨t,rfl⟩:=iH hi _ v (by rw[h_];exact hP);obtain⟨b1,b2⟩:=yQ (λi=>(ss.getD i ⟨#[]⟩).cps.toList) (its.size-1);refine h _ t h' tk (rW (by omega)) (λy hy=>?_) (old_kept hk);obtain⟨j,hj,rfl⟩:=rT hy;exact b2 j (by omega)
theorem L_{Q:Value->Shared->Prop}(hh:A.handled=none)(hl:s.heap.IsList l its)(hi:StrsAre its.toList ss)(hne:0<ss.length)
  (h:∀x t h' tk,x∈ss->(∀y∈ss,y.cps.toList<=x.cps.toList)->(∀b o,s.heap.get? b=some o->h'.get? b=some o)->Q (.str x t) {s with heap:=h',toks:=tk}):
  wpAny (model prog w) A (call (.builtin "max") [.ref l]) Q E s:=by
 have hsz:its.size=ss.length:=by rw[<-fc,iY hi]
 refine call_max_walk (DI hl λs₂ e st hfp hlI=>?_);subst e;refine⟨_,_,_,_,_,_,_,rfl,Walks.list (A:=A.in1) hh _ l hlI its,st,hfp,by omega,Dn (λi=>ss.getD i ⟨#[]⟩) (λi v hv=>iH hi i v (by rw[h_];exact hv)),λv h' tk hP hk=>?_⟩;obtain⟨t,rfl⟩:=iH hi _ v (by rw[h_];exact hP);obtain⟨b1,b2⟩:=yR (λi=>(ss.getD i ⟨#[]⟩).cps.toList) (its.size-1);refine h _ t h' tk (rW (by omega)) (λy hy=>?_) (old_kept hk);obtain⟨j,hj,rfl⟩:=rT hy;exact b2 j (by omega)
end
section
variable{X:Cx}
theorem CA(hc:X.calm=true):au X (.builtin "min") (λxs H Q=>∃(p:Addr) (ss:List Str),xs=[.ref p]/\b_ X.K H p (ss.map V.str)/\0<ss.length/\∀x,x∈ss->(∀y∈ss,x.cps.toList<=y.cps.toList)->Q (.str x) H):=by
 intro Pp s σ H xs us Q I r h;obtain⟨p,ss,rfl,hq,hn,q⟩:=h;obtain⟨u,rfl,rx⟩:=cY r;cases rx;obtain⟨its,rv,pl,hz⟩:=I.list hq;refine Lz (I.ok.hd hc) pl.isList (kE rv) hn λx t h' tk h1 h2 hk=>?_
 exact⟨.str _,H,I.kept hk,⟨t,rfl⟩,q _ h1 h2⟩
theorem Cz(hc:X.calm=true):au X (.builtin "max") (λxs H Q=>∃(p:Addr) (ss:List Str),xs=[.ref p]/\b_ X.K H p (ss.map V.str)/\0<ss.length/\∀x,x∈ss->(∀y∈ss,y.cps.toList<=x.cps.toList)->Q (.str x) H):=by
 intro Pp s σ H xs us Q I r h;obtain⟨p,ss,rfl,hq,hn,q⟩:=h;obtain⟨u,rfl,rx⟩:=cY r;cases rx;obtain⟨its,rv,pl,hz⟩:=I.list hq;refine L_ (I.ok.hd hc) pl.isList (kE rv) hn λx t h' tk h1 h2 hk=>?_
 exact⟨.str _,H,I.kept hk,⟨t,rfl⟩,q _ h1 h2⟩
end
end L2
namespace L2
open PySem PySem.Spec PyProof.Rows
open PySem PySem.Spec PyProof.Rows
section
variable{κ:Type}[DecidableEq κ]
noncomputable def fD(kvs:List (κ×V))(k:κ):Option V:=(kvs.find? λkv=>decide (kv.1=k)).map (·.2)
noncomputable def eE(kvs:List (κ×V))(k:κ)(v:V):List (κ×V):=
 if (kvs.any λkv=>decide (kv.1=k))=true then kvs.map (λkv=>if kv.1=k then(kv.1,v) else kv) else kvs++[(k,v)]
theorem sB{p:κ×V}{r:List (κ×V)}{k:κ}(e:p.1=k):fD (p::r) k=some p.2:=by simp[fD,fg,e]
theorem sC{p:κ×V}{r:List (κ×V)}{k:κ}(e:¬ p.1=k):fD (p::r) k=fD r k:=by simp[fD,fg,e]
theorem sD(k:κ):∀kvs:List (κ×V),(kvs.any λkv=>decide (kv.1=k))=(fD kvs k).isSome
 |[]=>rfl
 |p::r=>by
  rw[ie];by_cases e:p.1=k
  ·simp only[sB e,cm e,Bool.true_or,Option.isSome_some]
  ·rw[sC e,dq e,pj];exact sD k r
theorem wD(kvs:List (κ×V))(k:κ)(v:V):(eE kvs k v).length<=kvs.length+1:=by
 unfold eE;split
 ·rw[aq];omega
 ·rw[b8,iw,List.length_nil];omega
theorem LQ{kvs:List (κ×V)}{k:κ}(v:V)(h:fD kvs k=none):eE kvs k v=kvs++[(k,v)]:=by
 unfold eE;rw[sD,h];exact if_neg (by decide)
theorem gq.isSome_eq{o:Option V}{u:Option Value}(r:gq o u):o.isSome=u.isSome:=by
 cases o with
 |none=>cases u with
  |none=>rfl
  |some _=>exact(show False from r).elim
 |some _=>cases u with
  |none=>exact(show False from r).elim
  |some _=>rfl
theorem gq.getD{o:Option V}{u:Option Value}{d:V}{d':Value}(r:gq o u)(rd:aj d d'):aj (o.getD d) (u.getD d'):=by
 cases o with
 |none=>cases u with
  |none=>exact rd
  |some _=>exact(show False from r).elim
 |some _=>cases u with
  |none=>exact(show False from r).elim
  |some _=>exact r
theorem KV.val{kvs:List (κ×V)}{vs:List (κ×Value)}(r:KV kvs vs)(k:κ):gq (fD kvs k) (valueAt vs k):=by
 unfold KV at r
 induction r with
 |nil=>exact True.intro
 |@cons p q ps qs h t ih=>
  obtain⟨h1,h2⟩:=h;by_cases e:p.1=k
  ·have e':q.1=k:=h1.symm.trans e;have b:valueAt (q::qs) k=some q.2:=by simp[valueAt,fg,e']
   rw[sB e,b];exact h2
  ·have e':¬ q.1=k:=λz=>e (h1.trans z)
   have b:valueAt (q::qs) k=valueAt qs k:=by simp[valueAt,fg,e']
   rw[sC e,b];exact ih
theorem KV.any{kvs:List (κ×V)}{vs:List (κ×Value)}(r:KV kvs vs)(k:κ):(kvs.any λkv=>decide (kv.1=k))=vs.any λkv=>decide (kv.1=k):=by
 unfold KV at r
 induction r with
 |nil=>rfl
 |cons h t ih=>rw[ie,ie,ih,h.1]
theorem KV.repl{kvs:List (κ×V)}{vs:List (κ×Value)}(r:KV kvs vs)(k:κ){y:V}{u:Value}(ry:aj y u):
  KV (kvs.map λkv=>if kv.1=k then(kv.1,y) else kv) (vs.map λkv=>if kv.1=k then(kv.1,u) else kv):=by
 unfold KV at r ⊢
 induction r with
 |nil=>exact .nil
 |@cons p q ps qs h t ih=>
  rw[d9,d9];refine .cons ?_ ih;obtain⟨h1,h2⟩:=h;by_cases e:p.1=k
  ·rw[if_pos e,if_pos (h1.symm.trans e)];exact⟨h1,ry⟩
  ·rw[if_neg e,if_neg (λz=>e (h1.trans z))];exact⟨h1,h2⟩
theorem KV.put{kvs:List (κ×V)}{vs:List (κ×Value)}(r:KV kvs vs)(k:κ){y:V}{u:Value}(ry:aj y u):KV (eE kvs k y) (stored vs k u):=by
 unfold eE stored;rw[r.any k];by_cases e:(vs.any λkv=>decide (kv.1=k))=true
 ·rw[if_pos e,if_pos e];exact r.repl k ry
 ·rw[if_neg e,if_neg e];exact Paired.snoc r ⟨rfl,ry⟩
theorem KV.length{kvs:List (κ×V)}{vs:List (κ×Value)}(r:KV kvs vs):kvs.length=vs.length:=Paired.length r
end
theorem mH{P:Program}{w:World}{k:ay}{u:Value}(r:aj (kV k) u):(cB P w).is k u=true:=by
 cases k with
 |inl i=>obtain⟨t,e⟩:=(show ∃t,u=Value.int i t from r);subst e;exact NJ P w i t
 |inr x=>obtain⟨t,e⟩:=(show ∃t,u=Value.str x t from r);subst e;exact rB P w x t
theorem CZ{P:Program}{w:World}:∀{ks:List ay}{us:List Value},ak (ks.map kV) us->ItemsAre (cB P w) ks us
 |[],_,r=>by rw[mz]at r;cases r;exact .nil
 |k::ks,_,r=>by
  rw[d9]at r;cases r with
  |cons h t=>exact .cons (mH h) (CZ t)
noncomputable abbrev KT(H:Hp):List (List ay×V)->List (List ay×Addr×Value)->Prop:=Paired λp q=>p.1=q.1/\H q.2.1=some (.tup (p.1.map kV))/\aj p.2 q.2.2
theorem KT.val{H:Hp}{kvs:List (List ay×V)}{xs:List (List ay×Addr×Value)}(r:KT H kvs xs)(k:List ay):gq (fD kvs k) ((atKey xs k).map (·.2)):=by
 induction r with
 |nil=>exact True.intro
 |@cons p q ps qs h t ih=>
  obtain⟨h1,_,h2⟩:=h;by_cases e:p.1=k
  ·have e':q.1=k:=h1.symm.trans e;have b:atKey (q::qs) k=some q.2:=by simp[atKey,fg,e']
   rw[sB e,b];exact h2
  ·have e':¬ q.1=k:=λz=>e (h1.trans z)
   have b:atKey (q::qs) k=atKey qs k:=by simp[atKey,fg,e']
   rw[sC e,b];exact ih
theorem KT.repl{H:Hp}{kvs:List (List ay×V)}{xs:List (List ay×Addr×Value)}(r:KT H kvs xs)(k:List ay){y:V}{u:Value}(ry:aj y u):
  KT H (kvs.map λkv=>if kv.1=k then(kv.1,y) else kv) (xs.map (putAt k u)):=by
 induction r with
 |nil=>exact .nil
 |@cons p q ps qs h t ih=>
  rw[d9,d9];refine .cons ?_ ih;obtain⟨h1,h2,h3⟩:=h;unfold putAt;by_cases e:p.1=k
  ·rw[if_pos e,if_pos (h1.symm.trans e)];exact⟨h1,h2,ry⟩
  ·rw[if_neg e,if_neg (λz=>e (h1.trans z))];exact⟨h1,h2,h3⟩
theorem KT.put{H:Hp}{kvs:List (List ay×V)}{xs:List (List ay×Addr×Value)}(r:KT H kvs xs)(k:List ay){b:Addr}{y:V}{u:Value}(hb:H b=some (.tup (k.map kV)))(ry:aj y u):
  KT H (eE kvs k y) (storedH xs k b u):=by
 have e:(kvs.any λkv=>decide (kv.1=k))=(atKey xs k).isSome:=by
  rw[sD,(r.val k).isSome_eq,qz]
 unfold eE storedH;rw[e];by_cases q:(atKey xs k).isSome=true
 ·rw[if_pos q,if_pos q];exact r.repl k ry
 ·rw[if_neg q,if_neg q];exact Paired.snoc r ⟨rfl,hb,ry⟩
theorem KT.keeps{H H':Hp}{kvs:List (List ay×V)}{xs:List (List ay×Addr×Value)}(r:KT H kvs xs)(ht:∀b ys,H b=some (.tup ys)->H' b=some (.tup ys)):KT H' kvs xs:=
 Paired.mapP r λ_ _ z=>⟨z.1,ht _ _ z.2.1,z.2.2⟩
section
variable{P:Program}{w:World}{H:Hp}{h:Heap}{a:Addr}
theorem yl{u:HO}(ok:d7 P w H h)(e:Rd H a u):a_ P w H h a u:=e.ok ok
theorem kX{kvs:List (ay×V)}(ok:d7 P w H h)(e:Rd H a (.dK kvs)):kvs.length<=sizeLine/\(a==sysModules)=false/\∃vs,KV kvs vs/\h.DictOf (cB P w) a vs:=
 show a_ P w H h a (.dK kvs) from yl ok e
theorem GM{kvs:List (ay×V)}(ok:d7 P w H h)(e:H a=some (.dK kvs)):kvs.length<=sizeLine/\(a==sysModules)=false/\∃vs,KV kvs vs/\h.DictOf (cB P w) a vs:=kX ok (.inl e)
theorem nU{ks:List ay}(ok:d7 P w H h)(e:H a=some (.tup (ks.map kV))):(tupleKind (cB P w)).is h ks a:=by
 obtain⟨_,its,r,o,h1,h2,n,h3⟩:=(show a_ P w H h a (.tup (ks.map kV)) from ok a _ e)
 exact⟨o,its.toArray,n,h1,h2,h3,by simpa using CZ r⟩
theorem mJ{kvs:List (List ay×V)}(ok:d7 P w H h)(e:Rd H a (.dT kvs)):kvs.length<=sizeLine/\(a==sysModules)=false /\
  ∃xs,KT H kvs xs/\h.DictOfH (tupleKind (cB P w)) a xs:=by
 obtain⟨z,y,xs,r,o,es,ep,h1,h2,h3,h4,h5⟩:=(show a_ P w H h a (.dT kvs) from yl ok e)
 refine⟨z,y,xs,r,o,es,ep,h1,h2,h3,h4,λx hx=>?_,h5⟩;have all:∀{l:List (List ay×V)} {m:List (List ay×Addr×Value)},KT H l m->∀x∈m,(tupleKind (cB P w)).is h x.1 x.2.1:=by
  intro l m q
  induction q with
  |nil=>intro x hx;exact nomatch hx
  |@cons p q ps qs hq t ih=>
   intro x hx;rcases qk_.mp hx with e|hx
   ·subst e;exact nU ok (by rw[<-hq.1];exact hq.2.1)
   ·exact ih x hx
 exact all r x hx
theorem GN{kvs:List (List ay×V)}(ok:d7 P w H h)(e:H a=some (.dT kvs)):kvs.length<=sizeLine/\(a==sysModules)=false /\
  ∃xs,KT H kvs xs/\h.DictOfH (tupleKind (cB P w)) a xs:=mJ ok (.inl e)
end
noncomputable def kC(H:Hp)(a:Addr)(y:V)(r:Option V):Prop:=
 (∃kvs k,Rd H a (.dK kvs)/\y=kV k/\r=fD kvs k)\/∃kvs k b,Rd H a (.dT kvs)/\y=.ref b/\H b=some (.tup (k.map kV))/\r=fD kvs k
noncomputable def oz(H:Hp)(a:Addr)(y v:V)(H':Hp):Prop:=
 (∃kvs k,H a=some (.dK kvs)/\y=kV k/\kvs.length<sizeLine/\H'=aw H a (.dK (eE kvs k v))) \/
 ∃kvs k b,H a=some (.dT kvs)/\y=.ref b/\H b=some (.tup (k.map kV))/\kvs.length<sizeLine/\H'=aw H a (.dT (eE kvs k v))
theorem oz.k{H:Hp}{a:Addr}{kvs:List (ay×V)}{k:ay}{v:V}(e:H a=some (.dK kvs))(hl:kvs.length<sizeLine):oz H a (kV k) v (aw H a (.dK (eE kvs k v))):=.inl ⟨kvs,k,e,rfl,hl,rfl⟩
section
variable{X:Cx}{Pp:List (Addr×Obj)}{σ:St}{H:Hp}{s:Shared}{a:Addr}{y v:V}{u r:Value}{o:Option V}{A:Around}{E:Value->Shared->Prop}
theorem Lu{Q:Value->Shared->Prop}(hu:A.units+1<cLine)(I:ag X Pp σ H s)(g:kC H a y (some v))(ry:aj y u)(h:∀w' s',ag X Pp σ H s'->aj v w'->Q w' s'):
  wpAny (model X.prog X.w) A (getItem (.ref a) u) Q E s:=by
 rcases g with⟨kvs,k,e,ey,l⟩|⟨kvs,k,b,e,ey,eb,l⟩
 ·subst ey;obtain⟨z,hd,vs,rel,dd⟩:=kX I.hok e;obtain⟨w',hw,rw'⟩:=gq.some_of (v:=v) (o:=valueAt vs k) (by rw[l];exact rel.val k);exact wpAny_getItem_of (mH ry) dd.mapOf hw (h w' _ (I.tok _) rw')
 ·subst ey;cases (show u=Value.ref b from ry);obtain⟨z,hd,xs,rel,dd⟩:=mJ I.hok e;obtain⟨w',hw,rw'⟩:=gq.some_of (v:=v) (o:=(atKey xs k).map (·.2)) (by rw[l];exact rel.val k);obtain⟨p,hp,hp2⟩:=qf1_.mp hw;refine wpAny_getItem_heap (tupleKind_room_in1 hu) (nU I.hok eb) dd hp ?_;rw[hp2];exact h w' _ (I.tok _) rw'
theorem EO{Q:Value->Shared->Prop}(hu:A.units+1<cLine)(I:ag X Pp σ H s)(g:kC H a y o)(ry:aj y u)(h:∀s',ag X Pp σ H s'->Q (.bool o.isSome) s'):
  wpAny (model X.prog X.w) A (compareOp .In u (.ref a)) Q E s:=by
 rcases g with⟨kvs,k,e,ey,l⟩|⟨kvs,k,b,e,ey,eb,l⟩
 ·subst ey;obtain⟨z,hd,vs,rel,dd⟩:=kX I.hok e;refine wpAny_in_of (mH ry) hd dd.mapOf ?_;rw[<-(rel.val k).isSome_eq,<-l];exact h _ (I.tok _)
 ·subst ey;cases (show u=Value.ref b from ry);obtain⟨z,hd,xs,rel,dd⟩:=mJ I.hok e;refine wpAny_in_heap (tupleKind_room_in1 hu) (nU I.hok eb) hd dd ?_;have q:=(rel.val k).isSome_eq;rw[qz]at q;rw[<-q,<-l];exact h _ (I.tok _)
theorem JM{Q:Value->Shared->Prop}(hu:A.units+1<cLine)(I:ag X Pp σ H s)(g:kC H a y o)(ry:aj y u)(h:∀s',ag X Pp σ H s'->Q (.bool (!o.isSome)) s'):
  wpAny (model X.prog X.w) A (compareOp .NotIn u (.ref a)) Q E s:=by
 rcases g with⟨kvs,k,e,ey,l⟩|⟨kvs,k,b,e,ey,eb,l⟩
 ·subst ey;obtain⟨z,hd,vs,rel,dd⟩:=kX I.hok e;refine wpAny_notIn_of (mH ry) hd dd.mapOf ?_;rw[<-(rel.val k).isSome_eq,<-l];exact h _ (I.tok _)
 ·subst ey;cases (show u=Value.ref b from ry);obtain⟨z,hd,xs,rel,dd⟩:=mJ I.hok e;refine wpAny_notIn_heap (tupleKind_room_in1 hu) (nU I.hok eb) hd dd ?_;have q:=(rel.val k).isSome_eq;rw[qz]at q;rw[<-q,<-l];exact h _ (I.tok _)
theorem An{h':Heap}{t':Nat}{ob:HO}(I:ag X Pp σ H s)(mu:t5 (H a))(hs:Heap.SameBut a s.heap h')(he:∃q,h'.get? a=some q)(new:a_ X.prog X.w (aw H a ob) h' a ob):
  ag X Pp σ (aw H a ob) {s with heap:=h',toks:=t'}:=
 I.write (x:=a) (e:=a) mu (.inl rfl) (λb q hb z=>(hs.2 b hb).trans z) he new
theorem IJ{P:Program}{w:World}{H':Hp}{h':Heap}{kvs:List (ay×V)}{vs:List (ay×Value)}(z:kvs.length<=sizeLine)(hd:(a==sysModules)=false)(rel:KV kvs vs)(dd:h'.DictOf (cB P w) a vs):
  a_ P w H' h' a (.dK kvs):=⟨z,hd,vs,rel,dd⟩
theorem Lv{H':Hp}{Q:Unit->Shared->Prop}(hu:A.units+1<cLine)(I:ag X Pp σ H s)(g:oz H a y v H')(ry:aj y u)(rv:aj v r)(h:∀s',ag X Pp σ H' s'->Q () s'):
  wpAny (model X.prog X.w) A (setItem (.ref a) u r) Q E s:=by
 rcases g with⟨kvs,k,e,ey,l,eH⟩|⟨kvs,k,b,e,ey,eb,l,eH⟩
 ·subst ey eH;obtain⟨z,hd,vs,rel,dd⟩:=GM I.hok e;have hz:vs.length<=sizeLine:=by rw[<-rel.length];exact z
  have hl:(eE kvs k v).length<=sizeLine:=by have:=wD kvs k v;omega
  refine wpAny_setItem_pairs (hsz:=hz) (mH ry) dd λh' dd' hs=>h _ ?_
  have he:∃q,h'.get? a=some q:=let ⟨q,_,_,hq,_⟩:=dd';⟨q,hq⟩;exact An I (by rw[e];exact True.intro) hs he (IJ hl hd (rel.put k rv) dd')
 ·subst ey eH;cases (show u=Value.ref b from ry);obtain⟨z,hd,xs,rel,dd⟩:=GN I.hok e;have hz:xs.length<=sizeLine:=by rw[<-Paired.length rel];exact z
  have hl:(eE kvs k v).length<=sizeLine:=by have:=wD kvs k v;omega
  refine wpAny_setItem_heap (hsz:=hz) (tupleKind_room_in1 hu) (nU I.hok eb) dd λh' dd' hs=>h _ ?_
  obtain⟨q,es,ep,hq,h2,h3,h4,_,h5⟩:=dd';refine An I (by rw[e];exact True.intro) hs ⟨q,hq⟩ ⟨hl,hd,_,(rel.put k eb rv).keeps λc ys ec=>?_,q,es,ep,hq,h2,h3,h4,h5⟩;rw[bU (GV ec e (λz=>nomatch z))];exact ec
end
section
variable{X:Cx}{Pp:List (Addr×Obj)}{σ:St}{H:Hp}{s:Shared}{a:Addr}{kvs:List (ay×V)}{k:ay}{u:Value}{A:Around}{E:Value->Shared->Prop}
theorem Ht{Q:Value->Shared->Prop}(I:ag X Pp σ H s)(e:Rd H a (.dK kvs))(h:∀t s',ag X Pp σ H s'->Q (.int kvs.length t) s'):wpAny (model X.prog X.w) A (call (.builtin "len") [.ref a]) Q E s:=by
 obtain⟨z,hd,vs,rel,dd⟩:=kX I.hok e;refine call_len_dict hd dd (by rw[<-rel.length];rw[sizeLine_eq]at z;omega) ?_;rw[<-rel.length];exact h _ _ (I.tok _)
end
theorem ND{X:Cx}{Pp:List (Addr×Obj)}{σ:St}{H:Hp}{s:Shared}{a:Addr}{y:V}{o:Option V}(I:ag X Pp σ H s)(g:kC H a y o):s.TypeIs (.ref a) "dict":=by
 rcases g with⟨kvs,k,e,_,_⟩|⟨kvs,k,b,e,_,_,_⟩
 ·obtain⟨_,_,vs,_,dd⟩:=kX I.hok e;exact dd.typeIs
 ·obtain⟨_,_,xs,_,dd⟩:=mJ I.hok e;exact dd.typeIs
noncomputable def Gu(td ty tv:TE):TS:=λD σ H=>tv σ H λv H1=>td σ H1 λx H2=>ty σ H2 λy H3=>∃a H4,x=.ref a/\oz H3 a y v H4/\D.nx σ H4
section
variable{X:Cx}{o i e value:Expr}{pos pos' tpos:Pos}{td ty tv:TE}
theorem K3(hu:X.A.units+1<cLine)(ho:PE X o td)(hi:PE X i ty)(hv:PE X value tv)(hs:swapsWith value (some (.Subscript o i pos')) pos.line X.env=pure false):
  PS X (.Assign [.Subscript o i pos'] value pos) (Gu td ty tv):=by
 intro Pp s σ H D I h;refine wpAny_Assign_Subscript (bj (hv Pp s σ H _ I h) λr s1 ⟨v,H1,I1,rv,q1⟩=>bj (ho Pp s1 σ H1 _ I1 q1) λu s2 ⟨x,H2,I2,rx,q2⟩=>bj (hi Pp s2 σ H2 _ I2 q2) λiv s3 ⟨y,H3,I3,ry,a,H4,ex,g,q3⟩=>?_) hs;subst ex;obtain rfl:u=Value.ref a:=rx;exact Lv hu I3 g ry rv λs4 I4=>⟨σ,H4,I4,q3⟩
end
noncomputable def mB(kvs more:List (ay×V)):List (ay×V):=more.foldl (λacc kv=>eE acc kv.1 kv.2) kvs
theorem DD:∀(more kvs:List (ay×V)),(mB kvs more).length<=kvs.length+more.length
 |[],kvs=>by show kvs.length<=kvs.length+0;omega
 |p::r,kvs=>by
  have h1:=DD r (eE kvs p.1 p.2);have h2:=wD kvs p.1 p.2;show(mB (eE kvs p.1 p.2) r).length<=_;rw[iw];omega
structure M2 (X:Cx) (o:Expr) (m:Str) (Pw:Pos) (e f:Expr) (Pq:Pos):Prop where
 base:attributeBase o m X.env (eval o X.env)=eval o X.env
 few:((backTo Pq (starEach [e,f] X.env)).all (λx=>!x.1)&&(backToKw Pq (keywordEach [] X.env)).all (λx=>x.1.isSome)
  && decide (([e,f]:List Expr).length+([]:List Keyword).length+(if ([]:List Keyword).isEmpty then 0 else 1)<30))=true
 line:(Pw.endLine==Pq.line)=true
 trees:backTo Pq (starEach [e,f] X.env)=[(false,eval e X.env),(false,eval f X.env)]
noncomputable def D8(H:Hp)(a:Addr):Prop:=(∃kvs,Rd H a (.dK kvs))\/∃kvs,Rd H a (.dT kvs)
theorem Ib{X:Cx}{Pp:List (Addr×Obj)}{σ:St}{H:Hp}{s:Shared}{a:Addr}(I:ag X Pp σ H s)(d:D8 H a):
  s.TypeIs (.ref a) "dict"/\(∀b,Value.ref a=.ref b->∃ob,s.heap.get? b=some ob/\ob.dict=none)/\(a==sysModules)=false:=by
 rcases d with⟨kvs,e⟩|⟨kvs,e⟩
 ·obtain⟨_,hd,vs,_,dd⟩:=kX I.hok e;refine⟨dd.typeIs,λb q=>?_,hd⟩;cases q;obtain⟨ob,_,_,h1,h2,_⟩:=dd;exact⟨ob,h1,h2.2.1⟩
 ·obtain⟨_,hd,xs,_,dd⟩:=mJ I.hok e;refine⟨dd.typeIs,λb q=>?_,hd⟩;cases q;obtain⟨ob,_,_,h1,h2,_⟩:=dd;exact⟨ob,h1,h2.2.1⟩
section
variable{X:Cx}{Pp:List (Addr×Obj)}{σ:St}{H:Hp}{s:Shared}{a:Addr}{y d:V}{u r:Value}{o:Option V}{A:Around}{E:Value->Shared->Prop}
theorem II{Q:Value->Shared->Prop}(hu:A.units+1<cLine)(I:ag X Pp σ H s)(g:kC H a y o)(ry:aj y u)(rd:aj d r)(h:∀w' s',ag X Pp σ H s'->aj (o.getD d) w'->Q w' s'):
  wpAny (model X.prog X.w) A (call (.builtin "dict.get") [.ref a,u,r]) Q E s:=by
 rcases g with⟨kvs,k,e,ey,l⟩|⟨kvs,k,b,e,ey,eb,l⟩
 ·subst ey;obtain⟨z,hd,vs,rel,dd⟩:=kX I.hok e;refine call_meetsIn PySem.F.slot_dict_get dd.typeIs PySem.F.entry_dict_get (PySem.F.args_dict_get_3 _ _ _) (meets_dict_get_default (cB X.prog X.w) a (mH ry) hd r) ⟨_,dd.mapOf,h _ _ (I.tok _) ?_⟩;rw[l];exact(rel.val k).getD rd
 ·subst ey;cases (show u=Value.ref b from ry);obtain⟨z,hd,xs,rel,dd⟩:=mJ I.hok e;refine call_meetsIn PySem.F.slot_dict_get dd.typeIs PySem.F.entry_dict_get (PySem.F.args_dict_get_3 _ _ _) (meetsH_dict_get_default (tupleKind (cB X.prog X.w)) a b hd r) ⟨tupleKind_room_in1 hu,k,xs,nU I.hok eb,dd,h _ _ (I.tok _) ?_⟩;rw[l];exact(rel.val k).getD rd
end
noncomputable def Jr(td ty tx:TE):TE:=λσ H Q=>td σ H λx H1=>∃a,x=.ref a/\D8 H1 a/\ty σ H1 λy H2=>tx σ H2 λz H3=>∃o,kC H3 a y o/\Q (o.getD z) H3
section
variable{X:Cx}{o e f:Expr}{Pw Pq:Pos}{td ty tx:TE}
theorem LG(hu:X.A.units+1<cLine)(ho:PE X o td)(he:PE X e ty)(hf:PE X f tx)(m:M2 X o "get" Pw e f Pq):PE X (.Call (.Attribute o "get" Pw) [e,f] [] Pq) (Jr td ty tx):=by
 intro Pp s σ H Q I h;refine wpAny_Call_method m.base m.few m.line PySem.F.plainAttrs_dict PySem.F.slot_dict_get PySem.F.type_dict_get (bj (ho Pp s σ H _ I h) λu s1 ⟨x,H1,I1,rx,a,ex,d,q1⟩=>?_);subst ex;obtain rfl:u=Value.ref a:=rx;obtain⟨t1,t2,_⟩:=Ib I1 d;refine⟨t1,t2,?_⟩;rw[m.trees]
 refine Calls.callWith_builtin rfl (Calls.evalArgs_plain (Calls.spliced_cons (bj (he Pp s1 σ H1 _ I1 q1) λiv s2 ⟨y,H2,I2,ry,q2⟩=>
  Calls.spliced_cons (bj (hf Pp s2 σ H2 _ I2 q2) λfv s3 ⟨z,H3,I3,rz,ov,g,q3⟩=>Calls.spliced_nil ?_))))
 exact II hu I3 g ry rz λw' s4 I4 rw'=>⟨_,H3,I4,rw',q3⟩
end
section
variable{κ:Type}[DecidableEq κ]
theorem KU{kvs:List (κ×V)}{k:κ}{v:V}(h:fD kvs k=some v):k∈kvs.map (·.1):=by
 have q:(kvs.any λkv=>decide (kv.1=k))=true:=by
  rw[sD,h]
  all_goals rfl
 obtain⟨p,hp,e⟩:=qA_.mp q;exact qd_.mpr ⟨p,hp,gm e⟩
end
end L2
namespace L2
open PySem PySem.Spec PyProof.Rows
noncomputable def qd(H:Hp)(a:Addr)(ob:Obj)(kvs:List (ay×V)):Prop:=H a=some (.frz ob (.dK kvs))
theorem qA{kvs:List (ay×V)}{vs:List (ay×Value)}(r:KV kvs vs):kvs.length=vs.length:=Paired.length r
theorem AD:∀{kvs:List (ay×V)}{vs:List (ay×Value)}{i:Nat}{k:ay}{v:V},KV kvs vs->kvs[i]?=some (k,v)->∃u,vs[i]?=some (k,u)/\aj v u
 |_,_,0,_,_,.cons (b:=b) r _,h=>by
  cases h;obtain⟨e,r⟩:=r;exact⟨b.2,by show some b=_;rw[show b=(b.1,b.2) from rfl,<-e],r⟩
 |_,_,i+1,_,_,.cons _ rs,h=>AD (i:=i) rs (by simpa using h)
theorem I_{k:ay}{u:Value}(h:kU k u=true):aj (kV k) u:=by
 rcases iD h with⟨i,t,rfl,rfl⟩|⟨x,t,rfl,rfl⟩
 ·exact⟨t,rfl⟩
 ·exact⟨t,rfl⟩
section
variable{X:Cx}{Pp:List (Addr×Obj)}{σ:St}{H:Hp}{s:Shared}{a:Addr}{ob:Obj}{kvs:List (ay×V)}
theorem pM(I:ag X Pp σ H s)(h:qd H a ob kvs):s.heap.get? a=some ob/\(a==sysModules)=false/\kvs.length<=sizeLine/\∃vs es ep,KV kvs vs/\s.heap.DictAt (cB X.prog X.w) a vs ep/\ob.data=.dict es ep:=by
 obtain⟨e,hl,hs,vs,r,o,es,ep,e',x1,x2,x3⟩:=(show a_ X.prog X.w H s.heap a (.frz ob (.dK kvs)) from I.hok a _ h)
 rw[e]at e';cases e';exact⟨e,hs,hl,vs,es,ep,r,⟨ob,es,e,x1,x2,x3⟩,x2⟩
end
noncomputable def w4(a:Addr)(ob:Obj)(kvs:List (ay×V)):It:=
 ⟨λi H=>qd H a ob kvs/\i<kvs.length,λi H x H'=>H'=H/\∃k v,kvs[i]?=some (k,v)/\x=kV k,λi H=>qd H a ob kvs/\kvs.length<=i⟩
theorem Md{P:Program}{w:World}{K:W.Frag}{tg:Expr}{a it:Addr}{ob:Obj}{kvs:List (ay×V)}{es:Array DictEntry}{ep:Nat}(hep:ob.data=.dict es ep):
  lG P w K tg (w4 a ob kvs) [it] it (λi h=>h.IsKeyIter it a i kvs.length ep) where
 mem:=by simp
 obj:=λi h st b hb=>by
  have e:b=it:=by simpa using hb
  subst e;obtain⟨o,e,c,d⟩:=st;exact⟨o,e,λv z=>by rw[d]at z;cases z⟩
 keep:=λi h h' st k=>st.at λo e=>k it (by simp) o e
 item:=by
  intro X hP hw hK hc i Pp s σ H E I hf st hg;subst hP hw hK;obtain⟨hz,hi⟩:=hg;obtain⟨e,hs,hl,vs,es',ep',r,dd,hd'⟩:=pM I hz;rw[hep]at hd';cases hd';obtain⟨f0,f1,f2,f3,f4,f5⟩:=hf it (by simp);obtain⟨⟨k,v⟩,hx⟩:∃p,kvs[i]?=some p:=⟨kvs[i],by simp[hi]⟩
  obtain⟨u,hu,ru⟩:=AD r hx;have st':s.heap.IsKeyIter it a i vs.length ep:=by rw[<-qA r];exact st
  refine wpAny_pyNext_dict_item st' dd hu λkey h' hkey hit' sb=>?_
  have I1:ag X Pp σ H {s with heap:=h'}:=I.turned (t':=s.toks) (λb o hb e=>(sb.2 b hb).trans e) f0 f1 f3 f4 f5;obtain⟨o,e,c,d⟩:=id hit';exact⟨key,rfl,nZ (s:={s with heap:=h'}) e c d (by decide) ⟨kV k,H,I1,I_ hkey,⟨rfl,k,v,hx,rfl⟩,by rw[qA r];exact hit',λb hb=>(hf b hb).1⟩⟩
 done:=by
  intro X hP hw hK hc i Pp s σ H E I hf st hg;subst hP hw hK;obtain⟨hz,hi⟩:=hg;obtain⟨e,hs,hl,vs,es',ep',r,dd,hd'⟩:=pM I hz;rw[hep]at hd';cases hd';obtain⟨f0,f1,f2,f3,f4,f5⟩:=hf it (by simp);have st':s.heap.IsKeyIter it a i vs.length ep:=by rw[<-qA r];exact st
  have hn:vs[i]?=none:=oh (by rw[<-qA r];exact hi);exact wpAny_pyNext_dict_end (I.ok.hd hc) st' dd hn λh' eb=>⟨rfl,I.turned (t':=s.toks) (λb o hb e=>eb b o hb e) f0 f1 f3 f4 f5⟩
 self:=λ_ _ _ _ _ st h=>wpAny_pyIter_keyiter st h
theorem Ng{prog:Program}{w:World}:∀{kvs:List (ay×Value)}{us:List Str}{acc:Array Value},kvs.map (·.1)=us.map Sum.inr ->
  ItemsOf (λi v=>∃k x,kvs[i]?=some (k,x)/\(cB prog w).is k v=true) acc kvs.length->StrsAre acc.toList us:=by
 intro kvs us acc hk h;obtain⟨hn,hp⟩:=h;have key:∀(us:List Str) (l:List Value) (kvs:List (ay×Value)),kvs.map (·.1)=us.map Sum.inr->l.length=kvs.length->(∀(j:Nat) (v:Value),l[j]?=some v->∃k x,kvs[j]?=some (k,x)/\(cB prog w).is k v=true)->StrsAre l us:=by
  intro us
  induction us with
  |nil=>
   intro l kvs hk hl _;have:kvs=[]:=by simpa using hk
   subst this;have:l=[]:=kl hl;subst this;exact .nil
  |cons y ys ih=>
   intro l kvs hk hl hp;cases kvs with
   |nil=>simp at hk
   |cons p kvs=>
    cases l with
    |nil=>simp at hl
    |cons v l=>
     simp only[d9,List.cons.injEq]at hk;obtain⟨k,x,e,q⟩:=hp 0 v rfl;have e:p=(k,x):=by simpa using e
     subst e;have hk1:k=Sum.inr y:=hk.1;subst hk1;rcases iD (show kU (Sum.inr y) v=true from q) with⟨i,t,z,_⟩|⟨z,t,e1,rfl⟩
     ·cases z
     ·cases e1;exact .cons _ _ (ih l kvs hk.2 (by simpa using hl) λj v hj=>hp (j+1) v hj)
 refine key us acc.toList kvs hk (by simpa using hn) λj v hj=>hp j v (by simpa using hj)
section
variable{prog:Program}{w:World}{A:Around}{E:Value->Shared->Prop}{s:Shared}{a:Addr}{us:List Str}
theorem Jp:isSubtype (.type "dict") (.type "dict")=pure true:=by rw[isSubtype_type];kernel_rfl
theorem Le{Q:Bool->Shared->Prop}(ht:s.TypeIs (.ref a) "dict")(h:Q false s):wpAny (model prog w) A (Builtin.List.listLengthHint (.ref a)) Q E s:=by
 unfold Builtin.List.listLengthHint;refine af (wpAny_specialOf ht PySem.F.slot_dict_len.lookup ?_);have e1:splitId "dict.__len__"=some ("dict","__len__"):=by decide +kernel
 dsimp only;rw[e1];dsimp only;refine af (wpAny_isInstance ht Jp ?_);simp only[Bool.not_true,n_,if_false];refine wpAny_ite ?_;rw[if_pos (by decide +kernel)];refine af (wpAny_typeOf ht ?_);exact ao h
theorem Nt{kvs:List (ay×Value)}{ep:Nat}{Q:List Value->Shared->Prop}(hh:A.handled=none)(hsm:(a==sysModules)=false)(S:s.heap.DictAt (cB prog w) a kvs ep)(hks:kvs.map (·.1)=us.map Sum.inr)(hl:us.length<=sizeLine)
  (hQ:∀h' d tk (acc:List Value) vs,StrsAre acc vs->vs.Perm us->s.heap.objs.size<h'.objs.size->(∀b o,s.heap.get? b=some o->h'.get? b=some o)->Q acc {s with heap:=h',drawn:=d,toks:=tk}):
  wpAny (model prog w) A (collect (.ref a)) Q E s:=by
 have alt:a<s.heap.objs.size:=S.lt_size;have hkl:kvs.length=us.length:=by have:=congrArg List.length hks;simpa using this
 unfold collect;refine af (wpAny_runValue (i_ F.entry_proto_collect ?_));rw[jj F.plain_proto_collect _];show wpAny _ A.in1 (newList [] >>= λl=>again (.builtin "list.__iadd__" ⟨[l,.ref a],[]⟩)) _ _ s;refine af (gh ?_ (by size_fits));refine ao ⟨plainId_quiet F.plain_list_iadd _,i_ F.entry_list_iadd ?_⟩;rw[jj F.plain_list_iadd _];show wpAny _ A.in1 (Builtin.List.listExtendWith (.ref s.heap.objs.size) (.ref a) (.ref s.heap.objs.size)) _ _ _;unfold Builtin.List.listExtendWith;have S1:=S.push {cls:=.type "list",data:=.seq ([]:List Value).toArray};have ht:Shared.TypeIs {s with heap:=s.heap.push {cls:=.type "list",data:=.seq ([]:List Value).toArray}} (.ref a) "dict":=S1.dictOf.typeIs;refine af (wpAny_typeOf ht ?_);have h1:Builtin.List.listSameRef (.ref s.heap.objs.size) (.ref a)=false:=by simp[Builtin.List.listSameRef];exact j0 alt
 have h2:(Value.type "dict"==Value.type "list")=false:=by decide
 have h3:(Value.type "dict"==Value.type "tuple")=false:=by decide
 simp only[h1,h2,h3,ku,n_,if_false];refine af (wpAny_pyIter_dict hsm S1 ?_);generalize hh':((s.heap.push {cls:=.type "list",data:=.seq ([]:List Value).toArray}).push {cls:=.type "dict_keyiterator",data:=.fields #[.ref a,.int 0 0,.int kvs.length 0,.int ep 0]})=h';have sz1:(s.heap.push {cls:=.type "list",data:=.seq ([]:List Value).toArray}).objs.size=s.heap.objs.size+1:=d_ ..;have kp:∀b o,(s.heap.push {cls:=.type "list",data:=.seq ([]:List Value).toArray}).get? b=some o->h'.get? b=some o:=λb o e=>by rw[<-hh'];exact b6 _ e
 have ht':Shared.TypeIs {s with heap:=h'} (.ref a) "dict":=by
  obtain⟨o,e,c⟩:=ht;exact⟨o,kp _ _ e,c⟩
 have st0:h'.IsKeyIter (s.heap.objs.size+1) a 0 kvs.length ep/\h'.DictAt (cB prog w) a kvs ep:=by
  refine⟨⟨{cls:=.type "dict_keyiterator",data:=.fields #[.ref a,.int 0 0,.int kvs.length 0,.int ep 0]},?_,rfl,rfl⟩,S1.keep kp⟩;rw[<-hh',<-sz1];exact cy _ rfl
 rw[sz1];refine af (i5 (Le ht' ?_));have hA:A.in1.handled=none:=by simp[hh]
 have W:=(Walks.dictKeys (prog:=prog) (w:=w) (A:=A.in1) (knd:=cB prog w) hA (s.heap.objs.size+1) a (λz=>absurd alt (by rw[z];exact qC2_.mpr (jr _))) kvs ep).toS;refine wpAny_ite ?_;rw[if_pos (by decide +kernel)];refine af (wpAny_rule ?_);have g0:h'.get? s.heap.objs.size=some {cls:=.type "list",data:=.seq ([]:List Value).toArray}:=kp _ _ (cy _ rfl);have nf:s.heap.objs.size∉[s.heap.objs.size+1,a]:=λm=>by
  simp only[qk_,fb,or_false]at m;rcases m with z|z
  ·omega
  ·rw[<-z]at alt;exact g_ _ alt
 refine af ?_;show wpAny _ A.in1 (updateSeq s.heap.objs.size (·.push .none) >>= λ_=>updateSeq s.heap.objs.size (·.pop)) _ _ _;refine af (wpAny_updateSeq g0 rfl ?_);have g1:=fu (Obj.mapSeq (·.push Value.none)) g0 rfl;refine wpAny_updateSeq g1 rfl ?_;have g2:=fu (Obj.mapSeq (·.pop)) g1 rfl;have oth:∀b o,b≠s.heap.objs.size->h'.get? b=some o->((h'.update s.heap.objs.size (Obj.mapSeq (·.push Value.none))).update s.heap.objs.size (Obj.mapSeq (·.pop))).get? b=some o:=
  λb o hb e=>(mw _ _ (Ne.symm hb)).trans ((mw _ _ (Ne.symm hb)).trans e)
 refine ao ⟨plainId_quiet F.plain_extend_loop _,codeAny_extend_loopS W (by rw[hkl];exact hl) _ nf _ kvs.length 0 _ _ _ rfl (d8 _)
  (W.frame 0 {s with heap:=h'} _ s.toks st0 (bp _) λb hb o e=>oth b o (λz=>nf (z▸hb)) e) g2 (ItemsOf.nil _) λs' acc' c' hm g' hacc=>?_⟩
 show wpAny _ A (load s.heap.objs.size >>= _) _ _ s';refine af (wpAny_load g' ?_);have hs:=Ng hks hacc;obtain⟨h'',g'',d'',tk'',os''⟩:=s';have e1:g''=s.gens:=hm.gens;have e2:os''=s.os:=hm.os;subst e1 e2;refine ao (hQ h'' d'' tk'' acc'.toList us hs (List.Perm.refl _) (b5 g') λb o e=>hm.heap b o (λm=>?_) (oth b o (cz (b5 e)) (kp b o (b6 _ e))));have lt:=b5 e;simp only[qk_,fb,or_false]at m;rcases m with m|m
 ·rw[m]at lt;exact g_ _ lt
 ·rw[m]at lt;exact absurd lt (qC2_.mpr (jr _))
theorem Nr{kvs:List (ay×Value)}{ep:Nat}{Q:Value->Shared->Prop}(hh:A.handled=none)(hsm:(a==sysModules)=false)(S:s.heap.DictAt (cB prog w) a kvs ep)(hks:kvs.map (·.1)=us.map Sum.inr)(h64:us.length<64)
  (h:∀h' d tk (l:Addr) (out:List Value) (ss:List Str) (e:Nat),StrsAre out ss->ss.Perm us->sortedS ss=true->h'.get? l=some (seqObj "list" out.toArray e)->s.heap.objs.size<=l->(∀b o,s.heap.get? b=some o->h'.get? b=some o) ->
   Q (.ref l) {s with heap:=h',drawn:=d,toks:=tk}):wpAny (model prog w) A (call (.builtin "sorted") [.ref a]) Q E s:=by
 refine Calls.call_function_entry kind_sorted plain_sorted entry_sorted (args_sorted1 _) ?_;unfold Builtin.«sorted»;refine af (m:=checkCount "sorted" 1 1 _) (ao ?_);refine af (Nt (by simp[hh]) hsm S hks (e6 (gj h64 (by decide))) λh1 d tk acc vs hs hp le kp=>?_);have hlen:acc.length<64:=by rw[iY hs,hp.length_eq];exact h64
 refine af (wpAny_newList ?_ (e6 (gj hlen (by decide))));have hoL:(h1.push (seqObj "list" acc.toArray 0)).get? h1.objs.size=some (seqObj "list" acc.toArray 0):=cy _ rfl;refine af (i5 (fj slot_list_sort ⟨_,hoL,rfl⟩ entry_list_sort (list_sort_treeK strKind_oneLt hoL hs.keysOf (λv₁ v₂ rest e=>keyKind_strs (by rw[<-e];exact hs)) hlen λst' a1 a2=>⟨_,rfl,?_⟩) (args_list_sort _)));obtain⟨ss',b1,b2,b3⟩:=sorted_out_str hs a1 a2;obtain⟨e,he⟩:=sortedHeap_at (out:=(arrOf st').map (·.2)) hoL;refine ao ⟨_,rfl,h _ _ _ _ ((arrOf st').map (·.2)).toList ss' e b1 (b2.trans hp) b3 (by rw[rb];exact he) (e6 le) λb o q=>?_⟩;have lt:=b5 (kp b o q);rw[sortedHeap_old (cz lt) (by rw[d_];exact jq lt)];exact b6 _ (kp b o q)
end
section
variable{X:Cx}
noncomputable def JO:List V->Hp->VK->Prop:=λxs H Q=>∃(a:Addr) (ob:Obj) (kvs:List (ay×V)) (us:List Str),xs=[.ref a]/\qd H a ob kvs/\kvs.map (·.1)=us.map Sum.inr/\us.length<64 /\
  ∀(ss:List Str) (l:Addr),ss.Perm us->sortedS ss=true->H l=none->Q (.ref l) (aw H l (.lst (ss.map V.str)))
theorem yM:∀{kvs:List (ay×V)}{vs:List (ay×Value)},KV kvs vs->kvs.map (·.1)=vs.map (·.1)
 |[],_,.nil=>rfl
 |_::_,_,.cons r rs=>by rw[d9,d9,r.1,yM rs]
theorem NR(hc:X.calm=true):au X (.builtin "sorted") JO:=by
 intro Pp s σ H xs us Q I r h;obtain⟨a,ob,kvs,uu,rfl,hz,hk,h64,q⟩:=h;obtain⟨u,rfl,rx⟩:=cY r;cases rx;obtain⟨e,hs,hl,vs,es,ep,rr,dd,hd⟩:=pM I hz;refine Nr (I.ok.hd hc) hs dd (by rw[<-yM rr];exact hk) h64 λh' d tk l out ss e hs hp hso hl le k=>?_
 refine⟨.ref l,_,(I.laid (t':=tk) (o:=.lst (ss.map V.str)) k le ?_).draw d,rfl,q ss l hp hso (I.hok.fresh le)⟩;refine⟨?_,out,e,wA hs,hl⟩;rw[aq,hp.length_eq];exact e6 (gj h64 (by decide))
noncomputable def Gg:List V->Hp->VK->Prop:=λxs H Q=>∃(a:Addr) (kvs:List (ay×V)),xs=[.ref a]/\Rd H a (.dK kvs)/\Q (.int kvs.length) H
theorem Mr:au X (.builtin "len") Gg:=by
 intro Pp s σ H xs us Q I r h;obtain⟨a,kvs,rfl,e,q⟩:=h;obtain⟨u,rfl,rx⟩:=cY r;cases rx;exact Ht I e λt s' I'=>⟨.int kvs.length,H,I',⟨t,rfl⟩,q⟩
noncomputable def E_:R2:=λx y H Q=>∃a v,x=.ref a/\kC H a y (some v)/\Q v H
theorem I0(hu:X.A.units+1<cLine):nk X E_:=by
 intro value slice Pp s σ H x y v u Q I rx ry h hs;obtain⟨a,z,rfl,g,q⟩:=h;cases rx;have hT:=ND I g;unfold subscriptTail;refine af ?_;rw[getitemInPython_of_ne hT.not_modules];refine af (wpAny_specialOf hT PySem.F.slot_dict_getitem.lookup ?_);have fin:wpAny (model X.prog X.w) X.A (subscripted slice false (.ref a) u) (λr s₃=>wpAny (model X.prog X.w) X.A (letTemporaryGo value (.ref a) r >>= λ_=>pure r) (EP X Pp σ Q) X.xe s₃) X.xe s:=by
  rw[hs];exact wpAny_operating (Lu hu I g ry λw' s3 I3 rw'=>af (wpAny_letTemporaryGo (ao ⟨z,H,I3,rw',q⟩)))
 first
  |exact ao (af fin)
  |exact af (ao (af fin))
  |exact af fin
noncomputable def E9:R2:=λy x H Q=>∃a o,x=.ref a/\kC H a y o/\Q (.bl o.isSome) H
theorem NZ(hu:X.A.units+1<cLine):cf X (compareOp .In) E9:=by
 intro Pp s σ H y x u v Q I ry rx h;obtain⟨a,o,rfl,g,q⟩:=h;cases rx;exact EO hu I g ry λs' I'=>⟨.bl _,H,I',rfl,q⟩
end
noncomputable def ig:HO->Bool
 |.lst _=>true
 |.dK _=>true
 |_=>false
noncomputable def bz(H H1 H2:Hp):Prop:=∀b,(H b=none/\∃o ob,ig o=true/\H1 b=some o/\H2 b=some (.frz ob o))\/(¬ (H b=none/\∃o,ig o=true/\H1 b=some o)/\H2 b=H1 b)
section
variable{H H1 H2:Hp}{b:Addr}{o:HO}
theorem bz.keep(f:bz H H1 H2)(h:H1 b=some o)(n:ig o=false):H2 b=some o:=by
 rcases f b with⟨_,o',ob,z,e,_⟩|⟨_,z⟩
 ·rw[h]at e;cases e;rw[n]at z;exact absurd z b9
 ·rw[z];exact h
theorem bz.fz(f:bz H H1 H2)(hn:H b=none)(h:H1 b=some o)(n:ig o=true):∃ob,H2 b=some (.frz ob o):=by
 rcases f b with⟨_,o',ob,z,e,e2⟩|⟨z,_⟩
 ·rw[h]at e;cases e;exact⟨ob,e2⟩
 ·exact absurd ⟨hn,o,n,h⟩ z
theorem bz.none_of(f:bz H H1 H2)(h:H1 b=none):H2 b=none:=by
 rcases f b with⟨_,o',ob,z,e,e2⟩|⟨_,z⟩
 ·rw[h]at e;cases e
 ·rw[z];exact h
end
theorem cw.imp{P:Program}{w:World}{K:W.Frag}{mg:Str->Option Value}{base:Heap}{k:Nat}{x:Str}{ps:List Str}{sp sp':Sp}(G:cw P w K mg base k x ps sp)(h:∀vs H Q E,sp' vs H Q E->sp vs H Q E):cw P w K mg base k x ps sp':=by
 obtain⟨f,fd,F,b,m,kp⟩:=G;exact⟨f,fd,F.imp h,b,m,kp⟩
theorem cw.mono{P:Program}{w:World}{K:W.Frag}{mg:Str->Option Value}{base:Heap}{j k:Nat}{x:Str}{ps:List Str}{sp:Sp}(G:cw P w K mg base j x ps sp)(h:j<=k):cw P w K mg base k x ps sp:=by
 obtain⟨f,fd,F,b,m,kp⟩:=G;exact⟨f,fd,F.mono h,b,m,kp⟩
noncomputable def yb:HO->Bool
 |.frz _ _=>true
 |.tup _=>true
 |_=>false
noncomputable def HS(H H':Hp):Prop:=∀b o,yb o=true->H b=some o->H' b=some o
section
variable{H H1 H2:Hp}{a p c:Addr}{o:HO}
theorem HS.refl(H:Hp):HS H H:=λ_ _ _ e=>e
theorem HS.trans(x:HS H H1)(y:HS H1 H2):HS H H2:=λb o h e=>y b o h (x b o h e)
theorem ba.hs(s:ba H H1):HS H H1:=λb o _ e=>s b o e
theorem bz.hs(f:bz H H1 H2):HS H1 H2:=λb o h e=>f.keep e (by cases o<;>first|rfl|exact absurd h b9)
theorem nV(h:H a=none):HS H (aw H a o):=λb u _ e=>by rw[bU (eW e h)];exact e
theorem iN{u:HO}(h:H a=some u)(n:yb u=false):HS H (aw H a o):=λb v hv e=>by
 by_cases z:b=a
 ·subst z;rw[h]at e;cases e;rw[n]at hv;exact absurd hv b9
 ·rw[bU z];exact e
end
theorem NU:typeLookup (.type "list") "keys"=pure none:=by rw[typeLookup_type,builtinLookup_eq_fast];kernel_rfl
section
variable{prog:Program}{w:World}{A:Around}{E:Value->Shared->Prop}{s:Shared}
theorem Mn{a:Addr}{xs:Array Value}{n:Nat}{Q:Option Value->Shared->Prop}(hA:A.handled=none)(hx:s.heap.get? a=some {cls:=.type "list",data:=.seq xs n})
  (h:∀h' tk,(∀b o,s.heap.get? b=some o->h'.get? b=some o)->Q none {s with heap:=h',toks:=tk}):wpAny (model prog w) A (getAttr? (.ref a) "keys") Q E s:=by
 obtain⟨hp,g,d,tk,os⟩:=s;have ty:∀t',(⟨hp,g,d,t',os⟩:Shared).TypeIs (.ref a) "list":=λ_=>⟨_,hx,rfl⟩
 have e1:=sub_AttributeError;have e2:=F.slot_list_getattribute.lookup;have e3:=F.slot_list_getattribute.bind (.ref a);have e4:=am_list_getattr_none;unfold getAttr? getAttrBy? getAttrBy
 repeat (any_goals (first|assumption|exact ty _|((with_reducible show wpAny _ _ (call (Value.builtin "list.__getattribute__") _ _) _ _ _);refine call_meets F.slot_list_getattribute (ty _) am_entry_list_getattribute (F.args_list_getattribute_2 _ _) (meets_getattribute_miss_list a xs n #[] "keys" _ NU (by decide +kernel)) ⟨hx,hA,λh' tk' e ne=>?_⟩)|wp_step))
 obtain⟨t',u',he⟩:=ne.there;show wpAny _ _ (getattributeRaised _ _ _ _ _ _ _) _ _ _;unfold getattributeRaised
 repeat (any_goals (first|assumption|wp_step))
 all_goals exact h _ _ ne.keeps
theorem A8:entryFor table "dict.update.loop"=some Builtin.«dict.update.loop»:=entryFor_of_tree (by kernel_rfl)
theorem tN:plainId "dict.update.loop"=true:=by decide +kernel
theorem wT{h h':Heap}{a:Addr}{kvs:List (ay×Value)}(hd:h.DictOf (cB prog w) a kvs)(k:∀o,h.get? a=some o->h'.get? a=some o):h'.DictOf (cB prog w) a kvs:=by
 obtain⟨o,es,ep,e,r⟩:=hd;exact⟨o,es,ep,k o e,r⟩
noncomputable def il(prog:Program)(w:World)(h:Heap)(its:Array Value)(ps:List (ay×Value)):Prop:=
 its.size=ps.length/\∀(j:Nat) (k:ay) (v:Value),ps[j]?=some (k,v)->∃t key,its[j]?=some (.ref t)/\IsTup h t #[key,v]/\(cB prog w).is k key=true
theorem il.keep{h h':Heap}{its:Array Value}{ps:List (ay×Value)}(x:il prog w h its ps)(k:∀t o,h.get? t=some o->o.cls=.type "tuple"->h'.get? t=some o):il prog w h' its ps:=
 ⟨x.1,λj kk v e=>by
  obtain⟨t,key,a,⟨o,b,c,d⟩,f⟩:=x.2 j kk v e
  exact⟨t,key,a,⟨o,k t o b c,c,d⟩,f⟩⟩
theorem N0{R:Result->Shared->Prop}{it l dd:Addr}{its:Array Value}{ps:List (ay×Value)}(hh:A.handled=none)(hli:l≠it)(hdi:dd≠it)(hdl:dd≠l)(hsz:ps.length<=1000):
  ∀(m i:Nat) (s:Shared) (kvs:List (ay×Value)) (tk:Tok),ps.length=i+m->s.heap.IsListIter it l i/\s.heap.IsList l its->il prog w s.heap its ps->s.heap.DictOf (cB prog w) dd kvs->kvs.length<=i ->
   (∀h' tk',h'.DictOf (cB prog w) dd ((ps.drop i).foldl (λacc kv=>stored acc kv.1 kv.2) kvs)->(∀b o,b≠it->b≠dd->s.heap.get? b=some o->h'.get? b=some o)->R (.ok (.ret .none)) {s with heap:=h',toks:=tk'}) ->
   codeAny (model prog w) A (.builtin "dict.update.loop" ⟨[.ref dd,.ref it,.int i tk,.none],[]⟩) R s:=by
 have W:=Walks.list (prog:=prog) (w:=w) (A:=A.in1) (by simp[hh]) it l hli its;intro m
 induction m with
 |zero=>
  intro i s kvs tk hm st ht hd hl hR;refine i_ A8 ?_;rw[jj tN _];unfold Builtin.«dict.update.loop»;refine af (W.done s _ _ (by rw[ht.1,hm];exact st) λh' tk' k=>?_);refine af (ao (ao ?_));have e:ps.drop i=[]:=List.drop_of_length_le (by omega);rw[e]at hR;refine hR h' tk' (wT hd λo e=>k dd o (by simp[hdi]) e) λb o n1 _ e=>k b o (by simp[n1]) e
 |succ m ih=>
  intro i s kvs tk hm st ht hd hl hR;have hi:i<ps.length:=by omega
  have hp:ps[i]?=some (ps[i].1,ps[i].2):=cb hi;obtain⟨t,key,e1,htt,hkey⟩:=ht.2 i _ _ hp;refine i_ A8 ?_;rw[jj tN _];unfold Builtin.«dict.update.loop»;refine af (W.item i s _ _ (by rw[ht.1];exact hi) st λv h' tk' hv st' k=>?_);have hv:v=.ref t:=by rw[e1]at hv;exact(Option.some.inj hv).symm
  subst hv;have nti:∀b o,s.heap.get? b=some o->o.cls=.type "tuple"->b≠it:=λb o e c z=>by
   obtain⟨o',e',c',_⟩:=st.1;rw[<-z,e]at e';cases e';rw[c]at c';exact absurd c' (by decide)
  have ntd:∀b o,s.heap.get? b=some o->o.cls=.type "tuple"->b≠dd:=λb o e c z=>by
   obtain⟨o',e',c'⟩:=hd.typeIs;rw[<-z,e]at e';cases e';rw[c]at c';exact absurd c' (by decide)
  obtain⟨ot,et,ct,nt,dt⟩:=htt;have et':=k t ot (by simp[nti t ot et ct]) et;have hd':h'.DictOf (cB prog w) dd kvs:=wT hd λo e=>k dd o (by simp[hdi]) e
  have ty:Shared.TypeIs {s with heap:=h',toks:=tk'} (.ref t) "tuple":=⟨ot,et',ct⟩
  refine af (i5 ?_);refine af (wpAny_tryCatch ?_);unfold Builtin.Dict.pairItems;refine af (wpAny_typeOf ty ?_);rw[if_pos (by decide)];refine af (wpAny_seqItems et' dt (ao ?_));refine i5 (wpAny_dictSet_pairs hkey hd' (λh2 hd2 sb=>?_) (by rw[sizeLine_eq];omega));refine ao ⟨plainId_quiet tN _,?_⟩;have l2:=sb.2 l hdl.symm;refine ih (i+1) _ (stored kvs ps[i].1 ps[i].2) _ (by omega) ?_ ?_ hd2 ?_ λh3 tk3 hd3 k3=>?_
  ·refine W.frame (i+1) h' h2 st' λb hb o e=>?_
   rcases qk_.mp hb with z|z
   ·rw[z]at e ⊢;exact(sb.2 it hdi.symm).trans e
   ·rw[qX_.mp z]at e ⊢;exact l2.trans e
  ·exact ht.keep λb o e c=>(sb.2 b (ntd b o e c)).trans (k b o (by simp[nti b o e c]) e)
  ·unfold stored;split
   ·rw[aq];omega
   ·rw[b8];show kvs.length+1<=_;omega
  ·refine hR h3 tk3 ?_ λb o n1 n2 e=>k3 b o n1 n2 ((sb.2 b n2).trans (k b o (by simp[n1]) e))
   rw[show ps.drop i=ps[i]::ps.drop (i+1) from ph hi];exact hd3
theorem Nh{l:Addr}{its:Array Value}{nl:Nat}{ps:List (ay×Value)}{Q:Value->Shared->Prop}(hh:A.handled=none)(hl:s.heap.get? l=some {cls:=.type "list",data:=.seq its nl})(ht:il prog w s.heap its ps)(hsz:ps.length<=1000)
  (h:∀h' tk,h'.DictOf (cB prog w) s.heap.objs.size (ps.foldl (λacc kv=>stored acc kv.1 kv.2) [])->(∀b o,s.heap.get? b=some o->h'.get? b=some o)->Q (.ref s.heap.objs.size) {s with heap:=h',toks:=tk}):
  wpAny (model prog w) A (call (.type "dict") [.ref l]) Q E s:=by
 refine callType_codes (Q₁:=λobj s₁=>obj=.ref s.heap.objs.size/\s₁={s with heap:=s.heap.push {cls:=.type "dict",data:=.dict #[]}}) F.kt_called_dict (F.kt_typeCall_dict_1 _) F.entry_dict_init (kt_code_dict_new _ ⟨rfl,rfl⟩) ?_;rintro obj s₁ ⟨rfl,rfl⟩;have new:(s.heap.push {cls:=.type "dict",data:=.dict #[]}).DictOf (cB prog w) s.heap.objs.size []:=Heap.DictOf.new s.heap;have hl1:(s.heap.push {cls:=.type "dict",data:=.dict #[]}).get? l=some {cls:=.type "list",data:=.seq its nl}:=b6 _ hl;have llt:=b5 hl;refine⟨new.typeIs,F.args_dict_init_2 _ _,?_⟩;unfold Builtin.«dict.__init__»;refine af ?_;unfold Builtin.Dict.selfAndRest;refine af (wpAny_notOrdered_dict new.typeIs ?_);show wpAny _ _ (pure (s.heap.objs.size,[Value.ref l])) _ _ _;refine ao ?_;show wpAny _ _ (Builtin.Dict.updateFrom "dict.__init__" s.heap.objs.size (.ref l) [] .none) _ _ _;unfold Builtin.Dict.updateFrom;refine af (wpAny_typeOf (T:="list") ⟨_,hl1,rfl⟩ ?_);rw[if_pos (by decide)];refine af (Mn (by simp[hh]) hl1 λh2 tk2 k2=>?_);rw[if_pos (by decide)];refine af (wpAny_rule ?_);have hl2:=k2 _ _ hl1;have isl:Heap.IsList h2 l its:=⟨_,hl2,rfl,nl,rfl⟩
 refine af (wpAny_pyIter_list isl ?_);have sz2:s.heap.objs.size<h2.objs.size:=by
  have:(s.heap.push {cls:=.type "dict",data:=.dict #[]}).get? s.heap.objs.size=some _:=cy _ rfl;exact b5 (k2 _ _ this)
 refine ao ⟨plainId_quiet tN _,N0 (A:=A.in1) (its:=its) (ps:=ps) (by simp[hh]) (cz (b5 hl2)) (cz sz2) (j0 llt) hsz ps.length 0 _ [] _ (by simp) ⟨⟨_,cy _ rfl,rfl,rfl⟩,isl.push _⟩ ?_ ?_ (d8 _) λh3 tk3 hd3 k3=>?_⟩
 ·exact ht.keep λb o e _=>b6 _ (k2 _ _ (b6 _ e))
 ·exact(wT new λo e=>k2 _ _ e).push _
 ·refine⟨rfl,h h3 tk3 hd3 λb o e=>?_⟩;have lt:=b5 e;exact k3 b o (cz (gj lt sz2)) (cz lt) (b6 _ (k2 _ _ (b6 _ e)))
end
section
variable{X:Cx}
theorem IQ:∀{ps:List (ay×V)}{qs:List (ay×Value)}{kvs:List (ay×V)}{vs:List (ay×Value)},KV ps qs->KV kvs vs->KV (mB kvs ps) (qs.foldl (λacc kv=>stored acc kv.1 kv.2) vs):=by
 intro ps qs kvs vs r;unfold KV at r
 induction r generalizing kvs vs with
 |nil=>intro q;exact q
 |@cons p q ps qs h t ih=>
  intro r0;refine ih (kvs:=eE kvs p.1 p.2) (vs:=stored vs q.1 q.2) ?_;rw[<-h.1];exact r0.put p.1 h.2
end
end L2
namespace WordM
open PySem
noncomputable def sigA:Str:=" !\"#$&'()*+,-./0123456789:;<=>?@ABCDEFGHIJKLMNOPQRSTUVWXYZ[\\]^_`"
noncomputable def sigB:Str:="abcdefghijklmnopqrstuvwxyz{|}~"
noncomputable def da:Str:=sigA++sigB
noncomputable abbrev cs(x:Str):List Nat:=x.cps.toList
noncomputable def oF:Str:="0123456789"
noncomputable def pT:Str:="ABCDEFGHIJKLMNOPQRSTUVWXYZ"
noncomputable def JS:Str:=" !\"#$&'()*+,-./:;<=>?\x40[\\]^_`{|}~"
noncomputable def tG:Str:="abcdefghijklmnopqrstuvwxyz"
noncomputable def iz:List (Str×Str):=[("figure",oF),("great",pT),("other",JS),("small",tG)]
noncomputable def MK:List Str:=["figure","great","other","small"]
noncomputable def Sg(x:Str):Prop:=∀c∈cs x,c∈cs da
instance (x:Str):Decidable (Sg x):=by unfold Sg;infer_instance
noncomputable def cU(c:Nat):Str:=if c∈cs oF then "figure" else if c∈cs pT then "great" else if c∈cs tG then "small" else "other"
noncomputable def iS(x m:Str):Bool:=(cs x).any λc=>decide (c∈cs ((L2.getS iz m).getD ⟨#[]⟩))
noncomputable def dD(x:Str):List Str:=MK.filter λm=>iS x m
theorem app(a b:Str):cs (a++b)=cs a++cs b:=by
 show(a.cps++b.cps).toList=_;simp
theorem len(a:Str):a.length=(cs a).length:=by simp[Str.length]
theorem Sg.app{a b:Str}(ha:Sg a)(hb:Sg b):Sg (a++b):=λc hc=>by
 rw[WordM.app]at hc;rcases qr_.mp hc with z|z
 ·exact ha c z
 ·exact hb c z
theorem Sg.one{x:Str}(h:Sg x){c:Nat}(hc:c∈cs x):Sg ⟨#[c]⟩:=λd hd=>by
 have:d=c:=by simpa using hd
 rw[this];exact h c hc
theorem JU:Sg ⟨#[]⟩:=λc hc=>by simp at hc
theorem M3{x:Str}{l u:Option Int}{c:Nat}(h:c∈cs (Txt.slice x l u)):c∈cs x:=by
 unfold Txt.slice at h;split at h
 ·exact h
 ·simp only[cs,ja,qT_]at h;obtain⟨i,_,hi⟩:=h;obtain⟨hlt,e⟩:=qo2_.mp hi;rw[<-e];simp
theorem Sg.slice{x:Str}(h:Sg x)(l u:Option Int):Sg (Txt.slice x l u):=λc hc=>h c (M3 hc)
theorem slice_len(x:Str)(l u:Option Int):(Txt.slice x l u).length<=x.length:=Txt.slice_le x l u
theorem jQ{a b:Str}(h:cs a=cs b):a=b:=by
 obtain⟨a⟩:=a;obtain⟨b⟩:=b;have:a=b:=Array.toList_inj.mp h;rw[this]
theorem Nv{c:Nat}{r:Str}:Txt.slice ((⟨#[c]⟩:Str)++r) (some 1) none=r:=by
 refine jQ ?_;have hl:(((⟨#[c]⟩:Str)++r).length)=1+r.length:=by rw[len,app,len];simp
 rw[PyProof.Rows.slice_from_eq (b:=((((⟨#[c]⟩:Str)++r).length:Nat):Int)) (by decide) (by omega) rfl];show((cs ((⟨#[c]⟩:Str)++r)).drop 1).take _=_;rw[app];show((c::cs r).drop 1).take _=cs r;rw[List.drop_one,List.tail_cons,mr];rw[hl,len];omega
theorem NL{x:Str}(h:x.length=0):Txt.slice x (some 1) none=x:=by
 have h1:=slice_len x (some 1) none;refine jQ ?_;have e1:cs (Txt.slice x (some 1) none)=[]:=kl (by rw[<-len];omega);have e2:cs x=[]:=kl (by rw[<-len];omega);rw[e1,e2]
theorem nG{c:Nat}(h:c∈cs da):∀m∈MK,(c∈cs ((L2.getS iz m).getD ⟨#[]⟩)↔cU c=m):=by
 revert c;decide +kernel
theorem pL(c:Nat):cU c∈MK:=by
 unfold cU;split
 ·decide
 ·split
  ·decide
  ·split
   ·decide
   ·decide
theorem MF{x:Str}(h:Sg x)(ms:List Str):((dD x).all λm=>decide (m∈ms))=((cs x).all λc=>decide (cU c∈ms)):=by
 rw[fm,qE_,qE_];constructor
 ·intro k c hc;refine k (cU c) ?_;rw[dD,qS_];refine⟨pL c,?_⟩;rw[iS,qA_];exact⟨c,hc,cm ((nG (h c hc) _ (pL c)).mpr rfl)⟩
 ·intro k m hm;rw[dD,qS_,iS,qA_]at hm;obtain⟨hm,c,hc,hd⟩:=hm;rw[<-(nG (h c hc) m hm).mp (gm hd)];exact k c hc
theorem nD:da.length=94:=by decide +kernel
theorem M0:(cs da).Nodup:=by decide +kernel
theorem N5(x:Str):(Txt.slice x (some 1) none).length+1<=(if x.length<1 then 1 else x.length):=by
 by_cases h:x.length=0
 ·rw[NL h,if_pos (by omega)];omega
 ·rw[if_neg (by omega)];rw[PyProof.Rows.slice_from_eq (b:=(x.length:Int)) (by decide) (by omega) rfl];show(((cs x).drop 1).take _).toArray.size+1<=_;rw[cg,g8,m5,<-len];omega
theorem nodup_len{α:Type}[DecidableEq α]:∀{l m:List α},l.Nodup->(∀x∈l,x∈m)->l.length<=m.length
 |[],m,_,_=>d8 _
 |x::l,m,hn,hs=>by
  have hx:=hs x ib;have h2:=qD1_.mp hn;have ih:=nodup_len (l:=l) (m:=m.erase x) h2.2 λy hy=>by
   have hne:y≠x:=λe=>h2.1 (e▸hy)
   exact(List.mem_erase_of_ne hne).mpr (hs y (ia _ hy))
  rw[su hx]at ih;have:0<m.length:=List.length_pos_of_mem hx;rw[iw];omega
noncomputable def gL(a:Int):Nat:=(cs da).getD (a % 94).toNat 0
theorem MZ(a:Int):gL a∈cs da:=by
 have hl:(a % 94).toNat<(cs da).length:=by
  rw[<-len,nD];have:=jo a (show(0:Int)<94 by decide);have:=jn a (show(94:Int)≠0 by decide);omega
 unfold gL;rw[ji,cb hl];exact j7 hl
theorem MY{a b:Int}(h:gL a=gL b):a % 94=b % 94:=by
 have b1:=jo a (show(0:Int)<94 by decide);have b2:=jn a (show(94:Int)≠0 by decide);have b3:=jo b (show(0:Int)<94 by decide);have b4:=jn b (show(94:Int)≠0 by decide);have hl:(cs da).length=94:=by rw[<-len];exact nD
 unfold gL at h;rw[ji,ji,cb (by omega),cb (by omega)]at h;have h:(cs da)[(a % 94).toNat]=(cs da)[(b % 94).toNat]:=h;have hp:=qE2_.mp M0;rcases om (a % 94).toNat (b % 94).toNat with z|z|z
 ·exact absurd h (hp _ _ (by omega) (by omega) z)
 ·omega
 ·exact absurd h.symm (hp _ _ (by omega) (by omega) z)
noncomputable def gQ(a:Int)(r:Str)(i:Nat):Str:=(⟨#[gL (a+i)]⟩:Str)++r
theorem L0{a:Int}{r:Str}{i j:Nat}(hi:i<90)(hj:j<90)(h:gQ a r i=gQ a r j):i=j:=by
 have h1:cs (gQ a r i)=cs (gQ a r j):=by rw[h]
 unfold gQ at h1;rw[app,app]at h1;have h2:gL (a+i)=gL (a+j):=by
  have:=List.cons.inj h1;exact this.1
 have:=MY h2;omega
theorem LZ{a:Int}{r:Str}{ss:List Str}{j:Nat}(hj:j<80)(h:∀i,1<=i->i<=j->gQ a r i∈ss):j<=ss.length:=by
 have:=nodup_len (l:=(List.range j).map λi=>gQ a r (i+1)) (m:=ss) (by
  unfold List.Nodup;rw[kn];refine List.Pairwise.imp_of_mem (λ{x y} hx hy hlt e=>?_) List.pairwise_lt_range;have hx:=ql1_.mp hx;have hy:=ql1_.mp hy;have:=L0 (by omega) (by omega) e;omega) (λx hx=>by
  obtain⟨i,hi,rfl⟩:=qd_.mp hx;have:=ql1_.mp hi
  exact h (i+1) (by omega) (by omega))
 simpa using this
end WordM
namespace L2
open PySem PySem.Spec PyProof.Rows WordM
section
variable{α β:Type}{F G:α->β->Prop}
theorem iF:∀{xs:List α}{ys:List β}{i:Nat}{x:α},Paired F xs ys->xs[i]?=some x->∃y,ys[i]?=some y/\F x y
 |_,_,_,_,.nil,e=>by simp at e
 |_,_,0,_,.cons r _,e=>by simp at e;subst e;exact⟨_,rfl,r⟩
 |_,_,i+1,x,.cons _ t,e=>by
  obtain⟨u,h1,h2⟩:=iF (i:=i) (x:=x) t (by simpa using e);exact⟨u,by simpa using h1,h2⟩
end
inductive Tv where
 |leaf (v:V)
 |seq (t:Bool) (xs:List Tv)
 |dct (kts:List (Str×Tv))
noncomputable def VT(S:Bool->Addr->List V->Prop)(D:Addr->List (ay×V)->Prop):Nat->V->Tv->Prop
 |0,_,_=>False
 |d+1,x,T=>(eC x=true/\T=.leaf x)\/(∃t a xs Ts,x=.ref a/\S t a xs/\T=.seq t Ts/\Ts.length<=100000/\Paired (VT S D d) xs Ts) \/
   ∃a kvs kts,x=.ref a/\D a kvs/\T=.dct kts/\(kts.map (·.1)).Nodup/\kts.length<64/\Paired (λ(kv:ay×V) (kt:Str×Tv)=>kv.1=.inr kt.1/\VT S D d kv.2 kt.2) kvs kts
section
variable{S S':Bool->Addr->List V->Prop}{D D':Addr->List (ay×V)->Prop}
theorem VT.mono(hs:∀t a xs,S t a xs->S' t a xs)(hd:∀a kvs,D a kvs->D' a kvs):∀{d:Nat}{x:V}{T:Tv},VT S D d x T->VT S' D' d x T
 |0,_,_,h=>False.elim h
 |d+1,x,T,h=>by
  rcases h with h|⟨t,a,xs,Ts,h1,h2,h3,hz,h4⟩|⟨a,kvs,kts,h1,h2,h3,h4,h5,h6⟩
  ·exact .inl h
  ·exact .inr (.inl ⟨t,a,xs,Ts,h1,hs _ _ _ h2,h3,hz,Paired.mapP h4 λ_ _ q=>VT.mono hs hd q⟩)
  ·exact .inr (.inr ⟨a,kvs,kts,h1,hd _ _ h2,h3,h4,h5,Paired.mapP h6 λ_ _ q=>⟨q.1,VT.mono hs hd q.2⟩⟩)
theorem VT.more:∀{d:Nat}{x:V}{T:Tv},VT S D d x T->VT S D (d+1) x T
 |0,_,_,h=>False.elim h
 |d+1,x,T,h=>by
  rcases h with h|⟨t,a,xs,Ts,h1,h2,h3,hz,h4⟩|⟨a,kvs,kts,h1,h2,h3,h4,h5,h6⟩
  ·exact .inl h
  ·exact .inr (.inl ⟨t,a,xs,Ts,h1,h2,h3,hz,Paired.mapP h4 λ_ _ q=>VT.more q⟩)
  ·exact .inr (.inr ⟨a,kvs,kts,h1,h2,h3,h4,h5,Paired.mapP h6 λ_ _ q=>⟨q.1,VT.more q.2⟩⟩)
theorem VT.le{d e:Nat}(h:d<=e){x:V}{T:Tv}(q:VT S D d x T):VT S D e x T:=by
 obtain⟨k,rfl⟩:=Nat.le.dest h;clear h
 induction k with
 |zero=>exact q
 |succ k ih=>exact VT.more ih
end
noncomputable def nh(H:Hp)(a:Addr)(kvs:List (ay×V)):Prop:=∃ob,qd H a ob kvs
section
variable{K:W.Frag}{H H':Hp}{d:Nat}{x:V}{T:Tv}
theorem nh.hs(e:HS H H'){a:Addr}{kvs:List (ay×V)}(h:nh H a kvs):nh H' a kvs:=by
 obtain⟨ob,h⟩:=h;exact⟨ob,e _ _ rfl h⟩
end
theorem N3:∀(p:Str) (l:List Str),risingS p l=true->∀x∈l,(cs x<cs p)->False:=by
 intro p l
 induction l generalizing p with
 |nil=>intro _ x hx;simp at hx
 |cons y l ih=>
  intro h x hx hlt;have h:(!PySem.Spec.ltCps y.cps.toList p.cps.toList&&risingS y l)=true:=h;rw[i6]at h;have hy:¬ (cs y<cs p):=by
   have:=h.1;rw[ltCps_eq]at this;simpa using this
  rcases qk_.mp hx with z|z
  ·subst z;exact hy hlt
  ·have hxy:¬ (cs x<cs y):=λq=>ih y h.2 x z q
   have h1:cs p<=cs y:=qi1_.mp hy;have h2:cs y<=cs x:=qi1_.mp hxy;exact absurd hlt (qi1_.mpr (pk h1 h2))
theorem rF:∀(l:List Str),sortedS l=true->l.Pairwise λa b=>cs a<=cs b
 |[],_=>.nil
 |x::l,h=>by
  have h:risingS x l=true:=h;refine .cons (λy hy=>qi1_.mp λz=>N3 x l h y hy z) (rF l ?_);cases l with
  |nil=>rfl
  |cons y l=>
   have h:(!PySem.Spec.ltCps y.cps.toList x.cps.toList&&risingS y l)=true:=h;rw[i6]at h;exact h.2
open Classical in
noncomputable def bF(us:List Str):List Str:=if h:∃ss:List Str,ss.Perm us/\sortedS ss=true then h.choose else us
theorem fU(us:List Str):(bF us).Perm us:=by
 unfold bF;split
 ·rename_i h;exact h.choose_spec.1
 ·exact .refl _
theorem oY{us ss:List Str}(h1:ss.Perm us)(h2:sortedS ss=true):ss=bF us:=by
 have ex:∃ss:List Str,ss.Perm us/\sortedS ss=true:=⟨ss,h1,h2⟩
 have e:bF us=ex.choose:=by unfold bF;rw[dif_pos ex]
 rw[e];exact List.Perm.eq_of_pairwise (λa b _ _ h1 h2=>jQ (List.le_antisymm h1 h2)) (rF _ h2) (rF _ ex.choose_spec.2) (h1.trans ex.choose_spec.1.symm)
noncomputable def cF(kts:List (Str×Tv))(k:Str):Option Tv:=(kts.find? λkt=>decide (kt.1=k)).map (·.2)
section
variable{S:Bool->Addr->List V->Prop}{D:Addr->List (ay×V)->Prop}{d:Nat}
theorem sV{kvs:List (ay×V)}{kts:List (Str×Tv)}{R:V->Tv->Prop}(h:Paired (λ(kv:ay×V) (kt:Str×Tv)=>kv.1=.inr kt.1/\R kv.2 kt.2) kvs kts)(k:Str):
  (cF kts k=none/\fD kvs (.inr k)=none)\/∃U v,cF kts k=some U/\fD kvs (.inr k)=some v/\R v U:=by
 induction h with
 |nil=>exact .inl ⟨rfl,rfl⟩
 |@cons kv kt l1 l2 h _ ih=>
  obtain⟨e,r⟩:=h;by_cases z:kt.1=k
  ·refine .inr ⟨kt.2,kv.2,?_,sB (by rw[e,z]),r⟩;unfold cF;rw[fg,cm z];rfl
  ·have e2:cF (kt::l2) k=cF l2 k:=by
    unfold cF;rw[fg,dq z]
   have e3:fD (kv::l1) (.inr k)=fD l1 (.inr k):=sC (by rw[e];exact λq=>z (Sum.inr.inj q));rw[e2,e3];exact ih
theorem look_mem{kts:List (Str×Tv)}{k:Str}(h:k∈kts.map (·.1)):∃U,cF kts k=some U:=by
 induction kts with
 |nil=>cases h
 |cons kt l ih=>
  by_cases z:kt.1=k
  ·exact⟨kt.2,by unfold cF;rw[fg,cm z];rfl⟩
  ·rcases qk_.mp h with q|q
   ·exact absurd q.symm z
   ·obtain⟨U,hU⟩:=ih q;refine⟨U,?_⟩;unfold cF at hU ⊢;rw[fg,dq z];exact hU
end
theorem cu.hs{K:W.Frag}{H H':Hp}{a:Addr}{xs:List V}(e:HS H H')(h:cu K H a xs):cu K H' a xs:=by
 rcases h with (h|⟨o,h⟩)|h
 ·exact .inl (.inl (e _ _ rfl h))
 ·exact .inl (.inr ⟨o,e _ _ rfl h⟩)
 ·exact .inr h
theorem rH{α β:Type}{F:α->β->Prop}{a c:List α}{b d:List β}(h1:Paired F a b)(h2:Paired F c d):Paired F (a++c) (b++d):=by
 induction h1 with
 |nil=>exact h2
 |cons r _ ih=>exact .cons r ih
end L2
namespace L2
open PySem PySem.Spec PyProof.Rows
noncomputable abbrev qT:Hp:=λ_=>none
noncomputable def m_(H H3 H4:Hp):Prop:=∀b,(∃o ob,ig o=true/\H b=some o/\H3 b=some (.frz ob o)/\H4 b=some o)\/((¬ ∃o ob,ig o=true/\H b=some o/\H3 b=some (.frz ob o))/\H4 b=H3 b)
theorem BV(H H3:Hp):∃H4,m_ H H3 H4:=by
 classical
 refine⟨λb=>if h:∃o ob,ig o=true/\H b=some o/\H3 b=some (.frz ob o) then some h.choose else H3 b,λb=>?_⟩;by_cases h:∃o ob,ig o=true/\H b=some o/\H3 b=some (.frz ob o)
 ·obtain⟨ob,h1,h2,h3⟩:=h.choose_spec;exact .inl ⟨h.choose,ob,h1,h2,h3,by dsimp only;rw[dif_pos h]⟩
 ·exact .inr ⟨h,by dsimp only;rw[dif_neg h]⟩
theorem CY{P:Program}{w:World}{H:Hp}{h:Heap}(hok:d7 P w H h):∃H2,bz qT H H2/\d7 P w H2 h:=by
 let H2:Hp:=λb=>match H b with
  |none=>none
  |some o=>match ig o with
   |false=>some o
   |true=>match h.get? b with
    |some ob=>some (.frz ob o)
    |none=>some o
 have new:∀b o ob,H b=some o->ig o=true->h.get? b=some ob->H2 b=some (.frz ob o):=λb o ob h1 n e=>by
  show(match H b with|none=>none|some o=>_)=_;rw[h1];dsimp only;rw[n,e]
 have rest:∀b,(∀o,H b=some o->ig o=false)->H2 b=H b:=λb hn=>by
  show(match H b with|none=>none|some o=>_)=_;cases e:H b with
  |none=>rfl
  |some o=>
   dsimp only;rw[hn o e]
 have fro:bz qT H H2:=λb=>by
  cases h1:H b with
  |none=>exact .inr ⟨(λ⟨_,_,_,z⟩=>by cases z),by rw[rest b (λo z=>by rw[h1]at z;cases z),h1]⟩
  |some o=>
   cases n:ig o with
   |true=>
    obtain⟨ob,e⟩:=(hok b o h1).there;exact .inl ⟨rfl,o,ob,n,rfl,new b o ob h1 n e⟩
   |false=>exact .inr ⟨(λ⟨_,o',n',z⟩=>by cases z;rw[n]at n';exact absurd n' b9),by rw[rest b (λo' z=>by rw[h1]at z;cases z;exact n),h1]⟩
 refine⟨H2,fro,λb o e=>?_⟩;have st:∀o,a_ P w H h b o->a_ P w H2 h b o:=λo x=>x.stay (λ_ _ _ r=>r) (λd r=>fro.keep r rfl) λd xs r=>fro.keep r rfl
 rcases fro b with⟨hn,o',ob,n,z,z'⟩|⟨_,z'⟩
 ·obtain⟨ob2,e2⟩:=(hok b o' z).there;have q2:=new b o' ob2 z n e2;rw[e]at q2;cases q2;exact⟨e2,st _ (hok b _ z)⟩
 ·rw[z']at e;exact st o (hok b o e)
section
variable{H H2 H3 H4:Hp}{b:Addr}{o:HO}
theorem m_.same(f:bz qT H H2)(s:ba H2 H3)(t:m_ H H3 H4):ba H H4:=λb o e=>by
 cases n:ig o with
 |true=>
  obtain⟨ob,e2⟩:=f.fz (b:=b) rfl e n;have e3:=s b _ e2;rcases t b with⟨u,ob',_,z,_,z'⟩|⟨z,_⟩
  ·rw[e]at z;cases z;exact z'
  ·exact absurd ⟨o,ob,n,e,e3⟩ z
 |false=>
  have e3:=s b _ (f.keep e n);rcases t b with⟨u,ob',n',z,_⟩|⟨_,z⟩
  ·rw[e]at z;cases z;rw[n]at n';exact absurd n' b9
  ·rw[z];exact e3
end
theorem C6:∀{ps kvs:List (ay×V)},((kvs++ps).map (·.1)).Nodup->mB kvs ps=kvs++ps
 |[],kvs,_=>by show kvs=kvs++[];rw[i8]
 |p::ps,kvs,h=>by
  have hv:fD kvs p.1=none:=by
   cases e:fD kvs p.1 with
   |none=>rfl
   |some v=>
    have:=KU e;rw[dw,oi]at h;exact absurd rfl (h.2.2 p.1 this p.1 (by simp))
  show mB (eE kvs p.1 p.2) ps=_;rw[LQ p.2 hv,C6 (by simpa using h),fo];rfl
end L2
namespace L2
open PySem PySem.Spec PyProof.Rows WordM
noncomputable def bg(K:W.Frag)(H:Hp)(t:Bool)(a:Addr)(xs:List V):Prop:=match t with
 |false=>∃ob,H a=some (.frz ob (.lst xs))
 |true=>cu K H a xs
noncomputable abbrev VP(K:W.Frag)(H:Hp):Nat->V->Tv->Prop:=VT (bg K H) (nh H)
noncomputable def VA(K:W.Frag)(H:Hp)(x:V)(T:Tv):Prop:=∃d,VP K H d x T
noncomputable abbrev c_(K:W.Frag)(H:Hp):List V->List Tv->Prop:=Paired (VA K H)
noncomputable def gp(K:W.Frag)(H:Hp):List (ay×V)->List (Str×Tv)->Prop:=Paired λ(kv:ay×V) (kt:Str×Tv)=>kv.1=.inr kt.1/\VA K H kv.2 kt.2
section
variable{K:W.Frag}{H H' H1 H2:Hp}{x y v:V}{T U:Tv}{a:Addr}{xs:List V}{Ts:List Tv}{t:Bool}{kvs:List (ay×V)}{kts:List (Str×Tv)}
theorem bg.hs(e:HS H H')(h:bg K H t a xs):bg K H' t a xs:=by
 cases t with
 |false=>obtain⟨ob,h⟩:=h;exact⟨ob,e _ _ rfl h⟩
 |true=>exact cu.hs e h
theorem VA.hs(e:HS H H')(h:VA K H x T):VA K H' x T:=by
 obtain⟨d,h⟩:=h;exact⟨d,h.mono (λ_ _ _ q=>q.hs e) λ_ _ q=>q.hs e⟩
theorem c_.hs(e:HS H H')(h:c_ K H xs Ts):c_ K H' xs Ts:=Paired.mapP h λ_ _ q=>q.hs e
theorem gp.hs(e:HS H H')(h:gp K H kvs kts):gp K H' kvs kts:=Paired.mapP h λ_ _ q=>⟨q.1,q.2.hs e⟩
theorem c_.deep(h:c_ K H xs Ts):∃d,Paired (VP K H d) xs Ts:=by
 induction h with
 |nil=>exact⟨0,.nil⟩
 |cons r _ ih=>
  obtain⟨d,r⟩:=r;obtain⟨e,ih⟩:=ih;exact⟨max d e,.cons (r.le (Nat.le_max_left _ _)) (Paired.mapP ih λ_ _ q=>VT.le (Nat.le_max_right _ _) q)⟩
theorem gp.deep(h:gp K H kvs kts):∃d,Paired (λ(kv:ay×V) (kt:Str×Tv)=>kv.1=.inr kt.1/\VP K H d kv.2 kt.2) kvs kts:=by
 unfold gp at h
 induction h with
 |nil=>exact⟨0,.nil⟩
 |cons r _ ih=>
  obtain⟨k,d,r⟩:=r;obtain⟨e,ih⟩:=ih;exact⟨max d e,.cons ⟨k,r.le (Nat.le_max_left _ _)⟩ (Paired.mapP ih λ_ _ q=>⟨q.1,VT.le (Nat.le_max_right _ _) q.2⟩)⟩
theorem VA.flat(h:eC x=true):VA K H x (.leaf x):=⟨1,.inl ⟨h,rfl⟩⟩
theorem VA.seq(h:bg K H t a xs)(z:Ts.length<=100000)(p:c_ K H xs Ts):VA K H (.ref a) (.seq t Ts):=by
 obtain⟨d,p⟩:=p.deep;exact⟨d+1,.inr (.inl ⟨t,a,xs,Ts,rfl,h,rfl,z,p⟩)⟩
theorem VA.dct(h:nh H a kvs)(n:(kts.map (·.1)).Nodup)(z:kts.length<64)(p:gp K H kvs kts):VA K H (.ref a) (.dct kts):=by
 obtain⟨d,p⟩:=p.deep;exact⟨d+1,.inr (.inr ⟨a,kvs,kts,rfl,h,rfl,n,z,p⟩)⟩
theorem VA.leafI(h:VA K H x (.leaf v)):x=v/\eC v=true:=by
 obtain⟨d,h⟩:=h;cases d with
 |zero=>exact False.elim h
 |succ d=>
  rcases h with⟨f,e⟩|⟨_,_,_,_,_,_,e,_⟩|⟨_,_,_,_,_,e,_⟩
  ·cases e;exact⟨rfl,f⟩
  ·cases e
  ·cases e
theorem VA.seqI(h:VA K H x (.seq t Ts)):∃a xs,x=.ref a/\bg K H t a xs/\Ts.length<=100000/\c_ K H xs Ts:=by
 obtain⟨d,h⟩:=h;cases d with
 |zero=>exact False.elim h
 |succ d=>
  rcases h with⟨_,e⟩|⟨t',a,xs,Ts',e1,hs,e,z,p⟩|⟨_,_,_,_,_,e,_⟩
  ·cases e
  ·cases e;exact⟨a,xs,e1,hs,z,Paired.mapP p λ_ _ q=>⟨d,q⟩⟩
  ·cases e
theorem VA.dctI(h:VA K H x (.dct kts)):∃a kvs,x=.ref a/\nh H a kvs/\(kts.map (·.1)).Nodup/\kts.length<64/\gp K H kvs kts:=by
 obtain⟨d,h⟩:=h;cases d with
 |zero=>exact False.elim h
 |succ d=>
  rcases h with⟨_,e⟩|⟨_,_,_,_,_,_,e,_⟩|⟨a,kvs,kts',e1,hd,e,n,z,p⟩
  ·cases e
  ·cases e
  ·cases e;exact⟨a,kvs,e1,hd,n,z,Paired.mapP p λ_ _ q=>⟨q.1,d,q.2⟩⟩
end
inductive Sl where
 |no
 |va (T:Tv)
 |own (xs:List Tv)
 |dct (kts:List (Str×Tv))
 |dk
noncomputable abbrev aW:=List Sl
noncomputable def fI:Sl->Bool
 |.own _=>true
 |.dct _=>true
 |_=>false
structure Fm where
 H0:Hp
 dk:Option (Addr×Addr)
structure Kp (dk:Option (Addr×Addr)) (H H':Hp):Prop where
 st:∀b o,H b=some o->(∀p c,dk=some (p,c)->b≠p/\b≠c)->H' b=some o
 dkk:∀p c,dk=some (p,c)->bt H' p c
theorem Kp.tr{dk:Option (Addr×Addr)}{H H':Hp}(k:Kp dk H H')(b:Addr)(o:HO)(e:H b=some o):∃o',H' b=some o':=by
 cases d:dk with
 |none=>exact⟨o,k.st b o e λp c z=>by rw[d]at z;cases z⟩
 |some pc=>
  obtain⟨p,c⟩:=pc;obtain⟨_,⟨S,i,e1⟩,ns,e2,_⟩:=k.dkk p c d;by_cases h1:b=p
  ·subst h1;exact⟨_,e1⟩
  ·by_cases h2:b=c
   ·subst h2;exact⟨_,e2⟩
   ·exact⟨o,k.st b o e λp' c' z=>by rw[d]at z;cases z;exact⟨h1,h2⟩⟩
noncomputable def uz(K:W.Frag)(F:Fm)(H:Hp)(ox:Option V):Sl->Prop
 |.no=>True
 |.va T=>∃x,ox=some x/\VA K H x T
 |.own Ts=>∃a xs,ox=some (.ref a)/\H a=some (.lst xs)/\F.H0 a=none/\Ts.length<=100000/\c_ K H xs Ts
 |.dct kts=>∃a kvs,ox=some (.ref a)/\H a=some (.dK kvs)/\F.H0 a=none/\(kts.map (·.1)).Nodup/\kts.length<64/\gp K H kvs kts
 |.dk=>∃p c,F.dk=some (p,c)/\ox=some (.ref p)
noncomputable def e9(σ:St)(i:Nat):Option V:=(σ[i]?).join
structure av (K:W.Frag) (F:Fm) (ρ:aW) (σ:St) (H:Hp):Prop where
 d0:∀p c,F.dk=some (p,c)->bt F.H0 p c
 kp:Kp F.dk F.H0 H
 len:ρ.length=σ.length
 at_:∀(i:Nat) (s:Sl),ρ[i]?=some s->uz K F H (e9 σ i) s
 ap:∀(i j:Nat) (a:Addr) (s t:Sl),ρ[i]?=some s->ρ[j]?=some t->fI s=true->fI t=true->e9 σ i=some (.ref a)->e9 σ j=some (.ref a)->i=j
noncomputable def kc(F:Fm)(ρ:aW)(σ:St)(H H':Hp):Prop:=∀b o,H b=some o->(∀p c,F.dk=some (p,c)->b≠p/\b≠c)->(∀(i:Nat) (s:Sl),ρ[i]?=some s->fI s=true->e9 σ i≠some (.ref b))->H' b=some o
noncomputable def ky(ρ' ρ:aW):Prop:=∀(i:Nat) (s':Sl),ρ'[i]?=some s'->fI s'=true->∃s,ρ[i]?=some s/\fI s=true
structure bq (K:W.Frag) (F:Fm) (σ:St) (ρ:aW) (H:Hp) (ρ':aW) (H':Hp):Prop where
 fr:av K F ρ' σ H'
 st:kc F ρ σ H H'
 sub:ky ρ' ρ
 tr:∀b o,H b=some o->∃o',H' b=some o'
section
variable{K:W.Frag}{F:Fm}{ρ ρ1 ρ2:aW}{σ:St}{H H' H1 H2:Hp}{x y v:V}{T U:Tv}{a b:Addr}{o:HO}
theorem ky.refl(ρ:aW):ky ρ ρ:=λi s e m=>⟨s,e,m⟩
theorem ky.trans(h1:ky ρ1 ρ)(h2:ky ρ2 ρ1):ky ρ2 ρ:=λi s e m=>by
 obtain⟨s1,e1,m1⟩:=h2 i s e m;exact h1 i s1 e1 m1
theorem av.own_at(fr:av K F ρ σ H){i:Nat}{s:Sl}(e:ρ[i]?=some s)(m:fI s=true)(q:e9 σ i=some (.ref a)):(∃o,H a=some o/\ig o=true)/\F.H0 a=none:=by
 have h:=fr.at_ i s e;cases s with
 |own Ts=>obtain⟨a',xs,e1,e2,e3,_⟩:=h;rw[q]at e1;cases e1;exact⟨⟨_,e2,rfl⟩,e3⟩
 |dct kts=>obtain⟨a',xs,e1,e2,e3,_⟩:=h;rw[q]at e1;cases e1;exact⟨⟨_,e2,rfl⟩,e3⟩
 |no=>cases m
 |va _=>cases m
 |dk=>cases m
theorem av.fresh_nodk(fr:av K F ρ σ H)(h:F.H0 a=none):∀p c,F.dk=some (p,c)->a≠p/\a≠c:=λp c e=>by
 obtain⟨_,⟨S,k,e1⟩,ns,e2,_⟩:=fr.d0 p c e;exact⟨λz=>(by rw[z,e1]at h;cases h),λz=>(by rw[z,e2]at h;cases h)⟩
theorem av.none_nodk(fr:av K F ρ σ H)(h:H a=none):∀p c,F.dk=some (p,c)->a≠p/\a≠c:=λp c e=>by
 obtain⟨_,⟨S,k,e1⟩,ns,e2,_⟩:=fr.kp.dkk p c e;exact⟨λz=>(by rw[z,e1]at h;cases h),λz=>(by rw[z,e2]at h;cases h)⟩
theorem av.none0(fr:av K F ρ σ H)(h:H a=none):F.H0 a=none:=by
 cases q:F.H0 a with
 |none=>rfl
 |some o=>rw[fr.kp.st a o q (fr.none_nodk h)]at h;cases h
theorem kc.hs(fr:av K F ρ σ H)(s:kc F ρ σ H H'):HS H H':=λb o h e=>s b o e
 (λp c d=>by
  obtain⟨_,⟨S,k,e1⟩,ns,e2,_⟩:=fr.kp.dkk p c d
  exact⟨λz=>(by subst z;rw[e1]at e;cases e;cases h),λz=>(by subst z;rw[e2]at e;cases e;cases h)⟩)
 λi s e1 m q=>by
  obtain⟨⟨o',e2,n⟩,_⟩:=fr.own_at e1 m q;rw[e]at e2;cases e2;cases o<;>first|exact absurd h b9|exact absurd n b9
theorem kc.trans(s1:kc F ρ σ H H1)(sb:ky ρ1 ρ)(s2:kc F ρ1 σ H1 H2):kc F ρ σ H H2:=λb o e d n=>
 s2 b o (s1 b o e d n) d λi s e1 m=>by
  obtain⟨s',e2,m'⟩:=sb i s e1 m;exact n i s' e2 m'
theorem bq.trans(a:bq K F σ ρ H ρ1 H1)(b:bq K F σ ρ1 H1 ρ2 H2):bq K F σ ρ H ρ2 H2:=⟨b.fr,a.st.trans a.sub b.st,a.sub.trans b.sub,λc o e=>let ⟨o1,e1⟩:=a.tr c o e;b.tr c o1 e1⟩
theorem bq.refl(fr:av K F ρ σ H):bq K F σ ρ H ρ H:=⟨fr,λ_ _ e _ _=>e,ky.refl _,λ_ o e=>⟨o,e⟩⟩
theorem bq.hs(a:bq K F σ ρ H ρ1 H1)(fr:av K F ρ σ H):HS H H1:=a.st.hs fr
theorem av.call(fr:av K F ρ σ H)(k:Kp F.dk H H'):av K F ρ σ H':=by
 have own:∀i s a o,ρ[i]?=some s->fI s=true->e9 σ i=some (.ref a)->H a=some o->H' a=some o:=λi s a o e m q h=>
  k.st a o h (fr.fresh_nodk (fr.own_at e m q).2)
 have hs:HS H H':=λb o h e=>k.st b o e λp c d=>by
  obtain⟨_,⟨S,k,e1⟩,ns,e2,_⟩:=fr.kp.dkk p c d;exact⟨λz=>(by subst z;rw[e1]at e;cases e;cases h),λz=>(by subst z;rw[e2]at e;cases e;cases h)⟩
 refine⟨fr.d0,⟨λb o e n=>k.st b o (fr.kp.st b o e n) n,k.dkk⟩,fr.len,λi s e=>?_,fr.ap⟩;have h:=fr.at_ i s e;cases s with
 |no=>trivial
 |va T=>obtain⟨x,e1,v⟩:=h;exact⟨x,e1,v.hs hs⟩
 |own Ts=>obtain⟨a,xs,e1,e2,e3,z,p⟩:=h;exact⟨a,xs,e1,own i _ a _ e rfl e1 e2,e3,z,p.hs hs⟩
 |dct kts=>obtain⟨a,kvs,e1,e2,e3,n,z,p⟩:=h;exact⟨a,kvs,e1,own i _ a _ e rfl e1 e2,e3,n,z,p.hs hs⟩
 |dk=>exact h
theorem Kp.of_same(fr:av K F ρ σ H)(s:ba H H'):Kp F.dk H H':=⟨λb o e _=>s b o e,λp c d=>by
 obtain⟨ne,⟨S,k,e1⟩,ns,e2,l⟩:=fr.kp.dkk p c d
 exact⟨ne,⟨S,k,s _ _ e1⟩,ns,s _ _ e2,l⟩⟩
theorem bq.call(fr:av K F ρ σ H)(k:Kp F.dk H H'):bq K F σ ρ H ρ H':=⟨fr.call k,λb o e d _=>k.st b o e d,ky.refl _,λb o e=>k.tr b o e⟩
theorem bq.same(fr:av K F ρ σ H)(s:ba H H'):bq K F σ ρ H ρ H':=bq.call fr (Kp.of_same fr s)
end
theorem bq.non{K:W.Frag}{F:Fm}{ρ ρ1:aW}{σ:St}{H H1:Hp}{a:Addr}(s:bq K F σ ρ H ρ1 H1)(n:H1 a=none):H a=none:=by
 cases e:H a with
 |none=>rfl
 |some o=>
  obtain⟨o',e'⟩:=s.tr a o e;rw[n]at e';cases e'
noncomputable abbrev UT:=aW->(Tv->aW->Prop)->Prop
noncomputable abbrev d5:=aW->(Bool->aW->Prop)->Prop
noncomputable abbrev g5:=aW->(List Tv->aW->Prop)->Prop
inductive Ar where
 |va (T:Tv)
 |dk
noncomputable abbrev gg:=aW->(List Ar->aW->Prop)->Prop
noncomputable def vR(K:W.Frag)(dk:Option (Addr×Addr))(H:Hp)(x:V):Ar->Prop
 |.va T=>VA K H x T
 |.dk=>∃p c,dk=some (p,c)/\x=.ref p
noncomputable def fQ(K:W.Frag)(F:Fm)(u:UT):TE:=λσ H QQ=>∃ρ Q,av K F ρ σ H/\u ρ Q/\∀x T H' ρ',bq K F σ ρ H ρ' H'->VA K H' x T->Q T ρ'->QQ x H'
noncomputable def uE(K:W.Frag)(F:Fm)(u:d5):TT:=λσ H QQ=>∃ρ Q,av K F ρ σ H/\u ρ Q/\∀b H' ρ',bq K F σ ρ H ρ' H'->Q b ρ'->QQ b H'
noncomputable def uF(K:W.Frag)(F:Fm)(u:g5):TE:=λσ H QQ=>∃ρ Q,av K F ρ σ H/\u ρ Q/\∀a xs Ts H' ρ',bq K F σ ρ H ρ' H'->H a=none->H' a=some (.lst xs)->Ts.length<=100000->c_ K H' xs Ts->Q Ts ρ'->QQ (.ref a) H'
noncomputable def uG(K:W.Frag)(F:Fm)(u:gg):TA:=λσ H QQ=>∃ρ Q,av K F ρ σ H/\u ρ Q/\∀xs as H' ρ',bq K F σ ρ H ρ' H'->Paired (vR K F.dk H') xs as->Q as ρ'->QQ xs H'
structure UE (X:Cx) (F:Fm) (e:Expr) (u:UT):Prop where
 pe:PE X e (fQ X.K F u)
structure UB (X:Cx) (F:Fm) (e:Expr) (u:d5):Prop where
 pt:PT X e (uE X.K F u)
structure UW (X:Cx) (F:Fm) (e:Expr) (u:d5):Prop where
 pw:PW X e (uE X.K F u)
structure UL (X:Cx) (F:Fm) (e:Expr) (u:g5):Prop where
 pe:PE X e (uF X.K F u)
structure UA (X:Cx) (F:Fm) (es:List Expr) (u:gg):Prop where
 pa:PA X es (uG X.K F u)
theorem PE.imp{X:Cx}{e:Expr}{t t':TE}(h:PE X e t)(i:∀σ H Q,t' σ H Q->t σ H Q):PE X e t':=λPp s σ H Q I q=>h Pp s σ H Q I (i σ H Q q)
theorem PT.imp{X:Cx}{e:Expr}{t t':TT}(h:PT X e t)(i:∀σ H Q,t' σ H Q->t σ H Q):PT X e t':=λPp s σ H Q I q=>h Pp s σ H Q I (i σ H Q q)
theorem PW.imp{X:Cx}{e:Expr}{t t':TT}(h:PW X e t)(i:∀σ H Q,t' σ H Q->t σ H Q):PW X e t':=λwh Pp s σ H Q I q=>h wh Pp s σ H Q I (i σ H Q q)
theorem PA.imp{X:Cx}{es:List Expr}{t t':TA}(h:PA X es t)(i:∀σ H Q,t' σ H Q->t σ H Q):PA X es t':=λpos Pp s σ H Q I q=>h pos Pp s σ H Q I (i σ H Q q)
theorem ag.fz{X:Cx}{Pp:List (Addr×Obj)}{σ:St}{H:Hp}{s:Shared}{a:Addr}{o:HO}(I:ag X Pp σ H s)(h:H a=some o)(n:ig o=true):∃ob,ag X Pp σ (aw H a (.frz ob o)) s:=by
 obtain⟨ob,eo⟩:=(I.hok a o h).there;refine⟨ob,?_⟩;have keep:∀b u,H b=some u->ig u=false->aw H a (.frz ob o) b=some u:=λb u e m=>by
  rw[bU (λz=>by subst z;rw[h]at e;cases e;rw[n]at m;cases m)];exact e
 have non:∀b,H b=none->aw H a (.frz ob o) b=none:=λb e=>by
  rw[bU (λz=>by subst z;rw[h]at e;cases e)];exact e
 refine⟨I.ok,I.os,I.bare,⟨I.base.keep,I.base.slot,λb o e n hx=>non b (I.base.free b o e n hx),I.base.there,λb xs e=>keep b _ (I.base.tups b xs e) rfl,λb o u e=>keep b _ (I.base.frzs b o u e) rfl,λb ps e=>?_⟩,I.loc,I.cell,non _ I.free,λx c e=>non c (I.freeC x c e),λp hp=>?_,λb u e=>?_,I.len⟩
 ·obtain⟨more,z⟩:=I.base.tbls b ps e;exact⟨more,keep b _ z rfl⟩
 ·obtain⟨p1,p2,p3⟩:=I.pin p hp;exact⟨p1,non _ p2,p3⟩
 ·have st:∀b u,a_ X.prog X.w H s.heap b u->a_ X.prog X.w (aw H a (.frz ob o)) s.heap b u:=λb u x=>x.stay (λ_ _ _ r=>r) (λd r=>keep d _ r rfl) λd xs r=>keep d _ r rfl
  by_cases z:b=a
  ·subst z;rw[bL]at e;cases e;exact⟨eo,st _ _ (I.hok b o h)⟩
  ·rw[bU z]at e;exact st _ _ (I.hok b u e)
noncomputable def w6(Q:VK):VK:=λz H=>Q z H\/∃a o,z=.ref a/\H a=some o/\ig o=true/\∀ob,Q z (aw H a (.frz ob o))
noncomputable def wj(t:TE):TE:=λσ H Q=>t σ H (w6 Q)
theorem EP.fz{X:Cx}{Pp:List (Addr×Obj)}{σ:St}{Q:VK}{u:Value}{s:Shared}(h:EP X Pp σ (w6 Q) u s):EP X Pp σ Q u s:=by
 obtain⟨x,H',I,r,q⟩:=h;rcases q with q|⟨a,o,rfl,e,n,q⟩
 ·exact⟨x,H',I,r,q⟩
 ·obtain⟨ob,I'⟩:=I.fz e n;exact⟨_,_,I',r,q ob⟩
theorem PE.fz{X:Cx}{e:Expr}{t:TE}(h:PE X e t):PE X e (wj t):=λPp s σ H Q I q=>bj (h Pp s σ H _ I q) λ_ _ z=>z.fz
noncomputable def i3(K:W.Frag)(H H':Hp)(z:V)(W:Tv):Prop:=ba H H'/\(VA K H' z W\/∃a,z=.ref a/\H a=none /\
 ((∃xs Ts,H' a=some (.lst xs)/\W=.seq false Ts/\Ts.length<=100000/\c_ K H' xs Ts)\/∃kvs kts,H' a=some (.dK kvs)/\W=.dct kts/\(kts.map (·.1)).Nodup/\kts.length<64/\gp K H' kvs kts))
section
variable{K:W.Frag}{F:Fm}{ρ ρ1 ρ2:aW}{σ:St}{H H' H1 H2:Hp}{x y v z:V}{T U W:Tv}{a b:Addr}{o:HO}
theorem i3.va(v:VA K H z W):i3 K H H z W:=⟨ba.refl _,.inl v⟩
theorem i3.flat(h:eC z=true):i3 K H H z (.leaf z):=.va (.flat h)
theorem i3.lst{xs:List V}{Ts:List Tv}(n:H a=none)(z:Ts.length<=100000)(p:c_ K H xs Ts):i3 K H (aw H a (.lst xs)) (.ref a) (.seq false Ts):=
 ⟨dC n,.inr ⟨a,rfl,n,.inl ⟨xs,Ts,bL,rfl,z,p.hs (nV n)⟩⟩⟩
theorem i3.tup{xs:List V}{Ts:List Tv}(n:H a=none)(z:Ts.length<=100000)(p:c_ K H xs Ts):i3 K H (aw H a (.tup xs)) (.ref a) (.seq true Ts):=
 ⟨dC n,.inl (VA.seq (t:=true) (cu.of bL) z (p.hs (nV n)))⟩
theorem bq.frz(fr:av K F ρ σ H)(s:ba H H')(n:H a=none)(e:H' a=some o)(m:ig o=true)(ob:Obj):bq K F σ ρ H ρ (aw H' a (.frz ob o)):=
 bq.same fr λb u q=>by rw[bU (eW q n)];exact s b u q
theorem i3.fin(fr:av K F ρ σ H)(r:i3 K H H' z W){QQ:VK}(k:∀H'',bq K F σ ρ H ρ H''->VA K H'' z W->QQ z H''):w6 QQ z H':=by
 obtain⟨s,v|⟨a,rfl,n,⟨xs,Ts,e,rfl,l,p⟩|⟨kvs,kts,e,rfl,nd,l,p⟩⟩⟩:=r
 ·exact .inl (k H' (bq.same fr s) v)
 ·refine .inr ⟨a,_,rfl,e,rfl,λob=>k _ (bq.frz fr s n e rfl ob) (VA.seq (t:=false) ⟨ob,bL⟩ l (p.hs (iN e rfl)))⟩
 ·refine .inr ⟨a,_,rfl,e,rfl,λob=>k _ (bq.frz fr s n e rfl ob) (VA.dct ⟨ob,bL⟩ nd l (p.hs (iN e rfl)))⟩
end
noncomputable abbrev iT(i:Int):Tv:=.leaf (.int i)
noncomputable abbrev sT(x:Str):Tv:=.leaf (.str x)
noncomputable abbrev bT(b:Bool):Tv:=.leaf (.bl b)
noncomputable abbrev nT:Tv:=.leaf .non
noncomputable abbrev P1:=Tv->(Tv->Prop)->Prop
noncomputable abbrev P2:=Tv->Tv->(Tv->Prop)->Prop
noncomputable abbrev Pn:=List Tv->(Tv->Prop)->Prop
section
variable{X:Cx}{F:Fm}
noncomputable def fK(i:Nat):UT:=λρ Q=>match ρ[i]? with
 |some (.va T)=>Q T ρ
 |some (.own Ts)=>Q (.seq false Ts) (ρ.set i (.va (.seq false Ts)))
 |some (.dct kts)=>Q (.dct kts) (ρ.set i (.va (.dct kts)))
 |_=>False
theorem kJ{σ:St}{i:Nat}{x:V}(h:e9 σ i=some x):σ[i]?=some (some x):=by
 unfold e9 at h;cases q:σ[i]? with
 |none=>rw[q]at h;cases h
 |some o=>rw[q]at h;cases o with
  |none=>cases h
  |some y=>cases h;rfl
theorem Ih{σ:St}{i:Nat}{x:V}(h:σ[i]?=some (some x)):e9 σ i=some x:=by
 unfold e9;rw[h];rfl
theorem av.fzs{K:W.Frag}{ρ:aW}{σ:St}{H:Hp}{i:Nat}{s:Sl}{a:Addr}{o:HO}{T:Tv}(fr:av K F ρ σ H)(e:ρ[i]?=some s)(m:fI s=true)(q:e9 σ i=some (.ref a))(h:H a=some o)(n:ig o=true)(ob:Obj)
  (v:VA K (aw H a (.frz ob o)) (.ref a) T):bq K F σ ρ H (ρ.set i (.va T)) (aw H a (.frz ob o)):=by
 have hi:i<ρ.length:=(qB_.mp e).1;have h0:=(fr.own_at e m q).2;have hd:=fr.fresh_nodk h0;have hs:HS H (aw H a (.frz ob o)):=iN h (by cases o<;>first|rfl|exact absurd n b9);have st:∀b u,b≠a->H b=some u->aw H a (.frz ob o) b=some u:=λb u z e=>by rw[bU z];exact e
 refine⟨⟨fr.d0,⟨λb u e1 n1=>st b u (λz=>by rw[z,h0]at e1;cases e1) (fr.kp.st b u e1 n1),λp c d=>?_⟩,by rw[jc];exact fr.len,λj s' e'=>?_,λj k b s' t' e1 e2 m1 m2 q1 q2=>?_⟩,λb u e1 _ n1=>st b u (λz=>n1 i s e m (by rw[z];exact q)) e1,λj s' e' m'=>?_,λb u e1=>if z:b=a then⟨.frz ob o,z▸bL⟩ else⟨u,st b u z e1⟩⟩
 ·obtain⟨ne,⟨S,k,e1⟩,ns,e2,l⟩:=fr.kp.dkk p c d;exact⟨ne,⟨S,k,st _ _ (hd p c d).1.symm e1⟩,ns,st _ _ (hd p c d).2.symm e2,l⟩
 ·by_cases z:i=j
  ·subst z;rw[gk hi]at e';cases e';exact⟨_,q,v⟩
  ·rw[g9 z]at e';have x:=fr.at_ j s' e';cases s' with
   |no=>trivial
   |va T=>obtain⟨y,e1,v⟩:=x;exact⟨y,e1,v.hs hs⟩
   |own Ts=>obtain⟨b,xs,e1,e2,e3,z',p⟩:=x;exact⟨b,xs,e1,st _ _ (λy=>z (fr.ap i j a s _ e e' m rfl q (by rw[e1,y]))) e2,e3,z',p.hs hs⟩
   |dct kts=>obtain⟨b,kvs,e1,e2,e3,n',z',p⟩:=x;exact⟨b,kvs,e1,st _ _ (λy=>z (fr.ap i j a s _ e e' m rfl q (by rw[e1,y]))) e2,e3,n',z',p.hs hs⟩
   |dk=>exact x
 ·by_cases z1:i=j
  ·subst z1;rw[gk hi]at e1;cases e1;cases m1
  ·by_cases z2:i=k
   ·subst z2;rw[gk hi]at e2;cases e2;cases m2
   ·rw[g9 z1]at e1;rw[g9 z2]at e2;exact fr.ap j k b s' t' e1 e2 m1 m2 q1 q2
 ·by_cases z:i=j
  ·subst z;rw[gk hi]at e';cases e';cases m'
  ·rw[g9 z]at e';exact⟨s',e',m'⟩
theorem aC(i:Nat){x:Str}{pos:Pos}(hN:X.N[i]?=some x:=by rfl)(hv:qb X.env.scope x:=by first|exact Or.inl rfl|exact Or.inr (Or.inl rfl)|exact Or.inr (Or.inr rfl))(hd:(x==("__debug__":Str))=false:=by decide)(hcd:(x==("__classdict__":Str))=false:=by decide):
  UE X F (.Name x pos) (fK i):=by
 refine⟨PE.imp (PE.fz (lZ hN hv hd hcd)) ?_⟩;rintro σ H QQ ⟨ρ,Q,fr,h,k⟩;unfold fK at h;split at h
 ·rename_i T e;obtain⟨y,e1,v⟩:=fr.at_ i _ e;exact⟨y,kJ e1,.inl (k y T H ρ (bq.refl fr) v h)⟩
 ·rename_i Ts e;obtain⟨a,xs,e1,e2,e3,z,p⟩:=fr.at_ i _ e;refine⟨_,kJ e1,.inr ⟨a,_,rfl,e2,rfl,λob=>?_⟩⟩;have v:VA X.K (aw H a (.frz ob (.lst xs))) (.ref a) (.seq false Ts):=VA.seq (t:=false) ⟨ob,bL⟩ z (p.hs (iN e2 rfl));exact k _ _ _ _ (fr.fzs e rfl e1 e2 rfl ob v) v h
 ·rename_i kts e;obtain⟨a,kvs,e1,e2,e3,n,z,p⟩:=fr.at_ i _ e;refine⟨_,kJ e1,.inr ⟨a,_,rfl,e2,rfl,λob=>?_⟩⟩;have v:VA X.K (aw H a (.frz ob (.dK kvs))) (.ref a) (.dct kts):=VA.dct ⟨ob,bL⟩ n z (p.hs (iN e2 rfl));exact k _ _ _ _ (fr.fzs e rfl e1 e2 rfl ob v) v h
 ·exact False.elim h
noncomputable def uC(T:Tv):UT:=λρ Q=>Q T ρ
theorem uM{e:Expr}{v:V}(h:PE X e (tC v))(f:eC v=true):UE X F e (uC (.leaf v)):=⟨PE.imp h λσ H QQ ⟨ρ,Q,fr,h,k⟩=>k v (.leaf v) H ρ (bq.refl fr) (.flat f) h⟩
theorem aE{i j pos}:UE X F (.Constant (.int i) j pos) (uC (iT i)):=uM cR rfl
theorem dS{b j pos}:UE X F (.Constant (.bool b) j pos) (uC (bT b)):=uM Hc rfl
theorem gW{j pos}:UE X F (.Constant .none j pos) (uC nT):=uM Hz rfl
theorem aT{x j pos}:UE X F (.Constant (.str x) j pos) (uC (sT x)):=uM HC rfl
theorem KN{x:Str}{v:V}{u:Value}{T:Tv}{pos:Pos}(hg:Gl X x)(hm:X.mg x=some u)(r:aj v u)(hv:∀H,VA X.K H v T)(hd:(x==("__debug__":Str))=false:=by decide):UE X F (.Name x pos) (uC T):=
 ⟨PE.imp (BD hg hm r hd) λσ H QQ ⟨ρ,Q,fr,h,k⟩=>k v T H ρ (bq.refl fr) (hv H) h⟩
noncomputable def vP(K:W.Frag)(r:P2)(r':R2):Prop:=∀x y T U H Q (QQ:VK),VA K H x T->VA K H y U->r T U Q->(∀z W H',i3 K H H' z W->Q W->QQ z H')->r' x y H QQ
noncomputable def iW(X:Cx)(f:Value->Value->Sem Value)(r:P2):Prop:=∃r',cf X f r'/\vP X.K r r'
noncomputable def iu(r:P2)(ua ub:UT):UT:=λρ Q=>ua ρ λa ρ1=>ub ρ1 λb ρ2=>r a b λc=>Q c ρ2
theorem yJ{r:P2}{r':R2}{ua ub:UT}(hr:vP X.K r r')(σ:St)(H:Hp)(QQ:VK)(h:fQ X.K F (iu r ua ub) σ H QQ):wj (r9 r' (fQ X.K F ua) (fQ X.K F ub)) σ H QQ:=by
 obtain⟨ρ,Q,fr,h,k⟩:=h;refine⟨ρ,_,fr,h,λx T H1 ρ1 s1 v1 q1=>⟨ρ1,_,s1.fr,q1,λy U H2 ρ2 s2 v2 q2=>?_⟩⟩;refine hr x y T U H2 _ _ (v1.hs (s2.hs s1.fr)) v2 q2 λz W H' rw q=>rw.fin s2.fr λH'' s3 v3=>k _ _ _ _ ((s1.trans s2).trans s3) v3 q
variable{a b c:Expr}{ua ub uc:UT}{pos:Pos}
theorem bE{op:Operator}{r:P2}(ho:iW X (binaryOp op) r)(ha:UE X F a ua)(hb:UE X F b ub):UE X F (.BinOp a op b pos) (iu r ua ub):=by
 obtain⟨r',o,hr⟩:=ho;exact⟨PE.imp (PE.fz (cT o ha.pe hb.pe)) (yJ hr)⟩
theorem Jz{op:CmpOp}{r:P2}(ho:iW X (compareOp op) r)(ha:UE X F a ua)(hb:UE X F b ub)(hm:behindInMarks op b=false):UE X F (.Compare a [op] [b] pos) (iu r ua ub):=by
 obtain⟨r',o,hr⟩:=ho;exact⟨PE.imp (PE.fz (KZ o ha.pe hb.pe hm)) (yJ hr)⟩
noncomputable def uB(u:UT):d5:=λρ Q=>u ρ λT ρ'=>∃b,T=bT b/\Q b ρ'
theorem ym{e:Expr}{t:TE}{u:UT}(h:PT X e (zI t))(i:∀σ H QQ,fQ X.K F u σ H QQ->t σ H QQ):UB X F e (uB u):=⟨PT.imp h λσ H QQ ⟨ρ,Q,fr,h,k⟩=>by
 refine i σ H _ ⟨ρ,_,fr,h,λx T H' ρ' s v q=>?_⟩;obtain⟨b,rfl,q⟩:=q;obtain⟨e,_⟩:=v.leafI
 exact⟨b,e,k b H' ρ' s q⟩⟩
noncomputable def jf(K:W.Frag)(r:P2)(r':R2):Prop:=∀x y T U H Q (QQ:VK),VA K H x T->VA K H y U->r T U Q->(∀z W H',ba H H'->VA K H' z W->Q W->QQ z H')->r' x y H QQ
noncomputable def b7(X:Cx)(f:Value->Value->Sem Value)(r:P2):Prop:=∃r',cf X f r'/\jf X.K r r'
theorem jf.raw{K:W.Frag}{r:P2}{r':R2}(h:jf K r r'):vP K r r':=λx y T U H Q QQ vx vy q k=>h x y T U H Q QQ vx vy q λz W H' s v q'=>k z W H' ⟨s,.inl v⟩ q'
theorem b7.op{f:Value->Value->Sem Value}{r:P2}(h:b7 X f r):iW X f r:=by
 obtain⟨r',o,h⟩:=h;exact⟨r',o,h.raw⟩
theorem L7{r:P2}{r':R2}{ua ub:UT}(hr:jf X.K r r')(σ:St)(H:Hp)(QQ:VK)(h:fQ X.K F (iu r ua ub) σ H QQ):r9 r' (fQ X.K F ua) (fQ X.K F ub) σ H QQ:=by
 obtain⟨ρ,Q,fr,h,k⟩:=h;refine⟨ρ,_,fr,h,λx T H1 ρ1 s1 v1 q1=>⟨ρ1,_,s1.fr,q1,λy U H2 ρ2 s2 v2 q2=>?_⟩⟩;exact hr x y T U H2 _ _ (v1.hs (s2.hs s1.fr)) v2 q2 λz W H' s v q=>k _ _ _ _ ((s1.trans s2).trans (bq.same s2.fr s)) v q
theorem yY{op:CmpOp}{r:P2}(ho:b7 X (compareOp op) r)(ha:UE X F a ua)(hb:UE X F b ub)(hm:behindInMarks op b=false):UB X F (.Compare a [op] [b] pos) (uB (iu r ua ub)):=by
 obtain⟨r',o,hr⟩:=ho;exact ym (xX o ha.pe hb.pe hm) (L7 hr)
noncomputable def yZ(r r':P2)(ua ub uc:UT):UT:=λρ Q=>ua ρ λa ρ1=>ub ρ1 λb ρ2=>r a b λz=>∃k,z=bT k/\(if k=true then uc ρ2 λc ρ3=>r' b c λw=>Q w ρ3 else Q (bT false) ρ2)
theorem DJ{r r':P2}{s s':R2}(hr:jf X.K r s)(hr':jf X.K r' s')(σ:St)(H:Hp)(QQ:VK)(h:fQ X.K F (yZ r r' ua ub uc) σ H QQ):zD s s' (fQ X.K F ua) (fQ X.K F ub) (fQ X.K F uc) σ H QQ:=by
 obtain⟨ρ,Q,fr,h,k⟩:=h;refine⟨ρ,_,fr,h,λx T H1 ρ1 s1 v1 q1=>⟨ρ1,_,s1.fr,q1,λy U H2 ρ2 s2 v2 q2=>?_⟩⟩;refine hr x y T U H2 _ _ (v1.hs (s2.hs s1.fr)) v2 q2 λz W H3 ss v3 q3=>?_
 obtain⟨b,rfl,q3⟩:=q3;obtain⟨e,_⟩:=v3.leafI;have s3:=bq.same s2.fr ss;refine⟨b,e,?_⟩;cases b with
 |false=>
  rw[if_neg b9]at q3 ⊢;exact k _ _ _ _ ((s1.trans s2).trans s3) (.flat rfl) q3
 |true=>
  rw[if_pos rfl]at q3 ⊢;refine⟨ρ2,_,s3.fr,q3,λz' W' H4 ρ4 s4 v4 q4=>?_⟩;exact hr' y z' U W' H4 _ _ ((v2.hs (s3.hs s2.fr)).hs (s4.hs s3.fr)) v4 q4 λz5 W5 H5 s5 v5 q5=>k _ _ _ _ (((s1.trans s2).trans s3).trans (s4.trans (bq.same s4.fr s5))) v5 q5
theorem wX{op op':CmpOp}{r r':P2}(ho:b7 X (compareOp op) r)(ho':b7 X (compareOp op') r')(ha:UE X F a ua)(hb:UE X F b ub)(hc:UE X F c uc)(hm:lastMarks [op,op'] [b,c]=false:=by with_unfolding_all rfl):
  UE X F (.Compare a [op,op'] [b,c] pos) (yZ r r' ua ub uc):=by
 obtain⟨s,o,hr⟩:=ho;obtain⟨s',o',hr'⟩:=ho';exact⟨PE.imp (LF o o' ha.pe hb.pe hc.pe hm) (DJ hr hr')⟩
theorem Dj{op op':CmpOp}{r r':P2}(ho:b7 X (compareOp op) r)(ho':b7 X (compareOp op') r')(ha:UE X F a ua)(hb:UE X F b ub)(hc:UE X F c uc)(hm:lastMarks [op,op'] [b,c]=false:=by with_unfolding_all rfl):
  UB X F (.Compare a [op,op'] [b,c] pos) (uB (yZ r r' ua ub uc)):=by
 obtain⟨s,o,hr⟩:=ho;obtain⟨s',o',hr'⟩:=ho';exact ym (LN o o' ha.pe hb.pe hc.pe hm) (DJ hr hr')
noncomputable def xi(X:Cx)(f:Value->Sem Value)(r:P1):Prop:=∃r',ur X f r'/\∀x T H Q (QQ:VK),VA X.K H x T->r T Q->(∀z W,VA X.K H z W->Q W->QQ z H)->r' x H QQ
noncomputable def N9(r:P1)(ua:UT):UT:=λρ Q=>ua ρ λa ρ1=>r a λc=>Q c ρ1
theorem A3{op:UnaryOp}{r:P1}(ho:xi X (unaryOp op) r)(ha:UE X F a ua):UE X F (.UnaryOp op a pos) (N9 r ua):=by
 obtain⟨r',o,hr⟩:=ho;refine⟨PE.imp (yi o ha.pe) ?_⟩;rintro σ H QQ ⟨ρ,Q,fr,h,k⟩;exact⟨ρ,_,fr,h,λx T H1 ρ1 s1 v1 q1=>hr x T H1 _ _ v1 q1 λz W v q=>k _ _ _ _ s1 v q⟩
noncomputable def xo:P1
 |.leaf (.int i),Q=>Q (iT (-i))
 |_,_=>False
theorem AU:xi X (unaryOp .USub) xo:=⟨_,Ae,λx T H Q QQ v h k=>by
 unfold xo at h;split at h
 ·obtain⟨rfl,_⟩:=v.leafI;exact⟨_,rfl,k _ _ (.flat rfl) h⟩
 ·exact False.elim h⟩
noncomputable def GE(ua ub:UT):UT:=λρ Q=>ua ρ λa ρ1=>∃c,a=bT c/\if c=true then ub ρ1 Q else Q (bT false) ρ1
noncomputable def Hk(ua ub:UT):UT:=λρ Q=>ua ρ λa ρ1=>∃c,a=bT c/\if c=true then Q (bT true) ρ1 else ub ρ1 Q
theorem gC{op}{u:UT}(h:UE X F a u):UE X F (.BoolOp op [a] pos) u:=⟨HA h.pe⟩
theorem fL{rest:List Expr}(ha:UE X F a ua)(hb:UE X F (.BoolOp .And (b::rest) pos) ub):UE X F (.BoolOp .And (a::b::rest) pos) (GE ua ub):=⟨PE.imp (Hw ha.pe hb.pe) λσ H QQ ⟨ρ,Q,fr,h,k⟩=>by
 refine⟨ρ,_,fr,h,λx T H1 ρ1 s1 v1 q1=>?_⟩;obtain⟨c,rfl,q1⟩:=q1;obtain⟨e,_⟩:=v1.leafI;refine⟨c,e,?_⟩;cases c with
 |false=>rw[if_neg b9]at q1 ⊢;exact k _ _ _ _ s1 (.flat rfl) q1
 |true=>rw[if_pos rfl]at q1 ⊢;exact⟨ρ1,_,s1.fr,q1,λy U H2 ρ2 s2 v2 q2=>k _ _ _ _ (s1.trans s2) v2 q2⟩⟩
theorem GK{rest:List Expr}(ha:UE X F a ua)(hb:UE X F (.BoolOp .Or (b::rest) pos) ub):UE X F (.BoolOp .Or (a::b::rest) pos) (Hk ua ub):=⟨PE.imp (Hd ha.pe hb.pe) λσ H QQ ⟨ρ,Q,fr,h,k⟩=>by
 refine⟨ρ,_,fr,h,λx T H1 ρ1 s1 v1 q1=>?_⟩;obtain⟨c,rfl,q1⟩:=q1;obtain⟨e,_⟩:=v1.leafI;refine⟨c,e,?_⟩;cases c with
 |true=>rw[if_pos rfl]at q1 ⊢;exact k _ _ _ _ s1 (.flat rfl) q1
 |false=>rw[if_neg b9]at q1 ⊢;exact⟨ρ1,_,s1.fr,q1,λy U H2 ρ2 s2 v2 q2=>k _ _ _ _ (s1.trans s2) v2 q2⟩⟩
noncomputable def Fw(t u:d5):d5:=λρ Q=>t ρ λc ρ1=>if c=true then u ρ1 Q else Q false ρ1
noncomputable def Oa(t u:d5):d5:=λρ Q=>t ρ λc ρ1=>if c=true then Q true ρ1 else u ρ1 Q
noncomputable def Hj(t:d5):d5:=λρ Q=>t ρ λc ρ1=>Q (!c) ρ1
variable{ta tb:d5}{rest:List Expr}
theorem kK(ha:UB X F a ta):UW X F (.BoolOp .And [a] pos) ta:=⟨K7 ha.pt⟩
theorem gB(ha:UB X F a ta):UW X F (.BoolOp .Or [a] pos) ta:=⟨HQ ha.pt⟩
theorem jS(ha:UB X F a ta)(hb:UW X F (.BoolOp .And (b::rest) pos) tb):UW X F (.BoolOp .And (a::b::rest) pos) (Fw ta tb):=⟨PW.imp (HP ha.pt hb.pw) λσ H QQ ⟨ρ,Q,fr,h,k⟩=>by
 refine⟨ρ,_,fr,h,λc H1 ρ1 s1 q1=>?_⟩;cases c with
 |false=>rw[if_neg b9]at q1 ⊢;exact k _ _ _ s1 q1
 |true=>rw[if_pos rfl]at q1 ⊢;exact⟨ρ1,_,s1.fr,q1,λy H2 ρ2 s2 q2=>k _ _ _ (s1.trans s2) q2⟩⟩
theorem fO(ha:UB X F a ta)(hb:UW X F (.BoolOp .Or (b::rest) pos) tb):UW X F (.BoolOp .Or (a::b::rest) pos) (Oa ta tb):=⟨PW.imp (Hh ha.pt hb.pw) λσ H QQ ⟨ρ,Q,fr,h,k⟩=>by
 refine⟨ρ,_,fr,h,λc H1 ρ1 s1 q1=>?_⟩;cases c with
 |true=>rw[if_pos rfl]at q1 ⊢;exact k _ _ _ s1 q1
 |false=>rw[if_neg b9]at q1 ⊢;exact⟨ρ1,_,s1.fr,q1,λy H2 ρ2 s2 q2=>k _ _ _ (s1.trans s2) q2⟩⟩
theorem dX{e:Expr}{t:d5}(h:UW X F e t):UB X F e t:=⟨h.pw.pt⟩
theorem eM(ha:UB X F a ta):UB X F (.UnaryOp .Not a pos) (Hj ta):=⟨PT.imp (HK ha.pt) λσ H QQ ⟨ρ,Q,fr,h,k⟩=>⟨ρ,_,fr,h,λc H1 ρ1 s1 q1=>k _ _ _ s1 q1⟩⟩
theorem cW{e:Expr}{u:UT}(h:UE X F e u)(he:∀whole,isTrue e X.env whole=(do let v <- whole;standAt e.pos;holding [v] (truthy v)):=by intro _;rfl):UB X F e (uB u):=⟨PT.imp (HL h.pe he) λσ H QQ ⟨ρ,Q,fr,h,k⟩=>by
 refine⟨ρ,_,fr,h,λx T H' ρ' s v q=>?_⟩;obtain⟨b,rfl,q⟩:=q;obtain⟨e,_⟩:=v.leafI
 exact⟨b,e,k b H' ρ' s q⟩⟩
noncomputable def Od(t:d5)(ua ub:UT):UT:=λρ Q=>t ρ λc ρ1=>if c=true then ua ρ1 Q else ub ρ1 Q
theorem mV(hc:UB X F c ta)(ha:UE X F a ua)(hb:UE X F b ub):UE X F (.IfExp c a b pos) (Od ta ua ub):=⟨PE.imp (LI hc.pt ha.pe hb.pe) λσ H QQ ⟨ρ,Q,fr,h,k⟩=>by
 refine⟨ρ,_,fr,h,λc H1 ρ1 s1 q1=>?_⟩;cases c with
 |true=>rw[if_pos rfl]at q1 ⊢;exact⟨ρ1,_,s1.fr,q1,λy U H2 ρ2 s2 v2 q2=>k _ _ _ _ (s1.trans s2) v2 q2⟩
 |false=>rw[if_neg b9]at q1 ⊢;exact⟨ρ1,_,s1.fr,q1,λy U H2 ρ2 s2 v2 q2=>k _ _ _ _ (s1.trans s2) v2 q2⟩⟩
noncomputable def hJ:gg:=λρ Q=>Q [] ρ
noncomputable def iQ(u:UT)(t:gg):gg:=λρ Q=>u ρ λT ρ1=>t ρ1 λas ρ2=>Q (.va T::as) ρ2
noncomputable def Oe(i:Nat)(t:gg):gg:=λρ Q=>ρ[i]?=some .dk/\t ρ λas ρ2=>Q (.dk::as) ρ2
theorem aG:UA X F [] hJ:=⟨PA.imp eO λσ H QQ ⟨ρ,Q,fr,h,k⟩=>k [] [] H ρ (bq.refl fr) .nil h⟩
theorem aD{e:Expr}{es:List Expr}{u:UT}{t:gg}(ha:UE X F e u)(hr:UA X F es t)(h:eX e=false:=by rfl):UA X F (e::es) (iQ u t):=⟨PA.imp (dR ha.pe hr.pa h) λσ H QQ ⟨ρ,Q,fr,h,k⟩=>by
 refine⟨ρ,_,fr,h,λx T H1 ρ1 s1 v1 q1=>⟨ρ1,_,s1.fr,q1,λxs as H2 ρ2 s2 p2 q2=>?_⟩⟩
 exact k _ _ _ _ (s1.trans s2) (.cons (b:=Ar.va T) (v1.hs (s2.hs s1.fr)) p2) q2⟩
theorem cE(i:Nat){x:Str}{pos:Pos}{es:List Expr}{t:gg}(hr:UA X F es t)(hN:X.N[i]?=some x:=by rfl)(hv:qb X.env.scope x:=by first|exact Or.inl rfl|exact Or.inr (Or.inl rfl)|exact Or.inr (Or.inr rfl))(hd:(x==("__debug__":Str))=false:=by decide)(hcd:(x==("__classdict__":Str))=false:=by decide):
  UA X F (.Name x pos::es) (Oe i t):=⟨PA.imp (dR (lZ hN hv hd hcd) hr.pa rfl) λσ H QQ ⟨ρ,Q,fr,⟨e,h⟩,k⟩=>by
 obtain⟨p,c,ed,ex⟩:=fr.at_ i _ e;refine⟨_,kJ ex,ρ,_,fr,h,λxs as H2 ρ2 s2 p2 q2=>?_⟩
 exact k _ _ _ _ s2 (.cons (b:=Ar.dk) ⟨p,c,ed,rfl⟩ p2) q2⟩
noncomputable def we:List Ar->(List Tv->Prop)->Prop
 |[],Q=>Q []
 |.va T::as,Q=>we as λTs=>Q (T::Ts)
 |.dk::_,_=>False
theorem lV:∀{as:List Ar}{Q:List Tv->Prop},we as Q->∃Ts,as=Ts.map Ar.va/\Q Ts
 |[],_,h=>⟨[],rfl,h⟩
 |.va T::as,Q,h=>by
  obtain⟨Ts,rfl,q⟩:=lV (as:=as) (Q:=λTs=>Q (T::Ts)) h;exact⟨T::Ts,rfl,q⟩
 |.dk::_,_,h=>False.elim h
noncomputable def rq(ua:gg):g5:=λρ Q=>ua ρ λas ρ1=>we as λTs=>Q Ts ρ1
theorem lW{K:W.Frag}{dk:Option (Addr×Addr)}{H:Hp}:∀{xs:List V}{Ts:List Tv},Paired (vR K dk H) xs (Ts.map Ar.va)->c_ K H xs Ts
 |[],[],_=>.nil
 |_::_,_::_,.cons r t=>.cons r (lW t)
noncomputable def Hl(ua:gg):UT:=λρ Q=>rq ua ρ λTs ρ1=>Ts.length<=100000/\Q (.seq true Ts) ρ1
noncomputable def xq(ua:gg):g5:=λρ Q=>rq ua ρ λTs ρ1=>Ts.length<=100000/\Q Ts ρ1
theorem iK{n:Nat}(h:n<=100000):n<=sizeLine:=by rw[sizeLine_eq];omega
theorem yI{n:Nat}(h:n<100000):n<sizeLine:=by rw[sizeLine_eq];omega
theorem cH{es:List Expr}{t:gg}{x1}(h:UA X F es t):UE X F (.Tuple es x1 pos) (Hl t):=⟨PE.imp (HD h.pa) λσ H QQ ⟨ρ,Q,fr,h,k⟩=>by
 refine⟨ρ,_,fr,h,λxs as H1 ρ1 s1 p1 q1=>?_⟩;obtain⟨Ts,rfl,z,q⟩:=lV q1;have p:=lW p1;have l:xs.length=Ts.length:=Paired.length p;refine⟨iK (by omega),λa n=>?_⟩;have r:=i3.tup (K:=X.K) n z p
 exact k _ _ _ _ (s1.trans (bq.same s1.fr r.1)) (VA.seq (t:=true) (cu.of bL) z (p.hs (nV n))) q⟩
theorem cC{es:List Expr}{t:gg}(h:UA X F es t):UL X F (.List es pos) (xq t):=⟨PE.imp (AO h.pa) λσ H QQ ⟨ρ,Q,fr,h,k⟩=>by
 refine⟨ρ,_,fr,h,λxs as H1 ρ1 s1 p1 q1=>?_⟩;obtain⟨Ts,rfl,z,q⟩:=lV q1;have p:=lW p1;have l:xs.length=Ts.length:=Paired.length p;refine⟨iK (by omega),λa n=>?_⟩
 exact k _ _ _ _ _ (s1.trans (bq.same s1.fr (dC n))) (s1.non n) bL z (p.hs (nV n)) q⟩
end
theorem av.fzn{K:W.Frag}{F:Fm}{ρ:aW}{σ:St}{H:Hp}{a:Addr}{o:HO}(fr:av K F ρ σ H)(h:H a=some o)(n:ig o=true)(h0:F.H0 a=none)(na:∀(i:Nat) (s:Sl),ρ[i]?=some s->fI s=true->e9 σ i≠some (.ref a))(o':HO):av K F ρ σ (aw H a o'):=by
 have hd:=fr.fresh_nodk h0;have hs:HS H (aw H a o'):=iN h (by cases o<;>first|rfl|exact absurd n b9);have st:∀b u,b≠a->H b=some u->aw H a o' b=some u:=λb u z e=>by rw[bU z];exact e
 refine⟨fr.d0,⟨λb u e1 n1=>st b u (λz=>by rw[z,h0]at e1;cases e1) (fr.kp.st b u e1 n1),λp c d=>?_⟩,fr.len,λj s' e'=>?_,fr.ap⟩
 ·obtain⟨ne,⟨S,k,e1⟩,ns,e2,l⟩:=fr.kp.dkk p c d;exact⟨ne,⟨S,k,st _ _ (hd p c d).1.symm e1⟩,ns,st _ _ (hd p c d).2.symm e2,l⟩
 ·have x:=fr.at_ j s' e';cases s' with
  |no=>trivial
  |va T=>obtain⟨y,e1,v⟩:=x;exact⟨y,e1,v.hs hs⟩
  |own Ts=>obtain⟨b,xs,e1,e2,e3,z',p⟩:=x;exact⟨b,xs,e1,st _ _ (λy=>na j _ e' rfl (by rw[e1,y])) e2,e3,z',p.hs hs⟩
  |dct kts=>obtain⟨b,kvs,e1,e2,e3,n',z',p⟩:=x;exact⟨b,kvs,e1,st _ _ (λy=>na j _ e' rfl (by rw[e1,y])) e2,e3,n',z',p.hs hs⟩
  |dk=>exact x
theorem bq.notown{K:W.Frag}{F:Fm}{ρ ρ1:aW}{σ:St}{H H1:Hp}{a:Addr}(s:bq K F σ ρ H ρ1 H1)(fr:av K F ρ σ H)(n:H a=none):∀(i:Nat) (s:Sl),ρ1[i]?=some s->fI s=true->e9 σ i≠some (.ref a):=λi s' e m q=>by
 obtain⟨s0,e0,m0⟩:=s.sub i s' e m;obtain⟨⟨o,e1,_⟩,_⟩:=fr.own_at e0 m0 q;rw[n]at e1;cases e1
theorem bq.put{K:W.Frag}{F:Fm}{ρ ρ1:aW}{σ:St}{H H1:Hp}{a:Addr}{o:HO}(s:bq K F σ ρ H ρ1 H1)(fr:av K F ρ σ H)(n:H a=none)(e:H1 a=some o)(m:ig o=true)(o':HO):bq K F σ ρ H ρ1 (aw H1 a o'):=
 ⟨s.fr.fzn e m (fr.none0 n) (s.notown fr n) o',λb u q d n1=>by rw[bU (eW q n)];exact s.st b u q d n1,s.sub,λb u q=>by rw[bU (eW q n)];exact s.tr b u q⟩
section
variable{X:Cx}{F:Fm}{e:Expr}{pos:Pos}
noncomputable def uL(u:g5):UT:=λρ Q=>u ρ λTs ρ1=>Q (.seq false Ts) ρ1
theorem bB{u:g5}(h:UL X F e u):UE X F e (uL u):=⟨PE.imp (PE.fz h.pe) λσ H QQ ⟨ρ,Q,fr,h,k⟩=>⟨ρ,_,fr,h,λa xs Ts H' ρ' s n e z p q=>
 .inr ⟨a,_,rfl,e,rfl,λob=>k _ _ _ _ (s.put fr n e rfl (.frz ob (.lst xs))) (VA.seq (t:=false) ⟨ob,bL⟩ z (p.hs (iN e rfl))) q⟩⟩⟩
noncomputable def xg(K:W.Frag)(r:Pn)(r':List V->Hp->VK->Prop):Prop:=∀xs Ts H Q (QQ:VK),c_ K H xs Ts->r Ts Q->(∀z W H',i3 K H H' z W->Q W->QQ z H')->r' xs H QQ
noncomputable def iO(X:Cx)(f:Value)(r:Pn):Prop:=∃r',au X f r'/\xg X.K r r'
noncomputable def r8(r:Pn)(ua:gg):UT:=λρ Q=>rq ua ρ λTs ρ1=>r Ts λW=>Q W ρ1
theorem B6{r:Pn}{r':List V->Hp->VK->Prop}{ua:gg}(hr:xg X.K r r')(σ:St)(H:Hp)(QQ:VK)(h:fQ X.K F (r8 r ua) σ H QQ):wj (um r' (uG X.K F ua)) σ H QQ:=by
 obtain⟨ρ,Q,fr,h,k⟩:=h;refine⟨ρ,_,fr,h,λxs as H1 ρ1 s1 p1 q1=>?_⟩;obtain⟨Ts,rfl,q⟩:=lV q1;exact hr xs Ts H1 _ _ (lW p1) q λz W H' rw q=>rw.fin s1.fr λH'' s3 v3=>k _ _ _ _ (s1.trans s3) v3 q
variable{es:List Expr}{x:Str}{p:Pos}{ua:gg}
theorem bI{id:String}{r:Pn}(hc:iO X (.builtin id) r)(hg:Gl X x)(hm:X.mg x=none)(hv:bootBuiltins x=some (.builtin id))(ha:UA X F (e::es) ua)(hn:x≠"__name__":=by decide)(hdb:(x==("__debug__":Str))=false:=by decide)
  (he:starEach (e::es) X.env=(false,eval e X.env)::starEach es X.env:=by rfl) (hpl:(backTo pos (starEach es X.env)).any (·.1)=false:=by rfl):UE X F (.Call (.Name x p) (e::es) [] pos) (r8 r ua):=by
 obtain⟨r',o,hr⟩:=hc;exact⟨PE.imp (PE.fz (kH o hg hm hv ha.pa hn hdb he hpl)) (B6 hr)⟩
theorem lI{id:String}{r:Pn}(hc:iO X (.type id) r)(hg:Gl X x)(hm:X.mg x=none)(hv:bootBuiltins x=some (.type id))(ha:UA X F (e::es) ua)(hn:x≠"__name__":=by decide)(hdb:(x==("__debug__":Str))=false:=by decide)
  (he:starEach (e::es) X.env=(false,eval e X.env)::starEach es X.env:=by rfl) (hpl:(backTo pos (starEach es X.env)).any (·.1)=false:=by rfl):UE X F (.Call (.Name x p) (e::es) [] pos) (r8 r ua):=by
 obtain⟨r',o,hr⟩:=hc;exact⟨PE.imp (PE.fz (jM o hg hm hv ha.pa hn hdb he hpl)) (B6 hr)⟩
noncomputable def xf(K:W.Frag)(r:List Tv->(List Tv->Prop)->Prop)(r':List V->Hp->VK->Prop):Prop:=∀xs Ts H Q (QQ:VK),c_ K H xs Ts->r Ts Q->(∀a ys Us H',ba H H'->H a=none->H' a=some (.lst ys)->Us.length<=100000->c_ K H' ys Us->Q Us->QQ (.ref a) H')->r' xs H QQ
noncomputable def tE(X:Cx)(f:Value)(r:List Tv->(List Tv->Prop)->Prop):Prop:=∃r',au X f r'/\xf X.K r r'
noncomputable def wg(r:List Tv->(List Tv->Prop)->Prop)(ua:gg):g5:=λρ Q=>rq ua ρ λTs ρ1=>r Ts λUs=>Q Us ρ1
theorem B7{r:List Tv->(List Tv->Prop)->Prop}{r':List V->Hp->VK->Prop}{ua:gg}(hr:xf X.K r r')(σ:St)(H:Hp)(QQ:VK)(h:uF X.K F (wg r ua) σ H QQ):um r' (uG X.K F ua) σ H QQ:=by
 obtain⟨ρ,Q,fr,h,k⟩:=h;refine⟨ρ,_,fr,h,λxs as H1 ρ1 s1 p1 q1=>?_⟩;obtain⟨Ts,rfl,q⟩:=lV q1;exact hr xs Ts H1 _ _ (lW p1) q λa ys Us H' sm n e z p q=>k _ _ _ _ _ (s1.trans (bq.same s1.fr sm)) (s1.non n) e z p q
theorem K_{id:String}{r:List Tv->(List Tv->Prop)->Prop}(hc:tE X (.builtin id) r)(hg:Gl X x)(hm:X.mg x=none)(hv:bootBuiltins x=some (.builtin id))(ha:UA X F (e::es) ua)(hn:x≠"__name__":=by decide)(hdb:(x==("__debug__":Str))=false:=by decide)
  (he:starEach (e::es) X.env=(false,eval e X.env)::starEach es X.env:=by rfl) (hpl:(backTo pos (starEach es X.env)).any (·.1)=false:=by rfl):UL X F (.Call (.Name x p) (e::es) [] pos) (wg r ua):=by
 obtain⟨r',o,hr⟩:=hc;exact⟨PE.imp (kH o hg hm hv ha.pa hn hdb he hpl) (B7 hr)⟩
theorem mR{id:String}{r:List Tv->(List Tv->Prop)->Prop}(hc:tE X (.type id) r)(hg:Gl X x)(hm:X.mg x=none)(hv:bootBuiltins x=some (.type id))(ha:UA X F (e::es) ua)(hn:x≠"__name__":=by decide)(hdb:(x==("__debug__":Str))=false:=by decide)
  (he:starEach (e::es) X.env=(false,eval e X.env)::starEach es X.env:=by rfl) (hpl:(backTo pos (starEach es X.env)).any (·.1)=false:=by rfl):UL X F (.Call (.Name x p) (e::es) [] pos) (wg r ua):=by
 obtain⟨r',o,hr⟩:=hc;exact⟨PE.imp (jM o hg hm hv ha.pa hn hdb he hpl) (B7 hr)⟩
noncomputable abbrev bf:=List Ar->(Tv->Prop)->Prop
noncomputable def zS(K:W.Frag)(psp:bf):Sp:=λvs H Q _=>∃dk as R,(∀p c,dk=some (p,c)->bt H p c)/\Paired (vR K dk H) vs as/\psp as R/\∀x T H',Kp dk H H'->VA K H' x T->R T->Q x H'
noncomputable def ae(P:Program)(w:World)(K:W.Frag)(mg:Str->Option Value)(base:Heap)(k:Nat)(x:Str)(ps:List Str)(psp:bf):Prop:=cw P w K mg base k x ps (zS K psp)
theorem ae.imp{P:Program}{w:World}{K:W.Frag}{mg:Str->Option Value}{base:Heap}{k:Nat}{ps:List Str}{psp psp':bf}(G:ae P w K mg base k x ps psp)(h:∀as R,psp' as R->psp as R):ae P w K mg base k x ps psp':=
 cw.imp G λvs H Q E ⟨dk,as,R,d,p,q,r⟩=>⟨dk,as,R,d,p,h as R q,r⟩
theorem ae.mono{P:Program}{w:World}{K:W.Frag}{mg:Str->Option Value}{base:Heap}{j k:Nat}{ps:List Str}{psp:bf}(G:ae P w K mg base j x ps psp)(h:j<=k):ae P w K mg base k x ps psp:=cw.mono G h
noncomputable def mF(psp:bf)(ua:gg):UT:=λρ Q=>ua ρ λas ρ1=>psp as λW=>Q W ρ1
theorem MC{psp:bf}{ua:gg}(σ:St)(H:Hp)(QQ:VK)(h:fQ X.K F (mF psp ua) σ H QQ):qD (zS X.K psp) [] E0 (uG X.K F ua) σ H QQ:=by
 obtain⟨ρ,Q,fr,h,k⟩:=h;refine⟨ρ,_,fr,h,λxs as H1 ρ1 s1 p1 q1=>?_⟩;show zS X.K psp (xs++[]) H1 QQ E0;rw[i8];exact⟨F.dk,as,_,s1.fr.kp.dkk,p1,q1,λz W H' kp v q=>k _ _ _ _ (s1.trans (bq.call s1.fr kp)) v q⟩
theorem GI{k:Nat}{ps:List Str}{psp:bf}(G:ae X.prog X.w X.K X.mg X.base k x ps psp)(hr:br k X.A)(hg:Gl X x)(ha:UA X F (e::es) ua)(hdb:(x==("__debug__":Str))=false:=by decide)
  (hst:eX e=false:=by rfl) (hpl:(backTo pos (starEach es X.env)).any (·.1)=false:=by rfl):UE X F (.Call (.Name x p) (e::es) [] pos) (mF psp ua):=
 ⟨PE.imp (uA G hr hg ha.pa hdb hst hpl) MC⟩
theorem yX{k:Nat}{ps:List Str}{psp:bf}(G:ae X.prog X.w X.K X.mg X.base k x ps psp)(hr:br k X.A)(hg:Gl X x)(hdb:(x==("__debug__":Str))=false:=by decide):UE X F (.Call (.Name x p) [] [] pos) (mF psp hJ):=
 ⟨PE.imp (Hy G hr hg hdb) λσ H QQ ⟨ρ,Q,fr,h,k⟩=>⟨F.dk,[],_,fr.kp.dkk,.nil,h,λz W H' kp v q=>k _ _ _ _ (bq.call fr kp) v q⟩⟩
noncomputable def xc(X:Cx)(r:P2):Prop:=∃r',nk X r'/\vP X.K r r'
variable{a b:Expr}{va vb:UT}
theorem GJ{r:P2}(ho:xc X r)(ha:UE X F a va)(hb:UE X F b vb)(hs:tF b:=by intro _ _;rfl):UE X F (.Subscript a b pos) (iu r va vb):=by
 obtain⟨r',o,hr⟩:=ho;exact⟨PE.imp (PE.fz (jX o ha.pe hb.pe hs)) (yJ hr)⟩
noncomputable abbrev sa:=aW->(Option Int->aW->Prop)->Prop
noncomputable def GU(K:W.Frag)(F:Fm)(u:sa):TO:=λσ H QQ=>∃ρ Q,av K F ρ σ H/\u ρ Q/\∀o H' ρ',bq K F σ ρ H ρ' H'->Q o ρ'->QQ o H'
structure UO (X:Cx) (F:Fm) (e:Option Expr) (u:sa):Prop where
 po:PO X e (GU X.K F u)
theorem PO.imp{e:Option Expr}{t t':TO}(h:PO X e t)(i:∀σ H Q,t' σ H Q->t σ H Q):PO X e t':=λPp s σ H Q I q=>h Pp s σ H Q I (i σ H Q q)
noncomputable def N7:sa:=λρ Q=>Q none ρ
noncomputable def N6(u:UT):sa:=λρ Q=>u ρ λT ρ1=>∃i,T=iT i/\Q (some i) ρ1
theorem fY:UO X F none N7:=⟨PO.imp BH λσ H QQ ⟨ρ,Q,fr,h,k⟩=>k _ _ _ (bq.refl fr) h⟩
theorem fX{u:UT}(h:UE X F e u):UO X F (some e) (N6 u):=⟨PO.imp (BI h.pe) λσ H QQ ⟨ρ,Q,fr,h,k⟩=>⟨ρ,_,fr,h,λx T H1 ρ1 s1 v1 q1=>by
 obtain⟨i,rfl,q⟩:=q1
 exact⟨i,v1.leafI.1,k _ _ _ s1 q⟩⟩⟩
noncomputable abbrev uw:=Tv->Option Int->Option Int->(Tv->Prop)->Prop
noncomputable def xh(X:Cx)(r:uw):Prop:=∃r',o8 X r'/\∀x T lo hi H Q (QQ:VK),VA X.K H x T->r T lo hi Q->(∀z W H',i3 X.K H H' z W->Q W->QQ z H')->r' x lo hi H QQ
noncomputable def N_(r:uw)(u:UT)(lo hi:sa):UT:=λρ Q=>u ρ λT ρ1=>lo ρ1 λl ρ2=>hi ρ2 λh ρ3=>r T l h λW=>Q W ρ3
theorem fW{r:uw}{lo hi:Option Expr}{ul uh:sa}{p2:Pos}(ho:xh X r)(ha:UE X F a va)(hl:UO X F lo ul)(hh:UO X F hi uh):UE X F (.Subscript a (.Slice lo hi none p2) pos) (N_ r va ul uh):=by
 obtain⟨r',o,hr⟩:=ho;refine⟨PE.imp (PE.fz (BA o ha.pe hl.po hh.po)) ?_⟩;rintro σ H QQ ⟨ρ,Q,fr,h,k⟩;refine⟨ρ,_,fr,h,λx T H1 ρ1 s1 v1 q1=>⟨ρ1,_,s1.fr,q1,λl H2 ρ2 s2 q2=>⟨ρ2,_,s2.fr,q2,λu H3 ρ3 s3 q3=>?_⟩⟩⟩;exact hr x T l u H3 _ _ ((v1.hs (s2.hs s1.fr)).hs (s3.hs s2.fr)) q3 λz W H' rw q=>rw.fin s3.fr λH'' s4 v4=>k _ _ _ _ ((s1.trans s2).trans (s3.trans s4)) v4 q
end
structure az where
 nx:aW->Prop
 rt:Tv->Prop
 bk:aW->Prop:=λ_=>False
 ct:aW->Prop:=λ_=>False
noncomputable abbrev d6:=az->aW->Prop
noncomputable def nY(K:W.Frag)(F:Fm)(u:d6):TS:=λD σ H=>∃ρ P,av K F ρ σ H/\u P ρ/\(∀σ' H' ρ',av K F ρ' σ' H'->HS H H'->P.nx ρ'->D.nx σ' H')/\(∀x T H',Kp F.dk F.H0 H'->VA K H' x T->P.rt T->D.rt x H') /\
 (∀σ' H' ρ',av K F ρ' σ' H'->HS H H'->P.bk ρ'->D.bk σ' H')/\∀σ' H' ρ',av K F ρ' σ' H'->HS H H'->P.ct ρ'->D.ct σ' H'
structure US (X:Cx) (F:Fm) (st:Stmt) (u:d6):Prop where
 ps:PS X st (nY X.K F u)
structure kx (X:Cx) (F:Fm) (st:List Stmt) (u:d6):Prop where
 ps:iq X st (nY X.K F u)
theorem PS.imp{X:Cx}{st:Stmt}{t t':TS}(h:PS X st t)(i:∀D σ H,t' D σ H->t D σ H):PS X st t':=λPp s σ H D I q=>h Pp s σ H D I (i D σ H q)
theorem iq.imp{X:Cx}{st:List Stmt}{t t':TS}(h:iq X st t)(i:∀D σ H,t' D σ H->t D σ H):iq X st t':=λPp s σ H D I q=>h Pp s σ H D I (i D σ H q)
section
variable{X:Cx}{F:Fm}{e:Expr}{pos:Pos}{st:Stmt}{rest:List Stmt}{u:UT}
noncomputable def zU:d6:=λP ρ=>P.nx ρ
noncomputable def uQ(s t:d6):d6:=λP ρ=>s {P with nx:=λρ'=>t P ρ'} ρ
theorem aX:kx X F [] zU:=⟨iq.imp yC λD σ H ⟨ρ,P,fr,h,k1,_⟩=>k1 σ H ρ fr (HS.refl _) h⟩
theorem aJ{s:d6}(h:US X F st s):kx X F [st] s:=⟨nF h.ps⟩
theorem aI{s t:d6}(h:US X F st s)(hr:kx X F rest t):kx X F (st::rest) (uQ s t):=⟨iq.imp (iZ h.ps hr.ps) λD σ H ⟨ρ,P,fr,h,k1,k2,k3,k4⟩=>by
 refine⟨ρ,_,fr,h,λσ' H' ρ' fr' hs q=>?_,k2,k3,k4⟩
 exact⟨ρ',P,fr',q,λσ2 H2 ρ2 f2 h2 q2=>k1 _ _ _ f2 (hs.trans h2) q2,k2,λσ2 H2 ρ2 f2 h2 q2=>k3 _ _ _ f2 (hs.trans h2) q2,λσ2 H2 ρ2 f2 h2 q2=>k4 _ _ _ f2 (hs.trans h2) q2⟩⟩
noncomputable def qI(u:UT):d6:=λP ρ=>u ρ λT _=>P.rt T
theorem aO(h:UE X F e u):US X F (.Return (some e) pos) (qI u):=⟨PS.imp (nQ h.pe) λD σ H ⟨ρ,P,fr,h,_,k2,_⟩=>⟨ρ,_,fr,h,λx T H' ρ' s v q=>k2 x T H' s.fr.kp v q⟩⟩
noncomputable def wo(t:d5)(s r:d6):d6:=λP ρ=>t ρ λb ρ1=>if b=true then s P ρ1 else r P ρ1
theorem aY{c:Expr}{a b:List Stmt}{t:d5}{s r:d6}(hc:UB X F c t)(ha:kx X F a s)(hb:kx X F b r):US X F (.If c a b pos) (wo t s r):=⟨PS.imp (zP hc.pt ha.ps hb.ps) λD σ H ⟨ρ,P,fr,h,k1,k2,k3,k4⟩=>by
 refine⟨ρ,_,fr,h,λb H1 ρ1 s1 q1=>?_⟩;have hs:=s1.hs fr;have fin:∀{v:d6},v P ρ1->nY X.K F v D σ H1:=λq=>⟨ρ1,P,s1.fr,q,λσ2 H2 ρ2 f2 h2 q2=>k1 _ _ _ f2 (hs.trans h2) q2,k2,λσ2 H2 ρ2 f2 h2 q2=>k3 _ _ _ f2 (hs.trans h2) q2,λσ2 H2 ρ2 f2 h2 q2=>k4 _ _ _ f2 (hs.trans h2) q2⟩
 cases b with
 |true=>exact bW (fin (by rw[if_pos rfl]at q1;exact q1))
 |false=>exact bG (fin (by rw[if_neg b9]at q1;exact q1))⟩
noncomputable def zM(u:UT):d6:=λP ρ=>u ρ λ_ ρ1=>P.nx ρ1
theorem lR(h:UE X F e u)(hs:swapsWith e none pos.line X.env=pure false:=by rfl):US X F (.Expr e pos) (zM u):=⟨PS.imp (BJ h.pe hs) λD σ H ⟨ρ,P,fr,h,k1,_⟩=>⟨ρ,_,fr,h,λx T H' ρ' s v q=>k1 _ _ _ s.fr (s.hs fr) q⟩⟩
theorem av.set{K:W.Frag}{ρ:aW}{σ:St}{H:Hp}{i:Nat}{s:Sl}{x:V}(fr:av K F ρ σ H)(v:i<ρ.length->uz K F H (some x) s)(na:fI s=true->∀a,x=.ref a->∀(j:Nat) (t:Sl),ρ[j]?=some t->fI t=true->e9 σ j≠some (.ref a)):av K F (ρ.set i s) (σ.set i (some x)) H:=by
 have ne:∀j,i≠j->e9 (σ.set i (some x)) j=e9 σ j:=λj z=>by unfold e9;rw[g9 z]
 have self:∀(h:i<ρ.length),e9 (σ.set i (some x)) i=some x:=λh=>by unfold e9;rw[gk (by rw[<-fr.len];exact h)];rfl
 have get:∀(j:Nat) (t:Sl),(ρ.set i s)[j]?=some t->(i=j/\i<ρ.length/\t=s)\/(i≠j/\ρ[j]?=some t):=λj t e=>by
  by_cases z:i=j
  ·subst z;have hi:i<ρ.length:=by
    have:=(qB_.mp e).1;rwa[jc]at this
   rw[gk hi]at e;exact .inl ⟨rfl,hi,(Option.some.inj e).symm⟩
  ·rw[g9 z]at e;exact .inr ⟨z,e⟩
 refine⟨fr.d0,fr.kp,by rw[jc,jc];exact fr.len,λj t e=>?_,λj k a t t' e1 e2 m1 m2 q1 q2=>?_⟩
 ·rcases get j t e with⟨rfl,hi,rfl⟩|⟨z,e⟩
  ·rw[self hi];exact v hi
  ·rw[ne j z];exact fr.at_ j t e
 ·rcases get j t e1 with⟨rfl,hi,rfl⟩|⟨z1,e1⟩
  ·rcases get k t' e2 with⟨rfl,_,rfl⟩|⟨z2,e2⟩
   ·rfl
   ·rw[self hi]at q1;rw[ne k z2]at q2;exact absurd q2 (na m1 a (Option.some.inj q1) k t' e2 m2)
  ·rcases get k t' e2 with⟨rfl,hi,rfl⟩|⟨z2,e2⟩
   ·rw[self hi]at q2;rw[ne j z1]at q1;exact absurd q1 (na m2 a (Option.some.inj q2) j t (by first|exact e1|assumption) m1)
   ·rw[ne j z1]at q1;rw[ne k z2]at q2;exact fr.ap j k a t t' e1 e2 m1 m2 q1 q2
noncomputable def uP(i:Nat)(u:UT):d6:=λP ρ=>u ρ λT ρ1=>P.nx (ρ1.set i (.va T))
theorem JC{i:Nat}{x:Str}{pos':Pos}(hN:X.N.Nodup)(hi:X.N[i]?=some x)(hx:kz X.env.scope x)(he:UE X F e u)(hs:swapsWith e (some (.Name x pos')) pos.line X.env=pure false:=by rfl)(hf:X.fn x=true\/X.env.scope.names.lookup x=some .local:=by first|exact .inl rfl|exact .inr rfl|assumption):
  US X F (.Assign [.Name x pos'] e pos) (uP i u):=⟨PS.imp (kP hN hi hx he.pe hs hf) λD σ H ⟨ρ,P,fr,h,k1,_⟩=>by
 refine⟨ρ,_,fr,h,λx T H' ρ' s v q=>?_⟩
 exact k1 _ _ _ (s.fr.set (s:=.va T) (λ_=>⟨x,rfl,v⟩) (λz=>absurd z b9)) (s.hs fr) q⟩
noncomputable def uR(i:Nat)(u:g5):d6:=λP ρ=>u ρ λTs ρ1=>P.nx (ρ1.set i (.own Ts))
theorem Bp{i:Nat}{u:g5}{t:TE}(ht:∀σ H QQ,uF X.K F u σ H QQ->t σ H QQ)(D:mN)(σ:St)(H:Hp)(h:nY X.K F (uR i u) D σ H):uO t (uI i) D σ H:=by
 obtain⟨ρ,P,fr,h,k1,_⟩:=h;refine ht σ H _ ⟨ρ,_,fr,h,λa xs Ts H' ρ' s n e z p q=>?_⟩;exact k1 _ _ _ (s.fr.set (s:=.own Ts) (λ_=>⟨a,xs,rfl,e,fr.none0 n,z,p⟩) (λ_ b eb j t ej mj qj=>by cases eb;exact s.notown fr n j t ej mj qj)) (s.hs fr) q
theorem JB{i:Nat}{x:Str}{u:g5}{pos':Pos}(hN:X.N.Nodup)(hi:X.N[i]?=some x)(hx:kz X.env.scope x)(he:UL X F e u)(hs:swapsWith e (some (.Name x pos')) pos.line X.env=pure false:=by rfl)(hf:X.fn x=true\/X.env.scope.names.lookup x=some .local:=by first|exact .inl rfl|exact .inr rfl|assumption):
  US X F (.Assign [.Name x pos'] e pos) (uR i u):=⟨PS.imp (kP hN hi hx he.pe hs hf) (Bp λ_ _ _ h=>h)⟩
end
noncomputable def EN:Ar->Sl
 |.va T=>.va T
 |.dk=>.dk
noncomputable def jC(n:Nat)(as:List Ar):aW:=as.map EN++List.replicate (n-as.length) .no
theorem Kj{K:W.Frag}{H:Hp}{dk:Option (Addr×Addr)}{N:List Str}{vs:List V}{as:List Ar}(hd:∀p c,dk=some (p,c)->bt H p c)(p:Paired (vR K dk H) vs as):av K ⟨H,dk⟩ (jC N.length as) (fG N vs) H:=by
 have l:vs.length=as.length:=Paired.length p;refine⟨hd,⟨λ_ _ e _=>e,hd⟩,?_,λi s e=>?_,λi j a s t e _ m _ _ _=>?_⟩
 ·unfold jC fG;rw[b8,b8,aq,aq,fh,fh,l]
 ·unfold jC at e;by_cases hi:i<as.length
  ·rw[j9 (by simpa using hi),g4]at e;obtain⟨r,er,rfl⟩:=qf1_.mp e;have hv:i<vs.length:=by omega
   obtain⟨r',er',h⟩:=iF p (cb hv);rw[er]at er';cases er';have ex:e9 (fG N vs) i=some vs[i]:=by
    refine Ih ?_;unfold fG;rw[j9 (by simpa using hv),g4,cb hv];rfl
   rw[ex];cases r with
   |va T=>exact⟨_,rfl,h⟩
   |dk=>obtain⟨p,c,e1,e2⟩:=h;exact⟨p,c,e1,by rw[e2]⟩
  ·rw[j_ (by simpa using hi),m7]at e;split at e
   ·cases e;trivial
   ·cases e
 ·unfold jC at e;by_cases hi:i<as.length
  ·rw[j9 (by simpa using hi),g4]at e;obtain⟨r,er,rfl⟩:=qf1_.mp e;cases r<;>cases m
  ·rw[j_ (by simpa using hi),m7]at e;split at e
   ·cases e;cases m
   ·cases e
theorem ai.pgood{P:Program}{w:World}{K:W.Frag}{mg:Str->Option Value}{base:Heap}{x:Str}{st:Stmt}{N ps:List Str}{k:Nat}{psp:bf}{us:d6}(h:ai K mg x st)(S:dN N ps (aV st))
  (hb:∀(kV doc pm:Value) (an:Option Addr) (Pu ct:Value) (us:List Value),us.length=ps.length->bindArgs (W.fnOf x x (fZ st) (dZ st) (aV st) .none kV doc pm an Pu ct) ⟨us,[]⟩=pure (ps.zip us))
  (Px:∀(f:Addr) (Pu:Value) (A:Around) (outer:List Env) (s:Shared) (H:Hp) (E:XK) (F:Fm),br k (A.deeper (envOfC x (aV st) s.heap.objs.size f Pu))->kx (hZ lj P w K mg base N x (aV st) f Pu A outer s H E).nox F (dZ st) us)
  (hp:∀as R,psp as R->as.length=ps.length/\us {nx:=λ_=>R nT,rt:=R} (jC N.length as)):ae P w K mg base (k+1) x ps psp:=by
 refine h.good S hb (λvs H Q E q=>?_) (λf Pu A outer s H vs Q E hr q=>?_)
 ·obtain⟨dk,as,R,d,p,q,_⟩:=q;rw[Paired.length p];exact(hp as R q).1
 ·obtain⟨dk,as,R,d,p,q,k⟩:=q;refine⟨_,(Px f Pu A outer s H E ⟨H,dk⟩ hr).ps,jC N.length as,_,Kj d p,(hp as R q).2,λσ' H' ρ' fr _ q=>k _ _ _ fr.kp (.flat rfl) q,λx T H' kp v q=>k x T H' kp v q,λ_ _ _ _ _ z=>z,λ_ _ _ _ _ z=>z⟩
noncomputable def oP(K:W.Frag)(J:It)(H:Hp)(Ts:List Tv):Prop:=∀H1,HS H H1->(∀i,i<Ts.length->J.go i H1)/\(∀i x H2,i<Ts.length->J.yld i H1 x H2->ba H1 H2/\∃T,Ts[i]?=some T/\VA K H2 x T)/\J.stop Ts.length H1
noncomputable def yd(K:W.Frag)(F:Fm)(u:g5):TI:=λσ H R=>∃ρ Q,av K F ρ σ H/\u ρ Q/\∀J Ts H' ρ',bq K F σ ρ H ρ' H'->oP K J H' Ts->Q Ts ρ'->R J H'
structure UI (X:Cx) (F:Fm) (tg e:Expr) (u:g5):Prop where
 pi:PI X tg e (yd X.K F u)
theorem PI.imp{X:Cx}{tg e:Expr}{t t':TI}(h:PI X tg e t)(i:∀σ H Q,t' σ H Q->t σ H Q):PI X tg e t':=λPp s σ H Q I q=>h Pp s σ H Q I (i σ H Q q)
noncomputable def qc(X:Cx)(tg:Expr)(r:V->Hp->(It->Hp->Prop)->Prop):Prop:=∀(Pp:List (Addr×Obj)) (s:Shared) (σ:St) (H:Hp) (x:V) (v:Value) (R:It->Hp->Prop),ag X Pp σ H s->aj x v->r x H R->wpAny (model X.prog X.w) X.A (pyIter v) (wx X Pp σ tg R) X.xe s
section
variable{X:Cx}{F:Fm}{tg e:Expr}
theorem qc.or{r r':V->Hp->(It->Hp->Prop)->Prop}(h:qc X tg r)(h':qc X tg r'):qc X tg (λx H R=>r x H R\/r' x H R):=λPp s σ H x v R I rx q=>by
 rcases q with q|q
 ·exact h Pp s σ H x v R I rx q
 ·exact h' Pp s σ H x v R I rx q
theorem qB{Pp:List (Addr×Obj)}{σ:St}{H:Hp}{s:Shared}(I:ag X Pp σ H s):∀b∈[s.heap.objs.size],iB X Pp H b:=λb hb=>by
 rw[qX_.mp hb];exact I.fpOk (bp _) (I.hok.fresh (bp _))
theorem it_list:qc X tg (λx H R=>∃a xs,x=.ref a/\b_ X.K H a xs/\R (wz X.K a) H):=by
 rintro Pp s σ H _ v R I r ⟨a,xs,rfl,hq,q⟩;cases r;obtain⟨its,rv,p,hz⟩:=I.list hq;exact wpAny_pyIter_list p.isList ⟨_,[s.heap.objs.size],_,_,H,rfl,I.kept (t':=s.toks) λb o=>b6 _,Me a _,⟨_,cy _ rfl,rfl,rfl⟩,qB I,q⟩
theorem it_tup:qc X tg (λx H R=>∃a xs,x=.ref a/\cu X.K H a xs/\R (wy X.K a) H):=by
 rintro Pp s σ H _ v R I r ⟨a,xs,rfl,hq,q⟩;cases r;obtain⟨its,rv,p,hz⟩:=I.tuple hq;exact wpAny_pyIter_tuple (show s.heap.IsTuple a its.toArray from p) ⟨_,[s.heap.objs.size],_,_,H,rfl,I.kept (t':=s.toks) λb o=>b6 _,Nx a _,⟨_,cy _ rfl,rfl,rfl⟩,qB I,q⟩
theorem it_str:qc X tg (λx H R=>∃z,x=.str z/\R (t7 z) H):=by
 rintro Pp s σ H _ v R I r ⟨z,rfl,q⟩;obtain⟨t,rfl⟩:=r;cases ha:z.cps.all (· < 128) with
 |true=>exact wpAny_pyIter_ascii ha ⟨_,[s.heap.objs.size],_,_,H,rfl,I.kept (t':=s.toks) λb o=>b6 _,Mf _ z t,⟨_,cy _ rfl,rfl,rfl⟩,qB I,q⟩
 |false=>exact wpAny_pyIter_wide ha ⟨_,[s.heap.objs.size],_,_,H,rfl,I.kept (t':=s.toks) λb o=>b6 _,Mg _ z t,⟨_,cy _ rfl,rfl,rfl⟩,qB I,q⟩
theorem IZ:qc X tg (λx H R=>∃a ob kvs,x=.ref a/\qd H a ob kvs/\R (w4 a ob kvs) H):=by
 rintro Pp s σ H _ v R I r ⟨a,ob,kvs,rfl,hz,q⟩;cases r;obtain⟨e,hs,hl,vs,es,ep,r,dd,hd⟩:=pM I hz;exact wpAny_pyIter_dict hs dd ⟨_,[s.heap.objs.size],_,_,H,rfl,I.kept (t':=s.toks) λb o=>b6 _,Md (a:=a) (ob:=ob) (kvs:=kvs) hd,⟨_,cy _ rfl,rfl,by rw[<-qA r];rfl⟩,qB I,q⟩
noncomputable def D2:Tv->(List Tv->Prop)->Prop
 |.seq _ Ts,Q=>Q Ts
 |.leaf (.str z),Q=>Q (z.cps.toList.map λc=>sT ⟨#[c]⟩)
 |.dct kts,Q=>Q (kts.map λkt=>sT kt.1)
 |_,_=>False
theorem dE{K:W.Frag}{H:Hp}{a:Addr}{xs:List V}(h:bg K H false a xs):b_ K H a xs:=by
 obtain⟨ob,h⟩:=h;exact .inl (.inr ⟨ob,h⟩)
theorem IY{K:W.Frag}{H:Hp}{a:Addr}{xs:List V}{Ts:List Tv}(h:bg K H false a xs)(p:c_ K H xs Ts):oP K (wz K a) H Ts:=λH1 hs=>by
 have l:xs.length=Ts.length:=Paired.length p;have q:=dE (h.hs hs);refine⟨λi hi=>⟨xs,xs[i]'(by omega),q,cb _⟩,λi x H2 hi ⟨e,y⟩=>?_,⟨xs,q,by omega⟩⟩;subst e;obtain⟨T,eT,v⟩:=iF (p.hs hs) (y xs q);exact⟨ba.refl _,T,eT,v⟩
theorem Ie{K:W.Frag}{H:Hp}{a:Addr}{xs:List V}{Ts:List Tv}(h:bg K H true a xs)(p:c_ K H xs Ts):oP K (wy K a) H Ts:=λH1 hs=>by
 have l:xs.length=Ts.length:=Paired.length p;have q:cu K H1 a xs:=h.hs hs;refine⟨λi hi=>⟨xs,xs[i]'(by omega),q,cb _⟩,λi x H2 hi ⟨e,y⟩=>?_,⟨xs,q,by omega⟩⟩;subst e;obtain⟨T,eT,v⟩:=iF (p.hs hs) (y xs q);exact⟨ba.refl _,T,eT,v⟩
theorem Ic{K:W.Frag}{H:Hp}{z:Str}:oP K (t7 z) H (z.cps.toList.map λc=>sT ⟨#[c]⟩):=λH1 hs=>by
 refine⟨λi hi=>(show i<z.cps.size by simpa using hi),λi x H2 hi ⟨e,c,ec,ex⟩=>?_,by simp[t7]⟩;subst e ex;refine⟨ba.refl _,sT ⟨#[c]⟩,?_,.flat rfl⟩;rw[g4,h_,ec];rfl
theorem IW{K:W.Frag}{H:Hp}{a:Addr}{ob:Obj}{kvs:List (ay×V)}{kts:List (Str×Tv)}(h:qd H a ob kvs)(p:gp K H kvs kts):oP K (w4 a ob kvs) H (kts.map λkt=>sT kt.1):=λH1 hs=>by
 have l:kvs.length=kts.length:=Paired.length p;have q:qd H1 a ob kvs:=hs _ _ rfl h;refine⟨λi hi=>⟨q,by rw[aq]at hi;omega⟩,λi x H2 hi ⟨e,k,v,ek,ex⟩=>?_,⟨q,by rw[aq];omega⟩⟩;subst e ex;obtain⟨kt,ekt,e1,_⟩:=iF p ek;refine⟨ba.refl _,sT kt.1,by rw[g4,ekt];rfl,?_⟩;have e1:k=.inr kt.1:=e1;rw[e1];exact .flat rfl
noncomputable def Oc(u:UT):g5:=λρ Q=>u ρ λT ρ1=>D2 T λTs=>Q Ts ρ1
theorem bK{u:UT}(h:UE X F e u):UI X F tg e (Oc u):=⟨λPp s σ H R I ⟨ρ,Q,fr,hu,k⟩=>by
 have IT:qc X tg _:=it_list.or (it_tup.or (it_str.or IZ));refine bj (h.pe Pp s σ H (λx H1=>_) I ⟨ρ,_,fr,hu,λx T H' ρ' s v q=>?_⟩) λv s1 ⟨x,H1,I1,r1,q1⟩=>IT Pp s1 σ H1 x v R I1 r1 q1
 unfold D2 at q;split at q
 ·rename_i t Ts;obtain⟨a,xs,rfl,hs,z,p⟩:=v.seqI;cases t with
  |false=>exact .inl ⟨a,xs,rfl,dE hs,k _ _ _ _ s (IY hs p) q⟩
  |true=>exact .inr (.inl ⟨a,xs,rfl,hs,k _ _ _ _ s (Ie hs p) q⟩)
 ·obtain⟨rfl,_⟩:=v.leafI;exact .inr (.inr (.inl ⟨_,rfl,k _ _ _ _ s Ic q⟩))
 ·obtain⟨a,kvs,rfl,⟨ob,hd⟩,n,z,p⟩:=v.dctI;exact .inr (.inr (.inr ⟨a,ob,kvs,rfl,hd,k _ _ _ _ s (IW hd p) q⟩))
 ·exact False.elim q⟩
noncomputable def jZ(lo:Int)(n:Nat):List Tv:=(List.range n).map λ(i:Nat)=>iT (lo+i)
theorem jO(lo:Int)(n:Nat):(jZ lo n).length=n:=by simp[jZ]
theorem oZ{lo:Int}{n i:Nat}{T:Tv}(h:(jZ lo n)[i]?=some T):i<n/\T=iT (lo+i):=by
 have l:=(qB_.mp h).1;rw[jO]at l;refine⟨l,?_⟩;simp only[jZ,g4,List.getElem?_range l]at h;exact(Option.some.inj h).symm
theorem L3{K:W.Frag}{H:Hp}{lo:Int}{n:Nat}:oP K (uy lo n) H (jZ lo n):=λH1 hs=>by
 have l:(jZ lo n).length=n:=by simp[jZ]
 refine⟨λi hi=>by rw[l]at hi;exact hi,λi x H2 hi ⟨e,ex⟩=>?_,by rw[l];exact bp _⟩;subst e ex;rw[l]at hi;exact⟨ba.refl _,iT (lo+i),by simp[jZ,hi],.flat rfl⟩
noncomputable def GH(ua:gg):g5:=λρ Q=>rq ua ρ λTs ρ1=>∃j:Int,Ts=[iT j] /\ -(2 ^ 62)<=j/\j<2 ^ 62/\Q (jZ 0 j.toNat) ρ1
theorem kF{a:Expr}{ua:gg}{p pos:Pos}(hg:Gl X "range")(hm:X.mg "range"=none)(ha:UA X F [a] ua)(hs:starEach [a] X.env=[(false,eval a X.env)]:=by rfl):UI X F tg (.Call (.Name "range" p) [a] [] pos) (GH ua):=⟨PI.imp (MN hg hm ha.pa hs) λσ H R ⟨ρ,Q,fr,hu,k⟩=>by
 refine⟨ρ,_,fr,hu,λxs as H1 ρ1 s1 p1 q1=>?_⟩;obtain⟨Ts,rfl,j,rfl,h1,h2,q⟩:=lV q1;cases lW p1 with
 |cons v t=>
  cases t;obtain⟨rfl,_⟩:=v.leafI
  exact⟨j,rfl,h1,h2,k _ _ _ _ s1 L3 q⟩⟩
end
noncomputable abbrev UG:=Tv->aW->(aW->Prop)->Prop
noncomputable def yc(K:W.Frag)(F:Fm)(m:Nat)(g:UG):TG:=λv σ H QQ=>∃T ρ Q,VA K H v T/\av K F ρ σ H/\g T ρ Q/\∀σ' ρ',av K F ρ' σ' H->σ'.length=σ.length->σ'.drop m=σ.drop m->ρ'.drop m=ρ.drop m->ky ρ' ρ->Q ρ'->QQ σ' H
structure t4 (X:Cx) (F:Fm) (m:Nat) (tg:Expr) (g:UG):Prop where
 pg:PG X tg (yc X.K F m g)
theorem PG.imp{X:Cx}{tg:Expr}{t t':TG}(h:PG X tg t)(i:∀v σ H Q,t' v σ H Q->t v σ H Q):PG X tg t':=λPp s σ H v u Q I r q=>h Pp s σ H v u Q I r (i v σ H Q q)
section
variable{X:Cx}{F:Fm}{pos:Pos}{m:Nat}
noncomputable def gN(i:Nat):UG:=λT ρ Q=>Q (ρ.set i (.va T))
theorem drop_set{α:Type}{l:List α}{i m:Nat}{x:α}(h:i<m):(l.set i x).drop m=l.drop m:=by
 rw[List.drop_set,if_pos h]
theorem Kw{ρ:aW}{i:Nat}{T:Tv}:ky (ρ.set i (.va T)) ρ:=λj s e mm=>by
 by_cases z:i=j
 ·subst z;have hi:i<ρ.length:=by
   have:=(qB_.mp e).1;rwa[jc]at this
  rw[gk hi]at e;cases e;cases mm
 ·rw[g9 z]at e;exact⟨s,e,mm⟩
theorem eG(i:Nat){x:Str}(hm:i<m)(hN:X.N.Nodup)(hi:X.N[i]?=some x)(hx:kz X.env.scope x)(hf:X.fn x=true\/X.env.scope.names.lookup x=some .local:=by first|exact .inl rfl|exact .inr rfl|assumption):t4 X F m (.Name x pos) (gN i):=⟨PG.imp (K1 hN hi hx hf) λv σ H QQ ⟨T,ρ,Q,vv,fr,h,k⟩=>
 k _ _ (fr.set (s:=.va T) (λ_=>⟨v,rfl,vv⟩) (λz=>absurd z b9)) jc (drop_set hm) (drop_set hm) Kw h⟩
end
noncomputable def p_(own:Nat)(fr:List Nat)(ρ:aW):aW:=List.replicate own .no++fr.map λi=>ρ.getD i .no
noncomputable def pH:List Nat->List Sl->aW->aW
 |i::fr,s::ss,ρ=>pH fr ss (ρ.set i s)
 |_,_,ρ=>ρ
noncomputable def qa(own:Nat)(fr:List Nat)(ρ ρ':aW):aW:=pH fr (ρ'.drop own) ρ
noncomputable def gP(own:Nat)(fr:List Nat)(g:UG)(tf:d5)(ue:UT):List Tv->aW->(List Tv->aW->Prop)->Prop
 |[],ρ,Q=>Q [] ρ
 |T::Ts,ρ,Q=>g T (p_ own fr ρ) λρ1=>tf ρ1 λb ρ2=>if b=true then ue ρ2 λU ρ3=>gP own fr g tf ue Ts (qa own fr ρ ρ3) λUs ρ4=>Q (U::Us) ρ4 else gP own fr g tf ue Ts (qa own fr ρ ρ2) Q
noncomputable def mE(own:Nat)(fr:List Nat)(ui:g5)(g:UG)(tf:d5)(ue:UT):g5:=λρ Q=>ui ρ λTs ρ1=>Ts.length<=100000/\gP own fr g tf ue Ts ρ1 Q
theorem Dt:∀(fr:List Nat) (ss:List Sl) (ρ:aW),(pH fr ss ρ).length=ρ.length
 |[],_,_=>rfl
 |_::_,[],_=>rfl
 |i::fr,s::ss,ρ=>by show(pH fr ss _).length=_;rw[Dt fr ss,jc]
theorem wB:∀(fr:List Nat) (ss:List Sl) (ρ:aW) (i:Nat) (s:Sl),fr.length<=ss.length->(pH fr ss ρ)[i]?=some s->(∃j:Nat,fr[j]?=some i/\ss[j]?=some s)\/(i∉fr/\ρ[i]?=some s)
 |[],_,_,i,s,_,h=>.inr ⟨by simp,h⟩
 |_::_,[],_,_,_,l,_=>by simp at l
 |i0::fr,s0::ss,ρ,i,s,l,h=>by
  rcases wB fr ss (ρ.set i0 s0) i s (by simpa using l) h with⟨j,e1,e2⟩|⟨n,e⟩
  ·exact .inl ⟨j+1,by simpa using e1,by simpa using e2⟩
  ·by_cases z:i0=i
   ·subst z;have hi:i0<ρ.length:=by
     have:=(qB_.mp e).1;rwa[jc]at this
    rw[gk hi]at e;exact .inl ⟨0,rfl,by simpa using e⟩
   ·rw[g9 z]at e;exact .inr ⟨by simp[n,Ne.symm z],e⟩
theorem rV{own:Nat}{fr:List Nat}{σ ow:St}(ho:ow.length=own){j i:Nat}(h:fr[j]?=some i):e9 (ow++σf fr σ) (own+j)=e9 σ i:=by
 unfold e9 σf;rw[j_ (by omega),show own+j-ow.length=j by omega,g4,h];show(some (σ.getD i none)).join=_;rw[ji];cases σ[i]? with
 |none=>rfl
 |some o=>rfl
section
variable{K:W.Frag}{F:Fm}{ρ ρ4 ρ6:aW}{σ ow:St}{H H6:Hp}{own:Nat}{fr:List Nat}
theorem nH{i:Nat}{s:Sl}(h:(p_ own fr ρ)[i]?=some s):(i<own/\s=.no)\/∃j k,i=own+j/\fr[j]?=some k/\s=ρ.getD k .no:=by
 unfold p_ at h;by_cases hi:i<own
 ·rw[j9 (by simpa using hi),m7,if_pos hi]at h;exact .inl ⟨hi,(Option.some.inj h).symm⟩
 ·rw[j_ (by simpa using hi),fh,g4]at h;obtain⟨k,e,rfl⟩:=qf1_.mp h;exact .inr ⟨i-own,k,by omega,e,rfl⟩
theorem mX{k:Nat}{s:Sl}(e:s=ρ.getD k .no)(m:s≠.no):ρ[k]?=some s:=by
 rw[ji]at e;cases q:ρ[k]? with
 |none=>rw[q]at e;exact absurd e m
 |some t=>rw[q]at e;rw[e];rfl
theorem av.pick(f:av K F ρ σ H)(nd:fr.Nodup):av K F (p_ own fr ρ) (σc own fr σ) H:=by
 have val:∀{j k:Nat},fr[j]?=some k->e9 (σc own fr σ) (own+j)=e9 σ k:=λh=>rV (fh) h
 refine⟨f.d0,f.kp,?_,λi s e=>?_,λi i' a s t e e' m m' q q'=>?_⟩
 ·unfold p_ σc σf;simp
 ·rcases nH e with⟨_,rfl⟩|⟨j,k,rfl,ek,es⟩
  ·trivial
  ·rw[val ek];cases s with
   |no=>trivial
   |_=>exact f.at_ k _ (mX es (λz=>by cases z))
 ·rcases nH e with⟨_,rfl⟩|⟨j,k,rfl,ek,es⟩
  ·cases m
  ·rcases nH e' with⟨_,rfl⟩|⟨j',k',rfl,ek',es'⟩
   ·cases m'
   ·rw[val ek]at q;rw[val ek']at q';have:=f.ap k k' a s t (mX es (λz=>by rw[z]at m;cases m)) (mX es' (λz=>by rw[z]at m';cases m')) m m' q q';subst this;have h1:=(qB_.mp ek).1;rw[(List.getElem?_inj h1 nd).mp (ek.trans ek'.symm)]
theorem bq.back(f:av K F ρ σ H)(nd:fr.Nodup)(s:bq K F (ow++σf fr σ) ρ4 H ρ6 H6)(f4:av K F ρ4 (ow++σf fr σ) H)(ho:ow.length=own)(hd:ρ4.drop own=(p_ own fr ρ).drop own)(sb:ky ρ4 (p_ own fr ρ)):bq K F σ ρ H (qa own fr ρ ρ6) H6:=by
 -- a slot of the block that is one's own is the def's own
 have dm:∀(i:Nat) (t:Sl) (a:Addr),ρ4[i]?=some t->fI t=true->e9 (ow++σf fr σ) i=some (.ref a)->∃k u,k∈fr/\ρ[k]?=some u/\fI u=true/\e9 σ k=some (.ref a):=λi t a e m q=>by
  obtain⟨u,eu,mu⟩:=sb i t e m;rcases nH eu with⟨_,rfl⟩|⟨j,k,rfl,ek,es⟩
  ·cases mu
  ·exact⟨k,u,i7 ek,mX es (λz=>by rw[z]at mu;cases mu),mu,by rw[<-rV ho ek];exact q⟩
 have st:kc F ρ σ H H6:=λb o e d n=>s.st b o e d λi t e1 m q=>by
  obtain⟨k,u,_,eu,mu,qu⟩:=dm i t b e1 m q;exact n k u eu mu qu
 have l6:fr.length<=(ρ6.drop own).length:=by
  have:=s.fr.len;rw[b8]at this;rw[m5,this,ho];unfold σf;rw[aq];omega
 have sub:ky (qa own fr ρ ρ6) ρ:=λi t e m=>by
  rcases wB fr _ ρ i t l6 e with⟨j,ej,et⟩|⟨_,e⟩
  ·rw[oq]at et;obtain⟨u,eu,mu⟩:=s.sub _ t et m;have:(ρ4.drop own)[j]?=some u:=by rw[oq];exact eu
   rw[hd,oq]at this;rcases nH this with⟨z,_⟩|⟨j',k,ejj,ek,es⟩
   ·omega
   ·have:j'=j:=by omega
    subst this;rw[ej]at ek;cases ek;exact⟨u,mX es (λz=>by rw[z]at mu;cases mu),mu⟩
  ·exact⟨t,e,m⟩
 have hs:HS H H6:=s.hs f4;refine⟨⟨f.d0,s.fr.kp,by unfold qa;rw[Dt];exact f.len,λi t e=>?_,λi i' a t t' e e' m m' q q'=>?_⟩,st,sub,s.tr⟩
 ·rcases wB fr _ ρ i t l6 e with⟨j,ej,et⟩|⟨ni,e⟩
  ·rw[oq]at et;have:=s.fr.at_ _ t et;rwa[rV ho ej]at this
  ·have h:=f.at_ i t e;have keep:∀a o,fI t=true->e9 σ i=some (.ref a)->H a=some o->H6 a=some o:=λa o m q e1=>s.st a o e1 (f.fresh_nodk (f.own_at e m q).2) λi' t' e2 m2 q2=>by
    obtain⟨k,u,hk,eu,mu,qu⟩:=dm i' t' a e2 m2 q2;have:=f.ap k i a u t eu e mu m qu q;subst this;exact ni hk
   cases t with
   |no=>trivial
   |va T=>obtain⟨y,e1,v⟩:=h;exact⟨y,e1,v.hs hs⟩
   |own Ts=>obtain⟨a,xs,e1,e2,e3,z,p⟩:=h;exact⟨a,xs,e1,keep a _ rfl e1 e2,e3,z,p.hs hs⟩
   |dct kts=>obtain⟨a,kvs,e1,e2,e3,n,z,p⟩:=h;exact⟨a,kvs,e1,keep a _ rfl e1 e2,e3,n,z,p.hs hs⟩
   |dk=>exact h
 ·obtain⟨u,eu,mu⟩:=sub i t e m;obtain⟨u',eu',mu'⟩:=sub i' t' e' m';exact f.ap i i' a u u' eu eu' mu mu' q q'
end
theorem wO{K:W.Frag}{F:Fm}{own:Nat}{fr:List Nat}{ui:g5}{g:UG}{tf:d5}{ue:UT}(nd:fr.Nodup)(σ:St)(H:Hp)(QQ:VK)(h:uF K F (mE own fr ui g tf ue) σ H QQ):zK own fr (yd K F ui) (yc K F own g) (uE K F tf) (fQ K F ue) σ H QQ:=by
 obtain⟨ρ,Q,f,h,k⟩:=h;refine⟨ρ,_,f,h,λJ Ts H1 ρ1 s1 it q1 a na=>?_⟩;obtain⟨len,q1⟩:=q1;refine⟨Ts.length,λi ys H2=>∃Us ρi,bq K F σ ρ1 H1 ρi H2/\c_ K H2 ys Us/\Us.length<=i/\gP own fr g tf ue (Ts.drop i) ρi (λVs ρ'=>Q (Us++Vs) ρ'),⟨[],ρ1,bq.same s1.fr (dC na),.nil,bp _,q1⟩,?_⟩;rintro i ys H2 hi ha ⟨Us,ρi,si,p,hl,q⟩;have hs1:=si.hs s1.fr;obtain⟨go,yld,stop⟩:=it H2 hs1;by_cases hlt:i<Ts.length
 ·refine .inr ⟨hlt,go i hlt,λx H3 hy=>?_⟩;obtain⟨sm,T,eT,vx⟩:=yld i x H3 hlt hy;have s3:=si.trans (bq.same si.fr sm);have ha3:=sm _ _ ha;have ed:Ts.drop i=T::Ts.drop (i+1):=by
   rw[ph hlt];congr 1;rw[cb hlt]at eT;exact Option.some.inj eT
  rw[ed]at q;have nodk:=s1.fr.none_nodk na;have nown:=s3.notown s1.fr na;refine⟨T,p_ own fr ρi,_,vx,s3.fr.pick nd,q,λσ4 ρ4 f4 l4 d4 dr4 sb4 q4=>?_⟩;have e4:σ4=σ4.take own++σf fr σ:=by
   have:σ4.drop own=σf fr σ:=by
    rw[d4];unfold σc;rw[List.drop_append_of_le_length (by simp),List.drop_of_length_le (by simp),gi]
   rw[<-this,qy]
  have lo:(σ4.take own).length=own:=by
   rw[g8,l4];unfold σc;simp
  have notin:∀(j:Nat) (t:Sl),ρ4[j]?=some t->fI t=true->e9 σ4 j≠some (.ref a):=λj t e m z=>by
   obtain⟨u,eu,mu⟩:=sb4 j t e m;rcases nH eu with⟨_,rfl⟩|⟨j',k,rfl,ek,es⟩
   ·cases mu
   ·rw[e4,rV lo ek]at z;exact nown k u (mX es (λz=>by rw[z]at mu;cases mu)) mu z
  refine⟨⟨σ4.take own,lo,e4⟩,ρ4,_,f4,q4,λb H5 ρ5 s5 q5=>?_⟩;have a5:H5 a=some (.lst ys):=s5.st a _ ha3 nodk notin;cases b with
  |true=>
   refine bW ?_;rw[if_pos rfl]at q5;refine⟨ρ5,_,s5.fr,q5,λy U H6 ρ6 s6 v6 q6=>?_⟩;have s46:=s5.trans s6;have a6:H6 a=some (.lst ys):=s46.st a _ ha3 nodk notin;have lys:ys.length=Us.length:=Paired.length p;refine⟨a6,yI (by omega),Us++[U],qa own fr ρi ρ6,?_,?_,by rw[b8,kr];omega,?_⟩
   ·rw[e4]at s46 f4;exact(s3.trans (bq.back s3.fr nd s46 f4 lo dr4 sb4)).put s1.fr na a6 rfl _
   ·have h36:=s46.hs f4;exact c_.hs (iN a6 rfl) (Paired.snoc ((p.hs sm.hs).hs h36) v6)
   ·simpa using q6
  |false=>
   refine bG ?_;rw[if_neg b9]at q5;refine⟨a5,Us,qa own fr ρi ρ5,?_,?_,by omega,q5⟩
   ·rw[e4]at s5 f4;exact s3.trans (bq.back s3.fr nd s5 f4 lo dr4 sb4)
   ·exact(p.hs sm.hs).hs (s5.hs f4)
 ·have e:i=Ts.length:=by omega
  subst e;rw[qx]at q;have q:Q (Us++[]) ρi:=q;rw[i8]at q;exact .inl ⟨stop,k a ys Us H2 ρi (s1.trans si) (s1.non na) ha (by omega) p q⟩
section
variable{X:Cx}{F:Fm}{sc:Scope}{XN N:List Str}{own:Nat}{fr:List Nat}{scope:Scope}{elt tg iter:Expr}{ifs:List Expr}{pos:Pos}{ui:g5}{g:UG}{tf:d5}{ue:UT}
structure UF (X:Cx) (F:Fm) (ifs:List Expr) (u:d5):Prop where
 pf:se X ifs (uE X.K F u)
noncomputable def zT:d5:=λρ Q=>Q true ρ
theorem lX:UF X F [] zT:=⟨λPp s σ H Q I ⟨ρ,Q',f,h,k⟩=>HE Pp s σ H Q I (k _ _ _ (bq.refl f) h)⟩
theorem eK{c:Expr}{t:d5}(h:UB X F c t):UF X F [c] t:=⟨HF h.pt⟩
theorem KO(hc:X.calm=true)(S:lN sc XN N own fr scope)(nd:fr.Nodup)(hi:UI X F tg iter ui)
  (hg:∀cl C fp s H,t4 (cN X N scope cl C fp s H) F own tg g) (hf:∀cl C fp s H,UF (cN X N scope cl C fp s H) F ifs tf) (he:∀cl C fp s H,UE (cN X N scope cl C fp s H) F elt ue)
  (hs:∀x,foldedSetIterable iter X.env x=pure x:=by intro _;rfl) (hsc:X.env.scope=sc:=by rfl) (hxn:X.N=XN:=by rfl):UL X F (.ListComp elt [⟨tg,iter,ifs,0⟩] scope pos) (mE own fr ui g tf ue):=
 ⟨PE.imp (K0 hc S hi.pi (λcl C fp s H=>(hg cl C fp s H).pg) (λcl C fp s H=>(hf cl C fp s H).pf) (λcl C fp s H=>(he cl C fp s H).pe) hs hsc hxn) (wO nd)⟩
theorem BX{i:Nat}{x:Str}{pos' spos:Pos}(hc:X.calm=true)(hN:X.N.Nodup)(hx:X.N[i]?=some x)(hl:kz X.env.scope x)(S:lN sc XN N own fr scope)(nd:fr.Nodup)(hi:UI X F tg iter ui)
  (hg:∀cl C fp s H,t4 (cN X N scope cl C fp s H) F own tg g) (hf:∀cl C fp s H,UF (cN X N scope cl C fp s H) F ifs tf) (he:∀cl C fp s H,UE (cN X N scope cl C fp s H) F elt ue)
  (hsw:swapsWith (.ListComp elt [⟨tg,iter,ifs,0⟩] scope pos) (some (.Name x pos')) spos.line X.env=pure true:=by rfl)
  (hf':X.fn x=true\/X.env.scope.names.lookup x=some .local:=by first|exact .inl rfl|exact .inr rfl|assumption)
  (hs:∀x,foldedSetIterable iter X.env x=pure x:=by intro _;rfl) (hsc:X.env.scope=sc:=by rfl) (hxn:X.N=XN:=by rfl):US X F (.Assign [.Name x pos'] (.ListComp elt [⟨tg,iter,ifs,0⟩] scope pos) spos) (uR i (mE own fr ui g tf ue)):=
 ⟨PS.imp (BK hc hN hx hl S hi.pi (λcl C fp s H=>(hg cl C fp s H).pg) (λcl C fp s H=>(hf cl C fp s H).pf) (λcl C fp s H=>(he cl C fp s H).pe) hsw hf' hs hsc hxn) (Bp (wO nd))⟩
theorem PS.fz{st:Stmt}{t:TS}(h:PS X st t):PS X st (λD σ H=>t {D with nx:=λσ' H'=>D.nx σ' H'\/∃a o,H' a=some o/\ig o=true/\∀ob,D.nx σ' (aw H' a (.frz ob o))} σ H):=λPp s σ H D I q=>bj (h Pp s σ H _ I q) λfl s' z=>by
 cases fl with
 |next=>
  obtain⟨σ',H',I',q⟩:=z;rcases q with q|⟨a,o,e,n,q⟩
  ·exact⟨σ',H',I',q⟩
  ·obtain⟨ob,I2⟩:=I'.fz e n;exact⟨σ',_,I2,q ob⟩
 |brk=>exact z
 |cont=>exact z
 |ret u=>exact z
theorem KQ{i:Nat}{x:Str}{pos' spos:Pos}(hc:X.calm=true)(hN:X.N.Nodup)(hx:X.N[i]?=some x)(hl:kz X.env.scope x)(S:lN sc XN N own fr scope)(nd:fr.Nodup)(hi:UI X F tg iter ui)
  (hg:∀cl C fp s H,t4 (cN X N scope cl C fp s H) F own tg g) (hf:∀cl C fp s H,UF (cN X N scope cl C fp s H) F ifs tf) (he:∀cl C fp s H,UE (cN X N scope cl C fp s H) F elt ue)
  (hsw:swapsWith (.ListComp elt [⟨tg,iter,ifs,0⟩] scope pos) (some (.Name x pos')) spos.line X.env=pure true:=by rfl)
  (hf':X.fn x=true\/X.env.scope.names.lookup x=some .local:=by first|exact .inl rfl|exact .inr rfl|assumption)
  (hs:∀x,foldedSetIterable iter X.env x=pure x:=by intro _;rfl) (hsc:X.env.scope=sc:=by rfl) (hxn:X.N=XN:=by rfl):US X F (.Assign [.Name x pos'] (.ListComp elt [⟨tg,iter,ifs,0⟩] scope pos) spos) (uP i (uL (mE own fr ui g tf ue))):=
 ⟨PS.imp (PS.fz (BK hc hN hx hl S hi.pi (λcl C fp s H=>(hg cl C fp s H).pg) (λcl C fp s H=>(hf cl C fp s H).pf) (λcl C fp s H=>(he cl C fp s H).pe) hsw hf' hs hsc hxn)) λD σ H ⟨ρ,P,f,h,k1,_⟩=>by
  refine wO nd σ H _ ⟨ρ,_,f,h,λa xs Ts H' ρ' s n e z p q=>?_⟩;refine .inr ⟨a,_,e,rfl,λob=>?_⟩;have s2:=s.put f n e rfl (.frz ob (.lst xs))
  exact k1 _ _ _ (s2.fr.set (s:=.va (.seq false Ts)) (λ_=>⟨_,rfl,VA.seq (t:=false) ⟨ob,bL⟩ z (p.hs (iN e rfl))⟩) (λz=>absurd z b9)) (s2.hs f) q⟩
noncomputable def kB(g:UG)(ub:d6):List Tv->az->aW->Prop
 |[],P,ρ=>P.nx ρ
 |T::Ts,P,ρ=>g T ρ λρ1=>ub {P with nx:=λρ'=>kB g ub Ts P ρ',ct:=λρ'=>kB g ub Ts P ρ',bk:=P.nx} ρ1
noncomputable def Fj(ui:g5)(g:UG)(ub:d6):d6:=λP ρ=>ui ρ λTs ρ1=>kB g ub Ts P ρ1
theorem fJ{body:List Stmt}{ub:d6}{m:Nat}(hp:PassesOwn (model X.prog X.w) X.A X.env X.xe)(hc:X.calm=true)(hi:UI X F tg iter ui)(hg:t4 X F m tg g)(hb:kx X F body ub)
  (hs:∀x,foldedSetIterable iter X.env x=pure x:=by intro _;rfl):US X F (.For tg iter body [] pos) (Fj ui g ub):=⟨PS.imp (HJ hp hc hi.pi hg.pg hb.ps hs) λD σ H ⟨ρ,P,f,h,k1,k2,k3,k4⟩=>by
 refine⟨ρ,_,f,h,λJ Ts H1 ρ1 s1 it q1=>?_⟩;have h01:=s1.hs f;refine⟨λi m σ' H'=>m=Ts.length-i/\i<=Ts.length/\HS H1 H'/\∃ρi,av X.K F ρi σ' H'/\kB g ub (Ts.drop i) P ρi,⟨_,rfl,d8 _,HS.refl _,ρ1,s1.fr,q1⟩,?_⟩;rintro i m σ' H' ⟨rfl,hi,hs,ρi,fi,q⟩;obtain⟨go,yld,stop⟩:=it H' hs;by_cases hlt:i<Ts.length
 ·refine .inr ⟨go i hlt,λσ2 H2=>HS H1 H2/\∃ρ2,av X.K F ρ2 σ2 H2/\kB g ub (Ts.drop (i+1)) P ρ2,λσ2 H2 ⟨hs2,ρ2,f2,q2⟩=>⟨_,by omega,rfl,hlt,hs2,ρ2,f2,q2⟩,λx H3 hy=>?_⟩;obtain⟨sm,T,eT,vx⟩:=yld i x H3 hlt hy;have ed:Ts.drop i=T::Ts.drop (i+1):=by
   rw[ph hlt];congr 1;rw[cb hlt]at eT;exact Option.some.inj eT
  rw[ed]at q;have f3:=(bq.same fi sm).fr;refine⟨T,ρi,_,vx,f3,q,λσ4 ρ4 f4 _ _ _ _ q4=>?_⟩;have h13:=hs.trans sm.hs;exact⟨ρ4,_,f4,q4,λσ5 H5 ρ5 f5 hs5 q5=>⟨h13.trans hs5,ρ5,f5,q5⟩,k2,λσ5 H5 ρ5 f5 hs5 q5=>k1 _ _ _ f5 (h01.trans (h13.trans hs5)) q5,λσ5 H5 ρ5 f5 hs5 q5=>⟨h13.trans hs5,ρ5,f5,q5⟩⟩
 ·have e:i=Ts.length:=by omega
  subst e;rw[qx]at q
  exact .inl ⟨stop,k1 _ _ _ fi (h01.trans hs) q⟩⟩
noncomputable def JT(t:d5)(ub:d6):d6:=λP ρ=>∃W:Nat->aW->Prop,(∃m,W m ρ)/\∀m ρ,W m ρ->t ρ λb ρ1=>if b=true then ub {P with nx:=λρ'=>∃m',m'<m/\W m' ρ',ct:=λρ'=>∃m',m'<m/\W m' ρ',bk:=P.nx} ρ1 else P.nx ρ1
theorem oX{c:Expr}{body:List Stmt}{t:d5}{ub:d6}(hp:PassesOwn (model X.prog X.w) X.A X.env X.xe)(hc:UB X F c t)(hb:kx X F body ub):US X F (.While c body [] pos) (JT t ub):=⟨PS.imp (LM hp hc.pt hb.ps) λD σ H ⟨ρ,P,f,⟨W,⟨m0,w0⟩,h⟩,k1,k2,k3,k4⟩=>by
 refine⟨λm σ' H'=>HS H H'/\∃ρ',av X.K F ρ' σ' H'/\W m ρ',⟨m0,HS.refl _,ρ,f,w0⟩,?_⟩;rintro m σ' H' ⟨hs,ρ',f',w⟩;refine⟨ρ',_,f',h m ρ' w,λb H1 ρ1 s1 q1=>?_⟩;have h1:=hs.trans (s1.hs f');cases b with
 |true=>
  rw[if_pos rfl]at q1;refine bW ⟨λσ2 H2=>HS H H2/\∃m',m'<m/\∃ρ2,av X.K F ρ2 σ2 H2/\W m' ρ2,λσ2 H2 ⟨hs2,m',lt,ρ2,f2,w2⟩=>⟨m',lt,hs2,ρ2,f2,w2⟩,?_⟩;exact⟨ρ1,_,s1.fr,q1,λσ5 H5 ρ5 f5 hs5 ⟨m',lt,w5⟩=>⟨h1.trans hs5,m',lt,ρ5,f5,w5⟩,k2,λσ5 H5 ρ5 f5 hs5 q5=>k1 _ _ _ f5 (h1.trans hs5) q5,λσ5 H5 ρ5 f5 hs5 ⟨m',lt,w5⟩=>⟨h1.trans hs5,m',lt,ρ5,f5,w5⟩⟩
 |false=>
  rw[if_neg b9]at q1
  exact bG (k1 _ _ _ s1.fr h1 q1)⟩
end
section
variable{K:W.Frag}{F:Fm}{ρ:aW}{σ:St}{H:Hp}{i:Nat}{s s':Sl}{a:Addr}{o o':HO}
theorem av.put(fr:av K F ρ σ H)(e:ρ[i]?=some s)(m:fI s=true)(q:e9 σ i=some (.ref a))(h:H a=some o)(n:ig o=true)(v:HS H (aw H a o')->F.H0 a=none->uz K F (aw H a o') (some (.ref a)) s'):bq K F σ ρ H (ρ.set i s') (aw H a o'):=by
 have hi:i<ρ.length:=(qB_.mp e).1;have h0:=(fr.own_at e m q).2;have hd:=fr.fresh_nodk h0;have hs:HS H (aw H a o'):=iN h (by cases o<;>first|rfl|exact absurd n b9);have st:∀b u,b≠a->H b=some u->aw H a o' b=some u:=λb u z e=>by rw[bU z];exact e
 have get:∀(j:Nat) (t:Sl),(ρ.set i s')[j]?=some t->(i=j/\t=s')\/(i≠j/\ρ[j]?=some t):=λj t e'=>by
  by_cases z:i=j
  ·subst z;rw[gk hi]at e';exact .inl ⟨rfl,(Option.some.inj e').symm⟩
  ·rw[g9 z]at e';exact .inr ⟨z,e'⟩
 have sub:ky (ρ.set i s') ρ:=λj t e' m'=>by
  rcases get j t e' with⟨rfl,rfl⟩|⟨z,e'⟩
  ·exact⟨s,e,m⟩
  ·exact⟨t,e',m'⟩
 refine⟨⟨fr.d0,⟨λb u e1 n1=>st b u (λz=>by rw[z,h0]at e1;cases e1) (fr.kp.st b u e1 n1),λp c d=>?_⟩,by rw[jc];exact fr.len,λj t e'=>?_,λj k b t t' e1 e2 m1 m2 q1 q2=>?_⟩,λb u e1 _ n1=>st b u (λz=>n1 i s e m (by rw[z];exact q)) e1,sub,λb u e1=>if z:b=a then⟨o',z▸bL⟩ else⟨u,st b u z e1⟩⟩
 ·obtain⟨ne,⟨S,k,e1⟩,ns,e2,l⟩:=fr.kp.dkk p c d;exact⟨ne,⟨S,k,st _ _ (hd p c d).1.symm e1⟩,ns,st _ _ (hd p c d).2.symm e2,l⟩
 ·rcases get j t e' with⟨rfl,rfl⟩|⟨z,e'⟩
  ·rw[q];exact v hs h0
  ·have x:=fr.at_ j t e';cases t with
   |no=>trivial
   |va T=>obtain⟨y,e1,v⟩:=x;exact⟨y,e1,v.hs hs⟩
   |own Ts=>obtain⟨b,xs,e1,e2,e3,z',p⟩:=x;exact⟨b,xs,e1,st _ _ (λy=>z (fr.ap i j a s _ e e' m rfl q (by rw[e1,y]))) e2,e3,z',p.hs hs⟩
   |dct kts=>obtain⟨b,kvs,e1,e2,e3,n',z',p⟩:=x;exact⟨b,kvs,e1,st _ _ (λy=>z (fr.ap i j a s _ e e' m rfl q (by rw[e1,y]))) e2,e3,n',z',p.hs hs⟩
   |dk=>exact x
 ·obtain⟨u,eu,mu⟩:=sub j t e1 m1;obtain⟨u',eu',mu'⟩:=sub k t' e2 m2;exact fr.ap j k b u u' eu eu' mu mu' q1 q2
end
section
variable{X:Cx}{F:Fm}{e:Expr}{u:UT}{x:Str}{p Pw Pq pos:Pos}
noncomputable def xT(i:Nat)(u:UT):UT:=λρ Q=>(∃Ts,ρ[i]?=some (.own Ts))/\u ρ λT ρ1=>∃Ts,ρ1[i]?=some (.own Ts)/\Ts.length<100000/\Q nT (ρ1.set i (.own (Ts++[T])))
theorem mS(i:Nat)(h:UE X F e u)(hN:X.N[i]?=some x:=by rfl)(hv:qb X.env.scope x:=by first|exact Or.inl rfl|exact Or.inr (Or.inl rfl)|exact Or.inr (Or.inr rfl))(hd:(x==("__debug__":Str))=false:=by decide)(hcd:(x==("__classdict__":Str))=false:=by decide)
  (PB:attributeBase (.Name x p) "append" X.env (eval (.Name x p) X.env)=eval (.Name x p) X.env:=by rfl)
  (hfew:((backTo Pq (starEach [e] X.env)).all (λx=>!x.1)&&(backToKw Pq (keywordEach [] X.env)).all (λx=>x.1.isSome)&&decide (([e]:List Expr).length+([]:List Keyword).length+(if ([]:List Keyword).isEmpty then 0 else 1)<30))=true:=by rfl)
  (Pz:(Pw.endLine==Pq.line)=true:=by rfl) (hs:starEach [e] X.env=(false,eval e X.env)::starEach [] X.env:=by rfl) (Py:(backTo Pq (starEach [] X.env)).any (·.1)=false:=by rfl) (hst:eX e=false:=by rfl):
  UE X F (.Call (.Attribute (.Name x p) "append" Pw) [e] [] Pq) (xT i u):=⟨PE.imp (qF PySem.F.plainAttrs_list PySem.F.slot_list_append PySem.F.type_list_append wN (lZ hN hv hd hcd) (aD h aG hst).pa PB hfew Pz hs Py) λσ H QQ ⟨ρ,Q,f,⟨⟨Ts0,e0⟩,hu⟩,k⟩=>by
 obtain⟨a,xs,ea,eH,e3,z,pv⟩:=f.at_ i _ e0;refine⟨_,kJ ea,.inl ⟨rfl,xs,b_.of eH⟩,ρ,λas ρ1=>∃T,as=[.va T]/\∃Ts,ρ1[i]?=some (.own Ts)/\Ts.length<100000/\Q nT (ρ1.set i (.own (Ts++[T]))),f,?_,λvs as H1 ρ1 s1 p1 q1=>?_⟩
 ·show u ρ _;have:(λT ρ1=>∃Ts,ρ1[i]?=some (.own Ts)/\Ts.length<100000/\Q nT (ρ1.set i (.own (Ts++[T]))))=(λT (ρ1:aW)=>(hJ ρ1 λas ρ2=>∃T',Ar.va T::as=[.va T']/\∃Ts,ρ2[i]?=some (.own Ts)/\Ts.length<100000/\Q nT (ρ2.set i (.own (Ts++[T'])))) ):=by
   funext T ρ1;apply propext;constructor
   ·intro z;exact⟨T,rfl,z⟩
   ·rintro⟨T',e,z⟩;cases e;exact z
  rw[this]at hu;exact hu
 ·obtain⟨T,rfl,Ts,e1,lt,q⟩:=q1;cases p1 with
  |cons v t=>
   cases t;obtain⟨a',ys,ea',eH1,e3',z',pv'⟩:=s1.fr.at_ i _ e1;rw[ea]at ea';cases ea';have ll:ys.length=Ts.length:=Paired.length pv'
   refine⟨a,ys,_,rfl,rfl,eH1,yI (by omega),k _ _ _ _ (s1.trans (s1.fr.put (s':=.own (Ts++[T])) e1 rfl ea eH1 rfl λhs h0=>⟨a,_,rfl,bL,h0,by rw[b8,kr];omega,c_.hs hs (Paired.snoc pv' v)⟩)) (.flat rfl) q⟩⟩
noncomputable def LR:V->List V->Hp->VK->Prop:=λx vs H Q=>∃l b xs zs,x=.ref l/\vs=[.ref b]/\H l=some (.lst xs)/\Rd H b (.lst zs)/\xs.length+zs.length<=sizeLine/\Q .non (aw H l (.lst (xs++zs)))
theorem NW:rn X "list.extend" LR:=by
 rintro Pp s σ H _ _ v us Q I rx rv ⟨l,b,xs,zs,rfl,rfl,hH,hB,hz,q⟩;cases rx;obtain⟨u,rfl,ru⟩:=rv.one;cases ru;obtain⟨z,its,n,r,hl,e⟩:=I.lstM hH;obtain⟨z2,its2,n2,r2,e2⟩:=hB.ok I.hok;have hl2:=r2.length;have hlong:¬ (!its.toArray.isEmpty&&Builtin.List.listTooLong (its.toArray.size+its2.toArray.size))=true:=by
  rw[Bw (by rw[cg,cg];omega),me];exact b9
 refine call_meets F.slot_list_extend ⟨_,e,rfl⟩ F.entry_list_extend (F.args_list_extend_2 _ _) (AutoSeq1.list_extend_list_list_0 l its.toArray n b its2.toArray n2 hlong (by rw[cg];omega) (by rw[cg,cg];omega)) ⟨e,e2,?_⟩;exact⟨.non,_,I.lset (its':=its++its2) hH e (by simp) (r.append r2) (by rw[b8];omega),rfl,q⟩
noncomputable def KJ(i:Nat)(u:UT):UT:=λρ Q=>(∃Ts,ρ[i]?=some (.own Ts))/\u ρ λT ρ1=>∃Ts Us,ρ1[i]?=some (.own Ts)/\T=.seq false Us/\Ts.length+Us.length<=100000/\Q nT (ρ1.set i (.own (Ts++Us)))
theorem Mi(i:Nat)(h:UE X F e u)(hN:X.N[i]?=some x:=by rfl)(hv:qb X.env.scope x:=by first|exact Or.inl rfl|exact Or.inr (Or.inl rfl)|exact Or.inr (Or.inr rfl))(hd:(x==("__debug__":Str))=false:=by decide)(hcd:(x==("__classdict__":Str))=false:=by decide)
  (PB:attributeBase (.Name x p) "extend" X.env (eval (.Name x p) X.env)=eval (.Name x p) X.env:=by rfl)
  (hfew:((backTo Pq (starEach [e] X.env)).all (λx=>!x.1)&&(backToKw Pq (keywordEach [] X.env)).all (λx=>x.1.isSome)&&decide (([e]:List Expr).length+([]:List Keyword).length+(if ([]:List Keyword).isEmpty then 0 else 1)<30))=true:=by rfl)
  (Pz:(Pw.endLine==Pq.line)=true:=by rfl) (hs:starEach [e] X.env=(false,eval e X.env)::starEach [] X.env:=by rfl) (Py:(backTo Pq (starEach [] X.env)).any (·.1)=false:=by rfl) (hst:eX e=false:=by rfl):
  UE X F (.Call (.Attribute (.Name x p) "extend" Pw) [e] [] Pq) (KJ i u):=⟨PE.imp (qF PySem.F.plainAttrs_list PySem.F.slot_list_extend PySem.F.type_list_extend NW (lZ hN hv hd hcd) (aD h aG hst).pa PB hfew Pz hs Py) λσ H QQ ⟨ρ,Q,f,⟨⟨Ts0,e0⟩,hu⟩,k⟩=>by
 obtain⟨a,xs,ea,eH,e3,z,pv⟩:=f.at_ i _ e0;refine⟨_,kJ ea,.inl ⟨rfl,xs,b_.of eH⟩,ρ,λas ρ1=>∃T,as=[.va T]/\∃Ts Us,ρ1[i]?=some (.own Ts)/\T=.seq false Us/\Ts.length+Us.length<=100000/\Q nT (ρ1.set i (.own (Ts++Us))),f,?_,λvs as H1 ρ1 s1 p1 q1=>?_⟩
 ·show u ρ _;have:(λT ρ1=>∃Ts Us,ρ1[i]?=some (.own Ts)/\T=.seq false Us/\Ts.length+Us.length<=100000/\Q nT (ρ1.set i (.own (Ts++Us))))=(λT (ρ1:aW)=>(hJ ρ1 λas ρ2=>∃T',Ar.va T::as=[.va T']/\∃Ts Us,ρ2[i]?=some (.own Ts)/\T'=.seq false Us/\Ts.length+Us.length<=100000/\Q nT (ρ2.set i (.own (Ts++Us)))) ):=by
   funext T ρ1;apply propext;constructor
   ·intro z;exact⟨T,rfl,z⟩
   ·rintro⟨T',e,z⟩;cases e;exact z
  rw[this]at hu;exact hu
 ·obtain⟨T,rfl,Ts,Us,e1,rfl,le,q⟩:=q1;cases p1 with
  |cons v t=>
   cases t;have v:VA X.K H1 _ (.seq false Us):=v;obtain⟨b,zs,rfl,⟨ob,hb⟩,_,pz⟩:=v.seqI;obtain⟨a',ys,ea',eH1,e3',z',pv'⟩:=s1.fr.at_ i _ e1;rw[ea]at ea';cases ea';have ll:ys.length=Ts.length:=Paired.length pv';have lz:zs.length=Us.length:=Paired.length pz
   refine⟨a,b,ys,zs,rfl,rfl,eH1,.inr ⟨ob,hb⟩,iK (by omega),k _ _ _ _ (s1.trans (s1.fr.put (s':=.own (Ts++Us)) e1 rfl ea eH1 rfl λhs h0=>⟨a,_,rfl,bL,h0,by rw[b8];omega,c_.hs hs (rH pv' pz)⟩)) (.flat rfl) q⟩⟩
noncomputable def Jy(i:Nat)(u:UT):UT:=λρ Q=>(∃Ts,ρ[i]?=some (.own Ts))/\u ρ λJ ρ1=>∃(j:Int) (Ts:List Tv) (T:Tv),J=iT j/\ρ1[i]?=some (.own Ts)/\0<=j/\Ts[j.toNat]?=some T/\Q T (ρ1.set i (.own (Ts.eraseIdx j.toNat)))
theorem DB{α β:Type}{R:α->β->Prop}:∀{l:List α}{m:List β}(n:Nat),Paired R l m->Paired R (l.eraseIdx n) (m.eraseIdx n)
 |_,_,_,.nil=>.nil
 |_,_,0,.cons _ t=>t
 |_,_,n+1,.cons r t=>.cons r (DB n t)
theorem rA{α β:Type}{R:α->β->Prop}:∀{l:List α}{m:List β}{n:Nat}{y:β},Paired R l m->m[n]?=some y->∃x,l[n]?=some x/\R x y
 |_,_,_,_,.nil,e=>by simp at e
 |_,_,0,_,.cons r _,e=>by simp at e;subst e;exact⟨_,rfl,r⟩
 |_,_,n+1,_,.cons _ t,e=>by
  obtain⟨x,h1,h2⟩:=rA (n:=n) t (by simpa using e);exact⟨x,by simpa using h1,h2⟩
theorem K9(i:Nat)(h:UE X F e u)(hN:X.N[i]?=some x:=by rfl)(hv:qb X.env.scope x:=by first|exact Or.inl rfl|exact Or.inr (Or.inl rfl)|exact Or.inr (Or.inr rfl))(hd:(x==("__debug__":Str))=false:=by decide)(hcd:(x==("__classdict__":Str))=false:=by decide)
  (PB:attributeBase (.Name x p) "pop" X.env (eval (.Name x p) X.env)=eval (.Name x p) X.env:=by rfl)
  (hfew:((backTo Pq (starEach [e] X.env)).all (λx=>!x.1)&&(backToKw Pq (keywordEach [] X.env)).all (λx=>x.1.isSome)&&decide (([e]:List Expr).length+([]:List Keyword).length+(if ([]:List Keyword).isEmpty then 0 else 1)<30))=true:=by rfl)
  (Pz:(Pw.endLine==Pq.line)=true:=by rfl) (hs:starEach [e] X.env=(false,eval e X.env)::starEach [] X.env:=by rfl) (Py:(backTo Pq (starEach [] X.env)).any (·.1)=false:=by rfl) (hst:eX e=false:=by rfl):
  UE X F (.Call (.Attribute (.Name x p) "pop" Pw) [e] [] Pq) (Jy i u):=⟨PE.imp (qF PySem.F.plainAttrs_list PySem.F.slot_list_pop PySem.F.type_list_pop LB (lZ hN hv hd hcd) (aD h aG hst).pa PB hfew Pz hs Py) λσ H QQ ⟨ρ,Q,f,⟨⟨Ts0,e0⟩,hu⟩,k⟩=>by
 obtain⟨a,xs,ea,eH,e3,z,pv⟩:=f.at_ i _ e0;refine⟨_,kJ ea,.inl ⟨rfl,xs,b_.of eH⟩,ρ,λas ρ1=>∃J,as=[.va J]/\∃(j:Int) (Ts:List Tv) (T:Tv),J=iT j/\ρ1[i]?=some (.own Ts)/\0<=j/\Ts[j.toNat]?=some T/\Q T (ρ1.set i (.own (Ts.eraseIdx j.toNat))),f,?_,λvs as H1 ρ1 s1 p1 q1=>?_⟩
 ·show u ρ _;have:(λJ ρ1=>∃(j:Int) (Ts:List Tv) (T:Tv),J=iT j/\ρ1[i]?=some (.own Ts)/\0<=j/\Ts[j.toNat]?=some T/\Q T (ρ1.set i (.own (Ts.eraseIdx j.toNat))))=(λJ (ρ1:aW)=>(hJ ρ1 λas ρ2=>∃J',Ar.va J::as=[.va J']/\∃(j:Int) (Ts:List Tv) (T:Tv),J'=iT j/\ρ2[i]?=some (.own Ts)/\0<=j/\Ts[j.toNat]?=some T/\Q T (ρ2.set i (.own (Ts.eraseIdx j.toNat)))) ):=by
   funext T ρ1;apply propext;constructor
   ·intro z;exact⟨T,rfl,z⟩
   ·rintro⟨T',e,z⟩;cases e;exact z
  rw[this]at hu;exact hu
 ·obtain⟨J,rfl,j,Ts,T,rfl,e1,h0,eT,q⟩:=q1;cases p1 with
  |cons v t=>
   cases t;obtain⟨rfl,_⟩:=VA.leafI v;obtain⟨a',ys,ea',eH1,e3',z',pv'⟩:=s1.fr.at_ i _ e1;rw[ea]at ea';cases ea';have ll:ys.length=Ts.length:=Paired.length pv';have lt:=(qB_.mp eT).1;obtain⟨y,ey,vy⟩:=rA pv' eT;have s:=s1.fr.put (o':=.lst (ys.eraseIdx j.toNat)) e1 rfl ea eH1 rfl (s':=.own (Ts.eraseIdx j.toNat)) λhs h0=>⟨a,_,rfl,bL,h0,by rw[List.length_eraseIdx];split<;>omega,c_.hs hs (DB _ pv')⟩
   refine⟨a,ys,j,j.toNat,y,rfl,rfl,eH1,by omega,by omega,PySem.StrLaws.seqIndex_nonneg h0 (by omega),ey,k _ _ _ _ (s1.trans s) (vy.hs (s.hs s1.fr)) q⟩⟩
noncomputable def JQ(i:Nat):d6:=λP ρ=>P.nx (ρ.set i (.dct []))
theorem La{i:Nat}{pos' dpos:Pos}(hN:X.N.Nodup)(hi:X.N[i]?=some x)(hx:kz X.env.scope x)(hs:swapsWith (.Dict [] [] dpos) (some (.Name x pos')) pos.line X.env=pure false:=by rfl)(hf:X.fn x=true\/X.env.scope.names.lookup x=some .local:=by first|exact .inl rfl|exact .inr rfl|assumption):
  US X F (.Assign [.Name x pos'] (.Dict [] [] dpos) pos) (JQ i):=⟨PS.imp (kP hN hi hx LH hs hf) λD σ H ⟨ρ,P,f,h,k1,_⟩ a n=>by
 have s:=bq.same f (dC (o:=.dK []) n)
 exact k1 _ _ _ (s.fr.set (s:=.dct []) (λ_=>⟨a,[],rfl,bL,f.none0 n,.nil,by decide,.nil⟩) (λ_ b eb j t ej mj qj=>by cases eb;exact s.notown f n j t ej mj qj)) (s.hs f) h⟩
noncomputable def gF(kts:List (Str×Tv))(k:Str)(T:Tv):List (Str×Tv):=if (kts.any λkt=>decide (kt.1=k))=true then kts.map (λkt=>if kt.1=k then(kt.1,T) else kt) else kts++[(k,T)]
theorem KR{K:W.Frag}{H:Hp}{kvs:List (ay×V)}{kts:List (Str×Tv)}(p:gp K H kvs kts)(k:Str):(kvs.any λkv=>decide (kv.1=.inr k))=kts.any λkt=>decide (kt.1=k):=by
 unfold gp at p
 induction p with
 |nil=>rfl
 |cons r _ ih=>
  rw[ie,ie,ih,r.1];congr 1;rw[fm,decide_eq_true_iff,decide_eq_true_iff];exact⟨λz=>Sum.inr.inj z,λz=>by rw[z]⟩
theorem KS{K:W.Frag}{H:Hp}{kvs:List (ay×V)}{kts:List (Str×Tv)}(p:gp K H kvs kts){k:Str}{v:V}{T:Tv}(q:VA K H v T):gp K H (eE kvs (.inr k) v) (gF kts k T):=by
 unfold eE gF;rw[KR p k];split
 ·rename_i zz;clear zz;unfold gp at p ⊢
  induction p with
  |nil=>exact .nil
  |@cons kv kt _ _ r _ ih=>
   refine .cons ?_ ih;dsimp only;by_cases z:kt.1=k
   ·rw[if_pos z,if_pos (by rw[r.1,z])];exact⟨r.1,q⟩
   ·rw[if_neg z,if_neg (by rw[r.1];exact λy=>z (Sum.inr.inj y))];exact r
 ·exact Paired.snoc p ⟨rfl,q⟩
theorem MR(kts:List (Str×Tv))(k:Str)(T:Tv):(gF kts k T).map (·.1)=if (kts.any λkt=>decide (kt.1=k))=true then kts.map (·.1) else kts.map (·.1)++[k]:=by
 unfold gF;split
 ·rw[cv];refine oo λkt _=>?_
  show(if kt.1=k then(kt.1,T) else kt).1=kt.1;split<;>rfl
 ·rw[dw];rfl
theorem DO{kts:List (Str×Tv)}{k:Str}{T:Tv}(h:(kts.map (·.1)).Nodup):((gF kts k T).map (·.1)).Nodup:=by
 rw[MR];split
 ·exact h
 ·rename_i n;rw[oi];refine⟨h,by simp,λa ha b hb=>?_⟩;rw[qX_]at hb;subst hb;rintro rfl;obtain⟨kt,hk,rfl⟩:=qd_.mp ha;exact n (qA_.mpr ⟨kt,hk,by simp⟩)
noncomputable def Gv(i:Nat)(uk uv:UT):d6:=λP ρ=>uv ρ λT ρ1=>(∃kts,ρ1[i]?=some (.dct kts))/\uk ρ1 λk ρ2=>∃kts s,ρ2[i]?=some (.dct kts)/\k=sT s/\(gF kts s T).length<64/\P.nx (ρ2.set i (.dct (gF kts s T)))
theorem KP{i:Nat}{k:Expr}{uk uv:UT}{pos':Pos}(hu:X.A.units+1<cLine)(hN:X.N[i]?=some x)(hv:qb X.env.scope x)(hk:UE X F k uk)(he:UE X F e uv)(hs:swapsWith e (some (.Subscript (.Name x p) k pos')) pos.line X.env=pure false:=by rfl)(hd:(x==("__debug__":Str))=false:=by decide)(hcd:(x==("__classdict__":Str))=false:=by decide):
  US X F (.Assign [.Subscript (.Name x p) k pos'] e pos) (Gv i uk uv):=⟨PS.imp (K3 hu (lZ hN hv hd hcd) hk.pe he.pe hs) λD σ H ⟨ρ,P,f,h,k1,_⟩=>by
 refine⟨ρ,_,f,h,λv T H1 ρ1 s1 v1 q1=>?_⟩;obtain⟨⟨kts0,e0⟩,q1⟩:=q1;obtain⟨a,kvs0,ea,eH0,_⟩:=s1.fr.at_ i _ e0;refine⟨_,kJ ea,ρ1,_,s1.fr,q1,λy Ky H2 ρ2 s2 v2 q2=>?_⟩;obtain⟨kts,s,e2,rfl,lt,q⟩:=q2;obtain⟨rfl,_⟩:=v2.leafI;obtain⟨a',kvs,ea',eH,h0,nd,l64,p⟩:=s2.fr.at_ i _ e2;rw[ea]at ea';cases ea';have ll:kvs.length=kts.length:=Paired.length p;refine⟨a,_,rfl,oz.k (k:=.inr s) eH (yI (by omega)),?_⟩;have st:=s2.fr.put (o':=.dK (eE kvs (.inr s) v)) e2 rfl ea eH rfl (s':=.dct (gF kts s T)) λhs h0=>⟨a,_,rfl,bL,h0,DO nd,lt,gp.hs hs (KS p (v1.hs (s2.hs s1.fr)))⟩
 exact k1 _ _ _ st.fr (((s1.trans s2).trans st).hs f) q⟩
end
theorem ag.frozen{X:Cx}{Pp:List (Addr×Obj)}{σ:St}{H H2:Hp}{s:Shared}(I:ag X Pp σ H s)(fro:bz qT H H2)(ok2:d7 X.prog X.w H2 s.heap):ag X Pp σ H2 s:=by
 refine⟨I.ok,I.os,I.bare,⟨I.base.keep,I.base.slot,λb o e n hx=>fro.none_of (I.base.free b o e n hx),I.base.there,λb xs e=>fro.keep (I.base.tups b xs e) rfl,λb o u e=>fro.keep (I.base.frzs b o u e) rfl,λb ps e=>?_⟩,I.loc,I.cell,fro.none_of I.free,λx c e=>fro.none_of (I.freeC x c e),λp hp=>?_,ok2,I.len⟩
 ·obtain⟨more,z⟩:=I.base.tbls b ps e;exact⟨more,fro.keep z rfl⟩
 ·obtain⟨p1,p2,p3⟩:=I.pin p hp;exact⟨p1,fro.none_of p2,p3⟩
theorem ag.thaw{X:Cx}{Pp:List (Addr×Obj)}{σ:St}{H H3 H4:Hp}{s s':Shared}(I:ag X Pp σ H s)(I3:ag X Pp σ H3 s')(th:m_ H H3 H4):ag X Pp σ H4 s':=by
 have stay:∀b o,H3 b=some o->(∀u ob,o≠.frz ob u)->H4 b=some o:=λb o e n=>by
  rcases th b with⟨u,ob,_,_,z,_⟩|⟨_,z⟩
  ·rw[e]at z;cases z;exact absurd rfl (n u ob)
  ·rw[z];exact e
 have none4:∀b,H3 b=none->H4 b=none:=λb e=>by
  rcases th b with⟨u,ob,_,_,z,_⟩|⟨_,z⟩
  ·rw[e]at z;cases z
  ·rw[z];exact e
 refine⟨I3.ok,I3.os,I3.bare,⟨I3.base.keep,I3.base.slot,λb o e n hx=>none4 b (I3.base.free b o e n hx),I3.base.there,λb xs e=>stay b _ (I3.base.tups b xs e) (λ_ _ z=>by cases z),λb o u e=>?_,λb ps e=>?_⟩,I3.loc,I3.cell,none4 _ I3.free,λx c e=>none4 c (I3.freeC x c e),λp hp=>?_,λb o e=>?_,I3.len⟩
 ·rcases th b with⟨o',ob,n,z,_⟩|⟨_,z⟩
  ·rw[I.base.frzs b o u e]at z;cases z;exact absurd n b9
  ·rw[z];exact I3.base.frzs b o u e
 ·obtain⟨more,z⟩:=I3.base.tbls b ps e;exact⟨more,stay b _ z (λ_ _ z=>by cases z)⟩
 ·obtain⟨p1,p2,p3⟩:=I3.pin p hp;exact⟨p1,none4 _ p2,p3⟩
 ·have st:∀o,a_ X.prog X.w H3 s'.heap b o->a_ X.prog X.w H4 s'.heap b o:=λo x=>x.stay (λ_ _ _ r=>r) (λd r=>stay d _ r (λ_ _ z=>by cases z)) λd xs r=>stay d _ r (λ_ _ z=>by cases z)
  rcases th b with⟨o',ob,n,_,z,z'⟩|⟨_,z⟩
  ·rw[z']at e;cases e;obtain⟨_,y⟩:=(show a_ X.prog X.w H3 s'.heap b (.frz ob o) from I3.hok b _ z)
   exact st o y
  ·rw[z]at e;exact st o (I3.hok b o e)
noncomputable def Os:Sl->Sl
 |.own Ts=>.va (.seq false Ts)
 |.dct kts=>.va (.dct kts)
 |.dk=>.no
 |s=>s
noncomputable def o6(ρ:aW):aW:=ρ.map Os
theorem x_{K:W.Frag}{F:Fm}{ρ:aW}{σ:St}{H H2:Hp}(f:av K F ρ σ H)(fro:bz qT H H2):av K ⟨H2,none⟩ (o6 ρ) σ H2:=by
 have hs:=fro.hs;refine⟨λ_ _ z=>(nomatch z),⟨λ_ _ e _=>e,λ_ _ z=>(nomatch z)⟩,by unfold o6;rw[aq];exact f.len,λi s e=>?_,λi j a s t e _ m _ _ _=>?_⟩
 ·unfold o6 at e;rw[g4]at e;obtain⟨s0,e0,rfl⟩:=qf1_.mp e;have h:=f.at_ i s0 e0;cases s0 with
  |no=>trivial
  |va T=>obtain⟨y,e1,v⟩:=h;exact⟨y,e1,v.hs hs⟩
  |own Ts=>
   obtain⟨a,xs,e1,e2,e3,z,p⟩:=h;obtain⟨ob,e4⟩:=fro.fz (b:=a) rfl e2 rfl;exact⟨_,e1,VA.seq (t:=false) ⟨ob,e4⟩ z (p.hs hs)⟩
  |dct kts=>
   obtain⟨a,kvs,e1,e2,e3,n,z,p⟩:=h;obtain⟨ob,e4⟩:=fro.fz (b:=a) rfl e2 rfl;exact⟨_,e1,VA.dct ⟨ob,e4⟩ n z (p.hs hs)⟩
  |dk=>trivial
 ·unfold o6 at e;rw[g4]at e;obtain⟨s0,e0,rfl⟩:=qf1_.mp e;cases s0<;>cases m
theorem BG{K:W.Frag}{ρ ρ':aW}{σ:St}{H2 H3:Hp}{H0:Hp}(s:bq K ⟨H0,none⟩ σ (o6 ρ) H2 ρ' H3):ba H2 H3:=λb o e=>s.st b o e (λ_ _ z=>(nomatch z)) λi t e1 m=>by
 unfold o6 at e1;rw[g4]at e1;obtain⟨s0,e0,rfl⟩:=qf1_.mp e1;cases s0<;>cases m
section
variable{X:Cx}{F:Fm}{e:Expr}
noncomputable def GG(u:UT):UT:=λρ Q=>u (o6 ρ) λT _=>∃v,T=.leaf v/\Q T ρ
theorem xS{u:UT}(h:∀F,UE X F e u):UE X F e (GG u):=⟨λPp s σ H QQ I ⟨ρ,Q,f,hu,k⟩=>by
 obtain⟨H2,fro,ok2⟩:=CY I.hok;have f2:=x_ f fro;refine bj ((h ⟨H2,none⟩).pe Pp s σ H2 (λx H3=>∃v ρ',bq X.K ⟨H2,none⟩ σ (o6 ρ) H2 ρ' H3/\VA X.K H3 x (.leaf v)/\Q (.leaf v) ρ) (I.frozen fro ok2) ⟨_,_,f2,hu,λx T H' ρ' st v q=>?_⟩) λu s' ⟨x,H3,I3,r,q⟩=>?_
 ·obtain⟨w,rfl,q⟩:=q;exact⟨w,ρ',st,v,q⟩
 ·obtain⟨v,ρ',st,va,q⟩:=q;obtain⟨H4,th⟩:=BV H H3;obtain⟨rfl,fl⟩:=va.leafI
  exact⟨x,H4,I.thaw I3 th,r,k _ _ _ _ (bq.same f (m_.same fro (BG st) th)) (.flat fl) q⟩⟩
noncomputable def Jx(u:d5):d5:=λρ Q=>u (o6 ρ) λb _=>Q b ρ
theorem KM{u:d5}(h:∀F,UB X F e u):UB X F e (Jx u):=⟨λPp s σ H QQ I ⟨ρ,Q,f,hu,k⟩=>by
 obtain⟨H2,fro,ok2⟩:=CY I.hok;have f2:=x_ f fro;refine bj ((h ⟨H2,none⟩).pt Pp s σ H2 (λb H3=>∃ρ',bq X.K ⟨H2,none⟩ σ (o6 ρ) H2 ρ' H3/\Q b ρ) (I.frozen fro ok2) ⟨_,_,f2,hu,λb H' ρ' st q=>⟨ρ',st,q⟩⟩) λb s' ⟨H3,I3,q⟩=>?_
 obtain⟨ρ',st,q⟩:=q;obtain⟨H4,th⟩:=BV H H3
 exact⟨H4,I.thaw I3 th,k _ _ _ (bq.same f (m_.same fro (BG st) th)) q⟩⟩
end
mutual
noncomputable def eqT:Tv->Tv->Bool
 |.leaf v,.leaf w=>dr v w
 |.seq s xs,.seq t ys=>s==t&&cM xs ys
 |_,_=>false
noncomputable def cM:List Tv->List Tv->Bool
 |[],[]=>true
 |x::xs,y::ys=>eqT x y&&cM xs ys
 |_,_=>false
end
noncomputable def f9:Nat->Tv->Prop
 |0,_=>False
 |_+1,.leaf _=>True
 |n+1,.seq _ xs=>∀U∈xs,f9 n U
 |_+1,.dct _=>False
theorem xN:∀{xs ys:List Tv},xs.length≠ys.length->cM xs ys=false
 |[],[],h=>absurd rfl h
 |[],_::_,_=>by simp[cM]
 |_::_,[],_=>by simp[cM]
 |x::xs,y::ys,h=>by
  have:=xN (xs:=xs) (ys:=ys) (λe=>h (by simp[e]));simp[cM,this]
theorem wH:∀{xs ys:List Tv},xs.length=ys.length->(List.range xs.length).all (λi=>eqT (xs.getD i nT) (ys.getD i nT))=cM xs ys
 |[],[],_=>by simp[cM]
 |[],_::_,h=>by simp at h
 |_::_,[],h=>by simp at h
 |x::xs,y::ys,h=>by
  have ih:=wH (xs:=xs) (ys:=ys) (by simpa using h);rw[iw,mq,jb,jx];show(eqT x y&&(List.range xs.length).all λi=>eqT (xs.getD i nT) (ys.getD i nT))=cM (x::xs) (y::ys);rw[ih];simp[cM]
theorem f9.vp{K:W.Frag}{H:Hp}:∀{n d:Nat}{x:V}{T:Tv},f9 n T->VP K H d x T->VP K H n x T
 |0,_,_,_,h,_=>False.elim h
 |_+1,0,_,_,_,h=>False.elim h
 |n+1,d+1,x,T,h,v=>by
  rcases v with v|⟨t,a,xs,Ts,e1,e2,rfl,z,p⟩|⟨a,kvs,kts,e1,e2,rfl,_⟩
  ·exact .inl v
  ·have g:∀U∈Ts,f9 n U:=h;refine .inr (.inl ⟨t,a,xs,Ts,e1,e2,rfl,z,?_⟩);clear e2 z h
   induction p with
   |nil=>exact .nil
   |cons r _ ih=>exact .cons ((g _ (.head _)).vp r) (ih λU hU=>g U (.tail _ hU))
  ·exact False.elim h
section
variable{X:Cx}{Pp:List (Addr×Obj)}{σ:St}{H:Hp}{s:Shared}
theorem Kf{v:V}(h:eC v=true):dr v v=true:=by
 cases v<;>first|exact absurd h b9|simp[dr]
theorem bg.isList{a:Addr}{xs:List V}(I:ag X Pp σ H s)(h:bg X.K H false a xs):∃its:List Value,ak xs its/\s.heap.IsList a its.toArray:=by
 obtain⟨its,r,p,_⟩:=I.list (dE h);exact⟨its,r,p.isList⟩
theorem bg.isTup{a:Addr}{xs:List V}(I:ag X Pp σ H s)(h:bg X.K H true a xs):∃its:List Value,ak xs its/\s.heap.IsTuple a its.toArray:=by
 obtain⟨its,r,p,_⟩:=I.tuple h;exact⟨its,r,p⟩
theorem Au(I:ag X Pp σ H s):∀{n:Nat}{x:V}{T U:Tv},VP X.K H n x T->VP X.K H n x U->f9 n T->f9 n U->eqT T U=true
 |0,_,_,_,h,_,_,_=>False.elim h
 |n+1,x,T,U,h,h',d,d'=>by
  rcases h with⟨f,rfl⟩|⟨t,a,xs,Ts,rfl,e2,rfl,z,p⟩|⟨a,kvs,kts,rfl,e2,rfl,_⟩
  ·rcases h' with⟨_,rfl⟩|⟨t',a',xs',Ts',rfl,_⟩|⟨a',kvs',kts',rfl,_⟩
   ·simp[eqT,Kf f]
   ·cases f
   ·cases f
  ·rcases h' with⟨f,rfl⟩|⟨t',a',xs',Ts',e1',e2',rfl,z',p'⟩|⟨a',kvs',kts',e1',e2',rfl,_⟩
   ·cases f
   ·cases e1';have tt:t=t':=by
     cases t<;>cases t'<;>first|rfl|skip
     ·obtain⟨_,_,l1⟩:=bg.isList I e2;obtain⟨_,_,l2⟩:=bg.isTup I e2';exact absurd rfl (SeqAt.ne_of_list_tuple l1 l2)
     ·obtain⟨_,_,l1⟩:=bg.isList I e2';obtain⟨_,_,l2⟩:=bg.isTup I e2;exact absurd rfl (SeqAt.ne_of_list_tuple l1 l2)
    subst tt;have ex:xs=xs':=by
     cases t with
     |false=>exact I.list_inj (dE e2) (dE e2')
     |true=>exact I.tuple_inj e2 e2'
    subst ex;have d:∀U∈Ts,f9 n U:=d;have d':∀U∈Ts',f9 n U:=d';have key:∀{xs:List V} {Ts Ts':List Tv},Paired (VP X.K H n) xs Ts->Paired (VP X.K H n) xs Ts'->(∀U∈Ts,f9 n U)->(∀U∈Ts',f9 n U)->cM Ts Ts'=true:=by
     intro xs Ts Ts' p
     induction p generalizing Ts' with
     |nil=>intro p' _ _;cases p';simp[cM]
     |cons r _ ih=>
      intro p' d d';cases p' with
      |cons r' t'=>simp[cM,Au I r r' (d _ (.head _)) (d' _ (.head _)),ih t' (λU hU=>d U (.tail _ hU)) (λU hU=>d' U (.tail _ hU))]
    simp[eqT,key p p' d d']
   ·exact False.elim d'
  ·exact False.elim d
theorem lH{x:V}(h:eC x=true):x=.non\/(∃b,x=.bl b)\/(∃i,x=.int i)\/∃z,x=.str z:=by
 cases x with
 |non=>exact .inl rfl
 |bl b=>exact .inr (.inl ⟨b,rfl⟩)
 |int i=>exact .inr (.inr (.inl ⟨i,rfl⟩))
 |str z=>exact .inr (.inr (.inr ⟨z,rfl⟩))
 |_=>exact absurd (show false=true from h) b9
open SeqAt in
theorem rC(I:ag X Pp σ H s){A:Around}(hu:A.units<cLine){x:V}{v:Value}{t:Bool}{a:Addr}{xs:List V}(f:eC x=true)(r:aj x v)(h:bg X.K H t a xs):
  EqAt A s v (.ref a) false/\EqAt A s (.ref a) v false/\RcAt A s v (.ref a) false/\RcAt A s (.ref a) v false/\RcNeAt A s v (.ref a) true/\RcNeAt A s (.ref a) v true:=by
 cases t with
 |false=>
  obtain⟨_,_,l⟩:=bg.isList I h;rcases lH f with rfl|⟨b,rfl⟩|⟨b,rfl⟩|⟨b,rfl⟩
  ·cases r;exact⟨.none_list l hu,.list_none l hu,.none_list l hu,.list_none l hu,.none_list l hu,.list_none l hu⟩
  ·cases r;exact⟨.bool_list b l hu,.list_bool b l hu,.bool_list b l hu,.list_bool b l hu,.bool_list b l hu,.list_bool b l hu⟩
  ·obtain⟨t,rfl⟩:=r;exact⟨.int_list b t l hu,.list_int b t l hu,.int_list b t l hu,.list_int b t l hu,.int_list b t l hu,.list_int b t l hu⟩
  ·obtain⟨t,rfl⟩:=r;exact⟨.str_list b t l hu,.list_str b t l hu,.str_list b t l hu,.list_str b t l hu,.str_list b t l hu,.list_str b t l hu⟩
 |true=>
  obtain⟨_,_,l⟩:=bg.isTup I h;rcases lH f with rfl|⟨b,rfl⟩|⟨b,rfl⟩|⟨b,rfl⟩
  ·cases r;exact⟨.none_tuple l hu,.tuple_none l hu,.none_tuple l hu,.tuple_none l hu,.none_tuple l hu,.tuple_none l hu⟩
  ·cases r;exact⟨.bool_tuple b l hu,.tuple_bool b l hu,.bool_tuple b l hu,.tuple_bool b l hu,.bool_tuple b l hu,.tuple_bool b l hu⟩
  ·obtain⟨t,rfl⟩:=r;exact⟨.int_tuple b t l hu,.tuple_int b t l hu,.int_tuple b t l hu,.tuple_int b t l hu,.int_tuple b t l hu,.tuple_int b t l hu⟩
  ·obtain⟨t,rfl⟩:=r;exact⟨.str_tuple b t l hu,.tuple_str b t l hu,.str_tuple b t l hu,.tuple_str b t l hu,.str_tuple b t l hu,.tuple_str b t l hu⟩
open SeqAt in
theorem Ku{A:Around}{x y:V}{v u:Value}(fx:eC x=true)(fy:eC y=true)(rx:aj x v)(ry:aj y u):RcAt A s v u (dr x y)/\RcNeAt A s v u (!dr x y):=by
 rcases lH fx with rfl|⟨a,rfl⟩|⟨a,rfl⟩|⟨a,rfl⟩<;>rcases lH fy with rfl|⟨b,rfl⟩|⟨b,rfl⟩|⟨b,rfl⟩
 ·cases rx;cases ry;exact⟨.none_none,.none_none⟩
 ·cases rx;cases ry;exact⟨.none_bool b,.none_bool b⟩
 ·cases rx;obtain⟨t,rfl⟩:=ry;exact⟨.none_int b t,.none_int b t⟩
 ·cases rx;obtain⟨t,rfl⟩:=ry;exact⟨.none_str b t,.none_str b t⟩
 ·cases rx;cases ry;exact⟨.bool_none a,.bool_none a⟩
 ·cases rx;cases ry;exact⟨.bool_bool a b,.bool_bool a b⟩
 ·cases rx;obtain⟨t,rfl⟩:=ry;exact⟨.bool_int a b t,.bool_int a b t⟩
 ·cases rx;obtain⟨t,rfl⟩:=ry;exact⟨.bool_str a b t,.bool_str a b t⟩
 ·obtain⟨t',rfl⟩:=rx;cases ry;exact⟨.int_none a t',.int_none a t'⟩
 ·obtain⟨t',rfl⟩:=rx;cases ry;exact⟨.int_bool a t' b,.int_bool a t' b⟩
 ·obtain⟨t',rfl⟩:=rx;obtain⟨t,rfl⟩:=ry;exact⟨.int_int a t' b t,.int_int a t' b t⟩
 ·obtain⟨t',rfl⟩:=rx;obtain⟨t,rfl⟩:=ry;exact⟨.int_str a t' b t,.int_str a t' b t⟩
 ·obtain⟨t',rfl⟩:=rx;cases ry;exact⟨.str_none a t',.str_none a t'⟩
 ·obtain⟨t',rfl⟩:=rx;cases ry;exact⟨.str_bool a t' b,.str_bool a t' b⟩
 ·obtain⟨t',rfl⟩:=rx;obtain⟨t,rfl⟩:=ry;exact⟨.str_int a t' b t,.str_int a t' b t⟩
 ·obtain⟨t',rfl⟩:=rx;obtain⟨t,rfl⟩:=ry;exact⟨.str_str a t' b t,.str_str a t' b t⟩
theorem CJ{xs:List V}{us:List Value}(r:ak xs us){j:Nat}(h:j<us.toArray.size):∃x,xs[j]?=some x/\aj x us.toArray[j]:=by
 have l:=r.length;have k:j<xs.length:=by rw[l];simpa using h
 obtain⟨u,hu,ru⟩:=r.get (i:=j) (x:=xs[j]) (cb k);refine⟨_,cb k,?_⟩;have e1:us.toArray[j]=u:=by
  obtain⟨_,e⟩:=qB_.mp hu;simpa using e
 rw[e1];exact ru
open SeqAt in
theorem AY(I:ag X Pp σ H s){A:Around}(hu:A.units<cLine){t:Bool}{a b:Addr}{xs ys:List V}{Ts Us:List Tv}(ha:bg X.K H t a xs)(hb:bg X.K H t b ys)(lx:xs.length=Ts.length)(ly:ys.length=Us.length)
  (it:∀(j:Nat) (x y:V) (T U:Tv) (v u:Value),xs[j]?=some x->ys[j]?=some y->Ts[j]?=some T->Us[j]?=some U->aj x v->aj y u->EqAt A.in1 s v u (eqT T U)):RcAt A s (.ref a) (.ref b) (cM Ts Us)/\RcNeAt A s (.ref a) (.ref b) (!cM Ts Us):=by
 have item:∀{vs us:List Value},ak xs vs->ak ys us->∀j (h1:j<vs.toArray.size) (h2:j<us.toArray.size),EqAt A.in1 s vs.toArray[j] us.toArray[j] (eqT (Ts.getD j nT) (Us.getD j nT)):=λ{vs us} r1 r2 j h1 h2=>by
  obtain⟨x,ex,rx⟩:=CJ r1 h1;obtain⟨y,ey,ry⟩:=CJ r2 h2;have k1:=(qB_.mp ex).1;have k2:=(qB_.mp ey).1;refine it j x y _ _ _ _ ex ey ?_ ?_ rx ry
  ·rw[ji,cb (by omega)];rfl
  ·rw[ji,cb (by omega)];rfl
 cases t with
 |false=>
  obtain⟨vs,r1,l1⟩:=bg.isList I ha;obtain⟨us,r2,l2⟩:=bg.isList I hb;have n1:=r1.length;have n2:=r2.length;by_cases hl:Ts.length=Us.length
  ·have e1:=RcAt.lists l1 l2 (by simp only[cg];omega) hu (item r1 r2);have e2:=RcNeAt.lists l1 l2 (by simp only[cg];omega) hu (item r1 r2);rw[show vs.toArray.size=Ts.length by rw[cg];omega,wH hl]at e1 e2;exact⟨e1,e2⟩
  ·rw[xN hl];have hne:(vs.toArray.size != us.toArray.size)=true:=by
    rw[bne_iff_ne,cg,cg];omega
   exact⟨.lists_lengths l1 l2 hne hu,.lists_lengths l1 l2 hne hu⟩
 |true=>
  obtain⟨vs,r1,l1⟩:=bg.isTup I ha;obtain⟨us,r2,l2⟩:=bg.isTup I hb;have n1:=r1.length;have n2:=r2.length;have e1:=RcAt.tuples l1 l2 hu (item r1 r2);have e2:=RcNeAt.tuples l1 l2 hu (item r1 r2);have ee:((List.range (min vs.toArray.size us.toArray.size)).all (λi=>eqT (Ts.getD i nT) (Us.getD i nT))&&vs.toArray.size==us.toArray.size)=cM Ts Us:=by
   rw[show vs.toArray.size=Ts.length by rw[cg];omega,show us.toArray.size=Us.length by rw[cg];omega];by_cases hl:Ts.length=Us.length
   ·rw[<-hl,Nat.min_self,wH hl];simp
   ·rw[xN hl,beq_eq_false_iff_ne.mpr hl,me]
  rw[ee]at e1 e2;exact⟨e1,e2⟩
open SeqAt in
theorem yO(I:ag X Pp σ H s):∀(n:Nat) {A:Around}{x y:V}{T U:Tv}{v u:Value},A.units+n<cLine->f9 n T->f9 n U->VP X.K H n x T->VP X.K H n y U->aj x v->aj y u->EqAt A s v u (eqT T U)
 |0,_,_,_,_,_,_,_,_,h,_,_,_,_,_=>False.elim h
 |n+1,A,x,y,T,U,v,u,hu,d,d',h,h',rx,ry=>by
  have hu0:A.units<cLine:=by omega
  have hh:=h;have hh':=h';rcases h with⟨f,rfl⟩|⟨t,a,xs,Ts,rfl,e2,rfl,z,p⟩|⟨a,kvs,kts,rfl,e2,rfl,_⟩
  ·rcases h' with⟨f',rfl⟩|⟨t',a',xs',Ts',rfl,e2',rfl,z',p'⟩|⟨a',kvs',kts',rfl,_,rfl,_⟩
   ·have:=A9 (A:=A) (s:=s) rx ry f f';simpa[eqT]using this
   ·cases ry;have:=(rC I hu0 f rx e2').1;simpa[eqT]using this
   ·exact False.elim d'
  ·rcases h' with⟨f',rfl⟩|⟨t',b,ys,Us,rfl,e2',rfl,z',p'⟩|⟨a',kvs',kts',rfl,_,rfl,_⟩
   ·cases rx;have:=(rC I hu0 f' ry e2).2.1;simpa[eqT]using this
   ·cases rx;cases ry;by_cases ab:a=b
    ·subst ab;have:=Au I hh hh' d d';rw[this];exact EqAt.same _
    ·by_cases tt:t=t'
     ·subst tt;have d:∀U∈Ts,f9 n U:=d;have d':∀U∈Us,f9 n U:=d'
      have:=(AY I hu0 e2 e2' (Paired.length p) (Paired.length p') λj x y T U v u ex ey eT eU rx ry=>by
       obtain⟨T',eT',vx⟩:=iF p ex;obtain⟨U',eU',vy⟩:=iF p' ey;rw[eT]at eT';cases eT';rw[eU]at eU';cases eU'
       exact yO I n (by show A.units+1+n<_;omega) (d _ (i7 eT)) (d' _ (i7 eU)) vx vy rx ry).1
      have r:=EqAt.of_refs ab this;simpa[eqT]using r
     ·have e:eqT (.seq t Ts) (.seq t' Us)=false:=by simp[eqT,tt]
      rw[e];refine EqAt.of_refs ab ?_;cases t<;>cases t'<;>first|exact absurd rfl tt|skip
      ·obtain⟨_,_,l1⟩:=bg.isList I e2;obtain⟨_,_,l2⟩:=bg.isTup I e2';exact .list_tuple l1 l2 hu0
      ·obtain⟨_,_,l1⟩:=bg.isTup I e2;obtain⟨_,_,l2⟩:=bg.isList I e2';exact .tuple_list l1 l2 hu0
   ·exact False.elim d'
  ·exact False.elim d
end
noncomputable def EI(Ts Us:List Tv):Prop:=Ts=[]\/Us=[]\/((∀T∈Ts,f9 40 T)/\∀U∈Us,f9 40 U)
noncomputable def lD(neg:Bool):P2
 |.leaf v,.leaf w,Q=>Q (bT (neg != dr v w))
 |.leaf _,.seq _ _,Q=>Q (bT neg)
 |.seq _ _,.leaf _,Q=>Q (bT neg)
 |.seq s xs,.seq t ys,Q=>EI xs ys/\Q (bT (neg != (s==t&&cM xs ys)))
 |_,_,_=>False
section
variable{X:Cx}
open SeqAt in
theorem Aq{Pp:List (Addr×Obj)}{σ:St}{H:Hp}{s:Shared}(I:ag X Pp σ H s)(hu:X.A.units+64<cLine){neg:Bool}{x y:V}{T U:Tv}{v u:Value}{Q:Tv->Prop}(vx:VA X.K H x T)(vy:VA X.K H y U)(rx:aj x v)(ry:aj y u)(h:lD neg T U Q):
  ∃b,Q (bT (neg != b))/\RcAt X.A s v u b/\RcNeAt X.A s v u (!b):=by
 have hu0:X.A.units<cLine:=by omega
 unfold lD at h;split at h
 ·obtain⟨rfl,f⟩:=vx.leafI;obtain⟨rfl,f'⟩:=vy.leafI;exact⟨_,h,Ku f f' rx ry⟩
 ·obtain⟨rfl,f⟩:=vx.leafI;obtain⟨a,xs,rfl,hs,_⟩:=vy.seqI;cases ry;have r:=rC I hu0 f rx hs;exact⟨false,by simpa using h,r.2.2.1,r.2.2.2.2.1⟩
 ·obtain⟨rfl,f⟩:=vy.leafI;obtain⟨a,xs,rfl,hs,_⟩:=vx.seqI;cases rx;have r:=rC I hu0 f ry hs;exact⟨false,by simpa using h,r.2.2.2.1,r.2.2.2.2.2⟩
 ·rename_i t Ts t' Us;obtain⟨ok,q⟩:=h;obtain⟨a,xs,rfl,hs,z,p⟩:=vx.seqI;obtain⟨b,ys,rfl,hs',z',p'⟩:=vy.seqI;cases rx;cases ry;refine⟨_,q,?_⟩;by_cases tt:t=t'
  ·subst tt;have e:(t==t&&cM Ts Us)=cM Ts Us:=by simp
   rw[e];refine AY I hu0 hs hs' (Paired.length p) (Paired.length p') λj x y T U v u ex ey eT eU rx ry=>?_
   rcases ok with rfl|rfl|⟨o1,o2⟩
   ·cases eT
   ·cases eU
   ·obtain⟨T',eT',d,vx⟩:=iF p ex;obtain⟨U',eU',d',vy⟩:=iF p' ey;rw[eT]at eT';cases eT';rw[eU]at eU';cases eU';have k1:=o1 _ (i7 eT);have k2:=o2 _ (i7 eU);exact yO I 40 (by show X.A.units+1+40<_;omega) k1 k2 (k1.vp vx) (k2.vp vy) rx ry
  ·have e:(t==t'&&cM Ts Us)=false:=by simp[tt]
   rw[e];cases t<;>cases t'<;>first|exact absurd rfl tt|skip
   ·obtain⟨_,_,l1⟩:=bg.isList I hs;obtain⟨_,_,l2⟩:=bg.isTup I hs';exact⟨.list_tuple l1 l2 hu0,.list_tuple l1 l2 hu0⟩
   ·obtain⟨_,_,l1⟩:=bg.isTup I hs;obtain⟨_,_,l2⟩:=bg.isList I hs';exact⟨.tuple_list l1 l2 hu0,.tuple_list l1 l2 hu0⟩
 ·exact False.elim h
noncomputable def zt(K:W.Frag)(neg:Bool):R2:=λx y H Q=>∃T U,VA K H x T/\VA K H y U/\lD neg T U λW=>∃b,W=bT b/\Q (.bl b) H
theorem Iv(hu:X.A.units+64<cLine):cf X (compareOp .Eq) (zt X.K false):=by
 rintro Pp s σ H x y v u Q I rx ry ⟨T,U,vx,vy,h⟩;obtain⟨b,⟨b',e,q⟩,r,_⟩:=Aq I hu vx vy rx ry h;cases e;exact r X.prog X.w X.xe _ ⟨.bl b,H,I,rfl,by simpa using q⟩
theorem Iz(hu:X.A.units+64<cLine):cf X (compareOp .NotEq) (zt X.K true):=by
 rintro Pp s σ H x y v u Q I rx ry ⟨T,U,vx,vy,h⟩;obtain⟨b,⟨b',e,q⟩,_,r⟩:=Aq I hu vx vy rx ry h;cases e;exact r X.prog X.w X.xe _ ⟨.bl (!b),H,I,rfl,by simpa using q⟩
theorem Cd{neg:Bool}{T U:Tv}{Q Q':Tv->Prop}(h:lD neg T U Q)(i:∀b,Q (bT b)->Q' (bT b)):lD neg T U Q':=by
 unfold lD at h ⊢;split at h
 ·exact i _ h
 ·exact i _ h
 ·exact i _ h
 ·exact⟨h.1,i _ h.2⟩
 ·exact False.elim h
noncomputable abbrev uo:P2:=lD false
noncomputable abbrev DZ:P2:=lD true
theorem fP(hu:X.A.units+64<cLine):b7 X (compareOp .Eq) uo:=⟨_,Iv hu,λx y T U H Q QQ vx vy h k=>⟨T,U,vx,vy,Cd h λb q=>⟨b,rfl,k _ _ _ (ba.refl _) (.flat rfl) q⟩⟩⟩
theorem Hg(hu:X.A.units+64<cLine):b7 X (compareOp .NotEq) DZ:=⟨_,Iz hu,λx y T U H Q QQ vx vy h k=>⟨T,U,vx,vy,Cd h λb q=>⟨b,rfl,k _ _ _ (ba.refl _) (.flat rfl) q⟩⟩⟩
end
section
variable{X:Cx}{F:Fm}
theorem dW{K:W.Frag}{H:Hp}{xs:List V}{T:Tv}(h:c_ K H xs [T]):∃x,xs=[x]/\VA K H x T:=by
 cases h with
 |cons r t=>cases t;exact⟨_,rfl,r⟩
theorem xr{K:W.Frag}{H:Hp}{xs:List V}{T U:Tv}(h:c_ K H xs [T,U]):∃x y,xs=[x,y]/\VA K H x T/\VA K H y U:=by
 cases h with
 |cons r t=>
  obtain⟨y,rfl,v⟩:=dW t;exact⟨_,y,rfl,r,v⟩
noncomputable def Ga(K:W.Frag):R2:=λx y H Q=>∃l b xs zs,x=.ref l/\y=.ref b/\Rd H l (.lst xs)/\Rd H b (.lst zs)/\xs.length+zs.length<=sizeLine/\∀p,H p=none->Q (.ref p) (aw H p (.lst (xs++zs)))
theorem Jg:cf X (binaryOp .Add) (Ga X.K):=by
 rintro Pp s σ H _ _ v u Q I rx ry ⟨l,b,xs,zs,rfl,rfl,hH,hB,hz,q⟩;cases rx;cases ry;obtain⟨z,its,n,r,e⟩:=hH.ok I.hok;obtain⟨z2,its2,n2,r2,e2⟩:=hB.ok I.hok;have l1:=r.length;have l2:=r2.length;refine PySem.P.add_list e e2 ?_ (by rw[cg,cg];omega);rw[show its.toArray++its2.toArray=(its++its2).toArray by simp];exact⟨.ref _,_,I.lnew (t':=s.toks) (r.append r2) (by rw[b8];omega),rfl,q _ I.fresh⟩
noncomputable def vM:P2
 |.leaf (.int i),.leaf (.int j),Q=>Q (iT (i+j))
 |.leaf (.str x),.leaf (.str y),Q=>x.length+y.length<=100000/\Q (sT (x++y))
 |.seq true xs,.seq true ys,Q=>xs.length+ys.length<=100000/\Q (.seq true (xs++ys))
 |.seq false xs,.seq false ys,Q=>xs.length+ys.length<=100000/\Q (.seq false (xs++ys))
 |_,_,_=>False
theorem cD:iW X (binaryOp .Add) vM:=⟨_,op_add.or (op_add_str.or (op_catG.or Jg)),λx y T U H Q QQ vx vy h k=>by
 unfold vM at h;split at h
 ·obtain⟨rfl,_⟩:=vx.leafI;obtain⟨rfl,_⟩:=vy.leafI;exact .inl ⟨_,_,rfl,rfl,k _ _ _ (.flat rfl) h⟩
 ·obtain⟨rfl,_⟩:=vx.leafI;obtain⟨rfl,_⟩:=vy.leafI;exact .inr (.inl ⟨_,_,rfl,rfl,iK h.1,k _ _ _ (.flat rfl) h.2⟩)
 ·obtain⟨a,xs,rfl,hs,z,p⟩:=vx.seqI;obtain⟨b,ys,rfl,hs',z',p'⟩:=vy.seqI;have l1:xs.length=_:=Paired.length p;have l2:ys.length=_:=Paired.length p';refine .inr (.inr (.inl ⟨a,b,xs,ys,rfl,rfl,hs,hs',iK (by omega),λr H' hr sm=>k _ _ _ ⟨sm,.inl (VA.seq (t:=true) hr (by rw[b8];exact h.1) (rH (p.hs sm.hs) (p'.hs sm.hs)))⟩ h.2⟩))
 ·obtain⟨a,xs,rfl,⟨ob,hs⟩,z,p⟩:=vx.seqI;obtain⟨b,ys,rfl,⟨ob',hs'⟩,z',p'⟩:=vy.seqI;have l1:xs.length=_:=Paired.length p;have l2:ys.length=_:=Paired.length p';refine .inr (.inr (.inr ⟨a,b,xs,ys,rfl,rfl,.inr ⟨ob,hs⟩,.inr ⟨ob',hs'⟩,iK (by omega),λr n=>k _ _ _ (i3.lst n (by rw[b8];exact h.1) (rH p p')) h.2⟩))
 ·exact False.elim h⟩
noncomputable def tq(C:Int->Int->Prop)(g:Int->Int->V):P2
 |.leaf (.int i),.leaf (.int j),Q=>C i j/\Q (.leaf (g i j))
 |_,_,_=>False
theorem zN{f:Value->Value->Sem Value}{C:Int->Int->Prop}{g:Int->Int->V}(h:cf X f (rI C g))(fl:∀i j,eC (g i j)=true):b7 X f (tq C g):=⟨_,h,λx y T U H Q QQ vx vy h k=>by
 unfold tq at h;split at h
 ·obtain⟨rfl,_⟩:=vx.leafI;obtain⟨rfl,_⟩:=vy.leafI;exact⟨_,_,rfl,rfl,h.1,k _ _ _ (ba.refl _) (.flat (fl _ _)) h.2⟩
 ·exact False.elim h⟩
noncomputable def oM(g:Int->Int->V):P2
 |.leaf (.int i),.leaf (.int j),Q=>Q (.leaf (g i j))
 |_,_,_=>False
theorem tH{f:Value->Value->Sem Value}{g:Int->Int->V}(h:cf X f (o_ g))(fl:∀i j,eC (g i j)=true):b7 X f (oM g):=⟨_,h,λx y T U H Q QQ vx vy h k=>by
 unfold oM at h;split at h
 ·obtain⟨rfl,_⟩:=vx.leafI;obtain⟨rfl,_⟩:=vy.leafI;exact⟨_,_,rfl,rfl,k _ _ _ (ba.refl _) (.flat (fl _ _)) h⟩
 ·exact False.elim h⟩
noncomputable abbrev E7:P2:=oM λi j=>.int (i-j)
theorem iM:iW X (binaryOp .Sub) E7:=(tH Hu λ_ _=>rfl).op
noncomputable def Hm(i j:Int):Prop:=qe i j\/(cx i/\cx j)
noncomputable def u6:P2
 |.leaf (.int i),.leaf (.int j),Q=>Hm i j/\Q (iT (i*j))
 |.leaf (.str z),.leaf (.int n),Q=>(z.length<=1000/\n<=1000 /\ -1000<=n)/\Q (sT (iR z n))
 |_,_,_=>False
theorem HN:iW X (binaryOp .Mult) u6:=⟨_,op_mul.or (op_mulB.or Ji),λx y T U H Q QQ vx vy h k=>by
 unfold u6 at h;split at h
 ·obtain⟨rfl,_⟩:=vx.leafI;obtain⟨rfl,_⟩:=vy.leafI;rcases h.1 with c|c
  ·exact .inl ⟨_,_,rfl,rfl,c,k _ _ _ (.flat rfl) h.2⟩
  ·exact .inr (.inl ⟨_,_,rfl,rfl,c,k _ _ _ (.flat rfl) h.2⟩)
 ·obtain⟨rfl,_⟩:=vx.leafI;obtain⟨rfl,_⟩:=vy.leafI;exact .inr (.inr ⟨_,_,rfl,rfl,h.1.1,h.1.2.1,h.1.2.2,k _ _ _ (.flat rfl) h.2⟩)
 ·exact False.elim h⟩
noncomputable abbrev GZ:P2:=tq (λ_ j=>0<j/\cx j) λi j=>.int (i / j)
theorem xW:iW X (binaryOp .FloorDiv) GZ:=(zN Bx λ_ _=>rfl).op
noncomputable abbrev FX:P2:=tq (λ_ j=>0<j) λi j=>.int (i % j)
theorem nP:iW X (binaryOp .Mod) FX:=(zN jU λ_ _=>rfl).op
noncomputable abbrev E5:P2:=tq w_ λi j=>.int (i ^ j.toNat)
theorem pU:iW X (binaryOp .Pow) E5:=(zN AK λ_ _=>rfl).op
noncomputable def D1:P2
 |.leaf (.int i),.leaf (.int j),Q=>Q (bT (decide (i<j)))
 |.leaf (.str x),.leaf (.str y),Q=>Q (bT (decide (x.cps.toList<y.cps.toList)))
 |_,_,_=>False
theorem kT:b7 X (compareOp .Lt) D1:=⟨_,op_lt.or ML,λx y T U H Q QQ vx vy h k=>by
 unfold D1 at h;split at h
 ·obtain⟨rfl,_⟩:=vx.leafI;obtain⟨rfl,_⟩:=vy.leafI;exact .inl ⟨_,_,rfl,rfl,k _ _ _ (ba.refl _) (.flat rfl) h⟩
 ·obtain⟨rfl,_⟩:=vx.leafI;obtain⟨rfl,_⟩:=vy.leafI;exact .inr ⟨_,_,rfl,rfl,k _ _ _ (ba.refl _) (.flat rfl) h⟩
 ·exact False.elim h⟩
noncomputable abbrev Ot:P2:=oM λi j=>.bl (decide (i<=j))
theorem eY:b7 X (compareOp .LtE) Ot:=tH GY λ_ _=>rfl
noncomputable abbrev Ou:P2:=oM λi j=>.bl (decide (j<i))
theorem He:b7 X (compareOp .Gt) Ou:=tH GX λ_ _=>rfl
noncomputable abbrev Ov:P2:=oM λi j=>.bl (decide (j<=i))
theorem yj:b7 X (compareOp .GtE) Ov:=tH GW λ_ _=>rfl
noncomputable def wu(v:V):Tv->Bool
 |.leaf w=>decide (w=v)
 |_=>false
theorem tQ{K:W.Frag}{H:Hp}{x v:V}{T:Tv}(f:eC v=true)(h:VA K H x T):decide (x=v)=wu v T:=by
 cases T with
 |leaf w=>obtain⟨rfl,_⟩:=h.leafI;rfl
 |seq t Ts=>
  obtain⟨a,_,rfl,_⟩:=h.seqI;exact dq (λz=>by rw[<-z]at f;cases f)
 |dct kts=>
  obtain⟨a,_,rfl,_⟩:=h.dctI;exact dq (λz=>by rw[<-z]at f;cases f)
noncomputable def vK(neg:Bool):P2
 |T,.leaf .non,Q=>Q (bT (neg != wu .non T))
 |T,.leaf (.bl b),Q=>Q (bT (neg != wu (.bl b) T))
 |_,_,_=>False
noncomputable abbrev D3:P2:=vK false
noncomputable abbrev AL:P2:=vK true
theorem mG:b7 X (compareOp .Is) D3:=⟨_,op_isN.or Iy,λx y T U H Q QQ vx vy h k=>by
 unfold D3 vK at h;split at h
 ·obtain⟨rfl,_⟩:=vy.leafI;exact .inl ⟨rfl,k _ _ _ (ba.refl _) (.flat rfl) (by rw[tQ rfl vx];simpa using h)⟩
 ·obtain⟨rfl,_⟩:=vy.leafI;exact .inr ⟨_,rfl,k _ _ _ (ba.refl _) (.flat rfl) (by rw[tQ rfl vx];simpa using h)⟩
 ·exact False.elim h⟩
theorem LO:b7 X (compareOp .IsNot) AL:=⟨_,op_notN.or MJ,λx y T U H Q QQ vx vy h k=>by
 unfold AL vK at h;split at h
 ·obtain⟨rfl,_⟩:=vy.leafI;exact .inl ⟨rfl,k _ _ _ (ba.refl _) (.flat rfl) (by rw[tQ rfl vx];simpa using h)⟩
 ·obtain⟨rfl,_⟩:=vy.leafI;exact .inr ⟨_,rfl,k _ _ _ (ba.refl _) (.flat rfl) (by rw[tQ rfl vx];simpa using h)⟩
 ·exact False.elim h⟩
theorem yU{Pp:List (Addr×Obj)}{σ:St}{H:Hp}{s:Shared}(I:ag X Pp σ H s):∀{n:Nat}{x:V}{T U:Tv},f9 n T->f9 n U->VP X.K H n x T->VP X.K H n x U->T=U
 |0,_,_,_,h,_,_,_=>False.elim h
 |n+1,x,T,U,d,d',h,h'=>by
  rcases h with⟨f,rfl⟩|⟨t,a,xs,Ts,rfl,e2,rfl,z,p⟩|⟨a,kvs,kts,rfl,e2,rfl,_⟩
  ·rcases h' with⟨_,rfl⟩|⟨t',a',xs',Ts',rfl,_⟩|⟨a',kvs',kts',rfl,_⟩
   ·rfl
   ·cases f
   ·cases f
  ·rcases h' with⟨f,rfl⟩|⟨t',a',xs',Ts',e1',e2',rfl,z',p'⟩|⟨a',kvs',kts',e1',e2',rfl,_⟩
   ·cases f
   ·cases e1';have tt:t=t':=by
     cases t<;>cases t'<;>first|rfl|skip
     ·obtain⟨_,_,l1⟩:=bg.isList I e2;obtain⟨_,_,l2⟩:=bg.isTup I e2';exact absurd rfl (SeqAt.ne_of_list_tuple l1 l2)
     ·obtain⟨_,_,l1⟩:=bg.isList I e2';obtain⟨_,_,l2⟩:=bg.isTup I e2;exact absurd rfl (SeqAt.ne_of_list_tuple l1 l2)
    subst tt;have ex:xs=xs':=by
     cases t with
     |false=>exact I.list_inj (dE e2) (dE e2')
     |true=>exact I.tuple_inj e2 e2'
    subst ex;have g:∀U∈Ts,f9 n U:=d;have g':∀U∈Ts',f9 n U:=d';have key:∀{xs:List V} {Ts Ts':List Tv},Paired (VP X.K H n) xs Ts->Paired (VP X.K H n) xs Ts'->(∀U∈Ts,f9 n U)->(∀U∈Ts',f9 n U)->Ts=Ts':=by
     intro xs Ts Ts' p
     induction p generalizing Ts' with
     |nil=>intro p' _ _;cases p';rfl
     |cons r _ ih=>
      intro p' d d';cases p' with
      |cons r' t'=>rw[yU I (d _ (.head _)) (d' _ (.head _)) r r',ih t' (λU hU=>d U (.tail _ hU)) (λU hU=>d' U (.tail _ hU))]
    rw[key p p' g g']
   ·exact False.elim d'
  ·exact False.elim d
noncomputable def qX(T:Tv)(Us:List Tv):Prop:=f9 40 T/\∀U∈Us,f9 40 U
open Classical in
theorem sO{Pp:List (Addr×Obj)}{σ:St}{H:Hp}{s:Shared}(I:ag X Pp σ H s)(hu:X.A.units+64<cLine){x:V}{T:Tv}{v:Value}{ys:List V}{Us:List Tv}{its:List Value}(vx:VA X.K H x T)(rx:aj x v)(p:c_ X.K H ys Us)(r:ak ys its)(ok:qX T Us):
  ∃e:Value->Bool,(∀y,y∈its.toArray->SeqAt.EqAt X.A.in1 s y v (e y))/\its.toArray.any e=Us.any λU=>eqT U T:=by
 obtain⟨dx,vx⟩:=vx;have hx:=ok.1.vp vx;refine⟨λw=>decide (∃y U,aj y w/\VP X.K H 40 y U/\f9 40 U/\eqT U T=true),λw hw=>?_,?_⟩
 ·have hw:w∈its:=by simpa using hw
  obtain⟨j,hj,rfl⟩:=qG1_.mp hw;have hj':j<ys.length:=by rw[r.length];exact hj
  obtain⟨u,eu,ru⟩:=r.get (cb hj');rw[cb hj]at eu;cases eu;obtain⟨U,eU,d,vU⟩:=iF p (cb hj');have dU:=ok.2 U (i7 eU);have e:=yO I 40 (A:=X.A.in1) (by show X.A.units+1+40<_;omega) dU ok.1 (dU.vp vU) hx ru rx;have ee:decide (∃y U,aj y its[j]/\VP X.K H 40 y U/\f9 40 U/\eqT U T=true)=eqT U T:=by
   rw[fm,decide_eq_true_iff];constructor
   ·rintro⟨y,U',ry,vy,dy,z⟩;have:=aj.inj ry ru;subst this;rw[yU I dU dy (dU.vp vU) vy];exact z
   ·intro z;exact⟨_,U,ru,dU.vp vU,dU,z⟩
  show SeqAt.EqAt X.A.in1 s its[j] v (decide (∃y U,aj y its[j]/\VP X.K H 40 y U/\f9 40 U/\eqT U T=true));rw[ee];exact e
 ·rw[fm,Array.any_eq_true',qA_];constructor
  ·rintro⟨w,hw,z⟩;rw[decide_eq_true_iff]at z;obtain⟨y,U',ry,vy,dy,z⟩:=z;have hw:w∈its:=by simpa using hw
   obtain⟨j,hj,rfl⟩:=qG1_.mp hw;have hj':j<ys.length:=by rw[r.length];exact hj
   obtain⟨u,eu,ru⟩:=r.get (cb hj');rw[cb hj]at eu;cases eu;obtain⟨U,eU,d,vU⟩:=iF p (cb hj');have dU:=ok.2 U (i7 eU);have:=aj.inj ry ru;subst this;refine⟨U,i7 eU,?_⟩;rw[yU I dU dy (dU.vp vU) vy];exact z
  ·rintro⟨U,hU,z⟩;obtain⟨j,hj,rfl⟩:=qG1_.mp hU;obtain⟨y,ey,d,vy⟩:=rA p (cb hj);obtain⟨u,eu,ru⟩:=r.get ey;have dU:=ok.2 _ hU;exact⟨u,by simpa using i7 eu,cm ⟨y,_,ru,dU.vp vy,dU,z⟩⟩
noncomputable def zu(K:W.Frag)(neg:Bool):R2:=λx y H Q=>∃T t Us,VA K H x T/\VA K H y (.seq t Us)/\qX T Us/\Q (.bl (neg != Us.any λU=>eqT U T)) H
theorem Iw(hu:X.A.units+64<cLine):cf X (compareOp .In) (zu X.K false):=by
 rintro Pp s σ H x y v u Q I rx ry ⟨T,t,Us,vx,vy,ok,q⟩;obtain⟨a,ys,rfl,hs,z,p⟩:=vy.seqI;cases ry;cases t with
 |false=>
  obtain⟨its,r,l⟩:=bg.isList I hs;obtain⟨e,h1,h2⟩:=sO I hu vx rx p r ok;exact SeqAt.in_listAt e l h1 ⟨.bl _,H,I,rfl,by rw[h2];simpa using q⟩
 |true=>
  obtain⟨its,r,l⟩:=bg.isTup I hs;obtain⟨e,h1,h2⟩:=sO I hu vx rx p r ok;exact SeqAt.in_tupleAt e l h1 ⟨.bl _,H,I,rfl,by rw[h2];simpa using q⟩
theorem MM(hu:X.A.units+64<cLine):cf X (compareOp .NotIn) (zu X.K true):=by
 rintro Pp s σ H x y v u Q I rx ry ⟨T,t,Us,vx,vy,ok,q⟩;obtain⟨a,ys,rfl,hs,z,p⟩:=vy.seqI;cases ry;cases t with
 |false=>
  obtain⟨its,r,l⟩:=bg.isList I hs;obtain⟨e,h1,h2⟩:=sO I hu vx rx p r ok;exact SeqAt.notIn_listAt e l h1 ⟨.bl _,H,I,rfl,by rw[h2];simpa using q⟩
 |true=>
  obtain⟨its,r,l⟩:=bg.isTup I hs;obtain⟨e,h1,h2⟩:=sO I hu vx rx p r ok;exact SeqAt.notIn_tupleAt e l h1 ⟨.bl _,H,I,rfl,by rw[h2];simpa using q⟩
noncomputable def Kr:R2:=λy x H Q=>∃a o,x=.ref a/\kC H a y o/\Q (.bl (!o.isSome)) H
theorem Nn(hu:X.A.units+1<cLine):cf X (compareOp .NotIn) Kr:=by
 rintro Pp s σ H y _ u v Q I ry rx ⟨a,o,rfl,g,q⟩;cases rx;exact JM hu I g ry λs' I'=>⟨.bl _,H,I',rfl,q⟩
noncomputable def p8(i j:Str):Bool:=!(Builtin.Str.occurrences j i 0 j.length 1).isEmpty
noncomputable def vL(neg:Bool):P2
 |T,.seq _ Us,Q=>qX T Us/\Q (bT (neg != Us.any λU=>eqT U T))
 |.leaf (.str i),.leaf (.str j),Q=>Q (bT (neg != p8 i j))
 |.leaf (.str k),.dct kts,Q=>Q (bT (neg != (cF kts k).isSome))
 |_,_,_=>False
noncomputable abbrev D4:P2:=vL false
noncomputable abbrev AM:P2:=vL true
theorem gO(hu:X.A.units+64<cLine):b7 X (compareOp .In) D4:=⟨_,(Iw hu).or (op_in_str.or (NZ (by omega))),λx y T U H Q QQ vx vy h k=>by
 unfold D4 vL at h;split at h
 ·exact .inl ⟨_,_,_,vx,vy,h.1,k _ _ _ (ba.refl _) (.flat rfl) h.2⟩
 ·obtain⟨rfl,_⟩:=vx.leafI;obtain⟨rfl,_⟩:=vy.leafI;exact .inr (.inl ⟨_,_,rfl,rfl,k _ _ _ (ba.refl _) (.flat rfl) (by simpa[p8]using h)⟩)
 ·rename_i kk kts;obtain⟨rfl,_⟩:=vx.leafI;obtain⟨a,kvs,rfl,⟨ob,hd⟩,n,z,p⟩:=vy.dctI;refine .inr (.inr ⟨a,_,rfl,.inl ⟨kvs,.inr kk,.inr ⟨ob,hd⟩,rfl,rfl⟩,k _ _ _ (ba.refl _) (.flat rfl) ?_⟩);rcases sV p kk with⟨e1,e2⟩|⟨U,v,e1,e2,_⟩
  ·rw[e2];rw[e1]at h;exact h
  ·rw[e2];rw[e1]at h;exact h
 ·exact False.elim h⟩
theorem jP(hu:X.A.units+64<cLine):b7 X (compareOp .NotIn) AM:=⟨_,(MM hu).or (op_notIn_str.or (Nn (by omega))),λx y T U H Q QQ vx vy h k=>by
 unfold AM vL at h;split at h
 ·exact .inl ⟨_,_,_,vx,vy,h.1,k _ _ _ (ba.refl _) (.flat rfl) h.2⟩
 ·obtain⟨rfl,_⟩:=vx.leafI;obtain⟨rfl,_⟩:=vy.leafI;exact .inr (.inl ⟨_,_,rfl,rfl,k _ _ _ (ba.refl _) (.flat rfl) (by simpa[p8]using h)⟩)
 ·rename_i kk kts;obtain⟨rfl,_⟩:=vx.leafI;obtain⟨a,kvs,rfl,⟨ob,hd⟩,n,z,p⟩:=vy.dctI;refine .inr (.inr ⟨a,_,rfl,.inl ⟨kvs,.inr kk,.inr ⟨ob,hd⟩,rfl,rfl⟩,k _ _ _ (ba.refl _) (.flat rfl) ?_⟩);rcases sV p kk with⟨e1,e2⟩|⟨U,v,e1,e2,_⟩
  ·rw[e2];rw[e1]at h;exact h
  ·rw[e2];rw[e1]at h;exact h
 ·exact False.elim h⟩
noncomputable def p7:P2
 |.seq _ Ts,.leaf (.int i),Q=>∃U,je Ts i=some U/\Q U
 |.leaf (.str z),.leaf (.int i),Q=>z.length<=100000/\∃c,je z.cps.toList i=some c/\Q (sT ⟨#[c]⟩)
 |.dct kts,.leaf (.str k),Q=>∃U,cF kts k=some U/\Q U
 |_,_,_=>False
theorem Mp{α β:Type}{R:α->β->Prop}{xs:List α}{ys:List β}{i:Int}{y:β}(p:Paired R xs ys)(h:je ys i=some y):∃x,je xs i=some x/\R x y:=by
 unfold je at h ⊢;rw[Paired.length p];cases e:qf ys.length i with
 |none=>rw[e]at h;cases h
 |some j=>
  rw[e]at h;obtain⟨x,ex,r⟩:=rA p (show ys[j]?=some y from h);exact⟨x,ex,r⟩
theorem Hf(hu:X.A.units+64<cLine):xc X p7:=⟨_,ix_seq.or (I0 (by omega)),λx y T U H Q QQ vx vy h k=>by
 unfold p7 at h;split at h
 ·rename_i t Ts i;obtain⟨rfl,_⟩:=vy.leafI;obtain⟨a,xs,rfl,hs,z,p⟩:=vx.seqI;obtain⟨U,e,q⟩:=h;obtain⟨x,ex,v⟩:=Mp p e;cases t with
  |false=>exact .inl (.inl ⟨a,xs,i,x,rfl,rfl,dE hs,ex,k _ _ _ (.va v) q⟩)
  |true=>exact .inl (.inr (.inl ⟨a,xs,i,x,rfl,rfl,hs,ex,k _ _ _ (.va v) q⟩))
 ·obtain⟨rfl,_⟩:=vx.leafI;obtain⟨rfl,_⟩:=vy.leafI;obtain⟨l,c,e,q⟩:=h;exact .inl (.inr (.inr ⟨_,_,c,rfl,rfl,iK l,e,k _ _ _ (.flat rfl) q⟩))
 ·rename_i kts kk;obtain⟨rfl,_⟩:=vy.leafI;obtain⟨a,kvs,rfl,⟨ob,hd⟩,n,z,p⟩:=vx.dctI;obtain⟨U,e,q⟩:=h;rcases sV p kk with⟨e1,e2⟩|⟨U',v,e1,e2,vv⟩
  ·rw[e1]at e;cases e
  ·rw[e1]at e;cases e;exact .inr ⟨a,v,rfl,.inl ⟨kvs,.inr kk,.inr ⟨ob,hd⟩,rfl,e2.symm⟩,k _ _ _ (.va vv) q⟩
 ·exact False.elim h⟩
noncomputable def iV{α:Type}(xs:List α)(lo hi:Option Int):List α:=(xs.drop (HT.sIx xs.length 0 lo)).take (HT.sIx xs.length xs.length hi-HT.sIx xs.length 0 lo)
theorem Dr{α β:Type}{R:α->β->Prop}:∀{l:List α}{m:List β}(n:Nat),Paired R l m->Paired R (l.drop n) (m.drop n)
 |_,_,0,p=>p
 |_,_,_+1,.nil=>.nil
 |_,_,n+1,.cons _ t=>Dr n t
theorem Ce{α β:Type}{R:α->β->Prop}:∀{l:List α}{m:List β}(n:Nat),Paired R l m->Paired R (l.take n) (m.take n)
 |_,_,0,p=>by rw[qw,qw];exact .nil
 |_,_,_+1,.nil=>.nil
 |_,_,n+1,.cons r t=>.cons r (Ce n t)
theorem DL{α β:Type}{R:α->β->Prop}{l:List α}{m:List β}(lo hi:Option Int)(p:Paired R l m):Paired R (iV l lo hi) (iV m lo hi):=by
 unfold iV;rw[Paired.length p];exact Ce _ (Dr _ p)
theorem Ka{α:Type}(xs:List α)(lo hi:Option Int):(iV xs lo hi).length<=xs.length:=by
 unfold iV;rw[g8,m5];omega
noncomputable def E6:uw
 |.seq t Ts,lo,hi,Q=>Q (.seq t (iV Ts lo hi))
 |.leaf (.str z),lo,hi,Q=>z.length<=100000/\Q (sT (Txt.slice z lo hi))
 |_,_,_,_=>False
theorem gD:xh X E6:=⟨_,sl_list.or (sl_tupW.or JX),λx T lo hi H Q QQ vx h k=>by
 cases T with
 |seq t Ts=>
  have h:Q (.seq t (iV Ts lo hi)):=h;obtain⟨a,xs,rfl,hs,z,p⟩:=vx.seqI;have z':(iV Ts lo hi).length<=100000:=bu (Ka _ _ _) z;cases t with
  |false=>exact .inl ⟨a,xs,rfl,dE hs,λr n=>k _ _ _ (i3.lst n z' (DL lo hi p)) h⟩
  |true=>exact .inr (.inl ⟨a,xs,rfl,hs,λr H' sm hr=>k _ _ _ ⟨sm,.inl (VA.seq (t:=true) hr z' (Paired.mapP (DL lo hi p) λ_ _ q=>VA.hs sm.hs q))⟩ h⟩)
 |leaf w=>
  cases w with
  |str zz=>
   have h:zz.length<=100000/\Q (sT (Txt.slice zz lo hi)):=h;obtain⟨rfl,_⟩:=vx.leafI;exact .inr (.inr ⟨_,rfl,iK h.1,k _ _ _ (.flat rfl) h.2⟩)
  |_=>exact False.elim h
 |dct kts=>exact False.elim h⟩
noncomputable def vJ:Pn
 |[.seq _ Ts],Q=>Q (iT Ts.length)
 |[.leaf (.str z)],Q=>z.length<=100000/\Q (iT z.length)
 |[.dct kts],Q=>Q (iT kts.length)
 |_,_=>False
theorem cJ:iO X (.builtin "len") vJ:=⟨_,call_len_seq.or (call_len_str.or Mr),λxs Ts H Q QQ vx h k=>by
 unfold vJ at h;split at h
 ·rename_i t Ts;obtain⟨x,rfl,v⟩:=dW vx;obtain⟨a,xs,rfl,hs,z,p⟩:=v.seqI;have l:xs.length=_:=Paired.length p;refine .inl ⟨a,xs,rfl,?_,k _ _ _ (.flat rfl) (by rw[l];exact h)⟩;cases t with
  |false=>exact .inl (dE hs)
  |true=>exact .inr hs
 ·obtain⟨x,rfl,v⟩:=dW vx;obtain⟨rfl,_⟩:=v.leafI;exact .inr (.inl ⟨_,rfl,iK h.1,k _ _ _ (.flat rfl) h.2⟩)
 ·obtain⟨x,rfl,v⟩:=dW vx;obtain⟨a,kvs,rfl,⟨ob,hd⟩,n,z,p⟩:=v.dctI;have l:kvs.length=_:=Paired.length p;exact .inr (.inr ⟨a,kvs,rfl,.inr ⟨ob,hd⟩,k _ _ _ (.flat rfl) (by rw[l];exact h)⟩)
 ·exact False.elim h⟩
noncomputable def vO(T:String):Tv->Bool
 |.leaf .non=>false
 |.leaf (.bl _)=>T=="bool" || T=="int"
 |.leaf (.int _)=>T=="int"
 |.leaf (.str _)=>T=="str"
 |.leaf _=>false
 |.seq false _=>T=="list"
 |.seq true _=>T=="tuple"
 |.dct _=>T=="dict"
theorem GD{K:W.Frag}{H:Hp}{x:V}{W:Tv}(T:String)(v:VA K H x W):sd K T x H (vO T W):=by
 cases W with
 |leaf w=>
  obtain⟨rfl,f⟩:=v.leafI;rcases lH f with rfl|⟨b,rfl⟩|⟨b,rfl⟩|⟨b,rfl⟩<;>rfl
 |seq t Ts=>
  obtain⟨a,xs,rfl,hs,z,p⟩:=v.seqI;cases t with
  |false=>exact .inl ⟨xs,dE hs,rfl⟩
  |true=>exact .inr (.inl ⟨xs,hs,rfl⟩)
 |dct kts=>
  obtain⟨a,kvs,rfl,⟨ob,hd⟩,n,z,p⟩:=v.dctI;exact .inr (.inr ⟨kvs,.inr ⟨ob,hd⟩,rfl⟩)
noncomputable def Fx(T:String)(u:UT):UT:=λρ Q=>u ρ λW ρ1=>Q (bT (vO T W)) ρ1
theorem gX{e t:Expr}{u:UT}{p pos:Pos}(T:String)(hc:au X (.builtin "isinstance") (λxs H Q=>∃x b,xs=[x,.ty T]/\sd X.K T x H b/\Q (.bl b) H))(hg:Gl X "isinstance")(hm:X.mg "isinstance"=none)(he:UE X F e u)(ht:PE X t (tC (.ty T)))
  (h1:eX e=false:=by rfl) (h2:eX t=false:=by rfl) (hpl:(backTo pos (starEach [t] X.env)).any (·.1)=false:=by rfl):UE X F (.Call (.Name "isinstance" p) [e,t] [] pos) (Fx T u):=
 ⟨PE.imp (kH hc hg hm boot_isinstance (dR he.pe (dR ht eO h2) h1) (by decide) (by decide) (jK h1) hpl) λσ H QQ ⟨ρ,Q,f,h,k⟩=>
  ⟨ρ,_,f,h,λx W H1 ρ1 s1 v1 q1=>⟨x,_,rfl,GD T v1,k _ _ _ _ s1 (.flat rfl) q1⟩⟩⟩
theorem pF{K:W.Frag}{H:Hp}:∀{xs:List V}{bs:List Bool},c_ K H xs (bs.map bT)->xs=bs.map V.bl
 |[],[],_=>rfl
 |_::_,_::_,.cons r t=>by rw[d9,<-pF t,(VA.leafI r).1]
theorem sA{K:W.Frag}{H:Hp}:∀{xs:List V}{ns:List Int},c_ K H xs (ns.map iT)->xs=ns.map V.int
 |[],[],_=>rfl
 |_::_,_::_,.cons r t=>by rw[d9,<-sA t,(VA.leafI r).1]
theorem iX{K:W.Frag}{H:Hp}:∀{xs:List V}{ss:List Str},c_ K H xs (ss.map sT)->xs=ss.map V.str
 |[],[],_=>rfl
 |_::_,_::_,.cons r t=>by rw[d9,<-iX t,(VA.leafI r).1]
theorem Af{K:W.Frag}{H:Hp}:∀(bs:List Bool),c_ K H (bs.map V.bl) (bs.map bT)
 |[]=>.nil
 |_::bs=>.cons (.flat rfl) (Af bs)
theorem BY{K:W.Frag}{H:Hp}:∀(ns:List Int),c_ K H (ns.map V.int) (ns.map iT)
 |[]=>.nil
 |_::ns=>.cons (.flat rfl) (BY ns)
theorem pE{K:W.Frag}{H:Hp}:∀(ss:List Str),c_ K H (ss.map V.str) (ss.map sT)
 |[]=>.nil
 |_::ss=>.cons (.flat rfl) (pE ss)
noncomputable def FT:Pn:=λTs Q=>∃bs:List Bool,Ts=[.seq false (bs.map bT)]/\Q (bT (bs.all id))
noncomputable def FU:Pn:=λTs Q=>∃bs:List Bool,Ts=[.seq false (bs.map bT)]/\Q (bT (bs.any id))
theorem pV(hc:X.calm=true):iO X (.builtin "all") FT:=⟨_,Ll hc,λxs Ts H Q QQ vx h k=>by
 obtain⟨bs,rfl,q⟩:=h;obtain⟨x,rfl,v⟩:=dW vx;obtain⟨a,ys,rfl,hs,z,p⟩:=v.seqI;rw[pF p]at hs
 exact⟨a,bs,rfl,dE hs,k _ _ _ (.flat rfl) q⟩⟩
theorem HM(hc:X.calm=true):iO X (.builtin "any") FU:=⟨_,Lm hc,λxs Ts H Q QQ vx h k=>by
 obtain⟨bs,rfl,q⟩:=h;obtain⟨x,rfl,v⟩:=dW vx;obtain⟨a,ys,rfl,hs,z,p⟩:=v.seqI;rw[pF p]at hs
 exact⟨a,bs,rfl,dE hs,k _ _ _ (.flat rfl) q⟩⟩
noncomputable def FW:Pn:=λTs Q=>(∃i j:Int,Ts=[iT i,iT j]/\Q (iT (min i j)))\/(∃ns:List Int,Ts=[.seq false (ns.map iT)]/\0<ns.length/\∀M,M∈ns->(∀a∈ns,M<=a)->Q (iT M)) \/
 ∃ss:List Str,Ts=[.seq false (ss.map sT)]/\0<ss.length/\∀x,x∈ss->(∀y∈ss,x.cps.toList<=y.cps.toList)->Q (sT x)
noncomputable def FV:Pn:=λTs Q=>(∃i j:Int,Ts=[iT i,iT j]/\Q (iT (max i j)))\/(∃ns:List Int,Ts=[.seq false (ns.map iT)]/\0<ns.length/\∀M,M∈ns->(∀a∈ns,a<=M)->Q (iT M)) \/
 ∃ss:List Str,Ts=[.seq false (ss.map sT)]/\0<ss.length/\∀x,x∈ss->(∀y∈ss,y.cps.toList<=x.cps.toList)->Q (sT x)
theorem lY(hc:X.calm=true):iO X (.builtin "min") FW:=⟨_,(Lq hc).or ((Lp hc).or (CA hc)),λxs Ts H Q QQ vx h k=>by
 rcases h with⟨i,j,rfl,q⟩|⟨ns,rfl,l,q⟩|⟨ss,rfl,l,q⟩
 ·obtain⟨x,y,rfl,v,v'⟩:=xr vx;obtain⟨rfl,_⟩:=v.leafI;obtain⟨rfl,_⟩:=v'.leafI;refine .inl ⟨i,j,rfl,k _ _ _ (.flat rfl) ?_⟩;have e:(if j<i then j else i)=min i j:=by split<;>omega
  rw[e];exact q
 ·obtain⟨x,rfl,v⟩:=dW vx;obtain⟨a,ys,rfl,hs,z,p⟩:=v.seqI;rw[sA p]at hs;exact .inr (.inl ⟨a,ns,rfl,dE hs,l,λM h1 h2=>k _ _ _ (.flat rfl) (q M h1 h2)⟩)
 ·obtain⟨x,rfl,v⟩:=dW vx;obtain⟨a,ys,rfl,hs,z,p⟩:=v.seqI;rw[iX p]at hs
  exact .inr (.inr ⟨a,ss,rfl,dE hs,l,λM h1 h2=>k _ _ _ (.flat rfl) (q M h1 h2)⟩)⟩
theorem jT(hc:X.calm=true):iO X (.builtin "max") FV:=⟨_,(Lo hc).or ((Ln hc).or (Cz hc)),λxs Ts H Q QQ vx h k=>by
 rcases h with⟨i,j,rfl,q⟩|⟨ns,rfl,l,q⟩|⟨ss,rfl,l,q⟩
 ·obtain⟨x,y,rfl,v,v'⟩:=xr vx;obtain⟨rfl,_⟩:=v.leafI;obtain⟨rfl,_⟩:=v'.leafI;refine .inl ⟨i,j,rfl,k _ _ _ (.flat rfl) ?_⟩;have e:(if j > i then j else i)=max i j:=by split<;>omega
  rw[e];exact q
 ·obtain⟨x,rfl,v⟩:=dW vx;obtain⟨a,ys,rfl,hs,z,p⟩:=v.seqI;rw[sA p]at hs;exact .inr (.inl ⟨a,ns,rfl,dE hs,l,λM h1 h2=>k _ _ _ (.flat rfl) (q M h1 h2)⟩)
 ·obtain⟨x,rfl,v⟩:=dW vx;obtain⟨a,ys,rfl,hs,z,p⟩:=v.seqI;rw[iX p]at hs
  exact .inr (.inr ⟨a,ss,rfl,dE hs,l,λM h1 h2=>k _ _ _ (.flat rfl) (q M h1 h2)⟩)⟩
noncomputable def Jk:List Tv->(List Tv->Prop)->Prop:=λTs Q=>∃t Us,Ts=[.seq t Us]/\Q Us
theorem mU:tE X (.type "list") Jk:=⟨_,Dy,λxs Ts H Q QQ vx h k=>by
 obtain⟨t,Us,rfl,q⟩:=h;obtain⟨x,rfl,v⟩:=dW vx;obtain⟨a,ys,rfl,hs,z,p⟩:=v.seqI;refine⟨a,ys,rfl,?_,λl n=>k l ys Us _ (dC n) n bL z (c_.hs (nV n) p) q⟩;cases t with
 |false=>exact .inl (dE hs)
 |true=>exact .inr hs⟩
noncomputable def AN:Pn:=λTs Q=>∃t Us,Ts=[.seq t Us]/\Q (.seq true Us)
theorem lO:iO X (.type "tuple") AN:=⟨_,Nk,λxs Ts H Q QQ vx h k=>by
 obtain⟨t,Us,rfl,q⟩:=h;obtain⟨x,rfl,v⟩:=dW vx;obtain⟨a,ys,rfl,hs,z,p⟩:=v.seqI;refine⟨a,ys,rfl,?_⟩;cases t with
 |false=>exact .inl ⟨dE hs,λl n=>k _ _ _ (i3.tup n z p) q⟩
 |true=>exact .inr ⟨hs,k _ _ _ (.va v) q⟩⟩
noncomputable def Jl:List Tv->(List Tv->Prop)->Prop:=λTs Q=>(∃ns:List Int,Ts=[.seq false (ns.map iT)]/\ns.length<64/\∀ms:List Int,ms.Perm ns->ms.Pairwise (·<=·)->Q (ms.map iT)) \/
 (∃ss:List Str,Ts=[.seq false (ss.map sT)]/\ss.length<64/\Q ((bF ss).map sT))\/∃kts,Ts=[.dct kts]/\Q ((bF (kts.map (·.1))).map sT)
theorem wW{K:W.Frag}{H:Hp}{kvs:List (ay×V)}{kts:List (Str×Tv)}(p:gp K H kvs kts):kvs.map (·.1)=(kts.map (·.1)).map Sum.inr:=by
 unfold gp at p
 induction p with
 |nil=>rfl
 |cons r _ ih=>rw[d9,d9,d9,ih,r.1]
theorem Mb(us:List Str):(bF us).length=us.length:=(fU us).length_eq
theorem MQ(hc:X.calm=true):tE X (.builtin "sorted") Jl:=⟨_,call_sortedI.or (call_sortedS.or (NR hc)),λxs Ts H Q QQ vx h k=>by
 rcases h with⟨ns,rfl,l,q⟩|⟨ss,rfl,l,q⟩|⟨kts,rfl,q⟩
 ·obtain⟨x,rfl,v⟩:=dW vx;obtain⟨a,ys,rfl,hs,z,p⟩:=v.seqI;rw[sA p]at hs;refine .inl ⟨a,ns,rfl,dE hs,l,λms b h1 h2 n=>k b _ _ _ (dC n) n bL (by rw[aq,h1.length_eq];omega) (BY ms) (q ms h1 h2)⟩
 ·obtain⟨x,rfl,v⟩:=dW vx;obtain⟨a,ys,rfl,hs,z,p⟩:=v.seqI;rw[iX p]at hs;refine .inr (.inl ⟨a,ss,rfl,dE hs,l,λms b h1 h2 n=>k b _ _ _ (dC n) n bL (by rw[aq,h1.length_eq];omega) (pE ms) (by rw[oY h1 h2];exact q)⟩)
 ·obtain⟨x,rfl,v⟩:=dW vx;obtain⟨a,kvs,rfl,⟨ob,hd⟩,nd,z,p⟩:=v.dctI
  refine .inr (.inr ⟨a,ob,kvs,kts.map (·.1),rfl,hd,wW p,by rw[aq];exact z,λms b h1 h2 n=>k b _ _ _ (dC n) n bL (by rw[aq,h1.length_eq,aq];omega) (pE ms) (by rw[oY h1 h2];exact q)⟩)⟩
noncomputable def Of(T:String)(r:Tv->List Tv->(Tv->Prop)->Prop)(u:UT)(ua:gg):UT:=λρ Q=>u ρ λW ρ1=>vO T W=true/\rq ua ρ1 λTs ρ2=>r W Ts λW'=>Q W' ρ2
theorem KI{K:W.Frag}{H:Hp}{x:V}{W:Tv}(v:VA K H x W)(h:vO "str" W=true):uf K "str" x H:=by
 cases W with
 |leaf w=>
  obtain⟨rfl,f⟩:=v.leafI;rcases lH f with rfl|⟨b,rfl⟩|⟨b,rfl⟩|⟨b,rfl⟩
  ·cases h
  ·cases h
  ·cases h
  ·rfl
 |seq t Ts=>cases t<;>cases h
 |dct kts=>cases h
theorem nI{name:Str}{id:String}{r:Tv->List Tv->(Tv->Prop)->Prop}{o e:Expr}{es:List Expr}{u:UT}{ua:gg}{Pw Pq:Pos}(slot:Slot "str" name id)(hty:typeOf (.builtin id)=pure (.type "method_descriptor"))
  (hm:∃r',sf X id r'/\∀x W xs Ts H Q (QQ:VK),VA X.K H x W->c_ X.K H xs Ts->r W Ts Q->(∀z W H',i3 X.K H H' z W->Q W->QQ z H')->r' x xs H QQ) (ho:UE X F o u) (ha:UA X F (e::es) ua)
  (PB:attributeBase o name X.env (eval o X.env)=eval o X.env:=by rfl)
  (hfew:((backTo Pq (starEach (e::es) X.env)).all (λx=>!x.1)&&(backToKw Pq (keywordEach [] X.env)).all (λx=>x.1.isSome)&&decide ((e::es).length+([]:List Keyword).length+(if ([]:List Keyword).isEmpty then 0 else 1)<30))=true:=by rfl)
  (Pz:(Pw.endLine==Pq.line)=true:=by rfl) (hs:starEach (e::es) X.env=(false,eval e X.env)::starEach es X.env:=by rfl) (Py:(backTo Pq (starEach es X.env)).any (·.1)=false:=by rfl):
  UE X F (.Call (.Attribute o name Pw) (e::es) [] Pq) (Of "str" r u ua):=by
 obtain⟨r',m,hr⟩:=hm;refine⟨PE.imp (PE.fz (qF PySem.F.plainAttrs_str slot hty m ho.pe ha.pa PB hfew Pz hs Py)) λσ H QQ ⟨ρ,Q,f,h,k⟩=>⟨ρ,_,f,h,λx W H1 ρ1 s1 v1 q1=>⟨KI v1 q1.1,ρ1,_,s1.fr,q1.2,λxs as H2 ρ2 s2 p2 q2=>?_⟩⟩⟩;obtain⟨Ts,rfl,q⟩:=lV q2;exact hr x W xs Ts H2 _ _ (v1.hs (s2.hs s1.fr)) (lW p2) q λz W' H' rw q=>rw.fin s2.fr λH'' s4 v4=>k _ _ _ _ ((s1.trans s2).trans s4) v4 q
noncomputable def Jm:Tv->List Tv->(Tv->Prop)->Prop:=λW Ts Q=>∃i j:Str,W=sT i/\Ts=[sT j]/\Q (bT (decide (0+j.length<=i.length)&&Builtin.Str.subAt i j 0))
theorem Cj:∃r',sf X "str.startswith" r'/\∀x W xs Ts H Q (QQ:VK),VA X.K H x W->c_ X.K H xs Ts->Jm W Ts Q->(∀z W H',i3 X.K H H' z W->Q W->QQ z H')->r' x xs H QQ:=⟨_,Nm,λx W xs Ts H Q QQ v p h k=>by
 obtain⟨i,j,rfl,rfl,q⟩:=h;obtain⟨rfl,_⟩:=v.leafI;obtain⟨y,rfl,v'⟩:=dW p;obtain⟨rfl,_⟩:=v'.leafI
 exact⟨i,j,rfl,rfl,k _ _ _ (.flat rfl) q⟩⟩
noncomputable def G0:Tv->List Tv->(Tv->Prop)->Prop:=λW Ts Q=>∃i j:Str,W=sT i/\Ts=[sT j]/\∀n:Int,Q (iT n)
theorem K2:∃r',sf X "str.find" r'/\∀x W xs Ts H Q (QQ:VK),VA X.K H x W->c_ X.K H xs Ts->G0 W Ts Q->(∀z W H',i3 X.K H H' z W->Q W->QQ z H')->r' x xs H QQ:=⟨_,Jd,λx W xs Ts H Q QQ v p h k=>by
 obtain⟨i,j,rfl,rfl,q⟩:=h;obtain⟨rfl,_⟩:=v.leafI;obtain⟨y,rfl,v'⟩:=dW p;obtain⟨rfl,_⟩:=v'.leafI
 exact⟨i,j,rfl,rfl,λn=>k _ _ _ (.flat rfl) (q n)⟩⟩
noncomputable def G9:Tv->List Tv->(Tv->Prop)->Prop:=λW Ts Q=>∃ss:List Str,W=sT ⟨#[]⟩/\Ts=[.seq false (ss.map sT)]/\(bN ss).length<=100000/\Q (sT ⟨(bN ss).toArray⟩)
theorem yD:∃r',sf X "str.join" r'/\∀x W xs Ts H Q (QQ:VK),VA X.K H x W->c_ X.K H xs Ts->G9 W Ts Q->(∀z W H',i3 X.K H H' z W->Q W->QQ z H')->r' x xs H QQ:=⟨_,Je,λx W xs Ts H Q QQ v p h k=>by
 obtain⟨ss,rfl,rfl,l,q⟩:=h;obtain⟨rfl,_⟩:=v.leafI;obtain⟨y,rfl,v'⟩:=dW p;obtain⟨a,ys,rfl,hs,z,p'⟩:=v'.seqI;rw[iX p']at hs;refine⟨a,ss,rfl,rfl,dE hs,l,λz e=>k _ _ _ (.flat rfl) ?_⟩;have:z=⟨(bN ss).toArray⟩:=by
  cases z with
  |mk c=>congr 1;have e:c.toList=bN ss:=e;rw[<-e]
 rw[this];exact q⟩
end
section
variable{X:Cx}{F:Fm}{pos:Pos}
noncomputable def eQ(K:W.Frag)(mg:Str->Option Value)(x:Str)(T:Tv):Prop:=∃v u,mg x=some u/\aj v u/\∀H,VA K H v T
theorem mD{x:Str}{T:Tv}(G:eQ X.K X.mg x T)(hg:Gl X x)(hd:(x==("__debug__":Str))=false:=by decide):UE X F (.Name x pos) (uC T):=by
 obtain⟨v,u,m,r,h⟩:=G;exact KN hg m r h hd
noncomputable def mK(K:W.Frag)(prm:Params)(mg:Str->Option Value)(x:Str)(kvs:List (Str×Str)):Prop:=∃d,mg x=some (.ref d)/\xy K prm d kvs
noncomputable def Ob(kvs:List (Str×Str))(u:UT):UT:=λρ Q=>u ρ λT ρ1=>∃i j,T=sT i/\getS kvs i=some j/\Q (sT j) ρ1
theorem qC{x:Str}{p:Pos}{e:Expr}{u:UT}{kvs:List (Str×Str)}(G:mK X.K X.w.params X.mg x kvs)(hg:Gl X x)(he:UE X F e u)(hs:tF e:=by intro _ _;rfl)(hd:(x==("__debug__":Str))=false:=by decide):UE X F (.Subscript (.Name x p) e pos) (Ob kvs u):=by
 obtain⟨d,m,D⟩:=G;refine⟨PE.imp (jX (GS D) (BD (v:=.ref d) hg m rfl hd) he.pe hs) λσ H QQ ⟨ρ,Q,f,h,k⟩=>⟨ρ,_,f,h,λy T H1 ρ1 s1 v1 q1=>?_⟩⟩;obtain⟨i,j,rfl,ej,q⟩:=q1;obtain⟨rfl,_⟩:=v1.leafI;exact⟨i,j,rfl,rfl,ej,k _ _ _ _ s1 (.flat rfl) q⟩
end
noncomputable def oC(own:Nat)(fr:List Nat)(g:UG)(tf:d5)(ue:UT)(T:Tv)(ρ:aW)(R:Option Tv->aW->Prop):Prop:=g T (p_ own fr ρ) λρ1=>tf ρ1 λb ρ2=>if b=true then ue ρ2 λU ρ3=>R (some U) (qa own fr ρ ρ3) else R none (qa own fr ρ ρ2)
section
variable{own:Nat}{fr:List Nat}{g:UG}{tf:d5}{ue:UT}
noncomputable def Hn(own:Nat)(fr:List Nat)(g:UG)(tf:d5)(ue:UT)(Ts:List Tv)(Q:List Tv->aW->Prop)(o:Option Tv)(ρ:aW):Prop:=match o with
 |some U=>gP own fr g tf ue Ts ρ λUs ρ4=>Q (U::Us) ρ4
 |none=>gP own fr g tf ue Ts ρ Q
theorem wI(T:Tv)(Ts:List Tv)(ρ:aW)(Q:List Tv->aW->Prop):gP own fr g tf ue (T::Ts) ρ Q=oC own fr g tf ue T ρ (Hn own fr g tf ue Ts Q):=rfl
theorem xO{ρ:aW}(f:Tv->Option Tv):∀{Ts:List Tv}{Q:List Tv->aW->Prop},(∀T∈Ts,∀R:Option Tv->aW->Prop,R (f T) ρ->oC own fr g tf ue T ρ R)->Q (Ts.filterMap f) ρ->gP own fr g tf ue Ts ρ Q
 |[],_,_,q=>q
 |T::Ts,Q,h,q=>by
  rw[wI];refine h T (.head _) _ ?_;rw[i9]at q;cases e:f T with
  |none=>rw[e]at q;exact xO f (λT' hT'=>h T' (.tail _ hT')) q
  |some U=>rw[e]at q;exact xO (Q:=λUs ρ4=>Q (U::Us) ρ4) f (λT' hT'=>h T' (.tail _ hT')) q
theorem Ls{ρ:aW}(f:Tv->Tv){Ts:List Tv}{Q:List Tv->aW->Prop}(h:∀T∈Ts,∀R:Option Tv->aW->Prop,R (some (f T)) ρ->oC own fr g tf ue T ρ R)(q:Q (Ts.map f) ρ):gP own fr g tf ue Ts ρ Q:=
 xO (λT=>some (f T)) h (by rw[show Ts.filterMap (λT=>some (f T))=Ts.map f from List.filterMap_eq_map'▸rfl];exact q)
theorem jA{g:UG}{ub:d6}{Ts:List Tv}{P:az}{ρ:aW}(J:Nat->aW->Prop)(h0:J 0 ρ)(hs:∀i T ρ' (N:aW->Prop),Ts[i]?=some T->J i ρ'->(∀ρ'',J (i+1) ρ''->N ρ'')->g T ρ' λρ1=>ub {P with nx:=N,ct:=N,bk:=P.nx} ρ1)
  (hd:∀ρ',J Ts.length ρ'->P.nx ρ'):kB g ub Ts P ρ:=by
 have key:∀(n i:Nat) (ρ:aW),n+i=Ts.length->J i ρ->kB g ub (Ts.drop i) P ρ:=by
  intro n
  induction n with
  |zero=>
   intro i ρ e j;have:i=Ts.length:=by omega
   subst this;rw[qx];exact hd ρ j
  |succ n ih=>
   intro i ρ e j;have hi:i<Ts.length:=by omega
   rw[ph hi];exact hs i _ ρ (λρ'=>kB g ub (Ts.drop (i+1)) P ρ') (cb hi) j λρ'' j'=>ih (i+1) ρ'' (by omega) j'
 exact key Ts.length 0 ρ (by omega) h0
end
noncomputable def gY:bf:=λas R=>∃m:Int,as=[.dk,.va (iT m)]/\0<m/\cx m/\∀r:Int,0<=r->r<m->R (iT r)
theorem On.kp{p c:Addr}{H H':Hp}(o:On p c H H'):Kp (some (p,c)) H H':=⟨λb u e n=>o.e b u e (n p c rfl).1 (n p c rfl).2,λp' c' e=>by cases e;exact o.d⟩
theorem cw.take{P:Program}{w:World}{K:W.Frag}{mg:Str->Option Value}{base:Heap}{k:Nat}{x:Str}{ps:List Str}(G:cw P w K mg base k x ps Aa):ae P w K mg base k x ps gY:=cw.imp G λvs H Q E ⟨dk,as,R,d,p,⟨m,e,hm,hb,q⟩,kk⟩=>by
 subst e;cases p with
 |cons r1 t1=>
  cases t1 with
  |cons r2 t2=>
   cases t2;obtain⟨p,c,ed,rfl⟩:=r1;subst ed;obtain⟨rfl,_⟩:=VA.leafI r2;exact⟨p,c,m,rfl,d p c rfl,hm,hb,λr H' h1 h2 o=>kk _ _ _ o.kp (.flat rfl) (q r h1 h2)⟩
theorem Lb{X:Cx}{F:Fm}{st:List Stmt}:kx X F st (λ_ _=>False):=⟨iq.imp MP λD σ H ⟨_,_,_,h,_⟩=>h⟩
theorem ai.pfalse{P:Program}{w:World}{K:W.Frag}{mg:Str->Option Value}{base:Heap}{x:Str}{st:Stmt}{N ps:List Str}{k:Nat}{psp:bf}(h:ai K mg x st)(S:dN N ps (aV st))
  (hb:∀(kV doc pm:Value) (an:Option Addr) (Pu ct:Value) (us:List Value),us.length=ps.length->bindArgs (W.fnOf x x (fZ st) (dZ st) (aV st) .none kV doc pm an Pu ct) ⟨us,[]⟩=pure (ps.zip us)) (hf:∀as R,psp as R->False):ae P w K mg base (k+1) x ps psp:=
 h.pgood S hb (λ_ _ _ _ _ _ _ _ _=>Lb) λas R q=>(hf as R q).elim
theorem cI{j:Int}(h1:-(10 ^ 100)<j)(h2:j<10 ^ 100):cx j:=by
 unfold cx;have:j.natAbs<10 ^ 100:=by omega
 exact gj this (by decide +kernel)
section
variable{own:Nat}{fr:List Nat}{g:UG}{tf:d5}{ue:UT}{α:Type}
theorem dL{ρ:aW}(c:α->Tv)(f:α->Option Tv):∀{l:List α}{Q:List Tv->aW->Prop},(∀a∈l,∀R:Option Tv->aW->Prop,R (f a) ρ->oC own fr g tf ue (c a) ρ R)->Q (l.filterMap f) ρ->gP own fr g tf ue (l.map c) ρ Q
 |[],_,_,q=>q
 |a::l,Q,h,q=>by
  rw[d9,wI];refine h a (.head _) _ ?_;rw[i9]at q;cases e:f a with
  |none=>rw[e]at q;exact dL c f (λb hb=>h b (.tail _ hb)) q
  |some U=>rw[e]at q;exact dL (Q:=λUs ρ4=>Q (U::Us) ρ4) c f (λb hb=>h b (.tail _ hb)) q
theorem cX{ρ:aW}(c f:α->Tv){l:List α}{Q:List Tv->aW->Prop}(h:∀a∈l,∀R:Option Tv->aW->Prop,R (some (f a)) ρ->oC own fr g tf ue (c a) ρ R)(q:Q (l.map f) ρ):gP own fr g tf ue (l.map c) ρ Q:=
 dL c (λa=>some (f a)) h (by rw[show l.filterMap (λa=>some (f a))=l.map f from List.filterMap_eq_map'▸rfl];exact q)
theorem wU{ρ:aW}(r:Tv->Tv->Prop):∀{Ts:List Tv}{Q:List Tv->aW->Prop},(∀T∈Ts,∀R:Option Tv->aW->Prop,(∀U,r T U->R (some U) ρ)->oC own fr g tf ue T ρ R)->(∀Us,Paired r Ts Us->Q Us ρ)->gP own fr g tf ue Ts ρ Q
 |[],_,_,q=>q [] .nil
 |T::Ts,Q,h,q=>by
  rw[wI];exact h T (.head _) _ λU hU=>wU (Q:=λUs ρ4=>Q (U::Us) ρ4) r (λT' hT'=>h T' (.tail _ hT')) λUs p=>q _ (.cons hU p)
theorem lU{g:UG}{ub:d6}{P:az}{ρ:aW}(c:α->Tv){l:List α}(J:Nat->aW->Prop)(h0:J 0 ρ)(hs:∀i a ρ' (N:aW->Prop),l[i]?=some a->J i ρ'->(∀ρ'',J (i+1) ρ''->N ρ'')->g (c a) ρ' λρ1=>ub {P with nx:=N,ct:=N,bk:=P.nx} ρ1)
  (hd:∀ρ',J l.length ρ'->P.nx ρ'):kB g ub (l.map c) P ρ:=
 jA J h0 (λi T ρ' N e j hN=>by
  rw[g4]at e;obtain⟨a,ea,rfl⟩:=qf1_.mp e
  exact hs i a ρ' N ea j hN) (by rw[aq];exact hd)
end
theorem Ap(x y:Str):eqT (sT x) (sT y)=decide (x=y):=by
 rw[eqT];show(x==y)=_;exact qv x y
theorem gJ{x:Str}{ss:List Str}:((ss.map sT).any λU=>eqT U (sT x))=decide (x∈ss):=by
 rw[List.any_map,fm,qA_,decide_eq_true_iff];constructor
 ·rintro⟨y,hy,e⟩;have e:eqT (sT y) (sT x)=true:=e;rw[Ap,decide_eq_true_iff]at e;rw[<-e];exact hy
 ·intro h;exact⟨x,h,by show eqT (sT x) (sT x)=true;rw[Ap,decide_eq_true_iff]⟩
theorem gT{x:Str}{ss:List Str}:qX (sT x) (ss.map sT):=⟨trivial,λU hU=>by
 obtain⟨s,_,rfl⟩:=qd_.mp hU
 trivial⟩
theorem gr{b:Bool}{A B:Prop}(h1:b=true->A)(h2:b=false->B):if b=true then A else B:=by
 cases b with
 |true=>exact(if_pos rfl).mpr (h1 rfl)
 |false=>exact(if_neg b9).mpr (h2 rfl)
theorem dQ{p:Prop}[Decidable p]{A B:Prop}(h1:p->A)(h2:¬ p->B):if decide p=true then A else B:=gr (λh=>h1 (gm h)) λh=>h2 (of_decide_eq_false h)
noncomputable abbrev tw:=aW->(List (Str×Tv)->aW->Prop)->Prop
noncomputable def GT(K:W.Frag)(F:Fm)(u:tw):TE:=λσ H QQ=>∃ρ Q,av K F ρ σ H/\u ρ Q/\∀a kvs kts H' ρ',bq K F σ ρ H ρ' H'->H a=none->H' a=some (.dK kvs)->(kts.map (·.1)).Nodup->kts.length<64->gp K H' kvs kts->Q kts ρ'->QQ (.ref a) H'
structure UD (X:Cx) (F:Fm) (e:Expr) (u:tw):Prop where
 pe:PE X e (GT X.K F u)
section
variable{X:Cx}{F:Fm}{e:Expr}{pos:Pos}
noncomputable def uD(u:tw):UT:=λρ Q=>u ρ λkts ρ1=>Q (.dct kts) ρ1
theorem zH{u:tw}(h:UD X F e u):UE X F e (uD u):=⟨PE.imp (PE.fz h.pe) λσ H QQ ⟨ρ,Q,fr,h,k⟩=>⟨ρ,_,fr,h,λa kvs kts H' ρ' s n e nd z p q=>
 .inr ⟨a,_,rfl,e,rfl,λob=>k _ _ _ _ (s.put fr n e rfl (.frz ob (.dK kvs))) (VA.dct ⟨ob,bL⟩ nd z (gp.hs (iN e rfl) p)) q⟩⟩⟩
variable{u:UT}{p:Pos}
noncomputable def HR(K:W.Frag):List V->Hp->VK->Prop:=λxs H Q=>∃(l:Addr) (ys:List V) (ps:List (ay×V)),xs=[.ref l]/\Rd H l (.lst ys)/\Paired (λy (p:ay×V)=>∃t,y=.ref t/\cu K H t [kV p.1,p.2]) ys ps/\ps.length<=1000 /\
  ∀d,H d=none->Q (.ref d) (aw H d (.dK (mB [] ps)))
theorem Mq(hc:X.calm=true):au X (.type "dict") (HR X.K):=by
 rintro Pp s σ H _ us Q I r ⟨l,ys,ps,rfl,hl,hp,hsz,q⟩;obtain⟨u,rfl,rx⟩:=cY r;cases rx;obtain⟨hz,its,n,hv,hget⟩:=(show a_ X.prog X.w H s.heap l (.lst ys) from hl.ok I.hok)
 have key:∀{ys:List V} {its:List Value} {ps:List (ay×V)},ak ys its->Paired (λy (p:ay×V)=>∃t,y=.ref t/\cu X.K H t [kV p.1,p.2]) ys ps ->
   ∃qs:List (ay×Value),KV ps qs/\its.length=qs.length/\∀(j:Nat) (k:ay) (v:Value),qs[j]?=some (k,v)->∃t kk,its[j]?=some (.ref t)/\IsTup s.heap t #[kk,v]/\(cB X.prog X.w).is k kk=true:=by
  intro ys its ps hv hp
  induction hp generalizing its with
  |nil=>cases hv;exact⟨[],.nil,rfl,λj k v e=>by simp at e⟩
  |@cons y p ys' ps' h _ ih=>
   cases hv with
   |cons r0 rs=>
    obtain⟨t,rfl,ht⟩:=h;cases r0;obtain⟨qs,kq,lq,fq⟩:=ih rs;obtain⟨tits,tv,tt,_⟩:=I.tuple ht;cases tv with
    |@cons _ kk _ _ r1 rs1=>
     cases rs1 with
     |@cons _ vv _ _ r2 rs2=>
      cases rs2;refine⟨(p.1,vv)::qs,.cons ⟨rfl,r2⟩ kq,by rw[iw,iw,lq],λj k v e=>?_⟩;cases j with
      |zero=>
       cases e;exact⟨t,kk,rfl,tt,mH r1⟩
      |succ j=>exact fq j k v e
 obtain⟨qs,kq,lq,fq⟩:=key hv hp;have hbig:=I.big;have hps:ps.length=qs.length:=Paired.length kq;refine Nh (ps:=qs) (I.ok.hd hc) hget ⟨by simpa using lq,λj k v e=>by obtain⟨t,kk,a,b,c⟩:=fq j k v e;exact⟨t,kk,by simpa using a,b,c⟩⟩ (by omega) λh' tk hd k=>?_
 have hlen:=DD ps [];refine⟨.ref s.heap.objs.size,_,I.laid (t':=tk) (o:=.dK (mB [] ps)) k (bp _) (show a_ _ _ _ h' _ (.dK _) from ⟨by rw[sizeLine_eq];have:=hlen;simp at this;omega,?_,_,IQ kq .nil,hd⟩),rfl,q _ I.fresh⟩;exact beq_eq_false_iff_ne.mpr (j0 hbig)
noncomputable def Jw(u:UT):tw:=λρ Q=>u ρ λT ρ1=>∃kts:List (Str×Tv),T=.seq false (kts.map λkt=>.seq true [sT kt.1,kt.2])/\(kts.map (·.1)).Nodup/\kts.length<64/\Q kts ρ1
theorem Bz{K:W.Frag}{H:Hp}:∀{ys:List V}{kts:List (Str×Tv)},c_ K H ys (kts.map λkt=>.seq true [sT kt.1,kt.2])->∃ps:List (ay×V),Paired (λy (p:ay×V)=>∃t,y=.ref t/\cu K H t [kV p.1,p.2]) ys ps/\gp K H ps kts
 |[],[],_=>⟨[],.nil,.nil⟩
 |y::ys,kt::kts,.cons r t=>by
  obtain⟨ps,h1,h2⟩:=Bz t;obtain⟨a,xs,rfl,hs,z,p⟩:=VA.seqI r;obtain⟨k,v,rfl,vk,vv⟩:∃k v,xs=[k,v]/\VA K H k (sT kt.1)/\VA K H v kt.2:=by
   cases p with
   |cons r1 t1=>
    cases t1 with
    |cons r2 t2=>cases t2;exact⟨_,_,rfl,r1,r2⟩
  obtain⟨rfl,_⟩:=vk.leafI;exact⟨(.inr kt.1,v)::ps,.cons ⟨a,rfl,hs⟩ h1,.cons ⟨rfl,vv⟩ h2⟩
theorem Mj{K:W.Frag}{H:Hp}{kvs:List (ay×V)}{kts:List (Str×Tv)}(p:gp K H kvs kts)(n:(kts.map (·.1)).Nodup):(kvs.map (·.1)).Nodup:=by
 rw[wW p];unfold List.Nodup at n ⊢;rw[kn];exact n.imp λh e=>h (Sum.inr.inj e)
theorem wY(hc:X.calm=true)(hg:Gl X "dict")(hm:X.mg "dict"=none)(he:UE X F e u)(hst:eX e=false:=by rfl)(hpl:(backTo pos (starEach [] X.env)).any (·.1)=false:=by rfl):UD X F (.Call (.Name "dict" p) [e] [] pos) (Jw u):=
 ⟨PE.imp (jM (Mq hc) hg hm boot_dict (dR he.pe eO hst) (by decide) (by decide) (jK hst) hpl) λσ H QQ ⟨ρ,Q,f,h,k⟩=>by
  refine⟨ρ,_,f,h,λx T H1 ρ1 s1 v1 q1=>?_⟩;obtain⟨kts,rfl,nd,z,q⟩:=q1;obtain⟨a,xs,rfl,⟨ob,hs⟩,zz,p⟩:=v1.seqI;obtain⟨ps,h1,h2⟩:=Bz p;have l2:ps.length=kts.length:=Paired.length h2;refine⟨a,xs,ps,rfl,.inr ⟨ob,hs⟩,h1,by omega,λd n=>?_⟩;rw[C6 (kvs:=[]) (by simpa using Mj h2 nd),gi]
  exact k _ _ _ _ _ (s1.trans (bq.same s1.fr (dC n))) (s1.non n) bL nd z (gp.hs (nV n) h2) q⟩
variable{x:Str}{Pw Pq:Pos}
noncomputable def Jv(ud u ux:UT):UT:=λρ Q=>ud ρ λD ρ1=>∃kts,D=.dct kts/\u ρ1 λJ ρ2=>∃k:Str,J=sT k/\ux ρ2 λW ρ3=>Q ((cF kts k).getD W) ρ3
theorem CI{o e2:Expr}{ud ux:UT}(hu:X.A.units+1<cLine)(ho:UE X F o ud)(h:UE X F e u)(hx:UE X F e2 ux)(m:M2 X o "get" Pw e e2 Pq:=by exact⟨rfl,rfl,rfl,rfl⟩):UE X F (.Call (.Attribute o "get" Pw) [e,e2] [] Pq) (Jv ud u ux):=⟨PE.imp (LG hu ho.pe h.pe hx.pe m) λσ H QQ ⟨ρ,Q,f,hu,k⟩=>by
 refine⟨ρ,_,f,hu,λx D H1 ρ1 s1 v1 q1=>?_⟩;obtain⟨kts,rfl,q1⟩:=q1;obtain⟨a,kvs,rfl,⟨ob,hd⟩,nd,z,p⟩:=v1.dctI;refine⟨a,rfl,.inl ⟨kvs,.inr ⟨ob,hd⟩⟩,ρ1,_,s1.fr,q1,λy J H2 ρ2 s2 v2 q2=>?_⟩;obtain⟨kk,rfl,q2⟩:=q2;obtain⟨rfl,_⟩:=v2.leafI;refine⟨ρ2,_,s2.fr,q2,λz W H3 ρ3 s3 v3 q=>?_⟩;have hs:=(s2.hs s1.fr).trans (s3.hs s2.fr);refine⟨_,.inl ⟨kvs,.inr kk,.inr ⟨ob,hs _ _ rfl hd⟩,rfl,rfl⟩,?_⟩;rcases sV (gp.hs hs p) kk with⟨z1,z2⟩|⟨U,v,z1,z2,vv⟩
 ·rw[z2];rw[z1]at q;exact k _ _ _ _ ((s1.trans s2).trans s3) v3 q
 ·rw[z2];rw[z1]at q;exact k _ _ _ _ ((s1.trans s2).trans s3) vv q⟩
end
section
variable{X:Cx}{F:Fm}
noncomputable def Gi:R2:=λx y H Q=>∃l k xs,x=.ref l/\y=.int k/\Rd H l (.lst xs) /\ -(2 ^ 63)<=k/\k<2 ^ 63/\xs.length*k.toNat<=sizeLine/\∀p,H p=none->Q (.ref p) (aw H p (.lst (List.replicate k.toNat xs).flatten))
theorem Jj:cf X (binaryOp .Mult) Gi:=by
 rintro Pp s σ H _ _ v u Q I rx ry ⟨l,k,xs,rfl,rfl,hH,h1,h2,hz,q⟩;cases rx;obtain⟨t,rfl⟩:=ry;obtain⟨z,its,n,r,e⟩:=hH.ok I.hok;have hl:=r.length;have hlen:its.toArray.size*k.toNat<=sizeLine:=by rw[cg,<-hl];exact hz
 have hcap:¬ its.toArray.size*k.toNat > (2 ^ 63-1) / 8:=by
  have:(sizeLine:Nat)<=(2 ^ 63-1) / 8:=by decide
  omega
 have hfit:¬ (!Builtin.List.listFitsIndex k)=true:=by
  rw[fitsIndex_both h1 h2];exact b9
 have hlong:¬ Builtin.List.listTooLong (its.toArray.size*k.toNat)=true:=by
  rw[Bw hlen];exact b9
 have hnew:List.foldl (λx1 x2=>x1++x2) #[] (List.replicate (if its.toArray.isEmpty=true then 0 else k.toNat) its.toArray)=(List.replicate k.toNat its).flatten.toArray:=by
  have f0:∀m:Nat,List.foldl (λx1 x2=>x1++x2) #[] (List.replicate m its.toArray)=(List.replicate m its).flatten.toArray:=λm=>by
   have:=CV its m [];rw[gi]at this;exact this
  rw[f0];cases its with
  |nil=>simp
  |cons a r'=>rw[if_neg (by simp)]
 refine wpAny_binaryOp_repeat_ref (T:="list") (U:="int") (by decide) ⟨_,e,rfl⟩ (λs'=>typeIs_int s' k t) noFill_list_mul F.fills_int_mul F.slot_int_rmul repeat_list F.slot_int_index.lookup
  (call_meets F.slot_int_rmul (typeIs_int s k t) F.entry_int_rmul (F.args_int_rmul_2 _ _) (int___rmul___int_list k t l its.toArray n)
   ⟨e,rfl,⟨_,e,rfl⟩,call_meets F.slot_list_mul ⟨_,e,rfl⟩ F.entry_list_mul (F.args_list_mul_2 _ _) (AutoListH.list___mul___list_int_3 l its.toArray n k t hfit hcap hlong) ⟨e,?_⟩⟩)
 rw[hnew];exact⟨.ref _,_,I.lnew (t':=s.toks) (r.rep k.toNat) (by rw[yK,og];exact hz),rfl,q _ I.fresh⟩
theorem DM{α β:Type}{R:α->β->Prop}{l:List α}{m:List β}(p:Paired R l m):∀k:Nat,Paired R (List.replicate k l).flatten (List.replicate k m).flatten
 |0=>.nil
 |k+1=>by rw[dg,dg,g6,g6];exact rH p (DM p k)
noncomputable def zQ:P2
 |.seq false xs,.leaf (.int k),Q=>(xs.length*k.toNat<=100000 /\ -(2 ^ 62)<=k/\k<2 ^ 62)/\Q (.seq false (List.replicate k.toNat xs).flatten)
 |T,U,Q=>u6 T U Q
theorem jR:iW X (binaryOp .Mult) zQ:=by
 obtain⟨a,oa,ra⟩:=HN (X:=X);refine⟨_,oa.or Jj,λx y T U H Q QQ vx vy h k=>?_⟩;unfold zQ at h;split at h
 ·obtain⟨a,xs,rfl,⟨ob,hs⟩,z,p⟩:=vx.seqI;obtain⟨rfl,_⟩:=vy.leafI;obtain⟨⟨h1,h2,h3⟩,q⟩:=h;have l1:xs.length=_:=Paired.length p;refine .inr ⟨a,_,xs,rfl,rfl,.inr ⟨ob,hs⟩,by omega,by omega,iK (by rw[l1];exact h1),λb n=>k _ _ _ (i3.lst n ?_ (DM p _)) q⟩;rw[yK,og];exact h1
 ·exact .inl (ra x y T U H Q QQ vx vy h k)
end
inductive Wd where
 |few (ts:List Str)
 |make (h:Str) (a b:Int) (ms:List Str)
inductive Pt where
 |nothing
 |truths (bs:List Bool)
 |numbers (lo hi st:Int)
 |texts (w:Wd)
 |lists (a b:Int) (f:List Pt)
 |record (a b:Int) (fs:List (Str×Bool×List Pt))
 |table (a b:Int) (w:Wd) (f:List Pt)
noncomputable def bQ:Wd->Tv
 |.few ts=>.seq true [sT "few",.seq true (ts.map sT)]
 |.make h a b ms=>.seq true [sT "make",sT h,iT a,iT b,.seq true (ms.map sT)]
noncomputable def aU:Pt->Tv
 |.nothing=>.seq true [sT "nothing"]
 |.truths bs=>.seq true [sT "truths",.seq true (bs.map bT)]
 |.numbers lo hi st=>.seq true [sT "numbers",iT lo,iT hi,iT st]
 |.texts w=>.seq true [sT "texts",bQ w]
 |.lists a b f=>.seq true [sT "lists",iT a,iT b,.seq true (f.map aU)]
 |.record a b fs=>.seq true [sT "record",iT a,iT b,.seq true (fs.map λx=>.seq true [sT x.1,bT x.2.1,.seq true (x.2.2.map aU)])]
 |.table a b w f=>.seq true [sT "table",iT a,iT b,bQ w,.seq true (f.map aU)]
termination_by p=>sizeOf p
decreasing_by
 all_goals simp_wf
 ·have:=pd ‹_›;omega
 ·obtain⟨x1,x2,x3⟩:=x;have h1:=pd ‹_∈fs›;have h2:=pd ‹_∈x3›;simp at h1;omega
 ·have:=pd ‹_›;omega
noncomputable abbrev bJ(f:List Pt):Tv:=.seq true (f.map aU)
noncomputable abbrev bR(x:Str×Bool×List Pt):Tv:=.seq true [sT x.1,bT x.2.1,bJ x.2.2]
theorem fV(a b:Int)(f:List Pt):aU (.lists a b f)=.seq true [sT "lists",iT a,iT b,bJ f]:=by rw[aU]
theorem bS(a b:Int)(fs:List (Str×Bool×List Pt)):aU (.record a b fs)=.seq true [sT "record",iT a,iT b,.seq true (fs.map bR)]:=by rw[aU]
theorem cQ(a b:Int)(w:Wd)(f:List Pt):aU (.table a b w f)=.seq true [sT "table",iT a,iT b,bQ w,bJ f]:=by rw[aU]
noncomputable def jF:Pt->Str
 |.nothing=>"nothing"
 |.truths _=>"truths"
 |.numbers ..=>"numbers"
 |.texts _=>"texts"
 |.lists ..=>"lists"
 |.record ..=>"record"
 |.table ..=>"table"
noncomputable def bA:Pt->Nat
 |.nothing=>0
 |.truths _=>1
 |.numbers ..=>2
 |.texts _=>3
 |.lists ..=>4
 |.record ..=>5
 |.table ..=>5
theorem fT{a b:Int}{A B:Prop}(h1:a=b->A)(h2:a≠b->B):if (false != dr (.int a) (.int b))=true then A else B:=gr (λz=>h1 (by simpa[dr]using z)) λz=>h2 (by simpa[dr]using z)
theorem fS{a b:Str}{A B:Prop}(h1:a=b->A)(h2:a≠b->B):if (false != dr (.str a) (.str b))=true then A else B:=gr (λz=>h1 (by simpa[dr]using z)) λz=>h2 (by simpa[dr]using z)
noncomputable def eJ(s:Str):Prop:=Sg s/\s.length<=50
noncomputable def fE(l:List Str):Prop:=l.Pairwise λa b=>cs a<cs b
noncomputable def m8:Wd->Prop
 |.few ts=>1<=ts.length/\ts.length<=6/\fE ts/\∀t∈ts,eJ t
 |.make h a b ms=>eJ h/\0<=a/\a<=b/\1<=b/\b<=100/\ms.Sublist MK/\ms≠[]
noncomputable def AB:Wd->Bool
 |.few _=>false
 |.make ..=>true
theorem NI{a b:Str}(h:cs a<=cs b)(n:a≠b):cs a<cs b:=by
 refine Classical.byContradiction λz=>n (jQ (List.le_antisymm h (qi1_.mp z)))
theorem KA(l:List Str):∃ss:List Str,ss.Perm l/\sortedS ss=true:=by
 refine⟨l.mergeSort λa b=>decide (cs a<=cs b),List.mergeSort_perm _ _,PyProof.Rows.sortedS_of_pairwise _ ?_⟩;refine(List.pairwise_mergeSort (λa b c h1 h2=>?_) (λa b=>?_) l).imp λ{a b} h=>?_
 ·exact cm (pk (gm h1) (gm h2))
 ·rcases List.le_total (cs a) (cs b) with z|z<;>simp[z]
 ·rw[ltCps_eq];exact dq (qi1_.mpr (gm h))
theorem KC(l:List Str):(bF l).Pairwise λa b=>cs a<=cs b:=by
 obtain⟨ss,h1,h2⟩:=KA l;rw[<-oY h1 h2];exact rF _ h2
theorem Cr{l:List Str}(n:l.Nodup):fE (bF l):=by
 have h2:(bF l).Nodup:=(fU l).nodup_iff.mpr n;exact List.Pairwise.imp₂ (λa b h n=>NI h n) (KC l) h2
theorem rG{l:List Str}(h:fE l):l.Nodup:=List.Pairwise.imp (λ{a b} h e=>by rw[e]at h;exact qt _ h) h
noncomputable def jg(x y:Str):Bool:=decide (0+y.length<=x.length)&&Builtin.Str.subAt x y 0
noncomputable def aZ(x hd:Str):Str:=Txt.slice x (some (hd.length:Int)) none
noncomputable def bZ:Wd->Str->Bool
 |.few ss,x=>decide (x∈ss)
 |.make hd lo hi ms,x=>jg x hd&&((decide (lo<=((aZ x hd).length:Int))&&decide (((aZ x hd).length:Int)<=hi))&&(cs (aZ x hd)).all λc=>decide (cU c∈ms))
noncomputable def qG:Tv->Nat
 |.leaf .non=>0
 |.leaf (.bl _)=>1
 |.leaf (.int _)=>2
 |.leaf (.str _)=>3
 |.leaf _=>5
 |.seq false _=>4
 |.seq true _=>5
 |.dct _=>5
noncomputable def cZ:Nat->Str
 |0=>"nothing"
 |1=>"truth"
 |2=>"number"
 |3=>"text"
 |4=>"list"
 |_=>"dict"
noncomputable def cS(lo hi st i:Int):Bool:=decide (lo<=i)&&decide (i<=hi)&&decide ((i-lo) % max 1 st=0)
theorem MD{kts:List (Str×Tv)}{k:Str}{U:Tv}(h:cF kts k=some U):(k,U)∈kts:=by
 unfold cF at h;obtain⟨kt,h1,h2⟩:=qf1_.mp h;have h3:=n9 h1;have h4:=n8 h1;have h5:kt.1=k:=by simpa using h3
 rw[<-h5,<-h2];exact h4
theorem lookD_none{kts:List (Str×Tv)}{k:Str}:cF kts k=none↔k∉kts.map (·.1):=by
 constructor
 ·intro h hk;obtain⟨U,e⟩:=look_mem hk;rw[h]at e;cases e
 ·intro h;cases e:cF kts k with
  |none=>rfl
  |some U=>exact absurd (qd_.mpr ⟨_,MD e,rfl⟩) h
noncomputable def tV(K:W.Frag):Sp:=λvs H Q _=>∃(a:Addr) (ns:List Int),vs=[.ref a]/\b_ K H a (ns.map V.int)/\ns.length<=63/\∀H',Q (.bl true) H'
noncomputable def oN(n:Nat):aW:=.no::.dk::List.replicate (n-2) .no
theorem IL{K:W.Frag}{H:Hp}{p c:Addr}{N:List Str}{x:V}(hN:2<=N.length)(d:bt H p c):av K ⟨H,some (p,c)⟩ (oN N.length) ((fG N [x]).set 1 (some (.ref p))) H:=by
 have nm:∀(i:Nat) (s:Sl),(oN N.length)[i]?=some s->(s=.dk/\i=1)\/s=.no:=λi s e=>by
  unfold oN at e
  match i,e with
  |0,e=>exact .inr (by simpa using e.symm)
  |1,e=>exact .inl ⟨by simpa using e.symm,rfl⟩
  |i+2,e=>
   have e:(List.replicate (N.length-2) Sl.no)[i]?=some s:=by simpa using e
   exact .inr (List.eq_of_mem_replicate (i7 e))
 refine⟨λp' c' e=>by cases e;exact d,⟨λ_ _ e _=>e,λp' c' e=>by cases e;exact d⟩,?_,λi s e=>?_,λi j a s t e _ m _ _ _=>?_⟩
 ·unfold oN fG;simp;omega
 ·rcases nm i s e with⟨rfl,rfl⟩|rfl
  ·refine⟨p,c,rfl,?_⟩;unfold e9 fG;rw[gk (by simp;omega)];rfl
  ·trivial
 ·rcases nm i s e with⟨rfl,_⟩|rfl<;>cases m
theorem Bm{K:W.Frag}{mg:Str->Option Value}{x:Str}{a:Addr}{ss:List Str}(m:mg x=some (.ref a))(T:∀H,cu K H a (ss.map V.str))(l:ss.length<=100000:=by decide):eQ K mg x (.seq true (ss.map sT)):=by
 refine⟨.ref a,.ref a,m,rfl,λH=>VA.seq (T H) (by rw[aq];exact l) ?_⟩;have key:∀ss:List Str,c_ K H (ss.map V.str) (ss.map sT):=λss=>by
  induction ss with
  |nil=>exact .nil
  |cons s ss ih=>exact .cons (.flat rfl) ih
 exact key ss
theorem K4{X:Cx}{st:List Stmt}{us:d6}(h:∀F,kx X F st us):iq X st (λD σ H=>∃F,nY X.K F us D σ H):=λPp s σ H D I ⟨F,q⟩=>(h F).ps Pp s σ H D I q
theorem Ja{X:Cx}{us:d6}{D:mN}{p c:Addr}{H:Hp}{N:List Str}{x:V}(hN:2<=N.length)(d:bt H p c)(q:∀H',D.rt (.bl true) H')(h:us {nx:=λ_=>False,rt:=λT=>T=bT true} (oN N.length)):
  ∃F,nY X.K F us D ((fG N [x]).set 1 (some (.ref p))) H:=⟨⟨H,some (p,c)⟩,oN N.length,_,IL hN d,h,λ_ _ _ _ _ z=>z.elim,λx T H' _ v e=>by
 subst e;obtain⟨rfl,_⟩:=v.leafI
 exact q H',λ_ _ _ _ _ z=>z.elim,λ_ _ _ _ _ z=>z.elim⟩
section
variable{X:Cx}{F:Fm}
variable{x:Str}{p Pw Pq pos:Pos}{st:Stmt}
theorem yW:US X F st (λ_ _=>False):=⟨λPp s σ H D I ⟨_,_,_,h,_⟩=>h.elim⟩
end
end L2
namespace L2
open PySem PySem.Spec PyProof.Rows
noncomputable def fF:Bool->Value->Bool
 |b,.bool c=>b==c
 |_,_=>false
theorem mP{b:Bool}{v:Value}(h:fF b v=true):v=.bool b:=by
 cases v<;>simp_all [fF]
noncomputable def jG(b:Bool):Int:=if b then 1 else 0
section
variable{prog:Program}{w:World}{A:Around}{E:Value->Shared->Prop}{s:Shared}
theorem Ld{b:Bool}{Q:Int->Shared->Prop}(h:Q (jG b) {s with toks:=s.toks+1}):wpAny (model prog w) A (pyHash (.bool b)) Q E s:=by
 unfold pyHash;have hv:[Value.bool b].any Value.onHeap=false:=rfl;refine af ?_;rw[cRoomFor,if_neg (by rw[hv];exact b9)];refine ao ?_;refine af (wpAny_specialOf (typeIs_bool' s b) F.slot_bool_hash.lookup ?_);show wpAny _ _ (if (some (Value.builtin "int.__hash__")==some Value.none)=true then _ else _) Q E s;rw[if_neg (by rw[beq_builtin_none];exact b9)];refine af (wpAny_specialOf (typeIs_bool' s b) F.slot_bool_hash.lookup ?_);show wpAny _ _ (callSpecialIfBoundUnlessNone? (.bool b) "__hash__" _ >>= _) Q E s
 refine af (wpAny_callSpecialIfBoundUnlessNone?_slot (typeIs_bool' s b) F.slot_bool_hash
  (fj F.slot_bool_hash (typeIs_bool' s b) PySem.entry_int_hash
   (show wpAny _ _ (do ret (<- mkInt (rawHash (jG b)))) _ _ s from ?_) (PySem.args_int_hash _)))
 refine wpAny_ret_mkInt ?_;cases b
 ·exact ao h
 ·exact ao h
theorem JF{a b:Bool}{Q:Bool->Shared->Prop}(h:Q (decide (a=b)) s):wpAny (model prog w) A (eqBool (.bool a) (.bool b)) Q E s:=by
 refine SeqAt.EqAt.bool_bool a b _ _ _ _ ?_;have e:(a==b)=decide (a=b):=by cases a<;>cases b<;>rfl
 rw[e];exact h
end
noncomputable def mC(prog:Program)(w:World):PySem.KeyKind prog w Bool where
 is:=fF
 hash:=jG
 inj:=λv a b ha hb=>by
  have:=(mP ha).symm.trans (mP hb);injection this
 byValue:=λk v h=>by rw[mP h];rfl
 pyHash:=λhv h=>by rw[mP hv];exact Ld h
 eqBool:=λhu hv h=>by rw[mP hu,mP hv];exact JF h
 «strs»:=λk x t v h=>by simp[fF]at h
noncomputable def cq(f t:Bool):List Bool:=(if f then [false] else [])++(if t then [true] else [])
noncomputable def gn(f t:Bool):Array (Int×Value):=((cq f t).map λb=>(jG b,Value.bool b)).toArray
noncomputable def dH(l f t:Bool):SetTable:=⟨7,((cq f t).map λb=>if b then 1 else 0).toArray,#[],0,l,0,true⟩
theorem FQ(l f t b:Bool)(h:b∉cq f t):layNew (dH l f t) (gn f t) (jG b) (.bool b)=(gn (f || !b) (t || b),dH l (f || !b) (t || b),false,false):=by
 cases l<;>cases f<;>cases t<;>cases b<;>first|rfl|exact absurd (by simp[cq]) h
theorem iU(l f t:Bool):(dH l f t).fits (gn f t).size=true:=by cases l<;>cases f<;>cases t<;>rfl
theorem GP(l f t:Bool):(dH l f t).tooFull=false:=by cases l<;>cases f<;>cases t<;>rfl
theorem tW(f t:Bool):(gn f t).size=(cq f t).length:=by simp[gn]
theorem mM(f t:Bool):(cq f t).length<=2:=by cases f<;>cases t<;>decide
noncomputable def bw(w:World)(a:Addr)(f t:Bool)(h:Heap):Prop:=∃ep,h.get? a=some (cG (gn f t) ep (dH (!cj w) f t))
section
variable{prog:Program}{w:World}{A:Around}{E:Value->Shared->Prop}{s:Shared}{a:Addr}{f t b:Bool}
theorem bw.kept{h h':Heap}(S:bw w a f t h)(k:∀o,h.get? a=some o->h'.get? a=some o):bw w a f t h':=by
 obtain⟨ep,e⟩:=S;exact⟨ep,k _ e⟩
theorem D6:ElemsOf (mC prog w) (gn f t).toList:=λe he=>by
 have he:e∈(cq f t).map λb=>(jG b,Value.bool b):=he
 obtain⟨b,_,rfl⟩:=qd_.mp he;exact⟨⟨b,by show fF b (.bool b)=true;simp[fF],rfl⟩,rfl⟩
theorem findB:((gn f t).toList.findIdx? λe=>(mC prog w).is b e.2)=none↔b∉cq f t:=by
 rw[qw3_];constructor
 ·intro h hb;have:=h (jG b,.bool b) (by simp only[gn];exact qd_.mpr ⟨b,hb,rfl⟩);exact absurd this (by show ¬ fF b (.bool b)=false;simp[fF])
 ·intro h e he;have he:e∈(cq f t).map λb=>(jG b,Value.bool b):=he
  obtain⟨c,hc,rfl⟩:=qd_.mp he;show fF b (.bool c)=false;simp only[fF,beq_eq_false_iff_ne];exact λz=>h (z▸hc)
theorem D5{f t b:Bool}(h:b∈cq f t):(f || !b)=f/\(t || b)=t:=by
 cases f<;>cases t<;>cases b<;>simp_all [cq]
theorem B2{Q:Bool->Shared->Prop}(S:bw w a f t s.heap)(h:∀r h',Heap.SameBut a s.heap h'->bw w a (f || !b) (t || b) h'->Q r {s with heap:=h'}):
  wpAny (model prog w) A (setAddHashed a (.bool b) ((mC prog w).hash b)) Q E s:=by
 obtain⟨ep,ho⟩:=id S;have hk:(mC prog w).is b (.bool b)=true:=by show fF b (.bool b)=true;simp[fF]
 have lt:(gn f t).size<scanBound:=by rw[tW];have:=mM f t;show _<4096;omega
 unfold setAddHashed setAddHashedIn;refine i5 (af (gz ho rfl (iU _ _ _) ?_));dsimp only;rw[byScan_of (x:=.bool b) rfl lt (D6 (prog:=prog) (w:=w)),if_pos rfl];unfold setAddByScan;refine af (af (wpAny_rule ?_));refine af (wpAny_setScan_of hk ho rfl (iU _ _ _) D6 ?_);cases hr:(gn f t).toList.findIdx? (λe=>(mC prog w).is b e.2) with
 |some j=>
  dsimp only;have hin:b∈cq f t:=Classical.byContradiction λz=>by rw[findB.mpr z]at hr;cases hr
  refine ao (ao ?_);have e:s={s with heap:=s.heap}:=by cases s;rfl
  rw[e];refine h false s.heap (Heap.SameBut.refl a s.heap) ?_;rw[(D5 hin).1,(D5 hin).2];exact S
 |none=>
  dsimp only;have hout:=findB.mp hr;rw[show(mC prog w).hash b=jG b from rfl,FQ _ _ _ _ hout];dsimp only;refine af (ao ?_);rw[if_pos (show(dH (!cj w) (f || !b) (t || b)).plain=true from rfl)];refine af ?_;rw[show hashByValue 8 (.bool b)=pure true from rfl];refine ao ?_;rw[if_pos rfl];refine af (wpAny_storeSet_of ho rfl ?_ (by rw[tW];have:=mM (f || !b) (t || b);exact bu this (by decide)));rw[GP];have o1:=fu (Obj.putSet (gn (f || !b) (t || b)) (dH (!cj w) (f || !b) (t || b))) ho rfl;exact ao (ao (h true _ (Heap.SameBut.update s.heap a _) ⟨ep+1,o1⟩))
end
noncomputable def cp(bs:List Bool):Bool:=bs.any (!·)
noncomputable def cn(bs:List Bool):Bool:=bs.any id
theorem Kn(bs:List Bool)(b:Bool):cp (bs++[b])=(cp bs || !b):=by simp[cp]
theorem Ko(bs:List Bool)(b:Bool):cn (bs++[b])=(cn bs || b):=by simp[cn]
section
variable{prog:Program}{w:World}{A:Around}{R:Result->Shared->Prop}{I:Addr}{fp wr:List Addr}{G:Array GenState->Array GenState->Prop}{n:Nat}{P:Nat->Value->Prop}{St:Nat->Shared->Prop}
theorem L9(W:WalksS prog w A.in1 I fp wr G n P St)(S:Addr)(hf:S∉fp)(bs:List Bool)(hn:n=bs.length)(hv:∀i v,P i v->∃b,bs[i]?=some b/\v=.bool b):
  ∀(k i:Nat) (s:Shared),n-i=k->i<=n->St i s->bw w S (cp (bs.take i)) (cn (bs.take i)) s.heap ->
   (∀s',Moved (S::wr) G s s'->bw w S (cp bs) (cn bs) s'.heap->R (.ok (.ret .none)) s')->codeAny (model prog w) A (.builtin "set.update.loop" ⟨[.ref S,.ref I],[]⟩) R s:=λk i s hk hi st hS hR=>
 Bq W S hf (λi h=>bw w S (cp (bs.take i)) (cn (bs.take i)) h) (λ_ _ _ S k=>S.kept k) (λi v s' Q E lt hP hS q=>by
  obtain⟨b,eb,rfl⟩:=hv i v hP;refine Dm (mC prog w) (x:=b) (by show fF b (.bool b)=true;simp[fF]) (B2 (s:={s' with toks:=s'.toks+1}) hS λr h' sb S2=>q r h' sb ?_);rw[j6,eb];show bw w S (cp (bs.take i++[b])) (cn (bs.take i++[b])) h';rw[Kn,Ko]
  exact S2) k i s hk hi st hS λs' m S'=>hR s' m (by rw[hn,mf]at S';exact S')
end
theorem IG{vs:List Value}{bs:List Bool}(h:vs=bs.map Value.bool)(i:Nat)(v:Value)(e:vs[i]?=some v):∃b,bs[i]?=some b/\v=.bool b:=by
 subst h;rw[g4]at e;obtain⟨b,hb,rfl⟩:=qf1_.mp e;exact⟨b,hb,rfl⟩
theorem DN{vs:List Value}{us:List Bool}(h:vs.Perm (us.map Value.bool)):∃bs:List Bool,vs=bs.map Value.bool/\bs.Perm us:=by
 let g:Value->Bool:=λv=>match v with|.bool b=>b|_=>false
 refine⟨vs.map g,?_,?_⟩
 ·rw[cv]
  conv=>lhs;rw[<-List.map_id vs]
  refine oo λv hv=>?_
  obtain⟨b,_,rfl⟩:=qd_.mp (h.mem_iff.mp hv);rfl
 ·have:=h.map g;rw[cv]at this;have e:us.map (g∘Value.bool)=us:=by
   conv=>rhs;rw[<-List.map_id us]
   exact oo λb _=>rfl
  rwa[e]at this
theorem Gq(l f t:Bool):gE (dH l f t).place:=by
 cases f<;>cases t<;>first|exact C9 (Nat.le_of_ble_eq_true rfl)|skip;intro i j hij a b ha hb;have:=(qo2_.mp hb).1;have h2:(dH l true true).place.size=2:=rfl;have e1:i=0:=by omega
 have e2:j=1:=by omega
 subst e1 e2;cases ha;cases hb;exact Nat.zero_lt_one
@[reducible] def sortB:PyProof.Rows.KeyKind where
 α:=Bool
 blt a b:=!a&&b
 irrefl a:=by cases a<;>rfl
 trans a b c h1 h2:=by cases a<;>cases b<;>cases c<;>simp_all
 negTrans a b c h:=by cases a<;>cases b<;>cases c<;>simp_all
 total a b h1 h2:=by cases a<;>cases b<;>simp_all
 keyOf v:=match v with|.bool b=>some b|_=>none
 dflt:=false
section
variable{prog:Program}{w:World}{A:Around}{E:Value->Shared->Prop}{s:Shared}
theorem NY{a b:Bool}{Q:Bool->Shared->Prop}(h:Q (!a&&b) s):wpAny (model prog w) A (oneLt' true (.bool a) (.bool b)) Q E s:=by
 rw[oneLt'_eq];simp only[if_true];refine af (wpAny_cRoomFor_byValue rfl ?_);refine af (wpAny_callSpecialIfBound?_slot (typeIs_bool' s a) F.slot_bool_lt ?_);refine call_gives F.slot_bool_lt (typeIs_bool' s a) F.entry_int_lt (F.args_int_lt_2 _ _) (gives_int_lt_bools a b) ?_;have e:decide (b2i a<b2i b)=(!a&&b):=by cases a<;>cases b<;>rfl
 show wpAny _ _ (truthOfDropped (.bool (decide (b2i a<b2i b)))) _ _ _;rw[e];exact wpAny_truthy_bool h
end
theorem NM:sortB.OneLt:=by
 intro prog w A E s x y a b Q ha hb h;cases x<;>simp only[sortB,reduceCtorEq,Option.some.injEq]at ha;cases y<;>simp only[sortB,reduceCtorEq,Option.some.injEq]at hb;cases ha;cases hb;exact NY h
theorem DF:∀(bs:List Bool),(bs.map Value.bool).mapM firstOfTuple'=pure ((bs.map Value.bool).map λ_=>none)
 |[]=>by simp
 |b::bs=>by rw[d9,List.mapM_cons,show firstOfTuple' (.bool b)=pure none from rfl,DF bs];simp
theorem DE:∀(bs:List Bool),(bs.map Value.bool).mapM typeOf=pure ((bs.map Value.bool).map λ_=>Value.type "bool")
 |[]=>by simp
 |b::bs=>by
  rw[d9,List.mapM_cons,DE bs];show(pure (Value.type "bool") >>= λb=>pure _ >>= λbs=>pure (b::bs))=_;simp
theorem NG{b c:Bool}{bs:List Bool}:keyKind' (((b::c::bs).map Value.bool).toArray)=pure oneType':=by
 rw[keyKind'_eq,List.mapM_toArray,DF];simp only[map_pure,pure_bind];rw[if_neg (by simp),if_neg (by simp)];rw[oneTypeOnly'_eq,List.mapM_toArray,DE];simp only[map_pure,pure_bind];have hall:((List.map (λ_=>Value.type "bool") ((b::c::bs).map Value.bool)).toArray.all λx=>x==Value.type "bool")=true:=by
  simp only[List.all_toArray,jx,qE_];intro _ _;rfl
 have h0:(List.map (λ_=>Value.type "bool") ((b::c::bs).map Value.bool)).toArray[0]?=some (Value.type "bool"):=by simp
 rw[h0];simp only[hall,if_true,pure_bind,Option.isSome_some]
theorem LJ{f t:Bool}{bs:List Bool}(h:bs.Perm (cq f t))(s:∀i j:Nat,i<=j->∀a b,bs[i]?=some a->bs[j]?=some b->(!b&&a)=false):bs=cq f t:=by
 cases f<;>cases t
 ·exact List.perm_nil.mp h
 ·exact List.perm_singleton.mp h
 ·exact List.perm_singleton.mp h
 ·have l:bs.length=2:=h.length_eq
  match bs,l with
  |[a,b],_=>
   have:=s 0 1 (by decide) a b rfl rfl;cases a<;>cases b
   ·exact absurd (h.mem_iff (a:=true)) (by simp[cq])
   ·rfl
   ·cases this
   ·exact absurd (h.mem_iff (a:=false)) (by simp[cq])
section
variable{prog:Program}{w:World}{A:Around}{E:Value->Shared->Prop}{s:Shared}{a:Addr}{f t:Bool}
theorem NB{Q:Value->Shared->Prop}(hh:A.handled=none)(S:bw w a f t s.heap)
  (h:∀h' d tk (l:Addr) (e:Nat),h'.get? l=some (seqObj "list" ((cq f t).map Value.bool).toArray e)->s.heap.objs.size<=l->(∀b o,s.heap.get? b=some o->h'.get? b=some o) ->
   Q (.ref l) {s with heap:=h',drawn:=d,toks:=tk}):wpAny (model prog w) A (call (.builtin "sorted") [.ref a]) Q E s:=by
 refine Calls.call_function_entry kind_sorted plain_sorted entry_sorted (args_sorted1 _) ?_;unfold Builtin.«sorted»;refine af (m:=checkCount "sorted" 1 1 _) (ao ?_);obtain⟨ep,ho⟩:=S;refine af (Dw (by simp[hh]) ho (iU _ _ _) (by rw[tW];have:=mM f t;show _<4096;omega) rfl (λ_=>Gq _ _ _) λh1 d tk acc pa le kp=>?_);obtain⟨bs,hs,hp⟩:=DN (us:=cq f t) (by simpa[gn,Function.comp_def]using pa);subst hs;have hlen:(bs.map Value.bool).length<64:=by rw[aq,hp.length_eq];have:=mM f t;omega
 refine af (wpAny_newList ?_ (e6 (gj hlen (by decide))));have hoL:(h1.push (seqObj "list" (bs.map Value.bool).toArray 0)).get? h1.objs.size=some (seqObj "list" (bs.map Value.bool).toArray 0):=cy _ rfl;have hko:KeysOf sortB (pairsOf (bs.map Value.bool)):=by
  intro p hp;rw[pairsOf_toList]at hp;obtain⟨b,_,e⟩:=qd_.mp (mem_zip_self hp).2;exact⟨b,by rw[<-e]⟩
 refine af (i5 (fj slot_list_sort ⟨_,hoL,rfl⟩ entry_list_sort (list_sort_treeK NM hoL hko (λv₁ v₂ rest e=>?_) hlen λst' a1 a2=>⟨_,rfl,?_⟩) (args_list_sort _)))
 ·match bs,e with
  |b::c::bs,e=>rw[<-e];exact NG
 have hl:(arrOf st').toList.Perm ((bs.map Value.bool).zip (bs.map Value.bool)):=by rw[<-pairsOf_toList];exact Array.perm_iff_toList_perm.mp a1
 have hmem:∀p,p∈(arrOf st').toList->p.1=p.2/\p.1∈bs.map Value.bool:=λp hp'=>mem_zip_self (hl.mem_iff.mp hp')
 have pm:((arrOf st').map (·.2)).toList.Perm ((cq f t).map Value.bool):=by
  rw[Array.toList_map];have:=hl.map (·.2);rw[List.map_snd_zip (bp _)]at this;exact this.trans (hp.map _)
 obtain⟨cs,e1,e2⟩:=DN pm;have e3:cs=cq f t:=LJ e2 λi j hij x y hx hy=>by
  have kk:∀(i:Nat) (x:Bool),cs[i]?=some x->KK sortB (arrOf st') i=x/\i<(arrOf st').size:=λi x hx=>by
   have hv:((arrOf st').map (·.2)).toList[i]?=some (.bool x):=by rw[e1,g4,hx];rfl
   rw[Array.toList_map,g4]at hv;obtain⟨p,hp1,hp2⟩:=qf1_.mp hv;have hm:=hmem p (i7 hp1);rw[h_]at hp1;refine⟨?_,(qo2_.mp hp1).1⟩;unfold KK;rw[hp1];show(sortB.keyOf p.1).getD false=x;rw[hm.1,hp2];rfl
  have hi:=kk i x hx;have hj:=kk j y hy;have:=a2 i j hij (by rw[<-a1.size_eq];exact hj.2);rw[hi.1,hj.1]at this;exact this
 subst e3;obtain⟨e,he⟩:=sortedHeap_at (out:=(arrOf st').map (·.2)) hoL;refine ao ⟨_,rfl,h _ _ _ _ e (by rw[<-e1,rb];exact he) (e6 le) λb o q=>?_⟩;have lt:=b5 (kp b o q);rw[sortedHeap_old (cz lt) (by rw[d_];exact jq lt)];exact b6 _ (kp b o q)
end
end L2
namespace L2
open PySem PySem.Spec PyProof.Rows WordM
noncomputable def gM(w:World)(a:Addr)(f t:Bool):HO:=.ext (bw w a f t)
section
variable{X:Cx}{F:Fm}
theorem IH{bs:List Bool}:∀{vs:List Value},ak (bs.map V.bl) vs->vs=bs.map Value.bool:=by
 induction bs with
 |nil=>intro vs h;cases h;rfl
 |cons b bs ih=>
  intro vs h;cases h with
  |cons r t=>
   rw[d9,<-ih t];have:_=Value.bool b:=r;rw[this]
noncomputable def Ks(w:World):List V->Hp->VK->Prop:=λxs H Q=>∃(a:Addr) (f t:Bool),xs=[.ref a]/\H a=some (gM w a f t)/\∀l:Addr,H l=none->Q (.ref l) (aw H l (.lst ((cq f t).map V.bl)))
theorem Dl:∀(bs:List Bool),ak (bs.map V.bl) (bs.map Value.bool)
 |[]=>.nil
 |b::bs=>.cons rfl (Dl bs)
theorem Nj(hc:X.calm=true):au X (.builtin "sorted") (Ks X.w):=by
 intro Pp s σ H xs us Q I r h;obtain⟨a,f,t,rfl,hq,q⟩:=h;obtain⟨u,rfl,rx⟩:=cY r;cases rx;have S:bw X.w a f t s.heap:=(I.hok a _ hq).1;refine NB (I.ok.hd hc) S λh' d tk l e hl le k=>?_
 refine⟨.ref l,_,(I.laid (t':=tk) (o:=.lst ((cq f t).map V.bl)) k le ⟨?_,_,e,Dl _,hl⟩).draw d,rfl,q l (I.hok.fresh le)⟩;rw[aq];exact bu (mM f t) (by decide)
variable{pos:Pos}
end
end L2
namespace L2
open PySem PySem.Spec PyProof.Rows
section
variable{X:Cx}{F:Fm}
noncomputable def HW(P:Program)(w:World)(K:W.Frag):List V->Hp->VK->Prop:=λxs H Q=>∃(p:Addr) (ss:List Str),xs=[.ref p]/\b_ K H p (ss.map V.str)/\(aN ss).length<4000/\∀a:Addr,H a=none->Q (.ref a) (aw H a (eR P w a (aN ss)))
theorem Mv(hc:X.calm=true):au X (.type "set") (HW X.prog X.w X.K):=by
 intro Pp s σ H xs us Q I r h;obtain⟨p,ss,rfl,hq,hz,q⟩:=h;obtain⟨u,rfl,rx⟩:=cY r;cases rx;obtain⟨its,rv,pl,hz'⟩:=I.list hq;have hi:StrsAre its.toArray.toList ss:=kE rv;refine NQ (I.ok.hd hc) pl.isList hi (by show(aN ss).length+1<4096;omega) λh' tk S k=>?_
 refine⟨.ref s.heap.objs.size,_,I.laid (t':=tk) (o:=eR X.prog X.w s.heap.objs.size (aN ss)) (λb o e=>k b o (b5 e) e) (bp _) ⟨S,?_,λh1 h2 z k'=>z.kept k'⟩,rfl,q _ I.fresh⟩;obtain⟨es,ep,t,e,_⟩:=S;exact⟨_,e⟩
variable{pos:Pos}
noncomputable def Mh(u:UT):g5:=λρ Q=>u ρ λT ρ1=>∃ss:List Str,T=.seq false (ss.map sT)/\(aN ss).length<64/\Q ((bF (aN ss)).map sT) ρ1
theorem NN{e:Expr}{u:UT}{p p' pos':Pos}(hc:X.calm=true)(hg:Gl X "sorted")(hm:X.mg "sorted"=none)(hg':Gl X "set")(hm':X.mg "set"=none)(he:UE X F e u)(hst:eX e=false:=by rfl)
  (hpl:(backTo pos (starEach [] X.env)).any (·.1)=false:=by rfl) (hpl':(backTo pos' (starEach [] X.env)).any (·.1)=false:=by rfl):
  UL X F (.Call (.Name "sorted" p) [.Call (.Name "set" p') [e] [] pos'] [] pos) (Mh u):=⟨PE.imp (kH (Dz hc) hg hm boot_sorted (dR (jM (Mv hc) hg' hm' L2.boot_set (dR he.pe eO hst) (by decide) (by decide) (jK hst) hpl') eO rfl) (by decide) (by decide) rfl hpl) λσ H QQ ⟨ρ,Q,f,h,k⟩=>by
 refine⟨ρ,_,f,h,λx T H1 ρ1 s1 v1 q1=>?_⟩;obtain⟨ss,rfl,l2,q⟩:=q1;obtain⟨a,ys,rfl,hs,z,p⟩:=v1.seqI;rw[iX p]at hs;refine⟨a,ss,rfl,dE hs,by omega,λb nb=>⟨b,aN ss,rfl,bL,l2,λms c h1 h2 nc=>?_⟩⟩;have sm:=(dC (o:=eR X.prog X.w b (aN ss)) nb).trans (dC (o:=.lst (ms.map V.str)) nc);refine k _ _ _ _ _ (s1.trans (bq.same s1.fr sm)) (s1.non ((dC nb).free nc)) bL (by rw[aq,h1.length_eq];omega) (pE ms) ?_;rw[oY h1 h2]
 exact q⟩
end
end L2
namespace RunM
structure ip (lo hi st:Int):Prop where
 nn:0<=st
 z:st=0->lo=hi
 p:0<st->lo<hi/\st ∣ (hi-lo)
theorem ip.le{lo hi st:Int}(r:ip lo hi st):lo<=hi:=by
 rcases Int.lt_or_le 0 st with h|h
 ·exact Int.le_of_lt (r.p h).1
 ·have:=r.nn;rw[r.z (by omega)];exact jl _
end RunM
namespace GcdM
open RunM
noncomputable def g(a b:Int):Int:=((Int.gcd a b:Nat):Int)
theorem pC(a b:Int):0<=g a b:=Int.natCast_nonneg _
theorem g_dvd{d a b:Int}:d ∣ g a b↔d ∣ a/\d ∣ b:=by
 unfold g;constructor
 ·intro h;exact⟨n6 h (Int.gcd_dvd_left ..),n6 h (Int.gcd_dvd_right ..)⟩
 ·rintro⟨h1,h2⟩;exact Int.dvd_coe_gcd h1 h2
theorem Ia(a:Int)(h:0<=a):g a 0=a:=by
 unfold g;rw[Int.gcd_zero_right];omega
theorem wQ{a b:Int}(ha:0<=a)(hb:0<=b)(h:∀d:Int,d ∣ a↔d ∣ b):a=b:=by
 have h1:a ∣ b:=(h a).mp (kj _);have h2:b ∣ a:=(h b).mpr (kj _);exact Int.dvd_antisymm ha hb h1 h2
theorem H_{a b:Int}(hb:0<b):g b (a % b)=g a b:=by
 refine wQ (pC _ _) (pC _ _) λd=>?_
 rw[g_dvd,g_dvd];constructor
 ·rintro⟨h1,h2⟩;refine⟨?_,h1⟩;have:=md (n6 h1 (Int.dvd_mul_right b (a / b))) h2;rw[Int.mul_ediv_add_emod]at this;exact this
 ·rintro⟨h1,h2⟩;refine⟨h2,?_⟩;have:=ki h1 (n6 h2 (Int.dvd_mul_right b (a / b)));rw[show a-b*(a / b)=a % b by have:=Int.mul_ediv_add_emod a b;omega]at this;exact this
noncomputable def stepOf(lo:Int)(ns:List Int):Int:=ns.foldl (λs n=>g (n-lo) s) 0
theorem xA{lo d:Int}:∀{ns:List Int}{s:Int},d ∣ ns.foldl (λs n=>g (n-lo) s) s↔d ∣ s/\∀n∈ns,d ∣ (n-lo)
 |[],s=>by simp
 |n::r,s=>by
  rw[j8,xA,g_dvd];constructor
  ·rintro⟨⟨h1,h2⟩,h3⟩;refine⟨h2,λm hm=>?_⟩;rcases qk_.mp hm with e|e
   ·rw[e];exact h1
   ·exact h3 m e
  ·rintro⟨h1,h2⟩;exact⟨⟨h2 n ib,h1⟩,λm hm=>h2 m (ia _ hm)⟩
theorem qY{lo:Int}:∀{ns:List Int}{s:Int},0<=s->0<=ns.foldl (λs n=>g (n-lo) s) s
 |[],s,h=>h
 |n::r,s,_=>qY (ns:=r) (pC _ _)
theorem BP{lo hi st d m:Int}(ok:ip lo hi st):(d ∣ (lo-m)/\d ∣ (hi-m)/\d ∣ (lo+st-m))↔d ∣ (lo-m)/\d ∣ st:=by
 constructor
 ·rintro⟨h1,_,h3⟩;refine⟨h1,?_⟩;have:=ki h3 h1;rw[show lo+st-m-(lo-m)=st by omega]at this;exact this
 ·rintro⟨h1,h2⟩;refine⟨h1,?_,?_⟩
  ·by_cases hs:st=0
   ·rw[<-ok.z hs];exact h1
   ·have hp:0<st:=by have:=ok.nn;omega
    have:=md h1 (n6 h2 (ok.p hp).2);rw[show lo-m+(hi-lo)=hi-m by omega]at this;exact this
  ·have:=md h1 h2;rw[show lo-m+st=lo+st-m by omega]at this;exact this
theorem NF{lo hi st lo' hi' st':Int}(ok:ip lo hi st)(ok':ip lo' hi' st'):
  stepOf (if lo'<lo then lo' else lo) [lo,hi,lo+st,lo',hi',lo'+st']=g (g st st') (lo-lo'):=by
 refine wQ (qY (jl 0)) (pC _ _) λd=>?_
 unfold stepOf;rw[xA,g_dvd,g_dvd];have key:∀m:Int,(m=lo\/m=lo')->((d ∣ (0:Int)/\∀n∈[lo,hi,lo+st,lo',hi',lo'+st'],d ∣ (n-m))↔(d ∣ st/\d ∣ st')/\d ∣ (lo-lo')):=by
  intro m hm;have r1:=@BP lo hi st d m ok;have r2:=@BP lo' hi' st' d m ok';constructor
  ·rintro⟨_,h⟩;have a1:=r1.mp ⟨h lo (by simp),h hi (by simp),h (lo+st) (by simp)⟩;have a2:=r2.mp ⟨h lo' (by simp),h hi' (by simp),h (lo'+st') (by simp)⟩;refine⟨⟨a1.2,a2.2⟩,?_⟩;have:=ki a1.1 a2.1;rw[show lo-m-(lo'-m)=lo-lo' by omega]at this;exact this
  ·rintro⟨⟨h1,h2⟩,h3⟩;have b1:d ∣ (lo-m):=by
    rcases hm with e|e
    ·rw[e,ma];exact jk _
    ·rw[e];exact h3
   have b2:d ∣ (lo'-m):=by
    rcases hm with e|e
    ·rw[e];have:=Int.dvd_neg.mpr h3;rw[show -(lo-lo')=lo'-lo by omega]at this;exact this
    ·rw[e,ma];exact jk _
   have a1:=r1.mpr ⟨b1,h1⟩;have a2:=r2.mpr ⟨b2,h2⟩;refine⟨jk _,λn hn=>?_⟩;simp only[qk_,fb,or_false]at hn;rcases hn with e|e|e|e|e|e<;>rw[e]
   ·exact a1.1
   ·exact a1.2.1
   ·exact a1.2.2
   ·exact a2.1
   ·exact a2.2.1
   ·exact a2.2.2
 split
 ·exact key lo' (.inr rfl)
 ·exact key lo (.inl rfl)
theorem BU{lo hi st:Int}(ok:ip lo hi st):lo<=hi/\lo+st<=hi:=by
 refine⟨ok.le,?_⟩;by_cases hs:st=0
 ·rw[hs,<-ok.z hs];omega
 ·have hp:0<st:=by have:=ok.nn;omega
  have:=ok.p hp;have:=Int.le_of_dvd (by omega) this.2;omega
theorem HX(a b:Int):g a b=g b a:=by unfold g;rw[Int.gcd_comm]
theorem GQ(a b:Int):g a (-b)=g a b:=by unfold g;rw[Int.gcd_neg]
noncomputable abbrev R3:=Int×Int×Int
noncomputable def Ok(a:R3):Prop:=ip a.1 a.2.1 a.2.2
noncomputable def joinR(a b:R3):R3:=(if b.1<a.1 then b.1 else a.1,if b.2.1 > a.2.1 then b.2.1 else a.2.1,g (g a.2.2 b.2.2) (a.1-b.1))
structure Sub (b a:R3):Prop where
 lo:a.1<=b.1
 hi:b.2.1<=a.2.1
 far:a.2.2 ∣ (b.1-a.1)
 st:a.2.2 ∣ b.2.2
theorem M_(a b:R3):joinR a b=joinR b a:=by
 unfold joinR;have h1:(if b.1<a.1 then b.1 else a.1)=(if a.1<b.1 then a.1 else b.1):=by split<;>split<;>omega
 have h2:(if b.2.1 > a.2.1 then b.2.1 else a.2.1)=(if a.2.1 > b.2.1 then a.2.1 else b.2.1):=by split<;>split<;>omega
 rw[h1,h2,HX a.2.2 b.2.2,show a.1-b.1 = -(b.1-a.1) by omega,GQ]
theorem Di{a b:R3}:Sub a (joinR a b):=by
 have h:=(g_dvd (d:=g (g a.2.2 b.2.2) (a.1-b.1))).mp (kj _);have h2:=g_dvd.mp h.1;refine⟨?_,?_,?_,h2.1⟩
 ·show(if b.1<a.1 then b.1 else a.1)<=a.1;split<;>omega
 ·show a.2.1<=(if b.2.1 > a.2.1 then b.2.1 else a.2.1);split<;>omega
 ·show g (g a.2.2 b.2.2) (a.1-b.1) ∣ (a.1-(if b.1<a.1 then b.1 else a.1));split
  ·exact h.2
  ·rw[ma];exact jk _
theorem Mc{a b:R3}:Sub b (joinR a b):=by
 rw[M_];exact Di
theorem Na{a b:R3}(ha:Ok a)(hb:Ok b){m M:Int}(hm:m∈[a.1,a.2.1,a.1+a.2.2,b.1,b.2.1,b.1+b.2.2])(hm':∀x∈[a.1,a.2.1,a.1+a.2.2,b.1,b.2.1,b.1+b.2.2],m<=x)
  (hM:M∈[a.1,a.2.1,a.1+a.2.2,b.1,b.2.1,b.1+b.2.2]) (hM':∀x∈[a.1,a.2.1,a.1+a.2.2,b.1,b.2.1,b.1+b.2.2],x<=M):
  (m,M,stepOf m [a.1,a.2.1,a.1+a.2.2,b.1,b.2.1,b.1+b.2.2])=joinR a b:=by
 have ta:=BU ha;have tb:=BU hb;have na:=ha.nn;have nb:=hb.nn;have e1:m=if b.1<a.1 then b.1 else a.1:=by
  have y1:=hm' a.1 (by simp);have y2:=hm' b.1 (by simp);simp only[qk_,fb,or_false]at hm;split<;>omega
 have e2:M=if b.2.1 > a.2.1 then b.2.1 else a.2.1:=by
  have y1:=hM' a.2.1 (by simp);have y2:=hM' b.2.1 (by simp);simp only[qk_,fb,or_false]at hM;split<;>omega
 have e3:=NF ha hb;rw[<-e1]at e3;unfold joinR;rw[e3,<-e1,<-e2]
end GcdM
namespace L2
open PySem PySem.Spec PyProof.Rows WordM
theorem KF{x y:Str}:jg x y=true↔∃r,cs x=cs y++r:=by
 unfold jg;rw[StrLaws.subAt_eq,i6,decide_eq_true_iff,p5,beq_iff_eq,WordM.len,WordM.len];constructor
 ·rintro⟨h1,h2⟩;have h2:(cs x).take (cs y).length=cs y:=h2;exact⟨(cs x).drop (cs y).length,(qy (cs y).length (cs x)).symm.trans (by rw[h2])⟩
 ·rintro⟨r,e⟩;show _/\(cs x).take _=_;rw[e];exact⟨by rw[b8];omega,by rw[List.take_left'];rfl⟩
theorem gI{x y:Str}{r:List Nat}(e:cs x=cs y++r):cs (aZ x y)=r:=by
 have hl:x.length=(cs y).length+r.length:=by rw[WordM.len,e,b8]
 unfold aZ;rw[PyProof.Rows.slice_from_eq (b:=(x.length:Int)) (by omega) (by rw[hl,WordM.len];omega) rfl];show((cs x).drop _).take _=r;rw[hl,WordM.len y,e,show(((cs y).length:Nat):Int).toNat=(cs y).length by omega,List.drop_left,mr];omega
theorem yf{a b:Str}(h:cs a<cs b):a≠b:=λe=>by rw[e]at h;exact qt _ h
theorem sG:∀{ys xs:List Str},fE xs->fE ys->(∀x∈xs,x∈ys)->xs.Sublist ys
 |[],xs,_,_,h=>by
  cases xs with
  |nil=>exact .slnil
  |cons x xs=>exact absurd (h x (.head _)) (by simp)
 |y::ys,[],_,_,_=>List.nil_sublist _
 |y::ys,x::xs,hx,hy,h=>by
  have hx':=List.pairwise_cons.mp hx;have hy':=List.pairwise_cons.mp hy;by_cases e:x=y
  ·subst e;refine List.Sublist.cons_cons x (sG hx'.2 hy'.2 λz hz=>?_);rcases qk_.mp (h z (.tail _ hz)) with q|q
   ·exact absurd q.symm (yf (hx'.1 z hz))
   ·exact q
  ·have hxy:x∈ys:=(qk_.mp (h x (.head _))).resolve_left e;have yx:cs y<cs x:=hy'.1 x hxy;refine List.Sublist.cons y (sG hx hy'.2 λz hz=>?_);rcases qk_.mp (h z hz) with q|q
   ·subst q;rcases qk_.mp hz with q|q
    ·exact absurd q.symm e
    ·exact absurd (List.lt_trans yx (hx'.1 z q)) (qt _)
   ·exact q
theorem Jc:fE MK:=by unfold fE;decide +kernel
theorem sort_set_mem{ss:List Str}{x:Str}:x∈bF (aN ss)↔x∈ss:=(fU _).mem_iff.trans (dM ss x)
theorem iC(ss:List Str):fE (bF (aN ss)):=Cr (eI ss)
end L2
namespace L2
open PySem PySem.Spec PyProof.Rows PySem.SeqAt
section
variable{X:Cx}{F:Fm}
noncomputable def yk(P:Program)(w:World)(K:W.Frag):List V->Hp->VK->Prop:=λxs H Q=>∃(p:Addr) (ss:List Str),xs=[.ref p]/\cu K H p (ss.map V.str)/\ss.length<4000/\∀a:Addr,H a=none->Q (.ref a) (aw H a (eR P w a (aN ss)))
noncomputable def AZ(ss:List Str):Str:=tupleText (ss.map reprText)
noncomputable def Hb:Pn:=λTs Q=>(∃b:Bool,Ts=[bT b]/\Q (sT (if b then "True" else "False")))\/∃ss:List Str,Ts=[.seq true (ss.map sT)]/\(∀s∈ss,(reprText s).length<=1000)/\(AZ ss).length<=100000/\Q (sT (AZ ss))
theorem BN(hg:X.A.guards=some [])(hu:X.A.units+16<cLine):iO X (.builtin "repr") Hb:=⟨_,call_reprB.or (Mu hg hu),λxs Ts H Q QQ vx h k=>by
 rcases h with⟨b,rfl,q⟩|⟨ss,rfl,hs,hl,q⟩
 ·obtain⟨x,rfl,v⟩:=dW vx;obtain⟨rfl,_⟩:=v.leafI;exact .inl ⟨b,rfl,k _ _ _ (.flat rfl) q⟩
 ·obtain⟨x,rfl,v⟩:=dW vx;obtain⟨a,ys,rfl,hq,z,p⟩:=v.seqI;rw[iX p]at hq;have e1:(ss.map λs=>Rp.lf (.str s)).map Rp.v=ss.map V.str:=by rw[cv];rfl
  have e2:(ss.map λs=>Rp.lf (.str s)).map Rp.t=ss.map reprText:=by rw[cv];rfl
  refine .inr (.inr ⟨a,ss.map λs=>.lf (.str s),rfl,by rw[e1];exact hq,λi hi=>?_,λi hi=>?_,by rw[e2];exact iK hl,by rw[e2];exact k _ _ _ (.flat rfl) q⟩)
  ·obtain⟨s,hs',rfl⟩:=qd_.mp hi;show(reprText s).length<=100000;have:=hs s hs';omega
  ·obtain⟨s,hs',rfl⟩:=qd_.mp hi
   exact λz=>nomatch z⟩
end
end L2
namespace L2
open PySem PySem.Spec PyProof.Rows WordM
section
variable{X:Cx}{F:Fm}{pos p:Pos}{e a b elt iter:Expr}{es ifs:List Expr}{x:Str}{u ua ub ue:UT}{ut:gg}{ui:g5}{tf:d5}{sc scope:Scope}{XN N:List Str}{fr:List Nat}
theorem aL{k m:Nat}{ps:List Str}{psp:bf}(G:ae X.prog X.w X.K X.mg X.base k x ps psp)(hr:br m X.A)(ha:UA X F (e::es) ut)(hm:k<=m:=by omega)(hg:Gl X x:=by exact rfl)(hdb:(x==("__debug__":Str))=false:=by decide)
  (hst:eX e=false:=by rfl) (hpl:(backTo pos (starEach es X.env)).any (·.1)=false:=by rfl):UE X F (.Call (.Name x p) (e::es) [] pos) (mF psp ut):=GI G (hr.mono hm) hg ha hdb hst hpl
theorem bC(i:Nat){pos':Pos}(hN:X.N.Nodup)(he:UE X F e u)(hi:X.N[i]?=some x:=by rfl)(hx:kz X.env.scope x:=by first|exact Or.inl rfl|exact Or.inr rfl)(hs:swapsWith e (some (.Name x pos')) pos.line X.env=pure false:=by rfl)(hf:X.fn x=true\/X.env.scope.names.lookup x=some .local:=by first|exact .inl rfl|exact .inr rfl|assumption):
  US X F (.Assign [.Name x pos'] e pos) (uP i u):=JC hN hi hx he hs hf
theorem qH(i:Nat){ul:g5}{pos':Pos}(hN:X.N.Nodup)(he:UL X F e ul)(hi:X.N[i]?=some x:=by rfl)(hx:kz X.env.scope x:=by first|exact Or.inl rfl|exact Or.inr rfl)(hs:swapsWith e (some (.Name x pos')) pos.line X.env=pure false:=by rfl)(hf:X.fn x=true\/X.env.scope.names.lookup x=some .local:=by first|exact .inl rfl|exact .inr rfl|assumption):
  US X F (.Assign [.Name x pos'] e pos) (uR i ul):=JB hN hi hx he hs hf
theorem cO{op:CmpOp}{r:P2}(ho:b7 X (compareOp op) r)(ha:UE X F a ua)(hb:UE X F b ub)(hm:behindInMarks op b=false:=by exact nR _):UB X F (.Compare a [op] [b] pos) (uB (iu r ua ub)):=yY ho ha hb hm
theorem cP{op:CmpOp}{r:P2}(ho:iW X (compareOp op) r)(ha:UE X F a ua)(hb:UE X F b ub)(hm:behindInMarks op b=false:=by exact nR _):UE X F (.Compare a [op] [b] pos) (iu r ua ub):=Jz ho ha hb hm
structure Cq (X:Cx) (sc scope:Scope) (XN N:List Str) (fr:List Nat) (x:Str) (iter:Expr):Prop where
 hc:X.calm=true:=by rfl
 k1:scope.kind=.function:=by rfl
 k2:∀y∈scope.names,y.2≠.cell:=by decide +kernel
 k3:∀y∈scope.names,y.2=.free->sc.names.lookup y.1=some .cell\/sc.names.lookup y.1=some .free:=by decide +kernel
 k4:∀y∈scope.names,y.2=.local->scope.names.lookup y.1=some .local:=by decide +kernel
 k5:N.drop 1=fr.filterMap λi=>XN[i]?:=by rfl
 k6:∀i∈fr,i<XN.length:=by decide +kernel
 k7:1<=N.length:=by decide
 k8:∀x∈N.drop 1,scope.names.lookup x=some .free:=by decide +kernel
 nd:fr.Nodup:=by decide
 nN:N.Nodup:=by decide +kernel
 h0:N[0]?=some x:=by rfl
 hl:∀cl C fp s H,kz (cN X N scope cl C fp s H).env.scope x:=by intros;first|exact Or.inl rfl|exact Or.inr rfl
 hfn:∀cl C fp s H,(cN X N scope cl C fp s H).fn x=true\/(cN X N scope cl C fp s H).env.scope.names.lookup x=some .local:=by intros;first|exact .inl rfl|exact .inr rfl
 hs:∀x,foldedSetIterable iter X.env x=pure x:=by intro _;rfl
 hsc:X.env.scope=sc:=by rfl
 hxn:X.N=XN:=by rfl
section
variable{z:Str}{pos' spos:Pos}(i:Nat)(hN:X.N.Nodup)(hi:UI X F (.Name x p) iter ui)(hf:∀cl C fp s H,UF (cN X N scope cl C fp s H) F ifs tf)(he:∀cl C fp s H,UE (cN X N scope cl C fp s H) F elt ue)
include hi hf he
theorem gK(c:Cq X sc scope XN N fr x iter:=by exact {}):UL X F (.ListComp elt [⟨.Name x p,iter,ifs,0⟩] scope pos) (mE 1 fr ui (gN 0) tf ue):=
 KO c.hc ⟨c.k1,c.k2,c.k3,c.k4,c.k5,c.k6,c.k7,c.k8⟩ c.nd hi (λcl C fp s H=>eG 0 (by decide) c.nN c.h0 (c.hl cl C fp s H) (c.hfn cl C fp s H)) hf he c.hs c.hsc c.hxn
include hN
theorem iP(c:Cq X sc scope XN N fr x iter:=by exact {})(hz:X.N[i]?=some z:=by rfl)(hzl:kz X.env.scope z:=by first|exact Or.inl rfl|exact Or.inr rfl)
  (hsw:swapsWith (.ListComp elt [⟨.Name x p,iter,ifs,0⟩] scope pos) (some (.Name z pos')) spos.line X.env=pure true:=by rfl)
  (hf':X.fn z=true\/X.env.scope.names.lookup z=some .local:=by first|exact .inl rfl|exact .inr rfl|assumption):US X F (.Assign [.Name z pos'] (.ListComp elt [⟨.Name x p,iter,ifs,0⟩] scope pos) spos) (uP i (uL (mE 1 fr ui (gN 0) tf ue))):=
 KQ c.hc hN hz hzl ⟨c.k1,c.k2,c.k3,c.k4,c.k5,c.k6,c.k7,c.k8⟩ c.nd hi (λcl C fp s H=>eG 0 (by decide) c.nN c.h0 (c.hl cl C fp s H) (c.hfn cl C fp s H)) hf he hsw hf' c.hs c.hsc c.hxn
end
theorem dI(hi:UI X F (.Name x p) iter ui)(he:∀cl C fp s H,UE (cN X N scope cl C fp s H) F elt ue)(c:Cq X sc scope XN N fr x iter:=by exact {}):UL X F (.ListComp elt [⟨.Name x p,iter,[],0⟩] scope pos) (mE 1 fr ui (gN 0) zT ue):=gK hi (λ_ _ _ _ _=>lX) he c
theorem aH{m:Nat}(hr:br m X.A)(ha:UE X F a ua)(hb:UE X F b ub)(hs:tF b:=by intro _ _;rfl):UE X F (.Subscript a b pos) (iu p7 ua ub):=GJ (Hf hr.units) ha hb hs
theorem bD{m:Nat}(hr:br m X.A)(ha:UE X F a ua)(hb:UE X F b ub):UB X F (.Compare a [.Eq] [b] pos) (uB (iu uo ua ub)):=yY (fP hr.units) ha hb (nR _)
theorem oD{m:Nat}(hr:br m X.A)(ha:UE X F a ua)(hb:UE X F b ub):UB X F (.Compare a [.NotEq] [b] pos) (uB (iu DZ ua ub)):=yY (Hg hr.units) ha hb (nR _)
end
end L2
namespace L2
open PySem
namespace Lay
noncomputable def wm(mask:Nat)(i:Nat):Nat:=(i*5+1) % (mask+1)
noncomputable def uq(mask:Nat):Nat->Nat->Nat
 |0,i=>i
 |k+1,i=>uq mask k (wm mask i)
noncomputable def A7(mask:Nat):Bool:=(List.range (mask+1)).all λi=>(List.range (mask+1)).all λj=>(List.range (mask+1)).any λk=>uq mask k i==j
noncomputable def Cyc(mask:Nat):Prop:=∀i j,i<=mask->j<=mask->∃k,k<=mask/\uq mask k i=j
theorem tT{mask:Nat}(h:A7 mask=true):Cyc mask:=λi j hi hj=>by
 unfold A7 at h;have:=qE_.mp (qE_.mp h i (ql1_.mpr (by omega))) j (ql1_.mpr (by omega));obtain⟨k,hk,e⟩:=qA_.mp this;exact⟨k,by have:=ql1_.mp hk;omega,by simpa using e⟩
theorem cyc7:Cyc 7:=tT (by decide +kernel)
theorem Hq:Cyc 15:=tT (by decide +kernel)
theorem Hr:Cyc 31:=tT (by decide +kernel)
theorem Hs:Cyc 63:=tT (by decide +kernel)
noncomputable def lp(mask:Nat):Nat->Nat×Nat->Nat×Nat
 |0,x=>x
 |k+1,x=>lp mask k (SetTable.leap mask x.1 x.2)
theorem AF(mask:Nat):∀(a b:Nat) (x:Nat×Nat),lp mask (a+b) x=lp mask b (lp mask a x)
 |0,b,x=>by rw[Nat.zero_add];rfl
 |a+1,b,x=>by rw[Nat.succ_add];exact AF mask a b _
theorem B9(mask:Nat):∀(k:Nat) (x:Nat×Nat),(lp mask k x).2=x.2 / 32 ^ k
 |0,x=>by simp[lp]
 |k+1,x=>by
  show(lp mask k _).2=_;rw[B9 mask k];show x.2 / 32 / 32 ^ k=_;rw[qr,Nat.pow_succ,og]
theorem ye(mask:Nat):∀(k:Nat) (x:Nat×Nat),x.1<=mask->(lp mask k x).1<=mask
 |0,x,h=>h
 |k+1,x,h=>ye mask k _ (Nat.le_of_lt_succ (oj _ (Nat.succ_pos mask)))
theorem B_(mask:Nat):∀(k i:Nat),lp mask k (i,0)=(uq mask k i,0)
 |0,i=>rfl
 |k+1,i=>by
  show lp mask k (SetTable.leap mask i 0)=_;have:SetTable.leap mask i 0=(wm mask i,0):=by
   unfold SetTable.leap wm;simp
  rw[this,B_ mask k];rfl
theorem JK(h:Int):SetTable.bits h<2 ^ 64:=by
 unfold SetTable.bits;have:=jo h (show(0:Int)<2 ^ 64 by decide);have:=jn h (show(2 ^ 64:Int)≠0 by decide);omega
theorem rm{mask:Nat}(C:Cyc mask){i p j:Nat}(hi:i<=mask)(hp:p<2 ^ 64)(hj:j<=mask):∃n,n<SetTable.turns mask/\(lp mask n (i,p)).1=j:=by
 have e13:lp mask 13 (i,p)=((lp mask 13 (i,p)).1,0):=by
  have:(lp mask 13 (i,p)).2=0:=by
   rw[B9];exact Nat.div_eq_of_lt (dz hp (by decide))
  rw[<-this]
 obtain⟨k,hk,e⟩:=C (lp mask 13 (i,p)).1 j (ye mask 13 _ hi) hj;refine⟨13+k,by unfold SetTable.turns;omega,?_⟩;rw[AF,e13,B_];exact e
theorem CW{mask:Nat}(owner:Array (Option Nat)):∀(fuel i p:Nat),(∃n,n<fuel/\owner.getD (lp mask n (i,p)).1 (some 0)=none)->∃j,SetTable.layClean.free mask owner fuel i p=some j/\owner.getD j (some 0)=none
 |0,i,p,⟨n,h,_⟩=>absurd h (km _)
 |fuel+1,i,p,⟨n,hn,h⟩=>by
  unfold SetTable.layClean.free;cases e:(List.range (SetTable.runEnd mask i+1-i)).find? λk=>(owner.getD (i+k) (some 0)).isNone with
  |some k=>
   have:=n9 e;exact⟨i+k,rfl,by simpa using this⟩
  |none=>
   dsimp only;cases n with
   |zero=>
    have:=qP1_.mp e 0 (ql1_.mpr (by unfold SetTable.runEnd;split<;>omega));have h:owner.getD i (some 0)=none:=h;rw[Nat.add_zero,h]at this;exact absurd rfl this
   |succ n=>exact CW owner fuel _ _ ⟨n,by omega,h⟩
theorem De:∀(l:List (Option Nat)) (j k:Nat),l[j]?=some none->((l.set j (some k)).filterMap id).Perm (k::l.filterMap id)
 |[],j,k,h=>by simp at h
 |x::l,0,k,h=>by
  have:x=none:=by simpa using h
  subst this;simp
 |x::l,j+1,k,h=>by
  have ih:=De l j k (by simpa using h);rw[List.set_cons_succ];cases x with
  |none=>simpa using ih
  |some y=>
   simp only[List.filterMap_cons_some (f:=id) (a:=some y) rfl];exact(ih.cons y).trans (.swap _ _ _)
theorem Cb:∀(l:List (Option Nat)),(l.filterMap id).length<l.length->∃j:Nat,l[j]?=some none
 |[],h=>by simp at h
 |none::l,h=>⟨0,rfl⟩
 |some y::l,h=>by
  obtain⟨j,hj⟩:=Cb l (by simpa using h);exact⟨j+1,by simpa using hj⟩
structure Own (mask k:Nat) (owner:Array (Option Nat)):Prop where
 sz:owner.size=mask+1
 pm:(owner.toList.filterMap id).Perm (List.range k)
theorem LC{mask:Nat}(C:Cyc mask){k:Nat}{owner:Array (Option Nat)}(O:Own mask k owner)(hk:k<=mask)(h:Int):∃j,SetTable.layClean.free mask owner (SetTable.turns mask) (SetTable.bits h % (mask+1)) (SetTable.bits h)=some j/\Own mask (k+1) (owner.setIfInBounds j (some k)):=by
 have len:owner.toList.length=mask+1:=by rw[fc,O.sz]
 obtain⟨j,hj⟩:=Cb owner.toList (by rw[O.pm.length_eq,mi,len];omega);have gd:∀i,owner.getD i (some 0)=none↔owner.toList[i]?=some none:=λi=>by
  rw[sq,h_];cases owner[i]? with
  |none=>simp
  |some x=>simp
 have hjl:j<=mask:=by
  have:=(qB_.mp hj).1;omega
 obtain⟨n,hn,en⟩:=rm C (i:=SetTable.bits h % (mask+1)) (p:=SetTable.bits h) (Nat.le_of_lt_succ (oj _ (Nat.succ_pos mask))) (JK h) hjl;obtain⟨j',ej,hj'⟩:=CW owner (SetTable.turns mask) _ _ ⟨n,hn,by rw[en];exact(gd j).mpr hj⟩;refine⟨j',ej,by rw[Array.size_setIfInBounds,O.sz],?_⟩;rw[Array.toList_setIfInBounds];refine(De _ _ _ ((gd j').mp hj')).trans ((O.pm.cons k).trans ?_);rw[List.range_succ];exact(List.perm_append_singleton k (List.range k)).symm
theorem Bn{mask:Nat}(C:Cyc mask):∀(hs:List Int) (k:Nat) (owner:Array (Option Nat)),Own mask k owner->k+hs.length<=mask+1->∃o',hs.foldl (init:=some (owner,k)) (λacc h=>do
  let (owner,k) <- acc
  let j <- SetTable.layClean.free mask owner (SetTable.turns mask) (SetTable.bits h % (mask+1)) (SetTable.bits h)
  pure (owner.setIfInBounds j (some k),k+1))=some (o',k+hs.length)/\Own mask (k+hs.length) o'
 |[],k,owner,O,_=>⟨owner,rfl,O⟩
 |h::hs,k,owner,O,hl=>by
  rw[iw]at hl;obtain⟨j,ej,O'⟩:=LC C O (by omega) h;obtain⟨o',e,O2⟩:=Bn C hs (k+1) _ O' (by omega);refine⟨o',?_,by rw[iw,show k+(hs.length+1)=k+1+hs.length by omega];exact O2⟩;rw[j8,iw,show k+(hs.length+1)=k+1+hs.length by omega,<-e];congr 1;simp[ej]
theorem Nf{mask:Nat}(C:Cyc mask)(hs:Array Int)(hl:hs.size<=mask):∃o,SetTable.layClean mask hs=some o/\Own mask hs.size o:=by
 have O:Own mask 0 (Array.replicate (mask+1) none):=⟨by simp,by
  have:∀n:Nat,(List.replicate n (none:Option Nat)).filterMap id=[]:=λn=>by
   induction n with
   |zero=>rfl
   |succ n ih=>rw[dg,i9];exact ih
  rw[Array.toList_replicate,this]
  exact .refl _⟩
 obtain⟨o,e,O'⟩:=Bn C hs.toList 0 _ O (by rw[fc];omega);rw[Nat.zero_add,fc]at e O';refine⟨o,?_,O'⟩;unfold SetTable.layClean;rw[<-Array.foldl_toList,e];rfl
theorem L8(mask:Nat)(o:Array (Option Nat))(hz:o.size=mask+1):((List.range (mask+1)).filterMap λj=>(o.getD j none).map (j,·)).map (·.2)=o.toList.filterMap id:=by
 rw[List.map_filterMap];have e:o.toList=(List.range (mask+1)).map λj=>o.getD j none:=by
  apply List.ext_getElem?;intro i;rw[g4];by_cases hi:i<mask+1
  ·rw[List.getElem?_range hi,h_,jh (by omega),Option.map_some];rw[sq,jh (by omega)];rfl
  ·rw[oh (by rw[fc];omega),oh (by rw[mi];omega)];rfl
 rw[e,nr];congr 1;funext j;simp only[Function.comp,id,Option.map_map];cases o.getD j none<;>rfl
theorem laid_ok{mask:Nat}(C:Cyc mask)(f mv:Nat)(ld pl:Bool)(hs:Array Int)(hl:hs.size<=mask):∃t order,SetTable.laid mask f mv ld pl hs=some (t,order)/\order.toList.Perm (List.range hs.size)/\t.fits hs.size=true/\t.mask=mask/\t.dummies=#[]/\t.led=ld/\t.plain=pl:=by
 obtain⟨o,e,O⟩:=Nf C hs hl;unfold SetTable.laid;rw[e];have p:(((List.range (mask+1)).filterMap λj=>(o.getD j none).map (j,·)).map (·.2)).Perm (List.range hs.size):=by rw[L8 mask o O.sz];exact O.pm
 have ln:((List.range (mask+1)).filterMap λj=>(o.getD j none).map (j,·)).length=hs.size:=by
  have:=p.length_eq;rwa[aq,mi]at this
 refine⟨_,_,rfl,by rw[ja];exact p,?_,rfl,rfl,rfl,rfl⟩;unfold SetTable.fits SetTable.fill;simp only[cg,aq,ln];simp[hl]
theorem order_perm{α:Type}(es:Array α){order:Array Nat}(h:order.toList.Perm (List.range es.size)):(order.filterMap (es[·]?)).toList.Perm es.toList:=by
 rw[Array.toList_filterMap];refine(h.filterMap _).trans ?_;have:(List.range es.size).filterMap (es[·]?)=es.toList:=by
  have e:es.toList=(List.range es.size).filterMap λi=>es.toList[i]?:=by
   have:∀l:List α,(List.range l.length).filterMap (λi=>l[i]?)=l:=by
    intro l
    induction l with
    |nil=>rfl
    |cons x l ih=>
     rw[iw,mq,i9,nr];simp only[List.getElem?_cons_zero];congr 1
   have:=this es.toList;rw[fc]at this;exact this.symm
  rw[e];congr 1;funext i;rw[h_]
 rw[this]
theorem above(n:Nat)(h:n<64):Cyc (SetTable.sizeAbove n-1)/\n<SetTable.sizeAbove n/\SetTable.sizeAbove n<=64:=by
 have:∀n<64,(SetTable.sizeAbove n=8\/SetTable.sizeAbove n=16\/SetTable.sizeAbove n=32\/SetTable.sizeAbove n=64)/\n<SetTable.sizeAbove n:=by decide +kernel
 obtain⟨h1,h2⟩:=this n h;refine⟨?_,h2,by omega⟩;rcases h1 with e|e|e|e<;>rw[e]
 ·exact cyc7
 ·exact Hq
 ·exact Hr
 ·exact Hs
end Lay
end L2
namespace L2
open PySem PySem.Spec PyProof.Rows
section
variable{prog:Program}{w:World}{A:Around}{E:Value->Shared->Prop}{s:Shared}{a:Addr}{us:List Str}
noncomputable def tY(es:Array (Int×Value))(laid:Option (SetTable×Array Nat)):Sem (Array (Int×Value)×SetTable):=do
 let some (t,order):=laid|unsupported "internal:set-table-without-room"
 let es':=order.filterMap (es[·]?)
 if es'.size != es.size then unsupported "internal:set-table-lost-an-element"
 pure (es',t)
theorem CL{es:Array (Int×Value)}{t':SetTable}{order:Array Nat}{Q:Array (Int×Value)×SetTable->Shared->Prop}(pm:order.toList.Perm (List.range es.size))
  (h:∀es':Array (Int×Value),es'.toList.Perm es.toList->Q (es',t') s):wpAny (model prog w) A (tY es (some (t',order))) Q E s:=by
 have p:=Lay.order_perm es pm;have sz:(order.filterMap (es[·]?)).size=es.size:=by have:=p.length_eq;rwa[fc,fc]at this
 unfold tY;dsimp only;rw[if_neg (by rw[sz];simp)];exact af (ao (ao (h _ p)))
theorem dc.perm{es es':Array (Int×Value)}{t t':SetTable}(T:dc prog w us es t)(p:es'.toList.Perm es.toList)(ft:t'.fits es'.size=true)(pl:t'.plain=t.plain)(ld:t'.led=t.led):dc prog w us es' t':=by
 obtain⟨vs,hv,pv⟩:=T.tx;obtain⟨vs',hv',pv'⟩:=rN (p.map (·.2)) hv;have sz:es'.size=es.size:=by have:=p.length_eq;simpa using this
 exact⟨T.el.perm p,⟨vs',hv',pv'.trans pv⟩,T.nd,by rw[sz];exact T.lt,ft,by rw[sz,pl];exact T.pl,by rw[ld];exact T.ld⟩
noncomputable def ju(prog:Program)(w:World)(a:Addr)(us:List Str)(h:Heap):Prop:=∃es ep t,h.get? a=some (cG es ep t)/\dc prog w us es t/\(us=[]->t.mask=7)
theorem ju.sets{h:Heap}:ju prog w a us h->bh prog w a us h:=λ⟨es,ep,t,ho,T,_⟩=>⟨es,ep,t,ho,T⟩
theorem B3{k:Nat}{Q:Unit->Shared->Prop}(S:ju prog w a us s.heap)(hk:us.length+k<32)
  (h:∀h' es ep t,Heap.SameBut a s.heap h'->h'.get? a=some (cG es ep t)->dc prog w us es t->(us=[]->Lay.Cyc t.mask/\k<=t.mask)->Q () {s with heap:=h'}):wpAny (model prog w) A (setRoomFor a k) Q E s:=by
 obtain⟨es,ep,t,ho,T,hm⟩:=S;unfold setRoomFor;refine af (gz ho rfl T.fit ?_);dsimp only;have fz:t.place.size=us.length:=by
  have:=T.fit;simp only[SetTable.fits,i6,beq_iff_eq]at this;rw[this.1,T.size]
 cases e:t.roomFor k with
 |none=>
  dsimp only;have es':s={s with heap:=s.heap}:=by cases s;rfl
  rw[es'];refine ao (h _ es ep t (Heap.SameBut.refl a s.heap) ho T λz=>?_);have hm:=hm z;unfold SetTable.roomFor at e;split at e
  ·cases e
  ·rename_i z2;rw[hm];refine⟨Lay.cyc7,?_⟩;unfold SetTable.fill at z2;rw[hm]at z2;omega
 |some wanted=>
  dsimp only;have ew:wanted=(us.length+k)*2:=by
   unfold SetTable.roomFor at e;split at e
   ·injection e with e;rw[<-e,fz]
   ·cases e
  obtain⟨C,lt,le⟩:=Lay.above wanted (by omega);have hz:(es.map (·.1)).size=us.length:=by rw[pb,T.size]
  obtain⟨t',order,e,pm,ft,mk,_,ld,pl⟩:=Lay.laid_ok C t.finger (t.movedTo (SetTable.sizeAbove wanted-1)) t.led t.plain (es.map (·.1)) (by omega);rw[pb]at pm ft;unfold setRelay;refine af (gz ho rfl T.fit ?_);dsimp only;rw[if_neg (by rw[sizeLine_eq];omega)];unfold SetTable.relaid;rw[e];refine af (m:=tY es (some (t',order))) (CL pm λes' p=>?_);have sz:es'.size=es.size:=by have:=p.length_eq;simpa using this
  have T':dc prog w us es' t':=T.perm p (by rw[sz];exact ft) pl ld;refine wpAny_storeSet_of ho rfl (h _ es' (ep+1) t' (Heap.SameBut.update s.heap a _) (fu (Obj.putSet es' t') ho rfl) T' λz=>?_) (fits_of_scanBound T'.lt);rw[mk];exact⟨C,by omega⟩
theorem J8{es:Array (Int×Value)}{ep:Nat}{t:SetTable}{Q:Array (Int×Value)->Shared->Prop}(ho:s.heap.get? a=some (cG es ep t))(T:dc prog w us es t)
  (h:∀(out:Array (Int×Value)) d,out.toList.Perm es.toList->Q out {s with drawn:=d}):wpAny (model prog w) A (setWalk a) Q E s:=by
 have es':s={s with drawn:=s.drawn}:=by cases s;rfl
 unfold setWalk;refine af (gz ho rfl T.fit ?_);dsimp only;refine af (gS ?_);cases hb:cj w with
 |true=>
  rw[if_pos rfl];refine af (wpAny_askSetting (ao ?_));rw[es'];exact h _ _ (oU _ _)
 |false=>
  rw[if_neg b9];split
  ·refine af (vW _ _ _ (by simp) λys d p=>ao ?_);exact h _ d (by rw[ja];exact p)
  ·have hl:t.led=true:=by rw[T.ld,hb];rfl
   have:(!t.led&&decide (es.size > 1))=false:=by rw[hl];rfl
   refine af (m:=(if (!t.led&&decide (es.size > 1))=true then unsupported "set:maker-not-led" else pure PUnit.unit)) ?_;rw[this,if_neg b9];refine ao (ao ?_);rw[es'];exact h _ _ (.refl _)
theorem Lh{o:Addr}{vs:List Str}{Q:Bool->Shared->Prop}(S:bh prog w a us s.heap)(O:bh prog w o vs s.heap)(h:Q true s):wpAny (model prog w) A (setsQuiet [o,a]) Q E s:=by
 unfold setsQuiet;refine af (wpAny_forIn_list _ (λl b s'=>b.1=none/\s'=s/\∀x∈l,x=o\/x=a) _ ?_ ?_ _ _ ⟨rfl,rfl,λx hx=>by simpa using hx⟩)
 ·rintro x rest b s' ⟨hb,rfl,hx⟩;obtain⟨us',es,ep,t,ho,T⟩:∃us',bh prog w x us' s'.heap:=by
   rcases hx x (.head _) with rfl|rfl
   ·exact⟨_,O⟩
   ·exact⟨_,S⟩
  refine af (rD ho T.fit ?_);refine af (PySem.MeetsSeq2.wpAny_forIn_array _ (λl b s''=>b.1=none/\s''=s'/\∀e∈l,e∈es.toList) _ ?_ ?_ _ _ ⟨rfl,rfl,λe he=>he⟩)
  ·rintro⟨hh,v⟩ rest' b' s'' ⟨hb',rfl,he⟩;obtain⟨⟨k,hk,_⟩,_⟩:=T.el (hh,v) (he _ (.head _));obtain⟨tk,ev⟩:=Value.isStrOf_shape (show Value.isStrOf k v=true from hk);subst ev;exact ao ⟨rfl,rfl,λe h=>he e (.tail _ h)⟩
  ·rintro b' s'' ⟨hb',rfl,_⟩;dsimp only;rw[hb'];exact ao ⟨rfl,rfl,λx h=>hx x (.tail _ h)⟩
 ·rintro b s' ⟨hb,rfl,_⟩;dsimp only;rw[hb];exact ao h
theorem Lk{o:Addr}{vs:List Str}{es:Array (Int×Value)}{ep:Nat}{t:SetTable}{Q:Array (Int×Value)->Shared->Prop}(S:bh prog w a us s.heap)(ho:s.heap.get? o=some (cG es ep t))(T:dc prog w vs es t)
  (h:∀(out:Array (Int×Value)) h' d,out.toList.Perm es.toList->Heap.SameBut a s.heap h'->bh prog w a us h'->Q out {s with heap:=h',drawn:=d}):wpAny (model prog w) A (setWalkUnseen o [a] (some a)) Q E s:=by
 have wk:wpAny (model prog w) A (setWalk o) Q E s:=J8 ho T λout d p=>h out s.heap d p (Heap.SameBut.refl a s.heap) S
 unfold setWalkUnseen;refine af (gz ho rfl T.fit ?_);dsimp only;refine af (gS ?_);split
 ·exact wk
 ·rename_i z;have hsz:1<es.size:=by
   apply qq;intro z2;apply z;rw[cm z2,Bool.or_true]
  have hp:t.plain=false:=T.pl.resolve_left (by omega);refine af (Lh S ⟨es,ep,t,ho,T⟩ ?_);rw[if_neg (by simp)];obtain⟨ef,epf,tf,hf,F⟩:=id S;refine af (wpAny_rule ?_);refine af (gz hf rfl F.fit ?_);dsimp only;split
  ·have F':dc prog w us ef {tf with led:=tf.led&&t.led,plain:=tf.plain&&t.plain}:=⟨F.el,F.tx,F.nd,F.lt,F.fit,.inr (by show(tf.plain&&t.plain)=false;rw[hp,me]),by show(tf.led&&t.led)=_;rw[F.ld,T.ld,Bool.and_self]⟩
   refine af (wpAny_storeSet_of hf rfl ?_ (fits_of_scanBound F.lt));have e:∀hp':Heap,({s with heap:=hp'}:Shared)={s with heap:=hp',drawn:=s.drawn}:=λ_=>rfl
   rw[e];exact ao (h _ _ _ (.refl _) (Heap.SameBut.update s.heap a _) ⟨ef,epf+1,_,fu (Obj.putSet ef _) hf rfl,F'⟩)
  ·have e:s={s with heap:=s.heap,drawn:=s.drawn}:=by cases s;rfl
   rw[e];exact ao (h _ _ _ (.refl _) (Heap.SameBut.refl a s.heap) S)
theorem bh.same{h:Heap}{us':List Str}(S:bh prog w a us h)(n:us'.Nodup)(e:∀x,x∈us↔x∈us'):bh prog w a us' h:=by
 obtain⟨es,ep,t,ho,T⟩:=S;obtain⟨vs,hv,pv⟩:=T.tx;exact⟨es,ep,t,ho,T.el,⟨vs,hv,pv.trans ((kh T.nd n).mpr e)⟩,n,T.lt,T.fit,T.pl,T.ld⟩
theorem CK{o:Addr}{vs:List Str}{each:Sem Unit}{Q:Unit->Shared->Prop}(ne:a≠o)(S:ju prog w a us s.heap)(O:bh prog w o vs s.heap)(hl:us.length+vs.length<32)
  (he:∀(s':Shared) (Q':Unit->Shared->Prop),s'.heap.get? o=s.heap.get? o->Q' () s'->wpAny (model prog w) A each Q' E s')
  (h:∀h' d,Heap.SameBut a s.heap h'->ju prog w a (aN (us++vs)) h'->Q () {s with heap:=h',drawn:=d}):wpAny (model prog w) A (setMerge a o each) Q E s:=by
 obtain⟨es,ep,t,ho,T⟩:=id O;have e0:∀s:Shared,s={s with heap:=s.heap,drawn:=s.drawn}:=λs=>by cases s;rfl
 unfold setMerge;rw[if_neg (by simpa using ne)];refine af (gz ho rfl T.fit ?_);dsimp only;by_cases z0:es.size=0
 ·rw[if_pos (by simpa[sj]using z0)];have ev:vs=[]:=kl (by rw[<-T.size];exact z0);subst ev;rw[e0 s];refine ao (h _ _ (Heap.SameBut.refl a s.heap) ?_);obtain⟨es1,ep1,t1,h1,T1,m1⟩:=S;have en:∀x,x∈us↔x∈aN (us++[]):=λx=>by rw[dM,i8]
  obtain⟨vs1,hv1,pv1⟩:=T1.tx;refine⟨es1,ep1,t1,h1,⟨T1.el,⟨vs1,hv1,pv1.trans ((kh T1.nd (eI _)).mpr en)⟩,eI _,T1.lt,T1.fit,T1.pl,T1.ld⟩,λz=>m1 ?_⟩;refine qX2_.mpr λx hx=>?_
  have:=(en x).mp hx;rw[z]at this;exact nomatch this
 rw[if_neg (by simpa[sj]using z0)];have hp:t.plain=false:=T.pl.resolve_left z0;have hv0:vs≠[]:=λz=>z0 (by rw[T.size,z];rfl)
 have nn:aN (us++vs)≠[]:=λz=>by
  obtain⟨x,hx⟩:=ic _ hv0;have:=(dM (us++vs) x).mpr (de _ hx);rw[z]at this;exact nomatch this
 have full:∀h',bh prog w a (aN (us++vs)) h'->ju prog w a (aN (us++vs)) h':=λh' ⟨es,ep,t,ho,T⟩=>⟨es,ep,t,ho,T,λz=>absurd z nn⟩
 refine af (B3 S (by rw[T.size];exact hl) λh1 es1 ep1 t1 b1 g1 T1 m1=>?_);have ho1:h1.get? o=some (cG es ep t):=by rw[b1.2 o (Ne.symm ne)];exact ho
 refine af (gz (s:={s with heap:=h1}) g1 rfl T1.fit ?_);dsimp only;have fz:t1.place.size=us.length:=by
  have:=T1.fit;simp only[SetTable.fits,i6,beq_iff_eq]at this;rw[this.1,T1.size]
 have nil:t1.fill=0->us=[]:=λz=>kl (by unfold SetTable.fill at z;omega)
 cases er:t1.road t with
 |slotForSlot=>
  dsimp only;have f0:t1.fill=0:=by
   unfold SetTable.road at er;split at er
   ·cases er
   ·rename_i q;simpa using q
  have eu:=nil f0;subst eu;have T2:dc prog w (aN ([]++vs)) es {t with finger:=t1.finger,led:=t1.led&&t.led,moves:=t1.moves,plain:=t1.plain&&t.plain}:=by
   obtain⟨vs1,hv1,pv1⟩:=T.tx;exact⟨T.el,⟨vs1,hv1,pv1.trans ((kh T.nd (eI _)).mpr λx=>by rw[dM,gi])⟩,eI _,T.lt,T.fit,.inr (by show(t1.plain&&t.plain)=false;rw[hp,me]),by show(t1.led&&t.led)=_;rw[T1.ld,T.ld,Bool.and_self]⟩
  refine wpAny_storeSet_of g1 rfl ?_ (fits_of_scanBound T.lt);exact h _ s.drawn (b1.trans (Heap.SameBut.update h1 a _)) (full _ ⟨es,ep1+1,_,fu (Obj.putSet es _) g1 rfl,T2⟩)
 |clean=>
  dsimp only;have f0:t1.fill=0:=by
   unfold SetTable.road at er;split at er
   ·cases er
   ·rename_i q;simpa using q
  have eu:=nil f0;subst eu;obtain⟨C,hk⟩:=m1 rfl;obtain⟨t',order,e,pm,ft,mk,_,ld,pl⟩:=Lay.laid_ok C t1.finger t1.moves (t1.led&&t.led) (t1.plain&&t.plain) (es.map (·.1)) (by rw[pb];exact hk);rw[pb]at pm ft;rw[e];refine af (m:=tY es (some (t',order))) (CL pm λes' p=>?_);have sz:es'.size=es.size:=by have:=p.length_eq;simpa using this
  have T2:dc prog w (aN ([]++vs)) es' t':=by
   obtain⟨vs1,hv1,pv1⟩:=T.tx;obtain⟨vs',hv',pv'⟩:=rN (p.map (·.2)) hv1;exact⟨T.el.perm p,⟨vs',hv',(pv'.trans pv1).trans ((kh T.nd (eI _)).mpr λx=>by rw[dM,gi])⟩,eI _,by rw[sz];exact T.lt,by rw[sz];exact ft,.inr (by rw[pl,hp,me]),by rw[ld,T1.ld,T.ld,Bool.and_self]⟩
  refine wpAny_storeSet_of g1 rfl ?_ (fits_of_scanBound T2.lt);exact h _ s.drawn (b1.trans (Heap.SameBut.update h1 a _)) (full _ ⟨es',ep1+1,_,fu (Obj.putSet es' _) g1 rfl,T2⟩)
 |oneByOne=>
  dsimp only;refine af (Lk (s:={s with heap:=h1}) ⟨es1,ep1,t1,g1,T1⟩ ho1 T λout h2 d p b2 S2=>?_);have ho2:h2.get? o=some (cG es ep t):=by rw[b2.2 o (Ne.symm ne)];exact ho1
  have b12:=b1.trans b2;refine af (PySem.MeetsSeq2.wpAny_forIn_array _ (λl _ s'=>∃(us':List Str) (h':Heap),s'={s with heap:=h',drawn:=d}/\Heap.SameBut a s.heap h'/\bh prog w a us' h'/\(∀e∈l,e∈es.toList)/\us'.length+l.length<32/\∀y,(y∈us'\/∃e∈l,(PySem.strKind prog w).is y e.2=true)↔(y∈us\/y∈vs)) _ ?_ ?_ _ _ ?_)
  ·rintro⟨hh,v⟩ rest b s' ⟨us',h',rfl,b',S',hm,hlen,hy⟩;obtain⟨⟨k,hk,eh⟩,_⟩:=T.el (hh,v) (hm _ (.head _));obtain⟨tk,ev⟩:=Value.isStrOf_shape (show Value.isStrOf k v=true from hk);subst ev;have eh:hh=(PySem.strKind prog w).hash k:=eh;subst eh;rw[iw]at hlen;have hb4:scanBound=4096:=rfl;refine af (i5 (xR (s:={s with heap:=h',drawn:=d}) S' (by omega) λbb h3 b3 S3=>?_));have b13:=b'.trans b3;have ho3:h3.get? o=some (cG es ep t):=by rw[b13.2 o (Ne.symm ne)];exact ho
   refine af (he _ _ (by show h3.get? o=s.heap.get? o;rw[ho3,ho]) ?_);refine af (gz (s:={s with heap:=h3,drawn:=d}) ho3 rfl T.fit ?_);rw[if_neg (by simp)];refine ao ⟨dY us' k,h3,rfl,b13,S3,λe q=>hm e (.tail _ q),?_,λy=>?_⟩
   ·have:(dY us' k).length<=us'.length+1:=by
     unfold dY;split
     ·omega
     ·rw[b8];exact bp _
    omega
   ·rw[B1,<-hy y]
    have isk:(PySem.strKind prog w).is y (.str k tk)=true↔y=k:=⟨λq=>by
     obtain⟨u,q⟩:=Value.isStrOf_shape (show Value.isStrOf y (.str k tk)=true from q);injection q with q1 q2
     exact q1.symm,λq=>by subst q;exact hk⟩
    constructor
    ·rintro ((q|q)|⟨e,q1,q2⟩)
     ·exact .inl q
     ·exact .inr ⟨_,.head _,isk.mpr q⟩
     ·exact .inr ⟨e,.tail _ q1,q2⟩
    ·rintro (q|⟨e,q1,q2⟩)
     ·exact .inl (.inl q)
     ·rcases qk_.mp q1 with rfl|q1
      ·exact .inl (.inr (isk.mp q2))
      ·exact .inr ⟨e,q1,q2⟩
  ·rintro b s' ⟨us',h',rfl,b',S',_,_,hy⟩;refine ao (h h' d b' (full _ (S'.same (eI _) λx=>?_)));rw[dM,qr_,<-hy x];exact⟨.inl,λq=>q.elim id λ⟨_,q,_⟩=>nomatch q⟩
  ·refine⟨us,h2,rfl,b12,S2,λe q=>p.mem_iff.mp q,?_,λy=>?_⟩
   ·have h1:=p.length_eq;have h2:es.toList.length=vs.length:=by rw[fc,T.size]
    omega
   ·rw[T.mem y];exact⟨λq=>q.imp id λ⟨e,q1,q2⟩=>⟨e,p.mem_iff.mp q1,q2⟩,λq=>q.imp id λ⟨e,q1,q2⟩=>⟨e,p.mem_iff.mpr q1,q2⟩⟩
end
theorem x9:entryFor table "set.__or__"=some Builtin.«frozenset.__or__»:=entryFor_alias (id':="frozenset.__or__") (by kernel_rfl) rfl (by decide +kernel) (by kernel_rfl)
section
variable{prog:Program}{w:World}{A:Around}{E:Value->Shared->Prop}{s:Shared}{a:Addr}{us:List Str}
open PySem.Builtin.Frozenset in
noncomputable def pQ(id:String)(l:Addr)(r:Value):Sem Value:=do
 let result <- copyOf l
 if r != .ref l then holding [result] (updateFrom id (<- addrOf result) r)
 return result
open PySem.Builtin.Frozenset in
noncomputable def Ow(args:Args):Sem Fin:=do
 let (self,other) <- slot1 "__or__" args
 let (l,r):=if false then(other,self) else(self,other)
 if !(<- isAnySet l <&&> isAnySet r) then rule s!"frozenset.{"__or__"}.declined";return <- ret .notImplemented
 ret (<- pQ s!"frozenset.{"__or__"}" (<- addrOf l) r)
theorem yg:Builtin.«frozenset.__or__»=Ow:=rfl
theorem mQ{Q:Bool->Shared->Prop}(ht:s.TypeIs (.ref a) "set")(h:Q true s):wpAny (model prog w) A (Builtin.Frozenset.isAnySet (.ref a)) Q E s:=by
 unfold Builtin.Frozenset.isAnySet;refine af (wpAny_isInstance (T:="set") (b:=true) ht pS ?_);exact ao h
theorem bh.ty{h:Heap}(S:bh prog w a us s.heap):s.TypeIs (.ref a) "set":=by
 obtain⟨es,ep,t,ho,T⟩:=S;exact⟨_,ho,rfl⟩
theorem J5{Q:Value->Shared->Prop}(S:bh prog w a us s.heap)(hl:us.length<32)
  (h:∀h' d,ju prog w s.heap.objs.size (aN us) h'->s.heap.objs.size<h'.objs.size->(∀b o,b<s.heap.objs.size->s.heap.get? b=some o->h'.get? b=some o)->Q (.ref s.heap.objs.size) {s with heap:=h',drawn:=d}):
  wpAny (model prog w) A (Builtin.Frozenset.copyOf a) Q E s:=by
 have ht:s.TypeIs (.ref a) "set":=bh.ty (h:=s.heap) S;obtain⟨es,ep,t,ho,T⟩:=id S;have la:a<s.heap.objs.size:=b5 ho;unfold Builtin.Frozenset.copyOf Builtin.Frozenset.baseOf newSet;refine af (af (wpAny_isInstance (T:="set") (b:=true) ht pS (ao ?_)));rw[if_pos rfl];refine af (af (gS ?_));dsimp only;refine gh ?_ (by size_fits);refine af (ao ?_);have g0:(s.heap.push (cG #[] 0 (.fresh 0 0 (!cj w)))).get? s.heap.objs.size=some (cG #[] 0 (.fresh 0 0 (!cj w))):=cy _ rfl;have F0:ju prog w s.heap.objs.size [] (s.heap.push (cG #[] 0 (.fresh 0 0 (!cj w)))):=⟨#[],0,.fresh 0 0 (!cj w),g0,⟨λe he=>by simp at he,⟨[],.nil,.refl _⟩,mh,by decide,by simp[SetTable.fits,SetTable.fresh,SetTable.fill],.inl rfl,rfl⟩,λ_=>rfl⟩
 have S1:bh prog w a us (s.heap.push (cG #[] 0 (.fresh 0 0 (!cj w)))):=⟨es,ep,t,b6 _ ho,T⟩
 refine af (CK (s:={s with heap:=s.heap.push (cG #[] 0 (.fresh 0 0 (!cj w)))}) (j0 la) F0 S1 (by simpa using hl) (λs' Q' _ q=>ao q) λh' d b F=>?_);rw[gi]at F;refine ao (h h' d F (by rw[b.1,d_];omega) λx o hx e=>?_);rw[b.2 x (cz hx)];exact b6 _ e
theorem ID{o:Addr}{vs:List Str}{Q:Value->Shared->Prop}(ne:o≠a)(S:bh prog w a us s.heap)(O:bh prog w o vs s.heap)(hl:us.length+vs.length<32)
  (h:∀h' d,bh prog w s.heap.objs.size (aN (us++vs)) h'->(∀b o,b<s.heap.objs.size->s.heap.get? b=some o->h'.get? b=some o)->Q (.ref s.heap.objs.size) {s with heap:=h',drawn:=d}):
  wpAny (model prog w) A (binaryOp .BitOr (.ref a) (.ref o)) Q E s:=by
 have ht:s.TypeIs (.ref a) "set":=bh.ty (h:=s.heap) S;have ht2:s.TypeIs (.ref o) "set":=bh.ty (h:=s.heap) O;obtain⟨es,ep,t,ho,T⟩:=id O;refine wpAny_binaryOp_same (op:=.BitOr) (T:="set") ht ht2 F.fills_set_or F.slot_set_or (fj F.slot_set_or ht x9 ?_ (F.args_set_or_2 _ _));rw[yg]
 show wpAny _ _ (do
  if !(<- Builtin.Frozenset.isAnySet (.ref a) <&&> Builtin.Frozenset.isAnySet (.ref o)) then rule s!"frozenset.{"__or__"}.declined";return <- ret .notImplemented
  ret (<- pQ s!"frozenset.{"__or__"}" (<- Builtin.Frozenset.addrOf (.ref a)) (.ref o))) _ _ _
 refine af (af (mQ ht ?_));refine mQ ht2 ?_;rw[if_neg (by simp)];refine af (ao ?_);have lo:o<s.heap.objs.size:=b5 ho;unfold pQ;refine af (af (J5 S (by omega) λh1 d1 F1 z1 k1=>?_));rw[if_pos (by simpa using ne)];have ho1:h1.get? o=some (cG es ep t):=k1 o _ lo ho;have ht3:Shared.TypeIs {s with heap:=h1,drawn:=d1} (.ref o) "set":=⟨_,ho1,rfl⟩
 unfold Builtin.Frozenset.updateFrom;refine af (ao (af (i5 (af (mQ ht3 ?_)))));rw[if_pos rfl];refine af (ao ?_);unfold Builtin.Frozenset.merge;refine af (wpAny_setEpoch_of (s:={s with heap:=h1,drawn:=d1}) ho1 rfl T.fit ?_);have ln:(aN us).length<=us.length:=by
  have:∀(l m:List Str),(l.foldl dY m).length<=m.length+l.length:=by
   intro l
   induction l with
   |nil=>exact λm=>bp _
   |cons x l ih=>
    intro m;rw[j8,iw];refine bu (ih _) ?_;unfold dY;split
    ·omega
    ·rw[b8,kr];omega
  have:=this us [];simpa[aN]using this
 refine CK (s:={s with heap:=h1,drawn:=d1}) (j0 lo) F1 ⟨es,ep,t,ho1,T⟩ (by omega) (λs' Q' e q=>?_) λh2 d2 b2 F2=>?_
 ·unfold Builtin.Frozenset.unchanged;refine af (wpAny_setEpoch_of (s:=s') (by rw[e];exact ho1) rfl T.fit ?_);rw[if_neg (by simp)];exact ao q
 ·refine ao ?_;refine ao ⟨_,rfl,by simp,h h2 d2 (F2.sets.same (eI _) λx=>?_) λb o' hb e=>?_⟩
  ·rw[dM,dM,qr_,qr_,dM]
  ·rw[b2.2 b (cz hb)];exact k1 b o' hb e
end
section
variable{prog:Program}{w:World}{A:Around}{E:Value->Shared->Prop}{s:Shared}
section
variable{l:Addr}{items:Array Value}{Q:Value->Shared->Prop}(hh:A.handled=none)(hl:s.heap.IsTuple l items)
include hh hl
theorem CM{R:Heap->Prop}(hw:∀(o:Obj) (lt:l<s.heap.objs.size) (hh3:A.in1.in1.in1.handled=none) (ne:l≠(s.heap.push (cV w)).objs.size) (nf:s.heap.objs.size∉[(s.heap.push (cV w)).objs.size,l]) (s1:Shared),s1={s with heap:=(s.heap.push (cV w)).push {cls:=.type "tuple_iterator",data:=.fields #[.ref l,.int 0 0]}}->s1.heap.get? s.heap.objs.size=some (cV w)->s1.heap.IsTupleIter (s.heap.push (cV w)).objs.size l 0/\s1.heap.IsTuple l items ->
   codeAny (model prog w) A.in1.in1 (.builtin "set.update.loop" ⟨[.ref s.heap.objs.size,.ref (s.heap.push (cV w)).objs.size],[]⟩) (wants (λ_ s'=>qW s R s') E) s1)
  (h:∀(h':Heap) (tk:Nat),R h'->(∀b o,b<s.heap.objs.size->s.heap.get? b=some o->h'.get? b=some o)->Q (.ref s.heap.objs.size) {s with heap:=h',toks:=tk}):wpAny (model prog w) A (call (.type "set") [.ref l]) Q E s:=by
 obtain⟨ol,hol,hcl,nl,hdl⟩:=id hl;have hlS:l<s.heap.objs.size:=b5 hol;refine Bd (R:=qW s R) hol hcl F.sub_tuple_set F.sub_tuple_frozenset (by decide) (wpAny_pyIter_tuple (hl.push _) (wpAny_runValue ?_)) λs' ⟨h',tk,e,p,k⟩=>by subst e;exact h h' tk p k
 refine hw ol hlS (by simp[hh]) ?_ ?_ _ rfl (b6 _ (cy _ rfl)) ⟨⟨_,cy _ rfl,rfl,rfl⟩,(hl.push _).push _⟩
 ·rw[d_];exact cz (jq hlS)
 ·rw[d_];simp only[qk_,fb,or_false,not_or];exact⟨cz (mn _),j0 hlS⟩
theorem Mo{ss:List Str}(hi:StrsAre items.toList ss)(hb:ss.length+1<scanBound)
  (h:∀(h':Heap) (tk:Nat),bh prog w s.heap.objs.size (aN ss) h'->(∀b o,b<s.heap.objs.size->s.heap.get? b=some o->h'.get? b=some o)->Q (.ref s.heap.objs.size) {s with heap:=h',toks:=tk}):
  wpAny (model prog w) A (call (.type "set") [.ref l]) Q E s:=by
 have hz:items.size=ss.length:=by have:=iY hi;simpa using this
 have hm:gH (λi=>ss.getD i ⟨#[]⟩) items.size=aN ss:=by rw[hz];exact Bs λi hi=>by simp[hi]
 refine CM hh hl (λo lt hh3 ne nf s1 e1 g1 st=>?_) h;subst e1;exact C3 ((Walks.tuple hh3 _ l ne items).toS) s.heap.objs.size nf (λi=>ss.getD i ⟨#[]⟩) (λi v hv=>iH hi i v (by rw[h_];exact hv)) (by rw[hm];exact Nat.lt_of_le_of_lt (Nat.succ_le_succ (WordM.nodup_len (eI ss) λx hx=>(dM ss x).mp hx)) hb) (items.size-0) 0 _ (by omega) (d8 _) st (A1 g1) λs' m S'=>wJ m m.gens (by rw[hm]at S';exact S')
theorem NA{bs:List Bool}(hi:items.toList=bs.map Value.bool)
  (h:∀(h':Heap) (tk:Nat),bw w s.heap.objs.size (cp bs) (cn bs) h'->(∀b o,b<s.heap.objs.size->s.heap.get? b=some o->h'.get? b=some o)->Q (.ref s.heap.objs.size) {s with heap:=h',toks:=tk}):
  wpAny (model prog w) A (call (.type "set") [.ref l]) Q E s:=by
 have hz:items.size=bs.length:=by have:=congrArg List.length hi;simpa using this
 refine CM hh hl (λo lt hh3 ne nf s1 e1 g1 st=>?_) h;subst e1;exact L9 ((Walks.tuple hh3 _ l ne items).toS) s.heap.objs.size nf bs hz (λi v hv=>IG hi i v (by rw[h_];exact hv)) (items.size-0) 0 _ (by omega) (d8 _) st ⟨0,g1⟩ λs' m S'=>wJ m m.gens S'
end
end
theorem Jq:isSubtype (.type "dict") (.type "frozenset")=pure false:=by rw[isSubtype_type];kernel_rfl
section
variable{prog:Program}{w:World}{A:Around}{E:Value->Shared->Prop}{s:Shared}{a:Addr}{us:List Str}
theorem By:∀{l:List DictEntry}{kvs:List (ay×Value)},Pairs (cB prog w) l kvs->∀{us:List Str},kvs.map (·.1)=us.map Sum.inr->l.length=us.length/\∀(i:Nat) (e:DictEntry),l[i]?=some e->∃x,us[i]?=some x/\(cB prog w).is (Sum.inr x) e.key=true
 |_,_,.nil,us,h=>by
  cases us with
  |nil=>exact⟨rfl,λi e z=>by simp at z⟩
  |cons x us=>simp at h
 |_,_,.cons hk hv r,us,h=>by
  cases us with
  |nil=>simp at h
  |cons x us=>
   simp only[d9,List.cons.injEq]at h;obtain⟨h1,h2⟩:=h;obtain⟨a,b⟩:=By r h2;refine⟨by simp[a],λi e z=>?_⟩;cases i with
   |zero=>
    simp only[List.getElem?_cons_zero,Option.some.injEq]at z;subst z;refine⟨x,rfl,?_⟩;rw[<-h1]
    first|exact hk|exact hv
   |succ i=>exact b i e (by simpa using z)
theorem NP{d:Addr}{ob:Obj}{es:Array DictEntry}{ep:Nat}{us:List Str}{Q:PUnit->Shared->Prop}(ne:d≠a)(hob:s.heap.get? d=some ob)(hd:ob.data=.dict es ep)(hk:KeysOf (cB prog w) es)(hl:es.size=us.length)
    (hi:∀(i:Nat) (e:DictEntry),es[i]?=some e->∃x,us[i]?=some x/\(cB prog w).is (Sum.inr x) e.key=true) (S:bh prog w a [] s.heap) (hb:us.length<4000)
    (h:∀h',Heap.SameBut a s.heap h'->bh prog w a (aN us) h'->Q ⟨⟩ {s with heap:=h'}):
    wpAny (model prog w) A (forIn [:es.size] PUnit.unit λi __s=>do
              let __do_lift <- dictEntries d
              match __do_lift[i]? with
                |some e=>do
                  let _ <- holding [e.key] (setAddHashed a e.key e.hash)
                  let __do_lift <- dictEpoch d
                  if (__do_lift != ep) = true then do
                      unsupported (toString "set.__init__"++toString ":changed-during-callback")
                      pure (ForInStep.yield PUnit.unit)
                    else pure (ForInStep.yield PUnit.unit)
                |x=>do
                  unsupported "internal:set-from-dict"
                  pure (ForInStep.yield PUnit.unit)) Q E s:=by
  rw[Std.Legacy.Range.forIn_eq_forIn_range'];have hb4:scanBound=4096:=rfl;refine wpAny_forIn_list _ (λl _ s'=>∃(k:Nat) (h':Heap),l=List.range' k (es.size-k) 1/\k<=es.size/\s'={s with heap:=h'}/\Heap.SameBut a s.heap h'/\bh prog w a (aN (us.take k)) h') Q ?_ ?_ _ _ ?_
  · rintro x rest b s' ⟨k,h',el,hk',rfl,b',S'⟩
    have hlt:k<es.size:=by
      apply qq;intro z;rw[show es.size-k=0 by omega]at el;cases el
    rw[show es.size-k=(es.size-(k+1))+1 by omega,List.range'_succ]at el;obtain⟨rfl,rfl⟩:x=k/\rest=List.range' (k+1) (es.size-(k+1)) 1:=by injection el with e1 e2;exact⟨e1,e2⟩
    have ho':h'.get? d=some ob:=by rw[b'.2 d ne];exact hob
    refine af (wpAny_dictEntries (s:={s with heap:=h'}) ho' hd ?_);have ee:es[x]?=some es[x]:=jh hlt;rw[ee];dsimp only;obtain⟨y,ey,iy⟩:=hi x _ ee;obtain⟨key,hkk,hh⟩:=hk es[x] (Array.getElem_mem hlt);have:key=Sum.inr y:=(cB prog w).inj _ _ _ hkk iy;subst this;obtain⟨tk,ev⟩:=Value.isStrOf_shape (show Value.isStrOf y es[x].key=true from iy);rw[ev,hh];have ln:(aN (us.take x)).length<=x:=by
      have:=WordM.nodup_len (eI (us.take x)) (m:=us.take x) λz hz=>(dM _ z).mp hz
      rw[g8]at this;omega
    refine af (i5 (xR (s:={s with heap:=h'}) (x:=y) S' (by omega) λbb h3 b3 S3=>?_));have b13:=b'.trans b3;have ho3:h3.get? d=some ob:=by rw[b13.2 d ne];exact hob
    refine af (wpAny_dictEpoch (s:={s with heap:=h3}) ho3 hd ?_);rw[if_neg (by simp)];refine ao ⟨x+1,h3,rfl,hlt,rfl,b13,?_⟩;have:aN (us.take (x+1))=dY (aN (us.take x)) y:=by
      rw[j6,ey];unfold aN;rw[q_];rfl
    rw[this];exact S3
  · rintro b s' ⟨k,h',el,hk',rfl,b',S'⟩
    have:k=es.size:=by
      apply Nat.le_antisymm hk';apply Nat.le_of_not_lt;intro z;have:=congrArg List.length el;rw[List.length_range']at this;simp at this;omega
    subst this;rw[hl,mf]at S';exact h h' b' S'
  · refine⟨0,s.heap,?_,d8 _,rfl,Heap.SameBut.refl a s.heap,S⟩
    show List.range' 0 ((es.size-0+1-1) / 1) 1=_;rw[Nat.div_one,Nat.add_sub_cancel]
theorem Nz{d:Addr}{kvs:List (ay×Value)}{ep:Nat}{us:List Str}{Q:Value->Shared->Prop}(hsm:(d==sysModules)=false)(D:s.heap.DictAt (cB prog w) d kvs ep)(hks:kvs.map (·.1)=us.map Sum.inr)(hb:us.length<32)
  (h:∀(h':Heap),bh prog w s.heap.objs.size (aN us) h'->(∀b o,b<s.heap.objs.size->s.heap.get? b=some o->h'.get? b=some o)->Q (.ref s.heap.objs.size) {s with heap:=h'}):
  wpAny (model prog w) A (call (.type "set") [.ref d]) Q E s:=by
 obtain⟨ob,es,hob,hex,hd,hk,hp,hnd⟩:=id D;have ld:d<s.heap.objs.size:=b5 hob;refine Bc (P:=λs'=>∃h',s'={s with heap:=h'}/\bh prog w s.heap.objs.size (aN us) h'/\∀b o,b<s.heap.objs.size->s.heap.get? b=some o->h'.get? b=some o) (λs' ⟨h',e,p,k⟩=>by subst e;exact h h' p k) ?_;have hS:(s.heap.push (cV w)).get? s.heap.objs.size=some (cV w):=cy _ rfl;have hT:Shared.TypeIs {s with heap:=s.heap.push (cV w)} (.ref s.heap.objs.size) "set":=⟨_,hS,rfl⟩
 have hob':(s.heap.push (cV w)).get? d=some ob:=b6 _ hob;have htd:Shared.TypeIs {s with heap:=s.heap.push (cV w)} (.ref d) "dict":=⟨_,hob',hex.1⟩
 have hsds:=F.sub_dict_set;have hsdf:=Jq;unfold Builtin.«set.__init__» noKeywords Builtin.Frozenset.updateFrom;have hdt:(Value.type "dict"==Value.type "dict")=true:=by decide
 generalize hRM:setRoomFor=RM;wp_walk;subst hRM;rw[hd];refine ao (af (wpAny_dictEntries hob' hd ?_));obtain⟨el,ei⟩:=By hp hks;rw[fc]at el;have F0:ju prog w s.heap.objs.size [] (s.heap.push (cG #[] 0 (.fresh 0 0 (!cj w)))):=⟨#[],0,.fresh 0 0 (!cj w),hS,⟨λe he=>by simp at he,⟨[],.nil,.refl _⟩,mh,by decide,by simp[SetTable.fits,SetTable.fresh,SetTable.fill],.inl rfl,rfl⟩,λ_=>rfl⟩
 refine af (B3 (s:={s with heap:=s.heap.push (cG #[] 0 (.fresh 0 0 (!cj w)))}) F0 (by simpa[el]using hb) λh1 es1 ep1 t1 b1 g1 T1 _=>?_);have ne:d≠s.heap.objs.size:=cz ld;have ob1:h1.get? d=some ob:=by rw[b1.2 d ne];exact hob'
 refine af (wpAny_dictEntries (s:={s with heap:=h1}) ob1 hd ?_);refine af (NP (s:={s with heap:=h1}) ne ob1 hd hk el (λi e q=>ei i e (by rw[h_];exact q)) ⟨es1,ep1,t1,g1,T1⟩ (by omega) λh2 b2 S2=>?_);have b12:=b1.trans b2;refine ao (ao ?_);refine⟨rfl,h2,rfl,S2,λb o hb e=>?_⟩;rw[b12.2 b (cz hb)];exact b6 _ e
end
section
variable{X:Cx}{F:Fm}
theorem CD(hc:X.calm=true):au X (.type "set") (yk X.prog X.w X.K):=by
 intro Pp s σ H xs us Q I r h;obtain⟨p,ss,rfl,hq,hz,q⟩:=h;obtain⟨u,rfl,rx⟩:=cY r;cases rx;obtain⟨its,rv,pl,hz'⟩:=I.tuple hq;refine Mo (I.ok.hd hc) pl (kE rv) (by show ss.length+1<4096;omega) λh' tk S k=>?_
 refine⟨.ref s.heap.objs.size,_,I.laid (t':=tk) (o:=eR X.prog X.w s.heap.objs.size (aN ss)) (λb o e=>k b o (b5 e) e) (bp _) ⟨S,?_,λh1 h2 z k'=>z.kept k'⟩,rfl,q _ I.fresh⟩;obtain⟨es,ep,t,e,_⟩:=S;exact⟨_,e⟩
noncomputable def Fc(P:Program)(w:World):R2:=λx y H Q=>∃(a b:Addr) (us vs:List Str),x=.ref a/\y=.ref b/\b≠a/\H a=some (eR P w a us)/\H b=some (eR P w b vs)/\us.length+vs.length<32/\∀c:Addr,H c=none->Q (.ref c) (aw H c (eR P w c (aN (us++vs))))
theorem IB:cf X (binaryOp .BitOr) (Fc X.prog X.w):=by
 intro Pp s σ H x y v u Q I rx ry h;obtain⟨a,b,us,vs,rfl,rfl,ne,ha,hb,hl,q⟩:=h;cases rx;cases ry;refine ID ne (I.hok a _ ha).1 (I.hok b _ hb).1 hl λh' d S k=>?_
 refine⟨.ref s.heap.objs.size,_,(I.laid (t':=s.toks) (o:=eR X.prog X.w s.heap.objs.size (aN (us++vs))) (λb o e=>k b o (b5 e) e) (bp _) ⟨S,?_,λh1 h2 z k'=>z.kept k'⟩).draw d,rfl,q _ I.fresh⟩;obtain⟨es,ep,t,e,_⟩:=S;exact⟨_,e⟩
noncomputable def AX(P:Program)(w:World):List V->Hp->VK->Prop:=λxs H Q=>∃(p:Addr) (ob:Obj) (kvs:List (ay×V)) (us:List Str),xs=[.ref p]/\qd H p ob kvs/\kvs.map (·.1)=us.map Sum.inr/\us.length<32/\∀a:Addr,H a=none->Q (.ref a) (aw H a (eR P w a (aN us)))
theorem CC:au X (.type "set") (AX X.prog X.w):=by
 intro Pp s σ H xs us Q I r h;obtain⟨p,ob,kvs,uu,rfl,hz,hk,hl,q⟩:=h;obtain⟨u,rfl,rx⟩:=cY r;cases rx;obtain⟨e,hs,_,vs,es,ep,rr,dd,hd⟩:=pM I hz;have hkv:vs.map (·.1)=uu.map Sum.inr:=by rw[<-yM rr];exact hk
 refine Nz hs dd hkv hl λh' S k=>?_
 refine⟨.ref s.heap.objs.size,_,I.laid (t':=s.toks) (o:=eR X.prog X.w s.heap.objs.size (aN uu)) (λb o e=>k b o (b5 e) e) (bp _) ⟨S,?_,λh1 h2 z k'=>z.kept k'⟩,rfl,q _ I.fresh⟩;obtain⟨es,ep,t,e,_⟩:=S;exact⟨_,e⟩
noncomputable def u0(T:Tv)(ss:List Str):Prop:=T=.seq true (ss.map sT)\/∃kts,T=.dct kts/\ss=kts.map (·.1)
noncomputable def KL(u v:UT):g5:=λρ Q=>u ρ λT ρ1=>∃ss:List Str,u0 T ss/\ss.length<32/\v ρ1 λU ρ2=>∃ts:List Str,u0 U ts/\ss.length+ts.length<32/\Q ((bF (aN (ss++ts))).map sT) ρ2
theorem sQ(l:List Str):(aN l).length<=l.length:=by
 have:∀(l m:List Str),(l.foldl dY m).length<=m.length+l.length:=by
  intro l
  induction l with
  |nil=>exact λm=>bp _
  |cons x l ih=>
   intro m;rw[j8,iw];refine bu (ih _) ?_;unfold dY;split
   ·omega
   ·rw[b8,kr];omega
 have:=this l [];simpa[aN]using this
theorem bq.keep{K:W.Frag}{ρ ρ2:aW}{σ:St}{H H1 H2:Hp}{b:Addr}{o:HO}(f:av K F ρ σ H)(n:H b=none)(e:H1 b=some o)(s:bq K F σ ρ H1 ρ2 H2):H2 b=some o:=
 s.st b o e (f.none_nodk n) λi sl e1 m q=>by
  obtain⟨⟨o',e2,_⟩,_⟩:=f.own_at e1 m q;rw[n]at e2;cases e2
theorem Ab{K:W.Frag}{P:Program}{w:World}{H:Hp}{x:V}{T:Tv}{ss:List Str}{Q:VK}(sr:u0 T ss)(v:VA K H x T)(l:ss.length<32)(h:∀b:Addr,H b=none->Q (.ref b) (aw H b (eR P w b (aN ss)))):yk P w K [x] H Q\/AX P w [x] H Q:=by
 rcases sr with rfl|⟨kts,rfl,rfl⟩
 ·obtain⟨a,ys,rfl,hs,z,p⟩:=v.seqI;rw[iX p]at hs;exact .inl ⟨a,ss,rfl,hs,by omega,h⟩
 ·obtain⟨a,kvs,rfl,⟨ob,hd⟩,nd,z,p⟩:=v.dctI;exact .inr ⟨a,ob,kvs,_,rfl,hd,wW p,l,h⟩
theorem Cu{e e':Expr}{u v:UT}{p p1 p2 pos pos1 pos2 pos3:Pos}(hc:X.calm=true)(hg:Gl X "sorted")(hm:X.mg "sorted"=none)(hg':Gl X "set")(hm':X.mg "set"=none)(he:UE X F e u)(he':UE X F e' v)(hst:eX e=false:=by rfl)(hst':eX e'=false:=by rfl)
  (hpl:(backTo pos (starEach [] X.env)).any (·.1)=false:=by rfl) (hpl1:(backTo pos1 (starEach [] X.env)).any (·.1)=false:=by rfl) (hpl2:(backTo pos2 (starEach [] X.env)).any (·.1)=false:=by rfl):
  UL X F (.Call (.Name "sorted" p) [.BinOp (.Call (.Name "set" p1) [e] [] pos1) .BitOr (.Call (.Name "set" p2) [e'] [] pos2) pos3] [] pos) (KL u v):=⟨PE.imp (kH (Dz hc) hg hm boot_sorted (dR (cT IB (jM ((CD hc).or CC) hg' hm' L2.boot_set (dR he.pe eO hst) (by decide) (by decide) (jK hst) hpl1) (jM ((CD hc).or CC) hg' hm' L2.boot_set (dR he'.pe eO hst') (by decide) (by decide) (jK hst') hpl2)) eO rfl) (by decide) (by decide) rfl hpl) λσ H QQ ⟨ρ,Q,f,h,k⟩=>by
 refine⟨ρ,_,f,h,λx T H1 ρ1 s1 v1 q1=>?_⟩;obtain⟨ss,sr,l1,h2⟩:=q1;refine Ab sr v1 (by omega) λb nb=>?_
 have sm1:=dC (o:=eR X.prog X.w b (aN ss)) nb;have t1:=bq.same s1.fr sm1;refine⟨ρ1,_,t1.fr,h2,λx' U H2 ρ2 s2 v2 q2=>?_⟩;obtain⟨ts,sr',hl,q⟩:=q2;refine Ab sr' v2 (by omega) λb' nb'=>?_
 have kb:H2 b=some (eR X.prog X.w b (aN ss)):=bq.keep s1.fr nb bL s2;have ne:b'≠b:=λz=>by rw[z,kb]at nb';cases nb'
 have e1:=sQ ss;have e2:=sQ ts;refine⟨b,b',aN ss,aN ts,rfl,rfl,ne,by rw[bU ne.symm];exact kb,bL,by omega,λc nc=>?_⟩;have e3:=sQ (aN ss++aN ts);rw[b8]at e3;refine⟨c,_,rfl,bL,by omega,λms d h1 h2' nd=>?_⟩;have sm:=((dC (o:=eR X.prog X.w b' (aN ts)) nb').trans (dC (o:=eR X.prog X.w c (aN (aN ss++aN ts))) nc)).trans (dC (o:=.lst (ms.map V.str)) nd);have sall:=(s1.trans t1).trans (s2.trans (bq.same s2.fr sm));refine k _ _ _ _ _ sall ?_ bL (by rw[aq,h1.length_eq];omega) (pE ms) ?_
 ·exact((s1.trans t1).trans s2).non ((dC (o:=eR X.prog X.w b' (aN ts)) nb').free ((dC (o:=eR X.prog X.w c (aN (aN ss++aN ts))) nc).free nd))
 ·rw[oY (h1.trans ((kh (eI _) (eI (ss++ts))).mpr λx=>by rw[dM,dM,qr_,qr_,dM,dM])) h2']
  exact q⟩
end
section
variable{prog:Program}{w:World}{A:Around}{E:Value->Shared->Prop}{s:Shared}{a o:Addr}{f t f' t':Bool}
theorem IK{f t:Bool}(h:(gn f t).isEmpty=true):f=false/\t=false:=by
 cases f<;>cases t<;>first|exact⟨rfl,rfl⟩|exact absurd h (by decide +kernel)
theorem Gs(l f t f' t':Bool):(dH l f t).roomFor (gn f' t').size=none:=by cases l<;>cases f<;>cases t<;>cases f'<;>cases t'<;>rfl
theorem Cw{each:Sem Unit}{Q:Unit->Shared->Prop}(ne:a≠o)(S:bw w a f t s.heap)(O:bw w o f' t' s.heap)
  (he:∀(s':Shared) (Q':Unit->Shared->Prop),s'.heap.get? o=s.heap.get? o->Q' () s'->wpAny (model prog w) A each Q' E s')
  (h:∀h',Heap.SameBut a s.heap h'->bw w a (f || f') (t || t') h'->Q () {s with heap:=h'}):wpAny (model prog w) A (setMerge a o each) Q E s:=by
 obtain⟨ep,ho⟩:=id O;obtain⟨ea,ha⟩:=id S;unfold setMerge;rw[if_neg (by simpa using ne)];refine af (gz ho rfl (iU _ _ _) ?_);dsimp only;by_cases z0:(gn f' t').isEmpty=true
 ·rw[if_pos z0];obtain⟨rfl,rfl⟩:=IK z0;have e:s={s with heap:=s.heap}:=by cases s;rfl
  rw[e];exact ao (h _ (Heap.SameBut.refl a s.heap) (by rw[ku,ku];exact S))
 rw[if_neg z0];unfold setRoomFor;refine af (af (gz ha rfl (iU _ _ _) ?_));dsimp only;rw[Gs];dsimp only;refine ao (af (gz ha rfl (iU _ _ _) ?_));dsimp only;by_cases zs:f=false/\t=false
 ·obtain⟨rfl,rfl⟩:=zs;have er:(dH (!cj w) false false).road (dH (!cj w) f' t')=.slotForSlot:=by cases cj w<;>cases f'<;>cases t'<;>rfl
  rw[er];dsimp only;have et:({dH (!cj w) f' t' with finger:=(dH (!cj w) false false).finger,led:=(dH (!cj w) false false).led&&(dH (!cj w) f' t').led,moves:=(dH (!cj w) false false).moves,plain:=(dH (!cj w) false false).plain&&(dH (!cj w) f' t').plain}:SetTable)=dH (!cj w) f' t':=by cases cj w<;>rfl
  rw[et];refine wpAny_storeSet_of ha rfl ?_ (by rw[tW];exact bu (mM f' t') (by decide));exact h _ (Heap.SameBut.update s.heap a _) ⟨ea+1,fu (Obj.putSet (gn f' t') (dH (!cj w) f' t')) ha rfl⟩
 ·have er:(dH (!cj w) f t).road (dH (!cj w) f' t')=.oneByOne:=by
   cases f<;>cases t<;>first|exact absurd ⟨rfl,rfl⟩ zs|(cases cj w<;>rfl)
  rw[er];dsimp only;have wk:∀{Q:Array (Int×Value)->Shared->Prop},(∀(out:Array (Int×Value)),out.toList.Perm (gn f' t').toList->Q out s)->wpAny (model prog w) A (setWalkUnseen o [a] (some a)) Q E s:=λ{Q} q=>by
   unfold setWalkUnseen;refine af (gz ho rfl (iU _ _ _) ?_);dsimp only;refine af (gS ?_);rw[if_pos (by show(cj w || (!cj w&&true) || _)=true;cases cj w<;>rfl)];unfold setWalk;refine af (gz ho rfl (iU _ _ _) ?_);dsimp only;refine af (gS ?_);cases hb:cj w with
   |true=>
    rw[if_pos rfl];exact af (wpAny_askSetting (ao (q _ (oU _ _))))
   |false=>
    rw[if_neg b9];split
    ·rename_i hz;exact absurd (show(!true&&decide ((gn f' t').size > 1))=true from hz) (by simp)
    ·refine af (m:=(if (!true&&decide ((gn f' t').size > 1))=true then unsupported "set:maker-not-led" else pure PUnit.unit)) ?_;rw[if_neg (by simp)];exact ao (ao (q _ (.refl _)))
  refine af (wk λout p=>?_);refine af (PySem.MeetsSeq2.wpAny_forIn_array _ (λl _ s'=>∃(f1 t1:Bool) (h':Heap),s'={s with heap:=h'}/\Heap.SameBut a s.heap h'/\bw w a f1 t1 h'/\(∀e∈l,e∈(gn f' t').toList)/\(f1 || l.any λe=>fF false e.2)=(f || f')/\(t1 || l.any λe=>fF true e.2)=(t || t')) _ ?_ ?_ _ _ ?_)
  ·rintro⟨hh,v⟩ rest b s' ⟨f1,t1,h',rfl,b',S',hm,hf,ht⟩;have hin:(hh,v)∈(cq f' t').map λb=>(jG b,Value.bool b):=hm _ (.head _)
   obtain⟨c,_,ec⟩:=qd_.mp hin;cases ec;refine af (i5 (B2 (prog:=prog) (s:={s with heap:=h'}) (b:=c) S' λr h3 b3 S3=>?_));have b13:=b'.trans b3;have ho3:h3.get? o=some (cG (gn f' t') ep (dH (!cj w) f' t')):=by rw[b13.2 o (Ne.symm ne)];exact ho
   refine af (he _ _ (by show h3.get? o=s.heap.get? o;rw[ho3,ho]) ?_);refine af (gz (s:={s with heap:=h3}) ho3 rfl (iU _ _ _) ?_);rw[if_neg (by simp)];refine ao ⟨_,_,h3,rfl,b13,S3,λe q=>hm e (.tail _ q),?_,?_⟩
   ·rw[<-hf,ie,Bool.or_assoc];cases c<;>rfl
   ·rw[<-ht,ie,Bool.or_assoc];cases c<;>rfl
  ·rintro b s' ⟨f1,t1,h',rfl,b',S',_,hf,ht⟩;rw[List.any_nil,ku]at hf ht;subst hf ht;exact ao (h h' b' S')
  ·refine⟨f,t,s.heap,by cases s;rfl,Heap.SameBut.refl a s.heap,S,λe q=>p.mem_iff.mp q,?_,?_⟩
   ·congr 1;rw[fm,qA_];simp only[p.mem_iff];cases f'<;>cases t'<;>simp[gn,cq,fF]
   ·congr 1;rw[fm,qA_];simp only[p.mem_iff];cases f'<;>cases t'<;>simp[gn,cq,fF]
theorem Lc{Q:Value->Shared->Prop}(S:bw w a f t s.heap)
  (h:∀h',bw w s.heap.objs.size f t h'->s.heap.objs.size<h'.objs.size->(∀b o,b<s.heap.objs.size->s.heap.get? b=some o->h'.get? b=some o)->Q (.ref s.heap.objs.size) {s with heap:=h'}):
  wpAny (model prog w) A (Builtin.Frozenset.copyOf a) Q E s:=by
 obtain⟨ep,ho⟩:=id S;have ht:s.TypeIs (.ref a) "set":=⟨_,ho,rfl⟩
 have la:a<s.heap.objs.size:=b5 ho;unfold Builtin.Frozenset.copyOf Builtin.Frozenset.baseOf newSet;refine af (af (wpAny_isInstance (T:="set") (b:=true) ht pS (ao ?_)));rw[if_pos rfl];refine af (af (gS ?_));dsimp only;refine gh ?_ (by size_fits);refine af (ao ?_);have F0:bw w s.heap.objs.size false false (s.heap.push (cG #[] 0 (.fresh 0 0 (!cj w)))):=⟨0,cy _ rfl⟩
 refine af (Cw (s:={s with heap:=s.heap.push (cG #[] 0 (.fresh 0 0 (!cj w)))}) (j0 la) F0 ⟨ep,b6 _ ho⟩ (λs' Q' _ q=>ao q) λh' b F=>?_);rw[pj,pj]at F;refine ao (h h' F (by rw[b.1,d_];omega) λx o hx e=>?_);rw[b.2 x (cz hx)];exact b6 _ e
theorem JG{Q:Value->Shared->Prop}(ne:o≠a)(S:bw w a f t s.heap)(O:bw w o f' t' s.heap)
  (h:∀h',bw w s.heap.objs.size (f || f') (t || t') h'->(∀b o,b<s.heap.objs.size->s.heap.get? b=some o->h'.get? b=some o)->Q (.ref s.heap.objs.size) {s with heap:=h'}):
  wpAny (model prog w) A (binaryOp .BitOr (.ref a) (.ref o)) Q E s:=by
 obtain⟨ep,ho⟩:=id O;obtain⟨ea,ha⟩:=id S;have ht:s.TypeIs (.ref a) "set":=⟨_,ha,rfl⟩
 have ht2:s.TypeIs (.ref o) "set":=⟨_,ho,rfl⟩
 refine wpAny_binaryOp_same (op:=.BitOr) (T:="set") ht ht2 F.fills_set_or F.slot_set_or (fj F.slot_set_or ht x9 ?_ (F.args_set_or_2 _ _));rw[yg]
 show wpAny _ _ (do
  if !(<- Builtin.Frozenset.isAnySet (.ref a) <&&> Builtin.Frozenset.isAnySet (.ref o)) then rule s!"frozenset.{"__or__"}.declined";return <- ret .notImplemented
  ret (<- pQ s!"frozenset.{"__or__"}" (<- Builtin.Frozenset.addrOf (.ref a)) (.ref o))) _ _ _
 refine af (af (mQ ht ?_));refine mQ ht2 ?_;rw[if_neg (by simp)];refine af (ao ?_);have lo:o<s.heap.objs.size:=b5 ho;unfold pQ;refine af (af (Lc S λh1 F1 z1 k1=>?_));rw[if_pos (by simpa using ne)];have ho1:h1.get? o=some (cG (gn f' t') ep (dH (!cj w) f' t')):=k1 o _ lo ho;have ht3:Shared.TypeIs {s with heap:=h1} (.ref o) "set":=⟨_,ho1,rfl⟩
 unfold Builtin.Frozenset.updateFrom;refine af (ao (af (i5 (af (mQ ht3 ?_)))));rw[if_pos rfl];refine af (ao ?_);unfold Builtin.Frozenset.merge;refine af (wpAny_setEpoch_of (s:={s with heap:=h1}) ho1 rfl (iU _ _ _) ?_);refine Cw (s:={s with heap:=h1}) (j0 lo) F1 ⟨ep,ho1⟩ (λs' Q' e q=>?_) λh2 b2 F2=>?_
 ·unfold Builtin.Frozenset.unchanged;refine af (wpAny_setEpoch_of (s:=s') (by rw[e];exact ho1) rfl (iU _ _ _) ?_);rw[if_neg (by simp)];exact ao q
 ·refine ao ?_;refine ao ⟨_,rfl,by simp,h h2 F2 λb o' hb e=>?_⟩;rw[b2.2 b (cz hb)];exact k1 b o' hb e
end
section
variable{X:Cx}{F:Fm}
noncomputable def HV(w:World)(K:W.Frag):List V->Hp->VK->Prop:=λxs H Q=>∃(p:Addr) (bs:List Bool),xs=[.ref p]/\cu K H p (bs.map V.bl)/\∀a:Addr,H a=none->Q (.ref a) (aw H a (gM w a (cp bs) (cn bs)))
theorem CB(hc:X.calm=true):au X (.type "set") (HV X.w X.K):=by
 intro Pp s σ H xs us Q I r h;obtain⟨p,bs,rfl,hq,q⟩:=h;obtain⟨u,rfl,rx⟩:=cY r;cases rx;obtain⟨its,rv,pl,hz'⟩:=I.tuple hq;refine NA (I.ok.hd hc) pl (bs:=bs) (IH rv) λh' tk S k=>?_
 refine⟨.ref s.heap.objs.size,_,I.laid (t':=tk) (o:=gM X.w s.heap.objs.size (cp bs) (cn bs)) (λb o e=>k b o (b5 e) e) (bp _) ⟨S,?_,λh1 h2 z k'=>z.kept k'⟩,rfl,q _ I.fresh⟩;obtain⟨ep,e⟩:=S;exact⟨_,e⟩
noncomputable def Fb(w:World):R2:=λx y H Q=>∃(a b:Addr) (f t f' t':Bool),x=.ref a/\y=.ref b/\b≠a/\H a=some (gM w a f t)/\H b=some (gM w b f' t')/\∀c:Addr,H c=none->Q (.ref c) (aw H c (gM w c (f || f') (t || t')))
theorem IA:cf X (binaryOp .BitOr) (Fb X.w):=by
 intro Pp s σ H x y v u Q I rx ry h;obtain⟨a,b,f,t,f',t',rfl,rfl,ne,ha,hb,q⟩:=h;cases rx;cases ry;refine JG ne (I.hok a _ ha).1 (I.hok b _ hb).1 λh' S k=>?_
 refine⟨.ref s.heap.objs.size,_,I.laid (t':=s.toks) (o:=gM X.w s.heap.objs.size (f || f') (t || t')) (λb o e=>k b o (b5 e) e) (bp _) ⟨S,?_,λh1 h2 z k'=>z.kept k'⟩,rfl,q _ I.fresh⟩;obtain⟨ep,e⟩:=S;exact⟨_,e⟩
noncomputable def K8(u v:UT):g5:=λρ Q=>u ρ λT ρ1=>∃bs:List Bool,T=.seq true (bs.map bT)/\v ρ1 λU ρ2=>∃cs:List Bool,U=.seq true (cs.map bT)/\Q ((cq (cp bs || cp cs) (cn bs || cn cs)).map bT) ρ2
theorem Ny{e e':Expr}{u v:UT}{p p1 p2 pos pos1 pos2 pos3:Pos}(hc:X.calm=true)(hg:Gl X "sorted")(hm:X.mg "sorted"=none)(hg':Gl X "set")(hm':X.mg "set"=none)(he:UE X F e u)(he':UE X F e' v)(hst:eX e=false:=by rfl)(hst':eX e'=false:=by rfl)
  (hpl:(backTo pos (starEach [] X.env)).any (·.1)=false:=by rfl) (hpl1:(backTo pos1 (starEach [] X.env)).any (·.1)=false:=by rfl) (hpl2:(backTo pos2 (starEach [] X.env)).any (·.1)=false:=by rfl):
  UL X F (.Call (.Name "sorted" p) [.BinOp (.Call (.Name "set" p1) [e] [] pos1) .BitOr (.Call (.Name "set" p2) [e'] [] pos2) pos3] [] pos) (K8 u v):=⟨PE.imp (kH (Nj hc) hg hm boot_sorted (dR (cT IA (jM (CB hc) hg' hm' L2.boot_set (dR he.pe eO hst) (by decide) (by decide) (jK hst) hpl1) (jM (CB hc) hg' hm' L2.boot_set (dR he'.pe eO hst') (by decide) (by decide) (jK hst') hpl2)) eO rfl) (by decide) (by decide) rfl hpl) λσ H QQ ⟨ρ,Q,f,h,k⟩=>by
 refine⟨ρ,_,f,h,λx T H1 ρ1 s1 v1 q1=>?_⟩;obtain⟨bs,rfl,h2⟩:=q1;obtain⟨a,ys,rfl,hs,z,p⟩:=v1.seqI;rw[pF p]at hs;refine⟨a,bs,rfl,hs,λb nb=>?_⟩;have sm1:=dC (o:=gM X.w b (cp bs) (cn bs)) nb;have t1:=bq.same s1.fr sm1;refine⟨ρ1,_,t1.fr,h2,λx' U H2 ρ2 s2 v2 q2=>?_⟩;obtain⟨cs,rfl,q⟩:=q2;obtain⟨a',ys',rfl,hs',z',p'⟩:=v2.seqI;rw[pF p']at hs';refine⟨a',cs,rfl,hs',λb' nb'=>?_⟩;have kb:H2 b=some (gM X.w b (cp bs) (cn bs)):=bq.keep s1.fr nb bL s2;have ne:b'≠b:=λz=>by rw[z,kb]at nb';cases nb'
 refine⟨b,b',_,_,_,_,rfl,rfl,ne,by rw[bU ne.symm];exact kb,bL,λc nc=>?_⟩;refine⟨c,_,_,rfl,bL,λd nd=>?_⟩;have sm:=((dC (o:=gM X.w b' (cp cs) (cn cs)) nb').trans (dC (o:=gM X.w c (cp bs || cp cs) (cn bs || cn cs)) nc)).trans (dC (o:=.lst ((cq (cp bs || cp cs) (cn bs || cn cs)).map V.bl)) nd);have sall:=(s1.trans t1).trans (s2.trans (bq.same s2.fr sm));refine k _ _ _ _ _ sall ?_ bL (by rw[aq];have:=mM (cp bs || cp cs) (cn bs || cn cs);omega) (Af _) q
 exact((s1.trans t1).trans s2).non ((dC (o:=gM X.w b' (cp cs) (cn cs)) nb').free ((dC (o:=gM X.w c (cp bs || cp cs) (cn bs || cn cs)) nc).free nd))⟩
end
section
variable{prog:Program}{w:World}{A:Around}{E:Value->Shared->Prop}{s:Shared}{l:Addr}{its:Array Value}{ss:List Str}
theorem C0{Q:Value->Shared->Prop}(hl:s.heap.IsTuple l its)
  (h:∀s₂:Shared,s₂={s with heap:=s.heap.push {cls:=.type "tuple_iterator",data:=.fields #[.ref l,.int 0 0]}} ->
   (s₂.heap.IsTupleIter s.heap.objs.size l 0/\s₂.heap.IsTuple l its)->(∀b∈[s.heap.objs.size,l],b<s₂.heap.objs.size)->l≠s.heap.objs.size->Q (.ref s.heap.objs.size) s₂):
  wpAny (model prog w) A (pyIter (.ref l)) Q E s:=by
 have hlt:l<s.heap.objs.size:=by obtain⟨_,e,_⟩:=hl;exact b5 e
 refine wpAny_pyIter_tuple hl (h _ rfl ⟨⟨_,cy _ rfl,rfl,rfl⟩,hl.push _⟩ (λb hb=>?_) (cz hlt));show b<(s.heap.push _).objs.size;rw[d_];simp only[qk_,fb,or_false]at hb;rcases hb with z|z
 ·rw[z];exact mn _
 ·rw[z];exact jq hlt
theorem LA{Q:Value->Shared->Prop}(hh:A.handled=none)(hl:s.heap.IsTuple l its)(hi:StrsAre its.toList ss)(hne:0<ss.length)
  (h:∀x t h' tk,x∈ss->(∀y∈ss,x.cps.toList<=y.cps.toList)->(∀b o,s.heap.get? b=some o->h'.get? b=some o)->Q (.str x t) {s with heap:=h',toks:=tk}):
  wpAny (model prog w) A (call (.builtin "min") [.ref l]) Q E s:=by
 have hsz:its.size=ss.length:=by rw[<-fc,iY hi]
 refine call_min_walk (C0 hl λs₂ e st hfp hlI=>?_);subst e;refine⟨_,_,_,_,_,_,_,rfl,Walks.tuple (A:=A.in1) hh _ l hlI its,st,hfp,by omega,Do (λi=>ss.getD i ⟨#[]⟩) (λi v hv=>iH hi i v (by rw[h_];exact hv)),λv h' tk hP hk=>?_⟩;obtain⟨t,rfl⟩:=iH hi _ v (by rw[h_];exact hP);obtain⟨b1,b2⟩:=yQ (λi=>(ss.getD i ⟨#[]⟩).cps.toList) (its.size-1);refine h _ t h' tk (rW (by omega)) (λy hy=>?_) (λb o e=>hk b o (λz=>by rw[qX_]at z;subst z;have:=b5 e;exact g_ _ this) (b6 _ e));obtain⟨j,hj,rfl⟩:=rT hy;exact b2 j (by omega)
theorem Ma{Q:Value->Shared->Prop}(hh:A.handled=none)(hl:s.heap.IsTuple l its)(hi:StrsAre its.toList ss)(hne:0<ss.length)
  (h:∀x t h' tk,x∈ss->(∀y∈ss,y.cps.toList<=x.cps.toList)->(∀b o,s.heap.get? b=some o->h'.get? b=some o)->Q (.str x t) {s with heap:=h',toks:=tk}):
  wpAny (model prog w) A (call (.builtin "max") [.ref l]) Q E s:=by
 have hsz:its.size=ss.length:=by rw[<-fc,iY hi]
 refine call_max_walk (C0 hl λs₂ e st hfp hlI=>?_);subst e;refine⟨_,_,_,_,_,_,_,rfl,Walks.tuple (A:=A.in1) hh _ l hlI its,st,hfp,by omega,Dn (λi=>ss.getD i ⟨#[]⟩) (λi v hv=>iH hi i v (by rw[h_];exact hv)),λv h' tk hP hk=>?_⟩;obtain⟨t,rfl⟩:=iH hi _ v (by rw[h_];exact hP);obtain⟨b1,b2⟩:=yR (λi=>(ss.getD i ⟨#[]⟩).cps.toList) (its.size-1);refine h _ t h' tk (rW (by omega)) (λy hy=>?_) (λb o e=>hk b o (λz=>by rw[qX_]at z;subst z;have:=b5 e;exact g_ _ this) (b6 _ e));obtain⟨j,hj,rfl⟩:=rT hy;exact b2 j (by omega)
end
section
variable{X:Cx}
theorem Mt(hc:X.calm=true):au X (.builtin "min") (λxs H Q=>∃(p:Addr) (ss:List Str),xs=[.ref p]/\cu X.K H p (ss.map V.str)/\0<ss.length/\∀x,x∈ss->(∀y∈ss,x.cps.toList<=y.cps.toList)->Q (.str x) H):=by
 intro Pp s σ H xs us Q I r h;obtain⟨p,ss,rfl,hq,hn,q⟩:=h;obtain⟨u,rfl,rx⟩:=cY r;cases rx;obtain⟨its,rv,pl,hz⟩:=I.tuple hq;refine LA (I.ok.hd hc) pl (kE rv) hn λx t h' tk h1 h2 hk=>?_
 exact⟨.str _,H,I.kept hk,⟨t,rfl⟩,q _ h1 h2⟩
theorem Ms(hc:X.calm=true):au X (.builtin "max") (λxs H Q=>∃(p:Addr) (ss:List Str),xs=[.ref p]/\cu X.K H p (ss.map V.str)/\0<ss.length/\∀x,x∈ss->(∀y∈ss,y.cps.toList<=x.cps.toList)->Q (.str x) H):=by
 intro Pp s σ H xs us Q I r h;obtain⟨p,ss,rfl,hq,hn,q⟩:=h;obtain⟨u,rfl,rx⟩:=cY r;cases rx;obtain⟨its,rv,pl,hz⟩:=I.tuple hq;refine Ma (I.ok.hd hc) pl (kE rv) hn λx t h' tk h1 h2 hk=>?_
 exact⟨.str _,H,I.kept hk,⟨t,rfl⟩,q _ h1 h2⟩
noncomputable def Ha:Pn:=λTs Q=>∃(t:Bool) (ss:List Str),Ts=[.seq t (ss.map sT)]/\0<ss.length/\∀x,x∈ss->(∀y∈ss,x.cps.toList<=y.cps.toList)->Q (sT x)
noncomputable def G_:Pn:=λTs Q=>∃(t:Bool) (ss:List Str),Ts=[.seq t (ss.map sT)]/\0<ss.length/\∀x,x∈ss->(∀y∈ss,y.cps.toList<=x.cps.toList)->Q (sT x)
theorem K6(hc:X.calm=true):iO X (.builtin "min") Ha:=⟨_,(CA hc).or (Mt hc),λxs Ts H Q QQ vx h k=>by
 obtain⟨t,ss,rfl,l,q⟩:=h;obtain⟨x,rfl,v⟩:=dW vx;obtain⟨a,ys,rfl,hs,z,p⟩:=v.seqI;rw[iX p]at hs;cases t with
 |false=>exact .inl ⟨a,ss,rfl,dE hs,l,λM h1 h2=>k _ _ _ (.flat rfl) (q M h1 h2)⟩
 |true=>exact .inr ⟨a,ss,rfl,hs,l,λM h1 h2=>k _ _ _ (.flat rfl) (q M h1 h2)⟩⟩
theorem K5(hc:X.calm=true):iO X (.builtin "max") G_:=⟨_,(Cz hc).or (Ms hc),λxs Ts H Q QQ vx h k=>by
 obtain⟨t,ss,rfl,l,q⟩:=h;obtain⟨x,rfl,v⟩:=dW vx;obtain⟨a,ys,rfl,hs,z,p⟩:=v.seqI;rw[iX p]at hs;cases t with
 |false=>exact .inl ⟨a,ss,rfl,dE hs,l,λM h1 h2=>k _ _ _ (.flat rfl) (q M h1 h2)⟩
 |true=>exact .inr ⟨a,ss,rfl,hs,l,λM h1 h2=>k _ _ _ (.flat rfl) (q M h1 h2)⟩⟩
end
end L2
namespace L2
open PySem PySem.Spec PyProof.Rows WordM
section
variable{P:Program}{w:World}{K:W.Frag}{mg:Str->Option Value}{base:Heap}{x:Str}{st:Stmt}{k:Nat}{psp:bf}{us:d6}
theorem ai.pg1(N:List Str){a:Str}(h:ai K mg x st)
  (Px:∀{f:Addr} {Pu:Value} {A:Around} {outer:List Env} {s:Shared} {H:Hp} {E:XK} {F:Fm},N.Nodup->br k (A.deeper (envOfC x (aV st) s.heap.objs.size f Pu))->kx (hZ lj P w K mg base N x (aV st) f Pu A outer s H E).nox F (dZ st) us)
  (hp:∀as R,psp as R->as.length=[a].length/\us {nx:=λ_=>R nT,rt:=R} (jC N.length as))
  (S:dN N [a] (aV st):=by exact ke (by decide +kernel))
  (hb:∀(kV doc pm:Value) (an:Option Addr) (Pu ct v0:Value),bindArgs (W.fnOf x x (fZ st) (dZ st) (aV st) .none kV doc pm an Pu ct) ⟨[v0],[]⟩=pure ([a].zip [v0]):=by exact λ_ _ _ _ _ _ _=>rfl):ae P w K mg base (k+1) x [a] psp:=
 h.pgood S (λkV doc pm an Pu ct us hl=>match us,hl with|[v0],_=>hb kV doc pm an Pu ct v0) (λf Pu A outer s H E F hr=>Px S.nd hr) hp
theorem ai.pg2(N:List Str){a b:Str}(h:ai K mg x st)
  (Px:∀{f:Addr} {Pu:Value} {A:Around} {outer:List Env} {s:Shared} {H:Hp} {E:XK} {F:Fm},N.Nodup->br k (A.deeper (envOfC x (aV st) s.heap.objs.size f Pu))->kx (hZ lj P w K mg base N x (aV st) f Pu A outer s H E).nox F (dZ st) us)
  (hp:∀as R,psp as R->as.length=[a,b].length/\us {nx:=λ_=>R nT,rt:=R} (jC N.length as))
  (S:dN N [a,b] (aV st):=by exact ke (by decide +kernel))
  (hb:∀(kV doc pm:Value) (an:Option Addr) (Pu ct v0 v1:Value),bindArgs (W.fnOf x x (fZ st) (dZ st) (aV st) .none kV doc pm an Pu ct) ⟨[v0,v1],[]⟩=pure ([a,b].zip [v0,v1]):=by exact λ_ _ _ _ _ _ _ _=>rfl):ae P w K mg base (k+1) x [a,b] psp:=
 h.pgood S (λkV doc pm an Pu ct us hl=>match us,hl with|[v0,v1],_=>hb kV doc pm an Pu ct v0 v1) (λf Pu A outer s H E F hr=>Px S.nd hr) hp
theorem ai.pg3(N:List Str){a b c:Str}(h:ai K mg x st)
  (Px:∀{f:Addr} {Pu:Value} {A:Around} {outer:List Env} {s:Shared} {H:Hp} {E:XK} {F:Fm},N.Nodup->br k (A.deeper (envOfC x (aV st) s.heap.objs.size f Pu))->kx (hZ lj P w K mg base N x (aV st) f Pu A outer s H E).nox F (dZ st) us)
  (hp:∀as R,psp as R->as.length=[a,b,c].length/\us {nx:=λ_=>R nT,rt:=R} (jC N.length as))
  (S:dN N [a,b,c] (aV st):=by exact ke (by decide +kernel))
  (hb:∀(kV doc pm:Value) (an:Option Addr) (Pu ct v0 v1 v2:Value),bindArgs (W.fnOf x x (fZ st) (dZ st) (aV st) .none kV doc pm an Pu ct) ⟨[v0,v1,v2],[]⟩=pure ([a,b,c].zip [v0,v1,v2]):=by exact λ_ _ _ _ _ _ _ _ _=>rfl):ae P w K mg base (k+1) x [a,b,c] psp:=
 h.pgood S (λkV doc pm an Pu ct us hl=>match us,hl with|[v0,v1,v2],_=>hb kV doc pm an Pu ct v0 v1 v2) (λf Pu A outer s H E F hr=>Px S.nd hr) hp
theorem ai.pg4(N:List Str){a b c d:Str}(h:ai K mg x st)
  (Px:∀{f:Addr} {Pu:Value} {A:Around} {outer:List Env} {s:Shared} {H:Hp} {E:XK} {F:Fm},N.Nodup->br k (A.deeper (envOfC x (aV st) s.heap.objs.size f Pu))->kx (hZ lj P w K mg base N x (aV st) f Pu A outer s H E).nox F (dZ st) us)
  (hp:∀as R,psp as R->as.length=[a,b,c,d].length/\us {nx:=λ_=>R nT,rt:=R} (jC N.length as))
  (S:dN N [a,b,c,d] (aV st):=by exact ke (by decide +kernel))
  (hb:∀(kV doc pm:Value) (an:Option Addr) (Pu ct v0 v1 v2 v3:Value),bindArgs (W.fnOf x x (fZ st) (dZ st) (aV st) .none kV doc pm an Pu ct) ⟨[v0,v1,v2,v3],[]⟩=pure ([a,b,c,d].zip [v0,v1,v2,v3]):=by exact λ_ _ _ _ _ _ _ _ _ _=>rfl):ae P w K mg base (k+1) x [a,b,c,d] psp:=
 h.pgood S (λkV doc pm an Pu ct us hl=>match us,hl with|[v0,v1,v2,v3],_=>hb kV doc pm an Pu ct v0 v1 v2 v3) (λf Pu A outer s H E F hr=>Px S.nd hr) hp
end
end L2
namespace ShowM
variable{M:Type}[DecidableEq M]
noncomputable def t6(mk:Nat->M)(hd:List Nat)(lo hi:Int)(ms:List M)(x:List Nat):Prop:=∃r,x=hd++r/\lo<=(r.length:Int)/\(r.length:Int)<=hi/\∀c∈r,mk c∈ms
structure ka (mk:Nat->M) (hd:List Nat) (lo hi:Int) (ms:List M) (S:List (List Nat)):Prop where
 some:∃(n:Nat) (G:List Nat),1<=n/\7<=G.length/\G.Nodup/\(∀m∈ms,∃c∈G,mk c=m)/\∀g∈G,hd++List.replicate n g∈S
 low:∃r:List Nat,(r.length:Int)<=lo/\hd++r∈S
 high:∃r:List Nat,hi<=(r.length:Int)/\hd++r∈S
theorem nodup_le{α:Type}[DecidableEq α]:∀{l m:List α},l.Nodup->(∀x∈l,x∈m)->l.length<=m.length
 |[],m,_,_=>d8 _
 |x::l,m,hn,hs=>by
  have hx:=hs x ib;have h2:=qD1_.mp hn;have ih:=nodup_le (l:=l) (m:=m.erase x) h2.2 λy hy=>(List.mem_erase_of_ne (show y≠x from λe=>h2.1 (by rw[<-e];exact hy))).mpr (hs y (ia _ hy))
  rw[su hx]at ih;have:0<m.length:=List.length_pos_of_mem hx;rw[iw];omega
theorem ka.few{mk:Nat->M}{hd:List Nat}{lo hi:Int}{ms:List M}{S:List (List Nat)}(T:ka mk hd lo hi ms S){ss:List (List Nat)}(h6:ss.length<=6)(h:∀x∈S,x∈ss):False:=by
 obtain⟨n,G,n1,g7,nd,_,hG⟩:=T.some;have hn:(G.map λg=>hd++List.replicate n g).Nodup:=by
  unfold List.Nodup;rw[kn];refine nd.imp λ{a b} ne e=>ne ?_
  have e:=nz e;obtain⟨k,rfl⟩:∃k,n=k+1:=⟨n-1,by omega⟩
  rw[dg,dg]at e;exact(List.cons.inj e).1
 have:=nodup_le hn λx hx=>by
  obtain⟨g,hg,rfl⟩:=qd_.mp hx;exact h _ (hG g hg)
 rw[aq]at this;omega
theorem ka.make{mk:Nat->M}{hd hd2:List Nat}{lo hi lo2 hi2:Int}{ms ms2:List M}{S:List (List Nat)}(T:ka mk hd lo hi ms S)(h:∀x∈S,t6 mk hd2 lo2 hi2 ms2 x):∀x,t6 mk hd lo hi ms x->t6 mk hd2 lo2 hi2 ms2 x:=by
 obtain⟨n,G,n1,g7,nd,cov,hG⟩:=T.some;obtain⟨d,hd'⟩:∃d,hd=hd2++d:=by
  match G,g7,nd,hG with
  |g1::g2::G',_,nd,hG=>
   obtain⟨r1,e1,_⟩:=h _ (hG g1 (by simp));obtain⟨r2,e2,_⟩:=h _ (hG g2 (by simp));have ne:g1≠g2:=by
    have:=(qD1_.mp nd).1;simp at this;exact this.1
   obtain⟨k,rfl⟩:∃k,n=k+1:=⟨n-1,by omega⟩
   rw[List.append_eq_append_iff]at e1 e2;rcases e1 with⟨a,ha,hb⟩|⟨a,ha,hb⟩
   ·rcases e2 with⟨a',ha',hb'⟩|⟨a',ha',hb'⟩
    ·have:a=a':=nz (ha.symm.trans ha');subst this;cases a with
     |nil=>exact⟨[],by simpa using ha.symm⟩
     |cons y a=>
      rw[dg,j5]at hb hb';exact absurd ((List.cons.inj hb).1.trans (List.cons.inj hb').1.symm) ne
    ·exact⟨a',ha'⟩
   ·exact⟨a,ha⟩
 subst hd';have strip:∀{r:List Nat},(hd2++d)++r∈S->lo2<=((d++r).length:Int)/\((d++r).length:Int)<=hi2/\∀c∈d++r,mk c∈ms2:=λ{r} hr=>by
  obtain⟨r',e,h1,h2,h3⟩:=h _ hr;rw[fo]at e;have:=nz e;rw[this];exact⟨h1,h2,h3⟩
 obtain⟨rl,l1,l2⟩:=T.low;obtain⟨rh,h1,h2⟩:=T.high;have sl:=strip l2;have sh:=strip h2;rintro x ⟨r,rfl,r1,r2,r3⟩;refine⟨d++r,by rw[fo],?_,?_,λc hc=>?_⟩
 ·have:=sl.1;rw[b8]at this ⊢;omega
 ·have:=sh.2.1;rw[b8]at this ⊢;omega
 ·rcases qr_.mp hc with z|z
  ·exact sl.2.2 c (fe _ z)
  ·obtain⟨g,hg,e⟩:=cov _ (r3 c z);rw[<-e];obtain⟨k,rfl⟩:∃k,n=k+1:=⟨n-1,by omega⟩
   exact(strip (hG g hg)).2.2 g (de _ (by rw[dg];exact ib))
end ShowM
namespace CutM
open RunM GcdM
structure IsR (S:Int->Prop) (r:R3):Prop where
 lo:S r.1
 lo':∀n,S n->r.1<=n
 hi:S r.2.1
 hi':∀n,S n->n<=r.2.1
 nn:0<=r.2.2
 dv:∀d,d ∣ r.2.2↔∀n,S n->d ∣ (n-r.1)
theorem isR_of{ns:List Int}{m M:Int}(h1:m∈ns)(h2:∀x∈ns,m<=x)(h3:M∈ns)(h4:∀x∈ns,x<=M):IsR (·∈ns) (m,M,stepOf m ns):=by
 refine⟨h1,h2,h3,h4,qY (jl 0),λd=>?_⟩;show d ∣ stepOf m ns↔_;unfold stepOf;rw[xA];exact⟨λh=>h.2,λh=>⟨jk _,h⟩⟩
theorem IsR.ok{S:Int->Prop}{r:R3}(h:IsR S r):Ok r:=by
 have key:r.2.1=r.1->r.2.2=0:=λe=>by
  have:(0:Int) ∣ r.2.2:=(h.dv 0).mpr λn hn=>by
   have h1:=h.lo' n hn;have h2:=h.hi' n hn;rw[show n-r.1=0 by omega];exact jk _
  exact qw2_.mp this
 refine⟨h.nn,λz=>?_,λz=>⟨?_,(h.dv _).mp (kj _) _ h.hi⟩⟩
 ·have:=(h.dv 0).mp (by rw[z];exact jk _) _ h.hi;have:=qw2_.mp this;omega
 ·have h1:=h.lo' _ h.hi;rcases Int.lt_or_le r.1 r.2.1 with q|q
  ·exact q
  ·have:=key (by omega);omega
theorem R3.ext{a b:R3}(h1:a.1=b.1)(h2:a.2.1=b.2.1)(h3:a.2.2=b.2.2):a=b:=by
 obtain⟨x,y,z⟩:=a;obtain⟨x',y',z'⟩:=b;simp only at h1 h2 h3;rw[h1,h2,h3]
theorem IsR.unique{S:Int->Prop}{r r':R3}(h:IsR S r)(h':IsR S r'):r=r':=by
 have e1:r.1=r'.1:=by
  have:=h.lo' _ h'.lo;have:=h'.lo' _ h.lo;omega
 have e2:r.2.1=r'.2.1:=by
  have:=h.hi' _ h'.hi;have:=h'.hi' _ h.hi;omega
 refine R3.ext e1 e2 (wQ h.nn h'.nn λd=>?_);rw[h.dv,h'.dv,e1]
theorem IsR.congr{S T:Int->Prop}{r:R3}(h:IsR S r)(e:∀n,S n↔T n):IsR T r:=
 ⟨(e _).mp h.lo,λn hn=>h.lo' n ((e n).mpr hn),(e _).mp h.hi,λn hn=>h.hi' n ((e n).mpr hn),h.nn,λd=>(h.dv d).trans ⟨λk n hn=>k n ((e n).mpr hn),λk n hn=>k n ((e n).mp hn)⟩⟩
theorem IsR.join{S T:Int->Prop}{a b:R3}(ha:IsR S a)(hb:IsR T b):IsR (λn=>S n\/T n) (joinR a b):=by
 have s1:Sub a (joinR a b):=Di;have s2:Sub b (joinR a b):=Mc;have l1:=s1.lo;have l2:=s2.lo;have l3:=s1.hi;have l4:=s2.hi;refine⟨?_,λn hn=>?_,?_,λn hn=>?_,pC _ _,λd=>?_⟩
 ·show S (if b.1<a.1 then b.1 else a.1)\/T (if b.1<a.1 then b.1 else a.1);split
  ·exact .inr hb.lo
  ·exact .inl ha.lo
 ·rcases hn with z|z
  ·have:=ha.lo' n z;omega
  ·have:=hb.lo' n z;omega
 ·show S (if b.2.1 > a.2.1 then b.2.1 else a.2.1)\/T (if b.2.1 > a.2.1 then b.2.1 else a.2.1);split
  ·exact .inr hb.hi
  ·exact .inl ha.hi
 ·rcases hn with z|z
  ·have:=ha.hi' n z;omega
  ·have:=hb.hi' n z;omega
 ·show d ∣ g (g a.2.2 b.2.2) (a.1-b.1)↔_;rw[g_dvd,g_dvd,ha.dv,hb.dv];have el:(joinR a b).1=a.1\/(joinR a b).1=b.1:=by
   show(if b.1<a.1 then b.1 else a.1)=a.1\/(if b.1<a.1 then b.1 else a.1)=b.1;split
   ·exact .inr rfl
   ·exact .inl rfl
  constructor
  ·rintro⟨⟨h1,h2⟩,h3⟩;have k1:d ∣ (a.1-(joinR a b).1):=by
    rcases el with e|e<;>rw[e]
    ·rw[ma];exact jk _
    ·exact h3
   have k2:d ∣ (b.1-(joinR a b).1):=by
    rcases el with e|e<;>rw[e]
    ·rw[show b.1-a.1 = -(a.1-b.1) by omega];exact Int.dvd_neg.mpr h3
    ·rw[ma];exact jk _
   intro n hn;rcases hn with z|z
   ·have:=md (h1 n z) k1;rw[show n-a.1+(a.1-(joinR a b).1)=n-(joinR a b).1 by omega]at this;exact this
   ·have:=md (h2 n z) k2;rw[show n-b.1+(b.1-(joinR a b).1)=n-(joinR a b).1 by omega]at this;exact this
  ·intro h;have k1:=h _ (.inl ha.lo);have k2:=h _ (.inr hb.lo);refine⟨⟨λn hn=>?_,λn hn=>?_⟩,?_⟩
   ·have:=ki (h n (.inl hn)) k1;rw[show n-(joinR a b).1-(a.1-(joinR a b).1)=n-a.1 by omega]at this;exact this
   ·have:=ki (h n (.inr hn)) k2;rw[show n-(joinR a b).1-(b.1-(joinR a b).1)=n-b.1 by omega]at this;exact this
   ·have:=ki k1 k2;rw[show a.1-(joinR a b).1-(b.1-(joinR a b).1)=a.1-b.1 by omega]at this;exact this
end CutM
namespace L2
open PySem PySem.Spec PyProof.Rows WordM
noncomputable def bM:List Int->Int
 |[]=>0
 |[x]=>x
 |x::y::l=>min x (bM (y::l))
noncomputable def bV:List Int->Int
 |[]=>0
 |[x]=>x
 |x::y::l=>max x (bV (y::l))
theorem iI:∀{l:List Int},l≠[]->bM l∈l/\∀x∈l,bM l<=x
 |[],h=>absurd rfl h
 |[x],_=>⟨.head _,λy hy=>by rw[qX_.mp hy];exact jl _⟩
 |x::y::l,_=>by
  obtain⟨a,b⟩:=iI (l:=y::l) (by simp);rw[bM];refine⟨?_,λz hz=>?_⟩
  ·by_cases h:x<=bM (y::l)
   ·rw[Int.min_eq_left h];exact .head _
   ·rw[Int.min_eq_right (by omega)];exact .tail _ a
  ·rcases qk_.mp hz with rfl|hz
   ·omega
   ·have:=b z hz;omega
theorem iJ:∀{l:List Int},l≠[]->bV l∈l/\∀x∈l,x<=bV l
 |[],h=>absurd rfl h
 |[x],_=>⟨.head _,λy hy=>by rw[qX_.mp hy];exact jl _⟩
 |x::y::l,_=>by
  obtain⟨a,b⟩:=iJ (l:=y::l) (by simp);rw[bV];refine⟨?_,λz hz=>?_⟩
  ·by_cases h:x<=bV (y::l)
   ·rw[Int.max_eq_right h];exact .tail _ a
   ·rw[Int.max_eq_left (by omega)];exact .head _
  ·rcases qk_.mp hz with rfl|hz
   ·omega
   ·have:=b z hz;omega
theorem yG{l:List Int}{m:Int}(h1:m∈l)(h2:∀x∈l,m<=x):bM l=m:=by
 obtain⟨a,b⟩:=iI (l:=l) (λz=>by rw[z]at h1;exact nomatch h1);have:=b m h1;have:=h2 _ a;omega
theorem yH{l:List Int}{m:Int}(h1:m∈l)(h2:∀x∈l,x<=m):bV l=m:=by
 obtain⟨a,b⟩:=iJ (l:=l) (λz=>by rw[z]at h1;exact nomatch h1);have:=b m h1;have:=h2 _ a;omega
theorem Bt{l m:List Int}(hl:l≠[])(hm:m≠[]):bM (l++m)=min (bM l) (bM m):=by
 obtain⟨a,b⟩:=iI hl;obtain⟨c,d⟩:=iI hm;refine yG ?_ λx hx=>?_
 ·by_cases h:bM l<=bM m
  ·rw[Int.min_eq_left h];exact fe _ a
  ·rw[Int.min_eq_right (by omega)];exact de _ c
 ·rcases qr_.mp hx with hx|hx
  ·have:=b x hx;omega
  ·have:=d x hx;omega
theorem Br{l m:List Int}(hl:l≠[])(hm:m≠[]):bV (l++m)=max (bV l) (bV m):=by
 obtain⟨a,b⟩:=iJ hl;obtain⟨c,d⟩:=iJ hm;refine yH ?_ λx hx=>?_
 ·by_cases h:bV l<=bV m
  ·rw[Int.max_eq_right h];exact de _ c
  ·rw[Int.max_eq_left (by omega)];exact fe _ a
 ·rcases qr_.mp hx with hx|hx
  ·have:=b x hx;omega
  ·have:=d x hx;omega
theorem C8{l m:List Int}(h:∀x,x∈l↔x∈m):bM l=bM m:=by
 by_cases e:l=[]
 ·subst e;cases m with
  |nil=>rfl
  |cons x m=>exact nomatch (h x).mpr (.head _)
 ·obtain⟨a,b⟩:=iI e;exact(yG ((h _).mp a) λx hx=>b x ((h x).mpr hx)).symm
theorem C5{l m:List Int}(h:∀x,x∈l↔x∈m):bV l=bV m:=by
 by_cases e:l=[]
 ·subst e;cases m with
  |nil=>rfl
  |cons x m=>exact nomatch (h x).mpr (.head _)
 ·obtain⟨a,b⟩:=iJ e;exact(yH ((h _).mp a) λx hx=>b x ((h x).mpr hx)).symm
noncomputable def cK(ns:List Int):GcdM.R3:=(bM ns,bV ns,GcdM.stepOf (bM ns) ns)
theorem jN{ns:List Int}(h:ns≠[]):CutM.IsR (·∈ns) (cK ns):=by
 obtain⟨a,b⟩:=iI h;obtain⟨c,d⟩:=iJ h;exact CutM.isR_of a b c d
theorem Dc{ns:List Int}{r:GcdM.R3}(h:CutM.IsR (·∈ns) r):r=cK ns:=h.unique (jN λz=>by have:=h.lo;rw[z]at this;exact nomatch this)
theorem N4{ns ms:List Int}(h:∀x,x∈ns↔x∈ms):cK ns=cK ms:=by
 by_cases e:ns=[]
 ·subst e;cases ms with
  |nil=>rfl
  |cons x m=>exact nomatch (h x).mpr (.head _)
 ·exact Dc ((jN e).congr h)
theorem MV{ns ms:List Int}(h1:ns≠[])(h2:ms≠[]):GcdM.joinR (cK ns) (cK ms)=cK (ns++ms):=
 Dc (((jN h1).join (jN h2)).congr λn=>qr_.symm)
noncomputable def lb:List Nat->List Nat->List Nat
 |a::x,b::y=>if a=b then a::lb x y else []
 |_,_=>[]
theorem Bo:∀x y:List Nat,∃r,x=lb x y++r
 |[],y=>⟨[],by cases y<;>rfl⟩
 |a::x,[]=>⟨a::x,rfl⟩
 |a::x,b::y=>by
  rw[lb];split
  ·obtain⟨r,e⟩:=Bo x y;exact⟨r,by rw[j5,<-e]⟩
  ·exact⟨a::x,rfl⟩
theorem C1:∀x y:List Nat,∃r,y=lb x y++r
 |[],y=>⟨y,by cases y<;>rfl⟩
 |a::x,[]=>⟨[],rfl⟩
 |a::x,b::y=>by
  rw[lb];split
  ·rename_i h;obtain⟨r,e⟩:=C1 x y;exact⟨r,by rw[j5,<-e,h]⟩
  ·exact⟨b::y,rfl⟩
theorem B4:∀(h x y r1 r2:List Nat),x=h++r1->y=h++r2->∃r,lb x y=h++r
 |[],x,y,_,_,_,_=>⟨lb x y,rfl⟩
 |a::h,x,y,r1,r2,e1,e2=>by
  subst e1 e2;obtain⟨r,e⟩:=B4 h (h++r1) (h++r2) r1 r2 rfl rfl;exact⟨r,by rw[j5,j5,lb,if_pos rfl,e];rfl⟩
structure bo (ts:List Str) (hd:Str):Prop where
 all:∀t∈ts,∃r,cs t=cs hd++r
 top:∀h:List Nat,(∀t∈ts,∃r,cs t=h++r)->h.length<=(cs hd).length
theorem HH{x y:List Nat}{z:List Nat}{r1 r2:List Nat}(e1:z=x++r1)(e2:z=y++r2)(l:x.length<=y.length):∃r,y=x++r:=by
 refine⟨y.drop x.length,?_⟩;have:y.take x.length=x:=by
  have h1:z.take x.length=x:=by rw[e1,List.take_left]
  have h2:z.take x.length=y.take x.length:=by rw[e2,List.take_append_of_le_length l]
  rw[<-h2,h1]
 exact(qy x.length y).symm.trans (by rw[this])
theorem bo.pre{ts:List Str}{hd:Str}(ne:ts≠[])(a:bo ts hd){h:List Nat}(k:∀t∈ts,∃r,cs t=h++r):∃r,cs hd=h++r:=by
 obtain⟨t,ht⟩:=ic _ ne;obtain⟨r1,e1⟩:=k t ht;obtain⟨r2,e2⟩:=a.all t ht;exact HH e1 e2 (a.top h k)
theorem M7{ts:List Str}{h1 h2:Str}(ne:ts≠[])(a:bo ts h1)(b:bo ts h2):h1=h2:=by
 obtain⟨t,ht⟩:=ic _ ne;obtain⟨r1,e1⟩:=a.all t ht;obtain⟨r2,e2⟩:=b.all t ht;have l1:=a.top _ b.all;have l2:=b.top _ a.all;exact jQ (List.append_inj_left (e1.symm.trans e2) (by omega))
theorem bo.same{ts us:List Str}{hd:Str}(a:bo ts hd)(h:∀x,x∈ts↔x∈us):bo us hd:=⟨λt ht=>a.all t ((h t).mpr ht),λk hk=>a.top k λt ht=>hk t ((h t).mp ht)⟩
noncomputable def fR:List Str->List Nat
 |[]=>[]
 |[t]=>cs t
 |t::u::l=>lb (cs t) (fR (u::l))
theorem xK:∀{ts:List Str},ts≠[]->bo ts ⟨(fR ts).toArray⟩
 |[],h=>absurd rfl h
 |[t],_=>⟨λu hu=>⟨[],by rw[qX_.mp hu,i8];rfl⟩,λh k=>by
  obtain⟨r,e⟩:=k t (.head _);show h.length<=(cs t).length
  rw[e,b8];omega⟩
 |t::u::l,_=>by
  have ih:=xK (ts:=u::l) (by simp);have eh:cs ⟨(fR (t::u::l)).toArray⟩=lb (cs t) (fR (u::l)):=rfl;have eh':cs ⟨(fR (u::l)).toArray⟩=fR (u::l):=rfl;refine⟨λx hx=>?_,λh k=>?_⟩
  ·rw[eh];rcases qk_.mp hx with rfl|hx
   ·exact Bo _ _
   ·obtain⟨r,e⟩:=ih.all x hx;obtain⟨r',e'⟩:=C1 (cs t) (fR (u::l));rw[eh']at e;exact⟨r'++r,by rw[e,<-fo,<-e']⟩
  ·obtain⟨r1,e1⟩:=k t (.head _);obtain⟨r2,e2⟩:=ih.pre (by simp) λx hx=>k x (.tail _ hx)
   rw[eh']at e2;obtain⟨r,e⟩:=B4 h _ _ r1 r2 e1 e2;rw[eh,e,b8];omega
theorem Kk{A B:List Str}{h1 h2 hd:Str}(n1:A≠[])(n2:B≠[])(a:bo A h1)(b:bo B h2)(h:bo [h1,h2] hd):bo (A++B) hd:=by
 obtain⟨r1,e1⟩:=h.all h1 (.head _);obtain⟨r2,e2⟩:=h.all h2 (.tail _ (.head _));refine⟨λt ht=>?_,λk hk=>h.top k λt ht=>?_⟩
 ·rcases qr_.mp ht with ht|ht
  ·obtain⟨r,e⟩:=a.all t ht;exact⟨r1++r,by rw[e,e1,fo]⟩
  ·obtain⟨r,e⟩:=b.all t ht;exact⟨r2++r,by rw[e,e2,fo]⟩
 ·simp only[qk_,fb,or_false]at ht;rcases ht with rfl|rfl
  ·exact a.pre n1 λx hx=>hk x (fe _ hx)
  ·exact b.pre n2 λx hx=>hk x (de _ hx)
noncomputable def kM(ts:List Str)(hd:Str):List Str:=MK.filter λm=>ts.any λt=>(cs (aZ t hd)).any λc=>decide (cU c=m)
theorem kD{ts:List Str}{hd m:Str}:m∈kM ts hd↔∃t∈ts,∃c∈cs (aZ t hd),cU c=m:=by
 unfold kM;rw[qS_,qA_];constructor
 ·rintro⟨_,t,ht,h⟩;obtain⟨c,hc,e⟩:=qA_.mp h;exact⟨t,ht,c,hc,gm e⟩
 ·rintro⟨t,ht,c,hc,rfl⟩;exact⟨pL c,t,ht,qA_.mpr ⟨c,hc,cm rfl⟩⟩
theorem vX(ts:List Str)(hd:Str):fE (kM ts hd):=List.Pairwise.sublist List.filter_sublist Jc
structure jv (ts:List Str) (hd:Str) (lo hi:Int) (ms:List Str):Prop where
 he:bo ts hd
 lo1:∃t∈ts,(t.length:Int)-(hd.length:Int)=lo
 lo2:∀t∈ts,lo<=(t.length:Int)-(hd.length:Int)
 hi1:∃t∈ts,(t.length:Int)-(hd.length:Int)=hi
 hi2:∀t∈ts,(t.length:Int)-(hd.length:Int)<=hi
 mks:ms=kM ts hd
theorem rO{xs ys:List Str}(hx:fE xs)(hy:fE ys)(h:∀x,x∈xs↔x∈ys):xs=ys:=
 (sG hx hy λx hx=>(h x).mp hx).eq_of_length_le (sG hy hx λx hx=>(h x).mpr hx).length_le
theorem jv.same{ts us:List Str}{hd:Str}{lo hi:Int}{ms:List Str}(m:jv ts hd lo hi ms)(h:∀x,x∈ts↔x∈us):jv us hd lo hi ms:=by
 obtain⟨t1,a1,b1⟩:=m.lo1;obtain⟨t2,a2,b2⟩:=m.hi1;refine⟨m.he.same h,⟨t1,(h _).mp a1,b1⟩,λt ht=>m.lo2 t ((h t).mpr ht),⟨t2,(h _).mp a2,b2⟩,λt ht=>m.hi2 t ((h t).mpr ht),?_⟩;rw[m.mks];refine rO (vX _ _) (vX _ _) λx=>?_
 rw[kD,kD];exact⟨λ⟨t,ht,z⟩=>⟨t,(h t).mp ht,z⟩,λ⟨t,ht,z⟩=>⟨t,(h t).mpr ht,z⟩⟩
theorem jv.ne{ts:List Str}{hd:Str}{lo hi:Int}{ms:List Str}(m:jv ts hd lo hi ms):ts≠[]:=λz=>by
 obtain⟨t,ht,_⟩:=m.lo1;rw[z]at ht;exact nomatch ht
theorem jv.uniq{ts:List Str}{hd hd2:Str}{lo hi lo2 hi2:Int}{ms ms2:List Str}(a:jv ts hd lo hi ms)(b:jv ts hd2 lo2 hi2 ms2):hd=hd2/\lo=lo2/\hi=hi2/\ms=ms2:=by
 have e:=M7 a.ne a.he b.he;subst e;obtain⟨t1,a1,b1⟩:=a.lo1;obtain⟨t2,a2,b2⟩:=a.hi1;obtain⟨u1,c1,d1⟩:=b.lo1;obtain⟨u2,c2,d2⟩:=b.hi1;have x1:=b.lo2 t1 a1;have x2:=a.lo2 u1 c1;have x3:=b.hi2 t2 a2;have x4:=a.hi2 u2 c2;exact⟨rfl,by omega,by omega,by rw[a.mks,b.mks]⟩
theorem xB{t h1 hd:Str}{r1 r:List Nat}(e1:cs h1=cs hd++r1)(e:cs t=cs h1++r):cs (aZ t hd)=cs (aZ h1 hd)++cs (aZ t h1):=by
 rw[gI e,gI e1,gI (show cs t=cs hd++(r1++r) by rw[e,e1,fo])]
theorem Kx{t hd:Str}(h:Sg t){r:List Nat}(e:cs t=cs hd++r):Sg (aZ t hd):=λc hc=>by
 rw[gI e]at hc;exact h c (by rw[e];exact de _ hc)
theorem MB{x m:Str}(h:Sg x):m∈dD x↔∃c∈cs x,cU c=m:=by
 rw[dD,qS_,iS,qA_];constructor
 ·rintro⟨hm,c,hc,hd⟩;exact⟨c,hc,(nG (h c hc) m hm).mp (gm hd)⟩
 ·rintro⟨c,hc,rfl⟩;exact⟨pL c,c,hc,cm ((nG (h c hc) _ (pL c)).mpr rfl)⟩
noncomputable def jy(ms ms':List Str):List Str:=bF (aN (ms++ms'))
theorem jv.shorter{A:List Str}{h1 hd:Str}{lo hi:Int}{ms:List Str}(a:jv A h1 lo hi ms)(sg:Sg h1){r1:List Nat}(e1:cs h1=cs hd++r1):
  (∃t∈A,(t.length:Int)-(hd.length:Int)=lo+(aZ h1 hd).length)/\(∀t∈A,lo+(aZ h1 hd).length<=(t.length:Int)-(hd.length:Int))/\(∃t∈A,(t.length:Int)-(hd.length:Int)=hi+(aZ h1 hd).length)/\(∀t∈A,(t.length:Int)-(hd.length:Int)<=hi+(aZ h1 hd).length)/\∀m,m∈jy ms (dD (aZ h1 hd))↔∃t∈A,∃c∈cs (aZ t hd),cU c=m:=by
 have el:(h1.length:Int)=hd.length+(aZ h1 hd).length:=by
  rw[WordM.len h1,WordM.len hd,WordM.len (aZ h1 hd),gI e1,e1,b8];push_cast;rfl
 obtain⟨t1,a1,b1⟩:=a.lo1;obtain⟨t2,a2,b2⟩:=a.hi1;refine⟨⟨t1,a1,by omega⟩,λt ht=>by have:=a.lo2 t ht;omega,⟨t2,a2,by omega⟩,λt ht=>by have:=a.hi2 t ht;omega,λm=>?_⟩;unfold jy;rw[sort_set_mem,qr_,a.mks,kD,MB (Kx sg e1)];constructor
 ·rintro (⟨t,ht,c,hc,e⟩|⟨c,hc,e⟩)
  ·obtain⟨r,er⟩:=a.he.all t ht;exact⟨t,ht,c,by rw[xB e1 er];exact de _ hc,e⟩
  ·obtain⟨r,er⟩:=a.he.all t1 a1;exact⟨t1,a1,c,by rw[xB e1 er];exact fe _ hc,e⟩
 ·rintro⟨t,ht,c,hc,e⟩;obtain⟨r,er⟩:=a.he.all t ht;rw[xB e1 er]at hc;rcases qr_.mp hc with hc|hc
  ·exact .inr ⟨c,hc,e⟩
  ·exact .inl ⟨t,ht,c,hc,e⟩
theorem jv.app{A B:List Str}{h1 h2 hd:Str}{lo1 hi1 lo2 hi2:Int}{ms1 ms2:List Str}(a:jv A h1 lo1 hi1 ms1)(b:jv B h2 lo2 hi2 ms2)(s1:Sg h1)(s2:Sg h2)(h:bo [h1,h2] hd):
  jv (A++B) hd (min (lo1+(aZ h1 hd).length) (lo2+(aZ h2 hd).length)) (max (hi1+(aZ h1 hd).length) (hi2+(aZ h2 hd).length)) (jy (jy ms1 (dD (aZ h1 hd))) (jy ms2 (dD (aZ h2 hd)))):=by
 obtain⟨r1,e1⟩:=h.all h1 (.head _);obtain⟨r2,e2⟩:=h.all h2 (.tail _ (.head _));obtain⟨⟨t1,p1,q1⟩,x1,⟨u1,p2,q2⟩,y1,m1⟩:=a.shorter s1 e1;obtain⟨⟨t2,p3,q3⟩,x2,⟨u2,p4,q4⟩,y2,m2⟩:=b.shorter s2 e2;generalize lo1+((aZ h1 hd).length:Int)=l1 at *;generalize hi1+((aZ h1 hd).length:Int)=g1 at *;generalize lo2+((aZ h2 hd).length:Int)=l2 at *;generalize hi2+((aZ h2 hd).length:Int)=g2 at *;refine⟨Kk a.ne b.ne a.he b.he h,?_,λt ht=>?_,?_,λt ht=>?_,?_⟩
 ·by_cases z:l1<=l2
  ·exact⟨t1,fe _ p1,by omega⟩
  ·exact⟨t2,de _ p3,by omega⟩
 ·rcases qr_.mp ht with ht|ht
  ·have:=x1 t ht;omega
  ·have:=x2 t ht;omega
 ·by_cases z:g1<=g2
  ·exact⟨u2,de _ p4,by omega⟩
  ·exact⟨u1,fe _ p2,by omega⟩
 ·rcases qr_.mp ht with ht|ht
  ·have:=y1 t ht;omega
  ·have:=y2 t ht;omega
 ·refine rO (iC _) (vX _ _) λm=>?_
  have jm:m∈jy (jy ms1 (dD (aZ h1 hd))) (jy ms2 (dD (aZ h2 hd)))↔m∈jy ms1 (dD (aZ h1 hd))++jy ms2 (dD (aZ h2 hd)):=sort_set_mem;rw[jm,qr_,m1,m2,kD];constructor
  ·rintro (⟨t,ht,z⟩|⟨t,ht,z⟩)
   ·exact⟨t,fe _ ht,z⟩
   ·exact⟨t,de _ ht,z⟩
  ·rintro⟨t,ht,z⟩;rcases qr_.mp ht with ht|ht
   ·exact .inl ⟨t,ht,z⟩
   ·exact .inr ⟨t,ht,z⟩
noncomputable def qh(ts:List Str):Wd->Prop
 |.few ss=>ss=bF (aN ts)/\(aN ts).length<7
 |.make hd lo hi ms=>7<=(aN ts).length/\jv ts hd lo hi ms
theorem mT{ts us:List Str}(h:∀x,x∈ts↔x∈us):(aN ts).length=(aN us).length/\bF (aN ts)=bF (aN us):=by
 have p:(aN ts).Perm (aN us):=(kh (eI _) (eI _)).mpr λx=>by rw[dM,dM,h]
 exact⟨p.length_eq,rO (iC _) (iC _) λx=>by rw[sort_set_mem,sort_set_mem,h]⟩
theorem qh.same{ts us:List Str}(h:∀x,x∈ts↔x∈us):∀{W:Wd},qh ts W->qh us W
 |.few ss,w=>⟨by rw[<-(mT h).2];exact w.1,by rw[<-(mT h).1];exact w.2⟩
 |.make ..,w=>⟨by rw[<-(mT h).1];exact w.1,w.2.same h⟩
theorem qh.uniq{ts:List Str}:∀{W W2:Wd},qh ts W->qh ts W2->W=W2
 |.few ss,.few ss2,a,b=>by rw[a.1,b.1]
 |.few ss,.make ..,a,b=>by have:=a.2;have:=b.1;omega
 |.make ..,.few ss,a,b=>by have:=a.1;have:=b.2;omega
 |.make ..,.make ..,a,b=>by
  obtain⟨e1,e2,e3,e4⟩:=a.2.uniq b.2;rw[e1,e2,e3,e4]
noncomputable def gR(ts:List Str):Wd:=
 .make ⟨(fR ts).toArray⟩ (bM (ts.map λt=>(t.length:Int)-((⟨(fR ts).toArray⟩:Str).length:Int))) (bV (ts.map λt=>(t.length:Int)-((⟨(fR ts).toArray⟩:Str).length:Int))) (kM ts ⟨(fR ts).toArray⟩)
theorem kL{ts:List Str}(h:ts≠[]):∃hd lo hi ms,gR ts=.make hd lo hi ms/\jv ts hd lo hi ms:=by
 refine⟨_,_,_,_,rfl,xK h,?_,λt ht=>?_,?_,λt ht=>?_,rfl⟩
 ·obtain⟨t,ht,e⟩:=qd_.mp (iI (l:=ts.map λt=>(t.length:Int)-((⟨(fR ts).toArray⟩:Str).length:Int)) (by simpa using h)).1;exact⟨t,ht,e⟩
 ·exact(iI (l:=ts.map λt=>(t.length:Int)-((⟨(fR ts).toArray⟩:Str).length:Int)) (by simpa using h)).2 _ (qd_.mpr ⟨t,ht,rfl⟩)
 ·obtain⟨t,ht,e⟩:=qd_.mp (iJ (l:=ts.map λt=>(t.length:Int)-((⟨(fR ts).toArray⟩:Str).length:Int)) (by simpa using h)).1;exact⟨t,ht,e⟩
 ·exact(iJ (l:=ts.map λt=>(t.length:Int)-((⟨(fR ts).toArray⟩:Str).length:Int)) (by simpa using h)).2 _ (qd_.mpr ⟨t,ht,rfl⟩)
noncomputable def bP(ts:List Str):Wd:=if (aN ts).length<7 then .few (bF (aN ts)) else gR ts
theorem lQ{ts:List Str}(h:ts≠[]):qh ts (bP ts):=by
 unfold bP;split
 ·rename_i z;exact⟨rfl,z⟩
 ·obtain⟨hd,lo,hi,ms,e,m⟩:=kL h;rw[e];exact⟨by omega,m⟩
theorem JY{ts:List Str}(h:ts≠[]){W:Wd}(w:qh ts W):W=bP ts:=w.uniq (lQ h)
theorem oR{ts us:List Str}(h:∀x,x∈ts↔x∈us):bP ts=bP us:=by
 by_cases e:ts=[]
 ·subst e;cases us with
  |nil=>rfl
  |cons x m=>exact nomatch (h x).mpr (.head _)
 ·have ne:us≠[]:=λz=>by
   obtain⟨x,hx⟩:=ic _ e;have:=(h x).mp hx;rw[z]at this;exact nomatch this
  exact JY ne ((lQ e).same h)
noncomputable def kN6:List Nat:=[0,1,2,3,4,5]
noncomputable def mI(f:List Pt)(k:Nat):Option Pt:=f.find? λp=>decide (bA p=k)
noncomputable def eF(vs:List Tv):Bool:=vs.any λv=>qG v==0
noncomputable def gf:Tv->Option Bool
 |.leaf (.bl b)=>some b
 |_=>none
noncomputable def gc:Tv->Option Int
 |.leaf (.int i)=>some i
 |_=>none
noncomputable def gb:Tv->Option Str
 |.leaf (.str s)=>some s
 |_=>none
noncomputable def ck:Tv->Option (List Tv)
 |.seq false xs=>some xs
 |_=>none
noncomputable def d3:Tv->Option (List (Str×Tv))
 |.dct k=>some k
 |_=>none
theorem Aj{v:Tv}{b:Str}:gb v=some b↔v=.leaf (.str b):=by
 cases v with
 |leaf x=>cases x<;>simp[gb]
 |seq t xs=>simp[gb]
 |dct k=>simp[gb]
theorem Ai{v:Tv}{b:List Tv}:ck v=some b↔v=.seq false b:=by
 cases v with
 |leaf x=>cases x<;>simp[ck]
 |seq t xs=>cases t<;>simp[ck]
 |dct k=>simp[ck]
theorem Ah{v:Tv}{b:List (Str×Tv)}:d3 v=some b↔v=.dct b:=by
 cases v with
 |leaf x=>cases x<;>simp[d3]
 |seq t xs=>simp[d3]
 |dct k=>simp[d3]
noncomputable def aR(ks:List (List (Str×Tv))):List Str:=ks.flatMap λk=>k.map (·.1)
noncomputable def dG(ks:List (List (Str×Tv))):List Tv:=ks.flatMap λk=>k.map (·.2)
noncomputable def ij(n:Str)(ks:List (List (Str×Tv))):List Tv:=ks.filterMap λk=>cF k n
noncomputable def dF(ls:List (List Tv)):List Int:=ls.map λl=>((l.length:Nat):Int)
noncomputable def bO(ks:List (List (Str×Tv))):List Int:=ks.map λl=>((l.length:Nat):Int)
noncomputable abbrev nj:=Str×Bool×List Pt
noncomputable def dA(D:List Tv->List Pt)(ks:List (List (Str×Tv)))(n:Str):nj:=(n,ks.all (λk=>decide (n∈k.map (·.1))),D (ij n ks))
noncomputable def dh(D:List Tv->List Pt)(ks:List (List (Str×Tv))):Pt:=
 if (aN (aR ks)).length<=8 then .record (bM (bO ks)) (bV (bO ks)) ((bF (aN (aR ks))).map (dA D ks)) else .table (bM (bO ks)) (bV (bO ks)) (bP (aR ks)) (D (dG ks))
noncomputable def bX(D:List Tv->List Pt)(vs:List Tv):Nat->Option Pt
 |0=>if eF vs=true then some .nothing else none
 |1=>if vs.filterMap gf=[] then none else some (.truths (cq (cp (vs.filterMap gf)) (cn (vs.filterMap gf))))
 |2=>if vs.filterMap gc=[] then none else some (.numbers (cK (vs.filterMap gc)).1 (cK (vs.filterMap gc)).2.1 (cK (vs.filterMap gc)).2.2)
 |3=>if vs.filterMap gb=[] then none else some (.texts (bP (vs.filterMap gb)))
 |4=>if vs.filterMap ck=[] then none else some (.lists (bM (dF (vs.filterMap ck))) (bV (dF (vs.filterMap ck))) (D (vs.filterMap ck).flatten))
 |5=>if vs.filterMap d3=[] then none else some (dh D (vs.filterMap d3))
 |_=>none
noncomputable def bH:Nat->List Tv->List Pt
 |0,_=>[]
 |n+1,vs=>kN6.filterMap (bX (bH n) vs)
theorem wR{D:List Tv->List Pt}{vs:List Tv}{k:Nat}{p:Pt}(h:bX D vs k=some p):bA p=k:=by
 unfold bX at h;split at h
 all_goals first|(cases h;done)|skip
 all_goals
  split at h
  all_goals first|(cases h;done)|skip
 all_goals first|(cases h;rfl;done)|skip
 ·cases h;unfold dh;split<;>rfl
theorem yN{o:Nat->Option Pt}(ho:∀k p,o k=some p->bA p=k):∀(l:List Nat) (k:Nat),k∈l->l.Nodup->mI (l.filterMap o) k=o k
 |[],k,h,_=>nomatch h
 |j::l,k,h,n=>by
  have hn:=qD1_.mp n;rw[i9];by_cases z:j=k
  ·subst z;cases e:o j with
   |none=>
    dsimp only;have:mI (l.filterMap o) j=none:=by
     unfold mI;rw[qP1_];intro p hp hk;obtain⟨i,hi,ei⟩:=qT_.mp hp;have:=ho i p ei;have hk:=gm hk;rw[this]at hk;subst hk;exact hn.1 hi
    rw[this]
   |some p=>
    dsimp only;unfold mI;rw[fg,cm (ho j p e)]
  ·have hk:k∈l:=by
    rcases qk_.mp h with q|q
    ·exact absurd q.symm z
    ·exact q
   have ih:=yN ho l k hk hn.2;cases e:o j with
   |none=>exact ih
   |some p=>
    dsimp only;unfold mI;rw[fg,dq (λq=>z (by rw[<-ho j p e];exact q))];exact ih
theorem Ki{n:Nat}{vs:List Tv}{k:Nat}(h:k∈kN6):mI (bH (n+1) vs) k=bX (bH n) vs k:=yN (λ_ _=>wR) kN6 k h (by decide)
theorem pN{α:Type}{f:Tv->Option α}{A B:List Tv}(h:∀v,v∈A↔v∈B)(x:α):x∈A.filterMap f↔x∈B.filterMap f:=by
 rw[qT_,qT_];exact⟨λ⟨a,ha,e⟩=>⟨a,(h a).mp ha,e⟩,λ⟨a,ha,e⟩=>⟨a,(h a).mpr ha,e⟩⟩
theorem pB{α:Type}{A B:List α}(h:∀v,v∈A↔v∈B):(A=[])=(B=[]):=by
 rw[eq_iff_iff,qX2_,qX2_];exact⟨λk a ha=>k a ((h a).mpr ha),λk a ha=>k a ((h a).mp ha)⟩
theorem xQ{α:Type}{p:α->Bool}{A B:List α}(h:∀v,v∈A↔v∈B):A.any p=B.any p:=by
 rw[fm,qA_,qA_];exact⟨λ⟨a,ha,e⟩=>⟨a,(h a).mp ha,e⟩,λ⟨a,ha,e⟩=>⟨a,(h a).mpr ha,e⟩⟩
theorem J3{α:Type}{p:α->Bool}{A B:List α}(h:∀v,v∈A↔v∈B):A.all p=B.all p:=by
 rw[fm,qE_,qE_];exact⟨λk a ha=>k a ((h a).mpr ha),λk a ha=>k a ((h a).mp ha)⟩
theorem sK{α β:Type}{f:α->β}{A B:List α}(h:∀v,v∈A↔v∈B)(x:β):x∈A.map f↔x∈B.map f:=by
 rw[qd_,qd_];exact⟨λ⟨a,ha,e⟩=>⟨a,(h a).mp ha,e⟩,λ⟨a,ha,e⟩=>⟨a,(h a).mpr ha,e⟩⟩
theorem DA{α β:Type}{f:α->List β}{A B:List α}(h:∀v,v∈A↔v∈B)(x:β):x∈A.flatMap f↔x∈B.flatMap f:=by
 rw[qC1_,qC1_];exact⟨λ⟨a,ha,e⟩=>⟨a,(h a).mp ha,e⟩,λ⟨a,ha,e⟩=>⟨a,(h a).mpr ha,e⟩⟩
theorem Kb{D:List Tv->List Pt}(hD:∀A B:List Tv,(∀v,v∈A↔v∈B)->D A=D B){ks js:List (List (Str×Tv))}(h:∀v,v∈ks↔v∈js):dh D ks=dh D js:=by
 have hn:∀x,x∈aR ks↔x∈aR js:=DA h;have e1:bM (bO ks)=bM (bO js):=C8 (sK h);have e2:bV (bO ks)=bV (bO js):=C5 (sK h);have e3:dA D ks=dA D js:=by
  funext n;unfold dA
  rw[J3 h,hD (ij n ks) (ij n js) λv=>by
   unfold ij;rw[qT_,qT_]
   exact⟨λ⟨a,ha,e⟩=>⟨a,(h a).mp ha,e⟩,λ⟨a,ha,e⟩=>⟨a,(h a).mpr ha,e⟩⟩]
 unfold dh;rw[(mT hn).1,(mT hn).2,e1,e2,e3,oR hn,hD (dG ks) (dG js) (DA h)]
theorem Lw{D:List Tv->List Pt}(hD:∀A B:List Tv,(∀v,v∈A↔v∈B)->D A=D B){A B:List Tv}(h:∀v,v∈A↔v∈B)(k:Nat):bX D A k=bX D B k:=by
 unfold bX;split
 ·rw[show eF A=eF B from xQ h]
 ·have hb:=pN (f:=gf) h;simp only[pB hb];rw[show cp (A.filterMap gf)=cp (B.filterMap gf) from xQ hb,show cn (A.filterMap gf)=cn (B.filterMap gf) from xQ hb]
 ·have hb:=pN (f:=gc) h;simp only[pB hb];rw[N4 hb]
 ·have hb:=pN (f:=gb) h;simp only[pB hb];rw[oR hb]
 ·have hb:=pN (f:=ck) h;simp only[pB hb];have e1:bM (dF (A.filterMap ck))=bM (dF (B.filterMap ck)):=C8 (sK hb);have e2:bV (dF (A.filterMap ck))=bV (dF (B.filterMap ck)):=C5 (sK hb)
  rw[e1,e2,hD (A.filterMap ck).flatten (B.filterMap ck).flatten λv=>by
   rw[qh1_,qh1_]
   exact⟨λ⟨l,hl,e⟩=>⟨l,(hb l).mp hl,e⟩,λ⟨l,hl,e⟩=>⟨l,(hb l).mpr hl,e⟩⟩]
 ·have hb:=pN (f:=d3) h;simp only[pB hb];rw[Kb hD hb]
 ·rfl
theorem wS:∀(n:Nat) (A B:List Tv),(∀v,v∈A↔v∈B)->bH n A=bH n B
 |0,_,_,_=>rfl
 |n+1,A,B,h=>by
  show kN6.filterMap (bX (bH n) A)=kN6.filterMap (bX (bH n) B);rw[show bX (bH n) A=bX (bH n) B from funext (Lw (wS n) h)]
theorem Kd(n:Nat):bH n []=[]:=by
 cases n with
 |zero=>rfl
 |succ n=>rfl
end L2
namespace My
open PySem L2 PyProof.Rows WordM
noncomputable def top(i:Nat):Stmt:=PySem.Challenge.pw_leastform_k61_forms_of_samples_within.main.body.getD i (.Pass ⟨0,0,0,0⟩)
noncomputable abbrev DY:Stmt:=top 5
noncomputable abbrev DX:Stmt:=top 7
noncomputable abbrev DW:Stmt:=top 8
noncomputable abbrev DV:Stmt:=top 9
noncomputable abbrev DU:Stmt:=top 10
noncomputable abbrev DT:Stmt:=top 11
noncomputable abbrev DS:Stmt:=top 12
noncomputable abbrev DR:Stmt:=top 13
noncomputable abbrev wt:Stmt:=top 18
noncomputable abbrev wq:Stmt:=top 19
noncomputable abbrev yn:Stmt:=top 20
noncomputable abbrev yo:Stmt:=top 21
noncomputable abbrev vE:Stmt:=top 22
noncomputable abbrev yp:Stmt:=top 23
noncomputable abbrev vd:Stmt:=top 24
noncomputable abbrev yq:Stmt:=top 25
noncomputable abbrev yr:Stmt:=top 26
noncomputable abbrev yt:Stmt:=top 27
noncomputable abbrev yu:Stmt:=top 28
noncomputable abbrev yv:Stmt:=top 29
noncomputable abbrev ve:Stmt:=top 30
noncomputable abbrev yw:Stmt:=top 31
noncomputable abbrev vD:Stmt:=top 32
noncomputable abbrev yy:Stmt:=top 33
noncomputable abbrev yz:Stmt:=top 34
noncomputable abbrev y4:Stmt:=top 35
noncomputable abbrev vf:Stmt:=top 36
noncomputable abbrev y6:Stmt:=top 41
noncomputable abbrev y8:Stmt:=top 42
noncomputable abbrev vg:Stmt:=top 43
noncomputable abbrev vC:Stmt:=top 45
noncomputable abbrev vh:Stmt:=top 47
noncomputable abbrev qP:Stmt:=top 48
noncomputable abbrev vB:Stmt:=top 49
noncomputable abbrev y9:Stmt:=top 50
noncomputable abbrev vA:Stmt:=top 51
noncomputable abbrev vm:Stmt:=top 52
noncomputable abbrev oJ:Stmt:=top 53
noncomputable abbrev qO:Stmt:=top 54
noncomputable abbrev oI:Stmt:=top 55
noncomputable abbrev vn:Stmt:=top 57
noncomputable abbrev qN:Stmt:=top 58
noncomputable abbrev uZ:Stmt:=top 59
noncomputable abbrev vo:Stmt:=top 60
noncomputable abbrev vq:Stmt:=top 61
noncomputable abbrev uY:Stmt:=top 62
noncomputable abbrev uX:Stmt:=top 63
noncomputable abbrev vt:Stmt:=top 64
noncomputable abbrev uW:Stmt:=top 65
noncomputable abbrev uV:Stmt:=top 66
noncomputable abbrev uU:Stmt:=top 67
noncomputable abbrev qM:Stmt:=top 68
noncomputable abbrev qL:Stmt:=top 69
noncomputable abbrev qK:Stmt:=top 70
noncomputable abbrev uT:Stmt:=top 71
noncomputable abbrev vw:Stmt:=top 73
noncomputable abbrev vz:Stmt:=top 74
noncomputable abbrev v7:Stmt:=top 75
noncomputable abbrev v8:Stmt:=top 76
noncomputable abbrev y_:Stmt:=top 77
noncomputable abbrev za:Stmt:=top 78
noncomputable abbrev zb:Stmt:=top 79
noncomputable abbrev v9:Stmt:=top 80
noncomputable abbrev zd:Stmt:=top 81
noncomputable abbrev ze:Stmt:=top 82
noncomputable abbrev v_:Stmt:=top 83
noncomputable abbrev qJ:Stmt:=top 84
noncomputable abbrev zZ:Stmt:=top 85
noncomputable abbrev zf:Stmt:=top 86
noncomputable abbrev zY:Stmt:=top 87
noncomputable abbrev zX:Stmt:=top 88
noncomputable abbrev zW:Stmt:=top 89
noncomputable abbrev zV:Stmt:=top 90
noncomputable abbrev uS:Stmt:=top 91
noncomputable abbrev zg:Stmt:=top 92
noncomputable abbrev zh:Stmt:=top 93
noncomputable abbrev lC:Stmt:=top 94
noncomputable abbrev oH:Stmt:=top 95
noncomputable abbrev mL:Stmt:=top 96
noncomputable abbrev oG:Stmt:=top 97
noncomputable abbrev jY:Stmt:=top 98
section
variable{P:Program}{w:World}{K:W.Frag}{mg:Str->Option Value}{base:Heap}
theorem _root_.L2.On.put{p c:Addr}{H:Hp}(d:bt H p c)(S k:Int):On p c H (aw H p (.lst [.ref c,.int S,.int k])):=by
 obtain⟨ns,e',l⟩:=d.cs;exact⟨⟨d.ne,⟨S,k,bL⟩,ns,by rw[bU d.ne.symm];exact e',l⟩,λb o h hp _=>by rw[bU hp];exact h⟩
theorem _root_.L2.On.cut{p c:Addr}{H:Hp}(d:bt H p c)(ns:List Int)(h:ns.length<=64):On p c H (aw H c (.lst (ns.map V.int))):=by
 obtain⟨S,k,e⟩:=d.dk;exact⟨⟨d.ne,⟨S,k,by rw[bU d.ne];exact e⟩,ns,bL,h⟩,λb o h _ hc=>by rw[bU hc];exact h⟩
theorem Ly(ns:List Int):(ns.map V.int).all eC=true:=by
 rw[jx];exact qE_.mpr λ_ _=>rfl
theorem Kg(ns:List Int):hX (ns.map V.int) []=ns.isEmpty:=by cases ns<;>rfl
theorem sc_mixed:dN O5 O5 (aV vw):=ke (by decide +kernel)
theorem IS(h:ai K mg "_law_mixed" vw):cw P w K mg base 1 "_law_mixed" O5 BQ:=by
 refine h.good sc_mixed (fun|_,_,_,_,_,_,[_,_],_=>rfl) (λvs H Q E q=>?_) (λf Pu A outer s H vs Q E hr q=>?_)
 ·obtain⟨n,k,rfl,_⟩:=q;rfl
 ·obtain⟨n,k,rfl,q⟩:=q;have nd:=sc_mixed.nd
  refine⟨_,(iZ (kP (i:=0) nd rfl (by first|exact Or.inl rfl|exact Or.inr rfl) (cT jU (cT op_mul (cT op_add (cT op_add (cT jU (pv 0) cR) (cT op_mul cR (pv 1))) cR) cR) cR))
   (iZ (kP (i:=0) nd rfl (by first|exact Or.inl rfl|exact Or.inr rfl) (cT jU (cT op_add (cT op_add (cT op_mul (pv 0) (pv 0)) (cT op_mul cR (pv 1))) cR) cR))
   (nF (nQ (cT BC (cT jU (cT op_mul (cT op_add (cT op_mul (cT jU (pv 0) cR) cR) (cT BC (pv 0) cR)) cR) cR) cR))))),?_⟩
  refine⟨_,rfl,_,_,rfl,rfl,(by show(0:Int)<_;decide),_,rfl,_,_,rfl,rfl,.inl ⟨by decide,by decide⟩,_,_,rfl,rfl,_,_,rfl,rfl,_,_,rfl,rfl,.inr ⟨by decide,by decide⟩,_,_,rfl,rfl,(by show(0:Int)<_;decide),?_⟩;refine⟨_,rfl,_,rfl,_,_,rfl,rfl,?c,_,rfl,_,_,rfl,rfl,.inl ⟨by decide,by decide⟩,_,_,rfl,rfl,_,_,rfl,rfl,_,_,rfl,rfl,(by show(0:Int)<_;decide),?_⟩
  case c=>
   refine .inl ⟨?_,?_⟩
   ·exact qp (by decide) (jn _ (by decide))
   ·exact Int.lt_trans (jo _ (by decide)) (by decide)
  refine⟨_,rfl,_,_,rfl,rfl,(by show(0:Int)<_;decide),_,_,rfl,rfl,.inr ⟨by decide,by decide⟩,_,rfl,_,_,rfl,rfl,⟨by decide,by decide⟩,_,_,rfl,rfl,_,_,rfl,rfl,.inr ⟨by decide,by decide⟩,_,_,rfl,rfl,(by show(0:Int)<_;decide),_,_,rfl,rfl,⟨by decide,by decide⟩,?_⟩;exact q _
theorem sc_deck:dN ["_law_script","_law_cells"] OQ (aV vz):=ke (by decide +kernel)
theorem Ho(ns:List Int):iA (ns.map V.int) none (some 63)=(ns.take 63).map V.int:=by
 unfold iA;have e1:HT.sIx (ns.map V.int).length 0 none=0:=rfl;rw[e1,p5,Nat.sub_zero,List.map_take];by_cases h:ns.length<=63
 ·rw[mr (by simp[HT.sIx]<;>omega),mr (by simpa using h)]
 ·congr 1;simp[HT.sIx]<;>omega
theorem HY(h:ai K mg "_law_deck" vz)(B:Own mg):cw P w K mg base 1 "_law_deck" OQ (z_ K):=by
 refine h.good sc_deck (fun|_,_,_,_,_,_,[_],_=>rfl) (λvs H Q E q=>?_) (λf Pu A outer s H vs Q E hr q=>?_)
 ·obtain⟨a,ns,rfl,_⟩:=q;rfl
 ·obtain⟨a,ns,rfl,hS,q⟩:=q;have nd:=sc_deck.nd
  refine⟨_,(iZ (kP (i:=1) nd rfl (by first|exact Or.inl rfl|exact Or.inr rfl) (jM Dy rfl B.list_ boot_list (dR (BA sl_list (pv 0) BH (BI cR)) eO)))
   (nF (nQ (@BE _ _ _ _ (@vc _ _ _ _ _ (HB (pv 1) (yi Ae cR)) (@vc _ _ _ _ _ (cT op_add (kH (Lr rfl) rfl B.sum boot_sum (dR (pv 1) eO)) (cT op_mul cR (kH call_len_seq rfl B.len df (dR (pv 1) eO)))) (@vc _ _ _ _ _ cR AW rfl) rfl) rfl))))),?_⟩
  refine⟨_,rfl,_,rfl,a,_,rfl,hS,λl1 h1=>?_⟩;have e1:aw H l1 (.lst (iA (ns.map V.int) none (some 63)))=aw H l1 (.lst ((ns.take 63).map V.int)):=by rw[Ho]
  rw[e1];refine⟨l1,_,rfl,.inl (b_.of bL),λl2 h2=>?_⟩;refine⟨_,rfl,_,rfl,rfl,l2,_,rfl,b_.of bL,λl3 h3=>?_⟩;have n23:l2≠l3:=eW bL h3;refine⟨_,rfl,l2,ns.take 63,rfl,b_.of (by rw[bU n23];exact bL),_,rfl,l2,_,rfl,.inl (b_.of (by rw[bU n23];exact bL)),_,_,rfl,rfl,.inl ⟨by decide,by decide⟩,_,_,rfl,rfl,(by show 3<=sizeLine;decide),λl4 h4=>?_⟩;have n34:l3≠l4:=eW bL h4;have f1:∀b o,H b=some o->aw H l1 (.lst ((ns.take 63).map V.int)) b=some o:=λb o e=>by rw[bU (eW e h1)];exact e
  have s1:ba H (aw H l1 (.lst ((ns.take 63).map V.int))):=f1;have s2:ba H (aw (aw H l1 (.lst ((ns.take 63).map V.int))) l2 (.lst ((ns.take 63).map V.int))):=λb o e=>by rw[bU (eW (s1 b o e) h2)];exact s1 b o e
  have s3:ba H (aw (aw (aw H l1 (.lst ((ns.take 63).map V.int))) l2 (.lst ((ns.take 63).map V.int))) l3 (.lst ((ns.take 63).map V.int).reverse)):=λb o e=>by rw[bU (eW (s2 b o e) h3)];exact s2 b o e
  refine q l4 l3 _ (s3.free h4) (s2.free h3) ⟨n34.symm,⟨_,_,bL⟩,(ns.take 63).reverse,?_,?_⟩ λb o e=>?_
  ·rw[bU n34,bL,List.map_reverse]
  ·rw[rg,g8];omega
  ·rw[bU (eW (s3 b o e) h4)];exact s3 b o e
theorem sc_take:dN ["_law_deck_here","_law_most","_law_cell"] OL (aV v7):=ke (by decide +kernel)
theorem HZ(h:ai K mg "_law_take" v7)(QE:cw P w K mg base 1 "_law_mixed" O5 BQ):cw P w K mg base 2 "_law_take" OL Aa:=by
 refine h.good sc_take (fun|_,_,_,_,_,_,[_,_],_=>rfl) (λvs H Q E q=>?_) (λf Pu A outer s H vs Q E hr q=>?_)
 ·obtain⟨p,c,m,rfl,_⟩:=q;rfl
 ·obtain⟨p,c,m,rfl,d,hm,hB,q⟩:=q;have nd:=sc_take.nd;have hu:=Nat.lt_of_succ_lt (uH hr);obtain⟨hne,⟨S,k,hp⟩,ns,hc,hl⟩:=id d
  refine⟨_,(iZ (HI (cT op_add (jX ix_list (pv 0) cR (λ_ _=>rfl)) cR) (HG (pv 0) cR LV))
   (iZ (zP (xX (Iu hu) (jX ix_list (pv 0) cR (λ_ _=>rfl)) (@BE _ _ _ _ AW) (nR _))
    (nF (nQ (cT jU (uA QE (hr.mono (by first|decide|omega)) rfl (dR (jX ix_list (pv 0) cR (λ_ _=>rfl)) (dR (jX ix_list (pv 0) cR (λ_ _=>rfl)) eO))) (pv 1))))
    yC)
   (iZ (kP (i:=2) nd rfl (by first|exact Or.inl rfl|exact Or.inr rfl) (Hx PySem.F.plainAttrs_list PySem.F.slot_list_pop PySem.F.type_list_pop Io (jX ix_list (pv 0) cR (λ_ _=>rfl))))
   (iZ (zP (xX op_lt (pv 2) (cT AK cR cR) (nR _))
    (nF (nQ (cT jU (uA QE (hr.mono (by first|decide|omega)) rfl (dR (pv 2) (dR (jX ix_list (pv 0) cR (λ_ _=>rfl)) eO))) (pv 1))))
    yC)
   (iZ (BJ (qF PySem.F.plainAttrs_list PySem.F.slot_list_append PySem.F.type_list_append wN (jX ix_list (pv 0) cR (λ_ _=>rfl)) (dR (cT Bx (pv 2) (pv 1)) eO)))
   (nF (nQ (cT jU (pv 2) (pv 1))))))))),?_⟩
  -- deck[2]=deck[2]+1
  refine⟨_,rfl,p,_,_,_,rfl,rfl,b_.of hp,rfl,_,_,rfl,rfl,_,rfl,p,_,_,2,rfl,rfl,hp,rfl,?_⟩;have o1:On p c H (aw H p (.lst [.ref c,.int S,.int (k+1)])):=On.put d S (k+1);have hc1:aw H p (.lst [.ref c,.int S,.int (k+1)]) c=some (.lst (ns.map V.int)):=by rw[bU hne.symm];exact hc
  -- if deck[0]==[]
  refine⟨_,rfl,p,_,_,_,rfl,rfl,b_.of bL,rfl,d8 _,λl hfree=>?_⟩;have npl:p≠l:=(o1.d.nep hfree).symm;have ncl:c≠l:=(o1.d.nec hfree).symm;have o2:=o1.alloc (o:=.lst []) hfree;have hp2:aw (aw H p (.lst [.ref c,.int S,.int (k+1)])) l (.lst []) p=some (.lst [.ref c,.int S,.int (k+1)]):=by rw[bU npl];exact bL
  have hc2:aw (aw H p (.lst [.ref c,.int S,.int (k+1)])) l (.lst []) c=some (.lst (ns.map V.int)):=by rw[bU ncl];exact hc1
  refine⟨c,l,_,[],rfl,rfl,b_.of hc2,b_.of bL,Ly ns,rfl,_,rfl,?_⟩;rw[show(if false=true then !hX (ns.map V.int) [] else hX (ns.map V.int) [])=ns.isEmpty from Kg ns];have fin:∀r H',On p c H H'->Q (.int (r % m)) H':=λr H' o=>q (r % m) H' (jn _ (by omega)) (jo _ hm) o
  rcases List.eq_nil_or_concat ns with e|⟨init,z,e⟩
  ·subst e;refine bW ?_;refine⟨_,rfl,p,_,_,_,rfl,rfl,b_.of hp2,rfl,_,rfl,p,_,_,_,rfl,rfl,b_.of hp2,rfl,_,_,rfl,λr=>?_⟩;exact⟨_,rfl,_,_,rfl,rfl,hm,fin r _ o2⟩
  ·rw[List.concat_eq_append]at e;subst e;rw[show(init++[z]).isEmpty=false by simp];refine bG ?_;have hlast:((init++[z]).map V.int)[((init++[z]).map V.int).length-1]?=some (.int z):=by simp
   have hdrop:((init++[z]).map V.int).dropLast=init.map V.int:=by simp
   -- cell=deck[0].pop()
   refine⟨_,rfl,p,_,_,_,rfl,rfl,b_.of hp2,rfl,.inl ⟨rfl,_,b_.of hc2⟩,c,_,_,rfl,rfl,hc2,hlast,?_⟩;rw[hdrop];have hli:init.length<=63:=by rw[b8,kr]at hl;omega
   have o3:=o2.trans (On.cut o2.d init (by omega));have hp3:aw (aw (aw H p (.lst [.ref c,.int S,.int (k+1)])) l (.lst [])) c (.lst (init.map V.int)) p=some (.lst [.ref c,.int S,.int (k+1)]):=by rw[bU hne];exact hp2
   -- if cell<10 ** 18
   refine⟨_,rfl,_,_,rfl,rfl,⟨by decide,by decide,by decide⟩,_,_,rfl,rfl,_,rfl,?_⟩;refine FN (λ_=>?_) (λ_=>?_)
   ·refine⟨_,rfl,_,rfl,p,_,_,_,rfl,rfl,b_.of hp3,rfl,_,_,rfl,λr=>?_⟩;exact⟨_,rfl,_,_,rfl,rfl,hm,fin r _ o3⟩
   ·refine⟨_,rfl,p,_,_,_,rfl,rfl,b_.of hp3,rfl,.inl ⟨rfl,_,b_.of bL⟩,_,rfl,_,rfl,_,_,rfl,rfl,⟨hm,hB⟩,c,_,_,rfl,rfl,bL,M5 (by rw[aq];omega),?_⟩;rw[show init.map V.int++[V.int (z / m)]=(init++[z / m]).map V.int by simp];have o4:=o3.trans (On.cut o3.d (init++[z / m]) (by rw[b8,kr];omega));exact⟨_,rfl,_,rfl,_,_,rfl,rfl,hm,fin z _ o4⟩
noncomputable def pI:bf:=λas R=>as=[]/\R (sT da)
theorem t_:dN ["_law_signs_here"] [] (aV v8):=ke (by decide +kernel)
theorem F4(h:ai K mg "_law_signs" v8)(B:Own mg)    : ae P w K mg base 1 "_law_signs" [] pI:=by
 have nd:=t_.nd
 refine h.pgood t_ (fun|_,_,_,_,_,_,[],_=>rfl) (λf Pu A outer s H E F hr=>
   (aI (bC 0 nd aT)
   (aJ (aO (bE cD (aC 0) aT))))) (λas R q=>?_)
 obtain⟨rfl,q⟩:=q;exact⟨rfl,show sigA.length+sigB.length<=100000 by decide +kernel,q⟩
noncomputable def tI:bf:=λas R=>∃m:Int,as=[.dk,.va (iT m)]/\0<=m/\m<=1000/\∀x:Str,Sg x->(x.length:Int)<=m->R (sT x)
theorem IF{z:Str}{r:Int}(h0:0<=r)(h1:r<z.length):∃c,je z.cps.toList r=some c/\c∈cs z:=by
 have hl:r.toNat<(cs z).length:=by rw[<-WordM.len];omega
 refine⟨(cs z)[r.toNat],?_,j7 hl⟩;have:=aQ (xs:=cs z) (j:=r.toNat) (cb hl);rw[show((r.toNat:Nat):Int)=r by omega]at this;exact this
theorem lE{α:Type}{l:List α}{r:Int}(h0:0<=r)(h1:r<l.length):∃m,je l r=some m/\m∈l:=by
 have hl:r.toNat<l.length:=by omega
 refine⟨l[r.toNat],?_,j7 hl⟩;have:=aQ (xs:=l) (j:=r.toNat) (cb hl);rw[show((r.toNat:Nat):Int)=r by omega]at this;exact this
theorem F5(h:ai K mg "_law_text" y_)(B:Own mg)(PP:ae P w K mg base 1 "_law_signs" [] pI)(Pr:ae P w K mg base 2 "_law_take" OL gY)   : ae P w K mg base 3 "_law_text" OL tI:=by
 refine h.pg2 ["_law_deck_here","_law_most","_law_signs_here","_law_some","_law_text_here","_law_k"] (λnd hr=>
   (aI (bC 2 nd (yX PP (hr.mono (by omega)) rfl))
   (aI (bC 3 nd (aH hr (bB (cC (aD (aC 2) (aD (aC 2) (aD aT (aD aT (aD aT (aD aT aG)))))))) (aL Pr hr (cE 0 (aD aE aG)))))
   (aI (bC 4 nd aT)
   (aI (fJ (m:=6) i4 rfl (kF rfl B.range (aD (aL Pr hr (cE 0 (aD (bE cD (aC 1) aE) aG))) aG)) (eG 5 (by decide) nd rfl (.inl rfl))
    (aJ (bC 4 nd (bE cD (aC 4) (aH hr (aC 3) (aL Pr hr (cE 0 (aD (bI cJ rfl B.len df (aD (aC 3) aG)) aG))))))))
   (aJ (aO (aC 4)))))))) (λas R q=>?_)
 obtain⟨m,rfl,m0,m1,q⟩:=q;refine⟨rfl,rfl,?_⟩;refine⟨by decide,rfl,6,rfl,by decide,cI (by decide) (by decide),λr r0 r6=>?_⟩;obtain⟨z,hz,hzm⟩:=lE (l:=[sT da,sT da,sT "0123456789",sT "abc",sT "XYZ",sT "a1"]) r0 r6;refine⟨z,hz,?_⟩;have hzs:∃y,z=sT y/\Sg y/\0<y.length/\y.length<=100:=by
  simp only[qk_,fb,or_false]at hzm;rcases hzm with e|e|e|e|e|e<;>subst e
  ·exact⟨_,rfl,λ_ h=>h,by decide +kernel,by decide +kernel⟩
  ·exact⟨_,rfl,λ_ h=>h,by decide +kernel,by decide +kernel⟩
  ·exact⟨_,rfl,by decide +kernel,by decide +kernel,by decide +kernel⟩
  ·exact⟨_,rfl,by decide +kernel,by decide +kernel,by decide +kernel⟩
  ·exact⟨_,rfl,by decide +kernel,by decide +kernel,by decide +kernel⟩
  ·exact⟨_,rfl,by decide +kernel,by decide +kernel,by decide +kernel⟩
 clear hz hzm;obtain⟨y,rfl,y1,y2,y3⟩:=hzs;refine⟨rfl,m+1,rfl,by omega,cI (by omega) (by omega),λn n0 n1=>⟨n,rfl,by omega,by omega,?_⟩⟩;refine jA (λi ρ=>∃(x:Str) (s:Sl),Sg x/\x.length=i/\ρ=[.dk,.va (iT m),.va (sT da),.va (sT y),.va (sT x),s]) ⟨⟨#[]⟩,.no,JU,rfl,rfl⟩ ?_ ?_
 ·rintro i T _ N hT ⟨x,s,sx,lx,rfl⟩ hN;have hi:=(oZ hT).1;refine⟨rfl,by omega,?_⟩;refine⟨y.length,rfl,by omega,cI (by omega) (by omega),λk k0 k1=>⟨by omega,?_⟩⟩;obtain⟨c,hc,hcm⟩:=IF (z:=y) k0 k1;refine⟨c,hc,by show x.length+1<=100000;omega,hN _ ⟨x++⟨#[c]⟩,_,sx.app (y1.one hcm),?_,rfl⟩⟩;rw[WordM.len,WordM.app,b8,<-WordM.len,lx];rfl
 ·rintro _ ⟨x,s,sx,lx,rfl⟩;refine q x sx ?_;rw[lx,jO];omega
theorem JW(a:Int):Sg ⟨#[gL a]⟩:=λcc hc=>by
 have e:cc=gL a:=by simpa using hc
 rw[e];exact MZ _
noncomputable def xj(m:Int)(ss:List Str):Prop:=ss.Nodup/\∀s∈ss,Sg s/\(s.length:Int)<=(if m<1 then 1 else m)
noncomputable def xC:bf:=λas R=>∃n m:Int,as=[.dk,.va (iT n),.va (iT m)]/\0<=n/\n<=63/\0<=m/\m<=1000/\∀ss:List Str,(ss.length:Int)=n->xj m ss->R (.seq false (ss.map sT))
theorem F6(h:ai K mg "_law_unlike" za)(B:Own mg)(PP:ae P w K mg base 1 "_law_signs" [] pI)(P8:ae P w K mg base 3 "_law_text" OL tI)   : ae P w K mg base 4 "_law_unlike" Pa xC:=by
 refine h.pg3 ["_law_deck_here","_law_many","_law_most","_law_signs_here","_law_found","_law_k","_law_text_here","_law_at"] (λnd hr=>
   (aI (bC 3 nd (yX PP (hr.mono (by omega)) rfl))
   (aI (qH 4 nd (cC aG))
   (aI (fJ (m:=8) i4 rfl (kF rfl B.range (aD (aC 1) aG)) (eG 5 (by decide) nd rfl (.inl rfl))
    (aI (bC 6 nd (aL P8 hr (cE 0 (aD (aC 2) aG))))
    (aI (bC 7 nd (nI PySem.F.slot_str_find PySem.F.type_str_find K2 (aC 3) (aD (fW gD (aC 6) fY (fX aE)) aG)))
    (aI (oX i4 (KM λF=>(cO (gO hr.units) (aC 6) (aC 4) rfl))
     (aI (bC 7 nd (bE nP (bE cD (aC 7) aE) (bI cJ rfl B.len df (aD (aC 3) aG))))
     (aJ (bC 6 nd (bE cD (aH hr (aC 3) (aC 7)) (fW gD (aC 6) (fX aE) fY))))))
    (aJ (lR (mS 4 (aC 6))))))))
   (aJ (aO (aC 4))))))) (λas R q=>?_)
 obtain⟨n,m,rfl,n0,n63,m0,m1,q⟩:=q;have hsl:da.length=94:=nD;refine⟨rfl,rfl,by decide,n,rfl,by omega,by omega,?_⟩;refine jA (λi ρ=>∃(ss:List Str) (s5 s6 s7:Sl),ss.length=i/\xj m ss/\ρ=[.dk,.va (iT n),.va (iT m),.va (sT da),.own (ss.map sT),s5,s6,s7]) ⟨[],.no,.no,.no,rfl,⟨mh,λs hs=>nomatch hs⟩,rfl⟩ ?_ ?_
 ·rintro i T _ N hT ⟨ss,s5,s6,s7,hlen,htx,rfl⟩ hN;obtain⟨hi,rfl⟩:=oZ hT;refine⟨rfl,m,rfl,m0,m1,λx0 sx0 hx0=>?_⟩;refine⟨rfl,1,rfl,by omega,da,_,rfl,rfl,λa0=>?_⟩
  let r:Str:=Txt.slice x0 (some 1) none
  have hr1:r.length+1<=(if x0.length<1 then 1 else x0.length):=N5 x0;have sr:Sg r:=sx0.slice _ _
  refine⟨λM ρ=>∃(j:Nat) (x:Str),M+j=ss.length+2/\j<=ss.length+1/\(∀i,1<=i->i<j->gQ a0 r i∈ss)/\(j=0/\x=x0\/1<=j/\x=gQ a0 r j) /\
    ρ=[.dk,.va (iT n),.va (iT m),.va (sT da),.own (ss.map sT),.va (iT (0+(i:Int))),.va (sT x),.va (iT (if j=0 then a0 else(a0+j) % 94))],
   ⟨ss.length+2,0,x0,rfl,d8 _,λi h1 h2=>absurd h2 (km _),.inl ⟨rfl,rfl⟩,rfl⟩,?_⟩
  rintro M _ ⟨j,x,hM,hj,htr,hx,rfl⟩;have hxl:Sg x/\(x.length:Int)<=(if m<1 then 1 else m)/\Txt.slice x (some 1) none=r:=by
   rcases hx with⟨_,rfl⟩|⟨_,rfl⟩
   ·refine⟨sx0,?_,rfl⟩;split<;>omega
   ·refine⟨Sg.app (JW _) sr,?_,Nv⟩;have:(gQ a0 r j).length=r.length+1:=by
     unfold gQ;rw[WordM.len,WordM.app,WordM.len,b8];simp;omega
    rw[this];split at hr1<;>split<;>omega
  obtain⟨sx,hxm,hxr⟩:=hxl;have hx1000:x.length<=1000:=by split at hxm<;>omega
  refine⟨gT,_,rfl,?_⟩;rw[gJ];refine gr (λh1=>?_) (λh1=>?_)
  ·have h1:x∈ss:=by simpa using h1
   have hall:∀i,1<=i->i<=j->gQ a0 r i∈ss:=λi i1 i2=>by
    rcases oe i2 with z|z
    ·exact htr i i1 z
    ·rcases hx with⟨z0,_⟩|⟨_,e⟩
     ·omega
     ·rw[z,<-e];exact h1
   have hjs:j<=ss.length:=LZ (by omega) hall;have hmod:((if j=0 then a0 else(a0+(j:Int)) % 94)+1) % 94=(a0+((j+1:Nat):Int)) % 94:=by
    split
    ·rename_i z;subst z;congr 1
    ·push_cast;omega
   have hsl':((da.length:Nat):Int)=94:=by rw[hsl];rfl
   have e1:((if j=0 then a0 else(a0+(j:Int)) % 94)+1) % ((da.length:Nat):Int)=(a0+((j+1:Nat):Int)) % 94:=by rw[hsl',hmod]
   have hat:je da.cps.toList (((if j=0 then a0 else(a0+(j:Int)) % 94)+1) % ((da.length:Nat):Int))=some (gL (a0+((j+1:Nat):Int))):=by
    rw[e1];have b1:=jo (a0+((j+1:Nat):Int)) (show(0:Int)<94 by decide);have b2:=jn (a0+((j+1:Nat):Int)) (show(94:Int)≠0 by decide);have hlt:((a0+((j+1:Nat):Int)) % 94).toNat<(cs da).length:=by rw[<-WordM.len];omega
    have:=aQ (xs:=cs da) (j:=((a0+((j+1:Nat):Int)) % 94).toNat) (cb hlt);rw[show((((a0+((j+1:Nat):Int)) % 94).toNat:Nat):Int)=(a0+((j+1:Nat):Int)) % 94 by omega]at this;rw[this];unfold gL;rw[ji,cb hlt];rfl
   refine⟨by omega,by omega,by omega,_,hat,1,rfl,by omega,?_,?_⟩
   ·show 1+(Txt.slice x (some 1) none).length<=100000;rw[hxr];split at hr1<;>omega
   ·refine⟨ss.length+2-(j+1),by omega,j+1,gQ a0 r (j+1),by omega,by omega,λi i1 i2=>hall i i1 (by omega),.inr ⟨by omega,rfl⟩,?_⟩;show [Sl.dk,.va (iT n),.va (iT m),.va (sT da),.own (ss.map sT),.va (iT (0+(i:Int))),.va (sT ((⟨#[gL (a0+((j+1:Nat):Int))]⟩:Str)++Txt.slice x (some 1) none)),.va (iT (((if j=0 then a0 else(a0+(j:Int)) % 94)+1) % ((da.length:Nat):Int)))]=_;rw[e1,if_neg (by omega),hxr];rfl
  ·have h1:x∉ss:=by simpa using h1
   refine⟨⟨_,rfl⟩,_,rfl,by rw[aq];omega,hN _ ⟨ss++[x],.va (iT (0+(i:Int))),.va (sT x),.va (iT (if j=0 then a0 else(a0+j) % 94)),by rw[b8,hlen];rfl,⟨?_,λs hs=>?_⟩,?_⟩⟩
   ·rw[oi];exact⟨htx.1,by simp,λa ha b hb=>by rw[qX_]at hb;subst hb;rintro rfl;exact h1 ha⟩
   ·rcases qr_.mp hs with z|z
    ·exact htx.2 s z
    ·rw[qX_]at z;subst z;exact⟨sx,hxm⟩
   ·rw[dw];rfl
 ·rintro _ ⟨ss,s5,s6,s7,hlen,htx,rfl⟩;rw[jO]at hlen;exact q ss (by omega) htx
noncomputable def tZ:bf:=λas R=>as=[.dk]/\∀r:Int,-(10 ^ 60)<r->r<10 ^ 60->R (iT r)
theorem F7(h:ai K mg "_law_far" zb)(B:Own mg)(Pr:ae P w K mg base 2 "_law_take" OL gY)   : ae P w K mg base 3 "_law_far" OR tZ:=by
 refine h.pg1 ["_law_deck_here","_law_number_here","_law_k"] (λnd hr=>
   (aI (bC 1 nd aE)
   (aI (fJ (m:=3) i4 rfl (kF rfl B.range (aD aE aG)) (eG 2 (by decide) nd rfl (.inl rfl))
    (aJ (bC 1 nd (bE cD (bE jR (aC 1) (bE pU aE aE)) (aL Pr hr (cE 0 (aD (bE pU aE aE) aG)))))))
   (aJ (aO (bE cD (bE iM (bE nP (aC 1) (bE iM (bE jR aE (bE pU aE aE)) aE)) (bE pU aE aE)) aE)))))) (λas R q=>?_)
 obtain⟨rfl,q⟩:=q;refine⟨rfl,8,rfl,by decide,by decide,?_⟩;refine jA (λi ρ=>∃(x:Int) (s:Sl),0<=x/\x<10 ^ (8*i)/\ρ=[.dk,.va (iT x),s]) ⟨0,.no,by decide,by decide,rfl⟩ ?_ ?_
 ·rintro i T _ N hT ⟨x,s,x0,x1,rfl⟩ hN;obtain⟨hi,rfl⟩:=oZ hT;have hi:i<8:=hi
  have xb:x<10 ^ 64:=qp x1 (by
   have:i=0\/i=1\/i=2\/i=3\/i=4\/i=5\/i=6\/i=7:=by omega
   rcases this with e|e|e|e|e|e|e|e<;>subst e<;>decide)
  refine⟨⟨by decide,by decide,by decide⟩,.inr ⟨cI (by omega) (by omega),cI (by decide) (by decide)⟩,rfl,⟨by decide,by decide,by decide⟩,10 ^ 8,rfl,by decide,cI (by decide) (by decide),λr r0 r1=>hN _ ⟨_,_,?_,?_,rfl⟩⟩
  ·show 0<=x*(10 ^ 8:Int)+r;omega
  ·show x*(10 ^ 8:Int)+r<10 ^ (8*(i+1));have e:(10:Int) ^ (8*(i+1))=10 ^ (8*i)*10 ^ 8:=by rw[Nat.mul_add,Int.pow_add]
   rw[e];have h8:r<(10:Int) ^ 8:=r1;generalize (10:Int) ^ (8*i)=y at x1;omega
 ·rintro _ ⟨x,s,x0,x1,rfl⟩;refine⟨⟨by decide,by decide,by decide⟩,.inl (.inl ⟨by decide,by decide⟩),(show(0:Int)<2*10 ^ 60-1 by decide),⟨by decide,by decide,by decide⟩,?_⟩;have h1:=jn x (show(2*10 ^ 60-1:Int)≠0 by decide);have h2:=jo x (show(0:Int)<2*10 ^ 60-1 by decide);refine q _ ?_ ?_
  ·show -(10 ^ 60)<x % (2*10 ^ 60-1)-10 ^ 60+1;omega
  ·show x % (2*10 ^ 60-1)-10 ^ 60+1<10 ^ 60;omega
structure gV (nm tx:List Str) (st sp:Int):Prop where
 n11:nm.length=11
 t9:tx.length=9
 nd:nm.Nodup
 ndt:tx.Nodup
 ns:∀s∈nm,Sg s/\s.length<=40
 ts:∀s∈tx,Sg s/\s.length<=43
 st1:-(10 ^ 57)<=st
 st2:st<=10 ^ 57
 sp1:1<=sp
 sp2:sp<=10 ^ 20
noncomputable def gA(nm tx:List Str)(st sp:Int):Tv:=.seq false [.seq false (nm.map sT),.seq false (tx.map sT),iT st,iT sp]
noncomputable def xY:bf:=λas R=>as=[.dk]/\∀nm tx st sp,gV nm tx st sp->R (gA nm tx st sp)
theorem JH{a b c:Str}(h:a++b=a++c):b=c:=by
 have:=congrArg cs h;rw[WordM.app,WordM.app]at this;exact jQ (nz this)
theorem F8(h:ai K mg "_law_world" v9)(B:Own mg)(Pr:ae P w K mg base 2 "_law_take" OL gY)(Qg:ae P w K mg base 4 "_law_unlike" Pa xC)(P8:ae P w K mg base 3 "_law_text" OL tI)(P9:ae P w K mg base 3 "_law_far" OR tZ)   : ae P w K mg base 5 "_law_world" OR xY:=by
 refine h.pg1 Pi (λnd hr=>
   (aI (bC 1 nd (aH hr (bB (cC (aD aE (aD aE (aD aE (aD aE (aD aE (aD aE (aD aE (aD aE aG)))))))))) (aL Pr hr (cE 0 (aD aE aG)))))
   (aI (bC 2 nd (aL Qg hr (cE 0 (aD aE (aD (aC 1) aG)))))
   (aI (bC 3 nd (aL P8 hr (cE 0 (aD (bE jR aE (aL Pr hr (cE 0 (aD aE aG)))) aG))))
   (aI (iP (sc:=aV v9) (XN:=Pi) (N:=["_law_text_here","_law_head"]) (fr:=[3]) 4 nd (bK (aL Qg hr (cE 0 (aD aE (aD (aC 1) aG))))) (λ_ _ _ _ _=>lX) (λ_ _ _ _ _=>(bE cD (aC 1) (aC 0))))
   (aI (bC 5 nd (aH hr (bB (cC (aD aE (aD aE (aD (A3 AU aE) (aD (bE xW (aL P9 hr (cE 0 aG)) aE) aG)))))) (aL Pr hr (cE 0 (aD aE aG)))))
   (aJ (aO (bB (cC (aD (aC 2) (aD (aC 4) (aD (aC 5) (aD (bE cD aE (aL Pr hr (cE 0 (aD (aH hr (bB (cC (aD aE (aD (bE pU aE aE) aG)))) (aL Pr hr (cE 0 (aD aE aG)))) aG)))) aG)))))))))))))) (λas R q=>?_)
 obtain⟨rfl,q⟩:=q;refine⟨rfl,by decide,rfl,8,rfl,by decide,cI (by decide) (by decide),λr r0 r1=>?_⟩;obtain⟨M,hM,hMm⟩:=lE (l:=[iT 4,iT 3,iT 5,iT 1,iT 4,iT 3,iT 6,iT 40]) r0 r1;have hm:∃m:Int,M=iT m/\1<=m/\m<=40:=by
  simp only[qk_,fb,or_false]at hMm;rcases hMm with e|e|e|e|e|e|e|e<;>subst e<;>exact⟨_,rfl,by decide,by decide⟩
 obtain⟨m,rfl,m1,m2⟩:=hm;refine⟨_,hM,?_⟩;clear hM hMm;refine⟨rfl,11,m,rfl,by decide,by decide,by omega,by omega,λnm hnm tnm=>?_⟩;refine⟨rfl,rfl,2,rfl,by decide,cI (by decide) (by decide),λr2 a0 a1=>⟨.inl (.inl ⟨by decide,by decide⟩),_,rfl,by omega,by omega,λhd shd lhd=>?_⟩⟩;refine⟨rfl,9,m,rfl,by decide,by decide,by omega,by omega,λtx htx ttx=>⟨by rw[aq];omega,?_⟩⟩;have lt:∀s∈tx,Sg s/\s.length<=40:=λs hs=>by
  have:=ttx.2 s hs;refine⟨this.1,?_⟩;have:=this.2;split at this<;>omega
 refine cX sT (λs=>sT (hd++s)) (λs hs R q=>?_) ?_
 ·have:=(lt s hs).2;exact⟨show hd.length+s.length<=100000 by omega,q⟩
 refine⟨rfl,rfl,λfr fr0 fr1=>⟨⟨by decide,cI (by decide) (by decide)⟩,(show 4<=100000 by decide),rfl,4,rfl,by decide,cI (by decide) (by decide),λr3 b0 b1=>?_⟩⟩;obtain⟨S,hS,hSm⟩:=lE (l:=[iT 0,iT 7,iT (-40),iT (fr / 1000)]) b0 b1;have hs:∃st:Int,S=iT st /\ -(10 ^ 57)<=st/\st<=10 ^ 57:=by
  simp only[qk_,fb,or_false]at hSm;rcases hSm with e|e|e|e<;>subst e
  ·exact⟨_,rfl,by decide,by decide⟩
  ·exact⟨_,rfl,by decide,by decide⟩
  ·exact⟨_,rfl,by decide,by decide⟩
  ·exact⟨_,rfl,by omega,by omega⟩
 obtain⟨st,rfl,st1,st2⟩:=hs;refine⟨_,hS,?_⟩;clear hS hSm;refine⟨rfl,⟨by decide,by decide,by decide⟩,by decide,rfl,2,rfl,by decide,cI (by decide) (by decide),λr4 c0 c1=>?_⟩;obtain⟨W,hW,hWm⟩:=lE (l:=[iT 6,iT (10 ^ 20)]) c0 c1;have hw:∃wi:Int,W=iT wi/\1<=wi/\wi<=10 ^ 20:=by
  simp only[qk_,fb,or_false]at hWm;rcases hWm with e|e<;>subst e<;>exact⟨_,rfl,by decide,by decide⟩
 obtain⟨wi,rfl,w1,w2⟩:=hw;refine⟨_,hW,wi,rfl,by omega,cI (by omega) (by omega),λsp sp0 sp1=>⟨(show 4<=100000 by decide),?_⟩⟩;have:=q nm (tx.map λs=>hd++s) st (1+sp) ⟨by omega,by rw[aq];omega,tnm.1,?_,λs hs=>?_,λs hs=>?_,st1,st2,by omega,by omega⟩
 ·show R (.seq false [.seq false (nm.map sT),.seq false (tx.map λs=>sT (hd++s)),iT st,iT (1+sp)]);rw[gA,cv]at this;exact this
 ·unfold List.Nodup;rw[kn];exact ttx.1.imp λh e=>h (JH e)
 ·have:=tnm.2 s hs;refine⟨this.1,?_⟩;have:=this.2;split at this<;>omega
 ·obtain⟨z,hz,rfl⟩:=qd_.mp hs;refine⟨shd.app (lt z hz).1,?_⟩;rw[WordM.len,WordM.app,b8,<-WordM.len,<-WordM.len];have:=(lt z hz).2;omega
noncomputable def wb(n:Int):Prop:=-(10 ^ 60)<n/\n<10 ^ 60
noncomputable def xG:bf:=λas R=>∃nm tx st sp,as=[.dk,.va (gA nm tx st sp)]/\gV nm tx st sp/\∀n:Int,wb n->R (iT n)
theorem Ip{a b:Int}(h1:1<=a)(h2:a<=10 ^ 20)(h3:-100<=b)(h4:b<=100):-(10 ^ 22)<=a*b/\a*b<=10 ^ 22:=by
 have e1:a*b<=a*100:=tp h4 (by omega);have e2:a*(-100)<=a*b:=tp h3 (by omega);omega
theorem F9(h:ai K mg "_law_number" zd)(B:Own mg)(Pr:ae P w K mg base 2 "_law_take" OL gY)(P9:ae P w K mg base 3 "_law_far" OR tZ)   : ae P w K mg base 4 "_law_number" OS xG:=by
 refine h.pg2 Pj (λnd hr=>
   (aI (bC 2 nd (aL Pr hr (cE 0 (aD aE aG))))
   (aI (aY (bD hr (aC 2) aE)
    (aJ (aO (bE iM (aL Pr hr (cE 0 (aD aE aG))) aE)))
    aX)
   (aI (aY (bD hr (aC 2) aE)
    (aJ (aO (aL P9 hr (cE 0 aG))))
    aX)
   (aJ (aO (bE cD (aH hr (aC 1) aE) (bE jR (aH hr (aC 1) aE) (bE iM (aL Pr hr (cE 0 (aD aE aG))) aE))))))))) (λas R q=>?_)
 obtain⟨nm,tx,st,sp,rfl,hw,q⟩:=q;obtain⟨_,_,_,_,_,_,st1,st2,sp1,sp2⟩:=hw;refine⟨rfl,rfl,6,rfl,by decide,cI (by decide) (by decide),λr r0 r1=>?_⟩;refine⟨_,rfl,gr (λ_=>⟨rfl,9,rfl,by decide,cI (by decide) (by decide),λk k0 k1=>q _ ⟨by omega,by omega⟩⟩) (λ_=>?_)⟩;refine⟨_,rfl,gr (λ_=>⟨rfl,rfl,λk k0 k1=>q _ ⟨k0,k1⟩⟩) (λ_=>?_)⟩;refine⟨_,rfl,_,rfl,rfl,12,rfl,by decide,cI (by decide) (by decide),λk k0 k1=>⟨.inr ⟨cI (by omega) (by omega),cI (by omega) (by omega)⟩,q _ ?_⟩⟩;have:=Ip (b:=k-4) sp1 sp2 (by omega) (by omega);exact⟨by show _<st+sp*(k-4);omega,by show st+sp*(k-4)<_;omega⟩
noncomputable def x5(tx:List Str):Tv->Prop
 |.leaf .non=>True
 |.leaf (.bl _)=>True
 |.leaf (.int n)=>wb n
 |.leaf (.str s)=>s∈tx
 |_=>False
noncomputable def tK:bf:=λas R=>∃nm tx st sp,as=[.dk,.va (gA nm tx st sp)]/\gV nm tx st sp/\∀T,x5 tx T->R T
theorem F_(h:ai K mg "_law_leaf" ze)(B:Own mg)(Pr:ae P w K mg base 2 "_law_take" OL gY)(Qv:ae P w K mg base 4 "_law_number" OS xG)   : ae P w K mg base 5 "_law_leaf" OS tK:=by
 refine h.pg2 Pj (λnd hr=>
   (aI (bC 2 nd (aL Pr hr (cE 0 (aD aE aG))))
   (aI (aY (bD hr (aC 2) aE)
    (aJ (aO gW))
    aX)
   (aI (aY (bD hr (aC 2) aE)
    (aJ (aO (cP (fP hr.units).op (aL Pr hr (cE 0 (aD aE aG))) aE)))
    aX)
   (aI (aY (cO kT (aC 2) aE)
    (aJ (aO (aL Qv hr (cE 0 (aD (aC 1) aG)))))
    aX)
   (aJ (aO (aH hr (aH hr (aC 1) aE) (aL Pr hr (cE 0 (aD (bI cJ rfl B.len df (aD (aH hr (aC 1) aE) aG)) aG))))))))))) (λas R q=>?_)
 obtain⟨nm,tx,st,sp,rfl,hw,q⟩:=q;refine⟨rfl,rfl,8,rfl,by decide,cI (by decide) (by decide),λr r0 r1=>?_⟩;refine⟨_,rfl,gr (λ_=>q nT trivial) (λ_=>?_)⟩;refine⟨_,rfl,gr (λ_=>⟨rfl,2,rfl,by decide,cI (by decide) (by decide),λk k0 k1=>q (bT _) trivial⟩) (λ_=>?_)⟩;refine⟨_,rfl,gr (λ_=>⟨rfl,nm,tx,st,sp,rfl,hw,λn hn=>q (iT n) hn⟩) (λ_=>?_)⟩;refine⟨_,rfl,rfl,_,rfl,(tx.map sT).length,rfl,?_,?_,λk k0 k1=>?_⟩
 ·rw[aq,hw.t9];decide
 ·rw[aq,hw.t9];exact cI (by decide) (by decide)
 ·obtain⟨U,hU,hm⟩:=lE (l:=tx.map sT) k0 k1;obtain⟨s,hs,rfl⟩:=qd_.mp hm;exact⟨_,hU,q (sT s) hs⟩
noncomputable def jz:Wd->Prop
 |.few ts=>1<=ts.length/\ts.length<=6/\fE ts/\∀t∈ts,Sg t/\t.length<=200
 |.make h a b ms=>(Sg h/\h.length<=60)/\0<=a/\a<=b/\1<=b/\b<=110/\ms.Sublist MK/\ms≠[]
theorem m8.wk:∀{W:Wd},m8 W->jz W
 |.few _,⟨a,b,c,d⟩=>⟨a,b,c,λt ht=>⟨(d t ht).1,bu (d t ht).2 (by decide)⟩⟩
 |.make ..,⟨a,b,c,d,e,f⟩=>⟨⟨a.1,bu a.2 (by decide)⟩,b,c,d,Int.le_trans e (by decide),f⟩
noncomputable def oO(lo hi st:Int):Prop:=lo<=hi/\0<=st/\(st=0↔lo=hi)/\(st≠0->(hi-lo) % st=0)
noncomputable def EL:Tv->Prop
 |.leaf v=>eC v=true
 |.seq false _=>True
 |.dct _=>True
 |_=>False
noncomputable def tM:bf:=λas R=>∃T,as=[.va T]/\EL T/\R (sT (cZ (qG T)))
theorem OG(h:ai K mg "kind_of" DY)(B:Own mg)    : ae P w K mg base 1 "kind_of" OK tM:=by
 refine h.pg1 OK (λnd hr=>
   (aI (aY (cO mG (aC 0) gW)
    (aJ (aO aT))
    aX)
   (aI (aY (cW (gX "bool" vV rfl B.isinstance (aC 0) (gU (v:=.ty "bool") rfl B.bool_ boot_bool rfl)))
    (aJ (aO aT))
    aX)
   (aI (aY (cW (gX "int" vZ rfl B.isinstance (aC 0) (gU (v:=.ty "int") rfl B.int_ boot_int rfl)))
    (aJ (aO aT))
    aX)
   (aI (aY (cW (gX "str" vY rfl B.isinstance (aC 0) (gU (v:=.ty "str") rfl B.str_ boot_str rfl)))
    (aJ (aO aT))
    aX)
   (aI (aY (cW (gX "list" vT rfl B.isinstance (aC 0) (gU (v:=.ty "list") rfl B.list_ boot_list rfl)))
    (aJ (aO aT))
    aX)
   (aJ (aO aT)))))))) (λas R q=>?_)
 obtain⟨T,rfl,hT,q⟩:=q;refine⟨rfl,?_⟩;cases T with
 |leaf v=>
  rcases lH hT with rfl|⟨b,rfl⟩|⟨b,rfl⟩|⟨b,rfl⟩
  ·exact⟨_,rfl,bW q⟩
  ·exact⟨_,rfl,bG ⟨_,rfl,bW q⟩⟩
  ·exact⟨_,rfl,bG ⟨_,rfl,bG ⟨_,rfl,bW q⟩⟩⟩
  ·exact⟨_,rfl,bG ⟨_,rfl,bG ⟨_,rfl,bG ⟨_,rfl,bW q⟩⟩⟩⟩
 |seq t xs=>
  cases t with
  |false=>exact⟨_,rfl,bG ⟨_,rfl,bG ⟨_,rfl,bG ⟨_,rfl,bG ⟨_,rfl,bW q⟩⟩⟩⟩⟩
  |true=>exact False.elim hT
 |dct kts=>exact⟨_,rfl,bG ⟨_,rfl,bG ⟨_,rfl,bG ⟨_,rfl,bG ⟨_,rfl,bG q⟩⟩⟩⟩⟩
noncomputable def xE:bf:=λas R=>∃lo hi st i:Int,as=[.va (.seq true [iT lo,iT hi,iT st]),.va (iT i)]/\oO lo hi st/\R (bT (cS lo hi st i))
theorem OD(h:ai K mg "run_has" DV)(B:Own mg)    : ae P w K mg base 1 "run_has" ["run","number"] xE:=by
 refine h.pg2 ["run","number"] (λnd hr=>
   (aI (aY (bD hr (aH hr (aC 0) aE) aE)
    (aJ (aO (cP (fP hr.units).op (aC 1) (aH hr (aC 0) aE))))
    aX)
   (aJ (aO (fL (wX eY eY (aH hr (aC 0) aE) (aC 1) (aH hr (aC 0) aE)) (gC (cP (fP hr.units).op (bE nP (bE iM (aC 1) (aH hr (aC 0) aE)) (aH hr (aC 0) aE)) aE))))))) (λas R q=>?_)
 obtain⟨lo,hi,st,i,rfl,ok,q⟩:=q;obtain⟨h4,h5,h6,h7⟩:=ok;refine⟨rfl,_,rfl,_,rfl,fT (λz=>?_) (λz=>?_)⟩
 ·have e:=h6.mp z;subst z e;refine⟨_,rfl,?_⟩;have:cS lo lo 0 i=(false != dr (.int i) (.int lo)):=by
   unfold cS;by_cases h:i=lo
   ·subst h;simp[dr]
   ·have h':¬ (lo<=i/\i<=lo):=by omega
    have:(decide (lo<=i)&&decide (i<=lo))=false:=by
     rw[Bool.eq_false_iff];intro z;rw[i6,decide_eq_true_iff,decide_eq_true_iff]at z;exact h' z
    rw[this];simp[dr,h]
  rw[this]at q;exact q
 ·have hmax:max 1 st=st:=by omega
  refine⟨_,rfl,_,rfl,dQ (λa=>⟨_,rfl,_,rfl,dQ (λb=>?_) (λb=>?_)⟩) (λa=>⟨false,rfl,bG ?_⟩)⟩
  ·refine⟨_,rfl,_,rfl,(show(0:Int)<st by omega),?_⟩;have:cS lo hi st i=(false != dr (.int ((i-lo) % st)) (.int 0)):=by
    unfold cS;rw[cm a,cm b,hmax];simp[dr,qv]
   rw[this]at q;exact q
  ·have:cS lo hi st i=false:=by unfold cS;rw[dq b];simp
   rw[this]at q;exact q
  ·have:cS lo hi st i=false:=by unfold cS;rw[dq a];simp
   rw[this]at q;exact q
noncomputable def wM:bf:=λas R=>∃x m:Str,as=[.va (sT x),.va (sT m)]/\m∈MK/\x.length<=1000/\R (bT (iS x m))
theorem Oy(h:ai K mg "has_mark" wt)(B:Own mg)(GSIGNS:mK K w.params mg "SIGNS" iz)  : ae P w K mg base 1 "has_mark" OZ wM:=by
 refine h.pg2 OZ (λnd hr=>
   (aJ (aO (bI (HM rfl) rfl B.any boot_any (aD (bB (dI (sc:=aV wt) (XN:=OZ) (N:=["sign","mark"]) (fr:=[1]) (bK (aC 0)) (λ_ _ _ _ _=>(cP (gO hr.units).op (aC 0) (qC GSIGNS rfl (aC 1)) rfl)))) aG))))) (λas R q=>?_)
 obtain⟨x,m,rfl,hm,hx,q⟩:=q;obtain⟨S,hS⟩:∃S,getS iz m=some S:=by
  simp only[MK,qk_,fb,or_false]at hm;rcases hm with e|e|e|e<;>subst e<;>exact⟨_,rfl⟩
 refine⟨rfl,by rw[aq,<-WordM.len];omega,?_⟩;refine cX (λc=>sT ⟨#[c]⟩) (λc=>bT (decide (c∈cs S))) (λc hc R q=>⟨m,S,rfl,hS,?_⟩) ?_
 ·have e:(false != p8 ⟨#[c]⟩ S)=decide (c∈cs S):=by
   unfold p8;rw[StrLaws.found_one];simp
  show R (some (bT (false != p8 ⟨#[c]⟩ S))) _;rw[e];exact q
 ·refine⟨(cs x).map λc=>decide (c∈cs S),by rw[cv];rfl,?_⟩;have e:((cs x).map λc=>decide (c∈cs S)).any id=iS x m:=by
   rw[List.any_map,iS,hS];rfl
  rw[e];exact q
noncomputable def oS:bf:=λas R=>∃x:Str,as=[.va (sT x)]/\x.length<=1000/\R (.seq true ((dD x).map sT))
theorem Ox(h:ai K mg "marks_of" wq)(B:Own mg)(Q3:ae P w K mg base 1 "has_mark" OZ wM)(GMARKS:eQ K mg "MARKS" (.seq true (MK.map sT)))  : ae P w K mg base 2 "marks_of" ["text"] oS:=by
 refine h.pg1 ["text"] (λnd hr=>
   (aJ (aO (lI lO rfl B.tuple_ boot_tuple (aD (bB (gK (sc:=aV wq) (XN:=["text"]) (N:=["mark","text"]) (fr:=[0]) (bK (mD GMARKS rfl)) (λ_ _ _ _ _=>(eK (cW (aL Q3 hr (aD (aC 1) (aD (aC 0) aG)))))) (λ_ _ _ _ _=>(aC 0)))) aG))))) (λas R q=>?_)
 obtain⟨x,rfl,hx,q⟩:=q;refine⟨rfl,by decide,?_⟩;refine dL (l:=MK) sT (λm=>if iS x m=true then some (sT m) else none) (λm hm R q=>⟨x,m,rfl,hm,hx,_,rfl,gr (λz=>?_) (λz=>?_)⟩) ?_
 ·rw[if_pos z]at q;exact q
 ·rw[if_neg (by rw[z];exact b9)]at q;exact q
 ·refine⟨false,_,rfl,?_⟩;have e:(MK.filterMap λm=>if iS x m=true then some (sT m) else none)=(dD x).map sT:=by
   unfold dD;generalize MK=l
   induction l with
   |nil=>rfl
   |cons a l ih=>
    rw[i9,ny,ih];cases iS x a<;>simp
  rw[e];exact q
noncomputable def iE:bf:=λas R=>∃(W:Wd) (x:Str),as=[.va (bQ W),.va (sT x)]/\jz W/\Sg x/\x.length<=1000/\R (bT (bZ W x))
theorem EV(h:ai K mg "words_let" vd)(B:Own mg)(Qi:ae P w K mg base 2 "marks_of" ["text"] oS)   : ae P w K mg base 3 "words_let" O0 iE:=by
 refine h.pg2 ["words","text","tail"] (λnd hr=>
   (aI (aY (bD hr (aH hr (aC 0) aE) aT)
    (aJ (aO (cP (gO hr.units).op (aC 1) (aH hr (aC 0) aE) rfl)))
    aX)
   (aI (aY (eM (cW (nI PySem.F.slot_str_startswith PySem.F.type_str_startswith Cj (aC 1) (aD (aH hr (aC 0) aE) aG))))
    (aJ (aO dS))
    aX)
   (aI (bC 2 nd (fW gD (aC 1) (fX (bI cJ rfl B.len df (aD (aH hr (aC 0) aE) aG))) fY))
   (aJ (aO (fL (wX eY eY (aH hr (aC 0) aE) (bI cJ rfl B.len df (aD (aC 2) aG)) (aH hr (aC 0) aE)) (gC (bI (pV rfl) rfl B.all boot_all (aD (bB (dI (sc:=aV vd) (XN:=["words","text","tail"]) (N:=["mark","words"]) (fr:=[0]) (bK (aL Qi hr (aD (aC 2) aG))) (λ_ _ _ _ _=>(cP (gO hr.units).op (aC 0) (aH hr (aC 1) aE) rfl)))) aG)))))))))) (λas R q=>?_)
 obtain⟨W,x,rfl,ok,sx,lx,q⟩:=q;refine⟨rfl,?_⟩;cases W with
 |few ss=>
  refine⟨_,rfl,_,rfl,fS (λ_=>⟨_,rfl,gT,?_⟩) (λh=>absurd rfl h)⟩;rw[gJ];have:(false != decide (x∈ss))=bZ (.few ss) x:=by simp[bZ]
  rw[this];exact q
 |make hd lo hi ms=>
  have hhd:hd.length<=60:=ok.1.2;refine⟨_,rfl,_,rfl,fS (λh=>absurd h (by decide +kernel)) (λ_=>?_)⟩;have q':∀b,bZ (.make hd lo hi ms) x=b->R (bT b):=λb e=>e▸q
  refine⟨rfl,_,rfl,_,_,rfl,rfl,_,rfl,?_⟩;refine gr (λh1=>?_) (λh1=>?_)
  ·have h1:jg x hd=false:=by
    have h1:(!(jg x hd))=true:=h1;simpa using h1
   refine q' _ ?_;show(jg x hd&&_)=false;rw[h1];rfl
  ·have h1:jg x hd=true:=by
    have h1:(!(jg x hd))=false:=h1;simpa using h1
   refine⟨_,rfl,by omega,_,rfl,by omega,?_⟩;have hrl:(aZ x hd).length<=1000:=bu (WordM.slice_len ..) lx;refine⟨_,rfl,by show(aZ x hd).length<=100000;omega,_,rfl,dQ (λh2=>⟨_,rfl,_,rfl,dQ (λh3=>?_) (λh3=>?_)⟩) (λh2=>⟨false,rfl,bG ?_⟩)⟩
   ·have h2:lo<=((aZ x hd).length:Int):=h2;have h3:((aZ x hd).length:Int)<=hi:=h3;refine⟨_,rfl,hrl,by rw[aq];exact bu (fk _ _) (by decide),?_⟩;refine cX sT (λm=>bT (decide (m∈ms))) (λm hm R q=>⟨_,rfl,gT,?_⟩) ?_
    ·rw[gJ];have:(false != decide (m∈ms))=decide (m∈ms):=by simp
     rw[this];exact q
    ·refine⟨(dD (aZ x hd)).map λm=>decide (m∈ms),by rw[cv];rfl,q' _ ?_⟩;show(jg x hd&&_)=_;rw[h1,cm h2,cm h3,<-MF (x:=aZ x hd) (sx.slice _ _) ms,jx];rfl
   ·have h3:¬ ((aZ x hd).length:Int)<=hi:=h3;refine q' _ ?_;show(jg x hd&&_)=_;rw[dq h3];simp
   ·have h2:¬ lo<=((aZ x hd).length:Int):=h2;refine q' _ ?_;show(jg x hd&&_)=_;rw[dq h2];simp
variable{n:Nat}
noncomputable def wa:List (Str×Str):=[("nothing","nothing"),("truths","truth"),("numbers","number"),("texts","text"),("lists","list"),("record","dict"),("table","dict")]
theorem ar{α:Type}{x:α}{r:List α}:je (x::r) 0=some x:=aQ (j:=0) rfl
theorem pD(p:Pt):∃r,aU p=.seq true (sT (jF p)::r)/\r.length<=4:=by
 cases p with
 |record a b fs=>exact⟨_,bS a b fs,by simp⟩
 |lists a b f=>exact⟨_,fV a b f,by simp⟩
 |table a b w f=>exact⟨_,cQ a b w f,by simp⟩
 |_=>rw[aU];exact⟨_,rfl,by simp⟩
theorem Im(p:Pt):getS wa (jF p)=some (cZ (bA p)):=by
 cases p<;>rfl
noncomputable def mO:bf:=λas R=>∃p:Pt,as=[.va (aU p)]/\R (sT (cZ (bA p)))
theorem Ee(h:ai K mg "part_kind" y6)(B:Own mg)(GPART_KINDS:mK K w.params mg "PART_KINDS" wa)  : ae P w K mg base 1 "part_kind" OI mO:=by
 refine h.pg1 OI (λnd hr=>
   (aJ (aO (qC GPART_KINDS rfl (aH hr (aC 0) aE))))) (λas R q=>?_)
 obtain⟨p,rfl,q⟩:=q;obtain⟨r,e,_⟩:=pD p;rw[e];exact⟨rfl,_,ar,_,_,rfl,Im p,q⟩
theorem Nd{a b:Nat}(ha:a<=5)(hb:b<=5)(h:cZ a=cZ b):a=b:=by
 have h1:a=0\/a=1\/a=2\/a=3\/a=4\/a=5:=by omega
 have h2:b=0\/b=1\/b=2\/b=3\/b=4\/b=5:=by omega
 rcases h1 with e|e|e|e|e|e<;>subst e<;>rcases h2 with e|e|e|e|e|e<;>subst e<;>first|rfl|exact absurd h (by decide +kernel)
theorem sL(p:Pt):bA p<=5:=by cases p<;>simp[bA]
noncomputable def qU:Option Pt->Tv
 |none=>nT
 |some p=>aU p
noncomputable def kG:bf:=λas R=>∃(f:List Pt) (k:Nat),as=[.va (bJ f),.va (sT (cZ k))]/\k<=5/\R (qU (f.find? λp=>decide (bA p=k)))
theorem Ef(h:ai K mg "part_for" y8)(B:Own mg)(PR:ae P w K mg base 1 "part_kind" OI mO)   : ae P w K mg base 2 "part_for" OO kG:=by
 refine h.pg2 ["form","kind","part"] (λnd hr=>
   (aI (fJ (m:=3) i4 rfl (bK (aC 0)) (eG 2 (by decide) nd rfl (.inl rfl))
    (aJ (aY (bD hr (aL PR hr (aD (aC 2) aG)) (aC 1))
     (aJ (aO (aC 2)))
     aX)))
   (aJ (aO gW)))) (λas R q=>?_)
 obtain⟨f,k,rfl,hk,q⟩:=q;refine⟨rfl,?_⟩;refine lU aU (l:=f) (λi ρ=>(∀j p,j<i->f[j]?=some p->bA p≠k)/\∃s,ρ=[.va (bJ f),.va (sT (cZ k)),s]) ⟨λj p h=>absurd h (km _),.no,rfl⟩ ?_ ?_
 ·rintro i p _ N hp ⟨hj,s,rfl⟩ hN;refine⟨p,rfl,_,rfl,fS (λe=>?_) (λe=>?_)⟩
  ·have e:=Nd (sL p) hk e;have:f.find? (λp=>decide (bA p=k))=some p:=by
    rw[qo];obtain⟨hi,rfl⟩:=qB_.mp hp
    exact⟨cm e,i,hi,rfl,λj hj'=>by
     have:=hj j f[j] hj' (cb (by omega))
     simpa using this⟩
   rw[this]at q;exact q
  ·refine hN _ ⟨λj p' hj' ep=>?_,_,rfl⟩;by_cases z:j=i
   ·subst z;rw[hp]at ep;cases ep;exact λz=>e (by rw[z])
   ·exact hj j p' (by omega) ep
 ·rintro _ ⟨hj,s,rfl⟩;have:f.find? (λp=>decide (bA p=k))=none:=by
   rw[qP1_];intro p hp;obtain⟨j,hj',rfl⟩:=qG1_.mp hp;simpa using hj j _ hj' (cb hj')
  rw[this]at q;exact q
open GcdM CutM
theorem e7{N:aW->Prop}{ρ ρ':aW}(e:ρ=ρ')(h:N ρ'):N ρ:=e▸h
noncomputable def vF(a:R3):Tv:=.seq true [iT a.1,iT a.2.1,iT a.2.2]
noncomputable def zO:bf:=λas R=>∃a b:Int,as=[.va (iT a),.va (iT b)]/\0<=a/\0<=b/\R (iT (g a b))
theorem OF(h:ai K mg "divisor_of" DX)(B:Own mg)    : ae P w K mg base 1 "divisor_of" OH zO:=by
 refine h.pg2 ["one","other","rest"] (λnd hr=>
   (aI (oX i4 (oD hr (aC 1) aE)
    (aI (bC 2 nd (bE nP (aC 0) (aC 1)))
    (aI (bC 0 nd (aC 1))
    (aJ (bC 1 nd (aC 2))))))
   (aJ (aO (aC 0))))) (λas R q=>?_)
 obtain⟨a,b,rfl,a0,b0,q⟩:=q;refine⟨rfl,λm ρ=>∃(x y:Int) (s:Sl),m=y.toNat/\0<=x/\0<=y/\g x y=g a b/\ρ=[.va (iT x),.va (iT y),s],⟨_,a,b,.no,rfl,a0,b0,rfl,rfl⟩,?_⟩;rintro m _ ⟨x,y,s,rfl,x0,y0,e,rfl⟩;refine⟨_,rfl,gr (λz=>?_) (λz=>?_)⟩
 ·have hy:y≠0:=by simpa[dr]using z
  have h1:=jn x hy;have h2:=jo x (show 0<y by omega);exact⟨(show 0<y by omega),_,by omega,y,x % y,_,rfl,y0,h1,(H_ (show 0<y by omega)).trans e,rfl⟩
 ·have hy:y=0:=by simpa[dr]using z
  subst hy;rw[Ia x x0]at e;rw[<-e]at q;exact q
noncomputable def fH(lo hi st:Int):List Int:=[lo,hi,lo+st]
noncomputable def rQ:bf:=λas R=>∃lo hi st:Int,as=[.va (.seq true [iT lo,iT hi,iT st])]/\R (.seq false ((fH lo hi st).map iT))
theorem OC(h:ai K mg "telling_numbers" DU)(B:Own mg)    : ae P w K mg base 1 "telling_numbers" ["run"] rQ:=by
 refine h.pg1 ["run"] (λnd hr=>
   (aJ (aO (bB (cC (aD (aH hr (aC 0) aE) (aD (aH hr (aC 0) aE) (aD (bE cD (aH hr (aC 0) aE) (aH hr (aC 0) aE)) aG)))))))) (λas R q=>?_)
 obtain⟨lo,hi,st,rfl,q⟩:=q;exact⟨rfl,_,rfl,_,rfl,_,rfl,_,rfl,by simp,q⟩
noncomputable def yA:bf:=λas R=>∃ns:List Int,as=[.va (.seq false (ns.map iT))]/\ns≠[]/\R (vF (cK ns))
theorem OE(h:ai K mg "run_of" DW)(B:Own mg)(QG:ae P w K mg base 1 "divisor_of" OH zO)   : ae P w K mg base 2 "run_of" ["numbers"] yA:=by
 refine h.pg1 ["numbers","lo","step","number"] (λnd hr=>
   (aI (aY (bD hr (bI cJ rfl B.len df (aD (aC 0) aG)) aE)
    (aJ yW)
    aX)
   (aI (bC 1 nd (bI (lY rfl) rfl B.min boot_min (aD (aC 0) aG)))
   (aI (bC 2 nd aE)
   (aI (fJ (m:=4) i4 rfl (bK (aC 0)) (eG 3 (by decide) nd rfl (.inl rfl))
    (aJ (bC 2 nd (aL QG hr (aD (bE iM (aC 3) (aC 1)) (aD (aC 2) aG))))))
   (aJ (aO (cH (aD (aC 1) (aD (bI (jT rfl) rfl B.max boot_max (aD (aC 0) aG)) (aD (aC 2) aG))))))))))) (λas R q=>?_)
 obtain⟨ns,rfl,ne,q⟩:=q;have l0:0<ns.length:=qX1_.mpr ne;refine⟨rfl,_,rfl,fT (λz=>absurd z (by rw[aq];omega)) (λ_=>?_)⟩;refine .inr (.inl ⟨ns,rfl,l0,λlo lo1 lo2=>?_⟩);show az.nx _ _;refine e7 (ρ':=[.va (.seq false (ns.map iT)),.va (iT lo),.no,.no]) rfl ?_;have el:lo=bM ns:=(yG lo1 lo2).symm;refine lU iT (l:=ns) (λi ρ=>∃s3:Sl,ρ=[.va (.seq false (ns.map iT)),.va (iT lo),.va (iT ((ns.take i).foldl (λs n=>g (n-lo) s) 0)),s3]) ⟨.no,rfl⟩ ?_ ?_
 ·rintro i a _ N ha ⟨s3,rfl⟩ hN;have h1:=lo2 a (i7 ha);refine⟨a-lo,_,rfl,by omega,qY (jl 0),hN _ ⟨.va (iT a),?_⟩⟩;rw[j6,ha,q_];rfl
 ·rintro _ ⟨s3,rfl⟩;rw[mf];refine .inr (.inl ⟨ns,rfl,l0,λhi hi1 hi2=>⟨by simp,?_⟩⟩);have eh:hi=bV ns:=(yH hi1 hi2).symm;subst el eh;exact q
noncomputable def pX:bf:=λas R=>∃a b:R3,as=[.va (vF a),.va (vF b)]/\Ok a/\Ok b/\R (vF (joinR a b))
theorem Oz(h:ai K mg "run_joined" DR)(B:Own mg)(QH:ae P w K mg base 2 "run_of" ["numbers"] yA)(Qs:ae P w K mg base 1 "telling_numbers" ["run"] rQ)   : ae P w K mg base 3 "run_joined" OH pX:=by
 refine h.pg2 OH (λnd hr=>
   (aJ (aO (aL QH hr (aD (bE cD (aL Qs hr (aD (aC 0) aG)) (aL Qs hr (aD (aC 1) aG))) aG))))) (λas R q=>?_)
 obtain⟨a,b,rfl,ha,hb,q⟩:=q;refine⟨rfl,a.1,a.2.1,a.2.2,rfl,b.1,b.2.1,b.2.2,rfl,by simp[fH],fH a.1 a.2.1 a.2.2++fH b.1 b.2.1 b.2.2,by rw[dw],by simp[fH],?_⟩;have ne:fH a.1 a.2.1 a.2.2++fH b.1 b.2.1 b.2.2≠[]:=by simp[fH]
 obtain⟨m1,m2⟩:=iI ne;obtain⟨m3,m4⟩:=iJ ne;have e:cK (fH a.1 a.2.1 a.2.2++fH b.1 b.2.1 b.2.2)=joinR a b:=Na ha hb m1 m2 m3 m4;rw[e];exact q
theorem sN{a b:Str}{A B:Prop}(h:a≠b)(k:B):if (false != dr (.str a) (.str b))=true then A else B:=fS (λz=>absurd z h) λ_=>k
theorem sY{a:Str}{A B:Prop}(k:A):if (false != dr (.str a) (.str a))=true then A else B:=fS (λ_=>k) λz=>absurd rfl z
theorem Om{a:Str}{A B:Prop}(k:B):if (true != dr (.str a) (.str a))=true then A else B:=gr (λz=>absurd z (by simp[dr])) λ_=>k
theorem iG(lo hi st:Int):aU (.numbers lo hi st)=.seq true [sT "numbers",iT lo,iT hi,iT st]:=by rw[aU]
theorem jI(bs:List Bool):aU (.truths bs)=.seq true [sT "truths",.seq true (bs.map bT)]:=by rw[aU]
theorem jJ(w:Wd):aU (.texts w)=.seq true [sT "texts",bQ w]:=by rw[aU]
theorem oQ:aU .nothing=.seq true [sT "nothing"]:=by rw[aU]
noncomputable def vI:bf:=λas R=>∃ms ms':List Str,as=[.va (.seq true (ms.map sT)),.va (.seq true (ms'.map sT))]/\ms.length<=4/\ms'.length<=4/\R (.seq true ((jy ms ms').map sT))
theorem ER(h:ai K mg "marks_joined" yn)(B:Own mg)    : ae P w K mg base 1 "marks_joined" OH vI:=by
 refine h.pg2 OH (λnd hr=>
   (aJ (aO (lI lO rfl B.tuple_ boot_tuple (aD (bB (Cu rfl rfl B.sorted rfl B.set_ (aC 0) (aC 1))) aG))))) (λas R q=>?_)
 obtain⟨ms,ms',rfl,l1,l2,q⟩:=q;exact⟨rfl,ms,.inl rfl,by omega,ms',.inl rfl,by omega,_,_,rfl,q⟩
theorem AE:∀(k:Nat) (x y:List Nat),x.take k=y.take k->k<=x.length->k<=y.length->(k=x.length\/k=y.length\/x[k]?≠y[k]?)->lb x y=x.take k
 |0,[],y,_,_,_,_=>by cases y<;>rfl
 |0,a::x,[],_,_,_,_=>rfl
 |0,a::x,b::y,_,_,_,h=>by
  rcases h with h|h|h
  ·simp at h
  ·simp at h
  ·have:a≠b:=by simpa using h
   rw[lb,if_neg this];rfl
 |k+1,[],y,_,h,_,_=>by simp at h
 |k+1,a::x,[],_,_,h,_=>by simp at h
 |k+1,a::x,b::y,e,h1,h2,h3=>by
  simp only[List.take_succ_cons,List.cons.injEq]at e;rw[lb,if_pos e.1,AE k x y e.2 (by simpa using h1) (by simpa using h2) (by simpa using h3)];rfl
noncomputable def qi(x y:Str):Str:=⟨(lb (cs x) (cs y)).toArray⟩
theorem zy(x y:Str):bo [x,y] (qi x y):=xK (ts:=[x,y]) (by simp)
theorem Dd:∀(h a b y:List Nat),h++a<=y->y<=h++b->∃r,y=h++r
 |[],a,b,y,_,_=>⟨y,rfl⟩
 |c::h,a,b,[],h1,_=>absurd (List.nil_lt_cons c (h++a)) (qi1_.mpr h1)
 |c::h,a,b,d::y,h1,h2=>by
  rw[j5]at h1 h2;have e:c=d:=by
   rcases om c d with z|z|z
   ·exact absurd (qY2_.mpr (.inl z)) (qi1_.mpr h2)
   ·exact z
   ·exact absurd (qY2_.mpr (.inl z)) (qi1_.mpr h1)
  subst e;obtain⟨r,e⟩:=Dd h a b y (qi1_.mp λz=>qi1_.mpr h1 (qY2_.mpr (.inr ⟨rfl,z⟩))) (qi1_.mp λz=>qi1_.mpr h2 (qY2_.mpr (.inr ⟨rfl,z⟩)));exact⟨r,by rw[e];rfl⟩
theorem M6{ts:List Str}{x y hd:Str}(hx:x∈ts)(hy:y∈ts)(lx:∀t∈ts,cs x<=cs t)(ly:∀t∈ts,cs t<=cs y)(h:bo [x,y] hd):bo ts hd:=by
 refine⟨λt ht=>?_,λh' hh=>h.top h' λt ht=>?_⟩
 ·obtain⟨a,ea⟩:=h.all x (by simp);obtain⟨b,eb⟩:=h.all y (by simp);exact Dd (cs hd) a b (cs t) (by rw[<-ea];exact lx t ht) (by rw[<-eb];exact ly t ht)
 ·rcases qk_.mp ht with z|z
  ·rw[z];exact hh x hx
  ·rw[show t=y by simpa using z];exact hh y hy
theorem LX{x:Str}{n:Nat}(h:n<=x.length):cs (Txt.slice x none (some (n:Int)))=(cs x).take n:=by
 have e:=beq_iff_eq.mp (PyProof.Rows.slice_closes_toL (x:=x) (j:=(n:Int)) (by omega) (by omega));rw[e];show((cs x).drop 0).take _=_;rw[p5];congr 1
theorem MG{us:List Str}{hd z:Str}(hs:∀t∈us,Sg t)(e:cs z=bN (us.map λt=>aZ t hd)):dD z=kM us hd:=by
 unfold dD kM;refine List.filter_congr λm hm=>?_
 rw[fm,iS,qA_,qA_,e];unfold bN;have sg:∀t∈us,∀c∈cs (aZ t hd),c∈cs da:=λt ht c hc=>(hs t ht).slice _ _ c hc
 constructor
 ·rintro⟨c,hc,h2⟩;obtain⟨l,hl,hc⟩:=qh1_.mp hc;obtain⟨t',ht',rfl⟩:=qd_.mp hl;obtain⟨t,ht,rfl⟩:=qd_.mp ht';exact⟨t,ht,qA_.mpr ⟨c,hc,cm ((nG (sg t ht c hc) m hm).mp (gm h2))⟩⟩
 ·rintro⟨t,ht,h2⟩;obtain⟨c,hc,h3⟩:=qA_.mp h2;exact⟨c,qh1_.mpr ⟨_,qd_.mpr ⟨_,qd_.mpr ⟨t,ht,rfl⟩,rfl⟩,hc⟩,cm ((nG (sg t ht c hc) m hm).mpr (gm h3))⟩
theorem J_(us:List Str)(n:Nat)(h:∀t∈us,t.length<=n):(bN us).length<=us.length*n:=by
 induction us with
 |nil=>simp[bN]
 |cons t us ih=>
  have e:bN (t::us)=cs t++bN us:=rfl;rw[e,b8,<-WordM.len,iw,Nat.succ_mul];have:=ih λx hx=>h x (ia _ hx)
  have:=h t ib;omega
noncomputable def vG:bf:=λas R=>∃x y:Str,as=[.va (sT x),.va (sT y)]/\x.length<=1000/\y.length<=1000/\R (sT (qi x y))
theorem ES(h:ai K mg "shared_head" yo)(B:Own mg)    : ae P w K mg base 1 "shared_head" OH vG:=by
 refine h.pg2 ["one","other","size"] (λnd hr=>
   (aI (bC 2 nd aE)
   (aI (oX i4 (dX (jS (cO kT (aC 2) (bI cJ rfl B.len df (aD (aC 0) aG))) (jS (cO kT (aC 2) (bI cJ rfl B.len df (aD (aC 1) aG))) (kK (bD hr (aH hr (aC 0) (aC 2)) (aH hr (aC 1) (aC 2)))))))
    (aJ (bC 2 nd (bE cD (aC 2) aE))))
   (aJ (aO (fW gD (aC 0) fY (fX (aC 2)))))))) (λas R q=>?_)
 obtain⟨x,y,rfl,lx,ly,q⟩:=q;have ex:x.length=(cs x).length:=WordM.len x;have ey:y.length=(cs y).length:=WordM.len y;refine⟨rfl,λm ρ=>∃k:Nat,m=x.length-k/\k<=x.length/\k<=y.length/\(cs x).take k=(cs y).take k/\ρ=[.va (sT x),.va (sT y),.va (iT (k:Nat))],⟨_,0,rfl,d8 _,d8 _,rfl,rfl⟩,?_⟩;rintro m _ ⟨k,rfl,k1,k2,e,rfl⟩;have fin:(k=(cs x).length\/k=(cs y).length\/(cs x)[k]?≠(cs y)[k]?)->R (sT (Txt.slice x none (some (k:Int)))):=λh=>by
  have e2:Txt.slice x none (some (k:Int))=qi x y:=jQ (by rw[LX k1];exact(AE k (cs x) (cs y) e (by omega) (by omega) h).symm);rw[e2];exact q
 refine⟨by show x.length<=_;omega,_,rfl,dQ (λz1=>⟨by show y.length<=_;omega,_,rfl,dQ (λz2=>?_) (λz2=>?_)⟩) (λz1=>?_)⟩
 ·have z1:(k:Int)<(x.length:Nat):=z1;have z2:(k:Int)<(y.length:Nat):=z2;have gx:(cs x)[k]?=some (cs x)[k]:=cb (by omega);have gy:(cs y)[k]?=some (cs y)[k]:=cb (by omega);refine⟨by show x.length<=_;omega,(cs x)[k],aQ (j:=k) gx,by show y.length<=_;omega,(cs y)[k],aQ (j:=k) gy,_,rfl,?_⟩;refine fS (λz=>?_) (λz=>?_)
  ·have ee:(cs x)[k]=(cs y)[k]:=by simpa using z
   refine⟨x.length-(k+1),by omega,k+1,rfl,by omega,by omega,?_,by push_cast;rfl⟩;rw[j6,j6,e,gx,gy,ee]
  ·refine⟨_,rfl,by show x.length<=_;omega,fin (.inr (.inr λh=>z ?_))⟩;rw[gx,gy]at h;injection h with h
   rw[h]
 ·have z2:¬ (k:Int)<(y.length:Nat):=z2;exact⟨_,rfl,by show x.length<=_;omega,fin (.inr (.inl (by omega)))⟩
 ·have z1:¬ (k:Int)<(x.length:Nat):=z1;exact⟨_,rfl,by show x.length<=_;omega,fin (.inl (by omega))⟩
noncomputable def sH:bf:=λas R=>∃(t:Bool) (us:List Str),as=[.va (.seq t (us.map sT))]/\us≠[]/\us.length<=20/\(∀t∈us,eJ t)/\R (bQ (gR us))
theorem yF{us:List Str}{hd:Str}{lo hi:Int}{ms:List Str}(m:jv us hd lo hi ms):Wd.make hd lo hi ms=gR us:=by
 obtain⟨h2,l2,u2,m2,e,k⟩:=kL m.ne;obtain⟨e1,e2,e3,e4⟩:=m.uniq k;rw[e,e1,e2,e3,e4]
theorem ET(h:ai K mg "make_of" vE)(B:Own mg)(P0:ae P w K mg base 1 "shared_head" OH vG)(Qi:ae P w K mg base 2 "marks_of" ["text"] oS)   : ae P w K mg base 3 "make_of" ON sH:=by
 refine h.pg1 Pb (λnd hr=>
   (aI (bC 1 nd (aL P0 hr (aD (bI (K6 rfl) rfl B.min boot_min (aD (aC 0) aG)) (aD (bI (K5 rfl) rfl B.max boot_max (aD (aC 0) aG)) aG))))
   (aI (iP (sc:=aV vE) (XN:=Pb) (N:=["text","head"]) (fr:=[1]) 2 nd (bK (aC 0)) (λ_ _ _ _ _=>lX) (λ_ _ _ _ _=>(fW gD (aC 0) (fX (bI cJ rfl B.len df (aD (aC 1) aG))) fY)))
   (aI (iP (sc:=aV vE) (XN:=Pb) (N:=["tail"]) (fr:=[]) 3 nd (bK (aC 2)) (λ_ _ _ _ _=>lX) (λ_ _ _ _ _=>(bI cJ rfl B.len df (aD (aC 0) aG))))
   (aJ (aO (cH (aD aT (aD (aC 1) (aD (bI (lY rfl) rfl B.min boot_min (aD (aC 3) aG)) (aD (bI (jT rfl) rfl B.max boot_max (aD (aC 3) aG)) (aD (aL Qi hr (aD (nI PySem.F.slot_str_join PySem.F.type_str_join yD aT (aD (aC 2) aG)) aG)) aG)))))))))))) (λas R q=>?_)
 obtain⟨t,us,rfl,ne,l64,hu,q⟩:=q;have l0:0<us.length:=qX1_.mpr ne;refine⟨rfl,t,us,rfl,l0,λx x1 x2=>⟨t,us,rfl,l0,λy y1 y2=>⟨x,y,rfl,by have:=(hu x x1).2;omega,by have:=(hu y y1).2;omega,?_⟩⟩⟩;have hh:bo us (qi x y):=M6 x1 y1 x2 y2 (zy x y);generalize qi x y=hd at hh;show az.nx _ _;refine e7 (ρ':=[.va (.seq t (us.map sT)),.va (sT hd),.no,.no]) rfl ?_;have rl:∀t∈us,((aZ t hd).length:Int)=(t.length:Int)-(hd.length:Int)/\(aZ t hd).length<=50:=λt ht=>by
  obtain⟨r,e⟩:=hh.all t ht;have h1:=gI e;have h2:=congrArg List.length e;rw[b8]at h2;have h3:=(hu t ht).2;rw[WordM.len]at h3;rw[WordM.len,WordM.len t,WordM.len hd,h1];omega
 have hl:hd.length<=50:=by
  obtain⟨t,ht⟩:=ic _ ne;have:=(rl t ht).1;have:=(hu t ht).2;omega
 refine⟨by rw[aq];omega,cX sT (λt=>sT (aZ t hd)) (λt ht R q=>⟨by show hd.length<=_;omega,_,rfl,by have:=(hu t ht).2;show t.length<=_;omega,q⟩) ?_⟩;show az.nx _ _;refine e7 (ρ':=[.va (.seq t (us.map sT)),.va (sT hd),.va (.seq false ((us.map λt=>aZ t hd).map sT)),.no]) (by rw[cv];rfl) ?_;refine⟨by rw[aq,aq];omega,cX sT (λt=>iT (t.length:Nat)) (λt ht R q=>?_) ?_⟩
 ·obtain⟨u,hu',rfl⟩:=qd_.mp ht;exact⟨by have:=(rl u hu').2;show(aZ u hd).length<=_;omega,q⟩
 have es:((us.map λt=>aZ t hd).map λt=>iT (t.length:Nat))=((us.map λt=>(t.length:Int)-(hd.length:Int))).map iT:=by
  rw[cv,cv];apply oo;intro t ht;show iT ((aZ t hd).length:Nat)=iT _;rw[(rl t ht).1]
 rw[es];have ne2:(us.map λt=>(t.length:Int)-(hd.length:Int))≠[]:=by simpa using ne
 refine .inr (.inl ⟨_,rfl,qX1_.mpr ne2,λlo lo1 lo2=>.inr (.inl ⟨_,rfl,qX1_.mpr ne2,λhi hi1 hi2=>?_⟩)⟩);have cl:(bN (us.map λt=>aZ t hd)).length<=1000:=by
  have:=J_ (us.map λt=>aZ t hd) 50 λt ht=>by
   obtain⟨u,hu',rfl⟩:=qd_.mp ht;exact(rl u hu').2
  rw[aq]at this;omega
 refine⟨rfl,us.map λt=>aZ t hd,rfl,rfl,by omega,_,rfl,by show(bN (us.map λt=>aZ t hd)).length<=_;exact cl,by simp,?_⟩;rw[MG (us:=us) (hd:=hd) (z:=⟨(bN (us.map λt=>aZ t hd)).toArray⟩) (λt ht=>(hu t ht).1) rfl];have m:jv us hd lo hi (kM us hd):=by
  refine⟨hh,?_,λt ht=>lo2 _ (qd_.mpr ⟨t,ht,rfl⟩),?_,λt ht=>hi2 _ (qd_.mpr ⟨t,ht,rfl⟩),rfl⟩
  ·obtain⟨t,ht,e⟩:=qd_.mp lo1;exact⟨t,ht,e⟩
  ·obtain⟨t,ht,e⟩:=qd_.mp hi1;exact⟨t,ht,e⟩
 rw[<-yF m]at q;exact q
noncomputable def lJ:bf:=λas R=>∃ts:List Str,as=[.va (.seq false (ts.map sT))]/\ts≠[]/\ts.length<=1000/\(aN ts).length<=20/\(∀t∈ts,eJ t)/\R (bQ (bP ts))
theorem Ca{ts us:List Str}(ne:ts≠[])(h:∀x,x∈ts↔x∈us):gR ts=gR us:=by
 obtain⟨hd,lo,hi,ms,e,m⟩:=kL ne;rw[e];exact yF (m.same h)
theorem EU(h:ai K mg "words_of" yp)(B:Own mg)(P3:ae P w K mg base 3 "make_of" ON sH)(GMOST_FEW:eQ K mg "MOST_FEW" (iT 6))  : ae P w K mg base 4 "words_of" ON lJ:=by
 refine h.pg1 ["texts","unlike"] (λnd hr=>
   (aI (aY (bD hr (bI cJ rfl B.len df (aD (aC 0) aG)) aE)
    (aJ yW)
    aX)
   (aI (bC 1 nd (bB (NN rfl rfl B.sorted rfl B.set_ (aC 0))))
   (aI (aY (cO eY (bI cJ rfl B.len df (aD (aC 1) aG)) (mD GMOST_FEW rfl))
    (aJ (aO (cH (aD aT (aD (lI lO rfl B.tuple_ boot_tuple (aD (aC 1) aG)) aG)))))
    aX)
   (aJ (aO (aL P3 hr (aD (aC 1) aG)))))))) (λas R q=>?_)
 obtain⟨ts,rfl,ne,lt,l20,ht,q⟩:=q;have l0:0<ts.length:=qX1_.mpr ne;refine⟨rfl,_,rfl,fT (λz=>absurd z (by rw[aq];omega)) (λ_=>?_)⟩;have sl:(bF (aN ts)).length=(aN ts).length:=(fU _).length_eq;refine⟨ts,rfl,by omega,?_⟩;show az.nx _ _;refine e7 (ρ':=[.va (.seq false (ts.map sT)),.va (.seq false ((bF (aN ts)).map sT))]) rfl ?_;refine⟨_,rfl,dQ (λz=>?_) (λz=>?_)⟩
 ·have z:(((bF (aN ts)).map sT).length:Int)<=6:=z;rw[aq,sl]at z;unfold bP at q;rw[if_pos (by omega)]at q;exact⟨_,_,rfl,by simp,q⟩
 ·have z:¬ (((bF (aN ts)).map sT).length:Int)<=6:=z;rw[aq,sl]at z;unfold bP at q;rw[if_neg (by omega),Ca (us:=bF (aN ts)) ne λx=>sort_set_mem.symm]at q;exact⟨false,_,rfl,λe=>by rw[e]at sl;simp at sl;omega,by omega,λt h=>ht t (sort_set_mem.mp h),q⟩
structure qV (ts:List Str):Prop where
 ne:ts≠[]
 le:(aN ts).length<=20
 ok:∀t∈ts,eJ t
noncomputable def xI:bf:=λas R=>∃ts:List Str,as=[.va (bQ (bP ts))]/\qV ts/\R (bQ (gR ts))
theorem nC{ts:List Str}(h:ts≠[]):bF (aN ts)≠[]:=λe=>by
 obtain⟨x,hx⟩:=ic _ h;have:=sort_set_mem.mpr hx;rw[e]at this;exact nomatch this
theorem EW(h:ai K mg "as_make" yq)(B:Own mg)(P3:ae P w K mg base 3 "make_of" ON sH)   : ae P w K mg base 4 "as_make" ["words"] xI:=by
 refine h.pg1 ["words"] (λnd hr=>
   (aJ (aO (mV (bD hr (aH hr (aC 0) aE) aT) (aL P3 hr (aD (aH hr (aC 0) aE) aG)) (aC 0))))) (λas R q=>?_)
 obtain⟨ts,rfl,ok,q⟩:=q;unfold bP;split
 ·rename_i z;rw[Ca (us:=bF (aN ts)) ok.ne λx=>sort_set_mem.symm]at q;exact⟨rfl,_,ar,_,rfl,sY ⟨_,aQ (j:=1) rfl,true,_,rfl,nC ok.ne,by rw[(fU _).length_eq];exact ok.le,λt h=>ok.ok t (sort_set_mem.mp h),q⟩⟩
 ·obtain⟨hd,lo,hi,ms,e,m⟩:=kL ok.ne;rw[e]at q ⊢;exact⟨rfl,_,ar,_,rfl,sN (by decide +kernel) q⟩
noncomputable def wK:bf:=λas R=>∃(h1:Str) (lo hi:Int) (ms:List Str) (hd:Str),as=[.va (bQ (.make h1 lo hi ms)),.va (sT hd)]/\h1.length<=50/\hd.length<=50/\ms.length<=4/\R (bQ (.make hd (lo+(aZ h1 hd).length) (hi+(aZ h1 hd).length) (jy ms (dD (aZ h1 hd)))))
theorem EX(h:ai K mg "with_shorter_head" yr)(B:Own mg)(PZ:ae P w K mg base 1 "marks_joined" OH vI)(Qi:ae P w K mg base 2 "marks_of" ["text"] oS)   : ae P w K mg base 3 "with_shorter_head" ["make","head"] wK:=by
 refine h.pg2 ["make","head","tail","marks"] (λnd hr=>
   (aI (bC 2 nd (fW gD (aH hr (aC 0) aE) (fX (bI cJ rfl B.len df (aD (aC 1) aG))) fY))
   (aI (bC 3 nd (aL PZ hr (aD (aH hr (aC 0) aE) (aD (aL Qi hr (aD (aC 2) aG)) aG))))
   (aJ (aO (cH (aD aT (aD (aC 1) (aD (bE cD (aH hr (aC 0) aE) (bI cJ rfl B.len df (aD (aC 2) aG))) (aD (bE cD (aH hr (aC 0) aE) (bI cJ rfl B.len df (aD (aC 2) aG))) (aD (aC 3) aG))))))))))) (λas R q=>?_)
 obtain⟨h1,lo,hi,ms,hd,rfl,l1,l2,l3,q⟩:=q;have rl:(aZ h1 hd).length<=50:=bu (WordM.slice_len ..) l1;have ml:(dD (aZ h1 hd)).length<=4:=by
  unfold dD;exact bu (fk _ _) (by simp[MK])
 refine⟨rfl,_,aQ (j:=1) rfl,by show hd.length<=_;omega,_,rfl,by show h1.length<=_;omega,?_⟩;show az.nx _ _;refine e7 (ρ':=[.va (bQ (.make h1 lo hi ms)),.va (sT hd),.va (sT (aZ h1 hd)),.no]) rfl ?_;refine⟨_,aQ (j:=4) rfl,aZ h1 hd,rfl,by omega,ms,dD (aZ h1 hd),rfl,l3,ml,?_⟩;show az.nx _ _;refine e7 (ρ':=[.va (bQ (.make h1 lo hi ms)),.va (sT hd),.va (sT (aZ h1 hd)),.va (.seq true ((jy ms (dD (aZ h1 hd))).map sT))]) rfl ?_;exact⟨_,aQ (j:=2) rfl,by show(aZ h1 hd).length<=_;omega,_,aQ (j:=3) rfl,by show(aZ h1 hd).length<=_;omega,by simp,q⟩
theorem AC{ms ms':List Str}(h1:∀m∈ms,m∈MK)(h2:∀m∈ms',m∈MK):(jy ms ms').length<=4/\∀m∈jy ms ms',m∈MK:=by
 have h:∀m∈jy ms ms',m∈MK:=λm hm=>by
  rcases qr_.mp (sort_set_mem.mp hm) with z|z
  ·exact h1 m z
  ·exact h2 m z
 exact⟨WordM.nodup_len (rG (iC _)) h,h⟩
theorem DK{ts:List Str}{hd:Str}{lo hi:Int}{ms:List Str}(m:jv ts hd lo hi ms)(ok:∀t∈ts,eJ t):eJ hd/\ms.length<=4/\∀x∈ms,x∈MK:=by
 obtain⟨t,ht,_⟩:=m.lo1;obtain⟨r,e⟩:=m.he.all t ht;have hS:=(ok t ht).1;have hl:=(ok t ht).2;have hk:∀x∈ms,x∈MK:=λx hx=>by rw[m.mks]at hx;exact(qS_.mp hx).1
 refine⟨⟨λc hc=>hS c (by rw[e];exact fe _ hc),?_⟩,?_,hk⟩
 ·rw[WordM.len]at hl ⊢;rw[e,b8]at hl;omega
 ·rw[m.mks];exact bu (fk _ _) (by simp[MK])
noncomputable def xH:bf:=λas R=>∃A B:List Str,as=[.va (bQ (gR A)),.va (bQ (gR B))]/\A≠[]/\B≠[]/\(∀t∈A,eJ t)/\(∀t∈B,eJ t)/\R (bQ (gR (A++B)))
theorem EY(h:ai K mg "makes_joined" yt)(B:Own mg)(P0:ae P w K mg base 1 "shared_head" OH vG)(Qd:ae P w K mg base 3 "with_shorter_head" ["make","head"] wK)(PZ:ae P w K mg base 1 "marks_joined" OH vI)   : ae P w K mg base 4 "makes_joined" OH xH:=by
 refine h.pg2 ["one","other","head","first","second","least","most"] (λnd hr=>
   (aI (bC 2 nd (aL P0 hr (aD (aH hr (aC 0) aE) (aD (aH hr (aC 1) aE) aG))))
   (aI (bC 3 nd (aL Qd hr (aD (aC 0) (aD (aC 2) aG))))
   (aI (bC 4 nd (aL Qd hr (aD (aC 1) (aD (aC 2) aG))))
   (aI (bC 5 nd (bI (lY rfl) rfl B.min boot_min (aD (aH hr (aC 3) aE) (aD (aH hr (aC 4) aE) aG))))
   (aI (bC 6 nd (bI (jT rfl) rfl B.max boot_max (aD (aH hr (aC 3) aE) (aD (aH hr (aC 4) aE) aG))))
   (aJ (aO (cH (aD aT (aD (aC 2) (aD (aC 5) (aD (aC 6) (aD (aL PZ hr (aD (aH hr (aC 3) aE) (aD (aH hr (aC 4) aE) aG))) aG)))))))))))))) (λas R q=>?_)
 obtain⟨A,B,rfl,na,nb,ha,hb,q⟩:=q;obtain⟨h1,lo1,hi1,ms1,e1,m1⟩:=kL na;obtain⟨h2,lo2,hi2,ms2,e2,m2⟩:=kL nb;obtain⟨⟨s1,b1⟩,c1,k1⟩:=DK m1 ha;obtain⟨⟨s2,b2⟩,c2,k2⟩:=DK m2 hb;have hh:=zy h1 h2;have app:=m1.app m2 s1 s2 hh;rw[<-yF app]at q;obtain⟨r1,er1⟩:=hh.all h1 (.head _);have lh:(qi h1 h2).length<=50:=by
  rw[WordM.len]at b1 ⊢;rw[er1,b8]at b1;omega
 rw[e1,e2];refine⟨rfl,_,aQ (j:=1) rfl,_,aQ (j:=1) rfl,h1,h2,rfl,by omega,by omega,?_⟩;generalize qi h1 h2=hd at q lh;have mk1:∀x:Str,∀m∈dD x,m∈MK:=λx m hm=>(qS_.mp hm).1
 have j1:=(AC k1 (mk1 (aZ h1 hd))).1;have j2:=(AC k2 (mk1 (aZ h2 hd))).1;show az.nx _ _;refine e7 (ρ':=[.va (bQ (.make h1 lo1 hi1 ms1)),.va (bQ (.make h2 lo2 hi2 ms2)),.va (sT hd),.no,.no,.no,.no]) rfl ?_;refine⟨h1,lo1,hi1,ms1,hd,rfl,b1,lh,c1,?_⟩;generalize jy ms1 (dD (aZ h1 hd))=n1 at q j1;generalize lo1+((aZ h1 hd).length:Int)=l1 at q;generalize hi1+((aZ h1 hd).length:Int)=g1 at q;show az.nx _ _;refine e7 (ρ':=[.va (bQ (.make h1 lo1 hi1 ms1)),.va (bQ (.make h2 lo2 hi2 ms2)),.va (sT hd),.va (bQ (.make hd l1 g1 n1)),.no,.no,.no]) rfl ?_;refine⟨h2,lo2,hi2,ms2,hd,rfl,b2,lh,c2,?_⟩;generalize jy ms2 (dD (aZ h2 hd))=n2 at q j2;generalize lo2+((aZ h2 hd).length:Int)=l2 at q;generalize hi2+((aZ h2 hd).length:Int)=g2 at q;show az.nx _ _;refine e7 (ρ':=[.va (bQ (.make h1 lo1 hi1 ms1)),.va (bQ (.make h2 lo2 hi2 ms2)),.va (sT hd),.va (bQ (.make hd l1 g1 n1)),.va (bQ (.make hd l2 g2 n2)),.no,.no]) rfl ?_;refine⟨_,aQ (j:=2) rfl,_,aQ (j:=2) rfl,.inl ⟨_,_,rfl,_,aQ (j:=3) rfl,_,aQ (j:=3) rfl,.inl ⟨_,_,rfl,?_⟩⟩⟩;exact⟨_,aQ (j:=4) rfl,_,aQ (j:=4) rfl,n1,n2,rfl,j1,j2,by simp,q⟩
noncomputable def mW:bf:=λas R=>∃A B:List Str,as=[.va (bQ (bP A)),.va (bQ (bP B))]/\A≠[]/\B≠[]/\qV (A++B)/\R (bQ (bP (A++B)))
theorem fN{A C:List Str}(h:∀x∈A,x∈C):(aN A).length<=(aN C).length:=WordM.nodup_len (eI A) λx hx=>(dM C x).mpr (h x ((dM A x).mp hx))
theorem EZ(h:ai K mg "words_joined" yu)(B:Own mg)(PC:ae P w K mg base 4 "words_of" ON lJ)(Qk:ae P w K mg base 4 "makes_joined" OH xH)(Qc:ae P w K mg base 4 "as_make" ["words"] xI)   : ae P w K mg base 5 "words_joined" OH mW:=by
 refine h.pg2 OH (λnd hr=>
   (aI (aY (dX (jS (bD hr (aH hr (aC 0) aE) aT) (kK (bD hr (aH hr (aC 1) aE) aT))))
    (aJ (aO (aL PC hr (aD (bE cD (bB (mR mU rfl B.list_ boot_list (aD (aH hr (aC 0) aE) aG))) (bB (mR mU rfl B.list_ boot_list (aD (aH hr (aC 1) aE) aG)))) aG))))
    aX)
   (aJ (aO (aL Qk hr (aD (aL Qc hr (aD (aC 0) aG)) (aD (aL Qc hr (aD (aC 1) aG)) aG))))))) (λas R q=>?_)
 obtain⟨A,B,rfl,na,nb,ok,q⟩:=q;have oA:qV A:=⟨na,bu (fN λx hx=>fe _ hx) ok.le,λt ht=>ok.ok t (fe _ ht)⟩
 have oB:qV B:=⟨nb,bu (fN λx hx=>de _ hx) ok.le,λt ht=>ok.ok t (de _ ht)⟩
 have fin:7<=(aN (A++B)).length->R (bQ (gR (A++B))):=λh=>by
  unfold bP at q;rw[if_neg (by omega)]at q;exact q
 by_cases zA:(aN A).length<7
 ·have eA:bP A=.few (bF (aN A)):=by unfold bP;rw[if_pos zA]
  by_cases zB:(aN B).length<7
  ·have eB:bP B=.few (bF (aN B)):=by unfold bP;rw[if_pos zB]
   rw[eA,eB];have es:∀x,x∈bF (aN A)++bF (aN B)↔x∈A++B:=λx=>by rw[qr_,qr_,sort_set_mem,sort_set_mem]
   have l1:(bF (aN A)).length=(aN A).length:=(fU _).length_eq;have l2:(bF (aN B)).length=(aN B).length:=(fU _).length_eq;rw[<-oR es]at q;refine⟨rfl,_,ar,_,rfl,sY ⟨_,ar,_,rfl,sY ⟨_,aQ (j:=1) rfl,_,_,rfl,_,aQ (j:=1) rfl,_,_,rfl,?_⟩⟩⟩;refine⟨by rw[aq,aq];omega,bF (aN A)++bF (aN B),by rw[dw],?_,?_,?_,λt ht=>ok.ok t ((es t).mp ht),q⟩
   ·intro e;exact nC na (qh2_.mp e).1
   ·rw[b8];omega
   ·have:=fN (A:=bF (aN A)++bF (aN B)) (C:=A++B) λx hx=>(es x).mp hx
    exact bu this ok.le
  ·have q:=fin (bu (by omega) (fN (A:=B) (C:=A++B) λx hx=>de _ hx));have eB:bP B=gR B:=by unfold bP;rw[if_neg zB]
   obtain⟨h2,lo2,hi2,ms2,e2,m2⟩:=kL nb;have aA:[Ar.va (bQ (.few (bF (aN A))))]=[.va (bQ (bP A))]:=by rw[eA]
   have aB:[Ar.va (bQ (.make h2 lo2 hi2 ms2))]=[.va (bQ (bP B))]:=by rw[eB,e2]
   rw[eB,eA,e2];exact⟨rfl,_,ar,_,rfl,sY ⟨_,ar,_,rfl,sN (by decide +kernel) ⟨A,aA,oA,B,aB,oB,A,B,rfl,na,nb,oA.ok,oB.ok,q⟩⟩⟩
 ·have q:=fin (bu (by omega) (fN (A:=A) (C:=A++B) λx hx=>fe _ hx));have eA:bP A=gR A:=by unfold bP;rw[if_neg zA]
  obtain⟨h1,lo1,hi1,ms1,e1,m1⟩:=kL na;have aA:[Ar.va (bQ (.make h1 lo1 hi1 ms1))]=[.va (bQ (bP A))]:=by rw[eA,e1]
  rw[eA,e1];exact⟨rfl,_,ar,_,rfl,sN (by decide +kernel) (bG ⟨A,aA,oA,B,rfl,oB,A,B,rfl,na,nb,oA.ok,oB.ok,q⟩)⟩
theorem MX{s t:d6}{P:az}{ρ:aW}{J:aW->Prop}(rest:∀ρ',J ρ'->t P ρ')(main:(∀ρ',J ρ'->t P ρ')->uQ s t P ρ):uQ s t P ρ:=main rest
structure o9 (D:List Tv->List Pt):Prop where
 same:∀A B:List Tv,(∀v,v∈A↔v∈B)->D A=D B
 nil:D []=[]
structure f7 (V:Tv->Prop) (ks:List (List (Str×Tv))):Prop where
 ne:ks≠[]
 nd:∀k∈ks,(k.map (·.1)).Nodup
 ok:∀k∈ks,∀kt∈k,eJ kt.1/\V kt.2
 le:(aN (aR ks)).length<=20
variable{D:List Tv->List Pt}{V:Tv->Prop}{W:(Tv->Prop)->Prop}{lv:Nat}
theorem f7.nms{ks:List (List (Str×Tv))}(h:f7 V ks){n:Str}(hn:n∈aR ks):eJ n:=by
 obtain⟨k,hk,hn⟩:=qC1_.mp hn;obtain⟨kt,hkt,rfl⟩:=qd_.mp hn;exact(h.ok k hk kt hkt).1
theorem look_mem{k:List (Str×Tv)}{n:Str}{v:Tv}(h:cF k n=some v):(n,v)∈k:=by
 unfold cF at h;obtain⟨x,hx,e⟩:=qf1_.mp h;have this:=n9 hx;have this:x.1=n:=gm this;have hm:=n8 hx;obtain⟨a,b⟩:=x;simp only at this e;subst this e;exact hm
theorem sU{k:List (Str×Tv)}(nd:(k.map (·.1)).Nodup){n:Str}{v:Tv}(h:(n,v)∈k):cF k n=some v:=by
 unfold cF
 induction k with
 |nil=>exact nomatch h
 |cons x k ih=>
  rw[d9,qD1_]at nd;rw[fg];by_cases z:x.1=n
  ·rw[cm z];rcases qk_.mp h with e|h
   ·subst e;rfl
   ·exact absurd (qd_.mpr ⟨(n,v),h,z.symm⟩) nd.1
  ·rw[dq z];rcases qk_.mp h with e|h
   ·subst e;exact absurd rfl z
   ·exact ih nd.2 h
theorem pP{ks:List (List (Str×Tv))}(nd:∀k∈ks,(k.map (·.1)).Nodup){n:Str}{v:Tv}:v∈ij n ks↔∃k∈ks,(n,v)∈k:=by
 unfold ij;rw[qT_];exact⟨λ⟨k,hk,e⟩=>⟨k,hk,look_mem e⟩,λ⟨k,hk,e⟩=>⟨k,hk,sU (nd k hk) e⟩⟩
theorem vls_mem{ks:List (List (Str×Tv))}{v:Tv}:v∈dG ks↔∃k∈ks,∃n,(n,v)∈k:=by
 unfold dG;rw[qC1_];constructor
 ·rintro⟨k,hk,h⟩;obtain⟨x,hx,rfl⟩:=qd_.mp h;exact⟨k,hk,x.1,hx⟩
 ·rintro⟨k,hk,n,h⟩;exact⟨k,hk,qd_.mpr ⟨_,h,rfl⟩⟩
theorem f7.at_v{ks:List (List (Str×Tv))}(h:f7 V ks){n:Str}:∀v∈ij n ks,V v:=λv hv=>by
 obtain⟨k,hk,e⟩:=(pP h.nd).mp hv;exact(h.ok k hk _ e).2
theorem f7.vls_v{ks:List (List (Str×Tv))}(h:f7 V ks):∀v∈dG ks,V v:=λv hv=>by
 obtain⟨k,hk,n,e⟩:=vls_mem.mp hv;exact(h.ok k hk _ e).2
theorem FP{ks:List (List (Str×Tv))}(hD:o9 D)(ne:ks≠[]){n:Str}(h:n∉aR ks):dA D ks n=(n,false,[]):=by
 have h1:∀k∈ks,n∉k.map (·.1):=λk hk z=>h (qC1_.mpr ⟨k,hk,z⟩)
 have e1:ks.all (λk=>decide (n∈k.map (·.1)))=false:=by
  obtain⟨k,hk⟩:=ic _ ne;exact List.all_eq_false.mpr ⟨k,hk,by simpa using h1 k hk⟩
 have e2:ij n ks=[]:=by
  unfold ij;rw[tm];intro k hk;cases e:cF k n with
  |none=>rfl
  |some v=>exact absurd (qd_.mpr ⟨_,look_mem e,rfl⟩) (h1 k hk)
 unfold dA;rw[e1,e2,hD.nil]
theorem Kv{ks js:List (List (Str×Tv))}(n:Str):dA D (ks++js) n=(n,(dA D ks n).2.1&&(dA D js n).2.1,D (ij n ks++ij n js)):=by
 unfold dA ij;rw[List.all_append,jw]
theorem jB(ks js:List (List (Str×Tv))):aR (ks++js)=aR ks++aR js:=List.flatMap_append ..
theorem sX{ks:List (List (Str×Tv))}(h:ks≠[]):bO ks≠[]:=by unfold bO;simpa using h
theorem L5{ks js:List (List (Str×Tv))}(h1:ks≠[])(h2:js≠[]):bM (bO (ks++js))=min (bM (bO ks)) (bM (bO js))/\bV (bO (ks++js))=max (bV (bO ks)) (bV (bO js)):=by
 rw[show bO (ks++js)=bO ks++bO js from dw ..];exact⟨Bt (sX h1) (sX h2),Br (sX h1) (sX h2)⟩
noncomputable def p6(D:List Tv->List Pt)(W:(Tv->Prop)->Prop):bf:=λas R=>∃V:Tv->Prop,W V/\∃A B:List Tv,as=[.va (bJ (D A)),.va (bJ (D B))]/\(∀v∈A,V v)/\(∀v∈B,V v)/\R (bJ (D (A++B)))
noncomputable def p9(fs:List nj):Tv:=.dct (fs.map λx=>(x.1,bR x))
noncomputable def oK:bf:=λas R=>∃(a b:Int) (fs:List nj),as=[.va (aU (.record a b fs))]/\fs.length<=20/\(fs.map (·.1)).Nodup/\R (p9 fs)
theorem Eu(h:ai K mg "fields_by_name" vq)(B:Own mg)    : ae P w K mg base 1 "fields_by_name" OM oK:=by
 refine h.pg1 OM (λnd hr=>
   (aJ (aO (zH (wY rfl rfl B.dict_ (bB (dI (sc:=aV vq) (XN:=OM) (N:=["field"]) (fr:=[]) (bK (aH hr (aC 0) aE)) (λ_ _ _ _ _=>(cH (aD (aH hr (aC 0) aE) (aD (aC 0) aG))))))))))) (λas R q=>?_)
 obtain⟨a,b,fs,rfl,l,nd,q⟩:=q;rw[bS];refine⟨rfl,_,aQ (j:=3) rfl,by rw[aq];omega,cX bR (λx=>.seq true [sT x.1,bR x]) (λx hx R q=>⟨_,ar,by simp,q⟩) ⟨fs.map λx:nj=>(x.1,bR x),by rw[cv];rfl,by rw[cv];exact nd,by rw[aq];omega,q⟩⟩
noncomputable def zm(D:List Tv->List Pt)(W:(Tv->Prop)->Prop):bf:=λas R=>∃V:Tv->Prop,W V/\∃(n n':Str) (m m':Bool) (A B:List Tv),as=[.va (bR (n,m,D A)),.va (bR (n',m',D B))]/\(∀v∈A,V v)/\(∀v∈B,V v)/\R (bR (n,m&&m',D (A++B)))
theorem Ew(h:ai K mg "field_joined" uY)(B:Own mg)(PM:ae P w K mg base lv "joined" OH (p6 D W))   : ae P w K mg base (lv+1) "field_joined" OH (zm D W):=by
 refine h.pg2 OH (λnd hr=>
   (aJ (aO (cH (aD (aH hr (aC 0) aE) (aD (fL (aH hr (aC 0) aE) (gC (aH hr (aC 1) aE))) (aD (aL PM hr (aD (aH hr (aC 0) aE) (aD (aH hr (aC 1) aE) aG))) aG))))))) (λas R q=>?_)
 obtain⟨V,hv,n,n',m,m',A,B,rfl,hA,hB,q⟩:=q;refine⟨rfl,_,ar,_,aQ (j:=1) rfl,?_⟩;have q:R (.seq true [sT n,bT (m&&m'),bJ (D (A++B))]):=q;cases m with
 |true=>
  rw[du]at q;exact⟨_,rfl,bW ⟨_,aQ (j:=1) rfl,_,aQ (j:=2) rfl,_,aQ (j:=2) rfl,V,hv,A,B,rfl,hA,hB,by simp,q⟩⟩
 |false=>exact⟨_,rfl,bG ⟨_,aQ (j:=2) rfl,_,aQ (j:=2) rfl,V,hv,A,B,rfl,hA,hB,by simp,q⟩⟩
noncomputable def bY(D:List Tv->List Pt)(ks:List (List (Str×Tv))):List nj:=(bF (aN (aR ks))).map (dA D ks)
theorem nJ(ks:List (List (Str×Tv))):(bY D ks).map (·.1)=bF (aN (aR ks)):=by
 unfold bY;rw[cv];exact List.map_id _
theorem nO(ks:List (List (Str×Tv))):(bY D ks).length=(aN (aR ks)).length:=by
 unfold bY;rw[aq,(fU _).length_eq]
theorem BO{ks:List (List (Str×Tv))}(hD:o9 D)(ne:ks≠[])(n:Str):(cF ((bY D ks).map λx:nj=>(x.1,bR x)) n).getD (bR (n,false,[]))=bR (dA D ks n):=by
 by_cases h:n∈aR ks
 ·have e:cF ((bY D ks).map λx:nj=>(x.1,bR x)) n=some (bR (dA D ks n)):=by
   refine sU ?_ (qd_.mpr ⟨dA D ks n,qd_.mpr ⟨n,sort_set_mem.mpr h,rfl⟩,rfl⟩);rw[cv];show((bY D ks).map (·.1)).Nodup;rw[nJ];exact rG (iC _)
  rw[e];rfl
 ·rw[FP hD ne h];have e:cF ((bY D ks).map λx:nj=>(x.1,bR x)) n=none:=by
   cases e:cF ((bY D ks).map λx:nj=>(x.1,bR x)) n with
   |none=>rfl
   |some v=>
    have h1:n∈((bY D ks).map λx:nj=>(x.1,bR x)).map (·.1):=qd_.mpr ⟨(n,v),look_mem e,rfl⟩;rw[cv]at h1;have h1:n∈(bY D ks).map (·.1):=h1;rw[nJ]at h1;exact absurd (sort_set_mem.mp h1) h
  rw[e];rfl
noncomputable def zq(D:List Tv->List Pt)(W:(Tv->Prop)->Prop):bf:=λas R=>∃V:Tv->Prop,W V/\∃(a b a' b':Int) (ks js:List (List (Str×Tv))) (ns:List Str),as=[.va (aU (.record a b (bY D ks))),.va (aU (.record a' b' (bY D js))),.va (.seq false (ns.map sT))]/\o9 D/\f7 V ks/\f7 V js/\ns.length<=20/\R (aU (.record (min a a') (max b b') (ns.map (dA D (ks++js)))))
theorem Ex(h:ai K mg "records_joined" uX)(B:Own mg)(PF:ae P w K mg base 1 "fields_by_name" OM oK)(QR:ae P w K mg base (lv+1) "field_joined" OH (zm D W))   : ae P w K mg base (lv+2) "records_joined" ["one","other","names"] (zq D W):=by
 refine h.pg3 ["one","other","names","first","second","fields","name","lacking"] (λnd hr=>
   (aI (bC 3 nd (aL PF hr (aD (aC 0) aG)))
   (aI (bC 4 nd (aL PF hr (aD (aC 1) aG)))
   (aI (qH 5 nd (cC aG))
   (aI (fJ (m:=8) i4 rfl (bK (aC 2)) (eG 6 (by decide) nd rfl (.inl rfl))
    (aI (bC 7 nd (cH (aD (aC 6) (aD dS (aD (cH aG) aG)))))
    (aJ (lR (mS 5 (aL QR hr (aD (CI (uH hr) (aC 3) (aC 6) (aC 7)) (aD (CI (uH hr) (aC 4) (aC 6) (aC 7)) aG))))))))
   (aJ (aO (cH (aD aT (aD (bI (lY rfl) rfl B.min boot_min (aD (aH hr (aC 0) aE) (aD (aH hr (aC 1) aE) aG))) (aD (bI (jT rfl) rfl B.max boot_max (aD (aH hr (aC 0) aE) (aD (aH hr (aC 1) aE) aG))) (aD (lI lO rfl B.tuple_ boot_tuple (aD (aC 5) aG)) aG)))))))))))) (λas R q=>?_)
 obtain⟨V,hv,a,b,a',b',ks,js,ns,rfl,hD,hk,hj,ln,q⟩:=q;have nd:∀ks:List (List (Str×Tv)),((bY D ks).map (·.1)).Nodup:=λks=>by rw[nJ];exact rG (iC _)
 refine⟨rfl,a,b,bY D ks,rfl,by rw[nO];exact hk.le,nd ks,a',b',bY D js,rfl,by rw[nO];exact hj.le,nd js,?_⟩;rw[bS]at q ⊢;rw[bS] 
 let T1:Tv:=.seq true [sT "record",iT a,iT b,.seq true ((bY D ks).map bR)]
 let T2:Tv:=.seq true [sT "record",iT a',iT b',.seq true ((bY D js).map bR)]
 show az.nx _ _;refine e7 (ρ':=[.va T1,.va T2,.va (.seq false (ns.map sT)),.va (p9 (bY D ks)),.va (p9 (bY D js)),.no,.no,.no]) rfl ?_;refine⟨by simp,?_⟩;show az.nx _ _;refine e7 (ρ':=[.va T1,.va T2,.va (.seq false (ns.map sT)),.va (p9 (bY D ks)),.va (p9 (bY D js)),.own [],.no,.no]) rfl ?_;refine lU sT (l:=ns) (λi ρ=>∃s6 s7:Sl,ρ=[.va T1,.va T2,.va (.seq false (ns.map sT)),.va (p9 (bY D ks)),.va (p9 (bY D js)),.own (((ns.take i).map (dA D (ks++js))).map bR),s6,s7]) ⟨.no,.no,rfl⟩ ?_ ?_
 ·rintro i n _ N hn ⟨s6,s7,rfl⟩ hN;refine⟨by simp,by simp,?_⟩;show az.nx _ _;refine e7 (ρ':=[.va T1,.va T2,.va (.seq false (ns.map sT)),.va (p9 (bY D ks)),.va (p9 (bY D js)),.own (((ns.take i).map (dA D (ks++js))).map bR),.va (sT n),.va (bR (n,false,[]))]) rfl ?_;refine⟨⟨_,rfl⟩,_,rfl,_,rfl,_,rfl,_,rfl,V,hv,n,n,(dA D ks n).2.1,(dA D js n).2.1,ij n ks,ij n js,?_,hk.at_v,hj.at_v,_,rfl,?_,?_⟩
  ·show [Ar.va ((cF ((bY D ks).map λx:nj=>(x.1,bR x)) n).getD (bR (n,false,[]))),.va ((cF ((bY D js).map λx:nj=>(x.1,bR x)) n).getD (bR (n,false,[])))]=_;rw[BO hD hk.ne,BO hD hj.ne];rfl
  ·rw[aq,aq,g8];omega
  ·refine hN _ ⟨.va (sT n),.va (bR (n,false,[])),?_⟩;rw[j6,hn,dw,dw,<-Kv];rfl
 ·rintro _ ⟨s6,s7,rfl⟩;rw[mf];exact⟨_,aQ (j:=1) rfl,_,aQ (j:=1) rfl,.inl ⟨_,_,rfl,_,aQ (j:=2) rfl,_,aQ (j:=2) rfl,.inl ⟨_,_,rfl,_,_,rfl,by simp,q⟩⟩⟩
theorem jW{ks:List (List (Str×Tv))}(h:(aN (aR ks)).length<=8):dh D ks=.record (bM (bO ks)) (bV (bO ks)) (bY D ks):=by unfold dh bY;rw[if_pos h]
theorem jV{ks:List (List (Str×Tv))}(h:¬ (aN (aR ks)).length<=8):dh D ks=.table (bM (bO ks)) (bV (bO ks)) (bP (aR ks)) (D (dG ks)):=by unfold dh;rw[if_neg h]
noncomputable def ix(ks:List (List (Str×Tv))):List Tv:=if aR ks=[] then [] else [bQ (bP (aR ks))]
noncomputable def qR:bf:=λas R=>∃(D:List Tv->List Pt) (V:Tv->Prop) (ks:List (List (Str×Tv))),as=[.va (aU (dh D ks))]/\f7 V ks/\R (.seq false (ix ks))
theorem Ey(h:ai K mg "name_words" vt)(B:Own mg)(PC:ae P w K mg base 4 "words_of" ON lJ)   : ae P w K mg base 5 "name_words" OI qR:=by
 refine h.pg1 ["part","names"] (λnd hr=>
   (aI (aY (bD hr (aH hr (aC 0) aE) aT)
    (aJ (aO (bB (cC (aD (aH hr (aC 0) aE) aG)))))
    aX)
   (aI (iP (sc:=aV vt) (XN:=["part","names"]) (N:=["field"]) (fr:=[]) 1 nd (bK (aH hr (aC 0) aE)) (λ_ _ _ _ _=>lX) (λ_ _ _ _ _=>(aH hr (aC 0) aE)))
   (aJ (aO (mV (cO He (bI cJ rfl B.len df (aD (aC 1) aG)) aE) (bB (cC (aD (aL PC hr (aD (aC 1) aG)) aG))) (bB (cC aG)))))))) (λas R q=>?_)
 obtain⟨D,V,ks,rfl,hk,q⟩:=q;have sl:(bF (aN (aR ks))).length=(aN (aR ks)).length:=(fU _).length_eq;by_cases h:(aN (aR ks)).length<=8
 ·rw[jW h,bS];have ln:(bY D ks).length<=8:=by rw[nO];exact h
  refine⟨rfl,_,ar,_,rfl,sN (by decide +kernel) ⟨_,aQ (j:=3) rfl,by rw[aq];omega,cX bR (λx=>sT x.1) (λx hx R q=>⟨_,ar,q⟩) ?_⟩⟩;have en:((bY D ks).map λx=>sT x.1)=(bF (aN (aR ks))).map sT:=by
   rw[<-nJ (D:=D),cv];rfl
  rw[en];show az.nx _ _;refine e7 (ρ':=[.va (.seq true [sT "record",iT (bM (bO ks)),iT (bV (bO ks)),.seq true ((bY D ks).map bR)]),.va (.seq false ((bF (aN (aR ks))).map sT))]) rfl ?_;refine⟨_,rfl,dQ (λz=>?_) (λz=>?_)⟩
  ·have z:(((bF (aN (aR ks))).map sT).length:Int) > 0:=z;rw[aq]at z;have ne:aR ks≠[]:=λe=>by rw[sl,e]at z;exact absurd z (by decide)
   unfold ix at q;rw[if_neg ne,<-oR (ts:=bF (aN (aR ks))) (us:=aR ks) λx=>sort_set_mem]at q;refine⟨_,rfl,nC ne,by omega,?_,λt ht=>hk.nms (sort_set_mem.mp ht),by simp,q⟩;exact bu (fN (A:=bF (aN (aR ks))) (C:=aR ks) λx hx=>sort_set_mem.mp hx) hk.le
  ·have z:¬ (((bF (aN (aR ks))).map sT).length:Int) > 0:=z;rw[aq]at z;have e:aR ks=[]:=by
    apply Classical.byContradiction;intro ne;have:=qX1_.mpr (nC ne);omega
   unfold ix at q;rw[if_pos e]at q;exact⟨by simp,q⟩
 ·have ne:aR ks≠[]:=λe=>h (by rw[e];exact d8 _)
  unfold ix at q;rw[if_neg ne]at q;rw[jV h,cQ];exact⟨rfl,_,ar,_,rfl,sY ⟨_,aQ (j:=3) rfl,by simp,q⟩⟩
noncomputable def o7(ks:List (List (Str×Tv))):List (List Tv):=if (aN (aR ks)).length<=8 then(bF (aN (aR ks))).map (λn=>ij n ks) else [dG ks]
theorem sZ{ks:List (List (Str×Tv))}(nd:∀k∈ks,(k.map (·.1)).Nodup)(v:Tv):v∈(o7 ks).flatten↔v∈dG ks:=by
 unfold o7;split
 ·rw[qh1_,vls_mem];constructor
  ·rintro⟨l,hl,hv⟩;obtain⟨n,_,rfl⟩:=qd_.mp hl;obtain⟨k,hk,e⟩:=(pP nd).mp hv;exact⟨k,hk,n,e⟩
  ·rintro⟨k,hk,n,e⟩;refine⟨ij n ks,qd_.mpr ⟨n,sort_set_mem.mpr (qC1_.mpr ⟨k,hk,qd_.mpr ⟨_,e,rfl⟩⟩),rfl⟩,(pP nd).mpr ⟨k,hk,e⟩⟩
 ·rw[g6,List.flatten_nil,i8]
theorem Aw(ks:List (List (Str×Tv))):(o7 ks).length<=8:=by
 unfold o7;split
 ·rename_i h;rw[aq,(fU _).length_eq];exact h
 ·simp
noncomputable def qS:bf:=λas R=>∃(D:List Tv->List Pt) (ks:List (List (Str×Tv))),as=[.va (aU (dh D ks))]/\R (.seq false ((o7 ks).map λA=>bJ (D A)))
theorem Eg(h:ai K mg "forms_within" vg)(B:Own mg)    : ae P w K mg base 1 "forms_within" OI qS:=by
 refine h.pg1 OI (λnd hr=>
   (aI (aY (bD hr (aH hr (aC 0) aE) aT)
    (aJ (aO (bB (cC (aD (aH hr (aC 0) aE) aG)))))
    aX)
   (aI (aY (bD hr (aH hr (aC 0) aE) aT)
    (aJ (aO (bB (dI (sc:=aV vg) (XN:=OI) (N:=["field"]) (fr:=[]) (bK (aH hr (aC 0) aE)) (λ_ _ _ _ _=>(aH hr (aC 0) aE))))))
    aX)
   (aI (aY (bD hr (aH hr (aC 0) aE) aT)
    (aJ (aO (bB (cC (aD (aH hr (aC 0) aE) aG)))))
    aX)
   (aJ (aO (bB (cC aG)))))))) (λas R q=>?_)
 obtain⟨D,ks,rfl,q⟩:=q;unfold o7 at q;by_cases h:(aN (aR ks)).length<=8
 ·rw[if_pos h,cv]at q;rw[jW h,bS];have ln:(bY D ks).length<=8:=by rw[nO];exact h
  refine⟨rfl,_,ar,_,rfl,sN (by decide +kernel) ⟨_,ar,_,rfl,sY ⟨_,aQ (j:=3) rfl,by rw[aq];omega,cX bR (λx=>bJ x.2.2) (λx hx R q=>⟨_,aQ (j:=2) rfl,q⟩) ?_⟩⟩⟩;unfold bY;rw[cv];exact q
 ·rw[if_neg h]at q;rw[jV h,cQ];exact⟨rfl,_,ar,_,rfl,sN (by decide +kernel) ⟨_,ar,_,rfl,sN (by decide +kernel) ⟨_,ar,_,rfl,sY ⟨_,aQ (j:=4) rfl,by simp,q⟩⟩⟩⟩
noncomputable def u7(D:List Tv->List Pt)(W:(Tv->Prop)->Prop):bf:=λas R=>∃V:Tv->Prop,W V/\∃As:List (List Tv),as=[.va (.seq false (As.map λA=>bJ (D A)))]/\o9 D/\(∀A∈As,∀v∈A,V v)/\R (bJ (D As.flatten))
theorem u5(h:ai K mg "all_joined" qK)(B:Own mg)(PM:ae P w K mg base lv "joined" OH (p6 D W))   : ae P w K mg base (lv+1) "all_joined" ["forms"] (u7 D W):=by
 refine h.pg1 ["forms","whole","form"] (λnd hr=>
   (aI (bC 1 nd (cH aG))
   (aI (fJ (m:=3) i4 rfl (bK (aC 0)) (eG 2 (by decide) nd rfl (.inl rfl))
    (aJ (bC 1 nd (aL PM hr (aD (aC 1) (aD (aC 2) aG))))))
   (aJ (aO (aC 1)))))) (λas R q=>?_)
 obtain⟨V,hv,As,rfl,hD,hV,q⟩:=q;refine⟨rfl,by simp,?_⟩;refine lU (λA=>bJ (D A)) (l:=As) (λi ρ=>∃s2:Sl,ρ=[.va (.seq false (As.map λA=>bJ (D A))),.va (bJ (D (As.take i).flatten)),s2]) ⟨.no,by rw[qw,List.flatten_nil,hD.nil];rfl⟩ ?_ ?_
 ·rintro i A _ N hA ⟨s2,rfl⟩ hN;refine⟨V,hv,(As.take i).flatten,A,rfl,λv hv=>?_,hV A (i7 hA),hN _ ⟨.va (bJ (D A)),?_⟩⟩
  ·obtain⟨l,hl,hv⟩:=qh1_.mp hv;exact hV l ((List.take_sublist _ _).subset hl) v hv
  ·rw[j6,hA,qm];show [_,_,_]=[_,Sl.va (bJ (D ((As.take i).flatten++(A++[])))),_];rw[i8]
 ·rintro _ ⟨s2,rfl⟩;rw[mf];exact q
noncomputable def u_(D:List Tv->List Pt)(W:(Tv->Prop)->Prop):bf:=λas R=>∃V:Tv->Prop,W V/\∃ks js:List (List (Str×Tv)),as=[.va (aU (dh D ks)),.va (aU (dh D js))]/\o9 D/\f7 V ks/\f7 V js/\qV (aR ks++aR js)/\R (aU (.table (min (bM (bO ks)) (bM (bO js))) (max (bV (bO ks)) (bV (bO js))) (bP (aR ks++aR js)) (D (dG ks++dG js))))
theorem Ao(ks:List (List (Str×Tv))):∃(w:Str) (r:List Tv),aU (dh D ks)=.seq true (sT w::iT (bM (bO ks))::iT (bV (bO ks))::r):=by
 by_cases h:(aN (aR ks)).length<=8
 ·rw[jW h,bS];exact⟨_,_,rfl⟩
 ·rw[jV h,cQ];exact⟨_,_,rfl⟩
theorem AJ(ks:List (List (Str×Tv))):(ix ks).length<=1:=by
 unfold ix;split<;>simp
theorem Ez(h:ai K mg "tables_joined" uW)(B:Own mg)(PL:ae P w K mg base 5 "name_words" OI qR)(PH:ae P w K mg base 5 "words_joined" OH mW)(Qt:ae P w K mg base (lv+1) "all_joined" ["forms"] (u7 D W))(PK:ae P w K mg base 1 "forms_within" OI qS)   : ae P w K mg base (lv+6) "tables_joined" OH (u_ D W):=by
 refine h.pg2 ["one","other","words","make","form"] (λnd hr=>
   (aI (bC 2 nd (bE cD (aL PL hr (aD (aC 0) aG)) (aL PL hr (aD (aC 1) aG))))
   (aI (bC 3 nd (mV (bD hr (bI cJ rfl B.len df (aD (aC 2) aG)) aE) (aH hr (aC 2) aE) (aL PH hr (aD (aH hr (aC 2) aE) (aD (aH hr (aC 2) aE) aG)))))
   (aI (bC 4 nd (aL Qt hr (aD (bE cD (aL PK hr (aD (aC 0) aG)) (aL PK hr (aD (aC 1) aG))) aG)))
   (aJ (aO (cH (aD aT (aD (bI (lY rfl) rfl B.min boot_min (aD (aH hr (aC 0) aE) (aD (aH hr (aC 1) aE) aG))) (aD (bI (jT rfl) rfl B.max boot_max (aD (aH hr (aC 0) aE) (aD (aH hr (aC 1) aE) aG))) (aD (aC 3) (aD (aC 4) aG)))))))))))) (λas R q=>?_)
 obtain⟨V,hv,ks,js,rfl,hD,hk,hj,ok,q⟩:=q;have l1:=AJ ks;have l2:=AJ js;refine⟨rfl,D,V,ks,rfl,hk,D,V,js,rfl,hj,by omega,?_⟩;show az.nx _ _;refine e7 (ρ':=[.va (aU (dh D ks)),.va (aU (dh D js)),.va (.seq false (ix ks++ix js)),.no,.no]) rfl ?_;dsimp only;refine MX (J:=λρ'=>ρ'=[.va (aU (dh D ks)),.va (aU (dh D js)),.va (.seq false (ix ks++ix js)),.va (bQ (bP (aR ks++aR js))),.no]) ?rest (λrest=>?main)
 case main=>
  by_cases n1:aR ks=[]
  ·have e1:ix ks=[]:=by unfold ix;rw[if_pos n1]
   have n2:aR js≠[]:=λz=>ok.ne (by rw[n1,z];rfl)
   have e2:ix js=[bQ (bP (aR js))]:=by unfold ix;rw[if_neg n2]
   rw[e1,e2,n1,gi,gi]at rest;rw[e1,e2,gi];exact⟨_,rfl,fT (λ_=>⟨_,ar,rest _ rfl⟩) (λz=>absurd rfl z)⟩
  ·have e1:ix ks=[bQ (bP (aR ks))]:=by unfold ix;rw[if_neg n1]
   by_cases n2:aR js=[]
   ·have e2:ix js=[]:=by unfold ix;rw[if_pos n2]
    rw[e1,e2,n2,i8,i8]at rest;rw[e1,e2,i8];exact⟨_,rfl,fT (λ_=>⟨_,ar,rest _ rfl⟩) (λz=>absurd rfl z)⟩
   ·have e2:ix js=[bQ (bP (aR js))]:=by unfold ix;rw[if_neg n2]
    rw[e1,e2,j5,gi]at rest;rw[e1,e2,j5,gi];exact⟨_,rfl,fT (λz=>absurd z (show ¬ ((2:Nat):Int)=1 by decide)) (λ_=>⟨_,ar,_,aQ (j:=1) rfl,aR ks,aR js,rfl,n1,n2,ok,rest _ rfl⟩)⟩
 case rest=>
  rintro _ rfl;have f1:=Aw ks;have f2:=Aw js;refine⟨D,ks,rfl,D,js,rfl,by rw[aq,aq];omega,V,hv,o7 ks++o7 js,by rw[dw],hD,λA hA v hv=>?_,?_⟩
  ·rcases qr_.mp hA with z|z
   ·exact hk.vls_v v ((sZ hk.nd v).mp (qh1_.mpr ⟨A,z,hv⟩))
   ·exact hj.vls_v v ((sZ hj.nd v).mp (qh1_.mpr ⟨A,z,hv⟩))
  have eD:D (o7 ks++o7 js).flatten=D (dG ks++dG js):=hD.same _ _ λv=>by
   rw[qm,qr_,qr_,sZ hk.nd,sZ hj.nd]
  rw[eD];obtain⟨w1,r1,E1⟩:=Ao (D:=D) ks;obtain⟨w2,r2,E2⟩:=Ao (D:=D) js;show az.nx _ _;refine e7 (ρ':=[.va (.seq true (sT w1::iT (bM (bO ks))::iT (bV (bO ks))::r1)),.va (.seq true (sT w2::iT (bM (bO js))::iT (bV (bO js))::r2)),.va (.seq false (ix ks++ix js)),.va (bQ (bP (aR ks++aR js))),.va (bJ (D (dG ks++dG js)))]) (by rw[E1,E2];rfl) ?_;rw[cQ]at q;exact⟨_,aQ (j:=1) rfl,_,aQ (j:=1) rfl,.inl ⟨_,_,rfl,_,aQ (j:=2) rfl,_,aQ (j:=2) rfl,.inl ⟨_,_,rfl,by simp,q⟩⟩⟩
variable{D:List Tv->List Pt}{V:Tv->Prop}{W W':(Tv->Prop)->Prop}{lv:Nat}
noncomputable def u9(D:List Tv->List Pt)(W:(Tv->Prop)->Prop):bf:=λas R=>∃V:Tv->Prop,W V/\∃ks js:List (List (Str×Tv)),as=[.va (aU (dh D ks)),.va (aU (dh D js))]/\o9 D/\f7 V ks/\f7 V js/\(aN (aR (ks++js))).length<=20/\R (aU (dh D (ks++js)))
theorem FY(h:ai K mg "dicts_joined" uV)(B:Own mg)(PF:ae P w K mg base 1 "fields_by_name" OM oK)(QS:ae P w K mg base (lv+2) "records_joined" ["one","other","names"] (zq D W))(QT:ae P w K mg base (lv+6) "tables_joined" OH (u_ D W))(GMOST_FIELDS:eQ K mg "MOST_FIELDS" (iT 8))  : ae P w K mg base (lv+7) "dicts_joined" OH (u9 D W):=by
 refine h.pg2 ["one","other","names"] (λnd hr=>
   (aI (aY (dX (jS (bD hr (aH hr (aC 0) aE) aT) (kK (bD hr (aH hr (aC 1) aE) aT))))
    (aI (bC 2 nd (bB (Cu rfl rfl B.sorted rfl B.set_ (aL PF hr (aD (aC 0) aG)) (aL PF hr (aD (aC 1) aG)))))
    (aJ (aY (cO eY (bI cJ rfl B.len df (aD (aC 2) aG)) (mD GMOST_FIELDS rfl))
     (aJ (aO (aL QS hr (aD (aC 0) (aD (aC 1) (aD (aC 2) aG))))))
     aX)))
    aX)
   (aJ (aO (aL QT hr (aD (aC 0) (aD (aC 1) aG))))))) (λas R q=>?_)
 obtain⟨V,hv,ks,js,rfl,hD,hk,hj,le,q⟩:=q;have oT:∀t∈aR (ks++js),eJ t:=λt ht=>by
  rw[jB]at ht;rcases qr_.mp ht with z|z
  ·exact hk.nms z
  ·exact hj.nms z
 have la:=L5 hk.ne hj.ne;have tab:¬ (aN (aR (ks++js))).length<=8->∀T1 T2:Tv,T1=aU (dh D ks)->T2=aU (dh D js)->∀s2:Sl,qI (mF (u_ D W) (iQ (fK 0) (iQ (fK 1) hJ))) {nx:=λx=>R nT,rt:=R} [.va T1,.va T2,s2]:=by
  rintro h T1 T2 rfl rfl s2;rw[jV h,la.1,la.2,jB,show dG (ks++js)=dG ks++dG js from List.flatMap_append ..]at q;refine⟨V,hv,ks,js,rfl,hD,hk,hj,⟨λe=>h ?_,by rw[<-jB];exact le,by rw[<-jB];exact oT⟩,q⟩;rw[jB,e];exact d8 _
 have nd:∀ks:List (List (Str×Tv)),((bY D ks).map (·.1)).Nodup:=λks=>by rw[nJ];exact rG (iC _)
 have sl:∀l:List Str,(bF (aN l)).length=(aN l).length:=λl=>(fU _).length_eq
 by_cases h1:(aN (aR ks)).length<=8
 ·have e1:=jW (D:=D) h1;have E1:=bS (bM (bO ks)) (bV (bO ks)) (bY D ks);by_cases h2:(aN (aR js)).length<=8
  ·have e2:=jW (D:=D) h2;have E2:=bS (bM (bO js)) (bV (bO js)) (bY D js);have tab:=λh=>tab h _ _ (by rw[e1,E1]) (by rw[e2,E2])
   have sN8:∀ks:List (List (Str×Tv)),bF (aN (aR ks))=((bY D ks).map λx:nj=>(x.1,bR x)).map (·.1):=λks=>by
    rw[cv];exact(nJ (D:=D) ks).symm
   have eN:bF (aN (bF (aN (aR ks))++bF (aN (aR js))))=bF (aN (aR (ks++js))):=(mT λx=>by rw[jB,qr_,qr_,sort_set_mem,sort_set_mem]).2;have l1:=sl (aR ks);have l2:=sl (aR js);have l3:=sl (aR (ks++js));rw[e1,e2,E1,E2];refine⟨rfl,_,ar,_,rfl,sY ⟨_,ar,_,rfl,sY ⟨_,_,bY D ks,by rw[E1],by rw[nO];exact hk.le,nd ks,bF (aN (aR ks)),.inr ⟨_,rfl,sN8 ks⟩,by omega,_,_,bY D js,by rw[E2],by rw[nO];exact hj.le,nd js,bF (aN (aR js)),.inr ⟨_,rfl,sN8 js⟩,by omega,?_⟩⟩⟩;rw[eN];show az.nx _ _;refine e7 (ρ':=[.va (.seq true [sT "record",iT (bM (bO ks)),iT (bV (bO ks)),.seq true ((bY D ks).map bR)]),.va (.seq true [sT "record",iT (bM (bO js)),iT (bV (bO js)),.seq true ((bY D js).map bR)]),.va (.seq false ((bF (aN (aR (ks++js)))).map sT))]) rfl ?_;refine⟨_,rfl,dQ (λz=>?_) (λz=>?_)⟩
   ·have z:(((bF (aN (aR (ks++js)))).map sT).length:Int)<=8:=z;rw[aq]at z;rw[jW (by omega),la.1,la.2]at q;exact⟨V,hv,_,_,_,_,ks,js,bF (aN (aR (ks++js))),by rw[E1,E2],hD,hk,hj,by omega,q⟩
   ·have z:¬ (((bF (aN (aR (ks++js)))).map sT).length:Int)<=8:=z;rw[aq]at z;exact tab (by omega) (.va (.seq false ((bF (aN (aR (ks++js)))).map sT)))
  ·have e2:=jV (D:=D) h2;have E2:=cQ (bM (bO js)) (bV (bO js)) (bP (aR js)) (D (dG js));have big:¬ (aN (aR (ks++js))).length<=8:=λz=>h2 (bu (fN (A:=aR js) λx hx=>by rw[jB];exact de _ hx) z)
   have tab:=tab big _ _ (by rw[e1,E1]) (by rw[e2,E2]);rw[e1,e2,E1,E2];exact⟨rfl,_,ar,_,rfl,sY ⟨_,ar,_,rfl,sN (by decide +kernel) (tab .no)⟩⟩
 ·have e1:=jV (D:=D) h1;have E1:=cQ (bM (bO ks)) (bV (bO ks)) (bP (aR ks)) (D (dG ks));have big:¬ (aN (aR (ks++js))).length<=8:=λz=>h1 (bu (fN (A:=aR ks) λx hx=>by rw[jB];exact fe _ hx) z)
  have tab:=λT2 e=>tab big _ T2 (by rw[e1,E1]) e
  rw[e1,E1];exact⟨rfl,_,ar,_,rfl,sN (by decide +kernel) (bG (tab _ rfl .no))⟩
noncomputable def zo(D:List Tv->List Pt)(W:(Tv->Prop)->Prop):bf:=λas R=>∃V:Tv->Prop,W V/\∃(a b a' b':Int) (A B:List Tv),as=[.va (aU (.lists a b (D A))),.va (aU (.lists a' b' (D B)))]/\(∀v∈A,V v)/\(∀v∈B,V v)/\R (aU (.lists (min a a') (max b b') (D (A++B))))
theorem FZ(h:ai K mg "lists_joined" uU)(B:Own mg)(PM:ae P w K mg base lv "joined" OH (p6 D W))   : ae P w K mg base (lv+7) "lists_joined" OH (zo D W):=by
 refine h.pg2 OH (λnd hr=>
   (aJ (aO (cH (aD aT (aD (bI (lY rfl) rfl B.min boot_min (aD (aH hr (aC 0) aE) (aD (aH hr (aC 1) aE) aG))) (aD (bI (jT rfl) rfl B.max boot_max (aD (aH hr (aC 0) aE) (aD (aH hr (aC 1) aE) aG))) (aD (aL PM hr (aD (aH hr (aC 0) aE) (aD (aH hr (aC 1) aE) aG))) aG)))))))) (λas R q=>?_)
 obtain⟨V,hv,a,b,a',b',A,B,rfl,hA,hB,q⟩:=q;rw[fV]at q ⊢;rw[fV];exact⟨rfl,_,aQ (j:=1) rfl,_,aQ (j:=1) rfl,.inl ⟨_,_,rfl,_,aQ (j:=2) rfl,_,aQ (j:=2) rfl,.inl ⟨_,_,rfl,_,aQ (j:=3) rfl,_,aQ (j:=3) rfl,V,hv,A,B,rfl,hA,hB,by simp,q⟩⟩⟩
structure ik (V:Tv->Prop) (vs:List Tv):Prop where
 tx:∀t∈vs.filterMap gb,eJ t
 tl:(aN (vs.filterMap gb)).length<=20
 ls:∀l∈vs.filterMap ck,∀v∈l,V v
 nd:∀k∈vs.filterMap d3,(k.map (·.1)).Nodup
 ok:∀k∈vs.filterMap d3,∀kt∈k,eJ kt.1/\V kt.2
 le:(aN (aR (vs.filterMap d3))).length<=20
theorem ik.left{A B:List Tv}(h:ik V (A++B)):ik V A where
 tx:=λt ht=>h.tx t (by rw[jw];exact fe _ ht)
 tl:=bu (fN λx hx=>by rw[jw];exact fe _ hx) h.tl
 ls:=λt ht=>h.ls t (by rw[jw];exact fe _ ht)
 nd:=λt ht=>h.nd t (by rw[jw];exact fe _ ht)
 ok:=λt ht=>h.ok t (by rw[jw];exact fe _ ht)
 le:=bu (fN λx hx=>by rw[jw,jB];exact fe _ hx) h.le
theorem ik.right{A B:List Tv}(h:ik V (A++B)):ik V B where
 tx:=λt ht=>h.tx t (by rw[jw];exact de _ ht)
 tl:=bu (fN λx hx=>by rw[jw];exact de _ hx) h.tl
 ls:=λt ht=>h.ls t (by rw[jw];exact de _ ht)
 nd:=λt ht=>h.nd t (by rw[jw];exact de _ ht)
 ok:=λt ht=>h.ok t (by rw[jw];exact de _ ht)
 le:=bu (fN λx hx=>by rw[jw,jB];exact de _ hx) h.le
noncomputable def vH(D:List Tv->List Pt)(W W':(Tv->Prop)->Prop):bf:=λas R=>∃V:Tv->Prop,W V/\∃V':Tv->Prop,W' V'/\∃(A B:List Tv) (k:Nat) (p q r:Pt),as=[.va (aU p),.va (aU q)]/\o9 D/\ik V (A++B)/\(∀v∈A++B,V' v)/\bX D A k=some p/\bX D B k=some q/\bX D (A++B) k=some r/\R (aU r)
theorem iL{c:Prop}[Decidable c]{x p:Pt}(h:(if c then none else some x)=some p):¬ c/\x=p:=by
 by_cases z:c
 ·rw[if_pos z]at h;cases h
 ·rw[if_neg z]at h;exact⟨z,by injection h⟩
theorem JA(bs cs:List Bool):cq (cp (bs++cs)) (cn (bs++cs))=cq (cp (cq (cp bs) (cn bs)) || cp (cq (cp cs) (cn cs))) (cn (cq (cp bs) (cn bs)) || cn (cq (cp cs) (cn cs))):=by
 have e:∀f t:Bool,cp (cq f t)=f/\cn (cq f t)=t:=λf t=>by cases f<;>cases t<;>exact⟨rfl,rfl⟩
 rw[(e _ _).1,(e _ _).2,(e _ _).1,(e _ _).2];unfold cp cn;rw[l_,l_]
theorem EC:dN OH OH (aV qM):=ke (by decide +kernel)
theorem F3(h:ai K mg "parts_joined" qM)(B:Own mg)(Qj:ae P w K mg base 3 "run_joined" OH pX)(PH:ae P w K mg base 5 "words_joined" OH mW)(QV:ae P w K mg base (lv+7) "lists_joined" OH (zo D W))(QU:ae P w K mg base (lv+7) "dicts_joined" OH (u9 D W))   : ae P w K mg base (lv+8) "parts_joined" OH (vH D W W'):=by
 refine h.pg2 OH (λnd hr=>
   (aI (aY (bD hr (aH hr (aC 0) aE) aT)
    (aJ (aO (aC 0)))
    aX)
   (aI (aY (bD hr (aH hr (aC 0) aE) aT)
    (aJ (aO (cH (aD aT (aD (lI lO rfl B.tuple_ boot_tuple (aD (bB (Ny rfl rfl B.sorted rfl B.set_ (aH hr (aC 0) aE) (aH hr (aC 1) aE))) aG)) aG)))))
    aX)
   (aI (aY (bD hr (aH hr (aC 0) aE) aT)
    (aJ (aO (bE cD (cH (aD aT aG)) (aL Qj hr (aD (fW gD (aC 0) (fX aE) fY) (aD (fW gD (aC 1) (fX aE) fY) aG))))))
    aX)
   (aI (aY (bD hr (aH hr (aC 0) aE) aT)
    (aJ (aO (cH (aD aT (aD (aL PH hr (aD (aH hr (aC 0) aE) (aD (aH hr (aC 1) aE) aG))) aG)))))
    aX)
   (aI (aY (bD hr (aH hr (aC 0) aE) aT)
    (aJ (aO (aL QV hr (aD (aC 0) (aD (aC 1) aG)))))
    aX)
   (aJ (aO (aL QU hr (aD (aC 0) (aD (aC 1) aG))))))))))) (λas R q=>?_)
 obtain⟨V,hv,V',hv',A,B,k,p,p',r,rfl,hD,hV,hV',h1,h2,h3,q⟩:=q;have fa:∀{α:Type} (f:Tv->Option α),(A++B).filterMap f=A.filterMap f++B.filterMap f:=λf=>jw ..
 unfold bX at h1;split at h1
 ·have hA:eF A=true:=by
   apply Classical.byContradiction;intro z;rw[if_neg z]at h1;cases h1
  rw[if_pos hA]at h1;cases h1;have h3:(if eF (A++B)=true then some Pt.nothing else none)=some r:=h3;rw[if_pos (by unfold eF at hA ⊢;rw[l_,hA];rfl)]at h3;cases h3;rw[oQ]at q ⊢;exact⟨rfl,_,ar,_,rfl,sY q⟩
 ·have h3:(if (A++B).filterMap gf=[] then none else some (Pt.truths (cq (cp ((A++B).filterMap gf)) (cn ((A++B).filterMap gf)))))=some r:=h3;obtain⟨nA,rfl⟩:=iL h1;obtain⟨nB,rfl⟩:=iL (c:=B.filterMap gf=[]) h2;rw[fa gf,if_neg (λe=>nA (qh2_.mp e).1),JA]at h3;cases h3;rw[jI]at q ⊢;rw[jI];exact⟨rfl,_,ar,_,rfl,sN (by decide +kernel) ⟨_,ar,_,rfl,sY ⟨_,aQ (j:=1) rfl,_,rfl,_,aQ (j:=1) rfl,_,rfl,_,_,rfl,by simp,q⟩⟩⟩
 ·have h3:(if (A++B).filterMap gc=[] then none else some (Pt.numbers (cK ((A++B).filterMap gc)).1 (cK ((A++B).filterMap gc)).2.1 (cK ((A++B).filterMap gc)).2.2))=some r:=h3;obtain⟨nA,rfl⟩:=iL h1;obtain⟨nB,rfl⟩:=iL (c:=B.filterMap gc=[]) h2;rw[fa gc,if_neg (λe=>nA (qh2_.mp e).1),<-MV nA nB]at h3;cases h3;rw[iG]at q ⊢;rw[iG];exact⟨rfl,_,ar,_,rfl,sN (by decide +kernel) ⟨_,ar,_,rfl,sN (by decide +kernel) ⟨_,ar,_,rfl,sY ⟨by simp,_,rfl,_,rfl,_,_,rfl,(jN nA).ok,(jN nB).ok,by simp,q⟩⟩⟩⟩
 ·have h3:(if (A++B).filterMap gb=[] then none else some (Pt.texts (bP ((A++B).filterMap gb))))=some r:=h3;obtain⟨nA,rfl⟩:=iL h1;obtain⟨nB,rfl⟩:=iL (c:=B.filterMap gb=[]) h2;have ne:A.filterMap gb++B.filterMap gb≠[]:=λe=>nA (qh2_.mp e).1
  rw[fa gb,if_neg ne]at h3;cases h3;have tx:=hV.tx;have tl:=hV.tl;rw[fa gb]at tx tl;rw[jJ]at q ⊢;rw[jJ];exact⟨rfl,_,ar,_,rfl,sN (by decide +kernel) ⟨_,ar,_,rfl,sN (by decide +kernel) ⟨_,ar,_,rfl,sN (by decide +kernel) ⟨_,ar,_,rfl,sY ⟨_,aQ (j:=1) rfl,_,aQ (j:=1) rfl,_,_,rfl,nA,nB,⟨ne,tl,tx⟩,by simp,q⟩⟩⟩⟩⟩
 ·have h3:(if (A++B).filterMap ck=[] then none else some (Pt.lists (bM (dF ((A++B).filterMap ck))) (bV (dF ((A++B).filterMap ck))) (D ((A++B).filterMap ck).flatten)))=some r:=h3;obtain⟨nA,rfl⟩:=iL h1;obtain⟨nB,rfl⟩:=iL (c:=B.filterMap ck=[]) h2;have hl:=hV.ls;rw[fa ck]at hl;have l1:dF (A.filterMap ck)≠[]:=by unfold dF;simpa using nA
  have l2:dF (B.filterMap ck)≠[]:=by unfold dF;simpa using nB
  rw[fa ck,if_neg (λe=>nA (qh2_.mp e).1),show dF (A.filterMap ck++B.filterMap ck)=dF (A.filterMap ck)++dF (B.filterMap ck) from dw ..,Bt l1 l2,Br l1 l2,qm]at h3;cases h3;have ea:∀(a b a' b':Int) (f g:List Pt),[Ar.va (.seq true [sT "lists",iT a,iT b,bJ f]),.va (.seq true [sT "lists",iT a',iT b',bJ g])]=[.va (aU (.lists a b f)),.va (aU (.lists a' b' g))]:=λa b a' b' f g=>by rw[fV,fV]
  rw[fV (bM (dF (A.filterMap ck))),fV (bM (dF (B.filterMap ck)))];refine⟨rfl,_,ar,_,rfl,sN (by decide +kernel) ⟨_,ar,_,rfl,sN (by decide +kernel) ⟨_,ar,_,rfl,sN (by decide +kernel) ⟨_,ar,_,rfl,sN (by decide +kernel) ⟨_,ar,_,rfl,sY ⟨V,hv,_,_,_,_,_,_,ea _ _ _ _ _ _,λv hv=>?_,λv hv=>?_,q⟩⟩⟩⟩⟩⟩
  ·obtain⟨l,hl',hv⟩:=qh1_.mp hv;exact hl l (fe _ hl') v hv
  ·obtain⟨l,hl',hv⟩:=qh1_.mp hv;exact hl l (de _ hl') v hv
 ·have h3:(if (A++B).filterMap d3=[] then none else some (dh D ((A++B).filterMap d3)))=some r:=h3;obtain⟨nA,rfl⟩:=iL h1;obtain⟨nB,rfl⟩:=iL (c:=B.filterMap d3=[]) h2;rw[fa d3,if_neg (λe=>nA (qh2_.mp e).1)]at h3;cases h3;have vl:=hV.left;have vr:=hV.right;have le:=hV.le;rw[fa d3]at le;have fin:∀T1:Tv,T1=aU (dh D (A.filterMap d3))->qI (mF (u9 D W) (iQ (fK 0) (iQ (fK 1) hJ))) {nx:=λx=>R nT,rt:=R} [.va T1,.va (aU (dh D (B.filterMap d3)))]:=by
   rintro T1 rfl;exact⟨V,hv,_,_,rfl,hD,⟨nA,vl.nd,vl.ok,vl.le⟩,⟨nB,vr.nd,vr.ok,vr.le⟩,le,q⟩
  by_cases h:(aN (aR (A.filterMap d3))).length<=8
  ·have fin:=fin _ (by rw[jW h,bS]);rw[jW h,bS (bM (bO (A.filterMap d3)))];exact⟨rfl,_,ar,_,rfl,sN (by decide +kernel) ⟨_,ar,_,rfl,sN (by decide +kernel) ⟨_,ar,_,rfl,sN (by decide +kernel) ⟨_,ar,_,rfl,sN (by decide +kernel) ⟨_,ar,_,rfl,sN (by decide +kernel) fin⟩⟩⟩⟩⟩
  ·have fin:=fin _ (by rw[jV h,cQ]);rw[jV h,cQ (bM (bO (A.filterMap d3)))];exact⟨rfl,_,ar,_,rfl,sN (by decide +kernel) ⟨_,ar,_,rfl,sN (by decide +kernel) ⟨_,ar,_,rfl,sN (by decide +kernel) ⟨_,ar,_,rfl,sN (by decide +kernel) ⟨_,ar,_,rfl,sN (by decide +kernel) fin⟩⟩⟩⟩⟩
 ·cases h1
variable{D:List Tv->List Pt}{W W':(Tv->Prop)->Prop}{lv:Nat}
theorem Bh{A B:List Tv}{k:Nat}(h:bX D B k=none):bX D (A++B) k=bX D A k:=by
 have no:∀{c:Prop} [Decidable c] {x:Pt},(if c then none else some x)=none->c:=λ{c} _ {x} h=>by
  by_cases z:c
  ·exact z
  ·rw[if_neg z]at h;cases h
 unfold bX at h ⊢;split at h
 ·have hB:eF B=false:=by
   cases e:eF B with
   |false=>rfl
   |true=>rw[e,if_pos rfl]at h;cases h
  have:eF (A++B)=eF A:=by
   show(A++B).any _=A.any _;rw[l_,show(B.any λv=>qG v==0)=false from hB,ku]
  rw[this]
 all_goals first|(have z:=no h;rw[jw,z,i8])|rfl
theorem Lx{A B:List Tv}{k:Nat}(h:bX D A k=none):bX D (A++B) k=bX D B k:=by
 have no:∀{c:Prop} [Decidable c] {x:Pt},(if c then none else some x)=none->c:=λ{c} _ {x} h=>by
  by_cases z:c
  ·exact z
  ·rw[if_neg z]at h;cases h
 unfold bX at h ⊢;split at h
 ·have hB:eF A=false:=by
   cases e:eF A with
   |false=>rfl
   |true=>rw[e,if_pos rfl]at h;cases h
  have:eF (A++B)=eF B:=by
   show(A++B).any _=B.any _;rw[l_,show(A.any λv=>qG v==0)=false from hB,pj]
  rw[this]
 all_goals first|(have z:=no h;rw[jw,z,gi])|rfl
theorem Ke{A B:List Tv}{k:Nat}{p:Pt}(h:bX D A k=some p):∃r,bX D (A++B) k=some r:=by
 have no:∀{c:Prop} [Decidable c] {x:Pt},(if c then none else some x)=none->c:=λ{c} _ {x} h=>by
  by_cases z:c
  ·exact z
  ·rw[if_neg z]at h;cases h
 cases e:bX D (A++B) k with
 |some r=>exact⟨r,rfl⟩
 |none=>
  unfold bX at h e;split at h
  ·have hA:eF A=true:=by
    cases z:eF A with
    |true=>rfl
    |false=>rw[z,if_neg b9]at h;cases h
   have:eF (A++B)=true:=by
    show(A++B).any _=true;rw[l_,show(A.any λv=>qG v==0)=true from hA];rfl
   rw[this,if_pos rfl]at e;cases e
  all_goals first|(have z:=no e;rw[jw]at z;exact absurd (qh2_.mp z).1 (iL h).1)|cases h
noncomputable def jt(D:List Tv->List Pt)(vs:List Tv):List Pt:=kN6.filterMap (bX D vs)
theorem Av{vs:List Tv}{k:Nat}(h:k∈kN6):mI (jt D vs) k=bX D vs k:=yN (λ_ _=>wR) kN6 k h (by decide)
theorem xl(h:ai K mg "joined" qL)(B:Own mg)(PD:ae P w K mg base 2 "part_for" OO kG)(QW:ae P w K mg base (lv+8) "parts_joined" OH (vH D W W'))(GKINDS:eQ K mg "KINDS" (.seq true (kN6.map λk=>sT (cZ k))))(hD:o9 D)(hW:∀V':Tv->Prop,W' V'->∃V:Tv->Prop,W V/\∀vs:List Tv,(∀v∈vs,V' v)->ik V vs):ae P w K mg base (lv+9) "joined" OH (p6 (jt D) W'):=by
 refine h.pg2 ["one","other","parts","kind","both"] (λnd hr=>
   (aI (qH 2 nd (cC aG))
   (aI (fJ (m:=5) i4 rfl (bK (mD GKINDS rfl)) (eG 3 (by decide) nd rfl (.inl rfl))
    (aI (iP (sc:=aV qL) (XN:=["one","other","parts","kind","both"]) (N:=OI) (fr:=[]) 4 nd (bK (bB (cC (aD (aL PD hr (aD (aC 0) (aD (aC 3) aG))) (aD (aL PD hr (aD (aC 1) (aD (aC 3) aG))) aG))))) (λ_ _ _ _ _=>(eK (cO LO (aC 0) gW))) (λ_ _ _ _ _=>(aC 0)))
    (aI (aY (bD hr (bI cJ rfl B.len df (aD (aC 4) aG)) aE)
     (aJ (lR (mS 2 (aH hr (aC 4) aE))))
     aX)
    (aJ (aY (bD hr (bI cJ rfl B.len df (aD (aC 4) aG)) aE)
     (aJ (lR (mS 2 (aL QW hr (aD (aH hr (aC 4) aE) (aD (aH hr (aC 4) aE) aG))))))
     aX)))))
   (aJ (aO (lI lO rfl B.tuple_ boot_tuple (aD (aC 2) aG))))))) (λas R q=>?_)
 obtain⟨V',hv',A,B,rfl,hA,hB,q⟩:=q;obtain⟨V,hv,hV⟩:=hW V' hv';refine⟨rfl,by simp,?_⟩;show az.nx _ _;refine e7 (ρ':=[.va (bJ (jt D A)),.va (bJ (jt D B)),.own [],.no,.no]) rfl ?_;have hall:∀v∈A++B,V' v:=λv hv=>(qr_.mp hv).elim (hA v) (hB v)
 have hAB:ik V (A++B):=hV _ hall;refine jA (λi ρ=>∃(L:List Pt) (s1 s2:Sl),L=((kN6.take i).filterMap (bX D (A++B)))/\ρ=[.va (bJ (jt D A)),.va (bJ (jt D B)),.own (L.map aU),s1,s2]) ⟨[],.no,.no,rfl,rfl⟩ ?_ ?_
 ·rintro i T _ N hT ⟨L,s1,s2,eL,rfl⟩ hN;have hT:(kN6.map λk=>sT (cZ k))[i]?=some T:=hT;rw[g4,qf1_]at hT;obtain⟨k,hk,rfl⟩:=hT;have hkm:k∈kN6:=i7 hk;have hk6:k<=5:=by
   simp only[kN6,qk_,fb,or_false]at hkm;omega
  have hi:i<6:=(qB_.mp hk).1;have et:(kN6.take (i+1)).filterMap (bX D (A++B))=(kN6.take i).filterMap (bX D (A++B))++(bX D (A++B) k).toList:=by
   rw[j6,jw,hk];cases e:bX D (A++B) k<;>simp[e]
  have ll:((kN6.take i).filterMap (bX D (A++B))).length<=6:=by
   refine bu (tj _ _) ?_;rw[g8];omega
  rw[<-eL]at et ll;refine⟨jt D A,k,rfl,hk6,jt D B,k,rfl,hk6,by simp,by simp,?_⟩;have fA:((jt D A).find? λp=>decide (bA p=k))=bX D A k:=Av hkm;have fB:((jt D B).find? λp=>decide (bA p=k))=bX D B k:=Av hkm;rw[fA,fB];refine dL qU (λo=>o.map aU) (l:=[bX D A k,bX D B k]) (λo ho R q=>?_) ?_
  ·cases o with
   |none=>exact⟨_,rfl,bG q⟩
   |some p=>
    obtain⟨r,e,_⟩:=pD p;have q:R (some (aU p)) _:=q;rw[e]at q;rw[show qU (some p)=.seq true (sT (jF p)::r) from e];exact⟨_,rfl,bW q⟩
  have put:∀(r:Pt) (s4:Sl),bX D (A++B) k=some r->N [.va (bJ (jt D A)),.va (bJ (jt D B)),.own (L.map aU++[aU r]),.va (sT (cZ k)),s4]:=λr s4 e=>hN _ ⟨L++[r],.va (sT (cZ k)),s4,by rw[et,e];rfl,by rw[dw];rfl⟩
  have one:∀(p:Pt),bX D (A++B) k=some p->(uQ (wo (uB (iu uo (r8 vJ (iQ (fK 4) hJ)) (uC (iT 1)))) (zM (xT 2 (iu p7 (fK 4) (uC (iT 0))))) zU) (wo (uB (iu uo (r8 vJ (iQ (fK 4) hJ)) (uC (iT 2)))) (zM (xT 2 (mF (vH D W W') (iQ (iu p7 (fK 4) (uC (iT 0))) (iQ (iu p7 (fK 4) (uC (iT 1))) hJ))))) zU)) {nx:=N,rt:=R,bk:=λρ'=>qI (r8 AN (iQ (fK 2) hJ)) {nx:=λx=>R nT,rt:=R} ρ',ct:=N} [.va (bJ (jt D A)),.va (bJ (jt D B)),.own (L.map aU),.va (sT (cZ k)),.va (.seq false [aU p])]:=λp e=>
   ⟨_,rfl,fT (λ_=>⟨⟨_,rfl⟩,_,ar,_,rfl,by rw[aq];omega,_,rfl,fT (λz=>absurd z (show ¬ ((1:Nat):Int)=2 by decide)) (λ_=>put p _ e)⟩) (λz=>absurd rfl z)⟩
  cases ea:bX D A k with
  |none=>
   cases eb:bX D B k with
   |none=>
    have e0:bX D (A++B) k=none:=(Bh eb).trans ea;exact⟨_,rfl,fT (λz=>absurd z (by decide)) (λ_=>⟨_,rfl,fT (λz=>absurd z (by decide)) (λ_=>hN _ ⟨L,.va (sT (cZ k)),_,by rw[et,e0];simp,rfl⟩)⟩)⟩
   |some p=>exact one p ((Lx ea).trans eb)
  |some p=>
   cases eb:bX D B k with
   |none=>exact one p ((Bh eb).trans ea)
   |some p'=>
    obtain⟨r,er⟩:=Ke (B:=B) ea;exact⟨_,rfl,fT (λz=>absurd z (show ¬ ((2:Nat):Int)=1 by decide)) (λ_=>⟨_,rfl,fT (λ_=>⟨⟨_,rfl⟩,_,ar,_,aQ (j:=1) rfl,V,hv,V',hv',A,B,k,p,p',r,rfl,hD,hAB,hall,ea,eb,er,_,rfl,by rw[aq];omega,put r _ er⟩) (λz=>absurd rfl z)⟩)⟩
 ·rintro _ ⟨L,s1,s2,eL,rfl⟩;have eL:L=jt D (A++B):=eL;subst eL;exact⟨false,_,rfl,q⟩
theorem IE{rs:List Str}{r:Int}(h0:0<=r)(h1:r<rs.length):∃x,rs[r.toNat]?=some x:=⟨rs[r.toNat]'(by omega),cb _⟩
theorem C4{α β:Type}(f:α->β):∀(l:List α) (i:Nat),(l.map f).eraseIdx i=(l.eraseIdx i).map f
 |[],_=>by simp
 |_::_,0=>by simp
 |a::l,i+1=>by simp[C4 f l i]
variable{n:Nat}
theorem LP{kts:List (Str×Tv)}{s:Str}{T:Tv}{kt:Str×Tv}(h:kt∈gF kts s T):kt∈kts\/kt=(s,T):=by
 unfold gF at h;split at h
 ·obtain⟨x,hx,rfl⟩:=qd_.mp h;split
  ·rename_i e;rw[e];exact .inr rfl
  ·exact .inl hx
 ·rcases qr_.mp h with h|h
  ·exact .inl h
  ·exact .inr (qX_.mp h)
theorem Da{kts:List (Str×Tv)}{s:Str}{T:Tv}:(gF kts s T).length<=kts.length+1:=by
 unfold gF;split
 ·rw[aq];omega
 ·rw[b8];exact bp _
noncomputable def VD(nm tx:List Str):Nat->Tv->Prop
 |0,_=>False
 |_+1,.leaf .non=>True
 |_+1,.leaf (.bl _)=>True
 |_+1,.leaf (.int i)=>wb i
 |_+1,.leaf (.str s)=>s∈tx
 |n+1,.seq false xs=>xs.length<=11/\∀x∈xs,VD nm tx n x
 |n+1,.dct kts=>(kts.map (·.1)).Nodup/\kts.length<=11/\∀kt∈kts,kt.1∈nm/\VD nm tx n kt.2
 |_,_=>False
theorem B5{nm tx:List Str}{T:Tv}(h:x5 tx T):VD nm tx (n+1) T:=by
 cases T with
 |leaf v=>cases v<;>exact h
 |seq t xs=>exact False.elim h
 |dct k=>exact False.elim h
theorem VD.put{nm tx:List Str}{kts:List (Str×Tv)}{s:Str}{T:Tv}(h:VD nm tx (n+1) (.dct kts))(l:kts.length<11)(hs:s∈nm)(hT:VD nm tx n T):VD nm tx (n+1) (.dct (gF kts s T)):=by
 refine⟨DO h.1,by have:=Da (kts:=kts) (s:=s) (T:=T);omega,λkt hk=>?_⟩;rcases LP hk with z|rfl
 ·exact h.2.2 kt z
 ·exact⟨hs,hT⟩
noncomputable def nE(n:Nat):bf:=λas R=>∃nm tx st sp,∃deep way:Int,as=[.dk,.va (gA nm tx st sp),.va (iT deep),.va (iT way)]/\gV nm tx st sp/\0<=deep/\deep<n/\0<=way/\way<=9/\∀T,VD nm tx n T->R T
noncomputable def AQ(n:Nat):bf:=λas R=>∃nm tx st sp,∃deep many:Int,as=[.dk,.va (gA nm tx st sp),.va (iT deep),.va (iT many)]/\gV nm tx st sp/\1<=deep/\deep<=n/\0<=many/\many<=11/\∀T,VD nm tx (n+1) T->R T
theorem Fy(h:ai K mg "_law_dict" v_)(B:Own mg)(Pr:ae P w K mg base 2 "_law_take" OL gY)(PX:ae P w K mg base (6+2*n) "_law_value" OT (nE n))   : ae P w K mg base (6+2*n+1) "_law_dict" Pk (AQ n):=by
 refine h.pg4 ["_law_deck_here","_law_world_here","_law_deep","_law_many","_law_names","_law_found","_law_k","_law_name"] (λnd hr=>
   (aI (qH 4 nd (mR mU rfl B.list_ boot_list (aD (aH hr (aC 1) aE) aG)))
   (aI (La (i:=5) nd rfl (.inl rfl))
   (aI (fJ (m:=8) i4 rfl (kF rfl B.range (aD (aC 3) aG)) (eG 6 (by decide) nd rfl (.inl rfl))
    (aI (bC 7 nd (K9 4 (aL Pr hr (cE 0 (aD (xS λF=>(bI cJ rfl B.len df (aD (aC 4) aG))) aG)))))
    (aJ (KP (i:=5) (uH hr) rfl (by first|exact Or.inl rfl|exact Or.inr (Or.inl rfl)|exact Or.inr (Or.inr rfl)) (aC 7) (aL PX hr (cE 0 (aD (aC 1) (aD (bI (jT rfl) rfl B.max boot_max (aD aE (aD (bE iM (bE iM (aC 2) aE) (bE xW (aC 3) aE)) aG))) (aD aE aG)))))))))
   (aJ (aO (aC 5))))))) (λas R q=>?_)
 obtain⟨nm,tx,st,sp,deep,many,rfl,hw,d1,dn,m0,m11,q⟩:=q;refine⟨rfl,_,rfl,false,_,rfl,?_⟩;refine⟨_,rfl,by omega,by omega,?_⟩;refine jA (λi ρ=>∃(rs:List Str) (kts:List (Str×Tv)) (s1 s2:Sl),rs.length+i=11/\(∀s∈rs,s∈nm)/\kts.length<=i/\VD nm tx (n+1) (.dct kts)/\ρ=[.dk,.va (gA nm tx st sp),.va (iT deep),.va (iT many),.own (rs.map sT),.dct kts,s1,s2]) ⟨nm,[],.no,.no,hw.n11,λs h=>h,d8 _,⟨mh,by decide,λkt h=>nomatch h⟩,rfl⟩ ?_ ?_
 ·rintro i T _ N hT ⟨rs,kts,s1,s2,hl,hr,hk,hv,rfl⟩ hN;have hi:=(oZ hT).1;refine⟨⟨_,rfl⟩,rfl,_,rfl,(rs.map sT).length,rfl,by rw[aq];omega,by rw[aq];exact cI (by omega) (by omega),λr r0 r1=>?_⟩;rw[aq]at r1;obtain⟨x,hx⟩:=IE r0 r1;refine⟨r,_,sT x,rfl,rfl,r0,by rw[g4,hx];rfl,?_⟩;rw[C4];have hxn:=hr x (i7 hx);refine⟨rfl,⟨by decide,cI (by decide) (by decide)⟩,.inl ⟨0,_,rfl,nm,tx,st,sp,_,9,rfl,hw,by omega,by omega,by decide,by decide,λT hT=>?_⟩⟩;have pl:=Da (kts:=kts) (s:=x) (T:=T);have el:(rs.eraseIdx r.toNat).length=rs.length-1:=by rw[List.length_eraseIdx,if_pos (by omega)]
  exact⟨⟨_,rfl⟩,kts,x,rfl,rfl,by omega,hN _ ⟨rs.eraseIdx r.toNat,gF kts x T,_,_,by omega,λs hs=>hr s (List.mem_of_mem_eraseIdx hs),by omega,hv.put (by omega) hxn hT,rfl⟩⟩
 ·rintro _ ⟨rs,kts,s1,s2,hl,hr,hk,hv,rfl⟩;exact q _ hv
theorem wF{α β:Type}{r:α->β->Prop}{g:β->Prop}(h:∀a b,r a b->g b):∀{l:List α}{m:List β},Paired r l m->∀b∈m,g b
 |_,_,.nil,b,hb=>nomatch hb
 |_,_,.cons r t,b,hb=>by
  rcases qk_.mp hb with rfl|hb
  ·exact h _ _ r
  ·exact wF h t b hb
theorem ED:dN Pc OT (aV qJ):=ke (by decide +kernel)
theorem Fz(h:ai K mg "_law_value" qJ)(B:Own mg)(Pr:ae P w K mg base 2 "_law_take" OL gY)(Qw:ae P w K mg base 5 "_law_leaf" OS tK)(PX:ae P w K mg base (6+2*n) "_law_value" OT (nE n))(QZ:ae P w K mg base (6+2*n+1) "_law_dict" Pk (AQ n))   : ae P w K mg base (6+2*n+2) "_law_value" OT (nE (n+1)):=by
 refine h.pg4 Pc (λnd hr=>
   (aI (aY (bD hr (aC 3) aE)
    (aJ (bC 3 nd (aL Pr hr (cE 0 (aD aE aG)))))
    aX)
   (aI (aY (dX (fO (bD hr (aC 2) aE) (gB (cO kT (aC 3) aE))))
    (aJ (aO (aL Qw hr (cE 0 (aD (aC 1) aG)))))
    aX)
   (aI (bC 4 nd (aH hr (bB (cC (aD aE (aD aE (aD aE (aD aE (aD aE (aD aE (aD aE (aD aE aG)))))))))) (aL Pr hr (cE 0 (aD aE aG)))))
   (aI (aY (cO kT (aC 3) aE)
    (aJ (aO (bB (dI (sc:=aV qJ) (XN:=Pc) (N:=["_law_k","_law_deck_here","_law_world_here","_law_deep"]) (fr:=[0,1,2]) (kF rfl B.range (aD (aC 4) aG)) (λ_ _ _ _ _=>(aL PX hr (cE 1 (aD (aC 2) (aD (bE iM (aC 3) aE) (aD aE aG))))))))))
    aX)
   (aI (aY (bD hr (aL Pr hr (cE 0 (aD aE aG))) aE)
    (aJ (bC 4 nd (bE cD aE (aL Pr hr (cE 0 (aD aE aG))))))
    aX)
   (aJ (aO (aL QZ hr (cE 0 (aD (aC 1) (aD (aC 2) (aD (aC 4) aG))))))))))))) (λas R q=>?_)
 obtain⟨nm,tx,st,sp,deep,way,rfl,hw,d0,d1,w0,w9,q⟩:=q;refine⟨rfl,_,rfl,fT (λ_=>⟨rfl,9,rfl,by decide,cI (by decide) (by decide),λway w0 w9=>?_⟩) (λ_=>?_)⟩
 all_goals
  refine⟨_,rfl,fT (λ_=>bW ⟨rfl,nm,tx,st,sp,rfl,hw,λT hT=>q T (B5 hT)⟩) (λz=>⟨_,rfl,gr (λ_=>⟨rfl,nm,tx,st,sp,rfl,hw,λT hT=>q T (B5 hT)⟩) (λ_=>?_)⟩)⟩;refine⟨by decide,rfl,8,rfl,by decide,cI (by decide) (by decide),λr r0 r1=>?_⟩;obtain⟨M,hM,hMm⟩:=lE (l:=[iT 0,iT 1,iT 2,iT 3,iT 2,iT 1,iT 4,iT 6]) r0 r1;have hm:∃m:Int,M=iT m/\0<=m/\m<=6:=by
   simp only[qk_,fb,or_false]at hMm;rcases hMm with e|e|e|e|e|e|e|e<;>subst e<;>exact⟨_,rfl,by decide,by decide⟩
  obtain⟨m,rfl,m0,m6⟩:=hm;refine⟨_,hM,?_⟩;clear hM hMm;refine⟨_,rfl,gr (λ_=>⟨_,rfl,by omega,by omega,by rw[jO];omega,wU (λT U=>VD nm tx n U) (λT hT R hR=>⟨rfl,nm,tx,st,sp,_,9,rfl,hw,by omega,by omega,by decide,by decide,λU hU=>hR U hU⟩) (λUs hUs=>?_)⟩) (λ_=>?_)⟩
  ·refine q _ ⟨?_,wF (g:=VD nm tx n) (λa b h=>h) hUs⟩;have:=hUs.length;rw[jO]at this;omega
  ·exact⟨rfl,6,rfl,by decide,cI (by decide) (by decide),λr r0 r1=>⟨_,rfl,gr (λ_=>⟨rfl,4,rfl,by decide,cI (by decide) (by decide),λe e0 e1=>⟨rfl,nm,tx,st,sp,deep,_,rfl,hw,by omega,by omega,by omega,by omega,λT hT=>q T hT⟩⟩) (λ_=>⟨rfl,nm,tx,st,sp,deep,_,rfl,hw,by omega,by omega,by omega,by omega,λT hT=>q T hT⟩)⟩⟩
theorem xL(hv:ai K mg "_law_value" qJ)(hd:ai K mg "_law_dict" v_)(B:Own mg)(G1:ae P w K mg base 2 "_law_take" OL gY)(G2:ae P w K mg base 5 "_law_leaf" OS tK):∀n:Nat,ae P w K mg base (6+2*n) "_law_value" OT (nE n)
 |0=>hv.pfalse ED (fun|_,_,_,_,_,_,[_,_,_,_],_=>rfl) λas R ⟨_,_,_,_,_,_,_,_,h0,h1,_⟩=>by omega
 |n+1=>Fz hv B G1 G2 (xL hv hd B G1 G2 n) (Fy hd B G1 (xL hv hd B G1 G2 n))
theorem EK{nm tx:List Str}{st sp:Int}(hw:gV nm tx st sp){n:Nat}{vs:List Tv}(h:∀v∈vs,VD nm tx (n+1) v):ik (VD nm tx n) vs:=by
 have hs:∀t∈vs.filterMap gb,t∈tx:=λt ht=>by
  obtain⟨v,hv,e⟩:=qT_.mp ht;rw[Aj]at e;subst e;exact h _ hv
 have hd:∀k∈vs.filterMap d3,VD nm tx (n+1) (.dct k):=λk hk=>by
  obtain⟨v,hv,e⟩:=qT_.mp hk;rw[Ah]at e;subst e;exact h _ hv
 have hn:∀x∈aR (vs.filterMap d3),x∈nm:=λx hx=>by
  obtain⟨k,hk,hx⟩:=qC1_.mp hx;obtain⟨kt,hkt,rfl⟩:=qd_.mp hx;exact((hd k hk).2.2 kt hkt).1
 refine⟨λt ht=>?_,?_,λl hl=>?_,λk hk=>(hd k hk).1,λk hk kt hkt=>?_,?_⟩
 ·have:=hw.ts t (hs t ht);exact⟨this.1,by have:=this.2;omega⟩
 ·have:=WordM.nodup_len (eI (vs.filterMap gb)) (m:=tx) λx hx=>hs x ((dM _ x).mp hx)
  have:=hw.t9;omega
 ·obtain⟨v,hv,e⟩:=qT_.mp hl;rw[Ai]at e;subst e;exact(h _ hv).2
 ·have a:=(hd k hk).2.2 kt hkt;have:=hw.ns kt.1 a.1;exact⟨⟨this.1,by have:=this.2;omega⟩,a.2⟩
 ·have:=WordM.nodup_len (eI (aR (vs.filterMap d3))) (m:=nm) λx hx=>hn x ((dM _ x).mp hx)
  have:=hw.n11;omega
noncomputable def WD(n:Nat)(V:Tv->Prop):Prop:=∃nm tx st sp,gV nm tx st sp/\V=VD nm tx n
theorem D7(n:Nat):o9 (bH n):=⟨wS n,Kd n⟩
noncomputable def D0:List Tv->List Pt:=λ_=>[]
noncomputable def W0:(Tv->Prop)->Prop:=λV=>∀v,¬ V v
section
variable{D:List Tv->List Pt}{W W':(Tv->Prop)->Prop}{lv:Nat}
theorem IR(hj:ai K mg "joined" qL)(hp:ai K mg "parts_joined" qM)(hl:ai K mg "lists_joined" uU)(hd:ai K mg "dicts_joined" uV)(ht:ai K mg "tables_joined" uW)(ha:ai K mg "all_joined" qK)(hr:ai K mg "records_joined" uX)(hf:ai K mg "field_joined" uY)(B:Own mg)
  (PD:ae P w K mg base 2 "part_for" OO kG) (Qj:ae P w K mg base 3 "run_joined" OH pX) (PH:ae P w K mg base 5 "words_joined" OH mW) (PF:ae P w K mg base 1 "fields_by_name" OM oK) (PL:ae P w K mg base 5 "name_words" OI qR) (PK:ae P w K mg base 1 "forms_within" OI qS)
  (GMOST_FIELDS:eQ K mg "MOST_FIELDS" (iT 8)) (GKINDS:eQ K mg "KINDS" (.seq true (kN6.map λk=>sT (cZ k))))
  (hD:o9 D) (hW:∀V':Tv->Prop,W' V'->∃V:Tv->Prop,W V/\∀vs:List Tv,(∀v∈vs,V' v)->ik V vs)
  (PM:ae P w K mg base lv "joined" OH (p6 D W)):ae P w K mg base (lv+9) "joined" OH (p6 (jt D) W'):=
 xl (lv:=lv) hj B PD (F3 hp B Qj PH (FZ hl B PM) (FY hd B PF (Ex hr B PF (Ew hf B PM)) (Ez ht B PL PH (u5 ha B PM) PK) GMOST_FIELDS)) GKINDS hD hW
theorem Bg(D:List Tv->List Pt)(k:Nat):bX D [] k=none:=by
 unfold bX;split<;>rfl
theorem Cc(D:List Tv->List Pt):jt D []=[]:=by
 unfold jt;rw[tm];exact λk _=>Bg D k
theorem Iq(n:Nat):bH (n+1)=jt (bH n):=funext λvs=>rfl
theorem tO{V:Tv->Prop}(h:∀v,¬ V v){A:List Tv}(hA:∀v∈A,V v):A=[]:=qX2_.mpr λv hv=>h v (hA v hv)
theorem Ax(hj:ai K mg "joined" qL)(hp:ai K mg "parts_joined" qM)(hl:ai K mg "lists_joined" uU)(hd:ai K mg "dicts_joined" uV)(ht:ai K mg "tables_joined" uW)(ha:ai K mg "all_joined" qK)(hr:ai K mg "records_joined" uX)(hf:ai K mg "field_joined" uY)(B:Own mg)
  (PD:ae P w K mg base 2 "part_for" OO kG) (Qj:ae P w K mg base 3 "run_joined" OH pX) (PH:ae P w K mg base 5 "words_joined" OH mW) (PF:ae P w K mg base 1 "fields_by_name" OM oK) (PL:ae P w K mg base 5 "name_words" OI qR) (PK:ae P w K mg base 1 "forms_within" OI qS)
  (GMOST_FIELDS:eQ K mg "MOST_FIELDS" (iT 8)) (GKINDS:eQ K mg "KINDS" (.seq true (kN6.map λk=>sT (cZ k)))):∀n:Nat,ae P w K mg base (9*n+9) "joined" OH (p6 (bH n) (WD n))
 |0=>by
  have z:ae P w K mg base 8 "parts_joined" OH (vH D0 (λ_=>True) W0):=hp.pfalse EC (fun|_,_,_,_,_,_,[_,_],_=>rfl) λas R ⟨V,_,V',h0,A,B',k,p,q,r,_,_,_,ha',h1,_⟩=>by
   have:A=[]:=tO h0 λv hv=>ha' v (fe _ hv)
   rw[this,Bg]at h1;cases h1
  have g:=xl (lv:=0) (D:=D0) (W:=λ_=>True) (W':=W0) hj B PD z GKINDS ⟨λ_ _ _=>rfl,rfl⟩ (λV' h0=>⟨V',trivial,λvs hvs=>by
   rw[tO h0 hvs]
   exact⟨λt h=>(nomatch h),d8 _,λt h=>(nomatch h),λt h=>(nomatch h),λt h=>(nomatch h),d8 _⟩⟩)
  refine g.imp λas R ⟨V,⟨nm,tx,st,sp,hw,eV⟩,A,B',e,hA,hB,q⟩=>?_
  subst eV;have h0:∀v,¬ VD nm tx 0 v:=λv h=>h
  have eA:=tO h0 hA;have eB:=tO h0 hB;subst eA eB;refine⟨VD nm tx 0,h0,[],[],?_,λv h=>(nomatch h),λv h=>(nomatch h),?_⟩
  ·rw[e,Cc];rfl
  ·rw[i8,Cc];exact q
 |n+1=>by
  rw[Iq];exact IR hj hp hl hd ht ha hr hf B PD Qj PH PF PL PK GMOST_FIELDS GKINDS (D7 n) (λV' ⟨nm,tx,st,sp,hw,e⟩=>⟨VD nm tx n,⟨nm,tx,st,sp,hw,rfl⟩,λvs h=>EK hw λv hv=>by have:=h v hv;rw[e]at this;exact this⟩) (Ax hj hp hl hd ht ha hr hf B PD Qj PH PF PL PK GMOST_FIELDS GKINDS n)
end
theorem VD.six{nm tx:List Str}{n:Nat}{v:Tv}(h:VD nm tx n v):v=nT\/(∃b,v=bT b)\/(∃i,v=iT i)\/(∃s,v=sT s)\/(∃xs,v=.seq false xs)\/∃k,v=.dct k:=by
 cases n with
 |zero=>exact False.elim h
 |succ n=>
  cases v with
  |leaf v=>cases v with
   |non=>exact .inl rfl
   |bl b=>exact .inr (.inl ⟨b,rfl⟩)
   |int i=>exact .inr (.inr (.inl ⟨i,rfl⟩))
   |str s=>exact .inr (.inr (.inr (.inl ⟨s,rfl⟩)))
   |_=>exact False.elim h
  |seq t xs=>cases t with
   |false=>exact .inr (.inr (.inr (.inr (.inl ⟨xs,rfl⟩))))
   |true=>exact False.elim h
  |dct k=>exact .inr (.inr (.inr (.inr (.inr ⟨k,rfl⟩))))
variable{n:Nat}
noncomputable def sI(n:Nat):bf:=λas R=>∃V:Tv->Prop,WD n V/\∃v:Tv,as=[.va v]/\V v/\R (bJ (bH n [v]))
noncomputable def xF(n:Nat):bf:=λas R=>∃V:Tv->Prop,WD n V/\∃v:Tv,as=[.va v]/\V v/\∀p,bH n [v]=[p]->R (aU p)
noncomputable def pW(n:Nat):bf:=λas R=>∃V:Tv->Prop,WD n V/\∃vs:List Tv,as=[.va (.seq false vs)]/\vs.length<=1000/\(∀v∈vs,V v)/\R (bJ (bH n vs))
theorem Bj:∀vs:List Tv,(vs.map λv=>[v]).flatten=vs
 |[]=>rfl
 |v::vs=>by rw[d9,g6,Bj vs];rfl
theorem xm(h:ai K mg "told" uT)(B:Own mg)(Qt:ae P w K mg base (9*n+10) "all_joined" ["forms"] (u7 (bH n) (WD n)))(Qr:ae P w K mg base (9*n+10) "form_of" OK (sI n))   : ae P w K mg base (9*n+11) "told" OU (pW n):=by
 refine h.pg1 OU (λnd hr=>
   (aJ (aO (aL Qt hr (aD (bB (dI (sc:=aV uT) (XN:=OU) (N:=["sample"]) (fr:=[]) (bK (aC 0)) (λ_ _ _ _ _=>(aL Qr hr (aD (aC 0) aG))))) aG))))) (λas R q=>?_)
 obtain⟨V,hV,vs,rfl,lv,hv,q⟩:=q;refine⟨rfl,by omega,Ls (λv=>bJ (bH n [v])) (λv hvm R q=>⟨V,hV,v,rfl,hv v hvm,q⟩) ?_⟩;refine⟨V,hV,vs.map λv=>[v],by rw[cv];rfl,D7 n,λA hA v hvA=>?_,?_⟩
 ·obtain⟨x,hx,rfl⟩:=qd_.mp hA;rw[qX_.mp hvA];exact hv x hx
 ·rw[Bj];exact q
noncomputable def zp(n:Nat):bf:=λas R=>∃V:Tv->Prop,WD n V/\∃xs:List Tv,as=[.va (.seq false xs)]/\xs.length<=1000/\(∀v∈xs,V v)/\R (aU (.lists (xs.length:Nat) (xs.length:Nat) (bH n xs)))
theorem Er(h:ai K mg "list_part" vn)(B:Own mg)(PN:ae P w K mg base (9*n+11) "told" OU (pW n))   : ae P w K mg base (9*n+12) "list_part" OK (zp n):=by
 refine h.pg1 OK (λnd hr=>
   (aJ (aO (cH (aD aT (aD (bI cJ rfl B.len df (aD (aC 0) aG)) (aD (bI cJ rfl B.len df (aD (aC 0) aG)) (aD (aL PN hr (aD (aC 0) aG)) aG)))))))) (λas R q=>?_)
 obtain⟨V,hV,xs,rfl,lx,hv,q⟩:=q;rw[fV]at q;exact⟨rfl,V,hV,xs,rfl,lx,hv,by simp,q⟩
noncomputable def zl(n:Nat):bf:=λas R=>∃V:Tv->Prop,WD n V/\∃k:List (Str×Tv),as=[.va (.dct k)]/\(k.map (·.1)).Nodup/\k.length<=20/\(∀kt∈k,eJ kt.1/\V kt.2)/\R (aU (dh (bH n) [k]))
theorem Es(h:ai K mg "dict_part" qN)(B:Own mg)(Qr:ae P w K mg base (9*n+10) "form_of" OK (sI n))(PN:ae P w K mg base (9*n+11) "told" OU (pW n))(PC:ae P w K mg base 4 "words_of" ON lJ)(GMOST_FIELDS:eQ K mg "MOST_FIELDS" (iT 8))  : ae P w K mg base (9*n+12) "dict_part" OK (zl n):=by
 refine h.pg1 ["value","size","names"] (λnd hr=>
   (aI (bC 1 nd (bI cJ rfl B.len df (aD (aC 0) aG)))
   (aI (bC 2 nd (bB (K_ (MQ rfl) rfl B.sorted boot_sorted (aD (aC 0) aG))))
   (aI (aY (cO eY (aC 1) (mD GMOST_FIELDS rfl))
    (aJ (aO (cH (aD aT (aD (aC 1) (aD (aC 1) (aD (lI lO rfl B.tuple_ boot_tuple (aD (bB (dI (sc:=aV qN) (XN:=["value","size","names"]) (N:=["name","value"]) (fr:=[0]) (bK (aC 2)) (λ_ _ _ _ _=>(cH (aD (aC 0) (aD dS (aD (aL Qr hr (aD (aH hr (aC 1) (aC 0)) aG)) aG))))))) aG)) aG)))))))
    aX)
   (aJ (aO (cH (aD aT (aD (aC 1) (aD (aC 1) (aD (aL PC hr (aD (aC 2) aG)) (aD (aL PN hr (aD (bB (dI (sc:=aV qN) (XN:=["value","size","names"]) (N:=["name","value"]) (fr:=[0]) (bK (aC 2)) (λ_ _ _ _ _=>(aH hr (aC 1) (aC 0))))) aG)) aG)))))))))))) (λas R q=>?_)
 obtain⟨V,hV,k,rfl,nd,lk,hk,q⟩:=q;refine⟨rfl,?_⟩;have enm:aR [k]=k.map (·.1):=by unfold aR;rw[List.flatMap_cons,List.flatMap_nil,i8]
 have sn:(aN (aR [k])).Perm (k.map (·.1)):=(kh (eI _) nd).mpr λx=>by rw[dM,enm]
 have sl:(aN (aR [k])).length=k.length:=by rw[sn.length_eq,aq]
 have es:bF (k.map (·.1))=bF (aN (aR [k])):=rO (Cr nd) (iC _) λx=>by rw[(fU _).mem_iff,sort_set_mem,enm]
 have eL:bM (bO [k])=(k.length:Nat)/\bV (bO [k])=(k.length:Nat):=⟨rfl,rfl⟩
 have sk:(bF (aN (aR [k]))).length=k.length:=by rw[(fU _).length_eq,sl]
 have lk':∀x∈bF (aN (aR [k])),∃v,cF k x=some v/\(x,v)∈k:=λx hx=>by
  rw[sort_set_mem,enm]at hx;obtain⟨kt,hkt,rfl⟩:=qd_.mp hx;exact⟨kt.2,sU nd hkt,hkt⟩
 refine .inr (.inr ⟨k,rfl,?_⟩);rw[es];show az.nx _ _;refine e7 (ρ':=[.va (.dct k),.va (iT (k.length:Nat)),.va (.seq false ((bF (aN (aR [k]))).map sT))]) rfl ?_;refine⟨_,rfl,dQ (λz=>?_) (λz=>?_)⟩
 ·have z:((k.length:Nat):Int)<=8:=z;rw[jW (by omega),bS]at q;refine⟨by rw[aq];omega,cX sT (λx=>bR (dA (bH n) [k] x)) (λx hx R q=>?_) ⟨_,_,rfl,by simp,?_⟩⟩
  ·obtain⟨v,e,hm⟩:=lk' x hx;have ea:ij x [k]=[v]:=by unfold ij;rw[i9,e];rfl
   have eall:[k].all (λk=>decide (x∈k.map (·.1)))=true:=by
    rw[jb,List.all_nil,nv];exact cm (qd_.mpr ⟨_,hm,rfl⟩)
   unfold dA at q;rw[ea,eall]at q;exact⟨_,e,V,hV,v,rfl,(hk _ hm).2,by simp,q⟩
  ·unfold bY at q;rw[cv]at q;exact q
 ·have z:¬ ((k.length:Nat):Int)<=8:=z;have ne:aR [k]≠[]:=λe=>by rw[e]at sl;have:k.length=0:=sl.symm;omega
  rw[jV (by omega),cQ,<-oR (ts:=bF (aN (aR [k]))) (us:=aR [k]) λx=>sort_set_mem]at q;refine⟨_,rfl,nC ne,by omega,?_,λt ht=>?_,?_⟩
  ·have:=fN (A:=bF (aN (aR [k]))) (C:=aR [k]) λx hx=>sort_set_mem.mp hx
   omega
  ·obtain⟨v,e,hm⟩:=lk' t ht;exact(hk _ hm).1
  have ev:bH n ((bF (aN (aR [k]))).map λx=>(cF k x).getD nT)=bH n (dG [k]):=wS n _ _ λv=>by
   rw[qd_,vls_mem];constructor
   ·rintro⟨x,hx,rfl⟩;obtain⟨v,e,hm⟩:=lk' x hx;rw[e];exact⟨k,.head _,x,hm⟩
   ·rintro⟨k',hk',x,hm⟩;rw[qX_]at hk';subst hk';refine⟨x,sort_set_mem.mpr (by rw[enm];exact qd_.mpr ⟨_,hm,rfl⟩),?_⟩;rw[sU nd hm];rfl
  rw[<-ev]at q;refine⟨by rw[aq];omega,cX sT (λx=>(cF k x).getD nT) (λx hx R q=>?_) ⟨V,hV,_,rfl,by rw[aq];omega,λv hv=>?_,by simp,q⟩⟩
  ·obtain⟨v,e,hm⟩:=lk' x hx;rw[e]at q;exact⟨v,e,q⟩
  ·obtain⟨x,hx,rfl⟩:=qd_.mp hv;obtain⟨v,e,hm⟩:=lk' x hx;rw[e];exact(hk _ hm).2
theorem EB:dN ["value","kind"] OK (aV uZ):=ke (by decide +kernel)
theorem Et(h:ai K mg "part_of" uZ)(B:Own mg)(QC:ae P w K mg base 1 "kind_of" OK tM)(PC:ae P w K mg base 4 "words_of" ON lJ)(QN:ae P w K mg base (9*n+12) "list_part" OK (zp n))(QO:ae P w K mg base (9*n+12) "dict_part" OK (zl n))   : ae P w K mg base (9*n+13) "part_of" OK (xF (n+1)):=by
 refine h.pg1 ["value","kind"] (λnd hr=>
   (aI (bC 1 nd (aL QC hr (aD (aC 0) aG)))
   (aI (aY (bD hr (aC 1) aT)
    (aJ (aO (cH (aD aT (aD (cH (aD (aC 0) aG)) aG)))))
    aX)
   (aI (aY (bD hr (aC 1) aT)
    (aJ (aO (cH (aD aT (aD (aC 0) (aD (aC 0) (aD aE aG)))))))
    aX)
   (aI (aY (bD hr (aC 1) aT)
    (aJ (aO (cH (aD aT (aD (aL PC hr (aD (bB (cC (aD (aC 0) aG))) aG)) aG)))))
    aX)
   (aI (aY (bD hr (aC 1) aT)
    (aJ (aO (aL QN hr (aD (aC 0) aG))))
    aX)
   (aI (aY (bD hr (aC 1) aT)
    (aJ (aO (aL QO hr (aD (aC 0) aG))))
    aX)
   (aJ (aO (cH (aD aT aG))))))))))) (λas R q=>?_)
 obtain⟨V,⟨nm,tx,st,sp,hw,rfl⟩,v,rfl,hv,q⟩:=q;have W:WD n (VD nm tx n):=⟨nm,tx,st,sp,hw,rfl⟩
 rcases VD.six hv with rfl|⟨b,rfl⟩|⟨i,rfl⟩|⟨s,rfl⟩|⟨xs,rfl⟩|⟨k,rfl⟩
 ·have q:=q .nothing rfl;rw[oQ]at q;exact⟨rfl,nT,rfl,rfl,_,rfl,sN (by decide +kernel) ⟨_,rfl,sN (by decide +kernel) ⟨_,rfl,sN (by decide +kernel) ⟨_,rfl,sN (by decide +kernel) ⟨_,rfl,sN (by decide +kernel) ⟨by simp,q⟩⟩⟩⟩⟩⟩
 ·have q:=q (.truths [b]) (by cases b<;>rfl);rw[jI]at q;exact⟨rfl,bT b,rfl,rfl,_,rfl,sY ⟨by simp,by simp,q⟩⟩
 ·have q:=q (.numbers i i 0) (by
   show [Pt.numbers i i (GcdM.g (i-i) 0)]=_;rw[ma]
   rfl)
  rw[iG]at q;exact⟨rfl,iT i,rfl,rfl,_,rfl,sN (show cZ 2≠_ by decide +kernel) ⟨_,rfl,sY ⟨by simp,q⟩⟩⟩
 ·have q:=q (.texts (bP [s])) rfl;rw[jJ]at q;have hs:=hw.ts s hv;exact⟨rfl,sT s,rfl,rfl,_,rfl,sN (show cZ 3≠_ by decide +kernel) ⟨_,rfl,sN (show cZ 3≠_ by decide +kernel) ⟨_,rfl,sY ⟨by simp,[s],rfl,by simp,by simp,bu (sQ _) (by simp),λt ht=>by rw[qX_.mp ht];exact⟨hs.1,by have:=hs.2;omega⟩,by simp,q⟩⟩⟩⟩
 ·have q:=q (.lists (xs.length:Nat) (xs.length:Nat) (bH n xs)) (by
   show [Pt.lists (xs.length:Nat) (xs.length:Nat) (bH n (xs++[]))]=_
   rw[i8])
  exact⟨rfl,.seq false xs,rfl,trivial,_,rfl,sN (show cZ 4≠_ by decide +kernel) ⟨_,rfl,sN (show cZ 4≠_ by decide +kernel) ⟨_,rfl,sN (show cZ 4≠_ by decide +kernel) ⟨_,rfl,sY ⟨VD nm tx n,W,xs,rfl,bu hv.1 (by decide),hv.2,q⟩⟩⟩⟩⟩
 ·have q:=q (dh (bH n) [k]) rfl;exact⟨rfl,.dct k,rfl,trivial,_,rfl,sN (show cZ 5≠_ by decide +kernel) ⟨_,rfl,sN (show cZ 5≠_ by decide +kernel) ⟨_,rfl,sN (show cZ 5≠_ by decide +kernel) ⟨_,rfl,sN (show cZ 5≠_ by decide +kernel) ⟨_,rfl,sY ⟨VD nm tx n,W,k,rfl,hv.1,bu hv.2.1 (by decide),λkt hkt=>⟨⟨(hw.ns kt.1 (hv.2.2 kt hkt).1).1,by have:=(hw.ns kt.1 (hv.2.2 kt hkt).1).2;omega⟩,(hv.2.2 kt hkt).2⟩,q⟩⟩⟩⟩⟩⟩
theorem xk(h:ai K mg "form_of" vo)(B:Own mg)(QP:ae P w K mg base (9*n+9) "part_of" OK (xF n))   : ae P w K mg base (9*n+10) "form_of" OK (sI n):=by
 refine h.pg1 OK (λnd hr=>
   (aJ (aO (cH (aD (aL QP hr (aD (aC 0) aG)) aG))))) (λas R q=>?_)
 obtain⟨V,hV,v,rfl,hv,q⟩:=q;refine⟨rfl,V,hV,v,rfl,hv,λp e=>⟨by simp,?_⟩⟩;rw[e]at q;exact q
theorem Ay(ht:ai K mg "told" uT)(hf:ai K mg "form_of" vo)(hp:ai K mg "part_of" uZ)(hl:ai K mg "list_part" vn)(hd:ai K mg "dict_part" qN)(ha:ai K mg "all_joined" qK)(B:Own mg)
  (QC:ae P w K mg base 1 "kind_of" OK tM) (PC:ae P w K mg base 4 "words_of" ON lJ) (GMOST_FIELDS:eQ K mg "MOST_FIELDS" (iT 8)) (Gj:∀n:Nat,ae P w K mg base (9*n+9) "joined" OH (p6 (bH n) (WD n))):∀n:Nat,ae P w K mg base (9*n+10) "form_of" OK (sI n)/\ae P w K mg base (9*n+11) "told" OU (pW n)
 |0=>by
  have p0:ae P w K mg base 9 "part_of" OK (xF 0):=hp.pfalse EB (fun|_,_,_,_,_,_,[_],_=>rfl) λas R ⟨V,⟨nm,tx,st,sp,hw,e⟩,v,_,hv,_⟩=>by subst e;exact hv
  have f0:=xk (n:=0) hf B p0;exact⟨f0,xm (n:=0) ht B (u5 (lv:=9) ha B (Gj 0)) f0⟩
 |n+1=>by
  obtain⟨f,t⟩:=Ay ht hf hp hl hd ha B QC PC GMOST_FIELDS Gj n;have f1:=xk (n:=n+1) hf B ((Et (n:=n) hp B QC PC (Er hl B t) (Es hd B f t PC GMOST_FIELDS)).mono (by omega));exact⟨f1,xm (n:=n+1) ht B (u5 (lv:=9*(n+1)+9) ha B (Gj (n+1))) f1⟩
variable{n:Nat}
noncomputable def wL:bf:=λas R=>∃nm tx st sp,∃many:Int,as=[.dk,.va (gA nm tx st sp),.va (iT many)]/\gV nm tx st sp/\0<=many/\many<=60/\∀Us:List Tv,(Us.length:Int)=many->(∀U∈Us,VD nm tx 4 U)->R (.seq false Us)
theorem FA(h:ai K mg "_law_samples" zZ)(B:Own mg)(Pr:ae P w K mg base 2 "_law_take" OL gY)(PX:ae P w K mg base 14 "_law_value" OT (nE 4))   : ae P w K mg base 15 "_law_samples" Pd wL:=by
 refine h.pg3 Pl (λnd hr=>
   (aI (bC 3 nd (aH hr (bB (cC (aD aE (aD aE (aD aE (aD aE (aD aE (aD aE aG)))))))) (aL Pr hr (cE 0 (aD aE aG)))))
   (aI (bC 4 nd (aH hr (bB (cC (aD aE (aD aE (aD aE (aD aE aG)))))) (aL Pr hr (cE 0 (aD aE aG)))))
   (aJ (aO (bB (dI (sc:=aV zZ) (XN:=Pl) (N:=["_law_k","_law_deck_here","_law_world_here","_law_way","_law_deep"]) (fr:=[0,1,3,4]) (kF rfl B.range (aD (aC 2) aG)) (λ_ _ _ _ _=>(aL PX hr (cE 1 (aD (aC 2) (aD (aC 4) (aD (aC 3) aG))))))))))))) (λas R q=>?_)
 obtain⟨nm,tx,st,sp,many,rfl,hw,m0,m6,q⟩:=q;refine⟨rfl,by simp,rfl,6,rfl,by decide,cI (by decide) (by decide),λr r0 r1=>?_⟩;obtain⟨W,hW,hWm⟩:=lE (l:=[iT 9,iT 9,iT 1,iT 5,iT 7,iT 8]) r0 r1;have hw':∃d:Int,W=iT d/\0<=d/\d<=9:=by
  simp only[qk_,fb,or_false]at hWm;rcases hWm with e|e|e|e|e|e<;>subst e<;>exact⟨_,rfl,by decide,by decide⟩
 obtain⟨way,rfl,w0,w9⟩:=hw';refine⟨_,hW,by simp,rfl,4,rfl,by decide,cI (by decide) (by decide),λc c0 c1=>?_⟩;obtain⟨D,hD,hDm⟩:=lE (l:=[iT 2,iT 2,iT 1,iT 3]) c0 c1;have hd':∃d:Int,D=iT d/\0<=d/\d<4:=by
  simp only[qk_,fb,or_false]at hDm;rcases hDm with e|e|e|e<;>subst e<;>exact⟨_,rfl,by decide,by decide⟩
 obtain⟨d,rfl,d0,d1⟩:=hd';refine⟨_,hD,_,rfl,by omega,by omega,by rw[jO];omega,wU (λT U=>VD nm tx 4 U) (λT hT R hR=>⟨rfl,nm,tx,st,sp,d,way,rfl,hw,d0,by omega,w0,w9,λU hU=>hR U hU⟩) (λUs hUs=>?_)⟩;refine q Us ?_ (wF (g:=VD nm tx 4) (λa b h=>h) hUs);have:=hUs.length;rw[jO]at this;omega
open WordM ShowM
theorem letW_make{hd x:Str}{lo hi:Int}{ms:List Str}:bZ (.make hd lo hi ms) x=true↔t6 cU (cs hd) lo hi ms (cs x):=by
 unfold bZ t6;rw[i6,i6,i6,decide_eq_true_iff,decide_eq_true_iff,qE_,KF,WordM.len];constructor
 ·rintro⟨⟨r,e⟩,⟨h1,h2⟩,h3⟩;rw[gI e]at h1 h2 h3;exact⟨r,e,h1,h2,λc hc=>gm (h3 c hc)⟩
 ·rintro⟨r,e,h1,h2,h3⟩;rw[gI e];exact⟨⟨r,e⟩,⟨h1,h2⟩,λc hc=>cm (h3 c hc)⟩
noncomputable def uK(W:Wd)(ts:List Str):Prop:=(∀t∈ts,bZ W t=true/\Sg t/\t.length<=400)/\∀W2,jz W2->(∀t∈ts,bZ W2 t=true)->∀x,bZ W x=true->bZ W2 x=true
theorem Cp{ss:List Str}(h:jz (.few ss)):uK (.few ss) ss:=
 ⟨λt ht=>⟨cm ht,(h.2.2.2 t ht).1,bu (h.2.2.2 t ht).2 (by decide)⟩,λW2 _ k x hx=>k x (gm hx)⟩
theorem DQ{hd:Str}{lo hi:Int}{ms:List Str}{ts:List Str}(T:ka cU (cs hd) lo hi ms (ts.map cs))(h:∀t∈ts,bZ (.make hd lo hi ms) t=true/\Sg t/\t.length<=400):uK (.make hd lo hi ms) ts:=by
 refine⟨h,λW2 ok k x hx=>?_⟩;cases W2 with
 |few ss=>
  refine(T.few (ss:=ss.map cs) (by rw[aq];exact ok.2.1) λy hy=>?_).elim;obtain⟨t,ht,rfl⟩:=qd_.mp hy;exact qd_.mpr ⟨t,gm (k t ht),rfl⟩
 |make hd2 lo2 hi2 ms2=>
  rw[letW_make]at hx ⊢;refine T.make (λy hy=>?_) _ hx;obtain⟨t,ht,rfl⟩:=qd_.mp hy;exact letW_make.mp (k t ht)
noncomputable def cA(c:Nat)(n:Int):Str:=iR ⟨#[c]⟩ n
theorem jD(c:Nat)(n:Int):cs (cA c n)=List.replicate n.toNat c:=by
 show((List.replicate n.toNat [c]).flatten.toArray).toList=_;rw[ja]
 induction n.toNat with
 |zero=>rfl
 |succ k ih=>rw[dg,g6,ih,dg];rfl
theorem pG(c:Nat)(n:Int):(cA c n).length=n.toNat:=by rw[WordM.len,jD,fh]
theorem JV{c:Nat}(h:c∈cs da)(n:Int):Sg (cA c n):=λd hd=>by
 rw[jD]at hd;rw[(List.mem_replicate.mp hd).2];exact h
noncomputable def fM(m:Str):List Nat:=cs ((L2.getS iz m).getD ⟨#[]⟩)
noncomputable def gu:List Str->List Nat
 |[]=>[]
 |m::r=>(fM m).take 7++r.map λm=>(fM m).headD 0
noncomputable def cL(ms:List Str):List Nat:=(cs da).filter λc=>decide (cU c∈ms)
structure uJ (ms:List Str) (G:List Nat):Prop where
 many:7<=G.length
 nd:G.Nodup
 cov:∀m∈ms,∃c∈G,cU c=m
 mine:∀c∈G,cU c∈ms
 sg:∀c∈G,c∈cs da
instance (ms:List Str) (G:List Nat):Decidable (uJ ms G):=
 decidable_of_iff (7<=G.length/\G.Nodup/\(∀m∈ms,∃c∈G,cU c=m)/\(∀c∈G,cU c∈ms)/\∀c∈G,c∈cs da) ⟨λ⟨a,b,c,d,e⟩=>⟨a,b,c,d,e⟩,λ⟨a,b,c,d,e⟩=>⟨a,b,c,d,e⟩⟩
noncomputable def zi(a b c d:Bool):List Str:=(if a then [("figure":Str)] else [])++((if b then [("great":Str)] else [])++((if c then [("other":Str)] else [])++(if d then [("small":Str)] else [])))
theorem sE{x:Str}{l ms:List Str}(h:ms.Sublist (x::l)):∃(a:Bool) (ms':List Str),ms'.Sublist l/\ms=(if a then [x] else [])++ms':=by
 cases h with
 |cons _ h=>exact⟨false,_,h,rfl⟩
 |cons_cons _ h=>exact⟨true,_,h,rfl⟩
theorem Ac{ms:List Str}(h:ms.Sublist MK):∃a b c d,ms=zi a b c d:=by
 obtain⟨a,m1,h1,e1⟩:=sE h;obtain⟨b,m2,h2,e2⟩:=sE h1;obtain⟨c,m3,h3,e3⟩:=sE h2;obtain⟨d,m4,h4,e4⟩:=sE h3;have e5:=List.sublist_nil.mp h4;exact⟨a,b,c,d,by rw[e1,e2,e3,e4,e5];unfold zi;rw[i8]⟩
theorem sF{ms:List Str}(h1:ms.Sublist MK)(h2:ms≠[]):uJ ms (gu ms)/\uJ ms (cL ms)/\(gu ms).length<=10:=by
 obtain⟨a,b,c,d,rfl⟩:=Ac h1;revert h2;cases a<;>cases b<;>cases c<;>cases d<;>intro h2<;>first|exact absurd rfl h2|decide +kernel
noncomputable def pR:Wd->List Str
 |.few ss=>ss
 |.make hd lo hi ms=>((gu ms).map λc=>hd++cA c hi)++(if lo<hi then [hd++cA ((gu ms).headD 0) lo] else [])
noncomputable def kY:Wd->List Str
 |.few ss=>ss
 |.make hd lo hi ms=>(((cL ms).map λc=>hd++cA c (if lo > 1 then lo else 1))++(if lo=0 then [hd] else []))++[hd++cA ((cL ms).headD 0) hi]
theorem lT{G:List Nat}(h:7<=G.length):G.headD 0∈G:=by
 cases G with
 |nil=>simp at h
 |cons c G=>exact ib
theorem sW{hd:Str}{lo hi n:Int}{ms:List Str}{G:List Nat}(S:uJ ms G)(shd:Sg hd)(hl:hd.length<=60){c:Nat}(hc:c∈G)(h0:0<=n)(h1:lo<=n)(h2:n<=hi)(h3:hi<=110):
  bZ (.make hd lo hi ms) (hd++cA c n)=true/\Sg (hd++cA c n)/\(hd++cA c n).length<=400:=by
 refine⟨letW_make.mpr ⟨_,by rw[WordM.app,jD],?_,?_,λd hd=>?_⟩,shd.app (JV (S.sg c hc) n),?_⟩
 ·rw[fh];omega
 ·rw[fh];omega
 ·rw[(List.mem_replicate.mp hd).2];exact S.mine c hc
 ·rw[WordM.len,WordM.app,b8,<-WordM.len,<-WordM.len,pG];omega
theorem rE:∀{W:Wd},jz W->uK W (pR W)
 |.few ss,h=>Cp h
 |.make hd lo hi ms,⟨⟨shd,hl⟩,lo0,lohi,hi1,hi62,b1,b2⟩=>by
  obtain⟨S,_,_⟩:=sF b1 b2;have m1:∀g∈gu ms,hd++cA g hi∈pR (.make hd lo hi ms):=λg hg=>fe _ (qd_.mpr ⟨g,hg,rfl⟩)
  refine DQ ⟨⟨hi.toNat,gu ms,by omega,S.many,S.nd,S.cov,λg hg=>?_⟩,?_,?_⟩ λt ht=>?_
  ·exact qd_.mpr ⟨_,m1 g hg,by rw[WordM.app,jD]⟩
  ·by_cases h:lo<hi
   ·refine⟨List.replicate lo.toNat ((gu ms).headD 0),by rw[fh];omega,qd_.mpr ⟨hd++cA ((gu ms).headD 0) lo,?_,by rw[WordM.app,jD]⟩⟩;show _∈_++(if lo<hi then _ else _);rw[if_pos h];exact de _ ib
   ·exact⟨List.replicate hi.toNat ((gu ms).headD 0),by rw[fh];omega,qd_.mpr ⟨_,m1 _ (lT S.many),by rw[WordM.app,jD]⟩⟩
  ·exact⟨List.replicate hi.toNat ((gu ms).headD 0),by rw[fh];omega,qd_.mpr ⟨_,m1 _ (lT S.many),by rw[WordM.app,jD]⟩⟩
  ·have ht:t∈((gu ms).map λc=>hd++cA c hi)++(if lo<hi then [hd++cA ((gu ms).headD 0) lo] else []):=ht;rcases qr_.mp ht with z|z
   ·obtain⟨c,hc,rfl⟩:=qd_.mp z;exact sW S shd hl hc (by omega) lohi (by omega) hi62
   ·split at z
    ·have:t=hd++cA ((gu ms).headD 0) lo:=by simpa using z
     subst this;exact sW S shd hl (lT S.many) lo0 (by omega) lohi hi62
    ·simp at z
theorem rY:∀{W:Wd},jz W->uK W (kY W)
 |.few ss,h=>Cp h
 |.make hd lo hi ms,⟨⟨shd,hl⟩,lo0,lohi,hi1,hi62,b1,b2⟩=>by
  obtain⟨_,S,_⟩:=sF b1 b2;have m1:∀g∈cL ms,hd++cA g (if lo > 1 then lo else 1)∈kY (.make hd lo hi ms):=λg hg=>fe _ (fe _ (qd_.mpr ⟨g,hg,rfl⟩))
  have m3:hd++cA ((cL ms).headD 0) hi∈kY (.make hd lo hi ms):=de _ ib;refine DQ ⟨⟨(if lo > 1 then lo else 1).toNat,cL ms,by split<;>omega,S.many,S.nd,S.cov,λg hg=>?_⟩,?_,?_⟩ λt ht=>?_
  ·exact qd_.mpr ⟨_,m1 g hg,by rw[WordM.app,jD]⟩
  ·by_cases h:lo=0
   ·refine⟨[],by rw[h];exact jl _,qd_.mpr ⟨hd,?_,by rw[i8]⟩⟩;refine fe _ (de _ ?_);rw[if_pos h];exact ib
   ·exact⟨List.replicate (if lo > 1 then lo else 1).toNat ((cL ms).headD 0),by rw[fh];split<;>omega,qd_.mpr ⟨_,m1 _ (lT S.many),by rw[WordM.app,jD]⟩⟩
  ·exact⟨List.replicate hi.toNat ((cL ms).headD 0),by rw[fh];omega,qd_.mpr ⟨_,m3,by rw[WordM.app,jD]⟩⟩
  ·have ht:t∈(((cL ms).map λc=>hd++cA c (if lo > 1 then lo else 1))++(if lo=0 then [hd] else []))++[hd++cA ((cL ms).headD 0) hi]:=ht;rcases qr_.mp ht with z|z
   ·rcases qr_.mp z with z|z
    ·obtain⟨c,hc,rfl⟩:=qd_.mp z;exact sW S shd hl hc (by split<;>omega) (by split<;>omega) (by split<;>omega) hi62
    ·split at z
     ·rename_i h;have:t=hd:=by simpa using z
      subst this;exact⟨letW_make.mpr ⟨[],by simp,by rw[h];exact jl _,by show(0:Int)<=hi;omega,λc hc=>nomatch hc⟩,shd,by omega⟩
     ·simp at z
   ·have:t=hd++cA ((cL ms).headD 0) hi:=by simpa using z
    subst this;exact sW S shd hl (lT S.many) (by omega) lohi (by omega) hi62
noncomputable def eZ(W W2:Wd):Option Str:=(pR W).find? λt=>!bZ W2 t
theorem Cg{W W2:Wd}(h1:jz W)(h2:jz W2):(eZ W W2).isNone=(kY W).all λt=>bZ W2 t:=by
 rw[fm,ql,eZ,qP1_,qE_];constructor
 ·intro k t ht;refine(rE h1).2 W2 h2 (λt ht=>?_) t ((rY h1).1 t ht).1;have:=k t ht;simpa using this
 ·intro k t ht;have:=(rY h1).2 W2 h2 k t ((rE h1).1 t ht).1;simp[this]
open WordM ShowM
noncomputable def FR:Option Int->Tv
 |none=>nT
 |some i=>iT i
noncomputable def wC:bf:=λas R=>∃lo hi st lo' hi' st':Int,as=[.va (.seq true [iT lo,iT hi,iT st]),.va (.seq true [iT lo',iT hi',iT st'])]/\oO lo' hi' st'/\R (FR ((fH lo hi st).find? λi=>!cS lo' hi' st' i))
theorem OB(h:ai K mg "run_parted" DT)(B:Own mg)(Qs:ae P w K mg base 1 "telling_numbers" ["run"] rQ)(QM:ae P w K mg base 1 "run_has" ["run","number"] xE)   : ae P w K mg base 2 "run_parted" OH wC:=by
 refine h.pg2 ["one","other","number"] (λnd hr=>
   (aI (fJ (m:=3) i4 rfl (bK (aL Qs hr (aD (aC 0) aG))) (eG 2 (by decide) nd rfl (.inl rfl))
    (aJ (aY (eM (cW (aL QM hr (aD (aC 1) (aD (aC 2) aG)))))
     (aJ (aO (aC 2)))
     aX)))
   (aJ (aO gW)))) (λas R q=>?_)
 obtain⟨lo,hi,st,lo',hi',st',rfl,ok,q⟩:=q;refine⟨rfl,lo,hi,st,rfl,?_⟩;generalize fH lo hi st=l at q;refine lU iT (l:=l) (λi ρ=>(∀j x,j<i->l[j]?=some x->cS lo' hi' st' x=true)/\∃s,ρ=[.va (.seq true [iT lo,iT hi,iT st]),.va (.seq true [iT lo',iT hi',iT st']),s]) ⟨λj p h=>absurd h (km _),.no,rfl⟩ ?_ ?_
 ·rintro i x _ N hx ⟨hj,s,rfl⟩ hN;refine⟨lo',hi',st',x,rfl,ok,_,rfl,gr (λe=>?_) (λe=>?_)⟩
  ·have e:cS lo' hi' st' x=false:=by simpa using e
   have:l.find? (λi=>!cS lo' hi' st' i)=some x:=by
    rw[qo];obtain⟨hi,rfl⟩:=qB_.mp hx
    exact⟨by rw[e];rfl,i,hi,rfl,λj hj'=>by
     have:=hj j l[j] hj' (cb (by omega))
     simpa using this⟩
   rw[this]at q;exact q
  ·have e:cS lo' hi' st' x=true:=by simpa using e
   refine hN _ ⟨λj p' hj' ep=>?_,_,rfl⟩;by_cases z:j=i
   ·subst z;rw[hx]at ep;cases ep;exact e
   ·exact hj j p' (by omega) ep
 ·rintro _ ⟨hj,s,rfl⟩;have:l.find? (λi=>!cS lo' hi' st' i)=none:=by
   rw[qP1_];intro p hp;obtain⟨j,hj',rfl⟩:=qG1_.mp hp;simpa using hj j _ hj' (cb hj')
  rw[this]at q;exact q
noncomputable def tX(lo hi st lo' hi' st':Int):Bool:=(fH lo hi st).all λi=>cS lo' hi' st' i
theorem Kh{α:Type}{l:List α}{p:α->Bool}:(l.find? λx=>!p x).isNone=l.all p:=by
 rw[fm,ql,qP1_,qE_];simp
noncomputable def qZ:bf:=λas R=>∃lo hi st lo' hi' st':Int,as=[.va (.seq true [iT lo,iT hi,iT st]),.va (.seq true [iT lo',iT hi',iT st'])]/\oO lo' hi' st'/\R (bT (tX lo hi st lo' hi' st'))
theorem OA(h:ai K mg "run_within" DS)(B:Own mg)(QY:ae P w K mg base 2 "run_parted" OH wC)   : ae P w K mg base 3 "run_within" OH qZ:=by
 refine h.pg2 OH (λnd hr=>
   (aJ (aO (cP (mG).op (aL QY hr (aD (aC 0) (aD (aC 1) aG))) gW)))) (λas R q=>?_)
 obtain⟨lo,hi,st,lo',hi',st',rfl,ok,q⟩:=q;unfold tX at q;rw[<-Kh]at q;refine⟨rfl,lo,hi,st,lo',hi',st',rfl,ok,?_⟩;cases h:(fH lo hi st).find? λi=>!cS lo' hi' st' i with
 |none=>rw[h]at q;exact q
 |some i=>rw[h]at q;exact q
theorem zj:∀m∈MK,cs (Txt.slice ((getS iz m).getD ⟨#[]⟩) none (some (6+1)))=(fM m).take 7/\je (fM m) 0=some ((fM m).headD 0)/\((getS iz m).getD ⟨#[]⟩).length<=100/\getS iz m=some ((getS iz m).getD ⟨#[]⟩):=by decide +kernel
theorem CS{α:Type}(f:α->Nat):∀r:List α,bN (r.map λm=>(⟨#[f m]⟩:Str))=r.map f
 |[]=>rfl
 |m::r=>by
  have ih:=CS f r;show [f m]++bN (r.map λm=>(⟨#[f m]⟩:Str))=_;rw[ih];rfl
noncomputable def xZ:bf:=λas R=>∃W:Wd,as=[.va (bQ W)]/\jz W/\R (.seq false ((pR W).map sT))
theorem D_(h:ai K mg "words_texts" vD)(B:Own mg)(GMOST_FEW:eQ K mg "MOST_FEW" (iT 6))(GSIGNS:mK K w.params mg "SIGNS" iz)  : ae P w K mg base 1 "words_texts" ["words"] xZ:=by
 refine h.pg1 Pe (λnd hr=>
   (aI (aY (bD hr (aH hr (aC 0) aE) aT)
    (aJ (aO (bB (mR mU rfl B.list_ boot_list (aD (aH hr (aC 0) aE) aG)))))
    aX)
   (aI (bC 1 nd (aH hr (aC 0) aE))
   (aI (bC 2 nd (aH hr (aC 0) aE))
   (aI (bC 3 nd (bE cD (fW gD (qC GSIGNS rfl (aH hr (aC 2) aE)) fY (fX (bE cD (mD GMOST_FEW rfl) aE))) (nI PySem.F.slot_str_join PySem.F.type_str_join yD aT (aD (bB (dI (sc:=aV vD) (XN:=Pe) (N:=["mark"]) (fr:=[]) (bK (fW gD (aC 2) (fX aE) fY)) (λ_ _ _ _ _=>(aH hr (qC GSIGNS rfl (aC 0)) aE)))) aG))))
   (aI (BX (i:=4) (sc:=aV vD) (XN:=Pe) (N:=["sign","words","head"]) (own:=1) (fr:=[0,1]) rfl nd rfl (.inl rfl) ⟨rfl,by decide +kernel,by decide +kernel,by decide +kernel,rfl,by decide +kernel,by decide,by decide +kernel⟩ (by decide) (bK (aC 3)) (λ_ _ _ _ _=>(eG 0 (by decide) (show(["sign","words","head"]:List Str).Nodup by decide +kernel) rfl (by first|exact Or.inl rfl|exact Or.inr rfl))) (λ_ _ _ _ _=>lX) (λ_ _ _ _ _=>(bE cD (aC 2) (bE jR (aC 0) (aH hr (aC 1) aE)))))
   (aI (aY (cO kT (aH hr (aC 0) aE) (aH hr (aC 0) aE))
    (aJ (lR (mS 4 (bE cD (aC 1) (bE jR (aH hr (aC 3) aE) (aH hr (aC 0) aE))))))
    aX)
   (aJ (aO (aC 4)))))))))) (λas R q=>?_)
 obtain⟨W,rfl,ok,q⟩:=q;cases W with
 |few ss=>exact⟨rfl,_,rfl,_,rfl,fS (λ_=>⟨_,rfl,_,_,rfl,q⟩) (λh=>absurd rfl h)⟩
 |make hd lo hi ms=>
  obtain⟨⟨shd,hl⟩,lo0,lohi,hi1,hi2,sub,ne⟩:=ok;obtain⟨S,_,s10⟩:=sF sub ne;obtain⟨m0,r,rfl⟩:=List.exists_cons_of_ne_nil ne;have hin:∀m∈m0::r,m∈MK:=λm h=>sub.mem h
  obtain⟨k1,k2,k3,k4⟩:=zj m0 (hin m0 ib);refine⟨rfl,_,rfl,_,rfl,fS (λh=>absurd h (by decide +kernel)) (λ_=>?_)⟩;refine⟨_,rfl,_,rfl,_,ar,m0,_,rfl,k4,?_⟩;have hr4:r.length<=3:=by have:=sub.length_le;simp[MK]at this;omega
  have ecut:iV ((m0::r).map sT) (some 1) none=r.map sT:=by
   unfold iV;rw[HT.sIx_none,show(some (1:Int))=some ((1:Nat):Int) from rfl,HT.sIx_nat,d9,iw,Nat.min_eq_left (by omega),List.drop_one,List.tail_cons];exact mr (by omega)
  refine⟨_,rfl,by omega,rfl,_,rfl,?_⟩;show _/\gP 1 [] (gN 0) zT _ (iV ((m0::r).map sT) (some 1) none) _ _;rw[ecut];have ecat:bN (r.map λm=>(⟨#[(fM m).headD 0]⟩:Str))=r.map λm=>(fM m).headD 0:=CS _ r
  refine⟨by rw[aq];omega,cX sT (λm=>sT ⟨#[(fM m).headD 0]⟩) (λm hm R q=>?_) ⟨r.map λm=>⟨#[(fM m).headD 0]⟩,rfl,by rw[cv];rfl,by rw[ecat,aq];omega,?_⟩⟩
  ·obtain⟨_,j2,j3,j4⟩:=zj m (hin m (ia _ hm));exact⟨m,_,rfl,j4,by omega,_,j2,q⟩
  have sl:(Txt.slice ((getS iz m0).getD ⟨#[]⟩) none (some (6+1))).length<=7:=by rw[WordM.len,k1,g8];omega
  have esg:cs (Txt.slice ((getS iz m0).getD ⟨#[]⟩) none (some (6+1))++⟨(bN (r.map λm=>(⟨#[(fM m).headD 0]⟩:Str))).toArray⟩)=gu (m0::r):=by
   rw[WordM.app,k1];show _++((bN (r.map λm=>(⟨#[(fM m).headD 0]⟩:Str))).toArray).toList=_;rw[ja,ecat];rfl
  refine⟨?_,?_⟩
  ·show _+(Str.length ⟨(bN (r.map λm=>(⟨#[(fM m).headD 0]⟩:Str))).toArray⟩)<=100000;rw[WordM.len (⟨(bN (r.map λm=>(⟨#[(fM m).headD 0]⟩:Str))).toArray⟩:Str)];show _+((bN (r.map λm=>(⟨#[(fM m).headD 0]⟩:Str))).toArray).toList.length<=_;rw[ja,ecat,aq];omega
  generalize (Txt.slice ((getS iz m0).getD ⟨#[]⟩) none (some (6+1))++⟨(bN (r.map λm=>(⟨#[(fM m).headD 0]⟩:Str))).toArray⟩:Str)=G at esg
  let W:Tv:=bQ (.make hd lo hi (m0::r))
  show az.nx _ _;refine e7 (ρ':=[.va W,.va (sT hd),.va (.seq true ((m0::r).map sT)),.va (sT G),.no]) rfl ?_;have gl:G.cps.toList.length<=10:=by
   show(cs G).length<=10;rw[esg];exact s10
  refine⟨by rw[aq];omega,?_⟩;refine cX (λc:Nat=>sT ⟨#[c]⟩) (λc=>sT (hd++cA c hi)) (l:=G.cps.toList) (λc hc R q=>?_) ?_
  ·exact⟨_,rfl,⟨by show 1<=1000;decide,by omega,by omega⟩,by rw[show iR ⟨#[c]⟩ hi=cA c hi from rfl,pG];omega,q⟩
  rw[show G.cps.toList=gu (m0::r) from esg];have T0:(gu (m0::r)).map (λc=>sT (hd++cA c hi))=((gu (m0::r)).map λc=>hd++cA c hi).map sT:=by rw[cv];rfl
  rw[T0];have g0:je (cs G) 0=some ((gu (m0::r)).headD 0):=by
   rw[esg];have:=lT S.many;cases hq:gu (m0::r) with
   |nil=>rw[hq]at this;cases this
   |cons x y=>exact aQ (j:=0) rfl
  show az.nx _ _;refine e7 (ρ':=[.va W,.va (sT hd),.va (.seq true ((m0::r).map sT)),.va (sT G),.own (((gu (m0::r)).map λc=>hd++cA c hi).map sT)]) rfl ?_;have q:R (.seq false (((((gu (m0::r)).map λc=>hd++cA c hi))++(if lo<hi then [hd++cA ((gu (m0::r)).headD 0) lo] else [])).map sT)):=q;refine⟨_,rfl,_,rfl,_,rfl,dQ (λz=>?_) (λz=>?_)⟩
  ·rw[if_pos z,dw]at q;refine⟨⟨_,rfl⟩,by rw[WordM.len];exact bu gl (by decide),_,g0,_,rfl,⟨by show 1<=1000;decide,by omega,by omega⟩,by rw[show iR ⟨#[(gu (m0::r)).headD 0]⟩ lo=cA ((gu (m0::r)).headD 0) lo from rfl,pG];omega,_,rfl,by rw[aq,aq];omega,q⟩
  ·rw[if_neg z,i8]at q;exact q
noncomputable def FS:Option Str->Tv
 |none=>nT
 |some i=>sT i
noncomputable def pA:bf:=λas R=>∃W W2:Wd,as=[.va (bQ W),.va (bQ W2)]/\jz W/\jz W2/\R (FS (eZ W W2))
theorem Ea(h:ai K mg "words_parted" yy)(B:Own mg)(Qm:ae P w K mg base 1 "words_texts" ["words"] xZ)(P4:ae P w K mg base 3 "words_let" O0 iE)   : ae P w K mg base 4 "words_parted" OH pA:=by
 refine h.pg2 ["one","other","text"] (λnd hr=>
   (aI (fJ (m:=3) i4 rfl (bK (aL Qm hr (aD (aC 0) aG))) (eG 2 (by decide) nd rfl (.inl rfl))
    (aJ (aY (eM (cW (aL P4 hr (aD (aC 1) (aD (aC 2) aG)))))
     (aJ (aO (aC 2)))
     aX)))
   (aJ (aO gW)))) (λas R q=>?_)
 obtain⟨W,W2,rfl,ok,ok2,q⟩:=q;refine⟨rfl,W,rfl,ok,?_⟩;have sh:=(rE ok).1;unfold eZ at q;generalize pR W=l at q sh;refine lU sT (l:=l) (λi ρ=>(∀j x,j<i->l[j]?=some x->bZ W2 x=true)/\∃s,ρ=[.va (bQ W),.va (bQ W2),s]) ⟨λj p h=>absurd h (km _),.no,rfl⟩ ?_ ?_
 ·rintro i x _ N hx ⟨hj,s,rfl⟩ hN;have hm:=sh x (i7 hx);refine⟨W2,x,rfl,ok2,hm.2.1,by omega,_,rfl,gr (λe=>?_) (λe=>?_)⟩
  ·have e:bZ W2 x=false:=by simpa using e
   have:l.find? (λi=>!bZ W2 i)=some x:=by
    rw[qo];obtain⟨hi,rfl⟩:=qB_.mp hx
    exact⟨by rw[e];rfl,i,hi,rfl,λj hj'=>by
     have:=hj j l[j] hj' (cb (by omega))
     simpa using this⟩
   rw[this]at q;exact q
  ·have e:bZ W2 x=true:=by simpa using e
   refine hN _ ⟨λj p' hj' ep=>?_,_,rfl⟩;by_cases z:j=i
   ·subst z;rw[hx]at ep;cases ep;exact e
   ·exact hj j p' (by omega) ep
 ·rintro _ ⟨hj,s,rfl⟩;have:l.find? (λi=>!bZ W2 i)=none:=by
   rw[qP1_];intro p hp;obtain⟨j,hj',rfl⟩:=qG1_.mp hp;simpa using hj j _ hj' (cb hj')
  rw[this]at q;exact q
noncomputable def rP:bf:=λas R=>∃W W2:Wd,as=[.va (bQ W),.va (bQ W2)]/\jz W/\jz W2/\R (bT (eZ W W2).isNone)
theorem Eb(h:ai K mg "words_within" yz)(B:Own mg)(P7:ae P w K mg base 4 "words_parted" OH pA)   : ae P w K mg base 5 "words_within" OH rP:=by
 refine h.pg2 OH (λnd hr=>
   (aJ (aO (cP (mG).op (aL P7 hr (aD (aC 0) (aD (aC 1) aG))) gW)))) (λas R q=>?_)
 obtain⟨W,W2,rfl,ok,ok2,q⟩:=q;refine⟨rfl,W,W2,rfl,ok,ok2,?_⟩;cases h:eZ W W2 with
 |none=>rw[h]at q;exact q
 |some i=>rw[h]at q;exact q
variable{n:Nat}
theorem zL{c:Nat}{S:Str}{A B:Prop}(h1:c∈cs S->A)(h2:c∉cs S->B):if (false != p8 ⟨#[c]⟩ S)=true then A else B:=by
 have:(false != p8 ⟨#[c]⟩ S)=decide (c∈cs S):=by unfold p8;rw[StrLaws.found_one];simp
 rw[this];exact dQ h1 h2
theorem kR(xs:List Tv):(false != ((false==false)&&cM xs []))=xs.isEmpty:=by
 cases xs with
 |nil=>simp[cM]
 |cons x xs=>simp[cM]
theorem all_nil(l:List Nat)(ms:List Str):(true&&(true&&true&&l.all λc=>decide (cU c∈ms)))=(l.filterMap λc=>if cU c∈ms then none else some (sT ⟨#[c]⟩)).isEmpty:=by
 induction l with
 |nil=>rfl
 |cons c l ih=>
  rw[jb,i9];by_cases z:cU c∈ms
  ·rw[if_pos z,cm z];simpa using ih
  ·rw[if_neg z,dq z];rfl
noncomputable def tJ:bf:=λas R=>∃c:Nat,as=[.va (sT ⟨#[c]⟩)]/\R (sT (cU c))
theorem FB(h:ai K mg "_law_mark" zf)(B:Own mg)    : ae P w K mg base 1 "_law_mark" ["_law_sign"] tJ:=by
 refine h.pg1 ["_law_sign"] (λnd hr=>
   (aI (aY (cO (gO hr.units) (aC 0) aT rfl)
    (aJ (aO aT))
    aX)
   (aI (aY (cO (gO hr.units) (aC 0) aT rfl)
    (aJ (aO aT))
    aX)
   (aI (aY (cO (gO hr.units) (aC 0) aT rfl)
    (aJ (aO aT))
    aX)
   (aJ (aO aT)))))) (λas R q=>?_)
 obtain⟨c,rfl,q⟩:=q;unfold cU at q;refine⟨rfl,_,rfl,zL (λa=>?_) (λa=>⟨_,rfl,zL (λb=>?_) (λb=>⟨_,rfl,zL (λd=>?_) (λd=>?_)⟩)⟩)⟩
 ·rw[if_pos (show c∈cs oF from a)]at q;exact q
 ·rw[if_neg (show c∉cs oF from a),if_pos (show c∈cs pT from b)]at q;exact q
 ·rw[if_neg (show c∉cs oF from a),if_neg (show c∉cs pT from b),if_pos (show c∈cs tG from d)]at q;exact q
 ·rw[if_neg (show c∉cs oF from a),if_neg (show c∉cs pT from b),if_neg (show c∉cs tG from d)]at q;exact q
theorem FC(h:ai K mg "_law_words_let" zY)(B:Own mg)(P_:ae P w K mg base 1 "_law_mark" ["_law_sign"] tJ)   : ae P w K mg base 2 "_law_words_let" OV iE:=by
 refine h.pg2 ["_law_words","_law_text_here","_law_rest"] (λnd hr=>
   (aI (aY (bD hr (aH hr (aC 0) aE) aT)
    (aJ (aO (cP (gO hr.units).op (aC 1) (aH hr (aC 0) aE) rfl)))
    aX)
   (aI (bC 2 nd (fW gD (aC 1) (fX (bI cJ rfl B.len df (aD (aH hr (aC 0) aE) aG))) fY))
   (aI (aY (dX (fO (eM (cW (nI PySem.F.slot_str_startswith PySem.F.type_str_startswith Cj (aC 1) (aD (aH hr (aC 0) aE) aG)))) (gB (eM (Dj eY eY (aH hr (aC 0) aE) (bI cJ rfl B.len df (aD (aC 2) aG)) (aH hr (aC 0) aE))))))
    (aJ (aO dS))
    aX)
   (aJ (aO (cP (fP hr.units).op (bB (gK (sc:=aV zY) (XN:=["_law_words","_law_text_here","_law_rest"]) (N:=O6) (fr:=[0]) (bK (aC 2)) (λ_ _ _ _ _=>(eK (cO (jP hr.units) (aL P_ hr (aD (aC 0) aG)) (aH hr (aC 1) aE) rfl))) (λ_ _ _ _ _=>(aC 0)))) (bB (cC aG))))))))) (λas R q=>?_)
 obtain⟨W,x,rfl,ok,sx,lx,q⟩:=q;refine⟨rfl,?_⟩;cases W with
 |few ss=>
  refine⟨_,rfl,_,rfl,fS (λ_=>⟨_,rfl,gT,?_⟩) (λh=>absurd rfl h)⟩;rw[gJ];have:(false != decide (x∈ss))=bZ (.few ss) x:=by simp[bZ]
  rw[this];exact q
 |make hd lo hi ms=>
  have hhd:hd.length<=60:=ok.1.2;refine⟨_,rfl,_,rfl,fS (λh=>absurd h (by decide +kernel)) (λ_=>?_)⟩;have q':∀b,bZ (.make hd lo hi ms) x=b->R (bT b):=λb e=>e▸q
  refine⟨_,rfl,by omega,_,rfl,by omega,?_⟩;have hrl:(aZ x hd).length<=1000:=bu (WordM.slice_len ..) lx;refine⟨rfl,_,rfl,_,_,rfl,rfl,_,rfl,?_⟩;refine gr (λh1=>?_) (λh1=>?_)
  ·have h1:jg x hd=false:=by
    have h1:(!(jg x hd))=true:=h1;simpa using h1
   refine bW (q' false ?_);show(jg x hd&&_)=false;rw[h1];rfl
  ·have h1:jg x hd=true:=by
    have h1:(!(jg x hd))=false:=h1;simpa using h1
   refine⟨_,rfl,by show(aZ x hd).length<=100000;omega,_,rfl,dQ (λh2=>⟨_,rfl,_,rfl,gr (λh3=>?_) (λh3=>?_)⟩) (λh2=>⟨false,rfl,bW (q' _ ?_)⟩)⟩
   ·have h3:¬ ((aZ x hd).length:Int)<=hi:=by
     have h3:(!decide (((aZ x hd).length:Int)<=hi))=true:=h3;simpa using h3
    refine q' _ ?_;show(jg x hd&&_)=_;rw[dq h3];simp
   ·have h3:((aZ x hd).length:Int)<=hi:=by
     have h3:(!decide (((aZ x hd).length:Int)<=hi))=false:=h3;simpa using h3
    have h2:lo<=((aZ x hd).length:Int):=h2;refine⟨by rw[aq,<-WordM.len];exact bu hrl (by omega),?_⟩;refine dL (λc=>sT ⟨#[c]⟩) (λc=>if cU c∈ms then none else some (sT ⟨#[c]⟩)) (λc hc R q=>⟨c,rfl,_,rfl,gT,?_⟩) ?_
    ·refine⟨_,rfl,gr (λz=>?_) (λz=>?_)⟩
     ·rw[gJ]at z;rw[if_neg (by simpa using z)]at q;exact q
     ·rw[gJ]at z;rw[if_pos (by simpa using z)]at q;exact q
    ·refine⟨by simp,.inr (.inl rfl),q' _ ?_⟩;show(jg x hd&&_)=_;rw[h1,cm h2,cm h3,kR];exact all_nil (cs (aZ x hd)) ms
   ·have h2:¬ lo<=((aZ x hd).length:Int):=h2;show(jg x hd&&_)=_;rw[dq h2];simp
noncomputable def tl:Nat->Int->Int->Int->Int->Int->Int->Int->Int
 |0,_,_,_,_,many,_,_=>many
 |k+1,n,lo,hi,most,many,power,len=>
  if len<=hi then(if most<=many+power then most else tl k n lo hi most (if lo<=len then many+power else many) (power*n) (len+1)) else many
noncomputable def sR:bf:=λas R=>∃(S:Str) (lo hi most:Int),as=[.va (sT S),.va (iT lo),.va (iT hi),.va (iT most)]/\2<=S.length/\S.length<=1000/\most<10 ^ 90/\R (iT (tl 400 S.length lo hi most 0 1 0))
theorem E3(h:ai K mg "tails_many" yv)(B:Own mg)    : ae P w K mg base 1 "tails_many" O7 sR:=by
 refine h.pg4 ["signs","shortest","longest","most","many","power","length"] (λnd hr=>
   (aI (bC 4 nd aE)
   (aI (bC 5 nd aE)
   (aI (bC 6 nd aE)
   (aI (oX i4 (cO eY (aC 6) (aC 2))
    (aI (aY (cO yj (bE cD (aC 4) (aC 5)) (aC 3))
     (aJ (aO (aC 3)))
     aX)
    (aI (aY (cO yj (aC 6) (aC 1))
     (aJ (bC 4 nd (bE cD (aC 4) (aC 5))))
     aX)
    (aI (bC 5 nd (bE jR (aC 5) (bI cJ rfl B.len df (aD (aC 0) aG))))
    (aJ (bC 6 nd (bE cD (aC 6) aE)))))))
   (aJ (aO (aC 4)))))))) (λas R q=>?_)
 obtain⟨S,lo,hi,most,rfl,s2,s1,hm,q⟩:=q;refine⟨rfl,λM ρ=>∃many power len:Int,ρ=[.va (sT S),.va (iT lo),.va (iT hi),.va (iT most),.va (iT many),.va (iT power),.va (iT len)]/\0<=many/\(2:Int) ^ (400-M)<=power/\1<=M/\M<=400/\R (iT (tl M S.length lo hi most many power len)),⟨400,0,1,0,rfl,by decide,by decide,by decide,by decide,q⟩,?_⟩;rintro M _ ⟨many,power,len,rfl,m0,hp,M1,M4,q⟩;obtain⟨M,rfl⟩:∃M',M=M'+1:=⟨M-1,by omega⟩
 rw[tl]at q;refine⟨_,rfl,dQ (λh1=>?_) (λh1=>?_)⟩
 ·rw[if_pos h1]at q;refine⟨_,rfl,dQ (λh2=>?_) (λh2=>?_)⟩
  ·rw[if_pos h2]at q;exact q
  ·rw[if_neg h2]at q;have pm:power<10 ^ 90:=by omega
   have hM:400-(M+1)<300:=by
    refine qq λz=>?_
    have a:(2:Int) ^ 300<=2 ^ (400-(M+1)):=by exact_mod_cast Nat.pow_le_pow_right (n:=2) (by decide) z
    have b:(10:Int) ^ 90<2 ^ 300:=by decide
    omega
   have p0:0<power:=qp (Int.pow_pos (by decide)) hp;have hp2:(2:Int) ^ (400-M)<=power*(S.length:Nat):=by
    have e:400-M=(400-(M+1))+1:=by omega
    rw[e,Int.pow_succ];exact Int.mul_le_mul hp (by omega) (by decide) (by omega)
   refine⟨_,rfl,dQ (λh3=>?_) (λh3=>?_)⟩
   ·rw[if_pos h3]at q;exact⟨by show S.length<=_;omega,.inr ⟨cI (by omega) (by omega),cI (by omega) (by omega)⟩,M,by omega,_,_,_,rfl,by omega,hp2,by omega,by omega,q⟩
   ·rw[if_neg h3]at q;exact⟨by show S.length<=_;omega,.inr ⟨cI (by omega) (by omega),cI (by omega) (by omega)⟩,M,by omega,_,_,_,rfl,m0,hp2,by omega,by omega,q⟩
 ·rw[if_neg h1]at q;exact q
noncomputable def dJ(ms:List Str):List Str:=ms.map λm=>(getS iz m).getD ⟨#[]⟩
theorem IU{m:Str}(h:m∈MK):getS iz m=some ((getS iz m).getD ⟨#[]⟩):=by
 simp only[MK,qk_,fb,or_false]at h;rcases h with rfl|rfl|rfl|rfl<;>rfl
theorem Kz{m:Str}(h:m∈MK):10<=(cs ((getS iz m).getD ⟨#[]⟩)).length/\(cs ((getS iz m).getD ⟨#[]⟩)).length<=40:=by
 simp only[MK,qk_,fb,or_false]at h;rcases h with rfl|rfl|rfl|rfl<;>decide +kernel
theorem xU:∀{ms:List Str},(∀m∈ms,m∈MK)->10*ms.length<=(bN (dJ ms)).length/\(bN (dJ ms)).length<=40*ms.length
 |[],_=>⟨bp _,bp _⟩
 |m::ms,h=>by
  have ih:=xU λx hx=>h x (ia _ hx)
  have o:=Kz (h m (ib ..));have e:(bN (dJ (m::ms))).length=(cs ((getS iz m).getD ⟨#[]⟩)).length+(bN (dJ ms)).length:=by
   show(bN (_::dJ ms)).length=_;simp[bN]
  rw[e,iw];omega
noncomputable def rR:bf:=λas R=>∃(t:Bool) (ms:List Str),as=[.va (.seq t (ms.map sT))]/\ms.length<=4/\(∀m∈ms,m∈MK)/\R (sT ⟨(bN (dJ ms)).toArray⟩)
theorem E4(h:ai K mg "signs_of" ve)(B:Own mg)(GSIGNS:mK K w.params mg "SIGNS" iz)  : ae P w K mg base 1 "signs_of" ["marks"] rR:=by
 refine h.pg1 ["marks"] (λnd hr=>
   (aJ (aO (nI PySem.F.slot_str_join PySem.F.type_str_join yD aT (aD (bB (dI (sc:=aV ve) (XN:=["marks"]) (N:=["mark"]) (fr:=[]) (bK (aC 0)) (λ_ _ _ _ _=>(qC GSIGNS rfl (aC 0))))) aG))))) (λas R q=>?_)
 obtain⟨t,ms,rfl,l4,hm,q⟩:=q;refine⟨rfl,rfl,by rw[aq];omega,cX sT (λm=>sT ((getS iz m).getD ⟨#[]⟩)) (λm hm' R q=>⟨m,_,rfl,IU (hm m hm'),q⟩) ⟨dJ ms,rfl,?_,?_,q⟩⟩
 ·unfold dJ;rw[cv];rfl
 ·have:=(xU hm).2;omega
noncomputable def zR(lo hi:Int)(ms:List Str)(most:Int):Int:=tl 400 ((bN (dJ ms)).length:Nat) lo hi most 0 1 0
noncomputable def yB:bf:=λas R=>∃(hd:Tv) (lo hi most:Int) (ms:List Str),as=[.va (.seq true [sT "make",hd,iT lo,iT hi,.seq true (ms.map sT)]),.va (iT most)]/\ms≠[]/\ms.length<=4/\(∀m∈ms,m∈MK)/\most<10 ^ 90/\R (iT (zR lo hi ms most))
theorem D9(h:ai K mg "words_many" yw)(B:Own mg)(P5:ae P w K mg base 1 "tails_many" O7 sR)(P6:ae P w K mg base 1 "signs_of" ["marks"] rR)   : ae P w K mg base 2 "words_many" ["words","most"] yB:=by
 refine h.pg2 ["words","most"] (λnd hr=>
   (aI (aY (bD hr (aH hr (aC 0) aE) aT)
    (aJ (aO (bI (lY rfl) rfl B.min boot_min (aD (bI cJ rfl B.len df (aD (aH hr (aC 0) aE) aG)) (aD (aC 1) aG)))))
    aX)
   (aJ (aO (aL P5 hr (aD (aL P6 hr (aD (aH hr (aC 0) aE) aG)) (aD (aH hr (aC 0) aE) (aD (aH hr (aC 0) aE) (aD (aC 1) aG))))))))) (λas R q=>?_)
 obtain⟨hd,lo,hi,most,ms,rfl,n0,l4,hm,h9,q⟩:=q;have sl:=xU hm;have p:0<ms.length:=qX1_.mpr n0;refine⟨rfl,_,rfl,_,rfl,fS (λe=>absurd e (by decide +kernel)) λ_=>⟨_,rfl,true,ms,rfl,l4,hm,_,rfl,_,rfl,⟨(bN (dJ ms)).toArray⟩,lo,hi,most,rfl,?_,?_,h9,q⟩⟩
 ·show 2<=(bN (dJ ms)).length;omega
 ·show(bN (dJ ms)).length<=_;omega
noncomputable def dO(S:List Nat):Nat->Nat->List Nat
 |0,_=>[]
 |n+1,k=>dO S n (k / S.length)++[S.getD (k % S.length) 0]
theorem rM(S:List Nat):∀n k,(dO S n k).length=n
 |0,_=>rfl
 |n+1,k=>by rw[dO,b8,rM S n];rfl
noncomputable def xD:bf:=λas R=>∃(S:Str) (n k:Nat),as=[.va (sT S),.va (iT (n:Nat)),.va (iT (k:Nat))]/\1<=S.length/\S.length<=1000/\n<=1000/\k<=1000/\R (sT ⟨(dO (cs S) n k).toArray⟩)
theorem Du(S:List Nat):∀(i n k:Nat),dO S (i+n) k=dO S i (k / S.length ^ n)++dO S n k
 |i,0,k=>by rw[Nat.add_zero,Nat.pow_zero,Nat.div_one];simp[dO]
 |i,n+1,k=>by rw[<-Nat.add_assoc,dO,Du S i n,dO,fo,qr,Nat.pow_succ,og]
theorem Ec(h:ai K mg "tail_at" y4)(B:Own mg)    : ae P w K mg base 1 "tail_at" Pf xD:=by
 refine h.pg3 ["signs","length","place","tail","turn"] (λnd hr=>
   (aI (bC 3 nd aT)
   (aI (fJ (m:=5) i4 rfl (kF rfl B.range (aD (aC 1) aG)) (eG 4 (by decide) nd rfl (.inl rfl))
    (aI (bC 3 nd (bE cD (aH hr (aC 0) (bE nP (aC 2) (bI cJ rfl B.len df (aD (aC 0) aG)))) (aC 3)))
    (aJ (bC 2 nd (bE xW (aC 2) (bI cJ rfl B.len df (aD (aC 0) aG)))))))
   (aJ (aO (aC 3)))))) (λas R q=>?_)
 obtain⟨S,n,k,rfl,s1,s2,n1,k1,q⟩:=q;refine⟨rfl,(n:Int),rfl,by omega,by omega,?_⟩;have sl:1<=(cs S).length:=by rw[<-WordM.len];exact s1
 refine jA (λi ρ=>∃s:Sl,ρ=[.va (sT S),.va (iT (n:Nat)),.va (iT (k / (cs S).length ^ i:Nat)),.va (sT ⟨(dO (cs S) i k).toArray⟩),s]) ⟨.no,by rw[Nat.pow_zero,Nat.div_one];rfl⟩ ?_ ?_
 ·rintro i T _ N hT ⟨s,rfl⟩ hN;have hi:=(oZ hT).1;have hi:i<n:=by omega
  have hL:S.length=(cs S).length:=WordM.len S;generalize hp:k / (cs S).length ^ i=pl at hN ⊢;have hlt:pl % (cs S).length<(cs S).length:=oj _ (by omega);have hc:je S.cps.toList ((pl:Int) % (S.length:Nat))=some ((cs S).getD (pl % (cs S).length) 0):=by
   have:=aQ (xs:=cs S) (j:=pl % (cs S).length) (v:=(cs S).getD (pl % (cs S).length) 0) (by rw[ji,cb hlt];rfl);rw[hL]
   exact_mod_cast this
  refine⟨by show S.length<=_;omega,(show(0:Int)<(S.length:Nat) by omega),by omega,_,hc,?_,?_⟩
  ·show 1+(dO (cs S) i k).toArray.size<=100000;rw[cg,rM];omega
  ·refine⟨by show S.length<=_;omega,⟨by omega,cI (by omega) (by omega)⟩,hN _ ⟨.va T,?_⟩⟩;have e1:(⟨#[(cs S).getD (pl % (cs S).length) 0]⟩:Str)++⟨(dO (cs S) i k).toArray⟩=⟨(dO (cs S) (i+1) k).toArray⟩:=by
    refine jQ ?_;rw[WordM.app];show [_]++(dO (cs S) i k).toArray.toList=(dO (cs S) (i+1) k).toArray.toList;rw[ja,ja,Nat.add_comm,Du,hp];rfl
   have e2:((pl:Int) / (S.length:Nat))=((k / (cs S).length ^ (i+1):Nat):Int):=by
    rw[hL,Nat.pow_succ,<-qr,hp];push_cast;rfl
   show [Sl.va (sT S),.va (iT (n:Nat)),.va (iT ((pl:Int) / (S.length:Nat))),.va (sT ((⟨#[(cs S).getD (pl % (cs S).length) 0]⟩:Str)++⟨(dO (cs S) i k).toArray⟩)),.va T]=_;rw[e1,e2]
 ·rintro _ ⟨s,rfl⟩;rw[jO];exact q
theorem A2{ms:List Str}(h1:ms.Sublist MK)(h2:ms≠[]):(bN (dJ ms)).Nodup/\10<=(bN (dJ ms)).length/\(bN (dJ ms)).length<=100/\∀c∈bN (dJ ms),c∈cs da:=by
 obtain⟨a,b,c,d,rfl⟩:=Ac h1;revert h2;cases a<;>cases b<;>cases c<;>cases d<;>intro h2<;>first|exact absurd rfl h2|decide +kernel
theorem zC{L m:Int}(n:Nat){lo hi:Int}(h1:1<=lo)(h2:lo<=hi)(hm:2<=m)(hL:m<=L):tl (n+2) L lo hi m 0 1 0=m:=by
 rw[tl,if_pos (by omega),if_neg (by omega),tl,if_pos (by omega),if_pos (by rw[if_neg (by omega)];omega)]
theorem KH{L m:Int}(n:Nat)(hm:2<=m):tl (n+2) L 0 0 m 0 1 0=1:=by
 rw[tl,if_pos (by omega),if_neg (by omega),tl,if_neg (by omega),if_pos (by omega)];rfl
theorem ME{lo hi:Int}{ms:List Str}(h1:ms.Sublist MK)(h2:ms≠[])(l0:0<=lo)(lh:lo<=hi)(hi1:1<=hi):zR lo hi ms 9=9:=by
 obtain⟨_,h10,_⟩:=A2 h1 h2;unfold zR;generalize (bN (dJ ms)).length=L at h10;by_cases z:1<=lo
 ·exact zC 398 z lh (by decide) (by omega)
 ·rw[show lo=0 by omega,show 400=398+2 from rfl,tl,if_pos (by omega),if_neg (by omega),tl,if_pos (by omega),if_pos (by rw[if_pos (by omega)];omega)]
noncomputable def sS:bf:=λas R=>∃(h:Str) (a b:Int) (ms:List Str),as=[.va (bQ (.make h a b ms)),.va (iT 9)]/\jz (.make h a b ms)/\∀L:List Str,L.Nodup->L.length=9->(∀t∈L,t.length<=1000)->R (.seq false (L.map sT))
theorem Ed(h:ai K mg "words_some" vf)(B:Own mg)(Ql:ae P w K mg base 2 "words_many" ["words","most"] yB)(P6:ae P w K mg base 1 "signs_of" ["marks"] rR)(P5:ae P w K mg base 1 "tails_many" O7 sR)(Qo:ae P w K mg base 1 "tail_at" Pf xD)   : ae P w K mg base 3 "words_some" ["words","many"] sS:=by
 refine h.pg2 Pm (λnd hr=>
   (aI (aY (cO kT (aL Ql hr (aD (aC 0) (aD (aC 1) aG))) (aC 1))
    (aJ yW)
    aX)
   (aI (aY (bD hr (aH hr (aC 0) aE) aT)
    (aJ (aO (bB (mR mU rfl B.list_ boot_list (aD (fW gD (aH hr (aC 0) aE) fY (fX (aC 1))) aG)))))
    aX)
   (aI (bC 2 nd (aL P6 hr (aD (aH hr (aC 0) aE) aG)))
   (aI (qH 3 nd (cC aG))
   (aI (bC 4 nd (aH hr (aC 0) aE))
   (aI (oX i4 (cO kT (xS λF=>(bI cJ rfl B.len df (aD (aC 3) aG))) (aC 1))
    (aI (bC 5 nd (aL P5 hr (aD (aC 2) (aD (aC 4) (aD (aC 4) (aD (bE iM (aC 1) (xS λF=>(bI cJ rfl B.len df (aD (aC 3) aG)))) aG))))))
    (aI (lR (Mi 3 (bB (dI (sc:=aV vf) (XN:=Pm) (N:=["place","words","signs","length"]) (fr:=[0,2,4]) (kF rfl B.range (aD (aC 5) aG)) (λ_ _ _ _ _=>(bE cD (aH hr (aC 1) aE) (aL Qo hr (aD (aC 2) (aD (aC 3) (aD (aC 0) aG))))))))))
    (aJ (bC 4 nd (bE cD (aC 4) aE))))))
   (aJ (aO (aC 3)))))))))) (λas R q=>?_)
 obtain⟨h,a,b,ms,rfl,ok,q⟩:=q;obtain⟨⟨hS,hl⟩,a0,ab,b1,b2,sub,ne⟩:=ok;obtain⟨nd',l10,l100,sgc⟩:=A2 sub ne;have m4:ms.length<=4:=sub.length_le;have mk:∀m∈ms,m∈MK:=λm hm=>sub.mem hm
 refine⟨rfl,sT h,a,b,9,ms,rfl,ne,m4,mk,by decide,?_⟩;rw[ME sub ne a0 ab b1];refine⟨_,rfl,dQ (λz=>absurd z (by decide)) (λ_=>?_)⟩;refine⟨_,ar,_,rfl,sN (by decide +kernel) ?_⟩;refine⟨_,aQ (j:=4) rfl,true,ms,rfl,m4,mk,?_⟩;have eS:cs (⟨(bN (dJ ms)).toArray⟩:Str)=bN (dJ ms):=by show(bN (dJ ms)).toArray.toList=_;rw[ja]
 have lS:(⟨(bN (dJ ms)).toArray⟩:Str).length=(bN (dJ ms)).length:=by rw[WordM.len,eS]
 generalize (⟨(bN (dJ ms)).toArray⟩:Str)=S at eS lS;generalize bN (dJ ms)=C at eS lS nd' l10 l100 sgc
 let txt (n k:Nat):Str:=h++⟨(dO (cs S) n k).toArray⟩
 have ct:∀n k,cs (txt n k)=cs h++dO C n k:=λn k=>by
  show cs (h++_)=_;rw[WordM.app];show cs h++(dO (cs S) n k).toArray.toList=_;rw[ja,eS]
 have lt:∀n k,(txt n k).length=h.length+n:=λn k=>by rw[WordM.len,ct,b8,rM,<-WordM.len]
 have dst:∀n m:Nat,1<=n->m<=10->((List.range m).map (txt n)).Nodup:=λn m n1 m10=>by
  unfold List.Nodup;rw[kn];refine(List.nodup_range (n:=m)).imp_of_mem λ{x y} hx hy ne e=>ne ?_
  have hx:=ql1_.mp hx;have hy:=ql1_.mp hy;have e:=congrArg cs e;rw[ct,ct]at e;have e:=nz e;obtain⟨j,rfl⟩:∃j,n=j+1:=⟨n-1,by omega⟩
  rw[dO,dO]at e;have e:=List.append_inj_right' e rfl;have e:=(List.cons.inj e).1;rw[Nat.mod_eq_of_lt (by omega),Nat.mod_eq_of_lt (by omega)]at e;rw[ji,ji,cb (by omega),cb (by omega)]at e;rcases om x y with z|z|z
  ·exact absurd e (qE2_.mp nd' x y (by omega) (by omega) z)
  ·exact z
  ·exact absurd e.symm (qE2_.mp nd' y x (by omega) (by omega) z)
 let W:Tv:=bQ (.make h a b ms)
 let e1 (T0:List Str) (n:Int) (s5:Sl):aW:=[.va W,.va (iT 9),.va (sT S),.own (T0.map sT),.va (iT n),s5]
 let INV (M:Nat) (ρ:aW):Prop:=∃(T0:List Str) (n:Nat) (s5:Sl),ρ=e1 T0 n s5/\((M=3/\T0=[]/\(n:Int)=a)\/(M=2/\a=0/\T0=[txt 0 0]/\n=1)\/(M=1/\T0.Nodup/\T0.length=9/\∀t∈T0,t.length<=1000))
 obtain⟨an,rfl⟩:∃an:Nat,a=an:=⟨a.toNat,by omega⟩
 show az.nx _ _;refine e7 (ρ':=[.va W,.va (iT 9),.va (sT S),.no,.no,.no]) rfl ?_;refine⟨by simp,_,aQ (j:=2) rfl,INV,⟨3,[],an,.no,rfl,.inl ⟨rfl,rfl,rfl⟩⟩,?_⟩;rintro M _ ⟨T0,n,s5,rfl,hI⟩;by_cases hd:T0.length=9
 ·have hI:T0.Nodup/\∀t∈T0,t.length<=1000:=by
   rcases hI with⟨_,rfl,_⟩|⟨_,_,rfl,_⟩|⟨_,a,_,c⟩
   ·simp at hd
   ·simp at hd
   ·exact⟨a,c⟩
  refine⟨_,rfl,_,rfl,dQ (λz=>absurd z ?_) (λ_=>q T0 hI.1 hd hI.2)⟩;rw[aq,hd];decide
 obtain⟨m,hm,m9,hlen,l9,n110,hnext⟩:∃m:Nat,tl 400 (S.length:Nat) n n (9-(T0.length:Int)) 0 1 0=m/\m<=9/\T0.length+m<=9/\T0.length<9/\n<=110/\∀s,∃M',M'<M/\INV M' (e1 (T0++(List.range m).map (txt n)) (n+1:Nat) s):=by
  rcases hI with⟨rfl,rfl,hn⟩|⟨rfl,a0',rfl,rfl⟩|⟨_,_,c,_⟩
  ·by_cases z:an=0
   ·have hn:n=0:=by omega
    subst hn;refine⟨1,KH 398 (by decide),by decide,by decide,by decide,by omega,λs=>⟨2,by decide,[txt 0 0],1,s,rfl,.inr (.inl ⟨rfl,by omega,rfl,rfl⟩)⟩⟩
   ·refine⟨9,zC 398 (by omega) (jl _) (by decide) (by rw[lS];show(9:Int)<=_;omega),by decide,by decide,by decide,by omega,λs=>⟨1,by decide,_,_,s,rfl,.inr (.inr ⟨rfl,dst n 9 (by omega) (by decide),by simp,λt ht=>?_⟩)⟩⟩;obtain⟨k,_,rfl⟩:=qd_.mp (show t∈(List.range 9).map (txt n) from ht);rw[lt];omega
  ·refine⟨8,zC 398 (by decide) (by decide) (show(2:Int)<=9-((1:Nat):Int) by decide) (by rw[lS];show(9:Int)-((1:Nat):Int)<=_;omega),by decide,show 1+8<=9 by decide,show 1<9 by decide,by decide,λs=>⟨1,by decide,_,_,s,rfl,.inr (.inr ⟨rfl,?_,by simp,λt ht=>?_⟩)⟩⟩
   ·rw[List.singleton_append,qD1_];refine⟨λhc=>?_,dst 1 8 (by decide) (by decide)⟩;obtain⟨k,_,e⟩:=qd_.mp hc;have e:=congrArg Str.length e;rw[lt,lt]at e;omega
   ·rcases qr_.mp ht with ht|ht
    ·rw[qX_]at ht;subst ht;rw[lt];omega
    ·obtain⟨k,_,rfl⟩:=qd_.mp ht;rw[lt];omega
  ·exact absurd c hd
 refine⟨_,rfl,_,rfl,dQ (λ_=>?_) (λz=>absurd (show((T0.map sT).length:Int)<9 by rw[aq];omega) z)⟩;refine⟨_,rfl,S,n,n,_,rfl,by omega,by omega,by rw[aq];omega,?_⟩;rw[aq,hm];show az.nx _ _;refine e7 (ρ':=e1 T0 n (.va (iT m))) rfl ?_;refine⟨⟨_,rfl⟩,(m:Int),rfl,by omega,by omega,by rw[jO];omega,?_⟩;refine cX (λk:Nat=>iT (0+(k:Int))) (λk=>sT (txt n k)) (l:=List.range (m:Int).toNat) (λk hk R q=>?_) ?_
 ·have hk:=ql1_.mp hk;rw[show(0:Int)+(k:Int)=((k:Nat):Int) by omega];refine⟨_,aQ (j:=1) rfl,S,n,k,rfl,by omega,by omega,by omega,by omega,?_,q⟩;show h.length+(dO (cs S) n k).toArray.size<=100000;rw[cg,rM];omega
 rw[show(m:Int).toNat=m by omega];refine⟨_,_,rfl,rfl,by simp;omega,?_⟩;obtain⟨M',h1,h2⟩:=hnext (.va (iT m));refine⟨M',h1,e7 (N:=INV M') (ρ':=e1 (T0++(List.range m).map (txt n)) (n+1:Nat) (.va (iT m))) ?_ h2⟩;show [Sl.va W,.va (iT 9),.va (sT S),.own (T0.map sT++(List.range m).map λk=>sT (txt n k)),.va (iT ((n:Int)+1)),.va (iT m)]=[Sl.va W,.va (iT 9),.va (sT S),.own ((T0++(List.range m).map (txt n)).map sT),.va (iT ((n+1:Nat):Int)),.va (iT m)];rw[dw,cv];rfl
variable{n:Nat}
noncomputable def kO:bf:=λ_ _=>False
noncomputable abbrev Fd:=Str×Bool×List Pt
noncomputable def PW:Nat->Pt->Prop
 |0,_=>False
 |_+1,.nothing=>True
 |_+1,.truths bs=>bs=[false]\/bs=[true]\/bs=[false,true]
 |_+1,.numbers lo hi st=>oO lo hi st
 |_+1,.texts w=>jz w
 |n+1,.lists _ _ f=>f.length<=100/\∀p∈f,PW n p
 |n+1,.record _ _ fs=>fs.length<=8/\fE (fs.map (·.1))/\∀x∈fs,(Sg x.1/\x.1.length<=200)/\x.2.2.length<=100/\∀p∈x.2.2,PW n p
 |n+1,.table _ _ w f=>jz w/\AB w=true/\f.length<=100/\∀p∈f,PW n p
noncomputable def bc(fs:List Fd):List Str:=fs.map (·.1)
noncomputable def dP(fs:List Fd):List Str:=(fs.filter λx=>x.2.1).map (·.1)
noncomputable def di(fs:List Fd)(n:Str):List Pt:=((fs.find? λx=>decide (x.1=n)).map (·.2.2)).getD []
noncomputable def kW:Pt->Bool
 |.table ..=>true
 |_=>false
noncomputable def e_(a b a' b':Int):Bool:=decide (a'<=a)&&decide (b<=b')
noncomputable def o5:Pt->Pt->Bool
 |.nothing,.nothing=>true
 |.truths bs,.truths cs=>bs.all λb=>decide (b∈cs)
 |.numbers lo hi st,.numbers lo' hi' st'=>tX lo hi st lo' hi' st'
 |.texts w,.texts w'=>(eZ w w').isNone
 |.lists a b _,.lists a' b' _=>e_ a b a' b'
 |.record a b fs,.record a' b' gs=>e_ a b a' b'&&(((bc fs).all λn=>decide (n∈bc gs))&&(dP gs).all λn=>decide (n∈dP fs))
 |.record a b fs,.table a' b' w _=>e_ a b a' b'&&(bc fs).all (bZ w)
 |.table a b w _,.table a' b' w' _=>e_ a b a' b'&&(eZ w w').isNone
 |_,_=>false
noncomputable def oy(n:Str):Tv:=.seq true [sT "field",sT n]
noncomputable def gZ:Pt->Pt->List (Tv×List Pt×List Pt)
 |.lists _ _ f,.lists _ _ g=>[(.seq true [sT "items"],f,g)]
 |.table _ _ _ f,.table _ _ _ g=>[(.seq true [sT "values"],f,g)]
 |.record _ _ fs,.record _ _ gs=>((bc fs).filter λn=>decide (n∈bc gs)).map λn=>(oy n,di fs n,di gs n)
 |.record _ _ fs,.table _ _ _ g=>(bc fs).map λn=>(oy n,di fs n,g)
 |.table _ _ _ f,.record _ _ gs=>(bc gs).map λn=>(oy n,f,di gs n)
 |_,_=>[]
noncomputable def lF(x:Tv×List Pt×List Pt):Tv:=.seq true [x.1,bJ x.2.1,bJ x.2.2]
noncomputable def ff:Nat->List Pt->List Pt->Bool
 |0,f,_=>f.all λ_=>false
 |n+1,f,g=>f.all λp=>match g.find? λq=>decide (bA q=bA p) with
  |none=>false
  |some q=>o5 p q&&(gZ p q).all λx=>ff n x.2.1 x.2.2
noncomputable def lr(n:Nat)(p q:Pt):Bool:=o5 p q&&(gZ p q).all λx=>ff n x.2.1 x.2.2
noncomputable def k_(n:Nat)(p:Pt):Option Pt->Bool
 |none=>false
 |some q=>lr n p q
theorem rZ(n:Nat)(f g:List Pt):ff (n+1) f g=f.all λp=>k_ n p (g.find? λq=>decide (bA q=bA p)):=by
 rw[ff];congr 1
theorem kN{α:Type}{p:α->Bool}{e:α->Tv}:∀l:List α,(l.filterMap λx=>if p x=true then some (e x) else none)=(l.filter p).map e
 |[]=>rfl
 |x::l=>by
  rw[i9,ny,kN l];cases p x<;>simp
theorem tR{α:Type}{p:α->Bool}{e:α->Tv}(l:List α):(l.filterMap λx=>if p x=true then none else some (e x))=(l.filter λx=>!p x).map e:=by
 rw[<-kN];congr 1;funext x;cases p x<;>rfl
noncomputable def pJ:bf:=λas R=>∃(a b:Int) (fs:List Fd),as=[.va (aU (.record a b fs))]/\fs.length<=8/\R (.seq false ((bc fs).map sT))
theorem Ei(h:ai K mg "names_of" vh)(B:Own mg)    : ae P w K mg base 1 "names_of" OM pJ:=by
 refine h.pg1 OM (λnd hr=>
   (aJ (aO (bB (dI (sc:=aV vh) (XN:=OM) (N:=["field"]) (fr:=[]) (bK (aH hr (aC 0) aE)) (λ_ _ _ _ _=>(aH hr (aC 0) aE))))))) (λas R q=>?_)
 obtain⟨a,b,fs,rfl,fl,q⟩:=q;rw[bS];refine⟨rfl,_,aQ (j:=3) rfl,by rw[aq];omega,cX bR (λx=>sT x.1) (λx hx R q=>⟨_,ar,q⟩) ?_⟩;rw[show fs.map (λx=>sT x.1)=(bc fs).map sT by unfold bc;rw[cv];rfl];exact q
noncomputable def eP:Pt->List Str
 |.record _ _ fs=>dP fs
 |_=>[]
noncomputable def BM(n:Nat):bf:=λas R=>∃p:Pt,as=[.va (aU p)]/\PW (n+1) p/\bA p=5/\R (.seq false ((eP p).map sT))
theorem Eh(h:ai K mg "musts_of" vC)(B:Own mg)    : ae P w K mg base 1 "musts_of" OI (BM n):=by
 refine h.pg1 OI (λnd hr=>
   (aJ (aO (mV (bD hr (aH hr (aC 0) aE) aT) (bB (gK (sc:=aV vC) (XN:=OI) (N:=["field"]) (fr:=[]) (bK (aH hr (aC 0) aE)) (λ_ _ _ _ _=>(eK (cW (aH hr (aC 0) aE)))) (λ_ _ _ _ _=>(aH hr (aC 0) aE)))) (bB (cC aG)))))) (λas R q=>?_)
 obtain⟨p,rfl,hp,k,q⟩:=q;cases p<;>first|(simp[bA]at k;done)|skip
 ·rename_i a b fs;have fl:fs.length<=8:=hp.1;rw[bS];refine⟨rfl,_,ar,_,rfl,sY ⟨_,aQ (j:=3) rfl,by rw[aq];omega,dL bR (λx=>if x.2.1=true then some (sT x.1) else none) (λx hx R q=>⟨_,aQ (j:=1) rfl,_,rfl,gr (λz=>⟨_,ar,?_⟩) (λz=>?_)⟩) ?_⟩⟩
  ·rw[if_pos z]at q;exact q
  ·rw[if_neg (by rw[z];exact b9)]at q;exact q
  ·have e:(fs.filterMap λx=>if x.2.1=true then some (sT x.1) else none)=(dP fs).map sT:=by
    unfold dP;rw[kN,cv];rfl
   rw[e];exact q
 ·rename_i a b w f;rw[cQ];exact⟨rfl,_,ar,_,rfl,sN (by decide +kernel) ⟨by simp,q⟩⟩
noncomputable def kZ:Pt->Pt->List Str
 |.table _ _ w _,.table _ _ w' _=>match eZ w w' with
  |none=>[]
  |some t=>[t]
 |.record _ _ fs,.table _ _ w _=>(bc fs).filter λn=>!bZ w n
 |.record _ _ fs,.record _ _ gs=>(bc fs).filter λn=>!decide (n∈bc gs)
 |_,_=>[]
noncomputable def Cn(n:Nat):bf:=λas R=>∃p q:Pt,as=[.va (aU p),.va (aU q)]/\PW (n+1) p/\PW (n+1) q/\bA p=5/\bA q=5/\∀L:List Str,L.length<=10->((kW p=true->kW q=false->L≠[])/\((kW p=false\/kW q=true)->L=kZ p q))->R (.seq false (L.map sT))
theorem Ej(h:ai K mg "strange_names" qP)(B:Own mg)(P7:ae P w K mg base 4 "words_parted" OH pA)(PU:ae P w K mg base 1 "names_of" OM pJ)(P4:ae P w K mg base 3 "words_let" O0 iE)(Qp:ae P w K mg base 3 "words_some" ["words","many"] sS)(GMOST_FIELDS:eQ K mg "MOST_FIELDS" (iT 8))  : ae P w K mg base 5 "strange_names" OH (Cn n):=by
 refine h.pg2 Pg (λnd hr=>
   (aI (aY (dX (jS (bD hr (aH hr (aC 0) aE) aT) (kK (bD hr (aH hr (aC 1) aE) aT))))
    (aI (bC 2 nd (aL P7 hr (aD (aH hr (aC 0) aE) (aD (aH hr (aC 1) aE) aG))))
    (aJ (aO (mV (cO mG (aC 2) gW) (bB (cC aG)) (bB (cC (aD (aC 2) aG)))))))
    aX)
   (aI (aY (bD hr (aH hr (aC 1) aE) aT)
    (aJ (aO (bB (gK (sc:=aV qP) (XN:=Pg) (N:=["name","other"]) (fr:=[1]) (bK (aL PU hr (aD (aC 0) aG))) (λ_ _ _ _ _=>(eK (eM (cW (aL P4 hr (aD (aH hr (aC 1) aE) (aD (aC 0) aG))))))) (λ_ _ _ _ _=>(aC 0))))))
    aX)
   (aI (bC 3 nd (mV (bD hr (aH hr (aC 0) aE) aT) (aL Qp hr (aD (aH hr (aC 0) aE) (aD (bE cD (mD GMOST_FIELDS rfl) aE) aG))) (aL PU hr (aD (aC 0) aG))))
   (aJ (aO (bB (gK (sc:=aV qP) (XN:=Pg) (N:=["name","other"]) (fr:=[1]) (bK (aC 3)) (λ_ _ _ _ _=>(eK (cO (jP hr.units) (aC 0) (aL PU hr (aD (aC 1) aG)) rfl))) (λ_ _ _ _ _=>(aC 0)))))))))) (λas R q=>?_)
 obtain⟨p,q',rfl,hp,hq,kp,kq,q⟩:=q;cases p<;>first|(simp[bA]at kp;done)|skip
 all_goals (cases q'<;>first|(simp[bA]at kq;done)|skip)
 ·rename_i a b fs a' b' gs;rw[bS,bS];refine⟨rfl,_,ar,_,rfl,sN (by decide +kernel) (bG ?_)⟩;have fl:(bc fs).length<=8:=by unfold bc;rw[aq];exact hp.1
  refine⟨_,ar,_,rfl,sN (by decide +kernel) ⟨_,ar,_,rfl,sN (by decide +kernel) ⟨a,b,fs,by rw[bS],hp.1,?_⟩⟩⟩;refine⟨by rw[aq];omega,dL sT (λn=>if decide (n∈bc gs)=true then none else some (sT n)) (λx hx R q=>⟨a',b',gs,by rw[bS],hq.1,gT,_,rfl,?_⟩) ?_⟩
  ·rw[gJ];cases z:decide (x∈bc gs) with
   |true=>rw[if_pos z]at q;exact bG q
   |false=>rw[if_neg (by rw[z];exact b9)]at q;exact bW q
  ·rw[tR];exact q ((bc fs).filter λn=>!decide (n∈bc gs)) (bu (fk _ _) (by omega)) ⟨λz=>(by cases z),λ_=>rfl⟩
 ·rename_i a b fs a' b' w g;rw[bS,cQ];have fl:(bc fs).length<=8:=by unfold bc;rw[aq];exact hp.1
  refine⟨rfl,_,ar,_,rfl,sN (by decide +kernel) (bG ?_)⟩;refine⟨_,ar,_,rfl,sY ⟨a,b,fs,by rw[bS],hp.1,by rw[aq];omega,dL sT (λn=>if bZ w n=true then none else some (sT n)) (λx hx R q=>?_) ?_⟩⟩
  ·obtain⟨y,hy,rfl⟩:=qd_.mp hx;refine⟨_,aQ (j:=3) rfl,w,y.1,rfl,hq.1,(hp.2.2 y hy).1.1,bu (hp.2.2 y hy).1.2 (by decide),_,rfl,?_⟩;cases z:bZ w y.1 with
   |true=>rw[if_pos z]at q;exact bG q
   |false=>rw[if_neg (by rw[z];exact b9)]at q;exact bW q
  ·rw[tR];exact q ((bc fs).filter λn=>!bZ w n) (bu (fk _ _) (by omega)) ⟨λz=>(by cases z),λ_=>rfl⟩
 ·rename_i a b w f a' b' gs;rw[bS,cQ];refine⟨rfl,_,ar,_,rfl,sY ⟨_,ar,_,rfl,sN (by decide +kernel) ?_⟩⟩;cases w with
  |few ts=>exact absurd hp.2.1 (by simp[AB])
  |make hd lo hi ms=>
  have gl:(bc gs).length<=8:=by unfold bc;rw[aq];exact hq.1
  refine⟨_,ar,_,rfl,sN (by decide +kernel) ⟨_,ar,_,rfl,sY ⟨_,aQ (j:=3) rfl,hd,lo,hi,ms,rfl,hp.1,λL nL l9 tL=>?_⟩⟩⟩;refine⟨by rw[aq];omega,dL sT (λn=>if decide (n∈bc gs)=true then none else some (sT n)) (λx hx R q=>⟨a',b',gs,by rw[bS],hq.1,gT,_,rfl,?_⟩) ?_⟩
  ·rw[gJ];cases z:decide (x∈bc gs) with
   |true=>rw[if_pos z]at q;exact bG q
   |false=>rw[if_neg (by rw[z];exact b9)]at q;exact bW q
  ·rw[tR];refine q (L.filter λn=>!decide (n∈bc gs)) (bu (fk _ _) (by omega)) ⟨λ_ _ e=>?_,λz=>?_⟩
   ·have:∀x∈L,x∈bc gs:=λx hx=>by
     have:=List.filter_eq_nil_iff.mp e x hx;simpa using this
    have:=ShowM.nodup_le nL this;omega
   ·rcases z with z|z<;>cases z
 ·rename_i a b w f a' b' w' g;rw[cQ,cQ];refine⟨rfl,_,ar,_,rfl,sY ⟨_,ar,_,rfl,sY ?_⟩⟩;refine⟨_,aQ (j:=3) rfl,_,aQ (j:=3) rfl,w,w',rfl,hp.1,hq.1,?_⟩;cases e:eZ w w' with
  |none=>exact⟨_,rfl,bW ⟨by simp,q [] (by simp) ⟨λ_ z=>(by cases z),λ_=>by show []=(match eZ w w' with|none=>[]|some t=>[t]);rw[e]⟩⟩⟩
  |some t=>exact⟨_,rfl,bG ⟨by simp,q [t] (by simp) ⟨λ_ z=>(by cases z),λ_=>by show [t]=(match eZ w w' with|none=>[]|some t=>[t]);rw[e]⟩⟩⟩
noncomputable def Cm(n:Nat):bf:=λas R=>∃p q:Pt,as=[.va (aU p),.va (aU q)]/\PW (n+1) p/\PW (n+1) q/\bA p=5/\bA q=5/\R (.seq false (((eP q).filter λn=>!decide (n∈eP p)).map sT))
theorem Bu{n:Nat}{p:Pt}(h:PW (n+1) p):(eP p).length<=8:=by
 cases p<;>first|exact d8 _|skip;rename_i a b fs;show(dP fs).length<=8;unfold dP;rw[aq];exact bu (fk _ _) h.1
theorem Ek(h:ai K mg "lacking_names" vB)(B:Own mg)(QD:ae P w K mg base 1 "musts_of" OI (BM n))   : ae P w K mg base 2 "lacking_names" OH (Cm n):=by
 refine h.pg2 OH (λnd hr=>
   (aJ (aO (bB (gK (sc:=aV vB) (XN:=OH) (N:=["name","one"]) (fr:=[0]) (bK (aL QD hr (aD (aC 1) aG))) (λ_ _ _ _ _=>(eK (cO (jP hr.units) (aC 0) (aL QD hr (aD (aC 1) aG)) rfl))) (λ_ _ _ _ _=>(aC 0))))))) (λas R q=>?_)
 obtain⟨p,q',rfl,hp,hq,kp,kq,q⟩:=q;have ml:=Bu hq;refine⟨rfl,q',rfl,hq,kq,by rw[aq];omega,dL sT (λn=>if decide (n∈eP p)=true then none else some (sT n)) (λx hx R q=>⟨p,rfl,hp,kp,gT,_,rfl,?_⟩) ?_⟩
 ·rw[gJ];cases z:decide (x∈eP p) with
  |true=>rw[if_pos z]at q;exact bG q
  |false=>rw[if_neg (by rw[z];exact b9)]at q;exact bW q
 ·rw[tR];exact q
variable{n:Nat}
noncomputable def jL:bf:=λas R=>∃(a b a' b':Int) (w w':Tv) (r r':List Tv),as=[.va (.seq true (w::iT a::iT b::r)),.va (.seq true (w'::iT a'::iT b'::r'))]/\R (bT (decide (a'<=a)&&decide (b<=b')))
theorem El(h:ai K mg "bounds_within" y9)(B:Own mg)    : ae P w K mg base 1 "bounds_within" OH jL:=by
 refine h.pg2 OH (λnd hr=>
   (aJ (aO (fL (cP (eY).op (aH hr (aC 1) aE) (aH hr (aC 0) aE)) (gC (cP (eY).op (aH hr (aC 0) aE) (aH hr (aC 1) aE))))))) (λas R q=>?_)
 obtain⟨a,b,a',b',w,w',r,r',rfl,q⟩:=q;refine⟨rfl,_,aQ (j:=1) rfl,_,aQ (j:=1) rfl,_,rfl,dQ (λz=>?_) (λz=>?_)⟩
 ·rw[cm z,du]at q;exact⟨_,aQ (j:=2) rfl,_,aQ (j:=2) rfl,q⟩
 ·rw[dq z,fw]at q;exact q
theorem oW{b:Bool}{bs:List Bool}:qX (bT b) (bs.map bT):=⟨trivial,λU hU=>by
 obtain⟨c,_,rfl⟩:=qd_.mp hU
 trivial⟩
theorem Al{b:Bool}{cs:List Bool}:(false != (cs.map bT).any λk=>L2.eqT k (bT b))=decide (b∈cs):=by
 induction cs with
 |nil=>rfl
 |cons c cs ih=>
  rw[d9,ie];cases h:(cs.map bT).any λk=>L2.eqT k (bT b) with
  |true=>
   rw[h]at ih;have:b∈cs:=by simpa using ih.symm
   simp[this]
  |false=>
   rw[h]at ih;have:b∉cs:=by simpa using ih.symm
   cases b<;>cases c<;>simp[this,L2.eqT,dr]
noncomputable def C_(n:Nat):bf:=λas R=>∃p q:Pt,as=[.va (aU p),.va (aU q)]/\PW (n+1) p/\PW (n+1) q/\bA q=bA p/\R (bT (o5 p q))
theorem rX(a b:List Str):((a.map sT++b.map sT).isEmpty)=(a.isEmpty&&b.isEmpty):=by cases a<;>cases b<;>rfl
theorem DH{p:Str->Bool}(l:List Str):(l.filter λn=>!p n).isEmpty=l.all p:=by
 induction l with
 |nil=>rfl
 |cons x l ih=>rw[ny,jb];cases h:p x<;>simp[h,ih]
theorem LY{p q:Pt}(hp:bA p=5)(hq:bA q=5):o5 p q=(match p,q with
  |.record a b _,.record a' b' _=>e_ a b a' b'&&((kZ p q).isEmpty&&((eP q).filter λn=>!decide (n∈eP p)).isEmpty)
  |.record a b _,.table a' b' _ _=>e_ a b a' b'&&((kZ p q).isEmpty&&((eP q).filter λn=>!decide (n∈eP p)).isEmpty)
  |.table a b _ _,.table a' b' _ _=>e_ a b a' b'&&((kZ p q).isEmpty&&((eP q).filter λn=>!decide (n∈eP p)).isEmpty)
  |_,_=>false):=by
 cases p<;>first|(simp[bA]at hp;done)|skip
 all_goals (cases q<;>first|(simp[bA]at hq;done)|skip)
 ·simp only[o5,kZ,eP,DH];rfl
 ·simp only[o5,kZ,eP,DH];simp
 ·rfl
 ·rename_i a b w f a' b' w' g;simp only[o5,kZ,eP];cases eZ w w'<;>simp
theorem Em(h:ai K mg "shell_within" vA)(B:Own mg)(Q0:ae P w K mg base 3 "run_within" OH qZ)(Qn:ae P w K mg base 5 "words_within" OH rP)(Qe:ae P w K mg base 1 "bounds_within" OH jL)(QI:ae P w K mg base 5 "strange_names" OH (Cn n))(QJ:ae P w K mg base 2 "lacking_names" OH (Cm n))   : ae P w K mg base 6 "shell_within" OH (C_ n):=by
 refine h.pg2 OH (λnd hr=>
   (aI (aY (bD hr (aH hr (aC 0) aE) aT)
    (aJ (aO (bI (pV rfl) rfl B.all boot_all (aD (bB (dI (sc:=aV vA) (XN:=OH) (N:=["truth","other"]) (fr:=[1]) (bK (aH hr (aC 0) aE)) (λ_ _ _ _ _=>(cP (gO hr.units).op (aC 0) (aH hr (aC 1) aE) rfl)))) aG))))
    aX)
   (aI (aY (bD hr (aH hr (aC 0) aE) aT)
    (aJ (aO (aL Q0 hr (aD (fW gD (aC 0) (fX aE) fY) (aD (fW gD (aC 1) (fX aE) fY) aG)))))
    aX)
   (aI (aY (bD hr (aH hr (aC 0) aE) aT)
    (aJ (aO (aL Qn hr (aD (aH hr (aC 0) aE) (aD (aH hr (aC 1) aE) aG)))))
    aX)
   (aI (aY (bD hr (aH hr (aC 0) aE) aT)
    (aJ (aO (aL Qe hr (aD (aC 0) (aD (aC 1) aG)))))
    aX)
   (aI (aY (bD hr (aH hr (aC 0) aE) aT)
    (aJ (aO dS))
    aX)
   (aJ (aO (fL (aL Qe hr (aD (aC 0) (aD (aC 1) aG))) (gC (cP (fP hr.units).op (bE cD (aL QI hr (aD (aC 0) (aD (aC 1) aG))) (aL QJ hr (aD (aC 0) (aD (aC 1) aG)))) (bB (cC aG))))))))))))) (λas R q=>?_)
 obtain⟨p,q',rfl,hp,hq,k,q⟩:=q;by_cases k5:bA p=5
 ·have k5':bA q'=5:=k.trans k5;rw[LY k5 k5']at q;obtain⟨w,a,b,r,w',a',b',r',ep,eq,hw,h1,h2⟩:∃(w:Str) (a b:Int) (r:List Tv) (w':Str) (a' b':Int) (r':List Tv),aU p=.seq true (sT w::iT a::iT b::r)/\aU q'=.seq true (sT w'::iT a'::iT b'::r')/\(w="record"\/w="table")/\(e_ a b a' b'=false->R (bT false))/\(e_ a b a' b'=true->∀L:List Str,((kW p=true->kW q'=false->L≠[])/\((kW p=false\/kW q'=true)->L=kZ p q'))->R (bT ((L.map sT++((eP q').filter λn=>!decide (n∈eP p)).map sT).isEmpty))):=by
   cases p<;>first|(simp[bA]at k5;done)|skip
   all_goals (cases q'<;>first|(simp[bA]at k5';done)|skip)
   ·refine⟨_,_,_,_,_,_,_,_,bS ..,bS ..,.inl rfl,λz=>?_,λz L hL=>?_⟩
    ·simpa[z]using q
    ·rw[rX,hL.2 (.inl rfl)];simpa[z]using q
   ·refine⟨_,_,_,_,_,_,_,_,bS ..,cQ ..,.inl rfl,λz=>?_,λz L hL=>?_⟩
    ·simpa[z]using q
    ·rw[rX,hL.2 (.inl rfl)];simpa[z]using q
   ·refine⟨_,_,_,_,_,_,_,_,cQ ..,bS ..,.inr rfl,λz=>q,λz L hL=>?_⟩;have:=hL.1 rfl rfl;rw[rX];cases L with
    |nil=>exact absurd rfl this
    |cons x l=>exact q
   ·refine⟨_,_,_,_,_,_,_,_,cQ ..,cQ ..,.inr rfl,λz=>?_,λz L hL=>?_⟩
    ·simpa[z]using q
    ·rw[rX,hL.2 (.inr rfl)];simpa[z]using q
  have n1:w≠"truths":=by rcases hw with rfl|rfl<;>decide +kernel
  have n2:w≠"numbers":=by rcases hw with rfl|rfl<;>decide +kernel
  have n3:w≠"texts":=by rcases hw with rfl|rfl<;>decide +kernel
  have n4:w≠"lists":=by rcases hw with rfl|rfl<;>decide +kernel
  have n5:w≠"nothing":=by rcases hw with rfl|rfl<;>decide +kernel
  have ea:[Ar.va (.seq true (sT w::iT a::iT b::r)),.va (.seq true (sT w'::iT a'::iT b'::r'))]=[.va (aU p),.va (aU q')]:=by rw[ep,eq]
  have ml:=Bu hq;rw[ep,eq];refine⟨rfl,_,ar,_,rfl,sN n1 ⟨_,ar,_,rfl,sN n2 ⟨_,ar,_,rfl,sN n3 ⟨_,ar,_,rfl,sN n4 ⟨_,ar,_,rfl,sN n5 ⟨a,b,a',b',_,_,_,_,rfl,_,rfl,?_⟩⟩⟩⟩⟩⟩;show if e_ a b a' b'=true then _ else _
  cases z:e_ a b a' b' with
  |false=>exact bG (h1 z)
  |true=>
   refine bW ⟨p,q',ea,hp,hq,k5,k5',λL lL hL=>⟨p,q',ea,hp,hq,k5,k5',?_,?_⟩⟩
   ·rw[aq,aq];have:=fk (λn=>!decide (n∈eP p)) (eP q');omega
   ·refine⟨by simp,.inr (.inl rfl),?_⟩;show R (bT (false != ((false==false)&&cM _ [])));rw[kR];exact h2 z L hL
 ·cases p<;>cases q'<;>first|(simp[bA]at k;done)|exact absurd rfl k5|skip
  ·rw[oQ];exact⟨rfl,_,ar,_,rfl,sN (by decide +kernel) ⟨_,ar,_,rfl,sN (by decide +kernel) ⟨_,ar,_,rfl,sN (by decide +kernel) ⟨_,ar,_,rfl,sN (by decide +kernel) ⟨_,ar,_,rfl,sY q⟩⟩⟩⟩⟩
  ·rename_i bs cs;rw[jI,jI];have bl:bs.length<=2:=by rcases hp with rfl|rfl|rfl<;>simp
   refine⟨rfl,_,ar,_,rfl,sY ⟨_,aQ (j:=1) rfl,by rw[aq];omega,cX bT (λb=>bT (decide (b∈cs))) (λb hb R q=>⟨_,aQ (j:=1) rfl,oW,?_⟩) ⟨bs.map λb=>decide (b∈cs),by rw[cv];rfl,?_⟩⟩⟩
   ·rw[Al];exact q
   ·rw[jx];exact q
  ·rename_i lo hi st lo' hi' st';rw[iG,iG];exact⟨rfl,_,ar,_,rfl,sN (by decide +kernel) ⟨_,ar,_,rfl,sY ⟨_,rfl,_,rfl,lo,hi,st,lo',hi',st',rfl,hq,q⟩⟩⟩
  ·rename_i w w';rw[jJ,jJ];exact⟨rfl,_,ar,_,rfl,sN (by decide +kernel) ⟨_,ar,_,rfl,sN (by decide +kernel) ⟨_,ar,_,rfl,sY ⟨_,aQ (j:=1) rfl,_,aQ (j:=1) rfl,w,w',rfl,hp,hq,q⟩⟩⟩⟩
  ·rename_i a b f a' b' f';rw[fV,fV];exact⟨rfl,_,ar,_,rfl,sN (by decide +kernel) ⟨_,ar,_,rfl,sN (by decide +kernel) ⟨_,ar,_,rfl,sN (by decide +kernel) ⟨_,ar,_,rfl,sY ⟨a,b,a',b',_,_,_,_,rfl,q⟩⟩⟩⟩⟩
variable{n:Nat}
noncomputable def sJ:bf:=λas R=>(∃(a b:Int) (w:Wd) (f:List Pt) (x:Str),as=[.va (aU (.table a b w f)),.va (sT x)]/\R (bJ f))\/∃(a b:Int) (fs:List Fd) (x:Str),as=[.va (aU (.record a b fs)),.va (sT x)]/\fs.length<=8/\x∈bc fs/\R (bJ (di fs x))
theorem En(h:ai K mg "form_behind" vm)(B:Own mg)    : ae P w K mg base 1 "form_behind" OW sJ:=by
 refine h.pg2 OW (λnd hr=>
   (aI (aY (bD hr (aH hr (aC 0) aE) aT)
    (aJ (aO (aH hr (aC 0) aE)))
    aX)
   (aJ (aO (aH hr (bB (gK (sc:=aV vm) (XN:=OW) (N:=["field","name"]) (fr:=[1]) (bK (aH hr (aC 0) aE)) (λ_ _ _ _ _=>(eK (bD hr (aH hr (aC 0) aE) (aC 1)))) (λ_ _ _ _ _=>(aH hr (aC 0) aE)))) aE))))) (λas R q=>?_)
 rcases q with⟨a,b,w,f,x,rfl,q⟩|⟨a,b,fs,x,rfl,fl,hx,q⟩
 ·rw[cQ];exact⟨rfl,_,ar,_,rfl,sY ⟨_,aQ (j:=4) rfl,q⟩⟩
 ·rw[bS];refine⟨rfl,_,ar,_,rfl,sN (by decide +kernel) ⟨_,aQ (j:=3) rfl,by rw[aq];omega,dL bR (λy=>if decide (y.1=x)=true then some (bJ y.2.2) else none) (λy hy R q=>⟨_,ar,_,rfl,fS (λz=>⟨_,aQ (j:=2) rfl,?_⟩) (λz=>?_)⟩) ?_⟩⟩
  ·rw[if_pos (cm z)]at q;exact q
  ·rw[if_neg (λe=>z (gm e))]at q;exact q
  ·rw[kN (p:=λy:Fd=>decide (y.1=x)) (e:=λy=>bJ y.2.2)];unfold di at q;rw[<-List.head?_filter]at q;obtain⟨y,hy,e⟩:=qd_.mp hx;have hm:y∈fs.filter λy=>decide (y.1=x):=qS_.mpr ⟨hy,cm e⟩
   generalize (fs.filter λy=>decide (y.1=x))=L at q hm;cases L with
   |nil=>cases hm
   |cons y0 L=>exact⟨_,ar,q⟩
theorem CT(l:List Str):(l.filter λn=>decide (n∈l))=l:=List.filter_eq_self.mpr λa ha=>cm ha
noncomputable def AR(n:Nat):bf:=λas R=>∃p q:Pt,as=[.va (aU p),.va (aU q)]/\PW (n+1) p/\PW (n+1) q/\bA q=bA p/\R (.seq false ((gZ p q).map lF))
theorem Eo(h:ai K mg "forms_held" oJ)(B:Own mg)(PU:ae P w K mg base 1 "names_of" OM pJ)(Qf:ae P w K mg base 1 "form_behind" OW sJ)   : ae P w K mg base 2 "forms_held" OH (AR n):=by
 refine h.pg2 O8 (λnd hr=>
   (aI (aY (bD hr (aH hr (aC 0) aE) aT)
    (aJ (aO (bB (cC (aD (cH (aD (cH (aD aT aG)) (aD (aH hr (aC 0) aE) (aD (aH hr (aC 1) aE) aG)))) aG)))))
    aX)
   (aI (aY (dX (jS (bD hr (aH hr (aC 0) aE) aT) (kK (bD hr (aH hr (aC 1) aE) aT))))
    (aJ (aO (bB (cC (aD (cH (aD (cH (aD aT aG)) (aD (aH hr (aC 0) aE) (aD (aH hr (aC 1) aE) aG)))) aG)))))
    aX)
   (aI (bC 2 nd (bB (gK (sc:=aV oJ) (XN:=O8) (N:=OI) (fr:=[]) (bK (bB (cC (aD (aC 0) (aD (aC 1) aG))))) (λ_ _ _ _ _=>(eK (bD hr (aH hr (aC 0) aE) aT))) (λ_ _ _ _ _=>(aC 0)))))
   (aI (aY (bD hr (bI cJ rfl B.len df (aD (aC 2) aG)) aE)
    (aJ (aO (bB (cC aG))))
    aX)
   (aI (iP (sc:=aV oJ) (XN:=O8) (N:=["name","records"]) (fr:=[2]) 3 nd (bK (aL PU hr (aD (aH hr (aC 2) aE) aG))) (λ_ _ _ _ _=>(eK (cO (gO hr.units) (aC 0) (aL PU hr (aD (aH hr (aC 1) (A3 AU aE)) aG)) rfl))) (λ_ _ _ _ _=>(aC 0)))
   (aJ (aO (bB (dI (sc:=aV oJ) (XN:=O8) (N:=["name","one","other"]) (fr:=[0,1]) (bK (aC 3)) (λ_ _ _ _ _=>(cH (aD (cH (aD aT (aD (aC 0) aG))) (aD (aL Qf hr (aD (aC 1) (aD (aC 0) aG))) (aD (aL Qf hr (aD (aC 2) (aD (aC 0) aG))) aG))))))))))))))) (λas R q=>?_)
 obtain⟨p,q',rfl,hp,hq,k,q⟩:=q;cases p<;>cases q'<;>first|(simp[bA]at k;done)|skip
 case lists.lists a b f a' b' f'=>
  rw[fV,fV];exact⟨rfl,_,ar,_,rfl,sY ⟨by simp,_,aQ (j:=3) rfl,_,aQ (j:=3) rfl,by simp,by simp,q⟩⟩
 case table.table a b w f a' b' w' f'=>
  rw[cQ,cQ];exact⟨rfl,_,ar,_,rfl,sN (by decide +kernel) ⟨_,ar,_,rfl,sY ⟨_,ar,_,rfl,sY ⟨by simp,_,aQ (j:=4) rfl,_,aQ (j:=4) rfl,by simp,by simp,q⟩⟩⟩⟩
 case record.record a b fs a' b' gs=>
  rw[bS,bS];refine⟨rfl,_,ar,_,rfl,sN (by decide +kernel) ⟨_,ar,_,rfl,sN (by decide +kernel) (bG ?_)⟩⟩;refine⟨by simp,by simp,⟨_,ar,_,rfl,sY ⟨_,ar,_,rfl,sY ?_⟩⟩⟩;have fl:(bc fs).length<=8:=by unfold bc;rw[aq];exact hp.1
  refine⟨_,rfl,bG ⟨_,ar,a,b,fs,by rw[bS],hp.1,by rw[aq];omega,?_⟩⟩;refine dL sT (λn=>if decide (n∈bc gs)=true then some (sT n) else none) (λx hx R q=>⟨_,rfl,a',b',gs,by rw[bS],hq.1,gT,_,rfl,?_⟩) ?_
  ·rw[gJ];cases z:decide (x∈bc gs) with
   |true=>rw[if_pos z]at q;exact bW q
   |false=>rw[if_neg (by rw[z];exact b9)]at q;exact bG q
  rw[kN];have q:R (.seq false ((((bc fs).filter λn=>decide (n∈bc gs)).map λn=>(oy n,di fs n,di gs n)).map lF)):=q;rw[cv]at q;have lf:=bu (fk (λn=>decide (n∈bc gs)) (bc fs)) fl;refine⟨by rw[aq];omega,cX sT (λn=>lF (oy n,di fs n,di gs n)) (λx hx R q=>?_) q⟩;have hx:=qS_.mp hx;exact⟨by simp,.inr ⟨a,b,fs,x,by rw[bS],hp.1,hx.1,.inr ⟨a',b',gs,x,by rw[bS],hq.1,gm hx.2,by simp,q⟩⟩⟩
 case record.table a b fs a' b' w g=>
  rw[bS,cQ];have fl:(bc fs).length<=8:=by unfold bc;rw[aq];exact hp.1
  refine⟨rfl,_,ar,_,rfl,sN (by decide +kernel) ⟨_,ar,_,rfl,sN (by decide +kernel) (bG ?_)⟩⟩;refine⟨by simp,by simp,⟨_,ar,_,rfl,sY ⟨_,ar,_,rfl,sN (by decide +kernel) ?_⟩⟩⟩;refine⟨_,rfl,bG ⟨_,ar,a,b,fs,by rw[bS],hp.1,by rw[aq];omega,?_⟩⟩;refine dL sT (λn=>if decide (n∈bc fs)=true then some (sT n) else none) (λx hx R q=>⟨_,rfl,a,b,fs,by rw[bS],hp.1,gT,_,rfl,?_⟩) ?_
  ·rw[gJ];cases z:decide (x∈bc fs) with
   |true=>rw[if_pos z]at q;exact bW q
   |false=>rw[if_neg (by rw[z];exact b9)]at q;exact bG q
  rw[kN,CT];have q:R (.seq false (((bc fs).map λn=>(oy n,di fs n,g)).map lF)):=q;rw[cv]at q;exact⟨by rw[aq];omega,cX sT (λn=>lF (oy n,di fs n,g)) (λx hx R q=>⟨by simp,.inr ⟨a,b,fs,x,by rw[bS],hp.1,hx,.inl ⟨a',b',w,g,x,by rw[cQ],by simp,q⟩⟩⟩) q⟩
 case table.record a b w f a' b' gs=>
  rw[bS,cQ];have gl:(bc gs).length<=8:=by unfold bc;rw[aq];exact hq.1
  refine⟨rfl,_,ar,_,rfl,sN (by decide +kernel) ⟨_,ar,_,rfl,sY ⟨_,ar,_,rfl,sN (by decide +kernel) ?_⟩⟩⟩;refine⟨by simp,by simp,⟨_,ar,_,rfl,sN (by decide +kernel) ⟨_,ar,_,rfl,sY ?_⟩⟩⟩;refine⟨_,rfl,bG ⟨_,ar,a',b',gs,by rw[bS],hq.1,by rw[aq];omega,?_⟩⟩;refine dL sT (λn=>if decide (n∈bc gs)=true then some (sT n) else none) (λx hx R q=>⟨_,rfl,a',b',gs,by rw[bS],hq.1,gT,_,rfl,?_⟩) ?_
  ·rw[gJ];cases z:decide (x∈bc gs) with
   |true=>rw[if_pos z]at q;exact bW q
   |false=>rw[if_neg (by rw[z];exact b9)]at q;exact bG q
  rw[kN,CT];have q:R (.seq false (((bc gs).map λn=>(oy n,f,di gs n)).map lF)):=q;rw[cv]at q;exact⟨by rw[aq];omega,cX sT (λn=>lF (oy n,f,di gs n)) (λx hx R q=>⟨by simp,.inl ⟨a,b,w,f,x,by rw[cQ],.inr ⟨a',b',gs,x,by rw[bS],hq.1,hx,by simp,q⟩⟩⟩) q⟩
 all_goals
  first|rw[oQ]|rw[jI,jI]|rw[iG,iG]|rw[jJ,jJ]
  refine⟨rfl,_,ar,_,rfl,sN (by decide +kernel) ⟨_,ar,_,rfl,sN (by decide +kernel) (bG ?_)⟩⟩;refine⟨by simp,by simp,⟨_,ar,_,rfl,sN (by decide +kernel) ⟨_,ar,_,rfl,sN (by decide +kernel) ?_⟩⟩⟩;exact⟨_,rfl,bW ⟨by simp,q⟩⟩
theorem jE{n:Nat}{a b:Int}{fs:List Fd}(h:PW (n+1) (.record a b fs))(x:Str):(di fs x).length<=100/\∀p∈di fs x,PW n p:=by
 unfold di;cases e:fs.find? λy=>decide (y.1=x) with
 |none=>exact⟨by simp,λp hp=>by simp at hp⟩
 |some y=>
  have:=h.2.2 y (n8 e);exact⟨this.2.1,this.2.2⟩
theorem Kl{n:Nat}{p q:Pt}(hp:PW (n+1) p)(hq:PW (n+1) q):(gZ p q).length<=8/\∀x∈gZ p q,x.2.1.length<=100/\x.2.2.length<=100/\(∀r∈x.2.1,PW n r)/\∀r∈x.2.2,PW n r:=by
 have nl:∀{a b:Int} {fs:List Fd},PW (n+1) (.record a b fs)->(bc fs).length<=8:=λh=>by unfold bc;rw[aq];exact h.1
 cases p<;>cases q<;>first|exact⟨d8 _,λx hx=>absurd hx (fb)⟩|skip
 ·refine⟨by simp[gZ],λx hx=>?_⟩;rw[show gZ (.lists _ _ _) (.lists _ _ _)=[_] from rfl,qX_]at hx;subst hx;exact⟨hp.1,hq.1,hp.2,hq.2⟩
 ·refine⟨?_,λx hx=>?_⟩
  ·show(List.map _ _).length<=8;rw[aq];exact bu (fk _ _) (nl hp)
  ·obtain⟨y,_,rfl⟩:=qd_.mp hx;exact⟨(jE hp y).1,(jE hq y).1,(jE hp y).2,(jE hq y).2⟩
 ·refine⟨by show(List.map _ _).length<=8;rw[aq];exact nl hp,λx hx=>?_⟩;obtain⟨y,_,rfl⟩:=qd_.mp hx;exact⟨(jE hp y).1,hq.2.2.1,(jE hp y).2,hq.2.2.2⟩
 ·refine⟨by show(List.map _ _).length<=8;rw[aq];exact nl hq,λx hx=>?_⟩;obtain⟨y,_,rfl⟩:=qd_.mp hx;exact⟨hp.2.2.1,(jE hq y).1,hp.2.2.2,(jE hq y).2⟩
 ·refine⟨by simp[gZ],λx hx=>?_⟩;rw[show gZ (.table _ _ _ _) (.table _ _ _ _)=[_] from rfl,qX_]at hx;subst hx;exact⟨hp.2.2.1,hq.2.2.1,hp.2.2.2,hq.2.2.2⟩
noncomputable def gG(n:Nat):bf:=λas R=>∃f g:List Pt,as=[.va (bJ f),.va (bJ g)]/\f.length<=100/\g.length<=100/\(∀p∈f,PW n p)/\(∀p∈g,PW n p)/\R (bT (ff n f g))
noncomputable def BB(n:Nat):bf:=λas R=>∃(p:Pt) (o:Option Pt),as=[.va (aU p),.va (qU o)]/\PW (n+1) p/\(∀q,o=some q->PW (n+1) q/\bA q=bA p)/\R (bT (k_ n p o))
theorem EA:dN OH OH (aV qO):=ke (by decide +kernel)
theorem Ep(h:ai K mg "part_within" qO)(B:Own mg)(QK:ae P w K mg base 6 "shell_within" OH (C_ n))(QL:ae P w K mg base 2 "forms_held" OH (AR n))(PV:ae P w K mg base (3*n+7) "within" OH (gG n))   : ae P w K mg base (3*n+8) "part_within" OH (BB n):=by
 refine h.pg2 OH (λnd hr=>
   (aI (aY (dX (fO (cO mG (aC 1) gW) (gB (eM (cW (aL QK hr (aD (aC 0) (aD (aC 1) aG))))))))
    (aJ (aO dS))
    aX)
   (aJ (aO (bI (pV rfl) rfl B.all boot_all (aD (bB (dI (sc:=aV qO) (XN:=OH) (N:=["held"]) (fr:=[]) (bK (aL QL hr (aD (aC 0) (aD (aC 1) aG)))) (λ_ _ _ _ _=>(aL PV hr (aD (aH hr (aC 0) aE) (aD (aH hr (aC 0) aE) aG)))))) aG)))))) (λas R q=>?_)
 obtain⟨p,o,rfl,hp,ho,q⟩:=q;cases o with
 |none=>exact⟨rfl,_,rfl,bW q⟩
 |some q'=>
  obtain⟨hq,k⟩:=ho q' rfl;have q:R (bT (o5 p q'&&(gZ p q').all λx=>ff n x.2.1 x.2.2)):=q;obtain⟨r,e,_⟩:=pD q';have e:qU (some q')=.seq true (sT (jF q')::r):=e;have ea:[Ar.va (aU p),.va (.seq true (sT (jF q')::r))]=[.va (aU p),.va (aU q')]:=by rw[<-e];rfl
  rw[e];refine⟨rfl,_,rfl,bG ⟨p,q',ea,hp,hq,k,_,rfl,?_⟩⟩;cases hs:o5 p q' with
  |false=>rw[hs,fw]at q;exact bW q
  |true=>
   rw[hs,du]at q;obtain⟨hl,hm⟩:=Kl hp hq;refine bG ⟨p,q',ea,hp,hq,k,by rw[aq];omega,cX lF (λx=>bT (ff n x.2.1 x.2.2)) (λx hx R q=>⟨_,aQ (j:=1) rfl,_,aQ (j:=2) rfl,x.2.1,x.2.2,rfl,(hm x hx).1,(hm x hx).2.1,(hm x hx).2.2.1,(hm x hx).2.2.2,q⟩) ⟨(gZ p q').map λx=>ff n x.2.1 x.2.2,by rw[cv];rfl,?_⟩⟩;rw[jx];exact q
theorem g39_(h:ai K mg "within" oI)(B:Own mg)(Qq:ae P w K mg base (3*n+8) "part_within" OH (BB n))(PD:ae P w K mg base 2 "part_for" OO kG)(PR:ae P w K mg base 1 "part_kind" OI mO)   : ae P w K mg base (3*n+10) "within" OH (gG (n+1)):=by
 refine h.pg2 OH (λnd hr=>
   (aJ (aO (bI (pV rfl) rfl B.all boot_all (aD (bB (dI (sc:=aV oI) (XN:=OH) (N:=["part","other"]) (fr:=[1]) (bK (aC 0)) (λ_ _ _ _ _=>(aL Qq hr (aD (aC 0) (aD (aL PD hr (aD (aC 1) (aD (aL PR hr (aD (aC 0) aG)) aG))) aG)))))) aG))))) (λas R q=>?_)
 obtain⟨f,g,rfl,lf,lg,hf,hg,q⟩:=q;rw[rZ]at q;refine⟨rfl,by rw[aq];omega,cX aU (λp=>bT (k_ n p (g.find? λq=>decide (bA q=bA p)))) (λp hp R q=>⟨p,rfl,g,bA p,rfl,sL p,p,_,rfl,hf p hp,λq' e=>⟨hg q' (n8 e),by simpa using n9 e⟩,q⟩) ⟨f.map λp=>k_ n p (g.find? λq=>decide (bA q=bA p)),by rw[cv];rfl,?_⟩⟩;rw[jx];exact q
namespace B0
theorem g39_(h:ai K mg "within" oI)(B:Own mg)(Qq:ae P w K mg base 6 "part_within" OH kO)(PD:ae P w K mg base 2 "part_for" OO kG)(PR:ae P w K mg base 1 "part_kind" OI mO)   : ae P w K mg base 7 "within" OH (gG 0):=by
 refine h.pg2 OH (λnd hr=>
   (aJ (aO (bI (pV rfl) rfl B.all boot_all (aD (bB (dI (sc:=aV oI) (XN:=OH) (N:=["part","other"]) (fr:=[1]) (bK (aC 0)) (λ_ _ _ _ _=>(aL Qq hr (aD (aC 0) (aD (aL PD hr (aD (aC 1) (aD (aL PR hr (aD (aC 0) aG)) aG))) aG)))))) aG))))) (λas R q=>?_)
 obtain⟨f,g,rfl,lf,lg,hf,hg,q⟩:=q;cases f with
 |nil=>exact⟨rfl,by simp,[],rfl,q⟩
 |cons p f=>exact False.elim (hf p (by simp))
end B0
theorem ya(hw:ai K mg "within" oI)(hp:ai K mg "part_within" qO)(hs:ai K mg "shell_within" vA)(hh:ai K mg "forms_held" oJ)(hst:ai K mg "strange_names" qP)(hlk:ai K mg "lacking_names" vB)(hms:ai K mg "musts_of" vC)(B:Own mg)
  (G1:ae P w K mg base 3 "run_within" OH qZ) (G2:ae P w K mg base 5 "words_within" OH rP) (G3:ae P w K mg base 1 "bounds_within" OH jL) (G4:ae P w K mg base 4 "words_parted" OH pA) (G5:ae P w K mg base 3 "words_let" O0 iE) (G8:ae P w K mg base 3 "words_some" ["words","many"] sS)
  (G6:ae P w K mg base 1 "names_of" OM pJ) (G7:ae P w K mg base 1 "form_behind" OW sJ) (Gk:ae P w K mg base 1 "part_kind" OI mO) (Gf:ae P w K mg base 2 "part_for" OO kG) (GF:eQ K mg "MOST_FIELDS" (iT 8)):∀n:Nat,ae P w K mg base (3*n+7) "within" OH (gG n)
 |0=>B0.g39_ hw B (hp.pfalse EA (fun|_,_,_,_,_,_,[_,_],_=>rfl) λas R h=>h) Gf Gk
 |n+1=>by
  have Gm:=Eh (P:=P) (w:=w) (base:=base) (n:=n) hms B;have Gst:=Ej (P:=P) (w:=w) (base:=base) (n:=n) hst B G4 G6 G5 G8 GF;have Glk:=Ek (P:=P) (w:=w) (base:=base) (n:=n) hlk B Gm;exact g39_ hw B (Ep hp B (Em hs B G1 G2 G3 Gst Glk) (Eo hh B G6 G7) (ya hw hp hs hh hst hlk hms B G1 G2 G3 G4 G5 G8 G6 G7 Gk Gf GF n)) Gf Gk
variable{n:Nat}
theorem pO{α:Type}{l:List α}{p:α->Bool}{e:α->Tv}:(l.filterMap λx=>if p x=true then none else some (e x)).isEmpty=l.all p:=by
 induction l with
 |nil=>rfl
 |cons a l ih=>
  rw[i9,jb];cases h:p a with
  |true=>simpa[h]using ih
  |false=>simp[h]
theorem yE{l:List Bool}:(true != (l.map bT).any λk=>L2.eqT k (bT false))=l.all id:=by
 induction l with
 |nil=>rfl
 |cons c l ih=>
  rw[d9,ie,jb,<-ih];cases c<;>simp[L2.eqT,dr]
noncomputable def qE:bf:=λas R=>∃W:Wd,as=[.va (bQ W)]/\jz W/\R (.seq false ((kY W).map sT))
theorem FG(h:ai K mg "_law_witness" uS)(B:Own mg)(PP:ae P w K mg base 1 "_law_signs" [] pI)(P_:ae P w K mg base 1 "_law_mark" ["_law_sign"] tJ)   : ae P w K mg base 2 "_law_witness" O1 qE:=by
 refine h.pg1 Ph (λnd hr=>
   (aI (aY (bD hr (aH hr (aC 0) aE) aT)
    (aJ (aO (bB (mR mU rfl B.list_ boot_list (aD (aH hr (aC 0) aE) aG)))))
    aX)
   (aI (iP (sc:=aV uS) (XN:=Ph) (N:=O6) (fr:=[0]) 1 nd (bK (yX PP (hr.mono (by omega)) rfl)) (λ_ _ _ _ _=>(eK (cO (gO hr.units) (aL P_ hr (aD (aC 0) aG)) (aH hr (aC 1) aE) rfl))) (λ_ _ _ _ _=>(aC 0)))
   (aI (BX (i:=2) (sc:=aV uS) (XN:=Ph) (N:=O6) (own:=1) (fr:=[0]) rfl nd rfl (.inl rfl) ⟨rfl,by decide +kernel,by decide +kernel,by decide +kernel,rfl,by decide +kernel,by decide,by decide +kernel⟩ (by decide) (bK (aC 1)) (λ_ _ _ _ _=>(eG 0 (by decide) (show(O6:List Str).Nodup by decide +kernel) rfl (by first|exact Or.inl rfl|exact Or.inr rfl))) (λ_ _ _ _ _=>lX) (λ_ _ _ _ _=>(bE cD (aH hr (aC 1) aE) (bE jR (aC 0) (bI (jT rfl) rfl B.max boot_max (aD aE (aD (aH hr (aC 1) aE) aG)))))))
   (aI (aY (bD hr (aH hr (aC 0) aE) aE)
    (aJ (lR (mS 2 (aH hr (aC 0) aE))))
    aX)
   (aJ (aO (bE cD (aC 2) (bB (cC (aD (bE cD (aH hr (aC 0) aE) (bE jR (aH hr (aC 1) aE) (aH hr (aC 0) aE))) aG))))))))))) (λas R q=>?_)
 obtain⟨W,rfl,ok,q⟩:=q;cases W with
 |few ss=>exact⟨rfl,_,rfl,_,rfl,fS (λ_=>⟨_,rfl,_,_,rfl,q⟩) (λh=>absurd rfl h)⟩
 |make hd lo hi ms=>
  obtain⟨⟨shd,hl⟩,lo0,lohi,hi1,hi2,sub,ne⟩:=ok;obtain⟨_,S,_⟩:=sF sub ne;refine⟨rfl,_,rfl,_,rfl,fS (λh=>absurd h (by decide +kernel)) (λ_=>?_)⟩;have l94:da.cps.toList.length=94:=(WordM.len da).symm.trans nD;refine⟨rfl,by rw[aq,l94];decide,dL (λc:Nat=>sT ⟨#[c]⟩) (λc=>if cU c∈ms then some (sT ⟨#[c]⟩) else none) (λc hc R q=>?_) ?_⟩
  ·refine⟨c,rfl,_,rfl,gT,_,rfl,?_⟩;rw[gJ];refine gr (λz=>?_) (λz=>?_)
   ·have z:cU c∈ms:=by simpa using z
    rw[if_pos z]at q;exact q
   ·have z:cU c∉ms:=by simpa using z
    rw[if_neg z]at q;exact q
  have eg:(da.cps.toList.filterMap λc=>if cU c∈ms then some (sT ⟨#[c]⟩) else none)=(cL ms).map λc=>sT ⟨#[c]⟩:=by
   unfold cL;show(cs da).filterMap _=_
   induction cs da with
   |nil=>rfl
   |cons a l ih=>
    rw[i9,ny,ih];by_cases z:cU a∈ms
    ·simp[z]
    ·simp[z]
  have gl:(cL ms).length<=94:=by
   refine bu (fk _ _) ?_;show da.cps.toList.length<=94;omega
  show az.nx _ _;rw[eg]
  let W:Tv:=bQ (.make hd lo hi ms)
  refine e7 (ρ':=[.va W,.va (.seq false ((cL ms).map λc=>sT ⟨#[c]⟩)),.no]) rfl ?_;refine⟨by rw[aq];omega,cX (λc:Nat=>sT ⟨#[c]⟩) (λc=>sT (hd++cA c (if lo > 1 then lo else 1))) (λc hc R q=>?_) ?_⟩
  ·refine⟨_,rfl,_,rfl,.inl ⟨_,_,rfl,⟨by show 1<=1000;decide,by omega,by omega⟩,?_⟩⟩;rw[show max 1 lo=(if lo > 1 then lo else 1) by split<;>omega];exact⟨by rw[show ∀n,iR ⟨#[c]⟩ n=cA c n from λ_=>rfl,pG];split<;>omega,q⟩
  have T0:(cL ms).map (λc=>sT (hd++cA c (if lo > 1 then lo else 1)))=((cL ms).map λc=>hd++cA c (if lo > 1 then lo else 1)).map sT:=by rw[cv];rfl
  rw[T0];have q:R (.seq false (((((cL ms).map λc=>hd++cA c (if lo > 1 then lo else 1))++(if lo=0 then [hd] else []))++[hd++cA ((cL ms).headD 0) hi]).map sT)):=q;have l0:((cL ms).map λc=>hd++cA c (if lo > 1 then lo else 1)).length<=94:=by rw[aq];exact gl
  generalize ((cL ms).map λc=>hd++cA c (if lo > 1 then lo else 1))=L at q l0;have g0:je ((cL ms).map λc=>sT ⟨#[c]⟩) 0=some (sT ⟨#[(cL ms).headD 0]⟩):=by
   have:=lT S.many;cases hq:cL ms with
   |nil=>rw[hq]at this;cases this
   |cons x y=>exact aQ (j:=0) rfl
  show az.nx _ _;refine e7 (ρ':=[.va W,.va (.seq false ((cL ms).map λc=>sT ⟨#[c]⟩)),.own (L.map sT)]) rfl ?_;have fin:∀M:List Str,M.length<=95->R (.seq false ((M++[hd++cA ((cL ms).headD 0) hi]).map sT))->qI (iu vM (fK 2) (uL (xq (iQ (iu vM (iu p7 (fK 0) (uC (iT 1))) (iu zQ (iu p7 (fK 1) (uC (iT 0))) (iu p7 (fK 0) (uC (iT 3))))) hJ)))) {nx:=λx=>R nT,rt:=R} [.va W,.va (.seq false ((cL ms).map λc=>sT ⟨#[c]⟩)),.own (M.map sT)]:=λM hM q=>by
   rw[dw]at q;exact⟨_,rfl,_,g0,_,rfl,⟨by show 1<=1000;decide,by omega,by omega⟩,by rw[show ∀c n,iR ⟨#[c]⟩ n=cA c n from λ_ _=>rfl,pG];omega,by simp,by rw[aq];show M.length+1<=_;omega,q⟩
  refine⟨_,rfl,_,rfl,fT (λz=>?_) (λz=>?_)⟩
  ·rw[if_pos z]at q;refine⟨⟨_,rfl⟩,_,rfl,_,rfl,by rw[aq];omega,?_⟩;rw[show L.map sT++[sT hd]=(L++[hd]).map sT by rw[dw];rfl];exact fin (L++[hd]) (by rw[b8];show _+1<=95;omega) q
  ·rw[if_neg z,i8]at q;exact fin L (by omega) q
noncomputable def zF:Nat->Str
 |0=>"nothing"
 |1=>"truths"
 |2=>"numbers"
 |3=>"texts"
 |4=>"lists"
 |_=>"table"
theorem Mk{a b:Nat}(ha:a<=5)(hb:b<=5)(h:zF a=zF b):a=b:=by
 have h1:a=0\/a=1\/a=2\/a=3\/a=4\/a=5:=by omega
 have h2:b=0\/b=1\/b=2\/b=3\/b=4\/b=5:=by omega
 rcases h1 with e|e|e|e|e|e<;>subst e<;>rcases h2 with e|e|e|e|e|e<;>subst e<;>first|rfl|exact absurd h (by decide +kernel)
noncomputable def pK:bf:=λas R=>∃p:Pt,as=[.va (aU p)]/\R (sT (zF (bA p)))
theorem FH(h:ai K mg "_law_kind" zg)(B:Own mg)    : ae P w K mg base 1 "_law_kind" OX pK:=by
 refine h.pg1 OX (λnd hr=>
   (aI (aY (bD hr (aH hr (aC 0) aE) aT)
    (aJ (aO aT))
    aX)
   (aJ (aO (aH hr (aC 0) aE))))) (λas R q=>?_)
 obtain⟨p,rfl,q⟩:=q;obtain⟨r,e,_⟩:=pD p;rw[e];cases p<;>first|exact⟨rfl,_,ar,_,rfl,sY q⟩|exact⟨rfl,_,ar,_,rfl,sN (by simp only[jF];decide +kernel) ⟨_,ar,q⟩⟩
theorem FI(h:ai K mg "_law_between" zh)(B:Own mg)    : ae P w K mg base 1 "_law_between" OJ jL:=by
 refine h.pg2 OJ (λnd hr=>
   (aJ (aO (fL (cP (eY).op (aH hr (aC 1) aE) (aH hr (aC 0) aE)) (gC (cP (eY).op (aH hr (aC 0) aE) (aH hr (aC 1) aE))))))) (λas R q=>?_)
 obtain⟨a,b,a',b',w,w',r,r',rfl,q⟩:=q;refine⟨rfl,_,aQ (j:=1) rfl,_,aQ (j:=1) rfl,_,rfl,dQ (λz=>?_) (λz=>?_)⟩
 ·rw[cm z,du]at q;exact⟨_,aQ (j:=2) rfl,_,aQ (j:=2) rfl,q⟩
 ·rw[dq z,fw]at q;exact q
noncomputable def rS:bf:=λas R=>∃lo hi st i:Int,as=[.va (aU (.numbers lo hi st)),.va (iT i)]/\oO lo hi st/\R (bT (cS lo hi st i))
theorem EE:dN ["_law_part","_law_value_here","_law_name","_law_known","_law_must","_law_form"] OP (aV zX):=ke (by decide +kernel)
theorem FD(h:ai K mg "_law_dict_let" zX)(B:Own mg):ae P w K mg base 1 "_law_dict_let" OP kO:=h.pfalse EE (fun|_,_,_,_,_,_,[_,_],_=>rfl) λas R h=>h
theorem EF:dN O3 O3 (aV zV):=ke (by decide +kernel)
theorem FF(h:ai K mg "_law_lets" zV)(B:Own mg):ae P w K mg base 1 "_law_lets" O3 kO:=h.pfalse EF (fun|_,_,_,_,_,_,[_,_],_=>rfl) λas R h=>h
theorem FE(h:ai K mg "_law_part_lets" zW)(B:Own mg)(PQ:ae P w K mg base 2 "_law_words_let" OV iE)(Qz:ae P w K mg base 1 "_law_lets" O3 kO)(Qx:ae P w K mg base 1 "_law_dict_let" OP kO)   : ae P w K mg base 3 "_law_part_lets" OP rS:=by
 refine h.pg2 ["_law_part","_law_value_here","_law_word"] (λnd hr=>
   (aI (bC 2 nd (aH hr (aC 0) aE))
   (aI (aY (dX (fO (cO mG (aC 1) gW) (gB (bD hr (aC 2) aT))))
    (aJ (aO (fL (cP (mG).op (aC 1) gW) (gC (cP (fP hr.units).op (aC 2) aT)))))
    aX)
   (aI (aY (dX (fO (cW (gX "bool" vV rfl B.isinstance (aC 1) (gU (v:=.ty "bool") rfl B.bool_ boot_bool rfl))) (gB (bD hr (aC 2) aT))))
    (aJ (aO (fL (gX "bool" vV rfl B.isinstance (aC 1) (gU (v:=.ty "bool") rfl B.bool_ boot_bool rfl)) (fL (cP (fP hr.units).op (aC 2) aT) (gC (cP (gO hr.units).op (aC 1) (aH hr (aC 0) aE) rfl))))))
    aX)
   (aI (aY (dX (fO (cW (gX "int" vZ rfl B.isinstance (aC 1) (gU (v:=.ty "int") rfl B.int_ boot_int rfl))) (gB (bD hr (aC 2) aT))))
    (aI (aY (dX (fO (eM (cW (gX "int" vZ rfl B.isinstance (aC 1) (gU (v:=.ty "int") rfl B.int_ boot_int rfl)))) (gB (oD hr (aC 2) aT))))
     (aJ (aO dS))
     aX)
    (aJ (aO (fL (wX eY eY (aH hr (aC 0) aE) (aC 1) (aH hr (aC 0) aE)) (gC (cP (fP hr.units).op (bE nP (bE iM (aC 1) (aH hr (aC 0) aE)) (bI (jT rfl) rfl B.max boot_max (aD aE (aD (aH hr (aC 0) aE) aG)))) aE))))))
    aX)
   (aI (aY (dX (fO (cW (gX "str" vY rfl B.isinstance (aC 1) (gU (v:=.ty "str") rfl B.str_ boot_str rfl))) (gB (bD hr (aC 2) aT))))
    (aJ (aO (fL (gX "str" vY rfl B.isinstance (aC 1) (gU (v:=.ty "str") rfl B.str_ boot_str rfl)) (fL (cP (fP hr.units).op (aC 2) aT) (gC (aL PQ hr (aD (aH hr (aC 0) aE) (aD (aC 1) aG))))))))
    aX)
   (aI (aY (dX (fO (cW (gX "list" vT rfl B.isinstance (aC 1) (gU (v:=.ty "list") rfl B.list_ boot_list rfl))) (gB (bD hr (aC 2) aT))))
    (aI (aY (dX (fO (eM (cW (gX "list" vT rfl B.isinstance (aC 1) (gU (v:=.ty "list") rfl B.list_ boot_list rfl)))) (fO (oD hr (aC 2) aT) (gB (eM (Dj eY eY (aH hr (aC 0) aE) (bI cJ rfl B.len df (aD (aC 1) aG)) (aH hr (aC 0) aE)))))))
     (aJ (aO dS))
     aX)
    (aJ (aO (cP (jP hr.units).op dS (bB (dI (sc:=aV zW) (XN:=["_law_part","_law_value_here","_law_word"]) (N:=["_law_item","_law_part"]) (fr:=[0]) (bK (aC 1)) (λ_ _ _ _ _=>(aL Qz hr (aD (aH hr (aC 1) aE) (aD (aC 0) aG)))))) rfl))))
    aX)
   (aJ (aO (aL Qx hr (aD (aC 0) (aD (aC 1) aG)))))))))))) (λas R q=>?_)
 obtain⟨lo,hi,st,i,rfl,ok,q⟩:=q;rw[iG];have q':∀b,cS lo hi st i=b->R (bT b):=λb e=>e▸q
 refine⟨rfl,_,ar,_,rfl,bG ⟨_,rfl,sN (by decide +kernel) ?_⟩⟩;refine⟨_,rfl,bG ⟨_,rfl,sN (by decide +kernel) ?_⟩⟩;refine⟨_,rfl,bW (bW ⟨_,rfl,bG ⟨_,rfl,Om ?_⟩⟩)⟩;refine⟨_,rfl,_,rfl,dQ (λh1=>⟨_,rfl,_,rfl,dQ (λh2=>?_) (λh2=>?_)⟩) (λh1=>⟨false,rfl,bG ?_⟩)⟩
 ·refine⟨_,rfl,_,rfl,.inl ⟨1,st,rfl,(show(0:Int)<max 1 st by omega),q' _ ?_⟩⟩;unfold cS;rw[cm (show lo<=i from h1),cm (show i<=hi from h2)];simp[dr,qv]
 ·refine q' _ ?_;unfold cS;rw[dq (show ¬ i<=hi from h2)];simp
 ·refine q' _ ?_;unfold cS;rw[dq (show ¬ lo<=i from h1)];simp
noncomputable def f_(fs:List Fd):List (Str×Tv):=fs.map λy=>(y.1,bR y)
theorem Jb(fs:List Fd)(x:Str):cF (f_ fs) x=(fs.find? λy=>decide (y.1=x)).map bR:=by
 unfold cF f_;rw[List.find?_map,Option.map_map];rfl
theorem kI(fs:List Fd):(f_ fs).map (·.1)=bc fs:=by unfold f_ bc;rw[cv];rfl
theorem xV{l:List Str}(h:fE l):l.Nodup:=h.imp λh=>yf h
theorem wP{fs:List Fd}(h:fE (bc fs)){y:Fd}(hy:y∈fs):fs.find? (λz=>decide (z.1=y.1))=some y:=by
 have nd:=xV h;cases e:fs.find? λz=>decide (z.1=y.1) with
 |none=>exact absurd (qP1_.mp e y hy) (by simp)
 |some z=>
  have hz:=n8 e;have ez:z.1=y.1:=by simpa using n9 e
  obtain⟨i,hi,rfl⟩:=qG1_.mp hz;obtain⟨j,hj,rfl⟩:=qG1_.mp hy;have:i=j:=by
   have pw:=qE2_.mp nd;rcases om i j with z|z|z
   ·exact absurd (by simpa[bc]using ez) (pw i j (by simpa[bc]using hi) (by simpa[bc]using hj) z)
   ·exact z
   ·exact absurd (by simpa[bc]using ez.symm) (pw j i (by simpa[bc]using hj) (by simpa[bc]using hi) z)
  subst this;rfl
theorem oV{fs:List Fd}(h:fE (bc fs)){x:Str}(hx:x∈bc fs):∃y∈fs,y.1=x/\cF (f_ fs) x=some (bR y)/\di fs x=y.2.2/\decide (x∈dP fs)=y.2.1:=by
 obtain⟨y,hy,rfl⟩:=qd_.mp hx;have fd:=wP h hy;refine⟨y,hy,rfl,by rw[Jb,fd];rfl,by unfold di;rw[fd];rfl,?_⟩;cases e:y.2.1 with
 |true=>exact cm (qd_.mpr ⟨y,qS_.mpr ⟨hy,e⟩,rfl⟩)
 |false=>
  refine dq λhm=>?_
  obtain⟨z,hz,ez⟩:=qd_.mp hm;have hz:=qS_.mp hz;have f2:=wP h hz.1;rw[ez,fd]at f2;cases f2;rw[e]at hz;exact absurd hz.2 b9
theorem B8{fs:List Fd}{x:Str}(hx:x∉bc fs):cF (f_ fs) x=none/\decide (x∈dP fs)=false:=by
 refine⟨lookD_none.mpr (by rw[kI];exact hx),dq λhm=>hx ?_⟩;obtain⟨z,hz,ez⟩:=qd_.mp hm;exact qd_.mpr ⟨z,(qS_.mp hz).1,ez⟩
theorem AH(xs:List Tv):(true != ((false==false)&&cM xs []))=!xs.isEmpty:=by
 rw[<-kR];cases ((false==false)&&cM xs [])<;>rfl
noncomputable def qQ(n:Nat)(fs gs:List Fd):Bool:=(((bc fs).all λx=>decide (x∈bc gs))&&(dP gs).all λx=>decide (x∈dP fs))&&(((bc fs).filter λx=>decide (x∈bc gs)).map λx=>(di fs x,di gs x)).all λx=>ff n x.1 x.2
noncomputable def AS(n:Nat):bf:=λas R=>∃(a b:Int) (fs:List Fd) (a' b':Int) (gs:List Fd),as=[.va (aU (.record a b fs)),.va (aU (.record a' b' gs))]/\PW (n+1) (.record a b fs)/\PW (n+1) (.record a' b' gs)/\R (bT (qQ n fs gs))
theorem FJ(h:ai K mg "_law_record_within" lC)(B:Own mg)(PJ:ae P w K mg base (4*n+5) "_law_within" OJ (gG n))   : ae P w K mg base (4*n+6) "_law_record_within" OJ (AS n):=by
 refine h.pg2 OY (λnd hr=>
   (aI (bC 2 nd (zH (wY rfl rfl B.dict_ (bB (dI (sc:=aV lC) (XN:=OY) (N:=["_law_field"]) (fr:=[]) (bK (aH hr (aC 0) aE)) (λ_ _ _ _ _=>(cH (aD (aH hr (aC 0) aE) (aD (aC 0) aG)))))))))
   (aI (bC 3 nd (zH (wY rfl rfl B.dict_ (bB (dI (sc:=aV lC) (XN:=OY) (N:=["_law_field"]) (fr:=[]) (bK (aH hr (aC 1) aE)) (λ_ _ _ _ _=>(cH (aD (aH hr (aC 0) aE) (aD (aC 0) aG)))))))))
   (aI (aY (oD hr (bB (gK (sc:=aV lC) (XN:=OY) (N:=["_law_name","_law_here","_law_there"]) (fr:=[2,3]) (bK (aC 3)) (λ_ _ _ _ _=>(eK (dX (jS (cW (aH hr (aH hr (aC 2) (aC 0)) aE)) (kK (eM (dX (jS (cO (gO hr.units) (aC 0) (aC 1) rfl) (kK (cW (aH hr (aH hr (aC 1) (aC 0)) aE))))))))))) (λ_ _ _ _ _=>(aC 0)))) (bB (cC aG)))
    (aJ (aO dS))
    aX)
   (aI (aY (oD hr (bB (gK (sc:=aV lC) (XN:=OY) (N:=["_law_name","_law_there"]) (fr:=[3]) (bK (aC 2)) (λ_ _ _ _ _=>(eK (cO (jP hr.units) (aC 0) (aC 1) rfl))) (λ_ _ _ _ _=>(aC 0)))) (bB (cC aG)))
    (aJ (aO dS))
    aX)
   (aJ (aO (cP (jP hr.units).op dS (bB (dI (sc:=aV lC) (XN:=OY) (N:=["_law_name","_law_here","_law_there"]) (fr:=[2,3]) (bK (aC 2)) (λ_ _ _ _ _=>(aL PJ hr (aD (aH hr (aH hr (aC 1) (aC 0)) aE) (aD (aH hr (aH hr (aC 2) (aC 0)) aE) aG)))))) rfl)))))))) (λas R q=>?_)
 obtain⟨a,b,fs,a',b',gs,rfl,hp,hq,q⟩:=q;rw[bS,bS];have nf:=xV hp.2.1;have ng:=xV hq.2.1;have fl:=hp.1;have gl:=hq.1;refine⟨rfl,_,aQ (j:=3) rfl,by rw[aq];omega,cX bR (λy=>.seq true [sT y.1,bR y]) (λy hy R q=>⟨_,ar,by simp,q⟩) ⟨f_ fs,by unfold f_;rw[cv];rfl,by rw[kI];exact nf,by unfold f_;rw[aq];omega,?_⟩⟩;refine⟨_,aQ (j:=3) rfl,by rw[aq];omega,cX bR (λy=>.seq true [sT y.1,bR y]) (λy hy R q=>⟨_,ar,by simp,q⟩) ⟨f_ gs,by unfold f_;rw[cv];rfl,by rw[kI];exact ng,by unfold f_;rw[aq];omega,?_⟩⟩;show az.nx _ _;refine e7 (ρ':=[.va (.seq true [sT "record",iT a,iT b,.seq true (fs.map bR)]),.va (.seq true [sT "record",iT a',iT b',.seq true (gs.map bR)]),.va (.dct (f_ fs)),.va (.dct (f_ gs))]) rfl ?_;have kg:∀kt∈f_ gs,kt.1∈bc gs:=λkt h=>by rw[<-kI];exact qd_.mpr ⟨kt,h,rfl⟩
 have kf:∀kt∈f_ fs,kt.1∈bc fs:=λkt h=>by rw[<-kI];exact qd_.mpr ⟨kt,h,rfl⟩
 have lg:(f_ gs).length<=8:=by unfold f_;rw[aq];exact gl
 have lf:(f_ fs).length<=8:=by unfold f_;rw[aq];exact fl
 have e1:((f_ gs).filterMap λkt=>if (decide (kt.1∈dP gs)&&!decide (kt.1∈dP fs))=true then some (sT kt.1) else none).isEmpty=(dP gs).all λx=>decide (x∈dP fs):=by
  rw[kN,fm,List.isEmpty_iff,qr3_,List.filter_eq_nil_iff,qE_];constructor
  ·intro h x hx;have hn:x∈bc gs:=by
    obtain⟨z,hz,ez⟩:=qd_.mp hx;exact qd_.mpr ⟨z,(qS_.mp hz).1,ez⟩
   rw[<-kI]at hn;obtain⟨kt,hk,rfl⟩:=qd_.mp hn;have:=h kt hk;rw[cm hx,du]at this;simpa using this
  ·intro h kt hk z;rw[i6]at z;have:=h kt.1 (gm z.1);rw[this]at z;exact absurd z.2 b9
 have e2:((f_ fs).filterMap λkt=>if decide (kt.1∈bc gs)=true then none else some (sT kt.1)).isEmpty=(bc fs).all λx=>decide (x∈bc gs):=by
  rw[pO,<-kI fs,jx];rfl
 refine⟨by rw[aq];omega,dL (λkt:Str×Tv=>sT kt.1) (λkt=>if (decide (kt.1∈dP gs)&&!decide (kt.1∈dP fs))=true then some (sT kt.1) else none) (λkt hk R q=>?_) ⟨by simp,.inr (.inl rfl),_,rfl,?_⟩⟩
 ·obtain⟨y,hy,ey,ly,_,my⟩:=oV hq.2.1 (kg kt hk);rw[my]at q;refine⟨_,ly,_,aQ (j:=1) rfl,_,rfl,?_⟩;cases z:y.2.1 with
  |false=>rw[z,fw,if_neg b9]at q;exact bG q
  |true=>
   rw[z,du]at q;refine bW ?_;by_cases hx:kt.1∈bc fs
   ·obtain⟨x,hx',ex,lx,_,mx⟩:=oV hp.2.1 hx;refine⟨_,rfl,?_⟩;show if (false != (cF (f_ fs) kt.1).isSome)=true then _ else _
    rw[lx];refine bW ⟨_,lx,_,aQ (j:=1) rfl,_,rfl,?_⟩;rw[mx]at q;cases hb:x.2.1 with
    |true=>rw[hb]at q;exact bG q
    |false=>rw[hb]at q;exact bW q
   ·obtain⟨lx,mx⟩:=B8 hx;refine⟨_,rfl,?_⟩;show if (false != (cF (f_ fs) kt.1).isSome)=true then _ else _
    rw[lx];rw[mx]at q;exact bG (bW q)
 show if (true != ((false==false)&&cM _ []))=true then _ else _
 rw[AH,e1];unfold qQ at q;cases h1:(dP gs).all λx=>decide (x∈dP fs) with
 |false=>rw[h1,me,fw]at q;exact bW q
 |true=>
  rw[h1,nv]at q;refine bG ⟨by rw[aq];omega,dL (λkt:Str×Tv=>sT kt.1) (λkt=>if decide (kt.1∈bc gs)=true then none else some (sT kt.1)) (λkt hk R q=>⟨_,rfl,?_⟩) ⟨by simp,.inr (.inl rfl),_,rfl,?_⟩⟩
  ·show if (true != (cF (f_ gs) kt.1).isSome)=true then _ else _
   by_cases hx:kt.1∈bc gs
   ·obtain⟨x,_,_,lx,_⟩:=oV hq.2.1 hx;rw[if_pos (cm hx)]at q;rw[lx];exact bG q
   ·rw[if_neg (λe=>hx (gm e))]at q;rw[(B8 hx).1];exact bW q
  ·show if (true != ((false==false)&&cM _ []))=true then _ else _
   rw[AH,e2];cases h2:(bc fs).all λx=>decide (x∈bc gs) with
   |false=>rw[h2,fw]at q;exact bW q
   |true=>
    rw[h2,du]at q;have h2':=qE_.mp h2;refine bG ⟨by rw[aq];omega,cX (λkt:Str×Tv=>sT kt.1) (λkt=>bT (ff n (di fs kt.1) (di gs kt.1))) (λkt hk R q=>?_) ?_⟩
    ·obtain⟨x,_,_,lx,bx,_⟩:=oV hp.2.1 (kf kt hk);obtain⟨y,_,_,ly,by',_⟩:=oV hq.2.1 (gm (h2' _ (kf kt hk)));have m1:=jE hp kt.1;have m2:=jE hq kt.1;rw[bx]at m1 q;rw[by']at m2 q;exact⟨_,lx,_,aQ (j:=2) rfl,_,ly,_,aQ (j:=2) rfl,x.2.2,y.2.2,rfl,m1.1,m2.1,m1.2,m2.2,q⟩
    ·have e:(f_ fs).map (λkt=>bT (ff n (di fs kt.1) (di gs kt.1)))=((bc fs).map λx=>ff n (di fs x) (di gs x)).map bT:=by rw[<-kI,cv,cv];rfl
     rw[e];refine⟨oW,?_⟩;rw[yE];have ef:((bc fs).filter λx=>decide (x∈bc gs))=bc fs:=List.filter_eq_self.mpr λx hx=>h2' x hx
     rw[ef,jx]at q;rw[jx];exact q
variable{n:Nat}
noncomputable def BL(n:Nat):bf:=λas R=>∃p q:Pt,as=[.va (aU p),.va (aU q)]/\PW (n+1) p/\PW (n+1) q/\bA p=5/\bA q=5/\R (bT (lr n p q))
theorem JZ{w:Wd}(hp:jz w):(kY w).length<=100:=by
 cases w with
 |few ss=>exact bu hp.2.1 (by decide)
 |make hd lo hi ms=>
  show((((cL ms).map λc=>hd++cA c (if lo > 1 then lo else 1))++(if lo=0 then [hd] else []))++[hd++cA ((cL ms).headD 0) hi]).length<=100;have:(cL ms).length<=94:=by
   refine bu (fk _ _) ?_;rw[<-WordM.len,nD];exact bp _
  rw[b8,b8,aq];split<;>simp<;>omega
theorem A4(a b:Int)(fs:List Fd)(a' b':Int)(gs:List Fd):lr n (.record a b fs) (.record a' b' gs)=(e_ a b a' b'&&qQ n fs gs):=by
 show((e_ a b a' b'&&(((bc fs).all λx=>decide (x∈bc gs))&&(dP gs).all λx=>decide (x∈dP fs)))&&(((bc fs).filter λx=>decide (x∈bc gs)).map λx=>(oy x,di fs x,di gs x)).all λx=>ff n x.2.1 x.2.2)=_;unfold qQ;rw[jx,jx,qk];rfl
theorem A5(a b:Int){fs:List Fd}(h:fE (bc fs))(a' b':Int)(w:Wd)(g:List Pt):lr n (.record a b fs) (.table a' b' w g)=(e_ a b a' b'&&((bc fs).all (bZ w)&&fs.all λy=>ff n y.2.2 g)):=by
 show((e_ a b a' b'&&(bc fs).all (bZ w))&&((bc fs).map λx=>(oy x,di fs x,g)).all λx=>ff n x.2.1 x.2.2)=_;rw[jx,qk];congr 2;have e:∀l:List Fd,(∀y∈l,y∈fs)->((bc l).all λx=>ff n (di fs x) g)=l.all λy=>ff n y.2.2 g:=λl hl=>by
  induction l with
  |nil=>rfl
  |cons y l ih=>
   show(ff n (di fs y.1) g&&(bc l).all _)=_;rw[ih λz hz=>hl z (ia _ hz),jb];congr 2;unfold di;rw[wP h (hl y (by simp))];rfl
 exact e fs λy hy=>hy
theorem A6(a b:Int)(w:Wd)(f:List Pt)(a' b':Int)(w':Wd)(g:List Pt):lr n (.table a b w f) (.table a' b' w' g)=(e_ a b a' b'&&((eZ w w').isNone&&ff n f g)):=by
 show((e_ a b a' b'&&(eZ w w').isNone)&&(ff n f g&&true))=_;rw[nv,qk]
theorem FK(h:ai K mg "_law_dict_within" oH)(B:Own mg)(Qb:ae P w K mg base 1 "_law_between" OJ jL)(Q1:ae P w K mg base (4*n+6) "_law_record_within" OJ (AS n))(PQ:ae P w K mg base 2 "_law_words_let" OV iE)(PJ:ae P w K mg base (4*n+5) "_law_within" OJ (gG n))(Qa:ae P w K mg base 2 "_law_witness" O1 qE)   : ae P w K mg base (4*n+7) "_law_dict_within" OJ (BL n):=by
 refine h.pg2 O9 (λnd hr=>
   (aI (aY (dX (fO (eM (cW (aL Qb hr (aD (aC 0) (aD (aC 1) aG))))) (gB (dX (jS (bD hr (aH hr (aC 0) aE) aT) (kK (bD hr (aH hr (aC 1) aE) aT)))))))
    (aJ (aO dS))
    aX)
   (aI (aY (bD hr (aH hr (aC 1) aE) aT)
    (aJ (aO (aL Q1 hr (aD (aC 0) (aD (aC 1) aG)))))
    aX)
   (aI (aY (bD hr (aH hr (aC 0) aE) aT)
    (aI (iP (sc:=aV oH) (XN:=O9) (N:=["_law_field","_law_other"]) (fr:=[1]) 2 nd (bK (aH hr (aC 0) aE)) (λ_ _ _ _ _=>(eK (eM (cW (aL PQ hr (aD (aH hr (aC 1) aE) (aD (aH hr (aC 0) aE) aG))))))) (λ_ _ _ _ _=>(aC 0)))
    (aJ (aO (fL (cP (fP hr.units).op (aC 2) (bB (cC aG))) (gC (cP (jP hr.units).op dS (bB (dI (sc:=aV oH) (XN:=O9) (N:=["_law_field","_law_other"]) (fr:=[1]) (bK (aH hr (aC 0) aE)) (λ_ _ _ _ _=>(aL PJ hr (aD (aH hr (aC 0) aE) (aD (aH hr (aC 1) aE) aG)))))) rfl))))))
    aX)
   (aI (iP (sc:=aV oH) (XN:=O9) (N:=["_law_text_here","_law_other"]) (fr:=[1]) 2 nd (bK (aL Qa hr (aD (aH hr (aC 0) aE) aG))) (λ_ _ _ _ _=>(eK (eM (cW (aL PQ hr (aD (aH hr (aC 1) aE) (aD (aC 0) aG))))))) (λ_ _ _ _ _=>(aC 0)))
   (aJ (aO (fL (cP (fP hr.units).op (aC 2) (bB (cC aG))) (gC (aL PJ hr (aD (aH hr (aC 0) aE) (aD (aH hr (aC 1) aE) aG)))))))))))) (λas R q=>?_)
 obtain⟨p,q',rfl,hp,hq,kp,kq,q⟩:=q;cases p<;>first|(simp[bA]at kp;done)|skip
 all_goals (cases q'<;>first|(simp[bA]at kq;done)|skip)
 ·rename_i a b fs a' b' gs;rw[A4]at q;have ea:[Ar.va (aU (.record a b fs)),.va (aU (.record a' b' gs))]=[.va (.seq true [sT "record",iT a,iT b,.seq true (fs.map bR)]),.va (.seq true [sT "record",iT a',iT b',.seq true (gs.map bR)])]:=by rw[bS,bS]
  rw[bS,bS];refine⟨rfl,a,b,a',b',_,_,_,_,rfl,_,rfl,?_⟩;show if (!e_ a b a' b')=true then _ else _
  cases z:e_ a b a' b' with
  |false=>rw[z,fw]at q;exact bW q
  |true=>
   rw[z,du]at q;exact bG ⟨_,ar,_,rfl,sN (by decide +kernel) (bG ⟨_,ar,_,rfl,sY ⟨a,b,fs,a',b',gs,ea.symm,hp,hq,q⟩⟩)⟩
 ·rename_i a b fs a' b' w g;rw[A5 _ _ hp.2.1]at q;have fl:=hp.1;rw[bS,cQ];refine⟨rfl,a,b,a',b',_,_,_,_,rfl,_,rfl,?_⟩;show if (!e_ a b a' b')=true then _ else _
  cases z:e_ a b a' b' with
  |false=>rw[z,fw]at q;exact bW q
  |true=>
   rw[z,du]at q;refine bG ⟨_,ar,_,rfl,sN (by decide +kernel) (bG ⟨_,ar,_,rfl,sN (by decide +kernel) ⟨_,ar,_,rfl,sY ?_⟩⟩)⟩;refine⟨_,aQ (j:=3) rfl,by rw[aq];omega,dL bR (λy=>if bZ w y.1=true then none else some (bR y)) (λy hy R q=>?_) ?_⟩
   ·refine⟨_,aQ (j:=3) rfl,_,ar,w,y.1,rfl,hq.1,(hp.2.2 y hy).1.1,bu (hp.2.2 y hy).1.2 (by decide),_,rfl,?_⟩;cases z:bZ w y.1 with
    |true=>rw[if_pos z]at q;exact bG q
    |false=>rw[if_neg (by rw[z];exact b9)]at q;exact bW q
   have en:(fs.filterMap λy=>if bZ w y.1=true then none else some (bR y)).isEmpty=(bc fs).all (bZ w):=by
    rw[pO (p:=λy:Fd=>bZ w y.1)];unfold bc;rw[jx];rfl
   refine⟨by simp,.inr (.inl rfl),_,rfl,?_⟩;show if (false != ((false==false)&&cM _ []))=true then _ else _
   rw[kR,en];cases z2:(bc fs).all (bZ w) with
   |false=>
    rw[z2,fw]at q;exact bG q
   |true=>
    rw[z2,du]at q;refine bW ⟨_,aQ (j:=3) rfl,by rw[aq];omega,cX bR (λy=>bT (ff n y.2.2 g)) (λy hy R q=>⟨_,aQ (j:=2) rfl,_,aQ (j:=4) rfl,y.2.2,g,rfl,(hp.2.2 y hy).2.1,hq.2.2.1,(hp.2.2 y hy).2.2,hq.2.2.2,q⟩) ?_⟩;rw[show fs.map (λy=>bT (ff n y.2.2 g))=(fs.map λy=>ff n y.2.2 g).map bT by rw[cv];rfl];refine⟨oW,?_⟩;rw[yE,jx];exact q
 ·rename_i a b w f a' b' gs;have q:R (bT false):=q;rw[bS,cQ];refine⟨rfl,a,b,a',b',_,_,_,_,rfl,_,rfl,?_⟩;show if (!e_ a b a' b')=true then _ else _
  cases z:e_ a b a' b' with
  |false=>exact bW q
  |true=>exact bG ⟨_,ar,_,rfl,sY ⟨_,ar,_,rfl,sY q⟩⟩
 ·rename_i a b w f a' b' w' g;rw[A6,Cg hp.1 hq.1]at q;have sh:=(rY hp.1).1;have wl:=JZ hp.1;rw[cQ,cQ];refine⟨rfl,a,b,a',b',_,_,_,_,rfl,_,rfl,?_⟩;show if (!e_ a b a' b')=true then _ else _
  cases z:e_ a b a' b' with
  |false=>rw[z,fw]at q;exact bW q
  |true=>
   rw[z,du]at q;refine bG ⟨_,ar,_,rfl,sY ⟨_,ar,_,rfl,sN (by decide +kernel) ⟨_,ar,_,rfl,sN (by decide +kernel) ⟨_,ar,_,rfl,sN (by decide +kernel) ?_⟩⟩⟩⟩;refine⟨_,aQ (j:=3) rfl,w,rfl,hp.1,by rw[aq];omega,dL sT (λt=>if bZ w' t=true then none else some (sT t)) (λt ht R q=>?_) ?_⟩
   ·refine⟨_,aQ (j:=3) rfl,w',t,rfl,hq.1,(sh t ht).2.1,bu (sh t ht).2.2 (by decide),_,rfl,?_⟩;cases z:bZ w' t with
    |true=>rw[if_pos z]at q;exact bG q
    |false=>rw[if_neg (by rw[z];exact b9)]at q;exact bW q
   refine⟨by simp,.inr (.inl rfl),_,rfl,?_⟩;show if (false != ((false==false)&&cM _ []))=true then _ else _
   rw[kR,pO];cases z2:(kY w).all λt=>bZ w' t with
   |false=>
    rw[z2,fw]at q;exact bG q
   |true=>
    rw[z2,du]at q;exact bW ⟨_,aQ (j:=4) rfl,_,aQ (j:=4) rfl,f,g,rfl,hp.2.2.1,hq.2.2.1,hp.2.2.2,hq.2.2.2,q⟩
noncomputable def Ck(n:Nat):bf:=λas R=>∃p q:Pt,as=[.va (aU p),.va (aU q)]/\PW (n+1) p/\PW (n+1) q/\bA q=bA p/\R (bT (lr n p q))
theorem sP{p q:Pt}(h:gZ p q=[]):lr n p q=o5 p q:=by unfold lr;rw[h];show(_&&true)=_;rw[nv]
theorem EG:dN O4 OJ (aV mL):=ke (by decide +kernel)
theorem FL(h:ai K mg "_law_part_within" mL)(B:Own mg)(Qy:ae P w K mg base 3 "_law_part_lets" OP rS)(Qa:ae P w K mg base 2 "_law_witness" O1 qE)(PQ:ae P w K mg base 2 "_law_words_let" OV iE)(PJ:ae P w K mg base (4*n+5) "_law_within" OJ (gG n))(Qb:ae P w K mg base 1 "_law_between" OJ jL)(Q2:ae P w K mg base (4*n+7) "_law_dict_within" OJ (BL n))   : ae P w K mg base (4*n+8) "_law_part_within" OJ (Ck n):=by
 refine h.pg2 O4 (λnd hr=>
   (aI (bC 2 nd (aH hr (aC 0) aE))
   (aI (aY (bD hr (aC 2) aT)
    (aJ (aO (cP (fP hr.units).op (bB (gK (sc:=aV mL) (XN:=O4) (N:=["_law_truth","_law_other"]) (fr:=[1]) (bK (aH hr (aC 0) aE)) (λ_ _ _ _ _=>(eK (cO (jP hr.units) (aC 0) (aH hr (aC 1) aE) rfl))) (λ_ _ _ _ _=>(aC 0)))) (bB (cC aG)))))
    aX)
   (aI (aY (bD hr (aC 2) aT)
    (aI (bC 3 nd (bB (cC (aD (aH hr (aC 0) aE) (aD (aH hr (aC 0) aE) (aD (bE cD (aH hr (aC 0) aE) (aH hr (aC 0) aE)) aG))))))
    (aJ (aO (cP (jP hr.units).op dS (bB (dI (sc:=aV mL) (XN:=O4) (N:=["_law_number_here","_law_other"]) (fr:=[1]) (bK (aC 3)) (λ_ _ _ _ _=>(aL Qy hr (aD (aC 1) (aD (aC 0) aG)))))) rfl))))
    aX)
   (aI (aY (bD hr (aC 2) aT)
    (aJ (aO (cP (fP hr.units).op (bB (gK (sc:=aV mL) (XN:=O4) (N:=["_law_text_here","_law_other"]) (fr:=[1]) (bK (aL Qa hr (aD (aH hr (aC 0) aE) aG))) (λ_ _ _ _ _=>(eK (eM (cW (aL PQ hr (aD (aH hr (aC 1) aE) (aD (aC 0) aG))))))) (λ_ _ _ _ _=>(aC 0)))) (bB (cC aG)))))
    aX)
   (aI (aY (bD hr (aC 2) aT)
    (aJ (aO (fL (aL Qb hr (aD (aC 0) (aD (aC 1) aG))) (gC (aL PJ hr (aD (aH hr (aC 0) aE) (aD (aH hr (aC 1) aE) aG)))))))
    aX)
   (aJ (aO (GK (cP (fP hr.units).op (aC 2) aT) (gC (aL Q2 hr (aD (aC 0) (aD (aC 1) aG))))))))))))) (λas R q=>?_)
 obtain⟨p,q',rfl,hp,hq,k,q⟩:=q;by_cases k5:bA p=5
 ·obtain⟨r,ep,_⟩:=pD p;have ea:[Ar.va (.seq true (sT (jF p)::r)),.va (aU q')]=[.va (aU p),.va (aU q')]:=by rw[ep]
  have hw:jF p="record"\/jF p="table":=by cases p<;>first|(simp[bA]at k5;done)|exact .inl rfl|exact .inr rfl
  rw[ep];generalize jF p=w at hw ea;refine⟨rfl,_,ar,_,rfl,sN (by rcases hw with rfl|rfl<;>decide +kernel) ⟨_,rfl,sN (by rcases hw with rfl|rfl<;>decide +kernel) ⟨_,rfl,sN (by rcases hw with rfl|rfl<;>decide +kernel) ⟨_,rfl,sN (by rcases hw with rfl|rfl<;>decide +kernel) ⟨_,rfl,sN (by rcases hw with rfl|rfl<;>decide +kernel) ⟨p,q',ea,hp,hq,k5,k.trans k5,q⟩⟩⟩⟩⟩⟩
 cases p<;>cases q'<;>first|(simp[bA]at k;done)|exact absurd rfl k5|skip
 all_goals first|rw[sP rfl]at q|skip
 ·rw[oQ];exact⟨rfl,_,ar,_,rfl,sN (by decide +kernel) ⟨_,rfl,sN (by decide +kernel) ⟨_,rfl,sN (by decide +kernel) ⟨_,rfl,sN (by decide +kernel) ⟨_,rfl,sY q⟩⟩⟩⟩⟩
 ·rename_i bs cs;rw[jI,jI];have bl:bs.length<=2:=by rcases hp with rfl|rfl|rfl<;>simp
  refine⟨rfl,_,ar,_,rfl,sY ⟨_,aQ (j:=1) rfl,by rw[aq];omega,dL bT (λb=>if decide (b∈cs)=true then none else some (bT b)) (λb hb R q=>⟨_,aQ (j:=1) rfl,oW,_,rfl,?_⟩) ⟨by simp,.inr (.inl rfl),?_⟩⟩⟩
  ·have e:(true != (cs.map bT).any λk=>L2.eqT k (bT b))=!decide (b∈cs):=by rw[<-Al];cases (cs.map bT).any λk=>L2.eqT k (bT b)<;>rfl
   show if (true != (cs.map bT).any λk=>L2.eqT k (bT b))=true then _ else _
   rw[e];cases z:decide (b∈cs) with
   |true=>rw[if_pos z]at q;exact bG q
   |false=>rw[if_neg (by rw[z];exact b9)]at q;exact bW q
  ·show R (bT (false != ((false==false)&&cM _ [])));rw[kR,pO];exact q
 ·rename_i lo hi st lo' hi' st';rw[iG,iG];refine⟨rfl,_,ar,_,rfl,sN (by decide +kernel) ⟨_,rfl,sY ?_⟩⟩;refine⟨_,aQ (j:=1) rfl,_,aQ (j:=2) rfl,_,aQ (j:=1) rfl,_,aQ (j:=3) rfl,by simp,?_⟩;refine⟨by simp,cX iT (λi=>bT (cS lo' hi' st' i)) (l:=fH lo hi st) (λi _ R q=>⟨lo',hi',st',i,by rw[iG],hq,q⟩) ?_⟩;have e:(fH lo hi st).map (λi=>bT (cS lo' hi' st' i))=((fH lo hi st).map λi=>cS lo' hi' st' i).map bT:=by rw[cv];rfl
  rw[e];refine⟨oW,?_⟩;rw[yE,jx];exact q
 ·rename_i w w';rw[jJ,jJ];have sh:=(rY hp).1;have wl:(kY w).length<=100:=by
   cases w with
   |few ss=>exact bu hp.2.1 (by decide)
   |make hd lo hi ms=>
    show((((cL ms).map λc=>hd++cA c (if lo > 1 then lo else 1))++(if lo=0 then [hd] else []))++[hd++cA ((cL ms).headD 0) hi]).length<=100;have:(cL ms).length<=94:=by
     refine bu (fk _ _) ?_;rw[<-WordM.len,nD];exact bp _
    rw[b8,b8,aq];split<;>simp<;>omega
  have q:R (bT (eZ w w').isNone):=q;rw[Cg hp hq]at q;refine⟨rfl,_,ar,_,rfl,sN (by decide +kernel) ⟨_,rfl,sN (by decide +kernel) ⟨_,rfl,sY ⟨_,aQ (j:=1) rfl,w,rfl,hp,by rw[aq];omega,dL sT (λt=>if bZ w' t=true then none else some (sT t)) (λt ht R q=>⟨_,aQ (j:=1) rfl,w',t,rfl,hq,(sh t ht).2.1,bu (sh t ht).2.2 (by decide),_,rfl,?_⟩) ⟨by simp,.inr (.inl rfl),?_⟩⟩⟩⟩⟩
  ·cases z:bZ w' t with
   |true=>rw[if_pos z]at q;exact bG q
   |false=>rw[if_neg (by rw[z];exact b9)]at q;exact bW q
  ·show R (bT (false != ((false==false)&&cM _ [])));rw[kR,pO];exact q
 ·rename_i a b f a' b' f';rw[fV,fV];have q:R (bT (e_ a b a' b'&&(ff n f f'&&true))):=q;rw[nv]at q;refine⟨rfl,_,ar,_,rfl,sN (by decide +kernel) ⟨_,rfl,sN (by decide +kernel) ⟨_,rfl,sN (by decide +kernel) ⟨_,rfl,sY ⟨a,b,a',b',_,_,_,_,rfl,_,rfl,?_⟩⟩⟩⟩⟩;show if e_ a b a' b'=true then _ else _
  cases z:e_ a b a' b' with
  |false=>rw[z,fw]at q;exact bG q
  |true=>
   rw[z,du]at q;exact bW ⟨_,aQ (j:=3) rfl,_,aQ (j:=3) rfl,f,f',rfl,hp.1,hq.1,hp.2,hq.2,q⟩
theorem g79_(h:ai K mg "_law_within" oG)(B:Own mg)(PY:ae P w K mg base 1 "_law_kind" OX pK)(QB:ae P w K mg base (4*n+8) "_law_part_within" OJ (Ck n))   : ae P w K mg base (4*n+9) "_law_within" OJ (gG (n+1)):=by
 refine h.pg2 O_ (λnd hr=>
   (aI (fJ (m:=4) i4 rfl (bK (aC 0)) (eG 2 (by decide) nd rfl (.inr rfl))
    (aI (iP (sc:=aV oG) (XN:=O_) (N:=["_law_there","_law_part"]) (fr:=[2]) 3 nd (bK (aC 1)) (λ_ _ _ _ _=>(eK (bD hr (aL PY hr (aD (aC 0) aG)) (aL PY hr (aD (aC 1) aG))))) (λ_ _ _ _ _=>(aC 0)))
    (aJ (aY (dX (fO (bD hr (aC 3) (bB (cC aG))) (gB (eM (cW (aL QB hr (aD (aC 2) (aD (aH hr (aC 3) aE) aG))))))))
     (aJ (aO dS))
     aX))))
   (aJ (aO dS)))) (λas R q=>?_)
 obtain⟨f,g,rfl,lf,lg,hf,hg,q⟩:=q;refine⟨rfl,?_⟩;refine lU aU (l:=f) (λi ρ=>(∀j p,j<i->f[j]?=some p->k_ n p (g.find? λq=>decide (bA q=bA p))=true)/\∃s1 s2,ρ=[.va (bJ f),.va (bJ g),s1,s2]) ⟨λj p h=>absurd h (km _),.no,.no,rfl⟩ ?_ ?_
 ·rintro i p _ N hp ⟨hj,s1,s2,rfl⟩ hN;have hpm:=i7 hp;have bad:k_ n p (g.find? λq=>decide (bA q=bA p))=false->R (bT false):=λe=>by
   have:ff (n+1) f g=false:=by
    rw[rZ,List.all_eq_false];exact⟨p,hpm,by rw[e];exact b9⟩
   rw[this]at q;exact q
  refine⟨?_,dL aU (λq=>if decide (bA q=bA p)=true then some (aU q) else none) (λq' hq' R q=>⟨q',rfl,p,rfl,_,rfl,fS (λz=>?_) (λz=>?_)⟩) ?_⟩
  ·rw[aq];omega
  ·have z:=Mk (sL q') (sL p) z;rw[if_pos (cm z)]at q;exact q
  ·rw[if_neg (λe=>z (by rw[gm e]))]at q;exact q
  ·have ef:∀l:List Pt,(l.filterMap λq=>if decide (bA q=bA p)=true then some (aU q) else none)=(l.filter λq=>decide (bA q=bA p)).map aU:=λl=>by
    induction l with
    |nil=>rfl
    |cons a l ih=>
     rw[i9,ny,ih];cases decide (bA a=bA p)<;>simp
   rw[ef];have hfd:g.find? (λq=>decide (bA q=bA p))=(g.filter λq=>decide (bA q=bA p)).head?:=(List.head?_filter ..).symm;rw[hfd]at bad;have hgd:k_ n p (g.filter λq=>decide (bA q=bA p)).head?=true->∀j p,j<i+1->f[j]?=some p->k_ n p (g.find? λq=>decide (bA q=bA p))=true:=λe j p' hj' ep=>by
    by_cases z:j=i
    ·subst z;rw[hp]at ep;cases ep;rw[hfd];exact e
    ·exact hj j p' (by omega) ep
   have hm:∀q∈g.filter λq=>decide (bA q=bA p),PW (n+1) q/\bA q=bA p:=λq hq=>⟨hg q (qS_.mp hq).1,by simpa using (qS_.mp hq).2⟩
   generalize (g.filter λq=>decide (bA q=bA p))=L at bad hgd hm;show az.nx _ _;refine e7 (ρ':=[.va (bJ f),.va (bJ g),.va (aU p),.va (.seq false (L.map aU))]) rfl ?_;refine⟨by simp,.inr (.inl rfl),_,rfl,?_⟩;show if (false != ((false==false)&&cM (L.map aU) []))=true then _ else _
   rw[kR];cases L with
   |nil=>exact bW (bad rfl)
   |cons q0 L=>
    obtain⟨h1,h2⟩:=hm q0 (by simp);refine bG ⟨_,ar,p,q0,rfl,hf p hpm,h1,h2,_,rfl,?_⟩;cases e:lr n p q0 with
    |false=>exact bW (bad e)
    |true=>exact bG (hN _ ⟨hgd e,_,_,rfl⟩)
 ·rintro _ ⟨hj,s1,s2,rfl⟩;have:ff (n+1) f g=true:=by
   rw[rZ,qE_];intro p hp;obtain⟨j,hj',rfl⟩:=qG1_.mp hp;exact hj j _ hj' (cb hj')
  rw[this]at q;exact q
namespace B0
theorem g79_(h:ai K mg "_law_within" oG)(B:Own mg)(PY:ae P w K mg base 1 "_law_kind" OX pK)(QB:ae P w K mg base 4 "_law_part_within" OJ kO)   : ae P w K mg base 5 "_law_within" OJ (gG 0):=by
 refine h.pg2 O_ (λnd hr=>
   (aI (fJ (m:=4) i4 rfl (bK (aC 0)) (eG 2 (by decide) nd rfl (.inr rfl))
    (aI (iP (sc:=aV oG) (XN:=O_) (N:=["_law_there","_law_part"]) (fr:=[2]) 3 nd (bK (aC 1)) (λ_ _ _ _ _=>(eK (bD hr (aL PY hr (aD (aC 0) aG)) (aL PY hr (aD (aC 1) aG))))) (λ_ _ _ _ _=>(aC 0)))
    (aJ (aY (dX (fO (bD hr (aC 3) (bB (cC aG))) (gB (eM (cW (aL QB hr (aD (aC 2) (aD (aH hr (aC 3) aE) aG))))))))
     (aJ (aO dS))
     aX))))
   (aJ (aO dS)))) (λas R q=>?_)
 obtain⟨f,g,rfl,lf,lg,hf,hg,q⟩:=q;cases f with
 |nil=>exact⟨rfl,jA (λi ρ=>True) trivial (λi T _ N hT _ hN=>by cases hT) (λ_ _=>q)⟩
 |cons p f=>exact False.elim (hf p (by simp))
end B0
theorem Bb(hw:ai K mg "_law_within" oG)(hp:ai K mg "_law_part_within" mL)(hd:ai K mg "_law_dict_within" oH)(hr:ai K mg "_law_record_within" lC)(B:Own mg)
  (G1:ae P w K mg base 1 "_law_kind" OX pK) (G2:ae P w K mg base 3 "_law_part_lets" OP rS) (G3:ae P w K mg base 2 "_law_words_let" OV iE) (G4:ae P w K mg base 2 "_law_witness" O1 qE) (G5:ae P w K mg base 1 "_law_between" OJ jL):∀n:Nat,ae P w K mg base (4*n+5) "_law_within" OJ (gG n)
 |0=>B0.g79_ hw B G1 (hp.pfalse EG (fun|_,_,_,_,_,_,[_,_],_=>rfl) λas R h=>h)
 |n+1=>by
  have Gw:=Bb hw hp hd hr B G1 G2 G3 G4 G5 n;have Gr:=FJ hr B Gw;have Gd:=FK hd B G5 Gr G3 Gw G4;exact g79_ hw B G1 (FL hp B G2 G4 G3 Gw G5 Gd)
open WordM ShowM
theorem BZ{T:List Str}(hs:∀t∈T,Sg t){t:Str}(ht:t∈T):bZ (bP T) t=true:=by
 have ne:T≠[]:=λz=>by rw[z]at ht;exact nomatch ht
 have w:=lQ ne;generalize bP T=W at w;cases W with
 |few ss=>exact cm (by rw[w.1];exact sort_set_mem.mpr ht)
 |make hd lo hi ms=>
  obtain⟨_,m⟩:=w;obtain⟨r,e⟩:=m.he.all t ht;have el:(t.length:Int)-(hd.length:Int)=r.length:=by rw[WordM.len t,WordM.len hd,e,b8];push_cast;omega
  have h1:=m.lo2 t ht;have h2:=m.hi2 t ht;refine letW_make.mpr ⟨r,e,by omega,by omega,λc hc=>?_⟩;rw[m.mks,kD];exact⟨t,ht,c,by rw[gI e];exact hc,rfl⟩
theorem IV{T:List Str}{hd:Str}(h:bo T hd)(ne:T≠[])(hs:∀t∈T,Sg t):Sg hd:=by
 obtain⟨t,ht⟩:=ic _ ne;obtain⟨r,e⟩:=h.all t ht;exact λc hc=>hs t ht c (by rw[e];exact fe _ hc)
theorem zG{T:List Str}(ne:T≠[])(ht:∀t∈T,eJ t):m8 (bP T):=by
 have w:=lQ ne;generalize bP T=W at w;cases W with
 |few ss=>
  obtain⟨e,l⟩:=w;subst e;have sl:(bF (aN T)).length=(aN T).length:=(fU _).length_eq;have:bF (aN T)≠[]:=nC ne;have:=qX1_.mpr this;exact⟨by omega,by omega,iC _,λt h=>ht t (sort_set_mem.mp h)⟩
 |make hd lo hi ms=>
  obtain⟨h7,m⟩:=w;obtain⟨t1,p1,q1⟩:=m.lo1;obtain⟨t2,p2,q2⟩:=m.hi1;have rl:∀t∈T,∃r,cs t=cs hd++r/\(t.length:Int)-(hd.length:Int)=r.length:=λt ht=>by
   obtain⟨r,e⟩:=m.he.all t ht;exact⟨r,e,by rw[WordM.len t,WordM.len hd,e,b8];push_cast;omega⟩
  obtain⟨r1,e1,l1⟩:=rl t1 p1;obtain⟨r2,e2,l2⟩:=rl t2 p2;have lh:hd.length<=t1.length:=by rw[WordM.len,WordM.len,e1,b8];omega
  have h1:=(ht t1 p1).2;have h2:=(ht t2 p2).2;have lohi:=m.hi2 t1 p1;have some1:∃t∈T,∃c r,cs t=cs hd++c::r:=by
   apply Classical.byContradiction;intro z;have al:∀t∈T,t=hd:=λt ht=>by
    obtain⟨r,e,_⟩:=rl t ht;cases r with
    |nil=>exact jQ (by rw[e,i8])
    |cons c r=>exact absurd ⟨t,ht,c,r,e⟩ z
   have:=WordM.nodup_len (eI T) (m:=[hd]) λx hx=>by rw[al x ((dM T x).mp hx)];exact .head _
   simp at this;omega
  obtain⟨t,pt,c,r,e⟩:=some1;have hi1:1<=hi:=by
   have:=m.hi2 t pt;rw[WordM.len t,WordM.len hd,e,b8,iw]at this;push_cast at this;omega
  refine⟨⟨IV m.he ne λt h=>(ht t h).1,by omega⟩,by omega,by omega,hi1,by omega,by rw[m.mks];exact List.filter_sublist,λz=>?_⟩;have:cU c∈ms:=by
   rw[m.mks,kD];exact⟨t,pt,c,by rw[gI e];exact .head _,rfl⟩
  rw[z]at this;exact nomatch this
theorem kQ{α:Type}{A B:List α}(ne:A≠[])(h:∀x∈A,x∈B):B≠[]:=by
 obtain⟨x,hx⟩:=ic _ ne;exact List.ne_nil_of_mem (h x hx)
theorem L6{A B:List Str}(ne:A≠[])(h:∀t∈A,t∈B)(hs:∀t∈B,Sg t){t:Str}(ht:bZ (bP A) t=true):bZ (bP B) t=true:=by
 have w:=lQ ne;have nB:=kQ ne h;generalize bP A=W at w ht;cases W with
 |few ss=>
  have:t∈ss:=gm ht;rw[w.1]at this;exact BZ hs (h t (sort_set_mem.mp this))
 |make hd lo hi ms=>
  obtain⟨h7,m⟩:=w;have w':=lQ nB;have l7:=fN h;generalize bP B=W at w';cases W with
  |few ss=>obtain⟨e,l⟩:=w';omega
  |make hd' lo' hi' ms'=>
   obtain⟨_,m'⟩:=w';obtain⟨r,e,r1,r2,r3⟩:=letW_make.mp ht;obtain⟨d,ed⟩:=m.he.pre ne λt ht=>m'.he.all t (h t ht)
   obtain⟨t1,p1,q1⟩:=m.lo1;obtain⟨t2,p2,q2⟩:=m.hi1;have a1:=m'.lo2 t1 (h _ p1);have a2:=m'.hi2 t2 (h _ p2);have ld:hd.length=hd'.length+d.length:=by rw[WordM.len hd,WordM.len hd',ed,b8]
   refine letW_make.mpr ⟨d++r,by rw[e,ed,fo],by rw[b8];push_cast;omega,by rw[b8];push_cast;omega,λc hc=>?_⟩;rw[m'.mks,kD];rcases qr_.mp hc with z|z
   ·obtain⟨s,es⟩:=m.he.all t1 p1;exact⟨t1,h _ p1,c,by rw[gI (r:=d++s) (by rw[es,ed,fo])];exact fe _ z,rfl⟩
   ·have:=r3 c z;rw[m.mks,kD]at this;obtain⟨x,px,c',hc',em⟩:=this;obtain⟨s,es⟩:=m.he.all x px;rw[gI es]at hc';exact⟨x,h _ px,c',by rw[gI (r:=d++s) (by rw[es,ed,fo])];exact de _ hc',em⟩
theorem Cf{A B:List Str}(ne:A≠[])(h:∀t∈A,t∈B)(hs:∀t∈B,eJ t):(eZ (bP A) (bP B)).isNone=true:=by
 have sh:=rE (m8.wk (zG ne λt ht=>hs t (h t ht)));rw[ql,eZ,qP1_];intro t ht;have:=L6 ne h (λt ht=>(hs t ht).1) (sh.1 t ht).1;simp[this]
theorem LU{A B:List Int}(ne:A≠[])(h:∀x∈A,x∈B):tX (cK A).1 (cK A).2.1 (cK A).2.2 (cK B).1 (cK B).2.1 (cK B).2.2=true:=by
 have a:=jN ne;have b:=jN (kQ ne h);generalize cK A=r at a;generalize cK B=s at b;obtain⟨lo,hi,st⟩:=r;obtain⟨lo',hi',st'⟩:=s;dsimp only at *;have al:lo∈A:=a.lo;have ah:hi∈A:=a.hi;have dB:∀n∈B,st' ∣ (n-lo'):=(b.dv st').mp (kj _);have hst:st' ∣ st:=(a.dv st').mpr λn hn=>by
  have:=ki (dB n (h n hn)) (dB lo (h lo al));show st' ∣ n-lo;rwa[show n-lo'-(lo-lo')=n-lo by omega]at this
 have key:∀i,lo'<=i->i<=hi'->st' ∣ (i-lo')->cS lo' hi' st' i=true:=λi h1 h2 h3=>by
  have nn:0<=st':=b.nn;have:(i-lo') % max 1 st'=0:=by
   by_cases z:st'=0
   ·subst z;have:=qw2_.mp h3;rw[this];rfl
   ·rw[show max 1 st'=st' by omega];exact Int.emod_eq_zero_of_dvd h3
  unfold cS;rw[cm h1,cm h2,cm this];rfl
 have b1:∀n∈B,lo'<=n:=b.lo';have b2:∀n∈B,n<=hi':=b.hi';have st0:0<=st:=a.nn;have sth:lo+st<=hi:=by
  have lh:lo<=hi:=a.lo' hi ah;have dv:st ∣ hi-lo:=(a.dv st).mp (kj _) hi ah;by_cases z:hi=lo
  ·have:(0:Int) ∣ st:=(a.dv 0).mpr λn hn=>by
    have q1:lo<=n:=a.lo' n hn;have q2:n<=hi:=a.hi' n hn;show(0:Int) ∣ n-lo;exact⟨0,by omega⟩
   have:=qw2_.mp this;omega
  ·have:=Int.le_of_dvd (by omega) dv;omega
 have l1:=b1 lo (h lo al);have l2:=b2 hi (h hi ah);have l3:=b2 lo (h lo al);have l4:=b1 hi (h hi ah);have k1:=key lo l1 l3 (dB lo (h lo al));have k2:=key hi l4 l2 (dB hi (h hi ah))
 have k3:=key (lo+st) (by omega) (by omega) (by
  have:=md (dB lo (h lo al)) hst
  rwa[show lo-lo'+st=lo+st-lo' by omega]at this)
 show(cS lo' hi' st' lo&&(cS lo' hi' st' hi&&(cS lo' hi' st' (lo+st)&&true)))=true;rw[k1,k2,k3];rfl
theorem Ak{A B:List Int}(ne:A≠[])(h:∀x∈A,x∈B):e_ (bM A) (bV A) (bM B) (bV B)=true:=by
 have nB:=kQ ne h;have h1:bM B<=bM A:=(iI nB).2 _ (h _ (iI ne).1);have h2:bV A<=bV B:=(iJ nB).2 _ (h _ (iJ ne).1);unfold e_;rw[cm h1,cm h2];rfl
theorem nW{α β:Type}{f:α->Option β}{A B:List α}(h:∀v∈A,v∈B):∀x∈A.filterMap f,x∈B.filterMap f:=λx hx=>by
 obtain⟨a,ha,e⟩:=qT_.mp hx;exact qT_.mpr ⟨a,h a ha,e⟩
theorem AG{α β:Type}{f:α->β}{A B:List α}(h:∀v∈A,v∈B):∀x∈A.map f,x∈B.map f:=λx hx=>by
 obtain⟨a,ha,e⟩:=qd_.mp hx;exact qd_.mpr ⟨a,h a ha,e⟩
theorem A_{α β:Type}{f:α->List β}{A B:List α}(h:∀v∈A,v∈B):∀x∈A.flatMap f,x∈B.flatMap f:=λx hx=>by
 obtain⟨a,ha,e⟩:=qC1_.mp hx;exact qC1_.mpr ⟨a,h a ha,e⟩
theorem pZ{D:List Tv->List Pt}{ks:List (List (Str×Tv))}(ns:List Str):bc (ns.map (dA D ks))=ns:=by
 unfold bc;rw[cv];exact List.map_id' ns
theorem zE{D:List Tv->List Pt}{ks:List (List (Str×Tv))}{x:Str}:∀{ns:List Str},x∈ns->di (ns.map (dA D ks)) x=D (ij x ks)
 |n::ns,h=>by
  unfold di;rw[d9,fg];by_cases z:n=x
  ·subst z;rw[show decide ((dA D ks n).1=n)=true from cm rfl];rfl
  ·rw[show decide ((dA D ks n).1=x)=false from dq z];exact zE ((qk_.mp h).resolve_left λe=>z e.symm)
theorem must_rec{D:List Tv->List Pt}{ks:List (List (Str×Tv))}{x:Str}{ns:List Str}:x∈dP (ns.map (dA D ks))↔x∈ns/\∀k∈ks,x∈k.map (·.1):=by
 unfold dP;rw[qd_];constructor
 ·rintro⟨y,hy,rfl⟩;obtain⟨h1,h2⟩:=qS_.mp hy;obtain⟨n,hn,rfl⟩:=qd_.mp h1;have h2:(ks.all λk=>decide (n∈k.map (·.1)))=true:=h2;exact⟨hn,λk hk=>gm (qE_.mp h2 k hk)⟩
 ·rintro⟨h1,h2⟩;exact⟨dA D ks x,qS_.mpr ⟨qd_.mpr ⟨x,h1,rfl⟩,qE_.mpr λk hk=>cm (h2 k hk)⟩,rfl⟩
theorem tD(n:Nat)(A:List Tv):(bH n A).length<=6:=by
 cases n with
 |zero=>exact d8 _
 |succ n=>exact tj _ kN6
variable{nm tx:List Str}{st sp:Int}
theorem xw{n:Nat}{A:List Tv}(hw:gV nm tx st sp)(h:∀v∈A,VD nm tx n v):∀s∈A.filterMap gb,eJ s:=λs hs=>by
 obtain⟨v,hv,e⟩:=qT_.mp hs;rw[Aj]at e;subst e;have:=h _ hv;cases n with
 |zero=>exact False.elim this
 |succ n=>have:=hw.ts s this;exact⟨this.1,by omega⟩
theorem xu{n:Nat}{A:List Tv}(h:∀v∈A,VD nm tx (n+1) v):∀v∈(A.filterMap ck).flatten,VD nm tx n v:=λv hv=>by
 obtain⟨l,hl,hv⟩:=qh1_.mp hv;obtain⟨u,hu,e⟩:=qT_.mp hl;rw[Ai]at e;subst e;exact(h _ hu).2 v hv
theorem xt{n:Nat}{A:List Tv}(h:∀v∈A,VD nm tx (n+1) v):∀k∈A.filterMap d3,(k.map (·.1)).Nodup/\∀kt∈k,kt.1∈nm/\VD nm tx n kt.2:=λk hk=>by
 obtain⟨u,hu,e⟩:=qT_.mp hk;rw[Ah]at e;subst e;have:=h _ hu;exact⟨this.1,this.2.2⟩
theorem AI{ks:List (List (Str×Tv))}{n:Nat}(h:∀k∈ks,(k.map (·.1)).Nodup/\∀kt∈k,kt.1∈nm/\VD nm tx n kt.2):∀x∈aR ks,x∈nm:=λx hx=>by
 obtain⟨k,hk,hx⟩:=qC1_.mp hx;obtain⟨kt,hkt,rfl⟩:=qd_.mp hx;exact((h k hk).2 kt hkt).1
theorem x8{ks:List (List (Str×Tv))}{n:Nat}(h:∀k∈ks,(k.map (·.1)).Nodup/\∀kt∈k,kt.1∈nm/\VD nm tx n kt.2){x:Str}:∀v∈ij x ks,VD nm tx n v:=λv hv=>by
 obtain⟨k,hk,e⟩:=(pP λk hk=>(h k hk).1).mp hv;exact((h k hk).2 _ e).2
theorem yV{ks:List (List (Str×Tv))}{n:Nat}(h:∀k∈ks,(k.map (·.1)).Nodup/\∀kt∈k,kt.1∈nm/\VD nm tx n kt.2):∀v∈dG ks,VD nm tx n v:=λv hv=>by
 obtain⟨k,hk,n,e⟩:=vls_mem.mp hv;exact((h k hk).2 _ e).2
theorem AV(hw:gV nm tx st sp):∀(n:Nat) (A:List Tv),(∀v∈A,VD nm tx n v)->∀p∈bH n A,PW n p
 |0,A,h,p,hp=>nomatch hp
 |n+1,A,h,p,hp=>by
  have ih:=AV hw n;obtain⟨k,hk,e⟩:=qT_.mp hp;simp only[kN6,qk_,fb,or_false]at hk;rcases hk with rfl|rfl|rfl|rfl|rfl|rfl
  ·have e:(if eF A=true then some Pt.nothing else none)=some p:=e;split at e
   ·cases e;trivial
   ·cases e
  ·have e:(if A.filterMap gf=[] then none else some (Pt.truths (cq (cp (A.filterMap gf)) (cn (A.filterMap gf)))))=some p:=e;split at e
   ·cases e
   ·rename_i ne;cases e;generalize A.filterMap gf=bs at ne;have:cp bs=true\/cn bs=true:=by
     obtain⟨b,hb⟩:=ic _ ne;cases b with
     |false=>exact .inl (qA_.mpr ⟨false,hb,rfl⟩)
     |true=>exact .inr (qA_.mpr ⟨true,hb,rfl⟩)
    show cq _ _=_\/cq _ _=_\/cq _ _=_;cases h1:cp bs<;>cases h2:cn bs<;>first|(rw[h1,h2]at this;simp at this;done)|exact .inl rfl|exact .inr (.inl rfl)|exact .inr (.inr rfl)
  ·have e:(if A.filterMap gc=[] then none else some (Pt.numbers (cK (A.filterMap gc)).1 (cK (A.filterMap gc)).2.1 (cK (A.filterMap gc)).2.2))=some p:=e;split at e
   ·cases e
   ·rename_i ne;cases e;have a:=jN ne;show oO _ _ _;generalize cK (A.filterMap gc)=r at a;obtain⟨lo,hi,s⟩:=r;dsimp only;have ah:hi∈A.filterMap gc:=a.hi;have lh:lo<=hi:=a.lo' hi ah;have nn:0<=s:=a.nn;have dv:s ∣ hi-lo:=(a.dv s).mp (kj _) hi ah;refine⟨lh,nn,⟨λz=>?_,λz=>?_⟩,λz=>Int.emod_eq_zero_of_dvd dv⟩
    ·rw[z]at dv;have:=qw2_.mp dv;omega
    ·have:(0:Int) ∣ s:=(a.dv 0).mpr λn hn=>by
      have q1:lo<=n:=a.lo' n hn;have q2:n<=hi:=a.hi' n hn;show(0:Int) ∣ n-lo;exact⟨0,by omega⟩
     exact qw2_.mp this
  ·have e:(if A.filterMap gb=[] then none else some (Pt.texts (bP (A.filterMap gb))))=some p:=e;split at e
   ·cases e
   ·rename_i ne;cases e;exact m8.wk (zG ne (xw hw h))
  ·have e:(if A.filterMap ck=[] then none else some (Pt.lists (bM (dF (A.filterMap ck))) (bV (dF (A.filterMap ck))) (bH n (A.filterMap ck).flatten)))=some p:=e;split at e
   ·cases e
   ·cases e;exact⟨bu (tD ..) (by decide),ih _ (xu h)⟩
  ·have e:(if A.filterMap d3=[] then none else some (dh (bH n) (A.filterMap d3)))=some p:=e;split at e
   ·cases e
   ·rename_i ne;have hd:=xt h;generalize A.filterMap d3=ks at ne e hd;cases e;have nt:∀x∈aR ks,eJ x:=λx hx=>by have:=hw.ns x (AI hd x hx);exact⟨this.1,by omega⟩
    unfold dh;split
    ·rename_i l8;refine⟨by rw[aq,Mb];exact l8,?_,λx hx=>?_⟩
     ·show fE (bc _);rw[pZ];exact iC _
     ·obtain⟨y,hy,rfl⟩:=qd_.mp hx;have:=nt y (sort_set_mem.mp hy);exact⟨⟨this.1,bu this.2 (by decide)⟩,bu (tD ..) (by decide),ih _ (x8 hd)⟩
    ·rename_i l8;have nn:aR ks≠[]:=λz=>l8 (by rw[z];exact d8 _)
     refine⟨m8.wk (zG nn nt),?_,bu (tD ..) (by decide),ih _ (yV hd)⟩;have w:=lQ nn;generalize bP (aR ks)=W at w;cases W with
     |few ss=>obtain⟨_,l⟩:=w;omega
     |make=>rfl
theorem JN(hw:gV nm tx st sp){n:Nat}(ih:∀A B:List Tv,(∀v∈A,v∈B)->(∀v∈B,VD nm tx n v)->ff n (bH n A) (bH n B)=true){ks js:List (List (Str×Tv))}(ne:ks≠[])(h:∀k∈ks,k∈js)(hd:∀k∈js,(k.map (·.1)).Nodup/\∀kt∈k,kt.1∈nm/\VD nm tx n kt.2):lr n (dh (bH n) ks) (dh (bH n) js)=true:=by
 have nt:∀x∈aR js,eJ x:=λx hx=>by have:=hw.ns x (AI hd x hx);exact⟨this.1,by omega⟩
 have hn:∀x∈aR ks,x∈aR js:=A_ h;have hv:∀v∈dG ks,v∈dG js:=A_ h;have ha:∀x,∀v∈ij x ks,v∈ij x js:=λx=>nW h
 have hav:∀x,∀v∈ij x ks,v∈dG js:=λx v hx=>by
  obtain⟨k,hk,e⟩:=(pP λk hk=>(hd k (h k hk)).1).mp hx;exact vls_mem.mpr ⟨k,h k hk,x,e⟩
 have bd:=Ak (A:=bO ks) (B:=bO js) (λz=>ne (qr3_.mp z)) (AG h);have sl:=fN hn;unfold dh;by_cases z1:(aN (aR ks)).length<=8
 ·rw[if_pos z1];by_cases z2:(aN (aR js)).length<=8
  ·rw[if_pos z2,A4,bd,du];unfold qQ;rw[pZ,pZ,i6,i6];refine⟨⟨qE_.mpr λx hx=>cm (sort_set_mem.mpr (hn x (sort_set_mem.mp hx))),qE_.mpr λx hx=>cm ?_⟩,qE_.mpr λy hy=>?_⟩
   ·obtain⟨h1,h2⟩:=must_rec.mp hx;refine must_rec.mpr ⟨?_,λk hk=>h2 k (h k hk)⟩;obtain⟨k,hk⟩:=ic _ ne;exact sort_set_mem.mpr (qC1_.mpr ⟨k,hk,h2 k (h k hk)⟩)
   ·obtain⟨x,hx,rfl⟩:=qd_.mp hy;have hx:=(qS_.mp hx).1;dsimp only;rw[zE hx,zE (sort_set_mem.mpr (hn x (sort_set_mem.mp hx)))];exact ih _ _ (ha x) (x8 hd)
  ·rw[if_neg z2,A5 _ _ (by rw[pZ];exact iC _),bd,du,pZ,i6];refine⟨qE_.mpr λx hx=>BZ (λt ht=>(nt t ht).1) (hn x (sort_set_mem.mp hx)),qE_.mpr λy hy=>?_⟩;obtain⟨x,hx,rfl⟩:=qd_.mp hy;exact ih _ _ (hav x) (yV hd)
 ·have z2:¬(aN (aR js)).length<=8:=by omega
  rw[if_neg z1,if_neg z2,A6,bd,du,i6];exact⟨Cf (λz=>z1 (by rw[z];exact d8 _)) hn nt,ih _ _ hv (yV hd)⟩
theorem Ag(hw:gV nm tx st sp):∀(n:Nat) (A B:List Tv),(∀v∈A,v∈B)->(∀v∈B,VD nm tx n v)->ff n (bH n A) (bH n B)=true
 |0,A,B,_,_=>rfl
 |n+1,A,B,h,hB=>by
  have ih:=Ag hw n;rw[rZ,qE_];intro p hp;obtain⟨k,hk,e⟩:=qT_.mp hp;have fd:(bH (n+1) B).find? (λq=>decide (bA q=bA p))=bX (bH n) B k:=by rw[wR e];exact Ki hk
  rw[fd];simp only[kN6,qk_,fb,or_false]at hk;rcases hk with rfl|rfl|rfl|rfl|rfl|rfl
  ·have e:(if eF A=true then some Pt.nothing else none)=some p:=e;split at e
   ·rename_i ha;cases e;have:eF B=true:=by
     obtain⟨v,hv,z⟩:=qA_.mp ha;exact qA_.mpr ⟨v,h v hv,z⟩
    show k_ n _ (if eF B=true then some Pt.nothing else none)=true;rw[if_pos this];rfl
   ·cases e
  ·have e:(if A.filterMap gf=[] then none else some (Pt.truths (cq (cp (A.filterMap gf)) (cn (A.filterMap gf)))))=some p:=e;have hs:=nW (f:=gf) h;show k_ n p (if B.filterMap gf=[] then none else some (Pt.truths (cq (cp (B.filterMap gf)) (cn (B.filterMap gf)))))=true;generalize A.filterMap gf=as at e hs;generalize B.filterMap gf=bs at hs;split at e
   ·cases e
   ·rename_i ne;cases e;rw[if_neg (kQ ne hs)];show lr n _ _=true;rw[sP rfl];have i1:cp as=true->cp bs=true:=λz=>by
     obtain⟨v,hv,z⟩:=qA_.mp z;exact qA_.mpr ⟨v,hs v hv,z⟩
    have i2:cn as=true->cn bs=true:=λz=>by
     obtain⟨v,hv,z⟩:=qA_.mp z;exact qA_.mpr ⟨v,hs v hv,z⟩
    show((cq (cp as) (cn as)).all λb=>decide (b∈cq (cp bs) (cn bs)))=true;generalize cp as=a1 at i1;generalize cn as=a2 at i2;generalize cp bs=b1 at i1;generalize cn bs=b2 at i2;revert i1 i2;revert a1 a2 b1 b2;decide
  ·have e:(if A.filterMap gc=[] then none else some (Pt.numbers (cK (A.filterMap gc)).1 (cK (A.filterMap gc)).2.1 (cK (A.filterMap gc)).2.2))=some p:=e;have hs:=nW (f:=gc) h;show k_ n p (if B.filterMap gc=[] then none else some (Pt.numbers (cK (B.filterMap gc)).1 (cK (B.filterMap gc)).2.1 (cK (B.filterMap gc)).2.2))=true;split at e
   ·cases e
   ·rename_i ne;cases e;rw[if_neg (kQ ne hs)];show lr n _ _=true;rw[sP rfl];exact LU ne hs
  ·have e:(if A.filterMap gb=[] then none else some (Pt.texts (bP (A.filterMap gb))))=some p:=e;have hs:=nW (f:=gb) h;show k_ n p (if B.filterMap gb=[] then none else some (Pt.texts (bP (B.filterMap gb))))=true;split at e
   ·cases e
   ·rename_i ne;cases e;rw[if_neg (kQ ne hs)];show lr n _ _=true;rw[sP rfl];exact Cf ne hs (xw hw hB)
  ·have e:(if A.filterMap ck=[] then none else some (Pt.lists (bM (dF (A.filterMap ck))) (bV (dF (A.filterMap ck))) (bH n (A.filterMap ck).flatten)))=some p:=e;have hs:=nW (f:=ck) h;show k_ n p (if B.filterMap ck=[] then none else some (Pt.lists (bM (dF (B.filterMap ck))) (bV (dF (B.filterMap ck))) (bH n (B.filterMap ck).flatten)))=true;split at e
   ·cases e
   ·rename_i ne;cases e;rw[if_neg (kQ ne hs)];show(e_ _ _ _ _&&(ff n (bH n (A.filterMap ck).flatten) (bH n (B.filterMap ck).flatten)&&true))=true
    rw[ih _ _ (λv hv=>by
     obtain⟨l,hl,hv⟩:=qh1_.mp hv
     exact qh1_.mpr ⟨l,hs l hl,hv⟩) (xu hB),Ak (A:=dF (A.filterMap ck)) (B:=dF (B.filterMap ck)) (λz=>ne (qr3_.mp z)) (AG hs)]
    rfl
  ·have e:(if A.filterMap d3=[] then none else some (dh (bH n) (A.filterMap d3)))=some p:=e;have hs:=nW (f:=d3) h;show k_ n p (if B.filterMap d3=[] then none else some (dh (bH n) (B.filterMap d3)))=true;split at e
   ·cases e
   ·rename_i ne;cases e;rw[if_neg (kQ ne hs)];exact JN hw ih ne hs (xt hB)
theorem t8:dN Po OQ (aV jY):=ke (by decide +kernel)
theorem Ir{f:Addr}{fd:FuncData}(F:rp K "law" "law" jY f fd)(B:Own mg)(QX:cw P w K mg base 1 "_law_deck" OQ (z_ K))(Qu:ae P w K mg base 5 "_law_world" OR xY)(Qh:ae P w K mg base 15 "_law_samples" Pd wL)(Pr:ae P w K mg base 2 "_law_take" OL gY)(PN:ae P w K mg base 47 "told" OU (pW 4))(PV:ae P w K mg base (3*4+7) "within" OH (gG 4))(PJ:ae P w K mg base (4*4+5) "_law_within" OJ (gG 4))(Brepr:mg "repr"=none):dj P w K mg base lj 50 f fd OQ (tV K):=by
 refine F.ok t8 (λvs H Q E q=>?_) (λPu A outer s H vs Q E hr q=>?_)
 ·obtain⟨a,ns,rfl,_⟩:=q;rfl
 ·obtain⟨aa,ns,rfl,hS,hlen,q⟩:=q;have nd:=t8.nd
  refine⟨_,(iZ (kP (i:=1) nd rfl (by first|exact Or.inl rfl|exact Or.inr rfl) (uA QX (hr.mono (by omega)) rfl (dR (pv 0) eO)))
   (K4 λF=>(aI (bC 2 nd (aL Qu hr (cE 1 aG)))
   (aI (bC 3 nd (aL Qh hr (cE 1 (aD (aC 2) (aD (bE cD aE (aL Pr hr (cE 1 (aD aE aG)))) aG)))))
   (aI (bC 4 nd (aL Qh hr (cE 1 (aD (aC 2) (aD (bE cD aE (aL Pr hr (cE 1 (aD aE aG)))) aG)))))
   (aI (bC 5 nd (bB (cC (aD (aL PN hr (aD (aC 3) aG)) (aD (aL PN hr (aD (aC 4) aG)) (aD (aL PN hr (aD (bE cD (aC 3) (aC 4)) aG)) aG))))))
   (aI (fJ (m:=8) i4 rfl (bK (aC 5)) (eG 6 (by decide) nd rfl (.inl rfl))
    (aI (fJ (m:=8) i4 rfl (bK (aC 5)) (eG 7 (by decide) nd rfl (.inl rfl))
     (aJ (aY (oD hr (bI (BN hr.gd (br.r16 hr)) rfl Brepr L2.boot_repr (aD (aL PV hr (aD (aC 6) (aD (aC 7) aG))) aG)) (bI (BN hr.gd (br.r16 hr)) rfl Brepr L2.boot_repr (aD (aL PJ hr (aD (aC 6) (aD (aC 7) aG))) aG)))
      (aJ (aO dS))
      aX)))
    (aJ (aY (dX (fO (eM (cW (aL PV hr (aD (aC 6) (aD (aH hr (aC 5) aE) aG))))) (gB (eM (cW (aL PV hr (aD (cH aG) (aD (aC 6) aG))))))))
     (aJ (aO dS))
     aX))))
   (aJ (aO dS))))))))),?_⟩
  refine⟨_,rfl,aa,ns,rfl,hS,λp c H1 np nc d1 s1=>?_⟩;refine Ja (N:=Po) (by decide) d1 q ?_;clear q hS hlen hr d1 s1 np nc;refine⟨rfl,rfl,λnm tx st sp hw=>?_⟩;have W4:WD 4 (VD nm tx 4):=⟨nm,tx,st,sp,hw,rfl⟩
  show az.nx _ _;refine e7 (ρ':=[.no,.dk,.va (gA nm tx st sp),.no,.no,.no,.no,.no]) rfl ?_;refine⟨rfl,rfl,6,rfl,by decide,cI (by decide) (by decide),λa a0 a1=>⟨nm,tx,st,sp,1+a,rfl,hw,by omega,by omega,λA lA hA=>?_⟩⟩;show az.nx _ _;refine e7 (ρ':=[.no,.dk,.va (gA nm tx st sp),.va (.seq false A),.no,.no,.no,.no]) rfl ?_;refine⟨rfl,rfl,6,rfl,by decide,cI (by decide) (by decide),λb b0 b1=>⟨nm,tx,st,sp,1+b,rfl,hw,by omega,by omega,λB lB hB=>?_⟩⟩;show az.nx _ _;refine e7 (ρ':=[.no,.dk,.va (gA nm tx st sp),.va (.seq false A),.va (.seq false B),.no,.no,.no]) rfl ?_;have hAB:∀v∈A++B,VD nm tx 4 v:=λv hv=>(qr_.mp hv).elim (hA v) (hB v)
  refine⟨VD nm tx 4,W4,A,rfl,by omega,hA,VD nm tx 4,W4,B,rfl,by omega,hB,by omega,VD nm tx 4,W4,A++B,rfl,by rw[b8];omega,hAB,by simp,?_⟩;show az.nx _ _;refine e7 (ρ':=[.no,.dk,.va (gA nm tx st sp),.va (.seq false A),.va (.seq false B),.va (.seq false [bJ (bH 4 A),bJ (bH 4 B),bJ (bH 4 (A++B))]),.no,.no]) rfl ?_;have p0:∀T∈[bJ (bH 4 A),bJ (bH 4 B),bJ (bH 4 (A++B))],∃C:List Tv,T=bJ (bH 4 C)/\(∀v∈C,v∈A++B):=λT hT=>by
   simp only[qk_,fb,or_false]at hT;rcases hT with rfl|rfl|rfl
   ·exact⟨A,rfl,λv=>fe _⟩
   ·exact⟨B,rfl,λv=>de _⟩
   ·exact⟨A++B,rfl,λv=>id⟩
  have l6:∀C,(bH 4 C).length<=100:=λC=>bu (tD ..) (by decide)
  have pw:∀C:List Tv,(∀v∈C,v∈A++B)->∀p∈bH 4 C,PW 4 p:=λC hC=>AV hw 4 C λv hv=>hAB v (hC v hv)
  refine jA (λi ρ=>∃s6 s7:Sl,ρ=[.no,.dk,.va (gA nm tx st sp),.va (.seq false A),.va (.seq false B),.va (.seq false [bJ (bH 4 A),bJ (bH 4 B),bJ (bH 4 (A++B))]),s6,s7]) ⟨_,_,rfl⟩ ?_ (λ_ ⟨_,_,e⟩=>by subst e;rfl);rintro i T _ N hT ⟨s6,s7,rfl⟩ hN;obtain⟨C,rfl,hC⟩:=p0 T (i7 hT);refine jA (λi ρ=>∃s7:Sl,ρ=[.no,.dk,.va (gA nm tx st sp),.va (.seq false A),.va (.seq false B),.va (.seq false [bJ (bH 4 A),bJ (bH 4 B),bJ (bH 4 (A++B))]),.va (bJ (bH 4 C)),s7]) ⟨_,rfl⟩ ?_ ?_
  ·rintro j U _ N' hU ⟨s7,rfl⟩ hN';obtain⟨E,rfl,hE⟩:=p0 U (i7 hU);refine⟨bH 4 C,bH 4 E,rfl,l6 _,l6 _,pw C hC,pw E hE,.inl ⟨_,rfl,bH 4 C,bH 4 E,rfl,l6 _,l6 _,pw C hC,pw E hE,.inl ⟨_,rfl,_,rfl,gr (λz=>False.elim ?_) (λz=>hN' _ ⟨_,rfl⟩)⟩⟩⟩;simp[dr]at z
  ·rintro _ ⟨s7,rfl⟩;refine⟨_,aQ (j:=2) rfl,bH 4 C,bH 4 (A++B),rfl,l6 _,l6 _,pw C hC,pw _ (λv=>id),?_⟩;rw[Ag hw 4 C (A++B) hC hAB];exact⟨_,rfl,bG ⟨by simp,[],bH 4 C,rfl,by simp,l6 _,(λp hp=>nomatch hp),pw C hC,_,rfl,bG (hN _ ⟨_,_,rfl⟩)⟩⟩
end
end My
namespace My
open PySem L2 PyProof.Rows
open WordM
open PySem
theorem all_mk{l:W.OpenLaw}{w:World}{K:W.Frag}{h:Heap}{mg:Str->Option Value}{fa:Addr}(X:K.In h)(G:h.Ns mainGlobals mg)(hfa:mg "law"=some (.ref fa)){f80:Addr}{v_80 t_80:Option Addr}{p_80:Array (Option Value)}{u_80 w_80 x_80 y_80 r_80 q_80:Value}
 (Sj:ai K mg "kind_of" DY)
 (Sk:ai K mg "divisor_of" DX)
 (Sm:ai K mg "run_of" DW)
 (Sn:ai K mg "run_has" DV)
 (So:ai K mg "telling_numbers" DU)
 (Sq:ai K mg "run_parted" DT)
 (Sr:ai K mg "run_within" DS)
 (Ss:ai K mg "run_joined" DR)
 (Su:ai K mg "has_mark" wt)
 (Sv:ai K mg "marks_of" wq)
 (Q4:ai K mg "marks_joined" yn)
 (Q5:ai K mg "shared_head" yo)
 (Q6:ai K mg "make_of" vE)
 (Q7:ai K mg "words_of" yp)
 (Q8:ai K mg "words_let" vd)
 (Q9:ai K mg "as_make" yq)
 (Q_:ai K mg "with_shorter_head" yr)
 (Ra:ai K mg "makes_joined" yt)
 (Rb:ai K mg "words_joined" yu)
 (Rc:ai K mg "tails_many" yv)
 (Re:ai K mg "signs_of" ve)
 (Rf:ai K mg "words_many" yw)
 (Rg:ai K mg "words_texts" vD)
 (Rh:ai K mg "words_parted" yy)
 (Ri:ai K mg "words_within" yz)
 (Rj:ai K mg "tail_at" y4)
 (Rk:ai K mg "words_some" vf)
 (Rm:ai K mg "part_kind" y6)
 (Rn:ai K mg "part_for" y8)
 (Ro:ai K mg "forms_within" vg)
 (Rq:ai K mg "musts_of" vC)
 (Rr:ai K mg "names_of" vh)
 (Rt:ai K mg "strange_names" qP)
 (Ru:ai K mg "lacking_names" vB)
 (Rv:ai K mg "bounds_within" y9)
 (Rw:ai K mg "shell_within" vA)
 (Rx:ai K mg "form_behind" vm)
 (Ry:ai K mg "forms_held" oJ)
 (Rz:ai K mg "part_within" qO)
 (RA:ai K mg "within" oI)
 (RB:ai K mg "list_part" vn)
 (RC:ai K mg "dict_part" qN)
 (RD:ai K mg "part_of" uZ)
 (RE:ai K mg "form_of" vo)
 (RF:ai K mg "fields_by_name" vq)
 (RG:ai K mg "field_joined" uY)
 (RH:ai K mg "records_joined" uX)
 (RI:ai K mg "name_words" vt)
 (RJ:ai K mg "tables_joined" uW)
 (RK:ai K mg "dicts_joined" uV)
 (RL:ai K mg "lists_joined" uU)
 (RN:ai K mg "parts_joined" qM)
 (RO:ai K mg "joined" qL)
 (QF:ai K mg "all_joined" qK)
 (RP:ai K mg "told" uT)
 (RQ:ai K mg "_law_mixed" vw)
 (RS:ai K mg "_law_deck" vz)
 (RT:ai K mg "_law_take" v7)
 (RU:ai K mg "_law_signs" v8)
 (RV:ai K mg "_law_text" y_)
 (RW:ai K mg "_law_unlike" za)
 (RX:ai K mg "_law_far" zb)
 (RY:ai K mg "_law_world" v9)
 (RZ:ai K mg "_law_number" zd)
 (R0:ai K mg "_law_leaf" ze)
 (R1:ai K mg "_law_dict" v_)
 (R4:ai K mg "_law_value" qJ)
 (R5:ai K mg "_law_samples" zZ)
 (R6:ai K mg "_law_mark" zf)
 (R7:ai K mg "_law_words_let" zY)
 (R8:ai K mg "_law_dict_let" zX)
 (R9:ai K mg "_law_part_lets" zW)
 (R_:ai K mg "_law_lets" zV)
 (Sa:ai K mg "_law_witness" uS)
 (Sb:ai K mg "_law_kind" zg)
 (Sd:ai K mg "_law_between" zh)
 (Se:ai K mg "_law_record_within" lC)
 (Sf:ai K mg "_law_dict_within" oH)
 (Sh:ai K mg "_law_part_within" mL)
 (Si:ai K mg "_law_within" oG)
 (a80:W.nsIn K mainGlobals "law"=some (some (.ref f80))) (l80:K.lookup f80=some ⟨u_80,v_80,.func (W.fnOf "law" "law" (fZ jY) (dZ jY) (aV jY) .none w_80 x_80 y_80 t_80 r_80 q_80),p_80⟩) (c80:W.codeIn K r_80 "law"=true) (k80:W.keepIn K (.ref f80)=true)
    (z0:W.nsIn K mainGlobals "len"=some none) (z1:W.nsIn K mainGlobals "range"=some none) (z2:W.nsIn K mainGlobals "isinstance"=some none) (z3:W.nsIn K mainGlobals "int"=some none) (z4:W.nsIn K mainGlobals "bool"=some none) (z5:W.nsIn K mainGlobals "str"=some none) (z6:W.nsIn K mainGlobals "list"=some none) (z7:W.nsIn K mainGlobals "tuple"=some none) (z8:W.nsIn K mainGlobals "dict"=some none) (z9:W.nsIn K mainGlobals "sum"=some none) (z10:W.nsIn K mainGlobals "min"=some none) (z11:W.nsIn K mainGlobals "max"=some none) (z12:W.nsIn K mainGlobals "all"=some none) (z13:W.nsIn K mainGlobals "any"=some none) (z14:W.nsIn K mainGlobals "abs"=some none) (z15:W.nsIn K mainGlobals "zip"=some none) (z16:W.nsIn K mainGlobals "sorted"=some none) (z17:W.nsIn K mainGlobals "set"=some none) (z18:W.nsIn K mainGlobals "enumerate"=some none) {aSIGNS aMARKS aPK:Addr} {tk1 tk2 tk3 tk4 tk5 tk6 tk7 tk8 um1 um2 um3 um4 tp1 tp2 tp3 tp4 tp5 tp6 tp7 tp8 tp9 tp10 tp11 tp12 tp13 tp14:Tok} {epS nM epP:Nat} {ddM:Option Addr} {slM:Array (Option Value)} {aKN:Addr} {uk1 uk2 uk3 uk4 uk5 uk6:Tok} {nK:Nat} {slK:Array (Option Value)} {tkF tkF8:Tok}
    (aS:W.nsIn K mainGlobals "SIGNS"=some (some (.ref aSIGNS)))
    (lS:K.lookup aSIGNS=some ⟨.type "dict",none,.dict #[{hash:=PyData.keyHash w.params ("figure":Str),key:=.str "figure" tk1,val:=.str "0123456789" tk2},{hash:=PyData.keyHash w.params ("great":Str),key:=.str "great" tk3,val:=.str "ABCDEFGHIJKLMNOPQRSTUVWXYZ" tk4},{hash:=PyData.keyHash w.params ("other":Str),key:=.str "other" tk5,val:=.str " !\"#$&'()*+,-./:;<=>?\x40[\\]^_`{|}~" tk6},{hash:=PyData.keyHash w.params ("small":Str),key:=.str "small" tk7,val:=.str "abcdefghijklmnopqrstuvwxyz" tk8}] epS,#[]⟩)
    (aM:W.nsIn K mainGlobals "MARKS"=some (some (.ref aMARKS)))
    (lM:K.lookup aMARKS=some ⟨.type "tuple",ddM,.seq #[.str "figure" um1,.str "great" um2,.str "other" um3,.str "small" um4] nM,slM⟩)
    (aP:W.nsIn K mainGlobals "PART_KINDS"=some (some (.ref aPK)))
    (lP:K.lookup aPK=some ⟨.type "dict",none,.dict #[{hash:=PyData.keyHash w.params ("nothing":Str),key:=.str "nothing" tp1,val:=.str "nothing" tp2},{hash:=PyData.keyHash w.params ("truths":Str),key:=.str "truths" tp3,val:=.str "truth" tp4},{hash:=PyData.keyHash w.params ("numbers":Str),key:=.str "numbers" tp5,val:=.str "number" tp6},{hash:=PyData.keyHash w.params ("texts":Str),key:=.str "texts" tp7,val:=.str "text" tp8},{hash:=PyData.keyHash w.params ("lists":Str),key:=.str "lists" tp9,val:=.str "list" tp10},{hash:=PyData.keyHash w.params ("record":Str),key:=.str "record" tp11,val:=.str "dict" tp12},{hash:=PyData.keyHash w.params ("table":Str),key:=.str "table" tp13,val:=.str "dict" tp14}] epP,#[]⟩)
    (aK:W.nsIn K mainGlobals "KINDS"=some (some (.ref aKN)))
    (lK:K.lookup aKN=some ⟨.type "tuple",none,.seq #[.str "nothing" uk1,.str "truth" uk2,.str "number" uk3,.str "text" uk4,.str "list" uk5,.str "dict" uk6] nK,slK⟩)
    (aF:W.nsIn K mainGlobals "MOST_FEW"=some (some (.int 6 tkF)))
    (aF8:W.nsIn K mainGlobals "MOST_FIELDS"=some (some (.int 8 tkF8)))
    (zr:W.nsIn K mainGlobals "repr"=some none):
    ∃fd:FuncData,(∀(s:Shared) (v:Value),BindsTo s fd ⟨[v],[]⟩ [("_law_script",v)])/\∀base:Heap,K.In base->base.Ns mainGlobals mg->dj l.prog w K mg base lj 50 fa fd OQ (tV K):=by
  have e:=hfa.symm.trans (PySem.W.mg_of X G a80);cases e;have B:Own mg:=Hv X G z0 z1 z2 z3 z4 z5 z6 z7 z8 z9 z10 z11 z12 z13 z14 z15 z16 z17 z18;refine⟨W.fnOf "law" "law" (fZ jY) (dZ jY) (aV jY) .none w_80 x_80 y_80 t_80 r_80 q_80,λs v=>.of_eq rfl,λbase KB GB=>?_⟩;have GSIGNS:mK K w.params mg "SIGNS" iz:=⟨aSIGNS,PySem.W.mg_of X G aS,⟨⟨_,_,lS,⟨rfl,⟨_,rfl⟩,⟨_,rfl⟩,rfl,⟨_,rfl⟩,⟨_,rfl⟩,rfl,⟨_,rfl⟩,⟨_,rfl⟩,rfl,⟨_,rfl⟩,⟨_,rfl⟩,trivial⟩⟩,by decide +kernel⟩⟩
  have GPART_KINDS:mK K w.params mg "PART_KINDS" wa:=⟨aPK,PySem.W.mg_of X G aP,⟨⟨_,_,lP,⟨rfl,⟨_,rfl⟩,⟨_,rfl⟩,rfl,⟨_,rfl⟩,⟨_,rfl⟩,rfl,⟨_,rfl⟩,⟨_,rfl⟩,rfl,⟨_,rfl⟩,⟨_,rfl⟩,rfl,⟨_,rfl⟩,⟨_,rfl⟩,rfl,⟨_,rfl⟩,⟨_,rfl⟩,rfl,⟨_,rfl⟩,⟨_,rfl⟩,trivial⟩⟩,by decide +kernel⟩⟩
  have TM:∀H,cu K H aMARKS (MK.map V.str):=λH=>.inr ⟨_,_,_,lM,rfl,rfl,by show 4<=sizeLine;decide,.cons ⟨_,rfl⟩ (.cons ⟨_,rfl⟩ (.cons ⟨_,rfl⟩ (.cons ⟨_,rfl⟩ .nil)))⟩
  have GMARKS:eQ K mg "MARKS" (.seq true (MK.map sT)):=Bm (PySem.W.mg_of X G aM) TM;have TKN:∀H,cu K H aKN ((kN6.map cZ).map V.str):=λH=>.inr ⟨_,_,_,lK,rfl,rfl,by show 6<=sizeLine;decide,.cons ⟨_,rfl⟩ (.cons ⟨_,rfl⟩ (.cons ⟨_,rfl⟩ (.cons ⟨_,rfl⟩ (.cons ⟨_,rfl⟩ (.cons ⟨_,rfl⟩ .nil)))))⟩
  have GKINDS:eQ K mg "KINDS" (.seq true (kN6.map λk=>sT (cZ k))):=Bm (PySem.W.mg_of X G aK) TKN;have GMOST_FEW:eQ K mg "MOST_FEW" (iT 6):=⟨.int 6,_,PySem.W.mg_of X G aF,⟨_,rfl⟩,λH=>.flat rfl⟩
  have GMOST_FIELDS:eQ K mg "MOST_FIELDS" (iT 8):=⟨.int 8,_,PySem.W.mg_of X G aF8,⟨_,rfl⟩,λH=>.flat rfl⟩
  have Brepr:mg "repr"=none:=jd X G zr;have Pr:ae l.prog w K mg base 2 "_law_take" OL gY:=cw.take (HZ RT (IS RQ));have PP:ae l.prog w K mg base 1 "_law_signs" [] pI:=F4 RU B ;have P8:ae l.prog w K mg base 3 "_law_text" OL tI:=F5 RV B PP Pr;have Qg:ae l.prog w K mg base 4 "_law_unlike" Pa xC:=F6 RW B PP P8;have P9:ae l.prog w K mg base 3 "_law_far" OR tZ:=F7 RX B Pr;have Qu:ae l.prog w K mg base 5 "_law_world" OR xY:=F8 RY B Pr Qg P8 P9;have Qv:ae l.prog w K mg base 4 "_law_number" OS xG:=F9 RZ B Pr P9;have Qw:ae l.prog w K mg base 5 "_law_leaf" OS tK:=F_ R0 B Pr Qv;have QC:ae l.prog w K mg base 1 "kind_of" OK tM:=OG Sj B ;have QM:ae l.prog w K mg base 1 "run_has" ["run","number"] xE:=OD Sn B ;have Q3:ae l.prog w K mg base 1 "has_mark" OZ wM:=Oy Su B GSIGNS;have Qi:ae l.prog w K mg base 2 "marks_of" ["text"] oS:=Ox Sv B Q3 GMARKS;have P4:ae l.prog w K mg base 3 "words_let" O0 iE:=EV Q8 B Qi;have PR:ae l.prog w K mg base 1 "part_kind" OI mO:=Ee Rm B GPART_KINDS;have PD:ae l.prog w K mg base 2 "part_for" OO kG:=Ef Rn B PR;have QG:ae l.prog w K mg base 1 "divisor_of" OH zO:=OF Sk B ;have Qs:ae l.prog w K mg base 1 "telling_numbers" ["run"] rQ:=OC So B ;have QH:ae l.prog w K mg base 2 "run_of" ["numbers"] yA:=OE Sm B QG;have Qj:ae l.prog w K mg base 3 "run_joined" OH pX:=Oz Ss B QH Qs;have PZ:ae l.prog w K mg base 1 "marks_joined" OH vI:=ER Q4 B ;have P0:ae l.prog w K mg base 1 "shared_head" OH vG:=ES Q5 B ;have P3:ae l.prog w K mg base 3 "make_of" ON sH:=ET Q6 B P0 Qi;have PC:ae l.prog w K mg base 4 "words_of" ON lJ:=EU Q7 B P3 GMOST_FEW;have Qc:ae l.prog w K mg base 4 "as_make" ["words"] xI:=EW Q9 B P3;have Qd:ae l.prog w K mg base 3 "with_shorter_head" ["make","head"] wK:=EX Q_ B PZ Qi;have Qk:ae l.prog w K mg base 4 "makes_joined" OH xH:=EY Ra B P0 Qd PZ;have PH:ae l.prog w K mg base 5 "words_joined" OH mW:=EZ Rb B PC Qk Qc;have PF:ae l.prog w K mg base 1 "fields_by_name" OM oK:=Eu RF B ;have PL:ae l.prog w K mg base 5 "name_words" OI qR:=Ey RI B PC;have PK:ae l.prog w K mg base 1 "forms_within" OI qS:=Eg Ro B ;have PX:ae l.prog w K mg base 14 "_law_value" OT (nE 4):=xL R4 R1 B Pr Qw 4;have Qh:ae l.prog w K mg base 15 "_law_samples" Pd wL:=FA R5 B Pr PX;have QY:ae l.prog w K mg base 2 "run_parted" OH wC:=OB Sq B Qs QM;have Q0:ae l.prog w K mg base 3 "run_within" OH qZ:=OA Sr B QY;have Qm:ae l.prog w K mg base 1 "words_texts" ["words"] xZ:=D_ Rg B GMOST_FEW GSIGNS;have P7:ae l.prog w K mg base 4 "words_parted" OH pA:=Ea Rh B Qm P4;have Qn:ae l.prog w K mg base 5 "words_within" OH rP:=Eb Ri B P7;have P_:ae l.prog w K mg base 1 "_law_mark" ["_law_sign"] tJ:=FB R6 B ;have PQ:ae l.prog w K mg base 2 "_law_words_let" OV iE:=FC R7 B P_;have P5:ae l.prog w K mg base 1 "tails_many" O7 sR:=E3 Rc B ;have P6:ae l.prog w K mg base 1 "signs_of" ["marks"] rR:=E4 Re B GSIGNS;have Ql:ae l.prog w K mg base 2 "words_many" ["words","most"] yB:=D9 Rf B P5 P6;have Qo:ae l.prog w K mg base 1 "tail_at" Pf xD:=Ec Rj B ;have Qp:ae l.prog w K mg base 3 "words_some" ["words","many"] sS:=Ed Rk B Ql P6 P5 Qo;have PU:ae l.prog w K mg base 1 "names_of" OM pJ:=Ei Rr B ;have Qe:ae l.prog w K mg base 1 "bounds_within" OH jL:=El Rv B ;have Qf:ae l.prog w K mg base 1 "form_behind" OW sJ:=En Rx B ;have PV:ae l.prog w K mg base (3*4+7) "within" OH (gG 4):=ya RA Rz Rw Ry Rt Ru Rq B Q0 Qn Qe P7 P4 Qp PU Qf PR PD GMOST_FIELDS 4;have Qa:ae l.prog w K mg base 2 "_law_witness" O1 qE:=FG Sa B PP P_;have PY:ae l.prog w K mg base 1 "_law_kind" OX pK:=FH Sb B ;have Qb:ae l.prog w K mg base 1 "_law_between" OJ jL:=FI Sd B ;have Qx:ae l.prog w K mg base 1 "_law_dict_let" OP kO:=FD R8 B ;have Qz:ae l.prog w K mg base 1 "_law_lets" O3 kO:=FF R_ B ;have Qy:ae l.prog w K mg base 3 "_law_part_lets" OP rS:=FE R9 B PQ Qz Qx;have PJ:ae l.prog w K mg base (4*4+5) "_law_within" OJ (gG 4):=Bb Si Sh Sf Se B PY Qy PQ Qa Qb 4;have Gj:∀n:Nat,ae l.prog w K mg base (9*n+9) "joined" OH (p6 (bH n) (WD n)):=λn=>Ax RO RN RL RK RJ QF RH RG B PD Qj PH PF PL PK GMOST_FIELDS GKINDS n
  have PN:=(Ay RP RE RD RB RC QF B QC PC GMOST_FIELDS Gj 4).2;exact Ir (Ba (st:=jY) l80 c80 k80) B (HY RS B) Qu Qh Pr PN PV PJ Brepr
theorem walk{l:W.OpenLaw}{q:Program}{loose:List Str}{XP:(Str->Option Value)->Heap->Prop}{YP:World->Heap->Prop}{d:DefRec}{K:Params->W.Frag}(hn:l.most=some 63)(hdf:d.params.defaults=[])
  (hY:∀(w:World) (h:Heap),YP w h->(K w.params).In h)
  (F:∀(w:World) (mg:Str->Option Value) (fa:Addr) (h:Heap),(K w.params).In h->h.Ns mainGlobals mg->mg d.name=some (.ref fa) ->
   ∃fd:FuncData,(∀(s:Shared) (u:Value),BindsTo s fd ⟨[u],[]⟩ [("_law_script",u)])/\∀base:Heap,(K w.params).In base->base.Ns mainGlobals mg->dj l.prog w (K w.params) mg base lj 50 fa fd OQ (tV (K w.params))):
  PySem.W.WalkO q loose XP YP l.row.toRowW d [] (λf vs=>PySem.call f vs):=
 L2.walk_of (n:=63) (k:=50) (x:="_law_script") (CX:=λ_=>lj) (sp:=λw=>tV (K w.params)) hn (by decide) hdf ⟨rfl,by decide,by decide,rfl⟩ hY F (λ_ _ a ns hl _ hS=>⟨a,ns,rfl,hS,hl,λ_=>rfl⟩) λ_ _ _ _ _ z=>z
end My
inductive PySem.W.Fast:Prop
|tw8682792903991740677
|tw16841312070607878144
|tw8844022566670216320
|tw8245219068101064960
|tw5518519029777793280
|tw605488993587926496
|tw1801750826834194016
|tw13948786283933703136
|tw2773250326019130465
|tw5465117432499156225
|tw9782769714782716225
|tw6590794789243898209
|tw7745152495762336097
|tw12781971796020332929
|tw16299257272702608033
|tw1246473497285179041
|tw13012405523802632961
|tw9646936312834752385
|tw10168751300530052098
|tw16101403538533079266
|tw7711132832157840706
|tw4345621946533979490
|tw16828875198275886594
|tw15408834744966656642
|tw14127214946277918434
|tw12379063234666473282
|tw7271761353877441795
|tw16743651056798870019
|tw3940597618814785059
|tw9963880528902460099
|tw17595974916684746948
|tw11174662080800578948
|tw2939195179140010404
|tw18111851077067966116
|tw15187439856908126116
|tw11748404557310163908
|tw8050468777898601477
|tw13501788673829692453
|tw2571975805419895109
|tw865212712337576549
|tw14031086782023836325
|tw2382414323672239077
|tw2624996983925139590
|tw14938482229914951046
|tw12338514402567550566
|tw10850128034932390598
|tw5383844617667970758
|tw2594702403174415142
|tw939439757406434311
|tw5676033919558335687
|tw14505992834342388999
|tw8567441830363194759
|tw2712129184703400615
|tw5473741879043053383
|tw3255437180198426535
|tw1224040377204794408
|tw12409687661043057736
|tw2417235936229274728
|tw4626963907596780648
|tw18221282587335187688
|tw13946267382049782088
|tw9311540039173510568
|tw16702801523900340680
|tw11567883213971315400
|tw16303548068823064328
|tw18144342032721258344
|tw11859197932697900936
|tw17327231466440488297
|tw5631639062466543626
|tw8191060888762628202
|tw15189347010106949994
|tw1812932275492161898
|tw12674497251372972778
|tw3336222969316790154
|tw12527562887465222026
|tw8807641829888320426
|tw14288547303669353418
|tw9704336992011870347
|tw4470427448015671915
|tw11727342609370667723
|tw4573423978923661003
|tw3259287413244804043
|tw18421691022350300139
|tw5209550033066237036
|tw10954225347652402284
|tw8778001471833940236
|tw3310310792110885356
|tw10516040107529304684
|tw17505958176105376428
|tw5604079581119894220
|tw16362414351414310700
|tw10420762358205441868
|tw7084344079402641324
|tw15261254242909930701
|tw18217348851928728045
|tw3030832984690322925
|tw15602958390848879085
|tw8650779269229665805
|tw14239613193156089517
|tw2245668112960519917
|tw11167656884156097550
|tw16768816143708638350
|tw8521828468501327662
|tw17816259348848314254
|tw7073341486588556270
|tw6416548248100754479
|tw2521584255482651727
|tw17049440239705870575
|tw8847417737409331567
|tw865473251907865071
|tw1405660664421095951
|tw8108752820123034960
|tw11605614308519266928
|tw5981442590368097072
|tw11837311931862182864
|tw15134158072263887856
|tw5122993135890950257
|tw13174468187239908529
|tw1017065582525656433
|tw1596971367128623537
|tw13663170095625258769
|tw15930376629277387537
|tw4633842334649126002
|tw14952295461925465362
|tw11834795947909276210
|tw7140104220308143666
|tw4736363641322792562
|tw11854393572463596306
|tw3391146158263373618
|tw11047136411248354162
|tw18346957332437414834
|tw12679894436847879315
|tw14473568058666670579
|tw1133072507358426739
|tw1112978583478793939
|tw16155650883349435123
|tw156421747558524691
|tw2656960760835765203
|tw15992478621501954035
|tw1365107707476236308
|tw10498411231191164948
|tw10997851365264247860
|tw6566016933036813396
|tw18005589998047571220
|tw17802009749181826452
|tw5547568458521440980
|tw523905324386830068
|tw5926131436522060885
|tw13739146156167887093
|tw6862492559984881909
|tw8551618426710719925
|tw18073925321011036981
|tw10725093924951386134
|tw13642710454348744822
|tw10953052217941643894
|tw5066147530907403190
|tw7579363348172845303
|tw9672117834739593559
|tw2865122642024053175
|tw6079237626398050071
|tw18224718110282705976
|tw1726807737689074776
|tw2961984921650032792
|tw18064363507628490968
|tw7464116026124209400
|tw4878818143751513528
|tw2387258438683330456
|tw18423986525262982233
|tw12389733190563858713
|tw4361116344850381081
|tw17526754816034801977
|tw5797309339861345721
|tw2145538500779803417
|tw6717955719438854969
|tw2802274079314714617
|tw572216236576403194
|tw16089070745659945850
|tw2344588283060451643
|tw13272626524163156379
|tw2684376728868211387
|tw13888364614439205691
|tw11096907540585429244
|tw702105507630127420
|tw18023206784497226300
|tw9323302436269716060
|tw14825283459998623356
|tw14677310380894268284
|tw10583977076067942300
|tw8306333528167089148
|tw7805970427924728093
|tw1371019850849348221
|tw4039206118400256701
|tw13012247223639510142
|tw268043293539119326
|tw8854732501633376510
|tw4390858861117782494
|tw12128887230848476670
|tw16522652918731549630
|tw3853369428218171326
|tw17936009011769563167
|tw5709242566625987103
|tw4564320722811941471
open PySem PySem.W PyProof.Rows
set_option maxRecDepth 100000 in
set_option maxHeartbeats 0 in
theorem PySem.Challenge.cw_leastform_k61_forms_of_samples_within_holds : PySem.Challenge.rw_leastform_k61_forms_of_samples_within.Holds := by
 w_on; o_law; k_head; (case hw => w_witness2)
 k_fill
 refine My.walk (l := PySem.Challenge.rw_leastform_k61_forms_of_samples_within) rfl rfl (fun w h Y => PySem.W.kIn_of Y) ?F
 case F =>
  intro w mg fa h KX G hmg
  refine' My.all_mk KX G hmg (L2.has_mk KX G ?a0 ?l0 ?c0 ?k0) (L2.has_mk KX G ?a1 ?l1 ?c1 ?k1) (L2.has_mk KX G ?a2 ?l2 ?c2 ?k2) (L2.has_mk KX G ?a3 ?l3 ?c3 ?k3) (L2.has_mk KX G ?a4 ?l4 ?c4 ?k4) (L2.has_mk KX G ?a5 ?l5 ?c5 ?k5) (L2.has_mk KX G ?a6 ?l6 ?c6 ?k6) (L2.has_mk KX G ?a7 ?l7 ?c7 ?k7) (L2.has_mk KX G ?a8 ?l8 ?c8 ?k8) (L2.has_mk KX G ?a9 ?l9 ?c9 ?k9) (L2.has_mk KX G ?a10 ?l10 ?c10 ?k10) (L2.has_mk KX G ?a11 ?l11 ?c11 ?k11) (L2.has_mk KX G ?a12 ?l12 ?c12 ?k12) (L2.has_mk KX G ?a13 ?l13 ?c13 ?k13) (L2.has_mk KX G ?a14 ?l14 ?c14 ?k14) (L2.has_mk KX G ?a15 ?l15 ?c15 ?k15) (L2.has_mk KX G ?a16 ?l16 ?c16 ?k16) (L2.has_mk KX G ?a17 ?l17 ?c17 ?k17) (L2.has_mk KX G ?a18 ?l18 ?c18 ?k18) (L2.has_mk KX G ?a19 ?l19 ?c19 ?k19) (L2.has_mk KX G ?a20 ?l20 ?c20 ?k20) (L2.has_mk KX G ?a21 ?l21 ?c21 ?k21) (L2.has_mk KX G ?a22 ?l22 ?c22 ?k22) (L2.has_mk KX G ?a23 ?l23 ?c23 ?k23) (L2.has_mk KX G ?a24 ?l24 ?c24 ?k24) (L2.has_mk KX G ?a25 ?l25 ?c25 ?k25) (L2.has_mk KX G ?a26 ?l26 ?c26 ?k26) (L2.has_mk KX G ?a27 ?l27 ?c27 ?k27) (L2.has_mk KX G ?a28 ?l28 ?c28 ?k28) (L2.has_mk KX G ?a29 ?l29 ?c29 ?k29) (L2.has_mk KX G ?a30 ?l30 ?c30 ?k30) (L2.has_mk KX G ?a31 ?l31 ?c31 ?k31) (L2.has_mk KX G ?a32 ?l32 ?c32 ?k32) (L2.has_mk KX G ?a33 ?l33 ?c33 ?k33) (L2.has_mk KX G ?a34 ?l34 ?c34 ?k34) (L2.has_mk KX G ?a35 ?l35 ?c35 ?k35) (L2.has_mk KX G ?a36 ?l36 ?c36 ?k36) (L2.has_mk KX G ?a37 ?l37 ?c37 ?k37) (L2.has_mk KX G ?a38 ?l38 ?c38 ?k38) (L2.has_mk KX G ?a39 ?l39 ?c39 ?k39) (L2.has_mk KX G ?a40 ?l40 ?c40 ?k40) (L2.has_mk KX G ?a41 ?l41 ?c41 ?k41) (L2.has_mk KX G ?a42 ?l42 ?c42 ?k42) (L2.has_mk KX G ?a43 ?l43 ?c43 ?k43) (L2.has_mk KX G ?a44 ?l44 ?c44 ?k44) (L2.has_mk KX G ?a45 ?l45 ?c45 ?k45) (L2.has_mk KX G ?a46 ?l46 ?c46 ?k46) (L2.has_mk KX G ?a47 ?l47 ?c47 ?k47) (L2.has_mk KX G ?a48 ?l48 ?c48 ?k48) (L2.has_mk KX G ?a49 ?l49 ?c49 ?k49) (L2.has_mk KX G ?a50 ?l50 ?c50 ?k50) (L2.has_mk KX G ?a51 ?l51 ?c51 ?k51) (L2.has_mk KX G ?a52 ?l52 ?c52 ?k52) (L2.has_mk KX G ?a53 ?l53 ?c53 ?k53) (L2.has_mk KX G ?a54 ?l54 ?c54 ?k54) (L2.has_mk KX G ?a55 ?l55 ?c55 ?k55) (L2.has_mk KX G ?a56 ?l56 ?c56 ?k56) (L2.has_mk KX G ?a57 ?l57 ?c57 ?k57) (L2.has_mk KX G ?a58 ?l58 ?c58 ?k58) (L2.has_mk KX G ?a59 ?l59 ?c59 ?k59) (L2.has_mk KX G ?a60 ?l60 ?c60 ?k60) (L2.has_mk KX G ?a61 ?l61 ?c61 ?k61) (L2.has_mk KX G ?a62 ?l62 ?c62 ?k62) (L2.has_mk KX G ?a63 ?l63 ?c63 ?k63) (L2.has_mk KX G ?a64 ?l64 ?c64 ?k64) (L2.has_mk KX G ?a65 ?l65 ?c65 ?k65) (L2.has_mk KX G ?a66 ?l66 ?c66 ?k66) (L2.has_mk KX G ?a67 ?l67 ?c67 ?k67) (L2.has_mk KX G ?a68 ?l68 ?c68 ?k68) (L2.has_mk KX G ?a69 ?l69 ?c69 ?k69) (L2.has_mk KX G ?a70 ?l70 ?c70 ?k70) (L2.has_mk KX G ?a71 ?l71 ?c71 ?k71) (L2.has_mk KX G ?a72 ?l72 ?c72 ?k72) (L2.has_mk KX G ?a73 ?l73 ?c73 ?k73) (L2.has_mk KX G ?a74 ?l74 ?c74 ?k74) (L2.has_mk KX G ?a75 ?l75 ?c75 ?k75) (L2.has_mk KX G ?a76 ?l76 ?c76 ?k76) (L2.has_mk KX G ?a77 ?l77 ?c77 ?k77) (L2.has_mk KX G ?a78 ?l78 ?c78 ?k78) (L2.has_mk KX G ?a79 ?l79 ?c79 ?k79) ?a80 ?l80 ?c80 ?k80 ?z0 ?z1 ?z2 ?z3 ?z4 ?z5 ?z6 ?z7 ?z8 ?z9 ?z10 ?z11 ?z12 ?z13 ?z14 ?z15 ?z16 ?z17 ?z18 ?aS ?lS ?aM ?lM ?aP ?lP ?aK ?lK ?aF ?aF8 ?zr
  any_goals k_is
