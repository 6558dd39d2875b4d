import PyProof.Rows.All
import Wide.All
import OpenK.AllK
import Wide.FinOn
import Lean
import PyProof.EqAt
import PyProof.EqKinds
import PyProof.TupleCall
import PyProof.NeKinds
import PyProof.IsiTupleOf
import PyProof.IsiHeapPairs
import PyProof.IsiPairs
import PyProof.ConsumeWalk
import PyProof.Rows.SumAny
import PyProof.FitsBits
import PyProof.Rows.SeqMore
import PyProof.ZipIter
import PyProof.TupleIter
import PyProof.LongRange
import PyProof.Rows.Range3
import PyProof.Rows.SortWalk
import PyProof.Rows.SortStr
import PyProof.StrWalks
import PyProof.DictRoads
import PyProof.MeetsStr
import PyProof.Rows.StrNews2
import PyProof.StrLawsIn
import PyProof.StrLaws
import PyProof.Rows.CatFin
import PyProof.Rows.StrClose5
import PyProof.SetKind
import PyProof.Rows.SetFrom
import PyProof.Rows.StrInSeq
import PyProof.WalkLemmas
import PyProof.CollectWalk
import PyProof.Seq
import PyProof.ForAny
import PyProof.MakeMany
import PyProof.DictKinds
import PyProof.Rows.SortShell
import PyProof.StrOps2
import PyProof.ReprNest
import PyProof.CallFns
import PyProof.StrLawsRepr
import PyProof.FString5
import OpenK.KOwn
import KE.KIsAll
import PyProof.ExcArgsOwn
import KE.RegKIsAll
import PyProof.DictIter
import PyProof.DictItems
import PyProof.DictItemsLoops
import PyProof.DictWalks
import KE.KDictList
import KE.KMinKey
import PyProof.ListRange
import PyProof.Rows.CallKwBuiltin
import KE.KDictOf
import PyProof.AttrMissHeap
import PyProof.EnumMake
import PyProof.EnumFor
import PyProof.Rows.RuleB_bool
import KE.KEqDict
import PyProof.StrCalls6
import PyProof.StrLawsReplace
import PyProof.Rows.FStr
import PyProof.Rows.StrJoin2
import PyProof.WalksMore
import PyProof.TupleOfStr
import KE.KUnpack
import PyProof.MaxThree
import KE.KSortTup
import PyProof.MeetsSeq2
import PyProof.FactsAll.set_2
import PyProof.FactsAll.subtypes_5
import KE.KRevIter
import PySem.Challenge.RW_leastform_k51_samples_of_single_values
set_option Elab.async false
set_option linter.all false
set_option maxRecDepth 100000
set_option maxHeartbeats 4000000
namespace L2
open PySem PySem.Spec PyProof.Rows
abbrev Key:=Sum Int Str
def iD:Key->Value->Bool
 |.inl k,v=>Value.isInt k v
 |.inr x,v=>Value.isStrOf x v
def zJB(w:World):Key->Int
 |.inl k=>hashInt k
 |.inr x=>hashStr w x
theorem eY:∀{k:Key}{v:Value},iD k v=true->(∃i t,k=Sum.inl i/\v=Value.int i t)\/(∃x t,k=Sum.inr x/\v=Value.str x t)
 |.inl i,v,h=>by
  obtain⟨t,e⟩:=Value.isInt_shape (k:=i) (v:=v) h
  exact .inl ⟨i,t,rfl,e⟩
 |.inr x,v,h=>by
  obtain⟨t,e⟩:=Value.isStrOf_shape (x:=x) (v:=v) h
  exact .inr ⟨x,t,rfl,e⟩
theorem zDx(i:Int)(t:Tok):iD (.inl i) (.int i t)=true:=by simp[iD,Value.isInt]
theorem zDw(x:Str)(t:Tok):iD (.inr x) (.str x t)=true:=by simp[iD,Value.isStrOf]
theorem zHD(a b:Int):decide ((Sum.inl a:Key)=Sum.inl b)=(a==b):=by
 by_cases e:a=b
 ·subst e;simp
 ·have h:¬ (Sum.inl a:Key)=Sum.inl b:=λq=>e (Sum.inl.inj q)
  rw[decide_eq_false h]
  exact(beq_eq_false_iff_ne.mpr e).symm
theorem zHA(a b:Str):decide ((Sum.inr a:Key)=Sum.inr b)=decide (a=b):=by
 by_cases e:a=b
 ·subst e;simp
 ·have h:¬ (Sum.inr a:Key)=Sum.inr b:=λq=>e (Sum.inr.inj q)
  rw[decide_eq_false h,decide_eq_false e]
theorem zHC(a:Int)(b:Str):decide ((Sum.inl a:Key)=Sum.inr b)=false:=decide_eq_false (λq=>nomatch q)
theorem zHB(a:Str)(b:Int):decide ((Sum.inr a:Key)=Sum.inl b)=false:=decide_eq_false (λq=>nomatch q)
def bK(prog:Program)(w:World):PySem.KeyKind prog w Key where
 is:=iD
 hash:=zJB w
 inj:=λv a b ha hb=>by
  rcases eY ha with⟨i,t,rfl,rfl⟩|⟨x,t,rfl,rfl⟩
  ·rcases eY hb with⟨j,u,rfl,e⟩|⟨y,u,rfl,e⟩
   ·injection e with e1 _;rw[e1]
   ·exact nomatch e
  ·rcases eY hb with⟨j,u,rfl,e⟩|⟨y,u,rfl,e⟩
   ·exact nomatch e
   ·injection e with e1 _;rw[e1]
 byValue:=λk v h=>by
  rcases eY h with⟨i,t,rfl,rfl⟩|⟨x,t,rfl,rfl⟩<;>rfl
 pyHash:=λhv h=>by
  rcases eY hv with⟨i,t,rfl,rfl⟩|⟨x,t,rfl,rfl⟩
  ·exact wpAny_pyHash_int h
  ·exact wpAny_pyHash_str h
 eqBool:=λhu hv h=>by
  rcases eY hu with⟨i,t,rfl,rfl⟩|⟨x,t,rfl,rfl⟩
  ·rcases eY hv with⟨j,u,rfl,rfl⟩|⟨y,u,rfl,rfl⟩
   ·rw[zHD]at h;exact wpAny_eqBool_int h
   ·rw[zHC]at h;exact SeqAt.EqAt.int_str i t y u _ _ _ _ h
  ·rcases eY hv with⟨j,u,rfl,rfl⟩|⟨y,u,rfl,rfl⟩
   ·rw[zHB]at h;exact SeqAt.EqAt.str_int x t j u _ _ _ _ h
   ·rw[zHA]at h;exact wpAny_eqBool_str h
 «strs»:=λk x t v h=>by
  rcases eY h with⟨i,u,rfl,e⟩|⟨y,u,rfl,e⟩
  ·exact nomatch e
  ·injection e with e1 _
   subst e1
   cases v<;>rfl
theorem zB7(prog:Program)(w:World)(i:Int)(t:Tok):(bK prog w).is (.inl i) (.int i t)=true:=zDx i t
theorem mI(prog:Program)(w:World)(x:Str)(t:Tok):(bK prog w).is (.inr x) (.str x t)=true:=zDw x t
end L2
namespace L2
open PySem PySem.Spec PyProof.Rows
inductive V where
 |non|bl (b:Bool)|int (i:Int)|str (x:Str)|byt (b:Array UInt8)|flt (b:UInt64)|ref (a:Addr)|ty (n:String)
 deriving DecidableEq
def RelV:V->Value->Prop
 |.non,u=>u=Value.none
 |.bl b,u=>u=Value.bool b
 |.int i,u=>∃t,u=Value.int i t
 |.str x,u=>∃t,u=Value.str x t
 |.byt b,u=>∃t,u=Value.bytes b t
 |.flt b,u=>∃t,u=Value.float b t
 |.ref a,u=>u=Value.ref a
 |.ty n,u=>u=Value.type n
abbrev Vals:List V->List Value->Prop:=Paired RelV
theorem Vals.length{xs:List V}{us:List Value}(r:Vals xs us):xs.length=us.length:=Paired.length r
theorem Vals.get:∀{xs:List V}{us:List Value}{i:Nat}{x:V},Vals xs us->xs[i]?=some x->∃u,us[i]?=some u/\RelV x u
 |_,_,_,_,.nil,e=>by simp at e
 |_,_,0,_,.cons r _,e=>by simp at e;subst e;exact⟨_,rfl,r⟩
 |_,_,i+1,x,.cons _ t,e=>by
  obtain⟨u,h1,h2⟩:=Vals.get (i:=i) (x:=x) t (by simpa using e)
  exact⟨u,by simpa using h1,h2⟩
theorem Vals.set{x:V}{u:Value}(r:RelV x u):∀{xs:List V}{us:List Value}(i:Nat),Vals xs us->Vals (xs.set i x) (us.set i u)
 |_,_,_,.nil=>.nil
 |_,_,0,.cons _ t=>.cons r t
 |_,_,i+1,.cons q t=>.cons q (Vals.set r i t)
theorem Vals.append:∀{xs ys:List V}{us ws:List Value},Vals xs us->Vals ys ws->Vals (xs++ys) (us++ws)
 |_,_,_,_,.nil,s=>s
 |_,_,_,_,.cons r t,s=>.cons r (Vals.append t s)
theorem Vals.take:∀{xs:List V}{us:List Value}(n:Nat),Vals xs us->Vals (xs.take n) (us.take n)
 |_,_,0,_=>.nil
 |_,_,_+1,.nil=>.nil
 |_,_,n+1,.cons r t=>.cons r (Vals.take n t)
theorem Vals.drop:∀{xs:List V}{us:List Value}(n:Nat),Vals xs us->Vals (xs.drop n) (us.drop n)
 |_,_,0,r=>r
 |_,_,_+1,.nil=>.nil
 |_,_,n+1,.cons _ t=>Vals.drop n t
def RelO:Option V->Option Value->Prop
 |some v,some u=>RelV v u
 |none,none=>True
 |_,_=>False
def KV{κ:Type}:List (κ×V)->List (κ×Value)->Prop:=Paired λ(p:κ×V) (q:κ×Value)=>p.1=q.1/\RelV p.2 q.2
def kV:Key->V
 |.inl i=>.int i
 |.inr x=>.str x
inductive HO where
 /-- a list -/
 |lst (xs:List V)
 /-- a tuple (never changes) -/
 |tup (xs:List V)
 /-- a dict whose keys are ints and texts; one whose keys are tuples of ints and texts (the empty one is both) -/
 |dK (kvs:List (Key×V))|dT (kvs:List (List Key×V))
 /-- a set of ints: its members, its size -/
 |set (S:Int->Bool) (n:Nat)
 /-- an instance of the class at C, its dict at dx, its attributes -/
 |ins (C dx:Addr) (fs:List (Str×V))
 /-- the dict of the instance at x -/
 |own (x:Addr)
 /-- the dict of an exception -/
 |xd (fs:List (Str×V))
 /-- a bound method, f of x -/
 |met (f x:Addr)
 /-- a range object lo, lo + 1, .. below hi -/
 |rng (lo hi:Int)
 /-- a thing that is known to the object (the script; a dict while a loop walks it): read, never written while it is so -/
 |frz (o:Obj) (u:HO)
 /-- a code object's table -/
 |tbl (ps:Array Value)
 /-- any other thing, by what is true of its one object (a def of one's own: SetO a S n := HO.ext fun h => ..) -/
 |ext (φ:Heap->Prop)
abbrev Hp:=Addr->Option HO
def upd(H:Hp)(a:Addr)(o:HO):Hp:=λb=>if b=a then some o else H b
theorem aT{H:Hp}{a:Addr}{o:HO}:upd H a o a=some o:=by unfold upd;rw[if_pos rfl]
theorem aY{H:Hp}{a b:Addr}{o:HO}(h:b≠a):upd H a o b=H b:=by unfold upd;rw[if_neg h]
theorem zIF{H:Hp}{a b:Addr}{o u:HO}(h:H a=some o)(h':H b=some u)(d:o≠u):a≠b:=by
 intro e;subst e;rw[h]at h';exact d (Option.some.inj h')
theorem cS{H:Hp}{a b:Addr}{o:HO}(h:H a=some o)(h':H b=none):a≠b:=by
 intro e;subst e;rw[h]at h';cases h'
section
variable(P:Program)(w:World)
def ObjOk(H:Hp)(h:Heap)(a:Addr):HO->Prop
 |.lst xs=>xs.length<=sizeLine/\∃(its:List Value) (n:Nat),Vals xs its/\h.get? a=some {cls:=.type "list",data:=.seq its.toArray n}
 |.tup xs=>xs.length<=sizeLine/\∃its:List Value,Vals xs its/\IsTup h a its.toArray
 |.dK kvs=>kvs.length<=sizeLine/\(a==sysModules)=false/\∃vs,KV kvs vs/\h.DictOf (bK P w) a vs
 |.dT kvs=>kvs.length<=sizeLine/\(a==sysModules)=false/\∃xs:List (List Key×Addr×Value),
   Paired (λ(p:List Key×V) (q:List Key×Addr×Value)=>p.1=q.1/\H q.2.1=some (.tup (p.1.map kV))/\RelV p.2 q.2.2) kvs xs /\
   ∃o es ep,h.get? a=some o/\o.ExactDict/\o.data=.dict es ep/\es.toList=xs.map (entryOfKey (tupleKind (bK P w)))/\(xs.map (·.1)).Nodup
 |.set S n=>h.SetOf (intKind P w) a S n
 |.ins C dx fs=>H dx=some (.own a)/\fs.length<=1000/\dx≠a/\h.get? a=some (PySem.W.instObj C dx) /\
   ∃mA,h.Ns1 dx mA/\(∀f,RelO (fs.lookup f) (mA f))/\PySem.Within mA (fs.map (·.1))
 |.own _=>∃o,h.get? a=some o
 |.xd fs=>∃mA,h.Ns1 a mA/\∀f,RelO (fs.lookup f) (mA f)
 |.rng lo hi=>∃t u v,h.get? a=some {cls:=.type "range",data:=.fields #[.int lo t,.int hi u,.int 1 v]}
 |.frz o u=>h.get? a=some o/\ObjOk H h a u
 |.tbl ps=>h.get? a=some {cls:=.none,data:=.fields ps}
 |.met f x=>h.get? a=some (PySem.W.methodObj (.ref f) (.ref x))
 |.ext φ=>φ h/\(∃o,h.get? a=some o)/\∀h1 h2:Heap,φ h1->(∀o,h1.get? a=some o->h2.get? a=some o)->φ h2
def HOk(H:Hp)(h:Heap):Prop:=∀a o,H a=some o->ObjOk P w H h a o
end
section
variable{P:Program}{w:World}{H H':Hp}{h h':Heap}{a:Addr}{o:HO}
theorem ObjOk.lt(x:ObjOk P w H h a o):a<h.objs.size:=by
 cases o with
 |lst xs=>obtain⟨_,_,_,_,e⟩:=x;exact Heap.lt_size e
 |tup xs=>obtain⟨_,_,_,p⟩:=x;exact p.lt
 |dK kvs=>obtain⟨_,_,_,_,o,_,_,e,_⟩:=x;exact Heap.lt_size e
 |dT kvs=>obtain⟨_,_,_,_,o,_,_,e,_⟩:=x;exact Heap.lt_size e
 |set S n=>obtain⟨o,_,_,_,e,_⟩:=x;exact Heap.lt_size e
 |ins C dx fs=>obtain⟨_,_,_,e,_⟩:=x;exact Heap.lt_size e
 |own y=>obtain⟨_,e⟩:=x;exact Heap.lt_size e
 |xd fs=>obtain⟨_,⟨_,_,_,e,_⟩,_⟩:=x;exact Heap.lt_size e
 |rng lo hi=>obtain⟨_,_,_,e⟩:=x;exact Heap.lt_size e
 |frz ob u=>obtain⟨e,_⟩:=x;exact Heap.lt_size e
 |tbl ps=>exact Heap.lt_size (show h.get? a=some _ from x)
 |met f y=>exact Heap.lt_size (show h.get? a=some _ from x)
 |ext φ=>obtain⟨_,⟨_,e⟩,_⟩:=x;exact Heap.lt_size e
theorem Paired.mapP{α β:Type}{F G:α->β->Prop}:∀{l₁:List α}{l₂:List β},Paired F l₁ l₂->(∀a b,F a b->G a b)->Paired G l₁ l₂
 |_,_,.nil,_=>.nil
 |_,_,.cons r t,f=>.cons (f _ _ r) (Paired.mapP t f)
theorem ObjOk.stay(x:ObjOk P w H h a o)(k:∀b u,(b=a\/H b=some (.own a))->h.get? b=some u->h'.get? b=some u)
  (ho:∀b,H b=some (.own a)->H' b=some (.own a)) (ht:∀b xs,H b=some (.tup xs)->H' b=some (.tup xs)):ObjOk P w H' h' a o:=by
 induction o with
 |lst xs=>obtain⟨z,its,n,r,e⟩:=x;exact⟨z,its,n,r,k _ _ (.inl rfl) e⟩
 |tup xs=>obtain⟨z,its,r,ob,e,c⟩:=x;exact⟨z,its,r,ob,k _ _ (.inl rfl) e,c⟩
 |dK kvs=>obtain⟨z,y,vs,r,ob,es,ep,e,c⟩:=x;exact⟨z,y,vs,r,ob,es,ep,k _ _ (.inl rfl) e,c⟩
 |dT kvs=>
  obtain⟨z,y,xs,r,ob,es,ep,e,c⟩:=x
  exact⟨z,y,xs,Paired.mapP r λp q z=>⟨z.1,ht _ _ z.2.1,z.2.2⟩,ob,es,ep,k _ _ (.inl rfl) e,c⟩
 |set S n=>obtain⟨ob,es,ep,t,e,c⟩:=x;exact⟨ob,es,ep,t,k _ _ (.inl rfl) e,c⟩
 |ins C dx fs=>
  obtain⟨d,z,ne,e,mA,⟨od,es,ep,e2,c⟩,r⟩:=x
  exact⟨ho _ d,z,ne,k _ _ (.inl rfl) e,mA,⟨od,es,ep,k _ _ (.inr d) e2,c⟩,r⟩
 |own y=>obtain⟨ob,e⟩:=x;exact⟨ob,k _ _ (.inl rfl) e⟩
 |xd fs=>obtain⟨mA,⟨od,es,ep,e,c⟩,r⟩:=x;exact⟨mA,⟨od,es,ep,k _ _ (.inl rfl) e,c⟩,r⟩
 |rng lo hi=>obtain⟨t,u,v,e⟩:=x;exact⟨t,u,v,k _ _ (.inl rfl) e⟩
 |frz ob u ih=>obtain⟨e,q⟩:=x;exact⟨k _ _ (.inl rfl) e,ih q⟩
 |tbl ps=>
  have e:h.get? a=some {cls:=.none,data:=.fields ps}:=x
  show h'.get? a=some {cls:=.none,data:=.fields ps}
  exact k a _ (.inl rfl) e
 |met f y=>
  have e:h.get? a=some (PySem.W.methodObj (.ref f) (.ref y)):=x
  show h'.get? a=some (PySem.W.methodObj (.ref f) (.ref y))
  exact k a _ (.inl rfl) e
 |ext φ=>obtain⟨p,⟨o,e⟩,st⟩:=x;exact⟨st _ _ p λo q=>k _ _ (.inl rfl) q,⟨o,k _ _ (.inl rfl) e⟩,st⟩
theorem HOk.lt(x:HOk P w H h)(e:H a=some o):a<h.objs.size:=(x a o e).lt
theorem HOk.fresh(x:HOk P w H h)(e:h.objs.size<=a):H a=none:=by
 cases q:H a with
 |none=>rfl
 |some u=>exact absurd (Nat.lt_of_lt_of_le (x.lt q) e) (Nat.lt_irrefl _)
theorem HOk.kept(x:HOk P w H h)(k:∀b u,h.get? b=some u->h'.get? b=some u):HOk P w H h':=λa o e=>
 (x a o e).stay (λb u _ q=>k b u q) (λ_ q=>q) λ_ _ q=>q
theorem HOk.laid(x:HOk P w H h)(k:∀b u,h.get? b=some u->h'.get? b=some u)(hp:h.objs.size<=a)(new:ObjOk P w (upd H a o) h' a o):HOk P w (upd H a o) h':=λb u e=>by
 have hn:=x.fresh hp
 by_cases hb:b=a
 ·subst hb;rw[aT]at e;cases e;exact new
 ·rw[aY hb]at e
  exact(x b u e).stay (λc v _ q=>k c v q) (λc q=>by rw[aY (cS q hn)];exact q) λc xs q=>by rw[aY (cS q hn)];exact q
end
def Rd(H:Hp)(a:Addr)(u:HO):Prop:=H a=some u\/∃o,H a=some (.frz o u)
theorem Rd.ok{P:Program}{w:World}{H:Hp}{h:Heap}{a:Addr}{u:HO}(r:Rd H a u)(x:HOk P w H h):ObjOk P w H h a u:=by
 rcases r with r|⟨o,r⟩
 ·exact x a u r
 ·obtain⟨_,q⟩:=x a _ r
  exact q
def Mut:Option HO->Prop
 |some (.lst _)=>True
 |some (.dK _)=>True
 |some (.dT _)=>True
 |some (.set _ _)=>True
 |some (.ins _ _ _)=>True
 |some (.ext _)=>True
 |_=>False
section
variable{P:Program}{w:World}{H:Hp}{h h':Heap}{x e:Addr}{o':HO}
theorem HOk.write(ok:HOk P w H h)(mu:Mut (H x))(he:e=x\/H e=some (.own x))(k:∀b u,b≠e->h.get? b=some u->h'.get? b=some u)(heo:∃u,h'.get? e=some u)
  (new:ObjOk P w (upd H x o') h' x o'):HOk P w (upd H x o') h':=λb u q=>by
 have nown:∀c y,H c=some (.own y)->c≠x:=λc y r z=>by subst z;rw[r]at mu;exact mu
 have ntup:∀c xs,H c=some (.tup xs)->c≠x:=λc xs r z=>by subst z;rw[r]at mu;exact mu
 by_cases hb:b=x
 ·subst hb;rw[aT]at q;cases q;exact new
 ·rw[aY hb]at q
  by_cases hbe:b=e
  ·have q':H b=some (.own x):=by
    rcases he with z|z
    ·exact absurd (hbe.trans z) hb
    ·rw[hbe];exact z
   rw[q]at q';cases q'
   obtain⟨v,hv⟩:=heo
   exact⟨v,by rw[hbe];exact hv⟩
  ·refine(ok b u q).stay (λc v hc r=>k c v ?_ r) (λc r=>by rw[aY (nown c b r)];exact r) λc xs r=>by rw[aY (ntup c xs r)];exact r
   rcases hc with rfl|hc
   ·exact hbe
   ·rintro rfl
    rcases he with z|z
    ·exact nown c b hc z
    ·rw[hc]at z;cases z;exact hb rfl
end
structure Un (fs ex:List Addr) (H H':Hp) (h h':Heap):Prop where
 keep:∀b o,h.get? b=some o->H b=none->b∉fs->b∉ex->h'.get? b=some o
 slot:∀b o,h.get? b=some o->H b=none->b∈fs->b∉ex->∃sl,h'.get? b=some {o with slots:=sl}
 free:∀b o,h.get? b=some o->H b=none->b∉ex->H' b=none
 there:∀b o,h.get? b=some o->b∉ex->∃o',h'.get? b=some o'
 tups:∀b xs,H b=some (.tup xs)->H' b=some (.tup xs)
 frzs:∀b o u,H b=some (.frz o u)->H' b=some (.frz o u)
 tbls:∀b ps,H b=some (.tbl ps)->∃more,H' b=some (.tbl (ps++more))
section
variable{fs fs' ex ex':List Addr}{H H1 H2:Hp}{h h1 h2 h':Heap}{a x e:Addr}{o:HO}
theorem Un.any(u:Un fs ex H H1 h h1){b:Addr}{ob:Obj}(q:h.get? b=some ob)(n:H b=none)(hx:b∉ex):∃sl,h1.get? b=some {ob with slots:=sl}:=by
 by_cases hb:b∈fs
 ·exact u.slot b ob q n hb hx
 ·exact⟨ob.slots,u.keep b ob q n hb hx⟩
theorem Un.kept(k:∀b u,h.get? b=some u->h'.get? b=some u):Un fs ex H H h h':=
 ⟨λb ob q _ _ _=>k b ob q,λb ob q _ _ _=>⟨ob.slots,k b ob q⟩,λ_ _ _ n _=>n,λb ob q _=>⟨ob,k b ob q⟩,λ_ _ q=>q,λ_ _ _ q=>q,λ_ ps q=>⟨#[],by rw[q];simp⟩⟩
theorem Un.refl:Un fs ex H H h h:=Un.kept λ_ _ q=>q
theorem Un.laid(k:∀b u,h.get? b=some u->h'.get? b=some u)(hp:h.objs.size<=a)(hn:H a=none):Un fs ex H (upd H a o) h h' where
 keep:=λb u q _ _ _=>k b u q
 slot:=λb u q _ _ _=>⟨u.slots,k b u q⟩
 free:=λb u q n _=>by rw[aY (Nat.ne_of_lt (Nat.lt_of_lt_of_le (Heap.lt_size q) hp))];exact n
 there:=λb u q _=>⟨u,k b u q⟩
 tups:=λb xs q=>by rw[aY (cS q hn)];exact q
 frzs:=λb u xs q=>by rw[aY (cS q hn)];exact q
 tbls:=λb ps q=>⟨#[],by rw[aY (cS q hn),q];simp⟩
theorem Un.write(mu:Mut (H x))(he:e=x\/H e=some (.own x))(k:∀b u,b≠e->h.get? b=some u->h'.get? b=some u)(heo:∃u,h'.get? e=some u):Un fs ex H (upd H x o) h h':=by
 have hx:∀b,H b=none->b≠x:=λb n z=>by subst z;rw[n]at mu;exact mu
 have hb:∀b,H b=none->b≠e:=λb n z=>by
  subst z
  rcases he with r|r
  ·exact hx b n r
  ·rw[n]at r;cases r
 have hm:∀b u,H b=some u->¬ Mut (some u)->b≠x:=λb u q nm z=>by subst z;rw[q]at mu;exact nm mu
 refine⟨λb u q n _ _=>k b u (hb b n) q,λb u q n _ _=>⟨u.slots,k b u (hb b n) q⟩,λb u q n _=>by rw[aY (hx b n)];exact n,λb u q _=>?_,
  λb xs q=>by rw[aY (hm b _ q λz=>z)];exact q,λb u xs q=>by rw[aY (hm b _ q λz=>z)];exact q,λb ps q=>⟨#[],by rw[aY (hm b _ q λz=>z),q];simp⟩⟩
 by_cases hbe:b=e
 ·subst hbe;exact heo
 ·exact⟨u,k b u hbe q⟩
end
def trk(h:Heap)(H:Hp):List Addr:=(List.range h.objs.size).filter λa=>(H a).isSome
def gR(h:Heap)(H:Hp):Heap:=PySem.W.hideAll h (trk h H)
theorem zDB(h:Heap)(H:Hp):(gR h H).objs.size=h.objs.size:=PySem.W.hideAll_size _ _
theorem zEF{h:Heap}{H:Hp}{b:Addr}{o:Obj}(e:h.get? b=some o)(n:H b=none):(gR h H).get? b=some o:=
 PySem.W.hideAll_get _ e λhm=>by
  have q:(H b).isSome=true:=(List.mem_filter.mp hm).2
  rw[n]at q;simp at q
theorem zFQ{h:Heap}{H:Hp}{b:Addr}{o:Obj}(e:(gR h H).get? b=some o):h.get? b=some o/\H b=none:=by
 have e':h.get? b=some o:=PySem.W.of_hideAll (trk h H) e
 refine⟨e',?_⟩
 cases q:H b with
 |none=>rfl
 |some x=>
  have hm:b∈trk h H:=List.mem_filter.mpr ⟨List.mem_range.mpr (Heap.lt_size e'),by simp[q]⟩
  have z:(gR h H).get? b=none:=PySem.W.hideAll_none (trk h H) hm
  rw[z]at e;cases e
end L2
namespace L2
open PySem PySem.Spec PyProof.Rows
structure Mod (K:W.Frag) (mg:Str->Option Value) (base:Heap):Prop where
 kin:K.In base
 glob:base.Ns mainGlobals mg
 blt:∃mb,base.Ns builtinsNs mb/\∀x:Str,x≠"__name__"->mb x=bootBuiltins x
 nolimit:base.NoLimit
structure Cx where
 prog:Program
 w:World
 K:W.Frag
 mg:Str->Option Value
 base:Heap
 A:Around
 N:List Str
 s₀:Shared
 H₀:Hp
 env:Env
 outer:List Env
 stack:List Env
 ex:List Addr
 fn:Str->Bool
 calm:Bool
 pn:List (Addr×Obj)
 xe:Value->Shared->Prop
def frs(l:List Env):List Addr:=l.filterMap (·.frame)
abbrev Cx.fs(X:Cx):List Addr:=frs X.outer
def Vis(sc:Scope)(x:Str):Prop:=sc.names.lookup x=some .local\/sc.names.lookup x=some .cell\/sc.names.lookup x=some .free
def Loc(sc:Scope)(x:Str):Prop:=sc.names.lookup x=some .local\/sc.names.lookup x=some .cell
def zKa(env:Env)(h:Heap)(m:Str->Option Value)(x:Str)(u:Value):Prop:=
 (env.kindOf x=some .local/\m x=some u)\/((env.kindOf x=some .cell\/env.kindOf x=some .free)/\∃c,env.cells.lookup x=some c/\h.IsCell c (some u))
structure Cx.Ok (X:Cx):Prop where
 mod:Mod X.K X.mg X.base
 kind:X.env.scope.kind=.function
 glob:X.env.globals=mainGlobals
 blt:X.env.builtins=builtinsNs
 above:X.s₀.heap.objs.size<=X.env.locals
 inj:∀x y c,X.env.cells.lookup x=some c->X.env.cells.lookup y=some c->x=y
 has:∀x,(X.env.kindOf x=some .cell\/X.env.kindOf x=some .free)->∃c,X.env.cells.lookup x=some c
 cab:∀x c,X.fn x=true->X.env.cells.lookup x=some c->X.s₀.heap.objs.size<=c
 hd:X.calm=true->X.A.handled=none
 frames:X.A.frames=some X.stack
 stk:X.stack=X.outer\/(X.stack=X.env::X.outer/\X.env.frame=some X.env.locals)
 exf:∀b∈X.ex,b≠X.env.locals/\∀x c,X.env.cells.lookup x=some c->c≠b
 bs:∀b o,X.base.get? b=some o->X.s₀.heap.get? b=some o/\X.H₀ b=none
 bsz:X.base.objs.size<=X.s₀.heap.objs.size
 noex:∀b o,X.base.get? b=some o->b∉X.ex
 exfs:∀b∈X.ex,b∉X.fs
 funs:X.s₀.heap.FunFrames X.base X.outer
 frf:∀b∈X.fs,X.H₀ b=none
structure Inv (X:Cx) (pins:List (Addr×Obj)) (σ:List (Option V)) (H:Hp) (s:Shared):Prop where
 ok:X.Ok
 os:s.os=X.s₀.os
 bare:AllBare s.gens
 base:Un X.fs X.ex X.H₀ H X.s₀.heap s.heap
 loc:∃m,s.heap.Ns X.env.locals m/\∀(i:Nat) (x:Str) (v:V),X.N[i]?=some x->σ[i]?=some (some v)->Vis X.env.scope x->∃u,RelV v u/\zKa X.env s.heap m x u
 cell:∀x c,X.env.cells.lookup x=some c->∃v,s.heap.IsCell c v
 free:H X.env.locals=none
 freeC:∀x c,X.env.cells.lookup x=some c->H c=none
 pin:∀p∈X.pn++pins,s.heap.get? p.1=some p.2/\H p.1=none/\p.1≠X.env.locals/\p.1∉X.fs/\∀v,p.2.data≠.cell v
 hok:HOk X.prog X.w H s.heap
 len:σ.length=X.N.length
section
variable{X:Cx}{pins:List (Addr×Obj)}{σ:List (Option V)}{H H':Hp}{s:Shared}{h':Heap}
theorem Cx.Ok.nofr(ok:X.Ok){b:Addr}{o:Obj}(e:X.base.get? b=some o):b∉X.fs:=λhb=>by
 have:=(ok.funs.mem hb).1
 rw[e]at this;cases this
theorem Inv.bs(I:Inv X pins σ H s):∀b o,X.base.get? b=some o->s.heap.get? b=some o/\H b=none:=λb o e=>
 ⟨I.base.keep b o (I.ok.bs b o e).1 (I.ok.bs b o e).2 (I.ok.nofr e) (I.ok.noex b o e),I.base.free b o (I.ok.bs b o e).1 (I.ok.bs b o e).2 (I.ok.noex b o e)⟩
theorem Inv.bk(I:Inv X pins σ H s):∀b o,X.base.get? b=some o->s.heap.get? b=some o:=λb o e=>(I.bs b o e).1
theorem Inv.mod(I:Inv X pins σ H s):Mod X.K X.mg X.base:=I.ok.mod
theorem Inv.kIn(I:Inv X pins σ H s):X.K.In s.heap:=I.ok.mod.kin.keeps I.bk
theorem Inv.lt(I:Inv X pins σ H s):X.env.locals<s.heap.objs.size:=let ⟨_,hn,_⟩:=I.loc;hn.lt
theorem Inv.sz(I:Inv X pins σ H s):X.s₀.heap.objs.size<=s.heap.objs.size:=Nat.le_trans I.ok.above (Nat.le_of_lt I.lt)
theorem Inv.nofs(I:Inv X pins σ H s){a:Addr}(h:s.heap.objs.size<=a):a∉X.fs:=λhb=>by
 obtain⟨_,o,ho,_⟩:=I.ok.funs.mem hb
 exact absurd (Nat.lt_of_lt_of_le (Heap.lt_size ho) (Nat.le_trans I.sz h)) (Nat.lt_irrefl _)
theorem Inv.cne(I:Inv X pins σ H s):∀x c,X.env.cells.lookup x=some c->c≠X.env.locals:=λx c e z=>by
 obtain⟨v,o,ho,hd⟩:=I.cell x c e
 obtain⟨m,⟨o',es,ep,ho',hd',_⟩,_⟩:=I.loc
 rw[z,ho']at ho;cases ho;rw[hd']at hd;cases hd
theorem Inv.funs(I:Inv X pins σ H s):s.heap.FunFrames X.base X.outer:=by
 have all:∀(l:List Env),(∀b∈frs l,b∈X.fs)->X.s₀.heap.FunFrames X.base l->s.heap.FunFrames X.base l:=by
  intro l
  induction l with
  |nil=>intro _ _;trivial
  |cons env r ih=>
   intro hs hl
   obtain⟨hk,⟨L,o,hf,hn,ho,hd⟩,hr⟩:=hl
   have hL:L∈X.fs:=hs L (by unfold frs;rw[List.filterMap_cons,hf];exact List.mem_cons_self)
   obtain⟨sl,e⟩:=I.base.slot L o ho (I.ok.frf L hL) hL λz=>I.ok.exfs L z hL
   exact⟨hk,⟨L,_,hf,hn,e,hd⟩,ih (λb hb=>hs b (by unfold frs;rw[List.filterMap_cons,hf];exact List.mem_cons_of_mem _ hb)) hr⟩
 exact all X.outer (λ_ hb=>hb) I.ok.funs
theorem Inv.stack(I:Inv X pins σ H s):s.heap.FunFrames X.base X.stack:=by
 rcases I.ok.stk with e|⟨e,hf⟩
 ·rw[e];exact I.funs
 ·rw[e]
  obtain⟨m,hn,_⟩:=I.loc
  refine .cons (by rw[I.ok.kind];decide) hf hn ?_ I.funs
  exact Heap.get?_none_of_le (Nat.le_trans I.ok.bsz I.ok.above)
theorem Inv.stkSub(I:Inv X pins σ H s):∀b∈frs X.stack,b∈X.env.locals::X.fs:=λb hb=>by
 rcases I.ok.stk with e|⟨e,hf⟩
 ·rw[e]at hb;exact List.mem_cons_of_mem _ hb
 ·rw[e]at hb
  unfold frs at hb
  rw[List.filterMap_cons,hf]at hb
  exact hb
theorem Inv.stkFree(I:Inv X pins σ H s):∀b∈frs X.stack,H b=none:=λb hb=>by
 rcases List.mem_cons.mp (I.stkSub b hb) with e|hb
 ·rw[e];exact I.free
 ·obtain⟨_,o,ho,_⟩:=I.ok.funs.mem hb
  exact I.base.free b o ho (I.ok.frf b hb) λz=>I.ok.exfs b z hb
theorem Inv.step{g':Array GenState}{t':Nat}{d':Drawn}{ch:List Addr}(I:Inv X pins σ H s)
  (hch:∀b∈ch,(b∈X.ex\/X.s₀.heap.objs.size<=b)/\b≠X.env.locals/\(∀x c,X.env.cells.lookup x=some c->c≠b)/\∀p∈X.pn++pins,p.1≠b)
  (keep:∀b o,b≠X.env.locals->b∉X.fs->b∉ch->s.heap.get? b=some o->H b=none->h'.get? b=some o)
  (slot:∀b o,b≠X.env.locals->b∈X.fs->b∉ch->s.heap.get? b=some o->H b=none->∃sl,h'.get? b=some {o with slots:=sl}) (free:∀b o,b∉ch->s.heap.get? b=some o->H b=none->H' b=none)
  (there:∀b o,b∉ch->s.heap.get? b=some o->∃o',h'.get? b=some o')
  (tups:∀b xs,H b=some (.tup xs)->H' b=some (.tup xs)) (frzs:∀b o u,H b=some (.frz o u)->H' b=some (.frz o u)) (tbls:∀b ps,H b=some (.tbl ps)->∃more,H' b=some (.tbl (ps++more)))
  (ns:∀m,s.heap.Ns X.env.locals m->h'.Ns X.env.locals m) (hok:HOk X.prog X.w H' h') (hg:AllBare g'):
  Inv X pins σ H' {s with heap:=h',gens:=g',drawn:=d',toks:=t'}:=by
 have neL:∀b o,X.s₀.heap.get? b=some o->b≠X.env.locals:=λb o e=>Nat.ne_of_lt (Nat.lt_of_lt_of_le (Heap.lt_size e) I.ok.above)
 have neC:∀b o,X.s₀.heap.get? b=some o->b∉X.ex->b∉ch:=λb o e hx hb=>by
  rcases (hch b hb).1 with z|z
  ·exact hx z
  ·exact absurd (Nat.lt_of_lt_of_le (Heap.lt_size e) z) (Nat.lt_irrefl _)
 have cellK:∀x c,X.env.cells.lookup x=some c->∀v,s.heap.IsCell c v->h'.IsCell c v:=λx c e v ⟨o,ho,hd⟩=>by
  have nch:c∉ch:=λz=>(hch c z).2.2.1 x c e rfl
  by_cases hc:c∈X.fs
  ·obtain⟨sl,q⟩:=slot c o (I.cne x c e) hc nch ho (I.freeC x c e)
   exact⟨_,q,hd⟩
  ·exact⟨o,keep c o (I.cne x c e) hc nch ho (I.freeC x c e),hd⟩
 refine⟨I.ok,I.os,hg,⟨λb o e n hb hx=>?_,λb o e n hb hx=>?_,λb o e n hx=>?_,λb o e hx=>?_,λb xs e=>tups b xs (I.base.tups b xs e),λb o xs e=>frzs b o xs (I.base.frzs b o xs e),λb ps e=>?_⟩,?_,λx c e=>?_,?_,λx c e=>?_,λp hp=>?_,hok,I.len⟩
 ·exact keep b o (neL b o e) hb (neC b o e hx) (I.base.keep b o e n hb hx) (I.base.free b o e n hx)
 ·obtain⟨sl,e1⟩:=I.base.slot b o e n hb hx
  obtain⟨sl',e2⟩:=slot b _ (neL b o e) hb (neC b o e hx) e1 (I.base.free b o e n hx)
  exact⟨sl',e2⟩
 ·obtain⟨o',e1⟩:=I.base.there b o e hx
  exact free b o' (neC b o e hx) e1 (I.base.free b o e n hx)
 ·obtain⟨o',e1⟩:=I.base.there b o e hx
  exact there b o' (neC b o e hx) e1
 ·obtain⟨m1,e1⟩:=I.base.tbls b ps e
  obtain⟨m2,e2⟩:=tbls b _ e1
  exact⟨m1++m2,by rw[e2,Array.append_assoc]⟩
 ·obtain⟨m,hn,hl⟩:=I.loc
  refine⟨m,ns m hn,λi x v e1 e2 e3=>?_⟩
  obtain⟨u,r,l⟩:=hl i x v e1 e2 e3
  refine⟨u,r,?_⟩
  rcases l with l|⟨k,c,e,z⟩
  ·exact .inl l
  ·exact .inr ⟨k,c,e,cellK x c e _ z⟩
 ·obtain⟨v,z⟩:=I.cell x c e
  exact⟨v,cellK x c e v z⟩
 ·obtain⟨m,⟨o,_,_,ho,_⟩,_⟩:=I.loc
  exact free _ o (λz=>(hch _ z).2.1 rfl) ho I.free
 ·obtain⟨v,o,ho,hd⟩:=I.cell x c e
  exact free c o (λz=>(hch c z).2.2.1 x c e rfl) ho (I.freeC x c e)
 ·obtain⟨e,n,ne,nf,d⟩:=I.pin p hp
  have nch:p.1∉ch:=λz=>(hch p.1 z).2.2.2 p hp rfl
  exact⟨keep p.1 p.2 ne nf nch e n,free p.1 p.2 nch e n,ne,nf,d⟩
theorem Inv.un{t':Nat}(I:Inv X pins σ H s)(u:Un X.fs [] H H' s.heap h')(hok:HOk X.prog X.w H' h'):Inv X pins σ H' {s with heap:=h',toks:=t'}:=by
 obtain⟨m,⟨o,es,ep,ho,r⟩,_⟩:=id I.loc
 obtain⟨sl,hL⟩:=u.any ho I.free (by simp)
 exact I.step (g':=s.gens) (d':=s.drawn) (ch:=[]) (λ_ z=>nomatch z) (λb o _ hb _ e n=>u.keep b o e n hb (by simp)) (λb o _ hb _ e n=>u.slot b o e n hb (by simp)) (λb o _ e n=>u.free b o e n (by simp)) (λb o _ e=>u.there b o e (by simp)) u.tups u.frzs u.tbls (λm' hm=>by
  obtain⟨o',es',ep',ho',r'⟩:=hm
  rw[ho]at ho';cases ho'
  exact⟨_,es',ep',hL,r'⟩) hok I.bare
theorem Inv.call{g':Array GenState}{t':Nat}{d':Drawn}{ch:List Addr}(I:Inv X pins σ H s)(u:Un (frs X.stack) ch H H' s.heap h')(hok:HOk X.prog X.w H' h')(hg:AllBare g')
  (hch:∀b∈ch,(b∈X.ex\/X.s₀.heap.objs.size<=b)/\b≠X.env.locals/\(∀x c,X.env.cells.lookup x=some c->c≠b)/\∀p∈X.pn++pins,p.1≠b):
  Inv X pins σ H' {s with heap:=h',gens:=g',drawn:=d',toks:=t'}:=by
 obtain⟨m,⟨o,es,ep,ho,r⟩,_⟩:=id I.loc
 obtain⟨sl,hL⟩:=u.any ho I.free λz=>(hch _ z).2.1 rfl
 exact I.step (ch:=ch) hch (λb o hL hb hc e n=>u.keep b o e n (λz=>(List.mem_cons.mp (I.stkSub b z)).elim hL hb) hc) (λb o _ _ hc e n=>u.any e n hc) (λb o hc e n=>u.free b o e n hc) (λb o hc e=>u.there b o e hc) u.tups u.frzs u.tbls (λm' hm=>by
  obtain⟨o',es',ep',ho',r'⟩:=hm
  rw[ho]at ho';cases ho'
  exact⟨_,es',ep',hL,r'⟩) hok hg
theorem Inv.turned{t':Nat}{it:Addr}(I:Inv X pins σ H s)(k:∀b o,b≠it->s.heap.get? b=some o->h'.get? b=some o)(hn:H it=none)(hL:it≠X.env.locals)
  (h1:it∈X.ex\/X.s₀.heap.objs.size<=it) (h2:∀x c,X.env.cells.lookup x=some c->c≠it) (h3:∀p∈X.pn++pins,p.1≠it):Inv X pins σ H {s with heap:=h',toks:=t'}:=by
 have nit:∀b u,H b=some u->b≠it:=λb u e z=>by rw[z,hn]at e;cases e
 refine I.step (g':=s.gens) (d':=s.drawn) (ch:=[it]) (λb hb=>?_) (λb o _ _ hc e _=>k b o (λz=>hc (by simp[z])) e) (λb o _ _ hc e _=>⟨o.slots,k b o (λz=>hc (by simp[z])) e⟩) (λ_ _ _ _ n=>n)
  (λb o hc e=>⟨o,k b o (λz=>hc (by simp[z])) e⟩) (λ_ _ e=>e) (λ_ _ _ e=>e) (λb ps e=>⟨#[],by rw[e];simp⟩) (λm hm=>?_) (λb u e=>?_) I.bare
 ·have e:b=it:=by simpa using hb
  subst e
  exact⟨h1,hL,h2,h3⟩
 ·obtain⟨o,es,ep,ho,r⟩:=hm
  exact⟨o,es,ep,k _ o (Ne.symm hL) ho,r⟩
 ·refine(I.hok b u e).stay (λc v hc q=>k c v ?_ q) (λ_ q=>q) λ_ _ q=>q
  rcases hc with z|z
  ·rw[z];exact nit b u e
  ·exact nit c _ z
theorem Inv.tok(I:Inv X pins σ H s)(t:Nat):Inv X pins σ H {s with toks:=t}:=I.un (h':=s.heap) (t':=t) Un.refl I.hok
theorem Inv.kept{t':Nat}(I:Inv X pins σ H s)(k:∀b u,s.heap.get? b=some u->h'.get? b=some u):Inv X pins σ H {s with heap:=h',toks:=t'}:=I.un (Un.kept k) (I.hok.kept k)
theorem Inv.laid{a:Addr}{o:HO}{t':Nat}(I:Inv X pins σ H s)(k:∀b u,s.heap.get? b=some u->h'.get? b=some u)(hp:s.heap.objs.size<=a)(new:ObjOk X.prog X.w (upd H a o) h' a o):
  Inv X pins σ (upd H a o) {s with heap:=h',toks:=t'}:=I.un (Un.laid k hp (I.hok.fresh hp)) (I.hok.laid k hp new)
theorem Inv.write{x e:Addr}{o:HO}{t':Nat}(I:Inv X pins σ H s)(mu:Mut (H x))(he:e=x\/H e=some (.own x))(k:∀b u,b≠e->s.heap.get? b=some u->h'.get? b=some u)(heo:∃u,h'.get? e=some u)
  (new:ObjOk X.prog X.w (upd H x o) h' x o):Inv X pins σ (upd H x o) {s with heap:=h',toks:=t'}:=I.un (Un.write mu he k heo) (I.hok.write mu he k heo new)
theorem Inv.weak{σ':List (Option V)}(I:Inv X pins σ H s)(hl:σ'.length=σ.length)(w:∀(i:Nat) v,σ'[i]?=some (some v)->σ[i]?=some (some v)):Inv X pins σ' H s:=
 ⟨I.ok,I.os,I.bare,I.base,let ⟨m,hn,hl'⟩:=I.loc;⟨m,hn,λi x v e1 e2 e3=>hl' i x v e1 (w i v e2) e3⟩,I.cell,I.free,I.freeC,I.pin,I.hok,hl.trans I.len⟩
theorem Inv.pins_of{pins':List (Addr×Obj)}(I:Inv X pins σ H s)(h:∀p∈pins',s.heap.get? p.1=some p.2/\H p.1=none/\p.1≠X.env.locals/\p.1∉X.fs/\∀v,p.2.data≠.cell v):Inv X pins' σ H s:=
 ⟨I.ok,I.os,I.bare,I.base,I.loc,I.cell,I.free,I.freeC,λp hp=>(List.mem_append.mp hp).elim (λz=>I.pin p (List.mem_append_left _ z)) (h p),I.hok,I.len⟩
theorem yA{N:List Str}(hN:N.Nodup){i j:Nat}{x:Str}(a:N[i]?=some x)(b:N[j]?=some x):i=j:=by
 obtain⟨h1,e1⟩:=List.getElem?_eq_some_iff.mp a
 obtain⟨h2,e2⟩:=List.getElem?_eq_some_iff.mp b
 exact(List.getElem_inj hN).mp (e1.trans e2.symm)
theorem wC{M:Model}{A:Around}{E:Value->Shared->Prop}{i:Nat}{x:Str}{v:V}{u:Value}{Q:Unit->Shared->Prop}(I:Inv X pins σ H s)(hN:X.N.Nodup)(hi:X.N[i]?=some x)(hx:Loc X.env.scope x)(r:RelV v u)
  (h:∀s',Inv X pins (σ.set i (some v)) H s'->(∃a,Heap.SameBut a s.heap s'.heap/\(a=X.env.locals\/X.env.cells.lookup x=some a))->Q () s') (hf:X.fn x=true\/X.env.scope.names.lookup x=some .local:=by first|exact .inl rfl|exact .inr rfl|assumption):wpAny M A (storeName X.env x u) Q E s:=by
 obtain⟨m,hn,hl⟩:=id I.loc
 have hcls:(X.env.scope.kind==.class || (X.env.scope.kind==.module&&X.env.locals != X.env.globals))=false:=by rw[I.ok.kind];rfl
 have hiσ:i<σ.length:=by rw[I.len];exact(List.getElem?_eq_some_iff.mp hi).1
 have cne:=I.cne
 have tracked:∀{a:Addr} {h':Heap},(∃o,s.heap.get? a=some o/\H a=none)->Heap.SameBut a s.heap h'->HOk X.prog X.w H h':=λ{a h'} ha hs b ob e=>by
  obtain⟨_,_,hfree⟩:=ha
  refine(I.hok b ob e).stay (λc w' hc q=>(hs.2 c ?_).trans q) (λ_ q=>q) λ_ _ q=>q
  rintro rfl
  rcases hc with rfl|hc
  ·rw[hfree]at e;cases e
  ·rw[hfree]at hc;cases hc
 rcases hx with hk|hk
 ·refine wpAny_storeName_local hk hn (λh' hn' hs=>?_) hcls
  obtain⟨oL,_,_,hoL,_⟩:=id hn
  refine h _ ⟨I.ok,I.os,I.bare,⟨λb o e n hb hx=>?_,λb o e n hb hx=>?_,I.base.free,λb o e hx=>?_,I.base.tups,I.base.frzs,I.base.tbls⟩,⟨_,hn',λj y v' e1 e2 e3=>?_⟩,λy c e=>?_,I.free,I.freeC,λp hp=>?_,tracked ⟨oL,hoL,I.free⟩ hs,by simpa using I.len⟩ ⟨_,hs,.inl rfl⟩
  ·exact(hs.2 b (Nat.ne_of_lt (Nat.lt_of_lt_of_le (Heap.lt_size e) I.ok.above))).trans (I.base.keep b o e n hb hx)
  ·obtain⟨sl,e1⟩:=I.base.slot b o e n hb hx
   exact⟨sl,(hs.2 b (Nat.ne_of_lt (Nat.lt_of_lt_of_le (Heap.lt_size e) I.ok.above))).trans e1⟩
  ·obtain⟨o',e1⟩:=I.base.there b o e hx
   exact⟨o',(hs.2 b (Nat.ne_of_lt (Nat.lt_of_lt_of_le (Heap.lt_size e) I.ok.above))).trans e1⟩
  ·by_cases hj:j=i
   ·subst hj
    rw[hi]at e1;cases e1
    rw[List.getElem?_set_self hiσ]at e2
    cases e2
    exact⟨u,r,.inl ⟨hk,by simp⟩⟩
   ·rw[List.getElem?_set_ne (Ne.symm hj)]at e2
    obtain⟨u',r',q⟩:=hl j y v' e1 e2 e3
    refine⟨u',r',?_⟩
    rcases q with⟨k,e⟩|⟨k,c,e,z⟩
    ·refine .inl ⟨k,?_⟩
     have:y≠x:=λe=>hj (yA hN e1 (e▸hi))
     simp[this,e]
    ·exact .inr ⟨k,c,e,z.sameBut hs (cne y c e)⟩
  ·obtain⟨w',z⟩:=I.cell y c e
   exact⟨w',z.sameBut hs (cne y c e)⟩
  ·obtain⟨e,n,ne,nf,d⟩:=I.pin p hp
   exact⟨(hs.2 p.1 ne).trans e,n,ne,nf,d⟩
 ·have hfn:X.fn x=true:=by
   rcases hf with z|z
   ·exact z
   ·rw[z]at hk;cases hk
  obtain⟨c,hc⟩:=I.ok.has x (.inl hk)
  obtain⟨w',z⟩:=I.cell x c hc
  refine wpAny_storeName_cell I.ok.kind hk hc z (λh' hc' hs=>?_)
  obtain⟨oc,hoc,hocd⟩:=id z
  refine h {s with heap:=h'} ⟨I.ok,I.os,I.bare,⟨λb o e n hb hx=>?_,λb o e n hb hx=>?_,I.base.free,λb o e hx=>?_,I.base.tups,I.base.frzs,I.base.tbls⟩,⟨m,hn.sameBut hs (Ne.symm (cne x c hc)),λj y v' e1 e2 e3=>?_⟩,λy c' e=>?_,I.free,I.freeC,λp hp=>?_,tracked ⟨oc,hoc,I.freeC x c hc⟩ hs,by simpa using I.len⟩ ⟨c,hs,.inr hc⟩
  ·exact(hs.2 b (Nat.ne_of_lt (Nat.lt_of_lt_of_le (Heap.lt_size e) (I.ok.cab x c hfn hc)))).trans (I.base.keep b o e n hb hx)
  ·obtain⟨sl,e1⟩:=I.base.slot b o e n hb hx
   exact⟨sl,(hs.2 b (Nat.ne_of_lt (Nat.lt_of_lt_of_le (Heap.lt_size e) (I.ok.cab x c hfn hc)))).trans e1⟩
  ·obtain⟨o',e1⟩:=I.base.there b o e hx
   exact⟨o',(hs.2 b (Nat.ne_of_lt (Nat.lt_of_lt_of_le (Heap.lt_size e) (I.ok.cab x c hfn hc)))).trans e1⟩
  ·by_cases hj:j=i
   ·subst hj
    rw[hi]at e1;cases e1
    rw[List.getElem?_set_self hiσ]at e2
    cases e2
    exact⟨u,r,.inr ⟨.inl hk,c,hc,hc'⟩⟩
   ·rw[List.getElem?_set_ne (Ne.symm hj)]at e2
    obtain⟨u',r',q⟩:=hl j y v' e1 e2 e3
    refine⟨u',r',?_⟩
    rcases q with q|⟨k,c',e,z'⟩
    ·exact .inl q
    ·refine .inr ⟨k,c',e,z'.sameBut hs ?_⟩
     rintro rfl
     exact hj (yA hN e1 (I.ok.inj _ _ _ e hc▸hi))
  ·by_cases hcc:c'=c
   ·subst hcc;exact⟨_,hc'⟩
   ·obtain⟨w2,z2⟩:=I.cell y c' e
    exact⟨w2,z2.sameBut hs hcc⟩
  ·obtain⟨e,n,ne,nf,d⟩:=I.pin p hp
   refine⟨(hs.2 p.1 ?_).trans e,n,ne,nf,d⟩
   intro q
   rw[q,hoc]at e
   have q':oc=p.2:=Option.some.inj e
   exact d w' (by rw[<-q'];exact hocd)
theorem nB{M:Model}{A:Around}{E:Value->Shared->Prop}{i:Nat}{x:Str}{v:V}{u:Value}{Q:Unit->Shared->Prop}(I:Inv X pins σ H s)(hN:X.N.Nodup)(hi:X.N[i]?=some x)(hx:Loc X.env.scope x)(r:RelV v u)
  (h:∀s',Inv X pins (σ.set i (some v)) H s'->Q () s') (hf:X.fn x=true\/X.env.scope.names.lookup x=some .local:=by first|exact .inl rfl|exact .inr rfl|assumption):wpAny M A (storeName X.env x u) Q E s:=
 wC I hN hi hx r (λs' I' _=>h s' I') hf
theorem Inv.call'{s':Shared}{ch:List Addr}(I:Inv X pins σ H s)(ho:s'.os=s.os)(u:Un (frs X.stack) ch H H' s.heap s'.heap)(hok:HOk X.prog X.w H' s'.heap)(hg:AllBare s'.gens)
  (hch:∀b∈ch,(b∈X.ex\/X.s₀.heap.objs.size<=b)/\b≠X.env.locals/\(∀x c,X.env.cells.lookup x=some c->c≠b)/\∀p∈X.pn++pins,p.1≠b):Inv X pins σ H' s':=by
 obtain⟨h',g',d',t',o'⟩:=s'
 have e:o'=s.os:=ho
 subst e
 exact I.call (g':=g') (t':=t') (d':=d') u hok hg hch
end
abbrev XK:=Value->Option Addr->Hp->Prop
abbrev St:=List (Option V)
abbrev VK:=V->Hp->Prop
abbrev TE:=St->Hp->VK->Prop
abbrev TT:=St->Hp->(Bool->Hp->Prop)->Prop
abbrev TA:=St->Hp->(List V->Hp->Prop)->Prop
structure jD where
 nx:St->Hp->Prop
 rt:VK
 bk:St->Hp->Prop:=λ_ _=>False
 ct:St->Hp->Prop:=λ_ _=>False
abbrev TS:=jD->St->Hp->Prop
def EP(X:Cx)(pins:List (Addr×Obj))(σ:St)(Q:VK)(u:Value)(s':Shared):Prop:=∃v H',Inv X pins σ H' s'/\RelV v u/\Q v H'
def TP(X:Cx)(pins:List (Addr×Obj))(σ:St)(Q:Bool->Hp->Prop)(b:Bool)(s':Shared):Prop:=∃H',Inv X pins σ H' s'/\Q b H'
def AP(X:Cx)(pins:List (Addr×Obj))(σ:St)(Q:List V->Hp->Prop)(us:List Value)(s':Shared):Prop:=∃vs H',Inv X pins σ H' s'/\Vals vs us/\Q vs H'
def SP(X:Cx)(pins:List (Addr×Obj))(D:jD)(f:Flow)(s':Shared):Prop:=
 match f with
 |.next=>∃σ' H',Inv X pins σ' H' s'/\D.nx σ' H'
 |.brk=>∃σ' H',Inv X pins σ' H' s'/\D.bk σ' H'
 |.cont=>∃σ' H',Inv X pins σ' H' s'/\D.ct σ' H'
 |.ret u=>∃v σ' H',Inv X pins σ' H' s'/\RelV v u/\D.rt v H'
def PE(X:Cx)(e:Expr)(t:TE):Prop:=
 ∀(pins:List (Addr×Obj)) (s:Shared) (σ:St) (H:Hp) (Q:VK),Inv X pins σ H s->t σ H Q->wpAny (model X.prog X.w) X.A (eval e X.env) (EP X pins σ Q) X.xe s
def PT(X:Cx)(e:Expr)(t:TT):Prop:=
 ∀(pins:List (Addr×Obj)) (s:Shared) (σ:St) (H:Hp) (Q:Bool->Hp->Prop),Inv X pins σ H s->t σ H Q->wpAny (model X.prog X.w) X.A (isTrue e X.env (eval e X.env)) (TP X pins σ Q) X.xe s
def PW(X:Cx)(e:Expr)(t:TT):Prop:=
 ∀(whole:Sem Value) (pins:List (Addr×Obj)) (s:Shared) (σ:St) (H:Hp) (Q:Bool->Hp->Prop),Inv X pins σ H s->t σ H Q->wpAny (model X.prog X.w) X.A (isTrue e X.env whole) (TP X pins σ Q) X.xe s
theorem PW.pt{X:Cx}{e:Expr}{t:TT}(h:PW X e t):PT X e t:=h _
def PA(X:Cx)(es:List Expr)(t:TA):Prop:=
 ∀(pos:Pos) (pins:List (Addr×Obj)) (s:Shared) (σ:St) (H:Hp) (Q:List V->Hp->Prop),Inv X pins σ H s->t σ H Q->wpAny (model X.prog X.w) X.A (spliced (backTo pos (starEach es X.env))) (AP X pins σ Q) X.xe s
def PS(X:Cx)(st:Stmt)(t:TS):Prop:=
 ∀(pins:List (Addr×Obj)) (s:Shared) (σ:St) (H:Hp) (D:jD),Inv X pins σ H s->t D σ H->wpAny (model X.prog X.w) X.A (exec st X.env) (SP X pins D) X.xe s
def PSs(X:Cx)(st:List Stmt)(t:TS):Prop:=
 ∀(pins:List (Addr×Obj)) (s:Shared) (σ:St) (H:Hp) (D:jD),Inv X pins σ H s->t D σ H->wpAny (model X.prog X.w) X.A (execs st X.env) (SP X pins D) X.xe s
theorem thn{α:Type}{t:Sem α}{Q Q':α->Shared->Prop}{M:Model}{A:Around}{E:Value->Shared->Prop}{s:Shared}(h:wpAny M A t Q E s)(hQ:∀a s,Q a s->Q' a s):wpAny M A t Q' E s:=wpAny_mono h hQ λ_ _ x=>x
end L2
namespace L2
open PySem PySem.Spec PyProof.Rows
section
variable{X:Cx}
def zA1(i:Nat):TE:=λσ H Q=>∃v,σ[i]?=some (some v)/\Q v H
def tC(v:V):TE:=λ_ H Q=>Q v H
theorem hZ{i:Nat}{x:Str}{pos:Pos}(hN:X.N[i]?=some x)(hv:Vis X.env.scope x)(hd:(x==("__debug__":Str))=false:=by decide)(hcd:(x==("__classdict__":Str))=false:=by decide):PE X (.Name x pos) (zA1 i):=by
 intro pins s σ H Q I h
 obtain⟨v,e,h⟩:=h
 obtain⟨m,hn,hl⟩:=I.loc
 obtain⟨u,r,l⟩:=hl i x v hN e hv
 have fin:EP X pins σ Q u s:=⟨v,H,I,r,h⟩
 rcases l with⟨hk,hm⟩|⟨hk,c,hc,hcell⟩
 ·exact wpAny_Name (wpAny_loadName_local I.ok.kind hk hn hm fin) hd
 ·rcases hk with hk|hk
  ·exact wpAny_Name (wpAny_loadName_cell I.ok.kind hk hc hcell fin) hd
  ·exact wpAny_Name (wpAny_loadName_free I.ok.kind hk hc hcell fin hcd) hd
theorem bQ{i j pos}:PE X (.Constant (.int i) j pos) (tC (.int i)):=λ_ _ _ H _ I h=>wpAny_Constant_int ⟨.int i,H,I.tok _,⟨_,rfl⟩,h⟩
theorem zIy{b j pos}:PE X (.Constant (.bool b) j pos) (tC (.bl b)):=λ_ _ _ H _ I h=>Constant_bool ⟨.bl b,H,I,rfl,h⟩
theorem zHi{j pos}:PE X (.Constant .none j pos) (tC .non):=λ_ _ _ H _ I h=>Constant_none ⟨.non,H,I,rfl,h⟩
theorem zHf{x j pos}:PE X (.Constant (.str x) j pos) (tC (.str x)):=λ_ _ _ H _ I h=>Calls.Constant_str ⟨.str x,H,I.tok _,⟨_,rfl⟩,h⟩
def Gl(X:Cx)(x:Str):Prop:=X.env.kindOf x=some .globalImplicit
theorem rY{E:Value->Shared->Prop}{pins:List (Addr×Obj)}{s:Shared}{σ:St}{H:Hp}{x:Str}{u:Value}{pos:Pos}{Q:Value->Shared->Prop}(I:Inv X pins σ H s)(hg:Gl X x)(hm:X.mg x=some u)(h:Q u s)
  (hd:(x==("__debug__":Str))=false:=by decide):wpAny (model X.prog X.w) X.A (eval (.Name x pos) X.env) Q E s:=
 Calls.Name_function_global I.ok.kind hg (Calls.loadGlobal_global (by rw[I.ok.glob];exact I.mod.glob.keeps I.bk) hm h) hd
theorem iS{E:Value->Shared->Prop}{pins:List (Addr×Obj)}{s:Shared}{σ:St}{H:Hp}{x:Str}{u:Value}{pos:Pos}{Q:Value->Shared->Prop}(I:Inv X pins σ H s)(hg:Gl X x)(hm:X.mg x=none)(hv:bootBuiltins x=some u)(h:Q u s)
  (hn:x≠"__name__":=by decide) (hd:(x==("__debug__":Str))=false:=by decide):wpAny (model X.prog X.w) X.A (eval (.Name x pos) X.env) Q E s:=by
 obtain⟨mb,h1,h2⟩:=I.mod.blt
 exact Calls.Name_function_global I.ok.kind hg (Calls.loadGlobal_builtin (by rw[I.ok.glob];exact I.mod.glob.keeps I.bk) hm (by rw[I.ok.blt];exact h1.keeps I.bk) ((h2 x hn).trans hv) h) hd
theorem zM{x:Str}{v:V}{u:Value}{pos:Pos}(hg:Gl X x)(hm:X.mg x=some u)(r:RelV v u)(hd:(x==("__debug__":Str))=false:=by decide):PE X (.Name x pos) (tC v):=
 λ_ _ _ H _ I h=>rY I hg hm ⟨v,H,I,r,h⟩ hd
theorem bB{x:Str}{v:V}{u:Value}{pos:Pos}(hg:Gl X x)(hm:X.mg x=none)(hv:bootBuiltins x=some u)(r:RelV v u)(hn:x≠"__name__":=by decide)(hd:(x==("__debug__":Str))=false:=by decide):PE X (.Name x pos) (tC v):=
 λ_ _ _ H _ I h=>iS I hg hm hv ⟨v,H,I,r,h⟩ hn hd
variable{a b:Expr}{ta tb:TE}{pos:Pos}
def tB(t:TE):TT:=λσ H Q=>t σ H λx H1=>∃c,x=.bl c/\Q c H1
theorem zG4{e:Expr}{t:TE}(h:PE X e t)(he:∀whole,isTrue e X.env whole=(do let v <- whole;standAt e.pos;holding [v] (truthy v)):=by intro _;rfl):PT X e (tB t):=by
 intro pins s σ H Q I hw
 refine isTrue_plain (thn (h pins s σ H _ I hw) λv s1 ⟨x,H1,I1,r1,q1⟩=>?_) (he _)
 obtain⟨d,rfl,q⟩:=q1
 cases r1
 exact wpAny_truthy_bool ⟨H1,I1,q⟩
variable{tA tB':TT}{rest:List Expr}
def zJe(t u:TT):TT:=λσ H Q=>t σ H λc H1=>if c=true then u σ H1 Q else Q false H1
def tOr(t u:TT):TT:=λσ H Q=>t σ H λc H1=>if c=true then Q true H1 else u σ H1 Q
def zJa(t:TT):TT:=λσ H Q=>t σ H λc H1=>Q (!c) H1
theorem zFw(ha:PT X a tA):PW X (.BoolOp .And [a] pos) tA:=by
 intro wh pins s σ H Q I h
 refine isTrue_and (thn (ha pins s σ H Q I h) λc s1 e=>?_)
 cases c with
 |true=>exact isTrue_and_nil e
 |false=>exact e
theorem zGZ(ha:PT X a tA):PW X (.BoolOp .Or [a] pos) tA:=by
 intro wh pins s σ H Q I h
 refine isTrue_or (thn (ha pins s σ H Q I h) λc s1 e=>?_)
 cases c with
 |false=>exact isTrue_or_nil e
 |true=>exact e
theorem zG0(ha:PT X a tA)(hb:PW X (.BoolOp .And (b::rest) pos) tB'):PW X (.BoolOp .And (a::b::rest) pos) (zJe tA tB'):=by
 intro wh pins s σ H Q I h
 refine isTrue_and (thn (ha pins s σ H _ I h) λc s1 ⟨H1,I1,q1⟩=>?_)
 cases c with
 |true=>exact hb wh pins s1 σ H1 Q I1 q1
 |false=>exact⟨H1,I1,q1⟩
theorem zIv(ha:PT X a tA)(hb:PW X (.BoolOp .Or (b::rest) pos) tB'):PW X (.BoolOp .Or (a::b::rest) pos) (tOr tA tB'):=by
 intro wh pins s σ H Q I h
 refine isTrue_or (thn (ha pins s σ H _ I h) λc s1 ⟨H1,I1,q1⟩=>?_)
 cases c with
 |true=>exact⟨H1,I1,q1⟩
 |false=>exact hb wh pins s1 σ H1 Q I1 q1
theorem zG5(ha:PT X a tA):PT X (.UnaryOp .Not a pos) (zJa tA):=by
 intro pins s σ H Q I h
 exact isTrue_not (ha pins s σ H (λc H1=>Q (!c) H1) I h)
def zId(ta tb:TE):TE:=λσ H Q=>ta σ H λx H1=>∃c,x=.bl c/\if c=true then tb σ H1 Q else Q (.bl false) H1
theorem zHh{op}{t:TE}(h:PE X a t):PE X (.BoolOp op [a] pos) t:=λpins s σ H Q I hw=>BoolOp_one (h pins s σ H Q I hw)
theorem zHl(ha:PE X a ta)(hb:PE X (.BoolOp .And (b::rest) pos) tb):PE X (.BoolOp .And (a::b::rest) pos) (zId ta tb):=by
 intro pins s σ H Q I h
 refine BoolOp_and (thn (ha pins s σ H _ I h) λv s1 ⟨x,H1,I1,r1,q1⟩=>?_)
 obtain⟨c,rfl,q1⟩:=q1
 cases r1
 refine wpAny_truthy_bool ?_
 cases c with
 |true=>exact hb pins s1 σ H1 Q I1 q1
 |false=>exact⟨.bl false,H1,I1,rfl,q1⟩
end
end L2
namespace L2
open PySem PySem.Spec PyProof.Rows
def SqL(K:W.Frag)(H:Hp)(a:Addr)(xs:List V):Prop:=
 Rd H a (.lst xs) \/
  ∃(o:Obj) (its:Array Value) (n:Nat),K.lookup a=some o/\o.cls=.type "list"/\o.dict=none/\o.data=.seq its n/\its.size<=sizeLine/\Vals xs its.toList
def SqT(K:W.Frag)(H:Hp)(a:Addr)(xs:List V):Prop:=
 Rd H a (.tup xs) \/
  ∃(o:Obj) (its:Array Value) (n:Nat),K.lookup a=some o/\o.cls=.type "tuple"/\o.data=.seq its n/\its.size<=sizeLine/\Vals xs its.toList
def zJ9:Value->Option V
 |.none=>some .non
 |.bool b=>some (.bl b)
 |.int i _=>some (.int i)
 |.str x _=>some (.str x)
 |.bytes b _=>some (.byt b)
 |.float b _=>some (.flt b)
 |.ref a=>some (.ref a)
 |.type n=>some (.ty n)
 |_=>none
theorem RelV.abs{x:V}{u:Value}(r:RelV x u):zJ9 u=some x:=by
 cases x with
 |non=>cases r;rfl
 |bl _=>cases r;rfl
 |int _=>obtain⟨t,rfl⟩:=r;rfl
 |str _=>obtain⟨t,rfl⟩:=r;rfl
 |byt _=>obtain⟨t,rfl⟩:=r;rfl
 |flt _=>obtain⟨t,rfl⟩:=r;rfl
 |ref _=>cases r;rfl
 |ty _=>cases r;rfl
theorem RelV.inj{x y:V}{u:Value}(r:RelV x u)(q:RelV y u):x=y:=Option.some.inj (r.abs.symm.trans q.abs)
theorem Vals.inj:∀{xs ys:List V}{us:List Value},Vals xs us->Vals ys us->xs=ys
 |_,_,_,.nil,.nil=>rfl
 |_,_,_,.cons r t,.cons r' t'=>by rw[r.inj r',Vals.inj t t']
section
variable{X:Cx}{pins:List (Addr×Obj)}{σ:St}{H:Hp}{s:Shared}{a:Addr}{xs ys:List V}
theorem SqL.of{K:W.Frag}(h:H a=some (.lst xs)):SqL K H a xs:=.inl (.inl h)
theorem SqT.of{K:W.Frag}(h:H a=some (.tup xs)):SqT K H a xs:=.inl (.inl h)
theorem Inv.list(I:Inv X pins σ H s)(h:SqL X.K H a xs):∃its:List Value,Vals xs its/\PlainL s.heap a its.toArray/\xs.length<=sizeLine:=by
 rcases h with h|⟨o,its,n,hk,hc,hd,hs,hz,r⟩
 ·obtain⟨z,its,n,r,e⟩:=h.ok I.hok
  exact⟨its,r,⟨_,n,e,rfl,rfl,rfl⟩,z⟩
 ·refine⟨its.toList,r,⟨o,n,I.kIn a o hk,hc,hd,by simpa using hs⟩,?_⟩
  have e:=r.length
  simp only[Array.length_toList]at e
  omega
theorem Inv.tuple(I:Inv X pins σ H s)(h:SqT X.K H a xs):∃its:List Value,Vals xs its/\IsTup s.heap a its.toArray/\xs.length<=sizeLine:=by
 rcases h with h|⟨o,its,n,hk,hc,hs,hz,r⟩
 ·obtain⟨z,its,r,p⟩:=h.ok I.hok
  exact⟨its,r,p,z⟩
 ·refine⟨its.toList,r,⟨o,I.kIn a o hk,hc,n,by simpa using hs⟩,?_⟩
  have e:=r.length
  simp only[Array.length_toList]at e
  omega
theorem Inv.list_inj(I:Inv X pins σ H s)(h:SqL X.K H a xs)(h':SqL X.K H a ys):xs=ys:=by
 obtain⟨its,r,⟨o,n,e,_,_,d⟩,_⟩:=I.list h
 obtain⟨its',r',⟨o',n',e',_,_,d'⟩,_⟩:=I.list h'
 rw[e]at e';cases e'
 rw[d]at d'
 injection d' with d1 _
 have:its=its':=by simpa using congrArg Array.toList d1
 subst this
 exact r.inj r'
theorem Inv.tuple_inj(I:Inv X pins σ H s)(h:SqT X.K H a xs)(h':SqT X.K H a ys):xs=ys:=by
 obtain⟨its,r,⟨o,e,_,n,d⟩,_⟩:=I.tuple h
 obtain⟨its',r',⟨o',e',_,n',d'⟩,_⟩:=I.tuple h'
 rw[e]at e';cases e'
 rw[d]at d'
 injection d' with d1 _
 have:its=its':=by simpa using congrArg Array.toList d1
 subst this
 exact r.inj r'
end
abbrev Cx.wish(X:Cx)(E:Value->Shared->Prop):Cx:={X with xe:=E}
abbrev Cx.nox(X:Cx):Cx:=X.wish λ_ _=>False
theorem Cx.Ok.wish{X:Cx}(ok:X.Ok)(E:Value->Shared->Prop):(X.wish E).Ok:=
 ⟨ok.mod,ok.kind,ok.glob,ok.blt,ok.above,ok.inj,ok.has,ok.cab,ok.hd,ok.frames,ok.stk,ok.exf,ok.bs,ok.bsz,ok.noex,ok.exfs,ok.funs,ok.frf⟩
theorem Cx.Ok.unwish{X:Cx}{E:Value->Shared->Prop}(ok:(X.wish E).Ok):X.Ok:=
 ⟨ok.mod,ok.kind,ok.glob,ok.blt,ok.above,ok.inj,ok.has,ok.cab,ok.hd,ok.frames,ok.stk,ok.exf,ok.bs,ok.bsz,ok.noex,ok.exfs,ok.funs,ok.frf⟩
section
variable{X:Cx}{pins:List (Addr×Obj)}{σ:St}{H:Hp}{s:Shared}{E:Value->Shared->Prop}
theorem Inv.wish(I:Inv X pins σ H s)(E:Value->Shared->Prop):Inv (X.wish E) pins σ H s:=⟨I.ok.wish E,I.os,I.bare,I.base,I.loc,I.cell,I.free,I.freeC,I.pin,I.hok,I.len⟩
theorem Inv.unwish(I:Inv (X.wish E) pins σ H s):Inv X pins σ H s:=⟨I.ok.unwish,I.os,I.bare,I.base,I.loc,I.cell,I.free,I.freeC,I.pin,I.hok,I.len⟩
theorem SP.unwish{D:jD}{f:Flow}{s':Shared}(h:SP (X.wish E) pins D f s'):SP X pins D f s':=by
 cases f with
 |next=>obtain⟨σ',H',I,q⟩:=h;exact⟨σ',H',I.unwish,q⟩
 |brk=>obtain⟨σ',H',I,q⟩:=h;exact⟨σ',H',I.unwish,q⟩
 |cont=>obtain⟨σ',H',I,q⟩:=h;exact⟨σ',H',I.unwish,q⟩
 |ret u=>obtain⟨v,σ',H',I,r,q⟩:=h;exact⟨v,σ',H',I.unwish,r,q⟩
theorem PSs.nox{st:List Stmt}{t:TS}(h:PSs X.nox st t):PSs X st t:=λpins s σ H D I hw=>
 wpAny_mono (h pins s σ H D (I.wish _) hw) (λ_ _ q=>q.unwish) λ_ _ z=>False.elim z
end
section
variable{X:Cx}{st:Stmt}{rest:List Stmt}{t u:TS}{e:Expr}{te:TE}{pos:Pos}
def zIb:TS:=λD σ H=>D.nx σ H
def zI6(t u:TS):TS:=λD σ H=>t {D with nx:=u D} σ H
theorem jU:PSs X [] zIb:=λ_ _ σ H _ I h=>wpAny_execs_nil ⟨σ,H,I,h⟩
theorem eB(h1:PS X st t)(h2:PSs X rest u):PSs X (st::rest) (zI6 t u):=by
 intro pins s σ H D I h
 refine wpAny_execs_cons (thn (h1 pins s σ H {D with nx:=u D} I h) λf s1 q=>?_)
 cases f with
 |next=>
  obtain⟨σ',H',I',q⟩:=q
  exact h2 pins s1 σ' H' D I' q
 |ret v=>exact q
 |brk=>exact q
 |cont=>exact q
theorem iP(h1:PS X st t):PSs X [st] t:=by
 intro pins s σ H D I h
 refine wpAny_execs_cons (thn (h1 pins s σ H D I h) λf s1 q=>?_)
 cases f with
 |next=>exact wpAny_execs_nil q
 |ret v=>exact q
 |brk=>exact q
 |cont=>exact q
theorem Inv.quiet{pins:List (Addr×Obj)}{σ:St}{H:Hp}{s:Shared}(I:Inv X pins σ H s):interactive X.env=false:=by simp[interactive,I.ok.kind]
def zIc(te:TE):TS:=λD σ H=>te σ H λ_ H1=>D.nx σ H1
theorem zF(he:PE X e te)(hs:swapsWith e none pos.line X.env=pure false:=by rfl):PS X (.Expr e pos) (zIc te):=by
 intro pins s σ H D I h
 exact wpAny_Expr_any (thn (he pins s σ H _ I h) λv s1 ⟨x,H1,I1,r1,q1⟩=>⟨σ,H1,I1,q1⟩) I.quiet hs
def zI8(te:TE):TS:=λD σ H=>te σ H D.rt
theorem iQ(he:PE X e te):PS X (.Return (some e) pos) (zI8 te):=by
 intro pins s σ H D I h
 exact wpAny_Return_some (thn (he pins s σ H _ I h) λv s1 ⟨x,H1,I1,r1,q1⟩=>⟨x,σ,H1,I1,r1,q1⟩)
def zJb(c:TT)(t u:TS):TS:=λD σ H=>c σ H λb H1=>if b=true then t D σ H1 else u D σ H1
theorem lT{c:Expr}{a b:List Stmt}{tc:TT}(hc:PT X c tc)(ha:PSs X a t)(hb:PSs X b u):PS X (.If c a b pos) (zJb tc t u):=by
 intro pins s σ H D I h
 refine wpAny_If (thn (hc pins s σ H _ I h) λd s1 ⟨H1,I1,q1⟩=>?_)
 cases d with
 |true=>exact ha pins s1 σ H1 D I1 q1
 |false=>exact hb pins s1 σ H1 D I1 q1
def zGA:TS:=λ_ _ _=>False
theorem zDj{sts:List Stmt}:PSs X sts zGA:=λ_ _ _ _ _ _ h=>h.elim
end
abbrev TG:=V->St->Hp->(St->Hp->Prop)->Prop
abbrev TGs:=List V->St->Hp->(St->Hp->Prop)->Prop
def PG(X:Cx)(target:Expr)(t:TG):Prop:=
 ∀(pins:List (Addr×Obj)) (s:Shared) (σ:St) (H:Hp) (v:V) (u:Value) (Q:St->Hp->Prop),Inv X pins σ H s->RelV v u->t v σ H Q ->
  wpAny (model X.prog X.w) X.A (assign target X.env u) (λ_ s'=>∃σ' H',Inv X pins σ' H' s'/\Q σ' H') X.xe s
def PGs(X:Cx)(ts:List Expr)(t:TGs):Prop:=
 ∀(pins:List (Addr×Obj)) (s:Shared) (σ:St) (H:Hp) (vs:List V) (us:List Value) (Q:St->Hp->Prop),Inv X pins σ H s->Vals vs us->t vs σ H Q ->
  wpAny (model X.prog X.w) X.A (assignInOrder ((assignEach ts X.env).map (·.2)) us) (λ_ s'=>∃σ' H',Inv X pins σ' H' s'/\Q σ' H') X.xe s
abbrev uM:=V->V->V->Hp->(Hp->Prop)->Prop
def zBz(X:Cx)(t:uM):Prop:=
 ∀(pins:List (Addr×Obj)) (s:Shared) (σ:St) (H:Hp) (o i v:V) (ov iv u:Value) (Q:Hp->Prop),Inv X pins σ H s->RelV o ov->RelV i iv->RelV v u->t o i v H Q ->
  wpAny (model X.prog X.w) X.A (setItem ov iv u) (λ_ s'=>∃H',Inv X pins σ H' s'/\Q H') X.xe s
section
variable{X:Cx}{pos:Pos}
def oP(i:Nat):TG:=λv σ H Q=>Q (σ.set i (some v)) H
theorem zK{i:Nat}{x:Str}(hN:X.N.Nodup)(hi:X.N[i]?=some x)(hx:Loc X.env.scope x)(hf:X.fn x=true\/X.env.scope.names.lookup x=some .local:=by first|exact .inl rfl|exact .inr rfl|assumption):PG X (.Name x pos) (oP i):=by
 intro pins s σ H v u Q I r h
 exact wpAny_assign_Name (nB I hN hi hx r (λs' I'=>⟨_,H,I',h⟩) hf)
def zJG:TGs:=λvs σ H Q=>vs=[]/\Q σ H
def zIP(t:TG)(u:TGs):TGs:=λvs σ H Q=>∃v r,vs=v::r/\t v σ H λσ' H'=>u r σ' H' Q
theorem zFC:PGs X [] zJG:=by
 intro pins s σ H vs us Q I r h
 obtain⟨e,h⟩:=h
 subst e
 cases r
 exact assignInOrder_nil ⟨σ,H,I,h⟩
theorem zEl{e:Expr}{es:List Expr}{t:TG}{u:TGs}(h1:PG X e t)(h2:PGs X es u)
  (hs:(assignEach (e::es) X.env).map (·.2)=assign e X.env::(assignEach es X.env).map (·.2):=by rfl):PGs X (e::es) (zIP t u):=by
 intro pins s σ H vs us Q I r h
 obtain⟨v,vr,e1,h⟩:=h
 subst e1
 cases r with
 |cons r rr=>
  rw[hs]
  refine assignInOrder_cons (thn (h1 pins s σ H _ _ _ I r h) λ_ s1 ⟨σ1,H1,I1,q1⟩=>?_)
  exact h2 pins s1 σ1 H1 _ _ Q I1 rr q1
def zJE(K:W.Frag)(n:Nat)(t:TGs):TG:=λv σ H Q=>∃a xs,v=.ref a/\SqT K H a xs/\xs.length=n/\t xs σ H Q
theorem zHa{es:List Expr}{k:Nat}{t:TGs}{n:Nat}(hc:X.calm=true)(h:PGs X es t)
  (hn:(assignEach es X.env).length=n:=by rfl) (hst:(assignEach es X.env).findIdx? (·.1)=none:=by rfl):PG X (.Tuple es k pos) (zJE X.K n t):=by
 intro pins s σ H v u Q I r hw
 obtain⟨a,xs,e1,hq,hl,hw⟩:=hw
 subst e1
 cases r
 obtain⟨its,rv,ht,hz⟩:=I.tuple hq
 refine assign_Tuple_tuple (I.ok.hd hc) ht (by simp[hn,<-hl,rv.length]) hst λh' hx=>?_
 have I1:Inv X pins σ H {s with heap:=h'}:=I.kept (t':=s.toks) λb o e=>hx b o (Nat.ne_of_lt (Heap.lt_size e)) e
 exact h pins _ σ H xs _ Q I1 (by simpa using rv) hw
def zJF(to ti:TE)(t:uM):TG:=λv σ H Q=>to σ H λo H1=>ti σ H1 λi H2=>t o i v H2 λH3=>Q σ H3
theorem zHb{o i:Expr}{to ti:TE}{t:uM}(ho:PE X o to)(hi:PE X i ti)(hs:zBz X t)
  (ha:∀v,assign (.Subscript o i pos) X.env v=(do
   let ov <- holding [v] (eval o X.env)
   let iv <- holding [v,ov] (eval i X.env)
   standAt pos
   holding [v,ov,iv] (setItem ov iv v)
   release [v,ov,iv] []):=by intro _;rfl):PG X (.Subscript o i pos) (zJF to ti t):=by
 intro pins s σ H v u Q I r h
 rw[ha]
 refine wpAny_bind (wpAny_holding (thn (ho pins s σ H _ I h) λov s1 ⟨x,H1,I1,r1,q1⟩=>?_))
 refine wpAny_bind (wpAny_holding (thn (hi pins s1 σ H1 _ I1 q1) λiv s2 ⟨y,H2,I2,r2,q2⟩=>?_))
 refine wpAny_bind (wpAny_standAt (wpAny_bind (wpAny_holding (thn (hs pins s2 σ H2 x y v ov iv u _ I2 r1 r2 r q2) λ_ s3 ⟨H3,I3,q3⟩=>?_))))
 exact wpAny_release ⟨σ,H3,I3,q3⟩
def oV(te:TE)(g:TG):TS:=λD σ H=>te σ H λx H1=>g x σ H1 D.nx
theorem zG7{tg e:Expr}{te:TE}{g:TG}(he:PE X e te)(hg:PG X tg g)(hs:swapsWithSole [tg] e pos.line X.env=pure false:=by rfl)(hw:swappedStores [tg] e X.env=pure none:=by rfl)
  (h1:(assignEach [tg] X.env).map (·.2)=[assign tg X.env]:=by rfl):PS X (.Assign [tg] e pos) (oV te g):=by
 intro pins s σ H D I h
 refine wpAny_Assign_stores (thn (he pins s σ H _ I h) λv s1 ⟨x,H1,I1,r1,q1⟩=>?_) hs hw
 rw[h1]
 exact thn (hg pins s1 σ H1 x v _ I1 r1 q1) λ_ s2 q=>q
theorem hX{i:Nat}{x:Str}{e:Expr}{te:TE}{pos':Pos}(hN:X.N.Nodup)(hi:X.N[i]?=some x)(hx:Loc X.env.scope x)(he:PE X e te)(hs:swapsWith e (some (.Name x pos')) pos.line X.env=pure false:=by rfl)(hf:X.fn x=true\/X.env.scope.names.lookup x=some .local:=by first|exact .inl rfl|exact .inr rfl|assumption):
  PS X (.Assign [.Name x pos'] e pos) (oV te (oP i)):=by
 intro pins s σ H D I h
 refine wpAny_Assign_Name (thn (he pins s σ H _ I h) λv s1 ⟨y,H1,I1,r1,q1⟩=>?_) hs
 exact nB I1 hN hi hx r1 (λs2 I2=>⟨_,H1,I2,q1⟩) hf
def zI9(i j:Nat)(ta:TA):TS:=λD σ H=>ta σ H λvs H1=>∃v w,vs=[v,w]/\D.nx ((σ.set i (some v)).set j (some w)) H1
theorem zG6{i j:Nat}{x y:Str}{a b:Expr}{ta:TA}{px py pt:Pos}{kt k2 pt2}(hc:X.calm=true)(hN:X.N.Nodup)(hi:X.N[i]?=some x)(hj:X.N[j]?=some y)(hij:i≠j)
  (hx:X.env.scope.names.lookup x=some .local) (hy:X.env.scope.names.lookup y=some .local) (ha:PA X [a,b] ta)
  (hw:swappedStores [.Tuple [.Name x px,.Name y py] kt pt] (.Tuple [a,b] k2 pt2) X.env=pure (some [x,y]))
  (hs:swapsWithSole [.Tuple [.Name x px,.Name y py] kt pt] (.Tuple [a,b] k2 pt2) pos.line X.env=pure false:=by rfl):
  PS X (.Assign [.Tuple [.Name x px,.Name y py] kt pt] (.Tuple [a,b] k2 pt2) pos) (zI9 i j ta):=by
 intro pins s σ H D I h
 rw[exec_Assign_arm]
 refine wpAny_bind (wpAny_standAt ?_)
 rw[hs]
 refine wpAny_bind (wpAny_pure ?_)
 rw[if_neg (by decide)]
 refine wpAny_bind (Tuple_ (thn (ha _ pins s σ H _ I h) λus s1 ⟨vs,H1,I1,r1,q1⟩=>?_))
 obtain⟨v,w,e1,q1⟩:=q1
 subst e1
 obtain⟨u1,u2,rfl,rv,rw'⟩:∃u1 u2,us=[u1,u2]/\RelV v u1/\RelV w u2:=by
  cases r1 with
  |cons p q=>
   cases q with
   |cons p' q'=>
    cases q'
    exact⟨_,_,rfl,p,p'⟩
 refine wpAny_newObj_type ?_ (by show 2<=sizeLine;decide)
 have I2:Inv X pins σ H1 {s1 with heap:=s1.heap.push {cls:=.type "tuple",data:=.seq [u1,u2].toArray}}:=I1.kept (t':=s1.toks) λb o e=>Heap.get?_push_of_some _ e
 rw[hw]
 refine wpAny_bind (wpAny_pure ?_)
 show wpAny (model X.prog X.w) X.A (do rule "assign.swapped-stores";let items <- unpackItems (.ref s1.heap.objs.size) 2 none;assignInOrder [λv=>bindName X.env y v,λv=>bindName X.env x v] items.reverse;pure Flow.next) _ _ _
 refine wpAny_bind (wpAny_rule (wpAny_bind (unpackItems_tuple (items:=#[u1,u2]) (I.ok.hd hc) (IsTup.new s1.heap _) λh' hx'=>?_)))
 have I3:=I2.kept (h':=h') (t':=s1.toks) λb o e=>hx' b o (Nat.ne_of_lt (Heap.lt_size e)) e
 show wpAny _ _ (assignInOrder [λv=>bindName X.env y v,λv=>bindName X.env x v] [u2,u1] >>= λ_=>pure Flow.next) _ _ _
 refine wpAny_bind (assignInOrder_cons (wpAny_bindName (nB I3 hN hj (.inl hy) rw' (λs2 I4=>?_) (.inr hy))))
 refine assignInOrder_cons (wpAny_bindName (nB I4 hN hi (.inl hx) rv (λs3 I5=>assignInOrder_nil (wpAny_pure ?_)) (.inr hx)))
 rw[List.set_comm _ _ (Ne.symm hij)]at I5
 exact⟨_,H1,I5,q1⟩
end
section
variable{X:Cx}{pos:Pos}
def zGz(c:TT)(tb:TS):TS:=λD σ H=>∃W:Nat->St->Hp->Prop,(∃m,W m σ H)/\∀m σ H,W m σ H ->
 c σ H λb H1=>if b=true then ∃N:St->Hp->Prop,(∀σ' H',N σ' H'->∃m',m'<m/\W m' σ' H')/\tb {D with nx:=N,ct:=N,bk:=D.nx} σ H1 else D.nx σ H1
theorem zEi{c:Expr}{body:List Stmt}{tc:TT}{tb:TS}(hp:PassesOwn (model X.prog X.w) X.A X.env X.xe)(hc:PT X c tc)(hb:PSs X body tb):PS X (.While c body [] pos) (zGz tc tb):=by
 intro pins s σ H D I h
 obtain⟨W,⟨m0,w0⟩,turn⟩:=h
 refine wpAny_While (codeAny_whileLoop (λn s'=>∃σ' H',Inv X pins σ' H' s'/\W n σ' H') ?_ m0 ⟨σ,H,I,w0⟩)
 rintro n s1 ⟨σ1,H1,I1,w1⟩
 refine wpAny_passesOwn hp (thn (hc pins s1 σ1 H1 _ I1 (turn n σ1 H1 w1)) λb s2 ⟨H2,I2,q2⟩=>?_)
 cases b with
 |true=>
  obtain⟨N,hN,q2⟩:=q2
  rw[if_pos rfl]
  refine wpAny_passesOwn hp (thn (hb pins s2 σ1 H2 _ I2 q2) λf s3 q3=>?_)
  cases f with
  |next=>
   obtain⟨σ3,H3,I3,n3⟩:=q3
   obtain⟨m',hm,w3⟩:=hN σ3 H3 n3
   exact⟨m',hm,σ3,H3,I3,w3⟩
  |cont=>
   obtain⟨σ3,H3,I3,n3⟩:=q3
   obtain⟨m',hm,w3⟩:=hN σ3 H3 n3
   exact⟨m',hm,σ3,H3,I3,w3⟩
  |brk=>exact q3
  |ret v=>exact q3
 |false=>
  rw[if_neg Bool.false_ne_true]
  exact wpAny_execs_nil ⟨σ1,H2,I2,q2⟩
end
structure It where
 go:Nat->Hp->Prop
 yld:Nat->Hp->V->Hp->Prop
 stop:Nat->Hp->Prop
def dQ(X:Cx)(pins:List (Addr×Obj))(H:Hp)(b:Addr):Prop:=
 H b=none/\b≠X.env.locals/\b∉X.fs/\(b∈X.ex\/X.s₀.heap.objs.size<=b)/\(∀x c,X.env.cells.lookup x=some c->c≠b)/\∀p∈X.pn++pins,p.1≠b
theorem Inv.fpOk{X:Cx}{pins:List (Addr×Obj)}{σ:St}{H H':Hp}{s:Shared}{b:Addr}(I:Inv X pins σ H s)(hb:s.heap.objs.size<=b)(hn:H' b=none):dQ X pins H' b:=by
 refine⟨hn,Nat.ne_of_gt (Nat.lt_of_lt_of_le I.lt hb),I.nofs hb,.inr (Nat.le_trans I.sz hb),λx c e z=>?_,λp hp z=>?_⟩
 ·obtain⟨v,q⟩:=I.cell x c e
  exact absurd (Nat.lt_of_lt_of_le q.lt (by rw[z];exact hb)) (Nat.lt_irrefl _)
 ·exact absurd (Nat.lt_of_lt_of_le (Heap.lt_size (I.pin p hp).1) (by rw[z];exact hb)) (Nat.lt_irrefl _)
structure fX (P:Program) (w:World) (K:W.Frag) (tg:Expr) (J:It) (fp:List Addr) (it:Addr) (tn:Nat->Heap->Prop):Prop where
 mem:it∈fp
 obj:∀i h,tn i h->∀b∈fp,∃o,h.get? b=some o/\∀v,o.data≠.cell v
 keep:∀i h h',tn i h->(∀b∈fp,∀o,h.get? b=some o->h'.get? b=some o)->tn i h'
 item:∀(X:Cx),X.prog=P->X.w=w->X.K=K->X.calm=true->∀(i:Nat) (pins:List (Addr×Obj)) (s:Shared) (σ:St) (H:Hp) (E:Value->Shared->Prop),Inv X pins σ H s->(∀b∈fp,dQ X pins H b)->tn i s.heap->J.go i H ->
  wpAny (model P w) X.A (pyNext (.ref it)) (λr s1=>∃u,r=some u /\
   wpAny (model P w) X.A (letOwnedTupleGo tg (.ref it) u) (λ_ s2=>∃x H',Inv X pins σ H' s2/\RelV x u/\J.yld i H x H'/\tn (i+1) s2.heap/\∀b∈fp,H' b=none) E s1) E s
 done:∀(X:Cx),X.prog=P->X.w=w->X.K=K->X.calm=true->∀(i:Nat) (pins:List (Addr×Obj)) (s:Shared) (σ:St) (H:Hp) (E:Value->Shared->Prop),Inv X pins σ H s->(∀b∈fp,dQ X pins H b)->tn i s.heap->J.stop i H ->
  wpAny (model P w) X.A (pyNext (.ref it)) (λr s1=>r=none/\Inv X pins σ H s1) E s
 self:∀(A:Around) (i:Nat) (s:Shared) (Q:Value->Shared->Prop) (E:Value->Shared->Prop),tn i s.heap->Q (.ref it) s->wpAny (model P w) A (pyIter (.ref it)) Q E s
abbrev TI:=St->Hp->(It->Hp->Prop)->Prop
def PIE(X:Cx)(pins:List (Addr×Obj))(σ:St)(tg:Expr)(R:It->Hp->Prop)(itv:Value)(s2:Shared):Prop:=
 ∃(it:Addr) (fp:List Addr) (tn:Nat->Heap->Prop) (J:It) (H':Hp),itv=.ref it/\Inv X pins σ H' s2/\fX X.prog X.w X.K tg J fp it tn/\tn 0 s2.heap/\(∀b∈fp,dQ X pins H' b)/\R J H'
def PI(X:Cx)(tg iter:Expr)(wi:TI):Prop:=
 ∀(pins:List (Addr×Obj)) (s:Shared) (σ:St) (H:Hp) (R:It->Hp->Prop),Inv X pins σ H s->wi σ H R ->
  wpAny (model X.prog X.w) X.A (eval iter X.env) (λv s1=>wpAny (model X.prog X.w) X.A (pyIter v) (PIE X pins σ tg R) X.xe s1) X.xe s
theorem kJ{M:Model}{A:Around}{E:Value->Shared->Prop}{s:Shared}{tg:Expr}{it:Addr}{u:Value}{o:Obj}{n:String}{vs:Array Value}{Q:Unit->Shared->Prop}(ho:s.heap.get? it=some o)(hc:o.cls=.type n)(hd:o.data=.fields vs)
    (hn:["enumerate","zip","dict_itemiterator","dict_reverseitemiterator","odict_iterator","itertools.zip_longest","itertools.pairwise"].contains n=false) (hQ:Q () s):wpAny M A (letOwnedTupleGo tg (.ref it) u) Q E s:=by
  unfold letOwnedTupleGo
  cases tg<;>first
    |exact wpAny_pure hQ
    |(cases u<;>first
        |exact wpAny_pure hQ
        | (refine wpAny_bind (wpAny_load ho ?_)
           rw[hc,hd]
           show wpAny M A (if (["enumerate","zip","dict_itemiterator","dict_reverseitemiterator","odict_iterator","itertools.zip_longest","itertools.pairwise"].contains n&&vs[0]? == some (rawInt _))=true then _ else _) Q E s
           rw[if_neg (by intro h;rw[hn,Bool.false_and]at h;cases h)]
           exact wpAny_pure hQ))
def Itl(K:W.Frag)(a:Addr):It:=
 ⟨λi H=>∃xs x,SqL K H a xs/\xs[i]?=some x,λi H x H'=>H'=H/\∀xs,SqL K H a xs->xs[i]?=some x,λi H=>∃xs,SqL K H a xs/\xs.length<=i⟩
def Itt(K:W.Frag)(a:Addr):It:=
 ⟨λi H=>∃xs x,SqT K H a xs/\xs[i]?=some x,λi H x H'=>H'=H/\∀xs,SqT K H a xs->xs[i]?=some x,λi H=>∃xs,SqT K H a xs/\xs.length<=i⟩
def Itr(lo:Int)(n:Nat):It:=⟨λi _=>i<n,λi H x H'=>H'=H/\x=.int (lo+i),λi _=>n<=i⟩
theorem zC2{P:Program}{w:World}{K:W.Frag}{tg:Expr}(a it:Addr):fX P w K tg (Itl K a) [it] it (λi h=>h.IsListIter it a i) where
 mem:=by simp
 obj:=λi h st b hb=>by
  have e:b=it:=by simpa using hb
  subst e
  obtain⟨o,e,c,d⟩:=st
  exact⟨o,e,λv z=>by rw[d]at z;cases z⟩
 keep:=λi h h' st k=>st.at λo e=>k it (by simp) o e
 item:=by
  intro X hP hw hK hc i pins s σ H E I hf st hg
  subst hP hw hK
  obtain⟨xs,x,hq,hx⟩:=hg
  obtain⟨its,rv,p,hz⟩:=I.list hq
  obtain⟨u,hu,ru⟩:=rv.get hx
  obtain⟨f0,f1,f2,f3,f4,f5⟩:=hf it (by simp)
  refine wpAny_pyNext_list_item st p.isList (x:=u) (by simpa using hu) λh' st' sb=>?_
  have I1:Inv X pins σ H {s with heap:=h'}:=I.turned (t':=s.toks) (λb o hb e=>(sb.2 b hb).trans e) f0 f1 f3 f4 f5
  obtain⟨o,e,c,d⟩:=id st'
  exact⟨u,rfl,kJ (s:={s with heap:=h'}) e c d (by decide) ⟨x,H,I1,ru,⟨rfl,λys hy=>by rw[I.list_inj hy hq];exact hx⟩,st',λb hb=>(hf b hb).1⟩⟩
 done:=by
  intro X hP hw hK hc i pins s σ H E I hf st hg
  subst hP hw hK
  obtain⟨xs,hq,hx⟩:=hg
  obtain⟨its,rv,p,hz⟩:=I.list hq
  obtain⟨f0,f1,f2,f3,f4,f5⟩:=hf it (by simp)
  have hl:=rv.length
  exact wpAny_pyNext_list_end (I.ok.hd hc) st p.isList (by simp;omega) λh' eb=>⟨rfl,I.turned (t':=s.toks) (λb o hb e=>eb b o hb e) f0 f1 f3 f4 f5⟩
 self:=λ_ _ _ _ _ st h=>wpAny_pyIter_listiter st h
theorem zCj{P:Program}{w:World}{K:W.Frag}{tg:Expr}(a it:Addr):fX P w K tg (Itt K a) [it] it (λi h=>h.IsTupleIter it a i) where
 mem:=by simp
 obj:=λi h st b hb=>by
  have e:b=it:=by simpa using hb
  subst e
  obtain⟨o,e,c,d⟩:=st
  exact⟨o,e,λv z=>by rw[d]at z;cases z⟩
 keep:=λi h h' st k=>st.at λo e=>k it (by simp) o e
 item:=by
  intro X hP hw hK hc i pins s σ H E I hf st hg
  subst hP hw hK
  obtain⟨xs,x,hq,hx⟩:=hg
  obtain⟨its,rv,p,hz⟩:=I.tuple hq
  obtain⟨u,hu,ru⟩:=rv.get hx
  obtain⟨f0,f1,f2,f3,f4,f5⟩:=hf it (by simp)
  refine wpAny_pyNext_tuple_item st (show s.heap.IsTuple a its.toArray from p) (x:=u) (by simpa using hu) λh' st' sb=>?_
  have I1:Inv X pins σ H {s with heap:=h'}:=I.turned (t':=s.toks) (λb o hb e=>(sb.2 b hb).trans e) f0 f1 f3 f4 f5
  obtain⟨o,e,c,d⟩:=id st'
  exact⟨u,rfl,kJ (s:={s with heap:=h'}) e c d (by decide) ⟨x,H,I1,ru,⟨rfl,λys hy=>by rw[I.tuple_inj hy hq];exact hx⟩,st',λb hb=>(hf b hb).1⟩⟩
 done:=by
  intro X hP hw hK hc i pins s σ H E I hf st hg
  subst hP hw hK
  obtain⟨xs,hq,hx⟩:=hg
  obtain⟨its,rv,p,hz⟩:=I.tuple hq
  obtain⟨f0,f1,f2,f3,f4,f5⟩:=hf it (by simp)
  have hl:=rv.length
  exact wpAny_pyNext_tuple_end (I.ok.hd hc) st (show s.heap.IsTuple a its.toArray from p) (by simp;omega) λh' eb=>⟨rfl,I.turned (t':=s.toks) (λb o hb e=>eb b o hb e) f0 f1 f3 f4 f5⟩
 self:=λ_ _ _ _ _ st h=>wpAny_pyIter_tupleiter st h
theorem zCk{P:Program}{w:World}{K:W.Frag}{tg:Expr}(it:Addr)(lo:Int)(n:Nat):fX P w K tg (Itr lo n) [it] it (λi h=>IsRangeIter h it (lo+(i:Nat)*1) ((n:Int)-(i:Nat)) 1) where
 mem:=by simp
 obj:=λi h st b hb=>by
  have e:b=it:=by simpa using hb
  subst e
  exact⟨_,st,λv z=>by
   have z':Data.fields _=Data.cell v:=z
   cases z'⟩
 keep:=λi h h' st k=>k it (by simp) _ st
 item:=by
  intro X hP hw hK hc i pins s σ H E I hf st hg
  subst hP hw hK
  obtain⟨f0,f1,f2,f3,f4,f5⟩:=hf it (by simp)
  have W:=Walks.range (prog:=X.prog) (w:=X.w) (I.ok.hd hc) it lo 1 n
  refine W.item i s _ _ hg st λv h' tk hv st' kk=>?_
  obtain⟨t,rfl⟩:=hv
  have I1:Inv X pins σ H {s with heap:=h',toks:=tk}:=I.turned (λb o hb e=>kk b o (by simpa using hb) e) f0 f1 f3 f4 f5
  refine⟨_,rfl,kJ (s:={s with heap:=h',toks:=tk}) (n:="range_iterator") st' rfl rfl (by decide) ⟨.int (lo+i),H,I1,⟨t,?_⟩,⟨rfl,rfl⟩,st',λb hb=>(hf b hb).1⟩⟩
  rw[Int.mul_one]
 done:=by
  intro X hP hw hK hc i pins s σ H E I hf st hg
  subst hP hw hK
  obtain⟨f0,f1,f2,f3,f4,f5⟩:=hf it (by simp)
  exact wpAny_pyNext_range_end (I.ok.hd hc) st (by have:n<=i:=hg;omega) λh' eb=>⟨rfl,I.turned (t':=s.toks) (λb o hb e=>eb b o hb e) f0 f1 f3 f4 f5⟩
 self:=λ_ _ _ _ _ st h=>wpAny_pyIter_rangeiter st h
end L2
namespace L2
open PySem PySem.Spec PyProof.Rows
section
variable{X:Cx}{tg:Expr}
theorem zEe{pins:List (Addr×Obj)}{σ:St}{H:Hp}{s:Shared}{R:It->Hp->Prop}{E:Value->Shared->Prop}{lo hi:Int}{t u v:Tok}{tk:Nat}(I:Inv X pins σ H s)(h1:-(2 ^ 62)<=lo)(h2:lo<2 ^ 62)(h3:-(2 ^ 62)<=hi)(h4:hi<2 ^ 62)
  (q:R (Itr lo (hi-lo).toNat) H):wpAny (model X.prog X.w) X.A (pyIter (.ref s.heap.objs.size)) (PIE X pins σ tg R) E {s with heap:=s.heap.push {cls:=.type "range",data:=.fields #[.int lo t,.int hi u,.int 1 v]},toks:=tk}:=by
 refine wpAny_pyIter_range (IsRange.new ..) (small_one h1 h2 h3 h4) ?_
 have I1:Inv X pins σ H {s with heap:=s.heap.push {cls:=.type "range",data:=.fields #[.int lo t,.int hi u,.int 1 v]},toks:=tk}:=I.kept λb o e=>Heap.get?_push_of_some _ e
 refine⟨(s.heap.push {cls:=.type "range",data:=.fields #[.int lo t,.int hi u,.int 1 v]}).objs.size,[(s.heap.push {cls:=.type "range",data:=.fields #[.int lo t,.int hi u,.int 1 v]}).objs.size],_,_,H,rfl,
  I1.kept (t':=tk) λb o e=>Heap.get?_push_of_some _ e,zCk _ lo (hi-lo).toNat,?_,λb hb=>?_,q⟩
 ·have e1:lo+((0:Nat):Int)*1=lo:=by simp
  have e2:(((hi-lo).toNat:Nat):Int)-((0:Nat):Int)=Builtin.Range.rangeSize lo hi 1:=by rw[rangeSize_one];split<;>omega
  show IsRangeIter _ _ (lo+((0:Nat):Int)*1) ((((hi-lo).toNat:Nat):Int)-((0:Nat):Int)) 1
  rw[e1,e2]
  exact Heap.get?_push_size _ rfl
 ·have e:b=(s.heap.push {cls:=.type "range",data:=.fields #[.int lo t,.int hi u,.int 1 v]}).objs.size:=by simpa using hb
  subst e
  exact I1.fpOk (Nat.le_refl _) (I1.hok.fresh (Nat.le_refl _))
def zIM(ta:TA):TI:=λσ H R=>ta σ H λvs H1=>∃j:Int,vs=[.int j] /\ -(2 ^ 62)<=j/\j<2 ^ 62/\R (Itr 0 j.toNat) H1
theorem zDl{a:Expr}{ta:TA}{p pos:Pos}(hg:Gl X "range")(hm:X.mg "range"=none)(ha:PA X [a] ta)(hs:starEach [a] X.env=[(false,eval a X.env)]:=by rfl):PI X tg (.Call (.Name "range" p) [a] [] pos) (zIM ta):=by
 intro pins s σ H R I h
 refine Call_ (iS I hg hm boot_range (PyProof.Rows.callWith_type1 (thn (ha pos pins s σ H _ I h) λus s1 ⟨vs,H1,I1,r1,q1⟩=>?_) hs rfl))
 obtain⟨j,e,q1,q2,q⟩:=q1
 subst e
 cases r1 with
 |cons r rr=>
  cases rr
  obtain⟨t,rfl⟩:=r
  exact call_range_1 (zEe I1 (by omega) (by omega) q1 q2 (by simpa using q))
def zJc(wi:TI)(g:TG)(tb:TS):TS:=λD σ H=>wi σ H λJ H1=>∃W:Nat->Nat->St->Hp->Prop,(∃m,W 0 m σ H1)/\∀i m σ H,W i m σ H ->
 (J.stop i H/\D.nx σ H)\/(J.go i H/\∃N:St->Hp->Prop,(∀σ' H',N σ' H'->∃m',m'<m/\W (i+1) m' σ' H')/\∀x H',J.yld i H x H'->g x σ H' λσ2 H2=>tb {D with nx:=N,ct:=N,bk:=D.nx} σ2 H2)
def lN(fp:List Addr)(h:Heap):List (Addr×Obj):=fp.filterMap λb=>(h.get? b).map λo=>(b,o)
theorem mO{fp:List Addr}{h:Heap}{b:Addr}{o:Obj}(hb:b∈fp)(e:h.get? b=some o):(b,o)∈lN fp h:=List.mem_filterMap.mpr ⟨b,hb,by rw[e];rfl⟩
theorem zDo{fp:List Addr}{h:Heap}{p:Addr×Obj}(hp:p∈lN fp h):p.1∈fp/\h.get? p.1=some p.2:=by
 obtain⟨b,hb,e⟩:=List.mem_filterMap.mp hp
 cases q:h.get? b with
 |none=>rw[q]at e;cases e
 |some o=>
  rw[q]at e
  have e':(b,o)=p:=Option.some.inj e
  subst e'
  exact⟨hb,q⟩
theorem Inv.pinned{pins:List (Addr×Obj)}{σ:St}{H:Hp}{s:Shared}{fp:List Addr}(I:Inv X pins σ H s)(hf:∀b∈fp,dQ X pins H b)(ho:∀b∈fp,∃o,s.heap.get? b=some o/\∀v,o.data≠.cell v):Inv X (pins++lN fp s.heap) σ H s:=
 I.pins_of λp hp=>(List.mem_append.mp hp).elim (λz=>I.pin p (List.mem_append_right _ z)) λz=>by
  obtain⟨hb,e⟩:=zDo z
  obtain⟨f0,f1,f2,_⟩:=hf p.1 hb
  obtain⟨o,e',d⟩:=ho p.1 hb
  rw[e]at e';cases e'
  exact⟨e,f0,f1,f2,d⟩
theorem Inv.unpinned{pins pl:List (Addr×Obj)}{σ:St}{H:Hp}{s:Shared}(I:Inv X (pins++pl) σ H s):Inv X pins σ H s:=I.pins_of λp hp=>I.pin p (List.mem_append_right _ (List.mem_append_left _ hp))
theorem zAv{iter:Expr}{body:List Stmt}{wi:TI}{g:TG}{tb:TS}{pos:Pos}(hp:PassesOwn (model X.prog X.w) X.A X.env X.xe)(hc:X.calm=true)(hi:PI X tg iter wi)(hg:PG X tg g)(hb:PSs X body tb)
  (hs:∀x,foldedSetIterable iter X.env x=pure x:=by intro _;rfl):PS X (.For tg iter body [] pos) (zJc wi g tb):=by
 intro pins s σ H D I h
 refine wpAny_For (thn (hi pins s σ H _ I h) λv s1 h1=>thn h1 λitv s2 h2=>?_) hs
 obtain⟨it,fp,tn,J,H2,e,I2,T,st2,f2,W,⟨m0,w0⟩,turn⟩:=h2
 subst e
 -- what stays true of the iterator's objects through the loop
 have stat:∀{H':Hp},(∀b∈fp,H' b=none)->∀b∈fp,dQ X pins H' b:=λhn b hb=>⟨hn b hb,(f2 b hb).2⟩
 refine codeAny_forLoop_any (λn s'=>∃i σ' H',Inv X pins σ' H' s'/\tn i s'.heap/\(∀b∈fp,H' b=none)/\W i n σ' H') ?_ m0 ⟨0,σ,H2,I2,st2,λb hb=>(f2 b hb).1,w0⟩
 rintro n s3 ⟨i,σ3,H3,I3,st3,fr3,w3⟩
 rcases turn i n σ3 H3 w3 with⟨stop,qn⟩|⟨go,N,hN,step⟩
 ·refine wpAny_passesOwn hp (thn (T.done X rfl rfl rfl hc i pins s3 σ3 H3 X.xe I3 (stat fr3) st3 stop) λr s4 ⟨hr,I4⟩=>?_)
  subst hr
  exact wpAny_execs_nil ⟨σ3,H3,I4,qn⟩
 ·refine wpAny_passesOwn hp (thn (T.item X rfl rfl rfl hc i pins s3 σ3 H3 X.xe I3 (stat fr3) st3 go) λr s4 ⟨u,hr,h4⟩=>?_)
  subst hr
  refine wpAny_passesOwn hp (thn h4 λ_ s5 ⟨x,H5,I5,r5,y5,st5,fr5⟩=>?_)
  have I5':=I5.pinned (stat fr5) (T.obj _ _ st5)
  refine wpAny_passesOwn hp (thn (hg _ s5 σ3 H5 x u _ I5' r5 (step x H5 y5)) λ_ s6 ⟨σ6,H6,I6,q6⟩=>?_)
  refine wpAny_passesOwn hp (thn (hb _ s6 σ6 H6 _ I6 q6) λf s7 q7=>?_)
  have again:∀{σ7:St} {H7:Hp},Inv X (pins++lN fp s5.heap) σ7 H7 s7->N σ7 H7->∃m,m<n/\∃i σ' H',Inv X pins σ' H' s7/\tn i s7.heap/\(∀b∈fp,H' b=none)/\W i m σ' H':=λ{σ7 H7} I7 n7=>by
   obtain⟨m',hm,w7⟩:=hN σ7 H7 n7
   refine⟨m',hm,i+1,σ7,H7,I7.unpinned,T.keep _ _ _ st5 λb hb o e=>(I7.pin (b,o) (List.mem_append_right _ (List.mem_append_right _ (mO hb e)))).1,λb hb=>?_,w7⟩
   obtain⟨o,e,d⟩:=T.obj _ _ st5 b hb
   exact(I7.pin (b,o) (List.mem_append_right _ (List.mem_append_right _ (mO hb e)))).2.1
  cases f with
  |next=>obtain⟨σ7,H7,I7,n7⟩:=q7;exact again I7 n7
  |cont=>obtain⟨σ7,H7,I7,n7⟩:=q7;exact again I7 n7
  |brk=>obtain⟨σ7,H7,I7,q7⟩:=q7;exact⟨σ7,H7,I7.unpinned,q7⟩
  |ret v=>obtain⟨x7,σ7,H7,I7,r7,q7⟩:=q7;exact⟨x7,σ7,H7,I7.unpinned,r7,q7⟩
end
end L2
namespace L2
open PySem PySem.Spec PyProof.Rows
abbrev R2:=V->V->Hp->VK->Prop
def OpR(X:Cx)(f:Value->Value->Sem Value)(r:R2):Prop:=
 ∀(pins:List (Addr×Obj)) (s:Shared) (σ:St) (H:Hp) (x y:V) (v u:Value) (Q:VK),Inv X pins σ H s->RelV x v->RelV y u->r x y H Q ->
  wpAny (model X.prog X.w) X.A (f v u) (EP X pins σ Q) X.xe s
def UnR(X:Cx)(f:Value->Sem Value)(r:V->Hp->VK->Prop):Prop:=
 ∀(pins:List (Addr×Obj)) (s:Shared) (σ:St) (H:Hp) (x:V) (v:Value) (Q:VK),Inv X pins σ H s->RelV x v->r x H Q ->
  wpAny (model X.prog X.w) X.A (f v) (EP X pins σ Q) X.xe s
def CallR(X:Cx)(f:Value)(r:List V->Hp->VK->Prop):Prop:=
 ∀(pins:List (Addr×Obj)) (s:Shared) (σ:St) (H:Hp) (xs:List V) (us:List Value) (Q:VK),Inv X pins σ H s->Vals xs us->r xs H Q ->
  wpAny (model X.prog X.w) X.A (call f us) (EP X pins σ Q) X.xe s
def tOp(r:R2)(ta tb:TE):TE:=λσ H Q=>ta σ H λx H1=>tb σ H1 λy H2=>r x y H2 Q
def tUn(r:V->Hp->VK->Prop)(ta:TE):TE:=λσ H Q=>ta σ H λx H1=>r x H1 Q
def rI(C:Int->Int->Prop)(g:Int->Int->V):R2:=λx y H Q=>∃i j,x=.int i/\y=.int j/\C i j/\Q (g i j) H
def rI0(g:Int->Int->V):R2:=λx y H Q=>∃i j,x=.int i/\y=.int j/\Q (g i j) H
def rU(g:Int->V):V->Hp->VK->Prop:=λx H Q=>∃i,x=.int i/\Q (g i) H
section
variable{X:Cx}{a b c:Expr}{ta tb tc:TE}{pos:Pos}
theorem uK(ha:PE X a ta)(hb:PE X b tb){pins:List (Addr×Obj)}{s:Shared}{σ:St}{H:Hp}{R:V->V->Hp->Prop}(I:Inv X pins σ H s)
  (h:ta σ H λx H1=>tb σ H1 λy H2=>R x y H2) {Q:Value->Shared->Prop} {f:Value->Value->Sem Value}
  (hf:∀v u s2 x y H2,Inv X pins σ H2 s2->RelV x v->RelV y u->R x y H2->wpAny (model X.prog X.w) X.A (f v u) Q X.xe s2):
  wpAny (model X.prog X.w) X.A (eval a X.env) (λv s₁=>wpAny (model X.prog X.w) X.A (eval b X.env) (λu s₂=>wpAny (model X.prog X.w) X.A (f v u) Q X.xe s₂) X.xe s₁) X.xe s:=by
 refine thn (ha pins s σ H _ I h) λv s1 ⟨x,H1,I1,r1,q1⟩=>?_
 refine thn (hb pins s1 σ H1 _ I1 q1) λu s2 ⟨y,H2,I2,r2,q2⟩=>?_
 exact hf v u s2 x y H2 I2 r1 r2 q2
theorem bX{op:Operator}{r:R2}(ho:OpR X (binaryOp op) r)(ha:PE X a ta)(hb:PE X b tb):PE X (.BinOp a op b pos) (tOp r ta tb):=by
 intro pins s σ H Q I h
 exact wpAny_BinOp (uK ha hb I h λv u s2 x y H2 I2 rx ry q=>ho pins s2 σ H2 x y v u Q I2 rx ry q)
theorem zAQ{op:UnaryOp}{r:V->Hp->VK->Prop}(ho:UnR X (unaryOp op) r)(ha:PE X a ta):PE X (.UnaryOp op a pos) (tUn r ta):=by
 intro pins s σ H Q I h
 exact UnaryOp_ (thn (ha pins s σ H _ I h) λv s1 ⟨x,H1,I1,r1,q1⟩=>ho pins s1 σ H1 x v Q I1 r1 q1)
theorem opI{f:Value->Value->Sem Value}{C:Int->Int->Prop}{g:Int->Int->Int}
  (rule:∀(i j:Int) (t u:Tok) (s:Shared) (Q:Value->Shared->Prop) (E:Value->Shared->Prop),C i j->Q (.int (g i j) s.toks) {s with toks:=s.toks+1}->wpAny (model X.prog X.w) X.A (f (.int i t) (.int j u)) Q E s):
  OpR X f (rI C λi j=>.int (g i j)):=by
 intro pins s σ H x y v u Q I rx ry h
 obtain⟨i,j,rfl,rfl,hc,q⟩:=h
 obtain⟨t,rfl⟩:=rx
 obtain⟨t',rfl⟩:=ry
 exact rule i j t t' s _ _ hc ⟨.int (g i j),H,I.tok _,⟨_,rfl⟩,q⟩
theorem zBr{f:Value->Value->Sem Value}{g:Int->Int->Int}
  (rule:∀(i j:Int) (t u:Tok) (s:Shared) (Q:Value->Shared->Prop) (E:Value->Shared->Prop),Q (.int (g i j) s.toks) {s with toks:=s.toks+1}->wpAny (model X.prog X.w) X.A (f (.int i t) (.int j u)) Q E s):
  OpR X f (rI0 λi j=>.int (g i j)):=by
 intro pins s σ H x y v u Q I rx ry h
 obtain⟨i,j,rfl,rfl,q⟩:=h
 obtain⟨t,rfl⟩:=rx
 obtain⟨t',rfl⟩:=ry
 exact rule i j t t' s _ _ ⟨.int (g i j),H,I.tok _,⟨_,rfl⟩,q⟩
theorem uG{f:Value->Value->Sem Value}{g:Int->Int->Bool}
  (rule:∀(i j:Int) (t u:Tok) (s:Shared) (Q:Value->Shared->Prop) (E:Value->Shared->Prop),Q (.bool (g i j)) s->wpAny (model X.prog X.w) X.A (f (.int i t) (.int j u)) Q E s):
  OpR X f (rI0 λi j=>.bl (g i j)):=by
 intro pins s σ H x y v u Q I rx ry h
 obtain⟨i,j,rfl,rfl,q⟩:=h
 obtain⟨t,rfl⟩:=rx
 obtain⟨t',rfl⟩:=ry
 exact rule i j t t' s _ _ ⟨.bl (g i j),H,I,rfl,q⟩
def zKd(i j:Int):Prop:=0<j/\j<1073741824
def zBA(i j:Int):Prop:=0<=j/\j<=1000000/\i.natAbs<2 ^ 64
def CMul(i j:Int):Prop:=(-(2 ^ 64)<i/\i<2 ^ 64)\/(-(2 ^ 64)<j/\j<2 ^ 64)
theorem CMul.ok{i j:Int}(h:CMul i j):IntMulOk i j:=by
 rcases h with⟨h1,h2⟩|⟨h1,h2⟩
 ·exact .of_left (intBits_le_64 h1 h2)
 ·exact .of_right (intBits_le_64 h1 h2)
theorem op_add:OpR X (binaryOp .Add) (rI0 λi j=>.int (i+j)):=zBr λ_ _ _ _ _ _ _ q=>add_int q
theorem zHp:OpR X (binaryOp .Sub) (rI0 λi j=>.int (i-j)):=zBr λ_ _ _ _ _ _ _ q=>sub_int q
theorem op_mul:OpR X (binaryOp .Mult) (rI CMul λi j=>.int (i*j)):=opI λ_ _ _ _ _ _ _ hc q=>mul_int q hc.ok
theorem zN:OpR X (binaryOp .FloorDiv) (rI zKd λi j=>.int (i / j)):=opI λi j _ _ _ _ _ hc q=>by
 have h1:(0:Int)<j:=hc.1
 have h2:j<1073741824:=hc.2
 exact floordiv_int (by omega) (by rw[Int.fdiv_eq_ediv_of_nonneg i (by omega)];exact q) (.inl (PyProof.noPylong_small (by omega)))
theorem gE:OpR X (binaryOp .Mod) (rI (λ_ j=>0<j) λi j=>.int (i % j)):=opI λi j _ _ _ _ _ hc q=>by
 have h1:(0:Int)<j:=hc
 exact mod_int' (by omega) (by rw[Int.fmod_eq_emod_of_nonneg i (by omega)];exact q)
theorem zFN:OpR X (binaryOp .Mod) (rI (λ_ j=>j≠0) λi j=>.int (i.fmod j)):=opI λ_ _ _ _ _ _ _ hc q=>mod_int' hc q
theorem zAy:OpR X (binaryOp .Pow) (rI zBA λi j=>.int (i ^ j.toNat)):=opI λ_ _ _ _ _ _ _ hc q=>pow_int_small hc.1 hc.2.1 hc.2.2 q
theorem unI{f:Value->Sem Value}{g:Int->Int}
  (rule:∀(i:Int) (t:Tok) (s:Shared) (Q:Value->Shared->Prop) (E:Value->Shared->Prop),Q (.int (g i) s.toks) {s with toks:=s.toks+1}->wpAny (model X.prog X.w) X.A (f (.int i t)) Q E s):
  UnR X f (rU λi=>.int (g i)):=by
 intro pins s σ H x v Q I rx h
 obtain⟨i,rfl,q⟩:=h
 obtain⟨t,rfl⟩:=rx
 exact rule i t s _ _ ⟨.int (g i),H,I.tok _,⟨_,rfl⟩,q⟩
theorem zAj:UnR X (unaryOp .USub) (rU λi=>.int (-i)):=unI λ_ _ _ _ _ q=>neg_int q
end
section
variable{X:Cx}{a b c:Expr}{ta tb tc:TE}{pos:Pos}
theorem sR{pins:List (Addr×Obj)}{σ:St}{H:Hp}{s:Shared}{Q:VK}{k k':Bool}(I:Inv X pins σ H s)(q:Q (.bl k) H)(e:k=k'):EP X pins σ Q (.bool k') s:=by
 subst e
 exact⟨.bl k,H,I,rfl,q⟩
theorem op_lt:OpR X (compareOp .Lt) (rI0 λi j=>.bl (decide (i<j))):=uG λ_ _ _ _ _ _ _ q=>lt_int q
theorem zID:OpR X (compareOp .LtE) (rI0 λi j=>.bl (decide (i<=j))):=uG λ_ _ _ _ _ _ _ q=>le_int q
theorem zIE:OpR X (compareOp .Gt) (rI0 λi j=>.bl (decide (j<i))):=uG λ_ _ _ _ _ _ _ q=>gt_int q
theorem zDn:OpR X (compareOp .Lt) (λx y H Q=>∃i j,x=.str i/\y=.str j/\Q (.bl (decide (i.cps.toList<j.cps.toList))) H):=by
 intro pins s σ H x y v u Q I rx ry h
 obtain⟨i,j,rfl,rfl,q⟩:=h
 obtain⟨t,rfl⟩:=rx
 obtain⟨t',rfl⟩:=ry
 exact lt_str (sR I q rfl)
theorem op_in_str:OpR X (compareOp .In) (λx y H Q=>∃i j,x=.str i/\y=.str j/\Q (.bl (!(Builtin.Str.occurrences j i 0 j.length 1).isEmpty)) H):=by
 intro pins s σ H x y v u Q I rx ry h
 obtain⟨i,j,rfl,rfl,q⟩:=h
 obtain⟨t,rfl⟩:=rx
 obtain⟨t',rfl⟩:=ry
 exact in_str (sR I q rfl)
theorem op_isN:OpR X (compareOp .Is) (λx y H Q=>y=.non/\Q (.bl (decide (x=.non))) H):=by
 intro pins s σ H x y v u Q I rx ry h
 obtain⟨rfl,q⟩:=h
 cases ry
 refine is_none_gen (sR I q ?_)
 cases x<;>first
  |(cases rx;rfl)
  |(obtain⟨t,rfl⟩:=rx;rfl)
theorem OpR.or{f:Value->Value->Sem Value}{r r':R2}(h:OpR X f r)(h':OpR X f r'):OpR X f (λx y H Q=>r x y H Q\/r' x y H Q):=by
 intro pins s σ H x y v u Q I rx ry q
 rcases q with q|q
 ·exact h pins s σ H x y v u Q I rx ry q
 ·exact h' pins s σ H x y v u Q I rx ry q
theorem kB(b:Expr){op:CmpOp}(h:op≠.In:=by decide)(h2:op≠.NotIn:=by decide):behindInMarks op b=false:=by
 have e1:(op==CmpOp.In)=false:=by cases op<;>first|rfl|exact absurd rfl h
 have e2:(op==CmpOp.NotIn)=false:=by cases op<;>first|rfl|exact absurd rfl h2
 cases b<;>simp[behindInMarks,e1,e2]
theorem zFF{op:CmpOp}{r:R2}(ho:OpR X (compareOp op) r)(ha:PE X a ta)(hb:PE X b tb)(hm:behindInMarks op b=false):PE X (.Compare a [op] [b] pos) (tOp r ta tb):=by
 intro pins s σ H Q I h
 exact wpAny_Compare1 (uK ha hb I h λv u s2 x y H2 I2 rx ry q=>ho pins s2 σ H2 x y v u Q I2 rx ry q) hm
def sU(t:TE):TT:=λσ H Q=>t σ H λx H'=>∃k,x=.bl k/\Q k H'
theorem rJ{op:CmpOp}{r:R2}(ho:OpR X (compareOp op) r)(ha:PE X a ta)(hb:PE X b tb)(hm:behindInMarks op b=false):PT X (.Compare a [op] [b] pos) (sU (tOp r ta tb)):=by
 intro pins s σ H Q I h
 refine wpAny_isTrue_Compare1 (thn (ha pins s σ H _ I h) λv s1 ⟨x,H1,I1,r1,q1⟩=>thn (hb pins s1 σ H1 _ I1 q1) λu s2 ⟨y,H2,I2,r2,q2⟩=>
  thn (ho pins s2 σ H2 x y v u _ I2 r1 r2 q2) λc s3 ⟨z,H3,I3,r3,k,e,q3⟩=>?_) hm
 subst e
 cases r3
 exact wpAny_truthy_bool ⟨H3,I3,q3⟩
def sJ(r r':R2)(ta tb tc:TE):TE:=λσ H Q=>ta σ H λx H1=>tb σ H1 λy H2=>r x y H2 λz H3=>∃k,z=.bl k /\
 (if k=true then tc σ H3 λw' H4=>r' y w' H4 Q else Q (.bl false) H3)
theorem zEo{op op':CmpOp}{r r':R2}(ho:OpR X (compareOp op) r)(ho':OpR X (compareOp op') r')(ha:PE X a ta)(hb:PE X b tb)(hc:PE X c tc)
  (hm:lastMarks [op,op'] [b,c]=false:=by with_unfolding_all rfl):PE X (.Compare a [op,op'] [b,c] pos) (sJ r r' ta tb tc):=by
 intro pins s σ H Q I h
 refine Compare_chain (thn (ha pins s σ H _ I h) λv s1 ⟨x,H1,I1,r1,q1⟩=>chain_link (thn (hb pins s1 σ H1 _ I1 q1) λu s2 ⟨y,H2,I2,r2,q2⟩=>
  thn (ho pins s2 σ H2 x y v u _ I2 r1 r2 q2) λd s3 ⟨z,H3,I3,r3,k,e,q3⟩=>?_)) hm
 subst e
 cases r3
 refine wpAny_truthy_bool ?_
 cases k with
 |false=>exact ite_ff ⟨.bl false,H3,I3,rfl,q3⟩
 |true=>exact ite_tt (chain_last (thn (hc pins s3 σ H3 _ I3 q3) λw' s4 ⟨z',H4,I4,r4,q4⟩=>ho' pins s4 σ H4 y z' u w' Q I4 r2 r4 q4))
theorem zEh{op op':CmpOp}{r r':R2}(ho:OpR X (compareOp op) r)(ho':OpR X (compareOp op') r')(ha:PE X a ta)(hb:PE X b tb)(hc:PE X c tc)
  (hm:lastMarks [op,op'] [b,c]=false:=by with_unfolding_all rfl):PT X (.Compare a [op,op'] [b,c] pos) (sU (sJ r r' ta tb tc)):=by
 intro pins s σ H Q I h
 refine isTrue_chain (thn (ha pins s σ H _ I h) λv s1 ⟨x,H1,I1,r1,q1⟩=>test_link (thn (hb pins s1 σ H1 _ I1 q1) λu s2 ⟨y,H2,I2,r2,q2⟩=>
  thn (ho pins s2 σ H2 x y v u _ I2 r1 r2 q2) λd s3 ⟨z,H3,I3,r3,k,e,q3⟩=>?_)) hm
 subst e
 cases r3
 refine wpAny_truthy_bool ?_
 cases k with
 |false=>
  obtain⟨k',e',q'⟩:=q3
  cases e'
  exact ite_ff ⟨H3,I3,q'⟩
 |true=>
  refine ite_tt (test_last (thn (hc pins s3 σ H3 _ I3 q3) λw' s4 ⟨z',H4,I4,r4,q4⟩=>thn (ho' pins s4 σ H4 y z' u w' _ I4 r2 r4 q4) λd' s5 ⟨z2,H5,I5,r5,k2,e2,q5⟩=>?_))
  subst e2
  cases r5
  exact wpAny_truthy_bool ⟨H5,I5,q5⟩
theorem kC:(sizeLine:Nat)<2 ^ 63:=by rw[sizeLine_eq];decide
theorem op_add_str:OpR X (binaryOp .Add) (λx y H Q=>∃i j,x=.str i/\y=.str j/\i.length+j.length<=sizeLine/\Q (.str (i++j)) H):=by
 intro pins s σ H x y v u Q I rx ry h
 obtain⟨i,j,rfl,rfl,hz,q⟩:=h
 obtain⟨t,rfl⟩:=rx
 obtain⟨t',rfl⟩:=ry
 exact add_str (λt' tk=>⟨.str (i++j),H,I.tok _,⟨_,rfl⟩,q⟩) hz
theorem bZ{x:V}{us:List Value}(r:Vals [x] us):∃u,us=[u]/\RelV x u:=by
 cases r with
 |cons r1 r2=>cases r2;exact⟨_,rfl,r1⟩
theorem gI{x y:V}{us:List Value}(r:Vals [x,y] us):∃u w',us=[u,w']/\RelV x u/\RelV y w':=by
 cases r with
 |cons r1 r2=>
  cases r2 with
  |cons r3 r4=>cases r4;exact⟨_,_,rfl,r1,r3⟩
theorem zEO:CallR X (.builtin "abs") (λxs H Q=>∃i,xs=[.int i]/\Q (.int (if i<0 then -i else i)) H):=by
 intro pins s σ H xs us Q I r h
 obtain⟨i,rfl,q⟩:=h
 obtain⟨u,rfl,t,rfl⟩:=bZ r
 exact call_abs_int λu tk=>⟨.int (if i<0 then -i else i),H,I.tok _,⟨_,rfl⟩,q⟩
theorem zDO(hc:X.calm=true):CallR X (.builtin "max") (λxs H Q=>∃i j,xs=[.int i,.int j]/\Q (.int (if j > i then j else i)) H):=by
 intro pins s σ H xs us Q I r h
 obtain⟨i,j,rfl,q⟩:=h
 obtain⟨u,w',rfl,⟨t,rfl⟩,⟨t',rfl⟩⟩:=gI r
 refine max_two_ints (I.ok.hd hc) λh' tk k=>⟨_,H,I.kept k,?_,q⟩
 by_cases hj:j > i
 ·rw[if_pos hj,if_pos hj];exact⟨_,rfl⟩
 ·rw[if_neg hj,if_neg hj];exact⟨_,rfl⟩
theorem zDM(hc:X.calm=true):CallR X (.builtin "min") (λxs H Q=>∃i j,xs=[.int i,.int j]/\Q (.int (if j<i then j else i)) H):=by
 intro pins s σ H xs us Q I r h
 obtain⟨i,j,rfl,q⟩:=h
 obtain⟨u,w',rfl,⟨t,rfl⟩,⟨t',rfl⟩⟩:=gI r
 refine min_two_ints (I.ok.hd hc) λh' tk k=>⟨_,H,I.kept k,?_,q⟩
 by_cases hj:j<i
 ·rw[if_pos hj,if_pos hj];exact⟨_,rfl⟩
 ·rw[if_neg hj,if_neg hj];exact⟨_,rfl⟩
theorem zDQ:CallR X (.type "int") (λxs H Q=>(∃i,xs=[.int i]/\Q (.int i) H)\/∃k,xs=[.bl k]/\Q (.int (if k then 1 else 0)) H):=by
 intro pins s σ H xs us Q I r h
 rcases h with⟨i,rfl,q⟩|⟨k,rfl,q⟩
 ·obtain⟨u,rfl,t,rfl⟩:=bZ r
  exact call_int_int ⟨.int i,H,I,⟨_,rfl⟩,q⟩
 ·obtain⟨u,rfl,r1⟩:=bZ r
  cases r1
  exact call_int_bool ⟨.int (if k then 1 else 0),H,I.tok _,⟨_,rfl⟩,q⟩
end
end L2
namespace L2
open PySem PySem.Spec PyProof.Rows
theorem RelO.some_of{v:V}{o:Option Value}(r:RelO (some v) o):∃u,o=some u/\RelV v u:=by
 cases o with
 |none=>exact(show False from r).elim
 |some u=>exact⟨u,rfl,r⟩
end L2
namespace L2
open PySem PySem.Spec PyProof.Rows
structure Room (k:Nat) (A:Around):Prop where
 hd:A.handled=none
 dp:A.depth+3*k+5<recursionLimit
 un:A.units+16*k+200<cLine
 gd:A.guards=some []
theorem Room.mono{j k:Nat}{A:Around}(r:Room k A)(h:j<=k):Room j A:=⟨r.hd,by have:=r.dp;omega,by have:=r.un;omega,r.gd⟩
theorem Room.deeper{k:Nat}{A:Around}(r:Room (k+1) A)(env:Env):Room k (A.deeper env):=
 ⟨r.hd,by have:=r.dp;show A.depth+1+3*k+5<_;omega,by have:=r.un;show A.units+3+16*k+200<_;omega,r.gd⟩
theorem Room.depth{k:Nat}{A:Around}(r:Room k A):A.depth<recursionLimit:=by have:=r.dp;omega
theorem Room.units{k:Nat}{A:Around}(r:Room k A):A.units+64<cLine:=by have:=r.un;omega
def oU:TA:=λ_ H Q=>Q [] H
def sV(ta:TE)(tr:TA):TA:=λσ H Q=>ta σ H λx H1=>tr σ H1 λxs H2=>Q (x::xs) H2
section
variable{X:Cx}{e:Expr}{es:List Expr}{te:TE}{t:TA}{pos:Pos}
theorem cT:PA X [] oU:=λ_ _ _ _ H Q I h=>Calls.spliced_nil ⟨[],H,I,.nil,h⟩
theorem zFH(ha:PE X e te)(hr:PA X es t)(hs:starEach (e::es) X.env=(false,eval e X.env)::starEach es X.env:=by rfl):PA X (e::es) (sV te t):=by
 intro pos pins s σ H Q I h
 rw[hs]
 show wpAny _ _ (spliced ((false,eval e X.env)::backTo pos (starEach es X.env))) _ _ s
 refine Calls.spliced_cons (thn (ha pins s σ H _ I h) λu s1 ⟨x,H1,I1,r1,q1⟩=>?_)
 exact thn (hr pos pins s1 σ H1 _ I1 q1) λus s2 ⟨xs,H2,I2,r2,q2⟩=>⟨x::xs,H2,I2,.cons r1 r2,q2⟩
def zI5(t:TA):TE:=λσ H Q=>t σ H λxs H1=>xs.length<=sizeLine/\∀p,H1 p=none->Q (.ref p) (upd H1 p (.tup xs))
def zA2(t:TA):TE:=λσ H Q=>t σ H λxs H1=>xs.length<=sizeLine/\∀p,H1 p=none->Q (.ref p) (upd H1 p (.lst xs))
theorem zHe{x1}(h:PA X es t):PE X (.Tuple es x1 pos) (zI5 t):=by
 intro pins s σ H Q I hq
 refine wpAny_Tuple_spliced (thn (h pos pins s σ H _ I hq) λus s1 ⟨xs,H1,I1,r,z,q⟩=>⟨by rw[<-r.length];exact z,?_⟩)
 have hf:H1 s1.heap.objs.size=none:=I1.hok.fresh (Nat.le_refl _)
 refine⟨.ref s1.heap.objs.size,upd H1 s1.heap.objs.size (.tup xs),I1.laid (t':=s1.toks) (λb u e=>Heap.get?_push_of_some _ e) (Nat.le_refl _) ?_,rfl,q _ hf⟩
 exact⟨z,us,r,⟨_,Heap.get?_push_size _ rfl,rfl,_,rfl⟩⟩
theorem zAw(h:PA X es t):PE X (.List es pos) (zA2 t):=by
 intro pins s σ H Q I hq
 refine wpAny_List_spliced (thn (h pos pins s σ H _ I hq) λus s1 ⟨xs,H1,I1,r,z,q⟩=>⟨by rw[<-r.length];exact z,?_⟩)
 have hf:H1 s1.heap.objs.size=none:=I1.hok.fresh (Nat.le_refl _)
 refine⟨.ref s1.heap.objs.size,upd H1 s1.heap.objs.size (.lst xs),I1.laid (t':=s1.toks) (λb u e=>Heap.get?_push_of_some _ e) (Nat.le_refl _) ?_,rfl,q _ hf⟩
 exact⟨z,us,0,r,Heap.get?_push_size _ rfl⟩
end
abbrev Sp:=List V->Hp->VK->XK->Prop
abbrev CXT:=List Env->Hp->Shared->XK->Value->Shared->Prop
structure pI (P:Program) (w:World) (K:W.Frag) (mg:Str->Option Value) (base:Heap) (A:Around) (outer:List Env) (s:Shared) (H:Hp):Prop where
 frames:A.frames=some outer
 mod:Mod K mg base
 bs:∀b o,base.get? b=some o->s.heap.get? b=some o/\H b=none
 bsz:base.objs.size<=s.heap.objs.size
 funs:s.heap.FunFrames base outer
 frf:∀b∈frs outer,H b=none
 hok:HOk P w H s.heap
 bare:AllBare s.gens
def CE(outer:List Env)(P:Program)(w:World)(H:Hp)(s:Shared)(Q:VK)(u:Value)(s':Shared):Prop:=
 ∃v H',s'.os=s.os/\AllBare s'.gens/\Un (frs outer) [] H H' s.heap s'.heap/\HOk P w H' s'.heap/\RelV v u/\Q v H'
def CR(CX:CXT)(outer:List Env)(P:Program)(w:World)(H:Hp)(s:Shared)(Q:VK)(E:XK)(r:Result)(s':Shared):Prop:=
 match r with
 |.ok (.ret u)=>CE outer P w H s Q u s'
 |.ok _=>False
 |.error e=>CX outer H s E e s'
structure FnOk (P:Program) (w:World) (K:W.Frag) (mg:Str->Option Value) (base:Heap) (CX:CXT) (k:Nat) (f:Addr) (fd:FuncData) (ps:List Str) (sp:Sp):Prop where
 len:∀vs H Q E,sp vs H Q E->vs.length=ps.length
 run:∀(A:Around) (outer:List Env) (s:Shared) (H:Hp) (args:Args) (us:List Value) (vs:List V) (Q:VK) (E:XK),Room k A->pI P w K mg base A outer s H->BindsTo s fd args (ps.zip us)->Vals vs us->sp vs H Q E ->
  codeAny (model P w) A (.call (.ref f) args) (CR CX outer P w H s Q E) s
theorem FnOk.imp{P:Program}{w:World}{K:W.Frag}{mg:Str->Option Value}{base:Heap}{CX:CXT}{k:Nat}{f:Addr}{fd:FuncData}{ps:List Str}{sp sp':Sp}(F:FnOk P w K mg base CX k f fd ps sp)
  (h:∀vs H Q E,sp' vs H Q E->sp vs H Q E):FnOk P w K mg base CX k f fd ps sp':=
 ⟨λvs H Q E q=>F.len vs H Q E (h _ _ _ _ q),λA outer s H args us vs Q E hr he hb hv hs=>F.run A outer s H args us vs Q E hr he hb hv (h _ _ _ _ hs)⟩
section
variable{X:Cx}{pins:List (Addr×Obj)}{σ:St}{H:Hp}{s s':Shared}
theorem Inv.env0(I:Inv X pins σ H s):pI X.prog X.w X.K X.mg X.base X.A X.stack s H:=
 ⟨I.ok.frames,I.ok.mod,I.bs,Nat.le_trans I.ok.bsz I.sz,I.stack,I.stkFree,I.hok,I.bare⟩
theorem Inv.after{Q:VK}{u:Value}(I:Inv X pins σ H s)(h:CE X.stack X.prog X.w H s Q u s'):EP X pins σ Q u s':=by
 obtain⟨v,H',os,bare,un,hok,r,q⟩:=h
 obtain⟨hh,g,d,t,os'⟩:=s'
 obtain rfl:os'=s.os:=os
 exact⟨v,H',I.call (h':=hh) (g':=g) (d':=d) (t':=t) (ch:=[]) un hok bare (λb z=>absurd z (by simp)),r,q⟩
end
def kF(sp:Sp)(dvs:List V)(E:XK)(t:TA):TE:=λσ H Q=>t σ H λvs H1=>sp (vs++dvs) H1 Q E
def Binds(K:W.Frag)(fd:FuncData)(ps:List Str)(ds:List Value):Prop:=
 ∀(s:Shared) (us:List Value),K.In s.heap->(us++ds).length=ps.length->BindsTo s fd ⟨us,[]⟩ (ps.zip (us++ds))
theorem Binds.all{K:W.Frag}{fd:FuncData}{ps:List Str}(h:∀us:List Value,us.length=ps.length->bindArgs fd ⟨us,[]⟩=pure (ps.zip us)):Binds K fd ps []:=λs us _ hl=>by
 rw[List.append_nil]at hl ⊢
 exact .of_eq (h us hl)
def oE(CX:CXT)(X:Cx)(E:XK):Prop:=∀(pins:List (Addr×Obj)) (σ:St) (H:Hp) (s:Shared) (e:Value) (s':Shared),Inv X pins σ H s->CX X.stack H s E e s'->X.xe e s'
section
variable{X:Cx}{CX:CXT}{k:Nat}{f C:Addr}{fd:FuncData}{ps:List Str}{sp:Sp}{dvs:List V}{ds:List Value}{E:XK}{x m:Str}{p pos apos:Pos}{e o:Expr}{es:List Expr}{ta:TE}{t:TA}
theorem zAq{pins:List (Addr×Obj)}{σ:St}{H:Hp}{s:Shared}{Q:VK}{us:List Value}{vs:List V}(F:FnOk X.prog X.w X.K X.mg X.base CX k f fd ps sp)(hr:Room k X.A)(hb:Binds X.K fd ps ds)(hd:Vals dvs ds)(hx:oE CX X E)
  (I:Inv X pins σ H s) (r:Vals vs us) (h:sp (vs++dvs) H Q E):wpAny (model X.prog X.w) X.A (call (.ref f) us) (EP X pins σ Q) X.xe s:=by
 have r2:Vals (vs++dvs) (us++ds):=r.append hd
 have hl:(us++ds).length=ps.length:=by rw[<-r2.length];exact F.len _ _ _ _ h
 refine wpAny_call (codeAny_mono (F.run X.A X.stack s H ⟨us,[]⟩ (us++ds) (vs++dvs) Q E hr I.env0 (hb s us I.kIn hl) r2 h) λr s' hq=>?_)
 cases r with
 |error e=>exact hx pins σ H s e s' I hq
 |ok fl=>
  cases fl with
  |ret u=>exact I.after hq
  |next=>exact False.elim hq
  |brk=>exact False.elim hq
  |cont=>exact False.elim hq
theorem zFG(F:FnOk X.prog X.w X.K X.mg X.base CX k f fd ps sp)(hr:Room k X.A)(hg:Gl X x)(hm:X.mg x=some (.ref f))(hk:W.keepIn X.K (.ref f)=true)(hb:Binds X.K fd ps ds)(hd:Vals dvs ds)(hx:oE CX X E)
  (ha:PA X (e::es) t) (hdb:(x==("__debug__":Str))=false:=by decide) (he:starEach (e::es) X.env=(false,eval e X.env)::starEach es X.env:=by rfl) (hpl:(backTo pos (starEach es X.env)).any (·.1)=false:=by rfl):
  PE X (.Call (.Name x p) (e::es) [] pos) (kF sp dvs E t):=by
 intro pins s σ H Q I h
 refine wpAny_Call_Name_kw (rY I hg hm ?_ hdb)
 refine PySem.W.callWith_K (h₀:=X.base) I.ok.mod.kin hk (thn (ha pos pins s σ H _ I h) λus s1 ⟨vs,H1,I1,r,q⟩=>⟨I1.kIn,?_⟩) he hpl
 exact zAq F hr hb hd hx I1 r q
theorem zEp(F:FnOk X.prog X.w X.K X.mg X.base CX k f fd ps sp)(hr:Room k X.A)(hg:Gl X x)(hm:X.mg x=some (.ref f))(hk:W.keepIn X.K (.ref f)=true)(hb:Binds X.K fd ps ds)(hd:Vals dvs ds)(hx:oE CX X E)
  (hdb:(x==("__debug__":Str))=false:=by decide):PE X (.Call (.Name x p) [] [] pos) (kF sp dvs E oU):=by
 intro pins s σ H Q I h
 refine wpAny_Call_Name_kw (rY I hg hm ?_ hdb)
 exact PySem.W.callWith_K0 I.kIn hk (zAq (us:=[]) F hr hb hd hx I .nil h)
end
structure bN (N P:List Str) (sc:Scope):Prop where
 kind:sc.kind=.function
 co:sc.isCoroutine=false
 gen:sc.isGenerator=false
 nd:N.Nodup
 pre:N.take P.length=P
 par:∀x∈P,sc.names.lookup x=some .local\/sc.names.lookup x=some .cell
 nofree:∀y∈sc.names,y.2≠.free
theorem fsc{N P:List Str}{sc:Scope}(h:sc.kind=.function/\sc.isCoroutine=false/\sc.isGenerator=false/\N.Nodup/\N.take P.length=P/\(∀x∈P,sc.names.lookup x=some .local\/sc.names.lookup x=some .cell)/\∀y∈sc.names,y.2≠.free):bN N P sc:=⟨h.1,h.2.1,h.2.2.1,h.2.2.2.1,h.2.2.2.2.1,h.2.2.2.2.2.1,h.2.2.2.2.2.2⟩
theorem xC{kindOf:Str->Option NameKind}{x:Str}:∀{binds:List (Str×Value)}{m:Str->Option Value},(∀v,(x,v)∉binds)->bindL kindOf binds m x=m x
 |[],_,_=>rfl
 |(n,v)::r,m,h=>by
  unfold bindL
  rw[xC λw hw=>h w (List.mem_cons_of_mem _ hw)]
  split
  ·have:x≠n:=by rintro rfl;exact h v List.mem_cons_self
   simp[this]
  ·rfl
theorem xE{kindOf:Str->Option NameKind}{x:Str}:∀{binds:List (Str×Value)}{m:Str->Option Value},(∀v,(x,v)∉binds)->bindC kindOf binds m x=m x
 |[],_,_=>rfl
 |(n,v)::r,m,h=>by
  unfold bindC
  rw[xE λw hw=>h w (List.mem_cons_of_mem _ hw)]
  split
  ·rfl
  ·have:x≠n:=by rintro rfl;exact h v List.mem_cons_self
   simp[this]
theorem xD{kindOf:Str->Option NameKind}{x:Str}{v:Value}:∀{P:List Str}{vs:List Value}{i:Nat}{m:Str->Option Value},P.Nodup->P[i]?=some x->vs[i]?=some v->kindOf x=some .local ->
  bindL kindOf (P.zip vs) m x=some v
 |[],_,_,_,_,h,_,_=>by simp at h
 |_::_,[],_,_,_,_,h,_=>by simp at h
 |p::P,w::vs,0,m,nd,h1,h2,hk=>by
  simp at h1 h2;subst h1;subst h2
  show bindL kindOf ((p,w)::P.zip vs) m p=_
  unfold bindL
  rw[xC λv hv=>(List.nodup_cons.mp nd).1 (List.of_mem_zip hv).1,if_pos hk]
  simp
 |p::P,w::vs,i+1,m,nd,h1,h2,hk=>by
  show bindL kindOf ((p,w)::P.zip vs) m x=_
  unfold bindL
  exact xD (i:=i) (List.nodup_cons.mp nd).2 (by simpa using h1) (by simpa using h2) hk
theorem xF{kindOf:Str->Option NameKind}{x:Str}{v:Value}:∀{P:List Str}{vs:List Value}{i:Nat}{m:Str->Option Value},P.Nodup->P[i]?=some x->vs[i]?=some v->kindOf x≠some .local ->
  bindC kindOf (P.zip vs) m x=some v
 |[],_,_,_,_,h,_,_=>by simp at h
 |_::_,[],_,_,_,_,h,_=>by simp at h
 |p::P,w::vs,0,m,nd,h1,h2,hk=>by
  simp at h1 h2;subst h1;subst h2
  show bindC kindOf ((p,w)::P.zip vs) m p=_
  unfold bindC
  rw[xE λv hv=>(List.nodup_cons.mp nd).1 (List.of_mem_zip hv).1,if_neg hk]
  simp
 |p::P,w::vs,i+1,m,nd,h1,h2,hk=>by
  show bindC kindOf ((p,w)::P.zip vs) m x=_
  unfold bindC
  exact xF (i:=i) (List.nodup_cons.mp nd).2 (by simpa using h1) (by simpa using h2) hk
def cZ(N:List Str)(vs:List V):St:=vs.map some++List.replicate (N.length-vs.length) none
def eK(CX:CXT)(P:Program)(w:World)(K:W.Frag)(mg:Str->Option Value)(base:Heap)(N:List Str)(qual:Str)(scope:Scope)(f:Addr)(cd:Value)(A:Around)(outer:List Env)(s:Shared)(H:Hp)(E:XK):Cx where
 prog:=P
 w:=w
 K:=K
 mg:=mg
 base:=base
 A:=A.deeper (envOfC qual scope s.heap.objs.size f cd)
 N:=N
 s₀:=s
 H₀:=H
 env:=envOfC qual scope s.heap.objs.size f cd
 outer:=outer
 stack:=envOfC qual scope s.heap.objs.size f cd::outer
 ex:=[]
 calm:=true
 fn:=λ_=>true
 pn:=[]
 xe:=λe s'=>wpAny (model P w) (A.deeper (envOfC qual scope s.heap.objs.size f cd)) (leaving (envOfC qual scope s.heap.objs.size f cd) e) (λ_ s''=>CX outer H s E e s'') (λe' s''=>CX outer H s E e' s'') s'
theorem yO{sc:Scope}{n:Nat}{x:Str}(h:sc.names.lookup x=some .cell):∃c,(cellsFrom n sc.names []).lookup x=some c:=by
 have q:=PySem.W.cellsFrom_some sc.names n [] (.inl h)
 exact Option.isSome_iff_exists.mp q
theorem zDy{CX:CXT}{P:Program}{w:World}{K:W.Frag}{mg:Str->Option Value}{base:Heap}{N ps:List Str}{qual:Str}{scope:Scope}{f:Addr}{cd:Value}{A:Around}{outer:List Env}{s s1:Shared}{H:Hp}{E:XK}{us:List Value}{vs:List V}
  (S:bN N ps scope) (hd:A.handled=none) (e0:pI P w K mg base A outer s H) (hl:vs.length=ps.length) (r:Vals vs us)
  (x:InCallC s s.heap.objs.size (bindL (envOfC qual scope s.heap.objs.size f cd).kindOf (ps.zip us) λ_=>none) (cellsFrom (s.heap.objs.size+1) scope.names []) (bindC (envOfC qual scope s.heap.objs.size f cd).kindOf (ps.zip us) λ_=>none) s1):
  Inv (eK CX P w K mg base N qual scope f cd A outer s H E) [] (cZ N vs) H s1:=by
 have hpl:ps.length<=N.length:=by have:=congrArg List.length S.pre;rw[List.length_take]at this;omega
 obtain⟨h1,tk,rfl,hk⟩:=x.done
 have noA:∀b:Addr,b∉(eK CX P w K mg base N qual scope f cd A outer s H E).ex:=λb z=>absurd (show b∈([]:List Addr) from z) (by simp)
 refine⟨⟨e0.mod,S.kind,rfl,rfl,Nat.le_refl _,λy z c h1 h2=>?_,λy hy=>?_,λy c _ h=>?_,λ_=>hd,Around.frames_deeper e0.frames,.inr ⟨rfl,rfl⟩,λb z=>absurd z (noA b),e0.bs,e0.bsz,λb _ _=>noA b,λb z=>absurd z (noA b),e0.funs,e0.frf⟩,
  rfl,e0.bare,Un.kept hk,⟨_,x.toInCall.ns,λi y v h1 h2 h3=>?_⟩,λy c h=>⟨_,x.cell y c h⟩,e0.hok.fresh (Nat.le_refl _),λy c h=>?_,λp hp=>absurd (show p∈([]:List (Addr×Obj)) from hp) (by simp),e0.hok.kept hk,?_⟩
 ·exact name_of_addr x.apart (PySem.mem_of_lookup h1) (PySem.mem_of_lookup h2)
 ·have hy:scope.names.lookup y=some .cell\/scope.names.lookup y=some .free:=hy
  rcases hy with hy|hy
  ·exact yO hy
  ·exact absurd rfl (S.nofree _ (PySem.mem_of_lookup hy))
 ·exact Nat.le_of_lt (x.above y c (PySem.mem_of_lookup h))
 ·have hi:i<vs.length:=by
   unfold cZ at h2
   by_cases hi:i<vs.length
   ·exact hi
   ·rw[List.getElem?_append_right (by simpa using hi)]at h2
    rw[List.getElem?_replicate]at h2
    split at h2<;>cases h2
  have ha:vs[i]?=some v:=by
   unfold cZ at h2
   rw[List.getElem?_append_left (by simpa using hi),List.getElem?_map]at h2
   cases e:vs[i]? with
   |none=>rw[e]at h2;cases h2
   |some a=>rw[e]at h2;cases h2;rfl
  obtain⟨u,hu,rv⟩:=r.get ha
  have hp:ps[i]?=some y:=by
   rw[<-S.pre,List.getElem?_take_of_lt (by omega)];exact h1
  have ndP:ps.Nodup:=by rw[<-S.pre];exact S.nd.sublist (List.take_sublist _ _)
  refine⟨u,rv,?_⟩
  rcases S.par y (List.mem_of_getElem? hp) with k|k
  ·exact .inl ⟨k,xD ndP hp hu k⟩
  ·obtain⟨c,e⟩:=yO (n:=s.heap.objs.size+1) k
   refine .inr ⟨.inl k,c,e,?_⟩
   have q:=x.cell y c e
   rw[xF ndP hp hu (by show scope.names.lookup y≠_;rw[k];decide)]at q
   exact q
 ·exact e0.hok.fresh (Nat.le_of_lt (x.above y c (PySem.mem_of_lookup h)))
 ·unfold cZ
  show _=N.length
  rw[List.length_append,List.length_map,List.length_replicate]
  omega
theorem zIR{CX:CXT}{P:Program}{w:World}{K:W.Frag}{mg:Str->Option Value}{base:Heap}{k:Nat}{f:Addr}{name qual:Str}{params:Arguments}{body:List Stmt}{scope:Scope}{dV kV doc pm cdv ct oc:Value}{an od:Option Addr}
  {osl:Array (Option Value)} {N ps:List Str} {sp:Sp} (lk:K.lookup f=some ⟨oc,od,.func (W.fnOf name qual params body scope dV kV doc pm an cdv ct),osl⟩) (hcd:W.codeIn K cdv qual=true) (S:bN N ps scope)
  (len:∀vs H Q E,sp vs H Q E->vs.length=ps.length)
  (hbody:∀(A:Around) (outer:List Env) (s:Shared) (H:Hp) (vs:List V) (Q:VK) (E:XK),Room k (A.deeper (envOfC qual scope s.heap.objs.size f cdv))->sp vs H Q E ->
   ∃t,PSs (eK CX P w K mg base N qual scope f cdv A outer s H E) body t/\t {nx:=λ_ H'=>Q .non H',rt:=Q} (cZ N vs) H):
  FnOk P w K mg base CX (k+1) f (W.fnOf name qual params body scope dV kV doc pm an cdv ct) ps sp:=by
 refine⟨len,λA outer s H args us vs Q E hr e0 hb r hsp=>?_⟩
 have hl:=len _ _ _ _ hsp
 have KX:K.In s.heap:=e0.mod.kin.keeps λb o e=>(e0.bs b o e).1
 have lim:s.heap.NoLimit:=e0.mod.nolimit.keeps λb o e=>(e0.bs b o e).1
 have hkind:∀y∈ps.zip us,scope.names.lookup y.1=some .local\/(scope.names.lookup y.1=some .cell/\((cellsFrom (s.heap.objs.size+1) scope.names []).lookup y.1).isSome=true):=λ⟨n,v⟩ hy=>by
  rcases S.par n (List.of_mem_zip hy).1 with q|q
  ·exact .inl q
  ·exact .inr ⟨q,PySem.W.cellsFrom_some _ _ _ (.inl q)⟩
 refine codeAny_call_function hr.depth (KX _ _ lk) rfl S.co S.gen rfl (PySem.W.codeRec_of KX hcd) (hb _ _ _ _ ?_)
 refine wpAny_newFunctionEnv_cells S.kind hkind λenv he s1 x=>?_
 subst he
 refine⟨lim.keeps x.toInCall.keep,codeAny_func ?_⟩
 obtain⟨t,ht,hq⟩:=hbody A outer s H vs Q E (hr.deeper _) hsp
 have I:Inv (eK CX P w K mg base N qual scope f cdv A outer s H E) [] (cZ N vs) H s1:=zDy S hr.hd e0 hl r x
 refine wpAny_mono (ht [] s1 (cZ N vs) H _ I hq) (λfl s' hs=>?_) λe s' hs=>hs
 have fin:∀{σ':St} {H':Hp} {v:V} {u:Value},Inv (eK CX P w K mg base N qual scope f cdv A outer s H E) [] σ' H' s'->RelV v u->Q v H'->CE outer P w H s Q u s':=
  λ{σ' H' v u} J rv q=>⟨v,H',J.os,J.bare,J.base,J.hok,rv,q⟩
 cases fl with
 |ret u=>
  obtain⟨v,σ',H',J,rv,q⟩:=hs
  exact fin J rv q
 |next=>
  obtain⟨σ',H',J,q⟩:=hs
  exact fin (v:=V.non) (u:=Value.none) J rfl q
 |brk=>
  obtain⟨_,_,_,q⟩:=hs
  exact False.elim q
 |cont=>
  obtain⟨_,_,_,q⟩:=hs
  exact False.elim q
end L2
namespace L2
open PySem PySem.Spec PyProof.Rows
section
variable{X:Cx}{x:Str}{p pos:Pos}{e:Expr}{es:List Expr}{t:TA}{id T:String}{r:List V->Hp->VK->Prop}
def tCB(r:List V->Hp->VK->Prop)(t:TA):TE:=λσ H Q=>t σ H λvs H1=>r vs H1 Q
theorem gZ(hc:CallR X (.builtin id) r)(hg:Gl X x)(hm:X.mg x=none)(hv:bootBuiltins x=some (.builtin id))(ha:PA X (e::es) t)(hn:x≠"__name__":=by decide)(hdb:(x==("__debug__":Str))=false:=by decide)
  (he:starEach (e::es) X.env=(false,eval e X.env)::starEach es X.env:=by rfl) (hpl:(backTo pos (starEach es X.env)).any (·.1)=false:=by rfl):PE X (.Call (.Name x p) (e::es) [] pos) (tCB r t):=by
 intro pins s σ H Q I h
 refine wpAny_Call_Name_kw (iS I hg hm hv ?_ hn hdb)
 exact PyProof.Rows.callWith_builtin1 (thn (ha pos pins s σ H _ I h) λus s1 ⟨vs,H1,I1,r1,q1⟩=>hc pins s1 σ H1 vs us Q I1 r1 q1) he hpl
theorem iK(hc:CallR X (.type T) r)(hg:Gl X x)(hm:X.mg x=none)(hv:bootBuiltins x=some (.type T))(ha:PA X (e::es) t)(hn:x≠"__name__":=by decide)(hdb:(x==("__debug__":Str))=false:=by decide)
  (he:starEach (e::es) X.env=(false,eval e X.env)::starEach es X.env:=by rfl) (hpl:(backTo pos (starEach es X.env)).any (·.1)=false:=by rfl):PE X (.Call (.Name x p) (e::es) [] pos) (tCB r t):=by
 intro pins s σ H Q I h
 refine wpAny_Call_Name_kw (iS I hg hm hv ?_ hn hdb)
 exact PyProof.Rows.callWith_type1 (thn (ha pos pins s σ H _ I h) λus s1 ⟨vs,H1,I1,r1,q1⟩=>hc pins s1 σ H1 vs us Q I1 r1 q1) he hpl
end
end L2
namespace HT
open PySem PyProof.Rows
section
variable{prog:Program}{w:World}{A:Around}{E:Value->Shared->Prop}{s:Shared}
theorem cat_tup{t b:Addr}{vs ws:List Value}{Q:Value->Shared->Prop}(ht:IsTup s.heap t vs.toArray)(hb:IsTup s.heap b ws.toArray)(hv:vs≠[])
  (h1:ws=[]->Q (.ref t) s) (h2:ws≠[]->Q (.ref s.heap.objs.size) {s with heap:=s.heap.push {cls:=.type "tuple",data:=.seq (vs++ws).toArray}})
  (hsz:vs.length+ws.length<=sizeLine):wpAny (model prog w) A (binaryOp .Add (.ref t) (.ref b)) Q E s:=by
 obtain⟨⟨cls,dd,data,sl⟩,ho,hc,n,hd⟩:=id ht
 obtain⟨⟨cls2,dd2,data2,sl2⟩,ho2,hc2,n2,hd2⟩:=id hb
 simp only at hc hd hc2 hd2
 subst hc hd hc2 hd2
 have e:vs.toArray++ws.toArray=(vs++ws).toArray:=by simp
 by_cases hw:ws=[]
 ·exact concat_meets ⟨_,ho,rfl⟩ ⟨_,ho2,rfl⟩ noFill_tuple_add seq_tuple_add PySem.F.slot_tuple_add PySem.F.entry_tuple_add (PySem.F.args_tuple_add_2 _ _)
   (tuple_addW1 t b vs.toArray ws.toArray n n2 dd dd2 sl sl2 (by simpa using hv) (by simp[hw])) ⟨ho,ho2,h1 hw⟩
 ·refine concat_meets ⟨_,ho,rfl⟩ ⟨_,ho2,rfl⟩ noFill_tuple_add seq_tuple_add PySem.F.slot_tuple_add PySem.F.entry_tuple_add (PySem.F.args_tuple_add_2 _ _)
   (tuple_addW2 t b vs.toArray ws.toArray n n2 dd dd2 sl sl2 (by simpa using hv) (by simpa using hw) (by rw[List.size_toArray,List.size_toArray];exact hsz)) ⟨ho,ho2,?_⟩
  rw[e]
  exact h2 hw
def sIx(n d:Nat):Option Int->Nat
 |none=>d
 |some v=>if v<0 then(v+(n:Int)).toNat else min v.toNat n
theorem sIx_none(n d:Nat):sIx n d none=d:=rfl
theorem sIx_nat(n d k:Nat):sIx n d (some (k:Int))=min k n:=by
 show(if (k:Int)<0 then((k:Int)+(n:Int)).toNat else min (k:Int).toNat n)=min k n
 rw[if_neg (by omega),Int.toNat_natCast]
theorem zGO(n d:Nat)(hd:d<=n)(o:Option Int):sIx n d o<=n:=by
 cases o with
 |none=>exact hd
 |some v=>
  show(if v<0 then(v+(n:Int)).toNat else min v.toNat n)<=n
  by_cases hv:v<0
  ·rw[if_pos hv];omega
  ·rw[if_neg hv];exact Nat.min_le_right _ _
theorem zAd(v:Int)(n d:Nat):(if v<0 then max (v+(n:Int)) 0 else min v (n:Int))=((sIx n d (some v):Nat):Int):=by
 show(if v<0 then max (v+(n:Int)) 0 else min v (n:Int))=(((if v<0 then(v+(n:Int)).toNat else min v.toNat n):Nat):Int)
 by_cases hv:v<0
 ·simp only[if_pos hv];omega
 ·simp only[if_neg hv];omega
theorem zCU(lo hi:Option Int)(n:Nat):Builtin.Slice.sliceAdjust lo hi 1 (n:Int)=(((sIx n 0 lo:Nat):Int),((sIx n n hi:Nat):Int)):=by
 have h1:¬ ((1:Int)<0):=by omega
 unfold Builtin.Slice.sliceAdjust
 simp only[h1,if_false]
 refine Prod.ext ?_ ?_
 ·cases lo with
  |none=>rfl
  |some v=>exact zAd v n 0
 ·cases hi with
  |none=>rfl
  |some v=>exact zAd v n n
theorem zCt(i j:Nat):Builtin.Slice.slicePlaces (i:Int) (j:Int) 1=j-i:=by
 unfold Builtin.Slice.slicePlaces
 have h1:(1:Int) > 0:=by omega
 simp only[h1,if_true,Int.ediv_one]
 split<;>omega
theorem vK{v:Value}{o:Option Int}{Q:Option Int->Shared->Prop}(p:IsPart v o)(h:Q o s):wpAny (model prog w) A (Builtin.Slice.slicePartIndex v) Q E s:=by
 cases p with
 |none=>exact slicePart_none h
 |int i t=>exact slicePart_int h
theorem sliceApplied_gen{sl:Addr}{vl vu:Value}{lo hi:Option Int}{n:Nat}{Q:Int×Int×Nat->Shared->Prop}(hs:s.heap.IsSliceOf sl vl vu .none)(pl:IsPart vl lo)(pu:IsPart vu hi)
  (h:Q (((sIx n 0 lo:Nat):Int),1,sIx n n hi-sIx n 0 lo) s):wpAny (model prog w) A (Builtin.Slice.sliceApplied (.ref sl) (pure (n:Int))) Q E s:=by
 obtain⟨os,hos,hcs,hds⟩:=id hs
 unfold Builtin.Slice.sliceApplied Builtin.Slice.sliceFields
 refine wpAny_bind (wpAny_bind (wpAny_field hos hds (x:=vl) rfl (wpAny_bind (wpAny_field hos hds (x:=vu) rfl (wpAny_bind (wpAny_field hos hds (x:=.none) rfl (wpAny_pure ?_)))))))
 refine wpAny_bind (slicePart_none ?_)
 show wpAny _ _ (if ((1:Int)==0)=true then _ else _) _ _ s
 rw[if_neg (by decide)]
 refine wpAny_bind (vK pl (wpAny_bind (vK pu (wpAny_bind (wpAny_pure ?_)))))
 show wpAny _ _ (match Builtin.Slice.sliceAdjust lo hi 1 (n:Int) with|(lo,hi)=>pure (lo,(1:Int),Builtin.Slice.slicePlaces lo hi 1)) _ _ s
 rw[zCU lo hi n]
 show wpAny _ _ (pure (((sIx n 0 lo:Nat):Int),(1:Int),Builtin.Slice.slicePlaces ((sIx n 0 lo:Nat):Int) ((sIx n n hi:Nat):Int) 1)) _ _ s
 rw[zCt]
 exact wpAny_pure h
theorem zEk(xs:Array Value)(i k:Nat):((List.range k).filterMap λ(m:Nat)=>xs[((i:Int)+(m:Int)*1).toNat]?).toArray=((xs.toList.drop i).take k).toArray:=by
 have e:(λ(m:Nat)=>xs[((i:Int)+(m:Int)*1).toNat]?)=λm=>xs[i+m]?:=by
  funext m
  have:((i:Int)+(m:Int)*1).toNat=i+m:=by omega
  rw[this]
 rw[e]
 have:=pick_run xs i k
 rw[List.filterMap_map]at this
 have e2:((λx=>xs[x]?)∘λx=>i+x)=λm=>xs[i+m]?:=rfl
 rw[e2]at this
 rw[this]
theorem getItem_tuple_cut{t sl:Addr}{items:Array Value}{vl vu:Value}{lo hi:Option Int}{Q:Value->Shared->Prop}(ht:IsTup s.heap t items)(hs:s.heap.IsSliceOf sl vl vu .none)(pl:IsPart vl lo)(pu:IsPart vu hi)
  (hw:¬ (sIx items.size 0 lo=0/\sIx items.size items.size hi=items.size))
  (h:Q (.ref s.heap.objs.size) {s with heap:=s.heap.push {cls:=.type "tuple",data:=.seq ((items.toList.drop (sIx items.size 0 lo)).take (sIx items.size items.size hi-sIx items.size 0 lo)).toArray}})
  (hsz:items.size<=sizeLine):wpAny (model prog w) A (getItem (.ref t) (.ref sl)) Q E s:=by
 have htake:sizeOk (.seq ((items.toList.drop (sIx items.size 0 lo)).take (sIx items.size items.size hi-sIx items.size 0 lo)).toArray):=by
  show((items.toList.drop (sIx items.size 0 lo)).take (sIx items.size items.size hi-sIx items.size 0 lo)).toArray.size<=sizeLine
  rw[List.size_toArray,List.length_take,List.length_drop,Array.length_toList]
  omega
 have hj:sIx items.size items.size hi<=items.size:=zGO _ _ (Nat.le_refl _) hi
 obtain⟨os,hos,hcs,hds⟩:=id hs
 have hTs:s.TypeIs (.ref sl) "slice":=⟨os,hos,hcs⟩
 unfold getItem
 try with_reducible refine wpAny_holding ?_
 first|refine wpAny_bind (wpAny_pure ?_)|skip
 refine wpAny_bind (wpAny_sequenceKey ht.typeIs (by decide) ?_)
 refine wpAny_bind (wpAny_callSpecial?_slot (name:=Str.ofString "__getitem__") ht.typeIs PyProof.Rows.slot_tuple_getitem
  (wpAny_call_entry PyProof.Rows.slot_tuple_getitem ht.typeIs entry_tuple_getitem ?_ (args_tuple_getitem _ _)))
 show wpAny _ _ (Builtin.Tuple.tupleItemsOf (.ref t) >>= _) _ _ s
 refine wpAny_bind (tupleItemsOf_ ht ?_)
 refine wpAny_bind (wpAny_typeOf hTs ?_)
 rw[if_pos (by decide)]
 refine wpAny_bind (sliceApplied_gen hs pl pu ?_)
 have hno:¬ ((((sIx items.size 0 lo:Nat):Int)==0&&(1:Int)==1&&(sIx items.size items.size hi-sIx items.size 0 lo)==items.size)=true):=by
  intro q
  rw[Bool.and_eq_true,Bool.and_eq_true]at q
  have q1:((sIx items.size 0 lo:Nat):Int)=0:=eq_of_beq q.1.1
  have q2:sIx items.size items.size hi-sIx items.size 0 lo=items.size:=eq_of_beq q.2
  exact hw ⟨by omega,by omega⟩
 show wpAny _ _ (if (((sIx items.size 0 lo:Nat):Int)==0&&(1:Int)==1&&(sIx items.size items.size hi-sIx items.size 0 lo)==items.size)=true then _ else _) _ _ s
 rw[if_neg hno,zEk]
 first
  |exact wpAny_bind (m:=Builtin.Tuple.tupleExact _) (wpAny_newObj_type (wpAny_pure ⟨_,rfl,wpAny_pure h⟩) htake)
  |exact wpAny_bind (m:=Builtin.Tuple.tupleExact _) (wpAny_newObj_type (wpAny_bind (wpAny_pure (wpAny_pure ⟨_,rfl,wpAny_pure h⟩))) htake)
  |exact wpAny_bind (wpAny_bind (m:=Builtin.Tuple.tupleExact _) (wpAny_newObj_type (wpAny_pure (wpAny_pure ⟨_,rfl,wpAny_pure h⟩)) htake))
  |exact wpAny_bind (wpAny_bind (m:=Builtin.Tuple.tupleExact _) (wpAny_newObj_type (wpAny_pure ⟨_,rfl,wpAny_pure h⟩) htake))
end
end HT
namespace L2
open PySem PySem.Spec PyProof.Rows
abbrev TO:=St->Hp->(Option Int->Hp->Prop)->Prop
def PO(X:Cx)(e:Option Expr)(t:TO):Prop:=
 ∀(pins:List (Addr×Obj)) (s:Shared) (σ:St) (H:Hp) (Q:Option Int->Hp->Prop),Inv X pins σ H s->t σ H Q ->
  wpAny (model X.prog X.w) X.A (evalPart e X.env) (λu s'=>∃o H',Inv X pins σ H' s'/\IsPart u o/\Q o H') X.xe s
def zFg:TO:=λ_ H Q=>Q none H
def zH9(t:TE):TO:=λσ H Q=>t σ H λx H1=>∃i,x=.int i/\Q (some i) H1
theorem jH{ns:List Int}:∀{us:List Value},Vals (ns.map V.int) us->IntsAre us ns:=by
 induction ns with
 |nil=>intro us r;rw[List.map_nil]at r;cases r;exact .nil
 |cons n ns ih=>
  intro us r
  rw[List.map_cons]at r
  cases r with
  |cons r1 r2=>
   obtain⟨t,e⟩:=r1
   subst e
   exact .cons n t (ih r2)
section
variable{X:Cx}{e:Expr}{te:TE}{lo hi:Option Expr}{tl th:TO}{pos p2:Pos}
theorem zH:PO X none zFg:=by
 intro pins s σ H Q I h
 rw[evalPart_none]
 exact wpAny_pure ⟨none,H,I,.none,h⟩
theorem zG(h:PE X e te):PO X (some e) (zH9 te):=by
 intro pins s σ H Q I hw
 rw[evalPart_some]
 refine thn (h pins s σ H _ I hw) λu s1 ⟨x,H1,I1,r1,q1⟩=>?_
 obtain⟨i,rfl,q⟩:=q1
 obtain⟨t,rfl⟩:=r1
 exact⟨some i,H1,I1,.int i t,q⟩
def SlR(X:Cx)(r:V->Option Int->Option Int->Hp->VK->Prop):Prop:=
 ∀(pins:List (Addr×Obj)) (s:Shared) (σ:St) (H:Hp) (x:V) (v vl vu:Value) (lo hi:Option Int) (sl:Addr) (Q:VK),Inv X pins σ H s->RelV x v->s.heap.IsSliceOf sl vl vu .none->IsPart vl lo->IsPart vu hi->r x lo hi H Q ->
  ∃T id,typeLookup (.type T) "__getitem__"=pure (some (.builtin id))/\s.TypeIs v T/\wpAny (model X.prog X.w) X.A (getItem v (.ref sl)) (EP X pins σ Q) X.xe s
theorem SlR.or{r r':V->Option Int->Option Int->Hp->VK->Prop}(h:SlR X r)(h':SlR X r'):SlR X (λx lo hi H Q=>r x lo hi H Q\/r' x lo hi H Q):=by
 intro pins s σ H x v vl vu lo hi sl Q I rx hs pl pu q
 rcases q with q|q
 ·exact h pins s σ H x v vl vu lo hi sl Q I rx hs pl pu q
 ·exact h' pins s σ H x v vl vu lo hi sl Q I rx hs pl pu q
def tSl(r:V->Option Int->Option Int->Hp->VK->Prop)(te:TE)(tl th:TO):TE:=λσ H Q=>te σ H λx H1=>tl σ H1 λl H2=>th σ H2 λu H3=>r x l u H3 Q
theorem xU{r:V->Option Int->Option Int->Hp->VK->Prop}(hr:SlR X r)(he:PE X e te)(hl:PO X lo tl)(hu:PO X hi th):PE X (.Subscript e (.Slice lo hi none p2) pos) (tSl r te tl th):=by
 intro pins s σ H Q I h
 refine Subscript_ (thn (he pins s σ H _ I h) λv s1 ⟨x,H1,I1,r1,q1⟩=>?_)
 refine wpAny_Slice (thn (hl pins s1 σ H1 _ I1 q1) λvl s2 ⟨l,H2,I2,pl,q2⟩=>thn (hu pins s2 σ H2 _ I2 q2) λvu s3 ⟨u,H3,I3,pu,q3⟩=>?_)
 rw[evalPart_none]
 refine wpAny_pure ?_
 have I4:Inv X pins σ H3 {s3 with heap:=s3.heap.push {cls:=.type "slice",data:=.fields #[vl,vu,.none]}}:=I3.kept (t':=s3.toks) λb ob q=>Heap.get?_push_of_some _ q
 obtain⟨T,id,hT,ht,hg⟩:=hr pins {s3 with heap:=s3.heap.push {cls:=.type "slice",data:=.fields #[vl,vu,.none]}} σ H3 x v vl vu l u s3.heap.objs.size Q I4 r1 (Heap.IsSliceOf.new ..) pl pu q3
 show wpAny (model X.prog X.w) X.A (subscriptTail e (.Slice lo hi none p2) v (.ref s3.heap.objs.size)) (EP X pins σ Q) X.xe {s3 with heap:=s3.heap.push {cls:=.type "slice",data:=.fields #[vl,vu,.none]}}
 exact tail_any (ops:=[.ref s3.heap.objs.size,v]) ht hT hg (by with_unfolding_all rfl)
def eW(xs:List V)(lo hi:Option Int):List V:=(xs.drop (HT.sIx xs.length 0 lo)).take (HT.sIx xs.length xs.length hi-HT.sIx xs.length 0 lo)
theorem vH(xs:List V)(lo hi:Option Int):(eW xs lo hi).length<=xs.length:=by
 unfold eW
 rw[List.length_take,List.length_drop]
 omega
def zJk(K:W.Frag):V->Option Int->Option Int->Hp->VK->Prop:=λx lo hi H Q=>∃a xs,x=.ref a/\SqT K H a xs /\
 ¬ (HT.sIx xs.length 0 lo=0/\HT.sIx xs.length xs.length hi=xs.length)/\∀p,H p=none->Q (.ref p) (upd H p (.tup (eW xs lo hi)))
theorem zGF:SlR X (zJk X.K):=by
 intro pins s σ H x v vl vu lo hi sl Q I rx hs pl pu h
 obtain⟨a,xs,rfl,hx,hw,q⟩:=h
 cases rx
 obtain⟨its,r,ht,hz⟩:=I.tuple hx
 have hlen:its.toArray.size=xs.length:=by rw[List.size_toArray];exact r.length.symm
 refine⟨"tuple",_,PyProof.Rows.slot_tuple_getitem.lookup,ht.typeIs,?_⟩
 refine HT.getItem_tuple_cut ht hs pl pu (by rw[hlen];exact hw) ?_ (by rw[hlen];exact hz)
 rw[hlen]
 refine⟨.ref s.heap.objs.size,_,I.laid (t':=s.toks) (o:=.tup (eW xs lo hi)) (λb ob q=>Heap.get?_push_of_some _ q) (Nat.le_refl _) ?_,rfl,q _ (I.hok.fresh (Nat.le_refl _))⟩
 exact⟨Nat.le_trans (vH xs lo hi) hz,_,(r.drop (HT.sIx xs.length 0 lo)).take (HT.sIx xs.length xs.length hi-HT.sIx xs.length 0 lo),IsTup.new _ _⟩
def zIs(K:W.Frag):R2:=λx y H Q=>∃a b xs ys,x=.ref a/\y=.ref b/\SqT K H a xs/\SqT K H b ys/\xs≠[]/\xs.length+ys.length<=sizeLine /\
 (ys=[]->Q (.ref a) H)/\(ys≠[]->∀p,H p=none->Q (.ref p) (upd H p (.tup (xs++ys))))
theorem Vals.nil_iff{xs:List V}{us:List Value}(r:Vals xs us):us=[]↔xs=[]:=by
 cases r with
 |nil=>simp
 |cons _ _=>simp
theorem zFO:OpR X (binaryOp .Add) (zIs X.K):=by
 intro pins s σ H x y v u Q I rx ry h
 obtain⟨a,b,xs,ys,rfl,rfl,ha,hb,hx,hz,q1,q2⟩:=h
 cases rx
 cases ry
 obtain⟨its,r1,p1,_⟩:=I.tuple ha
 obtain⟨its2,r2,p2,_⟩:=I.tuple hb
 refine HT.cat_tup p1 p2 (λz=>hx (r1.nil_iff.mp z)) (λz=>⟨.ref a,H,I,rfl,q1 (r2.nil_iff.mp z)⟩) (λz=>?_) (by rw[<-r1.length,<-r2.length];exact hz)
 refine⟨.ref s.heap.objs.size,_,I.laid (t':=s.toks) (o:=.tup (xs++ys)) (λb ob q=>Heap.get?_push_of_some _ q) (Nat.le_refl _) ?_,rfl,q2 (λw=>z (r2.nil_iff.mpr w)) _ (I.hok.fresh (Nat.le_refl _))⟩
 exact⟨by rw[List.length_append];exact hz,_,r1.append r2,IsTup.new _ _⟩
end
end L2
namespace L2
open PySem PySem.Spec PyProof.Rows
def ixN(n:Nat)(i:Int):Option Nat:=if 0<=i then(if i<n then some i.toNat else none) else if -(n:Int)<=i then some (i+n).toNat else none
def atI{α:Type}(xs:List α)(i:Int):Option α:=(ixN xs.length i).bind λj=>xs[j]?
theorem zW{n:Nat}{i:Int}{j:Nat}(h:ixN n i=some j):seqIndex? i n=some j/\j<n /\ -(n:Int)<=i/\i<n:=by
 unfold ixN at h
 by_cases h0:0<=i
 ·rw[if_pos h0]at h
  by_cases h1:i<n
  ·rw[if_pos h1]at h
   have e:i.toNat=j:=Option.some.inj h
   exact⟨by rw[seqIndex_of h0 h1,e],by omega,by omega,h1⟩
  ·rw[if_neg h1]at h;cases h
 ·rw[if_neg h0]at h
  by_cases h1:-(n:Int)<=i
  ·rw[if_pos h1]at h
   have e:(i+n).toNat=j:=Option.some.inj h
   exact⟨by rw[seqIndex_neg (by omega) h1,e],by omega,h1,by omega⟩
  ·rw[if_neg h1]at h;cases h
theorem sD{α:Type}{xs:List α}{i:Int}{v:α}(h:atI xs i=some v):∃j,seqIndex? i xs.length=some j/\xs[j]?=some v/\j<xs.length /\ -(xs.length:Int)<=i/\i<xs.length:=by
 unfold atI at h
 cases e:ixN xs.length i with
 |none=>rw[e]at h;cases h
 |some j=>
  rw[e]at h
  obtain⟨h1,h2,h3,h4⟩:=zW e
  exact⟨j,h1,h,h2,h3,h4⟩
theorem fP{α:Type}{xs:List α}{j:Nat}{v:α}(h:xs[j]?=some v):atI xs (j:Int)=some v:=by
 have hj:j<xs.length:=(List.getElem?_eq_some_iff.mp h).1
 have e:ixN xs.length (j:Int)=some j:=by
  unfold ixN
  rw[if_pos (by omega),if_pos (by omega)];simp
 unfold atI;rw[e];exact h
def nV(b:Expr):Prop:=∀o i,subscripted b false o i=operate [o,i] (getItem o i)
def IxR(X:Cx)(r:R2):Prop:=
 ∀(value slice:Expr) (pins:List (Addr×Obj)) (s:Shared) (σ:St) (H:Hp) (x y:V) (v u:Value) (Q:VK),Inv X pins σ H s->RelV x v->RelV y u->r x y H Q ->
  subscripted slice false v u=operate [v,u] (getItem v u)->wpAny (model X.prog X.w) X.A (subscriptTail value slice v u) (EP X pins σ Q) X.xe s
def MtR(X:Cx)(id:String)(r:V->List V->Hp->VK->Prop):Prop:=
 ∀(pins:List (Addr×Obj)) (s:Shared) (σ:St) (H:Hp) (x:V) (xs:List V) (v:Value) (us:List Value) (Q:VK),Inv X pins σ H s->RelV x v->Vals xs us->r x xs H Q ->
  wpAny (model X.prog X.w) X.A (call (.builtin id) (v::us)) (EP X pins σ Q) X.xe s
section
variable{X:Cx}{a b:Expr}{ta tb:TE}{pos:Pos}
theorem IxR.or{r r':R2}(h:IxR X r)(h':IxR X r'):IxR X (λx y H Q=>r x y H Q\/r' x y H Q):=by
 intro value slice pins s σ H x y v u Q I rx ry q hs
 rcases q with q|q
 ·exact h value slice pins s σ H x y v u Q I rx ry q hs
 ·exact h' value slice pins s σ H x y v u Q I rx ry q hs
theorem gJ{r:R2}(hr:IxR X r)(ha:PE X a ta)(hb:PE X b tb)(hs:nV b):PE X (.Subscript a b pos) (tOp r ta tb):=by
 intro pins s σ H Q I h
 exact Subscript_ (uK ha hb I h λv u s2 x y H2 I2 rx ry q=>hr a b pins s2 σ H2 x y v u Q I2 rx ry q (hs _ _))
def zBi(K:W.Frag):R2:=λx y H Q=>∃p xs i v,x=.ref p/\y=.int i/\SqL K H p xs/\atI xs i=some v/\Q v H
def zBg(K:W.Frag):R2:=λx y H Q=>∃p xs i v,x=.ref p/\y=.int i/\SqT K H p xs/\atI xs i=some v/\Q v H
def zBh:R2:=λx y H Q=>∃z i c,x=.str z/\y=.int i/\z.length<=sizeLine/\atI z.cps.toList i=some c/\Q (.str ⟨#[c]⟩) H
theorem ix_list:IxR X (zBi X.K):=by
 intro value slice pins s σ H x y v u Q I rx ry h hs
 obtain⟨p,xs,i,z,rfl,rfl,hq,he,q⟩:=h
 cases rx
 obtain⟨t,rfl⟩:=ry
 obtain⟨its,r,pl,hz⟩:=I.list hq
 obtain⟨j,h1,h2,h3,h4,h5⟩:=sD he
 obtain⟨w,ew,rw'⟩:=r.get h2
 have hl:=r.length
 have hn:=kC
 have fin:EP X pins σ Q w s:=⟨z,H,I,rw',q⟩
 by_cases h0:0<=i
 ·have hj:i.toNat=j:=by
   rw[seqIndex_of h0 h5]at h1
   exact Option.some.inj h1
  exact item_listR pl.isList h0 (by omega) (by rw[hj];simpa using ew) fin hs
 ·have hj:(i+(its.toArray.size:Int)).toNat=j:=by
   rw[seqIndex_neg (by omega) h4]at h1
   rw[List.size_toArray,<-hl]
   exact Option.some.inj h1
  exact subscriptTail_builtinR (x:=w) pl.isList.typeIs slot_list_getitem.lookup
   (wpAny_getItem_list_neg (Q:=λr s'=>r=w/\EP X pins σ Q r s') pl.isList (by omega) (by rw[List.size_toArray]<;>omega) (by omega) (by rw[hj];simpa using ew) ⟨rfl,fin⟩) hs
theorem ix_tup:IxR X (zBg X.K):=by
 intro value slice pins s σ H x y v u Q I rx ry h hs
 obtain⟨p,xs,i,z,rfl,rfl,hq,he,q⟩:=h
 cases rx
 obtain⟨t,rfl⟩:=ry
 obtain⟨its,r,pl,hz⟩:=I.tuple hq
 obtain⟨j,h1,h2,h3,h4,h5⟩:=sD he
 obtain⟨w,ew,rw'⟩:=r.get h2
 have hl:=r.length
 have hn:=kC
 have fin:EP X pins σ Q w s:=⟨z,H,I,rw',q⟩
 exact subscriptTail_builtinR (x:=w) pl.typeIs slot_tuple_getitem.lookup
  (getItem_tuple (j:=j) (Q:=λr s'=>r=w/\EP X pins σ Q r s') pl (by omega) (by omega) (by rw[List.size_toArray,<-hl];exact h1) (by simpa using ew) ⟨rfl,fin⟩) hs
theorem zHG:IxR X zBh:=by
 intro value slice pins s σ H x y v u Q I rx ry h hs
 obtain⟨z,i,c,rfl,rfl,hz,he,q⟩:=h
 obtain⟨t,rfl⟩:=rx
 obtain⟨t',rfl⟩:=ry
 obtain⟨j,h1,h2,h3,h4,h5⟩:=sD he
 have hl:z.cps.toList.length=z.length:=by simp[Str.length]
 rw[hl]at h1 h4 h5
 have hn:=kC
 exact tail_any (typeIs_str s z t) slot_str_getitem.lookup (getItem_str (c:=c) (by
  have e1:decide (i < -(2 ^ 63:Int))=false:=decide_eq_false (by omega)
  have e2:decide (i>=2 ^ 63)=false:=decide_eq_false (by omega)
  rw[e1,e2,Bool.or_false]) (by rw[h1];simpa using h2) ⟨.str ⟨#[c]⟩,H,I.tok _,⟨_,rfl⟩,q⟩) hs
def rIx(K:W.Frag):R2:=λx y H Q=>zBi K x y H Q\/zBg K x y H Q\/zBh x y H Q
theorem ix_seq:IxR X (rIx X.K):=ix_list.or (ix_tup.or zHG)
theorem zCA(its:List Value)(n j:Nat)(u:Value):Obj.mapSeq (·.setIfInBounds j u) {cls:=.type "list",data:=.seq its.toArray n}={cls:=.type "list",data:=.seq (its.set j u).toArray n}:=by
 simp[Obj.mapSeq]
theorem Inv.lst{pins:List (Addr×Obj)}{σ:St}{H:Hp}{s:Shared}{p:Addr}{xs:List V}(I:Inv X pins σ H s)(h:H p=some (.lst xs)):
  ∃(its:List Value) (n:Nat),Vals xs its/\s.heap.get? p=some {cls:=.type "list",data:=.seq its.toArray n}/\xs.length<=sizeLine:=by
 obtain⟨z,its,n,r,e⟩:=I.hok p _ h
 exact⟨its,n,r,e,z⟩
theorem Inv.lstUpd{pins:List (Addr×Obj)}{σ:St}{H:Hp}{s:Shared}{p:Addr}{xs ys:List V}{its its':List Value}{n n':Nat}{f:Obj->Obj}(I:Inv X pins σ H s)(h:H p=some (.lst xs))
  (ho:s.heap.get? p=some {cls:=.type "list",data:=.seq its.toArray n}) (hf:f {cls:=.type "list",data:=.seq its.toArray n}={cls:=.type "list",data:=.seq its'.toArray n'}) (r:Vals ys its') (hz:ys.length<=sizeLine) (t:Nat):
  Inv X pins σ (upd H p (.lst ys)) {s with heap:=s.heap.update p f,toks:=t}:=by
 have e:(s.heap.update p f).get? p=some {cls:=.type "list",data:=.seq its'.toArray n'}:=by
  rw[Heap.get?_update_self f ho (by rw[hf]<;>rfl),hf]
 refine I.write (x:=p) (e:=p) (by rw[h];trivial) (.inl rfl) (λb u hb q=>(Heap.get?_update_other _ _ (Ne.symm hb)).trans q) ⟨_,e⟩ ?_
 exact⟨hz,its',n',r,e⟩
def zIl:V->V->V->Hp->(Hp->Prop)->Prop:=λo i v H Q=>∃p xs k j,o=.ref p/\i=.int k/\H p=some (.lst xs)/\ixN xs.length k=some j/\Q (upd H p (.lst (xs.set j v)))
theorem zEb:zBz X zIl:=by
 intro pins s σ H o i v ov iv u Q I ro ri rv h
 obtain⟨p,xs,k,j,rfl,rfl,hp,hj,q⟩:=h
 cases ro
 obtain⟨t,rfl⟩:=ri
 obtain⟨its,n,r,ho,hz⟩:=I.lst hp
 obtain⟨h1,h2,h3,h4⟩:=zW hj
 have hl:=r.length
 have hn:=kC
 have I':Inv X pins σ (upd H p (.lst (xs.set j v))) {s with heap:=s.heap.update p (Obj.mapSeq (·.setIfInBounds j u))}:=
  I.lstUpd hp ho (zCA its n j u) (r.set rv j) (by rw[List.length_set];exact hz) s.toks
 by_cases h0:0<=k
 ·have hk:k.toNat=j:=by
   rw[seqIndex_of h0 h4]at h1
   exact Option.some.inj h1
  exact PySem.W.ki_setAt ho h0 (by omega) (by rw[List.size_toArray,<-hl];exact h4) (by rw[hk];exact⟨_,I',q⟩)
 ·have hk:(k+(its.toArray.size:Int)).toNat=j:=by
   rw[seqIndex_neg (by omega) h3]at h1
   rw[List.size_toArray,<-hl]
   exact Option.some.inj h1
  exact PySem.W.ki_setBack ho (by omega) (by rw[List.size_toArray,<-hl];exact h3) (by omega) (by rw[hk];exact⟨_,I',q⟩)
theorem zBU(lo hi:Option Int)(n:Nat):(sliceBounds lo hi none n).1=((HT.sIx n 0 lo:Nat):Int)/\(sliceBounds lo hi none n).2.1=((HT.sIx n n hi:Nat):Int)/\(sliceBounds lo hi none n).2.2=1:=by
 refine⟨?_,?_,rfl⟩
 ·cases lo with
  |none=>simp[sliceBounds,HT.sIx]
  |some i=>
   simp only[sliceBounds,HT.sIx,Option.getD_none,show(1:Int) > 0 by decide,if_true]
   by_cases h:i<0
   ·simp only[h,if_true]<;>omega
   ·simp only[h,if_false]<;>omega
 ·cases hi with
  |none=>simp[sliceBounds,HT.sIx]
  |some i=>
   simp only[sliceBounds,HT.sIx,Option.getD_none,show(1:Int) > 0 by decide,if_true]
   by_cases h:i<0
   ·simp only[h,if_true]<;>omega
   ·simp only[h,if_false]<;>omega
theorem zBI(its:List Value)(lo hi:Option Int):slicePick its.toArray lo hi none=((its.drop (HT.sIx its.length 0 lo)).take (HT.sIx its.length its.length hi-HT.sIx its.length 0 lo)).toArray:=by
 obtain⟨h1,h2,h3⟩:=zBU lo hi its.toArray.size
 unfold slicePick
 rw[h1,h2,h3]
 simp only[sliceRange_one,pick_run,List.size_toArray]<;>rfl
def zJm(K:W.Frag):V->Option Int->Option Int->Hp->VK->Prop:=λx lo hi H Q=>∃a xs,x=.ref a/\SqL K H a xs/\∀p,H p=none->Q (.ref p) (upd H p (.lst (eW xs lo hi)))
theorem sl_list:SlR X (zJm X.K):=by
 intro pins s σ H x v vl vu lo hi sl Q I rx hs pl pu h
 obtain⟨a,xs,rfl,hx,q⟩:=h
 cases rx
 obtain⟨its,r,ht,hz⟩:=I.list hx
 have hlen:=r.length
 refine⟨"list",_,slot_list_getitem.lookup,ht.isList.typeIs,?_⟩
 refine wpAny_getItem_list_slice ht.isList hs pl pu .none (by simp) ?_ (by rw[List.size_toArray]<;>omega)
 rw[zBI,<-hlen]
 refine⟨.ref s.heap.objs.size,_,I.laid (t':=s.toks) (o:=.lst (eW xs lo hi)) (λb ob q=>Heap.get?_push_of_some _ q) (Nat.le_refl _) ?_,rfl,q _ (I.hok.fresh (Nat.le_refl _))⟩
 exact⟨Nat.le_trans (vH xs lo hi) hz,_,0,(r.drop (HT.sIx xs.length 0 lo)).take (HT.sIx xs.length xs.length hi-HT.sIx xs.length 0 lo),Heap.get?_push_size _ rfl⟩
def cN:V->Bool
 |.non=>true
 |.bl _=>true
 |.int _=>true
 |.str _=>true
 |_=>false
def eqV:V->V->Bool
 |.non,.non=>true
 |.bl a,.bl b=>a==b
 |.bl a,.int b=>(if a then 1 else 0)==b
 |.int a,.bl b=>a==(if b then 1 else 0)
 |.int a,.int b=>a==b
 |.str a,.str b=>a==b
 |_,_=>false
theorem zAF{A:Around}{s:Shared}{y x:V}{u v:Value}(ry:RelV y u)(rx:RelV x v)(fy:cN y=true)(fx:cN x=true):SeqAt.EqAt A s u v (eqV y x):=by
 cases y with
 |non=>
  cases ry
  cases x with
  |non=>cases rx;exact SeqAt.EqAt.same _
  |bl b=>cases rx;exact SeqAt.EqAt.none_bool b
  |int b=>obtain⟨t,rfl⟩:=rx;exact SeqAt.EqAt.none_int b t
  |str b=>obtain⟨t,rfl⟩:=rx;exact SeqAt.EqAt.none_str b t
  |_=>exact absurd (show false=true from fx) Bool.false_ne_true
 |bl a=>
  cases ry
  cases x with
  |non=>cases rx;exact SeqAt.EqAt.bool_none a
  |bl b=>cases rx;exact SeqAt.EqAt.bool_bool a b
  |int b=>obtain⟨t,rfl⟩:=rx;exact SeqAt.EqAt.bool_int a b t
  |str b=>obtain⟨t,rfl⟩:=rx;exact SeqAt.EqAt.bool_str a b t
  |_=>exact absurd (show false=true from fx) Bool.false_ne_true
 |int a=>
  obtain⟨t',rfl⟩:=ry
  cases x with
  |non=>cases rx;exact SeqAt.EqAt.int_none a t'
  |bl b=>cases rx;exact SeqAt.EqAt.int_bool a t' b
  |int b=>obtain⟨t,rfl⟩:=rx;exact SeqAt.EqAt.int_int a t' b t
  |str b=>obtain⟨t,rfl⟩:=rx;exact SeqAt.EqAt.int_str a t' b t
  |_=>exact absurd (show false=true from fx) Bool.false_ne_true
 |str a=>
  obtain⟨t',rfl⟩:=ry
  cases x with
  |non=>cases rx;exact SeqAt.EqAt.str_none a t'
  |bl b=>cases rx;exact SeqAt.EqAt.str_bool a t' b
  |int b=>obtain⟨t,rfl⟩:=rx;exact SeqAt.EqAt.str_int a t' b t
  |str b=>obtain⟨t,rfl⟩:=rx;exact SeqAt.EqAt.str_str a t' b t
  |_=>exact absurd (show false=true from fx) Bool.false_ne_true
 |_=>exact absurd (show false=true from fy) Bool.false_ne_true
theorem op_notIn_str:OpR X (compareOp .NotIn) (λx y H Q=>∃i j,x=.str i/\y=.str j/\Q (.bl (!(!(Builtin.Str.occurrences j i 0 j.length 1).isEmpty))) H):=by
 intro pins s σ H x y v u Q I rx ry h
 obtain⟨i,j,rfl,rfl,q⟩:=h
 obtain⟨t,rfl⟩:=rx
 obtain⟨t',rfl⟩:=ry
 exact notIn_str ⟨.bl _,H,I,rfl,q⟩
theorem call_len_seq:CallR X (.builtin "len") (λxs H Q=>∃p ys,xs=[.ref p]/\(SqL X.K H p ys\/SqT X.K H p ys)/\Q (.int ys.length) H):=by
 intro pins s σ H xs us Q I r h
 obtain⟨p,ys,rfl,hq,q⟩:=h
 obtain⟨u,rfl,rx⟩:=bZ r
 cases rx
 have hn:=kC
 rcases hq with hq|hq
 ·obtain⟨its,r',pl,hz⟩:=I.list hq
  have hlen:=r'.length
  exact Calls.call_len_list pl.isList (by simp only[List.size_toArray]<;>omega) ⟨.int ys.length,H,I.tok _,⟨s.toks+1,by rw[List.size_toArray,hlen]⟩,q⟩
 ·obtain⟨its,r',pl,hz⟩:=I.tuple hq
  have hlen:=r'.length
  exact len_tuple pl (by simp only[List.size_toArray]<;>omega) ⟨.int ys.length,H,I.tok _,⟨s.toks+1,by rw[List.size_toArray,hlen]⟩,q⟩
theorem call_len_str:CallR X (.builtin "len") (λxs H Q=>∃z,xs=[.str z]/\z.length<=sizeLine/\Q (.int z.length) H):=by
 intro pins s σ H xs us Q I r h
 obtain⟨z,rfl,hz,q⟩:=h
 obtain⟨u,rfl,t,rfl⟩:=bZ r
 have hn:=kC
 exact len_str (by omega) ⟨.int z.length,H,I.tok _,⟨_,rfl⟩,q⟩
theorem CallR.or{f:Value}{r r':List V->Hp->VK->Prop}(h:CallR X f r)(h':CallR X f r'):CallR X f (λxs H Q=>r xs H Q\/r' xs H Q):=by
 intro pins s σ H xs us Q I rs q
 rcases q with q|q
 ·exact h pins s σ H xs us Q I rs q
 ·exact h' pins s σ H xs us Q I rs q
theorem uY:CallR X (.type "list") (λxs H Q=>∃p ys,xs=[.ref p]/\(SqL X.K H p ys\/SqT X.K H p ys)/\∀l,H l=none->Q (.ref l) (upd H l (.lst ys))):=by
 intro pins s σ H xs us Q I r h
 obtain⟨p,ys,rfl,hq,q⟩:=h
 obtain⟨u,rfl,rx⟩:=bZ r
 cases rx
 have fin:∀(its:List Value),Vals ys its->ys.length<=sizeLine->∀(h':Heap) (c':Nat),(∀b o',s.heap.get? b=some o'->h'.get? b=some o') ->
   h'.get? s.heap.objs.size=some {cls:=.type "list",dict:=none,data:=.seq its.toArray c',slots:=#[]}->EP X pins σ Q (.ref s.heap.objs.size) {s with heap:=h'}:=λits r' hz h' c' kp e=>
  ⟨.ref s.heap.objs.size,_,I.laid (t':=s.toks) kp (Nat.le_refl _) (show ObjOk X.prog X.w _ h' _ (.lst ys) from ⟨hz,its,c',r',e⟩),rfl,q _ (I.hok.fresh (Nat.le_refl _))⟩
 rcases hq with hq|hq
 ·obtain⟨its,r',pl,hz⟩:=I.list hq
  have hlen:=r'.length
  obtain⟨o,ho,hc,n,hd⟩:=pl.isList
  exact call_list_seq p (.inl rfl) ho hc hd (λh' c' kp e=>fin its r' hz h' c' kp e) (by simp only[List.size_toArray]<;>omega)
 ·obtain⟨its,r',pl,hz⟩:=I.tuple hq
  have hlen:=r'.length
  obtain⟨o,ho,hc,n,hd⟩:=pl
  exact call_list_seq p (.inr rfl) ho hc hd (λh' c' kp e=>fin its r' hz h' c' kp e) (by simp only[List.size_toArray]<;>omega)
theorem zBM:CallR X (.type "tuple") (λxs H Q=>∃p ys,xs=[.ref p]/\((SqL X.K H p ys/\∀l,H l=none->Q (.ref l) (upd H l (.tup ys)))\/(SqT X.K H p ys/\Q (.ref p) H))):=by
 intro pins s σ H xs us Q I r h
 obtain⟨p,ys,rfl,h⟩:=h
 obtain⟨u,rfl,rx⟩:=bZ r
 cases rx
 rcases h with⟨hq,q⟩|⟨hq,q⟩
 ·obtain⟨its,r',pl,hz⟩:=I.list hq
  have hlen:=r'.length
  refine call_tuple_list pl.isList (λh' kp=>?_) (by simp only[List.size_toArray]<;>omega)
  have I1:Inv X pins σ H {s with heap:=h'}:=I.kept (t':=s.toks) kp
  have I2:Inv X pins σ (upd H h'.objs.size (.tup ys)) {s with heap:=h'.push {cls:=.type "tuple",data:=.seq its.toArray}}:=
   I1.laid (t':=s.toks) (λb o e=>Heap.get?_push_of_some _ e) (Nat.le_refl _) (show ObjOk X.prog X.w _ _ _ (.tup ys) from ⟨hz,its,r',IsTup.new _ _⟩)
  exact⟨.ref h'.objs.size,_,I2,rfl,q _ (I1.hok.fresh (Nat.le_refl _))⟩
 ·obtain⟨its,r',pl,hz⟩:=I.tuple hq
  exact call_tuple_same pl ⟨.ref p,H,I,rfl,q⟩
def tyV(K:W.Frag)(T:String)(x:V)(H:Hp):Prop:=match x with
 |.str _=>T="str"
 |.int _=>T="int"
 |.ref p=>(T="list"/\∃xs,SqL K H p xs)\/(T="tuple"/\∃o,K.lookup p=some o/\o.cls=.type "tuple"/\o.dict=none) \/
   (T="dict"/\((∃kvs,H p=some (.dK kvs))\/∃kvs,H p=some (.dT kvs)))\/(T="set"/\∃S n,H p=some (.set S n))
 |_=>False
theorem zAm{pins:List (Addr×Obj)}{σ:St}{H:Hp}{s:Shared}{T:String}{x:V}{v:Value}(I:Inv X pins σ H s)(r:RelV x v)(ty:tyV X.K T x H):
  s.TypeIs v T/\∀a,v=.ref a->∃ob,s.heap.get? a=some ob/\ob.dict=none:=by
 cases x with
 |str z=>
  obtain⟨t,rfl⟩:=r
  cases (show T="str" from ty)
  exact⟨typeIs_str s z t,λ_ e=>nomatch e⟩
 |int i=>
  obtain⟨t,rfl⟩:=r
  cases (show T="int" from ty)
  exact⟨typeIs_int s i t,λ_ e=>nomatch e⟩
 |ref p=>
  cases r
  rcases ty with⟨rfl,xs,hq⟩|⟨rfl,o,hk,hc,hd⟩|⟨rfl,hk⟩|⟨rfl,S,n,hk⟩
  ·obtain⟨its,_,pl,_⟩:=I.list hq
   refine⟨pl.isList.typeIs,λa e=>?_⟩
   cases e
   obtain⟨o,n,e,c,hd,_⟩:=pl
   exact⟨o,e,hd⟩
  ·refine⟨⟨o,I.kIn p o hk,hc⟩,λa e=>?_⟩
   cases e
   exact⟨o,I.kIn _ o hk,hd⟩
  ·have z:∃o,s.heap.get? p=some o/\o.ExactDict:=by
    rcases hk with⟨kvs,hk⟩|⟨kvs,hk⟩
    ·obtain⟨_,_,_,_,o,_,_,e,ex,_⟩:=I.hok p _ hk
     exact⟨o,e,ex⟩
    ·obtain⟨_,_,_,_,o,_,_,e,ex,_⟩:=I.hok p _ hk
     exact⟨o,e,ex⟩
   obtain⟨o,e,ex⟩:=z
   refine⟨⟨o,e,ex.1⟩,λa e2=>?_⟩
   cases e2
   exact⟨o,e,ex.2.1⟩
  ·obtain⟨o,_,_,_,e,ex,_⟩:=I.hok p _ hk
   refine⟨⟨o,e,ex.1⟩,λa e2=>?_⟩
   cases e2
   exact⟨o,e,ex.2.1⟩
 |_=>exact False.elim ty
def zJd(K:W.Frag)(T:String)(r:V->List V->Hp->VK->Prop)(to:TE):TE:=λσ H Q=>to σ H λx H1=>tyV K T x H1/\r x [] H1 Q
def tBM(K:W.Frag)(T:String)(r:V->List V->Hp->VK->Prop)(to:TE)(t:TA):TE:=λσ H Q=>to σ H λx H1=>tyV K T x H1/\t σ H1 λxs H2=>r x xs H2 Q
variable{o e:Expr}{es:List Expr}{to:TE}{t:TA}{name:Str}{apos cpos:Pos}{T id:String}{r:V->List V->Hp->VK->Prop}
theorem zHk(pa:PlainAttrs T)(slot:Slot T name id)(hty:typeOf (.builtin id)=pure (.type "method_descriptor"))(hm:MtR X id r)(ho:PE X o to)
  (hbase:attributeBase o name X.env (eval o X.env)=eval o X.env:=by rfl) (hline:(apos.endLine==cpos.line)=true:=by rfl):PE X (.Call (.Attribute o name apos) [] [] cpos) (zJd X.K T r to):=by
 intro pins s σ H Q I h
 refine wpAny_Call_method0_late hbase hline (thn (ho pins s σ H _ I h) λv s1 ⟨x,H1,I1,r1,ty,q1⟩=>?_)
 obtain⟨h1,h2⟩:=zAm I1 r1 ty
 exact⟨T,id,pa,slot,hty,h1,h2,Calls.callWith_builtin rfl (PySem.evalArgs_none (hm pins s1 σ H1 x [] v [] Q I1 r1 .nil q1))⟩
theorem lV(pa:PlainAttrs T)(slot:Slot T name id)(hty:typeOf (.builtin id)=pure (.type "method_descriptor"))(hm:MtR X id r)(ho:PE X o to)(ha:PA X (e::es) t)
  (hbase:attributeBase o name X.env (eval o X.env)=eval o X.env:=by rfl)
  (hfew:((backTo cpos (starEach (e::es) X.env)).all (λx=>!x.1)&&(backToKw cpos (keywordEach [] X.env)).all (λx=>x.1.isSome)
   && decide ((e::es).length+([]:List Keyword).length+(if ([]:List Keyword).isEmpty then 0 else 1)<30))=true:=by rfl)
  (hline:(apos.endLine==cpos.line)=true:=by rfl) (hs:starEach (e::es) X.env=(false,eval e X.env)::starEach es X.env:=by rfl) (hplain:(backTo cpos (starEach es X.env)).any (·.1)=false:=by rfl):
  PE X (.Call (.Attribute o name apos) (e::es) [] cpos) (tBM X.K T r to t):=by
 intro pins s σ H Q I h
 refine wpAny_Call_method_late hbase hfew hline rfl (thn (ho pins s σ H _ I h) λv s1 ⟨x,H1,I1,r1,ty,q1⟩=>?_)
 obtain⟨h1,h2⟩:=zAm I1 r1 ty
 refine⟨T,id,pa,slot,hty,h1,h2,?_⟩
 have hA:=ha cpos pins s1 σ H1 _ I1 q1
 rw[hs]at hA ⊢
 refine Calls.callWith_builtin (by show(false || (backTo cpos (starEach es X.env)).any (·.1))=false;rw[hplain]<;>rfl) (Calls.evalArgs_plain ?_)
 exact thn hA λus s2 ⟨vs,H2,I2,r2,q2⟩=>hm pins s2 σ H2 x vs v us Q I2 r1 r2 q2
end
end L2
namespace L2
open PySem PySem.Spec PyProof.Rows
def MtM(X:Cx)(id:String)(r:V->List V->Hp->VK->Prop):Prop:=
 ∀(pins:List (Addr×Obj)) (s:Shared) (σ:St) (H:Hp) (x:V) (xs:List V) (v:Value) (us:List Value) (Q:VK),Inv X pins σ H s->RelV x v->Vals xs us->r x xs H Q ->
  wpAny (model X.prog X.w) X.A (call (.builtin id) (v::us)) (EP X pins σ Q) X.xe s
theorem Vals.one:∀{x:V}{us:List Value},Vals [x] us->∃u,us=[u]/\RelV x u
 |_,_,.cons r .nil=>⟨_,rfl,r⟩
theorem Vals.zero:∀{us:List Value},Vals [] us->us=[]
 |_,.nil=>rfl
theorem Vals.dropLast{xs:List V}{us:List Value}(h:Vals xs us):Vals xs.dropLast us.dropLast:=by
 induction h with
 |nil=>exact .nil
 |cons r t ih=>
  cases t with
  |nil=>exact .nil
  |cons q t'=>exact .cons r ih
theorem Vals.eraseIdx:∀{xs:List V}{us:List Value}(i:Nat),Vals xs us->Vals (xs.eraseIdx i) (us.eraseIdx i)
 |_,_,_,.nil=>.nil
 |_,_,0,.cons _ t=>t
 |_,_,i+1,.cons r t=>.cons r (Vals.eraseIdx i t)
theorem Vals.reverse{xs:List V}{us:List Value}(h:Vals xs us):Vals xs.reverse us.reverse:=by
 induction h with
 |nil=>exact .nil
 |cons r t ih=>rw[List.reverse_cons,List.reverse_cons];exact Vals.append ih (.cons r .nil)
theorem Vals.rep{xs:List V}{us:List Value}(h:Vals xs us):∀k:Nat,Vals (List.replicate k xs).flatten (List.replicate k us).flatten
 |0=>.nil
 |k+1=>by
  rw[List.replicate_succ,List.replicate_succ,List.flatten_cons,List.flatten_cons]
  exact Vals.append h (Vals.rep h k)
theorem zCG{α:Type}(l:List α):l.eraseIdx (l.length-1)=l.dropLast:=by
 induction l with
 |nil=>rfl
 |cons a r ih=>
  cases r with
  |nil=>rfl
  |cons b r=>
   have e:(a::b::r).length-1=((b::r).length-1)+1:=by
    have h1:(a::b::r).length=r.length+2:=rfl
    have h2:(b::r).length=r.length+1:=rfl
    omega
   rw[e,List.eraseIdx_cons_succ,ih]
   all_goals rfl
theorem wN{α:Type}:∀(l:List α) (i:Nat),(l.eraseIdx i).length<=l.length
 |[],_=>Nat.le_refl _
 |_::_,0=>Nat.le_succ _
 |_::r,i+1=>Nat.succ_le_succ (wN r i)
theorem wT(its:List Value):∀(k:Nat) (acc:List Value),
  List.foldl (λx1 x2=>x1++x2) acc.toArray (List.replicate k its.toArray)=(acc++(List.replicate k its).flatten).toArray
 |0,acc=>by simp
 |k+1,acc=>by
  have e:acc.toArray++its.toArray=(acc++its).toArray:=by simp
  have e2:(acc++its)++(List.replicate k its).flatten=acc++(List.replicate (k+1) its).flatten:=by
   rw[List.replicate_succ,List.flatten_cons,List.append_assoc]
  rw[<-e2,<-wT its k (acc++its),<-e,List.replicate_succ,List.foldl_cons]
section
variable{X:Cx}{pins:List (Addr×Obj)}{σ:St}{H:Hp}{s:Shared}{l b:Addr}{xs ys zs:List V}
theorem Inv.lset{its its':List Value}{n:Nat}{f:Array Value->Array Value}{t':Nat}(I:Inv X pins σ H s)(hH:H l=some (.lst xs))
  (e:s.heap.get? l=some {cls:=.type "list",data:=.seq its.toArray n}) (hf:f its.toArray=its'.toArray) (hv:Vals ys its') (hz:ys.length<=sizeLine):
  Inv X pins σ (upd H l (.lst ys)) {s with heap:=s.heap.update l (Obj.mapSeq f),toks:=t'}:=by
 have q:=PySem.IsL.update e f
 rw[hf]at q
 refine I.write (x:=l) (e:=l) (by rw[hH];exact trivial) (.inl rfl) (λb' u hb hu=>(Heap.get?_update_other s.heap (Obj.mapSeq f) (Ne.symm hb)).trans hu) ⟨_,q⟩ ?_
 exact⟨hz,its',_,hv,q⟩
theorem Inv.lnew{its:List Value}{t':Nat}(I:Inv X pins σ H s)(hv:Vals ys its)(hz:ys.length<=sizeLine):
  Inv X pins σ (upd H s.heap.objs.size (.lst ys)) {s with heap:=s.heap.push {cls:=.type "list",data:=.seq its.toArray},toks:=t'}:=
 I.laid (λ_ _ q=>Heap.get?_push_of_some _ q) (Nat.le_refl _) ⟨hz,its,0,hv,Heap.get?_push_size _ rfl⟩
theorem Inv.fresh(I:Inv X pins σ H s):H s.heap.objs.size=none:=I.hok.fresh (Nat.le_refl _)
theorem Inv.lstM(I:Inv X pins σ H s)(hH:H l=some (.lst xs)):xs.length<=sizeLine/\∃(its:List Value) (n:Nat),Vals xs its/\xs.length=its.length/\s.heap.get? l=some {cls:=.type "list",data:=.seq its.toArray n}:=by
 obtain⟨z,its,n,r,e⟩:=I.hok l _ hH
 exact⟨z,its,n,r,r.length,e⟩
theorem xY{n:Nat}(h:n<=sizeLine):Builtin.List.listTooLong n=false:=by
 unfold Builtin.List.listTooLong
 exact decide_eq_false (by omega)
end
section
variable{X:Cx}
def zFv:V->List V->Hp->VK->Prop:=λx vs H Q=>∃l xs y,x=.ref l/\vs=[y]/\H l=some (.lst xs)/\xs.length<sizeLine/\Q .non (upd H l (.lst (xs++[y])))
theorem qE:MtM X "list.append" zFv:=by
 intro pins s σ H x vs v us Q I rx rv h
 obtain⟨l,xs,y,rfl,rfl,hH,hz,q⟩:=h
 cases rx
 obtain⟨u,rfl,ru⟩:=rv.one
 obtain⟨z,its,n,r,hl,e⟩:=I.lstM hH
 refine call_meets F.slot_list_append ⟨_,e,rfl⟩ F.entry_list_append (F.args_list_append_2 _ _) (PySem.list_append l its.toArray n u (by rw[List.size_toArray];omega)) ⟨e,?_⟩
 refine⟨.non,_,I.lset (its':=its++[u]) hH e (by simp) (r.append (.cons ru .nil)) ?_,rfl,q⟩
 rw[List.length_append,List.length_singleton]
 omega
def zJo:V->List V->Hp->VK->Prop:=λx vs H Q=>∃l xs y,x=.ref l/\vs=[]/\H l=some (.lst xs)/\xs[xs.length-1]?=some y/\Q y (upd H l (.lst xs.dropLast))
theorem zHx:MtM X "list.pop" zJo:=by
 intro pins s σ H x vs v us Q I rx rv h
 obtain⟨l,xs,y,rfl,rfl,hH,hy,q⟩:=h
 cases rx
 have hus:=rv.zero
 subst hus
 obtain⟨z,its,n,r,hl,e⟩:=I.lstM hH
 obtain⟨u,hu,ru⟩:=r.get hy
 have hy':its.toArray[its.toArray.size-1]?=some u:=by
  show its.toArray[its.length-1]?=some u
  rw[<-Array.getElem?_toList,<-hl]
  exact hu
 refine call_meets F.slot_list_pop ⟨_,e,rfl⟩ F.entry_list_pop (F.args_list_pop_1 _) (MeetsSeq.list_pop_last l its.toArray n u hy' (by rw[List.size_toArray];omega)) ⟨e,?_⟩
 refine⟨y,_,I.lset (its':=its.dropLast) hH e ?_ r.dropLast ?_,ru,q⟩
 ·show its.toArray.eraseIdxIfInBounds (its.toArray.size-1)=its.dropLast.toArray
  rw[List.size_toArray,List.eraseIdxIfInBounds_toArray,zCG]
 ·rw[List.length_dropLast]
  omega
def zGX:V->List V->Hp->VK->Prop:=λx vs H Q=>∃l xs i k y,x=.ref l/\vs=[.int i]/\H l=some (.lst xs) /\ -(2 ^ 63)<=i/\i<2 ^ 63/\seqIndex? i xs.length=some k/\xs[k]?=some y/\Q y (upd H l (.lst (xs.eraseIdx k)))
theorem zEq:MtM X "list.pop" zGX:=by
 intro pins s σ H x vs v us Q I rx rv h
 obtain⟨l,xs,i,k,y,rfl,rfl,hH,h1,h2,hk,hy,q⟩:=h
 cases rx
 obtain⟨u,rfl,ru⟩:=rv.one
 obtain⟨t,rfl⟩:=ru
 obtain⟨z,its,n,r,hl,e⟩:=I.lstM hH
 obtain⟨w,hw,rw'⟩:=r.get hy
 refine call_meets F.slot_list_pop ⟨_,e,rfl⟩ F.entry_list_pop (F.args_list_pop_2 _ _)
  (MeetsSeq.list_pop_at l its.toArray n i t k w (fitsIndex_both h1 h2) (by rw[List.size_toArray,<-hl];exact hk) (by rw[<-Array.getElem?_toList];exact hw) (by rw[List.size_toArray];omega)) ⟨e,?_⟩
 refine⟨y,_,I.lset (its':=its.eraseIdx k) hH e ?_ (r.eraseIdx k) ?_,rw',q⟩
 ·show its.toArray.eraseIdxIfInBounds k=(its.eraseIdx k).toArray
  rw[List.eraseIdxIfInBounds_toArray]
 ·have:=wN xs k
  omega
theorem rX{α:Type}(xs:List α)(k:Nat):(List.replicate k xs).flatten.length=k*xs.length:=by
 induction k with
 |zero=>simp
 |succ k ih=>rw[List.replicate_succ,List.flatten_cons,List.length_append,ih,Nat.succ_mul,Nat.add_comm]
end
end L2
namespace Att
open PySem PySem.W PySem.Calls PyProof.Rows
theorem zBC{P:Params}{h:Heap}:∀(ns:List Int) (vs:List Value),WellAll P h vs (ns.map WData.int)->IntsAre vs ns:=by
 intro ns
 induction ns with
 |nil=>
  intro vs w
  rw[List.map_nil]at w
  cases w
  exact .nil
 |cons n ns ih=>
  intro vs w
  rw[List.map_cons]at w
  cases w with
  |cons a b=>
   cases a
   exact .cons _ _ (ih _ b)
theorem zDe{l:OpenLaw}{n:Nat}(hn:l.most=some n){P:Params}{h:Heap}{args:List WData}{vals:List Value}
  (hpre:l.row.toRowW.claim.pre args=true) (hwl:WellAll P h vals args):
  ∃a vs ns,vals=[Value.ref a]/\args=[WData.list (ns.map WData.int)]/\h.get? a=some {cls:=.type "list",data:=.seq vs.toArray}/\IntsAre vs ns/\ns.length<=n:=by
 have hsh:WShape.hasAll [] args [.list .int]=true:=(pre_splitW hpre).1
 have hc:l.pre.holds [] {args:=args}=true:=(pre_splitW hpre).2
 obtain⟨d,r,rfl,h1,h2⟩:=hasAllW_cons hsh
 obtain rfl:=hasAllW_nil h2
 obtain⟨xs,rfl,h3⟩:=hasW_list h1
 obtain⟨ns,rfl⟩:=items_int h3
 have hlen:ns.length<=n:=by
  unfold OpenLaw.pre at hc
  have h4:(WTm.not (.lt (.lit (.int (n:Int))) (.len (.arg 0)))).holds [] {args:=[.list (ns.map .int)]}=true:=by
   have h4:=(holds_andW hc).1
   rw[hn]at h4
   exact h4
  have h5:=condW_of h4 (w_not (w_lt w_lit (w_len_list (w_arg rfl))))
  rw[List.length_map]at h5
  refine Nat.le_of_not_lt λq=>?_
  have q':(n:Int)<((ns.length:Nat):Int):=by omega
  first
   |(rw[decide_eq_true q']at h5;exact absurd h5 (by decide))
   |(simp at h5;omega)
 cases hwl with
 |cons w1 w2=>
  cases w2
  cases w1 with
  |list ho hall=>exact⟨_,_,ns,rfl,rfl,ho,zBC ns _ hall,hlen⟩
theorem zDk(l:OpenLaw)(args:List WData):l.row.toRowW.claim.post args (.bool true) args=true:=
 postW_of (r:=l.row.toRowW) (X:=(true==true))
  (show WShape.has [] (.bool true) .bool=true by first|rfl|decide|simp[WShape.has,WShape.arms,WShape.armsAll])
  (show(WTm.eq .res (.lit (.bool true))).value [] {args:=args,res:=some (.bool true),after:=args}=some (.bool (true==true)) from w_eq_bool (w_res rfl) w_lit) rfl
theorem attach_call{l:OpenLaw}{n:Nat}{q:Program}{loose:List Str}{XP:(Str->Option Value)->Heap->Prop}{YP:World->Heap->Prop}{d:DefRec}
  (hn:l.most=some n) (hdf:d.params.defaults=[])
  (call:∀(w:World) (s₀ s₁:Shared) (mg mb:Str->Option Value) (fa:Addr) (o:Obj) (pm cd doc:Value) (a:Addr) (vs:List Value) (ns:List Int),
   Ground q loose [] XP w s₀ mg mb s₁.heap->YP w s₁.heap ->
   s₁.heap.get? fa=some o->o.data=.func (docDef d.name d.params d.body d.scope pm cd doc)->s₁.heap.CodeRec cd d.name->mg d.name=some (.ref fa) ->
   s₁.heap.get? a=some {cls:=.type "list",data:=.seq vs.toArray}->IntsAre vs ns->ns.length<=n->s₁.gens=#[] ->
   codeAny (model l.prog w) callerA (.call (.ref fa) ⟨[.ref a],[]⟩) (λr s'=>r=.ok (.ret (.bool true))/\OldK s₁.heap s'.heap/\s'.os=s₁.os/\AllBare s'.gens) s₁):
  WalkO q loose XP YP l.row.toRowW d [] (λf vs=>PySem.call f vs):=by
 intro w s₀ s₁ mg mb G Y fa o pm cd doc dV kV ho hd hcd hD hmg hg args vals as hpre hlay hrd hwl hlo
 obtain rfl:dV=.none:=Dflts.none hD hdf
 obtain rfl:kV=.none:=Dflts.noKw hD
 obtain⟨a,vs,ns,rfl,rfl,hobj,hints,hlen⟩:=zDe hn hpre hwl
 refine enter_call (codeAny_mono (call w s₀ s₁ mg mb fa o pm cd doc a vs ns G Y ho (fd_plain hd) hcd hmg hobj hints hlen hg) λr s' hq=>?_)
 obtain⟨rfl,h2,h3,h4⟩:=hq
 exact⟨.inl ⟨.bool true,.bool true,[],rfl,λ_=>rfl,.bool true,zDk l _,λ_=>⟨List.Pairwise.nil,λ_ hm=>(nomatch hm)⟩⟩,h2,h3,h4⟩
end Att
namespace L2
open PySem PySem.Spec PyProof.Rows
theorem vX:∀{vs:List Value}{ns:List Int},IntsAre vs ns->Vals (ns.map V.int) vs
 |_,_,.nil=>.nil
 |_,_,.cons n t h=>.cons ⟨t,rfl⟩ (vX h)
def uP(H:Hp):Prop:=∀b,H b=none\/∃o xs,H b=some (.frz o (.lst xs))
theorem zEA{P:Program}{w:World}{K:W.Frag}{mg mb:Str->Option Value}{CX:CXT}{k:Nat}{fa a:Addr}{fd:FuncData}{x:Str}{sp:Sp}{s₁:Shared}{vs:List Value}{ns:List Int}
  (KX:K.In s₁.heap) (hns:s₁.heap.Ns mainGlobals mg) (hb:s₁.heap.Ns builtinsNs mb) (hbb:∀x:Str,x≠"__name__"->mb x=bootBuiltins x) (hlim:s₁.heap.NoLimit) (hg:s₁.gens=#[])
  (ha:s₁.heap.get? a=some {cls:=.type "list",data:=.seq vs.toArray}) (hi:IntsAre vs ns) (hl:ns.length<=sizeLine) (hr:Room k callerA)
  (F:∀base:Heap,K.In base->base.Ns mainGlobals mg->FnOk P w K mg base CX k fa fd [x] sp) (hbind:∀(s:Shared) (u:Value),BindsTo s fd ⟨[u],[]⟩ [(x,u)])
  (hsp:∀H:Hp,uP H->SqL K H a (ns.map V.int)->sp [.ref a] H (λv _=>v=.bl true) λ_ _ _=>False)
  (hCX:∀H e s',CX [] H s₁ (λ_ _ _=>False) e s'->False):
  codeAny (model P w) callerA (.call (.ref fa) ⟨[.ref a],[]⟩) (λr s'=>r=.ok (.ret (.bool true))/\OldK s₁.heap s'.heap/\s'.os=s₁.os/\AllBare s'.gens) s₁:=by
 have rv:=vX hi
 have lenV:=hi.length
 -- from an abstract heap in which nothing but the script may be tracked
 have core:∀H:Hp,uP H->SqL K H a (ns.map V.int)->HOk P w H s₁.heap->(∀b,H b≠none->b=a)->(H a≠none->K.lookup a=none) ->
   codeAny (model P w) callerA (.call (.ref fa) ⟨[.ref a],[]⟩) (λr s'=>r=.ok (.ret (.bool true))/\OldK s₁.heap s'.heap/\s'.os=s₁.os/\AllBare s'.gens) s₁:=by
  intro H hO hS hok hA hK
  have base_of:∀{b:Addr} {o:Obj},s₁.heap.get? b=some o->H b=none->(gR s₁.heap H).get? b=some o:=λe n=>zEF e n
  have noA:∀{b:Addr} {o:Obj} {es:Array DictEntry} {ep:Nat},s₁.heap.get? b=some o->o.data=.dict es ep->H b=none:=λ{b o es ep} e d=>by
   cases q:H b with
   |none=>rfl
   |some u=>
    have e':b=a:=hA b (by rw[q];simp)
    subst e'
    rw[ha]at e;cases e
    have d':Data.seq vs.toArray _=Data.dict es ep:=d
    cases d'
  have nsK:∀{b:Addr} {m:Str->Option Value},s₁.heap.Ns b m->(gR s₁.heap H).Ns b m:=λ{b m} ⟨o,es,ep,e,d,r⟩=>⟨o,es,ep,base_of e (noA e d),d,r⟩
  have hKb:K.In (gR s₁.heap H):=λb o e=>base_of (KX b o e) (by
   cases q:H b with
   |none=>rfl
   |some u=>
    have e':b=a:=hA b (by rw[q];simp)
    subst e'
    rw[hK (by rw[q];simp)]at e;cases e)
  have hM:Mod K mg (gR s₁.heap H):=⟨hKb,nsK hns,⟨mb,nsK hb,hbb⟩,let ⟨mc,h1,h2⟩:=hlim;⟨mc,nsK h1,h2⟩⟩
  have e0:pI P w K mg (gR s₁.heap H) callerA [] s₁ H:=⟨rfl,hM,λb o e=>zFQ e,Nat.le_of_eq (zDB _ _),trivial,λb hb=>absurd (show b∈([]:List Addr) from hb) (by simp),hok,.of_eq hg⟩
  refine codeAny_mono ((F _ hKb (nsK hns)).run callerA [] s₁ H ⟨[.ref a],[]⟩ [.ref a] [.ref a] _ _ hr e0 (hbind s₁ (.ref a)) (.cons rfl .nil) (hsp H hO hS)) λr s' h=>?_
  cases r with
  |error e=>exact(hCX H e s' h).elim
  |ok fl=>
   cases fl with
   |next=>exact False.elim h
   |brk=>exact False.elim h
   |cont=>exact False.elim h
   |ret u=>
    obtain⟨v,H',os,bare,un,hok',r',q⟩:=h
    have q':v=.bl true:=q
    subst q'
    obtain rfl:u=Value.bool true:=r'
    refine⟨rfl,OldK.of_keep λb o e=>?_,os,bare⟩
    cases q:H b with
    |none=>exact un.keep b o e q (by intro z;exact absurd (show b∈([]:List Addr) from z) (by simp)) (by simp)
    |some u=>
     rcases hO b with z|⟨ob,xs,z⟩
     ·rw[q]at z;cases z
     ·have z2:=un.frzs b ob _ z
      obtain⟨e1,_⟩:=hok b _ z
      obtain⟨e2,_⟩:=hok' b _ z2
      rw[e]at e1;cases e1
      exact e2
 cases hk:K.lookup a with
 |some o=>
  -- the script is one of the module's own objects
  have e:=KX a o hk
  rw[ha]at e
  cases e
  refine core (λ_=>none) (λ_=>.inl rfl) (.inr ⟨_,vs.toArray,_,hk,rfl,rfl,rfl,by rw[List.size_toArray,lenV];exact hl,by simpa using rv⟩) (λb u z=>by have z':(none:Option HO)=some u:=z;cases z') (λb z=>absurd rfl z) λz=>absurd rfl z
 |none=>
  refine core (λb=>if b=a then some (.frz {cls:=.type "list",data:=.seq vs.toArray} (.lst (ns.map V.int))) else none) (λb=>?_) (.inl (.inr ⟨{cls:=.type "list",data:=.seq vs.toArray},if_pos rfl⟩)) (λb u z=>?_) (λb z=>?_) λ_=>hk
  ·by_cases hb:b=a
   ·exact .inr ⟨_,_,if_pos hb⟩
   ·exact .inl (if_neg hb)
  ·by_cases hb:b=a
   ·have z':=(if_pos hb).symm.trans z
    cases z'
    subst hb
    exact⟨ha,by rw[List.length_map];exact hl,vs,_,rv,ha⟩
   ·have z':=(if_neg hb).symm.trans z
    cases z'
  ·by_cases hb:b=a
   ·exact hb
   ·exact absurd (if_neg hb) z
end L2
namespace L2
open PySem PySem.Spec PyProof.Rows
theorem walk_of{l:W.OpenLaw}{n k:Nat}{q:Program}{loose:List Str}{XP:(Str->Option Value)->Heap->Prop}{YP:World->Heap->Prop}{d:DefRec}{K:Params->W.Frag}{CX:World->CXT}{sp:World->Sp}{x:Str}
  (hn:l.most=some n) (hn2:n<=sizeLine) (hdf:d.params.defaults=[]) (hr:Room k callerA)
  (hY:∀(w:World) (h:Heap),YP w h->(K w.params).In h)
  (F:∀(w:World) (mg:Str->Option Value) (fa:Addr) (h:Heap),(K w.params).In h->h.Ns mainGlobals mg->mg d.name=some (.ref fa) ->
   ∃fd:FuncData,(∀(s:Shared) (u:Value),BindsTo s fd ⟨[u],[]⟩ [(x,u)]) /\
    ∀base:Heap,(K w.params).In base->base.Ns mainGlobals mg->FnOk l.prog w (K w.params) mg base (CX w) k fa fd [x] (sp w))
  (hsp:∀(w:World) (H:Hp) (a:Addr) (ns:List Int),ns.length<=n->uP H->SqL (K w.params) H a (ns.map V.int)->sp w [.ref a] H (λv _=>v=.bl true) λ_ _ _=>False)
  (hCX:∀(w:World) (H:Hp) (s:Shared) (e:Value) (s':Shared),CX w [] H s (λ_ _ _=>False) e s'->False):
  PySem.W.WalkO q loose XP YP l.row.toRowW d [] (λf vs=>PySem.call f vs):=by
 refine Att.attach_call hn hdf λw s₀ s₁ mg mb fa o pm cd doc a vs ns G Y ho hd hcd hmg hobj hints hlen hg=>?_
 have KX:=hY w _ Y
 obtain⟨fd,hb,hF⟩:=F w mg fa _ KX G.T.g hmg
 exact zEA KX G.T.g G.T.b G.T.builtins G.T.nolimit hg hobj hints (Nat.le_trans hlen hn2) hr hF hb (λH hO hS=>hsp w H a ns hlen hO hS) λH e s'=>hCX w H s₁ e s'
end L2
namespace L2
open PySem PySem.Spec PyProof.Rows
def dI(s:Stmt):Arguments:=match s with
 |.FunctionDef _ a _ _ _ _ _ _ _ _=>a
 |_=>{posonlyargs:=[],args:=[],vararg:=none,kwonlyargs:=[],kw_defaults:=[],kwarg:=none,defaults:=[]}
def cF(s:Stmt):List Stmt:=match s with
 |.FunctionDef _ _ b _ _ _ _ _ _ _=>b
 |_=>[]
def aI(s:Stmt):Scope:=match s with
 |.FunctionDef _ _ _ _ _ _ sc _ _ _=>sc
 |_=>{kind:=.function,names:=[],isGenerator:=false,isCoroutine:=false}
abbrev CX0:CXT:=λ_ _ _ _ _ _=>False
abbrev E0:XK:=λ_ _ _=>False
theorem zAR{X:Cx}:oE CX0 X E0:=λ_ _ _ _ _ _ _ h=>h.elim
structure Fun (K:W.Frag) (x qual:Str) (st:Stmt) (f:Addr) (fd:FuncData):Prop where
 ex:∃(oc:Value) (od:Option Addr) (kV doc pm:Value) (an:Option Addr) (cdv ct:Value) (osl:Array (Option Value)),
  fd=W.fnOf x qual (dI st) (cF st) (aI st) .none kV doc pm an cdv ct/\K.lookup f=some ⟨oc,od,.func fd,osl⟩/\W.codeIn K cdv qual=true
 kp:W.keepIn K (.ref f)=true
section
variable{P:Program}{w:World}{K:W.Frag}{mg:Str->Option Value}{base:Heap}
theorem Fun.ok{x qual:Str}{st:Stmt}{f:Addr}{fd:FuncData}{N ps:List Str}{k:Nat}{sp:Sp}(F:Fun K x qual st f fd)(S:bN N ps (aI st))(len:∀vs H Q E,sp vs H Q E->vs.length=ps.length)
  (hbody:∀(cdv:Value) (A:Around) (outer:List Env) (s:Shared) (H:Hp) (vs:List V) (Q:VK) (E:XK),Room k (A.deeper (envOfC qual (aI st) s.heap.objs.size f cdv))->sp vs H Q E ->
   ∃t,PSs (eK CX0 P w K mg base N qual (aI st) f cdv A outer s H E).nox (cF st) t/\t {nx:=λ_ H'=>Q .non H',rt:=Q} (cZ N vs) H):FnOk P w K mg base CX0 (k+1) f fd ps sp:=by
 obtain⟨oc,od,kV,doc,pm,an,cdv,ct,osl,rfl,lk,hcd⟩:=F.ex
 refine zIR lk hcd S len λA outer s H vs Q E hr hsp=>?_
 obtain⟨t,h,q⟩:=hbody cdv A outer s H vs Q E hr hsp
 exact⟨t,h.nox,q⟩
theorem Fun.binds{x qual:Str}{st:Stmt}{f:Addr}{fd:FuncData}{ps:List Str}(F:Fun K x qual st f fd)
  (h:∀(kV doc pm:Value) (an:Option Addr) (cdv ct:Value) (us:List Value),us.length=ps.length->bindArgs (W.fnOf x qual (dI st) (cF st) (aI st) .none kV doc pm an cdv ct) ⟨us,[]⟩=pure (ps.zip us)):Binds K fd ps []:=by
 obtain⟨oc,od,kV,doc,pm,an,cdv,ct,osl,rfl,lk,hcd⟩:=F.ex
 exact .all (h kV doc pm an cdv ct)
theorem zAE{x qual:Str}{st:Stmt}{f:Addr}{oc:Value}{od an:Option Addr}{osl:Array (Option Value)}{kV doc pm cdv ct:Value}(l:K.lookup f=some ⟨oc,od,.func (W.fnOf x qual (dI st) (cF st) (aI st) .none kV doc pm an cdv ct),osl⟩)
  (c:W.codeIn K cdv qual=true) (k:W.keepIn K (.ref f)=true):Fun K x qual st f (W.fnOf x qual (dI st) (cF st) (aI st) .none kV doc pm an cdv ct):=⟨⟨oc,od,kV,doc,pm,an,cdv,ct,osl,rfl,l,c⟩,k⟩
end
theorem zAW{A:Around}{k:Nat}(hr:Room k A):A.units+1<cLine:=Nat.lt_of_le_of_lt (Nat.add_le_add_left (by decide:1<=64) _) hr.units
theorem zC6{n:Nat}(h:n<=1000):n<sizeLine:=Nat.lt_of_le_of_lt h (by decide)
section
variable{X:Cx}
theorem pv(i:Nat){x:Str}{pos:Pos}(hN:X.N[i]?=some x:=by rfl)(hv:Vis X.env.scope x:=by first|exact Or.inl rfl|exact Or.inr (Or.inl rfl)|exact Or.inr (Or.inr rfl))(hd:(x==("__debug__":Str))=false:=by decide)
  (hcd:(x==("__classdict__":Str))=false:=by decide):PE X (.Name x pos) (zA1 i):=hZ hN hv hd hcd
end
theorem aK{A B:Prop}(h:B):if false=true then A else B:=by
 rw[if_neg Bool.false_ne_true]
 exact h
theorem aZ{A B:Prop}(h:A):if true=true then A else B:=by
 rw[if_pos rfl]
 exact h
theorem zJC{c A B:Prop}[Decidable c](h1:c->A)(h2:¬ c->B):if c then A else B:=by
 by_cases h:c
 ·rw[if_pos h]
  exact h1 h
 ·rw[if_neg h]
  exact h2 h
def Same(H H':Hp):Prop:=∀b o,H b=some o->H' b=some o
theorem Same.refl(H:Hp):Same H H:=λ_ _ h=>h
theorem Same.trans{H H1 H2:Hp}(a:Same H H1)(b:Same H1 H2):Same H H2:=λc o h=>b c o (a c o h)
theorem Same.free{H H':Hp}(e:Same H H'){l:Addr}(h:H' l=Option.none):H l=Option.none:=by
 cases q:H l with
 |none=>rfl
 |some o=>
  rw[e l o q]at h
  cases h
end L2
namespace L2
open PySem PySem.Spec PyProof.Rows
theorem pK{env:Env}:∀(names:List (Str×NameKind)) (acc:List (Str×Addr)),(∀y∈names,y.2=.free->∃c,env.cells.lookup y.1=some c) ->
  ∃cl,(forIn names acc (λ(x:Str×NameKind) (cs:List (Str×Addr))=>if (x.2==NameKind.free)=true then(do let c <- cellOf env x.1;pure (ForInStep.yield ((x.1,c)::cs))) else pure (ForInStep.yield cs)):Sem (List (Str×Addr)))=pure cl /\
   (∀x c,cl.lookup x=some c->env.cells.lookup x=some c\/acc.lookup x=some c)/\(∀x c,acc.lookup x=some c->∃c',cl.lookup x=some c')/\∀y∈names,y.2=.free->∃c,cl.lookup y.1=some c
 |[],acc,_=>⟨acc,rfl,λ_ _ h=>.inr h,λ_ c h=>⟨c,h⟩,λ_ h=>nomatch h⟩
 |(n,k)::r,acc,h=>by
  rw[List.forIn_cons]
  by_cases hk:k=.free
  ·subst hk
   obtain⟨c,hc⟩:=h (n,.free) List.mem_cons_self rfl
   obtain⟨cl,h1,h2,h3,h4⟩:=pK r ((n,c)::acc) λy hy=>h y (List.mem_cons_of_mem _ hy)
   refine⟨cl,?_,λx d e=>?_,λx d e=>?_,λy hy e=>?_⟩
   ·have e1:cellOf env n=pure c:=by unfold cellOf;rw[hc]
    simp only[beq_self_eq_true,if_true,e1,pure_bind]
    exact h1
   ·rcases h2 x d e with z|z
    ·exact .inl z
    ·rw[List.lookup_cons]at z
     split at z
     ·rename_i hx
      cases z
      have:x=n:=eq_of_beq hx
      subst this
      exact .inl hc
     ·exact .inr z
   ·refine h3 x (if x==n then c else d) ?_
    rw[List.lookup_cons]
    cases hx:x==n with
    |true=>simp[hx]
    |false=>simp[hx,e]
   ·rcases List.mem_cons.mp hy with z|z
    ·subst z
     exact h3 n c (by simp[List.lookup_cons])
    ·exact h4 y z e
  ·have hb:(k==NameKind.free)=false:=by simpa using hk
   obtain⟨cl,h1,h2,h3,h4⟩:=pK r acc λy hy=>h y (List.mem_cons_of_mem _ hy)
   refine⟨cl,?_,h2,h3,λy hy e=>?_⟩
   ·simp only[hb,Bool.false_eq_true,if_false,pure_bind]
    exact h1
   ·rcases List.mem_cons.mp hy with z|z
    ·subst z
     exact absurd e hk
    ·exact h4 y z e
theorem vV{scope:Scope}{env:Env}(h:∀y∈scope.names,y.2=.free->∃c,env.cells.lookup y.1=some c):
  ∃cl,closureFor scope env=pure cl/\(∀x c,cl.lookup x=some c->env.cells.lookup x=some c)/\∀y∈scope.names,y.2=.free->∃c,cl.lookup y.1=some c:=by
 obtain⟨cl,h1,h2,h3,h4⟩:=pK scope.names [] h
 refine⟨cl,?_,λx c e=>(h2 x c e).elim id λz=>(by cases z),h4⟩
 unfold closureFor
 refine Eq.trans ?_ h1
 refine Eq.trans (bind_pure _) ?_
 rfl
theorem uQ{env:Env}:∀{names:List (Str×NameKind)}{x:Str},names.lookup x=some .free ->
  (names.map λ(n,k)=>if (k==NameKind.free&&env.scope.kind==.function&&env.kindOf n==some .cell) then(n,NameKind.cell) else(n,k)).lookup x=some .cell \/
  (names.map λ(n,k)=>if (k==NameKind.free&&env.scope.kind==.function&&env.kindOf n==some .cell) then(n,NameKind.cell) else(n,k)).lookup x=some .free
 |[],_,h=>by simp at h
 |(n,k)::r,x,h=>by
  have ih:=@uQ env r x
  show List.lookup x ((if (k==NameKind.free&&env.scope.kind==.function&&env.kindOf n==some .cell)=true then(n,NameKind.cell) else(n,k))::_)=_\/List.lookup x ((if (k==NameKind.free&&env.scope.kind==.function&&env.kindOf n==some .cell)=true then(n,NameKind.cell) else(n,k))::_)=_
  by_cases hc:(k==NameKind.free&&env.scope.kind==.function&&env.kindOf n==some .cell)=true
  ·rw[if_pos hc]
   cases hx:x==n with
   |true=>simp only[List.lookup_cons,hx];exact .inl trivial
   |false=>
    simp only[List.lookup_cons,hx]at h ⊢
    exact ih h
  ·rw[if_neg hc]
   cases hx:x==n with
   |true=>
    simp only[List.lookup_cons,hx]at h ⊢
    exact .inr h
   |false=>
    simp only[List.lookup_cons,hx]at h ⊢
    exact ih h
theorem vG{env:Env}{names:List (Str×NameKind)}(hn:∀y∈names,y.2≠.cell){x:Str}{k:NameKind}(hk:k=.cell\/k=.free)
  (h:(names.map λ(n,k)=>if (k==NameKind.free&&env.scope.kind==.function&&env.kindOf n==some .cell) then(n,NameKind.cell) else(n,k)).lookup x=some k):(x,NameKind.free)∈names:=by
 obtain⟨⟨n,k'⟩,hm,e⟩:=List.mem_map.mp (PySem.mem_of_lookup h)
 simp only at e
 split at e
 ·rename_i hc
  rw[Bool.and_eq_true,Bool.and_eq_true]at hc
  have:k'=.free:=eq_of_beq hc.1.1
  subst this
  injection e with e1 _
  subst e1
  exact hm
 ·injection e with e1 e2
  subst e1 e2
  rcases hk with z|z
  ·exact absurd z (hn _ hm)
  ·subst z;exact hm
def bM(X:Cx)(N:List Str)(scope:Scope)(cl:List (Str×Addr))(C:Addr)(fp:List Addr)(s:Shared)(H:Hp):Cx where
 prog:=X.prog
 w:=X.w
 K:=X.K
 mg:=X.mg
 base:=X.base
 A:=X.A
 N:=N
 s₀:=s
 H₀:=H
 env:=compEnvC scope cl C X.env
 outer:=X.stack
 stack:=X.stack
 ex:=fp
 fn:=λ_=>false
 calm:=X.calm
 pn:=[]
 xe:=λ_ _=>False
structure iL (sc:Scope) (XN N:List Str) (own:Nat) (fr:List Nat) (scope:Scope):Prop where
 kind:scope.kind=.function
 nocell:∀y∈scope.names,y.2≠.cell
 free:∀y∈scope.names,y.2=.free->sc.names.lookup y.1=some .cell\/sc.names.lookup y.1=some .free
 loc:∀y∈scope.names,y.2=.local->scope.names.lookup y.1=some .local
 names:N.drop own=fr.filterMap λi=>XN[i]?
 frl:∀i∈fr,i<XN.length
 len:own<=N.length
 vis:∀x∈N.drop own,scope.names.lookup x=some .free
def σf(fr:List Nat)(σ:St):St:=fr.map λi=>σ.getD i none
def σc(own:Nat)(fr:List Nat)(σ:St):St:=List.replicate own none++σf fr σ
section
variable{X:Cx}{pins:List (Addr×Obj)}{σ:St}{H:Hp}{s:Shared}{N:List Str}{own:Nat}{fr:List Nat}{scope:Scope}
theorem uV{XN:List Str}:∀{fr:List Nat},(∀i∈fr,i<XN.length)->∀(j:Nat),(fr.filterMap λi=>XN[i]?)[j]?=(fr[j]?).bind λi=>XN[i]?
 |[],_,j=>by simp
 |i::r,h,j=>by
  have hi:i<XN.length:=h i List.mem_cons_self
  rw[List.filterMap_cons,List.getElem?_eq_getElem hi]
  cases j with
  |zero=>simp[hi]
  |succ j=>simpa using uV (λk hk=>h k (List.mem_cons_of_mem _ hk)) j
theorem zEC{cl:List (Str×Addr)}{fp:List Addr}{h':Heap}(I:Inv X pins σ H s)(S:iL X.env.scope X.N N own fr scope)(hcl:∀x c,cl.lookup x=some c->X.env.cells.lookup x=some c)
  (hcf:∀y∈scope.names,y.2=.free->∃c,cl.lookup y.1=some c) (hfp:∀b∈fp,dQ X pins H b) (hfo:∀b∈fp,∃o,s.heap.get? b=some o)
  (hns:h'.Ns s.heap.objs.size λ_=>none) (hk:∀b o,s.heap.get? b=some o->h'.get? b=some o):
  Inv (bM X N scope cl s.heap.objs.size fp s H) [] (σc own fr σ) H {s with heap:=h'}:=by
 have kindE:∀x,(Env.kindOf (compEnvC scope cl s.heap.objs.size X.env) x)=(relabel scope X.env).names.lookup x:=λx=>rfl
 have memF:∀x,(Env.kindOf (compEnvC scope cl s.heap.objs.size X.env) x=some .cell\/Env.kindOf (compEnvC scope cl s.heap.objs.size X.env) x=some .free)->(x,NameKind.free)∈scope.names:=λx hx=>by
  rcases hx with z|z
  ·exact vG (env:=X.env) S.nocell (.inl rfl) z
  ·exact vG (env:=X.env) S.nocell (.inr rfl) z
 refine⟨⟨I.ok.mod,S.kind,I.ok.glob,I.ok.blt,Nat.le_refl _,λx y c h1 h2=>I.ok.inj x y c (hcl x c h1) (hcl y c h2),λx hx=>hcf (x,.free) (memF x hx) rfl,λx c h=>absurd (show false=true from h) (by decide),I.ok.hd,I.ok.frames,.inl rfl,λb hb=>?_,I.bs,Nat.le_trans I.ok.bsz I.sz,λb o e hb=>?_,λb hb z=>?_,I.stack,I.stkFree⟩,
  rfl,I.bare,Un.kept hk,⟨_,hns,λi x v e1 e2 e3=>?_⟩,λx c e=>?_,I.hok.fresh (Nat.le_refl _),λx c e=>I.freeC x c (hcl x c e),λp hp=>absurd (show p∈([]:List (Addr×Obj)) from hp) (by simp),I.hok.kept hk,?_⟩
 ·obtain⟨o,ho⟩:=hfo b hb
  exact⟨Nat.ne_of_lt (Heap.lt_size ho),λx c e=>(hfp b hb).2.2.2.2.1 x c (hcl x c e)⟩
 ·rcases (hfp b hb).2.2.2.1 with z|z
  ·exact I.ok.noex b o e z
  ·exact absurd (Nat.lt_of_lt_of_le (Heap.lt_size (I.ok.bs b o e).1) z) (Nat.lt_irrefl _)
 ·rcases List.mem_cons.mp (I.stkSub b z) with q|q
  ·exact(hfp b hb).2.1 q
  ·exact(hfp b hb).2.2.1 q
 ·have hi:own<=i:=by
   rcases Nat.lt_or_ge i own with z|z
   ·have e2':(σc own fr σ)[i]?=some (some v):=e2
    unfold σc at e2'
    rw[List.getElem?_append_left (by simpa using z),List.getElem?_replicate]at e2'
    split at e2'<;>cases e2'
   ·exact z
  have e2':(σf fr σ)[i-own]?=some (some v):=by
   have e2':(σc own fr σ)[i]?=some (some v):=e2
   unfold σc at e2'
   rw[List.getElem?_append_right (by simpa using hi)]at e2'
   simpa using e2'
  have e1':(N.drop own)[i-own]?=some x:=by
   have e1':N[i]?=some x:=e1
   rw[List.getElem?_drop]
   rw[show own+(i-own)=i by omega]
   exact e1'
  have hv:scope.names.lookup x=some .free:=S.vis x (List.mem_of_getElem? e1')
  have hx:X.env.scope.names.lookup x=some .cell\/X.env.scope.names.lookup x=some .free:=S.free (x,.free) (PySem.mem_of_lookup hv) rfl
  rw[S.names,uV S.frl]at e1'
  unfold σf at e2'
  rw[List.getElem?_map]at e2'
  cases q:fr[i-own]? with
  |none=>rw[q]at e2';cases e2'
  |some j=>
   rw[q]at e1' e2'
   have e1'':X.N[j]?=some x:=e1'
   have e2'':σ.getD j none=some v:=Option.some.inj e2'
   have e3':σ[j]?=some (some v):=by
    rw[List.getD_eq_getElem?_getD]at e2''
    cases z:σ[j]? with
    |none=>rw[z]at e2'';cases e2''
    |some y=>rw[z]at e2'';exact congrArg some e2''
   obtain⟨m,hn,hl⟩:=I.loc
   obtain⟨u,r,l⟩:=hl j x v e1'' e3' (.inr hx)
   refine⟨u,r,.inr ⟨uQ (env:=X.env) hv,?_⟩⟩
   rcases l with⟨k,_⟩|⟨_,c,hc,z⟩
   ·have k':X.env.scope.names.lookup x=some .local:=k
    rw[k']at hx
    rcases hx with z|z<;>cases z
   ·obtain⟨c',hc'⟩:=hcf (x,.free) (PySem.mem_of_lookup hv) rfl
    have:=hcl x c' hc'
    rw[hc]at this
    cases this
    exact⟨c,hc',z.keeps hk⟩
 ·obtain⟨v,z⟩:=I.cell x c (hcl x c e)
  exact⟨v,z.keeps hk⟩
 ·show(σc own fr σ).length=N.length
  unfold σc σf
  have h1:=congrArg List.length S.names
  have h2:(fr.filterMap λi=>X.N[i]?).length=fr.length:=by
   have:∀(l:List Nat),(∀i∈l,i<X.N.length)->(l.filterMap λi=>X.N[i]?).length=l.length:=by
    intro l
    induction l with
    |nil=>intro _;rfl
    |cons i r ih=>
     intro h
     rw[List.filterMap_cons,List.getElem?_eq_getElem (h i List.mem_cons_self)]
     simp[ih λk hk=>h k (List.mem_cons_of_mem _ hk)]
   exact this fr S.frl
  rw[List.length_drop,h2]at h1
  rw[List.length_append,List.length_replicate,List.length_map]
  have:=S.len
  omega
end
section
variable{prog:Program}{w:World}{A:Around}{R:Result->Shared->Prop}{s:Shared}
theorem zBX{elt target iter:Expr}{ifs:List Expr}{scope:Scope}{pos:Pos}{it acc:Value}{env:Env}(I:Nat->Shared->Prop)
  (turn:∀n s,I n s->wpAny (model prog w) A (pyNext it) (λr s₁=>match r with
   |none=>R (.ok .next) s₁
   |some v=>wpAny (model prog w) A (letOwnedTupleGo target it v) (λ_ s'=>wpAny (model prog w) A (assign target env v) (λ_ s₂=>
     wpAny (model prog w) A (forIn ifs true λc r=>if r=true then do let ok <- isTrue c env (eval c env);pure (ForInStep.yield ok) else pure (ForInStep.yield r)) (λok s₃=>
      if ok=true then wpAny (model prog w) A (eval elt env) (λx s₄=>
       wpAny (model prog w) A (call (.builtin "list.append") [acc,x]) (λ_ s₅=>∃m,m<n/\I m s₅) (λ_ _=>False) s₄) (λ_ _=>False) s₃
      else ∃m,m<n/\I m s₃) (λ_ _=>False) s₂) (λ_ _=>False) s') (λ_ _=>False) s₁) (λ_ _=>False) s)
  (n:Nat) (h:I n s):codeAny (model prog w) A (.compLoop (.ListComp elt [⟨target,iter,ifs,0⟩] scope pos) 0 it acc env) R s:=by
 refine codeAny_loop rfl I (λn s hI=>?_) n h
 show wpAny _ A ((compTurn (.ListComp elt [⟨target,iter,ifs,0⟩] scope pos) 0 it acc env).onRaise (λx=>do noteFrame x env;theTreesLotGoes x)) _ _ s
 refine wpAny_noted ?_
 rw[compTurn_list]
 refine wpAny_bind (wpAny_standAt (wpAny_bind (wpAny_mono (turn n s hI) (λr s₁ h₁=>?_) λ_ _ z=>False.elim z)))
 cases r with
 |none=>exact wpAny_pure h₁
 |some v=>
  refine wpAny_bind (wpAny_mono h₁ (λ_ s' h'=>?_) λ_ _ z=>False.elim z)
  refine wpAny_bind (wpAny_mono h' (λ_ s₂ h₂=>wpAny_bind (wpAny_mono h₂ (λok s₃ h₃=>?_) λ_ _ z=>False.elim z)) λ_ _ z=>False.elim z)
  cases ok with
  |false=>exact wpAny_pure ⟨rfl,h₃⟩
  |true=>
   exact wpAny_bind (wpAny_bind (wpAny_mono h₃ (λx s₄ h₄=>wpAny_bind (wpAny_mono h₄ (λ_ s₅ h₅=>wpAny_pure (wpAny_pure ⟨rfl,h₅⟩)) λ_ _ z=>False.elim z)) λ_ _ z=>False.elim z))
end
def zA0(J:It)(a:Addr)(own:Nat)(fr:List Nat)(g:TG)(tf:TT)(te:TE)(σ:St)(H1:Hp)(Q:VK):Prop:=
 ∃(n:Nat) (Pv:Nat->List V->Hp->Prop),Pv 0 [] (upd H1 a (.lst []))/\∀i ys H2,i<=n->H2 a=some (.lst ys)->Pv i ys H2 ->
  (J.stop i H2/\Q (.ref a) H2)\/(i<n/\J.go i H2/\∀x H3,J.yld i H2 x H3->g x (σc own fr σ) H3 λσ4 H4=>(∃ow,ow.length=own/\σ4=ow++σf fr σ)/\tf σ4 H4 λb H5=>
   if b=true then te σ4 H5 λy H6=>H6 a=some (.lst ys)/\ys.length<sizeLine/\Pv (i+1) (ys++[y]) (upd H6 a (.lst (ys++[y])))
   else H5 a=some (.lst ys)/\Pv (i+1) ys H5)
def PFs(X:Cx)(ifs:List Expr)(t:TT):Prop:=
 ∀(pins:List (Addr×Obj)) (s:Shared) (σ:St) (H:Hp) (Q:Bool->Hp->Prop),Inv X pins σ H s->t σ H Q ->
  wpAny (model X.prog X.w) X.A (forIn ifs true λc r=>if r=true then do let ok <- isTrue c X.env (eval c X.env);pure (ForInStep.yield ok) else pure (ForInStep.yield r)) (TP X pins σ Q) X.xe s
def zIa:TT:=λ_ H Q=>Q true H
theorem zHd{X:Cx}:PFs X [] zIa:=λpins s σ H Q I h=>wpAny_tests_nil ⟨H,I,h⟩
theorem zHc{X:Cx}{c:Expr}{t:TT}(h:PT X c t):PFs X [c] t:=λpins s σ H Q I hw=>wpAny_tests_one (h pins s σ H Q I hw)
section
variable{X:Cx}{pins:List (Addr×Obj)}{σ:St}{H:Hp}{s:Shared}{N:List Str}{own:Nat}{fr:List Nat}{scope:Scope}{cl:List (Str×Addr)}{elt tg iter:Expr}{ifs:List Expr}{pos:Pos}
 {it:Addr} {fp:List Addr} {tn:Nat->Heap->Prop} {J:It} {g:TG} {tf:TT} {te:TE} {Q:VK} {E:Value->Shared->Prop}
theorem vS{RR:Value->Addr->Result->Shared->Prop}(hc:X.calm=true)(S:iL X.env.scope X.N N own fr scope)(hcl:∀x c,cl.lookup x=some c->X.env.cells.lookup x=some c)
  (hcf:∀y∈scope.names,y.2=.free->∃c,cl.lookup y.1=some c)
  (hg:∀C s H,PG (bM X N scope cl C fp s H) tg g) (hf:∀C s H,PFs (bM X N scope cl C fp s H) ifs tf) (he:∀C s H,PE (bM X N scope cl C fp s H) elt te)
  (I:Inv X pins σ H s) (T:fX X.prog X.w X.K tg J fp it tn) (st:tn 0 s.heap) (hfp:∀b∈fp,dQ X pins H b) (hw:∀a,H a=none->zA0 J a own fr g tf te σ H Q)
  (hRR:∀a C s' H',Inv X pins σ H' s'->Q (.ref a) H'->dQ X pins H' C->(∃m,s'.heap.Ns C m)->RR (.ref a) C (.ok .next) s'):
  wpAny (model X.prog X.w) X.A (newList []) (λacc s₃=>wpAny (model X.prog X.w) X.A (newFunctionEnv scope X.env.globals cl [] X.env.qual none .none (some X.env)) (λcenv s₄=>
   codeAny (model X.prog X.w) X.A (.compStart (.ListComp elt [⟨tg,iter,ifs,0⟩] scope pos) 0 (.ref it) acc {cenv with scope:=relabel scope X.env}) (RR acc cenv.locals) s₄) E s₃) E s:=by
 refine wpAny_newObj_type (wpAny_newFunctionEnv S.nocell (by intro y hy;simp at hy) (λh₁ hns₁ hsb₁=>?_) S.kind)
 dsimp only at hns₁ hsb₁ ⊢
 have I3:Inv X pins σ (upd H s.heap.objs.size (.lst [])) {s with heap:=s.heap.push {cls:=.type "list",dict:=none,data:=.seq ([]:List Value).toArray}}:=I.lnew (ys:=[]) (t':=s.toks) .nil (Nat.zero_le _)
 have hfo:∀b∈fp,∃o,s.heap.get? b=some o:=λb hb=>let ⟨o,ho,_⟩:=T.obj _ _ st b hb;⟨o,ho⟩
 have hlt:∀b∈fp,b<s.heap.objs.size:=λb hb=>let ⟨o,ho⟩:=hfo b hb;Heap.lt_size ho
 have fp3:∀b∈fp,dQ X pins (upd H s.heap.objs.size (.lst [])) b:=λb hb=>⟨by rw[aY (Nat.ne_of_lt (hlt b hb))];exact(hfp b hb).1,(hfp b hb).2⟩
 obtain⟨n0,W,w0,turn⟩:=hw s.heap.objs.size I.fresh
 generalize hs3:({s with heap:=s.heap.push {cls:=.type "list",dict:=none,data:=.seq ([]:List Value).toArray}}:Shared)=s3 at I3
 have eh:s3.heap=s.heap.push {cls:=.type "list",dict:=none,data:=.seq ([]:List Value).toArray}:=by rw[<-hs3]
 rw[<-eh]at hns₁ hsb₁ ⊢
 have hk:∀b o,s3.heap.get? b=some o->h₁.get? b=some o:=λb o e=>hsb₁.extBut b o (Nat.ne_of_lt (Heap.lt_size e)) (Heap.get?_push_of_some _ e)
 have hk0:∀b o,s.heap.get? b=some o->s3.heap.get? b=some o:=λb o e=>by rw[eh];exact Heap.get?_push_of_some _ e
 have J0:Inv (bM X N scope cl s3.heap.objs.size fp s3 (upd H s.heap.objs.size (.lst []))) [] (σc own fr σ) (upd H s.heap.objs.size (.lst [])) {s3 with heap:=h₁}:=
  zEC I3 S hcl hcf fp3 (λb hb=>let ⟨o,ho⟩:=hfo b hb;⟨o,hk0 b o ho⟩) hns₁ hk
 have st0:tn 0 h₁:=T.keep _ _ _ st λb _ o e=>hk b o (hk0 b o e)
 have stat:∀{H':Hp},(∀b∈fp,H' b=none)->∀b∈fp,dQ (bM X N scope cl s3.heap.objs.size fp s3 (upd H s.heap.objs.size (.lst []))) [] H' b:=λhn b hb=>
  ⟨hn b hb,(J0.ok.exf b hb).1,J0.ok.exfs b hb,.inl hb,(J0.ok.exf b hb).2,λp hp=>absurd (show p∈([]:List (Addr×Obj)) from hp) (by simp)⟩
 have loop:∀s4:Shared,s4={s3 with heap:=h₁}->codeAny (model X.prog X.w) X.A (.compLoop (.ListComp elt [⟨tg,iter,ifs,0⟩] scope pos) 0 (.ref it) (.ref s.heap.objs.size) (compEnvC scope cl s3.heap.objs.size X.env))
   (RR (.ref s.heap.objs.size) s3.heap.objs.size) s4:=by
  rintro s4 rfl
  refine zBX (λn s'=>∃i ow H' ys,Inv (bM X N scope cl s3.heap.objs.size fp s3 (upd H s.heap.objs.size (.lst []))) [] (ow++σf fr σ) H' s'/\ow.length=own/\tn i s'.heap/\(∀b∈fp,H' b=none)/\H' s.heap.objs.size=some (.lst ys)/\(n=n0-i/\i<=n0)/\W i ys H') ?_ n0
   ⟨0,List.replicate own none,_,[],J0,by simp,st0,λb hb=>(fp3 b hb).1,aT,⟨rfl,Nat.zero_le _⟩,w0⟩
  rintro n s5 ⟨i,ow,H5,ys,I5,hlo,st5,fr5,ha5,⟨rfl,hi5⟩,w5⟩
  rcases turn i ys H5 hi5 ha5 w5 with⟨stop,qn⟩|⟨hin,go,step⟩
  ·refine thn (T.done (bM X N scope cl s3.heap.objs.size fp s3 (upd H s.heap.objs.size (.lst []))) rfl rfl rfl hc i [] s5 _ H5 (λ_ _=>False) I5 (stat fr5) st5 stop) λr s6 ⟨hr,I6⟩=>?_
   subst hr
   have IX:Inv X pins σ H5 s6:=I3.call' I6.os I6.base I6.hok I6.bare λb hb=>let ⟨_,f2,_,f4,f5,f6⟩:=fp3 b hb;⟨f4,f2,f5,f6⟩
   refine hRR _ _ s6 H5 IX qn (I3.fpOk (Nat.le_refl _) I6.free) ?_
   obtain⟨m,hn,_⟩:=I6.loc
   exact⟨m,hn⟩
  ·refine thn (T.item (bM X N scope cl s3.heap.objs.size fp s3 (upd H s.heap.objs.size (.lst []))) rfl rfl rfl hc i [] s5 _ H5 (λ_ _=>False) I5 (stat fr5) st5 go) λr s6 ⟨u,hr,h6⟩=>?_
   subst hr
   refine thn h6 λ_ s7 ⟨x,H7,I7,r7,y7,st7,fr7⟩=>?_
   have I7':=(I7.pinned (stat fr7) (T.obj _ _ st7)).weak (σ':=σc own fr σ) (by unfold σc;simp[hlo]) (λj v e=>by
    unfold σc at e
    rcases Nat.lt_or_ge j own with z|z
    ·rw[List.getElem?_append_left (by simpa using z),List.getElem?_replicate]at e
     split at e<;>cases e
    ·rw[List.getElem?_append_right (by simpa using z)]at e
     rw[List.getElem?_append_right (by rw[hlo];exact z),hlo]
     simpa using e)
   refine thn (hg _ _ _ _ s7 _ H7 x u _ I7' r7 (step x H7 y7)) λ_ s8 ⟨σ8,H8,I8,⟨ow8,hl8,e8⟩,q8⟩=>?_
   refine thn (hf _ _ _ _ s8 _ H8 _ I8 q8) λok s9 ⟨H9,I9,q9⟩=>?_
   have again:∀{H':Hp} {s':Shared},Inv (bM X N scope cl s3.heap.objs.size fp s3 (upd H s.heap.objs.size (.lst []))) ([]++lN fp s7.heap) σ8 H' s'->∀{ys':List V},H' s.heap.objs.size=some (.lst ys')->W (i+1) ys' H' ->
     ∃m,m<n0-i/\∃i ow H' ys,Inv (bM X N scope cl s3.heap.objs.size fp s3 (upd H s.heap.objs.size (.lst []))) [] (ow++σf fr σ) H' s'/\ow.length=own/\tn i s'.heap/\(∀b∈fp,H' b=none)/\H' s.heap.objs.size=some (.lst ys)/\(m=n0-i/\i<=n0)/\W i ys H':=λ{H' s'} I' {ys'} ha hw'=>by
    refine⟨n0-(i+1),by omega,i+1,ow8,H',ys',e8▸I'.unpinned,hl8,T.keep _ _ _ st7 λb hb o e=>(I'.pin (b,o) (List.mem_append_right _ (List.mem_append_right _ (mO hb e)))).1,λb hb=>?_,ha,⟨rfl,hin⟩,hw'⟩
    obtain⟨o,e,_⟩:=T.obj _ _ st7 b hb
    exact(I'.pin (b,o) (List.mem_append_right _ (List.mem_append_right _ (mO hb e)))).2.1
   cases ok with
   |false=>
    have q9':H9 s.heap.objs.size=some (.lst ys)/\W (i+1) ys H9:=by simpa using q9
    obtain⟨ha,hw'⟩:=q9'
    show if false=true then _ else _
    rw[if_neg (by decide)]
    exact again I9 ha hw'
   |true=>
    rw[if_pos rfl]at q9
    show if true=true then _ else _
    rw[if_pos rfl]
    refine thn (he _ _ _ _ s9 _ H9 _ I9 q9) λy s10 ⟨v10,H10,I10,r10,ha10,hz10,hw'⟩=>?_
    refine thn (qE _ s10 _ H10 (.ref s.heap.objs.size) [v10] (.ref s.heap.objs.size) [y] (λ_ H'=>H'=upd H10 s.heap.objs.size (.lst (ys++[v10]))) I10 rfl (.cons r10 .nil) ⟨_,ys,v10,rfl,rfl,ha10,hz10,rfl⟩) λ_ s11 ⟨_,H11,I11,_,e11⟩=>?_
    subst e11
    exact again I11 aT hw'
 exact codeAny_compStart_list (loop _ (by rw[<-hs3];rfl)) (T.self X.A 0 _ _ _ st0 (loop _ (by rw[<-hs3];rfl)))
end
def sW(own:Nat)(fr:List Nat)(wi:TI)(g:TG)(tf:TT)(te:TE):TE:=λσ H Q=>wi σ H λJ H1=>∀a,H1 a=none->zA0 J a own fr g tf te σ H1 Q
section
variable{X:Cx}{sc:Scope}{XN N:List Str}{own:Nat}{fr:List Nat}{scope:Scope}{elt tg iter:Expr}{ifs:List Expr}{pos:Pos}{wi:TI}{g:TG}{tf:TT}{te:TE}
theorem zFE(hc:X.calm=true)(S:iL sc XN N own fr scope)(hi:PI X tg iter wi)
  (hg:∀cl C fp s H,PG (bM X N scope cl C fp s H) tg g) (hf:∀cl C fp s H,PFs (bM X N scope cl C fp s H) ifs tf) (he:∀cl C fp s H,PE (bM X N scope cl C fp s H) elt te)
  (hs:∀x,foldedSetIterable iter X.env x=pure x:=by intro _;rfl) (hsc:X.env.scope=sc:=by rfl) (hxn:X.N=XN:=by rfl):PE X (.ListComp elt [⟨tg,iter,ifs,0⟩] scope pos) (sW own fr wi g tf te):=by
 subst hsc hxn
 intro pins s σ H Q I h
 obtain⟨cl,c1,c2,c3⟩:=vV (scope:=scope) (env:=X.env) λy hy e=>I.ok.has y.1 (S.free y hy e)
 rw[eval_ListComp]
 refine wpAny_comprehension_free (use:=none) rfl hs c1 S.kind S.loc (thn (hi pins s σ H _ I h) λxv s1 h1=>thn h1 λitv s2 h2=>?_)
 obtain⟨it,fp,tn,J,H2,e,I2,T,st2,f2,hw⟩:=h2
 subst e
 refine vS hc S c2 c3 (λC s H=>hg cl C fp s H) (λC s H=>hf cl C fp s H) (λC s H=>he cl C fp s H) I2 T st2 f2 hw λa C s' H' I' q fC ⟨m,hn⟩=>?_
 refine⟨m,hn,λh' hs'=>?_⟩
 obtain⟨f0,f1,_,f3,f4,f5⟩:=fC
 exact⟨.ref a,H',I'.turned (t':=s'.toks) (λb o hb e=>hs'.extBut b o hb e) f0 f1 f3 f4 f5,rfl,q⟩
theorem zE{i:Nat}{x:Str}{pos' spos:Pos}(hc:X.calm=true)(hN:X.N.Nodup)(hx:X.N[i]?=some x)(hl:Loc X.env.scope x)(S:iL sc XN N own fr scope)(hi:PI X tg iter wi)
  (hg:∀cl C fp s H,PG (bM X N scope cl C fp s H) tg g) (hf:∀cl C fp s H,PFs (bM X N scope cl C fp s H) ifs tf) (he:∀cl C fp s H,PE (bM X N scope cl C fp s H) elt te)
  (hsw:swapsWith (.ListComp elt [⟨tg,iter,ifs,0⟩] scope pos) (some (.Name x pos')) spos.line X.env=pure true:=by rfl)
  (hf':X.fn x=true\/X.env.scope.names.lookup x=some .local:=by first|exact .inl rfl|exact .inr rfl|assumption)
  (hs:∀x,foldedSetIterable iter X.env x=pure x:=by intro _;rfl) (hsc:X.env.scope=sc:=by rfl) (hxn:X.N=XN:=by rfl):PS X (.Assign [.Name x pos'] (.ListComp elt [⟨tg,iter,ifs,0⟩] scope pos) spos) (oV (sW own fr wi g tf te) (oP i)):=by
 subst hsc hxn
 intro pins s σ H D I h
 obtain⟨cl,c1,c2,c3⟩:=vV (scope:=scope) (env:=X.env) λy hy e=>I.ok.has y.1 (S.free y hy e)
 rw[exec_Assign_Name_used _ _ _ _ hsw]
 refine wpAny_bind (wpAny_standAt (wpAny_bind ?_))
 show wpAny _ X.A (do let _ <- comprehension (.ListComp elt [⟨tg,iter,ifs,0⟩] scope pos) scope X.env _ (newList []) false (eval iter X.env) (some (assign (.Name x pos') X.env))) _ _ s
 refine wpAny_bind (wpAny_mono (wpAny_comprehension_free (use:=some (assign (.Name x pos') X.env)) (Q:=λ_ s'=>SP X pins D .next s') rfl hs c1 S.kind S.loc
  (thn (hi pins s σ H _ I h) λxv s1 h1=>thn h1 λitv s2 h2=>?_)) (λ_ s' hq=>wpAny_pure (wpAny_pure hq)) λ_ _ e=>e)
 obtain⟨it,fp,tn,J,H2,e,I2,T,st2,f2,hw⟩:=h2
 subst e
 refine vS hc S c2 c3 (λC s H=>hg cl C fp s H) (λC s H=>hf cl C fp s H) (λC s H=>he cl C fp s H) I2 T st2 f2 hw λa C s' H' I' q fC ⟨m,hn⟩=>?_
 obtain⟨f0,f1,f2',f3,f4,f5⟩:=fC
 show wpAny _ _ (assign (.Name x pos') X.env (.ref a)) _ _ _
 refine wpAny_assign_Name (wC I' hN hx hl (show RelV (.ref a) (.ref a) from rfl) (λs2 J2 ⟨b,hb,hb'⟩=>?_) hf')
 have hbC:C≠b:=by
  rcases hb' with z|z
  ·rw[z];exact f1
  ·exact λe=>f4 _ _ z e.symm
 refine⟨m,hn.sameBut hb hbC,λh' hs'=>?_⟩
 exact⟨_,H',J2.turned (t':=s2.toks) (λb o hb e=>hs'.extBut b o hb e) f0 f1 f3 f4 f5,q⟩
end
end L2
namespace L2
open PySem PySem.Spec PyProof.Rows
section
variable{X:Cx}
def TyV(K:W.Frag)(T:String)(x:V)(H:Hp)(b:Bool):Prop:=match x with
 |.non=>b=false
 |.bl _=>b=(T=="bool" || T=="int")
 |.int _=>b=(T=="int")
 |.str _=>b=(T=="str")
 |.ref a=>(∃xs,SqL K H a xs/\b=(T=="list"))\/(∃xs,SqT K H a xs/\b=(T=="tuple"))\/(∃kvs,Rd H a (.dK kvs)/\b=(T=="dict"))
 |_=>False
theorem jO{prog:Program}{w:World}{A:Around}{E:Value->Shared->Prop}{s:Shared}{Q:Value->Shared->Prop}{T:String}(hne:(Value.type "NoneType"==Value.type T)=false)(hty:typeOf (.type T)=pure (.type "type"))
  (hsub:isSubtype (.type "NoneType") (.type T)=pure false) (h:Q (.bool false) {s with toks:=s.toks+1}):wpAny (model prog w) A (call (.builtin "isinstance") [.none,.type T]) Q E s:=
 call_isinstance (S:=λ_ R s=>R (.ok (.ret (.bool false))) {s with toks:=s.toks+1}) (λ_ _ _ _ s hs=>by
  obtain⟨h,g,d,t,os⟩:=s
  exact isinstance_outer (isinstance_nested_false_none hne hty hsub hs)) h
theorem Inv.lcls{pins:List (Addr×Obj)}{σ:St}{H:Hp}{s:Shared}{a:Addr}{xs:List V}(I:Inv X pins σ H s)(h:SqL X.K H a xs):∃o,s.heap.get? a=some o/\o.cls=.type "list":=by
 obtain⟨its,r,pl,hz⟩:=I.list h
 obtain⟨o,ho,hc,_⟩:=pl.isList
 exact⟨o,ho,hc⟩
theorem Inv.tcls{pins:List (Addr×Obj)}{σ:St}{H:Hp}{s:Shared}{a:Addr}{xs:List V}(I:Inv X pins σ H s)(h:SqT X.K H a xs):∃o,s.heap.get? a=some o/\o.cls=.type "tuple":=by
 obtain⟨its,r,⟨o,ho,hc,_⟩,hz⟩:=I.tuple h
 exact⟨o,ho,hc⟩
theorem Inv.dcls{pins:List (Addr×Obj)}{σ:St}{H:Hp}{s:Shared}{a:Addr}{kvs:List (Key×V)}(I:Inv X pins σ H s)(h:Rd H a (.dK kvs)):∃o,s.heap.get? a=some o/\o.cls=.type "dict":=by
 obtain⟨_,_,vs,_,dd⟩:=h.ok I.hok
 obtain⟨o,ho,hc⟩:=dd.typeIs
 exact⟨o,ho,hc⟩
theorem iJ:CallR X (.builtin "isinstance") (λxs H Q=>∃x b,xs=[x,.ty "int"]/\TyV X.K "int" x H b/\Q (.bl b) H):=by
 intro pins s σ H xs us Q I r h
 obtain⟨x,b,rfl,hx,q⟩:=h
 obtain⟨u,w',rfl,rx,ry⟩:=gI r
 cases ry
 cases x with
 |non=>cases rx;cases hx;exact jO (by decide +kernel) F.isi_meta_int F.sub_NoneType_int ⟨.bl _,H,I.tok _,rfl,q⟩
 |bl k=>cases rx;cases hx;exact IsiPair.bool_int ⟨.bl _,H,I,rfl,q⟩
 |int i=>obtain⟨t,rfl⟩:=rx;cases hx;exact IsiPair.int_int ⟨.bl _,H,I,rfl,q⟩
 |str i=>obtain⟨t,rfl⟩:=rx;cases hx;exact IsiPair.str_int ⟨.bl _,H,I.tok _,rfl,q⟩
 |ref a=>
  cases rx
  rcases hx with⟨xs,hx,rfl⟩|⟨xs,hx,rfl⟩|⟨xs,hx,rfl⟩
  ·obtain⟨o,ho,hc⟩:=I.lcls hx;exact IsiPair.list_int ho hc ⟨.bl _,H,I.tok _,rfl,q⟩
  ·obtain⟨o,ho,hc⟩:=I.tcls hx;exact IsiPair.tuple_int ho hc ⟨.bl _,H,I.tok _,rfl,q⟩
  ·obtain⟨o,ho,hc⟩:=I.dcls hx;exact IsiPair.dict_int ho hc ⟨.bl _,H,I.tok _,rfl,q⟩
 |_=>exact False.elim hx
theorem gV:CallR X (.builtin "isinstance") (λxs H Q=>∃x b,xs=[x,.ty "bool"]/\TyV X.K "bool" x H b/\Q (.bl b) H):=by
 intro pins s σ H xs us Q I r h
 obtain⟨x,b,rfl,hx,q⟩:=h
 obtain⟨u,w',rfl,rx,ry⟩:=gI r
 cases ry
 cases x with
 |non=>cases rx;cases hx;exact jO (by decide +kernel) F.isi_meta_bool F.sub_NoneType_bool ⟨.bl _,H,I.tok _,rfl,q⟩
 |bl k=>cases rx;cases hx;exact IsiPair.bool_bool ⟨.bl _,H,I,rfl,q⟩
 |int i=>obtain⟨t,rfl⟩:=rx;cases hx;exact IsiPair.int_bool ⟨.bl _,H,I.tok _,rfl,q⟩
 |str i=>obtain⟨t,rfl⟩:=rx;cases hx;exact IsiPair.str_bool ⟨.bl _,H,I.tok _,rfl,q⟩
 |ref a=>
  cases rx
  rcases hx with⟨xs,hx,rfl⟩|⟨xs,hx,rfl⟩|⟨xs,hx,rfl⟩
  ·obtain⟨o,ho,hc⟩:=I.lcls hx;exact IsiPair.list_bool ho hc ⟨.bl _,H,I.tok _,rfl,q⟩
  ·obtain⟨o,ho,hc⟩:=I.tcls hx;exact IsiPair.tuple_bool ho hc ⟨.bl _,H,I.tok _,rfl,q⟩
  ·obtain⟨o,ho,hc⟩:=I.dcls hx;exact IsiPair.dict_bool ho hc ⟨.bl _,H,I.tok _,rfl,q⟩
 |_=>exact False.elim hx
theorem iI:CallR X (.builtin "isinstance") (λxs H Q=>∃x b,xs=[x,.ty "str"]/\TyV X.K "str" x H b/\Q (.bl b) H):=by
 intro pins s σ H xs us Q I r h
 obtain⟨x,b,rfl,hx,q⟩:=h
 obtain⟨u,w',rfl,rx,ry⟩:=gI r
 cases ry
 cases x with
 |non=>cases rx;cases hx;exact jO (by decide +kernel) F.isi_meta_str F.sub_NoneType_str ⟨.bl _,H,I.tok _,rfl,q⟩
 |bl k=>cases rx;cases hx;exact IsiPair.bool_str ⟨.bl _,H,I.tok _,rfl,q⟩
 |int i=>obtain⟨t,rfl⟩:=rx;cases hx;exact IsiPair.int_str ⟨.bl _,H,I.tok _,rfl,q⟩
 |str i=>obtain⟨t,rfl⟩:=rx;cases hx;exact IsiPair.str_str ⟨.bl _,H,I,rfl,q⟩
 |ref a=>
  cases rx
  rcases hx with⟨xs,hx,rfl⟩|⟨xs,hx,rfl⟩|⟨xs,hx,rfl⟩
  ·obtain⟨o,ho,hc⟩:=I.lcls hx;exact IsiPair.list_str ho hc ⟨.bl _,H,I.tok _,rfl,q⟩
  ·obtain⟨o,ho,hc⟩:=I.tcls hx;exact IsiPair.tuple_str ho hc ⟨.bl _,H,I.tok _,rfl,q⟩
  ·obtain⟨o,ho,hc⟩:=I.dcls hx;exact IsiPair.dict_str ho hc ⟨.bl _,H,I.tok _,rfl,q⟩
 |_=>exact False.elim hx
theorem fL:CallR X (.builtin "isinstance") (λxs H Q=>∃x b,xs=[x,.ty "list"]/\TyV X.K "list" x H b/\Q (.bl b) H):=by
 intro pins s σ H xs us Q I r h
 obtain⟨x,b,rfl,hx,q⟩:=h
 obtain⟨u,w',rfl,rx,ry⟩:=gI r
 cases ry
 cases x with
 |non=>cases rx;cases hx;exact jO (by decide +kernel) F.isi_meta_list F.sub_NoneType_list ⟨.bl _,H,I.tok _,rfl,q⟩
 |bl k=>cases rx;cases hx;exact IsiPair.bool_list ⟨.bl _,H,I.tok _,rfl,q⟩
 |int i=>obtain⟨t,rfl⟩:=rx;cases hx;exact IsiPair.int_list ⟨.bl _,H,I.tok _,rfl,q⟩
 |str i=>obtain⟨t,rfl⟩:=rx;cases hx;exact IsiPair.str_list ⟨.bl _,H,I.tok _,rfl,q⟩
 |ref a=>
  cases rx
  rcases hx with⟨xs,hx,rfl⟩|⟨xs,hx,rfl⟩|⟨xs,hx,rfl⟩
  ·obtain⟨o,ho,hc⟩:=I.lcls hx;exact IsiPair.list_list ho hc ⟨.bl _,H,I,rfl,q⟩
  ·obtain⟨o,ho,hc⟩:=I.tcls hx;exact IsiPair.tuple_list ho hc ⟨.bl _,H,I.tok _,rfl,q⟩
  ·obtain⟨o,ho,hc⟩:=I.dcls hx;exact IsiPair.dict_list ho hc ⟨.bl _,H,I.tok _,rfl,q⟩
 |_=>exact False.elim hx
theorem uS:CallR X (.builtin "isinstance") (λxs H Q=>∃x b,xs=[x,.ty "tuple"]/\TyV X.K "tuple" x H b/\Q (.bl b) H):=by
 intro pins s σ H xs us Q I r h
 obtain⟨x,b,rfl,hx,q⟩:=h
 obtain⟨u,w',rfl,rx,ry⟩:=gI r
 cases ry
 cases x with
 |non=>cases rx;cases hx;exact jO (by decide +kernel) F.isi_meta_tuple F.sub_NoneType_tuple ⟨.bl _,H,I.tok _,rfl,q⟩
 |bl k=>cases rx;cases hx;exact IsiPair.bool_tuple ⟨.bl _,H,I.tok _,rfl,q⟩
 |int i=>obtain⟨t,rfl⟩:=rx;cases hx;exact IsiPair.int_tuple ⟨.bl _,H,I.tok _,rfl,q⟩
 |str i=>obtain⟨t,rfl⟩:=rx;cases hx;exact IsiPair.str_tuple ⟨.bl _,H,I.tok _,rfl,q⟩
 |ref a=>
  cases rx
  rcases hx with⟨xs,hx,rfl⟩|⟨xs,hx,rfl⟩|⟨xs,hx,rfl⟩
  ·obtain⟨o,ho,hc⟩:=I.lcls hx;exact IsiPair.list_tuple ho hc ⟨.bl _,H,I.tok _,rfl,q⟩
  ·obtain⟨o,ho,hc⟩:=I.tcls hx;exact IsiPair.tuple_tuple ho hc ⟨.bl _,H,I,rfl,q⟩
  ·obtain⟨o,ho,hc⟩:=I.dcls hx;exact IsiPair.dict_tuple ho hc ⟨.bl _,H,I.tok _,rfl,q⟩
 |_=>exact False.elim hx
theorem gU:CallR X (.builtin "isinstance") (λxs H Q=>∃x b,xs=[x,.ty "dict"]/\TyV X.K "dict" x H b/\Q (.bl b) H):=by
 intro pins s σ H xs us Q I r h
 obtain⟨x,b,rfl,hx,q⟩:=h
 obtain⟨u,w',rfl,rx,ry⟩:=gI r
 cases ry
 cases x with
 |non=>cases rx;cases hx;exact jO (by decide +kernel) F.isi_meta_dict F.sub_NoneType_dict ⟨.bl _,H,I.tok _,rfl,q⟩
 |bl k=>cases rx;cases hx;exact IsiPair.bool_dict ⟨.bl _,H,I.tok _,rfl,q⟩
 |int i=>obtain⟨t,rfl⟩:=rx;cases hx;exact IsiPair.int_dict ⟨.bl _,H,I.tok _,rfl,q⟩
 |str i=>obtain⟨t,rfl⟩:=rx;cases hx;exact IsiPair.str_dict ⟨.bl _,H,I.tok _,rfl,q⟩
 |ref a=>
  cases rx
  rcases hx with⟨xs,hx,rfl⟩|⟨xs,hx,rfl⟩|⟨xs,hx,rfl⟩
  ·obtain⟨o,ho,hc⟩:=I.lcls hx;exact IsiPair.list_dict ho hc ⟨.bl _,H,I.tok _,rfl,q⟩
  ·obtain⟨o,ho,hc⟩:=I.tcls hx;exact IsiPair.tuple_dict ho hc ⟨.bl _,H,I.tok _,rfl,q⟩
  ·obtain⟨o,ho,hc⟩:=I.dcls hx;exact IsiPair.dict_dict ho hc ⟨.bl _,H,I,rfl,q⟩
 |_=>exact False.elim hx
theorem zDK(hc:X.calm=true):CallR X (.builtin "sum") (λxs H Q=>∃(p:Addr) (ns:List Int),xs=[.ref p]/\SqL X.K H p (ns.map V.int)/\Q (.int ns.sum) H):=by
 intro pins s σ H xs us Q I r h
 obtain⟨p,ns,rfl,hq,q⟩:=h
 obtain⟨u,rfl,rx⟩:=bZ r
 cases rx
 obtain⟨its,rv,pl,hz⟩:=I.list hq
 have hi:IntsAre its ns:=jH rv
 have hall:=hi.allInts
 have e0:=hi.numsOf
 obtain⟨xs,ex⟩:=hall.items
 have e1:numsOf (intItems xs).toList=ns:=by rw[<-ex];exact e0
 rw[nums_intItems]at e1
 have hl:=pl.isList
 rw[ex]at hl
 refine sum_intListG (I.ok.hd hc) hl λh' tk t' hk=>⟨.int ns.sum,H,I.kept hk,⟨t',?_⟩,q⟩
 rw[preSum_eq,List.take_of_length_le (by simp),e1]
def eS:List V->List V->Bool
 |[],[]=>true
 |x::xs,y::ys=>eqV x y&&eS xs ys
 |_,_=>false
theorem yL:∀{xs ys:List V},xs.length≠ys.length->eS xs ys=false
 |[],[],h=>absurd rfl h
 |[],_::_,_=>rfl
 |_::_,[],_=>rfl
 |x::xs,y::ys,h=>by
  have:=yL (xs:=xs) (ys:=ys) (λe=>h (by simp[e]))
  simp[eS,this]
theorem vR:∀{xs ys:List V},xs.length=ys.length->(List.range xs.length).all (λi=>eqV (xs.getD i .non) (ys.getD i .non))=eS xs ys
 |[],[],_=>rfl
 |[],_::_,h=>by simp at h
 |_::_,[],h=>by simp at h
 |x::xs,y::ys,h=>by
  have ih:=vR (xs:=xs) (ys:=ys) (by simpa using h)
  rw[List.length_cons,List.range_succ_eq_map,List.all_cons,List.all_map]
  show(eqV x y&&(List.range xs.length).all λi=>eqV (xs.getD i .non) (ys.getD i .non))=(eqV x y&&eS xs ys)
  rw[ih]
theorem zE3{A:Around}{s:Shared}{xs ys:List V}{us ws:List Value}(r:Vals xs us)(r':Vals ys ws)(fx:xs.all cN=true)(fy:ys.all cN=true)(j:Nat)(h1:j<us.toArray.size)(h2:j<ws.toArray.size):
  SeqAt.EqAt A s us.toArray[j] ws.toArray[j] (eqV (xs.getD j .non) (ys.getD j .non)):=by
 have l1:=r.length
 have l2:=r'.length
 have k1:j<xs.length:=by rw[l1];simpa using h1
 have k2:j<ys.length:=by rw[l2];simpa using h2
 obtain⟨u,hu,ru⟩:=r.get (i:=j) (x:=xs.getD j .non) (by rw[List.getD_eq_getElem?_getD,List.getElem?_eq_getElem k1];rfl)
 obtain⟨w',hw,rw'⟩:=r'.get (i:=j) (x:=ys.getD j .non) (by rw[List.getD_eq_getElem?_getD,List.getElem?_eq_getElem k2];rfl)
 have e1:us.toArray[j]=u:=by
  obtain⟨_,e⟩:=List.getElem?_eq_some_iff.mp hu
  simpa using e
 have e2:ws.toArray[j]=w':=by
  obtain⟨_,e⟩:=List.getElem?_eq_some_iff.mp hw
  simpa using e
 rw[e1,e2]
 refine zAF ru rw' (List.all_eq_true.mp fx _ ?_) (List.all_eq_true.mp fy _ ?_)
 ·rw[List.getD_eq_getElem?_getD,List.getElem?_eq_getElem k1];exact List.getElem_mem k1
 ·rw[List.getD_eq_getElem?_getD,List.getElem?_eq_getElem k2];exact List.getElem_mem k2
def zJr(K:W.Frag)(neg:Bool):R2:=λx y H Q=>∃p q xs ys,x=.ref p/\y=.ref q/\SqL K H p xs/\SqL K H q ys/\xs.all cN=true/\ys.all cN=true/\Q (.bl (if neg then !eS xs ys else eS xs ys)) H
theorem zHu(hu:X.A.units<cLine):OpR X (compareOp .Eq) (zJr X.K false):=by
 intro pins s σ H x y v u Q I rx ry h
 obtain⟨p,q,xs,ys,rfl,rfl,hx,hy,fx,fy,k⟩:=h
 cases rx
 cases ry
 obtain⟨us,r1,p1,z1⟩:=I.list hx
 obtain⟨ws,r2,p2,z2⟩:=I.list hy
 by_cases hl:xs.length=ys.length
 ·refine SeqAt.eq_listAt p1.isList p2.isList (by simp[<-r1.length,<-r2.length,hl]) hu (λj h1 h2=>zE3 r1 r2 fx fy j h1 h2) ⟨.bl (eS xs ys),H,I,?_,k⟩
  show Value.bool _=Value.bool _
  rw[List.size_toArray,<-r1.length,vR hl]
 ·refine SeqAt.eq_list_lengthsAt p1.isList p2.isList (by simp[<-r1.length,<-r2.length,hl]) hu ⟨.bl (eS xs ys),H,I,?_,k⟩
  rw[yL hl];rfl
theorem zEa(n:Nat):sliceRange (sliceBounds none none (some (-1)) n).1 (sliceBounds none none (some (-1)) n).2.1 (sliceBounds none none (some (-1)) n).2.2=(List.range n).map λk=>n-1-k:=by
 have e:sliceBounds none none (some (-1)) n=((n:Int)-1,-1,-1):=by simp[sliceBounds]
 rw[e]
 unfold sliceRange
 simp only[show ¬ ((-1:Int) > 0) by decide,if_false]
 by_cases hn:n=0
 ·subst hn;simp
 ·have h1:(n:Int)-1 > -1:=by omega
  rw[if_pos h1]
  have h2:(((n:Int)-1 - -1 - -1-1) / (- -1)).toNat=n:=by
   rw[show(n:Int)-1 - -1 - -1-1=n by omega,show(- -1:Int)=1 by decide,Int.ediv_one]
   exact Int.toNat_natCast n
  rw[h2]
  refine List.map_congr_left λk hk=>?_
  have:=List.mem_range.mp hk
  omega
theorem fm_congr{α β:Type}{f g:α->Option β}:∀{l:List α},(∀x∈l,f x=g x)->l.filterMap f=l.filterMap g
 |[],_=>rfl
 |x::r,h=>by rw[List.filterMap_cons,List.filterMap_cons,h x List.mem_cons_self,fm_congr λy hy=>h y (List.mem_cons_of_mem _ hy)]
theorem wH{α:Type}:∀zs:List α,(List.range zs.length).filterMap (λk=>zs.reverse[zs.length-1-k]?)=zs
 |[]=>rfl
 |z::r=>by
  rw[List.length_cons,List.range_succ_eq_map,List.filterMap_cons,List.filterMap_map]
  have h0:(z::r).reverse[r.length+1-1-0]?=some z:=by simp
  rw[h0]
  have h1:List.filterMap ((λk=>(z::r).reverse[r.length+1-1-k]?)∘Nat.succ) (List.range r.length)=List.filterMap (λk=>r.reverse[r.length-1-k]?) (List.range r.length):=by
   apply fm_congr
   intro k hk
   have hk:=List.mem_range.mp hk
   show(z::r).reverse[r.length+1-1-(k+1)]?=r.reverse[r.length-1-k]?
   rw[List.reverse_cons,List.getElem?_append_left (by simp;omega)]
   rw[show r.length+1-1-(k+1)=r.length-1-k by omega]
  rw[h1,wH r]
theorem zEj{α:Type}(xs:List α):((List.range xs.length).map λk=>xs.length-1-k).filterMap (λi=>xs[i]?)=xs.reverse:=by
 have:=wH xs.reverse
 rw[List.length_reverse,List.reverse_reverse]at this
 rw[List.filterMap_map]
 exact this
theorem zBH(its:List Value):slicePick its.toArray none none (some (-1))=its.reverse.toArray:=by
 unfold slicePick
 rw[List.size_toArray,zEa]
 congr 1
 have:=zEj its
 simpa using this
def zI7(K:W.Frag)(te tst:TE):TE:=λσ H Q=>te σ H λx H1=>tst σ H1 λy H2=>y=.int (-1)/\∃p xs,x=.ref p/\SqL K H2 p xs/\∀l,H2 l=none->Q (.ref l) (upd H2 l (.lst xs.reverse))
theorem zHg{e st:Expr}{te tst:TE}{pos p2:Pos}(he:PE X e te)(hst:PE X st tst)(ht:∀o r,letTemporaryGo e o r=pure ():=by intro _ _;rfl):PE X (.Subscript e (.Slice none none (some st) p2) pos) (zI7 X.K te tst):=by
 intro pins s σ H Q I h
 refine wpAny_Subscript_Slice_step (T:="list") slot_list_getitem.lookup (thn (he pins s σ H _ I h) λv s1 ⟨x,H1,I1,r1,q1⟩=>?_) ht
 refine wpAny_Slice ?_
 rw[evalPart_none,evalPart_some]
 refine wpAny_pure (wpAny_pure (thn (hst pins s1 σ H1 _ I1 q1) λvs s2 ⟨y,H2,I2,r2,q2⟩=>?_))
 obtain⟨rfl,p,xs,rfl,hx,q⟩:=q2
 obtain⟨t,rfl⟩:=r2
 cases r1
 have I3:Inv X pins σ H2 {s2 with heap:=s2.heap.push {cls:=.type "slice",data:=.fields #[.none,.none,.int (-1) t]}}:=I2.kept (t':=s2.toks) λb ob q=>Heap.get?_push_of_some _ q
 obtain⟨its,rv,pl,hz⟩:=I3.list hx
 refine⟨pl.isList.typeIs,?_⟩
 refine wpAny_getItem_list_slice pl.isList (Heap.IsSliceOf.new ..) .none .none (.int (-1) t) (by decide) ?_ (by rw[List.size_toArray,<-rv.length];exact hz)
 rw[zBH]
 refine⟨.ref _,_,I3.laid (t':=s2.toks) (o:=.lst xs.reverse) (λb ob q=>Heap.get?_push_of_some _ q) (Nat.le_refl _) ?_,rfl,q _ (I3.hok.fresh (Nat.le_refl _))⟩
 exact⟨by rw[List.length_reverse];exact hz,_,0,rv.reverse,Heap.get?_push_size _ rfl⟩
theorem zHr:OpR X (compareOp .Is) (λx y H Q=>∃b,y=.bl b/\Q (.bl (decide (x=.bl b))) H):=by
 intro pins s σ H x y v u Q I rx ry h
 obtain⟨b,rfl,q⟩:=h
 cases ry
 cases x with
 |non=>cases rx;exact wpAny_is_plain rfl ⟨.bl _,H,I,(by simp[RelV]),q⟩
 |bl k=>cases rx;exact wpAny_is_plain rfl ⟨.bl _,H,I,(by cases k<;>cases b<;>rfl),q⟩
 |int i=>obtain⟨t,rfl⟩:=rx;exact wpAny_is_plain rfl ⟨.bl _,H,I,(by simp[RelV]),q⟩
 |str i=>obtain⟨t,rfl⟩:=rx;exact wpAny_is_plain rfl ⟨.bl _,H,I,(by simp[RelV]),q⟩
 |byt i=>obtain⟨t,rfl⟩:=rx;exact wpAny_is_plain rfl ⟨.bl _,H,I,(by simp[RelV]),q⟩
 |flt i=>obtain⟨t,rfl⟩:=rx;exact wpAny_is_plain rfl ⟨.bl _,H,I,(by simp[RelV]),q⟩
 |ref i=>cases rx;exact wpAny_is_plain rfl ⟨.bl _,H,I,(by simp[RelV]),q⟩
 |ty i=>cases rx;exact wpAny_is_plain rfl ⟨.bl _,H,I,(by simp[RelV]),q⟩
def BigOk(j:Int):Prop:=j.natAbs<2 ^ 1024
theorem BigOk.log{j:Int}(h:BigOk j):j.natAbs.log2<9000:=by
 by_cases h0:j.natAbs=0
 ·rw[h0];decide +kernel
 ·have:j.natAbs.log2<1024:=(Nat.log2_lt h0).mpr h
  omega
theorem op_mulB:OpR X (binaryOp .Mult) (rI (λi j=>BigOk i/\BigOk j) λi j=>.int (i*j)):=opI λi j _ _ _ _ _ hc q=>by
 have bits:∀{x:Int},BigOk x->Builtin.Int.intBits x<=2 ^ 20:=λ{x} h=>by
  unfold Builtin.Int.intBits
  split
  ·exact Nat.zero_le _
  ·rename_i h0
   have h0':x.natAbs≠0:=λz=>h0 (by simpa using z)
   have:x.natAbs.log2<1024:=(Nat.log2_lt h0').mpr h
   omega
 exact mul_int q (.of_bits (bits hc.1) (bits hc.2))
theorem xX:OpR X (binaryOp .FloorDiv) (rI (λ_ j=>0<j/\BigOk j) λi j=>.int (i / j)):=opI λi j _ _ _ _ _ hc q=>by
 have h1:(0:Int)<j:=hc.1
 exact floordiv_int (by omega) (by rw[Int.fdiv_eq_ediv_of_nonneg i (by omega)];exact q) (.inl (PyProof.noPylong_of_log2 hc.2.log))
end
end L2
namespace L2
open PySem PySem.Spec PyProof.Rows
def cQ:Expr->Bool
 |.Starred ..=>true
 |_=>false
theorem gX{e:Expr}{rest:List Expr}{env:Env}(h:cQ e=false):starEach (e::rest) env=(false,eval e env)::starEach rest env:=by
 cases e<;>first|rfl|exact Bool.noConfusion h
theorem cJ{X:Cx}{e:Expr}{es:List Expr}{te:TE}{t:TA}(ha:PE X e te)(hr:PA X es t)(h:cQ e=false:=by rfl):PA X (e::es) (sV te t):=zFH ha hr (gX h)
def Good(P:Program)(w:World)(K:W.Frag)(mg:Str->Option Value)(base:Heap)(k:Nat)(x:Str)(ps:List Str)(sp:Sp):Prop:=
 ∃(f:Addr) (fd:FuncData),FnOk P w K mg base CX0 k f fd ps sp/\Binds K fd ps []/\mg x=some (.ref f)/\W.keepIn K (.ref f)=true
section
variable{X:Cx}{k:Nat}{x:Str}{ps:List Str}{sp:Sp}{e:Expr}{es:List Expr}{t:TA}{p pos:Pos}
theorem lU(G:Good X.prog X.w X.K X.mg X.base k x ps sp)(hr:Room k X.A)(hg:Gl X x)(ha:PA X (e::es) t)(hdb:(x==("__debug__":Str))=false:=by decide)
  (hst:cQ e=false:=by rfl) (hpl:(backTo pos (starEach es X.env)).any (·.1)=false:=by rfl):PE X (.Call (.Name x p) (e::es) [] pos) (kF sp [] E0 t):=by
 obtain⟨f,fd,F,b,m,kp⟩:=G
 exact zFG F hr hg m kp b .nil zAR ha hdb (gX hst) hpl
theorem zHj(G:Good X.prog X.w X.K X.mg X.base k x ps sp)(hr:Room k X.A)(hg:Gl X x)(hdb:(x==("__debug__":Str))=false:=by decide):PE X (.Call (.Name x p) [] [] pos) (kF sp [] E0 oU):=by
 obtain⟨f,fd,F,b,m,kp⟩:=G
 exact zEp F hr hg m kp b .nil zAR hdb
end
def Has(K:W.Frag)(mg:Str->Option Value)(x:Str)(st:Stmt):Prop:=∃(f:Addr) (fd:FuncData),Fun K x x st f fd/\mg x=some (.ref f)
theorem Has.good{P:Program}{w:World}{K:W.Frag}{mg:Str->Option Value}{base:Heap}{x:Str}{st:Stmt}{N ps:List Str}{k:Nat}{sp:Sp}(h:Has K mg x st)(S:bN N ps (aI st))
  (hb:∀(kV doc pm:Value) (an:Option Addr) (cdv ct:Value) (us:List Value),us.length=ps.length->bindArgs (W.fnOf x x (dI st) (cF st) (aI st) .none kV doc pm an cdv ct) ⟨us,[]⟩=pure (ps.zip us))
  (len:∀vs H Q E,sp vs H Q E->vs.length=ps.length)
  (hbody:∀(f:Addr) (cdv:Value) (A:Around) (outer:List Env) (s:Shared) (H:Hp) (vs:List V) (Q:VK) (E:XK),Room k (A.deeper (envOfC x (aI st) s.heap.objs.size f cdv))->sp vs H Q E ->
   ∃t,PSs (eK CX0 P w K mg base N x (aI st) f cdv A outer s H E).nox (cF st) t/\t {nx:=λ_ H'=>Q .non H',rt:=Q} (cZ N vs) H):Good P w K mg base (k+1) x ps sp:=by
 obtain⟨f,fd,F,m⟩:=h
 exact⟨f,fd,F.ok S len λcdv A outer s H vs Q E hr q=>hbody f cdv A outer s H vs Q E hr q,F.binds hb,m,F.kp⟩
theorem has_mk{K:W.Frag}{h:Heap}{mg:Str->Option Value}{x:Str}{st:Stmt}{f:Addr}{oc:Value}{od an:Option Addr}{osl:Array (Option Value)}{kV doc pm cdv ct:Value}(X:K.In h)(G:h.Ns mainGlobals mg)
  (a:W.nsIn K mainGlobals x=some (some (.ref f))) (l:K.lookup f=some ⟨oc,od,.func (W.fnOf x x (dI st) (cF st) (aI st) .none kV doc pm an cdv ct),osl⟩)
  (c:W.codeIn K cdv x=true) (k:W.keepIn K (.ref f)=true):Has K mg x st:=⟨f,_,zAE l c k,PySem.W.mg_of X G a⟩
structure Own (mg:Str->Option Value):Prop where
 len:mg "len"=none
 range:mg "range"=none
 isinstance:mg "isinstance"=none
 int_:mg "int"=none
 bool_:mg "bool"=none
 str_:mg "str"=none
 list_:mg "list"=none
 tuple_:mg "tuple"=none
 dict_:mg "dict"=none
 sum:mg "sum"=none
 min:mg "min"=none
 max:mg "max"=none
 all:mg "all"=none
 any:mg "any"=none
 abs:mg "abs"=none
 zip:mg "zip"=none
 sorted:mg "sorted"=none
 set_:mg "set"=none
 enumerate:mg "enumerate"=none
theorem zHo{K:W.Frag}{h:Heap}{mg:Str->Option Value}(X:K.In h)(G:h.Ns mainGlobals mg)(z1:W.nsIn K mainGlobals "len"=some none)(z2:W.nsIn K mainGlobals "range"=some none)
    (z3:W.nsIn K mainGlobals "isinstance"=some none) (z4:W.nsIn K mainGlobals "int"=some none) (z5:W.nsIn K mainGlobals "bool"=some none) (z6:W.nsIn K mainGlobals "str"=some none)
    (z7:W.nsIn K mainGlobals "list"=some none) (z8:W.nsIn K mainGlobals "tuple"=some none) (z9:W.nsIn K mainGlobals "dict"=some none) (z10:W.nsIn K mainGlobals "sum"=some none)
    (z11:W.nsIn K mainGlobals "min"=some none) (z12:W.nsIn K mainGlobals "max"=some none) (z13:W.nsIn K mainGlobals "all"=some none) (z14:W.nsIn K mainGlobals "any"=some none)
    (z15:W.nsIn K mainGlobals "abs"=some none) (z16:W.nsIn K mainGlobals "zip"=some none) (z17:W.nsIn K mainGlobals "sorted"=some none) (z18:W.nsIn K mainGlobals "set"=some none)
    (z19:W.nsIn K mainGlobals "enumerate"=some none):Own mg:=
  ⟨PySem.W.mg_none_of X G z1,PySem.W.mg_none_of X G z2,PySem.W.mg_none_of X G z3,PySem.W.mg_none_of X G z4,PySem.W.mg_none_of X G z5,PySem.W.mg_none_of X G z6,PySem.W.mg_none_of X G z7,PySem.W.mg_none_of X G z8,PySem.W.mg_none_of X G z9,PySem.W.mg_none_of X G z10,
   PySem.W.mg_none_of X G z11,PySem.W.mg_none_of X G z12,PySem.W.mg_none_of X G z13,PySem.W.mg_none_of X G z14,PySem.W.mg_none_of X G z15,PySem.W.mg_none_of X G z16,PySem.W.mg_none_of X G z17,PySem.W.mg_none_of X G z18,PySem.W.mg_none_of X G z19⟩
structure DeckAt (H:Hp) (p c:Addr):Prop where
 ne:p≠c
 dk:∃S k:Int,H p=some (.lst [.ref c,.int S,.int k])
 cs:∃ns:List Int,H c=some (.lst (ns.map V.int))/\ns.length<=64
structure On (p c:Addr) (H H':Hp):Prop where
 d:DeckAt H' p c
 e:∀b o,H b=some o->b≠p->b≠c->H' b=some o
section
variable{p c a:Addr}{H H1 H2:Hp}{o:HO}
theorem DeckAt.nep(d:DeckAt H p c)(h:H a=none):a≠p:=λz=>by
 obtain⟨S,k,e⟩:=d.dk
 rw[z,e]at h;cases h
theorem DeckAt.nec(d:DeckAt H p c)(h:H a=none):a≠c:=λz=>by
 obtain⟨ns,e,_⟩:=d.cs
 rw[z,e]at h;cases h
theorem DeckAt.alloc(d:DeckAt H p c)(h:H a=none):DeckAt (upd H a o) p c:=by
 obtain⟨S,k,e⟩:=d.dk
 obtain⟨ns,e',l⟩:=d.cs
 exact⟨d.ne,⟨S,k,by rw[aY (d.nep h).symm];exact e⟩,ns,by rw[aY (d.nec h).symm];exact e',l⟩
theorem On.trans(x:On p c H H1)(y:On p c H1 H2):On p c H H2:=⟨y.d,λb o h hp hc=>y.e b o (x.e b o h hp hc) hp hc⟩
theorem On.alloc(x:On p c H H1)(h:H1 a=none):On p c H (upd H1 a o):=
 ⟨x.d.alloc h,λb u q hp hc=>by rw[aY (cS (x.e b u q hp hc) h)];exact x.e b u q hp hc⟩
end
def zA:Sp:=λvs H Q _=>∃n k:Int,vs=[.int n,.int k]/\∀r:Int,Q (.int r) H
def zAp(K:W.Frag):Sp:=λvs H Q _=>∃(a:Addr) (ns:List Int),vs=[.ref a]/\SqL K H a (ns.map V.int)/\∀(p c:Addr) (H':Hp),H p=none->H c=none->DeckAt H' p c->Same H H'->Q (.ref p) H'
def zAo:Sp:=λvs H Q _=>∃(p c:Addr) (m:Int),vs=[.ref p,.int m]/\DeckAt H p c/\0<m/\BigOk m/\∀(r:Int) (H':Hp),0<=r->r<m->On p c H H'->Q (.int r) H'
end L2
namespace L2
open PySem PySem.Spec PyProof.Rows
theorem ObjOk.there{P:Program}{w:World}{H:Hp}{h:Heap}{a:Addr}{o:HO}(x:ObjOk P w H h a o):∃ob,h.get? a=some ob:=by
 cases o with
 |lst xs=>obtain⟨_,_,_,_,e⟩:=x;exact⟨_,e⟩
 |tup xs=>obtain⟨_,_,_,ob,e,_⟩:=x;exact⟨_,e⟩
 |dK kvs=>obtain⟨_,_,_,_,o,_,_,e,_⟩:=x;exact⟨_,e⟩
 |dT kvs=>obtain⟨_,_,_,_,o,_,_,e,_⟩:=x;exact⟨_,e⟩
 |set S n=>obtain⟨o,_,_,_,e,_⟩:=x;exact⟨_,e⟩
 |ins C dx fs=>obtain⟨_,_,_,e,_⟩:=x;exact⟨_,e⟩
 |own y=>obtain⟨_,e⟩:=x;exact⟨_,e⟩
 |xd fs=>obtain⟨_,⟨_,_,_,e,_⟩,_⟩:=x;exact⟨_,e⟩
 |rng lo hi=>obtain⟨_,_,_,e⟩:=x;exact⟨_,e⟩
 |frz ob u=>obtain⟨e,_⟩:=x;exact⟨_,e⟩
 |tbl ps=>exact⟨_,(show h.get? a=some _ from x)⟩
 |met f y=>exact⟨_,(show h.get? a=some _ from x)⟩
 |ext φ=>obtain⟨_,⟨_,e⟩,_⟩:=x;exact⟨_,e⟩
end L2
namespace L2
open PySem PySem.Spec PyProof.Rows
section
variable{X:Cx}
theorem cH{H:Hp}{a:Addr}{o:HO}(h:H a=none):Same H (upd H a o):=λb u q=>by rw[aY (cS q h)];exact q
def zIu(K:W.Frag):R2:=λx y H Q=>∃a b xs ys,x=.ref a/\y=.ref b/\SqT K H a xs/\SqT K H b ys/\xs.length+ys.length<=sizeLine/\∀r H',SqT K H' r (xs++ys)->Same H H'->Q (.ref r) H'
theorem op_catG:OpR X (binaryOp .Add) (zIu X.K):=by
 intro pins s σ H x y v u Q I rx ry h
 obtain⟨a,b,xs,ys,rfl,rfl,ha,hb,hz,q⟩:=h
 by_cases hx:xs=[]
 ·subst hx
  cases rx
  cases ry
  obtain⟨its,r1,p1,_⟩:=I.tuple ha
  obtain⟨its2,r2,p2,_⟩:=I.tuple hb
  obtain⟨⟨cls,dd,data,sl⟩,ho,hc,n,hd⟩:=id p1
  obtain⟨⟨cls2,dd2,data2,sl2⟩,ho2,hc2,n2,hd2⟩:=id p2
  simp only at hc hd hc2 hd2
  subst hc hd hc2 hd2
  have e1:its=[]:=r1.nil_iff.mpr rfl
  exact concat_meets ⟨_,ho,rfl⟩ ⟨_,ho2,rfl⟩ noFill_tuple_add seq_tuple_add PySem.F.slot_tuple_add PySem.F.entry_tuple_add (PySem.F.args_tuple_add_2 _ _)
   (tuple_addW0 a b its.toArray its2.toArray n n2 dd dd2 sl sl2 (by simp[e1])) ⟨ho,ho2,⟨.ref b,H,I,rfl,q b H hb (Same.refl H)⟩⟩
 ·refine zFO pins s σ H (.ref a) (.ref b) v u Q I rx ry ⟨a,b,xs,ys,rfl,rfl,ha,hb,hx,hz,λe=>q a H (by rw[e,List.append_nil];exact ha) (Same.refl H),λ_ p hp=>q p _ (SqT.of aT) (cH hp)⟩
structure QA (X:Cx) (es:List Expr) (t:TA):Prop where
 p:PA X es t
theorem zAt:QA X [] oU:=⟨cT⟩
theorem uE{e:Expr}{es:List Expr}{te:TE}{t:TA}(ha:PE X e te)(hr:QA X es t)(h:cQ e=false:=by rfl):QA X (e::es) (sV te t):=⟨cJ ha hr.p h⟩
theorem zL{es:List Expr}{t:TA}{pos:Pos}(h:QA X es t):PE X (.List es pos) (zA2 t):=zAw h.p
theorem Inv.big{pins:List (Addr×Obj)}{σ:St}{H:Hp}{s:Shared}(I:Inv X pins σ H s):sysModules<s.heap.objs.size:=by
 have h:mainGlobals<s.heap.objs.size:=(I.mod.glob.keeps I.bk).lt
 exact Nat.lt_trans (by decide) h
theorem zEM{P:Program}{w:World}{H:Hp}(h:Heap)(hb:sysModules<h.objs.size):ObjOk P w H (h.push {cls:=.type "dict",data:=.dict #[]}) h.objs.size (.dK []):=
 ⟨Nat.zero_le _,beq_eq_false_iff_ne.mpr (Ne.symm (Nat.ne_of_lt hb)),[],.nil,Heap.DictOf.new h⟩
def zGB:TE:=λ_ H Q=>∀p,H p=none->Q (.ref p) (upd H p (.dK []))
theorem zEn{pos:Pos}:PE X (.Dict [] [] pos) zGB:=λpins s σ H Q I h=>
 wpAny_Dict_empty ⟨.ref s.heap.objs.size,_,I.laid (a:=s.heap.objs.size) (o:=.dK []) (t':=s.toks) (λ_ _ q=>Heap.get?_push_of_some _ q) (Nat.le_refl _) (zEM s.heap I.big),rfl,h _ (I.hok.fresh (Nat.le_refl _))⟩
end
end L2
namespace L2
open PySem PySem.Spec PyProof.Rows
section
variable{prog:Program}{w:World}{A:Around}{E:Value->Shared->Prop}{s:Shared}
theorem zCx{j t:Addr}{k:Nat}{vs:Array Value}{v:Value}{Q:Value->Shared->Prop}(hj:s.heap.IsTupleIter j t k)(ht:s.heap.IsTuple t vs)(hv:vs[k]?=some v)
  (q:∀h',h'.IsTupleIter j t (k+1)->Heap.SameBut j s.heap h'->Q v {s with heap:=h'}):wpAny (model prog w) A (Builtin.SmallTypes.nextOf (.ref j)) Q E s:=by
 obtain⟨oj,ej,cj,dj⟩:=id hj
 obtain⟨ot,et,_,nt,dt⟩:=id ht
 unfold Builtin.SmallTypes.nextOf
 refine wpAny_bind (wpAny_callSpecial?_slot (name:=Str.ofString "__next__") hj.typeIs F.slot_tuple_iterator_next (wpAny_call_entry F.slot_tuple_iterator_next hj.typeIs F.entry_tuple_iterator_next ?_ (F.args_tuple_iterator_next_1 _)))
 refine wpAny_bind (m:=field (.ref j) 0) (wpAny_field ej dj (x:=.ref t) rfl ?_)
 have nn:¬ ((Value.ref t==Value.none)=true):=Bool.false_ne_true
 show wpAny (model prog w) A.in1 (if (Value.ref t==Value.none)=true then _ else _) _ _ s
 rw[if_neg nn]
 refine wpAny_bind (m:=field (.ref j) 1) (wpAny_field ej dj (x:=.int k 0) rfl (wpAny_bind (m:=seqItems? (.ref t)) (wpAny_seqItems et dt ?_)))
 simp only[Int.toNat_natCast,hv]
 refine wpAny_bind (wpAny_setField ej dj (by simp) (wpAny_pure ⟨v,rfl,wpAny_pure (q _ ⟨_,Heap.get?_update_self _ ej (Obj.isFreed_of_fields (Obj.data_mapFields dj _)),(Obj.cls_mapFields ..).trans cj,?_⟩ (Heap.SameBut.update ..))⟩))
 rw[Obj.data_mapFields dj]
 simp[rawInt]
theorem zDp{j t:Addr}{k:Nat}{vs:Array Value}{Q:Value->Shared->Prop}(hh:A.handled=none)(hj:s.heap.IsTupleIter j t k)(ht:s.heap.IsTuple t vs)(hv:vs[k]?=none)
  (q:∀h' e,Heap.ExtBut j s.heap h'->(∃o,h'.get? e=some o/\o.cls=.type "StopIteration")->E (.ref e) {s with heap:=h'}):wpAny (model prog w) A (Builtin.SmallTypes.nextOf (.ref j)) Q E s:=by
 obtain⟨oj,ej,cj,dj⟩:=id hj
 obtain⟨ot,et,_,nt,dt⟩:=id ht
 unfold Builtin.SmallTypes.nextOf
 refine wpAny_bind (wpAny_callSpecial?_slot (name:=Str.ofString "__next__") hj.typeIs F.slot_tuple_iterator_next (wpAny_call_entry F.slot_tuple_iterator_next hj.typeIs F.entry_tuple_iterator_next ?_ (F.args_tuple_iterator_next_1 _)))
 refine wpAny_bind (m:=field (.ref j) 0) (wpAny_field ej dj (x:=.ref t) rfl ?_)
 have nn:¬ ((Value.ref t==Value.none)=true):=Bool.false_ne_true
 show wpAny (model prog w) A.in1 (if (Value.ref t==Value.none)=true then _ else _) _ _ s
 rw[if_neg nn]
 refine wpAny_bind (m:=field (.ref j) 1) (wpAny_field ej dj (x:=.int k 0) rfl (wpAny_bind (m:=seqItems? (.ref t)) (wpAny_seqItems et dt ?_)))
 simp only[Int.toNat_natCast,hv]
 refine wpAny_bind (wpAny_rule (wpAny_bind (wpAny_setField ej dj (by simp) (wpAny_bind (m:=newExc (.type "StopIteration") []) ?_))))
 unfold newExc newTuple
 refine wpAny_bind (wpAny_newObj_type (wpAny_bind (m:=firstArgMember _ _) (wpAny_of_eq (a:=Value.none) (by first|rfl|(simp only[firstArgMember];rfl)) (wpAny_newObj_type ?_ (by size_fits)))) (by size_fits))
 unfold raiseNew
 refine wpAny_bind (wpAny_handled ?_)
 rw[show A.in1.handled=none from hh]
 exact wpAny_bind (wpAny_pure (wpAny_throw (q _ _ (((Heap.SameBut.update ..).extBut.push _).push _) ⟨_,Heap.get?_push_size _ rfl,rfl⟩)))
structure jB (prog:Program) (w:World) (i l:Addr) (it:Nat->Heap->Prop) (sq:Heap->Array Value->Prop):Prop where
 obj:∀k h,it k h->∃o,h.get? i=some o/\∀v,o.data≠.cell v
 itk:∀k h h',it k h->(∀o,h.get? i=some o->h'.get? i=some o)->it k h'
 sqk:∀h h' vs,sq h vs->(∀o,h.get? l=some o->h'.get? l=some o)->sq h' vs
 item:∀(A:Around) (E:Value->Shared->Prop) (s:Shared) (k:Nat) (vs:Array Value) (v:Value) (Q:Value->Shared->Prop),it k s.heap->sq s.heap vs->vs[k]?=some v ->
  (∀h',it (k+1) h'->Heap.SameBut i s.heap h'->Q v {s with heap:=h'})->wpAny (model prog w) A (Builtin.SmallTypes.nextOf (.ref i)) Q E s
 done:∀(A:Around) (E:Value->Shared->Prop) (s:Shared) (k:Nat) (vs:Array Value) (Q:Value->Shared->Prop),A.handled=none->it k s.heap->sq s.heap vs->vs[k]?=none ->
  (∀h' e,Heap.ExtBut i s.heap h'->(∃o,h'.get? e=some o/\o.cls=.type "StopIteration")->E (.ref e) {s with heap:=h'})->wpAny (model prog w) A (Builtin.SmallTypes.nextOf (.ref i)) Q E s
theorem zC5(i l:Addr):jB prog w i l (λk h=>h.IsListIter i l k) (λh vs=>h.IsList l vs) where
 obj:=λk h x=>let ⟨o,e,_,d⟩:=x;⟨o,e,λv z=>by rw[d]at z;cases z⟩
 itk:=λk h h' x f=>let ⟨o,e,r⟩:=x;⟨o,f o e,r⟩
 sqk:=λh h' vs x f=>let ⟨o,e,r⟩:=x;⟨o,f o e,r⟩
 item:=λA E s k vs v Q a b c q=>wpAny_nextOf_list_item a b c q
 done:=λA E s k vs Q hh a b c q=>wpAny_nextOf_list_end hh a b c q
theorem zD6(i l:Addr):jB prog w i l (λk h=>h.IsTupleIter i l k) (λh vs=>h.IsTuple l vs) where
 obj:=λk h x=>let ⟨o,e,_,d⟩:=x;⟨o,e,λv z=>by rw[d]at z;cases z⟩
 itk:=λk h h' x f=>let ⟨o,e,r⟩:=x;⟨o,f o e,r⟩
 sqk:=λh h' vs x f=>let ⟨o,e,r⟩:=x;⟨o,f o e,r⟩
 item:=λA E s k vs v Q a b c q=>zCx a b c q
 done:=λA E s k vs Q hh a b c q=>zDp hh a b c q
section
variable{z TI TO i1 i2 l1 l2:Addr}{it1 it2:Nat->Heap->Prop}{sq1 sq2:Heap->Array Value->Prop}
theorem zE1(S1:jB prog w i1 l1 it1 sq1)(S2:jB prog w i2 l2 it2 sq2)(D:ZipApart z TI TO i1 i2 l1 l2){k1 k2:Nat}{xs ys:Array Value}{x y a b:Value}{Q:Value->Shared->Prop}
  (hz:IsZip s.heap z TI TO .none) (hI:IsPair s.heap TI (.ref i1) (.ref i2)) (hO:IsPair s.heap TO a b) (j1:it1 k1 s.heap) (j2:it2 k2 s.heap) (q1:sq1 s.heap xs) (q2:sq2 s.heap ys)
  (hx:xs[k1]?=some x) (hy:ys[k2]?=some y)
  (q:∀h',IsZip h' z TI TO (rawInt s.heap.objs.size)->IsPair h' TO x y->it1 (k1+1) h'->it2 (k2+1) h'->IsPair h' s.heap.objs.size x y->h'.objs.size=s.heap.objs.size+1 ->
   (∀c o,c≠z->c≠TO->c≠i1->c≠i2->s.heap.get? c=some o->h'.get? c=some o)->Q (.ref s.heap.objs.size) {s with heap:=h'}):
  wpAny (model prog w) A (Builtin.«zip.__next__» ⟨[.ref z],[]⟩) (λf s'=>∃v,f=.done (.ret v)/\Q v s') E s:=by
 refine wpAny_bind (m:=field (.ref z) 2) (wpAny_field hz rfl (x:=.bool false) rfl (wpAny_bind (m:=field (.ref z) 3) (wpAny_field hz rfl (x:=.ref TI) rfl (wpAny_bind (wpAny_seqItems hI rfl ?_)))))
 refine wpAny_bind (m:=Builtin.SmallTypes.ownedTupleIsFree (.ref z)) (wpAny_bind (wpAny_field hz rfl (x:=.none) rfl (wpAny_pure ?_)))
 simp only[if_true]
 refine wpAny_bind (wpAny_rule (wpAny_bind (wpAny_field hz rfl (x:=.ref TO) rfl (wpAny_bind (wpAny_setField_rec hz (by simp) λh1 hz1 s1=>?_)))))
 have hz1:IsZip h1 z TI TO .ellipsis:=hz1
 refine wpAny_bind ?_
 simp only[List.zipIdx_cons,List.zipIdx_nil,List.forIn_cons,List.forIn_nil]
 have e1:∀c o,c≠z->s.heap.get? c=some o->h1.get? c=some o:=λc o hc e=>s1.extBut _ _ hc e
 refine wpAny_bind (wpAny_bind (wpAny_onRaise (wpAny_bind (m:=Builtin.SmallTypes.nextOf (.ref i1)) (S1.item _ _ _ k1 xs x _ (S1.itk _ _ _ j1 λo e=>e1 _ o D.i1z e) (S1.sqk _ _ _ q1 λo e=>e1 _ o D.l1z e) hx λh2 j1' s2=>wpAny_pure ?_))))
 have e2:∀c o,c≠z->c≠i1->s.heap.get? c=some o->h2.get? c=some o:=λc o c1 c2 e=>s2.extBut _ _ c2 (e1 c o c1 e)
 have hO2:IsPair h2 TO a b:=e2 _ _ D.TOz D.TOi1 hO
 refine wpAny_bind (wpAny_seqItems hO2 rfl (wpAny_bind (wpAny_updateSeq_pair hO2 λh3 hO3 s3=>wpAny_bind (wpAny_letGo (wpAny_pure ?_)))))
 have hO3:IsPair h3 TO x b:=hO3
 have e3:∀c o,c≠z->c≠i1->c≠TO->s.heap.get? c=some o->h3.get? c=some o:=λc o c1 c2 c3 e=>s3.extBut _ _ c3 (e2 c o c1 c2 e)
 refine wpAny_bind (wpAny_bind (wpAny_onRaise (wpAny_bind (m:=Builtin.SmallTypes.nextOf (.ref i2)) (S2.item _ _ _ k2 ys y _ (S2.itk _ _ _ j2 λo e=>e3 _ o D.i2z D.i12.symm D.TOi2.symm e) (S2.sqk _ _ _ q2 λo e=>e3 _ o D.l2z D.l2i1 D.l2TO e) hy λh4 j2' s4=>wpAny_pure ?_))))
 have hO4:IsPair h4 TO x b:=s4.extBut _ _ D.TOi2 hO3
 refine wpAny_bind (wpAny_seqItems hO4 rfl (wpAny_bind (wpAny_updateSeq_pair hO4 λh5 hO5 s5=>wpAny_bind (wpAny_letGo (wpAny_pure (wpAny_pure ?_))))))
 have hO5:IsPair h5 TO x y:=hO5
 refine wpAny_bind (wpAny_seqItems hO5 rfl (wpAny_bind (wpAny_newTuple ?_)))
 have hs5:h5.objs.size=s.heap.objs.size:=by rw[s5.1,s4.1,s3.1,s2.1,s1.1]
 have hz5:IsZip h5 z TI TO .ellipsis:=s5.extBut _ _ D.TOz.symm (s4.extBut _ _ D.i2z.symm (s3.extBut _ _ D.TOz.symm (s2.extBut _ _ D.i1z.symm hz1)))
 have e5:∀c o,c≠z->c≠TO->c≠i1->c≠i2->s.heap.get? c=some o->h5.get? c=some o:=λc o c1 c2 c3 c4 e=>s5.extBut _ _ c2 (s4.extBut _ _ c4 (e3 c o c1 c3 c2 e))
 have lz:z<h5.objs.size:=Heap.lt_size hz5
 refine wpAny_bind (m:=Builtin.SmallTypes.ownedTupleHandOut (.ref z) (.ref h5.objs.size)) ?_
 unfold Builtin.SmallTypes.ownedTupleHandOut
 have hz6:IsZip (h5.push {cls:=.type "tuple",data:=.seq #[x,y]}) z TI TO .ellipsis:=Heap.get?_push_of_some _ hz5
 refine wpAny_bind (wpAny_setField_rec hz6 (by simp) λh7 hz7 s7=>?_)
 have hz7:IsZip h7 z TI TO (rawInt h5.objs.size):=hz7
 refine wpAny_setField_rec hz7 (by simp) λh8 hz8 s8=>?_
 have hz8:IsZip h8 z TI TO (rawInt h5.objs.size):=hz8
 have e8:∀c o,c≠z->h5.get? c=some o->h8.get? c=some o:=λc o c1 e=>s8.extBut _ _ c1 (s7.extBut _ _ c1 (Heap.get?_push_of_some _ e))
 have p8:IsPair h8 h5.objs.size x y:=s8.extBut _ _ (Nat.ne_of_gt lz) (s7.extBut _ _ (Nat.ne_of_gt lz) (Heap.get?_push_size _ rfl))
 have n8:h8.objs.size=h5.objs.size+1:=by rw[s8.1,s7.1,Heap.size_push]
 rw[hs5]at hz8 p8 n8
 refine wpAny_pure ⟨_,rfl,?_⟩
 show Q (Value.ref h5.objs.size) _
 rw[hs5]
 exact q h8 hz8 (e8 _ _ D.TOz hO5) (S1.itk _ _ _ j1' λo e=>e8 _ o D.i1z (s5.extBut _ _ D.TOi1.symm (s4.extBut _ _ D.i12 (s3.extBut _ _ D.TOi1.symm e)))) (S2.itk _ _ _ j2' λo e=>e8 _ o D.i2z (s5.extBut _ _ D.TOi2.symm e)) p8 n8
  λc o c1 c2 c3 c4 e=>e8 c o c1 (e5 c o c1 c2 c3 c4 e)
theorem zGm(S1:jB prog w i1 l1 it1 sq1)(S2:jB prog w i2 l2 it2 sq2)(D:ZipApart z TI TO i1 i2 l1 l2)(hh:A.handled=none){k1 k2:Nat}{xs ys:Array Value}{a b:Value}{Q:Fin->Shared->Prop}
  (hz:IsZip s.heap z TI TO .none) (hI:IsPair s.heap TI (.ref i1) (.ref i2)) (hO:IsPair s.heap TO a b) (j1:it1 k1 s.heap) (j2:it2 k2 s.heap) (q1:sq1 s.heap xs) (q2:sq2 s.heap ys)
  (hn:xs[k1]?=none\/ys[k2]?=none)
  (q:∀h' e,(∀c o,c≠z->c≠TO->c≠i1->c≠i2->s.heap.get? c=some o->h'.get? c=some o)->(∃o,h'.get? e=some o/\o.cls=.type "StopIteration")->E (.ref e) {s with heap:=h'}):
  wpAny (model prog w) A (Builtin.«zip.__next__» ⟨[.ref z],[]⟩) Q E s:=by
 refine wpAny_bind (m:=field (.ref z) 2) (wpAny_field hz rfl (x:=.bool false) rfl (wpAny_bind (m:=field (.ref z) 3) (wpAny_field hz rfl (x:=.ref TI) rfl (wpAny_bind (wpAny_seqItems hI rfl ?_)))))
 refine wpAny_bind (m:=Builtin.SmallTypes.ownedTupleIsFree (.ref z)) (wpAny_bind (wpAny_field hz rfl (x:=.none) rfl (wpAny_pure ?_)))
 simp only[if_true]
 refine wpAny_bind (wpAny_rule (wpAny_bind (wpAny_field hz rfl (x:=.ref TO) rfl (wpAny_bind (wpAny_setField_rec hz (by simp) λh1 hz1 s1=>?_)))))
 have hz1:IsZip h1 z TI TO .ellipsis:=hz1
 refine wpAny_bind ?_
 simp only[List.zipIdx_cons,List.zipIdx_nil,List.forIn_cons,List.forIn_nil]
 have e1:∀c o,c≠z->s.heap.get? c=some o->h1.get? c=some o:=λc o hc e=>s1.extBut _ _ hc e
 have ez:∀{h:Heap} {e:Addr} {o:Obj},IsZip h z TI TO .ellipsis->h.get? e=some o->o.cls=.type "StopIteration"->e≠z:=λhz ho hc x=>by
  subst x
  rw[hz]at ho
  cases ho
  simp at hc
 cases hx:xs[k1]? with
 |none=>
  refine wpAny_bind (wpAny_bind (wpAny_onRaise (wpAny_bind (m:=Builtin.SmallTypes.nextOf (.ref i1)) (S1.done _ _ _ k1 xs _ hh (S1.itk _ _ _ j1 λo e=>e1 _ o D.i1z e) (S1.sqk _ _ _ q1 λo e=>e1 _ o D.l1z e) hx λh2 e s2 he=>?_))))
  obtain⟨oe,ho,hc⟩:=he
  have hz2:IsZip h2 z TI TO .ellipsis:=s2 _ _ D.i1z.symm hz1
  exact wpAny_setField_rec hz2 (by simp) λh3 _ s3=>q h3 e (λc o c1 _ c3 _ u=>s3.extBut _ _ c1 (s2 _ _ c3 (e1 c o c1 u))) ⟨oe,s3.extBut _ _ (ez hz2 ho hc) ho,hc⟩
 |some x=>
  have hy:ys[k2]?=none:=by
   rcases hn with h|h
   ·rw[hx]at h;cases h
   ·exact h
  refine wpAny_bind (wpAny_bind (wpAny_onRaise (wpAny_bind (m:=Builtin.SmallTypes.nextOf (.ref i1)) (S1.item _ _ _ k1 xs x _ (S1.itk _ _ _ j1 λo e=>e1 _ o D.i1z e) (S1.sqk _ _ _ q1 λo e=>e1 _ o D.l1z e) hx λh2 j1' s2=>wpAny_pure ?_))))
  have e2:∀c o,c≠z->c≠i1->s.heap.get? c=some o->h2.get? c=some o:=λc o c1 c2 e=>s2.extBut _ _ c2 (e1 c o c1 e)
  have hO2:IsPair h2 TO a b:=e2 _ _ D.TOz D.TOi1 hO
  refine wpAny_bind (wpAny_seqItems hO2 rfl (wpAny_bind (wpAny_updateSeq_pair hO2 λh3 hO3 s3=>wpAny_bind (wpAny_letGo (wpAny_pure ?_)))))
  have e3:∀c o,c≠z->c≠i1->c≠TO->s.heap.get? c=some o->h3.get? c=some o:=λc o c1 c2 c3 e=>s3.extBut _ _ c3 (e2 c o c1 c2 e)
  refine wpAny_bind (wpAny_bind (wpAny_onRaise (wpAny_bind (m:=Builtin.SmallTypes.nextOf (.ref i2)) (S2.done _ _ _ k2 ys _ hh (S2.itk _ _ _ j2 λo e=>e3 _ o D.i2z D.i12.symm D.TOi2.symm e) (S2.sqk _ _ _ q2 λo e=>e3 _ o D.l2z D.l2i1 D.l2TO e) hy λh4 e s4 he=>?_))))
  obtain⟨oe,ho,hc⟩:=he
  have hz4:IsZip h4 z TI TO .ellipsis:=s4 _ _ D.i2z.symm (s3.extBut _ _ D.TOz.symm (s2.extBut _ _ D.i1z.symm hz1))
  exact wpAny_setField_rec hz4 (by simp) λh5 _ s5=>q h5 e (λc o c1 c2 c3 c4 u=>s5.extBut _ _ c1 (s4 _ _ c4 (e3 c o c1 c3 c2 u))) ⟨oe,s5.extBut _ _ (ez hz4 ho hc) ho,hc⟩
end
abbrev zT1(hp:Heap)(a b:Addr):Heap:=hp.push {cls:=.type "tuple_iterator",data:=.fields #[.ref a,.int 0 0]}
abbrev zT2(hp:Heap)(a b:Addr):Heap:=(zT1 hp a b).push {cls:=.type "tuple_iterator",data:=.fields #[.ref b,.int 0 0]}
abbrev zT3(hp:Heap)(a b:Addr):Heap:=(zT2 hp a b).push {cls:=.type "tuple",data:=.seq #[.ref hp.objs.size,.ref (zT1 hp a b).objs.size]}
abbrev zT4(hp:Heap)(a b:Addr):Heap:=(zT3 hp a b).push {cls:=.type "tuple",data:=.seq #[.none,.none]}
abbrev zT5(hp:Heap)(a b:Addr):Heap:=(zT4 hp a b).push {cls:=.type "zip",data:=.fields #[.none,.bool false,.bool false,.ref (zT2 hp a b).objs.size,.ref (zT3 hp a b).objs.size]}
theorem zDX(a b:Addr)(xs ys:Array Value):Meets (Builtin.«zip.__new__» ⟨[.type "zip",.ref a,.ref b],[]⟩) (λ_ R s=>s.heap.IsTuple a xs/\s.heap.IsTuple b ys/\R (.ok (.ret (.ref (zT4 s.heap a b).objs.size))) {s with heap:=zT5 s.heap a b}):=
 .of_wp λprog w A R s h=>by
  obtain⟨hp,g,d,tk,os⟩:=s
  obtain⟨ha,hb,h⟩:=h
  have sz:=sub_zip
  have ha:Heap.IsTuple (Shared.heap ⟨hp,g,d,tk,os⟩) a xs:=ha
  have hb:Heap.IsTuple (Shared.heap ⟨hp.push {cls:=.type "tuple_iterator",data:=.fields #[.ref a,.int 0 0]},g,d,tk,os⟩) b ys:=Heap.IsTuple.push hb _
  wp_walk using wpAny_pyIter_tuple ha,wpAny_pyIter_tuple hb
  exact⟨_,rfl,h⟩
theorem zDJ{a b:Addr}{xs ys:Array Value}{Q:Value->Shared->Prop}(ha:s.heap.IsTuple a xs)(hb:s.heap.IsTuple b ys)
  (q:∀h',IsZip h' (s.heap.objs.size+4) (s.heap.objs.size+2) (s.heap.objs.size+3) .none->IsPair h' (s.heap.objs.size+2) (.ref s.heap.objs.size) (.ref (s.heap.objs.size+1))->IsPair h' (s.heap.objs.size+3) .none .none ->
   h'.IsTupleIter s.heap.objs.size a 0->h'.IsTupleIter (s.heap.objs.size+1) b 0->h'.objs.size=s.heap.objs.size+5->(∀c o,s.heap.get? c=some o->h'.get? c=some o)->Q (.ref (s.heap.objs.size+4)) {s with heap:=h'}):
  wpAny (model prog w) A (call (.type "zip") [.ref a,.ref b]) Q E s:=by
 refine callType_new F.called_zip (by decide) (F.typeCall_zip_2 _ _) (F.newCall_zip_2 _ _) (λo=>F.args_object_init_3 o _ _) F.entry_zip_new (zDX a b xs ys) ⟨ha,hb,?_⟩
 have n1:(zT1 s.heap a b).objs.size=s.heap.objs.size+1:=Heap.size_push ..
 have n2:(zT2 s.heap a b).objs.size=s.heap.objs.size+2:=by rw[Heap.size_push,n1]
 have n3:(zT3 s.heap a b).objs.size=s.heap.objs.size+3:=by rw[Heap.size_push,n2]
 have n4:(zT4 s.heap a b).objs.size=s.heap.objs.size+4:=by rw[Heap.size_push,n3]
 have n5:(zT5 s.heap a b).objs.size=s.heap.objs.size+5:=by rw[Heap.size_push,n4]
 have p5:(zT5 s.heap a b).get? (zT4 s.heap a b).objs.size=some _:=Heap.get?_push_size _ rfl
 have p4:(zT5 s.heap a b).get? (zT3 s.heap a b).objs.size=some _:=Heap.get?_push_of_some _ (Heap.get?_push_size _ rfl)
 have p3:(zT5 s.heap a b).get? (zT2 s.heap a b).objs.size=some _:=Heap.get?_push_of_some _ (Heap.get?_push_of_some _ (Heap.get?_push_size _ rfl))
 have p2:(zT5 s.heap a b).get? (zT1 s.heap a b).objs.size=some _:=Heap.get?_push_of_some _ (Heap.get?_push_of_some _ (Heap.get?_push_of_some _ (Heap.get?_push_size _ rfl)))
 have p1:(zT5 s.heap a b).get? s.heap.objs.size=some _:=Heap.get?_push_of_some _ (Heap.get?_push_of_some _ (Heap.get?_push_of_some _ (Heap.get?_push_of_some _ (Heap.get?_push_size _ rfl))))
 show _/\_
 rw[n2,n3,n4]at p5
 rw[n1,n2]at p3
 rw[n3]at p4
 rw[n1]at p2
 rw[n4]
 exact⟨⟨_,p5,rfl⟩,q _ p5 p3 p4 ⟨_,p1,rfl,rfl⟩ ⟨_,p2,rfl,rfl⟩ n5 λc o e=>Heap.get?_push_of_some _ (Heap.get?_push_of_some _ (Heap.get?_push_of_some _ (Heap.get?_push_of_some _ (Heap.get?_push_of_some _ e))))⟩
end
section
variable{X:Cx}{pins:List (Addr×Obj)}{σ:St}{H:Hp}{s:Shared}{h':Heap}
theorem Inv.turnedL{t':Nat}{ch:List Addr}(I:Inv X pins σ H s)(hf:∀b∈ch,dQ X pins H b)(k:∀b o,b∉ch->s.heap.get? b=some o->h'.get? b=some o):Inv X pins σ H {s with heap:=h',toks:=t'}:=by
 have nit:∀b u,H b=some u->b∉ch:=λb u e z=>by rw[(hf b z).1]at e;cases e
 refine I.step (g':=s.gens) (d':=s.drawn) (ch:=ch) (λb hb=>?_) (λb o _ _ hc e _=>k b o hc e) (λb o _ _ hc e _=>⟨o.slots,k b o hc e⟩) (λ_ _ _ _ n=>n)
  (λb o hc e=>⟨o,k b o hc e⟩) (λ_ _ e=>e) (λ_ _ _ e=>e) (λb ps e=>⟨#[],by rw[e];simp⟩) (λm hm=>?_) (λb u e=>?_) I.bare
 ·obtain⟨_,f1,_,f3,f4,f5⟩:=hf b hb
  exact⟨f3,f1,f4,f5⟩
 ·obtain⟨o,es,ep,ho,r⟩:=hm
  exact⟨o,es,ep,k _ o (λz=>(hf _ z).2.1 rfl) ho,r⟩
 ·refine(I.hok b u e).stay (λc v hc q=>k c v ?_ q) (λ_ q=>q) λ_ _ q=>q
  rcases hc with z|z
  ·rw[z];exact nit b u e
  ·exact nit c _ z
end
def SqX(t:Bool)(K:W.Frag)(H:Hp)(a:Addr)(xs:List V):Prop:=match t with
 |false=>SqL K H a xs
 |true=>SqT K H a xs
def Itz(t:Bool)(K:W.Frag)(a b:Addr):It:=
  ⟨λi H=>∃xs ys x y,SqX t K H a xs/\SqX t K H b ys/\xs[i]?=some x/\ys[i]?=some y,
   λi H v H'=>∃p x y,v=.ref p/\H p=none/\H'=upd H p (.tup [x,y])/\(∀xs,SqX t K H a xs->xs[i]?=some x)/\∀ys,SqX t K H b ys->ys[i]?=some y,
   λi H=>∃xs ys,SqX t K H a xs/\SqX t K H b ys/\(xs.length<=i\/ys.length<=i)⟩
def itX(t:Bool)(i a:Addr)(k:Nat)(h:Heap):Prop:=match t with
 |false=>h.IsListIter i a k
 |true=>h.IsTupleIter i a k
def sqX(t:Bool)(a:Addr)(h:Heap)(vs:Array Value):Prop:=match t with
 |false=>h.IsList a vs
 |true=>h.IsTuple a vs
theorem eO{prog:Program}{w:World}(t:Bool)(i a:Addr):jB prog w i a (itX t i a) (sqX t a):=by
 cases t
 ·exact zC5 i a
 ·exact zD6 i a
section
variable{X:Cx}{pins:List (Addr×Obj)}{σ:St}{H:Hp}{s:Shared}
theorem Inv.sqX{t:Bool}{a:Addr}{xs:List V}(I:Inv X pins σ H s)(h:SqX t X.K H a xs):∃vs:List Value,Vals xs vs/\L2.sqX t a s.heap vs.toArray/\xs.length<=sizeLine:=by
 cases t
 ·obtain⟨its,r,p,hz⟩:=I.list h
  exact⟨its,r,p.isList,hz⟩
 ·obtain⟨its,r,p,hz⟩:=I.tuple h
  exact⟨its,r,p,hz⟩
theorem Inv.sqX_inj{t:Bool}{a:Addr}{xs ys:List V}(I:Inv X pins σ H s)(h:SqX t X.K H a xs)(h':SqX t X.K H a ys):xs=ys:=by
 cases t
 ·exact I.list_inj h h'
 ·exact I.tuple_inj h h'
end
theorem zD3{P:Program}{w:World}{K:W.Frag}{es:List Expr}{ek:Nat}{pos:Pos}(t:Bool)(a b z TI TO i1 i2:Addr)(D:ZipApart z TI TO i1 i2 a b):
  fX P w K (.Tuple es ek pos) (Itz t K a b) [z,TI,TO,i1,i2] z (λi h=>IsZip h z TI TO .none/\IsPair h TI (.ref i1) (.ref i2)/\(∃x y,IsPair h TO x y)/\itX t i1 a i h/\itX t i2 b i h) where
 mem:=by simp
 obj:=λi h st c hc=>by
  obtain⟨hz,hI,⟨x,y,hO⟩,j1,j2⟩:=st
  simp only[List.mem_cons,List.not_mem_nil,or_false]at hc
  rcases hc with e|e|e|e|e<;>subst e
  ·exact⟨_,hz,λv u=>by cases u⟩
  ·exact⟨_,hI,λv u=>by cases u⟩
  ·exact⟨_,hO,λv u=>by cases u⟩
  ·exact(eO (prog:=P) (w:=w) t _ a).obj _ _ j1
  ·exact(eO (prog:=P) (w:=w) t _ b).obj _ _ j2
 keep:=λi h h' st k=>by
  obtain⟨hz,hI,⟨x,y,hO⟩,j1,j2⟩:=st
  exact⟨k z (by simp) _ hz,k TI (by simp) _ hI,⟨x,y,k TO (by simp) _ hO⟩,(eO (prog:=P) (w:=w) t i1 a).itk _ _ _ j1 λo e=>k i1 (by simp) o e,(eO (prog:=P) (w:=w) t i2 b).itk _ _ _ j2 λo e=>k i2 (by simp) o e⟩
 item:=by
  intro X hP hw hK hc i pins s σ H E I hf st hg
  subst hP hw hK
  obtain⟨xs,ys,x,y,qa,qb,hx,hy⟩:=hg
  obtain⟨hz,hI,⟨x0,y0,hO⟩,j1,j2⟩:=st
  obtain⟨va,ra,pa,za⟩:=I.sqX qa
  obtain⟨vb,rb,pb,zb⟩:=I.sqX qb
  obtain⟨u,hu,ru⟩:=ra.get hx
  obtain⟨v,hv,rv⟩:=rb.get hy
  have hT:s.TypeIs (.ref z) "zip":=⟨_,hz,rfl⟩
  unfold pyNext
  refine wpAny_bind (wpAny_attempt (wpAny_callSpecial?_slot (name:=Str.ofString "__next__") hT F.slot_zip_next (wpAny_call_entry F.slot_zip_next hT F.entry_zip_next (zE1 (eO t i1 a) (eO t i2 b) D hz hI hO j1 j2 pa pb (x:=u) (y:=v) (by simpa using hu) (by simpa using hv)
   λh' a1 a2 a3 a4 a5 a6 a7=>wpAny_pure ⟨_,rfl,?_⟩) (F.args_zip_next_1 _))))
  refine wpAny_letOwnedTupleGo_zip (s:={s with heap:=h'}) a1 λh2 b1 b2=>?_
  have hn:∀c∈[z,TI,TO,i1,i2],c≠s.heap.objs.size:=λc hc' e=>by
   obtain⟨o,ho,_⟩:∃o,s.heap.get? c=some o/\True:=by
    simp only[List.mem_cons,List.not_mem_nil,or_false]at hc'
    rcases hc' with q|q|q|q|q
    ·exact⟨_,q▸hz,trivial⟩
    ·exact⟨_,q▸hI,trivial⟩
    ·exact⟨_,q▸hO,trivial⟩
    ·obtain⟨o,ho,_⟩:=(eO (prog:=X.prog) (w:=X.w) t i1 a).obj _ _ j1;exact⟨o,q▸ho,trivial⟩
    ·obtain⟨o,ho,_⟩:=(eO (prog:=X.prog) (w:=X.w) t i2 b).obj _ _ j2;exact⟨o,q▸ho,trivial⟩
   exact absurd (Heap.lt_size ho) (by rw[e];exact Nat.lt_irrefl _)
  have I0:Inv X pins σ (upd H s.heap.objs.size (.tup [x,y])) {s with heap:=s.heap.push {cls:=.type "tuple",data:=.seq #[u,v]}}:=
   I.laid (t':=s.toks) (λc o e=>Heap.get?_push_of_some _ e) (Nat.le_refl _) ⟨by show 2<=sizeLine;decide,[u,v],.cons ru (.cons rv .nil),IsTup.new _ _⟩
  have hf0:∀c∈[z,TI,TO,i1,i2],dQ X pins (upd H s.heap.objs.size (.tup [x,y])) c:=λc hc'=>⟨by rw[aY (hn c hc')];exact(hf c hc').1,(hf c hc').2⟩
  have I1:Inv X pins σ (upd H s.heap.objs.size (.tup [x,y])) {s with heap:=h2}:=Inv.turnedL (s:={s with heap:=s.heap.push {cls:=.type "tuple",data:=.seq #[u,v]}}) (t':=s.toks) (ch:=[z,TI,TO,i1,i2]) I0 hf0 λc o hc' e=>by
   simp only[List.mem_cons,List.not_mem_nil,or_false,not_or]at hc'
   obtain⟨c1,c2,c3,c4,c5⟩:=hc'
   by_cases hcn:c=s.heap.objs.size
   ·subst hcn
    have e':(s.heap.push {cls:=.type "tuple",data:=.seq #[u,v]}).get? s.heap.objs.size=some o:=e
    rw[Heap.get?_push_size _ rfl]at e'
    cases e'
    exact b2.extBut _ _ c1 a5
   ·refine b2.extBut _ _ c1 (a7 c o c1 c3 c4 c5 ?_)
    have e':(s.heap.push {cls:=.type "tuple",data:=.seq #[u,v]}).get? c=some o:=e
    rw[Heap.get?_push_ne _ _ _ hcn]at e'
    exact e'
  refine⟨.ref s.heap.objs.size,_,I1,rfl,⟨_,x,y,rfl,I.hok.fresh (Nat.le_refl _),rfl,λxs' h=>by rw[I.sqX_inj h qa];exact hx,λys' h=>by rw[I.sqX_inj h qb];exact hy⟩,⟨b1,?_,⟨u,v,b2.extBut _ _ D.TOz a2⟩,?_,?_⟩,λc hc'=>(hf0 c hc').1⟩
  ·exact b2.extBut _ _ D.TIz (a7 _ _ D.TIz D.TITO D.TIi1 D.TIi2 hI)
  ·exact(eO (prog:=X.prog) (w:=X.w) t i1 a).itk _ _ _ a3 λo e=>b2.extBut _ _ D.i1z e
  ·exact(eO (prog:=X.prog) (w:=X.w) t i2 b).itk _ _ _ a4 λo e=>b2.extBut _ _ D.i2z e
 done:=by
  intro X hP hw hK hc i pins s σ H E I hf st hg
  subst hP hw hK
  obtain⟨xs,ys,qa,qb,hl⟩:=hg
  obtain⟨hz,hI,⟨x0,y0,hO⟩,j1,j2⟩:=st
  obtain⟨va,ra,pa,za⟩:=I.sqX qa
  obtain⟨vb,rb,pb,zb⟩:=I.sqX qb
  have la:=ra.length
  have lb:=rb.length
  have hT:s.TypeIs (.ref z) "zip":=⟨_,hz,rfl⟩
  unfold pyNext
  refine wpAny_bind (wpAny_attempt (wpAny_callSpecial?_slot (name:=Str.ofString "__next__") hT F.slot_zip_next (wpAny_call_entry F.slot_zip_next hT F.entry_zip_next (zGm (eO t i1 a) (eO t i2 b) D (show X.A.in1.handled=none from I.ok.hd hc) hz hI hO j1 j2 pa pb
   (hl.elim (λh=>.inl (by simp;omega)) λh=>.inr (by simp;omega)) λh' e k he=>?_) (F.args_zip_next_1 _))))
  obtain⟨o,ho,hce⟩:=he
  refine wpAny_bind (wpAny_isInstance (T:="StopIteration") (b:=true) ⟨o,ho,hce⟩ isSubtype_stop (wpAny_pure ⟨rfl,I.turnedL (t':=s.toks) hf λc o hc' e=>?_⟩))
  simp only[List.mem_cons,List.not_mem_nil,or_false,not_or]at hc'
  exact k c o hc'.1 hc'.2.2.1 hc'.2.2.2.1 hc'.2.2.2.2 e
 self:=λ_ _ _ _ _ st h=>wpAny_pyIter_zip st.1 h
theorem zGn{n a b:Nat}(ha:a<n)(hb:b<n):ZipApart (n+4) (n+2) (n+3) n (n+1) a b:=by
 constructor<;>(intro (e:(_:Nat)=_);omega)
theorem zDR:bootBuiltins "zip"=some (.type "zip"):=by decide +kernel
section
variable{X:Cx}
def zJD(K:W.Frag)(ta:TA):TI:=λσ H R=>ta σ H λvs H1=>∃(t:Bool) (a b:Addr),vs=[.ref a,.ref b]/\(∃xs,SqX t K H1 a xs)/\(∃ys,SqX t K H1 b ys)/\R (Itz t K a b) H1
theorem zG9{a b:Expr}{ta:TA}{es:List Expr}{ek:Nat}{p pos pos':Pos}(hg:Gl X "zip")(hm:X.mg "zip"=none)(ha:PA X [a,b] ta)(hs:starEach [a,b] X.env=[(false,eval a X.env),(false,eval b X.env)]:=by rfl)(hs2:starEach [b] X.env=[(false,eval b X.env)]:=by rfl):
  PI X (.Tuple es ek pos') (.Call (.Name "zip" p) [a,b] [] pos) (zJD X.K ta):=by
 intro pins s σ H R I h
 refine Call_ (iS I hg hm zDR (PyProof.Rows.callWith_type1 (thn (ha pos pins s σ H _ I h) λus s1 ⟨vs,H1,I1,r1,q1⟩=>?_) (by rw[hs,hs2]) (by rw[hs2];rfl)))
 obtain⟨t,a,b,e,⟨xs,hx⟩,⟨ys,hy⟩,q⟩:=q1
 subst e
 obtain⟨u,w',rfl,rx,ry⟩:=gI r1
 cases rx
 cases ry
 obtain⟨va,ra,pa,za⟩:=I1.sqX hx
 obtain⟨vb,rb,pb,zb⟩:=I1.sqX hy
 have la:a<s1.heap.objs.size:=by
  cases t
  ·obtain⟨o,e,_⟩:=pa;exact Heap.lt_size e
  ·obtain⟨o,e,_⟩:=pa;exact Heap.lt_size e
 have lb:b<s1.heap.objs.size:=by
  cases t
  ·obtain⟨o,e,_⟩:=pb;exact Heap.lt_size e
  ·obtain⟨o,e,_⟩:=pb;exact Heap.lt_size e
 have fin:∀h':Heap,IsZip h' (s1.heap.objs.size+4) (s1.heap.objs.size+2) (s1.heap.objs.size+3) .none->IsPair h' (s1.heap.objs.size+2) (.ref s1.heap.objs.size) (.ref (s1.heap.objs.size+1))->IsPair h' (s1.heap.objs.size+3) .none .none ->
   itX t s1.heap.objs.size a 0 h'->itX t (s1.heap.objs.size+1) b 0 h'->h'.objs.size=s1.heap.objs.size+5->(∀c o,s1.heap.get? c=some o->h'.get? c=some o) ->
   wpAny (model X.prog X.w) X.A (pyIter (.ref (s1.heap.objs.size+4))) (PIE X pins σ (.Tuple es ek pos') R) X.xe {s1 with heap:=h'}:=by
  intro h' hz hI hO j1 j2 _ k
  refine wpAny_pyIter_zip hz ?_
  refine⟨_,[s1.heap.objs.size+4,s1.heap.objs.size+2,s1.heap.objs.size+3,s1.heap.objs.size,s1.heap.objs.size+1],_,_,H1,rfl,I1.kept (t':=s1.toks) k,zD3 t a b _ _ _ _ _ ?_,⟨hz,hI,⟨_,_,hO⟩,j1,j2⟩,λc hc=>?_,q⟩
  ·exact zGn la lb
  ·have:s1.heap.objs.size<=c:=by
    simp only[List.mem_cons,List.not_mem_nil,or_false]at hc
    rcases hc with e|e|e|e|e<;>(rw[e];first|exact Nat.le_refl _|exact Nat.le_add_right _ _)
   exact I1.fpOk this (I1.hok.fresh this)
 cases t
 ·exact call_zip_2 pa pb fin
 ·exact zDJ pa pb fin
end
section
variable{X:Cx}
theorem zDN(hc:X.calm=true):CallR X (.builtin "min") (λxs H Q=>∃(p:Addr) (ns:List Int),xs=[.ref p]/\SqL X.K H p (ns.map V.int)/\0<ns.length/\∀M,M∈ns->(∀a∈ns,M<=a)->Q (.int M) H):=by
 intro pins s σ H xs us Q I r h
 obtain⟨p,ns,rfl,hq,hn,q⟩:=h
 obtain⟨u,rfl,rx⟩:=bZ r
 cases rx
 obtain⟨its,rv,pl,hz⟩:=I.list hq
 have hi:IntsAre its ns:=jH rv
 obtain⟨zs,ez⟩:=hi.allInts.items
 have en:ns=zs.toList.map (·.1):=by rw[<-hi.numsOf,<-nums_intItems,<-ez]
 have hz0:0<zs.size:=by rw[en,List.length_map,Array.length_toList]at hn;exact hn
 have hl:=pl.isList
 rw[ez]at hl
 refine min_intList (I.ok.hd hc) hl hz0 λv h' tk hv hk=>?_
 obtain⟨t,rfl⟩:=intItems_at hv
 obtain⟨h1,h2⟩:=argBest_lt (numAt zs) (zs.size-1)
 refine⟨.int _,H,I.kept hk,⟨t,rfl⟩,q _ ?_ λa ha=>?_⟩
 ·rw[en,numAt_eq]
  exact getD_mem (by rw[List.length_map,Array.length_toList];omega)
 ·rw[en]at ha
  obtain⟨j,hj,rfl⟩:=mem_getD ha
  rw[List.length_map,Array.length_toList]at hj
  have:=h2 j (by omega)
  rw[numAt_eq zs j]at this
  exact this
theorem zDP(hc:X.calm=true):CallR X (.builtin "max") (λxs H Q=>∃(p:Addr) (ns:List Int),xs=[.ref p]/\SqL X.K H p (ns.map V.int)/\0<ns.length/\∀M,M∈ns->(∀a∈ns,a<=M)->Q (.int M) H):=by
 intro pins s σ H xs us Q I r h
 obtain⟨p,ns,rfl,hq,hn,q⟩:=h
 obtain⟨u,rfl,rx⟩:=bZ r
 cases rx
 obtain⟨its,rv,pl,hz⟩:=I.list hq
 have hi:IntsAre its ns:=jH rv
 obtain⟨zs,ez⟩:=hi.allInts.items
 have en:ns=zs.toList.map (·.1):=by rw[<-hi.numsOf,<-nums_intItems,<-ez]
 have hz0:0<zs.size:=by rw[en,List.length_map,Array.length_toList]at hn;exact hn
 have hl:=pl.isList
 rw[ez]at hl
 refine max_intList (I.ok.hd hc) hl hz0 λv h' tk hv hk=>?_
 obtain⟨t,rfl⟩:=intItems_at hv
 obtain⟨h1,h2⟩:=argBest_gt (numAt zs) (zs.size-1)
 refine⟨.int _,H,I.kept hk,⟨t,rfl⟩,q _ ?_ λa ha=>?_⟩
 ·rw[en,numAt_eq]
  exact getD_mem (by rw[List.length_map,Array.length_toList];omega)
 ·rw[en]at ha
  obtain⟨j,hj,rfl⟩:=mem_getD ha
  rw[List.length_map,Array.length_toList]at hj
  have:=h2 j (by omega)
  rw[numAt_eq zs j]at this
  exact this
end
end L2
namespace L2
open PySem PySem.Spec PyProof.Rows
theorem vA{us:List Value}{ns:List Int}(h:IntsAre us ns):Vals (ns.map V.int) us:=by
 induction h with
 |nil=>exact .nil
 |cons n t _ ih=>exact .cons ⟨t,rfl⟩ ih
section
variable{X:Cx}
theorem call_sortedI:CallR X (.builtin "sorted") (λxs H Q=>∃(p:Addr) (ns:List Int),xs=[.ref p]/\SqL X.K H p (ns.map V.int)/\ns.length<64 /\
  ∀(ns':List Int) (l:Addr),ns'.Perm ns->ns'.Pairwise (·<=·)->H l=none->Q (.ref l) (upd H l (.lst (ns'.map V.int)))):=by
 intro pins s σ H xs us Q I r h
 obtain⟨p,ns,rfl,hq,h64,q⟩:=h
 obtain⟨u,rfl,rx⟩:=bZ r
 cases rx
 obtain⟨its,rv,pl,hz⟩:=I.list hq
 have hi:IntsAre its ns:=jH rv
 have hll:=rv.length
 rw[List.length_map]at hll
 refine sorted_ints pl.isList hi (by omega) λout ns' a1 a2 a3=>?_
 obtain⟨e,he⟩:=sortedAll_at s.heap its out
 have hlen:=a2.length_eq
 refine⟨.ref (s.heap.objs.size+1),_,I.laid (t':=s.toks) (λb o e=>sortedAll_old e) (Nat.le_succ _) (show ObjOk X.prog X.w _ _ _ (.lst (ns'.map V.int)) from ⟨?_,out.toList,e,vA a1,he⟩),rfl,q ns' _ a2 a3 (I.hok.fresh (Nat.le_succ _))⟩
 rw[List.length_map,hlen]
 exact Nat.le_of_lt (Nat.lt_trans h64 (by decide))
end
end L2
namespace L2
open PySem PySem.Spec PyProof.Rows
def Its(x:Str):It:=⟨λi _=>i<x.cps.size,λi H v H'=>H'=H/\∃c,x.cps[i]?=some c/\v=.str ⟨#[c]⟩,λi _=>x.cps.size<=i⟩
theorem zC1{P:Program}{w:World}{K:W.Frag}{tg:Expr}(it:Addr)(x:Str)(t:Tok):fX P w K tg (Its x) [it] it (λi h=>h.IsStrIter it "str_ascii_iterator" x t i) where
 mem:=by simp
 obj:=λi h st b hb=>by
  have e:b=it:=by simpa using hb
  subst e
  obtain⟨o,e,c,d⟩:=st
  exact⟨o,e,λv z=>by rw[d]at z;cases z⟩
 keep:=λi h h' st k=>let ⟨o,ho,r⟩:=st;⟨o,k it (by simp) o ho,r⟩
 item:=by
  intro X hP hw hK hc i pins s σ H E I hf st hg
  subst hP hw hK
  obtain⟨f0,f1,f2,f3,f4,f5⟩:=hf it (by simp)
  have W:=Walks.strAscii (prog:=X.prog) (w:=X.w) (I.ok.hd hc) it x t
  refine W.item i s _ _ hg st λv h' tk hv st' kk=>?_
  obtain⟨c,u,hc',rfl⟩:=hv
  have I1:Inv X pins σ H {s with heap:=h',toks:=tk}:=I.turned (λb o hb e=>kk b o (by simpa using hb) e) f0 f1 f3 f4 f5
  obtain⟨o,e,c1,d⟩:=id st'
  exact⟨_,rfl,kJ (s:={s with heap:=h',toks:=tk}) e c1 d (by decide) ⟨.str ⟨#[c]⟩,H,I1,⟨u,rfl⟩,⟨rfl,c,hc',rfl⟩,st',λb hb=>(hf b hb).1⟩⟩
 done:=by
  intro X hP hw hK hc i pins s σ H E I hf st hg
  subst hP hw hK
  obtain⟨f0,f1,f2,f3,f4,f5⟩:=hf it (by simp)
  exact wpAny_pyNext_ascii_end (I.ok.hd hc) st (by have:x.cps.size<=i:=hg;simp;omega) λh' eb=>⟨rfl,I.turned (t':=s.toks) (λb o hb e=>eb b o hb e) f0 f1 f3 f4 f5⟩
 self:=λ_ _ _ _ _ st h=>wpAny_pyIter_striter_ascii st h
theorem zC0{P:Program}{w:World}{K:W.Frag}{tg:Expr}(it:Addr)(x:Str)(t:Tok):fX P w K tg (Its x) [it] it (λi h=>h.IsStrIter it "str_iterator" x t i) where
 mem:=by simp
 obj:=λi h st b hb=>by
  have e:b=it:=by simpa using hb
  subst e
  obtain⟨o,e,c,d⟩:=st
  exact⟨o,e,λv z=>by rw[d]at z;cases z⟩
 keep:=λi h h' st k=>let ⟨o,ho,r⟩:=st;⟨o,k it (by simp) o ho,r⟩
 item:=by
  intro X hP hw hK hc i pins s σ H E I hf st hg
  subst hP hw hK
  obtain⟨f0,f1,f2,f3,f4,f5⟩:=hf it (by simp)
  have W:=Walks.strWide (prog:=X.prog) (w:=X.w) (I.ok.hd hc) it x t
  refine W.item i s _ _ hg st λv h' tk hv st' kk=>?_
  obtain⟨c,u,hc',rfl⟩:=hv
  have I1:Inv X pins σ H {s with heap:=h',toks:=tk}:=I.turned (λb o hb e=>kk b o (by simpa using hb) e) f0 f1 f3 f4 f5
  obtain⟨o,e,c1,d⟩:=id st'
  exact⟨_,rfl,kJ (s:={s with heap:=h',toks:=tk}) e c1 d (by decide) ⟨.str ⟨#[c]⟩,H,I1,⟨u,rfl⟩,⟨rfl,c,hc',rfl⟩,st',λb hb=>(hf b hb).1⟩⟩
 done:=by
  intro X hP hw hK hc i pins s σ H E I hf st hg
  subst hP hw hK
  obtain⟨f0,f1,f2,f3,f4,f5⟩:=hf it (by simp)
  exact wpAny_pyNext_wide_end (I.ok.hd hc) st (by have:x.cps.size<=i:=hg;simp;omega) λh' eb=>⟨rfl,I.turned (t':=s.toks) (λb o hb e=>eb b o hb e) f0 f1 f3 f4 f5⟩
 self:=λ_ _ _ _ _ st h=>wpAny_pyIter_striter_wide st h
section
variable{X:Cx}
def zFr:V->List V->Hp->VK->Prop:=λx vs H Q=>∃i j,x=.str i/\vs=[.str j]/\Q (.bl (decide (0+j.length<=i.length)&&Builtin.Str.subAt i j 0)) H
theorem zBK:MtM X "str.startswith" zFr:=by
 intro pins s σ H x vs v us Q I rx rv h
 obtain⟨i,j,rfl,rfl,q⟩:=h
 obtain⟨t,rfl⟩:=rx
 obtain⟨u,rfl,t',rfl⟩:=rv.one
 exact call_gives F.slot_str_startswith (typeIs_str _ _ _) F.entry_str_startswith (F.args_str_startswith_2 _ _) (gives_str_startswith i j t t') ⟨.bl _,H,I,rfl,q⟩
def zIr:V->List V->Hp->VK->Prop:=λx vs H Q=>∃i j,x=.str i/\vs=[.str j]/\∀n:Int,Q (.int n) H
theorem zFT:MtM X "str.find" zIr:=by
 intro pins s σ H x vs v us Q I rx rv h
 obtain⟨i,j,rfl,rfl,q⟩:=h
 obtain⟨t,rfl⟩:=rx
 obtain⟨u,rfl,t',rfl⟩:=rv.one
 exact call_gives F.slot_str_find (typeIs_str _ _ _) F.entry_str_find (F.args_str_find_2 _ _) (gives_str_find i j t t') ⟨.int _,H,I.tok _,⟨_,rfl⟩,q _⟩
theorem boot_repr:bootBuiltins "repr"=some (.builtin "repr"):=by decide +kernel
end
def KD(prm:Params):List DictEntry->List (Str×Str)->Prop
 |[],[]=>True
 |e::es,kv::kvs=>e.hash=PyData.keyHash prm kv.1/\(∃t,e.key=.str kv.1 t)/\(∃t,e.val=.str kv.2 t)/\KD prm es kvs
 |_,_=>False
structure zAZ (K:W.Frag) (prm:Params) (d:Addr) (kvs:List (Str×Str)):Prop where
 obj:∃(es:Array DictEntry) (ep:Nat),K.lookup d=some ⟨.type "dict",none,.dict es ep,#[]⟩/\KD prm es.toList kvs
 nd:(kvs.map (·.1)).Nodup
def getS(kvs:List (Str×Str))(x:Str):Option Str:=(kvs.find? λkv=>kv.1=x).map (·.2)
theorem KD.keys{P:Program}{w:World}:∀{es:List DictEntry}{kvs:List (Str×Str)},KD w.params es kvs->∀e∈es,∃k,(bK P w).is k e.key=true/\e.hash=(bK P w).hash k
 |[],[],_,e,he=>nomatch he
 |a::es,kv::kvs,⟨h1,⟨t,h2⟩,_,h4⟩,e,he=>by
  rcases List.mem_cons.mp he with z|z
  ·subst z
   exact⟨.inr kv.1,by rw[h2];exact mI P w kv.1 t,by rw[h1];rfl⟩
  ·exact KD.keys h4 e z
theorem KD.pairs{P:Program}{w:World}:∀{es:List DictEntry}{kvs:List (Str×Str)},KD w.params es kvs->∃vs:List (Key×Value),Pairs (bK P w) es vs/\vs.map (·.1)=kvs.map (λkv=>Sum.inr kv.1) /\
  ∀x y,getS kvs x=some y->∃t,valueAt vs (.inr x)=some (.str y t)
 |[],[],_=>⟨[],.nil,rfl,λx y h=>nomatch h⟩
 |a::es,kv::kvs,⟨h1,⟨t,h2⟩,⟨t',h3⟩,h4⟩=>by
  obtain⟨vs,p,m,g⟩:=KD.pairs (P:=P) h4
  refine⟨(.inr kv.1,.str kv.2 t')::vs,.cons (by rw[h2];exact mI P w kv.1 t) h3 p,by simp[m],λx y h=>?_⟩
  by_cases e:kv.1=x
  ·subst e
   have:kv.2=y:=by simpa[getS]using h
   subst this
   exact⟨t',by simp[valueAt]⟩
  ·have h':getS kvs x=some y:=by simpa[getS,e]using h
   obtain⟨t'',h''⟩:=g x y h'
   exact⟨t'',by
    have:(Sum.inr kv.1:Key)≠.inr x:=λz=>e (Sum.inr.inj z)
    simpa[valueAt,this]using h''⟩
section
variable{X:Cx}
def rKD(d:Addr)(kvs:List (Str×Str)):R2:=λx y H Q=>∃i j,x=.ref d/\y=.str i/\getS kvs i=some j/\Q (.str j) H
theorem zIL{d:Addr}{kvs:List (Str×Str)}(D:zAZ X.K X.w.params d kvs):IxR X (rKD d kvs):=by
 intro value slice pins s σ H x y v u Q I rx ry h hs
 obtain⟨i,j,rfl,rfl,hg,q⟩:=h
 cases rx
 obtain⟨t,rfl⟩:=ry
 obtain⟨es,ep,lk,kd⟩:=D.obj
 obtain⟨vs,hp,hm,hv⟩:=KD.pairs (P:=X.prog) kd
 obtain⟨t',hv⟩:=hv i j hg
 have ho:=I.kIn d _ lk
 have hnd:(vs.map (·.1)).Nodup:=by
  rw[hm,show kvs.map (λkv=>(Sum.inr kv.1:Key))=(kvs.map (·.1)).map Sum.inr by simp]
  unfold List.Nodup
  rw[List.pairwise_map]
  exact D.nd.imp λh z=>h (Sum.inr.inj z)
 have dd:s.heap.DictOf (bK X.prog X.w) d vs:=⟨_,es,ep,ho,⟨rfl,rfl,rfl⟩,rfl,λe he=>KD.keys kd e (by simpa using he),hp,hnd⟩
 exact tail_any ⟨_,ho,rfl⟩ slot_dict_getitem.lookup (wpAny_getItem_of (mI _ _ i t) dd.mapOf hv ⟨.str j,H,I.tok _,⟨t',rfl⟩,q⟩) hs
end
section
variable{X:Cx}
def zJl:V->Option Int->Option Int->Hp->VK->Prop:=λx lo hi H Q=>∃z,x=.str z/\z.length<=sizeLine/\Q (.str (Txt.slice z lo hi)) H
theorem zGG:SlR X zJl:=by
 intro pins s σ H x v vl vu lo hi sl Q I rx hs pl pu h
 obtain⟨z,rfl,hz,q⟩:=h
 obtain⟨t,rfl⟩:=rx
 obtain⟨o,ho,hc,hd⟩:=hs
 refine⟨"str",_,F.slot_str_getitem.lookup,typeIs_str _ _ _,?_⟩
 have fin:∀t' k,EP X pins σ Q (.str (Txt.slice z lo hi) t') {s with toks:=k}:=λt' k=>⟨.str _,H,I.tok k,⟨t',rfl⟩,q⟩
 cases pl with
 |none=>cases pu with
  |none=>exact wpAny_getItem_str_slice (l:=none) (u:=none) (st:=none) ⟨o,ho,hc,hd⟩ rfl (post_val_or_str ⟨Nat.le_trans (Txt.slice_le z _ _) hz,fin⟩)
  |int j uj=>exact wpAny_getItem_str_slice (l:=none) (u:=some (j,uj)) (st:=none) ⟨o,ho,hc,hd⟩ rfl (post_val_or_str ⟨Nat.le_trans (Txt.slice_le z _ _) hz,fin⟩)
 |int i ui=>cases pu with
  |none=>exact wpAny_getItem_str_slice (l:=some (i,ui)) (u:=none) (st:=none) ⟨o,ho,hc,hd⟩ rfl (post_val_or_str ⟨Nat.le_trans (Txt.slice_le z _ _) hz,fin⟩)
  |int j uj=>exact wpAny_getItem_str_slice (l:=some (i,ui)) (u:=some (j,uj)) (st:=none) ⟨o,ho,hc,hd⟩ rfl (post_val_or_str ⟨Nat.le_trans (Txt.slice_le z _ _) hz,fin⟩)
theorem kY{ss:List Str}:∀{us:List Value},Vals (ss.map V.str) us->StrsAre us ss:=by
 induction ss with
 |nil=>intro us r;rw[List.map_nil]at r;cases r;exact .nil
 |cons n ns ih=>
  intro us r
  rw[List.map_cons]at r
  cases r with
  |cons r1 r2=>
   obtain⟨t,e⟩:=r1
   subst e
   exact .cons n t (ih r2)
theorem pN{us:List Value}{ss:List Str}(h:StrsAre us ss):Vals (ss.map V.str) us:=by
 induction h with
 |nil=>exact .nil
 |cons n t _ ih=>exact .cons ⟨t,rfl⟩ ih
theorem call_sortedS:CallR X (.builtin "sorted") (λxs H Q=>∃(p:Addr) (ss:List Str),xs=[.ref p]/\SqL X.K H p (ss.map V.str)/\ss.length<64 /\
  ∀(ss':List Str) (l:Addr),ss'.Perm ss->sortedS ss'=true->H l=none->Q (.ref l) (upd H l (.lst (ss'.map V.str)))):=by
 intro pins s σ H xs us Q I r h
 obtain⟨p,ns,rfl,hq,h64,q⟩:=h
 obtain⟨u,rfl,rx⟩:=bZ r
 cases rx
 obtain⟨its,rv,pl,hz⟩:=I.list hq
 have hi:StrsAre its ns:=kY rv
 have hll:=rv.length
 rw[List.length_map]at hll
 refine sorted_strs pl.isList hi (by omega) λout ns' a1 a2 a3=>?_
 obtain⟨e,he⟩:=sortedAll_at s.heap its out
 have hlen:=a2.length_eq
 refine⟨.ref (s.heap.objs.size+1),_,I.laid (t':=s.toks) (λb o e=>sortedAll_old e) (Nat.le_succ _) (show ObjOk X.prog X.w _ _ _ (.lst (ns'.map V.str)) from ⟨?_,out.toList,e,pN a1,he⟩),rfl,q ns' _ a2 a3 (I.hok.fresh (Nat.le_succ _))⟩
 rw[List.length_map,hlen]
 exact Nat.le_of_lt (Nat.lt_trans h64 (by decide))
def bH(ss:List Str):List Nat:=(ss.map λs=>s.cps.toList).flatten
theorem yX:∀{us:List Value}{ss:List Str},StrsAre us ss->∃l:List (Str×Tok),us=strValues l/\l.map (·.1)=ss
 |_,_,.nil=>⟨[],rfl,rfl⟩
 |_,_,.cons y t h=>by
  obtain⟨l,e1,e2⟩:=yX h
  exact⟨(y,t)::l,by rw[e1];rfl,by simp[e2]⟩
theorem qW:∀ss:List Str,(Str.join ⟨#[]⟩ ss).cps.toList=bH ss
 |[]=>rfl
 |[x]=>by simp[Str.join,bH]
 |x::y::r=>by
  have ih:=qW (y::r)
  show((x++(⟨#[]⟩:Str)++Str.join ⟨#[]⟩ (y::r)):Str).cps.toList=_
  have e:∀a b:Str,(a++b).cps.toList=a.cps.toList++b.cps.toList:=λa b=>by
   show(a.cps++b.cps).toList=_
   simp
  rw[e,e,ih]
  simp[bH]
theorem yY:∀(ss:List Str) (n:Nat),ss.foldl (λa s=>a+s.length+0) n=n+(bH ss).length
 |[],n=>by simp[bH]
 |s::r,n=>by
  rw[List.foldl_cons,yY r]
  simp[bH,Str.length]
  omega
def zIq(K:W.Frag):V->List V->Hp->VK->Prop:=λx vs H Q=>∃p ss,x=.str ⟨#[]⟩/\vs=[.ref p]/\SqL K H p (ss.map V.str)/\(bH ss).length<=100000/\∀z:Str,z.cps.toList=bH ss->Q (.str z) H
theorem zFS:MtM X "str.join" (zIq X.K):=by
 intro pins s σ H x vs v us Q I rx rv h
 obtain⟨p,ss,rfl,rfl,hq,hz,q⟩:=h
 obtain⟨t,rfl⟩:=rx
 obtain⟨u,rfl,ru⟩:=rv.one
 cases ru
 obtain⟨its,rv,pl,hz'⟩:=I.list hq
 obtain⟨l,e1,e2⟩:=yX (kY rv)
 have hl:=pl.isList
 rw[e1]at hl
 have hlen:((l.map (·.1)).toArray.foldl (λa s=>a+s.length+(⟨#[]⟩:Str).length) 0)=(bH ss).length:=by
  rw[e2,List.foldl_toArray]
  show ss.foldl (λa s=>a+s.length+0) 0=_
  rw[yY]
  omega
 refine call_meets F.slot_str_join (typeIs_str _ _ _) F.entry_str_join (F.args_str_join_2 _ _) (meets_str_join_list ⟨#[]⟩ t p l (by
  rw[hlen]
  show decide (_ > sizeLine)=false
  exact decide_eq_false (Nat.not_lt.mpr (Nat.le_trans hz (by decide))))) ⟨hl,?_⟩
 have hj:∀z:Str,z=Str.join ⟨#[]⟩ ss->∀t' k,EP X pins σ Q (.str z t') {s with toks:=k}:=λz e t' k=>⟨.str z,H,I.tok k,⟨t',rfl⟩,q z (by rw[e,qW])⟩
 have hlz:(Str.join ⟨#[]⟩ ss).length<=sizeLine:=by
  show(Str.join ⟨#[]⟩ ss).cps.size<=_
  rw[<-Array.length_toList,qW]
  exact Nat.le_trans hz (by decide)
 match l,e2 with
 |[],e2=>exact⟨by rw[StrLaws.glued_eq_join];exact Nat.zero_le _,hj _ (by rw[<-e2];rw[StrLaws.glued_eq_join]) _ _⟩
 |[pp],e2=>exact hj _ (by rw[<-e2];rfl) _ s.toks
 |a::b::r,e2=>exact⟨by rw[StrLaws.glued_eq_join,e2];exact hlz,hj _ (by rw[StrLaws.glued_eq_join,e2]) _ _⟩
end
end L2
namespace L2
open PySem PySem.Spec PyProof.Rows
def dE(xs:Array Nat):Prop:=∀i j:Nat,i<j->∀a b,xs[i]?=some a->xs[j]?=some b->a<b
structure Bel (xs:Array Nat) (j p:Nat):Prop where
 le:p<=xs.size
 lt:∀i a,i<p->xs[i]?=some a->a<j
 ge:∀i a,p<=i->xs[i]?=some a->j<=a
theorem rA{xs:Array Nat}(R:dE xs)(j:Nat):∀(f lo hi:Nat),hi-lo<=f->lo<=hi->hi<=xs.size->(∀i a,i<lo->xs[i]?=some a->a<j)->(∀i a,hi<=i->xs[i]?=some a->j<=a)->Bel xs j (SetTable.below.go xs j f lo hi)
 |0,lo,hi,h,l,z,h1,h2=>by
  rw[SetTable.below.go.eq_1]
  have:lo=hi:=by omega
  subst this
  exact⟨z,h1,h2⟩
 |f+1,lo,hi,h,l,z,h1,h2=>by
  rw[SetTable.below.go.eq_2]
  by_cases c:lo<hi
  ·rw[if_pos c]
   have hm:(lo+hi) / 2<xs.size:=by omega
   have em:xs[(lo+hi) / 2]?=some xs[(lo+hi) / 2]:=Array.getElem?_eq_getElem hm
   have eg:xs.getD ((lo+hi) / 2) j=xs[(lo+hi) / 2]:=by simp[Array.getD,hm]
   dsimp only
   rw[eg]
   by_cases d:xs[(lo+hi) / 2]<j
   ·rw[if_pos d]
    refine rA R j f _ _ (by omega) (by omega) z (λi a hi' e=>?_) h2
    by_cases q:i=(lo+hi) / 2
    ·subst q;rw[em]at e;cases e;exact d
    ·exact Nat.lt_trans (R i _ (by omega) a _ e em) d
   ·rw[if_neg d]
    refine rA R j f _ _ (by omega) (by omega) (by omega) h1 λi a hi' e=>?_
    by_cases q:i=(lo+hi) / 2
    ·subst q;rw[em]at e;cases e;omega
    ·have:=R _ i (by omega) _ a em e;omega
  ·rw[if_neg c]
   have:lo=hi:=by omega
   subst this
   exact⟨z,h1,h2⟩
theorem yP{xs:Array Nat}(R:dE xs)(j:Nat):Bel xs j (SetTable.below xs j):=by
 unfold SetTable.below
 refine rA R j _ _ _ (by omega) (Nat.zero_le _) (Nat.le_refl _) (λi a h=>absurd h (Nat.not_lt_zero _)) λi a h e=>?_
 have:=(Array.getElem?_eq_some_iff.mp e).1
 omega
theorem zEP{xs:Array Nat}(R:dE xs){j p:Nat}(B:Bel xs j p):SetTable.below xs j=p:=by
 have C:=yP R j
 generalize SetTable.below xs j=q at C
 rcases Nat.lt_trichotomy p q with h|h|h
 ·have hp:p<xs.size:=by have:=C.le;omega
  have e:=Array.getElem?_eq_getElem hp
  have:=C.lt p _ h e
  have:=B.ge p _ (Nat.le_refl _) e
  omega
 ·exact h.symm
 ·have hp:q<xs.size:=by have:=B.le;omega
  have e:=Array.getElem?_eq_getElem hp
  have:=B.lt q _ h e
  have:=C.ge q _ (Nat.le_refl _) e
  omega
theorem zCE{xs:Array Nat}{p x:Nat}(hp:p<=xs.size)(i:Nat):(SetTable.insertAt xs p x)[i]?=if i<p then xs[i]? else if i=p then some x else xs[i-1]?:=by
 unfold SetTable.insertAt
 have s0:(xs.extract 0 p).size=p:=by simp[Array.size_extract];omega
 rw[Array.getElem?_append]
 rw[Array.size_push,s0]
 by_cases h1:i<p
 ·rw[if_pos h1,if_pos (by omega),Array.getElem?_push,if_neg (by rw[s0];omega),Array.getElem?_extract]
  simp[h1]
  intro z;omega
 ·rw[if_neg h1]
  by_cases h2:i=p
  ·subst h2
   rw[if_pos rfl,if_pos (by omega),Array.getElem?_push,if_pos s0.symm]
  ·rw[if_neg h2,if_neg (by omega),Array.getElem?_extract]
   have e:p+(i-(p+1))=i-1:=by omega
   rw[e]
   by_cases z:i-1<xs.size
   ·simp;omega
   ·simp[z]
theorem zBW{xs:Array Nat}(R:dE xs){x:Nat}(h:xs[SetTable.below xs x]?≠some x):dE (SetTable.insertAt xs (SetTable.below xs x) x):=by
 have B:=yP R x
 generalize SetTable.below xs x=p at B h
 have hg:∀i a,p<=i->xs[i]?=some a->x<a:=λi a hi e=>by
  rcases Nat.lt_or_ge x a with q|q
  ·exact q
  ·exfalso
   have ax:=B.ge i a hi e
   have:a=x:=by omega
   subst this
   by_cases z:i=p
   ·exact h (z▸e)
   ·have lt:=(Array.getElem?_eq_some_iff.mp e).1
    have hp:p<xs.size:=by omega
    have ep:=Array.getElem?_eq_getElem hp
    have:=R p i (by omega) _ _ ep e
    have:=B.ge p _ (Nat.le_refl _) ep
    omega
 intro i j hij a b ha hb
 rw[zCE B.le]at ha hb
 by_cases i1:i<p
 ·rw[if_pos i1]at ha
  by_cases j1:j<p
  ·rw[if_pos j1]at hb;exact R i j hij a b ha hb
  ·rw[if_neg j1]at hb
   have al:=B.lt i a i1 ha
   by_cases j2:j=p
   ·rw[if_pos j2]at hb;cases hb;exact al
   ·rw[if_neg j2]at hb
    have:=hg (j-1) b (by omega) hb
    omega
 ·rw[if_neg i1]at ha
  rw[if_neg (by omega)]at hb
  rw[if_neg (by omega)]at hb
  by_cases i2:i=p
  ·rw[if_pos i2]at ha;cases ha
   exact hg (j-1) b (by omega) hb
  ·rw[if_neg i2]at ha
   exact R (i-1) (j-1) (by omega) a b ha hb
def fK(t:SetTable):Prop:=t.plain=true->dE t.place/\t.dummies=#[]
theorem zDg:dE #[]:=λi j _ a b h=>by simp at h
theorem zX(j:Nat):SetTable.has #[] j=false:=by unfold SetTable.has;simp
theorem vE{t:SetTable}(hd:t.dummies=#[]){f:Nat->Int}{h:Int}{j:Nat}{d:Option Nat}:∀(n:Nat) (p:SetTable.Probe),p.dummy=none->SetTable.probe.go t f h n p=some (.empty j d)->d=none/\t.place[SetTable.below t.place j]?≠some j
 |0,p,_,e=>by rw[SetTable.probe.go.eq_def]at e;cases e
 |n+1,p,hp,e=>by
  rw[SetTable.probe.go.eq_def]at e
  dsimp only at e
  have adv:(t.advance p).dummy=none:=by
   unfold SetTable.advance
   split
   ·exact hp
   ·exact hp
  cases hs:t.slot p.j with
  |empty=>
   rw[hs]at e
   dsimp only at e
   cases e
   refine⟨hp,λz=>?_⟩
   unfold SetTable.slot at hs
   dsimp only at hs
   rw[if_pos (by rw[z];simp)]at hs
   cases hs
  |dummy=>
   exfalso
   unfold SetTable.slot at hs
   dsimp only at hs
   split at hs
   ·cases hs
   ·rw[hd,zX]at hs
    cases hs
  |live i=>
   rw[hs]at e
   dsimp only at e
   split at e
   ·cases e
   ·exact vE hd n _ adv e
theorem zB9{t:SetTable}(T:fK t)(es:Array (Int×Value))(h:Int)(x:Value):fK (layNew t es h x).2.1:=by
 unfold layNew
 split
 ·rename_i slot wd e
  dsimp only
  unfold SetTable.orStandIn
  split
  ·intro hp
   have hp':t.plain=true:=hp
   obtain⟨R,hd⟩:=T hp'
   unfold SetTable.freeSlot at e
   split at e
   ·rename_i j d e'
    obtain⟨rfl,ne⟩:=vE hd _ _ rfl e'
    cases e
    exact⟨zBW R ne,by show(if SetTable.has t.dummies _=true then _ else t.dummies)=#[];rw[hd,zX];rfl⟩
   ·cases e
  ·intro hp;cases hp
 ·intro hp;cases hp
theorem zB6{f:Nat->Option Nat}(n:Nat):dE ((((List.range n).filterMap λj=>(f j).map (j,·)).map (·.1)).toArray):=by
 have p:(((List.range n).filterMap λj=>(f j).map (j,·)).map (·.1)).Pairwise (· < ·):=by
  rw[List.pairwise_map]
  refine(List.pairwise_filterMap).mpr ?_
  refine List.Pairwise.imp ?_ List.pairwise_lt_range
  intro a b hab x hx y hy
  obtain⟨u,_,rfl⟩:=Option.map_eq_some_iff.mp hx
  obtain⟨v,_,rfl⟩:=Option.map_eq_some_iff.mp hy
  exact hab
 intro i j hij a b ha hb
 rw[List.getElem?_toArray]at ha hb
 obtain⟨hi,rfl⟩:=List.getElem?_eq_some_iff.mp ha
 obtain⟨hj,rfl⟩:=List.getElem?_eq_some_iff.mp hb
 exact List.pairwise_iff_getElem.mp p i j hi hj hij
theorem zCr(t:SetTable)(es:Array (Int×Value))(n:Nat):fK (relayAll t es n).2.1:=by
 unfold relayAll
 split
 ·rename_i t' order e
  dsimp only
  split
  ·intro hp
   unfold SetTable.relaid SetTable.laid at e
   obtain⟨o,_,e⟩:=Option.bind_eq_some_iff.mp e
   cases e
   exact⟨zB6 _,rfl⟩
  ·intro hp;cases hp
 ·intro hp;cases hp
end L2
namespace L2
open PySem
theorem mP{α:Type}:∀(l:List α) (i:Nat) (h:i<l.length),(l[i]::l.eraseIdx i).Perm l
 |[],i,h=>by simp at h
 |x::l,0,h=>by simp
 |x::l,i+1,h=>by
  have h':i<l.length:=by simpa using h
  simp only[List.getElem_cons_succ,List.eraseIdx_cons_succ]
  exact(List.Perm.swap _ _ _).trans (.cons _ (mP l i h'))
section
variable{M:Model}{A:Around}{E:Value->Shared->Prop}{s:Shared}
theorem zCT{src:Source}{n:Nat}{Q:Nat->Shared->Prop}(hn:n≠0)(h:∀i d,i<n->Q i {s with drawn:=d}):wpAny M A (choose src n) Q E s:=λΓ p _=>by
 unfold choose
 rw[Sem.wp_choose]
 exact⟨hn,h _ _ (Nat.mod_lt _ (Nat.pos_of_ne_zero hn))⟩
theorem uW{α:Type}:∀(n:Nat) (xs:List α) (s:Shared) {Q:List α->Shared->Prop},xs.length=n->(∀ys d,ys.Perm xs->Q ys {s with drawn:=d})->wpAny M A (drawOrder n xs) Q E s
 |0,xs,s,Q,hl,h=>by
  have e:xs=[]:=List.eq_nil_of_length_eq_zero hl
  subst e
  exact wpAny_pure (h [] s.drawn (.refl _))
 |n+1,[],s,Q,hl,h=>by simp at hl
 |n+1,x::xs,s,Q,hl,h=>by
  show wpAny M A (do
   let i <- choose .order (x::xs).length
   match (x::xs)[i]? with
   |some x'=>return x'::(<- drawOrder n ((x::xs).eraseIdx i))
   |none=>unsupported "internal:drawOrder") Q E s
  refine wpAny_bind (zCT (by simp) λi d hi=>?_)
  rw[List.getElem?_eq_getElem hi]
  refine wpAny_bind (uW n _ _ (by rw[List.length_eraseIdx_of_lt hi];simp at hl ⊢;exact hl) λys d' hp=>?_)
  refine wpAny_pure (h _ d' ((List.Perm.cons _ hp).trans ?_))
  exact mP (x::xs) i hi
end
theorem zJ{α:Type}(next:Nat->Nat):∀(fuel k:Nat) (left:List α) (out:Array α),fuel=left.length->(pickOrder.go next fuel k left out).toList.Perm (out.toList++left)
 |0,k,left,out,h=>by
  have e:left=[]:=List.eq_nil_of_length_eq_zero h.symm
  subst e
  unfold pickOrder.go
  simp
 |fuel+1,k,left,out,h=>by
  unfold pickOrder.go
  have hlt:next k % left.length<left.length:=Nat.mod_lt _ (by omega)
  rw[List.getElem?_eq_getElem hlt]
  refine(zJ next fuel (k+1) _ _ (by rw[List.length_eraseIdx_of_lt hlt];omega)).trans ?_
  rw[Array.toList_push,List.append_assoc]
  exact List.Perm.append_left _ (mP _ _ hlt)
theorem qC{α:Type}(next:Nat->Nat)(xs:Array α):(pickOrder next xs).toList.Perm xs.toList:=by
 unfold pickOrder
 have:=zJ next xs.size 0 xs.toList #[] (by simp)
 simpa using this
end L2
namespace L2
open PySem PySem.Spec PyProof.Rows
abbrev byT(w:World):Bool:=w.params.followText "set-order"
structure SetT (prog:Program) (w:World) (us:List Str) (es:Array (Int×Value)) (t:SetTable):Prop where
 el:ElemsOf (PySem.strKind prog w) es.toList
 tx:∃vs:List Str,StrsAre (es.toList.map (·.2)) vs/\vs.Perm us
 nd:us.Nodup
 lt:es.size<scanBound
 fit:t.fits es.size=true
 pl:es.size=0\/t.plain=false
 ld:t.led=!byT w
abbrev cP(es:Array (Int×Value))(ep:Nat)(t:SetTable):Obj:={cls:=.type "set",dict:=none,data:=.set es ep t,slots:=#[]}
def SetS(prog:Program)(w:World)(a:Addr)(us:List Str)(h:Heap):Prop:=∃es ep t,h.get? a=some (cP es ep t)/\SetT prog w us es t
def eA(us:List Str)(x:Str):List Str:=if x∈us then us else us++[x]
theorem iM:∀{vs:List Value}{ss:List Str},StrsAre vs ss->vs.length=ss.length
 |_,_,.nil=>rfl
 |_,_,.cons _ _ h=>by simp[iM h]
theorem xM:∀{vs:List Value}{ss:List Str},StrsAre vs ss->∀x,x∈ss↔∃v∈vs,Value.isStrOf x v=true
 |_,_,.nil,x=>by simp
 |_,_,.cons y t h,x=>by
  have ih:=xM h x
  have e:Value.isStrOf x (.str y t)=true↔x=y:=⟨λh=>by
   obtain⟨u,h⟩:=Value.isStrOf_shape h
   injection h with h1 h2
   exact h1.symm,λh=>by subst h;simp[Value.isStrOf]⟩
  simp only[List.mem_cons,exists_eq_or_imp,ih,e]
theorem wB:∀{vs us:List Value},us.Perm vs->∀{ss:List Str},StrsAre vs ss->∃ss',StrsAre us ss'/\ss'.Perm ss:=by
 intro vs us p
 induction p with
 |nil=>intro ss h;exact⟨ss,h,.refl _⟩
 |cons x p ih=>
  intro ss h
  cases h with
  |cons y t h=>obtain⟨ss',a,b⟩:=ih h;exact⟨y::ss',.cons y t a,.cons _ b⟩
 |swap x y l=>
  intro ss h
  cases h with
  |cons a t h=>cases h with
   |cons b u h=>exact⟨b::a::_,.cons b u (.cons a t h),.swap _ _ _⟩
 |trans p q ihp ihq=>
  intro ss h
  obtain⟨s1,a1,b1⟩:=ihq h
  obtain⟨s2,a2,b2⟩:=ihp a1
  exact⟨s2,a2,b2.trans b1⟩
theorem wA:∀{vs:List Value}{ss:List Str}(x:Str) (t:Tok),StrsAre vs ss->StrsAre (vs++[.str x t]) (ss++[x])
 |_,_,x,t,.nil=>.cons x t .nil
 |_,_,x,t,.cons y u h=>.cons y u (wA x t h)
theorem zCD(t:SetTable)(es:Array (Int×Value))(h:Int)(x:Value):(layNew t es h x).2.1.led=t.led:=by
 have so:∀(u:SetTable) (n:Nat),(u.orStandIn n).led=u.led:=λu n=>by
  unfold SetTable.orStandIn
  split<;>rfl
 unfold layNew
 split
 ·dsimp only
  rw[so]
  rfl
 ·rfl
theorem zDh(t:SetTable)(es:Array (Int×Value))(n:Nat):(relayAll t es n).2.1.led=t.led/\(t.plain=false->(relayAll t es n).2.1.plain=false):=by
 have la:∀m f mv ld pl hs t' o,SetTable.laid m f mv ld pl hs=some (t',o)->t'.led=ld/\t'.plain=pl:=λm f mv ld pl hs t' o e=>by
  unfold SetTable.laid at e
  cases q:SetTable.layClean m hs with
  |none=>rw[q]at e;cases e
  |some ow=>
   rw[q]at e
   simp only[Option.bind_eq_bind,Option.bind_some,Option.pure_def,Option.some.injEq,Prod.mk.injEq]at e
   obtain⟨e,_⟩:=e
   subst e
   exact⟨rfl,rfl⟩
 unfold relayAll
 split
 ·rename_i t' order e
  have:=la _ _ _ _ _ _ _ _ e
  dsimp only
  split
  ·exact⟨this.1,λz=>by rw[<-z];exact this.2⟩
  ·exact⟨rfl,λ_=>rfl⟩
 ·exact⟨rfl,λ_=>rfl⟩
section
variable{prog:Program}{w:World}{A:Around}{E:Value->Shared->Prop}{s:Shared}{a:Addr}{us:List Str}{x:Str}{tk:Tok}
theorem SetT.mem{es:Array (Int×Value)}{t:SetTable}(T:SetT prog w us es t)(x:Str):x∈us↔∃e∈es.toList,(PySem.strKind prog w).is x e.2=true:=by
 obtain⟨vs,h,p⟩:=T.tx
 rw[<-p.mem_iff,xM h x]
 simp only[List.mem_map]
 exact⟨λ⟨v,⟨e,he,z⟩,q⟩=>⟨e,he,by subst z;exact q⟩,λ⟨e,he,q⟩=>⟨e.2,⟨e,he,rfl⟩,q⟩⟩
theorem SetT.size{es:Array (Int×Value)}{t:SetTable}(T:SetT prog w us es t):es.size=us.length:=by
 obtain⟨vs,h,p⟩:=T.tx
 have:=iM h
 rw[List.length_map,Array.length_toList]at this
 rw[this,p.length_eq]
theorem zDT{g:Bool->Sem Unit}(hg:∀(b:Bool) (s₁:Shared) (R:Unit->Shared->Prop),R () s₁->wpAny (model prog w) A (g b) R E s₁){es es1:Array (Int×Value)}{ep:Nat}{t t2:SetTable}{wd:Bool}{R:Option Bool->Shared->Prop}
  (ho:s.heap.get? a=some (cP es ep t)) (lt:es1.size<scanBound) (fit:t2.fits es1.size=true)
  (h:∀h' es' ep' t',Heap.SameBut a s.heap h'->h'.get? a=some (cP es' ep' t')->es'.toList.Perm es1.toList->t'.fits es'.size=true->t'.led=t2.led->(fK t2->fK t')->(t2.plain=false->t'.plain=false)->R (some true) {s with heap:=h'}):
  wpAny (model prog w) A (do
   storeSet a es1 t2
   if (!wd&&t2.tooFull)=true then do
     g (relayAll t2 es1 (SetTable.grown es1.size)).2.2
     storeSet a (relayAll t2 es1 (SetTable.grown es1.size)).1 (relayAll t2 es1 (SetTable.grown es1.size)).2.1
     pure (some true)
    else pure (some true)) R E s:=by
 refine wpAny_bind (wpAny_storeSet_of ho rfl ?_ (fits_of_scanBound lt))
 have o1:(s.heap.update a (Obj.putSet es1 t2)).get? a=some (cP es1 (ep+1) t2):=Heap.get?_update_self (Obj.putSet es1 t2) ho rfl
 have b1:=Heap.SameBut.update s.heap a (Obj.putSet es1 t2)
 split
 ·have hp:=relayAll_perm t2 es1 (SetTable.grown es1.size)
  have hf:=relayAll_fits t2 es1 (SetTable.grown es1.size)
  obtain⟨hl,hq⟩:=zDh t2 es1 (SetTable.grown es1.size)
  have ht:=zCr t2 es1 (SetTable.grown es1.size)
  generalize relayAll t2 es1 (SetTable.grown es1.size)=Rl at hp hf hl hq ht ⊢
  obtain⟨es2,t3,g2⟩:=Rl
  dsimp only at hp hf hl hq ht ⊢
  have sz:es2.size=es1.size:=by have:=hp.length_eq;simpa using this
  refine wpAny_bind (hg _ _ _ ?_)
  refine wpAny_bind (wpAny_storeSet_of o1 rfl ?_ (fits_of_scanBound (by rw[sz];exact lt)))
  exact wpAny_pure (h _ es2 _ t3 (b1.trans (Heap.SameBut.update _ a _)) (Heap.get?_update_self (Obj.putSet es2 t3) o1 rfl) hp hf hl (λ_=>ht) hq)
 ·exact wpAny_pure (h _ es1 _ t2 b1 o1 (.refl _) fit rfl id id)
theorem yQ{α:Type}[DecidableEq α](knd:PySem.KeyKind prog w α){x:α}{v:Value}{es:Array (Int×Value)}{ep:Nat}{t:SetTable}{Q:Bool->Shared->Prop}(ho:s.heap.get? a=some (cP es ep t))(el:ElemsOf knd es.toList)(lt:es.size+1<scanBound)(fit:t.fits es.size=true)(hk:knd.is x v=true)(sc:v.scannable=true)
  (h1:(∃e∈es.toList,knd.is x e.2=true)->Q false s)
  (h2:(∀e∈es.toList,knd.is x e.2=false)->∀h' es' ep' t',Heap.SameBut a s.heap h'->h'.get? a=some (cP es' ep' t')->es'.toList.Perm (es.toList++[(knd.hash x,v)])->t'.fits es'.size=true->t'.led=t.led->(fK t->fK t')->(plainKind v=false->t'.plain=false)->Q true {s with heap:=h'}):
  wpAny (model prog w) A (setAddHashed a v (knd.hash x)) Q E s:=by
 unfold setAddHashed setAddHashedIn
 refine wpAny_holding (wpAny_bind (wpAny_setState_of ho rfl fit ?_))
 dsimp only
 rw[byScan_of sc (Nat.lt_of_succ_lt lt) el,if_pos rfl]
 unfold setAddByScan
 refine wpAny_bind (wpAny_bind (wpAny_rule ?_))
 refine wpAny_bind (wpAny_setScan_of hk ho rfl fit el ?_)
 cases hr:es.toList.findIdx? (λe=>knd.is x e.2) with
 |some j=>
  dsimp only
  obtain⟨hj,hp,_⟩:=List.findIdx?_eq_some_iff_getElem.mp hr
  exact wpAny_pure (wpAny_pure (h1 ⟨_,List.getElem_mem hj,hp⟩))
 |none=>
  dsimp only
  have hout:∀e∈es.toList,knd.is x e.2=false:=λe he=>List.findIdx?_eq_none_iff.mp hr e he
  have pm:=layNew_perm t es (knd.hash x) v
  have ft:=layNew_fits t es (knd.hash x) v
  have ld:=zCD t es (knd.hash x) v
  have td:=λT:fK t=>zB9 T es (knd.hash x) v
  generalize layNew t es (knd.hash x) v=L at pm ft ld td ⊢
  obtain⟨es1,t1,wd,gv⟩:=L
  dsimp only at pm ft ld td ⊢
  rw[Array.toList_push]at pm
  have sz:es1.size<scanBound:=by
   have:=pm.length_eq
   rw[<-Array.length_toList,this,List.length_append,Array.length_toList];exact lt
  have gw:∀(b:Bool) (s₁:Shared) (R:Unit->Shared->Prop),R () s₁->wpAny (model prog w) A (match b with|true=>rule "set.scan.the-table-gave-way"|false=>pure ()) R E s₁:=
   λb s₁ R q=>by
    cases b
    ·exact wpAny_pure q
    ·exact wpAny_rule q
  refine wpAny_bind (gw _ _ _ ?_)
  have tl:=λ(R:Option Bool->Shared->Prop) (hR:∀s',Q true s'->R (some true) s') t2 (f2:t2.fits es1.size=true) (l2:t2.led=t.led) (d2:fK t->fK t2) (p2:plainKind v=false->t2.plain=false)=>zDT (wd:=wd) (R:=R) (g:=λb=>match b with|true=>rule "set.scan.the-table-gave-way"|false=>pure ()) gw ho sz f2 λh' es' ep' t' b o p f l d q=>hR _ (h2 hout h' es' ep' t' b o (p.trans pm) f (l.trans l2) (λT=>d (d2 T)) λz=>q (p2 z))
  split
  ·refine wpAny_bind ?_
   rw[hashByValue_scannable 8 sc]
   refine wpAny_pure ?_
   split
   ·exact tl _ (λ_ q=>wpAny_pure q) _ ft ld td λz=>by simp_all
   ·exact tl _ (λ_ q=>wpAny_pure q) _ (SetTable.fits_plain_off ft) ld (λ_=>λz=>nomatch z) λ_=>rfl
  ·rename_i hp
   refine wpAny_bind (wpAny_pure ?_)
   rw[if_pos rfl]
   exact tl _ (λ_ q=>wpAny_pure q) _ ft ld td λ_=>by simpa using hp
theorem vO{α:Type}{us:List α}{x:α}(h:us.Nodup)(hx:x∉us):(us++[x]).Nodup:=by
 rw[List.nodup_append]
 exact⟨h,by simp,λy hy z hz e=>hx (by rw[<-List.mem_singleton.mp hz,<-e];exact hy)⟩
theorem zEW{Q:Bool->Shared->Prop}(S:SetS prog w a us s.heap)(room:us.length+1<scanBound)(h:∀b h',Heap.SameBut a s.heap h'->SetS prog w a (eA us x) h'->Q b {s with heap:=h'}):
  wpAny (model prog w) A (setAddHashed a (.str x tk) ((PySem.strKind prog w).hash x)) Q E s:=by
 obtain⟨es,ep,t,ho,T⟩:=id S
 have hk:(PySem.strKind prog w).is x (.str x tk)=true:=by show Value.isStrOf x (.str x tk)=true;simp[Value.isStrOf]
 refine yQ (PySem.strKind prog w) ho T.el (by rw[T.size];exact room) T.fit hk rfl (λhin=>?_) λhout h' es' ep' t' sb ho' pm ft ld _ pl=>?_
 ·have e:s={s with heap:=s.heap}:=by cases s;rfl
  rw[e]
  refine h false s.heap (Heap.SameBut.refl a s.heap) ?_
  rw[eA,if_pos ((T.mem x).mpr hin)]
  exact S
 ·have hx:x∉us:=λz=>by
   obtain⟨e,he,hp⟩:=(T.mem x).mp z
   rw[hout e he]at hp;cases hp
  refine h true h' sb ⟨es',ep',t',ho',?_⟩
  obtain⟨vs,hv,pv⟩:=T.tx
  have h1:=wA x tk hv
  rw[show(es.toList.map (·.2))++[Value.str x tk]=(es.toList++[((PySem.strKind prog w).hash x,Value.str x tk)]).map (·.2) by simp]at h1
  obtain⟨vs',hv',pv'⟩:=wB (pm.map (·.2)) h1
  rw[eA,if_neg hx]
  refine⟨(T.el.push hk rfl).perm pm,⟨vs',hv',pv'.trans (pv.append_right _)⟩,vO T.nd hx,?_,ft,.inr (pl rfl),ld.trans T.ld⟩
  have:=pm.length_eq
  rw[<-Array.length_toList,this,List.length_append,Array.length_toList,T.size];exact room
end
end L2
namespace L2
open PySem PySem.Spec PyProof.Rows
theorem yZ:Slot "set" "__iter__" "set.__iter__":=
 Slot.of (owner:="set") (n:="__iter__") (by rw[typeLookup_type,builtinLookup_eq_fast];kernel_rfl) (by decide +kernel) (by decide +kernel) (by decide +kernel) (by first|exact .inl (by decide +kernel)|exact .inr (by decide +kernel)) (by rw[isSubtype_type];kernel_rfl)
theorem zF6:entryFor table "set.__iter__"=some Builtin.«frozenset.__iter__»:=entryFor_alias (id':="frozenset.__iter__") (by kernel_rfl) rfl (by decide +kernel) (by kernel_rfl)
theorem zGh(a:Value):argsOk "set.__iter__" ⟨[a],[]⟩:=by
 unfold argsOk
 kernel_rfl
theorem st_next:Slot "set_iterator" "__next__" "set_iterator.__next__":=
 Slot.of (owner:="set_iterator") (n:="__next__") (by rw[typeLookup_type,builtinLookup_eq_fast];kernel_rfl) (by decide +kernel) (by decide +kernel) (by decide +kernel) (by first|exact .inl (by decide +kernel)|exact .inr (by decide +kernel)) (by rw[isSubtype_type];kernel_rfl)
theorem zF5:entryFor table "set_iterator.__next__"=some Builtin.«set_iterator.__next__»:=entryFor_of_fast (by kernel_rfl)
theorem zGg(a:Value):argsOk "set_iterator.__next__" ⟨[a],[]⟩:=by
 unfold argsOk
 kernel_rfl
theorem jT:Slot "set_iterator" "__iter__" "set_iterator.__iter__":=
 Slot.of (owner:="set_iterator") (n:="__iter__") (by rw[typeLookup_type,builtinLookup_eq_fast];kernel_rfl) (by decide +kernel) (by decide +kernel) (by decide +kernel) (by first|exact .inl (by decide +kernel)|exact .inr (by decide +kernel)) (by rw[isSubtype_type];kernel_rfl)
theorem sC:entryFor table "set_iterator.__iter__"=some Builtin.«dict_keyiterator.__iter__»:=entryFor_alias (id':="dict_keyiterator.__iter__") (by kernel_rfl) rfl (by decide +kernel) (by kernel_rfl)
theorem sE(a:Value):argsOk "set_iterator.__iter__" ⟨[a],[]⟩:=by
 unfold argsOk
 kernel_rfl
section
variable{prog:Program}{w:World}{A:Around}{E:Value->Shared->Prop}{s:Shared}
theorem zEQ{α:Type}{Q:α->Shared->Prop}(hh:A.handled=none)
  (h:∀e h',(∀b o,s.heap.get? b=some o->h'.get? b=some o)->Shared.TypeIs {s with heap:=h'} (.ref e) "StopIteration"->E (.ref e) {s with heap:=h'}):
  wpAny (model prog w) A (newExc (.type "StopIteration") [] >>= λe=>raiseNew e) Q E s:=by
 refine wpAny_bind ?_
 simp only[newExc,newTuple]
 refine wpAny_bind (wpAny_newObj_type ?_ (by size_fits))
 refine wpAny_bind (m:=firstArgMember _ _) (wpAny_of_eq (a:=Value.none) (by first|rfl|(simp only[firstArgMember];rfl)) ?_)
 refine wpAny_newObj_type ?_ (by size_fits)
 simp only[raiseNew]
 refine wpAny_bind (wpAny_handled ?_)
 rw[hh]
 refine wpAny_bind (wpAny_pure (wpAny_throw ?_))
 exact h _ _ (λb o e=>Heap.get?_push_of_some _ (Heap.get?_push_of_some _ e)) ⟨_,Heap.get?_push_size _ rfl,rfl⟩
theorem jQ{it:Addr}{o:Obj}{Q:Option Value->Shared->Prop}(ho:s.heap.get? it=some o)(hc:o.cls=.type "set_iterator")
  (h:wpAny (model prog w) A.in1 (Builtin.«set_iterator.__next__» ⟨[.ref it],[]⟩) (λr s'=>∃v,r=.done (.ret v)/\Q (some v) s') (λe s'=>s'.TypeIs e "StopIteration"/\Q none s') s):
  wpAny (model prog w) A (pyNext (.ref it)) Q E s:=by
 have ht:s.TypeIs (.ref it) "set_iterator":=⟨o,ho,hc⟩
 unfold pyNext
 refine wpAny_bind (wpAny_attempt (wpAny_callSpecial?_slot (name:=Str.ofString "__next__") ht st_next (wpAny_call_entry st_next ht zF5 ?_ (zGg _))))
 refine wpAny_mono h (λr s' ⟨v,e,q⟩=>⟨v,e,wpAny_pure q⟩) λe s' ⟨t,q⟩=>?_
 exact wpAny_bind (wpAny_isInstance (T:="StopIteration") (b:=true) t isSubtype_stop (wpAny_pure q))
end
end L2
namespace L2
open PySem PySem.Spec PyProof.Rows
abbrev itO(first:Value)(i:Nat)(a:Addr)(n ep:Nat):Obj:={cls:=.type "set_iterator",data:=.fields #[first,.int (i:Int) 0,.ref a,.int (n:Int) 0,.int (ep:Int) 0]}
section
variable{prog:Program}{w:World}{A:Around}{E:Value->Shared->Prop}{s:Shared}{it a:Addr}{us:List Str}{es:Array (Int×Value)}{ep:Nat}{t:SetTable}
theorem pR{Q:Array (Int×Value)->Shared->Prop}(ho:s.heap.get? a=some (cP es ep t))(hf:t.fits es.size=true)(h:Q es s):wpAny (model prog w) A (setEntries a) Q E s:=by
 unfold setEntries
 exact wpAny_bind (wpAny_setState_of ho rfl hf (wpAny_pure h))
theorem jJ{Q:Bool->Shared->Prop}(h:Q (byT w) s):wpAny (model prog w) A setsByText Q E s:=by
 unfold setsByText
 exact wpAny_bind (wpAny_askSetting (wpAny_pure h))
theorem mR{i slot:Nat}{n:Nat}{Q:Fin->Shared->Prop}(hi:s.heap.get? it=some (itO (.int (slot:Int) 0) i a n ep))(ho:s.heap.get? a=some (cP es ep t))(hf:t.fits es.size=true)(hn:es.size=n)
  (h:wpAny (model prog w) A (setNext a slot i ep) (λr s'=>wpAny (model prog w) A (match r with
   |some (x,next)=>do
    setField (.ref it) 0 (rawInt next)
    setField (.ref it) 1 (rawInt (i+1))
    ret x
   |none=>do setField (.ref it) 2 .none;raiseNew (<- newExc (.type "StopIteration") [])) Q E s') E s):
  wpAny (model prog w) A (Builtin.«set_iterator.__next__» ⟨[.ref it],[]⟩) Q E s:=by
 unfold Builtin.«set_iterator.__next__»
 refine wpAny_bind (m:=slotArgs "__next__" 0 ⟨[.ref it],[]⟩) (wpAny_pure ?_)
 dsimp only
 refine wpAny_bind (wpAny_fieldsOf hi rfl ?_)
 show wpAny _ _ (setEntries a >>= _) _ _ s
 refine wpAny_bind (pR ho hf ?_)
 rw[hn]
 simp only[bne_self_eq_false,Bool.false_eq_true,if_false]
 refine wpAny_bind (m:=setNext a slot i ep) h
end
end L2
namespace L2
open PySem PySem.Spec PyProof.Rows
section
variable{prog:Program}{w:World}{A:Around}{E:Value->Shared->Prop}{s:Shared}{it a:Addr}{us:List Str}{es:Array (Int×Value)}{ep:Nat}{t:SetTable}
theorem qL{o:Obj}{vs:Array Value}{k:Nat}{Q:Fin->Shared->Prop}(hh:A.handled=none)(hi:s.heap.get? it=some o)(hd:o.data=.fields vs)(hk:k<vs.size)
  (h:∀e h',(∀b u,b≠it->s.heap.get? b=some u->h'.get? b=some u)->Shared.TypeIs {s with heap:=h'} (.ref e) "StopIteration"->E (.ref e) {s with heap:=h'}):
  wpAny (model prog w) A (do setField (.ref it) k .none;raiseNew (<- newExc (.type "StopIteration") [])) Q E s:=by
 refine wpAny_bind (wpAny_setField hi hd hk ?_)
 refine zEQ hh λe h' kp ty=>h e h' (λb u hb q=>kp b u ?_) ty
 rw[(Heap.SameBut.update s.heap it _).2 b hb];exact q
theorem zGo(hh:A.handled=none)(hb:byT w=true)(fit:t.fits es.size=true)(it a:Addr)(ne:it≠a):
  WalksS prog w A it [it,a] [it] Eq es.size (λi v=>(pickOrder (w.params.setOrder a ep) es)[i]?.map (·.2)=some v)
   (λi s=>s.heap.get? it=some (itO (.int 0 0) i a es.size ep)/\s.heap.get? a=some (cP es ep t)) where
 sub:=λb hb=>by simp at hb;simp[hb]
 grefl:=λ_=>rfl
 gtrans:=λ_ _ _ x y=>x.trans y
 frame:=λi s h' tk st _ k=>⟨k it (by simp) _ st.1,k a (by simp) _ st.2⟩
 item:=λi s Q E hi st hQ=>by
  refine jQ st.1 rfl (mR (slot:=0) st.1 st.2 fit rfl ?_)
  have sz:(pickOrder (w.params.setOrder a ep) es).size=es.size:=by have:=(qC (w.params.setOrder a ep) es).length_eq;simpa using this
  unfold setNext
  refine wpAny_bind (wpAny_setState_of st.2 rfl fit ?_)
  dsimp only
  refine wpAny_bind (jJ ?_)
  rw[if_pos hb]
  simp only[bne_self_eq_false,Bool.false_eq_true,if_false]
  unfold setWalk
  refine wpAny_bind (wpAny_bind (wpAny_setState_of st.2 rfl fit ?_))
  dsimp only
  refine wpAny_bind (jJ ?_)
  rw[if_pos hb]
  refine wpAny_bind (wpAny_askSetting (wpAny_pure ?_))
  refine wpAny_pure ?_
  have hlt:i<(pickOrder (w.params.setOrder a ep) es).size:=by rw[sz];exact hi
  show wpAny _ _ (match Option.map (λe=>(e.2,0)) (pickOrder (w.params.setOrder a ep) es)[i]? with
   |some (x,next)=>do
    setField (.ref it) 0 (rawInt (next:Nat))
    setField (.ref it) 1 (rawInt (i+1))
    ret x
   |none=>do setField (.ref it) 2 .none;raiseNew (<- newExc (.type "StopIteration") [])) _ _ _
  rw[Array.getElem?_eq_getElem hlt]
  dsimp only[Option.map_some]
  refine wpAny_bind (wpAny_setField_rec st.1 (by simp) λh1 g1 b1=>?_)
  refine wpAny_bind (wpAny_setField_rec g1 (by simp) λh2 g2 b2=>?_)
  refine wpAny_pure ⟨_,rfl,hQ _ _ (by rw[Array.getElem?_eq_getElem hlt];rfl) ⟨?_,?_⟩ ⟨?_,rfl,rfl,rfl,Nat.le_refl _⟩⟩
  ·rw[g2];rfl
  ·rw[b2.2 a ne.symm,b1.2 a ne.symm];exact st.2
  ·intro b o hb e
   have hb':b≠it:=by simpa using hb
   rw[b2.2 b hb',b1.2 b hb'];exact e
 done:=λs Q E st hQ=>by
  refine jQ st.1 rfl (mR (slot:=0) st.1 st.2 fit rfl ?_)
  have sz:(pickOrder (w.params.setOrder a ep) es).size=es.size:=by have:=(qC (w.params.setOrder a ep) es).length_eq;simpa using this
  unfold setNext
  refine wpAny_bind (wpAny_setState_of st.2 rfl fit ?_)
  dsimp only
  refine wpAny_bind (jJ ?_)
  rw[if_pos hb]
  simp only[bne_self_eq_false,Bool.false_eq_true,if_false]
  unfold setWalk
  refine wpAny_bind (wpAny_bind (wpAny_setState_of st.2 rfl fit ?_))
  dsimp only
  refine wpAny_bind (jJ ?_)
  rw[if_pos hb]
  refine wpAny_bind (wpAny_askSetting (wpAny_pure ?_))
  refine wpAny_pure ?_
  show wpAny _ _ (match Option.map (λe=>(e.2,0)) (pickOrder (w.params.setOrder a ep) es)[es.size]? with
   |some (x,next)=>do
    setField (.ref it) 0 (rawInt (next:Nat))
    setField (.ref it) 1 (rawInt ((es.size:Int)+1))
    ret x
   |none=>do setField (.ref it) 2 .none;raiseNew (<- newExc (.type "StopIteration") [])) _ _ _
  rw[Array.getElem?_eq_none (show(pickOrder (w.params.setOrder a ep) es).size<=es.size by rw[sz];exact Nat.le_refl _)]
  dsimp only[Option.map_none]
  refine qL hh st.1 rfl (by simp) λe h' kp ty=>⟨ty,hQ _ ⟨λb o hb q=>kp b o (by simpa using hb) q,rfl,rfl,rfl,Nat.le_refl _⟩⟩
 self:=λi s Q E st hQ=>by
  have ht:s.TypeIs (.ref it) "set_iterator":=⟨_,st.1,rfl⟩
  refine wpAny_pyIter_slot ht jT (wpAny_call_entry jT ht sC ?_ (sE _))
  show wpAny _ _ (ret (.ref it)) _ _ s
  exact wpAny_pure ⟨_,rfl,"set_iterator",_,ht,st_next.lookup,hQ⟩
theorem uZ{slot i:Nat}{Q:Option (Value×Nat)->Shared->Prop}(hb:byT w=false)(ho:s.heap.get? a=some (cP es ep t))(fit:t.fits es.size=true)(hp:t.plain=true\/es.size<=1)(hl:t.led=true)
  (h:Q (match es[SetTable.below t.place slot]?,t.place[SetTable.below t.place slot]? with
  |some (_,x),some j=>some (x,j+1)
  |_,_=>none) s):wpAny (model prog w) A (setNext a slot i ep) Q E s:=by
 unfold setNext
 refine wpAny_bind (wpAny_setState_of ho rfl fit ?_)
 dsimp only
 refine wpAny_bind (jJ ?_)
 rw[hb]
 simp only[Bool.false_eq_true,if_false,Bool.not_false]
 show wpAny _ _ (if (!t.plain&&decide (es.size > 1))=true then _ else(do
  (if (!t.led&&!es.isEmpty)=true then unsupported "set:maker-not-led" else pure ():Sem Unit)
  pure (match es[SetTable.below t.place slot]?,t.place[SetTable.below t.place slot]? with
   |some (_,x),some j=>some (x,j+1)
   |_,_=>none))) _ _ _
 rw[if_neg (by rcases hp with q|q<;>simp[q])]
 refine wpAny_bind ?_
 rw[if_neg (by rw[hl];simp)]
 exact wpAny_pure (wpAny_pure h)
def iB(xs:Array Nat)(i:Nat):Nat:=if i=0 then 0 else xs.getD (i-1) 0+1
theorem xO{xs:Array Nat}(R:dE xs){i:Nat}(hi:i<=xs.size):SetTable.below xs (iB xs i)=i:=by
 refine zEP R ⟨hi,λk a hk e=>?_,λk a hk e=>?_⟩
 ·unfold iB
  rw[if_neg (by omega)]
  have hm:i-1<xs.size:=by omega
  have em:xs[i-1]?=some xs[i-1]:=Array.getElem?_eq_getElem hm
  rw[show xs.getD (i-1) 0=xs[i-1] by simp[Array.getD,hm]]
  by_cases q:k=i-1
  ·subst q;rw[em]at e;cases e;exact Nat.lt_succ_self _
  ·have:=R k (i-1) (by omega) a _ e em;omega
 ·unfold iB
  split
  ·exact Nat.zero_le _
  ·have hm:i-1<xs.size:=by omega
   have em:xs[i-1]?=some xs[i-1]:=Array.getElem?_eq_getElem hm
   rw[show xs.getD (i-1) 0=xs[i-1] by simp[Array.getD,hm]]
   exact R (i-1) k (by omega) _ a em e
theorem qD{xs:Array Nat}(h:xs.size<=1):dE xs:=λi j hij a b ha hb=>by
 have:=(Array.getElem?_eq_some_iff.mp hb).1
 omega
theorem zHW(hh:A.handled=none)(hb:byT w=false)(fit:t.fits es.size=true)(hp:t.plain=true\/es.size<=1)(R:dE t.place)(hl:t.led=true)(it a:Addr)(ne:it≠a):
  WalksS prog w A it [it,a] [it] Eq es.size (λi v=>es[i]?.map (·.2)=some v)
   (λi s=>s.heap.get? it=some (itO (.int ((iB t.place i:Nat):Int) 0) i a es.size ep)/\s.heap.get? a=some (cP es ep t)) where
 sub:=λb hb=>by simp at hb;simp[hb]
 grefl:=λ_=>rfl
 gtrans:=λ_ _ _ x y=>x.trans y
 frame:=λi s h' tk st _ k=>⟨k it (by simp) _ st.1,k a (by simp) _ st.2⟩
 item:=λi s Q E hi st hQ=>by
  have sz:t.place.size=es.size:=by
   unfold SetTable.fits at fit
   simp only[Bool.and_eq_true,beq_iff_eq]at fit
   exact fit.1
  refine jQ st.1 rfl (mR (slot:=iB t.place i) st.1 st.2 fit rfl ?_)
  refine uZ hb st.2 fit hp hl ?_
  rw[xO R (by omega),Array.getElem?_eq_getElem hi,Array.getElem?_eq_getElem (show i<t.place.size by omega)]
  show wpAny _ _ (do
    setField (.ref it) 0 (rawInt ((t.place[i]+1:Nat):Int))
    setField (.ref it) 1 (rawInt ((i:Nat)+1:Int))
    ret es[i].2) _ _ _
  have e2:iB t.place (i+1)=t.place[i]+1:=by
   unfold iB
   rw[if_neg (by omega)]
   simp[Array.getD,show i<t.place.size by omega]
  rw[<-e2]
  refine wpAny_bind (wpAny_setField_rec st.1 (by simp) λh1 g1 b1=>?_)
  refine wpAny_bind (wpAny_setField_rec g1 (by simp) λh2 g2 b2=>?_)
  refine wpAny_pure ⟨_,rfl,hQ _ _ (by rw[Array.getElem?_eq_getElem hi];rfl) ⟨?_,?_⟩ ⟨?_,rfl,rfl,rfl,Nat.le_refl _⟩⟩
  ·rw[g2];rfl
  ·rw[b2.2 a ne.symm,b1.2 a ne.symm];exact st.2
  ·intro b o hb e
   have hb':b≠it:=by simpa using hb
   rw[b2.2 b hb',b1.2 b hb'];exact e
 done:=λs Q E st hQ=>by
  have sz:t.place.size=es.size:=by
   unfold SetTable.fits at fit
   simp only[Bool.and_eq_true,beq_iff_eq]at fit
   exact fit.1
  refine jQ st.1 rfl (mR (slot:=iB t.place es.size) st.1 st.2 fit rfl ?_)
  refine uZ hb st.2 fit hp hl ?_
  rw[xO R (by omega),Array.getElem?_eq_none (Nat.le_refl _)]
  dsimp only
  exact qL hh st.1 rfl (by simp) λe h' kp ty=>⟨ty,hQ _ ⟨λb o hb q=>kp b o (by simpa using hb) q,rfl,rfl,rfl,Nat.le_refl _⟩⟩
 self:=λi s Q E st hQ=>by
  have ht:s.TypeIs (.ref it) "set_iterator":=⟨_,st.1,rfl⟩
  refine wpAny_pyIter_slot ht jT (wpAny_call_entry jT ht sC ?_ (sE _))
  show wpAny _ _ (ret (.ref it)) _ _ s
  exact wpAny_pure ⟨_,rfl,"set_iterator",_,ht,st_next.lookup,hQ⟩
abbrev kM(ps:List Nat):Obj:={cls:=.type "tuple",data:=.seq (ps.map λ(i:Nat)=>rawInt (i:Int)).toArray}
theorem vW{i:Nat}{n:Nat}{tu:Addr}{ps:List Nat}{Q:Fin->Shared->Prop}(hi:s.heap.get? it=some (itO (.ref tu) i a n ep))(ho:s.heap.get? a=some (cP es ep t))(hu:s.heap.get? tu=some (kM ps))(hf:t.fits es.size=true)(hn:es.size=n)
  (h:match ps[i]? with
   |some pl=>∃e,es[pl]?=some e/\wpAny (model prog w) A (do
    setField (.ref it) 1 (rawInt (i+1))
    ret e.2) Q E s
   |none=>wpAny (model prog w) A (do setField (.ref it) 0 (rawInt 0);setField (.ref it) 2 .none;raiseNew (<- newExc (.type "StopIteration") [])) Q E s):
  wpAny (model prog w) A (Builtin.«set_iterator.__next__» ⟨[.ref it],[]⟩) Q E s:=by
 unfold Builtin.«set_iterator.__next__»
 refine wpAny_bind (m:=slotArgs "__next__" 0 ⟨[.ref it],[]⟩) (wpAny_pure ?_)
 dsimp only
 refine wpAny_bind (wpAny_fieldsOf hi rfl ?_)
 show wpAny _ _ (setEntries a >>= _) _ _ s
 refine wpAny_bind (pR ho hf ?_)
 rw[hn]
 simp only[bne_self_eq_false,Bool.false_eq_true,if_false]
 show wpAny _ _ (seqItems? (.ref tu) >>= _) _ _ s
 refine wpAny_bind (wpAny_seqItems hu rfl ?_)
 dsimp only
 have e:(ps.map λ(i:Nat)=>rawInt (i:Int)).toArray[((i:Int)).toNat]?=ps[i]?.map λ(i:Nat)=>rawInt (i:Int):=by simp
 rw[e]
 cases q:ps[i]? with
 |none=>
  rw[q]at h
  exact h
 |some pl=>
  rw[q]at h
  obtain⟨en,he,h⟩:=h
  show wpAny _ _ (setNextDrawn a ((pl:Int)).toNat ((ep:Int)).toNat >>= _) _ _ s
  unfold setNextDrawn
  refine wpAny_bind (wpAny_bind (wpAny_setState_of ho rfl hf ?_))
  dsimp only
  rw[show((ep:Int)).toNat=ep by simp,show((pl:Int)).toNat=pl by simp]
  simp only[bne_self_eq_false,Bool.false_eq_true,if_false]
  rw[he]
  exact wpAny_pure h
theorem zHX(hh:A.handled=none)(fit:t.fits es.size=true)(it a tu:Addr)(ne:it≠a)(nu:it≠tu)(ps:List Nat)(hp:ps.Perm (List.range es.size)):
  WalksS prog w A it [it,a,tu] [it] Eq es.size (λi v=>∃pl e,ps[i]?=some pl/\es[pl]?=some e/\v=e.2)
   (λi s=>s.heap.get? it=some (itO (.ref tu) i a es.size ep)/\s.heap.get? a=some (cP es ep t)/\s.heap.get? tu=some (kM ps)) where
 sub:=λb hb=>by simp at hb;simp[hb]
 grefl:=λ_=>rfl
 gtrans:=λ_ _ _ x y=>x.trans y
 frame:=λi s h' tk st _ k=>⟨k it (by simp) _ st.1,k a (by simp) _ st.2.1,k tu (by simp) _ st.2.2⟩
 item:=λi s Q E hi st hQ=>by
  have pl:ps.length=es.size:=by rw[hp.length_eq,List.length_range]
  have hlt:i<ps.length:=by omega
  have hm:ps[i]<es.size:=by have:=hp.mem_iff.mp (List.getElem_mem hlt);simpa using this
  refine jQ st.1 rfl (vW st.1 st.2.1 st.2.2 fit rfl ?_)
  rw[List.getElem?_eq_getElem hlt]
  refine⟨es[ps[i]],Array.getElem?_eq_getElem hm,?_⟩
  refine wpAny_bind (wpAny_setField_rec st.1 (by simp) λh1 g1 b1=>?_)
  refine wpAny_pure ⟨_,rfl,hQ _ _ ⟨_,_,List.getElem?_eq_getElem hlt,Array.getElem?_eq_getElem hm,rfl⟩ ⟨?_,?_,?_⟩ ⟨?_,rfl,rfl,rfl,Nat.le_refl _⟩⟩
  ·rw[g1];rfl
  ·rw[b1.2 a ne.symm];exact st.2.1
  ·rw[b1.2 tu nu.symm];exact st.2.2
  ·intro b o hb e
   have hb':b≠it:=by simpa using hb
   rw[b1.2 b hb'];exact e
 done:=λs Q E st hQ=>by
  have pl:ps.length=es.size:=by rw[hp.length_eq,List.length_range]
  refine jQ st.1 rfl (vW st.1 st.2.1 st.2.2 fit rfl ?_)
  rw[List.getElem?_eq_none (by omega)]
  refine wpAny_bind (wpAny_setField_rec st.1 (by simp) λh1 g1 b1=>?_)
  refine qL hh g1 rfl (by simp) λe h' kp ty=>⟨ty,hQ _ ⟨λb o hb q=>kp b o (by simpa using hb) ?_,rfl,rfl,rfl,Nat.le_refl _⟩⟩
  have hb':b≠it:=by simpa using hb
  show h1.get? b=some o
  rw[b1.2 b hb'];exact q
 self:=λi s Q E st hQ=>by
  have ht:s.TypeIs (.ref it) "set_iterator":=⟨_,st.1,rfl⟩
  refine wpAny_pyIter_slot ht jT (wpAny_call_entry jT ht sC ?_ (sE _))
  show wpAny _ _ (ret (.ref it)) _ _ s
  exact wpAny_pure ⟨_,rfl,"set_iterator",_,ht,st_next.lookup,hQ⟩
end
end L2
namespace L2
open PySem PySem.Spec PyProof.Rows
def zAY(P:Nat->Value->Prop)(vs:List Value):Prop:=∀acc:Array Value,ItemsOf P acc vs.length->acc.toList.Perm vs
theorem qN{P:Nat->Value->Prop}{vs out:List Value}(hl:out.length=vs.length)(h:∀i v,P i v->out[i]?=some v)(hp:out.Perm vs):zAY P vs:=λacc ⟨h1,h2⟩=>by
 have e:acc.toList=out:=by
  apply List.ext_getElem?
  intro i
  by_cases hi:i<acc.size
  ·rw[h i acc[i] (h2 i _ (Array.getElem?_eq_getElem hi)),Array.getElem?_toList,Array.getElem?_eq_getElem hi]
  ·rw[Array.getElem?_toList,Array.getElem?_eq_none (by omega),List.getElem?_eq_none (by omega)]
 rw[e]
 exact hp
section
variable{prog:Program}{w:World}{A:Around}{E:Value->Shared->Prop}{s:Shared}{a:Addr}{es:Array (Int×Value)}{ep:Nat}{t:SetTable}
theorem zDU{Q:Value->Shared->Prop}(ho:s.heap.get? a=some (cP es ep t))(fit:t.fits es.size=true)(lt:es.size<scanBound)(ld:t.led=!byT w)(hR:t.plain=true\/es.size<=1->dE t.place)
  (h:∀(it:Addr) (fp:List Addr) (P:Nat->Value->Prop) (St:Nat->Shared->Prop) (h':Heap) (d:Drawn),(∀A':Around,A'.handled=none->∃n,n=es.size/\WalksS prog w A' it fp [it] Eq n P St)->St 0 {s with heap:=h',drawn:=d}->zAY P (es.toList.map (·.2)) ->
   (∀b∈fp,b=a\/s.heap.objs.size<=b)->s.heap.objs.size<=it->(∀b o,s.heap.get? b=some o->h'.get? b=some o)->Q (.ref it) {s with heap:=h',drawn:=d}):
  wpAny (model prog w) A (pyIter (.ref a)) Q E s:=by
 have alt:a<s.heap.objs.size:=Heap.lt_size ho
 have ht:s.TypeIs (.ref a) "set":=⟨_,ho,rfl⟩
 have lv:(es.toList.map (·.2)).length=es.size:=by rw[List.length_map,Array.length_toList]
 refine wpAny_pyIter_slot ht yZ (wpAny_call_entry yZ ht zF6 ?_ (zGh _))
 unfold Builtin.«frozenset.__iter__» Builtin.Frozenset.slot0
 refine wpAny_bind (wpAny_bind (m:=slotArgs "__iter__" 0 ⟨[.ref a],[]⟩) (wpAny_pure ?_))
 show wpAny _ _ (pure a) _ _ s
 refine wpAny_pure ?_
 unfold Builtin.Frozenset.sizeOf
 refine wpAny_bind (wpAny_bind (pR ho fit (wpAny_pure ?_)))
 unfold setDrawn
 refine wpAny_bind (wpAny_bind (wpAny_setState_of ho rfl fit ?_))
 dsimp only
 refine wpAny_bind (jJ (wpAny_pure ?_))
 show wpAny _ _ (if (!byT w&&(!t.plain&&decide (es.size > 1)))=true then _ else _) _ _ s
 have fin:∀(first:Value) (h1:Heap) (d:Drawn) (St:Nat->Shared->Prop),(∀b o,s.heap.get? b=some o->h1.get? b=some o)->s.heap.objs.size<=h1.objs.size ->
   (∀s2:Shared,s2.heap.get? h1.objs.size=some (itO first 0 a es.size ep)->(∀b o,h1.get? b=some o->s2.heap.get? b=some o) ->
    Q (.ref h1.objs.size) {s with heap:=h1.push (itO first 0 a es.size ep),drawn:=d})->wpAny (model prog w) A.in1 (do
   ret (<- newFields "set_iterator" [first,rawInt 0,.ref a,rawInt es.size,rawInt (<- setEpoch a)])) (λfin s'=>∃v,fin=.done (.ret v)/\∃T' r,s'.TypeIs v T'/\typeLookup (.type T') "__next__"=pure (some r)/\Q v s') E {s with heap:=h1,drawn:=d}:=by
  intro first h1 d St k le q
  refine wpAny_bind (wpAny_setEpoch_of (k a _ ho) rfl fit ?_)
  refine wpAny_bind (wpAny_newObj_type ?_ (by size_fits))
  exact wpAny_pure ⟨_,rfl,"set_iterator",_,⟨_,Heap.get?_push_size _ rfl,rfl⟩,st_next.lookup,q {s with heap:=h1.push (itO first 0 a es.size ep)} (Heap.get?_push_size _ rfl) λb o e=>Heap.get?_push_of_some _ e⟩
 cases hb:byT w with
 |true=>
  rw[if_neg (by simp)]
  refine wpAny_bind (wpAny_pure ?_)
  have e:s={s with heap:=s.heap,drawn:=s.drawn}:=by cases s;rfl
  have hp:=qC (w.params.setOrder a ep) es
  have nea:s.heap.objs.size≠a:=Nat.ne_of_gt alt
  refine fin (.int 0 0) s.heap s.drawn (λ_ _=>True) (λ_ _ e=>e) (Nat.le_refl _) λs2 g k=>?_
  refine h s.heap.objs.size [s.heap.objs.size,a] _ _ _ _ (λA' hA=>⟨es.size,rfl,zGo (ep:=ep) hA hb fit _ a nea⟩) ⟨Heap.get?_push_size _ rfl,Heap.get?_push_of_some _ ho⟩ ?_ (λb m=>?_) (Nat.le_refl _) λb o e=>Heap.get?_push_of_some _ e
  ·refine qN (out:=(pickOrder (w.params.setOrder a ep) es).toList.map (·.2)) (by rw[List.length_map,List.length_map,hp.length_eq]) (λi v q=>?_) (hp.map _)
   rw[List.getElem?_map,Array.getElem?_toList]
   exact q
  ·simp only[List.mem_cons,List.not_mem_nil,or_false]at m
   rcases m with m|m
   ·exact .inr (by rw[m];exact Nat.le_refl _)
   ·exact .inl m
 |false=>
  have hl:t.led=true:=by rw[ld,hb];rfl
  by_cases h1:t.plain=true\/es.size<=1
  ·rw[if_neg (by rcases h1 with q|q<;>simp[q])]
   refine wpAny_bind (wpAny_pure ?_)
   have nea:s.heap.objs.size≠a:=Nat.ne_of_gt alt
   refine fin (.int 0 0) s.heap s.drawn (λ_ _=>True) (λ_ _ e=>e) (Nat.le_refl _) λs2 g k=>?_
   refine h s.heap.objs.size [s.heap.objs.size,a] _ _ _ _ (λA' hA=>⟨es.size,rfl,zHW (ep:=ep) hA hb fit h1 (hR h1) hl _ a nea⟩) ⟨Heap.get?_push_size _ rfl,Heap.get?_push_of_some _ ho⟩ ?_ (λb m=>?_) (Nat.le_refl _) λb o e=>Heap.get?_push_of_some _ e
   ·refine qN (out:=es.toList.map (·.2)) rfl (λi v q=>?_) (.refl _)
    rw[List.getElem?_map,Array.getElem?_toList]
    exact q
   ·simp only[List.mem_cons,List.not_mem_nil,or_false]at m
    rcases m with m|m
    ·exact .inr (by rw[m];exact Nat.le_refl _)
    ·exact .inl m
  ·obtain⟨np,h2⟩:=not_or.mp h1
   have np:t.plain=false:=by simpa using np
   rw[if_pos (by simp[np];omega)]
   refine wpAny_bind (uW es.size (List.range es.size) s (by simp) λps d hp=>?_)
   refine wpAny_bind (wpAny_newTuple ?_ (by rw[List.length_map,hp.length_eq,List.length_range];exact fits_of_scanBound lt))
   have nea:s.heap.objs.size≠a:=Nat.ne_of_gt alt
   have e2:(s.heap.push (kM ps)).objs.size=s.heap.objs.size+1:=Heap.size_push ..
   refine fin (.ref s.heap.objs.size) (s.heap.push (kM ps)) d (λ_ _=>True) (λ_ _ e=>Heap.get?_push_of_some _ e) (by rw[e2];omega) λs2 g k=>?_
   refine h (s.heap.push (kM ps)).objs.size [(s.heap.push (kM ps)).objs.size,a,s.heap.objs.size] _ _ _ _ (λA' hA=>⟨es.size,rfl,zHX (ep:=ep) hA fit _ a s.heap.objs.size (by rw[e2];exact Nat.ne_of_gt (Nat.lt_succ_of_lt alt)) (by rw[e2];exact Nat.ne_of_gt (Nat.lt_succ_self _)) ps hp⟩) ⟨Heap.get?_push_size _ rfl,Heap.get?_push_of_some _ (Heap.get?_push_of_some _ ho),Heap.get?_push_of_some _ (Heap.get?_push_size _ rfl)⟩ ?_ (λb m=>?_) (by rw[e2];omega) λb o e=>Heap.get?_push_of_some _ (Heap.get?_push_of_some _ e)
   ·have hfm:(ps.filterMap λp=>es[p]?).Perm es.toList:=(hp.filterMap _).trans (by rw[filterMap_getElem?_range])
    have hmm:∀p∈ps,p<es.size:=λp m=>by have:=hp.mem_iff.mp m;simpa using this
    have hall:∀(l:List Nat),(∀p∈l,p<es.size)->∀i:Nat,(l.filterMap λp=>es[p]?)[i]?=(l[i]?).bind λp=>es[p]?:=by
     intro l
     induction l with
     |nil=>intro _ i;simp
     |cons x l ih=>
      intro hx i
      have hx0:=hx x (by simp)
      rw[List.filterMap_cons,Array.getElem?_eq_getElem hx0]
      cases i with
      |zero=>simp[hx0]
      |succ i=>simp only[List.getElem?_cons_succ];exact ih (λp m=>hx p (List.mem_cons_of_mem _ m)) i
    refine qN (out:=(ps.filterMap λp=>es[p]?).map (·.2)) (by rw[List.length_map,List.length_map,hfm.length_eq]) (λi v ⟨pl,e,q1,q2,q3⟩=>?_) (hfm.map _)
    rw[List.getElem?_map,hall ps hmm,q1]
    simp[q2,q3]
   ·simp only[List.mem_cons,List.not_mem_nil,or_false]at m
    rcases m with m|m|m
    ·exact .inr (by rw[m,e2];omega)
    ·exact .inl m
    ·exact .inr (by rw[m];exact Nat.le_refl _)
end
end L2
namespace L2
open PySem PySem.Spec PyProof.Rows
theorem st_len:Slot "set" "__len__" "set.__len__":=
 Slot.of (owner:="set") (n:="__len__") (by rw[typeLookup_type,builtinLookup_eq_fast];kernel_rfl) (by decide +kernel) (by decide +kernel) (by decide +kernel) (by first|exact .inl (by decide +kernel)|exact .inr (by decide +kernel)) (by rw[isSubtype_type];kernel_rfl)
theorem zAn:isSubtype (.type "set") (.type "set")=pure true:=by rw[isSubtype_type];kernel_rfl
section
variable{prog:Program}{w:World}{A:Around}{E:Value->Shared->Prop}{s:Shared}{a:Addr}{us:List Str}
theorem zEU{Q:Bool->Shared->Prop}(ht:s.TypeIs (.ref a) "set")(h:Q false s):wpAny (model prog w) A (Builtin.List.listLengthHint (.ref a)) Q E s:=by
 unfold Builtin.List.listLengthHint
 refine wpAny_bind (wpAny_specialOf ht st_len.lookup ?_)
 have e1:splitId "set.__len__"=some ("set","__len__"):=by decide +kernel
 dsimp only
 rw[e1]
 dsimp only
 refine wpAny_bind (wpAny_isInstance ht zAn ?_)
 simp only[Bool.not_true,Bool.false_eq_true,if_false]
 refine wpAny_ite ?_
 rw[if_pos (by decide +kernel)]
 refine wpAny_bind (wpAny_typeOf ht ?_)
 exact wpAny_pure h
end
end L2
namespace L2
open PySem PySem.Spec PyProof.Rows
section
variable{prog:Program}{w:World}{A:Around}{E:Value->Shared->Prop}{s:Shared}{a:Addr}{us:List Str}
theorem pM{es:Array (Int×Value)}{ep:Nat}{t:SetTable}{Q:List Value->Shared->Prop}(hh:A.handled=none)(ho:s.heap.get? a=some (cP es ep t))(fit:t.fits es.size=true)(lt:es.size<scanBound)(ld:t.led=!byT w)(hR:t.plain=true\/es.size<=1->dE t.place)
  (hQ:∀h' d tk (acc:List Value),acc.Perm (es.toList.map (·.2))->s.heap.objs.size<h'.objs.size->(∀b o,s.heap.get? b=some o->h'.get? b=some o)->Q acc {s with heap:=h',drawn:=d,toks:=tk}):
  wpAny (model prog w) A (collect (.ref a)) Q E s:=by
 have hl:es.size<=sizeLine:=fits_of_scanBound lt
 have alt:a<s.heap.objs.size:=Heap.lt_size ho
 unfold collect
 refine wpAny_bind (wpAny_runValue (codeAny_builtin F.entry_proto_collect ?_))
 rw[Around.under_plainId F.plain_proto_collect _]
 show wpAny _ A.in1 (newList [] >>= λl=>again (.builtin "list.__iadd__" ⟨[l,.ref a],[]⟩)) _ _ s
 refine wpAny_bind (wpAny_newObj_type ?_ (by size_fits))
 refine wpAny_pure ⟨plainId_quiet F.plain_list_iadd _,codeAny_builtin F.entry_list_iadd ?_⟩
 rw[Around.under_plainId F.plain_list_iadd _]
 show wpAny _ A.in1 (Builtin.List.listExtendWith (.ref s.heap.objs.size) (.ref a) (.ref s.heap.objs.size)) _ _ _
 unfold Builtin.List.listExtendWith
 have S1:(s.heap.push {cls:=.type "list",data:=.seq ([]:List Value).toArray}).get? a=some (cP es ep t):=Heap.get?_push_of_some _ ho
 have ht:Shared.TypeIs {s with heap:=s.heap.push {cls:=.type "list",data:=.seq ([]:List Value).toArray}} (.ref a) "set":=⟨_,S1,rfl⟩
 refine wpAny_bind (wpAny_typeOf ht ?_)
 have h1:Builtin.List.listSameRef (.ref s.heap.objs.size) (.ref a)=false:=by simp[Builtin.List.listSameRef];exact Nat.ne_of_gt alt
 have h2:(Value.type "set"==Value.type "list")=false:=by decide
 have h3:(Value.type "set"==Value.type "tuple")=false:=by decide
 simp only[h1,h2,h3,Bool.or_false,Bool.false_eq_true,if_false]
 refine wpAny_bind (zDU S1 fit lt ld hR λit fp P St h' d W st0 td hfp hit kp=>?_)
 have ht':Shared.TypeIs {s with heap:=h',drawn:=d} (.ref a) "set":=by
  obtain⟨o,e,c⟩:=ht
  exact⟨o,kp _ _ e,c⟩
 refine wpAny_bind (wpAny_holding (zEU ht' ?_))
 have hA:A.in1.in1.handled=none:=by simp[hh]
 obtain⟨n,hn,W⟩:=W A.in1 (by simp[hh])
 subst hn
 refine wpAny_ite ?_
 rw[if_pos (by decide +kernel)]
 refine wpAny_bind (wpAny_rule ?_)
 have sz1:(s.heap.push {cls:=.type "list",data:=.seq ([]:List Value).toArray}).objs.size=s.heap.objs.size+1:=Heap.size_push ..
 have g0:h'.get? s.heap.objs.size=some {cls:=.type "list",data:=.seq ([]:List Value).toArray}:=kp _ _ (Heap.get?_push_size _ rfl)
 have nf:s.heap.objs.size∉fp:=λm=>by
  rcases hfp _ m with z|z
  ·exact absurd z (Nat.ne_of_gt alt)
  ·rw[sz1]at z;omega
 refine wpAny_bind ?_
 show wpAny _ A.in1 (updateSeq s.heap.objs.size (·.push .none) >>= λ_=>updateSeq s.heap.objs.size (·.pop)) _ _ _
 refine wpAny_bind (wpAny_updateSeq g0 rfl ?_)
 have g1:=Heap.get?_update_self (Obj.mapSeq (·.push Value.none)) g0 rfl
 refine wpAny_updateSeq g1 rfl ?_
 have g2:=Heap.get?_update_self (Obj.mapSeq (·.pop)) g1 rfl
 have oth:∀b o,b≠s.heap.objs.size->h'.get? b=some o->((h'.update s.heap.objs.size (Obj.mapSeq (·.push Value.none))).update s.heap.objs.size (Obj.mapSeq (·.pop))).get? b=some o:=
  λb o hb e=>(Heap.get?_update_other _ _ (Ne.symm hb)).trans ((Heap.get?_update_other _ _ (Ne.symm hb)).trans e)
 refine wpAny_pure ⟨plainId_quiet F.plain_extend_loop _,codeAny_extend_loopS W hl _ nf _ es.size 0 _ _ _ rfl (Nat.zero_le _)
  (W.frame 0 {s with heap:=h',drawn:=d} _ s.toks st0 (Nat.le_refl _) λb hb o e=>oth b o (λz=>nf (z▸hb)) e) g2 (ItemsOf.nil P) λs' acc' c' hm g' hacc=>?_⟩
 show wpAny _ A (load s.heap.objs.size >>= _) _ _ s'
 refine wpAny_bind (wpAny_load g' ?_)
 have hp:=td acc' (by rw[List.length_map,Array.length_toList];exact hacc)
 obtain⟨h'',g'',d'',tk'',os''⟩:=s'
 have e1:g''=s.gens:=hm.gens.symm
 have e2:os''=s.os:=hm.os
 subst e1 e2
 refine wpAny_pure (hQ h'' d'' tk'' acc'.toList hp (Heap.lt_size g') λb o e=>hm.heap b o (λm=>?_) (oth b o (Nat.ne_of_lt (Heap.lt_size e)) (kp b o (Heap.get?_push_of_some _ e))))
 have lt:=Heap.lt_size e
 simp only[List.mem_cons,List.not_mem_nil,or_false]at m
 rcases m with m|m
 ·rw[m]at lt;exact Nat.lt_irrefl _ lt
 ·rw[m]at lt;rw[sz1]at hit;exact absurd lt (Nat.not_lt.mpr (Nat.le_of_succ_le hit))
end
end L2
namespace L2
open PySem PySem.Spec PyProof.Rows
section
variable{prog:Program}{w:World}{A:Around}{E:Value->Shared->Prop}{s:Shared}{a:Addr}{us:List Str}
theorem SetT.rises{es:Array (Int×Value)}{t:SetTable}(T:SetT prog w us es t)(h:t.plain=true\/es.size<=1):dE t.place:=by
 have fit:=T.fit
 unfold SetTable.fits at fit
 simp only[Bool.and_eq_true,beq_iff_eq]at fit
 have k:es.size<=1:=by
  rcases T.pl with q|q
  ·omega
  ·exact h.resolve_left (by rw[q];decide)
 exact qD (by rw[fit.1];exact k)
theorem zBP{Q:Value->Shared->Prop}(hh:A.handled=none)(S:SetS prog w a us s.heap)(h64:us.length<64)
  (h:∀h' d tk (l:Addr) (out:List Value) (ss:List Str) (e:Nat),StrsAre out ss->ss.Perm us->sortedS ss=true->h'.get? l=some (seqObj "list" out.toArray e)->s.heap.objs.size<=l->(∀b o,s.heap.get? b=some o->h'.get? b=some o) ->
   Q (.ref l) {s with heap:=h',drawn:=d,toks:=tk}):wpAny (model prog w) A (call (.builtin "sorted") [.ref a]) Q E s:=by
 refine Calls.call_function_entry kind_sorted plain_sorted entry_sorted (args_sorted1 _) ?_
 unfold Builtin.«sorted»
 refine wpAny_bind (m:=checkCount "sorted" 1 1 _) (wpAny_pure ?_)
 obtain⟨es,ep,t,ho,T⟩:=S
 refine wpAny_bind (pM (by simp[hh]) ho T.fit T.lt T.ld T.rises λh1 d tk acc pa le kp=>?_)
 obtain⟨vs0,hv0,pv0⟩:=T.tx
 obtain⟨vs,hs,hp0⟩:=wB pa hv0
 have hp:=hp0.trans pv0
 have hlen:acc.length<64:=by rw[iM hs,hp.length_eq];exact h64
 refine wpAny_bind (wpAny_newList ?_ (Nat.le_of_lt (Nat.lt_trans hlen (by decide))))
 have hoL:(h1.push (seqObj "list" acc.toArray 0)).get? h1.objs.size=some (seqObj "list" acc.toArray 0):=Heap.get?_push_size _ rfl
 refine wpAny_bind (wpAny_holding (wpAny_call_entry slot_list_sort ⟨_,hoL,rfl⟩ entry_list_sort (list_sort_treeK strKind_oneLt hoL hs.keysOf (λv₁ v₂ rest e=>keyKind_strs (by rw[<-e];exact hs)) hlen λst' a1 a2=>⟨_,rfl,?_⟩) (args_list_sort _)))
 obtain⟨ss',b1,b2,b3⟩:=sorted_out_str hs a1 a2
 obtain⟨e,he⟩:=sortedHeap_at (out:=(arrOf st').map (·.2)) hoL
 refine wpAny_pure ⟨_,rfl,h _ _ _ _ ((arrOf st').map (·.2)).toList ss' e b1 (b2.trans hp) b3 (by rw[Array.toArray_toList];exact he) (Nat.le_of_lt le) λb o q=>?_⟩
 have lt:=Heap.lt_size (kp b o q)
 rw[sortedHeap_old (Nat.ne_of_lt lt) (by rw[Heap.size_push];exact Nat.lt_succ_of_lt lt)]
 exact Heap.get?_push_of_some _ (kp b o q)
end
end L2
namespace L2
open PySem PySem.Spec PyProof.Rows
def eI(val:Nat->Str)(i:Nat):List Str:=((List.range i).map val).foldl eA []
theorem wK(val:Nat->Str)(i:Nat):eI val (i+1)=eA (eI val i) (val i):=by
 unfold eI
 rw[List.range_succ,List.map_append,List.foldl_append]
 rfl
theorem zEZ(us:List Str)(x y:Str):y∈eA us x↔y∈us\/y=x:=by
 unfold eA
 split
 ·exact⟨.inl,λh=>h.elim id λe=>by subst e;assumption⟩
 ·simp
theorem zGl{us:List Str}(h:us.Nodup)(x:Str):(eA us x).Nodup:=by
 unfold eA
 split
 ·exact h
 ·rename_i n
  rw[List.nodup_append]
  exact⟨h,by simp,λa ha b hb e=>n (by rw[<-show b=x by simpa using hb,<-e];exact ha)⟩
def bG(ss:List Str):List Str:=ss.foldl eA []
theorem wV:∀(ss us:List Str) (y:Str),y∈ss.foldl eA us↔y∈us\/y∈ss
 |[],us,y=>by simp
 |x::ss,us,y=>by rw[List.foldl_cons,wV ss,zEZ,List.mem_cons,or_assoc]
theorem yJ:∀(ss us:List Str),us.Nodup->(ss.foldl eA us).Nodup
 |[],us,h=>h
 |x::ss,us,h=>yJ ss _ (zGl h x)
theorem kZ(ss:List Str)(y:Str):y∈bG ss↔y∈ss:=by rw[bG,wV];simp
theorem rG(ss:List Str):(bG ss).Nodup:=yJ ss [] List.nodup_nil
theorem zEt{val:Nat->Str}{ss:List Str}(h:∀i (hi:i<ss.length),val i=ss[i]):eI val ss.length=bG ss:=by
 unfold eI bG
 congr 1
 apply List.ext_getElem
 ·simp
 ·intro i h1 h2
  simp[h i h2]
theorem zE0(us:List Str)(x:Str):us.length<=(eA us x).length:=by
 unfold eA
 split
 ·exact Nat.le_refl _
 ·rw[List.length_append];omega
theorem zDq(val:Nat->Str){i n:Nat}(h:i<=n):(eI val i).length<=(eI val n).length:=by
  induction n with
  | zero => have : i = 0 := by omega
            subst this;exact Nat.le_refl _
  |succ n ih=>
    by_cases e:i=n+1
    · subst e;exact Nat.le_refl _
    · have:=ih (by omega)
      rw[wK]
      have:=zE0 (eI val n) (val n)
      omega
section
variable{prog:Program}{w:World}{A:Around}{R:Result->Shared->Prop}{I:Addr}{fp wr:List Addr}{G:Array GenState->Array GenState->Prop}{n:Nat}{P:Nat->Value->Prop}{St:Nat->Shared->Prop}
theorem SetS.kept{a:Addr}{us:List Str}{h h':Heap}(S:SetS prog w a us h)(k:∀o,h.get? a=some o->h'.get? a=some o):SetS prog w a us h':=by
 obtain⟨es,ep,t,ho,T⟩:=S
 exact⟨es,ep,t,k _ ho,T⟩
theorem qU(W:WalksS prog w A.in1 I fp wr G n P St)(S:Addr)(hf:S∉fp)(J:Nat->Heap->Prop)(kp:∀i h h',J i h->(∀o,h.get? S=some o->h'.get? S=some o)->J i h')
  (add:∀i v (s':Shared) (Q:Bool->Shared->Prop) (E:Value->Shared->Prop),i<n->P i v->J i s'.heap->(∀b h',Heap.SameBut S s'.heap h'->J (i+1) h'->Q b {s' with heap:=h',toks:=s'.toks+1})->wpAny (model prog w) A.in1 (setAdd S v) Q E s'):
  ∀(k i:Nat) (s:Shared),n-i=k->i<=n->St i s->J i s.heap ->
   (∀s',Moved (S::wr) G s s'->J n s'.heap->R (.ok (.ret .none)) s')->codeAny (model prog w) A (.builtin "set.update.loop" ⟨[.ref S,.ref I],[]⟩) R s:=by
 have nw:S∉wr:=λz=>hf (W.sub _ z)
 have sub:∀b∈wr,b∈S::wr:=λb z=>List.mem_cons_of_mem _ z
 intro k
 induction k with
 |zero=>
  intro i s hk hi st hS hR
  have e:i=n:=by omega
  subst e
  refine codeAny_builtin F.entry_set_update_loop ?_
  rw[Around.under_plainId F.plain_set_update_loop _]
  show wpAny _ A.in1 (pyNext (.ref I) >>= _) _ _ s
  refine wpAny_bind (W.done s _ _ st λs' hm=>?_)
  show wpAny _ A.in1 (ret Value.none) _ _ s'
  exact wpAny_pure (hR s' (hm.mono sub) (kp _ _ _ hS λo q=>hm.heap S _ nw q))
 |succ k ih=>
  intro i s hk hi st hS hR
  have lt:i<n:=by omega
  refine codeAny_builtin F.entry_set_update_loop ?_
  rw[Around.under_plainId F.plain_set_update_loop _]
  show wpAny _ A.in1 (pyNext (.ref I) >>= _) _ _ s
  refine wpAny_bind (W.item i s _ _ lt st λv s' hP st' hm=>?_)
  show wpAny _ A.in1 (holding [v] (setAdd S v) >>= _) _ _ s'
  refine wpAny_bind (wpAny_holding (add i v s' _ _ lt hP (kp _ _ _ hS λo q=>hm.heap S _ nw q) λb h' sb S2=>?_))
  refine wpAny_pure ⟨plainId_quiet F.plain_set_update_loop _,ih (i+1) _ (by omega) lt (W.frame _ s' _ _ st' (Nat.le_succ _) λc hc o e=>?_) S2 λs'' hm'' S3=>?_⟩
  ·rw[sb.2 c (λz:c=S=>hf (by rw[<-z];exact hc))];exact e
  ·refine hR s'' (Moved.trans W.gtrans ((hm.mono sub).then_heap (Nat.le_succ _) λc o hc e=>?_) hm'') S3
   rw[sb.2 c (λz:c=S=>hc (by rw[z];exact List.mem_cons_self))];exact e
theorem pQ{α:Type}[DecidableEq α](knd:PySem.KeyKind prog w α){S:Addr}{x:α}{v:Value}{s':Shared}{Q:Bool->Shared->Prop}{E:Value->Shared->Prop}(hk:knd.is x v=true)(h:wpAny (model prog w) A (setAddHashed S v (knd.hash x)) Q E {s' with toks:=s'.toks+1}):wpAny (model prog w) A (setAdd S v) Q E s':=by
 unfold setAdd
 exact wpAny_holding (wpAny_bind (knd.pyHash (k:=x) hk h))
theorem zDs(W:WalksS prog w A.in1 I fp wr G n P St)(S:Addr)(hf:S∉fp)(val:Nat->Str)(hv:∀i v,P i v->∃t,v=.str (val i) t)(hb:(eI val n).length+1<scanBound):
  ∀(k i:Nat) (s:Shared),n-i=k->i<=n->St i s->SetS prog w S (eI val i) s.heap ->
   (∀s',Moved (S::wr) G s s'->SetS prog w S (eI val n) s'.heap->R (.ok (.ret .none)) s')->codeAny (model prog w) A (.builtin "set.update.loop" ⟨[.ref S,.ref I],[]⟩) R s:=
 qU W S hf (λi h=>SetS prog w S (eI val i) h) (λ_ _ _ S k=>S.kept k) λi v s' Q E lt hP hS q=>by
  obtain⟨t,rfl⟩:=hv i v hP
  refine pQ (PySem.strKind prog w) (x:=val i) (by show Value.isStrOf _ (.str _ t)=true;simp[Value.isStrOf]) (zEW (s:={s' with toks:=s'.toks+1}) hS (by have:=zDq val (Nat.le_of_lt lt);omega) λb h' sb S2=>q b h' sb ?_)
  rw[wK]
  exact S2
end
section
variable{prog:Program}{w:World}{A:Around}{E:Value->Shared->Prop}{s:Shared}
theorem zCd(a:Value){Q₁:Value->Shared->Prop}(h:Q₁ (.ref s.heap.objs.size) {s with heap:=s.heap.push (cP #[] 0 (.fresh 0 0 (!byT w)))}):
  codeAny (model prog w) A (.call (.builtin "set.__new__") ⟨[.type "set",a],[]⟩) (wants Q₁ E) s:=by
 refine codeAny_of_tree ?_
 show wpAny _ A.in1 (do checkBuiltinCall "set.__new__" ⟨[.type "set",a],[]⟩;again (.builtin "set.__new__" ⟨[.type "set",a],[]⟩)) _ _ s
 refine wpAny_bind (wpAny_of_eq (F.newCall_set_1 a) (wpAny_pure ⟨plainId_quiet F.plain_set_new _,codeAny_builtin F.entry_set_new ?_⟩))
 rw[Around.under_plainId F.plain_set_new _]
 unfold Builtin.«set.__new__» Builtin.Frozenset.newClass
 have hsub:=zAn
 obtain⟨hp,g,d,tk,os⟩:=s
 dsimp only
 wp_walk
 refine wpAny_askSetting (wpAny_pure ?_)
 dsimp only
 simp only[newObj]
 refine wpAny_bind (wpAny_alloc (wpAny_pure ?_))
 exact wpAny_pure h
end
end L2
namespace L2
open PySem PySem.Spec PyProof.Rows
theorem jR:∀{vs:List Value}{ss:List Str},StrsAre vs ss->∀(i:Nat) (v:Value),vs[i]?=some v->∃t,v=.str (ss.getD i ⟨#[]⟩) t
 |_,_,.nil,i,v,h=>by simp at h
 |_,_,.cons y t hr,0,v,h=>by
  simp at h
  exact⟨t,by rw[<-h];rfl⟩
 |_,_,.cons y t hr,i+1,v,h=>by
  simp only[List.getElem?_cons_succ]at h
  obtain⟨u,e⟩:=jR hr i v h
  exact⟨u,by rw[e];rfl⟩
section
variable{prog:Program}{w:World}{A:Around}{E:Value->Shared->Prop}{s:Shared}
abbrev cR(w:World):Obj:=cP #[] 0 (.fresh 0 0 (!byT w))
theorem zES{x:Value}{P:Shared->Prop}{Q:Value->Shared->Prop}(hq:∀s',P s'->Q (.ref s.heap.objs.size) s')
  (hb:wpAny (model prog w) A.in1.in1 (Builtin.«set.__init__» ⟨[.ref s.heap.objs.size]++[x],[]⟩) (λr s'=>r=.done (.ret .none)/\P s') E {s with heap:=s.heap.push (cR w)}):
  wpAny (model prog w) A (call (.type "set") [x]) Q E s:=by
 obtain⟨c,tl,hmro⟩:=F.called_set.mro
 have hmade:=F.called_set.made
 have hsub:=F.called_set.sub
 refine wpAny_call (codeAny_of_tree ?_)
 show wpAny _ _ (callAny (.type "set") _) _ _ _
 refine wpAny_pure ⟨Code.quiet_builtin _ (by decide +kernel),codeAny_builtin F.entry_type_call ?_⟩
 rw[Around.under_plain (weight_type_call_type "set" [x] []) rfl]
 have h1:=F.called_set.notType
 have h2:=F.called_set.canCreate
 have hct:=F.typeCall_set_1 x
 repeat (any_goals (first|assumption|wp_step))
 refine codeAny_mono (zCd x (E:=E) (Q₁:=λobj s₁=>obj=.ref s.heap.objs.size/\s₁={s with heap:=s.heap.push (cR w)}) ⟨rfl,rfl⟩) λr s₁ hr=>?_
 cases r with
 |error e=>exact hr
 |ok fl=>
  cases fl with
  |ret obj=>
   obtain⟨rfl,rfl⟩:=hr
   have hS:(s.heap.push (cR w)).get? s.heap.objs.size=some (cR w):=Heap.get?_push_size _ rfl
   have hT:Shared.TypeIs {s with heap:=s.heap.push (cR w)} (.ref s.heap.objs.size) "set":=⟨_,hS,rfl⟩
   have hli:=F.called_set.init.lookup
   have hbi:=F.called_set.init.bind (.ref s.heap.objs.size)
   repeat (any_goals (first|assumption|wp_step))
   refine codeAny_mono (codeAny_call_builtin (R:=wants (λr s₂=>r=.none/\P s₂) E) F.called_set.init.plain F.entry_set_init (check_set_init_1 hT (wpAny_mono hb (λr s' ⟨e,p⟩=>?_) λ_ _ h=>h))) λr₂ s₂ hr₂=>?_
   ·subst e
    exact⟨rfl,p⟩
   ·cases r₂ with
    |error e=>exact hr₂
    |ok fl₂=>
     cases fl₂ with
     |ret r=>
      obtain⟨rfl,p⟩:=hr₂
      repeat (any_goals (first|assumption|wp_step))
      exact hq _ p
     |_=>exact hr₂.elim
  |_=>exact hr.elim
theorem zGK{h:Heap}{a:Addr}(e:h.get? a=some (cR w)):SetS prog w a [] h:=⟨#[],0,.fresh 0 0 (!byT w),e,⟨λe he=>by simp at he,⟨[],.nil,.refl _⟩,List.nodup_nil,by decide,by simp[SetTable.fits,SetTable.fresh,SetTable.fill],.inl rfl,rfl⟩⟩
theorem zER{l:Addr}{o:Obj}{T:String}{R:Shared->Prop}{Q:Value->Shared->Prop}(ho:s.heap.get? l=some o)(hc:o.cls=.type T)(hs:isSubtype (.type T) (.type "set")=pure false)(hf:isSubtype (.type T) (.type "frozenset")=pure false)(hne:(Value.type T==Value.type "dict")=false)
  (hit:wpAny (model prog w) A.in1.in1 (pyIter (.ref l)) (λi s1=>wpAny (model prog w) A.in1.in1 (runValue (.builtin "set.update.loop" ⟨[.ref s.heap.objs.size,i],[]⟩)) (λ_ s'=>R s') E s1) E {s with heap:=s.heap.push (cR w)})
  (h:∀s',R s'->Q (.ref s.heap.objs.size) s'):wpAny (model prog w) A (call (.type "set") [.ref l]) Q E s:=by
 refine zES h ?_
 have ho':(s.heap.push (cR w)).get? l=some o:=Heap.get?_push_of_some _ ho
 have hS:(s.heap.push (cR w)).get? s.heap.objs.size=some (cR w):=Heap.get?_push_size _ rfl
 obtain⟨ocls,odict,odata,oslots⟩:=o
 simp only at hc
 subst hc
 unfold Builtin.«set.__init__» noKeywords Builtin.Frozenset.updateFrom
 generalize hPI:pyIter=PI at hit
 wp_walk
 exact wpAny_mono hit (λa s1 h=>wpAny_bind (wpAny_mono h (λ_ s2 r=>wpAny_pure (wpAny_pure ⟨rfl,r⟩)) λ_ _ h=>h)) λ_ _ h=>h
def uO(s:Shared)(P:Heap->Prop)(s':Shared):Prop:=∃h' tk,s'={s with heap:=h',toks:=tk}/\P h'/\∀b o,b<s.heap.objs.size->s.heap.get? b=some o->h'.get? b=some o
theorem pY{o:Obj}{G:Array GenState->Array GenState->Prop}{P:Heap->Prop}{s':Shared}(hm:Moved [s.heap.objs.size,(s.heap.push (cR w)).objs.size] G {s with heap:=(s.heap.push (cR w)).push o} s')(hg:s'.gens=s.gens)(p:P s'.heap):uO s P s':=by
 obtain⟨h',g',d',tk',os'⟩:=s'
 have ed:d'=s.drawn:=hm.drawn
 have eo:os'=s.os:=hm.os
 have hg:g'=s.gens:=hg
 subst hg ed eo
 refine⟨h',tk',rfl,p,λb o hb e=>hm.heap b o ?_ (Heap.get?_push_of_some _ (Heap.get?_push_of_some _ e))⟩
 rw[Heap.size_push]
 simp only[List.mem_cons,List.not_mem_nil,or_false,not_or]
 exact⟨Nat.ne_of_lt hb,Nat.ne_of_lt (Nat.lt_succ_of_lt hb)⟩
theorem qK{l:Addr}{items:Array Value}{R:Heap->Prop}{Q:Value->Shared->Prop}(hh:A.handled=none)(hl:s.heap.IsList l items) (hw:∀(hh3:A.in1.in1.in1.handled=none) (ne:l≠(s.heap.push (cR w)).objs.size) (nf:s.heap.objs.size∉[(s.heap.push (cR w)).objs.size,l]) (s1:Shared),s1={s with heap:=(s.heap.push (cR w)).push {cls:=.type "list_iterator",data:=.fields #[.ref l,.int 0 0]}}->s1.heap.get? s.heap.objs.size=some (cR w)->s1.heap.IsListIter (s.heap.push (cR w)).objs.size l 0/\s1.heap.IsList l items ->
   codeAny (model prog w) A.in1.in1 (.builtin "set.update.loop" ⟨[.ref s.heap.objs.size,.ref (s.heap.push (cR w)).objs.size],[]⟩) (wants (λ_ s'=>uO s R s') E) s1)
  (h:∀(h':Heap) (tk:Nat),R h'->(∀b o,b<s.heap.objs.size->s.heap.get? b=some o->h'.get? b=some o)->Q (.ref s.heap.objs.size) {s with heap:=h',toks:=tk}):wpAny (model prog w) A (call (.type "set") [.ref l]) Q E s:=by
 obtain⟨ol,hol,hcl,nl,hdl⟩:=id hl
 have hlS:l<s.heap.objs.size:=Heap.lt_size hol
 refine zER (R:=uO s R) hol hcl F.sub_list_set F.sub_list_frozenset (by decide) (wpAny_pyIter_list (hl.push _) (wpAny_runValue ?_)) λs' ⟨h',tk,e,p,k⟩=>by subst e;exact h h' tk p k
 refine hw (by simp[hh]) ?_ ?_ _ rfl (Heap.get?_push_of_some _ (Heap.get?_push_size _ rfl)) ⟨⟨_,Heap.get?_push_size _ rfl,rfl,rfl⟩,(hl.push _).push _⟩
 ·rw[Heap.size_push];exact Nat.ne_of_lt (Nat.lt_succ_of_lt hlS)
 ·rw[Heap.size_push]
  simp only[List.mem_cons,List.not_mem_nil,or_false,not_or]
  exact⟨Nat.ne_of_lt (Nat.lt_succ_self _),Nat.ne_of_gt hlS⟩
theorem zB2{l:Addr}{items:Array Value}{ss:List Str}{Q:Value->Shared->Prop}(hh:A.handled=none)(hl:s.heap.IsList l items)(hi:StrsAre items.toList ss)(hb:(bG ss).length+1<scanBound)
  (h:∀(h':Heap) (tk:Nat),SetS prog w s.heap.objs.size (bG ss) h'->(∀b o,b<s.heap.objs.size->s.heap.get? b=some o->h'.get? b=some o)->Q (.ref s.heap.objs.size) {s with heap:=h',toks:=tk}):
  wpAny (model prog w) A (call (.type "set") [.ref l]) Q E s:=by
 have hz:items.size=ss.length:=by have:=iM hi;simpa using this
 have hm:eI (λi=>ss.getD i ⟨#[]⟩) items.size=bG ss:=by rw[hz];exact zEt λi hi=>by simp[hi]
 refine qK hh hl (λhh3 ne nf s1 e1 g1 st=>?_) h
 subst e1
 exact zDs ((Walks.list hh3 _ l ne items).toS) s.heap.objs.size nf (λi=>ss.getD i ⟨#[]⟩) (λi v hv=>jR hi i v (by rw[Array.getElem?_toList];exact hv)) (by rw[hm];exact hb) (items.size-0) 0 _ (by omega) (Nat.zero_le _) st (zGK g1) λs' m S'=>pY m m.gens (by rw[hm]at S';exact S')
end
end L2
namespace L2
open PySem PySem.Spec PyProof.Rows
theorem boot_set:bootBuiltins "set"=some (.type "set"):=by decide +kernel
def oW(P:Program)(w:World)(a:Addr)(us:List Str):HO:=.ext (SetS P w a us)
section
variable{X:Cx}
theorem Inv.draw{pins:List (Addr×Obj)}{σ:St}{H:Hp}{s:Shared}(I:Inv X pins σ H s)(d:Drawn):Inv X pins σ H {s with drawn:=d}:=
 ⟨I.ok,I.os,I.bare,I.base,I.loc,I.cell,I.free,I.freeC,I.pin,I.hok,I.len⟩
def zGS(P:Program)(w:World):List V->Hp->VK->Prop:=λxs H Q=>∃(a:Addr) (us:List Str),xs=[.ref a]/\H a=some (oW P w a us)/\us.length<64 /\
  ∀(ss:List Str) (l:Addr),ss.Perm us->sortedS ss=true->H l=none->Q (.ref l) (upd H l (.lst (ss.map V.str)))
theorem zBY(hc:X.calm=true):CallR X (.builtin "sorted") (zGS X.prog X.w):=by
 intro pins s σ H xs us Q I r h
 obtain⟨a,uu,rfl,hq,h64,q⟩:=h
 obtain⟨u,rfl,rx⟩:=bZ r
 cases rx
 have S:SetS X.prog X.w a uu s.heap:=(I.hok a _ hq).1
 refine zBP (I.ok.hd hc) S h64 λh' d tk l out ss e hs hp hso hl le k=>?_
 refine⟨.ref l,_,(I.laid (t':=tk) (o:=.lst (ss.map V.str)) k le ?_).draw d,rfl,q ss l hp hso (I.hok.fresh le)⟩
 refine⟨?_,out,e,pN hs,hl⟩
 rw[List.length_map,hp.length_eq]
 exact Nat.le_of_lt (Nat.lt_trans h64 (by decide))
def gQ(x:Str)(n:Int):Str:=⟨(List.replicate n.toNat x.cps.toList).flatten.toArray⟩
def zIo:R2:=λx y H Q=>∃(z:Str) (n:Int),x=.str z/\y=.int n/\z.length<=1000/\n<=1000 /\ -1000<=n/\Q (.str (gQ z n)) H
theorem qY(x:Array Nat):∀n (acc:Array Nat),((List.replicate n x).foldl (·++·) acc)=(acc.toList++(List.replicate n x.toList).flatten).toArray
 |0,acc=>by simp
 |n+1,acc=>by
  rw[List.replicate_succ,List.foldl_cons,qY x n,List.replicate_succ,List.flatten_cons]
  simp
theorem zFM:OpR X (binaryOp .Mult) zIo:=by
 intro pins s σ H x y v u Q I rx ry h
 obtain⟨z,n,rfl,rfl,hz,n1,n0,q⟩:=h
 obtain⟨t,rfl⟩:=rx
 obtain⟨t',rfl⟩:=ry
 have fin:∀(w:Str) (k:Tok) (tk:Nat),w=gQ z n->EP X pins σ Q (.str w k) {s with toks:=tk}:=λw k tk e=>⟨.str w,H,I.tok tk,⟨k,rfl⟩,by rw[e];exact q⟩
 have pos:∀m:Nat,m<=1000->z.length*m<=1000000:=λm hm=>Nat.mul_le_mul hz hm
 refine P.mul_str (by rw[decide_eq_false (by omega),decide_eq_false (by omega)];rfl) (λh1 _ h2=>?_) (λh1 _=>?_) ?_
 ·have:(2 ^ 63-1) / n>=1000:=by
   have h3:n<=1000:=n1
   have h4:0<n:=by omega
   rw[ge_iff_le,Int.le_ediv_iff_mul_le h4]
   omega
  omega
 ·show decide (_ > sizeLine)=false
  refine decide_eq_false (Nat.not_lt.mpr (Nat.le_trans (pos n.toNat (by omega)) (by decide)))
 ·split
  ·refine⟨by decide,fin _ _ _ ?_⟩
   unfold gQ
   rw[show n.toNat=0 by omega]
   rfl
  ·split
   ·rename_i h1 h2
    refine fin _ _ s.toks ?_
    rw[Bool.or_eq_true]at h2
    unfold gQ
    rcases h2 with h3|h3
    ·have:n=1:=by simpa using h3
     rw[this]
     simp
    ·have hz0:z.cps=#[]:=by
      have:z.cps.size=0:=by simpa[Str.length]using h3
      exact Array.size_eq_zero_iff.mp this
     have e:∀m:Nat,(List.replicate m ([]:List Nat)).flatten=[]:=λm=>by
      induction m with
      |zero=>rfl
      |succ m ih=>rw[List.replicate_succ,List.flatten_cons,ih];rfl
     obtain⟨zc⟩:=z
     have hz0:zc=#[]:=hz0
     subst hz0
     show(⟨#[]⟩:Str)=⟨(List.replicate n.toNat ([]:List Nat)).flatten.toArray⟩
     rw[e]
   ·refine⟨?_,fin _ _ _ ?_⟩
    ·show(List.foldl (λx1 x2=>x1++x2) #[] (List.replicate n.toNat z.cps)).size<=_
     rw[qY,List.size_toArray,List.length_append,rX]
     show 0+n.toNat*z.cps.toList.length<=_
     have:=pos n.toNat (by omega)
     rw[Nat.mul_comm]at this
     have e:z.cps.toList.length=z.length:=by simp[Str.length]
     rw[e]
     exact Nat.le_trans (by omega) (show 1000000<=sizeLine by decide)
    ·unfold gQ
     rw[qY]
     simp
def zJj(K:W.Frag):V->Option Int->Option Int->Hp->VK->Prop:=λx lo hi H Q=>∃a xs,x=.ref a/\SqT K H a xs/\∀p H',Same H H'->SqT K H' p (eW xs lo hi)->Q (.ref p) H'
theorem zBL{prog:Program}{w:World}{A:Around}{E:Value->Shared->Prop}{s:Shared}{t sl:Addr}{items:Array Value}{vl vu:Value}{lo hi:Option Int}{Q:Value->Shared->Prop}(ht:IsTup s.heap t items)(hs:s.heap.IsSliceOf sl vl vu .none)(pl:IsPart vl lo)(pu:IsPart vu hi)
  (hw:HT.sIx items.size 0 lo=0/\HT.sIx items.size items.size hi=items.size) (h:Q (.ref t) s):wpAny (model prog w) A (getItem (.ref t) (.ref sl)) Q E s:=by
 obtain⟨os,hos,hcs,hds⟩:=id hs
 have hTs:s.TypeIs (.ref sl) "slice":=⟨os,hos,hcs⟩
 unfold getItem
 try with_reducible refine wpAny_holding ?_
 first|refine wpAny_bind (wpAny_pure ?_)|skip
 refine wpAny_bind (wpAny_sequenceKey ht.typeIs (by decide) ?_)
 refine wpAny_bind (wpAny_callSpecial?_slot (name:=Str.ofString "__getitem__") ht.typeIs PyProof.Rows.slot_tuple_getitem (wpAny_call_entry PyProof.Rows.slot_tuple_getitem ht.typeIs entry_tuple_getitem ?_ (args_tuple_getitem _ _)))
 show wpAny _ _ (Builtin.Tuple.tupleItemsOf (.ref t) >>= _) _ _ s
 refine wpAny_bind (tupleItemsOf_ ht (wpAny_bind (wpAny_typeOf hTs ?_)))
 rw[if_pos (by decide)]
 refine wpAny_bind (HT.sliceApplied_gen hs pl pu ?_)
 rw[hw.1,hw.2]
 dsimp only
 rw[if_pos (by simp)]
 unfold Builtin.Tuple.tupleIsExact
 refine wpAny_bind (wpAny_bind (wpAny_typeOf ht.typeIs (wpAny_pure ?_)))
 rw[if_pos (by decide)]
 exact wpAny_bind (wpAny_rule (wpAny_pure ⟨_,rfl,wpAny_pure h⟩))
theorem zF8{xs:List V}{lo hi:Option Int}(hw:HT.sIx xs.length 0 lo=0/\HT.sIx xs.length xs.length hi=xs.length):eW xs lo hi=xs:=by
 unfold eW
 rw[hw.1,hw.2,List.drop_zero,Nat.sub_zero,List.take_length]
theorem sl_tupW:SlR X (zJj X.K):=by
 intro pins s σ H x v vl vu lo hi sl Q I rx hs pl pu h
 obtain⟨a,xs,rfl,hx,q⟩:=h
 by_cases hw:HT.sIx xs.length 0 lo=0/\HT.sIx xs.length xs.length hi=xs.length
 ·cases rx
  obtain⟨its,r,ht,hz⟩:=I.tuple hx
  have hlen:its.toArray.size=xs.length:=by rw[List.size_toArray];exact r.length.symm
  refine⟨"tuple",_,PyProof.Rows.slot_tuple_getitem.lookup,ht.typeIs,?_⟩
  exact zBL ht hs pl pu (by rw[hlen];exact hw) ⟨.ref a,H,I,rfl,q a H (λ_ _ e=>e) (by rw[zF8 hw];exact hx)⟩
 ·exact zGF pins s σ H _ v vl vu lo hi sl Q I rx hs pl pu ⟨a,xs,rfl,hx,hw,λp np=>q p _ (λb o e=>by rw[aY (cS e np)];exact e) (SqT.of aT)⟩
end
end L2
namespace L2
open PySem PySem.Spec PyProof.Rows
section
variable{X:Cx}
theorem zBS{B:Nat}:∀{ts:List Str},(∀t∈ts,t.length<=B)->(tupleText ts).length<=ts.length*(B+2)+4:=by
 intro ts h
 have hp:∀(l:List Str),(∀t∈l,t.length<=B)->piled l<=l.length*(B+2):=by
  intro l
  induction l with
  |nil=>intro _;simp[piled]
  |cons x l ih=>
   intro hl
   have:=ih λt ht=>hl t (List.mem_cons_of_mem _ ht)
   have h0:=hl x List.mem_cons_self
   rw[piled_cons,List.length_cons,Nat.add_mul,Nat.one_mul]
   omega
 have hp:=hp ts h
 unfold tupleText
 rw[strLen_append,strLen_append]
 have e1:((("(":String):Str)).length=1:=rfl
 have e3:(((if ts.length==1 then ",)" else ")":String):Str)).length<=2:=by split<;>decide
 rw[e1]
 by_cases z:ts=[]
 ·subst z
  have:(Str.join ", " ([]:List Str)).length=0:=rfl
  omega
 ·have:=join_length_add ts z
  omega
end
end L2
namespace L2
open PySem PySem.Spec PyProof.Rows
theorem zAf(f:Nat->List Nat):∀n,argBest (λi j=>decide (f i<f j)) n<=n/\∀j,j<=n->f (argBest (λi j=>decide (f i<f j)) n)<=f j
 |0=>⟨Nat.le_refl _,λj hj=>by rw[Nat.le_zero.mp hj];exact List.le_refl _⟩
 |n+1=>by
  obtain⟨h1,h2⟩:=zAf f n
  show(if decide (f (n+1)<f (argBest _ n))=true then n+1 else argBest _ n)<=n+1/\∀j,j<=n+1->f (if decide (f (n+1)<f (argBest _ n))=true then n+1 else argBest _ n)<=f j
  by_cases h:f (n+1)<f (argBest (λi j=>decide (f i<f j)) n)
  ·rw[if_pos (decide_eq_true h)]
   refine⟨Nat.le_refl _,λj hj=>?_⟩
   rcases Nat.lt_or_eq_of_le hj with z|z
   ·exact List.le_trans (List.le_of_lt h) (h2 j (by omega))
   ·rw[z];exact List.le_refl _
  ·rw[if_neg (λz=>h (of_decide_eq_true z))]
   refine⟨by omega,λj hj=>?_⟩
   rcases Nat.lt_or_eq_of_le hj with z|z
   ·exact h2 j (by omega)
   ·rw[z];exact List.not_lt.mp h
theorem zAg(f:Nat->List Nat):∀n,argBest (λi j=>decide (f j<f i)) n<=n/\∀j,j<=n->f j<=f (argBest (λi j=>decide (f j<f i)) n)
 |0=>⟨Nat.le_refl _,λj hj=>by rw[Nat.le_zero.mp hj];exact List.le_refl _⟩
 |n+1=>by
  obtain⟨h1,h2⟩:=zAg f n
  show(if decide (f (argBest _ n)<f (n+1))=true then n+1 else argBest _ n)<=n+1/\∀j,j<=n+1->f j<=f (if decide (f (argBest _ n)<f (n+1))=true then n+1 else argBest _ n)
  by_cases h:f (argBest (λi j=>decide (f j<f i)) n)<f (n+1)
  ·rw[if_pos (decide_eq_true h)]
   refine⟨Nat.le_refl _,λj hj=>?_⟩
   rcases Nat.lt_or_eq_of_le hj with z|z
   ·exact List.le_trans (h2 j (by omega)) (List.le_of_lt h)
   ·rw[z];exact List.le_refl _
  ·rw[if_neg (λz=>h (of_decide_eq_true z))]
   refine⟨by omega,λj hj=>?_⟩
   rcases Nat.lt_or_eq_of_le hj with z|z
   ·exact h2 j (by omega)
   ·rw[z];exact List.not_lt.mp h
theorem wS{l:List Str}{i:Nat}(h:i<l.length):l.getD i ⟨#[]⟩∈l:=by
 rw[List.getD_eq_getElem?_getD,List.getElem?_eq_getElem h]
 exact List.getElem_mem h
theorem wM{l:List Str}{a:Str}(h:a∈l):∃j,j<l.length/\l.getD j ⟨#[]⟩=a:=by
 obtain⟨j,hj,e⟩:=List.mem_iff_getElem.mp h
 exact⟨j,hj,by rw[List.getD_eq_getElem?_getD,List.getElem?_eq_getElem hj];exact e⟩
section
variable{prog:Program}{w:World}{A:Around}{E:Value->Shared->Prop}{s:Shared}{l:Addr}{its:Array Value}{ss:List Str}
theorem zCe{P:Nat->Value->Prop}(val:Nat->Str)(hval:∀i v,P i v->∃t,v=.str (val i) t):CmpOf prog w A .Lt P (λi j=>decide ((val i).cps.toList<(val j).cps.toList)):=λi j vi vj s Q E hi hj h=>by
 obtain⟨t,rfl⟩:=hval i vi hi
 obtain⟨u,rfl⟩:=hval j vj hj
 exact richCompare_gives (op:=.Lt) (typeIs_str s _ t) (typeIs_str s _ u) F.slot_str_lt F.entry_str_lt (F.args_str_lt_2 _ _) (gives_str_lt _ _ t u) (λx=>nomatch x) h
theorem zCf{P:Nat->Value->Prop}(val:Nat->Str)(hval:∀i v,P i v->∃t,v=.str (val i) t):CmpOf prog w A .Gt P (λi j=>decide ((val j).cps.toList<(val i).cps.toList)):=λi j vi vj s Q E hi hj h=>by
 obtain⟨t,rfl⟩:=hval i vi hi
 obtain⟨u,rfl⟩:=hval j vj hj
 exact richCompare_gives (op:=.Gt) (typeIs_str s _ t) (typeIs_str s _ u) F.slot_str_gt F.entry_str_gt (F.args_str_gt_2 _ _) (gives_str_gt _ _ t u) (λx=>nomatch x) h
theorem vQ{Q:Value->Shared->Prop}(hl:s.heap.IsList l its)
  (h:∀s₂:Shared,s₂={s with heap:=s.heap.push {cls:=.type "list_iterator",data:=.fields #[.ref l,.int 0 0]}} ->
   (s₂.heap.IsListIter s.heap.objs.size l 0/\s₂.heap.IsList l its)->(∀b∈[s.heap.objs.size,l],b<s₂.heap.objs.size)->l≠s.heap.objs.size->Q (.ref s.heap.objs.size) s₂):
  wpAny (model prog w) A (pyIter (.ref l)) Q E s:=by
 have hlt:l<s.heap.objs.size:=by obtain⟨_,e,_⟩:=hl;exact Heap.lt_size e
 refine wpAny_pyIter_list hl (h _ rfl ⟨⟨_,Heap.get?_push_size _ rfl,rfl,rfl⟩,hl.push _⟩ (λb hb=>?_) (Nat.ne_of_lt hlt))
 show b<(s.heap.push _).objs.size
 rw[Heap.size_push]
 simp only[List.mem_cons,List.not_mem_nil,or_false]at hb
 rcases hb with z|z
 ·rw[z];exact Nat.lt_succ_self _
 ·rw[z];exact Nat.lt_succ_of_lt hlt
theorem zEs{Q:Value->Shared->Prop}(hh:A.handled=none)(hl:s.heap.IsList l its)(hi:StrsAre its.toList ss)(hne:0<ss.length)
  (h:∀x t h' tk,x∈ss->(∀y∈ss,x.cps.toList<=y.cps.toList)->(∀b o,s.heap.get? b=some o->h'.get? b=some o)->Q (.str x t) {s with heap:=h',toks:=tk}):
  wpAny (model prog w) A (call (.builtin "min") [.ref l]) Q E s:=by
 have hsz:its.size=ss.length:=by rw[<-Array.length_toList,iM hi]
 refine call_min_walk (vQ hl λs₂ e st hfp hlI=>?_)
 subst e
 refine⟨_,_,_,_,_,_,_,rfl,Walks.list (A:=A.in1) hh _ l hlI its,st,hfp,by omega,zCe (λi=>ss.getD i ⟨#[]⟩) (λi v hv=>jR hi i v (by rw[Array.getElem?_toList];exact hv)),λv h' tk hP hk=>?_⟩
 obtain⟨t,rfl⟩:=jR hi _ v (by rw[Array.getElem?_toList];exact hP)
 obtain⟨b1,b2⟩:=zAf (λi=>(ss.getD i ⟨#[]⟩).cps.toList) (its.size-1)
 refine h _ t h' tk (wS (by omega)) (λy hy=>?_) (old_kept hk)
 obtain⟨j,hj,rfl⟩:=wM hy
 exact b2 j (by omega)
theorem zEu{Q:Value->Shared->Prop}(hh:A.handled=none)(hl:s.heap.IsList l its)(hi:StrsAre its.toList ss)(hne:0<ss.length)
  (h:∀x t h' tk,x∈ss->(∀y∈ss,y.cps.toList<=x.cps.toList)->(∀b o,s.heap.get? b=some o->h'.get? b=some o)->Q (.str x t) {s with heap:=h',toks:=tk}):
  wpAny (model prog w) A (call (.builtin "max") [.ref l]) Q E s:=by
 have hsz:its.size=ss.length:=by rw[<-Array.length_toList,iM hi]
 refine call_max_walk (vQ hl λs₂ e st hfp hlI=>?_)
 subst e
 refine⟨_,_,_,_,_,_,_,rfl,Walks.list (A:=A.in1) hh _ l hlI its,st,hfp,by omega,zCf (λi=>ss.getD i ⟨#[]⟩) (λi v hv=>jR hi i v (by rw[Array.getElem?_toList];exact hv)),λv h' tk hP hk=>?_⟩
 obtain⟨t,rfl⟩:=jR hi _ v (by rw[Array.getElem?_toList];exact hP)
 obtain⟨b1,b2⟩:=zAg (λi=>(ss.getD i ⟨#[]⟩).cps.toList) (its.size-1)
 refine h _ t h' tk (wS (by omega)) (λy hy=>?_) (old_kept hk)
 obtain⟨j,hj,rfl⟩:=wM hy
 exact b2 j (by omega)
end
section
variable{X:Cx}
theorem zCM(hc:X.calm=true):CallR X (.builtin "min") (λxs H Q=>∃(p:Addr) (ss:List Str),xs=[.ref p]/\SqL X.K H p (ss.map V.str)/\0<ss.length/\∀x,x∈ss->(∀y∈ss,x.cps.toList<=y.cps.toList)->Q (.str x) H):=by
 intro pins s σ H xs us Q I r h
 obtain⟨p,ss,rfl,hq,hn,q⟩:=h
 obtain⟨u,rfl,rx⟩:=bZ r
 cases rx
 obtain⟨its,rv,pl,hz⟩:=I.list hq
 refine zEs (I.ok.hd hc) pl.isList (kY rv) hn λx t h' tk h1 h2 hk=>?_
 exact⟨.str _,H,I.kept hk,⟨t,rfl⟩,q _ h1 h2⟩
theorem zCN(hc:X.calm=true):CallR X (.builtin "max") (λxs H Q=>∃(p:Addr) (ss:List Str),xs=[.ref p]/\SqL X.K H p (ss.map V.str)/\0<ss.length/\∀x,x∈ss->(∀y∈ss,y.cps.toList<=x.cps.toList)->Q (.str x) H):=by
 intro pins s σ H xs us Q I r h
 obtain⟨p,ss,rfl,hq,hn,q⟩:=h
 obtain⟨u,rfl,rx⟩:=bZ r
 cases rx
 obtain⟨its,rv,pl,hz⟩:=I.list hq
 refine zEu (I.ok.hd hc) pl.isList (kY rv) hn λx t h' tk h1 h2 hk=>?_
 exact⟨.str _,H,I.kept hk,⟨t,rfl⟩,q _ h1 h2⟩
end
end L2
namespace L2
open PySem PySem.Spec PyProof.Rows
open PySem PySem.Spec PyProof.Rows
section
variable{κ:Type}[DecidableEq κ]
def cV(kvs:List (κ×V))(k:κ):Option V:=(kvs.find? λkv=>decide (kv.1=k)).map (·.2)
def cL(kvs:List (κ×V))(k:κ)(v:V):List (κ×V):=
 if (kvs.any λkv=>decide (kv.1=k))=true then kvs.map (λkv=>if kv.1=k then(kv.1,v) else kv) else kvs++[(k,v)]
theorem mV{p:κ×V}{r:List (κ×V)}{k:κ}(e:p.1=k):cV (p::r) k=some p.2:=by simp[cV,List.find?_cons,e]
theorem mW{p:κ×V}{r:List (κ×V)}{k:κ}(e:¬ p.1=k):cV (p::r) k=cV r k:=by simp[cV,List.find?_cons,e]
theorem mX(k:κ):∀kvs:List (κ×V),(kvs.any λkv=>decide (kv.1=k))=(cV kvs k).isSome
 |[]=>rfl
 |p::r=>by
  rw[List.any_cons]
  by_cases e:p.1=k
  ·simp only[mV e,decide_eq_true e,Bool.true_or,Option.isSome_some]
  ·rw[mW e,decide_eq_false e,Bool.false_or];exact mX k r
theorem pP(kvs:List (κ×V))(k:κ)(v:V):(cL kvs k v).length<=kvs.length+1:=by
 unfold cL
 split
 ·rw[List.length_map];omega
 ·rw[List.length_append,List.length_cons,List.length_nil];omega
theorem zEg{kvs:List (κ×V)}{k:κ}(v:V)(h:cV kvs k=none):cL kvs k v=kvs++[(k,v)]:=by
 unfold cL
 rw[mX,h]
 exact if_neg (by decide)
theorem RelO.isSome_eq{o:Option V}{u:Option Value}(r:RelO o u):o.isSome=u.isSome:=by
 cases o with
 |none=>cases u with
  |none=>rfl
  |some _=>exact(show False from r).elim
 |some _=>cases u with
  |none=>exact(show False from r).elim
  |some _=>rfl
theorem KV.val{kvs:List (κ×V)}{vs:List (κ×Value)}(r:KV kvs vs)(k:κ):RelO (cV kvs k) (valueAt vs k):=by
 unfold KV at r
 induction r with
 |nil=>exact True.intro
 |@cons p q ps qs h t ih=>
  obtain⟨h1,h2⟩:=h
  by_cases e:p.1=k
  ·have e':q.1=k:=h1.symm.trans e
   have b:valueAt (q::qs) k=some q.2:=by simp[valueAt,List.find?_cons,e']
   rw[mV e,b];exact h2
  ·have e':¬ q.1=k:=λz=>e (h1.trans z)
   have b:valueAt (q::qs) k=valueAt qs k:=by simp[valueAt,List.find?_cons,e']
   rw[mW e,b];exact ih
theorem KV.any{kvs:List (κ×V)}{vs:List (κ×Value)}(r:KV kvs vs)(k:κ):(kvs.any λkv=>decide (kv.1=k))=vs.any λkv=>decide (kv.1=k):=by
 unfold KV at r
 induction r with
 |nil=>rfl
 |cons h t ih=>rw[List.any_cons,List.any_cons,ih,h.1]
theorem KV.repl{kvs:List (κ×V)}{vs:List (κ×Value)}(r:KV kvs vs)(k:κ){y:V}{u:Value}(ry:RelV y u):
  KV (kvs.map λkv=>if kv.1=k then(kv.1,y) else kv) (vs.map λkv=>if kv.1=k then(kv.1,u) else kv):=by
 unfold KV at r ⊢
 induction r with
 |nil=>exact .nil
 |@cons p q ps qs h t ih=>
  rw[List.map_cons,List.map_cons]
  refine .cons ?_ ih
  obtain⟨h1,h2⟩:=h
  by_cases e:p.1=k
  ·rw[if_pos e,if_pos (h1.symm.trans e)];exact⟨h1,ry⟩
  ·rw[if_neg e,if_neg (λz=>e (h1.trans z))];exact⟨h1,h2⟩
theorem KV.put{kvs:List (κ×V)}{vs:List (κ×Value)}(r:KV kvs vs)(k:κ){y:V}{u:Value}(ry:RelV y u):KV (cL kvs k y) (stored vs k u):=by
 unfold cL stored
 rw[r.any k]
 by_cases e:(vs.any λkv=>decide (kv.1=k))=true
 ·rw[if_pos e,if_pos e];exact r.repl k ry
 ·rw[if_neg e,if_neg e];exact Paired.snoc r ⟨rfl,ry⟩
theorem KV.length{kvs:List (κ×V)}{vs:List (κ×Value)}(r:KV kvs vs):kvs.length=vs.length:=Paired.length r
end
theorem kI{P:Program}{w:World}{k:Key}{u:Value}(r:RelV (kV k) u):(bK P w).is k u=true:=by
 cases k with
 |inl i=>obtain⟨t,e⟩:=(show ∃t,u=Value.int i t from r);subst e;exact zB7 P w i t
 |inr x=>obtain⟨t,e⟩:=(show ∃t,u=Value.str x t from r);subst e;exact mI P w x t
theorem wP{P:Program}{w:World}:∀{ks:List Key}{us:List Value},Vals (ks.map kV) us->ItemsAre (bK P w) ks us
 |[],_,r=>by rw[List.map_nil]at r;cases r;exact .nil
 |k::ks,_,r=>by
  rw[List.map_cons]at r
  cases r with
  |cons h t=>exact .cons (kI h) (wP t)
abbrev KT(H:Hp):List (List Key×V)->List (List Key×Addr×Value)->Prop:=Paired λp q=>p.1=q.1/\H q.2.1=some (.tup (p.1.map kV))/\RelV p.2 q.2.2
theorem KT.val{H:Hp}{kvs:List (List Key×V)}{xs:List (List Key×Addr×Value)}(r:KT H kvs xs)(k:List Key):RelO (cV kvs k) ((atKey xs k).map (·.2)):=by
 induction r with
 |nil=>exact True.intro
 |@cons p q ps qs h t ih=>
  obtain⟨h1,_,h2⟩:=h
  by_cases e:p.1=k
  ·have e':q.1=k:=h1.symm.trans e
   have b:atKey (q::qs) k=some q.2:=by simp[atKey,List.find?_cons,e']
   rw[mV e,b];exact h2
  ·have e':¬ q.1=k:=λz=>e (h1.trans z)
   have b:atKey (q::qs) k=atKey qs k:=by simp[atKey,List.find?_cons,e']
   rw[mW e,b];exact ih
theorem KT.repl{H:Hp}{kvs:List (List Key×V)}{xs:List (List Key×Addr×Value)}(r:KT H kvs xs)(k:List Key){y:V}{u:Value}(ry:RelV y u):
  KT H (kvs.map λkv=>if kv.1=k then(kv.1,y) else kv) (xs.map (putAt k u)):=by
 induction r with
 |nil=>exact .nil
 |@cons p q ps qs h t ih=>
  rw[List.map_cons,List.map_cons]
  refine .cons ?_ ih
  obtain⟨h1,h2,h3⟩:=h
  unfold putAt
  by_cases e:p.1=k
  ·rw[if_pos e,if_pos (h1.symm.trans e)];exact⟨h1,h2,ry⟩
  ·rw[if_neg e,if_neg (λz=>e (h1.trans z))];exact⟨h1,h2,h3⟩
theorem KT.put{H:Hp}{kvs:List (List Key×V)}{xs:List (List Key×Addr×Value)}(r:KT H kvs xs)(k:List Key){b:Addr}{y:V}{u:Value}(hb:H b=some (.tup (k.map kV)))(ry:RelV y u):
  KT H (cL kvs k y) (storedH xs k b u):=by
 have e:(kvs.any λkv=>decide (kv.1=k))=(atKey xs k).isSome:=by
  rw[mX,(r.val k).isSome_eq,Option.isSome_map]
 unfold cL storedH
 rw[e]
 by_cases q:(atKey xs k).isSome=true
 ·rw[if_pos q,if_pos q];exact r.repl k ry
 ·rw[if_neg q,if_neg q];exact Paired.snoc r ⟨rfl,hb,ry⟩
theorem KT.keeps{H H':Hp}{kvs:List (List Key×V)}{xs:List (List Key×Addr×Value)}(r:KT H kvs xs)(ht:∀b ys,H b=some (.tup ys)->H' b=some (.tup ys)):KT H' kvs xs:=
 Paired.mapP r λ_ _ z=>⟨z.1,ht _ _ z.2.1,z.2.2⟩
section
variable{P:Program}{w:World}{H:Hp}{h:Heap}{a:Addr}
theorem zAN{u:HO}(ok:HOk P w H h)(e:Rd H a u):ObjOk P w H h a u:=e.ok ok
theorem kK{kvs:List (Key×V)}(ok:HOk P w H h)(e:Rd H a (.dK kvs)):kvs.length<=sizeLine/\(a==sysModules)=false/\∃vs,KV kvs vs/\h.DictOf (bK P w) a vs:=
 show ObjOk P w H h a (.dK kvs) from zAN ok e
theorem zIT{kvs:List (Key×V)}(ok:HOk P w H h)(e:H a=some (.dK kvs)):kvs.length<=sizeLine/\(a==sysModules)=false/\∃vs,KV kvs vs/\h.DictOf (bK P w) a vs:=kK ok (.inl e)
theorem lP{ks:List Key}(ok:HOk P w H h)(e:H a=some (.tup (ks.map kV))):(tupleKind (bK P w)).is h ks a:=by
 obtain⟨_,its,r,o,h1,h2,n,h3⟩:=(show ObjOk P w H h a (.tup (ks.map kV)) from ok a _ e)
 exact⟨o,its.toArray,n,h1,h2,h3,by simpa using wP r⟩
theorem lY{kvs:List (List Key×V)}(ok:HOk P w H h)(e:Rd H a (.dT kvs)):kvs.length<=sizeLine/\(a==sysModules)=false /\
  ∃xs,KT H kvs xs/\h.DictOfH (tupleKind (bK P w)) a xs:=by
 obtain⟨z,y,xs,r,o,es,ep,h1,h2,h3,h4,h5⟩:=(show ObjOk P w H h a (.dT kvs) from zAN ok e)
 refine⟨z,y,xs,r,o,es,ep,h1,h2,h3,h4,λx hx=>?_,h5⟩
 have all:∀{l:List (List Key×V)} {m:List (List Key×Addr×Value)},KT H l m->∀x∈m,(tupleKind (bK P w)).is h x.1 x.2.1:=by
  intro l m q
  induction q with
  |nil=>intro x hx;exact nomatch hx
  |@cons p q ps qs hq t ih=>
   intro x hx
   rcases List.mem_cons.mp hx with e|hx
   ·subst e
    exact lP ok (by rw[<-hq.1];exact hq.2.1)
   ·exact ih x hx
 exact all r x hx
theorem zIS{kvs:List (List Key×V)}(ok:HOk P w H h)(e:H a=some (.dT kvs)):kvs.length<=sizeLine/\(a==sysModules)=false /\
  ∃xs,KT H kvs xs/\h.DictOfH (tupleKind (bK P w)) a xs:=lY ok (.inl e)
end
def jE(H:Hp)(a:Addr)(y:V)(r:Option V):Prop:=
 (∃kvs k,Rd H a (.dK kvs)/\y=kV k/\r=cV kvs k)\/∃kvs k b,Rd H a (.dT kvs)/\y=.ref b/\H b=some (.tup (k.map kV))/\r=cV kvs k
def DPut(H:Hp)(a:Addr)(y v:V)(H':Hp):Prop:=
 (∃kvs k,H a=some (.dK kvs)/\y=kV k/\kvs.length<sizeLine/\H'=upd H a (.dK (cL kvs k v))) \/
 ∃kvs k b,H a=some (.dT kvs)/\y=.ref b/\H b=some (.tup (k.map kV))/\kvs.length<sizeLine/\H'=upd H a (.dT (cL kvs k v))
theorem DPut.k{H:Hp}{a:Addr}{kvs:List (Key×V)}{k:Key}{v:V}(e:H a=some (.dK kvs))(hl:kvs.length<sizeLine):DPut H a (kV k) v (upd H a (.dK (cL kvs k v))):=.inl ⟨kvs,k,e,rfl,hl,rfl⟩
section
variable{X:Cx}{pins:List (Addr×Obj)}{σ:St}{H:Hp}{s:Shared}{a:Addr}{y v:V}{u r:Value}{o:Option V}{A:Around}{E:Value->Shared->Prop}
theorem zDI{Q:Value->Shared->Prop}(hu:A.units+1<cLine)(I:Inv X pins σ H s)(g:jE H a y (some v))(ry:RelV y u)(h:∀w' s',Inv X pins σ H s'->RelV v w'->Q w' s'):
  wpAny (model X.prog X.w) A (getItem (.ref a) u) Q E s:=by
 rcases g with⟨kvs,k,e,ey,l⟩|⟨kvs,k,b,e,ey,eb,l⟩
 ·subst ey
  obtain⟨z,hd,vs,rel,dd⟩:=kK I.hok e
  obtain⟨w',hw,rw'⟩:=RelO.some_of (v:=v) (o:=valueAt vs k) (by rw[l];exact rel.val k)
  exact wpAny_getItem_of (kI ry) dd.mapOf hw (h w' _ (I.tok _) rw')
 ·subst ey
  cases (show u=Value.ref b from ry)
  obtain⟨z,hd,xs,rel,dd⟩:=lY I.hok e
  obtain⟨w',hw,rw'⟩:=RelO.some_of (v:=v) (o:=(atKey xs k).map (·.2)) (by rw[l];exact rel.val k)
  obtain⟨p,hp,hp2⟩:=Option.map_eq_some_iff.mp hw
  refine wpAny_getItem_heap (tupleKind_room_in1 hu) (lP I.hok eb) dd hp ?_
  rw[hp2]
  exact h w' _ (I.tok _) rw'
theorem zJ7{Q:Value->Shared->Prop}(hu:A.units+1<cLine)(I:Inv X pins σ H s)(g:jE H a y o)(ry:RelV y u)(h:∀s',Inv X pins σ H s'->Q (.bool o.isSome) s'):
  wpAny (model X.prog X.w) A (compareOp .In u (.ref a)) Q E s:=by
 rcases g with⟨kvs,k,e,ey,l⟩|⟨kvs,k,b,e,ey,eb,l⟩
 ·subst ey
  obtain⟨z,hd,vs,rel,dd⟩:=kK I.hok e
  refine wpAny_in_of (kI ry) hd dd.mapOf ?_
  rw[<-(rel.val k).isSome_eq,<-l]
  exact h _ (I.tok _)
 ·subst ey
  cases (show u=Value.ref b from ry)
  obtain⟨z,hd,xs,rel,dd⟩:=lY I.hok e
  refine wpAny_in_heap (tupleKind_room_in1 hu) (lP I.hok eb) hd dd ?_
  have q:=(rel.val k).isSome_eq
  rw[Option.isSome_map]at q
  rw[<-q,<-l]
  exact h _ (I.tok _)
theorem zF7{Q:Value->Shared->Prop}(hu:A.units+1<cLine)(I:Inv X pins σ H s)(g:jE H a y o)(ry:RelV y u)(h:∀s',Inv X pins σ H s'->Q (.bool (!o.isSome)) s'):
  wpAny (model X.prog X.w) A (compareOp .NotIn u (.ref a)) Q E s:=by
 rcases g with⟨kvs,k,e,ey,l⟩|⟨kvs,k,b,e,ey,eb,l⟩
 ·subst ey
  obtain⟨z,hd,vs,rel,dd⟩:=kK I.hok e
  refine wpAny_notIn_of (kI ry) hd dd.mapOf ?_
  rw[<-(rel.val k).isSome_eq,<-l]
  exact h _ (I.tok _)
 ·subst ey
  cases (show u=Value.ref b from ry)
  obtain⟨z,hd,xs,rel,dd⟩:=lY I.hok e
  refine wpAny_notIn_heap (tupleKind_room_in1 hu) (lP I.hok eb) hd dd ?_
  have q:=(rel.val k).isSome_eq
  rw[Option.isSome_map]at q
  rw[<-q,<-l]
  exact h _ (I.tok _)
theorem zAc{h':Heap}{t':Nat}{ob:HO}(I:Inv X pins σ H s)(mu:Mut (H a))(hs:Heap.SameBut a s.heap h')(he:∃q,h'.get? a=some q)(new:ObjOk X.prog X.w (upd H a ob) h' a ob):
  Inv X pins σ (upd H a ob) {s with heap:=h',toks:=t'}:=
 I.write (x:=a) (e:=a) mu (.inl rfl) (λb q hb z=>(hs.2 b hb).trans z) he new
theorem zHR{P:Program}{w:World}{H':Hp}{h':Heap}{kvs:List (Key×V)}{vs:List (Key×Value)}(z:kvs.length<=sizeLine)(hd:(a==sysModules)=false)(rel:KV kvs vs)(dd:h'.DictOf (bK P w) a vs):
  ObjOk P w H' h' a (.dK kvs):=⟨z,hd,vs,rel,dd⟩
theorem zDH{H':Hp}{Q:Unit->Shared->Prop}(hu:A.units+1<cLine)(I:Inv X pins σ H s)(g:DPut H a y v H')(ry:RelV y u)(rv:RelV v r)(h:∀s',Inv X pins σ H' s'->Q () s'):
  wpAny (model X.prog X.w) A (setItem (.ref a) u r) Q E s:=by
 rcases g with⟨kvs,k,e,ey,l,eH⟩|⟨kvs,k,b,e,ey,eb,l,eH⟩
 ·subst ey eH
  obtain⟨z,hd,vs,rel,dd⟩:=zIT I.hok e
  have hz:vs.length<=sizeLine:=by rw[<-rel.length];exact z
  have hl:(cL kvs k v).length<=sizeLine:=by have:=pP kvs k v;omega
  refine wpAny_setItem_pairs (hsz:=hz) (kI ry) dd λh' dd' hs=>h _ ?_
  have he:∃q,h'.get? a=some q:=let ⟨q,_,_,hq,_⟩:=dd';⟨q,hq⟩
  exact zAc I (by rw[e];exact True.intro) hs he (zHR hl hd (rel.put k rv) dd')
 ·subst ey eH
  cases (show u=Value.ref b from ry)
  obtain⟨z,hd,xs,rel,dd⟩:=zIS I.hok e
  have hz:xs.length<=sizeLine:=by rw[<-Paired.length rel];exact z
  have hl:(cL kvs k v).length<=sizeLine:=by have:=pP kvs k v;omega
  refine wpAny_setItem_heap (hsz:=hz) (tupleKind_room_in1 hu) (lP I.hok eb) dd λh' dd' hs=>h _ ?_
  obtain⟨q,es,ep,hq,h2,h3,h4,_,h5⟩:=dd'
  refine zAc I (by rw[e];exact True.intro) hs ⟨q,hq⟩ ⟨hl,hd,_,(rel.put k eb rv).keeps λc ys ec=>?_,q,es,ep,hq,h2,h3,h4,h5⟩
  rw[aY (zIF ec e (λz=>nomatch z))]
  exact ec
end
section
variable{X:Cx}{pins:List (Addr×Obj)}{σ:St}{H:Hp}{s:Shared}{a:Addr}{kvs:List (Key×V)}{k:Key}{u:Value}{A:Around}{E:Value->Shared->Prop}
theorem zIU{Q:Value->Shared->Prop}(I:Inv X pins σ H s)(e:Rd H a (.dK kvs))(h:∀t s',Inv X pins σ H s'->Q (.int kvs.length t) s'):wpAny (model X.prog X.w) A (call (.builtin "len") [.ref a]) Q E s:=by
 obtain⟨z,hd,vs,rel,dd⟩:=kK I.hok e
 refine call_len_dict hd dd (by rw[<-rel.length];rw[sizeLine_eq]at z;omega) ?_
 rw[<-rel.length]
 exact h _ _ (I.tok _)
end
theorem zCc{X:Cx}{pins:List (Addr×Obj)}{σ:St}{H:Hp}{s:Shared}{a:Addr}{y:V}{o:Option V}(I:Inv X pins σ H s)(g:jE H a y o):s.TypeIs (.ref a) "dict":=by
 rcases g with⟨kvs,k,e,_,_⟩|⟨kvs,k,b,e,_,_,_⟩
 ·obtain⟨_,_,vs,_,dd⟩:=kK I.hok e
  exact dd.typeIs
 ·obtain⟨_,_,xs,_,dd⟩:=lY I.hok e
  exact dd.typeIs
def zIh(td ty tv:TE):TS:=λD σ H=>tv σ H λv H1=>td σ H1 λx H2=>ty σ H2 λy H3=>∃a H4,x=.ref a/\DPut H3 a y v H4/\D.nx σ H4
section
variable{X:Cx}{o i e value:Expr}{pos pos' tpos:Pos}{td ty tv:TE}
theorem zFz(hu:X.A.units+1<cLine)(ho:PE X o td)(hi:PE X i ty)(hv:PE X value tv)(hs:swapsWith value (some (.Subscript o i pos')) pos.line X.env=pure false):
  PS X (.Assign [.Subscript o i pos'] value pos) (zIh td ty tv):=by
 intro pins s σ H D I h
 refine wpAny_Assign_Subscript (thn (hv pins s σ H _ I h) λr s1 ⟨v,H1,I1,rv,q1⟩=>thn (ho pins s1 σ H1 _ I1 q1) λu s2 ⟨x,H2,I2,rx,q2⟩=>thn (hi pins s2 σ H2 _ I2 q2) λiv s3 ⟨y,H3,I3,ry,a,H4,ex,g,q3⟩=>?_) hs
 subst ex
 obtain rfl:u=Value.ref a:=rx
 exact zDH hu I3 g ry rv λs4 I4=>⟨σ,H4,I4,q3⟩
end
def iR(kvs more:List (Key×V)):List (Key×V):=more.foldl (λacc kv=>cL acc kv.1 kv.2) kvs
theorem uU:∀(more kvs:List (Key×V)),(iR kvs more).length<=kvs.length+more.length
 |[],kvs=>by show kvs.length<=kvs.length+0;omega
 |p::r,kvs=>by
  have h1:=uU r (cL kvs p.1 p.2)
  have h2:=pP kvs p.1 p.2
  show(iR (cL kvs p.1 p.2) r).length<=_
  rw[List.length_cons];omega
section
variable{κ:Type}[DecidableEq κ]
theorem zE4{kvs:List (κ×V)}{k:κ}{v:V}(h:cV kvs k=some v):k∈kvs.map (·.1):=by
 have q:(kvs.any λkv=>decide (kv.1=k))=true:=by
  rw[mX,h]
  all_goals rfl
 obtain⟨p,hp,e⟩:=List.any_eq_true.mp q
 exact List.mem_map.mpr ⟨p,hp,of_decide_eq_true e⟩
end
end L2
namespace L2
open PySem PySem.Spec PyProof.Rows
def FzD(H:Hp)(a:Addr)(ob:Obj)(kvs:List (Key×V)):Prop:=H a=some (.frz ob (.dK kvs))
theorem lO{kvs:List (Key×V)}{vs:List (Key×Value)}(r:KV kvs vs):kvs.length=vs.length:=Paired.length r
theorem zAB:∀{kvs:List (Key×V)}{vs:List (Key×Value)}{i:Nat}{k:Key}{v:V},KV kvs vs->kvs[i]?=some (k,v)->∃u,vs[i]?=some (k,u)/\RelV v u
 |_,_,0,_,_,.cons (b:=b) r _,h=>by
  cases h
  obtain⟨e,r⟩:=r
  exact⟨b.2,by show some b=_;rw[show b=(b.1,b.2) from rfl,<-e],r⟩
 |_,_,i+1,_,_,.cons _ rs,h=>zAB (i:=i) rs (by simpa using h)
theorem zFX{k:Key}{u:Value}(h:iD k u=true):RelV (kV k) u:=by
 rcases eY h with⟨i,t,rfl,rfl⟩|⟨x,t,rfl,rfl⟩
 ·exact⟨t,rfl⟩
 ·exact⟨t,rfl⟩
section
variable{X:Cx}{pins:List (Addr×Obj)}{σ:St}{H:Hp}{s:Shared}{a:Addr}{ob:Obj}{kvs:List (Key×V)}
theorem nQ(I:Inv X pins σ H s)(h:FzD H a ob kvs):s.heap.get? a=some ob/\(a==sysModules)=false/\kvs.length<=sizeLine/\∃vs es ep,KV kvs vs/\s.heap.DictAt (bK X.prog X.w) a vs ep/\ob.data=.dict es ep:=by
 obtain⟨e,hl,hs,vs,r,o,es,ep,e',x1,x2,x3⟩:=(show ObjOk X.prog X.w H s.heap a (.frz ob (.dK kvs)) from I.hok a _ h)
 rw[e]at e'
 cases e'
 exact⟨e,hs,hl,vs,es,ep,r,⟨ob,es,e,x1,x2,x3⟩,x2⟩
end
def ItD(a:Addr)(ob:Obj)(kvs:List (Key×V)):It:=
 ⟨λi H=>FzD H a ob kvs/\i<kvs.length,λi H x H'=>H'=H/\∃k v,kvs[i]?=some (k,v)/\x=kV k,λi H=>FzD H a ob kvs/\kvs.length<=i⟩
theorem zC4{P:Program}{w:World}{K:W.Frag}{tg:Expr}{a it:Addr}{ob:Obj}{kvs:List (Key×V)}{es:Array DictEntry}{ep:Nat}(hep:ob.data=.dict es ep):
  fX P w K tg (ItD a ob kvs) [it] it (λi h=>h.IsKeyIter it a i kvs.length ep) where
 mem:=by simp
 obj:=λi h st b hb=>by
  have e:b=it:=by simpa using hb
  subst e
  obtain⟨o,e,c,d⟩:=st
  exact⟨o,e,λv z=>by rw[d]at z;cases z⟩
 keep:=λi h h' st k=>st.at λo e=>k it (by simp) o e
 item:=by
  intro X hP hw hK hc i pins s σ H E I hf st hg
  subst hP hw hK
  obtain⟨hz,hi⟩:=hg
  obtain⟨e,hs,hl,vs,es',ep',r,dd,hd'⟩:=nQ I hz
  rw[hep]at hd'
  cases hd'
  obtain⟨f0,f1,f2,f3,f4,f5⟩:=hf it (by simp)
  obtain⟨⟨k,v⟩,hx⟩:∃p,kvs[i]?=some p:=⟨kvs[i],by simp[hi]⟩
  obtain⟨u,hu,ru⟩:=zAB r hx
  have st':s.heap.IsKeyIter it a i vs.length ep:=by rw[<-lO r];exact st
  refine wpAny_pyNext_dict_item st' dd hu λkey h' hkey hit' sb=>?_
  have I1:Inv X pins σ H {s with heap:=h'}:=I.turned (t':=s.toks) (λb o hb e=>(sb.2 b hb).trans e) f0 f1 f3 f4 f5
  obtain⟨o,e,c,d⟩:=id hit'
  exact⟨key,rfl,kJ (s:={s with heap:=h'}) e c d (by decide) ⟨kV k,H,I1,zFX hkey,⟨rfl,k,v,hx,rfl⟩,by rw[lO r];exact hit',λb hb=>(hf b hb).1⟩⟩
 done:=by
  intro X hP hw hK hc i pins s σ H E I hf st hg
  subst hP hw hK
  obtain⟨hz,hi⟩:=hg
  obtain⟨e,hs,hl,vs,es',ep',r,dd,hd'⟩:=nQ I hz
  rw[hep]at hd'
  cases hd'
  obtain⟨f0,f1,f2,f3,f4,f5⟩:=hf it (by simp)
  have st':s.heap.IsKeyIter it a i vs.length ep:=by rw[<-lO r];exact st
  have hn:vs[i]?=none:=List.getElem?_eq_none (by rw[<-lO r];exact hi)
  exact wpAny_pyNext_dict_end (I.ok.hd hc) st' dd hn λh' eb=>⟨rfl,I.turned (t':=s.toks) (λb o hb e=>eb b o hb e) f0 f1 f3 f4 f5⟩
 self:=λ_ _ _ _ _ st h=>wpAny_pyIter_keyiter st h
end L2
namespace L2
open PySem PySem.Spec PyProof.Rows
theorem zBT{prog:Program}{w:World}:∀{kvs:List (Key×Value)}{us:List Str}{acc:Array Value},kvs.map (·.1)=us.map Sum.inr ->
  ItemsOf (λi v=>∃k x,kvs[i]?=some (k,x)/\(bK prog w).is k v=true) acc kvs.length->StrsAre acc.toList us:=by
 intro kvs us acc hk h
 obtain⟨hn,hp⟩:=h
 have key:∀(us:List Str) (l:List Value) (kvs:List (Key×Value)),kvs.map (·.1)=us.map Sum.inr->l.length=kvs.length->(∀(j:Nat) (v:Value),l[j]?=some v->∃k x,kvs[j]?=some (k,x)/\(bK prog w).is k v=true)->StrsAre l us:=by
  intro us
  induction us with
  |nil=>
   intro l kvs hk hl _
   have:kvs=[]:=by simpa using hk
   subst this
   have:l=[]:=List.eq_nil_of_length_eq_zero hl
   subst this
   exact .nil
  |cons y ys ih=>
   intro l kvs hk hl hp
   cases kvs with
   |nil=>simp at hk
   |cons p kvs=>
    cases l with
    |nil=>simp at hl
    |cons v l=>
     simp only[List.map_cons,List.cons.injEq]at hk
     obtain⟨k,x,e,q⟩:=hp 0 v rfl
     have e:p=(k,x):=by simpa using e
     subst e
     have hk1:k=Sum.inr y:=hk.1
     subst hk1
     rcases eY (show iD (Sum.inr y) v=true from q) with⟨i,t,z,_⟩|⟨z,t,e1,rfl⟩
     ·cases z
     ·cases e1
      exact .cons _ _ (ih l kvs hk.2 (by simpa using hl) λj v hj=>hp (j+1) v hj)
 refine key us acc.toList kvs hk (by simpa using hn) λj v hj=>hp j v (by simpa using hj)
section
variable{prog:Program}{w:World}{A:Around}{E:Value->Shared->Prop}{s:Shared}{a:Addr}{us:List Str}
theorem zGD:isSubtype (.type "dict") (.type "dict")=pure true:=by rw[isSubtype_type];kernel_rfl
theorem zDV{Q:Bool->Shared->Prop}(ht:s.TypeIs (.ref a) "dict")(h:Q false s):wpAny (model prog w) A (Builtin.List.listLengthHint (.ref a)) Q E s:=by
 unfold Builtin.List.listLengthHint
 refine wpAny_bind (wpAny_specialOf ht PySem.F.slot_dict_len.lookup ?_)
 have e1:splitId "dict.__len__"=some ("dict","__len__"):=by decide +kernel
 dsimp only
 rw[e1]
 dsimp only
 refine wpAny_bind (wpAny_isInstance ht zGD ?_)
 simp only[Bool.not_true,Bool.false_eq_true,if_false]
 refine wpAny_ite ?_
 rw[if_pos (by decide +kernel)]
 refine wpAny_bind (wpAny_typeOf ht ?_)
 exact wpAny_pure h
theorem zBD{kvs:List (Key×Value)}{ep:Nat}{Q:List Value->Shared->Prop}(hh:A.handled=none)(hsm:(a==sysModules)=false)(S:s.heap.DictAt (bK prog w) a kvs ep)(hks:kvs.map (·.1)=us.map Sum.inr)(hl:us.length<=sizeLine)
  (hQ:∀h' d tk (acc:List Value) vs,StrsAre acc vs->vs.Perm us->s.heap.objs.size<h'.objs.size->(∀b o,s.heap.get? b=some o->h'.get? b=some o)->Q acc {s with heap:=h',drawn:=d,toks:=tk}):
  wpAny (model prog w) A (collect (.ref a)) Q E s:=by
 have alt:a<s.heap.objs.size:=S.lt_size
 have hkl:kvs.length=us.length:=by have:=congrArg List.length hks;simpa using this
 unfold collect
 refine wpAny_bind (wpAny_runValue (codeAny_builtin F.entry_proto_collect ?_))
 rw[Around.under_plainId F.plain_proto_collect _]
 show wpAny _ A.in1 (newList [] >>= λl=>again (.builtin "list.__iadd__" ⟨[l,.ref a],[]⟩)) _ _ s
 refine wpAny_bind (wpAny_newObj_type ?_ (by size_fits))
 refine wpAny_pure ⟨plainId_quiet F.plain_list_iadd _,codeAny_builtin F.entry_list_iadd ?_⟩
 rw[Around.under_plainId F.plain_list_iadd _]
 show wpAny _ A.in1 (Builtin.List.listExtendWith (.ref s.heap.objs.size) (.ref a) (.ref s.heap.objs.size)) _ _ _
 unfold Builtin.List.listExtendWith
 have S1:=S.push {cls:=.type "list",data:=.seq ([]:List Value).toArray}
 have ht:Shared.TypeIs {s with heap:=s.heap.push {cls:=.type "list",data:=.seq ([]:List Value).toArray}} (.ref a) "dict":=S1.dictOf.typeIs
 refine wpAny_bind (wpAny_typeOf ht ?_)
 have h1:Builtin.List.listSameRef (.ref s.heap.objs.size) (.ref a)=false:=by simp[Builtin.List.listSameRef];exact Nat.ne_of_gt alt
 have h2:(Value.type "dict"==Value.type "list")=false:=by decide
 have h3:(Value.type "dict"==Value.type "tuple")=false:=by decide
 simp only[h1,h2,h3,Bool.or_false,Bool.false_eq_true,if_false]
 refine wpAny_bind (wpAny_pyIter_dict hsm S1 ?_)
 generalize hh':((s.heap.push {cls:=.type "list",data:=.seq ([]:List Value).toArray}).push {cls:=.type "dict_keyiterator",data:=.fields #[.ref a,.int 0 0,.int kvs.length 0,.int ep 0]})=h'
 have sz1:(s.heap.push {cls:=.type "list",data:=.seq ([]:List Value).toArray}).objs.size=s.heap.objs.size+1:=Heap.size_push ..
 have kp:∀b o,(s.heap.push {cls:=.type "list",data:=.seq ([]:List Value).toArray}).get? b=some o->h'.get? b=some o:=λb o e=>by rw[<-hh'];exact Heap.get?_push_of_some _ e
 have ht':Shared.TypeIs {s with heap:=h'} (.ref a) "dict":=by
  obtain⟨o,e,c⟩:=ht
  exact⟨o,kp _ _ e,c⟩
 have st0:h'.IsKeyIter (s.heap.objs.size+1) a 0 kvs.length ep/\h'.DictAt (bK prog w) a kvs ep:=by
  refine⟨⟨{cls:=.type "dict_keyiterator",data:=.fields #[.ref a,.int 0 0,.int kvs.length 0,.int ep 0]},?_,rfl,rfl⟩,S1.keep kp⟩
  rw[<-hh',<-sz1]
  exact Heap.get?_push_size _ rfl
 rw[sz1]
 refine wpAny_bind (wpAny_holding (zDV ht' ?_))
 have hA:A.in1.handled=none:=by simp[hh]
 have W:=(Walks.dictKeys (prog:=prog) (w:=w) (A:=A.in1) (knd:=bK prog w) hA (s.heap.objs.size+1) a (λz=>absurd alt (by rw[z];exact Nat.not_lt.mpr (Nat.le_succ _))) kvs ep).toS
 refine wpAny_ite ?_
 rw[if_pos (by decide +kernel)]
 refine wpAny_bind (wpAny_rule ?_)
 have g0:h'.get? s.heap.objs.size=some {cls:=.type "list",data:=.seq ([]:List Value).toArray}:=kp _ _ (Heap.get?_push_size _ rfl)
 have nf:s.heap.objs.size∉[s.heap.objs.size+1,a]:=λm=>by
  simp only[List.mem_cons,List.not_mem_nil,or_false]at m
  rcases m with z|z
  ·omega
  ·rw[<-z]at alt;exact Nat.lt_irrefl _ alt
 refine wpAny_bind ?_
 show wpAny _ A.in1 (updateSeq s.heap.objs.size (·.push .none) >>= λ_=>updateSeq s.heap.objs.size (·.pop)) _ _ _
 refine wpAny_bind (wpAny_updateSeq g0 rfl ?_)
 have g1:=Heap.get?_update_self (Obj.mapSeq (·.push Value.none)) g0 rfl
 refine wpAny_updateSeq g1 rfl ?_
 have g2:=Heap.get?_update_self (Obj.mapSeq (·.pop)) g1 rfl
 have oth:∀b o,b≠s.heap.objs.size->h'.get? b=some o->((h'.update s.heap.objs.size (Obj.mapSeq (·.push Value.none))).update s.heap.objs.size (Obj.mapSeq (·.pop))).get? b=some o:=
  λb o hb e=>(Heap.get?_update_other _ _ (Ne.symm hb)).trans ((Heap.get?_update_other _ _ (Ne.symm hb)).trans e)
 refine wpAny_pure ⟨plainId_quiet F.plain_extend_loop _,codeAny_extend_loopS W (by rw[hkl];exact hl) _ nf _ kvs.length 0 _ _ _ rfl (Nat.zero_le _)
  (W.frame 0 {s with heap:=h'} _ s.toks st0 (Nat.le_refl _) λb hb o e=>oth b o (λz=>nf (z▸hb)) e) g2 (ItemsOf.nil _) λs' acc' c' hm g' hacc=>?_⟩
 show wpAny _ A (load s.heap.objs.size >>= _) _ _ s'
 refine wpAny_bind (wpAny_load g' ?_)
 have hs:=zBT hks hacc
 obtain⟨h'',g'',d'',tk'',os''⟩:=s'
 have e1:g''=s.gens:=hm.gens
 have e2:os''=s.os:=hm.os
 subst e1 e2
 refine wpAny_pure (hQ h'' d'' tk'' acc'.toList us hs (List.Perm.refl _) (Heap.lt_size g') λb o e=>hm.heap b o (λm=>?_) (oth b o (Nat.ne_of_lt (Heap.lt_size e)) (kp b o (Heap.get?_push_of_some _ e))))
 have lt:=Heap.lt_size e
 simp only[List.mem_cons,List.not_mem_nil,or_false]at m
 rcases m with m|m
 ·rw[m]at lt;exact Nat.lt_irrefl _ lt
 ·rw[m]at lt;exact absurd lt (Nat.not_lt.mpr (Nat.le_succ _))
theorem zBG{kvs:List (Key×Value)}{ep:Nat}{Q:Value->Shared->Prop}(hh:A.handled=none)(hsm:(a==sysModules)=false)(S:s.heap.DictAt (bK prog w) a kvs ep)(hks:kvs.map (·.1)=us.map Sum.inr)(h64:us.length<64)
  (h:∀h' d tk (l:Addr) (out:List Value) (ss:List Str) (e:Nat),StrsAre out ss->ss.Perm us->sortedS ss=true->h'.get? l=some (seqObj "list" out.toArray e)->s.heap.objs.size<=l->(∀b o,s.heap.get? b=some o->h'.get? b=some o) ->
   Q (.ref l) {s with heap:=h',drawn:=d,toks:=tk}):wpAny (model prog w) A (call (.builtin "sorted") [.ref a]) Q E s:=by
 refine Calls.call_function_entry kind_sorted plain_sorted entry_sorted (args_sorted1 _) ?_
 unfold Builtin.«sorted»
 refine wpAny_bind (m:=checkCount "sorted" 1 1 _) (wpAny_pure ?_)
 refine wpAny_bind (zBD (by simp[hh]) hsm S hks (Nat.le_of_lt (Nat.lt_trans h64 (by decide))) λh1 d tk acc vs hs hp le kp=>?_)
 have hlen:acc.length<64:=by rw[iM hs,hp.length_eq];exact h64
 refine wpAny_bind (wpAny_newList ?_ (Nat.le_of_lt (Nat.lt_trans hlen (by decide))))
 have hoL:(h1.push (seqObj "list" acc.toArray 0)).get? h1.objs.size=some (seqObj "list" acc.toArray 0):=Heap.get?_push_size _ rfl
 refine wpAny_bind (wpAny_holding (wpAny_call_entry slot_list_sort ⟨_,hoL,rfl⟩ entry_list_sort (list_sort_treeK strKind_oneLt hoL hs.keysOf (λv₁ v₂ rest e=>keyKind_strs (by rw[<-e];exact hs)) hlen λst' a1 a2=>⟨_,rfl,?_⟩) (args_list_sort _)))
 obtain⟨ss',b1,b2,b3⟩:=sorted_out_str hs a1 a2
 obtain⟨e,he⟩:=sortedHeap_at (out:=(arrOf st').map (·.2)) hoL
 refine wpAny_pure ⟨_,rfl,h _ _ _ _ ((arrOf st').map (·.2)).toList ss' e b1 (b2.trans hp) b3 (by rw[Array.toArray_toList];exact he) (Nat.le_of_lt le) λb o q=>?_⟩
 have lt:=Heap.lt_size (kp b o q)
 rw[sortedHeap_old (Nat.ne_of_lt lt) (by rw[Heap.size_push];exact Nat.lt_succ_of_lt lt)]
 exact Heap.get?_push_of_some _ (kp b o q)
end
section
variable{X:Cx}
def zGT:List V->Hp->VK->Prop:=λxs H Q=>∃(a:Addr) (ob:Obj) (kvs:List (Key×V)) (us:List Str),xs=[.ref a]/\FzD H a ob kvs/\kvs.map (·.1)=us.map Sum.inr/\us.length<64 /\
  ∀(ss:List Str) (l:Addr),ss.Perm us->sortedS ss=true->H l=none->Q (.ref l) (upd H l (.lst (ss.map V.str)))
theorem zV:∀{kvs:List (Key×V)}{vs:List (Key×Value)},KV kvs vs->kvs.map (·.1)=vs.map (·.1)
 |[],_,.nil=>rfl
 |_::_,_,.cons r rs=>by rw[List.map_cons,List.map_cons,r.1,zV rs]
theorem zBZ(hc:X.calm=true):CallR X (.builtin "sorted") zGT:=by
 intro pins s σ H xs us Q I r h
 obtain⟨a,ob,kvs,uu,rfl,hz,hk,h64,q⟩:=h
 obtain⟨u,rfl,rx⟩:=bZ r
 cases rx
 obtain⟨e,hs,hl,vs,es,ep,rr,dd,hd⟩:=nQ I hz
 refine zBG (I.ok.hd hc) hs dd (by rw[<-zV rr];exact hk) h64 λh' d tk l out ss e hs hp hso hl le k=>?_
 refine⟨.ref l,_,(I.laid (t':=tk) (o:=.lst (ss.map V.str)) k le ?_).draw d,rfl,q ss l hp hso (I.hok.fresh le)⟩
 refine⟨?_,out,e,pN hs,hl⟩
 rw[List.length_map,hp.length_eq]
 exact Nat.le_of_lt (Nat.lt_trans h64 (by decide))
end
end L2
namespace L2
open PySem PySem.Spec PyProof.Rows
section
variable{X:Cx}
def zIp:List V->Hp->VK->Prop:=λxs H Q=>∃(a:Addr) (kvs:List (Key×V)),xs=[.ref a]/\Rd H a (.dK kvs)/\Q (.int kvs.length) H
theorem zCO:CallR X (.builtin "len") zIp:=by
 intro pins s σ H xs us Q I r h
 obtain⟨a,kvs,rfl,e,q⟩:=h
 obtain⟨u,rfl,rx⟩:=bZ r
 cases rx
 exact zIU I e λt s' I'=>⟨.int kvs.length,H,I',⟨t,rfl⟩,q⟩
def zJp:R2:=λx y H Q=>∃a v,x=.ref a/\jE H a y (some v)/\Q v H
theorem zFY(hu:X.A.units+1<cLine):IxR X zJp:=by
 intro value slice pins s σ H x y v u Q I rx ry h hs
 obtain⟨a,z,rfl,g,q⟩:=h
 cases rx
 have hT:=zCc I g
 unfold subscriptTail
 refine wpAny_bind ?_
 rw[getitemInPython_of_ne hT.not_modules]
 refine wpAny_bind (wpAny_specialOf hT PySem.F.slot_dict_getitem.lookup ?_)
 have fin:wpAny (model X.prog X.w) X.A (subscripted slice false (.ref a) u) (λr s₃=>wpAny (model X.prog X.w) X.A (letTemporaryGo value (.ref a) r >>= λ_=>pure r) (EP X pins σ Q) X.xe s₃) X.xe s:=by
  rw[hs]
  exact wpAny_operating (zDI hu I g ry λw' s3 I3 rw'=>wpAny_bind (wpAny_letTemporaryGo (wpAny_pure ⟨z,H,I3,rw',q⟩)))
 first
  |exact wpAny_pure (wpAny_bind fin)
  |exact wpAny_bind (wpAny_pure (wpAny_bind fin))
  |exact wpAny_bind fin
def zJq:R2:=λy x H Q=>∃a o,x=.ref a/\jE H a y o/\Q (.bl o.isSome) H
theorem zCv(hu:X.A.units+1<cLine):OpR X (compareOp .In) zJq:=by
 intro pins s σ H y x u v Q I ry rx h
 obtain⟨a,o,rfl,g,q⟩:=h
 cases rx
 exact zJ7 hu I g ry λs' I'=>⟨.bl _,H,I',rfl,q⟩
end
section
variable{prog:Program}{w:World}{A:Around}{R:Result->Shared->Prop}{it st:Addr}{fp wr:List Addr}{G:Array GenState->Array GenState->Prop}{n:Nat}{P:Nat->Value->Prop}{St:Nat->Shared->Prop}{kw:List (Str×Value)}
theorem oC:(toString "max"++toString ".loop":String)="max.loop":=by decide
theorem zDr(W:WalksS prog w A.in1 it fp wr G n P St)(bt:Nat->Nat->Bool)(cmp:CmpOf prog w A.in1 .Gt P bt)(nst:st∉fp):
  ∀(m j:Nat) (s:Shared) (bv:Value) (c:Nat),n=j+1+m->St (j+1) s->P (argBest bt j) bv->s.heap.get? st=some {cls:=.type "list",dict:=none,data:=.seq #[bv,bv] c,slots:=#[]} ->
   (∀v s',P (argBest bt (n-1)) v->Moved (st::wr) G s s'->R (.ok (.ret v)) s')->codeAny (model prog w) A (.builtin "max.loop" ⟨[.ref it,.none,.ref st],kw⟩) R s:=by
 have nwr:st∉wr:=λh=>nst (W.sub _ h)
 have sub:∀b∈wr,b∈st::wr:=λb hb=>.tail _ hb
 have ne:∀{b:Addr},b∉st::wr->st≠b:=λhb e=>hb (e▸.head _)
 intro m
 induction m with
 |zero=>
  intro j s bv c en hst hb hS hR
  refine codeAny_builtin F.entry_max_loop ?_
  rw[Around.under_plainId F.plain_max_loop _]
  show wpAny _ A.in1 (seqItems? (.ref st) >>= _) _ _ s
  refine wpAny_bind (wpAny_seqItems hS rfl ?_)
  show wpAny _ A.in1 (tryCatch (pyNext (.ref it)) _ >>= _) _ _ s
  refine wpAny_bind (wpAny_tryCatch (W.done s _ _ (by rw[en];exact hst) λs1 mv=>?_))
  have hS1:=mv.heap st _ nwr hS
  show wpAny _ A.in1 (updateSeq st (λ_=>#[]) >>= _) _ _ _
  refine wpAny_bind ?_
  refine wpAny_updateSeq hS1 rfl (wpAny_bind (wpAny_letGo (wpAny_pure ?_)))
  have e1:n-1=j:=by omega
  exact hR bv _ (by rw[e1];exact hb) ((mv.mono sub).then_heap (tk:=s1.toks) (Nat.le_refl _) λb o nb e=>(Heap.get?_update_other _ _ (ne nb)).trans e)
 |succ m ih=>
  intro j s bv c en hst hb hS hR
  refine codeAny_builtin F.entry_max_loop ?_
  rw[Around.under_plainId F.plain_max_loop _]
  show wpAny _ A.in1 (seqItems? (.ref st) >>= _) _ _ s
  refine wpAny_bind (wpAny_seqItems hS rfl ?_)
  show wpAny _ A.in1 (tryCatch (pyNext (.ref it)) _ >>= _) _ _ s
  refine wpAny_bind (wpAny_tryCatch (W.item (j+1) s _ _ (by omega) hst λv s1 hP hst1 mv=>?_))
  have hS1:=mv.heap st _ nwr hS
  show wpAny _ A.in1 (tryCatch (holding [v,v] (richCompare .Gt v bv >>= _)) _ >>= _) _ _ _
  refine wpAny_bind (wpAny_tryCatch (wpAny_holding (wpAny_bind (cmp (j+1) (argBest bt j) v bv _ _ _ hP hb ?_))))
  refine wpAny_bind (wpAny_holding (wpAny_truthy_bool ?_))
  refine wpAny_bind (wpAny_letGo (wpAny_pure ?_))
  cases hbt:bt (j+1) (argBest bt j) with
  |true=>
   simp only[if_true]
   refine wpAny_bind ?_
   refine wpAny_updateSeq hS1 rfl (wpAny_bind (wpAny_letGo ?_))
   rw[oC]
   refine wpAny_pure ⟨plainId_quiet F.plain_max_loop _,ih (j+1) _ v _ (by omega) (W.frame _ s1 _ s1.toks hst1 (Nat.le_refl _) λb bf o e=>?_) (by simp only[argBest,hbt,if_true];exact hP) (Heap.get?_update_self _ hS1 rfl) λv' s2 hP' mv2=>?_⟩
   ·exact(Heap.get?_update_other _ _ (λz:st=b=>nst (by rw[z];exact bf))).trans e
   ·exact hR v' s2 hP' (Moved.trans W.gtrans ((mv.mono sub).then_heap (Nat.le_refl _) λb o nb e=>(Heap.get?_update_other _ _ (ne nb)).trans e) mv2)
  |false=>
   simp only[Bool.false_eq_true,if_false]
   refine wpAny_bind (wpAny_letGo ?_)
   rw[oC]
   refine wpAny_pure ⟨plainId_quiet F.plain_max_loop _,ih (j+1) _ bv c (by omega) hst1 (by simp only[argBest,hbt,Bool.false_eq_true,if_false];exact hb) hS1 λv' s2 hP' mv2=>?_⟩
   exact hR v' s2 hP' (Moved.trans W.gtrans (mv.mono sub) mv2)
theorem zCz(W:WalksS prog w A.in1 it fp wr G n P St)(bt:Nat->Nat->Bool)(cmp:CmpOf prog w A.in1 .Gt P bt)(nst:st∉fp){s:Shared}{c:Nat}{dn:Str}{dv:Value}(hst:St 0 s)
  (hS:s.heap.get? st=some {cls:=.type "list",dict:=none,data:=.seq #[] c,slots:=#[]})
  (h0:n=0->∀s',Moved (st::wr) G s s'->R (.ok (.ret dv)) s') (hR:0<n->∀v s',P (argBest bt (n-1)) v->Moved (st::wr) G s s'->R (.ok (.ret v)) s'):
  codeAny (model prog w) A (.builtin "max.loop" ⟨[.ref it,.none,.ref st],[(dn,dv)]⟩) R s:=by
 have nwr:st∉wr:=λh=>nst (W.sub _ h)
 have sub:∀b∈wr,b∈st::wr:=λb hb=>.tail _ hb
 have ne:∀{b:Addr},b∉st::wr->st≠b:=λhb e=>hb (e▸.head _)
 refine codeAny_builtin F.entry_max_loop ?_
 rw[Around.under_plainId F.plain_max_loop _]
 show wpAny _ A.in1 (seqItems? (.ref st) >>= _) _ _ s
 refine wpAny_bind (wpAny_seqItems hS rfl ?_)
 show wpAny _ A.in1 (tryCatch (pyNext (.ref it)) _ >>= _) _ _ s
 by_cases hn:n=0
 ·refine wpAny_bind (wpAny_tryCatch (W.done s _ _ (by rw[hn];exact hst) λs1 mv=>?_))
  exact wpAny_bind (wpAny_rule (wpAny_pure (h0 hn s1 (mv.mono sub))))
 ·refine wpAny_bind (wpAny_tryCatch (W.item 0 s _ _ (by omega) hst λv s1 hP hst1 mv=>?_))
  have hS1:=mv.heap st _ nwr hS
  show wpAny _ A.in1 (updateSeq st (λ_=>#[v,v]) >>= _) _ _ _
  refine wpAny_bind ?_
  refine wpAny_updateSeq hS1 rfl ?_
  rw[oC]
  refine wpAny_pure ⟨plainId_quiet F.plain_max_loop _,zDr W bt cmp nst (n-1) 0 _ v _ (by omega) (W.frame _ s1 _ s1.toks hst1 (Nat.le_refl _) λb bf o e=>?_) hP (Heap.get?_update_self _ hS1 rfl) λv' s2 hP' mv2=>?_⟩
  ·exact(Heap.get?_update_other _ _ (λz:st=b=>nst (by rw[z];exact bf))).trans e
  ·exact hR (by omega) v' s2 hP' (Moved.trans W.gtrans ((mv.mono sub).then_heap (Nat.le_refl _) λb o nb e=>(Heap.get?_update_other _ _ (ne nb)).trans e) mv2)
theorem zDS(a d:Value):argsOk "max" ⟨[a],[(Str.ofString "default",d)]⟩:=by unfold argsOk;kernel_rfl
end
section
variable{prog:Program}{w:World}{A:Around}{E:Value->Shared->Prop}{s:Shared}
theorem zET{l:Addr}{xs:Array (Int×Tok)}{dv:Value}{Q:Value->Shared->Prop}(hh:A.handled=none)(hl:s.heap.IsList l (intItems xs))
  (h0:xs.size=0->∀h' tk,(∀b o,s.heap.get? b=some o->h'.get? b=some o)->Q dv {s with heap:=h',toks:=tk})
  (h:0<xs.size->∀v h' tk,(intItems xs)[argBest (λi j=>decide (numAt xs i > numAt xs j)) (xs.size-1)]?=some v->(∀b o,s.heap.get? b=some o->h'.get? b=some o)->Q v {s with heap:=h',toks:=tk}):
  wpAny (model prog w) A (call (.builtin "max") [.ref l] [(Str.ofString "default",dv)]) Q E s:=by
 refine kmk_tree PySem.F.kind_max PySem.F.plain_max PySem.F.entry_max (zDS _ _) ?_
 show wpAny _ A.in1 (Builtin.Builtins.bindParams "max" ["key","default"] 0 ⟨[],[(Str.ofString "default",dv)]⟩ >>= _) _ _ s
 refine wpAny_bind (wpAny_of_eq (show Builtin.Builtins.bindParams "max" ["key","default"] 0 ⟨[],[(Str.ofString "default",dv)]⟩=pure [none,some dv] from rfl) ?_)
 refine wpAny_bind (wpAny_pure ?_)
 refine wpAny_bind (iter_intList hl λs2 e2 hst hfp hne=>?_)
 refine wpAny_bind (wpAny_newObj_type ?_ (by size_fits))
 rw[oC]
 have nst:s2.heap.objs.size∉[s.heap.objs.size,l]:=λm=>Nat.lt_irrefl _ (hfp _ m)
 have W:=(Walks.list (prog:=prog) (w:=w) (A:=A.in1) (by simp[hh]) s.heap.objs.size l hne (intItems xs)).toS
 have old:∀{s':Shared},Moved (s2.heap.objs.size::[s.heap.objs.size]) (λa b=>b=a) {s2 with heap:=s2.heap.push {cls:=.type "list",data:=.seq ([]:List Value).toArray}} s'->∃h' tk,(∀b o,s.heap.get? b=some o->h'.get? b=some o)/\s'={s with heap:=h',toks:=tk}:=by
  intro s' mv
  obtain⟨h',g',d',tk',os'⟩:=s'
  subst e2
  have g1:g'=s.gens:=mv.gens
  have g2:d'=s.drawn:=mv.drawn
  have g3:os'=s.os:=mv.os
  subst g1 g2 g3
  refine⟨h',tk',λb o e=>mv.heap b o (λm=>?_) (Heap.get?_push_of_some _ (Heap.get?_push_of_some _ e)),rfl⟩
  have lt:=Heap.lt_size e
  simp only[List.mem_cons,List.not_mem_nil,or_false]at m
  rcases m with z|z
  ·rw[z]at lt
   have:s.heap.objs.size<(s.heap.push {cls:=.type "list_iterator",data:=.fields #[.ref l,.int 0 0]}).objs.size:=by rw[Heap.size_push];exact Nat.lt_succ_self _
   exact absurd (Nat.lt_trans lt this) (Nat.lt_irrefl _)
  ·rw[z]at lt;exact Nat.lt_irrefl _ lt
 refine wpAny_pure ⟨plainId_quiet F.plain_max_loop _,zCz W _ (CmpOf.ints_gt (numAt xs) (λ_ _=>intItems_at)) nst (W.frame 0 s2 _ s2.toks hst (Nat.le_refl _) λb _ o e=>Heap.get?_push_of_some _ e) (Heap.get?_push_size _ rfl) (λhn s' mv=>?_) λhn v s' hP mv=>?_⟩
 ·obtain⟨h',tk,k,rfl⟩:=old mv
  exact h0 (by simpa[intItems]using hn) h' tk k
 ·obtain⟨h',tk,k,rfl⟩:=old mv
  exact h (by simpa[intItems]using hn) v h' tk (by simpa[intItems]using hP) k
end
section
variable{X:Cx}
def zAL(K:W.Frag)(te td:TE):TE:=λσ H Q=>te σ H λx H1=>td σ H1 λy H2=>∃(p:Addr) (ns:List Int),x=.ref p/\SqL K H2 p (ns.map V.int)/\(ns=[]->Q y H2)/\∀M,M∈ns->(∀a∈ns,a<=M)->Q (.int M) H2
theorem zFD{e d:Expr}{te td:TE}{p pos kpos:Pos}(hc:X.calm=true)(hg:Gl X "max")(hm:X.mg "max"=none)(he:PE X e te)(hd:PE X d td)(hst:cQ e=false:=by rfl):
  PE X (.Call (.Name "max" p) [e] [⟨some "default",d,kpos⟩] pos) (zAL X.K te td):=by
 intro pins s σ H Q I h
 refine wpAny_Call_Name_kw (iS I hg hm boot_max ?_)
 have hs:starEach [e] X.env=[(false,eval e X.env)]:=gX (rest:=[]) hst
 refine callWith_kw (thn ((cJ he cT hst) pos pins s σ H (λvs H1=>∃x,vs=[x]/\td σ H1 λy H2=>∃(p:Addr) (ns:List Int),x=.ref p/\SqL X.K H2 p (ns.map V.int)/\(ns=[]->Q y H2)/\∀M,M∈ns->(∀a∈ns,a<=M)->Q (.int M) H2) I ?_) λus s1 ⟨vs,H1,I1,r1,q1⟩=>?_) (by rw[hs];rfl) (by rw[hs];rfl)
 ·show te σ H _
  exact(show te σ H (λx H1=>∃x',[x]=[x']/\td σ H1 _) from by
   refine(?_:te σ H _)
   have:=h
   unfold zAL at this
   exact cast (congrArg (te σ H) (funext λx=>funext λH1=>propext ⟨λz=>⟨x,rfl,z⟩,λ⟨x',e,z⟩=>by cases e;exact z⟩)) this)
 ·obtain⟨x,rfl,q1⟩:=q1
  obtain⟨u,rfl,rx⟩:=bZ r1
  refine evalAll_cons (wpAny_bind (thn (hd pins s1 σ H1 _ I1 q1) λdv s2 ⟨y,H2,I2,r2,q2⟩=>wpAny_bind (wpAny_standAt (wpAny_pure (evalAll_nil ?_)))))
  obtain⟨p,ns,rfl,hq,q0,q⟩:=q2
  cases rx
  obtain⟨its,rv,pl,hz⟩:=I2.list hq
  have hi:IntsAre its ns:=jH rv
  obtain⟨zs,ez⟩:=hi.allInts.items
  have en:ns=zs.toList.map (·.1):=by rw[<-hi.numsOf,<-nums_intItems,<-ez]
  have hl:=pl.isList
  rw[ez]at hl
  refine zET (I2.ok.hd hc) hl (λhz0 h' tk k=>?_) λhz0 v h' tk hv k=>?_
  ·refine⟨y,H2,I2.kept k,r2,q0 ?_⟩
   rw[en,List.map_eq_nil_iff]
   exact List.eq_nil_of_length_eq_zero (by rw[Array.length_toList];exact hz0)
  ·obtain⟨t,rfl⟩:=intItems_at hv
   obtain⟨h1,h2⟩:=argBest_gt (numAt zs) (zs.size-1)
   refine⟨.int _,H2,I2.kept k,⟨t,rfl⟩,q _ ?_ λa ha=>?_⟩
   ·rw[en,numAt_eq]
    exact getD_mem (by rw[List.length_map,Array.length_toList];omega)
   ·rw[en]at ha
    obtain⟨j,hj,rfl⟩:=mem_getD ha
    rw[List.length_map,Array.length_toList]at hj
    have:=h2 j (by omega)
    rw[numAt_eq zs j]at this
    exact this
end
end L2
namespace L2
open PySem PySem.Spec PyProof.Rows
def fzb:HO->Bool
 |.lst _=>true
 |.dK _=>true
 |_=>false
def FrozenA(H H1 H2:Hp):Prop:=∀b,(H b=none/\∃o ob,fzb o=true/\H1 b=some o/\H2 b=some (.frz ob o))\/(¬ (H b=none/\∃o,fzb o=true/\H1 b=some o)/\H2 b=H1 b)
section
variable{H H1 H2:Hp}{b:Addr}{o:HO}
theorem FrozenA.keep(f:FrozenA H H1 H2)(h:H1 b=some o)(n:fzb o=false):H2 b=some o:=by
 rcases f b with⟨_,o',ob,z,e,_⟩|⟨_,z⟩
 ·rw[h]at e;cases e;rw[n]at z;exact absurd z Bool.false_ne_true
 ·rw[z];exact h
theorem FrozenA.fz(f:FrozenA H H1 H2)(hn:H b=none)(h:H1 b=some o)(n:fzb o=true):∃ob,H2 b=some (.frz ob o):=by
 rcases f b with⟨_,o',ob,z,e,e2⟩|⟨z,_⟩
 ·rw[h]at e;cases e;exact⟨ob,e2⟩
 ·exact absurd ⟨hn,o,n,h⟩ z
theorem FrozenA.none_of(f:FrozenA H H1 H2)(h:H1 b=none):H2 b=none:=by
 rcases f b with⟨_,o',ob,z,e,e2⟩|⟨_,z⟩
 ·rw[h]at e;cases e
 ·rw[z];exact h
end
theorem Good.imp{P:Program}{w:World}{K:W.Frag}{mg:Str->Option Value}{base:Heap}{k:Nat}{x:Str}{ps:List Str}{sp sp':Sp}(G:Good P w K mg base k x ps sp)(h:∀vs H Q E,sp' vs H Q E->sp vs H Q E):Good P w K mg base k x ps sp':=by
 obtain⟨f,fd,F,b,m,kp⟩:=G
 exact⟨f,fd,F.imp h,b,m,kp⟩
def zAX:HO->Bool
 |.frz _ _=>true
 |.tup _=>true
 |_=>false
def HS(H H':Hp):Prop:=∀b o,zAX o=true->H b=some o->H' b=some o
section
variable{H H1 H2:Hp}{a p c:Addr}{o:HO}
theorem HS.refl(H:Hp):HS H H:=λ_ _ _ e=>e
theorem HS.trans(x:HS H H1)(y:HS H1 H2):HS H H2:=λb o h e=>y b o h (x b o h e)
theorem Same.hs(s:Same H H1):HS H H1:=λb o _ e=>s b o e
theorem FrozenA.hs(f:FrozenA H H1 H2):HS H1 H2:=λb o h e=>f.keep e (by cases o<;>first|rfl|exact absurd h Bool.false_ne_true)
theorem gG(h:H a=none):HS H (upd H a o):=λb u _ e=>by rw[aY (cS e h)];exact e
theorem fD{u:HO}(h:H a=some u)(n:zAX u=false):HS H (upd H a o):=λb v hv e=>by
 by_cases z:b=a
 ·subst z;rw[h]at e;cases e;rw[n]at hv;exact absurd hv Bool.false_ne_true
 ·rw[aY z];exact e
end
end L2
namespace L2
open PySem PySem.Spec PyProof.Rows
theorem zBV:typeLookup (.type "list") "keys"=pure none:=by rw[typeLookup_type,builtinLookup_eq_fast];kernel_rfl
section
variable{prog:Program}{w:World}{A:Around}{E:Value->Shared->Prop}{s:Shared}
theorem zCS{a:Addr}{xs:Array Value}{n:Nat}{Q:Option Value->Shared->Prop}(hA:A.handled=none)(hx:s.heap.get? a=some {cls:=.type "list",data:=.seq xs n})
  (h:∀h' tk,(∀b o,s.heap.get? b=some o->h'.get? b=some o)->Q none {s with heap:=h',toks:=tk}):wpAny (model prog w) A (getAttr? (.ref a) "keys") Q E s:=by
 obtain⟨hp,g,d,tk,os⟩:=s
 have ty:∀t',(⟨hp,g,d,t',os⟩:Shared).TypeIs (.ref a) "list":=λ_=>⟨_,hx,rfl⟩
 have e1:=sub_AttributeError
 have e2:=F.slot_list_getattribute.lookup
 have e3:=F.slot_list_getattribute.bind (.ref a)
 have e4:=am_list_getattr_none
 unfold getAttr? getAttrBy? getAttrBy
 repeat (any_goals (first|assumption|exact ty _|((with_reducible show wpAny _ _ (call (Value.builtin "list.__getattribute__") _ _) _ _ _);refine call_meets F.slot_list_getattribute (ty _) am_entry_list_getattribute (F.args_list_getattribute_2 _ _) (meets_getattribute_miss_list a xs n #[] "keys" _ zBV (by decide +kernel)) ⟨hx,hA,λh' tk' e ne=>?_⟩)|wp_step))
 obtain⟨t',u',he⟩:=ne.there
 show wpAny _ _ (getattributeRaised _ _ _ _ _ _ _) _ _ _
 unfold getattributeRaised
 repeat (any_goals (first|assumption|wp_step))
 all_goals exact h _ _ ne.keeps
theorem zAG:entryFor table "dict.update.loop"=some Builtin.«dict.update.loop»:=entryFor_of_tree (by kernel_rfl)
theorem oB:plainId "dict.update.loop"=true:=by decide +kernel
theorem qJ{h h':Heap}{a:Addr}{kvs:List (Key×Value)}(hd:h.DictOf (bK prog w) a kvs)(k:∀o,h.get? a=some o->h'.get? a=some o):h'.DictOf (bK prog w) a kvs:=by
 obtain⟨o,es,ep,e,r⟩:=hd
 exact⟨o,es,ep,k o e,r⟩
def TupsAt(prog:Program)(w:World)(h:Heap)(its:Array Value)(ps:List (Key×Value)):Prop:=
 its.size=ps.length/\∀(j:Nat) (k:Key) (v:Value),ps[j]?=some (k,v)->∃t key,its[j]?=some (.ref t)/\IsTup h t #[key,v]/\(bK prog w).is k key=true
theorem TupsAt.keep{h h':Heap}{its:Array Value}{ps:List (Key×Value)}(x:TupsAt prog w h its ps)(k:∀t o,h.get? t=some o->o.cls=.type "tuple"->h'.get? t=some o):TupsAt prog w h' its ps:=
 ⟨x.1,λj kk v e=>by
  obtain⟨t,key,a,⟨o,b,c,d⟩,f⟩:=x.2 j kk v e
  exact⟨t,key,a,⟨o,k t o b c,c,d⟩,f⟩⟩
theorem zCu{R:Result->Shared->Prop}{it l dd:Addr}{its:Array Value}{ps:List (Key×Value)}(hh:A.handled=none)(hli:l≠it)(hdi:dd≠it)(hdl:dd≠l)(hsz:ps.length<=1000):
  ∀(m i:Nat) (s:Shared) (kvs:List (Key×Value)) (tk:Tok),ps.length=i+m->s.heap.IsListIter it l i/\s.heap.IsList l its->TupsAt prog w s.heap its ps->s.heap.DictOf (bK prog w) dd kvs->kvs.length<=i ->
   (∀h' tk',h'.DictOf (bK prog w) dd ((ps.drop i).foldl (λacc kv=>stored acc kv.1 kv.2) kvs)->(∀b o,b≠it->b≠dd->s.heap.get? b=some o->h'.get? b=some o)->R (.ok (.ret .none)) {s with heap:=h',toks:=tk'}) ->
   codeAny (model prog w) A (.builtin "dict.update.loop" ⟨[.ref dd,.ref it,.int i tk,.none],[]⟩) R s:=by
 have W:=Walks.list (prog:=prog) (w:=w) (A:=A.in1) (by simp[hh]) it l hli its
 intro m
 induction m with
 |zero=>
  intro i s kvs tk hm st ht hd hl hR
  refine codeAny_builtin zAG ?_
  rw[Around.under_plainId oB _]
  unfold Builtin.«dict.update.loop»
  refine wpAny_bind (W.done s _ _ (by rw[ht.1,hm];exact st) λh' tk' k=>?_)
  refine wpAny_bind (wpAny_pure (wpAny_pure ?_))
  have e:ps.drop i=[]:=List.drop_of_length_le (by omega)
  rw[e]at hR
  refine hR h' tk' (qJ hd λo e=>k dd o (by simp[hdi]) e) λb o n1 _ e=>k b o (by simp[n1]) e
 |succ m ih=>
  intro i s kvs tk hm st ht hd hl hR
  have hi:i<ps.length:=by omega
  have hp:ps[i]?=some (ps[i].1,ps[i].2):=List.getElem?_eq_getElem hi
  obtain⟨t,key,e1,htt,hkey⟩:=ht.2 i _ _ hp
  refine codeAny_builtin zAG ?_
  rw[Around.under_plainId oB _]
  unfold Builtin.«dict.update.loop»
  refine wpAny_bind (W.item i s _ _ (by rw[ht.1];exact hi) st λv h' tk' hv st' k=>?_)
  have hv:v=.ref t:=by rw[e1]at hv;exact(Option.some.inj hv).symm
  subst hv
  have nti:∀b o,s.heap.get? b=some o->o.cls=.type "tuple"->b≠it:=λb o e c z=>by
   obtain⟨o',e',c',_⟩:=st.1
   rw[<-z,e]at e'
   cases e'
   rw[c]at c'
   exact absurd c' (by decide)
  have ntd:∀b o,s.heap.get? b=some o->o.cls=.type "tuple"->b≠dd:=λb o e c z=>by
   obtain⟨o',e',c'⟩:=hd.typeIs
   rw[<-z,e]at e'
   cases e'
   rw[c]at c'
   exact absurd c' (by decide)
  obtain⟨ot,et,ct,nt,dt⟩:=htt
  have et':=k t ot (by simp[nti t ot et ct]) et
  have hd':h'.DictOf (bK prog w) dd kvs:=qJ hd λo e=>k dd o (by simp[hdi]) e
  have ty:Shared.TypeIs {s with heap:=h',toks:=tk'} (.ref t) "tuple":=⟨ot,et',ct⟩
  refine wpAny_bind (wpAny_holding ?_)
  refine wpAny_bind (wpAny_tryCatch ?_)
  unfold Builtin.Dict.pairItems
  refine wpAny_bind (wpAny_typeOf ty ?_)
  rw[if_pos (by decide)]
  refine wpAny_bind (wpAny_seqItems et' dt (wpAny_pure ?_))
  refine wpAny_holding (wpAny_dictSet_pairs hkey hd' (λh2 hd2 sb=>?_) (by rw[sizeLine_eq];omega))
  refine wpAny_pure ⟨plainId_quiet oB _,?_⟩
  have l2:=sb.2 l hdl.symm
  refine ih (i+1) _ (stored kvs ps[i].1 ps[i].2) _ (by omega) ?_ ?_ hd2 ?_ λh3 tk3 hd3 k3=>?_
  ·refine W.frame (i+1) h' h2 st' λb hb o e=>?_
   rcases List.mem_cons.mp hb with z|z
   ·rw[z]at e ⊢;exact(sb.2 it hdi.symm).trans e
   ·rw[List.mem_singleton.mp z]at e ⊢;exact l2.trans e
  ·exact ht.keep λb o e c=>(sb.2 b (ntd b o e c)).trans (k b o (by simp[nti b o e c]) e)
  ·unfold stored
   split
   ·rw[List.length_map];omega
   ·rw[List.length_append];show kvs.length+1<=_;omega
  ·refine hR h3 tk3 ?_ λb o n1 n2 e=>k3 b o n1 n2 ((sb.2 b n2).trans (k b o (by simp[n1]) e))
   rw[show ps.drop i=ps[i]::ps.drop (i+1) from List.drop_eq_getElem_cons hi]
   exact hd3
theorem zBQ{l:Addr}{its:Array Value}{nl:Nat}{ps:List (Key×Value)}{Q:Value->Shared->Prop}(hh:A.handled=none)(hl:s.heap.get? l=some {cls:=.type "list",data:=.seq its nl})(ht:TupsAt prog w s.heap its ps)(hsz:ps.length<=1000)
  (h:∀h' tk,h'.DictOf (bK prog w) s.heap.objs.size (ps.foldl (λacc kv=>stored acc kv.1 kv.2) [])->(∀b o,s.heap.get? b=some o->h'.get? b=some o)->Q (.ref s.heap.objs.size) {s with heap:=h',toks:=tk}):
  wpAny (model prog w) A (call (.type "dict") [.ref l]) Q E s:=by
 refine callType_codes (Q₁:=λobj s₁=>obj=.ref s.heap.objs.size/\s₁={s with heap:=s.heap.push {cls:=.type "dict",data:=.dict #[]}}) F.kt_called_dict (F.kt_typeCall_dict_1 _) F.entry_dict_init (kt_code_dict_new _ ⟨rfl,rfl⟩) ?_
 rintro obj s₁ ⟨rfl,rfl⟩
 have new:(s.heap.push {cls:=.type "dict",data:=.dict #[]}).DictOf (bK prog w) s.heap.objs.size []:=Heap.DictOf.new s.heap
 have hl1:(s.heap.push {cls:=.type "dict",data:=.dict #[]}).get? l=some {cls:=.type "list",data:=.seq its nl}:=Heap.get?_push_of_some _ hl
 have llt:=Heap.lt_size hl
 refine⟨new.typeIs,F.args_dict_init_2 _ _,?_⟩
 unfold Builtin.«dict.__init__»
 refine wpAny_bind ?_
 unfold Builtin.Dict.selfAndRest
 refine wpAny_bind (wpAny_notOrdered_dict new.typeIs ?_)
 show wpAny _ _ (pure (s.heap.objs.size,[Value.ref l])) _ _ _
 refine wpAny_pure ?_
 show wpAny _ _ (Builtin.Dict.updateFrom "dict.__init__" s.heap.objs.size (.ref l) [] .none) _ _ _
 unfold Builtin.Dict.updateFrom
 refine wpAny_bind (wpAny_typeOf (T:="list") ⟨_,hl1,rfl⟩ ?_)
 rw[if_pos (by decide)]
 refine wpAny_bind (zCS (by simp[hh]) hl1 λh2 tk2 k2=>?_)
 rw[if_pos (by decide)]
 refine wpAny_bind (wpAny_rule ?_)
 have hl2:=k2 _ _ hl1
 have isl:Heap.IsList h2 l its:=⟨_,hl2,rfl,nl,rfl⟩
 refine wpAny_bind (wpAny_pyIter_list isl ?_)
 have sz2:s.heap.objs.size<h2.objs.size:=by
  have:(s.heap.push {cls:=.type "dict",data:=.dict #[]}).get? s.heap.objs.size=some _:=Heap.get?_push_size _ rfl
  exact Heap.lt_size (k2 _ _ this)
 refine wpAny_pure ⟨plainId_quiet oB _,zCu (A:=A.in1) (its:=its) (ps:=ps) (by simp[hh]) (Nat.ne_of_lt (Heap.lt_size hl2)) (Nat.ne_of_lt sz2) (Nat.ne_of_gt llt) hsz ps.length 0 _ [] _ (by simp) ⟨⟨_,Heap.get?_push_size _ rfl,rfl,rfl⟩,isl.push _⟩ ?_ ?_ (Nat.zero_le _) λh3 tk3 hd3 k3=>?_⟩
 ·exact ht.keep λb o e _=>Heap.get?_push_of_some _ (k2 _ _ (Heap.get?_push_of_some _ e))
 ·exact(qJ new λo e=>k2 _ _ e).push _
 ·refine⟨rfl,h h3 tk3 hd3 λb o e=>?_⟩
  have lt:=Heap.lt_size e
  exact k3 b o (Nat.ne_of_lt (Nat.lt_trans lt sz2)) (Nat.ne_of_lt lt) (Heap.get?_push_of_some _ (k2 _ _ (Heap.get?_push_of_some _ e)))
end
section
variable{X:Cx}
theorem zF4:∀{ps:List (Key×V)}{qs:List (Key×Value)}{kvs:List (Key×V)}{vs:List (Key×Value)},KV ps qs->KV kvs vs->KV (iR kvs ps) (qs.foldl (λacc kv=>stored acc kv.1 kv.2) vs):=by
 intro ps qs kvs vs r
 unfold KV at r
 induction r generalizing kvs vs with
 |nil=>intro q;exact q
 |@cons p q ps qs h t ih=>
  intro r0
  refine ih (kvs:=cL kvs p.1 p.2) (vs:=stored vs q.1 q.2) ?_
  rw[<-h.1]
  exact r0.put p.1 h.2
end
end L2
namespace WordM
open PySem
def sigA:Str:=" !\"#$&'()*+,-./0123456789:;<=>?@ABCDEFGHIJKLMNOPQRSTUVWXYZ[\\]^_`"
def sigB:Str:="abcdefghijklmnopqrstuvwxyz{|}~"
def SIG:Str:=sigA++sigB
abbrev cs(x:Str):List Nat:=x.cps.toList
def kO:Str:="0123456789"
def lI:Str:="ABCDEFGHIJKLMNOPQRSTUVWXYZ"
def zGN:Str:=" !\"#$&'()*+,-./:;<=>?\x40[\\]^_`{|}~"
def nX:Str:="abcdefghijklmnopqrstuvwxyz"
def SGN:List (Str×Str):=[("figure",kO),("great",lI),("other",zGN),("small",nX)]
def MK:List Str:=["figure","great","other","small"]
def Sg(x:Str):Prop:=∀c∈cs x,c∈cs SIG
instance (x:Str):Decidable (Sg x):=by unfold Sg;infer_instance
def cE(c:Nat):Str:=if c∈cs kO then "figure" else if c∈cs lI then "great" else if c∈cs nX then "small" else "other"
theorem app(a b:Str):cs (a++b)=cs a++cs b:=by
 show(a.cps++b.cps).toList=_
 simp
theorem len(a:Str):a.length=(cs a).length:=by simp[Str.length]
theorem Sg.app{a b:Str}(ha:Sg a)(hb:Sg b):Sg (a++b):=λc hc=>by
 rw[WordM.app]at hc
 rcases List.mem_append.mp hc with z|z
 ·exact ha c z
 ·exact hb c z
theorem Sg.one{x:Str}(h:Sg x){c:Nat}(hc:c∈cs x):Sg ⟨#[c]⟩:=λd hd=>by
 have:d=c:=by simpa using hd
 rw[this]
 exact h c hc
theorem zGJ:Sg ⟨#[]⟩:=λc hc=>by simp at hc
theorem zC7{x:Str}{l u:Option Int}{c:Nat}(h:c∈cs (Txt.slice x l u)):c∈cs x:=by
 unfold Txt.slice at h
 split at h
 ·exact h
 ·simp only[cs,List.toList_toArray,List.mem_filterMap]at h
  obtain⟨i,_,hi⟩:=h
  obtain⟨hlt,e⟩:=Array.getElem?_eq_some_iff.mp hi
  rw[<-e]
  simp
theorem Sg.slice{x:Str}(h:Sg x)(l u:Option Int):Sg (Txt.slice x l u):=λc hc=>h c (zC7 hc)
theorem slice_len(x:Str)(l u:Option Int):(Txt.slice x l u).length<=x.length:=Txt.slice_le x l u
theorem jS{a b:Str}(h:cs a=cs b):a=b:=by
 obtain⟨a⟩:=a
 obtain⟨b⟩:=b
 have:a=b:=Array.toList_inj.mp h
 rw[this]
theorem zCl{c:Nat}{r:Str}:Txt.slice ((⟨#[c]⟩:Str)++r) (some 1) none=r:=by
 refine jS ?_
 have hl:(((⟨#[c]⟩:Str)++r).length)=1+r.length:=by rw[len,app,len];simp
 rw[PyProof.Rows.slice_from_eq (b:=((((⟨#[c]⟩:Str)++r).length:Nat):Int)) (by decide) (by omega) rfl]
 show((cs ((⟨#[c]⟩:Str)++r)).drop 1).take _=_
 rw[app]
 show((c::cs r).drop 1).take _=cs r
 rw[List.drop_one,List.tail_cons,List.take_of_length_le]
 rw[hl,len]
 omega
theorem zB5{x:Str}(h:x.length=0):Txt.slice x (some 1) none=x:=by
 have h1:=slice_len x (some 1) none
 refine jS ?_
 have e1:cs (Txt.slice x (some 1) none)=[]:=List.eq_nil_of_length_eq_zero (by rw[<-len];omega)
 have e2:cs x=[]:=List.eq_nil_of_length_eq_zero (by rw[<-len];omega)
 rw[e1,e2]
theorem mark_in(c:Nat):cE c∈MK:=by
 unfold cE
 split
 ·decide
 ·split
  ·decide
  ·split
   ·decide
   ·decide
theorem rF:SIG.length=94:=by decide +kernel
theorem zC8:(cs SIG).Nodup:=by decide +kernel
theorem zCm(x:Str):(Txt.slice x (some 1) none).length+1<=(if x.length<1 then 1 else x.length):=by
 by_cases h:x.length=0
 ·rw[zB5 h,if_pos (by omega)]
  omega
 ·rw[if_neg (by omega)]
  rw[PyProof.Rows.slice_from_eq (b:=(x.length:Int)) (by decide) (by omega) rfl]
  show(((cs x).drop 1).take _).toArray.size+1<=_
  rw[List.size_toArray,List.length_take,List.length_drop,<-len]
  omega
theorem nodup_len{α:Type}[DecidableEq α]:∀{l m:List α},l.Nodup->(∀x∈l,x∈m)->l.length<=m.length
 |[],m,_,_=>Nat.zero_le _
 |x::l,m,hn,hs=>by
  have hx:=hs x List.mem_cons_self
  have h2:=List.nodup_cons.mp hn
  have ih:=nodup_len (l:=l) (m:=m.erase x) h2.2 λy hy=>by
   have hne:y≠x:=λe=>h2.1 (e▸hy)
   exact(List.mem_erase_of_ne hne).mpr (hs y (List.mem_cons_of_mem _ hy))
  rw[List.length_erase_of_mem hx]at ih
  have:0<m.length:=List.length_pos_of_mem hx
  rw[List.length_cons]
  omega
def eF(a:Int):Nat:=(cs SIG).getD (a % 94).toNat 0
theorem zC9(a:Int):eF a∈cs SIG:=by
 have hl:(a % 94).toNat<(cs SIG).length:=by
  rw[<-len,rF]
  have:=Int.emod_lt_of_pos a (show(0:Int)<94 by decide)
  have:=Int.emod_nonneg a (show(94:Int)≠0 by decide)
  omega
 unfold eF
 rw[List.getD_eq_getElem?_getD,List.getElem?_eq_getElem hl]
 exact List.getElem_mem hl
theorem zDa{a b:Int}(h:eF a=eF b):a % 94=b % 94:=by
 have b1:=Int.emod_lt_of_pos a (show(0:Int)<94 by decide)
 have b2:=Int.emod_nonneg a (show(94:Int)≠0 by decide)
 have b3:=Int.emod_lt_of_pos b (show(0:Int)<94 by decide)
 have b4:=Int.emod_nonneg b (show(94:Int)≠0 by decide)
 have hl:(cs SIG).length=94:=by rw[<-len];exact rF
 unfold eF at h
 rw[List.getD_eq_getElem?_getD,List.getD_eq_getElem?_getD,List.getElem?_eq_getElem (by omega),List.getElem?_eq_getElem (by omega)]at h
 have h:(cs SIG)[(a % 94).toNat]=(cs SIG)[(b % 94).toNat]:=h
 have hp:=List.pairwise_iff_getElem.mp zC8
 rcases Nat.lt_trichotomy (a % 94).toNat (b % 94).toNat with z|z|z
 ·exact absurd h (hp _ _ (by omega) (by omega) z)
 ·omega
 ·exact absurd h.symm (hp _ _ (by omega) (by omega) z)
def eG(a:Int)(r:Str)(i:Nat):Str:=(⟨#[eF (a+i)]⟩:Str)++r
theorem zD4{a:Int}{r:Str}{i j:Nat}(hi:i<90)(hj:j<90)(h:eG a r i=eG a r j):i=j:=by
 have h1:cs (eG a r i)=cs (eG a r j):=by rw[h]
 unfold eG at h1
 rw[app,app]at h1
 have h2:eF (a+i)=eF (a+j):=by
  have:=List.cons.inj h1
  exact this.1
 have:=zDa h2
 omega
theorem zD5{a:Int}{r:Str}{ss:List Str}{j:Nat}(hj:j<80)(h:∀i,1<=i->i<=j->eG a r i∈ss):j<=ss.length:=by
 have:=nodup_len (l:=(List.range j).map λi=>eG a r (i+1)) (m:=ss) (by
  unfold List.Nodup
  rw[List.pairwise_map]
  refine List.Pairwise.imp_of_mem (λ{x y} hx hy hlt e=>?_) List.pairwise_lt_range
  have hx:=List.mem_range.mp hx
  have hy:=List.mem_range.mp hy
  have:=zD4 (by omega) (by omega) e
  omega) (λx hx=>by
  obtain⟨i,hi,rfl⟩:=List.mem_map.mp hx
  have:=List.mem_range.mp hi
  exact h (i+1) (by omega) (by omega))
 simpa using this
end WordM
namespace L2
open PySem PySem.Spec PyProof.Rows WordM
section
variable{α β:Type}{F G:α->β->Prop}
theorem dG:∀{xs:List α}{ys:List β}{i:Nat}{x:α},Paired F xs ys->xs[i]?=some x->∃y,ys[i]?=some y/\F x y
 |_,_,_,_,.nil,e=>by simp at e
 |_,_,0,_,.cons r _,e=>by simp at e;subst e;exact⟨_,rfl,r⟩
 |_,_,i+1,x,.cons _ t,e=>by
  obtain⟨u,h1,h2⟩:=dG (i:=i) (x:=x) t (by simpa using e)
  exact⟨u,by simpa using h1,h2⟩
end
inductive Tv where
 |leaf (v:V)
 |seq (t:Bool) (xs:List Tv)
 |dct (kts:List (Str×Tv))
def VT(S:Bool->Addr->List V->Prop)(D:Addr->List (Key×V)->Prop):Nat->V->Tv->Prop
 |0,_,_=>False
 |d+1,x,T=>(cN x=true/\T=.leaf x)\/(∃t a xs Ts,x=.ref a/\S t a xs/\T=.seq t Ts/\Ts.length<=100000/\Paired (VT S D d) xs Ts) \/
   ∃a kvs kts,x=.ref a/\D a kvs/\T=.dct kts/\(kts.map (·.1)).Nodup/\kts.length<64/\Paired (λ(kv:Key×V) (kt:Str×Tv)=>kv.1=.inr kt.1/\VT S D d kv.2 kt.2) kvs kts
section
variable{S S':Bool->Addr->List V->Prop}{D D':Addr->List (Key×V)->Prop}
theorem VT.mono(hs:∀t a xs,S t a xs->S' t a xs)(hd:∀a kvs,D a kvs->D' a kvs):∀{d:Nat}{x:V}{T:Tv},VT S D d x T->VT S' D' d x T
 |0,_,_,h=>False.elim h
 |d+1,x,T,h=>by
  rcases h with h|⟨t,a,xs,Ts,h1,h2,h3,hz,h4⟩|⟨a,kvs,kts,h1,h2,h3,h4,h5,h6⟩
  ·exact .inl h
  ·exact .inr (.inl ⟨t,a,xs,Ts,h1,hs _ _ _ h2,h3,hz,Paired.mapP h4 λ_ _ q=>VT.mono hs hd q⟩)
  ·exact .inr (.inr ⟨a,kvs,kts,h1,hd _ _ h2,h3,h4,h5,Paired.mapP h6 λ_ _ q=>⟨q.1,VT.mono hs hd q.2⟩⟩)
theorem VT.more:∀{d:Nat}{x:V}{T:Tv},VT S D d x T->VT S D (d+1) x T
 |0,_,_,h=>False.elim h
 |d+1,x,T,h=>by
  rcases h with h|⟨t,a,xs,Ts,h1,h2,h3,hz,h4⟩|⟨a,kvs,kts,h1,h2,h3,h4,h5,h6⟩
  ·exact .inl h
  ·exact .inr (.inl ⟨t,a,xs,Ts,h1,h2,h3,hz,Paired.mapP h4 λ_ _ q=>VT.more q⟩)
  ·exact .inr (.inr ⟨a,kvs,kts,h1,h2,h3,h4,h5,Paired.mapP h6 λ_ _ q=>⟨q.1,VT.more q.2⟩⟩)
theorem VT.le{d e:Nat}(h:d<=e){x:V}{T:Tv}(q:VT S D d x T):VT S D e x T:=by
 obtain⟨k,rfl⟩:=Nat.le.dest h
 clear h
 induction k with
 |zero=>exact q
 |succ k ih=>exact VT.more ih
end
def HDct(H:Hp)(a:Addr)(kvs:List (Key×V)):Prop:=∃ob,FzD H a ob kvs
section
variable{K:W.Frag}{H H':Hp}{d:Nat}{x:V}{T:Tv}
theorem HDct.hs(e:HS H H'){a:Addr}{kvs:List (Key×V)}(h:HDct H a kvs):HDct H' a kvs:=by
 obtain⟨ob,h⟩:=h
 exact⟨ob,e _ _ rfl h⟩
end
theorem zCp:∀(p:Str) (l:List Str),risingS p l=true->∀x∈l,(cs x<cs p)->False:=by
 intro p l
 induction l generalizing p with
 |nil=>intro _ x hx;simp at hx
 |cons y l ih=>
  intro h x hx hlt
  have h:(!PySem.Spec.ltCps y.cps.toList p.cps.toList&&risingS y l)=true:=h
  rw[Bool.and_eq_true]at h
  have hy:¬ (cs y<cs p):=by
   have:=h.1
   rw[ltCps_eq]at this
   simpa using this
  rcases List.mem_cons.mp hx with z|z
  ·subst z;exact hy hlt
  ·have hxy:¬ (cs x<cs y):=λq=>ih y h.2 x z q
   have h1:cs p<=cs y:=List.not_lt.mp hy
   have h2:cs y<=cs x:=List.not_lt.mp hxy
   exact absurd hlt (List.not_lt.mpr (List.le_trans h1 h2))
theorem mL:∀(l:List Str),sortedS l=true->l.Pairwise λa b=>cs a<=cs b
 |[],_=>.nil
 |x::l,h=>by
  have h:risingS x l=true:=h
  refine .cons (λy hy=>List.not_lt.mp λz=>zCp x l h y hy z) (mL l ?_)
  cases l with
  |nil=>rfl
  |cons y l=>
   have h:(!PySem.Spec.ltCps y.cps.toList x.cps.toList&&risingS y l)=true:=h
   rw[Bool.and_eq_true]at h
   exact h.2
open Classical in
noncomputable def cG(us:List Str):List Str:=if h:∃ss:List Str,ss.Perm us/\sortedS ss=true then h.choose else us
theorem jF(us:List Str):(cG us).Perm us:=by
 unfold cG
 split
 ·rename_i h;exact h.choose_spec.1
 ·exact .refl _
theorem nC{us ss:List Str}(h1:ss.Perm us)(h2:sortedS ss=true):ss=cG us:=by
 have ex:∃ss:List Str,ss.Perm us/\sortedS ss=true:=⟨ss,h1,h2⟩
 have e:cG us=ex.choose:=by unfold cG;rw[dif_pos ex]
 rw[e]
 exact List.Perm.eq_of_pairwise (λa b _ _ h1 h2=>jS (List.le_antisymm h1 h2)) (mL _ h2) (mL _ ex.choose_spec.2) (h1.trans ex.choose_spec.1.symm)
def dW(kts:List (Str×Tv))(k:Str):Option Tv:=(kts.find? λkt=>decide (kt.1=k)).map (·.2)
section
variable{S:Bool->Addr->List V->Prop}{D:Addr->List (Key×V)->Prop}{d:Nat}
theorem rS{kvs:List (Key×V)}{kts:List (Str×Tv)}{R:V->Tv->Prop}(h:Paired (λ(kv:Key×V) (kt:Str×Tv)=>kv.1=.inr kt.1/\R kv.2 kt.2) kvs kts)(k:Str):
  (dW kts k=none/\cV kvs (.inr k)=none)\/∃U v,dW kts k=some U/\cV kvs (.inr k)=some v/\R v U:=by
 induction h with
 |nil=>exact .inl ⟨rfl,rfl⟩
 |@cons kv kt l1 l2 h _ ih=>
  obtain⟨e,r⟩:=h
  by_cases z:kt.1=k
  ·refine .inr ⟨kt.2,kv.2,?_,mV (by rw[e,z]),r⟩
   unfold dW
   rw[List.find?_cons,decide_eq_true z]
   rfl
  ·have e2:dW (kt::l2) k=dW l2 k:=by
    unfold dW
    rw[List.find?_cons,decide_eq_false z]
   have e3:cV (kv::l1) (.inr k)=cV l1 (.inr k):=mW (by rw[e];exact λq=>z (Sum.inr.inj q))
   rw[e2,e3]
   exact ih
theorem zEx{kts:List (Str×Tv)}(hn:(kts.map (·.1)).Nodup){i:Nat}{kt:Str×Tv}(h:kts[i]?=some kt):dW kts kt.1=some kt.2:=by
 induction kts generalizing i with
 |nil=>cases h
 |cons a l ih=>
  rw[List.map_cons,List.nodup_cons]at hn
  cases i with
  |zero=>
   cases h
   unfold dW
   rw[List.find?_cons,decide_eq_true rfl]
   rfl
  |succ i=>
   have h:l[i]?=some kt:=by simpa using h
   have z:a.1≠kt.1:=λz=>hn.1 (by rw[z];exact List.mem_map.mpr ⟨kt,List.mem_of_getElem? h,rfl⟩)
   have:=ih hn.2 h
   unfold dW at this ⊢
   rw[List.find?_cons,decide_eq_false z]
   exact this
end
theorem SqT.hs{K:W.Frag}{H H':Hp}{a:Addr}{xs:List V}(e:HS H H')(h:SqT K H a xs):SqT K H' a xs:=by
 rcases h with (h|⟨o,h⟩)|h
 ·exact .inl (.inl (e _ _ rfl h))
 ·exact .inl (.inr ⟨o,e _ _ rfl h⟩)
 ·exact .inr h
theorem mN{α β:Type}{F:α->β->Prop}{a c:List α}{b d:List β}(h1:Paired F a b)(h2:Paired F c d):Paired F (a++c) (b++d):=by
 induction h1 with
 |nil=>exact h2
 |cons r _ ih=>exact .cons r ih
end L2
namespace L2
open PySem PySem.Spec PyProof.Rows
abbrev mD:Hp:=λ_=>none
def Thaw(H H3 H4:Hp):Prop:=∀b,(∃o ob,fzb o=true/\H b=some o/\H3 b=some (.frz ob o)/\H4 b=some o)\/((¬ ∃o ob,fzb o=true/\H b=some o/\H3 b=some (.frz ob o))/\H4 b=H3 b)
theorem rD(H H3:Hp):∃H4,Thaw H H3 H4:=by
 classical
 refine⟨λb=>if h:∃o ob,fzb o=true/\H b=some o/\H3 b=some (.frz ob o) then some h.choose else H3 b,λb=>?_⟩
 by_cases h:∃o ob,fzb o=true/\H b=some o/\H3 b=some (.frz ob o)
 ·obtain⟨ob,h1,h2,h3⟩:=h.choose_spec
  exact .inl ⟨h.choose,ob,h1,h2,h3,by dsimp only;rw[dif_pos h]⟩
 ·exact .inr ⟨h,by dsimp only;rw[dif_neg h]⟩
theorem qH{P:Program}{w:World}{H:Hp}{h:Heap}(hok:HOk P w H h):∃H2,FrozenA mD H H2/\HOk P w H2 h:=by
 let H2:Hp:=λb=>match H b with
  |none=>none
  |some o=>match fzb o with
   |false=>some o
   |true=>match h.get? b with
    |some ob=>some (.frz ob o)
    |none=>some o
 have new:∀b o ob,H b=some o->fzb o=true->h.get? b=some ob->H2 b=some (.frz ob o):=λb o ob h1 n e=>by
  show(match H b with|none=>none|some o=>_)=_
  rw[h1]
  dsimp only
  rw[n,e]
 have rest:∀b,(∀o,H b=some o->fzb o=false)->H2 b=H b:=λb hn=>by
  show(match H b with|none=>none|some o=>_)=_
  cases e:H b with
  |none=>rfl
  |some o=>
   dsimp only
   rw[hn o e]
 have fro:FrozenA mD H H2:=λb=>by
  cases h1:H b with
  |none=>exact .inr ⟨(λ⟨_,_,_,z⟩=>by cases z),by rw[rest b (λo z=>by rw[h1]at z;cases z),h1]⟩
  |some o=>
   cases n:fzb o with
   |true=>
    obtain⟨ob,e⟩:=(hok b o h1).there
    exact .inl ⟨rfl,o,ob,n,rfl,new b o ob h1 n e⟩
   |false=>exact .inr ⟨(λ⟨_,o',n',z⟩=>by cases z;rw[n]at n';exact absurd n' Bool.false_ne_true),by rw[rest b (λo' z=>by rw[h1]at z;cases z;exact n),h1]⟩
 refine⟨H2,fro,λb o e=>?_⟩
 have st:∀o,ObjOk P w H h b o->ObjOk P w H2 h b o:=λo x=>x.stay (λ_ _ _ r=>r) (λd r=>fro.keep r rfl) λd xs r=>fro.keep r rfl
 rcases fro b with⟨hn,o',ob,n,z,z'⟩|⟨_,z'⟩
 ·obtain⟨ob2,e2⟩:=(hok b o' z).there
  have q2:=new b o' ob2 z n e2
  rw[e]at q2
  cases q2
  exact⟨e2,st _ (hok b _ z)⟩
 ·rw[z']at e
  exact st o (hok b o e)
section
variable{H H2 H3 H4:Hp}{b:Addr}{o:HO}
theorem Thaw.same(f:FrozenA mD H H2)(s:Same H2 H3)(t:Thaw H H3 H4):Same H H4:=λb o e=>by
 cases n:fzb o with
 |true=>
  obtain⟨ob,e2⟩:=f.fz (b:=b) rfl e n
  have e3:=s b _ e2
  rcases t b with⟨u,ob',_,z,_,z'⟩|⟨z,_⟩
  ·rw[e]at z;cases z;exact z'
  ·exact absurd ⟨o,ob,n,e,e3⟩ z
 |false=>
  have e3:=s b _ (f.keep e n)
  rcases t b with⟨u,ob',n',z,_⟩|⟨_,z⟩
  ·rw[e]at z;cases z;rw[n]at n';exact absurd n' Bool.false_ne_true
  ·rw[z];exact e3
end
theorem wL:∀{ps kvs:List (Key×V)},((kvs++ps).map (·.1)).Nodup->iR kvs ps=kvs++ps
 |[],kvs,_=>by show kvs=kvs++[];rw[List.append_nil]
 |p::ps,kvs,h=>by
  have hv:cV kvs p.1=none:=by
   cases e:cV kvs p.1 with
   |none=>rfl
   |some v=>
    have:=zE4 e
    rw[List.map_append,List.nodup_append]at h
    exact absurd rfl (h.2.2 p.1 this p.1 (by simp))
  show iR (cL kvs p.1 p.2) ps=_
  rw[zEg p.2 hv,wL (by simpa using h),List.append_assoc]
  rfl
end L2
namespace L2
open PySem PySem.Spec PyProof.Rows
def ItE(K:W.Frag)(a:Addr):It:=
  ⟨λi H=>∃xs x,SqL K H a xs/\xs[i]?=some x,
   λi H v H'=>∃p x,v=.ref p/\H p=none/\H'=upd H p (.tup [.int (i:Int),x])/\∀xs,SqL K H a xs->xs[i]?=some x,
   λi H=>∃xs,SqL K H a xs/\xs.length<=i⟩
theorem zC3{P:Program}{w:World}{K:W.Frag}{es:List Expr}{ek:Nat}{pos:Pos}(a e it:Addr)(hei:e≠it)(hae:a≠e)(hai:a≠it):
  fX P w K (.Tuple es ek pos) (ItE K a) [e,it] e (λi h=>(∃old,IsEnum h e it (i:Int) old)/\h.IsListIter it a i) where
 mem:=by simp
 obj:=λi h st b hb=>by
  obtain⟨⟨old,st⟩,j⟩:=st
  rcases List.mem_cons.mp hb with rfl|hb
  ·exact⟨_,st,λv z=>by
    have z':Data.fields _=Data.cell v:=z
    cases z'⟩
  ·have q:b=it:=by simpa using hb
   subst q
   obtain⟨o,e',c,d⟩:=j
   exact⟨o,e',λv z=>by rw[d]at z;cases z⟩
 keep:=λi h h' ⟨⟨old,st⟩,j⟩ k=>⟨⟨old,k e (by simp) _ st⟩,j.at λo e'=>k it (by simp) o e'⟩
 item:=by
  intro X hP hw hK hc i pins s σ H E I hf st hg
  subst hP hw hK
  obtain⟨xs,x,hx,hi⟩:=hg
  obtain⟨⟨old,st⟩,j⟩:=st
  obtain⟨its,r,pl,hz⟩:=I.list hx
  obtain⟨u,hu,ru⟩:=r.get hi
  refine wpAny_pyNext_enum_item st j pl.isList (x:=u) (by simpa using hu) hei λh' a1 a2 a3 a4 a5=>⟨_,rfl,?_⟩
  refine wpAny_letOwnedTupleGo_enum (s:={s with heap:=h',toks:=s.toks+1}) a1 λh2 b1 b2=>?_
  have hne:e≠s.heap.objs.size:=Nat.ne_of_lt (Heap.lt_size st)
  have hni:it≠s.heap.objs.size:=by obtain⟨o,e',_⟩:=id j;exact Nat.ne_of_lt (Heap.lt_size e')
  have hn:∀c∈[e,it],c≠s.heap.objs.size:=λc hc'=>by
   simp only[List.mem_cons,List.not_mem_nil,or_false]at hc'
   rcases hc' with q|q
   ·rw[q];exact hne
   ·rw[q];exact hni
  have I0:Inv X pins σ (upd H s.heap.objs.size (.tup [.int (i:Int),x])) {s with heap:=s.heap.push {cls:=.type "tuple",data:=.seq #[.int (i:Int) s.toks,u]}}:=
   I.laid (t':=s.toks) (λc o e=>Heap.get?_push_of_some _ e) (Nat.le_refl _) ⟨by show 2<=sizeLine;decide,[.int (i:Int) s.toks,u],.cons ⟨_,rfl⟩ (.cons ru .nil),IsTup.new _ _⟩
  have hf0:∀c∈[e,it],dQ X pins (upd H s.heap.objs.size (.tup [.int (i:Int),x])) c:=λc hc'=>⟨by rw[aY (hn c hc')];exact(hf c hc').1,(hf c hc').2⟩
  have I1:Inv X pins σ (upd H s.heap.objs.size (.tup [.int (i:Int),x])) {s with heap:=h2,toks:=s.toks+1}:=Inv.turnedL (s:={s with heap:=s.heap.push {cls:=.type "tuple",data:=.seq #[.int (i:Int) s.toks,u]}}) (t':=s.toks+1) (ch:=[e,it]) I0 hf0 λc o hc' e'=>by
   simp only[List.mem_cons,List.not_mem_nil,or_false,not_or]at hc'
   obtain⟨c1,c2⟩:=hc'
   by_cases hcn:c=s.heap.objs.size
   ·subst hcn
    have e'':(s.heap.push {cls:=.type "tuple",data:=.seq #[.int (i:Int) s.toks,u]}).get? s.heap.objs.size=some o:=e'
    rw[Heap.get?_push_size _ rfl]at e''
    cases e''
    exact b2.extBut _ _ c1 a3
   ·refine b2.extBut _ _ c1 (a5 c o c1 c2 ?_)
    have e'':(s.heap.push {cls:=.type "tuple",data:=.seq #[.int (i:Int) s.toks,u]}).get? c=some o:=e'
    rw[Heap.get?_push_ne _ _ _ hcn]at e''
    exact e''
  refine⟨.ref s.heap.objs.size,_,I1,rfl,⟨_,x,rfl,I.hok.fresh (Nat.le_refl _),rfl,λxs' h=>by rw[I.list_inj h hx];exact hi⟩,⟨⟨u,by have:=b1;push_cast;exact this⟩,a2.at λo e'=>b2.extBut _ _ (Ne.symm hei) e'⟩,λc hc'=>(hf0 c hc').1⟩
 done:=by
  intro X hP hw hK hc i pins s σ H E I hf st hg
  subst hP hw hK
  obtain⟨xs,hx,hi⟩:=hg
  obtain⟨⟨old,st⟩,j⟩:=st
  obtain⟨its,r,pl,hz⟩:=I.list hx
  have la:=r.length
  refine wpAny_pyNext_enum_end (I.ok.hd hc) st j pl.isList (by simp;omega) λh' eb=>⟨rfl,I.turnedL (t':=s.toks) hf λc o hc' e'=>?_⟩
  simp only[List.mem_cons,List.not_mem_nil,or_false,not_or]at hc'
  exact eb c o hc'.2 e'
 self:=λ_ _ _ _ _ ⟨⟨_,st⟩,_⟩ h=>wpAny_pyIter_enum st h
theorem zBF:bootBuiltins "enumerate"=some (.type "enumerate"):=by decide +kernel
section
variable{X:Cx}
def zIN(K:W.Frag)(ta:TA):TI:=λσ H R=>ta σ H λvs H1=>∃a:Addr,vs=[.ref a]/\(∃xs,SqL K H1 a xs)/\R (ItE K a) H1
theorem zFB{a:Expr}{ta:TA}{es:List Expr}{ek:Nat}{p pos pos':Pos}(hg:Gl X "enumerate")(hm:X.mg "enumerate"=none)(ha:PA X [a] ta)(hs:starEach [a] X.env=[(false,eval a X.env)]:=by rfl):
  PI X (.Tuple es ek pos') (.Call (.Name "enumerate" p) [a] [] pos) (zIN X.K ta):=by
 intro pins s σ H R I h
 refine Call_ (iS I hg hm zBF (PyProof.Rows.callWith_type1 (thn (ha pos pins s σ H _ I h) λus s1 ⟨vs,H1,I1,r1,q1⟩=>?_) (by rw[hs];rfl) (by rfl)))
 obtain⟨a,e,⟨xs,hx⟩,q⟩:=q1
 subst e
 obtain⟨u,rfl,rx⟩:=bZ r1
 cases rx
 obtain⟨its,r,pl,hz⟩:=I1.list hx
 have la:a<s1.heap.objs.size:=by obtain⟨o,e,_⟩:=pl.isList;exact Heap.lt_size e
 refine call_enumerate_list pl.isList λh' e1 e2 _ k=>?_
 refine wpAny_pyIter_enum e1 ?_
 refine⟨_,[s1.heap.objs.size+1,s1.heap.objs.size],_,_,H1,rfl,I1.kept (t':=s1.toks) k,zC3 a _ _ (by intro (e:(_:Nat)=_);omega) (Nat.ne_of_lt (Nat.lt_succ_of_lt la)) (Nat.ne_of_lt la),⟨⟨_,e1⟩,e2⟩,λc hc=>?_,q⟩
 have:s1.heap.objs.size<=c:=by
  simp only[List.mem_cons,List.not_mem_nil,or_false]at hc
  rcases hc with e|e<;>(rw[e];first|exact Nat.le_refl _|exact Nat.le_add_right _ _)
 exact I1.fpOk this (I1.hok.fresh this)
end
end L2
namespace L2
open PySem PySem.Spec PyProof.Rows WordM
def PSeq(K:W.Frag)(H:Hp)(t:Bool)(a:Addr)(xs:List V):Prop:=match t with
 |false=>∃ob,H a=some (.frz ob (.lst xs))
 |true=>SqT K H a xs
abbrev VP(K:W.Frag)(H:Hp):Nat->V->Tv->Prop:=VT (PSeq K H) (HDct H)
def VA(K:W.Frag)(H:Hp)(x:V)(T:Tv):Prop:=∃d,VP K H d x T
abbrev VAs(K:W.Frag)(H:Hp):List V->List Tv->Prop:=Paired (VA K H)
def VAk(K:W.Frag)(H:Hp):List (Key×V)->List (Str×Tv)->Prop:=Paired λ(kv:Key×V) (kt:Str×Tv)=>kv.1=.inr kt.1/\VA K H kv.2 kt.2
section
variable{K:W.Frag}{H H' H1 H2:Hp}{x y v:V}{T U:Tv}{a:Addr}{xs:List V}{Ts:List Tv}{t:Bool}{kvs:List (Key×V)}{kts:List (Str×Tv)}
theorem PSeq.hs(e:HS H H')(h:PSeq K H t a xs):PSeq K H' t a xs:=by
 cases t with
 |false=>obtain⟨ob,h⟩:=h;exact⟨ob,e _ _ rfl h⟩
 |true=>exact SqT.hs e h
theorem VA.hs(e:HS H H')(h:VA K H x T):VA K H' x T:=by
 obtain⟨d,h⟩:=h
 exact⟨d,h.mono (λ_ _ _ q=>q.hs e) λ_ _ q=>q.hs e⟩
theorem VAs.hs(e:HS H H')(h:VAs K H xs Ts):VAs K H' xs Ts:=Paired.mapP h λ_ _ q=>q.hs e
theorem VAk.hs(e:HS H H')(h:VAk K H kvs kts):VAk K H' kvs kts:=Paired.mapP h λ_ _ q=>⟨q.1,q.2.hs e⟩
theorem VAs.deep(h:VAs K H xs Ts):∃d,Paired (VP K H d) xs Ts:=by
 induction h with
 |nil=>exact⟨0,.nil⟩
 |cons r _ ih=>
  obtain⟨d,r⟩:=r
  obtain⟨e,ih⟩:=ih
  exact⟨max d e,.cons (r.le (Nat.le_max_left _ _)) (Paired.mapP ih λ_ _ q=>VT.le (Nat.le_max_right _ _) q)⟩
theorem VAk.deep(h:VAk K H kvs kts):∃d,Paired (λ(kv:Key×V) (kt:Str×Tv)=>kv.1=.inr kt.1/\VP K H d kv.2 kt.2) kvs kts:=by
 unfold VAk at h
 induction h with
 |nil=>exact⟨0,.nil⟩
 |cons r _ ih=>
  obtain⟨k,d,r⟩:=r
  obtain⟨e,ih⟩:=ih
  exact⟨max d e,.cons ⟨k,r.le (Nat.le_max_left _ _)⟩ (Paired.mapP ih λ_ _ q=>⟨q.1,VT.le (Nat.le_max_right _ _) q.2⟩)⟩
theorem VA.flat(h:cN x=true):VA K H x (.leaf x):=⟨1,.inl ⟨h,rfl⟩⟩
theorem VA.seq(h:PSeq K H t a xs)(z:Ts.length<=100000)(p:VAs K H xs Ts):VA K H (.ref a) (.seq t Ts):=by
 obtain⟨d,p⟩:=p.deep
 exact⟨d+1,.inr (.inl ⟨t,a,xs,Ts,rfl,h,rfl,z,p⟩)⟩
theorem VA.dct(h:HDct H a kvs)(n:(kts.map (·.1)).Nodup)(z:kts.length<64)(p:VAk K H kvs kts):VA K H (.ref a) (.dct kts):=by
 obtain⟨d,p⟩:=p.deep
 exact⟨d+1,.inr (.inr ⟨a,kvs,kts,rfl,h,rfl,n,z,p⟩)⟩
theorem VA.leafI(h:VA K H x (.leaf v)):x=v/\cN v=true:=by
 obtain⟨d,h⟩:=h
 cases d with
 |zero=>exact False.elim h
 |succ d=>
  rcases h with⟨f,e⟩|⟨_,_,_,_,_,_,e,_⟩|⟨_,_,_,_,_,e,_⟩
  ·cases e;exact⟨rfl,f⟩
  ·cases e
  ·cases e
theorem VA.seqI(h:VA K H x (.seq t Ts)):∃a xs,x=.ref a/\PSeq K H t a xs/\Ts.length<=100000/\VAs K H xs Ts:=by
 obtain⟨d,h⟩:=h
 cases d with
 |zero=>exact False.elim h
 |succ d=>
  rcases h with⟨_,e⟩|⟨t',a,xs,Ts',e1,hs,e,z,p⟩|⟨_,_,_,_,_,e,_⟩
  ·cases e
  ·cases e;exact⟨a,xs,e1,hs,z,Paired.mapP p λ_ _ q=>⟨d,q⟩⟩
  ·cases e
theorem VA.dctI(h:VA K H x (.dct kts)):∃a kvs,x=.ref a/\HDct H a kvs/\(kts.map (·.1)).Nodup/\kts.length<64/\VAk K H kvs kts:=by
 obtain⟨d,h⟩:=h
 cases d with
 |zero=>exact False.elim h
 |succ d=>
  rcases h with⟨_,e⟩|⟨_,_,_,_,_,_,e,_⟩|⟨a,kvs,kts',e1,hd,e,n,z,p⟩
  ·cases e
  ·cases e
  ·cases e;exact⟨a,kvs,e1,hd,n,z,Paired.mapP p λ_ _ q=>⟨q.1,d,q.2⟩⟩
end
inductive Sl where
 |no
 |va (T:Tv)
 |own (xs:List Tv)
 |dct (kts:List (Str×Tv))
 |dk
abbrev aH:=List Sl
def dA:Sl->Bool
 |.own _=>true
 |.dct _=>true
 |_=>false
structure Fm where
 H0:Hp
 dk:Option (Addr×Addr)
structure Kp (dk:Option (Addr×Addr)) (H H':Hp):Prop where
 st:∀b o,H b=some o->(∀p c,dk=some (p,c)->b≠p/\b≠c)->H' b=some o
 dkk:∀p c,dk=some (p,c)->DeckAt H' p c
theorem Kp.tr{dk:Option (Addr×Addr)}{H H':Hp}(k:Kp dk H H')(b:Addr)(o:HO)(e:H b=some o):∃o',H' b=some o':=by
 cases d:dk with
 |none=>exact⟨o,k.st b o e λp c z=>by rw[d]at z;cases z⟩
 |some pc=>
  obtain⟨p,c⟩:=pc
  obtain⟨_,⟨S,i,e1⟩,ns,e2,_⟩:=k.dkk p c d
  by_cases h1:b=p
  ·subst h1;exact⟨_,e1⟩
  ·by_cases h2:b=c
   ·subst h2;exact⟨_,e2⟩
   ·exact⟨o,k.st b o e λp' c' z=>by rw[d]at z;cases z;exact⟨h1,h2⟩⟩
def uN(K:W.Frag)(F:Fm)(H:Hp)(ox:Option V):Sl->Prop
 |.no=>True
 |.va T=>∃x,ox=some x/\VA K H x T
 |.own Ts=>∃a xs,ox=some (.ref a)/\H a=some (.lst xs)/\F.H0 a=none/\Ts.length<=100000/\VAs K H xs Ts
 |.dct kts=>∃a kvs,ox=some (.ref a)/\H a=some (.dK kvs)/\F.H0 a=none/\(kts.map (·.1)).Nodup/\kts.length<64/\VAk K H kvs kts
 |.dk=>∃p c,F.dk=some (p,c)/\ox=some (.ref p)
def ixv(σ:St)(i:Nat):Option V:=(σ[i]?).join
structure FrOk (K:W.Frag) (F:Fm) (ρ:aH) (σ:St) (H:Hp):Prop where
 d0:∀p c,F.dk=some (p,c)->DeckAt F.H0 p c
 kp:Kp F.dk F.H0 H
 len:ρ.length=σ.length
 at_:∀(i:Nat) (s:Sl),ρ[i]?=some s->uN K F H (ixv σ i) s
 ap:∀(i j:Nat) (a:Addr) (s t:Sl),ρ[i]?=some s->ρ[j]?=some t->dA s=true->dA t=true->ixv σ i=some (.ref a)->ixv σ j=some (.ref a)->i=j
def Stay(F:Fm)(ρ:aH)(σ:St)(H H':Hp):Prop:=∀b o,H b=some o->(∀p c,F.dk=some (p,c)->b≠p/\b≠c)->(∀(i:Nat) (s:Sl),ρ[i]?=some s->dA s=true->ixv σ i≠some (.ref b))->H' b=some o
def Sbv(ρ' ρ:aH):Prop:=∀(i:Nat) (s':Sl),ρ'[i]?=some s'->dA s'=true->∃s,ρ[i]?=some s/\dA s=true
structure Stp (K:W.Frag) (F:Fm) (σ:St) (ρ:aH) (H:Hp) (ρ':aH) (H':Hp):Prop where
 fr:FrOk K F ρ' σ H'
 st:Stay F ρ σ H H'
 sub:Sbv ρ' ρ
 tr:∀b o,H b=some o->∃o',H' b=some o'
section
variable{K:W.Frag}{F:Fm}{ρ ρ1 ρ2:aH}{σ:St}{H H' H1 H2:Hp}{x y v:V}{T U:Tv}{a b:Addr}{o:HO}
theorem Sbv.refl(ρ:aH):Sbv ρ ρ:=λi s e m=>⟨s,e,m⟩
theorem Sbv.trans(h1:Sbv ρ1 ρ)(h2:Sbv ρ2 ρ1):Sbv ρ2 ρ:=λi s e m=>by
 obtain⟨s1,e1,m1⟩:=h2 i s e m
 exact h1 i s1 e1 m1
theorem FrOk.own_at(fr:FrOk K F ρ σ H){i:Nat}{s:Sl}(e:ρ[i]?=some s)(m:dA s=true)(q:ixv σ i=some (.ref a)):(∃o,H a=some o/\fzb o=true)/\F.H0 a=none:=by
 have h:=fr.at_ i s e
 cases s with
 |own Ts=>obtain⟨a',xs,e1,e2,e3,_⟩:=h;rw[q]at e1;cases e1;exact⟨⟨_,e2,rfl⟩,e3⟩
 |dct kts=>obtain⟨a',xs,e1,e2,e3,_⟩:=h;rw[q]at e1;cases e1;exact⟨⟨_,e2,rfl⟩,e3⟩
 |no=>cases m
 |va _=>cases m
 |dk=>cases m
theorem FrOk.fresh_nodk(fr:FrOk K F ρ σ H)(h:F.H0 a=none):∀p c,F.dk=some (p,c)->a≠p/\a≠c:=λp c e=>by
 obtain⟨_,⟨S,k,e1⟩,ns,e2,_⟩:=fr.d0 p c e
 exact⟨λz=>(by rw[z,e1]at h;cases h),λz=>(by rw[z,e2]at h;cases h)⟩
theorem FrOk.none_nodk(fr:FrOk K F ρ σ H)(h:H a=none):∀p c,F.dk=some (p,c)->a≠p/\a≠c:=λp c e=>by
 obtain⟨_,⟨S,k,e1⟩,ns,e2,_⟩:=fr.kp.dkk p c e
 exact⟨λz=>(by rw[z,e1]at h;cases h),λz=>(by rw[z,e2]at h;cases h)⟩
theorem FrOk.none0(fr:FrOk K F ρ σ H)(h:H a=none):F.H0 a=none:=by
 cases q:F.H0 a with
 |none=>rfl
 |some o=>rw[fr.kp.st a o q (fr.none_nodk h)]at h;cases h
theorem Stay.hs(fr:FrOk K F ρ σ H)(s:Stay F ρ σ H H'):HS H H':=λb o h e=>s b o e
 (λp c d=>by
  obtain⟨_,⟨S,k,e1⟩,ns,e2,_⟩:=fr.kp.dkk p c d
  exact⟨λz=>(by subst z;rw[e1]at e;cases e;cases h),λz=>(by subst z;rw[e2]at e;cases e;cases h)⟩)
 λi s e1 m q=>by
  obtain⟨⟨o',e2,n⟩,_⟩:=fr.own_at e1 m q
  rw[e]at e2;cases e2
  cases o<;>first|exact absurd h Bool.false_ne_true|exact absurd n Bool.false_ne_true
theorem Stay.trans(s1:Stay F ρ σ H H1)(sb:Sbv ρ1 ρ)(s2:Stay F ρ1 σ H1 H2):Stay F ρ σ H H2:=λb o e d n=>
 s2 b o (s1 b o e d n) d λi s e1 m=>by
  obtain⟨s',e2,m'⟩:=sb i s e1 m
  exact n i s' e2 m'
theorem Stp.trans(a:Stp K F σ ρ H ρ1 H1)(b:Stp K F σ ρ1 H1 ρ2 H2):Stp K F σ ρ H ρ2 H2:=⟨b.fr,a.st.trans a.sub b.st,a.sub.trans b.sub,λc o e=>let ⟨o1,e1⟩:=a.tr c o e;b.tr c o1 e1⟩
theorem Stp.refl(fr:FrOk K F ρ σ H):Stp K F σ ρ H ρ H:=⟨fr,λ_ _ e _ _=>e,Sbv.refl _,λ_ o e=>⟨o,e⟩⟩
theorem Stp.hs(a:Stp K F σ ρ H ρ1 H1)(fr:FrOk K F ρ σ H):HS H H1:=a.st.hs fr
theorem FrOk.call(fr:FrOk K F ρ σ H)(k:Kp F.dk H H'):FrOk K F ρ σ H':=by
 have own:∀i s a o,ρ[i]?=some s->dA s=true->ixv σ i=some (.ref a)->H a=some o->H' a=some o:=λi s a o e m q h=>
  k.st a o h (fr.fresh_nodk (fr.own_at e m q).2)
 have hs:HS H H':=λb o h e=>k.st b o e λp c d=>by
  obtain⟨_,⟨S,k,e1⟩,ns,e2,_⟩:=fr.kp.dkk p c d
  exact⟨λz=>(by subst z;rw[e1]at e;cases e;cases h),λz=>(by subst z;rw[e2]at e;cases e;cases h)⟩
 refine⟨fr.d0,⟨λb o e n=>k.st b o (fr.kp.st b o e n) n,k.dkk⟩,fr.len,λi s e=>?_,fr.ap⟩
 have h:=fr.at_ i s e
 cases s with
 |no=>trivial
 |va T=>obtain⟨x,e1,v⟩:=h;exact⟨x,e1,v.hs hs⟩
 |own Ts=>obtain⟨a,xs,e1,e2,e3,z,p⟩:=h;exact⟨a,xs,e1,own i _ a _ e rfl e1 e2,e3,z,p.hs hs⟩
 |dct kts=>obtain⟨a,kvs,e1,e2,e3,n,z,p⟩:=h;exact⟨a,kvs,e1,own i _ a _ e rfl e1 e2,e3,n,z,p.hs hs⟩
 |dk=>exact h
theorem Kp.of_same(fr:FrOk K F ρ σ H)(s:Same H H'):Kp F.dk H H':=⟨λb o e _=>s b o e,λp c d=>by
 obtain⟨ne,⟨S,k,e1⟩,ns,e2,l⟩:=fr.kp.dkk p c d
 exact⟨ne,⟨S,k,s _ _ e1⟩,ns,s _ _ e2,l⟩⟩
theorem Stp.call(fr:FrOk K F ρ σ H)(k:Kp F.dk H H'):Stp K F σ ρ H ρ H':=⟨fr.call k,λb o e d _=>k.st b o e d,Sbv.refl _,λb o e=>k.tr b o e⟩
theorem Stp.same(fr:FrOk K F ρ σ H)(s:Same H H'):Stp K F σ ρ H ρ H':=Stp.call fr (Kp.of_same fr s)
end
theorem Stp.non{K:W.Frag}{F:Fm}{ρ ρ1:aH}{σ:St}{H H1:Hp}{a:Addr}(s:Stp K F σ ρ H ρ1 H1)(n:H1 a=none):H a=none:=by
 cases e:H a with
 |none=>rfl
 |some o=>
  obtain⟨o',e'⟩:=s.tr a o e
  rw[n]at e';cases e'
abbrev UT:=aH->(Tv->aH->Prop)->Prop
abbrev UTt:=aH->(Bool->aH->Prop)->Prop
abbrev UTl:=aH->(List Tv->aH->Prop)->Prop
inductive Ar where
 |va (T:Tv)
 |dk
abbrev UTa:=aH->(List Ar->aH->Prop)->Prop
def mF(K:W.Frag)(dk:Option (Addr×Addr))(H:Hp)(x:V):Ar->Prop
 |.va T=>VA K H x T
 |.dk=>∃p c,dk=some (p,c)/\x=.ref p
def dL(K:W.Frag)(F:Fm)(u:UT):TE:=λσ H QQ=>∃ρ Q,FrOk K F ρ σ H/\u ρ Q/\∀x T H' ρ',Stp K F σ ρ H ρ' H'->VA K H' x T->Q T ρ'->QQ x H'
def oM(K:W.Frag)(F:Fm)(u:UTt):TT:=λσ H QQ=>∃ρ Q,FrOk K F ρ σ H/\u ρ Q/\∀b H' ρ',Stp K F σ ρ H ρ' H'->Q b ρ'->QQ b H'
def lW(K:W.Frag)(F:Fm)(u:UTl):TE:=λσ H QQ=>∃ρ Q,FrOk K F ρ σ H/\u ρ Q/\∀a xs Ts H' ρ',Stp K F σ ρ H ρ' H'->H a=none->H' a=some (.lst xs)->Ts.length<=100000->VAs K H' xs Ts->Q Ts ρ'->QQ (.ref a) H'
def lX(K:W.Frag)(F:Fm)(u:UTa):TA:=λσ H QQ=>∃ρ Q,FrOk K F ρ σ H/\u ρ Q/\∀xs as H' ρ',Stp K F σ ρ H ρ' H'->Paired (mF K F.dk H') xs as->Q as ρ'->QQ xs H'
structure UE (X:Cx) (F:Fm) (e:Expr) (u:UT):Prop where
 pe:PE X e (dL X.K F u)
structure UB (X:Cx) (F:Fm) (e:Expr) (u:UTt):Prop where
 pt:PT X e (oM X.K F u)
structure UW (X:Cx) (F:Fm) (e:Expr) (u:UTt):Prop where
 pw:PW X e (oM X.K F u)
structure UL (X:Cx) (F:Fm) (e:Expr) (u:UTl):Prop where
 pe:PE X e (lW X.K F u)
structure UA (X:Cx) (F:Fm) (es:List Expr) (u:UTa):Prop where
 pa:PA X es (lX X.K F u)
theorem PE.imp{X:Cx}{e:Expr}{t t':TE}(h:PE X e t)(i:∀σ H Q,t' σ H Q->t σ H Q):PE X e t':=λpins s σ H Q I q=>h pins s σ H Q I (i σ H Q q)
theorem PT.imp{X:Cx}{e:Expr}{t t':TT}(h:PT X e t)(i:∀σ H Q,t' σ H Q->t σ H Q):PT X e t':=λpins s σ H Q I q=>h pins s σ H Q I (i σ H Q q)
theorem PW.imp{X:Cx}{e:Expr}{t t':TT}(h:PW X e t)(i:∀σ H Q,t' σ H Q->t σ H Q):PW X e t':=λwh pins s σ H Q I q=>h wh pins s σ H Q I (i σ H Q q)
theorem PA.imp{X:Cx}{es:List Expr}{t t':TA}(h:PA X es t)(i:∀σ H Q,t' σ H Q->t σ H Q):PA X es t':=λpos pins s σ H Q I q=>h pos pins s σ H Q I (i σ H Q q)
theorem Inv.fz{X:Cx}{pins:List (Addr×Obj)}{σ:St}{H:Hp}{s:Shared}{a:Addr}{o:HO}(I:Inv X pins σ H s)(h:H a=some o)(n:fzb o=true):∃ob,Inv X pins σ (upd H a (.frz ob o)) s:=by
 obtain⟨ob,eo⟩:=(I.hok a o h).there
 refine⟨ob,?_⟩
 have keep:∀b u,H b=some u->fzb u=false->upd H a (.frz ob o) b=some u:=λb u e m=>by
  rw[aY (λz=>by subst z;rw[h]at e;cases e;rw[n]at m;cases m)];exact e
 have non:∀b,H b=none->upd H a (.frz ob o) b=none:=λb e=>by
  rw[aY (λz=>by subst z;rw[h]at e;cases e)];exact e
 refine⟨I.ok,I.os,I.bare,⟨I.base.keep,I.base.slot,λb o e n hx=>non b (I.base.free b o e n hx),I.base.there,λb xs e=>keep b _ (I.base.tups b xs e) rfl,λb o u e=>keep b _ (I.base.frzs b o u e) rfl,λb ps e=>?_⟩,I.loc,I.cell,non _ I.free,λx c e=>non c (I.freeC x c e),λp hp=>?_,λb u e=>?_,I.len⟩
 ·obtain⟨more,z⟩:=I.base.tbls b ps e
  exact⟨more,keep b _ z rfl⟩
 ·obtain⟨p1,p2,p3⟩:=I.pin p hp
  exact⟨p1,non _ p2,p3⟩
 ·have st:∀b u,ObjOk X.prog X.w H s.heap b u->ObjOk X.prog X.w (upd H a (.frz ob o)) s.heap b u:=λb u x=>x.stay (λ_ _ _ r=>r) (λd r=>keep d _ r rfl) λd xs r=>keep d _ r rfl
  by_cases z:b=a
  ·subst z
   rw[aT]at e
   cases e
   exact⟨eo,st _ _ (I.hok b o h)⟩
  ·rw[aY z]at e
   exact st _ _ (I.hok b u e)
def FzQ(Q:VK):VK:=λz H=>Q z H\/∃a o,z=.ref a/\H a=some o/\fzb o=true/\∀ob,Q z (upd H a (.frz ob o))
def tFz(t:TE):TE:=λσ H Q=>t σ H (FzQ Q)
theorem EP.fz{X:Cx}{pins:List (Addr×Obj)}{σ:St}{Q:VK}{u:Value}{s:Shared}(h:EP X pins σ (FzQ Q) u s):EP X pins σ Q u s:=by
 obtain⟨x,H',I,r,q⟩:=h
 rcases q with q|⟨a,o,rfl,e,n,q⟩
 ·exact⟨x,H',I,r,q⟩
 ·obtain⟨ob,I'⟩:=I.fz e n
  exact⟨_,_,I',r,q ob⟩
theorem PE.fz{X:Cx}{e:Expr}{t:TE}(h:PE X e t):PE X e (tFz t):=λpins s σ H Q I q=>thn (h pins s σ H _ I q) λ_ _ z=>z.fz
def Raw(K:W.Frag)(H H':Hp)(z:V)(W:Tv):Prop:=Same H H'/\(VA K H' z W\/∃a,z=.ref a/\H a=none /\
 ((∃xs Ts,H' a=some (.lst xs)/\W=.seq false Ts/\Ts.length<=100000/\VAs K H' xs Ts)\/∃kvs kts,H' a=some (.dK kvs)/\W=.dct kts/\(kts.map (·.1)).Nodup/\kts.length<64/\VAk K H' kvs kts))
section
variable{K:W.Frag}{F:Fm}{ρ ρ1 ρ2:aH}{σ:St}{H H' H1 H2:Hp}{x y v z:V}{T U W:Tv}{a b:Addr}{o:HO}
theorem Raw.va(v:VA K H z W):Raw K H H z W:=⟨Same.refl _,.inl v⟩
theorem Raw.flat(h:cN z=true):Raw K H H z (.leaf z):=.va (.flat h)
theorem Raw.lst{xs:List V}{Ts:List Tv}(n:H a=none)(z:Ts.length<=100000)(p:VAs K H xs Ts):Raw K H (upd H a (.lst xs)) (.ref a) (.seq false Ts):=
 ⟨cH n,.inr ⟨a,rfl,n,.inl ⟨xs,Ts,aT,rfl,z,p.hs (gG n)⟩⟩⟩
theorem Raw.tup{xs:List V}{Ts:List Tv}(n:H a=none)(z:Ts.length<=100000)(p:VAs K H xs Ts):Raw K H (upd H a (.tup xs)) (.ref a) (.seq true Ts):=
 ⟨cH n,.inl (VA.seq (t:=true) (SqT.of aT) z (p.hs (gG n)))⟩
theorem Stp.frz(fr:FrOk K F ρ σ H)(s:Same H H')(n:H a=none)(e:H' a=some o)(m:fzb o=true)(ob:Obj):Stp K F σ ρ H ρ (upd H' a (.frz ob o)):=
 Stp.same fr λb u q=>by rw[aY (cS q n)];exact s b u q
theorem Raw.fin(fr:FrOk K F ρ σ H)(r:Raw K H H' z W){QQ:VK}(k:∀H'',Stp K F σ ρ H ρ H''->VA K H'' z W->QQ z H''):FzQ QQ z H':=by
 obtain⟨s,v|⟨a,rfl,n,⟨xs,Ts,e,rfl,l,p⟩|⟨kvs,kts,e,rfl,nd,l,p⟩⟩⟩:=r
 ·exact .inl (k H' (Stp.same fr s) v)
 ·refine .inr ⟨a,_,rfl,e,rfl,λob=>k _ (Stp.frz fr s n e rfl ob) (VA.seq (t:=false) ⟨ob,aT⟩ l (p.hs (fD e rfl)))⟩
 ·refine .inr ⟨a,_,rfl,e,rfl,λob=>k _ (Stp.frz fr s n e rfl ob) (VA.dct ⟨ob,aT⟩ nd l (p.hs (fD e rfl)))⟩
end
end L2
namespace L2
open PySem PySem.Spec PyProof.Rows WordM
abbrev iT(i:Int):Tv:=.leaf (.int i)
abbrev sT(x:Str):Tv:=.leaf (.str x)
abbrev bT(b:Bool):Tv:=.leaf (.bl b)
abbrev nT:Tv:=.leaf .non
abbrev P1:=Tv->(Tv->Prop)->Prop
abbrev P2:=Tv->Tv->(Tv->Prop)->Prop
abbrev Pn:=List Tv->(Tv->Prop)->Prop
section
variable{X:Cx}{F:Fm}
def kL(i:Nat):UT:=λρ Q=>match ρ[i]? with
 |some (.va T)=>Q T ρ
 |some (.own Ts)=>Q (.seq false Ts) (ρ.set i (.va (.seq false Ts)))
 |some (.dct kts)=>Q (.dct kts) (ρ.set i (.va (.dct kts)))
 |_=>False
theorem fZ{σ:St}{i:Nat}{x:V}(h:ixv σ i=some x):σ[i]?=some (some x):=by
 unfold ixv at h
 cases q:σ[i]? with
 |none=>rw[q]at h;cases h
 |some o=>rw[q]at h;cases o with
  |none=>cases h
  |some y=>cases h;rfl
theorem zHF{σ:St}{i:Nat}{x:V}(h:σ[i]?=some (some x)):ixv σ i=some x:=by
 unfold ixv;rw[h];rfl
theorem FrOk.fzs{K:W.Frag}{ρ:aH}{σ:St}{H:Hp}{i:Nat}{s:Sl}{a:Addr}{o:HO}{T:Tv}(fr:FrOk K F ρ σ H)(e:ρ[i]?=some s)(m:dA s=true)(q:ixv σ i=some (.ref a))(h:H a=some o)(n:fzb o=true)(ob:Obj)
  (v:VA K (upd H a (.frz ob o)) (.ref a) T):Stp K F σ ρ H (ρ.set i (.va T)) (upd H a (.frz ob o)):=by
 have hi:i<ρ.length:=(List.getElem?_eq_some_iff.mp e).1
 have h0:=(fr.own_at e m q).2
 have hd:=fr.fresh_nodk h0
 have hs:HS H (upd H a (.frz ob o)):=fD h (by cases o<;>first|rfl|exact absurd n Bool.false_ne_true)
 have st:∀b u,b≠a->H b=some u->upd H a (.frz ob o) b=some u:=λb u z e=>by rw[aY z];exact e
 refine⟨⟨fr.d0,⟨λb u e1 n1=>st b u (λz=>by rw[z,h0]at e1;cases e1) (fr.kp.st b u e1 n1),λp c d=>?_⟩,by rw[List.length_set];exact fr.len,λj s' e'=>?_,λj k b s' t' e1 e2 m1 m2 q1 q2=>?_⟩,λb u e1 _ n1=>st b u (λz=>n1 i s e m (by rw[z];exact q)) e1,λj s' e' m'=>?_,λb u e1=>if z:b=a then⟨.frz ob o,z▸aT⟩ else⟨u,st b u z e1⟩⟩
 ·obtain⟨ne,⟨S,k,e1⟩,ns,e2,l⟩:=fr.kp.dkk p c d
  exact⟨ne,⟨S,k,st _ _ (hd p c d).1.symm e1⟩,ns,st _ _ (hd p c d).2.symm e2,l⟩
 ·by_cases z:i=j
  ·subst z
   rw[List.getElem?_set_self hi]at e'
   cases e'
   exact⟨_,q,v⟩
  ·rw[List.getElem?_set_ne z]at e'
   have x:=fr.at_ j s' e'
   cases s' with
   |no=>trivial
   |va T=>obtain⟨y,e1,v⟩:=x;exact⟨y,e1,v.hs hs⟩
   |own Ts=>obtain⟨b,xs,e1,e2,e3,z',p⟩:=x;exact⟨b,xs,e1,st _ _ (λy=>z (fr.ap i j a s _ e e' m rfl q (by rw[e1,y]))) e2,e3,z',p.hs hs⟩
   |dct kts=>obtain⟨b,kvs,e1,e2,e3,n',z',p⟩:=x;exact⟨b,kvs,e1,st _ _ (λy=>z (fr.ap i j a s _ e e' m rfl q (by rw[e1,y]))) e2,e3,n',z',p.hs hs⟩
   |dk=>exact x
 ·by_cases z1:i=j
  ·subst z1;rw[List.getElem?_set_self hi]at e1;cases e1;cases m1
  ·by_cases z2:i=k
   ·subst z2;rw[List.getElem?_set_self hi]at e2;cases e2;cases m2
   ·rw[List.getElem?_set_ne z1]at e1
    rw[List.getElem?_set_ne z2]at e2
    exact fr.ap j k b s' t' e1 e2 m1 m2 q1 q2
 ·by_cases z:i=j
  ·subst z;rw[List.getElem?_set_self hi]at e';cases e';cases m'
  ·rw[List.getElem?_set_ne z]at e';exact⟨s',e',m'⟩
theorem aA(i:Nat){x:Str}{pos:Pos}(hN:X.N[i]?=some x:=by rfl)(hv:Vis X.env.scope x:=by first|exact Or.inl rfl|exact Or.inr (Or.inl rfl)|exact Or.inr (Or.inr rfl))(hd:(x==("__debug__":Str))=false:=by decide)(hcd:(x==("__classdict__":Str))=false:=by decide):
  UE X F (.Name x pos) (kL i):=by
 refine⟨PE.imp (PE.fz (hZ hN hv hd hcd)) ?_⟩
 rintro σ H QQ ⟨ρ,Q,fr,h,k⟩
 unfold kL at h
 split at h
 ·rename_i T e
  obtain⟨y,e1,v⟩:=fr.at_ i _ e
  exact⟨y,fZ e1,.inl (k y T H ρ (Stp.refl fr) v h)⟩
 ·rename_i Ts e
  obtain⟨a,xs,e1,e2,e3,z,p⟩:=fr.at_ i _ e
  refine⟨_,fZ e1,.inr ⟨a,_,rfl,e2,rfl,λob=>?_⟩⟩
  have v:VA X.K (upd H a (.frz ob (.lst xs))) (.ref a) (.seq false Ts):=VA.seq (t:=false) ⟨ob,aT⟩ z (p.hs (fD e2 rfl))
  exact k _ _ _ _ (fr.fzs e rfl e1 e2 rfl ob v) v h
 ·rename_i kts e
  obtain⟨a,kvs,e1,e2,e3,n,z,p⟩:=fr.at_ i _ e
  refine⟨_,fZ e1,.inr ⟨a,_,rfl,e2,rfl,λob=>?_⟩⟩
  have v:VA X.K (upd H a (.frz ob (.dK kvs))) (.ref a) (.dct kts):=VA.dct ⟨ob,aT⟩ n z (p.hs (fD e2 rfl))
  exact k _ _ _ _ (fr.fzs e rfl e1 e2 rfl ob v) v h
 ·exact False.elim h
def uC(T:Tv):UT:=λρ Q=>Q T ρ
theorem oS{e:Expr}{v:V}(h:PE X e (tC v))(f:cN v=true):UE X F e (uC (.leaf v)):=⟨PE.imp h λσ H QQ ⟨ρ,Q,fr,h,k⟩=>k v (.leaf v) H ρ (Stp.refl fr) (.flat f) h⟩
theorem aD{i j pos}:UE X F (.Constant (.int i) j pos) (uC (iT i)):=oS bQ rfl
theorem dD{b j pos}:UE X F (.Constant (.bool b) j pos) (uC (bT b)):=oS zIy rfl
theorem hV{j pos}:UE X F (.Constant .none j pos) (uC nT):=oS zHi rfl
theorem aO{x j pos}:UE X F (.Constant (.str x) j pos) (uC (sT x)):=oS zHf rfl
theorem zFd{x:Str}{v:V}{u:Value}{T:Tv}{pos:Pos}(hg:Gl X x)(hm:X.mg x=some u)(r:RelV v u)(hv:∀H,VA X.K H v T)(hd:(x==("__debug__":Str))=false:=by decide):UE X F (.Name x pos) (uC T):=
 ⟨PE.imp (zM hg hm r hd) λσ H QQ ⟨ρ,Q,fr,h,k⟩=>k v T H ρ (Stp.refl fr) (hv H) h⟩
def pH(K:W.Frag)(r:P2)(r':R2):Prop:=∀x y T U H Q (QQ:VK),VA K H x T->VA K H y U->r T U Q->(∀z W H',Raw K H H' z W->Q W->QQ z H')->r' x y H QQ
def eX(X:Cx)(f:Value->Value->Sem Value)(r:P2):Prop:=∃r',OpR X f r'/\pH X.K r r'
def uOp(r:P2)(ua ub:UT):UT:=λρ Q=>ua ρ λa ρ1=>ub ρ1 λb ρ2=>r a b λc=>Q c ρ2
theorem rW{r:P2}{r':R2}{ua ub:UT}(hr:pH X.K r r')(σ:St)(H:Hp)(QQ:VK)(h:dL X.K F (uOp r ua ub) σ H QQ):tFz (tOp r' (dL X.K F ua) (dL X.K F ub)) σ H QQ:=by
 obtain⟨ρ,Q,fr,h,k⟩:=h
 refine⟨ρ,_,fr,h,λx T H1 ρ1 s1 v1 q1=>⟨ρ1,_,s1.fr,q1,λy U H2 ρ2 s2 v2 q2=>?_⟩⟩
 refine hr x y T U H2 _ _ (v1.hs (s2.hs s1.fr)) v2 q2 λz W H' rw q=>rw.fin s2.fr λH'' s3 v3=>k _ _ _ _ ((s1.trans s2).trans s3) v3 q
variable{a b c:Expr}{ua ub uc:UT}{pos:Pos}
theorem aX{op:Operator}{r:P2}(ho:eX X (binaryOp op) r)(ha:UE X F a ua)(hb:UE X F b ub):UE X F (.BinOp a op b pos) (uOp r ua ub):=by
 obtain⟨r',o,hr⟩:=ho
 exact⟨PE.imp (PE.fz (bX o ha.pe hb.pe)) (rW hr)⟩
theorem zGu{op:CmpOp}{r:P2}(ho:eX X (compareOp op) r)(ha:UE X F a ua)(hb:UE X F b ub)(hm:behindInMarks op b=false):UE X F (.Compare a [op] [b] pos) (uOp r ua ub):=by
 obtain⟨r',o,hr⟩:=ho
 exact⟨PE.imp (PE.fz (zFF o ha.pe hb.pe hm)) (rW hr)⟩
def uB(u:UT):UTt:=λρ Q=>u ρ λT ρ'=>∃b,T=bT b/\Q b ρ'
theorem zAK{e:Expr}{t:TE}{u:UT}(h:PT X e (sU t))(i:∀σ H QQ,dL X.K F u σ H QQ->t σ H QQ):UB X F e (uB u):=⟨PT.imp h λσ H QQ ⟨ρ,Q,fr,h,k⟩=>by
 refine i σ H _ ⟨ρ,_,fr,h,λx T H' ρ' s v q=>?_⟩
 obtain⟨b,rfl,q⟩:=q
 obtain⟨e,_⟩:=v.leafI
 exact⟨b,e,k b H' ρ' s q⟩⟩
def PuR2f(K:W.Frag)(r:P2)(r':R2):Prop:=∀x y T U H Q (QQ:VK),VA K H x T->VA K H y U->r T U Q->(∀z W H',Same H H'->VA K H' z W->Q W->QQ z H')->r' x y H QQ
def PuCmp(X:Cx)(f:Value->Value->Sem Value)(r:P2):Prop:=∃r',OpR X f r'/\PuR2f X.K r r'
theorem PuR2f.raw{K:W.Frag}{r:P2}{r':R2}(h:PuR2f K r r'):pH K r r':=λx y T U H Q QQ vx vy q k=>h x y T U H Q QQ vx vy q λz W H' s v q'=>k z W H' ⟨s,.inl v⟩ q'
theorem PuCmp.op{f:Value->Value->Sem Value}{r:P2}(h:PuCmp X f r):eX X f r:=by
 obtain⟨r',o,h⟩:=h
 exact⟨r',o,h.raw⟩
theorem zEy{r:P2}{r':R2}{ua ub:UT}(hr:PuR2f X.K r r')(σ:St)(H:Hp)(QQ:VK)(h:dL X.K F (uOp r ua ub) σ H QQ):tOp r' (dL X.K F ua) (dL X.K F ub) σ H QQ:=by
 obtain⟨ρ,Q,fr,h,k⟩:=h
 refine⟨ρ,_,fr,h,λx T H1 ρ1 s1 v1 q1=>⟨ρ1,_,s1.fr,q1,λy U H2 ρ2 s2 v2 q2=>?_⟩⟩
 exact hr x y T U H2 _ _ (v1.hs (s2.hs s1.fr)) v2 q2 λz W H' s v q=>k _ _ _ _ ((s1.trans s2).trans (Stp.same s2.fr s)) v q
theorem sG{op:CmpOp}{r:P2}(ho:PuCmp X (compareOp op) r)(ha:UE X F a ua)(hb:UE X F b ub)(hm:behindInMarks op b=false):UB X F (.Compare a [op] [b] pos) (uB (uOp r ua ub)):=by
 obtain⟨r',o,hr⟩:=ho
 exact zAK (rJ o ha.pe hb.pe hm) (zEy hr)
def sH(r r':P2)(ua ub uc:UT):UT:=λρ Q=>ua ρ λa ρ1=>ub ρ1 λb ρ2=>r a b λz=>∃k,z=bT k/\(if k=true then uc ρ2 λc ρ3=>r' b c λw=>Q w ρ3 else Q (bT false) ρ2)
theorem vP{r r':P2}{s s':R2}(hr:PuR2f X.K r s)(hr':PuR2f X.K r' s')(σ:St)(H:Hp)(QQ:VK)(h:dL X.K F (sH r r' ua ub uc) σ H QQ):sJ s s' (dL X.K F ua) (dL X.K F ub) (dL X.K F uc) σ H QQ:=by
 obtain⟨ρ,Q,fr,h,k⟩:=h
 refine⟨ρ,_,fr,h,λx T H1 ρ1 s1 v1 q1=>⟨ρ1,_,s1.fr,q1,λy U H2 ρ2 s2 v2 q2=>?_⟩⟩
 refine hr x y T U H2 _ _ (v1.hs (s2.hs s1.fr)) v2 q2 λz W H3 ss v3 q3=>?_
 obtain⟨b,rfl,q3⟩:=q3
 obtain⟨e,_⟩:=v3.leafI
 have s3:=Stp.same s2.fr ss
 refine⟨b,e,?_⟩
 cases b with
 |false=>
  rw[if_neg Bool.false_ne_true]at q3 ⊢
  exact k _ _ _ _ ((s1.trans s2).trans s3) (.flat rfl) q3
 |true=>
  rw[if_pos rfl]at q3 ⊢
  refine⟨ρ2,_,s3.fr,q3,λz' W' H4 ρ4 s4 v4 q4=>?_⟩
  exact hr' y z' U W' H4 _ _ ((v2.hs (s3.hs s2.fr)).hs (s4.hs s3.fr)) v4 q4 λz5 W5 H5 s5 v5 q5=>k _ _ _ _ (((s1.trans s2).trans s3).trans (s4.trans (Stp.same s4.fr s5))) v5 q5
theorem zD1{op op':CmpOp}{r r':P2}(ho:PuCmp X (compareOp op) r)(ho':PuCmp X (compareOp op') r')(ha:UE X F a ua)(hb:UE X F b ub)(hc:UE X F c uc)(hm:lastMarks [op,op'] [b,c]=false:=by with_unfolding_all rfl):
  UE X F (.Compare a [op,op'] [b,c] pos) (sH r r' ua ub uc):=by
 obtain⟨s,o,hr⟩:=ho
 obtain⟨s',o',hr'⟩:=ho'
 exact⟨PE.imp (zEo o o' ha.pe hb.pe hc.pe hm) (vP hr hr')⟩
theorem xL{op op':CmpOp}{r r':P2}(ho:PuCmp X (compareOp op) r)(ho':PuCmp X (compareOp op') r')(ha:UE X F a ua)(hb:UE X F b ub)(hc:UE X F c uc)(hm:lastMarks [op,op'] [b,c]=false:=by with_unfolding_all rfl):
  UB X F (.Compare a [op,op'] [b,c] pos) (uB (sH r r' ua ub uc)):=by
 obtain⟨s,o,hr⟩:=ho
 obtain⟨s',o',hr'⟩:=ho'
 exact zAK (zEh o o' ha.pe hb.pe hc.pe hm) (vP hr hr')
def zBu(X:Cx)(f:Value->Sem Value)(r:P1):Prop:=∃r',UnR X f r'/\∀x T H Q (QQ:VK),VA X.K H x T->r T Q->(∀z W,VA X.K H z W->Q W->QQ z H)->r' x H QQ
def uUn(r:P1)(ua:UT):UT:=λρ Q=>ua ρ λa ρ1=>r a λc=>Q c ρ1
theorem zAI{op:UnaryOp}{r:P1}(ho:zBu X (unaryOp op) r)(ha:UE X F a ua):UE X F (.UnaryOp op a pos) (uUn r ua):=by
 obtain⟨r',o,hr⟩:=ho
 refine⟨PE.imp (zAQ o ha.pe) ?_⟩
 rintro σ H QQ ⟨ρ,Q,fr,h,k⟩
 exact⟨ρ,_,fr,h,λx T H1 ρ1 s1 v1 q1=>hr x T H1 _ _ v1 q1 λz W v q=>k _ _ _ _ s1 v q⟩
def zBm:P1
 |.leaf (.int i),Q=>Q (iT (-i))
 |_,_=>False
theorem zAu:zBu X (unaryOp .USub) zBm:=⟨_,zAj,λx T H Q QQ v h k=>by
 unfold zBm at h
 split at h
 ·obtain⟨rfl,_⟩:=v.leafI
  exact⟨_,rfl,k _ _ (.flat rfl) h⟩
 ·exact False.elim h⟩
def zH7(ua ub:UT):UT:=λρ Q=>ua ρ λa ρ1=>∃c,a=bT c/\if c=true then ub ρ1 Q else Q (bT false) ρ1
theorem gB{op}{u:UT}(h:UE X F a u):UE X F (.BoolOp op [a] pos) u:=⟨zHh h.pe⟩
theorem dR{rest:List Expr}(ha:UE X F a ua)(hb:UE X F (.BoolOp .And (b::rest) pos) ub):UE X F (.BoolOp .And (a::b::rest) pos) (zH7 ua ub):=⟨PE.imp (zHl ha.pe hb.pe) λσ H QQ ⟨ρ,Q,fr,h,k⟩=>by
 refine⟨ρ,_,fr,h,λx T H1 ρ1 s1 v1 q1=>?_⟩
 obtain⟨c,rfl,q1⟩:=q1
 obtain⟨e,_⟩:=v1.leafI
 refine⟨c,e,?_⟩
 cases c with
 |false=>rw[if_neg Bool.false_ne_true]at q1 ⊢;exact k _ _ _ _ s1 (.flat rfl) q1
 |true=>rw[if_pos rfl]at q1 ⊢;exact⟨ρ1,_,s1.fr,q1,λy U H2 ρ2 s2 v2 q2=>k _ _ _ _ (s1.trans s2) v2 q2⟩⟩
def zI4(t u:UTt):UTt:=λρ Q=>t ρ λc ρ1=>if c=true then u ρ1 Q else Q false ρ1
def uOr(t u:UTt):UTt:=λρ Q=>t ρ λc ρ1=>if c=true then Q true ρ1 else u ρ1 Q
def zI1(t:UTt):UTt:=λρ Q=>t ρ λc ρ1=>Q (!c) ρ1
variable{ta tb:UTt}{rest:List Expr}
theorem yS(ha:UB X F a ta):UW X F (.BoolOp .And [a] pos) ta:=⟨zFw ha.pt⟩
theorem dC(ha:UB X F a ta):UW X F (.BoolOp .Or [a] pos) ta:=⟨zGZ ha.pt⟩
theorem sF(ha:UB X F a ta)(hb:UW X F (.BoolOp .And (b::rest) pos) tb):UW X F (.BoolOp .And (a::b::rest) pos) (zI4 ta tb):=⟨PW.imp (zG0 ha.pt hb.pw) λσ H QQ ⟨ρ,Q,fr,h,k⟩=>by
 refine⟨ρ,_,fr,h,λc H1 ρ1 s1 q1=>?_⟩
 cases c with
 |false=>rw[if_neg Bool.false_ne_true]at q1 ⊢;exact k _ _ _ s1 q1
 |true=>rw[if_pos rfl]at q1 ⊢;exact⟨ρ1,_,s1.fr,q1,λy H2 ρ2 s2 q2=>k _ _ _ (s1.trans s2) q2⟩⟩
theorem cU(ha:UB X F a ta)(hb:UW X F (.BoolOp .Or (b::rest) pos) tb):UW X F (.BoolOp .Or (a::b::rest) pos) (uOr ta tb):=⟨PW.imp (zIv ha.pt hb.pw) λσ H QQ ⟨ρ,Q,fr,h,k⟩=>by
 refine⟨ρ,_,fr,h,λc H1 ρ1 s1 q1=>?_⟩
 cases c with
 |true=>rw[if_pos rfl]at q1 ⊢;exact k _ _ _ s1 q1
 |false=>rw[if_neg Bool.false_ne_true]at q1 ⊢;exact⟨ρ1,_,s1.fr,q1,λy H2 ρ2 s2 q2=>k _ _ _ (s1.trans s2) q2⟩⟩
theorem cW{e:Expr}{t:UTt}(h:UW X F e t):UB X F e t:=⟨h.pw.pt⟩
theorem eN(ha:UB X F a ta):UB X F (.UnaryOp .Not a pos) (zI1 ta):=⟨PT.imp (zG5 ha.pt) λσ H QQ ⟨ρ,Q,fr,h,k⟩=>⟨ρ,_,fr,h,λc H1 ρ1 s1 q1=>k _ _ _ s1 q1⟩⟩
theorem bI{e:Expr}{u:UT}(h:UE X F e u)(he:∀whole,isTrue e X.env whole=(do let v <- whole;standAt e.pos;holding [v] (truthy v)):=by intro _;rfl):UB X F e (uB u):=⟨PT.imp (zG4 h.pe he) λσ H QQ ⟨ρ,Q,fr,h,k⟩=>by
 refine⟨ρ,_,fr,h,λx T H' ρ' s v q=>?_⟩
 obtain⟨b,rfl,q⟩:=q
 obtain⟨e,_⟩:=v.leafI
 exact⟨b,e,k b H' ρ' s q⟩⟩
def iE:UTa:=λρ Q=>Q [] ρ
def lR(u:UT)(t:UTa):UTa:=λρ Q=>u ρ λT ρ1=>t ρ1 λas ρ2=>Q (.va T::as) ρ2
def uDk(i:Nat)(t:UTa):UTa:=λρ Q=>ρ[i]?=some .dk/\t ρ λas ρ2=>Q (.dk::as) ρ2
theorem aC:UA X F [] iE:=⟨PA.imp cT λσ H QQ ⟨ρ,Q,fr,h,k⟩=>k [] [] H ρ (Stp.refl fr) .nil h⟩
theorem aB{e:Expr}{es:List Expr}{u:UT}{t:UTa}(ha:UE X F e u)(hr:UA X F es t)(h:cQ e=false:=by rfl):UA X F (e::es) (lR u t):=⟨PA.imp (cJ ha.pe hr.pa h) λσ H QQ ⟨ρ,Q,fr,h,k⟩=>by
 refine⟨ρ,_,fr,h,λx T H1 ρ1 s1 v1 q1=>⟨ρ1,_,s1.fr,q1,λxs as H2 ρ2 s2 p2 q2=>?_⟩⟩
 exact k _ _ _ _ (s1.trans s2) (.cons (b:=Ar.va T) (v1.hs (s2.hs s1.fr)) p2) q2⟩
theorem bD(i:Nat){x:Str}{pos:Pos}{es:List Expr}{t:UTa}(hr:UA X F es t)(hN:X.N[i]?=some x:=by rfl)(hv:Vis X.env.scope x:=by first|exact Or.inl rfl|exact Or.inr (Or.inl rfl)|exact Or.inr (Or.inr rfl))(hd:(x==("__debug__":Str))=false:=by decide)(hcd:(x==("__classdict__":Str))=false:=by decide):
  UA X F (.Name x pos::es) (uDk i t):=⟨PA.imp (cJ (hZ hN hv hd hcd) hr.pa rfl) λσ H QQ ⟨ρ,Q,fr,⟨e,h⟩,k⟩=>by
 obtain⟨p,c,ed,ex⟩:=fr.at_ i _ e
 refine⟨_,fZ ex,ρ,_,fr,h,λxs as H2 ρ2 s2 p2 q2=>?_⟩
 exact k _ _ _ _ s2 (.cons (b:=Ar.dk) ⟨p,c,ed,rfl⟩ p2) q2⟩
def vsK:List Ar->(List Tv->Prop)->Prop
 |[],Q=>Q []
 |.va T::as,Q=>vsK as λTs=>Q (T::Ts)
 |.dk::_,_=>False
theorem fQ:∀{as:List Ar}{Q:List Tv->Prop},vsK as Q->∃Ts,as=Ts.map Ar.va/\Q Ts
 |[],_,h=>⟨[],rfl,h⟩
 |.va T::as,Q,h=>by
  obtain⟨Ts,rfl,q⟩:=fQ (as:=as) (Q:=λTs=>Q (T::Ts)) h
  exact⟨T::Ts,rfl,q⟩
 |.dk::_,_,h=>False.elim h
def uVs(ua:UTa):UTl:=λρ Q=>ua ρ λas ρ1=>vsK as λTs=>Q Ts ρ1
theorem fR{K:W.Frag}{dk:Option (Addr×Addr)}{H:Hp}:∀{xs:List V}{Ts:List Tv},Paired (mF K dk H) xs (Ts.map Ar.va)->VAs K H xs Ts
 |[],[],_=>.nil
 |_::_,_::_,.cons r t=>.cons r (fR t)
def zI0(ua:UTa):UT:=λρ Q=>uVs ua ρ λTs ρ1=>Ts.length<=100000/\Q (.seq true Ts) ρ1
def zI2(ua:UTa):UTl:=λρ Q=>uVs ua ρ λTs ρ1=>Ts.length<=100000/\Q Ts ρ1
theorem fO{n:Nat}(h:n<=100000):n<=sizeLine:=by rw[sizeLine_eq];omega
theorem rV{n:Nat}(h:n<100000):n<sizeLine:=by rw[sizeLine_eq];omega
theorem cC{es:List Expr}{t:UTa}{x1}(h:UA X F es t):UE X F (.Tuple es x1 pos) (zI0 t):=⟨PE.imp (zHe h.pa) λσ H QQ ⟨ρ,Q,fr,h,k⟩=>by
 refine⟨ρ,_,fr,h,λxs as H1 ρ1 s1 p1 q1=>?_⟩
 obtain⟨Ts,rfl,z,q⟩:=fQ q1
 have p:=fR p1
 have l:xs.length=Ts.length:=Paired.length p
 refine⟨fO (by omega),λa n=>?_⟩
 have r:=Raw.tup (K:=X.K) n z p
 exact k _ _ _ _ (s1.trans (Stp.same s1.fr r.1)) (VA.seq (t:=true) (SqT.of aT) z (p.hs (gG n))) q⟩
theorem bS{es:List Expr}{t:UTa}(h:UA X F es t):UL X F (.List es pos) (zI2 t):=⟨PE.imp (zAw h.pa) λσ H QQ ⟨ρ,Q,fr,h,k⟩=>by
 refine⟨ρ,_,fr,h,λxs as H1 ρ1 s1 p1 q1=>?_⟩
 obtain⟨Ts,rfl,z,q⟩:=fQ q1
 have p:=fR p1
 have l:xs.length=Ts.length:=Paired.length p
 refine⟨fO (by omega),λa n=>?_⟩
 exact k _ _ _ _ _ (s1.trans (Stp.same s1.fr (cH n))) (s1.non n) aT z (p.hs (gG n)) q⟩
end
end L2
namespace L2
open PySem PySem.Spec PyProof.Rows WordM
theorem FrOk.fzn{K:W.Frag}{F:Fm}{ρ:aH}{σ:St}{H:Hp}{a:Addr}{o:HO}(fr:FrOk K F ρ σ H)(h:H a=some o)(n:fzb o=true)(h0:F.H0 a=none)(na:∀(i:Nat) (s:Sl),ρ[i]?=some s->dA s=true->ixv σ i≠some (.ref a))(o':HO):FrOk K F ρ σ (upd H a o'):=by
 have hd:=fr.fresh_nodk h0
 have hs:HS H (upd H a o'):=fD h (by cases o<;>first|rfl|exact absurd n Bool.false_ne_true)
 have st:∀b u,b≠a->H b=some u->upd H a o' b=some u:=λb u z e=>by rw[aY z];exact e
 refine⟨fr.d0,⟨λb u e1 n1=>st b u (λz=>by rw[z,h0]at e1;cases e1) (fr.kp.st b u e1 n1),λp c d=>?_⟩,fr.len,λj s' e'=>?_,fr.ap⟩
 ·obtain⟨ne,⟨S,k,e1⟩,ns,e2,l⟩:=fr.kp.dkk p c d
  exact⟨ne,⟨S,k,st _ _ (hd p c d).1.symm e1⟩,ns,st _ _ (hd p c d).2.symm e2,l⟩
 ·have x:=fr.at_ j s' e'
  cases s' with
  |no=>trivial
  |va T=>obtain⟨y,e1,v⟩:=x;exact⟨y,e1,v.hs hs⟩
  |own Ts=>obtain⟨b,xs,e1,e2,e3,z',p⟩:=x;exact⟨b,xs,e1,st _ _ (λy=>na j _ e' rfl (by rw[e1,y])) e2,e3,z',p.hs hs⟩
  |dct kts=>obtain⟨b,kvs,e1,e2,e3,n',z',p⟩:=x;exact⟨b,kvs,e1,st _ _ (λy=>na j _ e' rfl (by rw[e1,y])) e2,e3,n',z',p.hs hs⟩
  |dk=>exact x
theorem Stp.notown{K:W.Frag}{F:Fm}{ρ ρ1:aH}{σ:St}{H H1:Hp}{a:Addr}(s:Stp K F σ ρ H ρ1 H1)(fr:FrOk K F ρ σ H)(n:H a=none):∀(i:Nat) (s:Sl),ρ1[i]?=some s->dA s=true->ixv σ i≠some (.ref a):=λi s' e m q=>by
 obtain⟨s0,e0,m0⟩:=s.sub i s' e m
 obtain⟨⟨o,e1,_⟩,_⟩:=fr.own_at e0 m0 q
 rw[n]at e1;cases e1
theorem Stp.put{K:W.Frag}{F:Fm}{ρ ρ1:aH}{σ:St}{H H1:Hp}{a:Addr}{o:HO}(s:Stp K F σ ρ H ρ1 H1)(fr:FrOk K F ρ σ H)(n:H a=none)(e:H1 a=some o)(m:fzb o=true)(o':HO):Stp K F σ ρ H ρ1 (upd H1 a o'):=
 ⟨s.fr.fzn e m (fr.none0 n) (s.notown fr n) o',λb u q d n1=>by rw[aY (cS q n)];exact s.st b u q d n1,s.sub,λb u q=>by rw[aY (cS q n)];exact s.tr b u q⟩
section
variable{X:Cx}{F:Fm}{e:Expr}{pos:Pos}
def uL(u:UTl):UT:=λρ Q=>u ρ λTs ρ1=>Q (.seq false Ts) ρ1
theorem aP{u:UTl}(h:UL X F e u):UE X F e (uL u):=⟨PE.imp (PE.fz h.pe) λσ H QQ ⟨ρ,Q,fr,h,k⟩=>⟨ρ,_,fr,h,λa xs Ts H' ρ' s n e z p q=>
 .inr ⟨a,_,rfl,e,rfl,λob=>k _ _ _ _ (s.put fr n e rfl (.frz ob (.lst xs))) (VA.seq (t:=false) ⟨ob,aT⟩ z (p.hs (fD e rfl))) q⟩⟩⟩
def zBw(K:W.Frag)(r:Pn)(r':List V->Hp->VK->Prop):Prop:=∀xs Ts H Q (QQ:VK),VAs K H xs Ts->r Ts Q->(∀z W H',Raw K H H' z W->Q W->QQ z H')->r' xs H QQ
def gH(X:Cx)(f:Value)(r:Pn):Prop:=∃r',CallR X f r'/\zBw X.K r r'
def uCB(r:Pn)(ua:UTa):UT:=λρ Q=>uVs ua ρ λTs ρ1=>r Ts λW=>Q W ρ1
theorem zR{r:Pn}{r':List V->Hp->VK->Prop}{ua:UTa}(hr:zBw X.K r r')(σ:St)(H:Hp)(QQ:VK)(h:dL X.K F (uCB r ua) σ H QQ):tFz (tCB r' (lX X.K F ua)) σ H QQ:=by
 obtain⟨ρ,Q,fr,h,k⟩:=h
 refine⟨ρ,_,fr,h,λxs as H1 ρ1 s1 p1 q1=>?_⟩
 obtain⟨Ts,rfl,q⟩:=fQ q1
 exact hr xs Ts H1 _ _ (fR p1) q λz W H' rw q=>rw.fin s1.fr λH'' s3 v3=>k _ _ _ _ (s1.trans s3) v3 q
variable{es:List Expr}{x:Str}{p:Pos}{ua:UTa}
theorem bW{id:String}{r:Pn}(hc:gH X (.builtin id) r)(hg:Gl X x)(hm:X.mg x=none)(hv:bootBuiltins x=some (.builtin id))(ha:UA X F (e::es) ua)(hn:x≠"__name__":=by decide)(hdb:(x==("__debug__":Str))=false:=by decide)
  (he:starEach (e::es) X.env=(false,eval e X.env)::starEach es X.env:=by rfl) (hpl:(backTo pos (starEach es X.env)).any (·.1)=false:=by rfl):UE X F (.Call (.Name x p) (e::es) [] pos) (uCB r ua):=by
 obtain⟨r',o,hr⟩:=hc
 exact⟨PE.imp (PE.fz (gZ o hg hm hv ha.pa hn hdb he hpl)) (zR hr)⟩
theorem gW{id:String}{r:Pn}(hc:gH X (.type id) r)(hg:Gl X x)(hm:X.mg x=none)(hv:bootBuiltins x=some (.type id))(ha:UA X F (e::es) ua)(hn:x≠"__name__":=by decide)(hdb:(x==("__debug__":Str))=false:=by decide)
  (he:starEach (e::es) X.env=(false,eval e X.env)::starEach es X.env:=by rfl) (hpl:(backTo pos (starEach es X.env)).any (·.1)=false:=by rfl):UE X F (.Call (.Name x p) (e::es) [] pos) (uCB r ua):=by
 obtain⟨r',o,hr⟩:=hc
 exact⟨PE.imp (PE.fz (iK o hg hm hv ha.pa hn hdb he hpl)) (zR hr)⟩
def zBx(K:W.Frag)(r:List Tv->(List Tv->Prop)->Prop)(r':List V->Hp->VK->Prop):Prop:=∀xs Ts H Q (QQ:VK),VAs K H xs Ts->r Ts Q->(∀a ys Us H',Same H H'->H a=none->H' a=some (.lst ys)->Us.length<=100000->VAs K H' ys Us->Q Us->QQ (.ref a) H')->r' xs H QQ
def nU(X:Cx)(f:Value)(r:List Tv->(List Tv->Prop)->Prop):Prop:=∃r',CallR X f r'/\zBx X.K r r'
def uCL(r:List Tv->(List Tv->Prop)->Prop)(ua:UTa):UTl:=λρ Q=>uVs ua ρ λTs ρ1=>r Ts λUs=>Q Us ρ1
theorem zQ{r:List Tv->(List Tv->Prop)->Prop}{r':List V->Hp->VK->Prop}{ua:UTa}(hr:zBx X.K r r')(σ:St)(H:Hp)(QQ:VK)(h:lW X.K F (uCL r ua) σ H QQ):tCB r' (lX X.K F ua) σ H QQ:=by
 obtain⟨ρ,Q,fr,h,k⟩:=h
 refine⟨ρ,_,fr,h,λxs as H1 ρ1 s1 p1 q1=>?_⟩
 obtain⟨Ts,rfl,q⟩:=fQ q1
 exact hr xs Ts H1 _ _ (fR p1) q λa ys Us H' sm n e z p q=>k _ _ _ _ _ (s1.trans (Stp.same s1.fr sm)) (s1.non n) e z p q
theorem mY{id:String}{r:List Tv->(List Tv->Prop)->Prop}(hc:nU X (.builtin id) r)(hg:Gl X x)(hm:X.mg x=none)(hv:bootBuiltins x=some (.builtin id))(ha:UA X F (e::es) ua)(hn:x≠"__name__":=by decide)(hdb:(x==("__debug__":Str))=false:=by decide)
  (he:starEach (e::es) X.env=(false,eval e X.env)::starEach es X.env:=by rfl) (hpl:(backTo pos (starEach es X.env)).any (·.1)=false:=by rfl):UL X F (.Call (.Name x p) (e::es) [] pos) (uCL r ua):=by
 obtain⟨r',o,hr⟩:=hc
 exact⟨PE.imp (gZ o hg hm hv ha.pa hn hdb he hpl) (zQ hr)⟩
theorem pW{id:String}{r:List Tv->(List Tv->Prop)->Prop}(hc:nU X (.type id) r)(hg:Gl X x)(hm:X.mg x=none)(hv:bootBuiltins x=some (.type id))(ha:UA X F (e::es) ua)(hn:x≠"__name__":=by decide)(hdb:(x==("__debug__":Str))=false:=by decide)
  (he:starEach (e::es) X.env=(false,eval e X.env)::starEach es X.env:=by rfl) (hpl:(backTo pos (starEach es X.env)).any (·.1)=false:=by rfl):UL X F (.Call (.Name x p) (e::es) [] pos) (uCL r ua):=by
 obtain⟨r',o,hr⟩:=hc
 exact⟨PE.imp (iK o hg hm hv ha.pa hn hdb he hpl) (zQ hr)⟩
abbrev PSp:=List Ar->(Tv->Prop)->Prop
def tG(K:W.Frag)(psp:PSp):Sp:=λvs H Q _=>∃dk as R,(∀p c,dk=some (p,c)->DeckAt H p c)/\Paired (mF K dk H) vs as/\psp as R/\∀x T H',Kp dk H H'->VA K H' x T->R T->Q x H'
def aE(P:Program)(w:World)(K:W.Frag)(mg:Str->Option Value)(base:Heap)(k:Nat)(x:Str)(ps:List Str)(psp:PSp):Prop:=Good P w K mg base k x ps (tG K psp)
def kE(psp:PSp)(ua:UTa):UT:=λρ Q=>ua ρ λas ρ1=>psp as λW=>Q W ρ1
theorem zDu{psp:PSp}{ua:UTa}(σ:St)(H:Hp)(QQ:VK)(h:dL X.K F (kE psp ua) σ H QQ):kF (tG X.K psp) [] E0 (lX X.K F ua) σ H QQ:=by
 obtain⟨ρ,Q,fr,h,k⟩:=h
 refine⟨ρ,_,fr,h,λxs as H1 ρ1 s1 p1 q1=>?_⟩
 show tG X.K psp (xs++[]) H1 QQ E0
 rw[List.append_nil]
 exact⟨F.dk,as,_,s1.fr.kp.dkk,p1,q1,λz W H' kp v q=>k _ _ _ _ (s1.trans (Stp.call s1.fr kp)) v q⟩
theorem zH2{k:Nat}{ps:List Str}{psp:PSp}(G:aE X.prog X.w X.K X.mg X.base k x ps psp)(hr:Room k X.A)(hg:Gl X x)(ha:UA X F (e::es) ua)(hdb:(x==("__debug__":Str))=false:=by decide)
  (hst:cQ e=false:=by rfl) (hpl:(backTo pos (starEach es X.env)).any (·.1)=false:=by rfl):UE X F (.Call (.Name x p) (e::es) [] pos) (kE psp ua):=
 ⟨PE.imp (lU G hr hg ha.pa hdb hst hpl) zDu⟩
theorem zAl{k:Nat}{ps:List Str}{psp:PSp}(G:aE X.prog X.w X.K X.mg X.base k x ps psp)(hr:Room k X.A)(hg:Gl X x)(hdb:(x==("__debug__":Str))=false:=by decide):UE X F (.Call (.Name x p) [] [] pos) (kE psp iE):=
 ⟨PE.imp (zHj G hr hg hdb) λσ H QQ ⟨ρ,Q,fr,h,k⟩=>⟨F.dk,[],_,fr.kp.dkk,.nil,h,λz W H' kp v q=>k _ _ _ _ (Stp.call fr kp) v q⟩⟩
def zBy(X:Cx)(r:P2):Prop:=∃r',IxR X r'/\pH X.K r r'
variable{a b:Expr}{va vb:UT}
theorem zH1{r:P2}(ho:zBy X r)(ha:UE X F a va)(hb:UE X F b vb)(hs:nV b:=by intro _ _;rfl):UE X F (.Subscript a b pos) (uOp r va vb):=by
 obtain⟨r',o,hr⟩:=ho
 exact⟨PE.imp (PE.fz (gJ o ha.pe hb.pe hs)) (rW hr)⟩
abbrev UTo:=aH->(Option Int->aH->Prop)->Prop
def zIJ(K:W.Frag)(F:Fm)(u:UTo):TO:=λσ H QQ=>∃ρ Q,FrOk K F ρ σ H/\u ρ Q/\∀o H' ρ',Stp K F σ ρ H ρ' H'->Q o ρ'->QQ o H'
structure UO (X:Cx) (F:Fm) (e:Option Expr) (u:UTo):Prop where
 po:PO X e (zIJ X.K F u)
theorem PO.imp{e:Option Expr}{t t':TO}(h:PO X e t)(i:∀σ H Q,t' σ H Q->t σ H Q):PO X e t':=λpins s σ H Q I q=>h pins s σ H Q I (i σ H Q q)
def uoN:UTo:=λρ Q=>Q none ρ
def uoS(u:UT):UTo:=λρ Q=>u ρ λT ρ1=>∃i,T=iT i/\Q (some i) ρ1
theorem hE:UO X F none uoN:=⟨PO.imp zH λσ H QQ ⟨ρ,Q,fr,h,k⟩=>k _ _ _ (Stp.refl fr) h⟩
theorem hC{u:UT}(h:UE X F e u):UO X F (some e) (uoS u):=⟨PO.imp (zG h.pe) λσ H QQ ⟨ρ,Q,fr,h,k⟩=>⟨ρ,_,fr,h,λx T H1 ρ1 s1 v1 q1=>by
 obtain⟨i,rfl,q⟩:=q1
 exact⟨i,v1.leafI.1,k _ _ _ s1 q⟩⟩⟩
abbrev PSl:=Tv->Option Int->Option Int->(Tv->Prop)->Prop
def zBv(X:Cx)(r:PSl):Prop:=∃r',SlR X r'/\∀x T lo hi H Q (QQ:VK),VA X.K H x T->r T lo hi Q->(∀z W H',Raw X.K H H' z W->Q W->QQ z H')->r' x lo hi H QQ
def uSl(r:PSl)(u:UT)(lo hi:UTo):UT:=λρ Q=>u ρ λT ρ1=>lo ρ1 λl ρ2=>hi ρ2 λh ρ3=>r T l h λW=>Q W ρ3
theorem gY{r:PSl}{lo hi:Option Expr}{ul uh:UTo}{p2:Pos}(ho:zBv X r)(ha:UE X F a va)(hl:UO X F lo ul)(hh:UO X F hi uh):UE X F (.Subscript a (.Slice lo hi none p2) pos) (uSl r va ul uh):=by
 obtain⟨r',o,hr⟩:=ho
 refine⟨PE.imp (PE.fz (xU o ha.pe hl.po hh.po)) ?_⟩
 rintro σ H QQ ⟨ρ,Q,fr,h,k⟩
 refine⟨ρ,_,fr,h,λx T H1 ρ1 s1 v1 q1=>⟨ρ1,_,s1.fr,q1,λl H2 ρ2 s2 q2=>⟨ρ2,_,s2.fr,q2,λu H3 ρ3 s3 q3=>?_⟩⟩⟩
 exact hr x T l u H3 _ _ ((v1.hs (s2.hs s1.fr)).hs (s3.hs s2.fr)) q3 λz W H' rw q=>rw.fin s3.fr λH'' s4 v4=>k _ _ _ _ ((s1.trans s2).trans (s3.trans s4)) v4 q
end
structure PEnds where
 nx:aH->Prop
 rt:Tv->Prop
 bk:aH->Prop:=λ_=>False
 ct:aH->Prop:=λ_=>False
abbrev UTs:=PEnds->aH->Prop
def kH(K:W.Frag)(F:Fm)(u:UTs):TS:=λD σ H=>∃ρ P,FrOk K F ρ σ H/\u P ρ/\(∀σ' H' ρ',FrOk K F ρ' σ' H'->HS H H'->P.nx ρ'->D.nx σ' H')/\(∀x T H',Kp F.dk F.H0 H'->VA K H' x T->P.rt T->D.rt x H') /\
 (∀σ' H' ρ',FrOk K F ρ' σ' H'->HS H H'->P.bk ρ'->D.bk σ' H')/\∀σ' H' ρ',FrOk K F ρ' σ' H'->HS H H'->P.ct ρ'->D.ct σ' H'
structure US (X:Cx) (F:Fm) (st:Stmt) (u:UTs):Prop where
 ps:PS X st (kH X.K F u)
structure USs (X:Cx) (F:Fm) (st:List Stmt) (u:UTs):Prop where
 ps:PSs X st (kH X.K F u)
theorem PS.imp{X:Cx}{st:Stmt}{t t':TS}(h:PS X st t)(i:∀D σ H,t' D σ H->t D σ H):PS X st t':=λpins s σ H D I q=>h pins s σ H D I (i D σ H q)
theorem PSs.imp{X:Cx}{st:List Stmt}{t t':TS}(h:PSs X st t)(i:∀D σ H,t' D σ H->t D σ H):PSs X st t':=λpins s σ H D I q=>h pins s σ H D I (i D σ H q)
section
variable{X:Cx}{F:Fm}{e:Expr}{pos:Pos}{st:Stmt}{rest:List Stmt}{u:UT}
def zA7:UTs:=λP ρ=>P.nx ρ
def zA5(s t:UTs):UTs:=λP ρ=>s {P with nx:=λρ'=>t P ρ'} ρ
theorem aU:USs X F [] zA7:=⟨PSs.imp jU λD σ H ⟨ρ,P,fr,h,k1,_⟩=>k1 σ H ρ fr (HS.refl _) h⟩
theorem aJ{s:UTs}(h:US X F st s):USs X F [st] s:=⟨iP h.ps⟩
theorem aG{s t:UTs}(h:US X F st s)(hr:USs X F rest t):USs X F (st::rest) (zA5 s t):=⟨PSs.imp (eB h.ps hr.ps) λD σ H ⟨ρ,P,fr,h,k1,k2,k3,k4⟩=>by
 refine⟨ρ,_,fr,h,λσ' H' ρ' fr' hs q=>?_,k2,k3,k4⟩
 exact⟨ρ',P,fr',q,λσ2 H2 ρ2 f2 h2 q2=>k1 _ _ _ f2 (hs.trans h2) q2,k2,λσ2 H2 ρ2 f2 h2 q2=>k3 _ _ _ f2 (hs.trans h2) q2,λσ2 H2 ρ2 f2 h2 q2=>k4 _ _ _ f2 (hs.trans h2) q2⟩⟩
def zA6(u:UT):UTs:=λP ρ=>u ρ λT _=>P.rt T
theorem aM(h:UE X F e u):US X F (.Return (some e) pos) (zA6 u):=⟨PS.imp (iQ h.pe) λD σ H ⟨ρ,P,fr,h,_,k2,_⟩=>⟨ρ,_,fr,h,λx T H' ρ' s v q=>k2 x T H' s.fr.kp v q⟩⟩
def sIf(t:UTt)(s r:UTs):UTs:=λP ρ=>t ρ λb ρ1=>if b=true then s P ρ1 else r P ρ1
theorem aV{c:Expr}{a b:List Stmt}{t:UTt}{s r:UTs}(hc:UB X F c t)(ha:USs X F a s)(hb:USs X F b r):US X F (.If c a b pos) (sIf t s r):=⟨PS.imp (lT hc.pt ha.ps hb.ps) λD σ H ⟨ρ,P,fr,h,k1,k2,k3,k4⟩=>by
 refine⟨ρ,_,fr,h,λb H1 ρ1 s1 q1=>?_⟩
 have hs:=s1.hs fr
 have fin:∀{v:UTs},v P ρ1->kH X.K F v D σ H1:=λq=>⟨ρ1,P,s1.fr,q,λσ2 H2 ρ2 f2 h2 q2=>k1 _ _ _ f2 (hs.trans h2) q2,k2,λσ2 H2 ρ2 f2 h2 q2=>k3 _ _ _ f2 (hs.trans h2) q2,λσ2 H2 ρ2 f2 h2 q2=>k4 _ _ _ f2 (hs.trans h2) q2⟩
 cases b with
 |true=>exact aZ (fin (by rw[if_pos rfl]at q1;exact q1))
 |false=>exact aK (fin (by rw[if_neg Bool.false_ne_true]at q1;exact q1))⟩
def zAM(u:UT):UTs:=λP ρ=>u ρ λ_ ρ1=>P.nx ρ1
theorem fA(h:UE X F e u)(hs:swapsWith e none pos.line X.env=pure false:=by rfl):US X F (.Expr e pos) (zAM u):=⟨PS.imp (zF h.pe hs) λD σ H ⟨ρ,P,fr,h,k1,_⟩=>⟨ρ,_,fr,h,λx T H' ρ' s v q=>k1 _ _ _ s.fr (s.hs fr) q⟩⟩
theorem FrOk.set{K:W.Frag}{ρ:aH}{σ:St}{H:Hp}{i:Nat}{s:Sl}{x:V}(fr:FrOk K F ρ σ H)(v:i<ρ.length->uN K F H (some x) s)(na:dA s=true->∀a,x=.ref a->∀(j:Nat) (t:Sl),ρ[j]?=some t->dA t=true->ixv σ j≠some (.ref a)):FrOk K F (ρ.set i s) (σ.set i (some x)) H:=by
 have ne:∀j,i≠j->ixv (σ.set i (some x)) j=ixv σ j:=λj z=>by unfold ixv;rw[List.getElem?_set_ne z]
 have self:∀(h:i<ρ.length),ixv (σ.set i (some x)) i=some x:=λh=>by unfold ixv;rw[List.getElem?_set_self (by rw[<-fr.len];exact h)];rfl
 have get:∀(j:Nat) (t:Sl),(ρ.set i s)[j]?=some t->(i=j/\i<ρ.length/\t=s)\/(i≠j/\ρ[j]?=some t):=λj t e=>by
  by_cases z:i=j
  ·subst z
   have hi:i<ρ.length:=by
    have:=(List.getElem?_eq_some_iff.mp e).1
    rwa[List.length_set]at this
   rw[List.getElem?_set_self hi]at e
   exact .inl ⟨rfl,hi,(Option.some.inj e).symm⟩
  ·rw[List.getElem?_set_ne z]at e;exact .inr ⟨z,e⟩
 refine⟨fr.d0,fr.kp,by rw[List.length_set,List.length_set];exact fr.len,λj t e=>?_,λj k a t t' e1 e2 m1 m2 q1 q2=>?_⟩
 ·rcases get j t e with⟨rfl,hi,rfl⟩|⟨z,e⟩
  ·rw[self hi];exact v hi
  ·rw[ne j z];exact fr.at_ j t e
 ·rcases get j t e1 with⟨rfl,hi,rfl⟩|⟨z1,e1⟩
  ·rcases get k t' e2 with⟨rfl,_,rfl⟩|⟨z2,e2⟩
   ·rfl
   ·rw[self hi]at q1
    rw[ne k z2]at q2
    exact absurd q2 (na m1 a (Option.some.inj q1) k t' e2 m2)
  ·rcases get k t' e2 with⟨rfl,hi,rfl⟩|⟨z2,e2⟩
   ·rw[self hi]at q2
    rw[ne j z1]at q1
    exact absurd q1 (na m2 a (Option.some.inj q2) j t (by first|exact e1|assumption) m1)
   ·rw[ne j z1]at q1
    rw[ne k z2]at q2
    exact fr.ap j k a t t' e1 e2 m1 m2 q1 q2
def oX(i:Nat)(u:UT):UTs:=λP ρ=>u ρ λT ρ1=>P.nx (ρ1.set i (.va T))
theorem zGp{i:Nat}{x:Str}{pos':Pos}(hN:X.N.Nodup)(hi:X.N[i]?=some x)(hx:Loc X.env.scope x)(he:UE X F e u)(hs:swapsWith e (some (.Name x pos')) pos.line X.env=pure false:=by rfl)(hf:X.fn x=true\/X.env.scope.names.lookup x=some .local:=by first|exact .inl rfl|exact .inr rfl|assumption):
  US X F (.Assign [.Name x pos'] e pos) (oX i u):=⟨PS.imp (hX hN hi hx he.pe hs hf) λD σ H ⟨ρ,P,fr,h,k1,_⟩=>by
 refine⟨ρ,_,fr,h,λx T H' ρ' s v q=>?_⟩
 exact k1 _ _ _ (s.fr.set (s:=.va T) (λ_=>⟨x,rfl,v⟩) (λz=>absurd z Bool.false_ne_true)) (s.hs fr) q⟩
def oY(i:Nat)(u:UTl):UTs:=λP ρ=>u ρ λTs ρ1=>P.nx (ρ1.set i (.own Ts))
theorem yC{i:Nat}{u:UTl}{t:TE}(ht:∀σ H QQ,lW X.K F u σ H QQ->t σ H QQ)(D:jD)(σ:St)(H:Hp)(h:kH X.K F (oY i u) D σ H):oV t (oP i) D σ H:=by
 obtain⟨ρ,P,fr,h,k1,_⟩:=h
 refine ht σ H _ ⟨ρ,_,fr,h,λa xs Ts H' ρ' s n e z p q=>?_⟩
 exact k1 _ _ _ (s.fr.set (s:=.own Ts) (λ_=>⟨a,xs,rfl,e,fr.none0 n,z,p⟩) (λ_ b eb j t ej mj qj=>by cases eb;exact s.notown fr n j t ej mj qj)) (s.hs fr) q
theorem zGr{i:Nat}{x:Str}{u:UTl}{pos':Pos}(hN:X.N.Nodup)(hi:X.N[i]?=some x)(hx:Loc X.env.scope x)(he:UL X F e u)(hs:swapsWith e (some (.Name x pos')) pos.line X.env=pure false:=by rfl)(hf:X.fn x=true\/X.env.scope.names.lookup x=some .local:=by first|exact .inl rfl|exact .inr rfl|assumption):
  US X F (.Assign [.Name x pos'] e pos) (oY i u):=⟨PS.imp (hX hN hi hx he.pe hs hf) (yC λ_ _ _ h=>h)⟩
end
def zJ8:Ar->Sl
 |.va T=>.va T
 |.dk=>.dk
def eP(n:Nat)(as:List Ar):aH:=as.map zJ8++List.replicate (n-as.length) .no
theorem yH{K:W.Frag}{H:Hp}{dk:Option (Addr×Addr)}{N:List Str}{vs:List V}{as:List Ar}(hd:∀p c,dk=some (p,c)->DeckAt H p c)(p:Paired (mF K dk H) vs as):FrOk K ⟨H,dk⟩ (eP N.length as) (cZ N vs) H:=by
 have l:vs.length=as.length:=Paired.length p
 refine⟨hd,⟨λ_ _ e _=>e,hd⟩,?_,λi s e=>?_,λi j a s t e _ m _ _ _=>?_⟩
 ·unfold eP cZ
  rw[List.length_append,List.length_append,List.length_map,List.length_map,List.length_replicate,List.length_replicate,l]
 ·unfold eP at e
  by_cases hi:i<as.length
  ·rw[List.getElem?_append_left (by simpa using hi),List.getElem?_map]at e
   obtain⟨r,er,rfl⟩:=Option.map_eq_some_iff.mp e
   have hv:i<vs.length:=by omega
   obtain⟨r',er',h⟩:=dG p (List.getElem?_eq_getElem hv)
   rw[er]at er';cases er'
   have ex:ixv (cZ N vs) i=some vs[i]:=by
    refine zHF ?_
    unfold cZ
    rw[List.getElem?_append_left (by simpa using hv),List.getElem?_map,List.getElem?_eq_getElem hv]
    rfl
   rw[ex]
   cases r with
   |va T=>exact⟨_,rfl,h⟩
   |dk=>obtain⟨p,c,e1,e2⟩:=h;exact⟨p,c,e1,by rw[e2]⟩
  ·rw[List.getElem?_append_right (by simpa using hi),List.getElem?_replicate]at e
   split at e
   ·cases e;trivial
   ·cases e
 ·unfold eP at e
  by_cases hi:i<as.length
  ·rw[List.getElem?_append_left (by simpa using hi),List.getElem?_map]at e
   obtain⟨r,er,rfl⟩:=Option.map_eq_some_iff.mp e
   cases r<;>cases m
  ·rw[List.getElem?_append_right (by simpa using hi),List.getElem?_replicate]at e
   split at e
   ·cases e;cases m
   ·cases e
theorem Has.pgood{P:Program}{w:World}{K:W.Frag}{mg:Str->Option Value}{base:Heap}{x:Str}{st:Stmt}{N ps:List Str}{k:Nat}{psp:PSp}{us:UTs}(h:Has K mg x st)(S:bN N ps (aI st))
  (hb:∀(kV doc pm:Value) (an:Option Addr) (cdv ct:Value) (us:List Value),us.length=ps.length->bindArgs (W.fnOf x x (dI st) (cF st) (aI st) .none kV doc pm an cdv ct) ⟨us,[]⟩=pure (ps.zip us))
  (hbody:∀(f:Addr) (cdv:Value) (A:Around) (outer:List Env) (s:Shared) (H:Hp) (E:XK) (F:Fm),Room k (A.deeper (envOfC x (aI st) s.heap.objs.size f cdv))->USs (eK CX0 P w K mg base N x (aI st) f cdv A outer s H E).nox F (cF st) us)
  (hp:∀as R,psp as R->as.length=ps.length/\us {nx:=λ_=>R nT,rt:=R} (eP N.length as)):aE P w K mg base (k+1) x ps psp:=by
 refine h.good S hb (λvs H Q E q=>?_) (λf cdv A outer s H vs Q E hr q=>?_)
 ·obtain⟨dk,as,R,d,p,q,_⟩:=q
  rw[Paired.length p]
  exact(hp as R q).1
 ·obtain⟨dk,as,R,d,p,q,k⟩:=q
  refine⟨_,(hbody f cdv A outer s H E ⟨H,dk⟩ hr).ps,eP N.length as,_,yH d p,(hp as R q).2,λσ' H' ρ' fr _ q=>k _ _ _ fr.kp (.flat rfl) q,λx T H' kp v q=>k x T H' kp v q,λ_ _ _ _ _ z=>z,λ_ _ _ _ _ z=>z⟩
end L2
namespace L2
open PySem PySem.Spec PyProof.Rows WordM
def iH(K:W.Frag)(J:It)(H:Hp)(Ts:List Tv):Prop:=∀H1,HS H H1->(∀i,i<Ts.length->J.go i H1)/\(∀i x H2,i<Ts.length->J.yld i H1 x H2->Same H1 H2/\∃T,Ts[i]?=some T/\VA K H2 x T)/\J.stop Ts.length H1
def zAT(K:W.Frag)(F:Fm)(u:UTl):TI:=λσ H R=>∃ρ Q,FrOk K F ρ σ H/\u ρ Q/\∀J Ts H' ρ',Stp K F σ ρ H ρ' H'->iH K J H' Ts->Q Ts ρ'->R J H'
structure UI (X:Cx) (F:Fm) (tg e:Expr) (u:UTl):Prop where
 pi:PI X tg e (zAT X.K F u)
theorem PI.imp{X:Cx}{tg e:Expr}{t t':TI}(h:PI X tg e t)(i:∀σ H Q,t' σ H Q->t σ H Q):PI X tg e t':=λpins s σ H Q I q=>h pins s σ H Q I (i σ H Q q)
def ItR(X:Cx)(tg:Expr)(r:V->Hp->(It->Hp->Prop)->Prop):Prop:=∀(pins:List (Addr×Obj)) (s:Shared) (σ:St) (H:Hp) (x:V) (v:Value) (R:It->Hp->Prop),Inv X pins σ H s->RelV x v->r x H R->wpAny (model X.prog X.w) X.A (pyIter v) (PIE X pins σ tg R) X.xe s
section
variable{X:Cx}{F:Fm}{tg e:Expr}
theorem ItR.or{r r':V->Hp->(It->Hp->Prop)->Prop}(h:ItR X tg r)(h':ItR X tg r'):ItR X tg (λx H R=>r x H R\/r' x H R):=λpins s σ H x v R I rx q=>by
 rcases q with q|q
 ·exact h pins s σ H x v R I rx q
 ·exact h' pins s σ H x v R I rx q
theorem lQ{pins:List (Addr×Obj)}{σ:St}{H:Hp}{s:Shared}(I:Inv X pins σ H s):∀b∈[s.heap.objs.size],dQ X pins H b:=λb hb=>by
 rw[List.mem_singleton.mp hb]
 exact I.fpOk (Nat.le_refl _) (I.hok.fresh (Nat.le_refl _))
theorem it_list:ItR X tg (λx H R=>∃a xs,x=.ref a/\SqL X.K H a xs/\R (Itl X.K a) H):=by
 rintro pins s σ H _ v R I r ⟨a,xs,rfl,hq,q⟩
 cases r
 obtain⟨its,rv,p,hz⟩:=I.list hq
 exact wpAny_pyIter_list p.isList ⟨_,[s.heap.objs.size],_,_,H,rfl,I.kept (t':=s.toks) λb o=>Heap.get?_push_of_some _,zC2 a _,⟨_,Heap.get?_push_size _ rfl,rfl,rfl⟩,lQ I,q⟩
theorem it_tup:ItR X tg (λx H R=>∃a xs,x=.ref a/\SqT X.K H a xs/\R (Itt X.K a) H):=by
 rintro pins s σ H _ v R I r ⟨a,xs,rfl,hq,q⟩
 cases r
 obtain⟨its,rv,p,hz⟩:=I.tuple hq
 exact wpAny_pyIter_tuple (show s.heap.IsTuple a its.toArray from p) ⟨_,[s.heap.objs.size],_,_,H,rfl,I.kept (t':=s.toks) λb o=>Heap.get?_push_of_some _,zCj a _,⟨_,Heap.get?_push_size _ rfl,rfl,rfl⟩,lQ I,q⟩
theorem it_str:ItR X tg (λx H R=>∃z,x=.str z/\R (Its z) H):=by
 rintro pins s σ H _ v R I r ⟨z,rfl,q⟩
 obtain⟨t,rfl⟩:=r
 cases ha:z.cps.all (· < 128) with
 |true=>exact wpAny_pyIter_ascii ha ⟨_,[s.heap.objs.size],_,_,H,rfl,I.kept (t':=s.toks) λb o=>Heap.get?_push_of_some _,zC1 _ z t,⟨_,Heap.get?_push_size _ rfl,rfl,rfl⟩,lQ I,q⟩
 |false=>exact wpAny_pyIter_wide ha ⟨_,[s.heap.objs.size],_,_,H,rfl,I.kept (t':=s.toks) λb o=>Heap.get?_push_of_some _,zC0 _ z t,⟨_,Heap.get?_push_size _ rfl,rfl,rfl⟩,lQ I,q⟩
theorem zFZ:ItR X tg (λx H R=>∃a ob kvs,x=.ref a/\FzD H a ob kvs/\R (ItD a ob kvs) H):=by
 rintro pins s σ H _ v R I r ⟨a,ob,kvs,rfl,hz,q⟩
 cases r
 obtain⟨e,hs,hl,vs,es,ep,r,dd,hd⟩:=nQ I hz
 exact wpAny_pyIter_dict hs dd ⟨_,[s.heap.objs.size],_,_,H,rfl,I.kept (t':=s.toks) λb o=>Heap.get?_push_of_some _,zC4 (a:=a) (ob:=ob) (kvs:=kvs) hd,⟨_,Heap.get?_push_size _ rfl,rfl,by rw[<-lO r];rfl⟩,lQ I,q⟩
def pIt:Tv->(List Tv->Prop)->Prop
 |.seq _ Ts,Q=>Q Ts
 |.leaf (.str z),Q=>Q (z.cps.toList.map λc=>sT ⟨#[c]⟩)
 |.dct kts,Q=>Q (kts.map λkt=>sT kt.1)
 |_,_=>False
theorem bU{K:W.Frag}{H:Hp}{a:Addr}{xs:List V}(h:PSeq K H false a xs):SqL K H a xs:=by
 obtain⟨ob,h⟩:=h
 exact .inl (.inr ⟨ob,h⟩)
theorem zF0{K:W.Frag}{H:Hp}{a:Addr}{xs:List V}{Ts:List Tv}(h:PSeq K H false a xs)(p:VAs K H xs Ts):iH K (Itl K a) H Ts:=λH1 hs=>by
 have l:xs.length=Ts.length:=Paired.length p
 have q:=bU (h.hs hs)
 refine⟨λi hi=>⟨xs,xs[i]'(by omega),q,List.getElem?_eq_getElem _⟩,λi x H2 hi ⟨e,y⟩=>?_,⟨xs,q,by omega⟩⟩
 subst e
 obtain⟨T,eT,v⟩:=dG (p.hs hs) (y xs q)
 exact⟨Same.refl _,T,eT,v⟩
theorem zHI{K:W.Frag}{H:Hp}{a:Addr}{xs:List V}{Ts:List Tv}(h:PSeq K H true a xs)(p:VAs K H xs Ts):iH K (Itt K a) H Ts:=λH1 hs=>by
 have l:xs.length=Ts.length:=Paired.length p
 have q:SqT K H1 a xs:=h.hs hs
 refine⟨λi hi=>⟨xs,xs[i]'(by omega),q,List.getElem?_eq_getElem _⟩,λi x H2 hi ⟨e,y⟩=>?_,⟨xs,q,by omega⟩⟩
 subst e
 obtain⟨T,eT,v⟩:=dG (p.hs hs) (y xs q)
 exact⟨Same.refl _,T,eT,v⟩
theorem zHJ{K:W.Frag}{H:Hp}{z:Str}:iH K (Its z) H (z.cps.toList.map λc=>sT ⟨#[c]⟩):=λH1 hs=>by
 refine⟨λi hi=>(show i<z.cps.size by simpa using hi),λi x H2 hi ⟨e,c,ec,ex⟩=>?_,by simp[Its]⟩
 subst e ex
 refine⟨Same.refl _,sT ⟨#[c]⟩,?_,.flat rfl⟩
 rw[List.getElem?_map,Array.getElem?_toList,ec]
 rfl
theorem zF2{K:W.Frag}{H:Hp}{a:Addr}{ob:Obj}{kvs:List (Key×V)}{kts:List (Str×Tv)}(h:FzD H a ob kvs)(p:VAk K H kvs kts):iH K (ItD a ob kvs) H (kts.map λkt=>sT kt.1):=λH1 hs=>by
 have l:kvs.length=kts.length:=Paired.length p
 have q:FzD H1 a ob kvs:=hs _ _ rfl h
 refine⟨λi hi=>⟨q,by rw[List.length_map]at hi;omega⟩,λi x H2 hi ⟨e,k,v,ek,ex⟩=>?_,⟨q,by rw[List.length_map];omega⟩⟩
 subst e ex
 obtain⟨kt,ekt,e1,_⟩:=dG p ek
 refine⟨Same.refl _,sT kt.1,by rw[List.getElem?_map,ekt];rfl,?_⟩
 have e1:k=.inr kt.1:=e1
 rw[e1]
 exact .flat rfl
def uIt(u:UT):UTl:=λρ Q=>u ρ λT ρ1=>pIt T λTs=>Q Ts ρ1
theorem bO{u:UT}(h:UE X F e u):UI X F tg e (uIt u):=⟨λpins s σ H R I ⟨ρ,Q,fr,hu,k⟩=>by
 have IT:ItR X tg _:=it_list.or (it_tup.or (it_str.or zFZ))
 refine thn (h.pe pins s σ H (λx H1=>_) I ⟨ρ,_,fr,hu,λx T H' ρ' s v q=>?_⟩) λv s1 ⟨x,H1,I1,r1,q1⟩=>IT pins s1 σ H1 x v R I1 r1 q1
 unfold pIt at q
 split at q
 ·rename_i t Ts
  obtain⟨a,xs,rfl,hs,z,p⟩:=v.seqI
  cases t with
  |false=>exact .inl ⟨a,xs,rfl,bU hs,k _ _ _ _ s (zF0 hs p) q⟩
  |true=>exact .inr (.inl ⟨a,xs,rfl,hs,k _ _ _ _ s (zHI hs p) q⟩)
 ·obtain⟨rfl,_⟩:=v.leafI
  exact .inr (.inr (.inl ⟨_,rfl,k _ _ _ _ s zHJ q⟩))
 ·obtain⟨a,kvs,rfl,⟨ob,hd⟩,n,z,p⟩:=v.dctI
  exact .inr (.inr (.inr ⟨a,ob,kvs,rfl,hd,k _ _ _ _ s (zF2 hd p) q⟩))
 ·exact False.elim q⟩
def gP(lo:Int)(n:Nat):List Tv:=(List.range n).map λ(i:Nat)=>iT (lo+i)
theorem iN(lo:Int)(n:Nat):(gP lo n).length=n:=by simp[gP]
theorem lA{lo:Int}{n i:Nat}{T:Tv}(h:(gP lo n)[i]?=some T):i<n/\T=iT (lo+i):=by
 have l:=(List.getElem?_eq_some_iff.mp h).1
 rw[iN]at l
 refine⟨l,?_⟩
 simp only[gP,List.getElem?_map,List.getElem?_range l]at h
 exact(Option.some.inj h).symm
theorem zEB{K:W.Frag}{H:Hp}{lo:Int}{n:Nat}:iH K (Itr lo n) H (gP lo n):=λH1 hs=>by
 have l:(gP lo n).length=n:=by simp[gP]
 refine⟨λi hi=>by rw[l]at hi;exact hi,λi x H2 hi ⟨e,ex⟩=>?_,by rw[l];exact Nat.le_refl _⟩
 subst e ex
 rw[l]at hi
 exact⟨Same.refl _,iT (lo+i),by simp[gP,hi],.flat rfl⟩
def zH3(ua:UTa):UTl:=λρ Q=>uVs ua ρ λTs ρ1=>∃j:Int,Ts=[iT j] /\ -(2 ^ 62)<=j/\j<2 ^ 62/\Q (gP 0 j.toNat) ρ1
theorem jK{a:Expr}{ua:UTa}{p pos:Pos}(hg:Gl X "range")(hm:X.mg "range"=none)(ha:UA X F [a] ua)(hs:starEach [a] X.env=[(false,eval a X.env)]:=by rfl):UI X F tg (.Call (.Name "range" p) [a] [] pos) (zH3 ua):=⟨PI.imp (zDl hg hm ha.pa hs) λσ H R ⟨ρ,Q,fr,hu,k⟩=>by
 refine⟨ρ,_,fr,hu,λxs as H1 ρ1 s1 p1 q1=>?_⟩
 obtain⟨Ts,rfl,j,rfl,h1,h2,q⟩:=fQ q1
 cases fR p1 with
 |cons v t=>
  cases t
  obtain⟨rfl,_⟩:=v.leafI
  exact⟨j,rfl,h1,h2,k _ _ _ _ s1 zEB q⟩⟩
theorem zF1{K:W.Frag}{H:Hp}{a:Addr}{xs:List V}{Ts:List Tv}(h:PSeq K H false a xs)(p:VAs K H xs Ts):iH K (ItE K a) H (Ts.mapIdx λi T=>.seq true [iT (i:Nat),T]):=λH1 hs=>by
 have l:xs.length=Ts.length:=Paired.length p
 have q:=bU (h.hs hs)
 refine⟨λi hi=>⟨xs,xs[i]'(by simpa[l]using hi),q,List.getElem?_eq_getElem _⟩,λi x H2 hi ⟨b,y,ex,nb,e,hy⟩=>?_,⟨xs,q,by simp[l]⟩⟩
 subst e ex
 obtain⟨T,eT,v⟩:=dG (p.hs hs) (hy xs q)
 refine⟨cH nb,.seq true [iT (i:Nat),T],by rw[List.getElem?_mapIdx,eT];rfl,VA.seq (t:=true) (SqT.of aT) (show 2<=100000 by decide) (.cons (.flat rfl) (.cons (v.hs (gG nb)) .nil))⟩
def zH6(ua:UTa):UTl:=λρ Q=>uVs ua ρ λTs ρ1=>∃Us,Ts=[.seq false Us]/\Q (Us.mapIdx λi T=>.seq true [iT (i:Nat),T]) ρ1
theorem zFb{a:Expr}{ua:UTa}{es:List Expr}{ek:Nat}{p pos pos':Pos}(hg:Gl X "enumerate")(hm:X.mg "enumerate"=none)(ha:UA X F [a] ua)(hs:starEach [a] X.env=[(false,eval a X.env)]:=by rfl):UI X F (.Tuple es ek pos') (.Call (.Name "enumerate" p) [a] [] pos) (zH6 ua):=⟨PI.imp (zFB hg hm ha.pa hs) λσ H R ⟨ρ,Q,fr,hu,k⟩=>by
 refine⟨ρ,_,fr,hu,λxs as H1 ρ1 s1 p1 q1=>?_⟩
 obtain⟨Ts,rfl,Us,rfl,q⟩:=fQ q1
 cases fR p1 with
 |cons v t=>
  cases t
  obtain⟨a,xs,rfl,hq,z,p⟩:=v.seqI
  exact⟨a,rfl,⟨xs,bU hq⟩,k _ _ _ _ s1 (zF1 hq p) q⟩⟩
theorem zHH{K:W.Frag}{H:Hp}{t:Bool}{a b:Addr}{xs ys:List V}{Ts Us:List Tv}(h:PSeq K H t a xs)(p:VAs K H xs Ts)(h':PSeq K H t b ys)(p':VAs K H ys Us):iH K (Itz t K a b) H (List.zipWith (λT U=>.seq true [T,U]) Ts Us):=λH1 hs=>by
 have l:xs.length=Ts.length:=Paired.length p
 have l':ys.length=Us.length:=Paired.length p'
 have sq:∀{c:Addr} {zs:List V},PSeq K H t c zs->SqX t K H1 c zs:=λ{c zs} h=>by
  have h:=h.hs hs
  cases t with
  |false=>exact bU h
  |true=>exact h
 have q:=sq h
 have q':=sq h'
 refine⟨λi hi=>?_,λi x H2 hi ⟨c,y,z,ex,nc,e,hy,hz⟩=>?_,⟨xs,ys,q,q',by rw[List.length_zipWith];omega⟩⟩
 ·rw[List.length_zipWith]at hi
  exact⟨xs,ys,xs[i]'(by omega),ys[i]'(by omega),q,q',List.getElem?_eq_getElem _,List.getElem?_eq_getElem _⟩
 ·subst e ex
  obtain⟨T,eT,v⟩:=dG (p.hs hs) (hy xs q)
  obtain⟨U,eU,v'⟩:=dG (p'.hs hs) (hz ys q')
  refine⟨cH nc,.seq true [T,U],by rw[List.getElem?_zipWith,eT,eU],VA.seq (t:=true) (SqT.of aT) (show 2<=100000 by decide) (.cons (v.hs (gG nc)) (.cons (v'.hs (gG nc)) .nil))⟩
def zIZ(ua:UTa):UTl:=λρ Q=>uVs ua ρ λTs ρ1=>∃t As Bs,Ts=[.seq t As,.seq t Bs]/\Q (List.zipWith (λT U=>.seq true [T,U]) As Bs) ρ1
theorem zGt{a b:Expr}{ua:UTa}{es:List Expr}{ek:Nat}{p pos pos':Pos}(hg:Gl X "zip")(hm:X.mg "zip"=none)(ha:UA X F [a,b] ua)(hs:starEach [a,b] X.env=[(false,eval a X.env),(false,eval b X.env)]:=by rfl)(hs2:starEach [b] X.env=[(false,eval b X.env)]:=by rfl):
  UI X F (.Tuple es ek pos') (.Call (.Name "zip" p) [a,b] [] pos) (zIZ ua):=⟨PI.imp (zG9 hg hm ha.pa hs hs2) λσ H R ⟨ρ,Q,fr,hu,k⟩=>by
 refine⟨ρ,_,fr,hu,λxs as H1 ρ1 s1 p1 q1=>?_⟩
 obtain⟨Ts,rfl,t,As,Bs,rfl,q⟩:=fQ q1
 have sq:∀{c:Addr} {zs:List V},PSeq X.K H1 t c zs->SqX t X.K H1 c zs:=λ{c zs} h=>by
  cases t with
  |false=>exact bU h
  |true=>exact h
 cases fR p1 with
 |cons v r=>
  cases r with
  |cons v' r=>
   cases r
   obtain⟨a,xs,rfl,hq,z,p⟩:=v.seqI
   obtain⟨b,ys,rfl,hq',z',p'⟩:=v'.seqI
   exact⟨t,a,b,rfl,⟨xs,sq hq⟩,⟨ys,sq hq'⟩,k _ _ _ _ s1 (zHH hq p hq' p') q⟩⟩
end
abbrev UG:=Tv->aH->(aH->Prop)->Prop
abbrev UGs:=List Tv->aH->(aH->Prop)->Prop
def zAU(K:W.Frag)(F:Fm)(m:Nat)(g:UG):TG:=λv σ H QQ=>∃T ρ Q,VA K H v T/\FrOk K F ρ σ H/\g T ρ Q/\∀σ' ρ',FrOk K F ρ' σ' H->σ'.length=σ.length->σ'.drop m=σ.drop m->ρ'.drop m=ρ.drop m->Sbv ρ' ρ->Q ρ'->QQ σ' H
def zHz(K:W.Frag)(F:Fm)(m:Nat)(g:UGs):TGs:=λvs σ H QQ=>∃Ts ρ Q,VAs K H vs Ts/\FrOk K F ρ σ H/\g Ts ρ Q/\∀σ' ρ',FrOk K F ρ' σ' H->σ'.length=σ.length->σ'.drop m=σ.drop m->ρ'.drop m=ρ.drop m->Sbv ρ' ρ->Q ρ'->QQ σ' H
structure UGt (X:Cx) (F:Fm) (m:Nat) (tg:Expr) (g:UG):Prop where
 pg:PG X tg (zAU X.K F m g)
structure pG (X:Cx) (F:Fm) (m:Nat) (tgs:List Expr) (g:UGs):Prop where
 pg:PGs X tgs (zHz X.K F m g)
theorem PG.imp{X:Cx}{tg:Expr}{t t':TG}(h:PG X tg t)(i:∀v σ H Q,t' v σ H Q->t v σ H Q):PG X tg t':=λpins s σ H v u Q I r q=>h pins s σ H v u Q I r (i v σ H Q q)
theorem PGs.imp{X:Cx}{tg:List Expr}{t t':TGs}(h:PGs X tg t)(i:∀v σ H Q,t' v σ H Q->t v σ H Q):PGs X tg t':=λpins s σ H v u Q I r q=>h pins s σ H v u Q I r (i v σ H Q q)
section
variable{X:Cx}{F:Fm}{pos:Pos}{m:Nat}
def gN(i:Nat):UG:=λT ρ Q=>Q (ρ.set i (.va T))
theorem drop_set{α:Type}{l:List α}{i m:Nat}{x:α}(h:i<m):(l.set i x).drop m=l.drop m:=by
 rw[List.drop_set,if_pos h]
theorem zFn{ρ:aH}{i:Nat}{T:Tv}:Sbv (ρ.set i (.va T)) ρ:=λj s e mm=>by
 by_cases z:i=j
 ·subst z
  have hi:i<ρ.length:=by
   have:=(List.getElem?_eq_some_iff.mp e).1
   rwa[List.length_set]at this
  rw[List.getElem?_set_self hi]at e
  cases e;cases mm
 ·rw[List.getElem?_set_ne z]at e;exact⟨s,e,mm⟩
theorem dH(i:Nat){x:Str}(hm:i<m)(hN:X.N.Nodup)(hi:X.N[i]?=some x)(hx:Loc X.env.scope x)(hf:X.fn x=true\/X.env.scope.names.lookup x=some .local:=by first|exact .inl rfl|exact .inr rfl|assumption):UGt X F m (.Name x pos) (gN i):=⟨PG.imp (zK hN hi hx hf) λv σ H QQ ⟨T,ρ,Q,vv,fr,h,k⟩=>
 k _ _ (fr.set (s:=.va T) (λ_=>⟨v,rfl,vv⟩) (λz=>absurd z Bool.false_ne_true)) List.length_set (drop_set hm) (drop_set hm) zFn h⟩
def gT(n:Nat)(g:UGs):UG:=λT ρ Q=>∃Ts,T=.seq true Ts/\Ts.length=n/\g Ts ρ Q
def gNl:UGs:=λTs ρ Q=>Ts=[]/\Q ρ
def gCn(g:UG)(gs:UGs):UGs:=λTs ρ Q=>∃T r,Ts=T::r/\g T ρ λρ1=>gs r ρ1 Q
theorem yU:pG X F m [] gNl:=⟨PGs.imp zFC λvs σ H QQ ⟨Ts,ρ,Q,vv,fr,⟨e,h⟩,k⟩=>by
 subst e
 cases vv
 exact⟨rfl,k _ _ fr rfl rfl rfl (Sbv.refl _) h⟩⟩
theorem mZ{e:Expr}{es:List Expr}{g:UG}{gs:UGs}(h1:UGt X F m e g)(h2:pG X F m es gs)(hs:(assignEach (e::es) X.env).map (·.2)=assign e X.env::(assignEach es X.env).map (·.2):=by rfl):pG X F m (e::es) (gCn g gs):=⟨PGs.imp (zEl h1.pg h2.pg hs) λvs σ H QQ ⟨Ts,ρ,Q,vv,fr,⟨T,r,e,h⟩,k⟩=>by
 subst e
 cases vv with
 |cons v vs'=>
  refine⟨_,_,rfl,T,ρ,_,v,fr,h,λσ' ρ' f' l d dr sb q=>⟨r,ρ',Q,vs',f',q,λσ2 ρ2 f2 l2 d2 dr2 sb2 q2=>?_⟩⟩
  exact k _ _ f2 (l2.trans l) (d2.trans d) (dr2.trans dr) (sb.trans sb2) q2⟩
theorem zAk{es:List Expr}{k:Nat}{g:UGs}(n:Nat)(hc:X.calm=true)(h:pG X F m es g)(hn:(assignEach es X.env).length=n:=by rfl)(hst:(assignEach es X.env).findIdx? (·.1)=none:=by rfl):UGt X F m (.Tuple es k pos) (gT n g):=⟨PG.imp (zHa hc h.pg hn hst) λv σ H QQ ⟨T,ρ,Q,vv,fr,⟨Ts,e,el,h⟩,k⟩=>by
 subst e
 obtain⟨a,xs,rfl,hq,z,p⟩:=vv.seqI
 exact⟨a,xs,rfl,hq,(Paired.length p).trans el,Ts,ρ,Q,p,fr,h,k⟩⟩
end
def blk(own:Nat)(fr:List Nat)(ρ:aH):aH:=List.replicate own .no++fr.map λi=>ρ.getD i .no
def lE:List Nat->List Sl->aH->aH
 |i::fr,s::ss,ρ=>lE fr ss (ρ.set i s)
 |_,_,ρ=>ρ
def bck(own:Nat)(fr:List Nat)(ρ ρ':aH):aH:=lE fr (ρ'.drop own) ρ
def dN(own:Nat)(fr:List Nat)(g:UG)(tf:UTt)(ue:UT):List Tv->aH->(List Tv->aH->Prop)->Prop
 |[],ρ,Q=>Q [] ρ
 |T::Ts,ρ,Q=>g T (blk own fr ρ) λρ1=>tf ρ1 λb ρ2=>if b=true then ue ρ2 λU ρ3=>dN own fr g tf ue Ts (bck own fr ρ ρ3) λUs ρ4=>Q (U::Us) ρ4 else dN own fr g tf ue Ts (bck own fr ρ ρ2) Q
def iA(own:Nat)(fr:List Nat)(ui:UTl)(g:UG)(tf:UTt)(ue:UT):UTl:=λρ Q=>ui ρ λTs ρ1=>Ts.length<=100000/\dN own fr g tf ue Ts ρ1 Q
theorem vD:∀(fr:List Nat) (ss:List Sl) (ρ:aH),(lE fr ss ρ).length=ρ.length
 |[],_,_=>rfl
 |_::_,[],_=>rfl
 |i::fr,s::ss,ρ=>by show(lE fr ss _).length=_;rw[vD fr ss,List.length_set]
theorem pO:∀(fr:List Nat) (ss:List Sl) (ρ:aH) (i:Nat) (s:Sl),fr.length<=ss.length->(lE fr ss ρ)[i]?=some s->(∃j:Nat,fr[j]?=some i/\ss[j]?=some s)\/(i∉fr/\ρ[i]?=some s)
 |[],_,_,i,s,_,h=>.inr ⟨by simp,h⟩
 |_::_,[],_,_,_,l,_=>by simp at l
 |i0::fr,s0::ss,ρ,i,s,l,h=>by
  rcases pO fr ss (ρ.set i0 s0) i s (by simpa using l) h with⟨j,e1,e2⟩|⟨n,e⟩
  ·exact .inl ⟨j+1,by simpa using e1,by simpa using e2⟩
  ·by_cases z:i0=i
   ·subst z
    have hi:i0<ρ.length:=by
     have:=(List.getElem?_eq_some_iff.mp e).1
     rwa[List.length_set]at this
    rw[List.getElem?_set_self hi]at e
    exact .inl ⟨0,rfl,by simpa using e⟩
   ·rw[List.getElem?_set_ne z]at e
    exact .inr ⟨by simp[n,Ne.symm z],e⟩
theorem mU{own:Nat}{fr:List Nat}{σ ow:St}(ho:ow.length=own){j i:Nat}(h:fr[j]?=some i):ixv (ow++σf fr σ) (own+j)=ixv σ i:=by
 unfold ixv σf
 rw[List.getElem?_append_right (by omega),show own+j-ow.length=j by omega,List.getElem?_map,h]
 show(some (σ.getD i none)).join=_
 rw[List.getD_eq_getElem?_getD]
 cases σ[i]? with
 |none=>rfl
 |some o=>rfl
section
variable{K:W.Frag}{F:Fm}{ρ ρ4 ρ6:aH}{σ ow:St}{H H6:Hp}{own:Nat}{fr:List Nat}
theorem jW{i:Nat}{s:Sl}(h:(blk own fr ρ)[i]?=some s):(i<own/\s=.no)\/∃j k,i=own+j/\fr[j]?=some k/\s=ρ.getD k .no:=by
 unfold blk at h
 by_cases hi:i<own
 ·rw[List.getElem?_append_left (by simpa using hi),List.getElem?_replicate,if_pos hi]at h
  exact .inl ⟨hi,(Option.some.inj h).symm⟩
 ·rw[List.getElem?_append_right (by simpa using hi),List.length_replicate,List.getElem?_map]at h
  obtain⟨k,e,rfl⟩:=Option.map_eq_some_iff.mp h
  exact .inr ⟨i-own,k,by omega,e,rfl⟩
theorem jP{k:Nat}{s:Sl}(e:s=ρ.getD k .no)(m:s≠.no):ρ[k]?=some s:=by
 rw[List.getD_eq_getElem?_getD]at e
 cases q:ρ[k]? with
 |none=>rw[q]at e;exact absurd e m
 |some t=>rw[q]at e;rw[e];rfl
theorem FrOk.pick(f:FrOk K F ρ σ H)(nd:fr.Nodup):FrOk K F (blk own fr ρ) (σc own fr σ) H:=by
 have val:∀{j k:Nat},fr[j]?=some k->ixv (σc own fr σ) (own+j)=ixv σ k:=λh=>mU (List.length_replicate) h
 refine⟨f.d0,f.kp,?_,λi s e=>?_,λi i' a s t e e' m m' q q'=>?_⟩
 ·unfold blk σc σf
  simp
 ·rcases jW e with⟨_,rfl⟩|⟨j,k,rfl,ek,es⟩
  ·trivial
  ·rw[val ek]
   cases s with
   |no=>trivial
   |_=>exact f.at_ k _ (jP es (λz=>by cases z))
 ·rcases jW e with⟨_,rfl⟩|⟨j,k,rfl,ek,es⟩
  ·cases m
  ·rcases jW e' with⟨_,rfl⟩|⟨j',k',rfl,ek',es'⟩
   ·cases m'
   ·rw[val ek]at q
    rw[val ek']at q'
    have:=f.ap k k' a s t (jP es (λz=>by rw[z]at m;cases m)) (jP es' (λz=>by rw[z]at m';cases m')) m m' q q'
    subst this
    have h1:=(List.getElem?_eq_some_iff.mp ek).1
    rw[(List.getElem?_inj h1 nd).mp (ek.trans ek'.symm)]
theorem Stp.back(f:FrOk K F ρ σ H)(nd:fr.Nodup)(s:Stp K F (ow++σf fr σ) ρ4 H ρ6 H6)(f4:FrOk K F ρ4 (ow++σf fr σ) H)(ho:ow.length=own)(hd:ρ4.drop own=(blk own fr ρ).drop own)(sb:Sbv ρ4 (blk own fr ρ)):Stp K F σ ρ H (bck own fr ρ ρ6) H6:=by
 -- a slot of the block that is one's own is the def's own
 have dm:∀(i:Nat) (t:Sl) (a:Addr),ρ4[i]?=some t->dA t=true->ixv (ow++σf fr σ) i=some (.ref a)->∃k u,k∈fr/\ρ[k]?=some u/\dA u=true/\ixv σ k=some (.ref a):=λi t a e m q=>by
  obtain⟨u,eu,mu⟩:=sb i t e m
  rcases jW eu with⟨_,rfl⟩|⟨j,k,rfl,ek,es⟩
  ·cases mu
  ·exact⟨k,u,List.mem_of_getElem? ek,jP es (λz=>by rw[z]at mu;cases mu),mu,by rw[<-mU ho ek];exact q⟩
 have st:Stay F ρ σ H H6:=λb o e d n=>s.st b o e d λi t e1 m q=>by
  obtain⟨k,u,_,eu,mu,qu⟩:=dm i t b e1 m q
  exact n k u eu mu qu
 have l6:fr.length<=(ρ6.drop own).length:=by
  have:=s.fr.len
  rw[List.length_append]at this
  rw[List.length_drop,this,ho]
  unfold σf
  rw[List.length_map]
  omega
 have sub:Sbv (bck own fr ρ ρ6) ρ:=λi t e m=>by
  rcases pO fr _ ρ i t l6 e with⟨j,ej,et⟩|⟨_,e⟩
  ·rw[List.getElem?_drop]at et
   obtain⟨u,eu,mu⟩:=s.sub _ t et m
   have:(ρ4.drop own)[j]?=some u:=by rw[List.getElem?_drop];exact eu
   rw[hd,List.getElem?_drop]at this
   rcases jW this with⟨z,_⟩|⟨j',k,ejj,ek,es⟩
   ·omega
   ·have:j'=j:=by omega
    subst this
    rw[ej]at ek;cases ek
    exact⟨u,jP es (λz=>by rw[z]at mu;cases mu),mu⟩
  ·exact⟨t,e,m⟩
 have hs:HS H H6:=s.hs f4
 refine⟨⟨f.d0,s.fr.kp,by unfold bck;rw[vD];exact f.len,λi t e=>?_,λi i' a t t' e e' m m' q q'=>?_⟩,st,sub,s.tr⟩
 ·rcases pO fr _ ρ i t l6 e with⟨j,ej,et⟩|⟨ni,e⟩
  ·rw[List.getElem?_drop]at et
   have:=s.fr.at_ _ t et
   rwa[mU ho ej]at this
  ·have h:=f.at_ i t e
   have keep:∀a o,dA t=true->ixv σ i=some (.ref a)->H a=some o->H6 a=some o:=λa o m q e1=>s.st a o e1 (f.fresh_nodk (f.own_at e m q).2) λi' t' e2 m2 q2=>by
    obtain⟨k,u,hk,eu,mu,qu⟩:=dm i' t' a e2 m2 q2
    have:=f.ap k i a u t eu e mu m qu q
    subst this
    exact ni hk
   cases t with
   |no=>trivial
   |va T=>obtain⟨y,e1,v⟩:=h;exact⟨y,e1,v.hs hs⟩
   |own Ts=>obtain⟨a,xs,e1,e2,e3,z,p⟩:=h;exact⟨a,xs,e1,keep a _ rfl e1 e2,e3,z,p.hs hs⟩
   |dct kts=>obtain⟨a,kvs,e1,e2,e3,n,z,p⟩:=h;exact⟨a,kvs,e1,keep a _ rfl e1 e2,e3,n,z,p.hs hs⟩
   |dk=>exact h
 ·obtain⟨u,eu,mu⟩:=sub i t e m
  obtain⟨u',eu',mu'⟩:=sub i' t' e' m'
  exact f.ap i i' a u u' eu eu' mu mu' q q'
end
theorem qG{K:W.Frag}{F:Fm}{own:Nat}{fr:List Nat}{ui:UTl}{g:UG}{tf:UTt}{ue:UT}(nd:fr.Nodup)(σ:St)(H:Hp)(QQ:VK)(h:lW K F (iA own fr ui g tf ue) σ H QQ):sW own fr (zAT K F ui) (zAU K F own g) (oM K F tf) (dL K F ue) σ H QQ:=by
 obtain⟨ρ,Q,f,h,k⟩:=h
 refine⟨ρ,_,f,h,λJ Ts H1 ρ1 s1 it q1 a na=>?_⟩
 obtain⟨len,q1⟩:=q1
 refine⟨Ts.length,λi ys H2=>∃Us ρi,Stp K F σ ρ1 H1 ρi H2/\VAs K H2 ys Us/\Us.length<=i/\dN own fr g tf ue (Ts.drop i) ρi (λVs ρ'=>Q (Us++Vs) ρ'),⟨[],ρ1,Stp.same s1.fr (cH na),.nil,Nat.le_refl _,q1⟩,?_⟩
 rintro i ys H2 hi ha ⟨Us,ρi,si,p,hl,q⟩
 have hs1:=si.hs s1.fr
 obtain⟨go,yld,stop⟩:=it H2 hs1
 by_cases hlt:i<Ts.length
 ·refine .inr ⟨hlt,go i hlt,λx H3 hy=>?_⟩
  obtain⟨sm,T,eT,vx⟩:=yld i x H3 hlt hy
  have s3:=si.trans (Stp.same si.fr sm)
  have ha3:=sm _ _ ha
  have ed:Ts.drop i=T::Ts.drop (i+1):=by
   rw[List.drop_eq_getElem_cons hlt]
   congr 1
   rw[List.getElem?_eq_getElem hlt]at eT
   exact Option.some.inj eT
  rw[ed]at q
  have nodk:=s1.fr.none_nodk na
  have nown:=s3.notown s1.fr na
  refine⟨T,blk own fr ρi,_,vx,s3.fr.pick nd,q,λσ4 ρ4 f4 l4 d4 dr4 sb4 q4=>?_⟩
  have e4:σ4=σ4.take own++σf fr σ:=by
   have:σ4.drop own=σf fr σ:=by
    rw[d4]
    unfold σc
    rw[List.drop_append_of_le_length (by simp),List.drop_of_length_le (by simp),List.nil_append]
   rw[<-this,List.take_append_drop]
  have lo:(σ4.take own).length=own:=by
   rw[List.length_take,l4]
   unfold σc
   simp
  have notin:∀(j:Nat) (t:Sl),ρ4[j]?=some t->dA t=true->ixv σ4 j≠some (.ref a):=λj t e m z=>by
   obtain⟨u,eu,mu⟩:=sb4 j t e m
   rcases jW eu with⟨_,rfl⟩|⟨j',k,rfl,ek,es⟩
   ·cases mu
   ·rw[e4,mU lo ek]at z
    exact nown k u (jP es (λz=>by rw[z]at mu;cases mu)) mu z
  refine⟨⟨σ4.take own,lo,e4⟩,ρ4,_,f4,q4,λb H5 ρ5 s5 q5=>?_⟩
  have a5:H5 a=some (.lst ys):=s5.st a _ ha3 nodk notin
  cases b with
  |true=>
   refine aZ ?_
   rw[if_pos rfl]at q5
   refine⟨ρ5,_,s5.fr,q5,λy U H6 ρ6 s6 v6 q6=>?_⟩
   have s46:=s5.trans s6
   have a6:H6 a=some (.lst ys):=s46.st a _ ha3 nodk notin
   have lys:ys.length=Us.length:=Paired.length p
   refine⟨a6,rV (by omega),Us++[U],bck own fr ρi ρ6,?_,?_,by rw[List.length_append,List.length_singleton];omega,?_⟩
   ·rw[e4]at s46 f4
    exact(s3.trans (Stp.back s3.fr nd s46 f4 lo dr4 sb4)).put s1.fr na a6 rfl _
   ·have h36:=s46.hs f4
    exact VAs.hs (fD a6 rfl) (Paired.snoc ((p.hs sm.hs).hs h36) v6)
   ·simpa using q6
  |false=>
   refine aK ?_
   rw[if_neg Bool.false_ne_true]at q5
   refine⟨a5,Us,bck own fr ρi ρ5,?_,?_,by omega,q5⟩
   ·rw[e4]at s5 f4
    exact s3.trans (Stp.back s3.fr nd s5 f4 lo dr4 sb4)
   ·exact(p.hs sm.hs).hs (s5.hs f4)
 ·have e:i=Ts.length:=by omega
  subst e
  rw[List.drop_length]at q
  have q:Q (Us++[]) ρi:=q
  rw[List.append_nil]at q
  exact .inl ⟨stop,k a ys Us H2 ρi (s1.trans si) (s1.non na) ha (by omega) p q⟩
section
variable{X:Cx}{F:Fm}{sc:Scope}{XN N:List Str}{own:Nat}{fr:List Nat}{scope:Scope}{elt tg iter:Expr}{ifs:List Expr}{pos:Pos}{ui:UTl}{g:UG}{tf:UTt}{ue:UT}
structure UF (X:Cx) (F:Fm) (ifs:List Expr) (u:UTt):Prop where
 pf:PFs X ifs (oM X.K F u)
def oT:UTt:=λρ Q=>Q true ρ
theorem gA:UF X F [] oT:=⟨λpins s σ H Q I ⟨ρ,Q',f,h,k⟩=>zHd pins s σ H Q I (k _ _ _ (Stp.refl f) h)⟩
theorem fS{c:Expr}{t:UTt}(h:UB X F c t):UF X F [c] t:=⟨zHc h.pt⟩
theorem rC(hc:X.calm=true)(S:iL sc XN N own fr scope)(nd:fr.Nodup)(hi:UI X F tg iter ui)
  (hg:∀cl C fp s H,UGt (bM X N scope cl C fp s H) F own tg g) (hf:∀cl C fp s H,UF (bM X N scope cl C fp s H) F ifs tf) (he:∀cl C fp s H,UE (bM X N scope cl C fp s H) F elt ue)
  (hs:∀x,foldedSetIterable iter X.env x=pure x:=by intro _;rfl) (hsc:X.env.scope=sc:=by rfl) (hxn:X.N=XN:=by rfl):UL X F (.ListComp elt [⟨tg,iter,ifs,0⟩] scope pos) (iA own fr ui g tf ue):=
 ⟨PE.imp (zFE hc S hi.pi (λcl C fp s H=>(hg cl C fp s H).pg) (λcl C fp s H=>(hf cl C fp s H).pf) (λcl C fp s H=>(he cl C fp s H).pe) hs hsc hxn) (qG nd)⟩
theorem zE8{i:Nat}{x:Str}{pos' spos:Pos}(hc:X.calm=true)(hN:X.N.Nodup)(hx:X.N[i]?=some x)(hl:Loc X.env.scope x)(S:iL sc XN N own fr scope)(nd:fr.Nodup)(hi:UI X F tg iter ui)
  (hg:∀cl C fp s H,UGt (bM X N scope cl C fp s H) F own tg g) (hf:∀cl C fp s H,UF (bM X N scope cl C fp s H) F ifs tf) (he:∀cl C fp s H,UE (bM X N scope cl C fp s H) F elt ue)
  (hsw:swapsWith (.ListComp elt [⟨tg,iter,ifs,0⟩] scope pos) (some (.Name x pos')) spos.line X.env=pure true:=by rfl)
  (hf':X.fn x=true\/X.env.scope.names.lookup x=some .local:=by first|exact .inl rfl|exact .inr rfl|assumption)
  (hs:∀x,foldedSetIterable iter X.env x=pure x:=by intro _;rfl) (hsc:X.env.scope=sc:=by rfl) (hxn:X.N=XN:=by rfl):US X F (.Assign [.Name x pos'] (.ListComp elt [⟨tg,iter,ifs,0⟩] scope pos) spos) (oY i (iA own fr ui g tf ue)):=
 ⟨PS.imp (zE hc hN hx hl S hi.pi (λcl C fp s H=>(hg cl C fp s H).pg) (λcl C fp s H=>(hf cl C fp s H).pf) (λcl C fp s H=>(he cl C fp s H).pe) hsw hf' hs hsc hxn) (yC (qG nd))⟩
theorem PS.fz{st:Stmt}{t:TS}(h:PS X st t):PS X st (λD σ H=>t {D with nx:=λσ' H'=>D.nx σ' H'\/∃a o,H' a=some o/\fzb o=true/\∀ob,D.nx σ' (upd H' a (.frz ob o))} σ H):=λpins s σ H D I q=>thn (h pins s σ H _ I q) λfl s' z=>by
 cases fl with
 |next=>
  obtain⟨σ',H',I',q⟩:=z
  rcases q with q|⟨a,o,e,n,q⟩
  ·exact⟨σ',H',I',q⟩
  ·obtain⟨ob,I2⟩:=I'.fz e n
   exact⟨σ',_,I2,q ob⟩
 |brk=>exact z
 |cont=>exact z
 |ret u=>exact z
theorem zE7{i:Nat}{x:Str}{pos' spos:Pos}(hc:X.calm=true)(hN:X.N.Nodup)(hx:X.N[i]?=some x)(hl:Loc X.env.scope x)(S:iL sc XN N own fr scope)(nd:fr.Nodup)(hi:UI X F tg iter ui)
  (hg:∀cl C fp s H,UGt (bM X N scope cl C fp s H) F own tg g) (hf:∀cl C fp s H,UF (bM X N scope cl C fp s H) F ifs tf) (he:∀cl C fp s H,UE (bM X N scope cl C fp s H) F elt ue)
  (hsw:swapsWith (.ListComp elt [⟨tg,iter,ifs,0⟩] scope pos) (some (.Name x pos')) spos.line X.env=pure true:=by rfl)
  (hf':X.fn x=true\/X.env.scope.names.lookup x=some .local:=by first|exact .inl rfl|exact .inr rfl|assumption)
  (hs:∀x,foldedSetIterable iter X.env x=pure x:=by intro _;rfl) (hsc:X.env.scope=sc:=by rfl) (hxn:X.N=XN:=by rfl):US X F (.Assign [.Name x pos'] (.ListComp elt [⟨tg,iter,ifs,0⟩] scope pos) spos) (oX i (uL (iA own fr ui g tf ue))):=
 ⟨PS.imp (PS.fz (zE hc hN hx hl S hi.pi (λcl C fp s H=>(hg cl C fp s H).pg) (λcl C fp s H=>(hf cl C fp s H).pf) (λcl C fp s H=>(he cl C fp s H).pe) hsw hf' hs hsc hxn)) λD σ H ⟨ρ,P,f,h,k1,_⟩=>by
  refine qG nd σ H _ ⟨ρ,_,f,h,λa xs Ts H' ρ' s n e z p q=>?_⟩
  refine .inr ⟨a,_,e,rfl,λob=>?_⟩
  have s2:=s.put f n e rfl (.frz ob (.lst xs))
  exact k1 _ _ _ (s2.fr.set (s:=.va (.seq false Ts)) (λ_=>⟨_,rfl,VA.seq (t:=false) ⟨ob,aT⟩ z (p.hs (fD e rfl))⟩) (λz=>absurd z Bool.false_ne_true)) (s2.hs f) q⟩
def gS(g:UG)(ub:UTs):List Tv->PEnds->aH->Prop
 |[],P,ρ=>P.nx ρ
 |T::Ts,P,ρ=>g T ρ λρ1=>ub {P with nx:=λρ'=>gS g ub Ts P ρ',ct:=λρ'=>gS g ub Ts P ρ',bk:=P.nx} ρ1
def zJg(ui:UTl)(g:UG)(ub:UTs):UTs:=λP ρ=>ui ρ λTs ρ1=>gS g ub Ts P ρ1
theorem hJ{body:List Stmt}{ub:UTs}{m:Nat}(hp:PassesOwn (model X.prog X.w) X.A X.env X.xe)(hc:X.calm=true)(hi:UI X F tg iter ui)(hg:UGt X F m tg g)(hb:USs X F body ub)
  (hs:∀x,foldedSetIterable iter X.env x=pure x:=by intro _;rfl):US X F (.For tg iter body [] pos) (zJg ui g ub):=⟨PS.imp (zAv hp hc hi.pi hg.pg hb.ps hs) λD σ H ⟨ρ,P,f,h,k1,k2,k3,k4⟩=>by
 refine⟨ρ,_,f,h,λJ Ts H1 ρ1 s1 it q1=>?_⟩
 have h01:=s1.hs f
 refine⟨λi m σ' H'=>m=Ts.length-i/\i<=Ts.length/\HS H1 H'/\∃ρi,FrOk X.K F ρi σ' H'/\gS g ub (Ts.drop i) P ρi,⟨_,rfl,Nat.zero_le _,HS.refl _,ρ1,s1.fr,q1⟩,?_⟩
 rintro i m σ' H' ⟨rfl,hi,hs,ρi,fi,q⟩
 obtain⟨go,yld,stop⟩:=it H' hs
 by_cases hlt:i<Ts.length
 ·refine .inr ⟨go i hlt,λσ2 H2=>HS H1 H2/\∃ρ2,FrOk X.K F ρ2 σ2 H2/\gS g ub (Ts.drop (i+1)) P ρ2,λσ2 H2 ⟨hs2,ρ2,f2,q2⟩=>⟨_,by omega,rfl,hlt,hs2,ρ2,f2,q2⟩,λx H3 hy=>?_⟩
  obtain⟨sm,T,eT,vx⟩:=yld i x H3 hlt hy
  have ed:Ts.drop i=T::Ts.drop (i+1):=by
   rw[List.drop_eq_getElem_cons hlt]
   congr 1
   rw[List.getElem?_eq_getElem hlt]at eT
   exact Option.some.inj eT
  rw[ed]at q
  have f3:=(Stp.same fi sm).fr
  refine⟨T,ρi,_,vx,f3,q,λσ4 ρ4 f4 _ _ _ _ q4=>?_⟩
  have h13:=hs.trans sm.hs
  exact⟨ρ4,_,f4,q4,λσ5 H5 ρ5 f5 hs5 q5=>⟨h13.trans hs5,ρ5,f5,q5⟩,k2,λσ5 H5 ρ5 f5 hs5 q5=>k1 _ _ _ f5 (h01.trans (h13.trans hs5)) q5,λσ5 H5 ρ5 f5 hs5 q5=>⟨h13.trans hs5,ρ5,f5,q5⟩⟩
 ·have e:i=Ts.length:=by omega
  subst e
  rw[List.drop_length]at q
  exact .inl ⟨stop,k1 _ _ _ fi (h01.trans hs) q⟩⟩
def zGM(t:UTt)(ub:UTs):UTs:=λP ρ=>∃W:Nat->aH->Prop,(∃m,W m ρ)/\∀m ρ,W m ρ->t ρ λb ρ1=>if b=true then ub {P with nx:=λρ'=>∃m',m'<m/\W m' ρ',ct:=λρ'=>∃m',m'<m/\W m' ρ',bk:=P.nx} ρ1 else P.nx ρ1
theorem qM{c:Expr}{body:List Stmt}{t:UTt}{ub:UTs}(hp:PassesOwn (model X.prog X.w) X.A X.env X.xe)(hc:UB X F c t)(hb:USs X F body ub):US X F (.While c body [] pos) (zGM t ub):=⟨PS.imp (zEi hp hc.pt hb.ps) λD σ H ⟨ρ,P,f,⟨W,⟨m0,w0⟩,h⟩,k1,k2,k3,k4⟩=>by
 refine⟨λm σ' H'=>HS H H'/\∃ρ',FrOk X.K F ρ' σ' H'/\W m ρ',⟨m0,HS.refl _,ρ,f,w0⟩,?_⟩
 rintro m σ' H' ⟨hs,ρ',f',w⟩
 refine⟨ρ',_,f',h m ρ' w,λb H1 ρ1 s1 q1=>?_⟩
 have h1:=hs.trans (s1.hs f')
 cases b with
 |true=>
  rw[if_pos rfl]at q1
  refine aZ ⟨λσ2 H2=>HS H H2/\∃m',m'<m/\∃ρ2,FrOk X.K F ρ2 σ2 H2/\W m' ρ2,λσ2 H2 ⟨hs2,m',lt,ρ2,f2,w2⟩=>⟨m',lt,hs2,ρ2,f2,w2⟩,?_⟩
  exact⟨ρ1,_,s1.fr,q1,λσ5 H5 ρ5 f5 hs5 ⟨m',lt,w5⟩=>⟨h1.trans hs5,m',lt,ρ5,f5,w5⟩,k2,λσ5 H5 ρ5 f5 hs5 q5=>k1 _ _ _ f5 (h1.trans hs5) q5,λσ5 H5 ρ5 f5 hs5 ⟨m',lt,w5⟩=>⟨h1.trans hs5,m',lt,ρ5,f5,w5⟩⟩
 |false=>
  rw[if_neg Bool.false_ne_true]at q1
  exact aK (k1 _ _ _ s1.fr h1 q1)⟩
end
end L2
namespace L2
open PySem PySem.Spec PyProof.Rows WordM
section
variable{K:W.Frag}{F:Fm}{ρ:aH}{σ:St}{H:Hp}{i:Nat}{s s':Sl}{a:Addr}{o o':HO}
theorem FrOk.put(fr:FrOk K F ρ σ H)(e:ρ[i]?=some s)(m:dA s=true)(q:ixv σ i=some (.ref a))(h:H a=some o)(n:fzb o=true)(v:HS H (upd H a o')->F.H0 a=none->uN K F (upd H a o') (some (.ref a)) s'):Stp K F σ ρ H (ρ.set i s') (upd H a o'):=by
 have hi:i<ρ.length:=(List.getElem?_eq_some_iff.mp e).1
 have h0:=(fr.own_at e m q).2
 have hd:=fr.fresh_nodk h0
 have hs:HS H (upd H a o'):=fD h (by cases o<;>first|rfl|exact absurd n Bool.false_ne_true)
 have st:∀b u,b≠a->H b=some u->upd H a o' b=some u:=λb u z e=>by rw[aY z];exact e
 have get:∀(j:Nat) (t:Sl),(ρ.set i s')[j]?=some t->(i=j/\t=s')\/(i≠j/\ρ[j]?=some t):=λj t e'=>by
  by_cases z:i=j
  ·subst z
   rw[List.getElem?_set_self hi]at e'
   exact .inl ⟨rfl,(Option.some.inj e').symm⟩
  ·rw[List.getElem?_set_ne z]at e';exact .inr ⟨z,e'⟩
 have sub:Sbv (ρ.set i s') ρ:=λj t e' m'=>by
  rcases get j t e' with⟨rfl,rfl⟩|⟨z,e'⟩
  ·exact⟨s,e,m⟩
  ·exact⟨t,e',m'⟩
 refine⟨⟨fr.d0,⟨λb u e1 n1=>st b u (λz=>by rw[z,h0]at e1;cases e1) (fr.kp.st b u e1 n1),λp c d=>?_⟩,by rw[List.length_set];exact fr.len,λj t e'=>?_,λj k b t t' e1 e2 m1 m2 q1 q2=>?_⟩,λb u e1 _ n1=>st b u (λz=>n1 i s e m (by rw[z];exact q)) e1,sub,λb u e1=>if z:b=a then⟨o',z▸aT⟩ else⟨u,st b u z e1⟩⟩
 ·obtain⟨ne,⟨S,k,e1⟩,ns,e2,l⟩:=fr.kp.dkk p c d
  exact⟨ne,⟨S,k,st _ _ (hd p c d).1.symm e1⟩,ns,st _ _ (hd p c d).2.symm e2,l⟩
 ·rcases get j t e' with⟨rfl,rfl⟩|⟨z,e'⟩
  ·rw[q];exact v hs h0
  ·have x:=fr.at_ j t e'
   cases t with
   |no=>trivial
   |va T=>obtain⟨y,e1,v⟩:=x;exact⟨y,e1,v.hs hs⟩
   |own Ts=>obtain⟨b,xs,e1,e2,e3,z',p⟩:=x;exact⟨b,xs,e1,st _ _ (λy=>z (fr.ap i j a s _ e e' m rfl q (by rw[e1,y]))) e2,e3,z',p.hs hs⟩
   |dct kts=>obtain⟨b,kvs,e1,e2,e3,n',z',p⟩:=x;exact⟨b,kvs,e1,st _ _ (λy=>z (fr.ap i j a s _ e e' m rfl q (by rw[e1,y]))) e2,e3,n',z',p.hs hs⟩
   |dk=>exact x
 ·obtain⟨u,eu,mu⟩:=sub j t e1 m1
  obtain⟨u',eu',mu'⟩:=sub k t' e2 m2
  exact fr.ap j k b u u' eu eu' mu mu' q1 q2
end
section
variable{X:Cx}{F:Fm}{e:Expr}{u:UT}{x:Str}{p apos cpos pos:Pos}
def yW(i:Nat)(u:UT):UT:=λρ Q=>(∃Ts,ρ[i]?=some (.own Ts))/\u ρ λT ρ1=>∃Ts,ρ1[i]?=some (.own Ts)/\Ts.length<100000/\Q nT (ρ1.set i (.own (Ts++[T])))
theorem fY(i:Nat)(h:UE X F e u)(hN:X.N[i]?=some x:=by rfl)(hv:Vis X.env.scope x:=by first|exact Or.inl rfl|exact Or.inr (Or.inl rfl)|exact Or.inr (Or.inr rfl))(hd:(x==("__debug__":Str))=false:=by decide)(hcd:(x==("__classdict__":Str))=false:=by decide)
  (hbase:attributeBase (.Name x p) "append" X.env (eval (.Name x p) X.env)=eval (.Name x p) X.env:=by rfl)
  (hfew:((backTo cpos (starEach [e] X.env)).all (λx=>!x.1)&&(backToKw cpos (keywordEach [] X.env)).all (λx=>x.1.isSome)&&decide (([e]:List Expr).length+([]:List Keyword).length+(if ([]:List Keyword).isEmpty then 0 else 1)<30))=true:=by rfl)
  (hline:(apos.endLine==cpos.line)=true:=by rfl) (hs:starEach [e] X.env=(false,eval e X.env)::starEach [] X.env:=by rfl) (hplain:(backTo cpos (starEach [] X.env)).any (·.1)=false:=by rfl) (hst:cQ e=false:=by rfl):
  UE X F (.Call (.Attribute (.Name x p) "append" apos) [e] [] cpos) (yW i u):=⟨PE.imp (lV PySem.F.plainAttrs_list PySem.F.slot_list_append PySem.F.type_list_append qE (hZ hN hv hd hcd) (aB h aC hst).pa hbase hfew hline hs hplain) λσ H QQ ⟨ρ,Q,f,⟨⟨Ts0,e0⟩,hu⟩,k⟩=>by
 obtain⟨a,xs,ea,eH,e3,z,pv⟩:=f.at_ i _ e0
 refine⟨_,fZ ea,.inl ⟨rfl,xs,SqL.of eH⟩,ρ,λas ρ1=>∃T,as=[.va T]/\∃Ts,ρ1[i]?=some (.own Ts)/\Ts.length<100000/\Q nT (ρ1.set i (.own (Ts++[T]))),f,?_,λvs as H1 ρ1 s1 p1 q1=>?_⟩
 ·show u ρ _
  have:(λT ρ1=>∃Ts,ρ1[i]?=some (.own Ts)/\Ts.length<100000/\Q nT (ρ1.set i (.own (Ts++[T]))))=(λT (ρ1:aH)=>(iE ρ1 λas ρ2=>∃T',Ar.va T::as=[.va T']/\∃Ts,ρ2[i]?=some (.own Ts)/\Ts.length<100000/\Q nT (ρ2.set i (.own (Ts++[T'])))) ):=by
   funext T ρ1
   apply propext
   constructor
   ·intro z;exact⟨T,rfl,z⟩
   ·rintro⟨T',e,z⟩;cases e;exact z
  rw[this]at hu
  exact hu
 ·obtain⟨T,rfl,Ts,e1,lt,q⟩:=q1
  cases p1 with
  |cons v t=>
   cases t
   obtain⟨a',ys,ea',eH1,e3',z',pv'⟩:=s1.fr.at_ i _ e1
   rw[ea]at ea';cases ea'
   have ll:ys.length=Ts.length:=Paired.length pv'
   refine⟨a,ys,_,rfl,rfl,eH1,rV (by omega),k _ _ _ _ (s1.trans (s1.fr.put (s':=.own (Ts++[T])) e1 rfl ea eH1 rfl λhs h0=>⟨a,_,rfl,aT,h0,by rw[List.length_append,List.length_singleton];omega,VAs.hs hs (Paired.snoc pv' v)⟩)) (.flat rfl) q⟩⟩
def zEf:V->List V->Hp->VK->Prop:=λx vs H Q=>∃l b xs zs,x=.ref l/\vs=[.ref b]/\H l=some (.lst xs)/\Rd H b (.lst zs)/\xs.length+zs.length<=sizeLine/\Q .non (upd H l (.lst (xs++zs)))
theorem zCy:MtM X "list.extend" zEf:=by
 rintro pins s σ H _ _ v us Q I rx rv ⟨l,b,xs,zs,rfl,rfl,hH,hB,hz,q⟩
 cases rx
 obtain⟨u,rfl,ru⟩:=rv.one
 cases ru
 obtain⟨z,its,n,r,hl,e⟩:=I.lstM hH
 obtain⟨z2,its2,n2,r2,e2⟩:=hB.ok I.hok
 have hl2:=r2.length
 have hlong:¬ (!its.toArray.isEmpty&&Builtin.List.listTooLong (its.toArray.size+its2.toArray.size))=true:=by
  rw[xY (by rw[List.size_toArray,List.size_toArray];omega),Bool.and_false]
  exact Bool.false_ne_true
 refine call_meets F.slot_list_extend ⟨_,e,rfl⟩ F.entry_list_extend (F.args_list_extend_2 _ _) (AutoSeq1.list_extend_list_list_0 l its.toArray n b its2.toArray n2 hlong (by rw[List.size_toArray];omega) (by rw[List.size_toArray,List.size_toArray];omega)) ⟨e,e2,?_⟩
 exact⟨.non,_,I.lset (its':=its++its2) hH e (by simp) (r.append r2) (by rw[List.length_append];omega),rfl,q⟩
def zFe(i:Nat)(u:UT):UT:=λρ Q=>(∃Ts,ρ[i]?=some (.own Ts))/\u ρ λT ρ1=>∃Ts Us,ρ1[i]?=some (.own Ts)/\T=.seq false Us/\Ts.length+Us.length<=100000/\Q nT (ρ1.set i (.own (Ts++Us)))
theorem vY(i:Nat)(h:UE X F e u)(hN:X.N[i]?=some x:=by rfl)(hv:Vis X.env.scope x:=by first|exact Or.inl rfl|exact Or.inr (Or.inl rfl)|exact Or.inr (Or.inr rfl))(hd:(x==("__debug__":Str))=false:=by decide)(hcd:(x==("__classdict__":Str))=false:=by decide)
  (hbase:attributeBase (.Name x p) "extend" X.env (eval (.Name x p) X.env)=eval (.Name x p) X.env:=by rfl)
  (hfew:((backTo cpos (starEach [e] X.env)).all (λx=>!x.1)&&(backToKw cpos (keywordEach [] X.env)).all (λx=>x.1.isSome)&&decide (([e]:List Expr).length+([]:List Keyword).length+(if ([]:List Keyword).isEmpty then 0 else 1)<30))=true:=by rfl)
  (hline:(apos.endLine==cpos.line)=true:=by rfl) (hs:starEach [e] X.env=(false,eval e X.env)::starEach [] X.env:=by rfl) (hplain:(backTo cpos (starEach [] X.env)).any (·.1)=false:=by rfl) (hst:cQ e=false:=by rfl):
  UE X F (.Call (.Attribute (.Name x p) "extend" apos) [e] [] cpos) (zFe i u):=⟨PE.imp (lV PySem.F.plainAttrs_list PySem.F.slot_list_extend PySem.F.type_list_extend zCy (hZ hN hv hd hcd) (aB h aC hst).pa hbase hfew hline hs hplain) λσ H QQ ⟨ρ,Q,f,⟨⟨Ts0,e0⟩,hu⟩,k⟩=>by
 obtain⟨a,xs,ea,eH,e3,z,pv⟩:=f.at_ i _ e0
 refine⟨_,fZ ea,.inl ⟨rfl,xs,SqL.of eH⟩,ρ,λas ρ1=>∃T,as=[.va T]/\∃Ts Us,ρ1[i]?=some (.own Ts)/\T=.seq false Us/\Ts.length+Us.length<=100000/\Q nT (ρ1.set i (.own (Ts++Us))),f,?_,λvs as H1 ρ1 s1 p1 q1=>?_⟩
 ·show u ρ _
  have:(λT ρ1=>∃Ts Us,ρ1[i]?=some (.own Ts)/\T=.seq false Us/\Ts.length+Us.length<=100000/\Q nT (ρ1.set i (.own (Ts++Us))))=(λT (ρ1:aH)=>(iE ρ1 λas ρ2=>∃T',Ar.va T::as=[.va T']/\∃Ts Us,ρ2[i]?=some (.own Ts)/\T'=.seq false Us/\Ts.length+Us.length<=100000/\Q nT (ρ2.set i (.own (Ts++Us)))) ):=by
   funext T ρ1
   apply propext
   constructor
   ·intro z;exact⟨T,rfl,z⟩
   ·rintro⟨T',e,z⟩;cases e;exact z
  rw[this]at hu
  exact hu
 ·obtain⟨T,rfl,Ts,Us,e1,rfl,le,q⟩:=q1
  cases p1 with
  |cons v t=>
   cases t
   have v:VA X.K H1 _ (.seq false Us):=v
   obtain⟨b,zs,rfl,⟨ob,hb⟩,_,pz⟩:=v.seqI
   obtain⟨a',ys,ea',eH1,e3',z',pv'⟩:=s1.fr.at_ i _ e1
   rw[ea]at ea';cases ea'
   have ll:ys.length=Ts.length:=Paired.length pv'
   have lz:zs.length=Us.length:=Paired.length pz
   refine⟨a,b,ys,zs,rfl,rfl,eH1,.inr ⟨ob,hb⟩,fO (by omega),k _ _ _ _ (s1.trans (s1.fr.put (s':=.own (Ts++Us)) e1 rfl ea eH1 rfl λhs h0=>⟨a,_,rfl,aT,h0,by rw[List.length_append];omega,VAs.hs hs (mN pv' pz)⟩)) (.flat rfl) q⟩⟩
def zGv(i:Nat)(u:UT):UT:=λρ Q=>(∃Ts,ρ[i]?=some (.own Ts))/\u ρ λJ ρ1=>∃(j:Int) (Ts:List Tv) (T:Tv),J=iT j/\ρ1[i]?=some (.own Ts)/\0<=j/\Ts[j.toNat]?=some T/\Q T (ρ1.set i (.own (Ts.eraseIdx j.toNat)))
theorem uX{α β:Type}{R:α->β->Prop}:∀{l:List α}{m:List β}(n:Nat),Paired R l m->Paired R (l.eraseIdx n) (m.eraseIdx n)
 |_,_,_,.nil=>.nil
 |_,_,0,.cons _ t=>t
 |_,_,n+1,.cons r t=>.cons r (uX n t)
theorem mH{α β:Type}{R:α->β->Prop}:∀{l:List α}{m:List β}{n:Nat}{y:β},Paired R l m->m[n]?=some y->∃x,l[n]?=some x/\R x y
 |_,_,_,_,.nil,e=>by simp at e
 |_,_,0,_,.cons r _,e=>by simp at e;subst e;exact⟨_,rfl,r⟩
 |_,_,n+1,_,.cons _ t,e=>by
  obtain⟨x,h1,h2⟩:=mH (n:=n) t (by simpa using e)
  exact⟨x,by simpa using h1,h2⟩
theorem xK(i:Nat)(h:UE X F e u)(hN:X.N[i]?=some x:=by rfl)(hv:Vis X.env.scope x:=by first|exact Or.inl rfl|exact Or.inr (Or.inl rfl)|exact Or.inr (Or.inr rfl))(hd:(x==("__debug__":Str))=false:=by decide)(hcd:(x==("__classdict__":Str))=false:=by decide)
  (hbase:attributeBase (.Name x p) "pop" X.env (eval (.Name x p) X.env)=eval (.Name x p) X.env:=by rfl)
  (hfew:((backTo cpos (starEach [e] X.env)).all (λx=>!x.1)&&(backToKw cpos (keywordEach [] X.env)).all (λx=>x.1.isSome)&&decide (([e]:List Expr).length+([]:List Keyword).length+(if ([]:List Keyword).isEmpty then 0 else 1)<30))=true:=by rfl)
  (hline:(apos.endLine==cpos.line)=true:=by rfl) (hs:starEach [e] X.env=(false,eval e X.env)::starEach [] X.env:=by rfl) (hplain:(backTo cpos (starEach [] X.env)).any (·.1)=false:=by rfl) (hst:cQ e=false:=by rfl):
  UE X F (.Call (.Attribute (.Name x p) "pop" apos) [e] [] cpos) (zGv i u):=⟨PE.imp (lV PySem.F.plainAttrs_list PySem.F.slot_list_pop PySem.F.type_list_pop zEq (hZ hN hv hd hcd) (aB h aC hst).pa hbase hfew hline hs hplain) λσ H QQ ⟨ρ,Q,f,⟨⟨Ts0,e0⟩,hu⟩,k⟩=>by
 obtain⟨a,xs,ea,eH,e3,z,pv⟩:=f.at_ i _ e0
 refine⟨_,fZ ea,.inl ⟨rfl,xs,SqL.of eH⟩,ρ,λas ρ1=>∃J,as=[.va J]/\∃(j:Int) (Ts:List Tv) (T:Tv),J=iT j/\ρ1[i]?=some (.own Ts)/\0<=j/\Ts[j.toNat]?=some T/\Q T (ρ1.set i (.own (Ts.eraseIdx j.toNat))),f,?_,λvs as H1 ρ1 s1 p1 q1=>?_⟩
 ·show u ρ _
  have:(λJ ρ1=>∃(j:Int) (Ts:List Tv) (T:Tv),J=iT j/\ρ1[i]?=some (.own Ts)/\0<=j/\Ts[j.toNat]?=some T/\Q T (ρ1.set i (.own (Ts.eraseIdx j.toNat))))=(λJ (ρ1:aH)=>(iE ρ1 λas ρ2=>∃J',Ar.va J::as=[.va J']/\∃(j:Int) (Ts:List Tv) (T:Tv),J'=iT j/\ρ2[i]?=some (.own Ts)/\0<=j/\Ts[j.toNat]?=some T/\Q T (ρ2.set i (.own (Ts.eraseIdx j.toNat)))) ):=by
   funext T ρ1
   apply propext
   constructor
   ·intro z;exact⟨T,rfl,z⟩
   ·rintro⟨T',e,z⟩;cases e;exact z
  rw[this]at hu
  exact hu
 ·obtain⟨J,rfl,j,Ts,T,rfl,e1,h0,eT,q⟩:=q1
  cases p1 with
  |cons v t=>
   cases t
   obtain⟨rfl,_⟩:=VA.leafI v
   obtain⟨a',ys,ea',eH1,e3',z',pv'⟩:=s1.fr.at_ i _ e1
   rw[ea]at ea';cases ea'
   have ll:ys.length=Ts.length:=Paired.length pv'
   have lt:=(List.getElem?_eq_some_iff.mp eT).1
   obtain⟨y,ey,vy⟩:=mH pv' eT
   have s:=s1.fr.put (o':=.lst (ys.eraseIdx j.toNat)) e1 rfl ea eH1 rfl (s':=.own (Ts.eraseIdx j.toNat)) λhs h0=>⟨a,_,rfl,aT,h0,by rw[List.length_eraseIdx];split<;>omega,VAs.hs hs (uX _ pv')⟩
   refine⟨a,ys,j,j.toNat,y,rfl,rfl,eH1,by omega,by omega,PySem.StrLaws.seqIndex_nonneg h0 (by omega),ey,k _ _ _ _ (s1.trans s) (vy.hs (s.hs s1.fr)) q⟩⟩
def zGP(i:Nat):UTs:=λP ρ=>P.nx (ρ.set i (.dct []))
theorem zDZ{i:Nat}{pos' dpos:Pos}(hN:X.N.Nodup)(hi:X.N[i]?=some x)(hx:Loc X.env.scope x)(hs:swapsWith (.Dict [] [] dpos) (some (.Name x pos')) pos.line X.env=pure false:=by rfl)(hf:X.fn x=true\/X.env.scope.names.lookup x=some .local:=by first|exact .inl rfl|exact .inr rfl|assumption):
  US X F (.Assign [.Name x pos'] (.Dict [] [] dpos) pos) (zGP i):=⟨PS.imp (hX hN hi hx zEn hs hf) λD σ H ⟨ρ,P,f,h,k1,_⟩ a n=>by
 have s:=Stp.same f (cH (o:=.dK []) n)
 exact k1 _ _ _ (s.fr.set (s:=.dct []) (λ_=>⟨a,[],rfl,aT,f.none0 n,.nil,by decide,.nil⟩) (λ_ b eb j t ej mj qj=>by cases eb;exact s.notown f n j t ej mj qj)) (s.hs f) h⟩
def iF(kts:List (Str×Tv))(k:Str)(T:Tv):List (Str×Tv):=if (kts.any λkt=>decide (kt.1=k))=true then kts.map (λkt=>if kt.1=k then(kt.1,T) else kt) else kts++[(k,T)]
theorem zE6{K:W.Frag}{H:Hp}{kvs:List (Key×V)}{kts:List (Str×Tv)}(p:VAk K H kvs kts)(k:Str):(kvs.any λkv=>decide (kv.1=.inr k))=kts.any λkt=>decide (kt.1=k):=by
 unfold VAk at p
 induction p with
 |nil=>rfl
 |cons r _ ih=>
  rw[List.any_cons,List.any_cons,ih,r.1]
  congr 1
  rw[Bool.eq_iff_iff,decide_eq_true_iff,decide_eq_true_iff]
  exact⟨λz=>Sum.inr.inj z,λz=>by rw[z]⟩
theorem zE5{K:W.Frag}{H:Hp}{kvs:List (Key×V)}{kts:List (Str×Tv)}(p:VAk K H kvs kts){k:Str}{v:V}{T:Tv}(q:VA K H v T):VAk K H (cL kvs (.inr k) v) (iF kts k T):=by
 unfold cL iF
 rw[zE6 p k]
 split
 ·rename_i zz
  clear zz
  unfold VAk at p ⊢
  induction p with
  |nil=>exact .nil
  |@cons kv kt _ _ r _ ih=>
   refine .cons ?_ ih
   dsimp only
   by_cases z:kt.1=k
   ·rw[if_pos z,if_pos (by rw[r.1,z])];exact⟨r.1,q⟩
   ·rw[if_neg z,if_neg (by rw[r.1];exact λy=>z (Sum.inr.inj y))];exact r
 ·exact Paired.snoc p ⟨rfl,q⟩
theorem zDi(kts:List (Str×Tv))(k:Str)(T:Tv):(iF kts k T).map (·.1)=if (kts.any λkt=>decide (kt.1=k))=true then kts.map (·.1) else kts.map (·.1)++[k]:=by
 unfold iF
 split
 ·rw[List.map_map]
  refine List.map_congr_left λkt _=>?_
  show(if kt.1=k then(kt.1,T) else kt).1=kt.1
  split<;>rfl
 ·rw[List.map_append];rfl
theorem zCs{kts:List (Str×Tv)}{k:Str}{T:Tv}(h:(kts.map (·.1)).Nodup):((iF kts k T).map (·.1)).Nodup:=by
 rw[zDi]
 split
 ·exact h
 ·rename_i n
  rw[List.nodup_append]
  refine⟨h,by simp,λa ha b hb=>?_⟩
  rw[List.mem_singleton]at hb
  subst hb
  rintro rfl
  obtain⟨kt,hk,rfl⟩:=List.mem_map.mp ha
  exact n (List.any_eq_true.mpr ⟨kt,hk,by simp⟩)
def zIg(i:Nat)(uk uv:UT):UTs:=λP ρ=>uv ρ λT ρ1=>(∃kts,ρ1[i]?=some (.dct kts))/\uk ρ1 λk ρ2=>∃kts s,ρ2[i]?=some (.dct kts)/\k=sT s/\(iF kts s T).length<64/\P.nx (ρ2.set i (.dct (iF kts s T)))
theorem zFa{i:Nat}{k:Expr}{uk uv:UT}{pos':Pos}(hu:X.A.units+1<cLine)(hN:X.N[i]?=some x)(hv:Vis X.env.scope x)(hk:UE X F k uk)(he:UE X F e uv)(hs:swapsWith e (some (.Subscript (.Name x p) k pos')) pos.line X.env=pure false:=by rfl)(hd:(x==("__debug__":Str))=false:=by decide)(hcd:(x==("__classdict__":Str))=false:=by decide):
  US X F (.Assign [.Subscript (.Name x p) k pos'] e pos) (zIg i uk uv):=⟨PS.imp (zFz hu (hZ hN hv hd hcd) hk.pe he.pe hs) λD σ H ⟨ρ,P,f,h,k1,_⟩=>by
 refine⟨ρ,_,f,h,λv T H1 ρ1 s1 v1 q1=>?_⟩
 obtain⟨⟨kts0,e0⟩,q1⟩:=q1
 obtain⟨a,kvs0,ea,eH0,_⟩:=s1.fr.at_ i _ e0
 refine⟨_,fZ ea,ρ1,_,s1.fr,q1,λy Ky H2 ρ2 s2 v2 q2=>?_⟩
 obtain⟨kts,s,e2,rfl,lt,q⟩:=q2
 obtain⟨rfl,_⟩:=v2.leafI
 obtain⟨a',kvs,ea',eH,h0,nd,l64,p⟩:=s2.fr.at_ i _ e2
 rw[ea]at ea';cases ea'
 have ll:kvs.length=kts.length:=Paired.length p
 refine⟨a,_,rfl,DPut.k (k:=.inr s) eH (rV (by omega)),?_⟩
 have st:=s2.fr.put (o':=.dK (cL kvs (.inr s) v)) e2 rfl ea eH rfl (s':=.dct (iF kts s T)) λhs h0=>⟨a,_,rfl,aT,h0,zCs nd,lt,VAk.hs hs (zE5 p (v1.hs (s2.hs s1.fr)))⟩
 exact k1 _ _ _ st.fr (((s1.trans s2).trans st).hs f) q⟩
end
theorem Inv.frozen{X:Cx}{pins:List (Addr×Obj)}{σ:St}{H H2:Hp}{s:Shared}(I:Inv X pins σ H s)(fro:FrozenA mD H H2)(ok2:HOk X.prog X.w H2 s.heap):Inv X pins σ H2 s:=by
 refine⟨I.ok,I.os,I.bare,⟨I.base.keep,I.base.slot,λb o e n hx=>fro.none_of (I.base.free b o e n hx),I.base.there,λb xs e=>fro.keep (I.base.tups b xs e) rfl,λb o u e=>fro.keep (I.base.frzs b o u e) rfl,λb ps e=>?_⟩,I.loc,I.cell,fro.none_of I.free,λx c e=>fro.none_of (I.freeC x c e),λp hp=>?_,ok2,I.len⟩
 ·obtain⟨more,z⟩:=I.base.tbls b ps e
  exact⟨more,fro.keep z rfl⟩
 ·obtain⟨p1,p2,p3⟩:=I.pin p hp
  exact⟨p1,fro.none_of p2,p3⟩
theorem Inv.thaw{X:Cx}{pins:List (Addr×Obj)}{σ:St}{H H3 H4:Hp}{s s':Shared}(I:Inv X pins σ H s)(I3:Inv X pins σ H3 s')(th:Thaw H H3 H4):Inv X pins σ H4 s':=by
 have stay:∀b o,H3 b=some o->(∀u ob,o≠.frz ob u)->H4 b=some o:=λb o e n=>by
  rcases th b with⟨u,ob,_,_,z,_⟩|⟨_,z⟩
  ·rw[e]at z;cases z;exact absurd rfl (n u ob)
  ·rw[z];exact e
 have none4:∀b,H3 b=none->H4 b=none:=λb e=>by
  rcases th b with⟨u,ob,_,_,z,_⟩|⟨_,z⟩
  ·rw[e]at z;cases z
  ·rw[z];exact e
 refine⟨I3.ok,I3.os,I3.bare,⟨I3.base.keep,I3.base.slot,λb o e n hx=>none4 b (I3.base.free b o e n hx),I3.base.there,λb xs e=>stay b _ (I3.base.tups b xs e) (λ_ _ z=>by cases z),λb o u e=>?_,λb ps e=>?_⟩,I3.loc,I3.cell,none4 _ I3.free,λx c e=>none4 c (I3.freeC x c e),λp hp=>?_,λb o e=>?_,I3.len⟩
 ·rcases th b with⟨o',ob,n,z,_⟩|⟨_,z⟩
  ·rw[I.base.frzs b o u e]at z;cases z;exact absurd n Bool.false_ne_true
  ·rw[z];exact I3.base.frzs b o u e
 ·obtain⟨more,z⟩:=I3.base.tbls b ps e
  exact⟨more,stay b _ z (λ_ _ z=>by cases z)⟩
 ·obtain⟨p1,p2,p3⟩:=I3.pin p hp
  exact⟨p1,none4 _ p2,p3⟩
 ·have st:∀o,ObjOk X.prog X.w H3 s'.heap b o->ObjOk X.prog X.w H4 s'.heap b o:=λo x=>x.stay (λ_ _ _ r=>r) (λd r=>stay d _ r (λ_ _ z=>by cases z)) λd xs r=>stay d _ r (λ_ _ z=>by cases z)
  rcases th b with⟨o',ob,n,_,z,z'⟩|⟨_,z⟩
  ·rw[z']at e
   cases e
   obtain⟨_,y⟩:=(show ObjOk X.prog X.w H3 s'.heap b (.frz ob o) from I3.hok b _ z)
   exact st o y
  ·rw[z]at e
   exact st o (I3.hok b o e)
def pkS:Sl->Sl
 |.own Ts=>.va (.seq false Ts)
 |.dct kts=>.va (.dct kts)
 |.dk=>.no
 |s=>s
def pkE(ρ:aH):aH:=ρ.map pkS
theorem tI{K:W.Frag}{F:Fm}{ρ:aH}{σ:St}{H H2:Hp}(f:FrOk K F ρ σ H)(fro:FrozenA mD H H2):FrOk K ⟨H2,none⟩ (pkE ρ) σ H2:=by
 have hs:=fro.hs
 refine⟨λ_ _ z=>(nomatch z),⟨λ_ _ e _=>e,λ_ _ z=>(nomatch z)⟩,by unfold pkE;rw[List.length_map];exact f.len,λi s e=>?_,λi j a s t e _ m _ _ _=>?_⟩
 ·unfold pkE at e
  rw[List.getElem?_map]at e
  obtain⟨s0,e0,rfl⟩:=Option.map_eq_some_iff.mp e
  have h:=f.at_ i s0 e0
  cases s0 with
  |no=>trivial
  |va T=>obtain⟨y,e1,v⟩:=h;exact⟨y,e1,v.hs hs⟩
  |own Ts=>
   obtain⟨a,xs,e1,e2,e3,z,p⟩:=h
   obtain⟨ob,e4⟩:=fro.fz (b:=a) rfl e2 rfl
   exact⟨_,e1,VA.seq (t:=false) ⟨ob,e4⟩ z (p.hs hs)⟩
  |dct kts=>
   obtain⟨a,kvs,e1,e2,e3,n,z,p⟩:=h
   obtain⟨ob,e4⟩:=fro.fz (b:=a) rfl e2 rfl
   exact⟨_,e1,VA.dct ⟨ob,e4⟩ n z (p.hs hs)⟩
  |dk=>trivial
 ·unfold pkE at e
  rw[List.getElem?_map]at e
  obtain⟨s0,e0,rfl⟩:=Option.map_eq_some_iff.mp e
  cases s0<;>cases m
theorem rQ{K:W.Frag}{ρ ρ':aH}{σ:St}{H2 H3:Hp}{H0:Hp}(s:Stp K ⟨H0,none⟩ σ (pkE ρ) H2 ρ' H3):Same H2 H3:=λb o e=>s.st b o e (λ_ _ z=>(nomatch z)) λi t e1 m=>by
 unfold pkE at e1
 rw[List.getElem?_map]at e1
 obtain⟨s0,e0,rfl⟩:=Option.map_eq_some_iff.mp e1
 cases s0<;>cases m
section
variable{X:Cx}{F:Fm}{e:Expr}
def zH4(u:UT):UT:=λρ Q=>u (pkE ρ) λT _=>∃v,T=.leaf v/\Q T ρ
theorem yV{u:UT}(h:∀F,UE X F e u):UE X F e (zH4 u):=⟨λpins s σ H QQ I ⟨ρ,Q,f,hu,k⟩=>by
 obtain⟨H2,fro,ok2⟩:=qH I.hok
 have f2:=tI f fro
 refine thn ((h ⟨H2,none⟩).pe pins s σ H2 (λx H3=>∃v ρ',Stp X.K ⟨H2,none⟩ σ (pkE ρ) H2 ρ' H3/\VA X.K H3 x (.leaf v)/\Q (.leaf v) ρ) (I.frozen fro ok2) ⟨_,_,f2,hu,λx T H' ρ' st v q=>?_⟩) λu s' ⟨x,H3,I3,r,q⟩=>?_
 ·obtain⟨w,rfl,q⟩:=q
  exact⟨w,ρ',st,v,q⟩
 ·obtain⟨v,ρ',st,va,q⟩:=q
  obtain⟨H4,th⟩:=rD H H3
  obtain⟨rfl,fl⟩:=va.leafI
  exact⟨x,H4,I.thaw I3 th,r,k _ _ _ _ (Stp.same f (Thaw.same fro (rQ st) th)) (.flat fl) q⟩⟩
def zGw(u:UTt):UTt:=λρ Q=>u (pkE ρ) λb _=>Q b ρ
theorem lD{u:UTt}(h:∀F,UB X F e u):UB X F e (zGw u):=⟨λpins s σ H QQ I ⟨ρ,Q,f,hu,k⟩=>by
 obtain⟨H2,fro,ok2⟩:=qH I.hok
 have f2:=tI f fro
 refine thn ((h ⟨H2,none⟩).pt pins s σ H2 (λb H3=>∃ρ',Stp X.K ⟨H2,none⟩ σ (pkE ρ) H2 ρ' H3/\Q b ρ) (I.frozen fro ok2) ⟨_,_,f2,hu,λb H' ρ' st q=>⟨ρ',st,q⟩⟩) λb s' ⟨H3,I3,q⟩=>?_
 obtain⟨ρ',st,q⟩:=q
 obtain⟨H4,th⟩:=rD H H3
 exact⟨H4,I.thaw I3 th,k _ _ _ (Stp.same f (Thaw.same fro (rQ st) th)) q⟩⟩
end
end L2
namespace L2
open PySem PySem.Spec PyProof.Rows WordM
mutual
def eqT:Tv->Tv->Bool
 |.leaf v,.leaf w=>eqV v w
 |.seq s xs,.seq t ys=>s==t&&bJ xs ys
 |_,_=>false
def bJ:List Tv->List Tv->Bool
 |[],[]=>true
 |x::xs,y::ys=>eqT x y&&bJ xs ys
 |_,_=>false
end
def EqD:Nat->Tv->Prop
 |0,_=>False
 |_+1,.leaf _=>True
 |n+1,.seq _ xs=>∀U∈xs,EqD n U
 |_+1,.dct _=>False
theorem qZ:∀{xs ys:List Tv},xs.length≠ys.length->bJ xs ys=false
 |[],[],h=>absurd rfl h
 |[],_::_,_=>by simp[bJ]
 |_::_,[],_=>by simp[bJ]
 |x::xs,y::ys,h=>by
  have:=qZ (xs:=xs) (ys:=ys) (λe=>h (by simp[e]))
  simp[bJ,this]
theorem pV:∀{xs ys:List Tv},xs.length=ys.length->(List.range xs.length).all (λi=>eqT (xs.getD i nT) (ys.getD i nT))=bJ xs ys
 |[],[],_=>by simp[bJ]
 |[],_::_,h=>by simp at h
 |_::_,[],h=>by simp at h
 |x::xs,y::ys,h=>by
  have ih:=pV (xs:=xs) (ys:=ys) (by simpa using h)
  rw[List.length_cons,List.range_succ_eq_map,List.all_cons,List.all_map]
  show(eqT x y&&(List.range xs.length).all λi=>eqT (xs.getD i nT) (ys.getD i nT))=bJ (x::xs) (y::ys)
  rw[ih]
  simp[bJ]
theorem EqD.vp{K:W.Frag}{H:Hp}:∀{n d:Nat}{x:V}{T:Tv},EqD n T->VP K H d x T->VP K H n x T
 |0,_,_,_,h,_=>False.elim h
 |_+1,0,_,_,_,h=>False.elim h
 |n+1,d+1,x,T,h,v=>by
  rcases v with v|⟨t,a,xs,Ts,e1,e2,rfl,z,p⟩|⟨a,kvs,kts,e1,e2,rfl,_⟩
  ·exact .inl v
  ·have g:∀U∈Ts,EqD n U:=h
   refine .inr (.inl ⟨t,a,xs,Ts,e1,e2,rfl,z,?_⟩)
   clear e2 z h
   induction p with
   |nil=>exact .nil
   |cons r _ ih=>exact .cons ((g _ (.head _)).vp r) (ih λU hU=>g U (.tail _ hU))
  ·exact False.elim h
section
variable{X:Cx}{pins:List (Addr×Obj)}{σ:St}{H:Hp}{s:Shared}
theorem zEK{v:V}(h:cN v=true):eqV v v=true:=by
 cases v<;>first|exact absurd h Bool.false_ne_true|simp[eqV]
theorem PSeq.isList{a:Addr}{xs:List V}(I:Inv X pins σ H s)(h:PSeq X.K H false a xs):∃its:List Value,Vals xs its/\s.heap.IsList a its.toArray:=by
 obtain⟨its,r,p,_⟩:=I.list (bU h)
 exact⟨its,r,p.isList⟩
theorem PSeq.isTup{a:Addr}{xs:List V}(I:Inv X pins σ H s)(h:PSeq X.K H true a xs):∃its:List Value,Vals xs its/\s.heap.IsTuple a its.toArray:=by
 obtain⟨its,r,p,_⟩:=I.tuple h
 exact⟨its,r,p⟩
theorem zAa(I:Inv X pins σ H s):∀{n:Nat}{x:V}{T U:Tv},VP X.K H n x T->VP X.K H n x U->EqD n T->EqD n U->eqT T U=true
 |0,_,_,_,h,_,_,_=>False.elim h
 |n+1,x,T,U,h,h',d,d'=>by
  rcases h with⟨f,rfl⟩|⟨t,a,xs,Ts,rfl,e2,rfl,z,p⟩|⟨a,kvs,kts,rfl,e2,rfl,_⟩
  ·rcases h' with⟨_,rfl⟩|⟨t',a',xs',Ts',rfl,_⟩|⟨a',kvs',kts',rfl,_⟩
   ·simp[eqT,zEK f]
   ·cases f
   ·cases f
  ·rcases h' with⟨f,rfl⟩|⟨t',a',xs',Ts',e1',e2',rfl,z',p'⟩|⟨a',kvs',kts',e1',e2',rfl,_⟩
   ·cases f
   ·cases e1'
    have tt:t=t':=by
     cases t<;>cases t'<;>first|rfl|skip
     ·obtain⟨_,_,l1⟩:=PSeq.isList I e2
      obtain⟨_,_,l2⟩:=PSeq.isTup I e2'
      exact absurd rfl (SeqAt.ne_of_list_tuple l1 l2)
     ·obtain⟨_,_,l1⟩:=PSeq.isList I e2'
      obtain⟨_,_,l2⟩:=PSeq.isTup I e2
      exact absurd rfl (SeqAt.ne_of_list_tuple l1 l2)
    subst tt
    have ex:xs=xs':=by
     cases t with
     |false=>exact I.list_inj (bU e2) (bU e2')
     |true=>exact I.tuple_inj e2 e2'
    subst ex
    have d:∀U∈Ts,EqD n U:=d
    have d':∀U∈Ts',EqD n U:=d'
    have key:∀{xs:List V} {Ts Ts':List Tv},Paired (VP X.K H n) xs Ts->Paired (VP X.K H n) xs Ts'->(∀U∈Ts,EqD n U)->(∀U∈Ts',EqD n U)->bJ Ts Ts'=true:=by
     intro xs Ts Ts' p
     induction p generalizing Ts' with
     |nil=>intro p' _ _;cases p';simp[bJ]
     |cons r _ ih=>
      intro p' d d'
      cases p' with
      |cons r' t'=>simp[bJ,zAa I r r' (d _ (.head _)) (d' _ (.head _)),ih t' (λU hU=>d U (.tail _ hU)) (λU hU=>d' U (.tail _ hU))]
    simp[eqT,key p p' d d']
   ·exact False.elim d'
  ·exact False.elim d
theorem jI{x:V}(h:cN x=true):x=.non\/(∃b,x=.bl b)\/(∃i,x=.int i)\/∃z,x=.str z:=by
 cases x with
 |non=>exact .inl rfl
 |bl b=>exact .inr (.inl ⟨b,rfl⟩)
 |int i=>exact .inr (.inr (.inl ⟨i,rfl⟩))
 |str z=>exact .inr (.inr (.inr ⟨z,rfl⟩))
 |_=>exact absurd (show false=true from h) Bool.false_ne_true
open SeqAt in
theorem mK(I:Inv X pins σ H s){A:Around}(hu:A.units<cLine){x:V}{v:Value}{t:Bool}{a:Addr}{xs:List V}(f:cN x=true)(r:RelV x v)(h:PSeq X.K H t a xs):
  EqAt A s v (.ref a) false/\EqAt A s (.ref a) v false/\RcAt A s v (.ref a) false/\RcAt A s (.ref a) v false/\RcNeAt A s v (.ref a) true/\RcNeAt A s (.ref a) v true:=by
 cases t with
 |false=>
  obtain⟨_,_,l⟩:=PSeq.isList I h
  rcases jI f with rfl|⟨b,rfl⟩|⟨b,rfl⟩|⟨b,rfl⟩
  ·cases r;exact⟨.none_list l hu,.list_none l hu,.none_list l hu,.list_none l hu,.none_list l hu,.list_none l hu⟩
  ·cases r;exact⟨.bool_list b l hu,.list_bool b l hu,.bool_list b l hu,.list_bool b l hu,.bool_list b l hu,.list_bool b l hu⟩
  ·obtain⟨t,rfl⟩:=r;exact⟨.int_list b t l hu,.list_int b t l hu,.int_list b t l hu,.list_int b t l hu,.int_list b t l hu,.list_int b t l hu⟩
  ·obtain⟨t,rfl⟩:=r;exact⟨.str_list b t l hu,.list_str b t l hu,.str_list b t l hu,.list_str b t l hu,.str_list b t l hu,.list_str b t l hu⟩
 |true=>
  obtain⟨_,_,l⟩:=PSeq.isTup I h
  rcases jI f with rfl|⟨b,rfl⟩|⟨b,rfl⟩|⟨b,rfl⟩
  ·cases r;exact⟨.none_tuple l hu,.tuple_none l hu,.none_tuple l hu,.tuple_none l hu,.none_tuple l hu,.tuple_none l hu⟩
  ·cases r;exact⟨.bool_tuple b l hu,.tuple_bool b l hu,.bool_tuple b l hu,.tuple_bool b l hu,.bool_tuple b l hu,.tuple_bool b l hu⟩
  ·obtain⟨t,rfl⟩:=r;exact⟨.int_tuple b t l hu,.tuple_int b t l hu,.int_tuple b t l hu,.tuple_int b t l hu,.int_tuple b t l hu,.tuple_int b t l hu⟩
  ·obtain⟨t,rfl⟩:=r;exact⟨.str_tuple b t l hu,.tuple_str b t l hu,.str_tuple b t l hu,.tuple_str b t l hu,.str_tuple b t l hu,.tuple_str b t l hu⟩
open SeqAt in
theorem zFo{A:Around}{x y:V}{v u:Value}(fx:cN x=true)(fy:cN y=true)(rx:RelV x v)(ry:RelV y u):RcAt A s v u (eqV x y)/\RcNeAt A s v u (!eqV x y):=by
 rcases jI fx with rfl|⟨a,rfl⟩|⟨a,rfl⟩|⟨a,rfl⟩<;>rcases jI fy with rfl|⟨b,rfl⟩|⟨b,rfl⟩|⟨b,rfl⟩
 ·cases rx;cases ry;exact⟨.none_none,.none_none⟩
 ·cases rx;cases ry;exact⟨.none_bool b,.none_bool b⟩
 ·cases rx;obtain⟨t,rfl⟩:=ry;exact⟨.none_int b t,.none_int b t⟩
 ·cases rx;obtain⟨t,rfl⟩:=ry;exact⟨.none_str b t,.none_str b t⟩
 ·cases rx;cases ry;exact⟨.bool_none a,.bool_none a⟩
 ·cases rx;cases ry;exact⟨.bool_bool a b,.bool_bool a b⟩
 ·cases rx;obtain⟨t,rfl⟩:=ry;exact⟨.bool_int a b t,.bool_int a b t⟩
 ·cases rx;obtain⟨t,rfl⟩:=ry;exact⟨.bool_str a b t,.bool_str a b t⟩
 ·obtain⟨t',rfl⟩:=rx;cases ry;exact⟨.int_none a t',.int_none a t'⟩
 ·obtain⟨t',rfl⟩:=rx;cases ry;exact⟨.int_bool a t' b,.int_bool a t' b⟩
 ·obtain⟨t',rfl⟩:=rx;obtain⟨t,rfl⟩:=ry;exact⟨.int_int a t' b t,.int_int a t' b t⟩
 ·obtain⟨t',rfl⟩:=rx;obtain⟨t,rfl⟩:=ry;exact⟨.int_str a t' b t,.int_str a t' b t⟩
 ·obtain⟨t',rfl⟩:=rx;cases ry;exact⟨.str_none a t',.str_none a t'⟩
 ·obtain⟨t',rfl⟩:=rx;cases ry;exact⟨.str_bool a t' b,.str_bool a t' b⟩
 ·obtain⟨t',rfl⟩:=rx;obtain⟨t,rfl⟩:=ry;exact⟨.str_int a t' b t,.str_int a t' b t⟩
 ·obtain⟨t',rfl⟩:=rx;obtain⟨t,rfl⟩:=ry;exact⟨.str_str a t' b t,.str_str a t' b t⟩
theorem xH{xs:List V}{us:List Value}(r:Vals xs us){j:Nat}(h:j<us.toArray.size):∃x,xs[j]?=some x/\RelV x us.toArray[j]:=by
 have l:=r.length
 have k:j<xs.length:=by rw[l];simpa using h
 obtain⟨u,hu,ru⟩:=r.get (i:=j) (x:=xs[j]) (List.getElem?_eq_getElem k)
 refine⟨_,List.getElem?_eq_getElem k,?_⟩
 have e1:us.toArray[j]=u:=by
  obtain⟨_,e⟩:=List.getElem?_eq_some_iff.mp hu
  simpa using e
 rw[e1];exact ru
open SeqAt in
theorem zAs(I:Inv X pins σ H s){A:Around}(hu:A.units<cLine){t:Bool}{a b:Addr}{xs ys:List V}{Ts Us:List Tv}(ha:PSeq X.K H t a xs)(hb:PSeq X.K H t b ys)(lx:xs.length=Ts.length)(ly:ys.length=Us.length)
  (it:∀(j:Nat) (x y:V) (T U:Tv) (v u:Value),xs[j]?=some x->ys[j]?=some y->Ts[j]?=some T->Us[j]?=some U->RelV x v->RelV y u->EqAt A.in1 s v u (eqT T U)):RcAt A s (.ref a) (.ref b) (bJ Ts Us)/\RcNeAt A s (.ref a) (.ref b) (!bJ Ts Us):=by
 have item:∀{vs us:List Value},Vals xs vs->Vals ys us->∀j (h1:j<vs.toArray.size) (h2:j<us.toArray.size),EqAt A.in1 s vs.toArray[j] us.toArray[j] (eqT (Ts.getD j nT) (Us.getD j nT)):=λ{vs us} r1 r2 j h1 h2=>by
  obtain⟨x,ex,rx⟩:=xH r1 h1
  obtain⟨y,ey,ry⟩:=xH r2 h2
  have k1:=(List.getElem?_eq_some_iff.mp ex).1
  have k2:=(List.getElem?_eq_some_iff.mp ey).1
  refine it j x y _ _ _ _ ex ey ?_ ?_ rx ry
  ·rw[List.getD_eq_getElem?_getD,List.getElem?_eq_getElem (by omega)];rfl
  ·rw[List.getD_eq_getElem?_getD,List.getElem?_eq_getElem (by omega)];rfl
 cases t with
 |false=>
  obtain⟨vs,r1,l1⟩:=PSeq.isList I ha
  obtain⟨us,r2,l2⟩:=PSeq.isList I hb
  have n1:=r1.length
  have n2:=r2.length
  by_cases hl:Ts.length=Us.length
  ·have e1:=RcAt.lists l1 l2 (by simp only[List.size_toArray];omega) hu (item r1 r2)
   have e2:=RcNeAt.lists l1 l2 (by simp only[List.size_toArray];omega) hu (item r1 r2)
   rw[show vs.toArray.size=Ts.length by rw[List.size_toArray];omega,pV hl]at e1 e2
   exact⟨e1,e2⟩
  ·rw[qZ hl]
   have hne:(vs.toArray.size != us.toArray.size)=true:=by
    rw[bne_iff_ne,List.size_toArray,List.size_toArray];omega
   exact⟨.lists_lengths l1 l2 hne hu,.lists_lengths l1 l2 hne hu⟩
 |true=>
  obtain⟨vs,r1,l1⟩:=PSeq.isTup I ha
  obtain⟨us,r2,l2⟩:=PSeq.isTup I hb
  have n1:=r1.length
  have n2:=r2.length
  have e1:=RcAt.tuples l1 l2 hu (item r1 r2)
  have e2:=RcNeAt.tuples l1 l2 hu (item r1 r2)
  have ee:((List.range (min vs.toArray.size us.toArray.size)).all (λi=>eqT (Ts.getD i nT) (Us.getD i nT))&&vs.toArray.size==us.toArray.size)=bJ Ts Us:=by
   rw[show vs.toArray.size=Ts.length by rw[List.size_toArray];omega,show us.toArray.size=Us.length by rw[List.size_toArray];omega]
   by_cases hl:Ts.length=Us.length
   ·rw[<-hl,Nat.min_self,pV hl];simp
   ·rw[qZ hl,beq_eq_false_iff_ne.mpr hl,Bool.and_false]
  rw[ee]at e1 e2
  exact⟨e1,e2⟩
open SeqAt in
theorem sA(I:Inv X pins σ H s):∀(n:Nat) {A:Around}{x y:V}{T U:Tv}{v u:Value},A.units+n<cLine->EqD n T->EqD n U->VP X.K H n x T->VP X.K H n y U->RelV x v->RelV y u->EqAt A s v u (eqT T U)
 |0,_,_,_,_,_,_,_,_,h,_,_,_,_,_=>False.elim h
 |n+1,A,x,y,T,U,v,u,hu,d,d',h,h',rx,ry=>by
  have hu0:A.units<cLine:=by omega
  have hh:=h
  have hh':=h'
  rcases h with⟨f,rfl⟩|⟨t,a,xs,Ts,rfl,e2,rfl,z,p⟩|⟨a,kvs,kts,rfl,e2,rfl,_⟩
  ·rcases h' with⟨f',rfl⟩|⟨t',a',xs',Ts',rfl,e2',rfl,z',p'⟩|⟨a',kvs',kts',rfl,_,rfl,_⟩
   ·have:=zAF (A:=A) (s:=s) rx ry f f'
    simpa[eqT]using this
   ·cases ry
    have:=(mK I hu0 f rx e2').1
    simpa[eqT]using this
   ·exact False.elim d'
  ·rcases h' with⟨f',rfl⟩|⟨t',b,ys,Us,rfl,e2',rfl,z',p'⟩|⟨a',kvs',kts',rfl,_,rfl,_⟩
   ·cases rx
    have:=(mK I hu0 f' ry e2).2.1
    simpa[eqT]using this
   ·cases rx
    cases ry
    by_cases ab:a=b
    ·subst ab
     have:=zAa I hh hh' d d'
     rw[this]
     exact EqAt.same _
    ·by_cases tt:t=t'
     ·subst tt
      have d:∀U∈Ts,EqD n U:=d
      have d':∀U∈Us,EqD n U:=d'
      have:=(zAs I hu0 e2 e2' (Paired.length p) (Paired.length p') λj x y T U v u ex ey eT eU rx ry=>by
       obtain⟨T',eT',vx⟩:=dG p ex
       obtain⟨U',eU',vy⟩:=dG p' ey
       rw[eT]at eT';cases eT'
       rw[eU]at eU';cases eU'
       exact sA I n (by show A.units+1+n<_;omega) (d _ (List.mem_of_getElem? eT)) (d' _ (List.mem_of_getElem? eU)) vx vy rx ry).1
      have r:=EqAt.of_refs ab this
      simpa[eqT]using r
     ·have e:eqT (.seq t Ts) (.seq t' Us)=false:=by simp[eqT,tt]
      rw[e]
      refine EqAt.of_refs ab ?_
      cases t<;>cases t'<;>first|exact absurd rfl tt|skip
      ·obtain⟨_,_,l1⟩:=PSeq.isList I e2
       obtain⟨_,_,l2⟩:=PSeq.isTup I e2'
       exact .list_tuple l1 l2 hu0
      ·obtain⟨_,_,l1⟩:=PSeq.isTup I e2
       obtain⟨_,_,l2⟩:=PSeq.isList I e2'
       exact .tuple_list l1 l2 hu0
   ·exact False.elim d'
  ·exact False.elim d
end
def zKc(Ts Us:List Tv):Prop:=Ts=[]\/Us=[]\/((∀T∈Ts,EqD 40 T)/\∀U∈Us,EqD 40 U)
def iG(neg:Bool):P2
 |.leaf v,.leaf w,Q=>Q (bT (neg != eqV v w))
 |.leaf _,.seq _ _,Q=>Q (bT neg)
 |.seq _ _,.leaf _,Q=>Q (bT neg)
 |.seq s xs,.seq t ys,Q=>zKc xs ys/\Q (bT (neg != (s==t&&bJ xs ys)))
 |_,_,_=>False
section
variable{X:Cx}
open SeqAt in
theorem zAb{pins:List (Addr×Obj)}{σ:St}{H:Hp}{s:Shared}(I:Inv X pins σ H s)(hu:X.A.units+64<cLine){neg:Bool}{x y:V}{T U:Tv}{v u:Value}{Q:Tv->Prop}(vx:VA X.K H x T)(vy:VA X.K H y U)(rx:RelV x v)(ry:RelV y u)(h:iG neg T U Q):
  ∃b,Q (bT (neg != b))/\RcAt X.A s v u b/\RcNeAt X.A s v u (!b):=by
 have hu0:X.A.units<cLine:=by omega
 unfold iG at h
 split at h
 ·obtain⟨rfl,f⟩:=vx.leafI
  obtain⟨rfl,f'⟩:=vy.leafI
  exact⟨_,h,zFo f f' rx ry⟩
 ·obtain⟨rfl,f⟩:=vx.leafI
  obtain⟨a,xs,rfl,hs,_⟩:=vy.seqI
  cases ry
  have r:=mK I hu0 f rx hs
  exact⟨false,by simpa using h,r.2.2.1,r.2.2.2.2.1⟩
 ·obtain⟨rfl,f⟩:=vy.leafI
  obtain⟨a,xs,rfl,hs,_⟩:=vx.seqI
  cases rx
  have r:=mK I hu0 f ry hs
  exact⟨false,by simpa using h,r.2.2.2.1,r.2.2.2.2.2⟩
 ·rename_i t Ts t' Us
  obtain⟨ok,q⟩:=h
  obtain⟨a,xs,rfl,hs,z,p⟩:=vx.seqI
  obtain⟨b,ys,rfl,hs',z',p'⟩:=vy.seqI
  cases rx
  cases ry
  refine⟨_,q,?_⟩
  by_cases tt:t=t'
  ·subst tt
   have e:(t==t&&bJ Ts Us)=bJ Ts Us:=by simp
   rw[e]
   refine zAs I hu0 hs hs' (Paired.length p) (Paired.length p') λj x y T U v u ex ey eT eU rx ry=>?_
   rcases ok with rfl|rfl|⟨o1,o2⟩
   ·cases eT
   ·cases eU
   ·obtain⟨T',eT',d,vx⟩:=dG p ex
    obtain⟨U',eU',d',vy⟩:=dG p' ey
    rw[eT]at eT';cases eT'
    rw[eU]at eU';cases eU'
    have k1:=o1 _ (List.mem_of_getElem? eT)
    have k2:=o2 _ (List.mem_of_getElem? eU)
    exact sA I 40 (by show X.A.units+1+40<_;omega) k1 k2 (k1.vp vx) (k2.vp vy) rx ry
  ·have e:(t==t'&&bJ Ts Us)=false:=by simp[tt]
   rw[e]
   cases t<;>cases t'<;>first|exact absurd rfl tt|skip
   ·obtain⟨_,_,l1⟩:=PSeq.isList I hs
    obtain⟨_,_,l2⟩:=PSeq.isTup I hs'
    exact⟨.list_tuple l1 l2 hu0,.list_tuple l1 l2 hu0⟩
   ·obtain⟨_,_,l1⟩:=PSeq.isTup I hs
    obtain⟨_,_,l2⟩:=PSeq.isList I hs'
    exact⟨.tuple_list l1 l2 hu0,.tuple_list l1 l2 hu0⟩
 ·exact False.elim h
def zBk(K:W.Frag)(neg:Bool):R2:=λx y H Q=>∃T U,VA K H x T/\VA K H y U/\iG neg T U λW=>∃b,W=bT b/\Q (.bl b) H
theorem zHt(hu:X.A.units+64<cLine):OpR X (compareOp .Eq) (zBk X.K false):=by
 rintro pins s σ H x y v u Q I rx ry ⟨T,U,vx,vy,h⟩
 obtain⟨b,⟨b',e,q⟩,r,_⟩:=zAb I hu vx vy rx ry h
 cases e
 exact r X.prog X.w X.xe _ ⟨.bl b,H,I,rfl,by simpa using q⟩
theorem zHq(hu:X.A.units+64<cLine):OpR X (compareOp .NotEq) (zBk X.K true):=by
 rintro pins s σ H x y v u Q I rx ry ⟨T,U,vx,vy,h⟩
 obtain⟨b,⟨b',e,q⟩,_,r⟩:=zAb I hu vx vy rx ry h
 cases e
 exact r X.prog X.w X.xe _ ⟨.bl (!b),H,I,rfl,by simpa using q⟩
theorem wJ{neg:Bool}{T U:Tv}{Q Q':Tv->Prop}(h:iG neg T U Q)(i:∀b,Q (bT b)->Q' (bT b)):iG neg T U Q':=by
 unfold iG at h ⊢
 split at h
 ·exact i _ h
 ·exact i _ h
 ·exact i _ h
 ·exact⟨h.1,i _ h.2⟩
 ·exact False.elim h
abbrev pEq:P2:=iG false
abbrev pNe:P2:=iG true
theorem eQ(hu:X.A.units+64<cLine):PuCmp X (compareOp .Eq) pEq:=⟨_,zHt hu,λx y T U H Q QQ vx vy h k=>⟨T,U,vx,vy,wJ h λb q=>⟨b,rfl,k _ _ _ (Same.refl _) (.flat rfl) q⟩⟩⟩
theorem zIw(hu:X.A.units+64<cLine):PuCmp X (compareOp .NotEq) pNe:=⟨_,zHq hu,λx y T U H Q QQ vx vy h k=>⟨T,U,vx,vy,wJ h λb q=>⟨b,rfl,k _ _ _ (Same.refl _) (.flat rfl) q⟩⟩⟩
end
end L2
namespace L2
open PySem PySem.Spec PyProof.Rows WordM
section
variable{X:Cx}{F:Fm}
theorem cO{K:W.Frag}{H:Hp}{xs:List V}{T:Tv}(h:VAs K H xs [T]):∃x,xs=[x]/\VA K H x T:=by
 cases h with
 |cons r t=>cases t;exact⟨_,rfl,r⟩
theorem tL{K:W.Frag}{H:Hp}{xs:List V}{T U:Tv}(h:VAs K H xs [T,U]):∃x y,xs=[x,y]/\VA K H x T/\VA K H y U:=by
 cases h with
 |cons r t=>
  obtain⟨y,rfl,v⟩:=cO t
  exact⟨_,y,rfl,r,v⟩
def zIt(K:W.Frag):R2:=λx y H Q=>∃l b xs zs,x=.ref l/\y=.ref b/\Rd H l (.lst xs)/\Rd H b (.lst zs)/\xs.length+zs.length<=sizeLine/\∀p,H p=none->Q (.ref p) (upd H p (.lst (xs++zs)))
theorem zFP:OpR X (binaryOp .Add) (zIt X.K):=by
 rintro pins s σ H _ _ v u Q I rx ry ⟨l,b,xs,zs,rfl,rfl,hH,hB,hz,q⟩
 cases rx
 cases ry
 obtain⟨z,its,n,r,e⟩:=hH.ok I.hok
 obtain⟨z2,its2,n2,r2,e2⟩:=hB.ok I.hok
 have l1:=r.length
 have l2:=r2.length
 refine PySem.P.add_list e e2 ?_ (by rw[List.size_toArray,List.size_toArray];omega)
 rw[show its.toArray++its2.toArray=(its++its2).toArray by simp]
 exact⟨.ref _,_,I.lnew (t':=s.toks) (r.append r2) (by rw[List.length_append];omega),rfl,q _ I.fresh⟩
def zBq:P2
 |.leaf (.int i),.leaf (.int j),Q=>Q (iT (i+j))
 |.leaf (.str x),.leaf (.str y),Q=>x.length+y.length<=100000/\Q (sT (x++y))
 |.seq true xs,.seq true ys,Q=>xs.length+ys.length<=100000/\Q (.seq true (xs++ys))
 |.seq false xs,.seq false ys,Q=>xs.length+ys.length<=100000/\Q (.seq false (xs++ys))
 |_,_,_=>False
theorem cI:eX X (binaryOp .Add) zBq:=⟨_,op_add.or (op_add_str.or (op_catG.or zFP)),λx y T U H Q QQ vx vy h k=>by
 unfold zBq at h
 split at h
 ·obtain⟨rfl,_⟩:=vx.leafI
  obtain⟨rfl,_⟩:=vy.leafI
  exact .inl ⟨_,_,rfl,rfl,k _ _ _ (.flat rfl) h⟩
 ·obtain⟨rfl,_⟩:=vx.leafI
  obtain⟨rfl,_⟩:=vy.leafI
  exact .inr (.inl ⟨_,_,rfl,rfl,fO h.1,k _ _ _ (.flat rfl) h.2⟩)
 ·obtain⟨a,xs,rfl,hs,z,p⟩:=vx.seqI
  obtain⟨b,ys,rfl,hs',z',p'⟩:=vy.seqI
  have l1:xs.length=_:=Paired.length p
  have l2:ys.length=_:=Paired.length p'
  refine .inr (.inr (.inl ⟨a,b,xs,ys,rfl,rfl,hs,hs',fO (by omega),λr H' hr sm=>k _ _ _ ⟨sm,.inl (VA.seq (t:=true) hr (by rw[List.length_append];exact h.1) (mN (p.hs sm.hs) (p'.hs sm.hs)))⟩ h.2⟩))
 ·obtain⟨a,xs,rfl,⟨ob,hs⟩,z,p⟩:=vx.seqI
  obtain⟨b,ys,rfl,⟨ob',hs'⟩,z',p'⟩:=vy.seqI
  have l1:xs.length=_:=Paired.length p
  have l2:ys.length=_:=Paired.length p'
  refine .inr (.inr (.inr ⟨a,b,xs,ys,rfl,rfl,.inr ⟨ob,hs⟩,.inr ⟨ob',hs'⟩,fO (by omega),λr n=>k _ _ _ (Raw.lst n (by rw[List.length_append];exact h.1) (mN p p')) h.2⟩))
 ·exact False.elim h⟩
def pI2(C:Int->Int->Prop)(g:Int->Int->V):P2
 |.leaf (.int i),.leaf (.int j),Q=>C i j/\Q (.leaf (g i j))
 |_,_,_=>False
theorem oJ{f:Value->Value->Sem Value}{C:Int->Int->Prop}{g:Int->Int->V}(h:OpR X f (rI C g))(fl:∀i j,cN (g i j)=true):PuCmp X f (pI2 C g):=⟨_,h,λx y T U H Q QQ vx vy h k=>by
 unfold pI2 at h
 split at h
 ·obtain⟨rfl,_⟩:=vx.leafI
  obtain⟨rfl,_⟩:=vy.leafI
  exact⟨_,_,rfl,rfl,h.1,k _ _ _ (Same.refl _) (.flat (fl _ _)) h.2⟩
 ·exact False.elim h⟩
def mC(g:Int->Int->V):P2
 |.leaf (.int i),.leaf (.int j),Q=>Q (.leaf (g i j))
 |_,_,_=>False
theorem sL{f:Value->Value->Sem Value}{g:Int->Int->V}(h:OpR X f (rI0 g))(fl:∀i j,cN (g i j)=true):PuCmp X f (mC g):=⟨_,h,λx y T U H Q QQ vx vy h k=>by
 unfold mC at h
 split at h
 ·obtain⟨rfl,_⟩:=vx.leafI
  obtain⟨rfl,_⟩:=vy.leafI
  exact⟨_,_,rfl,rfl,k _ _ _ (Same.refl _) (.flat (fl _ _)) h⟩
 ·exact False.elim h⟩
abbrev zJs:P2:=mC λi j=>.int (i-j)
theorem jX:eX X (binaryOp .Sub) zJs:=(sL zHp λ_ _=>rfl).op
def zIX(i j:Int):Prop:=CMul i j\/(BigOk i/\BigOk j)
def uF:P2
 |.leaf (.int i),.leaf (.int j),Q=>zIX i j/\Q (iT (i*j))
 |.leaf (.str z),.leaf (.int n),Q=>(z.length<=1000/\n<=1000 /\ -1000<=n)/\Q (sT (gQ z n))
 |_,_,_=>False
theorem zG1:eX X (binaryOp .Mult) uF:=⟨_,op_mul.or (op_mulB.or zFM),λx y T U H Q QQ vx vy h k=>by
 unfold uF at h
 split at h
 ·obtain⟨rfl,_⟩:=vx.leafI
  obtain⟨rfl,_⟩:=vy.leafI
  rcases h.1 with c|c
  ·exact .inl ⟨_,_,rfl,rfl,c,k _ _ _ (.flat rfl) h.2⟩
  ·exact .inr (.inl ⟨_,_,rfl,rfl,c,k _ _ _ (.flat rfl) h.2⟩)
 ·obtain⟨rfl,_⟩:=vx.leafI
  obtain⟨rfl,_⟩:=vy.leafI
  exact .inr (.inr ⟨_,_,rfl,rfl,h.1.1,h.1.2.1,h.1.2.2,k _ _ _ (.flat rfl) h.2⟩)
 ·exact False.elim h⟩
abbrev zIC:P2:=pI2 (λ_ j=>0<j/\BigOk j) λi j=>.int (i / j)
theorem zD:eX X (binaryOp .FloorDiv) zIC:=(oJ xX λ_ _=>rfl).op
abbrev zJv:P2:=pI2 (λ_ j=>0<j) λi j=>.int (i % j)
theorem nY:eX X (binaryOp .Mod) zJv:=(oJ gE λ_ _=>rfl).op
abbrev zJu:P2:=pI2 zBA λi j=>.int (i ^ j.toNat)
theorem lK:eX X (binaryOp .Pow) zJu:=(oJ zAy λ_ _=>rfl).op
def pLt:P2
 |.leaf (.int i),.leaf (.int j),Q=>Q (bT (decide (i<j)))
 |.leaf (.str x),.leaf (.str y),Q=>Q (bT (decide (x.cps.toList<y.cps.toList)))
 |_,_,_=>False
theorem zAO:PuCmp X (compareOp .Lt) pLt:=⟨_,op_lt.or zDn,λx y T U H Q QQ vx vy h k=>by
 unfold pLt at h
 split at h
 ·obtain⟨rfl,_⟩:=vx.leafI
  obtain⟨rfl,_⟩:=vy.leafI
  exact .inl ⟨_,_,rfl,rfl,k _ _ _ (Same.refl _) (.flat rfl) h⟩
 ·obtain⟨rfl,_⟩:=vx.leafI
  obtain⟨rfl,_⟩:=vy.leafI
  exact .inr ⟨_,_,rfl,rfl,k _ _ _ (Same.refl _) (.flat rfl) h⟩
 ·exact False.elim h⟩
abbrev pLe:P2:=mC λi j=>.bl (decide (i<=j))
theorem kG:PuCmp X (compareOp .LtE) pLe:=sL zID λ_ _=>rfl
abbrev pGt:P2:=mC λi j=>.bl (decide (j<i))
theorem zAP:PuCmp X (compareOp .Gt) pGt:=sL zIE λ_ _=>rfl
def isV(v:V):Tv->Bool
 |.leaf w=>decide (w=v)
 |_=>false
theorem zAD{K:W.Frag}{H:Hp}{x v:V}{T:Tv}(f:cN v=true)(h:VA K H x T):decide (x=v)=isV v T:=by
 cases T with
 |leaf w=>obtain⟨rfl,_⟩:=h.leafI;rfl
 |seq t Ts=>
  obtain⟨a,_,rfl,_⟩:=h.seqI
  exact decide_eq_false (λz=>by rw[<-z]at f;cases f)
 |dct kts=>
  obtain⟨a,_,rfl,_⟩:=h.dctI
  exact decide_eq_false (λz=>by rw[<-z]at f;cases f)
def zBo(neg:Bool):P2
 |T,.leaf .non,Q=>Q (bT (neg != isV .non T))
 |T,.leaf (.bl b),Q=>Q (bT (neg != isV (.bl b) T))
 |_,_,_=>False
abbrev pIs:P2:=zBo false
theorem iV:PuCmp X (compareOp .Is) pIs:=⟨_,op_isN.or zHr,λx y T U H Q QQ vx vy h k=>by
 unfold pIs zBo at h
 split at h
 ·obtain⟨rfl,_⟩:=vy.leafI
  exact .inl ⟨rfl,k _ _ _ (Same.refl _) (.flat rfl) (by rw[zAD rfl vx];simpa using h)⟩
 ·obtain⟨rfl,_⟩:=vy.leafI
  exact .inr ⟨_,rfl,k _ _ _ (Same.refl _) (.flat rfl) (by rw[zAD rfl vx];simpa using h)⟩
 ·exact False.elim h⟩
theorem nW{pins:List (Addr×Obj)}{σ:St}{H:Hp}{s:Shared}(I:Inv X pins σ H s):∀{n:Nat}{x:V}{T U:Tv},EqD n T->EqD n U->VP X.K H n x T->VP X.K H n x U->T=U
 |0,_,_,_,h,_,_,_=>False.elim h
 |n+1,x,T,U,d,d',h,h'=>by
  rcases h with⟨f,rfl⟩|⟨t,a,xs,Ts,rfl,e2,rfl,z,p⟩|⟨a,kvs,kts,rfl,e2,rfl,_⟩
  ·rcases h' with⟨_,rfl⟩|⟨t',a',xs',Ts',rfl,_⟩|⟨a',kvs',kts',rfl,_⟩
   ·rfl
   ·cases f
   ·cases f
  ·rcases h' with⟨f,rfl⟩|⟨t',a',xs',Ts',e1',e2',rfl,z',p'⟩|⟨a',kvs',kts',e1',e2',rfl,_⟩
   ·cases f
   ·cases e1'
    have tt:t=t':=by
     cases t<;>cases t'<;>first|rfl|skip
     ·obtain⟨_,_,l1⟩:=PSeq.isList I e2
      obtain⟨_,_,l2⟩:=PSeq.isTup I e2'
      exact absurd rfl (SeqAt.ne_of_list_tuple l1 l2)
     ·obtain⟨_,_,l1⟩:=PSeq.isList I e2'
      obtain⟨_,_,l2⟩:=PSeq.isTup I e2
      exact absurd rfl (SeqAt.ne_of_list_tuple l1 l2)
    subst tt
    have ex:xs=xs':=by
     cases t with
     |false=>exact I.list_inj (bU e2) (bU e2')
     |true=>exact I.tuple_inj e2 e2'
    subst ex
    have g:∀U∈Ts,EqD n U:=d
    have g':∀U∈Ts',EqD n U:=d'
    have key:∀{xs:List V} {Ts Ts':List Tv},Paired (VP X.K H n) xs Ts->Paired (VP X.K H n) xs Ts'->(∀U∈Ts,EqD n U)->(∀U∈Ts',EqD n U)->Ts=Ts':=by
     intro xs Ts Ts' p
     induction p generalizing Ts' with
     |nil=>intro p' _ _;cases p';rfl
     |cons r _ ih=>
      intro p' d d'
      cases p' with
      |cons r' t'=>rw[nW I (d _ (.head _)) (d' _ (.head _)) r r',ih t' (λU hU=>d U (.tail _ hU)) (λU hU=>d' U (.tail _ hU))]
    rw[key p p' g g']
   ·exact False.elim d'
  ·exact False.elim d
def jC(T:Tv)(Us:List Tv):Prop:=EqD 40 T/\∀U∈Us,EqD 40 U
open Classical in
theorem nH{pins:List (Addr×Obj)}{σ:St}{H:Hp}{s:Shared}(I:Inv X pins σ H s)(hu:X.A.units+64<cLine){x:V}{T:Tv}{v:Value}{ys:List V}{Us:List Tv}{its:List Value}(vx:VA X.K H x T)(rx:RelV x v)(p:VAs X.K H ys Us)(r:Vals ys its)(ok:jC T Us):
  ∃e:Value->Bool,(∀y,y∈its.toArray->SeqAt.EqAt X.A.in1 s y v (e y))/\its.toArray.any e=Us.any λU=>eqT U T:=by
 obtain⟨dx,vx⟩:=vx
 have hx:=ok.1.vp vx
 refine⟨λw=>decide (∃y U,RelV y w/\VP X.K H 40 y U/\EqD 40 U/\eqT U T=true),λw hw=>?_,?_⟩
 ·have hw:w∈its:=by simpa using hw
  obtain⟨j,hj,rfl⟩:=List.mem_iff_getElem.mp hw
  have hj':j<ys.length:=by rw[r.length];exact hj
  obtain⟨u,eu,ru⟩:=r.get (List.getElem?_eq_getElem hj')
  rw[List.getElem?_eq_getElem hj]at eu
  cases eu
  obtain⟨U,eU,d,vU⟩:=dG p (List.getElem?_eq_getElem hj')
  have dU:=ok.2 U (List.mem_of_getElem? eU)
  have e:=sA I 40 (A:=X.A.in1) (by show X.A.units+1+40<_;omega) dU ok.1 (dU.vp vU) hx ru rx
  have ee:decide (∃y U,RelV y its[j]/\VP X.K H 40 y U/\EqD 40 U/\eqT U T=true)=eqT U T:=by
   rw[Bool.eq_iff_iff,decide_eq_true_iff]
   constructor
   ·rintro⟨y,U',ry,vy,dy,z⟩
    have:=RelV.inj ry ru
    subst this
    rw[nW I dU dy (dU.vp vU) vy]
    exact z
   ·intro z
    exact⟨_,U,ru,dU.vp vU,dU,z⟩
  show SeqAt.EqAt X.A.in1 s its[j] v (decide (∃y U,RelV y its[j]/\VP X.K H 40 y U/\EqD 40 U/\eqT U T=true))
  rw[ee]
  exact e
 ·rw[Bool.eq_iff_iff,Array.any_eq_true',List.any_eq_true]
  constructor
  ·rintro⟨w,hw,z⟩
   rw[decide_eq_true_iff]at z
   obtain⟨y,U',ry,vy,dy,z⟩:=z
   have hw:w∈its:=by simpa using hw
   obtain⟨j,hj,rfl⟩:=List.mem_iff_getElem.mp hw
   have hj':j<ys.length:=by rw[r.length];exact hj
   obtain⟨u,eu,ru⟩:=r.get (List.getElem?_eq_getElem hj')
   rw[List.getElem?_eq_getElem hj]at eu
   cases eu
   obtain⟨U,eU,d,vU⟩:=dG p (List.getElem?_eq_getElem hj')
   have dU:=ok.2 U (List.mem_of_getElem? eU)
   have:=RelV.inj ry ru
   subst this
   refine⟨U,List.mem_of_getElem? eU,?_⟩
   rw[nW I dU dy (dU.vp vU) vy]
   exact z
  ·rintro⟨U,hU,z⟩
   obtain⟨j,hj,rfl⟩:=List.mem_iff_getElem.mp hU
   obtain⟨y,ey,d,vy⟩:=mH p (List.getElem?_eq_getElem hj)
   obtain⟨u,eu,ru⟩:=r.get ey
   have dU:=ok.2 _ hU
   exact⟨u,by simpa using List.mem_of_getElem? eu,decide_eq_true ⟨y,_,ru,dU.vp vy,dU,z⟩⟩
def zBj(K:W.Frag)(neg:Bool):R2:=λx y H Q=>∃T t Us,VA K H x T/\VA K H y (.seq t Us)/\jC T Us/\Q (.bl (neg != Us.any λU=>eqT U T)) H
theorem zHs(hu:X.A.units+64<cLine):OpR X (compareOp .In) (zBj X.K false):=by
 rintro pins s σ H x y v u Q I rx ry ⟨T,t,Us,vx,vy,ok,q⟩
 obtain⟨a,ys,rfl,hs,z,p⟩:=vy.seqI
 cases ry
 cases t with
 |false=>
  obtain⟨its,r,l⟩:=PSeq.isList I hs
  obtain⟨e,h1,h2⟩:=nH I hu vx rx p r ok
  exact SeqAt.in_listAt e l h1 ⟨.bl _,H,I,rfl,by rw[h2];simpa using q⟩
 |true=>
  obtain⟨its,r,l⟩:=PSeq.isTup I hs
  obtain⟨e,h1,h2⟩:=nH I hu vx rx p r ok
  exact SeqAt.in_tupleAt e l h1 ⟨.bl _,H,I,rfl,by rw[h2];simpa using q⟩
theorem zDm(hu:X.A.units+64<cLine):OpR X (compareOp .NotIn) (zBj X.K true):=by
 rintro pins s σ H x y v u Q I rx ry ⟨T,t,Us,vx,vy,ok,q⟩
 obtain⟨a,ys,rfl,hs,z,p⟩:=vy.seqI
 cases ry
 cases t with
 |false=>
  obtain⟨its,r,l⟩:=PSeq.isList I hs
  obtain⟨e,h1,h2⟩:=nH I hu vx rx p r ok
  exact SeqAt.notIn_listAt e l h1 ⟨.bl _,H,I,rfl,by rw[h2];simpa using q⟩
 |true=>
  obtain⟨its,r,l⟩:=PSeq.isTup I hs
  obtain⟨e,h1,h2⟩:=nH I hu vx rx p r ok
  exact SeqAt.notIn_tupleAt e l h1 ⟨.bl _,H,I,rfl,by rw[h2];simpa using q⟩
def zFu:R2:=λy x H Q=>∃a o,x=.ref a/\jE H a y o/\Q (.bl (!o.isSome)) H
theorem zBJ(hu:X.A.units+1<cLine):OpR X (compareOp .NotIn) zFu:=by
 rintro pins s σ H y _ u v Q I ry rx ⟨a,o,rfl,g,q⟩
 cases rx
 exact zF7 hu I g ry λs' I'=>⟨.bl _,H,I',rfl,q⟩
def inS(i j:Str):Bool:=!(Builtin.Str.occurrences j i 0 j.length 1).isEmpty
def pC(neg:Bool):P2
 |T,.seq _ Us,Q=>jC T Us/\Q (bT (neg != Us.any λU=>eqT U T))
 |.leaf (.str i),.leaf (.str j),Q=>Q (bT (neg != inS i j))
 |.leaf (.str k),.dct kts,Q=>Q (bT (neg != (dW kts k).isSome))
 |_,_,_=>False
abbrev pIn:P2:=pC false
abbrev zAx:P2:=pC true
theorem iW(hu:X.A.units+64<cLine):PuCmp X (compareOp .In) pIn:=⟨_,(zHs hu).or (op_in_str.or (zCv (by omega))),λx y T U H Q QQ vx vy h k=>by
 unfold pIn pC at h
 split at h
 ·exact .inl ⟨_,_,_,vx,vy,h.1,k _ _ _ (Same.refl _) (.flat rfl) h.2⟩
 ·obtain⟨rfl,_⟩:=vx.leafI
  obtain⟨rfl,_⟩:=vy.leafI
  exact .inr (.inl ⟨_,_,rfl,rfl,k _ _ _ (Same.refl _) (.flat rfl) (by simpa[inS]using h)⟩)
 ·rename_i kk kts
  obtain⟨rfl,_⟩:=vx.leafI
  obtain⟨a,kvs,rfl,⟨ob,hd⟩,n,z,p⟩:=vy.dctI
  refine .inr (.inr ⟨a,_,rfl,.inl ⟨kvs,.inr kk,.inr ⟨ob,hd⟩,rfl,rfl⟩,k _ _ _ (Same.refl _) (.flat rfl) ?_⟩)
  rcases rS p kk with⟨e1,e2⟩|⟨U,v,e1,e2,_⟩
  ·rw[e2];rw[e1]at h;exact h
  ·rw[e2];rw[e1]at h;exact h
 ·exact False.elim h⟩
theorem nF(hu:X.A.units+64<cLine):PuCmp X (compareOp .NotIn) zAx:=⟨_,(zDm hu).or (op_notIn_str.or (zBJ (by omega))),λx y T U H Q QQ vx vy h k=>by
 unfold zAx pC at h
 split at h
 ·exact .inl ⟨_,_,_,vx,vy,h.1,k _ _ _ (Same.refl _) (.flat rfl) h.2⟩
 ·obtain⟨rfl,_⟩:=vx.leafI
  obtain⟨rfl,_⟩:=vy.leafI
  exact .inr (.inl ⟨_,_,rfl,rfl,k _ _ _ (Same.refl _) (.flat rfl) (by simpa[inS]using h)⟩)
 ·rename_i kk kts
  obtain⟨rfl,_⟩:=vx.leafI
  obtain⟨a,kvs,rfl,⟨ob,hd⟩,n,z,p⟩:=vy.dctI
  refine .inr (.inr ⟨a,_,rfl,.inl ⟨kvs,.inr kk,.inr ⟨ob,hd⟩,rfl,rfl⟩,k _ _ _ (Same.refl _) (.flat rfl) ?_⟩)
  rcases rS p kk with⟨e1,e2⟩|⟨U,v,e1,e2,_⟩
  ·rw[e2];rw[e1]at h;exact h
  ·rw[e2];rw[e1]at h;exact h
 ·exact False.elim h⟩
def pIx:P2
 |.seq _ Ts,.leaf (.int i),Q=>∃U,atI Ts i=some U/\Q U
 |.leaf (.str z),.leaf (.int i),Q=>z.length<=100000/\∃c,atI z.cps.toList i=some c/\Q (sT ⟨#[c]⟩)
 |.dct kts,.leaf (.str k),Q=>∃U,dW kts k=some U/\Q U
 |_,_,_=>False
theorem zCR{α β:Type}{R:α->β->Prop}{xs:List α}{ys:List β}{i:Int}{y:β}(p:Paired R xs ys)(h:atI ys i=some y):∃x,atI xs i=some x/\R x y:=by
 unfold atI at h ⊢
 rw[Paired.length p]
 cases e:ixN ys.length i with
 |none=>rw[e]at h;cases h
 |some j=>
  rw[e]at h
  obtain⟨x,ex,r⟩:=mH p (show ys[j]?=some y from h)
  exact⟨x,ex,r⟩
theorem zIx(hu:X.A.units+64<cLine):zBy X pIx:=⟨_,ix_seq.or (zFY (by omega)),λx y T U H Q QQ vx vy h k=>by
 unfold pIx at h
 split at h
 ·rename_i t Ts i
  obtain⟨rfl,_⟩:=vy.leafI
  obtain⟨a,xs,rfl,hs,z,p⟩:=vx.seqI
  obtain⟨U,e,q⟩:=h
  obtain⟨x,ex,v⟩:=zCR p e
  cases t with
  |false=>exact .inl (.inl ⟨a,xs,i,x,rfl,rfl,bU hs,ex,k _ _ _ (.va v) q⟩)
  |true=>exact .inl (.inr (.inl ⟨a,xs,i,x,rfl,rfl,hs,ex,k _ _ _ (.va v) q⟩))
 ·obtain⟨rfl,_⟩:=vx.leafI
  obtain⟨rfl,_⟩:=vy.leafI
  obtain⟨l,c,e,q⟩:=h
  exact .inl (.inr (.inr ⟨_,_,c,rfl,rfl,fO l,e,k _ _ _ (.flat rfl) q⟩))
 ·rename_i kts kk
  obtain⟨rfl,_⟩:=vy.leafI
  obtain⟨a,kvs,rfl,⟨ob,hd⟩,n,z,p⟩:=vx.dctI
  obtain⟨U,e,q⟩:=h
  rcases rS p kk with⟨e1,e2⟩|⟨U',v,e1,e2,vv⟩
  ·rw[e1]at e;cases e
  ·rw[e1]at e;cases e
   exact .inr ⟨a,v,rfl,.inl ⟨kvs,.inr kk,.inr ⟨ob,hd⟩,rfl,e2.symm⟩,k _ _ _ (.va vv) q⟩
 ·exact False.elim h⟩
def fI{α:Type}(xs:List α)(lo hi:Option Int):List α:=(xs.drop (HT.sIx xs.length 0 lo)).take (HT.sIx xs.length xs.length hi-HT.sIx xs.length 0 lo)
theorem vF{α β:Type}{R:α->β->Prop}:∀{l:List α}{m:List β}(n:Nat),Paired R l m->Paired R (l.drop n) (m.drop n)
 |_,_,0,p=>p
 |_,_,_+1,.nil=>.nil
 |_,_,n+1,.cons _ t=>vF n t
theorem wI{α β:Type}{R:α->β->Prop}:∀{l:List α}{m:List β}(n:Nat),Paired R l m->Paired R (l.take n) (m.take n)
 |_,_,0,p=>by rw[List.take_zero,List.take_zero];exact .nil
 |_,_,_+1,.nil=>.nil
 |_,_,n+1,.cons r t=>.cons r (wI n t)
theorem vN{α β:Type}{R:α->β->Prop}{l:List α}{m:List β}(lo hi:Option Int)(p:Paired R l m):Paired R (fI l lo hi) (fI m lo hi):=by
 unfold fI
 rw[Paired.length p]
 exact wI _ (vF _ p)
theorem zEN{α:Type}(xs:List α)(lo hi:Option Int):(fI xs lo hi).length<=xs.length:=by
 unfold fI
 rw[List.length_take,List.length_drop]
 omega
def zJt:PSl
 |.seq t Ts,lo,hi,Q=>Q (.seq t (fI Ts lo hi))
 |.leaf (.str z),lo,hi,Q=>z.length<=100000/\Q (sT (Txt.slice z lo hi))
 |_,_,_,_=>False
theorem iC:zBv X zJt:=⟨_,sl_list.or (sl_tupW.or zGG),λx T lo hi H Q QQ vx h k=>by
 cases T with
 |seq t Ts=>
  have h:Q (.seq t (fI Ts lo hi)):=h
  obtain⟨a,xs,rfl,hs,z,p⟩:=vx.seqI
  have z':(fI Ts lo hi).length<=100000:=Nat.le_trans (zEN _ _ _) z
  cases t with
  |false=>exact .inl ⟨a,xs,rfl,bU hs,λr n=>k _ _ _ (Raw.lst n z' (vN lo hi p)) h⟩
  |true=>exact .inr (.inl ⟨a,xs,rfl,hs,λr H' sm hr=>k _ _ _ ⟨sm,.inl (VA.seq (t:=true) hr z' (Paired.mapP (vN lo hi p) λ_ _ q=>VA.hs sm.hs q))⟩ h⟩)
 |leaf w=>
  cases w with
  |str zz=>
   have h:zz.length<=100000/\Q (sT (Txt.slice zz lo hi)):=h
   obtain⟨rfl,_⟩:=vx.leafI
   exact .inr (.inr ⟨_,rfl,fO h.1,k _ _ _ (.flat rfl) h.2⟩)
  |_=>exact False.elim h
 |dct kts=>exact False.elim h⟩
def zBn:Pn
 |[.seq _ Ts],Q=>Q (iT Ts.length)
 |[.leaf (.str z)],Q=>z.length<=100000/\Q (iT z.length)
 |[.dct kts],Q=>Q (iT kts.length)
 |_,_=>False
theorem eC:gH X (.builtin "len") zBn:=⟨_,call_len_seq.or (call_len_str.or zCO),λxs Ts H Q QQ vx h k=>by
 unfold zBn at h
 split at h
 ·rename_i t Ts
  obtain⟨x,rfl,v⟩:=cO vx
  obtain⟨a,xs,rfl,hs,z,p⟩:=v.seqI
  have l:xs.length=_:=Paired.length p
  refine .inl ⟨a,xs,rfl,?_,k _ _ _ (.flat rfl) (by rw[l];exact h)⟩
  cases t with
  |false=>exact .inl (bU hs)
  |true=>exact .inr hs
 ·obtain⟨x,rfl,v⟩:=cO vx
  obtain⟨rfl,_⟩:=v.leafI
  exact .inr (.inl ⟨_,rfl,fO h.1,k _ _ _ (.flat rfl) h.2⟩)
 ·obtain⟨x,rfl,v⟩:=cO vx
  obtain⟨a,kvs,rfl,⟨ob,hd⟩,n,z,p⟩:=v.dctI
  have l:kvs.length=_:=Paired.length p
  exact .inr (.inr ⟨a,kvs,rfl,.inr ⟨ob,hd⟩,k _ _ _ (.flat rfl) (by rw[l];exact h)⟩)
 ·exact False.elim h⟩
def pF(T:String):Tv->Bool
 |.leaf .non=>false
 |.leaf (.bl _)=>T=="bool" || T=="int"
 |.leaf (.int _)=>T=="int"
 |.leaf (.str _)=>T=="str"
 |.leaf _=>false
 |.seq false _=>T=="list"
 |.seq true _=>T=="tuple"
 |.dct _=>T=="dict"
theorem zH8{K:W.Frag}{H:Hp}{x:V}{W:Tv}(T:String)(v:VA K H x W):TyV K T x H (pF T W):=by
 cases W with
 |leaf w=>
  obtain⟨rfl,f⟩:=v.leafI
  rcases jI f with rfl|⟨b,rfl⟩|⟨b,rfl⟩|⟨b,rfl⟩<;>rfl
 |seq t Ts=>
  obtain⟨a,xs,rfl,hs,z,p⟩:=v.seqI
  cases t with
  |false=>exact .inl ⟨xs,bU hs,rfl⟩
  |true=>exact .inr (.inl ⟨xs,hs,rfl⟩)
 |dct kts=>
  obtain⟨a,kvs,rfl,⟨ob,hd⟩,n,z,p⟩:=v.dctI
  exact .inr (.inr ⟨kvs,.inr ⟨ob,hd⟩,rfl⟩)
def zI3(T:String)(u:UT):UT:=λρ Q=>u ρ λW ρ1=>Q (bT (pF T W)) ρ1
theorem bC{e t:Expr}{u:UT}{p pos:Pos}(T:String)(hc:CallR X (.builtin "isinstance") (λxs H Q=>∃x b,xs=[x,.ty T]/\TyV X.K T x H b/\Q (.bl b) H))(hg:Gl X "isinstance")(hm:X.mg "isinstance"=none)(he:UE X F e u)(ht:PE X t (tC (.ty T)))
  (h1:cQ e=false:=by rfl) (h2:cQ t=false:=by rfl) (hpl:(backTo pos (starEach [t] X.env)).any (·.1)=false:=by rfl):UE X F (.Call (.Name "isinstance" p) [e,t] [] pos) (zI3 T u):=
 ⟨PE.imp (gZ hc hg hm boot_isinstance (cJ he.pe (cJ ht cT h2) h1) (by decide) (by decide) (gX h1) hpl) λσ H QQ ⟨ρ,Q,f,h,k⟩=>
  ⟨ρ,_,f,h,λx W H1 ρ1 s1 v1 q1=>⟨x,_,rfl,zH8 T v1,k _ _ _ _ s1 (.flat rfl) q1⟩⟩⟩
theorem yR{K:W.Frag}{H:Hp}:∀{xs:List V}{bs:List Bool},VAs K H xs (bs.map bT)->xs=bs.map V.bl
 |[],[],_=>rfl
 |_::_,_::_,.cons r t=>by rw[List.map_cons,<-yR t,(VA.leafI r).1]
theorem jN{K:W.Frag}{H:Hp}:∀{xs:List V}{ns:List Int},VAs K H xs (ns.map iT)->xs=ns.map V.int
 |[],[],_=>rfl
 |_::_,_::_,.cons r t=>by rw[List.map_cons,<-jN t,(VA.leafI r).1]
theorem jM{K:W.Frag}{H:Hp}:∀{xs:List V}{ss:List Str},VAs K H xs (ss.map sT)->xs=ss.map V.str
 |[],[],_=>rfl
 |_::_,_::_,.cons r t=>by rw[List.map_cons,<-jM t,(VA.leafI r).1]
theorem zAh{K:W.Frag}{H:Hp}:∀(bs:List Bool),VAs K H (bs.map V.bl) (bs.map bT)
 |[]=>.nil
 |_::bs=>.cons (.flat rfl) (zAh bs)
theorem rB{K:W.Frag}{H:Hp}:∀(ns:List Int),VAs K H (ns.map V.int) (ns.map iT)
 |[]=>.nil
 |_::ns=>.cons (.flat rfl) (rB ns)
theorem nI{K:W.Frag}{H:Hp}:∀(ss:List Str),VAs K H (ss.map V.str) (ss.map sT)
 |[]=>.nil
 |_::ss=>.cons (.flat rfl) (nI ss)
def zJw:Pn:=λTs Q=>(∃i j:Int,Ts=[iT i,iT j]/\Q (iT (min i j)))\/(∃ns:List Int,Ts=[.seq false (ns.map iT)]/\0<ns.length/\∀M,M∈ns->(∀a∈ns,M<=a)->Q (iT M)) \/
 ∃ss:List Str,Ts=[.seq false (ss.map sT)]/\0<ss.length/\∀x,x∈ss->(∀y∈ss,x.cps.toList<=y.cps.toList)->Q (sT x)
def zJx:Pn:=λTs Q=>(∃i j:Int,Ts=[iT i,iT j]/\Q (iT (max i j)))\/(∃ns:List Int,Ts=[.seq false (ns.map iT)]/\0<ns.length/\∀M,M∈ns->(∀a∈ns,a<=M)->Q (iT M)) \/
 ∃ss:List Str,Ts=[.seq false (ss.map sT)]/\0<ss.length/\∀x,x∈ss->(∀y∈ss,y.cps.toList<=x.cps.toList)->Q (sT x)
theorem jY(hc:X.calm=true):gH X (.builtin "min") zJw:=⟨_,(zDM hc).or ((zDN hc).or (zCM hc)),λxs Ts H Q QQ vx h k=>by
 rcases h with⟨i,j,rfl,q⟩|⟨ns,rfl,l,q⟩|⟨ss,rfl,l,q⟩
 ·obtain⟨x,y,rfl,v,v'⟩:=tL vx
  obtain⟨rfl,_⟩:=v.leafI
  obtain⟨rfl,_⟩:=v'.leafI
  refine .inl ⟨i,j,rfl,k _ _ _ (.flat rfl) ?_⟩
  have e:(if j<i then j else i)=min i j:=by split<;>omega
  rw[e];exact q
 ·obtain⟨x,rfl,v⟩:=cO vx
  obtain⟨a,ys,rfl,hs,z,p⟩:=v.seqI
  rw[jN p]at hs
  exact .inr (.inl ⟨a,ns,rfl,bU hs,l,λM h1 h2=>k _ _ _ (.flat rfl) (q M h1 h2)⟩)
 ·obtain⟨x,rfl,v⟩:=cO vx
  obtain⟨a,ys,rfl,hs,z,p⟩:=v.seqI
  rw[jM p]at hs
  exact .inr (.inr ⟨a,ss,rfl,bU hs,l,λM h1 h2=>k _ _ _ (.flat rfl) (q M h1 h2)⟩)⟩
theorem lL(hc:X.calm=true):gH X (.builtin "max") zJx:=⟨_,(zDO hc).or ((zDP hc).or (zCN hc)),λxs Ts H Q QQ vx h k=>by
 rcases h with⟨i,j,rfl,q⟩|⟨ns,rfl,l,q⟩|⟨ss,rfl,l,q⟩
 ·obtain⟨x,y,rfl,v,v'⟩:=tL vx
  obtain⟨rfl,_⟩:=v.leafI
  obtain⟨rfl,_⟩:=v'.leafI
  refine .inl ⟨i,j,rfl,k _ _ _ (.flat rfl) ?_⟩
  have e:(if j > i then j else i)=max i j:=by split<;>omega
  rw[e];exact q
 ·obtain⟨x,rfl,v⟩:=cO vx
  obtain⟨a,ys,rfl,hs,z,p⟩:=v.seqI
  rw[jN p]at hs
  exact .inr (.inl ⟨a,ns,rfl,bU hs,l,λM h1 h2=>k _ _ _ (.flat rfl) (q M h1 h2)⟩)
 ·obtain⟨x,rfl,v⟩:=cO vx
  obtain⟨a,ys,rfl,hs,z,p⟩:=v.seqI
  rw[jM p]at hs
  exact .inr (.inr ⟨a,ss,rfl,bU hs,l,λM h1 h2=>k _ _ _ (.flat rfl) (q M h1 h2)⟩)⟩
def zH5(u ud:UT):UT:=λρ Q=>u ρ λT ρ1=>ud ρ1 λD ρ2=>∃ns:List Int,T=.seq false (ns.map iT)/\(ns=[]->Q D ρ2)/\∀M,M∈ns->(∀a∈ns,a<=M)->Q (iT M) ρ2
theorem zFc{e d:Expr}{u ud:UT}{p pos kpos:Pos}(hc:X.calm=true)(hg:Gl X "max")(hm:X.mg "max"=none)(he:UE X F e u)(hd:UE X F d ud)(hst:cQ e=false:=by rfl):UE X F (.Call (.Name "max" p) [e] [⟨some "default",d,kpos⟩] pos) (zH5 u ud):=
 ⟨PE.imp (zFD hc hg hm he.pe hd.pe hst) λσ H QQ ⟨ρ,Q,f,h,k⟩=>by
  refine⟨ρ,_,f,h,λx T H1 ρ1 s1 v1 q1=>⟨ρ1,_,s1.fr,q1,λy D H2 ρ2 s2 v2 q2=>?_⟩⟩
  obtain⟨ns,rfl,q0,q⟩:=q2
  obtain⟨a,ys,rfl,hs,z,p⟩:=(v1.hs (s2.hs s1.fr)).seqI
  rw[jN p]at hs
  exact⟨a,ns,rfl,bU hs,λe=>k _ _ _ _ (s1.trans s2) v2 (q0 e),λM h1 h2=>k _ _ _ _ (s1.trans s2) (.flat rfl) (q M h1 h2)⟩⟩
def zFK:List Tv->(List Tv->Prop)->Prop:=λTs Q=>∃t Us,Ts=[.seq t Us]/\Q Us
theorem pZ:nU X (.type "list") zFK:=⟨_,uY,λxs Ts H Q QQ vx h k=>by
 obtain⟨t,Us,rfl,q⟩:=h
 obtain⟨x,rfl,v⟩:=cO vx
 obtain⟨a,ys,rfl,hs,z,p⟩:=v.seqI
 refine⟨a,ys,rfl,?_,λl n=>k l ys Us _ (cH n) n aT z (VAs.hs (gG n) p) q⟩
 cases t with
 |false=>exact .inl (bU hs)
 |true=>exact .inr hs⟩
def zHm:Pn:=λTs Q=>∃t Us,Ts=[.seq t Us]/\Q (.seq true Us)
theorem iO:gH X (.type "tuple") zHm:=⟨_,zBM,λxs Ts H Q QQ vx h k=>by
 obtain⟨t,Us,rfl,q⟩:=h
 obtain⟨x,rfl,v⟩:=cO vx
 obtain⟨a,ys,rfl,hs,z,p⟩:=v.seqI
 refine⟨a,ys,rfl,?_⟩
 cases t with
 |false=>exact .inl ⟨bU hs,λl n=>k _ _ _ (Raw.tup n z p) q⟩
 |true=>exact .inr ⟨hs,k _ _ _ (.va v) q⟩⟩
def zFJ:List Tv->(List Tv->Prop)->Prop:=λTs Q=>(∃ns:List Int,Ts=[.seq false (ns.map iT)]/\ns.length<64/\∀ms:List Int,ms.Perm ns->ms.Pairwise (·<=·)->Q (ms.map iT)) \/
 (∃ss:List Str,Ts=[.seq false (ss.map sT)]/\ss.length<64/\Q ((cG ss).map sT))\/∃kts,Ts=[.dct kts]/\Q ((cG (kts.map (·.1))).map sT)
theorem xI{K:W.Frag}{H:Hp}{kvs:List (Key×V)}{kts:List (Str×Tv)}(p:VAk K H kvs kts):kvs.map (·.1)=(kts.map (·.1)).map Sum.inr:=by
 unfold VAk at p
 induction p with
 |nil=>rfl
 |cons r _ ih=>rw[List.map_cons,List.map_cons,List.map_cons,ih,r.1]
theorem pX(us:List Str):(cG us).length=us.length:=(jF us).length_eq
theorem mT(hc:X.calm=true):nU X (.builtin "sorted") zFJ:=⟨_,call_sortedI.or (call_sortedS.or (zBZ hc)),λxs Ts H Q QQ vx h k=>by
 rcases h with⟨ns,rfl,l,q⟩|⟨ss,rfl,l,q⟩|⟨kts,rfl,q⟩
 ·obtain⟨x,rfl,v⟩:=cO vx
  obtain⟨a,ys,rfl,hs,z,p⟩:=v.seqI
  rw[jN p]at hs
  refine .inl ⟨a,ns,rfl,bU hs,l,λms b h1 h2 n=>k b _ _ _ (cH n) n aT (by rw[List.length_map,h1.length_eq];omega) (rB ms) (q ms h1 h2)⟩
 ·obtain⟨x,rfl,v⟩:=cO vx
  obtain⟨a,ys,rfl,hs,z,p⟩:=v.seqI
  rw[jM p]at hs
  refine .inr (.inl ⟨a,ss,rfl,bU hs,l,λms b h1 h2 n=>k b _ _ _ (cH n) n aT (by rw[List.length_map,h1.length_eq];omega) (nI ms) (by rw[nC h1 h2];exact q)⟩)
 ·obtain⟨x,rfl,v⟩:=cO vx
  obtain⟨a,kvs,rfl,⟨ob,hd⟩,nd,z,p⟩:=v.dctI
  refine .inr (.inr ⟨a,ob,kvs,kts.map (·.1),rfl,hd,xI p,by rw[List.length_map];exact z,λms b h1 h2 n=>k b _ _ _ (cH n) n aT (by rw[List.length_map,h1.length_eq,List.length_map];omega) (nI ms) (by rw[nC h1 h2];exact q)⟩)⟩
def zJy:Pn:=λTs Q=>∃i:Int,Ts=[iT i]/\Q (iT (if i<0 then -i else i))
theorem zG3:gH X (.builtin "abs") zJy:=⟨_,zEO,λxs Ts H Q QQ vx h k=>by
 obtain⟨i,rfl,q⟩:=h
 obtain⟨x,rfl,v⟩:=cO vx
 obtain⟨rfl,_⟩:=v.leafI
 exact⟨i,rfl,k _ _ _ (.flat rfl) q⟩⟩
def zBp:Pn
 |[.leaf (.int i)],Q=>Q (iT i)
 |[.leaf (.bl b)],Q=>Q (iT (if b then 1 else 0))
 |_,_=>False
theorem zG2:gH X (.type "int") zBp:=⟨_,zDQ,λxs Ts H Q QQ vx h k=>by
 unfold zBp at h
 split at h
 ·obtain⟨x,rfl,v⟩:=cO vx
  obtain⟨rfl,_⟩:=v.leafI
  exact .inl ⟨_,rfl,k _ _ _ (.flat rfl) h⟩
 ·obtain⟨x,rfl,v⟩:=cO vx
  obtain⟨rfl,_⟩:=v.leafI
  exact .inr ⟨_,rfl,k _ _ _ (.flat rfl) h⟩
 ·exact False.elim h⟩
def uBM(T:String)(r:Tv->List Tv->(Tv->Prop)->Prop)(u:UT)(ua:UTa):UT:=λρ Q=>u ρ λW ρ1=>pF T W=true/\uVs ua ρ1 λTs ρ2=>r W Ts λW'=>Q W' ρ2
theorem zFf{K:W.Frag}{H:Hp}{x:V}{W:Tv}(v:VA K H x W)(h:pF "str" W=true):tyV K "str" x H:=by
 cases W with
 |leaf w=>
  obtain⟨rfl,f⟩:=v.leafI
  rcases jI f with rfl|⟨b,rfl⟩|⟨b,rfl⟩|⟨b,rfl⟩
  ·cases h
  ·cases h
  ·cases h
  ·rfl
 |seq t Ts=>cases t<;>cases h
 |dct kts=>cases h
theorem lH{name:Str}{id:String}{r:Tv->List Tv->(Tv->Prop)->Prop}{o e:Expr}{es:List Expr}{u:UT}{ua:UTa}{apos cpos:Pos}(slot:Slot "str" name id)(hty:typeOf (.builtin id)=pure (.type "method_descriptor"))
  (hm:∃r',MtR X id r'/\∀x W xs Ts H Q (QQ:VK),VA X.K H x W->VAs X.K H xs Ts->r W Ts Q->(∀z W H',Raw X.K H H' z W->Q W->QQ z H')->r' x xs H QQ) (ho:UE X F o u) (ha:UA X F (e::es) ua)
  (hbase:attributeBase o name X.env (eval o X.env)=eval o X.env:=by rfl)
  (hfew:((backTo cpos (starEach (e::es) X.env)).all (λx=>!x.1)&&(backToKw cpos (keywordEach [] X.env)).all (λx=>x.1.isSome)&&decide ((e::es).length+([]:List Keyword).length+(if ([]:List Keyword).isEmpty then 0 else 1)<30))=true:=by rfl)
  (hline:(apos.endLine==cpos.line)=true:=by rfl) (hs:starEach (e::es) X.env=(false,eval e X.env)::starEach es X.env:=by rfl) (hplain:(backTo cpos (starEach es X.env)).any (·.1)=false:=by rfl):
  UE X F (.Call (.Attribute o name apos) (e::es) [] cpos) (uBM "str" r u ua):=by
 obtain⟨r',m,hr⟩:=hm
 refine⟨PE.imp (PE.fz (lV PySem.F.plainAttrs_str slot hty m ho.pe ha.pa hbase hfew hline hs hplain)) λσ H QQ ⟨ρ,Q,f,h,k⟩=>⟨ρ,_,f,h,λx W H1 ρ1 s1 v1 q1=>⟨zFf v1 q1.1,ρ1,_,s1.fr,q1.2,λxs as H2 ρ2 s2 p2 q2=>?_⟩⟩⟩
 obtain⟨Ts,rfl,q⟩:=fQ q2
 exact hr x W xs Ts H2 _ _ (v1.hs (s2.hs s1.fr)) (fR p2) q λz W' H' rw q=>rw.fin s2.fr λH'' s4 v4=>k _ _ _ _ ((s1.trans s2).trans s4) v4 q
def zFI:Tv->List Tv->(Tv->Prop)->Prop:=λW Ts Q=>∃i j:Str,W=sT i/\Ts=[sT j]/\Q (bT (decide (0+j.length<=i.length)&&Builtin.Str.subAt i j 0))
theorem wG:∃r',MtR X "str.startswith" r'/\∀x W xs Ts H Q (QQ:VK),VA X.K H x W->VAs X.K H xs Ts->zFI W Ts Q->(∀z W H',Raw X.K H H' z W->Q W->QQ z H')->r' x xs H QQ:=⟨_,zBK,λx W xs Ts H Q QQ v p h k=>by
 obtain⟨i,j,rfl,rfl,q⟩:=h
 obtain⟨rfl,_⟩:=v.leafI
 obtain⟨y,rfl,v'⟩:=cO p
 obtain⟨rfl,_⟩:=v'.leafI
 exact⟨i,j,rfl,rfl,k _ _ _ (.flat rfl) q⟩⟩
def zIB:Tv->List Tv->(Tv->Prop)->Prop:=λW Ts Q=>∃i j:Str,W=sT i/\Ts=[sT j]/\∀n:Int,Q (iT n)
theorem zFA:∃r',MtR X "str.find" r'/\∀x W xs Ts H Q (QQ:VK),VA X.K H x W->VAs X.K H xs Ts->zIB W Ts Q->(∀z W H',Raw X.K H H' z W->Q W->QQ z H')->r' x xs H QQ:=⟨_,zFT,λx W xs Ts H Q QQ v p h k=>by
 obtain⟨i,j,rfl,rfl,q⟩:=h
 obtain⟨rfl,_⟩:=v.leafI
 obtain⟨y,rfl,v'⟩:=cO p
 obtain⟨rfl,_⟩:=v'.leafI
 exact⟨i,j,rfl,rfl,λn=>k _ _ _ (.flat rfl) (q n)⟩⟩
def zIA:Tv->List Tv->(Tv->Prop)->Prop:=λW Ts Q=>∃ss:List Str,W=sT ⟨#[]⟩/\Ts=[.seq false (ss.map sT)]/\(bH ss).length<=100000/\Q (sT ⟨(bH ss).toArray⟩)
theorem zI:∃r',MtR X "str.join" r'/\∀x W xs Ts H Q (QQ:VK),VA X.K H x W->VAs X.K H xs Ts->zIA W Ts Q->(∀z W H',Raw X.K H H' z W->Q W->QQ z H')->r' x xs H QQ:=⟨_,zFS,λx W xs Ts H Q QQ v p h k=>by
 obtain⟨ss,rfl,rfl,l,q⟩:=h
 obtain⟨rfl,_⟩:=v.leafI
 obtain⟨y,rfl,v'⟩:=cO p
 obtain⟨a,ys,rfl,hs,z,p'⟩:=v'.seqI
 rw[jM p']at hs
 refine⟨a,ss,rfl,rfl,bU hs,l,λz e=>k _ _ _ (.flat rfl) ?_⟩
 have:z=⟨(bH ss).toArray⟩:=by
  cases z with
  |mk c=>congr 1;have e:c.toList=bH ss:=e;rw[<-e]
 rw[this];exact q⟩
end
end L2
namespace L2
open PySem PySem.Spec PyProof.Rows WordM
section
variable{X:Cx}{F:Fm}{pos:Pos}
def zJf(i j:Nat)(ua:UTa):UTs:=λP ρ=>uVs ua ρ λTs ρ1=>∃T U,Ts=[T,U]/\P.nx ((ρ1.set i (.va T)).set j (.va U))
theorem zGq{i j:Nat}{x y:Str}{a b:Expr}{ua:UTa}{px py pt:Pos}{kt k2 pt2}(hc:X.calm=true)(hN:X.N.Nodup)(hi:X.N[i]?=some x)(hj:X.N[j]?=some y)(hij:i≠j)
  (hx:X.env.scope.names.lookup x=some .local) (hy:X.env.scope.names.lookup y=some .local) (ha:UA X F [a,b] ua)
  (hw:swappedStores [.Tuple [.Name x px,.Name y py] kt pt] (.Tuple [a,b] k2 pt2) X.env=pure (some [x,y]))
  (hs:swapsWithSole [.Tuple [.Name x px,.Name y py] kt pt] (.Tuple [a,b] k2 pt2) pos.line X.env=pure false:=by rfl):
  US X F (.Assign [.Tuple [.Name x px,.Name y py] kt pt] (.Tuple [a,b] k2 pt2) pos) (zJf i j ua):=⟨PS.imp (zG6 hc hN hi hj hij hx hy ha.pa hw hs) λD σ H ⟨ρ,P,f,h,k1,_⟩=>by
 refine⟨ρ,_,f,h,λxs as H1 ρ1 s1 p1 q1=>?_⟩
 obtain⟨Ts,rfl,T,U,rfl,q⟩:=fQ q1
 obtain⟨v,w,rfl,vv,vw⟩:=tL (fR p1)
 refine⟨v,w,rfl,k1 _ _ _ ?_ (s1.hs f) q⟩
 exact(s1.fr.set (s:=.va T) (λ_=>⟨v,rfl,vv⟩) (λz=>absurd z Bool.false_ne_true)).set (s:=.va U) (λ_=>⟨w,rfl,vw⟩) (λz=>absurd z Bool.false_ne_true)⟩
def iY(K:W.Frag)(mg:Str->Option Value)(x:Str)(T:Tv):Prop:=∃v u,mg x=some u/\RelV v u/\∀H,VA K H v T
theorem sS{x:Str}{T:Tv}(G:iY X.K X.mg x T)(hg:Gl X x)(hd:(x==("__debug__":Str))=false:=by decide):UE X F (.Name x pos) (uC T):=by
 obtain⟨v,u,m,r,h⟩:=G
 exact zFd hg m r h hd
def tK(K:W.Frag)(prm:Params)(mg:Str->Option Value)(x:Str)(kvs:List (Str×Str)):Prop:=∃d,mg x=some (.ref d)/\zAZ K prm d kvs
def uKD(kvs:List (Str×Str))(u:UT):UT:=λρ Q=>u ρ λT ρ1=>∃i j,T=sT i/\getS kvs i=some j/\Q (sT j) ρ1
theorem zAJ{x:Str}{p:Pos}{e:Expr}{u:UT}{kvs:List (Str×Str)}(G:tK X.K X.w.params X.mg x kvs)(hg:Gl X x)(he:UE X F e u)(hs:nV e:=by intro _ _;rfl)(hd:(x==("__debug__":Str))=false:=by decide):UE X F (.Subscript (.Name x p) e pos) (uKD kvs u):=by
 obtain⟨d,m,D⟩:=G
 refine⟨PE.imp (gJ (zIL D) (zM (v:=.ref d) hg m rfl hd) he.pe hs) λσ H QQ ⟨ρ,Q,f,h,k⟩=>⟨ρ,_,f,h,λy T H1 ρ1 s1 v1 q1=>?_⟩⟩
 obtain⟨i,j,rfl,ej,q⟩:=q1
 obtain⟨rfl,_⟩:=v1.leafI
 exact⟨i,j,rfl,rfl,ej,k _ _ _ _ s1 (.flat rfl) q⟩
end
def iX(own:Nat)(fr:List Nat)(g:UG)(tf:UTt)(ue:UT)(T:Tv)(ρ:aH)(R:Option Tv->aH->Prop):Prop:=g T (blk own fr ρ) λρ1=>tf ρ1 λb ρ2=>if b=true then ue ρ2 λU ρ3=>R (some U) (bck own fr ρ ρ3) else R none (bck own fr ρ ρ2)
section
variable{own:Nat}{fr:List Nat}{g:UG}{tf:UTt}{ue:UT}
def zIW(own:Nat)(fr:List Nat)(g:UG)(tf:UTt)(ue:UT)(Ts:List Tv)(Q:List Tv->aH->Prop)(o:Option Tv)(ρ:aH):Prop:=match o with
 |some U=>dN own fr g tf ue Ts ρ λUs ρ4=>Q (U::Us) ρ4
 |none=>dN own fr g tf ue Ts ρ Q
theorem mQ(T:Tv)(Ts:List Tv)(ρ:aH)(Q:List Tv->aH->Prop):dN own fr g tf ue (T::Ts) ρ Q=iX own fr g tf ue T ρ (zIW own fr g tf ue Ts Q):=rfl
theorem fM{ρ:aH}(f:Tv->Option Tv):∀{Ts:List Tv}{Q:List Tv->aH->Prop},(∀T∈Ts,∀R:Option Tv->aH->Prop,R (f T) ρ->iX own fr g tf ue T ρ R)->Q (Ts.filterMap f) ρ->dN own fr g tf ue Ts ρ Q
 |[],_,_,q=>q
 |T::Ts,Q,h,q=>by
  rw[mQ]
  refine h T (.head _) _ ?_
  rw[List.filterMap_cons]at q
  cases e:f T with
  |none=>rw[e]at q;exact fM f (λT' hT'=>h T' (.tail _ hT')) q
  |some U=>rw[e]at q;exact fM (Q:=λUs ρ4=>Q (U::Us) ρ4) f (λT' hT'=>h T' (.tail _ hT')) q
theorem wZ{ρ:aH}(f:Tv->Tv){Ts:List Tv}{Q:List Tv->aH->Prop}(h:∀T∈Ts,∀R:Option Tv->aH->Prop,R (some (f T)) ρ->iX own fr g tf ue T ρ R)(q:Q (Ts.map f) ρ):dN own fr g tf ue Ts ρ Q:=
 fM (λT=>some (f T)) h (by rw[show Ts.filterMap (λT=>some (f T))=Ts.map f from List.filterMap_eq_map'▸rfl];exact q)
theorem xA{ρ:aH}{Ts:List Tv}{Q:List Tv->aH->Prop}(J:Nat->List Tv->aH->Prop)(h0:J 0 [] ρ)(hs:∀i T Us ρ',Ts[i]?=some T->J i Us ρ'->∀R:Option Tv->aH->Prop,(∀o ρ'',J (i+1) (Us++o.toList) ρ''->R o ρ'')->iX own fr g tf ue T ρ' R)
  (hd:∀Us ρ',J Ts.length Us ρ'->Q Us ρ'):dN own fr g tf ue Ts ρ Q:=by
 have key:∀(n i:Nat) (Us:List Tv) (ρ:aH) (Q:List Tv->aH->Prop),n+i=Ts.length->J i Us ρ->(∀Vs ρ',J Ts.length (Us++Vs) ρ'->Q Vs ρ')->dN own fr g tf ue (Ts.drop i) ρ Q:=by
  intro n
  induction n with
  |zero=>
   intro i Us ρ Q e j hd
   have:i=Ts.length:=by omega
   subst this
   rw[List.drop_length]
   exact hd [] ρ (by rw[List.append_nil];exact j)
  |succ n ih=>
   intro i Us ρ Q e j hd
   have hi:i<Ts.length:=by omega
   rw[List.drop_eq_getElem_cons hi,mQ]
   refine hs i _ Us ρ (List.getElem?_eq_getElem hi) j _ λo ρ'' j'=>?_
   cases o with
   |none=>exact ih (i+1) _ ρ'' Q (by omega) j' λVs ρ' q=>hd Vs ρ' (by simpa using q)
   |some U=>exact ih (i+1) _ ρ'' (λUs ρ4=>Q (U::Us) ρ4) (by omega) j' λVs ρ' q=>hd (U::Vs) ρ' (by simpa using q)
 exact key Ts.length 0 [] ρ Q (by omega) h0 λVs ρ' q=>hd Vs ρ' (by simpa using q)
theorem lC{g:UG}{ub:UTs}{Ts:List Tv}{P:PEnds}{ρ:aH}(J:Nat->aH->Prop)(h0:J 0 ρ)(hs:∀i T ρ' (N:aH->Prop),Ts[i]?=some T->J i ρ'->(∀ρ'',J (i+1) ρ''->N ρ'')->g T ρ' λρ1=>ub {P with nx:=N,ct:=N,bk:=P.nx} ρ1)
  (hd:∀ρ',J Ts.length ρ'->P.nx ρ'):gS g ub Ts P ρ:=by
 have key:∀(n i:Nat) (ρ:aH),n+i=Ts.length->J i ρ->gS g ub (Ts.drop i) P ρ:=by
  intro n
  induction n with
  |zero=>
   intro i ρ e j
   have:i=Ts.length:=by omega
   subst this
   rw[List.drop_length]
   exact hd ρ j
  |succ n ih=>
   intro i ρ e j
   have hi:i<Ts.length:=by omega
   rw[List.drop_eq_getElem_cons hi]
   exact hs i _ ρ (λρ'=>gS g ub (Ts.drop (i+1)) P ρ') (List.getElem?_eq_getElem hi) j λρ'' j'=>ih (i+1) ρ'' (by omega) j'
 exact key Ts.length 0 ρ (by omega) h0
end
end L2
namespace L2
open PySem PySem.Spec PyProof.Rows WordM
def gD:PSp:=λas R=>∃m:Int,as=[.dk,.va (iT m)]/\0<m/\BigOk m/\∀r:Int,0<=r->r<m->R (iT r)
theorem On.kp{p c:Addr}{H H':Hp}(o:On p c H H'):Kp (some (p,c)) H H':=⟨λb u e n=>o.e b u e (n p c rfl).1 (n p c rfl).2,λp' c' e=>by cases e;exact o.d⟩
theorem Good.take{P:Program}{w:World}{K:W.Frag}{mg:Str->Option Value}{base:Heap}{k:Nat}{x:Str}{ps:List Str}(G:Good P w K mg base k x ps zAo):aE P w K mg base k x ps gD:=Good.imp G λvs H Q E ⟨dk,as,R,d,p,⟨m,e,hm,hb,q⟩,kk⟩=>by
 subst e
 cases p with
 |cons r1 t1=>
  cases t1 with
  |cons r2 t2=>
   cases t2
   obtain⟨p,c,ed,rfl⟩:=r1
   subst ed
   obtain⟨rfl,_⟩:=VA.leafI r2
   exact⟨p,c,m,rfl,d p c rfl,hm,hb,λr H' h1 h2 o=>kk _ _ _ o.kp (.flat rfl) (q r h1 h2)⟩
theorem xJ{X:Cx}{F:Fm}{st:List Stmt}:USs X F st (λ_ _=>False):=⟨PSs.imp zDj λD σ H ⟨_,_,_,h,_⟩=>h⟩
theorem Has.pfalse{P:Program}{w:World}{K:W.Frag}{mg:Str->Option Value}{base:Heap}{x:Str}{st:Stmt}{N ps:List Str}{k:Nat}{psp:PSp}(h:Has K mg x st)(S:bN N ps (aI st))
  (hb:∀(kV doc pm:Value) (an:Option Addr) (cdv ct:Value) (us:List Value),us.length=ps.length->bindArgs (W.fnOf x x (dI st) (cF st) (aI st) .none kV doc pm an cdv ct) ⟨us,[]⟩=pure (ps.zip us)) (hf:∀as R,psp as R->False):aE P w K mg base (k+1) x ps psp:=
 h.pgood S hb (λ_ _ _ _ _ _ _ _ _=>xJ) λas R q=>(hf as R q).elim
theorem bR{j:Int}(h1:-(10 ^ 100)<j)(h2:j<10 ^ 100):BigOk j:=by
 unfold BigOk
 have:j.natAbs<10 ^ 100:=by omega
 exact Nat.lt_trans this (by decide +kernel)
section
variable{own:Nat}{fr:List Nat}{g:UG}{tf:UTt}{ue:UT}{α:Type}
theorem jL{ρ:aH}(c:α->Tv)(f:α->Option Tv):∀{l:List α}{Q:List Tv->aH->Prop},(∀a∈l,∀R:Option Tv->aH->Prop,R (f a) ρ->iX own fr g tf ue (c a) ρ R)->Q (l.filterMap f) ρ->dN own fr g tf ue (l.map c) ρ Q
 |[],_,_,q=>q
 |a::l,Q,h,q=>by
  rw[List.map_cons,mQ]
  refine h a (.head _) _ ?_
  rw[List.filterMap_cons]at q
  cases e:f a with
  |none=>rw[e]at q;exact jL c f (λb hb=>h b (.tail _ hb)) q
  |some U=>rw[e]at q;exact jL (Q:=λUs ρ4=>Q (U::Us) ρ4) c f (λb hb=>h b (.tail _ hb)) q
theorem eM{ρ:aH}(c f:α->Tv){l:List α}{Q:List Tv->aH->Prop}(h:∀a∈l,∀R:Option Tv->aH->Prop,R (some (f a)) ρ->iX own fr g tf ue (c a) ρ R)(q:Q (l.map f) ρ):dN own fr g tf ue (l.map c) ρ Q:=
 jL c (λa=>some (f a)) h (by rw[show l.filterMap (λa=>some (f a))=l.map f from List.filterMap_eq_map'▸rfl];exact q)
theorem wY{ρ:aH}(r:Tv->Tv->Prop):∀{Ts:List Tv}{Q:List Tv->aH->Prop},(∀T∈Ts,∀R:Option Tv->aH->Prop,(∀U,r T U->R (some U) ρ)->iX own fr g tf ue T ρ R)->(∀Us,Paired r Ts Us->Q Us ρ)->dN own fr g tf ue Ts ρ Q
 |[],_,_,q=>q [] .nil
 |T::Ts,Q,h,q=>by
  rw[mQ]
  exact h T (.head _) _ λU hU=>wY (Q:=λUs ρ4=>Q (U::Us) ρ4) r (λT' hT'=>h T' (.tail _ hT')) λUs p=>q _ (.cons hU p)
theorem zZ{g:UG}{ub:UTs}{P:PEnds}{ρ:aH}(c:α->Tv){l:List α}(J:Nat->aH->Prop)(h0:J 0 ρ)(hs:∀i a ρ' (N:aH->Prop),l[i]?=some a->J i ρ'->(∀ρ'',J (i+1) ρ''->N ρ'')->g (c a) ρ' λρ1=>ub {P with nx:=N,ct:=N,bk:=P.nx} ρ1)
  (hd:∀ρ',J l.length ρ'->P.nx ρ'):gS g ub (l.map c) P ρ:=
 lC J h0 (λi T ρ' N e j hN=>by
  rw[List.getElem?_map]at e
  obtain⟨a,ea,rfl⟩:=Option.map_eq_some_iff.mp e
  exact hs i a ρ' N ea j hN) (by rw[List.length_map];exact hd)
end
theorem sB(x y:Str):eqT (sT x) (sT y)=decide (x=y):=by
 rw[eqT]
 show(x==y)=_
 exact Bool.beq_eq_decide_eq x y
theorem nR{x:Str}{ss:List Str}:((ss.map sT).any λU=>eqT U (sT x))=decide (x∈ss):=by
 rw[List.any_map,Bool.eq_iff_iff,List.any_eq_true,decide_eq_true_iff]
 constructor
 ·rintro⟨y,hy,e⟩
  have e:eqT (sT y) (sT x)=true:=e
  rw[sB,decide_eq_true_iff]at e
  rw[<-e];exact hy
 ·intro h
  exact⟨x,h,by show eqT (sT x) (sT x)=true;rw[sB,decide_eq_true_iff]⟩
theorem qX{x:Str}{ss:List Str}:jC (sT x) (ss.map sT):=⟨trivial,λU hU=>by
 obtain⟨s,_,rfl⟩:=List.mem_map.mp hU
 trivial⟩
theorem sif{b:Bool}{A B:Prop}(h1:b=true->A)(h2:b=false->B):if b=true then A else B:=by
 cases b with
 |true=>exact(if_pos rfl).mpr (h1 rfl)
 |false=>exact(if_neg Bool.false_ne_true).mpr (h2 rfl)
theorem lZ{p:Prop}[Decidable p]{A B:Prop}(h1:p->A)(h2:¬ p->B):if decide p=true then A else B:=sif (λh=>h1 (of_decide_eq_true h)) λh=>h2 (of_decide_eq_false h)
end L2
namespace L2
open PySem PySem.Spec PyProof.Rows WordM
abbrev UTd:=aH->(List (Str×Tv)->aH->Prop)->Prop
def zIK(K:W.Frag)(F:Fm)(u:UTd):TE:=λσ H QQ=>∃ρ Q,FrOk K F ρ σ H/\u ρ Q/\∀a kvs kts H' ρ',Stp K F σ ρ H ρ' H'->H a=none->H' a=some (.dK kvs)->(kts.map (·.1)).Nodup->kts.length<64->VAk K H' kvs kts->Q kts ρ'->QQ (.ref a) H'
structure UD (X:Cx) (F:Fm) (e:Expr) (u:UTd):Prop where
 pe:PE X e (zIK X.K F u)
section
variable{X:Cx}{F:Fm}{e:Expr}{pos:Pos}
def uD(u:UTd):UT:=λρ Q=>u ρ λkts ρ1=>Q (.dct kts) ρ1
theorem zH0{u:UTd}(h:UD X F e u):UE X F e (uD u):=⟨PE.imp (PE.fz h.pe) λσ H QQ ⟨ρ,Q,fr,h,k⟩=>⟨ρ,_,fr,h,λa kvs kts H' ρ' s n e nd z p q=>
 .inr ⟨a,_,rfl,e,rfl,λob=>k _ _ _ _ (s.put fr n e rfl (.frz ob (.dK kvs))) (VA.dct ⟨ob,aT⟩ nd z (VAk.hs (fD e rfl) p)) q⟩⟩⟩
variable{u:UT}{p:Pos}
def zGY(K:W.Frag):List V->Hp->VK->Prop:=λxs H Q=>∃(l:Addr) (ys:List V) (ps:List (Key×V)),xs=[.ref l]/\Rd H l (.lst ys)/\Paired (λy (p:Key×V)=>∃t,y=.ref t/\SqT K H t [kV p.1,p.2]) ys ps/\ps.length<=1000 /\
  ∀d,H d=none->Q (.ref d) (upd H d (.dK (iR [] ps)))
theorem zCP(hc:X.calm=true):CallR X (.type "dict") (zGY X.K):=by
 rintro pins s σ H _ us Q I r ⟨l,ys,ps,rfl,hl,hp,hsz,q⟩
 obtain⟨u,rfl,rx⟩:=bZ r
 cases rx
 obtain⟨hz,its,n,hv,hget⟩:=(show ObjOk X.prog X.w H s.heap l (.lst ys) from hl.ok I.hok)
 have key:∀{ys:List V} {its:List Value} {ps:List (Key×V)},Vals ys its->Paired (λy (p:Key×V)=>∃t,y=.ref t/\SqT X.K H t [kV p.1,p.2]) ys ps ->
   ∃qs:List (Key×Value),KV ps qs/\its.length=qs.length/\∀(j:Nat) (k:Key) (v:Value),qs[j]?=some (k,v)->∃t kk,its[j]?=some (.ref t)/\IsTup s.heap t #[kk,v]/\(bK X.prog X.w).is k kk=true:=by
  intro ys its ps hv hp
  induction hp generalizing its with
  |nil=>cases hv;exact⟨[],.nil,rfl,λj k v e=>by simp at e⟩
  |@cons y p ys' ps' h _ ih=>
   cases hv with
   |cons r0 rs=>
    obtain⟨t,rfl,ht⟩:=h
    cases r0
    obtain⟨qs,kq,lq,fq⟩:=ih rs
    obtain⟨tits,tv,tt,_⟩:=I.tuple ht
    cases tv with
    |@cons _ kk _ _ r1 rs1=>
     cases rs1 with
     |@cons _ vv _ _ r2 rs2=>
      cases rs2
      refine⟨(p.1,vv)::qs,.cons ⟨rfl,r2⟩ kq,by rw[List.length_cons,List.length_cons,lq],λj k v e=>?_⟩
      cases j with
      |zero=>
       cases e
       exact⟨t,kk,rfl,tt,kI r1⟩
      |succ j=>exact fq j k v e
 obtain⟨qs,kq,lq,fq⟩:=key hv hp
 have hbig:=I.big
 have hps:ps.length=qs.length:=Paired.length kq
 refine zBQ (ps:=qs) (I.ok.hd hc) hget ⟨by simpa using lq,λj k v e=>by obtain⟨t,kk,a,b,c⟩:=fq j k v e;exact⟨t,kk,by simpa using a,b,c⟩⟩ (by omega) λh' tk hd k=>?_
 have hlen:=uU ps []
 refine⟨.ref s.heap.objs.size,_,I.laid (t':=tk) (o:=.dK (iR [] ps)) k (Nat.le_refl _) (show ObjOk _ _ _ h' _ (.dK _) from ⟨by rw[sizeLine_eq];have:=hlen;simp at this;omega,?_,_,zF4 kq .nil,hd⟩),rfl,q _ I.fresh⟩
 exact beq_eq_false_iff_ne.mpr (Nat.ne_of_gt hbig)
def zGy(u:UT):UTd:=λρ Q=>u ρ λT ρ1=>∃kts:List (Str×Tv),T=.seq false (kts.map λkt=>.seq true [sT kt.1,kt.2])/\(kts.map (·.1)).Nodup/\kts.length<64/\Q kts ρ1
theorem xW{K:W.Frag}{H:Hp}:∀{ys:List V}{kts:List (Str×Tv)},VAs K H ys (kts.map λkt=>.seq true [sT kt.1,kt.2])->∃ps:List (Key×V),Paired (λy (p:Key×V)=>∃t,y=.ref t/\SqT K H t [kV p.1,p.2]) ys ps/\VAk K H ps kts
 |[],[],_=>⟨[],.nil,.nil⟩
 |y::ys,kt::kts,.cons r t=>by
  obtain⟨ps,h1,h2⟩:=xW t
  obtain⟨a,xs,rfl,hs,z,p⟩:=VA.seqI r
  obtain⟨k,v,rfl,vk,vv⟩:∃k v,xs=[k,v]/\VA K H k (sT kt.1)/\VA K H v kt.2:=by
   cases p with
   |cons r1 t1=>
    cases t1 with
    |cons r2 t2=>cases t2;exact⟨_,_,rfl,r1,r2⟩
  obtain⟨rfl,_⟩:=vk.leafI
  exact⟨(.inr kt.1,v)::ps,.cons ⟨a,rfl,hs⟩ h1,.cons ⟨rfl,vv⟩ h2⟩
theorem zCX{K:W.Frag}{H:Hp}{kvs:List (Key×V)}{kts:List (Str×Tv)}(p:VAk K H kvs kts)(n:(kts.map (·.1)).Nodup):(kvs.map (·.1)).Nodup:=by
 rw[xI p]
 unfold List.Nodup at n ⊢
 rw[List.pairwise_map]
 exact n.imp λh e=>h (Sum.inr.inj e)
theorem zD2(hc:X.calm=true)(hg:Gl X "dict")(hm:X.mg "dict"=none)(he:UE X F e u)(hst:cQ e=false:=by rfl)(hpl:(backTo pos (starEach [] X.env)).any (·.1)=false:=by rfl):UD X F (.Call (.Name "dict" p) [e] [] pos) (zGy u):=
 ⟨PE.imp (iK (zCP hc) hg hm boot_dict (cJ he.pe cT hst) (by decide) (by decide) (gX hst) hpl) λσ H QQ ⟨ρ,Q,f,h,k⟩=>by
  refine⟨ρ,_,f,h,λx T H1 ρ1 s1 v1 q1=>?_⟩
  obtain⟨kts,rfl,nd,z,q⟩:=q1
  obtain⟨a,xs,rfl,⟨ob,hs⟩,zz,p⟩:=v1.seqI
  obtain⟨ps,h1,h2⟩:=xW p
  have l2:ps.length=kts.length:=Paired.length h2
  refine⟨a,xs,ps,rfl,.inr ⟨ob,hs⟩,h1,by omega,λd n=>?_⟩
  rw[wL (kvs:=[]) (by simpa using zCX h2 nd),List.nil_append]
  exact k _ _ _ _ _ (s1.trans (Stp.same s1.fr (cH n))) (s1.non n) aT nd z (VAk.hs (gG n) h2) q⟩
variable{x:Str}{apos cpos:Pos}
end
section
variable{X:Cx}{F:Fm}
def zIn:R2:=λx y H Q=>∃l k xs,x=.ref l/\y=.int k/\Rd H l (.lst xs) /\ -(2 ^ 63)<=k/\k<2 ^ 63/\xs.length*k.toNat<=sizeLine/\∀p,H p=none->Q (.ref p) (upd H p (.lst (List.replicate k.toNat xs).flatten))
theorem zFL:OpR X (binaryOp .Mult) zIn:=by
 rintro pins s σ H _ _ v u Q I rx ry ⟨l,k,xs,rfl,rfl,hH,h1,h2,hz,q⟩
 cases rx
 obtain⟨t,rfl⟩:=ry
 obtain⟨z,its,n,r,e⟩:=hH.ok I.hok
 have hl:=r.length
 have hlen:its.toArray.size*k.toNat<=sizeLine:=by rw[List.size_toArray,<-hl];exact hz
 have hcap:¬ its.toArray.size*k.toNat > (2 ^ 63-1) / 8:=by
  have:(sizeLine:Nat)<=(2 ^ 63-1) / 8:=by decide
  omega
 have hfit:¬ (!Builtin.List.listFitsIndex k)=true:=by
  rw[fitsIndex_both h1 h2]
  exact Bool.false_ne_true
 have hlong:¬ Builtin.List.listTooLong (its.toArray.size*k.toNat)=true:=by
  rw[xY hlen]
  exact Bool.false_ne_true
 have hnew:List.foldl (λx1 x2=>x1++x2) #[] (List.replicate (if its.toArray.isEmpty=true then 0 else k.toNat) its.toArray)=(List.replicate k.toNat its).flatten.toArray:=by
  have f0:∀m:Nat,List.foldl (λx1 x2=>x1++x2) #[] (List.replicate m its.toArray)=(List.replicate m its).flatten.toArray:=λm=>by
   have:=wT its m []
   rw[List.nil_append]at this
   exact this
  rw[f0]
  cases its with
  |nil=>simp
  |cons a r'=>rw[if_neg (by simp)]
 refine wpAny_binaryOp_repeat_ref (T:="list") (U:="int") (by decide) ⟨_,e,rfl⟩ (λs'=>typeIs_int s' k t) noFill_list_mul F.fills_int_mul F.slot_int_rmul repeat_list F.slot_int_index.lookup
  (call_meets F.slot_int_rmul (typeIs_int s k t) F.entry_int_rmul (F.args_int_rmul_2 _ _) (int___rmul___int_list k t l its.toArray n)
   ⟨e,rfl,⟨_,e,rfl⟩,call_meets F.slot_list_mul ⟨_,e,rfl⟩ F.entry_list_mul (F.args_list_mul_2 _ _) (AutoListH.list___mul___list_int_3 l its.toArray n k t hfit hcap hlong) ⟨e,?_⟩⟩)
 rw[hnew]
 exact⟨.ref _,_,I.lnew (t':=s.toks) (r.rep k.toNat) (by rw[rX,Nat.mul_comm];exact hz),rfl,q _ I.fresh⟩
theorem vM{α β:Type}{R:α->β->Prop}{l:List α}{m:List β}(p:Paired R l m):∀k:Nat,Paired R (List.replicate k l).flatten (List.replicate k m).flatten
 |0=>.nil
 |k+1=>by rw[List.replicate_succ,List.replicate_succ,List.flatten_cons,List.flatten_cons];exact mN p (vM p k)
def zAS:P2
 |.seq false xs,.leaf (.int k),Q=>(xs.length*k.toNat<=100000 /\ -(2 ^ 62)<=k/\k<2 ^ 62)/\Q (.seq false (List.replicate k.toNat xs).flatten)
 |T,U,Q=>uF T U Q
theorem fN:eX X (binaryOp .Mult) zAS:=by
 obtain⟨a,oa,ra⟩:=zG1 (X:=X)
 refine⟨_,oa.or zFL,λx y T U H Q QQ vx vy h k=>?_⟩
 unfold zAS at h
 split at h
 ·obtain⟨a,xs,rfl,⟨ob,hs⟩,z,p⟩:=vx.seqI
  obtain⟨rfl,_⟩:=vy.leafI
  obtain⟨⟨h1,h2,h3⟩,q⟩:=h
  have l1:xs.length=_:=Paired.length p
  refine .inr ⟨a,_,xs,rfl,rfl,.inr ⟨ob,hs⟩,by omega,by omega,fO (by rw[l1];exact h1),λb n=>k _ _ _ (Raw.lst n ?_ (vM p _)) q⟩
  rw[rX,Nat.mul_comm];exact h1
 ·exact .inl (ra x y T U H Q QQ vx vy h k)
end
end L2
namespace L2
open PySem PySem.Spec PyProof.Rows WordM
inductive Wd where
 |few (ts:List Str)
 |make (h:Str) (a b:Int) (ms:List Str)
inductive Pt where
 |nothing
 |truths (bs:List Bool)
 |numbers (lo hi st:Int)
 |texts (w:Wd)
 |lists (a b:Int) (f:List Pt)
 |record (a b:Int) (fs:List (Str×Bool×List Pt))
 |table (a b:Int) (w:Wd) (f:List Pt)
def fW:Wd->Tv
 |.few ts=>.seq true [sT "few",.seq true (ts.map sT)]
 |.make h a b ms=>.seq true [sT "make",sT h,iT a,iT b,.seq true (ms.map sT)]
def aW:Pt->Tv
 |.nothing=>.seq true [sT "nothing"]
 |.truths bs=>.seq true [sT "truths",.seq true (bs.map bT)]
 |.numbers lo hi st=>.seq true [sT "numbers",iT lo,iT hi,iT st]
 |.texts w=>.seq true [sT "texts",fW w]
 |.lists a b f=>.seq true [sT "lists",iT a,iT b,.seq true (f.map aW)]
 |.record a b fs=>.seq true [sT "record",iT a,iT b,.seq true (fs.map λx=>.seq true [sT x.1,bT x.2.1,.seq true (x.2.2.map aW)])]
 |.table a b w f=>.seq true [sT "table",iT a,iT b,fW w,.seq true (f.map aW)]
termination_by p=>sizeOf p
decreasing_by
 all_goals simp_wf
 ·have:=List.sizeOf_lt_of_mem ‹_›;omega
 ·obtain⟨x1,x2,x3⟩:=x
  have h1:=List.sizeOf_lt_of_mem ‹_∈fs›
  have h2:=List.sizeOf_lt_of_mem ‹_∈x3›
  simp at h1
  omega
 ·have:=List.sizeOf_lt_of_mem ‹_›;omega
abbrev dB(f:List Pt):Tv:=.seq true (f.map aW)
abbrev zJ6(x:Str×Bool×List Pt):Tv:=.seq true [sT x.1,bT x.2.1,dB x.2.2]
theorem zCI(a b:Int)(f:List Pt):aW (.lists a b f)=.seq true [sT "lists",iT a,iT b,dB f]:=by rw[aW]
theorem zCb(a b:Int)(fs:List (Str×Bool×List Pt)):aW (.record a b fs)=.seq true [sT "record",iT a,iT b,.seq true (fs.map zJ6)]:=by rw[aW]
theorem zCH(a b:Int)(w:Wd)(f:List Pt):aW (.table a b w f)=.seq true [sT "table",iT a,iT b,fW w,dB f]:=by rw[aW]
def cD:Pt->Str
 |.nothing=>"nothing"
 |.truths _=>"truths"
 |.numbers ..=>"numbers"
 |.texts _=>"texts"
 |.lists ..=>"lists"
 |.record ..=>"record"
 |.table ..=>"table"
def bF:Pt->Nat
 |.nothing=>0
 |.truths _=>1
 |.numbers ..=>2
 |.texts _=>3
 |.lists ..=>4
 |.record ..=>5
 |.table ..=>5
theorem kN{a b:Int}{A B:Prop}(h1:a=b->A)(h2:a≠b->B):if (false != eqV (.int a) (.int b))=true then A else B:=sif (λz=>h1 (by simpa[eqV]using z)) λz=>h2 (by simpa[eqV]using z)
theorem dX{a b:Str}{A B:Prop}(h1:a=b->A)(h2:a≠b->B):if (false != eqV (.str a) (.str b))=true then A else B:=sif (λz=>h1 (by simpa[eqV]using z)) λz=>h2 (by simpa[eqV]using z)
def zBt(s:Str):Prop:=Sg s/\s.length<=50
def dY(l:List Str):Prop:=l.Pairwise λa b=>cs a<cs b
def eL:Wd->Prop
 |.few ts=>1<=ts.length/\ts.length<=6/\dY ts/\∀t∈ts,zBt t
 |.make h a b ms=>zBt h/\0<=a/\a<=b/\1<=b/\b<=100/\ms.Sublist MK/\ms≠[]
abbrev lG(f:List Pt):Prop:=f.Pairwise λp q=>bF p<bF q
theorem zB8{a b:Str}(h:cs a<=cs b)(n:a≠b):cs a<cs b:=by
 refine Classical.byContradiction λz=>n (jS (List.le_antisymm h (List.not_lt.mp z)))
theorem zFi(l:List Str):∃ss:List Str,ss.Perm l/\sortedS ss=true:=by
 refine⟨l.mergeSort λa b=>decide (cs a<=cs b),List.mergeSort_perm _ _,PyProof.Rows.sortedS_of_pairwise _ ?_⟩
 refine(List.pairwise_mergeSort (λa b c h1 h2=>?_) (λa b=>?_) l).imp λ{a b} h=>?_
 ·exact decide_eq_true (List.le_trans (of_decide_eq_true h1) (of_decide_eq_true h2))
 ·rcases List.le_total (cs a) (cs b) with z|z<;>simp[z]
 ·rw[ltCps_eq]
  exact decide_eq_false (List.not_lt.mpr (of_decide_eq_true h))
theorem zFh(l:List Str):(cG l).Pairwise λa b=>cs a<=cs b:=by
 obtain⟨ss,h1,h2⟩:=zFi l
 rw[<-nC h1 h2]
 exact mL _ h2
theorem wD{l:List Str}(n:l.Nodup):dY (cG l):=by
 have h2:(cG l).Nodup:=(jF l).nodup_iff.mpr n
 exact List.Pairwise.imp₂ (λa b h n=>zB8 h n) (zFh l) h2
theorem zCq{l:List Str}(h:dY l):l.Nodup:=List.Pairwise.imp (λ{a b} h e=>by rw[e]at h;exact List.lt_irrefl _ h) h
end L2
namespace L2
open PySem PySem.Spec PyProof.Rows WordM
def stW(x y:Str):Bool:=decide (0+y.length<=x.length)&&Builtin.Str.subAt x y 0
def bE(x hd:Str):Str:=Txt.slice x (some (hd.length:Int)) none
def dP:Wd->Str->Bool
 |.few ss,x=>decide (x∈ss)
 |.make hd lo hi ms,x=>stW x hd&&((decide (lo<=((bE x hd).length:Int))&&decide (((bE x hd).length:Int)<=hi))&&(cs (bE x hd)).all λc=>decide (cE c∈ms))
def bL:Tv->Nat
 |.leaf .non=>0
 |.leaf (.bl _)=>1
 |.leaf (.int _)=>2
 |.leaf (.str _)=>3
 |.leaf _=>5
 |.seq false _=>4
 |.seq true _=>5
 |.dct _=>5
def tH:Nat->Str
 |0=>"nothing"
 |1=>"truth"
 |2=>"number"
 |3=>"text"
 |4=>"list"
 |_=>"dict"
def gF(lo hi st i:Int):Bool:=decide (lo<=i)&&decide (i<=hi)&&decide ((i-lo) % max 1 st=0)
def zT:Pt->Tv->Bool
 |.nothing,.leaf .non=>true
 |.truths bs,.leaf (.bl b)=>decide (b∈bs)
 |.numbers lo hi st,.leaf (.int i)=>gF lo hi st i
 |.texts w,.leaf (.str s)=>dP w s
 |_,_=>false
def eJ:Nat->Pt->Tv->Bool
 |0,_,_=>false
 |n+1,.lists a b f,.seq false xs=>decide (a<=xs.length)&&decide ((xs.length:Int)<=b)&&xs.all λx=>f.any λp=>eJ n p x
 |n+1,.record a b fs,.dct kts=>decide (a<=kts.length)&&decide ((kts.length:Int)<=b)&&(fs.all λx=>match dW kts x.1 with|none=>!x.2.1|some U=>x.2.2.any λp=>eJ n p U)&&kts.all λkt=>fs.any λx=>decide (x.1=kt.1)
 |n+1,.table a b w f,.dct kts=>decide (a<=kts.length)&&decide ((kts.length:Int)<=b)&&kts.all λkt=>dP w kt.1&&f.any λp=>eJ n p kt.2
 |_+1,p,T=>zT p T
def pE(n:Nat)(f:List Pt)(T:Tv):Bool:=f.any λp=>eJ n p T
end L2
namespace L2
open PySem PySem.Spec PyProof.Rows WordM
theorem eZ{p:Pt}{T:Tv}(h:zT p T=true):bF p=bL T:=by
 cases p with
 |nothing=>cases T with
  |leaf v=>cases v<;>first|rfl|exact absurd h Bool.false_ne_true
  |_=>exact absurd h Bool.false_ne_true
 |truths bs=>cases T with
  |leaf v=>cases v<;>first|rfl|exact absurd h Bool.false_ne_true
  |_=>exact absurd h Bool.false_ne_true
 |numbers lo hi st=>cases T with
  |leaf v=>cases v<;>first|rfl|exact absurd h Bool.false_ne_true
  |_=>exact absurd h Bool.false_ne_true
 |texts w=>cases T with
  |leaf v=>cases v<;>first|rfl|exact absurd h Bool.false_ne_true
  |_=>exact absurd h Bool.false_ne_true
 |lists a b f=>cases T with
  |leaf v=>cases v<;>exact absurd h Bool.false_ne_true
  |_=>exact absurd h Bool.false_ne_true
 |record a b f=>cases T with
  |leaf v=>cases v<;>exact absurd h Bool.false_ne_true
  |_=>exact absurd h Bool.false_ne_true
 |table a b w f=>cases T with
  |leaf v=>cases v<;>exact absurd h Bool.false_ne_true
  |_=>exact absurd h Bool.false_ne_true
theorem zEz{n:Nat}{p:Pt}{T:Tv}(h:eJ n p T=true):bF p=bL T:=by
 cases n with
 |zero=>exact absurd h Bool.false_ne_true
 |succ n=>
  cases p with
  |nothing=>exact eZ h
  |truths bs=>exact eZ h
  |numbers lo hi st=>exact eZ h
  |texts w=>exact eZ h
  |lists a b f=>cases T with
   |leaf v=>exact eZ h
   |seq t xs=>cases t with
    |false=>rfl
    |true=>exact eZ h
   |dct kts=>exact eZ h
  |record a b fs=>cases T with
   |leaf v=>exact eZ h
   |seq t xs=>cases t<;>exact eZ h
   |dct kts=>rfl
  |table a b w f=>cases T with
   |leaf v=>exact eZ h
   |seq t xs=>cases t<;>exact eZ h
   |dct kts=>rfl
theorem yB{kts:List (Str×Tv)}(hn:(kts.map (·.1)).Nodup){k:Str}{U:Tv}(h:(k,U)∈kts):dW kts k=some U:=by
 obtain⟨i,hi,e⟩:=List.mem_iff_getElem.mp h
 have:=zEx hn (i:=i) (kt:=(k,U)) (by rw[List.getElem?_eq_getElem hi,e])
 exact this
end L2
namespace L2
open PySem PySem.Spec PyProof.Rows WordM
def oG(K:W.Frag):Sp:=λvs H Q _=>∃(a:Addr) (ns:List Int),vs=[.ref a]/\SqL K H a (ns.map V.int)/\ns.length<=63/\∀H',Q (.bl true) H'
def kW(n:Nat):aH:=.no::.dk::List.replicate (n-2) .no
theorem zHP{K:W.Frag}{H:Hp}{p c:Addr}{N:List Str}{x:V}(hN:2<=N.length)(d:DeckAt H p c):FrOk K ⟨H,some (p,c)⟩ (kW N.length) ((cZ N [x]).set 1 (some (.ref p))) H:=by
 have nm:∀(i:Nat) (s:Sl),(kW N.length)[i]?=some s->(s=.dk/\i=1)\/s=.no:=λi s e=>by
  unfold kW at e
  match i,e with
  |0,e=>exact .inr (by simpa using e.symm)
  |1,e=>exact .inl ⟨by simpa using e.symm,rfl⟩
  |i+2,e=>
   have e:(List.replicate (N.length-2) Sl.no)[i]?=some s:=by simpa using e
   exact .inr (List.eq_of_mem_replicate (List.mem_of_getElem? e))
 refine⟨λp' c' e=>by cases e;exact d,⟨λ_ _ e _=>e,λp' c' e=>by cases e;exact d⟩,?_,λi s e=>?_,λi j a s t e _ m _ _ _=>?_⟩
 ·unfold kW cZ
  simp
  omega
 ·rcases nm i s e with⟨rfl,rfl⟩|rfl
  ·refine⟨p,c,rfl,?_⟩
   unfold ixv cZ
   rw[List.getElem?_set_self (by simp;omega)]
   rfl
  ·trivial
 ·rcases nm i s e with⟨rfl,_⟩|rfl<;>cases m
theorem zFy{X:Cx}{st:List Stmt}{us:UTs}(h:∀F,USs X F st us):PSs X st (λD σ H=>∃F,kH X.K F us D σ H):=λpins s σ H D I ⟨F,q⟩=>(h F).ps pins s σ H D I q
theorem zFW{X:Cx}{us:UTs}{D:jD}{p c:Addr}{H:Hp}{N:List Str}{x:V}(hN:2<=N.length)(d:DeckAt H p c)(q:∀H',D.rt (.bl true) H')(h:us {nx:=λ_=>False,rt:=λT=>T=bT true} (kW N.length)):
  ∃F,kH X.K F us D ((cZ N [x]).set 1 (some (.ref p))) H:=⟨⟨H,some (p,c)⟩,kW N.length,_,zHP hN d,h,λ_ _ _ _ _ z=>z.elim,λx T H' _ v e=>by
 subst e
 obtain⟨rfl,_⟩:=v.leafI
 exact q H',λ_ _ _ _ _ z=>z.elim,λ_ _ _ _ _ z=>z.elim⟩
end L2
namespace L2
open PySem PySem.Spec PyProof.Rows WordM
abbrev LSp:=List Ar->(List Tv->Prop)->Prop
def sQ(K:W.Frag)(lsp:LSp):Sp:=λvs H Q _=>∃dk as R,(∀p c,dk=some (p,c)->DeckAt H p c)/\Paired (mF K dk H) vs as/\lsp as R/\∀a xs Ts H',Kp dk H H'->H a=none->H' a=some (.lst xs)->Ts.length<=100000->VAs K H' xs Ts->R Ts->Q (.ref a) H'
def gL(P:Program)(w:World)(K:W.Frag)(mg:Str->Option Value)(base:Heap)(k:Nat)(x:Str)(ps:List Str)(lsp:LSp):Prop:=Good P w K mg base k x ps (sQ K lsp)
def sI(lsp:LSp)(ua:UTa):UTl:=λρ Q=>ua ρ λas ρ1=>lsp as λTs=>Q Ts ρ1
section
variable{X:Cx}{F:Fm}{e:Expr}{es:List Expr}{x:Str}{p pos:Pos}{ua:UTa}
theorem zCC{lsp:LSp}(σ:St)(H:Hp)(QQ:VK)(h:lW X.K F (sI lsp ua) σ H QQ):kF (sQ X.K lsp) [] E0 (lX X.K F ua) σ H QQ:=by
 obtain⟨ρ,Q,fr,h,k⟩:=h
 refine⟨ρ,_,fr,h,λxs as H1 ρ1 s1 p1 q1=>?_⟩
 show sQ X.K lsp (xs++[]) H1 QQ E0
 rw[List.append_nil]
 exact⟨F.dk,as,_,s1.fr.kp.dkk,p1,q1,λa ys Us H' kp n e z v q=>k _ _ _ _ _ (s1.trans (Stp.call s1.fr kp)) (s1.non n) e z v q⟩
theorem oF{k:Nat}{ps:List Str}{lsp:LSp}(G:gL X.prog X.w X.K X.mg X.base k x ps lsp)(hr:Room k X.A)(hg:Gl X x)(ha:UA X F (e::es) ua)(hdb:(x==("__debug__":Str))=false:=by decide)
  (hst:cQ e=false:=by rfl) (hpl:(backTo pos (starEach es X.env)).any (·.1)=false:=by rfl):UL X F (.Call (.Name x p) (e::es) [] pos) (sI lsp ua):=
 ⟨PE.imp (lU G hr hg ha.pa hdb hst hpl) zCC⟩
abbrev UTr:=aH->(List Tv->Prop)->Prop
def zII(K:W.Frag)(F:Fm)(u:UTr):TS:=λD σ H=>∃ρ R,FrOk K F ρ σ H/\u ρ R/\∀a xs Ts H',Kp F.dk F.H0 H'->F.H0 a=none->H' a=some (.lst xs)->Ts.length<=100000->VAs K H' xs Ts->R Ts->D.rt (.ref a) H'
structure URs (X:Cx) (F:Fm) (st:List Stmt) (u:UTr):Prop where
 ps:PSs X st (zII X.K F u)
variable{st:Stmt}{rest:List Stmt}
def zBf(u:UTl):UTr:=λρ R=>u ρ λTs _=>R Ts
theorem zAi{u:UTl}(h:UL X F e u):URs X F [.Return (some e) pos] (zBf u):=⟨iP (PS.imp (iQ h.pe) λD σ H ⟨ρ,R,fr,h,k⟩=>⟨ρ,_,fr,h,λa xs Ts H' ρ' s n e z v q=>k a xs Ts H' s.fr.kp (fr.none0 n) e z v q⟩)⟩
def zJn(s:UTs)(t:UTr):UTr:=λρ R=>s {nx:=λρ'=>t ρ' R,rt:=λ_=>False} ρ
theorem yT{s:UTs}{t:UTr}(h:US X F st s)(hr:URs X F rest t):URs X F (st::rest) (zJn s t):=⟨PSs.imp (eB h.ps hr.ps) λD σ H ⟨ρ,R,fr,h,k⟩=>
 ⟨ρ,_,fr,h,λσ' H' ρ' fr' hs q=>⟨ρ',R,fr',q,k⟩,λ_ _ _ _ _ z=>z.elim,λ_ _ _ _ _ z=>z.elim,λ_ _ _ _ _ z=>z.elim⟩⟩
def rIf(t:UTt)(s r:UTr):UTr:=λρ R=>t ρ λb ρ1=>if b=true then s ρ1 R else r ρ1 R
theorem zHZ{c:Expr}{a:List Stmt}{t:UTt}{s r:UTr}(hc:UB X F c t)(ha:URs X F a s)(hb:URs X F rest r):URs X F (.If c a [] pos::rest) (rIf t s r):=by
 refine⟨PSs.imp (eB (lT hc.pt ha.ps jU) hb.ps) λD σ H ⟨ρ,R,fr,h,k⟩=>?_⟩
 refine⟨ρ,_,fr,h,λb H1 ρ1 s1 q1=>?_⟩
 cases b with
 |true=>exact aZ ⟨ρ1,R,s1.fr,by rw[if_pos rfl]at q1;exact q1,k⟩
 |false=>exact aK ⟨ρ1,R,s1.fr,by rw[if_neg Bool.false_ne_true]at q1;exact q1,k⟩
end
theorem Has.lgood{P:Program}{w:World}{K:W.Frag}{mg:Str->Option Value}{base:Heap}{x:Str}{st:Stmt}{N ps:List Str}{k:Nat}{lsp:LSp}{us:UTr}(h:Has K mg x st)(S:bN N ps (aI st))
  (hb:∀(kV doc pm:Value) (an:Option Addr) (cdv ct:Value) (us:List Value),us.length=ps.length->bindArgs (W.fnOf x x (dI st) (cF st) (aI st) .none kV doc pm an cdv ct) ⟨us,[]⟩=pure (ps.zip us))
  (hbody:∀(f:Addr) (cdv:Value) (A:Around) (outer:List Env) (s:Shared) (H:Hp) (E:XK) (F:Fm),Room k (A.deeper (envOfC x (aI st) s.heap.objs.size f cdv))->URs (eK CX0 P w K mg base N x (aI st) f cdv A outer s H E).nox F (cF st) us)
  (hp:∀as R,lsp as R->as.length=ps.length/\us (eP N.length as) R):gL P w K mg base (k+1) x ps lsp:=by
 refine h.good S hb (λvs H Q E q=>?_) (λf cdv A outer s H vs Q E hr q=>?_)
 ·obtain⟨dk,as,R,d,p,q,_⟩:=q
  rw[Paired.length p]
  exact(hp as R q).1
 ·obtain⟨dk,as,R,d,p,q,k⟩:=q
  exact⟨_,(hbody f cdv A outer s H E ⟨H,dk⟩ hr).ps,eP N.length as,R,yH d p,(hp as R q).2,λa xs Ts H' kp n e z v q=>k a xs Ts H' kp n e z v q⟩
end L2
namespace L2
open PySem PySem.Spec PyProof.Rows
def dZ:Bool->Value->Bool
 |b,.bool c=>b==c
 |_,_=>false
theorem jG{b:Bool}{v:Value}(h:dZ b v=true):v=.bool b:=by
 cases v<;>simp_all [dZ]
def gK(b:Bool):Int:=if b then 1 else 0
section
variable{prog:Program}{w:World}{A:Around}{E:Value->Shared->Prop}{s:Shared}
theorem zDW{b:Bool}{Q:Int->Shared->Prop}(h:Q (gK b) {s with toks:=s.toks+1}):wpAny (model prog w) A (pyHash (.bool b)) Q E s:=by
 unfold pyHash
 have hv:[Value.bool b].any Value.onHeap=false:=rfl
 refine wpAny_bind ?_
 rw[cRoomFor,if_neg (by rw[hv];exact Bool.false_ne_true)];refine wpAny_pure ?_
 refine wpAny_bind (wpAny_specialOf (typeIs_bool' s b) F.slot_bool_hash.lookup ?_)
 show wpAny _ _ (if (some (Value.builtin "int.__hash__")==some Value.none)=true then _ else _) Q E s
 rw[if_neg (by rw[beq_builtin_none];exact Bool.false_ne_true)]
 refine wpAny_bind (wpAny_specialOf (typeIs_bool' s b) F.slot_bool_hash.lookup ?_)
 show wpAny _ _ (callSpecialIfBoundUnlessNone? (.bool b) "__hash__" _ >>= _) Q E s
 refine wpAny_bind (wpAny_callSpecialIfBoundUnlessNone?_slot (typeIs_bool' s b) F.slot_bool_hash
  (wpAny_call_entry F.slot_bool_hash (typeIs_bool' s b) PySem.entry_int_hash
   (show wpAny _ _ (do ret (<- mkInt (rawHash (gK b)))) _ _ s from ?_) (PySem.args_int_hash _)))
 refine wpAny_ret_mkInt ?_
 cases b
 ·exact wpAny_pure h
 ·exact wpAny_pure h
theorem zGj{a b:Bool}{Q:Bool->Shared->Prop}(h:Q (decide (a=b)) s):wpAny (model prog w) A (eqBool (.bool a) (.bool b)) Q E s:=by
 refine SeqAt.EqAt.bool_bool a b _ _ _ _ ?_
 have e:(a==b)=decide (a=b):=by cases a<;>cases b<;>rfl
 rw[e];exact h
end
def iU(prog:Program)(w:World):PySem.KeyKind prog w Bool where
 is:=dZ
 hash:=gK
 inj:=λv a b ha hb=>by
  have:=(jG ha).symm.trans (jG hb)
  injection this
 byValue:=λk v h=>by rw[jG h];rfl
 pyHash:=λhv h=>by rw[jG hv];exact zDW h
 eqBool:=λhu hv h=>by rw[jG hu,jG hv];exact zGj h
 «strs»:=λk x t v h=>by simp[dZ]at h
def usB(f t:Bool):List Bool:=(if f then [false] else [])++(if t then [true] else [])
def esB(f t:Bool):Array (Int×Value):=((usB f t).map λb=>(gK b,Value.bool b)).toArray
def gM(l f t:Bool):SetTable:=⟨7,((usB f t).map λb=>if b then 1 else 0).toArray,#[],0,l,0,true⟩
theorem zJA(l f t b:Bool)(h:b∉usB f t):layNew (gM l f t) (esB f t) (gK b) (.bool b)=(esB (f || !b) (t || b),gM l (f || !b) (t || b),false,false):=by
 cases l<;>cases f<;>cases t<;>cases b<;>first|rfl|exact absurd (by simp[usB]) h
theorem uJ(l f t:Bool):(gM l f t).fits (esB f t).size=true:=by cases l<;>cases f<;>cases t<;>rfl
theorem zIQ(l f t:Bool):(gM l f t).tooFull=false:=by cases l<;>cases f<;>cases t<;>rfl
theorem sX(f t:Bool):(esB f t).size=(usB f t).length:=by simp[esB]
theorem kU(f t:Bool):(usB f t).length<=2:=by cases f<;>cases t<;>decide
def SetBl(w:World)(a:Addr)(f t:Bool)(h:Heap):Prop:=∃ep,h.get? a=some (cP (esB f t) ep (gM (!byT w) f t))
section
variable{prog:Program}{w:World}{A:Around}{E:Value->Shared->Prop}{s:Shared}{a:Addr}{f t b:Bool}
theorem SetBl.kept{h h':Heap}(S:SetBl w a f t h)(k:∀o,h.get? a=some o->h'.get? a=some o):SetBl w a f t h':=by
 obtain⟨ep,e⟩:=S
 exact⟨ep,k _ e⟩
theorem elB:ElemsOf (iU prog w) (esB f t).toList:=λe he=>by
 have he:e∈(usB f t).map λb=>(gK b,Value.bool b):=he
 obtain⟨b,_,rfl⟩:=List.mem_map.mp he
 exact⟨⟨b,by show dZ b (.bool b)=true;simp[dZ],rfl⟩,rfl⟩
theorem findB:((esB f t).toList.findIdx? λe=>(iU prog w).is b e.2)=none↔b∉usB f t:=by
 rw[List.findIdx?_eq_none_iff]
 constructor
 ·intro h hb
  have:=h (gK b,.bool b) (by simp only[esB];exact List.mem_map.mpr ⟨b,hb,rfl⟩)
  exact absurd this (by show ¬ dZ b (.bool b)=false;simp[dZ])
 ·intro h e he
  have he:e∈(usB f t).map λb=>(gK b,Value.bool b):=he
  obtain⟨c,hc,rfl⟩:=List.mem_map.mp he
  show dZ b (.bool c)=false
  simp only[dZ,beq_eq_false_iff_ne]
  exact λz=>h (z▸hc)
theorem inB{f t b:Bool}(h:b∈usB f t):(f || !b)=f/\(t || b)=t:=by
 cases f<;>cases t<;>cases b<;>simp_all [usB]
theorem zEY{Q:Bool->Shared->Prop}(S:SetBl w a f t s.heap)(h:∀r h',Heap.SameBut a s.heap h'->SetBl w a (f || !b) (t || b) h'->Q r {s with heap:=h'}):
  wpAny (model prog w) A (setAddHashed a (.bool b) ((iU prog w).hash b)) Q E s:=by
 obtain⟨ep,ho⟩:=id S
 have hk:(iU prog w).is b (.bool b)=true:=by show dZ b (.bool b)=true;simp[dZ]
 have lt:(esB f t).size<scanBound:=by rw[sX];have:=kU f t;show _<4096;omega
 unfold setAddHashed setAddHashedIn
 refine wpAny_holding (wpAny_bind (wpAny_setState_of ho rfl (uJ _ _ _) ?_))
 dsimp only
 rw[byScan_of (x:=.bool b) rfl lt (elB (prog:=prog) (w:=w)),if_pos rfl]
 unfold setAddByScan
 refine wpAny_bind (wpAny_bind (wpAny_rule ?_))
 refine wpAny_bind (wpAny_setScan_of hk ho rfl (uJ _ _ _) elB ?_)
 cases hr:(esB f t).toList.findIdx? (λe=>(iU prog w).is b e.2) with
 |some j=>
  dsimp only
  have hin:b∈usB f t:=Classical.byContradiction λz=>by rw[findB.mpr z]at hr;cases hr
  refine wpAny_pure (wpAny_pure ?_)
  have e:s={s with heap:=s.heap}:=by cases s;rfl
  rw[e]
  refine h false s.heap (Heap.SameBut.refl a s.heap) ?_
  rw[(inB hin).1,(inB hin).2]
  exact S
 |none=>
  dsimp only
  have hout:=findB.mp hr
  rw[show(iU prog w).hash b=gK b from rfl,zJA _ _ _ _ hout]
  dsimp only
  refine wpAny_bind (wpAny_pure ?_)
  rw[if_pos (show(gM (!byT w) (f || !b) (t || b)).plain=true from rfl)]
  refine wpAny_bind ?_
  rw[show hashByValue 8 (.bool b)=pure true from rfl]
  refine wpAny_pure ?_
  rw[if_pos rfl]
  refine wpAny_bind (wpAny_storeSet_of ho rfl ?_ (by rw[sX];have:=kU (f || !b) (t || b);exact Nat.le_trans this (by decide)))
  rw[zIQ]
  have o1:=Heap.get?_update_self (Obj.putSet (esB (f || !b) (t || b)) (gM (!byT w) (f || !b) (t || b))) ho rfl
  exact wpAny_pure (wpAny_pure (h true _ (Heap.SameBut.update s.heap a _) ⟨ep+1,o1⟩))
end
end L2
namespace L2
open PySem PySem.Spec PyProof.Rows
def inF(bs:List Bool):Bool:=bs.any (!·)
def inT(bs:List Bool):Bool:=bs.any id
theorem zEE(bs:List Bool)(b:Bool):inF (bs++[b])=(inF bs || !b):=by simp[inF]
theorem zED(bs:List Bool)(b:Bool):inT (bs++[b])=(inT bs || b):=by simp[inT]
section
variable{prog:Program}{w:World}{A:Around}{R:Result->Shared->Prop}{I:Addr}{fp wr:List Addr}{G:Array GenState->Array GenState->Prop}{n:Nat}{P:Nat->Value->Prop}{St:Nat->Shared->Prop}
theorem zEw(W:WalksS prog w A.in1 I fp wr G n P St)(S:Addr)(hf:S∉fp)(bs:List Bool)(hn:n=bs.length)(hv:∀i v,P i v->∃b,bs[i]?=some b/\v=.bool b):
  ∀(k i:Nat) (s:Shared),n-i=k->i<=n->St i s->SetBl w S (inF (bs.take i)) (inT (bs.take i)) s.heap ->
   (∀s',Moved (S::wr) G s s'->SetBl w S (inF bs) (inT bs) s'.heap->R (.ok (.ret .none)) s')->codeAny (model prog w) A (.builtin "set.update.loop" ⟨[.ref S,.ref I],[]⟩) R s:=λk i s hk hi st hS hR=>
 qU W S hf (λi h=>SetBl w S (inF (bs.take i)) (inT (bs.take i)) h) (λ_ _ _ S k=>S.kept k) (λi v s' Q E lt hP hS q=>by
  obtain⟨b,eb,rfl⟩:=hv i v hP
  refine pQ (iU prog w) (x:=b) (by show dZ b (.bool b)=true;simp[dZ]) (zEY (s:={s' with toks:=s'.toks+1}) hS λr h' sb S2=>q r h' sb ?_)
  rw[List.take_add_one,eb]
  show SetBl w S (inF (bs.take i++[b])) (inT (bs.take i++[b])) h'
  rw[zEE,zED]
  exact S2) k i s hk hi st hS λs' m S'=>hR s' m (by rw[hn,List.take_length]at S';exact S')
end
theorem zHT{vs:List Value}{bs:List Bool}(h:vs=bs.map Value.bool)(i:Nat)(v:Value)(e:vs[i]?=some v):∃b,bs[i]?=some b/\v=.bool b:=by
 subst h
 rw[List.getElem?_map]at e
 obtain⟨b,hb,rfl⟩:=Option.map_eq_some_iff.mp e
 exact⟨b,hb,rfl⟩
section
variable{prog:Program}{w:World}{A:Around}{E:Value->Shared->Prop}{s:Shared}
theorem zB1{l:Addr}{items:Array Value}{bs:List Bool}{Q:Value->Shared->Prop}(hh:A.handled=none)(hl:s.heap.IsList l items)(hi:items.toList=bs.map Value.bool)
  (h:∀(h':Heap) (tk:Nat),SetBl w s.heap.objs.size (inF bs) (inT bs) h'->(∀b o,b<s.heap.objs.size->s.heap.get? b=some o->h'.get? b=some o)->Q (.ref s.heap.objs.size) {s with heap:=h',toks:=tk}):
  wpAny (model prog w) A (call (.type "set") [.ref l]) Q E s:=by
 have hz:items.size=bs.length:=by have:=congrArg List.length hi;simpa using this
 refine qK hh hl (λhh3 ne nf s1 e1 g1 st=>?_) h
 subst e1
 exact zEw ((Walks.list hh3 _ l ne items).toS) s.heap.objs.size nf bs hz (λi v hv=>zHT hi i v (by rw[Array.getElem?_toList];exact hv)) (items.size-0) 0 _ (by omega) (Nat.zero_le _) st ⟨0,g1⟩ λs' m S'=>pY m m.gens S'
end
end L2
namespace L2
open PySem PySem.Spec PyProof.Rows
theorem vL{vs:List Value}{us:List Bool}(h:vs.Perm (us.map Value.bool)):∃bs:List Bool,vs=bs.map Value.bool/\bs.Perm us:=by
 let g:Value->Bool:=λv=>match v with|.bool b=>b|_=>false
 refine⟨vs.map g,?_,?_⟩
 ·rw[List.map_map]
  conv=>lhs;rw[<-List.map_id vs]
  refine List.map_congr_left λv hv=>?_
  obtain⟨b,_,rfl⟩:=List.mem_map.mp (h.mem_iff.mp hv)
  rfl
 ·have:=h.map g
  rw[List.map_map]at this
  have e:us.map (g∘Value.bool)=us:=by
   conv=>rhs;rw[<-List.map_id us]
   exact List.map_congr_left λb _=>rfl
  rwa[e]at this
theorem zIi(l f t:Bool):dE (gM l f t).place:=by
 cases f<;>cases t<;>first|exact qD (Nat.le_of_ble_eq_true rfl)|skip
 intro i j hij a b ha hb
 have:=(Array.getElem?_eq_some_iff.mp hb).1
 have h2:(gM l true true).place.size=2:=rfl
 have e1:i=0:=by omega
 have e2:j=1:=by omega
 subst e1 e2
 cases ha
 cases hb
 exact Nat.zero_lt_one
end L2
namespace L2
open PySem PySem.Spec PyProof.Rows
@[reducible] def sortB:PyProof.Rows.KeyKind where
 α:=Bool
 blt a b:=!a&&b
 irrefl a:=by cases a<;>rfl
 trans a b c h1 h2:=by cases a<;>cases b<;>cases c<;>simp_all
 negTrans a b c h:=by cases a<;>cases b<;>cases c<;>simp_all
 total a b h1 h2:=by cases a<;>cases b<;>simp_all
 keyOf v:=match v with|.bool b=>some b|_=>none
 dflt:=false
section
variable{prog:Program}{w:World}{A:Around}{E:Value->Shared->Prop}{s:Shared}
theorem zCw{a b:Bool}{Q:Bool->Shared->Prop}(h:Q (!a&&b) s):wpAny (model prog w) A (oneLt' true (.bool a) (.bool b)) Q E s:=by
 rw[oneLt'_eq]
 simp only[if_true]
 refine wpAny_bind (wpAny_cRoomFor_byValue rfl ?_)
 refine wpAny_bind (wpAny_callSpecialIfBound?_slot (typeIs_bool' s a) F.slot_bool_lt ?_)
 refine call_gives F.slot_bool_lt (typeIs_bool' s a) F.entry_int_lt (F.args_int_lt_2 _ _) (gives_int_lt_bools a b) ?_
 have e:decide (b2i a<b2i b)=(!a&&b):=by cases a<;>cases b<;>rfl
 show wpAny _ _ (truthOfDropped (.bool (decide (b2i a<b2i b)))) _ _ _
 rw[e]
 exact wpAny_truthy_bool h
end
theorem zB4:sortB.OneLt:=by
 intro prog w A E s x y a b Q ha hb h
 cases x<;>simp only[sortB,reduceCtorEq,Option.some.injEq]at ha
 cases y<;>simp only[sortB,reduceCtorEq,Option.some.injEq]at hb
 cases ha;cases hb
 exact zCw h
theorem uR:∀(bs:List Bool),(bs.map Value.bool).mapM firstOfTuple'=pure ((bs.map Value.bool).map λ_=>none)
 |[]=>by simp
 |b::bs=>by rw[List.map_cons,List.mapM_cons,show firstOfTuple' (.bool b)=pure none from rfl,uR bs];simp
theorem uT:∀(bs:List Bool),(bs.map Value.bool).mapM typeOf=pure ((bs.map Value.bool).map λ_=>Value.type "bool")
 |[]=>by simp
 |b::bs=>by
  rw[List.map_cons,List.mapM_cons,uT bs]
  show(pure (Value.type "bool") >>= λb=>pure _ >>= λbs=>pure (b::bs))=_
  simp
theorem zCa{b c:Bool}{bs:List Bool}:keyKind' (((b::c::bs).map Value.bool).toArray)=pure oneType':=by
 rw[keyKind'_eq,List.mapM_toArray,uR]
 simp only[map_pure,pure_bind]
 rw[if_neg (by simp),if_neg (by simp)]
 rw[oneTypeOnly'_eq,List.mapM_toArray,uT]
 simp only[map_pure,pure_bind]
 have hall:((List.map (λ_=>Value.type "bool") ((b::c::bs).map Value.bool)).toArray.all λx=>x==Value.type "bool")=true:=by
  simp only[List.all_toArray,List.all_map,List.all_eq_true]
  intro _ _
  rfl
 have h0:(List.map (λ_=>Value.type "bool") ((b::c::bs).map Value.bool)).toArray[0]?=some (Value.type "bool"):=by simp
 rw[h0]
 simp only[hall,if_true,pure_bind,Option.isSome_some]
theorem zEm{f t:Bool}{bs:List Bool}(h:bs.Perm (usB f t))(s:∀i j:Nat,i<=j->∀a b,bs[i]?=some a->bs[j]?=some b->(!b&&a)=false):bs=usB f t:=by
 cases f<;>cases t
 ·exact List.perm_nil.mp h
 ·exact List.perm_singleton.mp h
 ·exact List.perm_singleton.mp h
 ·have l:bs.length=2:=h.length_eq
  match bs,l with
  |[a,b],_=>
   have:=s 0 1 (by decide) a b rfl rfl
   cases a<;>cases b
   ·exact absurd (h.mem_iff (a:=true)) (by simp[usB])
   ·rfl
   ·cases this
   ·exact absurd (h.mem_iff (a:=false)) (by simp[usB])
section
variable{prog:Program}{w:World}{A:Around}{E:Value->Shared->Prop}{s:Shared}{a:Addr}{f t:Bool}
theorem zCg{Q:Value->Shared->Prop}(hh:A.handled=none)(S:SetBl w a f t s.heap)
  (h:∀h' d tk (l:Addr) (e:Nat),h'.get? l=some (seqObj "list" ((usB f t).map Value.bool).toArray e)->s.heap.objs.size<=l->(∀b o,s.heap.get? b=some o->h'.get? b=some o) ->
   Q (.ref l) {s with heap:=h',drawn:=d,toks:=tk}):wpAny (model prog w) A (call (.builtin "sorted") [.ref a]) Q E s:=by
 refine Calls.call_function_entry kind_sorted plain_sorted entry_sorted (args_sorted1 _) ?_
 unfold Builtin.«sorted»
 refine wpAny_bind (m:=checkCount "sorted" 1 1 _) (wpAny_pure ?_)
 obtain⟨ep,ho⟩:=S
 refine wpAny_bind (pM (by simp[hh]) ho (uJ _ _ _) (by rw[sX];have:=kU f t;show _<4096;omega) rfl (λ_=>zIi _ _ _) λh1 d tk acc pa le kp=>?_)
 obtain⟨bs,hs,hp⟩:=vL (us:=usB f t) (by simpa[esB,Function.comp_def]using pa)
 subst hs
 have hlen:(bs.map Value.bool).length<64:=by rw[List.length_map,hp.length_eq];have:=kU f t;omega
 refine wpAny_bind (wpAny_newList ?_ (Nat.le_of_lt (Nat.lt_trans hlen (by decide))))
 have hoL:(h1.push (seqObj "list" (bs.map Value.bool).toArray 0)).get? h1.objs.size=some (seqObj "list" (bs.map Value.bool).toArray 0):=Heap.get?_push_size _ rfl
 have hko:KeysOf sortB (pairsOf (bs.map Value.bool)):=by
  intro p hp
  rw[pairsOf_toList]at hp
  obtain⟨b,_,e⟩:=List.mem_map.mp (mem_zip_self hp).2
  exact⟨b,by rw[<-e]⟩
 refine wpAny_bind (wpAny_holding (wpAny_call_entry slot_list_sort ⟨_,hoL,rfl⟩ entry_list_sort (list_sort_treeK zB4 hoL hko (λv₁ v₂ rest e=>?_) hlen λst' a1 a2=>⟨_,rfl,?_⟩) (args_list_sort _)))
 ·match bs,e with
  |b::c::bs,e=>rw[<-e];exact zCa
 have hl:(arrOf st').toList.Perm ((bs.map Value.bool).zip (bs.map Value.bool)):=by rw[<-pairsOf_toList];exact Array.perm_iff_toList_perm.mp a1
 have hmem:∀p,p∈(arrOf st').toList->p.1=p.2/\p.1∈bs.map Value.bool:=λp hp'=>mem_zip_self (hl.mem_iff.mp hp')
 have pm:((arrOf st').map (·.2)).toList.Perm ((usB f t).map Value.bool):=by
  rw[Array.toList_map]
  have:=hl.map (·.2)
  rw[List.map_snd_zip (Nat.le_refl _)]at this
  exact this.trans (hp.map _)
 obtain⟨cs,e1,e2⟩:=vL pm
 have e3:cs=usB f t:=zEm e2 λi j hij x y hx hy=>by
  have kk:∀(i:Nat) (x:Bool),cs[i]?=some x->KK sortB (arrOf st') i=x/\i<(arrOf st').size:=λi x hx=>by
   have hv:((arrOf st').map (·.2)).toList[i]?=some (.bool x):=by rw[e1,List.getElem?_map,hx];rfl
   rw[Array.toList_map,List.getElem?_map]at hv
   obtain⟨p,hp1,hp2⟩:=Option.map_eq_some_iff.mp hv
   have hm:=hmem p (List.mem_of_getElem? hp1)
   rw[Array.getElem?_toList]at hp1
   refine⟨?_,(Array.getElem?_eq_some_iff.mp hp1).1⟩
   unfold KK
   rw[hp1]
   show(sortB.keyOf p.1).getD false=x
   rw[hm.1,hp2]
   rfl
  have hi:=kk i x hx
  have hj:=kk j y hy
  have:=a2 i j hij (by rw[<-a1.size_eq];exact hj.2)
  rw[hi.1,hj.1]at this
  exact this
 subst e3
 obtain⟨e,he⟩:=sortedHeap_at (out:=(arrOf st').map (·.2)) hoL
 refine wpAny_pure ⟨_,rfl,h _ _ _ _ e (by rw[<-e1,Array.toArray_toList];exact he) (Nat.le_of_lt le) λb o q=>?_⟩
 have lt:=Heap.lt_size (kp b o q)
 rw[sortedHeap_old (Nat.ne_of_lt lt) (by rw[Heap.size_push];exact Nat.lt_succ_of_lt lt)]
 exact Heap.get?_push_of_some _ (kp b o q)
end
end L2
namespace L2
open PySem PySem.Spec PyProof.Rows WordM
def oI(w:World)(a:Addr)(f t:Bool):HO:=.ext (SetBl w a f t)
section
variable{X:Cx}{F:Fm}
def zIm(w:World)(K:W.Frag):List V->Hp->VK->Prop:=λxs H Q=>∃(p:Addr) (bs:List Bool),xs=[.ref p]/\SqL K H p (bs.map V.bl)/\∀a:Addr,H a=none->Q (.ref a) (upd H a (oI w a (inF bs) (inT bs)))
theorem zHS{bs:List Bool}:∀{vs:List Value},Vals (bs.map V.bl) vs->vs=bs.map Value.bool:=by
 induction bs with
 |nil=>intro vs h;cases h;rfl
 |cons b bs ih=>
  intro vs h
  cases h with
  |cons r t=>
   rw[List.map_cons,<-ih t]
   have:_=Value.bool b:=r
   rw[this]
theorem zDL(hc:X.calm=true):CallR X (.type "set") (zIm X.w X.K):=by
 intro pins s σ H xs us Q I r h
 obtain⟨p,bs,rfl,hq,q⟩:=h
 obtain⟨u,rfl,rx⟩:=bZ r
 cases rx
 obtain⟨its,rv,pl,hz'⟩:=I.list hq
 refine zB1 (I.ok.hd hc) pl.isList (bs:=bs) (zHS rv) λh' tk S k=>?_
 refine⟨.ref s.heap.objs.size,_,I.laid (t':=tk) (o:=oI X.w s.heap.objs.size (inF bs) (inT bs)) (λb o e=>k b o (Heap.lt_size e) e) (Nat.le_refl _) ⟨S,?_,λh1 h2 z k'=>z.kept k'⟩,rfl,q _ I.fresh⟩
 obtain⟨ep,e⟩:=S
 exact⟨_,e⟩
def zFt(w:World):List V->Hp->VK->Prop:=λxs H Q=>∃(a:Addr) (f t:Bool),xs=[.ref a]/\H a=some (oI w a f t)/\∀l:Addr,H l=none->Q (.ref l) (upd H l (.lst ((usB f t).map V.bl)))
theorem vI:∀(bs:List Bool),Vals (bs.map V.bl) (bs.map Value.bool)
 |[]=>.nil
 |b::bs=>.cons rfl (vI bs)
theorem zBO(hc:X.calm=true):CallR X (.builtin "sorted") (zFt X.w):=by
 intro pins s σ H xs us Q I r h
 obtain⟨a,f,t,rfl,hq,q⟩:=h
 obtain⟨u,rfl,rx⟩:=bZ r
 cases rx
 have S:SetBl X.w a f t s.heap:=(I.hok a _ hq).1
 refine zCg (I.ok.hd hc) S λh' d tk l e hl le k=>?_
 refine⟨.ref l,_,(I.laid (t':=tk) (o:=.lst ((usB f t).map V.bl)) k le ⟨?_,_,e,vI _,hl⟩).draw d,rfl,q l (I.hok.fresh le)⟩
 rw[List.length_map]
 exact Nat.le_trans (kU f t) (by decide)
variable{pos:Pos}
def zCY(u:UT):UTl:=λρ Q=>u ρ λT ρ1=>∃bs:List Bool,T=.seq false (bs.map bT)/\Q ((usB (inF bs) (inT bs)).map bT) ρ1
theorem zB3{e:Expr}{u:UT}{p p' pos':Pos}(hc:X.calm=true)(hg:Gl X "sorted")(hm:X.mg "sorted"=none)(hg':Gl X "set")(hm':X.mg "set"=none)(he:UE X F e u)(hst:cQ e=false:=by rfl)
  (hpl:(backTo pos (starEach [] X.env)).any (·.1)=false:=by rfl) (hpl':(backTo pos' (starEach [] X.env)).any (·.1)=false:=by rfl):
  UL X F (.Call (.Name "sorted" p) [.Call (.Name "set" p') [e] [] pos'] [] pos) (zCY u):=⟨PE.imp (gZ (zBO hc) hg hm boot_sorted (cJ (iK (zDL hc) hg' hm' L2.boot_set (cJ he.pe cT hst) (by decide) (by decide) (gX hst) hpl') cT rfl) (by decide) (by decide) rfl hpl) λσ H QQ ⟨ρ,Q,f,h,k⟩=>by
 refine⟨ρ,_,f,h,λx T H1 ρ1 s1 v1 q1=>?_⟩
 obtain⟨bs,rfl,q⟩:=q1
 obtain⟨a,ys,rfl,hs,z,p⟩:=v1.seqI
 rw[yR p]at hs
 refine⟨a,bs,rfl,bU hs,λb nb=>⟨b,_,_,rfl,aT,λc nc=>?_⟩⟩
 have sm:=(cH (o:=oI X.w b (inF bs) (inT bs)) nb).trans (cH (o:=.lst ((usB (inF bs) (inT bs)).map V.bl)) nc)
 exact k _ _ _ _ _ (s1.trans (Stp.same s1.fr sm)) (s1.non ((cH nb).free nc)) aT (by rw[List.length_map];have:=kU (inF bs) (inT bs);omega) (zAh _) q⟩
end
end L2
namespace L2
open PySem PySem.Spec PyProof.Rows
section
variable{X:Cx}{F:Fm}
def zGU(P:Program)(w:World)(K:W.Frag):List V->Hp->VK->Prop:=λxs H Q=>∃(p:Addr) (ss:List Str),xs=[.ref p]/\SqL K H p (ss.map V.str)/\(bG ss).length<4000/\∀a:Addr,H a=none->Q (.ref a) (upd H a (oW P w a (bG ss)))
theorem zCJ(hc:X.calm=true):CallR X (.type "set") (zGU X.prog X.w X.K):=by
 intro pins s σ H xs us Q I r h
 obtain⟨p,ss,rfl,hq,hz,q⟩:=h
 obtain⟨u,rfl,rx⟩:=bZ r
 cases rx
 obtain⟨its,rv,pl,hz'⟩:=I.list hq
 have hi:StrsAre its.toArray.toList ss:=kY rv
 refine zB2 (I.ok.hd hc) pl.isList hi (by show(bG ss).length+1<4096;omega) λh' tk S k=>?_
 refine⟨.ref s.heap.objs.size,_,I.laid (t':=tk) (o:=oW X.prog X.w s.heap.objs.size (bG ss)) (λb o e=>k b o (Heap.lt_size e) e) (Nat.le_refl _) ⟨S,?_,λh1 h2 z k'=>z.kept k'⟩,rfl,q _ I.fresh⟩
 obtain⟨es,ep,t,e,_⟩:=S
 exact⟨_,e⟩
variable{pos:Pos}
def zCZ(u:UT):UTl:=λρ Q=>u ρ λT ρ1=>∃ss:List Str,T=.seq false (ss.map sT)/\(bG ss).length<64/\Q ((cG (bG ss)).map sT) ρ1
theorem vB{e:Expr}{u:UT}{p p' pos':Pos}(hc:X.calm=true)(hg:Gl X "sorted")(hm:X.mg "sorted"=none)(hg':Gl X "set")(hm':X.mg "set"=none)(he:UE X F e u)(hst:cQ e=false:=by rfl)
  (hpl:(backTo pos (starEach [] X.env)).any (·.1)=false:=by rfl) (hpl':(backTo pos' (starEach [] X.env)).any (·.1)=false:=by rfl):
  UL X F (.Call (.Name "sorted" p) [.Call (.Name "set" p') [e] [] pos'] [] pos) (zCZ u):=⟨PE.imp (gZ (zBY hc) hg hm boot_sorted (cJ (iK (zCJ hc) hg' hm' L2.boot_set (cJ he.pe cT hst) (by decide) (by decide) (gX hst) hpl') cT rfl) (by decide) (by decide) rfl hpl) λσ H QQ ⟨ρ,Q,f,h,k⟩=>by
 refine⟨ρ,_,f,h,λx T H1 ρ1 s1 v1 q1=>?_⟩
 obtain⟨ss,rfl,l2,q⟩:=q1
 obtain⟨a,ys,rfl,hs,z,p⟩:=v1.seqI
 rw[jM p]at hs
 refine⟨a,ss,rfl,bU hs,by omega,λb nb=>⟨b,bG ss,rfl,aT,l2,λms c h1 h2 nc=>?_⟩⟩
 have sm:=(cH (o:=oW X.prog X.w b (bG ss)) nb).trans (cH (o:=.lst (ms.map V.str)) nc)
 refine k _ _ _ _ _ (s1.trans (Stp.same s1.fr sm)) (s1.non ((cH nb).free nc)) aT (by rw[List.length_map,h1.length_eq];omega) (nI ms) ?_
 rw[nC h1 h2]
 exact q⟩
abbrev zIz:P2:=pI2 (λ_ j=>j≠0) λi j=>.int (i.fmod j)
theorem zFx:eX X (binaryOp .Mod) zIz:=(oJ zFN λ_ _=>rfl).op
end
end L2
namespace L2
open PySem PySem.Spec WordM
theorem zFR(z:String):cs (Str.ofString z)=z.toList.map Char.toNat:=by
 rw[Str.ofString_eq_toList]
theorem zDz(i:Int)(h:i.natAbs<10 ^ 100):(∀c∈(toString i).toList,c.isDigit=true\/c='-')/\(toString i).toList.length<=101:=by
 cases i with
 |ofNat m=>
  show(∀c∈m.repr.toList,_)/\m.repr.toList.length<=101
  rw[Nat.toList_repr]
  refine⟨λc hc=>.inl (Nat.isDigit_of_mem_toDigits (by decide) (by decide) hc),?_⟩
  have:=(Nat.length_toDigits_le_iff (b:=10) (n:=m) (k:=100) (by decide) (by decide)).mpr h
  omega
 |negSucc m=>
  show(∀c∈("-"++m.succ.repr).toList,_)/\("-"++m.succ.repr).toList.length<=101
  rw[String.toList_append,Nat.toList_repr]
  refine⟨λc hc=>?_,?_⟩
  ·rcases List.mem_append.mp hc with z|z
   ·exact .inr (by simpa using z)
   ·exact .inl (Nat.isDigit_of_mem_toDigits (by decide) (by decide) z)
  ·have:=(Nat.length_toDigits_le_iff (b:=10) (n:=m.succ) (k:=100) (by decide) (by decide)).mpr h
   rw[List.length_append]
   have e:("-":String).toList.length=1:=by decide
   omega
end L2
namespace GcdM
def g(a b:Int):Int:=((Int.gcd a b:Nat):Int)
theorem g_nonneg(a b:Int):0<=g a b:=Int.natCast_nonneg _
theorem g_dvd{d a b:Int}:d ∣ g a b↔d ∣ a/\d ∣ b:=by
 unfold g
 constructor
 ·intro h
  exact⟨Int.dvd_trans h (Int.gcd_dvd_left ..),Int.dvd_trans h (Int.gcd_dvd_right ..)⟩
 ·rintro⟨h1,h2⟩
  exact Int.dvd_coe_gcd h1 h2
theorem wX{a b:Int}(ha:0<=a)(hb:0<=b)(h:∀d:Int,d ∣ a↔d ∣ b):a=b:=by
 have h1:a ∣ b:=(h a).mp (Int.dvd_refl _)
 have h2:b ∣ a:=(h b).mpr (Int.dvd_refl _)
 exact Int.dvd_antisymm ha hb h1 h2
def stepOf(lo:Int)(ns:List Int):Int:=ns.foldl (λs n=>g (n-lo) s) 0
theorem xN{lo d:Int}:∀{ns:List Int}{s:Int},d ∣ ns.foldl (λs n=>g (n-lo) s) s↔d ∣ s/\∀n∈ns,d ∣ (n-lo)
 |[],s=>by simp
 |n::r,s=>by
  rw[List.foldl_cons,xN,g_dvd]
  constructor
  ·rintro⟨⟨h1,h2⟩,h3⟩
   refine⟨h2,λm hm=>?_⟩
   rcases List.mem_cons.mp hm with e|e
   ·rw[e];exact h1
   ·exact h3 m e
  ·rintro⟨h1,h2⟩
   exact⟨⟨h2 n List.mem_cons_self,h1⟩,λm hm=>h2 m (List.mem_cons_of_mem _ hm)⟩
theorem vC{lo:Int}:∀{ns:List Int}{s:Int},0<=s->0<=ns.foldl (λs n=>g (n-lo) s) s
 |[],s,h=>h
 |n::r,s,_=>vC (ns:=r) (g_nonneg _ _)
theorem g_abs(a:Int):g a 0=if a<0 then -a else a:=by
 unfold g
 rw[Int.gcd_zero_right]
 split<;>omega
theorem g_turnF{a b:Int}(hb:b≠0):g b (a.fmod b)=g a b:=by
 refine wX (g_nonneg _ _) (g_nonneg _ _) λd=>?_
 rw[g_dvd,g_dvd]
 have e:=Int.mul_fdiv_add_fmod a b
 constructor
 ·rintro⟨h1,h2⟩
  refine⟨?_,h1⟩
  have:=Int.dvd_add (Int.dvd_trans h1 (Int.dvd_mul_right b (a.fdiv b))) h2
  rw[e]at this
  exact this
 ·rintro⟨h1,h2⟩
  refine⟨h2,?_⟩
  have:=Int.dvd_sub h1 (Int.dvd_trans h2 (Int.dvd_mul_right b (a.fdiv b)))
  rw[show a-b*(a.fdiv b)=a.fmod b by omega]at this
  exact this
theorem fmod_less{a b:Int}(hb:b≠0):(a.fmod b).natAbs<b.natAbs:=by
 rcases Int.lt_or_gt_of_ne hb with h|h
 ·have e:a.fmod b = -((-a).fmod (-b)):=by rw[Int.neg_fmod_neg];omega
  have h1:=Int.fmod_nonneg_of_pos (-a) (show 0 < -b by omega)
  have h2:=Int.fmod_lt_of_pos (-a) (show 0 < -b by omega)
  omega
 ·have h1:=Int.fmod_nonneg_of_pos a h
  have h2:=Int.fmod_lt_of_pos a h
  omega
abbrev R3:=Int×Int×Int
end GcdM
namespace L2
open PySem PySem.Spec PyProof.Rows WordM
theorem stW_iff{x y:Str}:stW x y=true↔∃r,cs x=cs y++r:=by
 unfold stW
 rw[StrLaws.subAt_eq,Bool.and_eq_true,decide_eq_true_iff,List.drop_zero,beq_iff_eq,WordM.len,WordM.len]
 constructor
 ·rintro⟨h1,h2⟩
  have h2:(cs x).take (cs y).length=cs y:=h2
  exact⟨(cs x).drop (cs y).length,(List.take_append_drop (cs y).length (cs x)).symm.trans (by rw[h2])⟩
 ·rintro⟨r,e⟩
  show _/\(cs x).take _=_
  rw[e]
  exact⟨by rw[List.length_append];omega,by rw[List.take_left'];rfl⟩
theorem lB{x y:Str}{r:List Nat}(e:cs x=cs y++r):cs (bE x y)=r:=by
 have hl:x.length=(cs y).length+r.length:=by rw[WordM.len,e,List.length_append]
 unfold bE
 rw[PyProof.Rows.slice_from_eq (b:=(x.length:Int)) (by omega) (by rw[hl,WordM.len];omega) rfl]
 show((cs x).drop _).take _=r
 rw[hl,WordM.len y,e,show(((cs y).length:Nat):Int).toNat=(cs y).length by omega,List.drop_left,List.take_of_length_le]
 omega
theorem vJ{x:Str}(h:0<x.length):cs (Txt.slice x none (some (-1)))=(cs x).take (x.length-1):=by
 have e:=beq_iff_eq.mp (PyProof.Rows.slice_closes_to_neg (x:=x) (j:=-1) (k:=-1+x.length) (by decide) (by omega) rfl)
 rw[e]
 show((cs x).drop 0).take _=_
 rw[List.drop_zero]
 congr 1
 omega
theorem zBE{x:Str}(h:0<x.length):(Txt.slice x none (some (-1))).length=x.length-1:=by
 rw[WordM.len,vJ h,List.length_take,<-WordM.len];omega
theorem zIH{a b:Str}(h:cs a<cs b):a≠b:=λe=>by rw[e]at h;exact List.lt_irrefl _ h
theorem nE:∀{ys xs:List Str},dY xs->dY ys->(∀x∈xs,x∈ys)->xs.Sublist ys
 |[],xs,_,_,h=>by
  cases xs with
  |nil=>exact .slnil
  |cons x xs=>exact absurd (h x (.head _)) (by simp)
 |y::ys,[],_,_,_=>List.nil_sublist _
 |y::ys,x::xs,hx,hy,h=>by
  have hx':=List.pairwise_cons.mp hx
  have hy':=List.pairwise_cons.mp hy
  by_cases e:x=y
  ·subst e
   refine List.Sublist.cons_cons x (nE hx'.2 hy'.2 λz hz=>?_)
   rcases List.mem_cons.mp (h z (.tail _ hz)) with q|q
   ·exact absurd q.symm (zIH (hx'.1 z hz))
   ·exact q
  ·have hxy:x∈ys:=(List.mem_cons.mp (h x (.head _))).resolve_left e
   have yx:cs y<cs x:=hy'.1 x hxy
   refine List.Sublist.cons y (nE hx hy'.2 λz hz=>?_)
   rcases List.mem_cons.mp (h z hz) with q|q
   ·subst q
    rcases List.mem_cons.mp hz with q|q
    ·exact absurd q.symm e
    ·exact absurd (List.lt_trans yx (hx'.1 z q)) (List.lt_irrefl _)
   ·exact q
theorem zO:dY MK:=by unfold dY;decide +kernel
theorem pL{ss:List Str}{x:Str}:x∈cG (bG ss)↔x∈ss:=(jF _).mem_iff.trans (kZ ss x)
theorem pJ(ss:List Str):dY (cG (bG ss)):=wD (rG ss)
end L2
namespace L2
open PySem PySem.Spec PyProof.Rows WordM
section
variable{X:Cx}{F:Fm}{pos p:Pos}{e a b elt iter:Expr}{es ifs:List Expr}{x:Str}{u ua ub ue:UT}{ut:UTa}{ui:UTl}{tf:UTt}{sc scope:Scope}{XN N:List Str}{fr:List Nat}
theorem aL{k m:Nat}{ps:List Str}{psp:PSp}(G:aE X.prog X.w X.K X.mg X.base k x ps psp)(hr:Room m X.A)(ha:UA X F (e::es) ut)(hm:k<=m:=by omega)(hg:Gl X x:=by exact rfl)(hdb:(x==("__debug__":Str))=false:=by decide)
  (hst:cQ e=false:=by rfl) (hpl:(backTo pos (starEach es X.env)).any (·.1)=false:=by rfl):UE X F (.Call (.Name x p) (e::es) [] pos) (kE psp ut):=zH2 G (hr.mono hm) hg ha hdb hst hpl
theorem bA(i:Nat){pos':Pos}(hN:X.N.Nodup)(he:UE X F e u)(hi:X.N[i]?=some x:=by rfl)(hx:Loc X.env.scope x:=by first|exact Or.inl rfl|exact Or.inr rfl)(hs:swapsWith e (some (.Name x pos')) pos.line X.env=pure false:=by rfl)(hf:X.fn x=true\/X.env.scope.names.lookup x=some .local:=by first|exact .inl rfl|exact .inr rfl|assumption):
  US X F (.Assign [.Name x pos'] e pos) (oX i u):=zGp hN hi hx he hs hf
theorem iZ(i:Nat){ul:UTl}{pos':Pos}(hN:X.N.Nodup)(he:UL X F e ul)(hi:X.N[i]?=some x:=by rfl)(hx:Loc X.env.scope x:=by first|exact Or.inl rfl|exact Or.inr rfl)(hs:swapsWith e (some (.Name x pos')) pos.line X.env=pure false:=by rfl)(hf:X.fn x=true\/X.env.scope.names.lookup x=some .local:=by first|exact .inl rfl|exact .inr rfl|assumption):
  US X F (.Assign [.Name x pos'] e pos) (oY i ul):=zGr hN hi hx he hs hf
theorem eE{op:CmpOp}{r:P2}(ho:PuCmp X (compareOp op) r)(ha:UE X F a ua)(hb:UE X F b ub)(hm:behindInMarks op b=false:=by exact kB _):UB X F (.Compare a [op] [b] pos) (uB (uOp r ua ub)):=sG ho ha hb hm
theorem cM{op:CmpOp}{r:P2}(ho:eX X (compareOp op) r)(ha:UE X F a ua)(hb:UE X F b ub)(hm:behindInMarks op b=false:=by exact kB _):UE X F (.Compare a [op] [b] pos) (uOp r ua ub):=zGu ho ha hb hm
structure Cq (X:Cx) (sc scope:Scope) (XN N:List Str) (fr:List Nat) (x:Str) (iter:Expr):Prop where
 hc:X.calm=true:=by rfl
 k1:scope.kind=.function:=by rfl
 k2:∀y∈scope.names,y.2≠.cell:=by decide +kernel
 k3:∀y∈scope.names,y.2=.free->sc.names.lookup y.1=some .cell\/sc.names.lookup y.1=some .free:=by decide +kernel
 k4:∀y∈scope.names,y.2=.local->scope.names.lookup y.1=some .local:=by decide +kernel
 k5:N.drop 1=fr.filterMap λi=>XN[i]?:=by rfl
 k6:∀i∈fr,i<XN.length:=by decide +kernel
 k7:1<=N.length:=by decide
 k8:∀x∈N.drop 1,scope.names.lookup x=some .free:=by decide +kernel
 nd:fr.Nodup:=by decide
 nN:N.Nodup:=by decide +kernel
 h0:N[0]?=some x:=by rfl
 hl:∀cl C fp s H,Loc (bM X N scope cl C fp s H).env.scope x:=by intros;first|exact Or.inl rfl|exact Or.inr rfl
 hfn:∀cl C fp s H,(bM X N scope cl C fp s H).fn x=true\/(bM X N scope cl C fp s H).env.scope.names.lookup x=some .local:=by intros;first|exact .inl rfl|exact .inr rfl
 hs:∀x,foldedSetIterable iter X.env x=pure x:=by intro _;rfl
 hsc:X.env.scope=sc:=by rfl
 hxn:X.N=XN:=by rfl
section
variable{z:Str}{pos' spos:Pos}(i:Nat)(hN:X.N.Nodup)(hi:UI X F (.Name x p) iter ui)(hf:∀cl C fp s H,UF (bM X N scope cl C fp s H) F ifs tf)(he:∀cl C fp s H,UE (bM X N scope cl C fp s H) F elt ue)
include hi hf he
theorem kD(c:Cq X sc scope XN N fr x iter:=by exact {}):UL X F (.ListComp elt [⟨.Name x p,iter,ifs,0⟩] scope pos) (iA 1 fr ui (gN 0) tf ue):=
 rC c.hc ⟨c.k1,c.k2,c.k3,c.k4,c.k5,c.k6,c.k7,c.k8⟩ c.nd hi (λcl C fp s H=>dH 0 (by decide) c.nN c.h0 (c.hl cl C fp s H) (c.hfn cl C fp s H)) hf he c.hs c.hsc c.hxn
include hN
theorem fU(c:Cq X sc scope XN N fr x iter:=by exact {})(hz:X.N[i]?=some z:=by rfl)(hzl:Loc X.env.scope z:=by first|exact Or.inl rfl|exact Or.inr rfl)
  (hsw:swapsWith (.ListComp elt [⟨.Name x p,iter,ifs,0⟩] scope pos) (some (.Name z pos')) spos.line X.env=pure true:=by rfl)
  (hf':X.fn z=true\/X.env.scope.names.lookup z=some .local:=by first|exact .inl rfl|exact .inr rfl|assumption):US X F (.Assign [.Name z pos'] (.ListComp elt [⟨.Name x p,iter,ifs,0⟩] scope pos) spos) (oX i (uL (iA 1 fr ui (gN 0) tf ue))):=
 zE7 c.hc hN hz hzl ⟨c.k1,c.k2,c.k3,c.k4,c.k5,c.k6,c.k7,c.k8⟩ c.nd hi (λcl C fp s H=>dH 0 (by decide) c.nN c.h0 (c.hl cl C fp s H) (c.hfn cl C fp s H)) hf he hsw hf' c.hs c.hsc c.hxn
end
theorem eD(hi:UI X F (.Name x p) iter ui)(he:∀cl C fp s H,UE (bM X N scope cl C fp s H) F elt ue)(c:Cq X sc scope XN N fr x iter:=by exact {}):UL X F (.ListComp elt [⟨.Name x p,iter,[],0⟩] scope pos) (iA 1 fr ui (gN 0) oT ue):=kD hi (λ_ _ _ _ _=>gA) he c
theorem aN{m:Nat}(hr:Room m X.A)(ha:UE X F a ua)(hb:UE X F b ub)(hs:nV b:=by intro _ _;rfl):UE X F (.Subscript a b pos) (uOp pIx ua ub):=zH1 (zIx hr.units) ha hb hs
theorem cA{m:Nat}(hr:Room m X.A)(ha:UE X F a ua)(hb:UE X F b ub):UB X F (.Compare a [.Eq] [b] pos) (uB (uOp pEq ua ub)):=sG (eQ hr.units) ha hb (kB _)
theorem dO{m:Nat}(hr:Room m X.A)(ha:UE X F a ua)(hb:UE X F b ub):UB X F (.Compare a [.NotEq] [b] pos) (uB (uOp pNe ua ub)):=sG (zIw hr.units) ha hb (kB _)
end
end L2
namespace L2
open PySem PySem.Spec PyProof.Rows WordM
section
variable{X:Cx}{F:Fm}{x:Str}{p apos cpos:Pos}
inductive TupT:Tv->Prop
 |leaf (v:V):TupT (.leaf v)
 |seq {xs:List Tv}:(∀x∈xs,TupT x)->TupT (.seq true xs)
theorem pU{α β:Type}{R S:α->β->Prop}:∀{l:List α}{m:List β},Paired R l m->(∀a b,b∈m->R a b->S a b)->Paired S l m
 |_,_,.nil,_=>.nil
 |_,_,.cons r t,h=>.cons (h _ _ (.head _) r) (pU t λa b hb=>h a b (.tail _ hb))
theorem TupT.thaw{K:W.Frag}{H H3 H4:Hp}(th:Thaw H H3 H4){T:Tv}(h:TupT T):∀{x:V},VA K H3 x T->VA K H4 x T:=by
 induction h with
 |leaf v=>
  intro x va
  obtain⟨rfl,fl⟩:=va.leafI
  exact .flat fl
 |seq hx ih=>
  intro x va
  obtain⟨a,xs,rfl,sq,z,p⟩:=va.seqI
  refine VA.seq (t:=true) ?_ z (pU p λy T hT v=>ih T hT v)
  rcases sq with sq|sq
  ·refine .inl ?_
   rcases sq with e|⟨ob,e⟩<;>rcases th a with⟨o',ob',n,_,z,z'⟩|⟨_,z⟩
   ·rw[e]at z;cases z
   ·exact .inl (by rw[z];exact e)
   ·rw[e]at z;cases z
    exact .inl z'
   ·exact .inr ⟨ob,by rw[z];exact e⟩
  ·exact .inr sq
def rNo:UTr:=λ_ _=>False
theorem zHY{rest:List Stmt}:URs X F rest rNo:=⟨λ_ _ _ _ _ _ ⟨_,_,_,z,_⟩=>False.elim z⟩
end
end L2
namespace L2
open PySem PySem.Spec PyProof.Rows WordM
section
variable{P:Program}{w:World}{K:W.Frag}{mg:Str->Option Value}{base:Heap}{x:Str}{st:Stmt}{k:Nat}{psp:PSp}{us:UTs}
theorem Has.pg1(N:List Str){a:Str}(h:Has K mg x st)
  (hbody:∀{f:Addr} {cdv:Value} {A:Around} {outer:List Env} {s:Shared} {H:Hp} {E:XK} {F:Fm},N.Nodup->Room k (A.deeper (envOfC x (aI st) s.heap.objs.size f cdv))->USs (eK CX0 P w K mg base N x (aI st) f cdv A outer s H E).nox F (cF st) us)
  (hp:∀as R,psp as R->as.length=[a].length/\us {nx:=λ_=>R nT,rt:=R} (eP N.length as))
  (S:bN N [a] (aI st):=by exact fsc (by decide +kernel))
  (hb:∀(kV doc pm:Value) (an:Option Addr) (cdv ct v0:Value),bindArgs (W.fnOf x x (dI st) (cF st) (aI st) .none kV doc pm an cdv ct) ⟨[v0],[]⟩=pure ([a].zip [v0]):=by exact λ_ _ _ _ _ _ _=>rfl):aE P w K mg base (k+1) x [a] psp:=
 h.pgood S (λkV doc pm an cdv ct us hl=>match us,hl with|[v0],_=>hb kV doc pm an cdv ct v0) (λf cdv A outer s H E F hr=>hbody S.nd hr) hp
theorem Has.pg2(N:List Str){a b:Str}(h:Has K mg x st)
  (hbody:∀{f:Addr} {cdv:Value} {A:Around} {outer:List Env} {s:Shared} {H:Hp} {E:XK} {F:Fm},N.Nodup->Room k (A.deeper (envOfC x (aI st) s.heap.objs.size f cdv))->USs (eK CX0 P w K mg base N x (aI st) f cdv A outer s H E).nox F (cF st) us)
  (hp:∀as R,psp as R->as.length=[a,b].length/\us {nx:=λ_=>R nT,rt:=R} (eP N.length as))
  (S:bN N [a,b] (aI st):=by exact fsc (by decide +kernel))
  (hb:∀(kV doc pm:Value) (an:Option Addr) (cdv ct v0 v1:Value),bindArgs (W.fnOf x x (dI st) (cF st) (aI st) .none kV doc pm an cdv ct) ⟨[v0,v1],[]⟩=pure ([a,b].zip [v0,v1]):=by exact λ_ _ _ _ _ _ _ _=>rfl):aE P w K mg base (k+1) x [a,b] psp:=
 h.pgood S (λkV doc pm an cdv ct us hl=>match us,hl with|[v0,v1],_=>hb kV doc pm an cdv ct v0 v1) (λf cdv A outer s H E F hr=>hbody S.nd hr) hp
theorem Has.pg3(N:List Str){a b c:Str}(h:Has K mg x st)
  (hbody:∀{f:Addr} {cdv:Value} {A:Around} {outer:List Env} {s:Shared} {H:Hp} {E:XK} {F:Fm},N.Nodup->Room k (A.deeper (envOfC x (aI st) s.heap.objs.size f cdv))->USs (eK CX0 P w K mg base N x (aI st) f cdv A outer s H E).nox F (cF st) us)
  (hp:∀as R,psp as R->as.length=[a,b,c].length/\us {nx:=λ_=>R nT,rt:=R} (eP N.length as))
  (S:bN N [a,b,c] (aI st):=by exact fsc (by decide +kernel))
  (hb:∀(kV doc pm:Value) (an:Option Addr) (cdv ct v0 v1 v2:Value),bindArgs (W.fnOf x x (dI st) (cF st) (aI st) .none kV doc pm an cdv ct) ⟨[v0,v1,v2],[]⟩=pure ([a,b,c].zip [v0,v1,v2]):=by exact λ_ _ _ _ _ _ _ _ _=>rfl):aE P w K mg base (k+1) x [a,b,c] psp:=
 h.pgood S (λkV doc pm an cdv ct us hl=>match us,hl with|[v0,v1,v2],_=>hb kV doc pm an cdv ct v0 v1 v2) (λf cdv A outer s H E F hr=>hbody S.nd hr) hp
theorem Has.pg5(N:List Str){a b c d e:Str}(h:Has K mg x st)
  (hbody:∀{f:Addr} {cdv:Value} {A:Around} {outer:List Env} {s:Shared} {H:Hp} {E:XK} {F:Fm},N.Nodup->Room k (A.deeper (envOfC x (aI st) s.heap.objs.size f cdv))->USs (eK CX0 P w K mg base N x (aI st) f cdv A outer s H E).nox F (cF st) us)
  (hp:∀as R,psp as R->as.length=[a,b,c,d,e].length/\us {nx:=λ_=>R nT,rt:=R} (eP N.length as))
  (S:bN N [a,b,c,d,e] (aI st):=by exact fsc (by decide +kernel))
  (hb:∀(kV doc pm:Value) (an:Option Addr) (cdv ct v0 v1 v2 v3 v4:Value),bindArgs (W.fnOf x x (dI st) (cF st) (aI st) .none kV doc pm an cdv ct) ⟨[v0,v1,v2,v3,v4],[]⟩=pure ([a,b,c,d,e].zip [v0,v1,v2,v3,v4]):=by exact λ_ _ _ _ _ _ _ _ _ _ _=>rfl):aE P w K mg base (k+1) x [a,b,c,d,e] psp:=
 h.pgood S (λkV doc pm an cdv ct us hl=>match us,hl with|[v0,v1,v2,v3,v4],_=>hb kV doc pm an cdv ct v0 v1 v2 v3 v4) (λf cdv A outer s H E F hr=>hbody S.nd hr) hp
end
end L2
namespace L2
open PySem PySem.Spec PyProof.Rows WordM
def rT:Nat->Tv->Str
 |0,_=>""
 |_+1,.leaf .non=>"None"
 |_+1,.leaf (.bl b)=>if b=true then "True" else "False"
 |_+1,.leaf (.int i)=>toString i
 |_+1,.leaf (.str x)=>reprText x
 |n+1,.seq true xs=>tupleText (xs.map (rT n))
 |_+1,_=>""
def RpD:Nat->Tv->Prop
 |0,_=>False
 |_+1,.leaf .non=>True
 |_+1,.leaf (.bl _)=>True
 |_+1,.leaf (.int i)=>i.natAbs.log2<1920
 |_+1,.leaf (.str x)=>(reprText x).length<=100000
 |n+1,.seq true xs=>(tupleText (xs.map (rT n))).length<=100000/\∀x∈xs,RpD n x
 |_+1,_=>False
theorem EqD.up:∀{n m:Nat}{T:Tv},n<=m->EqD n T->EqD m T
 |0,_,_,_,h=>False.elim h
 |_+1,0,_,l,_=>absurd l (by omega)
 |n+1,m+1,.leaf _,_,_=>trivial
 |n+1,m+1,.seq _ xs,l,h=>λU hU=>EqD.up (by omega) (h U hU)
 |n+1,m+1,.dct _,_,h=>False.elim h
theorem RpD.eqd:∀{n:Nat}{T:Tv},RpD n T->EqD n T
 |0,_,h=>h
 |n+1,.leaf _,_=>trivial
 |n+1,.seq true xs,h=>λU hU=>RpD.eqd (h.2 U hU)
 |n+1,.seq false xs,h=>False.elim h
 |n+1,.dct _,h=>False.elim h
section
variable{X:Cx}
def RpT(X:Cx)(H:Hp)(s:Shared)(n:Nat):Prop:=∀{T:Tv}{x:V}{u:Value},RpD n T->VA X.K H x T->RelV x u ->
  ∃as:List Addr,(∀b∈as,∃T' m,VA X.K H (.ref b) T'/\EqD m T'/\sizeOf T'<=sizeOf T)/\ReprK X.prog X.w as s.heap n u (rT n T)
theorem xR{pins:List (Addr×Obj)}{σ:St}{H:Hp}{s:Shared}(I:Inv X pins σ H s){n:Nat}(ih:RpT X H s n){Ts:List Tv}{a:Addr}{xs:List V}{its:List Value}(h:RpD (n+1) (.seq true Ts))(vx:VA X.K H (.ref a) (.seq true Ts))(p:VAs X.K H xs Ts)(rv:Vals xs its):
  ∃as:List Addr,a∉as/\(∀b∈as,∃T' m,VA X.K H (.ref b) T'/\EqD m T'/\sizeOf T'<sizeOf (Tv.seq true Ts))/\ReprAllK X.prog X.w as s.heap n its (Ts.map (rT n)):=by
 have all:∀(Ts':List Tv) (xs:List V) (us:List Value),(∀T∈Ts',T∈Ts)->VAs X.K H xs Ts'->Vals xs us->∃as:List Addr,(∀b∈as,∃T' m,VA X.K H (.ref b) T'/\EqD m T'/\sizeOf T'<sizeOf (Tv.seq true Ts))/\∀as',(∀b∈as,b∈as')->ReprAllK X.prog X.w as' s.heap n us (Ts'.map (rT n)):=by
  intro Ts'
  induction Ts' with
  |nil=>
   intro xs us _ p rv
   cases p
   cases rv
   exact⟨[],(λb hb=>nomatch hb),λ_ _=>.nil⟩
  |cons T Ts' ih2=>
   intro xs us sub p rv
   cases p with
   |cons p1 p2=>
    cases rv with
    |cons r1 r2=>
     have hT:=sub T (.head _)
     obtain⟨as1,h1,k1⟩:=ih (h.2 T hT) p1 r1
     obtain⟨as2,h2,k2⟩:=ih2 _ _ (λU hU=>sub U (.tail _ hU)) p2 r2
     refine⟨as1++as2,λb hb=>?_,λas' hs=>.cons (k1.more λb hb=>hs b (List.mem_append_left _ hb)) (k2 as' λb hb=>hs b (List.mem_append_right _ hb))⟩
     rcases List.mem_append.mp hb with z|z
     ·obtain⟨T',m,v,e,l⟩:=h1 b z
      have:=List.sizeOf_lt_of_mem hT
      exact⟨T',m,v,e,by rw[Tv.seq.sizeOf_spec];omega⟩
     ·exact h2 b z
 obtain⟨as,h1,k1⟩:=all Ts xs its (λ_ z=>z) p rv
 refine⟨as,λz=>?_,h1,k1 as λ_ z=>z⟩
 obtain⟨T',m,v,e,l⟩:=h1 a z
 obtain⟨d1,v1⟩:=v
 obtain⟨d2,v2⟩:=vx
 have e1:EqD (max m (n+1)) T':=e.up (Nat.le_max_left _ _)
 have e2:EqD (max m (n+1)) (.seq true Ts):=(RpD.eqd h).up (Nat.le_max_right _ _)
 have:=nW I e1 e2 (e1.vp v1) (e2.vp v2)
 rw[this]at l
 omega
theorem wF{pins:List (Addr×Obj)}{σ:St}{H:Hp}{s:Shared}(I:Inv X pins σ H s):∀n:Nat,RpT X H s n
 |0,_,_,_,h,_,_=>False.elim h
 |n+1,.leaf v,x,u,h,vx,r=>by
  obtain⟨rfl,_⟩:=vx.leafI
  cases x with
  |non=>cases r;exact⟨[],(λb hb=>nomatch hb),.of_is ReprIs.none [] _ _⟩
  |bl b=>cases r;exact⟨[],(λb hb=>nomatch hb),.of_is (ReprIs.bool b) [] _ _⟩
  |int i=>obtain⟨t,rfl⟩:=r;exact⟨[],(λb hb=>nomatch hb),.of_is (ReprIs.int t h) [] _ _⟩
  |str y=>obtain⟨t,rfl⟩:=r;exact⟨[],(λb hb=>nomatch hb),.of_is (ReprIs.str y t (Nat.le_trans h (by decide))) [] _ _⟩
  |_=>exact False.elim h
 |n+1,.seq true Ts,x,u,h,vx,r=>by
  obtain⟨a,xs,rfl,hq,_,p⟩:=vx.seqI
  cases r
  obtain⟨its,rv,ht,_⟩:=I.tuple hq
  obtain⟨o,ho,hc,k,hd⟩:=ht
  obtain⟨as,na,h1,k1⟩:=xR I (wF I n) h vx p rv
  refine⟨a::as,λb hb=>?_,ReprK.tuple ho hc hd na (by simpa using k1)⟩
  rcases List.mem_cons.mp hb with rfl|hb
  ·exact⟨.seq true Ts,n+1,vx,RpD.eqd h,Nat.le_refl _⟩
  ·obtain⟨T',m,v,e,l⟩:=h1 b hb
   exact⟨T',m,v,e,Nat.le_of_lt l⟩
 |n+1,.seq false Ts,_,_,h,_,_=>False.elim h
 |n+1,.dct _,_,_,h,_,_=>False.elim h
def zGW(K:W.Frag):List V->Hp->VK->Prop:=λxs H Q=>∃(x:V) (n:Nat) (Ts:List Tv),xs=[x]/\n<=30/\RpD (n+1) (.seq true Ts)/\VA K H x (.seq true Ts)/\Q (.str (rT (n+1) (.seq true Ts))) H
theorem zCL(hg:X.A.guards=some [])(hu:X.A.units+64<cLine):CallR X (.builtin "repr") (zGW X.K):=by
 intro pins s σ H xs us Q I r h
 obtain⟨x,n,Ts,rfl,ln,hR,vx,q⟩:=h
 obtain⟨u,rfl,rx⟩:=bZ r
 obtain⟨a,xs,rfl,hq,_,p⟩:=vx.seqI
 cases rx
 obtain⟨its,rv,ht,_⟩:=I.tuple hq
 obtain⟨o,ho,hc,k,hd⟩:=id ht
 have hT:s.TypeIs (.ref a) "tuple":=⟨o,ho,hc⟩
 obtain⟨as,na,h1,k1⟩:=xR I (wF I n) hR vx p rv
 refine Calls.call_function_entry F.kind_repr F.plain_repr F.entry_repr (F.args_repr1 _) ?_
 unfold Builtin.«repr»
 have u1:X.A.in1.units=X.A.units+1:=rfl
 refine wpAny_bind (m:=oneArg "repr" _) (wpAny_pure (wpAny_bind (wpAny_cRoomFor (by rw[u1];omega) ?_)))
 refine wpAny_bind (wpAny_specialOf (name:=Str.ofString "__repr__") hT F.slot_tuple_repr.lookup ?_)
 refine wpAny_bind (m:=callSpecialIfBound? _ (Str.ofString "__repr__")) (wpAny_callSpecialIfBound?_slotG (name:=Str.ofString "__repr__") hT F.slot_tuple_repr (call_tuple_reprK ho hc hd na (by simpa using k1) (A:=X.A.in1) (g:=[]) hg (λb _=>Clear.nil b) (by rw[u1];omega) (λ_ _ e=>e) (λh' u tk k=>?_) (Nat.le_trans hR.1 (by decide))))
 exact wpAny_bind (wpAny_isInstance (T:="str") (b:=true) rfl isSubtype_str_str (wpAny_pure ⟨_,rfl,.str _,H,I.kept (t':=tk) k,⟨u,rfl⟩,q⟩))
def zHn:Pn:=λTs Q=>∃(n:Nat) (Us:List Tv),Ts=[.seq true Us]/\n<=30/\RpD (n+1) (.seq true Us)/\Q (sT (rT (n+1) (.seq true Us)))
theorem xS(hg:X.A.guards=some [])(hu:X.A.units+64<cLine):gH X (.builtin "repr") zHn:=⟨_,zCL hg hu,λxs Ts H Q QQ vx h k=>by
 obtain⟨n,Us,rfl,ln,hR,q⟩:=h
 obtain⟨x,rfl,v⟩:=cO vx
 exact⟨x,n,Us,rfl,ln,hR,v,k _ _ _ (.flat rfl) q⟩⟩
end
end L2
namespace L2
open PySem PySem.Spec PyProof.Rows
theorem nG:∀{vs:List Value}{ns:List Int},IntsAre vs ns->vs.length=ns.length
 |_,_,.nil=>rfl
 |_,_,.cons n t h=>by rw[List.length_cons,List.length_cons,nG h]
theorem yE:∀{vs:List Value}{ns:List Int},IntsAre vs ns->∀x,x∈ns↔∃v∈vs,Value.isInt x v=true
 |_,_,.nil,x=>by simp
 |_,_,.cons n t h,x=>by
  rw[List.mem_cons,yE h x]
  constructor
  ·rintro (rfl|⟨v,hv,e⟩)
   ·exact⟨_,.head _,by simp[Value.isInt]⟩
   ·exact⟨v,.tail _ hv,e⟩
  ·rintro⟨v,hv,e⟩
   rcases List.mem_cons.mp hv with rfl|hv
   ·exact .inl (eq_of_beq (show(n==x)=true from e)).symm
   ·exact .inr ⟨v,hv,e⟩
theorem wR{vs us:List Value}(p:us.Perm vs):∀{ns:List Int},IntsAre vs ns->∃ms,IntsAre us ms/\ms.Perm ns:=by
 induction p with
 |nil=>intro ns h;exact⟨ns,h,.refl _⟩
 |cons x _ ih=>
  intro ns h
  cases h with
  |cons n t h=>
   obtain⟨ms,h1,h2⟩:=ih h
   exact⟨n::ms,.cons n t h1,h2.cons n⟩
 |swap x y l=>
  intro ns h
  cases h with
  |cons n t h=>
   cases h with
   |cons m u h=>exact⟨_,.cons m u (.cons n t h),.swap ..⟩
 |trans _ _ ih1 ih2=>
  intro ns h
  obtain⟨ms,h1,h2⟩:=ih2 h
  obtain⟨ks,h3,h4⟩:=ih1 h1
  exact⟨ks,h3,h4.trans h2⟩
theorem wQ:∀{vs:List Value}{ns:List Int}(x:Int) (t:Tok),IntsAre vs ns->IntsAre (vs++[.int x t]) (ns++[x])
 |_,_,x,t,.nil=>.cons x t .nil
 |_,_,x,t,.cons n u h=>.cons n u (wQ x t h)
structure SetTI (prog:Program) (w:World) (us:List Int) (es:Array (Int×Value)) (t:SetTable):Prop where
 el:ElemsOf (PySem.intKind prog w) es.toList
 tx:∃vs:List Int,IntsAre (es.toList.map (·.2)) vs/\vs.Perm us
 nd:us.Nodup
 lt:es.size<scanBound
 fit:t.fits es.size=true
 td:fK t
 ld:t.led=!byT w
def SetI(prog:Program)(w:World)(a:Addr)(us:List Int)(h:Heap):Prop:=∃es ep t,h.get? a=some (cP es ep t)/\SetTI prog w us es t
def fJ(us:List Int)(x:Int):List Int:=if x∈us then us else us++[x]
section
variable{prog:Program}{w:World}{A:Around}{E:Value->Shared->Prop}{s:Shared}{a:Addr}{us:List Int}{x:Int}{tk:Tok}
theorem SetTI.mem{es:Array (Int×Value)}{t:SetTable}(T:SetTI prog w us es t)(x:Int):x∈us↔∃e∈es.toList,(PySem.intKind prog w).is x e.2=true:=by
 obtain⟨vs,hv,pv⟩:=T.tx
 rw[<-pv.mem_iff,yE hv]
 simp only[List.mem_map]
 exact⟨λ⟨v,⟨e,he,z⟩,q⟩=>⟨e,he,by rw[z];exact q⟩,λ⟨e,he,q⟩=>⟨e.2,⟨e,he,rfl⟩,q⟩⟩
theorem SetTI.size{es:Array (Int×Value)}{t:SetTable}(T:SetTI prog w us es t):es.size=us.length:=by
 obtain⟨vs,hv,pv⟩:=T.tx
 have:=nG hv
 rw[<-pv.length_eq,<-this,List.length_map,Array.length_toList]
theorem zEX{Q:Bool->Shared->Prop}(S:SetI prog w a us s.heap)(room:us.length+1<scanBound)(h:∀b h',Heap.SameBut a s.heap h'->SetI prog w a (fJ us x) h'->Q b {s with heap:=h'}):
  wpAny (model prog w) A (setAddHashed a (.int x tk) ((PySem.intKind prog w).hash x)) Q E s:=by
 obtain⟨es,ep,t,ho,T⟩:=id S
 have hk:(PySem.intKind prog w).is x (.int x tk)=true:=by show Value.isInt x (.int x tk)=true;simp[Value.isInt]
 refine yQ (PySem.intKind prog w) ho T.el (by rw[T.size];exact room) T.fit hk rfl (λhin=>?_) λhout h' es' ep' t' sb ho' pm ft ld td _=>?_
 ·have e:s={s with heap:=s.heap}:=by cases s;rfl
  rw[e]
  refine h false s.heap (Heap.SameBut.refl a s.heap) ?_
  rw[fJ,if_pos ((T.mem x).mpr hin)]
  exact S
 ·have hx:x∉us:=λz=>by
   obtain⟨e,he,hp⟩:=(T.mem x).mp z
   rw[hout e he]at hp;cases hp
  refine h true h' sb ⟨es',ep',t',ho',?_⟩
  obtain⟨vs,hv,pv⟩:=T.tx
  have h1:=wQ x tk hv
  rw[show(es.toList.map (·.2))++[Value.int x tk]=(es.toList++[((PySem.intKind prog w).hash x,Value.int x tk)]).map (·.2) by simp]at h1
  obtain⟨vs',hv',pv'⟩:=wR (pm.map (·.2)) h1
  rw[fJ,if_neg hx]
  refine⟨(T.el.push hk rfl).perm pm,⟨vs',hv',pv'.trans (pv.append_right _)⟩,vO T.nd hx,?_,ft,td T.td,ld.trans T.ld⟩
  have:=pm.length_eq
  rw[<-Array.length_toList,this,List.length_append,Array.length_toList,T.size];exact room
theorem SetI.kept{h h':Heap}(S:SetI prog w a us h)(k:∀o,h.get? a=some o->h'.get? a=some o):SetI prog w a us h':=by
 obtain⟨es,ep,t,ho,T⟩:=S
 exact⟨es,ep,t,k _ ho,T⟩
theorem SetTI.rises{es:Array (Int×Value)}{t:SetTable}(T:SetTI prog w us es t)(h:t.plain=true\/es.size<=1):dE t.place:=by
 rcases h with q|q
 ·exact(T.td q).1
 ·have fit:=T.fit
  unfold SetTable.fits at fit
  simp only[Bool.and_eq_true,beq_iff_eq]at fit
  exact qD (by rw[fit.1];exact q)
theorem zB0{Q:Value->Shared->Prop}(hh:A.handled=none)(S:SetI prog w a us s.heap)(h64:us.length<64)
  (h:∀h' d tk (l:Addr) (out:List Value) (ns:List Int) (e:Nat),IntsAre out ns->ns.Perm us->ns.Pairwise (·<=·)->h'.get? l=some (seqObj "list" out.toArray e)->s.heap.objs.size<=l->(∀b o,s.heap.get? b=some o->h'.get? b=some o) ->
   Q (.ref l) {s with heap:=h',drawn:=d,toks:=tk}):wpAny (model prog w) A (call (.builtin "sorted") [.ref a]) Q E s:=by
 refine Calls.call_function_entry kind_sorted plain_sorted entry_sorted (args_sorted1 _) ?_
 unfold Builtin.«sorted»
 refine wpAny_bind (m:=checkCount "sorted" 1 1 _) (wpAny_pure ?_)
 obtain⟨es,ep,t,ho,T⟩:=S
 refine wpAny_bind (pM (by simp[hh]) ho T.fit T.lt T.ld T.rises λh1 d tk acc pa le kp=>?_)
 obtain⟨vs0,hv0,pv0⟩:=T.tx
 obtain⟨vs,hs,hp0⟩:=wR pa hv0
 have hp:=hp0.trans pv0
 have hlen:acc.length<64:=by rw[nG hs,hp.length_eq];exact h64
 refine wpAny_bind (wpAny_newList ?_ (Nat.le_of_lt (Nat.lt_trans hlen (by decide))))
 have hoL:(h1.push (seqObj "list" acc.toArray 0)).get? h1.objs.size=some (seqObj "list" acc.toArray 0):=Heap.get?_push_size _ rfl
 refine wpAny_bind (wpAny_holding (wpAny_call_entry slot_list_sort ⟨_,hoL,rfl⟩ entry_list_sort (list_sort_tree hoL hs hlen λout ns' a1 a2 a3=>⟨_,rfl,?_⟩) (args_list_sort _)))
 obtain⟨e,he⟩:=sortedHeap_at (out:=out) hoL
 refine wpAny_pure ⟨_,rfl,h _ _ _ _ out.toList ns' e a1 (a2.trans hp) a3 (by rw[Array.toArray_toList];exact he) (Nat.le_of_lt le) λb o q=>?_⟩
 have lt:=Heap.lt_size (kp b o q)
 rw[sortedHeap_old (Nat.ne_of_lt lt) (by rw[Heap.size_push];exact Nat.lt_succ_of_lt lt)]
 exact Heap.get?_push_of_some _ (kp b o q)
end
def cX(ns:List Int):List Int:=ns.foldl fJ []
theorem wW:∀(ns us:List Int) (y:Int),y∈ns.foldl fJ us↔y∈us\/y∈ns
 |[],us,y=>by simp
 |n::ns,us,y=>by
  rw[List.foldl_cons,wW ns,fJ,List.mem_cons]
  split
  ·rename_i h
   exact⟨λq=>q.elim .inl λq=>.inr (.inr q),λq=>q.elim .inl λq=>q.elim (λq=>.inl (q▸h)) .inr⟩
  ·rw[List.mem_append,List.mem_singleton,or_assoc]
theorem zEc(ns:List Int)(y:Int):y∈cX ns↔y∈ns:=by rw[cX,wW];simp
theorem yK:∀(ns us:List Int),us.Nodup->(ns.foldl fJ us).Nodup
 |[],us,h=>h
 |n::ns,us,h=>by
  rw[List.foldl_cons]
  refine yK ns _ ?_
  unfold fJ
  split
  ·exact h
  ·rename_i q
   rw[List.nodup_append]
   exact⟨h,by simp,λy hy z hz e=>q (by rw[<-List.mem_singleton.mp hz,<-e];exact hy)⟩
theorem zFm(ns:List Int):(cX ns).Nodup:=yK ns [] List.nodup_nil
theorem qI:∀(ns us:List Int),(ns.foldl fJ us).length<=us.length+ns.length
 |[],us=>by simp
 |n::ns,us=>by
  rw[List.foldl_cons]
  refine Nat.le_trans (qI ns _) ?_
  unfold fJ
  split<;>simp<;>omega
theorem zDd(ns:List Int)(x:Int):cX (ns++[x])=fJ (cX ns) x:=by unfold cX;rw[List.foldl_append];rfl
theorem yF:∀{vs:List Value}{ns:List Int},IntsAre vs ns->∀(i:Nat) (v:Value),vs[i]?=some v->∃n t,ns[i]?=some n/\v=.int n t
 |_,_,.cons n t h,0,v,e=>⟨n,t,rfl,(Option.some.inj e).symm⟩
 |_,_,.cons n t h,i+1,v,e=>yF h i v e
section
variable{prog:Program}{w:World}{A:Around}{R:Result->Shared->Prop}{I:Addr}{fp wr:List Addr}{G:Array GenState->Array GenState->Prop}{n:Nat}{P:Nat->Value->Prop}{St:Nat->Shared->Prop}
theorem zEv(W:WalksS prog w A.in1 I fp wr G n P St)(S:Addr)(hf:S∉fp)(ns:List Int)(hn:n=ns.length)(hv:∀i v,P i v->∃x t,ns[i]?=some x/\v=.int x t)(hb:n+1<scanBound):
  ∀(k i:Nat) (s:Shared),n-i=k->i<=n->St i s->SetI prog w S (cX (ns.take i)) s.heap ->
   (∀s',Moved (S::wr) G s s'->SetI prog w S (cX ns) s'.heap->R (.ok (.ret .none)) s')->codeAny (model prog w) A (.builtin "set.update.loop" ⟨[.ref S,.ref I],[]⟩) R s:=λk i s hk hi st hS hR=>
 qU W S hf (λi h=>SetI prog w S (cX (ns.take i)) h) (λ_ _ _ S k=>S.kept k) (λi v s' Q E lt hP hS q=>by
  obtain⟨x,t,ex,rfl⟩:=hv i v hP
  have room:(cX (ns.take i)).length+1<scanBound:=by have:=qI (ns.take i) [];rw[List.length_take]at this;unfold cX;simp only[List.length_nil]at this;omega
  refine pQ (PySem.intKind prog w) (x:=x) (by show Value.isInt _ (.int _ t)=true;simp[Value.isInt]) (zEX (s:={s' with toks:=s'.toks+1}) hS room λb h' sb S2=>q b h' sb ?_)
  rw[show ns.take (i+1)=ns.take i++[x] by rw[List.take_add_one,ex];rfl,zDd]
  exact S2) k i s hk hi st hS λs' m S'=>hR s' m (by rw[hn,List.take_length]at S';exact S')
end
section
variable{prog:Program}{w:World}{A:Around}{E:Value->Shared->Prop}{s:Shared}
theorem zGL{h:Heap}{a:Addr}(e:h.get? a=some (cR w)):SetI prog w a [] h:=⟨#[],0,.fresh 0 0 (!byT w),e,⟨λe he=>by simp at he,⟨[],.nil,.refl _⟩,List.nodup_nil,by decide,by simp[SetTable.fits,SetTable.fresh,SetTable.fill],λ_=>⟨zDg,rfl⟩,rfl⟩⟩
end
end L2
namespace L2
open PySem PySem.Spec PyProof.Rows WordM
section
variable{X:Cx}{F:Fm}
def oH(P:Program)(w:World)(a:Addr)(us:List Int):HO:=.ext (SetI P w a us)
def zFs(P:Program)(w:World):List V->Hp->VK->Prop:=λxs H Q=>∃(a:Addr) (us:List Int),xs=[.ref a]/\H a=some (oH P w a us)/\us.length<64/\∀(ms:List Int) (l:Addr),ms.Perm us->ms.Pairwise (·<=·)->H l=none->Q (.ref l) (upd H l (.lst (ms.map V.int)))
theorem zBN(hc:X.calm=true):CallR X (.builtin "sorted") (zFs X.prog X.w):=by
 intro pins s σ H xs us Q I r h
 obtain⟨a,uu,rfl,hq,h64,q⟩:=h
 obtain⟨u,rfl,rx⟩:=bZ r
 cases rx
 have S:SetI X.prog X.w a uu s.heap:=(I.hok a _ hq).1
 refine zB0 (I.ok.hd hc) S h64 λh' d tk l out ss e hs hp hso hl le k=>?_
 refine⟨.ref l,_,(I.laid (t':=tk) (o:=.lst (ss.map V.int)) k le ?_).draw d,rfl,q ss l hp hso (I.hok.fresh le)⟩
 refine⟨?_,out,e,vA hs,hl⟩
 rw[List.length_map,hp.length_eq]
 exact Nat.le_of_lt (Nat.lt_trans h64 (by decide))
end
end L2
namespace L2
open PySem PySem.Spec PyProof.Rows WordM
section
variable{prog:Program}{w:World}{A:Around}{E:Value->Shared->Prop}{s:Shared}
theorem zCh{l:Addr}{items:Array Value}{ns:List Int}{Q:Value->Shared->Prop}(hh:A.handled=none)(hl:s.heap.IsList l items)(hi:IntsAre items.toList ns)(hb:ns.length+1<scanBound)
  (h:∀(h':Heap) (tk:Nat),SetI prog w s.heap.objs.size (cX ns) h'->(∀b o,b<s.heap.objs.size->s.heap.get? b=some o->h'.get? b=some o)->Q (.ref s.heap.objs.size) {s with heap:=h',toks:=tk}):
  wpAny (model prog w) A (call (.type "set") [.ref l]) Q E s:=by
 have hz:items.size=ns.length:=by have:=nG hi;simpa using this
 refine qK hh hl (λhh3 ne nf s1 e1 g1 st=>?_) h
 subst e1
 exact zEv ((Walks.list hh3 _ l ne items).toS) s.heap.objs.size nf ns hz (λi v hv=>yF hi i v (by rw[Array.getElem?_toList];exact hv)) (by rw[hz];exact hb) (items.size-0) 0 _ (by omega) (Nat.zero_le _) st (zGL g1) λs' m S'=>pY m m.gens S'
end
section
variable{X:Cx}{F:Fm}
def zGV(P:Program)(w:World)(K:W.Frag):List V->Hp->VK->Prop:=λxs H Q=>∃(p:Addr) (ns:List Int),xs=[.ref p]/\SqL K H p (ns.map V.int)/\ns.length<4000/\∀a:Addr,H a=none->Q (.ref a) (upd H a (oH P w a (cX ns)))
theorem zCK(hc:X.calm=true):CallR X (.type "set") (zGV X.prog X.w X.K):=by
 intro pins s σ H xs us Q I r h
 obtain⟨p,ns,rfl,hq,hz,q⟩:=h
 obtain⟨u,rfl,rx⟩:=bZ r
 cases rx
 obtain⟨its,rv,pl,hz'⟩:=I.list hq
 have hi:IntsAre its.toArray.toList ns:=jH rv
 refine zCh (I.ok.hd hc) pl.isList hi (by show ns.length+1<4096;omega) λh' tk S k=>?_
 refine⟨.ref s.heap.objs.size,_,I.laid (t':=tk) (o:=oH X.prog X.w s.heap.objs.size (cX ns)) (λb o e=>k b o (Heap.lt_size e) e) (Nat.le_refl _) ⟨S,?_,λh1 h2 z k'=>z.kept k'⟩,rfl,q _ I.fresh⟩
 obtain⟨es,ep,t,e,_⟩:=S
 exact⟨_,e⟩
def zCi(u:UT):UTl:=λρ Q=>u ρ λT ρ1=>∃ns:List Int,T=.seq false (ns.map iT)/\ns.length<64/\∀ms:List Int,ms.Pairwise (· < ·)->(∀x,x∈ms↔x∈ns)->Q (ms.map iT) ρ1
theorem zBR{e:Expr}{u:UT}{p p' pos pos':Pos}(hc:X.calm=true)(hg:Gl X "sorted")(hm:X.mg "sorted"=none)(hg':Gl X "set")(hm':X.mg "set"=none)(he:UE X F e u)(hst:cQ e=false:=by rfl)
  (hpl:(backTo pos (starEach [] X.env)).any (·.1)=false:=by rfl) (hpl':(backTo pos' (starEach [] X.env)).any (·.1)=false:=by rfl):
  UL X F (.Call (.Name "sorted" p) [.Call (.Name "set" p') [e] [] pos'] [] pos) (zCi u):=⟨PE.imp (gZ (zBN hc) hg hm boot_sorted (cJ (iK (zCK hc) hg' hm' L2.boot_set (cJ he.pe cT hst) (by decide) (by decide) (gX hst) hpl') cT rfl) (by decide) (by decide) rfl hpl) λσ H QQ ⟨ρ,Q,f,h,k⟩=>by
 refine⟨ρ,_,f,h,λx T H1 ρ1 s1 v1 q1=>?_⟩
 obtain⟨ns,rfl,l1,q⟩:=q1
 obtain⟨a,ys,rfl,hs,z,p⟩:=v1.seqI
 rw[jN p]at hs
 have l2:(cX ns).length<=ns.length:=by have:=qI ns [];simpa[cX]using this
 refine⟨a,ns,rfl,bU hs,by omega,λb nb=>⟨b,cX ns,rfl,aT,by omega,λms c h1 h2 nc=>?_⟩⟩
 have sm:=(cH (o:=oH X.prog X.w b (cX ns)) nb).trans (cH (o:=.lst (ms.map V.int)) nc)
 refine k _ _ _ _ _ (s1.trans (Stp.same s1.fr sm)) (s1.non ((cH nb).free nc)) aT (by rw[List.length_map,h1.length_eq];omega) (rB ms) (q ms ?_ λx=>by rw[h1.mem_iff,zEc])
 have nd:ms.Nodup:=h1.nodup_iff.mpr (zFm ns)
 exact(List.pairwise_and_iff.mpr ⟨h2,nd⟩).imp λ{a b} ⟨x,y⟩=>by have y:a≠b:=y;omega⟩
end
end L2
namespace L2
open PySem PySem.Spec PyProof.Rows WordM
section
variable{X:Cx}{F:Fm}
def zGx(u:UTl):UTl:=λρ Q=>u (pkE ρ) λTs _=>(∀T∈Ts,TupT T)/\Q Ts ρ
theorem zD0{e:Expr}{u:UTl}(h:∀F,UL X F e u):UL X F e (zGx u):=⟨λpins s σ H QQ I ⟨ρ,Q,f,hu,k⟩=>by
 obtain⟨H2,fro,ok2⟩:=qH I.hok
 have f2:=tI f fro
 refine thn ((h ⟨H2,none⟩).pe pins s σ H2 (λx H3=>∃a xs Ts ρ',x=.ref a/\H2 a=none/\Stp X.K ⟨H2,none⟩ σ (pkE ρ) H2 ρ' H3/\H3 a=some (.lst xs)/\Ts.length<=100000/\VAs X.K H3 xs Ts/\(∀T∈Ts,TupT T)/\Q Ts ρ) (I.frozen fro ok2) ⟨_,_,f2,hu,λa xs Ts H' ρ' st n e z p q=>⟨a,xs,Ts,ρ',rfl,n,st,e,z,p,q⟩⟩) λu s' ⟨x,H3,I3,r,q⟩=>?_
 obtain⟨a,xs,Ts,ρ',rfl,n,st,e,z,p,tt,q⟩:=q
 obtain⟨H4,th⟩:=rD H H3
 have sm:=Thaw.same fro (rQ st) th
 have na:H a=none:=by
  cases e1:H a with
  |none=>rfl
  |some o=>
   rcases fro a with⟨_,o',ob,_,_,e4⟩|⟨_,e4⟩
   ·rw[n]at e4;cases e4
   ·rw[n,e1]at e4;cases e4
 have ea:H4 a=some (.lst xs):=by
  rcases th a with⟨o,ob,_,e1,_⟩|⟨_,e1⟩
  ·rw[na]at e1;cases e1
  ·rw[e1];exact e
 exact⟨.ref a,H4,I.thaw I3 th,r,k a xs Ts H4 ρ (Stp.same f sm) na ea z (pU p λx T hT v=>(tt T hT).thaw th v) q⟩⟩
def tQ(K:W.Frag)(F:Fm)(q:aH->Prop):TS:=λD σ H=>∃ρ,FrOk K F ρ σ H/\q ρ/\∀H',Stp K F σ ρ H ρ H'->D.nx σ H'
structure UQs (X:Cx) (F:Fm) (st:List Stmt) (q:aH->Prop):Prop where
 ps:PSs X st (tQ X.K F q)
theorem zGs:UQs X F [] (λ_=>True):=⟨PSs.imp jU λD σ H ⟨ρ,f,_,k⟩=>k H (Stp.same f (Same.refl _))⟩
theorem zAH{c:Expr}{a:List Stmt}{pos:Pos}{tc:UTt}{rest:List Stmt}{q:aH->Prop}(hc:UB X F c tc)(hr:UQs X F rest q):UQs X F (.If c a [] pos::rest) (λρ=>tc ρ (λb ρ'=>b=false/\ρ'=ρ)/\q ρ):=
 ⟨PSs.imp (eB (lT hc.pt (xJ (F:=F)).ps jU) hr.ps) λD σ H ⟨ρ,f,⟨h,hq⟩,k⟩=>by
  refine⟨ρ,_,f,h,λb H' ρ' st ⟨eb,er⟩=>?_⟩
  subst eb er
  exact(if_neg Bool.false_ne_true).mpr ⟨_,st.fr,hq,λH2 s2=>k H2 (st.trans s2)⟩⟩
def zIf(i v:Nat)(q:aH->Prop):UTs:=λP ρ=>∃Ts,ρ[i]?=some (.own Ts)/\(∀T∈Ts,q (ρ.set v (.va T)))/\P.nx ρ/\∀T∈Ts,P.nx (ρ.set v (.va T))
theorem zE9{i v:Nat}{x y:Str}{p p' pos:Pos}{body:List Stmt}{q:aH->Prop}(ne:v≠i)(hp:PassesOwn (model X.prog X.w) X.A X.env X.xe)(hc:X.calm=true)(hN:X.N.Nodup)(hv:X.N[v]?=some y)(hy:Loc X.env.scope y)(hb:UQs X F body q)
  (hi:X.N[i]?=some x:=by rfl) (hx:Vis X.env.scope x:=by first|exact Or.inl rfl|exact Or.inr (Or.inl rfl)|exact Or.inr (Or.inr rfl)) (hd:(x==("__debug__":Str))=false:=by decide) (hcd:(x==("__classdict__":Str))=false:=by decide)
  (hf:X.fn y=true\/X.env.scope.names.lookup y=some .local:=by first|exact .inl rfl|exact .inr rfl|assumption)
  (hs:∀z,foldedSetIterable (.Name x p) X.env z=pure z:=by intro _;rfl):US X F (.For (.Name y p') (.Name x p) body [] pos) (zIf i v q):=by
 have PIx:PI X (.Name y p') (.Name x p) (λσ H R=>∃a xs,σ[i]?=some (some (.ref a))/\SqL X.K H a xs/\R (Itl X.K a) H):=λpins s σ H R I ⟨a,xs,e,hq,r⟩=>
  thn (hZ hi hx hd hcd pins s σ H (λz H1=>∃a xs,z=.ref a/\SqL X.K H1 a xs/\R (Itl X.K a) H1) I ⟨.ref a,e,a,xs,rfl,hq,r⟩) λu s1 ⟨z,H1,I1,r1,q1⟩=>it_list pins s1 σ H1 z u R I1 r1 q1
 refine⟨PS.imp (zAv hp hc PIx (zK hN hv hy hf) hb.ps hs) λD σ H ⟨ρ,P,f,⟨Ts,eo,hq,n0,n1⟩,k1,_⟩=>?_⟩
 obtain⟨a,xs,ea,eH,_,_,pv⟩:=f.at_ i _ eo
 refine⟨a,xs,fZ ea,.inl (.inl eH),?_⟩
 have own:∀{ρ':aH},(ρ'=ρ\/∃T∈Ts,ρ'=ρ.set v (.va T))->ρ'[i]?=some (.own Ts):=λ{ρ'} h=>by
  rcases h with rfl|⟨T,_,rfl⟩
  ·exact eo
  ·rw[List.getElem?_set_ne ne];exact eo
 have lst:∀{ρ':aH} {σ':St} {H':Hp},(ρ'=ρ\/∃T∈Ts,ρ'=ρ.set v (.va T))->FrOk X.K F ρ' σ' H'->ixv σ' i=some (.ref a)->∃xs,H' a=some (.lst xs)/\VAs X.K H' xs Ts:=λ{ρ' σ' H'} h f e=>by
  obtain⟨a',xs',e1,e2,_,_,p⟩:=f.at_ i _ (own h)
  rw[e]at e1
  cases e1
  exact⟨xs',e2,p⟩
 refine⟨λk m σ' H'=>m=Ts.length-k/\k<=Ts.length/\HS H H'/\ixv σ' i=some (.ref a)/\∃ρ',(ρ'=ρ\/∃T∈Ts,ρ'=ρ.set v (.va T))/\FrOk X.K F ρ' σ' H',⟨_,rfl,Nat.zero_le _,HS.refl _,ea,ρ,.inl rfl,f⟩,?_⟩
 rintro k m σ' H' ⟨rfl,hk,hs',e',ρ',hρ,f'⟩
 obtain⟨xs',eH',pv'⟩:=lst hρ f' e'
 have ln:xs'.length=Ts.length:=Paired.length pv'
 by_cases hlt:k<Ts.length
 ·refine .inr ⟨⟨xs',xs'[k]'(by omega),.inl (.inl eH'),List.getElem?_eq_getElem _⟩,λσ2 H2=>HS H H2/\ixv σ2 i=some (.ref a)/\∃ρ2,(ρ2=ρ\/∃T∈Ts,ρ2=ρ.set v (.va T))/\FrOk X.K F ρ2 σ2 H2,λσ2 H2 ⟨h1,h2,h3⟩=>⟨_,by omega,rfl,hlt,h1,h2,h3⟩,λx' H3 hy'=>?_⟩
  obtain⟨e3,e4⟩:=hy'
  subst e3
  have ex:=e4 xs' (.inl (.inl eH'))
  obtain⟨T,eT,vT⟩:=dG pv' ex
  have hT:T∈Ts:=List.mem_of_getElem? eT
  have f4:=f'.set (i:=v) (s:=.va T) (x:=x') (λ_=>⟨x',rfl,vT⟩) (λz=>absurd z Bool.false_ne_true)
  have es:ρ'.set v (.va T)=ρ.set v (.va T):=by
   rcases hρ with rfl|⟨U,_,rfl⟩
   ·rfl
   ·rw[List.set_set]
  rw[es]at f4
  have ei:ixv (σ'.set v (some x')) i=some (.ref a):=by unfold ixv;rw[List.getElem?_set_ne ne];exact e'
  exact⟨_,f4,hq T hT,λH5 st=>⟨hs'.trans (st.hs f4),ei,_,.inr ⟨T,hT,rfl⟩,st.fr⟩⟩
 ·have e:k=Ts.length:=by omega
  subst e
  refine .inl ⟨⟨xs',.inl (.inl eH'),by omega⟩,?_⟩
  rcases hρ with rfl|⟨T,hT,rfl⟩
  ·exact k1 _ _ _ f' hs' n0
  ·exact k1 _ _ _ f' hs' (n1 T hT)
end
end L2
namespace ShowM
variable{M:Type}[DecidableEq M]
def MkL(mk:Nat->M)(hd:List Nat)(lo hi:Int)(ms:List M)(x:List Nat):Prop:=∃r,x=hd++r/\lo<=(r.length:Int)/\(r.length:Int)<=hi/\∀c∈r,mk c∈ms
structure Tells (mk:Nat->M) (hd:List Nat) (lo hi:Int) (ms:List M) (S:List (List Nat)):Prop where
 some:∃(n:Nat) (G:List Nat),1<=n/\7<=G.length/\G.Nodup/\(∀m∈ms,∃c∈G,mk c=m)/\∀g∈G,hd++List.replicate n g∈S
 low:∃r:List Nat,(r.length:Int)<=lo/\hd++r∈S
 high:∃r:List Nat,hi<=(r.length:Int)/\hd++r∈S
theorem xZ{α:Type}[DecidableEq α]:∀{l m:List α},l.Nodup->(∀x∈l,x∈m)->l.length<=m.length
 |[],m,_,_=>Nat.zero_le _
 |x::l,m,hn,hs=>by
  have hx:=hs x List.mem_cons_self
  have h2:=List.nodup_cons.mp hn
  have ih:=xZ (l:=l) (m:=m.erase x) h2.2 λy hy=>(List.mem_erase_of_ne (show y≠x from λe=>h2.1 (by rw[<-e];exact hy))).mpr (hs y (List.mem_cons_of_mem _ hy))
  rw[List.length_erase_of_mem hx]at ih
  have:0<m.length:=List.length_pos_of_mem hx
  rw[List.length_cons]
  omega
theorem Tells.few{mk:Nat->M}{hd:List Nat}{lo hi:Int}{ms:List M}{S:List (List Nat)}(T:Tells mk hd lo hi ms S){ss:List (List Nat)}(h6:ss.length<=6)(h:∀x∈S,x∈ss):False:=by
 obtain⟨n,G,n1,g7,nd,_,hG⟩:=T.some
 have hn:(G.map λg=>hd++List.replicate n g).Nodup:=by
  unfold List.Nodup
  rw[List.pairwise_map]
  refine nd.imp λ{a b} ne e=>ne ?_
  have e:=List.append_cancel_left e
  obtain⟨k,rfl⟩:∃k,n=k+1:=⟨n-1,by omega⟩
  rw[List.replicate_succ,List.replicate_succ]at e
  exact(List.cons.inj e).1
 have:=xZ hn λx hx=>by
  obtain⟨g,hg,rfl⟩:=List.mem_map.mp hx
  exact h _ (hG g hg)
 rw[List.length_map]at this
 omega
theorem Tells.make{mk:Nat->M}{hd hd2:List Nat}{lo hi lo2 hi2:Int}{ms ms2:List M}{S:List (List Nat)}(T:Tells mk hd lo hi ms S)(h:∀x∈S,MkL mk hd2 lo2 hi2 ms2 x):∀x,MkL mk hd lo hi ms x->MkL mk hd2 lo2 hi2 ms2 x:=by
 obtain⟨n,G,n1,g7,nd,cov,hG⟩:=T.some
 obtain⟨d,hd'⟩:∃d,hd=hd2++d:=by
  match G,g7,nd,hG with
  |g1::g2::G',_,nd,hG=>
   obtain⟨r1,e1,_⟩:=h _ (hG g1 (by simp))
   obtain⟨r2,e2,_⟩:=h _ (hG g2 (by simp))
   have ne:g1≠g2:=by
    have:=(List.nodup_cons.mp nd).1
    simp at this
    exact this.1
   obtain⟨k,rfl⟩:∃k,n=k+1:=⟨n-1,by omega⟩
   rw[List.append_eq_append_iff]at e1 e2
   rcases e1 with⟨a,ha,hb⟩|⟨a,ha,hb⟩
   ·rcases e2 with⟨a',ha',hb'⟩|⟨a',ha',hb'⟩
    ·have:a=a':=List.append_cancel_left (ha.symm.trans ha')
     subst this
     cases a with
     |nil=>exact⟨[],by simpa using ha.symm⟩
     |cons y a=>
      rw[List.replicate_succ,List.cons_append]at hb hb'
      exact absurd ((List.cons.inj hb).1.trans (List.cons.inj hb').1.symm) ne
    ·exact⟨a',ha'⟩
   ·exact⟨a,ha⟩
 subst hd'
 have strip:∀{r:List Nat},(hd2++d)++r∈S->lo2<=((d++r).length:Int)/\((d++r).length:Int)<=hi2/\∀c∈d++r,mk c∈ms2:=λ{r} hr=>by
  obtain⟨r',e,h1,h2,h3⟩:=h _ hr
  rw[List.append_assoc]at e
  have:=List.append_cancel_left e
  rw[this]
  exact⟨h1,h2,h3⟩
 obtain⟨rl,l1,l2⟩:=T.low
 obtain⟨rh,h1,h2⟩:=T.high
 have sl:=strip l2
 have sh:=strip h2
 rintro x ⟨r,rfl,r1,r2,r3⟩
 refine⟨d++r,by rw[List.append_assoc],?_,?_,λc hc=>?_⟩
 ·have:=sl.1
  rw[List.length_append]at this ⊢
  omega
 ·have:=sh.2.1
  rw[List.length_append]at this ⊢
  omega
 ·rcases List.mem_append.mp hc with z|z
  ·exact sl.2.2 c (List.mem_append_left _ z)
  ·obtain⟨g,hg,e⟩:=cov _ (r3 c z)
   rw[<-e]
   obtain⟨k,rfl⟩:∃k,n=k+1:=⟨n-1,by omega⟩
   exact(strip (hG g hg)).2.2 g (List.mem_append_right _ (by rw[List.replicate_succ];exact List.mem_cons_self))
end ShowM
namespace CutM
open GcdM
structure IsR (S:Int->Prop) (r:R3):Prop where
 lo:S r.1
 lo':∀n,S n->r.1<=n
 hi:S r.2.1
 hi':∀n,S n->n<=r.2.1
 nn:0<=r.2.2
 dv:∀d,d ∣ r.2.2↔∀n,S n->d ∣ (n-r.1)
theorem isR_of{ns:List Int}{m M:Int}(h1:m∈ns)(h2:∀x∈ns,m<=x)(h3:M∈ns)(h4:∀x∈ns,x<=M):IsR (·∈ns) (m,M,stepOf m ns):=by
 refine⟨h1,h2,h3,h4,vC (Int.le_refl 0),λd=>?_⟩
 show d ∣ stepOf m ns↔_
 unfold stepOf
 rw[xN]
 exact⟨λh=>h.2,λh=>⟨Int.dvd_zero _,h⟩⟩
theorem R3.ext{a b:R3}(h1:a.1=b.1)(h2:a.2.1=b.2.1)(h3:a.2.2=b.2.2):a=b:=by
 obtain⟨x,y,z⟩:=a
 obtain⟨x',y',z'⟩:=b
 simp only at h1 h2 h3
 rw[h1,h2,h3]
theorem IsR.unique{S:Int->Prop}{r r':R3}(h:IsR S r)(h':IsR S r'):r=r':=by
 have e1:r.1=r'.1:=by
  have:=h.lo' _ h'.lo
  have:=h'.lo' _ h.lo
  omega
 have e2:r.2.1=r'.2.1:=by
  have:=h.hi' _ h'.hi
  have:=h'.hi' _ h.hi
  omega
 refine R3.ext e1 e2 (wX h.nn h'.nn λd=>?_)
 rw[h.dv,h'.dv,e1]
theorem IsR.congr{S T:Int->Prop}{r:R3}(h:IsR S r)(e:∀n,S n↔T n):IsR T r:=
 ⟨(e _).mp h.lo,λn hn=>h.lo' n ((e n).mpr hn),(e _).mp h.hi,λn hn=>h.hi' n ((e n).mpr hn),h.nn,λd=>(h.dv d).trans ⟨λk n hn=>k n ((e n).mpr hn),λk n hn=>k n ((e n).mp hn)⟩⟩
end CutM
namespace L2
open PySem PySem.Spec PyProof.Rows WordM
def fH:List Int->Int
 |[]=>0
 |[x]=>x
 |x::y::l=>min x (fH (y::l))
def fV:List Int->Int
 |[]=>0
 |[x]=>x
 |x::y::l=>max x (fV (y::l))
theorem nL:∀{l:List Int},l≠[]->fH l∈l/\∀x∈l,fH l<=x
 |[],h=>absurd rfl h
 |[x],_=>⟨.head _,λy hy=>by rw[List.mem_singleton.mp hy];exact Int.le_refl _⟩
 |x::y::l,_=>by
  obtain⟨a,b⟩:=nL (l:=y::l) (by simp)
  rw[fH]
  refine⟨?_,λz hz=>?_⟩
  ·by_cases h:x<=fH (y::l)
   ·rw[Int.min_eq_left h];exact .head _
   ·rw[Int.min_eq_right (by omega)];exact .tail _ a
  ·rcases List.mem_cons.mp hz with rfl|hz
   ·omega
   ·have:=b z hz;omega
theorem nM:∀{l:List Int},l≠[]->fV l∈l/\∀x∈l,x<=fV l
 |[],h=>absurd rfl h
 |[x],_=>⟨.head _,λy hy=>by rw[List.mem_singleton.mp hy];exact Int.le_refl _⟩
 |x::y::l,_=>by
  obtain⟨a,b⟩:=nM (l:=y::l) (by simp)
  rw[fV]
  refine⟨?_,λz hz=>?_⟩
  ·by_cases h:x<=fV (y::l)
   ·rw[Int.max_eq_right h];exact .tail _ a
   ·rw[Int.max_eq_left (by omega)];exact .head _
  ·rcases List.mem_cons.mp hz with rfl|hz
   ·omega
   ·have:=b z hz;omega
def cK(ns:List Int):GcdM.R3:=(fH ns,fV ns,GcdM.stepOf (fH ns) ns)
theorem xP{ns:List Int}(h:ns≠[]):CutM.IsR (·∈ns) (cK ns):=by
 obtain⟨a,b⟩:=nL h
 obtain⟨c,d⟩:=nM h
 exact CutM.isR_of a b c d
theorem qP{ns:List Int}{r:GcdM.R3}(h:CutM.IsR (·∈ns) r):r=cK ns:=h.unique (xP λz=>by have:=h.lo;rw[z]at this;exact nomatch this)
theorem zCo{ns ms:List Int}(h:∀x,x∈ns↔x∈ms):cK ns=cK ms:=by
 by_cases e:ns=[]
 ·subst e
  cases ms with
  |nil=>rfl
  |cons x m=>exact nomatch (h x).mpr (.head _)
 ·exact qP ((xP e).congr h)
def lcp:List Nat->List Nat->List Nat
 |a::x,b::y=>if a=b then a::lcp x y else []
 |_,_=>[]
theorem yD:∀x y:List Nat,∃r,x=lcp x y++r
 |[],y=>⟨[],by cases y<;>rfl⟩
 |a::x,[]=>⟨a::x,rfl⟩
 |a::x,b::y=>by
  rw[lcp]
  split
  ·obtain⟨r,e⟩:=yD x y;exact⟨r,by rw[List.cons_append,<-e]⟩
  ·exact⟨a::x,rfl⟩
theorem wO:∀x y:List Nat,∃r,y=lcp x y++r
 |[],y=>⟨y,by cases y<;>rfl⟩
 |a::x,[]=>⟨[],rfl⟩
 |a::x,b::y=>by
  rw[lcp]
  split
  ·rename_i h;obtain⟨r,e⟩:=wO x y;exact⟨r,by rw[List.cons_append,<-e,h]⟩
  ·exact⟨b::y,rfl⟩
theorem zU:∀(h x y r1 r2:List Nat),x=h++r1->y=h++r2->∃r,lcp x y=h++r
 |[],x,y,_,_,_,_=>⟨lcp x y,rfl⟩
 |a::h,x,y,r1,r2,e1,e2=>by
  subst e1 e2
  obtain⟨r,e⟩:=zU h (h++r1) (h++r2) r1 r2 rfl rfl
  exact⟨r,by rw[List.cons_append,List.cons_append,lcp,if_pos rfl,e];rfl⟩
structure IsHead (ts:List Str) (hd:Str):Prop where
 all:∀t∈ts,∃r,cs t=cs hd++r
 top:∀h:List Nat,(∀t∈ts,∃r,cs t=h++r)->h.length<=(cs hd).length
theorem zG8{x y:List Nat}{z:List Nat}{r1 r2:List Nat}(e1:z=x++r1)(e2:z=y++r2)(l:x.length<=y.length):∃r,y=x++r:=by
 refine⟨y.drop x.length,?_⟩
 have:y.take x.length=x:=by
  have h1:z.take x.length=x:=by rw[e1,List.take_left]
  have h2:z.take x.length=y.take x.length:=by rw[e2,List.take_append_of_le_length l]
  rw[<-h2,h1]
 exact(List.take_append_drop x.length y).symm.trans (by rw[this])
theorem IsHead.pre{ts:List Str}{hd:Str}(ne:ts≠[])(a:IsHead ts hd){h:List Nat}(k:∀t∈ts,∃r,cs t=h++r):∃r,cs hd=h++r:=by
 obtain⟨t,ht⟩:=List.exists_mem_of_ne_nil _ ne
 obtain⟨r1,e1⟩:=k t ht
 obtain⟨r2,e2⟩:=a.all t ht
 exact zG8 e1 e2 (a.top h k)
theorem zDC{ts:List Str}{h1 h2:Str}(ne:ts≠[])(a:IsHead ts h1)(b:IsHead ts h2):h1=h2:=by
 obtain⟨t,ht⟩:=List.exists_mem_of_ne_nil _ ne
 obtain⟨r1,e1⟩:=a.all t ht
 obtain⟨r2,e2⟩:=b.all t ht
 have l1:=a.top _ b.all
 have l2:=b.top _ a.all
 exact jS (List.append_inj_left (e1.symm.trans e2) (by omega))
theorem IsHead.same{ts us:List Str}{hd:Str}(a:IsHead ts hd)(h:∀x,x∈ts↔x∈us):IsHead us hd:=⟨λt ht=>a.all t ((h t).mpr ht),λk hk=>a.top k λt ht=>hk t ((h t).mp ht)⟩
def dM:List Str->List Nat
 |[]=>[]
 |[t]=>cs t
 |t::u::l=>lcp (cs t) (dM (u::l))
theorem yG:∀{ts:List Str},ts≠[]->IsHead ts ⟨(dM ts).toArray⟩
 |[],h=>absurd rfl h
 |[t],_=>⟨λu hu=>⟨[],by rw[List.mem_singleton.mp hu,List.append_nil];rfl⟩,λh k=>by
  obtain⟨r,e⟩:=k t (.head _)
  show h.length<=(cs t).length
  rw[e,List.length_append];omega⟩
 |t::u::l,_=>by
  have ih:=yG (ts:=u::l) (by simp)
  have eh:cs ⟨(dM (t::u::l)).toArray⟩=lcp (cs t) (dM (u::l)):=rfl
  have eh':cs ⟨(dM (u::l)).toArray⟩=dM (u::l):=rfl
  refine⟨λx hx=>?_,λh k=>?_⟩
  ·rw[eh]
   rcases List.mem_cons.mp hx with rfl|hx
   ·exact yD _ _
   ·obtain⟨r,e⟩:=ih.all x hx
    obtain⟨r',e'⟩:=wO (cs t) (dM (u::l))
    rw[eh']at e
    exact⟨r'++r,by rw[e,<-List.append_assoc,<-e']⟩
  ·obtain⟨r1,e1⟩:=k t (.head _)
   obtain⟨r2,e2⟩:=ih.pre (by simp) λx hx=>k x (.tail _ hx)
   rw[eh']at e2
   obtain⟨r,e⟩:=zU h _ _ r1 r2 e1 e2
   rw[eh,e,List.length_append];omega
def lF(ts:List Str)(hd:Str):List Str:=MK.filter λm=>ts.any λt=>(cs (bE t hd)).any λc=>decide (cE c=m)
theorem mJ{ts:List Str}{hd m:Str}:m∈lF ts hd↔∃t∈ts,∃c∈cs (bE t hd),cE c=m:=by
 unfold lF
 rw[List.mem_filter,List.any_eq_true]
 constructor
 ·rintro⟨_,t,ht,h⟩
  obtain⟨c,hc,e⟩:=List.any_eq_true.mp h
  exact⟨t,ht,c,hc,of_decide_eq_true e⟩
 ·rintro⟨t,ht,c,hc,rfl⟩
  exact⟨mark_in c,t,ht,List.any_eq_true.mpr ⟨c,hc,decide_eq_true rfl⟩⟩
theorem mG(ts:List Str)(hd:Str):dY (lF ts hd):=List.Pairwise.sublist List.filter_sublist zO
structure MOf (ts:List Str) (hd:Str) (lo hi:Int) (ms:List Str):Prop where
 he:IsHead ts hd
 lo1:∃t∈ts,(t.length:Int)-(hd.length:Int)=lo
 lo2:∀t∈ts,lo<=(t.length:Int)-(hd.length:Int)
 hi1:∃t∈ts,(t.length:Int)-(hd.length:Int)=hi
 hi2:∀t∈ts,(t.length:Int)-(hd.length:Int)<=hi
 mks:ms=lF ts hd
theorem mS{xs ys:List Str}(hx:dY xs)(hy:dY ys)(h:∀x,x∈xs↔x∈ys):xs=ys:=
 (nE hx hy λx hx=>(h x).mp hx).eq_of_length_le (nE hy hx λx hx=>(h x).mpr hx).length_le
theorem MOf.same{ts us:List Str}{hd:Str}{lo hi:Int}{ms:List Str}(m:MOf ts hd lo hi ms)(h:∀x,x∈ts↔x∈us):MOf us hd lo hi ms:=by
 obtain⟨t1,a1,b1⟩:=m.lo1
 obtain⟨t2,a2,b2⟩:=m.hi1
 refine⟨m.he.same h,⟨t1,(h _).mp a1,b1⟩,λt ht=>m.lo2 t ((h t).mpr ht),⟨t2,(h _).mp a2,b2⟩,λt ht=>m.hi2 t ((h t).mpr ht),?_⟩
 rw[m.mks]
 refine mS (mG _ _) (mG _ _) λx=>?_
 rw[mJ,mJ]
 exact⟨λ⟨t,ht,z⟩=>⟨t,(h t).mp ht,z⟩,λ⟨t,ht,z⟩=>⟨t,(h t).mpr ht,z⟩⟩
theorem MOf.ne{ts:List Str}{hd:Str}{lo hi:Int}{ms:List Str}(m:MOf ts hd lo hi ms):ts≠[]:=λz=>by
 obtain⟨t,ht,_⟩:=m.lo1
 rw[z]at ht
 exact nomatch ht
theorem MOf.uniq{ts:List Str}{hd hd2:Str}{lo hi lo2 hi2:Int}{ms ms2:List Str}(a:MOf ts hd lo hi ms)(b:MOf ts hd2 lo2 hi2 ms2):hd=hd2/\lo=lo2/\hi=hi2/\ms=ms2:=by
 have e:=zDC a.ne a.he b.he
 subst e
 obtain⟨t1,a1,b1⟩:=a.lo1
 obtain⟨t2,a2,b2⟩:=a.hi1
 obtain⟨u1,c1,d1⟩:=b.lo1
 obtain⟨u2,c2,d2⟩:=b.hi1
 have x1:=b.lo2 t1 a1
 have x2:=a.lo2 u1 c1
 have x3:=b.hi2 t2 a2
 have x4:=a.hi2 u2 c2
 exact⟨rfl,by omega,by omega,by rw[a.mks,b.mks]⟩
def kS(ts:List Str):Wd:=
 .make ⟨(dM ts).toArray⟩ (fH (ts.map λt=>(t.length:Int)-((⟨(dM ts).toArray⟩:Str).length:Int))) (fV (ts.map λt=>(t.length:Int)-((⟨(dM ts).toArray⟩:Str).length:Int))) (lF ts ⟨(dM ts).toArray⟩)
theorem zP{ts:List Str}(h:ts≠[]):∃hd lo hi ms,kS ts=.make hd lo hi ms/\MOf ts hd lo hi ms:=by
 refine⟨_,_,_,_,rfl,yG h,?_,λt ht=>?_,?_,λt ht=>?_,rfl⟩
 ·obtain⟨t,ht,e⟩:=List.mem_map.mp (nL (l:=ts.map λt=>(t.length:Int)-((⟨(dM ts).toArray⟩:Str).length:Int)) (by simpa using h)).1
  exact⟨t,ht,e⟩
 ·exact(nL (l:=ts.map λt=>(t.length:Int)-((⟨(dM ts).toArray⟩:Str).length:Int)) (by simpa using h)).2 _ (List.mem_map.mpr ⟨t,ht,rfl⟩)
 ·obtain⟨t,ht,e⟩:=List.mem_map.mp (nM (l:=ts.map λt=>(t.length:Int)-((⟨(dM ts).toArray⟩:Str).length:Int)) (by simpa using h)).1
  exact⟨t,ht,e⟩
 ·exact(nM (l:=ts.map λt=>(t.length:Int)-((⟨(dM ts).toArray⟩:Str).length:Int)) (by simpa using h)).2 _ (List.mem_map.mpr ⟨t,ht,rfl⟩)
noncomputable def fE(ts:List Str):Wd:=if (bG ts).length<7 then .few (cG (bG ts)) else kS ts
end L2
namespace L2
open PySem PySem.Spec PyProof.Rows WordM
def kN6:List Nat:=[0,1,2,3,4,5]
def eR(f:List Pt)(k:Nat):Option Pt:=f.find? λp=>decide (bF p=k)
def dF(vs:List Tv):Bool:=vs.any λv=>bL v==0
def asB:Tv->Option Bool
 |.leaf (.bl b)=>some b
 |_=>none
def asI:Tv->Option Int
 |.leaf (.int i)=>some i
 |_=>none
def asS:Tv->Option Str
 |.leaf (.str s)=>some s
 |_=>none
def asL:Tv->Option (List Tv)
 |.seq false xs=>some xs
 |_=>none
def asD:Tv->Option (List (Str×Tv))
 |.dct k=>some k
 |_=>none
theorem zGf{v:Tv}{b:Bool}:asB v=some b↔v=.leaf (.bl b):=by
 cases v with
 |leaf x=>cases x<;>simp[asB]
 |seq t xs=>simp[asB]
 |dct k=>simp[asB]
theorem zGd{v:Tv}{b:Int}:asI v=some b↔v=.leaf (.int b):=by
 cases v with
 |leaf x=>cases x<;>simp[asI]
 |seq t xs=>simp[asI]
 |dct k=>simp[asI]
theorem zGb{v:Tv}{b:Str}:asS v=some b↔v=.leaf (.str b):=by
 cases v with
 |leaf x=>cases x<;>simp[asS]
 |seq t xs=>simp[asS]
 |dct k=>simp[asS]
theorem zGc{v:Tv}{b:List Tv}:asL v=some b↔v=.seq false b:=by
 cases v with
 |leaf x=>cases x<;>simp[asL]
 |seq t xs=>cases t<;>simp[asL]
 |dct k=>simp[asL]
theorem zGe{v:Tv}{b:List (Str×Tv)}:asD v=some b↔v=.dct b:=by
 cases v with
 |leaf x=>cases x<;>simp[asD]
 |seq t xs=>simp[asD]
 |dct k=>simp[asD]
def uH(ks:List (List (Str×Tv))):List Str:=ks.flatMap λk=>k.map (·.1)
def zIY(ks:List (List (Str×Tv))):List Tv:=ks.flatMap λk=>k.map (·.2)
def atK(n:Str)(ks:List (List (Str×Tv))):List Tv:=ks.filterMap λk=>dW k n
def zAV(ls:List (List Tv)):List Int:=ls.map λl=>((l.length:Nat):Int)
def oN(ks:List (List (Str×Tv))):List Int:=ks.map λl=>((l.length:Nat):Int)
abbrev FdT:=Str×Bool×List Pt
noncomputable def zJi(D:List Tv->List Pt)(ks:List (List (Str×Tv)))(n:Str):FdT:=(n,ks.all (λk=>decide (n∈k.map (·.1))),D (atK n ks))
noncomputable def dcP(D:List Tv->List Pt)(ks:List (List (Str×Tv))):Pt:=
 if (bG (uH ks)).length<=8 then .record (fH (oN ks)) (fV (oN ks)) ((cG (bG (uH ks))).map (zJi D ks)) else .table (fH (oN ks)) (fV (oN ks)) (fE (uH ks)) (D (zIY ks))
noncomputable def cB(D:List Tv->List Pt)(vs:List Tv):Nat->Option Pt
 |0=>if dF vs=true then some .nothing else none
 |1=>if vs.filterMap asB=[] then none else some (.truths (usB (inF (vs.filterMap asB)) (inT (vs.filterMap asB))))
 |2=>if vs.filterMap asI=[] then none else some (.numbers (cK (vs.filterMap asI)).1 (cK (vs.filterMap asI)).2.1 (cK (vs.filterMap asI)).2.2)
 |3=>if vs.filterMap asS=[] then none else some (.texts (fE (vs.filterMap asS)))
 |4=>if vs.filterMap asL=[] then none else some (.lists (fH (zAV (vs.filterMap asL))) (fV (zAV (vs.filterMap asL))) (D (vs.filterMap asL).flatten))
 |5=>if vs.filterMap asD=[] then none else some (dcP D (vs.filterMap asD))
 |_=>none
noncomputable def eV:Nat->List Tv->List Pt
 |0,_=>[]
 |n+1,vs=>kN6.filterMap (cB (eV n) vs)
end L2
namespace My
open PySem L2 PyProof.Rows WordM
def top(i:Nat):Stmt:=PySem.Challenge.pw_leastform_k51_samples_of_single_values.main.body.getD i (.Pass ⟨0,0,0,0⟩)
abbrev s0_:Stmt:=top 4
abbrev s1_:Stmt:=top 6
abbrev s2_:Stmt:=top 13
abbrev s3_:Stmt:=top 27
abbrev s4_:Stmt:=top 31
abbrev s5_:Stmt:=top 33
abbrev s6_:Stmt:=top 36
abbrev s7_:Stmt:=top 37
abbrev s8_:Stmt:=top 38
abbrev s9_:Stmt:=top 39
abbrev uA:Stmt:=top 41
abbrev tZ:Stmt:=top 42
abbrev tY:Stmt:=top 43
abbrev tX:Stmt:=top 44
abbrev zBe:Stmt:=top 45
abbrev zBd:Stmt:=top 46
abbrev zBc:Stmt:=top 47
abbrev tW:Stmt:=top 48
abbrev tV:Stmt:=top 50
abbrev tU:Stmt:=top 51
abbrev tT:Stmt:=top 52
abbrev tS:Stmt:=top 53
abbrev zBb:Stmt:=top 54
abbrev tR:Stmt:=top 55
abbrev zBa:Stmt:=top 56
abbrev tP:Stmt:=top 57
abbrev tO:Stmt:=top 58
abbrev pA:Stmt:=top 59
abbrev mB:Stmt:=top 60
abbrev zA9:Stmt:=top 61
abbrev kR:Stmt:=top 62
abbrev zA8:Stmt:=top 63
abbrev tN:Stmt:=top 64
abbrev fG:Stmt:=top 65
abbrev kQ:Stmt:=top 66
abbrev kP:Stmt:=top 67
abbrev oZ:Stmt:=top 68
abbrev tM:Stmt:=top 69
abbrev gO:Stmt:=top 70
section
variable{P:Program}{w:World}{K:W.Frag}{mg:Str->Option Value}{base:Heap}
theorem _root_.L2.On.put{p c:Addr}{H:Hp}(d:DeckAt H p c)(S k:Int):On p c H (upd H p (.lst [.ref c,.int S,.int k])):=by
 obtain⟨ns,e',l⟩:=d.cs
 exact⟨⟨d.ne,⟨S,k,aT⟩,ns,by rw[aY d.ne.symm];exact e',l⟩,λb o h hp _=>by rw[aY hp];exact h⟩
theorem _root_.L2.On.cut{p c:Addr}{H:Hp}(d:DeckAt H p c)(ns:List Int)(h:ns.length<=64):On p c H (upd H c (.lst (ns.map V.int))):=by
 obtain⟨S,k,e⟩:=d.dk
 exact⟨⟨d.ne,⟨S,k,by rw[aY d.ne];exact e⟩,ns,aT,h⟩,λb o h _ hc=>by rw[aY hc];exact h⟩
theorem zDD(ns:List Int):(ns.map V.int).all cN=true:=by
 rw[List.all_map]
 exact List.all_eq_true.mpr λ_ _=>rfl
theorem zEI(ns:List Int):eS (ns.map V.int) []=ns.isEmpty:=by cases ns<;>rfl
theorem sc_mixed:bN ["_law_number_here","_law_k"] ["_law_number_here","_law_k"] (aI uA):=fsc (by decide +kernel)
theorem zF3(h:Has K mg "_law_mixed" uA):Good P w K mg base 1 "_law_mixed" ["_law_number_here","_law_k"] zA:=by
 refine h.good sc_mixed (fun|_,_,_,_,_,_,[_,_],_=>rfl) (λvs H Q E q=>?_) (λf cdv A outer s H vs Q E hr q=>?_)
 ·obtain⟨n,k,rfl,_⟩:=q
  rfl
 ·obtain⟨n,k,rfl,q⟩:=q
  have nd:=sc_mixed.nd
  refine⟨_,(eB (hX (i:=0) nd rfl (by first|exact Or.inl rfl|exact Or.inr rfl) (bX gE (bX op_mul (bX op_add (bX op_add (bX gE (pv 0) bQ) (bX op_mul bQ (pv 1))) bQ) bQ) bQ))
   (eB (hX (i:=0) nd rfl (by first|exact Or.inl rfl|exact Or.inr rfl) (bX gE (bX op_add (bX op_add (bX op_mul (pv 0) (pv 0)) (bX op_mul bQ (pv 1))) bQ) bQ))
   (iP (iQ (bX zN (bX gE (bX op_mul (bX op_add (bX op_mul (bX gE (pv 0) bQ) bQ) (bX zN (pv 0) bQ)) bQ) bQ) bQ))))),?_⟩
  refine⟨_,rfl,_,_,rfl,rfl,(by show(0:Int)<_;decide),_,rfl,_,_,rfl,rfl,.inl ⟨by decide,by decide⟩,_,_,rfl,rfl,_,_,rfl,rfl,_,_,rfl,rfl,.inr ⟨by decide,by decide⟩,_,_,rfl,rfl,(by show(0:Int)<_;decide),?_⟩
  refine⟨_,rfl,_,rfl,_,_,rfl,rfl,?c,_,rfl,_,_,rfl,rfl,.inl ⟨by decide,by decide⟩,_,_,rfl,rfl,_,_,rfl,rfl,_,_,rfl,rfl,(by show(0:Int)<_;decide),?_⟩
  case c=>
   refine .inl ⟨?_,?_⟩
   ·exact Int.lt_of_lt_of_le (by decide) (Int.emod_nonneg _ (by decide))
   ·exact Int.lt_trans (Int.emod_lt_of_pos _ (by decide)) (by decide)
  refine⟨_,rfl,_,_,rfl,rfl,(by show(0:Int)<_;decide),_,_,rfl,rfl,.inr ⟨by decide,by decide⟩,_,rfl,_,_,rfl,rfl,⟨by decide,by decide⟩,_,_,rfl,rfl,_,_,rfl,rfl,.inr ⟨by decide,by decide⟩,_,_,rfl,rfl,(by show(0:Int)<_;decide),_,_,rfl,rfl,⟨by decide,by decide⟩,?_⟩
  exact q _
theorem sc_deck:bN ["_law_script","_law_cells"] ["_law_script"] (aI tZ):=fsc (by decide +kernel)
theorem zIV(ns:List Int):eW (ns.map V.int) none (some 63)=(ns.take 63).map V.int:=by
 unfold eW
 have e1:HT.sIx (ns.map V.int).length 0 none=0:=rfl
 rw[e1,List.drop_zero,Nat.sub_zero,List.map_take]
 by_cases h:ns.length<=63
 ·rw[List.take_of_length_le (by simp[HT.sIx]<;>omega),List.take_of_length_le (by simpa using h)]
 ·congr 1
  simp[HT.sIx]<;>omega
theorem zHN(h:Has K mg "_law_deck" tZ)(B:Own mg):Good P w K mg base 1 "_law_deck" ["_law_script"] (zAp K):=by
 refine h.good sc_deck (fun|_,_,_,_,_,_,[_],_=>rfl) (λvs H Q E q=>?_) (λf cdv A outer s H vs Q E hr q=>?_)
 ·obtain⟨a,ns,rfl,_⟩:=q
  rfl
 ·obtain⟨a,ns,rfl,hS,q⟩:=q
  have nd:=sc_deck.nd
  refine⟨_,(eB (hX (i:=1) nd rfl (by first|exact Or.inl rfl|exact Or.inr rfl) (iK uY rfl B.list_ boot_list (cJ (xU sl_list (pv 0) zH (zG bQ)) cT)))
   (iP (iQ (@zL _ _ _ _ (@uE _ _ _ _ _ (zHg (pv 1) (zAQ zAj bQ)) (@uE _ _ _ _ _ (bX op_add (gZ (zDK rfl) rfl B.sum boot_sum (cJ (pv 1) cT)) (bX op_mul bQ (gZ call_len_seq rfl B.len PySem.boot_len (cJ (pv 1) cT)))) (@uE _ _ _ _ _ bQ zAt rfl) rfl) rfl))))),?_⟩
  refine⟨_,rfl,_,rfl,a,_,rfl,hS,λl1 h1=>?_⟩
  have e1:upd H l1 (.lst (eW (ns.map V.int) none (some 63)))=upd H l1 (.lst ((ns.take 63).map V.int)):=by rw[zIV]
  rw[e1]
  refine⟨l1,_,rfl,.inl (SqL.of aT),λl2 h2=>?_⟩
  refine⟨_,rfl,_,rfl,rfl,l2,_,rfl,SqL.of aT,λl3 h3=>?_⟩
  have n23:l2≠l3:=cS aT h3
  refine⟨_,rfl,l2,ns.take 63,rfl,SqL.of (by rw[aY n23];exact aT),_,rfl,l2,_,rfl,.inl (SqL.of (by rw[aY n23];exact aT)),_,_,rfl,rfl,.inl ⟨by decide,by decide⟩,_,_,rfl,rfl,(by show 3<=sizeLine;decide),λl4 h4=>?_⟩
  have n34:l3≠l4:=cS aT h4
  have f1:∀b o,H b=some o->upd H l1 (.lst ((ns.take 63).map V.int)) b=some o:=λb o e=>by rw[aY (cS e h1)];exact e
  have s1:Same H (upd H l1 (.lst ((ns.take 63).map V.int))):=f1
  have s2:Same H (upd (upd H l1 (.lst ((ns.take 63).map V.int))) l2 (.lst ((ns.take 63).map V.int))):=λb o e=>by rw[aY (cS (s1 b o e) h2)];exact s1 b o e
  have s3:Same H (upd (upd (upd H l1 (.lst ((ns.take 63).map V.int))) l2 (.lst ((ns.take 63).map V.int))) l3 (.lst ((ns.take 63).map V.int).reverse)):=λb o e=>by rw[aY (cS (s2 b o e) h3)];exact s2 b o e
  refine q l4 l3 _ (s3.free h4) (s2.free h3) ⟨n34.symm,⟨_,_,aT⟩,(ns.take 63).reverse,?_,?_⟩ λb o e=>?_
  ·rw[aY n34,aT,List.map_reverse]
  ·rw[List.length_reverse,List.length_take];omega
  ·rw[aY (cS (s3 b o e) h4)];exact s3 b o e
theorem sc_take:bN ["_law_deck_here","_law_most","_law_cell"] ["_law_deck_here","_law_most"] (aI tY):=fsc (by decide +kernel)
theorem zHK(h:Has K mg "_law_take" tY)(G10_:Good P w K mg base 1 "_law_mixed" ["_law_number_here","_law_k"] zA):Good P w K mg base 2 "_law_take" ["_law_deck_here","_law_most"] zAo:=by
 refine h.good sc_take (fun|_,_,_,_,_,_,[_,_],_=>rfl) (λvs H Q E q=>?_) (λf cdv A outer s H vs Q E hr q=>?_)
 ·obtain⟨p,c,m,rfl,_⟩:=q
  rfl
 ·obtain⟨p,c,m,rfl,d,hm,hB,q⟩:=q
  have nd:=sc_take.nd
  have hu:=Nat.lt_of_succ_lt (zAW hr)
  obtain⟨hne,⟨S,k,hp⟩,ns,hc,hl⟩:=id d
  refine⟨_,(eB (zG7 (bX op_add (gJ ix_list (pv 0) bQ (λ_ _=>rfl)) bQ) (zHb (pv 0) bQ zEb))
   (eB (lT (rJ (zHu hu) (gJ ix_list (pv 0) bQ (λ_ _=>rfl)) (@zL _ _ _ _ zAt) (kB _))
    (iP (iQ (bX gE (lU G10_ (hr.mono (by first|decide|omega)) rfl (cJ (gJ ix_list (pv 0) bQ (λ_ _=>rfl)) (cJ (gJ ix_list (pv 0) bQ (λ_ _=>rfl)) cT))) (pv 1))))
    jU)
   (eB (hX (i:=2) nd rfl (by first|exact Or.inl rfl|exact Or.inr rfl) (zHk PySem.F.plainAttrs_list PySem.F.slot_list_pop PySem.F.type_list_pop zHx (gJ ix_list (pv 0) bQ (λ_ _=>rfl))))
   (eB (lT (rJ op_lt (pv 2) (bX zAy bQ bQ) (kB _))
    (iP (iQ (bX gE (lU G10_ (hr.mono (by first|decide|omega)) rfl (cJ (pv 2) (cJ (gJ ix_list (pv 0) bQ (λ_ _=>rfl)) cT))) (pv 1))))
    jU)
   (eB (zF (lV PySem.F.plainAttrs_list PySem.F.slot_list_append PySem.F.type_list_append qE (gJ ix_list (pv 0) bQ (λ_ _=>rfl)) (cJ (bX xX (pv 2) (pv 1)) cT)))
   (iP (iQ (bX gE (pv 2) (pv 1))))))))),?_⟩
  -- deck[2]=deck[2]+1
  refine⟨_,rfl,p,_,_,_,rfl,rfl,SqL.of hp,rfl,_,_,rfl,rfl,_,rfl,p,_,_,2,rfl,rfl,hp,rfl,?_⟩
  have o1:On p c H (upd H p (.lst [.ref c,.int S,.int (k+1)])):=On.put d S (k+1)
  have hc1:upd H p (.lst [.ref c,.int S,.int (k+1)]) c=some (.lst (ns.map V.int)):=by rw[aY hne.symm];exact hc
  -- if deck[0]==[]
  refine⟨_,rfl,p,_,_,_,rfl,rfl,SqL.of aT,rfl,Nat.zero_le _,λl hfree=>?_⟩
  have npl:p≠l:=(o1.d.nep hfree).symm
  have ncl:c≠l:=(o1.d.nec hfree).symm
  have o2:=o1.alloc (o:=.lst []) hfree
  have hp2:upd (upd H p (.lst [.ref c,.int S,.int (k+1)])) l (.lst []) p=some (.lst [.ref c,.int S,.int (k+1)]):=by rw[aY npl];exact aT
  have hc2:upd (upd H p (.lst [.ref c,.int S,.int (k+1)])) l (.lst []) c=some (.lst (ns.map V.int)):=by rw[aY ncl];exact hc1
  refine⟨c,l,_,[],rfl,rfl,SqL.of hc2,SqL.of aT,zDD ns,rfl,_,rfl,?_⟩
  rw[show(if false=true then !eS (ns.map V.int) [] else eS (ns.map V.int) [])=ns.isEmpty from zEI ns]
  have fin:∀r H',On p c H H'->Q (.int (r % m)) H':=λr H' o=>q (r % m) H' (Int.emod_nonneg _ (by omega)) (Int.emod_lt_of_pos _ hm) o
  rcases List.eq_nil_or_concat ns with e|⟨init,z,e⟩
  ·subst e
   refine aZ ?_
   refine⟨_,rfl,p,_,_,_,rfl,rfl,SqL.of hp2,rfl,_,rfl,p,_,_,_,rfl,rfl,SqL.of hp2,rfl,_,_,rfl,λr=>?_⟩
   exact⟨_,rfl,_,_,rfl,rfl,hm,fin r _ o2⟩
  ·rw[List.concat_eq_append]at e
   subst e
   rw[show(init++[z]).isEmpty=false by simp]
   refine aK ?_
   have hlast:((init++[z]).map V.int)[((init++[z]).map V.int).length-1]?=some (.int z):=by simp
   have hdrop:((init++[z]).map V.int).dropLast=init.map V.int:=by simp
   -- cell=deck[0].pop()
   refine⟨_,rfl,p,_,_,_,rfl,rfl,SqL.of hp2,rfl,.inl ⟨rfl,_,SqL.of hc2⟩,c,_,_,rfl,rfl,hc2,hlast,?_⟩
   rw[hdrop]
   have hli:init.length<=63:=by rw[List.length_append,List.length_singleton]at hl;omega
   have o3:=o2.trans (On.cut o2.d init (by omega))
   have hp3:upd (upd (upd H p (.lst [.ref c,.int S,.int (k+1)])) l (.lst [])) c (.lst (init.map V.int)) p=some (.lst [.ref c,.int S,.int (k+1)]):=by rw[aY hne];exact hp2
   -- if cell<10 ** 18
   refine⟨_,rfl,_,_,rfl,rfl,⟨by decide,by decide,by decide⟩,_,_,rfl,rfl,_,rfl,?_⟩
   refine zJC (λ_=>?_) (λ_=>?_)
   ·refine⟨_,rfl,_,rfl,p,_,_,_,rfl,rfl,SqL.of hp3,rfl,_,_,rfl,λr=>?_⟩
    exact⟨_,rfl,_,_,rfl,rfl,hm,fin r _ o3⟩
   ·refine⟨_,rfl,p,_,_,_,rfl,rfl,SqL.of hp3,rfl,.inl ⟨rfl,_,SqL.of aT⟩,_,rfl,_,rfl,_,_,rfl,rfl,⟨hm,hB⟩,c,_,_,rfl,rfl,aT,zC6 (by rw[List.length_map];omega),?_⟩
    rw[show init.map V.int++[V.int (z / m)]=(init++[z / m]).map V.int by simp]
    have o4:=o3.trans (On.cut o3.d (init++[z / m]) (by rw[List.length_append,List.length_singleton];omega))
    exact⟨_,rfl,_,rfl,_,_,rfl,rfl,hm,fin z _ o4⟩
end
end My
namespace My
open PySem L2 PyProof.Rows WordM
section
variable{P:Program}{w:World}{K:W.Frag}{mg:Str->Option Value}{base:Heap}
def nK:PSp:=λas R=>as=[]/\R (sT SIG)
theorem C13_:bN ["_law_signs_here"] [] (aI tX):=fsc (by decide +kernel)
theorem zJ5(h:Has K mg "_law_signs" tX)(B:Own mg)    : aE P w K mg base 1 "_law_signs" [] nK:=by
 have nd:=C13_.nd
 refine h.pgood C13_ (fun|_,_,_,_,_,_,[],_=>rfl) (λf cdv A outer s H E F hr=>
   (aG (bA 0 nd aO)
   (aJ (aM (aX cI (aA 0) aO))))) (λas R q=>?_)
 obtain⟨rfl,q⟩:=q
 exact⟨rfl,show sigA.length+sigB.length<=100000 by decide +kernel,q⟩
def lM:PSp:=λas R=>∃m:Int,as=[.dk,.va (iT m)]/\0<=m/\m<=1000/\∀x:Str,Sg x->(x.length:Int)<=m->R (sT x)
theorem zHU{z:Str}{r:Int}(h0:0<=r)(h1:r<z.length):∃c,atI z.cps.toList r=some c/\c∈cs z:=by
 have hl:r.toNat<(cs z).length:=by rw[<-WordM.len];omega
 refine⟨(cs z)[r.toNat],?_,List.getElem_mem hl⟩
 have:=fP (xs:=cs z) (j:=r.toNat) (List.getElem?_eq_getElem hl)
 rw[show((r.toNat:Nat):Int)=r by omega]at this
 exact this
theorem kT{α:Type}{l:List α}{r:Int}(h0:0<=r)(h1:r<l.length):∃m,atI l r=some m/\m∈l:=by
 have hl:r.toNat<l.length:=by omega
 refine⟨l[r.toNat],?_,List.getElem_mem hl⟩
 have:=fP (xs:=l) (j:=r.toNat) (List.getElem?_eq_getElem hl)
 rw[show((r.toNat:Nat):Int)=r by omega]at this
 exact this
theorem zJ4(h:Has K mg "_law_text" zBe)(B:Own mg)(G13_:aE P w K mg base 1 "_law_signs" [] nK)(G12_:aE P w K mg base 2 "_law_take" ["_law_deck_here","_law_most"] gD)   : aE P w K mg base 3 "_law_text" ["_law_deck_here","_law_most"] lM:=by
 refine h.pg2 ["_law_deck_here","_law_most","_law_signs_here","_law_some","_law_text_here","_law_k"] (λnd hr=>
   (aG (bA 2 nd (zAl G13_ (hr.mono (by omega)) rfl))
   (aG (bA 3 nd (aN hr (aP (bS (aB (aA 2) (aB (aA 2) (aB aO (aB aO (aB aO (aB aO aC)))))))) (aL G12_ hr (bD 0 (aB aD aC)))))
   (aG (bA 4 nd aO)
   (aG (hJ (m:=6) PassesOwn.never rfl (jK rfl B.range (aB (aL G12_ hr (bD 0 (aB (aX cI (aA 1) aD) aC))) aC)) (dH 5 (by decide) nd rfl (.inl rfl))
    (aJ (bA 4 nd (aX cI (aA 4) (aN hr (aA 3) (aL G12_ hr (bD 0 (aB (bW eC rfl B.len PySem.boot_len (aB (aA 3) aC)) aC))))))))
   (aJ (aM (aA 4)))))))) (λas R q=>?_)
 obtain⟨m,rfl,m0,m1,q⟩:=q
 refine⟨rfl,rfl,?_⟩
 refine⟨by decide,rfl,6,rfl,by decide,bR (by decide) (by decide),λr r0 r6=>?_⟩
 obtain⟨z,hz,hzm⟩:=kT (l:=[sT SIG,sT SIG,sT "0123456789",sT "abc",sT "XYZ",sT "a1"]) r0 r6
 refine⟨z,hz,?_⟩
 have hzs:∃y,z=sT y/\Sg y/\0<y.length/\y.length<=100:=by
  simp only[List.mem_cons,List.not_mem_nil,or_false]at hzm
  rcases hzm with e|e|e|e|e|e<;>subst e
  ·exact⟨_,rfl,λ_ h=>h,by decide +kernel,by decide +kernel⟩
  ·exact⟨_,rfl,λ_ h=>h,by decide +kernel,by decide +kernel⟩
  ·exact⟨_,rfl,by decide +kernel,by decide +kernel,by decide +kernel⟩
  ·exact⟨_,rfl,by decide +kernel,by decide +kernel,by decide +kernel⟩
  ·exact⟨_,rfl,by decide +kernel,by decide +kernel,by decide +kernel⟩
  ·exact⟨_,rfl,by decide +kernel,by decide +kernel,by decide +kernel⟩
 clear hz hzm
 obtain⟨y,rfl,y1,y2,y3⟩:=hzs
 refine⟨rfl,m+1,rfl,by omega,bR (by omega) (by omega),λn n0 n1=>⟨n,rfl,by omega,by omega,?_⟩⟩
 refine lC (λi ρ=>∃(x:Str) (s:Sl),Sg x/\x.length=i/\ρ=[.dk,.va (iT m),.va (sT SIG),.va (sT y),.va (sT x),s]) ⟨⟨#[]⟩,.no,zGJ,rfl,rfl⟩ ?_ ?_
 ·rintro i T _ N hT ⟨x,s,sx,lx,rfl⟩ hN
  have hi:=(lA hT).1
  refine⟨rfl,by omega,?_⟩
  refine⟨y.length,rfl,by omega,bR (by omega) (by omega),λk k0 k1=>⟨by omega,?_⟩⟩
  obtain⟨c,hc,hcm⟩:=zHU (z:=y) k0 k1
  refine⟨c,hc,by show x.length+1<=100000;omega,hN _ ⟨x++⟨#[c]⟩,_,sx.app (y1.one hcm),?_,rfl⟩⟩
  rw[WordM.len,WordM.app,List.length_append,<-WordM.len,lx]
  rfl
 ·rintro _ ⟨x,s,sx,lx,rfl⟩
  refine q x sx ?_
  rw[lx,iN]
  omega
end
section
variable{P:Program}{w:World}{K:W.Frag}{mg:Str->Option Value}{base:Heap}
theorem zGH(a:Int):Sg ⟨#[eF a]⟩:=λcc hc=>by
 have e:cc=eF a:=by simpa using hc
 rw[e]
 exact zC9 _
def zBs(m:Int)(ss:List Str):Prop:=ss.Nodup/\∀s∈ss,Sg s/\(s.length:Int)<=(if m<1 then 1 else m)
def qQ:PSp:=λas R=>∃n m:Int,as=[.dk,.va (iT n),.va (iT m)]/\0<=n/\n<=63/\0<=m/\m<=1000/\∀ss:List Str,(ss.length:Int)=n->zBs m ss->R (.seq false (ss.map sT))
theorem zJ3(h:Has K mg "_law_unlike" zBd)(B:Own mg)(G13_:aE P w K mg base 1 "_law_signs" [] nK)(G14_:aE P w K mg base 3 "_law_text" ["_law_deck_here","_law_most"] lM)   : aE P w K mg base 4 "_law_unlike" ["_law_deck_here","_law_many","_law_most"] qQ:=by
 refine h.pg3 ["_law_deck_here","_law_many","_law_most","_law_signs_here","_law_found","_law_k","_law_text_here","_law_at"] (λnd hr=>
   (aG (bA 3 nd (zAl G13_ (hr.mono (by omega)) rfl))
   (aG (iZ 4 nd (bS aC))
   (aG (hJ (m:=8) PassesOwn.never rfl (jK rfl B.range (aB (aA 1) aC)) (dH 5 (by decide) nd rfl (.inl rfl))
    (aG (bA 6 nd (aL G14_ hr (bD 0 (aB (aA 2) aC))))
    (aG (bA 7 nd (lH PySem.F.slot_str_find PySem.F.type_str_find zFA (aA 3) (aB (gY iC (aA 6) hE (hC aD)) aC)))
    (aG (qM PassesOwn.never (lD λF=>(eE (iW hr.units) (aA 6) (aA 4) rfl))
     (aG (bA 7 nd (aX nY (aX cI (aA 7) aD) (bW eC rfl B.len PySem.boot_len (aB (aA 3) aC))))
     (aJ (bA 6 nd (aX cI (aN hr (aA 3) (aA 7)) (gY iC (aA 6) (hC aD) hE))))))
    (aJ (fA (fY 4 (aA 6))))))))
   (aJ (aM (aA 4))))))) (λas R q=>?_)
 obtain⟨n,m,rfl,n0,n63,m0,m1,q⟩:=q
 have hsl:SIG.length=94:=rF
 refine⟨rfl,rfl,by decide,n,rfl,by omega,by omega,?_⟩
 refine lC (λi ρ=>∃(ss:List Str) (s5 s6 s7:Sl),ss.length=i/\zBs m ss/\ρ=[.dk,.va (iT n),.va (iT m),.va (sT SIG),.own (ss.map sT),s5,s6,s7]) ⟨[],.no,.no,.no,rfl,⟨List.nodup_nil,λs hs=>nomatch hs⟩,rfl⟩ ?_ ?_
 ·rintro i T _ N hT ⟨ss,s5,s6,s7,hlen,htx,rfl⟩ hN
  obtain⟨hi,rfl⟩:=lA hT
  refine⟨rfl,m,rfl,m0,m1,λx0 sx0 hx0=>?_⟩
  refine⟨rfl,1,rfl,by omega,SIG,_,rfl,rfl,λa0=>?_⟩
  let r:Str:=Txt.slice x0 (some 1) none
  have hr1:r.length+1<=(if x0.length<1 then 1 else x0.length):=zCm x0
  have sr:Sg r:=sx0.slice _ _
  refine⟨λM ρ=>∃(j:Nat) (x:Str),M+j=ss.length+2/\j<=ss.length+1/\(∀i,1<=i->i<j->eG a0 r i∈ss)/\(j=0/\x=x0\/1<=j/\x=eG a0 r j) /\
    ρ=[.dk,.va (iT n),.va (iT m),.va (sT SIG),.own (ss.map sT),.va (iT (0+(i:Int))),.va (sT x),.va (iT (if j=0 then a0 else(a0+j) % 94))],
   ⟨ss.length+2,0,x0,rfl,Nat.zero_le _,λi h1 h2=>absurd h2 (Nat.not_lt_zero _),.inl ⟨rfl,rfl⟩,rfl⟩,?_⟩
  rintro M _ ⟨j,x,hM,hj,htr,hx,rfl⟩
  have hxl:Sg x/\(x.length:Int)<=(if m<1 then 1 else m)/\Txt.slice x (some 1) none=r:=by
   rcases hx with⟨_,rfl⟩|⟨_,rfl⟩
   ·refine⟨sx0,?_,rfl⟩
    split<;>omega
   ·refine⟨Sg.app (zGH _) sr,?_,zCl⟩
    have:(eG a0 r j).length=r.length+1:=by
     unfold eG
     rw[WordM.len,WordM.app,WordM.len,List.length_append]
     simp
     omega
    rw[this]
    split at hr1<;>split<;>omega
  obtain⟨sx,hxm,hxr⟩:=hxl
  have hx1000:x.length<=1000:=by split at hxm<;>omega
  refine⟨qX,_,rfl,?_⟩
  rw[nR]
  refine sif (λh1=>?_) (λh1=>?_)
  ·have h1:x∈ss:=by simpa using h1
   have hall:∀i,1<=i->i<=j->eG a0 r i∈ss:=λi i1 i2=>by
    rcases Nat.lt_or_eq_of_le i2 with z|z
    ·exact htr i i1 z
    ·rcases hx with⟨z0,_⟩|⟨_,e⟩
     ·omega
     ·rw[z,<-e];exact h1
   have hjs:j<=ss.length:=zD5 (by omega) hall
   have hmod:((if j=0 then a0 else(a0+(j:Int)) % 94)+1) % 94=(a0+((j+1:Nat):Int)) % 94:=by
    split
    ·rename_i z;subst z;congr 1
    ·push_cast;omega
   have hsl':((SIG.length:Nat):Int)=94:=by rw[hsl];rfl
   have e1:((if j=0 then a0 else(a0+(j:Int)) % 94)+1) % ((SIG.length:Nat):Int)=(a0+((j+1:Nat):Int)) % 94:=by rw[hsl',hmod]
   have hat:atI SIG.cps.toList (((if j=0 then a0 else(a0+(j:Int)) % 94)+1) % ((SIG.length:Nat):Int))=some (eF (a0+((j+1:Nat):Int))):=by
    rw[e1]
    have b1:=Int.emod_lt_of_pos (a0+((j+1:Nat):Int)) (show(0:Int)<94 by decide)
    have b2:=Int.emod_nonneg (a0+((j+1:Nat):Int)) (show(94:Int)≠0 by decide)
    have hlt:((a0+((j+1:Nat):Int)) % 94).toNat<(cs SIG).length:=by rw[<-WordM.len];omega
    have:=fP (xs:=cs SIG) (j:=((a0+((j+1:Nat):Int)) % 94).toNat) (List.getElem?_eq_getElem hlt)
    rw[show((((a0+((j+1:Nat):Int)) % 94).toNat:Nat):Int)=(a0+((j+1:Nat):Int)) % 94 by omega]at this
    rw[this]
    unfold eF
    rw[List.getD_eq_getElem?_getD,List.getElem?_eq_getElem hlt]
    rfl
   refine⟨by omega,by omega,by omega,_,hat,1,rfl,by omega,?_,?_⟩
   ·show 1+(Txt.slice x (some 1) none).length<=100000
    rw[hxr]
    split at hr1<;>omega
   ·refine⟨ss.length+2-(j+1),by omega,j+1,eG a0 r (j+1),by omega,by omega,λi i1 i2=>hall i i1 (by omega),.inr ⟨by omega,rfl⟩,?_⟩
    show [Sl.dk,.va (iT n),.va (iT m),.va (sT SIG),.own (ss.map sT),.va (iT (0+(i:Int))),.va (sT ((⟨#[eF (a0+((j+1:Nat):Int))]⟩:Str)++Txt.slice x (some 1) none)),.va (iT (((if j=0 then a0 else(a0+(j:Int)) % 94)+1) % ((SIG.length:Nat):Int)))]=_
    rw[e1,if_neg (by omega),hxr]
    rfl
  ·have h1:x∉ss:=by simpa using h1
   refine⟨⟨_,rfl⟩,_,rfl,by rw[List.length_map];omega,hN _ ⟨ss++[x],.va (iT (0+(i:Int))),.va (sT x),.va (iT (if j=0 then a0 else(a0+j) % 94)),by rw[List.length_append,hlen];rfl,⟨?_,λs hs=>?_⟩,?_⟩⟩
   ·rw[List.nodup_append]
    exact⟨htx.1,by simp,λa ha b hb=>by rw[List.mem_singleton]at hb;subst hb;rintro rfl;exact h1 ha⟩
   ·rcases List.mem_append.mp hs with z|z
    ·exact htx.2 s z
    ·rw[List.mem_singleton]at z;subst z;exact⟨sx,hxm⟩
   ·rw[List.map_append];rfl
 ·rintro _ ⟨ss,s5,s6,s7,hlen,htx,rfl⟩
  rw[iN]at hlen
  exact q ss (by omega) htx
def tE:PSp:=λas R=>as=[.dk]/\∀r:Int,-(10 ^ 60)<r->r<10 ^ 60->R (iT r)
theorem zJ2(h:Has K mg "_law_far" zBc)(B:Own mg)(G12_:aE P w K mg base 2 "_law_take" ["_law_deck_here","_law_most"] gD)   : aE P w K mg base 3 "_law_far" ["_law_deck_here"] tE:=by
 refine h.pg1 ["_law_deck_here","_law_number_here","_law_k"] (λnd hr=>
   (aG (bA 1 nd aD)
   (aG (hJ (m:=3) PassesOwn.never rfl (jK rfl B.range (aB aD aC)) (dH 2 (by decide) nd rfl (.inl rfl))
    (aJ (bA 1 nd (aX cI (aX fN (aA 1) (aX lK aD aD)) (aL G12_ hr (bD 0 (aB (aX lK aD aD) aC)))))))
   (aJ (aM (aX cI (aX jX (aX nY (aA 1) (aX jX (aX fN aD (aX lK aD aD)) aD)) (aX lK aD aD)) aD)))))) (λas R q=>?_)
 obtain⟨rfl,q⟩:=q
 refine⟨rfl,8,rfl,by decide,by decide,?_⟩
 refine lC (λi ρ=>∃(x:Int) (s:Sl),0<=x/\x<10 ^ (8*i)/\ρ=[.dk,.va (iT x),s]) ⟨0,.no,by decide,by decide,rfl⟩ ?_ ?_
 ·rintro i T _ N hT ⟨x,s,x0,x1,rfl⟩ hN
  obtain⟨hi,rfl⟩:=lA hT
  have hi:i<8:=hi
  have xb:x<10 ^ 64:=Int.lt_of_lt_of_le x1 (by
   have:i=0\/i=1\/i=2\/i=3\/i=4\/i=5\/i=6\/i=7:=by omega
   rcases this with e|e|e|e|e|e|e|e<;>subst e<;>decide)
  refine⟨⟨by decide,by decide,by decide⟩,.inr ⟨bR (by omega) (by omega),bR (by decide) (by decide)⟩,rfl,⟨by decide,by decide,by decide⟩,10 ^ 8,rfl,by decide,bR (by decide) (by decide),λr r0 r1=>hN _ ⟨_,_,?_,?_,rfl⟩⟩
  ·show 0<=x*(10 ^ 8:Int)+r
   omega
  ·show x*(10 ^ 8:Int)+r<10 ^ (8*(i+1))
   have e:(10:Int) ^ (8*(i+1))=10 ^ (8*i)*10 ^ 8:=by rw[Nat.mul_add,Int.pow_add]
   rw[e]
   have h8:r<(10:Int) ^ 8:=r1
   generalize (10:Int) ^ (8*i)=y at x1
   omega
 ·rintro _ ⟨x,s,x0,x1,rfl⟩
  refine⟨⟨by decide,by decide,by decide⟩,.inl (.inl ⟨by decide,by decide⟩),(show(0:Int)<2*10 ^ 60-1 by decide),⟨by decide,by decide,by decide⟩,?_⟩
  have h1:=Int.emod_nonneg x (show(2*10 ^ 60-1:Int)≠0 by decide)
  have h2:=Int.emod_lt_of_pos x (show(0:Int)<2*10 ^ 60-1 by decide)
  refine q _ ?_ ?_
  ·show -(10 ^ 60)<x % (2*10 ^ 60-1)-10 ^ 60+1
   omega
  ·show x % (2*10 ^ 60-1)-10 ^ 60+1<10 ^ 60
   omega
end
section
variable{P:Program}{w:World}{K:W.Frag}{mg:Str->Option Value}{base:Heap}
structure nS (nm tx:List Str) (st sp:Int):Prop where
 n11:nm.length=11
 t9:tx.length=9
 nd:nm.Nodup
 ndt:tx.Nodup
 ns:∀s∈nm,Sg s/\s.length<=40
 ts:∀s∈tx,Sg s/\s.length<=43
 st1:-(10 ^ 57)<=st
 st2:st<=10 ^ 57
 sp1:1<=sp
 sp2:sp<=10 ^ 20
def fB(nm tx:List Str)(st sp:Int):Tv:=.seq false [.seq false (nm.map sT),.seq false (tx.map sT),iT st,iT sp]
def rK:PSp:=λas R=>as=[.dk]/\∀nm tx st sp,nS nm tx st sp->R (fB nm tx st sp)
theorem zGi{a b c:Str}(h:a++b=a++c):b=c:=by
 have:=congrArg cs h
 rw[WordM.app,WordM.app]at this
 exact jS (List.append_cancel_left this)
theorem zJ1(h:Has K mg "_law_world" tW)(B:Own mg)(G12_:aE P w K mg base 2 "_law_take" ["_law_deck_here","_law_most"] gD)(G15_:aE P w K mg base 4 "_law_unlike" ["_law_deck_here","_law_many","_law_most"] qQ)(G14_:aE P w K mg base 3 "_law_text" ["_law_deck_here","_law_most"] lM)(G16_:aE P w K mg base 3 "_law_far" ["_law_deck_here"] tE)   : aE P w K mg base 5 "_law_world" ["_law_deck_here"] rK:=by
 refine h.pg1 ["_law_deck_here","_law_most","_law_names","_law_head","_law_texts","_law_start"] (λnd hr=>
   (aG (bA 1 nd (aN hr (aP (bS (aB aD (aB aD (aB aD (aB aD (aB aD (aB aD (aB aD (aB aD aC)))))))))) (aL G12_ hr (bD 0 (aB aD aC)))))
   (aG (bA 2 nd (aL G15_ hr (bD 0 (aB aD (aB (aA 1) aC)))))
   (aG (bA 3 nd (aL G14_ hr (bD 0 (aB (aX fN aD (aL G12_ hr (bD 0 (aB aD aC)))) aC))))
   (aG (fU (sc:=aI tW) (XN:=["_law_deck_here","_law_most","_law_names","_law_head","_law_texts","_law_start"]) (N:=["_law_text_here","_law_head"]) (fr:=[3]) 4 nd (bO (aL G15_ hr (bD 0 (aB aD (aB (aA 1) aC))))) (λ_ _ _ _ _=>gA) (λ_ _ _ _ _=>(aX cI (aA 1) (aA 0))))
   (aG (bA 5 nd (aN hr (aP (bS (aB aD (aB aD (aB (zAI zAu aD) (aB (aX zD (aL G16_ hr (bD 0 aC)) aD) aC)))))) (aL G12_ hr (bD 0 (aB aD aC)))))
   (aJ (aM (aP (bS (aB (aA 2) (aB (aA 4) (aB (aA 5) (aB (aX cI aD (aL G12_ hr (bD 0 (aB (aN hr (aP (bS (aB aD (aB (aX lK aD aD) aC)))) (aL G12_ hr (bD 0 (aB aD aC)))) aC)))) aC)))))))))))))) (λas R q=>?_)
 obtain⟨rfl,q⟩:=q
 refine⟨rfl,by decide,rfl,8,rfl,by decide,bR (by decide) (by decide),λr r0 r1=>?_⟩
 obtain⟨M,hM,hMm⟩:=kT (l:=[iT 4,iT 3,iT 5,iT 1,iT 4,iT 3,iT 6,iT 40]) r0 r1
 have hm:∃m:Int,M=iT m/\1<=m/\m<=40:=by
  simp only[List.mem_cons,List.not_mem_nil,or_false]at hMm
  rcases hMm with e|e|e|e|e|e|e|e<;>subst e<;>exact⟨_,rfl,by decide,by decide⟩
 obtain⟨m,rfl,m1,m2⟩:=hm
 refine⟨_,hM,?_⟩
 clear hM hMm
 refine⟨rfl,11,m,rfl,by decide,by decide,by omega,by omega,λnm hnm tnm=>?_⟩
 refine⟨rfl,rfl,2,rfl,by decide,bR (by decide) (by decide),λr2 a0 a1=>⟨.inl (.inl ⟨by decide,by decide⟩),_,rfl,by omega,by omega,λhd shd lhd=>?_⟩⟩
 refine⟨rfl,9,m,rfl,by decide,by decide,by omega,by omega,λtx htx ttx=>⟨by rw[List.length_map];omega,?_⟩⟩
 have lt:∀s∈tx,Sg s/\s.length<=40:=λs hs=>by
  have:=ttx.2 s hs
  refine⟨this.1,?_⟩
  have:=this.2
  split at this<;>omega
 refine eM sT (λs=>sT (hd++s)) (λs hs R q=>?_) ?_
 ·have:=(lt s hs).2
  exact⟨show hd.length+s.length<=100000 by omega,q⟩
 refine⟨rfl,rfl,λfr fr0 fr1=>⟨⟨by decide,bR (by decide) (by decide)⟩,(show 4<=100000 by decide),rfl,4,rfl,by decide,bR (by decide) (by decide),λr3 b0 b1=>?_⟩⟩
 obtain⟨S,hS,hSm⟩:=kT (l:=[iT 0,iT 7,iT (-40),iT (fr / 1000)]) b0 b1
 have hs:∃st:Int,S=iT st /\ -(10 ^ 57)<=st/\st<=10 ^ 57:=by
  simp only[List.mem_cons,List.not_mem_nil,or_false]at hSm
  rcases hSm with e|e|e|e<;>subst e
  ·exact⟨_,rfl,by decide,by decide⟩
  ·exact⟨_,rfl,by decide,by decide⟩
  ·exact⟨_,rfl,by decide,by decide⟩
  ·exact⟨_,rfl,by omega,by omega⟩
 obtain⟨st,rfl,st1,st2⟩:=hs
 refine⟨_,hS,?_⟩
 clear hS hSm
 refine⟨rfl,⟨by decide,by decide,by decide⟩,by decide,rfl,2,rfl,by decide,bR (by decide) (by decide),λr4 c0 c1=>?_⟩
 obtain⟨W,hW,hWm⟩:=kT (l:=[iT 6,iT (10 ^ 20)]) c0 c1
 have hw:∃wi:Int,W=iT wi/\1<=wi/\wi<=10 ^ 20:=by
  simp only[List.mem_cons,List.not_mem_nil,or_false]at hWm
  rcases hWm with e|e<;>subst e<;>exact⟨_,rfl,by decide,by decide⟩
 obtain⟨wi,rfl,w1,w2⟩:=hw
 refine⟨_,hW,wi,rfl,by omega,bR (by omega) (by omega),λsp sp0 sp1=>⟨(show 4<=100000 by decide),?_⟩⟩
 have:=q nm (tx.map λs=>hd++s) st (1+sp) ⟨by omega,by rw[List.length_map];omega,tnm.1,?_,λs hs=>?_,λs hs=>?_,st1,st2,by omega,by omega⟩
 ·show R (.seq false [.seq false (nm.map sT),.seq false (tx.map λs=>sT (hd++s)),iT st,iT (1+sp)])
  rw[fB,List.map_map]at this
  exact this
 ·unfold List.Nodup
  rw[List.pairwise_map]
  exact ttx.1.imp λh e=>h (zGi e)
 ·have:=tnm.2 s hs
  refine⟨this.1,?_⟩
  have:=this.2
  split at this<;>omega
 ·obtain⟨z,hz,rfl⟩:=List.mem_map.mp hs
  refine⟨shd.app (lt z hz).1,?_⟩
  rw[WordM.len,WordM.app,List.length_append,<-WordM.len,<-WordM.len]
  have:=(lt z hz).2
  omega
theorem zAz{a b:Int}(h1:1<=a)(h2:a<=10 ^ 20)(h3:-100<=b)(h4:b<=100):-(10 ^ 22)<=a*b/\a*b<=10 ^ 22:=by
 have e1:a*b<=a*100:=Int.mul_le_mul_of_nonneg_left h4 (by omega)
 have e2:a*(-100)<=a*b:=Int.mul_le_mul_of_nonneg_left h3 (by omega)
 omega
end
section
variable{P:Program}{w:World}{K:W.Frag}{mg:Str->Option Value}{base:Heap}
theorem zCQ(b:Int)(h1:1<=b)(h2:b<=15):∃ms:List Str,([((1:Int),("figure":Str)),(2,"great"),(4,"other"),(8,"small")].filterMap λx=>if b / x.1 % 2=1 then some (sT x.2) else none)=ms.map sT/\ms.Sublist MK/\ms≠[]:=by
 have:b=1\/b=2\/b=3\/b=4\/b=5\/b=6\/b=7\/b=8\/b=9\/b=10\/b=11\/b=12\/b=13\/b=14\/b=15:=by omega
 rcases this with e|e|e|e|e|e|e|e|e|e|e|e|e|e|e<;>subst e
 ·exact⟨["figure"],rfl,by decide,by decide⟩
 ·exact⟨["great"],rfl,by decide,by decide⟩
 ·exact⟨["figure","great"],rfl,by decide,by decide⟩
 ·exact⟨["other"],rfl,by decide,by decide⟩
 ·exact⟨["figure","other"],rfl,by decide,by decide⟩
 ·exact⟨["great","other"],rfl,by decide,by decide⟩
 ·exact⟨["figure","great","other"],rfl,by decide,by decide⟩
 ·exact⟨["small"],rfl,by decide,by decide⟩
 ·exact⟨["figure","small"],rfl,by decide,by decide⟩
 ·exact⟨["great","small"],rfl,by decide,by decide⟩
 ·exact⟨["figure","great","small"],rfl,by decide,by decide⟩
 ·exact⟨["other","small"],rfl,by decide,by decide⟩
 ·exact⟨["figure","other","small"],rfl,by decide,by decide⟩
 ·exact⟨["great","other","small"],rfl,by decide,by decide⟩
 ·exact⟨["figure","great","other","small"],rfl,by decide,by decide⟩
structure MkD (h:Str) (a b:Int) (ms:List Str):Prop where
 h3:Sg h/\h.length<=3
 a0:0<=a
 a3:a<=3
 ab:a<=b
 b1:1<=b
 b6:b<=6
 sub:ms.Sublist MK
 ne:ms≠[]
theorem MkD.ok{h:Str}{a b:Int}{ms:List Str}(m:MkD h a b ms):eL (.make h a b ms):=⟨⟨m.h3.1,by have:=m.h3.2;omega⟩,m.a0,m.ab,m.b1,by have:=m.b6;omega,m.sub,m.ne⟩
def sM:PSp:=λas R=>as=[.dk]/\∀h a b ms,MkD h a b ms->R (fW (.make h a b ms))
theorem zJ0(h:Has K mg "_law_make" tV)(B:Own mg)(G12_:aE P w K mg base 2 "_law_take" ["_law_deck_here","_law_most"] gD)(G14_:aE P w K mg base 3 "_law_text" ["_law_deck_here","_law_most"] lM)   : aE P w K mg base 4 "_law_make" ["_law_deck_here"] sM:=by
 refine h.pg1 ["_law_deck_here","_law_least","_law_most","_law_bits","_law_marks","_law_some"] (λnd hr=>
   (aG (bA 1 nd (aL G12_ hr (bD 0 (aB aD aC))))
   (aG (bA 2 nd (bW (lL rfl) rfl B.max boot_max (aB aD (aB (aX cI (aA 1) (aL G12_ hr (bD 0 (aB aD aC)))) aC))))
   (aG (bA 3 nd (aX cI aD (aL G12_ hr (bD 0 (aB aD aC)))))
   (aG (bA 4 nd (aP (bS (aB aO (aB aO (aB aO (aB aO aC)))))))
   (aG (bA 5 nd (gW iO rfl B.tuple_ boot_tuple (aB (aP (rC (sc:=aI tV) (XN:=["_law_deck_here","_law_least","_law_most","_law_bits","_law_marks","_law_some"]) (N:=["_law_k","_law_mark_here","_law_bits"]) (own:=2) (fr:=[3]) rfl ⟨rfl,by decide +kernel,by decide +kernel,by decide +kernel,rfl,by decide +kernel,by decide,by decide +kernel⟩ (by decide) (zFb rfl B.enumerate (aB (aA 4) aC)) (λ_ _ _ _ _=>(zAk 2 rfl (mZ (dH 0 (by decide) (show(["_law_k","_law_mark_here","_law_bits"]:List Str).Nodup by decide +kernel) rfl (by first|exact Or.inl rfl|exact Or.inr rfl)) (mZ (dH 1 (by decide) (show(["_law_k","_law_mark_here","_law_bits"]:List Str).Nodup by decide +kernel) rfl (by first|exact Or.inl rfl|exact Or.inr rfl)) yU)))) (λ_ _ _ _ _=>(fS (cA hr (aX nY (aX zD (aA 2) (aN hr (aP (bS (aB aD (aB aD (aB aD (aB aD aC)))))) (aA 0))) aD) aD))) (λ_ _ _ _ _=>(aA 1)))) aC)))
   (aJ (aM (cC (aB aO (aB (aL G14_ hr (bD 0 (aB aD aC))) (aB (aA 1) (aB (aA 2) (aB (aA 5) aC)))))))))))))) (λas R q=>?_)
 obtain⟨rfl,q⟩:=q
 refine⟨rfl,rfl,4,rfl,by decide,bR (by decide) (by decide),λa a0 a1=>?_⟩
 refine⟨rfl,4,rfl,by decide,bR (by decide) (by decide),λc c0 c1=>.inl ⟨_,_,rfl,?_⟩⟩
 refine⟨rfl,15,rfl,by decide,bR (by decide) (by decide),λd d0 d1=>⟨by decide,?_⟩⟩
 obtain⟨ms,e,sub,ne⟩:=zCQ (1+d) (by omega) (by omega)
 refine⟨_,rfl,by decide,?_⟩
 refine jL (l:=[((1:Int),(0:Nat),("figure":Str)),(2,1,"great"),(4,2,"other"),(8,3,"small")]) (λx=>.seq true [iT (x.2.1:Nat),sT x.2.2]) (λx=>if (1+d) / x.1 % 2=1 then some (sT x.2.2) else none) (λx hx R q=>?_) ?_
 ·simp only[List.mem_cons,List.not_mem_nil,or_false]at hx
  rcases hx with rfl|rfl|rfl|rfl
  all_goals
   refine⟨_,rfl,rfl,_,_,rfl,_,_,rfl,rfl,by decide,_,rfl,⟨by decide,bR (by decide) (by decide)⟩,(show(0:Int)<2 by decide),_,rfl,?_⟩
   refine sif (λz=>?_) (λz=>?_)
   ·rw[if_pos (by simpa[eqV]using z)]at q;exact q
   ·rw[if_neg (by simpa[eqV]using z)]at q;exact q
 ·have e':([((1:Int),(0:Nat),("figure":Str)),(2,1,"great"),(4,2,"other"),(8,3,"small")].filterMap λx=>if (1+d) / x.1 % 2=1 then some (sT x.2.2) else none)=ms.map sT:=e
  rw[e']
  refine⟨_,_,rfl,rfl,3,rfl,by decide,by decide,λh sh lh=>⟨(show 5<=100000 by decide),q h a _ ms ⟨⟨sh,by omega⟩,a0,by omega,by omega,by omega,by omega,sub,ne⟩⟩⟩
theorem xT{α:Type}{ps rs tx:List α}{j:Nat}{x:α}(h:(ps++rs).Perm tx)(e:rs[j]?=some x):((ps++[x])++rs.eraseIdx j).Perm tx:=by
 obtain⟨hj,rfl⟩:=List.getElem?_eq_some_iff.mp e
 refine List.Perm.trans ?_ h
 rw[List.append_assoc]
 exact List.Perm.append_left _ (mP rs j hj)
theorem zHV{rs:List Str}{r:Int}(h0:0<=r)(h1:r<rs.length):∃x,rs[r.toNat]?=some x:=⟨rs[r.toNat]'(by omega),List.getElem?_eq_getElem _⟩
theorem qF{α β:Type}(f:α->β):∀(l:List α) (i:Nat),(l.map f).eraseIdx i=(l.eraseIdx i).map f
 |[],_=>by simp
 |_::_,0=>by simp
 |a::l,i+1=>by simp[qF f l i]
end
end My
namespace My
open PySem L2 PyProof.Rows WordM
section
variable{P:Program}{w:World}{K:W.Frag}{mg:Str->Option Value}{base:Heap}
def mM:PSp:=λas R=>∃(W:Wd) (x:Str),as=[.va (fW W),.va (sT x)]/\eL W/\Sg x/\x.length<=1000/\R (bT (dP W x))
end
end My
namespace My
open PySem L2 PyProof.Rows WordM
section
variable{P:Program}{w:World}{K:W.Frag}{mg:Str->Option Value}{base:Heap}
variable{n:Nat}
def zKb:List (Str×Str):=[("nothing","nothing"),("truths","truth"),("numbers","number"),("texts","text"),("lists","list"),("record","dict"),("table","dict")]
theorem at0{α:Type}{x:α}{r:List α}:atI (x::r) 0=some x:=fP (j:=0) rfl
theorem yM(p:Pt):∃r,aW p=.seq true (sT (cD p)::r)/\r.length<=4:=by
 cases p with
 |record a b fs=>exact⟨_,zCb a b fs,by simp⟩
 |lists a b f=>exact⟨_,zCI a b f,by simp⟩
 |table a b w f=>exact⟨_,zCH a b w f,by simp⟩
 |_=>rw[aW];exact⟨_,rfl,by simp⟩
theorem zAC(p:Pt):getS zKb (cD p)=some (tH (bF p)):=by
 cases p<;>rfl
theorem zDv{a b:Nat}(ha:a<=5)(hb:b<=5)(h:tH a=tH b):a=b:=by
 have h1:a=0\/a=1\/a=2\/a=3\/a=4\/a=5:=by omega
 have h2:b=0\/b=1\/b=2\/b=3\/b=4\/b=5:=by omega
 rcases h1 with e|e|e|e|e|e<;>subst e<;>rcases h2 with e|e|e|e|e|e<;>subst e<;>first|rfl|exact absurd h (by decide +kernel)
theorem qV(p:Pt):bF p<=5:=by cases p<;>simp[bF]
end
end My
namespace My
open PySem L2 PyProof.Rows WordM
section
variable{P:Program}{w:World}{K:W.Frag}{mg:Str->Option Value}{base:Heap}
open WordM ShowM
theorem letW_make{hd x:Str}{lo hi:Int}{ms:List Str}:dP (.make hd lo hi ms) x=true↔MkL cE (cs hd) lo hi ms (cs x):=by
 unfold dP MkL
 rw[Bool.and_eq_true,Bool.and_eq_true,Bool.and_eq_true,decide_eq_true_iff,decide_eq_true_iff,List.all_eq_true,stW_iff,WordM.len]
 constructor
 ·rintro⟨⟨r,e⟩,⟨h1,h2⟩,h3⟩
  rw[lB e]at h1 h2 h3
  exact⟨r,e,h1,h2,λc hc=>of_decide_eq_true (h3 c hc)⟩
 ·rintro⟨r,e,h1,h2,h3⟩
  rw[lB e]
  exact⟨⟨r,e⟩,⟨h1,h2⟩,λc hc=>decide_eq_true (h3 c hc)⟩
def tJ(W:Wd)(ts:List Str):Prop:=(∀t∈ts,dP W t=true/\Sg t/\t.length<=200)/\∀W2,eL W2->(∀t∈ts,dP W2 t=true)->∀x,dP W x=true->dP W2 x=true
theorem zDb{ss:List Str}(h:eL (.few ss)):tJ (.few ss) ss:=
 ⟨λt ht=>⟨decide_eq_true ht,(h.2.2.2 t ht).1,Nat.le_trans (h.2.2.2 t ht).2 (by decide)⟩,λW2 _ k x hx=>k x (of_decide_eq_true hx)⟩
theorem zCn{hd:Str}{lo hi:Int}{ms:List Str}{ts:List Str}(T:Tells cE (cs hd) lo hi ms (ts.map cs))(h:∀t∈ts,dP (.make hd lo hi ms) t=true/\Sg t/\t.length<=200):tJ (.make hd lo hi ms) ts:=by
 refine⟨h,λW2 ok k x hx=>?_⟩
 cases W2 with
 |few ss=>
  refine(T.few (ss:=ss.map cs) (by rw[List.length_map];exact ok.2.1) λy hy=>?_).elim
  obtain⟨t,ht,rfl⟩:=List.mem_map.mp hy
  exact List.mem_map.mpr ⟨t,of_decide_eq_true (k t ht),rfl⟩
 |make hd2 lo2 hi2 ms2=>
  rw[letW_make]at hx ⊢
  refine T.make (λy hy=>?_) _ hx
  obtain⟨t,ht,rfl⟩:=List.mem_map.mp hy
  exact letW_make.mp (k t ht)
def bY(c:Nat)(n:Int):Str:=gQ ⟨#[c]⟩ n
theorem dS(c:Nat)(n:Int):cs (bY c n)=List.replicate n.toNat c:=by
 show((List.replicate n.toNat [c]).flatten.toArray).toList=_
 rw[List.toList_toArray]
 induction n.toNat with
 |zero=>rfl
 |succ k ih=>rw[List.replicate_succ,List.flatten_cons,ih,List.replicate_succ];rfl
theorem rH(c:Nat)(n:Int):(bY c n).length=n.toNat:=by rw[WordM.len,dS,List.length_replicate]
theorem zGI{c:Nat}(h:c∈cs SIG)(n:Int):Sg (bY c n):=λd hd=>by
 rw[dS]at hd
 rw[(List.mem_replicate.mp hd).2]
 exact h
def dJ(m:Str):List Nat:=cs ((L2.getS SGN m).getD ⟨#[]⟩)
def sgM:List Str->List Nat
 |[]=>[]
 |m::r=>(dJ m).take 7++r.map λm=>(dJ m).headD 0
def zIO(ms:List Str):List Nat:=(cs SIG).filter λc=>decide (cE c∈ms)
structure oQ (ms:List Str) (G:List Nat):Prop where
 many:7<=G.length
 nd:G.Nodup
 cov:∀m∈ms,∃c∈G,cE c=m
 mine:∀c∈G,cE c∈ms
 sg:∀c∈G,c∈cs SIG
instance (ms:List Str) (G:List Nat):Decidable (oQ ms G):=
 decidable_of_iff (7<=G.length/\G.Nodup/\(∀m∈ms,∃c∈G,cE c=m)/\(∀c∈G,cE c∈ms)/\∀c∈G,c∈cs SIG) ⟨λ⟨a,b,c,d,e⟩=>⟨a,b,c,d,e⟩,λ⟨a,b,c,d,e⟩=>⟨a,b,c,d,e⟩⟩
def zA4(a b c d:Bool):List Str:=(if a then [("figure":Str)] else [])++((if b then [("great":Str)] else [])++((if c then [("other":Str)] else [])++(if d then [("small":Str)] else [])))
theorem nA{x:Str}{l ms:List Str}(h:ms.Sublist (x::l)):∃(a:Bool) (ms':List Str),ms'.Sublist l/\ms=(if a then [x] else [])++ms':=by
 cases h with
 |cons _ h=>exact⟨false,_,h,rfl⟩
 |cons_cons _ h=>exact⟨true,_,h,rfl⟩
theorem zGC{ms:List Str}(h:ms.Sublist MK):∃a b c d,ms=zA4 a b c d:=by
 obtain⟨a,m1,h1,e1⟩:=nA h
 obtain⟨b,m2,h2,e2⟩:=nA h1
 obtain⟨c,m3,h3,e3⟩:=nA h2
 obtain⟨d,m4,h4,e4⟩:=nA h3
 have e5:=List.sublist_nil.mp h4
 exact⟨a,b,c,d,by rw[e1,e2,e3,e4,e5];unfold zA4;rw[List.append_nil]⟩
theorem nD{ms:List Str}(h1:ms.Sublist MK)(h2:ms≠[]):oQ ms (sgM ms)/\oQ ms (zIO ms)/\(sgM ms).length<=10:=by
 obtain⟨a,b,c,d,rfl⟩:=zGC h1
 revert h2
 cases a<;>cases b<;>cases c<;>cases d<;>intro h2<;>first|exact absurd rfl h2|decide +kernel
def cY:Wd->List Str
 |.few ss=>ss
 |.make hd lo hi ms=>((sgM ms).map λc=>hd++bY c hi)++(if lo<hi then [hd++bY ((sgM ms).headD 0) lo] else [])
theorem jV{G:List Nat}(h:7<=G.length):G.headD 0∈G:=by
 cases G with
 |nil=>simp at h
 |cons c G=>exact List.mem_cons_self
theorem zS{hd:Str}{lo hi n:Int}{ms:List Str}{G:List Nat}(S:oQ ms G)(shd:Sg hd)(hl:hd.length<=50){c:Nat}(hc:c∈G)(h0:0<=n)(h1:lo<=n)(h2:n<=hi)(h3:hi<=100):
  dP (.make hd lo hi ms) (hd++bY c n)=true/\Sg (hd++bY c n)/\(hd++bY c n).length<=200:=by
 refine⟨letW_make.mpr ⟨_,by rw[WordM.app,dS],?_,?_,λd hd=>?_⟩,shd.app (zGI (S.sg c hc) n),?_⟩
 ·rw[List.length_replicate];omega
 ·rw[List.length_replicate];omega
 ·rw[(List.mem_replicate.mp hd).2];exact S.mine c hc
 ·rw[WordM.len,WordM.app,List.length_append,<-WordM.len,<-WordM.len,rH];omega
theorem pS:∀{W:Wd},eL W->tJ W (cY W)
 |.few ss,h=>zDb h
 |.make hd lo hi ms,⟨⟨shd,hl⟩,lo0,lohi,hi1,hi62,b1,b2⟩=>by
  obtain⟨S,_,_⟩:=nD b1 b2
  have m1:∀g∈sgM ms,hd++bY g hi∈cY (.make hd lo hi ms):=λg hg=>List.mem_append_left _ (List.mem_map.mpr ⟨g,hg,rfl⟩)
  refine zCn ⟨⟨hi.toNat,sgM ms,by omega,S.many,S.nd,S.cov,λg hg=>?_⟩,?_,?_⟩ λt ht=>?_
  ·exact List.mem_map.mpr ⟨_,m1 g hg,by rw[WordM.app,dS]⟩
  ·by_cases h:lo<hi
   ·refine⟨List.replicate lo.toNat ((sgM ms).headD 0),by rw[List.length_replicate];omega,List.mem_map.mpr ⟨hd++bY ((sgM ms).headD 0) lo,?_,by rw[WordM.app,dS]⟩⟩
    show _∈_++(if lo<hi then _ else _)
    rw[if_pos h]
    exact List.mem_append_right _ List.mem_cons_self
   ·exact⟨List.replicate hi.toNat ((sgM ms).headD 0),by rw[List.length_replicate];omega,List.mem_map.mpr ⟨_,m1 _ (jV S.many),by rw[WordM.app,dS]⟩⟩
  ·exact⟨List.replicate hi.toNat ((sgM ms).headD 0),by rw[List.length_replicate];omega,List.mem_map.mpr ⟨_,m1 _ (jV S.many),by rw[WordM.app,dS]⟩⟩
  ·have ht:t∈((sgM ms).map λc=>hd++bY c hi)++(if lo<hi then [hd++bY ((sgM ms).headD 0) lo] else []):=ht
   rcases List.mem_append.mp ht with z|z
   ·obtain⟨c,hc,rfl⟩:=List.mem_map.mp z
    exact zS S shd hl hc (by omega) lohi (by omega) hi62
   ·split at z
    ·have:t=hd++bY ((sgM ms).headD 0) lo:=by simpa using z
     subst this
     exact zS S shd hl (jV S.many) lo0 (by omega) lohi hi62
    ·simp at z
end
end My
namespace My
open PySem L2 PyProof.Rows WordM
section
variable{P:Program}{w:World}{K:W.Frag}{mg:Str->Option Value}{base:Heap}
open WordM ShowM
theorem nxE{N:aH->Prop}{ρ ρ':aH}(e:ρ=ρ')(h:N ρ'):N ρ:=e▸h
def bP:PSp:=λ_ _=>False
def jA(lo hi st:Int):List Int:=[lo,hi,lo+st]
def qA:PSp:=λas R=>∃lo hi st:Int,as=[.va (.seq true [iT lo,iT hi,iT st])]/\R (.seq false ((jA lo hi st).map iT))
theorem g1_(h:Has K mg "telling_numbers" s1_)(B:Own mg)    : aE P w K mg base 1 "telling_numbers" ["run"] qA:=by
 refine h.pg1 ["run"] (λnd hr=>
   (aJ (aM (aP (bS (aB (aN hr (aA 0) aD) (aB (aN hr (aA 0) aD) (aB (aX cI (aN hr (aA 0) aD) (aN hr (aA 0) aD)) aC)))))))) (λas R q=>?_)
 obtain⟨lo,hi,st,rfl,q⟩:=q
 exact⟨rfl,_,rfl,_,rfl,_,rfl,_,rfl,by simp,q⟩
theorem zA3:∀m∈MK,cs (Txt.slice ((getS SGN m).getD ⟨#[]⟩) none (some (6+1)))=(dJ m).take 7/\atI (dJ m) 0=some ((dJ m).headD 0)/\((getS SGN m).getD ⟨#[]⟩).length<=100/\getS SGN m=some ((getS SGN m).getD ⟨#[]⟩):=by decide +kernel
theorem xB{α:Type}(f:α->Nat):∀r:List α,bH (r.map λm=>(⟨#[f m]⟩:Str))=r.map f
 |[]=>rfl
 |m::r=>by
  have ih:=xB f r
  show [f m]++bH (r.map λm=>(⟨#[f m]⟩:Str))=_
  rw[ih]
  rfl
def rL:PSp:=λas R=>∃W:Wd,as=[.va (fW W)]/\eL W/\R (.seq false ((cY W).map sT))
theorem g2_(h:Has K mg "words_texts" s2_)(B:Own mg)(GMOST_FEW:iY K mg "MOST_FEW" (iT 6))(GSIGNS:tK K w.params mg "SIGNS" SGN)  : aE P w K mg base 1 "words_texts" ["words"] rL:=by
 refine h.pg1 ["words","head","marks","signs","texts"] (λnd hr=>
   (aG (aV (cA hr (aN hr (aA 0) aD) aO)
    (aJ (aM (aP (pW pZ rfl B.list_ boot_list (aB (aN hr (aA 0) aD) aC)))))
    aU)
   (aG (bA 1 nd (aN hr (aA 0) aD))
   (aG (bA 2 nd (aN hr (aA 0) aD))
   (aG (bA 3 nd (aX cI (gY iC (zAJ GSIGNS rfl (aN hr (aA 2) aD)) hE (hC (aX cI (sS GMOST_FEW rfl) aD))) (lH PySem.F.slot_str_join PySem.F.type_str_join zI aO (aB (aP (eD (sc:=aI s2_) (XN:=["words","head","marks","signs","texts"]) (N:=["mark"]) (fr:=[]) (bO (gY iC (aA 2) (hC aD) hE)) (λ_ _ _ _ _=>(aN hr (zAJ GSIGNS rfl (aA 0)) aD)))) aC))))
   (aG (zE8 (i:=4) (sc:=aI s2_) (XN:=["words","head","marks","signs","texts"]) (N:=["sign","words","head"]) (own:=1) (fr:=[0,1]) rfl nd rfl (.inl rfl) ⟨rfl,by decide +kernel,by decide +kernel,by decide +kernel,rfl,by decide +kernel,by decide,by decide +kernel⟩ (by decide) (bO (aA 3)) (λ_ _ _ _ _=>(dH 0 (by decide) (show(["sign","words","head"]:List Str).Nodup by decide +kernel) rfl (by first|exact Or.inl rfl|exact Or.inr rfl))) (λ_ _ _ _ _=>gA) (λ_ _ _ _ _=>(aX cI (aA 2) (aX fN (aA 0) (aN hr (aA 1) aD)))))
   (aG (aV (eE zAO (aN hr (aA 0) aD) (aN hr (aA 0) aD))
    (aJ (fA (fY 4 (aX cI (aA 1) (aX fN (aN hr (aA 3) aD) (aN hr (aA 0) aD))))))
    aU)
   (aJ (aM (aA 4)))))))))) (λas R q=>?_)
 obtain⟨W,rfl,ok,q⟩:=q
 cases W with
 |few ss=>exact⟨rfl,_,rfl,_,rfl,dX (λ_=>⟨_,rfl,_,_,rfl,q⟩) (λh=>absurd rfl h)⟩
 |make hd lo hi ms=>
  obtain⟨⟨shd,hl⟩,lo0,lohi,hi1,hi2,sub,ne⟩:=ok
  obtain⟨S,_,s10⟩:=nD sub ne
  obtain⟨m0,r,rfl⟩:=List.exists_cons_of_ne_nil ne
  have hin:∀m∈m0::r,m∈MK:=λm h=>sub.mem h
  obtain⟨k1,k2,k3,k4⟩:=zA3 m0 (hin m0 List.mem_cons_self)
  refine⟨rfl,_,rfl,_,rfl,dX (λh=>absurd h (by decide +kernel)) (λ_=>?_)⟩
  refine⟨_,rfl,_,rfl,_,at0,m0,_,rfl,k4,?_⟩
  have hr4:r.length<=3:=by have:=sub.length_le;simp[MK]at this;omega
  have ecut:fI ((m0::r).map sT) (some 1) none=r.map sT:=by
   unfold fI
   rw[HT.sIx_none,show(some (1:Int))=some ((1:Nat):Int) from rfl,HT.sIx_nat,List.map_cons,List.length_cons,Nat.min_eq_left (by omega),List.drop_one,List.tail_cons]
   exact List.take_of_length_le (by omega)
  refine⟨_,rfl,by omega,rfl,_,rfl,?_⟩
  show _/\dN 1 [] (gN 0) oT _ (fI ((m0::r).map sT) (some 1) none) _ _
  rw[ecut]
  have ecat:bH (r.map λm=>(⟨#[(dJ m).headD 0]⟩:Str))=r.map λm=>(dJ m).headD 0:=xB _ r
  refine⟨by rw[List.length_map];omega,eM sT (λm=>sT ⟨#[(dJ m).headD 0]⟩) (λm hm R q=>?_) ⟨r.map λm=>⟨#[(dJ m).headD 0]⟩,rfl,by rw[List.map_map];rfl,by rw[ecat,List.length_map];omega,?_⟩⟩
  ·obtain⟨_,j2,j3,j4⟩:=zA3 m (hin m (List.mem_cons_of_mem _ hm))
   exact⟨m,_,rfl,j4,by omega,_,j2,q⟩
  have sl:(Txt.slice ((getS SGN m0).getD ⟨#[]⟩) none (some (6+1))).length<=7:=by rw[WordM.len,k1,List.length_take];omega
  have esg:cs (Txt.slice ((getS SGN m0).getD ⟨#[]⟩) none (some (6+1))++⟨(bH (r.map λm=>(⟨#[(dJ m).headD 0]⟩:Str))).toArray⟩)=sgM (m0::r):=by
   rw[WordM.app,k1]
   show _++((bH (r.map λm=>(⟨#[(dJ m).headD 0]⟩:Str))).toArray).toList=_
   rw[List.toList_toArray,ecat]
   rfl
  refine⟨?_,?_⟩
  ·show _+(Str.length ⟨(bH (r.map λm=>(⟨#[(dJ m).headD 0]⟩:Str))).toArray⟩)<=100000
   rw[WordM.len (⟨(bH (r.map λm=>(⟨#[(dJ m).headD 0]⟩:Str))).toArray⟩:Str)]
   show _+((bH (r.map λm=>(⟨#[(dJ m).headD 0]⟩:Str))).toArray).toList.length<=_
   rw[List.toList_toArray,ecat,List.length_map]
   omega
  generalize (Txt.slice ((getS SGN m0).getD ⟨#[]⟩) none (some (6+1))++⟨(bH (r.map λm=>(⟨#[(dJ m).headD 0]⟩:Str))).toArray⟩:Str)=G at esg
  let W:Tv:=fW (.make hd lo hi (m0::r))
  show PEnds.nx _ _
  refine nxE (ρ':=[.va W,.va (sT hd),.va (.seq true ((m0::r).map sT)),.va (sT G),.no]) rfl ?_
  have gl:G.cps.toList.length<=10:=by
   show(cs G).length<=10
   rw[esg];exact s10
  refine⟨by rw[List.length_map];omega,?_⟩
  refine eM (λc:Nat=>sT ⟨#[c]⟩) (λc=>sT (hd++bY c hi)) (l:=G.cps.toList) (λc hc R q=>?_) ?_
  ·exact⟨_,rfl,⟨by show 1<=1000;decide,by omega,by omega⟩,by rw[show gQ ⟨#[c]⟩ hi=bY c hi from rfl,rH];omega,q⟩
  rw[show G.cps.toList=sgM (m0::r) from esg]
  have T0:(sgM (m0::r)).map (λc=>sT (hd++bY c hi))=((sgM (m0::r)).map λc=>hd++bY c hi).map sT:=by rw[List.map_map];rfl
  rw[T0]
  have g0:atI (cs G) 0=some ((sgM (m0::r)).headD 0):=by
   rw[esg]
   have:=jV S.many
   cases hq:sgM (m0::r) with
   |nil=>rw[hq]at this;cases this
   |cons x y=>exact fP (j:=0) rfl
  show PEnds.nx _ _
  refine nxE (ρ':=[.va W,.va (sT hd),.va (.seq true ((m0::r).map sT)),.va (sT G),.own (((sgM (m0::r)).map λc=>hd++bY c hi).map sT)]) rfl ?_
  have q:R (.seq false (((((sgM (m0::r)).map λc=>hd++bY c hi))++(if lo<hi then [hd++bY ((sgM (m0::r)).headD 0) lo] else [])).map sT)):=q
  refine⟨_,rfl,_,rfl,_,rfl,lZ (λz=>?_) (λz=>?_)⟩
  ·rw[if_pos z,List.map_append]at q
   refine⟨⟨_,rfl⟩,by rw[WordM.len];exact Nat.le_trans gl (by decide),_,g0,_,rfl,⟨by show 1<=1000;decide,by omega,by omega⟩,by rw[show gQ ⟨#[(sgM (m0::r)).headD 0]⟩ lo=bY ((sgM (m0::r)).headD 0) lo from rfl,rH];omega,_,rfl,by rw[List.length_map,List.length_map];omega,q⟩
  ·rw[if_neg z,List.append_nil]at q
   exact q
end
section
variable{P:Program}{w:World}{K:W.Frag}{mg:Str->Option Value}{base:Heap}
open WordM ShowM
theorem rR{us:List Str}{hd:Str}{lo hi:Int}{ms:List Str}(m:MOf us hd lo hi ms):Wd.make hd lo hi ms=kS us:=by
 obtain⟨h2,l2,u2,m2,e,k⟩:=zP m.ne
 obtain⟨e1,e2,e3,e4⟩:=m.uniq k
 rw[e,e1,e2,e3,e4]
theorem zFU{ts us:List Str}(ne:ts≠[])(h:∀x,x∈ts↔x∈us):kS ts=kS us:=by
 obtain⟨hd,lo,hi,ms,e,m⟩:=zP ne
 rw[e]
 exact rR (m.same h)
def zJh(a:GcdM.R3):Tv:=.seq true [iT a.1,iT a.2.1,iT a.2.2]
theorem xQ{ss:List Str}(h:dY ss):cG (bG ss)=ss:=mS (pJ _) h λx=>pL
theorem zFl{ss:List Str}(h:dY ss):(bG ss).length=ss.length:=by
 have:=congrArg List.length (xQ h)
 rwa[(jF _).length_eq]at this
theorem zEr{ms:List Str}(h:ms.Sublist MK):dY ms:=List.Pairwise.sublist h zO
theorem vZ{hd:Str}{lo hi:Int}{ms:List Str}(ok:eL (.make hd lo hi ms)):7<=(bG (cY (.make hd lo hi ms))).length/\MOf (cY (.make hd lo hi ms)) hd lo hi ms:=by
 have sh:=pS ok
 obtain⟨⟨shd,hl⟩,lo0,lohi,hi1,hi62,b1,b2⟩:=ok
 obtain⟨S,_,_⟩:=nD b1 b2
 have m1:∀g∈sgM ms,hd++bY g hi∈cY (.make hd lo hi ms):=λg hg=>List.mem_append_left _ (List.mem_map.mpr ⟨g,hg,rfl⟩)
 have inj:∀c d:Nat,hd++bY c hi=hd++bY d hi->c=d:=λc d e=>by
  have e:=congrArg cs e
  rw[WordM.app,WordM.app,dS,dS]at e
  have e:=List.append_cancel_left e
  obtain⟨k,ek⟩:∃k,hi.toNat=k+1:=⟨hi.toNat-1,by omega⟩
  rw[ek,List.replicate_succ,List.replicate_succ]at e
  injection e
 have len:∀t∈cY (.make hd lo hi ms),∃r,cs t=cs hd++r/\lo<=(r.length:Int)/\(r.length:Int)<=hi/\∀c∈r,cE c∈ms:=λt ht=>letW_make.mp (sh.1 t ht).1
 have dl:∀{t:Str} {r:List Nat},cs t=cs hd++r->(t.length:Int)-(hd.length:Int)=r.length:=λ{t r} e=>by
  rw[WordM.len t,WordM.len hd,e,List.length_append];push_cast;omega
 have mlo:∃t∈cY (.make hd lo hi ms),(t.length:Int)-(hd.length:Int)=lo:=by
  by_cases z:lo<hi
  ·refine⟨hd++bY ((sgM ms).headD 0) lo,?_,?_⟩
   ·show _∈_++(if lo<hi then _ else _)
    rw[if_pos z]
    exact List.mem_append_right _ (.head _)
   ·rw[dl (WordM.app _ _),dS,List.length_replicate];omega
  ·refine⟨_,m1 _ (jV S.many),?_⟩
   rw[dl (WordM.app _ _),dS,List.length_replicate];omega
 have mhi:∃t∈cY (.make hd lo hi ms),(t.length:Int)-(hd.length:Int)=hi:=⟨_,m1 _ (jV S.many),by rw[dl (WordM.app _ _),dS,List.length_replicate];omega⟩
 refine⟨?_,⟨λt ht=>?_,λk hk=>?_⟩,mlo,λt ht=>?_,mhi,λt ht=>?_,?_⟩
 ·have nd:((sgM ms).map λc=>hd++bY c hi).Nodup:=by
   rw[List.nodup_iff_pairwise_ne,List.pairwise_map]
   exact(List.nodup_iff_pairwise_ne.mp S.nd).imp λh e=>h (inj _ _ e)
  have:=WordM.nodup_len nd (m:=bG (cY (.make hd lo hi ms))) λx hx=>(kZ _ x).mpr (List.mem_append_left _ hx)
  rw[List.length_map]at this
  have:=S.many
  omega
 ·obtain⟨r,e,_⟩:=len t ht;exact⟨r,e⟩
 ·have m7:=S.many
  have nd:=S.nd
  match hG:sgM ms,m7 with
  |c::d::G,_=>
   rw[hG]at nd m1
   have ne:c≠d:=λz=>by subst z;exact(List.nodup_cons.mp nd).1 (.head _)
   obtain⟨r1,e1⟩:=hk _ (m1 c (.head _))
   obtain⟨r2,e2⟩:=hk _ (m1 d (.tail _ (.head _)))
   obtain⟨n,en⟩:∃n,hi.toNat=n+1:=⟨hi.toNat-1,by omega⟩
   rw[WordM.app,dS,en,List.replicate_succ]at e1 e2
   apply Nat.le_of_not_lt
   intro lt
   have g1:(k++r1)[(cs hd).length]?=some c:=by rw[<-e1];simp
   have g2:(k++r2)[(cs hd).length]?=some d:=by rw[<-e2];simp
   rw[List.getElem?_append_left lt]at g1 g2
   rw[g1]at g2
   exact ne (Option.some.inj g2)
  |[_],h=>simp at h
  |[],h=>simp at h
 ·obtain⟨r,e,h1,h2,_⟩:=len t ht
  rw[dl e];exact h1
 ·obtain⟨r,e,h1,h2,_⟩:=len t ht
  rw[dl e];exact h2
 ·refine mS (zEr b1) (mG _ _) λm=>?_
  rw[mJ]
  constructor
  ·intro hm
   obtain⟨c,hc,e⟩:=S.cov m hm
   obtain⟨n,en⟩:∃n,hi.toNat=n+1:=⟨hi.toNat-1,by omega⟩
   refine⟨_,m1 c hc,c,?_,e⟩
   rw[lB (WordM.app hd (bY c hi)),dS,en,List.replicate_succ]
   exact .head _
  ·rintro⟨t,ht,c,hc,rfl⟩
   obtain⟨r,e,_,_,h3⟩:=len t ht
   rw[lB e]at hc
   exact h3 c hc
theorem zGR:∀{W:Wd},eL W->fE (cY W)=W
 |.few ss,h=>by
  have hs:=zFl h.2.2.1
  show fE ss=_
  unfold fE
  rw[if_pos (by rw[hs];have:=h.2.1;omega),xQ h.2.2.1]
 |.make hd lo hi ms,h=>by
  obtain⟨h7,m⟩:=vZ h
  unfold fE
  rw[if_neg (by omega)]
  exact(rR m).symm
theorem zGQ{W:Wd}(h:eL W):cY W≠[]:=λz=>by
 cases W with
 |few ss=>have:ss=[]:=z;have h1:=h.1;rw[this]at h1;simp at h1
 |make hd lo hi ms=>have:=(vZ h).2.ne;exact this z
end
end My
namespace My
open PySem L2 PyProof.Rows WordM
section
variable{P:Program}{w:World}{K:W.Frag}{mg:Str->Option Value}{base:Heap}
variable{n:Nat}
theorem zKj:bN ["_law_deck_here","_law_world_here","_law_deep","_law_most","_law_kinds","_law_some"] ["_law_deck_here","_law_world_here","_law_deep","_law_most"] (aI tR):=fsc (by decide +kernel)
theorem zJV(h:Has K mg "_law_form" tR)(B:Own mg):aE P w K mg base 1 "_law_form" ["_law_deck_here","_law_world_here","_law_deep","_law_most"] bP:=h.pfalse zKj (fun|_,_,_,_,_,_,[_,_,_,_],_=>rfl) λas R h=>h
theorem zKk:bN ["_law_deck_here","_law_world_here","_law_deep","_law_make_here","_law_most"] ["_law_deck_here","_law_world_here","_law_deep"] (aI tS):=fsc (by decide +kernel)
theorem zJX(h:Has K mg "_law_table" tS)(B:Own mg):aE P w K mg base 1 "_law_table" ["_law_deck_here","_law_world_here","_law_deep"] bP:=h.pfalse zKk (fun|_,_,_,_,_,_,[_,_,_],_=>rfl) λas R h=>h
theorem zKl:bN ["_law_deck_here","_law_world_here","_law_deep","_law_many","_law_names","_law_some","_law_fields","_law_musts","_law_least","_law_most"] ["_law_deck_here","_law_world_here","_law_deep","_law_many"] (aI tT):=fsc (by decide +kernel)
theorem zJY(h:Has K mg "_law_record" tT)(B:Own mg):aE P w K mg base 1 "_law_record" ["_law_deck_here","_law_world_here","_law_deep","_law_many"] bP:=h.pfalse zKl (fun|_,_,_,_,_,_,[_,_,_,_],_=>rfl) λas R h=>h
def kX(lo hi st:Int):Prop:=-(10 ^ 58)<lo/\lo<=hi/\hi<10 ^ 58/\0<=st/\st<10 ^ 21/\(st=0↔lo=hi)/\(st≠0->(hi-lo) % st=0)
def WdS:Wd->Prop
 |.few ts=>eL (.few ts)/\∀t∈ts,t.length<=43
 |.make h a b ms=>MkD h a b ms
def LfP:Pt->Prop
 |.nothing=>True
 |.truths bs=>bs=[false]\/bs=[true]\/bs=[false,true]
 |.numbers lo hi st=>kX lo hi st
 |.texts w=>eL w
 |_=>False
def LfD:Pt->Prop
 |.texts w=>WdS w
 |p=>LfP p
theorem WdS.ok:∀{w:Wd},WdS w->eL w
 |.few _,h=>h.1
 |.make ..,h=>MkD.ok h
def rM:PSp:=λas R=>∃nm tx st sp,as=[.dk,.va (fB nm tx st sp)]/\nS nm tx st sp/\∀w,WdS w->R (fW w)
theorem zJZ(h:Has K mg "_law_some_words" tU)(B:Own mg)(G12_:aE P w K mg base 2 "_law_take" ["_law_deck_here","_law_most"] gD)(G18_:aE P w K mg base 4 "_law_make" ["_law_deck_here"] sM)   : aE P w K mg base 5 "_law_some_words" ["_law_deck_here","_law_world_here"] rM:=by
 refine h.pg2 ["_law_deck_here","_law_world_here","_law_texts","_law_some"] (λnd hr=>
   (aG (aV (cA hr (aL G12_ hr (bD 0 (aB aD aC))) aD)
    (aJ (aM (aL G18_ hr (bD 0 aC))))
    aU)
   (aG (iZ 2 nd (pW pZ rfl B.list_ boot_list (aB (aN hr (aA 1) aD) aC)))
   (aG (fU (sc:=aI tU) (XN:=["_law_deck_here","_law_world_here","_law_texts","_law_some"]) (N:=["_law_k","_law_deck_here","_law_texts"]) (fr:=[0,2]) 3 nd (jK rfl B.range (aB (aX cI aD (aL G12_ hr (bD 0 (aB aD aC)))) aC)) (λ_ _ _ _ _=>gA) (λ_ _ _ _ _=>(xK 2 (aL G12_ hr (bD 1 (aB (yV λF=>(bW eC rfl B.len PySem.boot_len (aB (aA 2) aC))) aC))))))
   (aJ (aM (cC (aB aO (aB (gW iO rfl B.tuple_ boot_tuple (aB (aP (mY (mT rfl) rfl B.sorted boot_sorted (aB (aA 3) aC))) aC)) aC))))))))) (λas R q=>?_)
 obtain⟨nm,tx,st,sp,rfl,hw,q⟩:=q
 refine⟨rfl,rfl,2,rfl,by decide,bR (by decide) (by decide),λa a0 a1=>⟨_,rfl,sif (λ_=>⟨rfl,rfl,λh a b ms m=>q (.make h a b ms) m⟩) (λ_=>?_)⟩⟩
 refine⟨_,rfl,false,_,rfl,?_⟩
 refine⟨rfl,6,rfl,by decide,bR (by decide) (by decide),λn n0 n1=>⟨_,rfl,by omega,by omega,by rw[iN];omega,?_⟩⟩
 refine xA (λi Us ρ=>∃ps rs:List Str,Us=ps.map sT/\ps.length=i/\(ps++rs).Perm tx/\ρ=[.dk,.va (fB nm tx st sp),.own (rs.map sT),.no]) ⟨[],tx,rfl,rfl,List.Perm.refl _,rfl⟩ ?_ ?_
 ·rintro i T _ _ hT ⟨ps,rs,rfl,hl,hp,rfl⟩ R hR
  have hi:=(lA hT).1
  have hlen:=hp.length_eq
  rw[List.length_append,hw.t9]at hlen
  refine⟨⟨_,rfl⟩,rfl,_,rfl,(rs.map sT).length,rfl,by rw[List.length_map];omega,by rw[List.length_map];exact bR (by omega) (by omega),λr r0 r1=>?_⟩
  rw[List.length_map]at r1
  obtain⟨x,hx⟩:=zHV r0 r1
  refine⟨r,_,sT x,rfl,rfl,r0,by rw[List.getElem?_map,hx];rfl,hR (some (sT x)) _ ⟨ps++[x],rs.eraseIdx r.toNat,by rw[List.map_append];rfl,by rw[List.length_append,hl];rfl,xT hp hx,?_⟩⟩
  show [Sl.dk,.va (fB nm tx st sp),.own ((rs.map sT).eraseIdx r.toNat),.no]=_
  rw[qF]
 ·rintro _ _ ⟨ps,rs,rfl,hl,hp,rfl⟩
  rw[iN]at hl
  have hnd:ps.Nodup:=(hp.nodup_iff.mpr hw.ndt).sublist (List.sublist_append_left _ _)
  refine .inr (.inl ⟨ps,rfl,by omega,?_⟩)
  refine⟨false,_,rfl,by simp,q (.few (cG ps)) ⟨⟨by rw[pX];omega,by rw[pX];omega,wD hnd,λt ht=>?_⟩,λt ht=>(hw.ts t (hp.mem_iff.mp (List.mem_append_left _ ((jF ps).mem_iff.mp ht)))).2⟩⟩
  have ht:t∈tx:=hp.mem_iff.mp (List.mem_append_left _ ((jF ps).mem_iff.mp ht))
  exact⟨(hw.ts t ht).1,by have:=(hw.ts t ht).2;omega⟩
theorem zDf{st sp k m:Int}(h1:-(10 ^ 57)<=st)(h2:st<=10 ^ 57)(h3:1<=sp)(h4:sp<=10 ^ 20)(k0:0<=k)(k1:k<12)(m0:0<=m)(m7:m<=7):kX (st+sp*(k-4)) (st+sp*(k-4)+m*sp) (sp*min m 1):=by
 have e1:=zAz (b:=k-4) h3 h4 (by omega) (by omega)
 have e2:=zAz (b:=m) h3 h4 (by omega) (by omega)
 have e2':m*sp=sp*m:=Int.mul_comm _ _
 by_cases hm:m=0
 ·subst hm
  have e3:sp*min 0 1=0:=by rw[show min (0:Int) 1=0 by decide,Int.mul_zero]
  have e4:(0:Int)*sp=0:=Int.zero_mul _
  rw[e3,e4]
  exact⟨by omega,by omega,by omega,by decide,by decide,⟨λ_=>by omega,λ_=>rfl⟩,λz=>absurd rfl z⟩
 ·have e3:sp*min m 1=sp:=by rw[show min m 1=1 by omega,Int.mul_one]
  rw[e3]
  have pos:0<m*sp:=Int.mul_pos (by omega) (by omega)
  refine⟨by omega,by omega,by omega,by omega,by omega,⟨λz=>by omega,λz=>by omega⟩,λ_=>?_⟩
  rw[show st+sp*(k-4)+m*sp-(st+sp*(k-4))=m*sp by omega]
  exact Int.mul_emod_left _ _
def rP:PSp:=λas R=>∃nm tx st sp,∃deep kind most:Int,as=[.dk,.va (fB nm tx st sp),.va (iT deep),.va (iT kind),.va (iT most)]/\nS nm tx st sp/\0<=kind/\kind<=3/\∀p,LfD p->(bF p:Int)=kind->R (aW p)
theorem zJW(h:Has K mg "_law_part" zBb)(B:Own mg)(G12_:aE P w K mg base 2 "_law_take" ["_law_deck_here","_law_most"] gD)(G19_:aE P w K mg base 5 "_law_some_words" ["_law_deck_here","_law_world_here"] rM)(G23_:aE P w K mg base 1 "_law_form" ["_law_deck_here","_law_world_here","_law_deep","_law_most"] bP)(G21_:aE P w K mg base 1 "_law_table" ["_law_deck_here","_law_world_here","_law_deep"] bP)(G20_:aE P w K mg base 1 "_law_record" ["_law_deck_here","_law_world_here","_law_deep","_law_many"] bP)   : aE P w K mg base 6 "_law_part" ["_law_deck_here","_law_world_here","_law_deep","_law_kind","_law_most"] rP:=by
 refine h.pg5 ["_law_deck_here","_law_world_here","_law_deep","_law_kind","_law_most","_law_low","_law_many","_law_least","_law_high","_law_inner"] (λnd hr=>
   (aG (aV (cA hr (aA 3) aD)
    (aJ (aM (cC (aB aO aC))))
    aU)
   (aG (aV (cA hr (aA 3) aD)
    (aJ (aM (cC (aB aO (aB (aN hr (aP (bS (aB (cC (aB dD aC)) (aB (cC (aB dD aC)) (aB (cC (aB dD (aB dD aC))) aC))))) (aL G12_ hr (bD 0 (aB aD aC)))) aC)))))
    aU)
   (aG (aV (cA hr (aA 3) aD)
    (aG (bA 5 nd (aX cI (aN hr (aA 1) aD) (aX fN (aN hr (aA 1) aD) (aX jX (aL G12_ hr (bD 0 (aB aD aC))) aD))))
    (aG (bA 6 nd (aN hr (aP (bS (aB aD (aB aD (aB aD (aB aD (aB aD aC))))))) (aL G12_ hr (bD 0 (aB aD aC)))))
    (aJ (aM (cC (aB aO (aB (aA 5) (aB (aX cI (aA 5) (aX fN (aA 6) (aN hr (aA 1) aD))) (aB (aX fN (aN hr (aA 1) aD) (bW (jY rfl) rfl B.min boot_min (aB (aA 6) (aB aD aC)))) aC)))))))))
    aU)
   (aG (aV (cA hr (aA 3) aD)
    (aJ (aM (cC (aB aO (aB (aL G19_ hr (bD 0 (aB (aA 1) aC))) aC)))))
    aU)
   (aG (aV (cA hr (aA 3) aD)
    (aG (bA 7 nd (aX fN (aL G12_ hr (bD 0 (aB aD aC))) (bW (jY rfl) rfl B.min boot_min (aB aD (aB (aA 2) aC)))))
    (aG (bA 8 nd (aX cI (aA 7) (aX fN (aN hr (aP (bS (aB aD (aB aD (aB aD (aB aD aC)))))) (aL G12_ hr (bD 0 (aB aD aC)))) (bW (jY rfl) rfl B.min boot_min (aB aD (aB (aA 2) aC))))))
    (aG (bA 9 nd (cC aC))
    (aG (aV (eE zAP (aA 8) aD)
     (aJ (bA 9 nd (aL G23_ hr (bD 0 (aB (aA 1) (aB (aX jX (aA 2) aD) (aB aD aC)))))))
     aU)
    (aJ (aM (cC (aB aO (aB (aA 7) (aB (aA 8) (aB (aA 9) aC)))))))))))
    aU)
   (aG (aV (cA hr (aA 2) aD)
    (aJ (aM (cC (aB aO (aB aD (aB aD (aB (cC aC) aC)))))))
    aU)
   (aG (aV (cA hr (aL G12_ hr (bD 0 (aB aD aC))) aD)
    (aJ (aM (aL G21_ hr (bD 0 (aB (aA 1) (aB (aA 2) aC))))))
    aU)
   (aG (bA 6 nd (aL G12_ hr (bD 0 (aB (aN hr (aP (bS (aB aD (aB aD aC)))) (gW zG2 rfl B.int_ boot_int (aB (cM (eQ hr.units).op (aA 4) aD) aC))) aC))))
   (aG (aV (cW (sF (cA hr (aA 4) aD) (sF (cA hr (aA 2) aD) (yS (cA hr (aL G12_ hr (bD 0 (aB aD aC))) aD)))))
    (aJ (bA 6 nd aD))
    aU)
   (aJ (aM (aL G20_ hr (bD 0 (aB (aA 1) (aB (aA 2) (aB (aA 6) aC))))))))))))))))) (λas R q=>?_)
 obtain⟨nm,tx,st,sp,deep,kind,most,rfl,hw,k0,k5,q⟩:=q
 refine⟨rfl,_,rfl,kN (λe=>?_) (λe0=>⟨_,rfl,kN (λe=>?_) (λe1=>⟨_,rfl,kN (λe=>?_) (λe2=>⟨_,rfl,kN (λe=>?_) (λe3=>absurd k5 (by omega))⟩)⟩)⟩)⟩
 ·have:=q .nothing trivial (by rw[e];rfl)
  rw[aW]at this
  exact⟨by decide,this⟩
 ·refine⟨by decide,by decide,by decide,by decide,rfl,3,rfl,by decide,bR (by decide) (by decide),λr r0 r1=>?_⟩
  obtain⟨U,hU,hm⟩:=kT (l:=[Tv.seq true [bT false],.seq true [bT true],.seq true [bT false,bT true]]) r0 r1
  refine⟨U,hU,by simp,?_⟩
  simp only[List.mem_cons,List.not_mem_nil,or_false]at hm
  rcases hm with rfl|rfl|rfl
  ·have:=q (.truths [false]) (.inl rfl) (by rw[e];rfl)
   rw[aW]at this;exact this
  ·have:=q (.truths [true]) (.inr (.inl rfl)) (by rw[e];rfl)
   rw[aW]at this;exact this
  ·have:=q (.truths [false,true]) (.inr (.inr rfl)) (by rw[e];rfl)
   rw[aW]at this;exact this
 ·have hst1:=hw.st1
  have hst2:=hw.st2
  have hsp1:=hw.sp1
  have hsp2:=hw.sp2
  refine⟨_,rfl,_,rfl,rfl,12,rfl,by decide,bR (by decide) (by decide),λk k0 k1=>⟨.inr ⟨bR (by omega) (by omega),bR (by omega) (by omega)⟩,?_⟩⟩
  refine⟨by decide,rfl,5,rfl,by decide,bR (by decide) (by decide),λr r0 r1=>?_⟩
  obtain⟨U,hU,hm⟩:=kT (l:=[iT 0,iT 1,iT 2,iT 3,iT 7]) r0 r1
  have hm:∃m:Int,U=iT m/\0<=m/\m<=7:=by
   simp only[List.mem_cons,List.not_mem_nil,or_false]at hm
   rcases hm with e|e|e|e|e<;>subst e<;>exact⟨_,rfl,by decide,by decide⟩
  obtain⟨m,rfl,mm0,mm7⟩:=hm
  refine⟨_,hU,?_⟩
  clear hU
  refine⟨_,rfl,.inr ⟨bR (by omega) (by omega),bR (by omega) (by omega)⟩,_,rfl,.inl ⟨_,_,rfl,.inr ⟨bR (by omega) (by omega),bR (by omega) (by omega)⟩,by simp,?_⟩⟩
  have:=q (.numbers _ _ _) (zDf hst1 hst2 hsp1 hsp2 k0 k1 mm0 mm7) (by rw[e];rfl)
  rw[aW]at this
  exact this
 ·refine⟨rfl,nm,tx,st,sp,rfl,hw,λw ww=>⟨by simp,?_⟩⟩
  have:=q (.texts w) ww (by rw[e];rfl)
  rw[aW]at this
  exact this
theorem xV:∀{ks:List Int}{Us:List Tv},Paired (λT U=>∃(k:Int) (p:Pt),T=iT k/\U=aW p/\LfD p/\(bF p:Int)=k) (ks.map iT) Us->∃f:List Pt,Us=f.map aW/\f.map (λp=>(bF p:Int))=ks/\∀p∈f,LfD p
 |[],[],_=>⟨[],rfl,rfl,λx hx=>nomatch hx⟩
 |k::ks,U::Us,.cons r t=>by
  obtain⟨fs,rfl,e2,h⟩:=xV (ks:=ks) t
  obtain⟨k',p,e,rfl,hp,hk⟩:=r
  have e:k=k':=by cases e;rfl
  subst e
  refine⟨p::fs,rfl,by rw[List.map_cons,e2,hk],λx hx=>?_⟩
  rcases List.mem_cons.mp hx with rfl|hx
  ·exact hp
  ·exact h x hx
theorem zGa{rs:List Int}{r:Int}(h0:0<=r)(h1:r<rs.length):∃x,rs[r.toNat]?=some x:=⟨rs[r.toNat]'(by omega),List.getElem?_eq_getElem _⟩
def qR:PSp:=λas R=>∃nm tx st sp,as=[.dk,.va (fB nm tx st sp)]/\nS nm tx st sp/\∀f,f≠[]->f.length<=4->lG f->(∀p∈f,LfD p)->R (dB f)
theorem zJI(h:Has K mg "_law_single" oZ)(B:Own mg)(G12_:aE P w K mg base 2 "_law_take" ["_law_deck_here","_law_most"] gD)(G22_:aE P w K mg base 6 "_law_part" ["_law_deck_here","_law_world_here","_law_deep","_law_kind","_law_most"] rP)   : aE P w K mg base 7 "_law_single" ["_law_deck_here","_law_world_here"] qR:=by
 refine h.pg2 ["_law_deck_here","_law_world_here","_law_kinds","_law_some"] (λnd hr=>
   (aG (iZ 2 nd (bS (aB aD (aB aD (aB aD (aB aD aC))))))
   (aG (fU (sc:=aI oZ) (XN:=["_law_deck_here","_law_world_here","_law_kinds","_law_some"]) (N:=["_law_k","_law_deck_here","_law_kinds"]) (fr:=[0,2]) 3 nd (jK rfl B.range (aB (aX cI aD (aL G12_ hr (bD 0 (aB aD aC)))) aC)) (λ_ _ _ _ _=>gA) (λ_ _ _ _ _=>(xK 2 (aL G12_ hr (bD 1 (aB (yV λF=>(bW eC rfl B.len PySem.boot_len (aB (aA 2) aC))) aC))))))
   (aJ (aM (gW iO rfl B.tuple_ boot_tuple (aB (aP (eD (sc:=aI oZ) (XN:=["_law_deck_here","_law_world_here","_law_kinds","_law_some"]) (N:=["_law_kind","_law_deck_here","_law_world_here"]) (fr:=[0,1]) (bO (aP (mY (mT rfl) rfl B.sorted boot_sorted (aB (aA 3) aC)))) (λ_ _ _ _ _=>(aL G22_ hr (bD 1 (aB (aA 2) (aB aD (aB (aA 0) (aB aD aC))))))))) aC))))))) (λas R q=>?_)
 obtain⟨nm,tx,st,sp,rfl,hw,q⟩:=q
 refine⟨rfl,by simp,?_⟩
 refine⟨rfl,_,rfl,by omega,bR (by omega) (by omega),λc c0 c1=>⟨_,rfl,by omega,by omega,by rw[iN];omega,?_⟩⟩
 refine xA (λi Us ρ=>∃ps rs:List Int,Us=ps.map iT/\ps.length=i/\(ps++rs).Perm [0,1,2,3]/\ρ=[.dk,.va (fB nm tx st sp),.own (rs.map iT),.no]) ⟨[],[0,1,2,3],rfl,rfl,List.Perm.refl _,rfl⟩ ?_ ?_
 ·rintro i T _ _ hT ⟨ps,rs,rfl,hl,hp,rfl⟩ R hR
  have hi:=(lA hT).1
  have hlen:=hp.length_eq
  rw[List.length_append]at hlen
  have hlen:ps.length+rs.length=4:=hlen
  refine⟨⟨_,rfl⟩,rfl,_,rfl,(rs.map iT).length,rfl,by rw[List.length_map];omega,by rw[List.length_map];exact bR (by omega) (by omega),λr r0 r1=>?_⟩
  rw[List.length_map]at r1
  obtain⟨x,hx⟩:=zGa r0 r1
  refine⟨r,_,iT x,rfl,rfl,r0,by rw[List.getElem?_map,hx];rfl,hR (some (iT x)) _ ⟨ps++[x],rs.eraseIdx r.toNat,by rw[List.map_append];rfl,by rw[List.length_append,hl];rfl,xT hp hx,?_⟩⟩
  show [Sl.dk,.va (fB nm tx st sp),.own ((rs.map iT).eraseIdx r.toNat),.no]=_
  rw[qF]
 ·rintro _ _ ⟨ps,rs,rfl,hl,hp,rfl⟩
  rw[iN]at hl
  refine .inl ⟨ps,rfl,by omega,λms hm hs=>?_⟩
  have hml:ms.length=ps.length:=hm.length_eq
  refine⟨by rw[List.length_map];omega,?_⟩
  refine wY (λT U=>∃(k:Int) (p:Pt),T=iT k/\U=aW p/\LfD p/\(bF p:Int)=k) (λT hT R hR=>?_) (λUs hUs=>?_)
  ·obtain⟨k,hk,rfl⟩:=List.mem_map.mp hT
   have hk:k∈[0,1,2,3]:=hp.mem_iff.mp (List.mem_append_left _ (hm.mem_iff.mp hk))
   have hk:0<=k/\k<=3:=by
    simp only[List.mem_cons,List.not_mem_nil,or_false]at hk
    omega
   exact⟨rfl,nm,tx,st,sp,0,k,6,rfl,hw,hk.1,hk.2,λp hp hkp=>hR _ ⟨k,p,rfl,rfl,hp,hkp⟩⟩
  ·obtain⟨f,rfl,e,hf⟩:=xV hUs
   have e':f.length=ms.length:=by rw[<-e,List.length_map]
   refine⟨false,_,rfl,q f (λz=>?_) (by omega) ?_ hf⟩
   ·rw[z]at e'
    simp at e'
    omega
   ·have hnd:ps.Nodup:=(List.nodup_append.mp (hp.nodup_iff.mpr (by decide))).1
    have h1:ms.Pairwise (· < ·):=by
     have h2:ms.Nodup:=hm.nodup_iff.mpr hnd
     exact List.Pairwise.imp₂ (λa b h n=>by omega) hs h2
    rw[<-e,List.pairwise_map]at h1
    exact h1.imp λh=>by omega
end
end My
namespace My
open PySem L2 PyProof.Rows WordM
section
variable{P:Program}{w:World}{K:W.Frag}{mg:Str->Option Value}{base:Heap}
variable{n:Nat}
theorem sZ{c:Nat}{S:Str}{A B:Prop}(h1:c∈cs S->A)(h2:c∉cs S->B):if (false != inS ⟨#[c]⟩ S)=true then A else B:=by
 have:(false != inS ⟨#[c]⟩ S)=decide (c∈cs S):=by unfold inS;rw[StrLaws.found_one];simp
 rw[this]
 exact lZ h1 h2
theorem zHQ(xs:List Tv):(false != ((false==false)&&bJ xs []))=xs.isEmpty:=by
 cases xs with
 |nil=>simp[bJ]
 |cons x xs=>simp[bJ]
theorem zGk(l:List Nat)(ms:List Str):(true&&(true&&true&&l.all λc=>decide (cE c∈ms)))=(l.filterMap λc=>if cE c∈ms then none else some (sT ⟨#[c]⟩)).isEmpty:=by
 induction l with
 |nil=>rfl
 |cons c l ih=>
  rw[List.all_cons,List.filterMap_cons]
  by_cases z:cE c∈ms
  ·rw[if_pos z,decide_eq_true z];simpa using ih
  ·rw[if_neg z,decide_eq_false z];rfl
def nZ:PSp:=λas R=>∃c:Nat,as=[.va (sT ⟨#[c]⟩)]/\R (sT (cE c))
theorem zJU(h:Has K mg "_law_mark" zBa)(B:Own mg)    : aE P w K mg base 1 "_law_mark" ["_law_sign"] nZ:=by
 refine h.pg1 ["_law_sign"] (λnd hr=>
   (aG (aV (eE (iW hr.units) (aA 0) aO rfl)
    (aJ (aM aO))
    aU)
   (aG (aV (eE (iW hr.units) (aA 0) aO rfl)
    (aJ (aM aO))
    aU)
   (aG (aV (eE (iW hr.units) (aA 0) aO rfl)
    (aJ (aM aO))
    aU)
   (aJ (aM aO)))))) (λas R q=>?_)
 obtain⟨c,rfl,q⟩:=q
 unfold cE at q
 refine⟨rfl,_,rfl,sZ (λa=>?_) (λa=>⟨_,rfl,sZ (λb=>?_) (λb=>⟨_,rfl,sZ (λd=>?_) (λd=>?_)⟩)⟩)⟩
 ·rw[if_pos (show c∈cs kO from a)]at q;exact q
 ·rw[if_neg (show c∉cs kO from a),if_pos (show c∈cs lI from b)]at q;exact q
 ·rw[if_neg (show c∉cs kO from a),if_neg (show c∉cs lI from b),if_pos (show c∈cs nX from d)]at q;exact q
 ·rw[if_neg (show c∉cs kO from a),if_neg (show c∉cs lI from b),if_neg (show c∉cs nX from d)]at q;exact q
theorem zJT(h:Has K mg "_law_words_let" tP)(B:Own mg)(G24_:aE P w K mg base 1 "_law_mark" ["_law_sign"] nZ)   : aE P w K mg base 2 "_law_words_let" ["_law_words_here","_law_text_here"] mM:=by
 refine h.pg2 ["_law_words_here","_law_text_here","_law_rest"] (λnd hr=>
   (aG (aV (cA hr (aN hr (aA 0) aD) aO)
    (aJ (aM (cM (iW hr.units).op (aA 1) (aN hr (aA 0) aD) rfl)))
    aU)
   (aG (bA 2 nd (gY iC (aA 1) (hC (bW eC rfl B.len PySem.boot_len (aB (aN hr (aA 0) aD) aC))) hE))
   (aG (aV (cW (cU (eN (bI (lH PySem.F.slot_str_startswith PySem.F.type_str_startswith wG (aA 1) (aB (aN hr (aA 0) aD) aC)))) (dC (eN (xL kG kG (aN hr (aA 0) aD) (bW eC rfl B.len PySem.boot_len (aB (aA 2) aC)) (aN hr (aA 0) aD))))))
    (aJ (aM dD))
    aU)
   (aJ (aM (cM (eQ hr.units).op (aP (kD (sc:=aI tP) (XN:=["_law_words_here","_law_text_here","_law_rest"]) (N:=["_law_sign","_law_words_here"]) (fr:=[0]) (bO (aA 2)) (λ_ _ _ _ _=>(fS (eE (nF hr.units) (aL G24_ hr (aB (aA 0) aC)) (aN hr (aA 1) aD) rfl))) (λ_ _ _ _ _=>(aA 0)))) (aP (bS aC))))))))) (λas R q=>?_)
 obtain⟨W,x,rfl,ok,sx,lx,q⟩:=q
 refine⟨rfl,?_⟩
 cases W with
 |few ss=>
  refine⟨_,rfl,_,rfl,dX (λ_=>⟨_,rfl,qX,?_⟩) (λh=>absurd rfl h)⟩
  rw[nR]
  have:(false != decide (x∈ss))=dP (.few ss) x:=by simp[dP]
  rw[this]
  exact q
 |make hd lo hi ms=>
  have hhd:hd.length<=50:=ok.1.2
  refine⟨_,rfl,_,rfl,dX (λh=>absurd h (by decide +kernel)) (λ_=>?_)⟩
  have q':∀b,dP (.make hd lo hi ms) x=b->R (bT b):=λb e=>e▸q
  refine⟨_,rfl,by omega,_,rfl,by omega,?_⟩
  have hrl:(bE x hd).length<=1000:=Nat.le_trans (WordM.slice_len ..) lx
  refine⟨rfl,_,rfl,_,_,rfl,rfl,_,rfl,?_⟩
  refine sif (λh1=>?_) (λh1=>?_)
  ·have h1:stW x hd=false:=by
    have h1:(!(stW x hd))=true:=h1
    simpa using h1
   refine aZ (q' false ?_)
   show(stW x hd&&_)=false
   rw[h1];rfl
  ·have h1:stW x hd=true:=by
    have h1:(!(stW x hd))=false:=h1
    simpa using h1
   refine⟨_,rfl,by show(bE x hd).length<=100000;omega,_,rfl,lZ (λh2=>⟨_,rfl,_,rfl,sif (λh3=>?_) (λh3=>?_)⟩) (λh2=>⟨false,rfl,aZ (q' _ ?_)⟩)⟩
   ·have h3:¬ ((bE x hd).length:Int)<=hi:=by
     have h3:(!decide (((bE x hd).length:Int)<=hi))=true:=h3
     simpa using h3
    refine q' _ ?_
    show(stW x hd&&_)=_
    rw[decide_eq_false h3];simp
   ·have h3:((bE x hd).length:Int)<=hi:=by
     have h3:(!decide (((bE x hd).length:Int)<=hi))=false:=h3
     simpa using h3
    have h2:lo<=((bE x hd).length:Int):=h2
    refine⟨by rw[List.length_map,<-WordM.len];exact Nat.le_trans hrl (by omega),?_⟩
    refine jL (λc=>sT ⟨#[c]⟩) (λc=>if cE c∈ms then none else some (sT ⟨#[c]⟩)) (λc hc R q=>⟨c,rfl,_,rfl,qX,?_⟩) ?_
    ·refine⟨_,rfl,sif (λz=>?_) (λz=>?_)⟩
     ·rw[nR]at z
      rw[if_neg (by simpa using z)]at q
      exact q
     ·rw[nR]at z
      rw[if_pos (by simpa using z)]at q
      exact q
    ·refine⟨by simp,.inr (.inl rfl),q' _ ?_⟩
     show(stW x hd&&_)=_
     rw[h1,decide_eq_true h2,decide_eq_true h3,zHQ]
     exact zGk (cs (bE x hd)) ms
   ·have h2:¬ lo<=((bE x hd).length:Int):=h2
    show(stW x hd&&_)=_
    rw[decide_eq_false h2];simp
end
section
variable{P:Program}{w:World}{K:W.Frag}{mg:Str->Option Value}{base:Heap}
theorem zDA{b:Bool}{bs:List Bool}:jC (bT b) (bs.map bT):=⟨trivial,λU hU=>by
 obtain⟨c,_,rfl⟩:=List.mem_map.mp hU
 trivial⟩
def Lv(v:Tv):Prop:=v=nT\/(∃b,v=bT b)\/(∃i,v=iT i)\/∃s,v=sT s/\Sg s/\s.length<=43
theorem zCB{n:Nat}{p:Pt}:eJ (n+1) p nT=(false != eqV (.str (cD p)) (.str "nothing")):=by cases p<;>rfl
theorem zIG{n:Nat}{p:Pt}{T:Tv}(h:bF p≠bL T):eJ (n+1) p T=false:=by
 cases e:eJ (n+1) p T with
 |false=>rfl
 |true=>exact absurd (zEz e) h
theorem zCV{p q:Pt}(h:cD p=cD q):bF p=bF q:=by
 have e:=zAC p
 rw[h,zAC q]at e
 exact(zDv (qV q) (qV p) (Option.some.inj e)).symm
theorem zIe{a b:Str}{A B:Prop}(h1:a≠b->A)(h2:a=b->B):if (true != eqV (.str a) (.str b))=true then A else B:=sif (λz=>h1 (by simpa[eqV]using z)) λz=>h2 (by simpa[eqV]using z)
theorem zDY{p:Pt}(h:cD p="truths"):∃bs,p=.truths bs:=by
 cases p with
 |truths bs=>exact⟨_,rfl⟩
 |_=>exact absurd h (by simp only[cD];decide +kernel)
theorem zCW{p:Pt}(h:cD p="numbers"):∃lo hi st,p=.numbers lo hi st:=by
 cases p with
 |numbers lo hi st=>exact⟨_,_,_,rfl⟩
 |_=>exact absurd h (by simp only[cD];decide +kernel)
theorem zE2{p:Pt}(h:cD p="texts"):∃w,p=.texts w:=by
 cases p with
 |texts w=>exact⟨_,rfl⟩
 |_=>exact absurd h (by simp only[cD];decide +kernel)
theorem uI{p:Pt}:(bF p=1->cD p="truths")/\(bF p=2->cD p="numbers")/\(bF p=3->cD p="texts")/\(bF p=4->cD p="lists"):=by
 cases p<;>simp[bF,cD]
theorem zEV{α:Type}{l:List α}{g:α->Bool}{b:Bool}:((l.map λx=>bT (g x)).any λU=>eqT U (bT b))=l.any λx=>g x==b:=by
 rw[List.any_map]
 rfl
theorem zCF{α:Type}{l:List α}{g:α->Bool}{b:Bool}:jC (bT b) (l.map λx=>bT (g x)):=⟨trivial,λU hU=>by
 obtain⟨c,_,rfl⟩:=List.mem_map.mp hU
 trivial⟩
def zBl:PSp:=λas R=>∃(p:Pt) (T:Tv),as=[.va (aW p),.va T]/\LfD p/\Lv T/\R (bT (eJ 1 p T))
theorem zKi:bN ["_law_part_here","_law_value","_law_name","_law_known","_law_must","_law_form_here"] ["_law_part_here","_law_value"] (aI tO):=fsc (by decide +kernel)
theorem zJS(h:Has K mg "_law_dict_let" tO)(B:Own mg):aE P w K mg base 1 "_law_dict_let" ["_law_part_here","_law_value"] bP:=h.pfalse zKi (fun|_,_,_,_,_,_,[_,_],_=>rfl) λas R h=>h
theorem zJR(h:Has K mg "_law_part_lets" pA)(B:Own mg)(G25_:aE P w K mg base 2 "_law_words_let" ["_law_words_here","_law_text_here"] mM)(G28_:aE P w K mg base 1 "_law_lets" ["_law_form_here","_law_value"] bP)(G26_:aE P w K mg base 1 "_law_dict_let" ["_law_part_here","_law_value"] bP)   : aE P w K mg base 4 "_law_part_lets" ["_law_part_here","_law_value"] zBl:=by
 refine h.pg2 ["_law_part_here","_law_value","_law_word"] (λnd hr=>
   (aG (bA 2 nd (aN hr (aA 0) aD))
   (aG (aV (cW (cU (eE iV (aA 1) hV) (dC (cA hr (aA 2) aO))))
    (aJ (aM (dR (cM (iV).op (aA 1) hV) (gB (cM (eQ hr.units).op (aA 2) aO)))))
    aU)
   (aG (aV (cW (cU (bI (bC "bool" gV rfl B.isinstance (aA 1) (bB (v:=.ty "bool") rfl B.bool_ boot_bool rfl))) (dC (cA hr (aA 2) aO))))
    (aJ (aM (dR (bC "bool" gV rfl B.isinstance (aA 1) (bB (v:=.ty "bool") rfl B.bool_ boot_bool rfl)) (dR (cM (eQ hr.units).op (aA 2) aO) (gB (cM (iW hr.units).op (aA 1) (aN hr (aA 0) aD) rfl))))))
    aU)
   (aG (aV (cW (cU (bI (bC "int" iJ rfl B.isinstance (aA 1) (bB (v:=.ty "int") rfl B.int_ boot_int rfl))) (dC (cA hr (aA 2) aO))))
    (aG (aV (cW (cU (eN (bI (bC "int" iJ rfl B.isinstance (aA 1) (bB (v:=.ty "int") rfl B.int_ boot_int rfl)))) (dC (dO hr (aA 2) aO))))
     (aJ (aM dD))
     aU)
    (aJ (aM (dR (zD1 kG kG (aN hr (aA 0) aD) (aA 1) (aN hr (aA 0) aD)) (gB (cM (eQ hr.units).op (aX nY (aX jX (aA 1) (aN hr (aA 0) aD)) (bW (lL rfl) rfl B.max boot_max (aB aD (aB (aN hr (aA 0) aD) aC)))) aD))))))
    aU)
   (aG (aV (cW (cU (bI (bC "str" iI rfl B.isinstance (aA 1) (bB (v:=.ty "str") rfl B.str_ boot_str rfl))) (dC (cA hr (aA 2) aO))))
    (aJ (aM (dR (bC "str" iI rfl B.isinstance (aA 1) (bB (v:=.ty "str") rfl B.str_ boot_str rfl)) (dR (cM (eQ hr.units).op (aA 2) aO) (gB (aL G25_ hr (aB (aN hr (aA 0) aD) (aB (aA 1) aC))))))))
    aU)
   (aG (aV (cW (cU (bI (bC "list" fL rfl B.isinstance (aA 1) (bB (v:=.ty "list") rfl B.list_ boot_list rfl))) (dC (cA hr (aA 2) aO))))
    (aG (aV (cW (cU (eN (bI (bC "list" fL rfl B.isinstance (aA 1) (bB (v:=.ty "list") rfl B.list_ boot_list rfl)))) (cU (dO hr (aA 2) aO) (dC (eN (xL kG kG (aN hr (aA 0) aD) (bW eC rfl B.len PySem.boot_len (aB (aA 1) aC)) (aN hr (aA 0) aD)))))))
     (aJ (aM dD))
     aU)
    (aJ (aM (cM (nF hr.units).op dD (aP (eD (sc:=aI pA) (XN:=["_law_part_here","_law_value","_law_word"]) (N:=["_law_item","_law_part_here"]) (fr:=[0]) (bO (aA 1)) (λ_ _ _ _ _=>(aL G28_ hr (aB (aN hr (aA 1) aD) (aB (aA 0) aC)))))) rfl))))
    aU)
   (aJ (aM (aL G26_ hr (aB (aA 0) (aB (aA 1) aC)))))))))))) (λas R q=>?_)
 obtain⟨p,T,rfl,ok,hv,q⟩:=q
 obtain⟨r,er,rl⟩:=yM p
 have q':∀b,eJ 1 p T=b->R (bT b):=λb e=>e▸q
 have qn:bF p≠bL T->R (bT false):=λh=>q' _ (zIG h)
 have kne:∀{P':Pt},cD p=cD P'->bF P'≠bL T->R (bT false):=λh z=>qn (by rw[zCV h];exact z)
 refine⟨rfl,?_⟩
 rw[er]
 refine⟨_,at0,?_⟩
 rcases hv with rfl|⟨b,rfl⟩|⟨i,rfl⟩|⟨s,rfl,ss,sl⟩
 ·refine⟨_,rfl,aZ (aZ ⟨_,rfl,aZ ?_⟩)⟩
  rw[zCB]at q
  exact q
 ·refine⟨_,rfl,aK ⟨_,rfl,dX (λh=>⟨_,rfl,aK (kne (P':=.nothing) h (by simp[bF,bL]))⟩) (λh1=>?_)⟩⟩
  refine⟨_,rfl,aZ (aZ ⟨_,rfl,aZ ⟨_,rfl,dX (λh2=>?_) (λh2=>?_)⟩⟩)⟩
  ·obtain⟨bs,rfl⟩:=zDY h2
   rw[aW]at er;cases er
   rcases ok with rfl|rfl|rfl<;>cases b<;>exact⟨_,rfl,zDA,q⟩
  ·exact qn λz=>h2 (uI.1 z)
 ·refine⟨_,rfl,aK ⟨_,rfl,dX (λh=>⟨_,rfl,aK (kne (P':=.nothing) h (by simp[bF,bL]))⟩) (λh1=>?_)⟩⟩
  refine⟨_,rfl,aK ⟨_,rfl,dX (λh=>⟨_,rfl,aK (kne (P':=.truths []) h (by simp[bF,bL]))⟩) (λh2=>?_)⟩⟩
  refine⟨_,rfl,aZ (aZ ⟨_,rfl,aK ⟨_,rfl,?_⟩⟩)⟩
  refine zIe (λh=>qn λz=>h (uI.2.1 z)) (λh=>?_)
  obtain⟨lo,hi,st,rfl⟩:=zCW h
  rw[aW]at er;cases er
  refine⟨_,rfl,_,rfl,lZ (λh1=>⟨_,rfl,_,rfl,lZ (λh2=>?_) (λh2=>?_)⟩) (λh1=>⟨false,rfl,aK ?_⟩)⟩
  ·refine⟨_,rfl,_,rfl,.inl ⟨1,st,rfl,(show(0:Int)<max 1 st by omega),q' _ ?_⟩⟩
   show gF lo hi st i=_
   unfold gF
   rw[decide_eq_true (show lo<=i from h1),decide_eq_true (show i<=hi from h2)]
   simp[eqV,Bool.beq_eq_decide_eq]
  ·refine q' _ ?_
   show gF lo hi st i=_
   unfold gF
   rw[decide_eq_false (show ¬ i<=hi from h2)];simp
  ·refine q' _ ?_
   show gF lo hi st i=_
   unfold gF
   rw[decide_eq_false (show ¬ lo<=i from h1)];simp
 ·refine⟨_,rfl,aK ⟨_,rfl,dX (λh=>⟨_,rfl,aK (kne (P':=.nothing) h (by simp[bF,bL]))⟩) (λh1=>?_)⟩⟩
  refine⟨_,rfl,aK ⟨_,rfl,dX (λh=>⟨_,rfl,aK (kne (P':=.truths []) h (by simp[bF,bL]))⟩) (λh2=>?_)⟩⟩
  refine⟨_,rfl,aK ⟨_,rfl,dX (λh=>⟨_,rfl,aZ (aZ (kne (P':=.numbers 0 0 0) h (by simp[bF,bL])))⟩) (λh3=>?_)⟩⟩
  refine⟨_,rfl,aZ (aZ ⟨_,rfl,aZ ⟨_,rfl,dX (λh2=>?_) (λh2=>?_)⟩⟩)⟩
  ·obtain⟨W,rfl⟩:=zE2 h2
   rw[aW]at er;cases er
   exact⟨_,rfl,W,s,rfl,ok.ok,ss,by omega,q⟩
  ·exact qn λz=>h2 (uI.2.2.1 z)
def pB:PSp:=λas R=>∃(f:List Pt) (T:Tv),as=[.va (dB f),.va T]/\f.length<=6/\(∀p∈f,LfD p)/\Lv T/\R (bT (pE 1 f T))
theorem zKh:bN ["_law_form_here","_law_value"] ["_law_form_here","_law_value"] (aI mB):=fsc (by decide +kernel)
theorem zJQ(h:Has K mg "_law_lets" mB)(B:Own mg)(G27_:aE P w K mg base 4 "_law_part_lets" ["_law_part_here","_law_value"] zBl)   : aE P w K mg base 5 "_law_lets" ["_law_form_here","_law_value"] pB:=by
 refine h.pg2 ["_law_form_here","_law_value"] (λnd hr=>
   (aJ (aM (cM (iW hr.units).op dD (aP (eD (sc:=aI mB) (XN:=["_law_form_here","_law_value"]) (N:=["_law_part_here","_law_value"]) (fr:=[1]) (bO (aA 0)) (λ_ _ _ _ _=>(aL G27_ hr (aB (aA 0) (aB (aA 1) aC)))))) rfl)))) (λas R q=>?_)
 obtain⟨f,T,rfl,l6,ok,hv,q⟩:=q
 refine⟨rfl,by rw[List.length_map];omega,eM aW (λp=>bT (eJ 1 p T)) (λp hp R q=>⟨p,T,rfl,ok p hp,hv,q⟩) ⟨zCF,?_⟩⟩
 rw[zEV]
 have:(false != f.any λp=>eJ 1 p T==true)=pE 1 f T:=by unfold pE;simp
 rw[this]
 exact q
theorem zHL(h:Has K mg "_law_lets" mB)(hp:Has K mg "_law_part_lets" pA)(B:Own mg)(Gw:aE P w K mg base 2 "_law_words_let" ["_law_words_here","_law_text_here"] mM)(Gd:aE P w K mg base 1 "_law_dict_let" ["_law_part_here","_law_value"] bP):aE P w K mg base 5 "_law_lets" ["_law_form_here","_law_value"] pB:=
 zJQ h B (zJR hp B Gw (h.pfalse zKh (fun|_,_,_,_,_,_,[_,_],_=>rfl) λas R q=>q) Gd)
end
end My
namespace My
open PySem L2 PyProof.Rows WordM
section
variable{P:Program}{w:World}{K:W.Frag}{mg:Str->Option Value}{base:Heap}
def qB:PSp:=λas R=>∃a b:Int,as=[.va (iT a),.va (iT b)]/\R (iT (GcdM.g a b))
theorem zJP(h:Has K mg "_law_divisor" zA9)(B:Own mg)    : aE P w K mg base 1 "_law_divisor" ["_law_one","_law_other"] qB:=by
 refine h.pg2 ["_law_one","_law_other"] (λnd hr=>
   (aG (qM PassesOwn.never (dO hr (aA 1) aD)
    (aJ (zGq (i:=0) (j:=1) rfl nd rfl rfl (by decide) rfl rfl (aB (aA 1) (aB (aX zFx (aA 0) (aA 1)) aC)) (by rfl))))
   (aJ (aM (bW zG3 rfl B.abs boot_abs (aB (aA 0) aC)))))) (λas R q=>?_)
 obtain⟨a,b,rfl,q⟩:=q
 refine⟨rfl,λm ρ=>∃x y:Int,m=y.natAbs/\GcdM.g x y=GcdM.g a b/\ρ=[.va (iT x),.va (iT y)],⟨_,a,b,rfl,rfl,rfl⟩,?_⟩
 rintro m _ ⟨x,y,rfl,e,rfl⟩
 refine⟨_,rfl,sif (λz=>?_) (λz=>?_)⟩
 ·have hy:y≠0:=by simpa[eqV]using z
  exact⟨hy,_,_,rfl,_,GcdM.fmod_less hy,y,x.fmod y,rfl,(GcdM.g_turnF hy).trans e,rfl⟩
 ·have hy:y=0:=by simpa[eqV]using z
  subst hy
  rw[GcdM.g_abs x]at e
  refine⟨_,rfl,?_⟩
  rw[e]
  exact q
def oK:PSp:=λas R=>∃ns:List Int,as=[.va (.seq false (ns.map iT))]/\ns≠[]/\R (zJh (cK ns))
theorem wU{n0 d:Int}:∀{ns:List Int}{s:Int},d ∣ ns.foldl (λs n=>GcdM.g s (n-n0)) s↔d ∣ s/\∀n∈ns,d ∣ (n-n0)
 |[],s=>⟨λh=>⟨h,λn hn=>nomatch hn⟩,λh=>h.1⟩
 |a::ns,s=>by
  rw[List.foldl_cons,wU,GcdM.g_dvd]
  constructor
  ·rintro⟨⟨h1,h2⟩,h3⟩
   refine⟨h1,λn hn=>?_⟩
   rcases List.mem_cons.mp hn with rfl|hn
   ·exact h2
   ·exact h3 n hn
  ·rintro⟨h1,h2⟩
   exact⟨⟨h1,h2 a (.head _)⟩,λn hn=>h2 n (.tail _ hn)⟩
theorem yI{n0:Int}:∀{ns:List Int}{s:Int},0<=s->0<=ns.foldl (λs n=>GcdM.g s (n-n0)) s
 |[],s,h=>h
 |a::ns,s,h=>by rw[List.foldl_cons];exact yI (GcdM.g_nonneg _ _)
theorem zJN(h:Has K mg "_law_run" zA8)(B:Own mg)(G29_:aE P w K mg base 1 "_law_divisor" ["_law_one","_law_other"] qB)   : aE P w K mg base 2 "_law_run" ["_law_numbers"] oK:=by
 refine h.pg1 ["_law_numbers","_law_step","_law_number_here"] (λnd hr=>
   (aG (bA 1 nd aD)
   (aG (hJ (m:=3) PassesOwn.never rfl (bO (aA 0)) (dH 2 (by decide) nd rfl (.inl rfl))
    (aJ (bA 1 nd (aL G29_ hr (aB (aA 1) (aB (aX jX (aA 2) (aN hr (aA 0) aD)) aC))))))
   (aJ (aM (cC (aB (bW (jY rfl) rfl B.min boot_min (aB (aA 0) aC)) (aB (bW (lL rfl) rfl B.max boot_max (aB (aA 0) aC)) (aB (aA 1) aC))))))))) (λas R q=>?_)
 obtain⟨ns,rfl,ne,q⟩:=q
 have l0:0<ns.length:=List.length_pos_iff.mpr ne
 obtain⟨n0,hn0⟩:∃n0,ns[0]?=some n0:=⟨_,List.getElem?_eq_getElem l0⟩
 have n0m:=List.mem_of_getElem? hn0
 have at0:atI (ns.map iT) 0=some (iT n0):=fP (j:=0) (by rw[List.getElem?_map,hn0];rfl)
 refine⟨rfl,?_⟩
 refine zZ iT (l:=ns) (λi ρ=>∃s2:Sl,ρ=[.va (.seq false (ns.map iT)),.va (iT ((ns.take i).foldl (λs n=>GcdM.g s (n-n0)) 0)),s2]) ⟨.no,rfl⟩ ?_ ?_
 ·rintro i a _ N ha ⟨s2,rfl⟩ hN
  refine⟨_,at0,_,a-n0,rfl,hN _ ⟨.va (iT a),?_⟩⟩
  rw[List.take_add_one,ha,List.foldl_append]
  rfl
 ·rintro _ ⟨s2,rfl⟩
  rw[List.take_length]
  refine .inr (.inl ⟨ns,rfl,l0,λlo lo1 lo2=>.inr (.inl ⟨ns,rfl,l0,λhi hi1 hi2=>⟨by simp,?_⟩⟩)⟩)
  have e:(lo,hi,ns.foldl (λs n=>GcdM.g s (n-n0)) 0)=cK ns:=qP ⟨lo1,lo2,hi1,hi2,yI (Int.le_refl 0),λd=>by
   show d ∣ ns.foldl (λs n=>GcdM.g s (n-n0)) 0↔∀n,n∈ns->d ∣ (n-lo)
   rw[wU]
   constructor
   ·rintro⟨_,h⟩ n hn
    have:=Int.dvd_sub (h n hn) (h lo lo1)
    rwa[show n-n0-(lo-n0)=n-lo by omega]at this
   ·intro h
    refine⟨Int.dvd_zero _,λn hn=>?_⟩
    have:=Int.dvd_sub (h n hn) (h n0 n0m)
    rwa[show n-lo-(n0-lo)=n-n0 by omega]at this⟩
  rw[<-e]at q
  exact q
theorem pT{t h:Str}(e:stW t h=true):cs t=cs h++cs (bE t h)/\(bE t h).length+h.length=t.length:=by
 obtain⟨r,er⟩:=stW_iff.mp e
 have:=lB er
 refine⟨by rw[this];exact er,?_⟩
 have l:=congrArg List.length er
 rw[List.length_append,<-WordM.len,<-WordM.len]at l
 rw[WordM.len (bE t h),this]
 omega
theorem zAe:∀{ss:List Str}{m:Nat},(∀s∈ss,s.length<=m)->(bH ss).length<=ss.length*m
 |[],m,_=>by simp[bH]
 |s::ss,m,h=>by
  have h1:=h s (.head _)
  have h2:=zAe (ss:=ss) (m:=m) λt ht=>h t (.tail _ ht)
  have e:(bH (s::ss)).length=s.length+(bH ss).length:=by simp[bH,Str.length]
  rw[e,List.length_cons,Nat.succ_mul]
  omega
theorem zF9{ss:List Str}{s:Str}{c:Nat}(hs:s∈ss)(hc:c∈cs s):c∈bH ss:=by
 unfold bH
 exact List.mem_flatMap.mpr ⟨s,hs,hc⟩
def nJ:PSp:=λas R=>∃ss:List Str,as=[.va (.seq false (ss.map sT))]/\ss≠[]/\(∀s∈ss,Sg s/\s.length<=43)/\(bG ss).length<64/\R (fW (fE ss))
theorem zJO(h:Has K mg "_law_words" kR)(B:Own mg)(G24_:aE P w K mg base 1 "_law_mark" ["_law_sign"] nZ)   : aE P w K mg base 2 "_law_words" ["_law_texts"] nJ:=by
 refine h.pg1 ["_law_texts","_law_some","_law_head","_law_rests","_law_longs","_law_marks"] (λnd hr=>
   (aG (bA 1 nd (aP (vB rfl rfl B.sorted rfl B.set_ (aA 0))))
   (aG (aV (eE zAO (bW eC rfl B.len PySem.boot_len (aB (aA 1) aC)) aD)
    (aJ (aM (cC (aB aO (aB (gW iO rfl B.tuple_ boot_tuple (aB (aA 1) aC)) aC)))))
    aU)
   (aG (bA 2 nd (aN hr (aA 1) aD))
   (aG (qM PassesOwn.never (dO hr (aP (kD (sc:=aI kR) (XN:=["_law_texts","_law_some","_law_head","_law_rests","_law_longs","_law_marks"]) (N:=["_law_text_here","_law_head"]) (fr:=[2]) (bO (aA 1)) (λ_ _ _ _ _=>(fS (eN (bI (lH PySem.F.slot_str_startswith PySem.F.type_str_startswith wG (aA 0) (aB (aA 1) aC)))))) (λ_ _ _ _ _=>(aA 0)))) (aP (bS aC)))
    (aJ (bA 2 nd (gY iC (aA 2) hE (hC (zAI zAu aD))))))
   (aG (fU (sc:=aI kR) (XN:=["_law_texts","_law_some","_law_head","_law_rests","_law_longs","_law_marks"]) (N:=["_law_text_here","_law_head"]) (fr:=[2]) 3 nd (bO (aA 1)) (λ_ _ _ _ _=>gA) (λ_ _ _ _ _=>(gY iC (aA 0) (hC (bW eC rfl B.len PySem.boot_len (aB (aA 1) aC))) hE)))
   (aG (fU (sc:=aI kR) (XN:=["_law_texts","_law_some","_law_head","_law_rests","_law_longs","_law_marks"]) (N:=["_law_rest"]) (fr:=[]) 4 nd (bO (aA 3)) (λ_ _ _ _ _=>gA) (λ_ _ _ _ _=>(bW eC rfl B.len PySem.boot_len (aB (aA 0) aC))))
   (aG (bA 5 nd (aP (vB rfl rfl B.sorted rfl B.set_ (aP (eD (sc:=aI kR) (XN:=["_law_texts","_law_some","_law_head","_law_rests","_law_longs","_law_marks"]) (N:=["_law_sign"]) (fr:=[]) (bO (lH PySem.F.slot_str_join PySem.F.type_str_join zI aO (aB (aA 3) aC))) (λ_ _ _ _ _=>(aL G24_ hr (aB (aA 0) aC))))))))
   (aJ (aM (cC (aB aO (aB (aA 2) (aB (bW (jY rfl) rfl B.min boot_min (aB (aA 4) aC)) (aB (bW (lL rfl) rfl B.max boot_max (aB (aA 4) aC)) (aB (gW iO rfl B.tuple_ boot_tuple (aB (aA 5) aC)) aC)))))))))))))))) (λas R q=>?_)
 obtain⟨ss,rfl,ne,ht,l64,q⟩:=q
 have hl:(cG (bG ss)).length=(bG ss).length:=pX _
 have hr:=pJ ss
 have hm:∀x,x∈cG (bG ss)↔x∈ss:=λx=>pL
 have hne:0<(bG ss).length:=by
  obtain⟨x,hx⟩:=List.exists_mem_of_ne_nil _ ne
  exact List.length_pos_of_mem ((kZ ss x).mpr hx)
 have ewd:fE ss=if (bG ss).length<7 then .few (cG (bG ss)) else kS ss:=rfl
 refine⟨rfl,ss,rfl,l64,?_⟩
 generalize cG (bG ss)=us at hl hr hm ewd
 have hu:∀t∈us,Sg t/\t.length<=43:=λt h=>ht t ((hm t).mp h)
 refine⟨_,rfl,sif (λz=>?_) (λz=>?_)⟩
 ·have z:((us.map sT).length:Int)<7:=by simpa using z
  rw[List.length_map]at z
  rw[ewd,if_pos (by omega)]at q
  exact⟨_,_,rfl,by simp,q⟩
 have z:¬ ((us.map sT).length:Int)<7:=by simpa using z
 rw[List.length_map]at z
 have nd:us.Nodup:=zCq hr
 obtain⟨x0,hx0⟩:∃x0,us[0]?=some x0:=⟨_,List.getElem?_eq_getElem (by omega)⟩
 have at0:atI (us.map sT) 0=some (sT x0):=fP (j:=0) (by rw[List.getElem?_map,hx0];rfl)
 have x0m:=List.mem_of_getElem? hx0
 refine⟨_,at0,?_⟩
 refine⟨λm ρ=>∃(h:Str) (s3 s4 s5:Sl),m=h.length/\Sg h/\h.length<=43/\((∃r,cs x0=cs h++r)/\∀h':List Nat,(∀t∈us,∃r,cs t=h'++r)->h'.length<=(cs h).length)/\ρ=[.va (.seq false (ss.map sT)),.va (.seq false (us.map sT)),.va (sT h),s3,s4,s5],⟨_,x0,_,_,_,rfl,(hu x0 x0m).1,(hu x0 x0m).2,⟨⟨[],by rw[List.append_nil]⟩,λh' hh=>by obtain⟨r,e⟩:=hh x0 x0m;rw[e,List.length_append];omega⟩,rfl⟩,?_⟩
 rintro m _ ⟨h,s3,s4,s5,rfl,sh,lh,⟨hpre,htop⟩,rfl⟩
 refine⟨by rw[List.length_map];omega,?_⟩
 refine jL sT (λt=>if stW t h=true then none else some (sT t)) (λt ht' R q=>⟨rfl,_,_,rfl,rfl,_,rfl,sif (λz=>?_) (λz=>?_)⟩) ?_
 ·have z:(!stW t h)=true:=z
  have z:stW t h=false:=by cases e:stW t h with|false=>rfl|true=>rw[e]at z;cases z
  rw[if_neg (by rw[z];exact Bool.false_ne_true)]at q
  exact q
 ·have z:(!stW t h)=false:=z
  have z:stW t h=true:=by cases e:stW t h with|true=>rfl|false=>rw[e]at z;cases z
  rw[if_pos z]at q
  exact q
 refine⟨by simp,.inr (.inl rfl),_,rfl,sif (λz=>?_) (λz=>?_)⟩
 ·have hpos:0<h.length:=by
   refine Nat.pos_of_ne_zero λe=>?_
   have:(us.filterMap λt=>if stW t h=true then none else some (sT t))=[]:=List.filterMap_eq_nil_iff.mpr λt _=>by
    rw[if_pos]
    refine stW_iff.mpr ⟨cs t,?_⟩
    rw[WordM.len]at e
    rw[List.eq_nil_of_length_eq_zero e];rfl
   rw[this]at z
   simp[bJ]at z
  have l':=zBE hpos
  have cl':=vJ hpos
  have hlen:h.length=(cs h).length:=WordM.len h
  have nst:¬ ∀t∈us,stW t h=true:=λhall=>by
   have:(us.filterMap λt=>if stW t h=true then none else some (sT t))=[]:=List.filterMap_eq_nil_iff.mpr λt ht'=>by rw[if_pos (hall t ht')]
   rw[this]at z
   simp[bJ]at z
  refine⟨_,rfl,by omega,_,by rw[l'];omega,Txt.slice h none (some (-1)),_,_,_,rfl,sh.slice _ _,by rw[l'];omega,⟨?_,λh' hh=>?_⟩,rfl⟩
  ·obtain⟨r,e⟩:=hpre
   refine⟨(cs h).drop (h.length-1)++r,?_⟩
   rw[cl',<-List.append_assoc,List.take_append_drop]
   exact e
  ·rw[cl',List.length_take]
   have h1:=htop h' hh
   have:h'.length≠(cs h).length:=λe=>nst λt ht'=>by
    obtain⟨r1,e1⟩:=hpre
    obtain⟨r2,e2⟩:=hh x0 x0m
    have eh:h'=cs h:=List.append_inj_left (e2.symm.trans e1) e
    obtain⟨r,e3⟩:=hh t ht'
    exact stW_iff.mpr ⟨r,by rw[e3,eh]⟩
   omega
 have hall:∀t∈us,stW t h=true:=by
  have:(us.filterMap λt=>if stW t h=true then none else some (sT t))=[]:=by
   generalize (us.filterMap λt=>if stW t h=true then none else some (sT t))=L at z
   cases L with
   |nil=>rfl
   |cons a L=>simp[bJ]at z
  intro t ht'
  have:=List.filterMap_eq_nil_iff.mp this t ht'
  cases e:stW t h with
  |true=>rfl
  |false=>rw[e]at this;simp at this
 have rl:∀t∈us,(bE t h).length<=43:=λt ht'=>by
  have:=(pT (hall t ht')).2
  have:=(hu t ht').2
  omega
 refine⟨by rw[List.length_map];omega,eM sT (λt=>sT (bE t h)) (λt ht' R q=>⟨by omega,_,rfl,by have:=(hu t ht').2;omega,q⟩) ?_⟩
 refine⟨by rw[List.length_map];omega,eM (λt=>sT (bE t h)) (λt=>iT ((bE t h).length:Nat)) (λt ht' R q=>⟨by have:=rl t ht';omega,q⟩) ?_⟩
 have cl:(bH (us.map λt=>bE t h)).length<=64*43:=by
  have:=zAe (ss:=us.map λt=>bE t h) (m:=43) λs hs=>by
   obtain⟨t,ht',rfl⟩:=List.mem_map.mp hs
   exact rl t ht'
  rw[List.length_map]at this
  have:=Nat.mul_le_mul_right 43 (show us.length<=64 by omega)
  omega
 refine⟨rfl,us.map λt=>bE t h,rfl,by rw[List.map_map];rfl,by omega,?_⟩
 refine⟨by rw[List.length_map];show(bH (us.map λt=>bE t h)).length<=100000;omega,?_⟩
 refine eM (λc:Nat=>sT ⟨#[c]⟩) (λc=>sT (cE c)) (λc hc R q=>⟨c,rfl,q⟩) ?_
 have mkm:∀m∈(bH (us.map λt=>bE t h)).map cE,m∈MK:=λm hm=>by
  obtain⟨c,_,rfl⟩:=List.mem_map.mp hm
  exact WordM.mark_in c
 have sl4:(bG ((bH (us.map λt=>bE t h)).map cE)).length<=4:=WordM.nodup_len (rG _) (m:=MK) λx hx=>mkm x ((kZ _ x).mp hx)
 refine⟨(bH (us.map λt=>bE t h)).map cE,by rw[List.map_map];rfl,by omega,?_⟩
 have en:(us.map λt=>iT ((bE t h).length:Nat))=(us.map λt=>(((bE t h).length:Nat):Int)).map iT:=by rw[List.map_map];rfl
 refine .inr (.inl ⟨us.map λt=>(((bE t h).length:Nat):Int),by rw[<-en],by rw[List.length_map];omega,λlo lo1 lo2=>.inr (.inl ⟨us.map λt=>(((bE t h).length:Nat):Int),by rw[<-en],by rw[List.length_map];omega,λhi hi1 hi2=>⟨_,_,rfl,by simp,?_⟩⟩)⟩)
 have rf:∀t∈us,(t.length:Int)-(h.length:Int)=((bE t h).length:Nat):=λt ht'=>by have:=(pT (hall t ht')).2;omega
 have mo:MOf us h lo hi (cG (bG ((bH (us.map λt=>bE t h)).map cE))):=by
  obtain⟨t1,t1m,e1⟩:=List.mem_map.mp lo1
  obtain⟨t2,t2m,e2⟩:=List.mem_map.mp hi1
  refine⟨⟨λt ht'=>⟨_,(pT (hall t ht')).1⟩,htop⟩,⟨t1,t1m,by rw[rf t1 t1m];exact e1⟩,λt ht'=>by rw[rf t ht'];exact lo2 _ (List.mem_map.mpr ⟨t,ht',rfl⟩),⟨t2,t2m,by rw[rf t2 t2m];exact e2⟩,λt ht'=>by rw[rf t ht'];exact hi2 _ (List.mem_map.mpr ⟨t,ht',rfl⟩),?_⟩
  refine mS (pJ _) (mG _ _) λm=>?_
  rw[pL,mJ,List.mem_map]
  constructor
  ·rintro⟨c,hc,e⟩
   obtain⟨x,hx,hc⟩:=List.mem_flatMap.mp (show c∈(us.map λt=>bE t h).flatMap cs from hc)
   obtain⟨t,ht',rfl⟩:=List.mem_map.mp hx
   exact⟨t,ht',c,hc,e⟩
  ·rintro⟨t,ht',c,hc,e⟩
   exact⟨c,zF9 (List.mem_map.mpr ⟨t,ht',rfl⟩) hc,e⟩
 rw[ewd,if_neg (by omega),zFU (us:=us) ne λx=>(hm x).symm,<-rR mo]at q
 exact q
end
section
variable{P:Program}{w:World}{K:W.Frag}{mg:Str->Option Value}{base:Heap}
theorem nP{b:Bool}{A:UTs}{P:PEnds}{ρ:aH}{α:Type}{J:α->Prop}(e:α->aH)(h1:b=true->(∀x,J x->P.nx (e x))->A P ρ)(h2:b=false->∃x,J x/\e x=ρ)(rest:∀x,J x->P.nx (e x)):if b=true then A P ρ else zA7 P ρ:=by
 cases b with
 |true=>exact aZ (h1 rfl rest)
 |false=>
  obtain⟨x,hx,rfl⟩:=h2 rfl
  exact aK (rest x hx)
theorem pD{N:aH->Prop}{ρ ρ':aH}(h:N ρ')(e:ρ=ρ'):N ρ:=e▸h
def sel(k:Nat)(l:List Tv):List Tv:=l.filterMap λv=>bif bL v==k then some v else none
theorem sel_mem{k:Nat}{l:List Tv}{v:Tv}:v∈sel k l↔v∈l/\bL v=k:=by
 unfold sel
 rw[List.mem_filterMap]
 constructor
 ·rintro⟨a,ha,e⟩
  cases c:bL a==k with
  |true=>rw[c]at e;cases e;exact⟨ha,by simpa using c⟩
  |false=>rw[c]at e;cases e
 ·rintro⟨h,e⟩
  exact⟨v,h,by rw[e];simp⟩
theorem zC(k:Nat)(l:List Tv):(sel k l).length<=l.length:=List.length_filterMap_le _ _
theorem yN(D:List Tv->List Pt)(k:Nat):cB D [] k=none:=by
 unfold cB
 split<;>rfl
def oA:PSp:=λas R=>∃vs:List Tv,as=[.va (.seq false vs)]/\(∀v∈vs,Lv v)/\vs.length<=60/\R (dB (eV 1 vs))
def Stg(n:Nat)(vs:List Tv)(c:Nat)(f:List Pt):Prop:=f=(kN6.take c).filterMap (cB (eV (n-1)) vs)
theorem Stg.nil(n:Nat)(vs:List Tv):Stg n vs 0 []:=rfl
theorem zHE{c:Nat}(h:c<6):kN6[c]?=some c:=by
 have:c=0\/c=1\/c=2\/c=3\/c=4\/c=5:=by omega
 rcases this with rfl|rfl|rfl|rfl|rfl|rfl<;>rfl
theorem Stg.next{n c:Nat}{vs:List Tv}{f:List Pt}(h:Stg n vs c f)(hc:c<6):(kN6.take (c+1)).filterMap (cB (eV (n-1)) vs)=f++(cB (eV (n-1)) vs c).toList:=by
 rw[List.take_add_one,List.filterMap_append,zHE hc,<-(show f=_ from h)]
 cases e:cB (eV (n-1)) vs c<;>simp[e]
theorem Stg.skip{n c:Nat}{vs:List Tv}{f:List Pt}(h:Stg n vs c f)(hc:c<6)(e:cB (eV (n-1)) vs c=none):Stg n vs (c+1) f:=by
 show f=_
 rw[h.next hc,e];simp
theorem Stg.add{n c:Nat}{vs:List Tv}{f:List Pt}{p:Pt}(h:Stg n vs c f)(hc:c<6)(e:cB (eV (n-1)) vs c=some p):Stg n vs (c+1) (f++[p]):=by
 show f++[p]=_
 rw[h.next hc,e];simp
theorem Stg.len{n c:Nat}{vs:List Tv}{f:List Pt}(h:Stg n vs c f):f.length<=6:=by
 rw[show f=_ from h]
 exact Nat.le_trans (List.length_filterMap_le _ _) (by rw[List.length_take];exact Nat.min_le_right _ _)
theorem Stg.form{n:Nat}{vs:List Tv}{f:List Pt}(h:Stg n vs 6 f)(hn:n=0->vs=[]):f=eV n vs:=by
 have h:f=kN6.filterMap (cB (eV (n-1)) vs):=h
 cases n with
 |zero=>
  rw[h,hn rfl,List.filterMap_eq_nil_iff.mpr λk _=>yN _ k]
  rfl
 |succ n=>exact h
theorem sK{α:Type}{f:Tv->Option α}{c:α->Tv}{k:Nat}{vs:List Tv}(h:∀v∈vs,(bif bL v==k then some v else none)=(f v).map c):sel k vs=(vs.filterMap f).map c:=by
 unfold sel
 induction vs with
 |nil=>rfl
 |cons v vs ih=>
  rw[List.filterMap_cons,List.filterMap_cons,h v (.head _),ih λx hx=>h x (.tail _ hx)]
  cases f v<;>rfl
theorem has0{vs:List Tv}:(vs.filterMap λv=>bif bL v==0 then some (iT 1) else none)=[]↔dF vs=false:=by
 unfold dF
 rw[List.filterMap_eq_nil_iff,List.any_eq_false]
 constructor
 ·intro h v hv z
  have:=h v hv
  rw[z]at this
  cases this
 ·intro h v hv
  have:=h v hv
  cases c:bL v==0 with
  |true=>exact absurd c this
  |false=>rfl
theorem neNil{L:List Tv}:(true != (true&&bJ L []))=true↔L≠[]:=by
 cases L with
 |nil=>simp[bJ]
 |cons a L=>simp[bJ]
theorem oO{L:List Tv}(z:(true != (false==false&&bJ L []))=false):L=[]:=by
 cases L with
 |nil=>rfl
 |cons a L=>simp[bJ]at z
theorem zKg:bN ["_law_dicts_here","_law_names","_law_one","_law_least","_law_most","_law_values","_law_fields","_law_name"] ["_law_dicts_here"] (aI tN):=fsc (by decide +kernel)
theorem zJM(h:Has K mg "_law_dicts" tN)(B:Own mg):aE P w K mg base 1 "_law_dicts" ["_law_dicts_here"] bP:=h.pfalse zKg (fun|_,_,_,_,_,_,[_],_=>rfl) λas R h=>h
theorem zKf:bN ["_law_values","_law_form_here","_law_truths","_law_numbers","_law_texts","_law_lists","_law_longs","_law_items","_law_row","_law_dicts_here"] ["_law_values"] (aI fG):=fsc (by decide +kernel)
theorem zJL(h:Has K mg "_law_due" fG)(B:Own mg)(G31_:aE P w K mg base 2 "_law_run" ["_law_numbers"] oK)(G30_:aE P w K mg base 2 "_law_words" ["_law_texts"] nJ)(G33_:aE P w K mg base 1 "_law_due" ["_law_values"] bP)(G32_:aE P w K mg base 1 "_law_dicts" ["_law_dicts_here"] bP)   : aE P w K mg base 4 "_law_due" ["_law_values"] oA:=by
 refine h.pg1 ["_law_values","_law_form_here","_law_truths","_law_numbers","_law_texts","_law_lists","_law_longs","_law_items","_law_row","_law_dicts_here"] (λnd hr=>
   (aG (iZ 1 nd (bS aC))
   (aG (aV (dO hr (aP (kD (sc:=aI fG) (XN:=["_law_values","_law_form_here","_law_truths","_law_numbers","_law_texts","_law_lists","_law_longs","_law_items","_law_row","_law_dicts_here"]) (N:=["_law_value"]) (fr:=[]) (bO (aA 0)) (λ_ _ _ _ _=>(fS (eE iV (aA 0) hV))) (λ_ _ _ _ _=>aD))) (aP (bS aC)))
    (aJ (fA (fY 1 (cC (aB aO aC)))))
    aU)
   (aG (bA 2 nd (aP (zB3 rfl rfl B.sorted rfl B.set_ (aP (kD (sc:=aI fG) (XN:=["_law_values","_law_form_here","_law_truths","_law_numbers","_law_texts","_law_lists","_law_longs","_law_items","_law_row","_law_dicts_here"]) (N:=["_law_value"]) (fr:=[]) (bO (aA 0)) (λ_ _ _ _ _=>(fS (bI (bC "bool" gV rfl B.isinstance (aA 0) (bB (v:=.ty "bool") rfl B.bool_ boot_bool rfl))))) (λ_ _ _ _ _=>(aA 0)))))))
   (aG (aV (dO hr (aA 2) (aP (bS aC)))
    (aJ (fA (fY 1 (cC (aB aO (aB (gW iO rfl B.tuple_ boot_tuple (aB (aA 2) aC)) aC))))))
    aU)
   (aG (fU (sc:=aI fG) (XN:=["_law_values","_law_form_here","_law_truths","_law_numbers","_law_texts","_law_lists","_law_longs","_law_items","_law_row","_law_dicts_here"]) (N:=["_law_value"]) (fr:=[]) 3 nd (bO (aA 0)) (λ_ _ _ _ _=>(fS (cW (sF (bI (bC "int" iJ rfl B.isinstance (aA 0) (bB (v:=.ty "int") rfl B.int_ boot_int rfl))) (yS (eN (bI (bC "bool" gV rfl B.isinstance (aA 0) (bB (v:=.ty "bool") rfl B.bool_ boot_bool rfl))))))))) (λ_ _ _ _ _=>(aA 0)))
   (aG (aV (dO hr (aA 3) (aP (bS aC)))
    (aJ (fA (fY 1 (aX cI (cC (aB aO aC)) (aL G31_ hr (aB (aA 3) aC))))))
    aU)
   (aG (fU (sc:=aI fG) (XN:=["_law_values","_law_form_here","_law_truths","_law_numbers","_law_texts","_law_lists","_law_longs","_law_items","_law_row","_law_dicts_here"]) (N:=["_law_value"]) (fr:=[]) 4 nd (bO (aA 0)) (λ_ _ _ _ _=>(fS (bI (bC "str" iI rfl B.isinstance (aA 0) (bB (v:=.ty "str") rfl B.str_ boot_str rfl))))) (λ_ _ _ _ _=>(aA 0)))
   (aG (aV (dO hr (aA 4) (aP (bS aC)))
    (aJ (fA (fY 1 (cC (aB aO (aB (aL G30_ hr (aB (aA 4) aC)) aC))))))
    aU)
   (aG (fU (sc:=aI fG) (XN:=["_law_values","_law_form_here","_law_truths","_law_numbers","_law_texts","_law_lists","_law_longs","_law_items","_law_row","_law_dicts_here"]) (N:=["_law_value"]) (fr:=[]) 5 nd (bO (aA 0)) (λ_ _ _ _ _=>(fS (bI (bC "list" fL rfl B.isinstance (aA 0) (bB (v:=.ty "list") rfl B.list_ boot_list rfl))))) (λ_ _ _ _ _=>(aA 0)))
   (aG (aV (dO hr (aA 5) (aP (bS aC)))
    (aG (fU (sc:=aI fG) (XN:=["_law_values","_law_form_here","_law_truths","_law_numbers","_law_texts","_law_lists","_law_longs","_law_items","_law_row","_law_dicts_here"]) (N:=["_law_row"]) (fr:=[]) 6 nd (bO (aA 5)) (λ_ _ _ _ _=>gA) (λ_ _ _ _ _=>(bW eC rfl B.len PySem.boot_len (aB (aA 0) aC))))
    (aG (iZ 7 nd (bS aC))
    (aG (hJ (m:=10) PassesOwn.never rfl (bO (aA 5)) (dH 8 (by decide) nd rfl (.inl rfl))
     (aJ (fA (vY 7 (aA 8)))))
    (aJ (fA (fY 1 (cC (aB aO (aB (bW (jY rfl) rfl B.min boot_min (aB (aA 6) aC)) (aB (bW (lL rfl) rfl B.max boot_max (aB (aA 6) aC)) (aB (aL G33_ hr (aB (aA 7) aC)) aC)))))))))))
    aU)
   (aG (fU (sc:=aI fG) (XN:=["_law_values","_law_form_here","_law_truths","_law_numbers","_law_texts","_law_lists","_law_longs","_law_items","_law_row","_law_dicts_here"]) (N:=["_law_value"]) (fr:=[]) 9 nd (bO (aA 0)) (λ_ _ _ _ _=>(fS (bI (bC "dict" gU rfl B.isinstance (aA 0) (bB (v:=.ty "dict") rfl B.dict_ boot_dict rfl))))) (λ_ _ _ _ _=>(aA 0)))
   (aG (aV (dO hr (aA 9) (aP (bS aC)))
    (aJ (fA (fY 1 (aL G32_ hr (aB (aA 9) aC)))))
    aU)
   (aJ (aM (gW iO rfl B.tuple_ boot_tuple (aB (aA 1) aC))))))))))))))))) (λas R q=>?_)
 obtain⟨vs,rfl,hv,vl60,q⟩:=q
 have vl:vs.length<=100000:=by omega
 refine⟨rfl,by simp,?_⟩
 refine⟨vl,fM (λv=>bif bL v==0 then some (iT 1) else none) (λv hvm R q=>?_) ?_⟩
 ·rcases hv v hvm with rfl|⟨b,rfl⟩|⟨i,rfl⟩|⟨s,rfl,_⟩<;>first|exact⟨_,rfl,aZ q⟩|exact⟨_,rfl,aK q⟩
 refine⟨by simp,.inr (.inl rfl),_,rfl,nP (J:=Stg 1 vs 1) (λf=>[.va (.seq false vs),.own (f.map aW),.no,.no,.no,.no,.no,.no,.no,.no]) (λz rest=>?_) (λz=>?_) (λf hf=>?_)⟩
 ·have z:=neNil.mp z
  have k0:dF vs=true:=by
   cases e:dF vs with
   |true=>rfl
   |false=>exact absurd (has0.mpr e) z
  exact⟨⟨_,rfl⟩,by simp,_,rfl,by simp,pD (rest [.nothing] ((Stg.nil _ _).add (by decide) (by show(if dF vs=true then _ else _)=_;rw[if_pos k0]))) (by simp only[List.map_cons,List.map_nil,aW];rfl)⟩
 ·have k0:=has0.mp (oO z)
  exact⟨[],(Stg.nil 1 vs).skip (by decide) (by show(if dF vs=true then _ else _)=_;rw[k0,if_neg Bool.false_ne_true]),rfl⟩
 refine⟨vl,fM (λv=>bif bL v==1 then some v else none) (λv hvm R q=>?_) ?_⟩
 ·rcases hv v hvm with rfl|⟨b,rfl⟩|⟨i,rfl⟩|⟨s,rfl,_⟩<;>first|exact⟨_,rfl,aZ q⟩|exact⟨_,rfl,aK q⟩
 have ebs:sel 1 vs=(vs.filterMap asB).map bT:=sK λv h=>by
  rcases hv v h with rfl|⟨b,rfl⟩|⟨i,rfl⟩|⟨s,rfl,_⟩<;>rfl
 generalize hbs:vs.filterMap asB=bs at ebs
 refine⟨bs,by rw[<-ebs];rfl,?_⟩
 generalize hu:(usB (inF bs) (inT bs))=us
 refine⟨by simp,.inr (.inl rfl),_,rfl,nP (J:=Stg 1 vs 2) (λf=>[.va (.seq false vs),.own (f.map aW),.va (.seq false (us.map bT)),.no,.no,.no,.no,.no,.no,.no]) (λz rest=>?_) (λz=>?_) (λf hf=>?_)⟩
 ·have z:=neNil.mp z
  have une:us≠[]:=λe=>z (by rw[e];rfl)
  have bne:bs≠[]:=λe=>une (by rw[<-hu,e];rfl)
  have hl6:=hf.len
  exact⟨⟨_,rfl⟩,_,_,rfl,by simp,_,rfl,by rw[List.length_map];omega,pD (rest (f++[.truths us]) (hf.add (by decide) (by show(if vs.filterMap asB=[] then _ else some (Pt.truths (usB (inF (vs.filterMap asB)) (inT (vs.filterMap asB)))))=_;rw[hbs,if_neg bne,hu]))) (by rw[List.map_append];simp only[List.map_cons,List.map_nil,aW];rfl)⟩
 ·have z:us=[]:=List.map_eq_nil_iff.mp (oO z)
  have be:bs=[]:=by
   rw[z]at hu
   cases bs with
   |nil=>rfl
   |cons b bs=>cases b<;>simp[usB,inF,inT]at hu
  exact⟨f,hf.skip (by decide) (by show(if vs.filterMap asB=[] then _ else _)=_;rw[hbs,if_pos be]),rfl⟩
 clear ebs
 refine⟨vl,fM (λv=>bif bL v==2 then some v else none) (λv hvm R q=>?_) ?_⟩
 ·rcases hv v hvm with rfl|⟨b,rfl⟩|⟨i,rfl⟩|⟨s,rfl,_⟩
  ·exact⟨_,rfl,aK (aK q)⟩
  ·exact⟨_,rfl,aZ ⟨_,rfl,aK q⟩⟩
  ·exact⟨_,rfl,aZ ⟨_,rfl,aZ q⟩⟩
  ·exact⟨_,rfl,aK (aK q)⟩
 have ens:sel 2 vs=(vs.filterMap asI).map iT:=sK λv h=>by
  rcases hv v h with rfl|⟨b,rfl⟩|⟨i,rfl⟩|⟨s,rfl,_⟩<;>rfl
 generalize hns:vs.filterMap asI=ns at ens
 have ens':(vs.filterMap λv=>bif bL v==2 then some v else none)=ns.map iT:=ens
 rw[ens']
 have nsl:ns.length<=vs.length:=by have:=zC 2 vs;rw[ens,List.length_map]at this;exact this
 refine⟨by simp,.inr (.inl rfl),_,rfl,nP (J:=Stg 1 vs 3) (λf=>[.va (.seq false vs),.own (f.map aW),.va (.seq false (us.map bT)),.va (.seq false (ns.map iT)),.no,.no,.no,.no,.no,.no]) (λz rest=>?_) (λz=>?_) (λf hf=>?_)⟩
 ·have z:=neNil.mp z
  have nne:ns≠[]:=λe=>z (by rw[e];rfl)
  have hl6:=hf.len
  exact⟨⟨_,rfl⟩,by simp,ns,rfl,nne,by simp,_,rfl,by rw[List.length_map];omega,pD (rest (f++[.numbers (cK ns).1 (cK ns).2.1 (cK ns).2.2]) (hf.add (by decide) (by show(if vs.filterMap asI=[] then _ else some (Pt.numbers (cK (vs.filterMap asI)).1 (cK (vs.filterMap asI)).2.1 (cK (vs.filterMap asI)).2.2))=_;rw[hns,if_neg nne]))) (by rw[List.map_append];simp only[List.map_cons,List.map_nil,aW];rfl)⟩
 ·have z:=oO z
  exact⟨f,hf.skip (by decide) (by show(if vs.filterMap asI=[] then _ else _)=_;rw[hns,if_pos (List.map_eq_nil_iff.mp z)]),rfl⟩
 clear ens ens' nsl
 refine⟨vl,fM (λv=>bif bL v==3 then some v else none) (λv hvm R q=>?_) ?_⟩
 ·rcases hv v hvm with rfl|⟨b,rfl⟩|⟨i,rfl⟩|⟨s,rfl,_⟩<;>first|exact⟨_,rfl,aZ q⟩|exact⟨_,rfl,aK q⟩
 have ets:sel 3 vs=(vs.filterMap asS).map sT:=sK λv h=>by
  rcases hv v h with rfl|⟨b,rfl⟩|⟨i,rfl⟩|⟨s,rfl,_⟩<;>rfl
 generalize hts:vs.filterMap asS=ts at ets
 have ets':(vs.filterMap λv=>bif bL v==3 then some v else none)=ts.map sT:=ets
 rw[ets']
 refine⟨by simp,.inr (.inl rfl),_,rfl,nP (J:=Stg 1 vs 4) (λf=>[.va (.seq false vs),.own (f.map aW),.va (.seq false (us.map bT)),.va (.seq false (ns.map iT)),.va (.seq false (ts.map sT)),.no,.no,.no,.no,.no]) (λz rest=>?_) (λz=>?_) (λf hf=>?_)⟩
 ·have z:=neNil.mp z
  have tne:ts≠[]:=λe=>z (by rw[e];rfl)
  have hl6:=hf.len
  have tm:∀s∈ts,Sg s/\s.length<=43:=λs hs=>by
   have:sT s∈sel 3 vs:=by rw[ets];exact List.mem_map.mpr ⟨s,hs,rfl⟩
   rcases hv _ (sel_mem.mp this).1 with e|⟨b,e⟩|⟨i,e⟩|⟨s',e,h⟩<;>cases e
   exact h
  have tl:ts.length<=vs.length:=by have:=zC 3 vs;rw[ets,List.length_map]at this;exact this
  have sl:(bG ts).length<=ts.length:=WordM.nodup_len (rG ts) λx hx=>(kZ _ x).mp hx
  exact⟨⟨_,rfl⟩,ts,rfl,tne,tm,by omega,by simp,_,rfl,by rw[List.length_map];omega,pD (rest (f++[.texts (fE ts)]) (hf.add (by decide) (by show(if vs.filterMap asS=[] then _ else some (Pt.texts (fE (vs.filterMap asS))))=_;rw[hts,if_neg tne]))) (by rw[List.map_append];simp only[List.map_cons,List.map_nil,aW];rfl)⟩
 ·have z:=oO z
  exact⟨f,hf.skip (by decide) (by show(if vs.filterMap asS=[] then _ else _)=_;rw[hts,if_pos (List.map_eq_nil_iff.mp z)]),rfl⟩
 clear ets ets'
 refine⟨vl,fM (λv=>bif bL v==4 then some v else none) (λv hvm R q=>?_) ?_⟩
 ·rcases hv v hvm with rfl|⟨b,rfl⟩|⟨i,rfl⟩|⟨s,rfl,_⟩<;>first|exact⟨_,rfl,aZ q⟩|exact⟨_,rfl,aK q⟩
 have e4:(vs.filterMap λv=>bif bL v==4 then some v else none)=[]:=List.filterMap_eq_nil_iff.mpr λv h=>by
  rcases hv v h with rfl|⟨b,rfl⟩|⟨i,rfl⟩|⟨s,rfl,_⟩<;>rfl
 have l4:vs.filterMap asL=[]:=List.filterMap_eq_nil_iff.mpr λv h=>by
  rcases hv v h with rfl|⟨b,rfl⟩|⟨i,rfl⟩|⟨s,rfl,_⟩<;>rfl
 have l5:vs.filterMap asD=[]:=List.filterMap_eq_nil_iff.mpr λv h=>by
  rcases hv v h with rfl|⟨b,rfl⟩|⟨i,rfl⟩|⟨s,rfl,_⟩<;>rfl
 rw[e4]
 refine⟨by simp,.inr (.inl rfl),_,rfl,aK ?_⟩
 refine⟨vl,fM (λv=>bif bL v==5 then some v else none) (λv hvm R q=>?_) ?_⟩
 ·rcases hv v hvm with rfl|⟨b,rfl⟩|⟨i,rfl⟩|⟨s,rfl,_⟩<;>first|exact⟨_,rfl,aZ q⟩|exact⟨_,rfl,aK q⟩
 have e5:(vs.filterMap λv=>bif bL v==5 then some v else none)=[]:=List.filterMap_eq_nil_iff.mpr λv h=>by
  rcases hv v h with rfl|⟨b,rfl⟩|⟨i,rfl⟩|⟨s,rfl,_⟩<;>rfl
 rw[e5]
 refine⟨by simp,.inr (.inl rfl),_,rfl,aK ?_⟩
 have h6:Stg 1 vs 6 f:=(hf.skip (by decide) (by show(if vs.filterMap asL=[] then _ else _)=_;rw[if_pos l4])).skip (by decide) (by show(if vs.filterMap asD=[] then _ else _)=_;rw[if_pos l5])
 refine⟨false,_,rfl,?_⟩
 rw[h6.form (λz=>absurd z (by decide))]
 exact q
theorem zHM(h:Has K mg "_law_due" fG)(B:Own mg)(Gr:aE P w K mg base 2 "_law_run" ["_law_numbers"] oK)(Gw:aE P w K mg base 2 "_law_words" ["_law_texts"] nJ)(Gd:aE P w K mg base 1 "_law_dicts" ["_law_dicts_here"] bP):aE P w K mg base 4 "_law_due" ["_law_values"] oA:=
 zJL h B Gr Gw (h.pfalse zKf (fun|_,_,_,_,_,_,[_],_=>rfl) λas R q=>q) Gd
end
end My
namespace My
open PySem L2 PyProof.Rows WordM
section
variable{P:Program}{w:World}{K:W.Frag}{mg:Str->Option Value}{base:Heap}
theorem sN{a b:Str}{A B:Prop}(h:a≠b)(k:B):if (false != eqV (.str a) (.str b))=true then A else B:=dX (λz=>absurd z h) λ_=>k
theorem sY{a:Str}{A B:Prop}(k:A):if (false != eqV (.str a) (.str a))=true then A else B:=dX (λ_=>k) λz=>absurd rfl z
theorem sNn{a:Str}{A B:Prop}(k:B):if (true != eqV (.str a) (.str a))=true then A else B:=sif (λz=>absurd z (by simp[eqV])) λ_=>k
end
section
variable{P:Program}{w:World}{K:W.Frag}{mg:Str->Option Value}{base:Heap}
open WordM
theorem zAA:∀{xs ys:List Int},xs.Pairwise (· < ·)->ys.Pairwise (· < ·)->(∀x,x∈xs↔x∈ys)->xs=ys
 |[],[],_,_,_=>rfl
 |[],y::ys,_,_,h=>nomatch (h y).mpr (.head _)
 |x::xs,[],_,_,h=>nomatch (h x).mp (.head _)
 |x::xs,y::ys,hx,hy,h=>by
  have px:=List.pairwise_cons.mp hx
  have py:=List.pairwise_cons.mp hy
  have e:x=y:=by
   rcases List.mem_cons.mp ((h x).mp (.head _)) with e|e
   ·exact e
   ·rcases List.mem_cons.mp ((h y).mpr (.head _)) with e'|e'
    ·exact e'.symm
    ·have:=py.1 x e
     have:=px.1 y e'
     omega
  subst e
  refine congrArg (x::·) (zAA px.2 py.2 λz=>⟨λhz=>?_,λhz=>?_⟩)
  ·rcases List.mem_cons.mp ((h z).mp (.tail _ hz)) with e|e
   ·have:=px.1 z hz;omega
   ·exact e
  ·rcases List.mem_cons.mp ((h z).mpr (.tail _ hz)) with e|e
   ·have:=py.1 z hz;omega
   ·exact e
def nmL(lo hi st:Int):List Int:=if lo=hi then [lo] else if lo+st=hi then [lo,hi] else [lo,lo+st,hi]
theorem sO{lo hi st:Int}(h:kX lo hi st):(nmL lo hi st).Pairwise (· < ·)/\(∀x,x∈nmL lo hi st↔x∈jA lo hi st):=by
 obtain⟨_,h2,_,h4,_,h6,h7⟩:=h
 unfold nmL jA
 by_cases e:lo=hi
 ·rw[if_pos e]
  have:st=0:=h6.mpr e
  subst e this
  exact⟨by simp,λx=>by simp⟩
 ·rw[if_neg e]
  have s0:st≠0:=λz=>e (h6.mp z)
  have dv:st ∣ hi-lo:=Int.dvd_of_emod_eq_zero (h7 s0)
  have le:st<=hi-lo:=Int.le_of_dvd (by omega) dv
  by_cases e2:lo+st=hi
  ·rw[if_pos e2]
   refine⟨by simp;omega,λx=>?_⟩
   simp only[List.mem_cons,List.not_mem_nil,or_false]
   omega
  ·rw[if_neg e2]
   refine⟨by simp;omega,λx=>?_⟩
   simp only[List.mem_cons,List.not_mem_nil,or_false]
   omega
def fF:Pt->List Tv
 |.nothing=>[nT]
 |.truths bs=>bs.map bT
 |.numbers lo hi st=>(nmL lo hi st).map iT
 |.texts w=>(cY w).map sT
 |_=>[]
def rO:PSp:=λas R=>∃p,as=[.va (aW p)]/\LfD p/\R (.seq false (fF p))
theorem g3_(h:Has K mg "leaf_values" s3_)(B:Own mg)(G1_:aE P w K mg base 1 "telling_numbers" ["run"] qA)(G2_:aE P w K mg base 1 "words_texts" ["words"] rL)   : aE P w K mg base 2 "leaf_values" ["part"] rO:=by
 refine h.pg1 ["part"] (λnd hr=>
   (aG (aV (cA hr (aN hr (aA 0) aD) aO)
    (aJ (aM (aP (pW pZ rfl B.list_ boot_list (aB (aN hr (aA 0) aD) aC)))))
    aU)
   (aG (aV (cA hr (aN hr (aA 0) aD) aO)
    (aJ (aM (aP (zBR rfl rfl B.sorted rfl B.set_ (aL G1_ hr (aB (gY iC (aA 0) (hC aD) hE) aC))))))
    aU)
   (aG (aV (cA hr (aN hr (aA 0) aD) aO)
    (aJ (aM (aL G2_ hr (aB (aN hr (aA 0) aD) aC))))
    aU)
   (aJ (aM (aP (bS (aB hV aC))))))))) (λas R q=>?_)
 obtain⟨p,rfl,ok,q⟩:=q
 cases p with
 |nothing=>
  rw[aW]
  exact⟨rfl,_,at0,_,rfl,sN (by decide +kernel) ⟨_,at0,_,rfl,sN (by decide +kernel) ⟨_,at0,_,rfl,sN (by decide +kernel) ⟨by simp,q⟩⟩⟩⟩
 |truths bs=>
  rw[aW]
  exact⟨rfl,_,at0,_,rfl,sY ⟨_,fP (j:=1) rfl,_,_,rfl,q⟩⟩
 |numbers lo hi st=>
  rw[aW]
  refine⟨rfl,_,at0,_,rfl,sN (by decide +kernel) ⟨_,at0,_,rfl,sY ⟨_,rfl,lo,hi,st,rfl,jA lo hi st,rfl,(show 3<64 by decide),λms h1 h2=>?_⟩⟩⟩
  obtain⟨k1,k2⟩:=sO ok
  have e:ms=nmL lo hi st:=zAA h1 k1 λx=>by rw[h2,k2]
  rw[e]
  exact q
 |texts w=>
  rw[aW]
  exact⟨rfl,_,at0,_,rfl,sN (by decide +kernel) ⟨_,at0,_,rfl,sN (by decide +kernel) ⟨_,at0,_,rfl,sY ⟨_,fP (j:=1) rfl,w,rfl,WdS.ok ok,q⟩⟩⟩⟩
 |_=>exact False.elim ok
def prS(v:Tv):Tv:=.seq true [iT 1,v]
theorem rE{p:Pt}(h:LfD p):(fF p).length<=12:=by
 cases p with
 |nothing=>exact(by decide:1<=12)
 |truths bs=>show(bs.map bT).length<=12;rw[List.length_map];rcases h with rfl|rfl|rfl<;>decide
 |numbers lo hi st=>
  show((nmL lo hi st).map iT).length<=12
  rw[List.length_map]
  unfold nmL
  split
  ·exact(by decide:1<=12)
  ·split
   ·exact(by decide:2<=12)
   ·exact(by decide:3<=12)
 |texts w=>
  show((cY w).map sT).length<=12
  rw[List.length_map]
  have ok:=WdS.ok h
  cases w with
  |few ss=>exact Nat.le_trans ok.2.1 (by decide)
  |make hd lo hi ms=>
   obtain⟨_,_,_,_,_,b1,b2⟩:=ok
   have:=(nD b1 b2).2.2
   unfold cY
   rw[List.length_append,List.length_map]
   split<;>simp<;>omega
 |_=>exact False.elim h
def tD:PSp:=λas R=>∃(p:Pt) (r:Int),as=[.va (aW p),.va (iT r)]/\LfD p/\R (.seq false ((fF p).map prS))
theorem C4_:bN ["part","room","least","most","small","rows","filled"] ["part","room"] (aI s4_):=fsc (by decide +kernel)
theorem g4_(h:Has K mg "list_samples" s4_)(B:Own mg):aE P w K mg base 1 "list_samples" ["part","room"] bP:=h.pfalse C4_ (fun|_,_,_,_,_,_,[_,_],_=>rfl) λas R h=>h
theorem C6_:bN ["part","room","smalls","fewest","rows","field"] ["part","room"] (aI s6_):=fsc (by decide +kernel)
theorem g6_(h:Has K mg "record_samples" s6_)(B:Own mg):aE P w K mg base 1 "record_samples" ["part","room"] bP:=h.pfalse C6_ (fun|_,_,_,_,_,_,[_,_],_=>rfl) λas R h=>h
theorem C5_:bN ["part","room","most","names","small","items","rows","filled"] ["part","room"] (aI s5_):=fsc (by decide +kernel)
theorem g5_(h:Has K mg "table_samples" s5_)(B:Own mg):aE P w K mg base 1 "table_samples" ["part","room"] bP:=h.pfalse C5_ (fun|_,_,_,_,_,_,[_,_],_=>rfl) λas R h=>h
theorem g7_(h:Has K mg "part_samples" s7_)(B:Own mg)(G4_:aE P w K mg base 1 "list_samples" ["part","room"] bP)(G6_:aE P w K mg base 1 "record_samples" ["part","room"] bP)(G5_:aE P w K mg base 1 "table_samples" ["part","room"] bP)(G3_:aE P w K mg base 2 "leaf_values" ["part"] rO)   : aE P w K mg base 3 "part_samples" ["part","room"] tD:=by
 refine h.pg2 ["part","room"] (λnd hr=>
   (aG (aV (cA hr (aN hr (aA 0) aD) aO)
    (aJ (aM (aL G4_ hr (aB (aA 0) (aB (aA 1) aC)))))
    aU)
   (aG (aV (cA hr (aN hr (aA 0) aD) aO)
    (aJ (aM (aL G6_ hr (aB (aA 0) (aB (aA 1) aC)))))
    aU)
   (aG (aV (cA hr (aN hr (aA 0) aD) aO)
    (aJ (aM (aL G5_ hr (aB (aA 0) (aB (aA 1) aC)))))
    aU)
   (aJ (aM (aP (eD (sc:=aI s7_) (XN:=["part","room"]) (N:=["value"]) (fr:=[]) (bO (aL G3_ hr (aB (aA 0) aC))) (λ_ _ _ _ _=>(cC (aB aD (aB (aA 0) aC)))))))))))) (λas R q=>?_)
 obtain⟨p,r,rfl,ok,q⟩:=q
 have l12:=rE ok
 obtain⟨u,eu,_⟩:=yM p
 have hw:cD p≠"lists"/\cD p≠"record"/\cD p≠"table":=by
  cases p<;>first|exact False.elim ok|exact⟨by simp only[cD];decide +kernel,by simp only[cD];decide +kernel,by simp only[cD];decide +kernel⟩
 have E:=eu
 rw[eu]
 exact⟨rfl,_,at0,_,rfl,sN hw.1 ⟨_,at0,_,rfl,sN hw.2.1 ⟨_,at0,_,rfl,sN hw.2.2 ⟨p,by rw[E],ok,by omega,wZ prS (λv hv R q=>⟨by simp,q⟩) q⟩⟩⟩⟩
def bV(f:List Pt):List Tv:=f.flatMap fF
theorem qO{f:List Pt}(h:∀p∈f,LfD p):(bV f).length<=f.length*12:=by
 induction f with
 |nil=>exact Nat.zero_le _
 |cons p f ih=>
  have h1:=rE (h p (.head _))
  have h2:=ih λx hx=>h x (.tail _ hx)
  show(fF p++bV f).length<=_
  rw[List.length_append,List.length_cons]
  omega
def tF:PSp:=λas R=>∃(f:List Pt) (r:Int),as=[.va (dB f),.va (iT r)]/\f.length<=4/\(∀p∈f,LfD p)/\R (.seq false ((bV f).map prS))
theorem g8_(h:Has K mg "form_samples" s8_)(B:Own mg)(G7_:aE P w K mg base 3 "part_samples" ["part","room"] tD)   : aE P w K mg base 4 "form_samples" ["form","room"] tF:=by
 refine h.pg2 ["form","room","samples","part"] (λnd hr=>
   (aG (iZ 2 nd (bS aC))
   (aG (hJ (m:=4) PassesOwn.never rfl (bO (aA 0)) (dH 3 (by decide) nd rfl (.inl rfl))
    (aJ (fA (vY 2 (aL G7_ hr (aB (aA 3) (aB (aA 1) aC)))))))
   (aJ (aM (aA 2)))))) (λas R q=>?_)
 obtain⟨f,r,rfl,l4,ok,q⟩:=q
 refine⟨rfl,by simp,?_⟩
 show PEnds.nx _ _
 refine nxE (ρ':=[.va (dB f),.va (iT r),.own [],.no]) rfl ?_
 refine zZ aW (l:=f) (λi ρ=>∃s3:Sl,ρ=[.va (dB f),.va (iT r),.own ((bV (f.take i)).map prS),s3]) ⟨.no,rfl⟩ ?_ ?_
 ·rintro i p _ N hp ⟨s3,rfl⟩ hN
  have hpm:=List.mem_of_getElem? hp
  have h1:=qO (f:=f.take i) λx hx=>ok x (List.mem_of_mem_take hx)
  rw[List.length_take]at h1
  have h2:=rE (ok p hpm)
  refine⟨⟨_,rfl⟩,p,r,rfl,ok p hpm,_,_,rfl,rfl,by rw[List.length_map,List.length_map];omega,hN _ ⟨.va (aW p),?_⟩⟩
  have e:bV (f.take (i+1))=bV (f.take i)++fF p:=by
   unfold bV
   rw[List.take_add_one,hp,List.flatMap_append]
   simp
  rw[e,List.map_append]
  rfl
 ·rintro _ ⟨s3,rfl⟩
  rw[List.take_length]
  exact q
theorem zGE{p:Pt}(h:LfD p):∀v∈fF p,Lv v:=λv hv=>by
 cases p with
 |nothing=>exact .inl (List.mem_singleton.mp hv)
 |truths bs=>obtain⟨b,_,rfl⟩:=List.mem_map.mp hv;exact .inr (.inl ⟨b,rfl⟩)
 |numbers lo hi st=>obtain⟨b,_,rfl⟩:=List.mem_map.mp hv;exact .inr (.inr (.inl ⟨b,rfl⟩))
 |texts w=>
  obtain⟨t,ht,rfl⟩:=List.mem_map.mp hv
  refine .inr (.inr (.inr ⟨t,rfl,?_⟩))
  cases w with
  |few ss=>exact⟨(h.1.2.2.2 t ht).1,h.2 t ht⟩
  |make hd lo hi ms=>
   have h:MkD hd lo hi ms:=h
   have ok:eL (.make hd lo hi ms):=h.ok
   have sh:=(pS ok).1 t ht
   refine⟨sh.2.1,?_⟩
   obtain⟨r,e,_,h2,_⟩:=letW_make.mp sh.1
   have h3:=h.h3.2
   have h6:=h.b6
   rw[WordM.len]at h3
   rw[WordM.len,e,List.length_append]
   omega
 |_=>exact False.elim h
theorem zB{f:List Pt}(h:∀p∈f,LfD p):∀v∈bV f,Lv v:=λv hv=>by
 obtain⟨p,hp,hv⟩:=List.mem_flatMap.mp hv
 exact zGE (h p hp) v hv
def kA:PSp:=λas R=>∃v,as=[.va v]/\Lv v/\R v
theorem C0_:bN ["value"] ["value"] (aI s0_):=fsc (by decide +kernel)
theorem g0_(h:Has K mg "copied" s0_)(B:Own mg)(G0_:aE P w K mg base 1 "copied" ["value"] bP)   : aE P w K mg base 2 "copied" ["value"] kA:=by
 refine h.pg1 ["value"] (λnd hr=>
   (aG (aV (bI (bC "list" fL rfl B.isinstance (aA 0) (bB (v:=.ty "list") rfl B.list_ boot_list rfl)))
    (aJ (aM (aP (eD (sc:=aI s0_) (XN:=["value"]) (N:=["item"]) (fr:=[]) (bO (aA 0)) (λ_ _ _ _ _=>(aL G0_ hr (aB (aA 0) aC)))))))
    aU)
   (aG (aV (bI (bC "dict" gU rfl B.isinstance (aA 0) (bB (v:=.ty "dict") rfl B.dict_ boot_dict rfl)))
    (aJ (aM (zH0 (zD2 rfl rfl B.dict_ (aP (eD (sc:=aI s0_) (XN:=["value"]) (N:=["name","value"]) (fr:=[0]) (bO (aA 0)) (λ_ _ _ _ _=>(cC (aB (aA 0) (aB (aL G0_ hr (aB (aN hr (aA 1) (aA 0)) aC)) aC))))))))))
    aU)
   (aJ (aM (aA 0)))))) (λas R q=>?_)
 obtain⟨v,rfl,hv,q⟩:=q
 rcases hv with rfl|⟨b,rfl⟩|⟨i,rfl⟩|⟨s,rfl,_⟩<;>exact⟨rfl,_,rfl,aK ⟨_,rfl,aK q⟩⟩
theorem zHO(h:Has K mg "copied" s0_)(B:Own mg):aE P w K mg base 2 "copied" ["value"] kA:=g0_ h B (h.pfalse C0_ (fun|_,_,_,_,_,_,[_],_=>rfl) λas R q=>q)
def mE:LSp:=λas R=>∃f:List Pt,as=[.va (dB f)]/\f.length<=4/\(∀p∈f,LfD p)/\R (bV f)
theorem C9_:bN ["form","samples"] ["form"] (aI s9_):=fsc (by decide +kernel)
theorem g9_(h:Has K mg "samples_of" s9_)(B:Own mg)(G8_:aE P w K mg base 4 "form_samples" ["form","room"] tF)(G0_:aE P w K mg base 2 "copied" ["value"] kA)(GROOM:iY K mg "ROOM" (iT 400))(GMOST_PARTS:iY K mg "MOST_PARTS" (iT 5000))  : gL P w K mg base 6 "samples_of" ["form"] mE:=by
 have nd:=C9_.nd
 refine h.lgood C9_ (fun|_,_,_,_,_,_,[_],_=>rfl) (λf cdv A outer s H E F hr=>
   (yT (bA 1 nd (aL G8_ hr (aB (aA 0) (aB (sS GROOM rfl) aC))))
   (yT (aV (eE zAP (zFc rfl rfl B.max (aP (eD (sc:=aI s9_) (XN:=["form","samples"]) (N:=["sample"]) (fr:=[]) (bO (aA 1)) (λ_ _ _ _ _=>(aN hr (aA 0) aD)))) aD) (sS GMOST_PARTS rfl))
    (aJ (bA 1 nd (aL G8_ hr (aB (aA 0) (aB aD aC)))))
    aU)
   (zAi (eD (sc:=aI s9_) (XN:=["form","samples"]) (N:=["sample"]) (fr:=[]) (bO (aA 1)) (λ_ _ _ _ _=>(aL G0_ hr (aB (aN hr (aA 0) aD) aC)))))))) (λas R q=>?_)
 obtain⟨f,rfl,l4,ok,q⟩:=q
 have sl:=qO ok
 refine⟨rfl,f,400,rfl,l4,ok,?_⟩
 show PEnds.nx _ _
 refine nxE (ρ':=[.va (dB f),.va (.seq false ((bV f).map prS))]) rfl ?_
 refine⟨by rw[List.length_map];omega,?_⟩
 refine eM prS (λv=>iT 1) (λv hv R q=>⟨_,at0,q⟩) ?_
 have fin:zBf (iA 1 [] (uIt (kL 1)) (gN 0) oT (kE kA (lR (uOp pIx (kL 0) (uC (iT 1))) iE))) [.va (dB f),.va (.seq false ((bV f).map prS))] R:=by
  refine⟨by rw[List.length_map];omega,eM prS (λv=>v) (λv hv R q=>⟨_,fP (j:=1) rfl,v,rfl,zB ok v hv,q⟩) ?_⟩
  rw[List.map_id']
  exact q
 refine⟨(bV f).map λ_=>1,by rw[List.map_map];rfl,λ_=>⟨_,rfl,aK fin⟩,λM hM _=>?_⟩
 obtain⟨_,_,rfl⟩:=List.mem_map.mp hM
 exact⟨_,rfl,aK fin⟩
end
end My
namespace My
open PySem L2 PyProof.Rows WordM
section
variable{P:Program}{w:World}{K:W.Frag}{mg:Str->Option Value}{base:Heap}
open WordM ShowM
variable{D:List Tv->List Pt}
theorem zEL{A B:List Tv}{k:Nat}(h:cB D B k=none):cB D (A++B) k=cB D A k:=by
 have no:∀{c:Prop} [Decidable c] {x:Pt},(if c then none else some x)=none->c:=λ{c} _ {x} h=>by
  by_cases z:c
  ·exact z
  ·rw[if_neg z]at h;cases h
 unfold cB at h ⊢
 split at h
 ·have hB:dF B=false:=by
   cases e:dF B with
   |false=>rfl
   |true=>rw[e,if_pos rfl]at h;cases h
  have:dF (A++B)=dF A:=by
   show(A++B).any _=A.any _
   rw[List.any_append,show(B.any λv=>bL v==0)=false from hB,Bool.or_false]
  rw[this]
 all_goals first|(have z:=no h;rw[List.filterMap_append,z,List.append_nil])|rfl
theorem zDG{A B:List Tv}{k:Nat}(h:cB D A k=none):cB D (A++B) k=cB D B k:=by
 have no:∀{c:Prop} [Decidable c] {x:Pt},(if c then none else some x)=none->c:=λ{c} _ {x} h=>by
  by_cases z:c
  ·exact z
  ·rw[if_neg z]at h;cases h
 unfold cB at h ⊢
 split at h
 ·have hB:dF A=false:=by
   cases e:dF A with
   |false=>rfl
   |true=>rw[e,if_pos rfl]at h;cases h
  have:dF (A++B)=dF B:=by
   show(A++B).any _=B.any _
   rw[List.any_append,show(A.any λv=>bL v==0)=false from hB,Bool.false_or]
  rw[this]
 all_goals first|(have z:=no h;rw[List.filterMap_append,z,List.nil_append])|rfl
theorem zHv{D:List Tv->List Pt}{S:List Tv}{K:Nat}(h:∀v∈S,bL v=K){k:Nat}(hk:k≠K):cB D S k=none:=by
 have no:∀{α:Type} {f:Tv->Option α} {j:Nat},(∀v a,f v=some a->bL v=j)->j≠K->S.filterMap f=[]:=λ{α f j} hf hj=>by
  rw[List.filterMap_eq_nil_iff]
  intro v hv
  cases e:f v with
  |none=>rfl
  |some a=>exact absurd ((hf v a e).symm.trans (h v hv)) hj
 unfold cB
 split
 ·have:dF S=false:=by
   show S.any _=false
   rw[List.any_eq_false]
   intro v hv
   rw[h v hv]
   simpa using λe=>hk (by omega)
  rw[this]
  rfl
 ·rw[if_pos (no (j:=1) (λv a e=>by rw[zGf]at e;subst e;rfl) hk)]
 ·rw[if_pos (no (j:=2) (λv a e=>by rw[zGd]at e;subst e;rfl) hk)]
 ·rw[if_pos (no (j:=3) (λv a e=>by rw[zGb]at e;subst e;rfl) hk)]
 ·rw[if_pos (no (j:=4) (λv a e=>by rw[zGc]at e;subst e;rfl) hk)]
 ·rw[if_pos (no (j:=5) (λv a e=>by rw[zGe]at e;subst e;rfl) hk)]
 ·rfl
theorem oD{α β:Type}{c:α->Tv}{f:Tv->Option β}{g:α->β}(h:∀a,f (c a)=some (g a)):∀l:List α,(l.map c).filterMap f=l.map g
 |[]=>rfl
 |a::l=>by rw[List.map_cons,List.filterMap_cons,h a,oD h l];rfl
theorem qT{α:Type}(l:List α):l.map (λx=>x)=l:=List.map_id' l
theorem fm_congr{α β:Type}{f g:α->Option β}:∀{l:List α},(∀x∈l,f x=g x)->l.filterMap f=l.filterMap g
 |[],_=>rfl
 |x::l,h=>by rw[List.filterMap_cons,List.filterMap_cons,h x (.head _),fm_congr λy hy=>h y (.tail _ hy)]
theorem nO:∀{f:List Pt}(ks:List Nat),lG f->ks.Pairwise (· < ·)->(∀p∈f,bF p∈ks)->ks.filterMap (eR f)=f
 |[],[],_,_,_=>rfl
 |p::f,[],_,_,h=>nomatch h p (.head _)
 |f,k::ks,up,kp,h=>by
  have kp':=List.pairwise_cons.mp kp
  rw[List.filterMap_cons]
  cases f with
  |nil=>exact nO (f:=[]) ks up kp'.2 (λp hp=>nomatch hp)
  |cons p f=>
   have up':=List.pairwise_cons.mp up
   by_cases z:bF p=k
   ·subst z
    have e:eR (p::f) (bF p)=some p:=by unfold eR;rw[List.find?_cons,decide_eq_true rfl]
    rw[e]
    have g:ks.filterMap (eR (p::f))=ks.filterMap (eR f):=fm_congr λj hj=>by
     have:=kp'.1 j hj
     unfold eR
     rw[List.find?_cons,decide_eq_false (by omega)]
    show p::ks.filterMap (eR (p::f))=p::f
    rw[g,nO ks up'.2 kp'.2 λq hq=>by
     have h1:=up'.1 q hq
     rcases List.mem_cons.mp (h q (.tail _ hq)) with e|e
     ·omega
     ·exact e]
   ·have e:eR (p::f) k=none:=by
     unfold eR
     rw[List.find?_eq_none]
     intro q hq
     have hp:k<bF p:=by
      rcases List.mem_cons.mp (h p (.head _)) with e|e
      ·exact absurd e z
      ·exact kp'.1 _ e
     rcases List.mem_cons.mp hq with rfl|hq
     ·simp;omega
     ·have:=up'.1 q hq
      simp;omega
    rw[e]
    exact nO (f:=p::f) ks up kp'.2 λq hq=>by
     rcases List.mem_cons.mp (h q hq) with e|e
     ·exfalso
      have hp:k<bF p:=by
       rcases List.mem_cons.mp (h p (.head _)) with e'|e'
       ·exact absurd e' z
       ·exact kp'.1 _ e'
      rcases List.mem_cons.mp hq with rfl|hq
      ·omega
      ·have:=up'.1 q hq
       omega
     ·exact e
theorem zEd{lo hi st:Int}(h:lo<=hi/\0<=st/\(st=0↔lo=hi)/\(st≠0->(hi-lo) % st=0)):(lo,hi,st)=cK [lo,hi,lo+st]:=by
 obtain⟨h1,h2,h3,h4⟩:=h
 have dv:st ∣ hi-lo:=by
  by_cases z:st=0
  ·rw[z,h3.mp z];exact⟨0,by omega⟩
  ·exact Int.dvd_of_emod_eq_zero (h4 z)
 have le:lo+st<=hi:=by
  by_cases z:hi=lo
  ·have:=h3.mpr z.symm;omega
  ·have:=Int.le_of_dvd (by omega) dv;omega
 have e:(lo,hi,st)=cK [lo,hi,lo+st]:=qP ⟨by simp,λn hn=>?_,by simp,λn hn=>?_,h2,λd=>⟨λhd n hn=>?_,λhd=>?_⟩⟩
 ·exact e
 ·show lo<=n
  simp only[List.mem_cons,List.not_mem_nil,or_false]at hn
  omega
 ·show n<=hi
  simp only[List.mem_cons,List.not_mem_nil,or_false]at hn
  omega
 ·show d ∣ n-lo
  have hd:d ∣ st:=hd
  simp only[List.mem_cons,List.not_mem_nil,or_false]at hn
  rcases hn with rfl|rfl|rfl
  ·exact⟨0,by omega⟩
  ·exact Int.dvd_trans hd dv
  ·rwa[show lo+st-lo=st by omega]
 ·have:d ∣ lo+st-lo:=hd (lo+st) (by simp)
  rwa[show lo+st-lo=st by omega]at this
theorem zD7{p:Pt}(h:LfD p):∀v∈fF p,bL v=bF p:=λv hv=>by
 cases p with
 |nothing=>rw[List.mem_singleton.mp hv];rfl
 |truths bs=>obtain⟨b,_,rfl⟩:=List.mem_map.mp hv;rfl
 |numbers lo hi st=>obtain⟨b,_,rfl⟩:=List.mem_map.mp hv;rfl
 |texts w=>obtain⟨b,_,rfl⟩:=List.mem_map.mp hv;rfl
 |_=>exact False.elim h
theorem zFk{p:Pt}(h:LfD p):cB D (fF p) (bF p)=some p:=by
 cases p with
 |nothing=>rfl
 |truths bs=>
  show(if (bs.map bT).filterMap asB=[] then none else some (Pt.truths (usB (inF ((bs.map bT).filterMap asB)) (inT ((bs.map bT).filterMap asB)))))=some (Pt.truths bs)
  rw[oD (c:=bT) (f:=asB) (g:=λb=>b) (λb=>rfl),qT]
  rcases h with rfl|rfl|rfl<;>rfl
 |numbers lo hi st=>
  have h:kX lo hi st:=h
  show(if ((nmL lo hi st).map iT).filterMap asI=[] then none else some (Pt.numbers (cK (((nmL lo hi st).map iT).filterMap asI)).1 (cK (((nmL lo hi st).map iT).filterMap asI)).2.1 (cK (((nmL lo hi st).map iT).filterMap asI)).2.2))=some (Pt.numbers lo hi st)
  rw[oD (c:=iT) (f:=asI) (g:=λb=>b) (λb=>rfl),qT]
  have k:=(sO h).2
  have e:cK (nmL lo hi st)=(lo,hi,st):=by
   rw[zCo (ms:=jA lo hi st) k]
   exact(zEd ⟨h.2.1,h.2.2.2.1,h.2.2.2.2.2.1,h.2.2.2.2.2.2⟩).symm
  have ne:nmL lo hi st≠[]:=λz=>by
   have:=(k lo).mpr (.head _)
   rw[z]at this
   exact nomatch this
  rw[if_neg ne,e]
 |texts w=>
  have ok:=WdS.ok h
  show(if ((cY w).map sT).filterMap asS=[] then none else some (Pt.texts (fE (((cY w).map sT).filterMap asS))))=some (Pt.texts w)
  rw[oD (c:=sT) (f:=asS) (g:=λb=>b) (λb=>rfl),qT,if_neg (zGQ ok),zGR ok]
 |_=>exact False.elim h
theorem wE:∀{f:List Pt},lG f->(∀p∈f,LfD p)->∀k,cB D (bV f) k=eR f k
 |[],_,_,k=>yN D k
 |p::f,up,h,k=>by
  have up':=List.pairwise_cons.mp up
  have t1:=wE (f:=f) up'.2 λq hq=>h q (.tail _ hq)
  show cB D (fF p++bV f) k=_
  unfold eR at t1 ⊢
  rw[List.find?_cons]
  by_cases z:bF p=k
  ·subst z
   rw[decide_eq_true rfl]
   have:cB D (bV f) (bF p)=none:=by
    rw[t1,List.find?_eq_none]
    intro q hq
    have:=up'.1 q hq
    simp
    omega
   rw[zEL this]
   exact zFk (h p (.head _))
  ·rw[decide_eq_false z,zDG (zHv (zD7 (h p (.head _))) λe=>z e.symm)]
   exact t1 k
theorem zD9{f:List Pt}(up:lG f)(h:∀p∈f,LfD p):eV 1 (bV f)=f:=by
 show kN6.filterMap (cB (eV 0) (bV f))=f
 rw[fm_congr (g:=eR f) λk _=>wE up h k]
 exact nO kN6 up (by decide) λp _=>by
  have:=qV p
  simp only[kN6,List.mem_cons,List.not_mem_nil,or_false]
  omega
theorem zFj{p:Pt}(h:LfD p):∀v∈fF p,eJ 1 p v=true:=λv hv=>by
 cases p with
 |nothing=>rw[List.mem_singleton.mp hv];rfl
 |truths bs=>obtain⟨b,hb,rfl⟩:=List.mem_map.mp hv;exact decide_eq_true hb
 |numbers lo hi st=>
  have h:kX lo hi st:=h
  obtain⟨i,hi',rfl⟩:=List.mem_map.mp hv
  obtain⟨_,h2,_,h4,_,h6,h7⟩:=h
  show gF lo hi st i=true
  have dv:st ∣ hi-lo:=by
   by_cases z:st=0
   ·rw[z,h6.mp z];exact⟨0,by omega⟩
   ·exact Int.dvd_of_emod_eq_zero (h7 z)
  have le:lo+st<=hi:=by
   by_cases z:hi=lo
   ·have:=h6.mpr z.symm;omega
   ·have:=Int.le_of_dvd (by omega) dv;omega
  have hm:=((sO h).2 i).mp hi'
  unfold gF
  have key:lo<=i/\i<=hi/\(i-lo) % max 1 st=0:=by
   by_cases z:st=0
   ·subst z
    have:=h6.mp rfl
    simp only[jA,List.mem_cons,List.not_mem_nil,or_false]at hm
    refine⟨by omega,by omega,?_⟩
    rw[show i-lo=0 by omega]
    exact Int.zero_emod _
   ·rw[show max 1 st=st by omega]
    simp only[jA,List.mem_cons,List.not_mem_nil,or_false]at hm
    refine⟨by omega,by omega,Int.emod_eq_zero_of_dvd ?_⟩
    rcases hm with rfl|rfl|rfl
    ·exact⟨0,by omega⟩
    ·exact dv
    ·exact⟨1,by omega⟩
  rw[decide_eq_true key.1,decide_eq_true key.2.1,decide_eq_true key.2.2]
  rfl
 |texts w=>
  obtain⟨t,ht,rfl⟩:=List.mem_map.mp hv
  have ok:=WdS.ok h
  show dP w t=true
  cases w with
  |few ss=>exact decide_eq_true ht
  |make hd lo hi ms=>exact((pS ok).1 t ht).1
 |_=>exact False.elim h
theorem zD8{f:List Pt}(h:∀p∈f,LfD p):∀v∈bV f,pE 1 f v=true:=λv hv=>by
 obtain⟨p,hp,hv⟩:=List.mem_flatMap.mp hv
 exact List.any_eq_true.mpr ⟨p,hp,zFj (h p hp) v hv⟩
end
end My
namespace My
open PySem L2 PyProof.Rows WordM
section
variable{P:Program}{w:World}{K:W.Frag}{mg:Str->Option Value}{base:Heap}
variable{n:Nat}
def oR:Nat->Tv->Prop
 |0,_=>False
 |_+1,.leaf .non=>True
 |_+1,.leaf (.bl _)=>True
 |_+1,.leaf (.int _)=>True
 |_+1,.leaf (.str _)=>True
 |n+1,.seq _ xs=>xs.length<=100000/\∀x∈xs,oR n x
 |n+1,.dct kts=>(kts.map (·.1)).Nodup/\kts.length<64/\∀kt∈kts,oR n kt.2
 |_+1,_=>False
theorem zEH(ss:List Str):bJ (ss.map sT) (ss.map sT)=true:=by
 induction ss with
 |nil=>simp[bJ]
 |cons s ss ih=>rw[List.map_cons,bJ,ih,sB];simp
def jZ(n:Nat):PSp:=λas R=>∃T:Tv,as=[.va T,.va T]/\oR n T/\R (bT true)
theorem qS{α:Type}(xs:List α):((xs.map λ_=>bT true).any λU=>L2.eqT U (bT false))=false:=by
 rw[Bool.eq_false_iff]
 intro z
 obtain⟨U,hU,e⟩:=List.any_eq_true.mp z
 obtain⟨_,_,rfl⟩:=List.mem_map.mp hU
 simp[L2.eqT,eqV]at e
theorem rZ{α:Type}(xs:List α):jC (bT false) (xs.map λ_=>bT true):=⟨trivial,λU hU=>by
 obtain⟨_,_,rfl⟩:=List.mem_map.mp hU
 trivial⟩
theorem xG(xs:List Tv):List.zipWith (λT U=>Tv.seq true [T,U]) xs xs=xs.map λx=>.seq true [x,x]:=by
 induction xs with
 |nil=>rfl
 |cons x xs ih=>rw[List.zipWith_cons_cons,ih];rfl
theorem zEJ{s:Str}:(false != eqV (.str s) (.str s))=true:=by simp[eqV]
theorem zDE{i:Int}:(false != eqV (.int i) (.int i))=true:=by simp[eqV]
theorem zDF{b:Bool}:(false != eqV (.bl b) (.bl b))=true:=by simp[eqV]
theorem zKe:bN ["_law_one","_law_other"] ["_law_one","_law_other"] (aI kP):=fsc (by decide +kernel)
theorem zJJ(h:Has K mg "_law_same" kP)(B:Own mg)(G35_:aE P w K mg base (1+n) "_law_same" ["_law_one","_law_other"] (jZ n))   : aE P w K mg base (1+n+1) "_law_same" ["_law_one","_law_other"] (jZ (n+1)):=by
 refine h.pg2 ["_law_one","_law_other"] (λnd hr=>
   (aG (aV (cW (cU (bI (bC "bool" gV rfl B.isinstance (aA 0) (bB (v:=.ty "bool") rfl B.bool_ boot_bool rfl))) (dC (bI (bC "bool" gV rfl B.isinstance (aA 1) (bB (v:=.ty "bool") rfl B.bool_ boot_bool rfl))))))
    (aJ (aM (dR (bC "bool" gV rfl B.isinstance (aA 0) (bB (v:=.ty "bool") rfl B.bool_ boot_bool rfl)) (dR (bC "bool" gV rfl B.isinstance (aA 1) (bB (v:=.ty "bool") rfl B.bool_ boot_bool rfl)) (gB (cM (eQ hr.units).op (aA 0) (aA 1)))))))
    aU)
   (aG (aV (cW (cU (bI (bC "int" iJ rfl B.isinstance (aA 0) (bB (v:=.ty "int") rfl B.int_ boot_int rfl))) (dC (bI (bC "int" iJ rfl B.isinstance (aA 1) (bB (v:=.ty "int") rfl B.int_ boot_int rfl))))))
    (aJ (aM (dR (bC "int" iJ rfl B.isinstance (aA 0) (bB (v:=.ty "int") rfl B.int_ boot_int rfl)) (dR (bC "int" iJ rfl B.isinstance (aA 1) (bB (v:=.ty "int") rfl B.int_ boot_int rfl)) (gB (cM (eQ hr.units).op (aA 0) (aA 1)))))))
    aU)
   (aG (aV (cW (cU (bI (bC "str" iI rfl B.isinstance (aA 0) (bB (v:=.ty "str") rfl B.str_ boot_str rfl))) (dC (bI (bC "str" iI rfl B.isinstance (aA 1) (bB (v:=.ty "str") rfl B.str_ boot_str rfl))))))
    (aJ (aM (dR (bC "str" iI rfl B.isinstance (aA 0) (bB (v:=.ty "str") rfl B.str_ boot_str rfl)) (dR (bC "str" iI rfl B.isinstance (aA 1) (bB (v:=.ty "str") rfl B.str_ boot_str rfl)) (gB (cM (eQ hr.units).op (aA 0) (aA 1)))))))
    aU)
   (aG (aV (cW (cU (eE iV (aA 0) hV) (dC (eE iV (aA 1) hV))))
    (aJ (aM (dR (cM (iV).op (aA 0) hV) (gB (cM (iV).op (aA 1) hV)))))
    aU)
   (aG (aV (cW (cU (bI (bC "dict" gU rfl B.isinstance (aA 0) (bB (v:=.ty "dict") rfl B.dict_ boot_dict rfl))) (dC (bI (bC "dict" gU rfl B.isinstance (aA 1) (bB (v:=.ty "dict") rfl B.dict_ boot_dict rfl))))))
    (aG (aV (cW (cU (eN (bI (bC "dict" gU rfl B.isinstance (aA 0) (bB (v:=.ty "dict") rfl B.dict_ boot_dict rfl)))) (cU (eN (bI (bC "dict" gU rfl B.isinstance (aA 1) (bB (v:=.ty "dict") rfl B.dict_ boot_dict rfl)))) (dC (dO hr (aP (mY (mT rfl) rfl B.sorted boot_sorted (aB (aA 0) aC))) (aP (mY (mT rfl) rfl B.sorted boot_sorted (aB (aA 1) aC))))))))
     (aJ (aM dD))
     aU)
    (aJ (aM (cM (nF hr.units).op dD (aP (eD (sc:=aI kP) (XN:=["_law_one","_law_other"]) (N:=["_law_name","_law_one","_law_other"]) (fr:=[0,1]) (bO (aA 0)) (λ_ _ _ _ _=>(aL G35_ hr (aB (aN hr (aA 1) (aA 0)) (aB (aN hr (aA 2) (aA 0)) aC)))))) rfl))))
    aU)
   (aG (aV (cW (cU (dO hr (bC "list" fL rfl B.isinstance (aA 0) (bB (v:=.ty "list") rfl B.list_ boot_list rfl)) (bC "list" fL rfl B.isinstance (aA 1) (bB (v:=.ty "list") rfl B.list_ boot_list rfl))) (dC (dO hr (bC "tuple" uS rfl B.isinstance (aA 0) (bB (v:=.ty "tuple") rfl B.tuple_ boot_tuple rfl)) (bC "tuple" uS rfl B.isinstance (aA 1) (bB (v:=.ty "tuple") rfl B.tuple_ boot_tuple rfl))))))
    (aJ (aM dD))
    aU)
   (aJ (aM (dR (cM (eQ hr.units).op (bW eC rfl B.len PySem.boot_len (aB (aA 0) aC)) (bW eC rfl B.len PySem.boot_len (aB (aA 1) aC))) (gB (cM (nF hr.units).op dD (aP (rC (sc:=aI kP) (XN:=["_law_one","_law_other"]) (N:=["_law_a","_law_b"]) (own:=2) (fr:=[]) rfl ⟨rfl,by decide +kernel,by decide +kernel,by decide +kernel,rfl,by decide +kernel,by decide,by decide +kernel⟩ (by decide) (zGt rfl B.zip (aB (aA 0) (aB (aA 1) aC))) (λ_ _ _ _ _=>(zAk 2 rfl (mZ (dH 0 (by decide) (show(["_law_a","_law_b"]:List Str).Nodup by decide +kernel) rfl (by first|exact Or.inl rfl|exact Or.inr rfl)) (mZ (dH 1 (by decide) (show(["_law_a","_law_b"]:List Str).Nodup by decide +kernel) rfl (by first|exact Or.inl rfl|exact Or.inr rfl)) yU)))) (λ_ _ _ _ _=>gA) (λ_ _ _ _ _=>(aL G35_ hr (aB (aA 0) (aB (aA 1) aC)))))) rfl)))))))))))) (λas R q=>?_)
 obtain⟨T,rfl,h,q⟩:=q
 cases T with
 |dct kts=>
  refine⟨rfl,_,rfl,aK ⟨_,rfl,aK ⟨_,rfl,aK ⟨_,rfl,aK ⟨_,rfl,aK ⟨_,rfl,aK ⟨_,rfl,aK ⟨_,rfl,aK ⟨_,rfl,aZ (aZ ⟨_,rfl,aK ⟨_,rfl,aK ?_⟩⟩)⟩⟩⟩⟩⟩⟩⟩⟩⟩
  refine .inr (.inr ⟨kts,rfl,.inr (.inr ⟨kts,rfl,.inr (.inr ⟨?_,?_⟩),_,rfl,?_⟩)⟩)
  ·intro U hU;obtain⟨s,_,rfl⟩:=List.mem_map.mp hU;trivial
  ·intro U hU;obtain⟨s,_,rfl⟩:=List.mem_map.mp hU;trivial
  rw[zEH]
  refine aK ⟨by rw[List.length_map];have:=h.2.1;omega,?_⟩
  refine eM (λkt:Str×Tv=>sT kt.1) (λkt=>bT true) (λkt hk R q=>⟨_,yB h.1 hk,_,yB h.1 hk,kt.2,rfl,h.2.2 kt hk,q⟩) ⟨rZ kts,?_⟩
  rw[qS]
  exact q
 |leaf v=>
  cases v with
  |non=>exact⟨rfl,_,rfl,aK ⟨_,rfl,aK ⟨_,rfl,aK ⟨_,rfl,aK ⟨_,rfl,aK ⟨_,rfl,aK ⟨_,rfl,aZ (aZ ⟨_,rfl,aZ q⟩)⟩⟩⟩⟩⟩⟩⟩
  |bl b=>
   rw[<-zDF (b:=b)]at q
   exact⟨rfl,_,rfl,aZ (aZ ⟨_,rfl,aZ ⟨_,rfl,aZ q⟩⟩)⟩
  |int i=>
   rw[<-zDE (i:=i)]at q
   exact⟨rfl,_,rfl,aK ⟨_,rfl,aK ⟨_,rfl,aZ (aZ ⟨_,rfl,aZ ⟨_,rfl,aZ q⟩⟩)⟩⟩⟩
  |str s=>
   rw[<-zEJ (s:=s)]at q
   exact⟨rfl,_,rfl,aK ⟨_,rfl,aK ⟨_,rfl,aK ⟨_,rfl,aK ⟨_,rfl,aZ (aZ ⟨_,rfl,aZ ⟨_,rfl,aZ q⟩⟩)⟩⟩⟩⟩⟩
  |_=>exact False.elim h
 |seq t xs=>
  cases t with
  |false=>
   refine⟨rfl,_,rfl,aK ⟨_,rfl,aK ⟨_,rfl,aK ⟨_,rfl,aK ⟨_,rfl,aK ⟨_,rfl,aK ⟨_,rfl,aK ⟨_,rfl,aK ⟨_,rfl,aK ⟨_,rfl,aK ⟨_,rfl,aK ⟨_,rfl,aK ⟨_,rfl,kN (λ_=>⟨false,xs,xs,rfl,?_⟩) (λz=>absurd rfl z)⟩⟩⟩⟩⟩⟩⟩⟩⟩⟩⟩⟩⟩
   rw[xG]
   refine⟨by rw[List.length_map];have:=h.1;omega,eM (λx=>.seq true [x,x]) (λx=>bT true) (λx hx R q=>⟨_,rfl,rfl,_,_,rfl,_,_,rfl,rfl,x,rfl,h.2 x hx,q⟩) ⟨rZ xs,?_⟩⟩
   rw[qS]
   exact q
  |true=>
   refine⟨rfl,_,rfl,aK ⟨_,rfl,aK ⟨_,rfl,aK ⟨_,rfl,aK ⟨_,rfl,aK ⟨_,rfl,aK ⟨_,rfl,aK ⟨_,rfl,aK ⟨_,rfl,aK ⟨_,rfl,aK ⟨_,rfl,aK ⟨_,rfl,aK ⟨_,rfl,kN (λ_=>⟨true,xs,xs,rfl,?_⟩) (λz=>absurd rfl z)⟩⟩⟩⟩⟩⟩⟩⟩⟩⟩⟩⟩⟩
   rw[xG]
   refine⟨by rw[List.length_map];have:=h.1;omega,eM (λx=>.seq true [x,x]) (λx=>bT true) (λx hx R q=>⟨_,rfl,rfl,_,_,rfl,_,_,rfl,rfl,x,rfl,h.2 x hx,q⟩) ⟨rZ xs,?_⟩⟩
   rw[qS]
   exact q
theorem zY(h:Has K mg "_law_same" kP)(B:Own mg):∀n:Nat,aE P w K mg base (1+n) "_law_same" ["_law_one","_law_other"] (jZ n)
 |0=>h.pfalse zKe (fun|_,_,_,_,_,_,[_,_],_=>rfl) λas R ⟨_,_,h,_⟩=>h
 |n+1=>zJJ h B (zY h B n)
end
section
variable{P:Program}{w:World}{K:W.Frag}{mg:Str->Option Value}{base:Heap}
open WordM
def RB(n L:Nat)(T:Tv):Prop:=RpD n T/\(rT n T).length<=L
theorem RB.le{n L M:Nat}{T:Tv}(h:RB n L T)(l:L<=M):RB n M T:=⟨h.1,Nat.le_trans h.2 l⟩
theorem zDc{x:Str}(h:Sg x):∀c∈x.cps.toList,c<16 ^ 8:=λc hc=>by
 have:∀c∈cs SIG,c<16 ^ 8:=by decide +kernel
 exact this c (h c hc)
theorem zAr{x:Str}(h:Sg x)(hl:x.length<=43):(reprText x).length<=432:=Nat.le_trans (PySem.StrLaws.reprText_len x (zDc h)) (by omega)
theorem zJz:∀m∈MK,(reprText m).length<=432:=by decide +kernel
theorem zDt{i:Int}(h1:-(10 ^ 100)<i)(h2:i<10 ^ 100):i.natAbs.log2<1920:=by
 have:i.natAbs<2 ^ 1920:=Nat.lt_of_lt_of_le (show i.natAbs<10 ^ 100 by omega) (by decide +kernel)
 by_cases z:i.natAbs=0
 ·rw[z];decide
 ·exact(Nat.log2_lt z).mpr this
theorem lJ(n:Nat){i:Int}(h1:-(10 ^ 100)<i)(h2:i<10 ^ 100):RB (n+1) 432 (iT i):=by
 refine⟨zDt h1 h2,?_⟩
 have:=(zDz i (by omega)).2
 show(Str.ofString (toString i)).length<=432
 rw[WordM.len,zFR,List.length_map]
 omega
theorem zFq(n:Nat)(b:Bool):RB (n+1) 432 (bT b):=by cases b<;>exact⟨trivial,by show(Str.ofString _).length<=432;decide +kernel⟩
theorem gC(n:Nat){x:Str}(h:(reprText x).length<=432):RB (n+1) 432 (sT x):=⟨Nat.le_trans h (by decide),h⟩
theorem fT{n L M:Nat}{xs:List Tv}(h:∀x∈xs,RB n L x)(hm:xs.length*(L+2)+4<=M)(h1:M<=100000):RB (n+1) M (.seq true xs):=by
 have:=zBS (B:=L) (ts:=xs.map (rT n)) λt ht=>by
  obtain⟨x,hx,rfl⟩:=List.mem_map.mp ht
  exact(h x hx).2
 rw[List.length_map]at this
 exact⟨⟨by omega,λx hx=>(h x hx).1⟩,by show(tupleText _).length<=_;omega⟩
theorem zIj(n:Nat){w:Wd}(h:WdS w):RB (n+3) 8714 (fW w):=by
 cases w with
 |few ss=>
  refine fT (L:=2608) (λx hx=>?_) (by simp) (by decide)
  simp only[List.mem_cons,List.not_mem_nil,or_false]at hx
  rcases hx with rfl|rfl
  ·exact(gC (n+1) (by decide +kernel)).le (by decide)
  ·refine fT (L:=432) (λx hx=>?_) (by rw[List.length_map];have:=h.1.2.1;omega) (by decide)
   obtain⟨s,hs,rfl⟩:=List.mem_map.mp hx
   exact gC n (zAr (h.1.2.2.2 s hs).1 (h.2 s hs))
 |make hd lo hi ms=>
  have h:MkD hd lo hi ms:=h
  have a0:=h.a0
  have a3:=h.a3
  have b1:=h.b1
  have b6:=h.b6
  refine fT (L:=1740) (λx hx=>?_) (by simp) (by decide)
  simp only[List.mem_cons,List.not_mem_nil,or_false]at hx
  rcases hx with rfl|rfl|rfl|rfl|rfl
  ·exact(gC (n+1) (by decide +kernel)).le (by decide)
  ·exact(gC (n+1) (zAr h.h3.1 (by have:=h.h3.2;omega))).le (by decide)
  ·exact(lJ (n+1) (by omega) (by omega)).le (by decide)
  ·exact(lJ (n+1) (by omega) (by omega)).le (by decide)
  ·refine fT (L:=432) (λx hx=>?_) (by rw[List.length_map];have:=h.sub.length_le;simp[MK]at this;omega) (by decide)
   obtain⟨s,hs,rfl⟩:=List.mem_map.mp hx
   exact gC n (zJz s (h.sub.mem hs))
theorem zIk(n:Nat){p:Pt}(h:LfD p):RB (n+4) 17436 (aW p):=by
 cases p with
 |nothing=>
  rw[aW]
  exact fT (L:=432) (λx hx=>by rw[List.mem_singleton.mp hx];exact gC (n+2) (by decide +kernel)) (by decide) (by decide)
 |truths bs=>
  rw[aW]
  refine fT (L:=872) (λx hx=>?_) (by simp) (by decide)
  simp only[List.mem_cons,List.not_mem_nil,or_false]at hx
  rcases hx with rfl|rfl
  ·exact(gC (n+2) (by decide +kernel)).le (by decide)
  ·refine fT (L:=432) (λx hx=>?_) (by rw[List.length_map];rcases h with rfl|rfl|rfl<;>decide) (by decide)
   obtain⟨b,_,rfl⟩:=List.mem_map.mp hx
   exact zFq (n+1) b
 |numbers lo hi st=>
  obtain⟨h1,h2,h3,h4,h5,_⟩:=(show kX lo hi st from h)
  rw[aW]
  refine fT (L:=432) (λx hx=>?_) (by simp) (by decide)
  simp only[List.mem_cons,List.not_mem_nil,or_false]at hx
  rcases hx with rfl|rfl|rfl|rfl
  ·exact gC (n+2) (by decide +kernel)
  ·exact lJ (n+2) (by omega) (by omega)
  ·exact lJ (n+2) (by omega) (by omega)
  ·exact lJ (n+2) (by omega) (by omega)
 |texts w=>
  rw[aW]
  refine fT (L:=8714) (λx hx=>?_) (by simp) (by decide)
  simp only[List.mem_cons,List.not_mem_nil,or_false]at hx
  rcases hx with rfl|rfl
  ·exact(gC (n+2) (by decide +kernel)).le (by decide)
  ·exact zIj n h
 |_=>exact False.elim h
theorem zFp{f:List Pt}(l4:f.length<=4)(h:∀p∈f,LfD p):RpD 5 (dB f):=by
 refine(fT (n:=4) (L:=17436) (M:=69756) (xs:=f.map aW) (λx hx=>?_) (by rw[List.length_map];omega) (by decide)).1
 obtain⟨p,hp,rfl⟩:=List.mem_map.mp hx
 exact zIk 0 (h p hp)
end
end My
namespace My
open PySem L2 PyProof.Rows WordM
section
variable{P:Program}{w:World}{K:W.Frag}{mg:Str->Option Value}{base:Heap}
theorem zBB:bN ["_law_value","_law_found","_law_name"] ["_law_value"] (aI kQ):=fsc (by decide +kernel)
theorem zJK(h:Has K mg "_law_copy" kQ)(B:Own mg)(G34_:aE P w K mg base 1 "_law_copy" ["_law_value"] bP)   : aE P w K mg base 2 "_law_copy" ["_law_value"] kA:=by
 refine h.pg1 ["_law_value","_law_found","_law_name"] (λnd hr=>
   (aG (aV (bI (bC "list" fL rfl B.isinstance (aA 0) (bB (v:=.ty "list") rfl B.list_ boot_list rfl)))
    (aJ (aM (aP (eD (sc:=aI kQ) (XN:=["_law_value","_law_found","_law_name"]) (N:=["_law_item"]) (fr:=[]) (bO (aA 0)) (λ_ _ _ _ _=>(aL G34_ hr (aB (aA 0) aC)))))))
    aU)
   (aG (aV (bI (bC "dict" gU rfl B.isinstance (aA 0) (bB (v:=.ty "dict") rfl B.dict_ boot_dict rfl)))
    (aG (zDZ (i:=1) nd rfl (.inl rfl))
    (aG (hJ (m:=3) PassesOwn.never rfl (bO (aA 0)) (dH 2 (by decide) nd rfl (.inl rfl))
     (aJ (zFa (i:=1) (zAW hr) rfl (by first|exact Or.inl rfl|exact Or.inr (Or.inl rfl)|exact Or.inr (Or.inr rfl)) (aA 2) (aL G34_ hr (aB (aN hr (aA 0) (aA 2)) aC)))))
    (aJ (aM (aA 1)))))
    aU)
   (aJ (aM (aA 0)))))) (λas R q=>?_)
 obtain⟨v,rfl,hv,q⟩:=q
 rcases hv with rfl|⟨b,rfl⟩|⟨i,rfl⟩|⟨s,rfl,_⟩<;>exact⟨rfl,_,rfl,aK ⟨_,rfl,aK q⟩⟩
def sP:LSp:=λas R=>∃xs:List Tv,as=[.va (.seq false xs)]/\xs.length<=60/\(∀x∈xs,Lv x)/\R xs
theorem zEG(h:Has K mg "_law_copy" kQ)(B:Own mg):gL P w K mg base 4 "_law_copy" ["_law_value"] sP:=by
 have G34_:=zJK (P:=P) (w:=w) (K:=K) (mg:=mg) (base:=base) h B (h.pfalse zBB (fun|_,_,_,_,_,_,[_],_=>rfl) λas R q=>q)
 refine h.lgood zBB (fun|_,_,_,_,_,_,[_],_=>rfl) (λf cdv A outer s H E F hr=>
   (zHZ (bI (bC "list" fL rfl B.isinstance (aA 0) (bB (v:=.ty "list") rfl B.list_ boot_list rfl)))
    (zAi (eD (sc:=aI kQ) (XN:=["_law_value","_law_found","_law_name"]) (N:=["_law_item"]) (fr:=[]) (bO (aA 0)) (λ_ _ _ _ _=>(aL G34_ hr (aB (aA 0) aC)))))
    zHY)) (λas R q=>?_)
 obtain⟨xs,rfl,l,h,q⟩:=q
 refine⟨rfl,_,rfl,aZ ⟨by omega,wZ (λx=>x) (λx hx R q=>⟨x,rfl,h x hx,q⟩) (by rw[List.map_id'];exact q)⟩⟩
theorem zFV{v:Tv}(h:Lv v):oR 1 v:=by
 rcases h with rfl|⟨b,rfl⟩|⟨i,rfl⟩|⟨s,rfl,_⟩<;>trivial
theorem zHy{v:Tv}(h:Lv v):TupT v:=by
 rcases h with rfl|⟨b,rfl⟩|⟨i,rfl⟩|⟨s,rfl,_⟩<;>exact .leaf _
def rN:PSp:=λas R=>∃f:List Pt,as=[.va (dB f)]/\f.length<=4/\lG f/\(∀p∈f,LfD p)/\R (bT true)
theorem zJH(h:Has K mg "_law_right" tM)(B:Own mg)(G9_:gL P w K mg base 6 "samples_of" ["form"] mE)(G28_:aE P w K mg base 5 "_law_lets" ["_law_form_here","_law_value"] pB)(G33_:aE P w K mg base 4 "_law_due" ["_law_values"] oA)(G34_:gL P w K mg base 4 "_law_copy" ["_law_value"] sP)(G35_:aE P w K mg base 3 "_law_same" ["_law_one","_law_other"] (jZ 2))(Brepr:mg "repr"=none):aE P w K mg base 8 "_law_right" ["_law_form_here"] rN:=by
 refine h.pg1 ["_law_form_here","_law_found","_law_held","_law_value"] (λnd hr=>
   (aG (iZ 1 nd (oF G9_ (hr.mono (by omega)) rfl (aB (aA 0) aC)))
   (aG (aV (lD λF=>(cW (cU (eN (bI (bC "list" fL rfl B.isinstance (aA 1) (bB (v:=.ty "list") rfl B.list_ boot_list rfl)))) (dC (dO hr (aP (kD (sc:=aI tM) (XN:=["_law_form_here","_law_found","_law_held","_law_value"]) (N:=["_law_value","_law_form_here"]) (fr:=[0]) (bO (aA 1)) (λ_ _ _ _ _=>(fS (eN (bI (aL G28_ hr (aB (aA 1) (aB (aA 0) aC))))))) (λ_ _ _ _ _=>aD))) (aP (bS aC)))))))
    (aJ (aM dD))
    aU)
   (aG (aV (lD λF=>(dO hr (bW (xS hr.gd hr.units) rfl Brepr L2.boot_repr (aB (aL G33_ hr (aB (aA 1) aC)) aC)) (bW (xS hr.gd hr.units) rfl Brepr L2.boot_repr (aB (aA 0) aC))))
    (aJ (aM dD))
    aU)
   (aG (bA 2 nd (aP (zD0 λF=>(oF G34_ (hr.mono (by omega)) rfl (aB (aA 1) aC)))))
   (aG (zE9 (i:=1) (v:=3) (by decide) PassesOwn.never rfl nd rfl (.inl rfl) (zAH (lD λF=>(bI (bC "list" fL rfl B.isinstance (aA 3) (bB (v:=.ty "list") rfl B.list_ boot_list rfl)))) (zAH (lD λF=>(bI (bC "dict" gU rfl B.isinstance (aA 3) (bB (v:=.ty "dict") rfl B.dict_ boot_dict rfl)))) zGs)))
   (aG (fA (fY 1 aO))
   (aJ (aM (aL G35_ hr (aB (aP (oF G9_ (hr.mono (by omega)) rfl (aB (aA 0) aC))) (aB (aA 2) aC)))))))))))) (λas R q=>?_)
 obtain⟨f,rfl,l4,up,ok,q⟩:=q
 have sl:=qO ok
 have lv:=zB ok
 refine⟨rfl,f,rfl,l4,ok,?_⟩
 show PEnds.nx _ _
 refine nxE (ρ':=[.va (dB f),.own (bV f),.no,.no]) rfl ?_
 refine⟨_,rfl,aK ⟨by omega,?_⟩⟩
 have e0:(bV f).filterMap (λ_=>(none:Option Tv))=[]:=List.filterMap_eq_nil_iff.mpr λ_ _=>rfl
 refine fM (λ_=>none) (λv hv R q=>⟨f,v,rfl,by omega,ok,lv v hv,_,rfl,?_⟩) ?_
 ·rw[zD8 ok v hv]
  exact aK q
 rw[e0]
 refine⟨by simp,.inr (.inl rfl),_,rfl,aK ?_⟩
 have rf:=zFp l4 ok
 refine⟨bV f,rfl,lv,by omega,?_⟩
 rw[zD9 up ok]
 refine⟨4,f.map aW,rfl,by decide,rf,4,f.map aW,rfl,by decide,rf,_,rfl,sNn ?_⟩
 refine⟨bV f,rfl,by omega,lv,λT hT=>zHy (lv T hT),?_⟩
 show PEnds.nx _ _
 refine nxE (ρ':=[.va (dB f),.own (bV f),.va (.seq false (bV f)),.no]) rfl ?_
 have fin:∀s3:Sl,zA5 (zAM (yW 1 (uC (sT "a text more")))) (zA6 (kE (jZ 2) (lR (uL (sI mE (lR (kL 0) iE))) (lR (kL 2) iE)))) {nx:=λx=>R nT,rt:=R} [.va (dB f),.own (bV f),.va (.seq false (bV f)),s3]:=λs3=>
  ⟨⟨_,rfl⟩,_,rfl,by omega,f,rfl,l4,ok,.seq false (bV f),rfl,⟨by omega,λx hx=>zFV (lv x hx)⟩,q⟩
 refine⟨bV f,rfl,λT hT=>?_,fin .no,λT hT=>fin (.va T)⟩
 rcases lv T hT with rfl|⟨b,rfl⟩|⟨i,rfl⟩|⟨s,rfl,_⟩<;>exact⟨⟨_,rfl,rfl,rfl⟩,⟨_,rfl,rfl,rfl⟩,trivial⟩
end
end My
namespace My
open PySem L2 PyProof.Rows WordM
section
variable{P:Program}{w:World}{K:W.Frag}{mg:Str->Option Value}{base:Heap}
theorem C38_:bN ["_law_script","_law_deck_here","_law_world_here","_law_turn"] ["_law_script"] (aI gO):=fsc (by decide +kernel)
theorem zHw{f:Addr}{fd:FuncData}(F:Fun K "law" "law" gO f fd)(B:Own mg)(G11_:Good P w K mg base 1 "_law_deck" ["_law_script"] (zAp K))(G17_:aE P w K mg base 5 "_law_world" ["_law_deck_here"] rK)(G37_:aE P w K mg base 8 "_law_right" ["_law_form_here"] rN)(G36_:aE P w K mg base 7 "_law_single" ["_law_deck_here","_law_world_here"] qR)(G9_:gL P w K mg base 6 "samples_of" ["form"] mE)(Brepr:mg "repr"=none):FnOk P w K mg base CX0 9 f fd ["_law_script"] (oG K):=by
 refine F.ok C38_ (λvs H Q E q=>?_) (λcdv A outer s H vs Q E hr q=>?_)
 ·obtain⟨a,ns,rfl,_⟩:=q
  rfl
 ·obtain⟨aa,ns,rfl,hS,hlen,q⟩:=q
  have nd:=C38_.nd
  refine⟨_,(eB (hX (i:=1) nd rfl (by first|exact Or.inl rfl|exact Or.inr rfl) (lU G11_ (hr.mono (by omega)) rfl (cJ (pv 0) cT)))
   (zFy λF=>(aG (bA 2 nd (aL G17_ hr (bD 1 aC)))
   (aG (hJ (m:=4) PassesOwn.never rfl (jK rfl B.range (aB aD aC)) (dH 3 (by decide) nd rfl (.inl rfl))
    (aJ (aV (eN (bI (aL G37_ hr (aB (aL G36_ hr (bD 1 (aB (aA 2) aC))) aC))))
     (aJ (aM dD))
     aU)))
   (aJ (aM (cM (eQ hr.units).op (aP (oF G9_ (hr.mono (by omega)) rfl (aB (cC aC) aC))) (aP (bS aC))))))))),?_⟩
  refine⟨_,rfl,aa,ns,rfl,hS,λp c H1 np nc d1 s1=>?_⟩
  refine zFW (N:=["_law_script","_law_deck_here","_law_world_here","_law_turn"]) (by decide) d1 q ?_
  clear q hS hlen hr d1 s1 np nc
  refine⟨rfl,rfl,λnm tx st sp hw=>?_⟩
  show PEnds.nx _ _
  refine nxE (ρ':=[.no,.dk,.va (fB nm tx st sp),.no]) rfl ?_
  refine⟨_,rfl,by decide,by decide,?_⟩
  refine lC (λi ρ=>∃s3:Sl,ρ=[.no,.dk,.va (fB nm tx st sp),s3]) ⟨_,rfl⟩ ?_ ?_
  ·rintro i T _ N hT ⟨s3,rfl⟩ hN
   exact⟨rfl,nm,tx,st,sp,rfl,hw,λf _ l4 up ok=>⟨f,rfl,l4,up,ok,_,rfl,aK (hN _ ⟨_,rfl⟩)⟩⟩
  ·rintro _ ⟨s3,rfl⟩
   exact⟨by simp,[],rfl,by decide,(λp hp=>nomatch hp),by simp,.inr (.inl rfl),rfl⟩
end
end My
namespace My
open PySem L2 PyProof.Rows
open WordM
open PySem
theorem all_mk{l:W.OpenLaw}{w:World}{K:W.Frag}{h:Heap}{mg:Str->Option Value}{fa:Addr}(X:K.In h)(G:h.Ns mainGlobals mg)(hfa:mg "law"=some (.ref fa)){f38:Addr}{v_38 t_38:Option Addr}{p_38:Array (Option Value)}{u_38 w_38 x_38 y_38 r_38 q_38:Value}
 (h0_:Has K mg "copied" s0_)
 (h1_:Has K mg "telling_numbers" s1_)
 (h2_:Has K mg "words_texts" s2_)
 (h3_:Has K mg "leaf_values" s3_)
 (h4_:Has K mg "list_samples" s4_)
 (h5_:Has K mg "table_samples" s5_)
 (h6_:Has K mg "record_samples" s6_)
 (h7_:Has K mg "part_samples" s7_)
 (h8_:Has K mg "form_samples" s8_)
 (h9_:Has K mg "samples_of" s9_)
 (h10_:Has K mg "_law_mixed" uA)
 (h11_:Has K mg "_law_deck" tZ)
 (h12_:Has K mg "_law_take" tY)
 (h13_:Has K mg "_law_signs" tX)
 (h14_:Has K mg "_law_text" zBe)
 (h15_:Has K mg "_law_unlike" zBd)
 (h16_:Has K mg "_law_far" zBc)
 (h17_:Has K mg "_law_world" tW)
 (h18_:Has K mg "_law_make" tV)
 (h19_:Has K mg "_law_some_words" tU)
 (h20_:Has K mg "_law_record" tT)
 (h21_:Has K mg "_law_table" tS)
 (h22_:Has K mg "_law_part" zBb)
 (h23_:Has K mg "_law_form" tR)
 (h24_:Has K mg "_law_mark" zBa)
 (h25_:Has K mg "_law_words_let" tP)
 (h26_:Has K mg "_law_dict_let" tO)
 (h27_:Has K mg "_law_part_lets" pA)
 (h28_:Has K mg "_law_lets" mB)
 (h29_:Has K mg "_law_divisor" zA9)
 (h30_:Has K mg "_law_words" kR)
 (h31_:Has K mg "_law_run" zA8)
 (h32_:Has K mg "_law_dicts" tN)
 (h33_:Has K mg "_law_due" fG)
 (h34_:Has K mg "_law_copy" kQ)
 (h35_:Has K mg "_law_same" kP)
 (h36_:Has K mg "_law_single" oZ)
 (h37_:Has K mg "_law_right" tM)
 (a38:W.nsIn K mainGlobals "law"=some (some (.ref f38))) (l38:K.lookup f38=some ⟨u_38,v_38,.func (W.fnOf "law" "law" (dI gO) (cF gO) (aI gO) .none w_38 x_38 y_38 t_38 r_38 q_38),p_38⟩) (c38:W.codeIn K r_38 "law"=true) (k38:W.keepIn K (.ref f38)=true)
    (z0:W.nsIn K mainGlobals "len"=some none) (z1:W.nsIn K mainGlobals "range"=some none) (z2:W.nsIn K mainGlobals "isinstance"=some none) (z3:W.nsIn K mainGlobals "int"=some none) (z4:W.nsIn K mainGlobals "bool"=some none) (z5:W.nsIn K mainGlobals "str"=some none) (z6:W.nsIn K mainGlobals "list"=some none) (z7:W.nsIn K mainGlobals "tuple"=some none) (z8:W.nsIn K mainGlobals "dict"=some none) (z9:W.nsIn K mainGlobals "sum"=some none) (z10:W.nsIn K mainGlobals "min"=some none) (z11:W.nsIn K mainGlobals "max"=some none) (z12:W.nsIn K mainGlobals "all"=some none) (z13:W.nsIn K mainGlobals "any"=some none) (z14:W.nsIn K mainGlobals "abs"=some none) (z15:W.nsIn K mainGlobals "zip"=some none) (z16:W.nsIn K mainGlobals "sorted"=some none) (z17:W.nsIn K mainGlobals "set"=some none) (z18:W.nsIn K mainGlobals "enumerate"=some none) {aSIGNS:Addr} {tk1 tk2 tk3 tk4 tk5 tk6 tk7 tk8:Tok} {epS:Nat} {tkF tkR tkQ:Tok}
    (aS:W.nsIn K mainGlobals "SIGNS"=some (some (.ref aSIGNS)))
    (lS:K.lookup aSIGNS=some ⟨.type "dict",none,.dict #[{hash:=PyData.keyHash w.params ("figure":Str),key:=.str "figure" tk1,val:=.str "0123456789" tk2},{hash:=PyData.keyHash w.params ("great":Str),key:=.str "great" tk3,val:=.str "ABCDEFGHIJKLMNOPQRSTUVWXYZ" tk4},{hash:=PyData.keyHash w.params ("other":Str),key:=.str "other" tk5,val:=.str " !\"#$&'()*+,-./:;<=>?\x40[\\]^_`{|}~" tk6},{hash:=PyData.keyHash w.params ("small":Str),key:=.str "small" tk7,val:=.str "abcdefghijklmnopqrstuvwxyz" tk8}] epS,#[]⟩)
    (aF:W.nsIn K mainGlobals "MOST_FEW"=some (some (.int 6 tkF)))
    (aR:W.nsIn K mainGlobals "ROOM"=some (some (.int 400 tkR)))
    (aQ:W.nsIn K mainGlobals "MOST_PARTS"=some (some (.int 5000 tkQ)))
    (zr:W.nsIn K mainGlobals "repr"=some none):
    ∃fd:FuncData,(∀(s:Shared) (v:Value),BindsTo s fd ⟨[v],[]⟩ [("_law_script",v)])/\∀base:Heap,K.In base->base.Ns mainGlobals mg->FnOk l.prog w K mg base CX0 9 fa fd ["_law_script"] (oG K):=by
  have e:=hfa.symm.trans (PySem.W.mg_of X G a38)
  cases e
  have B:Own mg:=zHo X G z0 z1 z2 z3 z4 z5 z6 z7 z8 z9 z10 z11 z12 z13 z14 z15 z16 z17 z18
  refine⟨W.fnOf "law" "law" (dI gO) (cF gO) (aI gO) .none w_38 x_38 y_38 t_38 r_38 q_38,λs v=>.of_eq rfl,λbase KB GB=>?_⟩
  have GSIGNS:tK K w.params mg "SIGNS" SGN:=⟨aSIGNS,PySem.W.mg_of X G aS,⟨⟨_,_,lS,⟨rfl,⟨_,rfl⟩,⟨_,rfl⟩,rfl,⟨_,rfl⟩,⟨_,rfl⟩,rfl,⟨_,rfl⟩,⟨_,rfl⟩,rfl,⟨_,rfl⟩,⟨_,rfl⟩,trivial⟩⟩,by decide +kernel⟩⟩
  have GMOST_FEW:iY K mg "MOST_FEW" (iT 6):=⟨.int 6,_,PySem.W.mg_of X G aF,⟨_,rfl⟩,λH=>.flat rfl⟩
  have GROOM:iY K mg "ROOM" (iT 400):=⟨.int 400,_,PySem.W.mg_of X G aR,⟨_,rfl⟩,λH=>.flat rfl⟩
  have GMOST_PARTS:iY K mg "MOST_PARTS" (iT 5000):=⟨.int 5000,_,PySem.W.mg_of X G aQ,⟨_,rfl⟩,λH=>.flat rfl⟩
  have Brepr:mg "repr"=none:=PySem.W.mg_none_of X G zr
  have G12_:aE l.prog w K mg base 2 "_law_take" ["_law_deck_here","_law_most"] gD:=Good.take (zHK h12_ (zF3 h10_))
  have G13_:aE l.prog w K mg base 1 "_law_signs" [] nK:=zJ5 h13_ B 
  have G14_:aE l.prog w K mg base 3 "_law_text" ["_law_deck_here","_law_most"] lM:=zJ4 h14_ B G13_ G12_
  have G15_:aE l.prog w K mg base 4 "_law_unlike" ["_law_deck_here","_law_many","_law_most"] qQ:=zJ3 h15_ B G13_ G14_
  have G16_:aE l.prog w K mg base 3 "_law_far" ["_law_deck_here"] tE:=zJ2 h16_ B G12_
  have G17_:aE l.prog w K mg base 5 "_law_world" ["_law_deck_here"] rK:=zJ1 h17_ B G12_ G15_ G14_ G16_
  have G18_:aE l.prog w K mg base 4 "_law_make" ["_law_deck_here"] sM:=zJ0 h18_ B G12_ G14_
  have G1_:aE l.prog w K mg base 1 "telling_numbers" ["run"] qA:=g1_ h1_ B 
  have G2_:aE l.prog w K mg base 1 "words_texts" ["words"] rL:=g2_ h2_ B GMOST_FEW GSIGNS
  have G23_:aE l.prog w K mg base 1 "_law_form" ["_law_deck_here","_law_world_here","_law_deep","_law_most"] bP:=zJV h23_ B 
  have G21_:aE l.prog w K mg base 1 "_law_table" ["_law_deck_here","_law_world_here","_law_deep"] bP:=zJX h21_ B 
  have G20_:aE l.prog w K mg base 1 "_law_record" ["_law_deck_here","_law_world_here","_law_deep","_law_many"] bP:=zJY h20_ B 
  have G19_:aE l.prog w K mg base 5 "_law_some_words" ["_law_deck_here","_law_world_here"] rM:=zJZ h19_ B G12_ G18_
  have G22_:aE l.prog w K mg base 6 "_law_part" ["_law_deck_here","_law_world_here","_law_deep","_law_kind","_law_most"] rP:=zJW h22_ B G12_ G19_ G23_ G21_ G20_
  have G36_:aE l.prog w K mg base 7 "_law_single" ["_law_deck_here","_law_world_here"] qR:=zJI h36_ B G12_ G22_
  have G24_:aE l.prog w K mg base 1 "_law_mark" ["_law_sign"] nZ:=zJU h24_ B 
  have G25_:aE l.prog w K mg base 2 "_law_words_let" ["_law_words_here","_law_text_here"] mM:=zJT h25_ B G24_
  have G26_:aE l.prog w K mg base 1 "_law_dict_let" ["_law_part_here","_law_value"] bP:=zJS h26_ B 
  have G28_:aE l.prog w K mg base 5 "_law_lets" ["_law_form_here","_law_value"] pB:=zHL h28_ h27_ B G25_ G26_
  have G29_:aE l.prog w K mg base 1 "_law_divisor" ["_law_one","_law_other"] qB:=zJP h29_ B 
  have G31_:aE l.prog w K mg base 2 "_law_run" ["_law_numbers"] oK:=zJN h31_ B G29_
  have G30_:aE l.prog w K mg base 2 "_law_words" ["_law_texts"] nJ:=zJO h30_ B G24_
  have G32_:aE l.prog w K mg base 1 "_law_dicts" ["_law_dicts_here"] bP:=zJM h32_ B 
  have G33_:aE l.prog w K mg base 4 "_law_due" ["_law_values"] oA:=zHM h33_ B G31_ G30_ G32_
  have G3_:aE l.prog w K mg base 2 "leaf_values" ["part"] rO:=g3_ h3_ B G1_ G2_
  have G4_:aE l.prog w K mg base 1 "list_samples" ["part","room"] bP:=g4_ h4_ B 
  have G6_:aE l.prog w K mg base 1 "record_samples" ["part","room"] bP:=g6_ h6_ B 
  have G5_:aE l.prog w K mg base 1 "table_samples" ["part","room"] bP:=g5_ h5_ B 
  have G7_:aE l.prog w K mg base 3 "part_samples" ["part","room"] tD:=g7_ h7_ B G4_ G6_ G5_ G3_
  have G8_:aE l.prog w K mg base 4 "form_samples" ["form","room"] tF:=g8_ h8_ B G7_
  have G0_:aE l.prog w K mg base 2 "copied" ["value"] kA:=zHO h0_ B
  have G9_:gL l.prog w K mg base 6 "samples_of" ["form"] mE:=g9_ h9_ B G8_ G0_ GROOM GMOST_PARTS
  have G35_:aE l.prog w K mg base 3 "_law_same" ["_law_one","_law_other"] (jZ 2):=zY h35_ B 2
  have G34_:gL l.prog w K mg base 4 "_law_copy" ["_law_value"] sP:=zEG h34_ B
  have G37_:aE l.prog w K mg base 8 "_law_right" ["_law_form_here"] rN:=zJH h37_ B G9_ G28_ G33_ G34_ G35_ Brepr
  exact zHw (zAE (st:=gO) l38 c38 k38) B (zHN h11_ B) G17_ G37_ G36_ G9_ Brepr
theorem walk{l:W.OpenLaw}{q:Program}{loose:List Str}{XP:(Str->Option Value)->Heap->Prop}{YP:World->Heap->Prop}{d:DefRec}{K:Params->W.Frag}(hn:l.most=some 63)(hdf:d.params.defaults=[])
  (hY:∀(w:World) (h:Heap),YP w h->(K w.params).In h)
  (F:∀(w:World) (mg:Str->Option Value) (fa:Addr) (h:Heap),(K w.params).In h->h.Ns mainGlobals mg->mg d.name=some (.ref fa) ->
   ∃fd:FuncData,(∀(s:Shared) (u:Value),BindsTo s fd ⟨[u],[]⟩ [("_law_script",u)])/\∀base:Heap,(K w.params).In base->base.Ns mainGlobals mg->FnOk l.prog w (K w.params) mg base CX0 9 fa fd ["_law_script"] (oG (K w.params))):
  PySem.W.WalkO q loose XP YP l.row.toRowW d [] (λf vs=>PySem.call f vs):=
 L2.walk_of (n:=63) (k:=9) (x:="_law_script") (CX:=λ_=>CX0) (sp:=λw=>oG (K w.params)) hn (by decide) hdf ⟨rfl,by decide,by decide,rfl⟩ hY F (λ_ _ a ns hl _ hS=>⟨a,ns,rfl,hS,hl,λ_=>rfl⟩) λ_ _ _ _ _ z=>z
end My
inductive PySem.W.Fast:Prop
|tw6949968605786543018
|tw16949436382707851392
|tw11306190929461446848
|tw7238810559611010592
|tw6898066692648624960
|tw7631736393074706465
|tw16011618832703920641
|tw5111228297530011233
|tw39054588471218145
|tw3771548728200328290
|tw15668748942657399042
|tw18361268272959855906
|tw9891780897580995202
|tw3425554423718557378
|tw1254783900912506979
|tw15170592178897028259
|tw12332348128990695715
|tw11573237453577284131
|tw8128488890316516131
|tw13516494398859809699
|tw2861293101713810403
|tw3750428995420751076
|tw6515954809674983684
|tw16903980787343060676
|tw5264655300767605732
|tw13809096741684526245
|tw7266790043033744869
|tw17542647019631429253
|tw18348853487280447301
|tw520422195403074726
|tw13565398036408575174
|tw14684636863485001030
|tw12070036682348015078
|tw478141353202100998
|tw16640913594813638406
|tw13473547331361057927
|tw956621652734108967
|tw17555120661157787271
|tw9462052199149026312
|tw7323146323827532072
|tw2954411158067332744
|tw649349171687926600
|tw477987641679217544
|tw1434369716441903016
|tw3346151786572981353
|tw587158081959349385
|tw11425090476216045033
|tw1471682621786923529
|tw3399211686488758857
|tw18164775961513148041
|tw12890451954790659882
|tw9734317264403686539
|tw2927651400019031499
|tw2441736203308716108
|tw17952195375448187020
|tw2153260148332856620
|tw290738868203771436
|tw1771348977744279212
|tw7060230838538067724
|tw2106107812085602092
|tw4551418103515897644
|tw14875916561971442733
|tw4443240669116568845
|tw1697798905010024781
|tw6072872657222740301
|tw8920599200884001966
|tw9968169022674938062
|tw12509432962230724110
|tw17996477060305613646
|tw4533305401509618542
|tw759199106180856847
|tw17657428280597866927
|tw13044237733901135375
|tw5085472181675102159
|tw12827702777457990352
|tw2782718828564013968
|tw4522659089532371952
|tw8518237290289409008
|tw15456963220824266097
|tw15058019201465102929
|tw957764937087982578
|tw207640205150350451
|tw13300972505738517683
|tw16546782360911405204
|tw9251012930787540116
|tw4930835002705456500
|tw2851647116426648980
|tw17597600303685913364
|tw14970320588056261620
|tw7370978213479170389
|tw15348708970391572917
|tw11769285003216137973
|tw11922673566468928341
|tw8131252257607301045
|tw15025634093516001462
|tw13253565688197436790
|tw1458401394172373494
|tw15195396813408121398
|tw16831401031699009174
|tw9293126588343650294
|tw13382861863283700919
|tw10004476468466948311
|tw11361970175495298359
|tw2609780066993959255
|tw15070490287640199703
|tw11406901083739693080
|tw16913656733403072984
|tw9646866162953703641
|tw12987569061055095289
|tw14358096459838744602
|tw12087684152015622394
|tw14333436450044319194
|tw2326030934605276379
|tw7068377371209042235
|tw10731675506734876059
|tw6136762217186960827
|tw12470053555326884475
|tw4569509888387697756
|tw5535838248986063036
|tw698443924043851132
|tw8828973399220809116
|tw18204472297365330364
|tw14699584976362020348
|tw18023174800818464572
|tw12161528288152286044
|tw9589463977770263516
|tw14162895049528137789
|tw3835065821076252733
|tw4179985170532728925
|tw457400147804721309
|tw7679377103579018653
|tw1056655199890724573
|tw13611488104996156285
|tw137857856926938174
|tw9415323553908029566
|tw8999205193633374366
|tw13789258502000226558
|tw1036552452366761214
|tw10413578355143862910
|tw14804480784091830974
|tw6642114104655222462
|tw9696923794304653054
|tw7082267591311354814
|tw6325930363070295038
|tw9460396965614835135
|tw16627023323148698079
|tw14690049600999906815
open PySem PySem.W PyProof.Rows
set_option maxRecDepth 100000 in
set_option maxHeartbeats 0 in
theorem PySem.Challenge.cw_leastform_k51_samples_of_single_values_holds : PySem.Challenge.rw_leastform_k51_samples_of_single_values.Holds := by
 w_on; o_law; k_head; (case hw => w_witness2)
 k_fill
 refine My.walk (l := PySem.Challenge.rw_leastform_k51_samples_of_single_values) rfl rfl (fun w h Y => PySem.W.km_in_of Y) ?F
 case F =>
  intro w mg fa h KX G hmg
  refine' My.all_mk KX G hmg (L2.has_mk KX G ?a0 ?l0 ?c0 ?k0) (L2.has_mk KX G ?a1 ?l1 ?c1 ?k1) (L2.has_mk KX G ?a2 ?l2 ?c2 ?k2) (L2.has_mk KX G ?a3 ?l3 ?c3 ?k3) (L2.has_mk KX G ?a4 ?l4 ?c4 ?k4) (L2.has_mk KX G ?a5 ?l5 ?c5 ?k5) (L2.has_mk KX G ?a6 ?l6 ?c6 ?k6) (L2.has_mk KX G ?a7 ?l7 ?c7 ?k7) (L2.has_mk KX G ?a8 ?l8 ?c8 ?k8) (L2.has_mk KX G ?a9 ?l9 ?c9 ?k9) (L2.has_mk KX G ?a10 ?l10 ?c10 ?k10) (L2.has_mk KX G ?a11 ?l11 ?c11 ?k11) (L2.has_mk KX G ?a12 ?l12 ?c12 ?k12) (L2.has_mk KX G ?a13 ?l13 ?c13 ?k13) (L2.has_mk KX G ?a14 ?l14 ?c14 ?k14) (L2.has_mk KX G ?a15 ?l15 ?c15 ?k15) (L2.has_mk KX G ?a16 ?l16 ?c16 ?k16) (L2.has_mk KX G ?a17 ?l17 ?c17 ?k17) (L2.has_mk KX G ?a18 ?l18 ?c18 ?k18) (L2.has_mk KX G ?a19 ?l19 ?c19 ?k19) (L2.has_mk KX G ?a20 ?l20 ?c20 ?k20) (L2.has_mk KX G ?a21 ?l21 ?c21 ?k21) (L2.has_mk KX G ?a22 ?l22 ?c22 ?k22) (L2.has_mk KX G ?a23 ?l23 ?c23 ?k23) (L2.has_mk KX G ?a24 ?l24 ?c24 ?k24) (L2.has_mk KX G ?a25 ?l25 ?c25 ?k25) (L2.has_mk KX G ?a26 ?l26 ?c26 ?k26) (L2.has_mk KX G ?a27 ?l27 ?c27 ?k27) (L2.has_mk KX G ?a28 ?l28 ?c28 ?k28) (L2.has_mk KX G ?a29 ?l29 ?c29 ?k29) (L2.has_mk KX G ?a30 ?l30 ?c30 ?k30) (L2.has_mk KX G ?a31 ?l31 ?c31 ?k31) (L2.has_mk KX G ?a32 ?l32 ?c32 ?k32) (L2.has_mk KX G ?a33 ?l33 ?c33 ?k33) (L2.has_mk KX G ?a34 ?l34 ?c34 ?k34) (L2.has_mk KX G ?a35 ?l35 ?c35 ?k35) (L2.has_mk KX G ?a36 ?l36 ?c36 ?k36) (L2.has_mk KX G ?a37 ?l37 ?c37 ?k37) ?a38 ?l38 ?c38 ?k38 ?z0 ?z1 ?z2 ?z3 ?z4 ?z5 ?z6 ?z7 ?z8 ?z9 ?z10 ?z11 ?z12 ?z13 ?z14 ?z15 ?z16 ?z17 ?z18 ?aS ?lS ?aF ?aR ?aQ ?zr
  any_goals k_is
