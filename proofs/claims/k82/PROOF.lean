import PyProof.Rows.All
import Wide.All
import OpenK.AllK
import Wide.FinOn
import Lean
import PyProof.EqAt
import PyProof.EqKinds
import PyProof.TupleCall
import PyProof.NeKinds
import PyProof.IsiTupleOf
import PyProof.IsiHeapPairs
import PyProof.IsiPairs
import PyProof.ConsumeWalk
import PyProof.Rows.SumAny
import PyProof.FitsBits
import PyProof.Rows.SeqMore
import PyProof.ZipIter
import PyProof.TupleIter
import PyProof.LongRange
import PyProof.Rows.Range3
import PyProof.Rows.SortWalk
import PyProof.Rows.SortStr
import PyProof.StrWalks
import PyProof.DictRoads
import PyProof.MeetsStr
import PyProof.Rows.StrNews2
import PyProof.StrLawsIn
import PyProof.StrLaws
import PyProof.Rows.CatFin
import PyProof.Rows.StrClose5
import PyProof.SetKind
import PyProof.Rows.SetFrom
import PyProof.Rows.StrInSeq
import PyProof.WalkLemmas
import PyProof.CollectWalk
import PyProof.Seq
import PyProof.ForAny
import PyProof.MakeMany
import PyProof.DictKinds
import PyProof.Rows.SortShell
import PyProof.StrOps2
import PyProof.ReprNest
import PyProof.CallFns
import PyProof.StrLawsRepr
import PyProof.FString5
import OpenK.KOwn
import KE.KIsAll
import PyProof.ExcArgsOwn
import KE.RegKIsAll
import PyProof.DictIter
import PyProof.DictItems
import PyProof.DictItemsLoops
import PyProof.DictWalks
import KE.KDictList
import KE.KMinKey
import PyProof.ListRange
import PyProof.Rows.CallKwBuiltin
import KE.KDictOf
import PyProof.AttrMissHeap
import PyProof.EnumMake
import PyProof.EnumFor
import PyProof.Rows.RuleB_bool
import KE.KEqDict
import PyProof.StrCalls6
import PyProof.StrLawsReplace
import PyProof.Rows.FStr
import PyProof.Rows.StrJoin2
import PyProof.WalksMore
import PyProof.TupleOfStr
import KE.KUnpack
import PyProof.MaxThree
import KE.KSortTup
import PyProof.MeetsSeq2
import PyProof.FactsAll.set_2
import PyProof.FactsAll.subtypes_5
import KE.KRevIter
import KE.KIntText
import PyProof.Rows.StrDouble
import PySem.Challenge.RW_leastform_k82_forms_read
set_option Elab.async false
set_option linter.all false
set_option maxRecDepth 100000
set_option maxHeartbeats 4000000
namespace L2
open PySem PySem.Spec PyProof.Rows
abbrev Key:=Sum Int Str
def jI:Key->Value->Bool
 |.inl k,v=>Value.isInt k v
 |.inr x,v=>Value.isStrOf x v
def zKa(w:World):Key->Int
 |.inl k=>hashInt k
 |.inr x=>hashStr w x
theorem fX:∀{k:Key}{v:Value},jI k v=true->(∃i t,k=Sum.inl i/\v=Value.int i t)\/(∃x t,k=Sum.inr x/\v=Value.str x t)
 |.inl i,v,h=>by
  obtain⟨t,e⟩:=Value.isInt_shape (k:=i) (v:=v) h
  exact .inl ⟨i,t,rfl,e⟩
 |.inr x,v,h=>by
  obtain⟨t,e⟩:=Value.isStrOf_shape (x:=x) (v:=v) h
  exact .inr ⟨x,t,rfl,e⟩
theorem zEG(i:Int)(t:Tok):jI (.inl i) (.int i t)=true:=by simp[jI,Value.isInt]
theorem zEF(x:Str)(t:Tok):jI (.inr x) (.str x t)=true:=by simp[jI,Value.isStrOf]
theorem zIp(a b:Int):decide ((Sum.inl a:Key)=Sum.inl b)=(a==b):=by
 by_cases e:a=b
 ·subst e;simp
 ·have h:¬ (Sum.inl a:Key)=Sum.inl b:=λq=>e (Sum.inl.inj q)
  rw[decide_eq_false h]
  exact(beq_eq_false_iff_ne.mpr e).symm
theorem zIm(a b:Str):decide ((Sum.inr a:Key)=Sum.inr b)=decide (a=b):=by
 by_cases e:a=b
 ·subst e;simp
 ·have h:¬ (Sum.inr a:Key)=Sum.inr b:=λq=>e (Sum.inr.inj q)
  rw[decide_eq_false h,decide_eq_false e]
theorem zIo(a:Int)(b:Str):decide ((Sum.inl a:Key)=Sum.inr b)=false:=decide_eq_false (λq=>nomatch q)
theorem zIn(a:Str)(b:Int):decide ((Sum.inr a:Key)=Sum.inl b)=false:=decide_eq_false (λq=>nomatch q)
def cY(prog:Program)(w:World):PySem.KeyKind prog w Key where
 is:=jI
 hash:=zKa w
 inj:=λv a b ha hb=>by
  rcases fX ha with⟨i,t,rfl,rfl⟩|⟨x,t,rfl,rfl⟩
  ·rcases fX hb with⟨j,u,rfl,e⟩|⟨y,u,rfl,e⟩
   ·injection e with e1 _;rw[e1]
   ·exact nomatch e
  ·rcases fX hb with⟨j,u,rfl,e⟩|⟨y,u,rfl,e⟩
   ·exact nomatch e
   ·injection e with e1 _;rw[e1]
 byValue:=λk v h=>by
  rcases fX h with⟨i,t,rfl,rfl⟩|⟨x,t,rfl,rfl⟩<;>rfl
 pyHash:=λhv h=>by
  rcases fX hv with⟨i,t,rfl,rfl⟩|⟨x,t,rfl,rfl⟩
  ·exact wpAny_pyHash_int h
  ·exact wpAny_pyHash_str h
 eqBool:=λhu hv h=>by
  rcases fX hu with⟨i,t,rfl,rfl⟩|⟨x,t,rfl,rfl⟩
  ·rcases fX hv with⟨j,u,rfl,rfl⟩|⟨y,u,rfl,rfl⟩
   ·rw[zIp]at h;exact wpAny_eqBool_int h
   ·rw[zIo]at h;exact SeqAt.EqAt.int_str i t y u _ _ _ _ h
  ·rcases fX hv with⟨j,u,rfl,rfl⟩|⟨y,u,rfl,rfl⟩
   ·rw[zIn]at h;exact SeqAt.EqAt.str_int x t j u _ _ _ _ h
   ·rw[zIm]at h;exact wpAny_eqBool_str h
 «strs»:=λk x t v h=>by
  rcases fX h with⟨i,u,rfl,e⟩|⟨y,u,rfl,e⟩
  ·exact nomatch e
  ·injection e with e1 _
   subst e1
   cases v<;>rfl
theorem zDw(prog:Program)(w:World)(i:Int)(t:Tok):(cY prog w).is (.inl i) (.int i t)=true:=zEG i t
theorem oU(prog:Program)(w:World)(x:Str)(t:Tok):(cY prog w).is (.inr x) (.str x t)=true:=zEF x t
end L2
namespace L2
open PySem PySem.Spec PyProof.Rows
inductive V where
 |non|bl (b:Bool)|int (i:Int)|str (x:Str)|byt (b:Array UInt8)|flt (b:UInt64)|ref (a:Addr)|ty (n:String)
 deriving DecidableEq
def RelV:V->Value->Prop
 |.non,u=>u=Value.none
 |.bl b,u=>u=Value.bool b
 |.int i,u=>∃t,u=Value.int i t
 |.str x,u=>∃t,u=Value.str x t
 |.byt b,u=>∃t,u=Value.bytes b t
 |.flt b,u=>∃t,u=Value.float b t
 |.ref a,u=>u=Value.ref a
 |.ty n,u=>u=Value.type n
abbrev Vals:List V->List Value->Prop:=Paired RelV
theorem Vals.length{xs:List V}{us:List Value}(r:Vals xs us):xs.length=us.length:=Paired.length r
theorem Vals.get:∀{xs:List V}{us:List Value}{i:Nat}{x:V},Vals xs us->xs[i]?=some x->∃u,us[i]?=some u/\RelV x u
 |_,_,_,_,.nil,e=>by simp at e
 |_,_,0,_,.cons r _,e=>by simp at e;subst e;exact⟨_,rfl,r⟩
 |_,_,i+1,x,.cons _ t,e=>by
  obtain⟨u,h1,h2⟩:=Vals.get (i:=i) (x:=x) t (by simpa using e)
  exact⟨u,by simpa using h1,h2⟩
theorem Vals.set{x:V}{u:Value}(r:RelV x u):∀{xs:List V}{us:List Value}(i:Nat),Vals xs us->Vals (xs.set i x) (us.set i u)
 |_,_,_,.nil=>.nil
 |_,_,0,.cons _ t=>.cons r t
 |_,_,i+1,.cons q t=>.cons q (Vals.set r i t)
theorem Vals.append:∀{xs ys:List V}{us ws:List Value},Vals xs us->Vals ys ws->Vals (xs++ys) (us++ws)
 |_,_,_,_,.nil,s=>s
 |_,_,_,_,.cons r t,s=>.cons r (Vals.append t s)
theorem Vals.take:∀{xs:List V}{us:List Value}(n:Nat),Vals xs us->Vals (xs.take n) (us.take n)
 |_,_,0,_=>.nil
 |_,_,_+1,.nil=>.nil
 |_,_,n+1,.cons r t=>.cons r (Vals.take n t)
theorem Vals.drop:∀{xs:List V}{us:List Value}(n:Nat),Vals xs us->Vals (xs.drop n) (us.drop n)
 |_,_,0,r=>r
 |_,_,_+1,.nil=>.nil
 |_,_,n+1,.cons _ t=>Vals.drop n t
def RelO:Option V->Option Value->Prop
 |some v,some u=>RelV v u
 |none,none=>True
 |_,_=>False
def KV{κ:Type}:List (κ×V)->List (κ×Value)->Prop:=Paired λ(p:κ×V) (q:κ×Value)=>p.1=q.1/\RelV p.2 q.2
def kV:Key->V
 |.inl i=>.int i
 |.inr x=>.str x
inductive HO where
 /-- a list -/
 |lst (xs:List V)
 /-- a tuple (never changes) -/
 |tup (xs:List V)
 /-- a dict whose keys are ints and texts; one whose keys are tuples of ints and texts (the empty one is both) -/
 |dK (kvs:List (Key×V))|dT (kvs:List (List Key×V))
 /-- a set of ints: its members, its size -/
 |set (S:Int->Bool) (n:Nat)
 /-- an instance of the class at C, its dict at dx, its attributes -/
 |ins (C dx:Addr) (fs:List (Str×V))
 /-- the dict of the instance at x -/
 |own (x:Addr)
 /-- the dict of an exception -/
 |xd (fs:List (Str×V))
 /-- a bound method, f of x -/
 |met (f x:Addr)
 /-- a range object lo, lo + 1, .. below hi -/
 |rng (lo hi:Int)
 /-- a thing that is known to the object (the script; a dict while a loop walks it): read, never written while it is so -/
 |frz (o:Obj) (u:HO)
 /-- a code object's table -/
 |tbl (ps:Array Value)
 /-- any other thing, by what is true of its one object (a def of one's own: SetO a S n := HO.ext fun h => ..) -/
 |ext (φ:Heap->Prop)
abbrev Hp:=Addr->Option HO
def upd(H:Hp)(a:Addr)(o:HO):Hp:=λb=>if b=a then some o else H b
theorem bF{H:Hp}{a:Addr}{o:HO}:upd H a o a=some o:=by unfold upd;rw[if_pos rfl]
theorem bD{H:Hp}{a b:Addr}{o:HO}(h:b≠a):upd H a o b=H b:=by unfold upd;rw[if_neg h]
theorem dM{H:Hp}{a b:Addr}{o:HO}(h:H a=some o)(h':H b=none):a≠b:=by
 intro e;subst e;rw[h]at h';cases h'
section
variable(P:Program)(w:World)
def ObjOk(H:Hp)(h:Heap)(a:Addr):HO->Prop
 |.lst xs=>xs.length<=sizeLine/\∃(its:List Value) (n:Nat),Vals xs its/\h.get? a=some {cls:=.type "list",data:=.seq its.toArray n}
 |.tup xs=>xs.length<=sizeLine/\∃its:List Value,Vals xs its/\IsTup h a its.toArray
 |.dK kvs=>kvs.length<=sizeLine/\(a==sysModules)=false/\∃vs,KV kvs vs/\h.DictOf (cY P w) a vs
 |.dT kvs=>kvs.length<=sizeLine/\(a==sysModules)=false/\∃xs:List (List Key×Addr×Value),
   Paired (λ(p:List Key×V) (q:List Key×Addr×Value)=>p.1=q.1/\H q.2.1=some (.tup (p.1.map kV))/\RelV p.2 q.2.2) kvs xs /\
   ∃o es ep,h.get? a=some o/\o.ExactDict/\o.data=.dict es ep/\es.toList=xs.map (entryOfKey (tupleKind (cY P w)))/\(xs.map (·.1)).Nodup
 |.set S n=>h.SetOf (intKind P w) a S n
 |.ins C dx fs=>H dx=some (.own a)/\fs.length<=1000/\dx≠a/\h.get? a=some (PySem.W.instObj C dx) /\
   ∃mA,h.Ns1 dx mA/\(∀f,RelO (fs.lookup f) (mA f))/\PySem.Within mA (fs.map (·.1))
 |.own _=>∃o,h.get? a=some o
 |.xd fs=>∃mA,h.Ns1 a mA/\∀f,RelO (fs.lookup f) (mA f)
 |.rng lo hi=>∃t u v,h.get? a=some {cls:=.type "range",data:=.fields #[.int lo t,.int hi u,.int 1 v]}
 |.frz o u=>h.get? a=some o/\ObjOk H h a u
 |.tbl ps=>h.get? a=some {cls:=.none,data:=.fields ps}
 |.met f x=>h.get? a=some (PySem.W.methodObj (.ref f) (.ref x))
 |.ext φ=>φ h/\(∃o,h.get? a=some o)/\∀h1 h2:Heap,φ h1->(∀o,h1.get? a=some o->h2.get? a=some o)->φ h2
def HOk(H:Hp)(h:Heap):Prop:=∀a o,H a=some o->ObjOk P w H h a o
end
section
variable{P:Program}{w:World}{H H':Hp}{h h':Heap}{a:Addr}{o:HO}
theorem ObjOk.lt(x:ObjOk P w H h a o):a<h.objs.size:=by
 cases o with
 |lst xs=>obtain⟨_,_,_,_,e⟩:=x;exact Heap.lt_size e
 |tup xs=>obtain⟨_,_,_,p⟩:=x;exact p.lt
 |dK kvs=>obtain⟨_,_,_,_,o,_,_,e,_⟩:=x;exact Heap.lt_size e
 |dT kvs=>obtain⟨_,_,_,_,o,_,_,e,_⟩:=x;exact Heap.lt_size e
 |set S n=>obtain⟨o,_,_,_,e,_⟩:=x;exact Heap.lt_size e
 |ins C dx fs=>obtain⟨_,_,_,e,_⟩:=x;exact Heap.lt_size e
 |own y=>obtain⟨_,e⟩:=x;exact Heap.lt_size e
 |xd fs=>obtain⟨_,⟨_,_,_,e,_⟩,_⟩:=x;exact Heap.lt_size e
 |rng lo hi=>obtain⟨_,_,_,e⟩:=x;exact Heap.lt_size e
 |frz ob u=>obtain⟨e,_⟩:=x;exact Heap.lt_size e
 |tbl ps=>exact Heap.lt_size (show h.get? a=some _ from x)
 |met f y=>exact Heap.lt_size (show h.get? a=some _ from x)
 |ext φ=>obtain⟨_,⟨_,e⟩,_⟩:=x;exact Heap.lt_size e
theorem Paired.mapP{α β:Type}{F G:α->β->Prop}:∀{l₁:List α}{l₂:List β},Paired F l₁ l₂->(∀a b,F a b->G a b)->Paired G l₁ l₂
 |_,_,.nil,_=>.nil
 |_,_,.cons r t,f=>.cons (f _ _ r) (Paired.mapP t f)
theorem ObjOk.stay(x:ObjOk P w H h a o)(k:∀b u,(b=a\/H b=some (.own a))->h.get? b=some u->h'.get? b=some u)
  (ho:∀b,H b=some (.own a)->H' b=some (.own a)) (ht:∀b xs,H b=some (.tup xs)->H' b=some (.tup xs)):ObjOk P w H' h' a o:=by
 induction o with
 |lst xs=>obtain⟨z,its,n,r,e⟩:=x;exact⟨z,its,n,r,k _ _ (.inl rfl) e⟩
 |tup xs=>obtain⟨z,its,r,ob,e,c⟩:=x;exact⟨z,its,r,ob,k _ _ (.inl rfl) e,c⟩
 |dK kvs=>obtain⟨z,y,vs,r,ob,es,ep,e,c⟩:=x;exact⟨z,y,vs,r,ob,es,ep,k _ _ (.inl rfl) e,c⟩
 |dT kvs=>
  obtain⟨z,y,xs,r,ob,es,ep,e,c⟩:=x
  exact⟨z,y,xs,Paired.mapP r λp q z=>⟨z.1,ht _ _ z.2.1,z.2.2⟩,ob,es,ep,k _ _ (.inl rfl) e,c⟩
 |set S n=>obtain⟨ob,es,ep,t,e,c⟩:=x;exact⟨ob,es,ep,t,k _ _ (.inl rfl) e,c⟩
 |ins C dx fs=>
  obtain⟨d,z,ne,e,mA,⟨od,es,ep,e2,c⟩,r⟩:=x
  exact⟨ho _ d,z,ne,k _ _ (.inl rfl) e,mA,⟨od,es,ep,k _ _ (.inr d) e2,c⟩,r⟩
 |own y=>obtain⟨ob,e⟩:=x;exact⟨ob,k _ _ (.inl rfl) e⟩
 |xd fs=>obtain⟨mA,⟨od,es,ep,e,c⟩,r⟩:=x;exact⟨mA,⟨od,es,ep,k _ _ (.inl rfl) e,c⟩,r⟩
 |rng lo hi=>obtain⟨t,u,v,e⟩:=x;exact⟨t,u,v,k _ _ (.inl rfl) e⟩
 |frz ob u ih=>obtain⟨e,q⟩:=x;exact⟨k _ _ (.inl rfl) e,ih q⟩
 |tbl ps=>
  have e:h.get? a=some {cls:=.none,data:=.fields ps}:=x
  show h'.get? a=some {cls:=.none,data:=.fields ps}
  exact k a _ (.inl rfl) e
 |met f y=>
  have e:h.get? a=some (PySem.W.methodObj (.ref f) (.ref y)):=x
  show h'.get? a=some (PySem.W.methodObj (.ref f) (.ref y))
  exact k a _ (.inl rfl) e
 |ext φ=>obtain⟨p,⟨o,e⟩,st⟩:=x;exact⟨st _ _ p λo q=>k _ _ (.inl rfl) q,⟨o,k _ _ (.inl rfl) e⟩,st⟩
theorem HOk.lt(x:HOk P w H h)(e:H a=some o):a<h.objs.size:=(x a o e).lt
theorem HOk.fresh(x:HOk P w H h)(e:h.objs.size<=a):H a=none:=by
 cases q:H a with
 |none=>rfl
 |some u=>exact absurd (Nat.lt_of_lt_of_le (x.lt q) e) (Nat.lt_irrefl _)
theorem HOk.kept(x:HOk P w H h)(k:∀b u,h.get? b=some u->h'.get? b=some u):HOk P w H h':=λa o e=>
 (x a o e).stay (λb u _ q=>k b u q) (λ_ q=>q) λ_ _ q=>q
theorem HOk.laid(x:HOk P w H h)(k:∀b u,h.get? b=some u->h'.get? b=some u)(hp:h.objs.size<=a)(new:ObjOk P w (upd H a o) h' a o):HOk P w (upd H a o) h':=λb u e=>by
 have hn:=x.fresh hp
 by_cases hb:b=a
 ·subst hb;rw[bF]at e;cases e;exact new
 ·rw[bD hb]at e
  exact(x b u e).stay (λc v _ q=>k c v q) (λc q=>by rw[bD (dM q hn)];exact q) λc xs q=>by rw[bD (dM q hn)];exact q
end
def Rd(H:Hp)(a:Addr)(u:HO):Prop:=H a=some u\/∃o,H a=some (.frz o u)
theorem Rd.ok{P:Program}{w:World}{H:Hp}{h:Heap}{a:Addr}{u:HO}(r:Rd H a u)(x:HOk P w H h):ObjOk P w H h a u:=by
 rcases r with r|⟨o,r⟩
 ·exact x a u r
 ·obtain⟨_,q⟩:=x a _ r
  exact q
def Mut:Option HO->Prop
 |some (.lst _)=>True
 |some (.dK _)=>True
 |some (.dT _)=>True
 |some (.set _ _)=>True
 |some (.ins _ _ _)=>True
 |some (.ext _)=>True
 |_=>False
section
variable{P:Program}{w:World}{H:Hp}{h h':Heap}{x e:Addr}{o':HO}
theorem HOk.write(ok:HOk P w H h)(mu:Mut (H x))(he:e=x\/H e=some (.own x))(k:∀b u,b≠e->h.get? b=some u->h'.get? b=some u)(heo:∃u,h'.get? e=some u)
  (new:ObjOk P w (upd H x o') h' x o'):HOk P w (upd H x o') h':=λb u q=>by
 have nown:∀c y,H c=some (.own y)->c≠x:=λc y r z=>by subst z;rw[r]at mu;exact mu
 have ntup:∀c xs,H c=some (.tup xs)->c≠x:=λc xs r z=>by subst z;rw[r]at mu;exact mu
 by_cases hb:b=x
 ·subst hb;rw[bF]at q;cases q;exact new
 ·rw[bD hb]at q
  by_cases hbe:b=e
  ·have q':H b=some (.own x):=by
    rcases he with z|z
    ·exact absurd (hbe.trans z) hb
    ·rw[hbe];exact z
   rw[q]at q';cases q'
   obtain⟨v,hv⟩:=heo
   exact⟨v,by rw[hbe];exact hv⟩
  ·refine(ok b u q).stay (λc v hc r=>k c v ?_ r) (λc r=>by rw[bD (nown c b r)];exact r) λc xs r=>by rw[bD (ntup c xs r)];exact r
   rcases hc with rfl|hc
   ·exact hbe
   ·rintro rfl
    rcases he with z|z
    ·exact nown c b hc z
    ·rw[hc]at z;cases z;exact hb rfl
end
structure Un (fs ex:List Addr) (H H':Hp) (h h':Heap):Prop where
 keep:∀b o,h.get? b=some o->H b=none->b∉fs->b∉ex->h'.get? b=some o
 slot:∀b o,h.get? b=some o->H b=none->b∈fs->b∉ex->∃sl,h'.get? b=some {o with slots:=sl}
 free:∀b o,h.get? b=some o->H b=none->b∉ex->H' b=none
 there:∀b o,h.get? b=some o->b∉ex->∃o',h'.get? b=some o'
 tups:∀b xs,H b=some (.tup xs)->H' b=some (.tup xs)
 frzs:∀b o u,H b=some (.frz o u)->H' b=some (.frz o u)
 tbls:∀b ps,H b=some (.tbl ps)->∃more,H' b=some (.tbl (ps++more))
section
variable{fs fs' ex ex':List Addr}{H H1 H2:Hp}{h h1 h2 h':Heap}{a x e:Addr}{o:HO}
theorem Un.any(u:Un fs ex H H1 h h1){b:Addr}{ob:Obj}(q:h.get? b=some ob)(n:H b=none)(hx:b∉ex):∃sl,h1.get? b=some {ob with slots:=sl}:=by
 by_cases hb:b∈fs
 ·exact u.slot b ob q n hb hx
 ·exact⟨ob.slots,u.keep b ob q n hb hx⟩
theorem Un.kept(k:∀b u,h.get? b=some u->h'.get? b=some u):Un fs ex H H h h':=
 ⟨λb ob q _ _ _=>k b ob q,λb ob q _ _ _=>⟨ob.slots,k b ob q⟩,λ_ _ _ n _=>n,λb ob q _=>⟨ob,k b ob q⟩,λ_ _ q=>q,λ_ _ _ q=>q,λ_ ps q=>⟨#[],by rw[q];simp⟩⟩
theorem Un.refl:Un fs ex H H h h:=Un.kept λ_ _ q=>q
theorem Un.laid(k:∀b u,h.get? b=some u->h'.get? b=some u)(hp:h.objs.size<=a)(hn:H a=none):Un fs ex H (upd H a o) h h' where
 keep:=λb u q _ _ _=>k b u q
 slot:=λb u q _ _ _=>⟨u.slots,k b u q⟩
 free:=λb u q n _=>by rw[bD (Nat.ne_of_lt (Nat.lt_of_lt_of_le (Heap.lt_size q) hp))];exact n
 there:=λb u q _=>⟨u,k b u q⟩
 tups:=λb xs q=>by rw[bD (dM q hn)];exact q
 frzs:=λb u xs q=>by rw[bD (dM q hn)];exact q
 tbls:=λb ps q=>⟨#[],by rw[bD (dM q hn),q];simp⟩
theorem Un.write(mu:Mut (H x))(he:e=x\/H e=some (.own x))(k:∀b u,b≠e->h.get? b=some u->h'.get? b=some u)(heo:∃u,h'.get? e=some u):Un fs ex H (upd H x o) h h':=by
 have hx:∀b,H b=none->b≠x:=λb n z=>by subst z;rw[n]at mu;exact mu
 have hb:∀b,H b=none->b≠e:=λb n z=>by
  subst z
  rcases he with r|r
  ·exact hx b n r
  ·rw[n]at r;cases r
 have hm:∀b u,H b=some u->¬ Mut (some u)->b≠x:=λb u q nm z=>by subst z;rw[q]at mu;exact nm mu
 refine⟨λb u q n _ _=>k b u (hb b n) q,λb u q n _ _=>⟨u.slots,k b u (hb b n) q⟩,λb u q n _=>by rw[bD (hx b n)];exact n,λb u q _=>?_,
  λb xs q=>by rw[bD (hm b _ q λz=>z)];exact q,λb u xs q=>by rw[bD (hm b _ q λz=>z)];exact q,λb ps q=>⟨#[],by rw[bD (hm b _ q λz=>z),q];simp⟩⟩
 by_cases hbe:b=e
 ·subst hbe;exact heo
 ·exact⟨u,k b u hbe q⟩
end
def trk(h:Heap)(H:Hp):List Addr:=(List.range h.objs.size).filter λa=>(H a).isSome
def iU(h:Heap)(H:Hp):Heap:=PySem.W.hideAll h (trk h H)
theorem zEJ(h:Heap)(H:Hp):(iU h H).objs.size=h.objs.size:=PySem.W.hideAll_size _ _
theorem zFO{h:Heap}{H:Hp}{b:Addr}{o:Obj}(e:h.get? b=some o)(n:H b=none):(iU h H).get? b=some o:=
 PySem.W.hideAll_get _ e λhm=>by
  have q:(H b).isSome=true:=(List.mem_filter.mp hm).2
  rw[n]at q;simp at q
theorem zGJ{h:Heap}{H:Hp}{b:Addr}{o:Obj}(e:(iU h H).get? b=some o):h.get? b=some o/\H b=none:=by
 have e':h.get? b=some o:=PySem.W.of_hideAll (trk h H) e
 refine⟨e',?_⟩
 cases q:H b with
 |none=>rfl
 |some x=>
  have hm:b∈trk h H:=List.mem_filter.mpr ⟨List.mem_range.mpr (Heap.lt_size e'),by simp[q]⟩
  have z:(iU h H).get? b=none:=PySem.W.hideAll_none (trk h H) hm
  rw[z]at e;cases e
end L2
namespace L2
open PySem PySem.Spec PyProof.Rows
structure Mod (K:W.Frag) (mg:Str->Option Value) (base:Heap):Prop where
 kin:K.In base
 glob:base.Ns mainGlobals mg
 blt:∃mb,base.Ns builtinsNs mb/\∀x:Str,x≠"__name__"->mb x=bootBuiltins x
 nolimit:base.NoLimit
structure Cx where
 prog:Program
 w:World
 K:W.Frag
 mg:Str->Option Value
 base:Heap
 A:Around
 N:List Str
 s₀:Shared
 H₀:Hp
 env:Env
 outer:List Env
 stack:List Env
 ex:List Addr
 fn:Str->Bool
 calm:Bool
 pn:List (Addr×Obj)
 xe:Value->Shared->Prop
def frs(l:List Env):List Addr:=l.filterMap (·.frame)
abbrev Cx.fs(X:Cx):List Addr:=frs X.outer
def Vis(sc:Scope)(x:Str):Prop:=sc.names.lookup x=some .local\/sc.names.lookup x=some .cell\/sc.names.lookup x=some .free
def Loc(sc:Scope)(x:Str):Prop:=sc.names.lookup x=some .local\/sc.names.lookup x=some .cell
def zKY(env:Env)(h:Heap)(m:Str->Option Value)(x:Str)(u:Value):Prop:=
 (env.kindOf x=some .local/\m x=some u)\/((env.kindOf x=some .cell\/env.kindOf x=some .free)/\∃c,env.cells.lookup x=some c/\h.IsCell c (some u))
structure Cx.Ok (X:Cx):Prop where
 mod:Mod X.K X.mg X.base
 kind:X.env.scope.kind=.function
 glob:X.env.globals=mainGlobals
 blt:X.env.builtins=builtinsNs
 above:X.s₀.heap.objs.size<=X.env.locals
 inj:∀x y c,X.env.cells.lookup x=some c->X.env.cells.lookup y=some c->x=y
 has:∀x,(X.env.kindOf x=some .cell\/X.env.kindOf x=some .free)->∃c,X.env.cells.lookup x=some c
 cab:∀x c,X.fn x=true->X.env.cells.lookup x=some c->X.s₀.heap.objs.size<=c
 hd:X.calm=true->X.A.handled=none
 frames:X.A.frames=some X.stack
 stk:X.stack=X.outer\/(X.stack=X.env::X.outer/\X.env.frame=some X.env.locals)
 exf:∀b∈X.ex,b≠X.env.locals/\∀x c,X.env.cells.lookup x=some c->c≠b
 bs:∀b o,X.base.get? b=some o->X.s₀.heap.get? b=some o/\X.H₀ b=none
 bsz:X.base.objs.size<=X.s₀.heap.objs.size
 noex:∀b o,X.base.get? b=some o->b∉X.ex
 exfs:∀b∈X.ex,b∉X.fs
 funs:X.s₀.heap.FunFrames X.base X.outer
 frf:∀b∈X.fs,X.H₀ b=none
structure Inv (X:Cx) (pins:List (Addr×Obj)) (σ:List (Option V)) (H:Hp) (s:Shared):Prop where
 ok:X.Ok
 os:s.os=X.s₀.os
 bare:AllBare s.gens
 base:Un X.fs X.ex X.H₀ H X.s₀.heap s.heap
 loc:∃m,s.heap.Ns X.env.locals m/\∀(i:Nat) (x:Str) (v:V),X.N[i]?=some x->σ[i]?=some (some v)->Vis X.env.scope x->∃u,RelV v u/\zKY X.env s.heap m x u
 cell:∀x c,X.env.cells.lookup x=some c->∃v,s.heap.IsCell c v
 free:H X.env.locals=none
 freeC:∀x c,X.env.cells.lookup x=some c->H c=none
 pin:∀p∈X.pn++pins,s.heap.get? p.1=some p.2/\H p.1=none/\p.1≠X.env.locals/\p.1∉X.fs/\∀v,p.2.data≠.cell v
 hok:HOk X.prog X.w H s.heap
 len:σ.length=X.N.length
section
variable{X:Cx}{pins:List (Addr×Obj)}{σ:List (Option V)}{H H':Hp}{s:Shared}{h':Heap}
theorem Cx.Ok.nofr(ok:X.Ok){b:Addr}{o:Obj}(e:X.base.get? b=some o):b∉X.fs:=λhb=>by
 have:=(ok.funs.mem hb).1
 rw[e]at this;cases this
theorem Inv.bs(I:Inv X pins σ H s):∀b o,X.base.get? b=some o->s.heap.get? b=some o/\H b=none:=λb o e=>
 ⟨I.base.keep b o (I.ok.bs b o e).1 (I.ok.bs b o e).2 (I.ok.nofr e) (I.ok.noex b o e),I.base.free b o (I.ok.bs b o e).1 (I.ok.bs b o e).2 (I.ok.noex b o e)⟩
theorem Inv.bk(I:Inv X pins σ H s):∀b o,X.base.get? b=some o->s.heap.get? b=some o:=λb o e=>(I.bs b o e).1
theorem Inv.mod(I:Inv X pins σ H s):Mod X.K X.mg X.base:=I.ok.mod
theorem Inv.kIn(I:Inv X pins σ H s):X.K.In s.heap:=I.ok.mod.kin.keeps I.bk
theorem Inv.lt(I:Inv X pins σ H s):X.env.locals<s.heap.objs.size:=let ⟨_,hn,_⟩:=I.loc;hn.lt
theorem Inv.sz(I:Inv X pins σ H s):X.s₀.heap.objs.size<=s.heap.objs.size:=Nat.le_trans I.ok.above (Nat.le_of_lt I.lt)
theorem Inv.nofs(I:Inv X pins σ H s){a:Addr}(h:s.heap.objs.size<=a):a∉X.fs:=λhb=>by
 obtain⟨_,o,ho,_⟩:=I.ok.funs.mem hb
 exact absurd (Nat.lt_of_lt_of_le (Heap.lt_size ho) (Nat.le_trans I.sz h)) (Nat.lt_irrefl _)
theorem Inv.cne(I:Inv X pins σ H s):∀x c,X.env.cells.lookup x=some c->c≠X.env.locals:=λx c e z=>by
 obtain⟨v,o,ho,hd⟩:=I.cell x c e
 obtain⟨m,⟨o',es,ep,ho',hd',_⟩,_⟩:=I.loc
 rw[z,ho']at ho;cases ho;rw[hd']at hd;cases hd
theorem Inv.funs(I:Inv X pins σ H s):s.heap.FunFrames X.base X.outer:=by
 have all:∀(l:List Env),(∀b∈frs l,b∈X.fs)->X.s₀.heap.FunFrames X.base l->s.heap.FunFrames X.base l:=by
  intro l
  induction l with
  |nil=>intro _ _;trivial
  |cons env r ih=>
   intro hs hl
   obtain⟨hk,⟨L,o,hf,hn,ho,hd⟩,hr⟩:=hl
   have hL:L∈X.fs:=hs L (by unfold frs;rw[List.filterMap_cons,hf];exact List.mem_cons_self)
   obtain⟨sl,e⟩:=I.base.slot L o ho (I.ok.frf L hL) hL λz=>I.ok.exfs L z hL
   exact⟨hk,⟨L,_,hf,hn,e,hd⟩,ih (λb hb=>hs b (by unfold frs;rw[List.filterMap_cons,hf];exact List.mem_cons_of_mem _ hb)) hr⟩
 exact all X.outer (λ_ hb=>hb) I.ok.funs
theorem Inv.stack(I:Inv X pins σ H s):s.heap.FunFrames X.base X.stack:=by
 rcases I.ok.stk with e|⟨e,hf⟩
 ·rw[e];exact I.funs
 ·rw[e]
  obtain⟨m,hn,_⟩:=I.loc
  refine .cons (by rw[I.ok.kind];decide) hf hn ?_ I.funs
  exact Heap.get?_none_of_le (Nat.le_trans I.ok.bsz I.ok.above)
theorem Inv.stkSub(I:Inv X pins σ H s):∀b∈frs X.stack,b∈X.env.locals::X.fs:=λb hb=>by
 rcases I.ok.stk with e|⟨e,hf⟩
 ·rw[e]at hb;exact List.mem_cons_of_mem _ hb
 ·rw[e]at hb
  unfold frs at hb
  rw[List.filterMap_cons,hf]at hb
  exact hb
theorem Inv.stkFree(I:Inv X pins σ H s):∀b∈frs X.stack,H b=none:=λb hb=>by
 rcases List.mem_cons.mp (I.stkSub b hb) with e|hb
 ·rw[e];exact I.free
 ·obtain⟨_,o,ho,_⟩:=I.ok.funs.mem hb
  exact I.base.free b o ho (I.ok.frf b hb) λz=>I.ok.exfs b z hb
theorem Inv.step{g':Array GenState}{t':Nat}{d':Drawn}{ch:List Addr}(I:Inv X pins σ H s)
  (hch:∀b∈ch,(b∈X.ex\/X.s₀.heap.objs.size<=b)/\b≠X.env.locals/\(∀x c,X.env.cells.lookup x=some c->c≠b)/\∀p∈X.pn++pins,p.1≠b)
  (keep:∀b o,b≠X.env.locals->b∉X.fs->b∉ch->s.heap.get? b=some o->H b=none->h'.get? b=some o)
  (slot:∀b o,b≠X.env.locals->b∈X.fs->b∉ch->s.heap.get? b=some o->H b=none->∃sl,h'.get? b=some {o with slots:=sl}) (free:∀b o,b∉ch->s.heap.get? b=some o->H b=none->H' b=none)
  (there:∀b o,b∉ch->s.heap.get? b=some o->∃o',h'.get? b=some o')
  (tups:∀b xs,H b=some (.tup xs)->H' b=some (.tup xs)) (frzs:∀b o u,H b=some (.frz o u)->H' b=some (.frz o u)) (tbls:∀b ps,H b=some (.tbl ps)->∃more,H' b=some (.tbl (ps++more)))
  (ns:∀m,s.heap.Ns X.env.locals m->h'.Ns X.env.locals m) (hok:HOk X.prog X.w H' h') (hg:AllBare g'):
  Inv X pins σ H' {s with heap:=h',gens:=g',drawn:=d',toks:=t'}:=by
 have neL:∀b o,X.s₀.heap.get? b=some o->b≠X.env.locals:=λb o e=>Nat.ne_of_lt (Nat.lt_of_lt_of_le (Heap.lt_size e) I.ok.above)
 have neC:∀b o,X.s₀.heap.get? b=some o->b∉X.ex->b∉ch:=λb o e hx hb=>by
  rcases (hch b hb).1 with z|z
  ·exact hx z
  ·exact absurd (Nat.lt_of_lt_of_le (Heap.lt_size e) z) (Nat.lt_irrefl _)
 have cellK:∀x c,X.env.cells.lookup x=some c->∀v,s.heap.IsCell c v->h'.IsCell c v:=λx c e v ⟨o,ho,hd⟩=>by
  have nch:c∉ch:=λz=>(hch c z).2.2.1 x c e rfl
  by_cases hc:c∈X.fs
  ·obtain⟨sl,q⟩:=slot c o (I.cne x c e) hc nch ho (I.freeC x c e)
   exact⟨_,q,hd⟩
  ·exact⟨o,keep c o (I.cne x c e) hc nch ho (I.freeC x c e),hd⟩
 refine⟨I.ok,I.os,hg,⟨λb o e n hb hx=>?_,λb o e n hb hx=>?_,λb o e n hx=>?_,λb o e hx=>?_,λb xs e=>tups b xs (I.base.tups b xs e),λb o xs e=>frzs b o xs (I.base.frzs b o xs e),λb ps e=>?_⟩,?_,λx c e=>?_,?_,λx c e=>?_,λp hp=>?_,hok,I.len⟩
 ·exact keep b o (neL b o e) hb (neC b o e hx) (I.base.keep b o e n hb hx) (I.base.free b o e n hx)
 ·obtain⟨sl,e1⟩:=I.base.slot b o e n hb hx
  obtain⟨sl',e2⟩:=slot b _ (neL b o e) hb (neC b o e hx) e1 (I.base.free b o e n hx)
  exact⟨sl',e2⟩
 ·obtain⟨o',e1⟩:=I.base.there b o e hx
  exact free b o' (neC b o e hx) e1 (I.base.free b o e n hx)
 ·obtain⟨o',e1⟩:=I.base.there b o e hx
  exact there b o' (neC b o e hx) e1
 ·obtain⟨m1,e1⟩:=I.base.tbls b ps e
  obtain⟨m2,e2⟩:=tbls b _ e1
  exact⟨m1++m2,by rw[e2,Array.append_assoc]⟩
 ·obtain⟨m,hn,hl⟩:=I.loc
  refine⟨m,ns m hn,λi x v e1 e2 e3=>?_⟩
  obtain⟨u,r,l⟩:=hl i x v e1 e2 e3
  refine⟨u,r,?_⟩
  rcases l with l|⟨k,c,e,z⟩
  ·exact .inl l
  ·exact .inr ⟨k,c,e,cellK x c e _ z⟩
 ·obtain⟨v,z⟩:=I.cell x c e
  exact⟨v,cellK x c e v z⟩
 ·obtain⟨m,⟨o,_,_,ho,_⟩,_⟩:=I.loc
  exact free _ o (λz=>(hch _ z).2.1 rfl) ho I.free
 ·obtain⟨v,o,ho,hd⟩:=I.cell x c e
  exact free c o (λz=>(hch c z).2.2.1 x c e rfl) ho (I.freeC x c e)
 ·obtain⟨e,n,ne,nf,d⟩:=I.pin p hp
  have nch:p.1∉ch:=λz=>(hch p.1 z).2.2.2 p hp rfl
  exact⟨keep p.1 p.2 ne nf nch e n,free p.1 p.2 nch e n,ne,nf,d⟩
theorem Inv.un{t':Nat}(I:Inv X pins σ H s)(u:Un X.fs [] H H' s.heap h')(hok:HOk X.prog X.w H' h'):Inv X pins σ H' {s with heap:=h',toks:=t'}:=by
 obtain⟨m,⟨o,es,ep,ho,r⟩,_⟩:=id I.loc
 obtain⟨sl,hL⟩:=u.any ho I.free (by simp)
 exact I.step (g':=s.gens) (d':=s.drawn) (ch:=[]) (λ_ z=>nomatch z) (λb o _ hb _ e n=>u.keep b o e n hb (by simp)) (λb o _ hb _ e n=>u.slot b o e n hb (by simp)) (λb o _ e n=>u.free b o e n (by simp)) (λb o _ e=>u.there b o e (by simp)) u.tups u.frzs u.tbls (λm' hm=>by
  obtain⟨o',es',ep',ho',r'⟩:=hm
  rw[ho]at ho';cases ho'
  exact⟨_,es',ep',hL,r'⟩) hok I.bare
theorem Inv.call{g':Array GenState}{t':Nat}{d':Drawn}{ch:List Addr}(I:Inv X pins σ H s)(u:Un (frs X.stack) ch H H' s.heap h')(hok:HOk X.prog X.w H' h')(hg:AllBare g')
  (hch:∀b∈ch,(b∈X.ex\/X.s₀.heap.objs.size<=b)/\b≠X.env.locals/\(∀x c,X.env.cells.lookup x=some c->c≠b)/\∀p∈X.pn++pins,p.1≠b):
  Inv X pins σ H' {s with heap:=h',gens:=g',drawn:=d',toks:=t'}:=by
 obtain⟨m,⟨o,es,ep,ho,r⟩,_⟩:=id I.loc
 obtain⟨sl,hL⟩:=u.any ho I.free λz=>(hch _ z).2.1 rfl
 exact I.step (ch:=ch) hch (λb o hL hb hc e n=>u.keep b o e n (λz=>(List.mem_cons.mp (I.stkSub b z)).elim hL hb) hc) (λb o _ _ hc e n=>u.any e n hc) (λb o hc e n=>u.free b o e n hc) (λb o hc e=>u.there b o e hc) u.tups u.frzs u.tbls (λm' hm=>by
  obtain⟨o',es',ep',ho',r'⟩:=hm
  rw[ho]at ho';cases ho'
  exact⟨_,es',ep',hL,r'⟩) hok hg
theorem Inv.turned{t':Nat}{it:Addr}(I:Inv X pins σ H s)(k:∀b o,b≠it->s.heap.get? b=some o->h'.get? b=some o)(hn:H it=none)(hL:it≠X.env.locals)
  (h1:it∈X.ex\/X.s₀.heap.objs.size<=it) (h2:∀x c,X.env.cells.lookup x=some c->c≠it) (h3:∀p∈X.pn++pins,p.1≠it):Inv X pins σ H {s with heap:=h',toks:=t'}:=by
 have nit:∀b u,H b=some u->b≠it:=λb u e z=>by rw[z,hn]at e;cases e
 refine I.step (g':=s.gens) (d':=s.drawn) (ch:=[it]) (λb hb=>?_) (λb o _ _ hc e _=>k b o (λz=>hc (by simp[z])) e) (λb o _ _ hc e _=>⟨o.slots,k b o (λz=>hc (by simp[z])) e⟩) (λ_ _ _ _ n=>n)
  (λb o hc e=>⟨o,k b o (λz=>hc (by simp[z])) e⟩) (λ_ _ e=>e) (λ_ _ _ e=>e) (λb ps e=>⟨#[],by rw[e];simp⟩) (λm hm=>?_) (λb u e=>?_) I.bare
 ·have e:b=it:=by simpa using hb
  subst e
  exact⟨h1,hL,h2,h3⟩
 ·obtain⟨o,es,ep,ho,r⟩:=hm
  exact⟨o,es,ep,k _ o (Ne.symm hL) ho,r⟩
 ·refine(I.hok b u e).stay (λc v hc q=>k c v ?_ q) (λ_ q=>q) λ_ _ q=>q
  rcases hc with z|z
  ·rw[z];exact nit b u e
  ·exact nit c _ z
theorem Inv.tok(I:Inv X pins σ H s)(t:Nat):Inv X pins σ H {s with toks:=t}:=I.un (h':=s.heap) (t':=t) Un.refl I.hok
theorem Inv.kept{t':Nat}(I:Inv X pins σ H s)(k:∀b u,s.heap.get? b=some u->h'.get? b=some u):Inv X pins σ H {s with heap:=h',toks:=t'}:=I.un (Un.kept k) (I.hok.kept k)
theorem Inv.laid{a:Addr}{o:HO}{t':Nat}(I:Inv X pins σ H s)(k:∀b u,s.heap.get? b=some u->h'.get? b=some u)(hp:s.heap.objs.size<=a)(new:ObjOk X.prog X.w (upd H a o) h' a o):
  Inv X pins σ (upd H a o) {s with heap:=h',toks:=t'}:=I.un (Un.laid k hp (I.hok.fresh hp)) (I.hok.laid k hp new)
theorem Inv.write{x e:Addr}{o:HO}{t':Nat}(I:Inv X pins σ H s)(mu:Mut (H x))(he:e=x\/H e=some (.own x))(k:∀b u,b≠e->s.heap.get? b=some u->h'.get? b=some u)(heo:∃u,h'.get? e=some u)
  (new:ObjOk X.prog X.w (upd H x o) h' x o):Inv X pins σ (upd H x o) {s with heap:=h',toks:=t'}:=I.un (Un.write mu he k heo) (I.hok.write mu he k heo new)
theorem Inv.weak{σ':List (Option V)}(I:Inv X pins σ H s)(hl:σ'.length=σ.length)(w:∀(i:Nat) v,σ'[i]?=some (some v)->σ[i]?=some (some v)):Inv X pins σ' H s:=
 ⟨I.ok,I.os,I.bare,I.base,let ⟨m,hn,hl'⟩:=I.loc;⟨m,hn,λi x v e1 e2 e3=>hl' i x v e1 (w i v e2) e3⟩,I.cell,I.free,I.freeC,I.pin,I.hok,hl.trans I.len⟩
theorem Inv.pins_of{pins':List (Addr×Obj)}(I:Inv X pins σ H s)(h:∀p∈pins',s.heap.get? p.1=some p.2/\H p.1=none/\p.1≠X.env.locals/\p.1∉X.fs/\∀v,p.2.data≠.cell v):Inv X pins' σ H s:=
 ⟨I.ok,I.os,I.bare,I.base,I.loc,I.cell,I.free,I.freeC,λp hp=>(List.mem_append.mp hp).elim (λz=>I.pin p (List.mem_append_left _ z)) (h p),I.hok,I.len⟩
theorem zAk{N:List Str}(hN:N.Nodup){i j:Nat}{x:Str}(a:N[i]?=some x)(b:N[j]?=some x):i=j:=by
 obtain⟨h1,e1⟩:=List.getElem?_eq_some_iff.mp a
 obtain⟨h2,e2⟩:=List.getElem?_eq_some_iff.mp b
 exact(List.getElem_inj hN).mp (e1.trans e2.symm)
theorem yY{M:Model}{A:Around}{E:Value->Shared->Prop}{i:Nat}{x:Str}{v:V}{u:Value}{Q:Unit->Shared->Prop}(I:Inv X pins σ H s)(hN:X.N.Nodup)(hi:X.N[i]?=some x)(hx:Loc X.env.scope x)(r:RelV v u)
  (h:∀s',Inv X pins (σ.set i (some v)) H s'->(∃a,Heap.SameBut a s.heap s'.heap/\(a=X.env.locals\/X.env.cells.lookup x=some a))->Q () s') (hf:X.fn x=true\/X.env.scope.names.lookup x=some .local:=by first|exact .inl rfl|exact .inr rfl|assumption):wpAny M A (storeName X.env x u) Q E s:=by
 obtain⟨m,hn,hl⟩:=id I.loc
 have hcls:(X.env.scope.kind==.class || (X.env.scope.kind==.module&&X.env.locals != X.env.globals))=false:=by rw[I.ok.kind];rfl
 have hiσ:i<σ.length:=by rw[I.len];exact(List.getElem?_eq_some_iff.mp hi).1
 have cne:=I.cne
 have tracked:∀{a:Addr} {h':Heap},(∃o,s.heap.get? a=some o/\H a=none)->Heap.SameBut a s.heap h'->HOk X.prog X.w H h':=λ{a h'} ha hs b ob e=>by
  obtain⟨_,_,hfree⟩:=ha
  refine(I.hok b ob e).stay (λc w' hc q=>(hs.2 c ?_).trans q) (λ_ q=>q) λ_ _ q=>q
  rintro rfl
  rcases hc with rfl|hc
  ·rw[hfree]at e;cases e
  ·rw[hfree]at hc;cases hc
 rcases hx with hk|hk
 ·refine wpAny_storeName_local hk hn (λh' hn' hs=>?_) hcls
  obtain⟨oL,_,_,hoL,_⟩:=id hn
  refine h _ ⟨I.ok,I.os,I.bare,⟨λb o e n hb hx=>?_,λb o e n hb hx=>?_,I.base.free,λb o e hx=>?_,I.base.tups,I.base.frzs,I.base.tbls⟩,⟨_,hn',λj y v' e1 e2 e3=>?_⟩,λy c e=>?_,I.free,I.freeC,λp hp=>?_,tracked ⟨oL,hoL,I.free⟩ hs,by simpa using I.len⟩ ⟨_,hs,.inl rfl⟩
  ·exact(hs.2 b (Nat.ne_of_lt (Nat.lt_of_lt_of_le (Heap.lt_size e) I.ok.above))).trans (I.base.keep b o e n hb hx)
  ·obtain⟨sl,e1⟩:=I.base.slot b o e n hb hx
   exact⟨sl,(hs.2 b (Nat.ne_of_lt (Nat.lt_of_lt_of_le (Heap.lt_size e) I.ok.above))).trans e1⟩
  ·obtain⟨o',e1⟩:=I.base.there b o e hx
   exact⟨o',(hs.2 b (Nat.ne_of_lt (Nat.lt_of_lt_of_le (Heap.lt_size e) I.ok.above))).trans e1⟩
  ·by_cases hj:j=i
   ·subst hj
    rw[hi]at e1;cases e1
    rw[List.getElem?_set_self hiσ]at e2
    cases e2
    exact⟨u,r,.inl ⟨hk,by simp⟩⟩
   ·rw[List.getElem?_set_ne (Ne.symm hj)]at e2
    obtain⟨u',r',q⟩:=hl j y v' e1 e2 e3
    refine⟨u',r',?_⟩
    rcases q with⟨k,e⟩|⟨k,c,e,z⟩
    ·refine .inl ⟨k,?_⟩
     have:y≠x:=λe=>hj (zAk hN e1 (e▸hi))
     simp[this,e]
    ·exact .inr ⟨k,c,e,z.sameBut hs (cne y c e)⟩
  ·obtain⟨w',z⟩:=I.cell y c e
   exact⟨w',z.sameBut hs (cne y c e)⟩
  ·obtain⟨e,n,ne,nf,d⟩:=I.pin p hp
   exact⟨(hs.2 p.1 ne).trans e,n,ne,nf,d⟩
 ·have hfn:X.fn x=true:=by
   rcases hf with z|z
   ·exact z
   ·rw[z]at hk;cases hk
  obtain⟨c,hc⟩:=I.ok.has x (.inl hk)
  obtain⟨w',z⟩:=I.cell x c hc
  refine wpAny_storeName_cell I.ok.kind hk hc z (λh' hc' hs=>?_)
  obtain⟨oc,hoc,hocd⟩:=id z
  refine h {s with heap:=h'} ⟨I.ok,I.os,I.bare,⟨λb o e n hb hx=>?_,λb o e n hb hx=>?_,I.base.free,λb o e hx=>?_,I.base.tups,I.base.frzs,I.base.tbls⟩,⟨m,hn.sameBut hs (Ne.symm (cne x c hc)),λj y v' e1 e2 e3=>?_⟩,λy c' e=>?_,I.free,I.freeC,λp hp=>?_,tracked ⟨oc,hoc,I.freeC x c hc⟩ hs,by simpa using I.len⟩ ⟨c,hs,.inr hc⟩
  ·exact(hs.2 b (Nat.ne_of_lt (Nat.lt_of_lt_of_le (Heap.lt_size e) (I.ok.cab x c hfn hc)))).trans (I.base.keep b o e n hb hx)
  ·obtain⟨sl,e1⟩:=I.base.slot b o e n hb hx
   exact⟨sl,(hs.2 b (Nat.ne_of_lt (Nat.lt_of_lt_of_le (Heap.lt_size e) (I.ok.cab x c hfn hc)))).trans e1⟩
  ·obtain⟨o',e1⟩:=I.base.there b o e hx
   exact⟨o',(hs.2 b (Nat.ne_of_lt (Nat.lt_of_lt_of_le (Heap.lt_size e) (I.ok.cab x c hfn hc)))).trans e1⟩
  ·by_cases hj:j=i
   ·subst hj
    rw[hi]at e1;cases e1
    rw[List.getElem?_set_self hiσ]at e2
    cases e2
    exact⟨u,r,.inr ⟨.inl hk,c,hc,hc'⟩⟩
   ·rw[List.getElem?_set_ne (Ne.symm hj)]at e2
    obtain⟨u',r',q⟩:=hl j y v' e1 e2 e3
    refine⟨u',r',?_⟩
    rcases q with q|⟨k,c',e,z'⟩
    ·exact .inl q
    ·refine .inr ⟨k,c',e,z'.sameBut hs ?_⟩
     rintro rfl
     exact hj (zAk hN e1 (I.ok.inj _ _ _ e hc▸hi))
  ·by_cases hcc:c'=c
   ·subst hcc;exact⟨_,hc'⟩
   ·obtain⟨w2,z2⟩:=I.cell y c' e
    exact⟨w2,z2.sameBut hs hcc⟩
  ·obtain⟨e,n,ne,nf,d⟩:=I.pin p hp
   refine⟨(hs.2 p.1 ?_).trans e,n,ne,nf,d⟩
   intro q
   rw[q,hoc]at e
   have q':oc=p.2:=Option.some.inj e
   exact d w' (by rw[<-q'];exact hocd)
theorem zZ{M:Model}{A:Around}{E:Value->Shared->Prop}{i:Nat}{x:Str}{v:V}{u:Value}{Q:Unit->Shared->Prop}(I:Inv X pins σ H s)(hN:X.N.Nodup)(hi:X.N[i]?=some x)(hx:Loc X.env.scope x)(r:RelV v u)
  (h:∀s',Inv X pins (σ.set i (some v)) H s'->Q () s') (hf:X.fn x=true\/X.env.scope.names.lookup x=some .local:=by first|exact .inl rfl|exact .inr rfl|assumption):wpAny M A (storeName X.env x u) Q E s:=
 yY I hN hi hx r (λs' I' _=>h s' I') hf
theorem Inv.call'{s':Shared}{ch:List Addr}(I:Inv X pins σ H s)(ho:s'.os=s.os)(u:Un (frs X.stack) ch H H' s.heap s'.heap)(hok:HOk X.prog X.w H' s'.heap)(hg:AllBare s'.gens)
  (hch:∀b∈ch,(b∈X.ex\/X.s₀.heap.objs.size<=b)/\b≠X.env.locals/\(∀x c,X.env.cells.lookup x=some c->c≠b)/\∀p∈X.pn++pins,p.1≠b):Inv X pins σ H' s':=by
 obtain⟨h',g',d',t',o'⟩:=s'
 have e:o'=s.os:=ho
 subst e
 exact I.call (g':=g') (t':=t') (d':=d') u hok hg hch
end
abbrev XK:=Value->Option Addr->Hp->Prop
abbrev St:=List (Option V)
abbrev VK:=V->Hp->Prop
abbrev TE:=St->Hp->VK->Prop
abbrev TT:=St->Hp->(Bool->Hp->Prop)->Prop
abbrev TA:=St->Hp->(List V->Hp->Prop)->Prop
structure kR where
 nx:St->Hp->Prop
 rt:VK
 bk:St->Hp->Prop:=λ_ _=>False
 ct:St->Hp->Prop:=λ_ _=>False
abbrev TS:=kR->St->Hp->Prop
def EP(X:Cx)(pins:List (Addr×Obj))(σ:St)(Q:VK)(u:Value)(s':Shared):Prop:=∃v H',Inv X pins σ H' s'/\RelV v u/\Q v H'
def TP(X:Cx)(pins:List (Addr×Obj))(σ:St)(Q:Bool->Hp->Prop)(b:Bool)(s':Shared):Prop:=∃H',Inv X pins σ H' s'/\Q b H'
def AP(X:Cx)(pins:List (Addr×Obj))(σ:St)(Q:List V->Hp->Prop)(us:List Value)(s':Shared):Prop:=∃vs H',Inv X pins σ H' s'/\Vals vs us/\Q vs H'
def SP(X:Cx)(pins:List (Addr×Obj))(D:kR)(f:Flow)(s':Shared):Prop:=
 match f with
 |.next=>∃σ' H',Inv X pins σ' H' s'/\D.nx σ' H'
 |.brk=>∃σ' H',Inv X pins σ' H' s'/\D.bk σ' H'
 |.cont=>∃σ' H',Inv X pins σ' H' s'/\D.ct σ' H'
 |.ret u=>∃v σ' H',Inv X pins σ' H' s'/\RelV v u/\D.rt v H'
def PE(X:Cx)(e:Expr)(t:TE):Prop:=
 ∀(pins:List (Addr×Obj)) (s:Shared) (σ:St) (H:Hp) (Q:VK),Inv X pins σ H s->t σ H Q->wpAny (model X.prog X.w) X.A (eval e X.env) (EP X pins σ Q) X.xe s
def PT(X:Cx)(e:Expr)(t:TT):Prop:=
 ∀(pins:List (Addr×Obj)) (s:Shared) (σ:St) (H:Hp) (Q:Bool->Hp->Prop),Inv X pins σ H s->t σ H Q->wpAny (model X.prog X.w) X.A (isTrue e X.env (eval e X.env)) (TP X pins σ Q) X.xe s
def PW(X:Cx)(e:Expr)(t:TT):Prop:=
 ∀(whole:Sem Value) (pins:List (Addr×Obj)) (s:Shared) (σ:St) (H:Hp) (Q:Bool->Hp->Prop),Inv X pins σ H s->t σ H Q->wpAny (model X.prog X.w) X.A (isTrue e X.env whole) (TP X pins σ Q) X.xe s
theorem PW.pt{X:Cx}{e:Expr}{t:TT}(h:PW X e t):PT X e t:=h _
def PA(X:Cx)(es:List Expr)(t:TA):Prop:=
 ∀(pos:Pos) (pins:List (Addr×Obj)) (s:Shared) (σ:St) (H:Hp) (Q:List V->Hp->Prop),Inv X pins σ H s->t σ H Q->wpAny (model X.prog X.w) X.A (spliced (backTo pos (starEach es X.env))) (AP X pins σ Q) X.xe s
def PS(X:Cx)(st:Stmt)(t:TS):Prop:=
 ∀(pins:List (Addr×Obj)) (s:Shared) (σ:St) (H:Hp) (D:kR),Inv X pins σ H s->t D σ H->wpAny (model X.prog X.w) X.A (exec st X.env) (SP X pins D) X.xe s
def PSs(X:Cx)(st:List Stmt)(t:TS):Prop:=
 ∀(pins:List (Addr×Obj)) (s:Shared) (σ:St) (H:Hp) (D:kR),Inv X pins σ H s->t D σ H->wpAny (model X.prog X.w) X.A (execs st X.env) (SP X pins D) X.xe s
theorem thn{α:Type}{t:Sem α}{Q Q':α->Shared->Prop}{M:Model}{A:Around}{E:Value->Shared->Prop}{s:Shared}(h:wpAny M A t Q E s)(hQ:∀a s,Q a s->Q' a s):wpAny M A t Q' E s:=wpAny_mono h hQ λ_ _ x=>x
end L2
namespace L2
open PySem PySem.Spec PyProof.Rows
section
variable{X:Cx}
def lY(i:Nat):TE:=λσ H Q=>∃v,σ[i]?=some (some v)/\Q v H
def tC(v:V):TE:=λ_ H Q=>Q v H
theorem eQ{i:Nat}{x:Str}{pos:Pos}(hN:X.N[i]?=some x)(hv:Vis X.env.scope x)(hd:(x==("__debug__":Str))=false:=by decide)(hcd:(x==("__classdict__":Str))=false:=by decide):PE X (.Name x pos) (lY i):=by
 intro pins s σ H Q I h
 obtain⟨v,e,h⟩:=h
 obtain⟨m,hn,hl⟩:=I.loc
 obtain⟨u,r,l⟩:=hl i x v hN e hv
 have fin:EP X pins σ Q u s:=⟨v,H,I,r,h⟩
 rcases l with⟨hk,hm⟩|⟨hk,c,hc,hcell⟩
 ·exact wpAny_Name (wpAny_loadName_local I.ok.kind hk hn hm fin) hd
 ·rcases hk with hk|hk
  ·exact wpAny_Name (wpAny_loadName_cell I.ok.kind hk hc hcell fin) hd
  ·exact wpAny_Name (wpAny_loadName_free I.ok.kind hk hc hcell fin hcd) hd
theorem bY{i j pos}:PE X (.Constant (.int i) j pos) (tC (.int i)):=λ_ _ _ H _ I h=>wpAny_Constant_int ⟨.int i,H,I.tok _,⟨_,rfl⟩,h⟩
theorem zI8{b j pos}:PE X (.Constant (.bool b) j pos) (tC (.bl b)):=λ_ _ _ H _ I h=>Constant_bool ⟨.bl b,H,I,rfl,h⟩
theorem zHQ{x j pos}:PE X (.Constant (.str x) j pos) (tC (.str x)):=λ_ _ _ H _ I h=>Calls.Constant_str ⟨.str x,H,I.tok _,⟨_,rfl⟩,h⟩
def Gl(X:Cx)(x:Str):Prop:=X.env.kindOf x=some .globalImplicit
theorem pY{E:Value->Shared->Prop}{pins:List (Addr×Obj)}{s:Shared}{σ:St}{H:Hp}{x:Str}{u:Value}{pos:Pos}{Q:Value->Shared->Prop}(I:Inv X pins σ H s)(hg:Gl X x)(hm:X.mg x=some u)(h:Q u s)
  (hd:(x==("__debug__":Str))=false:=by decide):wpAny (model X.prog X.w) X.A (eval (.Name x pos) X.env) Q E s:=
 Calls.Name_function_global I.ok.kind hg (Calls.loadGlobal_global (by rw[I.ok.glob];exact I.mod.glob.keeps I.bk) hm h) hd
theorem nJ{E:Value->Shared->Prop}{pins:List (Addr×Obj)}{s:Shared}{σ:St}{H:Hp}{x:Str}{u:Value}{pos:Pos}{Q:Value->Shared->Prop}(I:Inv X pins σ H s)(hg:Gl X x)(hm:X.mg x=none)(hv:bootBuiltins x=some u)(h:Q u s)
  (hn:x≠"__name__":=by decide) (hd:(x==("__debug__":Str))=false:=by decide):wpAny (model X.prog X.w) X.A (eval (.Name x pos) X.env) Q E s:=by
 obtain⟨mb,h1,h2⟩:=I.mod.blt
 exact Calls.Name_function_global I.ok.kind hg (Calls.loadGlobal_builtin (by rw[I.ok.glob];exact I.mod.glob.keeps I.bk) hm (by rw[I.ok.blt];exact h1.keeps I.bk) ((h2 x hn).trans hv) h) hd
theorem pW{x:Str}{v:V}{u:Value}{pos:Pos}(hg:Gl X x)(hm:X.mg x=some u)(r:RelV v u)(hd:(x==("__debug__":Str))=false:=by decide):PE X (.Name x pos) (tC v):=
 λ_ _ _ H _ I h=>pY I hg hm ⟨v,H,I,r,h⟩ hd
theorem eK{x:Str}{v:V}{u:Value}{pos:Pos}(hg:Gl X x)(hm:X.mg x=none)(hv:bootBuiltins x=some u)(r:RelV v u)(hn:x≠"__name__":=by decide)(hd:(x==("__debug__":Str))=false:=by decide):PE X (.Name x pos) (tC v):=
 λ_ _ _ H _ I h=>nJ I hg hm hv ⟨v,H,I,r,h⟩ hn hd
variable{a b:Expr}{ta tb:TE}{pos:Pos}
def tB(t:TE):TT:=λσ H Q=>t σ H λx H1=>∃c,x=.bl c/\Q c H1
theorem zHH{e:Expr}{t:TE}(h:PE X e t)(he:∀whole,isTrue e X.env whole=(do let v <- whole;standAt e.pos;holding [v] (truthy v)):=by intro _;rfl):PT X e (tB t):=by
 intro pins s σ H Q I hw
 refine isTrue_plain (thn (h pins s σ H _ I hw) λv s1 ⟨x,H1,I1,r1,q1⟩=>?_) (he _)
 obtain⟨d,rfl,q⟩:=q1
 cases r1
 exact wpAny_truthy_bool ⟨H1,I1,q⟩
variable{tA tB':TT}{rest:List Expr}
def zJH(t u:TT):TT:=λσ H Q=>t σ H λc H1=>if c=true then u σ H1 Q else Q false H1
def tOr(t u:TT):TT:=λσ H Q=>t σ H λc H1=>if c=true then Q true H1 else u σ H1 Q
def zJC(t:TT):TT:=λσ H Q=>t σ H λc H1=>Q (!c) H1
theorem zGm(ha:PT X a tA):PW X (.BoolOp .And [a] pos) tA:=by
 intro wh pins s σ H Q I h
 refine isTrue_and (thn (ha pins s σ H Q I h) λc s1 e=>?_)
 cases c with
 |true=>exact isTrue_and_nil e
 |false=>exact e
theorem zHB(ha:PT X a tA):PW X (.BoolOp .Or [a] pos) tA:=by
 intro wh pins s σ H Q I h
 refine isTrue_or (thn (ha pins s σ H Q I h) λc s1 e=>?_)
 cases c with
 |false=>exact isTrue_or_nil e
 |true=>exact e
theorem zHC(ha:PT X a tA)(hb:PW X (.BoolOp .And (b::rest) pos) tB'):PW X (.BoolOp .And (a::b::rest) pos) (zJH tA tB'):=by
 intro wh pins s σ H Q I h
 refine isTrue_and (thn (ha pins s σ H _ I h) λc s1 ⟨H1,I1,q1⟩=>?_)
 cases c with
 |true=>exact hb wh pins s1 σ H1 Q I1 q1
 |false=>exact⟨H1,I1,q1⟩
theorem zI6(ha:PT X a tA)(hb:PW X (.BoolOp .Or (b::rest) pos) tB'):PW X (.BoolOp .Or (a::b::rest) pos) (tOr tA tB'):=by
 intro wh pins s σ H Q I h
 refine isTrue_or (thn (ha pins s σ H _ I h) λc s1 ⟨H1,I1,q1⟩=>?_)
 cases c with
 |true=>exact⟨H1,I1,q1⟩
 |false=>exact hb wh pins s1 σ H1 Q I1 q1
theorem zHI(ha:PT X a tA):PT X (.UnaryOp .Not a pos) (zJC tA):=by
 intro pins s σ H Q I h
 exact isTrue_not (ha pins s σ H (λc H1=>Q (!c) H1) I h)
def zIT(ta tb:TE):TE:=λσ H Q=>ta σ H λx H1=>∃c,x=.bl c/\if c=true then tb σ H1 Q else Q (.bl false) H1
def zIO(ta:TE):TE:=λσ H Q=>ta σ H λx H1=>∃c,x=.bl c/\Q (.bl (!c)) H1
theorem zHS{op}{t:TE}(h:PE X a t):PE X (.BoolOp op [a] pos) t:=λpins s σ H Q I hw=>BoolOp_one (h pins s σ H Q I hw)
theorem zHW(ha:PE X a ta)(hb:PE X (.BoolOp .And (b::rest) pos) tb):PE X (.BoolOp .And (a::b::rest) pos) (zIT ta tb):=by
 intro pins s σ H Q I h
 refine BoolOp_and (thn (ha pins s σ H _ I h) λv s1 ⟨x,H1,I1,r1,q1⟩=>?_)
 obtain⟨c,rfl,q1⟩:=q1
 cases r1
 refine wpAny_truthy_bool ?_
 cases c with
 |true=>exact hb pins s1 σ H1 Q I1 q1
 |false=>exact⟨.bl false,H1,I1,rfl,q1⟩
theorem zHT(ha:PE X a ta):PE X (.UnaryOp .Not a pos) (zIO ta):=by
 intro pins s σ H Q I h
 refine UnaryOp_ (thn (ha pins s σ H _ I h) λv s1 ⟨x,H1,I1,r1,q1⟩=>?_)
 obtain⟨c,rfl,q1⟩:=q1
 cases r1
 exact not_of (wpAny_truthy_bool ⟨.bl (!c),H1,I1,rfl,q1⟩)
def tIf(t:TT)(ta tb:TE):TE:=λσ H Q=>t σ H λc H1=>if c=true then ta σ H1 Q else tb σ H1 Q
theorem zFo{c:Expr}(hc:PT X c tA)(ha:PE X a ta)(hb:PE X b tb):PE X (.IfExp c a b pos) (tIf tA ta tb):=by
 intro pins s σ H Q I h
 refine wpAny_IfExp (thn (hc pins s σ H _ I h) λd s1 ⟨H1,I1,q1⟩=>?_)
 cases d with
 |true=>exact ha pins s1 σ H1 Q I1 q1
 |false=>exact hb pins s1 σ H1 Q I1 q1
end
end L2
namespace L2
open PySem PySem.Spec PyProof.Rows
def SqL(K:W.Frag)(H:Hp)(a:Addr)(xs:List V):Prop:=
 Rd H a (.lst xs) \/
  ∃(o:Obj) (its:Array Value) (n:Nat),K.lookup a=some o/\o.cls=.type "list"/\o.dict=none/\o.data=.seq its n/\its.size<=sizeLine/\Vals xs its.toList
def SqT(K:W.Frag)(H:Hp)(a:Addr)(xs:List V):Prop:=
 Rd H a (.tup xs) \/
  ∃(o:Obj) (its:Array Value) (n:Nat),K.lookup a=some o/\o.cls=.type "tuple"/\o.data=.seq its n/\its.size<=sizeLine/\Vals xs its.toList
def zKX:Value->Option V
 |.none=>some .non
 |.bool b=>some (.bl b)
 |.int i _=>some (.int i)
 |.str x _=>some (.str x)
 |.bytes b _=>some (.byt b)
 |.float b _=>some (.flt b)
 |.ref a=>some (.ref a)
 |.type n=>some (.ty n)
 |_=>none
theorem RelV.abs{x:V}{u:Value}(r:RelV x u):zKX u=some x:=by
 cases x with
 |non=>cases r;rfl
 |bl _=>cases r;rfl
 |int _=>obtain⟨t,rfl⟩:=r;rfl
 |str _=>obtain⟨t,rfl⟩:=r;rfl
 |byt _=>obtain⟨t,rfl⟩:=r;rfl
 |flt _=>obtain⟨t,rfl⟩:=r;rfl
 |ref _=>cases r;rfl
 |ty _=>cases r;rfl
theorem RelV.inj{x y:V}{u:Value}(r:RelV x u)(q:RelV y u):x=y:=Option.some.inj (r.abs.symm.trans q.abs)
theorem Vals.inj:∀{xs ys:List V}{us:List Value},Vals xs us->Vals ys us->xs=ys
 |_,_,_,.nil,.nil=>rfl
 |_,_,_,.cons r t,.cons r' t'=>by rw[r.inj r',Vals.inj t t']
section
variable{X:Cx}{pins:List (Addr×Obj)}{σ:St}{H:Hp}{s:Shared}{a:Addr}{xs ys:List V}
theorem SqL.of{K:W.Frag}(h:H a=some (.lst xs)):SqL K H a xs:=.inl (.inl h)
theorem SqT.of{K:W.Frag}(h:H a=some (.tup xs)):SqT K H a xs:=.inl (.inl h)
theorem Inv.list(I:Inv X pins σ H s)(h:SqL X.K H a xs):∃its:List Value,Vals xs its/\PlainL s.heap a its.toArray/\xs.length<=sizeLine:=by
 rcases h with h|⟨o,its,n,hk,hc,hd,hs,hz,r⟩
 ·obtain⟨z,its,n,r,e⟩:=h.ok I.hok
  exact⟨its,r,⟨_,n,e,rfl,rfl,rfl⟩,z⟩
 ·refine⟨its.toList,r,⟨o,n,I.kIn a o hk,hc,hd,by simpa using hs⟩,?_⟩
  have e:=r.length
  simp only[Array.length_toList]at e
  omega
theorem Inv.tuple(I:Inv X pins σ H s)(h:SqT X.K H a xs):∃its:List Value,Vals xs its/\IsTup s.heap a its.toArray/\xs.length<=sizeLine:=by
 rcases h with h|⟨o,its,n,hk,hc,hs,hz,r⟩
 ·obtain⟨z,its,r,p⟩:=h.ok I.hok
  exact⟨its,r,p,z⟩
 ·refine⟨its.toList,r,⟨o,I.kIn a o hk,hc,n,by simpa using hs⟩,?_⟩
  have e:=r.length
  simp only[Array.length_toList]at e
  omega
theorem Inv.list_inj(I:Inv X pins σ H s)(h:SqL X.K H a xs)(h':SqL X.K H a ys):xs=ys:=by
 obtain⟨its,r,⟨o,n,e,_,_,d⟩,_⟩:=I.list h
 obtain⟨its',r',⟨o',n',e',_,_,d'⟩,_⟩:=I.list h'
 rw[e]at e';cases e'
 rw[d]at d'
 injection d' with d1 _
 have:its=its':=by simpa using congrArg Array.toList d1
 subst this
 exact r.inj r'
theorem Inv.tuple_inj(I:Inv X pins σ H s)(h:SqT X.K H a xs)(h':SqT X.K H a ys):xs=ys:=by
 obtain⟨its,r,⟨o,e,_,n,d⟩,_⟩:=I.tuple h
 obtain⟨its',r',⟨o',e',_,n',d'⟩,_⟩:=I.tuple h'
 rw[e]at e';cases e'
 rw[d]at d'
 injection d' with d1 _
 have:its=its':=by simpa using congrArg Array.toList d1
 subst this
 exact r.inj r'
end
abbrev Cx.wish(X:Cx)(E:Value->Shared->Prop):Cx:={X with xe:=E}
abbrev Cx.nox(X:Cx):Cx:=X.wish λ_ _=>False
theorem Cx.Ok.wish{X:Cx}(ok:X.Ok)(E:Value->Shared->Prop):(X.wish E).Ok:=
 ⟨ok.mod,ok.kind,ok.glob,ok.blt,ok.above,ok.inj,ok.has,ok.cab,ok.hd,ok.frames,ok.stk,ok.exf,ok.bs,ok.bsz,ok.noex,ok.exfs,ok.funs,ok.frf⟩
theorem Cx.Ok.unwish{X:Cx}{E:Value->Shared->Prop}(ok:(X.wish E).Ok):X.Ok:=
 ⟨ok.mod,ok.kind,ok.glob,ok.blt,ok.above,ok.inj,ok.has,ok.cab,ok.hd,ok.frames,ok.stk,ok.exf,ok.bs,ok.bsz,ok.noex,ok.exfs,ok.funs,ok.frf⟩
section
variable{X:Cx}{pins:List (Addr×Obj)}{σ:St}{H:Hp}{s:Shared}{E:Value->Shared->Prop}
theorem Inv.wish(I:Inv X pins σ H s)(E:Value->Shared->Prop):Inv (X.wish E) pins σ H s:=⟨I.ok.wish E,I.os,I.bare,I.base,I.loc,I.cell,I.free,I.freeC,I.pin,I.hok,I.len⟩
theorem Inv.unwish(I:Inv (X.wish E) pins σ H s):Inv X pins σ H s:=⟨I.ok.unwish,I.os,I.bare,I.base,I.loc,I.cell,I.free,I.freeC,I.pin,I.hok,I.len⟩
theorem SP.unwish{D:kR}{f:Flow}{s':Shared}(h:SP (X.wish E) pins D f s'):SP X pins D f s':=by
 cases f with
 |next=>obtain⟨σ',H',I,q⟩:=h;exact⟨σ',H',I.unwish,q⟩
 |brk=>obtain⟨σ',H',I,q⟩:=h;exact⟨σ',H',I.unwish,q⟩
 |cont=>obtain⟨σ',H',I,q⟩:=h;exact⟨σ',H',I.unwish,q⟩
 |ret u=>obtain⟨v,σ',H',I,r,q⟩:=h;exact⟨v,σ',H',I.unwish,r,q⟩
theorem PSs.nox{st:List Stmt}{t:TS}(h:PSs X.nox st t):PSs X st t:=λpins s σ H D I hw=>
 wpAny_mono (h pins s σ H D (I.wish _) hw) (λ_ _ q=>q.unwish) λ_ _ z=>False.elim z
end
section
variable{X:Cx}{st:Stmt}{rest:List Stmt}{t u:TS}{e:Expr}{te:TE}{pos:Pos}
def zIQ:TS:=λD σ H=>D.nx σ H
def zCm(t u:TS):TS:=λD σ H=>t {D with nx:=u D} σ H
theorem uG:PSs X [] zIQ:=λ_ _ σ H _ I h=>wpAny_execs_nil ⟨σ,H,I,h⟩
theorem fM(h1:PS X st t)(h2:PSs X rest u):PSs X (st::rest) (zCm t u):=by
 intro pins s σ H D I h
 refine wpAny_execs_cons (thn (h1 pins s σ H {D with nx:=u D} I h) λf s1 q=>?_)
 cases f with
 |next=>
  obtain⟨σ',H',I',q⟩:=q
  exact h2 pins s1 σ' H' D I' q
 |ret v=>exact q
 |brk=>exact q
 |cont=>exact q
theorem kD(h1:PS X st t):PSs X [st] t:=by
 intro pins s σ H D I h
 refine wpAny_execs_cons (thn (h1 pins s σ H D I h) λf s1 q=>?_)
 cases f with
 |next=>exact wpAny_execs_nil q
 |ret v=>exact q
 |brk=>exact q
 |cont=>exact q
theorem Inv.quiet{pins:List (Addr×Obj)}{σ:St}{H:Hp}{s:Shared}(I:Inv X pins σ H s):interactive X.env=false:=by simp[interactive,I.ok.kind]
def zIS(te:TE):TS:=λD σ H=>te σ H λ_ H1=>D.nx σ H1
theorem zAZ(he:PE X e te)(hs:swapsWith e none pos.line X.env=pure false:=by rfl):PS X (.Expr e pos) (zIS te):=by
 intro pins s σ H D I h
 exact wpAny_Expr_any (thn (he pins s σ H _ I h) λv s1 ⟨x,H1,I1,r1,q1⟩=>⟨σ,H1,I1,q1⟩) I.quiet hs
def zJB(te:TE):TS:=λD σ H=>te σ H D.rt
theorem kI(he:PE X e te):PS X (.Return (some e) pos) (zJB te):=by
 intro pins s σ H D I h
 exact wpAny_Return_some (thn (he pins s σ H _ I h) λv s1 ⟨x,H1,I1,r1,q1⟩=>⟨x,σ,H1,I1,r1,q1⟩)
def zJD(c:TT)(t u:TS):TS:=λD σ H=>c σ H λb H1=>if b=true then t D σ H1 else u D σ H1
theorem wC{c:Expr}{a b:List Stmt}{tc:TT}(hc:PT X c tc)(ha:PSs X a t)(hb:PSs X b u):PS X (.If c a b pos) (zJD tc t u):=by
 intro pins s σ H D I h
 refine wpAny_If (thn (hc pins s σ H _ I h) λd s1 ⟨H1,I1,q1⟩=>?_)
 cases d with
 |true=>exact ha pins s1 σ H1 D I1 q1
 |false=>exact hb pins s1 σ H1 D I1 q1
def zHi:TS:=λ_ _ _=>False
theorem zEu{sts:List Stmt}:PSs X sts zHi:=λ_ _ _ _ _ _ h=>h.elim
end
abbrev TG:=V->St->Hp->(St->Hp->Prop)->Prop
abbrev TGs:=List V->St->Hp->(St->Hp->Prop)->Prop
def PG(X:Cx)(target:Expr)(t:TG):Prop:=
 ∀(pins:List (Addr×Obj)) (s:Shared) (σ:St) (H:Hp) (v:V) (u:Value) (Q:St->Hp->Prop),Inv X pins σ H s->RelV v u->t v σ H Q ->
  wpAny (model X.prog X.w) X.A (assign target X.env u) (λ_ s'=>∃σ' H',Inv X pins σ' H' s'/\Q σ' H') X.xe s
def PGs(X:Cx)(ts:List Expr)(t:TGs):Prop:=
 ∀(pins:List (Addr×Obj)) (s:Shared) (σ:St) (H:Hp) (vs:List V) (us:List Value) (Q:St->Hp->Prop),Inv X pins σ H s->Vals vs us->t vs σ H Q ->
  wpAny (model X.prog X.w) X.A (assignInOrder ((assignEach ts X.env).map (·.2)) us) (λ_ s'=>∃σ' H',Inv X pins σ' H' s'/\Q σ' H') X.xe s
abbrev xS:=V->V->V->Hp->(Hp->Prop)->Prop
def zC1(X:Cx)(t:xS):Prop:=
 ∀(pins:List (Addr×Obj)) (s:Shared) (σ:St) (H:Hp) (o i v:V) (ov iv u:Value) (Q:Hp->Prop),Inv X pins σ H s->RelV o ov->RelV i iv->RelV v u->t o i v H Q ->
  wpAny (model X.prog X.w) X.A (setItem ov iv u) (λ_ s'=>∃H',Inv X pins σ H' s'/\Q H') X.xe s
section
variable{X:Cx}{pos:Pos}
def rE(i:Nat):TG:=λv σ H Q=>Q (σ.set i (some v)) H
theorem zGw{i:Nat}{x:Str}(hN:X.N.Nodup)(hi:X.N[i]?=some x)(hx:Loc X.env.scope x)(hf:X.fn x=true\/X.env.scope.names.lookup x=some .local:=by first|exact .inl rfl|exact .inr rfl|assumption):PG X (.Name x pos) (rE i):=by
 intro pins s σ H v u Q I r h
 exact wpAny_assign_Name (zZ I hN hi hx r (λs' I'=>⟨_,H,I',h⟩) hf)
def zKe:TGs:=λvs σ H Q=>vs=[]/\Q σ H
def zJn(t:TG)(u:TGs):TGs:=λvs σ H Q=>∃v r,vs=v::r/\t v σ H λσ' H'=>u r σ' H' Q
theorem zGv:PGs X [] zKe:=by
 intro pins s σ H vs us Q I r h
 obtain⟨e,h⟩:=h
 subst e
 cases r
 exact assignInOrder_nil ⟨σ,H,I,h⟩
theorem zFm{e:Expr}{es:List Expr}{t:TG}{u:TGs}(h1:PG X e t)(h2:PGs X es u)
  (hs:(assignEach (e::es) X.env).map (·.2)=assign e X.env::(assignEach es X.env).map (·.2):=by rfl):PGs X (e::es) (zJn t u):=by
 intro pins s σ H vs us Q I r h
 obtain⟨v,vr,e1,h⟩:=h
 subst e1
 cases r with
 |cons r rr=>
  rw[hs]
  refine assignInOrder_cons (thn (h1 pins s σ H _ _ _ I r h) λ_ s1 ⟨σ1,H1,I1,q1⟩=>?_)
  exact h2 pins s1 σ1 H1 _ _ Q I1 rr q1
def zKc(K:W.Frag)(n:Nat)(t:TGs):TG:=λv σ H Q=>∃a xs,v=.ref a/\SqT K H a xs/\xs.length=n/\t xs σ H Q
theorem zHL{es:List Expr}{k:Nat}{t:TGs}{n:Nat}(hc:X.calm=true)(h:PGs X es t)
  (hn:(assignEach es X.env).length=n:=by rfl) (hst:(assignEach es X.env).findIdx? (·.1)=none:=by rfl):PG X (.Tuple es k pos) (zKc X.K n t):=by
 intro pins s σ H v u Q I r hw
 obtain⟨a,xs,e1,hq,hl,hw⟩:=hw
 subst e1
 cases r
 obtain⟨its,rv,ht,hz⟩:=I.tuple hq
 refine assign_Tuple_tuple (I.ok.hd hc) ht (by simp[hn,<-hl,rv.length]) hst λh' hx=>?_
 have I1:Inv X pins σ H {s with heap:=h'}:=I.kept (t':=s.toks) λb o e=>hx b o (Nat.ne_of_lt (Heap.lt_size e)) e
 exact h pins _ σ H xs _ Q I1 (by simpa using rv) hw
def zKd(to ti:TE)(t:xS):TG:=λv σ H Q=>to σ H λo H1=>ti σ H1 λi H2=>t o i v H2 λH3=>Q σ H3
theorem zHM{o i:Expr}{to ti:TE}{t:xS}(ho:PE X o to)(hi:PE X i ti)(hs:zC1 X t)
  (ha:∀v,assign (.Subscript o i pos) X.env v=(do
   let ov <- holding [v] (eval o X.env)
   let iv <- holding [v,ov] (eval i X.env)
   standAt pos
   holding [v,ov,iv] (setItem ov iv v)
   release [v,ov,iv] []):=by intro _;rfl):PG X (.Subscript o i pos) (zKd to ti t):=by
 intro pins s σ H v u Q I r h
 rw[ha]
 refine wpAny_bind (wpAny_holding (thn (ho pins s σ H _ I h) λov s1 ⟨x,H1,I1,r1,q1⟩=>?_))
 refine wpAny_bind (wpAny_holding (thn (hi pins s1 σ H1 _ I1 q1) λiv s2 ⟨y,H2,I2,r2,q2⟩=>?_))
 refine wpAny_bind (wpAny_standAt (wpAny_bind (wpAny_holding (thn (hs pins s2 σ H2 x y v ov iv u _ I2 r1 r2 r q2) λ_ s3 ⟨H3,I3,q3⟩=>?_))))
 exact wpAny_release ⟨σ,H3,I3,q3⟩
def rL(te:TE)(g:TG):TS:=λD σ H=>te σ H λx H1=>g x σ H1 D.nx
theorem zHK{tg e:Expr}{te:TE}{g:TG}(he:PE X e te)(hg:PG X tg g)(hs:swapsWithSole [tg] e pos.line X.env=pure false:=by rfl)(hw:swappedStores [tg] e X.env=pure none:=by rfl)
  (h1:(assignEach [tg] X.env).map (·.2)=[assign tg X.env]:=by rfl):PS X (.Assign [tg] e pos) (rL te g):=by
 intro pins s σ H D I h
 refine wpAny_Assign_stores (thn (he pins s σ H _ I h) λv s1 ⟨x,H1,I1,r1,q1⟩=>?_) hs hw
 rw[h1]
 exact thn (hg pins s1 σ H1 x v _ I1 r1 q1) λ_ s2 q=>q
theorem jC{i:Nat}{x:Str}{e:Expr}{te:TE}{pos':Pos}(hN:X.N.Nodup)(hi:X.N[i]?=some x)(hx:Loc X.env.scope x)(he:PE X e te)(hs:swapsWith e (some (.Name x pos')) pos.line X.env=pure false:=by rfl)(hf:X.fn x=true\/X.env.scope.names.lookup x=some .local:=by first|exact .inl rfl|exact .inr rfl|assumption):
  PS X (.Assign [.Name x pos'] e pos) (rL te (rE i)):=by
 intro pins s σ H D I h
 refine wpAny_Assign_Name (thn (he pins s σ H _ I h) λv s1 ⟨y,H1,I1,r1,q1⟩=>?_) hs
 exact zZ I1 hN hi hx r1 (λs2 I2=>⟨_,H1,I2,q1⟩) hf
end
section
variable{X:Cx}{pos:Pos}
def zHh(c:TT)(tb:TS):TS:=λD σ H=>∃W:Nat->St->Hp->Prop,(∃m,W m σ H)/\∀m σ H,W m σ H ->
 c σ H λb H1=>if b=true then ∃N:St->Hp->Prop,(∀σ' H',N σ' H'->∃m',m'<m/\W m' σ' H')/\tb {D with nx:=N,ct:=N,bk:=D.nx} σ H1 else D.nx σ H1
theorem zFg{c:Expr}{body:List Stmt}{tc:TT}{tb:TS}(hp:PassesOwn (model X.prog X.w) X.A X.env X.xe)(hc:PT X c tc)(hb:PSs X body tb):PS X (.While c body [] pos) (zHh tc tb):=by
 intro pins s σ H D I h
 obtain⟨W,⟨m0,w0⟩,turn⟩:=h
 refine wpAny_While (codeAny_whileLoop (λn s'=>∃σ' H',Inv X pins σ' H' s'/\W n σ' H') ?_ m0 ⟨σ,H,I,w0⟩)
 rintro n s1 ⟨σ1,H1,I1,w1⟩
 refine wpAny_passesOwn hp (thn (hc pins s1 σ1 H1 _ I1 (turn n σ1 H1 w1)) λb s2 ⟨H2,I2,q2⟩=>?_)
 cases b with
 |true=>
  obtain⟨N,hN,q2⟩:=q2
  rw[if_pos rfl]
  refine wpAny_passesOwn hp (thn (hb pins s2 σ1 H2 _ I2 q2) λf s3 q3=>?_)
  cases f with
  |next=>
   obtain⟨σ3,H3,I3,n3⟩:=q3
   obtain⟨m',hm,w3⟩:=hN σ3 H3 n3
   exact⟨m',hm,σ3,H3,I3,w3⟩
  |cont=>
   obtain⟨σ3,H3,I3,n3⟩:=q3
   obtain⟨m',hm,w3⟩:=hN σ3 H3 n3
   exact⟨m',hm,σ3,H3,I3,w3⟩
  |brk=>exact q3
  |ret v=>exact q3
 |false=>
  rw[if_neg Bool.false_ne_true]
  exact wpAny_execs_nil ⟨σ1,H2,I2,q2⟩
end
structure It where
 go:Nat->Hp->Prop
 yld:Nat->Hp->V->Hp->Prop
 stop:Nat->Hp->Prop
def eY(X:Cx)(pins:List (Addr×Obj))(H:Hp)(b:Addr):Prop:=
 H b=none/\b≠X.env.locals/\b∉X.fs/\(b∈X.ex\/X.s₀.heap.objs.size<=b)/\(∀x c,X.env.cells.lookup x=some c->c≠b)/\∀p∈X.pn++pins,p.1≠b
theorem Inv.fpOk{X:Cx}{pins:List (Addr×Obj)}{σ:St}{H H':Hp}{s:Shared}{b:Addr}(I:Inv X pins σ H s)(hb:s.heap.objs.size<=b)(hn:H' b=none):eY X pins H' b:=by
 refine⟨hn,Nat.ne_of_gt (Nat.lt_of_lt_of_le I.lt hb),I.nofs hb,.inr (Nat.le_trans I.sz hb),λx c e z=>?_,λp hp z=>?_⟩
 ·obtain⟨v,q⟩:=I.cell x c e
  exact absurd (Nat.lt_of_lt_of_le q.lt (by rw[z];exact hb)) (Nat.lt_irrefl _)
 ·exact absurd (Nat.lt_of_lt_of_le (Heap.lt_size (I.pin p hp).1) (by rw[z];exact hb)) (Nat.lt_irrefl _)
structure iV (P:Program) (w:World) (K:W.Frag) (tg:Expr) (J:It) (fp:List Addr) (it:Addr) (tn:Nat->Heap->Prop):Prop where
 mem:it∈fp
 obj:∀i h,tn i h->∀b∈fp,∃o,h.get? b=some o/\∀v,o.data≠.cell v
 keep:∀i h h',tn i h->(∀b∈fp,∀o,h.get? b=some o->h'.get? b=some o)->tn i h'
 item:∀(X:Cx),X.prog=P->X.w=w->X.K=K->X.calm=true->∀(i:Nat) (pins:List (Addr×Obj)) (s:Shared) (σ:St) (H:Hp) (E:Value->Shared->Prop),Inv X pins σ H s->(∀b∈fp,eY X pins H b)->tn i s.heap->J.go i H ->
  wpAny (model P w) X.A (pyNext (.ref it)) (λr s1=>∃u,r=some u /\
   wpAny (model P w) X.A (letOwnedTupleGo tg (.ref it) u) (λ_ s2=>∃x H',Inv X pins σ H' s2/\RelV x u/\J.yld i H x H'/\tn (i+1) s2.heap/\∀b∈fp,H' b=none) E s1) E s
 done:∀(X:Cx),X.prog=P->X.w=w->X.K=K->X.calm=true->∀(i:Nat) (pins:List (Addr×Obj)) (s:Shared) (σ:St) (H:Hp) (E:Value->Shared->Prop),Inv X pins σ H s->(∀b∈fp,eY X pins H b)->tn i s.heap->J.stop i H ->
  wpAny (model P w) X.A (pyNext (.ref it)) (λr s1=>r=none/\Inv X pins σ H s1) E s
 self:∀(A:Around) (i:Nat) (s:Shared) (Q:Value->Shared->Prop) (E:Value->Shared->Prop),tn i s.heap->Q (.ref it) s->wpAny (model P w) A (pyIter (.ref it)) Q E s
abbrev TI:=St->Hp->(It->Hp->Prop)->Prop
def PIE(X:Cx)(pins:List (Addr×Obj))(σ:St)(tg:Expr)(R:It->Hp->Prop)(itv:Value)(s2:Shared):Prop:=
 ∃(it:Addr) (fp:List Addr) (tn:Nat->Heap->Prop) (J:It) (H':Hp),itv=.ref it/\Inv X pins σ H' s2/\iV X.prog X.w X.K tg J fp it tn/\tn 0 s2.heap/\(∀b∈fp,eY X pins H' b)/\R J H'
def PI(X:Cx)(tg iter:Expr)(wi:TI):Prop:=
 ∀(pins:List (Addr×Obj)) (s:Shared) (σ:St) (H:Hp) (R:It->Hp->Prop),Inv X pins σ H s->wi σ H R ->
  wpAny (model X.prog X.w) X.A (eval iter X.env) (λv s1=>wpAny (model X.prog X.w) X.A (pyIter v) (PIE X pins σ tg R) X.xe s1) X.xe s
theorem lV{M:Model}{A:Around}{E:Value->Shared->Prop}{s:Shared}{tg:Expr}{it:Addr}{u:Value}{o:Obj}{n:String}{vs:Array Value}{Q:Unit->Shared->Prop}(ho:s.heap.get? it=some o)(hc:o.cls=.type n)(hd:o.data=.fields vs)
    (hn:["enumerate","zip","dict_itemiterator","dict_reverseitemiterator","odict_iterator","itertools.zip_longest","itertools.pairwise"].contains n=false) (hQ:Q () s):wpAny M A (letOwnedTupleGo tg (.ref it) u) Q E s:=by
  unfold letOwnedTupleGo
  cases tg<;>first
    |exact wpAny_pure hQ
    |(cases u<;>first
        |exact wpAny_pure hQ
        | (refine wpAny_bind (wpAny_load ho ?_)
           rw[hc,hd]
           show wpAny M A (if (["enumerate","zip","dict_itemiterator","dict_reverseitemiterator","odict_iterator","itertools.zip_longest","itertools.pairwise"].contains n&&vs[0]? == some (rawInt _))=true then _ else _) Q E s
           rw[if_neg (by intro h;rw[hn,Bool.false_and]at h;cases h)]
           exact wpAny_pure hQ))
def Itl(K:W.Frag)(a:Addr):It:=
 ⟨λi H=>∃xs x,SqL K H a xs/\xs[i]?=some x,λi H x H'=>H'=H/\∀xs,SqL K H a xs->xs[i]?=some x,λi H=>∃xs,SqL K H a xs/\xs.length<=i⟩
def Itt(K:W.Frag)(a:Addr):It:=
 ⟨λi H=>∃xs x,SqT K H a xs/\xs[i]?=some x,λi H x H'=>H'=H/\∀xs,SqT K H a xs->xs[i]?=some x,λi H=>∃xs,SqT K H a xs/\xs.length<=i⟩
def Itr(lo:Int)(n:Nat):It:=⟨λi _=>i<n,λi H x H'=>H'=H/\x=.int (lo+i),λi _=>n<=i⟩
theorem zEe{P:Program}{w:World}{K:W.Frag}{tg:Expr}(a it:Addr):iV P w K tg (Itl K a) [it] it (λi h=>h.IsListIter it a i) where
 mem:=by simp
 obj:=λi h st b hb=>by
  have e:b=it:=by simpa using hb
  subst e
  obtain⟨o,e,c,d⟩:=st
  exact⟨o,e,λv z=>by rw[d]at z;cases z⟩
 keep:=λi h h' st k=>st.at λo e=>k it (by simp) o e
 item:=by
  intro X hP hw hK hc i pins s σ H E I hf st hg
  subst hP hw hK
  obtain⟨xs,x,hq,hx⟩:=hg
  obtain⟨its,rv,p,hz⟩:=I.list hq
  obtain⟨u,hu,ru⟩:=rv.get hx
  obtain⟨f0,f1,f2,f3,f4,f5⟩:=hf it (by simp)
  refine wpAny_pyNext_list_item st p.isList (x:=u) (by simpa using hu) λh' st' sb=>?_
  have I1:Inv X pins σ H {s with heap:=h'}:=I.turned (t':=s.toks) (λb o hb e=>(sb.2 b hb).trans e) f0 f1 f3 f4 f5
  obtain⟨o,e,c,d⟩:=id st'
  exact⟨u,rfl,lV (s:={s with heap:=h'}) e c d (by decide) ⟨x,H,I1,ru,⟨rfl,λys hy=>by rw[I.list_inj hy hq];exact hx⟩,st',λb hb=>(hf b hb).1⟩⟩
 done:=by
  intro X hP hw hK hc i pins s σ H E I hf st hg
  subst hP hw hK
  obtain⟨xs,hq,hx⟩:=hg
  obtain⟨its,rv,p,hz⟩:=I.list hq
  obtain⟨f0,f1,f2,f3,f4,f5⟩:=hf it (by simp)
  have hl:=rv.length
  exact wpAny_pyNext_list_end (I.ok.hd hc) st p.isList (by simp;omega) λh' eb=>⟨rfl,I.turned (t':=s.toks) (λb o hb e=>eb b o hb e) f0 f1 f3 f4 f5⟩
 self:=λ_ _ _ _ _ st h=>wpAny_pyIter_listiter st h
theorem zDF{P:Program}{w:World}{K:W.Frag}{tg:Expr}(a it:Addr):iV P w K tg (Itt K a) [it] it (λi h=>h.IsTupleIter it a i) where
 mem:=by simp
 obj:=λi h st b hb=>by
  have e:b=it:=by simpa using hb
  subst e
  obtain⟨o,e,c,d⟩:=st
  exact⟨o,e,λv z=>by rw[d]at z;cases z⟩
 keep:=λi h h' st k=>st.at λo e=>k it (by simp) o e
 item:=by
  intro X hP hw hK hc i pins s σ H E I hf st hg
  subst hP hw hK
  obtain⟨xs,x,hq,hx⟩:=hg
  obtain⟨its,rv,p,hz⟩:=I.tuple hq
  obtain⟨u,hu,ru⟩:=rv.get hx
  obtain⟨f0,f1,f2,f3,f4,f5⟩:=hf it (by simp)
  refine wpAny_pyNext_tuple_item st (show s.heap.IsTuple a its.toArray from p) (x:=u) (by simpa using hu) λh' st' sb=>?_
  have I1:Inv X pins σ H {s with heap:=h'}:=I.turned (t':=s.toks) (λb o hb e=>(sb.2 b hb).trans e) f0 f1 f3 f4 f5
  obtain⟨o,e,c,d⟩:=id st'
  exact⟨u,rfl,lV (s:={s with heap:=h'}) e c d (by decide) ⟨x,H,I1,ru,⟨rfl,λys hy=>by rw[I.tuple_inj hy hq];exact hx⟩,st',λb hb=>(hf b hb).1⟩⟩
 done:=by
  intro X hP hw hK hc i pins s σ H E I hf st hg
  subst hP hw hK
  obtain⟨xs,hq,hx⟩:=hg
  obtain⟨its,rv,p,hz⟩:=I.tuple hq
  obtain⟨f0,f1,f2,f3,f4,f5⟩:=hf it (by simp)
  have hl:=rv.length
  exact wpAny_pyNext_tuple_end (I.ok.hd hc) st (show s.heap.IsTuple a its.toArray from p) (by simp;omega) λh' eb=>⟨rfl,I.turned (t':=s.toks) (λb o hb e=>eb b o hb e) f0 f1 f3 f4 f5⟩
 self:=λ_ _ _ _ _ st h=>wpAny_pyIter_tupleiter st h
theorem zDG{P:Program}{w:World}{K:W.Frag}{tg:Expr}(it:Addr)(lo:Int)(n:Nat):iV P w K tg (Itr lo n) [it] it (λi h=>IsRangeIter h it (lo+(i:Nat)*1) ((n:Int)-(i:Nat)) 1) where
 mem:=by simp
 obj:=λi h st b hb=>by
  have e:b=it:=by simpa using hb
  subst e
  exact⟨_,st,λv z=>by
   have z':Data.fields _=Data.cell v:=z
   cases z'⟩
 keep:=λi h h' st k=>k it (by simp) _ st
 item:=by
  intro X hP hw hK hc i pins s σ H E I hf st hg
  subst hP hw hK
  obtain⟨f0,f1,f2,f3,f4,f5⟩:=hf it (by simp)
  have W:=Walks.range (prog:=X.prog) (w:=X.w) (I.ok.hd hc) it lo 1 n
  refine W.item i s _ _ hg st λv h' tk hv st' kk=>?_
  obtain⟨t,rfl⟩:=hv
  have I1:Inv X pins σ H {s with heap:=h',toks:=tk}:=I.turned (λb o hb e=>kk b o (by simpa using hb) e) f0 f1 f3 f4 f5
  refine⟨_,rfl,lV (s:={s with heap:=h',toks:=tk}) (n:="range_iterator") st' rfl rfl (by decide) ⟨.int (lo+i),H,I1,⟨t,?_⟩,⟨rfl,rfl⟩,st',λb hb=>(hf b hb).1⟩⟩
  rw[Int.mul_one]
 done:=by
  intro X hP hw hK hc i pins s σ H E I hf st hg
  subst hP hw hK
  obtain⟨f0,f1,f2,f3,f4,f5⟩:=hf it (by simp)
  exact wpAny_pyNext_range_end (I.ok.hd hc) st (by have:n<=i:=hg;omega) λh' eb=>⟨rfl,I.turned (t':=s.toks) (λb o hb e=>eb b o hb e) f0 f1 f3 f4 f5⟩
 self:=λ_ _ _ _ _ st h=>wpAny_pyIter_rangeiter st h
end L2
namespace L2
open PySem PySem.Spec PyProof.Rows
section
variable{X:Cx}{tg:Expr}
theorem zFd{pins:List (Addr×Obj)}{σ:St}{H:Hp}{s:Shared}{R:It->Hp->Prop}{E:Value->Shared->Prop}{lo hi:Int}{t u v:Tok}{tk:Nat}(I:Inv X pins σ H s)(h1:-(2 ^ 62)<=lo)(h2:lo<2 ^ 62)(h3:-(2 ^ 62)<=hi)(h4:hi<2 ^ 62)
  (q:R (Itr lo (hi-lo).toNat) H):wpAny (model X.prog X.w) X.A (pyIter (.ref s.heap.objs.size)) (PIE X pins σ tg R) E {s with heap:=s.heap.push {cls:=.type "range",data:=.fields #[.int lo t,.int hi u,.int 1 v]},toks:=tk}:=by
 refine wpAny_pyIter_range (IsRange.new ..) (small_one h1 h2 h3 h4) ?_
 have I1:Inv X pins σ H {s with heap:=s.heap.push {cls:=.type "range",data:=.fields #[.int lo t,.int hi u,.int 1 v]},toks:=tk}:=I.kept λb o e=>Heap.get?_push_of_some _ e
 refine⟨(s.heap.push {cls:=.type "range",data:=.fields #[.int lo t,.int hi u,.int 1 v]}).objs.size,[(s.heap.push {cls:=.type "range",data:=.fields #[.int lo t,.int hi u,.int 1 v]}).objs.size],_,_,H,rfl,
  I1.kept (t':=tk) λb o e=>Heap.get?_push_of_some _ e,zDG _ lo (hi-lo).toNat,?_,λb hb=>?_,q⟩
 ·have e1:lo+((0:Nat):Int)*1=lo:=by simp
  have e2:(((hi-lo).toNat:Nat):Int)-((0:Nat):Int)=Builtin.Range.rangeSize lo hi 1:=by rw[rangeSize_one];split<;>omega
  show IsRangeIter _ _ (lo+((0:Nat):Int)*1) ((((hi-lo).toNat:Nat):Int)-((0:Nat):Int)) 1
  rw[e1,e2]
  exact Heap.get?_push_size _ rfl
 ·have e:b=(s.heap.push {cls:=.type "range",data:=.fields #[.int lo t,.int hi u,.int 1 v]}).objs.size:=by simpa using hb
  subst e
  exact I1.fpOk (Nat.le_refl _) (I1.hok.fresh (Nat.le_refl _))
def zJk(ta:TA):TI:=λσ H R=>ta σ H λvs H1=>∃j:Int,vs=[.int j] /\ -(2 ^ 62)<=j/\j<2 ^ 62/\R (Itr 0 j.toNat) H1
theorem zEw{a:Expr}{ta:TA}{p pos:Pos}(hg:Gl X "range")(hm:X.mg "range"=none)(ha:PA X [a] ta)(hs:starEach [a] X.env=[(false,eval a X.env)]:=by rfl):PI X tg (.Call (.Name "range" p) [a] [] pos) (zJk ta):=by
 intro pins s σ H R I h
 refine Call_ (nJ I hg hm boot_range (PyProof.Rows.callWith_type1 (thn (ha pos pins s σ H _ I h) λus s1 ⟨vs,H1,I1,r1,q1⟩=>?_) hs rfl))
 obtain⟨j,e,q1,q2,q⟩:=q1
 subst e
 cases r1 with
 |cons r rr=>
  cases rr
  obtain⟨t,rfl⟩:=r
  exact call_range_1 (zFd I1 (by omega) (by omega) q1 q2 (by simpa using q))
def zJE(wi:TI)(g:TG)(tb:TS):TS:=λD σ H=>wi σ H λJ H1=>∃W:Nat->Nat->St->Hp->Prop,(∃m,W 0 m σ H1)/\∀i m σ H,W i m σ H ->
 (J.stop i H/\D.nx σ H)\/(J.go i H/\∃N:St->Hp->Prop,(∀σ' H',N σ' H'->∃m',m'<m/\W (i+1) m' σ' H')/\∀x H',J.yld i H x H'->g x σ H' λσ2 H2=>tb {D with nx:=N,ct:=N,bk:=D.nx} σ2 H2)
def nI(fp:List Addr)(h:Heap):List (Addr×Obj):=fp.filterMap λb=>(h.get? b).map λo=>(b,o)
theorem oX{fp:List Addr}{h:Heap}{b:Addr}{o:Obj}(hb:b∈fp)(e:h.get? b=some o):(b,o)∈nI fp h:=List.mem_filterMap.mpr ⟨b,hb,by rw[e];rfl⟩
theorem zEA{fp:List Addr}{h:Heap}{p:Addr×Obj}(hp:p∈nI fp h):p.1∈fp/\h.get? p.1=some p.2:=by
 obtain⟨b,hb,e⟩:=List.mem_filterMap.mp hp
 cases q:h.get? b with
 |none=>rw[q]at e;cases e
 |some o=>
  rw[q]at e
  have e':(b,o)=p:=Option.some.inj e
  subst e'
  exact⟨hb,q⟩
theorem Inv.pinned{pins:List (Addr×Obj)}{σ:St}{H:Hp}{s:Shared}{fp:List Addr}(I:Inv X pins σ H s)(hf:∀b∈fp,eY X pins H b)(ho:∀b∈fp,∃o,s.heap.get? b=some o/\∀v,o.data≠.cell v):Inv X (pins++nI fp s.heap) σ H s:=
 I.pins_of λp hp=>(List.mem_append.mp hp).elim (λz=>I.pin p (List.mem_append_right _ z)) λz=>by
  obtain⟨hb,e⟩:=zEA z
  obtain⟨f0,f1,f2,_⟩:=hf p.1 hb
  obtain⟨o,e',d⟩:=ho p.1 hb
  rw[e]at e';cases e'
  exact⟨e,f0,f1,f2,d⟩
theorem Inv.unpinned{pins pl:List (Addr×Obj)}{σ:St}{H:Hp}{s:Shared}(I:Inv X (pins++pl) σ H s):Inv X pins σ H s:=I.pins_of λp hp=>I.pin p (List.mem_append_right _ (List.mem_append_left _ hp))
theorem zHJ{iter:Expr}{body:List Stmt}{wi:TI}{g:TG}{tb:TS}{pos:Pos}(hp:PassesOwn (model X.prog X.w) X.A X.env X.xe)(hc:X.calm=true)(hi:PI X tg iter wi)(hg:PG X tg g)(hb:PSs X body tb)
  (hs:∀x,foldedSetIterable iter X.env x=pure x:=by intro _;rfl):PS X (.For tg iter body [] pos) (zJE wi g tb):=by
 intro pins s σ H D I h
 refine wpAny_For (thn (hi pins s σ H _ I h) λv s1 h1=>thn h1 λitv s2 h2=>?_) hs
 obtain⟨it,fp,tn,J,H2,e,I2,T,st2,f2,W,⟨m0,w0⟩,turn⟩:=h2
 subst e
 -- what stays true of the iterator's objects through the loop
 have stat:∀{H':Hp},(∀b∈fp,H' b=none)->∀b∈fp,eY X pins H' b:=λhn b hb=>⟨hn b hb,(f2 b hb).2⟩
 refine codeAny_forLoop_any (λn s'=>∃i σ' H',Inv X pins σ' H' s'/\tn i s'.heap/\(∀b∈fp,H' b=none)/\W i n σ' H') ?_ m0 ⟨0,σ,H2,I2,st2,λb hb=>(f2 b hb).1,w0⟩
 rintro n s3 ⟨i,σ3,H3,I3,st3,fr3,w3⟩
 rcases turn i n σ3 H3 w3 with⟨stop,qn⟩|⟨go,N,hN,step⟩
 ·refine wpAny_passesOwn hp (thn (T.done X rfl rfl rfl hc i pins s3 σ3 H3 X.xe I3 (stat fr3) st3 stop) λr s4 ⟨hr,I4⟩=>?_)
  subst hr
  exact wpAny_execs_nil ⟨σ3,H3,I4,qn⟩
 ·refine wpAny_passesOwn hp (thn (T.item X rfl rfl rfl hc i pins s3 σ3 H3 X.xe I3 (stat fr3) st3 go) λr s4 ⟨u,hr,h4⟩=>?_)
  subst hr
  refine wpAny_passesOwn hp (thn h4 λ_ s5 ⟨x,H5,I5,r5,y5,st5,fr5⟩=>?_)
  have I5':=I5.pinned (stat fr5) (T.obj _ _ st5)
  refine wpAny_passesOwn hp (thn (hg _ s5 σ3 H5 x u _ I5' r5 (step x H5 y5)) λ_ s6 ⟨σ6,H6,I6,q6⟩=>?_)
  refine wpAny_passesOwn hp (thn (hb _ s6 σ6 H6 _ I6 q6) λf s7 q7=>?_)
  have again:∀{σ7:St} {H7:Hp},Inv X (pins++nI fp s5.heap) σ7 H7 s7->N σ7 H7->∃m,m<n/\∃i σ' H',Inv X pins σ' H' s7/\tn i s7.heap/\(∀b∈fp,H' b=none)/\W i m σ' H':=λ{σ7 H7} I7 n7=>by
   obtain⟨m',hm,w7⟩:=hN σ7 H7 n7
   refine⟨m',hm,i+1,σ7,H7,I7.unpinned,T.keep _ _ _ st5 λb hb o e=>(I7.pin (b,o) (List.mem_append_right _ (List.mem_append_right _ (oX hb e)))).1,λb hb=>?_,w7⟩
   obtain⟨o,e,d⟩:=T.obj _ _ st5 b hb
   exact(I7.pin (b,o) (List.mem_append_right _ (List.mem_append_right _ (oX hb e)))).2.1
  cases f with
  |next=>obtain⟨σ7,H7,I7,n7⟩:=q7;exact again I7 n7
  |cont=>obtain⟨σ7,H7,I7,n7⟩:=q7;exact again I7 n7
  |brk=>obtain⟨σ7,H7,I7,q7⟩:=q7;exact⟨σ7,H7,I7.unpinned,q7⟩
  |ret v=>obtain⟨x7,σ7,H7,I7,r7,q7⟩:=q7;exact⟨x7,σ7,H7,I7.unpinned,r7,q7⟩
end
end L2
namespace L2
open PySem PySem.Spec PyProof.Rows
abbrev R2:=V->V->Hp->VK->Prop
def OpR(X:Cx)(f:Value->Value->Sem Value)(r:R2):Prop:=
 ∀(pins:List (Addr×Obj)) (s:Shared) (σ:St) (H:Hp) (x y:V) (v u:Value) (Q:VK),Inv X pins σ H s->RelV x v->RelV y u->r x y H Q ->
  wpAny (model X.prog X.w) X.A (f v u) (EP X pins σ Q) X.xe s
def UnR(X:Cx)(f:Value->Sem Value)(r:V->Hp->VK->Prop):Prop:=
 ∀(pins:List (Addr×Obj)) (s:Shared) (σ:St) (H:Hp) (x:V) (v:Value) (Q:VK),Inv X pins σ H s->RelV x v->r x H Q ->
  wpAny (model X.prog X.w) X.A (f v) (EP X pins σ Q) X.xe s
def CallR(X:Cx)(f:Value)(r:List V->Hp->VK->Prop):Prop:=
 ∀(pins:List (Addr×Obj)) (s:Shared) (σ:St) (H:Hp) (xs:List V) (us:List Value) (Q:VK),Inv X pins σ H s->Vals xs us->r xs H Q ->
  wpAny (model X.prog X.w) X.A (call f us) (EP X pins σ Q) X.xe s
def tOp(r:R2)(ta tb:TE):TE:=λσ H Q=>ta σ H λx H1=>tb σ H1 λy H2=>r x y H2 Q
def tUn(r:V->Hp->VK->Prop)(ta:TE):TE:=λσ H Q=>ta σ H λx H1=>r x H1 Q
def rI(C:Int->Int->Prop)(g:Int->Int->V):R2:=λx y H Q=>∃i j,x=.int i/\y=.int j/\C i j/\Q (g i j) H
def rI0(g:Int->Int->V):R2:=λx y H Q=>∃i j,x=.int i/\y=.int j/\Q (g i j) H
def rU(g:Int->V):V->Hp->VK->Prop:=λx H Q=>∃i,x=.int i/\Q (g i) H
section
variable{X:Cx}{a b c:Expr}{ta tb tc:TE}{pos:Pos}
theorem xR(ha:PE X a ta)(hb:PE X b tb){pins:List (Addr×Obj)}{s:Shared}{σ:St}{H:Hp}{R:V->V->Hp->Prop}(I:Inv X pins σ H s)
  (h:ta σ H λx H1=>tb σ H1 λy H2=>R x y H2) {Q:Value->Shared->Prop} {f:Value->Value->Sem Value}
  (hf:∀v u s2 x y H2,Inv X pins σ H2 s2->RelV x v->RelV y u->R x y H2->wpAny (model X.prog X.w) X.A (f v u) Q X.xe s2):
  wpAny (model X.prog X.w) X.A (eval a X.env) (λv s₁=>wpAny (model X.prog X.w) X.A (eval b X.env) (λu s₂=>wpAny (model X.prog X.w) X.A (f v u) Q X.xe s₂) X.xe s₁) X.xe s:=by
 refine thn (ha pins s σ H _ I h) λv s1 ⟨x,H1,I1,r1,q1⟩=>?_
 refine thn (hb pins s1 σ H1 _ I1 q1) λu s2 ⟨y,H2,I2,r2,q2⟩=>?_
 exact hf v u s2 x y H2 I2 r1 r2 q2
theorem cG{op:Operator}{r:R2}(ho:OpR X (binaryOp op) r)(ha:PE X a ta)(hb:PE X b tb):PE X (.BinOp a op b pos) (tOp r ta tb):=by
 intro pins s σ H Q I h
 exact wpAny_BinOp (xR ha hb I h λv u s2 x y H2 I2 rx ry q=>ho pins s2 σ H2 x y v u Q I2 rx ry q)
theorem zB4{op:UnaryOp}{r:V->Hp->VK->Prop}(ho:UnR X (unaryOp op) r)(ha:PE X a ta):PE X (.UnaryOp op a pos) (tUn r ta):=by
 intro pins s σ H Q I h
 exact UnaryOp_ (thn (ha pins s σ H _ I h) λv s1 ⟨x,H1,I1,r1,q1⟩=>ho pins s1 σ H1 x v Q I1 r1 q1)
theorem opI{f:Value->Value->Sem Value}{C:Int->Int->Prop}{g:Int->Int->Int}
  (rule:∀(i j:Int) (t u:Tok) (s:Shared) (Q:Value->Shared->Prop) (E:Value->Shared->Prop),C i j->Q (.int (g i j) s.toks) {s with toks:=s.toks+1}->wpAny (model X.prog X.w) X.A (f (.int i t) (.int j u)) Q E s):
  OpR X f (rI C λi j=>.int (g i j)):=by
 intro pins s σ H x y v u Q I rx ry h
 obtain⟨i,j,rfl,rfl,hc,q⟩:=h
 obtain⟨t,rfl⟩:=rx
 obtain⟨t',rfl⟩:=ry
 exact rule i j t t' s _ _ hc ⟨.int (g i j),H,I.tok _,⟨_,rfl⟩,q⟩
theorem zCP{f:Value->Value->Sem Value}{g:Int->Int->Int}
  (rule:∀(i j:Int) (t u:Tok) (s:Shared) (Q:Value->Shared->Prop) (E:Value->Shared->Prop),Q (.int (g i j) s.toks) {s with toks:=s.toks+1}->wpAny (model X.prog X.w) X.A (f (.int i t) (.int j u)) Q E s):
  OpR X f (rI0 λi j=>.int (g i j)):=by
 intro pins s σ H x y v u Q I rx ry h
 obtain⟨i,j,rfl,rfl,q⟩:=h
 obtain⟨t,rfl⟩:=rx
 obtain⟨t',rfl⟩:=ry
 exact rule i j t t' s _ _ ⟨.int (g i j),H,I.tok _,⟨_,rfl⟩,q⟩
theorem sE{f:Value->Value->Sem Value}{g:Int->Int->Bool}
  (rule:∀(i j:Int) (t u:Tok) (s:Shared) (Q:Value->Shared->Prop) (E:Value->Shared->Prop),Q (.bool (g i j)) s->wpAny (model X.prog X.w) X.A (f (.int i t) (.int j u)) Q E s):
  OpR X f (rI0 λi j=>.bl (g i j)):=by
 intro pins s σ H x y v u Q I rx ry h
 obtain⟨i,j,rfl,rfl,q⟩:=h
 obtain⟨t,rfl⟩:=rx
 obtain⟨t',rfl⟩:=ry
 exact rule i j t t' s _ _ ⟨.bl (g i j),H,I,rfl,q⟩
def zK0(i j:Int):Prop:=0<j/\j<1073741824
def zC2(i j:Int):Prop:=0<=j/\j<=1000000/\i.natAbs<2 ^ 64
def CMul(i j:Int):Prop:=(-(2 ^ 64)<i/\i<2 ^ 64)\/(-(2 ^ 64)<j/\j<2 ^ 64)
theorem CMul.ok{i j:Int}(h:CMul i j):IntMulOk i j:=by
 rcases h with⟨h1,h2⟩|⟨h1,h2⟩
 ·exact .of_left (intBits_le_64 h1 h2)
 ·exact .of_right (intBits_le_64 h1 h2)
theorem op_add:OpR X (binaryOp .Add) (rI0 λi j=>.int (i+j)):=zCP λ_ _ _ _ _ _ _ q=>add_int q
theorem zH4:OpR X (binaryOp .Sub) (rI0 λi j=>.int (i-j)):=zCP λ_ _ _ _ _ _ _ q=>sub_int q
theorem op_mul:OpR X (binaryOp .Mult) (rI CMul λi j=>.int (i*j)):=opI λ_ _ _ _ _ _ _ hc q=>mul_int q hc.ok
theorem zA6:OpR X (binaryOp .FloorDiv) (rI zK0 λi j=>.int (i / j)):=opI λi j _ _ _ _ _ hc q=>by
 have h1:(0:Int)<j:=hc.1
 have h2:j<1073741824:=hc.2
 exact floordiv_int (by omega) (by rw[Int.fdiv_eq_ediv_of_nonneg i (by omega)];exact q) (.inl (PyProof.noPylong_small (by omega)))
theorem iK:OpR X (binaryOp .Mod) (rI (λ_ j=>0<j) λi j=>.int (i % j)):=opI λi j _ _ _ _ _ hc q=>by
 have h1:(0:Int)<j:=hc
 exact mod_int' (by omega) (by rw[Int.fmod_eq_emod_of_nonneg i (by omega)];exact q)
theorem zBM:OpR X (binaryOp .Pow) (rI zC2 λi j=>.int (i ^ j.toNat)):=opI λ_ _ _ _ _ _ _ hc q=>pow_int_small hc.1 hc.2.1 hc.2.2 q
theorem unI{f:Value->Sem Value}{g:Int->Int}
  (rule:∀(i:Int) (t:Tok) (s:Shared) (Q:Value->Shared->Prop) (E:Value->Shared->Prop),Q (.int (g i) s.toks) {s with toks:=s.toks+1}->wpAny (model X.prog X.w) X.A (f (.int i t)) Q E s):
  UnR X f (rU λi=>.int (g i)):=by
 intro pins s σ H x v Q I rx h
 obtain⟨i,rfl,q⟩:=h
 obtain⟨t,rfl⟩:=rx
 exact rule i t s _ _ ⟨.int (g i),H,I.tok _,⟨_,rfl⟩,q⟩
theorem zBr:UnR X (unaryOp .USub) (rU λi=>.int (-i)):=unI λ_ _ _ _ _ q=>neg_int q
end
section
variable{X:Cx}{a b c:Expr}{ta tb tc:TE}{pos:Pos}
theorem qS{pins:List (Addr×Obj)}{σ:St}{H:Hp}{s:Shared}{Q:VK}{k k':Bool}(I:Inv X pins σ H s)(q:Q (.bl k) H)(e:k=k'):EP X pins σ Q (.bool k') s:=by
 subst e
 exact⟨.bl k,H,I,rfl,q⟩
theorem op_lt:OpR X (compareOp .Lt) (rI0 λi j=>.bl (decide (i<j))):=sE λ_ _ _ _ _ _ _ q=>lt_int q
theorem zJd:OpR X (compareOp .LtE) (rI0 λi j=>.bl (decide (i<=j))):=sE λ_ _ _ _ _ _ _ q=>le_int q
theorem zJe:OpR X (compareOp .Gt) (rI0 λi j=>.bl (decide (j<i))):=sE λ_ _ _ _ _ _ _ q=>gt_int q
theorem zJf:OpR X (compareOp .GtE) (rI0 λi j=>.bl (decide (j<=i))):=sE λ_ _ _ _ _ _ _ q=>ge_int q
theorem zEy:OpR X (compareOp .Lt) (λx y H Q=>∃i j,x=.str i/\y=.str j/\Q (.bl (decide (i.cps.toList<j.cps.toList))) H):=by
 intro pins s σ H x y v u Q I rx ry h
 obtain⟨i,j,rfl,rfl,q⟩:=h
 obtain⟨t,rfl⟩:=rx
 obtain⟨t',rfl⟩:=ry
 exact lt_str (qS I q rfl)
theorem op_in_str:OpR X (compareOp .In) (λx y H Q=>∃i j,x=.str i/\y=.str j/\Q (.bl (!(Builtin.Str.occurrences j i 0 j.length 1).isEmpty)) H):=by
 intro pins s σ H x y v u Q I rx ry h
 obtain⟨i,j,rfl,rfl,q⟩:=h
 obtain⟨t,rfl⟩:=rx
 obtain⟨t',rfl⟩:=ry
 exact in_str (qS I q rfl)
theorem OpR.or{f:Value->Value->Sem Value}{r r':R2}(h:OpR X f r)(h':OpR X f r'):OpR X f (λx y H Q=>r x y H Q\/r' x y H Q):=by
 intro pins s σ H x y v u Q I rx ry q
 rcases q with q|q
 ·exact h pins s σ H x y v u Q I rx ry q
 ·exact h' pins s σ H x y v u Q I rx ry q
theorem lI(b:Expr){op:CmpOp}(h:op≠.In:=by decide)(h2:op≠.NotIn:=by decide):behindInMarks op b=false:=by
 have e1:(op==CmpOp.In)=false:=by cases op<;>first|rfl|exact absurd rfl h
 have e2:(op==CmpOp.NotIn)=false:=by cases op<;>first|rfl|exact absurd rfl h2
 cases b<;>simp[behindInMarks,e1,e2]
theorem zGA{op:CmpOp}{r:R2}(ho:OpR X (compareOp op) r)(ha:PE X a ta)(hb:PE X b tb)(hm:behindInMarks op b=false):PE X (.Compare a [op] [b] pos) (tOp r ta tb):=by
 intro pins s σ H Q I h
 exact wpAny_Compare1 (xR ha hb I h λv u s2 x y H2 I2 rx ry q=>ho pins s2 σ H2 x y v u Q I2 rx ry q) hm
def zBZ(t:TE):TT:=λσ H Q=>t σ H λx H'=>∃k,x=.bl k/\Q k H'
theorem uA{op:CmpOp}{r:R2}(ho:OpR X (compareOp op) r)(ha:PE X a ta)(hb:PE X b tb)(hm:behindInMarks op b=false):PT X (.Compare a [op] [b] pos) (zBZ (tOp r ta tb)):=by
 intro pins s σ H Q I h
 refine wpAny_isTrue_Compare1 (thn (ha pins s σ H _ I h) λv s1 ⟨x,H1,I1,r1,q1⟩=>thn (hb pins s1 σ H1 _ I1 q1) λu s2 ⟨y,H2,I2,r2,q2⟩=>
  thn (ho pins s2 σ H2 x y v u _ I2 r1 r2 q2) λc s3 ⟨z,H3,I3,r3,k,e,q3⟩=>?_) hm
 subst e
 cases r3
 exact wpAny_truthy_bool ⟨H3,I3,q3⟩
def zBy(r r':R2)(ta tb tc:TE):TE:=λσ H Q=>ta σ H λx H1=>tb σ H1 λy H2=>r x y H2 λz H3=>∃k,z=.bl k /\
 (if k=true then tc σ H3 λw' H4=>r' y w' H4 Q else Q (.bl false) H3)
theorem zFp{op op':CmpOp}{r r':R2}(ho:OpR X (compareOp op) r)(ho':OpR X (compareOp op') r')(ha:PE X a ta)(hb:PE X b tb)(hc:PE X c tc)
  (hm:lastMarks [op,op'] [b,c]=false:=by with_unfolding_all rfl):PE X (.Compare a [op,op'] [b,c] pos) (zBy r r' ta tb tc):=by
 intro pins s σ H Q I h
 refine Compare_chain (thn (ha pins s σ H _ I h) λv s1 ⟨x,H1,I1,r1,q1⟩=>chain_link (thn (hb pins s1 σ H1 _ I1 q1) λu s2 ⟨y,H2,I2,r2,q2⟩=>
  thn (ho pins s2 σ H2 x y v u _ I2 r1 r2 q2) λd s3 ⟨z,H3,I3,r3,k,e,q3⟩=>?_)) hm
 subst e
 cases r3
 refine wpAny_truthy_bool ?_
 cases k with
 |false=>exact ite_ff ⟨.bl false,H3,I3,rfl,q3⟩
 |true=>exact ite_tt (chain_last (thn (hc pins s3 σ H3 _ I3 q3) λw' s4 ⟨z',H4,I4,r4,q4⟩=>ho' pins s4 σ H4 y z' u w' Q I4 r2 r4 q4))
theorem lJ:(sizeLine:Nat)<2 ^ 63:=by rw[sizeLine_eq];decide
theorem op_add_str:OpR X (binaryOp .Add) (λx y H Q=>∃i j,x=.str i/\y=.str j/\i.length+j.length<=sizeLine/\Q (.str (i++j)) H):=by
 intro pins s σ H x y v u Q I rx ry h
 obtain⟨i,j,rfl,rfl,hz,q⟩:=h
 obtain⟨t,rfl⟩:=rx
 obtain⟨t',rfl⟩:=ry
 exact add_str (λt' tk=>⟨.str (i++j),H,I.tok _,⟨_,rfl⟩,q⟩) hz
theorem cV{x:V}{us:List Value}(r:Vals [x] us):∃u,us=[u]/\RelV x u:=by
 cases r with
 |cons r1 r2=>cases r2;exact⟨_,rfl,r1⟩
theorem lO{x y:V}{us:List Value}(r:Vals [x,y] us):∃u w',us=[u,w']/\RelV x u/\RelV y w':=by
 cases r with
 |cons r1 r2=>
  cases r2 with
  |cons r3 r4=>cases r4;exact⟨_,_,rfl,r1,r3⟩
theorem zES(hc:X.calm=true):CallR X (.builtin "max") (λxs H Q=>∃i j,xs=[.int i,.int j]/\Q (.int (if j > i then j else i)) H):=by
 intro pins s σ H xs us Q I r h
 obtain⟨i,j,rfl,q⟩:=h
 obtain⟨u,w',rfl,⟨t,rfl⟩,⟨t',rfl⟩⟩:=lO r
 refine max_two_ints (I.ok.hd hc) λh' tk k=>⟨_,H,I.kept k,?_,q⟩
 by_cases hj:j > i
 ·rw[if_pos hj,if_pos hj];exact⟨_,rfl⟩
 ·rw[if_neg hj,if_neg hj];exact⟨_,rfl⟩
theorem zEQ(hc:X.calm=true):CallR X (.builtin "min") (λxs H Q=>∃i j,xs=[.int i,.int j]/\Q (.int (if j<i then j else i)) H):=by
 intro pins s σ H xs us Q I r h
 obtain⟨i,j,rfl,q⟩:=h
 obtain⟨u,w',rfl,⟨t,rfl⟩,⟨t',rfl⟩⟩:=lO r
 refine min_two_ints (I.ok.hd hc) λh' tk k=>⟨_,H,I.kept k,?_,q⟩
 by_cases hj:j<i
 ·rw[if_pos hj,if_pos hj];exact⟨_,rfl⟩
 ·rw[if_neg hj,if_neg hj];exact⟨_,rfl⟩
theorem zEV:CallR X (.type "int") (λxs H Q=>(∃i,xs=[.int i]/\Q (.int i) H)\/∃k,xs=[.bl k]/\Q (.int (if k then 1 else 0)) H):=by
 intro pins s σ H xs us Q I r h
 rcases h with⟨i,rfl,q⟩|⟨k,rfl,q⟩
 ·obtain⟨u,rfl,t,rfl⟩:=cV r
  exact call_int_int ⟨.int i,H,I,⟨_,rfl⟩,q⟩
 ·obtain⟨u,rfl,r1⟩:=cV r
  cases r1
  exact call_int_bool ⟨.int (if k then 1 else 0),H,I.tok _,⟨_,rfl⟩,q⟩
theorem zDm:CallR X (.type "str") (λxs H Q=>∃i,xs=[.int i]/\i.natAbs.log2<1920/\Q (.str (toString i)) H):=by
 intro pins s σ H xs us Q I r h
 obtain⟨i,rfl,hz,q⟩:=h
 obtain⟨u,rfl,t,rfl⟩:=cV r
 exact PySem.P.str_of_int hz ⟨.str _,H,I.tok _,⟨_,rfl⟩,q⟩
theorem zFZ:CallR X (.builtin "ord") (λxs H Q=>∃x,xs=[.str x]/\x.length=1/\Q (.int (x.cps.getD 0 0:Nat)) H):=by
 intro pins s σ H xs us Q I r h
 obtain⟨x,rfl,hz,q⟩:=h
 obtain⟨u,rfl,t,rfl⟩:=cV r
 exact ord_of_one hz ⟨.int _,H,I.tok _,⟨_,rfl⟩,q⟩
end
end L2
namespace L2
open PySem PySem.Spec PyProof.Rows
structure ObjM (h:Heap) (x dx C:Addr) (mA:Str->Option Value):Prop where
 obj:h.get? x=some (PySem.W.instObj C dx)
 ns:h.Ns1 dx mA
 ne:dx≠x
theorem zEC{h:Heap}{dx:Addr}{mA:Str->Option Value}(n:h.Ns1 dx mA):∃od,h.get? dx=some od/\∀name,PySem.W.lookIn name od=some (mA name):=by
 obtain⟨o,es,ep,ho,hd,hk,_,hm⟩:=n
 refine⟨o,ho,λname=>?_⟩
 have e:=hm name
 unfold nsFind findBy at e
 rw[<-Array.find?_toList]at e
 unfold PySem.W.lookIn
 rw[hd]
 dsimp only
 split
 ·rename_i y q
  rw[q]at e
  exact congrArg some e
 ·rename_i q
  rw[q]at e
  have a:es.toList.any (·.refKey)=false:=by
   rw[List.any_eq_false]
   intro y hy
   obtain⟨z,t,hkey⟩:=hk y (Array.mem_toList_iff.mp hy)
   simp[DictEntry.refKey,hkey]
  have a':¬ es.toList.any (·.refKey)=true:=by rw[a];exact Bool.false_ne_true
  rw[if_neg a']
  exact congrArg some e
theorem ObjM.look{h:Heap}{x dx C:Addr}{mA:Str->Option Value}(I:ObjM h x dx C mA):∃od,PySem.W.InstAt h x (PySem.W.instObj C dx) C (some od)/\∀name,PySem.W.lookIn name od=some (mA name):=
 let ⟨od,ho,hl⟩:=zEC I.ns
 ⟨od,⟨I.obj,rfl,rfl,ho⟩,hl⟩
section
variable{prog:Program}{w:World}{A:Around}{E:Value->Shared->Prop}{s:Shared}{K:W.Frag}{x dx C f:Addr}{mA:Str->Option Value}{name:Str}{v:Value}
theorem zGV{expr:Bool}{Q:Value->Shared->Prop}(X:K.In s.heap)(I:ObjM s.heap x dx C mA)(hg:PySem.W.plainGet K C name=true)(hh:PySem.W.hasDictIn K C=true)
  (ha:PySem.W.findIn K (.ref C) name=some none) (hv:mA name=some v) (hv':PySem.W.handedIn v=true) (h:Q v {s with toks:=s.toks+1}):
  wpAny (model prog w) A (getAttr (.ref x) name expr) Q E s:=by
 obtain⟨od,J,hl⟩:=I.look
 exact PySem.W.get_value X J (PySem.W.plainGet_of hg).1 (PySem.W.findObj_own hh ha rfl (by rw[hl,hv])) hv' h
theorem zFQ{pl:Sem Bool}{Q:Value×List Value->Shared->Prop}(X:K.In s.heap)(I:ObjM s.heap x dx C mA)(hg:PySem.W.plainGet K C name=true)
  (hf:PySem.W.findIn K (.ref C) name=some (some (.ref f))) (ht:PySem.W.isFn K (.ref f)=true) (hv:mA name=none) (h:Q (.ref f,[.ref x]) s):
  wpAny (model prog w) A (getMethod (.ref x) name pl) Q E s:=by
 obtain⟨od,J,hl⟩:=I.look
 exact PySem.W.method_fn X J (PySem.W.plainGet_of hg).1 (PySem.W.plainGet_of hg).2 hf (beq_iff_eq.mp ht) (by show(PySem.W.lookIn name od).map (·.isSome)=some false;rw[hl,hv];rfl) h
theorem zGg{ns:List Str}{Q:Unit->Shared->Prop}(X:K.In s.heap)(I:ObjM s.heap x dx C mA)
  (hs:PySem.W.findIn K (.ref C) "__setattr__"=some (some (.builtin "object.__setattr__"))) (hp:PySem.W.plainOver K C=true) (ht:PySem.W.takerIn K C name=some none) (hh:PySem.W.hasDictIn K C=true)
  (hw:PySem.Within mA ns) (hsz:ns.length<=sizeLine)
  (h:∀h',ObjM h' x dx C (λy=>if y=name then some v else mA y)->Heap.SameBut dx s.heap h'->Q () {s with heap:=h',toks:=s.toks+2}):
  wpAny (model prog w) A (setAttr (.ref x) name v) Q E s:=by
 obtain⟨od,J,hl⟩:=I.look
 refine PySem.W.set_plain X J hs (PySem.W.osa_open (s:={s with toks:=s.toks+1}) (r:=none) X J hp ht λb=>?_)
 obtain⟨cd,hc,hd'⟩:=PySem.W.any_some hh
 have hx:s.heap.get? x=some ⟨.ref C,some dx,.plain,#[]⟩:=I.obj
 refine wpAny_bind (wpAny_pure (wpAny_bind (wpAny_bind (wpAny_loadPart hx (wpAny_bind (PySem.W.Looks.here (s:={s with toks:=s.toks+1}) (PySem.W.looks_clsIn X hc) ?_))))))
 rw[hd']
 refine wpAny_pure (a:=some dx) (wpAny_bind (wpAny_pure (wpAny_bind ?_)))
 refine wpAny_nsSet1 (s:={s with toks:=s.toks+1}) I.ns λh' hn2 hs2=>?_
 obtain⟨oD,esD,epD,hoD,hdD,hcD⟩:=hn2.count (PySem.Within.cons name v hw)
 refine wpAny_bind (wpAny_lookBehind hoD (by rw[hdD];exact pastItsLine_dict (Nat.le_trans hcD (by rw[List.length_cons];omega))) ?_)
 exact wpAny_pure (h _ ⟨(hs2.2 _ (Ne.symm I.ne)).trans I.obj,hn2,I.ne⟩ hs2)
theorem zFF{R:Result->Shared->Prop}{vs:List Value}{kw:List (Str×Value)}(X:K.In s.heap)(hm:PySem.W.makesIn K C=true)
  (hi:PySem.W.findIn K (.ref C) "__init__"=some (some (.ref f))) (hf:PySem.W.typeIn K (.ref f)=some (.type "function"))
  (h:codeAny (model prog w) (A.under (.builtin "type.__call__" ⟨.ref C::vs,kw⟩)) (.call (.ref f) ⟨.ref (s.heap.objs.size+1)::vs,kw⟩) (PySem.W.InitBack (s.heap.objs.size+1) R)
   {s with heap:=(s.heap.push PySem.W.emptyDict).push (PySem.W.instObj C s.heap.objs.size)}):
  codeAny (model prog w) A (.call (.ref C) ⟨vs,kw⟩) R s:=by
 obtain⟨hh,g,d,t,os⟩:=s
 exact PySem.W.make_core (PySem.W.makes_of X hm) (PySem.W.looks_findIn X hi) (λself=>PySem.W.bind_fn X self hf) (.inl rfl) h
end
def eF(f:Str)(v:V):List (Str×V)->List (Str×V)
 |[]=>[(f,v)]
 |(g,x)::r=>if g=f then(g,v)::r else(g,x)::eF f v r
theorem yH(f g:Str)(v:V):∀fs:List (Str×V),(eF f v fs).lookup g=if g=f then some v else fs.lookup g
 |[]=>by
  show List.lookup g [(f,v)]=_
  by_cases h:g=f
  ·have hb:(g==f)=true:=beq_iff_eq.mpr h
   simp only[List.lookup,hb,if_pos h]
  ·have hb:(g==f)=false:=beq_eq_false_iff_ne.mpr h
   simp only[List.lookup,hb,if_neg h]
 |(k,x)::r=>by
  have ih:=yH f g v r
  rw[show eF f v ((k,x)::r)=(if k=f then(k,v)::r else(k,x)::eF f v r) from rfl]
  by_cases hk:k=f
  ·rw[if_pos hk]
   by_cases h:g=k
   ·have hb:(g==k)=true:=beq_iff_eq.mpr h
    simp only[List.lookup,hb,if_pos (h.trans hk)]
   ·have hb:(g==k)=false:=beq_eq_false_iff_ne.mpr h
    simp only[List.lookup,hb,if_neg (λe:g=f=>h (e.trans hk.symm))]
  ·rw[if_neg hk]
   by_cases h:g=k
   ·have hb:(g==k)=true:=beq_iff_eq.mpr h
    simp only[List.lookup,hb,if_neg (λe:g=f=>hk (h.symm.trans e))]
   ·have hb:(g==k)=false:=beq_eq_false_iff_ne.mpr h
    simp only[List.lookup,hb]
    exact ih
theorem sZ(f:Str)(v:V):∀fs:List (Str×V),f∈(eF f v fs).map (·.1)/\∀g,g∈fs.map (·.1)->g∈(eF f v fs).map (·.1)
 |[]=>⟨by simp[eF],λg h=>by simp at h⟩
 |(k,x)::r=>by
  obtain⟨i1,i2⟩:=sZ f v r
  rw[show eF f v ((k,x)::r)=(if k=f then(k,v)::r else(k,x)::eF f v r) from rfl]
  by_cases hk:k=f
  ·rw[if_pos hk]
   subst hk
   exact⟨by simp,λg h=>by simpa using h⟩
  ·rw[if_neg hk]
   refine⟨?_,λg h=>?_⟩
   ·rw[List.map_cons]
    exact List.mem_cons_of_mem _ i1
   ·rw[List.map_cons]at h ⊢
    rcases List.mem_cons.mp h with e|e
    ·exact List.mem_cons.mpr (.inl e)
    ·exact List.mem_cons_of_mem _ (i2 g e)
theorem yI(f:Str)(v:V):∀fs:List (Str×V),(eF f v fs).length<=fs.length+1
 |[]=>by simp[eF]
 |(k,x)::r=>by
  have ih:=yI f v r
  rw[show eF f v ((k,x)::r)=(if k=f then(k,v)::r else(k,x)::eF f v r) from rfl]
  by_cases hk:k=f
  ·rw[if_pos hk,List.length_cons,List.length_cons];omega
  ·rw[if_neg hk,List.length_cons,List.length_cons];omega
theorem RelO.some_of{v:V}{o:Option Value}(r:RelO (some v) o):∃u,o=some u/\RelV v u:=by
 cases o with
 |none=>exact(show False from r).elim
 |some u=>exact⟨u,rfl,r⟩
theorem RelO.none_of{o:Option Value}(r:RelO none o):o=none:=by
 cases o with
 |none=>rfl
 |some u=>exact(show False from r).elim
theorem zEK{v:V}{u:Value}(r:RelV v u):PySem.W.handedIn u=true:=by
 cases v with
 |non=>cases (show u=Value.none from r);rfl
 |bl b=>cases (show u=Value.bool b from r);rfl
 |int i=>obtain⟨t,e⟩:=(show ∃t,u=Value.int i t from r);cases e;rfl
 |str x=>obtain⟨t,e⟩:=(show ∃t,u=Value.str x t from r);cases e;rfl
 |byt b=>obtain⟨t,e⟩:=(show ∃t,u=Value.bytes b t from r);cases e;rfl
 |flt b=>obtain⟨t,e⟩:=(show ∃t,u=Value.float b t from r);cases e;rfl
 |ref a=>cases (show u=Value.ref a from r);rfl
 |ty n=>cases (show u=Value.type n from r);rfl
section
variable{P:Program}{w:World}{H H':Hp}{h h':Heap}{a C dx:Addr}{fs fs':List (Str×V)}
theorem uJ(hok:HOk P w H h)(e:H a=some (.ins C dx fs)):∃mA,ObjM h a dx C mA/\(∀f,RelO (fs.lookup f) (mA f))/\PySem.Within mA (fs.map (·.1))/\fs.length<=1000/\H dx=some (.own a):=by
 obtain⟨d,z,ne,ob,mA,n,r,q⟩:=(show ObjOk P w H h a (.ins C dx fs) from hok a _ e)
 exact⟨mA,⟨ob,n,ne⟩,r,q,z,d⟩
end
structure Cls (K:W.Frag) (C:Addr):Prop where
 pg:PySem.W.plainGet K C Str.empty=true
 hd:PySem.W.hasDictIn K C=true
 po:PySem.W.plainOver K C=true
 sa:PySem.W.findIn K (.ref C) "__setattr__"=some (some (.builtin "object.__setattr__"))
theorem Cls.get{K:W.Frag}{C:Addr}(c:Cls K C)(f:Str):PySem.W.plainGet K C f=true:=c.pg
def NoAttr(K:W.Frag)(C:Addr)(f:Str):Prop:=PySem.W.findIn K (.ref C) f=some none
theorem NoAttr.taker{K:W.Frag}{C:Addr}{f:Str}(n:NoAttr K C f):PySem.W.takerIn K C f=some none:=by
 unfold PySem.W.takerIn
 rw[show PySem.W.findIn K (.ref C) f=some none from n]
 rfl
structure oM (K:W.Frag) (C:Addr) (m:Str) (f:Addr):Prop where
 at_:PySem.W.findIn K (.ref C) m=some (some (.ref f))
 fn:PySem.W.isFn K (.ref f)=true
 kp:W.keepIn K (.ref f)=true
section
variable{X:Cx}{pins:List (Addr×Obj)}{σ:St}{H:Hp}{s:Shared}{a C dx:Addr}{fs:List (Str×V)}{f:Str}{v:V}{A:Around}{E:Value->Shared->Prop}
theorem zDZ{b:Bool}{Q:Value->Shared->Prop}(I:Inv X pins σ H s)(e:H a=some (.ins C dx fs))(c:Cls X.K C)(n:NoAttr X.K C f)(l:fs.lookup f=some v)
  (h:∀u s',Inv X pins σ H s'->RelV v u->Q u s'):wpAny (model X.prog X.w) A (getAttr (.ref a) f b) Q E s:=by
 obtain⟨mA,O,r,_,_,_⟩:=uJ I.hok e
 obtain⟨u,hu,ru⟩:=RelO.some_of (v:=v) (o:=mA f) (by rw[<-l];exact r f)
 exact zGV I.kIn O (c.get f) c.hd n hu (zEK ru) (h u _ (I.tok _) ru)
theorem yP{m:Str}{g:Addr}{pl:Sem Bool}{Q:Value×List Value->Shared->Prop}(I:Inv X pins σ H s)(e:H a=some (.ins C dx fs))(c:Cls X.K C)(k:oM X.K C m g)(l:fs.lookup m=none)
  (h:Q (.ref g,[.ref a]) s):wpAny (model X.prog X.w) A (getMethod (.ref a) m pl) Q E s:=by
 obtain⟨mA,O,r,_,_,_⟩:=uJ I.hok e
 have hn:mA m=none:=RelO.none_of (by rw[<-l];exact r m)
 exact zFQ I.kIn O (c.get m) k.at_ k.fn hn h
theorem zDJ{y:V}{u:Value}{Q:Unit->Shared->Prop}(I:Inv X pins σ H s)(e:H a=some (.ins C dx fs))(c:Cls X.K C)(n:NoAttr X.K C f)(hl:fs.length<1000)(ry:RelV y u)
  (h:∀s',Inv X pins σ (upd H a (.ins C dx (eF f y fs))) s'->Q () s'):wpAny (model X.prog X.w) A (setAttr (.ref a) f u) Q E s:=by
 obtain⟨mA,O,r,wi,_,ho⟩:=uJ I.hok e
 have hz:(fs.map (·.1)).length<=sizeLine:=by rw[List.length_map,sizeLine_eq];omega
 refine zGg I.kIn O c.sa c.po n.taker c.hd wi hz λh' O' sb=>h _ ?_
 have hd:∃o,h'.get? dx=some o:=let ⟨o,_,_,e',_⟩:=O'.ns;⟨o,e'⟩
 refine I.write (x:=a) (e:=dx) (by rw[e];exact True.intro) (.inr ho) (λb q hb z=>(sb.2 b hb).trans z) hd ?_
 refine⟨by rw[bD O.ne];exact ho,?_,O.ne,O'.obj,_,O'.ns,λg=>?_,λg hg=>?_⟩
 ·have:=yI f y fs;omega
 ·show RelO ((eF f y fs).lookup g) (if g=f then some u else mA g)
  rw[yH]
  by_cases q:g=f
  ·rw[if_pos q,if_pos q];exact ry
  ·rw[if_neg q,if_neg q];exact r g
 ·by_cases q:g=f
  ·rw[q];exact(sZ f y fs).1
  ·refine(sZ f y fs).2 g (wi g λz=>hg ?_)
   show(if g=f then some u else mA g)=none
   rw[if_neg q];exact z
theorem Inv.made(I:Inv X pins σ H s):Inv X pins σ (upd (upd H s.heap.objs.size (.own (s.heap.objs.size+1))) (s.heap.objs.size+1) (.ins C s.heap.objs.size []))
  {s with heap:=(s.heap.push PySem.W.emptyDict).push (PySem.W.instObj C s.heap.objs.size)}:=by
 have e1:(s.heap.push PySem.W.emptyDict).get? s.heap.objs.size=some PySem.W.emptyDict:=Heap.get?_push_size s.heap rfl
 have e2:((s.heap.push PySem.W.emptyDict).push (PySem.W.instObj C s.heap.objs.size)).get? (s.heap.objs.size+1)=some (PySem.W.instObj C s.heap.objs.size):=by
  have:=Heap.get?_push_size (s.heap.push PySem.W.emptyDict) (o:=PySem.W.instObj C s.heap.objs.size) rfl
  rwa[Heap.size_push]at this
 have e3:(s.heap.push PySem.W.emptyDict).Ns s.heap.objs.size (λ_=>none):=⟨PySem.W.emptyDict,#[],_,e1,rfl,(λe he=>absurd he (by simp)),λ_=>rfl⟩
 have I1:=I.laid (a:=s.heap.objs.size) (o:=.own (s.heap.objs.size+1)) (h':=s.heap.push PySem.W.emptyDict) (t':=s.toks) (λb u q=>Heap.get?_push_of_some _ q) (Nat.le_refl _) ⟨_,e1⟩
 refine I1.laid (a:=s.heap.objs.size+1) (o:=.ins C s.heap.objs.size []) (t':=s.toks) (λb u q=>Heap.get?_push_of_some _ q) (Nat.le_of_eq (Heap.size_push _ _)) ?_
 have ne:s.heap.objs.size≠s.heap.objs.size+1:=Nat.ne_of_lt (Nat.lt_succ_self _)
 refine⟨by rw[bD ne,bF],Nat.zero_le _,ne,e2,λ_=>none,(Heap.Ns1.of_empty e3).at λo q=>Heap.get?_push_of_some _ q,λ_=>True.intro,λy hy=>absurd rfl hy⟩
theorem zG4{prog:Program}{w:World}{env:Env}{e:Expr}{f:Str}{pos:Pos}{s:Shared}{Q:Value->Shared->Prop}(hb:attributeBase e f env (eval e env)=eval e env)
  (h:wpAny (model prog w) A (eval e env) (λo s₁=>wpAny (model prog w) A (getAttr o f true) Q E s₁) E s):wpAny (model prog w) A (eval (.Attribute e f pos) env) Q E s:=
 Attribute_any_ h (by rw[arm_eval_Attribute,hb])
end
def zJF(K:W.Frag)(ta:TE)(f:Str):TE:=λσ H Q=>ta σ H λx H1=>∃a C dx fs v,x=.ref a/\H1 a=some (.ins C dx fs)/\Cls K C/\NoAttr K C f/\fs.lookup f=some v/\Q v H1
def wP(K:W.Frag)(ta tv:TE)(f:Str):TS:=λD σ H=>tv σ H λy H1=>ta σ H1 λx H2=>∃a C dx fs,x=.ref a/\H2 a=some (.ins C dx fs)/\Cls K C/\NoAttr K C f/\fs.length<1000 /\
 D.nx σ (upd H2 a (.ins C dx (eF f y fs)))
section
variable{X:Cx}{o e value:Expr}{f:Str}{pos pos' tpos:Pos}{ta tv:TE}
theorem zBL(he:PE X e ta)(hb:attributeBase e f X.env (eval e X.env)=eval e X.env):PE X (.Attribute e f pos) (zJF X.K ta f):=by
 intro pins s σ H Q I h
 refine zG4 hb (thn (he pins s σ H _ I h) λu s1 ⟨x,H1,I1,rx,a,C,dx,fs,v,ex,ea,c,n,l,q⟩=>?_)
 subst ex
 obtain rfl:u=Value.ref a:=rx
 exact zDZ I1 ea c n l λu' s2 I2 ru=>⟨v,H1,I2,ru,q⟩
theorem vE(ha:PE X o ta)(hv:PE X value tv)(hs:swapsWith value (some (.Attribute o f pos')) pos.line X.env=pure false):PS X (.Assign [.Attribute o f pos'] value pos) (wP X.K ta tv f):=by
 intro pins s σ H D I h
 refine plainObj_wpAny_Assign_Attribute (thn (hv pins s σ H _ I h) λu s1 ⟨y,H1,I1,ry,q⟩=>thn (ha pins s1 σ H1 _ I1 q) λov s2 ⟨x,H2,I2,rx,a,C,dx,fs,ex,ea,c,n,l,q2⟩=>?_) hs
 subst ex
 obtain rfl:ov=Value.ref a:=rx
 exact zDJ I2 ea c n l ry λs3 I3=>⟨σ,_,I3,q2⟩
end
end L2
namespace L2
open PySem PySem.Spec PyProof.Rows
structure Room (k:Nat) (A:Around):Prop where
 hd:A.handled=none
 dp:A.depth+3*k+5<recursionLimit
 un:A.units+16*k+200<cLine
 gd:A.guards=some []
theorem Room.mono{j k:Nat}{A:Around}(r:Room k A)(h:j<=k):Room j A:=⟨r.hd,by have:=r.dp;omega,by have:=r.un;omega,r.gd⟩
theorem Room.deeper{k:Nat}{A:Around}(r:Room (k+1) A)(env:Env):Room k (A.deeper env):=
 ⟨r.hd,by have:=r.dp;show A.depth+1+3*k+5<_;omega,by have:=r.un;show A.units+3+16*k+200<_;omega,r.gd⟩
theorem zDV{A:Around}{C:Addr}{us:List Value}{kw:List (Str×Value)}:(A.under (.builtin "type.__call__" ⟨.ref C::us,kw⟩)).depth=A.depth+1:=by
 first|rfl|simp[Around.under,Code.weight,Code.isCreation,Code.isGuard,Code.isCaller,Code.frames,Code.isFrame,guardIds]
theorem zDU{A:Around}{C:Addr}{us:List Value}{kw:List (Str×Value)}:(A.under (.builtin "type.__call__" ⟨.ref C::us,kw⟩)).units=A.units+1:=by
 first|rfl|simp[Around.under,Code.cUnits,Code.frames,Code.isFrame]
theorem Room.make{k:Nat}{A:Around}(r:Room (k+1) A)(C:Addr)(us:List Value)(kw:List (Str×Value)):Room k (A.under (.builtin "type.__call__" ⟨.ref C::us,kw⟩)):=
 ⟨r.hd,by have:=r.dp;rw[zDV];omega,by have:=r.un;rw[zDU];omega,r.gd⟩
theorem Room.depth{k:Nat}{A:Around}(r:Room k A):A.depth<recursionLimit:=by have:=r.dp;omega
theorem Room.units{k:Nat}{A:Around}(r:Room k A):A.units+64<cLine:=by have:=r.un;omega
def oG:TA:=λ_ H Q=>Q [] H
def vT(ta:TE)(tr:TA):TA:=λσ H Q=>ta σ H λx H1=>tr σ H1 λxs H2=>Q (x::xs) H2
section
variable{X:Cx}{e:Expr}{es:List Expr}{te:TE}{t:TA}{pos:Pos}
theorem eR:PA X [] oG:=λ_ _ _ _ H Q I h=>Calls.spliced_nil ⟨[],H,I,.nil,h⟩
theorem zGC(ha:PE X e te)(hr:PA X es t)(hs:starEach (e::es) X.env=(false,eval e X.env)::starEach es X.env:=by rfl):PA X (e::es) (vT te t):=by
 intro pos pins s σ H Q I h
 rw[hs]
 show wpAny _ _ (spliced ((false,eval e X.env)::backTo pos (starEach es X.env))) _ _ s
 refine Calls.spliced_cons (thn (ha pins s σ H _ I h) λu s1 ⟨x,H1,I1,r1,q1⟩=>?_)
 exact thn (hr pos pins s1 σ H1 _ I1 q1) λus s2 ⟨xs,H2,I2,r2,q2⟩=>⟨x::xs,H2,I2,.cons r1 r2,q2⟩
def zJz(t:TA):TE:=λσ H Q=>t σ H λxs H1=>xs.length<=sizeLine/\∀p,H1 p=none->Q (.ref p) (upd H1 p (.tup xs))
def zCn(t:TA):TE:=λσ H Q=>t σ H λxs H1=>xs.length<=sizeLine/\∀p,H1 p=none->Q (.ref p) (upd H1 p (.lst xs))
theorem zHP{x1}(h:PA X es t):PE X (.Tuple es x1 pos) (zJz t):=by
 intro pins s σ H Q I hq
 refine wpAny_Tuple_spliced (thn (h pos pins s σ H _ I hq) λus s1 ⟨xs,H1,I1,r,z,q⟩=>⟨by rw[<-r.length];exact z,?_⟩)
 have hf:H1 s1.heap.objs.size=none:=I1.hok.fresh (Nat.le_refl _)
 refine⟨.ref s1.heap.objs.size,upd H1 s1.heap.objs.size (.tup xs),I1.laid (t':=s1.toks) (λb u e=>Heap.get?_push_of_some _ e) (Nat.le_refl _) ?_,rfl,q _ hf⟩
 exact⟨z,us,r,⟨_,Heap.get?_push_size _ rfl,rfl,_,rfl⟩⟩
theorem zBK(h:PA X es t):PE X (.List es pos) (zCn t):=by
 intro pins s σ H Q I hq
 refine wpAny_List_spliced (thn (h pos pins s σ H _ I hq) λus s1 ⟨xs,H1,I1,r,z,q⟩=>⟨by rw[<-r.length];exact z,?_⟩)
 have hf:H1 s1.heap.objs.size=none:=I1.hok.fresh (Nat.le_refl _)
 refine⟨.ref s1.heap.objs.size,upd H1 s1.heap.objs.size (.lst xs),I1.laid (t':=s1.toks) (λb u e=>Heap.get?_push_of_some _ e) (Nat.le_refl _) ?_,rfl,q _ hf⟩
 exact⟨z,us,0,r,Heap.get?_push_size _ rfl⟩
end
abbrev Sp:=List V->Hp->VK->XK->Prop
abbrev CXT:=List Env->Hp->Shared->XK->Value->Shared->Prop
structure Env0 (P:Program) (w:World) (K:W.Frag) (mg:Str->Option Value) (base:Heap) (A:Around) (outer:List Env) (s:Shared) (H:Hp):Prop where
 frames:A.frames=some outer
 mod:Mod K mg base
 bs:∀b o,base.get? b=some o->s.heap.get? b=some o/\H b=none
 bsz:base.objs.size<=s.heap.objs.size
 funs:s.heap.FunFrames base outer
 frf:∀b∈frs outer,H b=none
 hok:HOk P w H s.heap
 bare:AllBare s.gens
def CE(outer:List Env)(P:Program)(w:World)(H:Hp)(s:Shared)(Q:VK)(u:Value)(s':Shared):Prop:=
 ∃v H',s'.os=s.os/\AllBare s'.gens/\Un (frs outer) [] H H' s.heap s'.heap/\HOk P w H' s'.heap/\RelV v u/\Q v H'
def CR(CX:CXT)(outer:List Env)(P:Program)(w:World)(H:Hp)(s:Shared)(Q:VK)(E:XK)(r:Result)(s':Shared):Prop:=
 match r with
 |.ok (.ret u)=>CE outer P w H s Q u s'
 |.ok _=>False
 |.error e=>CX outer H s E e s'
structure FnOk (P:Program) (w:World) (K:W.Frag) (mg:Str->Option Value) (base:Heap) (CX:CXT) (k:Nat) (f:Addr) (fd:FuncData) (ps:List Str) (sp:Sp):Prop where
 len:∀vs H Q E,sp vs H Q E->vs.length=ps.length
 run:∀(A:Around) (outer:List Env) (s:Shared) (H:Hp) (args:Args) (us:List Value) (vs:List V) (Q:VK) (E:XK),Room k A->Env0 P w K mg base A outer s H->BindsTo s fd args (ps.zip us)->Vals vs us->sp vs H Q E ->
  codeAny (model P w) A (.call (.ref f) args) (CR CX outer P w H s Q E) s
theorem FnOk.imp{P:Program}{w:World}{K:W.Frag}{mg:Str->Option Value}{base:Heap}{CX:CXT}{k:Nat}{f:Addr}{fd:FuncData}{ps:List Str}{sp sp':Sp}(F:FnOk P w K mg base CX k f fd ps sp)
  (h:∀vs H Q E,sp' vs H Q E->sp vs H Q E):FnOk P w K mg base CX k f fd ps sp':=
 ⟨λvs H Q E q=>F.len vs H Q E (h _ _ _ _ q),λA outer s H args us vs Q E hr he hb hv hs=>F.run A outer s H args us vs Q E hr he hb hv (h _ _ _ _ hs)⟩
theorem Env0.make{P:Program}{w:World}{K:W.Frag}{mg:Str->Option Value}{base:Heap}{A:Around}{outer:List Env}{s:Shared}{H:Hp}(e:Env0 P w K mg base A outer s H)(C:Addr)(us:List Value)(kw:List (Str×Value)):
  Env0 P w K mg base (A.under (.builtin "type.__call__" ⟨.ref C::us,kw⟩)) outer s H:=⟨by first|exact e.frames|(simpa[Around.under,Code.envs,Code.isFrame,pushEnvs]using e.frames),e.mod,e.bs,e.bsz,e.funs,e.frf,e.hok,e.bare⟩
section
variable{X:Cx}{pins:List (Addr×Obj)}{σ:St}{H:Hp}{s s':Shared}
theorem Inv.env0(I:Inv X pins σ H s):Env0 X.prog X.w X.K X.mg X.base X.A X.stack s H:=
 ⟨I.ok.frames,I.ok.mod,I.bs,Nat.le_trans I.ok.bsz I.sz,I.stack,I.stkFree,I.hok,I.bare⟩
theorem Inv.after{Q:VK}{u:Value}(I:Inv X pins σ H s)(h:CE X.stack X.prog X.w H s Q u s'):EP X pins σ Q u s':=by
 obtain⟨v,H',os,bare,un,hok,r,q⟩:=h
 obtain⟨hh,g,d,t,os'⟩:=s'
 obtain rfl:os'=s.os:=os
 exact⟨v,H',I.call (h':=hh) (g':=g) (d':=d) (t':=t) (ch:=[]) un hok bare (λb z=>absurd z (by simp)),r,q⟩
end
def lR(sp:Sp)(dvs:List V)(E:XK)(t:TA):TE:=λσ H Q=>t σ H λvs H1=>sp (vs++dvs) H1 Q E
def vS(C:Addr)(m:Str)(sp:Sp)(dvs:List V)(E:XK)(ta:TE)(t:TA):TE:=λσ H Q=>ta σ H λx H1=>∃a dx fs,x=.ref a/\H1 a=some (.ins C dx fs)/\fs.lookup m=none /\
 t σ H1 λvs H2=>sp (x::(vs++dvs)) H2 Q E
def zIR(C:Addr)(sp:Sp)(dvs:List V)(E:XK)(t:TA):TE:=λσ H Q=>t σ H λvs H1=>∀x dx,H1 x=none->H1 dx=none->dx≠x ->
 sp (.ref x::(vs++dvs)) (upd (upd H1 dx (.own x)) x (.ins C dx [])) (λv H2=>v=.non/\Q (.ref x) H2) E
def Binds(K:W.Frag)(fd:FuncData)(ps:List Str)(ds:List Value):Prop:=
 ∀(s:Shared) (us:List Value),K.In s.heap->(us++ds).length=ps.length->BindsTo s fd ⟨us,[]⟩ (ps.zip (us++ds))
theorem Binds.all{K:W.Frag}{fd:FuncData}{ps:List Str}(h:∀us:List Value,us.length=ps.length->bindArgs fd ⟨us,[]⟩=pure (ps.zip us)):Binds K fd ps []:=λs us _ hl=>by
 rw[List.append_nil]at hl ⊢
 exact .of_eq (h us hl)
def iM(CX:CXT)(X:Cx)(E:XK):Prop:=∀(pins:List (Addr×Obj)) (σ:St) (H:Hp) (s:Shared) (e:Value) (s':Shared),Inv X pins σ H s->CX X.stack H s E e s'->X.xe e s'
section
variable{X:Cx}{CX:CXT}{k:Nat}{f C:Addr}{fd:FuncData}{ps:List Str}{sp:Sp}{dvs:List V}{ds:List Value}{E:XK}{x m:Str}{p pos apos:Pos}{e o:Expr}{es:List Expr}{ta:TE}{t:TA}
theorem nA{pins:List (Addr×Obj)}{σ:St}{H:Hp}{s:Shared}{Q:VK}{us:List Value}{vs:List V}(F:FnOk X.prog X.w X.K X.mg X.base CX k f fd ps sp)(hr:Room k X.A)(hb:Binds X.K fd ps ds)(hd:Vals dvs ds)(hx:iM CX X E)
  (I:Inv X pins σ H s) (r:Vals vs us) (h:sp (vs++dvs) H Q E):wpAny (model X.prog X.w) X.A (call (.ref f) us) (EP X pins σ Q) X.xe s:=by
 have r2:Vals (vs++dvs) (us++ds):=r.append hd
 have hl:(us++ds).length=ps.length:=by rw[<-r2.length];exact F.len _ _ _ _ h
 refine wpAny_call (codeAny_mono (F.run X.A X.stack s H ⟨us,[]⟩ (us++ds) (vs++dvs) Q E hr I.env0 (hb s us I.kIn hl) r2 h) λr s' hq=>?_)
 cases r with
 |error e=>exact hx pins σ H s e s' I hq
 |ok fl=>
  cases fl with
  |ret u=>exact I.after hq
  |next=>exact False.elim hq
  |brk=>exact False.elim hq
  |cont=>exact False.elim hq
theorem zGB(F:FnOk X.prog X.w X.K X.mg X.base CX k f fd ps sp)(hr:Room k X.A)(hg:Gl X x)(hm:X.mg x=some (.ref f))(hk:W.keepIn X.K (.ref f)=true)(hb:Binds X.K fd ps ds)(hd:Vals dvs ds)(hx:iM CX X E)
  (ha:PA X (e::es) t) (hdb:(x==("__debug__":Str))=false:=by decide) (he:starEach (e::es) X.env=(false,eval e X.env)::starEach es X.env:=by rfl) (hpl:(backTo pos (starEach es X.env)).any (·.1)=false:=by rfl):
  PE X (.Call (.Name x p) (e::es) [] pos) (lR sp dvs E t):=by
 intro pins s σ H Q I h
 refine wpAny_Call_Name_kw (pY I hg hm ?_ hdb)
 refine PySem.W.callWith_K (h₀:=X.base) I.ok.mod.kin hk (thn (ha pos pins s σ H _ I h) λus s1 ⟨vs,H1,I1,r,q⟩=>⟨I1.kIn,?_⟩) he hpl
 exact nA F hr hb hd hx I1 r q
theorem zFr(F:FnOk X.prog X.w X.K X.mg X.base CX k f fd ps sp)(hr:Room k X.A)(hg:Gl X x)(hm:X.mg x=some (.ref f))(hk:W.keepIn X.K (.ref f)=true)(hb:Binds X.K fd ps ds)(hd:Vals dvs ds)(hx:iM CX X E)
  (hdb:(x==("__debug__":Str))=false:=by decide):PE X (.Call (.Name x p) [] [] pos) (lR sp dvs E oG):=by
 intro pins s σ H Q I h
 refine wpAny_Call_Name_kw (pY I hg hm ?_ hdb)
 exact PySem.W.callWith_K0 I.kIn hk (nA (us:=[]) F hr hb hd hx I .nil h)
theorem zGx{pl:Sem Bool}(he:PE X o ta)(c:Cls X.K C)(hm:oM X.K C m f)(F:FnOk X.prog X.w X.K X.mg X.base CX k f fd ps sp)(hr:Room k X.A)(hb:Binds X.K fd ps ds)(hd:Vals dvs ds)(hx:iM CX X E)(ha:PA X (e::es) t)
  (hst:starEach (e::es) X.env=(false,eval e X.env)::starEach es X.env:=by rfl) (hpl:(backTo pos (starEach es X.env)).any (·.1)=false:=by rfl)
  (ht:eval (.Call (.Attribute o m apos) (e::es) [] pos) X.env=(do
   let ov <- eval o X.env
   standAt apos.atName
   let (f,first) <- holding [ov] (getMethod ov m pl)
   callWith pos f first (backTo pos (starEach (e::es) X.env)) (backToKw pos (keywordEach [] X.env))):=by rfl):
  PE X (.Call (.Attribute o m apos) (e::es) [] pos) (vS C m sp dvs E ta t):=by
 intro pins s σ H Q I h
 refine PySem.W.methodCall_KW (pl:=pl) (thn (he pins s σ H _ I h) λu s1 ⟨x,H1,I1,rx,a,dx,fs,ex,ea,l,q⟩=>?_) ht
 subst ex
 obtain rfl:u=Value.ref a:=rx
 refine yP I1 ea c hm l ?_
 refine PySem.W.callWith_K (first:=[.ref a]) (h₀:=X.base) I.ok.mod.kin hm.kp (thn (ha pos pins s1 σ H1 _ I1 q) λus s2 ⟨vs,H2,I2,r,q2⟩=>⟨I2.kIn,?_⟩) hst hpl
 exact nA (us:=.ref a::us) (vs:=.ref a::vs) F hr hb hd hx I2 (.cons rfl r) q2
theorem zFn{pl:Sem Bool}(he:PE X o ta)(c:Cls X.K C)(hm:oM X.K C m f)(F:FnOk X.prog X.w X.K X.mg X.base CX k f fd ps sp)(hr:Room k X.A)(hb:Binds X.K fd ps ds)(hd:Vals dvs ds)(hx:iM CX X E)
  (ht:eval (.Call (.Attribute o m apos) [] [] pos) X.env=(do
   let ov <- eval o X.env
   standAt apos.atName
   let (f,first) <- holding [ov] (getMethod ov m pl)
   callWith pos f first (backTo pos (starEach [] X.env)) (backToKw pos (keywordEach [] X.env))):=by rfl):
  PE X (.Call (.Attribute o m apos) [] [] pos) (vS C m sp dvs E ta oG):=by
 intro pins s σ H Q I h
 refine PySem.W.methodCall_KW (pl:=pl) (thn (he pins s σ H _ I h) λu s1 ⟨x,H1,I1,rx,a,dx,fs,ex,ea,l,q⟩=>?_) ht
 subst ex
 obtain rfl:u=Value.ref a:=rx
 refine yP I1 ea c hm l ?_
 exact PySem.W.callWith_K0 (first:=[.ref a]) I1.kIn hm.kp (nA (us:=[.ref a]) (vs:=[.ref a]) F hr hb hd hx I1 (.cons rfl .nil) q)
structure Mk (K:W.Frag) (C f:Addr):Prop where
 makes:PySem.W.makesIn K C=true
 init:PySem.W.findIn K (.ref C) "__init__"=some (some (.ref f))
 fn:PySem.W.isFn K (.ref f)=true
 kp:W.keepIn K (.ref C)=true
theorem zE9{pins:List (Addr×Obj)}{σ:St}{H:Hp}{s:Shared}{Q:VK}{us:List Value}{vs:List V}(M:Mk X.K C f)(F:FnOk X.prog X.w X.K X.mg X.base CX k f fd ps sp)(hr:Room (k+1) X.A)(hb:Binds X.K fd ps ds)(hd:Vals dvs ds)
  (hx:iM CX X E) (I:Inv X pins σ H s) (r:Vals vs us)
  (h:∀x dx,H x=none->H dx=none->dx≠x->sp (.ref x::(vs++dvs)) (upd (upd H dx (.own x)) x (.ins C dx [])) (λv H2=>v=.non/\Q (.ref x) H2) E):
  wpAny (model X.prog X.w) X.A (call (.ref C) us) (EP X pins σ Q) X.xe s:=by
 have hq:=h (s.heap.objs.size+1) s.heap.objs.size (I.hok.fresh (Nat.le_succ _)) (I.hok.fresh (Nat.le_refl _)) (Nat.ne_of_lt (Nat.lt_succ_self _))
 have I2:=Inv.made (C:=C) I
 have r2:Vals (V.ref (s.heap.objs.size+1)::(vs++dvs)) (Value.ref (s.heap.objs.size+1)::(us++ds)):=.cons rfl (r.append hd)
 have hl:(Value.ref (s.heap.objs.size+1)::us++ds).length=ps.length:=by
  have e:=r2.length
  rw[F.len _ _ _ _ hq]at e
  exact e.symm
 refine wpAny_call (zFF (f:=f) I.kIn M.makes M.init (beq_iff_eq.mp M.fn) (codeAny_mono (F.run _ X.stack _ _ ⟨Value.ref (s.heap.objs.size+1)::us,[]⟩ (Value.ref (s.heap.objs.size+1)::(us++ds)) _ _ E (hr.make C us [])
  (I2.env0.make C us []) (hb _ (Value.ref (s.heap.objs.size+1)::us) I2.kIn hl) r2 hq) λr s' hq'=>?_))
 cases r with
 |error e=>exact hx pins σ _ _ e s' I2 hq'
 |ok fl=>
  cases fl with
  |ret u=>
   obtain⟨v,H',I3,rv,ev,q3⟩:=I2.after hq'
   subst ev
   exact⟨rv,⟨V.ref (s.heap.objs.size+1),H',I3,rfl,q3⟩⟩
  |next=>exact False.elim hq'
  |brk=>exact False.elim hq'
  |cont=>exact False.elim hq'
theorem zGy(M:Mk X.K C f)(F:FnOk X.prog X.w X.K X.mg X.base CX k f fd ps sp)(hr:Room (k+1) X.A)(hg:Gl X x)(hm:X.mg x=some (.ref C))(hb:Binds X.K fd ps ds)(hd:Vals dvs ds)(hx:iM CX X E)
  (ha:PA X (e::es) t) (hdb:(x==("__debug__":Str))=false:=by decide) (he:starEach (e::es) X.env=(false,eval e X.env)::starEach es X.env:=by rfl) (hpl:(backTo pos (starEach es X.env)).any (·.1)=false:=by rfl):
  PE X (.Call (.Name x p) (e::es) [] pos) (zIR C sp dvs E t):=by
 intro pins s σ H Q I h
 refine wpAny_Call_Name_kw (pY I hg hm ?_ hdb)
 refine PySem.W.callWith_K (h₀:=X.base) I.ok.mod.kin M.kp (thn (ha pos pins s σ H _ I h) λus s1 ⟨vs,H1,I1,r,q⟩=>⟨I1.kIn,?_⟩) he hpl
 exact zE9 M F hr hb hd hx I1 r q
end
structure bM (N P:List Str) (sc:Scope):Prop where
 kind:sc.kind=.function
 co:sc.isCoroutine=false
 gen:sc.isGenerator=false
 nd:N.Nodup
 pre:N.take P.length=P
 par:∀x∈P,sc.names.lookup x=some .local\/sc.names.lookup x=some .cell
 nofree:∀y∈sc.names,y.2≠.free
theorem fsc{N P:List Str}{sc:Scope}(h:sc.kind=.function/\sc.isCoroutine=false/\sc.isGenerator=false/\N.Nodup/\N.take P.length=P/\(∀x∈P,sc.names.lookup x=some .local\/sc.names.lookup x=some .cell)/\∀y∈sc.names,y.2≠.free):bM N P sc:=⟨h.1,h.2.1,h.2.2.1,h.2.2.2.1,h.2.2.2.2.1,h.2.2.2.2.2.1,h.2.2.2.2.2.2⟩
theorem zT{kindOf:Str->Option NameKind}{x:Str}:∀{binds:List (Str×Value)}{m:Str->Option Value},(∀v,(x,v)∉binds)->bindL kindOf binds m x=m x
 |[],_,_=>rfl
 |(n,v)::r,m,h=>by
  unfold bindL
  rw[zT λw hw=>h w (List.mem_cons_of_mem _ hw)]
  split
  ·have:x≠n:=by rintro rfl;exact h v List.mem_cons_self
   simp[this]
  ·rfl
theorem zV{kindOf:Str->Option NameKind}{x:Str}:∀{binds:List (Str×Value)}{m:Str->Option Value},(∀v,(x,v)∉binds)->bindC kindOf binds m x=m x
 |[],_,_=>rfl
 |(n,v)::r,m,h=>by
  unfold bindC
  rw[zV λw hw=>h w (List.mem_cons_of_mem _ hw)]
  split
  ·rfl
  ·have:x≠n:=by rintro rfl;exact h v List.mem_cons_self
   simp[this]
theorem zU{kindOf:Str->Option NameKind}{x:Str}{v:Value}:∀{P:List Str}{vs:List Value}{i:Nat}{m:Str->Option Value},P.Nodup->P[i]?=some x->vs[i]?=some v->kindOf x=some .local ->
  bindL kindOf (P.zip vs) m x=some v
 |[],_,_,_,_,h,_,_=>by simp at h
 |_::_,[],_,_,_,_,h,_=>by simp at h
 |p::P,w::vs,0,m,nd,h1,h2,hk=>by
  simp at h1 h2;subst h1;subst h2
  show bindL kindOf ((p,w)::P.zip vs) m p=_
  unfold bindL
  rw[zT λv hv=>(List.nodup_cons.mp nd).1 (List.of_mem_zip hv).1,if_pos hk]
  simp
 |p::P,w::vs,i+1,m,nd,h1,h2,hk=>by
  show bindL kindOf ((p,w)::P.zip vs) m x=_
  unfold bindL
  exact zU (i:=i) (List.nodup_cons.mp nd).2 (by simpa using h1) (by simpa using h2) hk
theorem zW{kindOf:Str->Option NameKind}{x:Str}{v:Value}:∀{P:List Str}{vs:List Value}{i:Nat}{m:Str->Option Value},P.Nodup->P[i]?=some x->vs[i]?=some v->kindOf x≠some .local ->
  bindC kindOf (P.zip vs) m x=some v
 |[],_,_,_,_,h,_,_=>by simp at h
 |_::_,[],_,_,_,_,h,_=>by simp at h
 |p::P,w::vs,0,m,nd,h1,h2,hk=>by
  simp at h1 h2;subst h1;subst h2
  show bindC kindOf ((p,w)::P.zip vs) m p=_
  unfold bindC
  rw[zV λv hv=>(List.nodup_cons.mp nd).1 (List.of_mem_zip hv).1,if_neg hk]
  simp
 |p::P,w::vs,i+1,m,nd,h1,h2,hk=>by
  show bindC kindOf ((p,w)::P.zip vs) m x=_
  unfold bindC
  exact zW (i:=i) (List.nodup_cons.mp nd).2 (by simpa using h1) (by simpa using h2) hk
def start(N:List Str)(vs:List V):St:=vs.map some++List.replicate (N.length-vs.length) none
def eI(CX:CXT)(P:Program)(w:World)(K:W.Frag)(mg:Str->Option Value)(base:Heap)(N:List Str)(qual:Str)(scope:Scope)(f:Addr)(cd:Value)(A:Around)(outer:List Env)(s:Shared)(H:Hp)(E:XK):Cx where
 prog:=P
 w:=w
 K:=K
 mg:=mg
 base:=base
 A:=A.deeper (envOfC qual scope s.heap.objs.size f cd)
 N:=N
 s₀:=s
 H₀:=H
 env:=envOfC qual scope s.heap.objs.size f cd
 outer:=outer
 stack:=envOfC qual scope s.heap.objs.size f cd::outer
 ex:=[]
 calm:=true
 fn:=λ_=>true
 pn:=[]
 xe:=λe s'=>wpAny (model P w) (A.deeper (envOfC qual scope s.heap.objs.size f cd)) (leaving (envOfC qual scope s.heap.objs.size f cd) e) (λ_ s''=>CX outer H s E e s'') (λe' s''=>CX outer H s E e' s'') s'
theorem zAz{sc:Scope}{n:Nat}{x:Str}(h:sc.names.lookup x=some .cell):∃c,(cellsFrom n sc.names []).lookup x=some c:=by
 have q:=PySem.W.cellsFrom_some sc.names n [] (.inl h)
 exact Option.isSome_iff_exists.mp q
theorem zEH{CX:CXT}{P:Program}{w:World}{K:W.Frag}{mg:Str->Option Value}{base:Heap}{N ps:List Str}{qual:Str}{scope:Scope}{f:Addr}{cd:Value}{A:Around}{outer:List Env}{s s1:Shared}{H:Hp}{E:XK}{us:List Value}{vs:List V}
  (S:bM N ps scope) (hd:A.handled=none) (e0:Env0 P w K mg base A outer s H) (hl:vs.length=ps.length) (r:Vals vs us)
  (x:InCallC s s.heap.objs.size (bindL (envOfC qual scope s.heap.objs.size f cd).kindOf (ps.zip us) λ_=>none) (cellsFrom (s.heap.objs.size+1) scope.names []) (bindC (envOfC qual scope s.heap.objs.size f cd).kindOf (ps.zip us) λ_=>none) s1):
  Inv (eI CX P w K mg base N qual scope f cd A outer s H E) [] (start N vs) H s1:=by
 have hpl:ps.length<=N.length:=by have:=congrArg List.length S.pre;rw[List.length_take]at this;omega
 obtain⟨h1,tk,rfl,hk⟩:=x.done
 have noA:∀b:Addr,b∉(eI CX P w K mg base N qual scope f cd A outer s H E).ex:=λb z=>absurd (show b∈([]:List Addr) from z) (by simp)
 refine⟨⟨e0.mod,S.kind,rfl,rfl,Nat.le_refl _,λy z c h1 h2=>?_,λy hy=>?_,λy c _ h=>?_,λ_=>hd,Around.frames_deeper e0.frames,.inr ⟨rfl,rfl⟩,λb z=>absurd z (noA b),e0.bs,e0.bsz,λb _ _=>noA b,λb z=>absurd z (noA b),e0.funs,e0.frf⟩,
  rfl,e0.bare,Un.kept hk,⟨_,x.toInCall.ns,λi y v h1 h2 h3=>?_⟩,λy c h=>⟨_,x.cell y c h⟩,e0.hok.fresh (Nat.le_refl _),λy c h=>?_,λp hp=>absurd (show p∈([]:List (Addr×Obj)) from hp) (by simp),e0.hok.kept hk,?_⟩
 ·exact name_of_addr x.apart (PySem.mem_of_lookup h1) (PySem.mem_of_lookup h2)
 ·have hy:scope.names.lookup y=some .cell\/scope.names.lookup y=some .free:=hy
  rcases hy with hy|hy
  ·exact zAz hy
  ·exact absurd rfl (S.nofree _ (PySem.mem_of_lookup hy))
 ·exact Nat.le_of_lt (x.above y c (PySem.mem_of_lookup h))
 ·have hi:i<vs.length:=by
   unfold start at h2
   by_cases hi:i<vs.length
   ·exact hi
   ·rw[List.getElem?_append_right (by simpa using hi)]at h2
    rw[List.getElem?_replicate]at h2
    split at h2<;>cases h2
  have ha:vs[i]?=some v:=by
   unfold start at h2
   rw[List.getElem?_append_left (by simpa using hi),List.getElem?_map]at h2
   cases e:vs[i]? with
   |none=>rw[e]at h2;cases h2
   |some a=>rw[e]at h2;cases h2;rfl
  obtain⟨u,hu,rv⟩:=r.get ha
  have hp:ps[i]?=some y:=by
   rw[<-S.pre,List.getElem?_take_of_lt (by omega)];exact h1
  have ndP:ps.Nodup:=by rw[<-S.pre];exact S.nd.sublist (List.take_sublist _ _)
  refine⟨u,rv,?_⟩
  rcases S.par y (List.mem_of_getElem? hp) with k|k
  ·exact .inl ⟨k,zU ndP hp hu k⟩
  ·obtain⟨c,e⟩:=zAz (n:=s.heap.objs.size+1) k
   refine .inr ⟨.inl k,c,e,?_⟩
   have q:=x.cell y c e
   rw[zW ndP hp hu (by show scope.names.lookup y≠_;rw[k];decide)]at q
   exact q
 ·exact e0.hok.fresh (Nat.le_of_lt (x.above y c (PySem.mem_of_lookup h)))
 ·unfold start
  show _=N.length
  rw[List.length_append,List.length_map,List.length_replicate]
  omega
theorem zJp{CX:CXT}{P:Program}{w:World}{K:W.Frag}{mg:Str->Option Value}{base:Heap}{k:Nat}{f:Addr}{name qual:Str}{params:Arguments}{body:List Stmt}{scope:Scope}{dV kV doc pm cdv ct oc:Value}{an od:Option Addr}
  {osl:Array (Option Value)} {N ps:List Str} {sp:Sp} (lk:K.lookup f=some ⟨oc,od,.func (W.fnOf name qual params body scope dV kV doc pm an cdv ct),osl⟩) (hcd:W.codeIn K cdv qual=true) (S:bM N ps scope)
  (len:∀vs H Q E,sp vs H Q E->vs.length=ps.length)
  (hbody:∀(A:Around) (outer:List Env) (s:Shared) (H:Hp) (vs:List V) (Q:VK) (E:XK),Room k (A.deeper (envOfC qual scope s.heap.objs.size f cdv))->sp vs H Q E ->
   ∃t,PSs (eI CX P w K mg base N qual scope f cdv A outer s H E) body t/\t {nx:=λ_ H'=>Q .non H',rt:=Q} (start N vs) H):
  FnOk P w K mg base CX (k+1) f (W.fnOf name qual params body scope dV kV doc pm an cdv ct) ps sp:=by
 refine⟨len,λA outer s H args us vs Q E hr e0 hb r hsp=>?_⟩
 have hl:=len _ _ _ _ hsp
 have KX:K.In s.heap:=e0.mod.kin.keeps λb o e=>(e0.bs b o e).1
 have lim:s.heap.NoLimit:=e0.mod.nolimit.keeps λb o e=>(e0.bs b o e).1
 have hkind:∀y∈ps.zip us,scope.names.lookup y.1=some .local\/(scope.names.lookup y.1=some .cell/\((cellsFrom (s.heap.objs.size+1) scope.names []).lookup y.1).isSome=true):=λ⟨n,v⟩ hy=>by
  rcases S.par n (List.of_mem_zip hy).1 with q|q
  ·exact .inl q
  ·exact .inr ⟨q,PySem.W.cellsFrom_some _ _ _ (.inl q)⟩
 refine codeAny_call_function hr.depth (KX _ _ lk) rfl S.co S.gen rfl (PySem.W.codeRec_of KX hcd) (hb _ _ _ _ ?_)
 refine wpAny_newFunctionEnv_cells S.kind hkind λenv he s1 x=>?_
 subst he
 refine⟨lim.keeps x.toInCall.keep,codeAny_func ?_⟩
 obtain⟨t,ht,hq⟩:=hbody A outer s H vs Q E (hr.deeper _) hsp
 have I:Inv (eI CX P w K mg base N qual scope f cdv A outer s H E) [] (start N vs) H s1:=zEH S hr.hd e0 hl r x
 refine wpAny_mono (ht [] s1 (start N vs) H _ I hq) (λfl s' hs=>?_) λe s' hs=>hs
 have fin:∀{σ':St} {H':Hp} {v:V} {u:Value},Inv (eI CX P w K mg base N qual scope f cdv A outer s H E) [] σ' H' s'->RelV v u->Q v H'->CE outer P w H s Q u s':=
  λ{σ' H' v u} J rv q=>⟨v,H',J.os,J.bare,J.base,J.hok,rv,q⟩
 cases fl with
 |ret u=>
  obtain⟨v,σ',H',J,rv,q⟩:=hs
  exact fin J rv q
 |next=>
  obtain⟨σ',H',J,q⟩:=hs
  exact fin (v:=V.non) (u:=Value.none) J rfl q
 |brk=>
  obtain⟨_,_,_,q⟩:=hs
  exact False.elim q
 |cont=>
  obtain⟨_,_,_,q⟩:=hs
  exact False.elim q
end L2
namespace L2
open PySem PySem.Spec PyProof.Rows
section
variable{X:Cx}{x:Str}{p pos:Pos}{e:Expr}{es:List Expr}{t:TA}{id T:String}{r:List V->Hp->VK->Prop}
def tCB(r:List V->Hp->VK->Prop)(t:TA):TE:=λσ H Q=>t σ H λvs H1=>r vs H1 Q
theorem mO(hc:CallR X (.builtin id) r)(hg:Gl X x)(hm:X.mg x=none)(hv:bootBuiltins x=some (.builtin id))(ha:PA X (e::es) t)(hn:x≠"__name__":=by decide)(hdb:(x==("__debug__":Str))=false:=by decide)
  (he:starEach (e::es) X.env=(false,eval e X.env)::starEach es X.env:=by rfl) (hpl:(backTo pos (starEach es X.env)).any (·.1)=false:=by rfl):PE X (.Call (.Name x p) (e::es) [] pos) (tCB r t):=by
 intro pins s σ H Q I h
 refine wpAny_Call_Name_kw (nJ I hg hm hv ?_ hn hdb)
 exact PyProof.Rows.callWith_builtin1 (thn (ha pos pins s σ H _ I h) λus s1 ⟨vs,H1,I1,r1,q1⟩=>hc pins s1 σ H1 vs us Q I1 r1 q1) he hpl
theorem mJ(hc:CallR X (.type T) r)(hg:Gl X x)(hm:X.mg x=none)(hv:bootBuiltins x=some (.type T))(ha:PA X (e::es) t)(hn:x≠"__name__":=by decide)(hdb:(x==("__debug__":Str))=false:=by decide)
  (he:starEach (e::es) X.env=(false,eval e X.env)::starEach es X.env:=by rfl) (hpl:(backTo pos (starEach es X.env)).any (·.1)=false:=by rfl):PE X (.Call (.Name x p) (e::es) [] pos) (tCB r t):=by
 intro pins s σ H Q I h
 refine wpAny_Call_Name_kw (nJ I hg hm hv ?_ hn hdb)
 exact PyProof.Rows.callWith_type1 (thn (ha pos pins s σ H _ I h) λus s1 ⟨vs,H1,I1,r1,q1⟩=>hc pins s1 σ H1 vs us Q I1 r1 q1) he hpl
end
end L2
namespace HT
open PySem PyProof.Rows
section
variable{prog:Program}{w:World}{A:Around}{E:Value->Shared->Prop}{s:Shared}
theorem cat_tup{t b:Addr}{vs ws:List Value}{Q:Value->Shared->Prop}(ht:IsTup s.heap t vs.toArray)(hb:IsTup s.heap b ws.toArray)(hv:vs≠[])
  (h1:ws=[]->Q (.ref t) s) (h2:ws≠[]->Q (.ref s.heap.objs.size) {s with heap:=s.heap.push {cls:=.type "tuple",data:=.seq (vs++ws).toArray}})
  (hsz:vs.length+ws.length<=sizeLine):wpAny (model prog w) A (binaryOp .Add (.ref t) (.ref b)) Q E s:=by
 obtain⟨⟨cls,dd,data,sl⟩,ho,hc,n,hd⟩:=id ht
 obtain⟨⟨cls2,dd2,data2,sl2⟩,ho2,hc2,n2,hd2⟩:=id hb
 simp only at hc hd hc2 hd2
 subst hc hd hc2 hd2
 have e:vs.toArray++ws.toArray=(vs++ws).toArray:=by simp
 by_cases hw:ws=[]
 ·exact concat_meets ⟨_,ho,rfl⟩ ⟨_,ho2,rfl⟩ noFill_tuple_add seq_tuple_add PySem.F.slot_tuple_add PySem.F.entry_tuple_add (PySem.F.args_tuple_add_2 _ _)
   (tuple_addW1 t b vs.toArray ws.toArray n n2 dd dd2 sl sl2 (by simpa using hv) (by simp[hw])) ⟨ho,ho2,h1 hw⟩
 ·refine concat_meets ⟨_,ho,rfl⟩ ⟨_,ho2,rfl⟩ noFill_tuple_add seq_tuple_add PySem.F.slot_tuple_add PySem.F.entry_tuple_add (PySem.F.args_tuple_add_2 _ _)
   (tuple_addW2 t b vs.toArray ws.toArray n n2 dd dd2 sl sl2 (by simpa using hv) (by simpa using hw) (by rw[List.size_toArray,List.size_toArray];exact hsz)) ⟨ho,ho2,?_⟩
  rw[e]
  exact h2 hw
def sIx(n d:Nat):Option Int->Nat
 |none=>d
 |some v=>if v<0 then(v+(n:Int)).toNat else min v.toNat n
theorem zHq(n d:Nat)(hd:d<=n)(o:Option Int):sIx n d o<=n:=by
 cases o with
 |none=>exact hd
 |some v=>
  show(if v<0 then(v+(n:Int)).toNat else min v.toNat n)<=n
  by_cases hv:v<0
  ·rw[if_pos hv];omega
  ·rw[if_neg hv];exact Nat.min_le_right _ _
theorem zBm(v:Int)(n d:Nat):(if v<0 then max (v+(n:Int)) 0 else min v (n:Int))=((sIx n d (some v):Nat):Int):=by
 show(if v<0 then max (v+(n:Int)) 0 else min v (n:Int))=(((if v<0 then(v+(n:Int)).toNat else min v.toNat n):Nat):Int)
 by_cases hv:v<0
 ·simp only[if_pos hv];omega
 ·simp only[if_neg hv];omega
theorem zEa(lo hi:Option Int)(n:Nat):Builtin.Slice.sliceAdjust lo hi 1 (n:Int)=(((sIx n 0 lo:Nat):Int),((sIx n n hi:Nat):Int)):=by
 have h1:¬ ((1:Int)<0):=by omega
 unfold Builtin.Slice.sliceAdjust
 simp only[h1,if_false]
 refine Prod.ext ?_ ?_
 ·cases lo with
  |none=>rfl
  |some v=>exact zBm v n 0
 ·cases hi with
  |none=>rfl
  |some v=>exact zBm v n n
theorem zDN(i j:Nat):Builtin.Slice.slicePlaces (i:Int) (j:Int) 1=j-i:=by
 unfold Builtin.Slice.slicePlaces
 have h1:(1:Int) > 0:=by omega
 simp only[h1,if_true,Int.ediv_one]
 split<;>omega
theorem yK{v:Value}{o:Option Int}{Q:Option Int->Shared->Prop}(p:IsPart v o)(h:Q o s):wpAny (model prog w) A (Builtin.Slice.slicePartIndex v) Q E s:=by
 cases p with
 |none=>exact slicePart_none h
 |int i t=>exact slicePart_int h
theorem sliceApplied_gen{sl:Addr}{vl vu:Value}{lo hi:Option Int}{n:Nat}{Q:Int×Int×Nat->Shared->Prop}(hs:s.heap.IsSliceOf sl vl vu .none)(pl:IsPart vl lo)(pu:IsPart vu hi)
  (h:Q (((sIx n 0 lo:Nat):Int),1,sIx n n hi-sIx n 0 lo) s):wpAny (model prog w) A (Builtin.Slice.sliceApplied (.ref sl) (pure (n:Int))) Q E s:=by
 obtain⟨os,hos,hcs,hds⟩:=id hs
 unfold Builtin.Slice.sliceApplied Builtin.Slice.sliceFields
 refine wpAny_bind (wpAny_bind (wpAny_field hos hds (x:=vl) rfl (wpAny_bind (wpAny_field hos hds (x:=vu) rfl (wpAny_bind (wpAny_field hos hds (x:=.none) rfl (wpAny_pure ?_)))))))
 refine wpAny_bind (slicePart_none ?_)
 show wpAny _ _ (if ((1:Int)==0)=true then _ else _) _ _ s
 rw[if_neg (by decide)]
 refine wpAny_bind (yK pl (wpAny_bind (yK pu (wpAny_bind (wpAny_pure ?_)))))
 show wpAny _ _ (match Builtin.Slice.sliceAdjust lo hi 1 (n:Int) with|(lo,hi)=>pure (lo,(1:Int),Builtin.Slice.slicePlaces lo hi 1)) _ _ s
 rw[zEa lo hi n]
 show wpAny _ _ (pure (((sIx n 0 lo:Nat):Int),(1:Int),Builtin.Slice.slicePlaces ((sIx n 0 lo:Nat):Int) ((sIx n n hi:Nat):Int) 1)) _ _ s
 rw[zDN]
 exact wpAny_pure h
theorem zFl(xs:Array Value)(i k:Nat):((List.range k).filterMap λ(m:Nat)=>xs[((i:Int)+(m:Int)*1).toNat]?).toArray=((xs.toList.drop i).take k).toArray:=by
 have e:(λ(m:Nat)=>xs[((i:Int)+(m:Int)*1).toNat]?)=λm=>xs[i+m]?:=by
  funext m
  have:((i:Int)+(m:Int)*1).toNat=i+m:=by omega
  rw[this]
 rw[e]
 have:=pick_run xs i k
 rw[List.filterMap_map]at this
 have e2:((λx=>xs[x]?)∘λx=>i+x)=λm=>xs[i+m]?:=rfl
 rw[e2]at this
 rw[this]
theorem getItem_tuple_cut{t sl:Addr}{items:Array Value}{vl vu:Value}{lo hi:Option Int}{Q:Value->Shared->Prop}(ht:IsTup s.heap t items)(hs:s.heap.IsSliceOf sl vl vu .none)(pl:IsPart vl lo)(pu:IsPart vu hi)
  (hw:¬ (sIx items.size 0 lo=0/\sIx items.size items.size hi=items.size))
  (h:Q (.ref s.heap.objs.size) {s with heap:=s.heap.push {cls:=.type "tuple",data:=.seq ((items.toList.drop (sIx items.size 0 lo)).take (sIx items.size items.size hi-sIx items.size 0 lo)).toArray}})
  (hsz:items.size<=sizeLine):wpAny (model prog w) A (getItem (.ref t) (.ref sl)) Q E s:=by
 have htake:sizeOk (.seq ((items.toList.drop (sIx items.size 0 lo)).take (sIx items.size items.size hi-sIx items.size 0 lo)).toArray):=by
  show((items.toList.drop (sIx items.size 0 lo)).take (sIx items.size items.size hi-sIx items.size 0 lo)).toArray.size<=sizeLine
  rw[List.size_toArray,List.length_take,List.length_drop,Array.length_toList]
  omega
 have hj:sIx items.size items.size hi<=items.size:=zHq _ _ (Nat.le_refl _) hi
 obtain⟨os,hos,hcs,hds⟩:=id hs
 have hTs:s.TypeIs (.ref sl) "slice":=⟨os,hos,hcs⟩
 unfold getItem
 try with_reducible refine wpAny_holding ?_
 first|refine wpAny_bind (wpAny_pure ?_)|skip
 refine wpAny_bind (wpAny_sequenceKey ht.typeIs (by decide) ?_)
 refine wpAny_bind (wpAny_callSpecial?_slot (name:=Str.ofString "__getitem__") ht.typeIs PyProof.Rows.slot_tuple_getitem
  (wpAny_call_entry PyProof.Rows.slot_tuple_getitem ht.typeIs entry_tuple_getitem ?_ (args_tuple_getitem _ _)))
 show wpAny _ _ (Builtin.Tuple.tupleItemsOf (.ref t) >>= _) _ _ s
 refine wpAny_bind (tupleItemsOf_ ht ?_)
 refine wpAny_bind (wpAny_typeOf hTs ?_)
 rw[if_pos (by decide)]
 refine wpAny_bind (sliceApplied_gen hs pl pu ?_)
 have hno:¬ ((((sIx items.size 0 lo:Nat):Int)==0&&(1:Int)==1&&(sIx items.size items.size hi-sIx items.size 0 lo)==items.size)=true):=by
  intro q
  rw[Bool.and_eq_true,Bool.and_eq_true]at q
  have q1:((sIx items.size 0 lo:Nat):Int)=0:=eq_of_beq q.1.1
  have q2:sIx items.size items.size hi-sIx items.size 0 lo=items.size:=eq_of_beq q.2
  exact hw ⟨by omega,by omega⟩
 show wpAny _ _ (if (((sIx items.size 0 lo:Nat):Int)==0&&(1:Int)==1&&(sIx items.size items.size hi-sIx items.size 0 lo)==items.size)=true then _ else _) _ _ s
 rw[if_neg hno,zFl]
 first
  |exact wpAny_bind (m:=Builtin.Tuple.tupleExact _) (wpAny_newObj_type (wpAny_pure ⟨_,rfl,wpAny_pure h⟩) htake)
  |exact wpAny_bind (m:=Builtin.Tuple.tupleExact _) (wpAny_newObj_type (wpAny_bind (wpAny_pure (wpAny_pure ⟨_,rfl,wpAny_pure h⟩))) htake)
  |exact wpAny_bind (wpAny_bind (m:=Builtin.Tuple.tupleExact _) (wpAny_newObj_type (wpAny_pure (wpAny_pure ⟨_,rfl,wpAny_pure h⟩)) htake))
  |exact wpAny_bind (wpAny_bind (m:=Builtin.Tuple.tupleExact _) (wpAny_newObj_type (wpAny_pure ⟨_,rfl,wpAny_pure h⟩) htake))
end
end HT
namespace L2
open PySem PySem.Spec PyProof.Rows
abbrev TO:=St->Hp->(Option Int->Hp->Prop)->Prop
def PO(X:Cx)(e:Option Expr)(t:TO):Prop:=
 ∀(pins:List (Addr×Obj)) (s:Shared) (σ:St) (H:Hp) (Q:Option Int->Hp->Prop),Inv X pins σ H s->t σ H Q ->
  wpAny (model X.prog X.w) X.A (evalPart e X.env) (λu s'=>∃o H',Inv X pins σ H' s'/\IsPart u o/\Q o H') X.xe s
def zGb:TO:=λ_ H Q=>Q none H
def zIN(t:TE):TO:=λσ H Q=>t σ H λx H1=>∃i,x=.int i/\Q (some i) H1
theorem oY{ns:List Int}:∀{us:List Value},Vals (ns.map V.int) us->IntsAre us ns:=by
 induction ns with
 |nil=>intro us r;rw[List.map_nil]at r;cases r;exact .nil
 |cons n ns ih=>
  intro us r
  rw[List.map_cons]at r
  cases r with
  |cons r1 r2=>
   obtain⟨t,e⟩:=r1
   subst e
   exact .cons n t (ih r2)
section
variable{X:Cx}{e:Expr}{te:TE}{lo hi:Option Expr}{tl th:TO}{pos p2:Pos}
theorem zA2:PO X none zGb:=by
 intro pins s σ H Q I h
 rw[evalPart_none]
 exact wpAny_pure ⟨none,H,I,.none,h⟩
theorem zA1(h:PE X e te):PO X (some e) (zIN te):=by
 intro pins s σ H Q I hw
 rw[evalPart_some]
 refine thn (h pins s σ H _ I hw) λu s1 ⟨x,H1,I1,r1,q1⟩=>?_
 obtain⟨i,rfl,q⟩:=q1
 obtain⟨t,rfl⟩:=r1
 exact⟨some i,H1,I1,.int i t,q⟩
def SlR(X:Cx)(r:V->Option Int->Option Int->Hp->VK->Prop):Prop:=
 ∀(pins:List (Addr×Obj)) (s:Shared) (σ:St) (H:Hp) (x:V) (v vl vu:Value) (lo hi:Option Int) (sl:Addr) (Q:VK),Inv X pins σ H s->RelV x v->s.heap.IsSliceOf sl vl vu .none->IsPart vl lo->IsPart vu hi->r x lo hi H Q ->
  ∃T id,typeLookup (.type T) "__getitem__"=pure (some (.builtin id))/\s.TypeIs v T/\wpAny (model X.prog X.w) X.A (getItem v (.ref sl)) (EP X pins σ Q) X.xe s
theorem SlR.or{r r':V->Option Int->Option Int->Hp->VK->Prop}(h:SlR X r)(h':SlR X r'):SlR X (λx lo hi H Q=>r x lo hi H Q\/r' x lo hi H Q):=by
 intro pins s σ H x v vl vu lo hi sl Q I rx hs pl pu q
 rcases q with q|q
 ·exact h pins s σ H x v vl vu lo hi sl Q I rx hs pl pu q
 ·exact h' pins s σ H x v vl vu lo hi sl Q I rx hs pl pu q
def tSl(r:V->Option Int->Option Int->Hp->VK->Prop)(te:TE)(tl th:TO):TE:=λσ H Q=>te σ H λx H1=>tl σ H1 λl H2=>th σ H2 λu H3=>r x l u H3 Q
theorem zAg{r:V->Option Int->Option Int->Hp->VK->Prop}(hr:SlR X r)(he:PE X e te)(hl:PO X lo tl)(hu:PO X hi th):PE X (.Subscript e (.Slice lo hi none p2) pos) (tSl r te tl th):=by
 intro pins s σ H Q I h
 refine Subscript_ (thn (he pins s σ H _ I h) λv s1 ⟨x,H1,I1,r1,q1⟩=>?_)
 refine wpAny_Slice (thn (hl pins s1 σ H1 _ I1 q1) λvl s2 ⟨l,H2,I2,pl,q2⟩=>thn (hu pins s2 σ H2 _ I2 q2) λvu s3 ⟨u,H3,I3,pu,q3⟩=>?_)
 rw[evalPart_none]
 refine wpAny_pure ?_
 have I4:Inv X pins σ H3 {s3 with heap:=s3.heap.push {cls:=.type "slice",data:=.fields #[vl,vu,.none]}}:=I3.kept (t':=s3.toks) λb ob q=>Heap.get?_push_of_some _ q
 obtain⟨T,id,hT,ht,hg⟩:=hr pins {s3 with heap:=s3.heap.push {cls:=.type "slice",data:=.fields #[vl,vu,.none]}} σ H3 x v vl vu l u s3.heap.objs.size Q I4 r1 (Heap.IsSliceOf.new ..) pl pu q3
 show wpAny (model X.prog X.w) X.A (subscriptTail e (.Slice lo hi none p2) v (.ref s3.heap.objs.size)) (EP X pins σ Q) X.xe {s3 with heap:=s3.heap.push {cls:=.type "slice",data:=.fields #[vl,vu,.none]}}
 exact tail_any (ops:=[.ref s3.heap.objs.size,v]) ht hT hg (by with_unfolding_all rfl)
def fV(xs:List V)(lo hi:Option Int):List V:=(xs.drop (HT.sIx xs.length 0 lo)).take (HT.sIx xs.length xs.length hi-HT.sIx xs.length 0 lo)
theorem yJ(xs:List V)(lo hi:Option Int):(fV xs lo hi).length<=xs.length:=by
 unfold fV
 rw[List.length_take,List.length_drop]
 omega
def zJO(K:W.Frag):V->Option Int->Option Int->Hp->VK->Prop:=λx lo hi H Q=>∃a xs,x=.ref a/\SqT K H a xs /\
 ¬ (HT.sIx xs.length 0 lo=0/\HT.sIx xs.length xs.length hi=xs.length)/\∀p,H p=none->Q (.ref p) (upd H p (.tup (fV xs lo hi)))
theorem zHk:SlR X (zJO X.K):=by
 intro pins s σ H x v vl vu lo hi sl Q I rx hs pl pu h
 obtain⟨a,xs,rfl,hx,hw,q⟩:=h
 cases rx
 obtain⟨its,r,ht,hz⟩:=I.tuple hx
 have hlen:its.toArray.size=xs.length:=by rw[List.size_toArray];exact r.length.symm
 refine⟨"tuple",_,PyProof.Rows.slot_tuple_getitem.lookup,ht.typeIs,?_⟩
 refine HT.getItem_tuple_cut ht hs pl pu (by rw[hlen];exact hw) ?_ (by rw[hlen];exact hz)
 rw[hlen]
 refine⟨.ref s.heap.objs.size,_,I.laid (t':=s.toks) (o:=.tup (fV xs lo hi)) (λb ob q=>Heap.get?_push_of_some _ q) (Nat.le_refl _) ?_,rfl,q _ (I.hok.fresh (Nat.le_refl _))⟩
 exact⟨Nat.le_trans (yJ xs lo hi) hz,_,(r.drop (HT.sIx xs.length 0 lo)).take (HT.sIx xs.length xs.length hi-HT.sIx xs.length 0 lo),IsTup.new _ _⟩
def zI3(K:W.Frag):R2:=λx y H Q=>∃a b xs ys,x=.ref a/\y=.ref b/\SqT K H a xs/\SqT K H b ys/\xs≠[]/\xs.length+ys.length<=sizeLine /\
 (ys=[]->Q (.ref a) H)/\(ys≠[]->∀p,H p=none->Q (.ref p) (upd H p (.tup (xs++ys))))
theorem Vals.nil_iff{xs:List V}{us:List Value}(r:Vals xs us):us=[]↔xs=[]:=by
 cases r with
 |nil=>simp
 |cons _ _=>simp
theorem zGH:OpR X (binaryOp .Add) (zI3 X.K):=by
 intro pins s σ H x y v u Q I rx ry h
 obtain⟨a,b,xs,ys,rfl,rfl,ha,hb,hx,hz,q1,q2⟩:=h
 cases rx
 cases ry
 obtain⟨its,r1,p1,_⟩:=I.tuple ha
 obtain⟨its2,r2,p2,_⟩:=I.tuple hb
 refine HT.cat_tup p1 p2 (λz=>hx (r1.nil_iff.mp z)) (λz=>⟨.ref a,H,I,rfl,q1 (r2.nil_iff.mp z)⟩) (λz=>?_) (by rw[<-r1.length,<-r2.length];exact hz)
 refine⟨.ref s.heap.objs.size,_,I.laid (t':=s.toks) (o:=.tup (xs++ys)) (λb ob q=>Heap.get?_push_of_some _ q) (Nat.le_refl _) ?_,rfl,q2 (λw=>z (r2.nil_iff.mpr w)) _ (I.hok.fresh (Nat.le_refl _))⟩
 exact⟨by rw[List.length_append];exact hz,_,r1.append r2,IsTup.new _ _⟩
end
end L2
namespace L2
open PySem PySem.Spec PyProof.Rows
def ixN(n:Nat)(i:Int):Option Nat:=if 0<=i then(if i<n then some i.toNat else none) else if -(n:Int)<=i then some (i+n).toNat else none
def atI{α:Type}(xs:List α)(i:Int):Option α:=(ixN xs.length i).bind λj=>xs[j]?
theorem zBg{n:Nat}{i:Int}{j:Nat}(h:ixN n i=some j):seqIndex? i n=some j/\j<n /\ -(n:Int)<=i/\i<n:=by
 unfold ixN at h
 by_cases h0:0<=i
 ·rw[if_pos h0]at h
  by_cases h1:i<n
  ·rw[if_pos h1]at h
   have e:i.toNat=j:=Option.some.inj h
   exact⟨by rw[seqIndex_of h0 h1,e],by omega,by omega,h1⟩
  ·rw[if_neg h1]at h;cases h
 ·rw[if_neg h0]at h
  by_cases h1:-(n:Int)<=i
  ·rw[if_pos h1]at h
   have e:(i+n).toNat=j:=Option.some.inj h
   exact⟨by rw[seqIndex_neg (by omega) h1,e],by omega,h1,by omega⟩
  ·rw[if_neg h1]at h;cases h
theorem uR{α:Type}{xs:List α}{i:Int}{v:α}(h:atI xs i=some v):∃j,seqIndex? i xs.length=some j/\xs[j]?=some v/\j<xs.length /\ -(xs.length:Int)<=i/\i<xs.length:=by
 unfold atI at h
 cases e:ixN xs.length i with
 |none=>rw[e]at h;cases h
 |some j=>
  rw[e]at h
  obtain⟨h1,h2,h3,h4⟩:=zBg e
  exact⟨j,h1,h,h2,h3,h4⟩
theorem eA{α:Type}{xs:List α}{j:Nat}{v:α}(h:xs[j]?=some v):atI xs (j:Int)=some v:=by
 have hj:j<xs.length:=(List.getElem?_eq_some_iff.mp h).1
 have e:ixN xs.length (j:Int)=some j:=by
  unfold ixN
  rw[if_pos (by omega),if_pos (by omega)];simp
 unfold atI;rw[e];exact h
def qD(b:Expr):Prop:=∀o i,subscripted b false o i=operate [o,i] (getItem o i)
def IxR(X:Cx)(r:R2):Prop:=
 ∀(value slice:Expr) (pins:List (Addr×Obj)) (s:Shared) (σ:St) (H:Hp) (x y:V) (v u:Value) (Q:VK),Inv X pins σ H s->RelV x v->RelV y u->r x y H Q ->
  subscripted slice false v u=operate [v,u] (getItem v u)->wpAny (model X.prog X.w) X.A (subscriptTail value slice v u) (EP X pins σ Q) X.xe s
def MtR(X:Cx)(id:String)(r:V->List V->Hp->VK->Prop):Prop:=
 ∀(pins:List (Addr×Obj)) (s:Shared) (σ:St) (H:Hp) (x:V) (xs:List V) (v:Value) (us:List Value) (Q:VK),Inv X pins σ H s->RelV x v->Vals xs us->r x xs H Q ->
  wpAny (model X.prog X.w) X.A (call (.builtin id) (v::us)) (EP X pins σ Q) X.xe s
section
variable{X:Cx}{a b:Expr}{ta tb:TE}{pos:Pos}
theorem IxR.or{r r':R2}(h:IxR X r)(h':IxR X r'):IxR X (λx y H Q=>r x y H Q\/r' x y H Q):=by
 intro value slice pins s σ H x y v u Q I rx ry q hs
 rcases q with q|q
 ·exact h value slice pins s σ H x y v u Q I rx ry q hs
 ·exact h' value slice pins s σ H x y v u Q I rx ry q hs
theorem iQ{r:R2}(hr:IxR X r)(ha:PE X a ta)(hb:PE X b tb)(hs:qD b):PE X (.Subscript a b pos) (tOp r ta tb):=by
 intro pins s σ H Q I h
 exact Subscript_ (xR ha hb I h λv u s2 x y H2 I2 rx ry q=>hr a b pins s2 σ H2 x y v u Q I2 rx ry q (hs _ _))
def zCF(K:W.Frag):R2:=λx y H Q=>∃p xs i v,x=.ref p/\y=.int i/\SqL K H p xs/\atI xs i=some v/\Q v H
def zCD(K:W.Frag):R2:=λx y H Q=>∃p xs i v,x=.ref p/\y=.int i/\SqT K H p xs/\atI xs i=some v/\Q v H
def zCE:R2:=λx y H Q=>∃z i c,x=.str z/\y=.int i/\z.length<=sizeLine/\atI z.cps.toList i=some c/\Q (.str ⟨#[c]⟩) H
theorem ix_list:IxR X (zCF X.K):=by
 intro value slice pins s σ H x y v u Q I rx ry h hs
 obtain⟨p,xs,i,z,rfl,rfl,hq,he,q⟩:=h
 cases rx
 obtain⟨t,rfl⟩:=ry
 obtain⟨its,r,pl,hz⟩:=I.list hq
 obtain⟨j,h1,h2,h3,h4,h5⟩:=uR he
 obtain⟨w,ew,rw'⟩:=r.get h2
 have hl:=r.length
 have hn:=lJ
 have fin:EP X pins σ Q w s:=⟨z,H,I,rw',q⟩
 by_cases h0:0<=i
 ·have hj:i.toNat=j:=by
   rw[seqIndex_of h0 h5]at h1
   exact Option.some.inj h1
  exact item_listR pl.isList h0 (by omega) (by rw[hj];simpa using ew) fin hs
 ·have hj:(i+(its.toArray.size:Int)).toNat=j:=by
   rw[seqIndex_neg (by omega) h4]at h1
   rw[List.size_toArray,<-hl]
   exact Option.some.inj h1
  exact subscriptTail_builtinR (x:=w) pl.isList.typeIs slot_list_getitem.lookup
   (wpAny_getItem_list_neg (Q:=λr s'=>r=w/\EP X pins σ Q r s') pl.isList (by omega) (by rw[List.size_toArray]<;>omega) (by omega) (by rw[hj];simpa using ew) ⟨rfl,fin⟩) hs
theorem ix_tup:IxR X (zCD X.K):=by
 intro value slice pins s σ H x y v u Q I rx ry h hs
 obtain⟨p,xs,i,z,rfl,rfl,hq,he,q⟩:=h
 cases rx
 obtain⟨t,rfl⟩:=ry
 obtain⟨its,r,pl,hz⟩:=I.tuple hq
 obtain⟨j,h1,h2,h3,h4,h5⟩:=uR he
 obtain⟨w,ew,rw'⟩:=r.get h2
 have hl:=r.length
 have hn:=lJ
 have fin:EP X pins σ Q w s:=⟨z,H,I,rw',q⟩
 exact subscriptTail_builtinR (x:=w) pl.typeIs slot_tuple_getitem.lookup
  (getItem_tuple (j:=j) (Q:=λr s'=>r=w/\EP X pins σ Q r s') pl (by omega) (by omega) (by rw[List.size_toArray,<-hl];exact h1) (by simpa using ew) ⟨rfl,fin⟩) hs
theorem zIq:IxR X zCE:=by
 intro value slice pins s σ H x y v u Q I rx ry h hs
 obtain⟨z,i,c,rfl,rfl,hz,he,q⟩:=h
 obtain⟨t,rfl⟩:=rx
 obtain⟨t',rfl⟩:=ry
 obtain⟨j,h1,h2,h3,h4,h5⟩:=uR he
 have hl:z.cps.toList.length=z.length:=by simp[Str.length]
 rw[hl]at h1 h4 h5
 have hn:=lJ
 exact tail_any (typeIs_str s z t) slot_str_getitem.lookup (getItem_str (c:=c) (by
  have e1:decide (i < -(2 ^ 63:Int))=false:=decide_eq_false (by omega)
  have e2:decide (i>=2 ^ 63)=false:=decide_eq_false (by omega)
  rw[e1,e2,Bool.or_false]) (by rw[h1];simpa using h2) ⟨.str ⟨#[c]⟩,H,I.tok _,⟨_,rfl⟩,q⟩) hs
def rIx(K:W.Frag):R2:=λx y H Q=>zCF K x y H Q\/zCD K x y H Q\/zCE x y H Q
theorem ix_seq:IxR X (rIx X.K):=ix_list.or (ix_tup.or zIq)
theorem zDT(its:List Value)(n j:Nat)(u:Value):Obj.mapSeq (·.setIfInBounds j u) {cls:=.type "list",data:=.seq its.toArray n}={cls:=.type "list",data:=.seq (its.set j u).toArray n}:=by
 simp[Obj.mapSeq]
theorem Inv.lst{pins:List (Addr×Obj)}{σ:St}{H:Hp}{s:Shared}{p:Addr}{xs:List V}(I:Inv X pins σ H s)(h:H p=some (.lst xs)):
  ∃(its:List Value) (n:Nat),Vals xs its/\s.heap.get? p=some {cls:=.type "list",data:=.seq its.toArray n}/\xs.length<=sizeLine:=by
 obtain⟨z,its,n,r,e⟩:=I.hok p _ h
 exact⟨its,n,r,e,z⟩
theorem Inv.lstUpd{pins:List (Addr×Obj)}{σ:St}{H:Hp}{s:Shared}{p:Addr}{xs ys:List V}{its its':List Value}{n n':Nat}{f:Obj->Obj}(I:Inv X pins σ H s)(h:H p=some (.lst xs))
  (ho:s.heap.get? p=some {cls:=.type "list",data:=.seq its.toArray n}) (hf:f {cls:=.type "list",data:=.seq its.toArray n}={cls:=.type "list",data:=.seq its'.toArray n'}) (r:Vals ys its') (hz:ys.length<=sizeLine) (t:Nat):
  Inv X pins σ (upd H p (.lst ys)) {s with heap:=s.heap.update p f,toks:=t}:=by
 have e:(s.heap.update p f).get? p=some {cls:=.type "list",data:=.seq its'.toArray n'}:=by
  rw[Heap.get?_update_self f ho (by rw[hf]<;>rfl),hf]
 refine I.write (x:=p) (e:=p) (by rw[h];trivial) (.inl rfl) (λb u hb q=>(Heap.get?_update_other _ _ (Ne.symm hb)).trans q) ⟨_,e⟩ ?_
 exact⟨hz,its',n',r,e⟩
def zIW:V->V->V->Hp->(Hp->Prop)->Prop:=λo i v H Q=>∃p xs k j,o=.ref p/\i=.int k/\H p=some (.lst xs)/\ixN xs.length k=some j/\Q (upd H p (.lst (xs.set j v)))
theorem zE8:zC1 X zIW:=by
 intro pins s σ H o i v ov iv u Q I ro ri rv h
 obtain⟨p,xs,k,j,rfl,rfl,hp,hj,q⟩:=h
 cases ro
 obtain⟨t,rfl⟩:=ri
 obtain⟨its,n,r,ho,hz⟩:=I.lst hp
 obtain⟨h1,h2,h3,h4⟩:=zBg hj
 have hl:=r.length
 have hn:=lJ
 have I':Inv X pins σ (upd H p (.lst (xs.set j v))) {s with heap:=s.heap.update p (Obj.mapSeq (·.setIfInBounds j u))}:=
  I.lstUpd hp ho (zDT its n j u) (r.set rv j) (by rw[List.length_set];exact hz) s.toks
 by_cases h0:0<=k
 ·have hk:k.toNat=j:=by
   rw[seqIndex_of h0 h4]at h1
   exact Option.some.inj h1
  exact PySem.W.ki_setAt ho h0 (by omega) (by rw[List.size_toArray,<-hl];exact h4) (by rw[hk];exact⟨_,I',q⟩)
 ·have hk:(k+(its.toArray.size:Int)).toNat=j:=by
   rw[seqIndex_neg (by omega) h3]at h1
   rw[List.size_toArray,<-hl]
   exact Option.some.inj h1
  exact PySem.W.ki_setBack ho (by omega) (by rw[List.size_toArray,<-hl];exact h3) (by omega) (by rw[hk];exact⟨_,I',q⟩)
theorem zDi(lo hi:Option Int)(n:Nat):(sliceBounds lo hi none n).1=((HT.sIx n 0 lo:Nat):Int)/\(sliceBounds lo hi none n).2.1=((HT.sIx n n hi:Nat):Int)/\(sliceBounds lo hi none n).2.2=1:=by
 refine⟨?_,?_,rfl⟩
 ·cases lo with
  |none=>simp[sliceBounds,HT.sIx]
  |some i=>
   simp only[sliceBounds,HT.sIx,Option.getD_none,show(1:Int) > 0 by decide,if_true]
   by_cases h:i<0
   ·simp only[h,if_true]<;>omega
   ·simp only[h,if_false]<;>omega
 ·cases hi with
  |none=>simp[sliceBounds,HT.sIx]
  |some i=>
   simp only[sliceBounds,HT.sIx,Option.getD_none,show(1:Int) > 0 by decide,if_true]
   by_cases h:i<0
   ·simp only[h,if_true]<;>omega
   ·simp only[h,if_false]<;>omega
theorem zDc(its:List Value)(lo hi:Option Int):slicePick its.toArray lo hi none=((its.drop (HT.sIx its.length 0 lo)).take (HT.sIx its.length its.length hi-HT.sIx its.length 0 lo)).toArray:=by
 obtain⟨h1,h2,h3⟩:=zDi lo hi its.toArray.size
 unfold slicePick
 rw[h1,h2,h3]
 simp only[sliceRange_one,pick_run,List.size_toArray]<;>rfl
def zJQ(K:W.Frag):V->Option Int->Option Int->Hp->VK->Prop:=λx lo hi H Q=>∃a xs,x=.ref a/\SqL K H a xs/\∀p,H p=none->Q (.ref p) (upd H p (.lst (fV xs lo hi)))
theorem sl_list:SlR X (zJQ X.K):=by
 intro pins s σ H x v vl vu lo hi sl Q I rx hs pl pu h
 obtain⟨a,xs,rfl,hx,q⟩:=h
 cases rx
 obtain⟨its,r,ht,hz⟩:=I.list hx
 have hlen:=r.length
 refine⟨"list",_,slot_list_getitem.lookup,ht.isList.typeIs,?_⟩
 refine wpAny_getItem_list_slice ht.isList hs pl pu .none (by simp) ?_ (by rw[List.size_toArray]<;>omega)
 rw[zDc,<-hlen]
 refine⟨.ref s.heap.objs.size,_,I.laid (t':=s.toks) (o:=.lst (fV xs lo hi)) (λb ob q=>Heap.get?_push_of_some _ q) (Nat.le_refl _) ?_,rfl,q _ (I.hok.fresh (Nat.le_refl _))⟩
 exact⟨Nat.le_trans (yJ xs lo hi) hz,_,0,(r.drop (HT.sIx xs.length 0 lo)).take (HT.sIx xs.length xs.length hi-HT.sIx xs.length 0 lo),Heap.get?_push_size _ rfl⟩
def dB:V->Bool
 |.non=>true
 |.bl _=>true
 |.int _=>true
 |.str _=>true
 |_=>false
def eqV:V->V->Bool
 |.non,.non=>true
 |.bl a,.bl b=>a==b
 |.bl a,.int b=>(if a then 1 else 0)==b
 |.int a,.bl b=>a==(if b then 1 else 0)
 |.int a,.int b=>a==b
 |.str a,.str b=>a==b
 |_,_=>false
theorem zBU{A:Around}{s:Shared}{y x:V}{u v:Value}(ry:RelV y u)(rx:RelV x v)(fy:dB y=true)(fx:dB x=true):SeqAt.EqAt A s u v (eqV y x):=by
 cases y with
 |non=>
  cases ry
  cases x with
  |non=>cases rx;exact SeqAt.EqAt.same _
  |bl b=>cases rx;exact SeqAt.EqAt.none_bool b
  |int b=>obtain⟨t,rfl⟩:=rx;exact SeqAt.EqAt.none_int b t
  |str b=>obtain⟨t,rfl⟩:=rx;exact SeqAt.EqAt.none_str b t
  |_=>exact absurd (show false=true from fx) Bool.false_ne_true
 |bl a=>
  cases ry
  cases x with
  |non=>cases rx;exact SeqAt.EqAt.bool_none a
  |bl b=>cases rx;exact SeqAt.EqAt.bool_bool a b
  |int b=>obtain⟨t,rfl⟩:=rx;exact SeqAt.EqAt.bool_int a b t
  |str b=>obtain⟨t,rfl⟩:=rx;exact SeqAt.EqAt.bool_str a b t
  |_=>exact absurd (show false=true from fx) Bool.false_ne_true
 |int a=>
  obtain⟨t',rfl⟩:=ry
  cases x with
  |non=>cases rx;exact SeqAt.EqAt.int_none a t'
  |bl b=>cases rx;exact SeqAt.EqAt.int_bool a t' b
  |int b=>obtain⟨t,rfl⟩:=rx;exact SeqAt.EqAt.int_int a t' b t
  |str b=>obtain⟨t,rfl⟩:=rx;exact SeqAt.EqAt.int_str a t' b t
  |_=>exact absurd (show false=true from fx) Bool.false_ne_true
 |str a=>
  obtain⟨t',rfl⟩:=ry
  cases x with
  |non=>cases rx;exact SeqAt.EqAt.str_none a t'
  |bl b=>cases rx;exact SeqAt.EqAt.str_bool a t' b
  |int b=>obtain⟨t,rfl⟩:=rx;exact SeqAt.EqAt.str_int a t' b t
  |str b=>obtain⟨t,rfl⟩:=rx;exact SeqAt.EqAt.str_str a t' b t
  |_=>exact absurd (show false=true from fx) Bool.false_ne_true
 |_=>exact absurd (show false=true from fy) Bool.false_ne_true
theorem call_len_seq:CallR X (.builtin "len") (λxs H Q=>∃p ys,xs=[.ref p]/\(SqL X.K H p ys\/SqT X.K H p ys)/\Q (.int ys.length) H):=by
 intro pins s σ H xs us Q I r h
 obtain⟨p,ys,rfl,hq,q⟩:=h
 obtain⟨u,rfl,rx⟩:=cV r
 cases rx
 have hn:=lJ
 rcases hq with hq|hq
 ·obtain⟨its,r',pl,hz⟩:=I.list hq
  have hlen:=r'.length
  exact Calls.call_len_list pl.isList (by simp only[List.size_toArray]<;>omega) ⟨.int ys.length,H,I.tok _,⟨s.toks+1,by rw[List.size_toArray,hlen]⟩,q⟩
 ·obtain⟨its,r',pl,hz⟩:=I.tuple hq
  have hlen:=r'.length
  exact len_tuple pl (by simp only[List.size_toArray]<;>omega) ⟨.int ys.length,H,I.tok _,⟨s.toks+1,by rw[List.size_toArray,hlen]⟩,q⟩
theorem call_len_str:CallR X (.builtin "len") (λxs H Q=>∃z,xs=[.str z]/\z.length<=sizeLine/\Q (.int z.length) H):=by
 intro pins s σ H xs us Q I r h
 obtain⟨z,rfl,hz,q⟩:=h
 obtain⟨u,rfl,t,rfl⟩:=cV r
 have hn:=lJ
 exact len_str (by omega) ⟨.int z.length,H,I.tok _,⟨_,rfl⟩,q⟩
theorem CallR.or{f:Value}{r r':List V->Hp->VK->Prop}(h:CallR X f r)(h':CallR X f r'):CallR X f (λxs H Q=>r xs H Q\/r' xs H Q):=by
 intro pins s σ H xs us Q I rs q
 rcases q with q|q
 ·exact h pins s σ H xs us Q I rs q
 ·exact h' pins s σ H xs us Q I rs q
theorem yA:CallR X (.type "list") (λxs H Q=>∃p ys,xs=[.ref p]/\(SqL X.K H p ys\/SqT X.K H p ys)/\∀l,H l=none->Q (.ref l) (upd H l (.lst ys))):=by
 intro pins s σ H xs us Q I r h
 obtain⟨p,ys,rfl,hq,q⟩:=h
 obtain⟨u,rfl,rx⟩:=cV r
 cases rx
 have fin:∀(its:List Value),Vals ys its->ys.length<=sizeLine->∀(h':Heap) (c':Nat),(∀b o',s.heap.get? b=some o'->h'.get? b=some o') ->
   h'.get? s.heap.objs.size=some {cls:=.type "list",dict:=none,data:=.seq its.toArray c',slots:=#[]}->EP X pins σ Q (.ref s.heap.objs.size) {s with heap:=h'}:=λits r' hz h' c' kp e=>
  ⟨.ref s.heap.objs.size,_,I.laid (t':=s.toks) kp (Nat.le_refl _) (show ObjOk X.prog X.w _ h' _ (.lst ys) from ⟨hz,its,c',r',e⟩),rfl,q _ (I.hok.fresh (Nat.le_refl _))⟩
 rcases hq with hq|hq
 ·obtain⟨its,r',pl,hz⟩:=I.list hq
  have hlen:=r'.length
  obtain⟨o,ho,hc,n,hd⟩:=pl.isList
  exact call_list_seq p (.inl rfl) ho hc hd (λh' c' kp e=>fin its r' hz h' c' kp e) (by simp only[List.size_toArray]<;>omega)
 ·obtain⟨its,r',pl,hz⟩:=I.tuple hq
  have hlen:=r'.length
  obtain⟨o,ho,hc,n,hd⟩:=pl
  exact call_list_seq p (.inr rfl) ho hc hd (λh' c' kp e=>fin its r' hz h' c' kp e) (by simp only[List.size_toArray]<;>omega)
theorem zDg:CallR X (.type "tuple") (λxs H Q=>∃p ys,xs=[.ref p]/\((SqL X.K H p ys/\∀l,H l=none->Q (.ref l) (upd H l (.tup ys)))\/(SqT X.K H p ys/\Q (.ref p) H))):=by
 intro pins s σ H xs us Q I r h
 obtain⟨p,ys,rfl,h⟩:=h
 obtain⟨u,rfl,rx⟩:=cV r
 cases rx
 rcases h with⟨hq,q⟩|⟨hq,q⟩
 ·obtain⟨its,r',pl,hz⟩:=I.list hq
  have hlen:=r'.length
  refine call_tuple_list pl.isList (λh' kp=>?_) (by simp only[List.size_toArray]<;>omega)
  have I1:Inv X pins σ H {s with heap:=h'}:=I.kept (t':=s.toks) kp
  have I2:Inv X pins σ (upd H h'.objs.size (.tup ys)) {s with heap:=h'.push {cls:=.type "tuple",data:=.seq its.toArray}}:=
   I1.laid (t':=s.toks) (λb o e=>Heap.get?_push_of_some _ e) (Nat.le_refl _) (show ObjOk X.prog X.w _ _ _ (.tup ys) from ⟨hz,its,r',IsTup.new _ _⟩)
  exact⟨.ref h'.objs.size,_,I2,rfl,q _ (I1.hok.fresh (Nat.le_refl _))⟩
 ·obtain⟨its,r',pl,hz⟩:=I.tuple hq
  exact call_tuple_same pl ⟨.ref p,H,I,rfl,q⟩
def tyV(K:W.Frag)(T:String)(x:V)(H:Hp):Prop:=match x with
 |.str _=>T="str"
 |.int _=>T="int"
 |.ref p=>(T="list"/\∃xs,SqL K H p xs)\/(T="tuple"/\∃o,K.lookup p=some o/\o.cls=.type "tuple"/\o.dict=none) \/
   (T="dict"/\((∃kvs,H p=some (.dK kvs))\/∃kvs,H p=some (.dT kvs)))\/(T="set"/\∃S n,H p=some (.set S n))
 |_=>False
theorem zBv{pins:List (Addr×Obj)}{σ:St}{H:Hp}{s:Shared}{T:String}{x:V}{v:Value}(I:Inv X pins σ H s)(r:RelV x v)(ty:tyV X.K T x H):
  s.TypeIs v T/\∀a,v=.ref a->∃ob,s.heap.get? a=some ob/\ob.dict=none:=by
 cases x with
 |str z=>
  obtain⟨t,rfl⟩:=r
  cases (show T="str" from ty)
  exact⟨typeIs_str s z t,λ_ e=>nomatch e⟩
 |int i=>
  obtain⟨t,rfl⟩:=r
  cases (show T="int" from ty)
  exact⟨typeIs_int s i t,λ_ e=>nomatch e⟩
 |ref p=>
  cases r
  rcases ty with⟨rfl,xs,hq⟩|⟨rfl,o,hk,hc,hd⟩|⟨rfl,hk⟩|⟨rfl,S,n,hk⟩
  ·obtain⟨its,_,pl,_⟩:=I.list hq
   refine⟨pl.isList.typeIs,λa e=>?_⟩
   cases e
   obtain⟨o,n,e,c,hd,_⟩:=pl
   exact⟨o,e,hd⟩
  ·refine⟨⟨o,I.kIn p o hk,hc⟩,λa e=>?_⟩
   cases e
   exact⟨o,I.kIn _ o hk,hd⟩
  ·have z:∃o,s.heap.get? p=some o/\o.ExactDict:=by
    rcases hk with⟨kvs,hk⟩|⟨kvs,hk⟩
    ·obtain⟨_,_,_,_,o,_,_,e,ex,_⟩:=I.hok p _ hk
     exact⟨o,e,ex⟩
    ·obtain⟨_,_,_,_,o,_,_,e,ex,_⟩:=I.hok p _ hk
     exact⟨o,e,ex⟩
   obtain⟨o,e,ex⟩:=z
   refine⟨⟨o,e,ex.1⟩,λa e2=>?_⟩
   cases e2
   exact⟨o,e,ex.2.1⟩
  ·obtain⟨o,_,_,_,e,ex,_⟩:=I.hok p _ hk
   refine⟨⟨o,e,ex.1⟩,λa e2=>?_⟩
   cases e2
   exact⟨o,e,ex.2.1⟩
 |_=>exact False.elim ty
def zJG(K:W.Frag)(T:String)(r:V->List V->Hp->VK->Prop)(to:TE):TE:=λσ H Q=>to σ H λx H1=>tyV K T x H1/\r x [] H1 Q
def tBM(K:W.Frag)(T:String)(r:V->List V->Hp->VK->Prop)(to:TE)(t:TA):TE:=λσ H Q=>to σ H λx H1=>tyV K T x H1/\t σ H1 λxs H2=>r x xs H2 Q
variable{o e:Expr}{es:List Expr}{to:TE}{t:TA}{name:Str}{apos cpos:Pos}{T id:String}{r:V->List V->Hp->VK->Prop}
theorem zHV(pa:PlainAttrs T)(slot:Slot T name id)(hty:typeOf (.builtin id)=pure (.type "method_descriptor"))(hm:MtR X id r)(ho:PE X o to)
  (hbase:attributeBase o name X.env (eval o X.env)=eval o X.env:=by rfl) (hline:(apos.endLine==cpos.line)=true:=by rfl):PE X (.Call (.Attribute o name apos) [] [] cpos) (zJG X.K T r to):=by
 intro pins s σ H Q I h
 refine wpAny_Call_method0_late hbase hline (thn (ho pins s σ H _ I h) λv s1 ⟨x,H1,I1,r1,ty,q1⟩=>?_)
 obtain⟨h1,h2⟩:=zBv I1 r1 ty
 exact⟨T,id,pa,slot,hty,h1,h2,Calls.callWith_builtin rfl (PySem.evalArgs_none (hm pins s1 σ H1 x [] v [] Q I1 r1 .nil q1))⟩
theorem nZ(pa:PlainAttrs T)(slot:Slot T name id)(hty:typeOf (.builtin id)=pure (.type "method_descriptor"))(hm:MtR X id r)(ho:PE X o to)(ha:PA X (e::es) t)
  (hbase:attributeBase o name X.env (eval o X.env)=eval o X.env:=by rfl)
  (hfew:((backTo cpos (starEach (e::es) X.env)).all (λx=>!x.1)&&(backToKw cpos (keywordEach [] X.env)).all (λx=>x.1.isSome)
   && decide ((e::es).length+([]:List Keyword).length+(if ([]:List Keyword).isEmpty then 0 else 1)<30))=true:=by rfl)
  (hline:(apos.endLine==cpos.line)=true:=by rfl) (hs:starEach (e::es) X.env=(false,eval e X.env)::starEach es X.env:=by rfl) (hplain:(backTo cpos (starEach es X.env)).any (·.1)=false:=by rfl):
  PE X (.Call (.Attribute o name apos) (e::es) [] cpos) (tBM X.K T r to t):=by
 intro pins s σ H Q I h
 refine wpAny_Call_method_late hbase hfew hline rfl (thn (ho pins s σ H _ I h) λv s1 ⟨x,H1,I1,r1,ty,q1⟩=>?_)
 obtain⟨h1,h2⟩:=zBv I1 r1 ty
 refine⟨T,id,pa,slot,hty,h1,h2,?_⟩
 have hA:=ha cpos pins s1 σ H1 _ I1 q1
 rw[hs]at hA ⊢
 refine Calls.callWith_builtin (by show(false || (backTo cpos (starEach es X.env)).any (·.1))=false;rw[hplain]<;>rfl) (Calls.evalArgs_plain ?_)
 exact thn hA λus s2 ⟨vs,H2,I2,r2,q2⟩=>hm pins s2 σ H2 x vs v us Q I2 r1 r2 q2
end
end L2
namespace L2
open PySem PySem.Spec PyProof.Rows
def MtM(X:Cx)(id:String)(r:V->List V->Hp->VK->Prop):Prop:=
 ∀(pins:List (Addr×Obj)) (s:Shared) (σ:St) (H:Hp) (x:V) (xs:List V) (v:Value) (us:List Value) (Q:VK),Inv X pins σ H s->RelV x v->Vals xs us->r x xs H Q ->
  wpAny (model X.prog X.w) X.A (call (.builtin id) (v::us)) (EP X pins σ Q) X.xe s
theorem Vals.one:∀{x:V}{us:List Value},Vals [x] us->∃u,us=[u]/\RelV x u
 |_,_,.cons r .nil=>⟨_,rfl,r⟩
theorem Vals.zero:∀{us:List Value},Vals [] us->us=[]
 |_,.nil=>rfl
theorem Vals.dropLast{xs:List V}{us:List Value}(h:Vals xs us):Vals xs.dropLast us.dropLast:=by
 induction h with
 |nil=>exact .nil
 |cons r t ih=>
  cases t with
  |nil=>exact .nil
  |cons q t'=>exact .cons r ih
theorem Vals.eraseIdx:∀{xs:List V}{us:List Value}(i:Nat),Vals xs us->Vals (xs.eraseIdx i) (us.eraseIdx i)
 |_,_,_,.nil=>.nil
 |_,_,0,.cons _ t=>t
 |_,_,i+1,.cons r t=>.cons r (Vals.eraseIdx i t)
theorem Vals.reverse{xs:List V}{us:List Value}(h:Vals xs us):Vals xs.reverse us.reverse:=by
 induction h with
 |nil=>exact .nil
 |cons r t ih=>rw[List.reverse_cons,List.reverse_cons];exact Vals.append ih (.cons r .nil)
theorem Vals.rep{xs:List V}{us:List Value}(h:Vals xs us):∀k:Nat,Vals (List.replicate k xs).flatten (List.replicate k us).flatten
 |0=>.nil
 |k+1=>by
  rw[List.replicate_succ,List.replicate_succ,List.flatten_cons,List.flatten_cons]
  exact Vals.append h (Vals.rep h k)
theorem zD1{α:Type}(l:List α):l.eraseIdx (l.length-1)=l.dropLast:=by
 induction l with
 |nil=>rfl
 |cons a r ih=>
  cases r with
  |nil=>rfl
  |cons b r=>
   have e:(a::b::r).length-1=((b::r).length-1)+1:=by
    have h1:(a::b::r).length=r.length+2:=rfl
    have h2:(b::r).length=r.length+1:=rfl
    omega
   rw[e,List.eraseIdx_cons_succ,ih]
   all_goals rfl
theorem zJ{α:Type}:∀(l:List α) (i:Nat),(l.eraseIdx i).length<=l.length
 |[],_=>Nat.le_refl _
 |_::_,0=>Nat.le_succ _
 |_::r,i+1=>Nat.succ_le_succ (zJ r i)
theorem zQ(its:List Value):∀(k:Nat) (acc:List Value),
  List.foldl (λx1 x2=>x1++x2) acc.toArray (List.replicate k its.toArray)=(acc++(List.replicate k its).flatten).toArray
 |0,acc=>by simp
 |k+1,acc=>by
  have e:acc.toArray++its.toArray=(acc++its).toArray:=by simp
  have e2:(acc++its)++(List.replicate k its).flatten=acc++(List.replicate (k+1) its).flatten:=by
   rw[List.replicate_succ,List.flatten_cons,List.append_assoc]
  rw[<-e2,<-zQ its k (acc++its),<-e,List.replicate_succ,List.foldl_cons]
section
variable{X:Cx}{pins:List (Addr×Obj)}{σ:St}{H:Hp}{s:Shared}{l b:Addr}{xs ys zs:List V}
theorem Inv.lset{its its':List Value}{n:Nat}{f:Array Value->Array Value}{t':Nat}(I:Inv X pins σ H s)(hH:H l=some (.lst xs))
  (e:s.heap.get? l=some {cls:=.type "list",data:=.seq its.toArray n}) (hf:f its.toArray=its'.toArray) (hv:Vals ys its') (hz:ys.length<=sizeLine):
  Inv X pins σ (upd H l (.lst ys)) {s with heap:=s.heap.update l (Obj.mapSeq f),toks:=t'}:=by
 have q:=PySem.IsL.update e f
 rw[hf]at q
 refine I.write (x:=l) (e:=l) (by rw[hH];exact trivial) (.inl rfl) (λb' u hb hu=>(Heap.get?_update_other s.heap (Obj.mapSeq f) (Ne.symm hb)).trans hu) ⟨_,q⟩ ?_
 exact⟨hz,its',_,hv,q⟩
theorem Inv.lnew{its:List Value}{t':Nat}(I:Inv X pins σ H s)(hv:Vals ys its)(hz:ys.length<=sizeLine):
  Inv X pins σ (upd H s.heap.objs.size (.lst ys)) {s with heap:=s.heap.push {cls:=.type "list",data:=.seq its.toArray},toks:=t'}:=
 I.laid (λ_ _ q=>Heap.get?_push_of_some _ q) (Nat.le_refl _) ⟨hz,its,0,hv,Heap.get?_push_size _ rfl⟩
theorem Inv.fresh(I:Inv X pins σ H s):H s.heap.objs.size=none:=I.hok.fresh (Nat.le_refl _)
theorem Inv.lstM(I:Inv X pins σ H s)(hH:H l=some (.lst xs)):xs.length<=sizeLine/\∃(its:List Value) (n:Nat),Vals xs its/\xs.length=its.length/\s.heap.get? l=some {cls:=.type "list",data:=.seq its.toArray n}:=by
 obtain⟨z,its,n,r,e⟩:=I.hok l _ hH
 exact⟨z,its,n,r,r.length,e⟩
theorem zFu{n:Nat}(h:n<=sizeLine):Builtin.List.listTooLong n=false:=by
 unfold Builtin.List.listTooLong
 exact decide_eq_false (by omega)
end
section
variable{X:Cx}
def zGk:V->List V->Hp->VK->Prop:=λx vs H Q=>∃l xs y,x=.ref l/\vs=[y]/\H l=some (.lst xs)/\xs.length<sizeLine/\Q .non (upd H l (.lst (xs++[y])))
theorem sY:MtM X "list.append" zGk:=by
 intro pins s σ H x vs v us Q I rx rv h
 obtain⟨l,xs,y,rfl,rfl,hH,hz,q⟩:=h
 cases rx
 obtain⟨u,rfl,ru⟩:=rv.one
 obtain⟨z,its,n,r,hl,e⟩:=I.lstM hH
 refine call_meets F.slot_list_append ⟨_,e,rfl⟩ F.entry_list_append (F.args_list_append_2 _ _) (PySem.list_append l its.toArray n u (by rw[List.size_toArray];omega)) ⟨e,?_⟩
 refine⟨.non,_,I.lset (its':=its++[u]) hH e (by simp) (r.append (.cons ru .nil)) ?_,rfl,q⟩
 rw[List.length_append,List.length_singleton]
 omega
def zJR:V->List V->Hp->VK->Prop:=λx vs H Q=>∃l xs y,x=.ref l/\vs=[]/\H l=some (.lst xs)/\xs[xs.length-1]?=some y/\Q y (upd H l (.lst xs.dropLast))
theorem zIh:MtM X "list.pop" zJR:=by
 intro pins s σ H x vs v us Q I rx rv h
 obtain⟨l,xs,y,rfl,rfl,hH,hy,q⟩:=h
 cases rx
 have hus:=rv.zero
 subst hus
 obtain⟨z,its,n,r,hl,e⟩:=I.lstM hH
 obtain⟨u,hu,ru⟩:=r.get hy
 have hy':its.toArray[its.toArray.size-1]?=some u:=by
  show its.toArray[its.length-1]?=some u
  rw[<-Array.getElem?_toList,<-hl]
  exact hu
 refine call_meets F.slot_list_pop ⟨_,e,rfl⟩ F.entry_list_pop (F.args_list_pop_1 _) (MeetsSeq.list_pop_last l its.toArray n u hy' (by rw[List.size_toArray];omega)) ⟨e,?_⟩
 refine⟨y,_,I.lset (its':=its.dropLast) hH e ?_ r.dropLast ?_,ru,q⟩
 ·show its.toArray.eraseIdxIfInBounds (its.toArray.size-1)=its.dropLast.toArray
  rw[List.size_toArray,List.eraseIdxIfInBounds_toArray,zD1]
 ·rw[List.length_dropLast]
  omega
def zHv:V->List V->Hp->VK->Prop:=λx vs H Q=>∃l xs i k y,x=.ref l/\vs=[.int i]/\H l=some (.lst xs) /\ -(2 ^ 63)<=i/\i<2 ^ 63/\seqIndex? i xs.length=some k/\xs[k]?=some y/\Q y (upd H l (.lst (xs.eraseIdx k)))
theorem zFx:MtM X "list.pop" zHv:=by
 intro pins s σ H x vs v us Q I rx rv h
 obtain⟨l,xs,i,k,y,rfl,rfl,hH,h1,h2,hk,hy,q⟩:=h
 cases rx
 obtain⟨u,rfl,ru⟩:=rv.one
 obtain⟨t,rfl⟩:=ru
 obtain⟨z,its,n,r,hl,e⟩:=I.lstM hH
 obtain⟨w,hw,rw'⟩:=r.get hy
 refine call_meets F.slot_list_pop ⟨_,e,rfl⟩ F.entry_list_pop (F.args_list_pop_2 _ _)
  (MeetsSeq.list_pop_at l its.toArray n i t k w (fitsIndex_both h1 h2) (by rw[List.size_toArray,<-hl];exact hk) (by rw[<-Array.getElem?_toList];exact hw) (by rw[List.size_toArray];omega)) ⟨e,?_⟩
 refine⟨y,_,I.lset (its':=its.eraseIdx k) hH e ?_ (r.eraseIdx k) ?_,rw',q⟩
 ·show its.toArray.eraseIdxIfInBounds k=(its.eraseIdx k).toArray
  rw[List.eraseIdxIfInBounds_toArray]
 ·have:=zJ xs k
  omega
theorem uI{α:Type}(xs:List α)(k:Nat):(List.replicate k xs).flatten.length=k*xs.length:=by
 induction k with
 |zero=>simp
 |succ k ih=>rw[List.replicate_succ,List.flatten_cons,List.length_append,ih,Nat.succ_mul,Nat.add_comm]
end
end L2
namespace Att
open PySem PySem.W PySem.Calls PyProof.Rows
theorem zC6{P:Params}{h:Heap}:∀(ns:List Int) (vs:List Value),WellAll P h vs (ns.map WData.int)->IntsAre vs ns:=by
 intro ns
 induction ns with
 |nil=>
  intro vs w
  rw[List.map_nil]at w
  cases w
  exact .nil
 |cons n ns ih=>
  intro vs w
  rw[List.map_cons]at w
  cases w with
  |cons a b=>
   cases a
   exact .cons _ _ (ih _ b)
theorem zEr{l:OpenLaw}{n:Nat}(hn:l.most=some n){P:Params}{h:Heap}{args:List WData}{vals:List Value}
  (hpre:l.row.toRowW.claim.pre args=true) (hwl:WellAll P h vals args):
  ∃a vs ns,vals=[Value.ref a]/\args=[WData.list (ns.map WData.int)]/\h.get? a=some {cls:=.type "list",data:=.seq vs.toArray}/\IntsAre vs ns/\ns.length<=n:=by
 have hsh:WShape.hasAll [] args [.list .int]=true:=(pre_splitW hpre).1
 have hc:l.pre.holds [] {args:=args}=true:=(pre_splitW hpre).2
 obtain⟨d,r,rfl,h1,h2⟩:=hasAllW_cons hsh
 obtain rfl:=hasAllW_nil h2
 obtain⟨xs,rfl,h3⟩:=hasW_list h1
 obtain⟨ns,rfl⟩:=items_int h3
 have hlen:ns.length<=n:=by
  unfold OpenLaw.pre at hc
  have h4:(WTm.not (.lt (.lit (.int (n:Int))) (.len (.arg 0)))).holds [] {args:=[.list (ns.map .int)]}=true:=by
   have h4:=(holds_andW hc).1
   rw[hn]at h4
   exact h4
  have h5:=condW_of h4 (w_not (w_lt w_lit (w_len_list (w_arg rfl))))
  rw[List.length_map]at h5
  refine Nat.le_of_not_lt λq=>?_
  have q':(n:Int)<((ns.length:Nat):Int):=by omega
  first
   |(rw[decide_eq_true q']at h5;exact absurd h5 (by decide))
   |(simp at h5;omega)
 cases hwl with
 |cons w1 w2=>
  cases w2
  cases w1 with
  |list ho hall=>exact⟨_,_,ns,rfl,rfl,ho,zC6 ns _ hall,hlen⟩
theorem zEv(l:OpenLaw)(args:List WData):l.row.toRowW.claim.post args (.bool true) args=true:=
 postW_of (r:=l.row.toRowW) (X:=(true==true))
  (show WShape.has [] (.bool true) .bool=true by first|rfl|decide|simp[WShape.has,WShape.arms,WShape.armsAll])
  (show(WTm.eq .res (.lit (.bool true))).value [] {args:=args,res:=some (.bool true),after:=args}=some (.bool (true==true)) from w_eq_bool (w_res rfl) w_lit) rfl
theorem attach_call{l:OpenLaw}{n:Nat}{q:Program}{loose:List Str}{XP:(Str->Option Value)->Heap->Prop}{YP:World->Heap->Prop}{d:DefRec}
  (hn:l.most=some n) (hdf:d.params.defaults=[])
  (call:∀(w:World) (s₀ s₁:Shared) (mg mb:Str->Option Value) (fa:Addr) (o:Obj) (pm cd doc:Value) (a:Addr) (vs:List Value) (ns:List Int),
   Ground q loose [] XP w s₀ mg mb s₁.heap->YP w s₁.heap ->
   s₁.heap.get? fa=some o->o.data=.func (docDef d.name d.params d.body d.scope pm cd doc)->s₁.heap.CodeRec cd d.name->mg d.name=some (.ref fa) ->
   s₁.heap.get? a=some {cls:=.type "list",data:=.seq vs.toArray}->IntsAre vs ns->ns.length<=n->s₁.gens=#[] ->
   codeAny (model l.prog w) callerA (.call (.ref fa) ⟨[.ref a],[]⟩) (λr s'=>r=.ok (.ret (.bool true))/\OldK s₁.heap s'.heap/\s'.os=s₁.os/\AllBare s'.gens) s₁):
  WalkO q loose XP YP l.row.toRowW d [] (λf vs=>PySem.call f vs):=by
 intro w s₀ s₁ mg mb G Y fa o pm cd doc dV kV ho hd hcd hD hmg hg args vals as hpre hlay hrd hwl hlo
 obtain rfl:dV=.none:=Dflts.none hD hdf
 obtain rfl:kV=.none:=Dflts.noKw hD
 obtain⟨a,vs,ns,rfl,rfl,hobj,hints,hlen⟩:=zEr hn hpre hwl
 refine enter_call (codeAny_mono (call w s₀ s₁ mg mb fa o pm cd doc a vs ns G Y ho (fd_plain hd) hcd hmg hobj hints hlen hg) λr s' hq=>?_)
 obtain⟨rfl,h2,h3,h4⟩:=hq
 exact⟨.inl ⟨.bool true,.bool true,[],rfl,λ_=>rfl,.bool true,zEv l _,λ_=>⟨List.Pairwise.nil,λ_ hm=>(nomatch hm)⟩⟩,h2,h3,h4⟩
end Att
namespace L2
open PySem PySem.Spec PyProof.Rows
theorem yW:∀{vs:List Value}{ns:List Int},IntsAre vs ns->Vals (ns.map V.int) vs
 |_,_,.nil=>.nil
 |_,_,.cons n t h=>.cons ⟨t,rfl⟩ (yW h)
def xU(H:Hp):Prop:=∀b,H b=none\/∃o xs,H b=some (.frz o (.lst xs))
theorem zFJ{P:Program}{w:World}{K:W.Frag}{mg mb:Str->Option Value}{CX:CXT}{k:Nat}{fa a:Addr}{fd:FuncData}{x:Str}{sp:Sp}{s₁:Shared}{vs:List Value}{ns:List Int}
  (KX:K.In s₁.heap) (hns:s₁.heap.Ns mainGlobals mg) (hb:s₁.heap.Ns builtinsNs mb) (hbb:∀x:Str,x≠"__name__"->mb x=bootBuiltins x) (hlim:s₁.heap.NoLimit) (hg:s₁.gens=#[])
  (ha:s₁.heap.get? a=some {cls:=.type "list",data:=.seq vs.toArray}) (hi:IntsAre vs ns) (hl:ns.length<=sizeLine) (hr:Room k callerA)
  (F:∀base:Heap,K.In base->base.Ns mainGlobals mg->FnOk P w K mg base CX k fa fd [x] sp) (hbind:∀(s:Shared) (u:Value),BindsTo s fd ⟨[u],[]⟩ [(x,u)])
  (hsp:∀H:Hp,xU H->SqL K H a (ns.map V.int)->sp [.ref a] H (λv _=>v=.bl true) λ_ _ _=>False)
  (hCX:∀H e s',CX [] H s₁ (λ_ _ _=>False) e s'->False):
  codeAny (model P w) callerA (.call (.ref fa) ⟨[.ref a],[]⟩) (λr s'=>r=.ok (.ret (.bool true))/\OldK s₁.heap s'.heap/\s'.os=s₁.os/\AllBare s'.gens) s₁:=by
 have rv:=yW hi
 have lenV:=hi.length
 -- from an abstract heap in which nothing but the script may be tracked
 have core:∀H:Hp,xU H->SqL K H a (ns.map V.int)->HOk P w H s₁.heap->(∀b,H b≠none->b=a)->(H a≠none->K.lookup a=none) ->
   codeAny (model P w) callerA (.call (.ref fa) ⟨[.ref a],[]⟩) (λr s'=>r=.ok (.ret (.bool true))/\OldK s₁.heap s'.heap/\s'.os=s₁.os/\AllBare s'.gens) s₁:=by
  intro H hO hS hok hA hK
  have base_of:∀{b:Addr} {o:Obj},s₁.heap.get? b=some o->H b=none->(iU s₁.heap H).get? b=some o:=λe n=>zFO e n
  have noA:∀{b:Addr} {o:Obj} {es:Array DictEntry} {ep:Nat},s₁.heap.get? b=some o->o.data=.dict es ep->H b=none:=λ{b o es ep} e d=>by
   cases q:H b with
   |none=>rfl
   |some u=>
    have e':b=a:=hA b (by rw[q];simp)
    subst e'
    rw[ha]at e;cases e
    have d':Data.seq vs.toArray _=Data.dict es ep:=d
    cases d'
  have nsK:∀{b:Addr} {m:Str->Option Value},s₁.heap.Ns b m->(iU s₁.heap H).Ns b m:=λ{b m} ⟨o,es,ep,e,d,r⟩=>⟨o,es,ep,base_of e (noA e d),d,r⟩
  have hKb:K.In (iU s₁.heap H):=λb o e=>base_of (KX b o e) (by
   cases q:H b with
   |none=>rfl
   |some u=>
    have e':b=a:=hA b (by rw[q];simp)
    subst e'
    rw[hK (by rw[q];simp)]at e;cases e)
  have hM:Mod K mg (iU s₁.heap H):=⟨hKb,nsK hns,⟨mb,nsK hb,hbb⟩,let ⟨mc,h1,h2⟩:=hlim;⟨mc,nsK h1,h2⟩⟩
  have e0:Env0 P w K mg (iU s₁.heap H) callerA [] s₁ H:=⟨rfl,hM,λb o e=>zGJ e,Nat.le_of_eq (zEJ _ _),trivial,λb hb=>absurd (show b∈([]:List Addr) from hb) (by simp),hok,.of_eq hg⟩
  refine codeAny_mono ((F _ hKb (nsK hns)).run callerA [] s₁ H ⟨[.ref a],[]⟩ [.ref a] [.ref a] _ _ hr e0 (hbind s₁ (.ref a)) (.cons rfl .nil) (hsp H hO hS)) λr s' h=>?_
  cases r with
  |error e=>exact(hCX H e s' h).elim
  |ok fl=>
   cases fl with
   |next=>exact False.elim h
   |brk=>exact False.elim h
   |cont=>exact False.elim h
   |ret u=>
    obtain⟨v,H',os,bare,un,hok',r',q⟩:=h
    have q':v=.bl true:=q
    subst q'
    obtain rfl:u=Value.bool true:=r'
    refine⟨rfl,OldK.of_keep λb o e=>?_,os,bare⟩
    cases q:H b with
    |none=>exact un.keep b o e q (by intro z;exact absurd (show b∈([]:List Addr) from z) (by simp)) (by simp)
    |some u=>
     rcases hO b with z|⟨ob,xs,z⟩
     ·rw[q]at z;cases z
     ·have z2:=un.frzs b ob _ z
      obtain⟨e1,_⟩:=hok b _ z
      obtain⟨e2,_⟩:=hok' b _ z2
      rw[e]at e1;cases e1
      exact e2
 cases hk:K.lookup a with
 |some o=>
  -- the script is one of the module's own objects
  have e:=KX a o hk
  rw[ha]at e
  cases e
  refine core (λ_=>none) (λ_=>.inl rfl) (.inr ⟨_,vs.toArray,_,hk,rfl,rfl,rfl,by rw[List.size_toArray,lenV];exact hl,by simpa using rv⟩) (λb u z=>by have z':(none:Option HO)=some u:=z;cases z') (λb z=>absurd rfl z) λz=>absurd rfl z
 |none=>
  refine core (λb=>if b=a then some (.frz {cls:=.type "list",data:=.seq vs.toArray} (.lst (ns.map V.int))) else none) (λb=>?_) (.inl (.inr ⟨{cls:=.type "list",data:=.seq vs.toArray},if_pos rfl⟩)) (λb u z=>?_) (λb z=>?_) λ_=>hk
  ·by_cases hb:b=a
   ·exact .inr ⟨_,_,if_pos hb⟩
   ·exact .inl (if_neg hb)
  ·by_cases hb:b=a
   ·have z':=(if_pos hb).symm.trans z
    cases z'
    subst hb
    exact⟨ha,by rw[List.length_map];exact hl,vs,_,rv,ha⟩
   ·have z':=(if_neg hb).symm.trans z
    cases z'
  ·by_cases hb:b=a
   ·exact hb
   ·exact absurd (if_neg hb) z
end L2
namespace L2
open PySem PySem.Spec PyProof.Rows
theorem walk_of{l:W.OpenLaw}{n k:Nat}{q:Program}{loose:List Str}{XP:(Str->Option Value)->Heap->Prop}{YP:World->Heap->Prop}{d:DefRec}{K:Params->W.Frag}{CX:World->CXT}{sp:World->Sp}{x:Str}
  (hn:l.most=some n) (hn2:n<=sizeLine) (hdf:d.params.defaults=[]) (hr:Room k callerA)
  (hY:∀(w:World) (h:Heap),YP w h->(K w.params).In h)
  (F:∀(w:World) (mg:Str->Option Value) (fa:Addr) (h:Heap),(K w.params).In h->h.Ns mainGlobals mg->mg d.name=some (.ref fa) ->
   ∃fd:FuncData,(∀(s:Shared) (u:Value),BindsTo s fd ⟨[u],[]⟩ [(x,u)]) /\
    ∀base:Heap,(K w.params).In base->base.Ns mainGlobals mg->FnOk l.prog w (K w.params) mg base (CX w) k fa fd [x] (sp w))
  (hsp:∀(w:World) (H:Hp) (a:Addr) (ns:List Int),ns.length<=n->xU H->SqL (K w.params) H a (ns.map V.int)->sp w [.ref a] H (λv _=>v=.bl true) λ_ _ _=>False)
  (hCX:∀(w:World) (H:Hp) (s:Shared) (e:Value) (s':Shared),CX w [] H s (λ_ _ _=>False) e s'->False):
  PySem.W.WalkO q loose XP YP l.row.toRowW d [] (λf vs=>PySem.call f vs):=by
 refine Att.attach_call hn hdf λw s₀ s₁ mg mb fa o pm cd doc a vs ns G Y ho hd hcd hmg hobj hints hlen hg=>?_
 have KX:=hY w _ Y
 obtain⟨fd,hb,hF⟩:=F w mg fa _ KX G.T.g hmg
 exact zFJ KX G.T.g G.T.b G.T.builtins G.T.nolimit hg hobj hints (Nat.le_trans hlen hn2) hr hF hb (λH hO hS=>hsp w H a ns hlen hO hS) λH e s'=>hCX w H s₁ e s'
end L2
namespace L2
open PySem PySem.Spec PyProof.Rows
def kF(s:Stmt)(j:Nat):Stmt:=match s with
 |.ClassDef _ _ _ body _ _ _ _ _ _ _=>body.getD j (.Pass ⟨0,0,0,0⟩)
 |_=>.Pass ⟨0,0,0,0⟩
def cN(s:Stmt):Arguments:=match s with
 |.FunctionDef _ a _ _ _ _ _ _ _ _=>a
 |_=>{posonlyargs:=[],args:=[],vararg:=none,kwonlyargs:=[],kw_defaults:=[],kwarg:=none,defaults:=[]}
def bR(s:Stmt):List Stmt:=match s with
 |.FunctionDef _ _ b _ _ _ _ _ _ _=>b
 |_=>[]
def aO(s:Stmt):Scope:=match s with
 |.FunctionDef _ _ _ _ _ _ sc _ _ _=>sc
 |_=>{kind:=.function,names:=[],isGenerator:=false,isCoroutine:=false}
abbrev CX0:CXT:=λ_ _ _ _ _ _=>False
abbrev E0:XK:=λ_ _ _=>False
theorem lT{X:Cx}:iM CX0 X E0:=λ_ _ _ _ _ _ _ h=>h.elim
structure Fun (K:W.Frag) (x qual:Str) (st:Stmt) (f:Addr) (fd:FuncData):Prop where
 ex:∃(oc:Value) (od:Option Addr) (kV doc pm:Value) (an:Option Addr) (cdv ct:Value) (osl:Array (Option Value)),
  fd=W.fnOf x qual (cN st) (bR st) (aO st) .none kV doc pm an cdv ct/\K.lookup f=some ⟨oc,od,.func fd,osl⟩/\W.codeIn K cdv qual=true
 kp:W.keepIn K (.ref f)=true
section
variable{P:Program}{w:World}{K:W.Frag}{mg:Str->Option Value}{base:Heap}
theorem Fun.ok{x qual:Str}{st:Stmt}{f:Addr}{fd:FuncData}{N ps:List Str}{k:Nat}{sp:Sp}(F:Fun K x qual st f fd)(S:bM N ps (aO st))(len:∀vs H Q E,sp vs H Q E->vs.length=ps.length)
  (hbody:∀(cdv:Value) (A:Around) (outer:List Env) (s:Shared) (H:Hp) (vs:List V) (Q:VK) (E:XK),Room k (A.deeper (envOfC qual (aO st) s.heap.objs.size f cdv))->sp vs H Q E ->
   ∃t,PSs (eI CX0 P w K mg base N qual (aO st) f cdv A outer s H E).nox (bR st) t/\t {nx:=λ_ H'=>Q .non H',rt:=Q} (start N vs) H):FnOk P w K mg base CX0 (k+1) f fd ps sp:=by
 obtain⟨oc,od,kV,doc,pm,an,cdv,ct,osl,rfl,lk,hcd⟩:=F.ex
 refine zJp lk hcd S len λA outer s H vs Q E hr hsp=>?_
 obtain⟨t,h,q⟩:=hbody cdv A outer s H vs Q E hr hsp
 exact⟨t,h.nox,q⟩
theorem Fun.binds{x qual:Str}{st:Stmt}{f:Addr}{fd:FuncData}{ps:List Str}(F:Fun K x qual st f fd)
  (h:∀(kV doc pm:Value) (an:Option Addr) (cdv ct:Value) (us:List Value),us.length=ps.length->bindArgs (W.fnOf x qual (cN st) (bR st) (aO st) .none kV doc pm an cdv ct) ⟨us,[]⟩=pure (ps.zip us)):Binds K fd ps []:=by
 obtain⟨oc,od,kV,doc,pm,an,cdv,ct,osl,rfl,lk,hcd⟩:=F.ex
 exact .all (h kV doc pm an cdv ct)
theorem iL{x qual:Str}{st:Stmt}{f:Addr}{oc:Value}{od an:Option Addr}{osl:Array (Option Value)}{kV doc pm cdv ct:Value}(l:K.lookup f=some ⟨oc,od,.func (W.fnOf x qual (cN st) (bR st) (aO st) .none kV doc pm an cdv ct),osl⟩)
  (c:W.codeIn K cdv qual=true) (k:W.keepIn K (.ref f)=true):Fun K x qual st f (W.fnOf x qual (cN st) (bR st) (aO st) .none kV doc pm an cdv ct):=⟨⟨oc,od,kV,doc,pm,an,cdv,ct,osl,rfl,l,c⟩,k⟩
end
theorem zJm{A:Around}{k:Nat}(hr:Room k A):A.units+1<cLine:=Nat.lt_of_le_of_lt (Nat.add_le_add_left (by decide:1<=64) _) hr.units
theorem zEj{n:Nat}(h:n<=1000):n<sizeLine:=Nat.lt_of_le_of_lt h (by decide)
section
variable{X:Cx}
theorem pv(i:Nat){x:Str}{pos:Pos}(hN:X.N[i]?=some x:=by rfl)(hv:Vis X.env.scope x:=by first|exact Or.inl rfl|exact Or.inr (Or.inl rfl)|exact Or.inr (Or.inr rfl))(hd:(x==("__debug__":Str))=false:=by decide)
  (hcd:(x==("__classdict__":Str))=false:=by decide):PE X (.Name x pos) (lY i):=eQ hN hv hd hcd
end
theorem aX{A B:Prop}(h:B):if false=true then A else B:=by
 rw[if_neg Bool.false_ne_true]
 exact h
theorem aN{A B:Prop}(h:A):if true=true then A else B:=by
 rw[if_pos rfl]
 exact h
theorem zKb{c A B:Prop}[Decidable c](h1:c->A)(h2:¬ c->B):if c then A else B:=by
 by_cases h:c
 ·rw[if_pos h]
  exact h1 h
 ·rw[if_neg h]
  exact h2 h
def Same(H H':Hp):Prop:=∀b o,H b=some o->H' b=some o
theorem Same.refl(H:Hp):Same H H:=λ_ _ h=>h
theorem Same.trans{H H1 H2:Hp}(a:Same H H1)(b:Same H1 H2):Same H H2:=λc o h=>b c o (a c o h)
theorem Same.free{H H':Hp}(e:Same H H'){l:Addr}(h:H' l=Option.none):H l=Option.none:=by
 cases q:H l with
 |none=>rfl
 |some o=>
  rw[e l o q]at h
  cases h
end L2
namespace L2
open PySem PySem.Spec PyProof.Rows
theorem sN{env:Env}:∀(names:List (Str×NameKind)) (acc:List (Str×Addr)),(∀y∈names,y.2=.free->∃c,env.cells.lookup y.1=some c) ->
  ∃cl,(forIn names acc (λ(x:Str×NameKind) (cs:List (Str×Addr))=>if (x.2==NameKind.free)=true then(do let c <- cellOf env x.1;pure (ForInStep.yield ((x.1,c)::cs))) else pure (ForInStep.yield cs)):Sem (List (Str×Addr)))=pure cl /\
   (∀x c,cl.lookup x=some c->env.cells.lookup x=some c\/acc.lookup x=some c)/\(∀x c,acc.lookup x=some c->∃c',cl.lookup x=some c')/\∀y∈names,y.2=.free->∃c,cl.lookup y.1=some c
 |[],acc,_=>⟨acc,rfl,λ_ _ h=>.inr h,λ_ c h=>⟨c,h⟩,λ_ h=>nomatch h⟩
 |(n,k)::r,acc,h=>by
  rw[List.forIn_cons]
  by_cases hk:k=.free
  ·subst hk
   obtain⟨c,hc⟩:=h (n,.free) List.mem_cons_self rfl
   obtain⟨cl,h1,h2,h3,h4⟩:=sN r ((n,c)::acc) λy hy=>h y (List.mem_cons_of_mem _ hy)
   refine⟨cl,?_,λx d e=>?_,λx d e=>?_,λy hy e=>?_⟩
   ·have e1:cellOf env n=pure c:=by unfold cellOf;rw[hc]
    simp only[beq_self_eq_true,if_true,e1,pure_bind]
    exact h1
   ·rcases h2 x d e with z|z
    ·exact .inl z
    ·rw[List.lookup_cons]at z
     split at z
     ·rename_i hx
      cases z
      have:x=n:=eq_of_beq hx
      subst this
      exact .inl hc
     ·exact .inr z
   ·refine h3 x (if x==n then c else d) ?_
    rw[List.lookup_cons]
    cases hx:x==n with
    |true=>simp[hx]
    |false=>simp[hx,e]
   ·rcases List.mem_cons.mp hy with z|z
    ·subst z
     exact h3 n c (by simp[List.lookup_cons])
    ·exact h4 y z e
  ·have hb:(k==NameKind.free)=false:=by simpa using hk
   obtain⟨cl,h1,h2,h3,h4⟩:=sN r acc λy hy=>h y (List.mem_cons_of_mem _ hy)
   refine⟨cl,?_,h2,h3,λy hy e=>?_⟩
   ·simp only[hb,Bool.false_eq_true,if_false,pure_bind]
    exact h1
   ·rcases List.mem_cons.mp hy with z|z
    ·subst z
     exact absurd e hk
    ·exact h4 y z e
theorem yU{scope:Scope}{env:Env}(h:∀y∈scope.names,y.2=.free->∃c,env.cells.lookup y.1=some c):
  ∃cl,closureFor scope env=pure cl/\(∀x c,cl.lookup x=some c->env.cells.lookup x=some c)/\∀y∈scope.names,y.2=.free->∃c,cl.lookup y.1=some c:=by
 obtain⟨cl,h1,h2,h3,h4⟩:=sN scope.names [] h
 refine⟨cl,?_,λx c e=>(h2 x c e).elim id λz=>(by cases z),h4⟩
 unfold closureFor
 refine Eq.trans ?_ h1
 refine Eq.trans (bind_pure _) ?_
 rfl
theorem xW{env:Env}:∀{names:List (Str×NameKind)}{x:Str},names.lookup x=some .free ->
  (names.map λ(n,k)=>if (k==NameKind.free&&env.scope.kind==.function&&env.kindOf n==some .cell) then(n,NameKind.cell) else(n,k)).lookup x=some .cell \/
  (names.map λ(n,k)=>if (k==NameKind.free&&env.scope.kind==.function&&env.kindOf n==some .cell) then(n,NameKind.cell) else(n,k)).lookup x=some .free
 |[],_,h=>by simp at h
 |(n,k)::r,x,h=>by
  have ih:=@xW env r x
  show List.lookup x ((if (k==NameKind.free&&env.scope.kind==.function&&env.kindOf n==some .cell)=true then(n,NameKind.cell) else(n,k))::_)=_\/List.lookup x ((if (k==NameKind.free&&env.scope.kind==.function&&env.kindOf n==some .cell)=true then(n,NameKind.cell) else(n,k))::_)=_
  by_cases hc:(k==NameKind.free&&env.scope.kind==.function&&env.kindOf n==some .cell)=true
  ·rw[if_pos hc]
   cases hx:x==n with
   |true=>simp only[List.lookup_cons,hx];exact .inl trivial
   |false=>
    simp only[List.lookup_cons,hx]at h ⊢
    exact ih h
  ·rw[if_neg hc]
   cases hx:x==n with
   |true=>
    simp only[List.lookup_cons,hx]at h ⊢
    exact .inr h
   |false=>
    simp only[List.lookup_cons,hx]at h ⊢
    exact ih h
theorem yG{env:Env}{names:List (Str×NameKind)}(hn:∀y∈names,y.2≠.cell){x:Str}{k:NameKind}(hk:k=.cell\/k=.free)
  (h:(names.map λ(n,k)=>if (k==NameKind.free&&env.scope.kind==.function&&env.kindOf n==some .cell) then(n,NameKind.cell) else(n,k)).lookup x=some k):(x,NameKind.free)∈names:=by
 obtain⟨⟨n,k'⟩,hm,e⟩:=List.mem_map.mp (PySem.mem_of_lookup h)
 simp only at e
 split at e
 ·rename_i hc
  rw[Bool.and_eq_true,Bool.and_eq_true]at hc
  have:k'=.free:=eq_of_beq hc.1.1
  subst this
  injection e with e1 _
  subst e1
  exact hm
 ·injection e with e1 e2
  subst e1 e2
  rcases hk with z|z
  ·exact absurd z (hn _ hm)
  ·subst z;exact hm
def cD(X:Cx)(N:List Str)(scope:Scope)(cl:List (Str×Addr))(C:Addr)(fp:List Addr)(s:Shared)(H:Hp):Cx where
 prog:=X.prog
 w:=X.w
 K:=X.K
 mg:=X.mg
 base:=X.base
 A:=X.A
 N:=N
 s₀:=s
 H₀:=H
 env:=compEnvC scope cl C X.env
 outer:=X.stack
 stack:=X.stack
 ex:=fp
 fn:=λ_=>false
 calm:=X.calm
 pn:=[]
 xe:=λ_ _=>False
structure kU (sc:Scope) (XN N:List Str) (own:Nat) (fr:List Nat) (scope:Scope):Prop where
 kind:scope.kind=.function
 nocell:∀y∈scope.names,y.2≠.cell
 free:∀y∈scope.names,y.2=.free->sc.names.lookup y.1=some .cell\/sc.names.lookup y.1=some .free
 loc:∀y∈scope.names,y.2=.local->scope.names.lookup y.1=some .local
 names:N.drop own=fr.filterMap λi=>XN[i]?
 frl:∀i∈fr,i<XN.length
 len:own<=N.length
 vis:∀x∈N.drop own,scope.names.lookup x=some .free
def σf(fr:List Nat)(σ:St):St:=fr.map λi=>σ.getD i none
def σc(own:Nat)(fr:List Nat)(σ:St):St:=List.replicate own none++σf fr σ
section
variable{X:Cx}{pins:List (Addr×Obj)}{σ:St}{H:Hp}{s:Shared}{N:List Str}{own:Nat}{fr:List Nat}{scope:Scope}
theorem xY{XN:List Str}:∀{fr:List Nat},(∀i∈fr,i<XN.length)->∀(j:Nat),(fr.filterMap λi=>XN[i]?)[j]?=(fr[j]?).bind λi=>XN[i]?
 |[],_,j=>by simp
 |i::r,h,j=>by
  have hi:i<XN.length:=h i List.mem_cons_self
  rw[List.filterMap_cons,List.getElem?_eq_getElem hi]
  cases j with
  |zero=>simp[hi]
  |succ j=>simpa using xY (λk hk=>h k (List.mem_cons_of_mem _ hk)) j
theorem zFM{cl:List (Str×Addr)}{fp:List Addr}{h':Heap}(I:Inv X pins σ H s)(S:kU X.env.scope X.N N own fr scope)(hcl:∀x c,cl.lookup x=some c->X.env.cells.lookup x=some c)
  (hcf:∀y∈scope.names,y.2=.free->∃c,cl.lookup y.1=some c) (hfp:∀b∈fp,eY X pins H b) (hfo:∀b∈fp,∃o,s.heap.get? b=some o)
  (hns:h'.Ns s.heap.objs.size λ_=>none) (hk:∀b o,s.heap.get? b=some o->h'.get? b=some o):
  Inv (cD X N scope cl s.heap.objs.size fp s H) [] (σc own fr σ) H {s with heap:=h'}:=by
 have kindE:∀x,(Env.kindOf (compEnvC scope cl s.heap.objs.size X.env) x)=(relabel scope X.env).names.lookup x:=λx=>rfl
 have memF:∀x,(Env.kindOf (compEnvC scope cl s.heap.objs.size X.env) x=some .cell\/Env.kindOf (compEnvC scope cl s.heap.objs.size X.env) x=some .free)->(x,NameKind.free)∈scope.names:=λx hx=>by
  rcases hx with z|z
  ·exact yG (env:=X.env) S.nocell (.inl rfl) z
  ·exact yG (env:=X.env) S.nocell (.inr rfl) z
 refine⟨⟨I.ok.mod,S.kind,I.ok.glob,I.ok.blt,Nat.le_refl _,λx y c h1 h2=>I.ok.inj x y c (hcl x c h1) (hcl y c h2),λx hx=>hcf (x,.free) (memF x hx) rfl,λx c h=>absurd (show false=true from h) (by decide),I.ok.hd,I.ok.frames,.inl rfl,λb hb=>?_,I.bs,Nat.le_trans I.ok.bsz I.sz,λb o e hb=>?_,λb hb z=>?_,I.stack,I.stkFree⟩,
  rfl,I.bare,Un.kept hk,⟨_,hns,λi x v e1 e2 e3=>?_⟩,λx c e=>?_,I.hok.fresh (Nat.le_refl _),λx c e=>I.freeC x c (hcl x c e),λp hp=>absurd (show p∈([]:List (Addr×Obj)) from hp) (by simp),I.hok.kept hk,?_⟩
 ·obtain⟨o,ho⟩:=hfo b hb
  exact⟨Nat.ne_of_lt (Heap.lt_size ho),λx c e=>(hfp b hb).2.2.2.2.1 x c (hcl x c e)⟩
 ·rcases (hfp b hb).2.2.2.1 with z|z
  ·exact I.ok.noex b o e z
  ·exact absurd (Nat.lt_of_lt_of_le (Heap.lt_size (I.ok.bs b o e).1) z) (Nat.lt_irrefl _)
 ·rcases List.mem_cons.mp (I.stkSub b z) with q|q
  ·exact(hfp b hb).2.1 q
  ·exact(hfp b hb).2.2.1 q
 ·have hi:own<=i:=by
   rcases Nat.lt_or_ge i own with z|z
   ·have e2':(σc own fr σ)[i]?=some (some v):=e2
    unfold σc at e2'
    rw[List.getElem?_append_left (by simpa using z),List.getElem?_replicate]at e2'
    split at e2'<;>cases e2'
   ·exact z
  have e2':(σf fr σ)[i-own]?=some (some v):=by
   have e2':(σc own fr σ)[i]?=some (some v):=e2
   unfold σc at e2'
   rw[List.getElem?_append_right (by simpa using hi)]at e2'
   simpa using e2'
  have e1':(N.drop own)[i-own]?=some x:=by
   have e1':N[i]?=some x:=e1
   rw[List.getElem?_drop]
   rw[show own+(i-own)=i by omega]
   exact e1'
  have hv:scope.names.lookup x=some .free:=S.vis x (List.mem_of_getElem? e1')
  have hx:X.env.scope.names.lookup x=some .cell\/X.env.scope.names.lookup x=some .free:=S.free (x,.free) (PySem.mem_of_lookup hv) rfl
  rw[S.names,xY S.frl]at e1'
  unfold σf at e2'
  rw[List.getElem?_map]at e2'
  cases q:fr[i-own]? with
  |none=>rw[q]at e2';cases e2'
  |some j=>
   rw[q]at e1' e2'
   have e1'':X.N[j]?=some x:=e1'
   have e2'':σ.getD j none=some v:=Option.some.inj e2'
   have e3':σ[j]?=some (some v):=by
    rw[List.getD_eq_getElem?_getD]at e2''
    cases z:σ[j]? with
    |none=>rw[z]at e2'';cases e2''
    |some y=>rw[z]at e2'';exact congrArg some e2''
   obtain⟨m,hn,hl⟩:=I.loc
   obtain⟨u,r,l⟩:=hl j x v e1'' e3' (.inr hx)
   refine⟨u,r,.inr ⟨xW (env:=X.env) hv,?_⟩⟩
   rcases l with⟨k,_⟩|⟨_,c,hc,z⟩
   ·have k':X.env.scope.names.lookup x=some .local:=k
    rw[k']at hx
    rcases hx with z|z<;>cases z
   ·obtain⟨c',hc'⟩:=hcf (x,.free) (PySem.mem_of_lookup hv) rfl
    have:=hcl x c' hc'
    rw[hc]at this
    cases this
    exact⟨c,hc',z.keeps hk⟩
 ·obtain⟨v,z⟩:=I.cell x c (hcl x c e)
  exact⟨v,z.keeps hk⟩
 ·show(σc own fr σ).length=N.length
  unfold σc σf
  have h1:=congrArg List.length S.names
  have h2:(fr.filterMap λi=>X.N[i]?).length=fr.length:=by
   have:∀(l:List Nat),(∀i∈l,i<X.N.length)->(l.filterMap λi=>X.N[i]?).length=l.length:=by
    intro l
    induction l with
    |nil=>intro _;rfl
    |cons i r ih=>
     intro h
     rw[List.filterMap_cons,List.getElem?_eq_getElem (h i List.mem_cons_self)]
     simp[ih λk hk=>h k (List.mem_cons_of_mem _ hk)]
   exact this fr S.frl
  rw[List.length_drop,h2]at h1
  rw[List.length_append,List.length_replicate,List.length_map]
  have:=S.len
  omega
end
section
variable{prog:Program}{w:World}{A:Around}{R:Result->Shared->Prop}{s:Shared}
theorem zDl{elt target iter:Expr}{ifs:List Expr}{scope:Scope}{pos:Pos}{it acc:Value}{env:Env}(I:Nat->Shared->Prop)
  (turn:∀n s,I n s->wpAny (model prog w) A (pyNext it) (λr s₁=>match r with
   |none=>R (.ok .next) s₁
   |some v=>wpAny (model prog w) A (letOwnedTupleGo target it v) (λ_ s'=>wpAny (model prog w) A (assign target env v) (λ_ s₂=>
     wpAny (model prog w) A (forIn ifs true λc r=>if r=true then do let ok <- isTrue c env (eval c env);pure (ForInStep.yield ok) else pure (ForInStep.yield r)) (λok s₃=>
      if ok=true then wpAny (model prog w) A (eval elt env) (λx s₄=>
       wpAny (model prog w) A (call (.builtin "list.append") [acc,x]) (λ_ s₅=>∃m,m<n/\I m s₅) (λ_ _=>False) s₄) (λ_ _=>False) s₃
      else ∃m,m<n/\I m s₃) (λ_ _=>False) s₂) (λ_ _=>False) s') (λ_ _=>False) s₁) (λ_ _=>False) s)
  (n:Nat) (h:I n s):codeAny (model prog w) A (.compLoop (.ListComp elt [⟨target,iter,ifs,0⟩] scope pos) 0 it acc env) R s:=by
 refine codeAny_loop rfl I (λn s hI=>?_) n h
 show wpAny _ A ((compTurn (.ListComp elt [⟨target,iter,ifs,0⟩] scope pos) 0 it acc env).onRaise (λx=>do noteFrame x env;theTreesLotGoes x)) _ _ s
 refine wpAny_noted ?_
 rw[compTurn_list]
 refine wpAny_bind (wpAny_standAt (wpAny_bind (wpAny_mono (turn n s hI) (λr s₁ h₁=>?_) λ_ _ z=>False.elim z)))
 cases r with
 |none=>exact wpAny_pure h₁
 |some v=>
  refine wpAny_bind (wpAny_mono h₁ (λ_ s' h'=>?_) λ_ _ z=>False.elim z)
  refine wpAny_bind (wpAny_mono h' (λ_ s₂ h₂=>wpAny_bind (wpAny_mono h₂ (λok s₃ h₃=>?_) λ_ _ z=>False.elim z)) λ_ _ z=>False.elim z)
  cases ok with
  |false=>exact wpAny_pure ⟨rfl,h₃⟩
  |true=>
   exact wpAny_bind (wpAny_bind (wpAny_mono h₃ (λx s₄ h₄=>wpAny_bind (wpAny_mono h₄ (λ_ s₅ h₅=>wpAny_pure (wpAny_pure ⟨rfl,h₅⟩)) λ_ _ z=>False.elim z)) λ_ _ z=>False.elim z))
end
def zCi(J:It)(a:Addr)(own:Nat)(fr:List Nat)(g:TG)(tf:TT)(te:TE)(σ:St)(H1:Hp)(Q:VK):Prop:=
 ∃(n:Nat) (Pv:Nat->List V->Hp->Prop),Pv 0 [] (upd H1 a (.lst []))/\∀i ys H2,i<=n->H2 a=some (.lst ys)->Pv i ys H2 ->
  (J.stop i H2/\Q (.ref a) H2)\/(i<n/\J.go i H2/\∀x H3,J.yld i H2 x H3->g x (σc own fr σ) H3 λσ4 H4=>(∃ow,ow.length=own/\σ4=ow++σf fr σ)/\tf σ4 H4 λb H5=>
   if b=true then te σ4 H5 λy H6=>H6 a=some (.lst ys)/\ys.length<sizeLine/\Pv (i+1) (ys++[y]) (upd H6 a (.lst (ys++[y])))
   else H5 a=some (.lst ys)/\Pv (i+1) ys H5)
def PFs(X:Cx)(ifs:List Expr)(t:TT):Prop:=
 ∀(pins:List (Addr×Obj)) (s:Shared) (σ:St) (H:Hp) (Q:Bool->Hp->Prop),Inv X pins σ H s->t σ H Q ->
  wpAny (model X.prog X.w) X.A (forIn ifs true λc r=>if r=true then do let ok <- isTrue c X.env (eval c X.env);pure (ForInStep.yield ok) else pure (ForInStep.yield r)) (TP X pins σ Q) X.xe s
def zIP:TT:=λ_ H Q=>Q true H
theorem zHO{X:Cx}:PFs X [] zIP:=λpins s σ H Q I h=>wpAny_tests_nil ⟨H,I,h⟩
theorem zHN{X:Cx}{c:Expr}{t:TT}(h:PT X c t):PFs X [c] t:=λpins s σ H Q I hw=>wpAny_tests_one (h pins s σ H Q I hw)
section
variable{X:Cx}{pins:List (Addr×Obj)}{σ:St}{H:Hp}{s:Shared}{N:List Str}{own:Nat}{fr:List Nat}{scope:Scope}{cl:List (Str×Addr)}{elt tg iter:Expr}{ifs:List Expr}{pos:Pos}
 {it:Addr} {fp:List Addr} {tn:Nat->Heap->Prop} {J:It} {g:TG} {tf:TT} {te:TE} {Q:VK} {E:Value->Shared->Prop}
theorem yT{RR:Value->Addr->Result->Shared->Prop}(hc:X.calm=true)(S:kU X.env.scope X.N N own fr scope)(hcl:∀x c,cl.lookup x=some c->X.env.cells.lookup x=some c)
  (hcf:∀y∈scope.names,y.2=.free->∃c,cl.lookup y.1=some c)
  (hg:∀C s H,PG (cD X N scope cl C fp s H) tg g) (hf:∀C s H,PFs (cD X N scope cl C fp s H) ifs tf) (he:∀C s H,PE (cD X N scope cl C fp s H) elt te)
  (I:Inv X pins σ H s) (T:iV X.prog X.w X.K tg J fp it tn) (st:tn 0 s.heap) (hfp:∀b∈fp,eY X pins H b) (hw:∀a,H a=none->zCi J a own fr g tf te σ H Q)
  (hRR:∀a C s' H',Inv X pins σ H' s'->Q (.ref a) H'->eY X pins H' C->(∃m,s'.heap.Ns C m)->RR (.ref a) C (.ok .next) s'):
  wpAny (model X.prog X.w) X.A (newList []) (λacc s₃=>wpAny (model X.prog X.w) X.A (newFunctionEnv scope X.env.globals cl [] X.env.qual none .none (some X.env)) (λcenv s₄=>
   codeAny (model X.prog X.w) X.A (.compStart (.ListComp elt [⟨tg,iter,ifs,0⟩] scope pos) 0 (.ref it) acc {cenv with scope:=relabel scope X.env}) (RR acc cenv.locals) s₄) E s₃) E s:=by
 refine wpAny_newObj_type (wpAny_newFunctionEnv S.nocell (by intro y hy;simp at hy) (λh₁ hns₁ hsb₁=>?_) S.kind)
 dsimp only at hns₁ hsb₁ ⊢
 have I3:Inv X pins σ (upd H s.heap.objs.size (.lst [])) {s with heap:=s.heap.push {cls:=.type "list",dict:=none,data:=.seq ([]:List Value).toArray}}:=I.lnew (ys:=[]) (t':=s.toks) .nil (Nat.zero_le _)
 have hfo:∀b∈fp,∃o,s.heap.get? b=some o:=λb hb=>let ⟨o,ho,_⟩:=T.obj _ _ st b hb;⟨o,ho⟩
 have hlt:∀b∈fp,b<s.heap.objs.size:=λb hb=>let ⟨o,ho⟩:=hfo b hb;Heap.lt_size ho
 have fp3:∀b∈fp,eY X pins (upd H s.heap.objs.size (.lst [])) b:=λb hb=>⟨by rw[bD (Nat.ne_of_lt (hlt b hb))];exact(hfp b hb).1,(hfp b hb).2⟩
 obtain⟨n0,W,w0,turn⟩:=hw s.heap.objs.size I.fresh
 generalize hs3:({s with heap:=s.heap.push {cls:=.type "list",dict:=none,data:=.seq ([]:List Value).toArray}}:Shared)=s3 at I3
 have eh:s3.heap=s.heap.push {cls:=.type "list",dict:=none,data:=.seq ([]:List Value).toArray}:=by rw[<-hs3]
 rw[<-eh]at hns₁ hsb₁ ⊢
 have hk:∀b o,s3.heap.get? b=some o->h₁.get? b=some o:=λb o e=>hsb₁.extBut b o (Nat.ne_of_lt (Heap.lt_size e)) (Heap.get?_push_of_some _ e)
 have hk0:∀b o,s.heap.get? b=some o->s3.heap.get? b=some o:=λb o e=>by rw[eh];exact Heap.get?_push_of_some _ e
 have J0:Inv (cD X N scope cl s3.heap.objs.size fp s3 (upd H s.heap.objs.size (.lst []))) [] (σc own fr σ) (upd H s.heap.objs.size (.lst [])) {s3 with heap:=h₁}:=
  zFM I3 S hcl hcf fp3 (λb hb=>let ⟨o,ho⟩:=hfo b hb;⟨o,hk0 b o ho⟩) hns₁ hk
 have st0:tn 0 h₁:=T.keep _ _ _ st λb _ o e=>hk b o (hk0 b o e)
 have stat:∀{H':Hp},(∀b∈fp,H' b=none)->∀b∈fp,eY (cD X N scope cl s3.heap.objs.size fp s3 (upd H s.heap.objs.size (.lst []))) [] H' b:=λhn b hb=>
  ⟨hn b hb,(J0.ok.exf b hb).1,J0.ok.exfs b hb,.inl hb,(J0.ok.exf b hb).2,λp hp=>absurd (show p∈([]:List (Addr×Obj)) from hp) (by simp)⟩
 have loop:∀s4:Shared,s4={s3 with heap:=h₁}->codeAny (model X.prog X.w) X.A (.compLoop (.ListComp elt [⟨tg,iter,ifs,0⟩] scope pos) 0 (.ref it) (.ref s.heap.objs.size) (compEnvC scope cl s3.heap.objs.size X.env))
   (RR (.ref s.heap.objs.size) s3.heap.objs.size) s4:=by
  rintro s4 rfl
  refine zDl (λn s'=>∃i ow H' ys,Inv (cD X N scope cl s3.heap.objs.size fp s3 (upd H s.heap.objs.size (.lst []))) [] (ow++σf fr σ) H' s'/\ow.length=own/\tn i s'.heap/\(∀b∈fp,H' b=none)/\H' s.heap.objs.size=some (.lst ys)/\(n=n0-i/\i<=n0)/\W i ys H') ?_ n0
   ⟨0,List.replicate own none,_,[],J0,by simp,st0,λb hb=>(fp3 b hb).1,bF,⟨rfl,Nat.zero_le _⟩,w0⟩
  rintro n s5 ⟨i,ow,H5,ys,I5,hlo,st5,fr5,ha5,⟨rfl,hi5⟩,w5⟩
  rcases turn i ys H5 hi5 ha5 w5 with⟨stop,qn⟩|⟨hin,go,step⟩
  ·refine thn (T.done (cD X N scope cl s3.heap.objs.size fp s3 (upd H s.heap.objs.size (.lst []))) rfl rfl rfl hc i [] s5 _ H5 (λ_ _=>False) I5 (stat fr5) st5 stop) λr s6 ⟨hr,I6⟩=>?_
   subst hr
   have IX:Inv X pins σ H5 s6:=I3.call' I6.os I6.base I6.hok I6.bare λb hb=>let ⟨_,f2,_,f4,f5,f6⟩:=fp3 b hb;⟨f4,f2,f5,f6⟩
   refine hRR _ _ s6 H5 IX qn (I3.fpOk (Nat.le_refl _) I6.free) ?_
   obtain⟨m,hn,_⟩:=I6.loc
   exact⟨m,hn⟩
  ·refine thn (T.item (cD X N scope cl s3.heap.objs.size fp s3 (upd H s.heap.objs.size (.lst []))) rfl rfl rfl hc i [] s5 _ H5 (λ_ _=>False) I5 (stat fr5) st5 go) λr s6 ⟨u,hr,h6⟩=>?_
   subst hr
   refine thn h6 λ_ s7 ⟨x,H7,I7,r7,y7,st7,fr7⟩=>?_
   have I7':=(I7.pinned (stat fr7) (T.obj _ _ st7)).weak (σ':=σc own fr σ) (by unfold σc;simp[hlo]) (λj v e=>by
    unfold σc at e
    rcases Nat.lt_or_ge j own with z|z
    ·rw[List.getElem?_append_left (by simpa using z),List.getElem?_replicate]at e
     split at e<;>cases e
    ·rw[List.getElem?_append_right (by simpa using z)]at e
     rw[List.getElem?_append_right (by rw[hlo];exact z),hlo]
     simpa using e)
   refine thn (hg _ _ _ _ s7 _ H7 x u _ I7' r7 (step x H7 y7)) λ_ s8 ⟨σ8,H8,I8,⟨ow8,hl8,e8⟩,q8⟩=>?_
   refine thn (hf _ _ _ _ s8 _ H8 _ I8 q8) λok s9 ⟨H9,I9,q9⟩=>?_
   have again:∀{H':Hp} {s':Shared},Inv (cD X N scope cl s3.heap.objs.size fp s3 (upd H s.heap.objs.size (.lst []))) ([]++nI fp s7.heap) σ8 H' s'->∀{ys':List V},H' s.heap.objs.size=some (.lst ys')->W (i+1) ys' H' ->
     ∃m,m<n0-i/\∃i ow H' ys,Inv (cD X N scope cl s3.heap.objs.size fp s3 (upd H s.heap.objs.size (.lst []))) [] (ow++σf fr σ) H' s'/\ow.length=own/\tn i s'.heap/\(∀b∈fp,H' b=none)/\H' s.heap.objs.size=some (.lst ys)/\(m=n0-i/\i<=n0)/\W i ys H':=λ{H' s'} I' {ys'} ha hw'=>by
    refine⟨n0-(i+1),by omega,i+1,ow8,H',ys',e8▸I'.unpinned,hl8,T.keep _ _ _ st7 λb hb o e=>(I'.pin (b,o) (List.mem_append_right _ (List.mem_append_right _ (oX hb e)))).1,λb hb=>?_,ha,⟨rfl,hin⟩,hw'⟩
    obtain⟨o,e,_⟩:=T.obj _ _ st7 b hb
    exact(I'.pin (b,o) (List.mem_append_right _ (List.mem_append_right _ (oX hb e)))).2.1
   cases ok with
   |false=>
    have q9':H9 s.heap.objs.size=some (.lst ys)/\W (i+1) ys H9:=by simpa using q9
    obtain⟨ha,hw'⟩:=q9'
    show if false=true then _ else _
    rw[if_neg (by decide)]
    exact again I9 ha hw'
   |true=>
    rw[if_pos rfl]at q9
    show if true=true then _ else _
    rw[if_pos rfl]
    refine thn (he _ _ _ _ s9 _ H9 _ I9 q9) λy s10 ⟨v10,H10,I10,r10,ha10,hz10,hw'⟩=>?_
    refine thn (sY _ s10 _ H10 (.ref s.heap.objs.size) [v10] (.ref s.heap.objs.size) [y] (λ_ H'=>H'=upd H10 s.heap.objs.size (.lst (ys++[v10]))) I10 rfl (.cons r10 .nil) ⟨_,ys,v10,rfl,rfl,ha10,hz10,rfl⟩) λ_ s11 ⟨_,H11,I11,_,e11⟩=>?_
    subst e11
    exact again I11 bF hw'
 exact codeAny_compStart_list (loop _ (by rw[<-hs3];rfl)) (T.self X.A 0 _ _ _ st0 (loop _ (by rw[<-hs3];rfl)))
end
def vV(own:Nat)(fr:List Nat)(wi:TI)(g:TG)(tf:TT)(te:TE):TE:=λσ H Q=>wi σ H λJ H1=>∀a,H1 a=none->zCi J a own fr g tf te σ H1 Q
section
variable{X:Cx}{sc:Scope}{XN N:List Str}{own:Nat}{fr:List Nat}{scope:Scope}{elt tg iter:Expr}{ifs:List Expr}{pos:Pos}{wi:TI}{g:TG}{tf:TT}{te:TE}
theorem zGz(hc:X.calm=true)(S:kU sc XN N own fr scope)(hi:PI X tg iter wi)
  (hg:∀cl C fp s H,PG (cD X N scope cl C fp s H) tg g) (hf:∀cl C fp s H,PFs (cD X N scope cl C fp s H) ifs tf) (he:∀cl C fp s H,PE (cD X N scope cl C fp s H) elt te)
  (hs:∀x,foldedSetIterable iter X.env x=pure x:=by intro _;rfl) (hsc:X.env.scope=sc:=by rfl) (hxn:X.N=XN:=by rfl):PE X (.ListComp elt [⟨tg,iter,ifs,0⟩] scope pos) (vV own fr wi g tf te):=by
 subst hsc hxn
 intro pins s σ H Q I h
 obtain⟨cl,c1,c2,c3⟩:=yU (scope:=scope) (env:=X.env) λy hy e=>I.ok.has y.1 (S.free y hy e)
 rw[eval_ListComp]
 refine wpAny_comprehension_free (use:=none) rfl hs c1 S.kind S.loc (thn (hi pins s σ H _ I h) λxv s1 h1=>thn h1 λitv s2 h2=>?_)
 obtain⟨it,fp,tn,J,H2,e,I2,T,st2,f2,hw⟩:=h2
 subst e
 refine yT hc S c2 c3 (λC s H=>hg cl C fp s H) (λC s H=>hf cl C fp s H) (λC s H=>he cl C fp s H) I2 T st2 f2 hw λa C s' H' I' q fC ⟨m,hn⟩=>?_
 refine⟨m,hn,λh' hs'=>?_⟩
 obtain⟨f0,f1,_,f3,f4,f5⟩:=fC
 exact⟨.ref a,H',I'.turned (t':=s'.toks) (λb o hb e=>hs'.extBut b o hb e) f0 f1 f3 f4 f5,rfl,q⟩
theorem zGr{i:Nat}{x:Str}{pos' spos:Pos}(hc:X.calm=true)(hN:X.N.Nodup)(hx:X.N[i]?=some x)(hl:Loc X.env.scope x)(S:kU sc XN N own fr scope)(hi:PI X tg iter wi)
  (hg:∀cl C fp s H,PG (cD X N scope cl C fp s H) tg g) (hf:∀cl C fp s H,PFs (cD X N scope cl C fp s H) ifs tf) (he:∀cl C fp s H,PE (cD X N scope cl C fp s H) elt te)
  (hsw:swapsWith (.ListComp elt [⟨tg,iter,ifs,0⟩] scope pos) (some (.Name x pos')) spos.line X.env=pure true:=by rfl)
  (hf':X.fn x=true\/X.env.scope.names.lookup x=some .local:=by first|exact .inl rfl|exact .inr rfl|assumption)
  (hs:∀x,foldedSetIterable iter X.env x=pure x:=by intro _;rfl) (hsc:X.env.scope=sc:=by rfl) (hxn:X.N=XN:=by rfl):PS X (.Assign [.Name x pos'] (.ListComp elt [⟨tg,iter,ifs,0⟩] scope pos) spos) (rL (vV own fr wi g tf te) (rE i)):=by
 subst hsc hxn
 intro pins s σ H D I h
 obtain⟨cl,c1,c2,c3⟩:=yU (scope:=scope) (env:=X.env) λy hy e=>I.ok.has y.1 (S.free y hy e)
 rw[exec_Assign_Name_used _ _ _ _ hsw]
 refine wpAny_bind (wpAny_standAt (wpAny_bind ?_))
 show wpAny _ X.A (do let _ <- comprehension (.ListComp elt [⟨tg,iter,ifs,0⟩] scope pos) scope X.env _ (newList []) false (eval iter X.env) (some (assign (.Name x pos') X.env))) _ _ s
 refine wpAny_bind (wpAny_mono (wpAny_comprehension_free (use:=some (assign (.Name x pos') X.env)) (Q:=λ_ s'=>SP X pins D .next s') rfl hs c1 S.kind S.loc
  (thn (hi pins s σ H _ I h) λxv s1 h1=>thn h1 λitv s2 h2=>?_)) (λ_ s' hq=>wpAny_pure (wpAny_pure hq)) λ_ _ e=>e)
 obtain⟨it,fp,tn,J,H2,e,I2,T,st2,f2,hw⟩:=h2
 subst e
 refine yT hc S c2 c3 (λC s H=>hg cl C fp s H) (λC s H=>hf cl C fp s H) (λC s H=>he cl C fp s H) I2 T st2 f2 hw λa C s' H' I' q fC ⟨m,hn⟩=>?_
 obtain⟨f0,f1,f2',f3,f4,f5⟩:=fC
 show wpAny _ _ (assign (.Name x pos') X.env (.ref a)) _ _ _
 refine wpAny_assign_Name (yY I' hN hx hl (show RelV (.ref a) (.ref a) from rfl) (λs2 J2 ⟨b,hb,hb'⟩=>?_) hf')
 have hbC:C≠b:=by
  rcases hb' with z|z
  ·rw[z];exact f1
  ·exact λe=>f4 _ _ z e.symm
 refine⟨m,hn.sameBut hb hbC,λh' hs'=>?_⟩
 exact⟨_,H',J2.turned (t':=s2.toks) (λb o hb e=>hs'.extBut b o hb e) f0 f1 f3 f4 f5,q⟩
end
end L2
namespace L2
open PySem PySem.Spec PyProof.Rows
section
variable{X:Cx}
def TyV(K:W.Frag)(T:String)(x:V)(H:Hp)(b:Bool):Prop:=match x with
 |.non=>b=false
 |.bl _=>b=(T=="bool" || T=="int")
 |.int _=>b=(T=="int")
 |.str _=>b=(T=="str")
 |.ref a=>(∃xs,SqL K H a xs/\b=(T=="list"))\/(∃xs,SqT K H a xs/\b=(T=="tuple"))\/(∃kvs,Rd H a (.dK kvs)/\b=(T=="dict"))
 |_=>False
theorem pH{prog:Program}{w:World}{A:Around}{E:Value->Shared->Prop}{s:Shared}{Q:Value->Shared->Prop}{T:String}(hne:(Value.type "NoneType"==Value.type T)=false)(hty:typeOf (.type T)=pure (.type "type"))
  (hsub:isSubtype (.type "NoneType") (.type T)=pure false) (h:Q (.bool false) {s with toks:=s.toks+1}):wpAny (model prog w) A (call (.builtin "isinstance") [.none,.type T]) Q E s:=
 call_isinstance (S:=λ_ R s=>R (.ok (.ret (.bool false))) {s with toks:=s.toks+1}) (λ_ _ _ _ s hs=>by
  obtain⟨h,g,d,t,os⟩:=s
  exact isinstance_outer (isinstance_nested_false_none hne hty hsub hs)) h
theorem Inv.lcls{pins:List (Addr×Obj)}{σ:St}{H:Hp}{s:Shared}{a:Addr}{xs:List V}(I:Inv X pins σ H s)(h:SqL X.K H a xs):∃o,s.heap.get? a=some o/\o.cls=.type "list":=by
 obtain⟨its,r,pl,hz⟩:=I.list h
 obtain⟨o,ho,hc,_⟩:=pl.isList
 exact⟨o,ho,hc⟩
theorem Inv.tcls{pins:List (Addr×Obj)}{σ:St}{H:Hp}{s:Shared}{a:Addr}{xs:List V}(I:Inv X pins σ H s)(h:SqT X.K H a xs):∃o,s.heap.get? a=some o/\o.cls=.type "tuple":=by
 obtain⟨its,r,⟨o,ho,hc,_⟩,hz⟩:=I.tuple h
 exact⟨o,ho,hc⟩
theorem Inv.dcls{pins:List (Addr×Obj)}{σ:St}{H:Hp}{s:Shared}{a:Addr}{kvs:List (Key×V)}(I:Inv X pins σ H s)(h:Rd H a (.dK kvs)):∃o,s.heap.get? a=some o/\o.cls=.type "dict":=by
 obtain⟨_,_,vs,_,dd⟩:=h.ok I.hok
 obtain⟨o,ho,hc⟩:=dd.typeIs
 exact⟨o,ho,hc⟩
theorem zDo:CallR X (.builtin "isinstance") (λxs H Q=>∃x b,xs=[x,.ty "int"]/\TyV X.K "int" x H b/\Q (.bl b) H):=by
 intro pins s σ H xs us Q I r h
 obtain⟨x,b,rfl,hx,q⟩:=h
 obtain⟨u,w',rfl,rx,ry⟩:=lO r
 cases ry
 cases x with
 |non=>cases rx;cases hx;exact pH (by decide +kernel) F.isi_meta_int F.sub_NoneType_int ⟨.bl _,H,I.tok _,rfl,q⟩
 |bl k=>cases rx;cases hx;exact IsiPair.bool_int ⟨.bl _,H,I,rfl,q⟩
 |int i=>obtain⟨t,rfl⟩:=rx;cases hx;exact IsiPair.int_int ⟨.bl _,H,I,rfl,q⟩
 |str i=>obtain⟨t,rfl⟩:=rx;cases hx;exact IsiPair.str_int ⟨.bl _,H,I.tok _,rfl,q⟩
 |ref a=>
  cases rx
  rcases hx with⟨xs,hx,rfl⟩|⟨xs,hx,rfl⟩|⟨xs,hx,rfl⟩
  ·obtain⟨o,ho,hc⟩:=I.lcls hx;exact IsiPair.list_int ho hc ⟨.bl _,H,I.tok _,rfl,q⟩
  ·obtain⟨o,ho,hc⟩:=I.tcls hx;exact IsiPair.tuple_int ho hc ⟨.bl _,H,I.tok _,rfl,q⟩
  ·obtain⟨o,ho,hc⟩:=I.dcls hx;exact IsiPair.dict_int ho hc ⟨.bl _,H,I.tok _,rfl,q⟩
 |_=>exact False.elim hx
theorem sO:CallR X (.builtin "isinstance") (λxs H Q=>∃x b,xs=[x,.ty "bool"]/\TyV X.K "bool" x H b/\Q (.bl b) H):=by
 intro pins s σ H xs us Q I r h
 obtain⟨x,b,rfl,hx,q⟩:=h
 obtain⟨u,w',rfl,rx,ry⟩:=lO r
 cases ry
 cases x with
 |non=>cases rx;cases hx;exact pH (by decide +kernel) F.isi_meta_bool F.sub_NoneType_bool ⟨.bl _,H,I.tok _,rfl,q⟩
 |bl k=>cases rx;cases hx;exact IsiPair.bool_bool ⟨.bl _,H,I,rfl,q⟩
 |int i=>obtain⟨t,rfl⟩:=rx;cases hx;exact IsiPair.int_bool ⟨.bl _,H,I.tok _,rfl,q⟩
 |str i=>obtain⟨t,rfl⟩:=rx;cases hx;exact IsiPair.str_bool ⟨.bl _,H,I.tok _,rfl,q⟩
 |ref a=>
  cases rx
  rcases hx with⟨xs,hx,rfl⟩|⟨xs,hx,rfl⟩|⟨xs,hx,rfl⟩
  ·obtain⟨o,ho,hc⟩:=I.lcls hx;exact IsiPair.list_bool ho hc ⟨.bl _,H,I.tok _,rfl,q⟩
  ·obtain⟨o,ho,hc⟩:=I.tcls hx;exact IsiPair.tuple_bool ho hc ⟨.bl _,H,I.tok _,rfl,q⟩
  ·obtain⟨o,ho,hc⟩:=I.dcls hx;exact IsiPair.dict_bool ho hc ⟨.bl _,H,I.tok _,rfl,q⟩
 |_=>exact False.elim hx
theorem yB:CallR X (.builtin "isinstance") (λxs H Q=>∃x b,xs=[x,.ty "str"]/\TyV X.K "str" x H b/\Q (.bl b) H):=by
 intro pins s σ H xs us Q I r h
 obtain⟨x,b,rfl,hx,q⟩:=h
 obtain⟨u,w',rfl,rx,ry⟩:=lO r
 cases ry
 cases x with
 |non=>cases rx;cases hx;exact pH (by decide +kernel) F.isi_meta_str F.sub_NoneType_str ⟨.bl _,H,I.tok _,rfl,q⟩
 |bl k=>cases rx;cases hx;exact IsiPair.bool_str ⟨.bl _,H,I.tok _,rfl,q⟩
 |int i=>obtain⟨t,rfl⟩:=rx;cases hx;exact IsiPair.int_str ⟨.bl _,H,I.tok _,rfl,q⟩
 |str i=>obtain⟨t,rfl⟩:=rx;cases hx;exact IsiPair.str_str ⟨.bl _,H,I,rfl,q⟩
 |ref a=>
  cases rx
  rcases hx with⟨xs,hx,rfl⟩|⟨xs,hx,rfl⟩|⟨xs,hx,rfl⟩
  ·obtain⟨o,ho,hc⟩:=I.lcls hx;exact IsiPair.list_str ho hc ⟨.bl _,H,I.tok _,rfl,q⟩
  ·obtain⟨o,ho,hc⟩:=I.tcls hx;exact IsiPair.tuple_str ho hc ⟨.bl _,H,I.tok _,rfl,q⟩
  ·obtain⟨o,ho,hc⟩:=I.dcls hx;exact IsiPair.dict_str ho hc ⟨.bl _,H,I.tok _,rfl,q⟩
 |_=>exact False.elim hx
theorem hJ:CallR X (.builtin "isinstance") (λxs H Q=>∃x b,xs=[x,.ty "tuple"]/\TyV X.K "tuple" x H b/\Q (.bl b) H):=by
 intro pins s σ H xs us Q I r h
 obtain⟨x,b,rfl,hx,q⟩:=h
 obtain⟨u,w',rfl,rx,ry⟩:=lO r
 cases ry
 cases x with
 |non=>cases rx;cases hx;exact pH (by decide +kernel) F.isi_meta_tuple F.sub_NoneType_tuple ⟨.bl _,H,I.tok _,rfl,q⟩
 |bl k=>cases rx;cases hx;exact IsiPair.bool_tuple ⟨.bl _,H,I.tok _,rfl,q⟩
 |int i=>obtain⟨t,rfl⟩:=rx;cases hx;exact IsiPair.int_tuple ⟨.bl _,H,I.tok _,rfl,q⟩
 |str i=>obtain⟨t,rfl⟩:=rx;cases hx;exact IsiPair.str_tuple ⟨.bl _,H,I.tok _,rfl,q⟩
 |ref a=>
  cases rx
  rcases hx with⟨xs,hx,rfl⟩|⟨xs,hx,rfl⟩|⟨xs,hx,rfl⟩
  ·obtain⟨o,ho,hc⟩:=I.lcls hx;exact IsiPair.list_tuple ho hc ⟨.bl _,H,I.tok _,rfl,q⟩
  ·obtain⟨o,ho,hc⟩:=I.tcls hx;exact IsiPair.tuple_tuple ho hc ⟨.bl _,H,I,rfl,q⟩
  ·obtain⟨o,ho,hc⟩:=I.dcls hx;exact IsiPair.dict_tuple ho hc ⟨.bl _,H,I.tok _,rfl,q⟩
 |_=>exact False.elim hx
theorem zEP(hc:X.calm=true):CallR X (.builtin "sum") (λxs H Q=>∃(p:Addr) (ns:List Int),xs=[.ref p]/\SqL X.K H p (ns.map V.int)/\Q (.int ns.sum) H):=by
 intro pins s σ H xs us Q I r h
 obtain⟨p,ns,rfl,hq,q⟩:=h
 obtain⟨u,rfl,rx⟩:=cV r
 cases rx
 obtain⟨its,rv,pl,hz⟩:=I.list hq
 have hi:IntsAre its ns:=oY rv
 have hall:=hi.allInts
 have e0:=hi.numsOf
 obtain⟨xs,ex⟩:=hall.items
 have e1:numsOf (intItems xs).toList=ns:=by rw[<-ex];exact e0
 rw[nums_intItems]at e1
 have hl:=pl.isList
 rw[ex]at hl
 refine sum_intListG (I.ok.hd hc) hl λh' tk t' hk=>⟨.int ns.sum,H,I.kept hk,⟨t',?_⟩,q⟩
 rw[preSum_eq,List.take_of_length_le (by simp),e1]
theorem zDq{prog:Program}{w:World}{A:Around}{bs:List Bool}{its:List Value}(rv:Vals (bs.map V.bl) its):TruthOf prog w A (λi v=>its.toArray[i]?=some v) λi=>bs.getD i false:=by
 intro i v s Q E hP hQ
 have hi:its[i]?=some v:=by simpa using hP
 have hl:=rv.length
 rw[List.length_map]at hl
 have hlt:i<bs.length:=by rw[hl];exact(List.getElem?_eq_some_iff.mp hi).1
 obtain⟨u,hu,ru⟩:=rv.get (i:=i) (x:=V.bl (bs.getD i false)) (by rw[List.getElem?_map,List.getD_eq_getElem?_getD,List.getElem?_eq_getElem hlt];rfl)
 rw[hi]at hu
 cases hu
 cases ru
 exact wpAny_truthy_bool hQ
theorem zEt(bs:List Bool):(List.range bs.length).all (λi=>bs.getD i false)=bs.all id:=by
 induction bs with
 |nil=>rfl
 |cons b r ih=>
  rw[List.length_cons,List.range_succ_eq_map,List.all_cons,List.all_cons,List.all_map]
  rw[<-ih]
  rfl
theorem zEW(hc:X.calm=true):CallR X (.builtin "all") (λxs H Q=>∃(p:Addr) (bs:List Bool),xs=[.ref p]/\SqL X.K H p (bs.map V.bl)/\Q (.bl (bs.all id)) H):=by
 intro pins s σ H xs us Q I r h
 obtain⟨p,bs,rfl,hq,q⟩:=h
 obtain⟨u,rfl,rx⟩:=cV r
 cases rx
 obtain⟨its,rv,pl,hz⟩:=I.list hq
 have hlt:p<s.heap.objs.size:=by obtain⟨_,e,_⟩:=pl.isList;exact Heap.lt_size e
 have hll:=rv.length
 rw[List.length_map]at hll
 refine call_all_walk (wpAny_pyIter_list pl.isList ?_)
 refine⟨s.heap.objs.size,_,_,_,_,_,λi=>bs.getD i false,rfl,Walks.list (A:=X.A.in1) (I.ok.hd hc) _ p (Nat.ne_of_lt hlt) its.toArray,⟨⟨_,Heap.get?_push_size _ rfl,rfl,rfl⟩,pl.isList.at λo e=>Heap.get?_push_of_some _ e⟩,zDq rv,λh' tk hk=>?_⟩
 refine⟨.bl (bs.all id),H,I.kept λb o e=>hk b o (by simpa using Nat.ne_of_lt (Heap.lt_size e)) (Heap.get?_push_of_some _ e),?_,q⟩
 show Value.bool _=Value.bool _
 rw[List.size_toArray,<-hll,zEt]
def fU:List V->List V->Bool
 |[],[]=>true
 |x::xs,y::ys=>eqV x y&&fU xs ys
 |_,_=>false
theorem zAv:∀{xs ys:List V},xs.length≠ys.length->fU xs ys=false
 |[],[],h=>absurd rfl h
 |[],_::_,_=>rfl
 |_::_,[],_=>rfl
 |x::xs,y::ys,h=>by
  have:=zAv (xs:=xs) (ys:=ys) (λe=>h (by simp[e]))
  simp[fU,this]
theorem yS:∀{xs ys:List V},xs.length=ys.length->(List.range xs.length).all (λi=>eqV (xs.getD i .non) (ys.getD i .non))=fU xs ys
 |[],[],_=>rfl
 |[],_::_,h=>by simp at h
 |_::_,[],h=>by simp at h
 |x::xs,y::ys,h=>by
  have ih:=yS (xs:=xs) (ys:=ys) (by simpa using h)
  rw[List.length_cons,List.range_succ_eq_map,List.all_cons,List.all_map]
  show(eqV x y&&(List.range xs.length).all λi=>eqV (xs.getD i .non) (ys.getD i .non))=(eqV x y&&fU xs ys)
  rw[ih]
theorem zF1{A:Around}{s:Shared}{xs ys:List V}{us ws:List Value}(r:Vals xs us)(r':Vals ys ws)(fx:xs.all dB=true)(fy:ys.all dB=true)(j:Nat)(h1:j<us.toArray.size)(h2:j<ws.toArray.size):
  SeqAt.EqAt A s us.toArray[j] ws.toArray[j] (eqV (xs.getD j .non) (ys.getD j .non)):=by
 have l1:=r.length
 have l2:=r'.length
 have k1:j<xs.length:=by rw[l1];simpa using h1
 have k2:j<ys.length:=by rw[l2];simpa using h2
 obtain⟨u,hu,ru⟩:=r.get (i:=j) (x:=xs.getD j .non) (by rw[List.getD_eq_getElem?_getD,List.getElem?_eq_getElem k1];rfl)
 obtain⟨w',hw,rw'⟩:=r'.get (i:=j) (x:=ys.getD j .non) (by rw[List.getD_eq_getElem?_getD,List.getElem?_eq_getElem k2];rfl)
 have e1:us.toArray[j]=u:=by
  obtain⟨_,e⟩:=List.getElem?_eq_some_iff.mp hu
  simpa using e
 have e2:ws.toArray[j]=w':=by
  obtain⟨_,e⟩:=List.getElem?_eq_some_iff.mp hw
  simpa using e
 rw[e1,e2]
 refine zBU ru rw' (List.all_eq_true.mp fx _ ?_) (List.all_eq_true.mp fy _ ?_)
 ·rw[List.getD_eq_getElem?_getD,List.getElem?_eq_getElem k1];exact List.getElem_mem k1
 ·rw[List.getD_eq_getElem?_getD,List.getElem?_eq_getElem k2];exact List.getElem_mem k2
def zJW(K:W.Frag)(neg:Bool):R2:=λx y H Q=>∃p q xs ys,x=.ref p/\y=.ref q/\SqL K H p xs/\SqL K H q ys/\xs.all dB=true/\ys.all dB=true/\Q (.bl (if neg then !fU xs ys else fU xs ys)) H
theorem zIa(hu:X.A.units<cLine):OpR X (compareOp .Eq) (zJW X.K false):=by
 intro pins s σ H x y v u Q I rx ry h
 obtain⟨p,q,xs,ys,rfl,rfl,hx,hy,fx,fy,k⟩:=h
 cases rx
 cases ry
 obtain⟨us,r1,p1,z1⟩:=I.list hx
 obtain⟨ws,r2,p2,z2⟩:=I.list hy
 by_cases hl:xs.length=ys.length
 ·refine SeqAt.eq_listAt p1.isList p2.isList (by simp[<-r1.length,<-r2.length,hl]) hu (λj h1 h2=>zF1 r1 r2 fx fy j h1 h2) ⟨.bl (fU xs ys),H,I,?_,k⟩
  show Value.bool _=Value.bool _
  rw[List.size_toArray,<-r1.length,yS hl]
 ·refine SeqAt.eq_list_lengthsAt p1.isList p2.isList (by simp[<-r1.length,<-r2.length,hl]) hu ⟨.bl (fU xs ys),H,I,?_,k⟩
  rw[zAv hl];rfl
theorem zE6(n:Nat):sliceRange (sliceBounds none none (some (-1)) n).1 (sliceBounds none none (some (-1)) n).2.1 (sliceBounds none none (some (-1)) n).2.2=(List.range n).map λk=>n-1-k:=by
 have e:sliceBounds none none (some (-1)) n=((n:Int)-1,-1,-1):=by simp[sliceBounds]
 rw[e]
 unfold sliceRange
 simp only[show ¬ ((-1:Int) > 0) by decide,if_false]
 by_cases hn:n=0
 ·subst hn;simp
 ·have h1:(n:Int)-1 > -1:=by omega
  rw[if_pos h1]
  have h2:(((n:Int)-1 - -1 - -1-1) / (- -1)).toNat=n:=by
   rw[show(n:Int)-1 - -1 - -1-1=n by omega,show(- -1:Int)=1 by decide,Int.ediv_one]
   exact Int.toNat_natCast n
  rw[h2]
  refine List.map_congr_left λk hk=>?_
  have:=List.mem_range.mp hk
  omega
theorem zAs{α β:Type}{f g:α->Option β}:∀{l:List α},(∀x∈l,f x=g x)->l.filterMap f=l.filterMap g
 |[],_=>rfl
 |x::r,h=>by rw[List.filterMap_cons,List.filterMap_cons,h x List.mem_cons_self,zAs λy hy=>h y (List.mem_cons_of_mem _ hy)]
theorem zD{α:Type}:∀zs:List α,(List.range zs.length).filterMap (λk=>zs.reverse[zs.length-1-k]?)=zs
 |[]=>rfl
 |z::r=>by
  rw[List.length_cons,List.range_succ_eq_map,List.filterMap_cons,List.filterMap_map]
  have h0:(z::r).reverse[r.length+1-1-0]?=some z:=by simp
  rw[h0]
  have h1:List.filterMap ((λk=>(z::r).reverse[r.length+1-1-k]?)∘Nat.succ) (List.range r.length)=List.filterMap (λk=>r.reverse[r.length-1-k]?) (List.range r.length):=by
   apply zAs
   intro k hk
   have hk:=List.mem_range.mp hk
   show(z::r).reverse[r.length+1-1-(k+1)]?=r.reverse[r.length-1-k]?
   rw[List.reverse_cons,List.getElem?_append_left (by simp;omega)]
   rw[show r.length+1-1-(k+1)=r.length-1-k by omega]
  rw[h1,zD r]
theorem zFk{α:Type}(xs:List α):((List.range xs.length).map λk=>xs.length-1-k).filterMap (λi=>xs[i]?)=xs.reverse:=by
 have:=zD xs.reverse
 rw[List.length_reverse,List.reverse_reverse]at this
 rw[List.filterMap_map]
 exact this
theorem zDb(its:List Value):slicePick its.toArray none none (some (-1))=its.reverse.toArray:=by
 unfold slicePick
 rw[List.size_toArray,zE6]
 congr 1
 have:=zFk its
 simpa using this
def zJA(K:W.Frag)(te tst:TE):TE:=λσ H Q=>te σ H λx H1=>tst σ H1 λy H2=>y=.int (-1)/\∃p xs,x=.ref p/\SqL K H2 p xs/\∀l,H2 l=none->Q (.ref l) (upd H2 l (.lst xs.reverse))
theorem zHR{e st:Expr}{te tst:TE}{pos p2:Pos}(he:PE X e te)(hst:PE X st tst)(ht:∀o r,letTemporaryGo e o r=pure ():=by intro _ _;rfl):PE X (.Subscript e (.Slice none none (some st) p2) pos) (zJA X.K te tst):=by
 intro pins s σ H Q I h
 refine wpAny_Subscript_Slice_step (T:="list") slot_list_getitem.lookup (thn (he pins s σ H _ I h) λv s1 ⟨x,H1,I1,r1,q1⟩=>?_) ht
 refine wpAny_Slice ?_
 rw[evalPart_none,evalPart_some]
 refine wpAny_pure (wpAny_pure (thn (hst pins s1 σ H1 _ I1 q1) λvs s2 ⟨y,H2,I2,r2,q2⟩=>?_))
 obtain⟨rfl,p,xs,rfl,hx,q⟩:=q2
 obtain⟨t,rfl⟩:=r2
 cases r1
 have I3:Inv X pins σ H2 {s2 with heap:=s2.heap.push {cls:=.type "slice",data:=.fields #[.none,.none,.int (-1) t]}}:=I2.kept (t':=s2.toks) λb ob q=>Heap.get?_push_of_some _ q
 obtain⟨its,rv,pl,hz⟩:=I3.list hx
 refine⟨pl.isList.typeIs,?_⟩
 refine wpAny_getItem_list_slice pl.isList (Heap.IsSliceOf.new ..) .none .none (.int (-1) t) (by decide) ?_ (by rw[List.size_toArray,<-rv.length];exact hz)
 rw[zDb]
 refine⟨.ref _,_,I3.laid (t':=s2.toks) (o:=.lst xs.reverse) (λb ob q=>Heap.get?_push_of_some _ q) (Nat.le_refl _) ?_,rfl,q _ (I3.hok.fresh (Nat.le_refl _))⟩
 exact⟨by rw[List.length_reverse];exact hz,_,0,rv.reverse,Heap.get?_push_size _ rfl⟩
def BigOk(j:Int):Prop:=j.natAbs<2 ^ 1024
theorem BigOk.log{j:Int}(h:BigOk j):j.natAbs.log2<9000:=by
 by_cases h0:j.natAbs=0
 ·rw[h0];decide +kernel
 ·have:j.natAbs.log2<1024:=(Nat.log2_lt h0).mpr h
  omega
theorem op_mulB:OpR X (binaryOp .Mult) (rI (λi j=>BigOk i/\BigOk j) λi j=>.int (i*j)):=opI λi j _ _ _ _ _ hc q=>by
 have bits:∀{x:Int},BigOk x->Builtin.Int.intBits x<=2 ^ 20:=λ{x} h=>by
  unfold Builtin.Int.intBits
  split
  ·exact Nat.zero_le _
  ·rename_i h0
   have h0':x.natAbs≠0:=λz=>h0 (by simpa using z)
   have:x.natAbs.log2<1024:=(Nat.log2_lt h0').mpr h
   omega
 exact mul_int q (.of_bits (bits hc.1) (bits hc.2))
theorem zAi:OpR X (binaryOp .FloorDiv) (rI (λ_ j=>0<j/\BigOk j) λi j=>.int (i / j)):=opI λi j _ _ _ _ _ hc q=>by
 have h1:(0:Int)<j:=hc.1
 exact floordiv_int (by omega) (by rw[Int.fdiv_eq_ediv_of_nonneg i (by omega)];exact q) (.inl (PyProof.noPylong_of_log2 hc.2.log))
end
end L2
namespace L2
open PySem PySem.Spec PyProof.Rows
def fQ:Expr->Bool
 |.Starred ..=>true
 |_=>false
theorem pA{e:Expr}{rest:List Expr}{env:Env}(h:fQ e=false):starEach (e::rest) env=(false,eval e env)::starEach rest env:=by
 cases e<;>first|rfl|exact Bool.noConfusion h
theorem dH{X:Cx}{e:Expr}{es:List Expr}{te:TE}{t:TA}(ha:PE X e te)(hr:PA X es t)(h:fQ e=false:=by rfl):PA X (e::es) (vT te t):=zGC ha hr (pA h)
def Good(P:Program)(w:World)(K:W.Frag)(mg:Str->Option Value)(base:Heap)(k:Nat)(x:Str)(ps:List Str)(sp:Sp):Prop:=
 ∃(f:Addr) (fd:FuncData),FnOk P w K mg base CX0 k f fd ps sp/\Binds K fd ps []/\mg x=some (.ref f)/\W.keepIn K (.ref f)=true
section
variable{X:Cx}{k:Nat}{x:Str}{ps:List Str}{sp:Sp}{e:Expr}{es:List Expr}{t:TA}{p pos:Pos}
theorem nY(G:Good X.prog X.w X.K X.mg X.base k x ps sp)(hr:Room k X.A)(hg:Gl X x)(ha:PA X (e::es) t)(hdb:(x==("__debug__":Str))=false:=by decide)
  (hst:fQ e=false:=by rfl) (hpl:(backTo pos (starEach es X.env)).any (·.1)=false:=by rfl):PE X (.Call (.Name x p) (e::es) [] pos) (lR sp [] E0 t):=by
 obtain⟨f,fd,F,b,m,kp⟩:=G
 exact zGB F hr hg m kp b .nil lT ha hdb (pA hst) hpl
theorem zHU(G:Good X.prog X.w X.K X.mg X.base k x ps sp)(hr:Room k X.A)(hg:Gl X x)(hdb:(x==("__debug__":Str))=false:=by decide):PE X (.Call (.Name x p) [] [] pos) (lR sp [] E0 oG):=by
 obtain⟨f,fd,F,b,m,kp⟩:=G
 exact zFr F hr hg m kp b .nil lT hdb
end
def Has(K:W.Frag)(mg:Str->Option Value)(x:Str)(st:Stmt):Prop:=∃(f:Addr) (fd:FuncData),Fun K x x st f fd/\mg x=some (.ref f)
theorem Has.good{P:Program}{w:World}{K:W.Frag}{mg:Str->Option Value}{base:Heap}{x:Str}{st:Stmt}{N ps:List Str}{k:Nat}{sp:Sp}(h:Has K mg x st)(S:bM N ps (aO st))
  (hb:∀(kV doc pm:Value) (an:Option Addr) (cdv ct:Value) (us:List Value),us.length=ps.length->bindArgs (W.fnOf x x (cN st) (bR st) (aO st) .none kV doc pm an cdv ct) ⟨us,[]⟩=pure (ps.zip us))
  (len:∀vs H Q E,sp vs H Q E->vs.length=ps.length)
  (hbody:∀(f:Addr) (cdv:Value) (A:Around) (outer:List Env) (s:Shared) (H:Hp) (vs:List V) (Q:VK) (E:XK),Room k (A.deeper (envOfC x (aO st) s.heap.objs.size f cdv))->sp vs H Q E ->
   ∃t,PSs (eI CX0 P w K mg base N x (aO st) f cdv A outer s H E).nox (bR st) t/\t {nx:=λ_ H'=>Q .non H',rt:=Q} (start N vs) H):Good P w K mg base (k+1) x ps sp:=by
 obtain⟨f,fd,F,m⟩:=h
 exact⟨f,fd,F.ok S len λcdv A outer s H vs Q E hr q=>hbody f cdv A outer s H vs Q E hr q,F.binds hb,m,F.kp⟩
theorem has_mk{K:W.Frag}{h:Heap}{mg:Str->Option Value}{x:Str}{st:Stmt}{f:Addr}{oc:Value}{od an:Option Addr}{osl:Array (Option Value)}{kV doc pm cdv ct:Value}(X:K.In h)(G:h.Ns mainGlobals mg)
  (a:W.nsIn K mainGlobals x=some (some (.ref f))) (l:K.lookup f=some ⟨oc,od,.func (W.fnOf x x (cN st) (bR st) (aO st) .none kV doc pm an cdv ct),osl⟩)
  (c:W.codeIn K cdv x=true) (k:W.keepIn K (.ref f)=true):Has K mg x st:=⟨f,_,iL l c k,PySem.W.mg_of X G a⟩
structure Own (mg:Str->Option Value):Prop where
 len:mg "len"=none
 range:mg "range"=none
 isinstance:mg "isinstance"=none
 int_:mg "int"=none
 bool_:mg "bool"=none
 str_:mg "str"=none
 list_:mg "list"=none
 tuple_:mg "tuple"=none
 dict_:mg "dict"=none
 sum:mg "sum"=none
 min:mg "min"=none
 max:mg "max"=none
 all:mg "all"=none
 any:mg "any"=none
 abs:mg "abs"=none
 zip:mg "zip"=none
 sorted:mg "sorted"=none
 set_:mg "set"=none
 enumerate:mg "enumerate"=none
theorem zH3{K:W.Frag}{h:Heap}{mg:Str->Option Value}(X:K.In h)(G:h.Ns mainGlobals mg)(z1:W.nsIn K mainGlobals "len"=some none)(z2:W.nsIn K mainGlobals "range"=some none)
    (z3:W.nsIn K mainGlobals "isinstance"=some none) (z4:W.nsIn K mainGlobals "int"=some none) (z5:W.nsIn K mainGlobals "bool"=some none) (z6:W.nsIn K mainGlobals "str"=some none)
    (z7:W.nsIn K mainGlobals "list"=some none) (z8:W.nsIn K mainGlobals "tuple"=some none) (z9:W.nsIn K mainGlobals "dict"=some none) (z10:W.nsIn K mainGlobals "sum"=some none)
    (z11:W.nsIn K mainGlobals "min"=some none) (z12:W.nsIn K mainGlobals "max"=some none) (z13:W.nsIn K mainGlobals "all"=some none) (z14:W.nsIn K mainGlobals "any"=some none)
    (z15:W.nsIn K mainGlobals "abs"=some none) (z16:W.nsIn K mainGlobals "zip"=some none) (z17:W.nsIn K mainGlobals "sorted"=some none) (z18:W.nsIn K mainGlobals "set"=some none)
    (z19:W.nsIn K mainGlobals "enumerate"=some none):Own mg:=
  ⟨PySem.W.mg_none_of X G z1,PySem.W.mg_none_of X G z2,PySem.W.mg_none_of X G z3,PySem.W.mg_none_of X G z4,PySem.W.mg_none_of X G z5,PySem.W.mg_none_of X G z6,PySem.W.mg_none_of X G z7,PySem.W.mg_none_of X G z8,PySem.W.mg_none_of X G z9,PySem.W.mg_none_of X G z10,
   PySem.W.mg_none_of X G z11,PySem.W.mg_none_of X G z12,PySem.W.mg_none_of X G z13,PySem.W.mg_none_of X G z14,PySem.W.mg_none_of X G z15,PySem.W.mg_none_of X G z16,PySem.W.mg_none_of X G z17,PySem.W.mg_none_of X G z18,PySem.W.mg_none_of X G z19⟩
structure DeckAt (H:Hp) (p c:Addr):Prop where
 ne:p≠c
 dk:∃S k:Int,H p=some (.lst [.ref c,.int S,.int k])
 cs:∃ns:List Int,H c=some (.lst (ns.map V.int))/\ns.length<=64
structure On (p c:Addr) (H H':Hp):Prop where
 d:DeckAt H' p c
 e:∀b o,H b=some o->b≠p->b≠c->H' b=some o
section
variable{p c a:Addr}{H H1 H2:Hp}{o:HO}
theorem DeckAt.nep(d:DeckAt H p c)(h:H a=none):a≠p:=λz=>by
 obtain⟨S,k,e⟩:=d.dk
 rw[z,e]at h;cases h
theorem DeckAt.nec(d:DeckAt H p c)(h:H a=none):a≠c:=λz=>by
 obtain⟨ns,e,_⟩:=d.cs
 rw[z,e]at h;cases h
theorem DeckAt.alloc(d:DeckAt H p c)(h:H a=none):DeckAt (upd H a o) p c:=by
 obtain⟨S,k,e⟩:=d.dk
 obtain⟨ns,e',l⟩:=d.cs
 exact⟨d.ne,⟨S,k,by rw[bD (d.nep h).symm];exact e⟩,ns,by rw[bD (d.nec h).symm];exact e',l⟩
theorem On.trans(x:On p c H H1)(y:On p c H1 H2):On p c H H2:=⟨y.d,λb o h hp hc=>y.e b o (x.e b o h hp hc) hp hc⟩
theorem On.alloc(x:On p c H H1)(h:H1 a=none):On p c H (upd H1 a o):=
 ⟨x.d.alloc h,λb u q hp hc=>by rw[bD (dM (x.e b u q hp hc) h)];exact x.e b u q hp hc⟩
end
def zAM:Sp:=λvs H Q _=>∃n k:Int,vs=[.int n,.int k]/\∀r:Int,Q (.int r) H
def zBB(K:W.Frag):Sp:=λvs H Q _=>∃(a:Addr) (ns:List Int),vs=[.ref a]/\SqL K H a (ns.map V.int)/\∀(p c:Addr) (H':Hp),H p=none->H c=none->DeckAt H' p c->Same H H'->Q (.ref p) H'
def zBA:Sp:=λvs H Q _=>∃(p c:Addr) (m:Int),vs=[.ref p,.int m]/\DeckAt H p c/\0<m/\BigOk m/\∀(r:Int) (H':Hp),0<=r->r<m->On p c H H'->Q (.int r) H'
end L2
namespace L2
open PySem PySem.Spec PyProof.Rows
theorem ObjOk.there{P:Program}{w:World}{H:Hp}{h:Heap}{a:Addr}{o:HO}(x:ObjOk P w H h a o):∃ob,h.get? a=some ob:=by
 cases o with
 |lst xs=>obtain⟨_,_,_,_,e⟩:=x;exact⟨_,e⟩
 |tup xs=>obtain⟨_,_,_,ob,e,_⟩:=x;exact⟨_,e⟩
 |dK kvs=>obtain⟨_,_,_,_,o,_,_,e,_⟩:=x;exact⟨_,e⟩
 |dT kvs=>obtain⟨_,_,_,_,o,_,_,e,_⟩:=x;exact⟨_,e⟩
 |set S n=>obtain⟨o,_,_,_,e,_⟩:=x;exact⟨_,e⟩
 |ins C dx fs=>obtain⟨_,_,_,e,_⟩:=x;exact⟨_,e⟩
 |own y=>obtain⟨_,e⟩:=x;exact⟨_,e⟩
 |xd fs=>obtain⟨_,⟨_,_,_,e,_⟩,_⟩:=x;exact⟨_,e⟩
 |rng lo hi=>obtain⟨_,_,_,e⟩:=x;exact⟨_,e⟩
 |frz ob u=>obtain⟨e,_⟩:=x;exact⟨_,e⟩
 |tbl ps=>exact⟨_,(show h.get? a=some _ from x)⟩
 |met f y=>exact⟨_,(show h.get? a=some _ from x)⟩
 |ext φ=>obtain⟨_,⟨_,e⟩,_⟩:=x;exact⟨_,e⟩
end L2
namespace L2
open PySem PySem.Spec PyProof.Rows
section
variable{X:Cx}
theorem fA{H:Hp}{a:Addr}{o:HO}(h:H a=none):Same H (upd H a o):=λb u q=>by rw[bD (dM q h)];exact q
def zI5(K:W.Frag):R2:=λx y H Q=>∃a b xs ys,x=.ref a/\y=.ref b/\SqT K H a xs/\SqT K H b ys/\xs.length+ys.length<=sizeLine/\∀r H',SqT K H' r (xs++ys)->Same H H'->Q (.ref r) H'
theorem op_catG:OpR X (binaryOp .Add) (zI5 X.K):=by
 intro pins s σ H x y v u Q I rx ry h
 obtain⟨a,b,xs,ys,rfl,rfl,ha,hb,hz,q⟩:=h
 by_cases hx:xs=[]
 ·subst hx
  cases rx
  cases ry
  obtain⟨its,r1,p1,_⟩:=I.tuple ha
  obtain⟨its2,r2,p2,_⟩:=I.tuple hb
  obtain⟨⟨cls,dd,data,sl⟩,ho,hc,n,hd⟩:=id p1
  obtain⟨⟨cls2,dd2,data2,sl2⟩,ho2,hc2,n2,hd2⟩:=id p2
  simp only at hc hd hc2 hd2
  subst hc hd hc2 hd2
  have e1:its=[]:=r1.nil_iff.mpr rfl
  exact concat_meets ⟨_,ho,rfl⟩ ⟨_,ho2,rfl⟩ noFill_tuple_add seq_tuple_add PySem.F.slot_tuple_add PySem.F.entry_tuple_add (PySem.F.args_tuple_add_2 _ _)
   (tuple_addW0 a b its.toArray its2.toArray n n2 dd dd2 sl sl2 (by simp[e1])) ⟨ho,ho2,⟨.ref b,H,I,rfl,q b H hb (Same.refl H)⟩⟩
 ·refine zGH pins s σ H (.ref a) (.ref b) v u Q I rx ry ⟨a,b,xs,ys,rfl,rfl,ha,hb,hx,hz,λe=>q a H (by rw[e,List.append_nil];exact ha) (Same.refl H),λ_ p hp=>q p _ (SqT.of bF) (fA hp)⟩
structure QA (X:Cx) (es:List Expr) (t:TA):Prop where
 p:PA X es t
theorem zBF:QA X [] oG:=⟨eR⟩
theorem xM{e:Expr}{es:List Expr}{te:TE}{t:TA}(ha:PE X e te)(hr:QA X es t)(h:fQ e=false:=by rfl):QA X (e::es) (vT te t):=⟨dH ha hr.p h⟩
theorem zA5{es:List Expr}{t:TA}{pos:Pos}(h:QA X es t):PE X (.List es pos) (zCn t):=zBK h.p
end
end L2
namespace L2
open PySem PySem.Spec PyProof.Rows
section
variable{X:Cx}{pins:List (Addr×Obj)}{σ:St}{H:Hp}{s:Shared}{h':Heap}
theorem Inv.turnedL{t':Nat}{ch:List Addr}(I:Inv X pins σ H s)(hf:∀b∈ch,eY X pins H b)(k:∀b o,b∉ch->s.heap.get? b=some o->h'.get? b=some o):Inv X pins σ H {s with heap:=h',toks:=t'}:=by
 have nit:∀b u,H b=some u->b∉ch:=λb u e z=>by rw[(hf b z).1]at e;cases e
 refine I.step (g':=s.gens) (d':=s.drawn) (ch:=ch) (λb hb=>?_) (λb o _ _ hc e _=>k b o hc e) (λb o _ _ hc e _=>⟨o.slots,k b o hc e⟩) (λ_ _ _ _ n=>n)
  (λb o hc e=>⟨o,k b o hc e⟩) (λ_ _ e=>e) (λ_ _ _ e=>e) (λb ps e=>⟨#[],by rw[e];simp⟩) (λm hm=>?_) (λb u e=>?_) I.bare
 ·obtain⟨_,f1,_,f3,f4,f5⟩:=hf b hb
  exact⟨f3,f1,f4,f5⟩
 ·obtain⟨o,es,ep,ho,r⟩:=hm
  exact⟨o,es,ep,k _ o (λz=>(hf _ z).2.1 rfl) ho,r⟩
 ·refine(I.hok b u e).stay (λc v hc q=>k c v ?_ q) (λ_ q=>q) λ_ _ q=>q
  rcases hc with z|z
  ·rw[z];exact nit b u e
  ·exact nit c _ z
end
section
variable{X:Cx}
theorem zER(hc:X.calm=true):CallR X (.builtin "min") (λxs H Q=>∃(p:Addr) (ns:List Int),xs=[.ref p]/\SqL X.K H p (ns.map V.int)/\0<ns.length/\∀M,M∈ns->(∀a∈ns,M<=a)->Q (.int M) H):=by
 intro pins s σ H xs us Q I r h
 obtain⟨p,ns,rfl,hq,hn,q⟩:=h
 obtain⟨u,rfl,rx⟩:=cV r
 cases rx
 obtain⟨its,rv,pl,hz⟩:=I.list hq
 have hi:IntsAre its ns:=oY rv
 obtain⟨zs,ez⟩:=hi.allInts.items
 have en:ns=zs.toList.map (·.1):=by rw[<-hi.numsOf,<-nums_intItems,<-ez]
 have hz0:0<zs.size:=by rw[en,List.length_map,Array.length_toList]at hn;exact hn
 have hl:=pl.isList
 rw[ez]at hl
 refine min_intList (I.ok.hd hc) hl hz0 λv h' tk hv hk=>?_
 obtain⟨t,rfl⟩:=intItems_at hv
 obtain⟨h1,h2⟩:=argBest_lt (numAt zs) (zs.size-1)
 refine⟨.int _,H,I.kept hk,⟨t,rfl⟩,q _ ?_ λa ha=>?_⟩
 ·rw[en,numAt_eq]
  exact getD_mem (by rw[List.length_map,Array.length_toList];omega)
 ·rw[en]at ha
  obtain⟨j,hj,rfl⟩:=mem_getD ha
  rw[List.length_map,Array.length_toList]at hj
  have:=h2 j (by omega)
  rw[numAt_eq zs j]at this
  exact this
theorem zET(hc:X.calm=true):CallR X (.builtin "max") (λxs H Q=>∃(p:Addr) (ns:List Int),xs=[.ref p]/\SqL X.K H p (ns.map V.int)/\0<ns.length/\∀M,M∈ns->(∀a∈ns,a<=M)->Q (.int M) H):=by
 intro pins s σ H xs us Q I r h
 obtain⟨p,ns,rfl,hq,hn,q⟩:=h
 obtain⟨u,rfl,rx⟩:=cV r
 cases rx
 obtain⟨its,rv,pl,hz⟩:=I.list hq
 have hi:IntsAre its ns:=oY rv
 obtain⟨zs,ez⟩:=hi.allInts.items
 have en:ns=zs.toList.map (·.1):=by rw[<-hi.numsOf,<-nums_intItems,<-ez]
 have hz0:0<zs.size:=by rw[en,List.length_map,Array.length_toList]at hn;exact hn
 have hl:=pl.isList
 rw[ez]at hl
 refine max_intList (I.ok.hd hc) hl hz0 λv h' tk hv hk=>?_
 obtain⟨t,rfl⟩:=intItems_at hv
 obtain⟨h1,h2⟩:=argBest_gt (numAt zs) (zs.size-1)
 refine⟨.int _,H,I.kept hk,⟨t,rfl⟩,q _ ?_ λa ha=>?_⟩
 ·rw[en,numAt_eq]
  exact getD_mem (by rw[List.length_map,Array.length_toList];omega)
 ·rw[en]at ha
  obtain⟨j,hj,rfl⟩:=mem_getD ha
  rw[List.length_map,Array.length_toList]at hj
  have:=h2 j (by omega)
  rw[numAt_eq zs j]at this
  exact this
end
end L2
namespace L2
open PySem PySem.Spec PyProof.Rows
theorem zDp{us:List Value}{ns:List Int}(h:IntsAre us ns):Vals (ns.map V.int) us:=by
 induction h with
 |nil=>exact .nil
 |cons n t _ ih=>exact .cons ⟨t,rfl⟩ ih
section
variable{X:Cx}
theorem call_sortedI:CallR X (.builtin "sorted") (λxs H Q=>∃(p:Addr) (ns:List Int),xs=[.ref p]/\SqL X.K H p (ns.map V.int)/\ns.length<64 /\
  ∀(ns':List Int) (l:Addr),ns'.Perm ns->ns'.Pairwise (·<=·)->H l=none->Q (.ref l) (upd H l (.lst (ns'.map V.int)))):=by
 intro pins s σ H xs us Q I r h
 obtain⟨p,ns,rfl,hq,h64,q⟩:=h
 obtain⟨u,rfl,rx⟩:=cV r
 cases rx
 obtain⟨its,rv,pl,hz⟩:=I.list hq
 have hi:IntsAre its ns:=oY rv
 have hll:=rv.length
 rw[List.length_map]at hll
 refine sorted_ints pl.isList hi (by omega) λout ns' a1 a2 a3=>?_
 obtain⟨e,he⟩:=sortedAll_at s.heap its out
 have hlen:=a2.length_eq
 refine⟨.ref (s.heap.objs.size+1),_,I.laid (t':=s.toks) (λb o e=>sortedAll_old e) (Nat.le_succ _) (show ObjOk X.prog X.w _ _ _ (.lst (ns'.map V.int)) from ⟨?_,out.toList,e,zDp a1,he⟩),rfl,q ns' _ a2 a3 (I.hok.fresh (Nat.le_succ _))⟩
 rw[List.length_map,hlen]
 exact Nat.le_of_lt (Nat.lt_trans h64 (by decide))
end
end L2
namespace L2
open PySem PySem.Spec PyProof.Rows
def Its(x:Str):It:=⟨λi _=>i<x.cps.size,λi H v H'=>H'=H/\∃c,x.cps[i]?=some c/\v=.str ⟨#[c]⟩,λi _=>x.cps.size<=i⟩
theorem zEd{P:Program}{w:World}{K:W.Frag}{tg:Expr}(it:Addr)(x:Str)(t:Tok):iV P w K tg (Its x) [it] it (λi h=>h.IsStrIter it "str_ascii_iterator" x t i) where
 mem:=by simp
 obj:=λi h st b hb=>by
  have e:b=it:=by simpa using hb
  subst e
  obtain⟨o,e,c,d⟩:=st
  exact⟨o,e,λv z=>by rw[d]at z;cases z⟩
 keep:=λi h h' st k=>let ⟨o,ho,r⟩:=st;⟨o,k it (by simp) o ho,r⟩
 item:=by
  intro X hP hw hK hc i pins s σ H E I hf st hg
  subst hP hw hK
  obtain⟨f0,f1,f2,f3,f4,f5⟩:=hf it (by simp)
  have W:=Walks.strAscii (prog:=X.prog) (w:=X.w) (I.ok.hd hc) it x t
  refine W.item i s _ _ hg st λv h' tk hv st' kk=>?_
  obtain⟨c,u,hc',rfl⟩:=hv
  have I1:Inv X pins σ H {s with heap:=h',toks:=tk}:=I.turned (λb o hb e=>kk b o (by simpa using hb) e) f0 f1 f3 f4 f5
  obtain⟨o,e,c1,d⟩:=id st'
  exact⟨_,rfl,lV (s:={s with heap:=h',toks:=tk}) e c1 d (by decide) ⟨.str ⟨#[c]⟩,H,I1,⟨u,rfl⟩,⟨rfl,c,hc',rfl⟩,st',λb hb=>(hf b hb).1⟩⟩
 done:=by
  intro X hP hw hK hc i pins s σ H E I hf st hg
  subst hP hw hK
  obtain⟨f0,f1,f2,f3,f4,f5⟩:=hf it (by simp)
  exact wpAny_pyNext_ascii_end (I.ok.hd hc) st (by have:x.cps.size<=i:=hg;simp;omega) λh' eb=>⟨rfl,I.turned (t':=s.toks) (λb o hb e=>eb b o hb e) f0 f1 f3 f4 f5⟩
 self:=λ_ _ _ _ _ st h=>wpAny_pyIter_striter_ascii st h
theorem zEc{P:Program}{w:World}{K:W.Frag}{tg:Expr}(it:Addr)(x:Str)(t:Tok):iV P w K tg (Its x) [it] it (λi h=>h.IsStrIter it "str_iterator" x t i) where
 mem:=by simp
 obj:=λi h st b hb=>by
  have e:b=it:=by simpa using hb
  subst e
  obtain⟨o,e,c,d⟩:=st
  exact⟨o,e,λv z=>by rw[d]at z;cases z⟩
 keep:=λi h h' st k=>let ⟨o,ho,r⟩:=st;⟨o,k it (by simp) o ho,r⟩
 item:=by
  intro X hP hw hK hc i pins s σ H E I hf st hg
  subst hP hw hK
  obtain⟨f0,f1,f2,f3,f4,f5⟩:=hf it (by simp)
  have W:=Walks.strWide (prog:=X.prog) (w:=X.w) (I.ok.hd hc) it x t
  refine W.item i s _ _ hg st λv h' tk hv st' kk=>?_
  obtain⟨c,u,hc',rfl⟩:=hv
  have I1:Inv X pins σ H {s with heap:=h',toks:=tk}:=I.turned (λb o hb e=>kk b o (by simpa using hb) e) f0 f1 f3 f4 f5
  obtain⟨o,e,c1,d⟩:=id st'
  exact⟨_,rfl,lV (s:={s with heap:=h',toks:=tk}) e c1 d (by decide) ⟨.str ⟨#[c]⟩,H,I1,⟨u,rfl⟩,⟨rfl,c,hc',rfl⟩,st',λb hb=>(hf b hb).1⟩⟩
 done:=by
  intro X hP hw hK hc i pins s σ H E I hf st hg
  subst hP hw hK
  obtain⟨f0,f1,f2,f3,f4,f5⟩:=hf it (by simp)
  exact wpAny_pyNext_wide_end (I.ok.hd hc) st (by have:x.cps.size<=i:=hg;simp;omega) λh' eb=>⟨rfl,I.turned (t':=s.toks) (λb o hb e=>eb b o hb e) f0 f1 f3 f4 f5⟩
 self:=λ_ _ _ _ _ st h=>wpAny_pyIter_striter_wide st h
section
variable{X:Cx}
def zI2:V->List V->Hp->VK->Prop:=λx vs H Q=>∃i j,x=.str i/\vs=[.str j]/\∀n:Int,Q (.int n) H
theorem zGL:MtM X "str.find" zI2:=by
 intro pins s σ H x vs v us Q I rx rv h
 obtain⟨i,j,rfl,rfl,q⟩:=h
 obtain⟨t,rfl⟩:=rx
 obtain⟨u,rfl,t',rfl⟩:=rv.one
 exact call_gives F.slot_str_find (typeIs_str _ _ _) F.entry_str_find (F.args_str_find_2 _ _) (gives_str_find i j t t') ⟨.int _,H,I.tok _,⟨_,rfl⟩,q _⟩
theorem boot_repr:bootBuiltins "repr"=some (.builtin "repr"):=by decide +kernel
end
def KD(prm:Params):List DictEntry->List (Str×Str)->Prop
 |[],[]=>True
 |e::es,kv::kvs=>e.hash=PyData.keyHash prm kv.1/\(∃t,e.key=.str kv.1 t)/\(∃t,e.val=.str kv.2 t)/\KD prm es kvs
 |_,_=>False
structure zCh (K:W.Frag) (prm:Params) (d:Addr) (kvs:List (Str×Str)):Prop where
 obj:∃(es:Array DictEntry) (ep:Nat),K.lookup d=some ⟨.type "dict",none,.dict es ep,#[]⟩/\KD prm es.toList kvs
 nd:(kvs.map (·.1)).Nodup
def eO(kvs:List (Str×Str))(x:Str):Option Str:=(kvs.find? λkv=>kv.1=x).map (·.2)
theorem KD.keys{P:Program}{w:World}:∀{es:List DictEntry}{kvs:List (Str×Str)},KD w.params es kvs->∀e∈es,∃k,(cY P w).is k e.key=true/\e.hash=(cY P w).hash k
 |[],[],_,e,he=>nomatch he
 |a::es,kv::kvs,⟨h1,⟨t,h2⟩,_,h4⟩,e,he=>by
  rcases List.mem_cons.mp he with z|z
  ·subst z
   exact⟨.inr kv.1,by rw[h2];exact oU P w kv.1 t,by rw[h1];rfl⟩
  ·exact KD.keys h4 e z
theorem KD.pairs{P:Program}{w:World}:∀{es:List DictEntry}{kvs:List (Str×Str)},KD w.params es kvs->∃vs:List (Key×Value),Pairs (cY P w) es vs/\vs.map (·.1)=kvs.map (λkv=>Sum.inr kv.1) /\
  ∀x y,eO kvs x=some y->∃t,valueAt vs (.inr x)=some (.str y t)
 |[],[],_=>⟨[],.nil,rfl,λx y h=>nomatch h⟩
 |a::es,kv::kvs,⟨h1,⟨t,h2⟩,⟨t',h3⟩,h4⟩=>by
  obtain⟨vs,p,m,g⟩:=KD.pairs (P:=P) h4
  refine⟨(.inr kv.1,.str kv.2 t')::vs,.cons (by rw[h2];exact oU P w kv.1 t) h3 p,by simp[m],λx y h=>?_⟩
  by_cases e:kv.1=x
  ·subst e
   have:kv.2=y:=by simpa[eO]using h
   subst this
   exact⟨t',by simp[valueAt]⟩
  ·have h':eO kvs x=some y:=by simpa[eO,e]using h
   obtain⟨t'',h''⟩:=g x y h'
   exact⟨t'',by
    have:(Sum.inr kv.1:Key)≠.inr x:=λz=>e (Sum.inr.inj z)
    simpa[valueAt,this]using h''⟩
section
variable{X:Cx}
def rKD(d:Addr)(kvs:List (Str×Str)):R2:=λx y H Q=>∃i j,x=.ref d/\y=.str i/\eO kvs i=some j/\Q (.str j) H
theorem zJj{d:Addr}{kvs:List (Str×Str)}(D:zCh X.K X.w.params d kvs):IxR X (rKD d kvs):=by
 intro value slice pins s σ H x y v u Q I rx ry h hs
 obtain⟨i,j,rfl,rfl,hg,q⟩:=h
 cases rx
 obtain⟨t,rfl⟩:=ry
 obtain⟨es,ep,lk,kd⟩:=D.obj
 obtain⟨vs,hp,hm,hv⟩:=KD.pairs (P:=X.prog) kd
 obtain⟨t',hv⟩:=hv i j hg
 have ho:=I.kIn d _ lk
 have hnd:(vs.map (·.1)).Nodup:=by
  rw[hm,show kvs.map (λkv=>(Sum.inr kv.1:Key))=(kvs.map (·.1)).map Sum.inr by simp]
  unfold List.Nodup
  rw[List.pairwise_map]
  exact D.nd.imp λh z=>h (Sum.inr.inj z)
 have dd:s.heap.DictOf (cY X.prog X.w) d vs:=⟨_,es,ep,ho,⟨rfl,rfl,rfl⟩,rfl,λe he=>KD.keys kd e (by simpa using he),hp,hnd⟩
 exact tail_any ⟨_,ho,rfl⟩ slot_dict_getitem.lookup (wpAny_getItem_of (oU _ _ i t) dd.mapOf hv ⟨.str j,H,I.tok _,⟨t',rfl⟩,q⟩) hs
end
section
variable{X:Cx}
def zJP:V->Option Int->Option Int->Hp->VK->Prop:=λx lo hi H Q=>∃z,x=.str z/\z.length<=sizeLine/\Q (.str (Txt.slice z lo hi)) H
theorem zHl:SlR X zJP:=by
 intro pins s σ H x v vl vu lo hi sl Q I rx hs pl pu h
 obtain⟨z,rfl,hz,q⟩:=h
 obtain⟨t,rfl⟩:=rx
 obtain⟨o,ho,hc,hd⟩:=hs
 refine⟨"str",_,F.slot_str_getitem.lookup,typeIs_str _ _ _,?_⟩
 have fin:∀t' k,EP X pins σ Q (.str (Txt.slice z lo hi) t') {s with toks:=k}:=λt' k=>⟨.str _,H,I.tok k,⟨t',rfl⟩,q⟩
 cases pl with
 |none=>cases pu with
  |none=>exact wpAny_getItem_str_slice (l:=none) (u:=none) (st:=none) ⟨o,ho,hc,hd⟩ rfl (post_val_or_str ⟨Nat.le_trans (Txt.slice_le z _ _) hz,fin⟩)
  |int j uj=>exact wpAny_getItem_str_slice (l:=none) (u:=some (j,uj)) (st:=none) ⟨o,ho,hc,hd⟩ rfl (post_val_or_str ⟨Nat.le_trans (Txt.slice_le z _ _) hz,fin⟩)
 |int i ui=>cases pu with
  |none=>exact wpAny_getItem_str_slice (l:=some (i,ui)) (u:=none) (st:=none) ⟨o,ho,hc,hd⟩ rfl (post_val_or_str ⟨Nat.le_trans (Txt.slice_le z _ _) hz,fin⟩)
  |int j uj=>exact wpAny_getItem_str_slice (l:=some (i,ui)) (u:=some (j,uj)) (st:=none) ⟨o,ho,hc,hd⟩ rfl (post_val_or_str ⟨Nat.le_trans (Txt.slice_le z _ _) hz,fin⟩)
theorem jQ{ss:List Str}:∀{us:List Value},Vals (ss.map V.str) us->StrsAre us ss:=by
 induction ss with
 |nil=>intro us r;rw[List.map_nil]at r;cases r;exact .nil
 |cons n ns ih=>
  intro us r
  rw[List.map_cons]at r
  cases r with
  |cons r1 r2=>
   obtain⟨t,e⟩:=r1
   subst e
   exact .cons n t (ih r2)
theorem yC{us:List Value}{ss:List Str}(h:StrsAre us ss):Vals (ss.map V.str) us:=by
 induction h with
 |nil=>exact .nil
 |cons n t _ ih=>exact .cons ⟨t,rfl⟩ ih
theorem call_sortedS:CallR X (.builtin "sorted") (λxs H Q=>∃(p:Addr) (ss:List Str),xs=[.ref p]/\SqL X.K H p (ss.map V.str)/\ss.length<64 /\
  ∀(ss':List Str) (l:Addr),ss'.Perm ss->sortedS ss'=true->H l=none->Q (.ref l) (upd H l (.lst (ss'.map V.str)))):=by
 intro pins s σ H xs us Q I r h
 obtain⟨p,ns,rfl,hq,h64,q⟩:=h
 obtain⟨u,rfl,rx⟩:=cV r
 cases rx
 obtain⟨its,rv,pl,hz⟩:=I.list hq
 have hi:StrsAre its ns:=jQ rv
 have hll:=rv.length
 rw[List.length_map]at hll
 refine sorted_strs pl.isList hi (by omega) λout ns' a1 a2 a3=>?_
 obtain⟨e,he⟩:=sortedAll_at s.heap its out
 have hlen:=a2.length_eq
 refine⟨.ref (s.heap.objs.size+1),_,I.laid (t':=s.toks) (λb o e=>sortedAll_old e) (Nat.le_succ _) (show ObjOk X.prog X.w _ _ _ (.lst (ns'.map V.str)) from ⟨?_,out.toList,e,yC a1,he⟩),rfl,q ns' _ a2 a3 (I.hok.fresh (Nat.le_succ _))⟩
 rw[List.length_map,hlen]
 exact Nat.le_of_lt (Nat.lt_trans h64 (by decide))
def bU(ss:List Str):List Nat:=(ss.map λs=>s.cps.toList).flatten
theorem pN:∀{us:List Value}{ss:List Str},StrsAre us ss->∃l:List (Str×Tok),us=strValues l/\l.map (·.1)=ss
 |_,_,.nil=>⟨[],rfl,rfl⟩
 |_,_,.cons y t h=>by
  obtain⟨l,e1,e2⟩:=pN h
  exact⟨(y,t)::l,by rw[e1];rfl,by simp[e2]⟩
theorem tQ:∀ss:List Str,(Str.join ⟨#[]⟩ ss).cps.toList=bU ss
 |[]=>rfl
 |[x]=>by simp[Str.join,bU]
 |x::y::r=>by
  have ih:=tQ (y::r)
  show((x++(⟨#[]⟩:Str)++Str.join ⟨#[]⟩ (y::r)):Str).cps.toList=_
  have e:∀a b:Str,(a++b).cps.toList=a.cps.toList++b.cps.toList:=λa b=>by
   show(a.cps++b.cps).toList=_
   simp
  rw[e,e,ih]
  simp[bU]
theorem zAK:∀(ss:List Str) (n:Nat),ss.foldl (λa s=>a+s.length+0) n=n+(bU ss).length
 |[],n=>by simp[bU]
 |s::r,n=>by
  rw[List.foldl_cons,zAK r]
  simp[bU,Str.length]
  omega
def zI0(K:W.Frag):V->List V->Hp->VK->Prop:=λx vs H Q=>∃p ss,x=.str ⟨#[]⟩/\vs=[.ref p]/\SqL K H p (ss.map V.str)/\(bU ss).length<=100000/\∀z:Str,z.cps.toList=bU ss->Q (.str z) H
theorem zGK:MtM X "str.join" (zI0 X.K):=by
 intro pins s σ H x vs v us Q I rx rv h
 obtain⟨p,ss,rfl,rfl,hq,hz,q⟩:=h
 obtain⟨t,rfl⟩:=rx
 obtain⟨u,rfl,ru⟩:=rv.one
 cases ru
 obtain⟨its,rv,pl,hz'⟩:=I.list hq
 obtain⟨l,e1,e2⟩:=pN (jQ rv)
 have hl:=pl.isList
 rw[e1]at hl
 have hlen:((l.map (·.1)).toArray.foldl (λa s=>a+s.length+(⟨#[]⟩:Str).length) 0)=(bU ss).length:=by
  rw[e2,List.foldl_toArray]
  show ss.foldl (λa s=>a+s.length+0) 0=_
  rw[zAK]
  omega
 refine call_meets F.slot_str_join (typeIs_str _ _ _) F.entry_str_join (F.args_str_join_2 _ _) (meets_str_join_list ⟨#[]⟩ t p l (by
  rw[hlen]
  show decide (_ > sizeLine)=false
  exact decide_eq_false (Nat.not_lt.mpr (Nat.le_trans hz (by decide))))) ⟨hl,?_⟩
 have hj:∀z:Str,z=Str.join ⟨#[]⟩ ss->∀t' k,EP X pins σ Q (.str z t') {s with toks:=k}:=λz e t' k=>⟨.str z,H,I.tok k,⟨t',rfl⟩,q z (by rw[e,tQ])⟩
 have hlz:(Str.join ⟨#[]⟩ ss).length<=sizeLine:=by
  show(Str.join ⟨#[]⟩ ss).cps.size<=_
  rw[<-Array.length_toList,tQ]
  exact Nat.le_trans hz (by decide)
 match l,e2 with
 |[],e2=>exact⟨by rw[StrLaws.glued_eq_join];exact Nat.zero_le _,hj _ (by rw[<-e2];rw[StrLaws.glued_eq_join]) _ _⟩
 |[pp],e2=>exact hj _ (by rw[<-e2];rfl) _ s.toks
 |a::b::r,e2=>exact⟨by rw[StrLaws.glued_eq_join,e2];exact hlz,hj _ (by rw[StrLaws.glued_eq_join,e2]) _ _⟩
end
end L2
namespace L2
open PySem
theorem yQ{α:Type}:∀(l:List α) (i:Nat) (h:i<l.length),(l[i]::l.eraseIdx i).Perm l
 |[],i,h=>by simp at h
 |x::l,0,h=>by simp
 |x::l,i+1,h=>by
  have h':i<l.length:=by simpa using h
  simp only[List.getElem_cons_succ,List.eraseIdx_cons_succ]
  exact(List.Perm.swap _ _ _).trans (.cons _ (yQ l i h'))
end L2
namespace L2
open PySem PySem.Spec PyProof.Rows
theorem pG:∀{vs:List Value}{ss:List Str},StrsAre vs ss->vs.length=ss.length
 |_,_,.nil=>rfl
 |_,_,.cons _ _ h=>by simp[pG h]
end L2
namespace L2
open PySem PySem.Spec PyProof.Rows
theorem mR:∀{vs:List Value}{ss:List Str},StrsAre vs ss->∀(i:Nat) (v:Value),vs[i]?=some v->∃t,v=.str (ss.getD i ⟨#[]⟩) t
 |_,_,.nil,i,v,h=>by simp at h
 |_,_,.cons y t hr,0,v,h=>by
  simp at h
  exact⟨t,by rw[<-h];rfl⟩
 |_,_,.cons y t hr,i+1,v,h=>by
  simp only[List.getElem?_cons_succ]at h
  obtain⟨u,e⟩:=mR hr i v h
  exact⟨u,by rw[e];rfl⟩
end L2
namespace L2
open PySem PySem.Spec PyProof.Rows
section
variable{X:Cx}
theorem Inv.draw{pins:List (Addr×Obj)}{σ:St}{H:Hp}{s:Shared}(I:Inv X pins σ H s)(d:Drawn):Inv X pins σ H {s with drawn:=d}:=
 ⟨I.ok,I.os,I.bare,I.base,I.loc,I.cell,I.free,I.freeC,I.pin,I.hok,I.len⟩
def mE(x:Str)(n:Int):Str:=⟨(List.replicate n.toNat x.cps.toList).flatten.toArray⟩
def zIY:R2:=λx y H Q=>∃(z:Str) (n:Int),x=.str z/\y=.int n/\z.length<=1000/\n<=1000 /\ -1000<=n/\Q (.str (mE z n)) H
theorem tR(x:Array Nat):∀n (acc:Array Nat),((List.replicate n x).foldl (·++·) acc)=(acc.toList++(List.replicate n x.toList).flatten).toArray
 |0,acc=>by simp
 |n+1,acc=>by
  rw[List.replicate_succ,List.foldl_cons,tR x n,List.replicate_succ,List.flatten_cons]
  simp
theorem zGG:OpR X (binaryOp .Mult) zIY:=by
 intro pins s σ H x y v u Q I rx ry h
 obtain⟨z,n,rfl,rfl,hz,n1,n0,q⟩:=h
 obtain⟨t,rfl⟩:=rx
 obtain⟨t',rfl⟩:=ry
 have fin:∀(w:Str) (k:Tok) (tk:Nat),w=mE z n->EP X pins σ Q (.str w k) {s with toks:=tk}:=λw k tk e=>⟨.str w,H,I.tok tk,⟨k,rfl⟩,by rw[e];exact q⟩
 have pos:∀m:Nat,m<=1000->z.length*m<=1000000:=λm hm=>Nat.mul_le_mul hz hm
 refine P.mul_str (by rw[decide_eq_false (by omega),decide_eq_false (by omega)];rfl) (λh1 _ h2=>?_) (λh1 _=>?_) ?_
 ·have:(2 ^ 63-1) / n>=1000:=by
   have h3:n<=1000:=n1
   have h4:0<n:=by omega
   rw[ge_iff_le,Int.le_ediv_iff_mul_le h4]
   omega
  omega
 ·show decide (_ > sizeLine)=false
  refine decide_eq_false (Nat.not_lt.mpr (Nat.le_trans (pos n.toNat (by omega)) (by decide)))
 ·split
  ·refine⟨by decide,fin _ _ _ ?_⟩
   unfold mE
   rw[show n.toNat=0 by omega]
   rfl
  ·split
   ·rename_i h1 h2
    refine fin _ _ s.toks ?_
    rw[Bool.or_eq_true]at h2
    unfold mE
    rcases h2 with h3|h3
    ·have:n=1:=by simpa using h3
     rw[this]
     simp
    ·have hz0:z.cps=#[]:=by
      have:z.cps.size=0:=by simpa[Str.length]using h3
      exact Array.size_eq_zero_iff.mp this
     have e:∀m:Nat,(List.replicate m ([]:List Nat)).flatten=[]:=λm=>by
      induction m with
      |zero=>rfl
      |succ m ih=>rw[List.replicate_succ,List.flatten_cons,ih];rfl
     obtain⟨zc⟩:=z
     have hz0:zc=#[]:=hz0
     subst hz0
     show(⟨#[]⟩:Str)=⟨(List.replicate n.toNat ([]:List Nat)).flatten.toArray⟩
     rw[e]
   ·refine⟨?_,fin _ _ _ ?_⟩
    ·show(List.foldl (λx1 x2=>x1++x2) #[] (List.replicate n.toNat z.cps)).size<=_
     rw[tR,List.size_toArray,List.length_append,uI]
     show 0+n.toNat*z.cps.toList.length<=_
     have:=pos n.toNat (by omega)
     rw[Nat.mul_comm]at this
     have e:z.cps.toList.length=z.length:=by simp[Str.length]
     rw[e]
     exact Nat.le_trans (by omega) (show 1000000<=sizeLine by decide)
    ·unfold mE
     rw[tR]
     simp
def zJN(K:W.Frag):V->Option Int->Option Int->Hp->VK->Prop:=λx lo hi H Q=>∃a xs,x=.ref a/\SqT K H a xs/\∀p H',Same H H'->SqT K H' p (fV xs lo hi)->Q (.ref p) H'
theorem zDf{prog:Program}{w:World}{A:Around}{E:Value->Shared->Prop}{s:Shared}{t sl:Addr}{items:Array Value}{vl vu:Value}{lo hi:Option Int}{Q:Value->Shared->Prop}(ht:IsTup s.heap t items)(hs:s.heap.IsSliceOf sl vl vu .none)(pl:IsPart vl lo)(pu:IsPart vu hi)
  (hw:HT.sIx items.size 0 lo=0/\HT.sIx items.size items.size hi=items.size) (h:Q (.ref t) s):wpAny (model prog w) A (getItem (.ref t) (.ref sl)) Q E s:=by
 obtain⟨os,hos,hcs,hds⟩:=id hs
 have hTs:s.TypeIs (.ref sl) "slice":=⟨os,hos,hcs⟩
 unfold getItem
 try with_reducible refine wpAny_holding ?_
 first|refine wpAny_bind (wpAny_pure ?_)|skip
 refine wpAny_bind (wpAny_sequenceKey ht.typeIs (by decide) ?_)
 refine wpAny_bind (wpAny_callSpecial?_slot (name:=Str.ofString "__getitem__") ht.typeIs PyProof.Rows.slot_tuple_getitem (wpAny_call_entry PyProof.Rows.slot_tuple_getitem ht.typeIs entry_tuple_getitem ?_ (args_tuple_getitem _ _)))
 show wpAny _ _ (Builtin.Tuple.tupleItemsOf (.ref t) >>= _) _ _ s
 refine wpAny_bind (tupleItemsOf_ ht (wpAny_bind (wpAny_typeOf hTs ?_)))
 rw[if_pos (by decide)]
 refine wpAny_bind (HT.sliceApplied_gen hs pl pu ?_)
 rw[hw.1,hw.2]
 dsimp only
 rw[if_pos (by simp)]
 unfold Builtin.Tuple.tupleIsExact
 refine wpAny_bind (wpAny_bind (wpAny_typeOf ht.typeIs (wpAny_pure ?_)))
 rw[if_pos (by decide)]
 exact wpAny_bind (wpAny_rule (wpAny_pure ⟨_,rfl,wpAny_pure h⟩))
theorem zG3{xs:List V}{lo hi:Option Int}(hw:HT.sIx xs.length 0 lo=0/\HT.sIx xs.length xs.length hi=xs.length):fV xs lo hi=xs:=by
 unfold fV
 rw[hw.1,hw.2,List.drop_zero,Nat.sub_zero,List.take_length]
theorem sl_tupW:SlR X (zJN X.K):=by
 intro pins s σ H x v vl vu lo hi sl Q I rx hs pl pu h
 obtain⟨a,xs,rfl,hx,q⟩:=h
 by_cases hw:HT.sIx xs.length 0 lo=0/\HT.sIx xs.length xs.length hi=xs.length
 ·cases rx
  obtain⟨its,r,ht,hz⟩:=I.tuple hx
  have hlen:its.toArray.size=xs.length:=by rw[List.size_toArray];exact r.length.symm
  refine⟨"tuple",_,PyProof.Rows.slot_tuple_getitem.lookup,ht.typeIs,?_⟩
  exact zDf ht hs pl pu (by rw[hlen];exact hw) ⟨.ref a,H,I,rfl,q a H (λ_ _ e=>e) (by rw[zG3 hw];exact hx)⟩
 ·exact zHk pins s σ H _ v vl vu lo hi sl Q I rx hs pl pu ⟨a,xs,rfl,hx,hw,λp np=>q p _ (λb o e=>by rw[bD (dM e np)];exact e) (SqT.of bF)⟩
end
end L2
namespace L2
open PySem PySem.Spec PyProof.Rows
theorem zBn(f:Nat->List Nat):∀n,argBest (λi j=>decide (f i<f j)) n<=n/\∀j,j<=n->f (argBest (λi j=>decide (f i<f j)) n)<=f j
 |0=>⟨Nat.le_refl _,λj hj=>by rw[Nat.le_zero.mp hj];exact List.le_refl _⟩
 |n+1=>by
  obtain⟨h1,h2⟩:=zBn f n
  show(if decide (f (n+1)<f (argBest _ n))=true then n+1 else argBest _ n)<=n+1/\∀j,j<=n+1->f (if decide (f (n+1)<f (argBest _ n))=true then n+1 else argBest _ n)<=f j
  by_cases h:f (n+1)<f (argBest (λi j=>decide (f i<f j)) n)
  ·rw[if_pos (decide_eq_true h)]
   refine⟨Nat.le_refl _,λj hj=>?_⟩
   rcases Nat.lt_or_eq_of_le hj with z|z
   ·exact List.le_trans (List.le_of_lt h) (h2 j (by omega))
   ·rw[z];exact List.le_refl _
  ·rw[if_neg (λz=>h (of_decide_eq_true z))]
   refine⟨by omega,λj hj=>?_⟩
   rcases Nat.lt_or_eq_of_le hj with z|z
   ·exact h2 j (by omega)
   ·rw[z];exact List.not_lt.mp h
theorem zBo(f:Nat->List Nat):∀n,argBest (λi j=>decide (f j<f i)) n<=n/\∀j,j<=n->f j<=f (argBest (λi j=>decide (f j<f i)) n)
 |0=>⟨Nat.le_refl _,λj hj=>by rw[Nat.le_zero.mp hj];exact List.le_refl _⟩
 |n+1=>by
  obtain⟨h1,h2⟩:=zBo f n
  show(if decide (f (argBest _ n)<f (n+1))=true then n+1 else argBest _ n)<=n+1/\∀j,j<=n+1->f j<=f (if decide (f (argBest _ n)<f (n+1))=true then n+1 else argBest _ n)
  by_cases h:f (argBest (λi j=>decide (f j<f i)) n)<f (n+1)
  ·rw[if_pos (decide_eq_true h)]
   refine⟨Nat.le_refl _,λj hj=>?_⟩
   rcases Nat.lt_or_eq_of_le hj with z|z
   ·exact List.le_trans (h2 j (by omega)) (List.le_of_lt h)
   ·rw[z];exact List.le_refl _
  ·rw[if_neg (λz=>h (of_decide_eq_true z))]
   refine⟨by omega,λj hj=>?_⟩
   rcases Nat.lt_or_eq_of_le hj with z|z
   ·exact h2 j (by omega)
   ·rw[z];exact List.not_lt.mp h
theorem zM{l:List Str}{i:Nat}(h:i<l.length):l.getD i ⟨#[]⟩∈l:=by
 rw[List.getD_eq_getElem?_getD,List.getElem?_eq_getElem h]
 exact List.getElem_mem h
theorem zH{l:List Str}{a:Str}(h:a∈l):∃j,j<l.length/\l.getD j ⟨#[]⟩=a:=by
 obtain⟨j,hj,e⟩:=List.mem_iff_getElem.mp h
 exact⟨j,hj,by rw[List.getD_eq_getElem?_getD,List.getElem?_eq_getElem hj];exact e⟩
section
variable{prog:Program}{w:World}{A:Around}{E:Value->Shared->Prop}{s:Shared}{l:Addr}{its:Array Value}{ss:List Str}
theorem zDB{P:Nat->Value->Prop}(val:Nat->Str)(hval:∀i v,P i v->∃t,v=.str (val i) t):CmpOf prog w A .Lt P (λi j=>decide ((val i).cps.toList<(val j).cps.toList)):=λi j vi vj s Q E hi hj h=>by
 obtain⟨t,rfl⟩:=hval i vi hi
 obtain⟨u,rfl⟩:=hval j vj hj
 exact richCompare_gives (op:=.Lt) (typeIs_str s _ t) (typeIs_str s _ u) F.slot_str_lt F.entry_str_lt (F.args_str_lt_2 _ _) (gives_str_lt _ _ t u) (λx=>nomatch x) h
theorem zDC{P:Nat->Value->Prop}(val:Nat->Str)(hval:∀i v,P i v->∃t,v=.str (val i) t):CmpOf prog w A .Gt P (λi j=>decide ((val j).cps.toList<(val i).cps.toList)):=λi j vi vj s Q E hi hj h=>by
 obtain⟨t,rfl⟩:=hval i vi hi
 obtain⟨u,rfl⟩:=hval j vj hj
 exact richCompare_gives (op:=.Gt) (typeIs_str s _ t) (typeIs_str s _ u) F.slot_str_gt F.entry_str_gt (F.args_str_gt_2 _ _) (gives_str_gt _ _ t u) (λx=>nomatch x) h
theorem yO{Q:Value->Shared->Prop}(hl:s.heap.IsList l its)
  (h:∀s₂:Shared,s₂={s with heap:=s.heap.push {cls:=.type "list_iterator",data:=.fields #[.ref l,.int 0 0]}} ->
   (s₂.heap.IsListIter s.heap.objs.size l 0/\s₂.heap.IsList l its)->(∀b∈[s.heap.objs.size,l],b<s₂.heap.objs.size)->l≠s.heap.objs.size->Q (.ref s.heap.objs.size) s₂):
  wpAny (model prog w) A (pyIter (.ref l)) Q E s:=by
 have hlt:l<s.heap.objs.size:=by obtain⟨_,e,_⟩:=hl;exact Heap.lt_size e
 refine wpAny_pyIter_list hl (h _ rfl ⟨⟨_,Heap.get?_push_size _ rfl,rfl,rfl⟩,hl.push _⟩ (λb hb=>?_) (Nat.ne_of_lt hlt))
 show b<(s.heap.push _).objs.size
 rw[Heap.size_push]
 simp only[List.mem_cons,List.not_mem_nil,or_false]at hb
 rcases hb with z|z
 ·rw[z];exact Nat.lt_succ_self _
 ·rw[z];exact Nat.lt_succ_of_lt hlt
theorem zFD{Q:Value->Shared->Prop}(hh:A.handled=none)(hl:s.heap.IsList l its)(hi:StrsAre its.toList ss)(hne:0<ss.length)
  (h:∀x t h' tk,x∈ss->(∀y∈ss,x.cps.toList<=y.cps.toList)->(∀b o,s.heap.get? b=some o->h'.get? b=some o)->Q (.str x t) {s with heap:=h',toks:=tk}):
  wpAny (model prog w) A (call (.builtin "min") [.ref l]) Q E s:=by
 have hsz:its.size=ss.length:=by rw[<-Array.length_toList,pG hi]
 refine call_min_walk (yO hl λs₂ e st hfp hlI=>?_)
 subst e
 refine⟨_,_,_,_,_,_,_,rfl,Walks.list (A:=A.in1) hh _ l hlI its,st,hfp,by omega,zDB (λi=>ss.getD i ⟨#[]⟩) (λi v hv=>mR hi i v (by rw[Array.getElem?_toList];exact hv)),λv h' tk hP hk=>?_⟩
 obtain⟨t,rfl⟩:=mR hi _ v (by rw[Array.getElem?_toList];exact hP)
 obtain⟨b1,b2⟩:=zBn (λi=>(ss.getD i ⟨#[]⟩).cps.toList) (its.size-1)
 refine h _ t h' tk (zM (by omega)) (λy hy=>?_) (old_kept hk)
 obtain⟨j,hj,rfl⟩:=zH hy
 exact b2 j (by omega)
theorem zFE{Q:Value->Shared->Prop}(hh:A.handled=none)(hl:s.heap.IsList l its)(hi:StrsAre its.toList ss)(hne:0<ss.length)
  (h:∀x t h' tk,x∈ss->(∀y∈ss,y.cps.toList<=x.cps.toList)->(∀b o,s.heap.get? b=some o->h'.get? b=some o)->Q (.str x t) {s with heap:=h',toks:=tk}):
  wpAny (model prog w) A (call (.builtin "max") [.ref l]) Q E s:=by
 have hsz:its.size=ss.length:=by rw[<-Array.length_toList,pG hi]
 refine call_max_walk (yO hl λs₂ e st hfp hlI=>?_)
 subst e
 refine⟨_,_,_,_,_,_,_,rfl,Walks.list (A:=A.in1) hh _ l hlI its,st,hfp,by omega,zDC (λi=>ss.getD i ⟨#[]⟩) (λi v hv=>mR hi i v (by rw[Array.getElem?_toList];exact hv)),λv h' tk hP hk=>?_⟩
 obtain⟨t,rfl⟩:=mR hi _ v (by rw[Array.getElem?_toList];exact hP)
 obtain⟨b1,b2⟩:=zBo (λi=>(ss.getD i ⟨#[]⟩).cps.toList) (its.size-1)
 refine h _ t h' tk (zM (by omega)) (λy hy=>?_) (old_kept hk)
 obtain⟨j,hj,rfl⟩:=zH hy
 exact b2 j (by omega)
end
section
variable{X:Cx}
theorem zD3(hc:X.calm=true):CallR X (.builtin "min") (λxs H Q=>∃(p:Addr) (ss:List Str),xs=[.ref p]/\SqL X.K H p (ss.map V.str)/\0<ss.length/\∀x,x∈ss->(∀y∈ss,x.cps.toList<=y.cps.toList)->Q (.str x) H):=by
 intro pins s σ H xs us Q I r h
 obtain⟨p,ss,rfl,hq,hn,q⟩:=h
 obtain⟨u,rfl,rx⟩:=cV r
 cases rx
 obtain⟨its,rv,pl,hz⟩:=I.list hq
 refine zFD (I.ok.hd hc) pl.isList (jQ rv) hn λx t h' tk h1 h2 hk=>?_
 exact⟨.str _,H,I.kept hk,⟨t,rfl⟩,q _ h1 h2⟩
theorem zD4(hc:X.calm=true):CallR X (.builtin "max") (λxs H Q=>∃(p:Addr) (ss:List Str),xs=[.ref p]/\SqL X.K H p (ss.map V.str)/\0<ss.length/\∀x,x∈ss->(∀y∈ss,y.cps.toList<=x.cps.toList)->Q (.str x) H):=by
 intro pins s σ H xs us Q I r h
 obtain⟨p,ss,rfl,hq,hn,q⟩:=h
 obtain⟨u,rfl,rx⟩:=cV r
 cases rx
 obtain⟨its,rv,pl,hz⟩:=I.list hq
 refine zFE (I.ok.hd hc) pl.isList (jQ rv) hn λx t h' tk h1 h2 hk=>?_
 exact⟨.str _,H,I.kept hk,⟨t,rfl⟩,q _ h1 h2⟩
end
end L2
namespace L2
open PySem PySem.Spec PyProof.Rows
open PySem PySem.Spec PyProof.Rows
section
variable{κ:Type}[DecidableEq κ]
def fH(kvs:List (κ×V))(k:κ):Option V:=(kvs.find? λkv=>decide (kv.1=k)).map (·.2)
theorem tF{p:κ×V}{r:List (κ×V)}{k:κ}(e:p.1=k):fH (p::r) k=some p.2:=by simp[fH,List.find?_cons,e]
theorem tG{p:κ×V}{r:List (κ×V)}{k:κ}(e:¬ p.1=k):fH (p::r) k=fH r k:=by simp[fH,List.find?_cons,e]
theorem RelO.isSome_eq{o:Option V}{u:Option Value}(r:RelO o u):o.isSome=u.isSome:=by
 cases o with
 |none=>cases u with
  |none=>rfl
  |some _=>exact(show False from r).elim
 |some _=>cases u with
  |none=>exact(show False from r).elim
  |some _=>rfl
theorem KV.val{kvs:List (κ×V)}{vs:List (κ×Value)}(r:KV kvs vs)(k:κ):RelO (fH kvs k) (valueAt vs k):=by
 unfold KV at r
 induction r with
 |nil=>exact True.intro
 |@cons p q ps qs h t ih=>
  obtain⟨h1,h2⟩:=h
  by_cases e:p.1=k
  ·have e':q.1=k:=h1.symm.trans e
   have b:valueAt (q::qs) k=some q.2:=by simp[valueAt,List.find?_cons,e']
   rw[tF e,b];exact h2
  ·have e':¬ q.1=k:=λz=>e (h1.trans z)
   have b:valueAt (q::qs) k=valueAt qs k:=by simp[valueAt,List.find?_cons,e']
   rw[tG e,b];exact ih
theorem KV.length{kvs:List (κ×V)}{vs:List (κ×Value)}(r:KV kvs vs):kvs.length=vs.length:=Paired.length r
end
theorem wG{P:Program}{w:World}{k:Key}{u:Value}(r:RelV (kV k) u):(cY P w).is k u=true:=by
 cases k with
 |inl i=>obtain⟨t,e⟩:=(show ∃t,u=Value.int i t from r);subst e;exact zDw P w i t
 |inr x=>obtain⟨t,e⟩:=(show ∃t,u=Value.str x t from r);subst e;exact oU P w x t
theorem zK{P:Program}{w:World}:∀{ks:List Key}{us:List Value},Vals (ks.map kV) us->ItemsAre (cY P w) ks us
 |[],_,r=>by rw[List.map_nil]at r;cases r;exact .nil
 |k::ks,_,r=>by
  rw[List.map_cons]at r
  cases r with
  |cons h t=>exact .cons (wG h) (zK t)
abbrev KT(H:Hp):List (List Key×V)->List (List Key×Addr×Value)->Prop:=Paired λp q=>p.1=q.1/\H q.2.1=some (.tup (p.1.map kV))/\RelV p.2 q.2.2
theorem KT.val{H:Hp}{kvs:List (List Key×V)}{xs:List (List Key×Addr×Value)}(r:KT H kvs xs)(k:List Key):RelO (fH kvs k) ((atKey xs k).map (·.2)):=by
 induction r with
 |nil=>exact True.intro
 |@cons p q ps qs h t ih=>
  obtain⟨h1,_,h2⟩:=h
  by_cases e:p.1=k
  ·have e':q.1=k:=h1.symm.trans e
   have b:atKey (q::qs) k=some q.2:=by simp[atKey,List.find?_cons,e']
   rw[tF e,b];exact h2
  ·have e':¬ q.1=k:=λz=>e (h1.trans z)
   have b:atKey (q::qs) k=atKey qs k:=by simp[atKey,List.find?_cons,e']
   rw[tG e,b];exact ih
section
variable{P:Program}{w:World}{H:Hp}{h:Heap}{a:Addr}
theorem zB1{u:HO}(ok:HOk P w H h)(e:Rd H a u):ObjOk P w H h a u:=e.ok ok
theorem rG{kvs:List (Key×V)}(ok:HOk P w H h)(e:Rd H a (.dK kvs)):kvs.length<=sizeLine/\(a==sysModules)=false/\∃vs,KV kvs vs/\h.DictOf (cY P w) a vs:=
 show ObjOk P w H h a (.dK kvs) from zB1 ok e
theorem vJ{ks:List Key}(ok:HOk P w H h)(e:H a=some (.tup (ks.map kV))):(tupleKind (cY P w)).is h ks a:=by
 obtain⟨_,its,r,o,h1,h2,n,h3⟩:=(show ObjOk P w H h a (.tup (ks.map kV)) from ok a _ e)
 exact⟨o,its.toArray,n,h1,h2,h3,by simpa using zK r⟩
theorem wJ{kvs:List (List Key×V)}(ok:HOk P w H h)(e:Rd H a (.dT kvs)):kvs.length<=sizeLine/\(a==sysModules)=false /\
  ∃xs,KT H kvs xs/\h.DictOfH (tupleKind (cY P w)) a xs:=by
 obtain⟨z,y,xs,r,o,es,ep,h1,h2,h3,h4,h5⟩:=(show ObjOk P w H h a (.dT kvs) from zB1 ok e)
 refine⟨z,y,xs,r,o,es,ep,h1,h2,h3,h4,λx hx=>?_,h5⟩
 have all:∀{l:List (List Key×V)} {m:List (List Key×Addr×Value)},KT H l m->∀x∈m,(tupleKind (cY P w)).is h x.1 x.2.1:=by
  intro l m q
  induction q with
  |nil=>intro x hx;exact nomatch hx
  |@cons p q ps qs hq t ih=>
   intro x hx
   rcases List.mem_cons.mp hx with e|hx
   ·subst e
    exact vJ ok (by rw[<-hq.1];exact hq.2.1)
   ·exact ih x hx
 exact all r x hx
end
def oP(H:Hp)(a:Addr)(y:V)(r:Option V):Prop:=
 (∃kvs k,Rd H a (.dK kvs)/\y=kV k/\r=fH kvs k)\/∃kvs k b,Rd H a (.dT kvs)/\y=.ref b/\H b=some (.tup (k.map kV))/\r=fH kvs k
section
variable{X:Cx}{pins:List (Addr×Obj)}{σ:St}{H:Hp}{s:Shared}{a:Addr}{y v:V}{u r:Value}{o:Option V}{A:Around}{E:Value->Shared->Prop}
theorem zEO{Q:Value->Shared->Prop}(hu:A.units+1<cLine)(I:Inv X pins σ H s)(g:oP H a y (some v))(ry:RelV y u)(h:∀w' s',Inv X pins σ H s'->RelV v w'->Q w' s'):
  wpAny (model X.prog X.w) A (getItem (.ref a) u) Q E s:=by
 rcases g with⟨kvs,k,e,ey,l⟩|⟨kvs,k,b,e,ey,eb,l⟩
 ·subst ey
  obtain⟨z,hd,vs,rel,dd⟩:=rG I.hok e
  obtain⟨w',hw,rw'⟩:=RelO.some_of (v:=v) (o:=valueAt vs k) (by rw[l];exact rel.val k)
  exact wpAny_getItem_of (wG ry) dd.mapOf hw (h w' _ (I.tok _) rw')
 ·subst ey
  cases (show u=Value.ref b from ry)
  obtain⟨z,hd,xs,rel,dd⟩:=wJ I.hok e
  obtain⟨w',hw,rw'⟩:=RelO.some_of (v:=v) (o:=(atKey xs k).map (·.2)) (by rw[l];exact rel.val k)
  obtain⟨p,hp,hp2⟩:=Option.map_eq_some_iff.mp hw
  refine wpAny_getItem_heap (tupleKind_room_in1 hu) (vJ I.hok eb) dd hp ?_
  rw[hp2]
  exact h w' _ (I.tok _) rw'
theorem zKV{Q:Value->Shared->Prop}(hu:A.units+1<cLine)(I:Inv X pins σ H s)(g:oP H a y o)(ry:RelV y u)(h:∀s',Inv X pins σ H s'->Q (.bool o.isSome) s'):
  wpAny (model X.prog X.w) A (compareOp .In u (.ref a)) Q E s:=by
 rcases g with⟨kvs,k,e,ey,l⟩|⟨kvs,k,b,e,ey,eb,l⟩
 ·subst ey
  obtain⟨z,hd,vs,rel,dd⟩:=rG I.hok e
  refine wpAny_in_of (wG ry) hd dd.mapOf ?_
  rw[<-(rel.val k).isSome_eq,<-l]
  exact h _ (I.tok _)
 ·subst ey
  cases (show u=Value.ref b from ry)
  obtain⟨z,hd,xs,rel,dd⟩:=wJ I.hok e
  refine wpAny_in_heap (tupleKind_room_in1 hu) (vJ I.hok eb) hd dd ?_
  have q:=(rel.val k).isSome_eq
  rw[Option.isSome_map]at q
  rw[<-q,<-l]
  exact h _ (I.tok _)
end
section
variable{X:Cx}{pins:List (Addr×Obj)}{σ:St}{H:Hp}{s:Shared}{a:Addr}{kvs:List (Key×V)}{k:Key}{u:Value}{A:Around}{E:Value->Shared->Prop}
theorem zJq{Q:Value->Shared->Prop}(I:Inv X pins σ H s)(e:Rd H a (.dK kvs))(h:∀t s',Inv X pins σ H s'->Q (.int kvs.length t) s'):wpAny (model X.prog X.w) A (call (.builtin "len") [.ref a]) Q E s:=by
 obtain⟨z,hd,vs,rel,dd⟩:=rG I.hok e
 refine call_len_dict hd dd (by rw[<-rel.length];rw[sizeLine_eq]at z;omega) ?_
 rw[<-rel.length]
 exact h _ _ (I.tok _)
end
theorem zDA{X:Cx}{pins:List (Addr×Obj)}{σ:St}{H:Hp}{s:Shared}{a:Addr}{y:V}{o:Option V}(I:Inv X pins σ H s)(g:oP H a y o):s.TypeIs (.ref a) "dict":=by
 rcases g with⟨kvs,k,e,_,_⟩|⟨kvs,k,b,e,_,_,_⟩
 ·obtain⟨_,_,vs,_,dd⟩:=rG I.hok e
  exact dd.typeIs
 ·obtain⟨_,_,xs,_,dd⟩:=wJ I.hok e
  exact dd.typeIs
end L2
namespace L2
open PySem PySem.Spec PyProof.Rows
def FzD(H:Hp)(a:Addr)(ob:Obj)(kvs:List (Key×V)):Prop:=H a=some (.frz ob (.dK kvs))
theorem nL{kvs:List (Key×V)}{vs:List (Key×Value)}(r:KV kvs vs):kvs.length=vs.length:=Paired.length r
theorem zBP:∀{kvs:List (Key×V)}{vs:List (Key×Value)}{i:Nat}{k:Key}{v:V},KV kvs vs->kvs[i]?=some (k,v)->∃u,vs[i]?=some (k,u)/\RelV v u
 |_,_,0,_,_,.cons (b:=b) r _,h=>by
  cases h
  obtain⟨e,r⟩:=r
  exact⟨b.2,by show some b=_;rw[show b=(b.1,b.2) from rfl,<-e],r⟩
 |_,_,i+1,_,_,.cons _ rs,h=>zBP (i:=i) rs (by simpa using h)
theorem zGP{k:Key}{u:Value}(h:jI k u=true):RelV (kV k) u:=by
 rcases fX h with⟨i,t,rfl,rfl⟩|⟨x,t,rfl,rfl⟩
 ·exact⟨t,rfl⟩
 ·exact⟨t,rfl⟩
section
variable{X:Cx}{pins:List (Addr×Obj)}{σ:St}{H:Hp}{s:Shared}{a:Addr}{ob:Obj}{kvs:List (Key×V)}
theorem qA(I:Inv X pins σ H s)(h:FzD H a ob kvs):s.heap.get? a=some ob/\(a==sysModules)=false/\kvs.length<=sizeLine/\∃vs es ep,KV kvs vs/\s.heap.DictAt (cY X.prog X.w) a vs ep/\ob.data=.dict es ep:=by
 obtain⟨e,hl,hs,vs,r,o,es,ep,e',x1,x2,x3⟩:=(show ObjOk X.prog X.w H s.heap a (.frz ob (.dK kvs)) from I.hok a _ h)
 rw[e]at e'
 cases e'
 exact⟨e,hs,hl,vs,es,ep,r,⟨ob,es,e,x1,x2,x3⟩,x2⟩
end
def ItD(a:Addr)(ob:Obj)(kvs:List (Key×V)):It:=
 ⟨λi H=>FzD H a ob kvs/\i<kvs.length,λi H x H'=>H'=H/\∃k v,kvs[i]?=some (k,v)/\x=kV k,λi H=>FzD H a ob kvs/\kvs.length<=i⟩
theorem zEg{P:Program}{w:World}{K:W.Frag}{tg:Expr}{a it:Addr}{ob:Obj}{kvs:List (Key×V)}{es:Array DictEntry}{ep:Nat}(hep:ob.data=.dict es ep):
  iV P w K tg (ItD a ob kvs) [it] it (λi h=>h.IsKeyIter it a i kvs.length ep) where
 mem:=by simp
 obj:=λi h st b hb=>by
  have e:b=it:=by simpa using hb
  subst e
  obtain⟨o,e,c,d⟩:=st
  exact⟨o,e,λv z=>by rw[d]at z;cases z⟩
 keep:=λi h h' st k=>st.at λo e=>k it (by simp) o e
 item:=by
  intro X hP hw hK hc i pins s σ H E I hf st hg
  subst hP hw hK
  obtain⟨hz,hi⟩:=hg
  obtain⟨e,hs,hl,vs,es',ep',r,dd,hd'⟩:=qA I hz
  rw[hep]at hd'
  cases hd'
  obtain⟨f0,f1,f2,f3,f4,f5⟩:=hf it (by simp)
  obtain⟨⟨k,v⟩,hx⟩:∃p,kvs[i]?=some p:=⟨kvs[i],by simp[hi]⟩
  obtain⟨u,hu,ru⟩:=zBP r hx
  have st':s.heap.IsKeyIter it a i vs.length ep:=by rw[<-nL r];exact st
  refine wpAny_pyNext_dict_item st' dd hu λkey h' hkey hit' sb=>?_
  have I1:Inv X pins σ H {s with heap:=h'}:=I.turned (t':=s.toks) (λb o hb e=>(sb.2 b hb).trans e) f0 f1 f3 f4 f5
  obtain⟨o,e,c,d⟩:=id hit'
  exact⟨key,rfl,lV (s:={s with heap:=h'}) e c d (by decide) ⟨kV k,H,I1,zGP hkey,⟨rfl,k,v,hx,rfl⟩,by rw[nL r];exact hit',λb hb=>(hf b hb).1⟩⟩
 done:=by
  intro X hP hw hK hc i pins s σ H E I hf st hg
  subst hP hw hK
  obtain⟨hz,hi⟩:=hg
  obtain⟨e,hs,hl,vs,es',ep',r,dd,hd'⟩:=qA I hz
  rw[hep]at hd'
  cases hd'
  obtain⟨f0,f1,f2,f3,f4,f5⟩:=hf it (by simp)
  have st':s.heap.IsKeyIter it a i vs.length ep:=by rw[<-nL r];exact st
  have hn:vs[i]?=none:=List.getElem?_eq_none (by rw[<-nL r];exact hi)
  exact wpAny_pyNext_dict_end (I.ok.hd hc) st' dd hn λh' eb=>⟨rfl,I.turned (t':=s.toks) (λb o hb e=>eb b o hb e) f0 f1 f3 f4 f5⟩
 self:=λ_ _ _ _ _ st h=>wpAny_pyIter_keyiter st h
end L2
namespace L2
open PySem PySem.Spec PyProof.Rows
theorem zDh{prog:Program}{w:World}:∀{kvs:List (Key×Value)}{us:List Str}{acc:Array Value},kvs.map (·.1)=us.map Sum.inr ->
  ItemsOf (λi v=>∃k x,kvs[i]?=some (k,x)/\(cY prog w).is k v=true) acc kvs.length->StrsAre acc.toList us:=by
 intro kvs us acc hk h
 obtain⟨hn,hp⟩:=h
 have key:∀(us:List Str) (l:List Value) (kvs:List (Key×Value)),kvs.map (·.1)=us.map Sum.inr->l.length=kvs.length->(∀(j:Nat) (v:Value),l[j]?=some v->∃k x,kvs[j]?=some (k,x)/\(cY prog w).is k v=true)->StrsAre l us:=by
  intro us
  induction us with
  |nil=>
   intro l kvs hk hl _
   have:kvs=[]:=by simpa using hk
   subst this
   have:l=[]:=List.eq_nil_of_length_eq_zero hl
   subst this
   exact .nil
  |cons y ys ih=>
   intro l kvs hk hl hp
   cases kvs with
   |nil=>simp at hk
   |cons p kvs=>
    cases l with
    |nil=>simp at hl
    |cons v l=>
     simp only[List.map_cons,List.cons.injEq]at hk
     obtain⟨k,x,e,q⟩:=hp 0 v rfl
     have e:p=(k,x):=by simpa using e
     subst e
     have hk1:k=Sum.inr y:=hk.1
     subst hk1
     rcases fX (show jI (Sum.inr y) v=true from q) with⟨i,t,z,_⟩|⟨z,t,e1,rfl⟩
     ·cases z
     ·cases e1
      exact .cons _ _ (ih l kvs hk.2 (by simpa using hl) λj v hj=>hp (j+1) v hj)
 refine key us acc.toList kvs hk (by simpa using hn) λj v hj=>hp j v (by simpa using hj)
section
variable{prog:Program}{w:World}{A:Around}{E:Value->Shared->Prop}{s:Shared}{a:Addr}{us:List Str}
theorem zHj:isSubtype (.type "dict") (.type "dict")=pure true:=by rw[isSubtype_type];kernel_rfl
theorem zEX{Q:Bool->Shared->Prop}(ht:s.TypeIs (.ref a) "dict")(h:Q false s):wpAny (model prog w) A (Builtin.List.listLengthHint (.ref a)) Q E s:=by
 unfold Builtin.List.listLengthHint
 refine wpAny_bind (wpAny_specialOf ht PySem.F.slot_dict_len.lookup ?_)
 have e1:splitId "dict.__len__"=some ("dict","__len__"):=by decide +kernel
 dsimp only
 rw[e1]
 dsimp only
 refine wpAny_bind (wpAny_isInstance ht zHj ?_)
 simp only[Bool.not_true,Bool.false_eq_true,if_false]
 refine wpAny_ite ?_
 rw[if_pos (by decide +kernel)]
 refine wpAny_bind (wpAny_typeOf ht ?_)
 exact wpAny_pure h
theorem zC7{kvs:List (Key×Value)}{ep:Nat}{Q:List Value->Shared->Prop}(hh:A.handled=none)(hsm:(a==sysModules)=false)(S:s.heap.DictAt (cY prog w) a kvs ep)(hks:kvs.map (·.1)=us.map Sum.inr)(hl:us.length<=sizeLine)
  (hQ:∀h' d tk (acc:List Value) vs,StrsAre acc vs->vs.Perm us->s.heap.objs.size<h'.objs.size->(∀b o,s.heap.get? b=some o->h'.get? b=some o)->Q acc {s with heap:=h',drawn:=d,toks:=tk}):
  wpAny (model prog w) A (collect (.ref a)) Q E s:=by
 have alt:a<s.heap.objs.size:=S.lt_size
 have hkl:kvs.length=us.length:=by have:=congrArg List.length hks;simpa using this
 unfold collect
 refine wpAny_bind (wpAny_runValue (codeAny_builtin F.entry_proto_collect ?_))
 rw[Around.under_plainId F.plain_proto_collect _]
 show wpAny _ A.in1 (newList [] >>= λl=>again (.builtin "list.__iadd__" ⟨[l,.ref a],[]⟩)) _ _ s
 refine wpAny_bind (wpAny_newObj_type ?_ (by size_fits))
 refine wpAny_pure ⟨plainId_quiet F.plain_list_iadd _,codeAny_builtin F.entry_list_iadd ?_⟩
 rw[Around.under_plainId F.plain_list_iadd _]
 show wpAny _ A.in1 (Builtin.List.listExtendWith (.ref s.heap.objs.size) (.ref a) (.ref s.heap.objs.size)) _ _ _
 unfold Builtin.List.listExtendWith
 have S1:=S.push {cls:=.type "list",data:=.seq ([]:List Value).toArray}
 have ht:Shared.TypeIs {s with heap:=s.heap.push {cls:=.type "list",data:=.seq ([]:List Value).toArray}} (.ref a) "dict":=S1.dictOf.typeIs
 refine wpAny_bind (wpAny_typeOf ht ?_)
 have h1:Builtin.List.listSameRef (.ref s.heap.objs.size) (.ref a)=false:=by simp[Builtin.List.listSameRef];exact Nat.ne_of_gt alt
 have h2:(Value.type "dict"==Value.type "list")=false:=by decide
 have h3:(Value.type "dict"==Value.type "tuple")=false:=by decide
 simp only[h1,h2,h3,Bool.or_false,Bool.false_eq_true,if_false]
 refine wpAny_bind (wpAny_pyIter_dict hsm S1 ?_)
 generalize hh':((s.heap.push {cls:=.type "list",data:=.seq ([]:List Value).toArray}).push {cls:=.type "dict_keyiterator",data:=.fields #[.ref a,.int 0 0,.int kvs.length 0,.int ep 0]})=h'
 have sz1:(s.heap.push {cls:=.type "list",data:=.seq ([]:List Value).toArray}).objs.size=s.heap.objs.size+1:=Heap.size_push ..
 have kp:∀b o,(s.heap.push {cls:=.type "list",data:=.seq ([]:List Value).toArray}).get? b=some o->h'.get? b=some o:=λb o e=>by rw[<-hh'];exact Heap.get?_push_of_some _ e
 have ht':Shared.TypeIs {s with heap:=h'} (.ref a) "dict":=by
  obtain⟨o,e,c⟩:=ht
  exact⟨o,kp _ _ e,c⟩
 have st0:h'.IsKeyIter (s.heap.objs.size+1) a 0 kvs.length ep/\h'.DictAt (cY prog w) a kvs ep:=by
  refine⟨⟨{cls:=.type "dict_keyiterator",data:=.fields #[.ref a,.int 0 0,.int kvs.length 0,.int ep 0]},?_,rfl,rfl⟩,S1.keep kp⟩
  rw[<-hh',<-sz1]
  exact Heap.get?_push_size _ rfl
 rw[sz1]
 refine wpAny_bind (wpAny_holding (zEX ht' ?_))
 have hA:A.in1.handled=none:=by simp[hh]
 have W:=(Walks.dictKeys (prog:=prog) (w:=w) (A:=A.in1) (knd:=cY prog w) hA (s.heap.objs.size+1) a (λz=>absurd alt (by rw[z];exact Nat.not_lt.mpr (Nat.le_succ _))) kvs ep).toS
 refine wpAny_ite ?_
 rw[if_pos (by decide +kernel)]
 refine wpAny_bind (wpAny_rule ?_)
 have g0:h'.get? s.heap.objs.size=some {cls:=.type "list",data:=.seq ([]:List Value).toArray}:=kp _ _ (Heap.get?_push_size _ rfl)
 have nf:s.heap.objs.size∉[s.heap.objs.size+1,a]:=λm=>by
  simp only[List.mem_cons,List.not_mem_nil,or_false]at m
  rcases m with z|z
  ·omega
  ·rw[<-z]at alt;exact Nat.lt_irrefl _ alt
 refine wpAny_bind ?_
 show wpAny _ A.in1 (updateSeq s.heap.objs.size (·.push .none) >>= λ_=>updateSeq s.heap.objs.size (·.pop)) _ _ _
 refine wpAny_bind (wpAny_updateSeq g0 rfl ?_)
 have g1:=Heap.get?_update_self (Obj.mapSeq (·.push Value.none)) g0 rfl
 refine wpAny_updateSeq g1 rfl ?_
 have g2:=Heap.get?_update_self (Obj.mapSeq (·.pop)) g1 rfl
 have oth:∀b o,b≠s.heap.objs.size->h'.get? b=some o->((h'.update s.heap.objs.size (Obj.mapSeq (·.push Value.none))).update s.heap.objs.size (Obj.mapSeq (·.pop))).get? b=some o:=
  λb o hb e=>(Heap.get?_update_other _ _ (Ne.symm hb)).trans ((Heap.get?_update_other _ _ (Ne.symm hb)).trans e)
 refine wpAny_pure ⟨plainId_quiet F.plain_extend_loop _,codeAny_extend_loopS W (by rw[hkl];exact hl) _ nf _ kvs.length 0 _ _ _ rfl (Nat.zero_le _)
  (W.frame 0 {s with heap:=h'} _ s.toks st0 (Nat.le_refl _) λb hb o e=>oth b o (λz=>nf (z▸hb)) e) g2 (ItemsOf.nil _) λs' acc' c' hm g' hacc=>?_⟩
 show wpAny _ A (load s.heap.objs.size >>= _) _ _ s'
 refine wpAny_bind (wpAny_load g' ?_)
 have hs:=zDh hks hacc
 obtain⟨h'',g'',d'',tk'',os''⟩:=s'
 have e1:g''=s.gens:=hm.gens
 have e2:os''=s.os:=hm.os
 subst e1 e2
 refine wpAny_pure (hQ h'' d'' tk'' acc'.toList us hs (List.Perm.refl _) (Heap.lt_size g') λb o e=>hm.heap b o (λm=>?_) (oth b o (Nat.ne_of_lt (Heap.lt_size e)) (kp b o (Heap.get?_push_of_some _ e))))
 have lt:=Heap.lt_size e
 simp only[List.mem_cons,List.not_mem_nil,or_false]at m
 rcases m with m|m
 ·rw[m]at lt;exact Nat.lt_irrefl _ lt
 ·rw[m]at lt;exact absurd lt (Nat.not_lt.mpr (Nat.le_succ _))
theorem zC9{kvs:List (Key×Value)}{ep:Nat}{Q:Value->Shared->Prop}(hh:A.handled=none)(hsm:(a==sysModules)=false)(S:s.heap.DictAt (cY prog w) a kvs ep)(hks:kvs.map (·.1)=us.map Sum.inr)(h64:us.length<64)
  (h:∀h' d tk (l:Addr) (out:List Value) (ss:List Str) (e:Nat),StrsAre out ss->ss.Perm us->sortedS ss=true->h'.get? l=some (seqObj "list" out.toArray e)->s.heap.objs.size<=l->(∀b o,s.heap.get? b=some o->h'.get? b=some o) ->
   Q (.ref l) {s with heap:=h',drawn:=d,toks:=tk}):wpAny (model prog w) A (call (.builtin "sorted") [.ref a]) Q E s:=by
 refine Calls.call_function_entry kind_sorted plain_sorted entry_sorted (args_sorted1 _) ?_
 unfold Builtin.«sorted»
 refine wpAny_bind (m:=checkCount "sorted" 1 1 _) (wpAny_pure ?_)
 refine wpAny_bind (zC7 (by simp[hh]) hsm S hks (Nat.le_of_lt (Nat.lt_trans h64 (by decide))) λh1 d tk acc vs hs hp le kp=>?_)
 have hlen:acc.length<64:=by rw[pG hs,hp.length_eq];exact h64
 refine wpAny_bind (wpAny_newList ?_ (Nat.le_of_lt (Nat.lt_trans hlen (by decide))))
 have hoL:(h1.push (seqObj "list" acc.toArray 0)).get? h1.objs.size=some (seqObj "list" acc.toArray 0):=Heap.get?_push_size _ rfl
 refine wpAny_bind (wpAny_holding (wpAny_call_entry slot_list_sort ⟨_,hoL,rfl⟩ entry_list_sort (list_sort_treeK strKind_oneLt hoL hs.keysOf (λv₁ v₂ rest e=>keyKind_strs (by rw[<-e];exact hs)) hlen λst' a1 a2=>⟨_,rfl,?_⟩) (args_list_sort _)))
 obtain⟨ss',b1,b2,b3⟩:=sorted_out_str hs a1 a2
 obtain⟨e,he⟩:=sortedHeap_at (out:=(arrOf st').map (·.2)) hoL
 refine wpAny_pure ⟨_,rfl,h _ _ _ _ ((arrOf st').map (·.2)).toList ss' e b1 (b2.trans hp) b3 (by rw[Array.toArray_toList];exact he) (Nat.le_of_lt le) λb o q=>?_⟩
 have lt:=Heap.lt_size (kp b o q)
 rw[sortedHeap_old (Nat.ne_of_lt lt) (by rw[Heap.size_push];exact Nat.lt_succ_of_lt lt)]
 exact Heap.get?_push_of_some _ (kp b o q)
end
section
variable{X:Cx}
def zHs:List V->Hp->VK->Prop:=λxs H Q=>∃(a:Addr) (ob:Obj) (kvs:List (Key×V)) (us:List Str),xs=[.ref a]/\FzD H a ob kvs/\kvs.map (·.1)=us.map Sum.inr/\us.length<64 /\
  ∀(ss:List Str) (l:Addr),ss.Perm us->sortedS ss=true->H l=none->Q (.ref l) (upd H l (.lst (ss.map V.str)))
theorem zBf:∀{kvs:List (Key×V)}{vs:List (Key×Value)},KV kvs vs->kvs.map (·.1)=vs.map (·.1)
 |[],_,.nil=>rfl
 |_::_,_,.cons r rs=>by rw[List.map_cons,List.map_cons,r.1,zBf rs]
theorem zDn(hc:X.calm=true):CallR X (.builtin "sorted") zHs:=by
 intro pins s σ H xs us Q I r h
 obtain⟨a,ob,kvs,uu,rfl,hz,hk,h64,q⟩:=h
 obtain⟨u,rfl,rx⟩:=cV r
 cases rx
 obtain⟨e,hs,hl,vs,es,ep,rr,dd,hd⟩:=qA I hz
 refine zC9 (I.ok.hd hc) hs dd (by rw[<-zBf rr];exact hk) h64 λh' d tk l out ss e hs hp hso hl le k=>?_
 refine⟨.ref l,_,(I.laid (t':=tk) (o:=.lst (ss.map V.str)) k le ?_).draw d,rfl,q ss l hp hso (I.hok.fresh le)⟩
 refine⟨?_,out,e,yC hs,hl⟩
 rw[List.length_map,hp.length_eq]
 exact Nat.le_of_lt (Nat.lt_trans h64 (by decide))
end
end L2
namespace L2
open PySem PySem.Spec PyProof.Rows
theorem zAC:∀{xs:List V}{us:List Value},xs.length=us.length->(∀(i:Nat) (x:V) (u:Value),xs[i]?=some x->us[i]?=some u->RelV x u)->Vals xs us
 |[],[],_,_=>.nil
 |[],_::_,h,_=>by simp at h
 |_::_,[],h,_=>by simp at h
 |x::xs,u::us,h,f=>.cons (f 0 x u rfl rfl) (zAC (by simpa using h) λi x' u' a b=>f (i+1) x' u' (by simpa using a) (by simpa using b))
theorem zDE{xs:List V}{acc:Array Value}{P:Nat->Value->Prop}(h:ItemsOf P acc xs.length)(f:∀(i:Nat) (x:V) (u:Value),xs[i]?=some x->P i u->RelV x u):Vals xs acc.toList:=
 zAC (by rw[Array.length_toList];exact h.1.symm) λi x u a b=>f i x u a (h.2 i u (by rw[<-Array.getElem?_toList];exact b))
section
variable{X:Cx}
def zHu:List V->Hp->VK->Prop:=λxs H Q=>∃j:Int,xs=[.int j]/\∀p,H p=none->Q (.ref p) (upd H p (.rng 0 j))
theorem zDD:CallR X (.type "range") zHu:=by
 intro pins s σ H xs us Q I r h
 obtain⟨j,rfl,q⟩:=h
 obtain⟨u,rfl,rx⟩:=cV r
 obtain⟨t,rfl⟩:=rx
 exact call_range_1 ⟨.ref _,_,I.laid (t':=s.toks+1+1) (o:=.rng 0 j) (λb o e=>Heap.get?_push_of_some _ e) (Nat.le_refl _) ⟨_,_,_,Heap.get?_push_size _ rfl⟩,rfl,q _ I.fresh⟩
def zHw:List V->Hp->VK->Prop:=λxs H Q=>∃(p:Addr) (n:Nat),xs=[.ref p]/\H p=some (.rng 0 n)/\n<=sizeLine/\∀l,H l=none->Q (.ref l) (upd H l (.lst ((List.range n).map λ(i:Nat)=>V.int i)))
theorem zD5(hc:X.calm=true):CallR X (.type "list") zHw:=by
 intro pins s σ H xs us Q I r h
 obtain⟨p,n,rfl,hp,hn,q⟩:=h
 obtain⟨u,rfl,rx⟩:=cV r
 cases rx
 obtain⟨t,u,v,e⟩:=(show ObjOk X.prog X.w H s.heap p (.rng 0 n) from I.hok p _ hp)
 have hz:n<=2 ^ 24:=by rw[sizeLine_eq]at hn;exact hn
 refine call_list_range (I.ok.hd hc) e (small_one (by decide) (by decide) (by omega) (by omega)) (n:=n) (by rw[rangeSize_one];split<;>omega) hz λh' tk acc c k hl ha=>?_
 refine⟨.ref _,_,I.laid (t':=tk) (o:=.lst ((List.range n).map λ(i:Nat)=>V.int i)) k (Nat.le_refl _) ⟨by simpa using hn,acc.toList,c,zDE (P:=λi v=>∃t,v=.int (0+i*1) t) (by simpa using ha) ?_,by simpa using hl⟩,rfl,q _ I.fresh⟩
 intro i x u hx hu
 rw[List.getElem?_map]at hx
 obtain⟨k,hk,rfl⟩:=Option.map_eq_some_iff.mp hx
 have hk:i=k:=by
  have:=(List.getElem?_eq_some_iff.mp hk)
  obtain⟨h1,h2⟩:=this
  simpa using h2
 subst hk
 obtain⟨t,rfl⟩:=hu
 exact⟨t,by simp⟩
def zIZ:List V->Hp->VK->Prop:=λxs H Q=>∃(a:Addr) (kvs:List (Key×V)),xs=[.ref a]/\Rd H a (.dK kvs)/\Q (.int kvs.length) H
theorem zD6:CallR X (.builtin "len") zIZ:=by
 intro pins s σ H xs us Q I r h
 obtain⟨a,kvs,rfl,e,q⟩:=h
 obtain⟨u,rfl,rx⟩:=cV r
 cases rx
 exact zJq I e λt s' I'=>⟨.int kvs.length,H,I',⟨t,rfl⟩,q⟩
def zJS:R2:=λx y H Q=>∃a v,x=.ref a/\oP H a y (some v)/\Q v H
theorem zGQ(hu:X.A.units+1<cLine):IxR X zJS:=by
 intro value slice pins s σ H x y v u Q I rx ry h hs
 obtain⟨a,z,rfl,g,q⟩:=h
 cases rx
 have hT:=zDA I g
 unfold subscriptTail
 refine wpAny_bind ?_
 rw[getitemInPython_of_ne hT.not_modules]
 refine wpAny_bind (wpAny_specialOf hT PySem.F.slot_dict_getitem.lookup ?_)
 have fin:wpAny (model X.prog X.w) X.A (subscripted slice false (.ref a) u) (λr s₃=>wpAny (model X.prog X.w) X.A (letTemporaryGo value (.ref a) r >>= λ_=>pure r) (EP X pins σ Q) X.xe s₃) X.xe s:=by
  rw[hs]
  exact wpAny_operating (zEO hu I g ry λw' s3 I3 rw'=>wpAny_bind (wpAny_letTemporaryGo (wpAny_pure ⟨z,H,I3,rw',q⟩)))
 first
  |exact wpAny_pure (wpAny_bind fin)
  |exact wpAny_bind (wpAny_pure (wpAny_bind fin))
  |exact wpAny_bind fin
def zJU:R2:=λy x H Q=>∃a o,x=.ref a/\oP H a y o/\Q (.bl o.isSome) H
theorem zDR(hu:X.A.units+1<cLine):OpR X (compareOp .In) zJU:=by
 intro pins s σ H y x u v Q I ry rx h
 obtain⟨a,o,rfl,g,q⟩:=h
 cases rx
 exact zKV hu I g ry λs' I'=>⟨.bl _,H,I',rfl,q⟩
end
end L2
namespace L2
open PySem PySem.Spec PyProof.Rows
def fzb:HO->Bool
 |.lst _=>true
 |.dK _=>true
 |_=>false
def FrozenA(H H1 H2:Hp):Prop:=∀b,(H b=none/\∃o ob,fzb o=true/\H1 b=some o/\H2 b=some (.frz ob o))\/(¬ (H b=none/\∃o,fzb o=true/\H1 b=some o)/\H2 b=H1 b)
section
variable{H H1 H2:Hp}{b:Addr}{o:HO}
theorem FrozenA.keep(f:FrozenA H H1 H2)(h:H1 b=some o)(n:fzb o=false):H2 b=some o:=by
 rcases f b with⟨_,o',ob,z,e,_⟩|⟨_,z⟩
 ·rw[h]at e;cases e;rw[n]at z;exact absurd z Bool.false_ne_true
 ·rw[z];exact h
theorem FrozenA.fz(f:FrozenA H H1 H2)(hn:H b=none)(h:H1 b=some o)(n:fzb o=true):∃ob,H2 b=some (.frz ob o):=by
 rcases f b with⟨_,o',ob,z,e,e2⟩|⟨z,_⟩
 ·rw[h]at e;cases e;exact⟨ob,e2⟩
 ·exact absurd ⟨hn,o,n,h⟩ z
theorem FrozenA.none_of(f:FrozenA H H1 H2)(h:H1 b=none):H2 b=none:=by
 rcases f b with⟨_,o',ob,z,e,e2⟩|⟨_,z⟩
 ·rw[h]at e;cases e
 ·rw[z];exact h
end
theorem Good.imp{P:Program}{w:World}{K:W.Frag}{mg:Str->Option Value}{base:Heap}{k:Nat}{x:Str}{ps:List Str}{sp sp':Sp}(G:Good P w K mg base k x ps sp)(h:∀vs H Q E,sp' vs H Q E->sp vs H Q E):Good P w K mg base k x ps sp':=by
 obtain⟨f,fd,F,b,m,kp⟩:=G
 exact⟨f,fd,F.imp h,b,m,kp⟩
def zCb:HO->Bool
 |.frz _ _=>true
 |.tup _=>true
 |_=>false
def HS(H H':Hp):Prop:=∀b o,zCb o=true->H b=some o->H' b=some o
section
variable{H H1 H2:Hp}{a p c:Addr}{o:HO}
theorem HS.refl(H:Hp):HS H H:=λ_ _ _ e=>e
theorem HS.trans(x:HS H H1)(y:HS H1 H2):HS H H2:=λb o h e=>y b o h (x b o h e)
theorem Same.hs(s:Same H H1):HS H H1:=λb o _ e=>s b o e
theorem FrozenA.hs(f:FrozenA H H1 H2):HS H1 H2:=λb o h e=>f.keep e (by cases o<;>first|rfl|exact absurd h Bool.false_ne_true)
theorem lL(h:H a=none):HS H (upd H a o):=λb u _ e=>by rw[bD (dM e h)];exact e
theorem gA{u:HO}(h:H a=some u)(n:zCb u=false):HS H (upd H a o):=λb v hv e=>by
 by_cases z:b=a
 ·subst z;rw[h]at e;cases e;rw[n]at hv;exact absurd hv Bool.false_ne_true
 ·rw[bD z];exact e
end
end L2
namespace WordM
open PySem
def sigA:Str:=" !\"#$&'()*+,-./0123456789:;<=>?@ABCDEFGHIJKLMNOPQRSTUVWXYZ[\\]^_`"
def sigB:Str:="abcdefghijklmnopqrstuvwxyz{|}~"
def SIG:Str:=sigA++sigB
abbrev cs(x:Str):List Nat:=x.cps.toList
def zJK:Str:="0123456789"
def zHr:Str:="ABCDEFGHIJKLMNOPQRSTUVWXYZ"
def zHp:Str:=" !\"#$&'()*+,-./:;<=>?\x40[\\]^_`{|}~"
def zHo:Str:="abcdefghijklmnopqrstuvwxyz"
def SGN:List (Str×Str):=[("figure",zJK),("great",zHr),("other",zHp),("small",zHo)]
def MK:List Str:=["figure","great","other","small"]
def Sg(x:Str):Prop:=∀c∈cs x,c∈cs SIG
instance (x:Str):Decidable (Sg x):=by unfold Sg;infer_instance
theorem app(a b:Str):cs (a++b)=cs a++cs b:=by
 show(a.cps++b.cps).toList=_
 simp
theorem len(a:Str):a.length=(cs a).length:=by simp[Str.length]
theorem Sg.app{a b:Str}(ha:Sg a)(hb:Sg b):Sg (a++b):=λc hc=>by
 rw[WordM.app]at hc
 rcases List.mem_append.mp hc with z|z
 ·exact ha c z
 ·exact hb c z
theorem Sg.one{x:Str}(h:Sg x){c:Nat}(hc:c∈cs x):Sg ⟨#[c]⟩:=λd hd=>by
 have:d=c:=by simpa using hd
 rw[this]
 exact h c hc
theorem zBD:Sg ⟨#[]⟩:=λc hc=>by simp at hc
theorem zEk{x:Str}{l u:Option Int}{c:Nat}(h:c∈cs (Txt.slice x l u)):c∈cs x:=by
 unfold Txt.slice at h
 split at h
 ·exact h
 ·simp only[cs,List.toList_toArray,List.mem_filterMap]at h
  obtain⟨i,_,hi⟩:=h
  obtain⟨hlt,e⟩:=Array.getElem?_eq_some_iff.mp hi
  rw[<-e]
  simp
theorem Sg.slice{x:Str}(h:Sg x)(l u:Option Int):Sg (Txt.slice x l u):=λc hc=>h c (zEk hc)
theorem zEl(x:Str)(l u:Option Int):(Txt.slice x l u).length<=x.length:=Txt.slice_le x l u
theorem kZ{a b:Str}(h:cs a=cs b):a=b:=by
 obtain⟨a⟩:=a
 obtain⟨b⟩:=b
 have:a=b:=Array.toList_inj.mp h
 rw[this]
theorem zDH{c:Nat}{r:Str}:Txt.slice ((⟨#[c]⟩:Str)++r) (some 1) none=r:=by
 refine kZ ?_
 have hl:(((⟨#[c]⟩:Str)++r).length)=1+r.length:=by rw[len,app,len];simp
 rw[PyProof.Rows.slice_from_eq (b:=((((⟨#[c]⟩:Str)++r).length:Nat):Int)) (by decide) (by omega) rfl]
 show((cs ((⟨#[c]⟩:Str)++r)).drop 1).take _=_
 rw[app]
 show((c::cs r).drop 1).take _=cs r
 rw[List.drop_one,List.tail_cons,List.take_of_length_le]
 rw[hl,len]
 omega
theorem zDr{x:Str}(h:x.length=0):Txt.slice x (some 1) none=x:=by
 have h1:=zEl x (some 1) none
 refine kZ ?_
 have e1:cs (Txt.slice x (some 1) none)=[]:=List.eq_nil_of_length_eq_zero (by rw[<-len];omega)
 have e2:cs x=[]:=List.eq_nil_of_length_eq_zero (by rw[<-len];omega)
 rw[e1,e2]
theorem tZ:SIG.length=94:=by decide +kernel
theorem zEm:(cs SIG).Nodup:=by decide +kernel
theorem zDI(x:Str):(Txt.slice x (some 1) none).length+1<=(if x.length<1 then 1 else x.length):=by
 by_cases h:x.length=0
 ·rw[zDr h,if_pos (by omega)]
  omega
 ·rw[if_neg (by omega)]
  rw[PyProof.Rows.slice_from_eq (b:=(x.length:Int)) (by decide) (by omega) rfl]
  show(((cs x).drop 1).take _).toArray.size+1<=_
  rw[List.size_toArray,List.length_take,List.length_drop,<-len]
  omega
theorem nodup_len{α:Type}[DecidableEq α]:∀{l m:List α},l.Nodup->(∀x∈l,x∈m)->l.length<=m.length
 |[],m,_,_=>Nat.zero_le _
 |x::l,m,hn,hs=>by
  have hx:=hs x List.mem_cons_self
  have h2:=List.nodup_cons.mp hn
  have ih:=nodup_len (l:=l) (m:=m.erase x) h2.2 λy hy=>by
   have hne:y≠x:=λe=>h2.1 (e▸hy)
   exact(List.mem_erase_of_ne hne).mpr (hs y (List.mem_cons_of_mem _ hy))
  rw[List.length_erase_of_mem hx]at ih
  have:0<m.length:=List.length_pos_of_mem hx
  rw[List.length_cons]
  omega
def fG(a:Int):Nat:=(cs SIG).getD (a % 94).toNat 0
theorem zEn(a:Int):fG a∈cs SIG:=by
 have hl:(a % 94).toNat<(cs SIG).length:=by
  rw[<-len,tZ]
  have:=Int.emod_lt_of_pos a (show(0:Int)<94 by decide)
  have:=Int.emod_nonneg a (show(94:Int)≠0 by decide)
  omega
 unfold fG
 rw[List.getD_eq_getElem?_getD,List.getElem?_eq_getElem hl]
 exact List.getElem_mem hl
theorem zEo{a b:Int}(h:fG a=fG b):a % 94=b % 94:=by
 have b1:=Int.emod_lt_of_pos a (show(0:Int)<94 by decide)
 have b2:=Int.emod_nonneg a (show(94:Int)≠0 by decide)
 have b3:=Int.emod_lt_of_pos b (show(0:Int)<94 by decide)
 have b4:=Int.emod_nonneg b (show(94:Int)≠0 by decide)
 have hl:(cs SIG).length=94:=by rw[<-len];exact tZ
 unfold fG at h
 rw[List.getD_eq_getElem?_getD,List.getD_eq_getElem?_getD,List.getElem?_eq_getElem (by omega),List.getElem?_eq_getElem (by omega)]at h
 have h:(cs SIG)[(a % 94).toNat]=(cs SIG)[(b % 94).toNat]:=h
 have hp:=List.pairwise_iff_getElem.mp zEm
 rcases Nat.lt_trichotomy (a % 94).toNat (b % 94).toNat with z|z|z
 ·exact absurd h (hp _ _ (by omega) (by omega) z)
 ·omega
 ·exact absurd h.symm (hp _ _ (by omega) (by omega) z)
def fJ(a:Int)(r:Str)(i:Nat):Str:=(⟨#[fG (a+i)]⟩:Str)++r
theorem zE1{a:Int}{r:Str}{i j:Nat}(hi:i<90)(hj:j<90)(h:fJ a r i=fJ a r j):i=j:=by
 have h1:cs (fJ a r i)=cs (fJ a r j):=by rw[h]
 unfold fJ at h1
 rw[app,app]at h1
 have h2:fG (a+i)=fG (a+j):=by
  have:=List.cons.inj h1
  exact this.1
 have:=zEo h2
 omega
theorem zE3{a:Int}{r:Str}{ss:List Str}{j:Nat}(hj:j<80)(h:∀i,1<=i->i<=j->fJ a r i∈ss):j<=ss.length:=by
 have:=nodup_len (l:=(List.range j).map λi=>fJ a r (i+1)) (m:=ss) (by
  unfold List.Nodup
  rw[List.pairwise_map]
  refine List.Pairwise.imp_of_mem (λ{x y} hx hy hlt e=>?_) List.pairwise_lt_range
  have hx:=List.mem_range.mp hx
  have hy:=List.mem_range.mp hy
  have:=zE1 (by omega) (by omega) e
  omega) (λx hx=>by
  obtain⟨i,hi,rfl⟩:=List.mem_map.mp hx
  have:=List.mem_range.mp hi
  exact h (i+1) (by omega) (by omega))
 simpa using this
end WordM
namespace L2
open PySem PySem.Spec PyProof.Rows WordM
section
variable{α β:Type}{F G:α->β->Prop}
theorem eZ:∀{xs:List α}{ys:List β}{i:Nat}{x:α},Paired F xs ys->xs[i]?=some x->∃y,ys[i]?=some y/\F x y
 |_,_,_,_,.nil,e=>by simp at e
 |_,_,0,_,.cons r _,e=>by simp at e;subst e;exact⟨_,rfl,r⟩
 |_,_,i+1,x,.cons _ t,e=>by
  obtain⟨u,h1,h2⟩:=eZ (i:=i) (x:=x) t (by simpa using e)
  exact⟨u,by simpa using h1,h2⟩
end
inductive Tv where
 |leaf (v:V)
 |seq (t:Bool) (xs:List Tv)
 |dct (kts:List (Str×Tv))
def VT(S:Bool->Addr->List V->Prop)(D:Addr->List (Key×V)->Prop):Nat->V->Tv->Prop
 |0,_,_=>False
 |d+1,x,T=>(dB x=true/\T=.leaf x)\/(∃t a xs Ts,x=.ref a/\S t a xs/\T=.seq t Ts/\Ts.length<=100000/\Paired (VT S D d) xs Ts) \/
   ∃a kvs kts,x=.ref a/\D a kvs/\T=.dct kts/\(kts.map (·.1)).Nodup/\kts.length<64/\Paired (λ(kv:Key×V) (kt:Str×Tv)=>kv.1=.inr kt.1/\VT S D d kv.2 kt.2) kvs kts
section
variable{S S':Bool->Addr->List V->Prop}{D D':Addr->List (Key×V)->Prop}
theorem VT.mono(hs:∀t a xs,S t a xs->S' t a xs)(hd:∀a kvs,D a kvs->D' a kvs):∀{d:Nat}{x:V}{T:Tv},VT S D d x T->VT S' D' d x T
 |0,_,_,h=>False.elim h
 |d+1,x,T,h=>by
  rcases h with h|⟨t,a,xs,Ts,h1,h2,h3,hz,h4⟩|⟨a,kvs,kts,h1,h2,h3,h4,h5,h6⟩
  ·exact .inl h
  ·exact .inr (.inl ⟨t,a,xs,Ts,h1,hs _ _ _ h2,h3,hz,Paired.mapP h4 λ_ _ q=>VT.mono hs hd q⟩)
  ·exact .inr (.inr ⟨a,kvs,kts,h1,hd _ _ h2,h3,h4,h5,Paired.mapP h6 λ_ _ q=>⟨q.1,VT.mono hs hd q.2⟩⟩)
theorem VT.more:∀{d:Nat}{x:V}{T:Tv},VT S D d x T->VT S D (d+1) x T
 |0,_,_,h=>False.elim h
 |d+1,x,T,h=>by
  rcases h with h|⟨t,a,xs,Ts,h1,h2,h3,hz,h4⟩|⟨a,kvs,kts,h1,h2,h3,h4,h5,h6⟩
  ·exact .inl h
  ·exact .inr (.inl ⟨t,a,xs,Ts,h1,h2,h3,hz,Paired.mapP h4 λ_ _ q=>VT.more q⟩)
  ·exact .inr (.inr ⟨a,kvs,kts,h1,h2,h3,h4,h5,Paired.mapP h6 λ_ _ q=>⟨q.1,VT.more q.2⟩⟩)
theorem VT.le{d e:Nat}(h:d<=e){x:V}{T:Tv}(q:VT S D d x T):VT S D e x T:=by
 obtain⟨k,rfl⟩:=Nat.le.dest h
 clear h
 induction k with
 |zero=>exact q
 |succ k ih=>exact VT.more ih
end
def HDct(H:Hp)(a:Addr)(kvs:List (Key×V)):Prop:=∃ob,FzD H a ob kvs
section
variable{K:W.Frag}{H H':Hp}{d:Nat}{x:V}{T:Tv}
theorem HDct.hs(e:HS H H'){a:Addr}{kvs:List (Key×V)}(h:HDct H a kvs):HDct H' a kvs:=by
 obtain⟨ob,h⟩:=h
 exact⟨ob,e _ _ rfl h⟩
end
theorem zDK:∀(p:Str) (l:List Str),risingS p l=true->∀x∈l,(cs x<cs p)->False:=by
 intro p l
 induction l generalizing p with
 |nil=>intro _ x hx;simp at hx
 |cons y l ih=>
  intro h x hx hlt
  have h:(!PySem.Spec.ltCps y.cps.toList p.cps.toList&&risingS y l)=true:=h
  rw[Bool.and_eq_true]at h
  have hy:¬ (cs y<cs p):=by
   have:=h.1
   rw[ltCps_eq]at this
   simpa using this
  rcases List.mem_cons.mp hx with z|z
  ·subst z;exact hy hlt
  ·have hxy:¬ (cs x<cs y):=λq=>ih y h.2 x z q
   have h1:cs p<=cs y:=List.not_lt.mp hy
   have h2:cs y<=cs x:=List.not_lt.mp hxy
   exact absurd hlt (List.not_lt.mpr (List.le_trans h1 h2))
theorem oV:∀(l:List Str),sortedS l=true->l.Pairwise λa b=>cs a<=cs b
 |[],_=>.nil
 |x::l,h=>by
  have h:risingS x l=true:=h
  refine .cons (λy hy=>List.not_lt.mp λz=>zDK x l h y hy z) (oV l ?_)
  cases l with
  |nil=>rfl
  |cons y l=>
   have h:(!PySem.Spec.ltCps y.cps.toList x.cps.toList&&risingS y l)=true:=h
   rw[Bool.and_eq_true]at h
   exact h.2
open Classical in
noncomputable def eS(us:List Str):List Str:=if h:∃ss:List Str,ss.Perm us/\sortedS ss=true then h.choose else us
theorem oW(us:List Str):(eS us).Perm us:=by
 unfold eS
 split
 ·rename_i h;exact h.choose_spec.1
 ·exact .refl _
theorem tK{us ss:List Str}(h1:ss.Perm us)(h2:sortedS ss=true):ss=eS us:=by
 have ex:∃ss:List Str,ss.Perm us/\sortedS ss=true:=⟨ss,h1,h2⟩
 have e:eS us=ex.choose:=by unfold eS;rw[dif_pos ex]
 rw[e]
 exact List.Perm.eq_of_pairwise (λa b _ _ h1 h2=>kZ (List.le_antisymm h1 h2)) (oV _ h2) (oV _ ex.choose_spec.2) (h1.trans ex.choose_spec.1.symm)
def jH(kts:List (Str×Tv))(k:Str):Option Tv:=(kts.find? λkt=>decide (kt.1=k)).map (·.2)
section
variable{S:Bool->Addr->List V->Prop}{D:Addr->List (Key×V)->Prop}{d:Nat}
theorem zBa{kvs:List (Key×V)}{kts:List (Str×Tv)}{R:V->Tv->Prop}(h:Paired (λ(kv:Key×V) (kt:Str×Tv)=>kv.1=.inr kt.1/\R kv.2 kt.2) kvs kts)(k:Str):
  (jH kts k=none/\fH kvs (.inr k)=none)\/∃U v,jH kts k=some U/\fH kvs (.inr k)=some v/\R v U:=by
 induction h with
 |nil=>exact .inl ⟨rfl,rfl⟩
 |@cons kv kt l1 l2 h _ ih=>
  obtain⟨e,r⟩:=h
  by_cases z:kt.1=k
  ·refine .inr ⟨kt.2,kv.2,?_,tF (by rw[e,z]),r⟩
   unfold jH
   rw[List.find?_cons,decide_eq_true z]
   rfl
  ·have e2:jH (kt::l2) k=jH l2 k:=by
    unfold jH
    rw[List.find?_cons,decide_eq_false z]
   have e3:fH (kv::l1) (.inr k)=fH l1 (.inr k):=tG (by rw[e];exact λq=>z (Sum.inr.inj q))
   rw[e2,e3]
   exact ih
end
theorem SqT.hs{K:W.Frag}{H H':Hp}{a:Addr}{xs:List V}(e:HS H H')(h:SqT K H a xs):SqT K H' a xs:=by
 rcases h with (h|⟨o,h⟩)|h
 ·exact .inl (.inl (e _ _ rfl h))
 ·exact .inl (.inr ⟨o,e _ _ rfl h⟩)
 ·exact .inr h
theorem sR{α β:Type}{F:α->β->Prop}{a c:List α}{b d:List β}(h1:Paired F a b)(h2:Paired F c d):Paired F (a++c) (b++d):=by
 induction h1 with
 |nil=>exact h2
 |cons r _ ih=>exact .cons r ih
end L2
namespace L2
open PySem PySem.Spec PyProof.Rows
abbrev oJ:Hp:=λ_=>none
def Thaw(H H3 H4:Hp):Prop:=∀b,(∃o ob,fzb o=true/\H b=some o/\H3 b=some (.frz ob o)/\H4 b=some o)\/((¬ ∃o ob,fzb o=true/\H b=some o/\H3 b=some (.frz ob o))/\H4 b=H3 b)
theorem zAJ(H H3:Hp):∃H4,Thaw H H3 H4:=by
 classical
 refine⟨λb=>if h:∃o ob,fzb o=true/\H b=some o/\H3 b=some (.frz ob o) then some h.choose else H3 b,λb=>?_⟩
 by_cases h:∃o ob,fzb o=true/\H b=some o/\H3 b=some (.frz ob o)
 ·obtain⟨ob,h1,h2,h3⟩:=h.choose_spec
  exact .inl ⟨h.choose,ob,h1,h2,h3,by dsimp only;rw[dif_pos h]⟩
 ·exact .inr ⟨h,by dsimp only;rw[dif_neg h]⟩
theorem zO{P:Program}{w:World}{H:Hp}{h:Heap}(hok:HOk P w H h):∃H2,FrozenA oJ H H2/\HOk P w H2 h:=by
 let H2:Hp:=λb=>match H b with
  |none=>none
  |some o=>match fzb o with
   |false=>some o
   |true=>match h.get? b with
    |some ob=>some (.frz ob o)
    |none=>some o
 have new:∀b o ob,H b=some o->fzb o=true->h.get? b=some ob->H2 b=some (.frz ob o):=λb o ob h1 n e=>by
  show(match H b with|none=>none|some o=>_)=_
  rw[h1]
  dsimp only
  rw[n,e]
 have rest:∀b,(∀o,H b=some o->fzb o=false)->H2 b=H b:=λb hn=>by
  show(match H b with|none=>none|some o=>_)=_
  cases e:H b with
  |none=>rfl
  |some o=>
   dsimp only
   rw[hn o e]
 have fro:FrozenA oJ H H2:=λb=>by
  cases h1:H b with
  |none=>exact .inr ⟨(λ⟨_,_,_,z⟩=>by cases z),by rw[rest b (λo z=>by rw[h1]at z;cases z),h1]⟩
  |some o=>
   cases n:fzb o with
   |true=>
    obtain⟨ob,e⟩:=(hok b o h1).there
    exact .inl ⟨rfl,o,ob,n,rfl,new b o ob h1 n e⟩
   |false=>exact .inr ⟨(λ⟨_,o',n',z⟩=>by cases z;rw[n]at n';exact absurd n' Bool.false_ne_true),by rw[rest b (λo' z=>by rw[h1]at z;cases z;exact n),h1]⟩
 refine⟨H2,fro,λb o e=>?_⟩
 have st:∀o,ObjOk P w H h b o->ObjOk P w H2 h b o:=λo x=>x.stay (λ_ _ _ r=>r) (λd r=>fro.keep r rfl) λd xs r=>fro.keep r rfl
 rcases fro b with⟨hn,o',ob,n,z,z'⟩|⟨_,z'⟩
 ·obtain⟨ob2,e2⟩:=(hok b o' z).there
  have q2:=new b o' ob2 z n e2
  rw[e]at q2
  cases q2
  exact⟨e2,st _ (hok b _ z)⟩
 ·rw[z']at e
  exact st o (hok b o e)
section
variable{H H2 H3 H4:Hp}{b:Addr}{o:HO}
theorem Thaw.same(f:FrozenA oJ H H2)(s:Same H2 H3)(t:Thaw H H3 H4):Same H H4:=λb o e=>by
 cases n:fzb o with
 |true=>
  obtain⟨ob,e2⟩:=f.fz (b:=b) rfl e n
  have e3:=s b _ e2
  rcases t b with⟨u,ob',_,z,_,z'⟩|⟨z,_⟩
  ·rw[e]at z;cases z;exact z'
  ·exact absurd ⟨o,ob,n,e,e3⟩ z
 |false=>
  have e3:=s b _ (f.keep e n)
  rcases t b with⟨u,ob',n',z,_⟩|⟨_,z⟩
  ·rw[e]at z;cases z;rw[n]at n';exact absurd n' Bool.false_ne_true
  ·rw[z];exact e3
end
end L2
namespace L2
open PySem PySem.Spec PyProof.Rows
def ItE(K:W.Frag)(a:Addr):It:=
  ⟨λi H=>∃xs x,SqL K H a xs/\xs[i]?=some x,
   λi H v H'=>∃p x,v=.ref p/\H p=none/\H'=upd H p (.tup [.int (i:Int),x])/\∀xs,SqL K H a xs->xs[i]?=some x,
   λi H=>∃xs,SqL K H a xs/\xs.length<=i⟩
theorem zEf{P:Program}{w:World}{K:W.Frag}{es:List Expr}{ek:Nat}{pos:Pos}(a e it:Addr)(hei:e≠it)(hae:a≠e)(hai:a≠it):
  iV P w K (.Tuple es ek pos) (ItE K a) [e,it] e (λi h=>(∃old,IsEnum h e it (i:Int) old)/\h.IsListIter it a i) where
 mem:=by simp
 obj:=λi h st b hb=>by
  obtain⟨⟨old,st⟩,j⟩:=st
  rcases List.mem_cons.mp hb with rfl|hb
  ·exact⟨_,st,λv z=>by
    have z':Data.fields _=Data.cell v:=z
    cases z'⟩
  ·have q:b=it:=by simpa using hb
   subst q
   obtain⟨o,e',c,d⟩:=j
   exact⟨o,e',λv z=>by rw[d]at z;cases z⟩
 keep:=λi h h' ⟨⟨old,st⟩,j⟩ k=>⟨⟨old,k e (by simp) _ st⟩,j.at λo e'=>k it (by simp) o e'⟩
 item:=by
  intro X hP hw hK hc i pins s σ H E I hf st hg
  subst hP hw hK
  obtain⟨xs,x,hx,hi⟩:=hg
  obtain⟨⟨old,st⟩,j⟩:=st
  obtain⟨its,r,pl,hz⟩:=I.list hx
  obtain⟨u,hu,ru⟩:=r.get hi
  refine wpAny_pyNext_enum_item st j pl.isList (x:=u) (by simpa using hu) hei λh' a1 a2 a3 a4 a5=>⟨_,rfl,?_⟩
  refine wpAny_letOwnedTupleGo_enum (s:={s with heap:=h',toks:=s.toks+1}) a1 λh2 b1 b2=>?_
  have hne:e≠s.heap.objs.size:=Nat.ne_of_lt (Heap.lt_size st)
  have hni:it≠s.heap.objs.size:=by obtain⟨o,e',_⟩:=id j;exact Nat.ne_of_lt (Heap.lt_size e')
  have hn:∀c∈[e,it],c≠s.heap.objs.size:=λc hc'=>by
   simp only[List.mem_cons,List.not_mem_nil,or_false]at hc'
   rcases hc' with q|q
   ·rw[q];exact hne
   ·rw[q];exact hni
  have I0:Inv X pins σ (upd H s.heap.objs.size (.tup [.int (i:Int),x])) {s with heap:=s.heap.push {cls:=.type "tuple",data:=.seq #[.int (i:Int) s.toks,u]}}:=
   I.laid (t':=s.toks) (λc o e=>Heap.get?_push_of_some _ e) (Nat.le_refl _) ⟨by show 2<=sizeLine;decide,[.int (i:Int) s.toks,u],.cons ⟨_,rfl⟩ (.cons ru .nil),IsTup.new _ _⟩
  have hf0:∀c∈[e,it],eY X pins (upd H s.heap.objs.size (.tup [.int (i:Int),x])) c:=λc hc'=>⟨by rw[bD (hn c hc')];exact(hf c hc').1,(hf c hc').2⟩
  have I1:Inv X pins σ (upd H s.heap.objs.size (.tup [.int (i:Int),x])) {s with heap:=h2,toks:=s.toks+1}:=Inv.turnedL (s:={s with heap:=s.heap.push {cls:=.type "tuple",data:=.seq #[.int (i:Int) s.toks,u]}}) (t':=s.toks+1) (ch:=[e,it]) I0 hf0 λc o hc' e'=>by
   simp only[List.mem_cons,List.not_mem_nil,or_false,not_or]at hc'
   obtain⟨c1,c2⟩:=hc'
   by_cases hcn:c=s.heap.objs.size
   ·subst hcn
    have e'':(s.heap.push {cls:=.type "tuple",data:=.seq #[.int (i:Int) s.toks,u]}).get? s.heap.objs.size=some o:=e'
    rw[Heap.get?_push_size _ rfl]at e''
    cases e''
    exact b2.extBut _ _ c1 a3
   ·refine b2.extBut _ _ c1 (a5 c o c1 c2 ?_)
    have e'':(s.heap.push {cls:=.type "tuple",data:=.seq #[.int (i:Int) s.toks,u]}).get? c=some o:=e'
    rw[Heap.get?_push_ne _ _ _ hcn]at e''
    exact e''
  refine⟨.ref s.heap.objs.size,_,I1,rfl,⟨_,x,rfl,I.hok.fresh (Nat.le_refl _),rfl,λxs' h=>by rw[I.list_inj h hx];exact hi⟩,⟨⟨u,by have:=b1;push_cast;exact this⟩,a2.at λo e'=>b2.extBut _ _ (Ne.symm hei) e'⟩,λc hc'=>(hf0 c hc').1⟩
 done:=by
  intro X hP hw hK hc i pins s σ H E I hf st hg
  subst hP hw hK
  obtain⟨xs,hx,hi⟩:=hg
  obtain⟨⟨old,st⟩,j⟩:=st
  obtain⟨its,r,pl,hz⟩:=I.list hx
  have la:=r.length
  refine wpAny_pyNext_enum_end (I.ok.hd hc) st j pl.isList (by simp;omega) λh' eb=>⟨rfl,I.turnedL (t':=s.toks) hf λc o hc' e'=>?_⟩
  simp only[List.mem_cons,List.not_mem_nil,or_false,not_or]at hc'
  exact eb c o hc'.2 e'
 self:=λ_ _ _ _ _ ⟨⟨_,st⟩,_⟩ h=>wpAny_pyIter_enum st h
theorem zC8:bootBuiltins "enumerate"=some (.type "enumerate"):=by decide +kernel
section
variable{X:Cx}
def zJl(K:W.Frag)(ta:TA):TI:=λσ H R=>ta σ H λvs H1=>∃a:Addr,vs=[.ref a]/\(∃xs,SqL K H1 a xs)/\R (ItE K a) H1
theorem zGu{a:Expr}{ta:TA}{es:List Expr}{ek:Nat}{p pos pos':Pos}(hg:Gl X "enumerate")(hm:X.mg "enumerate"=none)(ha:PA X [a] ta)(hs:starEach [a] X.env=[(false,eval a X.env)]:=by rfl):
  PI X (.Tuple es ek pos') (.Call (.Name "enumerate" p) [a] [] pos) (zJl X.K ta):=by
 intro pins s σ H R I h
 refine Call_ (nJ I hg hm zC8 (PyProof.Rows.callWith_type1 (thn (ha pos pins s σ H _ I h) λus s1 ⟨vs,H1,I1,r1,q1⟩=>?_) (by rw[hs];rfl) (by rfl)))
 obtain⟨a,e,⟨xs,hx⟩,q⟩:=q1
 subst e
 obtain⟨u,rfl,rx⟩:=cV r1
 cases rx
 obtain⟨its,r,pl,hz⟩:=I1.list hx
 have la:a<s1.heap.objs.size:=by obtain⟨o,e,_⟩:=pl.isList;exact Heap.lt_size e
 refine call_enumerate_list pl.isList λh' e1 e2 _ k=>?_
 refine wpAny_pyIter_enum e1 ?_
 refine⟨_,[s1.heap.objs.size+1,s1.heap.objs.size],_,_,H1,rfl,I1.kept (t':=s1.toks) k,zEf a _ _ (by intro (e:(_:Nat)=_);omega) (Nat.ne_of_lt (Nat.lt_succ_of_lt la)) (Nat.ne_of_lt la),⟨⟨_,e1⟩,e2⟩,λc hc=>?_,q⟩
 have:s1.heap.objs.size<=c:=by
  simp only[List.mem_cons,List.not_mem_nil,or_false]at hc
  rcases hc with e|e<;>(rw[e];first|exact Nat.le_refl _|exact Nat.le_add_right _ _)
 exact I1.fpOk this (I1.hok.fresh this)
end
end L2
namespace L2
open PySem PySem.Spec PyProof.Rows WordM
def PSeq(K:W.Frag)(H:Hp)(t:Bool)(a:Addr)(xs:List V):Prop:=match t with
 |false=>∃ob,H a=some (.frz ob (.lst xs))
 |true=>SqT K H a xs
abbrev VP(K:W.Frag)(H:Hp):Nat->V->Tv->Prop:=VT (PSeq K H) (HDct H)
def VA(K:W.Frag)(H:Hp)(x:V)(T:Tv):Prop:=∃d,VP K H d x T
abbrev VAs(K:W.Frag)(H:Hp):List V->List Tv->Prop:=Paired (VA K H)
def VAk(K:W.Frag)(H:Hp):List (Key×V)->List (Str×Tv)->Prop:=Paired λ(kv:Key×V) (kt:Str×Tv)=>kv.1=.inr kt.1/\VA K H kv.2 kt.2
section
variable{K:W.Frag}{H H' H1 H2:Hp}{x y v:V}{T U:Tv}{a:Addr}{xs:List V}{Ts:List Tv}{t:Bool}{kvs:List (Key×V)}{kts:List (Str×Tv)}
theorem PSeq.hs(e:HS H H')(h:PSeq K H t a xs):PSeq K H' t a xs:=by
 cases t with
 |false=>obtain⟨ob,h⟩:=h;exact⟨ob,e _ _ rfl h⟩
 |true=>exact SqT.hs e h
theorem VA.hs(e:HS H H')(h:VA K H x T):VA K H' x T:=by
 obtain⟨d,h⟩:=h
 exact⟨d,h.mono (λ_ _ _ q=>q.hs e) λ_ _ q=>q.hs e⟩
theorem VAs.hs(e:HS H H')(h:VAs K H xs Ts):VAs K H' xs Ts:=Paired.mapP h λ_ _ q=>q.hs e
theorem VAk.hs(e:HS H H')(h:VAk K H kvs kts):VAk K H' kvs kts:=Paired.mapP h λ_ _ q=>⟨q.1,q.2.hs e⟩
theorem VAs.deep(h:VAs K H xs Ts):∃d,Paired (VP K H d) xs Ts:=by
 induction h with
 |nil=>exact⟨0,.nil⟩
 |cons r _ ih=>
  obtain⟨d,r⟩:=r
  obtain⟨e,ih⟩:=ih
  exact⟨max d e,.cons (r.le (Nat.le_max_left _ _)) (Paired.mapP ih λ_ _ q=>VT.le (Nat.le_max_right _ _) q)⟩
theorem VAk.deep(h:VAk K H kvs kts):∃d,Paired (λ(kv:Key×V) (kt:Str×Tv)=>kv.1=.inr kt.1/\VP K H d kv.2 kt.2) kvs kts:=by
 unfold VAk at h
 induction h with
 |nil=>exact⟨0,.nil⟩
 |cons r _ ih=>
  obtain⟨k,d,r⟩:=r
  obtain⟨e,ih⟩:=ih
  exact⟨max d e,.cons ⟨k,r.le (Nat.le_max_left _ _)⟩ (Paired.mapP ih λ_ _ q=>⟨q.1,VT.le (Nat.le_max_right _ _) q.2⟩)⟩
theorem VA.flat(h:dB x=true):VA K H x (.leaf x):=⟨1,.inl ⟨h,rfl⟩⟩
theorem VA.seq(h:PSeq K H t a xs)(z:Ts.length<=100000)(p:VAs K H xs Ts):VA K H (.ref a) (.seq t Ts):=by
 obtain⟨d,p⟩:=p.deep
 exact⟨d+1,.inr (.inl ⟨t,a,xs,Ts,rfl,h,rfl,z,p⟩)⟩
theorem VA.dct(h:HDct H a kvs)(n:(kts.map (·.1)).Nodup)(z:kts.length<64)(p:VAk K H kvs kts):VA K H (.ref a) (.dct kts):=by
 obtain⟨d,p⟩:=p.deep
 exact⟨d+1,.inr (.inr ⟨a,kvs,kts,rfl,h,rfl,n,z,p⟩)⟩
theorem VA.leafI(h:VA K H x (.leaf v)):x=v/\dB v=true:=by
 obtain⟨d,h⟩:=h
 cases d with
 |zero=>exact False.elim h
 |succ d=>
  rcases h with⟨f,e⟩|⟨_,_,_,_,_,_,e,_⟩|⟨_,_,_,_,_,e,_⟩
  ·cases e;exact⟨rfl,f⟩
  ·cases e
  ·cases e
theorem VA.seqI(h:VA K H x (.seq t Ts)):∃a xs,x=.ref a/\PSeq K H t a xs/\Ts.length<=100000/\VAs K H xs Ts:=by
 obtain⟨d,h⟩:=h
 cases d with
 |zero=>exact False.elim h
 |succ d=>
  rcases h with⟨_,e⟩|⟨t',a,xs,Ts',e1,hs,e,z,p⟩|⟨_,_,_,_,_,e,_⟩
  ·cases e
  ·cases e;exact⟨a,xs,e1,hs,z,Paired.mapP p λ_ _ q=>⟨d,q⟩⟩
  ·cases e
theorem VA.dctI(h:VA K H x (.dct kts)):∃a kvs,x=.ref a/\HDct H a kvs/\(kts.map (·.1)).Nodup/\kts.length<64/\VAk K H kvs kts:=by
 obtain⟨d,h⟩:=h
 cases d with
 |zero=>exact False.elim h
 |succ d=>
  rcases h with⟨_,e⟩|⟨_,_,_,_,_,_,e,_⟩|⟨a,kvs,kts',e1,hd,e,n,z,p⟩
  ·cases e
  ·cases e
  ·cases e;exact⟨a,kvs,e1,hd,n,z,Paired.mapP p λ_ _ q=>⟨q.1,d,q.2⟩⟩
end
inductive Sl where
 |no
 |va (T:Tv)
 |own (xs:List Tv)
 |dct (kts:List (Str×Tv))
 |dk
 |rd (t:Str) (p:Int)
 |fn (a:Addr)
abbrev aQ:=List Sl
def cW:Sl->Bool
 |.own _=>true
 |.dct _=>true
 |.rd _ _=>true
 |_=>false
def sF:Sl->Bool
 |.rd _ _=>true
 |_=>false
structure Fm where
 H0:Hp
 dk:Option (Addr×Addr)
 rd:Option (Addr×Addr):=none
def hG(H:Hp)(a C:Addr)(t:Str)(p:Int):Prop:=∃dx,H a=some (.ins C dx [("text",.str t),("place",.int p)])
structure Kp (dk rd:Option (Addr×Addr)) (H H':Hp):Prop where
 st:∀b o,H b=some o->(∀p c,dk=some (p,c)->b≠p/\b≠c)->(∀a C,rd=some (a,C)->b≠a)->H' b=some o
 dkk:∀p c,dk=some (p,c)->DeckAt H' p c
 rdk:∀a C,rd=some (a,C)->∃t p,hG H' a C t p
theorem Kp.tr{dk rd:Option (Addr×Addr)}{H H':Hp}(k:Kp dk rd H H')(b:Addr)(o:HO)(e:H b=some o):∃o',H' b=some o':=by
 by_cases z1:∃a C,rd=some (a,C)/\b=a
 ·obtain⟨a,C,d,rfl⟩:=z1
  obtain⟨t,p,dx,e1⟩:=k.rdk b C d
  exact⟨_,e1⟩
 have n1:∀a C,rd=some (a,C)->b≠a:=λa C d z=>z1 ⟨a,C,d,z⟩
 cases d:dk with
 |none=>exact⟨o,k.st b o e (λp c z=>by rw[d]at z;cases z) n1⟩
 |some pc=>
  obtain⟨p,c⟩:=pc
  obtain⟨_,⟨S,i,e1⟩,ns,e2,_⟩:=k.dkk p c d
  by_cases h1:b=p
  ·subst h1;exact⟨_,e1⟩
  ·by_cases h2:b=c
   ·subst h2;exact⟨_,e2⟩
   ·exact⟨o,k.st b o e (λp' c' z=>by rw[d]at z;cases z;exact⟨h1,h2⟩) n1⟩
def xT(K:W.Frag)(F:Fm)(H:Hp)(ox:Option V):Sl->Prop
 |.no=>True
 |.va T=>∃x,ox=some x/\VA K H x T
 |.own Ts=>∃a xs,ox=some (.ref a)/\H a=some (.lst xs)/\F.H0 a=none/\Ts.length<=100000/\VAs K H xs Ts
 |.dct kts=>∃a kvs,ox=some (.ref a)/\H a=some (.dK kvs)/\F.H0 a=none/\(kts.map (·.1)).Nodup/\kts.length<64/\VAk K H kvs kts
 |.dk=>∃p c,F.dk=some (p,c)/\ox=some (.ref p)
 |.rd t p=>∃a C,F.rd=some (a,C)/\ox=some (.ref a)/\hG H a C t p
 |.fn a=>ox=some (.ref a)
def ixv(σ:St)(i:Nat):Option V:=(σ[i]?).join
structure FrOk (K:W.Frag) (F:Fm) (ρ:aQ) (σ:St) (H:Hp):Prop where
 d0:∀p c,F.dk=some (p,c)->DeckAt F.H0 p c
 r0:∀a C,F.rd=some (a,C)->∃t p,hG F.H0 a C t p
 kp:Kp F.dk F.rd F.H0 H
 len:ρ.length=σ.length
 at_:∀(i:Nat) (s:Sl),ρ[i]?=some s->xT K F H (ixv σ i) s
 ap:∀(i j:Nat) (a:Addr) (s t:Sl),ρ[i]?=some s->ρ[j]?=some t->cW s=true->cW t=true->ixv σ i=some (.ref a)->ixv σ j=some (.ref a)->i=j
def Stay(F:Fm)(ρ:aQ)(σ:St)(H H':Hp):Prop:=∀b o,H b=some o->(∀p c,F.dk=some (p,c)->b≠p/\b≠c)->(∀(i:Nat) (s:Sl),ρ[i]?=some s->cW s=true->ixv σ i≠some (.ref b))->H' b=some o
def Sbv(ρ' ρ:aQ):Prop:=∀(i:Nat) (s':Sl),ρ'[i]?=some s'->cW s'=true->∃s,ρ[i]?=some s/\cW s=true
structure Stp (K:W.Frag) (F:Fm) (σ:St) (ρ:aQ) (H:Hp) (ρ':aQ) (H':Hp):Prop where
 fr:FrOk K F ρ' σ H'
 st:Stay F ρ σ H H'
 sub:Sbv ρ' ρ
 tr:∀b o,H b=some o->∃o',H' b=some o'
section
variable{K:W.Frag}{F:Fm}{ρ ρ1 ρ2:aQ}{σ:St}{H H' H1 H2:Hp}{x y v:V}{T U:Tv}{a b:Addr}{o:HO}
theorem Sbv.refl(ρ:aQ):Sbv ρ ρ:=λi s e m=>⟨s,e,m⟩
theorem Sbv.trans(h1:Sbv ρ1 ρ)(h2:Sbv ρ2 ρ1):Sbv ρ2 ρ:=λi s e m=>by
 obtain⟨s1,e1,m1⟩:=h2 i s e m
 exact h1 i s1 e1 m1
theorem FrOk.own_at(fr:FrOk K F ρ σ H){i:Nat}{s:Sl}(e:ρ[i]?=some s)(m:cW s=true)(q:ixv σ i=some (.ref a))(nr:sF s=false):(∃o,H a=some o/\fzb o=true)/\F.H0 a=none:=by
 have h:=fr.at_ i s e
 cases s with
 |own Ts=>obtain⟨a',xs,e1,e2,e3,_⟩:=h;rw[q]at e1;cases e1;exact⟨⟨_,e2,rfl⟩,e3⟩
 |dct kts=>obtain⟨a',xs,e1,e2,e3,_⟩:=h;rw[q]at e1;cases e1;exact⟨⟨_,e2,rfl⟩,e3⟩
 |no=>cases m
 |va _=>cases m
 |dk=>cases m
 |rd _ _=>cases nr
 |fn _=>cases m
theorem FrOk.mut_at(fr:FrOk K F ρ σ H){i:Nat}{s:Sl}(e:ρ[i]?=some s)(m:cW s=true)(q:ixv σ i=some (.ref a)):∃o,H a=some o/\(fzb o=true\/∃C dx fs,o=.ins C dx fs):=by
 cases r:sF s with
 |false=>obtain⟨⟨o,e1,n⟩,_⟩:=fr.own_at e m q r;exact⟨o,e1,.inl n⟩
 |true=>
  have h:=fr.at_ i s e
  cases s with
  |rd t p=>obtain⟨b,C,e1,e2,dx,e3⟩:=h;rw[q]at e2;cases e2;exact⟨_,e3,.inr ⟨_,_,_,rfl⟩⟩
  |_=>cases r
theorem FrOk.nr_of(fr:FrOk K F ρ σ H){i:Nat}{s:Sl}(e:ρ[i]?=some s)(q:ixv σ i=some (.ref a))(h:H a=some o)(n:fzb o=true):sF s=false:=by
 have x:=fr.at_ i s e
 cases s with
 |rd t p=>
  obtain⟨b,C,e1,e2,dx,e3⟩:=x
  rw[q]at e2
  cases e2
  rw[e3]at h
  cases h
  cases n
 |_=>rfl
theorem FrOk.fresh_nord(fr:FrOk K F ρ σ H)(h:F.H0 a=none):∀b C,F.rd=some (b,C)->a≠b:=λb C e z=>by
 obtain⟨t,p,dx,e1⟩:=fr.r0 b C e
 rw[z,e1]at h;cases h
theorem FrOk.none_nord(fr:FrOk K F ρ σ H)(h:H a=none):∀b C,F.rd=some (b,C)->a≠b:=λb C e z=>by
 obtain⟨t,p,dx,e1⟩:=fr.kp.rdk b C e
 rw[z,e1]at h;cases h
theorem FrOk.fresh_nodk(fr:FrOk K F ρ σ H)(h:F.H0 a=none):∀p c,F.dk=some (p,c)->a≠p/\a≠c:=λp c e=>by
 obtain⟨_,⟨S,k,e1⟩,ns,e2,_⟩:=fr.d0 p c e
 exact⟨λz=>(by rw[z,e1]at h;cases h),λz=>(by rw[z,e2]at h;cases h)⟩
theorem FrOk.none_nodk(fr:FrOk K F ρ σ H)(h:H a=none):∀p c,F.dk=some (p,c)->a≠p/\a≠c:=λp c e=>by
 obtain⟨_,⟨S,k,e1⟩,ns,e2,_⟩:=fr.kp.dkk p c e
 exact⟨λz=>(by rw[z,e1]at h;cases h),λz=>(by rw[z,e2]at h;cases h)⟩
theorem FrOk.ins_nodk(fr:FrOk K F ρ σ H){C dx:Addr}{fs:List (Str×V)}(h:H a=some (.ins C dx fs)):∀p c,F.dk=some (p,c)->a≠p/\a≠c:=λp c e=>by
 obtain⟨_,⟨S,k,e1⟩,ns,e2,_⟩:=fr.kp.dkk p c e
 exact⟨λz=>(by rw[z,e1]at h;cases h),λz=>(by rw[z,e2]at h;cases h)⟩
theorem FrOk.mut_nodk(fr:FrOk K F ρ σ H){i:Nat}{s:Sl}(e:ρ[i]?=some s)(m:cW s=true)(q:ixv σ i=some (.ref a)):∀p c,F.dk=some (p,c)->a≠p/\a≠c:=by
 cases r:sF s with
 |false=>exact fr.fresh_nodk (fr.own_at e m q r).2
 |true=>
  have h:=fr.at_ i s e
  cases s with
  |rd t p=>obtain⟨b,C,e1,e2,dx,e3⟩:=h;rw[q]at e2;cases e2;exact fr.ins_nodk e3
  |_=>cases r
theorem FrOk.none0(fr:FrOk K F ρ σ H)(h:H a=none):F.H0 a=none:=by
 cases q:F.H0 a with
 |none=>rfl
 |some o=>rw[fr.kp.st a o q (fr.none_nodk h) (fr.none_nord h)]at h;cases h
theorem Stay.hs(fr:FrOk K F ρ σ H)(s:Stay F ρ σ H H'):HS H H':=λb o h e=>s b o e
 (λp c d=>by
  obtain⟨_,⟨S,k,e1⟩,ns,e2,_⟩:=fr.kp.dkk p c d
  exact⟨λz=>(by subst z;rw[e1]at e;cases e;cases h),λz=>(by subst z;rw[e2]at e;cases e;cases h)⟩)
 λi s e1 m q=>by
  obtain⟨o',e2,n⟩:=fr.mut_at e1 m q
  rw[e]at e2;cases e2
  rcases n with n|⟨C,dx,fs,rfl⟩
  ·cases o<;>first|exact absurd h Bool.false_ne_true|exact absurd n Bool.false_ne_true
  ·exact absurd h Bool.false_ne_true
theorem Stay.trans(s1:Stay F ρ σ H H1)(sb:Sbv ρ1 ρ)(s2:Stay F ρ1 σ H1 H2):Stay F ρ σ H H2:=λb o e d n=>
 s2 b o (s1 b o e d n) d λi s e1 m=>by
  obtain⟨s',e2,m'⟩:=sb i s e1 m
  exact n i s' e2 m'
theorem Stp.trans(a:Stp K F σ ρ H ρ1 H1)(b:Stp K F σ ρ1 H1 ρ2 H2):Stp K F σ ρ H ρ2 H2:=⟨b.fr,a.st.trans a.sub b.st,a.sub.trans b.sub,λc o e=>let ⟨o1,e1⟩:=a.tr c o e;b.tr c o1 e1⟩
theorem Stp.refl(fr:FrOk K F ρ σ H):Stp K F σ ρ H ρ H:=⟨fr,λ_ _ e _ _=>e,Sbv.refl _,λ_ o e=>⟨o,e⟩⟩
theorem Stp.hs(a:Stp K F σ ρ H ρ1 H1)(fr:FrOk K F ρ σ H):HS H H1:=a.st.hs fr
theorem FrOk.call(fr:FrOk K F ρ σ H)(k:Kp F.dk none H H'):FrOk K F ρ σ H':=by
 have nn:∀{b:Addr} (a C:Addr),(none:Option (Addr×Addr))=some (a,C)->b≠a:=λa C z=>nomatch z
 have own:∀i s a o,ρ[i]?=some s->cW s=true->ixv σ i=some (.ref a)->H a=some o->H' a=some o:=λi s a o e m q h=>
  k.st a o h (fr.mut_nodk e m q) nn
 have hs:HS H H':=λb o h e=>k.st b o e (λp c d=>by
  obtain⟨_,⟨S,k,e1⟩,ns,e2,_⟩:=fr.kp.dkk p c d
  exact⟨λz=>(by subst z;rw[e1]at e;cases e;cases h),λz=>(by subst z;rw[e2]at e;cases e;cases h)⟩) nn
 refine⟨fr.d0,fr.r0,⟨λb o e n m=>k.st b o (fr.kp.st b o e n m) n nn,k.dkk,λa C d=>?_⟩,fr.len,λi s e=>?_,fr.ap⟩
 ·obtain⟨t,p,dx,q⟩:=fr.kp.rdk a C d
  exact⟨t,p,dx,k.st a _ q (fr.ins_nodk q) nn⟩
 have h:=fr.at_ i s e
 cases s with
 |no=>trivial
 |va T=>obtain⟨x,e1,v⟩:=h;exact⟨x,e1,v.hs hs⟩
 |own Ts=>obtain⟨a,xs,e1,e2,e3,z,p⟩:=h;exact⟨a,xs,e1,own i _ a _ e rfl e1 e2,e3,z,p.hs hs⟩
 |dct kts=>obtain⟨a,kvs,e1,e2,e3,n,z,p⟩:=h;exact⟨a,kvs,e1,own i _ a _ e rfl e1 e2,e3,n,z,p.hs hs⟩
 |dk=>exact h
 |fn _=>exact h
 |rd t p=>obtain⟨a,C,e1,e2,dx,e3⟩:=h;exact⟨a,C,e1,e2,dx,own i _ a _ e rfl e2 e3⟩
theorem Kp.of_same(fr:FrOk K F ρ σ H)(s:Same H H'):Kp F.dk none H H':=⟨λb o e _ _=>s b o e,λp c d=>by
 obtain⟨ne,⟨S,k,e1⟩,ns,e2,l⟩:=fr.kp.dkk p c d
 exact⟨ne,⟨S,k,s _ _ e1⟩,ns,s _ _ e2,l⟩,λ_ _ z=>nomatch z⟩
theorem Stp.call(fr:FrOk K F ρ σ H)(k:Kp F.dk none H H'):Stp K F σ ρ H ρ H':=⟨fr.call k,λb o e d _=>k.st b o e d (λ_ _ z=>nomatch z),Sbv.refl _,λb o e=>k.tr b o e⟩
theorem Stp.same(fr:FrOk K F ρ σ H)(s:Same H H'):Stp K F σ ρ H ρ H':=Stp.call fr (Kp.of_same fr s)
end
theorem Stp.non{K:W.Frag}{F:Fm}{ρ ρ1:aQ}{σ:St}{H H1:Hp}{a:Addr}(s:Stp K F σ ρ H ρ1 H1)(n:H1 a=none):H a=none:=by
 cases e:H a with
 |none=>rfl
 |some o=>
  obtain⟨o',e'⟩:=s.tr a o e
  rw[n]at e';cases e'
abbrev UT:=aQ->(Tv->aQ->Prop)->Prop
abbrev UTt:=aQ->(Bool->aQ->Prop)->Prop
abbrev UTl:=aQ->(List Tv->aQ->Prop)->Prop
inductive Ar where
 |va (T:Tv)
 |dk
 |fn (a:Addr)
abbrev UTa:=aQ->(List Ar->aQ->Prop)->Prop
def oQ(K:W.Frag)(dk:Option (Addr×Addr))(H:Hp)(x:V):Ar->Prop
 |.va T=>VA K H x T
 |.dk=>∃p c,dk=some (p,c)/\x=.ref p
 |.fn a=>x=.ref a
def eE(K:W.Frag)(F:Fm)(u:UT):TE:=λσ H QQ=>∃ρ Q,FrOk K F ρ σ H/\u ρ Q/\∀x T H' ρ',Stp K F σ ρ H ρ' H'->VA K H' x T->Q T ρ'->QQ x H'
def rB(K:W.Frag)(F:Fm)(u:UTt):TT:=λσ H QQ=>∃ρ Q,FrOk K F ρ σ H/\u ρ Q/\∀b H' ρ',Stp K F σ ρ H ρ' H'->Q b ρ'->QQ b H'
def rC(K:W.Frag)(F:Fm)(u:UTl):TE:=λσ H QQ=>∃ρ Q,FrOk K F ρ σ H/\u ρ Q/\∀a xs Ts H' ρ',Stp K F σ ρ H ρ' H'->H a=none->H' a=some (.lst xs)->Ts.length<=100000->VAs K H' xs Ts->Q Ts ρ'->QQ (.ref a) H'
def oB(K:W.Frag)(F:Fm)(u:UTa):TA:=λσ H QQ=>∃ρ Q,FrOk K F ρ σ H/\u ρ Q/\∀xs as H' ρ',Stp K F σ ρ H ρ' H'->Paired (oQ K F.dk H') xs as->Q as ρ'->QQ xs H'
structure UE (X:Cx) (F:Fm) (e:Expr) (u:UT):Prop where
 pe:PE X e (eE X.K F u)
structure UB (X:Cx) (F:Fm) (e:Expr) (u:UTt):Prop where
 pt:PT X e (rB X.K F u)
structure UW (X:Cx) (F:Fm) (e:Expr) (u:UTt):Prop where
 pw:PW X e (rB X.K F u)
structure UL (X:Cx) (F:Fm) (e:Expr) (u:UTl):Prop where
 pe:PE X e (rC X.K F u)
structure UA (X:Cx) (F:Fm) (es:List Expr) (u:UTa):Prop where
 pa:PA X es (oB X.K F u)
theorem PE.imp{X:Cx}{e:Expr}{t t':TE}(h:PE X e t)(i:∀σ H Q,t' σ H Q->t σ H Q):PE X e t':=λpins s σ H Q I q=>h pins s σ H Q I (i σ H Q q)
theorem PT.imp{X:Cx}{e:Expr}{t t':TT}(h:PT X e t)(i:∀σ H Q,t' σ H Q->t σ H Q):PT X e t':=λpins s σ H Q I q=>h pins s σ H Q I (i σ H Q q)
theorem PW.imp{X:Cx}{e:Expr}{t t':TT}(h:PW X e t)(i:∀σ H Q,t' σ H Q->t σ H Q):PW X e t':=λwh pins s σ H Q I q=>h wh pins s σ H Q I (i σ H Q q)
theorem PA.imp{X:Cx}{es:List Expr}{t t':TA}(h:PA X es t)(i:∀σ H Q,t' σ H Q->t σ H Q):PA X es t':=λpos pins s σ H Q I q=>h pos pins s σ H Q I (i σ H Q q)
theorem Inv.fz{X:Cx}{pins:List (Addr×Obj)}{σ:St}{H:Hp}{s:Shared}{a:Addr}{o:HO}(I:Inv X pins σ H s)(h:H a=some o)(n:fzb o=true):∃ob,Inv X pins σ (upd H a (.frz ob o)) s:=by
 obtain⟨ob,eo⟩:=(I.hok a o h).there
 refine⟨ob,?_⟩
 have keep:∀b u,H b=some u->fzb u=false->upd H a (.frz ob o) b=some u:=λb u e m=>by
  rw[bD (λz=>by subst z;rw[h]at e;cases e;rw[n]at m;cases m)];exact e
 have non:∀b,H b=none->upd H a (.frz ob o) b=none:=λb e=>by
  rw[bD (λz=>by subst z;rw[h]at e;cases e)];exact e
 refine⟨I.ok,I.os,I.bare,⟨I.base.keep,I.base.slot,λb o e n hx=>non b (I.base.free b o e n hx),I.base.there,λb xs e=>keep b _ (I.base.tups b xs e) rfl,λb o u e=>keep b _ (I.base.frzs b o u e) rfl,λb ps e=>?_⟩,I.loc,I.cell,non _ I.free,λx c e=>non c (I.freeC x c e),λp hp=>?_,λb u e=>?_,I.len⟩
 ·obtain⟨more,z⟩:=I.base.tbls b ps e
  exact⟨more,keep b _ z rfl⟩
 ·obtain⟨p1,p2,p3⟩:=I.pin p hp
  exact⟨p1,non _ p2,p3⟩
 ·have st:∀b u,ObjOk X.prog X.w H s.heap b u->ObjOk X.prog X.w (upd H a (.frz ob o)) s.heap b u:=λb u x=>x.stay (λ_ _ _ r=>r) (λd r=>keep d _ r rfl) λd xs r=>keep d _ r rfl
  by_cases z:b=a
  ·subst z
   rw[bF]at e
   cases e
   exact⟨eo,st _ _ (I.hok b o h)⟩
  ·rw[bD z]at e
   exact st _ _ (I.hok b u e)
def FzQ(Q:VK):VK:=λz H=>Q z H\/∃a o,z=.ref a/\H a=some o/\fzb o=true/\∀ob,Q z (upd H a (.frz ob o))
def tFz(t:TE):TE:=λσ H Q=>t σ H (FzQ Q)
theorem EP.fz{X:Cx}{pins:List (Addr×Obj)}{σ:St}{Q:VK}{u:Value}{s:Shared}(h:EP X pins σ (FzQ Q) u s):EP X pins σ Q u s:=by
 obtain⟨x,H',I,r,q⟩:=h
 rcases q with q|⟨a,o,rfl,e,n,q⟩
 ·exact⟨x,H',I,r,q⟩
 ·obtain⟨ob,I'⟩:=I.fz e n
  exact⟨_,_,I',r,q ob⟩
theorem PE.fz{X:Cx}{e:Expr}{t:TE}(h:PE X e t):PE X e (tFz t):=λpins s σ H Q I q=>thn (h pins s σ H _ I q) λ_ _ z=>z.fz
def Raw(K:W.Frag)(H H':Hp)(z:V)(W:Tv):Prop:=Same H H'/\(VA K H' z W\/∃a,z=.ref a/\H a=none /\
 ((∃xs Ts,H' a=some (.lst xs)/\W=.seq false Ts/\Ts.length<=100000/\VAs K H' xs Ts)\/∃kvs kts,H' a=some (.dK kvs)/\W=.dct kts/\(kts.map (·.1)).Nodup/\kts.length<64/\VAk K H' kvs kts))
section
variable{K:W.Frag}{F:Fm}{ρ ρ1 ρ2:aQ}{σ:St}{H H' H1 H2:Hp}{x y v z:V}{T U W:Tv}{a b:Addr}{o:HO}
theorem Raw.va(v:VA K H z W):Raw K H H z W:=⟨Same.refl _,.inl v⟩
theorem Raw.flat(h:dB z=true):Raw K H H z (.leaf z):=.va (.flat h)
theorem Raw.lst{xs:List V}{Ts:List Tv}(n:H a=none)(z:Ts.length<=100000)(p:VAs K H xs Ts):Raw K H (upd H a (.lst xs)) (.ref a) (.seq false Ts):=
 ⟨fA n,.inr ⟨a,rfl,n,.inl ⟨xs,Ts,bF,rfl,z,p.hs (lL n)⟩⟩⟩
theorem Raw.tup{xs:List V}{Ts:List Tv}(n:H a=none)(z:Ts.length<=100000)(p:VAs K H xs Ts):Raw K H (upd H a (.tup xs)) (.ref a) (.seq true Ts):=
 ⟨fA n,.inl (VA.seq (t:=true) (SqT.of bF) z (p.hs (lL n)))⟩
theorem Stp.frz(fr:FrOk K F ρ σ H)(s:Same H H')(n:H a=none)(e:H' a=some o)(m:fzb o=true)(ob:Obj):Stp K F σ ρ H ρ (upd H' a (.frz ob o)):=
 Stp.same fr λb u q=>by rw[bD (dM q n)];exact s b u q
theorem Raw.fin(fr:FrOk K F ρ σ H)(r:Raw K H H' z W){QQ:VK}(k:∀H'',Stp K F σ ρ H ρ H''->VA K H'' z W->QQ z H''):FzQ QQ z H':=by
 obtain⟨s,v|⟨a,rfl,n,⟨xs,Ts,e,rfl,l,p⟩|⟨kvs,kts,e,rfl,nd,l,p⟩⟩⟩:=r
 ·exact .inl (k H' (Stp.same fr s) v)
 ·refine .inr ⟨a,_,rfl,e,rfl,λob=>k _ (Stp.frz fr s n e rfl ob) (VA.seq (t:=false) ⟨ob,bF⟩ l (p.hs (gA e rfl)))⟩
 ·refine .inr ⟨a,_,rfl,e,rfl,λob=>k _ (Stp.frz fr s n e rfl ob) (VA.dct ⟨ob,bF⟩ nd l (p.hs (gA e rfl)))⟩
end
end L2
namespace L2
open PySem PySem.Spec PyProof.Rows WordM
abbrev iT(i:Int):Tv:=.leaf (.int i)
abbrev sT(x:Str):Tv:=.leaf (.str x)
abbrev bT(b:Bool):Tv:=.leaf (.bl b)
abbrev nT:Tv:=.leaf .non
abbrev P1:=Tv->(Tv->Prop)->Prop
abbrev P2:=Tv->Tv->(Tv->Prop)->Prop
abbrev Pn:=List Tv->(Tv->Prop)->Prop
section
variable{X:Cx}{F:Fm}
def oF(i:Nat):UT:=λρ Q=>match ρ[i]? with
 |some (.va T)=>Q T ρ
 |some (.own Ts)=>Q (.seq false Ts) (ρ.set i (.va (.seq false Ts)))
 |some (.dct kts)=>Q (.dct kts) (ρ.set i (.va (.dct kts)))
 |_=>False
theorem eJ{σ:St}{i:Nat}{x:V}(h:ixv σ i=some x):σ[i]?=some (some x):=by
 unfold ixv at h
 cases q:σ[i]? with
 |none=>rw[q]at h;cases h
 |some o=>rw[q]at h;cases o with
  |none=>cases h
  |some y=>cases h;rfl
theorem zBQ{σ:St}{i:Nat}{x:V}(h:σ[i]?=some (some x)):ixv σ i=some x:=by
 unfold ixv;rw[h];rfl
theorem FrOk.fzs{K:W.Frag}{ρ:aQ}{σ:St}{H:Hp}{i:Nat}{s:Sl}{a:Addr}{o:HO}{T:Tv}(fr:FrOk K F ρ σ H)(e:ρ[i]?=some s)(m:cW s=true)(q:ixv σ i=some (.ref a))(h:H a=some o)(n:fzb o=true)(ob:Obj)
  (v:VA K (upd H a (.frz ob o)) (.ref a) T):Stp K F σ ρ H (ρ.set i (.va T)) (upd H a (.frz ob o)):=by
 have hi:i<ρ.length:=(List.getElem?_eq_some_iff.mp e).1
 have nr:=fr.nr_of e q h n
 have h0:=(fr.own_at e m q nr).2
 have hd:=fr.fresh_nodk h0
 have hs:HS H (upd H a (.frz ob o)):=gA h (by cases o<;>first|rfl|exact absurd n Bool.false_ne_true)
 have st:∀b u,b≠a->H b=some u->upd H a (.frz ob o) b=some u:=λb u z e=>by rw[bD z];exact e
 have hr:=fr.fresh_nord h0
 refine⟨⟨fr.d0,fr.r0,⟨λb u e1 n1 n2=>st b u (λz=>by rw[z,h0]at e1;cases e1) (fr.kp.st b u e1 n1 n2),λp c d=>?_,λa' C d=>?_⟩,by rw[List.length_set];exact fr.len,λj s' e'=>?_,λj k b s' t' e1 e2 m1 m2 q1 q2=>?_⟩,λb u e1 _ n1=>st b u (λz=>n1 i s e m (by rw[z];exact q)) e1,λj s' e' m'=>?_,λb u e1=>if z:b=a then⟨.frz ob o,z▸bF⟩ else⟨u,st b u z e1⟩⟩
 ·obtain⟨ne,⟨S,k,e1⟩,ns,e2,l⟩:=fr.kp.dkk p c d
  exact⟨ne,⟨S,k,st _ _ (hd p c d).1.symm e1⟩,ns,st _ _ (hd p c d).2.symm e2,l⟩
 ·obtain⟨t,p,dx,e1⟩:=fr.kp.rdk a' C d
  exact⟨t,p,dx,st _ _ (hr a' C d).symm e1⟩
 ·by_cases z:i=j
  ·subst z
   rw[List.getElem?_set_self hi]at e'
   cases e'
   exact⟨_,q,v⟩
  ·rw[List.getElem?_set_ne z]at e'
   have x:=fr.at_ j s' e'
   cases s' with
   |no=>trivial
   |va T=>obtain⟨y,e1,v⟩:=x;exact⟨y,e1,v.hs hs⟩
   |own Ts=>obtain⟨b,xs,e1,e2,e3,z',p⟩:=x;exact⟨b,xs,e1,st _ _ (λy=>z (fr.ap i j a s _ e e' m rfl q (by rw[e1,y]))) e2,e3,z',p.hs hs⟩
   |dct kts=>obtain⟨b,kvs,e1,e2,e3,n',z',p⟩:=x;exact⟨b,kvs,e1,st _ _ (λy=>z (fr.ap i j a s _ e e' m rfl q (by rw[e1,y]))) e2,e3,n',z',p.hs hs⟩
   |dk=>exact x
   |fn _=>exact x
   |rd t p=>obtain⟨b,C,e1,e2,dx,e3⟩:=x;exact⟨b,C,e1,e2,dx,st _ _ (hr b C e1).symm e3⟩
 ·by_cases z1:i=j
  ·subst z1;rw[List.getElem?_set_self hi]at e1;cases e1;cases m1
  ·by_cases z2:i=k
   ·subst z2;rw[List.getElem?_set_self hi]at e2;cases e2;cases m2
   ·rw[List.getElem?_set_ne z1]at e1
    rw[List.getElem?_set_ne z2]at e2
    exact fr.ap j k b s' t' e1 e2 m1 m2 q1 q2
 ·by_cases z:i=j
  ·subst z;rw[List.getElem?_set_self hi]at e';cases e';cases m'
  ·rw[List.getElem?_set_ne z]at e';exact⟨s',e',m'⟩
theorem aB(i:Nat){x:Str}{pos:Pos}(hN:X.N[i]?=some x:=by rfl)(hv:Vis X.env.scope x:=by first|exact Or.inl rfl|exact Or.inr (Or.inl rfl)|exact Or.inr (Or.inr rfl))(hd:(x==("__debug__":Str))=false:=by decide)(hcd:(x==("__classdict__":Str))=false:=by decide):
  UE X F (.Name x pos) (oF i):=by
 refine⟨PE.imp (PE.fz (eQ hN hv hd hcd)) ?_⟩
 rintro σ H QQ ⟨ρ,Q,fr,h,k⟩
 unfold oF at h
 split at h
 ·rename_i T e
  obtain⟨y,e1,v⟩:=fr.at_ i _ e
  exact⟨y,eJ e1,.inl (k y T H ρ (Stp.refl fr) v h)⟩
 ·rename_i Ts e
  obtain⟨a,xs,e1,e2,e3,z,p⟩:=fr.at_ i _ e
  refine⟨_,eJ e1,.inr ⟨a,_,rfl,e2,rfl,λob=>?_⟩⟩
  have v:VA X.K (upd H a (.frz ob (.lst xs))) (.ref a) (.seq false Ts):=VA.seq (t:=false) ⟨ob,bF⟩ z (p.hs (gA e2 rfl))
  exact k _ _ _ _ (fr.fzs e rfl e1 e2 rfl ob v) v h
 ·rename_i kts e
  obtain⟨a,kvs,e1,e2,e3,n,z,p⟩:=fr.at_ i _ e
  refine⟨_,eJ e1,.inr ⟨a,_,rfl,e2,rfl,λob=>?_⟩⟩
  have v:VA X.K (upd H a (.frz ob (.dK kvs))) (.ref a) (.dct kts):=VA.dct ⟨ob,bF⟩ n z (p.hs (gA e2 rfl))
  exact k _ _ _ _ (fr.fzs e rfl e1 e2 rfl ob v) v h
 ·exact False.elim h
def uC(T:Tv):UT:=λρ Q=>Q T ρ
theorem wK{e:Expr}{v:V}(h:PE X e (tC v))(f:dB v=true):UE X F e (uC (.leaf v)):=⟨PE.imp h λσ H QQ ⟨ρ,Q,fr,h,k⟩=>k v (.leaf v) H ρ (Stp.refl fr) (.flat f) h⟩
theorem aD{i j pos}:UE X F (.Constant (.int i) j pos) (uC (iT i)):=wK bY rfl
theorem cK{b j pos}:UE X F (.Constant (.bool b) j pos) (uC (bT b)):=wK zI8 rfl
theorem aI{x j pos}:UE X F (.Constant (.str x) j pos) (uC (sT x)):=wK zHQ rfl
theorem zF6{x:Str}{v:V}{u:Value}{T:Tv}{pos:Pos}(hg:Gl X x)(hm:X.mg x=some u)(r:RelV v u)(hv:∀H,VA X.K H v T)(hd:(x==("__debug__":Str))=false:=by decide):UE X F (.Name x pos) (uC T):=
 ⟨PE.imp (pW hg hm r hd) λσ H QQ ⟨ρ,Q,fr,h,k⟩=>k v T H ρ (Stp.refl fr) (hv H) h⟩
def sK(K:W.Frag)(r:P2)(r':R2):Prop:=∀x y T U H Q (QQ:VK),VA K H x T->VA K H y U->r T U Q->(∀z W H',Raw K H H' z W->Q W->QQ z H')->r' x y H QQ
def fW(X:Cx)(f:Value->Value->Sem Value)(r:P2):Prop:=∃r',OpR X f r'/\sK X.K r r'
def uOp(r:P2)(ua ub:UT):UT:=λρ Q=>ua ρ λa ρ1=>ub ρ1 λb ρ2=>r a b λc=>Q c ρ2
theorem uH{r:P2}{r':R2}{ua ub:UT}(hr:sK X.K r r')(σ:St)(H:Hp)(QQ:VK)(h:eE X.K F (uOp r ua ub) σ H QQ):tFz (tOp r' (eE X.K F ua) (eE X.K F ub)) σ H QQ:=by
 obtain⟨ρ,Q,fr,h,k⟩:=h
 refine⟨ρ,_,fr,h,λx T H1 ρ1 s1 v1 q1=>⟨ρ1,_,s1.fr,q1,λy U H2 ρ2 s2 v2 q2=>?_⟩⟩
 refine hr x y T U H2 _ _ (v1.hs (s2.hs s1.fr)) v2 q2 λz W H' rw q=>rw.fin s2.fr λH'' s3 v3=>k _ _ _ _ ((s1.trans s2).trans s3) v3 q
variable{a b c:Expr}{ua ub uc:UT}{pos:Pos}
theorem aL{op:Operator}{r:P2}(ho:fW X (binaryOp op) r)(ha:UE X F a ua)(hb:UE X F b ub):UE X F (.BinOp a op b pos) (uOp r ua ub):=by
 obtain⟨r',o,hr⟩:=ho
 exact⟨PE.imp (PE.fz (cG o ha.pe hb.pe)) (uH hr)⟩
theorem zHb{op:CmpOp}{r:P2}(ho:fW X (compareOp op) r)(ha:UE X F a ua)(hb:UE X F b ub)(hm:behindInMarks op b=false):UE X F (.Compare a [op] [b] pos) (uOp r ua ub):=by
 obtain⟨r',o,hr⟩:=ho
 exact⟨PE.imp (PE.fz (zGA o ha.pe hb.pe hm)) (uH hr)⟩
def uB(u:UT):UTt:=λρ Q=>u ρ λT ρ'=>∃b,T=bT b/\Q b ρ'
theorem zIF{e:Expr}{t:TE}{u:UT}(h:PT X e (zBZ t))(i:∀σ H QQ,eE X.K F u σ H QQ->t σ H QQ):UB X F e (uB u):=⟨PT.imp h λσ H QQ ⟨ρ,Q,fr,h,k⟩=>by
 refine i σ H _ ⟨ρ,_,fr,h,λx T H' ρ' s v q=>?_⟩
 obtain⟨b,rfl,q⟩:=q
 obtain⟨e,_⟩:=v.leafI
 exact⟨b,e,k b H' ρ' s q⟩⟩
def PuR2f(K:W.Frag)(r:P2)(r':R2):Prop:=∀x y T U H Q (QQ:VK),VA K H x T->VA K H y U->r T U Q->(∀z W H',Same H H'->VA K H' z W->Q W->QQ z H')->r' x y H QQ
def PuCmp(X:Cx)(f:Value->Value->Sem Value)(r:P2):Prop:=∃r',OpR X f r'/\PuR2f X.K r r'
theorem PuR2f.raw{K:W.Frag}{r:P2}{r':R2}(h:PuR2f K r r'):sK K r r':=λx y T U H Q QQ vx vy q k=>h x y T U H Q QQ vx vy q λz W H' s v q'=>k z W H' ⟨s,.inl v⟩ q'
theorem PuCmp.op{f:Value->Value->Sem Value}{r:P2}(h:PuCmp X f r):fW X f r:=by
 obtain⟨r',o,h⟩:=h
 exact⟨r',o,h.raw⟩
theorem zFI{r:P2}{r':R2}{ua ub:UT}(hr:PuR2f X.K r r')(σ:St)(H:Hp)(QQ:VK)(h:eE X.K F (uOp r ua ub) σ H QQ):tOp r' (eE X.K F ua) (eE X.K F ub) σ H QQ:=by
 obtain⟨ρ,Q,fr,h,k⟩:=h
 refine⟨ρ,_,fr,h,λx T H1 ρ1 s1 v1 q1=>⟨ρ1,_,s1.fr,q1,λy U H2 ρ2 s2 v2 q2=>?_⟩⟩
 exact hr x y T U H2 _ _ (v1.hs (s2.hs s1.fr)) v2 q2 λz W H' s v q=>k _ _ _ _ ((s1.trans s2).trans (Stp.same s2.fr s)) v q
theorem uV{op:CmpOp}{r:P2}(ho:PuCmp X (compareOp op) r)(ha:UE X F a ua)(hb:UE X F b ub)(hm:behindInMarks op b=false):UB X F (.Compare a [op] [b] pos) (uB (uOp r ua ub)):=by
 obtain⟨r',o,hr⟩:=ho
 exact zIF (uA o ha.pe hb.pe hm) (zFI hr)
def zBu(r r':P2)(ua ub uc:UT):UT:=λρ Q=>ua ρ λa ρ1=>ub ρ1 λb ρ2=>r a b λz=>∃k,z=bT k/\(if k=true then uc ρ2 λc ρ3=>r' b c λw=>Q w ρ3 else Q (bT false) ρ2)
theorem zDY{r r':P2}{s s':R2}(hr:PuR2f X.K r s)(hr':PuR2f X.K r' s')(σ:St)(H:Hp)(QQ:VK)(h:eE X.K F (zBu r r' ua ub uc) σ H QQ):zBy s s' (eE X.K F ua) (eE X.K F ub) (eE X.K F uc) σ H QQ:=by
 obtain⟨ρ,Q,fr,h,k⟩:=h
 refine⟨ρ,_,fr,h,λx T H1 ρ1 s1 v1 q1=>⟨ρ1,_,s1.fr,q1,λy U H2 ρ2 s2 v2 q2=>?_⟩⟩
 refine hr x y T U H2 _ _ (v1.hs (s2.hs s1.fr)) v2 q2 λz W H3 ss v3 q3=>?_
 obtain⟨b,rfl,q3⟩:=q3
 obtain⟨e,_⟩:=v3.leafI
 have s3:=Stp.same s2.fr ss
 refine⟨b,e,?_⟩
 cases b with
 |false=>
  rw[if_neg Bool.false_ne_true]at q3 ⊢
  exact k _ _ _ _ ((s1.trans s2).trans s3) (.flat rfl) q3
 |true=>
  rw[if_pos rfl]at q3 ⊢
  refine⟨ρ2,_,s3.fr,q3,λz' W' H4 ρ4 s4 v4 q4=>?_⟩
  exact hr' y z' U W' H4 _ _ ((v2.hs (s3.hs s2.fr)).hs (s4.hs s3.fr)) v4 q4 λz5 W5 H5 s5 v5 q5=>k _ _ _ _ (((s1.trans s2).trans s3).trans (s4.trans (Stp.same s4.fr s5))) v5 q5
theorem pE{op op':CmpOp}{r r':P2}(ho:PuCmp X (compareOp op) r)(ho':PuCmp X (compareOp op') r')(ha:UE X F a ua)(hb:UE X F b ub)(hc:UE X F c uc)(hm:lastMarks [op,op'] [b,c]=false:=by with_unfolding_all rfl):
  UE X F (.Compare a [op,op'] [b,c] pos) (zBu r r' ua ub uc):=by
 obtain⟨s,o,hr⟩:=ho
 obtain⟨s',o',hr'⟩:=ho'
 exact⟨PE.imp (zFp o o' ha.pe hb.pe hc.pe hm) (zDY hr hr')⟩
def zCW(X:Cx)(f:Value->Sem Value)(r:P1):Prop:=∃r',UnR X f r'/\∀x T H Q (QQ:VK),VA X.K H x T->r T Q->(∀z W,VA X.K H z W->Q W->QQ z H)->r' x H QQ
def uUn(r:P1)(ua:UT):UT:=λρ Q=>ua ρ λa ρ1=>r a λc=>Q c ρ1
theorem zBX{op:UnaryOp}{r:P1}(ho:zCW X (unaryOp op) r)(ha:UE X F a ua):UE X F (.UnaryOp op a pos) (uUn r ua):=by
 obtain⟨r',o,hr⟩:=ho
 refine⟨PE.imp (zB4 o ha.pe) ?_⟩
 rintro σ H QQ ⟨ρ,Q,fr,h,k⟩
 exact⟨ρ,_,fr,h,λx T H1 ρ1 s1 v1 q1=>hr x T H1 _ _ v1 q1 λz W v q=>k _ _ _ _ s1 v q⟩
def zCL:P1
 |.leaf (.int i),Q=>Q (iT (-i))
 |_,_=>False
theorem zBG:zCW X (unaryOp .USub) zCL:=⟨_,zBr,λx T H Q QQ v h k=>by
 unfold zCL at h
 split at h
 ·obtain⟨rfl,_⟩:=v.leafI
  exact⟨_,rfl,k _ _ (.flat rfl) h⟩
 ·exact False.elim h⟩
def zIL(ua ub:UT):UT:=λρ Q=>ua ρ λa ρ1=>∃c,a=bT c/\if c=true then ub ρ1 Q else Q (bT false) ρ1
def zIJ(ua:UT):UT:=λρ Q=>ua ρ λa ρ1=>∃c,a=bT c/\Q (bT (!c)) ρ1
theorem dN{op}{u:UT}(h:UE X F a u):UE X F (.BoolOp op [a] pos) u:=⟨zHS h.pe⟩
theorem cR{rest:List Expr}(ha:UE X F a ua)(hb:UE X F (.BoolOp .And (b::rest) pos) ub):UE X F (.BoolOp .And (a::b::rest) pos) (zIL ua ub):=⟨PE.imp (zHW ha.pe hb.pe) λσ H QQ ⟨ρ,Q,fr,h,k⟩=>by
 refine⟨ρ,_,fr,h,λx T H1 ρ1 s1 v1 q1=>?_⟩
 obtain⟨c,rfl,q1⟩:=q1
 obtain⟨e,_⟩:=v1.leafI
 refine⟨c,e,?_⟩
 cases c with
 |false=>rw[if_neg Bool.false_ne_true]at q1 ⊢;exact k _ _ _ _ s1 (.flat rfl) q1
 |true=>rw[if_pos rfl]at q1 ⊢;exact⟨ρ1,_,s1.fr,q1,λy U H2 ρ2 s2 v2 q2=>k _ _ _ _ (s1.trans s2) v2 q2⟩⟩
theorem zHa(ha:UE X F a ua):UE X F (.UnaryOp .Not a pos) (zIJ ua):=⟨PE.imp (zHT ha.pe) λσ H QQ ⟨ρ,Q,fr,h,k⟩=>by
 refine⟨ρ,_,fr,h,λx T H1 ρ1 s1 v1 q1=>?_⟩
 obtain⟨c,rfl,q1⟩:=q1
 obtain⟨e,_⟩:=v1.leafI
 exact⟨c,e,k _ _ _ _ s1 (.flat rfl) q1⟩⟩
def zCk(t u:UTt):UTt:=λρ Q=>t ρ λc ρ1=>if c=true then u ρ1 Q else Q false ρ1
def uOr(t u:UTt):UTt:=λρ Q=>t ρ λc ρ1=>if c=true then Q true ρ1 else u ρ1 Q
def zJv(t:UTt):UTt:=λρ Q=>t ρ λc ρ1=>Q (!c) ρ1
variable{ta tb:UTt}{rest:List Expr}
theorem mP(ha:UB X F a ta):UW X F (.BoolOp .And [a] pos) ta:=⟨zGm ha.pt⟩
theorem eL(ha:UB X F a ta):UW X F (.BoolOp .Or [a] pos) ta:=⟨zHB ha.pt⟩
theorem lD(ha:UB X F a ta)(hb:UW X F (.BoolOp .And (b::rest) pos) tb):UW X F (.BoolOp .And (a::b::rest) pos) (zCk ta tb):=⟨PW.imp (zHC ha.pt hb.pw) λσ H QQ ⟨ρ,Q,fr,h,k⟩=>by
 refine⟨ρ,_,fr,h,λc H1 ρ1 s1 q1=>?_⟩
 cases c with
 |false=>rw[if_neg Bool.false_ne_true]at q1 ⊢;exact k _ _ _ s1 q1
 |true=>rw[if_pos rfl]at q1 ⊢;exact⟨ρ1,_,s1.fr,q1,λy H2 ρ2 s2 q2=>k _ _ _ (s1.trans s2) q2⟩⟩
theorem dE(ha:UB X F a ta)(hb:UW X F (.BoolOp .Or (b::rest) pos) tb):UW X F (.BoolOp .Or (a::b::rest) pos) (uOr ta tb):=⟨PW.imp (zI6 ha.pt hb.pw) λσ H QQ ⟨ρ,Q,fr,h,k⟩=>by
 refine⟨ρ,_,fr,h,λc H1 ρ1 s1 q1=>?_⟩
 cases c with
 |true=>rw[if_pos rfl]at q1 ⊢;exact k _ _ _ s1 q1
 |false=>rw[if_neg Bool.false_ne_true]at q1 ⊢;exact⟨ρ1,_,s1.fr,q1,λy H2 ρ2 s2 q2=>k _ _ _ (s1.trans s2) q2⟩⟩
theorem dG{e:Expr}{t:UTt}(h:UW X F e t):UB X F e t:=⟨h.pw.pt⟩
theorem cS(ha:UB X F a ta):UB X F (.UnaryOp .Not a pos) (zJv ta):=⟨PT.imp (zHI ha.pt) λσ H QQ ⟨ρ,Q,fr,h,k⟩=>⟨ρ,_,fr,h,λc H1 ρ1 s1 q1=>k _ _ _ s1 q1⟩⟩
theorem bN{e:Expr}{u:UT}(h:UE X F e u)(he:∀whole,isTrue e X.env whole=(do let v <- whole;standAt e.pos;holding [v] (truthy v)):=by intro _;rfl):UB X F e (uB u):=⟨PT.imp (zHH h.pe he) λσ H QQ ⟨ρ,Q,fr,h,k⟩=>by
 refine⟨ρ,_,fr,h,λx T H' ρ' s v q=>?_⟩
 obtain⟨b,rfl,q⟩:=q
 obtain⟨e,_⟩:=v.leafI
 exact⟨b,e,k b H' ρ' s q⟩⟩
def uIf(t:UTt)(ua ub:UT):UT:=λρ Q=>t ρ λc ρ1=>if c=true then ua ρ1 Q else ub ρ1 Q
theorem zY(hc:UB X F c ta)(ha:UE X F a ua)(hb:UE X F b ub):UE X F (.IfExp c a b pos) (uIf ta ua ub):=⟨PE.imp (zFo hc.pt ha.pe hb.pe) λσ H QQ ⟨ρ,Q,fr,h,k⟩=>by
 refine⟨ρ,_,fr,h,λc H1 ρ1 s1 q1=>?_⟩
 cases c with
 |true=>rw[if_pos rfl]at q1 ⊢;exact⟨ρ1,_,s1.fr,q1,λy U H2 ρ2 s2 v2 q2=>k _ _ _ _ (s1.trans s2) v2 q2⟩
 |false=>rw[if_neg Bool.false_ne_true]at q1 ⊢;exact⟨ρ1,_,s1.fr,q1,λy U H2 ρ2 s2 v2 q2=>k _ _ _ _ (s1.trans s2) v2 q2⟩⟩
def fI:UTa:=λρ Q=>Q [] ρ
def jF(u:UT)(t:UTa):UTa:=λρ Q=>u ρ λT ρ1=>t ρ1 λas ρ2=>Q (.va T::as) ρ2
def uDk(i:Nat)(t:UTa):UTa:=λρ Q=>ρ[i]?=some .dk/\t ρ λas ρ2=>Q (.dk::as) ρ2
theorem aC:UA X F [] fI:=⟨PA.imp eR λσ H QQ ⟨ρ,Q,fr,h,k⟩=>k [] [] H ρ (Stp.refl fr) .nil h⟩
theorem aA{e:Expr}{es:List Expr}{u:UT}{t:UTa}(ha:UE X F e u)(hr:UA X F es t)(h:fQ e=false:=by rfl):UA X F (e::es) (jF u t):=⟨PA.imp (dH ha.pe hr.pa h) λσ H QQ ⟨ρ,Q,fr,h,k⟩=>by
 refine⟨ρ,_,fr,h,λx T H1 ρ1 s1 v1 q1=>⟨ρ1,_,s1.fr,q1,λxs as H2 ρ2 s2 p2 q2=>?_⟩⟩
 exact k _ _ _ _ (s1.trans s2) (.cons (b:=Ar.va T) (v1.hs (s2.hs s1.fr)) p2) q2⟩
theorem bH(i:Nat){x:Str}{pos:Pos}{es:List Expr}{t:UTa}(hr:UA X F es t)(hN:X.N[i]?=some x:=by rfl)(hv:Vis X.env.scope x:=by first|exact Or.inl rfl|exact Or.inr (Or.inl rfl)|exact Or.inr (Or.inr rfl))(hd:(x==("__debug__":Str))=false:=by decide)(hcd:(x==("__classdict__":Str))=false:=by decide):
  UA X F (.Name x pos::es) (uDk i t):=⟨PA.imp (dH (eQ hN hv hd hcd) hr.pa rfl) λσ H QQ ⟨ρ,Q,fr,⟨e,h⟩,k⟩=>by
 obtain⟨p,c,ed,ex⟩:=fr.at_ i _ e
 refine⟨_,eJ ex,ρ,_,fr,h,λxs as H2 ρ2 s2 p2 q2=>?_⟩
 exact k _ _ _ _ s2 (.cons (b:=Ar.dk) ⟨p,c,ed,rfl⟩ p2) q2⟩
def vsK:List Ar->(List Tv->Prop)->Prop
 |[],Q=>Q []
 |.va T::as,Q=>vsK as λTs=>Q (T::Ts)
 |.dk::_,_=>False
 |.fn _::_,_=>False
theorem iF:∀{as:List Ar}{Q:List Tv->Prop},vsK as Q->∃Ts,as=Ts.map Ar.va/\Q Ts
 |[],_,h=>⟨[],rfl,h⟩
 |.va T::as,Q,h=>by
  obtain⟨Ts,rfl,q⟩:=iF (as:=as) (Q:=λTs=>Q (T::Ts)) h
  exact⟨T::Ts,rfl,q⟩
 |.dk::_,_,h=>False.elim h
 |.fn _::_,_,h=>False.elim h
def uVs(ua:UTa):UTl:=λρ Q=>ua ρ λas ρ1=>vsK as λTs=>Q Ts ρ1
theorem iG{K:W.Frag}{dk:Option (Addr×Addr)}{H:Hp}:∀{xs:List V}{Ts:List Tv},Paired (oQ K dk H) xs (Ts.map Ar.va)->VAs K H xs Ts
 |[],[],_=>.nil
 |_::_,_::_,.cons r t=>.cons r (iG t)
def zCj(ua:UTa):UT:=λρ Q=>uVs ua ρ λTs ρ1=>Ts.length<=100000/\Q (.seq true Ts) ρ1
def zJw(ua:UTa):UTl:=λρ Q=>uVs ua ρ λTs ρ1=>Ts.length<=100000/\Q Ts ρ1
theorem gM{n:Nat}(h:n<=100000):n<=sizeLine:=by rw[sizeLine_eq];omega
theorem zBc{n:Nat}(h:n<100000):n<sizeLine:=by rw[sizeLine_eq];omega
theorem bI{es:List Expr}{t:UTa}{x1}(h:UA X F es t):UE X F (.Tuple es x1 pos) (zCj t):=⟨PE.imp (zHP h.pa) λσ H QQ ⟨ρ,Q,fr,h,k⟩=>by
 refine⟨ρ,_,fr,h,λxs as H1 ρ1 s1 p1 q1=>?_⟩
 obtain⟨Ts,rfl,z,q⟩:=iF q1
 have p:=iG p1
 have l:xs.length=Ts.length:=Paired.length p
 refine⟨gM (by omega),λa n=>?_⟩
 have r:=Raw.tup (K:=X.K) n z p
 exact k _ _ _ _ (s1.trans (Stp.same s1.fr r.1)) (VA.seq (t:=true) (SqT.of bF) z (p.hs (lL n))) q⟩
theorem dD{es:List Expr}{t:UTa}(h:UA X F es t):UL X F (.List es pos) (zJw t):=⟨PE.imp (zBK h.pa) λσ H QQ ⟨ρ,Q,fr,h,k⟩=>by
 refine⟨ρ,_,fr,h,λxs as H1 ρ1 s1 p1 q1=>?_⟩
 obtain⟨Ts,rfl,z,q⟩:=iF q1
 have p:=iG p1
 have l:xs.length=Ts.length:=Paired.length p
 refine⟨gM (by omega),λa n=>?_⟩
 exact k _ _ _ _ _ (s1.trans (Stp.same s1.fr (fA n))) (s1.non n) bF z (p.hs (lL n)) q⟩
end
end L2
namespace L2
open PySem PySem.Spec PyProof.Rows WordM
theorem FrOk.fzn{K:W.Frag}{F:Fm}{ρ:aQ}{σ:St}{H:Hp}{a:Addr}{o:HO}(fr:FrOk K F ρ σ H)(h:H a=some o)(n:fzb o=true)(h0:F.H0 a=none)(na:∀(i:Nat) (s:Sl),ρ[i]?=some s->cW s=true->ixv σ i≠some (.ref a))(o':HO):FrOk K F ρ σ (upd H a o'):=by
 have hd:=fr.fresh_nodk h0
 have hs:HS H (upd H a o'):=gA h (by cases o<;>first|rfl|exact absurd n Bool.false_ne_true)
 have st:∀b u,b≠a->H b=some u->upd H a o' b=some u:=λb u z e=>by rw[bD z];exact e
 have hr:=fr.fresh_nord h0
 refine⟨fr.d0,fr.r0,⟨λb u e1 n1 n2=>st b u (λz=>by rw[z,h0]at e1;cases e1) (fr.kp.st b u e1 n1 n2),λp c d=>?_,λa' C d=>?_⟩,fr.len,λj s' e'=>?_,fr.ap⟩
 ·obtain⟨ne,⟨S,k,e1⟩,ns,e2,l⟩:=fr.kp.dkk p c d
  exact⟨ne,⟨S,k,st _ _ (hd p c d).1.symm e1⟩,ns,st _ _ (hd p c d).2.symm e2,l⟩
 ·obtain⟨t,p,dx,e1⟩:=fr.kp.rdk a' C d
  exact⟨t,p,dx,st _ _ (hr a' C d).symm e1⟩
 ·have x:=fr.at_ j s' e'
  cases s' with
  |no=>trivial
  |va T=>obtain⟨y,e1,v⟩:=x;exact⟨y,e1,v.hs hs⟩
  |own Ts=>obtain⟨b,xs,e1,e2,e3,z',p⟩:=x;exact⟨b,xs,e1,st _ _ (λy=>na j _ e' rfl (by rw[e1,y])) e2,e3,z',p.hs hs⟩
  |dct kts=>obtain⟨b,kvs,e1,e2,e3,n',z',p⟩:=x;exact⟨b,kvs,e1,st _ _ (λy=>na j _ e' rfl (by rw[e1,y])) e2,e3,n',z',p.hs hs⟩
  |dk=>exact x
  |fn _=>exact x
  |rd t p=>obtain⟨b,C,e1,e2,dx,e3⟩:=x;exact⟨b,C,e1,e2,dx,st _ _ (hr b C e1).symm e3⟩
theorem Stp.notown{K:W.Frag}{F:Fm}{ρ ρ1:aQ}{σ:St}{H H1:Hp}{a:Addr}(s:Stp K F σ ρ H ρ1 H1)(fr:FrOk K F ρ σ H)(n:H a=none):∀(i:Nat) (s:Sl),ρ1[i]?=some s->cW s=true->ixv σ i≠some (.ref a):=λi s' e m q=>by
 obtain⟨s0,e0,m0⟩:=s.sub i s' e m
 obtain⟨o,e1,_⟩:=fr.mut_at e0 m0 q
 rw[n]at e1;cases e1
theorem Stp.put{K:W.Frag}{F:Fm}{ρ ρ1:aQ}{σ:St}{H H1:Hp}{a:Addr}{o:HO}(s:Stp K F σ ρ H ρ1 H1)(fr:FrOk K F ρ σ H)(n:H a=none)(e:H1 a=some o)(m:fzb o=true)(o':HO):Stp K F σ ρ H ρ1 (upd H1 a o'):=
 ⟨s.fr.fzn e m (fr.none0 n) (s.notown fr n) o',λb u q d n1=>by rw[bD (dM q n)];exact s.st b u q d n1,s.sub,λb u q=>by rw[bD (dM q n)];exact s.tr b u q⟩
section
variable{X:Cx}{F:Fm}{e:Expr}{pos:Pos}
def uL(u:UTl):UT:=λρ Q=>u ρ λTs ρ1=>Q (.seq false Ts) ρ1
theorem bP{u:UTl}(h:UL X F e u):UE X F e (uL u):=⟨PE.imp (PE.fz h.pe) λσ H QQ ⟨ρ,Q,fr,h,k⟩=>⟨ρ,_,fr,h,λa xs Ts H' ρ' s n e z p q=>
 .inr ⟨a,_,rfl,e,rfl,λob=>k _ _ _ _ (s.put fr n e rfl (.frz ob (.lst xs))) (VA.seq (t:=false) ⟨ob,bF⟩ z (p.hs (gA e rfl))) q⟩⟩⟩
def zCY(K:W.Frag)(r:Pn)(r':List V->Hp->VK->Prop):Prop:=∀xs Ts H Q (QQ:VK),VAs K H xs Ts->r Ts Q->(∀z W H',Raw K H H' z W->Q W->QQ z H')->r' xs H QQ
def fE(X:Cx)(f:Value)(r:Pn):Prop:=∃r',CallR X f r'/\zCY X.K r r'
def uCB(r:Pn)(ua:UTa):UT:=λρ Q=>uVs ua ρ λTs ρ1=>r Ts λW=>Q W ρ1
theorem zBe{r:Pn}{r':List V->Hp->VK->Prop}{ua:UTa}(hr:zCY X.K r r')(σ:St)(H:Hp)(QQ:VK)(h:eE X.K F (uCB r ua) σ H QQ):tFz (tCB r' (oB X.K F ua)) σ H QQ:=by
 obtain⟨ρ,Q,fr,h,k⟩:=h
 refine⟨ρ,_,fr,h,λxs as H1 ρ1 s1 p1 q1=>?_⟩
 obtain⟨Ts,rfl,q⟩:=iF q1
 exact hr xs Ts H1 _ _ (iG p1) q λz W H' rw q=>rw.fin s1.fr λH'' s3 v3=>k _ _ _ _ (s1.trans s3) v3 q
variable{es:List Expr}{x:Str}{p:Pos}{ua:UTa}
theorem bG{id:String}{r:Pn}(hc:fE X (.builtin id) r)(hg:Gl X x)(hm:X.mg x=none)(hv:bootBuiltins x=some (.builtin id))(ha:UA X F (e::es) ua)(hn:x≠"__name__":=by decide)(hdb:(x==("__debug__":Str))=false:=by decide)
  (he:starEach (e::es) X.env=(false,eval e X.env)::starEach es X.env:=by rfl) (hpl:(backTo pos (starEach es X.env)).any (·.1)=false:=by rfl):UE X F (.Call (.Name x p) (e::es) [] pos) (uCB r ua):=by
 obtain⟨r',o,hr⟩:=hc
 exact⟨PE.imp (PE.fz (mO o hg hm hv ha.pa hn hdb he hpl)) (zBe hr)⟩
theorem dS{id:String}{r:Pn}(hc:fE X (.type id) r)(hg:Gl X x)(hm:X.mg x=none)(hv:bootBuiltins x=some (.type id))(ha:UA X F (e::es) ua)(hn:x≠"__name__":=by decide)(hdb:(x==("__debug__":Str))=false:=by decide)
  (he:starEach (e::es) X.env=(false,eval e X.env)::starEach es X.env:=by rfl) (hpl:(backTo pos (starEach es X.env)).any (·.1)=false:=by rfl):UE X F (.Call (.Name x p) (e::es) [] pos) (uCB r ua):=by
 obtain⟨r',o,hr⟩:=hc
 exact⟨PE.imp (PE.fz (mJ o hg hm hv ha.pa hn hdb he hpl)) (zBe hr)⟩
def zCZ(K:W.Frag)(r:List Tv->(List Tv->Prop)->Prop)(r':List V->Hp->VK->Prop):Prop:=∀xs Ts H Q (QQ:VK),VAs K H xs Ts->r Ts Q->(∀a ys Us H',Same H H'->H a=none->H' a=some (.lst ys)->Us.length<=100000->VAs K H' ys Us->Q Us->QQ (.ref a) H')->r' xs H QQ
def qC(X:Cx)(f:Value)(r:List Tv->(List Tv->Prop)->Prop):Prop:=∃r',CallR X f r'/\zCZ X.K r r'
def uCL(r:List Tv->(List Tv->Prop)->Prop)(ua:UTa):UTl:=λρ Q=>uVs ua ρ λTs ρ1=>r Ts λUs=>Q Us ρ1
theorem zBd{r:List Tv->(List Tv->Prop)->Prop}{r':List V->Hp->VK->Prop}{ua:UTa}(hr:zCZ X.K r r')(σ:St)(H:Hp)(QQ:VK)(h:rC X.K F (uCL r ua) σ H QQ):tCB r' (oB X.K F ua) σ H QQ:=by
 obtain⟨ρ,Q,fr,h,k⟩:=h
 refine⟨ρ,_,fr,h,λxs as H1 ρ1 s1 p1 q1=>?_⟩
 obtain⟨Ts,rfl,q⟩:=iF q1
 exact hr xs Ts H1 _ _ (iG p1) q λa ys Us H' sm n e z p q=>k _ _ _ _ _ (s1.trans (Stp.same s1.fr sm)) (s1.non n) e z p q
theorem tI{id:String}{r:List Tv->(List Tv->Prop)->Prop}(hc:qC X (.builtin id) r)(hg:Gl X x)(hm:X.mg x=none)(hv:bootBuiltins x=some (.builtin id))(ha:UA X F (e::es) ua)(hn:x≠"__name__":=by decide)(hdb:(x==("__debug__":Str))=false:=by decide)
  (he:starEach (e::es) X.env=(false,eval e X.env)::starEach es X.env:=by rfl) (hpl:(backTo pos (starEach es X.env)).any (·.1)=false:=by rfl):UL X F (.Call (.Name x p) (e::es) [] pos) (uCL r ua):=by
 obtain⟨r',o,hr⟩:=hc
 exact⟨PE.imp (mO o hg hm hv ha.pa hn hdb he hpl) (zBd hr)⟩
theorem yX{id:String}{r:List Tv->(List Tv->Prop)->Prop}(hc:qC X (.type id) r)(hg:Gl X x)(hm:X.mg x=none)(hv:bootBuiltins x=some (.type id))(ha:UA X F (e::es) ua)(hn:x≠"__name__":=by decide)(hdb:(x==("__debug__":Str))=false:=by decide)
  (he:starEach (e::es) X.env=(false,eval e X.env)::starEach es X.env:=by rfl) (hpl:(backTo pos (starEach es X.env)).any (·.1)=false:=by rfl):UL X F (.Call (.Name x p) (e::es) [] pos) (uCL r ua):=by
 obtain⟨r',o,hr⟩:=hc
 exact⟨PE.imp (mJ o hg hm hv ha.pa hn hdb he hpl) (zBd hr)⟩
abbrev PSp:=List Ar->(Tv->Prop)->Prop
def wF(K:W.Frag)(psp:PSp):Sp:=λvs H Q _=>∃dk as R,(∀p c,dk=some (p,c)->DeckAt H p c)/\Paired (oQ K dk H) vs as/\psp as R/\∀x T H',Kp dk none H H'->VA K H' x T->R T->Q x H'
def aG(P:Program)(w:World)(K:W.Frag)(mg:Str->Option Value)(base:Heap)(k:Nat)(x:Str)(ps:List Str)(psp:PSp):Prop:=Good P w K mg base k x ps (wF K psp)
def nS(psp:PSp)(ua:UTa):UT:=λρ Q=>ua ρ λas ρ1=>psp as λW=>Q W ρ1
theorem zED{psp:PSp}{ua:UTa}(σ:St)(H:Hp)(QQ:VK)(h:eE X.K F (nS psp ua) σ H QQ):lR (wF X.K psp) [] E0 (oB X.K F ua) σ H QQ:=by
 obtain⟨ρ,Q,fr,h,k⟩:=h
 refine⟨ρ,_,fr,h,λxs as H1 ρ1 s1 p1 q1=>?_⟩
 show wF X.K psp (xs++[]) H1 QQ E0
 rw[List.append_nil]
 exact⟨F.dk,as,_,s1.fr.kp.dkk,p1,q1,λz W H' kp v q=>k _ _ _ _ (s1.trans (Stp.call s1.fr kp)) v q⟩
theorem zIE{k:Nat}{ps:List Str}{psp:PSp}(G:aG X.prog X.w X.K X.mg X.base k x ps psp)(hr:Room k X.A)(hg:Gl X x)(ha:UA X F (e::es) ua)(hdb:(x==("__debug__":Str))=false:=by decide)
  (hst:fQ e=false:=by rfl) (hpl:(backTo pos (starEach es X.env)).any (·.1)=false:=by rfl):UE X F (.Call (.Name x p) (e::es) [] pos) (nS psp ua):=
 ⟨PE.imp (nY G hr hg ha.pa hdb hst hpl) zED⟩
theorem zBt{k:Nat}{ps:List Str}{psp:PSp}(G:aG X.prog X.w X.K X.mg X.base k x ps psp)(hr:Room k X.A)(hg:Gl X x)(hdb:(x==("__debug__":Str))=false:=by decide):UE X F (.Call (.Name x p) [] [] pos) (nS psp fI):=
 ⟨PE.imp (zHU G hr hg hdb) λσ H QQ ⟨ρ,Q,fr,h,k⟩=>⟨F.dk,[],_,fr.kp.dkk,.nil,h,λz W H' kp v q=>k _ _ _ _ (Stp.call fr kp) v q⟩⟩
def zC0(X:Cx)(r:P2):Prop:=∃r',IxR X r'/\sK X.K r r'
variable{a b:Expr}{va vb:UT}
theorem zID{r:P2}(ho:zC0 X r)(ha:UE X F a va)(hb:UE X F b vb)(hs:qD b:=by intro _ _;rfl):UE X F (.Subscript a b pos) (uOp r va vb):=by
 obtain⟨r',o,hr⟩:=ho
 exact⟨PE.imp (PE.fz (iQ o ha.pe hb.pe hs)) (uH hr)⟩
abbrev UTo:=aQ->(Option Int->aQ->Prop)->Prop
def zJh(K:W.Frag)(F:Fm)(u:UTo):TO:=λσ H QQ=>∃ρ Q,FrOk K F ρ σ H/\u ρ Q/\∀o H' ρ',Stp K F σ ρ H ρ' H'->Q o ρ'->QQ o H'
structure UO (X:Cx) (F:Fm) (e:Option Expr) (u:UTo):Prop where
 po:PO X e (zJh X.K F u)
theorem PO.imp{e:Option Expr}{t t':TO}(h:PO X e t)(i:∀σ H Q,t' σ H Q->t σ H Q):PO X e t':=λpins s σ H Q I q=>h pins s σ H Q I (i σ H Q q)
def uoN:UTo:=λρ Q=>Q none ρ
def uoS(u:UT):UTo:=λρ Q=>u ρ λT ρ1=>∃i,T=iT i/\Q (some i) ρ1
theorem tV:UO X F none uoN:=⟨PO.imp zA2 λσ H QQ ⟨ρ,Q,fr,h,k⟩=>k _ _ _ (Stp.refl fr) h⟩
theorem kA{u:UT}(h:UE X F e u):UO X F (some e) (uoS u):=⟨PO.imp (zA1 h.pe) λσ H QQ ⟨ρ,Q,fr,h,k⟩=>⟨ρ,_,fr,h,λx T H1 ρ1 s1 v1 q1=>by
 obtain⟨i,rfl,q⟩:=q1
 exact⟨i,v1.leafI.1,k _ _ _ s1 q⟩⟩⟩
abbrev PSl:=Tv->Option Int->Option Int->(Tv->Prop)->Prop
def zCX(X:Cx)(r:PSl):Prop:=∃r',SlR X r'/\∀x T lo hi H Q (QQ:VK),VA X.K H x T->r T lo hi Q->(∀z W H',Raw X.K H H' z W->Q W->QQ z H')->r' x lo hi H QQ
def uSl(r:PSl)(u:UT)(lo hi:UTo):UT:=λρ Q=>u ρ λT ρ1=>lo ρ1 λl ρ2=>hi ρ2 λh ρ3=>r T l h λW=>Q W ρ3
theorem mM{r:PSl}{lo hi:Option Expr}{ul uh:UTo}{p2:Pos}(ho:zCX X r)(ha:UE X F a va)(hl:UO X F lo ul)(hh:UO X F hi uh):UE X F (.Subscript a (.Slice lo hi none p2) pos) (uSl r va ul uh):=by
 obtain⟨r',o,hr⟩:=ho
 refine⟨PE.imp (PE.fz (zAg o ha.pe hl.po hh.po)) ?_⟩
 rintro σ H QQ ⟨ρ,Q,fr,h,k⟩
 refine⟨ρ,_,fr,h,λx T H1 ρ1 s1 v1 q1=>⟨ρ1,_,s1.fr,q1,λl H2 ρ2 s2 q2=>⟨ρ2,_,s2.fr,q2,λu H3 ρ3 s3 q3=>?_⟩⟩⟩
 exact hr x T l u H3 _ _ ((v1.hs (s2.hs s1.fr)).hs (s3.hs s2.fr)) q3 λz W H' rw q=>rw.fin s3.fr λH'' s4 v4=>k _ _ _ _ ((s1.trans s2).trans (s3.trans s4)) v4 q
end
structure PEnds where
 nx:aQ->Prop
 rt:Tv->Prop
 bk:aQ->Prop:=λ_=>False
 ct:aQ->Prop:=λ_=>False
 rr:Tv->aQ->Prop:=λ_ _=>False
def RdS(F:Fm)(ρ:aQ)(H:Hp):Prop:=∀(i:Nat) (t:Str) (p:Int),ρ[i]?=some (.rd t p)->∃a C,F.rd=some (a,C)/\hG H a C t p
theorem FrOk.rds{K:W.Frag}{F:Fm}{ρ:aQ}{σ:St}{H:Hp}(fr:FrOk K F ρ σ H):RdS F ρ H:=λi t p e=>by
 obtain⟨a,C,e1,_,e2⟩:=fr.at_ i _ e
 exact⟨a,C,e1,e2⟩
abbrev UTs:=PEnds->aQ->Prop
def kK(K:W.Frag)(F:Fm)(u:UTs):TS:=λD σ H=>∃ρ P,FrOk K F ρ σ H/\u P ρ/\(∀σ' H' ρ',FrOk K F ρ' σ' H'->HS H H'->P.nx ρ'->D.nx σ' H')/\(∀x T H' ρ',Kp F.dk F.rd F.H0 H'->RdS F ρ' H'->VA K H' x T->(P.rt T\/P.rr T ρ')->D.rt x H') /\
 (∀σ' H' ρ',FrOk K F ρ' σ' H'->HS H H'->P.bk ρ'->D.bk σ' H')/\∀σ' H' ρ',FrOk K F ρ' σ' H'->HS H H'->P.ct ρ'->D.ct σ' H'
structure US (X:Cx) (F:Fm) (st:Stmt) (u:UTs):Prop where
 ps:PS X st (kK X.K F u)
structure USs (X:Cx) (F:Fm) (st:List Stmt) (u:UTs):Prop where
 ps:PSs X st (kK X.K F u)
theorem PS.imp{X:Cx}{st:Stmt}{t t':TS}(h:PS X st t)(i:∀D σ H,t' D σ H->t D σ H):PS X st t':=λpins s σ H D I q=>h pins s σ H D I (i D σ H q)
theorem PSs.imp{X:Cx}{st:List Stmt}{t t':TS}(h:PSs X st t)(i:∀D σ H,t' D σ H->t D σ H):PSs X st t':=λpins s σ H D I q=>h pins s σ H D I (i D σ H q)
section
variable{X:Cx}{F:Fm}{e:Expr}{pos:Pos}{st:Stmt}{rest:List Stmt}{u:UT}
def rM:UTs:=λP ρ=>P.nx ρ
def cC(s t:UTs):UTs:=λP ρ=>s {P with nx:=λρ'=>t P ρ'} ρ
theorem bA:USs X F [] rM:=⟨PSs.imp uG λD σ H ⟨ρ,P,fr,h,k1,_⟩=>k1 σ H ρ fr (HS.refl _) h⟩
theorem aH{s:UTs}(h:US X F st s):USs X F [st] s:=⟨kD h.ps⟩
theorem aE{s t:UTs}(h:US X F st s)(hr:USs X F rest t):USs X F (st::rest) (cC s t):=⟨PSs.imp (fM h.ps hr.ps) λD σ H ⟨ρ,P,fr,h,k1,k2,k3,k4⟩=>by
 refine⟨ρ,_,fr,h,λσ' H' ρ' fr' hs q=>?_,k2,k3,k4⟩
 exact⟨ρ',P,fr',q,λσ2 H2 ρ2 f2 h2 q2=>k1 _ _ _ f2 (hs.trans h2) q2,k2,λσ2 H2 ρ2 f2 h2 q2=>k3 _ _ _ f2 (hs.trans h2) q2,λσ2 H2 ρ2 f2 h2 q2=>k4 _ _ _ f2 (hs.trans h2) q2⟩⟩
def zJI(u:UT):UTs:=λP ρ=>u ρ λT _=>P.rt T
theorem aV(h:UE X F e u):US X F (.Return (some e) pos) (zJI u):=⟨PS.imp (kI h.pe) λD σ H ⟨ρ,P,fr,h,_,k2,_⟩=>⟨ρ,_,fr,h,λx T H' ρ' s v q=>k2 x T H' ρ' s.fr.kp s.fr.rds v (.inl q)⟩⟩
def zIU(u:UT):UTs:=λP ρ=>u ρ λT ρ1=>P.rr T ρ1
theorem cI(h:UE X F e u):US X F (.Return (some e) pos) (zIU u):=⟨PS.imp (kI h.pe) λD σ H ⟨ρ,P,fr,h,_,k2,_⟩=>⟨ρ,_,fr,h,λx T H' ρ' s v q=>k2 x T H' ρ' s.fr.kp s.fr.rds v (.inr q)⟩⟩
def sIf(t:UTt)(s r:UTs):UTs:=λP ρ=>t ρ λb ρ1=>if b=true then s P ρ1 else r P ρ1
theorem bB{c:Expr}{a b:List Stmt}{t:UTt}{s r:UTs}(hc:UB X F c t)(ha:USs X F a s)(hb:USs X F b r):US X F (.If c a b pos) (sIf t s r):=⟨PS.imp (wC hc.pt ha.ps hb.ps) λD σ H ⟨ρ,P,fr,h,k1,k2,k3,k4⟩=>by
 refine⟨ρ,_,fr,h,λb H1 ρ1 s1 q1=>?_⟩
 have hs:=s1.hs fr
 have fin:∀{v:UTs},v P ρ1->kK X.K F v D σ H1:=λq=>⟨ρ1,P,s1.fr,q,λσ2 H2 ρ2 f2 h2 q2=>k1 _ _ _ f2 (hs.trans h2) q2,k2,λσ2 H2 ρ2 f2 h2 q2=>k3 _ _ _ f2 (hs.trans h2) q2,λσ2 H2 ρ2 f2 h2 q2=>k4 _ _ _ f2 (hs.trans h2) q2⟩
 cases b with
 |true=>exact aN (fin (by rw[if_pos rfl]at q1;exact q1))
 |false=>exact aX (fin (by rw[if_neg Bool.false_ne_true]at q1;exact q1))⟩
def zB0(u:UT):UTs:=λP ρ=>u ρ λ_ ρ1=>P.nx ρ1
theorem cJ(h:UE X F e u)(hs:swapsWith e none pos.line X.env=pure false:=by rfl):US X F (.Expr e pos) (zB0 u):=⟨PS.imp (zAZ h.pe hs) λD σ H ⟨ρ,P,fr,h,k1,_⟩=>⟨ρ,_,fr,h,λx T H' ρ' s v q=>k1 _ _ _ s.fr (s.hs fr) q⟩⟩
theorem FrOk.set{K:W.Frag}{ρ:aQ}{σ:St}{H:Hp}{i:Nat}{s:Sl}{x:V}(fr:FrOk K F ρ σ H)(v:i<ρ.length->xT K F H (some x) s)(na:cW s=true->∀a,x=.ref a->∀(j:Nat) (t:Sl),ρ[j]?=some t->cW t=true->ixv σ j≠some (.ref a)):FrOk K F (ρ.set i s) (σ.set i (some x)) H:=by
 have ne:∀j,i≠j->ixv (σ.set i (some x)) j=ixv σ j:=λj z=>by unfold ixv;rw[List.getElem?_set_ne z]
 have self:∀(h:i<ρ.length),ixv (σ.set i (some x)) i=some x:=λh=>by unfold ixv;rw[List.getElem?_set_self (by rw[<-fr.len];exact h)];rfl
 have get:∀(j:Nat) (t:Sl),(ρ.set i s)[j]?=some t->(i=j/\i<ρ.length/\t=s)\/(i≠j/\ρ[j]?=some t):=λj t e=>by
  by_cases z:i=j
  ·subst z
   have hi:i<ρ.length:=by
    have:=(List.getElem?_eq_some_iff.mp e).1
    rwa[List.length_set]at this
   rw[List.getElem?_set_self hi]at e
   exact .inl ⟨rfl,hi,(Option.some.inj e).symm⟩
  ·rw[List.getElem?_set_ne z]at e;exact .inr ⟨z,e⟩
 refine⟨fr.d0,fr.r0,fr.kp,by rw[List.length_set,List.length_set];exact fr.len,λj t e=>?_,λj k a t t' e1 e2 m1 m2 q1 q2=>?_⟩
 ·rcases get j t e with⟨rfl,hi,rfl⟩|⟨z,e⟩
  ·rw[self hi];exact v hi
  ·rw[ne j z];exact fr.at_ j t e
 ·rcases get j t e1 with⟨rfl,hi,rfl⟩|⟨z1,e1⟩
  ·rcases get k t' e2 with⟨rfl,_,rfl⟩|⟨z2,e2⟩
   ·rfl
   ·rw[self hi]at q1
    rw[ne k z2]at q2
    exact absurd q2 (na m1 a (Option.some.inj q1) k t' e2 m2)
  ·rcases get k t' e2 with⟨rfl,hi,rfl⟩|⟨z2,e2⟩
   ·rw[self hi]at q2
    rw[ne j z1]at q1
    exact absurd q1 (na m2 a (Option.some.inj q2) j t (by first|exact e1|assumption) m1)
   ·rw[ne j z1]at q1
    rw[ne k z2]at q2
    exact fr.ap j k a t t' e1 e2 m1 m2 q1 q2
def lZ(i:Nat)(u:UT):UTs:=λP ρ=>u ρ λT ρ1=>P.nx (ρ1.set i (.va T))
theorem zBq{i:Nat}{x:Str}{pos':Pos}(hN:X.N.Nodup)(hi:X.N[i]?=some x)(hx:Loc X.env.scope x)(he:UE X F e u)(hs:swapsWith e (some (.Name x pos')) pos.line X.env=pure false:=by rfl)(hf:X.fn x=true\/X.env.scope.names.lookup x=some .local:=by first|exact .inl rfl|exact .inr rfl|assumption):
  US X F (.Assign [.Name x pos'] e pos) (lZ i u):=⟨PS.imp (jC hN hi hx he.pe hs hf) λD σ H ⟨ρ,P,fr,h,k1,_⟩=>by
 refine⟨ρ,_,fr,h,λx T H' ρ' s v q=>?_⟩
 exact k1 _ _ _ (s.fr.set (s:=.va T) (λ_=>⟨x,rfl,v⟩) (λz=>absurd z Bool.false_ne_true)) (s.hs fr) q⟩
def wO(i:Nat)(u:UTl):UTs:=λP ρ=>u ρ λTs ρ1=>P.nx (ρ1.set i (.own Ts))
theorem zFH{i:Nat}{u:UTl}{t:TE}(ht:∀σ H QQ,rC X.K F u σ H QQ->t σ H QQ)(D:kR)(σ:St)(H:Hp)(h:kK X.K F (wO i u) D σ H):rL t (rE i) D σ H:=by
 obtain⟨ρ,P,fr,h,k1,_⟩:=h
 refine ht σ H _ ⟨ρ,_,fr,h,λa xs Ts H' ρ' s n e z p q=>?_⟩
 exact k1 _ _ _ (s.fr.set (s:=.own Ts) (λ_=>⟨a,xs,rfl,e,fr.none0 n,z,p⟩) (λ_ b eb j t ej mj qj=>by cases eb;exact s.notown fr n j t ej mj qj)) (s.hs fr) q
theorem zG8{i:Nat}{x:Str}{u:UTl}{pos':Pos}(hN:X.N.Nodup)(hi:X.N[i]?=some x)(hx:Loc X.env.scope x)(he:UL X F e u)(hs:swapsWith e (some (.Name x pos')) pos.line X.env=pure false:=by rfl)(hf:X.fn x=true\/X.env.scope.names.lookup x=some .local:=by first|exact .inl rfl|exact .inr rfl|assumption):
  US X F (.Assign [.Name x pos'] e pos) (wO i u):=⟨PS.imp (jC hN hi hx he.pe hs hf) (zFH λ_ _ _ h=>h)⟩
end
def zKW:Ar->Sl
 |.va T=>.va T
 |.dk=>.dk
 |.fn a=>.fn a
def fO(n:Nat)(as:List Ar):aQ:=as.map zKW++List.replicate (n-as.length) .no
theorem zFR{K:W.Frag}{H:Hp}{dk:Option (Addr×Addr)}{N:List Str}{vs:List V}{as:List Ar}(hd:∀p c,dk=some (p,c)->DeckAt H p c)(p:Paired (oQ K dk H) vs as):FrOk K ⟨H,dk,none⟩ (fO N.length as) (start N vs) H:=by
 have l:vs.length=as.length:=Paired.length p
 refine⟨hd,(λ_ _ z=>nomatch z),⟨λ_ _ e _ _=>e,hd,(λ_ _ z=>nomatch z)⟩,?_,λi s e=>?_,λi j a s t e _ m _ _ _=>?_⟩
 ·unfold fO start
  rw[List.length_append,List.length_append,List.length_map,List.length_map,List.length_replicate,List.length_replicate,l]
 ·unfold fO at e
  by_cases hi:i<as.length
  ·rw[List.getElem?_append_left (by simpa using hi),List.getElem?_map]at e
   obtain⟨r,er,rfl⟩:=Option.map_eq_some_iff.mp e
   have hv:i<vs.length:=by omega
   obtain⟨r',er',h⟩:=eZ p (List.getElem?_eq_getElem hv)
   rw[er]at er';cases er'
   have ex:ixv (start N vs) i=some vs[i]:=by
    refine zBQ ?_
    unfold start
    rw[List.getElem?_append_left (by simpa using hv),List.getElem?_map,List.getElem?_eq_getElem hv]
    rfl
   rw[ex]
   cases r with
   |va T=>exact⟨_,rfl,h⟩
   |dk=>obtain⟨p,c,e1,e2⟩:=h;exact⟨p,c,e1,by rw[e2]⟩
   |fn a=>exact congrArg some h
  ·rw[List.getElem?_append_right (by simpa using hi),List.getElem?_replicate]at e
   split at e
   ·cases e;trivial
   ·cases e
 ·unfold fO at e
  by_cases hi:i<as.length
  ·rw[List.getElem?_append_left (by simpa using hi),List.getElem?_map]at e
   obtain⟨r,er,rfl⟩:=Option.map_eq_some_iff.mp e
   cases r<;>cases m
  ·rw[List.getElem?_append_right (by simpa using hi),List.getElem?_replicate]at e
   split at e
   ·cases e;cases m
   ·cases e
theorem Has.pgood{P:Program}{w:World}{K:W.Frag}{mg:Str->Option Value}{base:Heap}{x:Str}{st:Stmt}{N ps:List Str}{k:Nat}{psp:PSp}{us:UTs}(h:Has K mg x st)(S:bM N ps (aO st))
  (hb:∀(kV doc pm:Value) (an:Option Addr) (cdv ct:Value) (us:List Value),us.length=ps.length->bindArgs (W.fnOf x x (cN st) (bR st) (aO st) .none kV doc pm an cdv ct) ⟨us,[]⟩=pure (ps.zip us))
  (hbody:∀(f:Addr) (cdv:Value) (A:Around) (outer:List Env) (s:Shared) (H:Hp) (E:XK) (F:Fm),Room k (A.deeper (envOfC x (aO st) s.heap.objs.size f cdv))->USs (eI CX0 P w K mg base N x (aO st) f cdv A outer s H E).nox F (bR st) us)
  (hp:∀as R,psp as R->as.length=ps.length/\us {nx:=λ_=>R nT,rt:=R} (fO N.length as)):aG P w K mg base (k+1) x ps psp:=by
 refine h.good S hb (λvs H Q E q=>?_) (λf cdv A outer s H vs Q E hr q=>?_)
 ·obtain⟨dk,as,R,d,p,q,_⟩:=q
  rw[Paired.length p]
  exact(hp as R q).1
 ·obtain⟨dk,as,R,d,p,q,k⟩:=q
  refine⟨_,(hbody f cdv A outer s H E ⟨H,dk,none⟩ hr).ps,fO N.length as,_,zFR d p,(hp as R q).2,λσ' H' ρ' fr _ q=>k _ _ _ fr.kp (.flat rfl) q,λx T H' _ kp _ v q=>k x T H' kp v (q.elim id False.elim),λ_ _ _ _ _ z=>z,λ_ _ _ _ _ z=>z⟩
end L2
namespace L2
open PySem PySem.Spec PyProof.Rows WordM
def kQ(K:W.Frag)(J:It)(H:Hp)(Ts:List Tv):Prop:=∀H1,HS H H1->(∀i,i<Ts.length->J.go i H1)/\(∀i x H2,i<Ts.length->J.yld i H1 x H2->Same H1 H2/\∃T,Ts[i]?=some T/\VA K H2 x T)/\J.stop Ts.length H1
def zB8(K:W.Frag)(F:Fm)(u:UTl):TI:=λσ H R=>∃ρ Q,FrOk K F ρ σ H/\u ρ Q/\∀J Ts H' ρ',Stp K F σ ρ H ρ' H'->kQ K J H' Ts->Q Ts ρ'->R J H'
structure UI (X:Cx) (F:Fm) (tg e:Expr) (u:UTl):Prop where
 pi:PI X tg e (zB8 X.K F u)
theorem PI.imp{X:Cx}{tg e:Expr}{t t':TI}(h:PI X tg e t)(i:∀σ H Q,t' σ H Q->t σ H Q):PI X tg e t':=λpins s σ H Q I q=>h pins s σ H Q I (i σ H Q q)
def ItR(X:Cx)(tg:Expr)(r:V->Hp->(It->Hp->Prop)->Prop):Prop:=∀(pins:List (Addr×Obj)) (s:Shared) (σ:St) (H:Hp) (x:V) (v:Value) (R:It->Hp->Prop),Inv X pins σ H s->RelV x v->r x H R->wpAny (model X.prog X.w) X.A (pyIter v) (PIE X pins σ tg R) X.xe s
section
variable{X:Cx}{F:Fm}{tg e:Expr}
theorem ItR.or{r r':V->Hp->(It->Hp->Prop)->Prop}(h:ItR X tg r)(h':ItR X tg r'):ItR X tg (λx H R=>r x H R\/r' x H R):=λpins s σ H x v R I rx q=>by
 rcases q with q|q
 ·exact h pins s σ H x v R I rx q
 ·exact h' pins s σ H x v R I rx q
theorem nP{pins:List (Addr×Obj)}{σ:St}{H:Hp}{s:Shared}(I:Inv X pins σ H s):∀b∈[s.heap.objs.size],eY X pins H b:=λb hb=>by
 rw[List.mem_singleton.mp hb]
 exact I.fpOk (Nat.le_refl _) (I.hok.fresh (Nat.le_refl _))
theorem it_list:ItR X tg (λx H R=>∃a xs,x=.ref a/\SqL X.K H a xs/\R (Itl X.K a) H):=by
 rintro pins s σ H _ v R I r ⟨a,xs,rfl,hq,q⟩
 cases r
 obtain⟨its,rv,p,hz⟩:=I.list hq
 exact wpAny_pyIter_list p.isList ⟨_,[s.heap.objs.size],_,_,H,rfl,I.kept (t':=s.toks) λb o=>Heap.get?_push_of_some _,zEe a _,⟨_,Heap.get?_push_size _ rfl,rfl,rfl⟩,nP I,q⟩
theorem it_tup:ItR X tg (λx H R=>∃a xs,x=.ref a/\SqT X.K H a xs/\R (Itt X.K a) H):=by
 rintro pins s σ H _ v R I r ⟨a,xs,rfl,hq,q⟩
 cases r
 obtain⟨its,rv,p,hz⟩:=I.tuple hq
 exact wpAny_pyIter_tuple (show s.heap.IsTuple a its.toArray from p) ⟨_,[s.heap.objs.size],_,_,H,rfl,I.kept (t':=s.toks) λb o=>Heap.get?_push_of_some _,zDF a _,⟨_,Heap.get?_push_size _ rfl,rfl,rfl⟩,nP I,q⟩
theorem it_str:ItR X tg (λx H R=>∃z,x=.str z/\R (Its z) H):=by
 rintro pins s σ H _ v R I r ⟨z,rfl,q⟩
 obtain⟨t,rfl⟩:=r
 cases ha:z.cps.all (· < 128) with
 |true=>exact wpAny_pyIter_ascii ha ⟨_,[s.heap.objs.size],_,_,H,rfl,I.kept (t':=s.toks) λb o=>Heap.get?_push_of_some _,zEd _ z t,⟨_,Heap.get?_push_size _ rfl,rfl,rfl⟩,nP I,q⟩
 |false=>exact wpAny_pyIter_wide ha ⟨_,[s.heap.objs.size],_,_,H,rfl,I.kept (t':=s.toks) λb o=>Heap.get?_push_of_some _,zEc _ z t,⟨_,Heap.get?_push_size _ rfl,rfl,rfl⟩,nP I,q⟩
theorem zGR:ItR X tg (λx H R=>∃a ob kvs,x=.ref a/\FzD H a ob kvs/\R (ItD a ob kvs) H):=by
 rintro pins s σ H _ v R I r ⟨a,ob,kvs,rfl,hz,q⟩
 cases r
 obtain⟨e,hs,hl,vs,es,ep,r,dd,hd⟩:=qA I hz
 exact wpAny_pyIter_dict hs dd ⟨_,[s.heap.objs.size],_,_,H,rfl,I.kept (t':=s.toks) λb o=>Heap.get?_push_of_some _,zEg (a:=a) (ob:=ob) (kvs:=kvs) hd,⟨_,Heap.get?_push_size _ rfl,rfl,by rw[<-nL r];rfl⟩,nP I,q⟩
def pIt:Tv->(List Tv->Prop)->Prop
 |.seq _ Ts,Q=>Q Ts
 |.leaf (.str z),Q=>Q (z.cps.toList.map λc=>sT ⟨#[c]⟩)
 |.dct kts,Q=>Q (kts.map λkt=>sT kt.1)
 |_,_=>False
theorem cO{K:W.Frag}{H:Hp}{a:Addr}{xs:List V}(h:PSeq K H false a xs):SqL K H a xs:=by
 obtain⟨ob,h⟩:=h
 exact .inl (.inr ⟨ob,h⟩)
theorem zGS{K:W.Frag}{H:Hp}{a:Addr}{xs:List V}{Ts:List Tv}(h:PSeq K H false a xs)(p:VAs K H xs Ts):kQ K (Itl K a) H Ts:=λH1 hs=>by
 have l:xs.length=Ts.length:=Paired.length p
 have q:=cO (h.hs hs)
 refine⟨λi hi=>⟨xs,xs[i]'(by omega),q,List.getElem?_eq_getElem _⟩,λi x H2 hi ⟨e,y⟩=>?_,⟨xs,q,by omega⟩⟩
 subst e
 obtain⟨T,eT,v⟩:=eZ (p.hs hs) (y xs q)
 exact⟨Same.refl _,T,eT,v⟩
theorem zIr{K:W.Frag}{H:Hp}{a:Addr}{xs:List V}{Ts:List Tv}(h:PSeq K H true a xs)(p:VAs K H xs Ts):kQ K (Itt K a) H Ts:=λH1 hs=>by
 have l:xs.length=Ts.length:=Paired.length p
 have q:SqT K H1 a xs:=h.hs hs
 refine⟨λi hi=>⟨xs,xs[i]'(by omega),q,List.getElem?_eq_getElem _⟩,λi x H2 hi ⟨e,y⟩=>?_,⟨xs,q,by omega⟩⟩
 subst e
 obtain⟨T,eT,v⟩:=eZ (p.hs hs) (y xs q)
 exact⟨Same.refl _,T,eT,v⟩
theorem zIs{K:W.Frag}{H:Hp}{z:Str}:kQ K (Its z) H (z.cps.toList.map λc=>sT ⟨#[c]⟩):=λH1 hs=>by
 refine⟨λi hi=>(show i<z.cps.size by simpa using hi),λi x H2 hi ⟨e,c,ec,ex⟩=>?_,by simp[Its]⟩
 subst e ex
 refine⟨Same.refl _,sT ⟨#[c]⟩,?_,.flat rfl⟩
 rw[List.getElem?_map,Array.getElem?_toList,ec]
 rfl
theorem zGU{K:W.Frag}{H:Hp}{a:Addr}{ob:Obj}{kvs:List (Key×V)}{kts:List (Str×Tv)}(h:FzD H a ob kvs)(p:VAk K H kvs kts):kQ K (ItD a ob kvs) H (kts.map λkt=>sT kt.1):=λH1 hs=>by
 have l:kvs.length=kts.length:=Paired.length p
 have q:FzD H1 a ob kvs:=hs _ _ rfl h
 refine⟨λi hi=>⟨q,by rw[List.length_map]at hi;omega⟩,λi x H2 hi ⟨e,k,v,ek,ex⟩=>?_,⟨q,by rw[List.length_map];omega⟩⟩
 subst e ex
 obtain⟨kt,ekt,e1,_⟩:=eZ p ek
 refine⟨Same.refl _,sT kt.1,by rw[List.getElem?_map,ekt];rfl,?_⟩
 have e1:k=.inr kt.1:=e1
 rw[e1]
 exact .flat rfl
def uIt(u:UT):UTl:=λρ Q=>u ρ λT ρ1=>pIt T λTs=>Q Ts ρ1
theorem cQ{u:UT}(h:UE X F e u):UI X F tg e (uIt u):=⟨λpins s σ H R I ⟨ρ,Q,fr,hu,k⟩=>by
 have IT:ItR X tg _:=it_list.or (it_tup.or (it_str.or zGR))
 refine thn (h.pe pins s σ H (λx H1=>_) I ⟨ρ,_,fr,hu,λx T H' ρ' s v q=>?_⟩) λv s1 ⟨x,H1,I1,r1,q1⟩=>IT pins s1 σ H1 x v R I1 r1 q1
 unfold pIt at q
 split at q
 ·rename_i t Ts
  obtain⟨a,xs,rfl,hs,z,p⟩:=v.seqI
  cases t with
  |false=>exact .inl ⟨a,xs,rfl,cO hs,k _ _ _ _ s (zGS hs p) q⟩
  |true=>exact .inr (.inl ⟨a,xs,rfl,hs,k _ _ _ _ s (zIr hs p) q⟩)
 ·obtain⟨rfl,_⟩:=v.leafI
  exact .inr (.inr (.inl ⟨_,rfl,k _ _ _ _ s zIs q⟩))
 ·obtain⟨a,kvs,rfl,⟨ob,hd⟩,n,z,p⟩:=v.dctI
  exact .inr (.inr (.inr ⟨a,ob,kvs,rfl,hd,k _ _ _ _ s (zGU hd p) q⟩))
 ·exact False.elim q⟩
def fK(lo:Int)(n:Nat):List Tv:=(List.range n).map λ(i:Nat)=>iT (lo+i)
theorem gH(lo:Int)(n:Nat):(fK lo n).length=n:=by simp[fK]
theorem jW{lo:Int}{n i:Nat}{T:Tv}(h:(fK lo n)[i]?=some T):i<n/\T=iT (lo+i):=by
 have l:=(List.getElem?_eq_some_iff.mp h).1
 rw[gH]at l
 refine⟨l,?_⟩
 simp only[fK,List.getElem?_map,List.getElem?_range l]at h
 exact(Option.some.inj h).symm
theorem zFL{K:W.Frag}{H:Hp}{lo:Int}{n:Nat}:kQ K (Itr lo n) H (fK lo n):=λH1 hs=>by
 have l:(fK lo n).length=n:=by simp[fK]
 refine⟨λi hi=>by rw[l]at hi;exact hi,λi x H2 hi ⟨e,ex⟩=>?_,by rw[l];exact Nat.le_refl _⟩
 subst e ex
 rw[l]at hi
 exact⟨Same.refl _,iT (lo+i),by simp[fK,hi],.flat rfl⟩
def zIH(ua:UTa):UTl:=λρ Q=>uVs ua ρ λTs ρ1=>∃j:Int,Ts=[iT j] /\ -(2 ^ 62)<=j/\j<2 ^ 62/\Q (fK 0 j.toNat) ρ1
theorem iB{a:Expr}{ua:UTa}{p pos:Pos}(hg:Gl X "range")(hm:X.mg "range"=none)(ha:UA X F [a] ua)(hs:starEach [a] X.env=[(false,eval a X.env)]:=by rfl):UI X F tg (.Call (.Name "range" p) [a] [] pos) (zIH ua):=⟨PI.imp (zEw hg hm ha.pa hs) λσ H R ⟨ρ,Q,fr,hu,k⟩=>by
 refine⟨ρ,_,fr,hu,λxs as H1 ρ1 s1 p1 q1=>?_⟩
 obtain⟨Ts,rfl,j,rfl,h1,h2,q⟩:=iF q1
 cases iG p1 with
 |cons v t=>
  cases t
  obtain⟨rfl,_⟩:=v.leafI
  exact⟨j,rfl,h1,h2,k _ _ _ _ s1 zFL q⟩⟩
theorem zGT{K:W.Frag}{H:Hp}{a:Addr}{xs:List V}{Ts:List Tv}(h:PSeq K H false a xs)(p:VAs K H xs Ts):kQ K (ItE K a) H (Ts.mapIdx λi T=>.seq true [iT (i:Nat),T]):=λH1 hs=>by
 have l:xs.length=Ts.length:=Paired.length p
 have q:=cO (h.hs hs)
 refine⟨λi hi=>⟨xs,xs[i]'(by simpa[l]using hi),q,List.getElem?_eq_getElem _⟩,λi x H2 hi ⟨b,y,ex,nb,e,hy⟩=>?_,⟨xs,q,by simp[l]⟩⟩
 subst e ex
 obtain⟨T,eT,v⟩:=eZ (p.hs hs) (hy xs q)
 refine⟨fA nb,.seq true [iT (i:Nat),T],by rw[List.getElem?_mapIdx,eT];rfl,VA.seq (t:=true) (SqT.of bF) (show 2<=100000 by decide) (.cons (.flat rfl) (.cons (v.hs (lL nb)) .nil))⟩
def zIK(ua:UTa):UTl:=λρ Q=>uVs ua ρ λTs ρ1=>∃Us,Ts=[.seq false Us]/\Q (Us.mapIdx λi T=>.seq true [iT (i:Nat),T]) ρ1
theorem zF5{a:Expr}{ua:UTa}{es:List Expr}{ek:Nat}{p pos pos':Pos}(hg:Gl X "enumerate")(hm:X.mg "enumerate"=none)(ha:UA X F [a] ua)(hs:starEach [a] X.env=[(false,eval a X.env)]:=by rfl):UI X F (.Tuple es ek pos') (.Call (.Name "enumerate" p) [a] [] pos) (zIK ua):=⟨PI.imp (zGu hg hm ha.pa hs) λσ H R ⟨ρ,Q,fr,hu,k⟩=>by
 refine⟨ρ,_,fr,hu,λxs as H1 ρ1 s1 p1 q1=>?_⟩
 obtain⟨Ts,rfl,Us,rfl,q⟩:=iF q1
 cases iG p1 with
 |cons v t=>
  cases t
  obtain⟨a,xs,rfl,hq,z,p⟩:=v.seqI
  exact⟨a,rfl,⟨xs,cO hq⟩,k _ _ _ _ s1 (zGT hq p) q⟩⟩
end
abbrev UG:=Tv->aQ->(aQ->Prop)->Prop
abbrev UGs:=List Tv->aQ->(aQ->Prop)->Prop
def zB9(K:W.Frag)(F:Fm)(m:Nat)(g:UG):TG:=λv σ H QQ=>∃T ρ Q,VA K H v T/\FrOk K F ρ σ H/\g T ρ Q/\∀σ' ρ',FrOk K F ρ' σ' H->σ'.length=σ.length->σ'.drop m=σ.drop m->ρ'.drop m=ρ.drop m->Sbv ρ' ρ->Q ρ'->QQ σ' H
def zIl(K:W.Frag)(F:Fm)(m:Nat)(g:UGs):TGs:=λvs σ H QQ=>∃Ts ρ Q,VAs K H vs Ts/\FrOk K F ρ σ H/\g Ts ρ Q/\∀σ' ρ',FrOk K F ρ' σ' H->σ'.length=σ.length->σ'.drop m=σ.drop m->ρ'.drop m=ρ.drop m->Sbv ρ' ρ->Q ρ'->QQ σ' H
structure UGt (X:Cx) (F:Fm) (m:Nat) (tg:Expr) (g:UG):Prop where
 pg:PG X tg (zB9 X.K F m g)
structure sJ (X:Cx) (F:Fm) (m:Nat) (tgs:List Expr) (g:UGs):Prop where
 pg:PGs X tgs (zIl X.K F m g)
theorem PG.imp{X:Cx}{tg:Expr}{t t':TG}(h:PG X tg t)(i:∀v σ H Q,t' v σ H Q->t v σ H Q):PG X tg t':=λpins s σ H v u Q I r q=>h pins s σ H v u Q I r (i v σ H Q q)
theorem PGs.imp{X:Cx}{tg:List Expr}{t t':TGs}(h:PGs X tg t)(i:∀v σ H Q,t' v σ H Q->t v σ H Q):PGs X tg t':=λpins s σ H v u Q I r q=>h pins s σ H v u Q I r (i v σ H Q q)
section
variable{X:Cx}{F:Fm}{pos:Pos}{m:Nat}
def gN(i:Nat):UG:=λT ρ Q=>Q (ρ.set i (.va T))
theorem drop_set{α:Type}{l:List α}{i m:Nat}{x:α}(h:i<m):(l.set i x).drop m=l.drop m:=by
 rw[List.drop_set,if_pos h]
theorem zGh{ρ:aQ}{i:Nat}{T:Tv}:Sbv (ρ.set i (.va T)) ρ:=λj s e mm=>by
 by_cases z:i=j
 ·subst z
  have hi:i<ρ.length:=by
   have:=(List.getElem?_eq_some_iff.mp e).1
   rwa[List.length_set]at this
  rw[List.getElem?_set_self hi]at e
  cases e;cases mm
 ·rw[List.getElem?_set_ne z]at e;exact⟨s,e,mm⟩
theorem dZ(i:Nat){x:Str}(hm:i<m)(hN:X.N.Nodup)(hi:X.N[i]?=some x)(hx:Loc X.env.scope x)(hf:X.fn x=true\/X.env.scope.names.lookup x=some .local:=by first|exact .inl rfl|exact .inr rfl|assumption):UGt X F m (.Name x pos) (gN i):=⟨PG.imp (zGw hN hi hx hf) λv σ H QQ ⟨T,ρ,Q,vv,fr,h,k⟩=>
 k _ _ (fr.set (s:=.va T) (λ_=>⟨v,rfl,vv⟩) (λz=>absurd z Bool.false_ne_true)) List.length_set (drop_set hm) (drop_set hm) zGh h⟩
def gT(n:Nat)(g:UGs):UG:=λT ρ Q=>∃Ts,T=.seq true Ts/\Ts.length=n/\g Ts ρ Q
def gNl:UGs:=λTs ρ Q=>Ts=[]/\Q ρ
def gCn(g:UG)(gs:UGs):UGs:=λTs ρ Q=>∃T r,Ts=T::r/\g T ρ λρ1=>gs r ρ1 Q
theorem zAG:sJ X F m [] gNl:=⟨PGs.imp zGv λvs σ H QQ ⟨Ts,ρ,Q,vv,fr,⟨e,h⟩,k⟩=>by
 subst e
 cases vv
 exact⟨rfl,k _ _ fr rfl rfl rfl (Sbv.refl _) h⟩⟩
theorem mL{e:Expr}{es:List Expr}{g:UG}{gs:UGs}(h1:UGt X F m e g)(h2:sJ X F m es gs)(hs:(assignEach (e::es) X.env).map (·.2)=assign e X.env::(assignEach es X.env).map (·.2):=by rfl):sJ X F m (e::es) (gCn g gs):=⟨PGs.imp (zFm h1.pg h2.pg hs) λvs σ H QQ ⟨Ts,ρ,Q,vv,fr,⟨T,r,e,h⟩,k⟩=>by
 subst e
 cases vv with
 |cons v vs'=>
  refine⟨_,_,rfl,T,ρ,_,v,fr,h,λσ' ρ' f' l d dr sb q=>⟨r,ρ',Q,vs',f',q,λσ2 ρ2 f2 l2 d2 dr2 sb2 q2=>?_⟩⟩
  exact k _ _ f2 (l2.trans l) (d2.trans d) (dr2.trans dr) (sb.trans sb2) q2⟩
theorem zBs{es:List Expr}{k:Nat}{g:UGs}(n:Nat)(hc:X.calm=true)(h:sJ X F m es g)(hn:(assignEach es X.env).length=n:=by rfl)(hst:(assignEach es X.env).findIdx? (·.1)=none:=by rfl):UGt X F m (.Tuple es k pos) (gT n g):=⟨PG.imp (zHL hc h.pg hn hst) λv σ H QQ ⟨T,ρ,Q,vv,fr,⟨Ts,e,el,h⟩,k⟩=>by
 subst e
 obtain⟨a,xs,rfl,hq,z,p⟩:=vv.seqI
 exact⟨a,xs,rfl,hq,(Paired.length p).trans el,Ts,ρ,Q,p,fr,h,k⟩⟩
end
def blk(own:Nat)(fr:List Nat)(ρ:aQ):aQ:=List.replicate own .no++fr.map λi=>ρ.getD i .no
def mS:List Nat->List Sl->aQ->aQ
 |i::fr,s::ss,ρ=>mS fr ss (ρ.set i s)
 |_,_,ρ=>ρ
def bck(own:Nat)(fr:List Nat)(ρ ρ':aQ):aQ:=mS fr (ρ'.drop own) ρ
def eX(own:Nat)(fr:List Nat)(g:UG)(tf:UTt)(ue:UT):List Tv->aQ->(List Tv->aQ->Prop)->Prop
 |[],ρ,Q=>Q [] ρ
 |T::Ts,ρ,Q=>g T (blk own fr ρ) λρ1=>tf ρ1 λb ρ2=>if b=true then ue ρ2 λU ρ3=>eX own fr g tf ue Ts (bck own fr ρ ρ3) λUs ρ4=>Q (U::Us) ρ4 else eX own fr g tf ue Ts (bck own fr ρ ρ2) Q
def lQ(own:Nat)(fr:List Nat)(ui:UTl)(g:UG)(tf:UTt)(ue:UT):UTl:=λρ Q=>ui ρ λTs ρ1=>Ts.length<=100000/\eX own fr g tf ue Ts ρ1 Q
theorem yE:∀(fr:List Nat) (ss:List Sl) (ρ:aQ),(mS fr ss ρ).length=ρ.length
 |[],_,_=>rfl
 |_::_,[],_=>rfl
 |i::fr,s::ss,ρ=>by show(mS fr ss _).length=_;rw[yE fr ss,List.length_set]
theorem sP:∀(fr:List Nat) (ss:List Sl) (ρ:aQ) (i:Nat) (s:Sl),fr.length<=ss.length->(mS fr ss ρ)[i]?=some s->(∃j:Nat,fr[j]?=some i/\ss[j]?=some s)\/(i∉fr/\ρ[i]?=some s)
 |[],_,_,i,s,_,h=>.inr ⟨by simp,h⟩
 |_::_,[],_,_,_,l,_=>by simp at l
 |i0::fr,s0::ss,ρ,i,s,l,h=>by
  rcases sP fr ss (ρ.set i0 s0) i s (by simpa using l) h with⟨j,e1,e2⟩|⟨n,e⟩
  ·exact .inl ⟨j+1,by simpa using e1,by simpa using e2⟩
  ·by_cases z:i0=i
   ·subst z
    have hi:i0<ρ.length:=by
     have:=(List.getElem?_eq_some_iff.mp e).1
     rwa[List.length_set]at this
    rw[List.getElem?_set_self hi]at e
    exact .inl ⟨0,rfl,by simpa using e⟩
   ·rw[List.getElem?_set_ne z]at e
    exact .inr ⟨by simp[n,Ne.symm z],e⟩
theorem pC{own:Nat}{fr:List Nat}{σ ow:St}(ho:ow.length=own){j i:Nat}(h:fr[j]?=some i):ixv (ow++σf fr σ) (own+j)=ixv σ i:=by
 unfold ixv σf
 rw[List.getElem?_append_right (by omega),show own+j-ow.length=j by omega,List.getElem?_map,h]
 show(some (σ.getD i none)).join=_
 rw[List.getD_eq_getElem?_getD]
 cases σ[i]? with
 |none=>rfl
 |some o=>rfl
section
variable{K:W.Frag}{F:Fm}{ρ ρ4 ρ6:aQ}{σ ow:St}{H H6:Hp}{own:Nat}{fr:List Nat}
theorem lB{i:Nat}{s:Sl}(h:(blk own fr ρ)[i]?=some s):(i<own/\s=.no)\/∃j k,i=own+j/\fr[j]?=some k/\s=ρ.getD k .no:=by
 unfold blk at h
 by_cases hi:i<own
 ·rw[List.getElem?_append_left (by simpa using hi),List.getElem?_replicate,if_pos hi]at h
  exact .inl ⟨hi,(Option.some.inj h).symm⟩
 ·rw[List.getElem?_append_right (by simpa using hi),List.length_replicate,List.getElem?_map]at h
  obtain⟨k,e,rfl⟩:=Option.map_eq_some_iff.mp h
  exact .inr ⟨i-own,k,by omega,e,rfl⟩
theorem kY{k:Nat}{s:Sl}(e:s=ρ.getD k .no)(m:s≠.no):ρ[k]?=some s:=by
 rw[List.getD_eq_getElem?_getD]at e
 cases q:ρ[k]? with
 |none=>rw[q]at e;exact absurd e m
 |some t=>rw[q]at e;rw[e];rfl
theorem FrOk.pick(f:FrOk K F ρ σ H)(nd:fr.Nodup):FrOk K F (blk own fr ρ) (σc own fr σ) H:=by
 have val:∀{j k:Nat},fr[j]?=some k->ixv (σc own fr σ) (own+j)=ixv σ k:=λh=>pC (List.length_replicate) h
 refine⟨f.d0,f.r0,f.kp,?_,λi s e=>?_,λi i' a s t e e' m m' q q'=>?_⟩
 ·unfold blk σc σf
  simp
 ·rcases lB e with⟨_,rfl⟩|⟨j,k,rfl,ek,es⟩
  ·trivial
  ·rw[val ek]
   cases s with
   |no=>trivial
   |_=>exact f.at_ k _ (kY es (λz=>by cases z))
 ·rcases lB e with⟨_,rfl⟩|⟨j,k,rfl,ek,es⟩
  ·cases m
  ·rcases lB e' with⟨_,rfl⟩|⟨j',k',rfl,ek',es'⟩
   ·cases m'
   ·rw[val ek]at q
    rw[val ek']at q'
    have:=f.ap k k' a s t (kY es (λz=>by rw[z]at m;cases m)) (kY es' (λz=>by rw[z]at m';cases m')) m m' q q'
    subst this
    have h1:=(List.getElem?_eq_some_iff.mp ek).1
    rw[(List.getElem?_inj h1 nd).mp (ek.trans ek'.symm)]
theorem Stp.back(f:FrOk K F ρ σ H)(nd:fr.Nodup)(s:Stp K F (ow++σf fr σ) ρ4 H ρ6 H6)(f4:FrOk K F ρ4 (ow++σf fr σ) H)(ho:ow.length=own)(hd:ρ4.drop own=(blk own fr ρ).drop own)(sb:Sbv ρ4 (blk own fr ρ)):Stp K F σ ρ H (bck own fr ρ ρ6) H6:=by
 -- a slot of the block that is one's own is the def's own
 have dm:∀(i:Nat) (t:Sl) (a:Addr),ρ4[i]?=some t->cW t=true->ixv (ow++σf fr σ) i=some (.ref a)->∃k u,k∈fr/\ρ[k]?=some u/\cW u=true/\ixv σ k=some (.ref a):=λi t a e m q=>by
  obtain⟨u,eu,mu⟩:=sb i t e m
  rcases lB eu with⟨_,rfl⟩|⟨j,k,rfl,ek,es⟩
  ·cases mu
  ·exact⟨k,u,List.mem_of_getElem? ek,kY es (λz=>by rw[z]at mu;cases mu),mu,by rw[<-pC ho ek];exact q⟩
 have st:Stay F ρ σ H H6:=λb o e d n=>s.st b o e d λi t e1 m q=>by
  obtain⟨k,u,_,eu,mu,qu⟩:=dm i t b e1 m q
  exact n k u eu mu qu
 have l6:fr.length<=(ρ6.drop own).length:=by
  have:=s.fr.len
  rw[List.length_append]at this
  rw[List.length_drop,this,ho]
  unfold σf
  rw[List.length_map]
  omega
 have sub:Sbv (bck own fr ρ ρ6) ρ:=λi t e m=>by
  rcases sP fr _ ρ i t l6 e with⟨j,ej,et⟩|⟨_,e⟩
  ·rw[List.getElem?_drop]at et
   obtain⟨u,eu,mu⟩:=s.sub _ t et m
   have:(ρ4.drop own)[j]?=some u:=by rw[List.getElem?_drop];exact eu
   rw[hd,List.getElem?_drop]at this
   rcases lB this with⟨z,_⟩|⟨j',k,ejj,ek,es⟩
   ·omega
   ·have:j'=j:=by omega
    subst this
    rw[ej]at ek;cases ek
    exact⟨u,kY es (λz=>by rw[z]at mu;cases mu),mu⟩
  ·exact⟨t,e,m⟩
 have hs:HS H H6:=s.hs f4
 refine⟨⟨f.d0,f.r0,s.fr.kp,by unfold bck;rw[yE];exact f.len,λi t e=>?_,λi i' a t t' e e' m m' q q'=>?_⟩,st,sub,s.tr⟩
 ·rcases sP fr _ ρ i t l6 e with⟨j,ej,et⟩|⟨ni,e⟩
  ·rw[List.getElem?_drop]at et
   have:=s.fr.at_ _ t et
   rwa[pC ho ej]at this
  ·have h:=f.at_ i t e
   have keep:∀a o,cW t=true->ixv σ i=some (.ref a)->H a=some o->H6 a=some o:=λa o m q e1=>s.st a o e1 (f.mut_nodk e m q) λi' t' e2 m2 q2=>by
    obtain⟨k,u,hk,eu,mu,qu⟩:=dm i' t' a e2 m2 q2
    have:=f.ap k i a u t eu e mu m qu q
    subst this
    exact ni hk
   cases t with
   |no=>trivial
   |va T=>obtain⟨y,e1,v⟩:=h;exact⟨y,e1,v.hs hs⟩
   |own Ts=>obtain⟨a,xs,e1,e2,e3,z,p⟩:=h;exact⟨a,xs,e1,keep a _ rfl e1 e2,e3,z,p.hs hs⟩
   |dct kts=>obtain⟨a,kvs,e1,e2,e3,n,z,p⟩:=h;exact⟨a,kvs,e1,keep a _ rfl e1 e2,e3,n,z,p.hs hs⟩
   |dk=>exact h
   |fn _=>exact h
   |rd t' p=>obtain⟨a,C,e1,e2,dx,e3⟩:=h;exact⟨a,C,e1,e2,dx,keep a _ rfl e2 e3⟩
 ·obtain⟨u,eu,mu⟩:=sub i t e m
  obtain⟨u',eu',mu'⟩:=sub i' t' e' m'
  exact f.ap i i' a u u' eu eu' mu mu' q q'
end
theorem zI{K:W.Frag}{F:Fm}{own:Nat}{fr:List Nat}{ui:UTl}{g:UG}{tf:UTt}{ue:UT}(nd:fr.Nodup)(σ:St)(H:Hp)(QQ:VK)(h:rC K F (lQ own fr ui g tf ue) σ H QQ):vV own fr (zB8 K F ui) (zB9 K F own g) (rB K F tf) (eE K F ue) σ H QQ:=by
 obtain⟨ρ,Q,f,h,k⟩:=h
 refine⟨ρ,_,f,h,λJ Ts H1 ρ1 s1 it q1 a na=>?_⟩
 obtain⟨len,q1⟩:=q1
 refine⟨Ts.length,λi ys H2=>∃Us ρi,Stp K F σ ρ1 H1 ρi H2/\VAs K H2 ys Us/\Us.length<=i/\eX own fr g tf ue (Ts.drop i) ρi (λVs ρ'=>Q (Us++Vs) ρ'),⟨[],ρ1,Stp.same s1.fr (fA na),.nil,Nat.le_refl _,q1⟩,?_⟩
 rintro i ys H2 hi ha ⟨Us,ρi,si,p,hl,q⟩
 have hs1:=si.hs s1.fr
 obtain⟨go,yld,stop⟩:=it H2 hs1
 by_cases hlt:i<Ts.length
 ·refine .inr ⟨hlt,go i hlt,λx H3 hy=>?_⟩
  obtain⟨sm,T,eT,vx⟩:=yld i x H3 hlt hy
  have s3:=si.trans (Stp.same si.fr sm)
  have ha3:=sm _ _ ha
  have ed:Ts.drop i=T::Ts.drop (i+1):=by
   rw[List.drop_eq_getElem_cons hlt]
   congr 1
   rw[List.getElem?_eq_getElem hlt]at eT
   exact Option.some.inj eT
  rw[ed]at q
  have nodk:=s1.fr.none_nodk na
  have nown:=s3.notown s1.fr na
  refine⟨T,blk own fr ρi,_,vx,s3.fr.pick nd,q,λσ4 ρ4 f4 l4 d4 dr4 sb4 q4=>?_⟩
  have e4:σ4=σ4.take own++σf fr σ:=by
   have:σ4.drop own=σf fr σ:=by
    rw[d4]
    unfold σc
    rw[List.drop_append_of_le_length (by simp),List.drop_of_length_le (by simp),List.nil_append]
   rw[<-this,List.take_append_drop]
  have lo:(σ4.take own).length=own:=by
   rw[List.length_take,l4]
   unfold σc
   simp
  have notin:∀(j:Nat) (t:Sl),ρ4[j]?=some t->cW t=true->ixv σ4 j≠some (.ref a):=λj t e m z=>by
   obtain⟨u,eu,mu⟩:=sb4 j t e m
   rcases lB eu with⟨_,rfl⟩|⟨j',k,rfl,ek,es⟩
   ·cases mu
   ·rw[e4,pC lo ek]at z
    exact nown k u (kY es (λz=>by rw[z]at mu;cases mu)) mu z
  refine⟨⟨σ4.take own,lo,e4⟩,ρ4,_,f4,q4,λb H5 ρ5 s5 q5=>?_⟩
  have a5:H5 a=some (.lst ys):=s5.st a _ ha3 nodk notin
  cases b with
  |true=>
   refine aN ?_
   rw[if_pos rfl]at q5
   refine⟨ρ5,_,s5.fr,q5,λy U H6 ρ6 s6 v6 q6=>?_⟩
   have s46:=s5.trans s6
   have a6:H6 a=some (.lst ys):=s46.st a _ ha3 nodk notin
   have lys:ys.length=Us.length:=Paired.length p
   refine⟨a6,zBc (by omega),Us++[U],bck own fr ρi ρ6,?_,?_,by rw[List.length_append,List.length_singleton];omega,?_⟩
   ·rw[e4]at s46 f4
    exact(s3.trans (Stp.back s3.fr nd s46 f4 lo dr4 sb4)).put s1.fr na a6 rfl _
   ·have h36:=s46.hs f4
    exact VAs.hs (gA a6 rfl) (Paired.snoc ((p.hs sm.hs).hs h36) v6)
   ·simpa using q6
  |false=>
   refine aX ?_
   rw[if_neg Bool.false_ne_true]at q5
   refine⟨a5,Us,bck own fr ρi ρ5,?_,?_,by omega,q5⟩
   ·rw[e4]at s5 f4
    exact s3.trans (Stp.back s3.fr nd s5 f4 lo dr4 sb4)
   ·exact(p.hs sm.hs).hs (s5.hs f4)
 ·have e:i=Ts.length:=by omega
  subst e
  rw[List.drop_length]at q
  have q:Q (Us++[]) ρi:=q
  rw[List.append_nil]at q
  exact .inl ⟨stop,k a ys Us H2 ρi (s1.trans si) (s1.non na) ha (by omega) p q⟩
section
variable{X:Cx}{F:Fm}{sc:Scope}{XN N:List Str}{own:Nat}{fr:List Nat}{scope:Scope}{elt tg iter:Expr}{ifs:List Expr}{pos:Pos}{ui:UTl}{g:UG}{tf:UTt}{ue:UT}
structure UF (X:Cx) (F:Fm) (ifs:List Expr) (u:UTt):Prop where
 pf:PFs X ifs (rB X.K F u)
def zCl:UTt:=λρ Q=>Q true ρ
theorem qG:UF X F [] zCl:=⟨λpins s σ H Q I ⟨ρ,Q',f,h,k⟩=>zHO pins s σ H Q I (k _ _ _ (Stp.refl f) h)⟩
theorem uU{c:Expr}{t:UTt}(h:UB X F c t):UF X F [c] t:=⟨zHN h.pt⟩
theorem zAF(hc:X.calm=true)(S:kU sc XN N own fr scope)(nd:fr.Nodup)(hi:UI X F tg iter ui)
  (hg:∀cl C fp s H,UGt (cD X N scope cl C fp s H) F own tg g) (hf:∀cl C fp s H,UF (cD X N scope cl C fp s H) F ifs tf) (he:∀cl C fp s H,UE (cD X N scope cl C fp s H) F elt ue)
  (hs:∀x,foldedSetIterable iter X.env x=pure x:=by intro _;rfl) (hsc:X.env.scope=sc:=by rfl) (hxn:X.N=XN:=by rfl):UL X F (.ListComp elt [⟨tg,iter,ifs,0⟩] scope pos) (lQ own fr ui g tf ue):=
 ⟨PE.imp (zGz hc S hi.pi (λcl C fp s H=>(hg cl C fp s H).pg) (λcl C fp s H=>(hf cl C fp s H).pf) (λcl C fp s H=>(he cl C fp s H).pe) hs hsc hxn) (zI nd)⟩
theorem PS.fz{st:Stmt}{t:TS}(h:PS X st t):PS X st (λD σ H=>t {D with nx:=λσ' H'=>D.nx σ' H'\/∃a o,H' a=some o/\fzb o=true/\∀ob,D.nx σ' (upd H' a (.frz ob o))} σ H):=λpins s σ H D I q=>thn (h pins s σ H _ I q) λfl s' z=>by
 cases fl with
 |next=>
  obtain⟨σ',H',I',q⟩:=z
  rcases q with q|⟨a,o,e,n,q⟩
  ·exact⟨σ',H',I',q⟩
  ·obtain⟨ob,I2⟩:=I'.fz e n
   exact⟨σ',_,I2,q ob⟩
 |brk=>exact z
 |cont=>exact z
 |ret u=>exact z
theorem zF3{i:Nat}{x:Str}{pos' spos:Pos}(hc:X.calm=true)(hN:X.N.Nodup)(hx:X.N[i]?=some x)(hl:Loc X.env.scope x)(S:kU sc XN N own fr scope)(nd:fr.Nodup)(hi:UI X F tg iter ui)
  (hg:∀cl C fp s H,UGt (cD X N scope cl C fp s H) F own tg g) (hf:∀cl C fp s H,UF (cD X N scope cl C fp s H) F ifs tf) (he:∀cl C fp s H,UE (cD X N scope cl C fp s H) F elt ue)
  (hsw:swapsWith (.ListComp elt [⟨tg,iter,ifs,0⟩] scope pos) (some (.Name x pos')) spos.line X.env=pure true:=by rfl)
  (hf':X.fn x=true\/X.env.scope.names.lookup x=some .local:=by first|exact .inl rfl|exact .inr rfl|assumption)
  (hs:∀x,foldedSetIterable iter X.env x=pure x:=by intro _;rfl) (hsc:X.env.scope=sc:=by rfl) (hxn:X.N=XN:=by rfl):US X F (.Assign [.Name x pos'] (.ListComp elt [⟨tg,iter,ifs,0⟩] scope pos) spos) (lZ i (uL (lQ own fr ui g tf ue))):=
 ⟨PS.imp (PS.fz (zGr hc hN hx hl S hi.pi (λcl C fp s H=>(hg cl C fp s H).pg) (λcl C fp s H=>(hf cl C fp s H).pf) (λcl C fp s H=>(he cl C fp s H).pe) hsw hf' hs hsc hxn)) λD σ H ⟨ρ,P,f,h,k1,_⟩=>by
  refine zI nd σ H _ ⟨ρ,_,f,h,λa xs Ts H' ρ' s n e z p q=>?_⟩
  refine .inr ⟨a,_,e,rfl,λob=>?_⟩
  have s2:=s.put f n e rfl (.frz ob (.lst xs))
  exact k1 _ _ _ (s2.fr.set (s:=.va (.seq false Ts)) (λ_=>⟨_,rfl,VA.seq (t:=false) ⟨ob,bF⟩ z (p.hs (gA e rfl))⟩) (λz=>absurd z Bool.false_ne_true)) (s2.hs f) q⟩
def hE(g:UG)(ub:UTs):List Tv->PEnds->aQ->Prop
 |[],P,ρ=>P.nx ρ
 |T::Ts,P,ρ=>g T ρ λρ1=>ub {P with nx:=λρ'=>hE g ub Ts P ρ',ct:=λρ'=>hE g ub Ts P ρ',bk:=P.nx} ρ1
def zCq(ui:UTl)(g:UG)(ub:UTs):UTs:=λP ρ=>ui ρ λTs ρ1=>hE g ub Ts P ρ1
theorem gP{body:List Stmt}{ub:UTs}{m:Nat}(hp:PassesOwn (model X.prog X.w) X.A X.env X.xe)(hc:X.calm=true)(hi:UI X F tg iter ui)(hg:UGt X F m tg g)(hb:USs X F body ub)
  (hs:∀x,foldedSetIterable iter X.env x=pure x:=by intro _;rfl):US X F (.For tg iter body [] pos) (zCq ui g ub):=⟨PS.imp (zHJ hp hc hi.pi hg.pg hb.ps hs) λD σ H ⟨ρ,P,f,h,k1,k2,k3,k4⟩=>by
 refine⟨ρ,_,f,h,λJ Ts H1 ρ1 s1 it q1=>?_⟩
 have h01:=s1.hs f
 refine⟨λi m σ' H'=>m=Ts.length-i/\i<=Ts.length/\HS H1 H'/\∃ρi,FrOk X.K F ρi σ' H'/\hE g ub (Ts.drop i) P ρi,⟨_,rfl,Nat.zero_le _,HS.refl _,ρ1,s1.fr,q1⟩,?_⟩
 rintro i m σ' H' ⟨rfl,hi,hs,ρi,fi,q⟩
 obtain⟨go,yld,stop⟩:=it H' hs
 by_cases hlt:i<Ts.length
 ·refine .inr ⟨go i hlt,λσ2 H2=>HS H1 H2/\∃ρ2,FrOk X.K F ρ2 σ2 H2/\hE g ub (Ts.drop (i+1)) P ρ2,λσ2 H2 ⟨hs2,ρ2,f2,q2⟩=>⟨_,by omega,rfl,hlt,hs2,ρ2,f2,q2⟩,λx H3 hy=>?_⟩
  obtain⟨sm,T,eT,vx⟩:=yld i x H3 hlt hy
  have ed:Ts.drop i=T::Ts.drop (i+1):=by
   rw[List.drop_eq_getElem_cons hlt]
   congr 1
   rw[List.getElem?_eq_getElem hlt]at eT
   exact Option.some.inj eT
  rw[ed]at q
  have f3:=(Stp.same fi sm).fr
  refine⟨T,ρi,_,vx,f3,q,λσ4 ρ4 f4 _ _ _ _ q4=>?_⟩
  have h13:=hs.trans sm.hs
  exact⟨ρ4,_,f4,q4,λσ5 H5 ρ5 f5 hs5 q5=>⟨h13.trans hs5,ρ5,f5,q5⟩,k2,λσ5 H5 ρ5 f5 hs5 q5=>k1 _ _ _ f5 (h01.trans (h13.trans hs5)) q5,λσ5 H5 ρ5 f5 hs5 q5=>⟨h13.trans hs5,ρ5,f5,q5⟩⟩
 ·have e:i=Ts.length:=by omega
  subst e
  rw[List.drop_length]at q
  exact .inl ⟨stop,k1 _ _ _ fi (h01.trans hs) q⟩⟩
def zHn(t:UTt)(ub:UTs):UTs:=λP ρ=>∃W:Nat->aQ->Prop,(∃m,W m ρ)/\∀m ρ,W m ρ->t ρ λb ρ1=>if b=true then ub {P with nx:=λρ'=>∃m',m'<m/\W m' ρ',ct:=λρ'=>∃m',m'<m/\W m' ρ',bk:=P.nx} ρ1 else P.nx ρ1
theorem jU{c:Expr}{body:List Stmt}{t:UTt}{ub:UTs}(hp:PassesOwn (model X.prog X.w) X.A X.env X.xe)(hc:UB X F c t)(hb:USs X F body ub):US X F (.While c body [] pos) (zHn t ub):=⟨PS.imp (zFg hp hc.pt hb.ps) λD σ H ⟨ρ,P,f,⟨W,⟨m0,w0⟩,h⟩,k1,k2,k3,k4⟩=>by
 refine⟨λm σ' H'=>HS H H'/\∃ρ',FrOk X.K F ρ' σ' H'/\W m ρ',⟨m0,HS.refl _,ρ,f,w0⟩,?_⟩
 rintro m σ' H' ⟨hs,ρ',f',w⟩
 refine⟨ρ',_,f',h m ρ' w,λb H1 ρ1 s1 q1=>?_⟩
 have h1:=hs.trans (s1.hs f')
 cases b with
 |true=>
  rw[if_pos rfl]at q1
  refine aN ⟨λσ2 H2=>HS H H2/\∃m',m'<m/\∃ρ2,FrOk X.K F ρ2 σ2 H2/\W m' ρ2,λσ2 H2 ⟨hs2,m',lt,ρ2,f2,w2⟩=>⟨m',lt,hs2,ρ2,f2,w2⟩,?_⟩
  exact⟨ρ1,_,s1.fr,q1,λσ5 H5 ρ5 f5 hs5 ⟨m',lt,w5⟩=>⟨h1.trans hs5,m',lt,ρ5,f5,w5⟩,k2,λσ5 H5 ρ5 f5 hs5 q5=>k1 _ _ _ f5 (h1.trans hs5) q5,λσ5 H5 ρ5 f5 hs5 ⟨m',lt,w5⟩=>⟨h1.trans hs5,m',lt,ρ5,f5,w5⟩⟩
 |false=>
  rw[if_neg Bool.false_ne_true]at q1
  exact aX (k1 _ _ _ s1.fr h1 q1)⟩
end
end L2
namespace L2
open PySem PySem.Spec PyProof.Rows WordM
section
variable{K:W.Frag}{F:Fm}{ρ:aQ}{σ:St}{H:Hp}{i:Nat}{s s':Sl}{a:Addr}{o o':HO}
theorem FrOk.put(fr:FrOk K F ρ σ H)(e:ρ[i]?=some s)(m:cW s=true)(q:ixv σ i=some (.ref a))(h:H a=some o)(n:fzb o=true)(v:HS H (upd H a o')->F.H0 a=none->xT K F (upd H a o') (some (.ref a)) s'):Stp K F σ ρ H (ρ.set i s') (upd H a o'):=by
 have hi:i<ρ.length:=(List.getElem?_eq_some_iff.mp e).1
 have h0:=(fr.own_at e m q (fr.nr_of e q h n)).2
 have hd:=fr.fresh_nodk h0
 have hs:HS H (upd H a o'):=gA h (by cases o<;>first|rfl|exact absurd n Bool.false_ne_true)
 have st:∀b u,b≠a->H b=some u->upd H a o' b=some u:=λb u z e=>by rw[bD z];exact e
 have get:∀(j:Nat) (t:Sl),(ρ.set i s')[j]?=some t->(i=j/\t=s')\/(i≠j/\ρ[j]?=some t):=λj t e'=>by
  by_cases z:i=j
  ·subst z
   rw[List.getElem?_set_self hi]at e'
   exact .inl ⟨rfl,(Option.some.inj e').symm⟩
  ·rw[List.getElem?_set_ne z]at e';exact .inr ⟨z,e'⟩
 have sub:Sbv (ρ.set i s') ρ:=λj t e' m'=>by
  rcases get j t e' with⟨rfl,rfl⟩|⟨z,e'⟩
  ·exact⟨s,e,m⟩
  ·exact⟨t,e',m'⟩
 have hr:=fr.fresh_nord h0
 refine⟨⟨fr.d0,fr.r0,⟨λb u e1 n1 n2=>st b u (λz=>by rw[z,h0]at e1;cases e1) (fr.kp.st b u e1 n1 n2),λp c d=>?_,λa' C d=>?_⟩,by rw[List.length_set];exact fr.len,λj t e'=>?_,λj k b t t' e1 e2 m1 m2 q1 q2=>?_⟩,λb u e1 _ n1=>st b u (λz=>n1 i s e m (by rw[z];exact q)) e1,sub,λb u e1=>if z:b=a then⟨o',z▸bF⟩ else⟨u,st b u z e1⟩⟩
 ·obtain⟨ne,⟨S,k,e1⟩,ns,e2,l⟩:=fr.kp.dkk p c d
  exact⟨ne,⟨S,k,st _ _ (hd p c d).1.symm e1⟩,ns,st _ _ (hd p c d).2.symm e2,l⟩
 ·obtain⟨t,p,dx,e1⟩:=fr.kp.rdk a' C d
  exact⟨t,p,dx,st _ _ (hr a' C d).symm e1⟩
 ·rcases get j t e' with⟨rfl,rfl⟩|⟨z,e'⟩
  ·rw[q];exact v hs h0
  ·have x:=fr.at_ j t e'
   cases t with
   |no=>trivial
   |va T=>obtain⟨y,e1,v⟩:=x;exact⟨y,e1,v.hs hs⟩
   |own Ts=>obtain⟨b,xs,e1,e2,e3,z',p⟩:=x;exact⟨b,xs,e1,st _ _ (λy=>z (fr.ap i j a s _ e e' m rfl q (by rw[e1,y]))) e2,e3,z',p.hs hs⟩
   |dct kts=>obtain⟨b,kvs,e1,e2,e3,n',z',p⟩:=x;exact⟨b,kvs,e1,st _ _ (λy=>z (fr.ap i j a s _ e e' m rfl q (by rw[e1,y]))) e2,e3,n',z',p.hs hs⟩
   |dk=>exact x
   |fn _=>exact x
   |rd t p=>obtain⟨b,C,e1,e2,dx,e3⟩:=x;exact⟨b,C,e1,e2,dx,st _ _ (hr b C e1).symm e3⟩
 ·obtain⟨u,eu,mu⟩:=sub j t e1 m1
  obtain⟨u',eu',mu'⟩:=sub k t' e2 m2
  exact fr.ap j k b u u' eu eu' mu mu' q1 q2
end
section
variable{X:Cx}{F:Fm}{e:Expr}{u:UT}{x:Str}{p apos cpos pos:Pos}
def zF8(i:Nat)(u:UT):UT:=λρ Q=>(∃Ts,ρ[i]?=some (.own Ts))/\u ρ λT ρ1=>∃Ts,ρ1[i]?=some (.own Ts)/\Ts.length<100000/\Q nT (ρ1.set i (.own (Ts++[T])))
theorem iX(i:Nat)(h:UE X F e u)(hN:X.N[i]?=some x:=by rfl)(hv:Vis X.env.scope x:=by first|exact Or.inl rfl|exact Or.inr (Or.inl rfl)|exact Or.inr (Or.inr rfl))(hd:(x==("__debug__":Str))=false:=by decide)(hcd:(x==("__classdict__":Str))=false:=by decide)
  (hbase:attributeBase (.Name x p) "append" X.env (eval (.Name x p) X.env)=eval (.Name x p) X.env:=by rfl)
  (hfew:((backTo cpos (starEach [e] X.env)).all (λx=>!x.1)&&(backToKw cpos (keywordEach [] X.env)).all (λx=>x.1.isSome)&&decide (([e]:List Expr).length+([]:List Keyword).length+(if ([]:List Keyword).isEmpty then 0 else 1)<30))=true:=by rfl)
  (hline:(apos.endLine==cpos.line)=true:=by rfl) (hs:starEach [e] X.env=(false,eval e X.env)::starEach [] X.env:=by rfl) (hplain:(backTo cpos (starEach [] X.env)).any (·.1)=false:=by rfl) (hst:fQ e=false:=by rfl):
  UE X F (.Call (.Attribute (.Name x p) "append" apos) [e] [] cpos) (zF8 i u):=⟨PE.imp (nZ PySem.F.plainAttrs_list PySem.F.slot_list_append PySem.F.type_list_append sY (eQ hN hv hd hcd) (aA h aC hst).pa hbase hfew hline hs hplain) λσ H QQ ⟨ρ,Q,f,⟨⟨Ts0,e0⟩,hu⟩,k⟩=>by
 obtain⟨a,xs,ea,eH,e3,z,pv⟩:=f.at_ i _ e0
 refine⟨_,eJ ea,.inl ⟨rfl,xs,SqL.of eH⟩,ρ,λas ρ1=>∃T,as=[.va T]/\∃Ts,ρ1[i]?=some (.own Ts)/\Ts.length<100000/\Q nT (ρ1.set i (.own (Ts++[T]))),f,?_,λvs as H1 ρ1 s1 p1 q1=>?_⟩
 ·show u ρ _
  have:(λT ρ1=>∃Ts,ρ1[i]?=some (.own Ts)/\Ts.length<100000/\Q nT (ρ1.set i (.own (Ts++[T]))))=(λT (ρ1:aQ)=>(fI ρ1 λas ρ2=>∃T',Ar.va T::as=[.va T']/\∃Ts,ρ2[i]?=some (.own Ts)/\Ts.length<100000/\Q nT (ρ2.set i (.own (Ts++[T'])))) ):=by
   funext T ρ1
   apply propext
   constructor
   ·intro z;exact⟨T,rfl,z⟩
   ·rintro⟨T',e,z⟩;cases e;exact z
  rw[this]at hu
  exact hu
 ·obtain⟨T,rfl,Ts,e1,lt,q⟩:=q1
  cases p1 with
  |cons v t=>
   cases t
   obtain⟨a',ys,ea',eH1,e3',z',pv'⟩:=s1.fr.at_ i _ e1
   rw[ea]at ea';cases ea'
   have ll:ys.length=Ts.length:=Paired.length pv'
   refine⟨a,ys,_,rfl,rfl,eH1,zBc (by omega),k _ _ _ _ (s1.trans (s1.fr.put (s':=.own (Ts++[T])) e1 rfl ea eH1 rfl λhs h0=>⟨a,_,rfl,bF,h0,by rw[List.length_append,List.length_singleton];omega,VAs.hs hs (Paired.snoc pv' v)⟩)) (.flat rfl) q⟩⟩
def zHc(i:Nat)(u:UT):UT:=λρ Q=>(∃Ts,ρ[i]?=some (.own Ts))/\u ρ λJ ρ1=>∃(j:Int) (Ts:List Tv) (T:Tv),J=iT j/\ρ1[i]?=some (.own Ts)/\0<=j/\Ts[j.toNat]?=some T/\Q T (ρ1.set i (.own (Ts.eraseIdx j.toNat)))
theorem xZ{α β:Type}{R:α->β->Prop}:∀{l:List α}{m:List β}(n:Nat),Paired R l m->Paired R (l.eraseIdx n) (m.eraseIdx n)
 |_,_,_,.nil=>.nil
 |_,_,0,.cons _ t=>t
 |_,_,n+1,.cons r t=>.cons r (xZ n t)
theorem oT{α β:Type}{R:α->β->Prop}:∀{l:List α}{m:List β}{n:Nat}{y:β},Paired R l m->m[n]?=some y->∃x,l[n]?=some x/\R x y
 |_,_,_,_,.nil,e=>by simp at e
 |_,_,0,_,.cons r _,e=>by simp at e;subst e;exact⟨_,rfl,r⟩
 |_,_,n+1,_,.cons _ t,e=>by
  obtain⟨x,h1,h2⟩:=oT (n:=n) t (by simpa using e)
  exact⟨x,by simpa using h1,h2⟩
theorem tJ(i:Nat)(h:UE X F e u)(hN:X.N[i]?=some x:=by rfl)(hv:Vis X.env.scope x:=by first|exact Or.inl rfl|exact Or.inr (Or.inl rfl)|exact Or.inr (Or.inr rfl))(hd:(x==("__debug__":Str))=false:=by decide)(hcd:(x==("__classdict__":Str))=false:=by decide)
  (hbase:attributeBase (.Name x p) "pop" X.env (eval (.Name x p) X.env)=eval (.Name x p) X.env:=by rfl)
  (hfew:((backTo cpos (starEach [e] X.env)).all (λx=>!x.1)&&(backToKw cpos (keywordEach [] X.env)).all (λx=>x.1.isSome)&&decide (([e]:List Expr).length+([]:List Keyword).length+(if ([]:List Keyword).isEmpty then 0 else 1)<30))=true:=by rfl)
  (hline:(apos.endLine==cpos.line)=true:=by rfl) (hs:starEach [e] X.env=(false,eval e X.env)::starEach [] X.env:=by rfl) (hplain:(backTo cpos (starEach [] X.env)).any (·.1)=false:=by rfl) (hst:fQ e=false:=by rfl):
  UE X F (.Call (.Attribute (.Name x p) "pop" apos) [e] [] cpos) (zHc i u):=⟨PE.imp (nZ PySem.F.plainAttrs_list PySem.F.slot_list_pop PySem.F.type_list_pop zFx (eQ hN hv hd hcd) (aA h aC hst).pa hbase hfew hline hs hplain) λσ H QQ ⟨ρ,Q,f,⟨⟨Ts0,e0⟩,hu⟩,k⟩=>by
 obtain⟨a,xs,ea,eH,e3,z,pv⟩:=f.at_ i _ e0
 refine⟨_,eJ ea,.inl ⟨rfl,xs,SqL.of eH⟩,ρ,λas ρ1=>∃J,as=[.va J]/\∃(j:Int) (Ts:List Tv) (T:Tv),J=iT j/\ρ1[i]?=some (.own Ts)/\0<=j/\Ts[j.toNat]?=some T/\Q T (ρ1.set i (.own (Ts.eraseIdx j.toNat))),f,?_,λvs as H1 ρ1 s1 p1 q1=>?_⟩
 ·show u ρ _
  have:(λJ ρ1=>∃(j:Int) (Ts:List Tv) (T:Tv),J=iT j/\ρ1[i]?=some (.own Ts)/\0<=j/\Ts[j.toNat]?=some T/\Q T (ρ1.set i (.own (Ts.eraseIdx j.toNat))))=(λJ (ρ1:aQ)=>(fI ρ1 λas ρ2=>∃J',Ar.va J::as=[.va J']/\∃(j:Int) (Ts:List Tv) (T:Tv),J'=iT j/\ρ2[i]?=some (.own Ts)/\0<=j/\Ts[j.toNat]?=some T/\Q T (ρ2.set i (.own (Ts.eraseIdx j.toNat)))) ):=by
   funext T ρ1
   apply propext
   constructor
   ·intro z;exact⟨T,rfl,z⟩
   ·rintro⟨T',e,z⟩;cases e;exact z
  rw[this]at hu
  exact hu
 ·obtain⟨J,rfl,j,Ts,T,rfl,e1,h0,eT,q⟩:=q1
  cases p1 with
  |cons v t=>
   cases t
   obtain⟨rfl,_⟩:=VA.leafI v
   obtain⟨a',ys,ea',eH1,e3',z',pv'⟩:=s1.fr.at_ i _ e1
   rw[ea]at ea';cases ea'
   have ll:ys.length=Ts.length:=Paired.length pv'
   have lt:=(List.getElem?_eq_some_iff.mp eT).1
   obtain⟨y,ey,vy⟩:=oT pv' eT
   have s:=s1.fr.put (o':=.lst (ys.eraseIdx j.toNat)) e1 rfl ea eH1 rfl (s':=.own (Ts.eraseIdx j.toNat)) λhs h0=>⟨a,_,rfl,bF,h0,by rw[List.length_eraseIdx];split<;>omega,VAs.hs hs (xZ _ pv')⟩
   refine⟨a,ys,j,j.toNat,y,rfl,rfl,eH1,by omega,by omega,PySem.StrLaws.seqIndex_nonneg h0 (by omega),ey,k _ _ _ _ (s1.trans s) (vy.hs (s.hs s1.fr)) q⟩⟩
end
theorem Inv.frozen{X:Cx}{pins:List (Addr×Obj)}{σ:St}{H H2:Hp}{s:Shared}(I:Inv X pins σ H s)(fro:FrozenA oJ H H2)(ok2:HOk X.prog X.w H2 s.heap):Inv X pins σ H2 s:=by
 refine⟨I.ok,I.os,I.bare,⟨I.base.keep,I.base.slot,λb o e n hx=>fro.none_of (I.base.free b o e n hx),I.base.there,λb xs e=>fro.keep (I.base.tups b xs e) rfl,λb o u e=>fro.keep (I.base.frzs b o u e) rfl,λb ps e=>?_⟩,I.loc,I.cell,fro.none_of I.free,λx c e=>fro.none_of (I.freeC x c e),λp hp=>?_,ok2,I.len⟩
 ·obtain⟨more,z⟩:=I.base.tbls b ps e
  exact⟨more,fro.keep z rfl⟩
 ·obtain⟨p1,p2,p3⟩:=I.pin p hp
  exact⟨p1,fro.none_of p2,p3⟩
theorem Inv.thaw{X:Cx}{pins:List (Addr×Obj)}{σ:St}{H H3 H4:Hp}{s s':Shared}(I:Inv X pins σ H s)(I3:Inv X pins σ H3 s')(th:Thaw H H3 H4):Inv X pins σ H4 s':=by
 have stay:∀b o,H3 b=some o->(∀u ob,o≠.frz ob u)->H4 b=some o:=λb o e n=>by
  rcases th b with⟨u,ob,_,_,z,_⟩|⟨_,z⟩
  ·rw[e]at z;cases z;exact absurd rfl (n u ob)
  ·rw[z];exact e
 have none4:∀b,H3 b=none->H4 b=none:=λb e=>by
  rcases th b with⟨u,ob,_,_,z,_⟩|⟨_,z⟩
  ·rw[e]at z;cases z
  ·rw[z];exact e
 refine⟨I3.ok,I3.os,I3.bare,⟨I3.base.keep,I3.base.slot,λb o e n hx=>none4 b (I3.base.free b o e n hx),I3.base.there,λb xs e=>stay b _ (I3.base.tups b xs e) (λ_ _ z=>by cases z),λb o u e=>?_,λb ps e=>?_⟩,I3.loc,I3.cell,none4 _ I3.free,λx c e=>none4 c (I3.freeC x c e),λp hp=>?_,λb o e=>?_,I3.len⟩
 ·rcases th b with⟨o',ob,n,z,_⟩|⟨_,z⟩
  ·rw[I.base.frzs b o u e]at z;cases z;exact absurd n Bool.false_ne_true
  ·rw[z];exact I3.base.frzs b o u e
 ·obtain⟨more,z⟩:=I3.base.tbls b ps e
  exact⟨more,stay b _ z (λ_ _ z=>by cases z)⟩
 ·obtain⟨p1,p2,p3⟩:=I3.pin p hp
  exact⟨p1,none4 _ p2,p3⟩
 ·have st:∀o,ObjOk X.prog X.w H3 s'.heap b o->ObjOk X.prog X.w H4 s'.heap b o:=λo x=>x.stay (λ_ _ _ r=>r) (λd r=>stay d _ r (λ_ _ z=>by cases z)) λd xs r=>stay d _ r (λ_ _ z=>by cases z)
  rcases th b with⟨o',ob,n,_,z,z'⟩|⟨_,z⟩
  ·rw[z']at e
   cases e
   obtain⟨_,y⟩:=(show ObjOk X.prog X.w H3 s'.heap b (.frz ob o) from I3.hok b _ z)
   exact st o y
  ·rw[z]at e
   exact st o (I3.hok b o e)
def pkS:Sl->Sl
 |.own Ts=>.va (.seq false Ts)
 |.dct kts=>.va (.dct kts)
 |.dk=>.no
 |.rd _ _=>.no
 |s=>s
def pkE(ρ:aQ):aQ:=ρ.map pkS
theorem zCc{K:W.Frag}{F:Fm}{ρ:aQ}{σ:St}{H H2:Hp}(f:FrOk K F ρ σ H)(fro:FrozenA oJ H H2):FrOk K ⟨H2,none,none⟩ (pkE ρ) σ H2:=by
 have hs:=fro.hs
 refine⟨λ_ _ z=>(nomatch z),λ_ _ z=>(nomatch z),⟨λ_ _ e _ _=>e,λ_ _ z=>(nomatch z),λ_ _ z=>(nomatch z)⟩,by unfold pkE;rw[List.length_map];exact f.len,λi s e=>?_,λi j a s t e _ m _ _ _=>?_⟩
 ·unfold pkE at e
  rw[List.getElem?_map]at e
  obtain⟨s0,e0,rfl⟩:=Option.map_eq_some_iff.mp e
  have h:=f.at_ i s0 e0
  cases s0 with
  |no=>trivial
  |va T=>obtain⟨y,e1,v⟩:=h;exact⟨y,e1,v.hs hs⟩
  |own Ts=>
   obtain⟨a,xs,e1,e2,e3,z,p⟩:=h
   obtain⟨ob,e4⟩:=fro.fz (b:=a) rfl e2 rfl
   exact⟨_,e1,VA.seq (t:=false) ⟨ob,e4⟩ z (p.hs hs)⟩
  |dct kts=>
   obtain⟨a,kvs,e1,e2,e3,n,z,p⟩:=h
   obtain⟨ob,e4⟩:=fro.fz (b:=a) rfl e2 rfl
   exact⟨_,e1,VA.dct ⟨ob,e4⟩ n z (p.hs hs)⟩
  |dk=>trivial
  |rd _ _=>trivial
  |fn _=>trivial
 ·unfold pkE at e
  rw[List.getElem?_map]at e
  obtain⟨s0,e0,rfl⟩:=Option.map_eq_some_iff.mp e
  cases s0<;>cases m
theorem zA4{K:W.Frag}{ρ ρ':aQ}{σ:St}{H2 H3:Hp}{H0:Hp}(s:Stp K ⟨H0,none,none⟩ σ (pkE ρ) H2 ρ' H3):Same H2 H3:=λb o e=>s.st b o e (λ_ _ z=>(nomatch z)) λi t e1 m=>by
 unfold pkE at e1
 rw[List.getElem?_map]at e1
 obtain⟨s0,e0,rfl⟩:=Option.map_eq_some_iff.mp e1
 cases s0<;>cases m
section
variable{X:Cx}{F:Fm}{e:Expr}
def zII(u:UT):UT:=λρ Q=>u (pkE ρ) λT _=>∃v,T=.leaf v/\Q T ρ
theorem tW{u:UT}(h:∀F,UE X F e u):UE X F e (zII u):=⟨λpins s σ H QQ I ⟨ρ,Q,f,hu,k⟩=>by
 obtain⟨H2,fro,ok2⟩:=zO I.hok
 have f2:=zCc f fro
 refine thn ((h ⟨H2,none,none⟩).pe pins s σ H2 (λx H3=>∃v ρ',Stp X.K ⟨H2,none,none⟩ σ (pkE ρ) H2 ρ' H3/\VA X.K H3 x (.leaf v)/\Q (.leaf v) ρ) (I.frozen fro ok2) ⟨_,_,f2,hu,λx T H' ρ' st v q=>?_⟩) λu s' ⟨x,H3,I3,r,q⟩=>?_
 ·obtain⟨w,rfl,q⟩:=q
  exact⟨w,ρ',st,v,q⟩
 ·obtain⟨v,ρ',st,va,q⟩:=q
  obtain⟨H4,th⟩:=zAJ H H3
  obtain⟨rfl,fl⟩:=va.leafI
  exact⟨x,H4,I.thaw I3 th,r,k _ _ _ _ (Stp.same f (Thaw.same fro (zA4 st) th)) (.flat fl) q⟩⟩
def zHd(u:UTt):UTt:=λρ Q=>u (pkE ρ) λb _=>Q b ρ
theorem zF7{u:UTt}(h:∀F,UB X F e u):UB X F e (zHd u):=⟨λpins s σ H QQ I ⟨ρ,Q,f,hu,k⟩=>by
 obtain⟨H2,fro,ok2⟩:=zO I.hok
 have f2:=zCc f fro
 refine thn ((h ⟨H2,none,none⟩).pt pins s σ H2 (λb H3=>∃ρ',Stp X.K ⟨H2,none,none⟩ σ (pkE ρ) H2 ρ' H3/\Q b ρ) (I.frozen fro ok2) ⟨_,_,f2,hu,λb H' ρ' st q=>⟨ρ',st,q⟩⟩) λb s' ⟨H3,I3,q⟩=>?_
 obtain⟨ρ',st,q⟩:=q
 obtain⟨H4,th⟩:=zAJ H H3
 exact⟨H4,I.thaw I3 th,k _ _ _ (Stp.same f (Thaw.same fro (zA4 st) th)) q⟩⟩
end
end L2
namespace L2
open PySem PySem.Spec PyProof.Rows WordM
mutual
def eqT:Tv->Tv->Bool
 |.leaf v,.leaf w=>eqV v w
 |.seq s xs,.seq t ys=>s==t&&cX xs ys
 |_,_=>false
def cX:List Tv->List Tv->Bool
 |[],[]=>true
 |x::xs,y::ys=>eqT x y&&cX xs ys
 |_,_=>false
end
def EqD:Nat->Tv->Prop
 |0,_=>False
 |_+1,.leaf _=>True
 |n+1,.seq _ xs=>∀U∈xs,EqD n U
 |_+1,.dct _=>False
theorem tS:∀{xs ys:List Tv},xs.length≠ys.length->cX xs ys=false
 |[],[],h=>absurd rfl h
 |[],_::_,_=>by simp[cX]
 |_::_,[],_=>by simp[cX]
 |x::xs,y::ys,h=>by
  have:=tS (xs:=xs) (ys:=ys) (λe=>h (by simp[e]))
  simp[cX,this]
theorem sS:∀{xs ys:List Tv},xs.length=ys.length->(List.range xs.length).all (λi=>eqT (xs.getD i nT) (ys.getD i nT))=cX xs ys
 |[],[],_=>by simp[cX]
 |[],_::_,h=>by simp at h
 |_::_,[],h=>by simp at h
 |x::xs,y::ys,h=>by
  have ih:=sS (xs:=xs) (ys:=ys) (by simpa using h)
  rw[List.length_cons,List.range_succ_eq_map,List.all_cons,List.all_map]
  show(eqT x y&&(List.range xs.length).all λi=>eqT (xs.getD i nT) (ys.getD i nT))=cX (x::xs) (y::ys)
  rw[ih]
  simp[cX]
theorem EqD.vp{K:W.Frag}{H:Hp}:∀{n d:Nat}{x:V}{T:Tv},EqD n T->VP K H d x T->VP K H n x T
 |0,_,_,_,h,_=>False.elim h
 |_+1,0,_,_,_,h=>False.elim h
 |n+1,d+1,x,T,h,v=>by
  rcases v with v|⟨t,a,xs,Ts,e1,e2,rfl,z,p⟩|⟨a,kvs,kts,e1,e2,rfl,_⟩
  ·exact .inl v
  ·have g:∀U∈Ts,EqD n U:=h
   refine .inr (.inl ⟨t,a,xs,Ts,e1,e2,rfl,z,?_⟩)
   clear e2 z h
   induction p with
   |nil=>exact .nil
   |cons r _ ih=>exact .cons ((g _ (.head _)).vp r) (ih λU hU=>g U (.tail _ hU))
  ·exact False.elim h
section
variable{X:Cx}{pins:List (Addr×Obj)}{σ:St}{H:Hp}{s:Shared}
theorem zFW{v:V}(h:dB v=true):eqV v v=true:=by
 cases v<;>first|exact absurd h Bool.false_ne_true|simp[eqV]
theorem PSeq.isList{a:Addr}{xs:List V}(I:Inv X pins σ H s)(h:PSeq X.K H false a xs):∃its:List Value,Vals xs its/\s.heap.IsList a its.toArray:=by
 obtain⟨its,r,p,_⟩:=I.list (cO h)
 exact⟨its,r,p.isList⟩
theorem PSeq.isTup{a:Addr}{xs:List V}(I:Inv X pins σ H s)(h:PSeq X.K H true a xs):∃its:List Value,Vals xs its/\s.heap.IsTuple a its.toArray:=by
 obtain⟨its,r,p,_⟩:=I.tuple h
 exact⟨its,r,p⟩
theorem zBj(I:Inv X pins σ H s):∀{n:Nat}{x:V}{T U:Tv},VP X.K H n x T->VP X.K H n x U->EqD n T->EqD n U->eqT T U=true
 |0,_,_,_,h,_,_,_=>False.elim h
 |n+1,x,T,U,h,h',d,d'=>by
  rcases h with⟨f,rfl⟩|⟨t,a,xs,Ts,rfl,e2,rfl,z,p⟩|⟨a,kvs,kts,rfl,e2,rfl,_⟩
  ·rcases h' with⟨_,rfl⟩|⟨t',a',xs',Ts',rfl,_⟩|⟨a',kvs',kts',rfl,_⟩
   ·simp[eqT,zFW f]
   ·cases f
   ·cases f
  ·rcases h' with⟨f,rfl⟩|⟨t',a',xs',Ts',e1',e2',rfl,z',p'⟩|⟨a',kvs',kts',e1',e2',rfl,_⟩
   ·cases f
   ·cases e1'
    have tt:t=t':=by
     cases t<;>cases t'<;>first|rfl|skip
     ·obtain⟨_,_,l1⟩:=PSeq.isList I e2
      obtain⟨_,_,l2⟩:=PSeq.isTup I e2'
      exact absurd rfl (SeqAt.ne_of_list_tuple l1 l2)
     ·obtain⟨_,_,l1⟩:=PSeq.isList I e2'
      obtain⟨_,_,l2⟩:=PSeq.isTup I e2
      exact absurd rfl (SeqAt.ne_of_list_tuple l1 l2)
    subst tt
    have ex:xs=xs':=by
     cases t with
     |false=>exact I.list_inj (cO e2) (cO e2')
     |true=>exact I.tuple_inj e2 e2'
    subst ex
    have d:∀U∈Ts,EqD n U:=d
    have d':∀U∈Ts',EqD n U:=d'
    have key:∀{xs:List V} {Ts Ts':List Tv},Paired (VP X.K H n) xs Ts->Paired (VP X.K H n) xs Ts'->(∀U∈Ts,EqD n U)->(∀U∈Ts',EqD n U)->cX Ts Ts'=true:=by
     intro xs Ts Ts' p
     induction p generalizing Ts' with
     |nil=>intro p' _ _;cases p';simp[cX]
     |cons r _ ih=>
      intro p' d d'
      cases p' with
      |cons r' t'=>simp[cX,zBj I r r' (d _ (.head _)) (d' _ (.head _)),ih t' (λU hU=>d U (.tail _ hU)) (λU hU=>d' U (.tail _ hU))]
    simp[eqT,key p p' d d']
   ·exact False.elim d'
  ·exact False.elim d
theorem iW{x:V}(h:dB x=true):x=.non\/(∃b,x=.bl b)\/(∃i,x=.int i)\/∃z,x=.str z:=by
 cases x with
 |non=>exact .inl rfl
 |bl b=>exact .inr (.inl ⟨b,rfl⟩)
 |int i=>exact .inr (.inr (.inl ⟨i,rfl⟩))
 |str z=>exact .inr (.inr (.inr ⟨z,rfl⟩))
 |_=>exact absurd (show false=true from h) Bool.false_ne_true
open SeqAt in
theorem kT(I:Inv X pins σ H s){A:Around}(hu:A.units<cLine){x:V}{v:Value}{t:Bool}{a:Addr}{xs:List V}(f:dB x=true)(r:RelV x v)(h:PSeq X.K H t a xs):
  EqAt A s v (.ref a) false/\EqAt A s (.ref a) v false/\RcAt A s v (.ref a) false/\RcAt A s (.ref a) v false/\RcNeAt A s v (.ref a) true/\RcNeAt A s (.ref a) v true:=by
 cases t with
 |false=>
  obtain⟨_,_,l⟩:=PSeq.isList I h
  rcases iW f with rfl|⟨b,rfl⟩|⟨b,rfl⟩|⟨b,rfl⟩
  ·cases r;exact⟨.none_list l hu,.list_none l hu,.none_list l hu,.list_none l hu,.none_list l hu,.list_none l hu⟩
  ·cases r;exact⟨.bool_list b l hu,.list_bool b l hu,.bool_list b l hu,.list_bool b l hu,.bool_list b l hu,.list_bool b l hu⟩
  ·obtain⟨t,rfl⟩:=r;exact⟨.int_list b t l hu,.list_int b t l hu,.int_list b t l hu,.list_int b t l hu,.int_list b t l hu,.list_int b t l hu⟩
  ·obtain⟨t,rfl⟩:=r;exact⟨.str_list b t l hu,.list_str b t l hu,.str_list b t l hu,.list_str b t l hu,.str_list b t l hu,.list_str b t l hu⟩
 |true=>
  obtain⟨_,_,l⟩:=PSeq.isTup I h
  rcases iW f with rfl|⟨b,rfl⟩|⟨b,rfl⟩|⟨b,rfl⟩
  ·cases r;exact⟨.none_tuple l hu,.tuple_none l hu,.none_tuple l hu,.tuple_none l hu,.none_tuple l hu,.tuple_none l hu⟩
  ·cases r;exact⟨.bool_tuple b l hu,.tuple_bool b l hu,.bool_tuple b l hu,.tuple_bool b l hu,.bool_tuple b l hu,.tuple_bool b l hu⟩
  ·obtain⟨t,rfl⟩:=r;exact⟨.int_tuple b t l hu,.tuple_int b t l hu,.int_tuple b t l hu,.tuple_int b t l hu,.int_tuple b t l hu,.tuple_int b t l hu⟩
  ·obtain⟨t,rfl⟩:=r;exact⟨.str_tuple b t l hu,.tuple_str b t l hu,.str_tuple b t l hu,.tuple_str b t l hu,.str_tuple b t l hu,.tuple_str b t l hu⟩
open SeqAt in
theorem zAS{A:Around}{x y:V}{v u:Value}(fx:dB x=true)(fy:dB y=true)(rx:RelV x v)(ry:RelV y u):RcAt A s v u (eqV x y)/\RcNeAt A s v u (!eqV x y):=by
 rcases iW fx with rfl|⟨a,rfl⟩|⟨a,rfl⟩|⟨a,rfl⟩<;>rcases iW fy with rfl|⟨b,rfl⟩|⟨b,rfl⟩|⟨b,rfl⟩
 ·cases rx;cases ry;exact⟨.none_none,.none_none⟩
 ·cases rx;cases ry;exact⟨.none_bool b,.none_bool b⟩
 ·cases rx;obtain⟨t,rfl⟩:=ry;exact⟨.none_int b t,.none_int b t⟩
 ·cases rx;obtain⟨t,rfl⟩:=ry;exact⟨.none_str b t,.none_str b t⟩
 ·cases rx;cases ry;exact⟨.bool_none a,.bool_none a⟩
 ·cases rx;cases ry;exact⟨.bool_bool a b,.bool_bool a b⟩
 ·cases rx;obtain⟨t,rfl⟩:=ry;exact⟨.bool_int a b t,.bool_int a b t⟩
 ·cases rx;obtain⟨t,rfl⟩:=ry;exact⟨.bool_str a b t,.bool_str a b t⟩
 ·obtain⟨t',rfl⟩:=rx;cases ry;exact⟨.int_none a t',.int_none a t'⟩
 ·obtain⟨t',rfl⟩:=rx;cases ry;exact⟨.int_bool a t' b,.int_bool a t' b⟩
 ·obtain⟨t',rfl⟩:=rx;obtain⟨t,rfl⟩:=ry;exact⟨.int_int a t' b t,.int_int a t' b t⟩
 ·obtain⟨t',rfl⟩:=rx;obtain⟨t,rfl⟩:=ry;exact⟨.int_str a t' b t,.int_str a t' b t⟩
 ·obtain⟨t',rfl⟩:=rx;cases ry;exact⟨.str_none a t',.str_none a t'⟩
 ·obtain⟨t',rfl⟩:=rx;cases ry;exact⟨.str_bool a t' b,.str_bool a t' b⟩
 ·obtain⟨t',rfl⟩:=rx;obtain⟨t,rfl⟩:=ry;exact⟨.str_int a t' b t,.str_int a t' b t⟩
 ·obtain⟨t',rfl⟩:=rx;obtain⟨t,rfl⟩:=ry;exact⟨.str_str a t' b t,.str_str a t' b t⟩
theorem zX{xs:List V}{us:List Value}(r:Vals xs us){j:Nat}(h:j<us.toArray.size):∃x,xs[j]?=some x/\RelV x us.toArray[j]:=by
 have l:=r.length
 have k:j<xs.length:=by rw[l];simpa using h
 obtain⟨u,hu,ru⟩:=r.get (i:=j) (x:=xs[j]) (List.getElem?_eq_getElem k)
 refine⟨_,List.getElem?_eq_getElem k,?_⟩
 have e1:us.toArray[j]=u:=by
  obtain⟨_,e⟩:=List.getElem?_eq_some_iff.mp hu
  simpa using e
 rw[e1];exact ru
open SeqAt in
theorem zBE(I:Inv X pins σ H s){A:Around}(hu:A.units<cLine){t:Bool}{a b:Addr}{xs ys:List V}{Ts Us:List Tv}(ha:PSeq X.K H t a xs)(hb:PSeq X.K H t b ys)(lx:xs.length=Ts.length)(ly:ys.length=Us.length)
  (it:∀(j:Nat) (x y:V) (T U:Tv) (v u:Value),xs[j]?=some x->ys[j]?=some y->Ts[j]?=some T->Us[j]?=some U->RelV x v->RelV y u->EqAt A.in1 s v u (eqT T U)):RcAt A s (.ref a) (.ref b) (cX Ts Us)/\RcNeAt A s (.ref a) (.ref b) (!cX Ts Us):=by
 have item:∀{vs us:List Value},Vals xs vs->Vals ys us->∀j (h1:j<vs.toArray.size) (h2:j<us.toArray.size),EqAt A.in1 s vs.toArray[j] us.toArray[j] (eqT (Ts.getD j nT) (Us.getD j nT)):=λ{vs us} r1 r2 j h1 h2=>by
  obtain⟨x,ex,rx⟩:=zX r1 h1
  obtain⟨y,ey,ry⟩:=zX r2 h2
  have k1:=(List.getElem?_eq_some_iff.mp ex).1
  have k2:=(List.getElem?_eq_some_iff.mp ey).1
  refine it j x y _ _ _ _ ex ey ?_ ?_ rx ry
  ·rw[List.getD_eq_getElem?_getD,List.getElem?_eq_getElem (by omega)];rfl
  ·rw[List.getD_eq_getElem?_getD,List.getElem?_eq_getElem (by omega)];rfl
 cases t with
 |false=>
  obtain⟨vs,r1,l1⟩:=PSeq.isList I ha
  obtain⟨us,r2,l2⟩:=PSeq.isList I hb
  have n1:=r1.length
  have n2:=r2.length
  by_cases hl:Ts.length=Us.length
  ·have e1:=RcAt.lists l1 l2 (by simp only[List.size_toArray];omega) hu (item r1 r2)
   have e2:=RcNeAt.lists l1 l2 (by simp only[List.size_toArray];omega) hu (item r1 r2)
   rw[show vs.toArray.size=Ts.length by rw[List.size_toArray];omega,sS hl]at e1 e2
   exact⟨e1,e2⟩
  ·rw[tS hl]
   have hne:(vs.toArray.size != us.toArray.size)=true:=by
    rw[bne_iff_ne,List.size_toArray,List.size_toArray];omega
   exact⟨.lists_lengths l1 l2 hne hu,.lists_lengths l1 l2 hne hu⟩
 |true=>
  obtain⟨vs,r1,l1⟩:=PSeq.isTup I ha
  obtain⟨us,r2,l2⟩:=PSeq.isTup I hb
  have n1:=r1.length
  have n2:=r2.length
  have e1:=RcAt.tuples l1 l2 hu (item r1 r2)
  have e2:=RcNeAt.tuples l1 l2 hu (item r1 r2)
  have ee:((List.range (min vs.toArray.size us.toArray.size)).all (λi=>eqT (Ts.getD i nT) (Us.getD i nT))&&vs.toArray.size==us.toArray.size)=cX Ts Us:=by
   rw[show vs.toArray.size=Ts.length by rw[List.size_toArray];omega,show us.toArray.size=Us.length by rw[List.size_toArray];omega]
   by_cases hl:Ts.length=Us.length
   ·rw[<-hl,Nat.min_self,sS hl];simp
   ·rw[tS hl,beq_eq_false_iff_ne.mpr hl,Bool.and_false]
  rw[ee]at e1 e2
  exact⟨e1,e2⟩
open SeqAt in
theorem uM(I:Inv X pins σ H s):∀(n:Nat) {A:Around}{x y:V}{T U:Tv}{v u:Value},A.units+n<cLine->EqD n T->EqD n U->VP X.K H n x T->VP X.K H n y U->RelV x v->RelV y u->EqAt A s v u (eqT T U)
 |0,_,_,_,_,_,_,_,_,h,_,_,_,_,_=>False.elim h
 |n+1,A,x,y,T,U,v,u,hu,d,d',h,h',rx,ry=>by
  have hu0:A.units<cLine:=by omega
  have hh:=h
  have hh':=h'
  rcases h with⟨f,rfl⟩|⟨t,a,xs,Ts,rfl,e2,rfl,z,p⟩|⟨a,kvs,kts,rfl,e2,rfl,_⟩
  ·rcases h' with⟨f',rfl⟩|⟨t',a',xs',Ts',rfl,e2',rfl,z',p'⟩|⟨a',kvs',kts',rfl,_,rfl,_⟩
   ·have:=zBU (A:=A) (s:=s) rx ry f f'
    simpa[eqT]using this
   ·cases ry
    have:=(kT I hu0 f rx e2').1
    simpa[eqT]using this
   ·exact False.elim d'
  ·rcases h' with⟨f',rfl⟩|⟨t',b,ys,Us,rfl,e2',rfl,z',p'⟩|⟨a',kvs',kts',rfl,_,rfl,_⟩
   ·cases rx
    have:=(kT I hu0 f' ry e2).2.1
    simpa[eqT]using this
   ·cases rx
    cases ry
    by_cases ab:a=b
    ·subst ab
     have:=zBj I hh hh' d d'
     rw[this]
     exact EqAt.same _
    ·by_cases tt:t=t'
     ·subst tt
      have d:∀U∈Ts,EqD n U:=d
      have d':∀U∈Us,EqD n U:=d'
      have:=(zBE I hu0 e2 e2' (Paired.length p) (Paired.length p') λj x y T U v u ex ey eT eU rx ry=>by
       obtain⟨T',eT',vx⟩:=eZ p ex
       obtain⟨U',eU',vy⟩:=eZ p' ey
       rw[eT]at eT';cases eT'
       rw[eU]at eU';cases eU'
       exact uM I n (by show A.units+1+n<_;omega) (d _ (List.mem_of_getElem? eT)) (d' _ (List.mem_of_getElem? eU)) vx vy rx ry).1
      have r:=EqAt.of_refs ab this
      simpa[eqT]using r
     ·have e:eqT (.seq t Ts) (.seq t' Us)=false:=by simp[eqT,tt]
      rw[e]
      refine EqAt.of_refs ab ?_
      cases t<;>cases t'<;>first|exact absurd rfl tt|skip
      ·obtain⟨_,_,l1⟩:=PSeq.isList I e2
       obtain⟨_,_,l2⟩:=PSeq.isTup I e2'
       exact .list_tuple l1 l2 hu0
      ·obtain⟨_,_,l1⟩:=PSeq.isTup I e2
       obtain⟨_,_,l2⟩:=PSeq.isList I e2'
       exact .tuple_list l1 l2 hu0
   ·exact False.elim d'
  ·exact False.elim d
end
def zKZ(Ts Us:List Tv):Prop:=Ts=[]\/Us=[]\/((∀T∈Ts,EqD 40 T)/\∀U∈Us,EqD 40 U)
def jK(neg:Bool):P2
 |.leaf v,.leaf w,Q=>Q (bT (neg != eqV v w))
 |.leaf _,.seq _ _,Q=>Q (bT neg)
 |.seq _ _,.leaf _,Q=>Q (bT neg)
 |.seq s xs,.seq t ys,Q=>zKZ xs ys/\Q (bT (neg != (s==t&&cX xs ys)))
 |_,_,_=>False
section
variable{X:Cx}
open SeqAt in
theorem zBk{pins:List (Addr×Obj)}{σ:St}{H:Hp}{s:Shared}(I:Inv X pins σ H s)(hu:X.A.units+64<cLine){neg:Bool}{x y:V}{T U:Tv}{v u:Value}{Q:Tv->Prop}(vx:VA X.K H x T)(vy:VA X.K H y U)(rx:RelV x v)(ry:RelV y u)(h:jK neg T U Q):
  ∃b,Q (bT (neg != b))/\RcAt X.A s v u b/\RcNeAt X.A s v u (!b):=by
 have hu0:X.A.units<cLine:=by omega
 unfold jK at h
 split at h
 ·obtain⟨rfl,f⟩:=vx.leafI
  obtain⟨rfl,f'⟩:=vy.leafI
  exact⟨_,h,zAS f f' rx ry⟩
 ·obtain⟨rfl,f⟩:=vx.leafI
  obtain⟨a,xs,rfl,hs,_⟩:=vy.seqI
  cases ry
  have r:=kT I hu0 f rx hs
  exact⟨false,by simpa using h,r.2.2.1,r.2.2.2.2.1⟩
 ·obtain⟨rfl,f⟩:=vy.leafI
  obtain⟨a,xs,rfl,hs,_⟩:=vx.seqI
  cases rx
  have r:=kT I hu0 f ry hs
  exact⟨false,by simpa using h,r.2.2.2.1,r.2.2.2.2.2⟩
 ·rename_i t Ts t' Us
  obtain⟨ok,q⟩:=h
  obtain⟨a,xs,rfl,hs,z,p⟩:=vx.seqI
  obtain⟨b,ys,rfl,hs',z',p'⟩:=vy.seqI
  cases rx
  cases ry
  refine⟨_,q,?_⟩
  by_cases tt:t=t'
  ·subst tt
   have e:(t==t&&cX Ts Us)=cX Ts Us:=by simp
   rw[e]
   refine zBE I hu0 hs hs' (Paired.length p) (Paired.length p') λj x y T U v u ex ey eT eU rx ry=>?_
   rcases ok with rfl|rfl|⟨o1,o2⟩
   ·cases eT
   ·cases eU
   ·obtain⟨T',eT',d,vx⟩:=eZ p ex
    obtain⟨U',eU',d',vy⟩:=eZ p' ey
    rw[eT]at eT';cases eT'
    rw[eU]at eU';cases eU'
    have k1:=o1 _ (List.mem_of_getElem? eT)
    have k2:=o2 _ (List.mem_of_getElem? eU)
    exact uM I 40 (by show X.A.units+1+40<_;omega) k1 k2 (k1.vp vx) (k2.vp vy) rx ry
  ·have e:(t==t'&&cX Ts Us)=false:=by simp[tt]
   rw[e]
   cases t<;>cases t'<;>first|exact absurd rfl tt|skip
   ·obtain⟨_,_,l1⟩:=PSeq.isList I hs
    obtain⟨_,_,l2⟩:=PSeq.isTup I hs'
    exact⟨.list_tuple l1 l2 hu0,.list_tuple l1 l2 hu0⟩
   ·obtain⟨_,_,l1⟩:=PSeq.isTup I hs
    obtain⟨_,_,l2⟩:=PSeq.isList I hs'
    exact⟨.tuple_list l1 l2 hu0,.tuple_list l1 l2 hu0⟩
 ·exact False.elim h
def zCG(K:W.Frag)(neg:Bool):R2:=λx y H Q=>∃T U,VA K H x T/\VA K H y U/\jK neg T U λW=>∃b,W=bT b/\Q (.bl b) H
theorem zH9(hu:X.A.units+64<cLine):OpR X (compareOp .Eq) (zCG X.K false):=by
 rintro pins s σ H x y v u Q I rx ry ⟨T,U,vx,vy,h⟩
 obtain⟨b,⟨b',e,q⟩,r,_⟩:=zBk I hu vx vy rx ry h
 cases e
 exact r X.prog X.w X.xe _ ⟨.bl b,H,I,rfl,by simpa using q⟩
theorem zH5(hu:X.A.units+64<cLine):OpR X (compareOp .NotEq) (zCG X.K true):=by
 rintro pins s σ H x y v u Q I rx ry ⟨T,U,vx,vy,h⟩
 obtain⟨b,⟨b',e,q⟩,_,r⟩:=zBk I hu vx vy rx ry h
 cases e
 exact r X.prog X.w X.xe _ ⟨.bl (!b),H,I,rfl,by simpa using q⟩
theorem zF{neg:Bool}{T U:Tv}{Q Q':Tv->Prop}(h:jK neg T U Q)(i:∀b,Q (bT b)->Q' (bT b)):jK neg T U Q':=by
 unfold jK at h ⊢
 split at h
 ·exact i _ h
 ·exact i _ h
 ·exact i _ h
 ·exact⟨h.1,i _ h.2⟩
 ·exact False.elim h
abbrev pEq:P2:=jK false
abbrev pNe:P2:=jK true
theorem gW(hu:X.A.units+64<cLine):PuCmp X (compareOp .Eq) pEq:=⟨_,zH9 hu,λx y T U H Q QQ vx vy h k=>⟨T,U,vx,vy,zF h λb q=>⟨b,rfl,k _ _ _ (Same.refl _) (.flat rfl) q⟩⟩⟩
theorem vW(hu:X.A.units+64<cLine):PuCmp X (compareOp .NotEq) pNe:=⟨_,zH5 hu,λx y T U H Q QQ vx vy h k=>⟨T,U,vx,vy,zF h λb q=>⟨b,rfl,k _ _ _ (Same.refl _) (.flat rfl) q⟩⟩⟩
end
end L2
namespace L2
open PySem PySem.Spec PyProof.Rows WordM
section
variable{X:Cx}{F:Fm}
theorem cH{K:W.Frag}{H:Hp}{xs:List V}{T:Tv}(h:VAs K H xs [T]):∃x,xs=[x]/\VA K H x T:=by
 cases h with
 |cons r t=>cases t;exact⟨_,rfl,r⟩
theorem rJ{K:W.Frag}{H:Hp}{xs:List V}{T U:Tv}(h:VAs K H xs [T,U]):∃x y,xs=[x,y]/\VA K H x T/\VA K H y U:=by
 cases h with
 |cons r t=>
  obtain⟨y,rfl,v⟩:=cH t
  exact⟨_,y,rfl,r,v⟩
def zI4(K:W.Frag):R2:=λx y H Q=>∃l b xs zs,x=.ref l/\y=.ref b/\Rd H l (.lst xs)/\Rd H b (.lst zs)/\xs.length+zs.length<=sizeLine/\∀p,H p=none->Q (.ref p) (upd H p (.lst (xs++zs)))
theorem zGI:OpR X (binaryOp .Add) (zI4 X.K):=by
 rintro pins s σ H _ _ v u Q I rx ry ⟨l,b,xs,zs,rfl,rfl,hH,hB,hz,q⟩
 cases rx
 cases ry
 obtain⟨z,its,n,r,e⟩:=hH.ok I.hok
 obtain⟨z2,its2,n2,r2,e2⟩:=hB.ok I.hok
 have l1:=r.length
 have l2:=r2.length
 refine PySem.P.add_list e e2 ?_ (by rw[List.size_toArray,List.size_toArray];omega)
 rw[show its.toArray++its2.toArray=(its++its2).toArray by simp]
 exact⟨.ref _,_,I.lnew (t':=s.toks) (r.append r2) (by rw[List.length_append];omega),rfl,q _ I.fresh⟩
def sD:P2
 |.leaf (.int i),.leaf (.int j),Q=>Q (iT (i+j))
 |.leaf (.str x),.leaf (.str y),Q=>x.length+y.length<=100000/\Q (sT (x++y))
 |.seq true xs,.seq true ys,Q=>xs.length+ys.length<=100000/\Q (.seq true (xs++ys))
 |.seq false xs,.seq false ys,Q=>xs.length+ys.length<=100000/\Q (.seq false (xs++ys))
 |_,_,_=>False
theorem bC:fW X (binaryOp .Add) sD:=⟨_,op_add.or (op_add_str.or (op_catG.or zGI)),λx y T U H Q QQ vx vy h k=>by
 unfold sD at h
 split at h
 ·obtain⟨rfl,_⟩:=vx.leafI
  obtain⟨rfl,_⟩:=vy.leafI
  exact .inl ⟨_,_,rfl,rfl,k _ _ _ (.flat rfl) h⟩
 ·obtain⟨rfl,_⟩:=vx.leafI
  obtain⟨rfl,_⟩:=vy.leafI
  exact .inr (.inl ⟨_,_,rfl,rfl,gM h.1,k _ _ _ (.flat rfl) h.2⟩)
 ·obtain⟨a,xs,rfl,hs,z,p⟩:=vx.seqI
  obtain⟨b,ys,rfl,hs',z',p'⟩:=vy.seqI
  have l1:xs.length=_:=Paired.length p
  have l2:ys.length=_:=Paired.length p'
  refine .inr (.inr (.inl ⟨a,b,xs,ys,rfl,rfl,hs,hs',gM (by omega),λr H' hr sm=>k _ _ _ ⟨sm,.inl (VA.seq (t:=true) hr (by rw[List.length_append];exact h.1) (sR (p.hs sm.hs) (p'.hs sm.hs)))⟩ h.2⟩))
 ·obtain⟨a,xs,rfl,⟨ob,hs⟩,z,p⟩:=vx.seqI
  obtain⟨b,ys,rfl,⟨ob',hs'⟩,z',p'⟩:=vy.seqI
  have l1:xs.length=_:=Paired.length p
  have l2:ys.length=_:=Paired.length p'
  refine .inr (.inr (.inr ⟨a,b,xs,ys,rfl,rfl,.inr ⟨ob,hs⟩,.inr ⟨ob',hs'⟩,gM (by omega),λr n=>k _ _ _ (Raw.lst n (by rw[List.length_append];exact h.1) (sR p p')) h.2⟩))
 ·exact False.elim h⟩
def pI2(C:Int->Int->Prop)(g:Int->Int->V):P2
 |.leaf (.int i),.leaf (.int j),Q=>C i j/\Q (.leaf (g i j))
 |_,_,_=>False
theorem vX{f:Value->Value->Sem Value}{C:Int->Int->Prop}{g:Int->Int->V}(h:OpR X f (rI C g))(fl:∀i j,dB (g i j)=true):PuCmp X f (pI2 C g):=⟨_,h,λx y T U H Q QQ vx vy h k=>by
 unfold pI2 at h
 split at h
 ·obtain⟨rfl,_⟩:=vx.leafI
  obtain⟨rfl,_⟩:=vy.leafI
  exact⟨_,_,rfl,rfl,h.1,k _ _ _ (Same.refl _) (.flat (fl _ _)) h.2⟩
 ·exact False.elim h⟩
def mF(g:Int->Int->V):P2
 |.leaf (.int i),.leaf (.int j),Q=>Q (.leaf (g i j))
 |_,_,_=>False
theorem qK{f:Value->Value->Sem Value}{g:Int->Int->V}(h:OpR X f (rI0 g))(fl:∀i j,dB (g i j)=true):PuCmp X f (mF g):=⟨_,h,λx y T U H Q QQ vx vy h k=>by
 unfold mF at h
 split at h
 ·obtain⟨rfl,_⟩:=vx.leafI
  obtain⟨rfl,_⟩:=vy.leafI
  exact⟨_,_,rfl,rfl,k _ _ _ (Same.refl _) (.flat (fl _ _)) h⟩
 ·exact False.elim h⟩
abbrev zJY:P2:=mF λi j=>.int (i-j)
theorem gU:fW X (binaryOp .Sub) zJY:=(qK zH4 λ_ _=>rfl).op
def zJt(i j:Int):Prop:=CMul i j\/(BigOk i/\BigOk j)
def xO:P2
 |.leaf (.int i),.leaf (.int j),Q=>zJt i j/\Q (iT (i*j))
 |.leaf (.str z),.leaf (.int n),Q=>(z.length<=1000/\n<=1000 /\ -1000<=n)/\Q (sT (mE z n))
 |_,_,_=>False
theorem zHE:fW X (binaryOp .Mult) xO:=⟨_,op_mul.or (op_mulB.or zGG),λx y T U H Q QQ vx vy h k=>by
 unfold xO at h
 split at h
 ·obtain⟨rfl,_⟩:=vx.leafI
  obtain⟨rfl,_⟩:=vy.leafI
  rcases h.1 with c|c
  ·exact .inl ⟨_,_,rfl,rfl,c,k _ _ _ (.flat rfl) h.2⟩
  ·exact .inr (.inl ⟨_,_,rfl,rfl,c,k _ _ _ (.flat rfl) h.2⟩)
 ·obtain⟨rfl,_⟩:=vx.leafI
  obtain⟨rfl,_⟩:=vy.leafI
  exact .inr (.inr ⟨_,_,rfl,rfl,h.1.1,h.1.2.1,h.1.2.2,k _ _ _ (.flat rfl) h.2⟩)
 ·exact False.elim h⟩
abbrev zJc:P2:=pI2 (λ_ j=>0<j/\BigOk j) λi j=>.int (i / j)
theorem zAT:fW X (binaryOp .FloorDiv) zJc:=(vX zAi λ_ _=>rfl).op
abbrev zJ3:P2:=pI2 (λ_ j=>0<j) λi j=>.int (i % j)
theorem lH:fW X (binaryOp .Mod) zJ3:=(vX iK λ_ _=>rfl).op
abbrev zJ1:P2:=pI2 zC2 λi j=>.int (i ^ j.toNat)
theorem nB:fW X (binaryOp .Pow) zJ1:=(vX zBM λ_ _=>rfl).op
def pLt:P2
 |.leaf (.int i),.leaf (.int j),Q=>Q (bT (decide (i<j)))
 |.leaf (.str x),.leaf (.str y),Q=>Q (bT (decide (x.cps.toList<y.cps.toList)))
 |_,_,_=>False
theorem iO:PuCmp X (compareOp .Lt) pLt:=⟨_,op_lt.or zEy,λx y T U H Q QQ vx vy h k=>by
 unfold pLt at h
 split at h
 ·obtain⟨rfl,_⟩:=vx.leafI
  obtain⟨rfl,_⟩:=vy.leafI
  exact .inl ⟨_,_,rfl,rfl,k _ _ _ (Same.refl _) (.flat rfl) h⟩
 ·obtain⟨rfl,_⟩:=vx.leafI
  obtain⟨rfl,_⟩:=vy.leafI
  exact .inr ⟨_,_,rfl,rfl,k _ _ _ (Same.refl _) (.flat rfl) h⟩
 ·exact False.elim h⟩
abbrev pLe:P2:=mF λi j=>.bl (decide (i<=j))
theorem iP:PuCmp X (compareOp .LtE) pLe:=qK zJd λ_ _=>rfl
abbrev pGt:P2:=mF λi j=>.bl (decide (j<i))
theorem vY:PuCmp X (compareOp .Gt) pGt:=qK zJe λ_ _=>rfl
abbrev pGe:P2:=mF λi j=>.bl (decide (j<=i))
theorem qU:PuCmp X (compareOp .GtE) pGe:=qK zJf λ_ _=>rfl
theorem qE{pins:List (Addr×Obj)}{σ:St}{H:Hp}{s:Shared}(I:Inv X pins σ H s):∀{n:Nat}{x:V}{T U:Tv},EqD n T->EqD n U->VP X.K H n x T->VP X.K H n x U->T=U
 |0,_,_,_,h,_,_,_=>False.elim h
 |n+1,x,T,U,d,d',h,h'=>by
  rcases h with⟨f,rfl⟩|⟨t,a,xs,Ts,rfl,e2,rfl,z,p⟩|⟨a,kvs,kts,rfl,e2,rfl,_⟩
  ·rcases h' with⟨_,rfl⟩|⟨t',a',xs',Ts',rfl,_⟩|⟨a',kvs',kts',rfl,_⟩
   ·rfl
   ·cases f
   ·cases f
  ·rcases h' with⟨f,rfl⟩|⟨t',a',xs',Ts',e1',e2',rfl,z',p'⟩|⟨a',kvs',kts',e1',e2',rfl,_⟩
   ·cases f
   ·cases e1'
    have tt:t=t':=by
     cases t<;>cases t'<;>first|rfl|skip
     ·obtain⟨_,_,l1⟩:=PSeq.isList I e2
      obtain⟨_,_,l2⟩:=PSeq.isTup I e2'
      exact absurd rfl (SeqAt.ne_of_list_tuple l1 l2)
     ·obtain⟨_,_,l1⟩:=PSeq.isList I e2'
      obtain⟨_,_,l2⟩:=PSeq.isTup I e2
      exact absurd rfl (SeqAt.ne_of_list_tuple l1 l2)
    subst tt
    have ex:xs=xs':=by
     cases t with
     |false=>exact I.list_inj (cO e2) (cO e2')
     |true=>exact I.tuple_inj e2 e2'
    subst ex
    have g:∀U∈Ts,EqD n U:=d
    have g':∀U∈Ts',EqD n U:=d'
    have key:∀{xs:List V} {Ts Ts':List Tv},Paired (VP X.K H n) xs Ts->Paired (VP X.K H n) xs Ts'->(∀U∈Ts,EqD n U)->(∀U∈Ts',EqD n U)->Ts=Ts':=by
     intro xs Ts Ts' p
     induction p generalizing Ts' with
     |nil=>intro p' _ _;cases p';rfl
     |cons r _ ih=>
      intro p' d d'
      cases p' with
      |cons r' t'=>rw[qE I (d _ (.head _)) (d' _ (.head _)) r r',ih t' (λU hU=>d U (.tail _ hU)) (λU hU=>d' U (.tail _ hU))]
    rw[key p p' g g']
   ·exact False.elim d'
  ·exact False.elim d
def sM(T:Tv)(Us:List Tv):Prop:=EqD 40 T/\∀U∈Us,EqD 40 U
open Classical in
theorem zAm{pins:List (Addr×Obj)}{σ:St}{H:Hp}{s:Shared}(I:Inv X pins σ H s)(hu:X.A.units+64<cLine){x:V}{T:Tv}{v:Value}{ys:List V}{Us:List Tv}{its:List Value}(vx:VA X.K H x T)(rx:RelV x v)(p:VAs X.K H ys Us)(r:Vals ys its)(ok:sM T Us):
  ∃e:Value->Bool,(∀y,y∈its.toArray->SeqAt.EqAt X.A.in1 s y v (e y))/\its.toArray.any e=Us.any λU=>eqT U T:=by
 obtain⟨dx,vx⟩:=vx
 have hx:=ok.1.vp vx
 refine⟨λw=>decide (∃y U,RelV y w/\VP X.K H 40 y U/\EqD 40 U/\eqT U T=true),λw hw=>?_,?_⟩
 ·have hw:w∈its:=by simpa using hw
  obtain⟨j,hj,rfl⟩:=List.mem_iff_getElem.mp hw
  have hj':j<ys.length:=by rw[r.length];exact hj
  obtain⟨u,eu,ru⟩:=r.get (List.getElem?_eq_getElem hj')
  rw[List.getElem?_eq_getElem hj]at eu
  cases eu
  obtain⟨U,eU,d,vU⟩:=eZ p (List.getElem?_eq_getElem hj')
  have dU:=ok.2 U (List.mem_of_getElem? eU)
  have e:=uM I 40 (A:=X.A.in1) (by show X.A.units+1+40<_;omega) dU ok.1 (dU.vp vU) hx ru rx
  have ee:decide (∃y U,RelV y its[j]/\VP X.K H 40 y U/\EqD 40 U/\eqT U T=true)=eqT U T:=by
   rw[Bool.eq_iff_iff,decide_eq_true_iff]
   constructor
   ·rintro⟨y,U',ry,vy,dy,z⟩
    have:=RelV.inj ry ru
    subst this
    rw[qE I dU dy (dU.vp vU) vy]
    exact z
   ·intro z
    exact⟨_,U,ru,dU.vp vU,dU,z⟩
  show SeqAt.EqAt X.A.in1 s its[j] v (decide (∃y U,RelV y its[j]/\VP X.K H 40 y U/\EqD 40 U/\eqT U T=true))
  rw[ee]
  exact e
 ·rw[Bool.eq_iff_iff,Array.any_eq_true',List.any_eq_true]
  constructor
  ·rintro⟨w,hw,z⟩
   rw[decide_eq_true_iff]at z
   obtain⟨y,U',ry,vy,dy,z⟩:=z
   have hw:w∈its:=by simpa using hw
   obtain⟨j,hj,rfl⟩:=List.mem_iff_getElem.mp hw
   have hj':j<ys.length:=by rw[r.length];exact hj
   obtain⟨u,eu,ru⟩:=r.get (List.getElem?_eq_getElem hj')
   rw[List.getElem?_eq_getElem hj]at eu
   cases eu
   obtain⟨U,eU,d,vU⟩:=eZ p (List.getElem?_eq_getElem hj')
   have dU:=ok.2 U (List.mem_of_getElem? eU)
   have:=RelV.inj ry ru
   subst this
   refine⟨U,List.mem_of_getElem? eU,?_⟩
   rw[qE I dU dy (dU.vp vU) vy]
   exact z
  ·rintro⟨U,hU,z⟩
   obtain⟨j,hj,rfl⟩:=List.mem_iff_getElem.mp hU
   obtain⟨y,ey,d,vy⟩:=oT p (List.getElem?_eq_getElem hj)
   obtain⟨u,eu,ru⟩:=r.get ey
   have dU:=ok.2 _ hU
   exact⟨u,by simpa using List.mem_of_getElem? eu,decide_eq_true ⟨y,_,ru,dU.vp vy,dU,z⟩⟩
def zJT(K:W.Frag)(neg:Bool):R2:=λx y H Q=>∃T t Us,VA K H x T/\VA K H y (.seq t Us)/\sM T Us/\Q (.bl (neg != Us.any λU=>eqT U T)) H
theorem zH7(hu:X.A.units+64<cLine):OpR X (compareOp .In) (zJT X.K false):=by
 rintro pins s σ H x y v u Q I rx ry ⟨T,t,Us,vx,vy,ok,q⟩
 obtain⟨a,ys,rfl,hs,z,p⟩:=vy.seqI
 cases ry
 cases t with
 |false=>
  obtain⟨its,r,l⟩:=PSeq.isList I hs
  obtain⟨e,h1,h2⟩:=zAm I hu vx rx p r ok
  exact SeqAt.in_listAt e l h1 ⟨.bl _,H,I,rfl,by rw[h2];simpa using q⟩
 |true=>
  obtain⟨its,r,l⟩:=PSeq.isTup I hs
  obtain⟨e,h1,h2⟩:=zAm I hu vx rx p r ok
  exact SeqAt.in_tupleAt e l h1 ⟨.bl _,H,I,rfl,by rw[h2];simpa using q⟩
def inS(i j:Str):Bool:=!(Builtin.Str.occurrences j i 0 j.length 1).isEmpty
def zCO(neg:Bool):P2
 |T,.seq _ Us,Q=>sM T Us/\Q (bT (neg != Us.any λU=>eqT U T))
 |.leaf (.str i),.leaf (.str j),Q=>Q (bT (neg != inS i j))
 |.leaf (.str k),.dct kts,Q=>Q (bT (neg != (jH kts k).isSome))
 |_,_,_=>False
abbrev pIn:P2:=zCO false
theorem zB2(hu:X.A.units+64<cLine):PuCmp X (compareOp .In) pIn:=⟨_,(zH7 hu).or (op_in_str.or (zDR (by omega))),λx y T U H Q QQ vx vy h k=>by
 unfold pIn zCO at h
 split at h
 ·exact .inl ⟨_,_,_,vx,vy,h.1,k _ _ _ (Same.refl _) (.flat rfl) h.2⟩
 ·obtain⟨rfl,_⟩:=vx.leafI
  obtain⟨rfl,_⟩:=vy.leafI
  exact .inr (.inl ⟨_,_,rfl,rfl,k _ _ _ (Same.refl _) (.flat rfl) (by simpa[inS]using h)⟩)
 ·rename_i kk kts
  obtain⟨rfl,_⟩:=vx.leafI
  obtain⟨a,kvs,rfl,⟨ob,hd⟩,n,z,p⟩:=vy.dctI
  refine .inr (.inr ⟨a,_,rfl,.inl ⟨kvs,.inr kk,.inr ⟨ob,hd⟩,rfl,rfl⟩,k _ _ _ (Same.refl _) (.flat rfl) ?_⟩)
  rcases zBa p kk with⟨e1,e2⟩|⟨U,v,e1,e2,_⟩
  ·rw[e2];rw[e1]at h;exact h
  ·rw[e2];rw[e1]at h;exact h
 ·exact False.elim h⟩
def pIx:P2
 |.seq _ Ts,.leaf (.int i),Q=>∃U,atI Ts i=some U/\Q U
 |.leaf (.str z),.leaf (.int i),Q=>z.length<=100000/\∃c,atI z.cps.toList i=some c/\Q (sT ⟨#[c]⟩)
 |.dct kts,.leaf (.str k),Q=>∃U,jH kts k=some U/\Q U
 |_,_,_=>False
theorem zD8{α β:Type}{R:α->β->Prop}{xs:List α}{ys:List β}{i:Int}{y:β}(p:Paired R xs ys)(h:atI ys i=some y):∃x,atI xs i=some x/\R x y:=by
 unfold atI at h ⊢
 rw[Paired.length p]
 cases e:ixN ys.length i with
 |none=>rw[e]at h;cases h
 |some j=>
  rw[e]at h
  obtain⟨x,ex,r⟩:=oT p (show ys[j]?=some y from h)
  exact⟨x,ex,r⟩
theorem zI7(hu:X.A.units+64<cLine):zC0 X pIx:=⟨_,ix_seq.or (zGQ (by omega)),λx y T U H Q QQ vx vy h k=>by
 unfold pIx at h
 split at h
 ·rename_i t Ts i
  obtain⟨rfl,_⟩:=vy.leafI
  obtain⟨a,xs,rfl,hs,z,p⟩:=vx.seqI
  obtain⟨U,e,q⟩:=h
  obtain⟨x,ex,v⟩:=zD8 p e
  cases t with
  |false=>exact .inl (.inl ⟨a,xs,i,x,rfl,rfl,cO hs,ex,k _ _ _ (.va v) q⟩)
  |true=>exact .inl (.inr (.inl ⟨a,xs,i,x,rfl,rfl,hs,ex,k _ _ _ (.va v) q⟩))
 ·obtain⟨rfl,_⟩:=vx.leafI
  obtain⟨rfl,_⟩:=vy.leafI
  obtain⟨l,c,e,q⟩:=h
  exact .inl (.inr (.inr ⟨_,_,c,rfl,rfl,gM l,e,k _ _ _ (.flat rfl) q⟩))
 ·rename_i kts kk
  obtain⟨rfl,_⟩:=vy.leafI
  obtain⟨a,kvs,rfl,⟨ob,hd⟩,n,z,p⟩:=vx.dctI
  obtain⟨U,e,q⟩:=h
  rcases zBa p kk with⟨e1,e2⟩|⟨U',v,e1,e2,vv⟩
  ·rw[e1]at e;cases e
  ·rw[e1]at e;cases e
   exact .inr ⟨a,v,rfl,.inl ⟨kvs,.inr kk,.inr ⟨ob,hd⟩,rfl,e2.symm⟩,k _ _ _ (.va vv) q⟩
 ·exact False.elim h⟩
def fL{α:Type}(xs:List α)(lo hi:Option Int):List α:=(xs.drop (HT.sIx xs.length 0 lo)).take (HT.sIx xs.length xs.length hi-HT.sIx xs.length 0 lo)
theorem yF{α β:Type}{R:α->β->Prop}:∀{l:List α}{m:List β}(n:Nat),Paired R l m->Paired R (l.drop n) (m.drop n)
 |_,_,0,p=>p
 |_,_,_+1,.nil=>.nil
 |_,_,n+1,.cons _ t=>yF n t
theorem zE{α β:Type}{R:α->β->Prop}:∀{l:List α}{m:List β}(n:Nat),Paired R l m->Paired R (l.take n) (m.take n)
 |_,_,0,p=>by rw[List.take_zero,List.take_zero];exact .nil
 |_,_,_+1,.nil=>.nil
 |_,_,n+1,.cons r t=>.cons r (zE n t)
theorem yM{α β:Type}{R:α->β->Prop}{l:List α}{m:List β}(lo hi:Option Int)(p:Paired R l m):Paired R (fL l lo hi) (fL m lo hi):=by
 unfold fL
 rw[Paired.length p]
 exact zE _ (yF _ p)
theorem zAy{α:Type}(xs:List α)(lo hi:Option Int):(fL xs lo hi).length<=xs.length:=by
 unfold fL
 rw[List.length_take,List.length_drop]
 omega
def zJ0:PSl
 |.seq t Ts,lo,hi,Q=>Q (.seq t (fL Ts lo hi))
 |.leaf (.str z),lo,hi,Q=>z.length<=100000/\Q (sT (Txt.slice z lo hi))
 |_,_,_,_=>False
theorem nV:zCX X zJ0:=⟨_,sl_list.or (sl_tupW.or zHl),λx T lo hi H Q QQ vx h k=>by
 cases T with
 |seq t Ts=>
  have h:Q (.seq t (fL Ts lo hi)):=h
  obtain⟨a,xs,rfl,hs,z,p⟩:=vx.seqI
  have z':(fL Ts lo hi).length<=100000:=Nat.le_trans (zAy _ _ _) z
  cases t with
  |false=>exact .inl ⟨a,xs,rfl,cO hs,λr n=>k _ _ _ (Raw.lst n z' (yM lo hi p)) h⟩
  |true=>exact .inr (.inl ⟨a,xs,rfl,hs,λr H' sm hr=>k _ _ _ ⟨sm,.inl (VA.seq (t:=true) hr z' (Paired.mapP (yM lo hi p) λ_ _ q=>VA.hs sm.hs q))⟩ h⟩)
 |leaf w=>
  cases w with
  |str zz=>
   have h:zz.length<=100000/\Q (sT (Txt.slice zz lo hi)):=h
   obtain⟨rfl,_⟩:=vx.leafI
   exact .inr (.inr ⟨_,rfl,gM h.1,k _ _ _ (.flat rfl) h.2⟩)
  |_=>exact False.elim h
 |dct kts=>exact False.elim h⟩
def xQ:Pn
 |[.seq _ Ts],Q=>Q (iT Ts.length)
 |[.leaf (.str z)],Q=>z.length<=100000/\Q (iT z.length)
 |[.dct kts],Q=>Q (iT kts.length)
 |_,_=>False
theorem cB:fE X (.builtin "len") xQ:=⟨_,call_len_seq.or (call_len_str.or zD6),λxs Ts H Q QQ vx h k=>by
 unfold xQ at h
 split at h
 ·rename_i t Ts
  obtain⟨x,rfl,v⟩:=cH vx
  obtain⟨a,xs,rfl,hs,z,p⟩:=v.seqI
  have l:xs.length=_:=Paired.length p
  refine .inl ⟨a,xs,rfl,?_,k _ _ _ (.flat rfl) (by rw[l];exact h)⟩
  cases t with
  |false=>exact .inl (cO hs)
  |true=>exact .inr hs
 ·obtain⟨x,rfl,v⟩:=cH vx
  obtain⟨rfl,_⟩:=v.leafI
  exact .inr (.inl ⟨_,rfl,gM h.1,k _ _ _ (.flat rfl) h.2⟩)
 ·obtain⟨x,rfl,v⟩:=cH vx
  obtain⟨a,kvs,rfl,⟨ob,hd⟩,n,z,p⟩:=v.dctI
  have l:kvs.length=_:=Paired.length p
  exact .inr (.inr ⟨a,kvs,rfl,.inr ⟨ob,hd⟩,k _ _ _ (.flat rfl) (by rw[l];exact h)⟩)
 ·exact False.elim h⟩
def eG(T:String):Tv->Bool
 |.leaf .non=>false
 |.leaf (.bl _)=>T=="bool" || T=="int"
 |.leaf (.int _)=>T=="int"
 |.leaf (.str _)=>T=="str"
 |.leaf _=>false
 |.seq false _=>T=="list"
 |.seq true _=>T=="tuple"
 |.dct _=>T=="dict"
theorem zIM{K:W.Frag}{H:Hp}{x:V}{W:Tv}(T:String)(v:VA K H x W):TyV K T x H (eG T W):=by
 cases W with
 |leaf w=>
  obtain⟨rfl,f⟩:=v.leafI
  rcases iW f with rfl|⟨b,rfl⟩|⟨b,rfl⟩|⟨b,rfl⟩<;>rfl
 |seq t Ts=>
  obtain⟨a,xs,rfl,hs,z,p⟩:=v.seqI
  cases t with
  |false=>exact .inl ⟨xs,cO hs,rfl⟩
  |true=>exact .inr (.inl ⟨xs,hs,rfl⟩)
 |dct kts=>
  obtain⟨a,kvs,rfl,⟨ob,hd⟩,n,z,p⟩:=v.dctI
  exact .inr (.inr ⟨kvs,.inr ⟨ob,hd⟩,rfl⟩)
def zJx(T:String)(u:UT):UT:=λρ Q=>u ρ λW ρ1=>Q (bT (eG T W)) ρ1
theorem eM{e t:Expr}{u:UT}{p pos:Pos}(T:String)(hc:CallR X (.builtin "isinstance") (λxs H Q=>∃x b,xs=[x,.ty T]/\TyV X.K T x H b/\Q (.bl b) H))(hg:Gl X "isinstance")(hm:X.mg "isinstance"=none)(he:UE X F e u)(ht:PE X t (tC (.ty T)))
  (h1:fQ e=false:=by rfl) (h2:fQ t=false:=by rfl) (hpl:(backTo pos (starEach [t] X.env)).any (·.1)=false:=by rfl):UE X F (.Call (.Name "isinstance" p) [e,t] [] pos) (zJx T u):=
 ⟨PE.imp (mO hc hg hm boot_isinstance (dH he.pe (dH ht eR h2) h1) (by decide) (by decide) (pA h1) hpl) λσ H QQ ⟨ρ,Q,f,h,k⟩=>
  ⟨ρ,_,f,h,λx W H1 ρ1 s1 v1 q1=>⟨x,_,rfl,zIM T v1,k _ _ _ _ s1 (.flat rfl) q1⟩⟩⟩
theorem zAD{K:W.Frag}{H:Hp}:∀{xs:List V}{bs:List Bool},VAs K H xs (bs.map bT)->xs=bs.map V.bl
 |[],[],_=>rfl
 |_::_,_::_,.cons r t=>by rw[List.map_cons,<-zAD t,(VA.leafI r).1]
theorem pD{K:W.Frag}{H:Hp}:∀{xs:List V}{ns:List Int},VAs K H xs (ns.map iT)->xs=ns.map V.int
 |[],[],_=>rfl
 |_::_,_::_,.cons r t=>by rw[List.map_cons,<-pD t,(VA.leafI r).1]
theorem iC{K:W.Frag}{H:Hp}:∀{xs:List V}{ss:List Str},VAs K H xs (ss.map sT)->xs=ss.map V.str
 |[],[],_=>rfl
 |_::_,_::_,.cons r t=>by rw[List.map_cons,<-iC t,(VA.leafI r).1]
theorem zAB{K:W.Frag}{H:Hp}:∀(ns:List Int),VAs K H (ns.map V.int) (ns.map iT)
 |[]=>.nil
 |_::ns=>.cons (.flat rfl) (zAB ns)
theorem tU{K:W.Frag}{H:Hp}:∀(ss:List Str),VAs K H (ss.map V.str) (ss.map sT)
 |[]=>.nil
 |_::ss=>.cons (.flat rfl) (tU ss)
def zJ8:Pn:=λTs Q=>∃bs:List Bool,Ts=[.seq false (bs.map bT)]/\Q (bT (bs.all id))
theorem iJ(hc:X.calm=true):fE X (.builtin "all") zJ8:=⟨_,zEW hc,λxs Ts H Q QQ vx h k=>by
 obtain⟨bs,rfl,q⟩:=h
 obtain⟨x,rfl,v⟩:=cH vx
 obtain⟨a,ys,rfl,hs,z,p⟩:=v.seqI
 rw[zAD p]at hs
 exact⟨a,bs,rfl,cO hs,k _ _ _ (.flat rfl) q⟩⟩
def zJ4:Pn:=λTs Q=>(∃i j:Int,Ts=[iT i,iT j]/\Q (iT (min i j)))\/(∃ns:List Int,Ts=[.seq false (ns.map iT)]/\0<ns.length/\∀M,M∈ns->(∀a∈ns,M<=a)->Q (iT M)) \/
 ∃ss:List Str,Ts=[.seq false (ss.map sT)]/\0<ss.length/\∀x,x∈ss->(∀y∈ss,x.cps.toList<=y.cps.toList)->Q (sT x)
def zJ5:Pn:=λTs Q=>(∃i j:Int,Ts=[iT i,iT j]/\Q (iT (max i j)))\/(∃ns:List Int,Ts=[.seq false (ns.map iT)]/\0<ns.length/\∀M,M∈ns->(∀a∈ns,a<=M)->Q (iT M)) \/
 ∃ss:List Str,Ts=[.seq false (ss.map sT)]/\0<ss.length/\∀x,x∈ss->(∀y∈ss,y.cps.toList<=x.cps.toList)->Q (sT x)
theorem nC(hc:X.calm=true):fE X (.builtin "min") zJ4:=⟨_,(zEQ hc).or ((zER hc).or (zD3 hc)),λxs Ts H Q QQ vx h k=>by
 rcases h with⟨i,j,rfl,q⟩|⟨ns,rfl,l,q⟩|⟨ss,rfl,l,q⟩
 ·obtain⟨x,y,rfl,v,v'⟩:=rJ vx
  obtain⟨rfl,_⟩:=v.leafI
  obtain⟨rfl,_⟩:=v'.leafI
  refine .inl ⟨i,j,rfl,k _ _ _ (.flat rfl) ?_⟩
  have e:(if j<i then j else i)=min i j:=by split<;>omega
  rw[e];exact q
 ·obtain⟨x,rfl,v⟩:=cH vx
  obtain⟨a,ys,rfl,hs,z,p⟩:=v.seqI
  rw[pD p]at hs
  exact .inr (.inl ⟨a,ns,rfl,cO hs,l,λM h1 h2=>k _ _ _ (.flat rfl) (q M h1 h2)⟩)
 ·obtain⟨x,rfl,v⟩:=cH vx
  obtain⟨a,ys,rfl,hs,z,p⟩:=v.seqI
  rw[iC p]at hs
  exact .inr (.inr ⟨a,ss,rfl,cO hs,l,λM h1 h2=>k _ _ _ (.flat rfl) (q M h1 h2)⟩)⟩
theorem zBH(hc:X.calm=true):fE X (.builtin "max") zJ5:=⟨_,(zES hc).or ((zET hc).or (zD4 hc)),λxs Ts H Q QQ vx h k=>by
 rcases h with⟨i,j,rfl,q⟩|⟨ns,rfl,l,q⟩|⟨ss,rfl,l,q⟩
 ·obtain⟨x,y,rfl,v,v'⟩:=rJ vx
  obtain⟨rfl,_⟩:=v.leafI
  obtain⟨rfl,_⟩:=v'.leafI
  refine .inl ⟨i,j,rfl,k _ _ _ (.flat rfl) ?_⟩
  have e:(if j > i then j else i)=max i j:=by split<;>omega
  rw[e];exact q
 ·obtain⟨x,rfl,v⟩:=cH vx
  obtain⟨a,ys,rfl,hs,z,p⟩:=v.seqI
  rw[pD p]at hs
  exact .inr (.inl ⟨a,ns,rfl,cO hs,l,λM h1 h2=>k _ _ _ (.flat rfl) (q M h1 h2)⟩)
 ·obtain⟨x,rfl,v⟩:=cH vx
  obtain⟨a,ys,rfl,hs,z,p⟩:=v.seqI
  rw[iC p]at hs
  exact .inr (.inr ⟨a,ss,rfl,cO hs,l,λM h1 h2=>k _ _ _ (.flat rfl) (q M h1 h2)⟩)⟩
def zGE:List Tv->(List Tv->Prop)->Prop:=λTs Q=>∃t Us,Ts=[.seq t Us]/\Q Us
theorem zC:qC X (.type "list") zGE:=⟨_,yA,λxs Ts H Q QQ vx h k=>by
 obtain⟨t,Us,rfl,q⟩:=h
 obtain⟨x,rfl,v⟩:=cH vx
 obtain⟨a,ys,rfl,hs,z,p⟩:=v.seqI
 refine⟨a,ys,rfl,?_,λl n=>k l ys Us _ (fA n) n bF z (VAs.hs (lL n) p) q⟩
 cases t with
 |false=>exact .inl (cO hs)
 |true=>exact .inr hs⟩
def zHX:Pn:=λTs Q=>∃t Us,Ts=[.seq t Us]/\Q (.seq true Us)
theorem jX:fE X (.type "tuple") zHX:=⟨_,zDg,λxs Ts H Q QQ vx h k=>by
 obtain⟨t,Us,rfl,q⟩:=h
 obtain⟨x,rfl,v⟩:=cH vx
 obtain⟨a,ys,rfl,hs,z,p⟩:=v.seqI
 refine⟨a,ys,rfl,?_⟩
 cases t with
 |false=>exact .inl ⟨cO hs,λl n=>k _ _ _ (Raw.tup n z p) q⟩
 |true=>exact .inr ⟨hs,k _ _ _ (.va v) q⟩⟩
def zGD:List Tv->(List Tv->Prop)->Prop:=λTs Q=>(∃ns:List Int,Ts=[.seq false (ns.map iT)]/\ns.length<64/\∀ms:List Int,ms.Perm ns->ms.Pairwise (·<=·)->Q (ms.map iT)) \/
 (∃ss:List Str,Ts=[.seq false (ss.map sT)]/\ss.length<64/\Q ((eS ss).map sT))\/∃kts,Ts=[.dct kts]/\Q ((eS (kts.map (·.1))).map sT)
theorem zEY{K:W.Frag}{H:Hp}{kvs:List (Key×V)}{kts:List (Str×Tv)}(p:VAk K H kvs kts):kvs.map (·.1)=(kts.map (·.1)).map Sum.inr:=by
 unfold VAk at p
 induction p with
 |nil=>rfl
 |cons r _ ih=>rw[List.map_cons,List.map_cons,List.map_cons,ih,r.1]
theorem sV(us:List Str):(eS us).length=us.length:=(oW us).length_eq
theorem sW(hc:X.calm=true):qC X (.builtin "sorted") zGD:=⟨_,call_sortedI.or (call_sortedS.or (zDn hc)),λxs Ts H Q QQ vx h k=>by
 rcases h with⟨ns,rfl,l,q⟩|⟨ss,rfl,l,q⟩|⟨kts,rfl,q⟩
 ·obtain⟨x,rfl,v⟩:=cH vx
  obtain⟨a,ys,rfl,hs,z,p⟩:=v.seqI
  rw[pD p]at hs
  refine .inl ⟨a,ns,rfl,cO hs,l,λms b h1 h2 n=>k b _ _ _ (fA n) n bF (by rw[List.length_map,h1.length_eq];omega) (zAB ms) (q ms h1 h2)⟩
 ·obtain⟨x,rfl,v⟩:=cH vx
  obtain⟨a,ys,rfl,hs,z,p⟩:=v.seqI
  rw[iC p]at hs
  refine .inr (.inl ⟨a,ss,rfl,cO hs,l,λms b h1 h2 n=>k b _ _ _ (fA n) n bF (by rw[List.length_map,h1.length_eq];omega) (tU ms) (by rw[tK h1 h2];exact q)⟩)
 ·obtain⟨x,rfl,v⟩:=cH vx
  obtain⟨a,kvs,rfl,⟨ob,hd⟩,nd,z,p⟩:=v.dctI
  refine .inr (.inr ⟨a,ob,kvs,kts.map (·.1),rfl,hd,zEY p,by rw[List.length_map];exact z,λms b h1 h2 n=>k b _ _ _ (fA n) n bF (by rw[List.length_map,h1.length_eq,List.length_map];omega) (tU ms) (by rw[tK h1 h2];exact q)⟩)⟩
theorem zF0{K:W.Frag}{H:Hp}{n:Nat}:VAs K H ((List.range n).map λ(i:Nat)=>V.int i) (fK 0 n):=by
 unfold fK
 generalize List.range n=l
 induction l with
 |nil=>exact .nil
 |cons i l ih=>exact .cons (show VA K H (V.int i) (iT (0+i)) by rw[Int.zero_add];exact .flat rfl) ih
def zHe(ua:UTa):UTl:=λρ Q=>uVs ua ρ λTs ρ1=>∃n:Nat,Ts=[iT n]/\n<=100000/\Q (fK 0 n) ρ1
theorem zEZ{a:Expr}{ua:UTa}{p p' pos pos':Pos}(hc:X.calm=true)(hg:Gl X "range")(hm:X.mg "range"=none)(hg':Gl X "list")(hm':X.mg "list"=none)(ha:UA X F [a] ua)
  (he:starEach [a] X.env=(false,eval a X.env)::starEach [] X.env:=by rfl) (hpl:(backTo pos (starEach [] X.env)).any (·.1)=false:=by rfl) (hpl':(backTo pos' (starEach [] X.env)).any (·.1)=false:=by rfl):
  UL X F (.Call (.Name "list" p') [.Call (.Name "range" p) [a] [] pos] [] pos') (zHe ua):=⟨PE.imp (mJ (zD5 hc) hg' hm' boot_list (dH (mJ zDD hg hm boot_range ha.pa (by decide) (by decide) he hpl) eR rfl) (by decide) (by decide) rfl hpl') λσ H QQ ⟨ρ,Q,f,h,k⟩=>by
 refine⟨ρ,_,f,h,λxs as H1 ρ1 s1 p1 q1=>?_⟩
 obtain⟨Ts,rfl,n,rfl,l,q⟩:=iF q1
 obtain⟨x,rfl,v⟩:=cH (iG p1)
 obtain⟨rfl,_⟩:=v.leafI
 refine⟨n,rfl,λr nr=>⟨r,n,rfl,bF,gM l,λb nb=>?_⟩⟩
 have sm:=(fA (o:=.rng 0 n) nr).trans (fA (o:=.lst ((List.range n).map λ(i:Nat)=>V.int i)) nb)
 refine k _ _ _ _ _ (s1.trans (Stp.same s1.fr sm)) (s1.non ((fA nr).free nb)) bF (by simp[fK];exact l) ?_ q
 exact zF0⟩
def zCN:Pn
 |[.leaf (.int i)],Q=>Q (iT i)
 |[.leaf (.bl b)],Q=>Q (iT (if b then 1 else 0))
 |_,_=>False
theorem vC:fE X (.type "int") zCN:=⟨_,zEV,λxs Ts H Q QQ vx h k=>by
 unfold zCN at h
 split at h
 ·obtain⟨x,rfl,v⟩:=cH vx
  obtain⟨rfl,_⟩:=v.leafI
  exact .inl ⟨_,rfl,k _ _ _ (.flat rfl) h⟩
 ·obtain⟨x,rfl,v⟩:=cH vx
  obtain⟨rfl,_⟩:=v.leafI
  exact .inr ⟨_,rfl,k _ _ _ (.flat rfl) h⟩
 ·exact False.elim h⟩
def zJZ:Pn:=λTs Q=>∃i:Int,Ts=[iT i]/\i.natAbs.log2<1920/\Q (sT (toString i))
theorem lG:fE X (.type "str") zJZ:=⟨_,zDm,λxs Ts H Q QQ vx h k=>by
 obtain⟨i,rfl,l,q⟩:=h
 obtain⟨x,rfl,v⟩:=cH vx
 obtain⟨rfl,_⟩:=v.leafI
 exact⟨i,rfl,l,k _ _ _ (.flat rfl) q⟩⟩
def zJ2:Pn:=λTs Q=>∃z:Str,Ts=[sT z]/\z.length=1/\Q (iT (z.cps.getD 0 0:Nat))
theorem zHD:fE X (.builtin "ord") zJ2:=⟨_,zFZ,λxs Ts H Q QQ vx h k=>by
 obtain⟨z,rfl,l,q⟩:=h
 obtain⟨x,rfl,v⟩:=cH vx
 obtain⟨rfl,_⟩:=v.leafI
 exact⟨z,rfl,l,k _ _ _ (.flat rfl) q⟩⟩
def uBM(T:String)(r:Tv->List Tv->(Tv->Prop)->Prop)(u:UT)(ua:UTa):UT:=λρ Q=>u ρ λW ρ1=>eG T W=true/\uVs ua ρ1 λTs ρ2=>r W Ts λW'=>Q W' ρ2
theorem zF9{K:W.Frag}{H:Hp}{x:V}{W:Tv}(v:VA K H x W)(h:eG "str" W=true):tyV K "str" x H:=by
 cases W with
 |leaf w=>
  obtain⟨rfl,f⟩:=v.leafI
  rcases iW f with rfl|⟨b,rfl⟩|⟨b,rfl⟩|⟨b,rfl⟩
  ·cases h
  ·cases h
  ·cases h
  ·rfl
 |seq t Ts=>cases t<;>cases h
 |dct kts=>cases h
theorem gS{name:Str}{id:String}{r:Tv->List Tv->(Tv->Prop)->Prop}{o e:Expr}{es:List Expr}{u:UT}{ua:UTa}{apos cpos:Pos}(slot:Slot "str" name id)(hty:typeOf (.builtin id)=pure (.type "method_descriptor"))
  (hm:∃r',MtR X id r'/\∀x W xs Ts H Q (QQ:VK),VA X.K H x W->VAs X.K H xs Ts->r W Ts Q->(∀z W H',Raw X.K H H' z W->Q W->QQ z H')->r' x xs H QQ) (ho:UE X F o u) (ha:UA X F (e::es) ua)
  (hbase:attributeBase o name X.env (eval o X.env)=eval o X.env:=by rfl)
  (hfew:((backTo cpos (starEach (e::es) X.env)).all (λx=>!x.1)&&(backToKw cpos (keywordEach [] X.env)).all (λx=>x.1.isSome)&&decide ((e::es).length+([]:List Keyword).length+(if ([]:List Keyword).isEmpty then 0 else 1)<30))=true:=by rfl)
  (hline:(apos.endLine==cpos.line)=true:=by rfl) (hs:starEach (e::es) X.env=(false,eval e X.env)::starEach es X.env:=by rfl) (hplain:(backTo cpos (starEach es X.env)).any (·.1)=false:=by rfl):
  UE X F (.Call (.Attribute o name apos) (e::es) [] cpos) (uBM "str" r u ua):=by
 obtain⟨r',m,hr⟩:=hm
 refine⟨PE.imp (PE.fz (nZ PySem.F.plainAttrs_str slot hty m ho.pe ha.pa hbase hfew hline hs hplain)) λσ H QQ ⟨ρ,Q,f,h,k⟩=>⟨ρ,_,f,h,λx W H1 ρ1 s1 v1 q1=>⟨zF9 v1 q1.1,ρ1,_,s1.fr,q1.2,λxs as H2 ρ2 s2 p2 q2=>?_⟩⟩⟩
 obtain⟨Ts,rfl,q⟩:=iF q2
 exact hr x W xs Ts H2 _ _ (v1.hs (s2.hs s1.fr)) (iG p2) q λz W' H' rw q=>rw.fin s2.fr λH'' s4 v4=>k _ _ _ _ ((s1.trans s2).trans s4) v4 q
def zJb:Tv->List Tv->(Tv->Prop)->Prop:=λW Ts Q=>∃i j:Str,W=sT i/\Ts=[sT j]/\∀n:Int,Q (iT n)
theorem zGt:∃r',MtR X "str.find" r'/\∀x W xs Ts H Q (QQ:VK),VA X.K H x W->VAs X.K H xs Ts->zJb W Ts Q->(∀z W H',Raw X.K H H' z W->Q W->QQ z H')->r' x xs H QQ:=⟨_,zGL,λx W xs Ts H Q QQ v p h k=>by
 obtain⟨i,j,rfl,rfl,q⟩:=h
 obtain⟨rfl,_⟩:=v.leafI
 obtain⟨y,rfl,v'⟩:=cH p
 obtain⟨rfl,_⟩:=v'.leafI
 exact⟨i,j,rfl,rfl,λn=>k _ _ _ (.flat rfl) (q n)⟩⟩
def zI9:Tv->List Tv->(Tv->Prop)->Prop:=λW Ts Q=>∃ss:List Str,W=sT ⟨#[]⟩/\Ts=[.seq false (ss.map sT)]/\(bU ss).length<=100000/\Q (sT ⟨(bU ss).toArray⟩)
theorem zA3:∃r',MtR X "str.join" r'/\∀x W xs Ts H Q (QQ:VK),VA X.K H x W->VAs X.K H xs Ts->zI9 W Ts Q->(∀z W H',Raw X.K H H' z W->Q W->QQ z H')->r' x xs H QQ:=⟨_,zGK,λx W xs Ts H Q QQ v p h k=>by
 obtain⟨ss,rfl,rfl,l,q⟩:=h
 obtain⟨rfl,_⟩:=v.leafI
 obtain⟨y,rfl,v'⟩:=cH p
 obtain⟨a,ys,rfl,hs,z,p'⟩:=v'.seqI
 rw[iC p']at hs
 refine⟨a,ss,rfl,rfl,cO hs,l,λz e=>k _ _ _ (.flat rfl) ?_⟩
 have:z=⟨(bU ss).toArray⟩:=by
  cases z with
  |mk c=>congr 1;have e:c.toList=bU ss:=e;rw[<-e]
 rw[this];exact q⟩
end
end L2
namespace L2
open PySem PySem.Spec PyProof.Rows WordM
section
variable{X:Cx}{F:Fm}{pos:Pos}
def fT(K:W.Frag)(mg:Str->Option Value)(x:Str)(T:Tv):Prop:=∃v u,mg x=some u/\RelV v u/\∀H,VA K H v T
theorem nR{x:Str}{T:Tv}(G:fT X.K X.mg x T)(hg:Gl X x)(hd:(x==("__debug__":Str))=false:=by decide):UE X F (.Name x pos) (uC T):=by
 obtain⟨v,u,m,r,h⟩:=G
 exact zF6 hg m r h hd
def oE(K:W.Frag)(prm:Params)(mg:Str->Option Value)(x:Str)(kvs:List (Str×Str)):Prop:=∃d,mg x=some (.ref d)/\zCh K prm d kvs
def uKD(kvs:List (Str×Str))(u:UT):UT:=λρ Q=>u ρ λT ρ1=>∃i j,T=sT i/\eO kvs i=some j/\Q (sT j) ρ1
theorem zBY{x:Str}{p:Pos}{e:Expr}{u:UT}{kvs:List (Str×Str)}(G:oE X.K X.w.params X.mg x kvs)(hg:Gl X x)(he:UE X F e u)(hs:qD e:=by intro _ _;rfl)(hd:(x==("__debug__":Str))=false:=by decide):UE X F (.Subscript (.Name x p) e pos) (uKD kvs u):=by
 obtain⟨d,m,D⟩:=G
 refine⟨PE.imp (iQ (zJj D) (pW (v:=.ref d) hg m rfl hd) he.pe hs) λσ H QQ ⟨ρ,Q,f,h,k⟩=>⟨ρ,_,f,h,λy T H1 ρ1 s1 v1 q1=>?_⟩⟩
 obtain⟨i,j,rfl,ej,q⟩:=q1
 obtain⟨rfl,_⟩:=v1.leafI
 exact⟨i,j,rfl,rfl,ej,k _ _ _ _ s1 (.flat rfl) q⟩
end
def kM(own:Nat)(fr:List Nat)(g:UG)(tf:UTt)(ue:UT)(T:Tv)(ρ:aQ)(R:Option Tv->aQ->Prop):Prop:=g T (blk own fr ρ) λρ1=>tf ρ1 λb ρ2=>if b=true then ue ρ2 λU ρ3=>R (some U) (bck own fr ρ ρ3) else R none (bck own fr ρ ρ2)
section
variable{own:Nat}{fr:List Nat}{g:UG}{tf:UTt}{ue:UT}
def zJs(own:Nat)(fr:List Nat)(g:UG)(tf:UTt)(ue:UT)(Ts:List Tv)(Q:List Tv->aQ->Prop)(o:Option Tv)(ρ:aQ):Prop:=match o with
 |some U=>eX own fr g tf ue Ts ρ λUs ρ4=>Q (U::Us) ρ4
 |none=>eX own fr g tf ue Ts ρ Q
theorem oZ(T:Tv)(Ts:List Tv)(ρ:aQ)(Q:List Tv->aQ->Prop):eX own fr g tf ue (T::Ts) ρ Q=kM own fr g tf ue T ρ (zJs own fr g tf ue Ts Q):=rfl
theorem pJ{ρ:aQ}(f:Tv->Option Tv):∀{Ts:List Tv}{Q:List Tv->aQ->Prop},(∀T∈Ts,∀R:Option Tv->aQ->Prop,R (f T) ρ->kM own fr g tf ue T ρ R)->Q (Ts.filterMap f) ρ->eX own fr g tf ue Ts ρ Q
 |[],_,_,q=>q
 |T::Ts,Q,h,q=>by
  rw[oZ]
  refine h T (.head _) _ ?_
  rw[List.filterMap_cons]at q
  cases e:f T with
  |none=>rw[e]at q;exact pJ f (λT' hT'=>h T' (.tail _ hT')) q
  |some U=>rw[e]at q;exact pJ (Q:=λUs ρ4=>Q (U::Us) ρ4) f (λT' hT'=>h T' (.tail _ hT')) q
theorem iY{ρ:aQ}(f:Tv->Tv){Ts:List Tv}{Q:List Tv->aQ->Prop}(h:∀T∈Ts,∀R:Option Tv->aQ->Prop,R (some (f T)) ρ->kM own fr g tf ue T ρ R)(q:Q (Ts.map f) ρ):eX own fr g tf ue Ts ρ Q:=
 pJ (λT=>some (f T)) h (by rw[show Ts.filterMap (λT=>some (f T))=Ts.map f from List.filterMap_eq_map'▸rfl];exact q)
theorem tE{ρ:aQ}{Ts:List Tv}{Q:List Tv->aQ->Prop}(J:Nat->List Tv->aQ->Prop)(h0:J 0 [] ρ)(hs:∀i T Us ρ',Ts[i]?=some T->J i Us ρ'->∀R:Option Tv->aQ->Prop,(∀o ρ'',J (i+1) (Us++o.toList) ρ''->R o ρ'')->kM own fr g tf ue T ρ' R)
  (hd:∀Us ρ',J Ts.length Us ρ'->Q Us ρ'):eX own fr g tf ue Ts ρ Q:=by
 have key:∀(n i:Nat) (Us:List Tv) (ρ:aQ) (Q:List Tv->aQ->Prop),n+i=Ts.length->J i Us ρ->(∀Vs ρ',J Ts.length (Us++Vs) ρ'->Q Vs ρ')->eX own fr g tf ue (Ts.drop i) ρ Q:=by
  intro n
  induction n with
  |zero=>
   intro i Us ρ Q e j hd
   have:i=Ts.length:=by omega
   subst this
   rw[List.drop_length]
   exact hd [] ρ (by rw[List.append_nil];exact j)
  |succ n ih=>
   intro i Us ρ Q e j hd
   have hi:i<Ts.length:=by omega
   rw[List.drop_eq_getElem_cons hi,oZ]
   refine hs i _ Us ρ (List.getElem?_eq_getElem hi) j _ λo ρ'' j'=>?_
   cases o with
   |none=>exact ih (i+1) _ ρ'' Q (by omega) j' λVs ρ' q=>hd Vs ρ' (by simpa using q)
   |some U=>exact ih (i+1) _ ρ'' (λUs ρ4=>Q (U::Us) ρ4) (by omega) j' λVs ρ' q=>hd (U::Vs) ρ' (by simpa using q)
 exact key Ts.length 0 [] ρ Q (by omega) h0 λVs ρ' q=>hd Vs ρ' (by simpa using q)
theorem jZ{g:UG}{ub:UTs}{Ts:List Tv}{P:PEnds}{ρ:aQ}(J:Nat->aQ->Prop)(h0:J 0 ρ)(hs:∀i T ρ' (N:aQ->Prop),Ts[i]?=some T->J i ρ'->(∀ρ'',J (i+1) ρ''->N ρ'')->g T ρ' λρ1=>ub {P with nx:=N,ct:=N,bk:=P.nx} ρ1)
  (hd:∀ρ',J Ts.length ρ'->P.nx ρ'):hE g ub Ts P ρ:=by
 have key:∀(n i:Nat) (ρ:aQ),n+i=Ts.length->J i ρ->hE g ub (Ts.drop i) P ρ:=by
  intro n
  induction n with
  |zero=>
   intro i ρ e j
   have:i=Ts.length:=by omega
   subst this
   rw[List.drop_length]
   exact hd ρ j
  |succ n ih=>
   intro i ρ e j
   have hi:i<Ts.length:=by omega
   rw[List.drop_eq_getElem_cons hi]
   exact hs i _ ρ (λρ'=>hE g ub (Ts.drop (i+1)) P ρ') (List.getElem?_eq_getElem hi) j λρ'' j'=>ih (i+1) ρ'' (by omega) j'
 exact key Ts.length 0 ρ (by omega) h0
end
end L2
namespace L2
open PySem PySem.Spec PyProof.Rows WordM
def fD:PSp:=λas R=>∃m:Int,as=[.dk,.va (iT m)]/\0<m/\BigOk m/\∀r:Int,0<=r->r<m->R (iT r)
theorem On.kp{p c:Addr}{H H':Hp}(o:On p c H H'):Kp (some (p,c)) none H H':=⟨λb u e n _=>o.e b u e (n p c rfl).1 (n p c rfl).2,λp' c' e=>by cases e;exact o.d,λ_ _ z=>(nomatch z)⟩
theorem Good.take{P:Program}{w:World}{K:W.Frag}{mg:Str->Option Value}{base:Heap}{k:Nat}{x:Str}{ps:List Str}(G:Good P w K mg base k x ps zBA):aG P w K mg base k x ps fD:=Good.imp G λvs H Q E ⟨dk,as,R,d,p,⟨m,e,hm,hb,q⟩,kk⟩=>by
 subst e
 cases p with
 |cons r1 t1=>
  cases t1 with
  |cons r2 t2=>
   cases t2
   obtain⟨p,c,ed,rfl⟩:=r1
   subst ed
   obtain⟨rfl,_⟩:=VA.leafI r2
   exact⟨p,c,m,rfl,d p c rfl,hm,hb,λr H' h1 h2 o=>kk _ _ _ o.kp (.flat rfl) (q r h1 h2)⟩
theorem tH{X:Cx}{F:Fm}{st:List Stmt}:USs X F st (λ_ _=>False):=⟨PSs.imp zEu λD σ H ⟨_,_,_,h,_⟩=>h⟩
theorem Has.pfalse{P:Program}{w:World}{K:W.Frag}{mg:Str->Option Value}{base:Heap}{x:Str}{st:Stmt}{N ps:List Str}{k:Nat}{psp:PSp}(h:Has K mg x st)(S:bM N ps (aO st))
  (hb:∀(kV doc pm:Value) (an:Option Addr) (cdv ct:Value) (us:List Value),us.length=ps.length->bindArgs (W.fnOf x x (cN st) (bR st) (aO st) .none kV doc pm an cdv ct) ⟨us,[]⟩=pure (ps.zip us)) (hf:∀as R,psp as R->False):aG P w K mg base (k+1) x ps psp:=
 h.pgood S hb (λ_ _ _ _ _ _ _ _ _=>tH) λas R q=>(hf as R q).elim
theorem bJ{j:Int}(h1:-(10 ^ 100)<j)(h2:j<10 ^ 100):BigOk j:=by
 unfold BigOk
 have:j.natAbs<10 ^ 100:=by omega
 exact Nat.lt_trans this (by decide +kernel)
section
variable{own:Nat}{fr:List Nat}{g:UG}{tf:UTt}{ue:UT}{α:Type}
theorem mK{ρ:aQ}(c:α->Tv)(f:α->Option Tv):∀{l:List α}{Q:List Tv->aQ->Prop},(∀a∈l,∀R:Option Tv->aQ->Prop,R (f a) ρ->kM own fr g tf ue (c a) ρ R)->Q (l.filterMap f) ρ->eX own fr g tf ue (l.map c) ρ Q
 |[],_,_,q=>q
 |a::l,Q,h,q=>by
  rw[List.map_cons,oZ]
  refine h a (.head _) _ ?_
  rw[List.filterMap_cons]at q
  cases e:f a with
  |none=>rw[e]at q;exact mK c f (λb hb=>h b (.tail _ hb)) q
  |some U=>rw[e]at q;exact mK (Q:=λUs ρ4=>Q (U::Us) ρ4) c f (λb hb=>h b (.tail _ hb)) q
theorem iZ{ρ:aQ}(c f:α->Tv){l:List α}{Q:List Tv->aQ->Prop}(h:∀a∈l,∀R:Option Tv->aQ->Prop,R (some (f a)) ρ->kM own fr g tf ue (c a) ρ R)(q:Q (l.map f) ρ):eX own fr g tf ue (l.map c) ρ Q:=
 mK c (λa=>some (f a)) h (by rw[show l.filterMap (λa=>some (f a))=l.map f from List.filterMap_eq_map'▸rfl];exact q)
theorem tD{ρ:aQ}(r:Tv->Tv->Prop):∀{Ts:List Tv}{Q:List Tv->aQ->Prop},(∀T∈Ts,∀R:Option Tv->aQ->Prop,(∀U,r T U->R (some U) ρ)->kM own fr g tf ue T ρ R)->(∀Us,Paired r Ts Us->Q Us ρ)->eX own fr g tf ue Ts ρ Q
 |[],_,_,q=>q [] .nil
 |T::Ts,Q,h,q=>by
  rw[oZ]
  exact h T (.head _) _ λU hU=>tD (Q:=λUs ρ4=>Q (U::Us) ρ4) r (λT' hT'=>h T' (.tail _ hT')) λUs p=>q _ (.cons hU p)
theorem uK{g:UG}{ub:UTs}{P:PEnds}{ρ:aQ}(c:α->Tv){l:List α}(J:Nat->aQ->Prop)(h0:J 0 ρ)(hs:∀i a ρ' (N:aQ->Prop),l[i]?=some a->J i ρ'->(∀ρ'',J (i+1) ρ''->N ρ'')->g (c a) ρ' λρ1=>ub {P with nx:=N,ct:=N,bk:=P.nx} ρ1)
  (hd:∀ρ',J l.length ρ'->P.nx ρ'):hE g ub (l.map c) P ρ:=
 jZ J h0 (λi T ρ' N e j hN=>by
  rw[List.getElem?_map]at e
  obtain⟨a,ea,rfl⟩:=Option.map_eq_some_iff.mp e
  exact hs i a ρ' N ea j hN) (by rw[List.length_map];exact hd)
end
theorem zBl(x y:Str):eqT (sT x) (sT y)=decide (x=y):=by
 rw[eqT]
 show(x==y)=_
 exact Bool.beq_eq_decide_eq x y
theorem zG7{x:Str}{ss:List Str}:((ss.map sT).any λU=>eqT U (sT x))=decide (x∈ss):=by
 rw[List.any_map,Bool.eq_iff_iff,List.any_eq_true,decide_eq_true_iff]
 constructor
 ·rintro⟨y,hy,e⟩
  have e:eqT (sT y) (sT x)=true:=e
  rw[zBl,decide_eq_true_iff]at e
  rw[<-e];exact hy
 ·intro h
  exact⟨x,h,by show eqT (sT x) (sT x)=true;rw[zBl,decide_eq_true_iff]⟩
theorem zFN{x:Str}{ss:List Str}:sM (sT x) (ss.map sT):=⟨trivial,λU hU=>by
 obtain⟨s,_,rfl⟩:=List.mem_map.mp hU
 trivial⟩
theorem sif{b:Bool}{A B:Prop}(h1:b=true->A)(h2:b=false->B):if b=true then A else B:=by
 cases b with
 |true=>exact(if_pos rfl).mpr (h1 rfl)
 |false=>exact(if_neg Bool.false_ne_true).mpr (h2 rfl)
theorem cT{p:Prop}[Decidable p]{A B:Prop}(h1:p->A)(h2:¬ p->B):if decide p=true then A else B:=sif (λh=>h1 (of_decide_eq_true h)) λh=>h2 (of_decide_eq_false h)
end L2
namespace L2
open PySem PySem.Spec PyProof.Rows WordM
section
variable{X:Cx}{F:Fm}
def zIX:R2:=λx y H Q=>∃l k xs,x=.ref l/\y=.int k/\Rd H l (.lst xs) /\ -(2 ^ 63)<=k/\k<2 ^ 63/\xs.length*k.toNat<=sizeLine/\∀p,H p=none->Q (.ref p) (upd H p (.lst (List.replicate k.toNat xs).flatten))
theorem zGF:OpR X (binaryOp .Mult) zIX:=by
 rintro pins s σ H _ _ v u Q I rx ry ⟨l,k,xs,rfl,rfl,hH,h1,h2,hz,q⟩
 cases rx
 obtain⟨t,rfl⟩:=ry
 obtain⟨z,its,n,r,e⟩:=hH.ok I.hok
 have hl:=r.length
 have hlen:its.toArray.size*k.toNat<=sizeLine:=by rw[List.size_toArray,<-hl];exact hz
 have hcap:¬ its.toArray.size*k.toNat > (2 ^ 63-1) / 8:=by
  have:(sizeLine:Nat)<=(2 ^ 63-1) / 8:=by decide
  omega
 have hfit:¬ (!Builtin.List.listFitsIndex k)=true:=by
  rw[fitsIndex_both h1 h2]
  exact Bool.false_ne_true
 have hlong:¬ Builtin.List.listTooLong (its.toArray.size*k.toNat)=true:=by
  rw[zFu hlen]
  exact Bool.false_ne_true
 have hnew:List.foldl (λx1 x2=>x1++x2) #[] (List.replicate (if its.toArray.isEmpty=true then 0 else k.toNat) its.toArray)=(List.replicate k.toNat its).flatten.toArray:=by
  have f0:∀m:Nat,List.foldl (λx1 x2=>x1++x2) #[] (List.replicate m its.toArray)=(List.replicate m its).flatten.toArray:=λm=>by
   have:=zQ its m []
   rw[List.nil_append]at this
   exact this
  rw[f0]
  cases its with
  |nil=>simp
  |cons a r'=>rw[if_neg (by simp)]
 refine wpAny_binaryOp_repeat_ref (T:="list") (U:="int") (by decide) ⟨_,e,rfl⟩ (λs'=>typeIs_int s' k t) noFill_list_mul F.fills_int_mul F.slot_int_rmul repeat_list F.slot_int_index.lookup
  (call_meets F.slot_int_rmul (typeIs_int s k t) F.entry_int_rmul (F.args_int_rmul_2 _ _) (int___rmul___int_list k t l its.toArray n)
   ⟨e,rfl,⟨_,e,rfl⟩,call_meets F.slot_list_mul ⟨_,e,rfl⟩ F.entry_list_mul (F.args_list_mul_2 _ _) (AutoListH.list___mul___list_int_3 l its.toArray n k t hfit hcap hlong) ⟨e,?_⟩⟩)
 rw[hnew]
 exact⟨.ref _,_,I.lnew (t':=s.toks) (r.rep k.toNat) (by rw[uI,Nat.mul_comm];exact hz),rfl,q _ I.fresh⟩
theorem yL{α β:Type}{R:α->β->Prop}{l:List α}{m:List β}(p:Paired R l m):∀k:Nat,Paired R (List.replicate k l).flatten (List.replicate k m).flatten
 |0=>.nil
 |k+1=>by rw[List.replicate_succ,List.replicate_succ,List.flatten_cons,List.flatten_cons];exact sR p (yL p k)
def zB5:P2
 |.seq false xs,.leaf (.int k),Q=>(xs.length*k.toNat<=100000 /\ -(2 ^ 62)<=k/\k<2 ^ 62)/\Q (.seq false (List.replicate k.toNat xs).flatten)
 |T,U,Q=>xO T U Q
theorem gK:fW X (binaryOp .Mult) zB5:=by
 obtain⟨a,oa,ra⟩:=zHE (X:=X)
 refine⟨_,oa.or zGF,λx y T U H Q QQ vx vy h k=>?_⟩
 unfold zB5 at h
 split at h
 ·obtain⟨a,xs,rfl,⟨ob,hs⟩,z,p⟩:=vx.seqI
  obtain⟨rfl,_⟩:=vy.leafI
  obtain⟨⟨h1,h2,h3⟩,q⟩:=h
  have l1:xs.length=_:=Paired.length p
  refine .inr ⟨a,_,xs,rfl,rfl,.inr ⟨ob,hs⟩,by omega,by omega,gM (by rw[l1];exact h1),λb n=>k _ _ _ (Raw.lst n ?_ (yL p _)) q⟩
  rw[uI,Nat.mul_comm];exact h1
 ·exact .inl (ra x y T U H Q QQ vx vy h k)
end
end L2
namespace L2
open PySem PySem.Spec PyProof.Rows WordM
def qT(K:W.Frag):Sp:=λvs H Q _=>∃(a:Addr) (ns:List Int),vs=[.ref a]/\SqL K H a (ns.map V.int)/\ns.length<=63/\∀H',Q (.bl true) H'
def mH(n:Nat):aQ:=.no::.dk::List.replicate (n-2) .no
theorem zIw{K:W.Frag}{H:Hp}{p c:Addr}{N:List Str}{x:V}(hN:2<=N.length)(d:DeckAt H p c):FrOk K ⟨H,some (p,c),none⟩ (mH N.length) ((start N [x]).set 1 (some (.ref p))) H:=by
 have nm:∀(i:Nat) (s:Sl),(mH N.length)[i]?=some s->(s=.dk/\i=1)\/s=.no:=λi s e=>by
  unfold mH at e
  match i,e with
  |0,e=>exact .inr (by simpa using e.symm)
  |1,e=>exact .inl ⟨by simpa using e.symm,rfl⟩
  |i+2,e=>
   have e:(List.replicate (N.length-2) Sl.no)[i]?=some s:=by simpa using e
   exact .inr (List.eq_of_mem_replicate (List.mem_of_getElem? e))
 refine⟨λp' c' e=>by cases e;exact d,λ_ _ z=>(nomatch z),⟨λ_ _ e _ _=>e,λp' c' e=>by cases e;exact d,λ_ _ z=>(nomatch z)⟩,?_,λi s e=>?_,λi j a s t e _ m _ _ _=>?_⟩
 ·unfold mH start
  simp
  omega
 ·rcases nm i s e with⟨rfl,rfl⟩|rfl
  ·refine⟨p,c,rfl,?_⟩
   unfold ixv start
   rw[List.getElem?_set_self (by simp;omega)]
   rfl
  ·trivial
 ·rcases nm i s e with⟨rfl,_⟩|rfl<;>cases m
theorem zFP{K:W.Frag}{mg:Str->Option Value}{x:Str}{a:Addr}{ss:List Str}(m:mg x=some (.ref a))(T:∀H,SqT K H a (ss.map V.str))(l:ss.length<=100000:=by decide):fT K mg x (.seq true (ss.map sT)):=by
 refine⟨.ref a,.ref a,m,rfl,λH=>VA.seq (T H) (by rw[List.length_map];exact l) ?_⟩
 have key:∀ss:List Str,VAs K H (ss.map V.str) (ss.map sT):=λss=>by
  induction ss with
  |nil=>exact .nil
  |cons s ss ih=>exact .cons (.flat rfl) ih
 exact key ss
theorem zGp{X:Cx}{st:List Stmt}{us:UTs}(h:∀F,USs X F st us):PSs X st (λD σ H=>∃F,kK X.K F us D σ H):=λpins s σ H D I ⟨F,q⟩=>(h F).ps pins s σ H D I q
theorem zGO{X:Cx}{us:UTs}{D:kR}{p c:Addr}{H:Hp}{N:List Str}{x:V}(hN:2<=N.length)(d:DeckAt H p c)(q:∀H',D.rt (.bl true) H')(h:us {nx:=λ_=>False,rt:=λT=>T=bT true} (mH N.length)):
  ∃F,kK X.K F us D ((start N [x]).set 1 (some (.ref p))) H:=⟨⟨H,some (p,c),none⟩,mH N.length,_,zIw hN d,h,λ_ _ _ _ _ z=>z.elim,λx T H' _ _ _ v e=>by
 have e:T=bT true:=e.elim id False.elim
 subst e
 obtain⟨rfl,_⟩:=v.leafI
 exact q H',λ_ _ _ _ _ z=>z.elim,λ_ _ _ _ _ z=>z.elim⟩
end L2
namespace L2
open PySem PySem.Spec PyProof.Rows WordM
section
variable{X:Cx}{F:Fm}
variable{x:Str}{p apos cpos pos:Pos}{st:Stmt}
theorem lE:US X F st (λ_ _=>False):=⟨λpins s σ H D I ⟨_,_,_,h,_⟩=>h.elim⟩
end
end L2
namespace L2
open PySem PySem.Spec PyProof.Rows
@[reducible] def zK3:PyProof.Rows.KeyKind where
 α:=Bool
 blt a b:=!a&&b
 irrefl a:=by cases a<;>rfl
 trans a b c h1 h2:=by cases a<;>cases b<;>cases c<;>simp_all
 negTrans a b c h:=by cases a<;>cases b<;>cases c<;>simp_all
 total a b h1 h2:=by cases a<;>cases b<;>simp_all
 keyOf v:=match v with|.bool b=>some b|_=>none
 dflt:=false
end L2
namespace L2
open PySem PySem.Spec PyProof.Rows
section
variable{X:Cx}{F:Fm}
theorem zAr(k:Nat):∀(ss:List Str) (n L:Nat),(∀s∈ss,s.length<=L)->ss.foldl (λa s=>a+s.length+k) n<=n+ss.length*(L+k)
 |[],n,L,_=>by simp
 |s::r,n,L,h=>by
  rw[List.foldl_cons]
  have:=zAr k r (n+s.length+k) L λx hx=>h x (List.mem_cons_of_mem _ hx)
  have hs:=h s (List.mem_cons_self ..)
  rw[List.length_cons,Nat.succ_mul]
  omega
theorem aJ(a b:Str):(a++b).length=a.length+b.length:=by
 show(a.cps++b.cps).size=_
 rw[Array.size_append];rfl
theorem jY(sep:Str):∀(ss:List Str) (L:Nat),(∀s∈ss,s.length<=L)->(Str.join sep ss).length<=ss.length*(L+sep.length)
 |[],L,_=>Nat.zero_le _
 |[x],L,h=>by
  have:=h x (List.mem_singleton.mpr rfl)
  show x.length<=1*_
  omega
 |x::y::r,L,h=>by
  have ih:=jY sep (y::r) L λz hz=>h z (List.mem_cons_of_mem _ hz)
  have hx:=h x (List.mem_cons_self ..)
  show(x++sep++Str.join sep (y::r)).length<=(y::r).length.succ*_
  rw[aJ,aJ,Nat.succ_mul]
  omega
def zHz(K:W.Frag):V->List V->Hp->VK->Prop:=λx vs H Q=>∃p sep ss,x=.str sep/\vs=[.ref p]/\SqL K H p (ss.map V.str)/\(∃L,(∀s∈ss,s.length<=L)/\ss.length*(L+sep.length)<=10000000)/\Q (.str (Str.join sep ss)) H
theorem zFA:MtM X "str.join" (zHz X.K):=by
 intro pins s σ H x vs v us Q I rx rv h
 obtain⟨p,sep,ss,rfl,rfl,hq,⟨L,hL,hz⟩,q⟩:=h
 obtain⟨t,rfl⟩:=rx
 obtain⟨u,rfl,ru⟩:=rv.one
 cases ru
 obtain⟨its,rv,pl,hz'⟩:=I.list hq
 obtain⟨l,e1,e2⟩:=pN (jQ rv)
 have hl:=pl.isList
 rw[e1]at hl
 have hlen:((l.map (·.1)).toArray.foldl (λa s=>a+s.length+sep.length) 0)<=10000000:=by
  rw[e2,List.foldl_toArray]
  have:=zAr sep.length ss 0 L hL
  omega
 have hs:(10000000:Nat)<=sizeLine:=by rw[sizeLine_eq];decide
 refine call_meets F.slot_str_join (typeIs_str _ _ _) F.entry_str_join (F.args_str_join_2 _ _) (meets_str_join_list sep t p l (by
  show decide (_ > sizeLine)=false
  exact decide_eq_false (Nat.not_lt.mpr (Nat.le_trans hlen hs)))) ⟨hl,?_⟩
 have hj:∀z:Str,z=Str.join sep ss->∀t' k,EP X pins σ Q (.str z t') {s with toks:=k}:=λz e t' k=>⟨.str z,H,I.tok k,⟨t',rfl⟩,by rw[e];exact q⟩
 have hlz:(Str.join sep ss).length<=sizeLine:=Nat.le_trans (Nat.le_trans (jY sep ss L hL) hz) hs
 match l,e2 with
 |[],e2=>exact⟨by rw[StrLaws.glued_eq_join];exact Nat.zero_le _,hj _ (by rw[<-e2];rw[StrLaws.glued_eq_join]) _ _⟩
 |[pp],e2=>exact hj _ (by rw[<-e2];rfl) _ s.toks
 |a::b::r,e2=>exact⟨by rw[StrLaws.glued_eq_join,e2];exact hlz,hj _ (by rw[StrLaws.glued_eq_join,e2]) _ _⟩
def zH1:Tv->List Tv->(Tv->Prop)->Prop:=λW Ts Q=>∃(sep:Str) (ss:List Str),W=sT sep/\Ts=[.seq false (ss.map sT)]/\(∃L,(∀s∈ss,s.length<=L)/\ss.length*(L+sep.length)<=10000000)/\Q (sT (Str.join sep ss))
theorem zFi:∃r',MtR X "str.join" r'/\∀x W xs Ts H Q (QQ:VK),VA X.K H x W->VAs X.K H xs Ts->zH1 W Ts Q->(∀z W H',Raw X.K H H' z W->Q W->QQ z H')->r' x xs H QQ:=⟨_,zFA,λx W xs Ts H Q QQ v p h k=>by
 obtain⟨sep,ss,rfl,rfl,l,q⟩:=h
 obtain⟨rfl,_⟩:=v.leafI
 obtain⟨y,rfl,v'⟩:=cH p
 obtain⟨a,ys,rfl,hs,z,p'⟩:=v'.seqI
 rw[iC p']at hs
 exact⟨a,sep,ss,rfl,rfl,cO hs,l,k _ _ _ (.flat rfl) q⟩⟩
def zB7:P2
 |.leaf (.str x),.leaf (.str y),Q=>x.length+y.length<=10000000/\Q (sT (x++y))
 |_,_,_=>False
theorem cP:fW X (binaryOp .Add) zB7:=⟨_,op_add_str,λx y T U H Q QQ vx vy h k=>by
 unfold zB7 at h
 split at h
 ·obtain⟨rfl,_⟩:=vx.leafI
  obtain⟨rfl,_⟩:=vy.leafI
  exact⟨_,_,rfl,rfl,by rw[sizeLine_eq];omega,k _ _ _ (.flat rfl) h.2⟩
 ·exact False.elim h⟩
end
end L2
namespace L2
open PySem PySem.Spec PyProof.Rows
section
variable{X:Cx}{F:Fm}
theorem zAL:∀(ss:List Str) (L:Nat),(∀s∈ss,s.length<=L)->(ss.map (·.length)).sum<=ss.length*L
 |[],L,_=>by simp
 |s::r,L,h=>by
  have:=zAL r L λx hx=>h x (List.mem_cons_of_mem _ hx)
  have hs:=h s (List.mem_cons_self ..)
  rw[List.map_cons,List.sum_cons,List.length_cons,Nat.succ_mul]
  omega
def zHy(K:W.Frag):V->List V->Hp->VK->Prop:=λx vs H Q=>∃p sep ss,x=.str sep/\vs=[.ref p]/\SqT K H p (ss.map V.str)/\(∃L,(∀s∈ss,s.length<=L)/\ss.length*(L+sep.length)<=10000000)/\Q (.str (Str.join sep ss)) H
theorem zFz:MtM X "str.join" (zHy X.K):=by
 intro pins s σ H x vs v us Q I rx rv h
 obtain⟨p,sep,ss,rfl,rfl,hq,⟨L,hL,hz⟩,q⟩:=h
 obtain⟨t,rfl⟩:=rx
 obtain⟨u,rfl,ru⟩:=rv.one
 cases ru
 obtain⟨its,rv,pl,hz'⟩:=I.tuple hq
 refine join_tuple pl (by simpa using jQ rv) ?_ λt' k=>⟨.str (Txt.join sep ss),H,I.tok _,⟨_,rfl⟩,by rw[show Txt.join sep ss=Str.join sep ss from StrLaws.glued_eq_join sep ss];exact q⟩
 have:=zAL ss L hL
 rw[Nat.mul_add]at hz
 omega
def zH0:Tv->List Tv->(Tv->Prop)->Prop:=λW Ts Q=>∃(sep:Str) (ss:List Str),W=sT sep/\Ts=[.seq true (ss.map sT)]/\(∃L,(∀s∈ss,s.length<=L)/\ss.length*(L+sep.length)<=10000000)/\Q (sT (Str.join sep ss))
theorem zFh:∃r',MtR X "str.join" r'/\∀x W xs Ts H Q (QQ:VK),VA X.K H x W->VAs X.K H xs Ts->zH0 W Ts Q->(∀z W H',Raw X.K H H' z W->Q W->QQ z H')->r' x xs H QQ:=⟨_,zFz,λx W xs Ts H Q QQ v p h k=>by
 obtain⟨sep,ss,rfl,rfl,l,q⟩:=h
 obtain⟨rfl,_⟩:=v.leafI
 obtain⟨y,rfl,v'⟩:=cH p
 obtain⟨a,ys,rfl,hs,z,p'⟩:=v'.seqI
 rw[iC p']at hs
 exact⟨a,sep,ss,rfl,rfl,hs,l,k _ _ _ (.flat rfl) q⟩⟩
end
end L2
namespace L2
open PySem PySem.Spec WordM
theorem mW(z:String):cs (Str.ofString z)=z.toList.map Char.toNat:=by
 rw[Str.ofString_eq_toList]
theorem zL(i:Int)(h:i.natAbs<10 ^ 100):(∀c∈(toString i).toList,c.isDigit=true\/c='-')/\(toString i).toList.length<=101:=by
 cases i with
 |ofNat m=>
  show(∀c∈m.repr.toList,_)/\m.repr.toList.length<=101
  rw[Nat.toList_repr]
  refine⟨λc hc=>.inl (Nat.isDigit_of_mem_toDigits (by decide) (by decide) hc),?_⟩
  have:=(Nat.length_toDigits_le_iff (b:=10) (n:=m) (k:=100) (by decide) (by decide)).mpr h
  omega
 |negSucc m=>
  show(∀c∈("-"++m.succ.repr).toList,_)/\("-"++m.succ.repr).toList.length<=101
  rw[String.toList_append,Nat.toList_repr]
  refine⟨λc hc=>?_,?_⟩
  ·rcases List.mem_append.mp hc with z|z
   ·exact .inr (by simpa using z)
   ·exact .inl (Nat.isDigit_of_mem_toDigits (by decide) (by decide) z)
  ·have:=(Nat.length_toDigits_le_iff (b:=10) (n:=m.succ) (k:=100) (by decide) (by decide)).mpr h
   rw[List.length_append]
   have e:("-":String).toList.length=1:=by decide
   omega
theorem zG0:∀k:Nat,k<10->(k+48)∈cs SIG:=by decide +kernel
theorem vL(i:Int)(h:i.natAbs<10 ^ 100):Sg (Str.ofString (toString i))/\(Str.ofString (toString i)).length<=101:=by
 obtain⟨h1,h2⟩:=zL i h
 refine⟨λc hc=>?_,?_⟩
 ·rw[mW]at hc
  obtain⟨d,hd,rfl⟩:=List.mem_map.mp hc
  rcases h1 d hd with z|rfl
  ·simp only[Char.isDigit,Bool.and_eq_true,decide_eq_true_eq]at z
   have a:48<=d.toNat:=z.1
   have b:d.toNat<=57:=z.2
   have:=zG0 (d.toNat-48) (by omega)
   rw[show d.toNat-48+48=d.toNat by omega]at this
   exact this
  ·decide +kernel
 ·have:(Str.ofString (toString i)).length=(cs (Str.ofString (toString i))).length:=by simp[cs,Str.length]
  rw[this,mW,List.length_map]
  exact h2
end L2
namespace L2
open PySem PySem.Spec PyProof.Rows PySem.SeqAt
section
variable{prog:Program}{w:World}{A:Around}{E:Value->Shared->Prop}{s:Shared}
theorem xX{d:Addr}{v:Value}{T:String}{Q:Value->Shared->Prop}(hd:s.TypeIs (.ref d) "dict")(hv:s.TypeIs v T)(hsub:isSubtype (.type T) (.type "dict")=pure false)(h:Q .notImplemented s):
  wpAny (model prog w) A (call (.builtin "dict.__eq__") [.ref d,v]) Q E s:=by
 refine wpAny_call_entry PySem.F.slot_dict_eq_refl hd PySem.F.entry_dict_eq ?_ (PySem.F.args_dict_eq_2 _ _)
 show wpAny _ _ (Builtin.Dict.dictSlotArgs "__eq__" ⟨[.ref d,v],[]⟩ >>= _) _ _ s
 refine wpAny_bind ?_
 unfold Builtin.Dict.dictSlotArgs
 refine wpAny_bind (wpAny_notOrdered_dict hd ?_)
 show wpAny _ _ (pure (Value.ref d,v)) _ _ s
 refine wpAny_pure ?_
 refine wpAny_bind (wpAny_isInstance (T:=T) hv hsub ?_)
 simp only[Bool.not_false,if_true]
 exact wpAny_bind (wpAny_rule (wpAny_pure ⟨_,rfl,h⟩))
theorem xV(b:Str)(u:Tok)(l:Addr)(c:Value)(es:Array DictEntry)(n:Nat)(dd:Option Addr)(sl:Array (Option Value)):
  Meets (Builtin.«str.__eq__» ⟨[.str b u,.ref l],[]⟩) (λ_ R s=>s.heap.get? l=some {cls:=c,dict:=dd,data:=.dict es n,slots:=sl}/\R (.ok (.ret .notImplemented)) s):=
 .of_wp λprog w A R s h=>by obtain⟨hp,g,d,tk,os⟩:=s;obtain⟨hl,h⟩:=h;wp_walk using AutoSeq1.wpAny_loadPart' hl,wpAny_load hl;exact⟨_,rfl,h⟩
end
section
variable{prog:Program}{w:World}{κ:Type}[DecidableEq κ]{knd:KeyKind prog w κ}{A:Around}{s:Shared}{d:Addr}{kvs:List (κ×Value)}
theorem zDs(b:Str)(u:Tok)(hd:s.heap.DictOf knd d kvs)(hu:A.units<cLine):RcAt A s (.str b u) (.ref d) false:=λprog w E Q h=>by
 obtain⟨⟨cls,dd,data,sl⟩,es,ep,ho,⟨hc,hdn,hsl⟩,hda,_⟩:=id hd
 simp only at hc hda hdn hsl
 subst hc hda hdn hsl
 exact rc_eq_decline_or (k:=false) (typeIs_str s b u) ⟨_,ho,rfl⟩ (by decide) F.sub_dict_str F.slot_str_eq F.slot_dict_eq_refl
  (λ_ hq=>call_meets F.slot_str_eq (typeIs_str s b u) F.entry_str_eq (F.args_str_eq_2 _ _) (xV b u d _ es ep none #[]) ⟨ho,hq⟩)
  (λ_ hq=>xX ⟨_,ho,rfl⟩ (typeIs_str s b u) F.sub_str_dict hq)
  (λ_ hq=>wpAny_of_eq (rfl:isSame (.str b u) (.ref d)=pure false) hq) (.inr hu) h
theorem zDz(b:Str)(u:Tok)(hd:s.heap.DictOf knd d kvs)(hu:A.units<cLine):EqAt A s (.str b u) (.ref d) false:=λprog w E Q h=>by
 unfold eqBool
 refine wpAny_holding ?_
 refine wpAny_ite_split (λhab=>absurd (eq_of_beq hab) nofun) (λ_=>?_)
 exact wpAny_bind (zDs b u hd hu prog w E _ (wpAny_truthy_bool h))
end
section
variable{X:Cx}{pins:List (Addr×Obj)}{σ:St}{H:Hp}{s:Shared}
theorem zAE(I:Inv X pins σ H s){x:V}{kts:List (Str×Tv)}{u:Value}(v:VA X.K H x (.dct kts))(r:RelV x u):∃a vs,u=.ref a/\s.heap.DictOf (cY X.prog X.w) a vs:=by
 obtain⟨a,kvs,rfl,⟨ob,hd⟩,_⟩:=v.dctI
 cases r
 obtain⟨_,_,vs,_,d⟩:=(show ObjOk X.prog X.w H s.heap a (.frz ob (.dK kvs)) from I.hok a _ hd).2
 exact⟨a,vs,rfl,d⟩
theorem yR(I:Inv X pins σ H s){A:Around}(hu:A.units<cLine){z:Str}{v:Value}{y:V}{U:Tv}{u:Value}(rx:RelV (.str z) v)(vy:VA X.K H y U)(ry:RelV y u):EqAt A s v u (eqT (sT z) U):=by
 cases U with
 |leaf w=>
  obtain⟨rfl,f⟩:=vy.leafI
  obtain⟨t,rfl⟩:=rx
  rw[show eqT (sT z) (.leaf y)=eqV (.str z) y by simp[eqT]]
  rcases iW f with rfl|⟨b,rfl⟩|⟨b,rfl⟩|⟨b,rfl⟩
  ·cases ry;exact EqAt.str_none z t
  ·cases ry;exact EqAt.str_bool z t b
  ·obtain⟨t',rfl⟩:=ry;exact EqAt.str_int z t b t'
  ·obtain⟨t',rfl⟩:=ry;exact EqAt.str_str z t b t'
 |seq t Us=>
  obtain⟨a,ys,rfl,hs,_⟩:=vy.seqI
  cases ry
  rw[show eqT (sT z) (.seq t Us)=false by simp[eqT]]
  exact(kT I hu (x:=.str z) rfl rx hs).1
 |dct kts=>
  obtain⟨a,vs,rfl,d⟩:=zAE I vy ry
  obtain⟨t,rfl⟩:=rx
  rw[show eqT (sT z) (.dct kts)=false by simp[eqT]]
  exact zDz z t d hu
end
end L2
namespace L2
open PySem PySem.Spec PyProof.Rows WordM
inductive Wd where
 |few (ts:List Str)
 |make (h:Str) (a b:Int) (ms:List Str)
inductive Pt where
 |nothing
 |truths (bs:List Bool)
 |numbers (lo hi st:Int)
 |texts (w:Wd)
 |lists (a b:Int) (f:List Pt)
 |record (a b:Int) (fs:List (Str×Bool×List Pt))
 |table (a b:Int) (w:Wd) (f:List Pt)
def dJ:Wd->Tv
 |.few ts=>.seq true [sT "few",.seq true (ts.map sT)]
 |.make h a b ms=>.seq true [sT "make",sT h,iT a,iT b,.seq true (ms.map sT)]
def aY:Pt->Tv
 |.nothing=>.seq true [sT "nothing"]
 |.truths bs=>.seq true [sT "truths",.seq true (bs.map bT)]
 |.numbers lo hi st=>.seq true [sT "numbers",iT lo,iT hi,iT st]
 |.texts w=>.seq true [sT "texts",dJ w]
 |.lists a b f=>.seq true [sT "lists",iT a,iT b,.seq true (f.map aY)]
 |.record a b fs=>.seq true [sT "record",iT a,iT b,.seq true (fs.map λx=>.seq true [sT x.1,bT x.2.1,.seq true (x.2.2.map aY)])]
 |.table a b w f=>.seq true [sT "table",iT a,iT b,dJ w,.seq true (f.map aY)]
termination_by p=>sizeOf p
decreasing_by
 all_goals simp_wf
 ·have:=List.sizeOf_lt_of_mem ‹_›;omega
 ·obtain⟨x1,x2,x3⟩:=x
  have h1:=List.sizeOf_lt_of_mem ‹_∈fs›
  have h2:=List.sizeOf_lt_of_mem ‹_∈x3›
  simp at h1
  omega
 ·have:=List.sizeOf_lt_of_mem ‹_›;omega
abbrev bW(f:List Pt):Tv:=.seq true (f.map aY)
abbrev bQ(x:Str×Bool×List Pt):Tv:=.seq true [sT x.1,bT x.2.1,bW x.2.2]
theorem iA(a b:Int)(f:List Pt):aY (.lists a b f)=.seq true [sT "lists",iT a,iT b,bW f]:=by rw[aY]
theorem hZ(a b:Int)(fs:List (Str×Bool×List Pt)):aY (.record a b fs)=.seq true [sT "record",iT a,iT b,.seq true (fs.map bQ)]:=by rw[aY]
theorem jR(a b:Int)(w:Wd)(f:List Pt):aY (.table a b w f)=.seq true [sT "table",iT a,iT b,dJ w,bW f]:=by rw[aY]
def vP:Pt->Str
 |.nothing=>"nothing"
 |.truths _=>"truths"
 |.numbers ..=>"numbers"
 |.texts _=>"texts"
 |.lists ..=>"lists"
 |.record ..=>"record"
 |.table ..=>"table"
def dC:Pt->Nat
 |.nothing=>0
 |.truths _=>1
 |.numbers ..=>2
 |.texts _=>3
 |.lists ..=>4
 |.record ..=>5
 |.table ..=>5
theorem dX{a b:Int}{A B:Prop}(h1:a=b->A)(h2:a≠b->B):if (false != eqV (.int a) (.int b))=true then A else B:=sif (λz=>h1 (by simpa[eqV]using z)) λz=>h2 (by simpa[eqV]using z)
theorem bZ{a b:Str}{A B:Prop}(h1:a=b->A)(h2:a≠b->B):if (false != eqV (.str a) (.str b))=true then A else B:=sif (λz=>h1 (by simpa[eqV]using z)) λz=>h2 (by simpa[eqV]using z)
def dR(s:Str):Prop:=Sg s/\s.length<=50
def kN(l:List Str):Prop:=l.Pairwise λa b=>cs a<cs b
def cL(n:Int):Prop:=-(10 ^ 61)<n/\n<10 ^ 61
def dQ:Wd->Prop
 |.few ts=>1<=ts.length/\ts.length<=6/\kN ts/\∀t∈ts,dR t
 |.make h a b ms=>dR h/\0<=a/\a<=b/\1<=b/\b<=100/\ms.Sublist MK/\ms≠[]
def vK:Wd->Bool
 |.few _=>false
 |.make ..=>true
def jJ(lo hi st:Int):Prop:=cL lo/\cL hi/\cL st/\lo<=hi/\0<=st/\(st=0↔lo=hi)/\(st≠0->(hi-lo) % st=0)
def fB(fs:List (Str×Bool×List Pt)):Nat:=(fs.filter λx=>x.2.1).length
abbrev fY(f:List Pt):Prop:=f.Pairwise λp q=>dC p<dC q
def PartOk:Nat->Pt->Prop
 |0,_=>False
 |_+1,.nothing=>True
 |_+1,.truths bs=>bs=[false]\/bs=[true]\/bs=[false,true]
 |_+1,.numbers lo hi st=>jJ lo hi st
 |_+1,.texts w=>dQ w
 |n+1,.lists a b f=>0<=a/\a<=b/\b<=100/\(b=0->f=[])/\(b≠0->f≠[]/\fY f/\∀p∈f,PartOk n p)
 |n+1,.record a b fs=>0<=a/\a<=b/\fs.length<=8/\kN (fs.map (·.1))/\(∀x∈fs,dR x.1/\x.2.2≠[]/\fY x.2.2/\∀p∈x.2.2,PartOk n p)/\(fB fs:Int)<=a/\b<=fs.length/\(fB fs<fs.length->a<fs.length/\fB fs<b)
 |n+1,.table a b w f=>(0<=a/\a<=11)/\a<=b/\1<=b/\b<=100/\dQ w/\vK w=true/\f≠[]/\fY f/\∀p∈f,PartOk n p
theorem zDy{a b:Str}(h:cs a<=cs b)(n:a≠b):cs a<cs b:=by
 refine Classical.byContradiction λz=>n (kZ (List.le_antisymm h (List.not_lt.mp z)))
theorem zGe(l:List Str):∃ss:List Str,ss.Perm l/\sortedS ss=true:=by
 refine⟨l.mergeSort λa b=>decide (cs a<=cs b),List.mergeSort_perm _ _,PyProof.Rows.sortedS_of_pairwise _ ?_⟩
 refine(List.pairwise_mergeSort (λa b c h1 h2=>?_) (λa b=>?_) l).imp λ{a b} h=>?_
 ·exact decide_eq_true (List.le_trans (of_decide_eq_true h1) (of_decide_eq_true h2))
 ·rcases List.le_total (cs a) (cs b) with z|z<;>simp[z]
 ·rw[ltCps_eq]
  exact decide_eq_false (List.not_lt.mpr (of_decide_eq_true h))
theorem zGd(l:List Str):(eS l).Pairwise λa b=>cs a<=cs b:=by
 obtain⟨ss,h1,h2⟩:=zGe l
 rw[<-tK h1 h2]
 exact oV _ h2
theorem zA{l:List Str}(n:l.Nodup):kN (eS l):=by
 have h2:(eS l).Nodup:=(oW l).nodup_iff.mpr n
 exact List.Pairwise.imp₂ (λa b h n=>zDy h n) (zGd l) h2
end L2
namespace L2
open PySem PySem.Spec PyProof.Rows WordM
theorem zJg{a b:Str}(h:cs a<cs b):a≠b:=λe=>by rw[e]at h;exact List.lt_irrefl _ h
theorem mk_rise:kN MK:=by unfold kN;decide +kernel
end L2
namespace L2
open PySem PySem.Spec PyProof.Rows PySem.SeqAt
section
variable{X:Cx}{F:Fm}
def zCM:P2
 |.leaf (.str x),.leaf (.str y),Q=>Q (bT (!decide (y.cps.toList<x.cps.toList)))
 |_,_,_=>False
theorem zEz:OpR X (compareOp .LtE) (λx y H Q=>∃i j,x=.str i/\y=.str j/\Q (.bl (!decide (j.cps.toList<i.cps.toList))) H):=by
 intro pins s σ H x y v u Q I rx ry h
 obtain⟨i,j,rfl,rfl,q⟩:=h
 obtain⟨t,rfl⟩:=rx
 obtain⟨t',rfl⟩:=ry
 exact PySem.P.le_str (qS I q rfl)
theorem zBI:PuCmp X (compareOp .LtE) zCM:=⟨_,zEz,λx y T U H Q QQ vx vy h k=>by
 unfold zCM at h
 split at h
 ·obtain⟨rfl,_⟩:=vx.leafI
  obtain⟨rfl,_⟩:=vy.leafI
  exact⟨_,_,rfl,rfl,k _ _ _ (Same.refl _) (.flat rfl) h⟩
 ·exact False.elim h⟩
end
section
variable{prog:Program}{w:World}{A:Around}{E:Value->Shared->Prop}{s:Shared}
theorem zC4{d:Addr}{v:Value}{T:String}{Q:Value->Shared->Prop}(hd:s.TypeIs (.ref d) "dict")(hv:s.TypeIs v T)(hsub:isSubtype (.type T) (.type "dict")=pure false)(h:Q .notImplemented s):
  wpAny (model prog w) A (call (.builtin "dict.__ne__") [.ref d,v]) Q E s:=by
 refine wpAny_call_entry PySem.F.slot_dict_ne hd PySem.F.entry_dict_ne ?_ (PySem.F.args_dict_ne_2 _ _)
 show wpAny _ _ (Builtin.Dict.dictSlotArgs "__ne__" ⟨[.ref d,v],[]⟩ >>= _) _ _ s
 refine wpAny_bind ?_
 unfold Builtin.Dict.dictSlotArgs
 refine wpAny_bind (wpAny_notOrdered_dict hd ?_)
 show wpAny _ _ (pure (Value.ref d,v)) _ _ s
 refine wpAny_pure ?_
 refine wpAny_bind (wpAny_isInstance (T:=T) hv hsub ?_)
 simp only[Bool.not_false,if_true]
 exact wpAny_bind (wpAny_rule (wpAny_pure ⟨_,rfl,h⟩))
theorem zC3(b:Str)(u:Tok)(l:Addr)(c:Value)(es:Array DictEntry)(n:Nat)(dd:Option Addr)(sl:Array (Option Value)):
  Meets (Builtin.«str.__ne__» ⟨[.str b u,.ref l],[]⟩) (λ_ R s=>s.heap.get? l=some {cls:=c,dict:=dd,data:=.dict es n,slots:=sl}/\R (.ok (.ret .notImplemented)) s):=
 .of_wp λprog w A R s h=>by obtain⟨hp,g,d,tk,os⟩:=s;obtain⟨hl,h⟩:=h;wp_walk using AutoSeq1.wpAny_loadPart' hl,wpAny_load hl;exact⟨_,rfl,h⟩
variable{κ:Type}[DecidableEq κ]{knd:KeyKind prog w κ}{d:Addr}{kvs:List (κ×Value)}
theorem zDt(b:Str)(u:Tok)(hd:s.heap.DictOf knd d kvs)(hu:A.units<cLine):RcAt A s (.ref d) (.str b u) false/\RcNeAt A s (.ref d) (.str b u) true:=by
 obtain⟨⟨cls,dd,data,sl⟩,es,ep,ho,⟨hc,hdn,hsl⟩,hda,_⟩:=id hd
 simp only at hc hda hdn hsl
 subst hc hda hdn hsl
 refine⟨λprog w E Q h=>?_,λprog w E Q h=>?_⟩
 ·exact rc_eq_decline_or (k:=false) ⟨_,ho,rfl⟩ (typeIs_str s b u) (by decide) F.sub_str_dict F.slot_dict_eq F.slot_str_eq_refl
   (λ_ hq=>xX ⟨_,ho,rfl⟩ (typeIs_str s b u) F.sub_str_dict hq)
   (λ_ hq=>call_meets F.slot_str_eq_refl (typeIs_str s b u) F.entry_str_eq (F.args_str_eq_2 _ _) (xV b u d _ es ep none #[]) ⟨ho,hq⟩)
   (λ_ hq=>wpAny_of_eq (rfl:isSame (.ref d) (.str b u)=pure false) hq) (.inr hu) h
 ·exact rc_ne_decline_or (k:=false) ⟨_,ho,rfl⟩ (typeIs_str s b u) (by decide) F.sub_str_dict F.slot_dict_ne F.slot_str_ne_refl
   (λ_ hq=>zC4 ⟨_,ho,rfl⟩ (typeIs_str s b u) F.sub_str_dict hq)
   (λ_ hq=>call_meets F.slot_str_ne_refl (typeIs_str s b u) F.entry_str_ne (F.args_str_ne_2 _ _) (zC3 b u d _ es ep none #[]) ⟨ho,hq⟩)
   (λ_ hq=>wpAny_of_eq (rfl:isSame (.ref d) (.str b u)=pure false) hq) (.inr hu) h
end
section
variable{X:Cx}{F:Fm}
def zJ7(neg:Bool):P2:=λT U Q=>∃z:Str,U=sT z/\Q (bT (neg != eqT T (sT z)))
theorem zD9{pins:List (Addr×Obj)}{σ:St}{H:Hp}{s:Shared}(I:Inv X pins σ H s)(hu:X.A.units<cLine){x:V}{T:Tv}{v:Value}{z:Str}{u:Value}(vx:VA X.K H x T)(rx:RelV x v)(ry:RelV (.str z) u):RcAt X.A s v u (eqT T (sT z))/\RcNeAt X.A s v u (!eqT T (sT z)):=by
 cases T with
 |leaf w=>
  obtain⟨rfl,f⟩:=vx.leafI
  rw[show eqT (.leaf x) (sT z)=eqV x (.str z) by simp[eqT]]
  exact zAS f (y:=.str z) rfl rx ry
 |seq t Ts=>
  obtain⟨a,xs,rfl,hs,_⟩:=vx.seqI
  cases rx
  have r:=kT I hu (x:=.str z) rfl ry hs
  rw[show eqT (.seq t Ts) (sT z)=false by simp[eqT]]
  exact⟨r.2.2.2.1,r.2.2.2.2.2⟩
 |dct kts=>
  obtain⟨a,vs,rfl,d⟩:=zAE I vx rx
  obtain⟨t,rfl⟩:=ry
  rw[show eqT (.dct kts) (sT z)=false by simp[eqT]]
  exact zDt z t d hu
def zJX(K:W.Frag)(neg:Bool):R2:=λx y H Q=>∃(T:Tv) (z:Str),VA K H x T/\y=.str z/\Q (.bl (neg != eqT T (sT z))) H
theorem zIb(hu:X.A.units+64<cLine):OpR X (compareOp .Eq) (zJX X.K false):=by
 rintro pins s σ H x y v u Q I rx ry ⟨T,z,vx,rfl,q⟩
 exact(zD9 I (by omega) vx rx ry).1 X.prog X.w X.xe _ ⟨.bl _,H,I,rfl,by simpa using q⟩
theorem iI(hu:X.A.units+64<cLine):PuCmp X (compareOp .Eq) (zJ7 false):=⟨_,zIb hu,λx y T U H Q QQ vx vy h k=>by
 obtain⟨z,rfl,q⟩:=h
 obtain⟨rfl,_⟩:=vy.leafI
 exact⟨T,z,vx,rfl,k _ _ _ (Same.refl _) (.flat rfl) q⟩⟩
def zJ6:P2:=λT U Q=>∃ks:List Str,U=.seq true (ks.map sT)/\Q (bT ((ks.map sT).any λk=>eqT k T))
def zJV(K:W.Frag):R2:=λx y H Q=>∃(T:Tv) (ks:List Str),VA K H x T/\VA K H y (.seq true (ks.map sT))/\Q (.bl ((ks.map sT).any λk=>eqT k T)) H
theorem zH8(hu:X.A.units+64<cLine):OpR X (compareOp .In) (zJV X.K):=by
 rintro pins s σ H x y v u Q I rx ry ⟨T,ks,vx,vy,q⟩
 obtain⟨a,ys,rfl,hs,z,p⟩:=vy.seqI
 cases ry
 rw[iC p]at hs
 obtain⟨its,r,l⟩:=PSeq.isTup I hs
 let e:Value->Bool:=λw=>match w with|.str k _=>eqT (sT k) T|_=>false
 have key:∀{ks:List Str} {its:List Value},Vals (ks.map V.str) its->(∀y∈its,EqAt X.A.in1 s y v (e y))/\its.any e=(ks.map sT).any λk=>eqT k T:=by
  intro ks
  induction ks with
  |nil=>intro its r;cases r;exact⟨(λy hy=>nomatch hy),rfl⟩
  |cons k ks ih=>
   intro its r
   cases r with
   |cons r0 rs=>
    obtain⟨i1,i2⟩:=ih rs
    obtain⟨t,rfl⟩:=id r0
    refine⟨λy hy=>?_,?_⟩
    ·rcases List.mem_cons.mp hy with rfl|hy
     ·exact yR I (by show X.A.units+1<_;omega) r0 vx rx
     ·exact i1 y hy
    ·rw[List.any_cons,i2,List.map_cons,List.any_cons]
 obtain⟨k1,k2⟩:=key r
 refine in_tupleAt e l (λy hy=>k1 y (by simpa using hy)) ⟨.bl _,H,I,rfl,?_⟩
 rw[List.any_toArray,k2];exact q
theorem zHG(hu:X.A.units+64<cLine):PuCmp X (compareOp .In) zJ6:=⟨_,zH8 hu,λx y T U H Q QQ vx vy h k=>by
 obtain⟨ks,rfl,q⟩:=h
 exact⟨T,ks,vx,vy,k _ _ _ (Same.refl _) (.flat rfl) q⟩⟩
end
end L2
namespace L2
open PySem PySem.Spec PyProof.Rows PySem.SeqAt
open AutoSeq1 (wpAny_loadPart')
theorem zC5{M:Model}{A:Around}{E:Value->Shared->Prop}{s:Shared}{β:Type}(f:Nat->β->Sem (ForInStep β))(I:List Nat->β->Shared->Prop)(Q:β->Shared->Prop)
  (turn:∀x rest b s,I (x::rest) b s->wpAny M A (f x b) (λr s'=>match r with|.yield b'=>I rest b' s'|.done b'=>Q b' s') E s)
  (fin:∀b s,I [] b s->Q b s) (n:Nat) (b:β) (h:I (List.range n) b s):wpAny M A (forIn [:n] b f) Q E s:=by
 rw[Std.Legacy.Range.forIn_eq_forIn_range']
 refine wpAny_forIn_list f I Q turn fin _ b ?_
 have:List.range' ([:n]:Std.Legacy.Range).start ([:n]:Std.Legacy.Range).size ([:n]:Std.Legacy.Range).step=List.range n:=by
  simp[Std.Legacy.Range.size,List.range_eq_range']
 rw[this]
 exact h
theorem zDa(l:Addr)(items:Array Value)(n:Nat)(dd:Option Addr)(sl:Array (Option Value))(x:Value)(e:Value->Bool)(j:Nat)(hj:j<items.size)
  (hit:e items[j]=true) (hno:∀m (hm:m<items.size),m<j->e items[m]=false):
  Meets (Builtin.«tuple.index» ⟨[.ref l,x],[]⟩)
   (λA R s=>s.heap.get? l=some {cls:=.type "tuple",dict:=dd,data:=.seq items n,slots:=sl}/\(∀y,y∈items->EqAt A.in1 s y x (e y))/\R (.ok (.ret (.int j s.toks))) {s with toks:=s.toks+1}):=
 .of_wp λprog w A R s h=>by
  obtain⟨hp,g,d,tk,os⟩:=s;obtain⟨hl,he,h⟩:=h
  wp_walk using wpAny_loadPart' hl,zC5 _ (λrest b s'=>b.1=none/\s'=⟨hp,g,d,tk,os⟩/\∃i,i<=j/\rest=(List.range (min items.size items.size)).drop i) _
  case turn=>
   rintro k rest b s' ⟨hb,rfl,i,hi,hr⟩
   rw[Nat.min_self]at hr ⊢
   have hlt:i<items.size:=by omega
   rw[List.drop_eq_getElem_cons (by rw[List.length_range];exact hlt),List.getElem_range]at hr
   obtain⟨rfl,rfl⟩:=List.cons.inj hr
   rw[Array.getElem?_eq_getElem hlt]
   refine wpAny_bind (he _ (Array.getElem_mem hlt) prog w _ _ ?_)
   by_cases hk:k=j
   ·subst hk
    rw[hit]
    wp_walk
    exact⟨_,rfl,h⟩
   ·rw[hno k hlt (by omega)]
    wp_walk
    exact⟨rfl,rfl,k+1,by omega,rfl⟩
  case fin=>
   rintro⟨b1,b2⟩ s' ⟨hb,rfl,i,hi,hr⟩
   rw[Nat.min_self]at hr
   have:=congrArg List.length hr
   rw[List.length_drop,List.length_range,List.length_nil]at this
   omega
  case h=>
   exact⟨rfl,rfl,0,Nat.zero_le _,rfl⟩
section
variable{X:Cx}{F:Fm}
def zJM(K:W.Frag):V->List V->Hp->VK->Prop:=λx vs H Q=>∃(p:Addr) (ss:List Str) (y:Str) (j:Nat),x=.ref p/\vs=[.str y]/\SqT K H p (ss.map V.str)/\ss[j]?=some y/\(∀i,i<j->ss[i]?≠some y)/\Q (.int (j:Nat)) H
theorem zIg(hu:X.A.units+8<cLine):MtM X "tuple.index" (zJM X.K):=by
 intro pins s σ H x vs v us Q I rx rv h
 obtain⟨p,ss,y,j,rfl,rfl,hq,hj,hno,q⟩:=h
 cases rx
 obtain⟨u,rfl,t,rfl⟩:=rv.one
 obtain⟨its,rv,pl,hz⟩:=I.tuple hq
 obtain⟨⟨cls,dd,data,sl⟩,ho,hc,n,hd⟩:=id pl
 simp only at hc hd
 subst hc hd
 have rl:=rv.length
 have key:∀(m:Nat) (hm:m<its.length),∃z t',ss[m]?=some z/\its[m]=.str z t':=λm hm=>by
  have hs:m<ss.length:=by rw[List.length_map]at rl;omega
  obtain⟨u,e1,t',e2⟩:=Vals.get rv (i:=m) (x:=.str ss[m]) (by rw[List.getElem?_map,List.getElem?_eq_getElem hs];rfl)
  rw[List.getElem?_eq_getElem hm]at e1
  exact⟨ss[m],t',List.getElem?_eq_getElem hs,by rw[Option.some.inj e1,e2]⟩
 let e:Value->Bool:=λw=>match w with|.str z _=>decide (z=y)|_=>false
 have jl:j<its.length:=by
  have:=(List.getElem?_eq_some_iff.mp hj).1
  rw[List.length_map]at rl;omega
 refine call_meets PySem.F.slot_tuple_index ⟨_,ho,rfl⟩ PySem.F.entry_tuple_index (PySem.F.args_tuple_index_2 _ _) (zDa p its.toArray n dd sl (.str y t) e j (by simpa using jl) ?_ ?_) ⟨ho,?_,⟨.int (j:Nat),H,I.tok _,⟨_,rfl⟩,q⟩⟩
 ·obtain⟨z,t',h1,h2⟩:=key j jl
  rw[hj]at h1
  cases h1
  show e its[j]=true
  rw[h2]
  exact decide_eq_true rfl
 ·intro m hm hmj
  have hm:m<its.length:=by simpa using hm
  obtain⟨z,t',h1,h2⟩:=key m hm
  show e its[m]=false
  rw[h2]
  exact decide_eq_false λc=>hno m hmj (by rw[h1,c])
 ·intro w hw
  obtain⟨m,hm,rfl⟩:=List.getElem_of_mem (by simpa using hw)
  obtain⟨z,t',h1,h2⟩:=key m hm
  rw[h2]
  have:=yR I (A:=X.A.in1) (by have:X.A.in1.units=X.A.units+1:=rfl;omega) (z:=z) (v:=.str z t') (y:=.str y) (U:=sT y) (u:=.str y t) ⟨_,rfl⟩ (.flat rfl) ⟨_,rfl⟩
  rw[show eqT (sT z) (sT y)=decide (z=y) by
   simp only[eqT,eqV]
   by_cases h:z=y
   ·subst h;simp
   ·rw[decide_eq_false h];simpa using h]at this
  exact this
def rH(K:W.Frag)(mg:Str->Option Value)(x:Str)(ss:List Str):Prop:=∃(a:Addr) (its:Array Value) (n:Nat) (sl:Array (Option Value)),mg x=some (.ref a)/\K.lookup a=some ⟨.type "tuple",none,.seq its n,sl⟩/\its.size<=sizeLine/\Vals (ss.map V.str) its.toList
def zJu(ss:List Str)(u:UT):UT:=λρ Q=>u ρ λT ρ1=>∃(y:Str) (j:Nat),T=sT y/\ss[j]?=some y/\(∀i,i<j->ss[i]?≠some y)/\Q (iT (j:Nat)) ρ1
theorem zG9{x:Str}{ss:List Str}{p apos cpos:Pos}{e:Expr}{u:UT}(hu:X.A.units+64<cLine)(G:rH X.K X.mg x ss)(hg:Gl X x)(he:UE X F e u)(hst:fQ e=false:=by rfl)(hd:(x==("__debug__":Str))=false:=by decide)
  (hbase:attributeBase (.Name x p) "index" X.env (eval (.Name x p) X.env)=eval (.Name x p) X.env:=by rfl)
  (hfew:((backTo cpos (starEach [e] X.env)).all (λx=>!x.1)&&(backToKw cpos (keywordEach [] X.env)).all (λx=>x.1.isSome)&&decide ([e].length+([]:List Keyword).length+(if ([]:List Keyword).isEmpty then 0 else 1)<30))=true:=by rfl)
  (hline:(apos.endLine==cpos.line)=true:=by rfl) (hs:starEach [e] X.env=(false,eval e X.env)::starEach [] X.env:=by rfl) (hplain:(backTo cpos (starEach [] X.env)).any (·.1)=false:=by rfl):
  UE X F (.Call (.Attribute (.Name x p) "index" apos) [e] [] cpos) (zJu ss u):=by
 obtain⟨a,its,n,sl,m,lk,z,vs⟩:=G
 refine⟨PE.imp (nZ PySem.F.plainAttrs_tuple PySem.F.slot_tuple_index PySem.F.type_tuple_index (zIg (by omega)) (pW (v:=.ref a) hg m rfl hd) (dH he.pe eR hst) hbase hfew hline hs hplain) λσ H QQ ⟨ρ,Q,f,h,k⟩=>?_⟩
 refine⟨.inr (.inl ⟨rfl,_,lk,rfl,rfl⟩),ρ,_,f,h,λw T H1 ρ1 s1 v1 q1=>?_⟩
 obtain⟨y,j,rfl,hj,hno,q⟩:=q1
 obtain⟨rfl,_⟩:=v1.leafI
 exact⟨a,ss,y,j,rfl,rfl,.inr ⟨_,_,_,lk,rfl,rfl,z,vs⟩,hj,hno,k _ _ _ _ s1 (.flat rfl) q⟩
end
end L2
namespace L2
open PySem PySem.Spec PyProof.Rows PySem.SeqAt
section
variable{X:Cx}{F:Fm}
theorem zH6:OpR X (compareOp .Lt) (λx y H Q=>∃i j:Bool,x=.bl i/\y=.bl j/\Q (.bl (!i&&j)) H):=by
 intro pins s σ H x y v u Q I rx ry h
 obtain⟨i,j,rfl,rfl,q⟩:=h
 cases rx
 cases ry
 refine lt_bool (qS I q ?_)
 cases i<;>cases j<;>rfl
def xP:P2
 |.leaf (.bl i),.leaf (.bl j),Q=>Q (bT (!i&&j))
 |T,U,Q=>pLt T U Q
theorem zHF:PuCmp X (compareOp .Lt) xP:=by
 obtain⟨a,oa,ra⟩:=iO (X:=X)
 refine⟨_,oa.or zH6,λx y T U H Q QQ vx vy h k=>?_⟩
 unfold xP at h
 split at h
 ·obtain⟨rfl,_⟩:=vx.leafI
  obtain⟨rfl,_⟩:=vy.leafI
  exact .inr ⟨_,_,rfl,rfl,k _ _ _ (Same.refl _) (.flat rfl) h⟩
 ·exact .inl (ra x y T U H Q QQ vx vy h k)
end
end L2
namespace L2
open PySem PySem.Spec PyProof.Rows WordM
section
variable{X:Cx}{F:Fm}{pos p:Pos}{e a b elt iter:Expr}{es ifs:List Expr}{x:Str}{u ua ub ue:UT}{ut:UTa}{ui:UTl}{tf:UTt}{sc scope:Scope}{XN N:List Str}{fr:List Nat}
theorem aR{k m:Nat}{ps:List Str}{psp:PSp}(G:aG X.prog X.w X.K X.mg X.base k x ps psp)(hr:Room m X.A)(ha:UA X F (e::es) ut)(hm:k<=m:=by omega)(hg:Gl X x:=by exact rfl)(hdb:(x==("__debug__":Str))=false:=by decide)
  (hst:fQ e=false:=by rfl) (hpl:(backTo pos (starEach es X.env)).any (·.1)=false:=by rfl):UE X F (.Call (.Name x p) (e::es) [] pos) (nS psp ut):=zIE G (hr.mono hm) hg ha hdb hst hpl
theorem aT(i:Nat){pos':Pos}(hN:X.N.Nodup)(he:UE X F e u)(hi:X.N[i]?=some x:=by rfl)(hx:Loc X.env.scope x:=by first|exact Or.inl rfl|exact Or.inr rfl)(hs:swapsWith e (some (.Name x pos')) pos.line X.env=pure false:=by rfl)(hf:X.fn x=true\/X.env.scope.names.lookup x=some .local:=by first|exact .inl rfl|exact .inr rfl|assumption):
  US X F (.Assign [.Name x pos'] e pos) (lZ i u):=zBq hN hi hx he hs hf
theorem iR(i:Nat){ul:UTl}{pos':Pos}(hN:X.N.Nodup)(he:UL X F e ul)(hi:X.N[i]?=some x:=by rfl)(hx:Loc X.env.scope x:=by first|exact Or.inl rfl|exact Or.inr rfl)(hs:swapsWith e (some (.Name x pos')) pos.line X.env=pure false:=by rfl)(hf:X.fn x=true\/X.env.scope.names.lookup x=some .local:=by first|exact .inl rfl|exact .inr rfl|assumption):
  US X F (.Assign [.Name x pos'] e pos) (wO i ul):=zG8 hN hi hx he hs hf
theorem dA{op:CmpOp}{r:P2}(ho:PuCmp X (compareOp op) r)(ha:UE X F a ua)(hb:UE X F b ub)(hm:behindInMarks op b=false:=by exact lI _):UB X F (.Compare a [op] [b] pos) (uB (uOp r ua ub)):=uV ho ha hb hm
theorem dF{op:CmpOp}{r:P2}(ho:fW X (compareOp op) r)(ha:UE X F a ua)(hb:UE X F b ub)(hm:behindInMarks op b=false:=by exact lI _):UE X F (.Compare a [op] [b] pos) (uOp r ua ub):=zHb ho ha hb hm
structure Cq (X:Cx) (sc scope:Scope) (XN N:List Str) (fr:List Nat) (x:Str) (iter:Expr):Prop where
 hc:X.calm=true:=by rfl
 k1:scope.kind=.function:=by rfl
 k2:∀y∈scope.names,y.2≠.cell:=by decide +kernel
 k3:∀y∈scope.names,y.2=.free->sc.names.lookup y.1=some .cell\/sc.names.lookup y.1=some .free:=by decide +kernel
 k4:∀y∈scope.names,y.2=.local->scope.names.lookup y.1=some .local:=by decide +kernel
 k5:N.drop 1=fr.filterMap λi=>XN[i]?:=by rfl
 k6:∀i∈fr,i<XN.length:=by decide +kernel
 k7:1<=N.length:=by decide
 k8:∀x∈N.drop 1,scope.names.lookup x=some .free:=by decide +kernel
 nd:fr.Nodup:=by decide
 nN:N.Nodup:=by decide +kernel
 h0:N[0]?=some x:=by rfl
 hl:∀cl C fp s H,Loc (cD X N scope cl C fp s H).env.scope x:=by intros;first|exact Or.inl rfl|exact Or.inr rfl
 hfn:∀cl C fp s H,(cD X N scope cl C fp s H).fn x=true\/(cD X N scope cl C fp s H).env.scope.names.lookup x=some .local:=by intros;first|exact .inl rfl|exact .inr rfl
 hs:∀x,foldedSetIterable iter X.env x=pure x:=by intro _;rfl
 hsc:X.env.scope=sc:=by rfl
 hxn:X.N=XN:=by rfl
section
variable{z:Str}{pos' spos:Pos}(i:Nat)(hN:X.N.Nodup)(hi:UI X F (.Name x p) iter ui)(hf:∀cl C fp s H,UF (cD X N scope cl C fp s H) F ifs tf)(he:∀cl C fp s H,UE (cD X N scope cl C fp s H) F elt ue)
include hi hf he
theorem vR(c:Cq X sc scope XN N fr x iter:=by exact {}):UL X F (.ListComp elt [⟨.Name x p,iter,ifs,0⟩] scope pos) (lQ 1 fr ui (gN 0) tf ue):=
 zAF c.hc ⟨c.k1,c.k2,c.k3,c.k4,c.k5,c.k6,c.k7,c.k8⟩ c.nd hi (λcl C fp s H=>dZ 0 (by decide) c.nN c.h0 (c.hl cl C fp s H) (c.hfn cl C fp s H)) hf he c.hs c.hsc c.hxn
include hN
theorem vQ(c:Cq X sc scope XN N fr x iter:=by exact {})(hz:X.N[i]?=some z:=by rfl)(hzl:Loc X.env.scope z:=by first|exact Or.inl rfl|exact Or.inr rfl)
  (hsw:swapsWith (.ListComp elt [⟨.Name x p,iter,ifs,0⟩] scope pos) (some (.Name z pos')) spos.line X.env=pure true:=by rfl)
  (hf':X.fn z=true\/X.env.scope.names.lookup z=some .local:=by first|exact .inl rfl|exact .inr rfl|assumption):US X F (.Assign [.Name z pos'] (.ListComp elt [⟨.Name x p,iter,ifs,0⟩] scope pos) spos) (lZ i (uL (lQ 1 fr ui (gN 0) tf ue))):=
 zF3 c.hc hN hz hzl ⟨c.k1,c.k2,c.k3,c.k4,c.k5,c.k6,c.k7,c.k8⟩ c.nd hi (λcl C fp s H=>dZ 0 (by decide) c.nN c.h0 (c.hl cl C fp s H) (c.hfn cl C fp s H)) hf he hsw hf' c.hs c.hsc c.hxn
end
theorem dO(hi:UI X F (.Name x p) iter ui)(he:∀cl C fp s H,UE (cD X N scope cl C fp s H) F elt ue)(c:Cq X sc scope XN N fr x iter:=by exact {}):UL X F (.ListComp elt [⟨.Name x p,iter,[],0⟩] scope pos) (lQ 1 fr ui (gN 0) zCl ue):=vR hi (λ_ _ _ _ _=>qG) he c
theorem aU{m:Nat}(hr:Room m X.A)(ha:UE X F a ua)(hb:UE X F b ub)(hs:qD b:=by intro _ _;rfl):UE X F (.Subscript a b pos) (uOp pIx ua ub):=zID (zI7 hr.units) ha hb hs
theorem bV{m:Nat}(hr:Room m X.A)(ha:UE X F a ua)(hb:UE X F b ub):UB X F (.Compare a [.Eq] [b] pos) (uB (uOp pEq ua ub)):=uV (gW hr.units) ha hb (lI _)
theorem gX{m:Nat}(hr:Room m X.A)(ha:UE X F a ua)(hb:UE X F b ub):UB X F (.Compare a [.NotEq] [b] pos) (uB (uOp pNe ua ub)):=uV (vW hr.units) ha hb (lI _)
end
end L2
namespace L2
open PySem PySem.Spec PyProof.Rows WordM
section
variable{P:Program}{w:World}{K:W.Frag}{mg:Str->Option Value}{base:Heap}{x:Str}{st:Stmt}{k:Nat}{psp:PSp}{us:UTs}
theorem Has.pg1(N:List Str){a:Str}(h:Has K mg x st)
  (hbody:∀{f:Addr} {cdv:Value} {A:Around} {outer:List Env} {s:Shared} {H:Hp} {E:XK} {F:Fm},N.Nodup->Room k (A.deeper (envOfC x (aO st) s.heap.objs.size f cdv))->USs (eI CX0 P w K mg base N x (aO st) f cdv A outer s H E).nox F (bR st) us)
  (hp:∀as R,psp as R->as.length=[a].length/\us {nx:=λ_=>R nT,rt:=R} (fO N.length as))
  (S:bM N [a] (aO st):=by exact fsc (by decide +kernel))
  (hb:∀(kV doc pm:Value) (an:Option Addr) (cdv ct v0:Value),bindArgs (W.fnOf x x (cN st) (bR st) (aO st) .none kV doc pm an cdv ct) ⟨[v0],[]⟩=pure ([a].zip [v0]):=by exact λ_ _ _ _ _ _ _=>rfl):aG P w K mg base (k+1) x [a] psp:=
 h.pgood S (λkV doc pm an cdv ct us hl=>match us,hl with|[v0],_=>hb kV doc pm an cdv ct v0) (λf cdv A outer s H E F hr=>hbody S.nd hr) hp
theorem Has.pg2(N:List Str){a b:Str}(h:Has K mg x st)
  (hbody:∀{f:Addr} {cdv:Value} {A:Around} {outer:List Env} {s:Shared} {H:Hp} {E:XK} {F:Fm},N.Nodup->Room k (A.deeper (envOfC x (aO st) s.heap.objs.size f cdv))->USs (eI CX0 P w K mg base N x (aO st) f cdv A outer s H E).nox F (bR st) us)
  (hp:∀as R,psp as R->as.length=[a,b].length/\us {nx:=λ_=>R nT,rt:=R} (fO N.length as))
  (S:bM N [a,b] (aO st):=by exact fsc (by decide +kernel))
  (hb:∀(kV doc pm:Value) (an:Option Addr) (cdv ct v0 v1:Value),bindArgs (W.fnOf x x (cN st) (bR st) (aO st) .none kV doc pm an cdv ct) ⟨[v0,v1],[]⟩=pure ([a,b].zip [v0,v1]):=by exact λ_ _ _ _ _ _ _ _=>rfl):aG P w K mg base (k+1) x [a,b] psp:=
 h.pgood S (λkV doc pm an cdv ct us hl=>match us,hl with|[v0,v1],_=>hb kV doc pm an cdv ct v0 v1) (λf cdv A outer s H E F hr=>hbody S.nd hr) hp
theorem Has.pg3(N:List Str){a b c:Str}(h:Has K mg x st)
  (hbody:∀{f:Addr} {cdv:Value} {A:Around} {outer:List Env} {s:Shared} {H:Hp} {E:XK} {F:Fm},N.Nodup->Room k (A.deeper (envOfC x (aO st) s.heap.objs.size f cdv))->USs (eI CX0 P w K mg base N x (aO st) f cdv A outer s H E).nox F (bR st) us)
  (hp:∀as R,psp as R->as.length=[a,b,c].length/\us {nx:=λ_=>R nT,rt:=R} (fO N.length as))
  (S:bM N [a,b,c] (aO st):=by exact fsc (by decide +kernel))
  (hb:∀(kV doc pm:Value) (an:Option Addr) (cdv ct v0 v1 v2:Value),bindArgs (W.fnOf x x (cN st) (bR st) (aO st) .none kV doc pm an cdv ct) ⟨[v0,v1,v2],[]⟩=pure ([a,b,c].zip [v0,v1,v2]):=by exact λ_ _ _ _ _ _ _ _ _=>rfl):aG P w K mg base (k+1) x [a,b,c] psp:=
 h.pgood S (λkV doc pm an cdv ct us hl=>match us,hl with|[v0,v1,v2],_=>hb kV doc pm an cdv ct v0 v1 v2) (λf cdv A outer s H E F hr=>hbody S.nd hr) hp
theorem Has.pg4(N:List Str){a b c d:Str}(h:Has K mg x st)
  (hbody:∀{f:Addr} {cdv:Value} {A:Around} {outer:List Env} {s:Shared} {H:Hp} {E:XK} {F:Fm},N.Nodup->Room k (A.deeper (envOfC x (aO st) s.heap.objs.size f cdv))->USs (eI CX0 P w K mg base N x (aO st) f cdv A outer s H E).nox F (bR st) us)
  (hp:∀as R,psp as R->as.length=[a,b,c,d].length/\us {nx:=λ_=>R nT,rt:=R} (fO N.length as))
  (S:bM N [a,b,c,d] (aO st):=by exact fsc (by decide +kernel))
  (hb:∀(kV doc pm:Value) (an:Option Addr) (cdv ct v0 v1 v2 v3:Value),bindArgs (W.fnOf x x (cN st) (bR st) (aO st) .none kV doc pm an cdv ct) ⟨[v0,v1,v2,v3],[]⟩=pure ([a,b,c,d].zip [v0,v1,v2,v3]):=by exact λ_ _ _ _ _ _ _ _ _ _=>rfl):aG P w K mg base (k+1) x [a,b,c,d] psp:=
 h.pgood S (λkV doc pm an cdv ct us hl=>match us,hl with|[v0,v1,v2,v3],_=>hb kV doc pm an cdv ct v0 v1 v2 v3) (λf cdv A outer s H E F hr=>hbody S.nd hr) hp
theorem Has.pg5(N:List Str){a b c d e:Str}(h:Has K mg x st)
  (hbody:∀{f:Addr} {cdv:Value} {A:Around} {outer:List Env} {s:Shared} {H:Hp} {E:XK} {F:Fm},N.Nodup->Room k (A.deeper (envOfC x (aO st) s.heap.objs.size f cdv))->USs (eI CX0 P w K mg base N x (aO st) f cdv A outer s H E).nox F (bR st) us)
  (hp:∀as R,psp as R->as.length=[a,b,c,d,e].length/\us {nx:=λ_=>R nT,rt:=R} (fO N.length as))
  (S:bM N [a,b,c,d,e] (aO st):=by exact fsc (by decide +kernel))
  (hb:∀(kV doc pm:Value) (an:Option Addr) (cdv ct v0 v1 v2 v3 v4:Value),bindArgs (W.fnOf x x (cN st) (bR st) (aO st) .none kV doc pm an cdv ct) ⟨[v0,v1,v2,v3,v4],[]⟩=pure ([a,b,c,d,e].zip [v0,v1,v2,v3,v4]):=by exact λ_ _ _ _ _ _ _ _ _ _ _=>rfl):aG P w K mg base (k+1) x [a,b,c,d,e] psp:=
 h.pgood S (λkV doc pm an cdv ct us hl=>match us,hl with|[v0,v1,v2,v3,v4],_=>hb kV doc pm an cdv ct v0 v1 v2 v3 v4) (λf cdv A outer s H E F hr=>hbody S.nd hr) hp
end
end L2
namespace L2
open PySem PySem.Spec PyProof.Rows WordM
def rT:Nat->Tv->Str
 |0,_=>""
 |_+1,.leaf .non=>"None"
 |_+1,.leaf (.bl b)=>if b=true then "True" else "False"
 |_+1,.leaf (.int i)=>toString i
 |_+1,.leaf (.str x)=>reprText x
 |n+1,.seq true xs=>tupleText (xs.map (rT n))
 |_+1,_=>""
def RpD:Nat->Tv->Prop
 |0,_=>False
 |_+1,.leaf .non=>True
 |_+1,.leaf (.bl _)=>True
 |_+1,.leaf (.int i)=>i.natAbs.log2<1920
 |_+1,.leaf (.str x)=>(reprText x).length<=100000
 |n+1,.seq true xs=>(tupleText (xs.map (rT n))).length<=100000/\∀x∈xs,RpD n x
 |_+1,_=>False
theorem EqD.up:∀{n m:Nat}{T:Tv},n<=m->EqD n T->EqD m T
 |0,_,_,_,h=>False.elim h
 |_+1,0,_,l,_=>absurd l (by omega)
 |n+1,m+1,.leaf _,_,_=>trivial
 |n+1,m+1,.seq _ xs,l,h=>λU hU=>EqD.up (by omega) (h U hU)
 |n+1,m+1,.dct _,_,h=>False.elim h
theorem RpD.eqd:∀{n:Nat}{T:Tv},RpD n T->EqD n T
 |0,_,h=>h
 |n+1,.leaf _,_=>trivial
 |n+1,.seq true xs,h=>λU hU=>RpD.eqd (h.2 U hU)
 |n+1,.seq false xs,h=>False.elim h
 |n+1,.dct _,h=>False.elim h
section
variable{X:Cx}
def RpT(X:Cx)(H:Hp)(s:Shared)(n:Nat):Prop:=∀{T:Tv}{x:V}{u:Value},RpD n T->VA X.K H x T->RelV x u ->
  ∃as:List Addr,(∀b∈as,∃T' m,VA X.K H (.ref b) T'/\EqD m T'/\sizeOf T'<=sizeOf T)/\ReprK X.prog X.w as s.heap n u (rT n T)
theorem zAa{pins:List (Addr×Obj)}{σ:St}{H:Hp}{s:Shared}(I:Inv X pins σ H s){n:Nat}(ih:RpT X H s n){Ts:List Tv}{a:Addr}{xs:List V}{its:List Value}(h:RpD (n+1) (.seq true Ts))(vx:VA X.K H (.ref a) (.seq true Ts))(p:VAs X.K H xs Ts)(rv:Vals xs its):
  ∃as:List Addr,a∉as/\(∀b∈as,∃T' m,VA X.K H (.ref b) T'/\EqD m T'/\sizeOf T'<sizeOf (Tv.seq true Ts))/\ReprAllK X.prog X.w as s.heap n its (Ts.map (rT n)):=by
 have all:∀(Ts':List Tv) (xs:List V) (us:List Value),(∀T∈Ts',T∈Ts)->VAs X.K H xs Ts'->Vals xs us->∃as:List Addr,(∀b∈as,∃T' m,VA X.K H (.ref b) T'/\EqD m T'/\sizeOf T'<sizeOf (Tv.seq true Ts))/\∀as',(∀b∈as,b∈as')->ReprAllK X.prog X.w as' s.heap n us (Ts'.map (rT n)):=by
  intro Ts'
  induction Ts' with
  |nil=>
   intro xs us _ p rv
   cases p
   cases rv
   exact⟨[],(λb hb=>nomatch hb),λ_ _=>.nil⟩
  |cons T Ts' ih2=>
   intro xs us sub p rv
   cases p with
   |cons p1 p2=>
    cases rv with
    |cons r1 r2=>
     have hT:=sub T (.head _)
     obtain⟨as1,h1,k1⟩:=ih (h.2 T hT) p1 r1
     obtain⟨as2,h2,k2⟩:=ih2 _ _ (λU hU=>sub U (.tail _ hU)) p2 r2
     refine⟨as1++as2,λb hb=>?_,λas' hs=>.cons (k1.more λb hb=>hs b (List.mem_append_left _ hb)) (k2 as' λb hb=>hs b (List.mem_append_right _ hb))⟩
     rcases List.mem_append.mp hb with z|z
     ·obtain⟨T',m,v,e,l⟩:=h1 b z
      have:=List.sizeOf_lt_of_mem hT
      exact⟨T',m,v,e,by rw[Tv.seq.sizeOf_spec];omega⟩
     ·exact h2 b z
 obtain⟨as,h1,k1⟩:=all Ts xs its (λ_ z=>z) p rv
 refine⟨as,λz=>?_,h1,k1 as λ_ z=>z⟩
 obtain⟨T',m,v,e,l⟩:=h1 a z
 obtain⟨d1,v1⟩:=v
 obtain⟨d2,v2⟩:=vx
 have e1:EqD (max m (n+1)) T':=e.up (Nat.le_max_left _ _)
 have e2:EqD (max m (n+1)) (.seq true Ts):=(RpD.eqd h).up (Nat.le_max_right _ _)
 have:=qE I e1 e2 (e1.vp v1) (e2.vp v2)
 rw[this]at l
 omega
theorem zB{pins:List (Addr×Obj)}{σ:St}{H:Hp}{s:Shared}(I:Inv X pins σ H s):∀n:Nat,RpT X H s n
 |0,_,_,_,h,_,_=>False.elim h
 |n+1,.leaf v,x,u,h,vx,r=>by
  obtain⟨rfl,_⟩:=vx.leafI
  cases x with
  |non=>cases r;exact⟨[],(λb hb=>nomatch hb),.of_is ReprIs.none [] _ _⟩
  |bl b=>cases r;exact⟨[],(λb hb=>nomatch hb),.of_is (ReprIs.bool b) [] _ _⟩
  |int i=>obtain⟨t,rfl⟩:=r;exact⟨[],(λb hb=>nomatch hb),.of_is (ReprIs.int t h) [] _ _⟩
  |str y=>obtain⟨t,rfl⟩:=r;exact⟨[],(λb hb=>nomatch hb),.of_is (ReprIs.str y t (Nat.le_trans h (by decide))) [] _ _⟩
  |_=>exact False.elim h
 |n+1,.seq true Ts,x,u,h,vx,r=>by
  obtain⟨a,xs,rfl,hq,_,p⟩:=vx.seqI
  cases r
  obtain⟨its,rv,ht,_⟩:=I.tuple hq
  obtain⟨o,ho,hc,k,hd⟩:=ht
  obtain⟨as,na,h1,k1⟩:=zAa I (zB I n) h vx p rv
  refine⟨a::as,λb hb=>?_,ReprK.tuple ho hc hd na (by simpa using k1)⟩
  rcases List.mem_cons.mp hb with rfl|hb
  ·exact⟨.seq true Ts,n+1,vx,RpD.eqd h,Nat.le_refl _⟩
  ·obtain⟨T',m,v,e,l⟩:=h1 b hb
   exact⟨T',m,v,e,Nat.le_of_lt l⟩
 |n+1,.seq false Ts,_,_,h,_,_=>False.elim h
 |n+1,.dct _,_,_,h,_,_=>False.elim h
def zHt(K:W.Frag):List V->Hp->VK->Prop:=λxs H Q=>∃(x:V) (n:Nat) (Ts:List Tv),xs=[x]/\n<=30/\RpD (n+1) (.seq true Ts)/\VA K H x (.seq true Ts)/\Q (.str (rT (n+1) (.seq true Ts))) H
theorem zD2(hg:X.A.guards=some [])(hu:X.A.units+64<cLine):CallR X (.builtin "repr") (zHt X.K):=by
 intro pins s σ H xs us Q I r h
 obtain⟨x,n,Ts,rfl,ln,hR,vx,q⟩:=h
 obtain⟨u,rfl,rx⟩:=cV r
 obtain⟨a,xs,rfl,hq,_,p⟩:=vx.seqI
 cases rx
 obtain⟨its,rv,ht,_⟩:=I.tuple hq
 obtain⟨o,ho,hc,k,hd⟩:=id ht
 have hT:s.TypeIs (.ref a) "tuple":=⟨o,ho,hc⟩
 obtain⟨as,na,h1,k1⟩:=zAa I (zB I n) hR vx p rv
 refine Calls.call_function_entry F.kind_repr F.plain_repr F.entry_repr (F.args_repr1 _) ?_
 unfold Builtin.«repr»
 have u1:X.A.in1.units=X.A.units+1:=rfl
 refine wpAny_bind (m:=oneArg "repr" _) (wpAny_pure (wpAny_bind (wpAny_cRoomFor (by rw[u1];omega) ?_)))
 refine wpAny_bind (wpAny_specialOf (name:=Str.ofString "__repr__") hT F.slot_tuple_repr.lookup ?_)
 refine wpAny_bind (m:=callSpecialIfBound? _ (Str.ofString "__repr__")) (wpAny_callSpecialIfBound?_slotG (name:=Str.ofString "__repr__") hT F.slot_tuple_repr (call_tuple_reprK ho hc hd na (by simpa using k1) (A:=X.A.in1) (g:=[]) hg (λb _=>Clear.nil b) (by rw[u1];omega) (λ_ _ e=>e) (λh' u tk k=>?_) (Nat.le_trans hR.1 (by decide))))
 exact wpAny_bind (wpAny_isInstance (T:="str") (b:=true) rfl isSubtype_str_str (wpAny_pure ⟨_,rfl,.str _,H,I.kept (t':=tk) k,⟨u,rfl⟩,q⟩))
def zHY:Pn:=λTs Q=>∃(n:Nat) (Us:List Tv),Ts=[.seq true Us]/\n<=30/\RpD (n+1) (.seq true Us)/\Q (sT (rT (n+1) (.seq true Us)))
theorem zAb(hg:X.A.guards=some [])(hu:X.A.units+64<cLine):fE X (.builtin "repr") zHY:=⟨_,zD2 hg hu,λxs Ts H Q QQ vx h k=>by
 obtain⟨n,Us,rfl,ln,hR,q⟩:=h
 obtain⟨x,rfl,v⟩:=cH vx
 exact⟨x,n,Us,rfl,ln,hR,v,k _ _ _ (.flat rfl) q⟩⟩
end
end L2
namespace L2
open PySem PySem.Spec PyProof.Rows WordM
section
variable{X:Cx}{F:Fm}
def zFe:V->List V->Hp->VK->Prop:=λx vs H Q=>∃(i j:Str) (k:Int),x=.str i/\vs=[.str j,.int k]/\Q (.bl (Txt.startswith3 i j k)) H
theorem zDS:MtM X "str.startswith" zFe:=by
 intro pins s σ H x vs v us Q I rx rv h
 obtain⟨i,j,k,rfl,rfl,q⟩:=h
 obtain⟨t,rfl⟩:=rx
 cases rv with
 |cons r1 r2=>
  cases r2 with
  |cons r2 r3=>
   cases r3
   obtain⟨t1,rfl⟩:=r1
   obtain⟨t2,rfl⟩:=r2
   exact call_gives F.slot_str_startswith (typeIs_str _ _ _) F.entry_str_startswith (F.args_str_startswith_3 _ _ _) (gives_str_startswith_from i j k t t1 t2) ⟨.bl _,H,I,rfl,q⟩
def rF(x y:Str)(i:Int):Int:=match Builtin.Str.occurrences x y (fromIndex x.length i) x.length 1 with
 |k::_=>k
 |[]=>-1
def zHA:V->List V->Hp->VK->Prop:=λx vs H Q=>∃(i j:Str) (k:Int),x=.str i/\vs=[.str j,.int k]/\Q (.int (rF i j k)) H
theorem zFB:MtM X "str.find" zHA:=by
 intro pins s σ H x vs v us Q I rx rv h
 obtain⟨i,j,k,rfl,rfl,q⟩:=h
 obtain⟨t,rfl⟩:=rx
 cases rv with
 |cons r1 r2=>
  cases r2 with
  |cons r2 r3=>
   cases r3
   obtain⟨t1,rfl⟩:=r1
   obtain⟨t2,rfl⟩:=r2
   exact call_gives F.slot_str_find (typeIs_str _ _ _) F.entry_str_find (F.args_str_find_3 _ _ _) (gives_str_find_from i j k t t1 t2) ⟨.int _,H,I.tok _,⟨_,rfl⟩,q⟩
def zI1:List V->Hp->VK->Prop:=λxs H Q=>∃(x:Str) (n:Int),xs=[.str x]/\intText? x=some n/\x.length<=640/\Q (.int n) H
theorem zEU:CallR X (.type "int") zI1:=by
 intro pins s σ H xs us Q I r h
 obtain⟨x,n,rfl,e,l,q⟩:=h
 obtain⟨u,rfl,t,rfl⟩:=cV r
 exact PySem.W.KIN.call_text e l ⟨.int n,H,I.tok _,⟨_,rfl⟩,q⟩
def zFt:Tv->List Tv->(Tv->Prop)->Prop:=λW Ts Q=>∃(i j:Str) (k:Int),W=sT i/\Ts=[sT j,iT k]/\Q (bT (Txt.startswith3 i j k))
theorem zDM:∃r',MtR X "str.startswith" r'/\∀x W xs Ts H Q (QQ:VK),VA X.K H x W->VAs X.K H xs Ts->zFt W Ts Q->(∀z W H',Raw X.K H H' z W->Q W->QQ z H')->r' x xs H QQ:=⟨_,zDS,λx W xs Ts H Q QQ v p h k=>by
 obtain⟨i,j,n,rfl,rfl,q⟩:=h
 obtain⟨rfl,_⟩:=v.leafI
 obtain⟨y,z,rfl,v1,v2⟩:=rJ p
 obtain⟨rfl,_⟩:=v1.leafI
 obtain⟨rfl,_⟩:=v2.leafI
 exact⟨i,j,n,rfl,rfl,k _ _ _ (.flat rfl) q⟩⟩
def zH2:Tv->List Tv->(Tv->Prop)->Prop:=λW Ts Q=>∃(i j:Str) (k:Int),W=sT i/\Ts=[sT j,iT k]/\Q (iT (rF i j k))
theorem zFj:∃r',MtR X "str.find" r'/\∀x W xs Ts H Q (QQ:VK),VA X.K H x W->VAs X.K H xs Ts->zH2 W Ts Q->(∀z W H',Raw X.K H H' z W->Q W->QQ z H')->r' x xs H QQ:=⟨_,zFB,λx W xs Ts H Q QQ v p h k=>by
 obtain⟨i,j,n,rfl,rfl,q⟩:=h
 obtain⟨rfl,_⟩:=v.leafI
 obtain⟨y,z,rfl,v1,v2⟩:=rJ p
 obtain⟨rfl,_⟩:=v1.leafI
 obtain⟨rfl,_⟩:=v2.leafI
 exact⟨i,j,n,rfl,rfl,k _ _ _ (.flat rfl) q⟩⟩
def zJa:Pn:=λTs Q=>∃(x:Str) (n:Int),Ts=[sT x]/\intText? x=some n/\x.length<=640/\Q (iT n)
theorem zGo:fE X (.type "int") zJa:=⟨_,zEU,λxs Ts H Q QQ vx h k=>by
 obtain⟨x,n,rfl,e,l,q⟩:=h
 obtain⟨y,rfl,v⟩:=cH vx
 obtain⟨rfl,_⟩:=v.leafI
 exact⟨x,n,rfl,e,l,k _ _ _ (.flat rfl) q⟩⟩
end
theorem pI(m:Nat):NumText.AllDigits (List.map Char.toNat (Nat.toDigits 10 m)):=λc hc=>by
 obtain⟨d,hd,rfl⟩:=List.mem_map.mp hc
 have h:=Nat.isDigit_of_mem_toDigits (by decide) (by decide) hd
 unfold Char.isDigit at h
 have h:=Bool.and_eq_true_iff.mp h
 have h1:48<=d.val:=of_decide_eq_true h.1
 have h2:d.val<=57:=of_decide_eq_true h.2
 exact⟨UInt32.le_iff_toNat_le.mp h1,UInt32.le_iff_toNat_le.mp h2⟩
theorem qB(m:Nat):List.map Char.toNat (Nat.toDigits 10 m)≠[]:=λz=>by
 have:=List.map_eq_nil_iff.mp z
 exact absurd this (Nat.toDigits_ne_nil)
theorem zEI{i:Int}(h:i.natAbs<10 ^ 100):intText? (Str.ofString (toString i))=some i:=by
 have l:(Str.ofString (toString i)).length<=4300:=by
  have:=(zL i h).2
  rw[WordM.len,mW,List.length_map]
  omega
 cases i with
 |ofNat m=>
  have e:(Str.ofString (toString (Int.ofNat m))).cps.toList=List.map Char.toNat (Nat.toDigits 10 m):=PySem.W.KIN.signs_num m
  rw[intText_digits (by rw[e];exact pI m) (by rw[e];exact qB m) l,e,PySem.W.KIN.val_back]
  rfl
 |negSucc m=>
  have e:(Str.ofString (toString (Int.negSucc m))).cps.toList=45::List.map Char.toNat (Nat.toDigits 10 (m+1)):=by
   show cs (Str.ofString ("-"++m.succ.repr))=_
   rw[mW,String.toList_append,Nat.toList_repr]
   rfl
  rw[intText_neg e (pI _) (qB _) l,PySem.W.KIN.val_back]
  rfl
end L2
namespace L2
open PySem PySem.Spec PyProof.Rows WordM
structure RdK (K:W.Frag) (C:Addr):Prop where
 cl:Cls K C
 nt:NoAttr K C "text"
 np:NoAttr K C "place"
def FRd(F:Fm)(C:Addr):Prop:=∀a C',F.rd=some (a,C')->C'=C
section
variable{X:Cx}{F:Fm}{C:Addr}
def wL(i:Nat):UT:=λρ Q=>∃t p,ρ[i]?=some (.rd t p)/\Q (sT t) ρ
theorem kG(i:Nat){x:Str}{p pos:Pos}(hF:FRd F C)(hC:RdK X.K C)(hN:X.N[i]?=some x:=by rfl)(hv:Vis X.env.scope x:=by first|exact Or.inl rfl|exact Or.inr (Or.inl rfl)|exact Or.inr (Or.inr rfl))(hd:(x==("__debug__":Str))=false:=by decide)(hcd:(x==("__classdict__":Str))=false:=by decide)
  (hb:attributeBase (.Name x p) "text" X.env (eval (.Name x p) X.env)=eval (.Name x p) X.env:=by rfl):UE X F (.Attribute (.Name x p) "text" pos) (wL i):=
 ⟨PE.imp (zBL (eQ hN hv hd hcd) hb) λσ H QQ ⟨ρ,Q,fr,⟨t,pl,e,q⟩,k⟩=>by
  obtain⟨a,C',e1,e2,dx,e3⟩:=fr.at_ i _ e
  have:=hF a C' e1
  subst this
  exact⟨_,eJ e2,a,C',dx,_,.str t,rfl,e3,hC.cl,hC.nt,rfl,k _ _ _ _ (Stp.refl fr) (.flat rfl) q⟩⟩
def wM(i:Nat):UT:=λρ Q=>∃t p,ρ[i]?=some (.rd t p)/\Q (iT p) ρ
theorem gQ(i:Nat){x:Str}{p pos:Pos}(hF:FRd F C)(hC:RdK X.K C)(hN:X.N[i]?=some x:=by rfl)(hv:Vis X.env.scope x:=by first|exact Or.inl rfl|exact Or.inr (Or.inl rfl)|exact Or.inr (Or.inr rfl))(hd:(x==("__debug__":Str))=false:=by decide)(hcd:(x==("__classdict__":Str))=false:=by decide)
  (hb:attributeBase (.Name x p) "place" X.env (eval (.Name x p) X.env)=eval (.Name x p) X.env:=by rfl):UE X F (.Attribute (.Name x p) "place" pos) (wM i):=
 ⟨PE.imp (zBL (eQ hN hv hd hcd) hb) λσ H QQ ⟨ρ,Q,fr,⟨t,pl,e,q⟩,k⟩=>by
  obtain⟨a,C',e1,e2,dx,e3⟩:=fr.at_ i _ e
  have:=hF a C' e1
  subst this
  exact⟨_,eJ e2,a,C',dx,_,.int pl,rfl,e3,hC.cl,hC.np,rfl,k _ _ _ _ (Stp.refl fr) (.flat rfl) q⟩⟩
theorem FrOk.move{K:W.Frag}{ρ:aQ}{σ:St}{H:Hp}{i:Nat}{t:Str}{p n:Int}{a C' dx:Addr}(fr:FrOk K F ρ σ H)(e:ρ[i]?=some (.rd t p))(e1:F.rd=some (a,C'))(e2:ixv σ i=some (.ref a))(e3:H a=some (.ins C' dx [("text",.str t),("place",.int p)])):
  Stp K F σ ρ H (ρ.set i (.rd t n)) (upd H a (.ins C' dx [("text",.str t),("place",.int n)])):=by
 have hi:i<ρ.length:=(List.getElem?_eq_some_iff.mp e).1
 have hd:=fr.ins_nodk e3
 have hs:HS H (upd H a (.ins C' dx [("text",.str t),("place",.int n)])):=gA e3 rfl
 have st:∀b u,b≠a->H b=some u->upd H a (.ins C' dx [("text",.str t),("place",.int n)]) b=some u:=λb u z e=>by rw[bD z];exact e
 have get:∀(j:Nat) (s:Sl),(ρ.set i (.rd t n))[j]?=some s->(i=j/\s=.rd t n)\/(i≠j/\ρ[j]?=some s):=λj s e'=>by
  by_cases z:i=j
  ·subst z
   rw[List.getElem?_set_self hi]at e'
   exact .inl ⟨rfl,(Option.some.inj e').symm⟩
  ·rw[List.getElem?_set_ne z]at e';exact .inr ⟨z,e'⟩
 have sub:Sbv (ρ.set i (.rd t n)) ρ:=λj s e' m'=>by
  rcases get j s e' with⟨rfl,rfl⟩|⟨z,e'⟩
  ·exact⟨_,e,rfl⟩
  ·exact⟨s,e',m'⟩
 refine⟨⟨fr.d0,fr.r0,⟨λb u q n1 n2=>st b u (n2 a C' e1) (fr.kp.st b u q n1 n2),λp c d=>?_,λa' D d=>?_⟩,by rw[List.length_set];exact fr.len,λj s e'=>?_,λj k b s s' q1 q2 m1 m2 x1 x2=>?_⟩,λb u q _ n1=>st b u (λz=>n1 i _ e rfl (by rw[z];exact e2)) q,sub,λb u q=>if z:b=a then⟨.ins C' dx [("text",.str t),("place",.int n)],by rw[z];exact bF⟩ else⟨u,st b u z q⟩⟩
 ·obtain⟨ne,⟨S,k,e4⟩,ns,e5,l⟩:=fr.kp.dkk p c d
  exact⟨ne,⟨S,k,st _ _ (hd p c d).1.symm e4⟩,ns,st _ _ (hd p c d).2.symm e5,l⟩
 ·rw[e1]at d
  cases d
  exact⟨t,n,dx,bF⟩
 ·rcases get j s e' with⟨rfl,rfl⟩|⟨z,e'⟩
  ·exact⟨a,C',e1,e2,dx,bF⟩
  ·have x:=fr.at_ j s e'
   have na:∀b,cW s=true->ixv σ j=some (.ref b)->b≠a:=λb m q y=>z (fr.ap i j a _ s e e' rfl m e2 (by rw[q,y]))
   cases s with
   |no=>trivial
   |va T=>obtain⟨y,e4,v⟩:=x;exact⟨y,e4,v.hs hs⟩
   |own Ts=>obtain⟨b,xs,e4,e5,e6,z',p⟩:=x;exact⟨b,xs,e4,st _ _ (na b rfl e4) e5,e6,z',p.hs hs⟩
   |dct kts=>obtain⟨b,kvs,e4,e5,e6,n',z',p⟩:=x;exact⟨b,kvs,e4,st _ _ (na b rfl e4) e5,e6,n',z',p.hs hs⟩
   |dk=>exact x
   |fn _=>exact x
   |rd t' p'=>obtain⟨b,D,e4,e5,dx',e6⟩:=x;exact⟨b,D,e4,e5,dx',st _ _ (na b rfl e5) e6⟩
 ·obtain⟨u,eu,mu⟩:=sub j s q1 m1
  obtain⟨u',eu',mu'⟩:=sub k s' q2 m2
  exact fr.ap j k b u u' eu eu' mu mu' x1 x2
def zJJ(i:Nat)(u:UT):UTs:=λP ρ=>u ρ λT ρ1=>∃n t p,T=iT n/\ρ1[i]?=some (.rd t p)/\P.nx (ρ1.set i (.rd t n))
theorem uT(i:Nat){x:Str}{p pos pos':Pos}{e:Expr}{u:UT}(hF:FRd F C)(hC:RdK X.K C)(he:UE X F e u)(hN:X.N[i]?=some x:=by rfl)(hv:Vis X.env.scope x:=by first|exact Or.inl rfl|exact Or.inr (Or.inl rfl)|exact Or.inr (Or.inr rfl))(hd:(x==("__debug__":Str))=false:=by decide)(hcd:(x==("__classdict__":Str))=false:=by decide)
  (hs:swapsWith e (some (.Attribute (.Name x p) "place" pos')) pos.line X.env=pure false:=by rfl):US X F (.Assign [.Attribute (.Name x p) "place" pos'] e pos) (zJJ i u):=
 ⟨PS.imp (vE (eQ hN hv hd hcd) he.pe hs) λD σ H ⟨ρ,P,fr,h,k1,_⟩=>by
  refine⟨ρ,_,fr,h,λy T H1 ρ1 s1 v1 q=>?_⟩
  obtain⟨n,t,pl,rfl,e0,q⟩:=q
  obtain⟨rfl,_⟩:=v1.leafI
  obtain⟨a,C',e1,e2,dx,e3⟩:=s1.fr.at_ i _ e0
  have:=hF a C' e1
  subst this
  have mv:=s1.fr.move (n:=n) e0 e1 e2 e3
  exact⟨_,eJ e2,a,C',dx,_,rfl,e3,hC.cl,hC.np,by simp,k1 _ _ _ mv.fr ((s1.hs fr).trans (mv.hs s1.fr)) q⟩⟩
end
end L2
namespace L2
open PySem PySem.Spec PyProof.Rows WordM
section
variable{X:Cx}{F:Fm}{C:Addr}
theorem FrOk.callR{K:W.Frag}{ρ:aQ}{σ:St}{H H':Hp}{i:Nat}{t:Str}{p n:Int}{a C':Addr}(fr:FrOk K F ρ σ H)(e:ρ[i]?=some (.rd t p))(e1:F.rd=some (a,C'))(e2:ixv σ i=some (.ref a))(e3:hG H a C' t p)
  (st:∀b u,b≠a->H b=some u->H' b=some u) (e4:hG H' a C' t n):Stp K F σ ρ H (ρ.set i (.rd t n)) H':=by
 have hi:i<ρ.length:=(List.getElem?_eq_some_iff.mp e).1
 obtain⟨dx,e3⟩:=e3
 have hd:=fr.ins_nodk e3
 have hs:HS H H':=λb o h q=>st b o (λz=>by subst z;rw[e3]at q;cases q;cases h) q
 have get:∀(j:Nat) (s:Sl),(ρ.set i (.rd t n))[j]?=some s->(i=j/\s=.rd t n)\/(i≠j/\ρ[j]?=some s):=λj s e'=>by
  by_cases z:i=j
  ·subst z
   rw[List.getElem?_set_self hi]at e'
   exact .inl ⟨rfl,(Option.some.inj e').symm⟩
  ·rw[List.getElem?_set_ne z]at e';exact .inr ⟨z,e'⟩
 have sub:Sbv (ρ.set i (.rd t n)) ρ:=λj s e' m'=>by
  rcases get j s e' with⟨rfl,rfl⟩|⟨z,e'⟩
  ·exact⟨_,e,rfl⟩
  ·exact⟨s,e',m'⟩
 refine⟨⟨fr.d0,fr.r0,⟨λb u q n1 n2=>st b u (n2 a C' e1) (fr.kp.st b u q n1 n2),λp c d=>?_,λa' D d=>?_⟩,by rw[List.length_set];exact fr.len,λj s e'=>?_,λj k b s s' q1 q2 m1 m2 x1 x2=>?_⟩,λb u q _ n1=>st b u (λz=>n1 i _ e rfl (by rw[z];exact e2)) q,sub,λb u q=>?_⟩
 ·obtain⟨ne,⟨S,k,e4⟩,ns,e5,l⟩:=fr.kp.dkk p c d
  exact⟨ne,⟨S,k,st _ _ (hd p c d).1.symm e4⟩,ns,st _ _ (hd p c d).2.symm e5,l⟩
 ·rw[e1]at d
  cases d
  exact⟨t,n,e4⟩
 ·rcases get j s e' with⟨rfl,rfl⟩|⟨z,e'⟩
  ·exact⟨a,C',e1,e2,e4⟩
  ·have x:=fr.at_ j s e'
   have na:∀b,cW s=true->ixv σ j=some (.ref b)->b≠a:=λb m q y=>z (fr.ap i j a _ s e e' rfl m e2 (by rw[q,y]))
   cases s with
   |no=>trivial
   |va T=>obtain⟨y,e4,v⟩:=x;exact⟨y,e4,v.hs hs⟩
   |own Ts=>obtain⟨b,xs,e4,e5,e6,z',p⟩:=x;exact⟨b,xs,e4,st _ _ (na b rfl e4) e5,e6,z',p.hs hs⟩
   |dct kts=>obtain⟨b,kvs,e4,e5,e6,n',z',p⟩:=x;exact⟨b,kvs,e4,st _ _ (na b rfl e4) e5,e6,n',z',p.hs hs⟩
   |dk=>exact x
   |fn _=>exact x
   |rd t' p'=>obtain⟨b,D,e4,e5,dx',e6⟩:=x;exact⟨b,D,e4,e5,dx',st _ _ (na b rfl e5) e6⟩
 ·obtain⟨u,eu,mu⟩:=sub j s q1 m1
  obtain⟨u',eu',mu'⟩:=sub k s' q2 m2
  exact fr.ap j k b u u' eu eu' mu mu' x1 x2
 ·by_cases z:b=a
  ·obtain⟨dx',e5⟩:=e4
   exact⟨_,by rw[z];exact e5⟩
  ·exact⟨u,st b u z q⟩
abbrev bX:=Str->Int->List Tv->(Tv->Int->Prop)->Prop
def qR(K:W.Frag)(C:Addr)(psp:bX):Sp:=λvs H Q _=>∃a t p vs' Ts R,vs=.ref a::vs'/\hG H a C t p/\VAs K H vs' Ts/\psp t p Ts R/\∀x T H' p',(∀b u,b≠a->H b=some u->H' b=some u)->hG H' a C t p'->VA K H' x T->R T p'->Q x H'
def bK(P:Program)(w:World)(K:W.Frag)(mg:Str->Option Value)(base:Heap)(k:Nat)(x:Str)(ps:List Str)(C:Addr)(psp:bX):Prop:=Good P w K mg base k x ps (qR K C psp)
def vaS:List Ar->List Tv->Prop
 |[],[]=>True
 |.va T::as,U::Ts=>T=U/\vaS as Ts
 |_,_=>False
theorem qF{K:W.Frag}{dk:Option (Addr×Addr)}{H:Hp}:∀{xs:List V}{as:List Ar}{Ts:List Tv},Paired (oQ K dk H) xs as->vaS as Ts->VAs K H xs Ts
 |[],[],[],_,_=>.nil
 |x::xs,.va T::as,U::Ts,.cons r t,h=>by
  obtain⟨rfl,h⟩:=h
  exact .cons r (qF t h)
def iH(i:Nat)(psp:bX)(ua:UTa):UT:=λρ Q=>(∃t p,ρ[i]?=some (.rd t p))/\ua ρ λas ρ1=>∃t p Ts,ρ1[i]?=some (.rd t p)/\vaS as Ts/\psp t p Ts λT p'=>Q T (ρ1.set i (.rd t p'))
theorem cZ(i:Nat){k:Nat}{f x:Str}{ps:List Str}{psp:bX}{es:List Expr}{ua:UTa}{p p' pos:Pos}(hF:FRd F C)(G:bK X.prog X.w X.K X.mg X.base k f ps C psp)(hr:Room k X.A)(hg:Gl X f)(ha:UA X F es ua)
  (hN:X.N[i]?=some x:=by rfl) (hv:Vis X.env.scope x:=by first|exact Or.inl rfl|exact Or.inr (Or.inl rfl)|exact Or.inr (Or.inr rfl)) (hd:(x==("__debug__":Str))=false:=by decide) (hcd:(x==("__classdict__":Str))=false:=by decide) (hdb:(f==("__debug__":Str))=false:=by decide)
  (hpl:(backTo pos (starEach es X.env)).any (·.1)=false:=by rfl):UE X F (.Call (.Name f p) (.Name x p'::es) [] pos) (iH i psp ua):=
 ⟨PE.imp (nY G hr hg (dH (eQ hN hv hd hcd) ha.pa rfl) hdb rfl hpl) λσ H QQ ⟨ρ,Q,fr,⟨⟨t0,p0,e0⟩,hu⟩,k⟩=>by
  obtain⟨a,C',e1,e2,_⟩:=fr.at_ i _ e0
  refine⟨.ref a,eJ e2,ρ,_,fr,hu,λxs as H1 ρ1 s1 p1 q1=>?_⟩
  obtain⟨t,pl,Ts,er,va,q⟩:=q1
  obtain⟨a2,C2,e3,e4,e5⟩:=s1.fr.at_ i _ er
  rw[e1]at e3
  cases e3
  have:=hF a C' e1
  subst this
  show qR X.K C' psp (.ref a::xs++[]) H1 QQ E0
  rw[List.append_nil]
  exact⟨a,t,pl,xs,Ts,_,rfl,e5,qF p1 va,q,λz W H' p' st rd' v qq=>k _ _ _ _ (s1.trans (s1.fr.callR er e1 e2 e5 st rd')) v qq⟩⟩
end
def kH(n:Nat)(t:Str)(p:Int)(Ts:List Tv):aQ:=.rd t p::(Ts.map Sl.va++List.replicate (n-(Ts.length+1)) .no)
theorem zP{K:W.Frag}{H:Hp}{a C:Addr}{t:Str}{pl:Int}{N:List Str}{vs:List V}{Ts:List Tv}(h:hG H a C t pl)(p:VAs K H vs Ts):FrOk K ⟨H,none,some (a,C)⟩ (kH N.length t pl Ts) (start N (.ref a::vs)) H:=by
 have l:vs.length=Ts.length:=Paired.length p
 refine⟨λ_ _ z=>(nomatch z),λa' C' z=>by cases z;exact⟨t,pl,h⟩,⟨λ_ _ e _ _=>e,λ_ _ z=>(nomatch z),λa' C' z=>by cases z;exact⟨t,pl,h⟩⟩,?_,λi s e=>?_,λi j b s s' e e' m m' _ _=>?_⟩
 ·unfold kH start
  simp
  omega
 ·match i,e with
  |0,e=>
   cases (show some (Sl.rd t pl)=some s from e)
   exact⟨a,C,rfl,rfl,h⟩
  |i+1,e=>
   have e:(Ts.map Sl.va++List.replicate (N.length-(Ts.length+1)) Sl.no)[i]?=some s:=e
   by_cases hi:i<Ts.length
   ·rw[List.getElem?_append_left (by simpa using hi),List.getElem?_map]at e
    obtain⟨T,eT,rfl⟩:=Option.map_eq_some_iff.mp e
    have hv:i<vs.length:=by omega
    obtain⟨T',eT',v⟩:=eZ p (List.getElem?_eq_getElem hv)
    rw[eT]at eT'
    cases eT'
    refine⟨vs[i],?_,v⟩
    refine zBQ ?_
    show((V.ref a::vs).map some++_)[i+1]?=_
    rw[List.getElem?_append_left (by simpa using hv),List.getElem?_map,List.getElem?_cons_succ,List.getElem?_eq_getElem hv]
    rfl
   ·rw[List.getElem?_append_right (by simpa using hi),List.getElem?_replicate]at e
    split at e
    ·cases e;trivial
    ·cases e
 ·have one:∀(i:Nat) (s:Sl),(kH N.length t pl Ts)[i]?=some s->cW s=true->i=0:=λi s e m=>by
   match i,e with
   |0,_=>rfl
   |i+1,e=>
    have e:(Ts.map Sl.va++List.replicate (N.length-(Ts.length+1)) Sl.no)[i]?=some s:=e
    by_cases hi:i<Ts.length
    ·rw[List.getElem?_append_left (by simpa using hi),List.getElem?_map]at e
     obtain⟨T,eT,rfl⟩:=Option.map_eq_some_iff.mp e
     cases m
    ·rw[List.getElem?_append_right (by simpa using hi),List.getElem?_replicate]at e
     split at e
     ·cases e;cases m
     ·cases e
  rw[one i s e m,one j s' e' m']
theorem Has.pgR{P:Program}{w:World}{K:W.Frag}{mg:Str->Option Value}{base:Heap}{x:Str}{st:Stmt}{N ps:List Str}{k:Nat}{C:Addr}{psp:bX}{us:UTs}(h:Has K mg x st)(S:bM N ps (aO st))
  (hb:∀(kV doc pm:Value) (an:Option Addr) (cdv ct:Value) (us:List Value),us.length=ps.length->bindArgs (W.fnOf x x (cN st) (bR st) (aO st) .none kV doc pm an cdv ct) ⟨us,[]⟩=pure (ps.zip us))
  (hbody:∀(f:Addr) (cdv:Value) (A:Around) (outer:List Env) (s:Shared) (H:Hp) (E:XK) (F:Fm),FRd F C->Room k (A.deeper (envOfC x (aO st) s.heap.objs.size f cdv))->USs (eI CX0 P w K mg base N x (aO st) f cdv A outer s H E).nox F (bR st) us)
  (hp:∀t p Ts R,psp t p Ts R->Ts.length+1=ps.length/\us {nx:=λρ=>∃p',ρ[0]?=some (.rd t p')/\R nT p',rt:=λ_=>False,rr:=λT ρ=>∃p',ρ[0]?=some (.rd t p')/\R T p'} (kH N.length t p Ts)):bK P w K mg base (k+1) x ps C psp:=by
 refine h.good S hb (λvs H Q E q=>?_) (λf cdv A outer s H vs Q E hr q=>?_)
 ·obtain⟨a,t,p,vs',Ts,R,rfl,_,pv,q,_⟩:=q
  have:=Paired.length pv
  have:=(hp t p Ts R q).1
  rw[List.length_cons]
  omega
 ·obtain⟨a,t,p,vs',Ts,R,rfl,hd,pv,q,k⟩:=q
  have stay:∀{H':Hp},Kp none (some (a,C)) H H'->∀b u,b≠a->H b=some u->H' b=some u:=λkp b u z e=>kp.st b u e (λ_ _ y=>nomatch y) λa' C' y=>by cases y;exact z
  refine⟨_,(hbody f cdv A outer s H E ⟨H,none,some (a,C)⟩ (λa' C' z=>by cases z;rfl) hr).ps,kH N.length t p Ts,_,zP hd pv,(hp t p Ts R q).2,λσ' H' ρ' fr _ ⟨p',e,q⟩=>?_,λx T H' ρ' kp rs v q=>?_,λ_ _ _ _ _ z=>z,λ_ _ _ _ _ z=>z⟩
  ·obtain⟨a',C',e1,e2⟩:=fr.rds 0 t p' e
   cases e1
   exact k _ _ _ p' (stay fr.kp) e2 (.flat rfl) q
  ·obtain⟨p',e,q⟩:=q.resolve_left id
   obtain⟨a',C',e1,e2⟩:=rs 0 t p' e
   cases e1
   exact k _ _ _ p' (stay kp) e2 v q
end L2
namespace L2
open PySem PySem.Spec PyProof.Rows WordM
def HasM(K:W.Frag)(C:Addr)(m qual:Str)(st:Stmt):Prop:=∃(f:Addr) (fd:FuncData),Fun K m qual st f fd/\oM K C m f
def bO(P:Program)(w:World)(K:W.Frag)(mg:Str->Option Value)(base:Heap)(k:Nat)(m:Str)(ps:List Str)(C:Addr)(psp:bX):Prop:=
 ∃(f:Addr) (fd:FuncData),FnOk P w K mg base CX0 k f fd ps (qR K C psp)/\Binds K fd ps []/\oM K C m f
theorem HasM.pgR{P:Program}{w:World}{K:W.Frag}{mg:Str->Option Value}{base:Heap}{m qual:Str}{st:Stmt}{N ps:List Str}{k:Nat}{C:Addr}{psp:bX}{us:UTs}(h:HasM K C m qual st)(S:bM N ps (aO st))
  (hb:∀(kV doc pm:Value) (an:Option Addr) (cdv ct:Value) (us:List Value),us.length=ps.length->bindArgs (W.fnOf m qual (cN st) (bR st) (aO st) .none kV doc pm an cdv ct) ⟨us,[]⟩=pure (ps.zip us))
  (hbody:∀(f:Addr) (cdv:Value) (A:Around) (outer:List Env) (s:Shared) (H:Hp) (E:XK) (F:Fm),FRd F C->Room k (A.deeper (envOfC qual (aO st) s.heap.objs.size f cdv))->USs (eI CX0 P w K mg base N qual (aO st) f cdv A outer s H E).nox F (bR st) us)
  (hp:∀t p Ts R,psp t p Ts R->Ts.length+1=ps.length/\us {nx:=λρ=>∃p',ρ[0]?=some (.rd t p')/\R nT p',rt:=λ_=>False,rr:=λT ρ=>∃p',ρ[0]?=some (.rd t p')/\R T p'} (kH N.length t p Ts)):bO P w K mg base (k+1) m ps C psp:=by
 obtain⟨f,fd,FU,hm⟩:=h
 refine⟨f,fd,FU.ok S (λvs H Q E q=>?_) (λcdv A outer s H vs Q E hr q=>?_),FU.binds hb,hm⟩
 ·obtain⟨a,t,p,vs',Ts,R,rfl,_,pv,q,_⟩:=q
  have:=Paired.length pv
  have:=(hp t p Ts R q).1
  rw[List.length_cons]
  omega
 ·obtain⟨a,t,p,vs',Ts,R,rfl,hd,pv,q,k⟩:=q
  have stay:∀{H':Hp},Kp none (some (a,C)) H H'->∀b u,b≠a->H b=some u->H' b=some u:=λkp b u z e=>kp.st b u e (λ_ _ y=>nomatch y) λa' C' y=>by cases y;exact z
  refine⟨_,(hbody f cdv A outer s H E ⟨H,none,some (a,C)⟩ (λa' C' z=>by cases z;rfl) hr).ps,kH N.length t p Ts,_,zP hd pv,(hp t p Ts R q).2,λσ' H' ρ' fr _ ⟨p',e,q⟩=>?_,λx T H' ρ' kp rs v q=>?_,λ_ _ _ _ _ z=>z,λ_ _ _ _ _ z=>z⟩
  ·obtain⟨a',C',e1,e2⟩:=fr.rds 0 t p' e
   cases e1
   exact k _ _ _ p' (stay fr.kp) e2 (.flat rfl) q
  ·obtain⟨p',e,q⟩:=q.resolve_left id
   obtain⟨a',C',e1,e2⟩:=rs 0 t p' e
   cases e1
   exact k _ _ _ p' (stay kp) e2 v q
section
variable{X:Cx}{F:Fm}{C:Addr}
theorem zDX(i:Nat){m:Str}{psp:bX}{ua:UTa}(hF:FRd F C)(hl:∀a b:V,List.lookup m [(("text":Str),a),("place",b)]=none)(σ:St)(H:Hp)(QQ:VK)(h:eE X.K F (iH i psp ua) σ H QQ):vS C m (qR X.K C psp) [] E0 (lY i) (oB X.K F ua) σ H QQ:=by
 obtain⟨ρ,Q,fr,⟨⟨t0,p0,e0⟩,hu⟩,k⟩:=h
 obtain⟨a,C',e1,e2,dx,e3⟩:=fr.at_ i _ e0
 have:=hF a C' e1
 subst this
 refine⟨.ref a,eJ e2,a,dx,_,rfl,e3,hl _ _,ρ,_,fr,hu,λxs as H1 ρ1 s1 p1 q1=>?_⟩
 obtain⟨t,pl,Ts,er,va,q⟩:=q1
 obtain⟨a2,C2,e4,e5,e6⟩:=s1.fr.at_ i _ er
 rw[e1]at e4
 cases e4
 rw[List.append_nil]
 exact⟨a,t,pl,xs,Ts,_,rfl,e6,qF p1 va,q,λz W H' p' st rd' v qq=>k _ _ _ _ (s1.trans (s1.fr.callR er e1 e2 e6 st rd')) v qq⟩
theorem bS(i:Nat){k:Nat}{m x:Str}{ps:List Str}{psp:bX}{e:Expr}{es:List Expr}{ua:UTa}{p apos pos:Pos}{pl:Sem Bool}(hF:FRd F C)(hC:RdK X.K C)(G:bO X.prog X.w X.K X.mg X.base k m ps C psp)(hr:Room k X.A)(ha:UA X F (e::es) ua)
  (hN:X.N[i]?=some x:=by rfl) (hv:Vis X.env.scope x:=by first|exact Or.inl rfl|exact Or.inr (Or.inl rfl)|exact Or.inr (Or.inr rfl)) (hd:(x==("__debug__":Str))=false:=by decide) (hcd:(x==("__classdict__":Str))=false:=by decide)
  (hl:∀a b:V,List.lookup m [(("text":Str),a),("place",b)]=none:=by intro a b;rfl)
  (hst:starEach (e::es) X.env=(false,eval e X.env)::starEach es X.env:=by rfl) (hpl:(backTo pos (starEach es X.env)).any (·.1)=false:=by rfl)
  (ht:eval (.Call (.Attribute (.Name x p) m apos) (e::es) [] pos) X.env=(do
   let ov <- eval (.Name x p) X.env
   standAt apos.atName
   let (f,first) <- holding [ov] (getMethod ov m pl)
   callWith pos f first (backTo pos (starEach (e::es) X.env)) (backToKw pos (keywordEach [] X.env))):=by rfl):UE X F (.Call (.Attribute (.Name x p) m apos) (e::es) [] pos) (iH i psp ua):=by
 obtain⟨f,fd,FO,hb,hm⟩:=G
 exact⟨PE.imp (zGx (pl:=pl) (eQ hN hv hd hcd) hC.cl hm FO hr hb .nil lT ha.pa hst hpl ht) (zDX i hF hl)⟩
theorem jS(i:Nat){k:Nat}{m x:Str}{ps:List Str}{psp:bX}{p apos pos:Pos}{pl:Sem Bool}(hF:FRd F C)(hC:RdK X.K C)(G:bO X.prog X.w X.K X.mg X.base k m ps C psp)(hr:Room k X.A)
  (hN:X.N[i]?=some x:=by rfl) (hv:Vis X.env.scope x:=by first|exact Or.inl rfl|exact Or.inr (Or.inl rfl)|exact Or.inr (Or.inr rfl)) (hd:(x==("__debug__":Str))=false:=by decide) (hcd:(x==("__classdict__":Str))=false:=by decide)
  (hl:∀a b:V,List.lookup m [(("text":Str),a),("place",b)]=none:=by intro a b;rfl)
  (ht:eval (.Call (.Attribute (.Name x p) m apos) [] [] pos) X.env=(do
   let ov <- eval (.Name x p) X.env
   standAt apos.atName
   let (f,first) <- holding [ov] (getMethod ov m pl)
   callWith pos f first (backTo pos (starEach [] X.env)) (backToKw pos (keywordEach [] X.env))):=by rfl):UE X F (.Call (.Attribute (.Name x p) m apos) [] [] pos) (iH i psp fI):=by
 obtain⟨f,fd,FO,hb,hm⟩:=G
 exact⟨PE.imp (zFn (pl:=pl) (eQ hN hv hd hcd) hC.cl hm FO hr hb .nil lT ht) λσ H QQ ⟨ρ,Q,fr,⟨_,hu⟩,k⟩=>by
  obtain⟨t,pl,Ts,er,va,q⟩:=hu
  obtain⟨a,C',e1,e2,dx,e3⟩:=fr.at_ i _ er
  have:=hF a C' e1
  subst this
  refine⟨.ref a,eJ e2,a,dx,_,rfl,e3,hl _ _,?_⟩
  exact⟨a,t,pl,[],Ts,_,rfl,⟨dx,e3⟩,qF (dk:=none) .nil va,q,λz W H' p' st rd' v qq=>k _ _ _ _ (fr.callR er e1 e2 ⟨dx,e3⟩ st rd') v qq⟩⟩
end
end L2
namespace L2
open PySem PySem.Spec PyProof.Rows WordM
def zGc(C:Addr):Sp:=λvs H Q _=>∃x dx t,vs=[.ref x,.str t]/\H x=some (.ins C dx []) /\
 ∀H2:Hp,H2 x=some (.ins C dx [("text",.str t),("place",.int 0)])->(∀b,b≠x->H2 b=H b)->Q .non H2
def MkR(P:Program)(w:World)(K:W.Frag)(mg:Str->Option Value)(base:Heap)(k:Nat)(x:Str)(C:Addr):Prop:=
 mg x=some (.ref C)/\∃(f:Addr) (fd:FuncData),Mk K C f/\FnOk P w K mg base CX0 k f fd ["self","text"] (zGc C)/\Binds K fd ["self","text"] []
def vG:Sl->Bool
 |.no=>true
 |.va _=>true
 |.dk=>true
 |.fn _=>true
 |_=>false
section
variable{X:Cx}{F:Fm}{C:Addr}
theorem zIv{K:W.Frag}{ρ:aQ}{σ:St}{H H2:Hp}{i:Nat}{t:Str}{x dx:Addr}(fr:FrOk K F ρ σ H)(hp:ρ.all vG=true)(hi:i<ρ.length)(nx:H x=none)(e:H2 x=some (.ins C dx [("text",.str t),("place",.int 0)]))(st:∀b u,H b=some u->H2 b=some u):
  FrOk K ⟨H2,F.dk,some (x,C)⟩ (ρ.set i (.rd t 0)) (σ.set i (some (.ref x))) H2:=by
 have hs:HS H H2:=λb u _ e=>st b u e
 have pl:∀(j:Nat) (s:Sl),ρ[j]?=some s->vG s=true:=λj s e=>List.all_eq_true.mp hp s (List.mem_of_getElem? e)
 have get:∀(j:Nat) (s:Sl),(ρ.set i (.rd t 0))[j]?=some s->(i=j/\s=.rd t 0)\/(i≠j/\ρ[j]?=some s):=λj s e'=>by
  by_cases z:i=j
  ·subst z
   rw[List.getElem?_set_self hi]at e'
   exact .inl ⟨rfl,(Option.some.inj e').symm⟩
  ·rw[List.getElem?_set_ne z]at e';exact .inr ⟨z,e'⟩
 have dk:∀p c,F.dk=some (p,c)->DeckAt H2 p c:=λp c d=>by
  obtain⟨ne,⟨S,k,e4⟩,ns,e5,l⟩:=fr.kp.dkk p c d
  exact⟨ne,⟨S,k,st _ _ e4⟩,ns,st _ _ e5,l⟩
 have rd:∀a D,some (x,C)=some (a,D)->∃t p,hG H2 a D t p:=λa D d=>by
  cases d
  exact⟨t,0,dx,e⟩
 have one:∀(j:Nat) (s:Sl),(ρ.set i (.rd t 0))[j]?=some s->cW s=true->i=j:=λj s e' m=>by
  rcases get j s e' with⟨z,_⟩|⟨_,e'⟩
  ·exact z
  ·have:=pl j s e'
   cases s<;>first|exact absurd m Bool.false_ne_true|exact absurd this Bool.false_ne_true
 refine⟨dk,rd,⟨λ_ _ e _ _=>e,dk,rd⟩,by rw[List.length_set,List.length_set];exact fr.len,λj s e'=>?_,λj k b s s' q1 q2 m1 m2 _ _=>(one j s q1 m1).symm.trans (one k s' q2 m2)⟩
 rcases get j s e' with⟨rfl,rfl⟩|⟨z,e'⟩
 ·refine⟨x,C,rfl,?_,dx,e⟩
  unfold ixv
  rw[List.getElem?_set_self (by rw[<-fr.len];exact hi)]
  rfl
 ·have h:=fr.at_ j s e'
  have ix:ixv (σ.set i (some (.ref x))) j=ixv σ j:=by
   unfold ixv
   rw[List.getElem?_set_ne z]
  have:=pl j s e'
  cases s with
  |no=>trivial
  |va T=>obtain⟨y,e4,v⟩:=h;exact⟨y,ix.trans e4,v.hs hs⟩
  |dk=>obtain⟨p,c,e4,e5⟩:=h;exact⟨p,c,e4,ix.trans e5⟩
  |fn a=>exact ix.trans h
  |own _=>cases this
  |dct _=>cases this
  |rd _ _=>cases this
def zIV(i j:Nat)(ub:UTs):UTs:=λP ρ=>∃t,ρ.all vG=true/\i<ρ.length/\ρ[j]?=some (.va (sT t))/\ub {nx:=λ_=>False,rt:=P.rt,rr:=λT _=>P.rt T} (ρ.set i (.rd t 0))
theorem zF4(i j:Nat){k:Nat}{x y c:Str}{p p1 p2 p3 pos:Pos}{rest:List Stmt}{ub:UTs}(G:MkR X.prog X.w X.K X.mg X.base k c C)(hr:Room (k+1) X.A)(hg:Gl X c)(hN:X.N.Nodup)(hi:X.N[i]?=some x)(hx:Loc X.env.scope x)
  (hb:∀F':Fm,F'.dk=F.dk->FRd F' C->USs X F' rest ub)
  (hj:X.N[j]?=some y:=by rfl) (hv:Vis X.env.scope y:=by first|exact Or.inl rfl|exact Or.inr (Or.inl rfl)|exact Or.inr (Or.inr rfl)) (hd:(y==("__debug__":Str))=false:=by decide) (hcd:(y==("__classdict__":Str))=false:=by decide) (hdb:(c==("__debug__":Str))=false:=by decide)
  (hs:swapsWith (.Call (.Name c p) [.Name y p1] [] p2) (some (.Name x p3)) pos.line X.env=pure false:=by rfl) (hf:X.fn x=true\/X.env.scope.names.lookup x=some .local:=by first|exact .inl rfl|exact .inr rfl|assumption):
  USs X F (.Assign [.Name x p3] (.Call (.Name c p) [.Name y p1] [] p2) pos::rest) (zIV i j ub):=by
 obtain⟨hm,f,fd,M,FO,hb'⟩:=G
 have h2:PSs X rest (λD σ H=>∃F':Fm,F'.dk=F.dk/\FRd F' C/\kK X.K F' ub D σ H):=λpins s σ H D I ⟨F',d,r,q⟩=>(hb F' d r).ps pins s σ H D I q
 refine⟨PSs.imp (fM (jC hN hi hx (zGy M FO hr hg hm hb' .nil lT (dH (eQ hj hv hd hcd) eR rfl) hdb) hs hf) h2) λD σ H ⟨ρ,P,fr,⟨t,hp,hi',ej,q⟩,_,k2,_⟩=>?_⟩
 obtain⟨v,e1,v1⟩:=fr.at_ j _ ej
 obtain⟨rfl,_⟩:=v1.leafI
 refine⟨_,eJ e1,λa dx na nd ne=>?_⟩
 refine⟨a,dx,t,rfl,bF,λH2 e st=>⟨rfl,?_⟩⟩
 have st2:∀b u,H b=some u->H2 b=some u:=λb u e=>by
  have z1:b≠a:=λz=>by rw[z,na]at e;cases e
  have z2:b≠dx:=λz=>by rw[z,nd]at e;cases e
  rw[st b z1,bD z1,bD z2]
  exact e
 have f2:=zIv (C:=C) fr hp hi' na e st2
 refine⟨⟨H2,F.dk,some (a,C)⟩,rfl,λa' C' z=>by cases z;rfl,_,_,f2,q,λ_ _ _ _ _ z=>z.elim,λx T H' ρ' kp _ v q=>?_,λ_ _ _ _ _ z=>z.elim,λ_ _ _ _ _ z=>z.elim⟩
 have na':∀b u,H b=some u->∀a' C',some (a,C)=some (a',C')->b≠a':=λb u e a' C' z y=>by
  cases z
  rw[y,na]at e
  cases e
 refine k2 x T H' [] ⟨λb o e n1 n2=>?_,kp.dkk,λa' D' d=>?_⟩ (λi t p z=>nomatch z) v (.inl (q.elim id id))
 ·have e:=fr.kp.st b o e n1 n2
  exact kp.st b o (st2 b o e) n1 (na' b o e)
 ·obtain⟨t',p',dx',e⟩:=fr.kp.rdk a' D' d
  exact⟨t',p',dx',kp.st _ _ (st2 _ _ e) (fr.ins_nodk e) (na' _ _ e)⟩
end
theorem zIj{P:Program}{w:World}{K:W.Frag}{mg:Str->Option Value}{base:Heap}{x qual:Str}{st:Stmt}{k:Nat}{C f:Addr}{fd:FuncData}(FU:Fun K "__init__" qual st f fd)(S:bM ["self","text"] ["self","text"] (aO st))(hC:RdK K C)(M:Mk K C f)(hm:mg x=some (.ref C))
  (hb:∀(kV doc pm:Value) (an:Option Addr) (cdv ct:Value) (us:List Value),us.length=(["self","text"]:List Str).length->bindArgs (W.fnOf "__init__" qual (cN st) (bR st) (aO st) .none kV doc pm an cdv ct) ⟨us,[]⟩=pure ((["self","text"]:List Str).zip us))
  (hbody:∀(cdv:Value) (A:Around) (outer:List Env) (s:Shared) (H:Hp) (E:XK),Room k (A.deeper (envOfC qual (aO st) s.heap.objs.size f cdv))->PSs (eI CX0 P w K mg base ["self","text"] qual (aO st) f cdv A outer s H E).nox (bR st) (zCm (wP K (lY 0) (lY 1) "text") (wP K (lY 0) (tC (.int 0)) "place"))):MkR P w K mg base (k+1) x C:=by
 refine⟨hm,f,fd,M,FU.ok S (λvs H Q E q=>?_) (λcdv A outer s H vs Q E hr q=>?_),FU.binds hb⟩
 ·obtain⟨_,_,_,rfl,_⟩:=q
  rfl
 ·obtain⟨a,dx,t,rfl,e,k⟩:=q
  refine⟨_,hbody cdv A outer s H E hr,_,rfl,_,rfl,a,C,dx,_,rfl,e,hC.cl,hC.nt,by decide,_,rfl,a,C,dx,_,rfl,bF,hC.cl,hC.np,(show 1<1000 by decide),?_⟩
  exact k _ bF λb z=>by rw[bD z,bD z]
end L2
namespace L2
open PySem PySem.Spec PyProof.Rows WordM
section
variable{X:Cx}{F:Fm}{C:Addr}
def uFn(a:Addr)(t:UTa):UTa:=λρ Q=>t ρ λas ρ2=>Q (.fn a::as) ρ2
theorem zIG{x:Str}{a:Addr}{pos:Pos}{es:List Expr}{t:UTa}(hg:Gl X x)(hm:X.mg x=some (.ref a))(hr:UA X F es t)(hd:(x==("__debug__":Str))=false:=by decide):UA X F (.Name x pos::es) (uFn a t):=
 ⟨PA.imp (dH (pW (v:=.ref a) hg hm rfl hd) hr.pa rfl) λσ H QQ ⟨ρ,Q,fr,h,k⟩=>⟨ρ,_,fr,h,λxs as H2 ρ2 s2 p2 q2=>k _ _ _ _ s2 (.cons (b:=Ar.fn a) rfl p2) q2⟩⟩
theorem zFq{CX:CXT}{k i:Nat}{f:Addr}{fd:FuncData}{ps:List Str}{sp:Sp}{dvs:List V}{ds:List Value}{E:XK}{g:Str}{e:Expr}{es:List Expr}{t:TA}{p pos:Pos}(FO:FnOk X.prog X.w X.K X.mg X.base CX k f fd ps sp)(hr:Room k X.A)(hk:W.keepIn X.K (.ref f)=true)(hb:Binds X.K fd ps ds)(hdv:Vals dvs ds)(hx:iM CX X E)
  (ha:PA X (e::es) t) (hN:X.N[i]?=some g) (hv:Vis X.env.scope g) (hd:(g==("__debug__":Str))=false) (hcd:(g==("__classdict__":Str))=false) (he:starEach (e::es) X.env=(false,eval e X.env)::starEach es X.env) (hpl:(backTo pos (starEach es X.env)).any (·.1)=false):
  PE X (.Call (.Name g p) (e::es) [] pos) (λσ H Q=>σ[i]?=some (some (.ref f))/\lR sp dvs E t σ H Q):=by
 intro pins s σ H Q I ⟨ef,h⟩
 refine wpAny_Call_Name_kw (thn (eQ hN hv hd hcd pins s σ H (λv H'=>v=.ref f/\H'=H) I ⟨_,ef,rfl,rfl⟩) λu s1 ⟨v,H1,I1,r1,ev,eH⟩=>?_)
 subst ev eH
 obtain rfl:u=Value.ref f:=r1
 refine PySem.W.callWith_K (h₀:=X.base) I1.ok.mod.kin hk (thn (ha pos pins s1 σ _ _ I1 h) λus s2 ⟨vs,H2,I2,r,q⟩=>⟨I2.kIn,?_⟩) he hpl
 exact nA FO hr hb hdv hx I2 r q
def zHf(i j:Nat)(f:Addr)(psp:bX):UT:=λρ Q=>ρ[i]?=some (.fn f)/\∃t p,ρ[j]?=some (.rd t p)/\psp t p [] λT p'=>Q T (ρ.set j (.rd t p'))
theorem zE0(i j:Nat){k:Nat}{n g x:Str}{f:Addr}{ps:List Str}{psp:bX}{p p' pos:Pos}(hF:FRd F C)(G:bK X.prog X.w X.K X.mg X.base k n ps C psp)(hm:X.mg n=some (.ref f))(hr:Room k X.A)
  (hN:X.N[i]?=some g:=by rfl) (hv:Vis X.env.scope g:=by first|exact Or.inl rfl|exact Or.inr (Or.inl rfl)|exact Or.inr (Or.inr rfl)) (hd:(g==("__debug__":Str))=false:=by decide) (hcd:(g==("__classdict__":Str))=false:=by decide)
  (hN':X.N[j]?=some x:=by rfl) (hv':Vis X.env.scope x:=by first|exact Or.inl rfl|exact Or.inr (Or.inl rfl)|exact Or.inr (Or.inr rfl)) (hd':(x==("__debug__":Str))=false:=by decide) (hcd':(x==("__classdict__":Str))=false:=by decide):
  UE X F (.Call (.Name g p) [.Name x p'] [] pos) (zHf i j f psp):=by
 obtain⟨f',fd,FO,b,m,kp⟩:=G
 rw[hm]at m
 cases m
 refine⟨PE.imp (zFq (dvs:=[]) (E:=E0) FO hr kp b .nil lT (dH (eQ hN' hv' hd' hcd') eR rfl) hN hv hd hcd (pA rfl) rfl) λσ H QQ ⟨ρ,Q,fr,⟨ei,t,pl,ej,q⟩,k⟩=>?_⟩
 have e1:ixv σ i=some (.ref f):=fr.at_ i _ ei
 obtain⟨a,C',e2,e3,e5⟩:=fr.at_ j _ ej
 have:=hF a C' e2
 subst this
 refine⟨eJ e1,.ref a,eJ e3,?_⟩
 exact⟨a,t,pl,[],[],_,rfl,e5,.nil,q,λz W H' p' st rd' v qq=>k _ _ _ _ (fr.callR ej e2 e3 e5 st rd') v qq⟩
end
end L2
namespace L2
open PySem PySem.Spec PyProof.Rows WordM
section
variable{X:Cx}{F:Fm}
theorem zGq{body:List Stmt}{h0:ExceptHandler}{hs:List ExceptHandler}{pos:Pos}{tb:TS}(hb:PSs X body tb)(hx:∀v s,¬ X.xe v s):PS X (.Try body (h0::hs) [] [] pos) tb:=by
 intro pins s σ H Dn I h
 refine wpAny_Try_except (wpAny_mono (hb pins s σ H Dn I h) (λf s1 q=>?_) (λv s1 q=>absurd q (hx v s1)))
 cases f with
 |next=>exact wpAny_execs_nil q
 |brk=>exact q
 |cont=>exact q
 |ret u=>exact q
theorem zF2{body:List Stmt}{h0:ExceptHandler}{hs:List ExceptHandler}{pos:Pos}{ub:UTs}(hb:USs X F body ub)(hx:∀v s,¬ X.xe v s):US X F (.Try body (h0::hs) [] [] pos) ub:=⟨zGq hb.ps hx⟩
end
end L2
namespace L2
open PySem PySem.Spec PyProof.Rows WordM
section
variable{X:Cx}{F:Fm}{C:Addr}{e ke ve ke' ve':Expr}{p pos:Pos}{uk uv uk' uv':UT}
theorem zR(sep:Str):∀(ss:List Str) (a:Nat),ss.foldl (λa s=>a+s.length+sep.length) a<=a+(Str.join sep ss).length+sep.length
 |[],a=>by show a<=_;omega
 |[x],a=>Nat.le_refl _
 |x::y::r,a=>by
  have:=zR sep (y::r) (a+x.length+sep.length)
  show(y::r).foldl _ (a+x.length+sep.length)<=a+(x++sep++Str.join sep (y::r)).length+sep.length
  rw[aJ,aJ]
  omega
def zHx(K:W.Frag):V->List V->Hp->VK->Prop:=λx vs H Q=>∃p sep ss,x=.str sep/\vs=[.ref p]/\SqL K H p (ss.map V.str)/\(sep.length<=1000/\(Str.join sep ss).length<=10000000)/\Q (.str (Str.join sep ss)) H
theorem zFy:MtM X "str.join" (zHx X.K):=by
 intro pins s σ H x vs v us Q I rx rv h
 obtain⟨p,sep,ss,rfl,rfl,hq,hz,q⟩:=h
 obtain⟨t,rfl⟩:=rx
 obtain⟨u,rfl,ru⟩:=rv.one
 cases ru
 obtain⟨its,rv,pl,hz'⟩:=I.list hq
 obtain⟨l,e1,e2⟩:=pN (jQ rv)
 have hl:=pl.isList
 rw[e1]at hl
 have hs:(10001000:Nat)<=sizeLine:=by rw[sizeLine_eq];decide
 have hlen:((l.map (·.1)).toArray.foldl (λa s=>a+s.length+sep.length) 0)<=10001000:=by
  rw[e2,List.foldl_toArray]
  have:=zR sep ss 0
  omega
 refine call_meets F.slot_str_join (typeIs_str _ _ _) F.entry_str_join (F.args_str_join_2 _ _) (meets_str_join_list sep t p l (by
  show decide (_ > sizeLine)=false
  exact decide_eq_false (Nat.not_lt.mpr (Nat.le_trans hlen hs)))) ⟨hl,?_⟩
 have hj:∀z:Str,z=Str.join sep ss->∀t' k,EP X pins σ Q (.str z t') {s with toks:=k}:=λz e t' k=>⟨.str z,H,I.tok k,⟨t',rfl⟩,by rw[e];exact q⟩
 have hlz:(Str.join sep ss).length<=sizeLine:=Nat.le_trans hz.2 (Nat.le_trans (by decide) hs)
 match l,e2 with
 |[],e2=>exact⟨by rw[StrLaws.glued_eq_join];exact Nat.zero_le _,hj _ (by rw[<-e2];rw[StrLaws.glued_eq_join]) _ _⟩
 |[pp],e2=>exact hj _ (by rw[<-e2];rfl) _ s.toks
 |a::b::r,e2=>exact⟨by rw[StrLaws.glued_eq_join,e2];exact hlz,hj _ (by rw[StrLaws.glued_eq_join,e2]) _ _⟩
def zHZ:Tv->List Tv->(Tv->Prop)->Prop:=λW Ts Q=>∃(sep:Str) (ss:List Str),W=sT sep/\Ts=[.seq false (ss.map sT)]/\(sep.length<=1000/\(Str.join sep ss).length<=10000000)/\Q (sT (Str.join sep ss))
theorem tN:∃r',MtR X "str.join" r'/\∀x W xs Ts H Q (QQ:VK),VA X.K H x W->VAs X.K H xs Ts->zHZ W Ts Q->(∀z W H',Raw X.K H H' z W->Q W->QQ z H')->r' x xs H QQ:=⟨_,zFy,λx W xs Ts H Q QQ v p h k=>by
 obtain⟨sep,ss,rfl,rfl,l,q⟩:=h
 obtain⟨rfl,_⟩:=v.leafI
 obtain⟨y,rfl,v'⟩:=cH p
 obtain⟨a,ys,rfl,hs,z,p'⟩:=v'.seqI
 rw[iC p']at hs
 exact⟨a,sep,ss,rfl,rfl,cO hs,l,k _ _ _ (.flat rfl) q⟩⟩
def zB6:Pn
 |[.leaf (.str z)],Q=>z.length<=10000000/\Q (iT z.length)
 |_,_=>False
theorem zGn:fE X (.builtin "len") zB6:=⟨_,call_len_str,λxs Ts H Q QQ vx h k=>by
 unfold zB6 at h
 split at h
 ·obtain⟨x,rfl,v⟩:=cH vx
  obtain⟨rfl,_⟩:=v.leafI
  exact⟨_,rfl,by rw[sizeLine_eq];omega,k _ _ _ (.flat rfl) h.2⟩
 ·exact False.elim h⟩
end
end L2
namespace L2
open PySem PySem.Spec PyProof.Rows WordM
def dblS(s:Str):Str:=⟨(StrLaws.dbl 34 s.cps.toList).toArray⟩
def bE(s:Str):Str:="\""++dblS s++"\""
theorem uO(c:Nat):∀l:List Nat,(StrLaws.dbl c l).length<=2*l.length
 |[]=>Nat.le_refl _
 |k::r=>by
  have:=uO c r
  rw[StrLaws.dbl]
  split<;>simp only[List.length_cons]<;>omega
theorem zAx(s:Str):(dblS s).length<=2*s.length:=by
 have:=uO 34 s.cps.toList
 show(StrLaws.dbl 34 s.cps.toList).toArray.size<=2*s.cps.size
 simpa using this
theorem zGl(s:Str):(bE s).length<=2*s.length+2:=by
 have:=zAx s
 unfold bE
 rw[aJ,aJ]
 show 1+_+1<=_
 omega
theorem zAw(c k:Nat)(l:List Nat):StrLaws.dbl c (l++[k])=StrLaws.dbl c l++(if k=c then [k,k] else [k]):=by
 rw[StrLaws.dbl_append]
 rfl
end L2
namespace L2
open PySem PySem.Spec PyProof.Rows WordM
def Rst(t:Str)(p:Int)(r:List Nat):Prop:=∃n:Nat,p=(n:Int)/\n<=(cs t).length/\(cs t).drop n=r
section
variable{t w:Str}{p:Int}{r a b:List Nat}
theorem zAp(l n:Nat):fromIndex l (n:Int)=n:=by
 unfold fromIndex
 rw[if_neg (by omega)]
 omega
theorem Rst.starts(h:Rst t p r):Txt.startswith3 t w p=(cs w).isPrefixOf r:=by
 obtain⟨n,rfl,l,rfl⟩:=h
 unfold Txt.startswith3
 rw[zAp,StrLaws.subAt_eq,Bool.eq_iff_iff,Bool.and_eq_true,decide_eq_true_eq,beq_iff_eq,List.isPrefixOf_iff_prefix,List.prefix_iff_eq_take,len,len]
 constructor
 ·exact λh=>h.2.symm
 ·intro h
  refine⟨?_,h.symm⟩
  have:=congrArg List.length h
  rw[List.length_take,List.length_drop]at this
  omega
theorem Rst.go(h:Rst t p (a++r)):Rst t (p+a.length) r:=by
 obtain⟨n,rfl,l,e⟩:=h
 have:=congrArg List.length e
 rw[List.length_drop,List.length_append]at this
 refine⟨n+a.length,by omega,by omega,?_⟩
 rw[<-List.drop_drop,e,List.drop_left]
theorem Rst.lt(h:Rst t p (a++r)):p+a.length<=t.length:=by
 obtain⟨n,rfl,l,e⟩:=h
 have:=congrArg List.length e
 rw[List.length_drop,List.length_append]at this
 rw[len]
 omega
theorem Rst.nn(h:Rst t p r):0<=p:=by obtain⟨n,rfl,_⟩:=h;omega
theorem Rst.start(t:Str):Rst t 0 (cs t):=⟨0,rfl,Nat.zero_le _,rfl⟩
theorem Rst.all(h:Rst t p r):p+r.length=t.length:=by
 obtain⟨n,rfl,l,rfl⟩:=h
 rw[List.length_drop,len]
 omega
theorem Rst.uniq{q:Int}(h:Rst t p r)(h':Rst t q r):p=q:=by
 have:=h.all
 have:=h'.all
 omega
theorem Rst.slice(h:Rst t p (a++r)):Txt.slice t (some p) (some (p+a.length))=⟨a.toArray⟩:=by
 have l:=h.lt
 have nn:=h.nn
 obtain⟨n,rfl,_,e⟩:=h
 rw[beq_iff_eq.mp (slice_closesL (x:=t) (i:=(n:Int)) (j:=(n:Int)+a.length) nn (by omega) l)]
 rw[show((n:Int)+a.length-n).toNat=a.length by omega,show((n:Int)).toNat=n by omega]
 rw[show t.cps.toList.drop n=a++r from e,List.take_left]
theorem Rst.at_{c:Nat}(h:Rst t p (c::r)):atI (cs t) p=some c:=by
 obtain⟨n,rfl,l,e⟩:=h
 have:(cs t)[n]?=some c:=by
  have z:((cs t).drop n)[0]?=some c:=by rw[e];rfl
  rwa[List.getElem?_drop]at z
 exact eA this
end
theorem zAj(s sub:Str)(hi:Nat):∀(l:List Nat) (st:Array Nat×Nat),1<=st.fst.size->(forIn l st (StrLaws.occBody s sub hi 1)).run.fst=st.fst
 |[],st,h=>rfl
 |a::l,st,h=>by
  rw[List.forIn_cons]
  unfold StrLaws.occBody
  rw[if_neg (λz=>by have:=z.1.1.1;omega)]
  exact zAj s sub hi l _ h
theorem zG(s sub:Str)(hi k:Nat)(post:List Nat)(hk:k+sub.length<=hi/\Builtin.Str.subAt s sub k=true):∀(l:List Nat) (free:Nat),(∀i∈l,free<=i)->free<=k->(∀i∈l,¬ (i+sub.length<=hi/\Builtin.Str.subAt s sub i=true)) ->
  (forIn (l++k::post) ((#[]:Array Nat),free) (StrLaws.occBody s sub hi 1)).run.fst=#[k]
 |[],free,_,fk,_=>by
  rw[List.nil_append,List.forIn_cons]
  unfold StrLaws.occBody
  rw[if_pos ⟨⟨⟨by simp,fk⟩,hk.1⟩,hk.2⟩]
  exact zAj s sub hi post _ (by simp)
 |a::l,free,hf,fk,hn=>by
  rw[List.cons_append,List.forIn_cons]
  unfold StrLaws.occBody
  rw[if_neg (λz=>hn a (List.mem_cons_self ..) ⟨z.1.2,z.2⟩)]
  exact zG s sub hi k post hk l free (λi h=>hf i (List.mem_cons_of_mem _ h)) fk λi h=>hn i (List.mem_cons_of_mem _ h)
theorem Rst.find{t:Str}{p:Int}{a r:List Nat}(h:Rst t p (a++34::r))(no:34∉a):rF t "\"" p=p+a.length:=by
 have l:=h.lt
 obtain⟨n,rfl,l0,e⟩:=h
 have q:("\"":Str)=⟨#[34]⟩:=by decide
 have at_:∀i,(cs t)[n+i]?=(a++34::r)[i]?:=λi=>by rw[<-e,List.getElem?_drop]
 have ll:=congrArg List.length e
 rw[List.length_drop,List.length_append,List.length_cons]at ll
 unfold rF
 rw[zAp,q,StrLaws.occ_eq]
 have sp:List.range' n (t.length+1-n)=List.range' n a.length++(n+a.length)::List.range' (n+a.length+1) (t.length-n-a.length):=by
  rw[<-List.range'_succ,List.range'_append_1]
  congr 1
  rw[len]
  omega
 rw[sp,zG t ⟨#[34]⟩ t.length (n+a.length) _ ((StrLaws.subAt_one t 34 (n+a.length)).mpr ?_) (List.range' n a.length) n (λi hi=>(List.mem_range'_1.mp hi).1) (by omega) (λi hi z=>?_)]
 ·show((n+a.length:Nat):Int)=_
  omega
 ·show(cs t)[n+a.length]?=_
  rw[at_,List.getElem?_append_right (Nat.le_refl _)]
  simp
 ·have:=(StrLaws.subAt_one t 34 i).mp z
  obtain⟨h1,h2⟩:=List.mem_range'_1.mp hi
  have e1:(cs t)[n+(i-n)]?=some 34:=by rw[show n+(i-n)=i by omega];exact this
  rw[at_,List.getElem?_append_left (by omega)]at e1
  exact no (List.mem_of_getElem? e1)
abbrev fig(c:Nat):Prop:=48<=c/\c<=57
theorem zId(i:Int)(h:i.natAbs<10 ^ 100):∃ds,ds≠[]/\(∀c∈ds,fig c)/\(cs (Str.ofString (toString i))=ds\/cs (Str.ofString (toString i))=45::ds):=by
 cases i with
 |ofNat m=>exact⟨_,qB m,pI m,.inl (PySem.W.KIN.signs_num m)⟩
 |negSucc m=>
  refine⟨_,qB (m+1),pI (m+1),.inr ?_⟩
  show cs (Str.ofString ("-"++m.succ.repr))=_
  rw[mW,String.toList_append,Nat.toList_repr]
  rfl
theorem uN{c x:Nat}:∀{l:List Nat},x∈StrLaws.dbl c l->x∈l\/x=c
 |[],h=>by simp[StrLaws.dbl]at h
 |k::r,h=>by
  rw[StrLaws.dbl]at h
  split at h
  ·rename_i e
   simp only[List.mem_cons]at h
   rcases h with h|h|h
   ·exact .inl (by rw[h];exact List.mem_cons_self ..)
   ·exact .inl (by rw[h];exact List.mem_cons_self ..)
   ·rcases uN h with z|z
    ·exact .inl (List.mem_cons_of_mem _ z)
    ·exact .inr z
  ·simp only[List.mem_cons]at h
   rcases h with h|h
   ·exact .inl (by rw[h];exact List.mem_cons_self ..)
   ·rcases uN h with z|z
    ·exact .inl (List.mem_cons_of_mem _ z)
    ·exact .inr z
theorem cA{x:Str}(h:(cs x).all (λc=>decide (c∈cs SIG))=true):Sg x:=λc hc=>of_decide_eq_true (List.all_eq_true.mp h c hc)
theorem uY{s:Str}(h:Sg s):Sg (bE s):=by
 refine Sg.app (Sg.app (cA (by decide +kernel)) λc hc=>?_) (cA (by decide +kernel))
 rcases uN (show c∈StrLaws.dbl 34 (cs s) by simpa[dblS]using hc) with z|rfl
 ·exact h c z
 ·decide +kernel
theorem lA{sep:Str}(hs:Sg sep):∀{ws:List Str},(∀w∈ws,Sg w)->Sg (Str.join sep ws)
 |[],_=>zBD
 |[w],h=>h w (List.mem_singleton.mpr rfl)
 |w::v::ws,h=>Sg.app (Sg.app (h w (List.mem_cons_self ..)) hs) (lA hs λu hu=>h u (List.mem_cons_of_mem _ hu))
end L2
namespace L2
open PySem PySem.Spec PyProof.Rows WordM
def aZ(i:Int):Str:=Str.ofString (toString i)
def aW(a b:Int):Str:=aZ a++" to "++aZ b
def trS(b:Bool):Str:=if b then "yes" else "no"
def txW:Wd->Str
 |.few ts=>Str.join " " ("few"::ts.map bE)
 |.make h a b ms=>Str.join " " ("make"::bE h::aW a b::ms)
def txF(g:Pt->Str)(f:List Pt):Str:=if f=[] then "never" else Str.join " | " (f.map g)
def txI(g:Pt->Str)(f:List Pt):Str:="("++txF g f++")"
def txX(g:Pt->Str)(x:Str×Bool×List Pt):Str:=Str.join " " [bE x.1,if x.2.1 then "must" else "may",txI g x.2.2]
def txP:Nat->Pt->Str
 |0,_=>""
 |_+1,.nothing=>"nothing"
 |_+1,.truths bs=>Str.join " " ("truth"::bs.map trS)
 |_+1,.numbers lo hi st=>"number "++aW lo hi++" by "++aZ st
 |_+1,.texts w=>"text "++txW w
 |n+1,.lists a b f=>"list "++aW a b++" of "++txI (txP n) f
 |n+1,.record a b fs=>"record "++aW a b++" of ("++Str.join ", " (fs.map (txX (txP n)))++")"
 |n+1,.table a b w f=>"table "++aW a b++" of ("++txW w++" "++txI (txP n) f++")"
theorem cM(a b c:Str):a++b++c=a++(b++c):=by
 show(⟨a.cps++b.cps++c.cps⟩:Str)=⟨a.cps++(b.cps++c.cps)⟩
 rw[Array.append_assoc]
theorem rD(sep a b:Str)(l:List Str):Str.join sep (a::b::l)=a++sep++Str.join sep (b::l):=rfl
theorem cU{i:Int}(h:cL i):(aZ i).length<=101:=(vL i (by have h1:=h.1;have h2:=h.2;omega)).2
theorem bL{i:Int}(h1:0<=i)(h2:i<=100):cL i:=⟨by omega,by omega⟩
theorem mY{a b:Int}(ha:cL a)(hb:cL b):(aW a b).length<=206:=by
 have:=cU ha
 have:=cU hb
 unfold aW
 rw[aJ,aJ]
 show _+4+_<=206
 omega
theorem qP{s:Str}(h:s∈MK):s.length<=6:=by
 have:∀s∈MK,s.length<=6:=by decide
 exact this s h
theorem tP{ms:List Str}(h:ms.Sublist MK):ms.length<=4:=h.length_le
theorem yN{ms:List Str}(h:ms.Sublist MK):(Str.join " " ms).length<=28:=by
 have l:=tP h
 have j:=jY " " ms 6 λs hs=>qP (h.subset hs)
 have:ms.length*(6+1)<=4*(6+1):=Nat.mul_le_mul_right _ l
 have j:(Str.join " " ms).length<=ms.length*(6+1):=j
 omega
theorem lF{s:Str}(h:dR s):(bE s).length<=102:=by
 have:=zGl s
 have:=h.2
 omega
theorem zAu{ts:List Str}(h:ts.length<=6)(k:∀t∈ts,dR t):(Str.join " " (ts.map bE)).length<=618:=by
 have j:=jY " " (ts.map bE) 102 λs hs=>by
  obtain⟨t,ht,rfl⟩:=List.mem_map.mp hs
  exact lF (k t ht)
 rw[List.length_map]at j
 have:ts.length*(102+1)<=6*(102+1):=Nat.mul_le_mul_right _ h
 have j:(Str.join " " (ts.map bE)).length<=ts.length*(102+1):=j
 omega
theorem vN{ts:List Str}(h:1<=ts.length):txW (.few ts)="few"++" "++Str.join " " (ts.map bE):=by
 cases ts with
 |nil=>exact absurd h (by decide)
 |cons t r=>rfl
theorem pX{h:Str}{a b:Int}{ms:List Str}(k:ms≠[]):txW (.make h a b ms)="make"++" "++(bE h++" "++(aW a b++" "++Str.join " " ms)):=by
 cases ms with
 |nil=>exact absurd rfl k
 |cons t r=>rfl
theorem pK{w:Wd}(h:dQ w):(txW w).length<=622:=by
 cases w with
 |few ts=>
  have:=zAu h.2.1 h.2.2.2
  rw[vN h.1,aJ,aJ]
  show 3+1+_<=622
  omega
 |make hd a b ms=>
  have h1:=lF h.1
  have h2:=mY (bL h.2.1 (by have:=h.2.2.1;have:=h.2.2.2.2.1;omega)) (bL (by have:=h.2.1;have:=h.2.2.1;omega) h.2.2.2.2.1)
  have h3:=yN h.2.2.2.2.2.1
  rw[pX h.2.2.2.2.2.2]
  simp only[aJ]
  show 4+1+(_+1+(_+1+_))<=622
  omega
def LP:Nat->Nat
 |0=>0
 |1=>630
 |n+2=>219+8*(6*(LP (n+1)+3)+112)
theorem mQ{g:Pt->Str}{f:List Pt}{L:Nat}(h6:f.length<=6)(h:∀p∈f,(g p).length<=L):(txF g f).length<=6*(L+3):=by
 unfold txF
 split
 ·show 5<=_;omega
 ·have j:=jY " | " (f.map g) L λs hs=>by
   obtain⟨p,hp,rfl⟩:=List.mem_map.mp hs
   exact h p hp
  rw[List.length_map]at j
  have:f.length*(L+3)<=6*(L+3):=Nat.mul_le_mul_right _ h6
  have j:(Str.join " | " (f.map g)).length<=f.length*(L+3):=j
  omega
theorem gJ(g:Pt->Str)(f:List Pt):(txI g f).length=(txF g f).length+2:=by
 unfold txI
 rw[aJ,aJ]
 show 1+_+1=_
 omega
theorem zAH{g:Pt->Str}{x:Str×Bool×List Pt}{L:Nat}(hx:dR x.1)(h:(txF g x.2.2).length<=L):(txX g x).length<=L+110:=by
 have h1:=lF hx
 unfold txX
 rw[rD,rD]
 simp only[aJ]
 have e:(Str.join " " [txI g x.2.2]).length=(txF g x.2.2).length+2:=gJ g x.2.2
 rw[e]
 have:(if x.2.1=true then(Str.ofString "must") else Str.ofString "may").length<=4:=by cases x.2.1<;>decide
 show _+1+(_+1+_)<=_
 omega
theorem nO{f:List Pt}(h:fY f):f.length<=6:=by
 have up:∀(l:List Nat) (a:Nat),l.Pairwise (· < ·)->(∀x∈l,a<=x/\x<=5)->a+l.length<=6\/l=[]:=by
  intro l
  induction l with
  |nil=>intro a _ _;exact .inr rfl
  |cons x l ih=>
   intro a p q
   rw[List.pairwise_cons]at p
   have hx:=q x (List.mem_cons_self ..)
   rcases ih (x+1) p.2 (λy hy=>⟨p.1 y hy,(q y (List.mem_cons_of_mem _ hy)).2⟩) with z|rfl
   ·left;rw[List.length_cons];omega
   ·left;simp;omega
 rcases up (f.map dC) 0 (List.pairwise_map.mpr h) (λx hx=>by
  obtain⟨p,_,rfl⟩:=List.mem_map.mp hx
  exact⟨Nat.zero_le _,by cases p<;>simp[dC]⟩) with z|z
 ·rw[List.length_map]at z;omega
 ·rw[List.map_eq_nil_iff]at z;rw[z];decide
theorem jE{a b:Int}(h0:0<=a)(h1:a<=b)(h2:b<=100):(aW a b).length<=206:=mY (bL h0 (by omega)) (bL (by omega) h2)
theorem zAl{p:Pt}{n m:Nat}(h:PartOk (n+1) p)(k:dC p<4):(txP (m+1) p).length<=630:=by
 cases p with
 |nothing=>show 7<=630;omega
 |truths bs=>
  rcases h with rfl|rfl|rfl
  ·show(Str.join " " ("truth"::[false].map trS)).length<=630;decide
  ·show(Str.join " " ("truth"::[true].map trS)).length<=630;decide
  ·show(Str.join " " ("truth"::[false,true].map trS)).length<=630;decide
 |numbers lo hi st=>
  have h:jJ lo hi st:=h
  have h1:=mY h.1 h.2.1
  have h2:=cU h.2.2.1
  show("number "++aW lo hi++" by "++aZ st:Str).length<=630
  simp only[aJ]
  show 7+_+4+_<=630
  omega
 |texts w=>
  have:=pK (show dQ w from h)
  show("text "++txW w:Str).length<=630
  rw[aJ]
  show 5+_<=630
  omega
 |lists a b f=>exact absurd k (by simp[dC])
 |record a b fs=>exact absurd k (by simp[dC])
 |table a b w f=>exact absurd k (by simp[dC])
theorem LP1:∀n:Nat,630<=LP (n+1)
 |0=>Nat.le_refl _
 |n+1=>by
  have:=LP1 n
  show 630<=219+8*(6*(LP (n+1)+3)+112)
  omega
theorem pL:∀{n:Nat}{p:Pt},PartOk n p->(txP n p).length<=LP n
 |0,p,h=>False.elim h
 |1,p,h=>by
  by_cases k:dC p<4
  ·exact zAl h k
  ·cases p with
   |lists a b f=>
    have e:f=[]:=by
     by_cases z:b=0
     ·exact h.2.2.2.1 z
     ·cases f with
      |nil=>rfl
      |cons p f=>exact False.elim ((h.2.2.2.2 z).2.2 p (List.mem_cons_self ..))
    subst e
    have:=jE h.1 h.2.1 h.2.2.1
    show("list "++aW a b++" of "++txI (txP 0) []:Str).length<=630
    simp only[aJ]
    rw[gJ]
    show 5+_+4+(5+2)<=630
    omega
   |record a b fs=>
    have e:fs=[]:=by
     cases fs with
     |nil=>rfl
     |cons x fs=>
      obtain⟨_,ne,_,k⟩:=h.2.2.2.2.1 x (List.mem_cons_self ..)
      cases c:x.2.2 with
      |nil=>exact absurd c ne
      |cons p f=>exact False.elim (k p (by rw[c];exact List.mem_cons_self ..))
    subst e
    have hb:b<=0:=h.2.2.2.2.2.2.1
    have:=jE h.1 h.2.1 (by omega)
    show("record "++aW a b++" of ("++Str.join ", " []++")":Str).length<=630
    simp only[aJ]
    show 7+_+5+0+1<=630
    omega
   |table a b w f=>
    obtain⟨_,_,_,_,_,_,ne,_,k⟩:=h
    cases f with
    |nil=>exact absurd rfl ne
    |cons p f=>exact False.elim (k p (List.mem_cons_self ..))
   |_=>exact absurd (by simp[dC]) k
 |n+2,p,h=>by
  have e:LP (n+2)=219+8*(6*(LP (n+1)+3)+112):=rfl
  by_cases k:dC p<4
  ·have:(txP (n+2) p).length<=630:=zAl (m:=n+1) h k
   have:630<=LP (n+1):=LP1 n
   omega
  ·cases p with
   |lists a b f=>
    have l:=jE h.1 h.2.1 h.2.2.1
    have m:(txF (txP (n+1)) f).length<=6*(LP (n+1)+3):=by
     by_cases z:b=0
     ·rw[h.2.2.2.1 z];exact mQ (by decide) λp hp=>nomatch hp
     ·obtain⟨_,ku,ok⟩:=h.2.2.2.2 z
      exact mQ (nO ku) λp hp=>pL (ok p hp)
    show("list "++aW a b++" of "++txI (txP (n+1)) f:Str).length<=_
    simp only[aJ]
    rw[gJ]
    show 5+_+4+_<=_
    omega
   |record a b fs=>
    obtain⟨h1,h2,h3,h4,h5,h6,h7,h8⟩:=h
    have l:=jE h1 h2 (by omega)
    have j:=jY ", " (fs.map (txX (txP (n+1)))) (6*(LP (n+1)+3)+110) λs hs=>by
     obtain⟨x,hx,rfl⟩:=List.mem_map.mp hs
     obtain⟨tx,ne,ku,ok⟩:=h5 x hx
     exact zAH tx (mQ (nO ku) λp hp=>pL (ok p hp))
    rw[List.length_map]at j
    have m:fs.length*(6*(LP (n+1)+3)+110+2)<=8*(6*(LP (n+1)+3)+110+2):=Nat.mul_le_mul_right _ h3
    have j:(Str.join ", " (fs.map (txX (txP (n+1))))).length<=fs.length*(6*(LP (n+1)+3)+110+2):=j
    show("record "++aW a b++" of ("++Str.join ", " (fs.map (txX (txP (n+1))))++")":Str).length<=_
    simp only[aJ]
    show 7+_+5+_+1<=_
    omega
   |table a b w f=>
    obtain⟨h1,h2,h3,h4,h5,h6,ne,ku,ok⟩:=h
    have l:=jE h1.1 h2 h4
    have m:(txF (txP (n+1)) f).length<=6*(LP (n+1)+3):=mQ (nO ku) λp hp=>pL (ok p hp)
    have wl:=pK h5
    show("table "++aW a b++" of ("++txW w++" "++txI (txP (n+1)) f++")":Str).length<=_
    simp only[aJ]
    rw[gJ]
    show 6+_+5+_+1+_+1<=_
    omega
   |_=>exact absurd (by simp[dC]) k
theorem LP3:∀{n:Nat},n<=3->LP n<=1513300:=λ{n} h=>by
 match n,h with
 |0,_=>decide
 |1,_=>decide
 |2,_=>decide
 |3,_=>decide
end L2
namespace My
open PySem L2 PyProof.Rows WordM
def top(i:Nat):Stmt:=PySem.Challenge.pw_leastform_k82_forms_read.main.body.getD i (.Pass ⟨0,0,0,0⟩)
abbrev s0_:Stmt:=top 5
abbrev s1_:Stmt:=top 6
abbrev s2_:Stmt:=top 7
abbrev s3_:Stmt:=top 9
abbrev s4_:Stmt:=top 14
abbrev s5_:Stmt:=top 15
abbrev s6_:Stmt:=top 16
abbrev s7_:Stmt:=top 17
abbrev s8_:Stmt:=top 18
abbrev s9_:Stmt:=top 19
abbrev xL:Stmt:=top 20
abbrev zCA:Stmt:=top 21
abbrev zCz:Stmt:=top 26
abbrev xK:Stmt:=top 27
abbrev zCy:Stmt:=top 28
abbrev xJ:Stmt:=top 29
abbrev xI:Stmt:=top 30
abbrev xH:Stmt:=top 31
abbrev oH:Stmt:=top 32
abbrev rZ:Stmt:=top 33
abbrev xG:Stmt:=top 34
abbrev xF:Stmt:=top 35
abbrev mD:Stmt:=top 36
abbrev zCx:Stmt:=top 39
abbrev zCw:Stmt:=top 41
abbrev xE:Stmt:=top 43
abbrev xD:Stmt:=top 44
abbrev xC:Stmt:=top 45
abbrev xB:Stmt:=top 46
abbrev xA:Stmt:=top 47
abbrev rY:Stmt:=top 48
abbrev rX:Stmt:=top 49
abbrev rW:Stmt:=top 50
abbrev rV:Stmt:=top 51
abbrev rS:Stmt:=top 52
abbrev rR:Stmt:=top 53
abbrev rQ:Stmt:=top 54
abbrev rP:Stmt:=top 55
abbrev zCv:Stmt:=top 56
abbrev wZ:Stmt:=top 58
abbrev wY:Stmt:=top 59
abbrev wX:Stmt:=top 60
abbrev wW:Stmt:=top 61
abbrev zCu:Stmt:=top 62
abbrev zCt:Stmt:=top 63
abbrev zCs:Stmt:=top 64
abbrev wV:Stmt:=top 65
abbrev wU:Stmt:=top 67
abbrev wT:Stmt:=top 68
abbrev mC:Stmt:=top 69
abbrev wS:Stmt:=top 70
abbrev wR:Stmt:=top 71
abbrev mB:Stmt:=top 72
abbrev zCr:Stmt:=top 73
abbrev wQ:Stmt:=top 74
abbrev rO:Stmt:=top 75
abbrev rN:Stmt:=top 76
abbrev iS:Stmt:=top 77
abbrev kS:Stmt:=kF (top 38) 0
abbrev kB:Stmt:=kF (top 38) 1
abbrev jT:Stmt:=kF (top 38) 2
abbrev jV:Stmt:=kF (top 38) 3
abbrev jP:Stmt:=kF (top 38) 4
abbrev jO:Stmt:=kF (top 38) 5
abbrev jN:Stmt:=kF (top 38) 6
section
variable{P:Program}{w:World}{K:W.Frag}{mg:Str->Option Value}{base:Heap}
theorem _root_.L2.On.put{p c:Addr}{H:Hp}(d:DeckAt H p c)(S k:Int):On p c H (upd H p (.lst [.ref c,.int S,.int k])):=by
 obtain⟨ns,e',l⟩:=d.cs
 exact⟨⟨d.ne,⟨S,k,bF⟩,ns,by rw[bD d.ne.symm];exact e',l⟩,λb o h hp _=>by rw[bD hp];exact h⟩
theorem _root_.L2.On.cut{p c:Addr}{H:Hp}(d:DeckAt H p c)(ns:List Int)(h:ns.length<=64):On p c H (upd H c (.lst (ns.map V.int))):=by
 obtain⟨S,k,e⟩:=d.dk
 exact⟨⟨d.ne,⟨S,k,by rw[bD d.ne];exact e⟩,ns,bF,h⟩,λb o h _ hc=>by rw[bD hc];exact h⟩
theorem zEN(ns:List Int):(ns.map V.int).all dB=true:=by
 rw[List.all_map]
 exact List.all_eq_true.mpr λ_ _=>rfl
theorem zFV(ns:List Int):fU (ns.map V.int) []=ns.isEmpty:=by cases ns<;>rfl
theorem sc_mixed:bM ["_law_number_here","_law_k"] ["_law_number_here","_law_k"] (aO wZ):=fsc (by decide +kernel)
theorem zGX(h:Has K mg "_law_mixed" wZ):Good P w K mg base 1 "_law_mixed" ["_law_number_here","_law_k"] zAM:=by
 refine h.good sc_mixed (fun|_,_,_,_,_,_,[_,_],_=>rfl) (λvs H Q E q=>?_) (λf cdv A outer s H vs Q E hr q=>?_)
 ·obtain⟨n,k,rfl,_⟩:=q
  rfl
 ·obtain⟨n,k,rfl,q⟩:=q
  have nd:=sc_mixed.nd
  refine⟨_,(fM (jC (i:=0) nd rfl (by first|exact Or.inl rfl|exact Or.inr rfl) (cG iK (cG op_mul (cG op_add (cG op_add (cG iK (pv 0) bY) (cG op_mul bY (pv 1))) bY) bY) bY))
   (fM (jC (i:=0) nd rfl (by first|exact Or.inl rfl|exact Or.inr rfl) (cG iK (cG op_add (cG op_add (cG op_mul (pv 0) (pv 0)) (cG op_mul bY (pv 1))) bY) bY))
   (kD (kI (cG zA6 (cG iK (cG op_mul (cG op_add (cG op_mul (cG iK (pv 0) bY) bY) (cG zA6 (pv 0) bY)) bY) bY) bY))))),?_⟩
  refine⟨_,rfl,_,_,rfl,rfl,(by show(0:Int)<_;decide),_,rfl,_,_,rfl,rfl,.inl ⟨by decide,by decide⟩,_,_,rfl,rfl,_,_,rfl,rfl,_,_,rfl,rfl,.inr ⟨by decide,by decide⟩,_,_,rfl,rfl,(by show(0:Int)<_;decide),?_⟩
  refine⟨_,rfl,_,rfl,_,_,rfl,rfl,?c,_,rfl,_,_,rfl,rfl,.inl ⟨by decide,by decide⟩,_,_,rfl,rfl,_,_,rfl,rfl,_,_,rfl,rfl,(by show(0:Int)<_;decide),?_⟩
  case c=>
   refine .inl ⟨?_,?_⟩
   ·exact Int.lt_of_lt_of_le (by decide) (Int.emod_nonneg _ (by decide))
   ·exact Int.lt_trans (Int.emod_lt_of_pos _ (by decide)) (by decide)
  refine⟨_,rfl,_,_,rfl,rfl,(by show(0:Int)<_;decide),_,_,rfl,rfl,.inr ⟨by decide,by decide⟩,_,rfl,_,_,rfl,rfl,⟨by decide,by decide⟩,_,_,rfl,rfl,_,_,rfl,rfl,.inr ⟨by decide,by decide⟩,_,_,rfl,rfl,(by show(0:Int)<_;decide),_,_,rfl,rfl,⟨by decide,by decide⟩,?_⟩
  exact q _
theorem sc_deck:bM ["_law_script","_law_cells"] ["_law_script"] (aO wY):=fsc (by decide +kernel)
theorem zJr(ns:List Int):fV (ns.map V.int) none (some 63)=(ns.take 63).map V.int:=by
 unfold fV
 have e1:HT.sIx (ns.map V.int).length 0 none=0:=rfl
 rw[e1,List.drop_zero,Nat.sub_zero,List.map_take]
 by_cases h:ns.length<=63
 ·rw[List.take_of_length_le (by simp[HT.sIx]<;>omega),List.take_of_length_le (by simpa using h)]
 ·congr 1
  simp[HT.sIx]<;>omega
theorem zIu(h:Has K mg "_law_deck" wY)(B:Own mg):Good P w K mg base 1 "_law_deck" ["_law_script"] (zBB K):=by
 refine h.good sc_deck (fun|_,_,_,_,_,_,[_],_=>rfl) (λvs H Q E q=>?_) (λf cdv A outer s H vs Q E hr q=>?_)
 ·obtain⟨a,ns,rfl,_⟩:=q
  rfl
 ·obtain⟨a,ns,rfl,hS,q⟩:=q
  have nd:=sc_deck.nd
  refine⟨_,(fM (jC (i:=1) nd rfl (by first|exact Or.inl rfl|exact Or.inr rfl) (mJ yA rfl B.list_ boot_list (dH (zAg sl_list (pv 0) zA2 (zA1 bY)) eR)))
   (kD (kI (@zA5 _ _ _ _ (@xM _ _ _ _ _ (zHR (pv 1) (zB4 zBr bY)) (@xM _ _ _ _ _ (cG op_add (mO (zEP rfl) rfl B.sum boot_sum (dH (pv 1) eR)) (cG op_mul bY (mO call_len_seq rfl B.len PySem.boot_len (dH (pv 1) eR)))) (@xM _ _ _ _ _ bY zBF rfl) rfl) rfl))))),?_⟩
  refine⟨_,rfl,_,rfl,a,_,rfl,hS,λl1 h1=>?_⟩
  have e1:upd H l1 (.lst (fV (ns.map V.int) none (some 63)))=upd H l1 (.lst ((ns.take 63).map V.int)):=by rw[zJr]
  rw[e1]
  refine⟨l1,_,rfl,.inl (SqL.of bF),λl2 h2=>?_⟩
  refine⟨_,rfl,_,rfl,rfl,l2,_,rfl,SqL.of bF,λl3 h3=>?_⟩
  have n23:l2≠l3:=dM bF h3
  refine⟨_,rfl,l2,ns.take 63,rfl,SqL.of (by rw[bD n23];exact bF),_,rfl,l2,_,rfl,.inl (SqL.of (by rw[bD n23];exact bF)),_,_,rfl,rfl,.inl ⟨by decide,by decide⟩,_,_,rfl,rfl,(by show 3<=sizeLine;decide),λl4 h4=>?_⟩
  have n34:l3≠l4:=dM bF h4
  have f1:∀b o,H b=some o->upd H l1 (.lst ((ns.take 63).map V.int)) b=some o:=λb o e=>by rw[bD (dM e h1)];exact e
  have s1:Same H (upd H l1 (.lst ((ns.take 63).map V.int))):=f1
  have s2:Same H (upd (upd H l1 (.lst ((ns.take 63).map V.int))) l2 (.lst ((ns.take 63).map V.int))):=λb o e=>by rw[bD (dM (s1 b o e) h2)];exact s1 b o e
  have s3:Same H (upd (upd (upd H l1 (.lst ((ns.take 63).map V.int))) l2 (.lst ((ns.take 63).map V.int))) l3 (.lst ((ns.take 63).map V.int).reverse)):=λb o e=>by rw[bD (dM (s2 b o e) h3)];exact s2 b o e
  refine q l4 l3 _ (s3.free h4) (s2.free h3) ⟨n34.symm,⟨_,_,bF⟩,(ns.take 63).reverse,?_,?_⟩ λb o e=>?_
  ·rw[bD n34,bF,List.map_reverse]
  ·rw[List.length_reverse,List.length_take];omega
  ·rw[bD (dM (s3 b o e) h4)];exact s3 b o e
theorem sc_take:bM ["_law_deck_here","_law_most","_law_cell"] ["_law_deck_here","_law_most"] (aO wX):=fsc (by decide +kernel)
theorem zIt(h:Has K mg "_law_take" wX)(G39_:Good P w K mg base 1 "_law_mixed" ["_law_number_here","_law_k"] zAM):Good P w K mg base 2 "_law_take" ["_law_deck_here","_law_most"] zBA:=by
 refine h.good sc_take (fun|_,_,_,_,_,_,[_,_],_=>rfl) (λvs H Q E q=>?_) (λf cdv A outer s H vs Q E hr q=>?_)
 ·obtain⟨p,c,m,rfl,_⟩:=q
  rfl
 ·obtain⟨p,c,m,rfl,d,hm,hB,q⟩:=q
  have nd:=sc_take.nd
  have hu:=Nat.lt_of_succ_lt (zJm hr)
  obtain⟨hne,⟨S,k,hp⟩,ns,hc,hl⟩:=id d
  refine⟨_,(fM (zHK (cG op_add (iQ ix_list (pv 0) bY (λ_ _=>rfl)) bY) (zHM (pv 0) bY zE8))
   (fM (wC (uA (zIa hu) (iQ ix_list (pv 0) bY (λ_ _=>rfl)) (@zA5 _ _ _ _ zBF) (lI _))
    (kD (kI (cG iK (nY G39_ (hr.mono (by first|decide|omega)) rfl (dH (iQ ix_list (pv 0) bY (λ_ _=>rfl)) (dH (iQ ix_list (pv 0) bY (λ_ _=>rfl)) eR))) (pv 1))))
    uG)
   (fM (jC (i:=2) nd rfl (by first|exact Or.inl rfl|exact Or.inr rfl) (zHV PySem.F.plainAttrs_list PySem.F.slot_list_pop PySem.F.type_list_pop zIh (iQ ix_list (pv 0) bY (λ_ _=>rfl))))
   (fM (wC (uA op_lt (pv 2) (cG zBM bY bY) (lI _))
    (kD (kI (cG iK (nY G39_ (hr.mono (by first|decide|omega)) rfl (dH (pv 2) (dH (iQ ix_list (pv 0) bY (λ_ _=>rfl)) eR))) (pv 1))))
    uG)
   (fM (zAZ (nZ PySem.F.plainAttrs_list PySem.F.slot_list_append PySem.F.type_list_append sY (iQ ix_list (pv 0) bY (λ_ _=>rfl)) (dH (cG zAi (pv 2) (pv 1)) eR)))
   (kD (kI (cG iK (pv 2) (pv 1))))))))),?_⟩
  -- deck[2]=deck[2]+1
  refine⟨_,rfl,p,_,_,_,rfl,rfl,SqL.of hp,rfl,_,_,rfl,rfl,_,rfl,p,_,_,2,rfl,rfl,hp,rfl,?_⟩
  have o1:On p c H (upd H p (.lst [.ref c,.int S,.int (k+1)])):=On.put d S (k+1)
  have hc1:upd H p (.lst [.ref c,.int S,.int (k+1)]) c=some (.lst (ns.map V.int)):=by rw[bD hne.symm];exact hc
  -- if deck[0]==[]
  refine⟨_,rfl,p,_,_,_,rfl,rfl,SqL.of bF,rfl,Nat.zero_le _,λl hfree=>?_⟩
  have npl:p≠l:=(o1.d.nep hfree).symm
  have ncl:c≠l:=(o1.d.nec hfree).symm
  have o2:=o1.alloc (o:=.lst []) hfree
  have hp2:upd (upd H p (.lst [.ref c,.int S,.int (k+1)])) l (.lst []) p=some (.lst [.ref c,.int S,.int (k+1)]):=by rw[bD npl];exact bF
  have hc2:upd (upd H p (.lst [.ref c,.int S,.int (k+1)])) l (.lst []) c=some (.lst (ns.map V.int)):=by rw[bD ncl];exact hc1
  refine⟨c,l,_,[],rfl,rfl,SqL.of hc2,SqL.of bF,zEN ns,rfl,_,rfl,?_⟩
  rw[show(if false=true then !fU (ns.map V.int) [] else fU (ns.map V.int) [])=ns.isEmpty from zFV ns]
  have fin:∀r H',On p c H H'->Q (.int (r % m)) H':=λr H' o=>q (r % m) H' (Int.emod_nonneg _ (by omega)) (Int.emod_lt_of_pos _ hm) o
  rcases List.eq_nil_or_concat ns with e|⟨init,z,e⟩
  ·subst e
   refine aN ?_
   refine⟨_,rfl,p,_,_,_,rfl,rfl,SqL.of hp2,rfl,_,rfl,p,_,_,_,rfl,rfl,SqL.of hp2,rfl,_,_,rfl,λr=>?_⟩
   exact⟨_,rfl,_,_,rfl,rfl,hm,fin r _ o2⟩
  ·rw[List.concat_eq_append]at e
   subst e
   rw[show(init++[z]).isEmpty=false by simp]
   refine aX ?_
   have hlast:((init++[z]).map V.int)[((init++[z]).map V.int).length-1]?=some (.int z):=by simp
   have hdrop:((init++[z]).map V.int).dropLast=init.map V.int:=by simp
   -- cell=deck[0].pop()
   refine⟨_,rfl,p,_,_,_,rfl,rfl,SqL.of hp2,rfl,.inl ⟨rfl,_,SqL.of hc2⟩,c,_,_,rfl,rfl,hc2,hlast,?_⟩
   rw[hdrop]
   have hli:init.length<=63:=by rw[List.length_append,List.length_singleton]at hl;omega
   have o3:=o2.trans (On.cut o2.d init (by omega))
   have hp3:upd (upd (upd H p (.lst [.ref c,.int S,.int (k+1)])) l (.lst [])) c (.lst (init.map V.int)) p=some (.lst [.ref c,.int S,.int (k+1)]):=by rw[bD hne];exact hp2
   -- if cell<10 ** 18
   refine⟨_,rfl,_,_,rfl,rfl,⟨by decide,by decide,by decide⟩,_,_,rfl,rfl,_,rfl,?_⟩
   refine zKb (λ_=>?_) (λ_=>?_)
   ·refine⟨_,rfl,_,rfl,p,_,_,_,rfl,rfl,SqL.of hp3,rfl,_,_,rfl,λr=>?_⟩
    exact⟨_,rfl,_,_,rfl,rfl,hm,fin r _ o3⟩
   ·refine⟨_,rfl,p,_,_,_,rfl,rfl,SqL.of hp3,rfl,.inl ⟨rfl,_,SqL.of bF⟩,_,rfl,_,rfl,_,_,rfl,rfl,⟨hm,hB⟩,c,_,_,rfl,rfl,bF,zEj (by rw[List.length_map];omega),?_⟩
    rw[show init.map V.int++[V.int (z / m)]=(init++[z / m]).map V.int by simp]
    have o4:=o3.trans (On.cut o3.d (init++[z / m]) (by rw[List.length_append,List.length_singleton];omega))
    exact⟨_,rfl,_,rfl,_,_,rfl,rfl,hm,fin z _ o4⟩
end
end My
namespace My
open PySem L2 PyProof.Rows WordM
section
variable{P:Program}{w:World}{K:W.Frag}{mg:Str->Option Value}{base:Heap}
def pR:PSp:=λas R=>as=[]/\R (sT SIG)
theorem C42_:bM ["_law_signs_here"] [] (aO wW):=fsc (by decide +kernel)
theorem zKs(h:Has K mg "_law_signs" wW)(B:Own mg)    : aG P w K mg base 1 "_law_signs" [] pR:=by
 have nd:=C42_.nd
 refine h.pgood C42_ (fun|_,_,_,_,_,_,[],_=>rfl) (λf cdv A outer s H E F hr=>
   (aE (aT 0 nd aI)
   (aH (aV (aL bC (aB 0) aI))))) (λas R q=>?_)
 obtain⟨rfl,q⟩:=q
 exact⟨rfl,show sigA.length+sigB.length<=100000 by decide +kernel,q⟩
def nD:PSp:=λas R=>∃m:Int,as=[.dk,.va (iT m)]/\0<=m/\m<=1000/\∀x:Str,Sg x->(x.length:Int)<=m->R (sT x)
theorem zIB{z:Str}{r:Int}(h0:0<=r)(h1:r<z.length):∃c,atI z.cps.toList r=some c/\c∈cs z:=by
 have hl:r.toNat<(cs z).length:=by rw[<-WordM.len];omega
 refine⟨(cs z)[r.toNat],?_,List.getElem_mem hl⟩
 have:=eA (xs:=cs z) (j:=r.toNat) (List.getElem?_eq_getElem hl)
 rw[show((r.toNat:Nat):Int)=r by omega]at this
 exact this
theorem jL{α:Type}{l:List α}{r:Int}(h0:0<=r)(h1:r<l.length):∃m,atI l r=some m/\m∈l:=by
 have hl:r.toNat<l.length:=by omega
 refine⟨l[r.toNat],?_,List.getElem_mem hl⟩
 have:=eA (xs:=l) (j:=r.toNat) (List.getElem?_eq_getElem hl)
 rw[show((r.toNat:Nat):Int)=r by omega]at this
 exact this
theorem zKr(h:Has K mg "_law_text" zCu)(B:Own mg)(G42_:aG P w K mg base 1 "_law_signs" [] pR)(G41_:aG P w K mg base 2 "_law_take" ["_law_deck_here","_law_most"] fD)   : aG P w K mg base 3 "_law_text" ["_law_deck_here","_law_most"] nD:=by
 refine h.pg2 ["_law_deck_here","_law_most","_law_signs_here","_law_some","_law_text_here","_law_k"] (λnd hr=>
   (aE (aT 2 nd (zBt G42_ (hr.mono (by omega)) rfl))
   (aE (aT 3 nd (aU hr (bP (dD (aA (aB 2) (aA (aB 2) (aA aI (aA aI (aA aI (aA aI aC)))))))) (aR G41_ hr (bH 0 (aA aD aC)))))
   (aE (aT 4 nd aI)
   (aE (gP (m:=6) PassesOwn.never rfl (iB rfl B.range (aA (aR G41_ hr (bH 0 (aA (aL bC (aB 1) aD) aC))) aC)) (dZ 5 (by decide) nd rfl (.inl rfl))
    (aH (aT 4 nd (aL bC (aB 4) (aU hr (aB 3) (aR G41_ hr (bH 0 (aA (bG cB rfl B.len PySem.boot_len (aA (aB 3) aC)) aC))))))))
   (aH (aV (aB 4)))))))) (λas R q=>?_)
 obtain⟨m,rfl,m0,m1,q⟩:=q
 refine⟨rfl,rfl,?_⟩
 refine⟨by decide,rfl,6,rfl,by decide,bJ (by decide) (by decide),λr r0 r6=>?_⟩
 obtain⟨z,hz,hzm⟩:=jL (l:=[sT SIG,sT SIG,sT "0123456789",sT "abc",sT "XYZ",sT "a1"]) r0 r6
 refine⟨z,hz,?_⟩
 have hzs:∃y,z=sT y/\Sg y/\0<y.length/\y.length<=100:=by
  simp only[List.mem_cons,List.not_mem_nil,or_false]at hzm
  rcases hzm with e|e|e|e|e|e<;>subst e
  ·exact⟨_,rfl,λ_ h=>h,by decide +kernel,by decide +kernel⟩
  ·exact⟨_,rfl,λ_ h=>h,by decide +kernel,by decide +kernel⟩
  ·exact⟨_,rfl,by decide +kernel,by decide +kernel,by decide +kernel⟩
  ·exact⟨_,rfl,by decide +kernel,by decide +kernel,by decide +kernel⟩
  ·exact⟨_,rfl,by decide +kernel,by decide +kernel,by decide +kernel⟩
  ·exact⟨_,rfl,by decide +kernel,by decide +kernel,by decide +kernel⟩
 clear hz hzm
 obtain⟨y,rfl,y1,y2,y3⟩:=hzs
 refine⟨rfl,m+1,rfl,by omega,bJ (by omega) (by omega),λn n0 n1=>⟨n,rfl,by omega,by omega,?_⟩⟩
 refine jZ (λi ρ=>∃(x:Str) (s:Sl),Sg x/\x.length=i/\ρ=[.dk,.va (iT m),.va (sT SIG),.va (sT y),.va (sT x),s]) ⟨⟨#[]⟩,.no,zBD,rfl,rfl⟩ ?_ ?_
 ·rintro i T _ N hT ⟨x,s,sx,lx,rfl⟩ hN
  have hi:=(jW hT).1
  refine⟨rfl,by omega,?_⟩
  refine⟨y.length,rfl,by omega,bJ (by omega) (by omega),λk k0 k1=>⟨by omega,?_⟩⟩
  obtain⟨c,hc,hcm⟩:=zIB (z:=y) k0 k1
  refine⟨c,hc,by show x.length+1<=100000;omega,hN _ ⟨x++⟨#[c]⟩,_,sx.app (y1.one hcm),?_,rfl⟩⟩
  rw[WordM.len,WordM.app,List.length_append,<-WordM.len,lx]
  rfl
 ·rintro _ ⟨x,s,sx,lx,rfl⟩
  refine q x sx ?_
  rw[lx,gH]
  omega
end
section
variable{P:Program}{w:World}{K:W.Frag}{mg:Str->Option Value}{base:Heap}
theorem zHm(a:Int):Sg ⟨#[fG a]⟩:=λcc hc=>by
 have e:cc=fG a:=by simpa using hc
 rw[e]
 exact zEn _
def zCV(m:Int)(ss:List Str):Prop:=ss.Nodup/\∀s∈ss,Sg s/\(s.length:Int)<=(if m<1 then 1 else m)
def tM:PSp:=λas R=>∃n m:Int,as=[.dk,.va (iT n),.va (iT m)]/\0<=n/\n<=63/\0<=m/\m<=1000/\∀ss:List Str,(ss.length:Int)=n->zCV m ss->R (.seq false (ss.map sT))
theorem zKq(h:Has K mg "_law_unlike" zCt)(B:Own mg)(G42_:aG P w K mg base 1 "_law_signs" [] pR)(G43_:aG P w K mg base 3 "_law_text" ["_law_deck_here","_law_most"] nD)   : aG P w K mg base 4 "_law_unlike" ["_law_deck_here","_law_many","_law_most"] tM:=by
 refine h.pg3 ["_law_deck_here","_law_many","_law_most","_law_signs_here","_law_found","_law_k","_law_text_here","_law_at"] (λnd hr=>
   (aE (aT 3 nd (zBt G42_ (hr.mono (by omega)) rfl))
   (aE (iR 4 nd (dD aC))
   (aE (gP (m:=8) PassesOwn.never rfl (iB rfl B.range (aA (aB 1) aC)) (dZ 5 (by decide) nd rfl (.inl rfl))
    (aE (aT 6 nd (aR G43_ hr (bH 0 (aA (aB 2) aC))))
    (aE (aT 7 nd (gS PySem.F.slot_str_find PySem.F.type_str_find zGt (aB 3) (aA (mM nV (aB 6) tV (kA aD)) aC)))
    (aE (jU PassesOwn.never (zF7 λF=>(dA (zB2 hr.units) (aB 6) (aB 4) rfl))
     (aE (aT 7 nd (aL lH (aL bC (aB 7) aD) (bG cB rfl B.len PySem.boot_len (aA (aB 3) aC))))
     (aH (aT 6 nd (aL bC (aU hr (aB 3) (aB 7)) (mM nV (aB 6) (kA aD) tV))))))
    (aH (cJ (iX 4 (aB 6))))))))
   (aH (aV (aB 4))))))) (λas R q=>?_)
 obtain⟨n,m,rfl,n0,n63,m0,m1,q⟩:=q
 have hsl:SIG.length=94:=tZ
 refine⟨rfl,rfl,by decide,n,rfl,by omega,by omega,?_⟩
 refine jZ (λi ρ=>∃(ss:List Str) (s5 s6 s7:Sl),ss.length=i/\zCV m ss/\ρ=[.dk,.va (iT n),.va (iT m),.va (sT SIG),.own (ss.map sT),s5,s6,s7]) ⟨[],.no,.no,.no,rfl,⟨List.nodup_nil,λs hs=>nomatch hs⟩,rfl⟩ ?_ ?_
 ·rintro i T _ N hT ⟨ss,s5,s6,s7,hlen,htx,rfl⟩ hN
  obtain⟨hi,rfl⟩:=jW hT
  refine⟨rfl,m,rfl,m0,m1,λx0 sx0 hx0=>?_⟩
  refine⟨rfl,1,rfl,by omega,SIG,_,rfl,rfl,λa0=>?_⟩
  let r:Str:=Txt.slice x0 (some 1) none
  have hr1:r.length+1<=(if x0.length<1 then 1 else x0.length):=zDI x0
  have sr:Sg r:=sx0.slice _ _
  refine⟨λM ρ=>∃(j:Nat) (x:Str),M+j=ss.length+2/\j<=ss.length+1/\(∀i,1<=i->i<j->fJ a0 r i∈ss)/\(j=0/\x=x0\/1<=j/\x=fJ a0 r j) /\
    ρ=[.dk,.va (iT n),.va (iT m),.va (sT SIG),.own (ss.map sT),.va (iT (0+(i:Int))),.va (sT x),.va (iT (if j=0 then a0 else(a0+j) % 94))],
   ⟨ss.length+2,0,x0,rfl,Nat.zero_le _,λi h1 h2=>absurd h2 (Nat.not_lt_zero _),.inl ⟨rfl,rfl⟩,rfl⟩,?_⟩
  rintro M _ ⟨j,x,hM,hj,htr,hx,rfl⟩
  have hxl:Sg x/\(x.length:Int)<=(if m<1 then 1 else m)/\Txt.slice x (some 1) none=r:=by
   rcases hx with⟨_,rfl⟩|⟨_,rfl⟩
   ·refine⟨sx0,?_,rfl⟩
    split<;>omega
   ·refine⟨Sg.app (zHm _) sr,?_,zDH⟩
    have:(fJ a0 r j).length=r.length+1:=by
     unfold fJ
     rw[WordM.len,WordM.app,WordM.len,List.length_append]
     simp
     omega
    rw[this]
    split at hr1<;>split<;>omega
  obtain⟨sx,hxm,hxr⟩:=hxl
  have hx1000:x.length<=1000:=by split at hxm<;>omega
  refine⟨zFN,_,rfl,?_⟩
  rw[zG7]
  refine sif (λh1=>?_) (λh1=>?_)
  ·have h1:x∈ss:=by simpa using h1
   have hall:∀i,1<=i->i<=j->fJ a0 r i∈ss:=λi i1 i2=>by
    rcases Nat.lt_or_eq_of_le i2 with z|z
    ·exact htr i i1 z
    ·rcases hx with⟨z0,_⟩|⟨_,e⟩
     ·omega
     ·rw[z,<-e];exact h1
   have hjs:j<=ss.length:=zE3 (by omega) hall
   have hmod:((if j=0 then a0 else(a0+(j:Int)) % 94)+1) % 94=(a0+((j+1:Nat):Int)) % 94:=by
    split
    ·rename_i z;subst z;congr 1
    ·push_cast;omega
   have hsl':((SIG.length:Nat):Int)=94:=by rw[hsl];rfl
   have e1:((if j=0 then a0 else(a0+(j:Int)) % 94)+1) % ((SIG.length:Nat):Int)=(a0+((j+1:Nat):Int)) % 94:=by rw[hsl',hmod]
   have hat:atI SIG.cps.toList (((if j=0 then a0 else(a0+(j:Int)) % 94)+1) % ((SIG.length:Nat):Int))=some (fG (a0+((j+1:Nat):Int))):=by
    rw[e1]
    have b1:=Int.emod_lt_of_pos (a0+((j+1:Nat):Int)) (show(0:Int)<94 by decide)
    have b2:=Int.emod_nonneg (a0+((j+1:Nat):Int)) (show(94:Int)≠0 by decide)
    have hlt:((a0+((j+1:Nat):Int)) % 94).toNat<(cs SIG).length:=by rw[<-WordM.len];omega
    have:=eA (xs:=cs SIG) (j:=((a0+((j+1:Nat):Int)) % 94).toNat) (List.getElem?_eq_getElem hlt)
    rw[show((((a0+((j+1:Nat):Int)) % 94).toNat:Nat):Int)=(a0+((j+1:Nat):Int)) % 94 by omega]at this
    rw[this]
    unfold fG
    rw[List.getD_eq_getElem?_getD,List.getElem?_eq_getElem hlt]
    rfl
   refine⟨by omega,by omega,by omega,_,hat,1,rfl,by omega,?_,?_⟩
   ·show 1+(Txt.slice x (some 1) none).length<=100000
    rw[hxr]
    split at hr1<;>omega
   ·refine⟨ss.length+2-(j+1),by omega,j+1,fJ a0 r (j+1),by omega,by omega,λi i1 i2=>hall i i1 (by omega),.inr ⟨by omega,rfl⟩,?_⟩
    show [Sl.dk,.va (iT n),.va (iT m),.va (sT SIG),.own (ss.map sT),.va (iT (0+(i:Int))),.va (sT ((⟨#[fG (a0+((j+1:Nat):Int))]⟩:Str)++Txt.slice x (some 1) none)),.va (iT (((if j=0 then a0 else(a0+(j:Int)) % 94)+1) % ((SIG.length:Nat):Int)))]=_
    rw[e1,if_neg (by omega),hxr]
    rfl
  ·have h1:x∉ss:=by simpa using h1
   refine⟨⟨_,rfl⟩,_,rfl,by rw[List.length_map];omega,hN _ ⟨ss++[x],.va (iT (0+(i:Int))),.va (sT x),.va (iT (if j=0 then a0 else(a0+j) % 94)),by rw[List.length_append,hlen];rfl,⟨?_,λs hs=>?_⟩,?_⟩⟩
   ·rw[List.nodup_append]
    exact⟨htx.1,by simp,λa ha b hb=>by rw[List.mem_singleton]at hb;subst hb;rintro rfl;exact h1 ha⟩
   ·rcases List.mem_append.mp hs with z|z
    ·exact htx.2 s z
    ·rw[List.mem_singleton]at z;subst z;exact⟨sx,hxm⟩
   ·rw[List.map_append];rfl
 ·rintro _ ⟨ss,s5,s6,s7,hlen,htx,rfl⟩
  rw[gH]at hlen
  exact q ss (by omega) htx
def wB:PSp:=λas R=>as=[.dk]/\∀r:Int,-(10 ^ 60)<r->r<10 ^ 60->R (iT r)
theorem zKp(h:Has K mg "_law_far" zCs)(B:Own mg)(G41_:aG P w K mg base 2 "_law_take" ["_law_deck_here","_law_most"] fD)   : aG P w K mg base 3 "_law_far" ["_law_deck_here"] wB:=by
 refine h.pg1 ["_law_deck_here","_law_number_here","_law_k"] (λnd hr=>
   (aE (aT 1 nd aD)
   (aE (gP (m:=3) PassesOwn.never rfl (iB rfl B.range (aA aD aC)) (dZ 2 (by decide) nd rfl (.inl rfl))
    (aH (aT 1 nd (aL bC (aL gK (aB 1) (aL nB aD aD)) (aR G41_ hr (bH 0 (aA (aL nB aD aD) aC)))))))
   (aH (aV (aL bC (aL gU (aL lH (aB 1) (aL gU (aL gK aD (aL nB aD aD)) aD)) (aL nB aD aD)) aD)))))) (λas R q=>?_)
 obtain⟨rfl,q⟩:=q
 refine⟨rfl,8,rfl,by decide,by decide,?_⟩
 refine jZ (λi ρ=>∃(x:Int) (s:Sl),0<=x/\x<10 ^ (8*i)/\ρ=[.dk,.va (iT x),s]) ⟨0,.no,by decide,by decide,rfl⟩ ?_ ?_
 ·rintro i T _ N hT ⟨x,s,x0,x1,rfl⟩ hN
  obtain⟨hi,rfl⟩:=jW hT
  have hi:i<8:=hi
  have xb:x<10 ^ 64:=Int.lt_of_lt_of_le x1 (by
   have:i=0\/i=1\/i=2\/i=3\/i=4\/i=5\/i=6\/i=7:=by omega
   rcases this with e|e|e|e|e|e|e|e<;>subst e<;>decide)
  refine⟨⟨by decide,by decide,by decide⟩,.inr ⟨bJ (by omega) (by omega),bJ (by decide) (by decide)⟩,rfl,⟨by decide,by decide,by decide⟩,10 ^ 8,rfl,by decide,bJ (by decide) (by decide),λr r0 r1=>hN _ ⟨_,_,?_,?_,rfl⟩⟩
  ·show 0<=x*(10 ^ 8:Int)+r
   omega
  ·show x*(10 ^ 8:Int)+r<10 ^ (8*(i+1))
   have e:(10:Int) ^ (8*(i+1))=10 ^ (8*i)*10 ^ 8:=by rw[Nat.mul_add,Int.pow_add]
   rw[e]
   have h8:r<(10:Int) ^ 8:=r1
   generalize (10:Int) ^ (8*i)=y at x1
   omega
 ·rintro _ ⟨x,s,x0,x1,rfl⟩
  refine⟨⟨by decide,by decide,by decide⟩,.inl (.inl ⟨by decide,by decide⟩),(show(0:Int)<2*10 ^ 60-1 by decide),⟨by decide,by decide,by decide⟩,?_⟩
  have h1:=Int.emod_nonneg x (show(2*10 ^ 60-1:Int)≠0 by decide)
  have h2:=Int.emod_lt_of_pos x (show(0:Int)<2*10 ^ 60-1 by decide)
  refine q _ ?_ ?_
  ·show -(10 ^ 60)<x % (2*10 ^ 60-1)-10 ^ 60+1
   omega
  ·show x % (2*10 ^ 60-1)-10 ^ 60+1<10 ^ 60
   omega
end
section
variable{P:Program}{w:World}{K:W.Frag}{mg:Str->Option Value}{base:Heap}
structure lC (nm tx:List Str) (st sp:Int):Prop where
 n11:nm.length=11
 t9:tx.length=9
 nd:nm.Nodup
 ndt:tx.Nodup
 ns:∀s∈nm,Sg s/\s.length<=40
 ts:∀s∈tx,Sg s/\s.length<=43
 st1:-(10 ^ 57)<=st
 st2:st<=10 ^ 57
 sp1:1<=sp
 sp2:sp<=10 ^ 20
def dW(nm tx:List Str)(st sp:Int):Tv:=.seq false [.seq false (nm.map sT),.seq false (tx.map sT),iT st,iT sp]
def uD:PSp:=λas R=>as=[.dk]/\∀nm tx st sp,lC nm tx st sp->R (dW nm tx st sp)
theorem zG6{a b c:Str}(h:a++b=a++c):b=c:=by
 have:=congrArg cs h
 rw[WordM.app,WordM.app]at this
 exact kZ (List.append_cancel_left this)
theorem zKo(h:Has K mg "_law_world" wV)(B:Own mg)(G41_:aG P w K mg base 2 "_law_take" ["_law_deck_here","_law_most"] fD)(G44_:aG P w K mg base 4 "_law_unlike" ["_law_deck_here","_law_many","_law_most"] tM)(G43_:aG P w K mg base 3 "_law_text" ["_law_deck_here","_law_most"] nD)(G45_:aG P w K mg base 3 "_law_far" ["_law_deck_here"] wB)   : aG P w K mg base 5 "_law_world" ["_law_deck_here"] uD:=by
 refine h.pg1 ["_law_deck_here","_law_most","_law_names","_law_head","_law_texts","_law_start"] (λnd hr=>
   (aE (aT 1 nd (aU hr (bP (dD (aA aD (aA aD (aA aD (aA aD (aA aD (aA aD (aA aD (aA aD aC)))))))))) (aR G41_ hr (bH 0 (aA aD aC)))))
   (aE (aT 2 nd (aR G44_ hr (bH 0 (aA aD (aA (aB 1) aC)))))
   (aE (aT 3 nd (aR G43_ hr (bH 0 (aA (aL gK aD (aR G41_ hr (bH 0 (aA aD aC)))) aC))))
   (aE (vQ (sc:=aO wV) (XN:=["_law_deck_here","_law_most","_law_names","_law_head","_law_texts","_law_start"]) (N:=["_law_text_here","_law_head"]) (fr:=[3]) 4 nd (cQ (aR G44_ hr (bH 0 (aA aD (aA (aB 1) aC))))) (λ_ _ _ _ _=>qG) (λ_ _ _ _ _=>(aL bC (aB 1) (aB 0))))
   (aE (aT 5 nd (aU hr (bP (dD (aA aD (aA aD (aA (zBX zBG aD) (aA (aL zAT (aR G45_ hr (bH 0 aC)) aD) aC)))))) (aR G41_ hr (bH 0 (aA aD aC)))))
   (aH (aV (bP (dD (aA (aB 2) (aA (aB 4) (aA (aB 5) (aA (aL bC aD (aR G41_ hr (bH 0 (aA (aU hr (bP (dD (aA aD (aA (aL nB aD aD) aC)))) (aR G41_ hr (bH 0 (aA aD aC)))) aC)))) aC)))))))))))))) (λas R q=>?_)
 obtain⟨rfl,q⟩:=q
 refine⟨rfl,by decide,rfl,8,rfl,by decide,bJ (by decide) (by decide),λr r0 r1=>?_⟩
 obtain⟨M,hM,hMm⟩:=jL (l:=[iT 4,iT 3,iT 5,iT 1,iT 4,iT 3,iT 6,iT 40]) r0 r1
 have hm:∃m:Int,M=iT m/\1<=m/\m<=40:=by
  simp only[List.mem_cons,List.not_mem_nil,or_false]at hMm
  rcases hMm with e|e|e|e|e|e|e|e<;>subst e<;>exact⟨_,rfl,by decide,by decide⟩
 obtain⟨m,rfl,m1,m2⟩:=hm
 refine⟨_,hM,?_⟩
 clear hM hMm
 refine⟨rfl,11,m,rfl,by decide,by decide,by omega,by omega,λnm hnm tnm=>?_⟩
 refine⟨rfl,rfl,2,rfl,by decide,bJ (by decide) (by decide),λr2 a0 a1=>⟨.inl (.inl ⟨by decide,by decide⟩),_,rfl,by omega,by omega,λhd shd lhd=>?_⟩⟩
 refine⟨rfl,9,m,rfl,by decide,by decide,by omega,by omega,λtx htx ttx=>⟨by rw[List.length_map];omega,?_⟩⟩
 have lt:∀s∈tx,Sg s/\s.length<=40:=λs hs=>by
  have:=ttx.2 s hs
  refine⟨this.1,?_⟩
  have:=this.2
  split at this<;>omega
 refine iZ sT (λs=>sT (hd++s)) (λs hs R q=>?_) ?_
 ·have:=(lt s hs).2
  exact⟨show hd.length+s.length<=100000 by omega,q⟩
 refine⟨rfl,rfl,λfr fr0 fr1=>⟨⟨by decide,bJ (by decide) (by decide)⟩,(show 4<=100000 by decide),rfl,4,rfl,by decide,bJ (by decide) (by decide),λr3 b0 b1=>?_⟩⟩
 obtain⟨S,hS,hSm⟩:=jL (l:=[iT 0,iT 7,iT (-40),iT (fr / 1000)]) b0 b1
 have hs:∃st:Int,S=iT st /\ -(10 ^ 57)<=st/\st<=10 ^ 57:=by
  simp only[List.mem_cons,List.not_mem_nil,or_false]at hSm
  rcases hSm with e|e|e|e<;>subst e
  ·exact⟨_,rfl,by decide,by decide⟩
  ·exact⟨_,rfl,by decide,by decide⟩
  ·exact⟨_,rfl,by decide,by decide⟩
  ·exact⟨_,rfl,by omega,by omega⟩
 obtain⟨st,rfl,st1,st2⟩:=hs
 refine⟨_,hS,?_⟩
 clear hS hSm
 refine⟨rfl,⟨by decide,by decide,by decide⟩,by decide,rfl,2,rfl,by decide,bJ (by decide) (by decide),λr4 c0 c1=>?_⟩
 obtain⟨W,hW,hWm⟩:=jL (l:=[iT 6,iT (10 ^ 20)]) c0 c1
 have hw:∃wi:Int,W=iT wi/\1<=wi/\wi<=10 ^ 20:=by
  simp only[List.mem_cons,List.not_mem_nil,or_false]at hWm
  rcases hWm with e|e<;>subst e<;>exact⟨_,rfl,by decide,by decide⟩
 obtain⟨wi,rfl,w1,w2⟩:=hw
 refine⟨_,hW,wi,rfl,by omega,bJ (by omega) (by omega),λsp sp0 sp1=>⟨(show 4<=100000 by decide),?_⟩⟩
 have:=q nm (tx.map λs=>hd++s) st (1+sp) ⟨by omega,by rw[List.length_map];omega,tnm.1,?_,λs hs=>?_,λs hs=>?_,st1,st2,by omega,by omega⟩
 ·show R (.seq false [.seq false (nm.map sT),.seq false (tx.map λs=>sT (hd++s)),iT st,iT (1+sp)])
  rw[dW,List.map_map]at this
  exact this
 ·unfold List.Nodup
  rw[List.pairwise_map]
  exact ttx.1.imp λh e=>h (zG6 e)
 ·have:=tnm.2 s hs
  refine⟨this.1,?_⟩
  have:=this.2
  split at this<;>omega
 ·obtain⟨z,hz,rfl⟩:=List.mem_map.mp hs
  refine⟨shd.app (lt z hz).1,?_⟩
  rw[WordM.len,WordM.app,List.length_append,<-WordM.len,<-WordM.len]
  have:=(lt z hz).2
  omega
theorem zBN{a b:Int}(h1:1<=a)(h2:a<=10 ^ 20)(h3:-100<=b)(h4:b<=100):-(10 ^ 22)<=a*b/\a*b<=10 ^ 22:=by
 have e1:a*b<=a*100:=Int.mul_le_mul_of_nonneg_left h4 (by omega)
 have e2:a*(-100)<=a*b:=Int.mul_le_mul_of_nonneg_left h3 (by omega)
 omega
end
end My
namespace My
open PySem L2 PyProof.Rows WordM
section
variable{P:Program}{w:World}{K:W.Frag}{mg:Str->Option Value}{base:Heap}
def okU(U:Tv):Prop:=∀v,U=.leaf v->dB v=true
def isW:Tv->Bool
 |.leaf (.int _)=>true
 |_=>false
theorem gG{U:Tv}(h:okU U):U=nT\/(∃b,U=bT b)\/(∃i,U=iT i)\/(∃s,U=sT s)\/(∃t xs,U=.seq t xs)\/∃kts,U=.dct kts:=by
 cases U with
 |leaf v=>
  rcases iW (h v rfl) with rfl|⟨b,rfl⟩|⟨b,rfl⟩|⟨b,rfl⟩
  ·exact .inl rfl
  ·exact .inr (.inl ⟨_,rfl⟩)
  ·exact .inr (.inr (.inl ⟨_,rfl⟩))
  ·exact .inr (.inr (.inr (.inl ⟨_,rfl⟩)))
 |seq t xs=>exact .inr (.inr (.inr (.inr (.inl ⟨_,_,rfl⟩))))
 |dct k=>exact .inr (.inr (.inr (.inr (.inr ⟨_,rfl⟩))))
def mT:PSp:=λas R=>∃U,as=[.va U]/\okU U/\R (bT (isW U))
theorem g0_(h:Has K mg "is_whole" s0_)(B:Own mg)    : aG P w K mg base 1 "is_whole" ["thing"] mT:=by
 refine h.pg1 ["thing"] (λnd hr=>
   (aH (aV (cR (eM "int" zDo rfl B.isinstance (aB 0) (eK (v:=.ty "int") rfl B.int_ boot_int rfl)) (dN (zHa (eM "bool" sO rfl B.isinstance (aB 0) (eK (v:=.ty "bool") rfl B.bool_ boot_bool rfl)))))))) (λas R q=>?_)
 obtain⟨U,rfl,ok,q⟩:=q
 rcases gG ok with rfl|⟨b,rfl⟩|⟨i,rfl⟩|⟨s,rfl⟩|⟨t,xs,rfl⟩|⟨kts,rfl⟩
 ·exact⟨rfl,_,rfl,aX q⟩
 ·exact⟨rfl,_,rfl,aN ⟨_,rfl,q⟩⟩
 ·exact⟨rfl,_,rfl,aN ⟨_,rfl,q⟩⟩
 ·exact⟨rfl,_,rfl,aX q⟩
 ·cases t<;>exact⟨rfl,_,rfl,aX q⟩
 ·exact⟨rfl,_,rfl,aX q⟩
def FlD:Nat->Tv->Prop
 |0,_=>True
 |_+1,.leaf v=>dB v=true/\∀s,v=.str s->s.length<=1000
 |n+1,.seq _ l=>l.length<=100/\∀x∈l,FlD n x
 |_+1,.dct _=>True
theorem FlD.ok{n:Nat}{U:Tv}(h:FlD (n+1) U):okU U:=λv e=>by subst e;exact h.1
theorem FlD.tx{n:Nat}{U:Tv}(h:FlD (n+1) U):∀s,U=sT s->s.length<=1000:=λs e=>by subst e;exact h.2 s rfl
def gB(c:Nat):Bool:=decide (32<=c)&&decide (c<=126)&&decide (c≠37)
def txB:Tv->Bool
 |.leaf (.str s)=>(cs s).all gB
 |_=>false
theorem zBO(a b:Nat):decide (([a]:List Nat) < [b])=decide (a<b):=by
 rw[decide_eq_decide,List.cons_lt_cons_iff]
 exact⟨λh=>h.elim id λh=>absurd h.2 (List.not_lt_nil _),.inl⟩
def qM:PSp:=λas R=>∃c:Nat,as=[.va (sT ⟨#[c]⟩)]/\R (bT (gB c))
theorem g1_(h:Has K mg "is_sign" s1_)(B:Own mg)(GPERCENT:fT K mg "PERCENT" (iT 37))(Bord:mg "ord"=none):aG P w K mg base 1 "is_sign" ["sign"] qM:=by
 refine h.pg1 ["sign"] (λnd hr=>
   (aH (aV (cR (pE zBI zBI aI (aB 0) aI) (dN (dF (vW hr.units).op (bG zHD rfl Bord boot_ord (aA (aB 0) aC)) (nR GPERCENT rfl))))))) (λas R q=>?_)
 obtain⟨c,rfl,q⟩:=q
 have e1:(!decide (([c]:List Nat)<(Str.ofString " ").cps.toList))=decide (32<=c):=by
  rw[show(Str.ofString " ").cps.toList=[32] by decide,zBO]
  by_cases h:c<32
  ·rw[decide_eq_true h,decide_eq_false (by omega)];rfl
  ·rw[decide_eq_false h,decide_eq_true (by omega)];rfl
 have e2:(!decide ((Str.ofString "~").cps.toList<([c]:List Nat)))=decide (c<=126):=by
  rw[show(Str.ofString "~").cps.toList=[126] by decide,zBO]
  by_cases h:126<c
  ·rw[decide_eq_true h,decide_eq_false (by omega)];rfl
  ·rw[decide_eq_false h,decide_eq_true (by omega)];rfl
 refine⟨rfl,_,rfl,?_⟩
 show if (!decide (([c]:List Nat)<(Str.ofString " ").cps.toList))=true then _ else _
 rw[e1]
 unfold gB at q
 refine cT (λh1=>?_) (λh1=>?_)
 ·show ∃b,bT (!decide ((Str.ofString "~").cps.toList<([c]:List Nat)))=bT b/\_
  rw[e2]
  rw[decide_eq_true h1,Bool.true_and]at q
  refine⟨_,rfl,cT (λh2=>?_) (λh2=>?_)⟩
  ·rw[decide_eq_true h2,Bool.true_and]at q
   refine⟨_,rfl,rfl,?_⟩
   show R (bT (true != eqV (.int ((#[c].getD 0 0:Nat):Int)) (.int 37)))
   rw[show(true != eqV (.int ((#[c].getD 0 0:Nat):Int)) (.int 37))=decide (c≠37) by
    by_cases h:c=37
    ·subst h;decide
    ·rw[decide_eq_true h];simp[eqV];omega]
   exact q
  ·rw[decide_eq_false h2,Bool.false_and]at q
   exact q
 ·rw[decide_eq_false h1,Bool.false_and,Bool.false_and]at q
  exact⟨_,rfl,aX q⟩
def kW:PSp:=λas R=>∃U,as=[.va U]/\okU U/\(∀s,U=sT s->s.length<=1000)/\R (bT (txB U))
theorem g2_(h:Has K mg "is_text" s2_)(B:Own mg)(G1_:aG P w K mg base 1 "is_sign" ["sign"] qM)   : aG P w K mg base 2 "is_text" ["thing"] kW:=by
 refine h.pg1 ["thing"] (λnd hr=>
   (aH (aV (cR (eM "str" yB rfl B.isinstance (aB 0) (eK (v:=.ty "str") rfl B.str_ boot_str rfl)) (dN (bG (iJ rfl) rfl B.all boot_all (aA (bP (dO (sc:=aO s2_) (XN:=["thing"]) (N:=["sign"]) (fr:=[]) (cQ (aB 0)) (λ_ _ _ _ _=>(aR G1_ hr (aA (aB 0) aC))))) aC))))))) (λas R q=>?_)
 obtain⟨U,rfl,ok,l,q⟩:=q
 rcases gG ok with rfl|⟨b,rfl⟩|⟨i,rfl⟩|⟨s,rfl⟩|⟨t,xs,rfl⟩|⟨kts,rfl⟩
 ·exact⟨rfl,_,rfl,aX q⟩
 ·exact⟨rfl,_,rfl,aX q⟩
 ·exact⟨rfl,_,rfl,aX q⟩
 ·have ls:=l s rfl
  refine⟨rfl,_,rfl,aN ⟨?_,iZ (λc:Nat=>sT ⟨#[c]⟩) (λc=>bT (gB c)) (λc hc R q=>⟨c,rfl,q⟩) ?_⟩⟩
  ·rw[List.length_map,<-WordM.len];omega
  ·refine⟨s.cps.toList.map gB,by rw[List.map_map];rfl,?_⟩
   rw[List.all_map]
   exact q
 ·cases t<;>exact⟨rfl,_,rfl,aX q⟩
 ·exact⟨rfl,_,rfl,aX q⟩
def eN:List Str->Bool
 |a::b::r=>decide (cs a<cs b)&&eN (b::r)
 |_=>true
theorem mI:∀(ss:List Str),eN ss=true↔kN ss
 |[]=>⟨λ_=>.nil,λ_=>rfl⟩
 |[a]=>⟨λ_=>List.pairwise_singleton _ _,λ_=>rfl⟩
 |a::b::r=>by
  rw[eN,Bool.and_eq_true,decide_eq_true_iff,mI (b::r)]
  constructor
  ·rintro⟨h1,h2⟩
   refine List.pairwise_cons.mpr ⟨λx hx=>?_,h2⟩
   rcases List.mem_cons.mp hx with rfl|hx
   ·exact h1
   ·exact List.lt_trans h1 ((List.pairwise_cons.mp h2).1 x hx)
  ·intro h
   exact⟨(List.pairwise_cons.mp h).1 b (List.mem_cons_self ..),(List.pairwise_cons.mp h).2⟩
def iN:List Int->Bool
 |a::b::r=>decide (a<b)&&iN (b::r)
 |_=>true
def nU:List Bool->Bool
 |a::b::r=>(!a&&b)&&nU (b::r)
 |_=>true
def gV{α:Type}(d:α)(f:α->α->Bool):List α->Bool
 |a::b::r=>f a b&&gV d f (b::r)
 |_=>true
theorem yD{α:Type}(d:α)(f:α->α->Bool):∀(ss:List α),(List.range (ss.length-1)).all (λi=>f (ss.getD i d) (ss.getD (i+1) d))=gV d f ss
 |[]=>rfl
 |[a]=>rfl
 |a::b::r=>by
  have ih:=yD d f (b::r)
  show(List.range (r.length+1)).all _=_
  rw[List.range_succ_eq_map,List.all_cons,List.all_map,gV,<-ih]
  rfl
theorem zAQ:∀ss:List Str,gV ⟨#[]⟩ (λa b=>decide (cs a<cs b)) ss=eN ss
 |[]=>rfl
 |[_]=>rfl
 |a::b::r=>by rw[gV,eN,zAQ (b::r)]
theorem zAR:∀ss:List Int,gV 0 (λa b=>decide (a<b)) ss=iN ss
 |[]=>rfl
 |[_]=>rfl
 |a::b::r=>by rw[gV,iN,zAR (b::r)]
theorem zAP:∀ss:List Bool,gV false (λa b=>!a&&b) ss=nU ss
 |[]=>rfl
 |[_]=>rfl
 |a::b::r=>by rw[gV,nU,zAP (b::r)]
def iD:PSp:=λas R=>(∃(t:Bool) (ss:List Str),as=[.va (.seq t (ss.map sT))]/\ss.length<=1000/\R (bT (eN ss)))\/(∃(t:Bool) (ss:List Int),as=[.va (.seq t (ss.map iT))]/\ss.length<=1000/\R (bT (iN ss)))\/∃(t:Bool) (ss:List Bool),as=[.va (.seq t (ss.map bT))]/\ss.length<=1000/\R (bT (nU ss))
def zFf:PSp:=λas R=>∃(α:Type) (d:α) (f:α->α->Bool) (c:α->Tv) (t:Bool) (ss:List α),as=[.va (.seq t (ss.map c))]/\(∀a b Q,Q (bT (f a b))->xP (c a) (c b) Q)/\ss.length<=1000/\R (bT (gV d f ss))
theorem zGj{as:List Ar}{R:Tv->Prop}(h:iD as R):zFf as R:=by
 rcases h with⟨t,ss,e,l,q⟩|⟨t,ss,e,l,q⟩|⟨t,ss,e,l,q⟩
 ·exact⟨Str,_,_,sT,t,ss,e,λa b Q q=>q,l,by rw[zAQ];exact q⟩
 ·exact⟨Int,_,_,iT,t,ss,e,λa b Q q=>q,l,by rw[zAR];exact q⟩
 ·exact⟨Bool,_,_,bT,t,ss,e,λa b Q q=>q,l,by rw[zAP];exact q⟩
theorem g4_(h:Has K mg "rises" s4_)(B:Own mg)    : aG P w K mg base 1 "rises" ["things"] iD:=by
 refine h.pg1 ["things"] (λnd hr=>
   (aH (aV (bG (iJ rfl) rfl B.all boot_all (aA (bP (dO (sc:=aO s4_) (XN:=["things"]) (N:=["place","things"]) (fr:=[0]) (iB rfl B.range (aA (aL gU (bG cB rfl B.len PySem.boot_len (aA (aB 0) aC)) aD) aC)) (λ_ _ _ _ _=>(dF (zHF).op (aU hr (aB 1) (aB 0)) (aU hr (aB 1) (aL bC (aB 0) aD)))))) aC))))) (λas R q=>?_)
 obtain⟨α,d,f,c,t,ss,rfl,hlt,l,q⟩:=zGj q
 have e:(((ss.map c).length:Int)-1).toNat=ss.length-1:=by rw[List.length_map];omega
 refine⟨rfl,_,rfl,by rw[List.length_map];omega,by rw[List.length_map];omega,?_⟩
 rw[e]
 refine⟨by rw[gH];omega,?_⟩
 refine iZ (λk:Nat=>iT (0+(k:Int))) (λk=>bT (f (ss.getD k d) (ss.getD (k+1) d))) (l:=List.range (ss.length-1)) (λk hk R q=>?_) ⟨(List.range (ss.length-1)).map λk=>f (ss.getD k d) (ss.getD (k+1) d),by rw[List.map_map];rfl,?_⟩
 ·have hk:=List.mem_range.mp hk
  have e0:(0:Int)+(k:Int)=(k:Int):=by omega
  rw[e0]
  have g1:(ss.map c)[k]?=some (c (ss.getD k d)):=by rw[List.getElem?_map,List.getD_eq_getElem?_getD,List.getElem?_eq_getElem (by omega)];rfl
  have g2:(ss.map c)[k+1]?=some (c (ss.getD (k+1) d)):=by rw[List.getElem?_map,List.getD_eq_getElem?_getD,List.getElem?_eq_getElem (by omega)];rfl
  exact⟨_,eA g1,_,eA g2,hlt _ _ _ q⟩
 ·rw[List.all_map]
  rw[<-yD]at q
  exact q
def cF:Tv->Str
 |.leaf (.str s)=>s
 |_=>⟨#[]⟩
theorem zAI{U:Tv}(h:txB U=true):U=sT (cF U):=by
 cases U with
 |leaf v=>cases v<;>first|rfl|cases h
 |_=>cases h
theorem zIC{ts:List Tv}(h:ts.all txB=true):ts=(ts.map cF).map sT:=by
 rw[List.map_map]
 have:ts=ts.map id:=(List.map_id ts).symm
 rw[List.all_eq_true]at h
 exact(List.map_id ts).symm.trans (List.map_congr_left λx hx=>zAI (h x hx))
def zCT:Tv->Bool
 |.seq true ts=>decide (1<=ts.length)&&decide (ts.length<=6)&&(ts.all txB&&eN (ts.map cF))
 |_=>false
def oK:List Tv->Bool
 |[_,b]=>zCT b
 |_=>false
def wA:PSp:=λas R=>∃L,as=[.va (.seq true L)]/\FlD 3 (.seq true L)/\R (bT (oK L))
theorem g5_(h:Has K mg "is_few" s5_)(B:Own mg)(G4_:aG P w K mg base 1 "rises" ["things"] iD)(G2_:aG P w K mg base 2 "is_text" ["thing"] kW)(GMOST_FEW:fT K mg "MOST_FEW" (iT 6))  : aG P w K mg base 3 "is_few" ["thing"] wA:=by
 refine h.pg1 ["thing","texts"] (λnd hr=>
   (aE (bB (dG (dE (gX hr (bG cB rfl B.len PySem.boot_len (aA (aB 0) aC)) aD) (eL (cS (bN (eM "tuple" hJ rfl B.isinstance (aU hr (aB 0) aD) (eK (v:=.ty "tuple") rfl B.tuple_ boot_tuple rfl)))))))
    (aH (aV cK))
    bA)
   (aE (aT 1 nd (aU hr (aB 0) aD))
   (aH (aV (cR (pE iP iP aD (bG cB rfl B.len PySem.boot_len (aA (aB 1) aC)) (nR GMOST_FEW rfl)) (cR (bG (iJ rfl) rfl B.all boot_all (aA (bP (dO (sc:=aO s5_) (XN:=["thing","texts"]) (N:=["text"]) (fr:=[]) (cQ (aB 1)) (λ_ _ _ _ _=>(aR G2_ hr (aA (aB 0) aC))))) aC)) (dN (aR G4_ hr (aA (aB 1) aC)))))))))) (λas R q=>?_)
 obtain⟨L,rfl,fl,q⟩:=q
 by_cases l2:L.length=2
 ·match L,l2 with
  |[a,b],_=>
   have fb:FlD 2 b:=fl.2 b (by simp)
   refine⟨rfl,_,rfl,sif (λz=>absurd z (by simp[eqV])) λ_=>?_⟩
   rcases gG fb.ok with rfl|⟨c,rfl⟩|⟨i,rfl⟩|⟨s,rfl⟩|⟨t,ts,rfl⟩|⟨kts,rfl⟩
   ·exact⟨_,rfl,_,rfl,aN q⟩
   ·exact⟨_,rfl,_,rfl,aN q⟩
   ·exact⟨_,rfl,_,rfl,aN q⟩
   ·exact⟨_,rfl,_,rfl,aN q⟩
   ·cases t with
    |false=>exact⟨_,rfl,_,rfl,aN q⟩
    |true=>
     have q:R (bT (decide (1<=ts.length)&&decide (ts.length<=6)&&(ts.all txB&&eN (ts.map cF)))):=q
     have ft:ts.length<=100/\∀x∈ts,FlD 1 x:=fb
     refine⟨_,rfl,_,rfl,aX ⟨_,rfl,_,rfl,cT (λh1=>?_) (λh1=>⟨_,rfl,aX ?_⟩)⟩⟩
     ·have h1':1<=ts.length:=by have h1:(1:Int)<=(ts.length:Nat):=h1;omega
      rw[decide_eq_true h1',Bool.true_and]at q
      refine⟨_,rfl,cT (λh2=>?_) (λh2=>?_)⟩
      ·have h2':ts.length<=6:=by have h2:((ts.length:Nat):Int)<=6:=h2;omega
       rw[decide_eq_true h2',Bool.true_and]at q
       refine⟨by omega,iY (λx=>bT (txB x)) (λx hx R q=>⟨x,rfl,(ft.2 x hx).ok,(ft.2 x hx).tx,q⟩) ⟨ts.map txB,by rw[List.map_map];rfl,?_⟩⟩
       rw[List.all_map]
       refine⟨_,rfl,sif (λh3=>?_) (λh3=>?_)⟩
       ·have h3:ts.all txB=true:=h3
        rw[h3,Bool.true_and]at q
        exact .inl ⟨true,ts.map cF,by rw[<-zIC h3],by rw[List.length_map];omega,q⟩
       ·have h3:ts.all txB=false:=h3
        rw[h3,Bool.false_and]at q
        exact q
      ·have h2':¬ ts.length<=6:=by have h2:¬ ((ts.length:Nat):Int)<=6:=h2;omega
       rw[decide_eq_false h2',Bool.false_and]at q
       exact q
     ·have h1':¬ 1<=ts.length:=by have h1:¬ (1:Int)<=(ts.length:Nat):=h1;omega
      rw[decide_eq_false h1',Bool.false_and,Bool.false_and]at q
      exact q
   ·exact⟨_,rfl,_,rfl,aN q⟩
 ·have e:oK L=false:=by
   match L,l2 with
   |[],_=>rfl
   |[_],_=>rfl
   |[_,_],h=>exact absurd rfl h
   |_::_::_::_,_=>rfl
  rw[e]at q
  refine⟨rfl,_,rfl,sif (λz=>q) λz=>?_⟩
  have z:(true != eqV (.int (L.length:Nat)) (.int 2))=false:=z
  exact absurd (by simpa[eqV]using z) (show ¬ ((L.length:Int)=2) by omega)
def mkB(U:Tv):Bool:=(MK.map sT).any λk=>L2.eqT k U
theorem zA8{U:Tv}(h:mkB U=true):U=sT (cF U)/\cF U∈MK:=by
 obtain⟨k,hk,e⟩:=List.any_eq_true.mp h
 obtain⟨x,hx,rfl⟩:=List.mem_map.mp hk
 cases U with
 |leaf v=>
  cases v with
  |str s=>simp[L2.eqT,eqV]at e;subst e;exact⟨rfl,hx⟩
  |_=>simp[L2.eqT,eqV]at e
 |_=>simp[L2.eqT]at e
theorem zBp{ts:List Tv}(h:ts.all mkB=true):ts=(ts.map cF).map sT:=by
 rw[List.map_map]
 rw[List.all_eq_true]at h
 exact(List.map_id ts).symm.trans (List.map_congr_left λx hx=>(zA8 (h x hx)).1)
def kJ:Tv->Bool
 |.seq true ms=>decide (ms≠[])&&(ms.all mkB&&eN (ms.map cF))
 |_=>false
def sQ:PSp:=λas R=>∃U,as=[.va U]/\FlD 2 U/\R (bT (kJ U))
theorem g6_(h:Has K mg "are_marks" s6_)(B:Own mg)(G4_:aG P w K mg base 1 "rises" ["things"] iD)(GMARKS:fT K mg "MARKS" (.seq true (MK.map sT)))  : aG P w K mg base 2 "are_marks" ["thing"] sQ:=by
 refine h.pg1 ["thing"] (λnd hr=>
   (aE (bB (dG (dE (cS (bN (eM "tuple" hJ rfl B.isinstance (aB 0) (eK (v:=.ty "tuple") rfl B.tuple_ boot_tuple rfl)))) (eL (bV hr (bG cB rfl B.len PySem.boot_len (aA (aB 0) aC)) aD))))
    (aH (aV cK))
    bA)
   (aH (aV (cR (bG (iJ rfl) rfl B.all boot_all (aA (bP (dO (sc:=aO s6_) (XN:=["thing"]) (N:=["mark"]) (fr:=[]) (cQ (aB 0)) (λ_ _ _ _ _=>(dF (zHG hr.units).op (aB 0) (nR GMARKS rfl) rfl)))) aC)) (dN (aR G4_ hr (aA (aB 0) aC)))))))) (λas R q=>?_)
 obtain⟨U,rfl,fb,q⟩:=q
 rcases gG fb.ok with rfl|⟨c,rfl⟩|⟨i,rfl⟩|⟨s,rfl⟩|⟨t,ts,rfl⟩|⟨kts,rfl⟩
 ·exact⟨rfl,_,rfl,aN q⟩
 ·exact⟨rfl,_,rfl,aN q⟩
 ·exact⟨rfl,_,rfl,aN q⟩
 ·exact⟨rfl,_,rfl,aN q⟩
 ·cases t with
  |false=>exact⟨rfl,_,rfl,aN q⟩
  |true=>
   have q:R (bT (decide (ts≠[])&&(ts.all mkB&&eN (ts.map cF)))):=q
   have ft:ts.length<=100/\∀x∈ts,FlD 1 x:=fb
   cases ts with
   |nil=>exact⟨rfl,_,rfl,aX ⟨_,rfl,aN q⟩⟩
   |cons x ts=>
    rw[decide_eq_true (by simp),Bool.true_and]at q
    refine⟨rfl,_,rfl,aX ⟨_,rfl,dX (λz=>absurd z (by simp;omega)) λ_=>?_⟩⟩
    refine⟨by omega,iY (λx=>bT (mkB x)) (λx hx R q=>⟨MK,rfl,q⟩) ⟨(x::ts).map mkB,by rw[List.map_map];rfl,?_⟩⟩
    rw[List.all_map]
    refine⟨_,rfl,sif (λh3=>?_) (λh3=>?_)⟩
    ·have h3:(x::ts).all mkB=true:=h3
     rw[h3,Bool.true_and]at q
     exact .inl ⟨true,(x::ts).map cF,by rw[<-zBp h3],by rw[List.length_map];omega,q⟩
    ·have h3:(x::ts).all mkB=false:=h3
     rw[h3,Bool.false_and]at q
     exact q
 ·exact⟨rfl,_,rfl,aN q⟩
def kO:Tv->Tv->Bool
 |.leaf (.int a),.leaf (.int b)=>decide (0<=a)&&decide (a<=b)&&decide (1<=b)
 |_,_=>false
def oA:List Tv->Bool
 |[_,h,lo,hi,ms]=>txB h&&(kJ ms&&kO lo hi)
 |_=>false
theorem kE{U:Tv}(h:isW U=true):∃i,U=iT i:=by
 cases U with
 |leaf v=>cases v<;>first|exact⟨_,rfl⟩|cases h
 |_=>cases h
theorem zIf{U V:Tv}(h:isW U=false):kO U V=false:=by
 cases U with
 |leaf v=>cases v<;>first|rfl|cases h
 |_=>rfl
theorem zIe{U V:Tv}(h:isW V=false):kO U V=false:=by
 cases U with
 |leaf v=>
  cases v<;>first|rfl|skip
  cases V with
  |leaf v=>cases v<;>first|rfl|cases h
  |_=>rfl
 |_=>rfl
def uF:PSp:=λas R=>∃L,as=[.va (.seq true L)]/\FlD 3 (.seq true L)/\R (bT (oA L))
theorem g7_(h:Has K mg "is_make" s7_)(B:Own mg)(G6_:aG P w K mg base 2 "are_marks" ["thing"] sQ)(G2_:aG P w K mg base 2 "is_text" ["thing"] kW)(G0_:aG P w K mg base 1 "is_whole" ["thing"] mT)   : aG P w K mg base 3 "is_make" ["thing"] uF:=by
 refine h.pg1 ["thing","least","most"] (λnd hr=>
   (aE (bB (dG (dE (gX hr (bG cB rfl B.len PySem.boot_len (aA (aB 0) aC)) aD) (dE (cS (bN (aR G2_ hr (aA (aU hr (aB 0) aD) aC)))) (eL (cS (bN (aR G6_ hr (aA (aU hr (aB 0) aD) aC))))))))
    (aH (aV cK))
    bA)
   (aE (aT 1 nd (aU hr (aB 0) aD))
   (aE (aT 2 nd (aU hr (aB 0) aD))
   (aH (aV (cR (aR G0_ hr (aA (aB 1) aC)) (cR (aR G0_ hr (aA (aB 2) aC)) (cR (pE iP iP aD (aB 1) (aB 2)) (dN (dF (qU).op (aB 2) aD))))))))))) (λas R q=>?_)
 obtain⟨L,rfl,fl,q⟩:=q
 by_cases l5:L.length=5
 ·match L,l5 with
  |[a,h,lo,hi,ms],_=>
   have fh:FlD 2 h:=fl.2 h (by simp)
   have flo:FlD 2 lo:=fl.2 lo (by simp)
   have fhi:FlD 2 hi:=fl.2 hi (by simp)
   have fm:FlD 2 ms:=fl.2 ms (by simp)
   have q:R (bT (txB h&&(kJ ms&&kO lo hi))):=q
   refine⟨rfl,_,rfl,sif (λz=>absurd z (by simp[eqV])) λ_=>⟨_,rfl,h,rfl,fh.ok,fh.tx,_,rfl,?_⟩⟩
   cases th:txB h with
   |false=>rw[th,Bool.false_and]at q;exact aN q
   |true=>
    rw[th,Bool.true_and]at q
    refine aX ⟨_,rfl,ms,rfl,fm,_,rfl,?_⟩
    cases tm:kJ ms with
    |false=>rw[tm,Bool.false_and]at q;exact aN q
    |true=>
     rw[tm,Bool.true_and]at q
     refine aX ⟨_,rfl,_,rfl,lo,rfl,flo.ok,_,rfl,?_⟩
     cases wl:isW lo with
     |false=>rw[zIf wl]at q;exact aX q
     |true=>
      refine aN ⟨hi,rfl,fhi.ok,_,rfl,?_⟩
      cases wh:isW hi with
      |false=>rw[zIe wh]at q;exact aX q
      |true=>
       obtain⟨x,rfl⟩:=kE wl
       obtain⟨y,rfl⟩:=kE wh
       have q:R (bT (decide (0<=x)&&decide (x<=y)&&decide (1<=y))):=q
       refine aN ⟨_,rfl,cT (λh1=>?_) (λh1=>⟨_,rfl,aX ?_⟩)⟩
       ·rw[decide_eq_true h1,Bool.true_and]at q
        refine⟨_,rfl,cT (λh2=>?_) (λh2=>?_)⟩
        ·rw[decide_eq_true h2,Bool.true_and]at q
         exact q
        ·rw[decide_eq_false h2,Bool.false_and]at q
         exact q
       ·rw[decide_eq_false h1,Bool.false_and,Bool.false_and]at q
        exact q
 ·have e:oA L=false:=by
   match L,l5 with
   |[],_=>rfl
   |[_],_=>rfl
   |[_,_],_=>rfl
   |[_,_,_],_=>rfl
   |[_,_,_,_],_=>rfl
   |[_,_,_,_,_],h=>exact absurd rfl h
   |_::_::_::_::_::_::_,_=>rfl
  rw[e]at q
  refine⟨rfl,_,rfl,sif (λz=>q) λz=>?_⟩
  have z:(true != eqV (.int (L.length:Nat)) (.int 5))=false:=z
  exact absurd (by simpa[eqV]using z) (show ¬ ((L.length:Int)=5) by omega)
def gO:Tv->Bool
 |.seq true (a::l)=>if L2.eqT a (sT "few")=true then oK (a::l) else(L2.eqT a (sT "make")&&oA (a::l))
 |_=>false
def mN:PSp:=λas R=>∃U,as=[.va U]/\FlD 3 U/\R (bT (gO U))
theorem g8_(h:Has K mg "is_words" s8_)(B:Own mg)(G5_:aG P w K mg base 3 "is_few" ["thing"] wA)(G7_:aG P w K mg base 3 "is_make" ["thing"] uF)   : aG P w K mg base 4 "is_words" ["thing"] mN:=by
 refine h.pg1 ["thing"] (λnd hr=>
   (aE (bB (dG (dE (cS (bN (eM "tuple" hJ rfl B.isinstance (aB 0) (eK (v:=.ty "tuple") rfl B.tuple_ boot_tuple rfl)))) (eL (bV hr (bG cB rfl B.len PySem.boot_len (aA (aB 0) aC)) aD))))
    (aH (aV cK))
    bA)
   (aE (bB (dA (iI hr.units) (aU hr (aB 0) aD) aI)
    (aH (aV (aR G5_ hr (aA (aB 0) aC))))
    bA)
   (aH (aV (cR (dF (iI hr.units).op (aU hr (aB 0) aD) aI) (dN (aR G7_ hr (aA (aB 0) aC))))))))) (λas R q=>?_)
 obtain⟨U,rfl,fb,q⟩:=q
 rcases gG fb.ok with rfl|⟨c,rfl⟩|⟨i,rfl⟩|⟨s,rfl⟩|⟨t,ts,rfl⟩|⟨kts,rfl⟩
 ·exact⟨rfl,_,rfl,aN q⟩
 ·exact⟨rfl,_,rfl,aN q⟩
 ·exact⟨rfl,_,rfl,aN q⟩
 ·exact⟨rfl,_,rfl,aN q⟩
 ·cases t with
  |false=>exact⟨rfl,_,rfl,aN q⟩
  |true=>
   cases ts with
   |nil=>exact⟨rfl,_,rfl,aX ⟨_,rfl,aN q⟩⟩
   |cons a l=>
    refine⟨rfl,_,rfl,aX ⟨_,rfl,dX (λz=>absurd z (by simp;omega)) λ_=>?_⟩⟩
    have q:R (bT (if L2.eqT a (sT "few")=true then oK (a::l) else(L2.eqT a (sT "make")&&oA (a::l)))):=q
    refine⟨_,eA (j:=0) rfl,"few",rfl,_,rfl,?_⟩
    cases ef:L2.eqT a (sT "few") with
    |true=>rw[ef,if_pos rfl]at q;exact aN ⟨_,rfl,fb,q⟩
    |false=>
     rw[ef,if_neg Bool.false_ne_true]at q
     refine aX ⟨_,eA (j:=0) rfl,"make",rfl,_,rfl,?_⟩
     cases em:L2.eqT a (sT "make") with
     |true=>rw[em,Bool.true_and]at q;exact aN ⟨_,rfl,fb,q⟩
     |false=>rw[em,Bool.false_and]at q;exact aX q
 ·exact⟨rfl,_,rfl,aN q⟩
end
end My
namespace My
open PySem L2 PyProof.Rows WordM
section
variable{P:Program}{w:World}{K:W.Frag}{mg:Str->Option Value}{base:Heap}
def gY:List Tv->Bool
 |[.leaf (.int a),.leaf (.int b),.leaf (.int c)]=>if a=b then decide (c=0) else(decide (a<b)&&(decide (1<=c)&&decide ((b-a) % c=0)))
 |_=>false
def zJL:Tv->Bool
 |.seq true L=>gY L
 |_=>false
theorem zFa{L:List Tv}(h:L.length≠3):gY L=false:=by
 match L,h with
 |[],_=>rfl
 |[_],_=>unfold gY;split<;>simp_all
 |[_,_],_=>unfold gY;split<;>simp_all
 |[_,_,_],h=>exact absurd rfl h
 |_::_::_::_::_,_=>unfold gY;split<;>simp_all
theorem zFb{L:List Tv}(h:L.all isW=false):gY L=false:=by
 unfold gY
 split
 ·simp[isW]at h
 ·rfl
def pV:PSp:=λas R=>∃U,as=[.va U]/\FlD 2 U/\R (bT (zJL U))
theorem g3_(h:Has K mg "is_run" s3_)(B:Own mg)(G0_:aG P w K mg base 1 "is_whole" ["thing"] mT)   : aG P w K mg base 2 "is_run" ["thing"] pV:=by
 refine h.pg1 ["thing","lo","hi","step"] (λnd hr=>
   (aE (bB (dG (dE (cS (bN (eM "tuple" hJ rfl B.isinstance (aB 0) (eK (v:=.ty "tuple") rfl B.tuple_ boot_tuple rfl)))) (dE (gX hr (bG cB rfl B.len PySem.boot_len (aA (aB 0) aC)) aD) (eL (cS (bN (bG (iJ rfl) rfl B.all boot_all (aA (bP (dO (sc:=aO s3_) (XN:=["thing","lo","hi","step"]) (N:=["part"]) (fr:=[]) (cQ (aB 0)) (λ_ _ _ _ _=>(aR G0_ hr (aA (aB 0) aC))))) aC))))))))
    (aH (aV cK))
    bA)
   (aE (aT 1 nd (aU hr (aB 0) aD))
   (aE (aT 2 nd (aU hr (aB 0) aD))
   (aE (aT 3 nd (aU hr (aB 0) aD))
   (aE (bB (bV hr (aB 1) (aB 2))
    (aH (aV (dF (gW hr.units).op (aB 3) aD)))
    bA)
   (aH (aV (cR (dF (iO).op (aB 1) (aB 2)) (cR (dF (qU).op (aB 3) aD) (dN (dF (gW hr.units).op (aL lH (aL gU (aB 2) (aB 1)) (aB 3)) aD)))))))))))) (λas R q=>?_)
 obtain⟨U,rfl,fb,q⟩:=q
 rcases gG fb.ok with rfl|⟨c,rfl⟩|⟨i,rfl⟩|⟨s,rfl⟩|⟨t,L,rfl⟩|⟨kts,rfl⟩
 ·exact⟨rfl,_,rfl,aN q⟩
 ·exact⟨rfl,_,rfl,aN q⟩
 ·exact⟨rfl,_,rfl,aN q⟩
 ·exact⟨rfl,_,rfl,aN q⟩
 ·cases t with
  |false=>exact⟨rfl,_,rfl,aN q⟩
  |true=>
   have q:R (bT (gY L)):=q
   have fl:L.length<=100/\∀x∈L,FlD 1 x:=fb
   refine⟨rfl,_,rfl,aX ⟨_,rfl,?_⟩⟩
   by_cases l3:L.length=3
   ·match L,l3 with
    |[x,y,z],_=>
     refine aX ⟨by simp,iY (λx=>bT (isW x)) (λx hx R q=>⟨x,rfl,(fl.2 x hx).ok,q⟩) ⟨[x,y,z].map isW,by rw[List.map_map];rfl,?_⟩⟩
     rw[List.all_map]
     cases w:[x,y,z].all isW with
     |false=>
      rw[zFb w]at q
      exact⟨_,rfl,by show if (!([x,y,z].all isW))=true then _ else _;rw[w];exact aN q⟩
     |true=>
      have w3:=w
      simp only[List.all_cons,List.all_nil,Bool.and_true,Bool.and_eq_true]at w3
      obtain⟨a,rfl⟩:=kE w3.1
      obtain⟨b,rfl⟩:=kE w3.2.1
      obtain⟨c,rfl⟩:=kE w3.2.2
      have q:R (bT (if a=b then decide (c=0) else(decide (a<b)&&(decide (1<=c)&&decide ((b-a) % c=0))))):=q
      refine⟨_,rfl,aX ⟨_,rfl,_,rfl,_,rfl,_,rfl,dX (λe=>?_) (λe=>⟨_,rfl,cT (λh1=>⟨_,rfl,cT (λh2=>?_) (λh2=>?_)⟩) (λh1=>?_)⟩)⟩⟩
      ·rw[if_pos e]at q
       have:(false != eqV (.int c) (.int 0))=decide (c=0):=by
        by_cases z:c=0
        ·subst z;rfl
        ·rw[decide_eq_false z];simpa[eqV]using z
       show R (bT (false != eqV (.int c) (.int 0)))
       rw[this];exact q
      ·rw[if_neg e,decide_eq_true h1,Bool.true_and,decide_eq_true h2,Bool.true_and]at q
       refine⟨by omega,?_⟩
       have:(false != eqV (.int ((b-a) % c)) (.int 0))=decide ((b-a) % c=0):=by
        by_cases z:(b-a) % c=0
        ·rw[z];rfl
        ·rw[decide_eq_false z];simpa[eqV]using z
       show R (bT (false != eqV (.int ((b-a) % c)) (.int 0)))
       rw[this];exact q
      ·rw[if_neg e,decide_eq_true h1,Bool.true_and,decide_eq_false h2,Bool.false_and]at q
       exact q
      ·rw[if_neg e,decide_eq_false h1,Bool.false_and]at q
       exact q
   ·rw[zFa l3]at q
    show if (true != eqV (.int (L.length:Nat)) (.int 3))=true then _ else _
    rw[show(true != eqV (.int (L.length:Nat)) (.int 3))=true by
     have:¬ ((L.length:Nat):Int)=3:=by omega
     simpa[eqV]using this]
    exact aN q
 ·exact⟨rfl,_,rfl,aN q⟩
def sH:Tv->Bool
 |.leaf (.bl b)=>b
 |_=>false
theorem zCg{T:Tv}(h:eG "bool" T=true):T=bT (sH T):=by
 cases T with
 |leaf v=>cases v<;>first|rfl|(simp[eG]at h)
 |seq t xs=>cases t<;>simp[eG]at h
 |dct k=>simp[eG]at h
def trW(ts:List Tv):Bool:=decide (ts≠[])&&(ts.all (λT=>eG "bool" T)&&nU (ts.map sH))
def trB:Tv->Bool
 |.seq true ts=>trW ts
 |_=>false
def oS:PSp:=λas R=>∃U,as=[.va U]/\FlD 2 U/\R (bT (trB U))
theorem zKR(h:Has K mg "are_truths" xK)(B:Own mg)(G4_:aG P w K mg base 1 "rises" ["things"] iD)   : aG P w K mg base 2 "are_truths" ["thing"] oS:=by
 refine h.pg1 ["thing"] (λnd hr=>
   (aE (bB (dG (dE (cS (bN (eM "tuple" hJ rfl B.isinstance (aB 0) (eK (v:=.ty "tuple") rfl B.tuple_ boot_tuple rfl)))) (eL (bV hr (bG cB rfl B.len PySem.boot_len (aA (aB 0) aC)) aD))))
    (aH (aV cK))
    bA)
   (aH (aV (cR (bG (iJ rfl) rfl B.all boot_all (aA (bP (dO (sc:=aO xK) (XN:=["thing"]) (N:=["truth"]) (fr:=[]) (cQ (aB 0)) (λ_ _ _ _ _=>(eM "bool" sO rfl B.isinstance (aB 0) (eK (v:=.ty "bool") rfl B.bool_ boot_bool rfl))))) aC)) (dN (aR G4_ hr (aA (aB 0) aC)))))))) (λas R q=>?_)
 obtain⟨U,rfl,fb,q⟩:=q
 rcases gG fb.ok with rfl|⟨c,rfl⟩|⟨i,rfl⟩|⟨s,rfl⟩|⟨t,L,rfl⟩|⟨kts,rfl⟩
 ·exact⟨rfl,_,rfl,aN q⟩
 ·exact⟨rfl,_,rfl,aN q⟩
 ·exact⟨rfl,_,rfl,aN q⟩
 ·exact⟨rfl,_,rfl,aN q⟩
 ·cases t with
  |false=>exact⟨rfl,_,rfl,aN q⟩
  |true=>
   have fl:L.length<=100/\∀x∈L,FlD 1 x:=fb
   have q:R (bT (trW L)):=q
   refine⟨rfl,_,rfl,aX ⟨_,rfl,?_⟩⟩
   cases L with
   |nil=>exact aN q
   |cons x ts=>
    unfold trW at q
    rw[decide_eq_true (by simp),Bool.true_and]at q
    refine dX (λz=>absurd z (by simp;omega)) λ_=>?_
    refine⟨by omega,iY (λx=>bT (eG "bool" x)) (λx hx R q=>q) ⟨(x::ts).map (eG "bool"),by rw[List.map_map];rfl,?_⟩⟩
    rw[List.all_map]
    refine⟨_,rfl,sif (λh3=>?_) (λh3=>?_)⟩
    ·have h3:((x::ts).all λT=>eG "bool" T)=true:=h3
     rw[h3,Bool.true_and]at q
     refine .inr (.inr ⟨true,_,?_,by rw[List.length_map];omega,q⟩)
     rw[List.map_map]
     exact congrArg (λl=>[Ar.va (Tv.seq true l)]) ((List.map_id _).symm.trans (List.map_congr_left λT hT=>zCg (List.all_eq_true.mp h3 T hT)))
    ·have h3:((x::ts).all λT=>eG "bool" T)=false:=h3
     rw[h3,Bool.false_and]at q
     exact q
 ·exact⟨rfl,_,rfl,aN q⟩
def dL:Tv->Tv->Bool
 |.leaf (.int a),.leaf (.int b)=>decide (0<=a)&&decide (a<=b)
 |_,_=>false
theorem zIA{U V:Tv}(h:isW U=false):dL U V=false:=by
 unfold dL
 split
 ·cases h
 ·rfl
theorem zIz{U V:Tv}(h:isW V=false):dL U V=false:=by
 unfold dL
 split
 ·cases h
 ·rfl
def kX:PSp:=λas R=>∃U V,as=[.va U,.va V]/\okU U/\okU V/\R (bT (dL U V))
theorem zKQ(h:Has K mg "are_bounds" zCy)(B:Own mg)(G0_:aG P w K mg base 1 "is_whole" ["thing"] mT)   : aG P w K mg base 2 "are_bounds" ["least","most"] kX:=by
 refine h.pg2 ["least","most"] (λnd hr=>
   (aH (aV (cR (aR G0_ hr (aA (aB 0) aC)) (cR (aR G0_ hr (aA (aB 1) aC)) (dN (pE iP iP aD (aB 0) (aB 1)))))))) (λas R q=>?_)
 obtain⟨U,V,rfl,fu,fv,q⟩:=q
 refine⟨rfl,U,rfl,fu,_,rfl,?_⟩
 cases wl:isW U with
 |false=>rw[zIA wl]at q;exact aX q
 |true=>
  refine aN ⟨V,rfl,fv,_,rfl,?_⟩
  cases wh:isW V with
  |false=>rw[zIz wh]at q;exact aX q
  |true=>
   obtain⟨a,rfl⟩:=kE wl
   obtain⟨b,rfl⟩:=kE wh
   have q:R (bT (decide (0<=a)&&decide (a<=b))):=q
   refine aN ⟨_,rfl,cT (λh1=>?_) (λh1=>?_)⟩
   ·rw[decide_eq_true h1,Bool.true_and]at q;exact q
   ·rw[decide_eq_false h1,Bool.false_and]at q;exact q
end
end My
namespace My
open PySem L2 PyProof.Rows WordM
section
variable{P:Program}{w:World}{K:W.Frag}{mg:Str->Option Value}{base:Heap}
def tl:Nat->Int->Int->Int->Int->Int->Int->Int->Int
 |0,_,_,_,_,many,_,_=>many
 |k+1,n,lo,hi,most,many,power,len=>
  if len<=hi then(if most<=many+power then most else tl k n lo hi most (if lo<=len then many+power else many) (power*n) (len+1)) else many
def uE:PSp:=λas R=>∃(S:Str) (lo hi most:Int),as=[.va (sT S),.va (iT lo),.va (iT hi),.va (iT most)]/\2<=S.length/\S.length<=1000/\most<10 ^ 90/\R (iT (tl 400 S.length lo hi most 0 1 0))
theorem g9_(h:Has K mg "tails_many" s9_)(B:Own mg)    : aG P w K mg base 1 "tails_many" ["signs","shortest","longest","most"] uE:=by
 refine h.pg4 ["signs","shortest","longest","most","many","power","length"] (λnd hr=>
   (aE (aT 4 nd aD)
   (aE (aT 5 nd aD)
   (aE (aT 6 nd aD)
   (aE (jU PassesOwn.never (dA iP (aB 6) (aB 2))
    (aE (bB (dA qU (aL bC (aB 4) (aB 5)) (aB 3))
     (aH (aV (aB 3)))
     bA)
    (aE (bB (dA qU (aB 6) (aB 1))
     (aH (aT 4 nd (aL bC (aB 4) (aB 5))))
     bA)
    (aE (aT 5 nd (aL gK (aB 5) (bG cB rfl B.len PySem.boot_len (aA (aB 0) aC))))
    (aH (aT 6 nd (aL bC (aB 6) aD)))))))
   (aH (aV (aB 4)))))))) (λas R q=>?_)
 obtain⟨S,lo,hi,most,rfl,s2,s1,hm,q⟩:=q
 refine⟨rfl,λM ρ=>∃many power len:Int,ρ=[.va (sT S),.va (iT lo),.va (iT hi),.va (iT most),.va (iT many),.va (iT power),.va (iT len)]/\0<=many/\(2:Int) ^ (400-M)<=power/\1<=M/\M<=400/\R (iT (tl M S.length lo hi most many power len)),⟨400,0,1,0,rfl,by decide,by decide,by decide,by decide,q⟩,?_⟩
 rintro M _ ⟨many,power,len,rfl,m0,hp,M1,M4,q⟩
 obtain⟨M,rfl⟩:∃M',M=M'+1:=⟨M-1,by omega⟩
 rw[tl]at q
 refine⟨_,rfl,cT (λh1=>?_) (λh1=>?_)⟩
 ·rw[if_pos h1]at q
  refine⟨_,rfl,cT (λh2=>?_) (λh2=>?_)⟩
  ·rw[if_pos h2]at q;exact q
  ·rw[if_neg h2]at q
   have pm:power<10 ^ 90:=by omega
   have hM:400-(M+1)<300:=by
    refine Nat.lt_of_not_le λz=>?_
    have a:(2:Int) ^ 300<=2 ^ (400-(M+1)):=by exact_mod_cast Nat.pow_le_pow_right (n:=2) (by decide) z
    have b:(10:Int) ^ 90<2 ^ 300:=by decide
    omega
   have p0:0<power:=Int.lt_of_lt_of_le (Int.pow_pos (by decide)) hp
   have hp2:(2:Int) ^ (400-M)<=power*(S.length:Nat):=by
    have e:400-M=(400-(M+1))+1:=by omega
    rw[e,Int.pow_succ]
    exact Int.mul_le_mul hp (by omega) (by decide) (by omega)
   refine⟨_,rfl,cT (λh3=>?_) (λh3=>?_)⟩
   ·rw[if_pos h3]at q
    exact⟨by show S.length<=_;omega,.inr ⟨bJ (by omega) (by omega),bJ (by omega) (by omega)⟩,M,by omega,_,_,_,rfl,by omega,hp2,by omega,by omega,q⟩
   ·rw[if_neg h3]at q
    exact⟨by show S.length<=_;omega,.inr ⟨bJ (by omega) (by omega),bJ (by omega) (by omega)⟩,M,by omega,_,_,_,rfl,m0,hp2,by omega,by omega,q⟩
 ·rw[if_neg h1]at q
  exact q
def eV(ms:List Str):List Str:=ms.map λm=>(eO SGN m).getD ⟨#[]⟩
theorem zGW{m:Str}(h:m∈MK):eO SGN m=some ((eO SGN m).getD ⟨#[]⟩):=by
 simp only[MK,List.mem_cons,List.not_mem_nil,or_false]at h
 rcases h with rfl|rfl|rfl|rfl<;>rfl
theorem zGf{m:Str}(h:m∈MK):10<=(cs ((eO SGN m).getD ⟨#[]⟩)).length/\(cs ((eO SGN m).getD ⟨#[]⟩)).length<=40:=by
 simp only[MK,List.mem_cons,List.not_mem_nil,or_false]at h
 rcases h with rfl|rfl|rfl|rfl<;>decide +kernel
theorem pP:∀{ms:List Str},(∀m∈ms,m∈MK)->10*ms.length<=(bU (eV ms)).length/\(bU (eV ms)).length<=40*ms.length
 |[],_=>⟨Nat.le_refl _,Nat.le_refl _⟩
 |m::ms,h=>by
  have ih:=pP λx hx=>h x (List.mem_cons_of_mem _ hx)
  have o:=zGf (h m (List.mem_cons_self ..))
  have e:(bU (eV (m::ms))).length=(cs ((eO SGN m).getD ⟨#[]⟩)).length+(bU (eV ms)).length:=by
   show(bU (_::eV ms)).length=_
   simp[bU]
  rw[e,List.length_cons]
  omega
def sX:PSp:=λas R=>∃(t:Bool) (ms:List Str),as=[.va (.seq t (ms.map sT))]/\ms.length<=4/\(∀m∈ms,m∈MK)/\R (sT ⟨(bU (eV ms)).toArray⟩)
theorem zKU(h:Has K mg "signs_of" xL)(B:Own mg)(GSIGNS:oE K w.params mg "SIGNS" SGN)  : aG P w K mg base 1 "signs_of" ["marks"] sX:=by
 refine h.pg1 ["marks"] (λnd hr=>
   (aH (aV (gS PySem.F.slot_str_join PySem.F.type_str_join zA3 aI (aA (bP (dO (sc:=aO xL) (XN:=["marks"]) (N:=["mark"]) (fr:=[]) (cQ (aB 0)) (λ_ _ _ _ _=>(zBY GSIGNS rfl (aB 0))))) aC))))) (λas R q=>?_)
 obtain⟨t,ms,rfl,l4,hm,q⟩:=q
 refine⟨rfl,rfl,by rw[List.length_map];omega,iZ sT (λm=>sT ((eO SGN m).getD ⟨#[]⟩)) (λm hm' R q=>⟨m,_,rfl,zGW (hm m hm'),q⟩) ⟨eV ms,rfl,?_,?_,q⟩⟩
 ·unfold eV;rw[List.map_map];rfl
 ·have:=(pP hm).2;omega
def lU(lo hi:Int)(ms:List Str)(most:Int):Int:=tl 400 ((bU (eV ms)).length:Nat) lo hi most 0 1 0
def pU:PSp:=λas R=>∃(hd:Tv) (lo hi most:Int) (ms:List Str),as=[.va (.seq true [sT "make",hd,iT lo,iT hi,.seq true (ms.map sT)]),.va (iT most)]/\ms≠[]/\ms.length<=4/\(∀m∈ms,m∈MK)/\most<10 ^ 90/\R (iT (lU lo hi ms most))
theorem zKT(h:Has K mg "words_many" zCA)(B:Own mg)(G9_:aG P w K mg base 1 "tails_many" ["signs","shortest","longest","most"] uE)(G10_:aG P w K mg base 1 "signs_of" ["marks"] sX)   : aG P w K mg base 2 "words_many" ["words","most"] pU:=by
 refine h.pg2 ["words","most"] (λnd hr=>
   (aE (bB (bV hr (aU hr (aB 0) aD) aI)
    (aH (aV (bG (nC rfl) rfl B.min boot_min (aA (bG cB rfl B.len PySem.boot_len (aA (aU hr (aB 0) aD) aC)) (aA (aB 1) aC)))))
    bA)
   (aH (aV (aR G9_ hr (aA (aR G10_ hr (aA (aU hr (aB 0) aD) aC)) (aA (aU hr (aB 0) aD) (aA (aU hr (aB 0) aD) (aA (aB 1) aC))))))))) (λas R q=>?_)
 obtain⟨hd,lo,hi,most,ms,rfl,n0,l4,hm,h9,q⟩:=q
 have sl:=pP hm
 have p:0<ms.length:=List.length_pos_iff.mpr n0
 refine⟨rfl,_,rfl,_,rfl,bZ (λe=>absurd e (by decide +kernel)) λ_=>⟨_,rfl,true,ms,rfl,l4,hm,_,rfl,_,rfl,⟨(bU (eV ms)).toArray⟩,lo,hi,most,rfl,?_,?_,h9,q⟩⟩
 ·show 2<=(bU (eV ms)).length;omega
 ·show(bU (eV ms)).length<=_;omega
end
end My
namespace My
open PySem L2 PyProof.Rows WordM
section
variable{P:Program}{w:World}{K:W.Frag}{mg:Str->Option Value}{base:Heap}
def FlE:Nat->Tv->Prop
 |0,_=>False
 |_+1,.leaf v=>dB v=true/\(∀s,v=.str s->s.length<=1000)/\∀i,v=.int i->i<10 ^ 90
 |n+1,.seq _ l=>l.length<=100/\(∀x∈l,FlE n x)/\∀a b f,l=[a,b,iT 0,f]->∀kts,f≠.dct kts
 |_+1,.dct _=>True
theorem FlE.up:∀{n:Nat}{U:Tv},FlE n U->FlE (n+1) U
 |0,_,h=>False.elim h
 |n+1,.leaf v,h=>h
 |n+1,.seq _ l,h=>⟨h.1,λx hx=>(h.2.1 x hx).up,h.2.2⟩
 |n+1,.dct _,_=>trivial
theorem FlE.le{n m:Nat}{U:Tv}(h:n<=m)(f:FlE n U):FlE m U:=by
 induction m with
 |zero=>rw[Nat.le_zero.mp h]at f;exact f
 |succ m ih=>
  rcases Nat.lt_or_eq_of_le h with z|z
  ·exact(ih (by omega)).up
  ·rw[<-z];exact f
theorem FlE.fld:∀{n j:Nat}{U:Tv},FlE n U->FlD j U
 |0,_,_,h=>False.elim h
 |n+1,0,_,_=>trivial
 |n+1,j+1,.leaf v,h=>⟨h.1,h.2.1⟩
 |n+1,j+1,.seq _ l,h=>⟨h.1,λx hx=>(h.2.1 x hx).fld⟩
 |n+1,j+1,.dct _,_=>trivial
variable{k:Nat}
def eD(fm:Tv->Bool)(U:Tv):Bool:=fm U&&(match U with|.seq true []=>false|_=>true)
def KNS:List Str:=["nothing","truth","number","text","list","dict"]
def nF(k:Nat)(fm:Tv->Bool):PSp:=λas R=>∃U,as=[.va U]/\FlE (2*k) U/\R (bT (fm U))
def Tup(fm:Tv->Bool):Prop:=∀U,fm U=true->∃l,U=.seq true l
variable{fm:Tv->Bool}{L:Nat}
def qL(k:Nat)(fm:Tv->Bool):PSp:=λas R=>∃U,as=[.va U]/\FlE (2*k) U/\R (bT (eD fm U))
theorem zKP(h:Has K mg "lets_some_by" xJ)(B:Own mg)(G22_:aG P w K mg base (L+6) "is_form" ["thing"] (nF k fm))(tp:Tup fm):aG P w K mg base (L+7) "lets_some_by" ["thing"] (qL k fm):=by
 refine h.pg1 ["thing"] (λnd hr=>
   (aH (aV (cR (aR G22_ hr (aA (aB 0) aC)) (dN (dF (vW hr.units).op (aB 0) (bI aC))))))) (λas R q=>?_)
 obtain⟨U,rfl,fu,q⟩:=q
 refine⟨rfl,U,rfl,fu,_,rfl,?_⟩
 cases e:fm U with
 |false=>
  unfold eD at q
  rw[e,Bool.false_and]at q
  exact aX q
 |true=>
  obtain⟨l,rfl⟩:=tp U e
  unfold eD at q
  rw[e,Bool.true_and]at q
  refine aN ⟨by simp,.inr (.inl rfl),?_⟩
  cases l with
  |nil=>exact q
  |cons x l=>exact q
def mG:Tv->Bool
 |.seq true []=>true
 |_=>false
def nQ:Tv->Bool
 |.leaf (.int i)=>decide (i=0)
 |_=>false
def qQ(fm:Tv->Bool):List Tv->Bool
 |[_,lo,hi,f]=>dL lo hi&&(if nQ hi then mG f else eD fm f)
 |_=>false
theorem zDW{l:List Tv}(h:l.length≠4):qQ fm l=false:=by
 match l,h with
 |[],_=>rfl
 |[_],_=>rfl
 |[_,_],_=>rfl
 |[_,_,_],_=>rfl
 |[_,_,_,_],h=>exact absurd rfl h
 |_::_::_::_::_::_,_=>rfl
theorem qN{l:List Tv}{m:Nat}(h:l.length≠m):(true != eqV (.int (l.length:Nat)) (.int (m:Nat)))=true:=by
 have:¬ ((l.length:Nat):Int)=(m:Nat):=by omega
 simpa[eqV]using this
theorem uQ{U V:Tv}(h:dL U V=true):∃a b,U=iT a/\V=iT b/\0<=a/\a<=b:=by
 unfold dL at h
 split at h
 ·simp only[Bool.and_eq_true,decide_eq_true_iff]at h
  exact⟨_,_,rfl,rfl,h.1,h.2⟩
 ·cases h
theorem zBi(i:Int):(false != eqV (.int i) (.int 0))=decide (i=0):=by
 by_cases z:i=0
 ·subst z;rfl
 ·rw[decide_eq_false z];simpa[eqV]using z
def zAW(k:Nat)(fm:Tv->Bool):PSp:=λas R=>∃l,as=[.va (.seq true l)]/\FlE (2*k+1) (.seq true l)/\R (bT (qQ fm l))
theorem zKO(h:Has K mg "is_lists" xI)(B:Own mg)(G14_:aG P w K mg base 2 "are_bounds" ["least","most"] kX)(G15_:aG P w K mg base (L+7) "lets_some_by" ["thing"] (qL k fm))   : aG P w K mg base (L+8) "is_lists" ["thing"] (zAW k fm):=by
 refine h.pg1 ["thing"] (λnd hr=>
   (aE (bB (dG (dE (gX hr (bG cB rfl B.len PySem.boot_len (aA (aB 0) aC)) aD) (eL (cS (bN (aR G14_ hr (aA (aU hr (aB 0) aD) (aA (aU hr (aB 0) aD) aC))))))))
    (aH (aV cK))
    bA)
   (aH (aV (zY (bV hr (aU hr (aB 0) aD) aD) (dF (gW hr.units).op (aU hr (aB 0) aD) (bI aC)) (aR G15_ hr (aA (aU hr (aB 0) aD) aC))))))) (λas R q=>?_)
 obtain⟨l,rfl,fl,q⟩:=q
 by_cases l4:l.length=4
 ·match l,l4 with
  |[w,lo,hi,f],_=>
   have flo:FlE (2*k) lo:=fl.2.1 lo (by simp)
   have fhi:FlE (2*k) hi:=fl.2.1 hi (by simp)
   have ff:FlE (2*k) f:=fl.2.1 f (by simp)
   have q2:R (bT (dL lo hi&&(if nQ hi then mG f else eD fm f))):=q
   refine⟨rfl,_,rfl,aX ⟨_,rfl,_,rfl,lo,hi,rfl,(flo.fld (j:=1)).ok,(fhi.fld (j:=1)).ok,_,rfl,?_⟩⟩
   cases bb:dL lo hi with
   |false=>rw[bb,Bool.false_and]at q2;exact aN q2
   |true=>
    rw[bb,Bool.true_and]at q2
    obtain⟨a,b,rfl,rfl,a0,ab⟩:=uQ bb
    refine aX ⟨_,rfl,_,rfl,?_⟩
    have q3:R (bT (if decide (b=0) then mG f else eD fm f)):=q2
    rw[zBi]
    by_cases z:b=0
    ·rw[decide_eq_true z,if_pos rfl]at q3
     rw[decide_eq_true z]
     subst z
     refine aN ⟨_,rfl,by simp,?_⟩
     cases f with
     |leaf v=>exact q3
     |dct kts=>exact absurd rfl (fl.2.2 w (iT a) _ rfl kts)
     |seq t xs=>
      refine⟨.inr (.inl rfl),?_⟩
      show R (bT (false != ((t==true)&&cX xs [])))
      have e:(false != ((t==true)&&cX xs []))=mG (.seq t xs):=by
       cases t<;>cases xs<;>simp[cX,mG]
      rw[e];exact q3
    ·rw[decide_eq_false z,if_neg Bool.false_ne_true]at q3
     rw[decide_eq_false z]
     exact aX ⟨_,rfl,f,rfl,ff,q3⟩
 ·rw[zDW l4]at q
  refine⟨rfl,_,rfl,?_⟩
  show if (true != eqV (.int (l.length:Nat)) (.int (4:Nat)))=true then _ else _
  rw[qN l4]
  exact aN q
def fR(fm:Tv->Bool):Tv->Bool
 |.seq true [n,m,f]=>txB n&&(eG "bool" m&&eD fm f)
 |_=>false
def zAX(k:Nat)(fm:Tv->Bool):PSp:=λas R=>∃U,as=[.va U]/\FlE (2*k+1) U/\R (bT (fR fm U))
theorem zKN(h:Has K mg "is_field" xH)(B:Own mg)(G15_:aG P w K mg base (L+7) "lets_some_by" ["thing"] (qL k fm))(G2_:aG P w K mg base 2 "is_text" ["thing"] kW)   : aG P w K mg base (L+8) "is_field" ["thing"] (zAX k fm):=by
 refine h.pg1 ["thing"] (λnd hr=>
   (aE (bB (dG (dE (cS (bN (eM "tuple" hJ rfl B.isinstance (aB 0) (eK (v:=.ty "tuple") rfl B.tuple_ boot_tuple rfl)))) (eL (gX hr (bG cB rfl B.len PySem.boot_len (aA (aB 0) aC)) aD))))
    (aH (aV cK))
    bA)
   (aH (aV (cR (aR G2_ hr (aA (aU hr (aB 0) aD) aC)) (cR (eM "bool" sO rfl B.isinstance (aU hr (aB 0) aD) (eK (v:=.ty "bool") rfl B.bool_ boot_bool rfl)) (dN (aR G15_ hr (aA (aU hr (aB 0) aD) aC))))))))) (λas R q=>?_)
 obtain⟨U,rfl,fb,q⟩:=q
 rcases gG (fb.fld (j:=1)).ok with rfl|⟨c,rfl⟩|⟨i,rfl⟩|⟨s,rfl⟩|⟨t,l,rfl⟩|⟨kts,rfl⟩
 ·exact⟨rfl,_,rfl,aN q⟩
 ·exact⟨rfl,_,rfl,aN q⟩
 ·exact⟨rfl,_,rfl,aN q⟩
 ·exact⟨rfl,_,rfl,aN q⟩
 ·cases t with
  |false=>exact⟨rfl,_,rfl,aN q⟩
  |true=>
   by_cases l3:l.length=3
   ·match l,l3 with
    |[n,m,f],_=>
     have fn:FlE (2*k) n:=fb.2.1 n (by simp)
     have ff:FlE (2*k) f:=fb.2.1 f (by simp)
     have q:R (bT (txB n&&(eG "bool" m&&eD fm f))):=q
     refine⟨rfl,_,rfl,aX ⟨_,rfl,aX ⟨_,rfl,n,rfl,(fn.fld (j:=1)).ok,(fn.fld (j:=1)).tx,_,rfl,?_⟩⟩⟩
     cases tn:txB n with
     |false=>rw[tn,Bool.false_and]at q;exact aX q
     |true=>
      rw[tn,Bool.true_and]at q
      refine aN ⟨_,rfl,_,rfl,?_⟩
      cases tm:eG "bool" m with
      |false=>rw[tm,Bool.false_and]at q;exact aX q
      |true=>
       rw[tm,Bool.true_and]at q
       exact aN ⟨_,rfl,f,rfl,ff,q⟩
   ·have e:fR fm (.seq true l)=false:=by
     match l,l3 with
     |[],_=>rfl
     |[_],_=>rfl
     |[_,_],_=>rfl
     |[_,_,_],h=>exact absurd rfl h
     |_::_::_::_::_,_=>rfl
    rw[e]at q
    refine⟨rfl,_,rfl,aX ⟨_,rfl,?_⟩⟩
    show if (true != eqV (.int (l.length:Nat)) (.int (3:Nat)))=true then _ else _
    rw[qN l3]
    exact aN q
 ·exact⟨rfl,_,rfl,aN q⟩
def kP:Tv->Tv
 |.seq _ (n::_)=>n
 |_=>nT
def jA(fm:Tv->Bool):Tv->Bool
 |.seq true fs=>decide (fs.length<=8)&&(fs.all (fR fm)&&eN (fs.map λf=>cF (kP f)))
 |_=>false
theorem zAt{U:Tv}(h:fR fm U=true):∃n m f,U=.seq true [sT n,m,f]:=by
 unfold fR at h
 split at h
 ·rename_i n m f
  exact⟨cF n,m,f,by rw[<-zAI (Bool.and_eq_true_iff.mp h).1]⟩
 ·cases h
def zAd(k:Nat)(fm:Tv->Bool):PSp:=λas R=>∃U,as=[.va U]/\FlE (2*k+2) U/\R (bT (jA fm U))
theorem zKM(h:Has K mg "are_fields" oH)(B:Own mg)(G4_:aG P w K mg base 1 "rises" ["things"] iD)(G17_:aG P w K mg base (L+8) "is_field" ["thing"] (zAX k fm))(GMOST_FIELDS:fT K mg "MOST_FIELDS" (iT 8))  : aG P w K mg base (L+9) "are_fields" ["thing"] (zAd k fm):=by
 refine h.pg1 ["thing"] (λnd hr=>
   (aE (bB (dG (dE (cS (bN (eM "tuple" hJ rfl B.isinstance (aB 0) (eK (v:=.ty "tuple") rfl B.tuple_ boot_tuple rfl)))) (eL (dA vY (bG cB rfl B.len PySem.boot_len (aA (aB 0) aC)) (nR GMOST_FIELDS rfl)))))
    (aH (aV cK))
    bA)
   (aH (aV (cR (bG (iJ rfl) rfl B.all boot_all (aA (bP (dO (sc:=aO oH) (XN:=["thing"]) (N:=["field"]) (fr:=[]) (cQ (aB 0)) (λ_ _ _ _ _=>(aR G17_ hr (aA (aB 0) aC))))) aC)) (dN (aR G4_ hr (aA (bP (dO (sc:=aO oH) (XN:=["thing"]) (N:=["field"]) (fr:=[]) (cQ (aB 0)) (λ_ _ _ _ _=>(aU hr (aB 0) aD)))) aC)))))))) (λas R q=>?_)
 obtain⟨U,rfl,fb,q⟩:=q
 rcases gG (fb.fld (j:=1)).ok with rfl|⟨c,rfl⟩|⟨i,rfl⟩|⟨s,rfl⟩|⟨t,fs,rfl⟩|⟨kts,rfl⟩
 ·exact⟨rfl,_,rfl,aN q⟩
 ·exact⟨rfl,_,rfl,aN q⟩
 ·exact⟨rfl,_,rfl,aN q⟩
 ·exact⟨rfl,_,rfl,aN q⟩
 ·cases t with
  |false=>exact⟨rfl,_,rfl,aN q⟩
  |true=>
   have q:R (bT (decide (fs.length<=8)&&(fs.all (fR fm)&&eN (fs.map λf=>cF (kP f))))):=q
   refine⟨rfl,_,rfl,aX ⟨_,rfl,cT (λh8=>?_) (λh8=>?_)⟩⟩
   ·have h8':¬ fs.length<=8:=by have h8:(8:Int)<(fs.length:Nat):=h8;omega
    rw[decide_eq_false h8',Bool.false_and]at q
    exact q
   ·have h8':fs.length<=8:=by have h8:¬ (8:Int)<(fs.length:Nat):=h8;omega
    rw[decide_eq_true h8',Bool.true_and]at q
    refine⟨by omega,iY (λf=>bT (fR fm f)) (λf hf R q=>⟨f,rfl,fb.2.1 f hf,q⟩) ⟨fs.map (fR fm),by rw[List.map_map];rfl,?_⟩⟩
    rw[List.all_map]
    refine⟨_,rfl,sif (λh3=>?_) (λh3=>?_)⟩
    ·have h3:fs.all (fR fm)=true:=h3
     rw[h3,Bool.true_and]at q
     have h3:=List.all_eq_true.mp h3
     refine⟨by omega,iY kP (λf hf R q=>?_) ?_⟩
     ·obtain⟨n,m,g,rfl⟩:=zAt (h3 f hf)
      exact⟨_,rfl,q⟩
     ·refine .inl ⟨false,fs.map λf=>cF (kP f),?_,by rw[List.length_map];omega,q⟩
      rw[List.map_map]
      refine congrArg (λl=>[Ar.va (Tv.seq false l)]) (List.map_congr_left λf hf=>?_)
      obtain⟨n,m,g,rfl⟩:=zAt (h3 f hf)
      rfl
    ·have h3:fs.all (fR fm)=false:=h3
     rw[h3,Bool.false_and]at q
     exact q
 ·exact⟨rfl,_,rfl,aN q⟩
end
end My
namespace My
open PySem L2 PyProof.Rows WordM
section
variable{P:Program}{w:World}{K:W.Frag}{mg:Str->Option Value}{base:Heap}
variable{k L:Nat}{fm:Tv->Bool}
theorem nxE{N:aQ->Prop}{ρ ρ':aQ}(e:ρ=ρ')(h:N ρ'):N ρ:=e▸h
def gC:Tv->Bool
 |.seq _ (_::m::_)=>sH m
 |_=>false
def sA(lo hi:Tv)(F:List Tv):Bool:=match lo,hi with
 |.leaf (.int a),.leaf (.int b)=>
  let m:Int:=((F.filter gC).length:Nat)
  let n:Int:=(F.length:Nat)
  if m<n/\(a=n\/b=m) then false else decide (m<=a)&&decide (b<=n)
 |_,_=>false
def zCC(lo hi:Tv):Tv->Bool
 |.seq _ F=>sA lo hi F
 |_=>false
def sB(fm:Tv->Bool):List Tv->Bool
 |[_,lo,hi,fs]=>dL lo hi&&(jA fm fs&&zCC lo hi fs)
 |_=>false
theorem zFc{l:List Tv}(h:l.length≠4):sB fm l=false:=by
 match l,h with
 |[],_=>rfl
 |[_],_=>rfl
 |[_,_],_=>rfl
 |[_,_,_],_=>rfl
 |[_,_,_,_],h=>exact absurd rfl h
 |_::_::_::_::_::_,_=>rfl
theorem zD0{U:Tv}(h:jA fm U=true):∃F,U=.seq true F/\F.length<=8/\∀f∈F,∃n b g,f=.seq true [n,bT b,g]:=by
 unfold jA at h
 split at h
 ·rename_i fs
  have h1:=Bool.and_eq_true_iff.mp h
  have h2:=Bool.and_eq_true_iff.mp h1.2
  refine⟨_,rfl,of_decide_eq_true h1.1,λf hf=>?_⟩
  have hf:=List.all_eq_true.mp h2.1 f hf
  unfold fR at hf
  split at hf
  ·rename_i n m g _
   have e:=Bool.and_eq_true_iff.mp hf
   have e:=Bool.and_eq_true_iff.mp e.2
   exact⟨n,sH m,g,by rw[<-zCg e.1]⟩
  ·cases hf
 ·cases h
def zAc(k:Nat)(fm:Tv->Bool):PSp:=λas R=>∃l,as=[.va (.seq true l)]/\FlE (2*k+1) (.seq true l)/\R (bT (sB fm l))
theorem zKL(h:Has K mg "is_record" rZ)(B:Own mg)(G18_:aG P w K mg base (L+9) "are_fields" ["thing"] (zAd k fm))(G14_:aG P w K mg base 2 "are_bounds" ["least","most"] kX)   : aG P w K mg base (L+10) "is_record" ["thing"] (zAc k fm):=by
 refine h.pg1 ["thing","least","most","names","musts"] (λnd hr=>
   (aE (bB (dG (dE (gX hr (bG cB rfl B.len PySem.boot_len (aA (aB 0) aC)) aD) (dE (cS (bN (aR G14_ hr (aA (aU hr (aB 0) aD) (aA (aU hr (aB 0) aD) aC))))) (eL (cS (bN (aR G18_ hr (aA (aU hr (aB 0) aD) aC))))))))
    (aH (aV cK))
    bA)
   (aE (aT 1 nd (aU hr (aB 0) aD))
   (aE (aT 2 nd (aU hr (aB 0) aD))
   (aE (aT 3 nd (bG cB rfl B.len PySem.boot_len (aA (aU hr (aB 0) aD) aC)))
   (aE (aT 4 nd (bG cB rfl B.len PySem.boot_len (aA (bP (vR (sc:=aO rZ) (XN:=["thing","least","most","names","musts"]) (N:=["field"]) (fr:=[]) (cQ (aU hr (aB 0) aD)) (λ_ _ _ _ _=>(uU (bN (aU hr (aB 0) aD)))) (λ_ _ _ _ _=>(aB 0)))) aC)))
   (aE (bB (dG (lD (dA iO (aB 4) (aB 3)) (mP (dG (dE (bV hr (aB 1) (aB 3)) (eL (bV hr (aB 2) (aB 4))))))))
    (aH (aV cK))
    bA)
   (aH (aV (cR (dF (iP).op (aB 4) (aB 1)) (dN (dF (iP).op (aB 2) (aB 3))))))))))))) (λas R q=>?_)
 obtain⟨l,rfl,fl,q⟩:=q
 by_cases l4:l.length=4
 ·match l,l4 with
  |[w,lo,hi,fs],_=>
   have flo:FlE (2*k) lo:=fl.2.1 lo (by simp)
   have fhi:FlE (2*k) hi:=fl.2.1 hi (by simp)
   have ff:FlE (2*k+2) fs:=(fl.2.1 fs (by simp)).le (by omega)
   have q2:R (bT (dL lo hi&&(jA fm fs&&zCC lo hi fs))):=q
   refine⟨rfl,_,rfl,aX ⟨_,rfl,_,rfl,lo,hi,rfl,(flo.fld (j:=1)).ok,(fhi.fld (j:=1)).ok,_,rfl,?_⟩⟩
   cases bb:dL lo hi with
   |false=>rw[bb,Bool.false_and]at q2;exact aN q2
   |true=>
    rw[bb,Bool.true_and]at q2
    obtain⟨a,b,rfl,rfl,a0,ab⟩:=uQ bb
    refine aX ⟨_,rfl,fs,rfl,ff,_,rfl,?_⟩
    cases ef:jA fm fs with
    |false=>rw[ef,Bool.false_and]at q2;exact aN q2
    |true=>
     rw[ef,Bool.true_and]at q2
     obtain⟨F,rfl,F8,hF⟩:=zD0 ef
     have q3:R (bT (sA (iT a) (iT b) F)):=q2
     refine aX ⟨_,rfl,_,rfl,_,rfl,_,rfl,by omega,pJ (λf=>if gC f=true then some f else none) (λf hf R q=>?_) ?_⟩
     ·obtain⟨n,c,g,rfl⟩:=hF f hf
      refine⟨_,rfl,_,rfl,?_⟩
      cases c
      ·exact aX q
      ·exact aN q
     show PEnds.nx _ _
     have ll:(F.filterMap λf=>if gC f=true then some f else none).length=(F.filter gC).length:=by
      generalize F=l
      induction l with
      |nil=>rfl
      |cons x l ih=>
       rw[List.filterMap_cons,List.filter_cons]
       cases gC x with
       |true=>rw[if_pos rfl,if_pos rfl];simpa using ih
       |false=>rw[if_neg Bool.false_ne_true,if_neg Bool.false_ne_true];exact ih
     rw[ll]
     refine nxE (ρ':=[.va (.seq true [w,iT a,iT b,.seq true F]),.va (iT a),.va (iT b),.va (iT (F.length:Nat)),.va (iT ((F.filter gC).length:Nat))]) rfl ?_
     generalize hm:(F.filter gC).length=m at ll
     have q4:R (bT (if ((m:Nat):Int)<(F.length:Nat)/\(a=(F.length:Nat)\/b=(m:Nat)) then false else decide (((m:Nat):Int)<=a)&&decide (b<=(F.length:Nat)))):=by
      rw[<-hm];exact q3
     refine⟨_,rfl,cT (λh1=>⟨_,rfl,dX (λh2=>?_) (λh2=>⟨_,rfl,dX (λh3=>?_) (λh3=>?_)⟩)⟩) (λh1=>?_)⟩
     ·rw[if_pos ⟨h1,.inl h2⟩]at q4;exact q4
     ·rw[if_pos ⟨h1,.inr h3⟩]at q4;exact q4
     ·rw[if_neg (λz=>z.2.elim h2 h3)]at q4
      exact⟨_,rfl,cT (λg=>by rw[decide_eq_true g,Bool.true_and]at q4;exact q4) (λg=>by rw[decide_eq_false g,Bool.false_and]at q4;exact q4)⟩
     ·rw[if_neg (λz=>h1 z.1)]at q4
      exact⟨_,rfl,cT (λg=>by rw[decide_eq_true g,Bool.true_and]at q4;exact q4) (λg=>by rw[decide_eq_false g,Bool.false_and]at q4;exact q4)⟩
 ·rw[zFc l4]at q
  refine⟨rfl,_,rfl,?_⟩
  show if (true != eqV (.int (l.length:Nat)) (.int (4:Nat)))=true then _ else _
  rw[qN l4]
  exact aN q
def lX:Tv->Tv->Bool
 |.leaf (.int b),.seq true [_,_,.leaf (.int lo),.leaf (.int hi),.seq true ms]=>decide (b≠0)&&decide (b<=lU lo hi (ms.map cF) b)
 |_,_=>false
theorem zEi{wd:Tv}:lX (iT 0) wd=false:=by
 unfold lX
 split
 ·rename_i b _ _ lo hi ms e
  have:b=0:=by cases e;rfl
  subst this;rfl
 ·rfl
def rK(fm:Tv->Bool):List Tv->Bool
 |[_,lo,hi,wd,f]=>dL lo hi&&(gO wd&&(lX hi wd&&eD fm f))
 |_=>false
theorem zE5{l:List Tv}(h:l.length≠5):rK fm l=false:=by
 match l,h with
 |[],_=>rfl
 |[_],_=>rfl
 |[_,_],_=>rfl
 |[_,_,_],_=>rfl
 |[_,_,_,_],_=>rfl
 |[_,_,_,_,_],h=>exact absurd rfl h
 |_::_::_::_::_::_::_,_=>rfl
theorem eC{a:Tv}{s:Str}(h:L2.eqT a (sT s)=true):a=sT s:=by
 cases a with
 |leaf v=>
  cases v with
  |str z=>simp[L2.eqT,eqV]at h;subst h;rfl
  |_=>simp[L2.eqT,eqV]at h
 |_=>simp[L2.eqT]at h
theorem zEb{U:Tv}(h:gO U=true):(∃b,U=.seq true [sT "few",b])\/∃hd lo hi ms,U=.seq true [sT "make",hd,iT lo,iT hi,.seq true (ms.map sT)]/\ms≠[]/\ms.length<=4/\∀m∈ms,m∈MK:=by
 unfold gO at h
 split at h
 ·rename_i a l
  split at h
  ·rename_i ef
   unfold oK at h
   split at h
   ·rename_i b e
    obtain⟨rfl,rfl⟩:=List.cons.inj e
    exact .inl ⟨b,by rw[eC ef]⟩
   ·cases h
  ·obtain⟨em,h2⟩:=Bool.and_eq_true_iff.mp h
   clear h
   unfold oA at h2
   split at h2
   ·rename_i hd lo hi ms e
    obtain⟨rfl,rfl⟩:=List.cons.inj e
    obtain⟨t1,t2⟩:=Bool.and_eq_true_iff.mp h2
    obtain⟨hm,hn⟩:=Bool.and_eq_true_iff.mp t2
    unfold kO at hn
    split at hn
    ·unfold kJ at hm
     split at hm
     ·rename_i ts
      obtain⟨n0,hm⟩:=Bool.and_eq_true_iff.mp hm
      obtain⟨am,rs⟩:=Bool.and_eq_true_iff.mp hm
      have mm:∀m∈ts.map cF,m∈MK:=λx hx=>by
       obtain⟨U,hU,rfl⟩:=List.mem_map.mp hx
       exact(zA8 (List.all_eq_true.mp am U hU)).2
      have nd:(ts.map cF).Nodup:=((mI _).mp rs).imp λh e=>zJg h e
      refine .inr ⟨hd,_,_,ts.map cF,by rw[eC em,<-zBp am],?_,WordM.nodup_len nd mm,mm⟩
      intro e
      exact of_decide_eq_true n0 (List.map_eq_nil_iff.mp e)
     ·cases hm
    ·cases hn
   ·cases h2
 ·cases h
theorem pO(ms:List Str):(ms.map sT).map cF=ms:=by
 rw[List.map_map];exact List.map_id ms
def zAV(k:Nat)(fm:Tv->Bool):PSp:=λas R=>∃l,as=[.va (.seq true l)]/\FlE (2*k+1) (.seq true l)/\R (bT (rK fm l))
theorem zKK(h:Has K mg "is_table" xG)(B:Own mg)(G8_:aG P w K mg base 4 "is_words" ["thing"] mN)(G14_:aG P w K mg base 2 "are_bounds" ["least","most"] kX)(G11_:aG P w K mg base 2 "words_many" ["words","most"] pU)(G15_:aG P w K mg base (L+7) "lets_some_by" ["thing"] (qL k fm))   : aG P w K mg base (L+8) "is_table" ["thing"] (zAV k fm):=by
 refine h.pg1 ["thing","most","make"] (λnd hr=>
   (aE (bB (dG (dE (gX hr (bG cB rfl B.len PySem.boot_len (aA (aB 0) aC)) aD) (dE (cS (bN (aR G14_ hr (aA (aU hr (aB 0) aD) (aA (aU hr (aB 0) aD) aC))))) (eL (cS (bN (aR G8_ hr (aA (aU hr (aB 0) aD) aC))))))))
    (aH (aV cK))
    bA)
   (aE (aT 1 nd (aU hr (aB 0) aD))
   (aE (aT 2 nd (aU hr (aB 0) aD))
   (aE (bB (dG (dE (bV hr (aB 1) aD) (dE (gX hr (aU hr (aB 2) aD) aI) (eL (dA iO (aR G11_ hr (aA (aB 2) (aA (aB 1) aC))) (aB 1))))))
    (aH (aV cK))
    bA)
   (aH (aV (aR G15_ hr (aA (aU hr (aB 0) aD) aC))))))))) (λas R q=>?_)
 obtain⟨l,rfl,fl,q⟩:=q
 by_cases l5:l.length=5
 ·match l,l5 with
  |[w,lo,hi,wd,f],_=>
   have flo:FlE (2*k) lo:=fl.2.1 lo (by simp)
   have fhi:FlE (2*k) hi:=fl.2.1 hi (by simp)
   have fw:FlE (2*k) wd:=fl.2.1 wd (by simp)
   have ff:FlE (2*k) f:=fl.2.1 f (by simp)
   have q2:R (bT (dL lo hi&&(gO wd&&(lX hi wd&&eD fm f)))):=q
   refine⟨rfl,_,rfl,aX ⟨_,rfl,_,rfl,lo,hi,rfl,(flo.fld (j:=1)).ok,(fhi.fld (j:=1)).ok,_,rfl,?_⟩⟩
   cases bb:dL lo hi with
   |false=>rw[bb,Bool.false_and]at q2;exact aN q2
   |true=>
    rw[bb,Bool.true_and]at q2
    obtain⟨a,b,rfl,rfl,a0,ab⟩:=uQ bb
    have b9:b<10 ^ 90:=by
     have:FlE (2*k) (iT b):=fhi
     cases hk:2*k with
     |zero=>rw[hk]at this;exact False.elim this
     |succ j=>rw[hk]at this;exact this.2.2 b rfl
    refine aX ⟨_,rfl,wd,rfl,fw.fld,_,rfl,?_⟩
    cases ew:gO wd with
    |false=>rw[ew,Bool.false_and]at q2;exact aN q2
    |true=>
     rw[ew,Bool.true_and]at q2
     refine aX ⟨_,rfl,_,rfl,_,rfl,?_⟩
     rw[zBi]
     by_cases z:b=0
     ·rw[decide_eq_true z]
      subst z
      have e:lX (iT 0) wd=false:=zEi
      rw[e,Bool.false_and]at q2
      exact aN q2
     ·rw[decide_eq_false z]
      rcases zEb ew with⟨x,rfl⟩|⟨hd,lo,hi,ms,rfl,n0,l4,hm⟩
      ·exact aX ⟨_,rfl,_,rfl,aN q2⟩
      ·have q3:R (bT (decide (b≠0)&&decide (b<=lU lo hi ((ms.map sT).map cF) b)&&eD fm f)):=q2
       rw[pO,decide_eq_true z,Bool.true_and]at q3
       refine aX ⟨_,rfl,_,rfl,aX ⟨hd,lo,hi,b,ms,rfl,n0,l4,hm,b9,_,rfl,cT (λh1=>?_) (λh1=>?_)⟩⟩
       ·rw[decide_eq_false (by omega),Bool.false_and]at q3
        exact q3
       ·rw[decide_eq_true (by omega),Bool.true_and]at q3
        exact⟨_,rfl,f,rfl,ff,q3⟩
 ·rw[zE5 l5]at q
  refine⟨rfl,_,rfl,?_⟩
  show if (true != eqV (.int (l.length:Nat)) (.int (5:Nat)))=true then _ else _
  rw[qN l5]
  exact aN q
end
end My
namespace My
open PySem L2 PyProof.Rows WordM
section
variable{P:Program}{w:World}{K:W.Frag}{mg:Str->Option Value}{base:Heap}
variable{k L:Nat}{fm:Tv->Bool}
theorem zG2{n:Nat}{t:Bool}{l:List Tv}{lo hi:Option Int}(h:FlD (n+1) (.seq t l)):FlD (n+1) (.seq t (fL l lo hi)):=⟨Nat.le_trans (zAy _ _ _) h.1,λx hx=>h.2 x (by unfold fL at hx;exact List.mem_of_mem_drop (List.mem_of_mem_take hx))⟩
theorem zFY(w:Tv)(l:List Tv):fL (w::l) (some 1) none=l:=by
 unfold fL
 have a:HT.sIx (w::l).length 0 (some 1)=1:=by unfold HT.sIx;simp
 have b:HT.sIx (w::l).length (w::l).length none=l.length+1:=by unfold HT.sIx;simp
 rw[a,b]
 show List.take (l.length+1-1) l=l
 rw[Nat.add_sub_cancel];exact List.take_length
def oI(g:Tv->Bool):List Tv->Bool
 |[x]=>g x
 |_=>false
def rA(fm:Tv->Bool)(w:Tv)(l:List Tv):Bool:=if L2.eqT w (sT "nothing")=true then decide (l.length=0) else if L2.eqT w (sT "truths")=true then oI trB l else if L2.eqT w (sT "numbers")=true then gY l else if L2.eqT w (sT "texts")=true then oI gO l else
  if L2.eqT w (sT "lists")=true then qQ fm (w::l) else if L2.eqT w (sT "record")=true then sB fm (w::l) else(L2.eqT w (sT "table")&&rK fm (w::l))
def dP(fm:Tv->Bool):Tv->Bool
 |.seq true (w::l)=>rA fm w l
 |_=>false
theorem zA7{g:Tv->Bool}{l:List Tv}(h:¬ l.length=1):oI g l=false:=by
 match l,h with
 |[],_=>rfl
 |[_],h=>exact absurd rfl h
 |_::_::_,_=>rfl
theorem vI(w:Tv)(l:List Tv)(n:Nat):(false != eqV (.int ((w::l).length:Nat)) (.int ((n+1:Nat):Int)))=decide (l.length=n):=by
 by_cases z:l.length=n
 ·rw[decide_eq_true z,List.length_cons,z];simp[eqV]
 ·rw[decide_eq_false z,List.length_cons];simp[eqV];omega
def zBJ(k:Nat)(fm:Tv->Bool):PSp:=λas R=>∃U,as=[.va U]/\FlE (2*k+1) U/\R (bT (dP fm U))
theorem zKJ(h:Has K mg "is_part" xF)(B:Own mg)(G13_:aG P w K mg base 2 "are_truths" ["thing"] oS)(G3_:aG P w K mg base 2 "is_run" ["thing"] pV)(G8_:aG P w K mg base 4 "is_words" ["thing"] mN)(G16_:aG P w K mg base (L+8) "is_lists" ["thing"] (zAW k fm))(G19_:aG P w K mg base (L+10) "is_record" ["thing"] (zAc k fm))(G20_:aG P w K mg base (L+8) "is_table" ["thing"] (zAV k fm))   : aG P w K mg base (L+11) "is_part" ["thing"] (zBJ k fm):=by
 refine h.pg1 ["thing"] (λnd hr=>
   (aE (bB (dG (dE (cS (bN (eM "tuple" hJ rfl B.isinstance (aB 0) (eK (v:=.ty "tuple") rfl B.tuple_ boot_tuple rfl)))) (eL (bV hr (bG cB rfl B.len PySem.boot_len (aA (aB 0) aC)) aD))))
    (aH (aV cK))
    bA)
   (aE (bB (dA (iI hr.units) (aU hr (aB 0) aD) aI)
    (aH (aV (dF (gW hr.units).op (bG cB rfl B.len PySem.boot_len (aA (aB 0) aC)) aD)))
    bA)
   (aE (bB (dA (iI hr.units) (aU hr (aB 0) aD) aI)
    (aH (aV (cR (dF (gW hr.units).op (bG cB rfl B.len PySem.boot_len (aA (aB 0) aC)) aD) (dN (aR G13_ hr (aA (aU hr (aB 0) aD) aC))))))
    bA)
   (aE (bB (dA (iI hr.units) (aU hr (aB 0) aD) aI)
    (aH (aV (aR G3_ hr (aA (mM nV (aB 0) (kA aD) tV) aC))))
    bA)
   (aE (bB (dA (iI hr.units) (aU hr (aB 0) aD) aI)
    (aH (aV (cR (dF (gW hr.units).op (bG cB rfl B.len PySem.boot_len (aA (aB 0) aC)) aD) (dN (aR G8_ hr (aA (aU hr (aB 0) aD) aC))))))
    bA)
   (aE (bB (dA (iI hr.units) (aU hr (aB 0) aD) aI)
    (aH (aV (aR G16_ hr (aA (aB 0) aC))))
    bA)
   (aE (bB (dA (iI hr.units) (aU hr (aB 0) aD) aI)
    (aH (aV (aR G19_ hr (aA (aB 0) aC))))
    bA)
   (aH (aV (cR (dF (iI hr.units).op (aU hr (aB 0) aD) aI) (dN (aR G20_ hr (aA (aB 0) aC)))))))))))))) (λas R q=>?_)
 obtain⟨U,rfl,fb,q⟩:=q
 rcases gG (fb.fld (j:=1)).ok with rfl|⟨c,rfl⟩|⟨i,rfl⟩|⟨s,rfl⟩|⟨t,l,rfl⟩|⟨kts,rfl⟩
 ·exact⟨rfl,_,rfl,aN q⟩
 ·exact⟨rfl,_,rfl,aN q⟩
 ·exact⟨rfl,_,rfl,aN q⟩
 ·exact⟨rfl,_,rfl,aN q⟩
 ·cases t with
  |false=>exact⟨rfl,_,rfl,aN q⟩
  |true=>
   cases l with
   |nil=>exact⟨rfl,_,rfl,aX ⟨_,rfl,aN q⟩⟩
   |cons w l=>
    have q:R (bT (rA fm w l)):=q
    unfold rA at q
    refine⟨rfl,_,rfl,aX ⟨_,rfl,dX (λz=>absurd z (by simp;omega)) λ_=>?_⟩⟩
    refine⟨_,eA (j:=0) rfl,"nothing",rfl,_,rfl,?_⟩
    cases e0:L2.eqT w (sT "nothing") with
    |true=>
     rw[e0,if_pos rfl]at q
     refine aN ?_
     show R (bT (false != eqV (.int ((w::l).length:Nat)) (.int ((0+1:Nat):Int))))
     rw[vI]
     exact q
    |false=>
     rw[e0,if_neg Bool.false_ne_true]at q
     refine aX ⟨_,eA (j:=0) rfl,"truths",rfl,_,rfl,?_⟩
     cases e1:L2.eqT w (sT "truths") with
     |true=>
      rw[e1,if_pos rfl]at q
      refine aN ⟨_,rfl,?_⟩
      show if (false != eqV (.int ((w::l).length:Nat)) (.int ((1+1:Nat):Int)))=true then _ else _
      rw[vI]
      refine cT (λh1=>?_) (λh1=>?_)
      ·match l,h1 with
       |[x],_=>exact⟨_,rfl,x,rfl,(fb.2.1 x (by simp)).fld,q⟩
      ·rw[zA7 h1]at q;exact q
     |false=>
      rw[e1,if_neg Bool.false_ne_true]at q
      refine aX ⟨_,eA (j:=0) rfl,"numbers",rfl,_,rfl,?_⟩
      cases e2:L2.eqT w (sT "numbers") with
      |true=>
       rw[e2,if_pos rfl]at q
       have cl:fL (w::l) (some 1) none=l:=by
        have:=zFY w l
        exact this
       refine aN ⟨1,rfl,_,rfl,?_,?_⟩
       ·exact zG2 (fb.fld (j:=2))
       ·rw[cl];exact q
      |false=>
       rw[e2,if_neg Bool.false_ne_true]at q
       refine aX ⟨_,eA (j:=0) rfl,"texts",rfl,_,rfl,?_⟩
       cases e3:L2.eqT w (sT "texts") with
       |true=>
        rw[e3,if_pos rfl]at q
        refine aN ⟨_,rfl,?_⟩
        show if (false != eqV (.int ((w::l).length:Nat)) (.int ((1+1:Nat):Int)))=true then _ else _
        rw[vI]
        refine cT (λh1=>?_) (λh1=>?_)
        ·match l,h1 with
         |[x],_=>exact⟨_,rfl,x,rfl,(fb.2.1 x (by simp)).fld,q⟩
        ·rw[zA7 h1]at q;exact q
       |false=>
        rw[e3,if_neg Bool.false_ne_true]at q
        refine aX ⟨_,eA (j:=0) rfl,"lists",rfl,_,rfl,?_⟩
        cases e4:L2.eqT w (sT "lists") with
        |true=>
         rw[e4,if_pos rfl]at q
         exact aN ⟨_,rfl,fb,q⟩
        |false=>
         rw[e4,if_neg Bool.false_ne_true]at q
         refine aX ⟨_,eA (j:=0) rfl,"record",rfl,_,rfl,?_⟩
         cases e5:L2.eqT w (sT "record") with
         |true=>
          rw[e5,if_pos rfl]at q
          exact aN ⟨_,rfl,fb,q⟩
         |false=>
          rw[e5,if_neg Bool.false_ne_true]at q
          refine aX ⟨_,eA (j:=0) rfl,"table",rfl,_,rfl,?_⟩
          cases e6:L2.eqT w (sT "table") with
          |true=>
           rw[e6,Bool.true_and]at q
           exact aN ⟨_,rfl,fb,q⟩
          |false=>
           rw[e6,Bool.false_and]at q
           exact aX q
 ·exact⟨rfl,_,rfl,aN q⟩
def sL:List (Str×Str):=[("nothing","nothing"),("truths","truth"),("numbers","number"),("texts","text"),("lists","list"),("record","dict"),("table","dict")]
def jM(w:Str):Int:=if w="nothing" then 0 else if w="truths" then 1 else if w="numbers" then 2 else if w="texts" then 3 else if w="lists" then 4 else 5
def kix(U:Tv):Int:=jM (cF (kP U))
def pT:PSp:=λas R=>∃(w:Str) (l:List Tv) (c:Str),as=[.va (.seq true (sT w::l))]/\eO sL w=some c/\R (sT c)
theorem zKS(h:Has K mg "part_kind" zCz)(B:Own mg)(GPART_KINDS:oE K w.params mg "PART_KINDS" sL)  : aG P w K mg base 1 "part_kind" ["part"] pT:=by
 refine h.pg1 ["part"] (λnd hr=>
   (aH (aV (zBY GPART_KINDS rfl (aU hr (aB 0) aD))))) (λas R q=>?_)
 obtain⟨w,l,c,rfl,e,q⟩:=q
 exact⟨rfl,_,eA (j:=0) rfl,w,c,rfl,e,q⟩
theorem zJi{j:Nat}{c:Str}(h:KNS[j]?=some c):∀i,i<j->KNS[i]?≠some c:=λi hi e=>by
 have nd:KNS.Nodup:=by decide +kernel
 have h1:=List.getElem?_eq_some_iff.mp h
 have h2:=List.getElem?_eq_some_iff.mp e
 obtain⟨a1,a2⟩:=h1
 obtain⟨b1,b2⟩:=h2
 exact(List.pairwise_iff_getElem.mp nd) i j b1 a1 hi (b2.trans a2.symm)
theorem zEx{U:Tv}(h:dP fm U=true):∃(w:Str) (l:List Tv) (c:Str) (j:Nat),U=.seq true (sT w::l)/\eO sL w=some c/\KNS[j]?=some c/\kix U=(j:Int):=by
 unfold dP at h
 split at h
 ·rename_i w l
  unfold rA at h
  split at h
  ·rename_i e;exact⟨"nothing",l,"nothing",0,by rw[eC e],rfl,rfl,by rw[eC e];rfl⟩
  ·split at h
   ·rename_i e;exact⟨"truths",l,"truth",1,by rw[eC e],rfl,rfl,by rw[eC e];show jM "truths"=1;decide +kernel⟩
   ·split at h
    ·rename_i e;exact⟨"numbers",l,"number",2,by rw[eC e],rfl,rfl,by rw[eC e];show jM "numbers"=2;decide +kernel⟩
    ·split at h
     ·rename_i e;exact⟨"texts",l,"text",3,by rw[eC e],rfl,rfl,by rw[eC e];show jM "texts"=3;decide +kernel⟩
     ·split at h
      ·rename_i e;exact⟨"lists",l,"list",4,by rw[eC e],rfl,rfl,by rw[eC e];show jM "lists"=4;decide +kernel⟩
      ·split at h
       ·rename_i e;exact⟨"record",l,"dict",5,by rw[eC e],rfl,rfl,by rw[eC e];show jM "record"=5;decide +kernel⟩
       ·have e:=(Bool.and_eq_true_iff.mp h).1
        exact⟨"table",l,"dict",5,by rw[eC e],rfl,rfl,by rw[eC e];show jM "table"=5;decide +kernel⟩
 ·cases h
def wI(fm:Tv->Bool):Tv->Bool
 |.seq true ps=>ps.all (dP fm)&&iN (ps.map kix)
 |_=>false
theorem zEL:Tup (wI fm):=λU h=>by
 cases U with
 |leaf v=>cases h
 |dct k=>cases h
 |seq t l=>cases t with
  |true=>exact⟨l,rfl⟩
  |false=>cases h
theorem zK2:bM ["thing"] ["thing"] (aO mD):=fsc (by decide +kernel)
theorem zKI(h:Has K mg "is_form" mD)(B:Own mg)(G21_:aG P w K mg base (L+11) "is_part" ["thing"] (zBJ k fm))(G4_:aG P w K mg base 1 "rises" ["things"] iD)(G12_:aG P w K mg base 1 "part_kind" ["part"] pT)(GKINDS:rH K mg "KINDS" KNS)  : aG P w K mg base (L+12) "is_form" ["thing"] (nF (k+1) (wI fm)):=by
 refine h.pg1 ["thing"] (λnd hr=>
   (aE (bB (dG (dE (cS (bN (eM "tuple" hJ rfl B.isinstance (aB 0) (eK (v:=.ty "tuple") rfl B.tuple_ boot_tuple rfl)))) (eL (cS (bN (bG (iJ rfl) rfl B.all boot_all (aA (bP (dO (sc:=aO mD) (XN:=["thing"]) (N:=["part"]) (fr:=[]) (cQ (aB 0)) (λ_ _ _ _ _=>(aR G21_ hr (aA (aB 0) aC))))) aC)))))))
    (aH (aV cK))
    bA)
   (aH (aV (aR G4_ hr (aA (bP (dO (sc:=aO mD) (XN:=["thing"]) (N:=["part"]) (fr:=[]) (cQ (aB 0)) (λ_ _ _ _ _=>(zG9 hr.units GKINDS rfl (aR G12_ hr (aA (aB 0) aC)))))) aC)))))) (λas R q=>?_)
 obtain⟨U,rfl,fb,q⟩:=q
 rcases gG (fb.fld (j:=1)).ok with rfl|⟨c,rfl⟩|⟨i,rfl⟩|⟨s,rfl⟩|⟨t,ps,rfl⟩|⟨kts,rfl⟩
 ·exact⟨rfl,_,rfl,aN q⟩
 ·exact⟨rfl,_,rfl,aN q⟩
 ·exact⟨rfl,_,rfl,aN q⟩
 ·exact⟨rfl,_,rfl,aN q⟩
 ·cases t with
  |false=>exact⟨rfl,_,rfl,aN q⟩
  |true=>
   have q:R (bT (ps.all (dP fm)&&iN (ps.map kix))):=q
   have fl:ps.length<=100/\(∀x∈ps,FlE (2*k+1) x)/\_:=fb
   refine⟨rfl,_,rfl,aX ⟨by omega,iY (λf=>bT (dP fm f)) (λf hf R q=>⟨f,rfl,fl.2.1 f hf,q⟩) ⟨ps.map (dP fm),by rw[List.map_map];rfl,?_⟩⟩⟩
   rw[List.all_map]
   cases h3:ps.all (dP fm) with
   |false=>
    rw[h3,Bool.false_and]at q
    exact⟨_,rfl,by show if (!(ps.all (dP fm)))=true then _ else _;rw[h3];exact aN q⟩
   |true=>
    rw[h3,Bool.true_and]at q
    have h3':=List.all_eq_true.mp h3
    refine⟨_,rfl,?_⟩
    show if (!(ps.all (dP fm)))=true then _ else _
    rw[h3]
    refine aX ⟨by omega,iY (λf=>iT (kix f)) (λf hf R q=>?_) ?_⟩
    ·obtain⟨w,l,c,j,rfl,e1,e2,e3⟩:=zEx (h3' f hf)
     rw[e3]at q
     exact⟨w,l,c,rfl,e1,c,j,rfl,e2,zJi e2,q⟩
    ·exact .inr (.inl ⟨false,ps.map kix,by rw[List.map_map];rfl,by rw[List.length_map];omega,q⟩)
 ·exact⟨rfl,_,rfl,aN q⟩
end
end My
namespace My
open PySem L2 PyProof.Rows WordM
section
variable{P:Program}{w:World}{K:W.Frag}{mg:Str->Option Value}{base:Heap}
def kL:Nat->Tv->Bool
 |0=>λ_=>false
 |k+1=>wI (kL k)
theorem zEM:∀k,Tup (kL k)
 |0=>λU h=>by cases h
 |k+1=>zEL
theorem zN(hf:Has K mg "is_form" mD)(hp:Has K mg "is_part" xF)(hl:Has K mg "is_lists" xI)(hfd:Has K mg "is_field" xH)(hfs:Has K mg "are_fields" oH)(hr:Has K mg "is_record" rZ)(ht:Has K mg "is_table" xG)(hs:Has K mg "lets_some_by" xJ)(B:Own mg)
  (Gpk:aG P w K mg base 1 "part_kind" ["part"] pT) (Grs:aG P w K mg base 1 "rises" ["things"] iD) (Gab:aG P w K mg base 2 "are_bounds" ["least","most"] kX) (Git:aG P w K mg base 2 "is_text" ["thing"] kW) (Giw:aG P w K mg base 4 "is_words" ["thing"] mN)
  (Gmy:aG P w K mg base 2 "words_many" ["words","most"] pU) (Gat:aG P w K mg base 2 "are_truths" ["thing"] oS) (Gir:aG P w K mg base 2 "is_run" ["thing"] pV) (GK:rH K mg "KINDS" KNS) (GF:fT K mg "MOST_FIELDS" (iT 8)):∀k:Nat,aG P w K mg base (6*k+6) "is_form" ["thing"] (nF k (kL k))
 |0=>hf.pfalse zK2 (fun|_,_,_,_,_,_,[_],_=>rfl) λas R ⟨_,_,h,_⟩=>h
 |k+1=>by
  have G:=zN hf hp hl hfd hfs hr ht hs B Gpk Grs Gab Git Giw Gmy Gat Gir GK GF k
  have S:=zKP (L:=6*k) hs B G (zEM k)
  have Gl:=zKO (L:=6*k) hl B Gab S
  have Gd:=zKN (L:=6*k) hfd B S Git
  have Gs:=zKM (L:=6*k) hfs B Grs Gd GF
  have Gr:=zKL (L:=6*k) hr B Gs Gab
  have Gt:=zKK (L:=6*k) ht B Giw Gab Gmy S
  have Gp:=zKJ (L:=6*k) hp B Gat Gir Giw Gl Gr Gt
  exact zKI (L:=6*k) hf B Gp Grs Gpk GK
end
end My
namespace My
open PySem L2 PyProof.Rows WordM
section
variable{P:Program}{w:World}{K:W.Frag}{mg:Str->Option Value}{base:Heap}
theorem tY{n lo hi most:Int}:∀(k j:Nat) (many power len:Int),0<=many->1<=power->most<=power*n ^ k->len+k<=hi->1<=n->tl (k+1+j) n lo hi most many power len=most
 |0,j,many,power,len,h0,hp,h1,h2,hn=>by
  rw[show 0+1+j=j+1 by omega,tl,if_pos (by omega),if_pos (by rw[Int.pow_zero,Int.mul_one]at h1;omega)]
 |k+1,j,many,power,len,h0,hp,h1,h2,hn=>by
  rw[show k+1+1+j=(k+1+j)+1 by omega,tl,if_pos (by omega)]
  split
  ·rfl
  ·refine tY k j _ _ _ (by split<;>omega) ?_ ?_ (by omega) hn
   ·have:=Int.mul_le_mul_of_nonneg_left hn (show 0<=power by omega)
    omega
   ·rw[Int.mul_assoc,show n*n ^ k=n ^ (k+1) by rw[Int.pow_succ,Int.mul_comm]]
    exact h1
def Mny:Wd->Int->Prop
 |.make _ lo hi ms,b=>lU lo hi ms b=b
 |.few _,_=>True
theorem zEh{ms:List Str}(ne:ms≠[])(h:∀m∈ms,m∈MK):10<=(bU (eV ms)).length:=by
 have:=(pP h).1
 have:=List.length_pos_iff.mpr ne
 omega
theorem zIi{h:Str}{lo hi most:Int}{ms:List Str}(ne:ms≠[])(hm:∀m∈ms,m∈MK)(c:(1<=hi/\most<=10)\/(2<=hi/\most<=100)):Mny (.make h lo hi ms) most:=by
 have l:=zEh ne hm
 show tl 400 _ lo hi most 0 1 0=most
 generalize (bU (eV ms)).length=n at l
 rcases c with⟨h1,h2⟩|⟨h1,h2⟩
 ·exact tY 1 398 0 1 0 (by omega) (by omega) (by rw[Int.pow_one];omega) (by omega) (by omega)
 ·refine tY 2 397 0 1 0 (by omega) (by omega) ?_ (by omega) (by omega)
  have:(100:Int)<=(n:Int)*n:=by
   have:=Int.mul_le_mul (show(10:Int)<=n by omega) (show(10:Int)<=n by omega) (by decide) (by omega)
   omega
  rw[Int.pow_succ,Int.pow_one]
  omega
def PartOk:Nat->Pt->Prop
 |0,_=>False
 |_+1,.nothing=>True
 |_+1,.truths bs=>bs=[false]\/bs=[true]\/bs=[false,true]
 |_+1,.numbers lo hi st=>jJ lo hi st
 |_+1,.texts w=>dQ w
 |n+1,.lists a b f=>0<=a/\a<=b/\b<=100/\(b=0->f=[])/\(b≠0->f≠[]/\fY f/\∀p∈f,PartOk n p)
 |n+1,.record a b fs=>0<=a/\a<=b/\fs.length<=8/\kN (fs.map (·.1))/\(∀x∈fs,dR x.1/\x.2.2≠[]/\fY x.2.2/\∀p∈x.2.2,PartOk n p)/\(fB fs:Int)<=a/\b<=fs.length/\(fB fs<fs.length->a<fs.length/\fB fs<b)
 |n+1,.table a b w f=>((0<=a/\a<=11)/\Mny w b)/\a<=b/\1<=b/\b<=100/\dQ w/\vK w=true/\f≠[]/\fY f/\∀p∈f,PartOk n p
abbrev fF(n:Nat)(f:List Pt):Prop:=fY f/\∀p∈f,PartOk n p
theorem zFK(p:Pt):dC p<=5:=by cases p<;>simp[dC]
theorem zEE{f:List Pt}(h:fY f):f.length<=6:=by
 have nd:(f.map dC).Nodup:=by
  unfold List.Nodup
  rw[List.pairwise_map]
  exact h.imp λh=>by omega
 have:=WordM.nodup_len nd (m:=[0,1,2,3,4,5]) λx hx=>by
  obtain⟨p,_,rfl⟩:=List.mem_map.mp hx
  have:=zFK p
  simp only[List.mem_cons,List.not_mem_nil,or_false]
  omega
 rwa[List.length_map]at this
end
section
variable{P:Program}{w:World}{K:W.Frag}{mg:Str->Option Value}{base:Heap}
theorem zD7(b:Int)(h1:1<=b)(h2:b<=15):∃ms:List Str,([((1:Int),("figure":Str)),(2,"great"),(4,"other"),(8,"small")].filterMap λx=>if b / x.1 % 2=1 then some (sT x.2) else none)=ms.map sT/\ms.Sublist MK/\ms≠[]:=by
 have:b=1\/b=2\/b=3\/b=4\/b=5\/b=6\/b=7\/b=8\/b=9\/b=10\/b=11\/b=12\/b=13\/b=14\/b=15:=by omega
 rcases this with e|e|e|e|e|e|e|e|e|e|e|e|e|e|e<;>subst e
 ·exact⟨["figure"],rfl,by decide,by decide⟩
 ·exact⟨["great"],rfl,by decide,by decide⟩
 ·exact⟨["figure","great"],rfl,by decide,by decide⟩
 ·exact⟨["other"],rfl,by decide,by decide⟩
 ·exact⟨["figure","other"],rfl,by decide,by decide⟩
 ·exact⟨["great","other"],rfl,by decide,by decide⟩
 ·exact⟨["figure","great","other"],rfl,by decide,by decide⟩
 ·exact⟨["small"],rfl,by decide,by decide⟩
 ·exact⟨["figure","small"],rfl,by decide,by decide⟩
 ·exact⟨["great","small"],rfl,by decide,by decide⟩
 ·exact⟨["figure","great","small"],rfl,by decide,by decide⟩
 ·exact⟨["other","small"],rfl,by decide,by decide⟩
 ·exact⟨["figure","other","small"],rfl,by decide,by decide⟩
 ·exact⟨["great","other","small"],rfl,by decide,by decide⟩
 ·exact⟨["figure","great","other","small"],rfl,by decide,by decide⟩
structure MkD (h:Str) (a b:Int) (ms:List Str):Prop where
 h3:Sg h/\h.length<=3
 a0:0<=a
 a3:a<=3
 ab:a<=b
 b1:1<=b
 b6:b<=6
 sub:ms.Sublist MK
 ne:ms≠[]
theorem MkD.ok{h:Str}{a b:Int}{ms:List Str}(m:MkD h a b ms):dQ (.make h a b ms):=⟨⟨m.h3.1,by have:=m.h3.2;omega⟩,m.a0,m.ab,m.b1,by have:=m.b6;omega,m.sub,m.ne⟩
def nE:PSp:=λas R=>as=[.dk]/\∀h a b ms,MkD h a b ms->R (dJ (.make h a b ms))
theorem zKn(h:Has K mg "_law_make" wU)(B:Own mg)(G41_:aG P w K mg base 2 "_law_take" ["_law_deck_here","_law_most"] fD)(G43_:aG P w K mg base 3 "_law_text" ["_law_deck_here","_law_most"] nD)   : aG P w K mg base 4 "_law_make" ["_law_deck_here"] nE:=by
 refine h.pg1 ["_law_deck_here","_law_least","_law_most","_law_bits","_law_marks","_law_some"] (λnd hr=>
   (aE (aT 1 nd (aR G41_ hr (bH 0 (aA aD aC))))
   (aE (aT 2 nd (bG (zBH rfl) rfl B.max boot_max (aA aD (aA (aL bC (aB 1) (aR G41_ hr (bH 0 (aA aD aC)))) aC))))
   (aE (aT 3 nd (aL bC aD (aR G41_ hr (bH 0 (aA aD aC)))))
   (aE (aT 4 nd (bP (dD (aA aI (aA aI (aA aI (aA aI aC)))))))
   (aE (aT 5 nd (dS jX rfl B.tuple_ boot_tuple (aA (bP (zAF (sc:=aO wU) (XN:=["_law_deck_here","_law_least","_law_most","_law_bits","_law_marks","_law_some"]) (N:=["_law_k","_law_mark","_law_bits"]) (own:=2) (fr:=[3]) rfl ⟨rfl,by decide +kernel,by decide +kernel,by decide +kernel,rfl,by decide +kernel,by decide,by decide +kernel⟩ (by decide) (zF5 rfl B.enumerate (aA (aB 4) aC)) (λ_ _ _ _ _=>(zBs 2 rfl (mL (dZ 0 (by decide) (show(["_law_k","_law_mark","_law_bits"]:List Str).Nodup by decide +kernel) rfl (by first|exact Or.inl rfl|exact Or.inr rfl)) (mL (dZ 1 (by decide) (show(["_law_k","_law_mark","_law_bits"]:List Str).Nodup by decide +kernel) rfl (by first|exact Or.inl rfl|exact Or.inr rfl)) zAG)))) (λ_ _ _ _ _=>(uU (bV hr (aL lH (aL zAT (aB 2) (aU hr (bP (dD (aA aD (aA aD (aA aD (aA aD aC)))))) (aB 0))) aD) aD))) (λ_ _ _ _ _=>(aB 1)))) aC)))
   (aH (aV (bI (aA aI (aA (aR G43_ hr (bH 0 (aA aD aC))) (aA (aB 1) (aA (aB 2) (aA (aB 5) aC)))))))))))))) (λas R q=>?_)
 obtain⟨rfl,q⟩:=q
 refine⟨rfl,rfl,4,rfl,by decide,bJ (by decide) (by decide),λa a0 a1=>?_⟩
 refine⟨rfl,4,rfl,by decide,bJ (by decide) (by decide),λc c0 c1=>.inl ⟨_,_,rfl,?_⟩⟩
 refine⟨rfl,15,rfl,by decide,bJ (by decide) (by decide),λd d0 d1=>⟨by decide,?_⟩⟩
 obtain⟨ms,e,sub,ne⟩:=zD7 (1+d) (by omega) (by omega)
 refine⟨_,rfl,by decide,?_⟩
 refine mK (l:=[((1:Int),(0:Nat),("figure":Str)),(2,1,"great"),(4,2,"other"),(8,3,"small")]) (λx=>.seq true [iT (x.2.1:Nat),sT x.2.2]) (λx=>if (1+d) / x.1 % 2=1 then some (sT x.2.2) else none) (λx hx R q=>?_) ?_
 ·simp only[List.mem_cons,List.not_mem_nil,or_false]at hx
  rcases hx with rfl|rfl|rfl|rfl
  all_goals
   refine⟨_,rfl,rfl,_,_,rfl,_,_,rfl,rfl,by decide,_,rfl,⟨by decide,bJ (by decide) (by decide)⟩,(show(0:Int)<2 by decide),_,rfl,?_⟩
   refine sif (λz=>?_) (λz=>?_)
   ·rw[if_pos (by simpa[eqV]using z)]at q;exact q
   ·rw[if_neg (by simpa[eqV]using z)]at q;exact q
 ·have e':([((1:Int),(0:Nat),("figure":Str)),(2,1,"great"),(4,2,"other"),(8,3,"small")].filterMap λx=>if (1+d) / x.1 % 2=1 then some (sT x.2.2) else none)=ms.map sT:=e
  rw[e']
  refine⟨_,_,rfl,rfl,3,rfl,by decide,by decide,λh sh lh=>⟨(show 5<=100000 by decide),q h a _ ms ⟨⟨sh,by omega⟩,a0,by omega,by omega,by omega,by omega,sub,ne⟩⟩⟩
theorem tO{α:Type}{ps rs tx:List α}{j:Nat}{x:α}(h:(ps++rs).Perm tx)(e:rs[j]?=some x):((ps++[x])++rs.eraseIdx j).Perm tx:=by
 obtain⟨hj,rfl⟩:=List.getElem?_eq_some_iff.mp e
 refine List.Perm.trans ?_ h
 rw[List.append_assoc]
 exact List.Perm.append_left _ (yQ rs j hj)
theorem zBW{rs:List Str}{r:Int}(h0:0<=r)(h1:r<rs.length):∃x,rs[r.toNat]?=some x:=⟨rs[r.toNat]'(by omega),List.getElem?_eq_getElem _⟩
theorem pB{α β:Type}(f:α->β):∀(l:List α) (i:Nat),(l.map f).eraseIdx i=(l.eraseIdx i).map f
 |[],_=>by simp
 |_::_,0=>by simp
 |a::l,i+1=>by simp[pB f l i]
def oR:PSp:=λas R=>∃nm tx st sp,as=[.dk,.va (dW nm tx st sp)]/\lC nm tx st sp/\∀w,dQ w->R (dJ w)
theorem zKm(h:Has K mg "_law_some_words" wT)(B:Own mg)(G41_:aG P w K mg base 2 "_law_take" ["_law_deck_here","_law_most"] fD)(G47_:aG P w K mg base 4 "_law_make" ["_law_deck_here"] nE)   : aG P w K mg base 5 "_law_some_words" ["_law_deck_here","_law_world_here"] oR:=by
 refine h.pg2 ["_law_deck_here","_law_world_here","_law_texts","_law_some"] (λnd hr=>
   (aE (bB (bV hr (aR G41_ hr (bH 0 (aA aD aC))) aD)
    (aH (aV (aR G47_ hr (bH 0 aC))))
    bA)
   (aE (iR 2 nd (yX zC rfl B.list_ boot_list (aA (aU hr (aB 1) aD) aC)))
   (aE (vQ (sc:=aO wT) (XN:=["_law_deck_here","_law_world_here","_law_texts","_law_some"]) (N:=["_law_k","_law_deck_here","_law_texts"]) (fr:=[0,2]) 3 nd (iB rfl B.range (aA (aL bC aD (aR G41_ hr (bH 0 (aA aD aC)))) aC)) (λ_ _ _ _ _=>qG) (λ_ _ _ _ _=>(tJ 2 (aR G41_ hr (bH 1 (aA (tW λF=>(bG cB rfl B.len PySem.boot_len (aA (aB 2) aC))) aC))))))
   (aH (aV (bI (aA aI (aA (dS jX rfl B.tuple_ boot_tuple (aA (bP (tI (sW rfl) rfl B.sorted boot_sorted (aA (aB 3) aC))) aC)) aC))))))))) (λas R q=>?_)
 obtain⟨nm,tx,st,sp,rfl,hw,q⟩:=q
 refine⟨rfl,rfl,2,rfl,by decide,bJ (by decide) (by decide),λa a0 a1=>⟨_,rfl,sif (λ_=>⟨rfl,rfl,λh a b ms m=>q _ m.ok⟩) (λ_=>?_)⟩⟩
 refine⟨_,rfl,false,_,rfl,?_⟩
 refine⟨rfl,6,rfl,by decide,bJ (by decide) (by decide),λn n0 n1=>⟨_,rfl,by omega,by omega,by rw[gH];omega,?_⟩⟩
 refine tE (λi Us ρ=>∃ps rs:List Str,Us=ps.map sT/\ps.length=i/\(ps++rs).Perm tx/\ρ=[.dk,.va (dW nm tx st sp),.own (rs.map sT),.no]) ⟨[],tx,rfl,rfl,List.Perm.refl _,rfl⟩ ?_ ?_
 ·rintro i T _ _ hT ⟨ps,rs,rfl,hl,hp,rfl⟩ R hR
  have hi:=(jW hT).1
  have hlen:=hp.length_eq
  rw[List.length_append,hw.t9]at hlen
  refine⟨⟨_,rfl⟩,rfl,_,rfl,(rs.map sT).length,rfl,by rw[List.length_map];omega,by rw[List.length_map];exact bJ (by omega) (by omega),λr r0 r1=>?_⟩
  rw[List.length_map]at r1
  obtain⟨x,hx⟩:=zBW r0 r1
  refine⟨r,_,sT x,rfl,rfl,r0,by rw[List.getElem?_map,hx];rfl,hR (some (sT x)) _ ⟨ps++[x],rs.eraseIdx r.toNat,by rw[List.map_append];rfl,by rw[List.length_append,hl];rfl,tO hp hx,?_⟩⟩
  show [Sl.dk,.va (dW nm tx st sp),.own ((rs.map sT).eraseIdx r.toNat),.no]=_
  rw[pB]
 ·rintro _ _ ⟨ps,rs,rfl,hl,hp,rfl⟩
  rw[gH]at hl
  have hnd:ps.Nodup:=(hp.nodup_iff.mpr hw.ndt).sublist (List.sublist_append_left _ _)
  refine .inr (.inl ⟨ps,rfl,by omega,?_⟩)
  refine⟨false,_,rfl,by simp,q (.few (eS ps)) ⟨by rw[sV];omega,by rw[sV];omega,zA hnd,λt ht=>?_⟩⟩
  have ht:t∈tx:=hp.mem_iff.mp (List.mem_append_left _ ((oW ps).mem_iff.mp ht))
  exact⟨(hw.ts t ht).1,by have:=(hw.ts t ht).2;omega⟩
end
end My
namespace My
open PySem L2 PyProof.Rows WordM
section
variable{P:Program}{w:World}{K:W.Frag}{mg:Str->Option Value}{base:Heap}
variable{n:Nat}
def kC(n:Nat):PSp:=λas R=>∃nm tx st sp,∃deep most:Int,as=[.dk,.va (dW nm tx st sp),.va (iT deep),.va (iT most)]/\lC nm tx st sp/\0<=deep/\deep<n/\1<=most/\most<=6/\∀f,f≠[]->fF n f->R (bW f)
def zAe(n:Nat):PSp:=λas R=>∃nm tx st sp,∃deep:Int,as=[.dk,.va (dW nm tx st sp),.va (iT deep)]/\lC nm tx st sp/\1<=deep/\deep<=n/\∀a b w f,PartOk (n+1) (.table a b w f)->R (aY (.table a b w f))
def vD(n:Nat):PSp:=λas R=>∃nm tx st sp,∃deep many:Int,as=[.dk,.va (dW nm tx st sp),.va (iT deep),.va (iT many)]/\lC nm tx st sp/\1<=deep/\deep<=n/\0<=many/\many<=8/\∀a b fs,PartOk (n+1) (.record a b fs)->R (aY (.record a b fs))
def zAY(n:Nat):PSp:=λas R=>∃nm tx st sp,∃deep kind most:Int,as=[.dk,.va (dW nm tx st sp),.va (iT deep),.va (iT kind),.va (iT most)]/\lC nm tx st sp/\0<=deep/\deep<=n/\0<=kind/\kind<=5/\1<=most/\most<=6/\∀p,PartOk (n+1) p->(dC p:Int)=kind->R (aY p)
theorem zKk(h:Has K mg "_law_table" wS)(B:Own mg)(G47_:aG P w K mg base 4 "_law_make" ["_law_deck_here"] nE)(G41_:aG P w K mg base 2 "_law_take" ["_law_deck_here","_law_most"] fD)(G52_:aG P w K mg base (6+3*n) "_law_form" ["_law_deck_here","_law_world_here","_law_deep","_law_most"] (kC n))   : aG P w K mg base (6+3*n+1) "_law_table" ["_law_deck_here","_law_world_here","_law_deep"] (zAe n):=by
 refine h.pg3 ["_law_deck_here","_law_world_here","_law_deep","_law_make_here","_law_most"] (λnd hr=>
   (aE (aT 3 nd (aR G47_ hr (bH 0 aC)))
   (aE (aT 4 nd (aL bC aD (aR G41_ hr (bH 0 (aA aD aC)))))
   (aE (bB (dG (lD (dA vY (aU hr (aB 3) aD) aD) (mP (bV hr (aR G41_ hr (bH 0 (aA aD aC))) aD))))
    (aH (aT 4 nd aD))
    bA)
   (aH (aV (bI (aA aI (aA (aR G41_ hr (bH 0 (aA (aL bC (bG (nC rfl) rfl B.min boot_min (aA (aB 4) (aA aD aC))) aD) aC))) (aA (aB 4) (aA (aB 3) (aA (aR G52_ hr (bH 0 (aA (aB 1) (aA (aL gU (aB 2) aD) (aA aD aC))))) aC)))))))))))) (λas R q=>?_)
 obtain⟨nm,tx,st,sp,deep,rfl,hw,d0,d1,q⟩:=q
 refine⟨rfl,rfl,rfl,λh a b ms m=>?_⟩
 refine⟨rfl,10,rfl,by decide,bJ (by decide) (by decide),λc c0 c1=>?_⟩
 have fin:∀most:Int,1<=most->most<=60->(most<=10\/1<b)->∀k:Int,0<=k->k<min most 3+1->∀f,f≠[]->fF n f->R (aY (.table k most (.make h a b ms) f)):=λmost m1 m2 m3 k k0 k1 f fn hf=>q _ _ _ _ ⟨⟨⟨k0,by omega⟩,zIi m.ne (λx hx=>m.sub.subset hx) (by have:=m.b1;omega)⟩,by omega,m1,by omega,m.ok,rfl,fn,hf.1,hf.2⟩
 refine⟨_,rfl,_,rfl,sif (λz=>⟨rfl,8,rfl,by decide,bJ (by decide) (by decide),λe e0 e1=>⟨_,rfl,sif (λ_=>?_) (λ_=>?_)⟩⟩) (λz=>aX ?_)⟩
 all_goals
  refine⟨rfl,.inl ⟨_,_,rfl,_,rfl,by omega,bJ (by omega) (by omega),λk k0 k1=>⟨rfl,nm,tx,st,sp,_,_,rfl,hw,by omega,by omega,by decide,by decide,λf fn hf=>⟨by simp,?_⟩⟩⟩⟩
  have:=fin _ (by omega) (by omega) (by first|exact .inl (by omega)|exact .inr (of_decide_eq_true z)) k k0 k1 f fn hf
  rw[jR]at this
  exact this
theorem zS{n:Nat}:∀{ss:List Str}{Us:List Tv},Paired (λT U=>∃(s:Str) (b:Bool) (f:List Pt),T=sT s/\U=bQ (s,b,f)/\f≠[]/\fF n f) (ss.map sT) Us->∃fs:List (Str×Bool×List Pt),Us=fs.map bQ/\fs.map (·.1)=ss/\∀x∈fs,x.2.2≠[]/\fF n x.2.2
 |[],[],_=>⟨[],rfl,rfl,λx hx=>nomatch hx⟩
 |s::ss,U::Us,.cons r t=>by
  obtain⟨fs,rfl,e2,h⟩:=zS (ss:=ss) t
  obtain⟨s',b,f,e,rfl,fn,hf⟩:=r
  have e:s=s':=by cases e;rfl
  subst e
  refine⟨(s,b,f)::fs,rfl,by rw[List.map_cons,e2],λx hx=>?_⟩
  rcases List.mem_cons.mp hx with rfl|hx
  ·exact⟨fn,hf⟩
  ·exact h x hx
theorem zFU(fs:List (Str×Bool×List Pt)):(fs.filterMap λx=>if x.2.1=true then some (bQ x) else none)=(fs.filter λx=>x.2.1).map bQ:=by
 induction fs with
 |nil=>rfl
 |cons x fs ih=>
  rw[List.filterMap_cons,List.filter_cons]
  cases h:x.2.1 with
  |true=>simp[h,ih]
  |false=>simp[h,ih]
theorem zKl(h:Has K mg "_law_record" mC)(B:Own mg)(G41_:aG P w K mg base 2 "_law_take" ["_law_deck_here","_law_most"] fD)(G52_:aG P w K mg base (6+3*n) "_law_form" ["_law_deck_here","_law_world_here","_law_deep","_law_most"] (kC n))   : aG P w K mg base (6+3*n+1) "_law_record" ["_law_deck_here","_law_world_here","_law_deep","_law_many"] (vD n):=by
 refine h.pg4 ["_law_deck_here","_law_world_here","_law_deep","_law_many","_law_names","_law_some","_law_fields","_law_musts","_law_least","_law_most"] (λnd hr=>
   (aE (iR 4 nd (yX zC rfl B.list_ boot_list (aA (aU hr (aB 1) aD) aC)))
   (aE (aT 5 nd (bP (tI (sW rfl) rfl B.sorted boot_sorted (aA (bP (dO (sc:=aO mC) (XN:=["_law_deck_here","_law_world_here","_law_deep","_law_many","_law_names","_law_some","_law_fields","_law_musts","_law_least","_law_most"]) (N:=["_law_k","_law_deck_here","_law_names"]) (fr:=[0,4]) (iB rfl B.range (aA (aB 3) aC)) (λ_ _ _ _ _=>(tJ 2 (aR G41_ hr (bH 1 (aA (tW λF=>(bG cB rfl B.len PySem.boot_len (aA (aB 2) aC))) aC))))))) aC))))
   (aE (aT 6 nd (dS jX rfl B.tuple_ boot_tuple (aA (bP (dO (sc:=aO mC) (XN:=["_law_deck_here","_law_world_here","_law_deep","_law_many","_law_names","_law_some","_law_fields","_law_musts","_law_least","_law_most"]) (N:=["_law_name","_law_deck_here","_law_world_here","_law_deep"]) (fr:=[0,1,2]) (cQ (aB 5)) (λ_ _ _ _ _=>(bI (aA (aB 0) (aA (dF (gW hr.units).op (aR G41_ hr (bH 1 (aA aD aC))) aD) (aA (aR G52_ hr (bH 1 (aA (aB 2) (aA (aL gU (aB 3) aD) (aA aD aC))))) aC))))))) aC)))
   (aE (aT 7 nd (bG cB rfl B.len PySem.boot_len (aA (bP (vR (sc:=aO mC) (XN:=["_law_deck_here","_law_world_here","_law_deep","_law_many","_law_names","_law_some","_law_fields","_law_musts","_law_least","_law_most"]) (N:=["_law_field"]) (fr:=[]) (cQ (aB 6)) (λ_ _ _ _ _=>(uU (bN (aU hr (aB 0) aD)))) (λ_ _ _ _ _=>(aB 0)))) aC)))
   (aE (aT 8 nd (aB 3))
   (aE (aT 9 nd (aB 3))
   (aE (bB (dA iO (aB 7) (aB 3))
    (aE (aT 8 nd (aL bC (aB 7) (aR G41_ hr (bH 0 (aA (aL gU (aB 3) (aB 7)) aC)))))
    (aE (aT 9 nd (bG (zBH rfl) rfl B.max boot_max (aA (aB 8) (aA (aL bC (aB 7) aD) aC))))
    (aH (aT 9 nd (aL bC (aB 9) (aR G41_ hr (bH 0 (aA (aL bC (aL gU (aB 3) (aB 9)) aD) aC))))))))
    bA)
   (aH (aV (bI (aA aI (aA (aB 8) (aA (aB 9) (aA (aB 6) aC))))))))))))))) (λas R q=>?_)
 obtain⟨nm,tx,st,sp,deep,many,rfl,hw,d0,d1,m0,m8,q⟩:=q
 refine⟨rfl,_,rfl,false,_,rfl,?_⟩
 refine⟨_,rfl,by omega,by omega,by rw[gH];omega,?_⟩
 refine tE (λi Us ρ=>∃ps rs:List Str,Us=ps.map sT/\ps.length=i/\(ps++rs).Perm nm/\ρ=[.dk,.va (dW nm tx st sp),.va (iT deep),.va (iT many),.own (rs.map sT),.no,.no,.no,.no,.no]) ⟨[],nm,rfl,rfl,List.Perm.refl _,rfl⟩ ?_ ?_
 ·rintro i T _ _ hT ⟨ps,rs,rfl,hl,hp,rfl⟩ R hR
  have hi:=(jW hT).1
  have hlen:=hp.length_eq
  rw[List.length_append,hw.n11]at hlen
  refine⟨⟨_,rfl⟩,rfl,_,rfl,(rs.map sT).length,rfl,by rw[List.length_map];omega,by rw[List.length_map];exact bJ (by omega) (by omega),λr r0 r1=>?_⟩
  rw[List.length_map]at r1
  obtain⟨x,hx⟩:=zBW r0 r1
  refine⟨r,_,sT x,rfl,rfl,r0,by rw[List.getElem?_map,hx];rfl,hR (some (sT x)) _ ⟨ps++[x],rs.eraseIdx r.toNat,by rw[List.map_append];rfl,by rw[List.length_append,hl];rfl,tO hp hx,?_⟩⟩
  show [Sl.dk,.va (dW nm tx st sp),.va (iT deep),.va (iT many),.own ((rs.map sT).eraseIdx r.toNat),.no,.no,.no,.no,.no]=_
  rw[pB]
 ·rintro _ _ ⟨ps,rs,rfl,hl,hp,rfl⟩
  rw[gH]at hl
  have hnd:ps.Nodup:=(hp.nodup_iff.mpr hw.nd).sublist (List.sublist_append_left _ _)
  have hps:(eS ps).length=many.toNat:=by rw[sV,hl]
  have hrise:=zA hnd
  have htx:∀s∈eS ps,dR s:=λs hs=>by
   have hs:s∈nm:=hp.mem_iff.mp (List.mem_append_left _ ((oW ps).mem_iff.mp hs))
   exact⟨(hw.ns s hs).1,by have:=(hw.ns s hs).2;omega⟩
  refine .inr (.inl ⟨ps,rfl,by omega,?_⟩)
  refine⟨by rw[List.length_map];omega,?_⟩
  refine tD (λT U=>∃(s:Str) (b:Bool) (f:List Pt),T=sT s/\U=bQ (s,b,f)/\f≠[]/\fF n f) (λT hT R hR=>?_) (λUs hUs=>?_)
  ·obtain⟨s,hs,rfl⟩:=List.mem_map.mp hT
   refine⟨rfl,2,rfl,by decide,bJ (by decide) (by decide),λr r0 r1=>?_⟩
   exact⟨rfl,nm,tx,st,sp,_,_,rfl,hw,by omega,by omega,by decide,by decide,λf fn hf=>⟨by simp,hR _ ⟨s,_,f,rfl,rfl,fn,hf⟩⟩⟩
  ·obtain⟨fs,rfl,hf1,hf2⟩:=zS hUs
   have hfl:fs.length=many.toNat:=by rw[<-hps,<-hf1,List.length_map]
   refine⟨false,_,rfl,?_⟩
   refine⟨by rw[List.length_map];omega,?_⟩
   refine mK bQ (λx=>if x.2.1=true then some (bQ x) else none) (λx hx R q=>⟨_,rfl,_,rfl,sif (λz=>?_) (λz=>?_)⟩) ?_
   ·rw[if_pos z]at q;exact q
   ·rw[if_neg (by rw[z];exact Bool.false_ne_true)]at q;exact q
   rw[zFU]
   have hml:fB fs<=fs.length:=List.length_filter_le _ _
   have fin:∀a b:Int,0<=a->a<=b->(fB fs:Int)<=a->b<=fs.length->(fB fs<fs.length->a<fs.length/\fB fs<b)->R (.seq true [sT "record",iT a,iT b,.seq true (fs.map bQ)]):=λa b h1 h2 h3 h4 h5=>by
    have:=q a b fs ⟨h1,h2,by omega,by rw[hf1];exact hrise,λx hx=>⟨htx x.1 (by rw[<-hf1];exact List.mem_map.mpr ⟨x,hx,rfl⟩),(hf2 x hx).1,(hf2 x hx).2.1,(hf2 x hx).2.2⟩,h3,h4,h5⟩
    rw[hZ]at this
    exact this
   have hmu:((fs.filter λx=>x.2.1).map bQ).length=fB fs:=by rw[List.length_map];rfl
   generalize hmm:((fs.filter λx=>x.2.1).map bQ)=ml at hmu ⊢
   refine⟨_,rfl,sif (λz=>?_) (λz=>?_)⟩
   ·have z:((ml.length:Nat):Int)<many:=by simpa using z
    refine⟨rfl,_,rfl,by omega,bJ (by omega) (by omega),λk k0 k1=>.inl ⟨_,_,rfl,rfl,_,rfl,by omega,bJ (by omega) (by omega),λj j0 j1=>⟨by simp,fin _ _ (by omega) (by omega) (by omega) (by omega) (λ_=>by omega)⟩⟩⟩
   ·have z:¬ ((ml.length:Nat):Int)<many:=by simpa using z
    exact⟨by simp,fin _ _ (by omega) (by omega) (by omega) (by omega) (λ_=>by omega)⟩
end
section
variable{P:Program}{w:World}{K:W.Frag}{mg:Str->Option Value}{base:Heap}
variable{n:Nat}
theorem zEs{st sp k m:Int}(h1:-(10 ^ 57)<=st)(h2:st<=10 ^ 57)(h3:1<=sp)(h4:sp<=10 ^ 20)(k0:0<=k)(k1:k<12)(m0:0<=m)(m7:m<=7):jJ (st+sp*(k-4)) (st+sp*(k-4)+m*sp) (sp*min m 1):=by
 have e1:=zBN (b:=k-4) h3 h4 (by omega) (by omega)
 have e2:=zBN (b:=m) h3 h4 (by omega) (by omega)
 have e2':m*sp=sp*m:=Int.mul_comm _ _
 by_cases hm:m=0
 ·subst hm
  have e3:sp*min 0 1=0:=by rw[show min (0:Int) 1=0 by decide,Int.mul_zero]
  have e4:(0:Int)*sp=0:=Int.zero_mul _
  rw[e3,e4]
  exact⟨⟨by omega,by omega⟩,⟨by omega,by omega⟩,⟨by decide,by decide⟩,by omega,by omega,⟨λ_=>by omega,λ_=>rfl⟩,λz=>absurd rfl z⟩
 ·have e3:sp*min m 1=sp:=by rw[show min m 1=1 by omega,Int.mul_one]
  rw[e3]
  have pos:0<m*sp:=Int.mul_pos (by omega) (by omega)
  refine⟨⟨by omega,by omega⟩,⟨by omega,by omega⟩,⟨by omega,by omega⟩,by omega,by omega,⟨λz=>by omega,λz=>by omega⟩,λ_=>?_⟩
  rw[show st+sp*(k-4)+m*sp-(st+sp*(k-4))=m*sp by omega]
  exact Int.mul_emod_left _ _
theorem zKj(h:Has K mg "_law_part" wR)(B:Own mg)(G41_:aG P w K mg base 2 "_law_take" ["_law_deck_here","_law_most"] fD)(G48_:aG P w K mg base 5 "_law_some_words" ["_law_deck_here","_law_world_here"] oR)(G52_:aG P w K mg base (6+3*n) "_law_form" ["_law_deck_here","_law_world_here","_law_deep","_law_most"] (kC n))(G50_:aG P w K mg base (6+3*n+1) "_law_table" ["_law_deck_here","_law_world_here","_law_deep"] (zAe n))(G49_:aG P w K mg base (6+3*n+1) "_law_record" ["_law_deck_here","_law_world_here","_law_deep","_law_many"] (vD n))   : aG P w K mg base (6+3*n+2) "_law_part" ["_law_deck_here","_law_world_here","_law_deep","_law_kind","_law_most"] (zAY n):=by
 refine h.pg5 ["_law_deck_here","_law_world_here","_law_deep","_law_kind","_law_most","_law_low","_law_many","_law_least","_law_high","_law_inner"] (λnd hr=>
   (aE (bB (bV hr (aB 3) aD)
    (aH (aV (bI (aA aI aC))))
    bA)
   (aE (bB (bV hr (aB 3) aD)
    (aH (aV (bI (aA aI (aA (aU hr (bP (dD (aA (bI (aA cK aC)) (aA (bI (aA cK aC)) (aA (bI (aA cK (aA cK aC))) aC))))) (aR G41_ hr (bH 0 (aA aD aC)))) aC)))))
    bA)
   (aE (bB (bV hr (aB 3) aD)
    (aE (aT 5 nd (aL bC (aU hr (aB 1) aD) (aL gK (aU hr (aB 1) aD) (aL gU (aR G41_ hr (bH 0 (aA aD aC))) aD))))
    (aE (aT 6 nd (aU hr (bP (dD (aA aD (aA aD (aA aD (aA aD (aA aD aC))))))) (aR G41_ hr (bH 0 (aA aD aC)))))
    (aH (aV (bI (aA aI (aA (aB 5) (aA (aL bC (aB 5) (aL gK (aB 6) (aU hr (aB 1) aD))) (aA (aL gK (aU hr (aB 1) aD) (bG (nC rfl) rfl B.min boot_min (aA (aB 6) (aA aD aC)))) aC)))))))))
    bA)
   (aE (bB (bV hr (aB 3) aD)
    (aH (aV (bI (aA aI (aA (aR G48_ hr (bH 0 (aA (aB 1) aC))) aC)))))
    bA)
   (aE (bB (bV hr (aB 3) aD)
    (aE (aT 7 nd (aL gK (aR G41_ hr (bH 0 (aA aD aC))) (bG (nC rfl) rfl B.min boot_min (aA aD (aA (aB 2) aC)))))
    (aE (aT 8 nd (aL bC (aB 7) (aL gK (aU hr (bP (dD (aA aD (aA aD (aA aD (aA aD aC)))))) (aR G41_ hr (bH 0 (aA aD aC)))) (bG (nC rfl) rfl B.min boot_min (aA aD (aA (aB 2) aC))))))
    (aE (aT 9 nd (bI aC))
    (aE (bB (dA vY (aB 8) aD)
     (aH (aT 9 nd (aR G52_ hr (bH 0 (aA (aB 1) (aA (aL gU (aB 2) aD) (aA aD aC)))))))
     bA)
    (aH (aV (bI (aA aI (aA (aB 7) (aA (aB 8) (aA (aB 9) aC)))))))))))
    bA)
   (aE (bB (bV hr (aB 2) aD)
    (aH (aV (bI (aA aI (aA aD (aA aD (aA (bI aC) aC)))))))
    bA)
   (aE (bB (bV hr (aR G41_ hr (bH 0 (aA aD aC))) aD)
    (aH (aV (aR G50_ hr (bH 0 (aA (aB 1) (aA (aB 2) aC))))))
    bA)
   (aE (aT 6 nd (aR G41_ hr (bH 0 (aA (aU hr (bP (dD (aA aD (aA aD aC)))) (dS vC rfl B.int_ boot_int (aA (dF (gW hr.units).op (aB 4) aD) aC))) aC))))
   (aE (bB (dG (lD (bV hr (aB 4) aD) (lD (bV hr (aB 2) aD) (mP (bV hr (aR G41_ hr (bH 0 (aA aD aC))) aD)))))
    (aH (aT 6 nd aD))
    bA)
   (aH (aV (aR G49_ hr (bH 0 (aA (aB 1) (aA (aB 2) (aA (aB 6) aC))))))))))))))))) (λas R q=>?_)
 obtain⟨nm,tx,st,sp,deep,kind,most,rfl,hw,d0,d1,k0,k5,m1,m6,q⟩:=q
 refine⟨rfl,_,rfl,dX (λe=>?_) (λe0=>⟨_,rfl,dX (λe=>?_) (λe1=>⟨_,rfl,dX (λe=>?_) (λe2=>⟨_,rfl,dX (λe=>?_) (λe3=>⟨_,rfl,dX (λe=>?_) (λe4=>?_)⟩)⟩)⟩)⟩)⟩
 ·have:=q .nothing trivial (by rw[e];rfl)
  rw[aY]at this
  exact⟨by decide,this⟩
 ·refine⟨by decide,by decide,by decide,by decide,rfl,3,rfl,by decide,bJ (by decide) (by decide),λr r0 r1=>?_⟩
  obtain⟨U,hU,hm⟩:=jL (l:=[Tv.seq true [bT false],.seq true [bT true],.seq true [bT false,bT true]]) r0 r1
  refine⟨U,hU,by simp,?_⟩
  simp only[List.mem_cons,List.not_mem_nil,or_false]at hm
  rcases hm with rfl|rfl|rfl
  ·have:=q (.truths [false]) (.inl rfl) (by rw[e];rfl)
   rw[aY]at this;exact this
  ·have:=q (.truths [true]) (.inr (.inl rfl)) (by rw[e];rfl)
   rw[aY]at this;exact this
  ·have:=q (.truths [false,true]) (.inr (.inr rfl)) (by rw[e];rfl)
   rw[aY]at this;exact this
 ·have hst1:=hw.st1
  have hst2:=hw.st2
  have hsp1:=hw.sp1
  have hsp2:=hw.sp2
  refine⟨_,rfl,_,rfl,rfl,12,rfl,by decide,bJ (by decide) (by decide),λk k0 k1=>⟨.inr ⟨bJ (by omega) (by omega),bJ (by omega) (by omega)⟩,?_⟩⟩
  refine⟨by decide,rfl,5,rfl,by decide,bJ (by decide) (by decide),λr r0 r1=>?_⟩
  obtain⟨U,hU,hm⟩:=jL (l:=[iT 0,iT 1,iT 2,iT 3,iT 7]) r0 r1
  have hm:∃m:Int,U=iT m/\0<=m/\m<=7:=by
   simp only[List.mem_cons,List.not_mem_nil,or_false]at hm
   rcases hm with e|e|e|e|e<;>subst e<;>exact⟨_,rfl,by decide,by decide⟩
  obtain⟨m,rfl,mm0,mm7⟩:=hm
  refine⟨_,hU,?_⟩
  clear hU
  refine⟨_,rfl,.inr ⟨bJ (by omega) (by omega),bJ (by omega) (by omega)⟩,_,rfl,.inl ⟨_,_,rfl,.inr ⟨bJ (by omega) (by omega),bJ (by omega) (by omega)⟩,by simp,?_⟩⟩
  have:=q (.numbers _ _ _) (zEs hst1 hst2 hsp1 hsp2 k0 k1 mm0 mm7) (by rw[e];rfl)
  rw[aY]at this
  exact this
 ·refine⟨rfl,nm,tx,st,sp,rfl,hw,λw ww=>⟨by simp,?_⟩⟩
  have:=q (.texts w) ww (by rw[e];rfl)
  rw[aY]at this
  exact this
 ·have hd:min 1 deep=0\/min 1 deep=1:=by omega
  refine⟨rfl,4,rfl,by decide,bJ (by decide) (by decide),λa a0 a1=>.inl ⟨_,_,rfl,.inl (.inl ⟨by omega,by omega⟩),?_⟩⟩
  refine⟨by decide,rfl,4,rfl,by decide,bJ (by decide) (by decide),λr r0 r1=>?_⟩
  obtain⟨U,hU,hm⟩:=jL (l:=[iT 0,iT 1,iT 2,iT 57]) r0 r1
  have hm:∃m:Int,U=iT m/\0<=m/\m<=57:=by
   simp only[List.mem_cons,List.not_mem_nil,or_false]at hm
   rcases hm with e|e|e|e<;>subst e<;>exact⟨_,rfl,by decide,by decide⟩
  obtain⟨m,rfl,mm0,mm7⟩:=hm
  refine⟨_,hU,.inl ⟨_,_,rfl,.inl (.inl ⟨by omega,by omega⟩),?_⟩⟩
  clear hU
  refine⟨by decide,_,rfl,cT (λz=>?_) (λz=>?_)⟩
  ·have hd1:1<=deep:=by
    rcases hd with h|h
    ·rw[h]at z;omega
    ·omega
   refine⟨rfl,nm,tx,st,sp,_,_,rfl,hw,by omega,by omega,by decide,by decide,λf fn hf=>⟨by simp,?_⟩⟩
   have:=q (.lists (a*min 1 deep) (a*min 1 deep+m*min 1 deep) f) ⟨?_,?_,?_,λz'=>by omega,λ_=>⟨fn,hf.1,hf.2⟩⟩ (by rw[e];rfl)
   ·rw[iA]at this;exact this
   ·rcases hd with h|h<;>rw[h]<;>omega
   ·rcases hd with h|h<;>rw[h]<;>omega
   ·rcases hd with h|h<;>rw[h]<;>omega
  ·have h0:a*min 1 deep=0/\a*min 1 deep+m*min 1 deep=0:=by rcases hd with h|h<;>rw[h]at z ⊢<;>omega
   refine⟨by simp,?_⟩
   have:=q (.lists (a*min 1 deep) (a*min 1 deep+m*min 1 deep) []) ⟨by omega,by omega,by omega,λ_=>rfl,λz'=>by omega⟩ (by rw[e];rfl)
   rw[iA]at this
   exact this
 ·have hk:kind=5:=by omega
  refine⟨_,rfl,dX (λe=>?_) (λe5=>?_)⟩
  ·have:=q (.record 0 0 []) ⟨by decide,by decide,by decide,.nil,λx hx=>(nomatch hx),by decide,by decide,λh=>absurd h (by decide)⟩ (by rw[hk];rfl)
   rw[hZ]at this
   exact⟨by decide,by decide,this⟩
  ·refine⟨rfl,3,rfl,by decide,bJ (by decide) (by decide),λr r0 r1=>⟨_,rfl,dX (λ_=>?_) (λ_=>?_)⟩⟩
   ·exact⟨rfl,nm,tx,st,sp,deep,rfl,hw,by omega,d1,λa b w f hp=>q _ hp (by rw[hk];rfl)⟩
   ·refine⟨rfl,by decide,?_⟩
    have hmen:∃U:Int,atI [iT 4,iT 3] (if (false != eqV (.int most) (.int 2))=true then 1 else 0)=some (iT U)/\3<=U/\U<=4:=by
     by_cases h:(false != eqV (.int most) (.int 2))=true
     ·rw[if_pos h];exact⟨3,rfl,by decide,by decide⟩
     ·rw[if_neg h];exact⟨4,rfl,by decide,by decide⟩
    obtain⟨U,hU,u3,u4⟩:=hmen
    refine⟨_,hU,U,rfl,by omega,bJ (by omega) (by omega),λm m0 mU=>?_⟩
    have rcd:∀mn:Int,0<=mn->mn<=8->vD n [.dk,.va (dW nm tx st sp),.va (iT deep),.va (iT mn)] R:=λmn h1 h2=>⟨nm,tx,st,sp,deep,mn,rfl,hw,by omega,d1,h1,h2,λa b fs hp=>q _ hp (by rw[hk];rfl)⟩
    refine⟨_,rfl,dX (λ_=>⟨_,rfl,dX (λ_=>⟨rfl,4,rfl,by decide,bJ (by decide) (by decide),λj j0 j1=>⟨_,rfl,dX (λ_=>?_) (λ_=>?_)⟩⟩) (λ_=>aX ?_)⟩) (λ_=>aX ?_)⟩
    ·exact⟨rfl,rcd 8 (by decide) (by decide)⟩
    ·exact⟨rfl,rcd m (by omega) (by omega)⟩
    ·exact⟨rfl,rcd m (by omega) (by omega)⟩
    ·exact⟨rfl,rcd m (by omega) (by omega)⟩
end
section
variable{P:Program}{w:World}{K:W.Frag}{mg:Str->Option Value}{base:Heap}
variable{n:Nat}
theorem zAh{n:Nat}:∀{ks:List Int}{Us:List Tv},Paired (λT U=>∃(k:Int) (p:Pt),T=iT k/\U=aY p/\PartOk (n+1) p/\(dC p:Int)=k) (ks.map iT) Us->∃f:List Pt,Us=f.map aY/\f.map (λp=>(dC p:Int))=ks/\∀p∈f,PartOk (n+1) p
 |[],[],_=>⟨[],rfl,rfl,λx hx=>nomatch hx⟩
 |k::ks,U::Us,.cons r t=>by
  obtain⟨fs,rfl,e2,h⟩:=zAh (ks:=ks) t
  obtain⟨k',p,e,rfl,hp,hk⟩:=r
  have e:k=k':=by cases e;rfl
  subst e
  refine⟨p::fs,rfl,by rw[List.map_cons,e2,hk],λx hx=>?_⟩
  rcases List.mem_cons.mp hx with rfl|hx
  ·exact hp
  ·exact h x hx
theorem zG5{rs:List Int}{r:Int}(h0:0<=r)(h1:r<rs.length):∃x,rs[r.toNat]?=some x:=⟨rs[r.toNat]'(by omega),List.getElem?_eq_getElem _⟩
theorem zK1:bM ["_law_deck_here","_law_world_here","_law_deep","_law_most","_law_kinds","_law_some"] ["_law_deck_here","_law_world_here","_law_deep","_law_most"] (aO mB):=fsc (by decide +kernel)
theorem zKi(h:Has K mg "_law_form" mB)(B:Own mg)(G41_:aG P w K mg base 2 "_law_take" ["_law_deck_here","_law_most"] fD)(G51_:aG P w K mg base (6+3*n+2) "_law_part" ["_law_deck_here","_law_world_here","_law_deep","_law_kind","_law_most"] (zAY n))   : aG P w K mg base (6+3*n+3) "_law_form" ["_law_deck_here","_law_world_here","_law_deep","_law_most"] (kC (n+1)):=by
 refine h.pg4 ["_law_deck_here","_law_world_here","_law_deep","_law_most","_law_kinds","_law_some"] (λnd hr=>
   (aE (iR 4 nd (zEZ rfl rfl B.range rfl B.list_ (aA aD aC)))
   (aE (vQ (sc:=aO mB) (XN:=["_law_deck_here","_law_world_here","_law_deep","_law_most","_law_kinds","_law_some"]) (N:=["_law_k","_law_deck_here","_law_kinds"]) (fr:=[0,4]) 5 nd (iB rfl B.range (aA (aL bC aD (aR G41_ hr (bH 0 (aA (aB 3) aC)))) aC)) (λ_ _ _ _ _=>qG) (λ_ _ _ _ _=>(tJ 2 (aR G41_ hr (bH 1 (aA (tW λF=>(bG cB rfl B.len PySem.boot_len (aA (aB 2) aC))) aC))))))
   (aH (aV (dS jX rfl B.tuple_ boot_tuple (aA (bP (dO (sc:=aO mB) (XN:=["_law_deck_here","_law_world_here","_law_deep","_law_most","_law_kinds","_law_some"]) (N:=["_law_kind","_law_deck_here","_law_world_here","_law_deep","_law_most"]) (fr:=[0,1,2,3]) (cQ (bP (tI (sW rfl) rfl B.sorted boot_sorted (aA (aB 5) aC)))) (λ_ _ _ _ _=>(aR G51_ hr (bH 1 (aA (aB 2) (aA (aB 3) (aA (aB 0) (aA (aB 4) aC))))))))) aC))))))) (λas R q=>?_)
 obtain⟨nm,tx,st,sp,deep,most,rfl,hw,d0,d1,m1,m6,q⟩:=q
 refine⟨rfl,6,rfl,by decide,?_⟩
 refine⟨rfl,_,rfl,by omega,bJ (by omega) (by omega),λc c0 c1=>⟨_,rfl,by omega,by omega,by rw[gH];omega,?_⟩⟩
 refine tE (λi Us ρ=>∃ps rs:List Int,Us=ps.map iT/\ps.length=i/\(ps++rs).Perm [0,1,2,3,4,5]/\ρ=[.dk,.va (dW nm tx st sp),.va (iT deep),.va (iT most),.own (rs.map iT),.no]) ⟨[],[0,1,2,3,4,5],rfl,rfl,List.Perm.refl _,rfl⟩ ?_ ?_
 ·rintro i T _ _ hT ⟨ps,rs,rfl,hl,hp,rfl⟩ R hR
  have hi:=(jW hT).1
  have hlen:=hp.length_eq
  rw[List.length_append]at hlen
  have hlen:ps.length+rs.length=6:=hlen
  refine⟨⟨_,rfl⟩,rfl,_,rfl,(rs.map iT).length,rfl,by rw[List.length_map];omega,by rw[List.length_map];exact bJ (by omega) (by omega),λr r0 r1=>?_⟩
  rw[List.length_map]at r1
  obtain⟨x,hx⟩:=zG5 r0 r1
  refine⟨r,_,iT x,rfl,rfl,r0,by rw[List.getElem?_map,hx];rfl,hR (some (iT x)) _ ⟨ps++[x],rs.eraseIdx r.toNat,by rw[List.map_append];rfl,by rw[List.length_append,hl];rfl,tO hp hx,?_⟩⟩
  show [Sl.dk,.va (dW nm tx st sp),.va (iT deep),.va (iT most),.own ((rs.map iT).eraseIdx r.toNat),.no]=_
  rw[pB]
 ·rintro _ _ ⟨ps,rs,rfl,hl,hp,rfl⟩
  rw[gH]at hl
  have hnd:ps.Nodup:=(hp.nodup_iff.mpr (by decide)).sublist (List.sublist_append_left _ _)
  refine .inl ⟨ps,rfl,by omega,λms hm hs=>?_⟩
  have hml:ms.length=ps.length:=hm.length_eq
  refine⟨by rw[List.length_map];omega,?_⟩
  refine tD (λT U=>∃(k:Int) (p:Pt),T=iT k/\U=aY p/\PartOk (n+1) p/\(dC p:Int)=k) (λT hT R hR=>?_) (λUs hUs=>?_)
  ·obtain⟨k,hk,rfl⟩:=List.mem_map.mp hT
   have hk:k∈[0,1,2,3,4,5]:=hp.mem_iff.mp (List.mem_append_left _ (hm.mem_iff.mp hk))
   have hk:0<=k/\k<=5:=by
    simp only[List.mem_cons,List.not_mem_nil,or_false]at hk
    omega
   exact⟨rfl,nm,tx,st,sp,deep,k,most,rfl,hw,d0,by omega,hk.1,hk.2,m1,m6,λp hp hkp=>hR _ ⟨k,p,rfl,rfl,hp,hkp⟩⟩
  ·obtain⟨f,rfl,e,hf⟩:=zAh hUs
   refine⟨false,_,rfl,q f (λz=>?_) ⟨?_,hf⟩⟩
   ·rw[z]at e
    have:ms.length=0:=by rw[<-e];rfl
    omega
   ·have h1:ms.Pairwise (· < ·):=by
     have h2:ms.Nodup:=hm.nodup_iff.mpr hnd
     exact List.Pairwise.imp₂ (λa b h n=>by omega) hs h2
    rw[<-e,List.pairwise_map]at h1
    exact h1.imp λh=>by omega
theorem pZ(hf:Has K mg "_law_form" mB)(hp:Has K mg "_law_part" wR)(ht:Has K mg "_law_table" wS)(hrc:Has K mg "_law_record" mC)(B:Own mg)(G1:aG P w K mg base 2 "_law_take" ["_law_deck_here","_law_most"] fD)(G2:aG P w K mg base 4 "_law_make" ["_law_deck_here"] nE)
  (G3:aG P w K mg base 5 "_law_some_words" ["_law_deck_here","_law_world_here"] oR):∀n:Nat,aG P w K mg base (6+3*n) "_law_form" ["_law_deck_here","_law_world_here","_law_deep","_law_most"] (kC n)
 |0=>hf.pfalse zK1 (fun|_,_,_,_,_,_,[_,_,_,_],_=>rfl) λas R ⟨_,_,_,_,_,_,_,_,h0,h1,_⟩=>by omega
 |n+1=>zKi hf B G1 (zKj hp B G1 G3 (pZ hf hp ht hrc B G1 G2 G3 n) (zKk ht B G2 G1 (pZ hf hp ht hrc B G1 G2 G3 n)) (zKl hrc B G1 (pZ hf hp ht hrc B G1 G2 G3 n)))
end
end My
namespace My
open PySem L2 PyProof.Rows WordM
section
variable{P:Program}{w:World}{K:W.Frag}{mg:Str->Option Value}{base:Heap}
theorem zFX(p:Pt):∃r,aY p=.seq true (sT (vP p)::r)/\r.length<=4:=by
 cases p with
 |record a b fs=>exact⟨_,hZ a b fs,by simp⟩
 |lists a b f=>exact⟨_,iA a b f,by simp⟩
 |table a b w f=>exact⟨_,jR a b w f,by simp⟩
 |_=>rw[aY];exact⟨_,rfl,by simp⟩
theorem zDQ(fm:Tv->Bool)(l:List Tv):dP fm (.seq true (sT "lists"::l))=qQ fm (sT "lists"::l):=rfl
theorem zDv(fm:Tv->Bool)(l:List Tv):dP fm (.seq true (sT "record"::l))=sB fm (sT "record"::l):=rfl
theorem zDP(fm:Tv->Bool)(l:List Tv):dP fm (.seq true (sT "table"::l))=rK fm (sT "table"::l):=rfl
theorem zDu(fm:Tv->Bool)(l:List Tv):dP fm (.seq true (sT "truths"::l))=oI trB l:=rfl
theorem zDk(fm:Tv->Bool)(l:List Tv):dP fm (.seq true (sT "numbers"::l))=gY l:=rfl
theorem zDO(fm:Tv->Bool)(l:List Tv):dP fm (.seq true (sT "texts"::l))=oI gO l:=rfl
def FlG(b:Bool):Nat->Tv->Prop
 |_+1,.leaf .non=>True
 |_+1,.leaf (.bl _)=>True
 |_+1,.leaf (.int i)=>b=true->i<10 ^ 90
 |_+1,.leaf (.str s)=>s.length<=1000
 |n+1,.seq _ l=>l.length<=100/\∀x∈l,FlG b n x
 |_,_=>False
theorem FlG.le{b:Bool}:∀{n m:Nat}{U:Tv},n<=m->FlG b n U->FlG b m U
 |0,_,_,_,h=>by simp[FlG]at h
 |n+1,0,_,l,_=>absurd l (by omega)
 |n+1,m+1,.seq _ _,l,h=>⟨h.1,λx hx=>FlG.le (by omega) (h.2 x hx)⟩
 |n+1,m+1,.dct _,_,h=>by simp[FlG]at h
 |n+1,m+1,.leaf v,_,h=>by cases v<;>exact h
theorem FlG.fle:∀{n:Nat}{U:Tv},FlG true n U->FlE n U
 |0,_,h=>by simp[FlG]at h
 |n+1,.dct _,h=>by simp[FlG]at h
 |n+1,.seq t l,h=>⟨h.1,λx hx=>(h.2 x hx).fle,λa b f e kts z=>by
  subst z;subst e
  have:=h.2 (.dct kts) (by simp)
  cases n<;>simp[FlG]at this⟩
 |n+1,.leaf v,h=>by
  cases v with
  |non=>exact⟨rfl,(λ_ e=>nomatch e),(λ_ e=>nomatch e)⟩
  |bl b=>exact⟨rfl,(λ_ e=>nomatch e),(λ_ e=>nomatch e)⟩
  |int i=>exact⟨rfl,(λ_ e=>nomatch e),λj e=>by cases e;exact h rfl⟩
  |str s=>exact⟨rfl,λz e=>by cases e;exact h,(λ_ e=>nomatch e)⟩
  |_=>simp[FlG]at h
theorem gE{n:Nat}{i:Int}(h:i<10 ^ 90):FlG true (n+1) (iT i):=λ_=>h
theorem zCd{n:Nat}{b:Bool}:FlG true (n+1) (bT b):=trivial
theorem fS{n:Nat}{s:Str}(h:s.length<=1000):FlG true (n+1) (sT s):=h
theorem eW{n:Nat}{t:Bool}{l:List Tv}(h1:l.length<=100)(h2:∀x∈l,FlG true n x):FlG true (n+1) (.seq t l):=⟨h1,h2⟩
theorem an{p:Tv->Prop}:∀x∈([]:List Tv),p x:=λ_ h=>absurd h (List.not_mem_nil)
theorem ac{p:Tv->Prop}{x:Tv}{l:List Tv}(h:p x)(k:∀y∈l,p y):∀y∈x::l,p y:=List.forall_mem_cons.mpr ⟨h,k⟩
theorem zBT{n:Nat}{ss:List Str}(h1:ss.length<=100)(h2:∀s∈ss,s.length<=1000):FlG true (n+2) (.seq true (ss.map sT)):=eW (by rw[List.length_map];exact h1) λx hx=>by
 obtain⟨s,hs,rfl⟩:=List.mem_map.mp hx
 exact fS (h2 s hs)
theorem uX{s:Str}(h:dR s):s.length<=1000:=by have:=h.2;omega
theorem zFC{s:Str}(h:s∈MK):s.length<=1000:=by
 simp only[MK,List.mem_cons,List.not_mem_nil,or_false]at h
 rcases h with rfl|rfl|rfl|rfl<;>decide +kernel
theorem zCe{n:Nat}{w:Wd}(h:dQ w):FlG true (n+3) (dJ w):=by
 cases w with
 |few ts=>
  exact eW (by simp) (ac (fS (by decide +kernel)) (ac (zBT (by have:=h.2.1;omega) λs hs=>uX (h.2.2.2 s hs)) an))
 |make hd a b ms=>
  obtain⟨h1,h2,h3,h4,h5,h6,h7⟩:=h
  exact eW (by simp) (ac (fS (by decide +kernel)) (ac (fS (uX h1)) (ac (gE (by omega)) (ac (gE (by omega)) (ac (zBT (by have:=h6.length_le;simp[MK]at this;omega) λs hs=>zFC (h6.subset hs)) an)))))
theorem zCf:∀(n:Nat) {f:List Pt},fF n f->FlG true (4*n+1) (bW f)
 |n,f,ok=>by
  refine eW (by rw[List.length_map];have:=zEE ok.1;omega) λx hx=>?_
  obtain⟨p,hp,rfl⟩:=List.mem_map.mp hx
  have hp:=ok.2 p hp
  match n,hp with
  |n+1,hp=>
  have ih:∀{f:List Pt},fF n f->FlG true (4*n+1) (bW f):=λh=>zCf n h
  show FlG true (4*n+3+1) (aY p)
  cases p with
  |nothing=>
   rw[aY]
   exact eW (by simp) λx hx=>by rw[List.mem_singleton.mp hx];exact fS (by decide +kernel)
  |truths bs=>
   rw[aY]
   refine eW (by simp) (ac (fS (by decide +kernel)) (ac ?_ an))
   ·refine eW (by rw[List.length_map];rcases hp with rfl|rfl|rfl<;>decide) λx hx=>?_
    obtain⟨b,_,rfl⟩:=List.mem_map.mp hx
    exact zCd
  |numbers lo hi st=>
   obtain⟨⟨_,h1⟩,⟨_,h2⟩,⟨_,h3⟩,_⟩:=hp
   rw[aY]
   exact eW (by simp) (ac (fS (by decide +kernel)) (ac (gE (by omega)) (ac (gE (by omega)) (ac (gE (by omega)) an))))
  |texts w=>
   rw[aY]
   exact eW (by simp) (ac (fS (by decide +kernel)) (ac ((zCe (n:=0) hp).le (show 0+3<=4*n+3 by omega)) an))
  |lists a b f=>
   rw[iA]
   obtain⟨h1,h2,h3,h4,h5⟩:=hp
   have hf:fF n f:=by
    by_cases z:b=0
    ·rw[h4 z];exact⟨.nil,(λp hp=>(nomatch hp))⟩
    ·exact(h5 z).2
   exact eW (by simp) (ac (fS (by decide +kernel)) (ac (gE (by omega)) (ac (gE (by omega)) (ac ((ih hf).le (by omega)) an))))
  |record a b fs=>
   rw[hZ]
   obtain⟨h1,h2,h3,h4,h5,h6,h7,h8⟩:=hp
   refine eW (by simp) (ac (fS (by decide +kernel)) (ac (gE (by omega)) (ac (gE (by omega)) (ac ?_ an))))
   ·refine eW (n:=4*n+2) (by rw[List.length_map];omega) λx hx=>?_
    obtain⟨y,hy,rfl⟩:=List.mem_map.mp hx
    have hy:=h5 y hy
    exact eW (n:=4*n+1) (by simp) (ac (fS (uX hy.1)) (ac (zCd) (ac (ih hy.2.2) an)))
  |table a b w f=>
   rw[jR]
   obtain⟨h1,h2,h3,h4,h5,h6,h7,h8⟩:=hp
   exact eW (by simp) (ac (fS (by decide +kernel)) (ac (gE (by omega)) (ac (gE (by omega)) (ac ((zCe (n:=0) h5).le (show 0+3<=4*n+3 by omega)) (ac ((ih h8).le (by omega)) an)))))
theorem tX{ss:List Str}(h:∀s∈ss,dR s):((ss.map sT).all txB)=true:=List.all_eq_true.mpr λx hx=>by
 obtain⟨s,hs,rfl⟩:=List.mem_map.mp hx
 show(cs s).all gB=true
 exact List.all_eq_true.mpr λc hc=>(show ∀c∈cs SIG,gB c=true by decide +kernel) c ((h s hs).1 c hc)
theorem yV{w:Wd}(h:dQ w):gO (dJ w)=true:=by
 cases w with
 |few ts=>
  show(if L2.eqT (sT "few") (sT "few")=true then zCT (.seq true (ts.map sT)) else(L2.eqT (sT "few") (sT "make")&&false))=true
  rw[if_pos (by decide)]
  show(decide (1<=(ts.map sT).length)&&decide ((ts.map sT).length<=6)&&((ts.map sT).all txB&&eN ((ts.map sT).map cF)))=true
  rw[List.length_map,pO,(mI ts).mpr h.2.2.1,tX h.2.2.2,decide_eq_true h.1,decide_eq_true h.2.1]
  rfl
 |make hd a b ms=>
  obtain⟨h1,h2,h3,h4,h5,h6,h7⟩:=h
  show(if L2.eqT (sT "make") (sT "few")=true then false else(L2.eqT (sT "make") (sT "make")&&(txB (sT hd)&&(kJ (.seq true (ms.map sT))&&kO (iT a) (iT b)))))=true
  rw[if_neg (by decide),show L2.eqT (sT "make") (sT "make")=true by decide,Bool.true_and]
  have e1:txB (sT hd)=true:=by
   have:=tX (ss:=[hd]) λs hs=>by rw[List.mem_singleton.mp hs];exact h1
   simpa using this
  have e2:kJ (.seq true (ms.map sT))=true:=by
   show(decide (ms.map sT≠[])&&((ms.map sT).all mkB&&eN ((ms.map sT).map cF)))=true
   rw[pO,(mI ms).mpr (mk_rise.sublist h6),decide_eq_true (show ms.map sT≠[] from λz=>h7 (List.map_eq_nil_iff.mp z)),List.all_eq_true.mpr (λx hx=>by
    obtain⟨s,hs,rfl⟩:=List.mem_map.mp hx
    have:=h6.subset hs
    simp only[MK,List.mem_cons,List.not_mem_nil,or_false]at this
    rcases this with rfl|rfl|rfl|rfl<;>decide +kernel)]
   rfl
  have e3:kO (iT a) (iT b)=true:=by
   show(decide (0<=a)&&decide (a<=b)&&decide (1<=b))=true
   rw[decide_eq_true h2,decide_eq_true h3,decide_eq_true h4];rfl
  rw[e1,e2,e3];rfl
theorem tL{fm:Tv->Bool}{f:List Pt}(h:fm (bW f)=true)(ne:f≠[]):eD fm (bW f)=true:=by
 unfold eD
 rw[h]
 cases f with
 |nil=>exact absurd rfl ne
 |cons p f=>rfl
theorem uP{a b:Int}(h1:0<=a)(h2:a<=b):dL (iT a) (iT b)=true:=by
 show(decide (0<=a)&&decide (a<=b))=true
 rw[decide_eq_true h1,decide_eq_true h2];rfl
theorem zDL:∀{f:List Pt},fY f->iN ((f.map aY).map kix)=true:=by
 have kx:∀p:Pt,kix (aY p)=(dC p:Int):=λp=>by
  obtain⟨r,e,_⟩:=zFX p
  rw[e]
  show jM (vP p)=_
  cases p<;>simp only[vP,dC]<;>decide +kernel
 intro f h
 rw[List.map_map]
 induction f with
 |nil=>rfl
 |cons p f ih=>
  cases f with
  |nil=>rfl
  |cons q f=>
   have hc:=List.pairwise_cons.mp h
   have:=hc.1 q (.head _)
   show(decide (kix (aY p)<kix (aY q))&&iN ((q::f).map (kix∘aY)))=true
   rw[kx,kx,decide_eq_true (by omega),ih hc.2];rfl
theorem zFs{n:Nat}{fm:Tv->Bool}(ih:∀f,fF n f->fm (bW f)=true){p:Pt}(h:PartOk (n+1) p):dP fm (aY p)=true:=by
 cases p with
 |nothing=>rw[aY];rfl
 |truths bs=>
  rw[aY,zDu]
  rcases h with rfl|rfl|rfl<;>rfl
 |numbers lo hi st=>
  obtain⟨_,_,_,h1,h2,h3,h4⟩:=h
  rw[aY,zDk]
  show(if lo=hi then decide (st=0) else(decide (lo<hi)&&(decide (1<=st)&&decide ((hi-lo) % st=0))))=true
  by_cases z:lo=hi
  ·rw[if_pos z];exact decide_eq_true (h3.mpr z)
  ·have:st≠0:=λe=>z (h3.mp e)
   rw[if_neg z,decide_eq_true (by omega),decide_eq_true (by omega),decide_eq_true (h4 this)];rfl
 |texts w=>rw[aY,zDO];exact yV h
 |lists a b f=>
  rw[iA,zDQ]
  obtain⟨h1,h2,h3,h4,h5⟩:=h
  show(dL (iT a) (iT b)&&(if nQ (iT b) then mG (bW f) else eD fm (bW f)))=true
  rw[uP h1 h2]
  by_cases z:b=0
  ·rw[show nQ (iT b)=true from decide_eq_true z,h4 z];rfl
  ·rw[show nQ (iT b)=false from decide_eq_false z,tL (ih f (h5 z).2) (h5 z).1];rfl
 |record a b fs=>
  rw[hZ,zDv]
  obtain⟨h1,h2,h3,h4,h5,h6,h7,h8⟩:=h
  show(dL (iT a) (iT b)&&(jA fm (.seq true (fs.map bQ))&&sA (iT a) (iT b) (fs.map bQ)))=true
  have e1:jA fm (.seq true (fs.map bQ))=true:=by
   show(decide ((fs.map bQ).length<=8)&&((fs.map bQ).all (fR fm)&&eN ((fs.map bQ).map λf=>cF (kP f))))=true
   rw[List.length_map,decide_eq_true h3,List.map_map,show(fs.map ((λf=>cF (kP f))∘bQ))=fs.map (·.1) from rfl,(mI _).mpr h4,List.all_eq_true.mpr (λx hx=>by
    obtain⟨y,hy,rfl⟩:=List.mem_map.mp hx
    have hy:=h5 y hy
    show(txB (sT y.1)&&(true&&eD fm (bW y.2.2)))=true
    have:=tX (ss:=[y.1]) λs hs=>by rw[List.mem_singleton.mp hs];exact hy.1
    rw[tL (ih _ hy.2.2) hy.2.1,show txB (sT y.1)=true by simpa using this];rfl)]
   rfl
  have e2:sA (iT a) (iT b) (fs.map bQ)=true:=by
   have em:((fs.map bQ).filter gC).length=fB fs:=by
    rw[List.filter_map,List.length_map];rfl
   show(if ((((fs.map bQ).filter gC).length:Nat):Int)<(((fs.map bQ).length:Nat):Int)/\(a=(((fs.map bQ).length:Nat):Int)\/b=((((fs.map bQ).filter gC).length:Nat):Int)) then false else decide (((((fs.map bQ).filter gC).length:Nat):Int)<=a)&&decide (b<=(((fs.map bQ).length:Nat):Int)))=true
   rw[em,List.length_map,if_neg (λz=>by have:=h8 (by omega);omega),decide_eq_true h6,decide_eq_true h7];rfl
  rw[uP h1 h2,e1,e2];rfl
 |table a b w f=>
  rw[jR,zDP]
  obtain⟨⟨h1,hm⟩,h2,h3,h4,h5,h6,h7,h8⟩:=h
  show(dL (iT a) (iT b)&&(gO (dJ w)&&(lX (iT b) (dJ w)&&eD fm (bW f))))=true
  rw[uP h1.1 h2,yV h5,tL (ih f h8) h7]
  cases w with
  |few ts=>cases h6
  |make hd lo hi ms=>
   show(true&&(true&&((decide (b≠0)&&decide (b<=lU lo hi ((ms.map sT).map cF) b))&&true)))=true
   rw[pO,show lU lo hi ms b=b from hm,decide_eq_true (by omega),decide_eq_true (Int.le_refl b)];rfl
theorem zAq:∀(k n:Nat) (f:List Pt),n<k->fF n f->kL k (bW f)=true
 |0,n,f,h,_=>absurd h (Nat.not_lt_zero _)
 |k+1,n,f,h,ok=>by
  show((f.map aY).all (dP (kL k))&&iN ((f.map aY).map kix))=true
  rw[zDL ok.1,Bool.and_true]
  refine List.all_eq_true.mpr λx hx=>?_
  obtain⟨p,hp,rfl⟩:=List.mem_map.mp hx
  have hp:=ok.2 p hp
  match n,hp,h with
  |n+1,hp,h=>exact zFs (λf hf=>zAq k n f (by omega) hf) hp
end
end My
namespace My
open PySem L2 PyProof.Rows WordM
section
variable{P:Program}{w:World}{K:W.Frag}{mg:Str->Option Value}{base:Heap}{C:Addr}
def nH:bX:=λt p Ts R=>∃(w:Str) (r:List Nat),Ts=[sT w]/\Rst t p r/\R (bT ((cs w).isPrefixOf r)) p
theorem scm_sees:bM ["self","words"] ["self","words"] (aO kB):=fsc (by decide +kernel)
theorem zIk(h:HasM K C "sees" "Reader.sees" kB)(B:Own mg)(hC:RdK K C)     : bO P w K mg base 1 "sees" ["self","words"] C nH:=by
 have nd:=scm_sees.nd
 refine h.pgR scm_sees (fun|_,_,_,_,_,_,[_,_],_=>rfl) (λf cdv A outer s H E F hF hr=>
   (aH (cI (gS PySem.F.slot_str_startswith PySem.F.type_str_startswith zDM (kG 0 hF hC) (aA (aB 1) (aA (gQ 0 hF hC) aC)))))) (λt p Ts R q=>?_)
 obtain⟨w,r,rfl,hr,q⟩:=q
 refine⟨rfl,t,p,rfl,rfl,t,p,rfl,t,w,p,rfl,rfl,?_⟩
 rw[hr.starts]
 exact⟨p,rfl,q⟩
def dY:bX:=λt p Ts R=>∃(w:Str) (r:List Nat),Ts=[sT w]/\w.length<=1000/\Rst t p r/\(∀r',r=cs w++r'->∀p',Rst t p' r'->R (bT true) p')/\((cs w).isPrefixOf r=false->R (bT false) p)
theorem scm_passes:bM ["self","words"] ["self","words"] (aO jT):=fsc (by decide +kernel)
theorem zFG(h:HasM K C "passes" "Reader.passes" jT)(B:Own mg)(hC:RdK K C)(Msees:bO P w K mg base 1 "sees" ["self","words"] C nH)    : bO P w K mg base 2 "passes" ["self","words"] C dY:=by
 have nd:=scm_passes.nd
 refine h.pgR scm_passes (fun|_,_,_,_,_,_,[_,_],_=>rfl) (λf cdv A outer s H E F hF hr=>
   (aE (bB (cS (bN (bS 0 hF hC Msees (hr.mono (by omega)) (aA (aB 1) aC))))
    (aH (cI cK))
    bA)
   (aE (uT 0 hF hC (aL bC (gQ 0 hF hC) (bG cB rfl B.len PySem.boot_len (aA (aB 1) aC))))
   (aH (cI cK))))) (λt p Ts R q=>?_)
 obtain⟨w,r,rfl,hw,hr,q1,q2⟩:=q
 refine⟨rfl,⟨t,p,rfl⟩,t,p,[sT w],rfl,⟨rfl,trivial⟩,w,r,rfl,hr,_,rfl,sif (λz=>⟨p,rfl,q2 (by simpa using z)⟩) (λz=>?_)⟩
 have z:(cs w).isPrefixOf r=true:=by simpa using z
 obtain⟨r',e⟩:=List.isPrefixOf_iff_prefix.mp z
 subst e
 refine⟨t,p,rfl,by omega,_,t,p,rfl,rfl,⟨_,rfl,q1 r' rfl _ ?_⟩⟩
 have:=hr.go
 rw[<-len]at this
 exact this
def eP:bX:=λt p Ts R=>∃(w:Str) (r:List Nat),Ts=[sT w]/\w.length<=1000/\Rst t p (cs w++r)/\∀p',Rst t p' r->R nT p'
theorem gI(a r:List Nat):a.isPrefixOf (a++r)=true:=List.isPrefixOf_iff_prefix.mpr ⟨r,rfl⟩
theorem scm_needs:bM ["self","words"] ["self","words"] (aO jV):=fsc (by decide +kernel)
theorem zGN(h:HasM K C "needs" "Reader.needs" jV)(B:Own mg)(hC:RdK K C)(Mpasses:bO P w K mg base 2 "passes" ["self","words"] C dY)    : bO P w K mg base 3 "needs" ["self","words"] C eP:=by
 have nd:=scm_needs.nd
 refine h.pgR scm_needs (fun|_,_,_,_,_,_,[_,_],_=>rfl) (λf cdv A outer s H E F hF hr=>
   (aH (bB (cS (bN (bS 0 hF hC Mpasses (hr.mono (by omega)) (aA (aB 1) aC))))
    (aH lE)
    bA))) (λt p Ts R q=>?_)
 obtain⟨w,r,rfl,hw,hr,q⟩:=q
 refine⟨rfl,⟨t,p,rfl⟩,t,p,[sT w],rfl,⟨rfl,trivial⟩,w,_,rfl,hw,hr,λr' e p' h'=>?_,λz=>?_⟩
 ·have:=List.append_cancel_left e
  subst this
  exact⟨_,rfl,⟨p',rfl,q p' h'⟩⟩
 ·rw[gI]at z
  cases z
def zB3:bX:=λt p Ts R=>Ts=[]/\t.length<=100000/\Rst t p []/\R nT p
theorem scm_needs_end:bM ["self"] ["self"] (aO jP):=fsc (by decide +kernel)
theorem zDx(h:HasM K C "needs_end" "Reader.needs_end" jP)(B:Own mg)(hC:RdK K C)     : bO P w K mg base 1 "needs_end" ["self"] C zB3:=by
 have nd:=scm_needs_end.nd
 refine h.pgR scm_needs_end (fun|_,_,_,_,_,_,[_],_=>rfl) (λf cdv A outer s H E F hF hr=>
   (aH (bB (dA iO (gQ 0 hF hC) (bG cB rfl B.len PySem.boot_len (aA (kG 0 hF hC) aC)))
    (aH lE)
    bA))) (λt p Ts R q=>?_)
 obtain⟨rfl,ht,hr,q⟩:=q
 have:=hr.all
 refine⟨rfl,t,p,rfl,t,p,rfl,ht,_,rfl,cT (λz=>?_) (λz=>⟨p,rfl,q⟩)⟩
 exact absurd z (by simp at this;omega)
end
end My
namespace My
open PySem L2 PyProof.Rows WordM
section
variable{P:Program}{w:World}{K:W.Frag}{mg:Str->Option Value}{base:Heap}{C:Addr}
theorem zEq{s u:UTs}{P:PEnds}{ρ:aQ}{J:aQ->Prop}(h:∀ρ',J ρ'->u P ρ')(hs:(∀ρ',J ρ'->u P ρ')->s {P with nx:=λρ'=>u P ρ'} ρ):cC s u P ρ:=hs h
theorem zGZ(c:Nat):c∈cs ("0123456789":Str)↔fig c:=by
 show c∈[48,49,50,51,52,53,54,55,56,57]↔_
 simp only[List.mem_cons,List.not_mem_nil,or_false]
 omega
theorem zBR(c:Nat):inS ⟨#[c]⟩ "0123456789"=decide (fig c):=by
 show(!(Builtin.Str.occurrences _ _ 0 _ 1).isEmpty)=_
 rw[StrLaws.found_one,Bool.eq_iff_iff,decide_eq_true_iff,decide_eq_true_iff]
 exact zGZ c
theorem zBb{i:Int}(h:i.natAbs<10 ^ 65):i.natAbs.log2<1920:=by
 by_cases z:i.natAbs=0
 ·rw[z];decide
 ·rw[Nat.log2_lt z];exact Nat.lt_trans h (by decide)
abbrev zCQ:UTt:=zCk (uB (uOp pLt (wM 0) (uCB xQ (jF (wL 0) fI)))) (uB (uOp pIn (uOp pIx (wL 0) (wM 0)) (uC (sT (Str.ofString "0123456789")))))
theorem zGa{t:Str}{p:Int}{r:List Nat}{ρ:aQ}{Q:Bool->aQ->Prop}(ht:t.length<=100000)(h:Rst t p r)(hf:∀c l,r=c::l->¬ fig c)(q:Q false (.rd t p::ρ)):zCQ (.rd t p::ρ) Q:=by
 have a:=h.all
 refine⟨t,p,rfl,t,p,rfl,ht,_,rfl,?_⟩
 cases r with
 |nil=>
  rw[show decide (p<(t.length:Int))=false from decide_eq_false (by simp at a;omega)]
  exact q
 |cons c l=>
  rw[show decide (p<(t.length:Int))=true from decide_eq_true (by simp at a;omega)]
  refine⟨t,p,rfl,t,p,rfl,ht,c,h.at_,?_⟩
  show ∃b,bT (false != inS ⟨#[c]⟩ "0123456789")=bT b/\_
  rw[zBR,show decide (fig c)=false from decide_eq_false (hf c l rfl)]
  exact⟨false,rfl,q⟩
theorem zE4{t:Str}{p:Int}{c:Nat}{r:List Nat}{ρ:aQ}{Q:Bool->aQ->Prop}(ht:t.length<=100000)(h:Rst t p (c::r))(hf:fig c)(q:Q true (.rd t p::ρ)):zCQ (.rd t p::ρ) Q:=by
 have a:=h.all
 refine⟨t,p,rfl,t,p,rfl,ht,_,rfl,?_⟩
 rw[show decide (p<(t.length:Int))=true from decide_eq_true (by simp at a;omega)]
 refine⟨t,p,rfl,t,p,rfl,ht,c,h.at_,?_⟩
 show ∃b,bT (false != inS ⟨#[c]⟩ "0123456789")=bT b/\_
 rw[zBR,show decide (fig c)=true from decide_eq_true hf]
 exact⟨true,rfl,q⟩
theorem zBz(x:Str):(⟨(cs x).toArray⟩:Str)=x:=kZ (by simp)
def wD:bX:=λt p Ts R=>∃(i:Int) (r:List Nat),Ts=[]/\i.natAbs<10 ^ 65/\t.length<=100000/\Rst t p (cs (Str.ofString (toString i))++r)/\(∀c l,r=c::l->¬ fig c)/\∀p',Rst t p' r->R (iT i) p'
theorem scm_read_number:bM ["self","start","written","number"] ["self"] (aO jO):=fsc (by decide +kernel)
theorem zDe(h:HasM K C "read_number" "Reader.read_number" jO)(B:Own mg)(hC:RdK K C)(Mpasses:bO P w K mg base 2 "passes" ["self","words"] C dY)    : bO P w K mg base 3 "read_number" ["self"] C wD:=by
 have nd:=scm_read_number.nd
 refine h.pgR scm_read_number (fun|_,_,_,_,_,_,[_],_=>rfl) (λf cdv A outer s H E F hF hr=>
   (aE (aT 1 nd (gQ 0 hF hC))
   (aE (cJ (bS 0 hF hC Mpasses (hr.mono (by omega)) (aA aI aC)))
   (aE (jU PassesOwn.never (dG (lD (dA iO (gQ 0 hF hC) (bG cB rfl B.len PySem.boot_len (aA (kG 0 hF hC) aC))) (mP (dA (zB2 hr.units) (aU hr (kG 0 hF hC) (gQ 0 hF hC)) aI rfl))))
    (aH (uT 0 hF hC (aL bC (gQ 0 hF hC) aD))))
   (aE (aT 2 nd (mM nV (kG 0 hF hC) (kA (aB 1)) (kA (gQ 0 hF hC))))
   (aE (zF2 (aH (aT 3 nd (dS zGo rfl B.int_ boot_int (aA (aB 2) aC)))) (λ_ _ z=>z))
   (aE (bB (gX hr (dS lG rfl B.str_ boot_str (aA (aB 3) aC)) (aB 2))
    (aH lE)
    bA)
   (aH (cI (aB 3)))))))))) (λt p Ts R q=>?_)
 obtain⟨i,r,rfl,hi,ht,hr,hf,q⟩:=q
 have hi':i.natAbs<10 ^ 100:=Nat.lt_trans hi (by decide)
 obtain⟨ds,dn,dd,de⟩:=zId i hi'
 refine⟨rfl,t,p,rfl,?_⟩
 dsimp only
 refine zEq (J:=λρ'=>∃p1,Rst t p1 (ds++r)/\ρ'=[.rd t p1,.va (iT p),.no,.no]) ?rest (λrest=>?main)
 case main=>
  refine⟨⟨t,p,rfl⟩,t,p,[sT "-"],rfl,⟨rfl,trivial⟩,"-",_,rfl,by decide,hr,λr' e p' h'=>?_,λz=>?_⟩
  ·rcases de with e1|e1
   ·exfalso
    rw[e1]at e
    cases ds with
    |nil=>exact dn rfl
    |cons d ds=>
     have:d=45:=(List.cons.inj e).1
     have:=(dd d (List.mem_cons_self ..)).1
     omega
   ·rw[e1]at e
    have:ds++r=r':=(List.cons.inj e).2
    subst this
    exact rest _ ⟨p',h',rfl⟩
  ·rcases de with e1|e1
   ·rw[e1]at hr
    exact rest _ ⟨p,hr,rfl⟩
   ·rw[e1]at z
    exact absurd ((gI [45] (ds++r)).symm.trans z) (by decide)
 case rest=>
  rintro ρ' ⟨p1,h1,rfl⟩
  refine⟨λm ρ=>∃d2 p2,d2.length=m/\(∀c∈d2,fig c)/\Rst t p2 (d2++r)/\ρ=[.rd t p2,.va (iT p),.no,.no],⟨ds.length,ds,p1,rfl,dd,h1,rfl⟩,?_⟩
  rintro m _ ⟨d2,p2,rfl,f2,h2,rfl⟩
  cases d2 with
  |cons c d2=>
   refine zE4 ht h2 (f2 c (List.mem_cons_self ..)) (aN ⟨t,p2,rfl,p2+1,t,p2,rfl,rfl,d2.length,by simp,d2,p2+1,rfl,λc hc=>f2 c (List.mem_cons_of_mem _ hc),?_,rfl⟩)
   exact Rst.go (a:=[c]) h2
  |nil=>
   refine zGa ht h2 hf (aX ?_)
   have h2:Rst t p2 r:=h2
   have ep:p2=p+(cs (Str.ofString (toString i))).length:=Rst.uniq h2 hr.go
   subst ep
   have sl:=hr.slice
   rw[zBz]at sl
   refine⟨t,_,rfl,_,rfl,t,_,rfl,_,rfl,ht,?_⟩
   rw[sl]
   have il:=(vL i hi').2
   refine⟨_,i,rfl,zEI hi',by omega,i,rfl,zBb hi,_,rfl,sif (λz=>?_) (λz=>⟨_,rfl,q _ h2⟩)⟩
   simp[eqV]at z
end
end My
namespace My
open PySem L2 PyProof.Rows WordM
section
variable{P:Program}{w:World}{K:W.Frag}{mg:Str->Option Value}{base:Heap}{C:Addr}
def nX:bX:=λt p Ts R=>∃(s:Str) (r:List Nat),Ts=[]/\t.length<=100000/\s.length<=1000/\Rst t p (cs (bE s)++r)/\(∀c l,r=c::l->c≠34)/\∀p',Rst t p' r->R (sT s) p'
theorem qJ(s:Str):cs (bE s)=34::(StrLaws.dbl 34 (cs s)++[34]):=by
 unfold bE
 rw[app,app]
 show [34]++cs (dblS s)++[34]=_
 simp[dblS]
theorem yZ:∀(l:List Nat),34∉l\/∃a b,l=a++34::b/\34∉a
 |[]=>.inl (by simp)
 |c::l=>by
  by_cases z:c=34
  ·exact .inr ⟨[],l,by rw[z];rfl,by simp⟩
  ·rcases yZ l with h|⟨a,b,e,h⟩
   ·exact .inl (by simp[h];exact λy=>z y.symm)
   ·exact .inr ⟨c::a,b,by rw[e];rfl,by simp[h];exact λy=>z y.symm⟩
theorem vO:∀{l:List Nat},34∉l->StrLaws.dbl 34 l=l
 |[],_=>rfl
 |c::l,h=>by
  rw[StrLaws.dbl,if_neg (λz=>h (by rw[z];exact List.mem_cons_self ..)),vO λz=>h (List.mem_cons_of_mem _ z)]
theorem zG1{a b:List Nat}(h:34∉a):StrLaws.dbl 34 (a++34::b)=a++34::34::StrLaws.dbl 34 b:=by
 rw[StrLaws.dbl_append,vO h]
 rfl
theorem tT(a b:List Str):bU (a++b)=bU a++bU b:=by simp[bU]
theorem zAA(l:List Nat):bU [(⟨l.toArray⟩:Str)]=l:=by simp[bU]
theorem scm_read_quoted:bM ["self","pieces","end"] ["self"] (aO jN):=fsc (by decide +kernel)
theorem zDd(h:HasM K C "read_quoted" "Reader.read_quoted" jN)(B:Own mg)(hC:RdK K C)(Mneeds:bO P w K mg base 3 "needs" ["self","words"] C eP)(Mpasses:bO P w K mg base 2 "passes" ["self","words"] C dY)    : bO P w K mg base 4 "read_quoted" ["self"] C nX:=by
 have nd:=scm_read_quoted.nd
 refine h.pgR scm_read_quoted (fun|_,_,_,_,_,_,[_],_=>rfl) (λf cdv A outer s H E F hF hr=>
   (aE (cJ (bS 0 hF hC Mneeds (hr.mono (by omega)) (aA aI aC)))
   (aE (iR 1 nd (dD aC))
   (aH (jU PassesOwn.never (bN cK)
    (aE (aT 2 nd (gS PySem.F.slot_str_find PySem.F.type_str_find zFj (kG 0 hF hC) (aA aI (aA (gQ 0 hF hC) aC))))
    (aE (bB (dA iO (aB 2) aD)
     (aH lE)
     bA)
    (aE (cJ (iX 1 (mM nV (kG 0 hF hC) (kA (gQ 0 hF hC)) (kA (aB 2)))))
    (aE (uT 0 hF hC (aL bC (aB 2) aD))
    (aE (bB (cS (bN (bS 0 hF hC Mpasses (hr.mono (by omega)) (aA aI aC))))
     (aH (cI (gS PySem.F.slot_str_join PySem.F.type_str_join zA3 aI (aA (aB 1) aC))))
     bA)
    (aH (cJ (iX 1 aI))))))))))))) (λt p Ts R q=>?_)
 obtain⟨s,r,rfl,ht,hs,hr,hf,q⟩:=q
 rw[qJ]at hr
 refine⟨rfl,⟨t,p,rfl⟩,t,p,[sT "\""],rfl,⟨rfl,trivial⟩,"\"",StrLaws.dbl 34 (cs s)++34::r,rfl,by decide,by rw[List.cons_append,List.append_assoc]at hr;exact hr,λp1 h1=>?_⟩
 refine⟨by simp,?_⟩
 refine⟨λm ρ=>∃(ps:List Str) (s2:List Nat) (p2:Int) (x:Sl),s2.length=m/\cs s=bU ps++s2/\ps.length+2*s2.length<=2000/\Rst t p2 (StrLaws.dbl 34 s2++34::r)/\ρ=[.rd t p2,.own (ps.map sT),x],⟨_,[],cs s,p1,.no,rfl,rfl,by rw[<-len];simp;omega,h1,rfl⟩,?_⟩
 rintro m _ ⟨ps,s2,p2,x,rfl,es,hl,h2,rfl⟩
 refine⟨true,rfl,aN ?_⟩
 rcases yZ s2 with no|⟨a,b,rfl,no⟩
 ·rw[vO no]at h2
  have fd:=h2.find no
  have nn:=h2.nn
  have sl:=h2.slice
  have h3:Rst t (p2+s2.length+1) r:=Rst.go (a:=[34]) h2.go
  refine⟨t,p2,rfl,rfl,t,p2,rfl,t,_,p2,rfl,rfl,?_⟩
  rw[fd]
  refine⟨_,rfl,cT (λz=>absurd z (by omega)) (λ_=>⟨⟨_,rfl⟩,t,p2,rfl,t,p2,rfl,_,rfl,_,rfl,ht,?_⟩)⟩
  rw[sl]
  refine⟨_,rfl,by rw[List.length_map];omega,_,t,p2,rfl,rfl,⟨t,_,rfl⟩,t,_,[sT "\""],rfl,⟨rfl,trivial⟩,"\"",r,rfl,by decide,h3,λr' e p' h'=>?_,λz=>?_⟩
  ·exact absurd rfl (hf 34 r' e)
  ·refine⟨_,rfl,aN ⟨rfl,ps++[⟨s2.toArray⟩],rfl,by rw[List.map_append];rfl,?_,?_⟩⟩
   ·rw[tT,zAA,<-es,<-len];omega
   ·rw[tT,zAA,<-es,zBz]
    exact⟨_,rfl,q _ h3⟩
 ·rw[zG1 no,List.append_assoc]at h2
  have fd:=h2.find no
  have nn:=h2.nn
  have sl:=h2.slice
  have h3:Rst t (p2+a.length+1) ([34]++(StrLaws.dbl 34 b++34::r)):=Rst.go (a:=[34]) h2.go
  rw[List.length_append,List.length_cons]at hl
  refine⟨t,p2,rfl,rfl,t,p2,rfl,t,_,p2,rfl,rfl,?_⟩
  rw[fd]
  refine⟨_,rfl,cT (λz=>absurd z (by omega)) (λ_=>⟨⟨_,rfl⟩,t,p2,rfl,t,p2,rfl,_,rfl,_,rfl,ht,?_⟩)⟩
  rw[sl]
  refine⟨_,rfl,by rw[List.length_map];omega,_,t,p2,rfl,rfl,⟨t,_,rfl⟩,t,_,[sT "\""],rfl,⟨rfl,trivial⟩,"\"",_,rfl,by decide,h3,λr' e p' h'=>?_,λz=>?_⟩
  ·have e:=(List.cons.inj e).2
   have e:StrLaws.dbl 34 b++34::r=r':=e
   subst e
   refine⟨_,rfl,aX ⟨⟨_,rfl⟩,_,rfl,by rw[List.length_append,List.length_map];show _+1<_;omega,b.length,by rw[List.length_append,List.length_cons];omega,ps++([⟨a.toArray⟩,"\""]:List Str),b,p',.va (iT (p2+a.length)),rfl,?_,by rw[List.length_append];show _+2+_<=_;omega,h',?_⟩⟩
   ·rw[es,tT]
    simp[bU]
    rfl
   ·rw[List.map_append]
    simp
  ·exact absurd ((gI [34] _).symm.trans z) (by decide)
end
end My
namespace My
open PySem L2 PyProof.Rows WordM
section
variable{P:Program}{w:World}{K:W.Frag}{mg:Str->Option Value}{base:Heap}{C:Addr}
variable{n:Nat}
theorem fP{i:Int}(h:cL i):i.natAbs.log2<1920:=zBb (by have:=h.1;have:=h.2;omega)
def nW:PSp:=λas R=>∃s:Str,as=[.va (sT s)]/\s.length<=1000/\R (sT (bE s))
def qV:PSp:=λas R=>∃w:Wd,as=[.va (dJ w)]/\dQ w/\R (sT (txW w))
theorem uS(x:Str)(l:List Nat)(c:Nat):x++(⟨(l++[c]).toArray⟩:Str)=x++(⟨l.toArray⟩:Str)++(⟨#[c]⟩:Str):=by
 show(⟨x.cps++(l++[c]).toArray⟩:Str)=⟨x.cps++l.toArray++#[c]⟩
 simp
theorem zKh(h:Has K mg "_law_quoted" zCr)(B:Own mg)    : aG P w K mg base 1 "_law_quoted" ["_law_text_here"] nW:=by
 refine h.pg1 ["_law_text_here","_law_found","_law_sign"] (λnd hr=>
   (aE (aT 1 nd aI)
   (aE (gP (m:=3) PassesOwn.never rfl (cQ (aB 0)) (dZ 2 (by decide) nd rfl (.inl rfl))
    (aE (aT 1 nd (aL bC (aB 1) (aB 2)))
    (aH (bB (bV hr (aB 2) aI)
     (aH (aT 1 nd (aL bC (aB 1) (aB 2))))
     bA))))
   (aH (aV (aL bC (aB 1) aI)))))) (λas R q=>?_)
 obtain⟨s,rfl,l,q⟩:=q
 have dl:=zAx s
 have len:∀i:Nat,(⟨(StrLaws.dbl 34 ((cs s).take i)).toArray⟩:Str).length<=2000:=λi=>by
  have:=uO 34 ((cs s).take i)
  have e:(⟨(StrLaws.dbl 34 ((cs s).take i)).toArray⟩:Str).length=(StrLaws.dbl 34 ((cs s).take i)).length:=by simp[Str.length]
  have t:((cs s).take i).length<=s.length:=by rw[List.length_take,WordM.len];omega
  omega
 refine⟨rfl,?_⟩
 refine uK (λc:Nat=>sT ⟨#[c]⟩) (l:=s.cps.toList) (λi ρ=>∃s2,ρ=[.va (sT s),.va (sT ("\""++⟨(StrLaws.dbl 34 ((cs s).take i)).toArray⟩)),s2]) ⟨_,rfl⟩ ?_ ?_
 ·rintro i c _ N hc ⟨s2,rfl⟩ hN
  have li:=len i
  have l2:=len (i+1)
  have hi:i<(cs s).length:=(List.getElem?_eq_some_iff.mp hc).1
  have ec:(cs s)[i]=c:=by rw[List.getElem?_eq_getElem hi]at hc;exact Option.some.inj hc
  have tk:(cs s).take (i+1)=(cs s).take i++[c]:=by rw[List.take_succ_eq_append_getElem hi,ec]
  have len1:∀a:Str,(("\"":Str)++a).length=1+a.length:=λa=>aJ _ _
  refine⟨?_,?_⟩
  ·show(("\"":Str)++_).length+1<=100000
   rw[len1];omega
  ·refine⟨_,rfl,bZ (λz=>⟨?_,hN _ ⟨.va (sT ⟨#[c]⟩),?_⟩⟩) (λz=>hN _ ⟨.va (sT ⟨#[c]⟩),?_⟩)⟩
   ·show((("\"":Str)++_)++⟨#[c]⟩:Str).length+1<=100000
    rw[aJ,len1]
    show 1+_+1+1<=100000
    omega
   ·have zc:c=34:=by
     have z2:([c]:List Nat)=[34]:=congrArg (λx:Str=>x.cps.toList) (z.trans (show(Str.ofString "\"":Str)=⟨#[34]⟩ by decide))
     exact(List.cons.inj z2).1
    rw[tk,zAw,if_pos zc,show ∀l:List Nat,l++[c,c]=l++[c]++[c] from λl=>by simp,uS,uS]
    rfl
   ·have zc:c≠34:=λh=>z (by rw[h];rfl)
    rw[tk,zAw,if_neg zc,uS]
    rfl
 ·rintro _ ⟨s2,rfl⟩
  have e:(cs s).take s.cps.toList.length=cs s:=List.take_length
  rw[e]
  refine⟨?_,q⟩
  show(("\"":Str)++dblS s).length+1<=100000
  rw[aJ]
  show 1+_+1<=100000
  omega
def zJy:Wd->Str
 |.few ts=>"few "++Str.join " " (ts.map bE)
 |.make h a b ms=>"make "++bE h++" "++aW a b++" "++Str.join " " ms
theorem zHg{w:Wd}(h:dQ w):zJy w=txW w:=by
 cases w with
 |few ts=>
  rw[vN h.1]
  show "few "++Str.join " " (ts.map bE)=_
  rw[show("few ":Str)="few"++" " by decide]
 |make hd a b ms=>
  rw[pX h.2.2.2.2.2.2]
  show "make "++bE hd++" "++aW a b++" "++Str.join " " ms="make"++" "++(bE hd++" "++(aW a b++" "++Str.join " " ms))
  rw[show("make ":Str)="make"++" " by decide]
  simp only[cM]
theorem zKg(h:Has K mg "_law_words_text" wQ)(B:Own mg)(G53_:aG P w K mg base 1 "_law_quoted" ["_law_text_here"] nW)   : aG P w K mg base 2 "_law_words_text" ["_law_words"] qV:=by
 refine h.pg1 ["_law_words","_law_sizes"] (λnd hr=>
   (aE (bB (bV hr (aU hr (aB 0) aD) aI)
    (aH (aV (aL bC aI (gS PySem.F.slot_str_join PySem.F.type_str_join zFi aI (aA (bP (dO (sc:=aO wQ) (XN:=["_law_words","_law_sizes"]) (N:=["_law_text_here"]) (fr:=[]) (cQ (aU hr (aB 0) aD)) (λ_ _ _ _ _=>(aR G53_ hr (aA (aB 0) aC))))) aC)))))
    bA)
   (aE (aT 1 nd (aL bC (aL bC (dS lG rfl B.str_ boot_str (aA (aU hr (aB 0) aD) aC)) aI) (dS lG rfl B.str_ boot_str (aA (aU hr (aB 0) aD) aC))))
   (aH (aV (aL bC (aL bC (aL bC (aL bC (aL bC aI (aR G53_ hr (aA (aU hr (aB 0) aD) aC))) aI) (aB 1)) aI) (gS PySem.F.slot_str_join PySem.F.type_str_join zFh aI (aA (aU hr (aB 0) aD) aC)))))))) (λas R q=>?_)
 obtain⟨w,rfl,hw,q⟩:=q
 rw[<-zHg hw]at q
 cases w with
 |few ts=>
  have tl:=hw.2.1
  have jl:=zAu hw.2.1 hw.2.2.2
  refine⟨rfl,_,rfl,_,rfl,bZ (λ_=>?_) λz=>absurd rfl z⟩
  refine⟨rfl,_,rfl,by rw[List.length_map];omega,iZ sT (λt=>sT (bE t)) (λt ht R q=>⟨t,rfl,by have:=(hw.2.2.2 t ht).2;omega,q⟩) ⟨" ",ts.map bE,rfl,?_,⟨102,λs hs=>?_,?_⟩,?_,q⟩⟩
  ·rw[List.map_map];rfl
  ·obtain⟨t,ht,rfl⟩:=List.mem_map.mp hs
   exact lF (hw.2.2.2 t ht)
  ·rw[List.length_map]
   have:ts.length*(102+1)<=6*(102+1):=Nat.mul_le_mul_right _ (by omega)
   show ts.length*(102+1)<=_
   omega
  ·show 4+_<=_;omega
 |make hd a b ms=>
  obtain⟨h1,h2,h3,h4,h5,h6,h7⟩:=hw
  have ml:=tP h6
  have mj:=yN h6
  have na:=bL h2 (show a<=100 by omega)
  have nb:=bL (show 0<=b by omega) h5
  have la:=cU na
  have lb:=cU nb
  have bl:=mY na nb
  have ql:=lF h1
  refine⟨rfl,_,rfl,_,rfl,bZ (λz=>absurd z (by decide)) λ_=>?_⟩
  have l2:∀x:Str,x.length<=300->(("make ":Str)++bE hd++" "++x).length<=500:=λx hx=>by
   rw[aJ,aJ,aJ];show 5+_+1+_<=_;omega
  refine⟨_,rfl,a,rfl,fP na,?_,_,rfl,b,rfl,fP nb,?_,_,rfl,hd,rfl,by have:=h1.2;omega,?_,?_,?_,?_,rfl,_,rfl," ",ms,rfl,rfl,⟨6,λs hs=>qP (h6.subset hs),?_⟩,?_,q⟩
  ·show(aZ a).length+4<=_;omega
  ·rw[aJ];show(aZ a).length+4+(aZ b).length<=_;omega
  ·show 5+_<=_;omega
  ·rw[aJ];show 5+_+1<=_;omega
  ·rw[aJ,aJ];show 5+_+1+(aW a b).length<=_;omega
  ·have:=l2 (aW a b) (by omega);show(("make ":Str)++bE hd++" "++aW a b).length+1<=_;omega
  ·have:ms.length*(6+1)<=4*(6+1):=Nat.mul_le_mul_right _ ml
   show ms.length*(6+1)<=_;omega
  ·have:=l2 (aW a b) (by omega)
   rw[aJ]
   show(("make ":Str)++bE hd++" "++aW a b).length+1+_<=_
   omega
theorem PartOk.low:∀{n:Nat}{p:Pt},PartOk n p->L2.PartOk n p
 |0,_,h=>False.elim h
 |n+1,p,h=>by
  cases p with
  |nothing=>trivial
  |truths bs=>exact h
  |numbers lo hi st=>exact h
  |texts w=>exact h
  |lists a b f=>exact⟨h.1,h.2.1,h.2.2.1,h.2.2.2.1,λz=>⟨(h.2.2.2.2 z).1,(h.2.2.2.2 z).2.1,λp hp=>((h.2.2.2.2 z).2.2 p hp).low⟩⟩
  |record a b fs=>exact⟨h.1,h.2.1,h.2.2.1,h.2.2.2.1,λx hx=>⟨(h.2.2.2.2.1 x hx).1,(h.2.2.2.2.1 x hx).2.1,(h.2.2.2.2.1 x hx).2.2.1,λp hp=>((h.2.2.2.2.1 x hx).2.2.2 p hp).low⟩,h.2.2.2.2.2⟩
  |table a b w f=>exact⟨h.1.1,h.2.1,h.2.2.1,h.2.2.2.1,h.2.2.2.2.1,h.2.2.2.2.2.1,h.2.2.2.2.2.2.1,h.2.2.2.2.2.2.2.1,λp hp=>(h.2.2.2.2.2.2.2.2 p hp).low⟩
theorem mX(sep:Str):∀ws:List Str,(ws.map Str.length).sum<=(Str.join sep ws).length
 |[]=>Nat.le_refl _
 |[x]=>by simp[Str.join]
 |x::y::r=>by
  have:=mX sep (y::r)
  show _<=(x++sep++Str.join sep (y::r)).length
  rw[List.map_cons,List.sum_cons,aJ,aJ]
  omega
theorem mV(sep:Str){ws:List Str}{w:Str}(h:w∈ws):w.length<=(Str.join sep ws).length:=Nat.le_trans (by
 induction ws with
 |nil=>exact nomatch h
 |cons x ws ih=>
  rw[List.map_cons,List.sum_cons]
  rcases List.mem_cons.mp h with rfl|h
  ·omega
  ·have:=ih h
   omega) (mX sep ws)
theorem zBV(c:Nat):∀l:List Nat,l.length<=(StrLaws.dbl c l).length
 |[]=>Nat.le_refl _
 |k::r=>by
  have:=zBV c r
  rw[StrLaws.dbl]
  split<;>simp only[List.length_cons]<;>omega
theorem vB(s:Str):s.length+2<=(bE s).length:=by
 have:=zBV 34 (cs s)
 rw[WordM.len (bE s),qJ,List.length_cons,List.length_append,WordM.len s]
 simp
 omega
theorem lN(a b:Int):(aW a b).length=(aZ a).length+4+(aZ b).length:=by unfold aW;rw[aJ,aJ];rfl
theorem uW(g:Pt->Str)(x:Str×Bool×List Pt):x.1.length+2+5+((txF g x.2.2).length+2)<=(txX g x).length:=by
 have:=vB x.1
 unfold txX
 rw[rD,rD]
 simp only[aJ]
 have e:(Str.join " " [txI g x.2.2]).length=(txF g x.2.2).length+2:=gJ g x.2.2
 rw[e]
 have:3<=(if x.2.1=true then(Str.ofString "must") else Str.ofString "may").length:=by cases x.2.1<;>decide
 show _<=_+1+(_+1+_)
 omega
def FR(n:Nat)(f:List Pt):Prop:=f.length<=6/\∀p∈f,L2.PartOk n p
theorem gD{f:List Pt}(h:fY f)(k:∀p∈f,L2.PartOk n p):FR n f:=⟨nO h,k⟩
theorem LenF.all{f:List Pt}{p:Pt}(hp:p∈f):(txP n p).length<=(txF (txP n) f).length:=by
 rw[txF,if_neg (λz=>by rw[z]at hp;exact nomatch hp)]
 exact mV " | " (List.mem_map.mpr ⟨p,hp,rfl⟩)
def oO(n:Nat)(f:List Pt):Prop:=FR n f/\(txF (txP n) f).length<=9500000
def qW(n:Nat):PSp:=λas R=>∃f,as=[.va (bW f)]/\oO n f/\R (sT (txF (txP n) f))
def vZ(n:Nat):PSp:=λas R=>∃p,as=[.va (aY p)]/\L2.PartOk n p/\(txP n p).length<=9500000/\R (sT (txP n p))
theorem zCR(h:Has K mg "_law_form_text" rN)(B:Own mg)(G55_:aG P w K mg base (3+2*n) "_law_part_text" ["_law_part_here"] (vZ n))   : aG P w K mg base (3+2*n+1) "_law_form_text" ["_law_form_here"] (qW n):=by
 refine h.pg1 ["_law_form_here"] (λnd hr=>
   (aE (bB (bV hr (aB 0) (bI aC))
    (aH (aV aI))
    bA)
   (aH (aV (gS PySem.F.slot_str_join PySem.F.type_str_join tN aI (aA (bP (dO (sc:=aO rN) (XN:=["_law_form_here"]) (N:=["_law_part_here"]) (fr:=[]) (cQ (aB 0)) (λ_ _ _ _ _=>(aR G55_ hr (aA (aB 0) aC))))) aC)))))) (λas R q=>?_)
 obtain⟨f,rfl,ok,q⟩:=q
 cases f with
 |nil=>exact⟨rfl,by simp,.inl rfl,_,rfl,aN q⟩
 |cons p f=>
  have q:R (sT (Str.join " | " ((p::f).map (txP n)))):=by rwa[txF,if_neg (by simp)]at q
  have l6:=ok.1.1
  have tl:(Str.join " | " ((p::f).map (txP n))).length<=9500000:=by
   have:=ok.2
   rwa[txF,if_neg (by simp)]at this
  refine⟨rfl,by simp,.inr (.inl rfl),_,rfl,aX ⟨rfl,by rw[List.length_map];omega,iZ aY (λp=>sT (txP n p)) (λp hp R q=>⟨p,rfl,ok.1.2 p hp,Nat.le_trans (LenF.all hp) ok.2,q⟩) ⟨" | ",(p::f).map (txP n),rfl,by rw[List.map_map];rfl,⟨by decide,by omega⟩,q⟩⟩⟩
theorem zKf(h:Has K mg "_law_part_text" rO)(B:Own mg)(G54_:aG P w K mg base 2 "_law_words_text" ["_law_words"] qV)(G56_:aG P w K mg base (3+2*n+1) "_law_form_text" ["_law_form_here"] (qW n))(G53_:aG P w K mg base 1 "_law_quoted" ["_law_text_here"] nW)   : aG P w K mg base (3+2*n+2) "_law_part_text" ["_law_part_here"] (vZ (n+1)):=by
 refine h.pg1 ["_law_part_here","_law_word","_law_sizes","_law_names","_law_rows","_law_name","_law_must","_law_form_here"] (λnd hr=>
   (aE (aT 1 nd (aU hr (aB 0) aD))
   (aE (bB (bV hr (aB 1) aI)
    (aH (aV aI))
    bA)
   (aE (bB (bV hr (aB 1) aI)
    (aH (aV (aL cP aI (gS PySem.F.slot_str_join PySem.F.type_str_join tN aI (aA (bP (dO (sc:=aO rO) (XN:=["_law_part_here","_law_word","_law_sizes","_law_names","_law_rows","_law_name","_law_must","_law_form_here"]) (N:=["_law_truth"]) (fr:=[]) (cQ (aU hr (aB 0) aD)) (λ_ _ _ _ _=>(aU hr (bP (dD (aA aI (aA aI aC)))) (dS vC rfl B.int_ boot_int (aA (aB 0) aC)))))) aC)))))
    bA)
   (aE (bB (bV hr (aB 1) aI)
    (aH (aV (aL cP aI (aR G54_ hr (aA (aU hr (aB 0) aD) aC)))))
    bA)
   (aE (aT 2 nd (aL cP (aL cP (dS lG rfl B.str_ boot_str (aA (aU hr (aB 0) aD) aC)) aI) (dS lG rfl B.str_ boot_str (aA (aU hr (aB 0) aD) aC))))
   (aE (bB (bV hr (aB 1) aI)
    (aH (aV (aL cP (aL cP (aL cP aI (aB 2)) aI) (dS lG rfl B.str_ boot_str (aA (aU hr (aB 0) aD) aC)))))
    bA)
   (aE (bB (bV hr (aB 1) aI)
    (aH (aV (aL cP (aL cP (aL cP (aL cP aI (aB 2)) aI) (aR G56_ hr (aA (aU hr (aB 0) aD) aC))) aI)))
    bA)
   (aE (bB (bV hr (aB 1) aI)
    (aE (aT 3 nd (aR G54_ hr (aA (aU hr (aB 0) aD) aC)))
    (aH (aV (aL cP (aL cP (aL cP (aL cP (aL cP (aL cP aI (aB 2)) aI) (aB 3)) aI) (aR G56_ hr (aA (aU hr (aB 0) aD) aC))) aI))))
    bA)
   (aE (iR 4 nd (dD aC))
   (aE (gP (m:=8) PassesOwn.never rfl (cQ (aU hr (aB 0) aD)) (zBs 3 rfl (mL (dZ 5 (by decide) nd rfl (.inl rfl)) (mL (dZ 6 (by decide) nd rfl (.inl rfl)) (mL (dZ 7 (by decide) nd rfl (.inl rfl)) zAG))))
    (aE (aT 1 nd (aU hr (bP (dD (aA aI (aA aI aC)))) (dS vC rfl B.int_ boot_int (aA (aB 6) aC))))
    (aH (cJ (iX 4 (aL cP (aL cP (aL cP (aR G53_ hr (aA (aB 5) aC)) (aB 1)) (aR G56_ hr (aA (aB 7) aC))) aI))))))
   (aH (aV (aL cP (aL cP (aL cP (aL cP aI (aB 2)) aI) (gS PySem.F.slot_str_join PySem.F.type_str_join tN aI (aA (aB 4) aC))) aI)))))))))))))) (λas R q=>?_)
 obtain⟨p,rfl,ok,hl,q⟩:=q
 cases p with
 |nothing=>
  rw[show aY .nothing=.seq true [sT "nothing"] by rw[aY]]
  exact⟨rfl,_,rfl,_,rfl,bZ (λ_=>q) λz=>absurd rfl z⟩
 |truths bs=>
  have ok:bs=[false]\/bs=[true]\/bs=[false,true]:=ok
  have b2:bs.length<=2/\bs≠[]:=by rcases ok with rfl|rfl|rfl<;>decide
  have e:txP (n+1) (.truths bs)="truth "++Str.join " " (bs.map trS):=by
   cases bs with
   |nil=>exact absurd rfl b2.2
   |cons b bs=>
    rw[show("truth ":Str)="truth"++" " by decide]
    rfl
  rw[e]at q
  rw[show aY (.truths bs)=.seq true [sT "truths",.seq true (bs.map bT)] by rw[aY]]
  have tb:∀s∈bs.map trS,s.length<=5:=λs hs=>by
   obtain⟨b,hb,rfl⟩:=List.mem_map.mp hs
   cases b<;>decide
  have jl:=jY " " (bs.map trS) 5 tb
  rw[List.length_map]at jl
  have jl:(Str.join " " (bs.map trS)).length<=bs.length*(5+1):=jl
  have m:bs.length*(5+1)<=2*(5+1):=Nat.mul_le_mul_right _ b2.1
  refine⟨rfl,_,rfl,_,rfl,bZ (λz=>absurd z (by decide)) λ_=>⟨_,rfl,bZ (λ_=>?_) λz=>absurd rfl z⟩⟩
  refine⟨rfl,_,rfl,by rw[List.length_map];omega,iZ bT (λb=>sT (trS b)) (λb hb R q=>?_) ⟨" ",bs.map trS,rfl,by rw[List.map_map];rfl,⟨by decide,by omega⟩,?_,q⟩⟩
  ·cases b
   ·exact⟨by simp,_,rfl,q⟩
   ·exact⟨by simp,_,rfl,q⟩
  ·show 6+_<=_;omega
 |numbers a b st=>
  have ok:jJ a b st:=ok
  have la:=cU ok.1
  have lb:=cU ok.2.1
  have bl:=mY ok.1 ok.2.1
  have nl:=cU ok.2.2.1
  rw[show aY (.numbers a b st)=.seq true [sT "numbers",iT a,iT b,iT st] by rw[aY]]
  refine⟨rfl,_,rfl,_,rfl,bZ (λz=>absurd z (by decide)) λ_=>⟨_,rfl,bZ (λz=>absurd z (by decide)) λ_=>⟨_,rfl,bZ (λz=>absurd z (by decide)) λ_=>⟨_,rfl,a,rfl,fP ok.1,?_,_,rfl,b,rfl,fP ok.2.1,?_,?_⟩⟩⟩⟩
  ·show(aZ a).length+4<=_;omega
  ·rw[aJ];show(aZ a).length+4+(aZ b).length<=_;omega
  refine⟨_,rfl,bZ (λ_=>?_) λz=>absurd rfl z⟩
  refine⟨?_,?_,_,rfl,st,rfl,fP ok.2.2.1,?_,q⟩
  ·show 7+(aW a b).length<=_;omega
  ·rw[aJ];show 7+(aW a b).length+4<=_;omega
  ·rw[aJ,aJ];show 7+(aW a b).length+4+(aZ st).length<=_;omega
 |texts w=>
  have wl:=pK (show dQ w from ok)
  rw[show aY (.texts w)=.seq true [sT "texts",dJ w] by rw[aY]]
  refine⟨rfl,_,rfl,_,rfl,bZ (λz=>absurd z (by decide)) λ_=>⟨_,rfl,bZ (λz=>absurd z (by decide)) λ_=>⟨_,rfl,bZ (λ_=>?_) λz=>absurd rfl z⟩⟩⟩
  refine⟨_,rfl,w,rfl,ok,?_,q⟩
  show 5+_<=_;omega
 |lists a b f=>
  obtain⟨h1,h2,h3,h4,h5⟩:=ok
  have e:(txP (n+1) (.lists a b f)).length=5+(aW a b).length+4+((txF (txP n) f).length+2):=by
   show(("list ":Str)++aW a b++" of "++txI (txP n) f).length=_
   rw[aJ,aJ,aJ,gJ];rfl
  have fo:oO n f:=by
   refine⟨?_,by omega⟩
   by_cases z:b=0
   ·rw[h4 z];exact⟨by decide,λp hp=>nomatch hp⟩
   ·exact gD (h5 z).2.1 (h5 z).2.2
  have l:=fo.2
  have na:=bL h1 (show a<=100 by omega)
  have nb:=bL (show 0<=b by omega) h3
  have la:=cU na
  have lb:=cU nb
  have bl:=jE h1 h2 h3
  have q:R (sT ("list "++aW a b++" of "++("("++txF (txP n) f++")"))):=q
  have e:("list "++aW a b++" of "++("("++txF (txP n) f++")"):Str)="list "++aW a b++" of ("++txF (txP n) f++")":=by
   rw[show(" of (":Str)=" of "++"(" by decide]
   simp only[cM]
  rw[e]at q
  rw[iA]
  refine⟨rfl,_,rfl,_,rfl,bZ (λz=>absurd z (by decide)) λ_=>⟨_,rfl,bZ (λz=>absurd z (by decide)) λ_=>⟨_,rfl,bZ (λz=>absurd z (by decide)) λ_=>⟨_,rfl,a,rfl,fP na,?_,_,rfl,b,rfl,fP nb,?_,?_⟩⟩⟩⟩
  ·show(aZ a).length+4<=_;omega
  ·rw[aJ];show(aZ a).length+4+(aZ b).length<=_;omega
  refine⟨_,rfl,bZ (λz=>absurd z (by decide)) λ_=>⟨_,rfl,bZ (λ_=>?_) λz=>absurd rfl z⟩⟩
  refine⟨?_,?_,_,rfl,f,rfl,fo,?_,?_,q⟩
  ·show 5+(aW a b).length<=_;omega
  ·rw[aJ];show 5+(aW a b).length+5<=_;omega
  ·rw[aJ,aJ];show 5+(aW a b).length+5+_<=_;omega
  ·rw[aJ,aJ,aJ];show 5+(aW a b).length+5+_+1<=_;omega
 |table a b w f=>
  obtain⟨h1,h2,h3,h4,h5,h6,ne,ku,ok⟩:=ok
  have e:(txP (n+1) (.table a b w f)).length=6+(aW a b).length+5+(txW w).length+1+((txF (txP n) f).length+2)+1:=by
   show(("table ":Str)++aW a b++" of ("++txW w++" "++txI (txP n) f++")").length=_
   rw[aJ,aJ,aJ,aJ,aJ,aJ,gJ];rfl
  have fo:oO n f:=⟨gD ku ok,by omega⟩
  have l:=fo.2
  have na:=bL h1.1 (show a<=100 by omega)
  have nb:=bL (show 0<=b by omega) h4
  have la:=cU na
  have lb:=cU nb
  have bl:=jE h1.1 h2 h4
  have wl:=pK h5
  have q:R (sT ("table "++aW a b++" of ("++txW w++" "++("("++txF (txP n) f++")")++")")):=q
  have e:("table "++aW a b++" of ("++txW w++" "++("("++txF (txP n) f++")")++")":Str)="table "++aW a b++" of ("++txW w++" ("++txF (txP n) f++"))":=by
   rw[show(" (":Str)=" "++"(" by decide,show("))":Str)=")"++")" by decide]
   simp only[cM]
  rw[e]at q
  rw[jR]
  refine⟨rfl,_,rfl,_,rfl,bZ (λz=>absurd z (by decide)) λ_=>⟨_,rfl,bZ (λz=>absurd z (by decide)) λ_=>⟨_,rfl,bZ (λz=>absurd z (by decide)) λ_=>⟨_,rfl,a,rfl,fP na,?_,_,rfl,b,rfl,fP nb,?_,?_⟩⟩⟩⟩
  ·show(aZ a).length+4<=_;omega
  ·rw[aJ];show(aZ a).length+4+(aZ b).length<=_;omega
  refine⟨_,rfl,bZ (λz=>absurd z (by decide)) λ_=>⟨_,rfl,bZ (λz=>absurd z (by decide)) λ_=>⟨_,rfl,bZ (λ_=>?_) λz=>absurd rfl z⟩⟩⟩
  refine⟨_,rfl,w,rfl,h5,?_,?_,?_,?_,_,rfl,f,rfl,fo,?_,?_,q⟩
  ·show 6+(aW a b).length<=_;omega
  ·rw[aJ];show 6+(aW a b).length+5<=_;omega
  ·rw[aJ,aJ];show 6+(aW a b).length+5+_<=_;omega
  ·rw[aJ,aJ,aJ];show 6+(aW a b).length+5+_+2<=_;omega
  ·rw[aJ,aJ,aJ,aJ];show 6+(aW a b).length+5+_+2+_<=_;omega
  ·rw[aJ,aJ,aJ,aJ,aJ];show 6+(aW a b).length+5+_+2+_+2<=_;omega
 |record a b fs=>
  obtain⟨h1,h2,h3,h4,h5,h6,h7,h8⟩:=ok
  have e:(txP (n+1) (.record a b fs)).length=7+(aW a b).length+5+(Str.join ", " (fs.map (txX (txP n)))).length+1:=by
   show(("record ":Str)++aW a b++" of ("++Str.join ", " (fs.map (txX (txP n)))++")").length=_
   rw[aJ,aJ,aJ,aJ];rfl
  have fo:∀x∈fs,oO n x.2.2:=λx hx=>⟨gD (h5 x hx).2.2.1 (h5 x hx).2.2.2,by
   have:=mV ", " (List.mem_map.mpr ⟨x,hx,rfl⟩:txX (txP n) x∈fs.map (txX (txP n)))
   have:=uW (txP n) x
   omega⟩
  have na:=bL h1 (show a<=100 by omega)
  have nb:=bL (show 0<=b by omega) (show b<=100 by omega)
  have la:=cU na
  have lb:=cU nb
  have bl:=jE h1 h2 (by omega)
  have jl:(Str.join ", " (fs.map (txX (txP n)))).length<=9500000:=by omega
  have q:R (sT ("record "++aW a b++" of ("++Str.join ", " (fs.map (txX (txP n)))++")")):=q
  rw[hZ]
  refine⟨rfl,_,rfl,_,rfl,bZ (λz=>absurd z (by decide)) λ_=>⟨_,rfl,bZ (λz=>absurd z (by decide)) λ_=>⟨_,rfl,bZ (λz=>absurd z (by decide)) λ_=>⟨_,rfl,a,rfl,fP na,?_,_,rfl,b,rfl,fP nb,?_,?_⟩⟩⟩⟩
  ·show(aZ a).length+4<=_;omega
  ·rw[aJ];show(aZ a).length+4+(aZ b).length<=_;omega
  refine⟨_,rfl,bZ (λz=>absurd z (by decide)) λ_=>⟨_,rfl,bZ (λz=>absurd z (by decide)) λ_=>⟨_,rfl,bZ (λz=>absurd z (by decide)) λ_=>?_⟩⟩⟩
  refine⟨by simp,_,rfl,?_⟩
  refine uK bQ (l:=fs) (λi ρ=>∃s1 s5 s6 s7:Sl,ρ=[.va (.seq true [sT "record",iT a,iT b,.seq true (fs.map bQ)]),s1,.va (sT (aW a b)),.no,.own ((fs.take i).map λx=>sT (txX (txP n) x)),s5,s6,s7]) ⟨_,_,_,_,rfl⟩ ?_ ?_
  ·rintro i ⟨x,mu,f⟩ _ N hx ⟨s1,s5,s6,s7,rfl⟩ hN
   have hi:i<fs.length:=(List.getElem?_eq_some_iff.mp hx).1
   have xm:=List.mem_of_getElem? hx
   have tx:=(h5 _ xm).1
   have fx:=fo _ xm
   have fl:=fx.2
   have tq:=lF tx
   have tl:x.length<=50:=tx.2
   have tk:(fs.take (i+1)).map (λx=>sT (txX (txP n) x))=(fs.take i).map (λx=>sT (txX (txP n) x))++[sT (txX (txP n) (x,mu,f))]:=by
    have e:=(List.getElem?_eq_some_iff.mp hx).2
    rw[List.take_succ_eq_append_getElem hi,e,List.map_append];rfl
   cases mu
   ·have e:txX (txP n) (x,false,f)=bE x++" may ("++txF (txP n) f++")":=by
     rw[show(" may (":Str)=" "++("may"++(" "++"(")) by decide]
     show bE x++" "++("may"++" "++("("++txF (txP n) f++")"))=_
     simp only[cM]
    rw[e]at tk
    refine⟨_,rfl,rfl,_,_,rfl,_,_,rfl,_,_,rfl,rfl,by simp,_,rfl,⟨_,rfl⟩,x,rfl,by omega,?_,f,rfl,fx,?_,?_,_,rfl,by rw[List.length_map,List.length_take];omega,hN _ ⟨.va (sT " may ("),.va (sT x),.va (bT false),.va (bW f),?_⟩⟩
    ·show(bE x).length+6<=_;have tq:(bE x).length<=102:=tq;omega
    ·rw[aJ];show(bE x).length+6+_<=_;have tq:(bE x).length<=102:=tq;have fl:(txF (txP n) f).length<=9500000:=fl;omega
    ·rw[aJ,aJ];show(bE x).length+6+_+1<=_;have tq:(bE x).length<=102:=tq;have fl:(txF (txP n) f).length<=9500000:=fl;omega
    ·rw[tk];rfl
   ·have e:txX (txP n) (x,true,f)=bE x++" must ("++txF (txP n) f++")":=by
     rw[show(" must (":Str)=" "++("must"++(" "++"(")) by decide]
     show bE x++" "++("must"++" "++("("++txF (txP n) f++")"))=_
     simp only[cM]
    rw[e]at tk
    refine⟨_,rfl,rfl,_,_,rfl,_,_,rfl,_,_,rfl,rfl,by simp,_,rfl,⟨_,rfl⟩,x,rfl,by omega,?_,f,rfl,fx,?_,?_,_,rfl,by rw[List.length_map,List.length_take];omega,hN _ ⟨.va (sT " must ("),.va (sT x),.va (bT true),.va (bW f),?_⟩⟩
    ·show(bE x).length+7<=_;have tq:(bE x).length<=102:=tq;omega
    ·rw[aJ];show(bE x).length+7+_<=_;have tq:(bE x).length<=102:=tq;have fl:(txF (txP n) f).length<=9500000:=fl;omega
    ·rw[aJ,aJ];show(bE x).length+7+_+1<=_;have tq:(bE x).length<=102:=tq;have fl:(txF (txP n) f).length<=9500000:=fl;omega
    ·rw[tk];rfl
  ·rintro _ ⟨s1,s5,s6,s7,rfl⟩
   rw[List.take_length]
   refine⟨?_,?_,rfl,", ",fs.map (txX (txP n)),rfl,by rw[List.map_map];rfl,⟨by decide,by omega⟩,?_,?_,q⟩
   ·show 7+(aW a b).length<=_;omega
   ·rw[aJ];show 7+(aW a b).length+5<=_;omega
   ·rw[aJ,aJ];show 7+(aW a b).length+5+_<=_;omega
   ·rw[aJ,aJ,aJ];show 7+(aW a b).length+5+_+1<=_;omega
theorem zAn(hp:Has K mg "_law_part_text" rO)(hf:Has K mg "_law_form_text" rN)(B:Own mg)(Gw:aG P w K mg base 2 "_law_words_text" ["_law_words"] qV)(Gq:aG P w K mg base 1 "_law_quoted" ["_law_text_here"] nW):∀n:Nat,aG P w K mg base (3+2*n) "_law_part_text" ["_law_part_here"] (vZ n)
 |0=>hp.pg1 ["_law_part_here","_law_word","_law_sizes","_law_names","_law_rows","_law_name","_law_must","_law_form_here"] (λnd hr=>tH) λas R ⟨_,_,h,_⟩=>False.elim h
 |n+1=>zKf hp B Gw (zCR hf B (zAn hp hf B Gw Gq n)) Gq
end
end My
namespace My
open PySem L2 PyProof.Rows WordM
section
variable{P:Program}{w:World}{K:W.Frag}{mg:Str->Option Value}{base:Heap}{C:Addr}
theorem cE{t:Str}{p:Int}{r:List Nat}(w:Str){s u:UTs}{P:PEnds}{ρ:aQ}(h:Rst t p r)(hw:w.length<=1000)(no:(cs w).isPrefixOf r=false)(q:u P (.rd t p::ρ)):cC (sIf (uB (iH 0 dY (jF (uC (sT w)) fI))) s rM) u P (.rd t p::ρ):=
 ⟨⟨t,p,rfl⟩,t,p,[sT w],rfl,⟨rfl,trivial⟩,w,r,rfl,hw,h,λr' e p' h'=>(by rw[e,gI]at no;cases no),λ_=>⟨_,rfl,aX q⟩⟩
theorem jB{t:Str}{p:Int}{r r':List Nat}(w:Str){s u:UTs}{P:PEnds}{ρ:aQ}(h:Rst t p r)(e:r=cs w++r')(hw:w.length<=1000)(q:∀p',Rst t p' r'->s {P with nx:=λρ'=>u P ρ'} (.rd t p'::ρ)):cC (sIf (uB (iH 0 dY (jF (uC (sT w)) fI))) s rM) u P (.rd t p::ρ):=
 ⟨⟨t,p,rfl⟩,t,p,[sT w],rfl,⟨rfl,trivial⟩,w,r,rfl,hw,h,λr2 e2 p' h'=>(by
  rw[e]at e2
  have:=List.append_cancel_left e2
  subst this
  exact⟨_,rfl,aN (q p' h')⟩),λz=>(by rw[e,gI]at z;cases z)⟩
theorem sn_{t:Str}{p:Int}{r:List Nat}(w:Str){u:UTs}{P:PEnds}{ρ:aQ}(h:Rst t p (cs w++r))(hw:w.length<=1000)(q:∀p',Rst t p' r->u P (.rd t p'::ρ)):cC (zB0 (iH 0 eP (jF (uC (sT w)) fI))) u P (.rd t p::ρ):=
 ⟨⟨t,p,rfl⟩,t,p,[sT w],rfl,⟨rfl,trivial⟩,w,r,rfl,hw,h,λp' h'=>q p' h'⟩
theorem zGs{c d:Nat}{a b:List Nat}(h:c≠d):(c::a).isPrefixOf (d::b)=false:=by
 show(c==d&&_)=false
 rw[beq_eq_false_iff_ne.mpr h]
 rfl
theorem fN{t:Str}{p:Int}{psp:bX}{i:Nat}{u:UTs}{P:PEnds}{ρ:aQ}(h:psp t p [] λT p'=>u P ((Sl.rd t p'::ρ).set i (.va T))):cC (lZ i (iH 0 psp fI)) u P (.rd t p::ρ):=⟨⟨t,p,rfl⟩,t,p,[],rfl,trivial,h⟩
def oC(r:List Nat):Prop:=∀c l,r=c::l->¬ fig c
theorem iE{c:Nat}{l:List Nat}(h:¬ fig c):oC (c::l):=λd m e=>by cases e;exact h
def FolF(r:List Nat):Prop:=r=[]\/(∃l,r=41::l)\/∃l,r=32::124::l
theorem FolF.nofig{r:List Nat}(h:FolF r):oC r:=by
 rcases h with rfl|⟨l,rfl⟩|⟨l,rfl⟩
 ·exact λc l e=>nomatch e
 ·exact iE (by decide)
 ·exact iE (by decide)
def oN(r:List Nat):Prop:=FolF r\/∃l,r=32::40::l
theorem qO{i:Int}(h:cL i):i.natAbs<10 ^ 65:=by have:=h.1;have:=h.2;omega
def jG:bX:=λt p Ts R=>∃(a b:Int) (r:List Nat),Ts=[]/\cL a/\cL b/\t.length<=4000/\Rst t p (cs (aW a b)++r)/\oC r/\∀p',Rst t p' r->R (.seq true [iT a,iT b]) p'
theorem C25_:bM ["reader","least"] ["reader"] (aO xE):=fsc (by decide +kernel)
theorem zKF(h:Has K mg "bounds_read" xE)(B:Own mg)(hC:RdK K C)(Mread_number:bO P w K mg base 3 "read_number" ["self"] C wD)(Mneeds:bO P w K mg base 3 "needs" ["self","words"] C eP)    : bK P w K mg base 4 "bounds_read" ["reader"] C jG:=by
 have nd:=C25_.nd
 refine h.pgR C25_ (fun|_,_,_,_,_,_,[_],_=>rfl) (λf cdv A outer s H E F hF hr=>
   (aE (aT 1 nd (jS 0 hF hC Mread_number (hr.mono (by omega))))
   (aE (cJ (bS 0 hF hC Mneeds (hr.mono (by omega)) (aA aI aC)))
   (aH (cI (bI (aA (aB 1) (aA (jS 0 hF hC Mread_number (hr.mono (by omega))) aC)))))))) (λt p Ts R q=>?_)
 obtain⟨a,b,r,rfl,ha,hb,ht,hr,hf,q⟩:=q
 unfold aW at hr
 rw[app,app,List.append_assoc,List.append_assoc]at hr
 refine⟨rfl,?_⟩
 show cC _ _ _ [.rd t p,.no]
 refine fN ⟨a,_,rfl,qO ha,by omega,hr,iE (by decide),λp1 h1=>?_⟩
 show cC _ _ _ [.rd t p1,.va (iT a)]
 refine sn_ " to " h1 (by decide) λp2 h2=>?_
 exact⟨⟨t,p2,rfl⟩,t,p2,[],rfl,trivial,b,r,rfl,qO hb,by omega,h2,hf,λp3 h3=>⟨by simp,p3,rfl,q p3 h3⟩⟩
def pS:PSp:=λas R=>∃b:Bool,as=[.va (bT b)]/\R (sT (trS b))
theorem zKG(h:Has K mg "show_truth" zCw)(B:Own mg)    : aG P w K mg base 1 "show_truth" ["truth"] pS:=by
 refine h.pg1 ["truth"] (λnd hr=>
   (aH (aV (zY (bN (aB 0)) aI aI)))) (λas R q=>?_)
 obtain⟨b,rfl,q⟩:=q
 refine⟨rfl,b,rfl,?_⟩
 cases b
 ·exact aX q
 ·exact aN q
def trC(b:Bool):List Nat:=32::cs (trS b)
def qX:bX:=λt p Ts R=>∃(bs:List Bool) (r:List Nat),Ts=[]/\(bs=[false]\/bs=[true]\/bs=[false,true])/\Rst t p (bs.flatMap trC++r)/\FolF r/\∀p',Rst t p' r->R (.seq true (bs.map bT)) p'
theorem vH{t:Str}{p:Int}{r r':List Nat}(w:Str){R:Tv->Int->Prop}(h:Rst t p r)(e:r=cs w++r')(hw:w.length<=1000)(q:∀p',Rst t p' r'->R (bT true) p'):dY t p [sT w] R:=⟨w,r,rfl,hw,h,λr2 e2 p' h'=>(by
 rw[e]at e2
 have:=List.append_cancel_left e2
 subst this
 exact q p' h'),λz=>(by rw[e,gI]at z;cases z)⟩
theorem wE{t:Str}{p:Int}{r:List Nat}(w:Str){R:Tv->Int->Prop}(h:Rst t p r)(hw:w.length<=1000)(no:(cs w).isPrefixOf r=false)(q:R (bT false) p):dY t p [sT w] R:=⟨w,r,rfl,hw,h,λr' e p' h'=>(by rw[e,gI]at no;cases no),λ_=>q⟩
theorem vM{c:Nat}{w r:List Nat}(h:FolF r)(h1:c≠124):(32::c::w).isPrefixOf r=false:=by
 rcases h with rfl|⟨l,rfl⟩|⟨l,rfl⟩
 ·rfl
 ·exact zGs (by decide)
 ·show(32==32&&(c==124&&_))=false
  rw[beq_eq_false_iff_ne.mpr h1]
  rfl
abbrev lW:UTs:=sIf (uB (iH 0 dY (jF (uOp sD (uC (sT (Str.ofString " "))) (nS pS (jF (oF 2) fI))) fI))) (lZ 1 (uOp sD (oF 1) (zCj (jF (oF 2) fI)))) rM
theorem pM{t:Str}{p:Int}{b:Bool}{ds:List Tv}{r:List Nat}{P:PEnds}(h:Rst t p (trC b++r))(l:ds.length<=2)(q:∀p',Rst t p' r->P.nx [.rd t p',.va (.seq true (ds++[bT b])),.va (bT b)]):lW P [.rd t p,.va (.seq true ds),.va (bT b)]:=by
 refine⟨⟨t,p,rfl⟩,b,rfl,by cases b<;>decide,t,p,[_],rfl,⟨rfl,trivial⟩,vH (r':=r) _ h ?_ (by cases b<;>decide) λp' h'=>⟨_,rfl,aN ⟨by simp,by simp;omega,q p' h'⟩⟩⟩
 cases b<;>rfl
theorem zBx{t:Str}{p:Int}{b:Bool}{ds:List Tv}{r:List Nat}{P:PEnds}(h:Rst t p r)(no:(trC b).isPrefixOf r=false)(q:P.nx [.rd t p,.va (.seq true ds),.va (bT b)]):lW P [.rd t p,.va (.seq true ds),.va (bT b)]:=by
 refine⟨⟨t,p,rfl⟩,b,rfl,by cases b<;>decide,t,p,[_],rfl,⟨rfl,trivial⟩,wE _ h (by cases b<;>decide) ?_ ⟨_,rfl,aX q⟩⟩
 rw[<-no]
 cases b<;>rfl
theorem C26_:bM ["reader","truths","truth"] ["reader"] (aO xD):=fsc (by decide +kernel)
theorem zKE(h:Has K mg "truths_read" xD)(B:Own mg)(hC:RdK K C)(Mpasses:bO P w K mg base 2 "passes" ["self","words"] C dY)(G24_:aG P w K mg base 1 "show_truth" ["truth"] pS)   : bK P w K mg base 3 "truths_read" ["reader"] C qX:=by
 have nd:=C26_.nd
 refine h.pgR C26_ (fun|_,_,_,_,_,_,[_],_=>rfl) (λf cdv A outer s H E F hF hr=>
   (aE (aT 1 nd (bI aC))
   (aE (gP (m:=3) PassesOwn.never rfl (cQ (bI (aA cK (aA cK aC)))) (dZ 2 (by decide) nd rfl (.inl rfl))
    (aH (bB (bN (bS 0 hF hC Mpasses (hr.mono (by omega)) (aA (aL bC aI (aR G24_ hr (aA (aB 2) aC))) aC)))
     (aH (aT 1 nd (aL bC (aB 1) (bI (aA (aB 2) aC)))))
     bA)))
   (aH (cI (aB 1)))))) (λt p Ts R q=>?_)
 obtain⟨bs,r,rfl,hb,hr,hf,q⟩:=q
 refine⟨rfl,by simp,by simp,?_⟩
 show lW _ [.rd t p,.va (.seq true []),.va (bT false)]
 rcases hb with rfl|rfl|rfl
 ·refine pM (r:=r) hr (by decide) λp1 h1=>?_
  show lW _ [.rd t p1,.va (.seq true [bT false]),.va (bT true)]
  exact zBx h1 (vM hf (by decide)) ⟨p1,rfl,q p1 h1⟩
 ·refine zBx hr rfl ?_
  show lW _ [.rd t p,.va (.seq true []),.va (bT true)]
  exact pM (r:=r) hr (by decide) λp1 h1=>⟨p1,rfl,q p1 h1⟩
 ·refine pM (r:=trC true++r) hr (by decide) λp1 h1=>?_
  show lW _ [.rd t p1,.va (.seq true [bT false]),.va (bT true)]
  exact pM (r:=r) h1 (by decide) λp2 h2=>⟨p2,rfl,q p2 h2⟩
def qY:bX:=λt p Ts R=>∃(a b s:Int) (r:List Nat),Ts=[]/\cL a/\cL b/\cL s/\t.length<=4000/\Rst t p (cs (aW a b++" by "++aZ s)++r)/\oC r/\∀p',Rst t p' r->R (.seq true [iT a,iT b,iT s]) p'
theorem C27_:bM ["reader","bounds"] ["reader"] (aO xC):=fsc (by decide +kernel)
theorem zKD(h:Has K mg "numbers_read" xC)(B:Own mg)(hC:RdK K C)(Mneeds:bO P w K mg base 3 "needs" ["self","words"] C eP)(Mread_number:bO P w K mg base 3 "read_number" ["self"] C wD)(G25_:bK P w K mg base 4 "bounds_read" ["reader"] C jG)   : bK P w K mg base 5 "numbers_read" ["reader"] C qY:=by
 have nd:=C27_.nd
 refine h.pgR C27_ (fun|_,_,_,_,_,_,[_],_=>rfl) (λf cdv A outer s H E F hF hr=>
   (aE (aT 1 nd (cZ 0 hF G25_ (hr.mono (by omega)) rfl aC))
   (aE (cJ (bS 0 hF hC Mneeds (hr.mono (by omega)) (aA aI aC)))
   (aH (cI (aL bC (aB 1) (bI (aA (jS 0 hF hC Mread_number (hr.mono (by omega))) aC)))))))) (λt p Ts R q=>?_)
 obtain⟨a,b,s,r,rfl,ha,hb,hs,ht,hr,hf,q⟩:=q
 rw[app,app,List.append_assoc,List.append_assoc]at hr
 refine⟨rfl,?_⟩
 show cC _ _ _ [.rd t p,.no]
 refine fN ⟨a,b,_,rfl,ha,hb,ht,hr,iE (by decide),λp1 h1=>?_⟩
 show cC _ _ _ [.rd t p1,.va (.seq true [iT a,iT b])]
 refine sn_ " by " h1 (by decide) λp2 h2=>?_
 exact⟨⟨t,p2,rfl⟩,t,p2,[],rfl,trivial,s,r,rfl,qO hs,by omega,h2,hf,λp3 h3=>⟨by simp,by simp,p3,rfl,q p3 h3⟩⟩
def quC(s:Str):List Nat:=32::cs (bE s)
def qZ:bX:=λt p Ts R=>∃(ts:List Str) (r:List Nat),Ts=[]/\ts.length<=6/\(∀s∈ts,dR s)/\t.length<=4000/\Rst t p (ts.flatMap quC++r)/\FolF r/\∀p',Rst t p' r->R (dJ (.few ts)) p'
theorem zJo{r:List Nat}(h:FolF r):∀c l,r=c::l->c≠34:=λc l e=>by
 rcases h with rfl|⟨m,rfl⟩|⟨m,rfl⟩<;>cases e<;>decide
theorem C28_:bM ["reader","texts"] ["reader"] (aO xB):=fsc (by decide +kernel)
theorem zKC(h:Has K mg "few_read" xB)(B:Own mg)(hC:RdK K C)(Msees:bO P w K mg base 1 "sees" ["self","words"] C nH)(Mneeds:bO P w K mg base 3 "needs" ["self","words"] C eP)(Mread_quoted:bO P w K mg base 4 "read_quoted" ["self"] C nX)    : bK P w K mg base 5 "few_read" ["reader"] C qZ:=by
 have nd:=C28_.nd
 refine h.pgR C28_ (fun|_,_,_,_,_,_,[_],_=>rfl) (λf cdv A outer s H E F hF hr=>
   (aE (iR 1 nd (dD aC))
   (aE (jU PassesOwn.never (bN (bS 0 hF hC Msees (hr.mono (by omega)) (aA aI aC)))
    (aE (cJ (bS 0 hF hC Mneeds (hr.mono (by omega)) (aA aI aC)))
    (aH (cJ (iX 1 (jS 0 hF hC Mread_quoted (hr.mono (by omega))))))))
   (aH (cI (bI (aA aI (aA (dS jX rfl B.tuple_ boot_tuple (aA (aB 1) aC)) aC)))))))) (λt p Ts R q=>?_)
 obtain⟨ts,r,rfl,l6,hts,ht,hr,hf,q⟩:=q
 refine⟨rfl,by simp,?_⟩
 refine⟨λm ρ=>∃(as bs:List Str) (p2:Int),ts=as++bs/\bs.length=m/\Rst t p2 (bs.flatMap quC++r)/\ρ=[.rd t p2,.own (as.map sT)],⟨_,[],ts,p,rfl,rfl,hr,rfl⟩,?_⟩
 rintro m _ ⟨as,bs,p2,eb,rfl,h2,rfl⟩
 refine⟨⟨t,p2,rfl⟩,t,p2,[sT " \""],rfl,⟨rfl,trivial⟩," \"",_,rfl,h2,_,rfl,sif (λz=>?_) (λz=>?_)⟩
 ·cases bs with
  |nil=>
   exact absurd ((vM (c:=34) (w:=[]) hf (by decide)).symm.trans z) (by decide)
  |cons b bs=>
   have la:as.length<=6:=by
    have:=congrArg List.length eb
    rw[List.length_append]at this
    omega
   have hb:dR b:=hts b (by rw[eb];exact List.mem_append_right _ (List.mem_cons_self ..))
   have h2:Rst t p2 (cs (" ":Str)++(cs (bE b)++(bs.flatMap quC++r))):=by
    rw[List.flatMap_cons,List.append_assoc]at h2
    exact h2
   show cC _ _ _ [.rd t p2,.own (as.map sT)]
   refine sn_ " " h2 (by decide) λp3 h3=>?_
   refine⟨⟨_,rfl⟩,⟨t,p3,rfl⟩,t,p3,[],rfl,trivial,b,_,rfl,by omega,by have:=hb.2;omega,h3,λc l e=>?_,λp4 h4=>⟨_,rfl,by rw[List.length_map];omega,bs.length,by simp,as++[b],bs,p4,by rw[eb,List.append_assoc];rfl,rfl,h4,by rw[List.map_append];rfl⟩⟩
   cases bs with
   |nil=>exact zJo hf c l e
   |cons b' bs=>cases e;decide
 ·cases bs with
  |cons b bs=>
   rw[List.flatMap_cons]at z
   unfold quC at z
   rw[qJ]at z
   exact absurd ((gI [32,34] _).symm.trans z) (by decide)
  |nil=>
   rw[List.append_nil]at eb
   subst eb
   exact⟨false,_,rfl,by simp,p2,rfl,q p2 h2⟩
theorem zFS{g:UG}{ub u:UTs}{P:PEnds}{ρ:aQ}{Ts:List Tv}(h:hE g ub Ts {P with nx:=λρ'=>u P ρ'} ρ):cC (zCq (uIt (uC (.seq true Ts))) g ub) u P ρ:=h
def mkC(m:Str):List Nat:=32::cs m
def nG:bX:=λt p Ts R=>∃(h:Str) (a b:Int) (ms:List Str) (r:List Nat),Ts=[]/\dR h/\cL a/\cL b/\ms.Sublist MK/\t.length<=4000/\Rst t p (cs (("make ":Str)++bE h++" "++aW a b)++(ms.flatMap mkC++r))/\oN r/\∀p',Rst t p' r->R (dJ (.make h a b ms)) p'
theorem zGY{c:Nat}{w r:List Nat}(h:oN r)(h1:c≠124)(h2:c≠40):(32::c::w).isPrefixOf r=false:=by
 rcases h with h|⟨l,rfl⟩
 ·exact vM h h1
 ·show(32==32&&(c==40&&_))=false
  rw[beq_eq_false_iff_ne.mpr h2]
  rfl
theorem zFT{r:List Nat}(h:oN r):oC r:=by
 rcases h with h|⟨l,rfl⟩
 ·exact h.nofig
 ·exact iE (by decide)
theorem zGM{m:Str}{ms:List Str}{r:List Nat}(hm:m∈MK)(hs:∀x∈ms,x∈MK)(no:m∉ms)(hr:oN r):(cs ((" ":Str)++m)).isPrefixOf (ms.flatMap mkC++r)=false:=by
 cases ms with
 |nil=>
  simp only[MK,List.mem_cons,List.not_mem_nil,or_false]at hm
  rcases hm with rfl|rfl|rfl|rfl<;>exact zGY hr (by decide) (by decide)
 |cons x ms=>
  have hx:=hs x (List.mem_cons_self ..)
  have ne:m≠x:=λz=>no (by rw[z];exact List.mem_cons_self ..)
  simp only[MK,List.mem_cons,List.not_mem_nil,or_false]at hm hx
  rcases hm with rfl|rfl|rfl|rfl<;>rcases hx with rfl|rfl|rfl|rfl<;>first|exact absurd rfl ne|rfl
theorem C29_:bM ["reader","head","bounds","marks","mark"] ["reader"] (aO xA):=fsc (by decide +kernel)
theorem zKB(h:Has K mg "make_read" xA)(B:Own mg)(hC:RdK K C)(Mneeds:bO P w K mg base 3 "needs" ["self","words"] C eP)(Mread_quoted:bO P w K mg base 4 "read_quoted" ["self"] C nX)(Mpasses:bO P w K mg base 2 "passes" ["self","words"] C dY)(G25_:bK P w K mg base 4 "bounds_read" ["reader"] C jG)(GMARKS:fT K mg "MARKS" (.seq true (MK.map sT)))  : bK P w K mg base 5 "make_read" ["reader"] C nG:=by
 have nd:=C29_.nd
 refine h.pgR C29_ (fun|_,_,_,_,_,_,[_],_=>rfl) (λf cdv A outer s H E F hF hr=>
   (aE (cJ (bS 0 hF hC Mneeds (hr.mono (by omega)) (aA aI aC)))
   (aE (aT 1 nd (jS 0 hF hC Mread_quoted (hr.mono (by omega))))
   (aE (cJ (bS 0 hF hC Mneeds (hr.mono (by omega)) (aA aI aC)))
   (aE (aT 2 nd (cZ 0 hF G25_ (hr.mono (by omega)) rfl aC))
   (aE (aT 3 nd (bI aC))
   (aE (gP (m:=5) PassesOwn.never rfl (cQ (nR GMARKS rfl)) (dZ 4 (by decide) nd rfl (.inl rfl))
    (aH (bB (bN (bS 0 hF hC Mpasses (hr.mono (by omega)) (aA (aL bC aI (aB 4)) aC)))
     (aH (aT 3 nd (aL bC (aB 3) (bI (aA (aB 4) aC)))))
     bA)))
   (aH (cI (aL bC (aL bC (bI (aA aI (aA (aB 1) aC))) (aB 2)) (bI (aA (aB 3) aC)))))))))))) (λt p Ts R q=>?_)
 obtain⟨h,a,b,ms,r,rfl,hh,ha,hb,hm,ht,hr,hf,q⟩:=q
 rw[app,app,app,List.append_assoc,List.append_assoc,List.append_assoc]at hr
 refine⟨rfl,?_⟩
 show cC _ _ _ [.rd t p,.no,.no,.no,.no]
 refine sn_ "make " hr (by decide) λp1 h1=>?_
 refine fN ⟨h,_,rfl,by omega,by have:=hh.2;omega,h1,λc l e=>(by cases e;decide),λp2 h2=>?_⟩
 show cC _ _ _ [.rd t p2,.va (sT h),.no,.no,.no]
 refine sn_ " " h2 (by decide) λp3 h3=>?_
 refine fN ⟨a,b,_,rfl,ha,hb,ht,h3,?_,λp4 h4=>?_⟩
 ·cases ms with
  |nil=>exact zFT hf
  |cons m ms=>exact iE (by decide)
 refine⟨by simp,?_⟩
 show cC _ _ _ [.rd t p4,.va (sT h),.va (.seq true [iT a,iT b]),.va (.seq true (([]:List Str).map sT)),.no]
 refine zFS ?_
 refine uK sT (l:=MK) (λi ρ=>∃(done rest:List Str) (p5:Int) (s4:Sl),ms=done++rest/\rest.Sublist (MK.drop i)/\Rst t p5 (rest.flatMap mkC++r)/\ρ=[.rd t p5,.va (sT h),.va (.seq true [iT a,iT b]),.va (.seq true (done.map sT)),s4]) ⟨[],ms,p4,.no,rfl,hm,h4,rfl⟩ ?_ ?_
 ·rintro i m _ N hi ⟨done,rest,p5,s4,e,sb,h5,rfl⟩ hN
  obtain⟨hi',ei⟩:=List.getElem?_eq_some_iff.mp hi
  rw[List.drop_eq_getElem_cons hi',ei]at sb
  have mk:m∈MK:=List.mem_of_getElem? hi
  have l1:((" ":Str)++m).length<=1000:=by
   have:=qP mk
   rw[aJ];show 1+_<=_;omega
  have ld:done.length<=4:=by
   have:=hm.length_le
   rw[e,List.length_append]at this
   have l4:MK.length=4:=rfl
   omega
  have nm:m∉MK.drop (i+1):=λz=>by
   have nd:MK.Nodup:=by decide +kernel
   rw[<-List.take_append_drop (i+1) MK,List.nodup_append]at nd
   refine nd.2.2 m ?_ m z rfl
   rw[List.take_succ_eq_append_getElem hi',ei]
   exact List.mem_append_right _ (List.mem_singleton.mpr rfl)
  have lm:1+m.length<=100000:=by have:=qP mk;omega
  rcases List.sublist_cons_iff.mp sb with sb|⟨rest',rfl,sb2⟩
  ·exact⟨⟨t,p5,rfl⟩,lm,t,p5,[_],rfl,⟨rfl,trivial⟩,wE _ h5 l1 (zGM mk (λx hx=>List.mem_of_mem_drop (sb.subset hx)) (λz=>nm (sb.subset z)) hf) ⟨_,rfl,aX (hN _ ⟨done,rest,p5,_,e,sb,h5,rfl⟩)⟩⟩
  ·refine⟨⟨t,p5,rfl⟩,lm,t,p5,[_],rfl,⟨rfl,trivial⟩,vH (r':=rest'.flatMap mkC++r) _ h5 ?_ l1 λp6 h6=>⟨_,rfl,aN ⟨by simp,?_,hN _ ⟨done++[m],rest',p6,.va (sT m),by rw[e,List.append_assoc];rfl,sb2,h6,?_⟩⟩⟩⟩
   ·rw[List.flatMap_cons,app,List.append_assoc]
    rfl
   ·simp;omega
   ·show [_,_,_,Sl.va (.seq true (done.map sT++[sT m])),_]=_
    rw[List.map_append]
    rfl
 ·rintro _ ⟨done,rest,p5,s4,e,sb,h5,rfl⟩
  have:rest=[]:=List.sublist_nil.mp sb
  subst this
  rw[List.append_nil]at e
  subst e
  exact⟨by simp,by simp,by simp,by simp,p5,rfl,q p5 h5⟩
end
end My
namespace My
open PySem L2 PyProof.Rows WordM
section
variable{P:Program}{w:World}{K:W.Frag}{mg:Str->Option Value}{base:Heap}{C:Addr}
variable{n:Nat}
theorem jD(sep:Str):∀(w:Str) (ws:List Str),cs (Str.join sep (w::ws))=cs w++ws.flatMap λv=>cs sep++cs v
 |w,[]=>by simp[Str.join]
 |w,v::ws=>by
  show cs (w++sep++Str.join sep (v::ws))=_
  rw[app,app,jD sep v ws,List.append_assoc,List.flatMap_cons,List.append_assoc]
def prP(n:Nat):bX:=λt p Ts R=>∃(q:Pt) (r:List Nat),Ts=[]/\L2.PartOk n q/\t.length<=4000/\Rst t p (cs (txP n q)++r)/\FolF r/\∀p',Rst t p' r->R (aY q) p'
def xN(n:Nat):bX:=λt p Ts R=>∃(f:List Pt) (r:List Nat),Ts=[]/\FR n f/\t.length<=4000/\Rst t p (cs (txF (txP n) f)++r)/\(r=[]\/∃l,r=41::l)/\∀p',Rst t p' r->R (bW f) p'
theorem zFv{q:Pt}{r:List Nat}(h:L2.PartOk n q):(cs ("never":Str)).isPrefixOf (cs (txP n q)++r)=false:=by
 cases n with
 |zero=>exact False.elim h
 |succ n=>
  cases q with
  |nothing=>rfl
  |truths bs=>show List.isPrefixOf _ (cs (Str.join " " ("truth"::bs.map trS))++r)=false;rw[jD];rfl
  |numbers lo hi st=>show List.isPrefixOf _ (cs ("number "++aW lo hi++" by "++aZ st)++r)=false;rw[app,app,app];rfl
  |texts w=>show List.isPrefixOf _ (cs ("text "++txW w)++r)=false;rw[app];rfl
  |lists a b f=>show List.isPrefixOf _ (cs ("list "++aW a b++" of "++txI (txP n) f)++r)=false;rw[app,app,app];rfl
  |record a b fs=>show List.isPrefixOf _ (cs ("record "++aW a b++" of ("++Str.join ", " (fs.map (txX (txP n)))++")")++r)=false;rw[app,app,app,app];rfl
  |table a b w f=>show List.isPrefixOf _ (cs ("table "++aW a b++" of ("++txW w++" "++txI (txP n) f++")")++r)=false;rw[app,app,app,app,app,app];rfl
def sI(n:Nat)(q:Pt):List Nat:=32::124::32::cs (txP n q)
theorem zBh{f:List Pt}{r:List Nat}(h:r=[]\/∃l,r=41::l):FolF (f.flatMap (sI n)++r):=by
 cases f with
 |nil=>exact h.elim .inl λ⟨l,e⟩=>.inr (.inl ⟨l,e⟩)
 |cons q f=>exact .inr (.inr ⟨_,rfl⟩)
theorem C37_:bM ["reader","parts"] ["reader"] (aO rP):=fsc (by decide +kernel)
theorem zCS(h:Has K mg "form_read" rP)(B:Own mg)(hC:RdK K C)(Mpasses:bO P w K mg base 2 "passes" ["self","words"] C dY)(G36_:bK P w K mg base (5+6*n) "part_read" ["reader"] C (prP n))   : bK P w K mg base (5+6*n+1) "form_read" ["reader"] C (xN n):=by
 have nd:=C37_.nd
 refine h.pgR C37_ (fun|_,_,_,_,_,_,[_],_=>rfl) (λf cdv A outer s H E F hF hr=>
   (aE (bB (bN (bS 0 hF hC Mpasses (hr.mono (by omega)) (aA aI aC)))
    (aH (cI (bI aC)))
    bA)
   (aE (iR 1 nd (dD (aA (cZ 0 hF G36_ (hr.mono (by omega)) rfl aC) aC)))
   (aE (jU PassesOwn.never (bN (bS 0 hF hC Mpasses (hr.mono (by omega)) (aA aI aC)))
    (aH (cJ (iX 1 (cZ 0 hF G36_ (hr.mono (by omega)) rfl aC)))))
   (aH (cI (dS jX rfl B.tuple_ boot_tuple (aA (aB 1) aC)))))))) (λt p Ts R q=>?_)
 obtain⟨f,r,rfl,hf,ht,hr,hl,q⟩:=q
 refine⟨rfl,?_⟩
 show cC _ _ _ [.rd t p,.no]
 cases f with
 |nil=>
  exact jB "never" (r':=r) hr rfl (by decide) λp' h'=>⟨by simp,p',rfl,q p' h'⟩
 |cons x f=>
  have hr:Rst t p (cs (txP n x)++(f.flatMap (sI n)++r)):=by
   rw[txF,if_neg (by simp),List.map_cons,jD,List.append_assoc]at hr
   rw[List.flatMap_map]at hr
   exact hr
  refine cE "never" hr (by decide) (zFv (hf.2 x (List.mem_cons_self ..))) ?_
  refine⟨⟨t,p,rfl⟩,t,p,[],rfl,trivial,x,_,rfl,hf.2 x (List.mem_cons_self ..),ht,hr,zBh hl,λp1 h1=>⟨by simp,?_⟩⟩
  refine⟨λm ρ=>∃(as bs:List Pt) (p2:Int),x::f=as++bs/\bs.length=m/\Rst t p2 (bs.flatMap (sI n)++r)/\ρ=[.rd t p2,.own (as.map aY)],⟨_,[x],f,p1,rfl,rfl,h1,rfl⟩,?_⟩
  rintro m _ ⟨as,bs,p2,eb,rfl,h2,rfl⟩
  refine⟨⟨t,p2,rfl⟩,t,p2,[sT " | "],rfl,⟨rfl,trivial⟩," | ",_,rfl,by decide,h2,λr' e p' h'=>⟨_,rfl,aN ?_⟩,λz=>⟨_,rfl,aX ?_⟩⟩
  ·cases bs with
   |nil=>
    exfalso
    have e:r=cs (" | ":Str)++r':=e
    rcases hl with rfl|⟨l,rfl⟩
    ·cases e
    ·exact absurd (List.cons.inj e).1 (by decide)
   |cons b bs=>
    have e:cs (txP n b)++bs.flatMap (sI n)++r=r':=(List.cons.inj (List.cons.inj (List.cons.inj e).2).2).2
    subst e
    rw[List.append_assoc]at h'
    have hb:b∈x::f:=by rw[eb];exact List.mem_append_right _ (List.mem_cons_self ..)
    have la:as.length<=6:=by
     have:=congrArg List.length eb
     have:=hf.1
     rw[List.length_append]at *
     omega
    exact⟨⟨_,rfl⟩,⟨t,p',rfl⟩,t,p',[],rfl,trivial,b,_,rfl,hf.2 b hb,ht,h',zBh hl,λp3 h3=>⟨_,rfl,by rw[List.length_map];omega,bs.length,by simp,as++[b],bs,p3,by rw[eb,List.append_assoc];rfl,rfl,h3,by rw[List.map_append];rfl⟩⟩
  ·cases bs with
   |cons b bs=>exact absurd ((gI [32,124,32] _).symm.trans z) (by decide)
   |nil=>
    rw[List.append_nil]at eb
    subst eb
    exact⟨false,_,rfl,p2,rfl,q p2 h2⟩
def sC(n:Nat):bX:=λt p Ts R=>∃(f:List Pt) (r:List Nat),Ts=[]/\FR n f/\t.length<=4000/\Rst t p (cs (txI (txP n) f)++r)/\∀p',Rst t p' r->R (bW f) p'
theorem C30_:bM ["reader","form"] ["reader"] (aO rY):=fsc (by decide +kernel)
theorem zKA(h:Has K mg "within_read" rY)(B:Own mg)(hC:RdK K C)(Mneeds:bO P w K mg base 3 "needs" ["self","words"] C eP)(G37_:bK P w K mg base (5+6*n+1) "form_read" ["reader"] C (xN n))   : bK P w K mg base (5+6*n+2) "within_read" ["reader"] C (sC n):=by
 have nd:=C30_.nd
 refine h.pgR C30_ (fun|_,_,_,_,_,_,[_],_=>rfl) (λf cdv A outer s H E F hF hr=>
   (aE (cJ (bS 0 hF hC Mneeds (hr.mono (by omega)) (aA aI aC)))
   (aE (aT 1 nd (cZ 0 hF G37_ (hr.mono (by omega)) rfl aC))
   (aE (cJ (bS 0 hF hC Mneeds (hr.mono (by omega)) (aA aI aC)))
   (aH (cI (aB 1))))))) (λt p Ts R q=>?_)
 obtain⟨f,r,rfl,hf,ht,hr,q⟩:=q
 unfold txI at hr
 rw[app,app,List.append_assoc,List.append_assoc]at hr
 refine⟨rfl,?_⟩
 show cC _ _ _ [.rd t p,.no]
 refine sn_ "(" hr (by decide) λp1 h1=>?_
 refine fN ⟨f,_,rfl,hf,ht,h1,.inr ⟨r,rfl⟩,λp2 h2=>?_⟩
 show cC _ _ _ [.rd t p2,.va (bW f)]
 exact sn_ ")" h2 (by decide) λp3 h3=>⟨p3,rfl,q p3 h3⟩
theorem zBw(g:Pt->Str)(x:Str)(mu:Bool)(f:List Pt):cs (txX g (x,mu,f))=cs (bE x)++(cs (if mu then(" must ":Str) else " may ")++cs (txI g f)):=by
 unfold txX
 rw[jD,List.flatMap_cons,List.flatMap_cons,List.flatMap_nil,List.append_nil]
 cases mu<;>rfl
def prX(n:Nat):bX:=λt p Ts R=>∃(x:Str) (mu:Bool) (f:List Pt) (r:List Nat),Ts=[]/\dR x/\FR n f/\t.length<=4000/\Rst t p (cs (txX (txP n) (x,mu,f))++r)/\∀p',Rst t p' r->R (bQ (x,mu,f)) p'
theorem C31_:bM ["reader","name","must"] ["reader"] (aO rX):=fsc (by decide +kernel)
theorem zKz(h:Has K mg "field_read" rX)(B:Own mg)(hC:RdK K C)(Mread_quoted:bO P w K mg base 4 "read_quoted" ["self"] C nX)(Mpasses:bO P w K mg base 2 "passes" ["self","words"] C dY)(Mneeds:bO P w K mg base 3 "needs" ["self","words"] C eP)(G30_:bK P w K mg base (5+6*n+2) "within_read" ["reader"] C (sC n))   : bK P w K mg base (5+6*n+3) "field_read" ["reader"] C (prX n):=by
 have nd:=C31_.nd
 refine h.pgR C31_ (fun|_,_,_,_,_,_,[_],_=>rfl) (λf cdv A outer s H E F hF hr=>
   (aE (aT 1 nd (jS 0 hF hC Mread_quoted (hr.mono (by omega))))
   (aE (aT 2 nd (bS 0 hF hC Mpasses (hr.mono (by omega)) (aA aI aC)))
   (aE (bB (cS (bN (aB 2)))
    (aH (cJ (bS 0 hF hC Mneeds (hr.mono (by omega)) (aA aI aC))))
    bA)
   (aH (cI (bI (aA (aB 1) (aA (aB 2) (aA (cZ 0 hF G30_ (hr.mono (by omega)) rfl aC) aC)))))))))) (λt p Ts R q=>?_)
 obtain⟨x,mu,f,r,rfl,hx,hf,ht,hr,q⟩:=q
 rw[zBw,List.append_assoc,List.append_assoc]at hr
 refine⟨rfl,?_⟩
 show cC _ _ _ [.rd t p,.no,.no]
 refine fN ⟨x,_,rfl,by omega,by have:=hx.2;omega,hr,λc l e=>(by cases mu<;>cases e<;>decide),λp1 h1=>?_⟩
 show cC _ _ _ [.rd t p1,.va (sT x),.no]
 refine⟨⟨t,p1,rfl⟩,t,p1,[sT " must "],rfl,⟨rfl,trivial⟩,?_⟩
 cases mu with
 |true=>
  refine vH (r':=cs (txI (txP n) f)++r) " must " h1 rfl (by decide) λp2 h2=>?_
  exact⟨_,rfl,aX ⟨⟨t,p2,rfl⟩,t,p2,[],rfl,trivial,f,r,rfl,hf,ht,h2,λp3 h3=>⟨by simp,p3,rfl,q p3 h3⟩⟩⟩
 |false=>
  refine wE " must " h1 (by decide) rfl ⟨_,rfl,aN ?_⟩
  refine⟨⟨t,p1,rfl⟩,t,p1,[sT " may "],rfl,⟨rfl,trivial⟩," may ",_,rfl,by decide,h1,λp2 h2=>?_⟩
  exact⟨⟨t,p2,rfl⟩,t,p2,[],rfl,trivial,f,r,rfl,hf,ht,h2,λp3 h3=>⟨by simp,p3,rfl,q p3 h3⟩⟩
end
end My
namespace My
open PySem L2 PyProof.Rows WordM
section
variable{P:Program}{w:World}{K:W.Frag}{mg:Str->Option Value}{base:Heap}{C:Addr}
variable{n:Nat}
def sG(n:Nat)(x:Str×Bool×List Pt):List Nat:=44::32::cs (txX (txP n) x)
def zCH(n:Nat):bX:=λt p Ts R=>∃(fs:List (Str×Bool×List Pt)) (r:List Nat),Ts=[]/\fs.length<=8/\(∀x∈fs,dR x.1/\FR n x.2.2)/\t.length<=4000/\Rst t p (cs (Str.join ", " (fs.map (txX (txP n))))++41::r)/\∀p',Rst t p' (41::r)->R (.seq true (fs.map bQ)) p'
theorem C32_:bM ["reader","fields"] ["reader"] (aO rW):=fsc (by decide +kernel)
theorem zKy(h:Has K mg "fields_read" rW)(B:Own mg)(hC:RdK K C)(Msees:bO P w K mg base 1 "sees" ["self","words"] C nH)(Mpasses:bO P w K mg base 2 "passes" ["self","words"] C dY)(G31_:bK P w K mg base (5+6*n+3) "field_read" ["reader"] C (prX n))   : bK P w K mg base (5+6*n+4) "fields_read" ["reader"] C (zCH n):=by
 have nd:=C32_.nd
 refine h.pgR C32_ (fun|_,_,_,_,_,_,[_],_=>rfl) (λf cdv A outer s H E F hF hr=>
   (aE (iR 1 nd (dD aC))
   (aE (bB (bN (bS 0 hF hC Msees (hr.mono (by omega)) (aA aI aC)))
    (aE (cJ (iX 1 (cZ 0 hF G31_ (hr.mono (by omega)) rfl aC)))
    (aH (jU PassesOwn.never (bN (bS 0 hF hC Mpasses (hr.mono (by omega)) (aA aI aC)))
     (aH (cJ (iX 1 (cZ 0 hF G31_ (hr.mono (by omega)) rfl aC)))))))
    bA)
   (aH (cI (dS jX rfl B.tuple_ boot_tuple (aA (aB 1) aC))))))) (λt p Ts R q=>?_)
 obtain⟨fs,r,rfl,l8,hf,ht,hr,q⟩:=q
 refine⟨rfl,by simp,?_⟩
 cases fs with
 |nil=>
  refine⟨⟨t,p,rfl⟩,t,p,[sT "\""],rfl,⟨rfl,trivial⟩,"\"",_,rfl,hr,false,rfl,aX ?_⟩
  exact⟨false,_,rfl,p,rfl,q p hr⟩
 |cons x fs=>
  have hr:Rst t p (cs (txX (txP n) x)++(fs.flatMap (sG n)++41::r)):=by
   rw[List.map_cons,jD,List.append_assoc,List.flatMap_map]at hr
   exact hr
  have hq:(cs ("\"":Str)).isPrefixOf (cs (txX (txP n) x)++(fs.flatMap (sG n)++41::r))=true:=by
   rw[show x=(x.1,x.2.1,x.2.2) from rfl,zBw,qJ]
   rfl
  refine⟨⟨t,p,rfl⟩,t,p,[sT "\""],rfl,⟨rfl,trivial⟩,"\"",_,rfl,hr,true,by rw[hq],aN ?_⟩
  have hx:=hf x (List.mem_cons_self ..)
  refine⟨⟨_,rfl⟩,⟨t,p,rfl⟩,t,p,[],rfl,trivial,x.1,x.2.1,x.2.2,_,rfl,hx.1,hx.2,ht,hr,λp1 h1=>⟨_,rfl,by simp,?_⟩⟩
  refine⟨λm ρ=>∃(as bs:List (Str×Bool×List Pt)) (p2:Int),x::fs=as++bs/\bs.length=m/\Rst t p2 (bs.flatMap (sG n)++41::r)/\ρ=[.rd t p2,.own (as.map bQ)],⟨_,[x],fs,p1,rfl,rfl,h1,rfl⟩,?_⟩
  rintro m _ ⟨as,bs,p2,eb,rfl,h2,rfl⟩
  refine⟨⟨t,p2,rfl⟩,t,p2,[sT ", "],rfl,⟨rfl,trivial⟩,", ",_,rfl,by decide,h2,λr' e p' h'=>⟨_,rfl,aN ?_⟩,λz=>⟨_,rfl,aX ?_⟩⟩
  ·cases bs with
   |nil=>exact absurd (List.cons.inj e).1 (by decide)
   |cons b bs=>
    have e:cs (txX (txP n) b)++bs.flatMap (sG n)++41::r=r':=(List.cons.inj (List.cons.inj e).2).2
    subst e
    rw[List.append_assoc]at h'
    have hb:b∈x::fs:=by rw[eb];exact List.mem_append_right _ (List.mem_cons_self ..)
    have la:as.length<=8:=by
     have:=congrArg List.length eb
     rw[List.length_append]at this
     omega
    have hx:=hf b hb
    exact⟨⟨_,rfl⟩,⟨t,p',rfl⟩,t,p',[],rfl,trivial,b.1,b.2.1,b.2.2,_,rfl,hx.1,hx.2,ht,h',λp3 h3=>⟨_,rfl,by rw[List.length_map];omega,bs.length,by simp,as++[b],bs,p3,by rw[eb,List.append_assoc];rfl,rfl,h3,by rw[List.map_append];rfl⟩⟩
  ·cases bs with
   |cons b bs=>exact absurd ((gI [44,32] _).symm.trans z) (by decide)
   |nil=>
    rw[List.append_nil]at eb
    subst eb
    exact⟨false,_,rfl,p2,rfl,q p2 h2⟩
def zCK(n:Nat):bX:=λt p Ts R=>∃(a b:Int) (f:List Pt) (r:List Nat),Ts=[]/\cL a/\cL b/\FR n f/\t.length<=4000/\Rst t p (cs (aW a b++" of "++txI (txP n) f)++r)/\∀p',Rst t p' r->R (aY (.lists a b f)) p'
theorem C33_:bM ["reader","bounds"] ["reader"] (aO rV):=fsc (by decide +kernel)
theorem zKx(h:Has K mg "lists_read" rV)(B:Own mg)(hC:RdK K C)(Mneeds:bO P w K mg base 3 "needs" ["self","words"] C eP)(G25_:bK P w K mg base 4 "bounds_read" ["reader"] C jG)(G30_:bK P w K mg base (5+6*n+2) "within_read" ["reader"] C (sC n))   : bK P w K mg base (5+6*n+3) "lists_read" ["reader"] C (zCK n):=by
 have nd:=C33_.nd
 refine h.pgR C33_ (fun|_,_,_,_,_,_,[_],_=>rfl) (λf cdv A outer s H E F hF hr=>
   (aE (aT 1 nd (cZ 0 hF G25_ (hr.mono (by omega)) rfl aC))
   (aE (cJ (bS 0 hF hC Mneeds (hr.mono (by omega)) (aA aI aC)))
   (aH (cI (aL bC (aL bC (bI (aA aI aC)) (aB 1)) (bI (aA (cZ 0 hF G30_ (hr.mono (by omega)) rfl aC) aC)))))))) (λt p Ts R q=>?_)
 obtain⟨a,b,f,r,rfl,ha,hb,hf,ht,hr,q⟩:=q
 rw[app,app,List.append_assoc,List.append_assoc]at hr
 rw[iA]at q
 refine⟨rfl,?_⟩
 show cC _ _ _ [.rd t p,.no]
 refine fN ⟨a,b,_,rfl,ha,hb,ht,hr,iE (by decide),λp1 h1=>?_⟩
 show cC _ _ _ [.rd t p1,.va (.seq true [iT a,iT b])]
 refine sn_ " of " h1 (by decide) λp2 h2=>?_
 exact⟨by simp,by simp,⟨t,p2,rfl⟩,t,p2,[],rfl,trivial,f,r,rfl,hf,ht,h2,λp3 h3=>⟨by simp,by simp,p3,rfl,q p3 h3⟩⟩
def zCJ(n:Nat):bX:=λt p Ts R=>∃(a b:Int) (fs:List (Str×Bool×List Pt)) (r:List Nat),Ts=[]/\cL a/\cL b/\fs.length<=8/\(∀x∈fs,dR x.1/\FR n x.2.2)/\t.length<=4000/\Rst t p (cs (aW a b++" of ("++Str.join ", " (fs.map (txX (txP n)))++")")++r)/\∀p',Rst t p' r->R (aY (.record a b fs)) p'
theorem C34_:bM ["reader","bounds","fields"] ["reader"] (aO rS):=fsc (by decide +kernel)
theorem zKw(h:Has K mg "record_read" rS)(B:Own mg)(hC:RdK K C)(Mneeds:bO P w K mg base 3 "needs" ["self","words"] C eP)(G25_:bK P w K mg base 4 "bounds_read" ["reader"] C jG)(G32_:bK P w K mg base (5+6*n+4) "fields_read" ["reader"] C (zCH n))   : bK P w K mg base (5+6*n+5) "record_read" ["reader"] C (zCJ n):=by
 have nd:=C34_.nd
 refine h.pgR C34_ (fun|_,_,_,_,_,_,[_],_=>rfl) (λf cdv A outer s H E F hF hr=>
   (aE (aT 1 nd (cZ 0 hF G25_ (hr.mono (by omega)) rfl aC))
   (aE (cJ (bS 0 hF hC Mneeds (hr.mono (by omega)) (aA aI aC)))
   (aE (aT 2 nd (cZ 0 hF G32_ (hr.mono (by omega)) rfl aC))
   (aE (cJ (bS 0 hF hC Mneeds (hr.mono (by omega)) (aA aI aC)))
   (aH (cI (aL bC (aL bC (bI (aA aI aC)) (aB 1)) (bI (aA (aB 2) aC)))))))))) (λt p Ts R q=>?_)
 obtain⟨a,b,fs,r,rfl,ha,hb,l8,hf,ht,hr,q⟩:=q
 rw[app,app,app,List.append_assoc,List.append_assoc,List.append_assoc]at hr
 rw[hZ]at q
 refine⟨rfl,?_⟩
 show cC _ _ _ [.rd t p,.no,.no]
 refine fN ⟨a,b,_,rfl,ha,hb,ht,hr,iE (by decide),λp1 h1=>?_⟩
 show cC _ _ _ [.rd t p1,.va (.seq true [iT a,iT b]),.no]
 refine sn_ " of (" h1 (by decide) λp2 h2=>?_
 refine fN ⟨fs,r,rfl,l8,hf,ht,h2,λp3 h3=>?_⟩
 show cC _ _ _ [.rd t p3,.va (.seq true [iT a,iT b]),.va (.seq true (fs.map bQ))]
 refine sn_ ")" h3 (by decide) λp4 h4=>?_
 exact⟨by simp,by simp,by simp,by simp,p4,rfl,q p4 h4⟩
theorem zA9{h:Str}{a b:Int}{ms:List Str}(k:ms≠[]):cs (txW (.make h a b ms))=cs (("make ":Str)++bE h++" "++aW a b)++ms.flatMap mkC:=by
 rw[pX k]
 cases ms with
 |nil=>exact absurd rfl k
 |cons m ms=>
  simp only[app,jD,List.flatMap_cons,List.append_assoc]
  rfl
theorem zIy{ts:List Str}(k:1<=ts.length):cs (txW (.few ts))=cs ("few":Str)++ts.flatMap quC:=by
 rw[vN k]
 cases ts with
 |nil=>exact absurd k (by decide)
 |cons x ts=>
  rw[List.map_cons,app,app,jD,List.flatMap_cons,List.flatMap_map,List.append_assoc]
  rfl
theorem zIx{g:Pt->Str}{f:List Pt}{r:List Nat}:oN (cs (" ":Str)++(cs (txI g f)++r)):=by
 unfold txI
 rw[app,app]
 exact .inr ⟨_,rfl⟩
def zCI(n:Nat):bX:=λt p Ts R=>∃(a b:Int) (w:Wd) (f:List Pt) (r:List Nat),Ts=[]/\cL a/\cL b/\dQ w/\vK w=true/\FR n f/\t.length<=4000/\Rst t p (cs (aW a b++" of ("++txW w++" "++txI (txP n) f++")")++r)/\∀p',Rst t p' r->R (aY (.table a b w f)) p'
theorem C35_:bM ["reader","bounds","make","form"] ["reader"] (aO rR):=fsc (by decide +kernel)
theorem zKv(h:Has K mg "table_read" rR)(B:Own mg)(hC:RdK K C)(Mneeds:bO P w K mg base 3 "needs" ["self","words"] C eP)(G25_:bK P w K mg base 4 "bounds_read" ["reader"] C jG)(G29_:bK P w K mg base 5 "make_read" ["reader"] C nG)(G30_:bK P w K mg base (5+6*n+2) "within_read" ["reader"] C (sC n))   : bK P w K mg base (5+6*n+3) "table_read" ["reader"] C (zCI n):=by
 have nd:=C35_.nd
 refine h.pgR C35_ (fun|_,_,_,_,_,_,[_],_=>rfl) (λf cdv A outer s H E F hF hr=>
   (aE (aT 1 nd (cZ 0 hF G25_ (hr.mono (by omega)) rfl aC))
   (aE (cJ (bS 0 hF hC Mneeds (hr.mono (by omega)) (aA aI aC)))
   (aE (aT 2 nd (cZ 0 hF G29_ (hr.mono (by omega)) rfl aC))
   (aE (cJ (bS 0 hF hC Mneeds (hr.mono (by omega)) (aA aI aC)))
   (aE (aT 3 nd (cZ 0 hF G30_ (hr.mono (by omega)) rfl aC))
   (aE (cJ (bS 0 hF hC Mneeds (hr.mono (by omega)) (aA aI aC)))
   (aH (cI (aL bC (aL bC (bI (aA aI aC)) (aB 1)) (bI (aA (aB 2) (aA (aB 3) aC))))))))))))) (λt p Ts R q=>?_)
 obtain⟨a,b,w,f,r,rfl,ha,hb,hw,hm,hf,ht,hr,q⟩:=q
 cases w with
 |few ts=>cases hm
 |make h lo hi ms=>
  obtain⟨w1,w2,w3,w4,w5,w6,w7⟩:=hw
  rw[app,app,app,app,app,zA9 w7]at hr
  simp only[List.append_assoc]at hr
  rw[jR]at q
  refine⟨rfl,?_⟩
  show cC _ _ _ [.rd t p,.no,.no,.no]
  refine fN ⟨a,b,_,rfl,ha,hb,ht,hr,iE (by decide),λp1 h1=>?_⟩
  show cC _ _ _ [.rd t p1,.va (.seq true [iT a,iT b]),.no,.no]
  refine sn_ " of (" h1 (by decide) λp2 h2=>?_
  refine fN ⟨h,lo,hi,ms,cs (" ":Str)++(cs (txI (txP n) f)++(cs (")":Str)++r)),rfl,w1,bL w2 (by omega),bL (by omega) w5,w6,ht,h2,zIx,λp3 h3=>?_⟩
  show cC _ _ _ [.rd t p3,.va (.seq true [iT a,iT b]),.va (dJ (.make h lo hi ms)),.no]
  refine sn_ " " h3 (by decide) λp4 h4=>?_
  refine fN ⟨f,_,rfl,hf,ht,h4,λp5 h5=>?_⟩
  show cC _ _ _ [.rd t p5,.va (.seq true [iT a,iT b]),.va (dJ (.make h lo hi ms)),.va (bW f)]
  refine sn_ ")" h5 (by decide) λp6 h6=>?_
  exact⟨by simp,by simp,by simp,by simp,p6,rfl,q p6 h6⟩
theorem zE2(bs:List Bool):cs (Str.join " " ("truth"::bs.map trS))=cs ("truth":Str)++bs.flatMap trC:=by
 rw[jD,List.flatMap_map]
 rfl
theorem C36_:bM ["reader"] ["reader"] (aO rQ):=fsc (by decide +kernel)
theorem zKu(h:Has K mg "part_read" rQ)(B:Own mg)(hC:RdK K C)(Mpasses:bO P w K mg base 2 "passes" ["self","words"] C dY)(Mneeds:bO P w K mg base 3 "needs" ["self","words"] C eP)(G26_:bK P w K mg base 3 "truths_read" ["reader"] C qX)(G27_:bK P w K mg base 5 "numbers_read" ["reader"] C qY)(G28_:bK P w K mg base 5 "few_read" ["reader"] C qZ)(G29_:bK P w K mg base 5 "make_read" ["reader"] C nG)(G33_:bK P w K mg base (5+6*n+3) "lists_read" ["reader"] C (zCK n))(G34_:bK P w K mg base (5+6*n+5) "record_read" ["reader"] C (zCJ n))(G35_:bK P w K mg base (5+6*n+3) "table_read" ["reader"] C (zCI n))   : bK P w K mg base (5+6*n+6) "part_read" ["reader"] C (prP (n+1)):=by
 have nd:=C36_.nd
 refine h.pgR C36_ (fun|_,_,_,_,_,_,[_],_=>rfl) (λf cdv A outer s H E F hF hr=>
   (aE (bB (bN (bS 0 hF hC Mpasses (hr.mono (by omega)) (aA aI aC)))
    (aH (cI (bI (aA aI aC))))
    bA)
   (aE (bB (bN (bS 0 hF hC Mpasses (hr.mono (by omega)) (aA aI aC)))
    (aH (cI (bI (aA aI (aA (cZ 0 hF G26_ (hr.mono (by omega)) rfl aC) aC)))))
    bA)
   (aE (bB (bN (bS 0 hF hC Mpasses (hr.mono (by omega)) (aA aI aC)))
    (aH (cI (aL bC (bI (aA aI aC)) (cZ 0 hF G27_ (hr.mono (by omega)) rfl aC))))
    bA)
   (aE (bB (bN (bS 0 hF hC Mpasses (hr.mono (by omega)) (aA aI aC)))
    (aH (cI (bI (aA aI (aA (cZ 0 hF G28_ (hr.mono (by omega)) rfl aC) aC)))))
    bA)
   (aE (bB (bN (bS 0 hF hC Mpasses (hr.mono (by omega)) (aA aI aC)))
    (aH (cI (bI (aA aI (aA (cZ 0 hF G29_ (hr.mono (by omega)) rfl aC) aC)))))
    bA)
   (aE (bB (bN (bS 0 hF hC Mpasses (hr.mono (by omega)) (aA aI aC)))
    (aH (cI (cZ 0 hF G33_ (hr.mono (by omega)) rfl aC)))
    bA)
   (aE (bB (bN (bS 0 hF hC Mpasses (hr.mono (by omega)) (aA aI aC)))
    (aH (cI (cZ 0 hF G34_ (hr.mono (by omega)) rfl aC)))
    bA)
   (aE (cJ (bS 0 hF hC Mneeds (hr.mono (by omega)) (aA aI aC)))
   (aH (cI (cZ 0 hF G35_ (hr.mono (by omega)) rfl aC)))))))))))) (λt p Ts R q=>?_)
 obtain⟨x,r,rfl,hx,ht,hr,hf,q⟩:=q
 refine⟨rfl,?_⟩
 show cC _ _ _ [.rd t p]
 cases x with
 |nothing=>
  rw[show aY .nothing=.seq true [sT "nothing"] by rw[aY]]at q
  exact jB "nothing" (r':=r) hr rfl (by decide) λp1 h1=>⟨by simp,p1,rfl,q p1 h1⟩
 |truths bs=>
  have hr:Rst t p (cs (Str.join " " ("truth"::bs.map trS))++r):=hr
  rw[zE2,List.append_assoc]at hr
  rw[show aY (.truths bs)=.seq true [sT "truths",.seq true (bs.map bT)] by rw[aY]]at q
  refine cE "nothing" hr (by decide) rfl ?_
  refine jB "truth" hr rfl (by decide) λp1 h1=>?_
  exact⟨⟨t,p1,rfl⟩,t,p1,[],rfl,trivial,bs,r,rfl,hx,h1,hf,λp2 h2=>⟨by simp,p2,rfl,q p2 h2⟩⟩
 |numbers a b s=>
  have hx:jJ a b s:=hx
  have hr:Rst t p (cs (("number ":Str)++aW a b++" by "++aZ s)++r):=hr
  rw[cM,cM,app,List.append_assoc,<-cM]at hr
  rw[show aY (.numbers a b s)=.seq true [sT "numbers",iT a,iT b,iT s] by rw[aY]]at q
  refine cE "nothing" hr (by decide) rfl ?_
  refine cE "truth" hr (by decide) rfl ?_
  refine jB "number " hr rfl (by decide) λp1 h1=>?_
  exact⟨by simp,⟨t,p1,rfl⟩,t,p1,[],rfl,trivial,a,b,s,r,rfl,hx.1,hx.2.1,hx.2.2.1,ht,h1,hf.nofig,λp2 h2=>⟨by simp,p2,rfl,q p2 h2⟩⟩
 |texts w=>
  have hx:dQ w:=hx
  have hr:Rst t p (cs (("text ":Str)++txW w)++r):=hr
  rw[show aY (.texts w)=.seq true [sT "texts",dJ w] by rw[aY]]at q
  cases w with
  |few ts=>
   rw[app,zIy hx.1,List.append_assoc,List.append_assoc]at hr
   refine cE "nothing" hr (by decide) rfl ?_
   refine cE "truth" hr (by decide) rfl ?_
   refine cE "number " hr (by decide) rfl ?_
   refine jB "text few" (r':=ts.flatMap quC++r) hr rfl (by decide) λp1 h1=>?_
   exact⟨⟨t,p1,rfl⟩,t,p1,[],rfl,trivial,ts,r,rfl,hx.2.1,hx.2.2.2,ht,h1,hf,λp2 h2=>⟨by simp,p2,rfl,q p2 h2⟩⟩
  |make h lo hi ms=>
   obtain⟨w1,w2,w3,w4,w5,w6,w7⟩:=hx
   rw[app,zA9 w7,List.append_assoc,List.append_assoc]at hr
   have hn:(cs ("text few":Str)).isPrefixOf (cs ("text ":Str)++(cs (("make ":Str)++bE h++" "++aW lo hi)++(ms.flatMap mkC++r)))=false:=by
    rw[app,app,app]
    rfl
   refine cE "nothing" hr (by decide) rfl ?_
   refine cE "truth" hr (by decide) rfl ?_
   refine cE "number " hr (by decide) rfl ?_
   refine cE "text few" hr (by decide) hn ?_
   refine jB "text " hr rfl (by decide) λp1 h1=>?_
   exact⟨⟨t,p1,rfl⟩,t,p1,[],rfl,trivial,h,lo,hi,ms,r,rfl,w1,bL w2 (by omega),bL (by omega) w5,w6,ht,h1,.inl hf,λp2 h2=>⟨by simp,p2,rfl,q p2 h2⟩⟩
 |lists a b f=>
  obtain⟨h1,h2,h3,h4,h5⟩:=hx
  have fo:FR n f:=by
   by_cases z:b=0
   ·rw[h4 z];exact⟨by decide,λp hp=>nomatch hp⟩
   ·exact gD (h5 z).2.1 (h5 z).2.2
  have hr:Rst t p (cs (("list ":Str)++aW a b++" of "++txI (txP n) f)++r):=hr
  rw[cM,cM,app,List.append_assoc,<-cM]at hr
  refine cE "nothing" hr (by decide) rfl ?_
  refine cE "truth" hr (by decide) rfl ?_
  refine cE "number " hr (by decide) rfl ?_
  refine cE "text few" hr (by decide) rfl ?_
  refine cE "text " hr (by decide) rfl ?_
  refine jB "list " hr rfl (by decide) λp1 h1'=>?_
  exact⟨⟨t,p1,rfl⟩,t,p1,[],rfl,trivial,a,b,f,r,rfl,bL h1 (by omega),bL (by omega) h3,fo,ht,h1',λp2 h2=>⟨p2,rfl,q p2 h2⟩⟩
 |record a b fs=>
  obtain⟨h1,h2,h3,h4,h5,h6,h7,h8⟩:=hx
  have hr:Rst t p (cs (("record ":Str)++aW a b++" of ("++Str.join ", " (fs.map (txX (txP n)))++")")++r):=hr
  rw[cM,cM,cM,app,List.append_assoc,<-cM,<-cM]at hr
  refine cE "nothing" hr (by decide) rfl ?_
  refine cE "truth" hr (by decide) rfl ?_
  refine cE "number " hr (by decide) rfl ?_
  refine cE "text few" hr (by decide) rfl ?_
  refine cE "text " hr (by decide) rfl ?_
  refine cE "list " hr (by decide) rfl ?_
  refine jB "record " hr rfl (by decide) λp1 h1'=>?_
  exact⟨⟨t,p1,rfl⟩,t,p1,[],rfl,trivial,a,b,fs,r,rfl,bL h1 (by omega),bL (by omega) (by omega),h3,λx hx=>⟨(h5 x hx).1,gD (h5 x hx).2.2.1 (h5 x hx).2.2.2⟩,ht,h1',λp2 h2=>⟨p2,rfl,q p2 h2⟩⟩
 |table a b w f=>
  obtain⟨h1,h2,h3,h4,h5,h6,ne,ku,ok⟩:=hx
  have hr:Rst t p (cs (("table ":Str)++aW a b++" of ("++txW w++" "++txI (txP n) f++")")++r):=hr
  rw[cM,cM,cM,cM,cM,app,List.append_assoc,<-cM,<-cM,<-cM,<-cM]at hr
  refine cE "nothing" hr (by decide) rfl ?_
  refine cE "truth" hr (by decide) rfl ?_
  refine cE "number " hr (by decide) rfl ?_
  refine cE "text few" hr (by decide) rfl ?_
  refine cE "text " hr (by decide) rfl ?_
  refine cE "list " hr (by decide) rfl ?_
  refine cE "record " hr (by decide) rfl ?_
  refine sn_ "table " hr (by decide) λp1 h1'=>?_
  exact⟨⟨t,p1,rfl⟩,t,p1,[],rfl,trivial,a,b,w,f,r,rfl,bL h1.1 (by omega),bL (by omega) h4,h5,h6,gD ku ok,ht,h1',λp2 h2=>⟨p2,rfl,q p2 h2⟩⟩
end
end My
namespace My
open PySem L2 PyProof.Rows WordM
section
variable{P:Program}{w:World}{K:W.Frag}{mg:Str->Option Value}{base:Heap}{C:Addr}
open WordM
variable{n:Nat}
def RQ(m:Nat)(T:Tv)(L:Nat):Prop:=RpD m T/\(rT m T).length<=L
theorem RQ.le{m L M:Nat}{T:Tv}(h:RQ m T L)(l:L<=M):RQ m T M:=⟨h.1,Nat.le_trans h.2 l⟩
theorem zEp{x:Str}(h:Sg x):∀c∈x.cps.toList,c<16 ^ 8:=λc hc=>by
 have:∀c∈cs SIG,c<16 ^ 8:=by decide +kernel
 exact this c (h c hc)
theorem vA{m:Nat}{x:Str}(h:dR x):RQ (m+1) (sT x) (10*x.length+2):=by
 have:=PySem.StrLaws.reprText_len x (zEp h.1)
 exact⟨show(reprText x).length<=100000 by have:=h.2;omega,this⟩
theorem gZ{m L:Nat}{x:Str}(h:(reprText x).length<=L)(l:L<=100000):RQ (m+1) (sT x) L:=⟨Nat.le_trans h l,h⟩
theorem fZ{m:Nat}{i:Int}(h:cL i):RQ (m+1) (iT i) (aZ i).length:=⟨fP h,Nat.le_refl _⟩
theorem zAO{m:Nat}(b:Bool):RQ (m+1) (bT b) 5:=by cases b<;>exact⟨trivial,by show(Str.ofString _).length<=5;decide +kernel⟩
theorem zAf:∀{ps:List (Tv×Nat)}{m:Nat},(∀q∈ps,RQ m q.1 q.2)->piled ((ps.map (·.1)).map (rT m))<=(ps.map λq=>q.2+2).sum
 |[],_,_=>by simp[piled]
 |q::ps,m,h=>by
  have ih:=zAf (ps:=ps) λq hq=>h q (List.mem_cons_of_mem _ hq)
  have h0:=(h q (List.mem_cons_self ..)).2
  rw[List.map_cons,List.map_cons,piled_cons,List.map_cons,List.sum_cons]
  omega
theorem eB{m M:Nat}(ps:List (Tv×Nat))(h:∀q∈ps,RQ m q.1 q.2)(hm:(ps.map λq=>q.2+2).sum+3<=M)(h1:M<=100000):RQ (m+1) (.seq true (ps.map (·.1))) M:=by
 have hp:=zAf h
 have l:(tupleText ((ps.map (·.1)).map (rT m))).length<=M:=by
  unfold tupleText
  rw[aJ,aJ]
  have e3:(((if ((ps.map (·.1)).map (rT m)).length==1 then ",)" else ")":String):Str)).length<=2:=by split<;>decide
  have e2:(Str.join ", " ((ps.map (·.1)).map (rT m))).length<=piled ((ps.map (·.1)).map (rT m)):=by
   by_cases z:(ps.map (·.1)).map (rT m)=[]
   ·rw[z];exact Nat.zero_le _
   ·have:=join_length_add _ z
    omega
  show 1+_+_<=M
  omega
 refine⟨⟨by show(tupleText _).length<=_;omega,λx hx=>?_⟩,l⟩
 obtain⟨q,hq,rfl⟩:=List.mem_map.mp hx
 exact(h q hq).1
theorem qI{α:Type}{A B:α->Nat}:∀{l:List α},(∀x∈l,A x<=10*B x)->(l.map A).sum<=10*(l.map B).sum
 |[],_=>Nat.le_refl _
 |x::l,h=>by
  have:=h x (List.mem_cons_self ..)
  have:=qI (l:=l) λy hy=>h y (List.mem_cons_of_mem _ hy)
  rw[List.map_cons,List.map_cons,List.sum_cons,List.sum_cons]
  omega
abbrev dI(n:Nat)(p:Pt):Nat:=(txP n p).length
theorem pQ{f:List Pt}(ih:∀p,L2.PartOk n p->dI n p<=4000->∀m,∃L,L+20<=10*dI n p/\RQ (4*n+m) (aY p) L)(hf:FR n f)(hl:(txF (txP n) f).length<=4000)(m:Nat):RQ (4*n+m+1) (bW f) (10*(txF (txP n) f).length):=by
 cases f with
 |nil=>exact eB [] (λq hq=>nomatch hq) (by show 3<=50;decide) (by omega)
 |cons x f=>
  have e:txF (txP n) (x::f)=Str.join " | " ((x::f).map (txP n)):=by rw[txF,if_neg (by simp)]
  rw[e]at hl ⊢
  have all:∀p∈x::f,RQ (4*n+m) (aY p) (10*dI n p-20):=λp hp=>by
   have:dI n p<=(Str.join " | " ((x::f).map (txP n))).length:=mV " | " (List.mem_map.mpr ⟨p,hp,rfl⟩)
   obtain⟨L,h1,h2⟩:=ih p (hf.2 p hp) (by omega) m
   exact h2.le (by omega)
  have:=eB (m:=4*n+m) (M:=10*(Str.join " | " ((x::f).map (txP n))).length) ((x::f).map λp=>(aY p,10*dI n p-20)) (λq hq=>by
   obtain⟨p,hp,rfl⟩:=List.mem_map.mp hq
   exact all p hp) ?_ (by omega)
  ·rw[List.map_map]at this
   exact this
  ·have pos:∀p∈x::f,20<=10*dI n p:=λp hp=>by
    have:dI n p<=(Str.join " | " ((x::f).map (txP n))).length:=mV " | " (List.mem_map.mpr ⟨p,hp,rfl⟩)
    obtain⟨L,h1,_⟩:=ih p (hf.2 p hp) (by omega) 0
    omega
   have g:=mX " | " ((x::f).map (txP n))
   rw[List.map_map]at g ⊢
   rw[List.map_cons,List.sum_cons]at g ⊢
   have s:=qI (l:=f) (A:=(λq:Tv×Nat=>q.2+2)∘λp=>(aY p,10*dI n p-20)) (B:=Str.length∘txP n) λp hp=>by
    have:=pos p (List.mem_cons_of_mem _ hp)
    show 10*dI n p-20+2<=10*dI n p
    omega
   have:=pos x (List.mem_cons_self ..)
   show 10*dI n x-20+2+_+3<=_
   have g:dI n x+_<=_:=g
   omega
end
end My
namespace My
open PySem L2 PyProof.Rows WordM
section
variable{P:Program}{w:World}{K:W.Frag}{mg:Str->Option Value}{base:Heap}{C:Addr}
open WordM
variable{n:Nat}
theorem sU{α:Type}(c:Nat):∀l:List α,(l.map λ_=>c).sum=l.length*c
 |[]=>by simp
 |x::l=>by
  rw[List.map_cons,List.sum_cons,sU c l,List.length_cons,Nat.succ_mul]
  omega
theorem zGi{m:Nat}{ss:List Str}(h:∀s∈ss,dR s)(hl:(ss.map λs=>10*s.length+4).sum+3<=100000):RQ (m+2) (.seq true (ss.map sT)) ((ss.map λs=>10*s.length+4).sum+3):=by
 have:=eB (m:=m+1) (M:=(ss.map λs=>10*s.length+4).sum+3) (ss.map λs=>(sT s,10*s.length+2)) (λq hq=>by
  obtain⟨s,hs,rfl⟩:=List.mem_map.mp hq
  exact vA (h s hs)) (by rw[List.map_map];exact Nat.le_refl _) hl
 rw[List.map_map]at this
 exact this
theorem zCB{m:Nat}{w:Wd}(h:dQ w)(hl:(txW w).length<=4000):∃L,L+40<=10*((txW w).length+5)/\RQ (m+3) (dJ w) L:=by
 cases w with
 |few ts=>
  have g:=mX " " ("few"::ts.map bE)
  rw[List.map_cons,List.sum_cons,List.map_map]at g
  have s:=qI (l:=ts) (A:=λs=>10*s.length+4) (B:=Str.length∘bE) λx hx=>by
   have:=vB x
   show 10*x.length+4<=10*(bE x).length
   omega
  have g:3+(ts.map (Str.length∘bE)).sum<=(txW (.few ts)).length:=g
  have h1:=zGi (m:=m) h.2.2.2 (by omega)
  refine⟨_,?_,eB (m:=m+2) [(sT "few",5),(.seq true (ts.map sT),(ts.map λs=>10*s.length+4).sum+3)] (λq hq=>?_) (Nat.le_refl _) ?_⟩
  ·show(5+2+(((ts.map λs=>10*s.length+4).sum+3)+2+0))+3+40<=_
   omega
  ·simp only[List.mem_cons,List.not_mem_nil,or_false]at hq
   rcases hq with rfl|rfl
   ·exact gZ (by decide +kernel) (by decide)
   ·exact h1
  ·show(5+2+(((ts.map λs=>10*s.length+4).sum+3)+2+0))+3<=_
   omega
 |make hd a b ms=>
  obtain⟨w1,w2,w3,w4,w5,w6,w7⟩:=h
  have na:=bL w2 (show a<=100 by omega)
  have nb:=bL (show 0<=b by omega) w5
  have la:=cU na
  have lb:=cU nb
  have tl:5+(hd.length+2)+1+((aZ a).length+4+(aZ b).length)<=(txW (.make hd a b ms)).length:=by
   rw[pX w7]
   simp only[aJ]
   have:=vB hd
   have:(aW a b).length=(aZ a).length+4+(aZ b).length:=by unfold aW;rw[aJ,aJ];rfl
   show _<=4+1+(_+1+(_+1+_))
   omega
  have l4:=tP w6
  have h1:RQ (m+2) (.seq true (ms.map sT)) 43:=by
   have:=eB (m:=m+1) (M:=43) (ms.map λs=>(sT s,8)) (λq hq=>by
    obtain⟨s,hs,rfl⟩:=List.mem_map.mp hq
    exact gZ ((show ∀m∈MK,(reprText m).length<=8 by decide +kernel) s (w6.subset hs)) (show 8<=100000 by decide)) (by
    rw[List.map_map,show((λq:Tv×Nat=>q.2+2)∘λs:Str=>(sT s,8))=λ_=>10 from rfl,sU]
    omega) (by decide)
   rw[List.map_map]at this
   exact this
  have hl2:=w1.2
  refine⟨_,?_,eB (m:=m+2) [(sT "make",6),(sT hd,10*hd.length+2),(iT a,(aZ a).length),(iT b,(aZ b).length),(.seq true (ms.map sT),43)] (λq hq=>?_) (Nat.le_refl _) ?_⟩
  ·show(6+2+(10*hd.length+2+2+((aZ a).length+2+((aZ b).length+2+(43+2+0)))))+3+40<=_
   omega
  ·simp only[List.mem_cons,List.not_mem_nil,or_false]at hq
   rcases hq with rfl|rfl|rfl|rfl|rfl
   ·exact gZ (by decide +kernel) (by decide)
   ·exact vA w1
   ·exact fZ na
   ·exact fZ nb
   ·exact h1
  ·show(6+2+(10*hd.length+2+2+((aZ a).length+2+((aZ b).length+2+(43+2+0)))))+3<=_
   omega
theorem zAN:∀(n:Nat) (p:Pt),L2.PartOk n p->dI n p<=4000->∀m,∃L,L+20<=10*dI n p/\RQ (4*n+m) (aY p) L
 |0,p,h,_,_=>False.elim h
 |n+1,p,h,hl,m=>by
  have ih:=zAN n
  rw[show 4*(n+1)+m=(4*n+m+3)+1 by omega]
  cases p with
  |nothing=>
   rw[show aY .nothing=.seq true [sT "nothing"] by rw[aY]]
   refine⟨_,?_,eB [(sT "nothing",9)] (λq hq=>by rw[List.mem_singleton.mp hq];exact gZ (by decide +kernel) (by decide)) (Nat.le_refl _) (by decide)⟩
   show 9+2+0+3+20<=10*7
   decide
  |truths bs=>
   rw[show aY (.truths bs)=.seq true [sT "truths",.seq true (bs.map bT)] by rw[aY]]
   have b2:bs.length<=2:=by rcases h with rfl|rfl|rfl<;>decide
   have l8:8<=dI (n+1) (.truths bs):=by
    rcases h with rfl|rfl|rfl
    ·show 8<=(Str.join " " ("truth"::[false].map trS)).length;decide
    ·show 8<=(Str.join " " ("truth"::[true].map trS)).length;decide
    ·show 8<=(Str.join " " ("truth"::[false,true].map trS)).length;decide
   have h1:RQ (4*n+m+3) (.seq true (bs.map bT)) 17:=by
    have:=eB (m:=4*n+m+2) (M:=17) (bs.map λb=>(bT b,5)) (λq hq=>by
     obtain⟨b,hb,rfl⟩:=List.mem_map.mp hq
     exact zAO b) (by
     rw[List.map_map,show((λq:Tv×Nat=>q.2+2)∘λb:Bool=>(bT b,5))=λ_=>7 from rfl,sU]
     omega) (by decide)
    rw[List.map_map]at this
    exact this
   refine⟨_,?_,eB [(sT "truths",8),(.seq true (bs.map bT),17)] (λq hq=>?_) (Nat.le_refl _) (by show 8+2+(17+2+0)+3<=_;decide)⟩
   ·show 8+2+(17+2+0)+3+20<=_
    omega
   ·simp only[List.mem_cons,List.not_mem_nil,or_false]at hq
    rcases hq with rfl|rfl
    ·exact gZ (by decide +kernel) (by decide)
    ·exact h1
  |numbers a b s=>
   have h:jJ a b s:=h
   have l1:=cU h.1
   have l2:=cU h.2.1
   have l3:=cU h.2.2.1
   have e:dI (n+1) (.numbers a b s)=7+((aZ a).length+4+(aZ b).length)+4+(aZ s).length:=by
    show(("number ":Str)++aW a b++" by "++aZ s).length=_
    rw[aJ,aJ,aJ,lN];rfl
   rw[show aY (.numbers a b s)=.seq true [sT "numbers",iT a,iT b,iT s] by rw[aY]]
   refine⟨_,?_,eB [(sT "numbers",9),(iT a,(aZ a).length),(iT b,(aZ b).length),(iT s,(aZ s).length)] (λq hq=>?_) (Nat.le_refl _) ?_⟩
   ·show 9+2+((aZ a).length+2+((aZ b).length+2+((aZ s).length+2+0)))+3+20<=_
    omega
   ·simp only[List.mem_cons,List.not_mem_nil,or_false]at hq
    rcases hq with rfl|rfl|rfl|rfl
    ·exact gZ (by decide +kernel) (by decide)
    ·exact fZ h.1
    ·exact fZ h.2.1
    ·exact fZ h.2.2.1
   ·show 9+2+((aZ a).length+2+((aZ b).length+2+((aZ s).length+2+0)))+3<=_
    omega
  |texts w=>
   have h:dQ w:=h
   have e:dI (n+1) (.texts w)=5+(txW w).length:=by
    show(("text ":Str)++txW w).length=_
    rw[aJ];rfl
   obtain⟨L,h1,h2⟩:=zCB (m:=4*n+m) h (by omega)
   rw[show aY (.texts w)=.seq true [sT "texts",dJ w] by rw[aY]]
   refine⟨_,?_,eB [(sT "texts",7),(dJ w,L)] (λq hq=>?_) (Nat.le_refl _) ?_⟩
   ·show 7+2+(L+2+0)+3+20<=_
    omega
   ·simp only[List.mem_cons,List.not_mem_nil,or_false]at hq
    rcases hq with rfl|rfl
    ·exact gZ (by decide +kernel) (by decide)
    ·exact h2
   ·show 7+2+(L+2+0)+3<=_
    omega
  |lists a b f=>
   obtain⟨h1,h2,h3,h4,h5⟩:=h
   have fo:FR n f:=by
    by_cases z:b=0
    ·rw[h4 z];exact⟨by decide,λp hp=>nomatch hp⟩
    ·exact gD (h5 z).2.1 (h5 z).2.2
   have na:=bL h1 (show a<=100 by omega)
   have nb:=bL (show 0<=b by omega) h3
   have e:dI (n+1) (.lists a b f)=5+((aZ a).length+4+(aZ b).length)+4+((txF (txP n) f).length+2):=by
    show(("list ":Str)++aW a b++" of "++txI (txP n) f).length=_
    rw[aJ,aJ,aJ,lN,gJ];rfl
   have hF:=pQ ih fo (by omega) (m+2)
   rw[iA]
   refine⟨_,?_,eB [(sT "lists",7),(iT a,(aZ a).length),(iT b,(aZ b).length),(bW f,10*(txF (txP n) f).length)] (λq hq=>?_) (Nat.le_refl _) ?_⟩
   ·show 7+2+((aZ a).length+2+((aZ b).length+2+(10*(txF (txP n) f).length+2+0)))+3+20<=_
    omega
   ·simp only[List.mem_cons,List.not_mem_nil,or_false]at hq
    rcases hq with rfl|rfl|rfl|rfl
    ·exact gZ (by decide +kernel) (by decide)
    ·exact fZ na
    ·exact fZ nb
    ·exact hF
   ·show 7+2+((aZ a).length+2+((aZ b).length+2+(10*(txF (txP n) f).length+2+0)))+3<=_
    omega
  |record a b fs=>
   obtain⟨h1,h2,h3,h4,h5,h6,h7,h8⟩:=h
   have na:=bL h1 (show a<=100 by omega)
   have nb:=bL (show 0<=b by omega) (show b<=100 by omega)
   have e:dI (n+1) (.record a b fs)=7+((aZ a).length+4+(aZ b).length)+5+(Str.join ", " (fs.map (txX (txP n)))).length+1:=by
    show(("record ":Str)++aW a b++" of ("++Str.join ", " (fs.map (txX (txP n)))++")").length=_
    rw[aJ,aJ,aJ,aJ,lN];rfl
   have g:=mX ", " (fs.map (txX (txP n)))
   rw[List.map_map]at g
   have sm:=qI (l:=fs) (A:=λx=>10*x.1.length+18+10*(txF (txP n) x.2.2).length) (B:=Str.length∘txX (txP n)) λx hx=>by
    have:=uW (txP n) x
    show _<=10*(txX (txP n) x).length
    omega
   have hx:∀x∈fs,RQ (4*n+m+2) (bQ x) (10*x.1.length+16+10*(txF (txP n) x.2.2).length):=λx hx=>by
    have k:=h5 x hx
    have xl:(txX (txP n) x).length<=(Str.join ", " (fs.map (txX (txP n)))).length:=mV ", " (List.mem_map.mpr ⟨x,hx,rfl⟩)
    have:=uW (txP n) x
    have tx:=k.1.2
    have hF:=pQ ih (gD k.2.2.1 k.2.2.2) (by omega) m
    refine eB (m:=4*n+m+1) [(sT x.1,10*x.1.length+2),(bT x.2.1,5),(bW x.2.2,10*(txF (txP n) x.2.2).length)] (λq hq=>?_) ?_ (by omega)
    ·simp only[List.mem_cons,List.not_mem_nil,or_false]at hq
     rcases hq with rfl|rfl|rfl
     ·exact vA k.1
     ·exact zAO _
     ·exact hF
    ·show 10*x.1.length+2+2+(5+2+(10*(txF (txP n) x.2.2).length+2+0))+3<=_
     omega
   have hX:RQ (4*n+m+3) (.seq true (fs.map bQ)) ((fs.map λx=>10*x.1.length+18+10*(txF (txP n) x.2.2).length).sum+3):=by
    have:=eB (m:=4*n+m+2) (M:=(fs.map λx=>10*x.1.length+18+10*(txF (txP n) x.2.2).length).sum+3) (fs.map λx=>(bQ x,10*x.1.length+16+10*(txF (txP n) x.2.2).length)) (λq hq=>by
     obtain⟨x,hx',rfl⟩:=List.mem_map.mp hq
     exact hx x hx') (by
     rw[List.map_map]
     refine Nat.le_of_eq ?_
     congr 2
     refine List.map_congr_left λx _=>?_
     show 10*x.1.length+16+10*(txF (txP n) x.2.2).length+2=_
     omega) (by omega)
    rw[List.map_map]at this
    exact this
   rw[hZ]
   generalize (fs.map λx=>10*x.1.length+18+10*(txF (txP n) x.2.2).length).sum=S at sm hX
   refine⟨_,?_,eB [(sT "record",8),(iT a,(aZ a).length),(iT b,(aZ b).length),(.seq true (fs.map bQ),S+3)] (λq hq=>?_) (Nat.le_refl _) ?_⟩
   ·show 8+2+((aZ a).length+2+((aZ b).length+2+(S+3+2+0)))+3+20<=_
    omega
   ·simp only[List.mem_cons,List.not_mem_nil,or_false]at hq
    rcases hq with rfl|rfl|rfl|rfl
    ·exact gZ (by decide +kernel) (by decide)
    ·exact fZ na
    ·exact fZ nb
    ·exact hX
   ·show 8+2+((aZ a).length+2+((aZ b).length+2+(S+3+2+0)))+3<=_
    omega
  |table a b w f=>
   obtain⟨h1,h2,h3,h4,h5,h6,ne,ku,ok⟩:=h
   have na:=bL h1.1 (show a<=100 by omega)
   have nb:=bL (show 0<=b by omega) h4
   have e:dI (n+1) (.table a b w f)=6+((aZ a).length+4+(aZ b).length)+5+(txW w).length+1+((txF (txP n) f).length+2)+1:=by
    show(("table ":Str)++aW a b++" of ("++txW w++" "++txI (txP n) f++")").length=_
    rw[aJ,aJ,aJ,aJ,aJ,aJ,lN,gJ];rfl
   have hF:=pQ ih (gD ku ok) (by omega) (m+2)
   obtain⟨L,k1,k2⟩:=zCB (m:=4*n+m) h5 (by omega)
   rw[jR]
   refine⟨_,?_,eB [(sT "table",7),(iT a,(aZ a).length),(iT b,(aZ b).length),(dJ w,L),(bW f,10*(txF (txP n) f).length)] (λq hq=>?_) (Nat.le_refl _) ?_⟩
   ·show 7+2+((aZ a).length+2+((aZ b).length+2+(L+2+(10*(txF (txP n) f).length+2+0))))+3+20<=_
    omega
   ·simp only[List.mem_cons,List.not_mem_nil,or_false]at hq
    rcases hq with rfl|rfl|rfl|rfl|rfl
    ·exact gZ (by decide +kernel) (by decide)
    ·exact fZ na
    ·exact fZ nb
    ·exact k2
    ·exact hF
   ·show 7+2+((aZ a).length+2+((aZ b).length+2+(L+2+(10*(txF (txP n) f).length+2+0))))+3<=_
    omega
end
end My
namespace My
open PySem L2 PyProof.Rows WordM
section
variable{P:Program}{w:World}{K:W.Frag}{mg:Str->Option Value}{base:Heap}{C:Addr}
open WordM
variable{n:Nat}
theorem uZ{i:Int}(h:cL i):Sg (aZ i):=(vL i (Nat.lt_trans (qO h) (by decide))).1
theorem mZ{a b:Int}(ha:cL a)(hb:cL b):Sg (aW a b):=Sg.app (Sg.app (uZ ha) (cA (by decide +kernel))) (uZ hb)
theorem zCo{w:Wd}(h:dQ w):Sg (txW w):=by
 cases w with
 |few ts=>
  refine lA (cA (by decide +kernel)) λx hx=>?_
  rcases List.mem_cons.mp hx with rfl|hx
  ·exact cA (by decide +kernel)
  ·obtain⟨s,hs,rfl⟩:=List.mem_map.mp hx
   exact uY (h.2.2.2 s hs).1
 |make hd a b ms=>
  obtain⟨w1,w2,w3,w4,w5,w6,w7⟩:=h
  refine lA (cA (by decide +kernel)) λx hx=>?_
  rcases List.mem_cons.mp hx with rfl|hx
  ·exact cA (by decide +kernel)
  rcases List.mem_cons.mp hx with rfl|hx
  ·exact uY w1.1
  rcases List.mem_cons.mp hx with rfl|hx
  ·exact mZ (bL w2 (by omega)) (bL (by omega) w5)
  ·exact cA ((show ∀m∈MK,((cs m).all λc=>decide (c∈cs SIG))=true by decide +kernel) x (w6.subset hx))
theorem zCp{g:Pt->Str}{f:List Pt}(h:∀p∈f,Sg (g p)):Sg (txF g f):=by
 unfold txF
 split
 ·exact cA (by decide +kernel)
 ·refine lA (cA (by decide +kernel)) λx hx=>?_
  obtain⟨p,hp,rfl⟩:=List.mem_map.mp hx
  exact h p hp
theorem wN{g:Pt->Str}{f:List Pt}(h:∀p∈f,Sg (g p)):Sg (txI g f):=Sg.app (Sg.app (cA (by decide +kernel)) (zCp h)) (cA (by decide +kernel))
theorem zBC:∀(n:Nat) (p:Pt),L2.PartOk n p->Sg (txP n p)
 |0,p,h=>False.elim h
 |n+1,p,h=>by
  have ih:=zBC n
  cases p with
  |nothing=>exact cA (x:="nothing") (by decide +kernel)
  |truths bs=>
   rcases h with rfl|rfl|rfl
   ·exact cA (x:=Str.join " " ("truth"::[false].map trS)) (by decide +kernel)
   ·exact cA (x:=Str.join " " ("truth"::[true].map trS)) (by decide +kernel)
   ·exact cA (x:=Str.join " " ("truth"::[false,true].map trS)) (by decide +kernel)
  |numbers a b s=>
   have h:jJ a b s:=h
   exact Sg.app (Sg.app (Sg.app (cA (by decide +kernel)) (mZ h.1 h.2.1)) (cA (by decide +kernel))) (uZ h.2.2.1)
  |texts w=>exact Sg.app (cA (by decide +kernel)) (zCo h)
  |lists a b f=>
   obtain⟨h1,h2,h3,h4,h5⟩:=h
   have fo:∀p∈f,L2.PartOk n p:=by
    by_cases z:b=0
    ·rw[h4 z];exact λp hp=>nomatch hp
    ·exact(h5 z).2.2
   exact Sg.app (Sg.app (Sg.app (cA (by decide +kernel)) (mZ (bL h1 (by omega)) (bL (by omega) h3))) (cA (by decide +kernel))) (wN λp hp=>ih p (fo p hp))
  |record a b fs=>
   obtain⟨h1,h2,h3,h4,h5,h6,h7,h8⟩:=h
   refine Sg.app (Sg.app (Sg.app (Sg.app (cA (by decide +kernel)) (mZ (bL h1 (by omega)) (bL (by omega) (by omega)))) (cA (by decide +kernel))) (lA (cA (by decide +kernel)) λs hs=>?_)) (cA (by decide +kernel))
   obtain⟨x,hx,rfl⟩:=List.mem_map.mp hs
   have k:=h5 x hx
   refine lA (cA (by decide +kernel)) λs hs=>?_
   simp only[List.mem_cons,List.not_mem_nil,or_false]at hs
   rcases hs with rfl|rfl|rfl
   ·exact uY k.1.1
   ·cases x.2.1<;>exact cA (by decide +kernel)
   ·exact wN λp hp=>ih p (k.2.2.2 p hp)
  |table a b w f=>
   obtain⟨h1,h2,h3,h4,h5,h6,ne,ku,ok⟩:=h
   exact Sg.app (Sg.app (Sg.app (Sg.app (Sg.app (Sg.app (cA (by decide +kernel)) (mZ (bL h1.1 (by omega)) (bL (by omega) h4))) (cA (by decide +kernel))) (zCo h5)) (cA (by decide +kernel))) (wN λp hp=>ih p (ok p hp))) (cA (by decide +kernel))
def zAU:PSp:=λas R=>∃s:Str,as=[.va (sT s)]/\Sg s/\s.length<=10000/\R (bT true)
theorem zE7:∀c∈cs SIG,gB c=true:=by decide +kernel
namespace B0
theorem g2_(h:Has K mg "is_text" s2_)(B:Own mg)(G1_:aG P w K mg base 1 "is_sign" ["sign"] qM)   : aG P w K mg base 2 "is_text" ["thing"] zAU:=by
 refine h.pg1 ["thing"] (λnd hr=>
   (aH (aV (cR (eM "str" yB rfl B.isinstance (aB 0) (eK (v:=.ty "str") rfl B.str_ boot_str rfl)) (dN (bG (iJ rfl) rfl B.all boot_all (aA (bP (dO (sc:=aO s2_) (XN:=["thing"]) (N:=["sign"]) (fr:=[]) (cQ (aB 0)) (λ_ _ _ _ _=>(aR G1_ hr (aA (aB 0) aC))))) aC))))))) (λas R q=>?_)
 obtain⟨s,rfl,hs,ls,q⟩:=q
 refine⟨rfl,_,rfl,aN ⟨?_,iZ (λc:Nat=>sT ⟨#[c]⟩) (λc=>bT (gB c)) (λc hc R q=>⟨c,rfl,q⟩) ?_⟩⟩
 ·rw[List.length_map,<-WordM.len];omega
 ·refine⟨s.cps.toList.map gB,by rw[List.map_map];rfl,?_⟩
  rw[List.all_map,show(s.cps.toList.all (id∘gB))=true from List.all_eq_true.mpr λc hc=>zE7 c (hs c hc)]
  exact q
end B0
theorem zAo(h:Has K mg "part_read" rQ)(h1:Has K mg "form_read" rP)(h2:Has K mg "within_read" rY)(h3:Has K mg "field_read" rX)(h4:Has K mg "fields_read" rW)(h5:Has K mg "lists_read" rV)(h6:Has K mg "record_read" rS)(h7:Has K mg "table_read" rR)(B:Own mg)(hC:RdK K C)
  (M1:bO P w K mg base 1 "sees" ["self","words"] C nH) (M2:bO P w K mg base 2 "passes" ["self","words"] C dY) (M3:bO P w K mg base 3 "needs" ["self","words"] C eP) (M4:bO P w K mg base 4 "read_quoted" ["self"] C nX)
  (Gb:bK P w K mg base 4 "bounds_read" ["reader"] C jG) (Gt:bK P w K mg base 3 "truths_read" ["reader"] C qX) (Gn:bK P w K mg base 5 "numbers_read" ["reader"] C qY) (Gf:bK P w K mg base 5 "few_read" ["reader"] C qZ) (Gm:bK P w K mg base 5 "make_read" ["reader"] C nG):
  ∀n:Nat,bK P w K mg base (5+6*n) "part_read" ["reader"] C (prP n)
 |0=>h.pgR C36_ (fun|_,_,_,_,_,_,[_],_=>rfl) (λ_ _ _ _ _ _ _ _ _ _=>tH) λt p Ts R ⟨_,_,_,h,_⟩=>False.elim h
 |n+1=>by
  have G:=zAo h h1 h2 h3 h4 h5 h6 h7 B hC M1 M2 M3 M4 Gb Gt Gn Gf Gm n
  have G1:=zCS h1 B hC M2 G
  have G2:=zKA h2 B hC M3 G1
  have G3:=zKz h3 B hC M4 M2 M3 G2
  have G4:=zKy h4 B hC M1 M2 G3
  exact zKu h B hC M2 M3 Gt Gn Gf Gm (zKx h5 B hC M3 Gb G2) (zKw h6 B hC M3 Gb G4) (zKv h7 B hC M3 Gb Gm G2)
def zA0(n:Nat)(fa:Addr):PSp:=λas R=>∃f,as=[.va (sT (txF (txP n) f)),.fn fa]/\FR n f/\(txF (txP n) f).length<=4000/\R (bW f)
theorem zKH{fa:Addr}{n:Nat}(h:Has K mg "read_whole" zCx)(B:Own mg)(hC:RdK K C)(MK:MkR P w K mg base 1 "Reader" C)(M6:bO P w K mg base 1 "needs_end" ["self"] C zB3)(Gt:aG P w K mg base 2 "is_text" ["thing"] zAU)
  (Gv:bK P w K mg base (5+6*n+1) "form_read" ["reader"] C (xN n)) (hm:mg "form_read"=some (.ref fa)):aG P w K mg base (5+6*n+2) "read_whole" ["text","read_one"] (zA0 n fa):=by
 refine h.pg2 ["text","read_one","reader","thing"] (λnd hr=>
  (aE (bB (cS (bN (aR Gt hr (aA (aB 0) aC)))) (aH lE) bA)
  (zF4 2 0 MK (hr.mono (by omega)) rfl nd rfl (.inl rfl) (λF' hd hF=>
   (aE (zBq (i:=3) nd rfl (.inl rfl) (zE0 1 2 hF Gv hm hr))
   (aE (cJ (jS 2 hF hC M6 (hr.mono (by omega))))
   (aH (aV (aB 3))))))))) (λas R q=>?_)
 obtain⟨f,rfl,hf,ht,q⟩:=q
 refine⟨rfl,_,rfl,zCp (λp hp=>zBC n p (hf.2 p hp)),by omega,_,rfl,aX ?_⟩
 refine⟨_,by rfl,by simp[fO],rfl,?_⟩
 refine⟨rfl,_,0,rfl,f,[],rfl,hf,ht,by rw[List.append_nil];exact Rst.start _,.inl rfl,λp1 h1=>?_⟩
 exact⟨⟨_,p1,rfl⟩,_,p1,[],rfl,trivial,rfl,by omega,h1,q⟩
theorem zDj:bM ["self","text"] ["self","text"] (aO kS):=fsc (by decide +kernel)
theorem zEB{f:Addr}{fd:FuncData}(FU:Fun K "__init__" "Reader.__init__" kS f fd)(hC:RdK K C)(M:Mk K C f)(hm:mg "Reader"=some (.ref C)):MkR P w K mg base 1 "Reader" C:=
 zIj FU zDj hC M hm (fun|_,_,_,_,_,_,[_,_],_=>rfl) (λcdv A outer s H E hr=>fM (vE (pv 0) (pv 1) rfl) (kD (vE (pv 0) bY rfl)))
def vF:PSp:=λas R=>∃f,as=[.va (sT (txF (txP 4) f))]/\fF 4 f/\(txF (txP 4) f).length<=4000/\R (bW f)
theorem zKt{fa:Addr}(h:Has K mg "read_form" zCv)(B:Own mg)(Gw:aG P w K mg base 31 "read_whole" ["text","read_one"] (zA0 4 fa))(hm:mg "form_read"=some (.ref fa))(Gi:aG P w K mg base 60 "is_form" ["thing"] (nF 9 (kL 9))):aG P w K mg base 61 "read_form" ["text"] vF:=by
 refine h.pg1 ["text","form"] (λnd hr=>
  (aE (aT 1 nd (aR Gw hr (aA (aB 0) (zIG rfl hm aC))))
  (aE (bB (cS (bN (aR Gi hr (aA (aB 1) aC)))) (aH lE) bA)
  (aH (aV (aB 1)))))) (λas R q=>?_)
 obtain⟨f,rfl,hf,ht,q⟩:=q
 refine⟨rfl,f,rfl,⟨nO hf.1,λp hp=>(hf.2 p hp).low⟩,ht,_,rfl,((zCf 4 hf).fle).le (by decide),_,rfl,?_⟩
 rw[zAq 9 4 f (by decide) hf]
 exact aX q
end
end My
namespace My
open PySem L2 PyProof.Rows WordM
section
variable{P:Program}{w:World}{K:W.Frag}{mg:Str->Option Value}{base:Heap}{C:Addr}
theorem PartOk.le:∀{n m:Nat}{p:Pt},n<=m->PartOk n p->PartOk m p
 |0,_,_,_,h=>False.elim h
 |_+1,0,_,l,_=>absurd l (by omega)
 |n+1,m+1,p,l,h=>by
  have l':n<=m:=by omega
  cases p with
  |nothing=>trivial
  |truths bs=>exact h
  |numbers lo hi st=>exact h
  |texts w=>exact h
  |lists a b f=>exact⟨h.1,h.2.1,h.2.2.1,h.2.2.2.1,λz=>⟨(h.2.2.2.2 z).1,(h.2.2.2.2 z).2.1,λp hp=>((h.2.2.2.2 z).2.2 p hp).le l'⟩⟩
  |record a b fs=>exact⟨h.1,h.2.1,h.2.2.1,h.2.2.2.1,λx hx=>⟨(h.2.2.2.2.1 x hx).1,(h.2.2.2.2.1 x hx).2.1,(h.2.2.2.2.1 x hx).2.2.1,λp hp=>((h.2.2.2.2.1 x hx).2.2.2 p hp).le l'⟩,h.2.2.2.2.2⟩
  |table a b w f=>exact⟨h.1,h.2.1,h.2.2.1,h.2.2.2.1,h.2.2.2.2.1,h.2.2.2.2.2.1,h.2.2.2.2.2.2.1,h.2.2.2.2.2.2.2.1,λp hp=>(h.2.2.2.2.2.2.2.2 p hp).le l'⟩
theorem pF{g g':Pt->Str}{f:List Pt}(h:∀p∈f,g p=g' p):txF g f=txF g' f:=by
 unfold txF
 rw[List.map_congr_left h]
theorem qH:∀{n:Nat}{p:Pt},L2.PartOk n p->txP (n+1) p=txP n p
 |0,_,h=>False.elim h
 |n+1,p,h=>by
  cases p with
  |nothing=>rfl
  |truths bs=>rfl
  |numbers lo hi st=>rfl
  |texts w=>rfl
  |lists a b f=>
   have e:txF (txP (n+1)) f=txF (txP n) f:=by
    by_cases z:b=0
    ·rw[h.2.2.2.1 z];rfl
    ·exact pF λp hp=>qH ((h.2.2.2.2 z).2.2 p hp)
   show "list "++aW a b++" of "++("("++txF (txP (n+1)) f++")")=_
   rw[e];rfl
  |record a b fs=>
   have e:fs.map (txX (txP (n+1)))=fs.map (txX (txP n)):=List.map_congr_left λx hx=>by
    have:=pF λp hp=>qH ((h.2.2.2.2.1 x hx).2.2.2 p hp)
    unfold txX txI
    rw[this]
   show "record "++aW a b++" of ("++Str.join ", " (fs.map (txX (txP (n+1))))++")"=_
   rw[e];rfl
  |table a b w f=>
   have e:txF (txP (n+1)) f=txF (txP n) f:=pF λp hp=>qH (h.2.2.2.2.2.2.2.2 p hp)
   show "table "++aW a b++" of ("++txW w++" "++("("++txF (txP (n+1)) f++")")++")"=_
   rw[e];rfl
theorem zCa{f:List Pt}(h:FR 3 f):(txF (txP 3) f).length<=9079818:=by
 have:=mQ (g:=txP 3) h.1 λp hp=>pL (h.2 p hp)
 have:=LP3 (show 3<=3 from Nat.le_refl _)
 omega
theorem zJ9{f:List Pt}(h:FR 3 f):(txF (txP 4) f).length<=9079818:=by
 rw[show txF (txP 4) f=txF (txP 3) f from pF λp hp=>qH (h.2 p hp)]
 exact zCa h
def G4(g:List Pt):Prop:=fF 4 g/\oO 4 g
theorem wH{g:List Pt}(h:fF 4 g)(l:(txF (txP 4) g).length<=9500000):G4 g:=⟨h,gD h.1 λp hp=>(h.2 p hp).low,l⟩
theorem zBS{p:Pt}(h:PartOk 4 p)(l:(txP 4 p).length<=9500000):G4 [p]:=wH ⟨List.pairwise_singleton ..,λq hq=>by rw[List.mem_singleton.mp hq];exact h⟩ (by
 rw[txF,if_neg (by simp)]
 exact l)
theorem zCU(p:Pt):bW [p]=.seq true [aY p]:=rfl
theorem zFw(x:Str)(mu:Bool)(f:List Pt):fB [(x,mu,f)]=if mu=true then 1 else 0:=by cases mu<;>rfl
theorem C57_:bM ["_law_script","_law_deck_here","_law_world_here","_law_turn","_law_form_here","_law_field","_law_one","_law_text_here","_law_again"] ["_law_script"] (aO iS):=fsc (by decide +kernel)
theorem zIc{f:Addr}{fd:FuncData}(F:Fun K "law" "law" iS f fd)(B:Own mg)(G40_:Good P w K mg base 1 "_law_deck" ["_law_script"] (zBB K))(G46_:aG P w K mg base 5 "_law_world" ["_law_deck_here"] uD)(G52_:aG P w K mg base 15 "_law_form" ["_law_deck_here","_law_world_here","_law_deep","_law_most"] (kC 3))(G41_:aG P w K mg base 2 "_law_take" ["_law_deck_here","_law_most"] fD)(G56_:aG P w K mg base 12 "_law_form_text" ["_law_form_here"] (qW 4))(G38_:aG P w K mg base 61 "read_form" ["text"] vF)(Brepr:mg "repr"=none):FnOk P w K mg base CX0 62 f fd ["_law_script"] (qT K):=by
 refine F.ok C57_ (λvs H Q E q=>?_) (λcdv A outer s H vs Q E hr q=>?_)
 ·obtain⟨a,ns,rfl,_⟩:=q
  rfl
 ·obtain⟨aa,ns,rfl,hS,hlen,q⟩:=q
  have nd:=C57_.nd
  refine⟨_,(fM (jC (i:=1) nd rfl (by first|exact Or.inl rfl|exact Or.inr rfl) (nY G40_ (hr.mono (by omega)) rfl (dH (pv 0) eR)))
   (zGp λF=>(aE (aT 2 nd (aR G46_ hr (bH 1 aC)))
   (aE (gP (m:=9) PassesOwn.never rfl (iB rfl B.range (aA aD aC)) (dZ 3 (by decide) nd rfl (.inl rfl))
    (aE (aT 4 nd (aR G52_ hr (bH 1 (aA (aB 2) (aA (aR G41_ hr (bH 1 (aA aD aC))) (aA aD aC))))))
    (aE (aT 5 nd (bI (aA (aU hr (aU hr (aB 2) aD) (aB 3)) (aA (dF (gW hr.units).op (aL lH (aB 3) aD) aD) (aA (aB 4) aC)))))
    (aH (gP (m:=9) PassesOwn.never rfl (cQ (bP (dD (aA (aB 4) (aA (bI (aA (bI (aA aI (aA (aB 3) (aA (aL bC (aB 3) aD) (aA (aB 4) aC))))) aC)) (aA (bI (aA (bI (aA aI (aA (aL bC (aL gK (aL lH (aB 3) aD) (zBX zBG aD)) aD) (aA aD (aA (bI (aA (aB 5) aC)) aC))))) aC)) (aA (bI aC) aC))))))) (dZ 6 (by decide) nd rfl (.inl rfl))
     (aE (aT 7 nd (aR G56_ hr (aA (aB 6) aC)))
     (aH (gP (m:=9) PassesOwn.never rfl (iB rfl B.range (aA aD aC)) (dZ 8 (by decide) nd rfl (.inl rfl))
      (aH (bB (dG (lD (dA iO (bG zGn rfl B.len PySem.boot_len (aA (aB 7) aC)) aD) (mP (gX hr (bG (zAb hr.gd hr.units) rfl Brepr L2.boot_repr (aA (aR G38_ hr (aA (aB 7) aC)) aC)) (bG (zAb hr.gd hr.units) rfl Brepr L2.boot_repr (aA (aB 6) aC))))))
       (aH (aV cK))
       bA))))))))))
   (aH (aV cK)))))),?_⟩
  refine⟨_,rfl,aa,ns,rfl,hS,λp c H1 np nc d1 s1=>?_⟩
  refine zGO (N:=["_law_script","_law_deck_here","_law_world_here","_law_turn","_law_form_here","_law_field","_law_one","_law_text_here","_law_again"]) (by decide) d1 q ?_
  clear q hS hlen hr d1 s1 np nc
  refine⟨rfl,rfl,λnm tx st sp hw=>⟨_,rfl,by decide,by decide,?_⟩⟩
  refine jZ (λi ρ=>∃s3 s4 s5 s6 s7 s8:Sl,ρ=[.no,.dk,.va (dW nm tx st sp),s3,s4,s5,s6,s7,s8]) ⟨_,_,_,_,_,_,rfl⟩ ?_ (λ_ _=>rfl)
  rintro i T _ N hT ⟨s3,s4,s5,s6,s7,s8,rfl⟩ hN
  obtain⟨hi,rfl⟩:=jW hT
  have k0:0<=(0:Int)+(i:Int):=by omega
  have k4:(0:Int)+(i:Int)<4:=by omega
  generalize (0:Int)+(i:Int)=k at k0 k4
  refine⟨rfl,rfl,3,rfl,by decide,bJ (by decide) (by decide),λc c0 c1=>?_⟩
  refine⟨nm,tx,st,sp,c,6,rfl,hw,c0,by omega,by decide,by decide,λf fne fok=>?_⟩
  obtain⟨U,hU,hUm⟩:=jL (l:=nm.map sT) (r:=k) k0 (by rw[List.length_map,hw.n11];omega)
  obtain⟨x,hx,rfl⟩:=List.mem_map.mp hUm
  refine⟨_,rfl,_,hU,(show(0:Int)<2 by decide),by simp,?_⟩
  refine⟨by simp,by simp,(show(0:Int)<2 by decide),.inr ⟨bJ (by omega) (by omega),bJ (by decide) (by decide)⟩,by simp,by simp,by simp,by simp,by simp,?_⟩
  have fr:FR 3 f:=gD fok.1 λp hp=>(fok.2 p hp).low
  have l3:=zCa fr
  have na:=cU (bL k0 (by omega))
  have nb:=cU (bL (show 0<=k+1 by omega) (by omega))
  have txk:=hw.ns x hx
  have p4:∀p∈f,PartOk 3 p:=fok.2
  have gL:G4 [.lists k (k+1) f]:=by
   refine zBS ⟨k0,by omega,by omega,λz=>absurd z (by omega),λ_=>⟨fne,fok.1,p4⟩⟩ ?_
   show(("list ":Str)++aW k (k+1)++" of "++txI (txP 3) f).length<=_
   rw[aJ,aJ,aJ,gJ,lN]
   show 5+_+4+_<=_
   omega
  have hmu:∀mu:Bool,mu=(false != eqV (.int (k % 2)) (.int 0))->G4 [.record (k % 2 * -1+1) 1 [(x,mu,f)]]:=λmu hmu=>by
   have h2:k % 2=0\/k % 2=1:=by omega
   have e:mu=decide (k % 2=0):=by
    rw[hmu]
    rcases h2 with z|z<;>rw[z]<;>decide
   have m1:=cU (bL (show 0<=k % 2 * -1+1 by omega) (by omega))
   have m2:=cU (bL (show(0:Int)<=1 by decide) (by decide))
   have mo:=zFw x mu f
   refine zBS ⟨by omega,by omega,by simp,List.pairwise_singleton ..,λy hy=>?_,?_,by simp,λz=>?_⟩ ?_
   ·rw[List.mem_singleton.mp hy]
    exact⟨⟨txk.1,by have:=txk.2;show x.length<=50;omega⟩,fne,fok.1,p4⟩
   ·rw[mo,e]
    rcases h2 with z|z<;>rw[z]<;>decide
   ·rw[mo,e]at z ⊢
    rcases h2 with y|y
    ·rw[y]at z;exact absurd z (by show ¬ (1<1);decide)
    ·rw[y];exact⟨by show(1:Int) * -1+1<1;decide,by show((0:Nat):Int)<1;decide⟩
   ·have xl:=zAH (g:=txP 3) (x:=(x,mu,f)) (L:=9079818) ⟨txk.1,by have:=txk.2;show x.length<=50;omega⟩ l3
    show(("record ":Str)++aW (k % 2 * -1+1) 1++" of ("++txX (txP 3) (x,mu,f)++")").length<=_
    rw[aJ,aJ,aJ,aJ,lN]
    show 7+_+5+_+1<=_
    omega
  have gR:=hmu _ rfl
  clear hmu
  have gF:G4 f:=wH ⟨fok.1,λp hp=>(fok.2 p hp).le (by decide)⟩ (Nat.le_trans (zJ9 fr) (by decide))
  have gN':G4 []:=wH ⟨.nil,λp hp=>nomatch hp⟩ (by decide)
  generalize (false != eqV (.int (k % 2)) (.int 0))=mu at gR
  refine jZ (λj ρ=>∃s6 s7 s8:Sl,ρ=[.no,.dk,.va (dW nm tx st sp),.va (iT k),.va (bW f),.va (bQ (x,mu,f)),s6,s7,s8]) ⟨_,_,_,rfl⟩ ?_ ?_
  ·rintro j V _ N' hV ⟨s6,s7,s8,rfl⟩ hN'
   have hV:=List.mem_of_getElem? hV
   have hg:∃g,V=bW g/\G4 g:=by
    simp only[List.mem_cons,List.not_mem_nil,or_false]at hV
    rcases hV with rfl|rfl|rfl|rfl
    ·exact⟨f,rfl,gF⟩
    ·exact⟨_,by rw[zCU,iA],gL⟩
    ·exact⟨_,by rw[zCU,hZ];rfl,gR⟩
    ·exact⟨[],rfl,gN'⟩
   obtain⟨g,rfl,go,gm⟩:=hg
   refine⟨g,rfl,gm,2,rfl,by decide,by decide,?_⟩
   refine jZ (λj ρ=>∃s8:Sl,ρ=[.no,.dk,.va (dW nm tx st sp),.va (iT k),.va (bW f),.va (bQ (x,mu,f)),.va (bW g),.va (sT (txF (txP 4) g)),s8]) ⟨_,rfl⟩ ?_ ?_
   ·rintro j' V' _ N2 hV' ⟨s8,rfl⟩ hN2
    have gl:=gm.2
    refine⟨by omega,_,rfl,cT (λz=>?_) (λz=>aX (hN2 _ ⟨_,rfl⟩))⟩
    have l4:(txF (txP 4) g).length<=4000:=by omega
    have rq:=pQ (n:=4) (λp hp=>zAN 4 p hp) gm.1 l4 0
    refine⟨g,rfl,go,l4,16,g.map aY,rfl,by decide,rq.1,16,g.map aY,rfl,by decide,rq.1,_,rfl,sif (λz=>?_) (λz=>hN2 _ ⟨_,rfl⟩)⟩
    simp[eqV]at z
   ·rintro _ ⟨s8,rfl⟩
    exact hN' _ ⟨_,_,_,rfl⟩
  ·rintro _ ⟨s6,s7,s8,rfl⟩
   exact hN _ ⟨_,_,_,_,_,_,rfl⟩
end
end My
namespace My
open PySem L2 PyProof.Rows
open WordM
open PySem
theorem all_mk{l:W.OpenLaw}{w:World}{K:W.Frag}{h:Heap}{mg:Str->Option Value}{fa:Addr}(X:K.In h)(G:h.Ns mainGlobals mg)(hfa:mg "law"=some (.ref fa)){f57:Addr}{v_57 t_57:Option Addr}{p_57:Array (Option Value)}{u_57 w_57 x_57 y_57 r_57 q_57:Value}
 (h0_:Has K mg "is_whole" s0_)
 (h1_:Has K mg "is_sign" s1_)
 (h2_:Has K mg "is_text" s2_)
 (h3_:Has K mg "is_run" s3_)
 (h4_:Has K mg "rises" s4_)
 (h5_:Has K mg "is_few" s5_)
 (h6_:Has K mg "are_marks" s6_)
 (h7_:Has K mg "is_make" s7_)
 (h8_:Has K mg "is_words" s8_)
 (h9_:Has K mg "tails_many" s9_)
 (h10_:Has K mg "signs_of" xL)
 (h11_:Has K mg "words_many" zCA)
 (h12_:Has K mg "part_kind" zCz)
 (h13_:Has K mg "are_truths" xK)
 (h14_:Has K mg "are_bounds" zCy)
 (h15_:Has K mg "lets_some_by" xJ)
 (h16_:Has K mg "is_lists" xI)
 (h17_:Has K mg "is_field" xH)
 (h18_:Has K mg "are_fields" oH)
 (h19_:Has K mg "is_record" rZ)
 (h20_:Has K mg "is_table" xG)
 (h21_:Has K mg "is_part" xF)
 (h22_:Has K mg "is_form" mD)
 (h23_:Has K mg "read_whole" zCx)
 (h24_:Has K mg "show_truth" zCw)
 (h25_:Has K mg "bounds_read" xE)
 (h26_:Has K mg "truths_read" xD)
 (h27_:Has K mg "numbers_read" xC)
 (h28_:Has K mg "few_read" xB)
 (h29_:Has K mg "make_read" xA)
 (h30_:Has K mg "within_read" rY)
 (h31_:Has K mg "field_read" rX)
 (h32_:Has K mg "fields_read" rW)
 (h33_:Has K mg "lists_read" rV)
 (h34_:Has K mg "record_read" rS)
 (h35_:Has K mg "table_read" rR)
 (h36_:Has K mg "part_read" rQ)
 (h37_:Has K mg "form_read" rP)
 (h38_:Has K mg "read_form" zCv)
 (h39_:Has K mg "_law_mixed" wZ)
 (h40_:Has K mg "_law_deck" wY)
 (h41_:Has K mg "_law_take" wX)
 (h42_:Has K mg "_law_signs" wW)
 (h43_:Has K mg "_law_text" zCu)
 (h44_:Has K mg "_law_unlike" zCt)
 (h45_:Has K mg "_law_far" zCs)
 (h46_:Has K mg "_law_world" wV)
 (h47_:Has K mg "_law_make" wU)
 (h48_:Has K mg "_law_some_words" wT)
 (h49_:Has K mg "_law_record" mC)
 (h50_:Has K mg "_law_table" wS)
 (h51_:Has K mg "_law_part" wR)
 (h52_:Has K mg "_law_form" mB)
 (h53_:Has K mg "_law_quoted" zCr)
 (h54_:Has K mg "_law_words_text" wQ)
 (h55_:Has K mg "_law_part_text" rO)
 (h56_:Has K mg "_law_form_text" rN)
 (a57:W.nsIn K mainGlobals "law"=some (some (.ref f57))) (l57:K.lookup f57=some ⟨u_57,v_57,.func (W.fnOf "law" "law" (cN iS) (bR iS) (aO iS) .none w_57 x_57 y_57 t_57 r_57 q_57),p_57⟩) (c57:W.codeIn K r_57 "law"=true) (k57:W.keepIn K (.ref f57)=true)
    (z0:W.nsIn K mainGlobals "len"=some none) (z1:W.nsIn K mainGlobals "range"=some none) (z2:W.nsIn K mainGlobals "isinstance"=some none) (z3:W.nsIn K mainGlobals "int"=some none) (z4:W.nsIn K mainGlobals "bool"=some none) (z5:W.nsIn K mainGlobals "str"=some none) (z6:W.nsIn K mainGlobals "list"=some none) (z7:W.nsIn K mainGlobals "tuple"=some none) (z8:W.nsIn K mainGlobals "dict"=some none) (z9:W.nsIn K mainGlobals "sum"=some none) (z10:W.nsIn K mainGlobals "min"=some none) (z11:W.nsIn K mainGlobals "max"=some none) (z12:W.nsIn K mainGlobals "all"=some none) (z13:W.nsIn K mainGlobals "any"=some none) (z14:W.nsIn K mainGlobals "abs"=some none) (z15:W.nsIn K mainGlobals "zip"=some none) (z16:W.nsIn K mainGlobals "sorted"=some none) (z17:W.nsIn K mainGlobals "set"=some none) (z18:W.nsIn K mainGlobals "enumerate"=some none) {aSIGNS aMARKS aPK:Addr} {tk1 tk2 tk3 tk4 tk5 tk6 tk7 tk8 um1 um2 um3 um4 tp1 tp2 tp3 tp4 tp5 tp6 tp7 tp8 tp9 tp10 tp11 tp12 tp13 tp14:Tok} {epS nM epP:Nat} {ddM:Option Addr} {slM:Array (Option Value)} {aKN:Addr} {tkP tkF tkM uk1 uk2 uk3 uk4 uk5 uk6:Tok} {nK:Nat} {slK:Array (Option Value)} {aReader rf0 rf1 rf2 rf3 rf4 rf5 rf6:Addr} {rod0 ran0 rod1 ran1 rod2 ran2 rod3 ran3 rod4 ran4 rod5 ran5 rod6 ran6:Option Addr} {rsl0 rsl1 rsl2 rsl3 rsl4 rsl5 rsl6:Array (Option Value)} {roc0 rkV0 rdc0 rpm0 rcd0 rct0 roc1 rkV1 rdc1 rpm1 rcd1 rct1 roc2 rkV2 rdc2 rpm2 rcd2 rct2 roc3 rkV3 rdc3 rpm3 rcd3 rct3 roc4 rkV4 rdc4 rpm4 rcd4 rct4 roc5 rkV5 rdc5 rpm5 rcd5 rct5 roc6 rkV6 rdc6 rpm6 rcd6 rct6:Value}
    (aS:W.nsIn K mainGlobals "SIGNS"=some (some (.ref aSIGNS)))
    (lS:K.lookup aSIGNS=some ⟨.type "dict",none,.dict #[{hash:=PyData.keyHash w.params ("figure":Str),key:=.str "figure" tk1,val:=.str "0123456789" tk2},{hash:=PyData.keyHash w.params ("great":Str),key:=.str "great" tk3,val:=.str "ABCDEFGHIJKLMNOPQRSTUVWXYZ" tk4},{hash:=PyData.keyHash w.params ("other":Str),key:=.str "other" tk5,val:=.str " !\"#$&'()*+,-./:;<=>?\x40[\\]^_`{|}~" tk6},{hash:=PyData.keyHash w.params ("small":Str),key:=.str "small" tk7,val:=.str "abcdefghijklmnopqrstuvwxyz" tk8}] epS,#[]⟩)
    (aM:W.nsIn K mainGlobals "MARKS"=some (some (.ref aMARKS)))
    (lM:K.lookup aMARKS=some ⟨.type "tuple",ddM,.seq #[.str "figure" um1,.str "great" um2,.str "other" um3,.str "small" um4] nM,slM⟩)
    (aP:W.nsIn K mainGlobals "PART_KINDS"=some (some (.ref aPK)))
    (lP:K.lookup aPK=some ⟨.type "dict",none,.dict #[{hash:=PyData.keyHash w.params ("nothing":Str),key:=.str "nothing" tp1,val:=.str "nothing" tp2},{hash:=PyData.keyHash w.params ("truths":Str),key:=.str "truths" tp3,val:=.str "truth" tp4},{hash:=PyData.keyHash w.params ("numbers":Str),key:=.str "numbers" tp5,val:=.str "number" tp6},{hash:=PyData.keyHash w.params ("texts":Str),key:=.str "texts" tp7,val:=.str "text" tp8},{hash:=PyData.keyHash w.params ("lists":Str),key:=.str "lists" tp9,val:=.str "list" tp10},{hash:=PyData.keyHash w.params ("record":Str),key:=.str "record" tp11,val:=.str "dict" tp12},{hash:=PyData.keyHash w.params ("table":Str),key:=.str "table" tp13,val:=.str "dict" tp14}] epP,#[]⟩)
    (aPC:W.nsIn K mainGlobals "PERCENT"=some (some (.int 37 tkP)))
    (aF:W.nsIn K mainGlobals "MOST_FEW"=some (some (.int 6 tkF)))
    (aMF:W.nsIn K mainGlobals "MOST_FIELDS"=some (some (.int 8 tkM)))
    (aK:W.nsIn K mainGlobals "KINDS"=some (some (.ref aKN)))
    (lK:K.lookup aKN=some ⟨.type "tuple",none,.seq #[.str "nothing" uk1,.str "truth" uk2,.str "number" uk3,.str "text" uk4,.str "list" uk5,.str "dict" uk6] nK,slK⟩)
    (zo:W.nsIn K mainGlobals "ord"=some none)
    (zr:W.nsIn K mainGlobals "repr"=some none)
    (aRd:W.nsIn K mainGlobals "Reader"=some (some (.ref aReader)))
    (rpg:PySem.W.plainGet K aReader Str.empty=true)
    (rhd:PySem.W.hasDictIn K aReader=true)
    (rpo:PySem.W.plainOver K aReader=true)
    (rsa:PySem.W.findIn K (.ref aReader) "__setattr__"=some (some (.builtin "object.__setattr__")))
    (rmk:PySem.W.makesIn K aReader=true)
    (rkc:W.keepIn K (.ref aReader)=true)
    (rnT:PySem.W.findIn K (.ref aReader) "text"=some none)
    (rnP:PySem.W.findIn K (.ref aReader) "place"=some none)
    (ra0:PySem.W.findIn K (.ref aReader) "__init__"=some (some (.ref rf0)))
    (ri0:PySem.W.isFn K (.ref rf0)=true)
    (rl0:K.lookup rf0=some ⟨roc0,rod0,.func (W.fnOf "__init__" "Reader.__init__" (cN kS) (bR kS) (aO kS) .none rkV0 rdc0 rpm0 ran0 rcd0 rct0),rsl0⟩)
    (rc0:W.codeIn K rcd0 "Reader.__init__"=true)
    (rk0:W.keepIn K (.ref rf0)=true)
    (ra1:PySem.W.findIn K (.ref aReader) "sees"=some (some (.ref rf1)))
    (ri1:PySem.W.isFn K (.ref rf1)=true)
    (rl1:K.lookup rf1=some ⟨roc1,rod1,.func (W.fnOf "sees" "Reader.sees" (cN kB) (bR kB) (aO kB) .none rkV1 rdc1 rpm1 ran1 rcd1 rct1),rsl1⟩)
    (rc1:W.codeIn K rcd1 "Reader.sees"=true)
    (rk1:W.keepIn K (.ref rf1)=true)
    (ra2:PySem.W.findIn K (.ref aReader) "passes"=some (some (.ref rf2)))
    (ri2:PySem.W.isFn K (.ref rf2)=true)
    (rl2:K.lookup rf2=some ⟨roc2,rod2,.func (W.fnOf "passes" "Reader.passes" (cN jT) (bR jT) (aO jT) .none rkV2 rdc2 rpm2 ran2 rcd2 rct2),rsl2⟩)
    (rc2:W.codeIn K rcd2 "Reader.passes"=true)
    (rk2:W.keepIn K (.ref rf2)=true)
    (ra3:PySem.W.findIn K (.ref aReader) "needs"=some (some (.ref rf3)))
    (ri3:PySem.W.isFn K (.ref rf3)=true)
    (rl3:K.lookup rf3=some ⟨roc3,rod3,.func (W.fnOf "needs" "Reader.needs" (cN jV) (bR jV) (aO jV) .none rkV3 rdc3 rpm3 ran3 rcd3 rct3),rsl3⟩)
    (rc3:W.codeIn K rcd3 "Reader.needs"=true)
    (rk3:W.keepIn K (.ref rf3)=true)
    (ra4:PySem.W.findIn K (.ref aReader) "needs_end"=some (some (.ref rf4)))
    (ri4:PySem.W.isFn K (.ref rf4)=true)
    (rl4:K.lookup rf4=some ⟨roc4,rod4,.func (W.fnOf "needs_end" "Reader.needs_end" (cN jP) (bR jP) (aO jP) .none rkV4 rdc4 rpm4 ran4 rcd4 rct4),rsl4⟩)
    (rc4:W.codeIn K rcd4 "Reader.needs_end"=true)
    (rk4:W.keepIn K (.ref rf4)=true)
    (ra5:PySem.W.findIn K (.ref aReader) "read_number"=some (some (.ref rf5)))
    (ri5:PySem.W.isFn K (.ref rf5)=true)
    (rl5:K.lookup rf5=some ⟨roc5,rod5,.func (W.fnOf "read_number" "Reader.read_number" (cN jO) (bR jO) (aO jO) .none rkV5 rdc5 rpm5 ran5 rcd5 rct5),rsl5⟩)
    (rc5:W.codeIn K rcd5 "Reader.read_number"=true)
    (rk5:W.keepIn K (.ref rf5)=true)
    (ra6:PySem.W.findIn K (.ref aReader) "read_quoted"=some (some (.ref rf6)))
    (ri6:PySem.W.isFn K (.ref rf6)=true)
    (rl6:K.lookup rf6=some ⟨roc6,rod6,.func (W.fnOf "read_quoted" "Reader.read_quoted" (cN jN) (bR jN) (aO jN) .none rkV6 rdc6 rpm6 ran6 rcd6 rct6),rsl6⟩)
    (rc6:W.codeIn K rcd6 "Reader.read_quoted"=true)
    (rk6:W.keepIn K (.ref rf6)=true):
    ∃fd:FuncData,(∀(s:Shared) (v:Value),BindsTo s fd ⟨[v],[]⟩ [("_law_script",v)])/\∀base:Heap,K.In base->base.Ns mainGlobals mg->FnOk l.prog w K mg base CX0 62 fa fd ["_law_script"] (qT K):=by
  have e:=hfa.symm.trans (PySem.W.mg_of X G a57)
  cases e
  have B:Own mg:=zH3 X G z0 z1 z2 z3 z4 z5 z6 z7 z8 z9 z10 z11 z12 z13 z14 z15 z16 z17 z18
  refine⟨W.fnOf "law" "law" (cN iS) (bR iS) (aO iS) .none w_57 x_57 y_57 t_57 r_57 q_57,λs v=>.of_eq rfl,λbase KB GB=>?_⟩
  have GSIGNS:oE K w.params mg "SIGNS" SGN:=⟨aSIGNS,PySem.W.mg_of X G aS,⟨⟨_,_,lS,⟨rfl,⟨_,rfl⟩,⟨_,rfl⟩,rfl,⟨_,rfl⟩,⟨_,rfl⟩,rfl,⟨_,rfl⟩,⟨_,rfl⟩,rfl,⟨_,rfl⟩,⟨_,rfl⟩,trivial⟩⟩,by decide +kernel⟩⟩
  have GPART_KINDS:oE K w.params mg "PART_KINDS" sL:=⟨aPK,PySem.W.mg_of X G aP,⟨⟨_,_,lP,⟨rfl,⟨_,rfl⟩,⟨_,rfl⟩,rfl,⟨_,rfl⟩,⟨_,rfl⟩,rfl,⟨_,rfl⟩,⟨_,rfl⟩,rfl,⟨_,rfl⟩,⟨_,rfl⟩,rfl,⟨_,rfl⟩,⟨_,rfl⟩,rfl,⟨_,rfl⟩,⟨_,rfl⟩,rfl,⟨_,rfl⟩,⟨_,rfl⟩,trivial⟩⟩,by decide +kernel⟩⟩
  have TM:∀H,SqT K H aMARKS (MK.map V.str):=λH=>.inr ⟨_,_,_,lM,rfl,rfl,by show 4<=sizeLine;decide,.cons ⟨_,rfl⟩ (.cons ⟨_,rfl⟩ (.cons ⟨_,rfl⟩ (.cons ⟨_,rfl⟩ .nil)))⟩
  have GMARKS:fT K mg "MARKS" (.seq true (MK.map sT)):=zFP (PySem.W.mg_of X G aM) TM
  have GPERCENT:fT K mg "PERCENT" (iT 37):=⟨.int 37,_,PySem.W.mg_of X G aPC,⟨_,rfl⟩,λH=>.flat rfl⟩
  have GMOST_FEW:fT K mg "MOST_FEW" (iT 6):=⟨.int 6,_,PySem.W.mg_of X G aF,⟨_,rfl⟩,λH=>.flat rfl⟩
  have GMOST_FIELDS:fT K mg "MOST_FIELDS" (iT 8):=⟨.int 8,_,PySem.W.mg_of X G aMF,⟨_,rfl⟩,λH=>.flat rfl⟩
  have GKINDS:rH K mg "KINDS" KNS:=⟨aKN,_,_,_,PySem.W.mg_of X G aK,lK,by show 6<=sizeLine;decide,.cons ⟨_,rfl⟩ (.cons ⟨_,rfl⟩ (.cons ⟨_,rfl⟩ (.cons ⟨_,rfl⟩ (.cons ⟨_,rfl⟩ (.cons ⟨_,rfl⟩ .nil)))))⟩
  have Bord:mg "ord"=none:=PySem.W.mg_none_of X G zo
  have Brepr:mg "repr"=none:=PySem.W.mg_none_of X G zr
  have hC:RdK K aReader:=⟨⟨rpg,rhd,rpo,rsa⟩,rnT,rnP⟩
  have MK:MkR l.prog w K mg base 1 "Reader" aReader:=zEB (iL (st:=kS) rl0 rc0 rk0) hC ⟨rmk,ra0,ri0,rkc⟩ (PySem.W.mg_of X G aRd)
  have Hsees:HasM K aReader "sees" "Reader.sees" kB:=⟨rf1,_,iL (st:=kB) rl1 rc1 rk1,ra1,ri1,rk1⟩
  have Hpasses:HasM K aReader "passes" "Reader.passes" jT:=⟨rf2,_,iL (st:=jT) rl2 rc2 rk2,ra2,ri2,rk2⟩
  have Hneeds:HasM K aReader "needs" "Reader.needs" jV:=⟨rf3,_,iL (st:=jV) rl3 rc3 rk3,ra3,ri3,rk3⟩
  have Hneeds_end:HasM K aReader "needs_end" "Reader.needs_end" jP:=⟨rf4,_,iL (st:=jP) rl4 rc4 rk4,ra4,ri4,rk4⟩
  have Hread_number:HasM K aReader "read_number" "Reader.read_number" jO:=⟨rf5,_,iL (st:=jO) rl5 rc5 rk5,ra5,ri5,rk5⟩
  have Hread_quoted:HasM K aReader "read_quoted" "Reader.read_quoted" jN:=⟨rf6,_,iL (st:=jN) rl6 rc6 rk6,ra6,ri6,rk6⟩
  have Msees:=zIk (P:=l.prog) (w:=w) (mg:=mg) (base:=base) Hsees B hC
  have Mpasses:=zFG Hpasses B hC Msees
  have Mneeds:=zGN Hneeds B hC Mpasses
  have Mneeds_end:=zDx (P:=l.prog) (w:=w) (mg:=mg) (base:=base) Hneeds_end B hC
  have Mread_number:=zDe Hread_number B hC Mpasses
  have Mread_quoted:=zDd Hread_quoted B hC Mneeds Mpasses
  have G41_:aG l.prog w K mg base 2 "_law_take" ["_law_deck_here","_law_most"] fD:=Good.take (zIt h41_ (zGX h39_))
  have G42_:aG l.prog w K mg base 1 "_law_signs" [] pR:=zKs h42_ B 
  have G43_:aG l.prog w K mg base 3 "_law_text" ["_law_deck_here","_law_most"] nD:=zKr h43_ B G42_ G41_
  have G44_:aG l.prog w K mg base 4 "_law_unlike" ["_law_deck_here","_law_many","_law_most"] tM:=zKq h44_ B G42_ G43_
  have G45_:aG l.prog w K mg base 3 "_law_far" ["_law_deck_here"] wB:=zKp h45_ B G41_
  have G46_:aG l.prog w K mg base 5 "_law_world" ["_law_deck_here"] uD:=zKo h46_ B G41_ G44_ G43_ G45_
  have G0_:aG l.prog w K mg base 1 "is_whole" ["thing"] mT:=g0_ h0_ B 
  have G1_:aG l.prog w K mg base 1 "is_sign" ["sign"] qM:=g1_ h1_ B GPERCENT Bord
  have G2_:aG l.prog w K mg base 2 "is_text" ["thing"] kW:=g2_ h2_ B G1_
  have G4_:aG l.prog w K mg base 1 "rises" ["things"] iD:=g4_ h4_ B 
  have G5_:aG l.prog w K mg base 3 "is_few" ["thing"] wA:=g5_ h5_ B G4_ G2_ GMOST_FEW
  have G6_:aG l.prog w K mg base 2 "are_marks" ["thing"] sQ:=g6_ h6_ B G4_ GMARKS
  have G7_:aG l.prog w K mg base 3 "is_make" ["thing"] uF:=g7_ h7_ B G6_ G2_ G0_
  have G8_:aG l.prog w K mg base 4 "is_words" ["thing"] mN:=g8_ h8_ B G5_ G7_
  have G3_:aG l.prog w K mg base 2 "is_run" ["thing"] pV:=g3_ h3_ B G0_
  have G13_:aG l.prog w K mg base 2 "are_truths" ["thing"] oS:=zKR h13_ B G4_
  have G14_:aG l.prog w K mg base 2 "are_bounds" ["least","most"] kX:=zKQ h14_ B G0_
  have G9_:aG l.prog w K mg base 1 "tails_many" ["signs","shortest","longest","most"] uE:=g9_ h9_ B 
  have G10_:aG l.prog w K mg base 1 "signs_of" ["marks"] sX:=zKU h10_ B GSIGNS
  have G11_:aG l.prog w K mg base 2 "words_many" ["words","most"] pU:=zKT h11_ B G9_ G10_
  have G12_:aG l.prog w K mg base 1 "part_kind" ["part"] pT:=zKS h12_ B GPART_KINDS
  have G22_:aG l.prog w K mg base 60 "is_form" ["thing"] (nF 9 (kL 9)):=zN h22_ h21_ h16_ h17_ h18_ h19_ h20_ h15_ B G12_ G4_ G14_ G2_ G8_ G11_ G13_ G3_ GKINDS GMOST_FIELDS 9
  have G47_:aG l.prog w K mg base 4 "_law_make" ["_law_deck_here"] nE:=zKn h47_ B G41_ G43_
  have G48_:aG l.prog w K mg base 5 "_law_some_words" ["_law_deck_here","_law_world_here"] oR:=zKm h48_ B G41_ G47_
  have G52_:aG l.prog w K mg base 15 "_law_form" ["_law_deck_here","_law_world_here","_law_deep","_law_most"] (kC 3):=pZ h52_ h51_ h50_ h49_ B G41_ G47_ G48_ 3
  have G53_:aG l.prog w K mg base 1 "_law_quoted" ["_law_text_here"] nW:=zKh h53_ B 
  have G54_:aG l.prog w K mg base 2 "_law_words_text" ["_law_words"] qV:=zKg h54_ B G53_
  have G56_:aG l.prog w K mg base 12 "_law_form_text" ["_law_form_here"] (qW 4):=zCR h56_ B (zAn h55_ h56_ B G54_ G53_ 4)
  have G25_:bK l.prog w K mg base 4 "bounds_read" ["reader"] aReader jG:=zKF h25_ B hC Mread_number Mneeds 
  have G24_:aG l.prog w K mg base 1 "show_truth" ["truth"] pS:=zKG h24_ B 
  have G26_:bK l.prog w K mg base 3 "truths_read" ["reader"] aReader qX:=zKE h26_ B hC Mpasses G24_
  have G27_:bK l.prog w K mg base 5 "numbers_read" ["reader"] aReader qY:=zKD h27_ B hC Mneeds Mread_number G25_
  have G28_:bK l.prog w K mg base 5 "few_read" ["reader"] aReader qZ:=zKC h28_ B hC Msees Mneeds Mread_quoted 
  have G29_:bK l.prog w K mg base 5 "make_read" ["reader"] aReader nG:=zKB h29_ B hC Mneeds Mread_quoted Mpasses G25_ GMARKS
  obtain⟨fv,_,_,mv⟩:=id h37_
  have Gp:=zAo h36_ h37_ h30_ h31_ h32_ h33_ h34_ h35_ B hC Msees Mpasses Mneeds Mread_quoted G25_ G26_ G27_ G28_ G29_ 4
  have Gw:=zKH (n:=4) h23_ B hC MK Mneeds_end (B0.g2_ h2_ B G1_) (zCS h37_ B hC Mpasses Gp) mv
  have G38_:aG l.prog w K mg base 61 "read_form" ["text"] vF:=zKt h38_ B Gw mv G22_
  exact zIc (iL (st:=iS) l57 c57 k57) B (zIu h40_ B) G46_ G52_ G41_ G56_ G38_ Brepr
theorem walk{l:W.OpenLaw}{q:Program}{loose:List Str}{XP:(Str->Option Value)->Heap->Prop}{YP:World->Heap->Prop}{d:DefRec}{K:Params->W.Frag}(hn:l.most=some 63)(hdf:d.params.defaults=[])
  (hY:∀(w:World) (h:Heap),YP w h->(K w.params).In h)
  (F:∀(w:World) (mg:Str->Option Value) (fa:Addr) (h:Heap),(K w.params).In h->h.Ns mainGlobals mg->mg d.name=some (.ref fa) ->
   ∃fd:FuncData,(∀(s:Shared) (u:Value),BindsTo s fd ⟨[u],[]⟩ [("_law_script",u)])/\∀base:Heap,(K w.params).In base->base.Ns mainGlobals mg->FnOk l.prog w (K w.params) mg base CX0 62 fa fd ["_law_script"] (qT (K w.params))):
  PySem.W.WalkO q loose XP YP l.row.toRowW d [] (λf vs=>PySem.call f vs):=
 L2.walk_of (n:=63) (k:=62) (x:="_law_script") (CX:=λ_=>CX0) (sp:=λw=>qT (K w.params)) hn (by decide) hdf ⟨rfl,by decide,by decide,rfl⟩ hY F (λ_ _ a ns hl _ hS=>⟨a,ns,rfl,hS,hl,λ_=>rfl⟩) λ_ _ _ _ _ z=>z
end My
inductive PySem.W.Fast:Prop
|tw12310740297038997892
|tw17840523013724038144
|tw10867277893048445024
|tw13084202351470765408
|tw2102686552336499392
|tw13930827353828373344
|tw5964698759708181505
|tw2111272978758453345
|tw1469662358056400065
|tw16852666599850068257
|tw9907851693277420993
|tw3903908454863906497
|tw14782060877952531361
|tw13428051677250726370
|tw16432388265057212002
|tw8591772272064224259
|tw16192969638476917891
|tw3429371955879616003
|tw10194281183777982019
|tw3646564538223591043
|tw15763509786076877571
|tw6457512825650264035
|tw5102632137197060356
|tw5697473775584200004
|tw8739013529191189156
|tw12565402961686290084
|tw15962585376625857284
|tw17642048691295485732
|tw14305852342433566532
|tw17046778867906122757
|tw11099469002009999493
|tw4966194850025714853
|tw15697662972988895621
|tw2238646581920268965
|tw10758104595643279173
|tw1624900446888195941
|tw8875474887078130854
|tw6434849770942999846
|tw2824777671824970214
|tw3496831617394049542
|tw9032179902068780582
|tw6741320145632551943
|tw11341338002625538119
|tw12951077573459654919
|tw4573980420004242855
|tw13470880114362876359
|tw16147667243461578439
|tw14028233849265529671
|tw2175897978770937896
|tw6758055607701440584
|tw16417051363205836040
|tw14106407855890833704
|tw12244520698518744936
|tw12582570302322509833
|tw1884860031783360585
|tw10389606062975279529
|tw9221593174879371721
|tw14037144428899245609
|tw8805322090614393481
|tw4628462260818357097
|tw6837039834887018473
|tw2848846391641842730
|tw10108058306576423466
|tw17899033252834780906
|tw6899185017376843658
|tw12356847969807612971
|tw6673252063529093419
|tw13827631642412300747
|tw1894203948336359019
|tw8803002962194297803
|tw16239734347099225196
|tw2709837455470390732
|tw17123000178417235436
|tw13878608701467586060
|tw111149497174475532
|tw12206140388335199597
|tw5978612046667451981
|tw14492392944640971373
|tw184764354398534637
|tw281576586100709582
|tw4831604071443942990
|tw11530978013683913486
|tw704174678644194031
|tw16364895174017604367
|tw6279531305924108336
|tw9423417256472066160
|tw1104569288500498576
|tw3609398219215046960
|tw16963033477689519440
|tw6018487211431908752
|tw8097581448172156336
|tw14413164565182388880
|tw12195602454826398384
|tw3234434635670690480
|tw9255911728770346449
|tw4735513706008504817
|tw15396743278752032369
|tw11614450421915130833
|tw7722517112285466609
|tw15133928999236500850
|tw15017634639428719250
|tw7473346241436404594
|tw6289120938822668146
|tw16958966789197770771
|tw1919285221668557875
|tw15794537103623869587
|tw12331293553146860723
|tw13080638342285107379
|tw15021521953137124851
|tw5019898283556518547
|tw4913556668280608595
|tw2001351967876141971
|tw1492504996332588052
|tw433862097142278036
|tw265704661974810869
|tw9907678461793901877
|tw10450694215170758005
|tw16486459559931884917
|tw9303693062883788309
|tw18398921834019431285
|tw14159402196622813141
|tw14216869653418795989
|tw10988056403122242742
|tw2862705734919911670
|tw1719218094567252246
|tw11548808533993029942
|tw13304672310383089654
|tw9836851286382838807
|tw7508870320976093239
|tw1923650580832663767
|tw16453479213861120471
|tw1902887472486061623
|tw272848520181618712
|tw8499973415207145720
|tw14016255242552265048
|tw10298915456829897368
|tw7600327659743743768
|tw14424062567187130264
|tw4722929779073363033
|tw3008013001400336601
|tw3704210691702172025
|tw17336691372706917849
|tw8898177931418457721
|tw10771364148222883449
|tw18151977787442183897
|tw12467158074607174425
|tw5499381100109711225
|tw7211194116273327065
|tw13317208101619694714
|tw14542188016353648250
|tw18271984195915791002
|tw11343055602622219355
|tw8617317571108864827
|tw3327138185487271676
|tw2258433398756857885
|tw2064778296329492797
|tw4935072795147008797
|tw11030672006136221533
|tw1364963098703751486
|tw3975719630089841982
|tw1673762069884546494
|tw1628838288103383582
|tw7486896149594895998
|tw7878841747458883582
|tw15516761573897300095
|tw12581151406458685759
|tw11789082555676202623
|tw11256265595310780255
|tw4060576380202375007
|tw2884230236250545151
open PySem PySem.W PyProof.Rows
set_option maxRecDepth 100000 in
set_option maxHeartbeats 0 in
theorem PySem.Challenge.cw_leastform_k82_forms_read_holds : PySem.Challenge.rw_leastform_k82_forms_read.Holds := by
 w_on; o_law; k_head; (case hw => w_witness2)
 k_fill
 refine My.walk (l := PySem.Challenge.rw_leastform_k82_forms_read) rfl rfl (fun w h Y => PySem.W.kIn_of Y) ?F
 case F =>
  intro w mg fa h KX G hmg
  refine' My.all_mk KX G hmg (L2.has_mk KX G ?a0 ?l0 ?c0 ?k0) (L2.has_mk KX G ?a1 ?l1 ?c1 ?k1) (L2.has_mk KX G ?a2 ?l2 ?c2 ?k2) (L2.has_mk KX G ?a3 ?l3 ?c3 ?k3) (L2.has_mk KX G ?a4 ?l4 ?c4 ?k4) (L2.has_mk KX G ?a5 ?l5 ?c5 ?k5) (L2.has_mk KX G ?a6 ?l6 ?c6 ?k6) (L2.has_mk KX G ?a7 ?l7 ?c7 ?k7) (L2.has_mk KX G ?a8 ?l8 ?c8 ?k8) (L2.has_mk KX G ?a9 ?l9 ?c9 ?k9) (L2.has_mk KX G ?a10 ?l10 ?c10 ?k10) (L2.has_mk KX G ?a11 ?l11 ?c11 ?k11) (L2.has_mk KX G ?a12 ?l12 ?c12 ?k12) (L2.has_mk KX G ?a13 ?l13 ?c13 ?k13) (L2.has_mk KX G ?a14 ?l14 ?c14 ?k14) (L2.has_mk KX G ?a15 ?l15 ?c15 ?k15) (L2.has_mk KX G ?a16 ?l16 ?c16 ?k16) (L2.has_mk KX G ?a17 ?l17 ?c17 ?k17) (L2.has_mk KX G ?a18 ?l18 ?c18 ?k18) (L2.has_mk KX G ?a19 ?l19 ?c19 ?k19) (L2.has_mk KX G ?a20 ?l20 ?c20 ?k20) (L2.has_mk KX G ?a21 ?l21 ?c21 ?k21) (L2.has_mk KX G ?a22 ?l22 ?c22 ?k22) (L2.has_mk KX G ?a23 ?l23 ?c23 ?k23) (L2.has_mk KX G ?a24 ?l24 ?c24 ?k24) (L2.has_mk KX G ?a25 ?l25 ?c25 ?k25) (L2.has_mk KX G ?a26 ?l26 ?c26 ?k26) (L2.has_mk KX G ?a27 ?l27 ?c27 ?k27) (L2.has_mk KX G ?a28 ?l28 ?c28 ?k28) (L2.has_mk KX G ?a29 ?l29 ?c29 ?k29) (L2.has_mk KX G ?a30 ?l30 ?c30 ?k30) (L2.has_mk KX G ?a31 ?l31 ?c31 ?k31) (L2.has_mk KX G ?a32 ?l32 ?c32 ?k32) (L2.has_mk KX G ?a33 ?l33 ?c33 ?k33) (L2.has_mk KX G ?a34 ?l34 ?c34 ?k34) (L2.has_mk KX G ?a35 ?l35 ?c35 ?k35) (L2.has_mk KX G ?a36 ?l36 ?c36 ?k36) (L2.has_mk KX G ?a37 ?l37 ?c37 ?k37) (L2.has_mk KX G ?a38 ?l38 ?c38 ?k38) (L2.has_mk KX G ?a39 ?l39 ?c39 ?k39) (L2.has_mk KX G ?a40 ?l40 ?c40 ?k40) (L2.has_mk KX G ?a41 ?l41 ?c41 ?k41) (L2.has_mk KX G ?a42 ?l42 ?c42 ?k42) (L2.has_mk KX G ?a43 ?l43 ?c43 ?k43) (L2.has_mk KX G ?a44 ?l44 ?c44 ?k44) (L2.has_mk KX G ?a45 ?l45 ?c45 ?k45) (L2.has_mk KX G ?a46 ?l46 ?c46 ?k46) (L2.has_mk KX G ?a47 ?l47 ?c47 ?k47) (L2.has_mk KX G ?a48 ?l48 ?c48 ?k48) (L2.has_mk KX G ?a49 ?l49 ?c49 ?k49) (L2.has_mk KX G ?a50 ?l50 ?c50 ?k50) (L2.has_mk KX G ?a51 ?l51 ?c51 ?k51) (L2.has_mk KX G ?a52 ?l52 ?c52 ?k52) (L2.has_mk KX G ?a53 ?l53 ?c53 ?k53) (L2.has_mk KX G ?a54 ?l54 ?c54 ?k54) (L2.has_mk KX G ?a55 ?l55 ?c55 ?k55) (L2.has_mk KX G ?a56 ?l56 ?c56 ?k56) ?a57 ?l57 ?c57 ?k57 ?z0 ?z1 ?z2 ?z3 ?z4 ?z5 ?z6 ?z7 ?z8 ?z9 ?z10 ?z11 ?z12 ?z13 ?z14 ?z15 ?z16 ?z17 ?z18 ?aS ?lS ?aM ?lM ?aP ?lP ?aPC ?aF ?aMF ?aK ?lK ?zo ?zr ?aRd ?rpg ?rhd ?rpo ?rsa ?rmk ?rkc ?rnT ?rnP ?ra0 ?ri0 ?rl0 ?rc0 ?rk0 ?ra1 ?ri1 ?rl1 ?rc1 ?rk1 ?ra2 ?ri2 ?rl2 ?rc2 ?rk2 ?ra3 ?ri3 ?rl3 ?rc3 ?rk3 ?ra4 ?ri4 ?rl4 ?rc4 ?rk4 ?ra5 ?ri5 ?rl5 ?rc5 ?rk5 ?ra6 ?ri6 ?rl6 ?rc6 ?rk6
  any_goals k_is
