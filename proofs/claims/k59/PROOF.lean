import PyProof.Rows.All
import Wide.All
import OpenK.AllK
import Wide.FinOn
import Lean
import PyProof.EqAt
import PyProof.EqKinds
import PyProof.TupleCall
import PyProof.NeKinds
import PyProof.IsiTupleOf
import PyProof.IsiHeapPairs
import PyProof.IsiPairs
import PyProof.ConsumeWalk
import PyProof.Rows.SumAny
import PyProof.FitsBits
import PyProof.Rows.SeqMore
import PyProof.ZipIter
import PyProof.TupleIter
import PyProof.LongRange
import PyProof.Rows.Range3
import PyProof.Rows.SortWalk
import PyProof.Rows.SortStr
import PyProof.StrWalks
import PyProof.DictRoads
import PyProof.MeetsStr
import PyProof.Rows.StrNews2
import PyProof.StrLawsIn
import PyProof.StrLaws
import PyProof.Rows.CatFin
import PyProof.Rows.StrClose5
import PyProof.SetKind
import PyProof.CollectWalk
import PyProof.Seq
import PyProof.ForAny
import PyProof.MakeMany
import PyProof.DictKinds
import PyProof.Rows.StrInSeq
import PyProof.WalkLemmas
import PyProof.Rows.SortShell
import PyProof.Rows.SetFrom
import PyProof.StrOps2
import PyProof.ReprNest
import PyProof.CallFns
import PyProof.StrLawsRepr
import PyProof.FString5
import OpenK.KOwn
import KE.KIsAll
import PyProof.ExcArgsOwn
import KE.RegKIsAll
import PyProof.DictIter
import PyProof.DictItems
import PyProof.DictItemsLoops
import PyProof.DictWalks
import KE.KDictList
import KE.KMinKey
import PyProof.ListRange
import PyProof.Rows.CallKwBuiltin
import KE.KDictOf
import PyProof.AttrMissHeap
import PyProof.EnumMake
import PyProof.EnumFor
import PyProof.Rows.RuleB_bool
import KE.KEqDict
import PyProof.StrCalls6
import PyProof.StrLawsReplace
import PyProof.Rows.FStr
import PyProof.Rows.StrJoin2
import PyProof.WalksMore
import PyProof.TupleOfStr
import KE.KUnpack
import PyProof.MaxThree
import KE.KSortTup
import PySem.Challenge.RW_leastform_k59_records_within
set_option Elab.async false
set_option linter.all false
set_option maxRecDepth 100000
set_option maxHeartbeats 4000000
namespace L2
open PySem PySem.Spec PyProof.Rows
abbrev Key:=Sum Int Str
def iQ:Key->Value->Bool
 |.inl k,v=>Value.isInt k v
 |.inr x,v=>Value.isStrOf x v
def zH8(w:World):Key->Int
 |.inl k=>hashInt k
 |.inr x=>hashStr w x
theorem fO:∀{k:Key}{v:Value},iQ k v=true->(∃i t,k=Sum.inl i/\v=Value.int i t)\/(∃x t,k=Sum.inr x/\v=Value.str x t)
 |.inl i,v,h=>by
  obtain⟨t,e⟩:=Value.isInt_shape (k:=i) (v:=v) h
  exact .inl ⟨i,t,rfl,e⟩
 |.inr x,v,h=>by
  obtain⟨t,e⟩:=Value.isStrOf_shape (x:=x) (v:=v) h
  exact .inr ⟨x,t,rfl,e⟩
theorem zDA(i:Int)(t:Tok):iQ (.inl i) (.int i t)=true:=by simp[iQ,Value.isInt]
theorem zDz(x:Str)(t:Tok):iQ (.inr x) (.str x t)=true:=by simp[iQ,Value.isStrOf]
theorem zGA(a b:Int):decide ((Sum.inl a:Key)=Sum.inl b)=(a==b):=by
 by_cases e:a=b
 ·subst e;simp
 ·have h:¬ (Sum.inl a:Key)=Sum.inl b:=λq=>e (Sum.inl.inj q)
  rw[decide_eq_false h]
  exact(beq_eq_false_iff_ne.mpr e).symm
theorem zGx(a b:Str):decide ((Sum.inr a:Key)=Sum.inr b)=decide (a=b):=by
 by_cases e:a=b
 ·subst e;simp
 ·have h:¬ (Sum.inr a:Key)=Sum.inr b:=λq=>e (Sum.inr.inj q)
  rw[decide_eq_false h,decide_eq_false e]
theorem zGz(a:Int)(b:Str):decide ((Sum.inl a:Key)=Sum.inr b)=false:=decide_eq_false (λq=>nomatch q)
theorem zGy(a:Str)(b:Int):decide ((Sum.inr a:Key)=Sum.inl b)=false:=decide_eq_false (λq=>nomatch q)
def cB(prog:Program)(w:World):PySem.KeyKind prog w Key where
 is:=iQ
 hash:=zH8 w
 inj:=λv a b ha hb=>by
  rcases fO ha with⟨i,t,rfl,rfl⟩|⟨x,t,rfl,rfl⟩
  ·rcases fO hb with⟨j,u,rfl,e⟩|⟨y,u,rfl,e⟩
   ·injection e with e1 _;rw[e1]
   ·exact nomatch e
  ·rcases fO hb with⟨j,u,rfl,e⟩|⟨y,u,rfl,e⟩
   ·exact nomatch e
   ·injection e with e1 _;rw[e1]
 byValue:=λk v h=>by
  rcases fO h with⟨i,t,rfl,rfl⟩|⟨x,t,rfl,rfl⟩<;>rfl
 pyHash:=λhv h=>by
  rcases fO hv with⟨i,t,rfl,rfl⟩|⟨x,t,rfl,rfl⟩
  ·exact wpAny_pyHash_int h
  ·exact wpAny_pyHash_str h
 eqBool:=λhu hv h=>by
  rcases fO hu with⟨i,t,rfl,rfl⟩|⟨x,t,rfl,rfl⟩
  ·rcases fO hv with⟨j,u,rfl,rfl⟩|⟨y,u,rfl,rfl⟩
   ·rw[zGA]at h;exact wpAny_eqBool_int h
   ·rw[zGz]at h;exact SeqAt.EqAt.int_str i t y u _ _ _ _ h
  ·rcases fO hv with⟨j,u,rfl,rfl⟩|⟨y,u,rfl,rfl⟩
   ·rw[zGy]at h;exact SeqAt.EqAt.str_int x t j u _ _ _ _ h
   ·rw[zGx]at h;exact wpAny_eqBool_str h
 «strs»:=λk x t v h=>by
  rcases fO h with⟨i,u,rfl,e⟩|⟨y,u,rfl,e⟩
  ·exact nomatch e
  ·injection e with e1 _
   subst e1
   cases v<;>rfl
theorem zCt(prog:Program)(w:World)(i:Int)(t:Tok):(cB prog w).is (.inl i) (.int i t)=true:=zDA i t
theorem nU(prog:Program)(w:World)(x:Str)(t:Tok):(cB prog w).is (.inr x) (.str x t)=true:=zDz x t
end L2
namespace L2
open PySem PySem.Spec PyProof.Rows
inductive V where
 |non|bl (b:Bool)|int (i:Int)|str (x:Str)|byt (b:Array UInt8)|flt (b:UInt64)|ref (a:Addr)|ty (n:String)
 deriving DecidableEq
def RelV:V->Value->Prop
 |.non,u=>u=Value.none
 |.bl b,u=>u=Value.bool b
 |.int i,u=>∃t,u=Value.int i t
 |.str x,u=>∃t,u=Value.str x t
 |.byt b,u=>∃t,u=Value.bytes b t
 |.flt b,u=>∃t,u=Value.float b t
 |.ref a,u=>u=Value.ref a
 |.ty n,u=>u=Value.type n
abbrev Vals:List V->List Value->Prop:=Paired RelV
theorem Vals.length{xs:List V}{us:List Value}(r:Vals xs us):xs.length=us.length:=Paired.length r
theorem Vals.get:∀{xs:List V}{us:List Value}{i:Nat}{x:V},Vals xs us->xs[i]?=some x->∃u,us[i]?=some u/\RelV x u
 |_,_,_,_,.nil,e=>by simp at e
 |_,_,0,_,.cons r _,e=>by simp at e;subst e;exact⟨_,rfl,r⟩
 |_,_,i+1,x,.cons _ t,e=>by
  obtain⟨u,h1,h2⟩:=Vals.get (i:=i) (x:=x) t (by simpa using e)
  exact⟨u,by simpa using h1,h2⟩
theorem Vals.set{x:V}{u:Value}(r:RelV x u):∀{xs:List V}{us:List Value}(i:Nat),Vals xs us->Vals (xs.set i x) (us.set i u)
 |_,_,_,.nil=>.nil
 |_,_,0,.cons _ t=>.cons r t
 |_,_,i+1,.cons q t=>.cons q (Vals.set r i t)
theorem Vals.append:∀{xs ys:List V}{us ws:List Value},Vals xs us->Vals ys ws->Vals (xs++ys) (us++ws)
 |_,_,_,_,.nil,s=>s
 |_,_,_,_,.cons r t,s=>.cons r (Vals.append t s)
theorem Vals.take:∀{xs:List V}{us:List Value}(n:Nat),Vals xs us->Vals (xs.take n) (us.take n)
 |_,_,0,_=>.nil
 |_,_,_+1,.nil=>.nil
 |_,_,n+1,.cons r t=>.cons r (Vals.take n t)
theorem Vals.drop:∀{xs:List V}{us:List Value}(n:Nat),Vals xs us->Vals (xs.drop n) (us.drop n)
 |_,_,0,r=>r
 |_,_,_+1,.nil=>.nil
 |_,_,n+1,.cons _ t=>Vals.drop n t
def RelO:Option V->Option Value->Prop
 |some v,some u=>RelV v u
 |none,none=>True
 |_,_=>False
def KV{κ:Type}:List (κ×V)->List (κ×Value)->Prop:=Paired λ(p:κ×V) (q:κ×Value)=>p.1=q.1/\RelV p.2 q.2
def kV:Key->V
 |.inl i=>.int i
 |.inr x=>.str x
inductive HO where
 /-- a list -/
 |lst (xs:List V)
 /-- a tuple (never changes) -/
 |tup (xs:List V)
 /-- a dict whose keys are ints and texts; one whose keys are tuples of ints and texts (the empty one is both) -/
 |dK (kvs:List (Key×V))|dT (kvs:List (List Key×V))
 /-- a set of ints: its members, its size -/
 |set (S:Int->Bool) (n:Nat)
 /-- an instance of the class at C, its dict at dx, its attributes -/
 |ins (C dx:Addr) (fs:List (Str×V))
 /-- the dict of the instance at x -/
 |own (x:Addr)
 /-- the dict of an exception -/
 |xd (fs:List (Str×V))
 /-- a bound method, f of x -/
 |met (f x:Addr)
 /-- a range object lo, lo + 1, .. below hi -/
 |rng (lo hi:Int)
 /-- a thing that is known to the object (the script; a dict while a loop walks it): read, never written while it is so -/
 |frz (o:Obj) (u:HO)
 /-- a code object's table -/
 |tbl (ps:Array Value)
 /-- any other thing, by what is true of its one object (a def of one's own: SetO a S n := HO.ext fun h => ..) -/
 |ext (φ:Heap->Prop)
abbrev Hp:=Addr->Option HO
def upd(H:Hp)(a:Addr)(o:HO):Hp:=λb=>if b=a then some o else H b
theorem bM{H:Hp}{a:Addr}{o:HO}:upd H a o a=some o:=by unfold upd;rw[if_pos rfl]
theorem bL{H:Hp}{a b:Addr}{o:HO}(h:b≠a):upd H a o b=H b:=by unfold upd;rw[if_neg h]
theorem cU{H:Hp}{a b:Addr}{o:HO}(h:H a=some o)(h':H b=none):a≠b:=by
 intro e;subst e;rw[h]at h';cases h'
section
variable(P:Program)(w:World)
def ObjOk(H:Hp)(h:Heap)(a:Addr):HO->Prop
 |.lst xs=>xs.length<=sizeLine/\∃(its:List Value) (n:Nat),Vals xs its/\h.get? a=some {cls:=.type "list",data:=.seq its.toArray n}
 |.tup xs=>xs.length<=sizeLine/\∃its:List Value,Vals xs its/\IsTup h a its.toArray
 |.dK kvs=>kvs.length<=sizeLine/\(a==sysModules)=false/\∃vs,KV kvs vs/\h.DictOf (cB P w) a vs
 |.dT kvs=>kvs.length<=sizeLine/\(a==sysModules)=false/\∃xs:List (List Key×Addr×Value),
   Paired (λ(p:List Key×V) (q:List Key×Addr×Value)=>p.1=q.1/\H q.2.1=some (.tup (p.1.map kV))/\RelV p.2 q.2.2) kvs xs /\
   ∃o es ep,h.get? a=some o/\o.ExactDict/\o.data=.dict es ep/\es.toList=xs.map (entryOfKey (tupleKind (cB P w)))/\(xs.map (·.1)).Nodup
 |.set S n=>h.SetOf (intKind P w) a S n
 |.ins C dx fs=>H dx=some (.own a)/\fs.length<=1000/\dx≠a/\h.get? a=some (PySem.W.instObj C dx) /\
   ∃mA,h.Ns1 dx mA/\(∀f,RelO (fs.lookup f) (mA f))/\PySem.Within mA (fs.map (·.1))
 |.own _=>∃o,h.get? a=some o
 |.xd fs=>∃mA,h.Ns1 a mA/\∀f,RelO (fs.lookup f) (mA f)
 |.rng lo hi=>∃t u v,h.get? a=some {cls:=.type "range",data:=.fields #[.int lo t,.int hi u,.int 1 v]}
 |.frz o u=>h.get? a=some o/\ObjOk H h a u
 |.tbl ps=>h.get? a=some {cls:=.none,data:=.fields ps}
 |.met f x=>h.get? a=some (PySem.W.methodObj (.ref f) (.ref x))
 |.ext φ=>φ h/\(∃o,h.get? a=some o)/\∀h1 h2:Heap,φ h1->(∀o,h1.get? a=some o->h2.get? a=some o)->φ h2
def HOk(H:Hp)(h:Heap):Prop:=∀a o,H a=some o->ObjOk P w H h a o
end
section
variable{P:Program}{w:World}{H H':Hp}{h h':Heap}{a:Addr}{o:HO}
theorem ObjOk.lt(x:ObjOk P w H h a o):a<h.objs.size:=by
 cases o with
 |lst xs=>obtain⟨_,_,_,_,e⟩:=x;exact Heap.lt_size e
 |tup xs=>obtain⟨_,_,_,p⟩:=x;exact p.lt
 |dK kvs=>obtain⟨_,_,_,_,o,_,_,e,_⟩:=x;exact Heap.lt_size e
 |dT kvs=>obtain⟨_,_,_,_,o,_,_,e,_⟩:=x;exact Heap.lt_size e
 |set S n=>obtain⟨o,_,_,_,e,_⟩:=x;exact Heap.lt_size e
 |ins C dx fs=>obtain⟨_,_,_,e,_⟩:=x;exact Heap.lt_size e
 |own y=>obtain⟨_,e⟩:=x;exact Heap.lt_size e
 |xd fs=>obtain⟨_,⟨_,_,_,e,_⟩,_⟩:=x;exact Heap.lt_size e
 |rng lo hi=>obtain⟨_,_,_,e⟩:=x;exact Heap.lt_size e
 |frz ob u=>obtain⟨e,_⟩:=x;exact Heap.lt_size e
 |tbl ps=>exact Heap.lt_size (show h.get? a=some _ from x)
 |met f y=>exact Heap.lt_size (show h.get? a=some _ from x)
 |ext φ=>obtain⟨_,⟨_,e⟩,_⟩:=x;exact Heap.lt_size e
theorem Paired.mapP{α β:Type}{F G:α->β->Prop}:∀{l₁:List α}{l₂:List β},Paired F l₁ l₂->(∀a b,F a b->G a b)->Paired G l₁ l₂
 |_,_,.nil,_=>.nil
 |_,_,.cons r t,f=>.cons (f _ _ r) (Paired.mapP t f)
theorem ObjOk.stay(x:ObjOk P w H h a o)(k:∀b u,(b=a\/H b=some (.own a))->h.get? b=some u->h'.get? b=some u)
  (ho:∀b,H b=some (.own a)->H' b=some (.own a)) (ht:∀b xs,H b=some (.tup xs)->H' b=some (.tup xs)):ObjOk P w H' h' a o:=by
 induction o with
 |lst xs=>obtain⟨z,its,n,r,e⟩:=x;exact⟨z,its,n,r,k _ _ (.inl rfl) e⟩
 |tup xs=>obtain⟨z,its,r,ob,e,c⟩:=x;exact⟨z,its,r,ob,k _ _ (.inl rfl) e,c⟩
 |dK kvs=>obtain⟨z,y,vs,r,ob,es,ep,e,c⟩:=x;exact⟨z,y,vs,r,ob,es,ep,k _ _ (.inl rfl) e,c⟩
 |dT kvs=>
  obtain⟨z,y,xs,r,ob,es,ep,e,c⟩:=x
  exact⟨z,y,xs,Paired.mapP r λp q z=>⟨z.1,ht _ _ z.2.1,z.2.2⟩,ob,es,ep,k _ _ (.inl rfl) e,c⟩
 |set S n=>obtain⟨ob,es,ep,t,e,c⟩:=x;exact⟨ob,es,ep,t,k _ _ (.inl rfl) e,c⟩
 |ins C dx fs=>
  obtain⟨d,z,ne,e,mA,⟨od,es,ep,e2,c⟩,r⟩:=x
  exact⟨ho _ d,z,ne,k _ _ (.inl rfl) e,mA,⟨od,es,ep,k _ _ (.inr d) e2,c⟩,r⟩
 |own y=>obtain⟨ob,e⟩:=x;exact⟨ob,k _ _ (.inl rfl) e⟩
 |xd fs=>obtain⟨mA,⟨od,es,ep,e,c⟩,r⟩:=x;exact⟨mA,⟨od,es,ep,k _ _ (.inl rfl) e,c⟩,r⟩
 |rng lo hi=>obtain⟨t,u,v,e⟩:=x;exact⟨t,u,v,k _ _ (.inl rfl) e⟩
 |frz ob u ih=>obtain⟨e,q⟩:=x;exact⟨k _ _ (.inl rfl) e,ih q⟩
 |tbl ps=>
  have e:h.get? a=some {cls:=.none,data:=.fields ps}:=x
  show h'.get? a=some {cls:=.none,data:=.fields ps}
  exact k a _ (.inl rfl) e
 |met f y=>
  have e:h.get? a=some (PySem.W.methodObj (.ref f) (.ref y)):=x
  show h'.get? a=some (PySem.W.methodObj (.ref f) (.ref y))
  exact k a _ (.inl rfl) e
 |ext φ=>obtain⟨p,⟨o,e⟩,st⟩:=x;exact⟨st _ _ p λo q=>k _ _ (.inl rfl) q,⟨o,k _ _ (.inl rfl) e⟩,st⟩
theorem HOk.lt(x:HOk P w H h)(e:H a=some o):a<h.objs.size:=(x a o e).lt
theorem HOk.fresh(x:HOk P w H h)(e:h.objs.size<=a):H a=none:=by
 cases q:H a with
 |none=>rfl
 |some u=>exact absurd (Nat.lt_of_lt_of_le (x.lt q) e) (Nat.lt_irrefl _)
theorem HOk.kept(x:HOk P w H h)(k:∀b u,h.get? b=some u->h'.get? b=some u):HOk P w H h':=λa o e=>
 (x a o e).stay (λb u _ q=>k b u q) (λ_ q=>q) λ_ _ q=>q
theorem HOk.laid(x:HOk P w H h)(k:∀b u,h.get? b=some u->h'.get? b=some u)(hp:h.objs.size<=a)(new:ObjOk P w (upd H a o) h' a o):HOk P w (upd H a o) h':=λb u e=>by
 have hn:=x.fresh hp
 by_cases hb:b=a
 ·subst hb;rw[bM]at e;cases e;exact new
 ·rw[bL hb]at e
  exact(x b u e).stay (λc v _ q=>k c v q) (λc q=>by rw[bL (cU q hn)];exact q) λc xs q=>by rw[bL (cU q hn)];exact q
end
def Rd(H:Hp)(a:Addr)(u:HO):Prop:=H a=some u\/∃o,H a=some (.frz o u)
theorem Rd.ok{P:Program}{w:World}{H:Hp}{h:Heap}{a:Addr}{u:HO}(r:Rd H a u)(x:HOk P w H h):ObjOk P w H h a u:=by
 rcases r with r|⟨o,r⟩
 ·exact x a u r
 ·obtain⟨_,q⟩:=x a _ r
  exact q
def Mut:Option HO->Prop
 |some (.lst _)=>True
 |some (.dK _)=>True
 |some (.dT _)=>True
 |some (.set _ _)=>True
 |some (.ins _ _ _)=>True
 |some (.ext _)=>True
 |_=>False
section
variable{P:Program}{w:World}{H:Hp}{h h':Heap}{x e:Addr}{o':HO}
theorem HOk.write(ok:HOk P w H h)(mu:Mut (H x))(he:e=x\/H e=some (.own x))(k:∀b u,b≠e->h.get? b=some u->h'.get? b=some u)(heo:∃u,h'.get? e=some u)
  (new:ObjOk P w (upd H x o') h' x o'):HOk P w (upd H x o') h':=λb u q=>by
 have nown:∀c y,H c=some (.own y)->c≠x:=λc y r z=>by subst z;rw[r]at mu;exact mu
 have ntup:∀c xs,H c=some (.tup xs)->c≠x:=λc xs r z=>by subst z;rw[r]at mu;exact mu
 by_cases hb:b=x
 ·subst hb;rw[bM]at q;cases q;exact new
 ·rw[bL hb]at q
  by_cases hbe:b=e
  ·have q':H b=some (.own x):=by
    rcases he with z|z
    ·exact absurd (hbe.trans z) hb
    ·rw[hbe];exact z
   rw[q]at q';cases q'
   obtain⟨v,hv⟩:=heo
   exact⟨v,by rw[hbe];exact hv⟩
  ·refine(ok b u q).stay (λc v hc r=>k c v ?_ r) (λc r=>by rw[bL (nown c b r)];exact r) λc xs r=>by rw[bL (ntup c xs r)];exact r
   rcases hc with rfl|hc
   ·exact hbe
   ·rintro rfl
    rcases he with z|z
    ·exact nown c b hc z
    ·rw[hc]at z;cases z;exact hb rfl
end
structure Un (fs ex:List Addr) (H H':Hp) (h h':Heap):Prop where
 keep:∀b o,h.get? b=some o->H b=none->b∉fs->b∉ex->h'.get? b=some o
 slot:∀b o,h.get? b=some o->H b=none->b∈fs->b∉ex->∃sl,h'.get? b=some {o with slots:=sl}
 free:∀b o,h.get? b=some o->H b=none->b∉ex->H' b=none
 there:∀b o,h.get? b=some o->b∉ex->∃o',h'.get? b=some o'
 tups:∀b xs,H b=some (.tup xs)->H' b=some (.tup xs)
 frzs:∀b o u,H b=some (.frz o u)->H' b=some (.frz o u)
 tbls:∀b ps,H b=some (.tbl ps)->∃more,H' b=some (.tbl (ps++more))
section
variable{fs fs' ex ex':List Addr}{H H1 H2:Hp}{h h1 h2 h':Heap}{a x e:Addr}{o:HO}
theorem Un.any(u:Un fs ex H H1 h h1){b:Addr}{ob:Obj}(q:h.get? b=some ob)(n:H b=none)(hx:b∉ex):∃sl,h1.get? b=some {ob with slots:=sl}:=by
 by_cases hb:b∈fs
 ·exact u.slot b ob q n hb hx
 ·exact⟨ob.slots,u.keep b ob q n hb hx⟩
theorem Un.kept(k:∀b u,h.get? b=some u->h'.get? b=some u):Un fs ex H H h h':=
 ⟨λb ob q _ _ _=>k b ob q,λb ob q _ _ _=>⟨ob.slots,k b ob q⟩,λ_ _ _ n _=>n,λb ob q _=>⟨ob,k b ob q⟩,λ_ _ q=>q,λ_ _ _ q=>q,λ_ ps q=>⟨#[],by rw[q];simp⟩⟩
theorem Un.refl:Un fs ex H H h h:=Un.kept λ_ _ q=>q
theorem Un.laid(k:∀b u,h.get? b=some u->h'.get? b=some u)(hp:h.objs.size<=a)(hn:H a=none):Un fs ex H (upd H a o) h h' where
 keep:=λb u q _ _ _=>k b u q
 slot:=λb u q _ _ _=>⟨u.slots,k b u q⟩
 free:=λb u q n _=>by rw[bL (Nat.ne_of_lt (Nat.lt_of_lt_of_le (Heap.lt_size q) hp))];exact n
 there:=λb u q _=>⟨u,k b u q⟩
 tups:=λb xs q=>by rw[bL (cU q hn)];exact q
 frzs:=λb u xs q=>by rw[bL (cU q hn)];exact q
 tbls:=λb ps q=>⟨#[],by rw[bL (cU q hn),q];simp⟩
theorem Un.write(mu:Mut (H x))(he:e=x\/H e=some (.own x))(k:∀b u,b≠e->h.get? b=some u->h'.get? b=some u)(heo:∃u,h'.get? e=some u):Un fs ex H (upd H x o) h h':=by
 have hx:∀b,H b=none->b≠x:=λb n z=>by subst z;rw[n]at mu;exact mu
 have hb:∀b,H b=none->b≠e:=λb n z=>by
  subst z
  rcases he with r|r
  ·exact hx b n r
  ·rw[n]at r;cases r
 have hm:∀b u,H b=some u->¬ Mut (some u)->b≠x:=λb u q nm z=>by subst z;rw[q]at mu;exact nm mu
 refine⟨λb u q n _ _=>k b u (hb b n) q,λb u q n _ _=>⟨u.slots,k b u (hb b n) q⟩,λb u q n _=>by rw[bL (hx b n)];exact n,λb u q _=>?_,
  λb xs q=>by rw[bL (hm b _ q λz=>z)];exact q,λb u xs q=>by rw[bL (hm b _ q λz=>z)];exact q,λb ps q=>⟨#[],by rw[bL (hm b _ q λz=>z),q];simp⟩⟩
 by_cases hbe:b=e
 ·subst hbe;exact heo
 ·exact⟨u,k b u hbe q⟩
end
def trk(h:Heap)(H:Hp):List Addr:=(List.range h.objs.size).filter λa=>(H a).isSome
def hX(h:Heap)(H:Hp):Heap:=PySem.W.hideAll h (trk h H)
theorem zDC(h:Heap)(H:Hp):(hX h H).objs.size=h.objs.size:=PySem.W.hideAll_size _ _
theorem zEp{h:Heap}{H:Hp}{b:Addr}{o:Obj}(e:h.get? b=some o)(n:H b=none):(hX h H).get? b=some o:=
 PySem.W.hideAll_get _ e λhm=>by
  have q:(H b).isSome=true:=(List.mem_filter.mp hm).2
  rw[n]at q;simp at q
theorem zFe{h:Heap}{H:Hp}{b:Addr}{o:Obj}(e:(hX h H).get? b=some o):h.get? b=some o/\H b=none:=by
 have e':h.get? b=some o:=PySem.W.of_hideAll (trk h H) e
 refine⟨e',?_⟩
 cases q:H b with
 |none=>rfl
 |some x=>
  have hm:b∈trk h H:=List.mem_filter.mpr ⟨List.mem_range.mpr (Heap.lt_size e'),by simp[q]⟩
  have z:(hX h H).get? b=none:=PySem.W.hideAll_none (trk h H) hm
  rw[z]at e;cases e
def pG(g h:Heap)(L:Addr):List (Addr×Obj):=(List.range h.objs.size).filterMap λa=>if a=L\/(g.get? a).isSome=true then none else(h.get? a).map λo=>(a,o)
theorem xA{g h:Heap}{L a:Addr}{o:Obj}(h1:a≠L)(h2:g.get? a=none)(h3:h.get? a=some o):(a,o)∈pG g h L:=
 List.mem_filterMap.mpr ⟨a,List.mem_range.mpr (Heap.lt_size h3),by simp[h1,h2,h3]⟩
theorem zB6{g h:Heap}{L:Addr}{p:Addr×Obj}(hp:p∈pG g h L):p.1≠L/\g.get? p.1=none/\h.get? p.1=some p.2:=by
 obtain⟨b,_,e⟩:=List.mem_filterMap.mp hp
 split at e
 ·cases e
 ·rename_i hn
  cases q:h.get? b with
  |none=>rw[q]at e;simp at e
  |some u=>
   rw[q]at e
   simp only[Option.map_some,Option.some.injEq]at e
   subst e
   refine⟨λz=>hn (.inl z),?_,q⟩
   show g.get? b=none
   cases r:g.get? b with
   |none=>rfl
   |some v=>exact(hn (.inr (by simp[r]))).elim
theorem zEe{g h:Heap}{L:Addr}:News g L h (pG g h L):=λp hp=>let ⟨a,b,c⟩:=zB6 hp;⟨c,a,b⟩
end L2
namespace L2
open PySem PySem.Spec PyProof.Rows
structure Mod (K:W.Frag) (mg:Str->Option Value) (base:Heap):Prop where
 kin:K.In base
 glob:base.Ns mainGlobals mg
 blt:∃mb,base.Ns builtinsNs mb/\∀x:Str,x≠"__name__"->mb x=bootBuiltins x
 nolimit:base.NoLimit
structure Cx where
 prog:Program
 w:World
 K:W.Frag
 mg:Str->Option Value
 base:Heap
 A:Around
 N:List Str
 s₀:Shared
 H₀:Hp
 env:Env
 outer:List Env
 stack:List Env
 ex:List Addr
 fn:Str->Bool
 calm:Bool
 pn:List (Addr×Obj)
 xe:Value->Shared->Prop
def frs(l:List Env):List Addr:=l.filterMap (·.frame)
abbrev Cx.fs(X:Cx):List Addr:=frs X.outer
def Vis(sc:Scope)(x:Str):Prop:=sc.names.lookup x=some .local\/sc.names.lookup x=some .cell\/sc.names.lookup x=some .free
def Loc(sc:Scope)(x:Str):Prop:=sc.names.lookup x=some .local\/sc.names.lookup x=some .cell
def zIY(env:Env)(h:Heap)(m:Str->Option Value)(x:Str)(u:Value):Prop:=
 (env.kindOf x=some .local/\m x=some u)\/((env.kindOf x=some .cell\/env.kindOf x=some .free)/\∃c,env.cells.lookup x=some c/\h.IsCell c (some u))
structure Cx.Ok (X:Cx):Prop where
 mod:Mod X.K X.mg X.base
 kind:X.env.scope.kind=.function
 glob:X.env.globals=mainGlobals
 blt:X.env.builtins=builtinsNs
 above:X.s₀.heap.objs.size<=X.env.locals
 inj:∀x y c,X.env.cells.lookup x=some c->X.env.cells.lookup y=some c->x=y
 has:∀x,(X.env.kindOf x=some .cell\/X.env.kindOf x=some .free)->∃c,X.env.cells.lookup x=some c
 cab:∀x c,X.fn x=true->X.env.cells.lookup x=some c->X.s₀.heap.objs.size<=c
 hd:X.calm=true->X.A.handled=none
 frames:X.A.frames=some X.stack
 stk:X.stack=X.outer\/(X.stack=X.env::X.outer/\X.env.frame=some X.env.locals)
 exf:∀b∈X.ex,b≠X.env.locals/\∀x c,X.env.cells.lookup x=some c->c≠b
 bs:∀b o,X.base.get? b=some o->X.s₀.heap.get? b=some o/\X.H₀ b=none
 bsz:X.base.objs.size<=X.s₀.heap.objs.size
 noex:∀b o,X.base.get? b=some o->b∉X.ex
 exfs:∀b∈X.ex,b∉X.fs
 funs:X.s₀.heap.FunFrames X.base X.outer
 frf:∀b∈X.fs,X.H₀ b=none
structure Inv (X:Cx) (pins:List (Addr×Obj)) (σ:List (Option V)) (H:Hp) (s:Shared):Prop where
 ok:X.Ok
 os:s.os=X.s₀.os
 bare:AllBare s.gens
 base:Un X.fs X.ex X.H₀ H X.s₀.heap s.heap
 loc:∃m,s.heap.Ns X.env.locals m/\∀(i:Nat) (x:Str) (v:V),X.N[i]?=some x->σ[i]?=some (some v)->Vis X.env.scope x->∃u,RelV v u/\zIY X.env s.heap m x u
 cell:∀x c,X.env.cells.lookup x=some c->∃v,s.heap.IsCell c v
 free:H X.env.locals=none
 freeC:∀x c,X.env.cells.lookup x=some c->H c=none
 pin:∀p∈X.pn++pins,s.heap.get? p.1=some p.2/\H p.1=none/\p.1≠X.env.locals/\p.1∉X.fs/\∀v,p.2.data≠.cell v
 hok:HOk X.prog X.w H s.heap
 len:σ.length=X.N.length
section
variable{X:Cx}{pins:List (Addr×Obj)}{σ:List (Option V)}{H H':Hp}{s:Shared}{h':Heap}
theorem Cx.Ok.nofr(ok:X.Ok){b:Addr}{o:Obj}(e:X.base.get? b=some o):b∉X.fs:=λhb=>by
 have:=(ok.funs.mem hb).1
 rw[e]at this;cases this
theorem Inv.bs(I:Inv X pins σ H s):∀b o,X.base.get? b=some o->s.heap.get? b=some o/\H b=none:=λb o e=>
 ⟨I.base.keep b o (I.ok.bs b o e).1 (I.ok.bs b o e).2 (I.ok.nofr e) (I.ok.noex b o e),I.base.free b o (I.ok.bs b o e).1 (I.ok.bs b o e).2 (I.ok.noex b o e)⟩
theorem Inv.bk(I:Inv X pins σ H s):∀b o,X.base.get? b=some o->s.heap.get? b=some o:=λb o e=>(I.bs b o e).1
theorem Inv.mod(I:Inv X pins σ H s):Mod X.K X.mg X.base:=I.ok.mod
theorem Inv.kIn(I:Inv X pins σ H s):X.K.In s.heap:=I.ok.mod.kin.keeps I.bk
theorem Inv.fr(I:Inv X pins σ H s):∃m,Fr X.base X.env.locals s.heap m:=
 let ⟨m,hn,_⟩:=I.loc
 ⟨m,hn,I.bk,Nat.le_trans I.ok.bsz I.ok.above⟩
theorem Inv.lt(I:Inv X pins σ H s):X.env.locals<s.heap.objs.size:=let ⟨_,hn,_⟩:=I.loc;hn.lt
theorem Inv.sz(I:Inv X pins σ H s):X.s₀.heap.objs.size<=s.heap.objs.size:=Nat.le_trans I.ok.above (Nat.le_of_lt I.lt)
theorem Inv.nofs(I:Inv X pins σ H s){a:Addr}(h:s.heap.objs.size<=a):a∉X.fs:=λhb=>by
 obtain⟨_,o,ho,_⟩:=I.ok.funs.mem hb
 exact absurd (Nat.lt_of_lt_of_le (Heap.lt_size ho) (Nat.le_trans I.sz h)) (Nat.lt_irrefl _)
theorem Inv.cne(I:Inv X pins σ H s):∀x c,X.env.cells.lookup x=some c->c≠X.env.locals:=λx c e z=>by
 obtain⟨v,o,ho,hd⟩:=I.cell x c e
 obtain⟨m,⟨o',es,ep,ho',hd',_⟩,_⟩:=I.loc
 rw[z,ho']at ho;cases ho;rw[hd']at hd;cases hd
theorem Inv.funs(I:Inv X pins σ H s):s.heap.FunFrames X.base X.outer:=by
 have all:∀(l:List Env),(∀b∈frs l,b∈X.fs)->X.s₀.heap.FunFrames X.base l->s.heap.FunFrames X.base l:=by
  intro l
  induction l with
  |nil=>intro _ _;trivial
  |cons env r ih=>
   intro hs hl
   obtain⟨hk,⟨L,o,hf,hn,ho,hd⟩,hr⟩:=hl
   have hL:L∈X.fs:=hs L (by unfold frs;rw[List.filterMap_cons,hf];exact List.mem_cons_self)
   obtain⟨sl,e⟩:=I.base.slot L o ho (I.ok.frf L hL) hL λz=>I.ok.exfs L z hL
   exact⟨hk,⟨L,_,hf,hn,e,hd⟩,ih (λb hb=>hs b (by unfold frs;rw[List.filterMap_cons,hf];exact List.mem_cons_of_mem _ hb)) hr⟩
 exact all X.outer (λ_ hb=>hb) I.ok.funs
theorem Inv.stack(I:Inv X pins σ H s):s.heap.FunFrames X.base X.stack:=by
 rcases I.ok.stk with e|⟨e,hf⟩
 ·rw[e];exact I.funs
 ·rw[e]
  obtain⟨m,hn,_⟩:=I.loc
  refine .cons (by rw[I.ok.kind];decide) hf hn ?_ I.funs
  exact Heap.get?_none_of_le (Nat.le_trans I.ok.bsz I.ok.above)
theorem Inv.stkSub(I:Inv X pins σ H s):∀b∈frs X.stack,b∈X.env.locals::X.fs:=λb hb=>by
 rcases I.ok.stk with e|⟨e,hf⟩
 ·rw[e]at hb;exact List.mem_cons_of_mem _ hb
 ·rw[e]at hb
  unfold frs at hb
  rw[List.filterMap_cons,hf]at hb
  exact hb
theorem Inv.stkFree(I:Inv X pins σ H s):∀b∈frs X.stack,H b=none:=λb hb=>by
 rcases List.mem_cons.mp (I.stkSub b hb) with e|hb
 ·rw[e];exact I.free
 ·obtain⟨_,o,ho,_⟩:=I.ok.funs.mem hb
  exact I.base.free b o ho (I.ok.frf b hb) λz=>I.ok.exfs b z hb
theorem Inv.step{g':Array GenState}{t':Nat}{d':Drawn}{ch:List Addr}(I:Inv X pins σ H s)
  (hch:∀b∈ch,(b∈X.ex\/X.s₀.heap.objs.size<=b)/\b≠X.env.locals/\(∀x c,X.env.cells.lookup x=some c->c≠b)/\∀p∈X.pn++pins,p.1≠b)
  (keep:∀b o,b≠X.env.locals->b∉X.fs->b∉ch->s.heap.get? b=some o->H b=none->h'.get? b=some o)
  (slot:∀b o,b≠X.env.locals->b∈X.fs->b∉ch->s.heap.get? b=some o->H b=none->∃sl,h'.get? b=some {o with slots:=sl}) (free:∀b o,b∉ch->s.heap.get? b=some o->H b=none->H' b=none)
  (there:∀b o,b∉ch->s.heap.get? b=some o->∃o',h'.get? b=some o')
  (tups:∀b xs,H b=some (.tup xs)->H' b=some (.tup xs)) (frzs:∀b o u,H b=some (.frz o u)->H' b=some (.frz o u)) (tbls:∀b ps,H b=some (.tbl ps)->∃more,H' b=some (.tbl (ps++more)))
  (ns:∀m,s.heap.Ns X.env.locals m->h'.Ns X.env.locals m) (hok:HOk X.prog X.w H' h') (hg:AllBare g'):
  Inv X pins σ H' {s with heap:=h',gens:=g',drawn:=d',toks:=t'}:=by
 have neL:∀b o,X.s₀.heap.get? b=some o->b≠X.env.locals:=λb o e=>Nat.ne_of_lt (Nat.lt_of_lt_of_le (Heap.lt_size e) I.ok.above)
 have neC:∀b o,X.s₀.heap.get? b=some o->b∉X.ex->b∉ch:=λb o e hx hb=>by
  rcases (hch b hb).1 with z|z
  ·exact hx z
  ·exact absurd (Nat.lt_of_lt_of_le (Heap.lt_size e) z) (Nat.lt_irrefl _)
 have cellK:∀x c,X.env.cells.lookup x=some c->∀v,s.heap.IsCell c v->h'.IsCell c v:=λx c e v ⟨o,ho,hd⟩=>by
  have nch:c∉ch:=λz=>(hch c z).2.2.1 x c e rfl
  by_cases hc:c∈X.fs
  ·obtain⟨sl,q⟩:=slot c o (I.cne x c e) hc nch ho (I.freeC x c e)
   exact⟨_,q,hd⟩
  ·exact⟨o,keep c o (I.cne x c e) hc nch ho (I.freeC x c e),hd⟩
 refine⟨I.ok,I.os,hg,⟨λb o e n hb hx=>?_,λb o e n hb hx=>?_,λb o e n hx=>?_,λb o e hx=>?_,λb xs e=>tups b xs (I.base.tups b xs e),λb o xs e=>frzs b o xs (I.base.frzs b o xs e),λb ps e=>?_⟩,?_,λx c e=>?_,?_,λx c e=>?_,λp hp=>?_,hok,I.len⟩
 ·exact keep b o (neL b o e) hb (neC b o e hx) (I.base.keep b o e n hb hx) (I.base.free b o e n hx)
 ·obtain⟨sl,e1⟩:=I.base.slot b o e n hb hx
  obtain⟨sl',e2⟩:=slot b _ (neL b o e) hb (neC b o e hx) e1 (I.base.free b o e n hx)
  exact⟨sl',e2⟩
 ·obtain⟨o',e1⟩:=I.base.there b o e hx
  exact free b o' (neC b o e hx) e1 (I.base.free b o e n hx)
 ·obtain⟨o',e1⟩:=I.base.there b o e hx
  exact there b o' (neC b o e hx) e1
 ·obtain⟨m1,e1⟩:=I.base.tbls b ps e
  obtain⟨m2,e2⟩:=tbls b _ e1
  exact⟨m1++m2,by rw[e2,Array.append_assoc]⟩
 ·obtain⟨m,hn,hl⟩:=I.loc
  refine⟨m,ns m hn,λi x v e1 e2 e3=>?_⟩
  obtain⟨u,r,l⟩:=hl i x v e1 e2 e3
  refine⟨u,r,?_⟩
  rcases l with l|⟨k,c,e,z⟩
  ·exact .inl l
  ·exact .inr ⟨k,c,e,cellK x c e _ z⟩
 ·obtain⟨v,z⟩:=I.cell x c e
  exact⟨v,cellK x c e v z⟩
 ·obtain⟨m,⟨o,_,_,ho,_⟩,_⟩:=I.loc
  exact free _ o (λz=>(hch _ z).2.1 rfl) ho I.free
 ·obtain⟨v,o,ho,hd⟩:=I.cell x c e
  exact free c o (λz=>(hch c z).2.2.1 x c e rfl) ho (I.freeC x c e)
 ·obtain⟨e,n,ne,nf,d⟩:=I.pin p hp
  have nch:p.1∉ch:=λz=>(hch p.1 z).2.2.2 p hp rfl
  exact⟨keep p.1 p.2 ne nf nch e n,free p.1 p.2 nch e n,ne,nf,d⟩
theorem Inv.un{t':Nat}(I:Inv X pins σ H s)(u:Un X.fs [] H H' s.heap h')(hok:HOk X.prog X.w H' h'):Inv X pins σ H' {s with heap:=h',toks:=t'}:=by
 obtain⟨m,⟨o,es,ep,ho,r⟩,_⟩:=id I.loc
 obtain⟨sl,hL⟩:=u.any ho I.free (by simp)
 exact I.step (g':=s.gens) (d':=s.drawn) (ch:=[]) (λ_ z=>nomatch z) (λb o _ hb _ e n=>u.keep b o e n hb (by simp)) (λb o _ hb _ e n=>u.slot b o e n hb (by simp)) (λb o _ e n=>u.free b o e n (by simp)) (λb o _ e=>u.there b o e (by simp)) u.tups u.frzs u.tbls (λm' hm=>by
  obtain⟨o',es',ep',ho',r'⟩:=hm
  rw[ho]at ho';cases ho'
  exact⟨_,es',ep',hL,r'⟩) hok I.bare
theorem Inv.call{g':Array GenState}{t':Nat}{d':Drawn}{ch:List Addr}(I:Inv X pins σ H s)(u:Un (frs X.stack) ch H H' s.heap h')(hok:HOk X.prog X.w H' h')(hg:AllBare g')
  (hch:∀b∈ch,(b∈X.ex\/X.s₀.heap.objs.size<=b)/\b≠X.env.locals/\(∀x c,X.env.cells.lookup x=some c->c≠b)/\∀p∈X.pn++pins,p.1≠b):
  Inv X pins σ H' {s with heap:=h',gens:=g',drawn:=d',toks:=t'}:=by
 obtain⟨m,⟨o,es,ep,ho,r⟩,_⟩:=id I.loc
 obtain⟨sl,hL⟩:=u.any ho I.free λz=>(hch _ z).2.1 rfl
 exact I.step (ch:=ch) hch (λb o hL hb hc e n=>u.keep b o e n (λz=>(List.mem_cons.mp (I.stkSub b z)).elim hL hb) hc) (λb o _ _ hc e n=>u.any e n hc) (λb o hc e n=>u.free b o e n hc) (λb o hc e=>u.there b o e hc) u.tups u.frzs u.tbls (λm' hm=>by
  obtain⟨o',es',ep',ho',r'⟩:=hm
  rw[ho]at ho';cases ho'
  exact⟨_,es',ep',hL,r'⟩) hok hg
theorem Inv.turned{t':Nat}{it:Addr}(I:Inv X pins σ H s)(k:∀b o,b≠it->s.heap.get? b=some o->h'.get? b=some o)(hn:H it=none)(hL:it≠X.env.locals)
  (h1:it∈X.ex\/X.s₀.heap.objs.size<=it) (h2:∀x c,X.env.cells.lookup x=some c->c≠it) (h3:∀p∈X.pn++pins,p.1≠it):Inv X pins σ H {s with heap:=h',toks:=t'}:=by
 have nit:∀b u,H b=some u->b≠it:=λb u e z=>by rw[z,hn]at e;cases e
 refine I.step (g':=s.gens) (d':=s.drawn) (ch:=[it]) (λb hb=>?_) (λb o _ _ hc e _=>k b o (λz=>hc (by simp[z])) e) (λb o _ _ hc e _=>⟨o.slots,k b o (λz=>hc (by simp[z])) e⟩) (λ_ _ _ _ n=>n)
  (λb o hc e=>⟨o,k b o (λz=>hc (by simp[z])) e⟩) (λ_ _ e=>e) (λ_ _ _ e=>e) (λb ps e=>⟨#[],by rw[e];simp⟩) (λm hm=>?_) (λb u e=>?_) I.bare
 ·have e:b=it:=by simpa using hb
  subst e
  exact⟨h1,hL,h2,h3⟩
 ·obtain⟨o,es,ep,ho,r⟩:=hm
  exact⟨o,es,ep,k _ o (Ne.symm hL) ho,r⟩
 ·refine(I.hok b u e).stay (λc v hc q=>k c v ?_ q) (λ_ q=>q) λ_ _ q=>q
  rcases hc with z|z
  ·rw[z];exact nit b u e
  ·exact nit c _ z
theorem Inv.tok(I:Inv X pins σ H s)(t:Nat):Inv X pins σ H {s with toks:=t}:=I.un (h':=s.heap) (t':=t) Un.refl I.hok
theorem Inv.kept{t':Nat}(I:Inv X pins σ H s)(k:∀b u,s.heap.get? b=some u->h'.get? b=some u):Inv X pins σ H {s with heap:=h',toks:=t'}:=I.un (Un.kept k) (I.hok.kept k)
theorem Inv.laid{a:Addr}{o:HO}{t':Nat}(I:Inv X pins σ H s)(k:∀b u,s.heap.get? b=some u->h'.get? b=some u)(hp:s.heap.objs.size<=a)(new:ObjOk X.prog X.w (upd H a o) h' a o):
  Inv X pins σ (upd H a o) {s with heap:=h',toks:=t'}:=I.un (Un.laid k hp (I.hok.fresh hp)) (I.hok.laid k hp new)
theorem Inv.write{x e:Addr}{o:HO}{t':Nat}(I:Inv X pins σ H s)(mu:Mut (H x))(he:e=x\/H e=some (.own x))(k:∀b u,b≠e->s.heap.get? b=some u->h'.get? b=some u)(heo:∃u,h'.get? e=some u)
  (new:ObjOk X.prog X.w (upd H x o) h' x o):Inv X pins σ (upd H x o) {s with heap:=h',toks:=t'}:=I.un (Un.write mu he k heo) (I.hok.write mu he k heo new)
theorem Inv.weak{σ':List (Option V)}(I:Inv X pins σ H s)(hl:σ'.length=σ.length)(w:∀(i:Nat) v,σ'[i]?=some (some v)->σ[i]?=some (some v)):Inv X pins σ' H s:=
 ⟨I.ok,I.os,I.bare,I.base,let ⟨m,hn,hl'⟩:=I.loc;⟨m,hn,λi x v e1 e2 e3=>hl' i x v e1 (w i v e2) e3⟩,I.cell,I.free,I.freeC,I.pin,I.hok,hl.trans I.len⟩
theorem Inv.pins_of{pins':List (Addr×Obj)}(I:Inv X pins σ H s)(h:∀p∈pins',s.heap.get? p.1=some p.2/\H p.1=none/\p.1≠X.env.locals/\p.1∉X.fs/\∀v,p.2.data≠.cell v):Inv X pins' σ H s:=
 ⟨I.ok,I.os,I.bare,I.base,I.loc,I.cell,I.free,I.freeC,λp hp=>(List.mem_append.mp hp).elim (λz=>I.pin p (List.mem_append_left _ z)) (h p),I.hok,I.len⟩
theorem zQ{N:List Str}(hN:N.Nodup){i j:Nat}{x:Str}(a:N[i]?=some x)(b:N[j]?=some x):i=j:=by
 obtain⟨h1,e1⟩:=List.getElem?_eq_some_iff.mp a
 obtain⟨h2,e2⟩:=List.getElem?_eq_some_iff.mp b
 exact(List.getElem_inj hN).mp (e1.trans e2.symm)
theorem xT{M:Model}{A:Around}{E:Value->Shared->Prop}{i:Nat}{x:Str}{v:V}{u:Value}{Q:Unit->Shared->Prop}(I:Inv X pins σ H s)(hN:X.N.Nodup)(hi:X.N[i]?=some x)(hx:Loc X.env.scope x)(r:RelV v u)
  (h:∀s',Inv X pins (σ.set i (some v)) H s'->(∃a,Heap.SameBut a s.heap s'.heap/\(a=X.env.locals\/X.env.cells.lookup x=some a))->Q () s') (hf:X.fn x=true\/X.env.scope.names.lookup x=some .local:=by first|exact .inl rfl|exact .inr rfl|assumption):wpAny M A (storeName X.env x u) Q E s:=by
 obtain⟨m,hn,hl⟩:=id I.loc
 have hcls:(X.env.scope.kind==.class || (X.env.scope.kind==.module&&X.env.locals != X.env.globals))=false:=by rw[I.ok.kind];rfl
 have hiσ:i<σ.length:=by rw[I.len];exact(List.getElem?_eq_some_iff.mp hi).1
 have cne:=I.cne
 have tracked:∀{a:Addr} {h':Heap},(∃o,s.heap.get? a=some o/\H a=none)->Heap.SameBut a s.heap h'->HOk X.prog X.w H h':=λ{a h'} ha hs b ob e=>by
  obtain⟨_,_,hfree⟩:=ha
  refine(I.hok b ob e).stay (λc w' hc q=>(hs.2 c ?_).trans q) (λ_ q=>q) λ_ _ q=>q
  rintro rfl
  rcases hc with rfl|hc
  ·rw[hfree]at e;cases e
  ·rw[hfree]at hc;cases hc
 rcases hx with hk|hk
 ·refine wpAny_storeName_local hk hn (λh' hn' hs=>?_) hcls
  obtain⟨oL,_,_,hoL,_⟩:=id hn
  refine h _ ⟨I.ok,I.os,I.bare,⟨λb o e n hb hx=>?_,λb o e n hb hx=>?_,I.base.free,λb o e hx=>?_,I.base.tups,I.base.frzs,I.base.tbls⟩,⟨_,hn',λj y v' e1 e2 e3=>?_⟩,λy c e=>?_,I.free,I.freeC,λp hp=>?_,tracked ⟨oL,hoL,I.free⟩ hs,by simpa using I.len⟩ ⟨_,hs,.inl rfl⟩
  ·exact(hs.2 b (Nat.ne_of_lt (Nat.lt_of_lt_of_le (Heap.lt_size e) I.ok.above))).trans (I.base.keep b o e n hb hx)
  ·obtain⟨sl,e1⟩:=I.base.slot b o e n hb hx
   exact⟨sl,(hs.2 b (Nat.ne_of_lt (Nat.lt_of_lt_of_le (Heap.lt_size e) I.ok.above))).trans e1⟩
  ·obtain⟨o',e1⟩:=I.base.there b o e hx
   exact⟨o',(hs.2 b (Nat.ne_of_lt (Nat.lt_of_lt_of_le (Heap.lt_size e) I.ok.above))).trans e1⟩
  ·by_cases hj:j=i
   ·subst hj
    rw[hi]at e1;cases e1
    rw[List.getElem?_set_self hiσ]at e2
    cases e2
    exact⟨u,r,.inl ⟨hk,by simp⟩⟩
   ·rw[List.getElem?_set_ne (Ne.symm hj)]at e2
    obtain⟨u',r',q⟩:=hl j y v' e1 e2 e3
    refine⟨u',r',?_⟩
    rcases q with⟨k,e⟩|⟨k,c,e,z⟩
    ·refine .inl ⟨k,?_⟩
     have:y≠x:=λe=>hj (zQ hN e1 (e▸hi))
     simp[this,e]
    ·exact .inr ⟨k,c,e,z.sameBut hs (cne y c e)⟩
  ·obtain⟨w',z⟩:=I.cell y c e
   exact⟨w',z.sameBut hs (cne y c e)⟩
  ·obtain⟨e,n,ne,nf,d⟩:=I.pin p hp
   exact⟨(hs.2 p.1 ne).trans e,n,ne,nf,d⟩
 ·have hfn:X.fn x=true:=by
   rcases hf with z|z
   ·exact z
   ·rw[z]at hk;cases hk
  obtain⟨c,hc⟩:=I.ok.has x (.inl hk)
  obtain⟨w',z⟩:=I.cell x c hc
  refine wpAny_storeName_cell I.ok.kind hk hc z (λh' hc' hs=>?_)
  obtain⟨oc,hoc,hocd⟩:=id z
  refine h {s with heap:=h'} ⟨I.ok,I.os,I.bare,⟨λb o e n hb hx=>?_,λb o e n hb hx=>?_,I.base.free,λb o e hx=>?_,I.base.tups,I.base.frzs,I.base.tbls⟩,⟨m,hn.sameBut hs (Ne.symm (cne x c hc)),λj y v' e1 e2 e3=>?_⟩,λy c' e=>?_,I.free,I.freeC,λp hp=>?_,tracked ⟨oc,hoc,I.freeC x c hc⟩ hs,by simpa using I.len⟩ ⟨c,hs,.inr hc⟩
  ·exact(hs.2 b (Nat.ne_of_lt (Nat.lt_of_lt_of_le (Heap.lt_size e) (I.ok.cab x c hfn hc)))).trans (I.base.keep b o e n hb hx)
  ·obtain⟨sl,e1⟩:=I.base.slot b o e n hb hx
   exact⟨sl,(hs.2 b (Nat.ne_of_lt (Nat.lt_of_lt_of_le (Heap.lt_size e) (I.ok.cab x c hfn hc)))).trans e1⟩
  ·obtain⟨o',e1⟩:=I.base.there b o e hx
   exact⟨o',(hs.2 b (Nat.ne_of_lt (Nat.lt_of_lt_of_le (Heap.lt_size e) (I.ok.cab x c hfn hc)))).trans e1⟩
  ·by_cases hj:j=i
   ·subst hj
    rw[hi]at e1;cases e1
    rw[List.getElem?_set_self hiσ]at e2
    cases e2
    exact⟨u,r,.inr ⟨.inl hk,c,hc,hc'⟩⟩
   ·rw[List.getElem?_set_ne (Ne.symm hj)]at e2
    obtain⟨u',r',q⟩:=hl j y v' e1 e2 e3
    refine⟨u',r',?_⟩
    rcases q with q|⟨k,c',e,z'⟩
    ·exact .inl q
    ·refine .inr ⟨k,c',e,z'.sameBut hs ?_⟩
     rintro rfl
     exact hj (zQ hN e1 (I.ok.inj _ _ _ e hc▸hi))
  ·by_cases hcc:c'=c
   ·subst hcc;exact⟨_,hc'⟩
   ·obtain⟨w2,z2⟩:=I.cell y c' e
    exact⟨w2,z2.sameBut hs hcc⟩
  ·obtain⟨e,n,ne,nf,d⟩:=I.pin p hp
   refine⟨(hs.2 p.1 ?_).trans e,n,ne,nf,d⟩
   intro q
   rw[q,hoc]at e
   have q':oc=p.2:=Option.some.inj e
   exact d w' (by rw[<-q'];exact hocd)
theorem zF{M:Model}{A:Around}{E:Value->Shared->Prop}{i:Nat}{x:Str}{v:V}{u:Value}{Q:Unit->Shared->Prop}(I:Inv X pins σ H s)(hN:X.N.Nodup)(hi:X.N[i]?=some x)(hx:Loc X.env.scope x)(r:RelV v u)
  (h:∀s',Inv X pins (σ.set i (some v)) H s'->Q () s') (hf:X.fn x=true\/X.env.scope.names.lookup x=some .local:=by first|exact .inl rfl|exact .inr rfl|assumption):wpAny M A (storeName X.env x u) Q E s:=
 xT I hN hi hx r (λs' I' _=>h s' I') hf
theorem Inv.call'{s':Shared}{ch:List Addr}(I:Inv X pins σ H s)(ho:s'.os=s.os)(u:Un (frs X.stack) ch H H' s.heap s'.heap)(hok:HOk X.prog X.w H' s'.heap)(hg:AllBare s'.gens)
  (hch:∀b∈ch,(b∈X.ex\/X.s₀.heap.objs.size<=b)/\b≠X.env.locals/\(∀x c,X.env.cells.lookup x=some c->c≠b)/\∀p∈X.pn++pins,p.1≠b):Inv X pins σ H' s':=by
 obtain⟨h',g',d',t',o'⟩:=s'
 have e:o'=s.os:=ho
 subst e
 exact I.call (g':=g') (t':=t') (d':=d') u hok hg hch
end
abbrev XK:=Value->Option Addr->Hp->Prop
abbrev St:=List (Option V)
abbrev VK:=V->Hp->Prop
abbrev TE:=St->Hp->VK->Prop
abbrev TT:=St->Hp->(Bool->Hp->Prop)->Prop
abbrev TA:=St->Hp->(List V->Hp->Prop)->Prop
structure jZ where
 nx:St->Hp->Prop
 rt:VK
 bk:St->Hp->Prop:=λ_ _=>False
 ct:St->Hp->Prop:=λ_ _=>False
abbrev TS:=jZ->St->Hp->Prop
def EP(X:Cx)(pins:List (Addr×Obj))(σ:St)(Q:VK)(u:Value)(s':Shared):Prop:=∃v H',Inv X pins σ H' s'/\RelV v u/\Q v H'
def TP(X:Cx)(pins:List (Addr×Obj))(σ:St)(Q:Bool->Hp->Prop)(b:Bool)(s':Shared):Prop:=∃H',Inv X pins σ H' s'/\Q b H'
def AP(X:Cx)(pins:List (Addr×Obj))(σ:St)(Q:List V->Hp->Prop)(us:List Value)(s':Shared):Prop:=∃vs H',Inv X pins σ H' s'/\Vals vs us/\Q vs H'
def SP(X:Cx)(pins:List (Addr×Obj))(D:jZ)(f:Flow)(s':Shared):Prop:=
 match f with
 |.next=>∃σ' H',Inv X pins σ' H' s'/\D.nx σ' H'
 |.brk=>∃σ' H',Inv X pins σ' H' s'/\D.bk σ' H'
 |.cont=>∃σ' H',Inv X pins σ' H' s'/\D.ct σ' H'
 |.ret u=>∃v σ' H',Inv X pins σ' H' s'/\RelV v u/\D.rt v H'
def PE(X:Cx)(e:Expr)(t:TE):Prop:=
 ∀(pins:List (Addr×Obj)) (s:Shared) (σ:St) (H:Hp) (Q:VK),Inv X pins σ H s->t σ H Q->wpAny (model X.prog X.w) X.A (eval e X.env) (EP X pins σ Q) X.xe s
def PT(X:Cx)(e:Expr)(t:TT):Prop:=
 ∀(pins:List (Addr×Obj)) (s:Shared) (σ:St) (H:Hp) (Q:Bool->Hp->Prop),Inv X pins σ H s->t σ H Q->wpAny (model X.prog X.w) X.A (isTrue e X.env (eval e X.env)) (TP X pins σ Q) X.xe s
def PW(X:Cx)(e:Expr)(t:TT):Prop:=
 ∀(whole:Sem Value) (pins:List (Addr×Obj)) (s:Shared) (σ:St) (H:Hp) (Q:Bool->Hp->Prop),Inv X pins σ H s->t σ H Q->wpAny (model X.prog X.w) X.A (isTrue e X.env whole) (TP X pins σ Q) X.xe s
theorem PW.pt{X:Cx}{e:Expr}{t:TT}(h:PW X e t):PT X e t:=h _
def PA(X:Cx)(es:List Expr)(t:TA):Prop:=
 ∀(pos:Pos) (pins:List (Addr×Obj)) (s:Shared) (σ:St) (H:Hp) (Q:List V->Hp->Prop),Inv X pins σ H s->t σ H Q->wpAny (model X.prog X.w) X.A (spliced (backTo pos (starEach es X.env))) (AP X pins σ Q) X.xe s
def PS(X:Cx)(st:Stmt)(t:TS):Prop:=
 ∀(pins:List (Addr×Obj)) (s:Shared) (σ:St) (H:Hp) (D:jZ),Inv X pins σ H s->t D σ H->wpAny (model X.prog X.w) X.A (exec st X.env) (SP X pins D) X.xe s
def PSs(X:Cx)(st:List Stmt)(t:TS):Prop:=
 ∀(pins:List (Addr×Obj)) (s:Shared) (σ:St) (H:Hp) (D:jZ),Inv X pins σ H s->t D σ H->wpAny (model X.prog X.w) X.A (execs st X.env) (SP X pins D) X.xe s
theorem thn{α:Type}{t:Sem α}{Q Q':α->Shared->Prop}{M:Model}{A:Around}{E:Value->Shared->Prop}{s:Shared}(h:wpAny M A t Q E s)(hQ:∀a s,Q a s->Q' a s):wpAny M A t Q' E s:=wpAny_mono h hQ λ_ _ x=>x
end L2
namespace L2
open PySem PySem.Spec PyProof.Rows
section
variable{X:Cx}
def zBE(i:Nat):TE:=λσ H Q=>∃v,σ[i]?=some (some v)/\Q v H
def tC(v:V):TE:=λ_ H Q=>Q v H
theorem iN{i:Nat}{x:Str}{pos:Pos}(hN:X.N[i]?=some x)(hv:Vis X.env.scope x)(hd:(x==("__debug__":Str))=false:=by decide)(hcd:(x==("__classdict__":Str))=false:=by decide):PE X (.Name x pos) (zBE i):=by
 intro pins s σ H Q I h
 obtain⟨v,e,h⟩:=h
 obtain⟨m,hn,hl⟩:=I.loc
 obtain⟨u,r,l⟩:=hl i x v hN e hv
 have fin:EP X pins σ Q u s:=⟨v,H,I,r,h⟩
 rcases l with⟨hk,hm⟩|⟨hk,c,hc,hcell⟩
 ·exact wpAny_Name (wpAny_loadName_local I.ok.kind hk hn hm fin) hd
 ·rcases hk with hk|hk
  ·exact wpAny_Name (wpAny_loadName_cell I.ok.kind hk hc hcell fin) hd
  ·exact wpAny_Name (wpAny_loadName_free I.ok.kind hk hc hcell fin hcd) hd
theorem cC{i j pos}:PE X (.Constant (.int i) j pos) (tC (.int i)):=λ_ _ _ H _ I h=>wpAny_Constant_int ⟨.int i,H,I.tok _,⟨_,rfl⟩,h⟩
theorem zHg{b j pos}:PE X (.Constant (.bool b) j pos) (tC (.bl b)):=λ_ _ _ H _ I h=>Constant_bool ⟨.bl b,H,I,rfl,h⟩
theorem zGg{j pos}:PE X (.Constant .none j pos) (tC .non):=λ_ _ _ H _ I h=>Constant_none ⟨.non,H,I,rfl,h⟩
theorem zGc{x j pos}:PE X (.Constant (.str x) j pos) (tC (.str x)):=λ_ _ _ H _ I h=>Calls.Constant_str ⟨.str x,H,I.tok _,⟨_,rfl⟩,h⟩
def Gl(X:Cx)(x:Str):Prop:=X.env.kindOf x=some .globalImplicit
theorem tQ{E:Value->Shared->Prop}{pins:List (Addr×Obj)}{s:Shared}{σ:St}{H:Hp}{x:Str}{u:Value}{pos:Pos}{Q:Value->Shared->Prop}(I:Inv X pins σ H s)(hg:Gl X x)(hm:X.mg x=some u)(h:Q u s)
  (hd:(x==("__debug__":Str))=false:=by decide):wpAny (model X.prog X.w) X.A (eval (.Name x pos) X.env) Q E s:=
 Calls.Name_function_global I.ok.kind hg (Calls.loadGlobal_global (by rw[I.ok.glob];exact I.mod.glob.keeps I.bk) hm h) hd
theorem mO{E:Value->Shared->Prop}{pins:List (Addr×Obj)}{s:Shared}{σ:St}{H:Hp}{x:Str}{u:Value}{pos:Pos}{Q:Value->Shared->Prop}(I:Inv X pins σ H s)(hg:Gl X x)(hm:X.mg x=none)(hv:bootBuiltins x=some u)(h:Q u s)
  (hn:x≠"__name__":=by decide) (hd:(x==("__debug__":Str))=false:=by decide):wpAny (model X.prog X.w) X.A (eval (.Name x pos) X.env) Q E s:=by
 obtain⟨mb,h1,h2⟩:=I.mod.blt
 exact Calls.Name_function_global I.ok.kind hg (Calls.loadGlobal_builtin (by rw[I.ok.glob];exact I.mod.glob.keeps I.bk) hm (by rw[I.ok.blt];exact h1.keeps I.bk) ((h2 x hn).trans hv) h) hd
theorem zAz{x:Str}{v:V}{u:Value}{pos:Pos}(hg:Gl X x)(hm:X.mg x=some u)(r:RelV v u)(hd:(x==("__debug__":Str))=false:=by decide):PE X (.Name x pos) (tC v):=
 λ_ _ _ H _ I h=>tQ I hg hm ⟨v,H,I,r,h⟩ hd
theorem iF{x:Str}{v:V}{u:Value}{pos:Pos}(hg:Gl X x)(hm:X.mg x=none)(hv:bootBuiltins x=some u)(r:RelV v u)(hn:x≠"__name__":=by decide)(hd:(x==("__debug__":Str))=false:=by decide):PE X (.Name x pos) (tC v):=
 λ_ _ _ H _ I h=>mO I hg hm hv ⟨v,H,I,r,h⟩ hn hd
variable{a b:Expr}{ta tb:TE}{pos:Pos}
def tB(t:TE):TT:=λσ H Q=>t σ H λx H1=>∃c,x=.bl c/\Q c H1
theorem zF5{e:Expr}{t:TE}(h:PE X e t)(he:∀whole,isTrue e X.env whole=(do let v <- whole;standAt e.pos;holding [v] (truthy v)):=by intro _;rfl):PT X e (tB t):=by
 intro pins s σ H Q I hw
 refine isTrue_plain (thn (h pins s σ H _ I hw) λv s1 ⟨x,H1,I1,r1,q1⟩=>?_) (he _)
 obtain⟨d,rfl,q⟩:=q1
 cases r1
 exact wpAny_truthy_bool ⟨H1,I1,q⟩
variable{tA tB':TT}{rest:List Expr}
def zHO(t u:TT):TT:=λσ H Q=>t σ H λc H1=>if c=true then u σ H1 Q else Q false H1
def tOr(t u:TT):TT:=λσ H Q=>t σ H λc H1=>if c=true then Q true H1 else u σ H1 Q
def zHK(t:TT):TT:=λσ H Q=>t σ H λc H1=>Q (!c) H1
theorem zEW(ha:PT X a tA):PW X (.BoolOp .And [a] pos) tA:=by
 intro wh pins s σ H Q I h
 refine isTrue_and (thn (ha pins s σ H Q I h) λc s1 e=>?_)
 cases c with
 |true=>exact isTrue_and_nil e
 |false=>exact e
theorem zF0(ha:PT X a tA):PW X (.BoolOp .Or [a] pos) tA:=by
 intro wh pins s σ H Q I h
 refine isTrue_or (thn (ha pins s σ H Q I h) λc s1 e=>?_)
 cases c with
 |false=>exact isTrue_or_nil e
 |true=>exact e
theorem zF1(ha:PT X a tA)(hb:PW X (.BoolOp .And (b::rest) pos) tB'):PW X (.BoolOp .And (a::b::rest) pos) (zHO tA tB'):=by
 intro wh pins s σ H Q I h
 refine isTrue_and (thn (ha pins s σ H _ I h) λc s1 ⟨H1,I1,q1⟩=>?_)
 cases c with
 |true=>exact hb wh pins s1 σ H1 Q I1 q1
 |false=>exact⟨H1,I1,q1⟩
theorem zHe(ha:PT X a tA)(hb:PW X (.BoolOp .Or (b::rest) pos) tB'):PW X (.BoolOp .Or (a::b::rest) pos) (tOr tA tB'):=by
 intro wh pins s σ H Q I h
 refine isTrue_or (thn (ha pins s σ H _ I h) λc s1 ⟨H1,I1,q1⟩=>?_)
 cases c with
 |true=>exact⟨H1,I1,q1⟩
 |false=>exact hb wh pins s1 σ H1 Q I1 q1
theorem zF6(ha:PT X a tA):PT X (.UnaryOp .Not a pos) (zHK tA):=by
 intro pins s σ H Q I h
 exact isTrue_not (ha pins s σ H (λc H1=>Q (!c) H1) I h)
def zG2(ta tb:TE):TE:=λσ H Q=>ta σ H λx H1=>∃c,x=.bl c/\if c=true then tb σ H1 Q else Q (.bl false) H1
def zHJ(ta tb:TE):TE:=λσ H Q=>ta σ H λx H1=>∃c,x=.bl c/\if c=true then Q (.bl true) H1 else tb σ H1 Q
def zGY(ta:TE):TE:=λσ H Q=>ta σ H λx H1=>∃c,x=.bl c/\Q (.bl (!c)) H1
theorem zGe{op}{t:TE}(h:PE X a t):PE X (.BoolOp op [a] pos) t:=λpins s σ H Q I hw=>BoolOp_one (h pins s σ H Q I hw)
theorem zGj(ha:PE X a ta)(hb:PE X (.BoolOp .And (b::rest) pos) tb):PE X (.BoolOp .And (a::b::rest) pos) (zG2 ta tb):=by
 intro pins s σ H Q I h
 refine BoolOp_and (thn (ha pins s σ H _ I h) λv s1 ⟨x,H1,I1,r1,q1⟩=>?_)
 obtain⟨c,rfl,q1⟩:=q1
 cases r1
 refine wpAny_truthy_bool ?_
 cases c with
 |true=>exact hb pins s1 σ H1 Q I1 q1
 |false=>exact⟨.bl false,H1,I1,rfl,q1⟩
theorem zHf(ha:PE X a ta)(hb:PE X (.BoolOp .Or (b::rest) pos) tb):PE X (.BoolOp .Or (a::b::rest) pos) (zHJ ta tb):=by
 intro pins s σ H Q I h
 refine BoolOp_or (thn (ha pins s σ H _ I h) λv s1 ⟨x,H1,I1,r1,q1⟩=>?_)
 obtain⟨c,rfl,q1⟩:=q1
 cases r1
 refine wpAny_truthy_bool ?_
 cases c with
 |false=>exact hb pins s1 σ H1 Q I1 q1
 |true=>exact⟨.bl true,H1,I1,rfl,q1⟩
theorem zGf(ha:PE X a ta):PE X (.UnaryOp .Not a pos) (zGY ta):=by
 intro pins s σ H Q I h
 refine UnaryOp_ (thn (ha pins s σ H _ I h) λv s1 ⟨x,H1,I1,r1,q1⟩=>?_)
 obtain⟨c,rfl,q1⟩:=q1
 cases r1
 exact not_of (wpAny_truthy_bool ⟨.bl (!c),H1,I1,rfl,q1⟩)
def tIf(t:TT)(ta tb:TE):TE:=λσ H Q=>t σ H λc H1=>if c=true then ta σ H1 Q else tb σ H1 Q
theorem zEb{c:Expr}(hc:PT X c tA)(ha:PE X a ta)(hb:PE X b tb):PE X (.IfExp c a b pos) (tIf tA ta tb):=by
 intro pins s σ H Q I h
 refine wpAny_IfExp (thn (hc pins s σ H _ I h) λd s1 ⟨H1,I1,q1⟩=>?_)
 cases d with
 |true=>exact ha pins s1 σ H1 Q I1 q1
 |false=>exact hb pins s1 σ H1 Q I1 q1
end
end L2
namespace L2
open PySem PySem.Spec PyProof.Rows
def SqL(K:W.Frag)(H:Hp)(a:Addr)(xs:List V):Prop:=
 Rd H a (.lst xs) \/
  ∃(o:Obj) (its:Array Value) (n:Nat),K.lookup a=some o/\o.cls=.type "list"/\o.dict=none/\o.data=.seq its n/\its.size<=sizeLine/\Vals xs its.toList
def SqT(K:W.Frag)(H:Hp)(a:Addr)(xs:List V):Prop:=
 Rd H a (.tup xs) \/
  ∃(o:Obj) (its:Array Value) (n:Nat),K.lookup a=some o/\o.cls=.type "tuple"/\o.data=.seq its n/\its.size<=sizeLine/\Vals xs its.toList
def zIX:Value->Option V
 |.none=>some .non
 |.bool b=>some (.bl b)
 |.int i _=>some (.int i)
 |.str x _=>some (.str x)
 |.bytes b _=>some (.byt b)
 |.float b _=>some (.flt b)
 |.ref a=>some (.ref a)
 |.type n=>some (.ty n)
 |_=>none
theorem RelV.abs{x:V}{u:Value}(r:RelV x u):zIX u=some x:=by
 cases x with
 |non=>cases r;rfl
 |bl _=>cases r;rfl
 |int _=>obtain⟨t,rfl⟩:=r;rfl
 |str _=>obtain⟨t,rfl⟩:=r;rfl
 |byt _=>obtain⟨t,rfl⟩:=r;rfl
 |flt _=>obtain⟨t,rfl⟩:=r;rfl
 |ref _=>cases r;rfl
 |ty _=>cases r;rfl
theorem RelV.inj{x y:V}{u:Value}(r:RelV x u)(q:RelV y u):x=y:=Option.some.inj (r.abs.symm.trans q.abs)
theorem Vals.inj:∀{xs ys:List V}{us:List Value},Vals xs us->Vals ys us->xs=ys
 |_,_,_,.nil,.nil=>rfl
 |_,_,_,.cons r t,.cons r' t'=>by rw[r.inj r',Vals.inj t t']
section
variable{X:Cx}{pins:List (Addr×Obj)}{σ:St}{H:Hp}{s:Shared}{a:Addr}{xs ys:List V}
theorem SqL.of{K:W.Frag}(h:H a=some (.lst xs)):SqL K H a xs:=.inl (.inl h)
theorem SqT.of{K:W.Frag}(h:H a=some (.tup xs)):SqT K H a xs:=.inl (.inl h)
theorem Inv.list(I:Inv X pins σ H s)(h:SqL X.K H a xs):∃its:List Value,Vals xs its/\PlainL s.heap a its.toArray/\xs.length<=sizeLine:=by
 rcases h with h|⟨o,its,n,hk,hc,hd,hs,hz,r⟩
 ·obtain⟨z,its,n,r,e⟩:=h.ok I.hok
  exact⟨its,r,⟨_,n,e,rfl,rfl,rfl⟩,z⟩
 ·refine⟨its.toList,r,⟨o,n,I.kIn a o hk,hc,hd,by simpa using hs⟩,?_⟩
  have e:=r.length
  simp only[Array.length_toList]at e
  omega
theorem Inv.tuple(I:Inv X pins σ H s)(h:SqT X.K H a xs):∃its:List Value,Vals xs its/\IsTup s.heap a its.toArray/\xs.length<=sizeLine:=by
 rcases h with h|⟨o,its,n,hk,hc,hs,hz,r⟩
 ·obtain⟨z,its,r,p⟩:=h.ok I.hok
  exact⟨its,r,p,z⟩
 ·refine⟨its.toList,r,⟨o,I.kIn a o hk,hc,n,by simpa using hs⟩,?_⟩
  have e:=r.length
  simp only[Array.length_toList]at e
  omega
theorem Inv.list_inj(I:Inv X pins σ H s)(h:SqL X.K H a xs)(h':SqL X.K H a ys):xs=ys:=by
 obtain⟨its,r,⟨o,n,e,_,_,d⟩,_⟩:=I.list h
 obtain⟨its',r',⟨o',n',e',_,_,d'⟩,_⟩:=I.list h'
 rw[e]at e';cases e'
 rw[d]at d'
 injection d' with d1 _
 have:its=its':=by simpa using congrArg Array.toList d1
 subst this
 exact r.inj r'
theorem Inv.tuple_inj(I:Inv X pins σ H s)(h:SqT X.K H a xs)(h':SqT X.K H a ys):xs=ys:=by
 obtain⟨its,r,⟨o,e,_,n,d⟩,_⟩:=I.tuple h
 obtain⟨its',r',⟨o',e',_,n',d'⟩,_⟩:=I.tuple h'
 rw[e]at e';cases e'
 rw[d]at d'
 injection d' with d1 _
 have:its=its':=by simpa using congrArg Array.toList d1
 subst this
 exact r.inj r'
end
abbrev Cx.wish(X:Cx)(E:Value->Shared->Prop):Cx:={X with xe:=E}
abbrev Cx.nox(X:Cx):Cx:=X.wish λ_ _=>False
theorem Cx.Ok.wish{X:Cx}(ok:X.Ok)(E:Value->Shared->Prop):(X.wish E).Ok:=
 ⟨ok.mod,ok.kind,ok.glob,ok.blt,ok.above,ok.inj,ok.has,ok.cab,ok.hd,ok.frames,ok.stk,ok.exf,ok.bs,ok.bsz,ok.noex,ok.exfs,ok.funs,ok.frf⟩
theorem Cx.Ok.unwish{X:Cx}{E:Value->Shared->Prop}(ok:(X.wish E).Ok):X.Ok:=
 ⟨ok.mod,ok.kind,ok.glob,ok.blt,ok.above,ok.inj,ok.has,ok.cab,ok.hd,ok.frames,ok.stk,ok.exf,ok.bs,ok.bsz,ok.noex,ok.exfs,ok.funs,ok.frf⟩
section
variable{X:Cx}{pins:List (Addr×Obj)}{σ:St}{H:Hp}{s:Shared}{E:Value->Shared->Prop}
theorem Inv.wish(I:Inv X pins σ H s)(E:Value->Shared->Prop):Inv (X.wish E) pins σ H s:=⟨I.ok.wish E,I.os,I.bare,I.base,I.loc,I.cell,I.free,I.freeC,I.pin,I.hok,I.len⟩
theorem Inv.unwish(I:Inv (X.wish E) pins σ H s):Inv X pins σ H s:=⟨I.ok.unwish,I.os,I.bare,I.base,I.loc,I.cell,I.free,I.freeC,I.pin,I.hok,I.len⟩
theorem SP.unwish{D:jZ}{f:Flow}{s':Shared}(h:SP (X.wish E) pins D f s'):SP X pins D f s':=by
 cases f with
 |next=>obtain⟨σ',H',I,q⟩:=h;exact⟨σ',H',I.unwish,q⟩
 |brk=>obtain⟨σ',H',I,q⟩:=h;exact⟨σ',H',I.unwish,q⟩
 |cont=>obtain⟨σ',H',I,q⟩:=h;exact⟨σ',H',I.unwish,q⟩
 |ret u=>obtain⟨v,σ',H',I,r,q⟩:=h;exact⟨v,σ',H',I.unwish,r,q⟩
theorem PSs.nox{st:List Stmt}{t:TS}(h:PSs X.nox st t):PSs X st t:=λpins s σ H D I hw=>
 wpAny_mono (h pins s σ H D (I.wish _) hw) (λ_ _ q=>q.unwish) λ_ _ z=>False.elim z
end
section
variable{X:Cx}{st:Stmt}{rest:List Stmt}{t u:TS}{e:Expr}{te:TE}{pos:Pos}
def zG0:TS:=λD σ H=>D.nx σ H
def zHG(t u:TS):TS:=λD σ H=>t {D with nx:=u D} σ H
theorem tK:PSs X [] zG0:=λ_ _ σ H _ I h=>wpAny_execs_nil ⟨σ,H,I,h⟩
theorem gD(h1:PS X st t)(h2:PSs X rest u):PSs X (st::rest) (zHG t u):=by
 intro pins s σ H D I h
 refine wpAny_execs_cons (thn (h1 pins s σ H {D with nx:=u D} I h) λf s1 q=>?_)
 cases f with
 |next=>
  obtain⟨σ',H',I',q⟩:=q
  exact h2 pins s1 σ' H' D I' q
 |ret v=>exact q
 |brk=>exact q
 |cont=>exact q
theorem kO(h1:PS X st t):PSs X [st] t:=by
 intro pins s σ H D I h
 refine wpAny_execs_cons (thn (h1 pins s σ H D I h) λf s1 q=>?_)
 cases f with
 |next=>exact wpAny_execs_nil q
 |ret v=>exact q
 |brk=>exact q
 |cont=>exact q
theorem Inv.quiet{pins:List (Addr×Obj)}{σ:St}{H:Hp}{s:Shared}(I:Inv X pins σ H s):interactive X.env=false:=by simp[interactive,I.ok.kind]
def zG1(te:TE):TS:=λD σ H=>te σ H λ_ H1=>D.nx σ H1
theorem zAs(he:PE X e te)(hs:swapsWith e none pos.line X.env=pure false:=by rfl):PS X (.Expr e pos) (zG1 te):=by
 intro pins s σ H D I h
 exact wpAny_Expr_any (thn (he pins s σ H _ I h) λv s1 ⟨x,H1,I1,r1,q1⟩=>⟨σ,H1,I1,q1⟩) I.quiet hs
def zHI(te:TE):TS:=λD σ H=>te σ H D.rt
theorem kR(he:PE X e te):PS X (.Return (some e) pos) (zHI te):=by
 intro pins s σ H D I h
 exact wpAny_Return_some (thn (he pins s σ H _ I h) λv s1 ⟨x,H1,I1,r1,q1⟩=>⟨x,σ,H1,I1,r1,q1⟩)
def zHL(c:TT)(t u:TS):TS:=λD σ H=>c σ H λb H1=>if b=true then t D σ H1 else u D σ H1
theorem uT{c:Expr}{a b:List Stmt}{tc:TT}(hc:PT X c tc)(ha:PSs X a t)(hb:PSs X b u):PS X (.If c a b pos) (zHL tc t u):=by
 intro pins s σ H D I h
 refine wpAny_If (thn (hc pins s σ H _ I h) λd s1 ⟨H1,I1,q1⟩=>?_)
 cases d with
 |true=>exact ha pins s1 σ H1 D I1 q1
 |false=>exact hb pins s1 σ H1 D I1 q1
def zFJ:TS:=λ_ _ _=>False
theorem zDo{sts:List Stmt}:PSs X sts zFJ:=λ_ _ _ _ _ _ h=>h.elim
end
abbrev TG:=V->St->Hp->(St->Hp->Prop)->Prop
abbrev TGs:=List V->St->Hp->(St->Hp->Prop)->Prop
def PG(X:Cx)(target:Expr)(t:TG):Prop:=
 ∀(pins:List (Addr×Obj)) (s:Shared) (σ:St) (H:Hp) (v:V) (u:Value) (Q:St->Hp->Prop),Inv X pins σ H s->RelV v u->t v σ H Q ->
  wpAny (model X.prog X.w) X.A (assign target X.env u) (λ_ s'=>∃σ' H',Inv X pins σ' H' s'/\Q σ' H') X.xe s
def PGs(X:Cx)(ts:List Expr)(t:TGs):Prop:=
 ∀(pins:List (Addr×Obj)) (s:Shared) (σ:St) (H:Hp) (vs:List V) (us:List Value) (Q:St->Hp->Prop),Inv X pins σ H s->Vals vs us->t vs σ H Q ->
  wpAny (model X.prog X.w) X.A (assignInOrder ((assignEach ts X.env).map (·.2)) us) (λ_ s'=>∃σ' H',Inv X pins σ' H' s'/\Q σ' H') X.xe s
abbrev wE:=V->V->V->Hp->(Hp->Prop)->Prop
def zB2(X:Cx)(t:wE):Prop:=
 ∀(pins:List (Addr×Obj)) (s:Shared) (σ:St) (H:Hp) (o i v:V) (ov iv u:Value) (Q:Hp->Prop),Inv X pins σ H s->RelV o ov->RelV i iv->RelV v u->t o i v H Q ->
  wpAny (model X.prog X.w) X.A (setItem ov iv u) (λ_ s'=>∃H',Inv X pins σ H' s'/\Q H') X.xe s
section
variable{X:Cx}{pos:Pos}
def pY(i:Nat):TG:=λv σ H Q=>Q (σ.set i (some v)) H
theorem zE2{i:Nat}{x:Str}(hN:X.N.Nodup)(hi:X.N[i]?=some x)(hx:Loc X.env.scope x)(hf:X.fn x=true\/X.env.scope.names.lookup x=some .local:=by first|exact .inl rfl|exact .inr rfl|assumption):PG X (.Name x pos) (pY i):=by
 intro pins s σ H v u Q I r h
 exact wpAny_assign_Name (zF I hN hi hx r (λs' I'=>⟨_,H,I',h⟩) hf)
def zIc:TGs:=λvs σ H Q=>vs=[]/\Q σ H
def zHv(t:TG)(u:TGs):TGs:=λvs σ H Q=>∃v r,vs=v::r/\t v σ H λσ' H'=>u r σ' H' Q
theorem zE1:PGs X [] zIc:=by
 intro pins s σ H vs us Q I r h
 obtain⟨e,h⟩:=h
 subst e
 cases r
 exact assignInOrder_nil ⟨σ,H,I,h⟩
theorem zD9{e:Expr}{es:List Expr}{t:TG}{u:TGs}(h1:PG X e t)(h2:PGs X es u)
  (hs:(assignEach (e::es) X.env).map (·.2)=assign e X.env::(assignEach es X.env).map (·.2):=by rfl):PGs X (e::es) (zHv t u):=by
 intro pins s σ H vs us Q I r h
 obtain⟨v,vr,e1,h⟩:=h
 subst e1
 cases r with
 |cons r rr=>
  rw[hs]
  refine assignInOrder_cons (thn (h1 pins s σ H _ _ _ I r h) λ_ s1 ⟨σ1,H1,I1,q1⟩=>?_)
  exact h2 pins s1 σ1 H1 _ _ Q I1 rr q1
def zIa(K:W.Frag)(n:Nat)(t:TGs):TG:=λv σ H Q=>∃a xs,v=.ref a/\SqT K H a xs/\xs.length=n/\t xs σ H Q
theorem zF8{es:List Expr}{k:Nat}{t:TGs}{n:Nat}(hc:X.calm=true)(h:PGs X es t)
  (hn:(assignEach es X.env).length=n:=by rfl) (hst:(assignEach es X.env).findIdx? (·.1)=none:=by rfl):PG X (.Tuple es k pos) (zIa X.K n t):=by
 intro pins s σ H v u Q I r hw
 obtain⟨a,xs,e1,hq,hl,hw⟩:=hw
 subst e1
 cases r
 obtain⟨its,rv,ht,hz⟩:=I.tuple hq
 refine assign_Tuple_tuple (I.ok.hd hc) ht (by simp[hn,<-hl,rv.length]) hst λh' hx=>?_
 have I1:Inv X pins σ H {s with heap:=h'}:=I.kept (t':=s.toks) λb o e=>hx b o (Nat.ne_of_lt (Heap.lt_size e)) e
 exact h pins _ σ H xs _ Q I1 (by simpa using rv) hw
def zIb(to ti:TE)(t:wE):TG:=λv σ H Q=>to σ H λo H1=>ti σ H1 λi H2=>t o i v H2 λH3=>Q σ H3
theorem zA9{o i:Expr}{to ti:TE}{t:wE}(ho:PE X o to)(hi:PE X i ti)(hs:zB2 X t)
  (ha:∀v,assign (.Subscript o i pos) X.env v=(do
   let ov <- holding [v] (eval o X.env)
   let iv <- holding [v,ov] (eval i X.env)
   standAt pos
   holding [v,ov,iv] (setItem ov iv v)
   release [v,ov,iv] []):=by intro _;rfl):PG X (.Subscript o i pos) (zIb to ti t):=by
 intro pins s σ H v u Q I r h
 rw[ha]
 refine wpAny_bind (wpAny_holding (thn (ho pins s σ H _ I h) λov s1 ⟨x,H1,I1,r1,q1⟩=>?_))
 refine wpAny_bind (wpAny_holding (thn (hi pins s1 σ H1 _ I1 q1) λiv s2 ⟨y,H2,I2,r2,q2⟩=>?_))
 refine wpAny_bind (wpAny_standAt (wpAny_bind (wpAny_holding (thn (hs pins s2 σ H2 x y v ov iv u _ I2 r1 r2 r q2) λ_ s3 ⟨H3,I3,q3⟩=>?_))))
 exact wpAny_release ⟨σ,H3,I3,q3⟩
def qF(te:TE)(g:TG):TS:=λD σ H=>te σ H λx H1=>g x σ H1 D.nx
theorem uF{tg e:Expr}{te:TE}{g:TG}(he:PE X e te)(hg:PG X tg g)(hs:swapsWithSole [tg] e pos.line X.env=pure false:=by rfl)(hw:swappedStores [tg] e X.env=pure none:=by rfl)
  (h1:(assignEach [tg] X.env).map (·.2)=[assign tg X.env]:=by rfl):PS X (.Assign [tg] e pos) (qF te g):=by
 intro pins s σ H D I h
 refine wpAny_Assign_stores (thn (he pins s σ H _ I h) λv s1 ⟨x,H1,I1,r1,q1⟩=>?_) hs hw
 rw[h1]
 exact thn (hg pins s1 σ H1 x v _ I1 r1 q1) λ_ s2 q=>q
theorem jP{i:Nat}{x:Str}{e:Expr}{te:TE}{pos':Pos}(hN:X.N.Nodup)(hi:X.N[i]?=some x)(hx:Loc X.env.scope x)(he:PE X e te)(hs:swapsWith e (some (.Name x pos')) pos.line X.env=pure false:=by rfl)(hf:X.fn x=true\/X.env.scope.names.lookup x=some .local:=by first|exact .inl rfl|exact .inr rfl|assumption):
  PS X (.Assign [.Name x pos'] e pos) (qF te (pY i)):=by
 intro pins s σ H D I h
 refine wpAny_Assign_Name (thn (he pins s σ H _ I h) λv s1 ⟨y,H1,I1,r1,q1⟩=>?_) hs
 exact zF I1 hN hi hx r1 (λs2 I2=>⟨_,H1,I2,q1⟩) hf
end
section
variable{X:Cx}{pos:Pos}
def zFI(c:TT)(tb:TS):TS:=λD σ H=>∃W:Nat->St->Hp->Prop,(∃m,W m σ H)/\∀m σ H,W m σ H ->
 c σ H λb H1=>if b=true then ∃N:St->Hp->Prop,(∀σ' H',N σ' H'->∃m',m'<m/\W m' σ' H')/\tb {D with nx:=N,ct:=N,bk:=D.nx} σ H1 else D.nx σ H1
theorem zD5{c:Expr}{body:List Stmt}{tc:TT}{tb:TS}(hp:PassesOwn (model X.prog X.w) X.A X.env X.xe)(hc:PT X c tc)(hb:PSs X body tb):PS X (.While c body [] pos) (zFI tc tb):=by
 intro pins s σ H D I h
 obtain⟨W,⟨m0,w0⟩,turn⟩:=h
 refine wpAny_While (codeAny_whileLoop (λn s'=>∃σ' H',Inv X pins σ' H' s'/\W n σ' H') ?_ m0 ⟨σ,H,I,w0⟩)
 rintro n s1 ⟨σ1,H1,I1,w1⟩
 refine wpAny_passesOwn hp (thn (hc pins s1 σ1 H1 _ I1 (turn n σ1 H1 w1)) λb s2 ⟨H2,I2,q2⟩=>?_)
 cases b with
 |true=>
  obtain⟨N,hN,q2⟩:=q2
  rw[if_pos rfl]
  refine wpAny_passesOwn hp (thn (hb pins s2 σ1 H2 _ I2 q2) λf s3 q3=>?_)
  cases f with
  |next=>
   obtain⟨σ3,H3,I3,n3⟩:=q3
   obtain⟨m',hm,w3⟩:=hN σ3 H3 n3
   exact⟨m',hm,σ3,H3,I3,w3⟩
  |cont=>
   obtain⟨σ3,H3,I3,n3⟩:=q3
   obtain⟨m',hm,w3⟩:=hN σ3 H3 n3
   exact⟨m',hm,σ3,H3,I3,w3⟩
  |brk=>exact q3
  |ret v=>exact q3
 |false=>
  rw[if_neg Bool.false_ne_true]
  exact wpAny_execs_nil ⟨σ1,H2,I2,q2⟩
end
structure It where
 go:Nat->Hp->Prop
 yld:Nat->Hp->V->Hp->Prop
 stop:Nat->Hp->Prop
def eO(X:Cx)(pins:List (Addr×Obj))(H:Hp)(b:Addr):Prop:=
 H b=none/\b≠X.env.locals/\b∉X.fs/\(b∈X.ex\/X.s₀.heap.objs.size<=b)/\(∀x c,X.env.cells.lookup x=some c->c≠b)/\∀p∈X.pn++pins,p.1≠b
theorem Inv.fpOk{X:Cx}{pins:List (Addr×Obj)}{σ:St}{H H':Hp}{s:Shared}{b:Addr}(I:Inv X pins σ H s)(hb:s.heap.objs.size<=b)(hn:H' b=none):eO X pins H' b:=by
 refine⟨hn,Nat.ne_of_gt (Nat.lt_of_lt_of_le I.lt hb),I.nofs hb,.inr (Nat.le_trans I.sz hb),λx c e z=>?_,λp hp z=>?_⟩
 ·obtain⟨v,q⟩:=I.cell x c e
  exact absurd (Nat.lt_of_lt_of_le q.lt (by rw[z];exact hb)) (Nat.lt_irrefl _)
 ·exact absurd (Nat.lt_of_lt_of_le (Heap.lt_size (I.pin p hp).1) (by rw[z];exact hb)) (Nat.lt_irrefl _)
structure iB (P:Program) (w:World) (K:W.Frag) (tg:Expr) (J:It) (fp:List Addr) (it:Addr) (tn:Nat->Heap->Prop):Prop where
 mem:it∈fp
 obj:∀i h,tn i h->∀b∈fp,∃o,h.get? b=some o/\∀v,o.data≠.cell v
 keep:∀i h h',tn i h->(∀b∈fp,∀o,h.get? b=some o->h'.get? b=some o)->tn i h'
 item:∀(X:Cx),X.prog=P->X.w=w->X.K=K->X.calm=true->∀(i:Nat) (pins:List (Addr×Obj)) (s:Shared) (σ:St) (H:Hp) (E:Value->Shared->Prop),Inv X pins σ H s->(∀b∈fp,eO X pins H b)->tn i s.heap->J.go i H ->
  wpAny (model P w) X.A (pyNext (.ref it)) (λr s1=>∃u,r=some u /\
   wpAny (model P w) X.A (letOwnedTupleGo tg (.ref it) u) (λ_ s2=>∃x H',Inv X pins σ H' s2/\RelV x u/\J.yld i H x H'/\tn (i+1) s2.heap/\∀b∈fp,H' b=none) E s1) E s
 done:∀(X:Cx),X.prog=P->X.w=w->X.K=K->X.calm=true->∀(i:Nat) (pins:List (Addr×Obj)) (s:Shared) (σ:St) (H:Hp) (E:Value->Shared->Prop),Inv X pins σ H s->(∀b∈fp,eO X pins H b)->tn i s.heap->J.stop i H ->
  wpAny (model P w) X.A (pyNext (.ref it)) (λr s1=>r=none/\Inv X pins σ H s1) E s
 self:∀(A:Around) (i:Nat) (s:Shared) (Q:Value->Shared->Prop) (E:Value->Shared->Prop),tn i s.heap->Q (.ref it) s->wpAny (model P w) A (pyIter (.ref it)) Q E s
abbrev TI:=St->Hp->(It->Hp->Prop)->Prop
def PIE(X:Cx)(pins:List (Addr×Obj))(σ:St)(tg:Expr)(R:It->Hp->Prop)(itv:Value)(s2:Shared):Prop:=
 ∃(it:Addr) (fp:List Addr) (tn:Nat->Heap->Prop) (J:It) (H':Hp),itv=.ref it/\Inv X pins σ H' s2/\iB X.prog X.w X.K tg J fp it tn/\tn 0 s2.heap/\(∀b∈fp,eO X pins H' b)/\R J H'
def PI(X:Cx)(tg iter:Expr)(wi:TI):Prop:=
 ∀(pins:List (Addr×Obj)) (s:Shared) (σ:St) (H:Hp) (R:It->Hp->Prop),Inv X pins σ H s->wi σ H R ->
  wpAny (model X.prog X.w) X.A (eval iter X.env) (λv s1=>wpAny (model X.prog X.w) X.A (pyIter v) (PIE X pins σ tg R) X.xe s1) X.xe s
theorem lA{M:Model}{A:Around}{E:Value->Shared->Prop}{s:Shared}{tg:Expr}{it:Addr}{u:Value}{o:Obj}{n:String}{vs:Array Value}{Q:Unit->Shared->Prop}(ho:s.heap.get? it=some o)(hc:o.cls=.type n)(hd:o.data=.fields vs)
    (hn:["enumerate","zip","dict_itemiterator","dict_reverseitemiterator","odict_iterator","itertools.zip_longest","itertools.pairwise"].contains n=false) (hQ:Q () s):wpAny M A (letOwnedTupleGo tg (.ref it) u) Q E s:=by
  unfold letOwnedTupleGo
  cases tg<;>first
    |exact wpAny_pure hQ
    |(cases u<;>first
        |exact wpAny_pure hQ
        | (refine wpAny_bind (wpAny_load ho ?_)
           rw[hc,hd]
           show wpAny M A (if (["enumerate","zip","dict_itemiterator","dict_reverseitemiterator","odict_iterator","itertools.zip_longest","itertools.pairwise"].contains n&&vs[0]? == some (rawInt _))=true then _ else _) Q E s
           rw[if_neg (by intro h;rw[hn,Bool.false_and]at h;cases h)]
           exact wpAny_pure hQ))
def Itl(K:W.Frag)(a:Addr):It:=
 ⟨λi H=>∃xs x,SqL K H a xs/\xs[i]?=some x,λi H x H'=>H'=H/\∀xs,SqL K H a xs->xs[i]?=some x,λi H=>∃xs,SqL K H a xs/\xs.length<=i⟩
def Itt(K:W.Frag)(a:Addr):It:=
 ⟨λi H=>∃xs x,SqT K H a xs/\xs[i]?=some x,λi H x H'=>H'=H/\∀xs,SqT K H a xs->xs[i]?=some x,λi H=>∃xs,SqT K H a xs/\xs.length<=i⟩
def Itr(lo:Int)(n:Nat):It:=⟨λi _=>i<n,λi H x H'=>H'=H/\x=.int (lo+i),λi _=>n<=i⟩
theorem zDb{P:Program}{w:World}{K:W.Frag}{tg:Expr}(a it:Addr):iB P w K tg (Itl K a) [it] it (λi h=>h.IsListIter it a i) where
 mem:=by simp
 obj:=λi h st b hb=>by
  have e:b=it:=by simpa using hb
  subst e
  obtain⟨o,e,c,d⟩:=st
  exact⟨o,e,λv z=>by rw[d]at z;cases z⟩
 keep:=λi h h' st k=>st.at λo e=>k it (by simp) o e
 item:=by
  intro X hP hw hK hc i pins s σ H E I hf st hg
  subst hP hw hK
  obtain⟨xs,x,hq,hx⟩:=hg
  obtain⟨its,rv,p,hz⟩:=I.list hq
  obtain⟨u,hu,ru⟩:=rv.get hx
  obtain⟨f0,f1,f2,f3,f4,f5⟩:=hf it (by simp)
  refine wpAny_pyNext_list_item st p.isList (x:=u) (by simpa using hu) λh' st' sb=>?_
  have I1:Inv X pins σ H {s with heap:=h'}:=I.turned (t':=s.toks) (λb o hb e=>(sb.2 b hb).trans e) f0 f1 f3 f4 f5
  obtain⟨o,e,c,d⟩:=id st'
  exact⟨u,rfl,lA (s:={s with heap:=h'}) e c d (by decide) ⟨x,H,I1,ru,⟨rfl,λys hy=>by rw[I.list_inj hy hq];exact hx⟩,st',λb hb=>(hf b hb).1⟩⟩
 done:=by
  intro X hP hw hK hc i pins s σ H E I hf st hg
  subst hP hw hK
  obtain⟨xs,hq,hx⟩:=hg
  obtain⟨its,rv,p,hz⟩:=I.list hq
  obtain⟨f0,f1,f2,f3,f4,f5⟩:=hf it (by simp)
  have hl:=rv.length
  exact wpAny_pyNext_list_end (I.ok.hd hc) st p.isList (by simp;omega) λh' eb=>⟨rfl,I.turned (t':=s.toks) (λb o hb e=>eb b o hb e) f0 f1 f3 f4 f5⟩
 self:=λ_ _ _ _ _ st h=>wpAny_pyIter_listiter st h
theorem zCF{P:Program}{w:World}{K:W.Frag}{tg:Expr}(a it:Addr):iB P w K tg (Itt K a) [it] it (λi h=>h.IsTupleIter it a i) where
 mem:=by simp
 obj:=λi h st b hb=>by
  have e:b=it:=by simpa using hb
  subst e
  obtain⟨o,e,c,d⟩:=st
  exact⟨o,e,λv z=>by rw[d]at z;cases z⟩
 keep:=λi h h' st k=>st.at λo e=>k it (by simp) o e
 item:=by
  intro X hP hw hK hc i pins s σ H E I hf st hg
  subst hP hw hK
  obtain⟨xs,x,hq,hx⟩:=hg
  obtain⟨its,rv,p,hz⟩:=I.tuple hq
  obtain⟨u,hu,ru⟩:=rv.get hx
  obtain⟨f0,f1,f2,f3,f4,f5⟩:=hf it (by simp)
  refine wpAny_pyNext_tuple_item st (show s.heap.IsTuple a its.toArray from p) (x:=u) (by simpa using hu) λh' st' sb=>?_
  have I1:Inv X pins σ H {s with heap:=h'}:=I.turned (t':=s.toks) (λb o hb e=>(sb.2 b hb).trans e) f0 f1 f3 f4 f5
  obtain⟨o,e,c,d⟩:=id st'
  exact⟨u,rfl,lA (s:={s with heap:=h'}) e c d (by decide) ⟨x,H,I1,ru,⟨rfl,λys hy=>by rw[I.tuple_inj hy hq];exact hx⟩,st',λb hb=>(hf b hb).1⟩⟩
 done:=by
  intro X hP hw hK hc i pins s σ H E I hf st hg
  subst hP hw hK
  obtain⟨xs,hq,hx⟩:=hg
  obtain⟨its,rv,p,hz⟩:=I.tuple hq
  obtain⟨f0,f1,f2,f3,f4,f5⟩:=hf it (by simp)
  have hl:=rv.length
  exact wpAny_pyNext_tuple_end (I.ok.hd hc) st (show s.heap.IsTuple a its.toArray from p) (by simp;omega) λh' eb=>⟨rfl,I.turned (t':=s.toks) (λb o hb e=>eb b o hb e) f0 f1 f3 f4 f5⟩
 self:=λ_ _ _ _ _ st h=>wpAny_pyIter_tupleiter st h
theorem zCG{P:Program}{w:World}{K:W.Frag}{tg:Expr}(it:Addr)(lo:Int)(n:Nat):iB P w K tg (Itr lo n) [it] it (λi h=>IsRangeIter h it (lo+(i:Nat)*1) ((n:Int)-(i:Nat)) 1) where
 mem:=by simp
 obj:=λi h st b hb=>by
  have e:b=it:=by simpa using hb
  subst e
  exact⟨_,st,λv z=>by
   have z':Data.fields _=Data.cell v:=z
   cases z'⟩
 keep:=λi h h' st k=>k it (by simp) _ st
 item:=by
  intro X hP hw hK hc i pins s σ H E I hf st hg
  subst hP hw hK
  obtain⟨f0,f1,f2,f3,f4,f5⟩:=hf it (by simp)
  have W:=Walks.range (prog:=X.prog) (w:=X.w) (I.ok.hd hc) it lo 1 n
  refine W.item i s _ _ hg st λv h' tk hv st' kk=>?_
  obtain⟨t,rfl⟩:=hv
  have I1:Inv X pins σ H {s with heap:=h',toks:=tk}:=I.turned (λb o hb e=>kk b o (by simpa using hb) e) f0 f1 f3 f4 f5
  refine⟨_,rfl,lA (s:={s with heap:=h',toks:=tk}) (n:="range_iterator") st' rfl rfl (by decide) ⟨.int (lo+i),H,I1,⟨t,?_⟩,⟨rfl,rfl⟩,st',λb hb=>(hf b hb).1⟩⟩
  rw[Int.mul_one]
 done:=by
  intro X hP hw hK hc i pins s σ H E I hf st hg
  subst hP hw hK
  obtain⟨f0,f1,f2,f3,f4,f5⟩:=hf it (by simp)
  exact wpAny_pyNext_range_end (I.ok.hd hc) st (by have:n<=i:=hg;omega) λh' eb=>⟨rfl,I.turned (t':=s.toks) (λb o hb e=>eb b o hb e) f0 f1 f3 f4 f5⟩
 self:=λ_ _ _ _ _ st h=>wpAny_pyIter_rangeiter st h
end L2
namespace L2
open PySem PySem.Spec PyProof.Rows
section
variable{X:Cx}{tg:Expr}
theorem zD0{pins:List (Addr×Obj)}{σ:St}{H:Hp}{s:Shared}{R:It->Hp->Prop}{E:Value->Shared->Prop}{lo hi:Int}{t u v:Tok}{tk:Nat}(I:Inv X pins σ H s)(h1:-(2 ^ 62)<=lo)(h2:lo<2 ^ 62)(h3:-(2 ^ 62)<=hi)(h4:hi<2 ^ 62)
  (q:R (Itr lo (hi-lo).toNat) H):wpAny (model X.prog X.w) X.A (pyIter (.ref s.heap.objs.size)) (PIE X pins σ tg R) E {s with heap:=s.heap.push {cls:=.type "range",data:=.fields #[.int lo t,.int hi u,.int 1 v]},toks:=tk}:=by
 refine wpAny_pyIter_range (IsRange.new ..) (small_one h1 h2 h3 h4) ?_
 have I1:Inv X pins σ H {s with heap:=s.heap.push {cls:=.type "range",data:=.fields #[.int lo t,.int hi u,.int 1 v]},toks:=tk}:=I.kept λb o e=>Heap.get?_push_of_some _ e
 refine⟨(s.heap.push {cls:=.type "range",data:=.fields #[.int lo t,.int hi u,.int 1 v]}).objs.size,[(s.heap.push {cls:=.type "range",data:=.fields #[.int lo t,.int hi u,.int 1 v]}).objs.size],_,_,H,rfl,
  I1.kept (t':=tk) λb o e=>Heap.get?_push_of_some _ e,zCG _ lo (hi-lo).toNat,?_,λb hb=>?_,q⟩
 ·have e1:lo+((0:Nat):Int)*1=lo:=by simp
  have e2:(((hi-lo).toNat:Nat):Int)-((0:Nat):Int)=Builtin.Range.rangeSize lo hi 1:=by rw[rangeSize_one];split<;>omega
  show IsRangeIter _ _ (lo+((0:Nat):Int)*1) ((((hi-lo).toNat:Nat):Int)-((0:Nat):Int)) 1
  rw[e1,e2]
  exact Heap.get?_push_size _ rfl
 ·have e:b=(s.heap.push {cls:=.type "range",data:=.fields #[.int lo t,.int hi u,.int 1 v]}).objs.size:=by simpa using hb
  subst e
  exact I1.fpOk (Nat.le_refl _) (I1.hok.fresh (Nat.le_refl _))
def zHs(ta:TA):TI:=λσ H R=>ta σ H λvs H1=>∃j:Int,vs=[.int j] /\ -(2 ^ 62)<=j/\j<2 ^ 62/\R (Itr 0 j.toNat) H1
theorem zDq{a:Expr}{ta:TA}{p pos:Pos}(hg:Gl X "range")(hm:X.mg "range"=none)(ha:PA X [a] ta)(hs:starEach [a] X.env=[(false,eval a X.env)]:=by rfl):PI X tg (.Call (.Name "range" p) [a] [] pos) (zHs ta):=by
 intro pins s σ H R I h
 refine Call_ (mO I hg hm boot_range (PyProof.Rows.callWith_type1 (thn (ha pos pins s σ H _ I h) λus s1 ⟨vs,H1,I1,r1,q1⟩=>?_) hs rfl))
 obtain⟨j,e,q1,q2,q⟩:=q1
 subst e
 cases r1 with
 |cons r rr=>
  cases rr
  obtain⟨t,rfl⟩:=r
  exact call_range_1 (zD0 I1 (by omega) (by omega) q1 q2 (by simpa using q))
def zHM(wi:TI)(g:TG)(tb:TS):TS:=λD σ H=>wi σ H λJ H1=>∃W:Nat->Nat->St->Hp->Prop,(∃m,W 0 m σ H1)/\∀i m σ H,W i m σ H ->
 (J.stop i H/\D.nx σ H)\/(J.go i H/\∃N:St->Hp->Prop,(∀σ' H',N σ' H'->∃m',m'<m/\W (i+1) m' σ' H')/\∀x H',J.yld i H x H'->g x σ H' λσ2 H2=>tb {D with nx:=N,ct:=N,bk:=D.nx} σ2 H2)
def mN(fp:List Addr)(h:Heap):List (Addr×Obj):=fp.filterMap λb=>(h.get? b).map λo=>(b,o)
theorem nY{fp:List Addr}{h:Heap}{b:Addr}{o:Obj}(hb:b∈fp)(e:h.get? b=some o):(b,o)∈mN fp h:=List.mem_filterMap.mpr ⟨b,hb,by rw[e];rfl⟩
theorem zDt{fp:List Addr}{h:Heap}{p:Addr×Obj}(hp:p∈mN fp h):p.1∈fp/\h.get? p.1=some p.2:=by
 obtain⟨b,hb,e⟩:=List.mem_filterMap.mp hp
 cases q:h.get? b with
 |none=>rw[q]at e;cases e
 |some o=>
  rw[q]at e
  have e':(b,o)=p:=Option.some.inj e
  subst e'
  exact⟨hb,q⟩
theorem Inv.pinned{pins:List (Addr×Obj)}{σ:St}{H:Hp}{s:Shared}{fp:List Addr}(I:Inv X pins σ H s)(hf:∀b∈fp,eO X pins H b)(ho:∀b∈fp,∃o,s.heap.get? b=some o/\∀v,o.data≠.cell v):Inv X (pins++mN fp s.heap) σ H s:=
 I.pins_of λp hp=>(List.mem_append.mp hp).elim (λz=>I.pin p (List.mem_append_right _ z)) λz=>by
  obtain⟨hb,e⟩:=zDt z
  obtain⟨f0,f1,f2,_⟩:=hf p.1 hb
  obtain⟨o,e',d⟩:=ho p.1 hb
  rw[e]at e';cases e'
  exact⟨e,f0,f1,f2,d⟩
theorem Inv.unpinned{pins pl:List (Addr×Obj)}{σ:St}{H:Hp}{s:Shared}(I:Inv X (pins++pl) σ H s):Inv X pins σ H s:=I.pins_of λp hp=>I.pin p (List.mem_append_right _ (List.mem_append_left _ hp))
theorem zF7{iter:Expr}{body:List Stmt}{wi:TI}{g:TG}{tb:TS}{pos:Pos}(hp:PassesOwn (model X.prog X.w) X.A X.env X.xe)(hc:X.calm=true)(hi:PI X tg iter wi)(hg:PG X tg g)(hb:PSs X body tb)
  (hs:∀x,foldedSetIterable iter X.env x=pure x:=by intro _;rfl):PS X (.For tg iter body [] pos) (zHM wi g tb):=by
 intro pins s σ H D I h
 refine wpAny_For (thn (hi pins s σ H _ I h) λv s1 h1=>thn h1 λitv s2 h2=>?_) hs
 obtain⟨it,fp,tn,J,H2,e,I2,T,st2,f2,W,⟨m0,w0⟩,turn⟩:=h2
 subst e
 -- what stays true of the iterator's objects through the loop
 have stat:∀{H':Hp},(∀b∈fp,H' b=none)->∀b∈fp,eO X pins H' b:=λhn b hb=>⟨hn b hb,(f2 b hb).2⟩
 refine codeAny_forLoop_any (λn s'=>∃i σ' H',Inv X pins σ' H' s'/\tn i s'.heap/\(∀b∈fp,H' b=none)/\W i n σ' H') ?_ m0 ⟨0,σ,H2,I2,st2,λb hb=>(f2 b hb).1,w0⟩
 rintro n s3 ⟨i,σ3,H3,I3,st3,fr3,w3⟩
 rcases turn i n σ3 H3 w3 with⟨stop,qn⟩|⟨go,N,hN,step⟩
 ·refine wpAny_passesOwn hp (thn (T.done X rfl rfl rfl hc i pins s3 σ3 H3 X.xe I3 (stat fr3) st3 stop) λr s4 ⟨hr,I4⟩=>?_)
  subst hr
  exact wpAny_execs_nil ⟨σ3,H3,I4,qn⟩
 ·refine wpAny_passesOwn hp (thn (T.item X rfl rfl rfl hc i pins s3 σ3 H3 X.xe I3 (stat fr3) st3 go) λr s4 ⟨u,hr,h4⟩=>?_)
  subst hr
  refine wpAny_passesOwn hp (thn h4 λ_ s5 ⟨x,H5,I5,r5,y5,st5,fr5⟩=>?_)
  have I5':=I5.pinned (stat fr5) (T.obj _ _ st5)
  refine wpAny_passesOwn hp (thn (hg _ s5 σ3 H5 x u _ I5' r5 (step x H5 y5)) λ_ s6 ⟨σ6,H6,I6,q6⟩=>?_)
  refine wpAny_passesOwn hp (thn (hb _ s6 σ6 H6 _ I6 q6) λf s7 q7=>?_)
  have again:∀{σ7:St} {H7:Hp},Inv X (pins++mN fp s5.heap) σ7 H7 s7->N σ7 H7->∃m,m<n/\∃i σ' H',Inv X pins σ' H' s7/\tn i s7.heap/\(∀b∈fp,H' b=none)/\W i m σ' H':=λ{σ7 H7} I7 n7=>by
   obtain⟨m',hm,w7⟩:=hN σ7 H7 n7
   refine⟨m',hm,i+1,σ7,H7,I7.unpinned,T.keep _ _ _ st5 λb hb o e=>(I7.pin (b,o) (List.mem_append_right _ (List.mem_append_right _ (nY hb e)))).1,λb hb=>?_,w7⟩
   obtain⟨o,e,d⟩:=T.obj _ _ st5 b hb
   exact(I7.pin (b,o) (List.mem_append_right _ (List.mem_append_right _ (nY hb e)))).2.1
  cases f with
  |next=>obtain⟨σ7,H7,I7,n7⟩:=q7;exact again I7 n7
  |cont=>obtain⟨σ7,H7,I7,n7⟩:=q7;exact again I7 n7
  |brk=>obtain⟨σ7,H7,I7,q7⟩:=q7;exact⟨σ7,H7,I7.unpinned,q7⟩
  |ret v=>obtain⟨x7,σ7,H7,I7,r7,q7⟩:=q7;exact⟨x7,σ7,H7,I7.unpinned,r7,q7⟩
end
end L2
namespace L2
open PySem PySem.Spec PyProof.Rows
abbrev R2:=V->V->Hp->VK->Prop
def OpR(X:Cx)(f:Value->Value->Sem Value)(r:R2):Prop:=
 ∀(pins:List (Addr×Obj)) (s:Shared) (σ:St) (H:Hp) (x y:V) (v u:Value) (Q:VK),Inv X pins σ H s->RelV x v->RelV y u->r x y H Q ->
  wpAny (model X.prog X.w) X.A (f v u) (EP X pins σ Q) X.xe s
def UnR(X:Cx)(f:Value->Sem Value)(r:V->Hp->VK->Prop):Prop:=
 ∀(pins:List (Addr×Obj)) (s:Shared) (σ:St) (H:Hp) (x:V) (v:Value) (Q:VK),Inv X pins σ H s->RelV x v->r x H Q ->
  wpAny (model X.prog X.w) X.A (f v) (EP X pins σ Q) X.xe s
def CallR(X:Cx)(f:Value)(r:List V->Hp->VK->Prop):Prop:=
 ∀(pins:List (Addr×Obj)) (s:Shared) (σ:St) (H:Hp) (xs:List V) (us:List Value) (Q:VK),Inv X pins σ H s->Vals xs us->r xs H Q ->
  wpAny (model X.prog X.w) X.A (call f us) (EP X pins σ Q) X.xe s
def tOp(r:R2)(ta tb:TE):TE:=λσ H Q=>ta σ H λx H1=>tb σ H1 λy H2=>r x y H2 Q
def tUn(r:V->Hp->VK->Prop)(ta:TE):TE:=λσ H Q=>ta σ H λx H1=>r x H1 Q
def rI(C:Int->Int->Prop)(g:Int->Int->V):R2:=λx y H Q=>∃i j,x=.int i/\y=.int j/\C i j/\Q (g i j) H
def rI0(g:Int->Int->V):R2:=λx y H Q=>∃i j,x=.int i/\y=.int j/\Q (g i j) H
def rU(g:Int->V):V->Hp->VK->Prop:=λx H Q=>∃i,x=.int i/\Q (g i) H
section
variable{X:Cx}{a b c:Expr}{ta tb tc:TE}{pos:Pos}
theorem wD(ha:PE X a ta)(hb:PE X b tb){pins:List (Addr×Obj)}{s:Shared}{σ:St}{H:Hp}{R:V->V->Hp->Prop}(I:Inv X pins σ H s)
  (h:ta σ H λx H1=>tb σ H1 λy H2=>R x y H2) {Q:Value->Shared->Prop} {f:Value->Value->Sem Value}
  (hf:∀v u s2 x y H2,Inv X pins σ H2 s2->RelV x v->RelV y u->R x y H2->wpAny (model X.prog X.w) X.A (f v u) Q X.xe s2):
  wpAny (model X.prog X.w) X.A (eval a X.env) (λv s₁=>wpAny (model X.prog X.w) X.A (eval b X.env) (λu s₂=>wpAny (model X.prog X.w) X.A (f v u) Q X.xe s₂) X.xe s₁) X.xe s:=by
 refine thn (ha pins s σ H _ I h) λv s1 ⟨x,H1,I1,r1,q1⟩=>?_
 refine thn (hb pins s1 σ H1 _ I1 q1) λu s2 ⟨y,H2,I2,r2,q2⟩=>?_
 exact hf v u s2 x y H2 I2 r1 r2 q2
theorem cJ{op:Operator}{r:R2}(ho:OpR X (binaryOp op) r)(ha:PE X a ta)(hb:PE X b tb):PE X (.BinOp a op b pos) (tOp r ta tb):=by
 intro pins s σ H Q I h
 exact wpAny_BinOp (wD ha hb I h λv u s2 x y H2 I2 rx ry q=>ho pins s2 σ H2 x y v u Q I2 rx ry q)
theorem zBr{op:UnaryOp}{r:V->Hp->VK->Prop}(ho:UnR X (unaryOp op) r)(ha:PE X a ta):PE X (.UnaryOp op a pos) (tUn r ta):=by
 intro pins s σ H Q I h
 exact UnaryOp_ (thn (ha pins s σ H _ I h) λv s1 ⟨x,H1,I1,r1,q1⟩=>ho pins s1 σ H1 x v Q I1 r1 q1)
theorem opI{f:Value->Value->Sem Value}{C:Int->Int->Prop}{g:Int->Int->Int}
  (rule:∀(i j:Int) (t u:Tok) (s:Shared) (Q:Value->Shared->Prop) (E:Value->Shared->Prop),C i j->Q (.int (g i j) s.toks) {s with toks:=s.toks+1}->wpAny (model X.prog X.w) X.A (f (.int i t) (.int j u)) Q E s):
  OpR X f (rI C λi j=>.int (g i j)):=by
 intro pins s σ H x y v u Q I rx ry h
 obtain⟨i,j,rfl,rfl,hc,q⟩:=h
 obtain⟨t,rfl⟩:=rx
 obtain⟨t',rfl⟩:=ry
 exact rule i j t t' s _ _ hc ⟨.int (g i j),H,I.tok _,⟨_,rfl⟩,q⟩
theorem zBT{f:Value->Value->Sem Value}{g:Int->Int->Int}
  (rule:∀(i j:Int) (t u:Tok) (s:Shared) (Q:Value->Shared->Prop) (E:Value->Shared->Prop),Q (.int (g i j) s.toks) {s with toks:=s.toks+1}->wpAny (model X.prog X.w) X.A (f (.int i t) (.int j u)) Q E s):
  OpR X f (rI0 λi j=>.int (g i j)):=by
 intro pins s σ H x y v u Q I rx ry h
 obtain⟨i,j,rfl,rfl,q⟩:=h
 obtain⟨t,rfl⟩:=rx
 obtain⟨t',rfl⟩:=ry
 exact rule i j t t' s _ _ ⟨.int (g i j),H,I.tok _,⟨_,rfl⟩,q⟩
theorem qW{f:Value->Value->Sem Value}{g:Int->Int->Bool}
  (rule:∀(i j:Int) (t u:Tok) (s:Shared) (Q:Value->Shared->Prop) (E:Value->Shared->Prop),Q (.bool (g i j)) s->wpAny (model X.prog X.w) X.A (f (.int i t) (.int j u)) Q E s):
  OpR X f (rI0 λi j=>.bl (g i j)):=by
 intro pins s σ H x y v u Q I rx ry h
 obtain⟨i,j,rfl,rfl,q⟩:=h
 obtain⟨t,rfl⟩:=rx
 obtain⟨t',rfl⟩:=ry
 exact rule i j t t' s _ _ ⟨.bl (g i j),H,I,rfl,q⟩
def zI0(i j:Int):Prop:=0<j/\j<1073741824
def zB3(i j:Int):Prop:=0<=j/\j<=1000000/\i.natAbs<2 ^ 64
def CMul(i j:Int):Prop:=(-(2 ^ 64)<i/\i<2 ^ 64)\/(-(2 ^ 64)<j/\j<2 ^ 64)
theorem CMul.ok{i j:Int}(h:CMul i j):IntMulOk i j:=by
 rcases h with⟨h1,h2⟩|⟨h1,h2⟩
 ·exact .of_left (intBits_le_64 h1 h2)
 ·exact .of_right (intBits_le_64 h1 h2)
theorem op_add:OpR X (binaryOp .Add) (rI0 λi j=>.int (i+j)):=zBT λ_ _ _ _ _ _ _ q=>add_int q
theorem zGm:OpR X (binaryOp .Sub) (rI0 λi j=>.int (i-j)):=zBT λ_ _ _ _ _ _ _ q=>sub_int q
theorem op_mul:OpR X (binaryOp .Mult) (rI CMul λi j=>.int (i*j)):=opI λ_ _ _ _ _ _ _ hc q=>mul_int q hc.ok
theorem zAA:OpR X (binaryOp .FloorDiv) (rI zI0 λi j=>.int (i / j)):=opI λi j _ _ _ _ _ hc q=>by
 have h1:(0:Int)<j:=hc.1
 have h2:j<1073741824:=hc.2
 exact floordiv_int (by omega) (by rw[Int.fdiv_eq_ediv_of_nonneg i (by omega)];exact q) (.inl (PyProof.noPylong_small (by omega)))
theorem gX:OpR X (binaryOp .Mod) (rI (λ_ j=>0<j) λi j=>.int (i % j)):=opI λi j _ _ _ _ _ hc q=>by
 have h1:(0:Int)<j:=hc
 exact mod_int' (by omega) (by rw[Int.fmod_eq_emod_of_nonneg i (by omega)];exact q)
theorem zBc:OpR X (binaryOp .Pow) (rI zB3 λi j=>.int (i ^ j.toNat)):=opI λ_ _ _ _ _ _ _ hc q=>pow_int_small hc.1 hc.2.1 hc.2.2 q
theorem unI{f:Value->Sem Value}{g:Int->Int}
  (rule:∀(i:Int) (t:Tok) (s:Shared) (Q:Value->Shared->Prop) (E:Value->Shared->Prop),Q (.int (g i) s.toks) {s with toks:=s.toks+1}->wpAny (model X.prog X.w) X.A (f (.int i t)) Q E s):
  UnR X f (rU λi=>.int (g i)):=by
 intro pins s σ H x v Q I rx h
 obtain⟨i,rfl,q⟩:=h
 obtain⟨t,rfl⟩:=rx
 exact rule i t s _ _ ⟨.int (g i),H,I.tok _,⟨_,rfl⟩,q⟩
theorem zAT:UnR X (unaryOp .USub) (rU λi=>.int (-i)):=unI λ_ _ _ _ _ q=>neg_int q
end
section
variable{X:Cx}{a b c:Expr}{ta tb tc:TE}{pos:Pos}
theorem uH{pins:List (Addr×Obj)}{σ:St}{H:Hp}{s:Shared}{Q:VK}{k k':Bool}(I:Inv X pins σ H s)(q:Q (.bl k) H)(e:k=k'):EP X pins σ Q (.bool k') s:=by
 subst e
 exact⟨.bl k,H,I,rfl,q⟩
theorem op_lt:OpR X (compareOp .Lt) (rI0 λi j=>.bl (decide (i<j))):=qW λ_ _ _ _ _ _ _ q=>lt_int q
theorem zHl:OpR X (compareOp .LtE) (rI0 λi j=>.bl (decide (i<=j))):=qW λ_ _ _ _ _ _ _ q=>le_int q
theorem zHm:OpR X (compareOp .Gt) (rI0 λi j=>.bl (decide (j<i))):=qW λ_ _ _ _ _ _ _ q=>gt_int q
theorem zHn:OpR X (compareOp .GtE) (rI0 λi j=>.bl (decide (j<=i))):=qW λ_ _ _ _ _ _ _ q=>ge_int q
theorem zDs:OpR X (compareOp .Lt) (λx y H Q=>∃i j,x=.str i/\y=.str j/\Q (.bl (decide (i.cps.toList<j.cps.toList))) H):=by
 intro pins s σ H x y v u Q I rx ry h
 obtain⟨i,j,rfl,rfl,q⟩:=h
 obtain⟨t,rfl⟩:=rx
 obtain⟨t',rfl⟩:=ry
 exact lt_str (uH I q rfl)
theorem op_in_str:OpR X (compareOp .In) (λx y H Q=>∃i j,x=.str i/\y=.str j/\Q (.bl (!(Builtin.Str.occurrences j i 0 j.length 1).isEmpty)) H):=by
 intro pins s σ H x y v u Q I rx ry h
 obtain⟨i,j,rfl,rfl,q⟩:=h
 obtain⟨t,rfl⟩:=rx
 obtain⟨t',rfl⟩:=ry
 exact in_str (uH I q rfl)
theorem op_isN:OpR X (compareOp .Is) (λx y H Q=>y=.non/\Q (.bl (decide (x=.non))) H):=by
 intro pins s σ H x y v u Q I rx ry h
 obtain⟨rfl,q⟩:=h
 cases ry
 refine is_none_gen (uH I q ?_)
 cases x<;>first
  |(cases rx;rfl)
  |(obtain⟨t,rfl⟩:=rx;rfl)
theorem OpR.or{f:Value->Value->Sem Value}{r r':R2}(h:OpR X f r)(h':OpR X f r'):OpR X f (λx y H Q=>r x y H Q\/r' x y H Q):=by
 intro pins s σ H x y v u Q I rx ry q
 rcases q with q|q
 ·exact h pins s σ H x y v u Q I rx ry q
 ·exact h' pins s σ H x y v u Q I rx ry q
theorem aO(b:Expr){op:CmpOp}(h:op≠.In:=by decide)(h2:op≠.NotIn:=by decide):behindInMarks op b=false:=by
 have e1:(op==CmpOp.In)=false:=by cases op<;>first|rfl|exact absurd rfl h
 have e2:(op==CmpOp.NotIn)=false:=by cases op<;>first|rfl|exact absurd rfl h2
 cases b<;>simp[behindInMarks,e1,e2]
theorem zE4{op:CmpOp}{r:R2}(ho:OpR X (compareOp op) r)(ha:PE X a ta)(hb:PE X b tb)(hm:behindInMarks op b=false):PE X (.Compare a [op] [b] pos) (tOp r ta tb):=by
 intro pins s σ H Q I h
 exact wpAny_Compare1 (wD ha hb I h λv u s2 x y H2 I2 rx ry q=>ho pins s2 σ H2 x y v u Q I2 rx ry q) hm
def uM(t:TE):TT:=λσ H Q=>t σ H λx H'=>∃k,x=.bl k/\Q k H'
theorem tF{op:CmpOp}{r:R2}(ho:OpR X (compareOp op) r)(ha:PE X a ta)(hb:PE X b tb)(hm:behindInMarks op b=false):PT X (.Compare a [op] [b] pos) (uM (tOp r ta tb)):=by
 intro pins s σ H Q I h
 refine wpAny_isTrue_Compare1 (thn (ha pins s σ H _ I h) λv s1 ⟨x,H1,I1,r1,q1⟩=>thn (hb pins s1 σ H1 _ I1 q1) λu s2 ⟨y,H2,I2,r2,q2⟩=>
  thn (ho pins s2 σ H2 x y v u _ I2 r1 r2 q2) λc s3 ⟨z,H3,I3,r3,k,e,q3⟩=>?_) hm
 subst e
 cases r3
 exact wpAny_truthy_bool ⟨H3,I3,q3⟩
def uE(r r':R2)(ta tb tc:TE):TE:=λσ H Q=>ta σ H λx H1=>tb σ H1 λy H2=>r x y H2 λz H3=>∃k,z=.bl k /\
 (if k=true then tc σ H3 λw' H4=>r' y w' H4 Q else Q (.bl false) H3)
theorem zEc{op op':CmpOp}{r r':R2}(ho:OpR X (compareOp op) r)(ho':OpR X (compareOp op') r')(ha:PE X a ta)(hb:PE X b tb)(hc:PE X c tc)
  (hm:lastMarks [op,op'] [b,c]=false:=by with_unfolding_all rfl):PE X (.Compare a [op,op'] [b,c] pos) (uE r r' ta tb tc):=by
 intro pins s σ H Q I h
 refine Compare_chain (thn (ha pins s σ H _ I h) λv s1 ⟨x,H1,I1,r1,q1⟩=>chain_link (thn (hb pins s1 σ H1 _ I1 q1) λu s2 ⟨y,H2,I2,r2,q2⟩=>
  thn (ho pins s2 σ H2 x y v u _ I2 r1 r2 q2) λd s3 ⟨z,H3,I3,r3,k,e,q3⟩=>?_)) hm
 subst e
 cases r3
 refine wpAny_truthy_bool ?_
 cases k with
 |false=>exact ite_ff ⟨.bl false,H3,I3,rfl,q3⟩
 |true=>exact ite_tt (chain_last (thn (hc pins s3 σ H3 _ I3 q3) λw' s4 ⟨z',H4,I4,r4,q4⟩=>ho' pins s4 σ H4 y z' u w' Q I4 r2 r4 q4))
theorem zD4{op op':CmpOp}{r r':R2}(ho:OpR X (compareOp op) r)(ho':OpR X (compareOp op') r')(ha:PE X a ta)(hb:PE X b tb)(hc:PE X c tc)
  (hm:lastMarks [op,op'] [b,c]=false:=by with_unfolding_all rfl):PT X (.Compare a [op,op'] [b,c] pos) (uM (uE r r' ta tb tc)):=by
 intro pins s σ H Q I h
 refine isTrue_chain (thn (ha pins s σ H _ I h) λv s1 ⟨x,H1,I1,r1,q1⟩=>test_link (thn (hb pins s1 σ H1 _ I1 q1) λu s2 ⟨y,H2,I2,r2,q2⟩=>
  thn (ho pins s2 σ H2 x y v u _ I2 r1 r2 q2) λd s3 ⟨z,H3,I3,r3,k,e,q3⟩=>?_)) hm
 subst e
 cases r3
 refine wpAny_truthy_bool ?_
 cases k with
 |false=>
  obtain⟨k',e',q'⟩:=q3
  cases e'
  exact ite_ff ⟨H3,I3,q'⟩
 |true=>
  refine ite_tt (test_last (thn (hc pins s3 σ H3 _ I3 q3) λw' s4 ⟨z',H4,I4,r4,q4⟩=>thn (ho' pins s4 σ H4 y z' u w' _ I4 r2 r4 q4) λd' s5 ⟨z2,H5,I5,r5,k2,e2,q5⟩=>?_))
  subst e2
  cases r5
  exact wpAny_truthy_bool ⟨H5,I5,q5⟩
theorem kS:(sizeLine:Nat)<2 ^ 63:=by rw[sizeLine_eq];decide
theorem op_add_str:OpR X (binaryOp .Add) (λx y H Q=>∃i j,x=.str i/\y=.str j/\i.length+j.length<=sizeLine/\Q (.str (i++j)) H):=by
 intro pins s σ H x y v u Q I rx ry h
 obtain⟨i,j,rfl,rfl,hz,q⟩:=h
 obtain⟨t,rfl⟩:=rx
 obtain⟨t',rfl⟩:=ry
 exact add_str (λt' tk=>⟨.str (i++j),H,I.tok _,⟨_,rfl⟩,q⟩) hz
theorem cF{x:V}{us:List Value}(r:Vals [x] us):∃u,us=[u]/\RelV x u:=by
 cases r with
 |cons r1 r2=>cases r2;exact⟨_,rfl,r1⟩
theorem kT{x y:V}{us:List Value}(r:Vals [x,y] us):∃u w',us=[u,w']/\RelV x u/\RelV y w':=by
 cases r with
 |cons r1 r2=>
  cases r2 with
  |cons r3 r4=>cases r4;exact⟨_,_,rfl,r1,r3⟩
theorem zDL(hc:X.calm=true):CallR X (.builtin "max") (λxs H Q=>∃i j,xs=[.int i,.int j]/\Q (.int (if j > i then j else i)) H):=by
 intro pins s σ H xs us Q I r h
 obtain⟨i,j,rfl,q⟩:=h
 obtain⟨u,w',rfl,⟨t,rfl⟩,⟨t',rfl⟩⟩:=kT r
 refine max_two_ints (I.ok.hd hc) λh' tk k=>⟨_,H,I.kept k,?_,q⟩
 by_cases hj:j > i
 ·rw[if_pos hj,if_pos hj];exact⟨_,rfl⟩
 ·rw[if_neg hj,if_neg hj];exact⟨_,rfl⟩
theorem zDI(hc:X.calm=true):CallR X (.builtin "min") (λxs H Q=>∃i j,xs=[.int i,.int j]/\Q (.int (if j<i then j else i)) H):=by
 intro pins s σ H xs us Q I r h
 obtain⟨i,j,rfl,q⟩:=h
 obtain⟨u,w',rfl,⟨t,rfl⟩,⟨t',rfl⟩⟩:=kT r
 refine min_two_ints (I.ok.hd hc) λh' tk k=>⟨_,H,I.kept k,?_,q⟩
 by_cases hj:j<i
 ·rw[if_pos hj,if_pos hj];exact⟨_,rfl⟩
 ·rw[if_neg hj,if_neg hj];exact⟨_,rfl⟩
theorem zDN:CallR X (.type "int") (λxs H Q=>(∃i,xs=[.int i]/\Q (.int i) H)\/∃k,xs=[.bl k]/\Q (.int (if k then 1 else 0)) H):=by
 intro pins s σ H xs us Q I r h
 rcases h with⟨i,rfl,q⟩|⟨k,rfl,q⟩
 ·obtain⟨u,rfl,t,rfl⟩:=cF r
  exact call_int_int ⟨.int i,H,I,⟨_,rfl⟩,q⟩
 ·obtain⟨u,rfl,r1⟩:=cF r
  cases r1
  exact call_int_bool ⟨.int (if k then 1 else 0),H,I.tok _,⟨_,rfl⟩,q⟩
end
end L2
namespace L2
open PySem PySem.Spec PyProof.Rows
theorem RelO.some_of{v:V}{o:Option Value}(r:RelO (some v) o):∃u,o=some u/\RelV v u:=by
 cases o with
 |none=>exact(show False from r).elim
 |some u=>exact⟨u,rfl,r⟩
end L2
namespace L2
open PySem PySem.Spec PyProof.Rows
structure Room (k:Nat) (A:Around):Prop where
 hd:A.handled=none
 dp:A.depth+3*k+5<recursionLimit
 un:A.units+16*k+200<cLine
 gd:A.guards=some []
theorem Room.mono{j k:Nat}{A:Around}(r:Room k A)(h:j<=k):Room j A:=⟨r.hd,by have:=r.dp;omega,by have:=r.un;omega,r.gd⟩
theorem Room.deeper{k:Nat}{A:Around}(r:Room (k+1) A)(env:Env):Room k (A.deeper env):=
 ⟨r.hd,by have:=r.dp;show A.depth+1+3*k+5<_;omega,by have:=r.un;show A.units+3+16*k+200<_;omega,r.gd⟩
theorem Room.depth{k:Nat}{A:Around}(r:Room k A):A.depth<recursionLimit:=by have:=r.dp;omega
theorem Room.units{k:Nat}{A:Around}(r:Room k A):A.units+64<cLine:=by have:=r.un;omega
def qE:TA:=λ_ H Q=>Q [] H
def uN(ta:TE)(tr:TA):TA:=λσ H Q=>ta σ H λx H1=>tr σ H1 λxs H2=>Q (x::xs) H2
section
variable{X:Cx}{e:Expr}{es:List Expr}{te:TE}{t:TA}{pos:Pos}
theorem eK:PA X [] qE:=λ_ _ _ _ H Q I h=>Calls.spliced_nil ⟨[],H,I,.nil,h⟩
theorem zE6(ha:PE X e te)(hr:PA X es t)(hs:starEach (e::es) X.env=(false,eval e X.env)::starEach es X.env:=by rfl):PA X (e::es) (uN te t):=by
 intro pos pins s σ H Q I h
 rw[hs]
 show wpAny _ _ (spliced ((false,eval e X.env)::backTo pos (starEach es X.env))) _ _ s
 refine Calls.spliced_cons (thn (ha pins s σ H _ I h) λu s1 ⟨x,H1,I1,r1,q1⟩=>?_)
 exact thn (hr pos pins s1 σ H1 _ I1 q1) λus s2 ⟨xs,H2,I2,r2,q2⟩=>⟨x::xs,H2,I2,.cons r1 r2,q2⟩
def zHF(t:TA):TE:=λσ H Q=>t σ H λxs H1=>xs.length<=sizeLine/\∀p,H1 p=none->Q (.ref p) (upd H1 p (.tup xs))
def zBF(t:TA):TE:=λσ H Q=>t σ H λxs H1=>xs.length<=sizeLine/\∀p,H1 p=none->Q (.ref p) (upd H1 p (.lst xs))
theorem zGb{x1}(h:PA X es t):PE X (.Tuple es x1 pos) (zHF t):=by
 intro pins s σ H Q I hq
 refine wpAny_Tuple_spliced (thn (h pos pins s σ H _ I hq) λus s1 ⟨xs,H1,I1,r,z,q⟩=>⟨by rw[<-r.length];exact z,?_⟩)
 have hf:H1 s1.heap.objs.size=none:=I1.hok.fresh (Nat.le_refl _)
 refine⟨.ref s1.heap.objs.size,upd H1 s1.heap.objs.size (.tup xs),I1.laid (t':=s1.toks) (λb u e=>Heap.get?_push_of_some _ e) (Nat.le_refl _) ?_,rfl,q _ hf⟩
 exact⟨z,us,r,⟨_,Heap.get?_push_size _ rfl,rfl,_,rfl⟩⟩
theorem zBa(h:PA X es t):PE X (.List es pos) (zBF t):=by
 intro pins s σ H Q I hq
 refine wpAny_List_spliced (thn (h pos pins s σ H _ I hq) λus s1 ⟨xs,H1,I1,r,z,q⟩=>⟨by rw[<-r.length];exact z,?_⟩)
 have hf:H1 s1.heap.objs.size=none:=I1.hok.fresh (Nat.le_refl _)
 refine⟨.ref s1.heap.objs.size,upd H1 s1.heap.objs.size (.lst xs),I1.laid (t':=s1.toks) (λb u e=>Heap.get?_push_of_some _ e) (Nat.le_refl _) ?_,rfl,q _ hf⟩
 exact⟨z,us,0,r,Heap.get?_push_size _ rfl⟩
end
abbrev Sp:=List V->Hp->VK->XK->Prop
abbrev CXT:=List Env->Hp->Shared->XK->Value->Shared->Prop
structure rC (P:Program) (w:World) (K:W.Frag) (mg:Str->Option Value) (base:Heap) (A:Around) (outer:List Env) (s:Shared) (H:Hp):Prop where
 frames:A.frames=some outer
 mod:Mod K mg base
 bs:∀b o,base.get? b=some o->s.heap.get? b=some o/\H b=none
 bsz:base.objs.size<=s.heap.objs.size
 funs:s.heap.FunFrames base outer
 frf:∀b∈frs outer,H b=none
 hok:HOk P w H s.heap
 bare:AllBare s.gens
def CE(outer:List Env)(P:Program)(w:World)(H:Hp)(s:Shared)(Q:VK)(u:Value)(s':Shared):Prop:=
 ∃v H',s'.os=s.os/\AllBare s'.gens/\Un (frs outer) [] H H' s.heap s'.heap/\HOk P w H' s'.heap/\RelV v u/\Q v H'
def CR(CX:CXT)(outer:List Env)(P:Program)(w:World)(H:Hp)(s:Shared)(Q:VK)(E:XK)(r:Result)(s':Shared):Prop:=
 match r with
 |.ok (.ret u)=>CE outer P w H s Q u s'
 |.ok _=>False
 |.error e=>CX outer H s E e s'
structure FnOk (P:Program) (w:World) (K:W.Frag) (mg:Str->Option Value) (base:Heap) (CX:CXT) (k:Nat) (f:Addr) (fd:FuncData) (ps:List Str) (sp:Sp):Prop where
 len:∀vs H Q E,sp vs H Q E->vs.length=ps.length
 run:∀(A:Around) (outer:List Env) (s:Shared) (H:Hp) (args:Args) (us:List Value) (vs:List V) (Q:VK) (E:XK),Room k A->rC P w K mg base A outer s H->BindsTo s fd args (ps.zip us)->Vals vs us->sp vs H Q E ->
  codeAny (model P w) A (.call (.ref f) args) (CR CX outer P w H s Q E) s
theorem FnOk.imp{P:Program}{w:World}{K:W.Frag}{mg:Str->Option Value}{base:Heap}{CX:CXT}{k:Nat}{f:Addr}{fd:FuncData}{ps:List Str}{sp sp':Sp}(F:FnOk P w K mg base CX k f fd ps sp)
  (h:∀vs H Q E,sp' vs H Q E->sp vs H Q E):FnOk P w K mg base CX k f fd ps sp':=
 ⟨λvs H Q E q=>F.len vs H Q E (h _ _ _ _ q),λA outer s H args us vs Q E hr he hb hv hs=>F.run A outer s H args us vs Q E hr he hb hv (h _ _ _ _ hs)⟩
section
variable{X:Cx}{pins:List (Addr×Obj)}{σ:St}{H:Hp}{s s':Shared}
theorem Inv.env0(I:Inv X pins σ H s):rC X.prog X.w X.K X.mg X.base X.A X.stack s H:=
 ⟨I.ok.frames,I.ok.mod,I.bs,Nat.le_trans I.ok.bsz I.sz,I.stack,I.stkFree,I.hok,I.bare⟩
theorem Inv.after{Q:VK}{u:Value}(I:Inv X pins σ H s)(h:CE X.stack X.prog X.w H s Q u s'):EP X pins σ Q u s':=by
 obtain⟨v,H',os,bare,un,hok,r,q⟩:=h
 obtain⟨hh,g,d,t,os'⟩:=s'
 obtain rfl:os'=s.os:=os
 exact⟨v,H',I.call (h':=hh) (g':=g) (d':=d) (t':=t) (ch:=[]) un hok bare (λb z=>absurd z (by simp)),r,q⟩
end
def mV(sp:Sp)(dvs:List V)(E:XK)(t:TA):TE:=λσ H Q=>t σ H λvs H1=>sp (vs++dvs) H1 Q E
def Binds(K:W.Frag)(fd:FuncData)(ps:List Str)(ds:List Value):Prop:=
 ∀(s:Shared) (us:List Value),K.In s.heap->(us++ds).length=ps.length->BindsTo s fd ⟨us,[]⟩ (ps.zip (us++ds))
theorem Binds.all{K:W.Frag}{fd:FuncData}{ps:List Str}(h:∀us:List Value,us.length=ps.length->bindArgs fd ⟨us,[]⟩=pure (ps.zip us)):Binds K fd ps []:=λs us _ hl=>by
 rw[List.append_nil]at hl ⊢
 exact .of_eq (h us hl)
def pQ(CX:CXT)(X:Cx)(E:XK):Prop:=∀(pins:List (Addr×Obj)) (σ:St) (H:Hp) (s:Shared) (e:Value) (s':Shared),Inv X pins σ H s->CX X.stack H s E e s'->X.xe e s'
section
variable{X:Cx}{CX:CXT}{k:Nat}{f C:Addr}{fd:FuncData}{ps:List Str}{sp:Sp}{dvs:List V}{ds:List Value}{E:XK}{x m:Str}{p pos apos:Pos}{e o:Expr}{es:List Expr}{ta:TE}{t:TA}
theorem zA2{pins:List (Addr×Obj)}{σ:St}{H:Hp}{s:Shared}{Q:VK}{us:List Value}{vs:List V}(F:FnOk X.prog X.w X.K X.mg X.base CX k f fd ps sp)(hr:Room k X.A)(hb:Binds X.K fd ps ds)(hd:Vals dvs ds)(hx:pQ CX X E)
  (I:Inv X pins σ H s) (r:Vals vs us) (h:sp (vs++dvs) H Q E):wpAny (model X.prog X.w) X.A (call (.ref f) us) (EP X pins σ Q) X.xe s:=by
 have r2:Vals (vs++dvs) (us++ds):=r.append hd
 have hl:(us++ds).length=ps.length:=by rw[<-r2.length];exact F.len _ _ _ _ h
 refine wpAny_call (codeAny_mono (F.run X.A X.stack s H ⟨us,[]⟩ (us++ds) (vs++dvs) Q E hr I.env0 (hb s us I.kIn hl) r2 h) λr s' hq=>?_)
 cases r with
 |error e=>exact hx pins σ H s e s' I hq
 |ok fl=>
  cases fl with
  |ret u=>exact I.after hq
  |next=>exact False.elim hq
  |brk=>exact False.elim hq
  |cont=>exact False.elim hq
theorem zE5(F:FnOk X.prog X.w X.K X.mg X.base CX k f fd ps sp)(hr:Room k X.A)(hg:Gl X x)(hm:X.mg x=some (.ref f))(hk:W.keepIn X.K (.ref f)=true)(hb:Binds X.K fd ps ds)(hd:Vals dvs ds)(hx:pQ CX X E)
  (ha:PA X (e::es) t) (hdb:(x==("__debug__":Str))=false:=by decide) (he:starEach (e::es) X.env=(false,eval e X.env)::starEach es X.env:=by rfl) (hpl:(backTo pos (starEach es X.env)).any (·.1)=false:=by rfl):
  PE X (.Call (.Name x p) (e::es) [] pos) (mV sp dvs E t):=by
 intro pins s σ H Q I h
 refine wpAny_Call_Name_kw (tQ I hg hm ?_ hdb)
 refine PySem.W.callWith_K (h₀:=X.base) I.ok.mod.kin hk (thn (ha pos pins s σ H _ I h) λus s1 ⟨vs,H1,I1,r,q⟩=>⟨I1.kIn,?_⟩) he hpl
 exact zA2 F hr hb hd hx I1 r q
theorem zEd(F:FnOk X.prog X.w X.K X.mg X.base CX k f fd ps sp)(hr:Room k X.A)(hg:Gl X x)(hm:X.mg x=some (.ref f))(hk:W.keepIn X.K (.ref f)=true)(hb:Binds X.K fd ps ds)(hd:Vals dvs ds)(hx:pQ CX X E)
  (hdb:(x==("__debug__":Str))=false:=by decide):PE X (.Call (.Name x p) [] [] pos) (mV sp dvs E qE):=by
 intro pins s σ H Q I h
 refine wpAny_Call_Name_kw (tQ I hg hm ?_ hdb)
 exact PySem.W.callWith_K0 I.kIn hk (zA2 (us:=[]) F hr hb hd hx I .nil h)
end
structure bG (N P:List Str) (sc:Scope):Prop where
 kind:sc.kind=.function
 co:sc.isCoroutine=false
 gen:sc.isGenerator=false
 nd:N.Nodup
 pre:N.take P.length=P
 par:∀x∈P,sc.names.lookup x=some .local\/sc.names.lookup x=some .cell
 nofree:∀y∈sc.names,y.2≠.free
theorem fsc{N P:List Str}{sc:Scope}(h:sc.kind=.function/\sc.isCoroutine=false/\sc.isGenerator=false/\N.Nodup/\N.take P.length=P/\(∀x∈P,sc.names.lookup x=some .local\/sc.names.lookup x=some .cell)/\∀y∈sc.names,y.2≠.free):bG N P sc:=⟨h.1,h.2.1,h.2.2.1,h.2.2.2.1,h.2.2.2.2.1,h.2.2.2.2.2.1,h.2.2.2.2.2.2⟩
theorem yS{kindOf:Str->Option NameKind}{x:Str}:∀{binds:List (Str×Value)}{m:Str->Option Value},(∀v,(x,v)∉binds)->bindL kindOf binds m x=m x
 |[],_,_=>rfl
 |(n,v)::r,m,h=>by
  unfold bindL
  rw[yS λw hw=>h w (List.mem_cons_of_mem _ hw)]
  split
  ·have:x≠n:=by rintro rfl;exact h v List.mem_cons_self
   simp[this]
  ·rfl
theorem yU{kindOf:Str->Option NameKind}{x:Str}:∀{binds:List (Str×Value)}{m:Str->Option Value},(∀v,(x,v)∉binds)->bindC kindOf binds m x=m x
 |[],_,_=>rfl
 |(n,v)::r,m,h=>by
  unfold bindC
  rw[yU λw hw=>h w (List.mem_cons_of_mem _ hw)]
  split
  ·rfl
  ·have:x≠n:=by rintro rfl;exact h v List.mem_cons_self
   simp[this]
theorem yT{kindOf:Str->Option NameKind}{x:Str}{v:Value}:∀{P:List Str}{vs:List Value}{i:Nat}{m:Str->Option Value},P.Nodup->P[i]?=some x->vs[i]?=some v->kindOf x=some .local ->
  bindL kindOf (P.zip vs) m x=some v
 |[],_,_,_,_,h,_,_=>by simp at h
 |_::_,[],_,_,_,_,h,_=>by simp at h
 |p::P,w::vs,0,m,nd,h1,h2,hk=>by
  simp at h1 h2;subst h1;subst h2
  show bindL kindOf ((p,w)::P.zip vs) m p=_
  unfold bindL
  rw[yS λv hv=>(List.nodup_cons.mp nd).1 (List.of_mem_zip hv).1,if_pos hk]
  simp
 |p::P,w::vs,i+1,m,nd,h1,h2,hk=>by
  show bindL kindOf ((p,w)::P.zip vs) m x=_
  unfold bindL
  exact yT (i:=i) (List.nodup_cons.mp nd).2 (by simpa using h1) (by simpa using h2) hk
theorem yV{kindOf:Str->Option NameKind}{x:Str}{v:Value}:∀{P:List Str}{vs:List Value}{i:Nat}{m:Str->Option Value},P.Nodup->P[i]?=some x->vs[i]?=some v->kindOf x≠some .local ->
  bindC kindOf (P.zip vs) m x=some v
 |[],_,_,_,_,h,_,_=>by simp at h
 |_::_,[],_,_,_,_,h,_=>by simp at h
 |p::P,w::vs,0,m,nd,h1,h2,hk=>by
  simp at h1 h2;subst h1;subst h2
  show bindC kindOf ((p,w)::P.zip vs) m p=_
  unfold bindC
  rw[yU λv hv=>(List.nodup_cons.mp nd).1 (List.of_mem_zip hv).1,if_neg hk]
  simp
 |p::P,w::vs,i+1,m,nd,h1,h2,hk=>by
  show bindC kindOf ((p,w)::P.zip vs) m x=_
  unfold bindC
  exact yV (i:=i) (List.nodup_cons.mp nd).2 (by simpa using h1) (by simpa using h2) hk
def dP(N:List Str)(vs:List V):St:=vs.map some++List.replicate (N.length-vs.length) none
def jA(CX:CXT)(P:Program)(w:World)(K:W.Frag)(mg:Str->Option Value)(base:Heap)(N:List Str)(qual:Str)(scope:Scope)(f:Addr)(cd:Value)(A:Around)(outer:List Env)(s:Shared)(H:Hp)(E:XK):Cx where
 prog:=P
 w:=w
 K:=K
 mg:=mg
 base:=base
 A:=A.deeper (envOfC qual scope s.heap.objs.size f cd)
 N:=N
 s₀:=s
 H₀:=H
 env:=envOfC qual scope s.heap.objs.size f cd
 outer:=outer
 stack:=envOfC qual scope s.heap.objs.size f cd::outer
 ex:=[]
 calm:=true
 fn:=λ_=>true
 pn:=[]
 xe:=λe s'=>wpAny (model P w) (A.deeper (envOfC qual scope s.heap.objs.size f cd)) (leaving (envOfC qual scope s.heap.objs.size f cd) e) (λ_ s''=>CX outer H s E e s'') (λe' s''=>CX outer H s E e' s'') s'
theorem zY{sc:Scope}{n:Nat}{x:Str}(h:sc.names.lookup x=some .cell):∃c,(cellsFrom n sc.names []).lookup x=some c:=by
 have q:=PySem.W.cellsFrom_some sc.names n [] (.inl h)
 exact Option.isSome_iff_exists.mp q
theorem zDB{CX:CXT}{P:Program}{w:World}{K:W.Frag}{mg:Str->Option Value}{base:Heap}{N ps:List Str}{qual:Str}{scope:Scope}{f:Addr}{cd:Value}{A:Around}{outer:List Env}{s s1:Shared}{H:Hp}{E:XK}{us:List Value}{vs:List V}
  (S:bG N ps scope) (hd:A.handled=none) (e0:rC P w K mg base A outer s H) (hl:vs.length=ps.length) (r:Vals vs us)
  (x:InCallC s s.heap.objs.size (bindL (envOfC qual scope s.heap.objs.size f cd).kindOf (ps.zip us) λ_=>none) (cellsFrom (s.heap.objs.size+1) scope.names []) (bindC (envOfC qual scope s.heap.objs.size f cd).kindOf (ps.zip us) λ_=>none) s1):
  Inv (jA CX P w K mg base N qual scope f cd A outer s H E) [] (dP N vs) H s1:=by
 have hpl:ps.length<=N.length:=by have:=congrArg List.length S.pre;rw[List.length_take]at this;omega
 obtain⟨h1,tk,rfl,hk⟩:=x.done
 have noA:∀b:Addr,b∉(jA CX P w K mg base N qual scope f cd A outer s H E).ex:=λb z=>absurd (show b∈([]:List Addr) from z) (by simp)
 refine⟨⟨e0.mod,S.kind,rfl,rfl,Nat.le_refl _,λy z c h1 h2=>?_,λy hy=>?_,λy c _ h=>?_,λ_=>hd,Around.frames_deeper e0.frames,.inr ⟨rfl,rfl⟩,λb z=>absurd z (noA b),e0.bs,e0.bsz,λb _ _=>noA b,λb z=>absurd z (noA b),e0.funs,e0.frf⟩,
  rfl,e0.bare,Un.kept hk,⟨_,x.toInCall.ns,λi y v h1 h2 h3=>?_⟩,λy c h=>⟨_,x.cell y c h⟩,e0.hok.fresh (Nat.le_refl _),λy c h=>?_,λp hp=>absurd (show p∈([]:List (Addr×Obj)) from hp) (by simp),e0.hok.kept hk,?_⟩
 ·exact name_of_addr x.apart (PySem.mem_of_lookup h1) (PySem.mem_of_lookup h2)
 ·have hy:scope.names.lookup y=some .cell\/scope.names.lookup y=some .free:=hy
  rcases hy with hy|hy
  ·exact zY hy
  ·exact absurd rfl (S.nofree _ (PySem.mem_of_lookup hy))
 ·exact Nat.le_of_lt (x.above y c (PySem.mem_of_lookup h))
 ·have hi:i<vs.length:=by
   unfold dP at h2
   by_cases hi:i<vs.length
   ·exact hi
   ·rw[List.getElem?_append_right (by simpa using hi)]at h2
    rw[List.getElem?_replicate]at h2
    split at h2<;>cases h2
  have ha:vs[i]?=some v:=by
   unfold dP at h2
   rw[List.getElem?_append_left (by simpa using hi),List.getElem?_map]at h2
   cases e:vs[i]? with
   |none=>rw[e]at h2;cases h2
   |some a=>rw[e]at h2;cases h2;rfl
  obtain⟨u,hu,rv⟩:=r.get ha
  have hp:ps[i]?=some y:=by
   rw[<-S.pre,List.getElem?_take_of_lt (by omega)];exact h1
  have ndP:ps.Nodup:=by rw[<-S.pre];exact S.nd.sublist (List.take_sublist _ _)
  refine⟨u,rv,?_⟩
  rcases S.par y (List.mem_of_getElem? hp) with k|k
  ·exact .inl ⟨k,yT ndP hp hu k⟩
  ·obtain⟨c,e⟩:=zY (n:=s.heap.objs.size+1) k
   refine .inr ⟨.inl k,c,e,?_⟩
   have q:=x.cell y c e
   rw[yV ndP hp hu (by show scope.names.lookup y≠_;rw[k];decide)]at q
   exact q
 ·exact e0.hok.fresh (Nat.le_of_lt (x.above y c (PySem.mem_of_lookup h)))
 ·unfold dP
  show _=N.length
  rw[List.length_append,List.length_map,List.length_replicate]
  omega
theorem zHw{CX:CXT}{P:Program}{w:World}{K:W.Frag}{mg:Str->Option Value}{base:Heap}{k:Nat}{f:Addr}{name qual:Str}{params:Arguments}{body:List Stmt}{scope:Scope}{dV kV doc pm cdv ct oc:Value}{an od:Option Addr}
  {osl:Array (Option Value)} {N ps:List Str} {sp:Sp} (lk:K.lookup f=some ⟨oc,od,.func (W.fnOf name qual params body scope dV kV doc pm an cdv ct),osl⟩) (hcd:W.codeIn K cdv qual=true) (S:bG N ps scope)
  (len:∀vs H Q E,sp vs H Q E->vs.length=ps.length)
  (hbody:∀(A:Around) (outer:List Env) (s:Shared) (H:Hp) (vs:List V) (Q:VK) (E:XK),Room k (A.deeper (envOfC qual scope s.heap.objs.size f cdv))->sp vs H Q E ->
   ∃t,PSs (jA CX P w K mg base N qual scope f cdv A outer s H E) body t/\t {nx:=λ_ H'=>Q .non H',rt:=Q} (dP N vs) H):
  FnOk P w K mg base CX (k+1) f (W.fnOf name qual params body scope dV kV doc pm an cdv ct) ps sp:=by
 refine⟨len,λA outer s H args us vs Q E hr e0 hb r hsp=>?_⟩
 have hl:=len _ _ _ _ hsp
 have KX:K.In s.heap:=e0.mod.kin.keeps λb o e=>(e0.bs b o e).1
 have lim:s.heap.NoLimit:=e0.mod.nolimit.keeps λb o e=>(e0.bs b o e).1
 have hkind:∀y∈ps.zip us,scope.names.lookup y.1=some .local\/(scope.names.lookup y.1=some .cell/\((cellsFrom (s.heap.objs.size+1) scope.names []).lookup y.1).isSome=true):=λ⟨n,v⟩ hy=>by
  rcases S.par n (List.of_mem_zip hy).1 with q|q
  ·exact .inl q
  ·exact .inr ⟨q,PySem.W.cellsFrom_some _ _ _ (.inl q)⟩
 refine codeAny_call_function hr.depth (KX _ _ lk) rfl S.co S.gen rfl (PySem.W.codeRec_of KX hcd) (hb _ _ _ _ ?_)
 refine wpAny_newFunctionEnv_cells S.kind hkind λenv he s1 x=>?_
 subst he
 refine⟨lim.keeps x.toInCall.keep,codeAny_func ?_⟩
 obtain⟨t,ht,hq⟩:=hbody A outer s H vs Q E (hr.deeper _) hsp
 have I:Inv (jA CX P w K mg base N qual scope f cdv A outer s H E) [] (dP N vs) H s1:=zDB S hr.hd e0 hl r x
 refine wpAny_mono (ht [] s1 (dP N vs) H _ I hq) (λfl s' hs=>?_) λe s' hs=>hs
 have fin:∀{σ':St} {H':Hp} {v:V} {u:Value},Inv (jA CX P w K mg base N qual scope f cdv A outer s H E) [] σ' H' s'->RelV v u->Q v H'->CE outer P w H s Q u s':=
  λ{σ' H' v u} J rv q=>⟨v,H',J.os,J.bare,J.base,J.hok,rv,q⟩
 cases fl with
 |ret u=>
  obtain⟨v,σ',H',J,rv,q⟩:=hs
  exact fin J rv q
 |next=>
  obtain⟨σ',H',J,q⟩:=hs
  exact fin (v:=V.non) (u:=Value.none) J rfl q
 |brk=>
  obtain⟨_,_,_,q⟩:=hs
  exact False.elim q
 |cont=>
  obtain⟨_,_,_,q⟩:=hs
  exact False.elim q
end L2
namespace L2
open PySem PySem.Spec PyProof.Rows
section
variable{X:Cx}{x:Str}{p pos:Pos}{e:Expr}{es:List Expr}{t:TA}{id T:String}{r:List V->Hp->VK->Prop}
def tCB(r:List V->Hp->VK->Prop)(t:TA):TE:=λσ H Q=>t σ H λvs H1=>r vs H1 Q
theorem kG(hc:CallR X (.builtin id) r)(hg:Gl X x)(hm:X.mg x=none)(hv:bootBuiltins x=some (.builtin id))(ha:PA X (e::es) t)(hn:x≠"__name__":=by decide)(hdb:(x==("__debug__":Str))=false:=by decide)
  (he:starEach (e::es) X.env=(false,eval e X.env)::starEach es X.env:=by rfl) (hpl:(backTo pos (starEach es X.env)).any (·.1)=false:=by rfl):PE X (.Call (.Name x p) (e::es) [] pos) (tCB r t):=by
 intro pins s σ H Q I h
 refine wpAny_Call_Name_kw (mO I hg hm hv ?_ hn hdb)
 exact PyProof.Rows.callWith_builtin1 (thn (ha pos pins s σ H _ I h) λus s1 ⟨vs,H1,I1,r1,q1⟩=>hc pins s1 σ H1 vs us Q I1 r1 q1) he hpl
theorem jG(hc:CallR X (.type T) r)(hg:Gl X x)(hm:X.mg x=none)(hv:bootBuiltins x=some (.type T))(ha:PA X (e::es) t)(hn:x≠"__name__":=by decide)(hdb:(x==("__debug__":Str))=false:=by decide)
  (he:starEach (e::es) X.env=(false,eval e X.env)::starEach es X.env:=by rfl) (hpl:(backTo pos (starEach es X.env)).any (·.1)=false:=by rfl):PE X (.Call (.Name x p) (e::es) [] pos) (tCB r t):=by
 intro pins s σ H Q I h
 refine wpAny_Call_Name_kw (mO I hg hm hv ?_ hn hdb)
 exact PyProof.Rows.callWith_type1 (thn (ha pos pins s σ H _ I h) λus s1 ⟨vs,H1,I1,r1,q1⟩=>hc pins s1 σ H1 vs us Q I1 r1 q1) he hpl
end
end L2
namespace HT
open PySem PyProof.Rows
section
variable{prog:Program}{w:World}{A:Around}{E:Value->Shared->Prop}{s:Shared}
theorem cat_tup{t b:Addr}{vs ws:List Value}{Q:Value->Shared->Prop}(ht:IsTup s.heap t vs.toArray)(hb:IsTup s.heap b ws.toArray)(hv:vs≠[])
  (h1:ws=[]->Q (.ref t) s) (h2:ws≠[]->Q (.ref s.heap.objs.size) {s with heap:=s.heap.push {cls:=.type "tuple",data:=.seq (vs++ws).toArray}})
  (hsz:vs.length+ws.length<=sizeLine):wpAny (model prog w) A (binaryOp .Add (.ref t) (.ref b)) Q E s:=by
 obtain⟨⟨cls,dd,data,sl⟩,ho,hc,n,hd⟩:=id ht
 obtain⟨⟨cls2,dd2,data2,sl2⟩,ho2,hc2,n2,hd2⟩:=id hb
 simp only at hc hd hc2 hd2
 subst hc hd hc2 hd2
 have e:vs.toArray++ws.toArray=(vs++ws).toArray:=by simp
 by_cases hw:ws=[]
 ·exact concat_meets ⟨_,ho,rfl⟩ ⟨_,ho2,rfl⟩ noFill_tuple_add seq_tuple_add PySem.F.slot_tuple_add PySem.F.entry_tuple_add (PySem.F.args_tuple_add_2 _ _)
   (tuple_addW1 t b vs.toArray ws.toArray n n2 dd dd2 sl sl2 (by simpa using hv) (by simp[hw])) ⟨ho,ho2,h1 hw⟩
 ·refine concat_meets ⟨_,ho,rfl⟩ ⟨_,ho2,rfl⟩ noFill_tuple_add seq_tuple_add PySem.F.slot_tuple_add PySem.F.entry_tuple_add (PySem.F.args_tuple_add_2 _ _)
   (tuple_addW2 t b vs.toArray ws.toArray n n2 dd dd2 sl sl2 (by simpa using hv) (by simpa using hw) (by rw[List.size_toArray,List.size_toArray];exact hsz)) ⟨ho,ho2,?_⟩
  rw[e]
  exact h2 hw
def sIx(n d:Nat):Option Int->Nat
 |none=>d
 |some v=>if v<0 then(v+(n:Int)).toNat else min v.toNat n
theorem sIx_none(n d:Nat):sIx n d none=d:=rfl
theorem sIx_nat(n d k:Nat):sIx n d (some (k:Int))=min k n:=by
 show(if (k:Int)<0 then((k:Int)+(n:Int)).toNat else min (k:Int).toNat n)=min k n
 rw[if_neg (by omega),Int.toNat_natCast]
theorem zFT(n d:Nat)(hd:d<=n)(o:Option Int):sIx n d o<=n:=by
 cases o with
 |none=>exact hd
 |some v=>
  show(if v<0 then(v+(n:Int)).toNat else min v.toNat n)<=n
  by_cases hv:v<0
  ·rw[if_pos hv];omega
  ·rw[if_neg hv];exact Nat.min_le_right _ _
theorem zAN(v:Int)(n d:Nat):(if v<0 then max (v+(n:Int)) 0 else min v (n:Int))=((sIx n d (some v):Nat):Int):=by
 show(if v<0 then max (v+(n:Int)) 0 else min v (n:Int))=(((if v<0 then(v+(n:Int)).toNat else min v.toNat n):Nat):Int)
 by_cases hv:v<0
 ·simp only[if_pos hv];omega
 ·simp only[if_neg hv];omega
theorem zC4(lo hi:Option Int)(n:Nat):Builtin.Slice.sliceAdjust lo hi 1 (n:Int)=(((sIx n 0 lo:Nat):Int),((sIx n n hi:Nat):Int)):=by
 have h1:¬ ((1:Int)<0):=by omega
 unfold Builtin.Slice.sliceAdjust
 simp only[h1,if_false]
 refine Prod.ext ?_ ?_
 ·cases lo with
  |none=>rfl
  |some v=>exact zAN v n 0
 ·cases hi with
  |none=>rfl
  |some v=>exact zAN v n n
theorem zCM(i j:Nat):Builtin.Slice.slicePlaces (i:Int) (j:Int) 1=j-i:=by
 unfold Builtin.Slice.slicePlaces
 have h1:(1:Int) > 0:=by omega
 simp only[h1,if_true,Int.ediv_one]
 split<;>omega
theorem xC{v:Value}{o:Option Int}{Q:Option Int->Shared->Prop}(p:IsPart v o)(h:Q o s):wpAny (model prog w) A (Builtin.Slice.slicePartIndex v) Q E s:=by
 cases p with
 |none=>exact slicePart_none h
 |int i t=>exact slicePart_int h
theorem sliceApplied_gen{sl:Addr}{vl vu:Value}{lo hi:Option Int}{n:Nat}{Q:Int×Int×Nat->Shared->Prop}(hs:s.heap.IsSliceOf sl vl vu .none)(pl:IsPart vl lo)(pu:IsPart vu hi)
  (h:Q (((sIx n 0 lo:Nat):Int),1,sIx n n hi-sIx n 0 lo) s):wpAny (model prog w) A (Builtin.Slice.sliceApplied (.ref sl) (pure (n:Int))) Q E s:=by
 obtain⟨os,hos,hcs,hds⟩:=id hs
 unfold Builtin.Slice.sliceApplied Builtin.Slice.sliceFields
 refine wpAny_bind (wpAny_bind (wpAny_field hos hds (x:=vl) rfl (wpAny_bind (wpAny_field hos hds (x:=vu) rfl (wpAny_bind (wpAny_field hos hds (x:=.none) rfl (wpAny_pure ?_)))))))
 refine wpAny_bind (slicePart_none ?_)
 show wpAny _ _ (if ((1:Int)==0)=true then _ else _) _ _ s
 rw[if_neg (by decide)]
 refine wpAny_bind (xC pl (wpAny_bind (xC pu (wpAny_bind (wpAny_pure ?_)))))
 show wpAny _ _ (match Builtin.Slice.sliceAdjust lo hi 1 (n:Int) with|(lo,hi)=>pure (lo,(1:Int),Builtin.Slice.slicePlaces lo hi 1)) _ _ s
 rw[zC4 lo hi n]
 show wpAny _ _ (pure (((sIx n 0 lo:Nat):Int),(1:Int),Builtin.Slice.slicePlaces ((sIx n 0 lo:Nat):Int) ((sIx n n hi:Nat):Int) 1)) _ _ s
 rw[zCM]
 exact wpAny_pure h
theorem zD8(xs:Array Value)(i k:Nat):((List.range k).filterMap λ(m:Nat)=>xs[((i:Int)+(m:Int)*1).toNat]?).toArray=((xs.toList.drop i).take k).toArray:=by
 have e:(λ(m:Nat)=>xs[((i:Int)+(m:Int)*1).toNat]?)=λm=>xs[i+m]?:=by
  funext m
  have:((i:Int)+(m:Int)*1).toNat=i+m:=by omega
  rw[this]
 rw[e]
 have:=pick_run xs i k
 rw[List.filterMap_map]at this
 have e2:((λx=>xs[x]?)∘λx=>i+x)=λm=>xs[i+m]?:=rfl
 rw[e2]at this
 rw[this]
theorem getItem_tuple_cut{t sl:Addr}{items:Array Value}{vl vu:Value}{lo hi:Option Int}{Q:Value->Shared->Prop}(ht:IsTup s.heap t items)(hs:s.heap.IsSliceOf sl vl vu .none)(pl:IsPart vl lo)(pu:IsPart vu hi)
  (hw:¬ (sIx items.size 0 lo=0/\sIx items.size items.size hi=items.size))
  (h:Q (.ref s.heap.objs.size) {s with heap:=s.heap.push {cls:=.type "tuple",data:=.seq ((items.toList.drop (sIx items.size 0 lo)).take (sIx items.size items.size hi-sIx items.size 0 lo)).toArray}})
  (hsz:items.size<=sizeLine):wpAny (model prog w) A (getItem (.ref t) (.ref sl)) Q E s:=by
 have htake:sizeOk (.seq ((items.toList.drop (sIx items.size 0 lo)).take (sIx items.size items.size hi-sIx items.size 0 lo)).toArray):=by
  show((items.toList.drop (sIx items.size 0 lo)).take (sIx items.size items.size hi-sIx items.size 0 lo)).toArray.size<=sizeLine
  rw[List.size_toArray,List.length_take,List.length_drop,Array.length_toList]
  omega
 have hj:sIx items.size items.size hi<=items.size:=zFT _ _ (Nat.le_refl _) hi
 obtain⟨os,hos,hcs,hds⟩:=id hs
 have hTs:s.TypeIs (.ref sl) "slice":=⟨os,hos,hcs⟩
 unfold getItem
 try with_reducible refine wpAny_holding ?_
 first|refine wpAny_bind (wpAny_pure ?_)|skip
 refine wpAny_bind (wpAny_sequenceKey ht.typeIs (by decide) ?_)
 refine wpAny_bind (wpAny_callSpecial?_slot (name:=Str.ofString "__getitem__") ht.typeIs PyProof.Rows.slot_tuple_getitem
  (wpAny_call_entry PyProof.Rows.slot_tuple_getitem ht.typeIs entry_tuple_getitem ?_ (args_tuple_getitem _ _)))
 show wpAny _ _ (Builtin.Tuple.tupleItemsOf (.ref t) >>= _) _ _ s
 refine wpAny_bind (tupleItemsOf_ ht ?_)
 refine wpAny_bind (wpAny_typeOf hTs ?_)
 rw[if_pos (by decide)]
 refine wpAny_bind (sliceApplied_gen hs pl pu ?_)
 have hno:¬ ((((sIx items.size 0 lo:Nat):Int)==0&&(1:Int)==1&&(sIx items.size items.size hi-sIx items.size 0 lo)==items.size)=true):=by
  intro q
  rw[Bool.and_eq_true,Bool.and_eq_true]at q
  have q1:((sIx items.size 0 lo:Nat):Int)=0:=eq_of_beq q.1.1
  have q2:sIx items.size items.size hi-sIx items.size 0 lo=items.size:=eq_of_beq q.2
  exact hw ⟨by omega,by omega⟩
 show wpAny _ _ (if (((sIx items.size 0 lo:Nat):Int)==0&&(1:Int)==1&&(sIx items.size items.size hi-sIx items.size 0 lo)==items.size)=true then _ else _) _ _ s
 rw[if_neg hno,zD8]
 first
  |exact wpAny_bind (m:=Builtin.Tuple.tupleExact _) (wpAny_newObj_type (wpAny_pure ⟨_,rfl,wpAny_pure h⟩) htake)
  |exact wpAny_bind (m:=Builtin.Tuple.tupleExact _) (wpAny_newObj_type (wpAny_bind (wpAny_pure (wpAny_pure ⟨_,rfl,wpAny_pure h⟩))) htake)
  |exact wpAny_bind (wpAny_bind (m:=Builtin.Tuple.tupleExact _) (wpAny_newObj_type (wpAny_pure (wpAny_pure ⟨_,rfl,wpAny_pure h⟩)) htake))
  |exact wpAny_bind (wpAny_bind (m:=Builtin.Tuple.tupleExact _) (wpAny_newObj_type (wpAny_pure ⟨_,rfl,wpAny_pure h⟩) htake))
end
end HT
namespace L2
open PySem PySem.Spec PyProof.Rows
abbrev TO:=St->Hp->(Option Int->Hp->Prop)->Prop
def PO(X:Cx)(e:Option Expr)(t:TO):Prop:=
 ∀(pins:List (Addr×Obj)) (s:Shared) (σ:St) (H:Hp) (Q:Option Int->Hp->Prop),Inv X pins σ H s->t σ H Q ->
  wpAny (model X.prog X.w) X.A (evalPart e X.env) (λu s'=>∃o H',Inv X pins σ H' s'/\IsPart u o/\Q o H') X.xe s
def zEM:TO:=λ_ H Q=>Q none H
def zGX(t:TE):TO:=λσ H Q=>t σ H λx H1=>∃i,x=.int i/\Q (some i) H1
theorem nZ{ns:List Int}:∀{us:List Value},Vals (ns.map V.int) us->IntsAre us ns:=by
 induction ns with
 |nil=>intro us r;rw[List.map_nil]at r;cases r;exact .nil
 |cons n ns ih=>
  intro us r
  rw[List.map_cons]at r
  cases r with
  |cons r1 r2=>
   obtain⟨t,e⟩:=r1
   subst e
   exact .cons n t (ih r2)
section
variable{X:Cx}{e:Expr}{te:TE}{lo hi:Option Expr}{tl th:TO}{pos p2:Pos}
theorem zAu:PO X none zEM:=by
 intro pins s σ H Q I h
 rw[evalPart_none]
 exact wpAny_pure ⟨none,H,I,.none,h⟩
theorem zAt(h:PE X e te):PO X (some e) (zGX te):=by
 intro pins s σ H Q I hw
 rw[evalPart_some]
 refine thn (h pins s σ H _ I hw) λu s1 ⟨x,H1,I1,r1,q1⟩=>?_
 obtain⟨i,rfl,q⟩:=q1
 obtain⟨t,rfl⟩:=r1
 exact⟨some i,H1,I1,.int i t,q⟩
def SlR(X:Cx)(r:V->Option Int->Option Int->Hp->VK->Prop):Prop:=
 ∀(pins:List (Addr×Obj)) (s:Shared) (σ:St) (H:Hp) (x:V) (v vl vu:Value) (lo hi:Option Int) (sl:Addr) (Q:VK),Inv X pins σ H s->RelV x v->s.heap.IsSliceOf sl vl vu .none->IsPart vl lo->IsPart vu hi->r x lo hi H Q ->
  ∃T id,typeLookup (.type T) "__getitem__"=pure (some (.builtin id))/\s.TypeIs v T/\wpAny (model X.prog X.w) X.A (getItem v (.ref sl)) (EP X pins σ Q) X.xe s
theorem SlR.or{r r':V->Option Int->Option Int->Hp->VK->Prop}(h:SlR X r)(h':SlR X r'):SlR X (λx lo hi H Q=>r x lo hi H Q\/r' x lo hi H Q):=by
 intro pins s σ H x v vl vu lo hi sl Q I rx hs pl pu q
 rcases q with q|q
 ·exact h pins s σ H x v vl vu lo hi sl Q I rx hs pl pu q
 ·exact h' pins s σ H x v vl vu lo hi sl Q I rx hs pl pu q
def tSl(r:V->Option Int->Option Int->Hp->VK->Prop)(te:TE)(tl th:TO):TE:=λσ H Q=>te σ H λx H1=>tl σ H1 λl H2=>th σ H2 λu H3=>r x l u H3 Q
theorem zK{r:V->Option Int->Option Int->Hp->VK->Prop}(hr:SlR X r)(he:PE X e te)(hl:PO X lo tl)(hu:PO X hi th):PE X (.Subscript e (.Slice lo hi none p2) pos) (tSl r te tl th):=by
 intro pins s σ H Q I h
 refine Subscript_ (thn (he pins s σ H _ I h) λv s1 ⟨x,H1,I1,r1,q1⟩=>?_)
 refine wpAny_Slice (thn (hl pins s1 σ H1 _ I1 q1) λvl s2 ⟨l,H2,I2,pl,q2⟩=>thn (hu pins s2 σ H2 _ I2 q2) λvu s3 ⟨u,H3,I3,pu,q3⟩=>?_)
 rw[evalPart_none]
 refine wpAny_pure ?_
 have I4:Inv X pins σ H3 {s3 with heap:=s3.heap.push {cls:=.type "slice",data:=.fields #[vl,vu,.none]}}:=I3.kept (t':=s3.toks) λb ob q=>Heap.get?_push_of_some _ q
 obtain⟨T,id,hT,ht,hg⟩:=hr pins {s3 with heap:=s3.heap.push {cls:=.type "slice",data:=.fields #[vl,vu,.none]}} σ H3 x v vl vu l u s3.heap.objs.size Q I4 r1 (Heap.IsSliceOf.new ..) pl pu q3
 show wpAny (model X.prog X.w) X.A (subscriptTail e (.Slice lo hi none p2) v (.ref s3.heap.objs.size)) (EP X pins σ Q) X.xe {s3 with heap:=s3.heap.push {cls:=.type "slice",data:=.fields #[vl,vu,.none]}}
 exact tail_any (ops:=[.ref s3.heap.objs.size,v]) ht hT hg (by with_unfolding_all rfl)
def fN(xs:List V)(lo hi:Option Int):List V:=(xs.drop (HT.sIx xs.length 0 lo)).take (HT.sIx xs.length xs.length hi-HT.sIx xs.length 0 lo)
theorem xB(xs:List V)(lo hi:Option Int):(fN xs lo hi).length<=xs.length:=by
 unfold fN
 rw[List.length_take,List.length_drop]
 omega
def zHS(K:W.Frag):V->Option Int->Option Int->Hp->VK->Prop:=λx lo hi H Q=>∃a xs,x=.ref a/\SqT K H a xs /\
 ¬ (HT.sIx xs.length 0 lo=0/\HT.sIx xs.length xs.length hi=xs.length)/\∀p,H p=none->Q (.ref p) (upd H p (.tup (fN xs lo hi)))
theorem zFL:SlR X (zHS X.K):=by
 intro pins s σ H x v vl vu lo hi sl Q I rx hs pl pu h
 obtain⟨a,xs,rfl,hx,hw,q⟩:=h
 cases rx
 obtain⟨its,r,ht,hz⟩:=I.tuple hx
 have hlen:its.toArray.size=xs.length:=by rw[List.size_toArray];exact r.length.symm
 refine⟨"tuple",_,PyProof.Rows.slot_tuple_getitem.lookup,ht.typeIs,?_⟩
 refine HT.getItem_tuple_cut ht hs pl pu (by rw[hlen];exact hw) ?_ (by rw[hlen];exact hz)
 rw[hlen]
 refine⟨.ref s.heap.objs.size,_,I.laid (t':=s.toks) (o:=.tup (fN xs lo hi)) (λb ob q=>Heap.get?_push_of_some _ q) (Nat.le_refl _) ?_,rfl,q _ (I.hok.fresh (Nat.le_refl _))⟩
 exact⟨Nat.le_trans (xB xs lo hi) hz,_,(r.drop (HT.sIx xs.length 0 lo)).take (HT.sIx xs.length xs.length hi-HT.sIx xs.length 0 lo),IsTup.new _ _⟩
def zHb(K:W.Frag):R2:=λx y H Q=>∃a b xs ys,x=.ref a/\y=.ref b/\SqT K H a xs/\SqT K H b ys/\xs≠[]/\xs.length+ys.length<=sizeLine /\
 (ys=[]->Q (.ref a) H)/\(ys≠[]->∀p,H p=none->Q (.ref p) (upd H p (.tup (xs++ys))))
theorem Vals.nil_iff{xs:List V}{us:List Value}(r:Vals xs us):us=[]↔xs=[]:=by
 cases r with
 |nil=>simp
 |cons _ _=>simp
theorem zFc:OpR X (binaryOp .Add) (zHb X.K):=by
 intro pins s σ H x y v u Q I rx ry h
 obtain⟨a,b,xs,ys,rfl,rfl,ha,hb,hx,hz,q1,q2⟩:=h
 cases rx
 cases ry
 obtain⟨its,r1,p1,_⟩:=I.tuple ha
 obtain⟨its2,r2,p2,_⟩:=I.tuple hb
 refine HT.cat_tup p1 p2 (λz=>hx (r1.nil_iff.mp z)) (λz=>⟨.ref a,H,I,rfl,q1 (r2.nil_iff.mp z)⟩) (λz=>?_) (by rw[<-r1.length,<-r2.length];exact hz)
 refine⟨.ref s.heap.objs.size,_,I.laid (t':=s.toks) (o:=.tup (xs++ys)) (λb ob q=>Heap.get?_push_of_some _ q) (Nat.le_refl _) ?_,rfl,q2 (λw=>z (r2.nil_iff.mpr w)) _ (I.hok.fresh (Nat.le_refl _))⟩
 exact⟨by rw[List.length_append];exact hz,_,r1.append r2,IsTup.new _ _⟩
end
end L2
namespace L2
open PySem PySem.Spec PyProof.Rows
def ixN(n:Nat)(i:Int):Option Nat:=if 0<=i then(if i<n then some i.toNat else none) else if -(n:Int)<=i then some (i+n).toNat else none
def atI{α:Type}(xs:List α)(i:Int):Option α:=(ixN xs.length i).bind λj=>xs[j]?
theorem zAI{n:Nat}{i:Int}{j:Nat}(h:ixN n i=some j):seqIndex? i n=some j/\j<n /\ -(n:Int)<=i/\i<n:=by
 unfold ixN at h
 by_cases h0:0<=i
 ·rw[if_pos h0]at h
  by_cases h1:i<n
  ·rw[if_pos h1]at h
   have e:i.toNat=j:=Option.some.inj h
   exact⟨by rw[seqIndex_of h0 h1,e],by omega,by omega,h1⟩
  ·rw[if_neg h1]at h;cases h
 ·rw[if_neg h0]at h
  by_cases h1:-(n:Int)<=i
  ·rw[if_pos h1]at h
   have e:(i+n).toNat=j:=Option.some.inj h
   exact⟨by rw[seqIndex_neg (by omega) h1,e],by omega,h1,by omega⟩
  ·rw[if_neg h1]at h;cases h
theorem tT{α:Type}{xs:List α}{i:Int}{v:α}(h:atI xs i=some v):∃j,seqIndex? i xs.length=some j/\xs[j]?=some v/\j<xs.length /\ -(xs.length:Int)<=i/\i<xs.length:=by
 unfold atI at h
 cases e:ixN xs.length i with
 |none=>rw[e]at h;cases h
 |some j=>
  rw[e]at h
  obtain⟨h1,h2,h3,h4⟩:=zAI e
  exact⟨j,h1,h,h2,h3,h4⟩
theorem bC{α:Type}{xs:List α}{j:Nat}{v:α}(h:xs[j]?=some v):atI xs (j:Int)=some v:=by
 have hj:j<xs.length:=(List.getElem?_eq_some_iff.mp h).1
 have e:ixN xs.length (j:Int)=some j:=by
  unfold ixN
  rw[if_pos (by omega),if_pos (by omega)];simp
 unfold atI;rw[e];exact h
def pH(b:Expr):Prop:=∀o i,subscripted b false o i=operate [o,i] (getItem o i)
def IxR(X:Cx)(r:R2):Prop:=
 ∀(value slice:Expr) (pins:List (Addr×Obj)) (s:Shared) (σ:St) (H:Hp) (x y:V) (v u:Value) (Q:VK),Inv X pins σ H s->RelV x v->RelV y u->r x y H Q ->
  subscripted slice false v u=operate [v,u] (getItem v u)->wpAny (model X.prog X.w) X.A (subscriptTail value slice v u) (EP X pins σ Q) X.xe s
def MtR(X:Cx)(id:String)(r:V->List V->Hp->VK->Prop):Prop:=
 ∀(pins:List (Addr×Obj)) (s:Shared) (σ:St) (H:Hp) (x:V) (xs:List V) (v:Value) (us:List Value) (Q:VK),Inv X pins σ H s->RelV x v->Vals xs us->r x xs H Q ->
  wpAny (model X.prog X.w) X.A (call (.builtin id) (v::us)) (EP X pins σ Q) X.xe s
section
variable{X:Cx}{a b:Expr}{ta tb:TE}{pos:Pos}
theorem IxR.or{r r':R2}(h:IxR X r)(h':IxR X r'):IxR X (λx y H Q=>r x y H Q\/r' x y H Q):=by
 intro value slice pins s σ H x y v u Q I rx ry q hs
 rcases q with q|q
 ·exact h value slice pins s σ H x y v u Q I rx ry q hs
 ·exact h' value slice pins s σ H x y v u Q I rx ry q hs
theorem gJ{r:R2}(hr:IxR X r)(ha:PE X a ta)(hb:PE X b tb)(hs:pH b):PE X (.Subscript a b pos) (tOp r ta tb):=by
 intro pins s σ H Q I h
 exact Subscript_ (wD ha hb I h λv u s2 x y H2 I2 rx ry q=>hr a b pins s2 σ H2 x y v u Q I2 rx ry q (hs _ _))
def zBM(K:W.Frag):R2:=λx y H Q=>∃p xs i v,x=.ref p/\y=.int i/\SqL K H p xs/\atI xs i=some v/\Q v H
def zBK(K:W.Frag):R2:=λx y H Q=>∃p xs i v,x=.ref p/\y=.int i/\SqT K H p xs/\atI xs i=some v/\Q v H
def zBL:R2:=λx y H Q=>∃z i c,x=.str z/\y=.int i/\z.length<=sizeLine/\atI z.cps.toList i=some c/\Q (.str ⟨#[c]⟩) H
theorem ix_list:IxR X (zBM X.K):=by
 intro value slice pins s σ H x y v u Q I rx ry h hs
 obtain⟨p,xs,i,z,rfl,rfl,hq,he,q⟩:=h
 cases rx
 obtain⟨t,rfl⟩:=ry
 obtain⟨its,r,pl,hz⟩:=I.list hq
 obtain⟨j,h1,h2,h3,h4,h5⟩:=tT he
 obtain⟨w,ew,rw'⟩:=r.get h2
 have hl:=r.length
 have hn:=kS
 have fin:EP X pins σ Q w s:=⟨z,H,I,rw',q⟩
 by_cases h0:0<=i
 ·have hj:i.toNat=j:=by
   rw[seqIndex_of h0 h5]at h1
   exact Option.some.inj h1
  exact item_listR pl.isList h0 (by omega) (by rw[hj];simpa using ew) fin hs
 ·have hj:(i+(its.toArray.size:Int)).toNat=j:=by
   rw[seqIndex_neg (by omega) h4]at h1
   rw[List.size_toArray,<-hl]
   exact Option.some.inj h1
  exact subscriptTail_builtinR (x:=w) pl.isList.typeIs slot_list_getitem.lookup
   (wpAny_getItem_list_neg (Q:=λr s'=>r=w/\EP X pins σ Q r s') pl.isList (by omega) (by rw[List.size_toArray]<;>omega) (by omega) (by rw[hj];simpa using ew) ⟨rfl,fin⟩) hs
theorem ix_tup:IxR X (zBK X.K):=by
 intro value slice pins s σ H x y v u Q I rx ry h hs
 obtain⟨p,xs,i,z,rfl,rfl,hq,he,q⟩:=h
 cases rx
 obtain⟨t,rfl⟩:=ry
 obtain⟨its,r,pl,hz⟩:=I.tuple hq
 obtain⟨j,h1,h2,h3,h4,h5⟩:=tT he
 obtain⟨w,ew,rw'⟩:=r.get h2
 have hl:=r.length
 have hn:=kS
 have fin:EP X pins σ Q w s:=⟨z,H,I,rw',q⟩
 exact subscriptTail_builtinR (x:=w) pl.typeIs slot_tuple_getitem.lookup
  (getItem_tuple (j:=j) (Q:=λr s'=>r=w/\EP X pins σ Q r s') pl (by omega) (by omega) (by rw[List.size_toArray,<-hl];exact h1) (by simpa using ew) ⟨rfl,fin⟩) hs
theorem zGC:IxR X zBL:=by
 intro value slice pins s σ H x y v u Q I rx ry h hs
 obtain⟨z,i,c,rfl,rfl,hz,he,q⟩:=h
 obtain⟨t,rfl⟩:=rx
 obtain⟨t',rfl⟩:=ry
 obtain⟨j,h1,h2,h3,h4,h5⟩:=tT he
 have hl:z.cps.toList.length=z.length:=by simp[Str.length]
 rw[hl]at h1 h4 h5
 have hn:=kS
 exact tail_any (typeIs_str s z t) slot_str_getitem.lookup (getItem_str (c:=c) (by
  have e1:decide (i < -(2 ^ 63:Int))=false:=decide_eq_false (by omega)
  have e2:decide (i>=2 ^ 63)=false:=decide_eq_false (by omega)
  rw[e1,e2,Bool.or_false]) (by rw[h1];simpa using h2) ⟨.str ⟨#[c]⟩,H,I.tok _,⟨_,rfl⟩,q⟩) hs
def rIx(K:W.Frag):R2:=λx y H Q=>zBM K x y H Q\/zBK K x y H Q\/zBL x y H Q
theorem ix_seq:IxR X (rIx X.K):=ix_list.or (ix_tup.or zGC)
theorem zCS(its:List Value)(n j:Nat)(u:Value):Obj.mapSeq (·.setIfInBounds j u) {cls:=.type "list",data:=.seq its.toArray n}={cls:=.type "list",data:=.seq (its.set j u).toArray n}:=by
 simp[Obj.mapSeq]
theorem Inv.lst{pins:List (Addr×Obj)}{σ:St}{H:Hp}{s:Shared}{p:Addr}{xs:List V}(I:Inv X pins σ H s)(h:H p=some (.lst xs)):
  ∃(its:List Value) (n:Nat),Vals xs its/\s.heap.get? p=some {cls:=.type "list",data:=.seq its.toArray n}/\xs.length<=sizeLine:=by
 obtain⟨z,its,n,r,e⟩:=I.hok p _ h
 exact⟨its,n,r,e,z⟩
theorem Inv.lstUpd{pins:List (Addr×Obj)}{σ:St}{H:Hp}{s:Shared}{p:Addr}{xs ys:List V}{its its':List Value}{n n':Nat}{f:Obj->Obj}(I:Inv X pins σ H s)(h:H p=some (.lst xs))
  (ho:s.heap.get? p=some {cls:=.type "list",data:=.seq its.toArray n}) (hf:f {cls:=.type "list",data:=.seq its.toArray n}={cls:=.type "list",data:=.seq its'.toArray n'}) (r:Vals ys its') (hz:ys.length<=sizeLine) (t:Nat):
  Inv X pins σ (upd H p (.lst ys)) {s with heap:=s.heap.update p f,toks:=t}:=by
 have e:(s.heap.update p f).get? p=some {cls:=.type "list",data:=.seq its'.toArray n'}:=by
  rw[Heap.get?_update_self f ho (by rw[hf]<;>rfl),hf]
 refine I.write (x:=p) (e:=p) (by rw[h];trivial) (.inl rfl) (λb u hb q=>(Heap.get?_update_other _ _ (Ne.symm hb)).trans q) ⟨_,e⟩ ?_
 exact⟨hz,its',n',r,e⟩
def zG4:V->V->V->Hp->(Hp->Prop)->Prop:=λo i v H Q=>∃p xs k j,o=.ref p/\i=.int k/\H p=some (.lst xs)/\ixN xs.length k=some j/\Q (upd H p (.lst (xs.set j v)))
theorem zG:zB2 X zG4:=by
 intro pins s σ H o i v ov iv u Q I ro ri rv h
 obtain⟨p,xs,k,j,rfl,rfl,hp,hj,q⟩:=h
 cases ro
 obtain⟨t,rfl⟩:=ri
 obtain⟨its,n,r,ho,hz⟩:=I.lst hp
 obtain⟨h1,h2,h3,h4⟩:=zAI hj
 have hl:=r.length
 have hn:=kS
 have I':Inv X pins σ (upd H p (.lst (xs.set j v))) {s with heap:=s.heap.update p (Obj.mapSeq (·.setIfInBounds j u))}:=
  I.lstUpd hp ho (zCS its n j u) (r.set rv j) (by rw[List.length_set];exact hz) s.toks
 by_cases h0:0<=k
 ·have hk:k.toNat=j:=by
   rw[seqIndex_of h0 h4]at h1
   exact Option.some.inj h1
  exact PySem.W.ki_setAt ho h0 (by omega) (by rw[List.size_toArray,<-hl];exact h4) (by rw[hk];exact⟨_,I',q⟩)
 ·have hk:(k+(its.toArray.size:Int)).toNat=j:=by
   rw[seqIndex_neg (by omega) h3]at h1
   rw[List.size_toArray,<-hl]
   exact Option.some.inj h1
  exact PySem.W.ki_setBack ho (by omega) (by rw[List.size_toArray,<-hl];exact h3) (by omega) (by rw[hk];exact⟨_,I',q⟩)
theorem zCl(lo hi:Option Int)(n:Nat):(sliceBounds lo hi none n).1=((HT.sIx n 0 lo:Nat):Int)/\(sliceBounds lo hi none n).2.1=((HT.sIx n n hi:Nat):Int)/\(sliceBounds lo hi none n).2.2=1:=by
 refine⟨?_,?_,rfl⟩
 ·cases lo with
  |none=>simp[sliceBounds,HT.sIx]
  |some i=>
   simp only[sliceBounds,HT.sIx,Option.getD_none,show(1:Int) > 0 by decide,if_true]
   by_cases h:i<0
   ·simp only[h,if_true]<;>omega
   ·simp only[h,if_false]<;>omega
 ·cases hi with
  |none=>simp[sliceBounds,HT.sIx]
  |some i=>
   simp only[sliceBounds,HT.sIx,Option.getD_none,show(1:Int) > 0 by decide,if_true]
   by_cases h:i<0
   ·simp only[h,if_true]<;>omega
   ·simp only[h,if_false]<;>omega
theorem zCc(its:List Value)(lo hi:Option Int):slicePick its.toArray lo hi none=((its.drop (HT.sIx its.length 0 lo)).take (HT.sIx its.length its.length hi-HT.sIx its.length 0 lo)).toArray:=by
 obtain⟨h1,h2,h3⟩:=zCl lo hi its.toArray.size
 unfold slicePick
 rw[h1,h2,h3]
 simp only[sliceRange_one,pick_run,List.size_toArray]<;>rfl
def zHU(K:W.Frag):V->Option Int->Option Int->Hp->VK->Prop:=λx lo hi H Q=>∃a xs,x=.ref a/\SqL K H a xs/\∀p,H p=none->Q (.ref p) (upd H p (.lst (fN xs lo hi)))
theorem sl_list:SlR X (zHU X.K):=by
 intro pins s σ H x v vl vu lo hi sl Q I rx hs pl pu h
 obtain⟨a,xs,rfl,hx,q⟩:=h
 cases rx
 obtain⟨its,r,ht,hz⟩:=I.list hx
 have hlen:=r.length
 refine⟨"list",_,slot_list_getitem.lookup,ht.isList.typeIs,?_⟩
 refine wpAny_getItem_list_slice ht.isList hs pl pu .none (by simp) ?_ (by rw[List.size_toArray]<;>omega)
 rw[zCc,<-hlen]
 refine⟨.ref s.heap.objs.size,_,I.laid (t':=s.toks) (o:=.lst (fN xs lo hi)) (λb ob q=>Heap.get?_push_of_some _ q) (Nat.le_refl _) ?_,rfl,q _ (I.hok.fresh (Nat.le_refl _))⟩
 exact⟨Nat.le_trans (xB xs lo hi) hz,_,0,(r.drop (HT.sIx xs.length 0 lo)).take (HT.sIx xs.length xs.length hi-HT.sIx xs.length 0 lo),Heap.get?_push_size _ rfl⟩
def dE:V->Bool
 |.non=>true
 |.bl _=>true
 |.int _=>true
 |.str _=>true
 |_=>false
def eqV:V->V->Bool
 |.non,.non=>true
 |.bl a,.bl b=>a==b
 |.bl a,.int b=>(if a then 1 else 0)==b
 |.int a,.bl b=>a==(if b then 1 else 0)
 |.int a,.int b=>a==b
 |.str a,.str b=>a==b
 |_,_=>false
theorem zBj{A:Around}{s:Shared}{y x:V}{u v:Value}(ry:RelV y u)(rx:RelV x v)(fy:dE y=true)(fx:dE x=true):SeqAt.EqAt A s u v (eqV y x):=by
 cases y with
 |non=>
  cases ry
  cases x with
  |non=>cases rx;exact SeqAt.EqAt.same _
  |bl b=>cases rx;exact SeqAt.EqAt.none_bool b
  |int b=>obtain⟨t,rfl⟩:=rx;exact SeqAt.EqAt.none_int b t
  |str b=>obtain⟨t,rfl⟩:=rx;exact SeqAt.EqAt.none_str b t
  |_=>exact absurd (show false=true from fx) Bool.false_ne_true
 |bl a=>
  cases ry
  cases x with
  |non=>cases rx;exact SeqAt.EqAt.bool_none a
  |bl b=>cases rx;exact SeqAt.EqAt.bool_bool a b
  |int b=>obtain⟨t,rfl⟩:=rx;exact SeqAt.EqAt.bool_int a b t
  |str b=>obtain⟨t,rfl⟩:=rx;exact SeqAt.EqAt.bool_str a b t
  |_=>exact absurd (show false=true from fx) Bool.false_ne_true
 |int a=>
  obtain⟨t',rfl⟩:=ry
  cases x with
  |non=>cases rx;exact SeqAt.EqAt.int_none a t'
  |bl b=>cases rx;exact SeqAt.EqAt.int_bool a t' b
  |int b=>obtain⟨t,rfl⟩:=rx;exact SeqAt.EqAt.int_int a t' b t
  |str b=>obtain⟨t,rfl⟩:=rx;exact SeqAt.EqAt.int_str a t' b t
  |_=>exact absurd (show false=true from fx) Bool.false_ne_true
 |str a=>
  obtain⟨t',rfl⟩:=ry
  cases x with
  |non=>cases rx;exact SeqAt.EqAt.str_none a t'
  |bl b=>cases rx;exact SeqAt.EqAt.str_bool a t' b
  |int b=>obtain⟨t,rfl⟩:=rx;exact SeqAt.EqAt.str_int a t' b t
  |str b=>obtain⟨t,rfl⟩:=rx;exact SeqAt.EqAt.str_str a t' b t
  |_=>exact absurd (show false=true from fx) Bool.false_ne_true
 |_=>exact absurd (show false=true from fy) Bool.false_ne_true
theorem op_notIn_str:OpR X (compareOp .NotIn) (λx y H Q=>∃i j,x=.str i/\y=.str j/\Q (.bl (!(!(Builtin.Str.occurrences j i 0 j.length 1).isEmpty))) H):=by
 intro pins s σ H x y v u Q I rx ry h
 obtain⟨i,j,rfl,rfl,q⟩:=h
 obtain⟨t,rfl⟩:=rx
 obtain⟨t',rfl⟩:=ry
 exact notIn_str ⟨.bl _,H,I,rfl,q⟩
theorem call_len_seq:CallR X (.builtin "len") (λxs H Q=>∃p ys,xs=[.ref p]/\(SqL X.K H p ys\/SqT X.K H p ys)/\Q (.int ys.length) H):=by
 intro pins s σ H xs us Q I r h
 obtain⟨p,ys,rfl,hq,q⟩:=h
 obtain⟨u,rfl,rx⟩:=cF r
 cases rx
 have hn:=kS
 rcases hq with hq|hq
 ·obtain⟨its,r',pl,hz⟩:=I.list hq
  have hlen:=r'.length
  exact Calls.call_len_list pl.isList (by simp only[List.size_toArray]<;>omega) ⟨.int ys.length,H,I.tok _,⟨s.toks+1,by rw[List.size_toArray,hlen]⟩,q⟩
 ·obtain⟨its,r',pl,hz⟩:=I.tuple hq
  have hlen:=r'.length
  exact len_tuple pl (by simp only[List.size_toArray]<;>omega) ⟨.int ys.length,H,I.tok _,⟨s.toks+1,by rw[List.size_toArray,hlen]⟩,q⟩
theorem call_len_str:CallR X (.builtin "len") (λxs H Q=>∃z,xs=[.str z]/\z.length<=sizeLine/\Q (.int z.length) H):=by
 intro pins s σ H xs us Q I r h
 obtain⟨z,rfl,hz,q⟩:=h
 obtain⟨u,rfl,t,rfl⟩:=cF r
 have hn:=kS
 exact len_str (by omega) ⟨.int z.length,H,I.tok _,⟨_,rfl⟩,q⟩
theorem CallR.or{f:Value}{r r':List V->Hp->VK->Prop}(h:CallR X f r)(h':CallR X f r'):CallR X f (λxs H Q=>r xs H Q\/r' xs H Q):=by
 intro pins s σ H xs us Q I rs q
 rcases q with q|q
 ·exact h pins s σ H xs us Q I rs q
 ·exact h' pins s σ H xs us Q I rs q
theorem wQ:CallR X (.type "list") (λxs H Q=>∃p ys,xs=[.ref p]/\(SqL X.K H p ys\/SqT X.K H p ys)/\∀l,H l=none->Q (.ref l) (upd H l (.lst ys))):=by
 intro pins s σ H xs us Q I r h
 obtain⟨p,ys,rfl,hq,q⟩:=h
 obtain⟨u,rfl,rx⟩:=cF r
 cases rx
 have fin:∀(its:List Value),Vals ys its->ys.length<=sizeLine->∀(h':Heap) (c':Nat),(∀b o',s.heap.get? b=some o'->h'.get? b=some o') ->
   h'.get? s.heap.objs.size=some {cls:=.type "list",dict:=none,data:=.seq its.toArray c',slots:=#[]}->EP X pins σ Q (.ref s.heap.objs.size) {s with heap:=h'}:=λits r' hz h' c' kp e=>
  ⟨.ref s.heap.objs.size,_,I.laid (t':=s.toks) kp (Nat.le_refl _) (show ObjOk X.prog X.w _ h' _ (.lst ys) from ⟨hz,its,c',r',e⟩),rfl,q _ (I.hok.fresh (Nat.le_refl _))⟩
 rcases hq with hq|hq
 ·obtain⟨its,r',pl,hz⟩:=I.list hq
  have hlen:=r'.length
  obtain⟨o,ho,hc,n,hd⟩:=pl.isList
  exact call_list_seq p (.inl rfl) ho hc hd (λh' c' kp e=>fin its r' hz h' c' kp e) (by simp only[List.size_toArray]<;>omega)
 ·obtain⟨its,r',pl,hz⟩:=I.tuple hq
  have hlen:=r'.length
  obtain⟨o,ho,hc,n,hd⟩:=pl
  exact call_list_seq p (.inr rfl) ho hc hd (λh' c' kp e=>fin its r' hz h' c' kp e) (by simp only[List.size_toArray]<;>omega)
theorem zCg:CallR X (.type "tuple") (λxs H Q=>∃p ys,xs=[.ref p]/\((SqL X.K H p ys/\∀l,H l=none->Q (.ref l) (upd H l (.tup ys)))\/(SqT X.K H p ys/\Q (.ref p) H))):=by
 intro pins s σ H xs us Q I r h
 obtain⟨p,ys,rfl,h⟩:=h
 obtain⟨u,rfl,rx⟩:=cF r
 cases rx
 rcases h with⟨hq,q⟩|⟨hq,q⟩
 ·obtain⟨its,r',pl,hz⟩:=I.list hq
  have hlen:=r'.length
  refine call_tuple_list pl.isList (λh' kp=>?_) (by simp only[List.size_toArray]<;>omega)
  have I1:Inv X pins σ H {s with heap:=h'}:=I.kept (t':=s.toks) kp
  have I2:Inv X pins σ (upd H h'.objs.size (.tup ys)) {s with heap:=h'.push {cls:=.type "tuple",data:=.seq its.toArray}}:=
   I1.laid (t':=s.toks) (λb o e=>Heap.get?_push_of_some _ e) (Nat.le_refl _) (show ObjOk X.prog X.w _ _ _ (.tup ys) from ⟨hz,its,r',IsTup.new _ _⟩)
  exact⟨.ref h'.objs.size,_,I2,rfl,q _ (I1.hok.fresh (Nat.le_refl _))⟩
 ·obtain⟨its,r',pl,hz⟩:=I.tuple hq
  exact call_tuple_same pl ⟨.ref p,H,I,rfl,q⟩
def tyV(K:W.Frag)(T:String)(x:V)(H:Hp):Prop:=match x with
 |.str _=>T="str"
 |.int _=>T="int"
 |.ref p=>(T="list"/\∃xs,SqL K H p xs)\/(T="tuple"/\∃o,K.lookup p=some o/\o.cls=.type "tuple"/\o.dict=none) \/
   (T="dict"/\((∃kvs,H p=some (.dK kvs))\/∃kvs,H p=some (.dT kvs)))\/(T="set"/\∃S n,H p=some (.set S n))
 |_=>False
theorem zAV{pins:List (Addr×Obj)}{σ:St}{H:Hp}{s:Shared}{T:String}{x:V}{v:Value}(I:Inv X pins σ H s)(r:RelV x v)(ty:tyV X.K T x H):
  s.TypeIs v T/\∀a,v=.ref a->∃ob,s.heap.get? a=some ob/\ob.dict=none:=by
 cases x with
 |str z=>
  obtain⟨t,rfl⟩:=r
  cases (show T="str" from ty)
  exact⟨typeIs_str s z t,λ_ e=>nomatch e⟩
 |int i=>
  obtain⟨t,rfl⟩:=r
  cases (show T="int" from ty)
  exact⟨typeIs_int s i t,λ_ e=>nomatch e⟩
 |ref p=>
  cases r
  rcases ty with⟨rfl,xs,hq⟩|⟨rfl,o,hk,hc,hd⟩|⟨rfl,hk⟩|⟨rfl,S,n,hk⟩
  ·obtain⟨its,_,pl,_⟩:=I.list hq
   refine⟨pl.isList.typeIs,λa e=>?_⟩
   cases e
   obtain⟨o,n,e,c,hd,_⟩:=pl
   exact⟨o,e,hd⟩
  ·refine⟨⟨o,I.kIn p o hk,hc⟩,λa e=>?_⟩
   cases e
   exact⟨o,I.kIn _ o hk,hd⟩
  ·have z:∃o,s.heap.get? p=some o/\o.ExactDict:=by
    rcases hk with⟨kvs,hk⟩|⟨kvs,hk⟩
    ·obtain⟨_,_,_,_,o,_,_,e,ex,_⟩:=I.hok p _ hk
     exact⟨o,e,ex⟩
    ·obtain⟨_,_,_,_,o,_,_,e,ex,_⟩:=I.hok p _ hk
     exact⟨o,e,ex⟩
   obtain⟨o,e,ex⟩:=z
   refine⟨⟨o,e,ex.1⟩,λa e2=>?_⟩
   cases e2
   exact⟨o,e,ex.2.1⟩
  ·obtain⟨o,_,_,_,e,ex,_⟩:=I.hok p _ hk
   refine⟨⟨o,e,ex.1⟩,λa e2=>?_⟩
   cases e2
   exact⟨o,e,ex.2.1⟩
 |_=>exact False.elim ty
def zHN(K:W.Frag)(T:String)(r:V->List V->Hp->VK->Prop)(to:TE):TE:=λσ H Q=>to σ H λx H1=>tyV K T x H1/\r x [] H1 Q
def tBM(K:W.Frag)(T:String)(r:V->List V->Hp->VK->Prop)(to:TE)(t:TA):TE:=λσ H Q=>to σ H λx H1=>tyV K T x H1/\t σ H1 λxs H2=>r x xs H2 Q
variable{o e:Expr}{es:List Expr}{to:TE}{t:TA}{name:Str}{apos cpos:Pos}{T id:String}{r:V->List V->Hp->VK->Prop}
theorem zGi(pa:PlainAttrs T)(slot:Slot T name id)(hty:typeOf (.builtin id)=pure (.type "method_descriptor"))(hm:MtR X id r)(ho:PE X o to)
  (hbase:attributeBase o name X.env (eval o X.env)=eval o X.env:=by rfl) (hline:(apos.endLine==cpos.line)=true:=by rfl):PE X (.Call (.Attribute o name apos) [] [] cpos) (zHN X.K T r to):=by
 intro pins s σ H Q I h
 refine wpAny_Call_method0_late hbase hline (thn (ho pins s σ H _ I h) λv s1 ⟨x,H1,I1,r1,ty,q1⟩=>?_)
 obtain⟨h1,h2⟩:=zAV I1 r1 ty
 exact⟨T,id,pa,slot,hty,h1,h2,Calls.callWith_builtin rfl (PySem.evalArgs_none (hm pins s1 σ H1 x [] v [] Q I1 r1 .nil q1))⟩
theorem mX(pa:PlainAttrs T)(slot:Slot T name id)(hty:typeOf (.builtin id)=pure (.type "method_descriptor"))(hm:MtR X id r)(ho:PE X o to)(ha:PA X (e::es) t)
  (hbase:attributeBase o name X.env (eval o X.env)=eval o X.env:=by rfl)
  (hfew:((backTo cpos (starEach (e::es) X.env)).all (λx=>!x.1)&&(backToKw cpos (keywordEach [] X.env)).all (λx=>x.1.isSome)
   && decide ((e::es).length+([]:List Keyword).length+(if ([]:List Keyword).isEmpty then 0 else 1)<30))=true:=by rfl)
  (hline:(apos.endLine==cpos.line)=true:=by rfl) (hs:starEach (e::es) X.env=(false,eval e X.env)::starEach es X.env:=by rfl) (hplain:(backTo cpos (starEach es X.env)).any (·.1)=false:=by rfl):
  PE X (.Call (.Attribute o name apos) (e::es) [] cpos) (tBM X.K T r to t):=by
 intro pins s σ H Q I h
 refine wpAny_Call_method_late hbase hfew hline rfl (thn (ho pins s σ H _ I h) λv s1 ⟨x,H1,I1,r1,ty,q1⟩=>?_)
 obtain⟨h1,h2⟩:=zAV I1 r1 ty
 refine⟨T,id,pa,slot,hty,h1,h2,?_⟩
 have hA:=ha cpos pins s1 σ H1 _ I1 q1
 rw[hs]at hA ⊢
 refine Calls.callWith_builtin (by show(false || (backTo cpos (starEach es X.env)).any (·.1))=false;rw[hplain]<;>rfl) (Calls.evalArgs_plain ?_)
 exact thn hA λus s2 ⟨vs,H2,I2,r2,q2⟩=>hm pins s2 σ H2 x vs v us Q I2 r1 r2 q2
end
end L2
namespace L2
open PySem PySem.Spec PyProof.Rows
def MtM(X:Cx)(id:String)(r:V->List V->Hp->VK->Prop):Prop:=
 ∀(pins:List (Addr×Obj)) (s:Shared) (σ:St) (H:Hp) (x:V) (xs:List V) (v:Value) (us:List Value) (Q:VK),Inv X pins σ H s->RelV x v->Vals xs us->r x xs H Q ->
  wpAny (model X.prog X.w) X.A (call (.builtin id) (v::us)) (EP X pins σ Q) X.xe s
theorem Vals.one:∀{x:V}{us:List Value},Vals [x] us->∃u,us=[u]/\RelV x u
 |_,_,.cons r .nil=>⟨_,rfl,r⟩
theorem Vals.zero:∀{us:List Value},Vals [] us->us=[]
 |_,.nil=>rfl
theorem Vals.dropLast{xs:List V}{us:List Value}(h:Vals xs us):Vals xs.dropLast us.dropLast:=by
 induction h with
 |nil=>exact .nil
 |cons r t ih=>
  cases t with
  |nil=>exact .nil
  |cons q t'=>exact .cons r ih
theorem Vals.eraseIdx:∀{xs:List V}{us:List Value}(i:Nat),Vals xs us->Vals (xs.eraseIdx i) (us.eraseIdx i)
 |_,_,_,.nil=>.nil
 |_,_,0,.cons _ t=>t
 |_,_,i+1,.cons r t=>.cons r (Vals.eraseIdx i t)
theorem Vals.reverse{xs:List V}{us:List Value}(h:Vals xs us):Vals xs.reverse us.reverse:=by
 induction h with
 |nil=>exact .nil
 |cons r t ih=>rw[List.reverse_cons,List.reverse_cons];exact Vals.append ih (.cons r .nil)
theorem Vals.rep{xs:List V}{us:List Value}(h:Vals xs us):∀k:Nat,Vals (List.replicate k xs).flatten (List.replicate k us).flatten
 |0=>.nil
 |k+1=>by
  rw[List.replicate_succ,List.replicate_succ,List.flatten_cons,List.flatten_cons]
  exact Vals.append h (Vals.rep h k)
theorem zCU{α:Type}(l:List α):l.eraseIdx (l.length-1)=l.dropLast:=by
 induction l with
 |nil=>rfl
 |cons a r ih=>
  cases r with
  |nil=>rfl
  |cons b r=>
   have e:(a::b::r).length-1=((b::r).length-1)+1:=by
    have h1:(a::b::r).length=r.length+2:=rfl
    have h2:(b::r).length=r.length+1:=rfl
    omega
   rw[e,List.eraseIdx_cons_succ,ih]
   all_goals rfl
theorem yJ{α:Type}:∀(l:List α) (i:Nat),(l.eraseIdx i).length<=l.length
 |[],_=>Nat.le_refl _
 |_::_,0=>Nat.le_succ _
 |_::r,i+1=>Nat.succ_le_succ (yJ r i)
theorem yN(its:List Value):∀(k:Nat) (acc:List Value),
  List.foldl (λx1 x2=>x1++x2) acc.toArray (List.replicate k its.toArray)=(acc++(List.replicate k its).flatten).toArray
 |0,acc=>by simp
 |k+1,acc=>by
  have e:acc.toArray++its.toArray=(acc++its).toArray:=by simp
  have e2:(acc++its)++(List.replicate k its).flatten=acc++(List.replicate (k+1) its).flatten:=by
   rw[List.replicate_succ,List.flatten_cons,List.append_assoc]
  rw[<-e2,<-yN its k (acc++its),<-e,List.replicate_succ,List.foldl_cons]
section
variable{X:Cx}{pins:List (Addr×Obj)}{σ:St}{H:Hp}{s:Shared}{l b:Addr}{xs ys zs:List V}
theorem Inv.lset{its its':List Value}{n:Nat}{f:Array Value->Array Value}{t':Nat}(I:Inv X pins σ H s)(hH:H l=some (.lst xs))
  (e:s.heap.get? l=some {cls:=.type "list",data:=.seq its.toArray n}) (hf:f its.toArray=its'.toArray) (hv:Vals ys its') (hz:ys.length<=sizeLine):
  Inv X pins σ (upd H l (.lst ys)) {s with heap:=s.heap.update l (Obj.mapSeq f),toks:=t'}:=by
 have q:=PySem.IsL.update e f
 rw[hf]at q
 refine I.write (x:=l) (e:=l) (by rw[hH];exact trivial) (.inl rfl) (λb' u hb hu=>(Heap.get?_update_other s.heap (Obj.mapSeq f) (Ne.symm hb)).trans hu) ⟨_,q⟩ ?_
 exact⟨hz,its',_,hv,q⟩
theorem Inv.lnew{its:List Value}{t':Nat}(I:Inv X pins σ H s)(hv:Vals ys its)(hz:ys.length<=sizeLine):
  Inv X pins σ (upd H s.heap.objs.size (.lst ys)) {s with heap:=s.heap.push {cls:=.type "list",data:=.seq its.toArray},toks:=t'}:=
 I.laid (λ_ _ q=>Heap.get?_push_of_some _ q) (Nat.le_refl _) ⟨hz,its,0,hv,Heap.get?_push_size _ rfl⟩
theorem Inv.fresh(I:Inv X pins σ H s):H s.heap.objs.size=none:=I.hok.fresh (Nat.le_refl _)
theorem Inv.lstM(I:Inv X pins σ H s)(hH:H l=some (.lst xs)):xs.length<=sizeLine/\∃(its:List Value) (n:Nat),Vals xs its/\xs.length=its.length/\s.heap.get? l=some {cls:=.type "list",data:=.seq its.toArray n}:=by
 obtain⟨z,its,n,r,e⟩:=I.hok l _ hH
 exact⟨z,its,n,r,r.length,e⟩
theorem zP{n:Nat}(h:n<=sizeLine):Builtin.List.listTooLong n=false:=by
 unfold Builtin.List.listTooLong
 exact decide_eq_false (by omega)
end
section
variable{X:Cx}
def zEV:V->List V->Hp->VK->Prop:=λx vs H Q=>∃l xs y,x=.ref l/\vs=[y]/\H l=some (.lst xs)/\xs.length<sizeLine/\Q .non (upd H l (.lst (xs++[y])))
theorem sA:MtM X "list.append" zEV:=by
 intro pins s σ H x vs v us Q I rx rv h
 obtain⟨l,xs,y,rfl,rfl,hH,hz,q⟩:=h
 cases rx
 obtain⟨u,rfl,ru⟩:=rv.one
 obtain⟨z,its,n,r,hl,e⟩:=I.lstM hH
 refine call_meets F.slot_list_append ⟨_,e,rfl⟩ F.entry_list_append (F.args_list_append_2 _ _) (PySem.list_append l its.toArray n u (by rw[List.size_toArray];omega)) ⟨e,?_⟩
 refine⟨.non,_,I.lset (its':=its++[u]) hH e (by simp) (r.append (.cons ru .nil)) ?_,rfl,q⟩
 rw[List.length_append,List.length_singleton]
 omega
def zHV:V->List V->Hp->VK->Prop:=λx vs H Q=>∃l xs y,x=.ref l/\vs=[]/\H l=some (.lst xs)/\xs[xs.length-1]?=some y/\Q y (upd H l (.lst xs.dropLast))
theorem zGu:MtM X "list.pop" zHV:=by
 intro pins s σ H x vs v us Q I rx rv h
 obtain⟨l,xs,y,rfl,rfl,hH,hy,q⟩:=h
 cases rx
 have hus:=rv.zero
 subst hus
 obtain⟨z,its,n,r,hl,e⟩:=I.lstM hH
 obtain⟨u,hu,ru⟩:=r.get hy
 have hy':its.toArray[its.toArray.size-1]?=some u:=by
  show its.toArray[its.length-1]?=some u
  rw[<-Array.getElem?_toList,<-hl]
  exact hu
 refine call_meets F.slot_list_pop ⟨_,e,rfl⟩ F.entry_list_pop (F.args_list_pop_1 _) (MeetsSeq.list_pop_last l its.toArray n u hy' (by rw[List.size_toArray];omega)) ⟨e,?_⟩
 refine⟨y,_,I.lset (its':=its.dropLast) hH e ?_ r.dropLast ?_,ru,q⟩
 ·show its.toArray.eraseIdxIfInBounds (its.toArray.size-1)=its.dropLast.toArray
  rw[List.size_toArray,List.eraseIdxIfInBounds_toArray,zCU]
 ·rw[List.length_dropLast]
  omega
def zFX:V->List V->Hp->VK->Prop:=λx vs H Q=>∃l xs i k y,x=.ref l/\vs=[.int i]/\H l=some (.lst xs) /\ -(2 ^ 63)<=i/\i<2 ^ 63/\seqIndex? i xs.length=some k/\xs[k]?=some y/\Q y (upd H l (.lst (xs.eraseIdx k)))
theorem zEf:MtM X "list.pop" zFX:=by
 intro pins s σ H x vs v us Q I rx rv h
 obtain⟨l,xs,i,k,y,rfl,rfl,hH,h1,h2,hk,hy,q⟩:=h
 cases rx
 obtain⟨u,rfl,ru⟩:=rv.one
 obtain⟨t,rfl⟩:=ru
 obtain⟨z,its,n,r,hl,e⟩:=I.lstM hH
 obtain⟨w,hw,rw'⟩:=r.get hy
 refine call_meets F.slot_list_pop ⟨_,e,rfl⟩ F.entry_list_pop (F.args_list_pop_2 _ _)
  (MeetsSeq.list_pop_at l its.toArray n i t k w (fitsIndex_both h1 h2) (by rw[List.size_toArray,<-hl];exact hk) (by rw[<-Array.getElem?_toList];exact hw) (by rw[List.size_toArray];omega)) ⟨e,?_⟩
 refine⟨y,_,I.lset (its':=its.eraseIdx k) hH e ?_ (r.eraseIdx k) ?_,rw',q⟩
 ·show its.toArray.eraseIdxIfInBounds k=(its.eraseIdx k).toArray
  rw[List.eraseIdxIfInBounds_toArray]
 ·have:=yJ xs k
  omega
theorem tP{α:Type}(xs:List α)(k:Nat):(List.replicate k xs).flatten.length=k*xs.length:=by
 induction k with
 |zero=>simp
 |succ k ih=>rw[List.replicate_succ,List.flatten_cons,List.length_append,ih,Nat.succ_mul,Nat.add_comm]
end
end L2
namespace Att
open PySem PySem.W PySem.Calls PyProof.Rows
theorem zB4{P:Params}{h:Heap}:∀(ns:List Int) (vs:List Value),WellAll P h vs (ns.map WData.int)->IntsAre vs ns:=by
 intro ns
 induction ns with
 |nil=>
  intro vs w
  rw[List.map_nil]at w
  cases w
  exact .nil
 |cons n ns ih=>
  intro vs w
  rw[List.map_cons]at w
  cases w with
  |cons a b=>
   cases a
   exact .cons _ _ (ih _ b)
theorem zDj{l:OpenLaw}{n:Nat}(hn:l.most=some n){P:Params}{h:Heap}{args:List WData}{vals:List Value}
  (hpre:l.row.toRowW.claim.pre args=true) (hwl:WellAll P h vals args):
  ∃a vs ns,vals=[Value.ref a]/\args=[WData.list (ns.map WData.int)]/\h.get? a=some {cls:=.type "list",data:=.seq vs.toArray}/\IntsAre vs ns/\ns.length<=n:=by
 have hsh:WShape.hasAll [] args [.list .int]=true:=(pre_splitW hpre).1
 have hc:l.pre.holds [] {args:=args}=true:=(pre_splitW hpre).2
 obtain⟨d,r,rfl,h1,h2⟩:=hasAllW_cons hsh
 obtain rfl:=hasAllW_nil h2
 obtain⟨xs,rfl,h3⟩:=hasW_list h1
 obtain⟨ns,rfl⟩:=items_int h3
 have hlen:ns.length<=n:=by
  unfold OpenLaw.pre at hc
  have h4:(WTm.not (.lt (.lit (.int (n:Int))) (.len (.arg 0)))).holds [] {args:=[.list (ns.map .int)]}=true:=by
   have h4:=(holds_andW hc).1
   rw[hn]at h4
   exact h4
  have h5:=condW_of h4 (w_not (w_lt w_lit (w_len_list (w_arg rfl))))
  rw[List.length_map]at h5
  refine Nat.le_of_not_lt λq=>?_
  have q':(n:Int)<((ns.length:Nat):Int):=by omega
  first
   |(rw[decide_eq_true q']at h5;exact absurd h5 (by decide))
   |(simp at h5;omega)
 cases hwl with
 |cons w1 w2=>
  cases w2
  cases w1 with
  |list ho hall=>exact⟨_,_,ns,rfl,rfl,ho,zB4 ns _ hall,hlen⟩
theorem zDp(l:OpenLaw)(args:List WData):l.row.toRowW.claim.post args (.bool true) args=true:=
 postW_of (r:=l.row.toRowW) (X:=(true==true))
  (show WShape.has [] (.bool true) .bool=true by first|rfl|decide|simp[WShape.has,WShape.arms,WShape.armsAll])
  (show(WTm.eq .res (.lit (.bool true))).value [] {args:=args,res:=some (.bool true),after:=args}=some (.bool (true==true)) from w_eq_bool (w_res rfl) w_lit) rfl
theorem attach_call{l:OpenLaw}{n:Nat}{q:Program}{loose:List Str}{XP:(Str->Option Value)->Heap->Prop}{YP:World->Heap->Prop}{d:DefRec}
  (hn:l.most=some n) (hdf:d.params.defaults=[])
  (call:∀(w:World) (s₀ s₁:Shared) (mg mb:Str->Option Value) (fa:Addr) (o:Obj) (pm cd doc:Value) (a:Addr) (vs:List Value) (ns:List Int),
   Ground q loose [] XP w s₀ mg mb s₁.heap->YP w s₁.heap ->
   s₁.heap.get? fa=some o->o.data=.func (docDef d.name d.params d.body d.scope pm cd doc)->s₁.heap.CodeRec cd d.name->mg d.name=some (.ref fa) ->
   s₁.heap.get? a=some {cls:=.type "list",data:=.seq vs.toArray}->IntsAre vs ns->ns.length<=n->s₁.gens=#[] ->
   codeAny (model l.prog w) callerA (.call (.ref fa) ⟨[.ref a],[]⟩) (λr s'=>r=.ok (.ret (.bool true))/\OldK s₁.heap s'.heap/\s'.os=s₁.os/\AllBare s'.gens) s₁):
  WalkO q loose XP YP l.row.toRowW d [] (λf vs=>PySem.call f vs):=by
 intro w s₀ s₁ mg mb G Y fa o pm cd doc dV kV ho hd hcd hD hmg hg args vals as hpre hlay hrd hwl hlo
 obtain rfl:dV=.none:=Dflts.none hD hdf
 obtain rfl:kV=.none:=Dflts.noKw hD
 obtain⟨a,vs,ns,rfl,rfl,hobj,hints,hlen⟩:=zDj hn hpre hwl
 refine enter_call (codeAny_mono (call w s₀ s₁ mg mb fa o pm cd doc a vs ns G Y ho (fd_plain hd) hcd hmg hobj hints hlen hg) λr s' hq=>?_)
 obtain⟨rfl,h2,h3,h4⟩:=hq
 exact⟨.inl ⟨.bool true,.bool true,[],rfl,λ_=>rfl,.bool true,zDp l _,λ_=>⟨List.Pairwise.nil,λ_ hm=>(nomatch hm)⟩⟩,h2,h3,h4⟩
end Att
namespace L2
open PySem PySem.Spec PyProof.Rows
theorem xR:∀{vs:List Value}{ns:List Int},IntsAre vs ns->Vals (ns.map V.int) vs
 |_,_,.nil=>.nil
 |_,_,.cons n t h=>.cons ⟨t,rfl⟩ (xR h)
def wG(H:Hp):Prop:=∀b,H b=none\/∃o xs,H b=some (.frz o (.lst xs))
theorem zEm{P:Program}{w:World}{K:W.Frag}{mg mb:Str->Option Value}{CX:CXT}{k:Nat}{fa a:Addr}{fd:FuncData}{x:Str}{sp:Sp}{s₁:Shared}{vs:List Value}{ns:List Int}
  (KX:K.In s₁.heap) (hns:s₁.heap.Ns mainGlobals mg) (hb:s₁.heap.Ns builtinsNs mb) (hbb:∀x:Str,x≠"__name__"->mb x=bootBuiltins x) (hlim:s₁.heap.NoLimit) (hg:s₁.gens=#[])
  (ha:s₁.heap.get? a=some {cls:=.type "list",data:=.seq vs.toArray}) (hi:IntsAre vs ns) (hl:ns.length<=sizeLine) (hr:Room k callerA)
  (F:∀base:Heap,K.In base->base.Ns mainGlobals mg->FnOk P w K mg base CX k fa fd [x] sp) (hbind:∀(s:Shared) (u:Value),BindsTo s fd ⟨[u],[]⟩ [(x,u)])
  (hsp:∀H:Hp,wG H->SqL K H a (ns.map V.int)->sp [.ref a] H (λv _=>v=.bl true) λ_ _ _=>False)
  (hCX:∀H e s',CX [] H s₁ (λ_ _ _=>False) e s'->False):
  codeAny (model P w) callerA (.call (.ref fa) ⟨[.ref a],[]⟩) (λr s'=>r=.ok (.ret (.bool true))/\OldK s₁.heap s'.heap/\s'.os=s₁.os/\AllBare s'.gens) s₁:=by
 have rv:=xR hi
 have lenV:=hi.length
 -- from an abstract heap in which nothing but the script may be tracked
 have core:∀H:Hp,wG H->SqL K H a (ns.map V.int)->HOk P w H s₁.heap->(∀b,H b≠none->b=a)->(H a≠none->K.lookup a=none) ->
   codeAny (model P w) callerA (.call (.ref fa) ⟨[.ref a],[]⟩) (λr s'=>r=.ok (.ret (.bool true))/\OldK s₁.heap s'.heap/\s'.os=s₁.os/\AllBare s'.gens) s₁:=by
  intro H hO hS hok hA hK
  have base_of:∀{b:Addr} {o:Obj},s₁.heap.get? b=some o->H b=none->(hX s₁.heap H).get? b=some o:=λe n=>zEp e n
  have noA:∀{b:Addr} {o:Obj} {es:Array DictEntry} {ep:Nat},s₁.heap.get? b=some o->o.data=.dict es ep->H b=none:=λ{b o es ep} e d=>by
   cases q:H b with
   |none=>rfl
   |some u=>
    have e':b=a:=hA b (by rw[q];simp)
    subst e'
    rw[ha]at e;cases e
    have d':Data.seq vs.toArray _=Data.dict es ep:=d
    cases d'
  have nsK:∀{b:Addr} {m:Str->Option Value},s₁.heap.Ns b m->(hX s₁.heap H).Ns b m:=λ{b m} ⟨o,es,ep,e,d,r⟩=>⟨o,es,ep,base_of e (noA e d),d,r⟩
  have hKb:K.In (hX s₁.heap H):=λb o e=>base_of (KX b o e) (by
   cases q:H b with
   |none=>rfl
   |some u=>
    have e':b=a:=hA b (by rw[q];simp)
    subst e'
    rw[hK (by rw[q];simp)]at e;cases e)
  have hM:Mod K mg (hX s₁.heap H):=⟨hKb,nsK hns,⟨mb,nsK hb,hbb⟩,let ⟨mc,h1,h2⟩:=hlim;⟨mc,nsK h1,h2⟩⟩
  have e0:rC P w K mg (hX s₁.heap H) callerA [] s₁ H:=⟨rfl,hM,λb o e=>zFe e,Nat.le_of_eq (zDC _ _),trivial,λb hb=>absurd (show b∈([]:List Addr) from hb) (by simp),hok,.of_eq hg⟩
  refine codeAny_mono ((F _ hKb (nsK hns)).run callerA [] s₁ H ⟨[.ref a],[]⟩ [.ref a] [.ref a] _ _ hr e0 (hbind s₁ (.ref a)) (.cons rfl .nil) (hsp H hO hS)) λr s' h=>?_
  cases r with
  |error e=>exact(hCX H e s' h).elim
  |ok fl=>
   cases fl with
   |next=>exact False.elim h
   |brk=>exact False.elim h
   |cont=>exact False.elim h
   |ret u=>
    obtain⟨v,H',os,bare,un,hok',r',q⟩:=h
    have q':v=.bl true:=q
    subst q'
    obtain rfl:u=Value.bool true:=r'
    refine⟨rfl,OldK.of_keep λb o e=>?_,os,bare⟩
    cases q:H b with
    |none=>exact un.keep b o e q (by intro z;exact absurd (show b∈([]:List Addr) from z) (by simp)) (by simp)
    |some u=>
     rcases hO b with z|⟨ob,xs,z⟩
     ·rw[q]at z;cases z
     ·have z2:=un.frzs b ob _ z
      obtain⟨e1,_⟩:=hok b _ z
      obtain⟨e2,_⟩:=hok' b _ z2
      rw[e]at e1;cases e1
      exact e2
 cases hk:K.lookup a with
 |some o=>
  -- the script is one of the module's own objects
  have e:=KX a o hk
  rw[ha]at e
  cases e
  refine core (λ_=>none) (λ_=>.inl rfl) (.inr ⟨_,vs.toArray,_,hk,rfl,rfl,rfl,by rw[List.size_toArray,lenV];exact hl,by simpa using rv⟩) (λb u z=>by have z':(none:Option HO)=some u:=z;cases z') (λb z=>absurd rfl z) λz=>absurd rfl z
 |none=>
  refine core (λb=>if b=a then some (.frz {cls:=.type "list",data:=.seq vs.toArray} (.lst (ns.map V.int))) else none) (λb=>?_) (.inl (.inr ⟨{cls:=.type "list",data:=.seq vs.toArray},if_pos rfl⟩)) (λb u z=>?_) (λb z=>?_) λ_=>hk
  ·by_cases hb:b=a
   ·exact .inr ⟨_,_,if_pos hb⟩
   ·exact .inl (if_neg hb)
  ·by_cases hb:b=a
   ·have z':=(if_pos hb).symm.trans z
    cases z'
    subst hb
    exact⟨ha,by rw[List.length_map];exact hl,vs,_,rv,ha⟩
   ·have z':=(if_neg hb).symm.trans z
    cases z'
  ·by_cases hb:b=a
   ·exact hb
   ·exact absurd (if_neg hb) z
end L2
namespace L2
open PySem PySem.Spec PyProof.Rows
theorem walk_of{l:W.OpenLaw}{n k:Nat}{q:Program}{loose:List Str}{XP:(Str->Option Value)->Heap->Prop}{YP:World->Heap->Prop}{d:DefRec}{K:Params->W.Frag}{CX:World->CXT}{sp:World->Sp}{x:Str}
  (hn:l.most=some n) (hn2:n<=sizeLine) (hdf:d.params.defaults=[]) (hr:Room k callerA)
  (hY:∀(w:World) (h:Heap),YP w h->(K w.params).In h)
  (F:∀(w:World) (mg:Str->Option Value) (fa:Addr) (h:Heap),(K w.params).In h->h.Ns mainGlobals mg->mg d.name=some (.ref fa) ->
   ∃fd:FuncData,(∀(s:Shared) (u:Value),BindsTo s fd ⟨[u],[]⟩ [(x,u)]) /\
    ∀base:Heap,(K w.params).In base->base.Ns mainGlobals mg->FnOk l.prog w (K w.params) mg base (CX w) k fa fd [x] (sp w))
  (hsp:∀(w:World) (H:Hp) (a:Addr) (ns:List Int),ns.length<=n->wG H->SqL (K w.params) H a (ns.map V.int)->sp w [.ref a] H (λv _=>v=.bl true) λ_ _ _=>False)
  (hCX:∀(w:World) (H:Hp) (s:Shared) (e:Value) (s':Shared),CX w [] H s (λ_ _ _=>False) e s'->False):
  PySem.W.WalkO q loose XP YP l.row.toRowW d [] (λf vs=>PySem.call f vs):=by
 refine Att.attach_call hn hdf λw s₀ s₁ mg mb fa o pm cd doc a vs ns G Y ho hd hcd hmg hobj hints hlen hg=>?_
 have KX:=hY w _ Y
 obtain⟨fd,hb,hF⟩:=F w mg fa _ KX G.T.g hmg
 exact zEm KX G.T.g G.T.b G.T.builtins G.T.nolimit hg hobj hints (Nat.le_trans hlen hn2) hr hF hb (λH hO hS=>hsp w H a ns hlen hO hS) λH e s'=>hCX w H s₁ e s'
end L2
namespace L2
open PySem PySem.Spec PyProof.Rows
def gG(s:Stmt):Arguments:=match s with
 |.FunctionDef _ a _ _ _ _ _ _ _ _=>a
 |_=>{posonlyargs:=[],args:=[],vararg:=none,kwonlyargs:=[],kw_defaults:=[],kwarg:=none,defaults:=[]}
def eQ(s:Stmt):List Stmt:=match s with
 |.FunctionDef _ _ b _ _ _ _ _ _ _=>b
 |_=>[]
def aL(s:Stmt):Scope:=match s with
 |.FunctionDef _ _ _ _ _ _ sc _ _ _=>sc
 |_=>{kind:=.function,names:=[],isGenerator:=false,isCoroutine:=false}
abbrev CX0:CXT:=λ_ _ _ _ _ _=>False
abbrev E0:XK:=λ_ _ _=>False
theorem zBs{X:Cx}:pQ CX0 X E0:=λ_ _ _ _ _ _ _ h=>h.elim
structure Fun (K:W.Frag) (x qual:Str) (st:Stmt) (f:Addr) (fd:FuncData):Prop where
 ex:∃(oc:Value) (od:Option Addr) (kV doc pm:Value) (an:Option Addr) (cdv ct:Value) (osl:Array (Option Value)),
  fd=W.fnOf x qual (gG st) (eQ st) (aL st) .none kV doc pm an cdv ct/\K.lookup f=some ⟨oc,od,.func fd,osl⟩/\W.codeIn K cdv qual=true
 kp:W.keepIn K (.ref f)=true
section
variable{P:Program}{w:World}{K:W.Frag}{mg:Str->Option Value}{base:Heap}
theorem Fun.ok{x qual:Str}{st:Stmt}{f:Addr}{fd:FuncData}{N ps:List Str}{k:Nat}{sp:Sp}(F:Fun K x qual st f fd)(S:bG N ps (aL st))(len:∀vs H Q E,sp vs H Q E->vs.length=ps.length)
  (hbody:∀(cdv:Value) (A:Around) (outer:List Env) (s:Shared) (H:Hp) (vs:List V) (Q:VK) (E:XK),Room k (A.deeper (envOfC qual (aL st) s.heap.objs.size f cdv))->sp vs H Q E ->
   ∃t,PSs (jA CX0 P w K mg base N qual (aL st) f cdv A outer s H E).nox (eQ st) t/\t {nx:=λ_ H'=>Q .non H',rt:=Q} (dP N vs) H):FnOk P w K mg base CX0 (k+1) f fd ps sp:=by
 obtain⟨oc,od,kV,doc,pm,an,cdv,ct,osl,rfl,lk,hcd⟩:=F.ex
 refine zHw lk hcd S len λA outer s H vs Q E hr hsp=>?_
 obtain⟨t,h,q⟩:=hbody cdv A outer s H vs Q E hr hsp
 exact⟨t,h.nox,q⟩
theorem Fun.binds{x qual:Str}{st:Stmt}{f:Addr}{fd:FuncData}{ps:List Str}(F:Fun K x qual st f fd)
  (h:∀(kV doc pm:Value) (an:Option Addr) (cdv ct:Value) (us:List Value),us.length=ps.length->bindArgs (W.fnOf x qual (gG st) (eQ st) (aL st) .none kV doc pm an cdv ct) ⟨us,[]⟩=pure (ps.zip us)):Binds K fd ps []:=by
 obtain⟨oc,od,kV,doc,pm,an,cdv,ct,osl,rfl,lk,hcd⟩:=F.ex
 exact .all (h kV doc pm an cdv ct)
theorem zBi{x qual:Str}{st:Stmt}{f:Addr}{oc:Value}{od an:Option Addr}{osl:Array (Option Value)}{kV doc pm cdv ct:Value}(l:K.lookup f=some ⟨oc,od,.func (W.fnOf x qual (gG st) (eQ st) (aL st) .none kV doc pm an cdv ct),osl⟩)
  (c:W.codeIn K cdv qual=true) (k:W.keepIn K (.ref f)=true):Fun K x qual st f (W.fnOf x qual (gG st) (eQ st) (aL st) .none kV doc pm an cdv ct):=⟨⟨oc,od,kV,doc,pm,an,cdv,ct,osl,rfl,l,c⟩,k⟩
end
theorem zHu{A:Around}{k:Nat}(hr:Room k A):A.units+1<cLine:=Nat.lt_of_le_of_lt (Nat.add_le_add_left (by decide:1<=64) _) hr.units
theorem zDe{n:Nat}(h:n<=1000):n<sizeLine:=Nat.lt_of_le_of_lt h (by decide)
section
variable{X:Cx}
theorem pv(i:Nat){x:Str}{pos:Pos}(hN:X.N[i]?=some x:=by rfl)(hv:Vis X.env.scope x:=by first|exact Or.inl rfl|exact Or.inr (Or.inl rfl)|exact Or.inr (Or.inr rfl))(hd:(x==("__debug__":Str))=false:=by decide)
  (hcd:(x==("__classdict__":Str))=false:=by decide):PE X (.Name x pos) (zBE i):=iN hN hv hd hcd
end
theorem bJ{A B:Prop}(h:B):if false=true then A else B:=by
 rw[if_neg Bool.false_ne_true]
 exact h
theorem bS{A B:Prop}(h:A):if true=true then A else B:=by
 rw[if_pos rfl]
 exact h
theorem zH9{c A B:Prop}[Decidable c](h1:c->A)(h2:¬ c->B):if c then A else B:=by
 by_cases h:c
 ·rw[if_pos h]
  exact h1 h
 ·rw[if_neg h]
  exact h2 h
def Same(H H':Hp):Prop:=∀b o,H b=some o->H' b=some o
theorem Same.refl(H:Hp):Same H H:=λ_ _ h=>h
theorem Same.trans{H H1 H2:Hp}(a:Same H H1)(b:Same H1 H2):Same H H2:=λc o h=>b c o (a c o h)
theorem Same.free{H H':Hp}(e:Same H H'){l:Addr}(h:H' l=Option.none):H l=Option.none:=by
 cases q:H l with
 |none=>rfl
 |some o=>
  rw[e l o q]at h
  cases h
end L2
namespace L2
open PySem PySem.Spec PyProof.Rows
theorem rE{env:Env}:∀(names:List (Str×NameKind)) (acc:List (Str×Addr)),(∀y∈names,y.2=.free->∃c,env.cells.lookup y.1=some c) ->
  ∃cl,(forIn names acc (λ(x:Str×NameKind) (cs:List (Str×Addr))=>if (x.2==NameKind.free)=true then(do let c <- cellOf env x.1;pure (ForInStep.yield ((x.1,c)::cs))) else pure (ForInStep.yield cs)):Sem (List (Str×Addr)))=pure cl /\
   (∀x c,cl.lookup x=some c->env.cells.lookup x=some c\/acc.lookup x=some c)/\(∀x c,acc.lookup x=some c->∃c',cl.lookup x=some c')/\∀y∈names,y.2=.free->∃c,cl.lookup y.1=some c
 |[],acc,_=>⟨acc,rfl,λ_ _ h=>.inr h,λ_ c h=>⟨c,h⟩,λ_ h=>nomatch h⟩
 |(n,k)::r,acc,h=>by
  rw[List.forIn_cons]
  by_cases hk:k=.free
  ·subst hk
   obtain⟨c,hc⟩:=h (n,.free) List.mem_cons_self rfl
   obtain⟨cl,h1,h2,h3,h4⟩:=rE r ((n,c)::acc) λy hy=>h y (List.mem_cons_of_mem _ hy)
   refine⟨cl,?_,λx d e=>?_,λx d e=>?_,λy hy e=>?_⟩
   ·have e1:cellOf env n=pure c:=by unfold cellOf;rw[hc]
    simp only[beq_self_eq_true,if_true,e1,pure_bind]
    exact h1
   ·rcases h2 x d e with z|z
    ·exact .inl z
    ·rw[List.lookup_cons]at z
     split at z
     ·rename_i hx
      cases z
      have:x=n:=eq_of_beq hx
      subst this
      exact .inl hc
     ·exact .inr z
   ·refine h3 x (if x==n then c else d) ?_
    rw[List.lookup_cons]
    cases hx:x==n with
    |true=>simp[hx]
    |false=>simp[hx,e]
   ·rcases List.mem_cons.mp hy with z|z
    ·subst z
     exact h3 n c (by simp[List.lookup_cons])
    ·exact h4 y z e
  ·have hb:(k==NameKind.free)=false:=by simpa using hk
   obtain⟨cl,h1,h2,h3,h4⟩:=rE r acc λy hy=>h y (List.mem_cons_of_mem _ hy)
   refine⟨cl,?_,h2,h3,λy hy e=>?_⟩
   ·simp only[hb,Bool.false_eq_true,if_false,pure_bind]
    exact h1
   ·rcases List.mem_cons.mp hy with z|z
    ·subst z
     exact absurd e hk
    ·exact h4 y z e
theorem xO{scope:Scope}{env:Env}(h:∀y∈scope.names,y.2=.free->∃c,env.cells.lookup y.1=some c):
  ∃cl,closureFor scope env=pure cl/\(∀x c,cl.lookup x=some c->env.cells.lookup x=some c)/\∀y∈scope.names,y.2=.free->∃c,cl.lookup y.1=some c:=by
 obtain⟨cl,h1,h2,h3,h4⟩:=rE scope.names [] h
 refine⟨cl,?_,λx c e=>(h2 x c e).elim id λz=>(by cases z),h4⟩
 unfold closureFor
 refine Eq.trans ?_ h1
 refine Eq.trans (bind_pure _) ?_
 rfl
theorem wJ{env:Env}:∀{names:List (Str×NameKind)}{x:Str},names.lookup x=some .free ->
  (names.map λ(n,k)=>if (k==NameKind.free&&env.scope.kind==.function&&env.kindOf n==some .cell) then(n,NameKind.cell) else(n,k)).lookup x=some .cell \/
  (names.map λ(n,k)=>if (k==NameKind.free&&env.scope.kind==.function&&env.kindOf n==some .cell) then(n,NameKind.cell) else(n,k)).lookup x=some .free
 |[],_,h=>by simp at h
 |(n,k)::r,x,h=>by
  have ih:=@wJ env r x
  show List.lookup x ((if (k==NameKind.free&&env.scope.kind==.function&&env.kindOf n==some .cell)=true then(n,NameKind.cell) else(n,k))::_)=_\/List.lookup x ((if (k==NameKind.free&&env.scope.kind==.function&&env.kindOf n==some .cell)=true then(n,NameKind.cell) else(n,k))::_)=_
  by_cases hc:(k==NameKind.free&&env.scope.kind==.function&&env.kindOf n==some .cell)=true
  ·rw[if_pos hc]
   cases hx:x==n with
   |true=>simp only[List.lookup_cons,hx];exact .inl trivial
   |false=>
    simp only[List.lookup_cons,hx]at h ⊢
    exact ih h
  ·rw[if_neg hc]
   cases hx:x==n with
   |true=>
    simp only[List.lookup_cons,hx]at h ⊢
    exact .inr h
   |false=>
    simp only[List.lookup_cons,hx]at h ⊢
    exact ih h
theorem wZ{env:Env}{names:List (Str×NameKind)}(hn:∀y∈names,y.2≠.cell){x:Str}{k:NameKind}(hk:k=.cell\/k=.free)
  (h:(names.map λ(n,k)=>if (k==NameKind.free&&env.scope.kind==.function&&env.kindOf n==some .cell) then(n,NameKind.cell) else(n,k)).lookup x=some k):(x,NameKind.free)∈names:=by
 obtain⟨⟨n,k'⟩,hm,e⟩:=List.mem_map.mp (PySem.mem_of_lookup h)
 simp only at e
 split at e
 ·rename_i hc
  rw[Bool.and_eq_true,Bool.and_eq_true]at hc
  have:k'=.free:=eq_of_beq hc.1.1
  subst this
  injection e with e1 _
  subst e1
  exact hm
 ·injection e with e1 e2
  subst e1 e2
  rcases hk with z|z
  ·exact absurd z (hn _ hm)
  ·subst z;exact hm
def cN(X:Cx)(N:List Str)(scope:Scope)(cl:List (Str×Addr))(C:Addr)(fp:List Addr)(s:Shared)(H:Hp):Cx where
 prog:=X.prog
 w:=X.w
 K:=X.K
 mg:=X.mg
 base:=X.base
 A:=X.A
 N:=N
 s₀:=s
 H₀:=H
 env:=compEnvC scope cl C X.env
 outer:=X.stack
 stack:=X.stack
 ex:=fp
 fn:=λ_=>false
 calm:=X.calm
 pn:=[]
 xe:=λ_ _=>False
structure jH (sc:Scope) (XN N:List Str) (own:Nat) (fr:List Nat) (scope:Scope):Prop where
 kind:scope.kind=.function
 nocell:∀y∈scope.names,y.2≠.cell
 free:∀y∈scope.names,y.2=.free->sc.names.lookup y.1=some .cell\/sc.names.lookup y.1=some .free
 loc:∀y∈scope.names,y.2=.local->scope.names.lookup y.1=some .local
 names:N.drop own=fr.filterMap λi=>XN[i]?
 frl:∀i∈fr,i<XN.length
 len:own<=N.length
 vis:∀x∈N.drop own,scope.names.lookup x=some .free
def σf(fr:List Nat)(σ:St):St:=fr.map λi=>σ.getD i none
def σc(own:Nat)(fr:List Nat)(σ:St):St:=List.replicate own none++σf fr σ
section
variable{X:Cx}{pins:List (Addr×Obj)}{σ:St}{H:Hp}{s:Shared}{N:List Str}{own:Nat}{fr:List Nat}{scope:Scope}
theorem wL{XN:List Str}:∀{fr:List Nat},(∀i∈fr,i<XN.length)->∀(j:Nat),(fr.filterMap λi=>XN[i]?)[j]?=(fr[j]?).bind λi=>XN[i]?
 |[],_,j=>by simp
 |i::r,h,j=>by
  have hi:i<XN.length:=h i List.mem_cons_self
  rw[List.filterMap_cons,List.getElem?_eq_getElem hi]
  cases j with
  |zero=>simp[hi]
  |succ j=>simpa using wL (λk hk=>h k (List.mem_cons_of_mem _ hk)) j
theorem zEo{cl:List (Str×Addr)}{fp:List Addr}{h':Heap}(I:Inv X pins σ H s)(S:jH X.env.scope X.N N own fr scope)(hcl:∀x c,cl.lookup x=some c->X.env.cells.lookup x=some c)
  (hcf:∀y∈scope.names,y.2=.free->∃c,cl.lookup y.1=some c) (hfp:∀b∈fp,eO X pins H b) (hfo:∀b∈fp,∃o,s.heap.get? b=some o)
  (hns:h'.Ns s.heap.objs.size λ_=>none) (hk:∀b o,s.heap.get? b=some o->h'.get? b=some o):
  Inv (cN X N scope cl s.heap.objs.size fp s H) [] (σc own fr σ) H {s with heap:=h'}:=by
 have kindE:∀x,(Env.kindOf (compEnvC scope cl s.heap.objs.size X.env) x)=(relabel scope X.env).names.lookup x:=λx=>rfl
 have memF:∀x,(Env.kindOf (compEnvC scope cl s.heap.objs.size X.env) x=some .cell\/Env.kindOf (compEnvC scope cl s.heap.objs.size X.env) x=some .free)->(x,NameKind.free)∈scope.names:=λx hx=>by
  rcases hx with z|z
  ·exact wZ (env:=X.env) S.nocell (.inl rfl) z
  ·exact wZ (env:=X.env) S.nocell (.inr rfl) z
 refine⟨⟨I.ok.mod,S.kind,I.ok.glob,I.ok.blt,Nat.le_refl _,λx y c h1 h2=>I.ok.inj x y c (hcl x c h1) (hcl y c h2),λx hx=>hcf (x,.free) (memF x hx) rfl,λx c h=>absurd (show false=true from h) (by decide),I.ok.hd,I.ok.frames,.inl rfl,λb hb=>?_,I.bs,Nat.le_trans I.ok.bsz I.sz,λb o e hb=>?_,λb hb z=>?_,I.stack,I.stkFree⟩,
  rfl,I.bare,Un.kept hk,⟨_,hns,λi x v e1 e2 e3=>?_⟩,λx c e=>?_,I.hok.fresh (Nat.le_refl _),λx c e=>I.freeC x c (hcl x c e),λp hp=>absurd (show p∈([]:List (Addr×Obj)) from hp) (by simp),I.hok.kept hk,?_⟩
 ·obtain⟨o,ho⟩:=hfo b hb
  exact⟨Nat.ne_of_lt (Heap.lt_size ho),λx c e=>(hfp b hb).2.2.2.2.1 x c (hcl x c e)⟩
 ·rcases (hfp b hb).2.2.2.1 with z|z
  ·exact I.ok.noex b o e z
  ·exact absurd (Nat.lt_of_lt_of_le (Heap.lt_size (I.ok.bs b o e).1) z) (Nat.lt_irrefl _)
 ·rcases List.mem_cons.mp (I.stkSub b z) with q|q
  ·exact(hfp b hb).2.1 q
  ·exact(hfp b hb).2.2.1 q
 ·have hi:own<=i:=by
   rcases Nat.lt_or_ge i own with z|z
   ·have e2':(σc own fr σ)[i]?=some (some v):=e2
    unfold σc at e2'
    rw[List.getElem?_append_left (by simpa using z),List.getElem?_replicate]at e2'
    split at e2'<;>cases e2'
   ·exact z
  have e2':(σf fr σ)[i-own]?=some (some v):=by
   have e2':(σc own fr σ)[i]?=some (some v):=e2
   unfold σc at e2'
   rw[List.getElem?_append_right (by simpa using hi)]at e2'
   simpa using e2'
  have e1':(N.drop own)[i-own]?=some x:=by
   have e1':N[i]?=some x:=e1
   rw[List.getElem?_drop]
   rw[show own+(i-own)=i by omega]
   exact e1'
  have hv:scope.names.lookup x=some .free:=S.vis x (List.mem_of_getElem? e1')
  have hx:X.env.scope.names.lookup x=some .cell\/X.env.scope.names.lookup x=some .free:=S.free (x,.free) (PySem.mem_of_lookup hv) rfl
  rw[S.names,wL S.frl]at e1'
  unfold σf at e2'
  rw[List.getElem?_map]at e2'
  cases q:fr[i-own]? with
  |none=>rw[q]at e2';cases e2'
  |some j=>
   rw[q]at e1' e2'
   have e1'':X.N[j]?=some x:=e1'
   have e2'':σ.getD j none=some v:=Option.some.inj e2'
   have e3':σ[j]?=some (some v):=by
    rw[List.getD_eq_getElem?_getD]at e2''
    cases z:σ[j]? with
    |none=>rw[z]at e2'';cases e2''
    |some y=>rw[z]at e2'';exact congrArg some e2''
   obtain⟨m,hn,hl⟩:=I.loc
   obtain⟨u,r,l⟩:=hl j x v e1'' e3' (.inr hx)
   refine⟨u,r,.inr ⟨wJ (env:=X.env) hv,?_⟩⟩
   rcases l with⟨k,_⟩|⟨_,c,hc,z⟩
   ·have k':X.env.scope.names.lookup x=some .local:=k
    rw[k']at hx
    rcases hx with z|z<;>cases z
   ·obtain⟨c',hc'⟩:=hcf (x,.free) (PySem.mem_of_lookup hv) rfl
    have:=hcl x c' hc'
    rw[hc]at this
    cases this
    exact⟨c,hc',z.keeps hk⟩
 ·obtain⟨v,z⟩:=I.cell x c (hcl x c e)
  exact⟨v,z.keeps hk⟩
 ·show(σc own fr σ).length=N.length
  unfold σc σf
  have h1:=congrArg List.length S.names
  have h2:(fr.filterMap λi=>X.N[i]?).length=fr.length:=by
   have:∀(l:List Nat),(∀i∈l,i<X.N.length)->(l.filterMap λi=>X.N[i]?).length=l.length:=by
    intro l
    induction l with
    |nil=>intro _;rfl
    |cons i r ih=>
     intro h
     rw[List.filterMap_cons,List.getElem?_eq_getElem (h i List.mem_cons_self)]
     simp[ih λk hk=>h k (List.mem_cons_of_mem _ hk)]
   exact this fr S.frl
  rw[List.length_drop,h2]at h1
  rw[List.length_append,List.length_replicate,List.length_map]
  have:=S.len
  omega
end
section
variable{prog:Program}{w:World}{A:Around}{R:Result->Shared->Prop}{s:Shared}
theorem zCn{elt target iter:Expr}{ifs:List Expr}{scope:Scope}{pos:Pos}{it acc:Value}{env:Env}(I:Nat->Shared->Prop)
  (turn:∀n s,I n s->wpAny (model prog w) A (pyNext it) (λr s₁=>match r with
   |none=>R (.ok .next) s₁
   |some v=>wpAny (model prog w) A (letOwnedTupleGo target it v) (λ_ s'=>wpAny (model prog w) A (assign target env v) (λ_ s₂=>
     wpAny (model prog w) A (forIn ifs true λc r=>if r=true then do let ok <- isTrue c env (eval c env);pure (ForInStep.yield ok) else pure (ForInStep.yield r)) (λok s₃=>
      if ok=true then wpAny (model prog w) A (eval elt env) (λx s₄=>
       wpAny (model prog w) A (call (.builtin "list.append") [acc,x]) (λ_ s₅=>∃m,m<n/\I m s₅) (λ_ _=>False) s₄) (λ_ _=>False) s₃
      else ∃m,m<n/\I m s₃) (λ_ _=>False) s₂) (λ_ _=>False) s') (λ_ _=>False) s₁) (λ_ _=>False) s)
  (n:Nat) (h:I n s):codeAny (model prog w) A (.compLoop (.ListComp elt [⟨target,iter,ifs,0⟩] scope pos) 0 it acc env) R s:=by
 refine codeAny_loop rfl I (λn s hI=>?_) n h
 show wpAny _ A ((compTurn (.ListComp elt [⟨target,iter,ifs,0⟩] scope pos) 0 it acc env).onRaise (λx=>do noteFrame x env;theTreesLotGoes x)) _ _ s
 refine wpAny_noted ?_
 rw[compTurn_list]
 refine wpAny_bind (wpAny_standAt (wpAny_bind (wpAny_mono (turn n s hI) (λr s₁ h₁=>?_) λ_ _ z=>False.elim z)))
 cases r with
 |none=>exact wpAny_pure h₁
 |some v=>
  refine wpAny_bind (wpAny_mono h₁ (λ_ s' h'=>?_) λ_ _ z=>False.elim z)
  refine wpAny_bind (wpAny_mono h' (λ_ s₂ h₂=>wpAny_bind (wpAny_mono h₂ (λok s₃ h₃=>?_) λ_ _ z=>False.elim z)) λ_ _ z=>False.elim z)
  cases ok with
  |false=>exact wpAny_pure ⟨rfl,h₃⟩
  |true=>
   exact wpAny_bind (wpAny_bind (wpAny_mono h₃ (λx s₄ h₄=>wpAny_bind (wpAny_mono h₄ (λ_ s₅ h₅=>wpAny_pure (wpAny_pure ⟨rfl,h₅⟩)) λ_ _ z=>False.elim z)) λ_ _ z=>False.elim z))
end
def zBB(J:It)(a:Addr)(own:Nat)(fr:List Nat)(g:TG)(tf:TT)(te:TE)(σ:St)(H1:Hp)(Q:VK):Prop:=
 ∃(n:Nat) (Pv:Nat->List V->Hp->Prop),Pv 0 [] (upd H1 a (.lst []))/\∀i ys H2,i<=n->H2 a=some (.lst ys)->Pv i ys H2 ->
  (J.stop i H2/\Q (.ref a) H2)\/(i<n/\J.go i H2/\∀x H3,J.yld i H2 x H3->g x (σc own fr σ) H3 λσ4 H4=>(∃ow,ow.length=own/\σ4=ow++σf fr σ)/\tf σ4 H4 λb H5=>
   if b=true then te σ4 H5 λy H6=>H6 a=some (.lst ys)/\ys.length<sizeLine/\Pv (i+1) (ys++[y]) (upd H6 a (.lst (ys++[y])))
   else H5 a=some (.lst ys)/\Pv (i+1) ys H5)
def PFs(X:Cx)(ifs:List Expr)(t:TT):Prop:=
 ∀(pins:List (Addr×Obj)) (s:Shared) (σ:St) (H:Hp) (Q:Bool->Hp->Prop),Inv X pins σ H s->t σ H Q ->
  wpAny (model X.prog X.w) X.A (forIn ifs true λc r=>if r=true then do let ok <- isTrue c X.env (eval c X.env);pure (ForInStep.yield ok) else pure (ForInStep.yield r)) (TP X pins σ Q) X.xe s
def zGZ:TT:=λ_ H Q=>Q true H
theorem zGa{X:Cx}:PFs X [] zGZ:=λpins s σ H Q I h=>wpAny_tests_nil ⟨H,I,h⟩
theorem zF9{X:Cx}{c:Expr}{t:TT}(h:PT X c t):PFs X [c] t:=λpins s σ H Q I hw=>wpAny_tests_one (h pins s σ H Q I hw)
section
variable{X:Cx}{pins:List (Addr×Obj)}{σ:St}{H:Hp}{s:Shared}{N:List Str}{own:Nat}{fr:List Nat}{scope:Scope}{cl:List (Str×Addr)}{elt tg iter:Expr}{ifs:List Expr}{pos:Pos}
 {it:Addr} {fp:List Addr} {tn:Nat->Heap->Prop} {J:It} {g:TG} {tf:TT} {te:TE} {Q:VK} {E:Value->Shared->Prop}
theorem xN{RR:Value->Addr->Result->Shared->Prop}(hc:X.calm=true)(S:jH X.env.scope X.N N own fr scope)(hcl:∀x c,cl.lookup x=some c->X.env.cells.lookup x=some c)
  (hcf:∀y∈scope.names,y.2=.free->∃c,cl.lookup y.1=some c)
  (hg:∀C s H,PG (cN X N scope cl C fp s H) tg g) (hf:∀C s H,PFs (cN X N scope cl C fp s H) ifs tf) (he:∀C s H,PE (cN X N scope cl C fp s H) elt te)
  (I:Inv X pins σ H s) (T:iB X.prog X.w X.K tg J fp it tn) (st:tn 0 s.heap) (hfp:∀b∈fp,eO X pins H b) (hw:∀a,H a=none->zBB J a own fr g tf te σ H Q)
  (hRR:∀a C s' H',Inv X pins σ H' s'->Q (.ref a) H'->eO X pins H' C->(∃m,s'.heap.Ns C m)->RR (.ref a) C (.ok .next) s'):
  wpAny (model X.prog X.w) X.A (newList []) (λacc s₃=>wpAny (model X.prog X.w) X.A (newFunctionEnv scope X.env.globals cl [] X.env.qual none .none (some X.env)) (λcenv s₄=>
   codeAny (model X.prog X.w) X.A (.compStart (.ListComp elt [⟨tg,iter,ifs,0⟩] scope pos) 0 (.ref it) acc {cenv with scope:=relabel scope X.env}) (RR acc cenv.locals) s₄) E s₃) E s:=by
 refine wpAny_newObj_type (wpAny_newFunctionEnv S.nocell (by intro y hy;simp at hy) (λh₁ hns₁ hsb₁=>?_) S.kind)
 dsimp only at hns₁ hsb₁ ⊢
 have I3:Inv X pins σ (upd H s.heap.objs.size (.lst [])) {s with heap:=s.heap.push {cls:=.type "list",dict:=none,data:=.seq ([]:List Value).toArray}}:=I.lnew (ys:=[]) (t':=s.toks) .nil (Nat.zero_le _)
 have hfo:∀b∈fp,∃o,s.heap.get? b=some o:=λb hb=>let ⟨o,ho,_⟩:=T.obj _ _ st b hb;⟨o,ho⟩
 have hlt:∀b∈fp,b<s.heap.objs.size:=λb hb=>let ⟨o,ho⟩:=hfo b hb;Heap.lt_size ho
 have fp3:∀b∈fp,eO X pins (upd H s.heap.objs.size (.lst [])) b:=λb hb=>⟨by rw[bL (Nat.ne_of_lt (hlt b hb))];exact(hfp b hb).1,(hfp b hb).2⟩
 obtain⟨n0,W,w0,turn⟩:=hw s.heap.objs.size I.fresh
 generalize hs3:({s with heap:=s.heap.push {cls:=.type "list",dict:=none,data:=.seq ([]:List Value).toArray}}:Shared)=s3 at I3
 have eh:s3.heap=s.heap.push {cls:=.type "list",dict:=none,data:=.seq ([]:List Value).toArray}:=by rw[<-hs3]
 rw[<-eh]at hns₁ hsb₁ ⊢
 have hk:∀b o,s3.heap.get? b=some o->h₁.get? b=some o:=λb o e=>hsb₁.extBut b o (Nat.ne_of_lt (Heap.lt_size e)) (Heap.get?_push_of_some _ e)
 have hk0:∀b o,s.heap.get? b=some o->s3.heap.get? b=some o:=λb o e=>by rw[eh];exact Heap.get?_push_of_some _ e
 have J0:Inv (cN X N scope cl s3.heap.objs.size fp s3 (upd H s.heap.objs.size (.lst []))) [] (σc own fr σ) (upd H s.heap.objs.size (.lst [])) {s3 with heap:=h₁}:=
  zEo I3 S hcl hcf fp3 (λb hb=>let ⟨o,ho⟩:=hfo b hb;⟨o,hk0 b o ho⟩) hns₁ hk
 have st0:tn 0 h₁:=T.keep _ _ _ st λb _ o e=>hk b o (hk0 b o e)
 have stat:∀{H':Hp},(∀b∈fp,H' b=none)->∀b∈fp,eO (cN X N scope cl s3.heap.objs.size fp s3 (upd H s.heap.objs.size (.lst []))) [] H' b:=λhn b hb=>
  ⟨hn b hb,(J0.ok.exf b hb).1,J0.ok.exfs b hb,.inl hb,(J0.ok.exf b hb).2,λp hp=>absurd (show p∈([]:List (Addr×Obj)) from hp) (by simp)⟩
 have loop:∀s4:Shared,s4={s3 with heap:=h₁}->codeAny (model X.prog X.w) X.A (.compLoop (.ListComp elt [⟨tg,iter,ifs,0⟩] scope pos) 0 (.ref it) (.ref s.heap.objs.size) (compEnvC scope cl s3.heap.objs.size X.env))
   (RR (.ref s.heap.objs.size) s3.heap.objs.size) s4:=by
  rintro s4 rfl
  refine zCn (λn s'=>∃i ow H' ys,Inv (cN X N scope cl s3.heap.objs.size fp s3 (upd H s.heap.objs.size (.lst []))) [] (ow++σf fr σ) H' s'/\ow.length=own/\tn i s'.heap/\(∀b∈fp,H' b=none)/\H' s.heap.objs.size=some (.lst ys)/\(n=n0-i/\i<=n0)/\W i ys H') ?_ n0
   ⟨0,List.replicate own none,_,[],J0,by simp,st0,λb hb=>(fp3 b hb).1,bM,⟨rfl,Nat.zero_le _⟩,w0⟩
  rintro n s5 ⟨i,ow,H5,ys,I5,hlo,st5,fr5,ha5,⟨rfl,hi5⟩,w5⟩
  rcases turn i ys H5 hi5 ha5 w5 with⟨stop,qn⟩|⟨hin,go,step⟩
  ·refine thn (T.done (cN X N scope cl s3.heap.objs.size fp s3 (upd H s.heap.objs.size (.lst []))) rfl rfl rfl hc i [] s5 _ H5 (λ_ _=>False) I5 (stat fr5) st5 stop) λr s6 ⟨hr,I6⟩=>?_
   subst hr
   have IX:Inv X pins σ H5 s6:=I3.call' I6.os I6.base I6.hok I6.bare λb hb=>let ⟨_,f2,_,f4,f5,f6⟩:=fp3 b hb;⟨f4,f2,f5,f6⟩
   refine hRR _ _ s6 H5 IX qn (I3.fpOk (Nat.le_refl _) I6.free) ?_
   obtain⟨m,hn,_⟩:=I6.loc
   exact⟨m,hn⟩
  ·refine thn (T.item (cN X N scope cl s3.heap.objs.size fp s3 (upd H s.heap.objs.size (.lst []))) rfl rfl rfl hc i [] s5 _ H5 (λ_ _=>False) I5 (stat fr5) st5 go) λr s6 ⟨u,hr,h6⟩=>?_
   subst hr
   refine thn h6 λ_ s7 ⟨x,H7,I7,r7,y7,st7,fr7⟩=>?_
   have I7':=(I7.pinned (stat fr7) (T.obj _ _ st7)).weak (σ':=σc own fr σ) (by unfold σc;simp[hlo]) (λj v e=>by
    unfold σc at e
    rcases Nat.lt_or_ge j own with z|z
    ·rw[List.getElem?_append_left (by simpa using z),List.getElem?_replicate]at e
     split at e<;>cases e
    ·rw[List.getElem?_append_right (by simpa using z)]at e
     rw[List.getElem?_append_right (by rw[hlo];exact z),hlo]
     simpa using e)
   refine thn (hg _ _ _ _ s7 _ H7 x u _ I7' r7 (step x H7 y7)) λ_ s8 ⟨σ8,H8,I8,⟨ow8,hl8,e8⟩,q8⟩=>?_
   refine thn (hf _ _ _ _ s8 _ H8 _ I8 q8) λok s9 ⟨H9,I9,q9⟩=>?_
   have again:∀{H':Hp} {s':Shared},Inv (cN X N scope cl s3.heap.objs.size fp s3 (upd H s.heap.objs.size (.lst []))) ([]++mN fp s7.heap) σ8 H' s'->∀{ys':List V},H' s.heap.objs.size=some (.lst ys')->W (i+1) ys' H' ->
     ∃m,m<n0-i/\∃i ow H' ys,Inv (cN X N scope cl s3.heap.objs.size fp s3 (upd H s.heap.objs.size (.lst []))) [] (ow++σf fr σ) H' s'/\ow.length=own/\tn i s'.heap/\(∀b∈fp,H' b=none)/\H' s.heap.objs.size=some (.lst ys)/\(m=n0-i/\i<=n0)/\W i ys H':=λ{H' s'} I' {ys'} ha hw'=>by
    refine⟨n0-(i+1),by omega,i+1,ow8,H',ys',e8▸I'.unpinned,hl8,T.keep _ _ _ st7 λb hb o e=>(I'.pin (b,o) (List.mem_append_right _ (List.mem_append_right _ (nY hb e)))).1,λb hb=>?_,ha,⟨rfl,hin⟩,hw'⟩
    obtain⟨o,e,_⟩:=T.obj _ _ st7 b hb
    exact(I'.pin (b,o) (List.mem_append_right _ (List.mem_append_right _ (nY hb e)))).2.1
   cases ok with
   |false=>
    have q9':H9 s.heap.objs.size=some (.lst ys)/\W (i+1) ys H9:=by simpa using q9
    obtain⟨ha,hw'⟩:=q9'
    show if false=true then _ else _
    rw[if_neg (by decide)]
    exact again I9 ha hw'
   |true=>
    rw[if_pos rfl]at q9
    show if true=true then _ else _
    rw[if_pos rfl]
    refine thn (he _ _ _ _ s9 _ H9 _ I9 q9) λy s10 ⟨v10,H10,I10,r10,ha10,hz10,hw'⟩=>?_
    refine thn (sA _ s10 _ H10 (.ref s.heap.objs.size) [v10] (.ref s.heap.objs.size) [y] (λ_ H'=>H'=upd H10 s.heap.objs.size (.lst (ys++[v10]))) I10 rfl (.cons r10 .nil) ⟨_,ys,v10,rfl,rfl,ha10,hz10,rfl⟩) λ_ s11 ⟨_,H11,I11,_,e11⟩=>?_
    subst e11
    exact again I11 bM hw'
 exact codeAny_compStart_list (loop _ (by rw[<-hs3];rfl)) (T.self X.A 0 _ _ _ st0 (loop _ (by rw[<-hs3];rfl)))
end
def uO(own:Nat)(fr:List Nat)(wi:TI)(g:TG)(tf:TT)(te:TE):TE:=λσ H Q=>wi σ H λJ H1=>∀a,H1 a=none->zBB J a own fr g tf te σ H1 Q
section
variable{X:Cx}{sc:Scope}{XN N:List Str}{own:Nat}{fr:List Nat}{scope:Scope}{elt tg iter:Expr}{ifs:List Expr}{pos:Pos}{wi:TI}{g:TG}{tf:TT}{te:TE}
theorem zE3(hc:X.calm=true)(S:jH sc XN N own fr scope)(hi:PI X tg iter wi)
  (hg:∀cl C fp s H,PG (cN X N scope cl C fp s H) tg g) (hf:∀cl C fp s H,PFs (cN X N scope cl C fp s H) ifs tf) (he:∀cl C fp s H,PE (cN X N scope cl C fp s H) elt te)
  (hs:∀x,foldedSetIterable iter X.env x=pure x:=by intro _;rfl) (hsc:X.env.scope=sc:=by rfl) (hxn:X.N=XN:=by rfl):PE X (.ListComp elt [⟨tg,iter,ifs,0⟩] scope pos) (uO own fr wi g tf te):=by
 subst hsc hxn
 intro pins s σ H Q I h
 obtain⟨cl,c1,c2,c3⟩:=xO (scope:=scope) (env:=X.env) λy hy e=>I.ok.has y.1 (S.free y hy e)
 rw[eval_ListComp]
 refine wpAny_comprehension_free (use:=none) rfl hs c1 S.kind S.loc (thn (hi pins s σ H _ I h) λxv s1 h1=>thn h1 λitv s2 h2=>?_)
 obtain⟨it,fp,tn,J,H2,e,I2,T,st2,f2,hw⟩:=h2
 subst e
 refine xN hc S c2 c3 (λC s H=>hg cl C fp s H) (λC s H=>hf cl C fp s H) (λC s H=>he cl C fp s H) I2 T st2 f2 hw λa C s' H' I' q fC ⟨m,hn⟩=>?_
 refine⟨m,hn,λh' hs'=>?_⟩
 obtain⟨f0,f1,_,f3,f4,f5⟩:=fC
 exact⟨.ref a,H',I'.turned (t':=s'.toks) (λb o hb e=>hs'.extBut b o hb e) f0 f1 f3 f4 f5,rfl,q⟩
theorem zAr{i:Nat}{x:Str}{pos' spos:Pos}(hc:X.calm=true)(hN:X.N.Nodup)(hx:X.N[i]?=some x)(hl:Loc X.env.scope x)(S:jH sc XN N own fr scope)(hi:PI X tg iter wi)
  (hg:∀cl C fp s H,PG (cN X N scope cl C fp s H) tg g) (hf:∀cl C fp s H,PFs (cN X N scope cl C fp s H) ifs tf) (he:∀cl C fp s H,PE (cN X N scope cl C fp s H) elt te)
  (hsw:swapsWith (.ListComp elt [⟨tg,iter,ifs,0⟩] scope pos) (some (.Name x pos')) spos.line X.env=pure true:=by rfl)
  (hf':X.fn x=true\/X.env.scope.names.lookup x=some .local:=by first|exact .inl rfl|exact .inr rfl|assumption)
  (hs:∀x,foldedSetIterable iter X.env x=pure x:=by intro _;rfl) (hsc:X.env.scope=sc:=by rfl) (hxn:X.N=XN:=by rfl):PS X (.Assign [.Name x pos'] (.ListComp elt [⟨tg,iter,ifs,0⟩] scope pos) spos) (qF (uO own fr wi g tf te) (pY i)):=by
 subst hsc hxn
 intro pins s σ H D I h
 obtain⟨cl,c1,c2,c3⟩:=xO (scope:=scope) (env:=X.env) λy hy e=>I.ok.has y.1 (S.free y hy e)
 rw[exec_Assign_Name_used _ _ _ _ hsw]
 refine wpAny_bind (wpAny_standAt (wpAny_bind ?_))
 show wpAny _ X.A (do let _ <- comprehension (.ListComp elt [⟨tg,iter,ifs,0⟩] scope pos) scope X.env _ (newList []) false (eval iter X.env) (some (assign (.Name x pos') X.env))) _ _ s
 refine wpAny_bind (wpAny_mono (wpAny_comprehension_free (use:=some (assign (.Name x pos') X.env)) (Q:=λ_ s'=>SP X pins D .next s') rfl hs c1 S.kind S.loc
  (thn (hi pins s σ H _ I h) λxv s1 h1=>thn h1 λitv s2 h2=>?_)) (λ_ s' hq=>wpAny_pure (wpAny_pure hq)) λ_ _ e=>e)
 obtain⟨it,fp,tn,J,H2,e,I2,T,st2,f2,hw⟩:=h2
 subst e
 refine xN hc S c2 c3 (λC s H=>hg cl C fp s H) (λC s H=>hf cl C fp s H) (λC s H=>he cl C fp s H) I2 T st2 f2 hw λa C s' H' I' q fC ⟨m,hn⟩=>?_
 obtain⟨f0,f1,f2',f3,f4,f5⟩:=fC
 show wpAny _ _ (assign (.Name x pos') X.env (.ref a)) _ _ _
 refine wpAny_assign_Name (xT I' hN hx hl (show RelV (.ref a) (.ref a) from rfl) (λs2 J2 ⟨b,hb,hb'⟩=>?_) hf')
 have hbC:C≠b:=by
  rcases hb' with z|z
  ·rw[z];exact f1
  ·exact λe=>f4 _ _ z e.symm
 refine⟨m,hn.sameBut hb hbC,λh' hs'=>?_⟩
 exact⟨_,H',J2.turned (t':=s2.toks) (λb o hb e=>hs'.extBut b o hb e) f0 f1 f3 f4 f5,q⟩
end
end L2
namespace L2
open PySem PySem.Spec PyProof.Rows
section
variable{X:Cx}
def TyV(K:W.Frag)(T:String)(x:V)(H:Hp)(b:Bool):Prop:=match x with
 |.non=>b=false
 |.bl _=>b=(T=="bool" || T=="int")
 |.int _=>b=(T=="int")
 |.str _=>b=(T=="str")
 |.ref a=>(∃xs,SqL K H a xs/\b=(T=="list"))\/(∃xs,SqT K H a xs/\b=(T=="tuple"))\/(∃kvs,Rd H a (.dK kvs)/\b=(T=="dict"))
 |_=>False
theorem oV{prog:Program}{w:World}{A:Around}{E:Value->Shared->Prop}{s:Shared}{Q:Value->Shared->Prop}{T:String}(hne:(Value.type "NoneType"==Value.type T)=false)(hty:typeOf (.type T)=pure (.type "type"))
  (hsub:isSubtype (.type "NoneType") (.type T)=pure false) (h:Q (.bool false) {s with toks:=s.toks+1}):wpAny (model prog w) A (call (.builtin "isinstance") [.none,.type T]) Q E s:=
 call_isinstance (S:=λ_ R s=>R (.ok (.ret (.bool false))) {s with toks:=s.toks+1}) (λ_ _ _ _ s hs=>by
  obtain⟨h,g,d,t,os⟩:=s
  exact isinstance_outer (isinstance_nested_false_none hne hty hsub hs)) h
theorem Inv.lcls{pins:List (Addr×Obj)}{σ:St}{H:Hp}{s:Shared}{a:Addr}{xs:List V}(I:Inv X pins σ H s)(h:SqL X.K H a xs):∃o,s.heap.get? a=some o/\o.cls=.type "list":=by
 obtain⟨its,r,pl,hz⟩:=I.list h
 obtain⟨o,ho,hc,_⟩:=pl.isList
 exact⟨o,ho,hc⟩
theorem Inv.tcls{pins:List (Addr×Obj)}{σ:St}{H:Hp}{s:Shared}{a:Addr}{xs:List V}(I:Inv X pins σ H s)(h:SqT X.K H a xs):∃o,s.heap.get? a=some o/\o.cls=.type "tuple":=by
 obtain⟨its,r,⟨o,ho,hc,_⟩,hz⟩:=I.tuple h
 exact⟨o,ho,hc⟩
theorem Inv.dcls{pins:List (Addr×Obj)}{σ:St}{H:Hp}{s:Shared}{a:Addr}{kvs:List (Key×V)}(I:Inv X pins σ H s)(h:Rd H a (.dK kvs)):∃o,s.heap.get? a=some o/\o.cls=.type "dict":=by
 obtain⟨_,_,vs,_,dd⟩:=h.ok I.hok
 obtain⟨o,ho,hc⟩:=dd.typeIs
 exact⟨o,ho,hc⟩
theorem wS:CallR X (.builtin "isinstance") (λxs H Q=>∃x b,xs=[x,.ty "int"]/\TyV X.K "int" x H b/\Q (.bl b) H):=by
 intro pins s σ H xs us Q I r h
 obtain⟨x,b,rfl,hx,q⟩:=h
 obtain⟨u,w',rfl,rx,ry⟩:=kT r
 cases ry
 cases x with
 |non=>cases rx;cases hx;exact oV (by decide +kernel) F.isi_meta_int F.sub_NoneType_int ⟨.bl _,H,I.tok _,rfl,q⟩
 |bl k=>cases rx;cases hx;exact IsiPair.bool_int ⟨.bl _,H,I,rfl,q⟩
 |int i=>obtain⟨t,rfl⟩:=rx;cases hx;exact IsiPair.int_int ⟨.bl _,H,I,rfl,q⟩
 |str i=>obtain⟨t,rfl⟩:=rx;cases hx;exact IsiPair.str_int ⟨.bl _,H,I.tok _,rfl,q⟩
 |ref a=>
  cases rx
  rcases hx with⟨xs,hx,rfl⟩|⟨xs,hx,rfl⟩|⟨xs,hx,rfl⟩
  ·obtain⟨o,ho,hc⟩:=I.lcls hx;exact IsiPair.list_int ho hc ⟨.bl _,H,I.tok _,rfl,q⟩
  ·obtain⟨o,ho,hc⟩:=I.tcls hx;exact IsiPair.tuple_int ho hc ⟨.bl _,H,I.tok _,rfl,q⟩
  ·obtain⟨o,ho,hc⟩:=I.dcls hx;exact IsiPair.dict_int ho hc ⟨.bl _,H,I.tok _,rfl,q⟩
 |_=>exact False.elim hx
theorem wN:CallR X (.builtin "isinstance") (λxs H Q=>∃x b,xs=[x,.ty "bool"]/\TyV X.K "bool" x H b/\Q (.bl b) H):=by
 intro pins s σ H xs us Q I r h
 obtain⟨x,b,rfl,hx,q⟩:=h
 obtain⟨u,w',rfl,rx,ry⟩:=kT r
 cases ry
 cases x with
 |non=>cases rx;cases hx;exact oV (by decide +kernel) F.isi_meta_bool F.sub_NoneType_bool ⟨.bl _,H,I.tok _,rfl,q⟩
 |bl k=>cases rx;cases hx;exact IsiPair.bool_bool ⟨.bl _,H,I,rfl,q⟩
 |int i=>obtain⟨t,rfl⟩:=rx;cases hx;exact IsiPair.int_bool ⟨.bl _,H,I.tok _,rfl,q⟩
 |str i=>obtain⟨t,rfl⟩:=rx;cases hx;exact IsiPair.str_bool ⟨.bl _,H,I.tok _,rfl,q⟩
 |ref a=>
  cases rx
  rcases hx with⟨xs,hx,rfl⟩|⟨xs,hx,rfl⟩|⟨xs,hx,rfl⟩
  ·obtain⟨o,ho,hc⟩:=I.lcls hx;exact IsiPair.list_bool ho hc ⟨.bl _,H,I.tok _,rfl,q⟩
  ·obtain⟨o,ho,hc⟩:=I.tcls hx;exact IsiPair.tuple_bool ho hc ⟨.bl _,H,I.tok _,rfl,q⟩
  ·obtain⟨o,ho,hc⟩:=I.dcls hx;exact IsiPair.dict_bool ho hc ⟨.bl _,H,I.tok _,rfl,q⟩
 |_=>exact False.elim hx
theorem wR:CallR X (.builtin "isinstance") (λxs H Q=>∃x b,xs=[x,.ty "str"]/\TyV X.K "str" x H b/\Q (.bl b) H):=by
 intro pins s σ H xs us Q I r h
 obtain⟨x,b,rfl,hx,q⟩:=h
 obtain⟨u,w',rfl,rx,ry⟩:=kT r
 cases ry
 cases x with
 |non=>cases rx;cases hx;exact oV (by decide +kernel) F.isi_meta_str F.sub_NoneType_str ⟨.bl _,H,I.tok _,rfl,q⟩
 |bl k=>cases rx;cases hx;exact IsiPair.bool_str ⟨.bl _,H,I.tok _,rfl,q⟩
 |int i=>obtain⟨t,rfl⟩:=rx;cases hx;exact IsiPair.int_str ⟨.bl _,H,I.tok _,rfl,q⟩
 |str i=>obtain⟨t,rfl⟩:=rx;cases hx;exact IsiPair.str_str ⟨.bl _,H,I,rfl,q⟩
 |ref a=>
  cases rx
  rcases hx with⟨xs,hx,rfl⟩|⟨xs,hx,rfl⟩|⟨xs,hx,rfl⟩
  ·obtain⟨o,ho,hc⟩:=I.lcls hx;exact IsiPair.list_str ho hc ⟨.bl _,H,I.tok _,rfl,q⟩
  ·obtain⟨o,ho,hc⟩:=I.tcls hx;exact IsiPair.tuple_str ho hc ⟨.bl _,H,I.tok _,rfl,q⟩
  ·obtain⟨o,ho,hc⟩:=I.dcls hx;exact IsiPair.dict_str ho hc ⟨.bl _,H,I.tok _,rfl,q⟩
 |_=>exact False.elim hx
theorem wM:CallR X (.builtin "isinstance") (λxs H Q=>∃x b,xs=[x,.ty "list"]/\TyV X.K "list" x H b/\Q (.bl b) H):=by
 intro pins s σ H xs us Q I r h
 obtain⟨x,b,rfl,hx,q⟩:=h
 obtain⟨u,w',rfl,rx,ry⟩:=kT r
 cases ry
 cases x with
 |non=>cases rx;cases hx;exact oV (by decide +kernel) F.isi_meta_list F.sub_NoneType_list ⟨.bl _,H,I.tok _,rfl,q⟩
 |bl k=>cases rx;cases hx;exact IsiPair.bool_list ⟨.bl _,H,I.tok _,rfl,q⟩
 |int i=>obtain⟨t,rfl⟩:=rx;cases hx;exact IsiPair.int_list ⟨.bl _,H,I.tok _,rfl,q⟩
 |str i=>obtain⟨t,rfl⟩:=rx;cases hx;exact IsiPair.str_list ⟨.bl _,H,I.tok _,rfl,q⟩
 |ref a=>
  cases rx
  rcases hx with⟨xs,hx,rfl⟩|⟨xs,hx,rfl⟩|⟨xs,hx,rfl⟩
  ·obtain⟨o,ho,hc⟩:=I.lcls hx;exact IsiPair.list_list ho hc ⟨.bl _,H,I,rfl,q⟩
  ·obtain⟨o,ho,hc⟩:=I.tcls hx;exact IsiPair.tuple_list ho hc ⟨.bl _,H,I.tok _,rfl,q⟩
  ·obtain⟨o,ho,hc⟩:=I.dcls hx;exact IsiPair.dict_list ho hc ⟨.bl _,H,I.tok _,rfl,q⟩
 |_=>exact False.elim hx
theorem zDG(hc:X.calm=true):CallR X (.builtin "sum") (λxs H Q=>∃(p:Addr) (ns:List Int),xs=[.ref p]/\SqL X.K H p (ns.map V.int)/\Q (.int ns.sum) H):=by
 intro pins s σ H xs us Q I r h
 obtain⟨p,ns,rfl,hq,q⟩:=h
 obtain⟨u,rfl,rx⟩:=cF r
 cases rx
 obtain⟨its,rv,pl,hz⟩:=I.list hq
 have hi:IntsAre its ns:=nZ rv
 have hall:=hi.allInts
 have e0:=hi.numsOf
 obtain⟨xs,ex⟩:=hall.items
 have e1:numsOf (intItems xs).toList=ns:=by rw[<-ex];exact e0
 rw[nums_intItems]at e1
 have hl:=pl.isList
 rw[ex]at hl
 refine sum_intListG (I.ok.hd hc) hl λh' tk t' hk=>⟨.int ns.sum,H,I.kept hk,⟨t',?_⟩,q⟩
 rw[preSum_eq,List.take_of_length_le (by simp),e1]
theorem wU{prog:Program}{w:World}{A:Around}{bs:List Bool}{its:List Value}(rv:Vals (bs.map V.bl) its):TruthOf prog w A (λi v=>its.toArray[i]?=some v) λi=>bs.getD i false:=by
 intro i v s Q E hP hQ
 have hi:its[i]?=some v:=by simpa using hP
 have hl:=rv.length
 rw[List.length_map]at hl
 have hlt:i<bs.length:=by rw[hl];exact(List.getElem?_eq_some_iff.mp hi).1
 obtain⟨u,hu,ru⟩:=rv.get (i:=i) (x:=V.bl (bs.getD i false)) (by rw[List.getElem?_map,List.getD_eq_getElem?_getD,List.getElem?_eq_getElem hlt];rfl)
 rw[hi]at hu
 cases hu
 cases ru
 exact wpAny_truthy_bool hQ
theorem zDn(bs:List Bool):(List.range bs.length).all (λi=>bs.getD i false)=bs.all id:=by
 induction bs with
 |nil=>rfl
 |cons b r ih=>
  rw[List.length_cons,List.range_succ_eq_map,List.all_cons,List.all_cons,List.all_map]
  rw[<-ih]
  rfl
theorem zDm(bs:List Bool):(List.range bs.length).any (λi=>bs.getD i false)=bs.any id:=by
 induction bs with
 |nil=>rfl
 |cons b r ih=>
  rw[List.length_cons,List.range_succ_eq_map,List.any_cons,List.any_cons,List.any_map]
  rw[<-ih]
  rfl
theorem zDP(hc:X.calm=true):CallR X (.builtin "all") (λxs H Q=>∃(p:Addr) (bs:List Bool),xs=[.ref p]/\SqL X.K H p (bs.map V.bl)/\Q (.bl (bs.all id)) H):=by
 intro pins s σ H xs us Q I r h
 obtain⟨p,bs,rfl,hq,q⟩:=h
 obtain⟨u,rfl,rx⟩:=cF r
 cases rx
 obtain⟨its,rv,pl,hz⟩:=I.list hq
 have hlt:p<s.heap.objs.size:=by obtain⟨_,e,_⟩:=pl.isList;exact Heap.lt_size e
 have hll:=rv.length
 rw[List.length_map]at hll
 refine call_all_walk (wpAny_pyIter_list pl.isList ?_)
 refine⟨s.heap.objs.size,_,_,_,_,_,λi=>bs.getD i false,rfl,Walks.list (A:=X.A.in1) (I.ok.hd hc) _ p (Nat.ne_of_lt hlt) its.toArray,⟨⟨_,Heap.get?_push_size _ rfl,rfl,rfl⟩,pl.isList.at λo e=>Heap.get?_push_of_some _ e⟩,wU rv,λh' tk hk=>?_⟩
 refine⟨.bl (bs.all id),H,I.kept λb o e=>hk b o (by simpa using Nat.ne_of_lt (Heap.lt_size e)) (Heap.get?_push_of_some _ e),?_,q⟩
 show Value.bool _=Value.bool _
 rw[List.size_toArray,<-hll,zDn]
theorem zDO(hc:X.calm=true):CallR X (.builtin "any") (λxs H Q=>∃(p:Addr) (bs:List Bool),xs=[.ref p]/\SqL X.K H p (bs.map V.bl)/\Q (.bl (bs.any id)) H):=by
 intro pins s σ H xs us Q I r h
 obtain⟨p,bs,rfl,hq,q⟩:=h
 obtain⟨u,rfl,rx⟩:=cF r
 cases rx
 obtain⟨its,rv,pl,hz⟩:=I.list hq
 have hlt:p<s.heap.objs.size:=by obtain⟨_,e,_⟩:=pl.isList;exact Heap.lt_size e
 have hll:=rv.length
 rw[List.length_map]at hll
 refine call_any_walk (wpAny_pyIter_list pl.isList ?_)
 refine⟨s.heap.objs.size,_,_,_,_,_,λi=>bs.getD i false,rfl,Walks.list (A:=X.A.in1) (I.ok.hd hc) _ p (Nat.ne_of_lt hlt) its.toArray,⟨⟨_,Heap.get?_push_size _ rfl,rfl,rfl⟩,pl.isList.at λo e=>Heap.get?_push_of_some _ e⟩,wU rv,λh' tk hk=>?_⟩
 refine⟨.bl (bs.any id),H,I.kept λb o e=>hk b o (by simpa using Nat.ne_of_lt (Heap.lt_size e)) (Heap.get?_push_of_some _ e),?_,q⟩
 show Value.bool _=Value.bool _
 rw[List.size_toArray,<-hll,zDm]
def fM:List V->List V->Bool
 |[],[]=>true
 |x::xs,y::ys=>eqV x y&&fM xs ys
 |_,_=>false
theorem zX:∀{xs ys:List V},xs.length≠ys.length->fM xs ys=false
 |[],[],h=>absurd rfl h
 |[],_::_,_=>rfl
 |_::_,[],_=>rfl
 |x::xs,y::ys,h=>by
  have:=zX (xs:=xs) (ys:=ys) (λe=>h (by simp[e]))
  simp[fM,this]
theorem xM:∀{xs ys:List V},xs.length=ys.length->(List.range xs.length).all (λi=>eqV (xs.getD i .non) (ys.getD i .non))=fM xs ys
 |[],[],_=>rfl
 |[],_::_,h=>by simp at h
 |_::_,[],h=>by simp at h
 |x::xs,y::ys,h=>by
  have ih:=xM (xs:=xs) (ys:=ys) (by simpa using h)
  rw[List.length_cons,List.range_succ_eq_map,List.all_cons,List.all_map]
  show(eqV x y&&(List.range xs.length).all λi=>eqV (xs.getD i .non) (ys.getD i .non))=(eqV x y&&fM xs ys)
  rw[ih]
theorem zEF{A:Around}{s:Shared}{xs ys:List V}{us ws:List Value}(r:Vals xs us)(r':Vals ys ws)(fx:xs.all dE=true)(fy:ys.all dE=true)(j:Nat)(h1:j<us.toArray.size)(h2:j<ws.toArray.size):
  SeqAt.EqAt A s us.toArray[j] ws.toArray[j] (eqV (xs.getD j .non) (ys.getD j .non)):=by
 have l1:=r.length
 have l2:=r'.length
 have k1:j<xs.length:=by rw[l1];simpa using h1
 have k2:j<ys.length:=by rw[l2];simpa using h2
 obtain⟨u,hu,ru⟩:=r.get (i:=j) (x:=xs.getD j .non) (by rw[List.getD_eq_getElem?_getD,List.getElem?_eq_getElem k1];rfl)
 obtain⟨w',hw,rw'⟩:=r'.get (i:=j) (x:=ys.getD j .non) (by rw[List.getD_eq_getElem?_getD,List.getElem?_eq_getElem k2];rfl)
 have e1:us.toArray[j]=u:=by
  obtain⟨_,e⟩:=List.getElem?_eq_some_iff.mp hu
  simpa using e
 have e2:ws.toArray[j]=w':=by
  obtain⟨_,e⟩:=List.getElem?_eq_some_iff.mp hw
  simpa using e
 rw[e1,e2]
 refine zBj ru rw' (List.all_eq_true.mp fx _ ?_) (List.all_eq_true.mp fy _ ?_)
 ·rw[List.getD_eq_getElem?_getD,List.getElem?_eq_getElem k1];exact List.getElem_mem k1
 ·rw[List.getD_eq_getElem?_getD,List.getElem?_eq_getElem k2];exact List.getElem_mem k2
def zHY(K:W.Frag)(neg:Bool):R2:=λx y H Q=>∃p q xs ys,x=.ref p/\y=.ref q/\SqL K H p xs/\SqL K H q ys/\xs.all dE=true/\ys.all dE=true/\Q (.bl (if neg then !fM xs ys else fM xs ys)) H
theorem zGr(hu:X.A.units<cLine):OpR X (compareOp .Eq) (zHY X.K false):=by
 intro pins s σ H x y v u Q I rx ry h
 obtain⟨p,q,xs,ys,rfl,rfl,hx,hy,fx,fy,k⟩:=h
 cases rx
 cases ry
 obtain⟨us,r1,p1,z1⟩:=I.list hx
 obtain⟨ws,r2,p2,z2⟩:=I.list hy
 by_cases hl:xs.length=ys.length
 ·refine SeqAt.eq_listAt p1.isList p2.isList (by simp[<-r1.length,<-r2.length,hl]) hu (λj h1 h2=>zEF r1 r2 fx fy j h1 h2) ⟨.bl (fM xs ys),H,I,?_,k⟩
  show Value.bool _=Value.bool _
  rw[List.size_toArray,<-r1.length,xM hl]
 ·refine SeqAt.eq_list_lengthsAt p1.isList p2.isList (by simp[<-r1.length,<-r2.length,hl]) hu ⟨.bl (fM xs ys),H,I,?_,k⟩
  rw[zX hl];rfl
theorem zDY(n:Nat):sliceRange (sliceBounds none none (some (-1)) n).1 (sliceBounds none none (some (-1)) n).2.1 (sliceBounds none none (some (-1)) n).2.2=(List.range n).map λk=>n-1-k:=by
 have e:sliceBounds none none (some (-1)) n=((n:Int)-1,-1,-1):=by simp[sliceBounds]
 rw[e]
 unfold sliceRange
 simp only[show ¬ ((-1:Int) > 0) by decide,if_false]
 by_cases hn:n=0
 ·subst hn;simp
 ·have h1:(n:Int)-1 > -1:=by omega
  rw[if_pos h1]
  have h2:(((n:Int)-1 - -1 - -1-1) / (- -1)).toNat=n:=by
   rw[show(n:Int)-1 - -1 - -1-1=n by omega,show(- -1:Int)=1 by decide,Int.ediv_one]
   exact Int.toNat_natCast n
  rw[h2]
  refine List.map_congr_left λk hk=>?_
  have:=List.mem_range.mp hk
  omega
theorem zW{α β:Type}{f g:α->Option β}:∀{l:List α},(∀x∈l,f x=g x)->l.filterMap f=l.filterMap g
 |[],_=>rfl
 |x::r,h=>by rw[List.filterMap_cons,List.filterMap_cons,h x List.mem_cons_self,zW λy hy=>h y (List.mem_cons_of_mem _ hy)]
theorem yB{α:Type}:∀zs:List α,(List.range zs.length).filterMap (λk=>zs.reverse[zs.length-1-k]?)=zs
 |[]=>rfl
 |z::r=>by
  rw[List.length_cons,List.range_succ_eq_map,List.filterMap_cons,List.filterMap_map]
  have h0:(z::r).reverse[r.length+1-1-0]?=some z:=by simp
  rw[h0]
  have h1:List.filterMap ((λk=>(z::r).reverse[r.length+1-1-k]?)∘Nat.succ) (List.range r.length)=List.filterMap (λk=>r.reverse[r.length-1-k]?) (List.range r.length):=by
   apply zW
   intro k hk
   have hk:=List.mem_range.mp hk
   show(z::r).reverse[r.length+1-1-(k+1)]?=r.reverse[r.length-1-k]?
   rw[List.reverse_cons,List.getElem?_append_left (by simp;omega)]
   rw[show r.length+1-1-(k+1)=r.length-1-k by omega]
  rw[h1,yB r]
theorem zD6{α:Type}(xs:List α):((List.range xs.length).map λk=>xs.length-1-k).filterMap (λi=>xs[i]?)=xs.reverse:=by
 have:=yB xs.reverse
 rw[List.length_reverse,List.reverse_reverse]at this
 rw[List.filterMap_map]
 exact this
theorem zCb(its:List Value):slicePick its.toArray none none (some (-1))=its.reverse.toArray:=by
 unfold slicePick
 rw[List.size_toArray,zDY]
 congr 1
 have:=zD6 its
 simpa using this
def zHH(K:W.Frag)(te tst:TE):TE:=λσ H Q=>te σ H λx H1=>tst σ H1 λy H2=>y=.int (-1)/\∃p xs,x=.ref p/\SqL K H2 p xs/\∀l,H2 l=none->Q (.ref l) (upd H2 l (.lst xs.reverse))
theorem zGd{e st:Expr}{te tst:TE}{pos p2:Pos}(he:PE X e te)(hst:PE X st tst)(ht:∀o r,letTemporaryGo e o r=pure ():=by intro _ _;rfl):PE X (.Subscript e (.Slice none none (some st) p2) pos) (zHH X.K te tst):=by
 intro pins s σ H Q I h
 refine wpAny_Subscript_Slice_step (T:="list") slot_list_getitem.lookup (thn (he pins s σ H _ I h) λv s1 ⟨x,H1,I1,r1,q1⟩=>?_) ht
 refine wpAny_Slice ?_
 rw[evalPart_none,evalPart_some]
 refine wpAny_pure (wpAny_pure (thn (hst pins s1 σ H1 _ I1 q1) λvs s2 ⟨y,H2,I2,r2,q2⟩=>?_))
 obtain⟨rfl,p,xs,rfl,hx,q⟩:=q2
 obtain⟨t,rfl⟩:=r2
 cases r1
 have I3:Inv X pins σ H2 {s2 with heap:=s2.heap.push {cls:=.type "slice",data:=.fields #[.none,.none,.int (-1) t]}}:=I2.kept (t':=s2.toks) λb ob q=>Heap.get?_push_of_some _ q
 obtain⟨its,rv,pl,hz⟩:=I3.list hx
 refine⟨pl.isList.typeIs,?_⟩
 refine wpAny_getItem_list_slice pl.isList (Heap.IsSliceOf.new ..) .none .none (.int (-1) t) (by decide) ?_ (by rw[List.size_toArray,<-rv.length];exact hz)
 rw[zCb]
 refine⟨.ref _,_,I3.laid (t':=s2.toks) (o:=.lst xs.reverse) (λb ob q=>Heap.get?_push_of_some _ q) (Nat.le_refl _) ?_,rfl,q _ (I3.hok.fresh (Nat.le_refl _))⟩
 exact⟨by rw[List.length_reverse];exact hz,_,0,rv.reverse,Heap.get?_push_size _ rfl⟩
theorem zGo:OpR X (compareOp .Is) (λx y H Q=>∃b,y=.bl b/\Q (.bl (decide (x=.bl b))) H):=by
 intro pins s σ H x y v u Q I rx ry h
 obtain⟨b,rfl,q⟩:=h
 cases ry
 cases x with
 |non=>cases rx;exact wpAny_is_plain rfl ⟨.bl _,H,I,(by simp[RelV]),q⟩
 |bl k=>cases rx;exact wpAny_is_plain rfl ⟨.bl _,H,I,(by cases k<;>cases b<;>rfl),q⟩
 |int i=>obtain⟨t,rfl⟩:=rx;exact wpAny_is_plain rfl ⟨.bl _,H,I,(by simp[RelV]),q⟩
 |str i=>obtain⟨t,rfl⟩:=rx;exact wpAny_is_plain rfl ⟨.bl _,H,I,(by simp[RelV]),q⟩
 |byt i=>obtain⟨t,rfl⟩:=rx;exact wpAny_is_plain rfl ⟨.bl _,H,I,(by simp[RelV]),q⟩
 |flt i=>obtain⟨t,rfl⟩:=rx;exact wpAny_is_plain rfl ⟨.bl _,H,I,(by simp[RelV]),q⟩
 |ref i=>cases rx;exact wpAny_is_plain rfl ⟨.bl _,H,I,(by simp[RelV]),q⟩
 |ty i=>cases rx;exact wpAny_is_plain rfl ⟨.bl _,H,I,(by simp[RelV]),q⟩
def BigOk(j:Int):Prop:=j.natAbs<2 ^ 1024
theorem BigOk.log{j:Int}(h:BigOk j):j.natAbs.log2<9000:=by
 by_cases h0:j.natAbs=0
 ·rw[h0];decide +kernel
 ·have:j.natAbs.log2<1024:=(Nat.log2_lt h0).mpr h
  omega
theorem op_mulB:OpR X (binaryOp .Mult) (rI (λi j=>BigOk i/\BigOk j) λi j=>.int (i*j)):=opI λi j _ _ _ _ _ hc q=>by
 have bits:∀{x:Int},BigOk x->Builtin.Int.intBits x<=2 ^ 20:=λ{x} h=>by
  unfold Builtin.Int.intBits
  split
  ·exact Nat.zero_le _
  ·rename_i h0
   have h0':x.natAbs≠0:=λz=>h0 (by simpa using z)
   have:x.natAbs.log2<1024:=(Nat.log2_lt h0').mpr h
   omega
 exact mul_int q (.of_bits (bits hc.1) (bits hc.2))
theorem zO:OpR X (binaryOp .FloorDiv) (rI (λ_ j=>0<j/\BigOk j) λi j=>.int (i / j)):=opI λi j _ _ _ _ _ hc q=>by
 have h1:(0:Int)<j:=hc.1
 exact floordiv_int (by omega) (by rw[Int.fdiv_eq_ediv_of_nonneg i (by omega)];exact q) (.inl (PyProof.noPylong_of_log2 hc.2.log))
end
end L2
namespace L2
open PySem PySem.Spec PyProof.Rows
def eW:Expr->Bool
 |.Starred ..=>true
 |_=>false
theorem lI{e:Expr}{rest:List Expr}{env:Env}(h:eW e=false):starEach (e::rest) env=(false,eval e env)::starEach rest env:=by
 cases e<;>first|rfl|exact Bool.noConfusion h
theorem dN{X:Cx}{e:Expr}{es:List Expr}{te:TE}{t:TA}(ha:PE X e te)(hr:PA X es t)(h:eW e=false:=by rfl):PA X (e::es) (uN te t):=zE6 ha hr (lI h)
def Good(P:Program)(w:World)(K:W.Frag)(mg:Str->Option Value)(base:Heap)(k:Nat)(x:Str)(ps:List Str)(sp:Sp):Prop:=
 ∃(f:Addr) (fd:FuncData),FnOk P w K mg base CX0 k f fd ps sp/\Binds K fd ps []/\mg x=some (.ref f)/\W.keepIn K (.ref f)=true
section
variable{X:Cx}{k:Nat}{x:Str}{ps:List Str}{sp:Sp}{e:Expr}{es:List Expr}{t:TA}{p pos:Pos}
theorem pU(G:Good X.prog X.w X.K X.mg X.base k x ps sp)(hr:Room k X.A)(hg:Gl X x)(ha:PA X (e::es) t)(hdb:(x==("__debug__":Str))=false:=by decide)
  (hst:eW e=false:=by rfl) (hpl:(backTo pos (starEach es X.env)).any (·.1)=false:=by rfl):PE X (.Call (.Name x p) (e::es) [] pos) (mV sp [] E0 t):=by
 obtain⟨f,fd,F,b,m,kp⟩:=G
 exact zE5 F hr hg m kp b .nil zBs ha hdb (lI hst) hpl
theorem zGh(G:Good X.prog X.w X.K X.mg X.base k x ps sp)(hr:Room k X.A)(hg:Gl X x)(hdb:(x==("__debug__":Str))=false:=by decide):PE X (.Call (.Name x p) [] [] pos) (mV sp [] E0 qE):=by
 obtain⟨f,fd,F,b,m,kp⟩:=G
 exact zEd F hr hg m kp b .nil zBs hdb
end
def Has(K:W.Frag)(mg:Str->Option Value)(x:Str)(st:Stmt):Prop:=∃(f:Addr) (fd:FuncData),Fun K x x st f fd/\mg x=some (.ref f)
theorem Has.good{P:Program}{w:World}{K:W.Frag}{mg:Str->Option Value}{base:Heap}{x:Str}{st:Stmt}{N ps:List Str}{k:Nat}{sp:Sp}(h:Has K mg x st)(S:bG N ps (aL st))
  (hb:∀(kV doc pm:Value) (an:Option Addr) (cdv ct:Value) (us:List Value),us.length=ps.length->bindArgs (W.fnOf x x (gG st) (eQ st) (aL st) .none kV doc pm an cdv ct) ⟨us,[]⟩=pure (ps.zip us))
  (len:∀vs H Q E,sp vs H Q E->vs.length=ps.length)
  (hbody:∀(f:Addr) (cdv:Value) (A:Around) (outer:List Env) (s:Shared) (H:Hp) (vs:List V) (Q:VK) (E:XK),Room k (A.deeper (envOfC x (aL st) s.heap.objs.size f cdv))->sp vs H Q E ->
   ∃t,PSs (jA CX0 P w K mg base N x (aL st) f cdv A outer s H E).nox (eQ st) t/\t {nx:=λ_ H'=>Q .non H',rt:=Q} (dP N vs) H):Good P w K mg base (k+1) x ps sp:=by
 obtain⟨f,fd,F,m⟩:=h
 exact⟨f,fd,F.ok S len λcdv A outer s H vs Q E hr q=>hbody f cdv A outer s H vs Q E hr q,F.binds hb,m,F.kp⟩
theorem has_mk{K:W.Frag}{h:Heap}{mg:Str->Option Value}{x:Str}{st:Stmt}{f:Addr}{oc:Value}{od an:Option Addr}{osl:Array (Option Value)}{kV doc pm cdv ct:Value}(X:K.In h)(G:h.Ns mainGlobals mg)
  (a:W.nsIn K mainGlobals x=some (some (.ref f))) (l:K.lookup f=some ⟨oc,od,.func (W.fnOf x x (gG st) (eQ st) (aL st) .none kV doc pm an cdv ct),osl⟩)
  (c:W.codeIn K cdv x=true) (k:W.keepIn K (.ref f)=true):Has K mg x st:=⟨f,_,zBi l c k,PySem.W.mg_of X G a⟩
structure Own (mg:Str->Option Value):Prop where
 len:mg "len"=none
 range:mg "range"=none
 isinstance:mg "isinstance"=none
 int_:mg "int"=none
 bool_:mg "bool"=none
 str_:mg "str"=none
 list_:mg "list"=none
 tuple_:mg "tuple"=none
 dict_:mg "dict"=none
 sum:mg "sum"=none
 min:mg "min"=none
 max:mg "max"=none
 all:mg "all"=none
 any:mg "any"=none
 abs:mg "abs"=none
 zip:mg "zip"=none
 sorted:mg "sorted"=none
 set_:mg "set"=none
 enumerate:mg "enumerate"=none
theorem zGl{K:W.Frag}{h:Heap}{mg:Str->Option Value}(X:K.In h)(G:h.Ns mainGlobals mg)(z1:W.nsIn K mainGlobals "len"=some none)(z2:W.nsIn K mainGlobals "range"=some none)
    (z3:W.nsIn K mainGlobals "isinstance"=some none) (z4:W.nsIn K mainGlobals "int"=some none) (z5:W.nsIn K mainGlobals "bool"=some none) (z6:W.nsIn K mainGlobals "str"=some none)
    (z7:W.nsIn K mainGlobals "list"=some none) (z8:W.nsIn K mainGlobals "tuple"=some none) (z9:W.nsIn K mainGlobals "dict"=some none) (z10:W.nsIn K mainGlobals "sum"=some none)
    (z11:W.nsIn K mainGlobals "min"=some none) (z12:W.nsIn K mainGlobals "max"=some none) (z13:W.nsIn K mainGlobals "all"=some none) (z14:W.nsIn K mainGlobals "any"=some none)
    (z15:W.nsIn K mainGlobals "abs"=some none) (z16:W.nsIn K mainGlobals "zip"=some none) (z17:W.nsIn K mainGlobals "sorted"=some none) (z18:W.nsIn K mainGlobals "set"=some none)
    (z19:W.nsIn K mainGlobals "enumerate"=some none):Own mg:=
  ⟨PySem.W.mg_none_of X G z1,PySem.W.mg_none_of X G z2,PySem.W.mg_none_of X G z3,PySem.W.mg_none_of X G z4,PySem.W.mg_none_of X G z5,PySem.W.mg_none_of X G z6,PySem.W.mg_none_of X G z7,PySem.W.mg_none_of X G z8,PySem.W.mg_none_of X G z9,PySem.W.mg_none_of X G z10,
   PySem.W.mg_none_of X G z11,PySem.W.mg_none_of X G z12,PySem.W.mg_none_of X G z13,PySem.W.mg_none_of X G z14,PySem.W.mg_none_of X G z15,PySem.W.mg_none_of X G z16,PySem.W.mg_none_of X G z17,PySem.W.mg_none_of X G z18,PySem.W.mg_none_of X G z19⟩
structure DeckAt (H:Hp) (p c:Addr):Prop where
 ne:p≠c
 dk:∃S k:Int,H p=some (.lst [.ref c,.int S,.int k])
 cs:∃ns:List Int,H c=some (.lst (ns.map V.int))/\ns.length<=64
structure On (p c:Addr) (H H':Hp):Prop where
 d:DeckAt H' p c
 e:∀b o,H b=some o->b≠p->b≠c->H' b=some o
section
variable{p c a:Addr}{H H1 H2:Hp}{o:HO}
theorem DeckAt.nep(d:DeckAt H p c)(h:H a=none):a≠p:=λz=>by
 obtain⟨S,k,e⟩:=d.dk
 rw[z,e]at h;cases h
theorem DeckAt.nec(d:DeckAt H p c)(h:H a=none):a≠c:=λz=>by
 obtain⟨ns,e,_⟩:=d.cs
 rw[z,e]at h;cases h
theorem DeckAt.alloc(d:DeckAt H p c)(h:H a=none):DeckAt (upd H a o) p c:=by
 obtain⟨S,k,e⟩:=d.dk
 obtain⟨ns,e',l⟩:=d.cs
 exact⟨d.ne,⟨S,k,by rw[bL (d.nep h).symm];exact e⟩,ns,by rw[bL (d.nec h).symm];exact e',l⟩
theorem On.trans(x:On p c H H1)(y:On p c H1 H2):On p c H H2:=⟨y.d,λb o h hp hc=>y.e b o (x.e b o h hp hc) hp hc⟩
theorem On.alloc(x:On p c H H1)(h:H1 a=none):On p c H (upd H1 a o):=
 ⟨x.d.alloc h,λb u q hp hc=>by rw[bL (cU (x.e b u q hp hc) h)];exact x.e b u q hp hc⟩
end
def zAl:Sp:=λvs H Q _=>∃n k:Int,vs=[.int n,.int k]/\∀r:Int,Q (.int r) H
def zAZ(K:W.Frag):Sp:=λvs H Q _=>∃(a:Addr) (ns:List Int),vs=[.ref a]/\SqL K H a (ns.map V.int)/\∀(p c:Addr) (H':Hp),H p=none->H c=none->DeckAt H' p c->Same H H'->Q (.ref p) H'
def zAY:Sp:=λvs H Q _=>∃(p c:Addr) (m:Int),vs=[.ref p,.int m]/\DeckAt H p c/\0<m/\BigOk m/\∀(r:Int) (H':Hp),0<=r->r<m->On p c H H'->Q (.int r) H'
end L2
namespace L2
open PySem PySem.Spec PyProof.Rows
theorem ObjOk.there{P:Program}{w:World}{H:Hp}{h:Heap}{a:Addr}{o:HO}(x:ObjOk P w H h a o):∃ob,h.get? a=some ob:=by
 cases o with
 |lst xs=>obtain⟨_,_,_,_,e⟩:=x;exact⟨_,e⟩
 |tup xs=>obtain⟨_,_,_,ob,e,_⟩:=x;exact⟨_,e⟩
 |dK kvs=>obtain⟨_,_,_,_,o,_,_,e,_⟩:=x;exact⟨_,e⟩
 |dT kvs=>obtain⟨_,_,_,_,o,_,_,e,_⟩:=x;exact⟨_,e⟩
 |set S n=>obtain⟨o,_,_,_,e,_⟩:=x;exact⟨_,e⟩
 |ins C dx fs=>obtain⟨_,_,_,e,_⟩:=x;exact⟨_,e⟩
 |own y=>obtain⟨_,e⟩:=x;exact⟨_,e⟩
 |xd fs=>obtain⟨_,⟨_,_,_,e,_⟩,_⟩:=x;exact⟨_,e⟩
 |rng lo hi=>obtain⟨_,_,_,e⟩:=x;exact⟨_,e⟩
 |frz ob u=>obtain⟨e,_⟩:=x;exact⟨_,e⟩
 |tbl ps=>exact⟨_,(show h.get? a=some _ from x)⟩
 |met f y=>exact⟨_,(show h.get? a=some _ from x)⟩
 |ext φ=>obtain⟨_,⟨_,e⟩,_⟩:=x;exact⟨_,e⟩
end L2
namespace L2
open PySem PySem.Spec PyProof.Rows
section
variable{X:Cx}
theorem dB{H:Hp}{a:Addr}{o:HO}(h:H a=none):Same H (upd H a o):=λb u q=>by rw[bL (cU q h)];exact q
def zHd(K:W.Frag):R2:=λx y H Q=>∃a b xs ys,x=.ref a/\y=.ref b/\SqT K H a xs/\SqT K H b ys/\xs.length+ys.length<=sizeLine/\∀r H',SqT K H' r (xs++ys)->Same H H'->Q (.ref r) H'
theorem op_catG:OpR X (binaryOp .Add) (zHd X.K):=by
 intro pins s σ H x y v u Q I rx ry h
 obtain⟨a,b,xs,ys,rfl,rfl,ha,hb,hz,q⟩:=h
 by_cases hx:xs=[]
 ·subst hx
  cases rx
  cases ry
  obtain⟨its,r1,p1,_⟩:=I.tuple ha
  obtain⟨its2,r2,p2,_⟩:=I.tuple hb
  obtain⟨⟨cls,dd,data,sl⟩,ho,hc,n,hd⟩:=id p1
  obtain⟨⟨cls2,dd2,data2,sl2⟩,ho2,hc2,n2,hd2⟩:=id p2
  simp only at hc hd hc2 hd2
  subst hc hd hc2 hd2
  have e1:its=[]:=r1.nil_iff.mpr rfl
  exact concat_meets ⟨_,ho,rfl⟩ ⟨_,ho2,rfl⟩ noFill_tuple_add seq_tuple_add PySem.F.slot_tuple_add PySem.F.entry_tuple_add (PySem.F.args_tuple_add_2 _ _)
   (tuple_addW0 a b its.toArray its2.toArray n n2 dd dd2 sl sl2 (by simp[e1])) ⟨ho,ho2,⟨.ref b,H,I,rfl,q b H hb (Same.refl H)⟩⟩
 ·refine zFc pins s σ H (.ref a) (.ref b) v u Q I rx ry ⟨a,b,xs,ys,rfl,rfl,ha,hb,hx,hz,λe=>q a H (by rw[e,List.append_nil];exact ha) (Same.refl H),λ_ p hp=>q p _ (SqT.of bM) (dB hp)⟩
structure QA (X:Cx) (es:List Expr) (t:TA):Prop where
 p:PA X es t
theorem zA5:QA X [] qE:=⟨eK⟩
theorem vZ{e:Expr}{es:List Expr}{te:TE}{t:TA}(ha:PE X e te)(hr:QA X es t)(h:eW e=false:=by rfl):QA X (e::es) (uN te t):=⟨dN ha hr.p h⟩
theorem zAy{es:List Expr}{t:TA}{pos:Pos}(h:QA X es t):PE X (.List es pos) (zBF t):=zBa h.p
theorem Inv.big{pins:List (Addr×Obj)}{σ:St}{H:Hp}{s:Shared}(I:Inv X pins σ H s):sysModules<s.heap.objs.size:=by
 have h:mainGlobals<s.heap.objs.size:=(I.mod.glob.keeps I.bk).lt
 exact Nat.lt_trans (by decide) h
end
end L2
namespace L2
open PySem PySem.Spec PyProof.Rows
section
variable{X:Cx}{pins:List (Addr×Obj)}{σ:St}{H:Hp}{s:Shared}{h':Heap}
theorem Inv.turnedL{t':Nat}{ch:List Addr}(I:Inv X pins σ H s)(hf:∀b∈ch,eO X pins H b)(k:∀b o,b∉ch->s.heap.get? b=some o->h'.get? b=some o):Inv X pins σ H {s with heap:=h',toks:=t'}:=by
 have nit:∀b u,H b=some u->b∉ch:=λb u e z=>by rw[(hf b z).1]at e;cases e
 refine I.step (g':=s.gens) (d':=s.drawn) (ch:=ch) (λb hb=>?_) (λb o _ _ hc e _=>k b o hc e) (λb o _ _ hc e _=>⟨o.slots,k b o hc e⟩) (λ_ _ _ _ n=>n)
  (λb o hc e=>⟨o,k b o hc e⟩) (λ_ _ e=>e) (λ_ _ _ e=>e) (λb ps e=>⟨#[],by rw[e];simp⟩) (λm hm=>?_) (λb u e=>?_) I.bare
 ·obtain⟨_,f1,_,f3,f4,f5⟩:=hf b hb
  exact⟨f3,f1,f4,f5⟩
 ·obtain⟨o,es,ep,ho,r⟩:=hm
  exact⟨o,es,ep,k _ o (λz=>(hf _ z).2.1 rfl) ho,r⟩
 ·refine(I.hok b u e).stay (λc v hc q=>k c v ?_ q) (λ_ q=>q) λ_ _ q=>q
  rcases hc with z|z
  ·rw[z];exact nit b u e
  ·exact nit c _ z
end
section
variable{X:Cx}
theorem zDJ(hc:X.calm=true):CallR X (.builtin "min") (λxs H Q=>∃(p:Addr) (ns:List Int),xs=[.ref p]/\SqL X.K H p (ns.map V.int)/\0<ns.length/\∀M,M∈ns->(∀a∈ns,M<=a)->Q (.int M) H):=by
 intro pins s σ H xs us Q I r h
 obtain⟨p,ns,rfl,hq,hn,q⟩:=h
 obtain⟨u,rfl,rx⟩:=cF r
 cases rx
 obtain⟨its,rv,pl,hz⟩:=I.list hq
 have hi:IntsAre its ns:=nZ rv
 obtain⟨zs,ez⟩:=hi.allInts.items
 have en:ns=zs.toList.map (·.1):=by rw[<-hi.numsOf,<-nums_intItems,<-ez]
 have hz0:0<zs.size:=by rw[en,List.length_map,Array.length_toList]at hn;exact hn
 have hl:=pl.isList
 rw[ez]at hl
 refine min_intList (I.ok.hd hc) hl hz0 λv h' tk hv hk=>?_
 obtain⟨t,rfl⟩:=intItems_at hv
 obtain⟨h1,h2⟩:=argBest_lt (numAt zs) (zs.size-1)
 refine⟨.int _,H,I.kept hk,⟨t,rfl⟩,q _ ?_ λa ha=>?_⟩
 ·rw[en,numAt_eq]
  exact getD_mem (by rw[List.length_map,Array.length_toList];omega)
 ·rw[en]at ha
  obtain⟨j,hj,rfl⟩:=mem_getD ha
  rw[List.length_map,Array.length_toList]at hj
  have:=h2 j (by omega)
  rw[numAt_eq zs j]at this
  exact this
theorem zDM(hc:X.calm=true):CallR X (.builtin "max") (λxs H Q=>∃(p:Addr) (ns:List Int),xs=[.ref p]/\SqL X.K H p (ns.map V.int)/\0<ns.length/\∀M,M∈ns->(∀a∈ns,a<=M)->Q (.int M) H):=by
 intro pins s σ H xs us Q I r h
 obtain⟨p,ns,rfl,hq,hn,q⟩:=h
 obtain⟨u,rfl,rx⟩:=cF r
 cases rx
 obtain⟨its,rv,pl,hz⟩:=I.list hq
 have hi:IntsAre its ns:=nZ rv
 obtain⟨zs,ez⟩:=hi.allInts.items
 have en:ns=zs.toList.map (·.1):=by rw[<-hi.numsOf,<-nums_intItems,<-ez]
 have hz0:0<zs.size:=by rw[en,List.length_map,Array.length_toList]at hn;exact hn
 have hl:=pl.isList
 rw[ez]at hl
 refine max_intList (I.ok.hd hc) hl hz0 λv h' tk hv hk=>?_
 obtain⟨t,rfl⟩:=intItems_at hv
 obtain⟨h1,h2⟩:=argBest_gt (numAt zs) (zs.size-1)
 refine⟨.int _,H,I.kept hk,⟨t,rfl⟩,q _ ?_ λa ha=>?_⟩
 ·rw[en,numAt_eq]
  exact getD_mem (by rw[List.length_map,Array.length_toList];omega)
 ·rw[en]at ha
  obtain⟨j,hj,rfl⟩:=mem_getD ha
  rw[List.length_map,Array.length_toList]at hj
  have:=h2 j (by omega)
  rw[numAt_eq zs j]at this
  exact this
end
end L2
namespace L2
open PySem PySem.Spec PyProof.Rows
theorem zCr{us:List Value}{ns:List Int}(h:IntsAre us ns):Vals (ns.map V.int) us:=by
 induction h with
 |nil=>exact .nil
 |cons n t _ ih=>exact .cons ⟨t,rfl⟩ ih
section
variable{X:Cx}
theorem call_sortedI:CallR X (.builtin "sorted") (λxs H Q=>∃(p:Addr) (ns:List Int),xs=[.ref p]/\SqL X.K H p (ns.map V.int)/\ns.length<64 /\
  ∀(ns':List Int) (l:Addr),ns'.Perm ns->ns'.Pairwise (·<=·)->H l=none->Q (.ref l) (upd H l (.lst (ns'.map V.int)))):=by
 intro pins s σ H xs us Q I r h
 obtain⟨p,ns,rfl,hq,h64,q⟩:=h
 obtain⟨u,rfl,rx⟩:=cF r
 cases rx
 obtain⟨its,rv,pl,hz⟩:=I.list hq
 have hi:IntsAre its ns:=nZ rv
 have hll:=rv.length
 rw[List.length_map]at hll
 refine sorted_ints pl.isList hi (by omega) λout ns' a1 a2 a3=>?_
 obtain⟨e,he⟩:=sortedAll_at s.heap its out
 have hlen:=a2.length_eq
 refine⟨.ref (s.heap.objs.size+1),_,I.laid (t':=s.toks) (λb o e=>sortedAll_old e) (Nat.le_succ _) (show ObjOk X.prog X.w _ _ _ (.lst (ns'.map V.int)) from ⟨?_,out.toList,e,zCr a1,he⟩),rfl,q ns' _ a2 a3 (I.hok.fresh (Nat.le_succ _))⟩
 rw[List.length_map,hlen]
 exact Nat.le_of_lt (Nat.lt_trans h64 (by decide))
end
end L2
namespace L2
open PySem PySem.Spec PyProof.Rows
def Its(x:Str):It:=⟨λi _=>i<x.cps.size,λi H v H'=>H'=H/\∃c,x.cps[i]?=some c/\v=.str ⟨#[c]⟩,λi _=>x.cps.size<=i⟩
theorem zDa{P:Program}{w:World}{K:W.Frag}{tg:Expr}(it:Addr)(x:Str)(t:Tok):iB P w K tg (Its x) [it] it (λi h=>h.IsStrIter it "str_ascii_iterator" x t i) where
 mem:=by simp
 obj:=λi h st b hb=>by
  have e:b=it:=by simpa using hb
  subst e
  obtain⟨o,e,c,d⟩:=st
  exact⟨o,e,λv z=>by rw[d]at z;cases z⟩
 keep:=λi h h' st k=>let ⟨o,ho,r⟩:=st;⟨o,k it (by simp) o ho,r⟩
 item:=by
  intro X hP hw hK hc i pins s σ H E I hf st hg
  subst hP hw hK
  obtain⟨f0,f1,f2,f3,f4,f5⟩:=hf it (by simp)
  have W:=Walks.strAscii (prog:=X.prog) (w:=X.w) (I.ok.hd hc) it x t
  refine W.item i s _ _ hg st λv h' tk hv st' kk=>?_
  obtain⟨c,u,hc',rfl⟩:=hv
  have I1:Inv X pins σ H {s with heap:=h',toks:=tk}:=I.turned (λb o hb e=>kk b o (by simpa using hb) e) f0 f1 f3 f4 f5
  obtain⟨o,e,c1,d⟩:=id st'
  exact⟨_,rfl,lA (s:={s with heap:=h',toks:=tk}) e c1 d (by decide) ⟨.str ⟨#[c]⟩,H,I1,⟨u,rfl⟩,⟨rfl,c,hc',rfl⟩,st',λb hb=>(hf b hb).1⟩⟩
 done:=by
  intro X hP hw hK hc i pins s σ H E I hf st hg
  subst hP hw hK
  obtain⟨f0,f1,f2,f3,f4,f5⟩:=hf it (by simp)
  exact wpAny_pyNext_ascii_end (I.ok.hd hc) st (by have:x.cps.size<=i:=hg;simp;omega) λh' eb=>⟨rfl,I.turned (t':=s.toks) (λb o hb e=>eb b o hb e) f0 f1 f3 f4 f5⟩
 self:=λ_ _ _ _ _ st h=>wpAny_pyIter_striter_ascii st h
theorem zC9{P:Program}{w:World}{K:W.Frag}{tg:Expr}(it:Addr)(x:Str)(t:Tok):iB P w K tg (Its x) [it] it (λi h=>h.IsStrIter it "str_iterator" x t i) where
 mem:=by simp
 obj:=λi h st b hb=>by
  have e:b=it:=by simpa using hb
  subst e
  obtain⟨o,e,c,d⟩:=st
  exact⟨o,e,λv z=>by rw[d]at z;cases z⟩
 keep:=λi h h' st k=>let ⟨o,ho,r⟩:=st;⟨o,k it (by simp) o ho,r⟩
 item:=by
  intro X hP hw hK hc i pins s σ H E I hf st hg
  subst hP hw hK
  obtain⟨f0,f1,f2,f3,f4,f5⟩:=hf it (by simp)
  have W:=Walks.strWide (prog:=X.prog) (w:=X.w) (I.ok.hd hc) it x t
  refine W.item i s _ _ hg st λv h' tk hv st' kk=>?_
  obtain⟨c,u,hc',rfl⟩:=hv
  have I1:Inv X pins σ H {s with heap:=h',toks:=tk}:=I.turned (λb o hb e=>kk b o (by simpa using hb) e) f0 f1 f3 f4 f5
  obtain⟨o,e,c1,d⟩:=id st'
  exact⟨_,rfl,lA (s:={s with heap:=h',toks:=tk}) e c1 d (by decide) ⟨.str ⟨#[c]⟩,H,I1,⟨u,rfl⟩,⟨rfl,c,hc',rfl⟩,st',λb hb=>(hf b hb).1⟩⟩
 done:=by
  intro X hP hw hK hc i pins s σ H E I hf st hg
  subst hP hw hK
  obtain⟨f0,f1,f2,f3,f4,f5⟩:=hf it (by simp)
  exact wpAny_pyNext_wide_end (I.ok.hd hc) st (by have:x.cps.size<=i:=hg;simp;omega) λh' eb=>⟨rfl,I.turned (t':=s.toks) (λb o hb e=>eb b o hb e) f0 f1 f3 f4 f5⟩
 self:=λ_ _ _ _ _ st h=>wpAny_pyIter_striter_wide st h
section
variable{X:Cx}
def zET:V->List V->Hp->VK->Prop:=λx vs H Q=>∃i j,x=.str i/\vs=[.str j]/\Q (.bl (decide (0+j.length<=i.length)&&Builtin.Str.subAt i j 0)) H
theorem zCe:MtM X "str.startswith" zET:=by
 intro pins s σ H x vs v us Q I rx rv h
 obtain⟨i,j,rfl,rfl,q⟩:=h
 obtain⟨t,rfl⟩:=rx
 obtain⟨u,rfl,t',rfl⟩:=rv.one
 exact call_gives F.slot_str_startswith (typeIs_str _ _ _) F.entry_str_startswith (F.args_str_startswith_2 _ _) (gives_str_startswith i j t t') ⟨.bl _,H,I,rfl,q⟩
def zHa:V->List V->Hp->VK->Prop:=λx vs H Q=>∃i j,x=.str i/\vs=[.str j]/\∀n:Int,Q (.int n) H
theorem zFg:MtM X "str.find" zHa:=by
 intro pins s σ H x vs v us Q I rx rv h
 obtain⟨i,j,rfl,rfl,q⟩:=h
 obtain⟨t,rfl⟩:=rx
 obtain⟨u,rfl,t',rfl⟩:=rv.one
 exact call_gives F.slot_str_find (typeIs_str _ _ _) F.entry_str_find (F.args_str_find_2 _ _) (gives_str_find i j t t') ⟨.int _,H,I.tok _,⟨_,rfl⟩,q _⟩
theorem boot_repr:bootBuiltins "repr"=some (.builtin "repr"):=by decide +kernel
theorem call_reprB:CallR X (.builtin "repr") (λxs H Q=>∃b,xs=[.bl b]/\Q (.str (if b then "True" else "False")) H):=by
 intro pins s σ H xs us Q I r h
 obtain⟨b,rfl,q⟩:=h
 obtain⟨u,rfl,rx⟩:=cF r
 cases rx
 exact PySem.P.repr_of_bool ⟨.str _,H,I.tok _,⟨_,rfl⟩,q⟩
end
def KD(prm:Params):List DictEntry->List (Str×Str)->Prop
 |[],[]=>True
 |e::es,kv::kvs=>e.hash=PyData.keyHash prm kv.1/\(∃t,e.key=.str kv.1 t)/\(∃t,e.val=.str kv.2 t)/\KD prm es kvs
 |_,_=>False
structure zBA (K:W.Frag) (prm:Params) (d:Addr) (kvs:List (Str×Str)):Prop where
 obj:∃(es:Array DictEntry) (ep:Nat),K.lookup d=some ⟨.type "dict",none,.dict es ep,#[]⟩/\KD prm es.toList kvs
 nd:(kvs.map (·.1)).Nodup
def getS(kvs:List (Str×Str))(x:Str):Option Str:=(kvs.find? λkv=>kv.1=x).map (·.2)
theorem KD.keys{P:Program}{w:World}:∀{es:List DictEntry}{kvs:List (Str×Str)},KD w.params es kvs->∀e∈es,∃k,(cB P w).is k e.key=true/\e.hash=(cB P w).hash k
 |[],[],_,e,he=>nomatch he
 |a::es,kv::kvs,⟨h1,⟨t,h2⟩,_,h4⟩,e,he=>by
  rcases List.mem_cons.mp he with z|z
  ·subst z
   exact⟨.inr kv.1,by rw[h2];exact nU P w kv.1 t,by rw[h1];rfl⟩
  ·exact KD.keys h4 e z
theorem KD.pairs{P:Program}{w:World}:∀{es:List DictEntry}{kvs:List (Str×Str)},KD w.params es kvs->∃vs:List (Key×Value),Pairs (cB P w) es vs/\vs.map (·.1)=kvs.map (λkv=>Sum.inr kv.1) /\
  ∀x y,getS kvs x=some y->∃t,valueAt vs (.inr x)=some (.str y t)
 |[],[],_=>⟨[],.nil,rfl,λx y h=>nomatch h⟩
 |a::es,kv::kvs,⟨h1,⟨t,h2⟩,⟨t',h3⟩,h4⟩=>by
  obtain⟨vs,p,m,g⟩:=KD.pairs (P:=P) h4
  refine⟨(.inr kv.1,.str kv.2 t')::vs,.cons (by rw[h2];exact nU P w kv.1 t) h3 p,by simp[m],λx y h=>?_⟩
  by_cases e:kv.1=x
  ·subst e
   have:kv.2=y:=by simpa[getS]using h
   subst this
   exact⟨t',by simp[valueAt]⟩
  ·have h':getS kvs x=some y:=by simpa[getS,e]using h
   obtain⟨t'',h''⟩:=g x y h'
   exact⟨t'',by
    have:(Sum.inr kv.1:Key)≠.inr x:=λz=>e (Sum.inr.inj z)
    simpa[valueAt,this]using h''⟩
section
variable{X:Cx}
def rKD(d:Addr)(kvs:List (Str×Str)):R2:=λx y H Q=>∃i j,x=.ref d/\y=.str i/\getS kvs i=some j/\Q (.str j) H
theorem zHr{d:Addr}{kvs:List (Str×Str)}(D:zBA X.K X.w.params d kvs):IxR X (rKD d kvs):=by
 intro value slice pins s σ H x y v u Q I rx ry h hs
 obtain⟨i,j,rfl,rfl,hg,q⟩:=h
 cases rx
 obtain⟨t,rfl⟩:=ry
 obtain⟨es,ep,lk,kd⟩:=D.obj
 obtain⟨vs,hp,hm,hv⟩:=KD.pairs (P:=X.prog) kd
 obtain⟨t',hv⟩:=hv i j hg
 have ho:=I.kIn d _ lk
 have hnd:(vs.map (·.1)).Nodup:=by
  rw[hm,show kvs.map (λkv=>(Sum.inr kv.1:Key))=(kvs.map (·.1)).map Sum.inr by simp]
  unfold List.Nodup
  rw[List.pairwise_map]
  exact D.nd.imp λh z=>h (Sum.inr.inj z)
 have dd:s.heap.DictOf (cB X.prog X.w) d vs:=⟨_,es,ep,ho,⟨rfl,rfl,rfl⟩,rfl,λe he=>KD.keys kd e (by simpa using he),hp,hnd⟩
 exact tail_any ⟨_,ho,rfl⟩ slot_dict_getitem.lookup (wpAny_getItem_of (nU _ _ i t) dd.mapOf hv ⟨.str j,H,I.tok _,⟨t',rfl⟩,q⟩) hs
end
section
variable{X:Cx}
def zHT:V->Option Int->Option Int->Hp->VK->Prop:=λx lo hi H Q=>∃z,x=.str z/\z.length<=sizeLine/\Q (.str (Txt.slice z lo hi)) H
theorem zFM:SlR X zHT:=by
 intro pins s σ H x v vl vu lo hi sl Q I rx hs pl pu h
 obtain⟨z,rfl,hz,q⟩:=h
 obtain⟨t,rfl⟩:=rx
 obtain⟨o,ho,hc,hd⟩:=hs
 refine⟨"str",_,F.slot_str_getitem.lookup,typeIs_str _ _ _,?_⟩
 have fin:∀t' k,EP X pins σ Q (.str (Txt.slice z lo hi) t') {s with toks:=k}:=λt' k=>⟨.str _,H,I.tok k,⟨t',rfl⟩,q⟩
 cases pl with
 |none=>cases pu with
  |none=>exact wpAny_getItem_str_slice (l:=none) (u:=none) (st:=none) ⟨o,ho,hc,hd⟩ rfl (post_val_or_str ⟨Nat.le_trans (Txt.slice_le z _ _) hz,fin⟩)
  |int j uj=>exact wpAny_getItem_str_slice (l:=none) (u:=some (j,uj)) (st:=none) ⟨o,ho,hc,hd⟩ rfl (post_val_or_str ⟨Nat.le_trans (Txt.slice_le z _ _) hz,fin⟩)
 |int i ui=>cases pu with
  |none=>exact wpAny_getItem_str_slice (l:=some (i,ui)) (u:=none) (st:=none) ⟨o,ho,hc,hd⟩ rfl (post_val_or_str ⟨Nat.le_trans (Txt.slice_le z _ _) hz,fin⟩)
  |int j uj=>exact wpAny_getItem_str_slice (l:=some (i,ui)) (u:=some (j,uj)) (st:=none) ⟨o,ho,hc,hd⟩ rfl (post_val_or_str ⟨Nat.le_trans (Txt.slice_le z _ _) hz,fin⟩)
theorem lH{ss:List Str}:∀{us:List Value},Vals (ss.map V.str) us->StrsAre us ss:=by
 induction ss with
 |nil=>intro us r;rw[List.map_nil]at r;cases r;exact .nil
 |cons n ns ih=>
  intro us r
  rw[List.map_cons]at r
  cases r with
  |cons r1 r2=>
   obtain⟨t,e⟩:=r1
   subst e
   exact .cons n t (ih r2)
theorem rG{us:List Value}{ss:List Str}(h:StrsAre us ss):Vals (ss.map V.str) us:=by
 induction h with
 |nil=>exact .nil
 |cons n t _ ih=>exact .cons ⟨t,rfl⟩ ih
theorem call_sortedS:CallR X (.builtin "sorted") (λxs H Q=>∃(p:Addr) (ss:List Str),xs=[.ref p]/\SqL X.K H p (ss.map V.str)/\ss.length<64 /\
  ∀(ss':List Str) (l:Addr),ss'.Perm ss->sortedS ss'=true->H l=none->Q (.ref l) (upd H l (.lst (ss'.map V.str)))):=by
 intro pins s σ H xs us Q I r h
 obtain⟨p,ns,rfl,hq,h64,q⟩:=h
 obtain⟨u,rfl,rx⟩:=cF r
 cases rx
 obtain⟨its,rv,pl,hz⟩:=I.list hq
 have hi:StrsAre its ns:=lH rv
 have hll:=rv.length
 rw[List.length_map]at hll
 refine sorted_strs pl.isList hi (by omega) λout ns' a1 a2 a3=>?_
 obtain⟨e,he⟩:=sortedAll_at s.heap its out
 have hlen:=a2.length_eq
 refine⟨.ref (s.heap.objs.size+1),_,I.laid (t':=s.toks) (λb o e=>sortedAll_old e) (Nat.le_succ _) (show ObjOk X.prog X.w _ _ _ (.lst (ns'.map V.str)) from ⟨?_,out.toList,e,rG a1,he⟩),rfl,q ns' _ a2 a3 (I.hok.fresh (Nat.le_succ _))⟩
 rw[List.length_map,hlen]
 exact Nat.le_of_lt (Nat.lt_trans h64 (by decide))
def bP(ss:List Str):List Nat:=(ss.map λs=>s.cps.toList).flatten
theorem zAg:∀{us:List Value}{ss:List Str},StrsAre us ss->∃l:List (Str×Tok),us=strValues l/\l.map (·.1)=ss
 |_,_,.nil=>⟨[],rfl,rfl⟩
 |_,_,.cons y t h=>by
  obtain⟨l,e1,e2⟩:=zAg h
  exact⟨(y,t)::l,by rw[e1];rfl,by simp[e2]⟩
theorem sS:∀ss:List Str,(Str.join ⟨#[]⟩ ss).cps.toList=bP ss
 |[]=>rfl
 |[x]=>by simp[Str.join,bP]
 |x::y::r=>by
  have ih:=sS (y::r)
  show((x++(⟨#[]⟩:Str)++Str.join ⟨#[]⟩ (y::r)):Str).cps.toList=_
  have e:∀a b:Str,(a++b).cps.toList=a.cps.toList++b.cps.toList:=λa b=>by
   show(a.cps++b.cps).toList=_
   simp
  rw[e,e,ih]
  simp[bP]
theorem zAi:∀(ss:List Str) (n:Nat),ss.foldl (λa s=>a+s.length+0) n=n+(bP ss).length
 |[],n=>by simp[bP]
 |s::r,n=>by
  rw[List.foldl_cons,zAi r]
  simp[bP,Str.length]
  omega
def zG9(K:W.Frag):V->List V->Hp->VK->Prop:=λx vs H Q=>∃p ss,x=.str ⟨#[]⟩/\vs=[.ref p]/\SqL K H p (ss.map V.str)/\(bP ss).length<=100000/\∀z:Str,z.cps.toList=bP ss->Q (.str z) H
theorem zFf:MtM X "str.join" (zG9 X.K):=by
 intro pins s σ H x vs v us Q I rx rv h
 obtain⟨p,ss,rfl,rfl,hq,hz,q⟩:=h
 obtain⟨t,rfl⟩:=rx
 obtain⟨u,rfl,ru⟩:=rv.one
 cases ru
 obtain⟨its,rv,pl,hz'⟩:=I.list hq
 obtain⟨l,e1,e2⟩:=zAg (lH rv)
 have hl:=pl.isList
 rw[e1]at hl
 have hlen:((l.map (·.1)).toArray.foldl (λa s=>a+s.length+(⟨#[]⟩:Str).length) 0)=(bP ss).length:=by
  rw[e2,List.foldl_toArray]
  show ss.foldl (λa s=>a+s.length+0) 0=_
  rw[zAi]
  omega
 refine call_meets F.slot_str_join (typeIs_str _ _ _) F.entry_str_join (F.args_str_join_2 _ _) (meets_str_join_list ⟨#[]⟩ t p l (by
  rw[hlen]
  show decide (_ > sizeLine)=false
  exact decide_eq_false (Nat.not_lt.mpr (Nat.le_trans hz (by decide))))) ⟨hl,?_⟩
 have hj:∀z:Str,z=Str.join ⟨#[]⟩ ss->∀t' k,EP X pins σ Q (.str z t') {s with toks:=k}:=λz e t' k=>⟨.str z,H,I.tok k,⟨t',rfl⟩,q z (by rw[e,sS])⟩
 have hlz:(Str.join ⟨#[]⟩ ss).length<=sizeLine:=by
  show(Str.join ⟨#[]⟩ ss).cps.size<=_
  rw[<-Array.length_toList,sS]
  exact Nat.le_trans hz (by decide)
 match l,e2 with
 |[],e2=>exact⟨by rw[StrLaws.glued_eq_join];exact Nat.zero_le _,hj _ (by rw[<-e2];rw[StrLaws.glued_eq_join]) _ _⟩
 |[pp],e2=>exact hj _ (by rw[<-e2];rfl) _ s.toks
 |a::b::r,e2=>exact⟨by rw[StrLaws.glued_eq_join,e2];exact hlz,hj _ (by rw[StrLaws.glued_eq_join,e2]) _ _⟩
end
end L2
namespace L2
open PySem
theorem oA{α:Type}:∀(l:List α) (i:Nat) (h:i<l.length),(l[i]::l.eraseIdx i).Perm l
 |[],i,h=>by simp at h
 |x::l,0,h=>by simp
 |x::l,i+1,h=>by
  have h':i<l.length:=by simpa using h
  simp only[List.getElem_cons_succ,List.eraseIdx_cons_succ]
  exact(List.Perm.swap _ _ _).trans (.cons _ (oA l i h'))
section
variable{M:Model}{A:Around}{E:Value->Shared->Prop}{s:Shared}
theorem zC3{src:Source}{n:Nat}{Q:Nat->Shared->Prop}(hn:n≠0)(h:∀i d,i<n->Q i {s with drawn:=d}):wpAny M A (choose src n) Q E s:=λΓ p _=>by
 unfold choose
 rw[Sem.wp_choose]
 exact⟨hn,h _ _ (Nat.mod_lt _ (Nat.pos_of_ne_zero hn))⟩
theorem wO{α:Type}:∀(n:Nat) (xs:List α) (s:Shared) {Q:List α->Shared->Prop},xs.length=n->(∀ys d,ys.Perm xs->Q ys {s with drawn:=d})->wpAny M A (drawOrder n xs) Q E s
 |0,xs,s,Q,hl,h=>by
  have e:xs=[]:=List.eq_nil_of_length_eq_zero hl
  subst e
  exact wpAny_pure (h [] s.drawn (.refl _))
 |n+1,[],s,Q,hl,h=>by simp at hl
 |n+1,x::xs,s,Q,hl,h=>by
  show wpAny M A (do
   let i <- choose .order (x::xs).length
   match (x::xs)[i]? with
   |some x'=>return x'::(<- drawOrder n ((x::xs).eraseIdx i))
   |none=>unsupported "internal:drawOrder") Q E s
  refine wpAny_bind (zC3 (by simp) λi d hi=>?_)
  rw[List.getElem?_eq_getElem hi]
  refine wpAny_bind (wO n _ _ (by rw[List.length_eraseIdx_of_lt hi];simp at hl ⊢;exact hl) λys d' hp=>?_)
  refine wpAny_pure (h _ d' ((List.Perm.cons _ hp).trans ?_))
  exact oA (x::xs) i hi
end
theorem zAx{α:Type}(next:Nat->Nat):∀(fuel k:Nat) (left:List α) (out:Array α),fuel=left.length->(pickOrder.go next fuel k left out).toList.Perm (out.toList++left)
 |0,k,left,out,h=>by
  have e:left=[]:=List.eq_nil_of_length_eq_zero h.symm
  subst e
  unfold pickOrder.go
  simp
 |fuel+1,k,left,out,h=>by
  unfold pickOrder.go
  have hlt:next k % left.length<left.length:=Nat.mod_lt _ (by omega)
  rw[List.getElem?_eq_getElem hlt]
  refine(zAx next fuel (k+1) _ _ (by rw[List.length_eraseIdx_of_lt hlt];omega)).trans ?_
  rw[Array.toList_push,List.append_assoc]
  exact List.Perm.append_left _ (oA _ _ hlt)
theorem rZ{α:Type}(next:Nat->Nat)(xs:Array α):(pickOrder next xs).toList.Perm xs.toList:=by
 unfold pickOrder
 have:=zAx next xs.size 0 xs.toList #[] (by simp)
 simpa using this
end L2
namespace L2
open PySem PySem.Spec PyProof.Rows
abbrev byT(w:World):Bool:=w.params.followText "set-order"
structure SetT (prog:Program) (w:World) (us:List Str) (es:Array (Int×Value)) (t:SetTable):Prop where
 el:ElemsOf (PySem.strKind prog w) es.toList
 tx:∃vs:List Str,StrsAre (es.toList.map (·.2)) vs/\vs.Perm us
 nd:us.Nodup
 lt:es.size<scanBound
 fit:t.fits es.size=true
 pl:es.size=0\/t.plain=false
 ld:t.led=!byT w
abbrev dF(es:Array (Int×Value))(ep:Nat)(t:SetTable):Obj:={cls:=.type "set",dict:=none,data:=.set es ep t,slots:=#[]}
def SetS(prog:Program)(w:World)(a:Addr)(us:List Str)(h:Heap):Prop:=∃es ep t,h.get? a=some (dF es ep t)/\SetT prog w us es t
def dZ(us:List Str)(x:Str):List Str:=if x∈us then us else us++[x]
theorem jK:∀{vs:List Value}{ss:List Str},StrsAre vs ss->vs.length=ss.length
 |_,_,.nil=>rfl
 |_,_,.cons _ _ h=>by simp[jK h]
theorem zE:∀{vs:List Value}{ss:List Str},StrsAre vs ss->∀x,x∈ss↔∃v∈vs,Value.isStrOf x v=true
 |_,_,.nil,x=>by simp
 |_,_,.cons y t h,x=>by
  have ih:=zE h x
  have e:Value.isStrOf x (.str y t)=true↔x=y:=⟨λh=>by
   obtain⟨u,h⟩:=Value.isStrOf_shape h
   injection h with h1 h2
   exact h1.symm,λh=>by subst h;simp[Value.isStrOf]⟩
  simp only[List.mem_cons,exists_eq_or_imp,ih,e]
theorem oD:∀{vs us:List Value},us.Perm vs->∀{ss:List Str},StrsAre vs ss->∃ss',StrsAre us ss'/\ss'.Perm ss:=by
 intro vs us p
 induction p with
 |nil=>intro ss h;exact⟨ss,h,.refl _⟩
 |cons x p ih=>
  intro ss h
  cases h with
  |cons y t h=>obtain⟨ss',a,b⟩:=ih h;exact⟨y::ss',.cons y t a,.cons _ b⟩
 |swap x y l=>
  intro ss h
  cases h with
  |cons a t h=>cases h with
   |cons b u h=>exact⟨b::a::_,.cons b u (.cons a t h),.swap _ _ _⟩
 |trans p q ihp ihq=>
  intro ss h
  obtain⟨s1,a1,b1⟩:=ihq h
  obtain⟨s2,a2,b2⟩:=ihp a1
  exact⟨s2,a2,b2.trans b1⟩
theorem xS:∀{vs:List Value}{ss:List Str}(x:Str) (t:Tok),StrsAre vs ss->StrsAre (vs++[.str x t]) (ss++[x])
 |_,_,x,t,.nil=>.cons x t .nil
 |_,_,x,t,.cons y u h=>.cons y u (xS x t h)
theorem zCT(t:SetTable)(es:Array (Int×Value))(h:Int)(x:Value):(layNew t es h x).2.1.led=t.led:=by
 have so:∀(u:SetTable) (n:Nat),(u.orStandIn n).led=u.led:=λu n=>by
  unfold SetTable.orStandIn
  split<;>rfl
 unfold layNew
 split
 ·dsimp only
  rw[so]
  rfl
 ·rfl
theorem zDl(t:SetTable)(es:Array (Int×Value))(n:Nat):(relayAll t es n).2.1.led=t.led/\(t.plain=false->(relayAll t es n).2.1.plain=false):=by
 have la:∀m f mv ld pl hs t' o,SetTable.laid m f mv ld pl hs=some (t',o)->t'.led=ld/\t'.plain=pl:=λm f mv ld pl hs t' o e=>by
  unfold SetTable.laid at e
  cases q:SetTable.layClean m hs with
  |none=>rw[q]at e;cases e
  |some ow=>
   rw[q]at e
   simp only[Option.bind_eq_bind,Option.bind_some,Option.pure_def,Option.some.injEq,Prod.mk.injEq]at e
   obtain⟨e,_⟩:=e
   subst e
   exact⟨rfl,rfl⟩
 unfold relayAll
 split
 ·rename_i t' order e
  have:=la _ _ _ _ _ _ _ _ e
  dsimp only
  split
  ·exact⟨this.1,λz=>by rw[<-z];exact this.2⟩
  ·exact⟨rfl,λ_=>rfl⟩
 ·exact⟨rfl,λ_=>rfl⟩
section
variable{prog:Program}{w:World}{A:Around}{E:Value->Shared->Prop}{s:Shared}{a:Addr}{us:List Str}{x:Str}{tk:Tok}
theorem SetT.mem{es:Array (Int×Value)}{t:SetTable}(T:SetT prog w us es t)(x:Str):x∈us↔∃e∈es.toList,(PySem.strKind prog w).is x e.2=true:=by
 obtain⟨vs,h,p⟩:=T.tx
 rw[<-p.mem_iff,zE h x]
 simp only[List.mem_map]
 exact⟨λ⟨v,⟨e,he,z⟩,q⟩=>⟨e,he,by subst z;exact q⟩,λ⟨e,he,q⟩=>⟨e.2,⟨e,he,rfl⟩,q⟩⟩
theorem SetT.size{es:Array (Int×Value)}{t:SetTable}(T:SetT prog w us es t):es.size=us.length:=by
 obtain⟨vs,h,p⟩:=T.tx
 have:=jK h
 rw[List.length_map,Array.length_toList]at this
 rw[this,p.length_eq]
theorem zZ{g:Bool->Sem Unit}(hg:∀(b:Bool) (s₁:Shared) (R:Unit->Shared->Prop),R () s₁->wpAny (model prog w) A (g b) R E s₁){es es1:Array (Int×Value)}{ep:Nat}{t t2:SetTable}{wd:Bool}{R:Option Bool->Shared->Prop}
  (ho:s.heap.get? a=some (dF es ep t)) (T:SetT prog w us es1 t2) (np:t2.plain=false)
  (h:∀h',Heap.SameBut a s.heap h'->SetS prog w a us h'->R (some true) {s with heap:=h'}):
  wpAny (model prog w) A (do
   storeSet a es1 t2
   if (!wd&&t2.tooFull)=true then do
     g (relayAll t2 es1 (SetTable.grown es1.size)).2.2
     storeSet a (relayAll t2 es1 (SetTable.grown es1.size)).1 (relayAll t2 es1 (SetTable.grown es1.size)).2.1
     pure (some true)
    else pure (some true)) R E s:=by
 refine wpAny_bind (wpAny_storeSet_of ho rfl ?_ (fits_of_scanBound T.lt))
 have o1:(s.heap.update a (Obj.putSet es1 t2)).get? a=some (dF es1 (ep+1) t2):=Heap.get?_update_self (Obj.putSet es1 t2) ho rfl
 have b1:=Heap.SameBut.update s.heap a (Obj.putSet es1 t2)
 split
 ·have hp:=relayAll_perm t2 es1 (SetTable.grown es1.size)
  have hf:=relayAll_fits t2 es1 (SetTable.grown es1.size)
  obtain⟨hl,hq⟩:=zDl t2 es1 (SetTable.grown es1.size)
  have hq:=hq np
  generalize relayAll t2 es1 (SetTable.grown es1.size)=Rl at hp hf hl hq ⊢
  obtain⟨es2,t3,g2⟩:=Rl
  dsimp only at hp hf hl hq ⊢
  have sz:es2.size=es1.size:=by have:=hp.length_eq;simpa using this
  have T2:SetT prog w us es2 t3:=by
   obtain⟨vs,hv,pv⟩:=T.tx
   obtain⟨vs',hv',pv'⟩:=oD (hp.map (·.2)) hv
   exact⟨T.el.perm hp,⟨vs',hv',pv'.trans pv⟩,T.nd,by rw[sz];exact T.lt,hf,.inr hq,hl.trans T.ld⟩
  refine wpAny_bind (hg _ _ _ ?_)
  refine wpAny_bind (wpAny_storeSet_of o1 rfl ?_ (fits_of_scanBound T2.lt))
  exact wpAny_pure (h _ (b1.trans (Heap.SameBut.update _ a _)) ⟨es2,ep+1+1,t3,Heap.get?_update_self (Obj.putSet es2 t3) o1 rfl,T2⟩)
 ·exact wpAny_pure (h _ b1 ⟨es1,ep+1,t2,o1,T⟩)
theorem zEA{Q:Bool->Shared->Prop}(S:SetS prog w a us s.heap)(room:us.length+1<scanBound)(h:∀b h',Heap.SameBut a s.heap h'->SetS prog w a (dZ us x) h'->Q b {s with heap:=h'}):
  wpAny (model prog w) A (setAddHashed a (.str x tk) ((PySem.strKind prog w).hash x)) Q E s:=by
 obtain⟨es,ep,t,ho,T⟩:=id S
 have hk:(PySem.strKind prog w).is x (.str x tk)=true:=by show Value.isStrOf x (.str x tk)=true;simp[Value.isStrOf]
 have sc:(Value.str x tk).scannable=true:=rfl
 unfold setAddHashed setAddHashedIn
 refine wpAny_holding (wpAny_bind (wpAny_setState_of ho rfl T.fit ?_))
 dsimp only
 rw[byScan_of sc T.lt T.el,if_pos rfl]
 unfold setAddByScan
 refine wpAny_bind (wpAny_bind (wpAny_rule ?_))
 refine wpAny_bind (wpAny_setScan_of hk ho rfl T.fit T.el ?_)
 cases hr:es.toList.findIdx? (λe=>(PySem.strKind prog w).is x e.2) with
 |some j=>
  dsimp only
  obtain⟨hj,hp,_⟩:=List.findIdx?_eq_some_iff_getElem.mp hr
  have hin:x∈us:=(T.mem x).mpr ⟨_,List.getElem_mem hj,hp⟩
  refine wpAny_pure (wpAny_pure ?_)
  have e:s={s with heap:=s.heap}:=by cases s;rfl
  rw[e]
  refine h false s.heap (Heap.SameBut.refl a s.heap) ?_
  rw[dZ,if_pos hin]
  exact S
 |none=>
  dsimp only
  have hout:x∉us:=λz=>by
   obtain⟨e,he,hp⟩:=(T.mem x).mp z
   have:=List.findIdx?_eq_none_iff.mp hr e he
   rw[hp]at this;cases this
  have eA:dZ us x=us++[x]:=by rw[dZ,if_neg hout]
  have pm:=layNew_perm t es ((PySem.strKind prog w).hash x) (.str x tk)
  have ft:=layNew_fits t es ((PySem.strKind prog w).hash x) (.str x tk)
  have ld:=zCT t es ((PySem.strKind prog w).hash x) (.str x tk)
  generalize layNew t es ((PySem.strKind prog w).hash x) (.str x tk)=L at pm ft ld ⊢
  obtain⟨es1,t1,wd,gv⟩:=L
  dsimp only at pm ft ld ⊢
  rw[Array.toList_push]at pm
  have sz:es1.size=us.length+1:=by
   have:=pm.length_eq
   rw[<-Array.length_toList,this,List.length_append,Array.length_toList,T.size];rfl
  have base:∀t2:SetTable,t2.fits es1.size=true->t2.plain=false->t2.led=t.led->SetT prog w (dZ us x) es1 t2:=λt2 f2 p2 l2=>by
   obtain⟨vs,hv,pv⟩:=T.tx
   have h1:=xS x tk hv
   have h2:(es.toList.map (·.2))++[Value.str x tk]=(es.toList++[((PySem.strKind prog w).hash x,Value.str x tk)]).map (·.2):=by simp
   rw[h2]at h1
   obtain⟨vs',hv',pv'⟩:=oD (pm.map (·.2)) h1
   refine⟨(T.el.push hk sc).perm pm,⟨vs',hv',?_⟩,?_,by rw[sz];exact room,f2,.inr p2,l2.trans T.ld⟩
   ·rw[eA];exact pv'.trans (pv.append_right _)
   ·rw[eA,List.nodup_append]
    refine⟨T.nd,by simp,λy hy z hz e=>hout ?_⟩
    have q:z=x:=by simpa using hz
    rw[<-q,<-e]
    exact hy
  have gw:∀(b:Bool) (s₁:Shared) (R:Unit->Shared->Prop),R () s₁->wpAny (model prog w) A (match b with|true=>rule "set.scan.the-table-gave-way"|false=>pure ()) R E s₁:=
   λb s₁ R q=>by
    cases b
    ·exact wpAny_pure q
    ·exact wpAny_rule q
  refine wpAny_bind (gw _ _ _ ?_)
  have fin:∀h',Heap.SameBut a s.heap h'->SetS prog w a (dZ us x) h'->wpAny (model prog w) A (pure true) Q E {s with heap:=h'}:=λh' b S'=>wpAny_pure (h true h' b S')
  split
  ·refine wpAny_bind ?_
   rw[hashByValue_scannable 8 sc]
   refine wpAny_pure ?_
   rw[if_neg (by simp[plainKind])]
   exact zZ (g:=λb=>match b with|true=>rule "set.scan.the-table-gave-way"|false=>pure ()) gw ho (base _ (SetTable.fits_plain_off ft) rfl ld) rfl λh' b S'=>fin h' b S'
  ·rename_i hp
   refine wpAny_bind (wpAny_pure ?_)
   rw[if_pos rfl]
   exact zZ (g:=λb=>match b with|true=>rule "set.scan.the-table-gave-way"|false=>pure ()) gw ho (base _ ft (by simpa using hp) ld) (by simpa using hp) λh' b S'=>fin h' b S'
end
end L2
namespace L2
open PySem PySem.Spec PyProof.Rows
theorem zAk:Slot "set" "__iter__" "set.__iter__":=
 Slot.of (owner:="set") (n:="__iter__") (by rw[typeLookup_type,builtinLookup_eq_fast];kernel_rfl) (by decide +kernel) (by decide +kernel) (by decide +kernel) (by first|exact .inl (by decide +kernel)|exact .inr (by decide +kernel)) (by rw[isSubtype_type];kernel_rfl)
theorem zFt:entryFor table "set.__iter__"=some Builtin.«frozenset.__iter__»:=entryFor_alias (id':="frozenset.__iter__") (by kernel_rfl) rfl (by decide +kernel) (by kernel_rfl)
theorem zFy(a:Value):argsOk "set.__iter__" ⟨[a],[]⟩:=by
 unfold argsOk
 kernel_rfl
theorem st_next:Slot "set_iterator" "__next__" "set_iterator.__next__":=
 Slot.of (owner:="set_iterator") (n:="__next__") (by rw[typeLookup_type,builtinLookup_eq_fast];kernel_rfl) (by decide +kernel) (by decide +kernel) (by decide +kernel) (by first|exact .inl (by decide +kernel)|exact .inr (by decide +kernel)) (by rw[isSubtype_type];kernel_rfl)
theorem zFs:entryFor table "set_iterator.__next__"=some Builtin.«set_iterator.__next__»:=entryFor_of_fast (by kernel_rfl)
theorem zFx(a:Value):argsOk "set_iterator.__next__" ⟨[a],[]⟩:=by
 unfold argsOk
 kernel_rfl
theorem kL:Slot "set_iterator" "__iter__" "set_iterator.__iter__":=
 Slot.of (owner:="set_iterator") (n:="__iter__") (by rw[typeLookup_type,builtinLookup_eq_fast];kernel_rfl) (by decide +kernel) (by decide +kernel) (by decide +kernel) (by first|exact .inl (by decide +kernel)|exact .inr (by decide +kernel)) (by rw[isSubtype_type];kernel_rfl)
theorem tS:entryFor table "set_iterator.__iter__"=some Builtin.«dict_keyiterator.__iter__»:=entryFor_alias (id':="dict_keyiterator.__iter__") (by kernel_rfl) rfl (by decide +kernel) (by kernel_rfl)
theorem tV(a:Value):argsOk "set_iterator.__iter__" ⟨[a],[]⟩:=by
 unfold argsOk
 kernel_rfl
section
variable{prog:Program}{w:World}{A:Around}{E:Value->Shared->Prop}{s:Shared}
theorem zEy{α:Type}{Q:α->Shared->Prop}(hh:A.handled=none)
  (h:∀e h',(∀b o,s.heap.get? b=some o->h'.get? b=some o)->Shared.TypeIs {s with heap:=h'} (.ref e) "StopIteration"->E (.ref e) {s with heap:=h'}):
  wpAny (model prog w) A (newExc (.type "StopIteration") [] >>= λe=>raiseNew e) Q E s:=by
 refine wpAny_bind ?_
 simp only[newExc,newTuple]
 refine wpAny_bind (wpAny_newObj_type ?_ (by size_fits))
 refine wpAny_bind (m:=firstArgMember _ _) (wpAny_of_eq (a:=Value.none) (by first|rfl|(simp only[firstArgMember];rfl)) ?_)
 refine wpAny_newObj_type ?_ (by size_fits)
 simp only[raiseNew]
 refine wpAny_bind (wpAny_handled ?_)
 rw[hh]
 refine wpAny_bind (wpAny_pure (wpAny_throw ?_))
 exact h _ _ (λb o e=>Heap.get?_push_of_some _ (Heap.get?_push_of_some _ e)) ⟨_,Heap.get?_push_size _ rfl,rfl⟩
theorem kI{it:Addr}{o:Obj}{Q:Option Value->Shared->Prop}(ho:s.heap.get? it=some o)(hc:o.cls=.type "set_iterator")
  (h:wpAny (model prog w) A.in1 (Builtin.«set_iterator.__next__» ⟨[.ref it],[]⟩) (λr s'=>∃v,r=.done (.ret v)/\Q (some v) s') (λe s'=>s'.TypeIs e "StopIteration"/\Q none s') s):
  wpAny (model prog w) A (pyNext (.ref it)) Q E s:=by
 have ht:s.TypeIs (.ref it) "set_iterator":=⟨o,ho,hc⟩
 unfold pyNext
 refine wpAny_bind (wpAny_attempt (wpAny_callSpecial?_slot (name:=Str.ofString "__next__") ht st_next (wpAny_call_entry st_next ht zFs ?_ (zFx _))))
 refine wpAny_mono h (λr s' ⟨v,e,q⟩=>⟨v,e,wpAny_pure q⟩) λe s' ⟨t,q⟩=>?_
 exact wpAny_bind (wpAny_isInstance (T:="StopIteration") (b:=true) t isSubtype_stop (wpAny_pure q))
end
end L2
namespace L2
open PySem PySem.Spec PyProof.Rows
abbrev itO(first:Value)(i:Nat)(a:Addr)(n ep:Nat):Obj:={cls:=.type "set_iterator",data:=.fields #[first,.int (i:Int) 0,.ref a,.int (n:Int) 0,.int (ep:Int) 0]}
section
variable{prog:Program}{w:World}{A:Around}{E:Value->Shared->Prop}{s:Shared}{it a:Addr}{us:List Str}{es:Array (Int×Value)}{ep:Nat}{t:SetTable}
theorem rL{Q:Array (Int×Value)->Shared->Prop}(ho:s.heap.get? a=some (dF es ep t))(hf:t.fits es.size=true)(h:Q es s):wpAny (model prog w) A (setEntries a) Q E s:=by
 unfold setEntries
 exact wpAny_bind (wpAny_setState_of ho rfl hf (wpAny_pure h))
theorem kE{Q:Bool->Shared->Prop}(h:Q (byT w) s):wpAny (model prog w) A setsByText Q E s:=by
 unfold setsByText
 exact wpAny_bind (wpAny_askSetting (wpAny_pure h))
theorem oB{i slot:Nat}{n:Nat}{Q:Fin->Shared->Prop}(hi:s.heap.get? it=some (itO (.int (slot:Int) 0) i a n ep))(ho:s.heap.get? a=some (dF es ep t))(hf:t.fits es.size=true)(hn:es.size=n)
  (h:wpAny (model prog w) A (setNext a slot i ep) (λr s'=>wpAny (model prog w) A (match r with
   |some (x,next)=>do
    setField (.ref it) 0 (rawInt next)
    setField (.ref it) 1 (rawInt (i+1))
    ret x
   |none=>do setField (.ref it) 2 .none;raiseNew (<- newExc (.type "StopIteration") [])) Q E s') E s):
  wpAny (model prog w) A (Builtin.«set_iterator.__next__» ⟨[.ref it],[]⟩) Q E s:=by
 unfold Builtin.«set_iterator.__next__»
 refine wpAny_bind (m:=slotArgs "__next__" 0 ⟨[.ref it],[]⟩) (wpAny_pure ?_)
 dsimp only
 refine wpAny_bind (wpAny_fieldsOf hi rfl ?_)
 show wpAny _ _ (setEntries a >>= _) _ _ s
 refine wpAny_bind (rL ho hf ?_)
 rw[hn]
 simp only[bne_self_eq_false,Bool.false_eq_true,if_false]
 refine wpAny_bind (m:=setNext a slot i ep) h
end
end L2
namespace L2
open PySem PySem.Spec PyProof.Rows
section
variable{prog:Program}{w:World}{A:Around}{E:Value->Shared->Prop}{s:Shared}{it a:Addr}{us:List Str}{es:Array (Int×Value)}{ep:Nat}{t:SetTable}
theorem sF{o:Obj}{vs:Array Value}{k:Nat}{Q:Fin->Shared->Prop}(hh:A.handled=none)(hi:s.heap.get? it=some o)(hd:o.data=.fields vs)(hk:k<vs.size)
  (h:∀e h',(∀b u,b≠it->s.heap.get? b=some u->h'.get? b=some u)->Shared.TypeIs {s with heap:=h'} (.ref e) "StopIteration"->E (.ref e) {s with heap:=h'}):
  wpAny (model prog w) A (do setField (.ref it) k .none;raiseNew (<- newExc (.type "StopIteration") [])) Q E s:=by
 refine wpAny_bind (wpAny_setField hi hd hk ?_)
 refine zEy hh λe h' kp ty=>h e h' (λb u hb q=>kp b u ?_) ty
 rw[(Heap.SameBut.update s.heap it _).2 b hb];exact q
theorem zGP(hh:A.handled=none)(hb:byT w=true)(T:SetT prog w us es t)(it a:Addr)(ne:it≠a):
  WalksS prog w A it [it,a] [it] Eq es.size (λi v=>(pickOrder (w.params.setOrder a ep) es)[i]?.map (·.2)=some v)
   (λi s=>s.heap.get? it=some (itO (.int 0 0) i a es.size ep)/\s.heap.get? a=some (dF es ep t)) where
 sub:=λb hb=>by simp at hb;simp[hb]
 grefl:=λ_=>rfl
 gtrans:=λ_ _ _ x y=>x.trans y
 frame:=λi s h' tk st _ k=>⟨k it (by simp) _ st.1,k a (by simp) _ st.2⟩
 item:=λi s Q E hi st hQ=>by
  refine kI st.1 rfl (oB (slot:=0) st.1 st.2 T.fit rfl ?_)
  have sz:(pickOrder (w.params.setOrder a ep) es).size=es.size:=by have:=(rZ (w.params.setOrder a ep) es).length_eq;simpa using this
  unfold setNext
  refine wpAny_bind (wpAny_setState_of st.2 rfl T.fit ?_)
  dsimp only
  refine wpAny_bind (kE ?_)
  rw[if_pos hb]
  simp only[bne_self_eq_false,Bool.false_eq_true,if_false]
  unfold setWalk
  refine wpAny_bind (wpAny_bind (wpAny_setState_of st.2 rfl T.fit ?_))
  dsimp only
  refine wpAny_bind (kE ?_)
  rw[if_pos hb]
  refine wpAny_bind (wpAny_askSetting (wpAny_pure ?_))
  refine wpAny_pure ?_
  have hlt:i<(pickOrder (w.params.setOrder a ep) es).size:=by rw[sz];exact hi
  show wpAny _ _ (match Option.map (λe=>(e.2,0)) (pickOrder (w.params.setOrder a ep) es)[i]? with
   |some (x,next)=>do
    setField (.ref it) 0 (rawInt (next:Nat))
    setField (.ref it) 1 (rawInt (i+1))
    ret x
   |none=>do setField (.ref it) 2 .none;raiseNew (<- newExc (.type "StopIteration") [])) _ _ _
  rw[Array.getElem?_eq_getElem hlt]
  dsimp only[Option.map_some]
  refine wpAny_bind (wpAny_setField_rec st.1 (by simp) λh1 g1 b1=>?_)
  refine wpAny_bind (wpAny_setField_rec g1 (by simp) λh2 g2 b2=>?_)
  refine wpAny_pure ⟨_,rfl,hQ _ _ (by rw[Array.getElem?_eq_getElem hlt];rfl) ⟨?_,?_⟩ ⟨?_,rfl,rfl,rfl,Nat.le_refl _⟩⟩
  ·rw[g2];rfl
  ·rw[b2.2 a ne.symm,b1.2 a ne.symm];exact st.2
  ·intro b o hb e
   have hb':b≠it:=by simpa using hb
   rw[b2.2 b hb',b1.2 b hb'];exact e
 done:=λs Q E st hQ=>by
  refine kI st.1 rfl (oB (slot:=0) st.1 st.2 T.fit rfl ?_)
  have sz:(pickOrder (w.params.setOrder a ep) es).size=es.size:=by have:=(rZ (w.params.setOrder a ep) es).length_eq;simpa using this
  unfold setNext
  refine wpAny_bind (wpAny_setState_of st.2 rfl T.fit ?_)
  dsimp only
  refine wpAny_bind (kE ?_)
  rw[if_pos hb]
  simp only[bne_self_eq_false,Bool.false_eq_true,if_false]
  unfold setWalk
  refine wpAny_bind (wpAny_bind (wpAny_setState_of st.2 rfl T.fit ?_))
  dsimp only
  refine wpAny_bind (kE ?_)
  rw[if_pos hb]
  refine wpAny_bind (wpAny_askSetting (wpAny_pure ?_))
  refine wpAny_pure ?_
  show wpAny _ _ (match Option.map (λe=>(e.2,0)) (pickOrder (w.params.setOrder a ep) es)[es.size]? with
   |some (x,next)=>do
    setField (.ref it) 0 (rawInt (next:Nat))
    setField (.ref it) 1 (rawInt ((es.size:Int)+1))
    ret x
   |none=>do setField (.ref it) 2 .none;raiseNew (<- newExc (.type "StopIteration") [])) _ _ _
  rw[Array.getElem?_eq_none (show(pickOrder (w.params.setOrder a ep) es).size<=es.size by rw[sz];exact Nat.le_refl _)]
  dsimp only[Option.map_none]
  refine sF hh st.1 rfl (by simp) λe h' kp ty=>⟨ty,hQ _ ⟨λb o hb q=>kp b o (by simpa using hb) q,rfl,rfl,rfl,Nat.le_refl _⟩⟩
 self:=λi s Q E st hQ=>by
  have ht:s.TypeIs (.ref it) "set_iterator":=⟨_,st.1,rfl⟩
  refine wpAny_pyIter_slot ht kL (wpAny_call_entry kL ht tS ?_ (tV _))
  show wpAny _ _ (ret (.ref it)) _ _ s
  exact wpAny_pure ⟨_,rfl,"set_iterator",_,ht,st_next.lookup,hQ⟩
end
end L2
namespace L2
open PySem PySem.Spec PyProof.Rows
theorem yW(p:Nat):SetTable.below #[p] 0=0/\SetTable.below #[p] (p+1)=1:=by
 constructor
 ·show SetTable.below.go #[p] 0 1 0 1=0
  simp[SetTable.below.go]
 ·show SetTable.below.go #[p] (p+1) 1 0 1=1
  simp[SetTable.below.go]
section
variable{prog:Program}{w:World}{A:Around}{E:Value->Shared->Prop}{s:Shared}{it a:Addr}{us:List Str}{es:Array (Int×Value)}{ep:Nat}{t:SetTable}
theorem wT{slot i:Nat}{Q:Option (Value×Nat)->Shared->Prop}(hb:byT w=false)(T:SetT prog w us es t)(h1:es.size<=1)(ho:s.heap.get? a=some (dF es ep t))
  (h:Q (match es[SetTable.below t.place slot]?,t.place[SetTable.below t.place slot]? with
  |some (_,x),some j=>some (x,j+1)
  |_,_=>none) s):wpAny (model prog w) A (setNext a slot i ep) Q E s:=by
 have ld:t.led=true:=by rw[T.ld,hb];rfl
 unfold setNext
 refine wpAny_bind (wpAny_setState_of ho rfl T.fit ?_)
 dsimp only
 refine wpAny_bind (kE ?_)
 rw[hb]
 simp only[Bool.false_eq_true,if_false]
 show wpAny _ _ (if (!t.plain&&decide (es.size > 1))=true then _ else(do
  (if (!t.led&&!es.isEmpty)=true then unsupported "set:maker-not-led" else pure ():Sem Unit)
  pure (match es[SetTable.below t.place slot]?,t.place[SetTable.below t.place slot]? with
   |some (_,x),some j=>some (x,j+1)
   |_,_=>none))) _ _ _
 rw[if_neg (by rw[show decide (es.size > 1)=false from decide_eq_false (by omega)];simp)]
 refine wpAny_bind ?_
 rw[if_neg (by rw[ld];simp)]
 exact wpAny_pure (wpAny_pure h)
theorem zGO(hh:A.handled=none)(hb:byT w=false)(T:SetT prog w us es t)(h1:es.size<=1)(it a:Addr)(ne:it≠a):
  WalksS prog w A it [it,a] [it] Eq es.size (λi v=>es[i]?.map (·.2)=some v)
   (λi s=>s.heap.get? it=some (itO (.int ((if i=0 then 0 else t.place.getD 0 0+1:Nat):Int) 0) i a es.size ep)/\s.heap.get? a=some (dF es ep t)) where
 sub:=λb hb=>by simp at hb;simp[hb]
 grefl:=λ_=>rfl
 gtrans:=λ_ _ _ x y=>x.trans y
 frame:=λi s h' tk st _ k=>⟨k it (by simp) _ st.1,k a (by simp) _ st.2⟩
 item:=λi s Q E hi st hQ=>by
  have i0:i=0:=by omega
  subst i0
  have e1:es.size=1:=by omega
  have pz:t.place.size=1:=by have:=T.fit;simp only[SetTable.fits,Bool.and_eq_true,beq_iff_eq]at this;rw[this.1,e1]
  obtain⟨p,hp⟩:∃p,t.place=#[p]:=by
   refine⟨t.place[0],?_⟩
   apply Array.ext
   ·simp[pz]
   ·intro j h1 h2
    have:j=0:=by simp at h2;exact h2
    subst this
    simp
  refine kI st.1 rfl (oB (slot:=0) (by simpa using st.1) st.2 T.fit rfl ?_)
  refine wT hb T h1 st.2 ?_
  rw[hp,(yW p).1]
  have hl0:0<es.size:=by omega
  rw[Array.getElem?_eq_getElem hl0]
  show wpAny _ _ (do
    setField (.ref it) 0 (rawInt ((p+1:Nat):Int))
    setField (.ref it) 1 (rawInt ((0:Nat)+1:Int))
    ret es[0].2) _ _ _
  refine wpAny_bind (wpAny_setField_rec st.1 (by simp) λh1 g1 b1=>?_)
  refine wpAny_bind (wpAny_setField_rec g1 (by simp) λh2 g2 b2=>?_)
  refine wpAny_pure ⟨_,rfl,hQ _ _ (by rw[Array.getElem?_eq_getElem hl0];rfl) ⟨?_,?_⟩ ⟨?_,rfl,rfl,rfl,Nat.le_refl _⟩⟩
  ·rw[g2,hp];rfl
  ·rw[b2.2 a ne.symm,b1.2 a ne.symm];exact st.2
  ·intro b o hb e
   have hb':b≠it:=by simpa using hb
   rw[b2.2 b hb',b1.2 b hb'];exact e
 done:=λs Q E st hQ=>by
  refine kI st.1 rfl (oB st.1 st.2 T.fit rfl ?_)
  refine wT hb T h1 st.2 ?_
  have pz:t.place.size=es.size:=by have:=T.fit;simp only[SetTable.fits,Bool.and_eq_true,beq_iff_eq]at this;exact this.1
  have hn:es[SetTable.below t.place (if es.size=0 then 0 else t.place.getD 0 0+1)]?=none:=by
   by_cases z:es.size=0
   ·have:es=#[]:=Array.size_eq_zero_iff.mp z
    subst this
    simp
   ·rw[if_neg z]
    have e1:es.size=1:=by omega
    obtain⟨p,hp⟩:∃p,t.place=#[p]:=by
     refine⟨t.place[0]'(by omega),?_⟩
     apply Array.ext
     ·simp[pz,e1]
     ·intro j h1 h2
      have:j=0:=by simp at h2;exact h2
      subst this
      simp
    rw[hp]
    show es[SetTable.below #[p] (p+1)]?=none
    rw[(yW p).2]
    exact Array.getElem?_eq_none (by omega)
  rw[hn]
  dsimp only
  exact sF hh st.1 rfl (by simp) λe h' kp ty=>⟨ty,hQ _ ⟨λb o hb q=>kp b o (by simpa using hb) q,rfl,rfl,rfl,Nat.le_refl _⟩⟩
 self:=λi s Q E st hQ=>by
  have ht:s.TypeIs (.ref it) "set_iterator":=⟨_,st.1,rfl⟩
  refine wpAny_pyIter_slot ht kL (wpAny_call_entry kL ht tS ?_ (tV _))
  show wpAny _ _ (ret (.ref it)) _ _ s
  exact wpAny_pure ⟨_,rfl,"set_iterator",_,ht,st_next.lookup,hQ⟩
abbrev lB(ps:List Nat):Obj:={cls:=.type "tuple",data:=.seq (ps.map λ(i:Nat)=>rawInt (i:Int)).toArray}
theorem xQ{i:Nat}{n:Nat}{tu:Addr}{ps:List Nat}{Q:Fin->Shared->Prop}(hi:s.heap.get? it=some (itO (.ref tu) i a n ep))(ho:s.heap.get? a=some (dF es ep t))(hu:s.heap.get? tu=some (lB ps))(hf:t.fits es.size=true)(hn:es.size=n)
  (h:match ps[i]? with
   |some pl=>∃e,es[pl]?=some e/\wpAny (model prog w) A (do
    setField (.ref it) 1 (rawInt (i+1))
    ret e.2) Q E s
   |none=>wpAny (model prog w) A (do setField (.ref it) 0 (rawInt 0);setField (.ref it) 2 .none;raiseNew (<- newExc (.type "StopIteration") [])) Q E s):
  wpAny (model prog w) A (Builtin.«set_iterator.__next__» ⟨[.ref it],[]⟩) Q E s:=by
 unfold Builtin.«set_iterator.__next__»
 refine wpAny_bind (m:=slotArgs "__next__" 0 ⟨[.ref it],[]⟩) (wpAny_pure ?_)
 dsimp only
 refine wpAny_bind (wpAny_fieldsOf hi rfl ?_)
 show wpAny _ _ (setEntries a >>= _) _ _ s
 refine wpAny_bind (rL ho hf ?_)
 rw[hn]
 simp only[bne_self_eq_false,Bool.false_eq_true,if_false]
 show wpAny _ _ (seqItems? (.ref tu) >>= _) _ _ s
 refine wpAny_bind (wpAny_seqItems hu rfl ?_)
 dsimp only
 have e:(ps.map λ(i:Nat)=>rawInt (i:Int)).toArray[((i:Int)).toNat]?=ps[i]?.map λ(i:Nat)=>rawInt (i:Int):=by simp
 rw[e]
 cases q:ps[i]? with
 |none=>
  rw[q]at h
  exact h
 |some pl=>
  rw[q]at h
  obtain⟨en,he,h⟩:=h
  show wpAny _ _ (setNextDrawn a ((pl:Int)).toNat ((ep:Int)).toNat >>= _) _ _ s
  unfold setNextDrawn
  refine wpAny_bind (wpAny_bind (wpAny_setState_of ho rfl hf ?_))
  dsimp only
  rw[show((ep:Int)).toNat=ep by simp,show((pl:Int)).toNat=pl by simp]
  simp only[bne_self_eq_false,Bool.false_eq_true,if_false]
  rw[he]
  exact wpAny_pure h
theorem zGN(hh:A.handled=none)(T:SetT prog w us es t)(it a tu:Addr)(ne:it≠a)(nu:it≠tu)(ps:List Nat)(hp:ps.Perm (List.range es.size)):
  WalksS prog w A it [it,a,tu] [it] Eq es.size (λi v=>∃pl e,ps[i]?=some pl/\es[pl]?=some e/\v=e.2)
   (λi s=>s.heap.get? it=some (itO (.ref tu) i a es.size ep)/\s.heap.get? a=some (dF es ep t)/\s.heap.get? tu=some (lB ps)) where
 sub:=λb hb=>by simp at hb;simp[hb]
 grefl:=λ_=>rfl
 gtrans:=λ_ _ _ x y=>x.trans y
 frame:=λi s h' tk st _ k=>⟨k it (by simp) _ st.1,k a (by simp) _ st.2.1,k tu (by simp) _ st.2.2⟩
 item:=λi s Q E hi st hQ=>by
  have pl:ps.length=es.size:=by rw[hp.length_eq,List.length_range]
  have hlt:i<ps.length:=by omega
  have hm:ps[i]<es.size:=by have:=hp.mem_iff.mp (List.getElem_mem hlt);simpa using this
  refine kI st.1 rfl (xQ st.1 st.2.1 st.2.2 T.fit rfl ?_)
  rw[List.getElem?_eq_getElem hlt]
  refine⟨es[ps[i]],Array.getElem?_eq_getElem hm,?_⟩
  refine wpAny_bind (wpAny_setField_rec st.1 (by simp) λh1 g1 b1=>?_)
  refine wpAny_pure ⟨_,rfl,hQ _ _ ⟨_,_,List.getElem?_eq_getElem hlt,Array.getElem?_eq_getElem hm,rfl⟩ ⟨?_,?_,?_⟩ ⟨?_,rfl,rfl,rfl,Nat.le_refl _⟩⟩
  ·rw[g1];rfl
  ·rw[b1.2 a ne.symm];exact st.2.1
  ·rw[b1.2 tu nu.symm];exact st.2.2
  ·intro b o hb e
   have hb':b≠it:=by simpa using hb
   rw[b1.2 b hb'];exact e
 done:=λs Q E st hQ=>by
  have pl:ps.length=es.size:=by rw[hp.length_eq,List.length_range]
  refine kI st.1 rfl (xQ st.1 st.2.1 st.2.2 T.fit rfl ?_)
  rw[List.getElem?_eq_none (by omega)]
  refine wpAny_bind (wpAny_setField_rec st.1 (by simp) λh1 g1 b1=>?_)
  refine sF hh g1 rfl (by simp) λe h' kp ty=>⟨ty,hQ _ ⟨λb o hb q=>kp b o (by simpa using hb) ?_,rfl,rfl,rfl,Nat.le_refl _⟩⟩
  have hb':b≠it:=by simpa using hb
  show h1.get? b=some o
  rw[b1.2 b hb'];exact q
 self:=λi s Q E st hQ=>by
  have ht:s.TypeIs (.ref it) "set_iterator":=⟨_,st.1,rfl⟩
  refine wpAny_pyIter_slot ht kL (wpAny_call_entry kL ht tS ?_ (tV _))
  show wpAny _ _ (ret (.ref it)) _ _ s
  exact wpAny_pure ⟨_,rfl,"set_iterator",_,ht,st_next.lookup,hQ⟩
end
end L2
namespace L2
open PySem PySem.Spec PyProof.Rows
def zBW(P:Nat->Value->Prop)(us:List Str):Prop:=∀acc:Array Value,ItemsOf P acc us.length->∃vs,StrsAre acc.toList vs/\vs.Perm us
theorem sZ{P:Nat->Value->Prop}{us:List Str}{out:List Value}{vs:List Str}(hl:out.length=us.length)(h:∀i v,P i v->out[i]?=some v)(hs:StrsAre out vs)(hp:vs.Perm us):zBW P us:=λacc ⟨h1,h2⟩=>by
 have e:acc.toList=out:=by
  apply List.ext_getElem?
  intro i
  by_cases hi:i<acc.size
  ·rw[h i acc[i] (h2 i _ (Array.getElem?_eq_getElem hi)),Array.getElem?_toList,Array.getElem?_eq_getElem hi]
  ·rw[Array.getElem?_toList,Array.getElem?_eq_none (by omega),List.getElem?_eq_none (by omega)]
 rw[e]
 exact⟨vs,hs,hp⟩
section
variable{prog:Program}{w:World}{A:Around}{E:Value->Shared->Prop}{s:Shared}{a:Addr}{us:List Str}
theorem zCC{Q:Value->Shared->Prop}(S:SetS prog w a us s.heap)
  (h:∀(it:Addr) (fp:List Addr) (P:Nat->Value->Prop) (St:Nat->Shared->Prop) (h':Heap) (d:Drawn),(∀A':Around,A'.handled=none->∃n,n=us.length/\WalksS prog w A' it fp [it] Eq n P St)->St 0 {s with heap:=h',drawn:=d}->zBW P us ->
   (∀b∈fp,b=a\/s.heap.objs.size<=b)->s.heap.objs.size<=it->(∀b o,s.heap.get? b=some o->h'.get? b=some o)->Q (.ref it) {s with heap:=h',drawn:=d}):
  wpAny (model prog w) A (pyIter (.ref a)) Q E s:=by
 obtain⟨es,ep,t,ho,T⟩:=id S
 have alt:a<s.heap.objs.size:=Heap.lt_size ho
 have ht:s.TypeIs (.ref a) "set":=⟨_,ho,rfl⟩
 have sz:=T.size
 obtain⟨vs,hv,pv⟩:=T.tx
 refine wpAny_pyIter_slot ht zAk (wpAny_call_entry zAk ht zFt ?_ (zFy _))
 unfold Builtin.«frozenset.__iter__» Builtin.Frozenset.slot0
 refine wpAny_bind (wpAny_bind (m:=slotArgs "__iter__" 0 ⟨[.ref a],[]⟩) (wpAny_pure ?_))
 show wpAny _ _ (pure a) _ _ s
 refine wpAny_pure ?_
 unfold Builtin.Frozenset.sizeOf
 refine wpAny_bind (wpAny_bind (rL ho T.fit (wpAny_pure ?_)))
 unfold setDrawn
 refine wpAny_bind (wpAny_bind (wpAny_setState_of ho rfl T.fit ?_))
 dsimp only
 refine wpAny_bind (kE (wpAny_pure ?_))
 show wpAny _ _ (if (!byT w&&(!t.plain&&decide (es.size > 1)))=true then _ else _) _ _ s
 have fin:∀(first:Value) (h1:Heap) (d:Drawn) (St:Nat->Shared->Prop),(∀b o,s.heap.get? b=some o->h1.get? b=some o)->s.heap.objs.size<=h1.objs.size ->
   (∀s2:Shared,s2.heap.get? h1.objs.size=some (itO first 0 a es.size ep)->(∀b o,h1.get? b=some o->s2.heap.get? b=some o) ->
    Q (.ref h1.objs.size) {s with heap:=h1.push (itO first 0 a es.size ep),drawn:=d})->wpAny (model prog w) A.in1 (do
   ret (<- newFields "set_iterator" [first,rawInt 0,.ref a,rawInt es.size,rawInt (<- setEpoch a)])) (λfin s'=>∃v,fin=.done (.ret v)/\∃T' r,s'.TypeIs v T'/\typeLookup (.type T') "__next__"=pure (some r)/\Q v s') E {s with heap:=h1,drawn:=d}:=by
  intro first h1 d St k le q
  refine wpAny_bind (wpAny_setEpoch_of (k a _ ho) rfl T.fit ?_)
  refine wpAny_bind (wpAny_newObj_type ?_ (by size_fits))
  exact wpAny_pure ⟨_,rfl,"set_iterator",_,⟨_,Heap.get?_push_size _ rfl,rfl⟩,st_next.lookup,q {s with heap:=h1.push (itO first 0 a es.size ep)} (Heap.get?_push_size _ rfl) λb o e=>Heap.get?_push_of_some _ e⟩
 cases hb:byT w with
 |true=>
  rw[if_neg (by simp)]
  refine wpAny_bind (wpAny_pure ?_)
  have e:s={s with heap:=s.heap,drawn:=s.drawn}:=by cases s;rfl
  have hp:=rZ (w.params.setOrder a ep) es
  obtain⟨vs',hv',pv'⟩:=oD (hp.map (·.2)) hv
  have nea:s.heap.objs.size≠a:=Nat.ne_of_gt alt
  refine fin (.int 0 0) s.heap s.drawn (λ_ _=>True) (λ_ _ e=>e) (Nat.le_refl _) λs2 g k=>?_
  refine h s.heap.objs.size [s.heap.objs.size,a] _ _ _ _ (λA' hA=>⟨es.size,sz,zGP (ep:=ep) hA hb T _ a nea⟩) ⟨Heap.get?_push_size _ rfl,Heap.get?_push_of_some _ ho⟩ ?_ (λb m=>?_) (Nat.le_refl _) λb o e=>Heap.get?_push_of_some _ e
  ·refine sZ (out:=(pickOrder (w.params.setOrder a ep) es).toList.map (·.2)) (vs:=vs') (by rw[List.length_map,hp.length_eq,Array.length_toList,sz]) (λi v q=>?_) hv' (pv'.trans pv)
   rw[List.getElem?_map,Array.getElem?_toList]
   exact q
  ·simp only[List.mem_cons,List.not_mem_nil,or_false]at m
   rcases m with m|m
   ·exact .inr (by rw[m];exact Nat.le_refl _)
   ·exact .inl m
 |false=>
  by_cases h1:es.size<=1
  ·rw[if_neg (by simp[show ¬ es.size > 1 by omega])]
   refine wpAny_bind (wpAny_pure ?_)
   have nea:s.heap.objs.size≠a:=Nat.ne_of_gt alt
   refine fin (.int 0 0) s.heap s.drawn (λ_ _=>True) (λ_ _ e=>e) (Nat.le_refl _) λs2 g k=>?_
   refine h s.heap.objs.size [s.heap.objs.size,a] _ _ _ _ (λA' hA=>⟨es.size,sz,zGO (ep:=ep) hA hb T h1 _ a nea⟩) ⟨Heap.get?_push_size _ rfl,Heap.get?_push_of_some _ ho⟩ ?_ (λb m=>?_) (Nat.le_refl _) λb o e=>Heap.get?_push_of_some _ e
   ·refine sZ (out:=es.toList.map (·.2)) (vs:=vs) (by rw[List.length_map,Array.length_toList,sz]) (λi v q=>?_) hv pv
    rw[List.getElem?_map,Array.getElem?_toList]
    exact q
   ·simp only[List.mem_cons,List.not_mem_nil,or_false]at m
    rcases m with m|m
    ·exact .inr (by rw[m];exact Nat.le_refl _)
    ·exact .inl m
  ·have np:t.plain=false:=T.pl.resolve_left (by omega)
   rw[if_pos (by simp[np];omega)]
   refine wpAny_bind (wO es.size (List.range es.size) s (by simp) λps d hp=>?_)
   refine wpAny_bind (wpAny_newTuple ?_ (by rw[List.length_map,hp.length_eq,List.length_range];exact fits_of_scanBound T.lt))
   have nea:s.heap.objs.size≠a:=Nat.ne_of_gt alt
   have e2:(s.heap.push (lB ps)).objs.size=s.heap.objs.size+1:=Heap.size_push ..
   refine fin (.ref s.heap.objs.size) (s.heap.push (lB ps)) d (λ_ _=>True) (λ_ _ e=>Heap.get?_push_of_some _ e) (by rw[e2];omega) λs2 g k=>?_
   refine h (s.heap.push (lB ps)).objs.size [(s.heap.push (lB ps)).objs.size,a,s.heap.objs.size] _ _ _ _ (λA' hA=>⟨es.size,sz,zGN (ep:=ep) hA T _ a s.heap.objs.size (by rw[e2];exact Nat.ne_of_gt (Nat.lt_succ_of_lt alt)) (by rw[e2];exact Nat.ne_of_gt (Nat.lt_succ_self _)) ps hp⟩) ⟨Heap.get?_push_size _ rfl,Heap.get?_push_of_some _ (Heap.get?_push_of_some _ ho),Heap.get?_push_of_some _ (Heap.get?_push_size _ rfl)⟩ ?_ (λb m=>?_) (by rw[e2];omega) λb o e=>Heap.get?_push_of_some _ (Heap.get?_push_of_some _ e)
   ·have hfm:(ps.filterMap λp=>es[p]?).Perm es.toList:=(hp.filterMap _).trans (by rw[filterMap_getElem?_range])
    obtain⟨vs',hv',pv'⟩:=oD (hfm.map (·.2)) hv
    have hmm:∀p∈ps,p<es.size:=λp m=>by have:=hp.mem_iff.mp m;simpa using this
    have hall:∀(l:List Nat),(∀p∈l,p<es.size)->∀i:Nat,(l.filterMap λp=>es[p]?)[i]?=(l[i]?).bind λp=>es[p]?:=by
     intro l
     induction l with
     |nil=>intro _ i;simp
     |cons x l ih=>
      intro hx i
      have hx0:=hx x (by simp)
      rw[List.filterMap_cons,Array.getElem?_eq_getElem hx0]
      cases i with
      |zero=>simp[hx0]
      |succ i=>simp only[List.getElem?_cons_succ];exact ih (λp m=>hx p (List.mem_cons_of_mem _ m)) i
    refine sZ (out:=(ps.filterMap λp=>es[p]?).map (·.2)) (vs:=vs') (by rw[List.length_map,hfm.length_eq,Array.length_toList,sz]) (λi v ⟨pl,e,q1,q2,q3⟩=>?_) hv' (pv'.trans pv)
    rw[List.getElem?_map,hall ps hmm,q1]
    simp[q2,q3]
   ·simp only[List.mem_cons,List.not_mem_nil,or_false]at m
    rcases m with m|m|m
    ·exact .inr (by rw[m,e2];omega)
    ·exact .inl m
    ·exact .inr (by rw[m];exact Nat.le_refl _)
end
end L2
namespace L2
open PySem PySem.Spec PyProof.Rows
theorem st_len:Slot "set" "__len__" "set.__len__":=
 Slot.of (owner:="set") (n:="__len__") (by rw[typeLookup_type,builtinLookup_eq_fast];kernel_rfl) (by decide +kernel) (by decide +kernel) (by decide +kernel) (by first|exact .inl (by decide +kernel)|exact .inr (by decide +kernel)) (by rw[isSubtype_type];kernel_rfl)
theorem zAW:isSubtype (.type "set") (.type "set")=pure true:=by rw[isSubtype_type];kernel_rfl
section
variable{prog:Program}{w:World}{A:Around}{E:Value->Shared->Prop}{s:Shared}{a:Addr}{us:List Str}
theorem zEz{Q:Bool->Shared->Prop}(ht:s.TypeIs (.ref a) "set")(h:Q false s):wpAny (model prog w) A (Builtin.List.listLengthHint (.ref a)) Q E s:=by
 unfold Builtin.List.listLengthHint
 refine wpAny_bind (wpAny_specialOf ht st_len.lookup ?_)
 have e1:splitId "set.__len__"=some ("set","__len__"):=by decide +kernel
 dsimp only
 rw[e1]
 dsimp only
 refine wpAny_bind (wpAny_isInstance ht zAW ?_)
 simp only[Bool.not_true,Bool.false_eq_true,if_false]
 refine wpAny_ite ?_
 rw[if_pos (by decide +kernel)]
 refine wpAny_bind (wpAny_typeOf ht ?_)
 exact wpAny_pure h
end
end L2
namespace L2
open PySem PySem.Spec PyProof.Rows
section
variable{prog:Program}{w:World}{A:Around}{E:Value->Shared->Prop}{s:Shared}{a:Addr}{us:List Str}
theorem zB9{Q:List Value->Shared->Prop}(hh:A.handled=none)(S:SetS prog w a us s.heap)
  (hQ:∀h' d tk (acc:List Value) vs,StrsAre acc vs->vs.Perm us->s.heap.objs.size<h'.objs.size->(∀b o,s.heap.get? b=some o->h'.get? b=some o)->Q acc {s with heap:=h',drawn:=d,toks:=tk}):
  wpAny (model prog w) A (collect (.ref a)) Q E s:=by
 have hl:us.length<=sizeLine:=by
  obtain⟨es,ep,t,ho,T⟩:=id S
  rw[<-T.size];exact fits_of_scanBound T.lt
 have alt:a<s.heap.objs.size:=by
  obtain⟨es,ep,t,ho,T⟩:=id S
  exact Heap.lt_size ho
 unfold collect
 refine wpAny_bind (wpAny_runValue (codeAny_builtin F.entry_proto_collect ?_))
 rw[Around.under_plainId F.plain_proto_collect _]
 show wpAny _ A.in1 (newList [] >>= λl=>again (.builtin "list.__iadd__" ⟨[l,.ref a],[]⟩)) _ _ s
 refine wpAny_bind (wpAny_newObj_type ?_ (by size_fits))
 refine wpAny_pure ⟨plainId_quiet F.plain_list_iadd _,codeAny_builtin F.entry_list_iadd ?_⟩
 rw[Around.under_plainId F.plain_list_iadd _]
 show wpAny _ A.in1 (Builtin.List.listExtendWith (.ref s.heap.objs.size) (.ref a) (.ref s.heap.objs.size)) _ _ _
 unfold Builtin.List.listExtendWith
 have S1:SetS prog w a us (s.heap.push {cls:=.type "list",data:=.seq ([]:List Value).toArray}):=by
  obtain⟨es,ep,t,ho,T⟩:=id S
  exact⟨es,ep,t,Heap.get?_push_of_some _ ho,T⟩
 have ht:Shared.TypeIs {s with heap:=s.heap.push {cls:=.type "list",data:=.seq ([]:List Value).toArray}} (.ref a) "set":=by
  obtain⟨es,ep,t,ho,T⟩:=id S1
  exact⟨_,ho,rfl⟩
 refine wpAny_bind (wpAny_typeOf ht ?_)
 have h1:Builtin.List.listSameRef (.ref s.heap.objs.size) (.ref a)=false:=by simp[Builtin.List.listSameRef];exact Nat.ne_of_gt alt
 have h2:(Value.type "set"==Value.type "list")=false:=by decide
 have h3:(Value.type "set"==Value.type "tuple")=false:=by decide
 simp only[h1,h2,h3,Bool.or_false,Bool.false_eq_true,if_false]
 refine wpAny_bind (zCC S1 λit fp P St h' d W st0 td hfp hit kp=>?_)
 have ht':Shared.TypeIs {s with heap:=h',drawn:=d} (.ref a) "set":=by
  obtain⟨o,e,c⟩:=ht
  exact⟨o,kp _ _ e,c⟩
 refine wpAny_bind (wpAny_holding (zEz ht' ?_))
 have hA:A.in1.in1.handled=none:=by simp[hh]
 obtain⟨n,hn,W⟩:=W A.in1 (by simp[hh])
 subst hn
 refine wpAny_ite ?_
 rw[if_pos (by decide +kernel)]
 refine wpAny_bind (wpAny_rule ?_)
 have sz1:(s.heap.push {cls:=.type "list",data:=.seq ([]:List Value).toArray}).objs.size=s.heap.objs.size+1:=Heap.size_push ..
 have g0:h'.get? s.heap.objs.size=some {cls:=.type "list",data:=.seq ([]:List Value).toArray}:=kp _ _ (Heap.get?_push_size _ rfl)
 have nf:s.heap.objs.size∉fp:=λm=>by
  rcases hfp _ m with z|z
  ·exact absurd z (Nat.ne_of_gt alt)
  ·rw[sz1]at z;omega
 refine wpAny_bind ?_
 show wpAny _ A.in1 (updateSeq s.heap.objs.size (·.push .none) >>= λ_=>updateSeq s.heap.objs.size (·.pop)) _ _ _
 refine wpAny_bind (wpAny_updateSeq g0 rfl ?_)
 have g1:=Heap.get?_update_self (Obj.mapSeq (·.push Value.none)) g0 rfl
 refine wpAny_updateSeq g1 rfl ?_
 have g2:=Heap.get?_update_self (Obj.mapSeq (·.pop)) g1 rfl
 have oth:∀b o,b≠s.heap.objs.size->h'.get? b=some o->((h'.update s.heap.objs.size (Obj.mapSeq (·.push Value.none))).update s.heap.objs.size (Obj.mapSeq (·.pop))).get? b=some o:=
  λb o hb e=>(Heap.get?_update_other _ _ (Ne.symm hb)).trans ((Heap.get?_update_other _ _ (Ne.symm hb)).trans e)
 refine wpAny_pure ⟨plainId_quiet F.plain_extend_loop _,codeAny_extend_loopS W hl _ nf _ us.length 0 _ _ _ rfl (Nat.zero_le _)
  (W.frame 0 {s with heap:=h',drawn:=d} _ s.toks st0 (Nat.le_refl _) λb hb o e=>oth b o (λz=>nf (z▸hb)) e) g2 (ItemsOf.nil P) λs' acc' c' hm g' hacc=>?_⟩
 show wpAny _ A (load s.heap.objs.size >>= _) _ _ s'
 refine wpAny_bind (wpAny_load g' ?_)
 obtain⟨vs,hs,hp⟩:=td acc' hacc
 obtain⟨h'',g'',d'',tk'',os''⟩:=s'
 have e1:g''=s.gens:=hm.gens.symm
 have e2:os''=s.os:=hm.os
 subst e1 e2
 refine wpAny_pure (hQ h'' d'' tk'' acc'.toList vs hs hp (Heap.lt_size g') λb o e=>hm.heap b o (λm=>?_) (oth b o (Nat.ne_of_lt (Heap.lt_size e)) (kp b o (Heap.get?_push_of_some _ e))))
 have lt:=Heap.lt_size e
 simp only[List.mem_cons,List.not_mem_nil,or_false]at m
 rcases m with m|m
 ·rw[m]at lt;exact Nat.lt_irrefl _ lt
 ·rw[m]at lt;rw[sz1]at hit;exact absurd lt (Nat.not_lt.mpr (Nat.le_of_succ_le hit))
end
end L2
namespace L2
open PySem PySem.Spec PyProof.Rows
section
variable{prog:Program}{w:World}{A:Around}{E:Value->Shared->Prop}{s:Shared}{a:Addr}{us:List Str}
theorem zCi{Q:Value->Shared->Prop}(hh:A.handled=none)(S:SetS prog w a us s.heap)(h64:us.length<64)
  (h:∀h' d tk (l:Addr) (out:List Value) (ss:List Str) (e:Nat),StrsAre out ss->ss.Perm us->sortedS ss=true->h'.get? l=some (seqObj "list" out.toArray e)->s.heap.objs.size<=l->(∀b o,s.heap.get? b=some o->h'.get? b=some o) ->
   Q (.ref l) {s with heap:=h',drawn:=d,toks:=tk}):wpAny (model prog w) A (call (.builtin "sorted") [.ref a]) Q E s:=by
 refine Calls.call_function_entry kind_sorted plain_sorted entry_sorted (args_sorted1 _) ?_
 unfold Builtin.«sorted»
 refine wpAny_bind (m:=checkCount "sorted" 1 1 _) (wpAny_pure ?_)
 refine wpAny_bind (zB9 (by simp[hh]) S λh1 d tk acc vs hs hp le kp=>?_)
 have hlen:acc.length<64:=by rw[jK hs,hp.length_eq];exact h64
 refine wpAny_bind (wpAny_newList ?_ (Nat.le_of_lt (Nat.lt_trans hlen (by decide))))
 have hoL:(h1.push (seqObj "list" acc.toArray 0)).get? h1.objs.size=some (seqObj "list" acc.toArray 0):=Heap.get?_push_size _ rfl
 refine wpAny_bind (wpAny_holding (wpAny_call_entry slot_list_sort ⟨_,hoL,rfl⟩ entry_list_sort (list_sort_treeK strKind_oneLt hoL hs.keysOf (λv₁ v₂ rest e=>keyKind_strs (by rw[<-e];exact hs)) hlen λst' a1 a2=>⟨_,rfl,?_⟩) (args_list_sort _)))
 obtain⟨ss',b1,b2,b3⟩:=sorted_out_str hs a1 a2
 obtain⟨e,he⟩:=sortedHeap_at (out:=(arrOf st').map (·.2)) hoL
 refine wpAny_pure ⟨_,rfl,h _ _ _ _ ((arrOf st').map (·.2)).toList ss' e b1 (b2.trans hp) b3 (by rw[Array.toArray_toList];exact he) (Nat.le_of_lt le) λb o q=>?_⟩
 have lt:=Heap.lt_size (kp b o q)
 rw[sortedHeap_old (Nat.ne_of_lt lt) (by rw[Heap.size_push];exact Nat.lt_succ_of_lt lt)]
 exact Heap.get?_push_of_some _ (kp b o q)
end
end L2
namespace L2
open PySem PySem.Spec PyProof.Rows
def gK(val:Nat->Str)(i:Nat):List Str:=((List.range i).map val).foldl dZ []
theorem yG(val:Nat->Str)(i:Nat):gK val (i+1)=dZ (gK val i) (val i):=by
 unfold gK
 rw[List.range_succ,List.map_append,List.foldl_append]
 rfl
theorem zT(val:Nat->Str):∀i,(gK val i).length<=i
 |0=>Nat.le_refl _
 |i+1=>by
  rw[yG]
  have:=zT val i
  unfold dZ
  split
  ·omega
  ·rw[List.length_append,List.length_singleton];omega
theorem zEB(us:List Str)(x y:Str):y∈dZ us x↔y∈us\/y=x:=by
 unfold dZ
 split
 ·exact⟨.inl,λh=>h.elim id λe=>by subst e;assumption⟩
 ·simp
theorem zFB{us:List Str}(h:us.Nodup)(x:Str):(dZ us x).Nodup:=by
 unfold dZ
 split
 ·exact h
 ·rename_i n
  rw[List.nodup_append]
  exact⟨h,by simp,λa ha b hb e=>n (by rw[<-show b=x by simpa using hb,<-e];exact ha)⟩
def dR(ss:List Str):List Str:=ss.foldl dZ []
theorem yO:∀(ss us:List Str) (y:Str),y∈ss.foldl dZ us↔y∈us\/y∈ss
 |[],us,y=>by simp
 |x::ss,us,y=>by rw[List.foldl_cons,yO ss,zEB,List.mem_cons,or_assoc]
theorem zV:∀(ss us:List Str),us.Nodup->(ss.foldl dZ us).Nodup
 |[],us,h=>h
 |x::ss,us,h=>zV ss _ (zFB h x)
theorem sL(ss:List Str)(y:Str):y∈dR ss↔y∈ss:=by rw[dR,yO];simp
theorem zAm(ss:List Str):(dR ss).Nodup:=zV ss [] List.nodup_nil
theorem zEh{val:Nat->Str}{ss:List Str}(h:∀i (hi:i<ss.length),val i=ss[i]):gK val ss.length=dR ss:=by
 unfold gK dR
 congr 1
 apply List.ext_getElem
 ·simp
 ·intro i h1 h2
  simp[h i h2]
section
variable{prog:Program}{w:World}{A:Around}{R:Result->Shared->Prop}{I:Addr}{fp wr:List Addr}{G:Array GenState->Array GenState->Prop}{n:Nat}{P:Nat->Value->Prop}{St:Nat->Shared->Prop}
theorem SetS.kept{a:Addr}{us:List Str}{h h':Heap}(S:SetS prog w a us h)(k:∀o,h.get? a=some o->h'.get? a=some o):SetS prog w a us h':=by
 obtain⟨es,ep,t,ho,T⟩:=S
 exact⟨es,ep,t,k _ ho,T⟩
theorem zEj(W:WalksS prog w A.in1 I fp wr G n P St)(S:Addr)(hf:S∉fp)(val:Nat->Str)(hv:∀i v,P i v->∃t,v=.str (val i) t)(hb:n+1<scanBound):
  ∀(k i:Nat) (s:Shared),n-i=k->i<=n->St i s->SetS prog w S (gK val i) s.heap ->
   (∀s',Moved (S::wr) G s s'->SetS prog w S (gK val n) s'.heap->R (.ok (.ret .none)) s')->codeAny (model prog w) A (.builtin "set.update.loop" ⟨[.ref S,.ref I],[]⟩) R s:=by
 have nw:S∉wr:=λz=>hf (W.sub _ z)
 have sub:∀b∈wr,b∈S::wr:=λb z=>List.mem_cons_of_mem _ z
 intro k
 induction k with
 |zero=>
  intro i s hk hi st hS hR
  have e:i=n:=by omega
  subst e
  refine codeAny_builtin F.entry_set_update_loop ?_
  rw[Around.under_plainId F.plain_set_update_loop _]
  show wpAny _ A.in1 (pyNext (.ref I) >>= _) _ _ s
  refine wpAny_bind (W.done s _ _ st λs' hm=>?_)
  show wpAny _ A.in1 (ret Value.none) _ _ s'
  exact wpAny_pure (hR s' (hm.mono sub) (hS.kept λo q=>hm.heap S _ nw q))
 |succ k ih=>
  intro i s hk hi st hS hR
  have lt:i<n:=by omega
  refine codeAny_builtin F.entry_set_update_loop ?_
  rw[Around.under_plainId F.plain_set_update_loop _]
  show wpAny _ A.in1 (pyNext (.ref I) >>= _) _ _ s
  refine wpAny_bind (W.item i s _ _ lt st λv s' hP st' hm=>?_)
  obtain⟨t,rfl⟩:=hv i v hP
  have hS':SetS prog w S (gK val i) s'.heap:=hS.kept λo q=>hm.heap S _ nw q
  show wpAny _ A.in1 (holding [Value.str (val i) t] (setAdd S (.str (val i) t)) >>= _) _ _ s'
  refine wpAny_bind (wpAny_holding ?_)
  unfold setAdd
  refine wpAny_holding (wpAny_bind ((PySem.strKind prog w).pyHash (k:=val i) (by show Value.isStrOf _ (.str _ t)=true;simp[Value.isStrOf]) ?_))
  have room:(gK val i).length+1<scanBound:=by have:=zT val i;omega
  refine zEA (s:={s' with toks:=s'.toks+1}) hS' room λb h' sb S2=>?_
  rw[<-yG]at S2
  refine wpAny_pure ⟨plainId_quiet F.plain_set_update_loop _,ih (i+1) _ (by omega) lt (W.frame _ s' _ _ st' (Nat.le_succ _) λc hc o e=>?_) S2 λs'' hm'' S3=>?_⟩
  ·rw[sb.2 c (λz:c=S=>hf (by rw[<-z];exact hc))];exact e
  ·refine hR s'' (Moved.trans W.gtrans ((hm.mono sub).then_heap (Nat.le_succ _) λc o hc e=>?_) hm'') S3
   rw[sb.2 c (λz:c=S=>hc (by rw[z];exact List.mem_cons_self))];exact e
end
section
variable{prog:Program}{w:World}{A:Around}{E:Value->Shared->Prop}{s:Shared}
theorem zCx(a:Value){Q₁:Value->Shared->Prop}(h:Q₁ (.ref s.heap.objs.size) {s with heap:=s.heap.push (dF #[] 0 (.fresh 0 0 (!byT w)))}):
  codeAny (model prog w) A (.call (.builtin "set.__new__") ⟨[.type "set",a],[]⟩) (wants Q₁ E) s:=by
 refine codeAny_of_tree ?_
 show wpAny _ A.in1 (do checkBuiltinCall "set.__new__" ⟨[.type "set",a],[]⟩;again (.builtin "set.__new__" ⟨[.type "set",a],[]⟩)) _ _ s
 refine wpAny_bind (wpAny_of_eq (F.newCall_set_1 a) (wpAny_pure ⟨plainId_quiet F.plain_set_new _,codeAny_builtin F.entry_set_new ?_⟩))
 rw[Around.under_plainId F.plain_set_new _]
 unfold Builtin.«set.__new__» Builtin.Frozenset.newClass
 have hsub:=zAW
 obtain⟨hp,g,d,tk,os⟩:=s
 dsimp only
 wp_walk
 refine wpAny_askSetting (wpAny_pure ?_)
 dsimp only
 simp only[newObj]
 refine wpAny_bind (wpAny_alloc (wpAny_pure ?_))
 exact wpAny_pure h
end
end L2
namespace L2
open PySem PySem.Spec PyProof.Rows
theorem kJ:∀{vs:List Value}{ss:List Str},StrsAre vs ss->∀(i:Nat) (v:Value),vs[i]?=some v->∃t,v=.str (ss.getD i ⟨#[]⟩) t
 |_,_,.nil,i,v,h=>by simp at h
 |_,_,.cons y t hr,0,v,h=>by
  simp at h
  exact⟨t,by rw[<-h];rfl⟩
 |_,_,.cons y t hr,i+1,v,h=>by
  simp only[List.getElem?_cons_succ]at h
  obtain⟨u,e⟩:=kJ hr i v h
  exact⟨u,by rw[e];rfl⟩
section
variable{prog:Program}{w:World}{A:Around}{E:Value->Shared->Prop}{s:Shared}
theorem zCB{l:Addr}{items:Array Value}{ss:List Str}{Q:Value->Shared->Prop}(hh:A.handled=none)(hl:s.heap.IsList l items)(hi:StrsAre items.toList ss)(hb:ss.length+1<scanBound)
  (h:∀(h':Heap) (tk:Nat),SetS prog w s.heap.objs.size (dR ss) h'->(∀b o,b<s.heap.objs.size->s.heap.get? b=some o->h'.get? b=some o)->Q (.ref s.heap.objs.size) {s with heap:=h',toks:=tk}):
  wpAny (model prog w) A (call (.type "set") [.ref l]) Q E s:=by
 have hz:items.size=ss.length:=by have:=jK hi;simpa using this
 obtain⟨c,tl,hmro⟩:=F.called_set.mro
 have hmade:=F.called_set.made
 have hsub:=F.called_set.sub
 refine wpAny_call (codeAny_of_tree ?_)
 show wpAny _ _ (callAny (.type "set") _) _ _ _
 refine wpAny_pure ⟨Code.quiet_builtin _ (by decide +kernel),codeAny_builtin F.entry_type_call ?_⟩
 rw[Around.under_plain (weight_type_call_type "set" [.ref l] []) rfl]
 have h1:=F.called_set.notType
 have h2:=F.called_set.canCreate
 have hct:=F.typeCall_set_1 (.ref l)
 repeat (any_goals (first|assumption|wp_step))
 refine codeAny_mono (zCx (.ref l) (E:=E) (Q₁:=λobj s₁=>obj=.ref s.heap.objs.size/\s₁={s with heap:=s.heap.push (dF #[] 0 (.fresh 0 0 (!byT w)))}) ⟨rfl,rfl⟩) λr s₁ hr=>?_
 cases r with
 |error e=>exact hr
 |ok fl=>
  cases fl with
  |ret obj=>
   obtain⟨rfl,rfl⟩:=hr
   have hS:(s.heap.push (dF #[] 0 (.fresh 0 0 (!byT w)))).get? s.heap.objs.size=some (dF #[] 0 (.fresh 0 0 (!byT w))):=Heap.get?_push_size _ rfl
   have hT:Shared.TypeIs {s with heap:=s.heap.push (dF #[] 0 (.fresh 0 0 (!byT w)))} (.ref s.heap.objs.size) "set":=⟨_,hS,rfl⟩
   have hli:=F.called_set.init.lookup
   have hbi:=F.called_set.init.bind (.ref s.heap.objs.size)
   repeat (any_goals (first|assumption|wp_step))
   refine codeAny_mono (codeAny_call_builtin (R:=wants (λr s₂=>r=.none/\∃h' tk,s₂={s with heap:=h',toks:=tk}/\SetS prog w s.heap.objs.size (dR ss) h' /\
     (∀b o,b<s.heap.objs.size->s.heap.get? b=some o->h'.get? b=some o)) E) F.called_set.init.plain F.entry_set_init (check_set_init_1 hT ?_)) λr₂ s₂ hr₂=>?_
   ·obtain⟨ol,hol,hcl,nl,hdl⟩:=hl
    obtain⟨ocls,odict,odata,oslots⟩:=ol
    simp only at hcl hdl
    subst hcl hdl
    have hol':(s.heap.push (dF #[] 0 (.fresh 0 0 (!byT w)))).get? l=some {cls:=.type "list",dict:=odict,data:=.seq items nl,slots:=oslots}:=Heap.get?_push_of_some _ hol
    have hsls:=F.sub_list_set
    have hslf:=F.sub_list_frozenset
    have hne:(Value.type "list"==Value.type "dict")=false:=by decide
    have hl1:(s.heap.push (dF #[] 0 (.fresh 0 0 (!byT w)))).IsList l items:=⟨_,hol',rfl,nl,rfl⟩
    unfold Builtin.«set.__init__» noKeywords Builtin.Frozenset.updateFrom
    generalize hPI:pyIter=PI
    wp_walk
    subst hPI
    refine wpAny_pyIter_list hl1 ?_
    refine wpAny_bind (wpAny_runValue ?_)
    have hlS:l<s.heap.objs.size:=Heap.lt_size hol
    have hh3:A.in1.in1.in1.handled=none:=by simp[hh]
    have neI:l≠(s.heap.push (dF #[] 0 (.fresh 0 0 (!byT w)))).objs.size:=by
     rw[Heap.size_push]
     exact Nat.ne_of_lt (Nat.lt_succ_of_lt hlS)
    have nf:s.heap.objs.size∉[(s.heap.push (dF #[] 0 (.fresh 0 0 (!byT w)))).objs.size,l]:=by
     rw[Heap.size_push]
     simp only[List.mem_cons,List.not_mem_nil,or_false,not_or]
     exact⟨Nat.ne_of_lt (Nat.lt_succ_self _),Nat.ne_of_gt hlS⟩
    refine zEj ((Walks.list hh3 _ l neI items).toS) s.heap.objs.size nf (λi=>ss.getD i ⟨#[]⟩) (λi v hv=>kJ hi i v (by rw[Array.getElem?_toList];exact hv)) (by rw[hz];exact hb) (items.size-0) 0 _ (by omega) (Nat.zero_le _)
     ⟨⟨_,Heap.get?_push_size _ rfl,rfl,rfl⟩,hl1.push _⟩ ?_ λs' hm S'=>?_
    ·refine⟨#[],0,.fresh 0 0 (!byT w),Heap.get?_push_of_some _ hS,⟨λe he=>by simp at he,⟨[],.nil,.refl _⟩,List.nodup_nil,by decide,?_,.inl rfl,rfl⟩⟩
     simp[SetTable.fits,SetTable.fresh,SetTable.fill]
    ·obtain⟨h',g',d',tk',os'⟩:=s'
     have eg:g'=s.gens:=hm.gens
     have ed:d'=s.drawn:=hm.drawn
     have eo:os'=s.os:=hm.os
     subst eg ed eo
     rw[hz,zEh (ss:=ss) (λi hi=>by simp[hi])]at S'
     show wpAny _ _ _ _ _ _
     refine wpAny_pure ?_
     show wpAny _ _ (ret Value.none) _ _ _
     refine wpAny_pure ⟨rfl,h',tk',rfl,S',λb o hb e=>?_⟩
     have hb2:b≠(s.heap.push (dF #[] 0 (.fresh 0 0 (!byT w)))).objs.size:=by
      rw[Heap.size_push]
      exact Nat.ne_of_lt (Nat.lt_succ_of_lt hb)
     exact hm.heap b o (by simp only[List.mem_cons,List.not_mem_nil,or_false,not_or];exact⟨Nat.ne_of_lt hb,hb2⟩) (Heap.get?_push_of_some _ (Heap.get?_push_of_some _ e))
   ·cases r₂ with
    |error e=>exact hr₂
    |ok fl₂=>
     cases fl₂ with
     |ret r=>
      obtain⟨rfl,h',tk,rfl,S',hk'⟩:=hr₂
      repeat (any_goals (first|assumption|wp_step))
      exact h _ _ S' hk'
     |_=>exact hr₂.elim
  |_=>exact hr.elim
end
end L2
namespace L2
open PySem PySem.Spec PyProof.Rows
theorem boot_set:bootBuiltins "set"=some (.type "set"):=by decide +kernel
def qG(P:Program)(w:World)(a:Addr)(us:List Str):HO:=.ext (SetS P w a us)
section
variable{X:Cx}
theorem Inv.draw{pins:List (Addr×Obj)}{σ:St}{H:Hp}{s:Shared}(I:Inv X pins σ H s)(d:Drawn):Inv X pins σ H {s with drawn:=d}:=
 ⟨I.ok,I.os,I.bare,I.base,I.loc,I.cell,I.free,I.freeC,I.pin,I.hok,I.len⟩
def zG3(P:Program)(w:World)(K:W.Frag):List V->Hp->VK->Prop:=λxs H Q=>∃(p:Addr) (ss:List Str),xs=[.ref p]/\SqL K H p (ss.map V.str)/\ss.length<4000/\∀a:Addr,H a=none->Q (.ref a) (upd H a (qG P w a (dR ss)))
theorem zDH(hc:X.calm=true):CallR X (.type "set") (zG3 X.prog X.w X.K):=by
 intro pins s σ H xs us Q I r h
 obtain⟨p,ss,rfl,hq,hz,q⟩:=h
 obtain⟨u,rfl,rx⟩:=cF r
 cases rx
 obtain⟨its,rv,pl,hz'⟩:=I.list hq
 have hi:StrsAre its.toArray.toList ss:=lH rv
 refine zCB (I.ok.hd hc) pl.isList hi (by show ss.length+1<4096;omega) λh' tk S k=>?_
 refine⟨.ref s.heap.objs.size,_,I.laid (t':=tk) (o:=qG X.prog X.w s.heap.objs.size (dR ss)) (λb o e=>k b o (Heap.lt_size e) e) (Nat.le_refl _) ⟨S,?_,λh1 h2 z k'=>z.kept k'⟩,rfl,q _ I.fresh⟩
 obtain⟨es,ep,t,e,_⟩:=S
 exact⟨_,e⟩
def zFU(P:Program)(w:World):List V->Hp->VK->Prop:=λxs H Q=>∃(a:Addr) (us:List Str),xs=[.ref a]/\H a=some (qG P w a us)/\us.length<64 /\
  ∀(ss:List Str) (l:Addr),ss.Perm us->sortedS ss=true->H l=none->Q (.ref l) (upd H l (.lst (ss.map V.str)))
theorem zCo(hc:X.calm=true):CallR X (.builtin "sorted") (zFU X.prog X.w):=by
 intro pins s σ H xs us Q I r h
 obtain⟨a,uu,rfl,hq,h64,q⟩:=h
 obtain⟨u,rfl,rx⟩:=cF r
 cases rx
 have S:SetS X.prog X.w a uu s.heap:=(I.hok a _ hq).1
 refine zCi (I.ok.hd hc) S h64 λh' d tk l out ss e hs hp hso hl le k=>?_
 refine⟨.ref l,_,(I.laid (t':=tk) (o:=.lst (ss.map V.str)) k le ?_).draw d,rfl,q ss l hp hso (I.hok.fresh le)⟩
 refine⟨?_,out,e,rG hs,hl⟩
 rw[List.length_map,hp.length_eq]
 exact Nat.le_of_lt (Nat.lt_trans h64 (by decide))
def fX(x:Str)(n:Int):Str:=⟨(List.replicate n.toNat x.cps.toList).flatten.toArray⟩
def zG7:R2:=λx y H Q=>∃(z:Str) (n:Int),x=.str z/\y=.int n/\z.length<=1000/\n<=1000 /\ -1000<=n/\Q (.str (fX z n)) H
theorem sU(x:Array Nat):∀n (acc:Array Nat),((List.replicate n x).foldl (·++·) acc)=(acc.toList++(List.replicate n x.toList).flatten).toArray
 |0,acc=>by simp
 |n+1,acc=>by
  rw[List.replicate_succ,List.foldl_cons,sU x n,List.replicate_succ,List.flatten_cons]
  simp
theorem zFb:OpR X (binaryOp .Mult) zG7:=by
 intro pins s σ H x y v u Q I rx ry h
 obtain⟨z,n,rfl,rfl,hz,n1,n0,q⟩:=h
 obtain⟨t,rfl⟩:=rx
 obtain⟨t',rfl⟩:=ry
 have fin:∀(w:Str) (k:Tok) (tk:Nat),w=fX z n->EP X pins σ Q (.str w k) {s with toks:=tk}:=λw k tk e=>⟨.str w,H,I.tok tk,⟨k,rfl⟩,by rw[e];exact q⟩
 have pos:∀m:Nat,m<=1000->z.length*m<=1000000:=λm hm=>Nat.mul_le_mul hz hm
 refine P.mul_str (by rw[decide_eq_false (by omega),decide_eq_false (by omega)];rfl) (λh1 _ h2=>?_) (λh1 _=>?_) ?_
 ·have:(2 ^ 63-1) / n>=1000:=by
   have h3:n<=1000:=n1
   have h4:0<n:=by omega
   rw[ge_iff_le,Int.le_ediv_iff_mul_le h4]
   omega
  omega
 ·show decide (_ > sizeLine)=false
  refine decide_eq_false (Nat.not_lt.mpr (Nat.le_trans (pos n.toNat (by omega)) (by decide)))
 ·split
  ·refine⟨by decide,fin _ _ _ ?_⟩
   unfold fX
   rw[show n.toNat=0 by omega]
   rfl
  ·split
   ·rename_i h1 h2
    refine fin _ _ s.toks ?_
    rw[Bool.or_eq_true]at h2
    unfold fX
    rcases h2 with h3|h3
    ·have:n=1:=by simpa using h3
     rw[this]
     simp
    ·have hz0:z.cps=#[]:=by
      have:z.cps.size=0:=by simpa[Str.length]using h3
      exact Array.size_eq_zero_iff.mp this
     have e:∀m:Nat,(List.replicate m ([]:List Nat)).flatten=[]:=λm=>by
      induction m with
      |zero=>rfl
      |succ m ih=>rw[List.replicate_succ,List.flatten_cons,ih];rfl
     obtain⟨zc⟩:=z
     have hz0:zc=#[]:=hz0
     subst hz0
     show(⟨#[]⟩:Str)=⟨(List.replicate n.toNat ([]:List Nat)).flatten.toArray⟩
     rw[e]
   ·refine⟨?_,fin _ _ _ ?_⟩
    ·show(List.foldl (λx1 x2=>x1++x2) #[] (List.replicate n.toNat z.cps)).size<=_
     rw[sU,List.size_toArray,List.length_append,tP]
     show 0+n.toNat*z.cps.toList.length<=_
     have:=pos n.toNat (by omega)
     rw[Nat.mul_comm]at this
     have e:z.cps.toList.length=z.length:=by simp[Str.length]
     rw[e]
     exact Nat.le_trans (by omega) (show 1000000<=sizeLine by decide)
    ·unfold fX
     rw[sU]
     simp
def zHR(K:W.Frag):V->Option Int->Option Int->Hp->VK->Prop:=λx lo hi H Q=>∃a xs,x=.ref a/\SqT K H a xs/\∀p H',Same H H'->SqT K H' p (fN xs lo hi)->Q (.ref p) H'
theorem zCf{prog:Program}{w:World}{A:Around}{E:Value->Shared->Prop}{s:Shared}{t sl:Addr}{items:Array Value}{vl vu:Value}{lo hi:Option Int}{Q:Value->Shared->Prop}(ht:IsTup s.heap t items)(hs:s.heap.IsSliceOf sl vl vu .none)(pl:IsPart vl lo)(pu:IsPart vu hi)
  (hw:HT.sIx items.size 0 lo=0/\HT.sIx items.size items.size hi=items.size) (h:Q (.ref t) s):wpAny (model prog w) A (getItem (.ref t) (.ref sl)) Q E s:=by
 obtain⟨os,hos,hcs,hds⟩:=id hs
 have hTs:s.TypeIs (.ref sl) "slice":=⟨os,hos,hcs⟩
 unfold getItem
 try with_reducible refine wpAny_holding ?_
 first|refine wpAny_bind (wpAny_pure ?_)|skip
 refine wpAny_bind (wpAny_sequenceKey ht.typeIs (by decide) ?_)
 refine wpAny_bind (wpAny_callSpecial?_slot (name:=Str.ofString "__getitem__") ht.typeIs PyProof.Rows.slot_tuple_getitem (wpAny_call_entry PyProof.Rows.slot_tuple_getitem ht.typeIs entry_tuple_getitem ?_ (args_tuple_getitem _ _)))
 show wpAny _ _ (Builtin.Tuple.tupleItemsOf (.ref t) >>= _) _ _ s
 refine wpAny_bind (tupleItemsOf_ ht (wpAny_bind (wpAny_typeOf hTs ?_)))
 rw[if_pos (by decide)]
 refine wpAny_bind (HT.sliceApplied_gen hs pl pu ?_)
 rw[hw.1,hw.2]
 dsimp only
 rw[if_pos (by simp)]
 unfold Builtin.Tuple.tupleIsExact
 refine wpAny_bind (wpAny_bind (wpAny_typeOf ht.typeIs (wpAny_pure ?_)))
 rw[if_pos (by decide)]
 exact wpAny_bind (wpAny_rule (wpAny_pure ⟨_,rfl,wpAny_pure h⟩))
theorem zFv{xs:List V}{lo hi:Option Int}(hw:HT.sIx xs.length 0 lo=0/\HT.sIx xs.length xs.length hi=xs.length):fN xs lo hi=xs:=by
 unfold fN
 rw[hw.1,hw.2,List.drop_zero,Nat.sub_zero,List.take_length]
theorem sl_tupW:SlR X (zHR X.K):=by
 intro pins s σ H x v vl vu lo hi sl Q I rx hs pl pu h
 obtain⟨a,xs,rfl,hx,q⟩:=h
 by_cases hw:HT.sIx xs.length 0 lo=0/\HT.sIx xs.length xs.length hi=xs.length
 ·cases rx
  obtain⟨its,r,ht,hz⟩:=I.tuple hx
  have hlen:its.toArray.size=xs.length:=by rw[List.size_toArray];exact r.length.symm
  refine⟨"tuple",_,PyProof.Rows.slot_tuple_getitem.lookup,ht.typeIs,?_⟩
  exact zCf ht hs pl pu (by rw[hlen];exact hw) ⟨.ref a,H,I,rfl,q a H (λ_ _ e=>e) (by rw[zFv hw];exact hx)⟩
 ·exact zFL pins s σ H _ v vl vu lo hi sl Q I rx hs pl pu ⟨a,xs,rfl,hx,hw,λp np=>q p _ (λb o e=>by rw[bL (cU e np)];exact e) (SqT.of bM)⟩
end
end L2
namespace L2
open PySem PySem.Spec PyProof.Rows
inductive Lf where
 |non
 |int (i:Int)
 |str (x:Str)
def Lf.v:Lf->V
 |.non=>.non
 |.int i=>.int i
 |.str x=>.str x
def Lf.t:Lf->Str
 |.non=>"None"
 |.int i=>toString i
 |.str x=>reprText x
def Lf.ok:Lf->Prop
 |.non=>True
 |.int i=>i.natAbs.log2<1920
 |.str x=>(reprText x).length<=100000
inductive Rp where
 |lf (l:Lf)
 |tup (a:Addr) (ls:List Lf)
def Rp.v:Rp->V
 |.lf l=>l.v
 |.tup a _=>.ref a
def Rp.t:Rp->Str
 |.lf l=>l.t
 |.tup _ ls=>tupleText (ls.map Lf.t)
def Rp.At(K:W.Frag)(H:Hp):Rp->Prop
 |.lf l=>l.ok
 |.tup a ls=>SqT K H a (ls.map Lf.v)/\∀l∈ls,l.ok
theorem xW{prog:Program}{w:World}:∀{l:Lf}{u:Value},l.ok->RelV l.v u->ReprIs prog w u l.t
 |.non,u,_,r=>by cases r;exact ReprIs.none
 |.int i,u,h,r=>by obtain⟨t,rfl⟩:=r;exact ReprIs.int t h
 |.str x,u,h,r=>by obtain⟨t,rfl⟩:=r;exact ReprIs.str x t (Nat.le_trans h (by decide))
theorem xE{prog:Program}{w:World}{as:List Addr}{h₀:Heap}{d:Nat}:∀{ls:List Lf}{us:List Value},(∀l∈ls,l.ok)->Vals (ls.map Lf.v) us->ReprAllK prog w as h₀ d us (ls.map Lf.t)
 |[],us,_,r=>by rw[List.map_nil]at r;cases r;exact .nil
 |l::ls,us,h,r=>by
  rw[List.map_cons]at r
  cases r with
  |cons r1 r2=>exact .cons (.of_is (xW (h l List.mem_cons_self) r1) as h₀ d) (xE (λx hx=>h x (List.mem_cons_of_mem _ hx)) r2)
def Rp.ad:Rp->List Addr
 |.lf _=>[]
 |.tup a _=>[a]
section
variable{X:Cx}
theorem rN{pins:List (Addr×Obj)}{σ:St}{H:Hp}{s:Shared}(I:Inv X pins σ H s){as:List Addr}:∀{is:List Rp}{us:List Value},(∀i∈is,i.At X.K H)->(∀i∈is,∀b∈i.ad,b∈as)->Vals (is.map Rp.v) us->ReprAllK X.prog X.w as s.heap 1 us (is.map Rp.t)
  |[],us,_,_,r=>by rw[List.map_nil]at r;cases r;exact .nil
  |.lf l::is,us,h,ha,r=>by
    rw[List.map_cons]at r
    cases r with
    |cons r1 r2=>exact .cons (.of_is (xW (h _ List.mem_cons_self) r1) as s.heap 1) (rN I (λx hx=>h x (List.mem_cons_of_mem _ hx)) (λx hx=>ha x (List.mem_cons_of_mem _ hx)) r2)
  |.tup a ls::is,us,h,ha,r=>by
    rw[List.map_cons]at r
    cases r with
    |cons r1 r2=>
      cases r1
      obtain⟨hq,hk⟩:=h _ List.mem_cons_self
      obtain⟨its,rv,ht,hz⟩:=I.tuple hq
      obtain⟨o,ho,hc,n,hd⟩:=ht
      have T:=ReprK.tuple (prog:=X.prog) (w:=X.w) (as:=[]) (d:=0) ho hc hd (by simp) (xE hk (by simpa using rv))
      exact .cons (T.more (by intro b hb; have : b = a := by simpa using hb
                              subst this;exact ha _ List.mem_cons_self b (by simp[Rp.ad]))) (rN I (λx hx=>h x (List.mem_cons_of_mem _ hx)) (λx hx=>ha x (List.mem_cons_of_mem _ hx)) r2)
theorem Room.r16{k:Nat}{A:Around}(r:Room k A):A.units+16<cLine:=by
 have:=r.un
 omega
def zG5(K:W.Frag):List V->Hp->VK->Prop:=λxs H Q=>
 (∃l:Lf,xs=[l.v]/\l.ok/\Q (.str l.t) H) \/
 (∃(a:Addr) (is:List Rp),xs=[.ref a]/\SqT K H a (is.map Rp.v)/\(∀i∈is,i.At K H)/\(∀i∈is,a∉i.ad)/\(tupleText (is.map Rp.t)).length<=sizeLine/\Q (.str (tupleText (is.map Rp.t))) H)
theorem zCV(hg:X.A.guards=some [])(hu:X.A.units+16<cLine):CallR X (.builtin "repr") (zG5 X.K):=by
 intro pins s σ H xs us Q I r h
 rcases h with⟨l,rfl,hk,q⟩|⟨a,is,rfl,hq,hat,hne,hz,q⟩
 ·obtain⟨u,rfl,rx⟩:=cF r
  cases l with
  |non=>cases rx;exact PySem.P.repr_of_none ⟨.str _,H,I.tok _,⟨_,rfl⟩,q⟩
  |int i=>obtain⟨t,rfl⟩:=rx;exact PySem.P.repr_of_int hk ⟨.str _,H,I.tok _,⟨_,rfl⟩,q⟩
  |str x=>obtain⟨t,rfl⟩:=rx;exact PySem.P.repr_of_str ⟨.str _,H,I.tok _,⟨_,rfl⟩,q⟩ (Nat.le_trans hk (by decide))
 ·obtain⟨u,rfl,rx⟩:=cF r
  cases rx
  obtain⟨its,rv,ht,hz'⟩:=I.tuple hq
  obtain⟨o,ho,hc,n,hd⟩:=id ht
  have hT:s.TypeIs (.ref a) "tuple":=⟨o,ho,hc⟩
  have R:=rN I (as:=(is.map Rp.ad).flatten) hat (λi hi b hb=>List.mem_flatten.mpr ⟨i.ad,List.mem_map.mpr ⟨i,hi,rfl⟩,hb⟩) rv
  have na:a∉(is.map Rp.ad).flatten:=λz=>by
   obtain⟨l,hl,hb⟩:=List.mem_flatten.mp z
   obtain⟨i,hi,rfl⟩:=List.mem_map.mp hl
   exact hne i hi hb
  refine Calls.call_function_entry F.kind_repr F.plain_repr F.entry_repr (F.args_repr1 _) ?_
  unfold Builtin.«repr»
  have u1:X.A.in1.units=X.A.units+1:=rfl
  refine wpAny_bind (m:=oneArg "repr" _) (wpAny_pure (wpAny_bind (wpAny_cRoomFor (by rw[u1];omega) ?_)))
  refine wpAny_bind (wpAny_specialOf (name:=Str.ofString "__repr__") hT F.slot_tuple_repr.lookup ?_)
  refine wpAny_bind (m:=callSpecialIfBound? _ (Str.ofString "__repr__")) (wpAny_callSpecialIfBound?_slotG (name:=Str.ofString "__repr__") hT F.slot_tuple_repr (call_tuple_reprK ho hc hd na (by simpa using R) (A:=X.A.in1) (g:=[]) hg (λb _=>Clear.nil b) (by rw[u1];omega) (λ_ _ e=>e) (λh' u tk k=>?_) hz))
  refine wpAny_bind (wpAny_isInstance (T:="str") (b:=true) rfl isSubtype_str_str (wpAny_pure ⟨_,rfl,.str _,H,I.kept (t':=tk) k,⟨u,rfl⟩,q⟩))
end
end L2
namespace L2
open PySem PySem.Spec PyProof.Rows
theorem zAQ(f:Nat->List Nat):∀n,argBest (λi j=>decide (f i<f j)) n<=n/\∀j,j<=n->f (argBest (λi j=>decide (f i<f j)) n)<=f j
 |0=>⟨Nat.le_refl _,λj hj=>by rw[Nat.le_zero.mp hj];exact List.le_refl _⟩
 |n+1=>by
  obtain⟨h1,h2⟩:=zAQ f n
  show(if decide (f (n+1)<f (argBest _ n))=true then n+1 else argBest _ n)<=n+1/\∀j,j<=n+1->f (if decide (f (n+1)<f (argBest _ n))=true then n+1 else argBest _ n)<=f j
  by_cases h:f (n+1)<f (argBest (λi j=>decide (f i<f j)) n)
  ·rw[if_pos (decide_eq_true h)]
   refine⟨Nat.le_refl _,λj hj=>?_⟩
   rcases Nat.lt_or_eq_of_le hj with z|z
   ·exact List.le_trans (List.le_of_lt h) (h2 j (by omega))
   ·rw[z];exact List.le_refl _
  ·rw[if_neg (λz=>h (of_decide_eq_true z))]
   refine⟨by omega,λj hj=>?_⟩
   rcases Nat.lt_or_eq_of_le hj with z|z
   ·exact h2 j (by omega)
   ·rw[z];exact List.not_lt.mp h
theorem zAR(f:Nat->List Nat):∀n,argBest (λi j=>decide (f j<f i)) n<=n/\∀j,j<=n->f j<=f (argBest (λi j=>decide (f j<f i)) n)
 |0=>⟨Nat.le_refl _,λj hj=>by rw[Nat.le_zero.mp hj];exact List.le_refl _⟩
 |n+1=>by
  obtain⟨h1,h2⟩:=zAR f n
  show(if decide (f (argBest _ n)<f (n+1))=true then n+1 else argBest _ n)<=n+1/\∀j,j<=n+1->f j<=f (if decide (f (argBest _ n)<f (n+1))=true then n+1 else argBest _ n)
  by_cases h:f (argBest (λi j=>decide (f j<f i)) n)<f (n+1)
  ·rw[if_pos (decide_eq_true h)]
   refine⟨Nat.le_refl _,λj hj=>?_⟩
   rcases Nat.lt_or_eq_of_le hj with z|z
   ·exact List.le_trans (h2 j (by omega)) (List.le_of_lt h)
   ·rw[z];exact List.le_refl _
  ·rw[if_neg (λz=>h (of_decide_eq_true z))]
   refine⟨by omega,λj hj=>?_⟩
   rcases Nat.lt_or_eq_of_le hj with z|z
   ·exact h2 j (by omega)
   ·rw[z];exact List.not_lt.mp h
theorem yL{l:List Str}{i:Nat}(h:i<l.length):l.getD i ⟨#[]⟩∈l:=by
 rw[List.getD_eq_getElem?_getD,List.getElem?_eq_getElem h]
 exact List.getElem_mem h
theorem yI{l:List Str}{a:Str}(h:a∈l):∃j,j<l.length/\l.getD j ⟨#[]⟩=a:=by
 obtain⟨j,hj,e⟩:=List.mem_iff_getElem.mp h
 exact⟨j,hj,by rw[List.getD_eq_getElem?_getD,List.getElem?_eq_getElem hj];exact e⟩
section
variable{prog:Program}{w:World}{A:Around}{E:Value->Shared->Prop}{s:Shared}{l:Addr}{its:Array Value}{ss:List Str}
theorem zCy{P:Nat->Value->Prop}(val:Nat->Str)(hval:∀i v,P i v->∃t,v=.str (val i) t):CmpOf prog w A .Lt P (λi j=>decide ((val i).cps.toList<(val j).cps.toList)):=λi j vi vj s Q E hi hj h=>by
 obtain⟨t,rfl⟩:=hval i vi hi
 obtain⟨u,rfl⟩:=hval j vj hj
 exact richCompare_gives (op:=.Lt) (typeIs_str s _ t) (typeIs_str s _ u) F.slot_str_lt F.entry_str_lt (F.args_str_lt_2 _ _) (gives_str_lt _ _ t u) (λx=>nomatch x) h
theorem zCz{P:Nat->Value->Prop}(val:Nat->Str)(hval:∀i v,P i v->∃t,v=.str (val i) t):CmpOf prog w A .Gt P (λi j=>decide ((val j).cps.toList<(val i).cps.toList)):=λi j vi vj s Q E hi hj h=>by
 obtain⟨t,rfl⟩:=hval i vi hi
 obtain⟨u,rfl⟩:=hval j vj hj
 exact richCompare_gives (op:=.Gt) (typeIs_str s _ t) (typeIs_str s _ u) F.slot_str_gt F.entry_str_gt (F.args_str_gt_2 _ _) (gives_str_gt _ _ t u) (λx=>nomatch x) h
theorem xK{Q:Value->Shared->Prop}(hl:s.heap.IsList l its)
  (h:∀s₂:Shared,s₂={s with heap:=s.heap.push {cls:=.type "list_iterator",data:=.fields #[.ref l,.int 0 0]}} ->
   (s₂.heap.IsListIter s.heap.objs.size l 0/\s₂.heap.IsList l its)->(∀b∈[s.heap.objs.size,l],b<s₂.heap.objs.size)->l≠s.heap.objs.size->Q (.ref s.heap.objs.size) s₂):
  wpAny (model prog w) A (pyIter (.ref l)) Q E s:=by
 have hlt:l<s.heap.objs.size:=by obtain⟨_,e,_⟩:=hl;exact Heap.lt_size e
 refine wpAny_pyIter_list hl (h _ rfl ⟨⟨_,Heap.get?_push_size _ rfl,rfl,rfl⟩,hl.push _⟩ (λb hb=>?_) (Nat.ne_of_lt hlt))
 show b<(s.heap.push _).objs.size
 rw[Heap.size_push]
 simp only[List.mem_cons,List.not_mem_nil,or_false]at hb
 rcases hb with z|z
 ·rw[z];exact Nat.lt_succ_self _
 ·rw[z];exact Nat.lt_succ_of_lt hlt
theorem zEg{Q:Value->Shared->Prop}(hh:A.handled=none)(hl:s.heap.IsList l its)(hi:StrsAre its.toList ss)(hne:0<ss.length)
  (h:∀x t h' tk,x∈ss->(∀y∈ss,x.cps.toList<=y.cps.toList)->(∀b o,s.heap.get? b=some o->h'.get? b=some o)->Q (.str x t) {s with heap:=h',toks:=tk}):
  wpAny (model prog w) A (call (.builtin "min") [.ref l]) Q E s:=by
 have hsz:its.size=ss.length:=by rw[<-Array.length_toList,jK hi]
 refine call_min_walk (xK hl λs₂ e st hfp hlI=>?_)
 subst e
 refine⟨_,_,_,_,_,_,_,rfl,Walks.list (A:=A.in1) hh _ l hlI its,st,hfp,by omega,zCy (λi=>ss.getD i ⟨#[]⟩) (λi v hv=>kJ hi i v (by rw[Array.getElem?_toList];exact hv)),λv h' tk hP hk=>?_⟩
 obtain⟨t,rfl⟩:=kJ hi _ v (by rw[Array.getElem?_toList];exact hP)
 obtain⟨b1,b2⟩:=zAQ (λi=>(ss.getD i ⟨#[]⟩).cps.toList) (its.size-1)
 refine h _ t h' tk (yL (by omega)) (λy hy=>?_) (old_kept hk)
 obtain⟨j,hj,rfl⟩:=yI hy
 exact b2 j (by omega)
theorem zEi{Q:Value->Shared->Prop}(hh:A.handled=none)(hl:s.heap.IsList l its)(hi:StrsAre its.toList ss)(hne:0<ss.length)
  (h:∀x t h' tk,x∈ss->(∀y∈ss,y.cps.toList<=x.cps.toList)->(∀b o,s.heap.get? b=some o->h'.get? b=some o)->Q (.str x t) {s with heap:=h',toks:=tk}):
  wpAny (model prog w) A (call (.builtin "max") [.ref l]) Q E s:=by
 have hsz:its.size=ss.length:=by rw[<-Array.length_toList,jK hi]
 refine call_max_walk (xK hl λs₂ e st hfp hlI=>?_)
 subst e
 refine⟨_,_,_,_,_,_,_,rfl,Walks.list (A:=A.in1) hh _ l hlI its,st,hfp,by omega,zCz (λi=>ss.getD i ⟨#[]⟩) (λi v hv=>kJ hi i v (by rw[Array.getElem?_toList];exact hv)),λv h' tk hP hk=>?_⟩
 obtain⟨t,rfl⟩:=kJ hi _ v (by rw[Array.getElem?_toList];exact hP)
 obtain⟨b1,b2⟩:=zAR (λi=>(ss.getD i ⟨#[]⟩).cps.toList) (its.size-1)
 refine h _ t h' tk (yL (by omega)) (λy hy=>?_) (old_kept hk)
 obtain⟨j,hj,rfl⟩:=yI hy
 exact b2 j (by omega)
end
section
variable{X:Cx}
theorem zCW(hc:X.calm=true):CallR X (.builtin "min") (λxs H Q=>∃(p:Addr) (ss:List Str),xs=[.ref p]/\SqL X.K H p (ss.map V.str)/\0<ss.length/\∀x,x∈ss->(∀y∈ss,x.cps.toList<=y.cps.toList)->Q (.str x) H):=by
 intro pins s σ H xs us Q I r h
 obtain⟨p,ss,rfl,hq,hn,q⟩:=h
 obtain⟨u,rfl,rx⟩:=cF r
 cases rx
 obtain⟨its,rv,pl,hz⟩:=I.list hq
 refine zEg (I.ok.hd hc) pl.isList (lH rv) hn λx t h' tk h1 h2 hk=>?_
 exact⟨.str _,H,I.kept hk,⟨t,rfl⟩,q _ h1 h2⟩
theorem zCX(hc:X.calm=true):CallR X (.builtin "max") (λxs H Q=>∃(p:Addr) (ss:List Str),xs=[.ref p]/\SqL X.K H p (ss.map V.str)/\0<ss.length/\∀x,x∈ss->(∀y∈ss,y.cps.toList<=x.cps.toList)->Q (.str x) H):=by
 intro pins s σ H xs us Q I r h
 obtain⟨p,ss,rfl,hq,hn,q⟩:=h
 obtain⟨u,rfl,rx⟩:=cF r
 cases rx
 obtain⟨its,rv,pl,hz⟩:=I.list hq
 refine zEi (I.ok.hd hc) pl.isList (lH rv) hn λx t h' tk h1 h2 hk=>?_
 exact⟨.str _,H,I.kept hk,⟨t,rfl⟩,q _ h1 h2⟩
end
end L2
namespace L2
open PySem PySem.Spec PyProof.Rows
open PySem PySem.Spec PyProof.Rows
section
variable{κ:Type}[DecidableEq κ]
def dM(kvs:List (κ×V))(k:κ):Option V:=(kvs.find? λkv=>decide (kv.1=k)).map (·.2)
def fY(kvs:List (κ×V))(k:κ)(v:V):List (κ×V):=
 if (kvs.any λkv=>decide (kv.1=k))=true then kvs.map (λkv=>if kv.1=k then(kv.1,v) else kv) else kvs++[(k,v)]
theorem oQ{p:κ×V}{r:List (κ×V)}{k:κ}(e:p.1=k):dM (p::r) k=some p.2:=by simp[dM,List.find?_cons,e]
theorem oR{p:κ×V}{r:List (κ×V)}{k:κ}(e:¬ p.1=k):dM (p::r) k=dM r k:=by simp[dM,List.find?_cons,e]
theorem sH(k:κ):∀kvs:List (κ×V),(kvs.any λkv=>decide (kv.1=k))=(dM kvs k).isSome
 |[]=>rfl
 |p::r=>by
  rw[List.any_cons]
  by_cases e:p.1=k
  ·simp only[oQ e,decide_eq_true e,Bool.true_or,Option.isSome_some]
  ·rw[oR e,decide_eq_false e,Bool.false_or];exact sH k r
theorem zCv(kvs:List (κ×V))(k:κ)(v:V):(fY kvs k v).length<=kvs.length+1:=by
 unfold fY
 split
 ·rw[List.length_map];omega
 ·rw[List.length_append,List.length_cons,List.length_nil];omega
theorem zD2{kvs:List (κ×V)}{k:κ}(v:V)(h:dM kvs k=none):fY kvs k v=kvs++[(k,v)]:=by
 unfold fY
 rw[sH,h]
 exact if_neg (by decide)
theorem RelO.isSome_eq{o:Option V}{u:Option Value}(r:RelO o u):o.isSome=u.isSome:=by
 cases o with
 |none=>cases u with
  |none=>rfl
  |some _=>exact(show False from r).elim
 |some _=>cases u with
  |none=>exact(show False from r).elim
  |some _=>rfl
theorem KV.val{kvs:List (κ×V)}{vs:List (κ×Value)}(r:KV kvs vs)(k:κ):RelO (dM kvs k) (valueAt vs k):=by
 unfold KV at r
 induction r with
 |nil=>exact True.intro
 |@cons p q ps qs h t ih=>
  obtain⟨h1,h2⟩:=h
  by_cases e:p.1=k
  ·have e':q.1=k:=h1.symm.trans e
   have b:valueAt (q::qs) k=some q.2:=by simp[valueAt,List.find?_cons,e']
   rw[oQ e,b];exact h2
  ·have e':¬ q.1=k:=λz=>e (h1.trans z)
   have b:valueAt (q::qs) k=valueAt qs k:=by simp[valueAt,List.find?_cons,e']
   rw[oR e,b];exact ih
theorem KV.any{kvs:List (κ×V)}{vs:List (κ×Value)}(r:KV kvs vs)(k:κ):(kvs.any λkv=>decide (kv.1=k))=vs.any λkv=>decide (kv.1=k):=by
 unfold KV at r
 induction r with
 |nil=>rfl
 |cons h t ih=>rw[List.any_cons,List.any_cons,ih,h.1]
theorem KV.repl{kvs:List (κ×V)}{vs:List (κ×Value)}(r:KV kvs vs)(k:κ){y:V}{u:Value}(ry:RelV y u):
  KV (kvs.map λkv=>if kv.1=k then(kv.1,y) else kv) (vs.map λkv=>if kv.1=k then(kv.1,u) else kv):=by
 unfold KV at r ⊢
 induction r with
 |nil=>exact .nil
 |@cons p q ps qs h t ih=>
  rw[List.map_cons,List.map_cons]
  refine .cons ?_ ih
  obtain⟨h1,h2⟩:=h
  by_cases e:p.1=k
  ·rw[if_pos e,if_pos (h1.symm.trans e)];exact⟨h1,ry⟩
  ·rw[if_neg e,if_neg (λz=>e (h1.trans z))];exact⟨h1,h2⟩
theorem KV.put{kvs:List (κ×V)}{vs:List (κ×Value)}(r:KV kvs vs)(k:κ){y:V}{u:Value}(ry:RelV y u):KV (fY kvs k y) (stored vs k u):=by
 unfold fY stored
 rw[r.any k]
 by_cases e:(vs.any λkv=>decide (kv.1=k))=true
 ·rw[if_pos e,if_pos e];exact r.repl k ry
 ·rw[if_neg e,if_neg e];exact Paired.snoc r ⟨rfl,ry⟩
theorem KV.length{kvs:List (κ×V)}{vs:List (κ×Value)}(r:KV kvs vs):kvs.length=vs.length:=Paired.length r
end
theorem mY{P:Program}{w:World}{k:Key}{u:Value}(r:RelV (kV k) u):(cB P w).is k u=true:=by
 cases k with
 |inl i=>obtain⟨t,e⟩:=(show ∃t,u=Value.int i t from r);subst e;exact zCt P w i t
 |inr x=>obtain⟨t,e⟩:=(show ∃t,u=Value.str x t from r);subst e;exact nU P w x t
theorem yK{P:Program}{w:World}:∀{ks:List Key}{us:List Value},Vals (ks.map kV) us->ItemsAre (cB P w) ks us
 |[],_,r=>by rw[List.map_nil]at r;cases r;exact .nil
 |k::ks,_,r=>by
  rw[List.map_cons]at r
  cases r with
  |cons h t=>exact .cons (mY h) (yK t)
abbrev KT(H:Hp):List (List Key×V)->List (List Key×Addr×Value)->Prop:=Paired λp q=>p.1=q.1/\H q.2.1=some (.tup (p.1.map kV))/\RelV p.2 q.2.2
theorem KT.val{H:Hp}{kvs:List (List Key×V)}{xs:List (List Key×Addr×Value)}(r:KT H kvs xs)(k:List Key):RelO (dM kvs k) ((atKey xs k).map (·.2)):=by
 induction r with
 |nil=>exact True.intro
 |@cons p q ps qs h t ih=>
  obtain⟨h1,_,h2⟩:=h
  by_cases e:p.1=k
  ·have e':q.1=k:=h1.symm.trans e
   have b:atKey (q::qs) k=some q.2:=by simp[atKey,List.find?_cons,e']
   rw[oQ e,b];exact h2
  ·have e':¬ q.1=k:=λz=>e (h1.trans z)
   have b:atKey (q::qs) k=atKey qs k:=by simp[atKey,List.find?_cons,e']
   rw[oR e,b];exact ih
section
variable{P:Program}{w:World}{H:Hp}{h:Heap}{a:Addr}
theorem zBp{u:HO}(ok:HOk P w H h)(e:Rd H a u):ObjOk P w H h a u:=e.ok ok
theorem mZ{kvs:List (Key×V)}(ok:HOk P w H h)(e:Rd H a (.dK kvs)):kvs.length<=sizeLine/\(a==sysModules)=false/\∃vs,KV kvs vs/\h.DictOf (cB P w) a vs:=
 show ObjOk P w H h a (.dK kvs) from zBp ok e
theorem pN{ks:List Key}(ok:HOk P w H h)(e:H a=some (.tup (ks.map kV))):(tupleKind (cB P w)).is h ks a:=by
 obtain⟨_,its,r,o,h1,h2,n,h3⟩:=(show ObjOk P w H h a (.tup (ks.map kV)) from ok a _ e)
 exact⟨o,its.toArray,n,h1,h2,h3,by simpa using yK r⟩
theorem pZ{kvs:List (List Key×V)}(ok:HOk P w H h)(e:Rd H a (.dT kvs)):kvs.length<=sizeLine/\(a==sysModules)=false /\
  ∃xs,KT H kvs xs/\h.DictOfH (tupleKind (cB P w)) a xs:=by
 obtain⟨z,y,xs,r,o,es,ep,h1,h2,h3,h4,h5⟩:=(show ObjOk P w H h a (.dT kvs) from zBp ok e)
 refine⟨z,y,xs,r,o,es,ep,h1,h2,h3,h4,λx hx=>?_,h5⟩
 have all:∀{l:List (List Key×V)} {m:List (List Key×Addr×Value)},KT H l m->∀x∈m,(tupleKind (cB P w)).is h x.1 x.2.1:=by
  intro l m q
  induction q with
  |nil=>intro x hx;exact nomatch hx
  |@cons p q ps qs hq t ih=>
   intro x hx
   rcases List.mem_cons.mp hx with e|hx
   ·subst e
    exact pN ok (by rw[<-hq.1];exact hq.2.1)
   ·exact ih x hx
 exact all r x hx
end
def kA(H:Hp)(a:Addr)(y:V)(r:Option V):Prop:=
 (∃kvs k,Rd H a (.dK kvs)/\y=kV k/\r=dM kvs k)\/∃kvs k b,Rd H a (.dT kvs)/\y=.ref b/\H b=some (.tup (k.map kV))/\r=dM kvs k
section
variable{X:Cx}{pins:List (Addr×Obj)}{σ:St}{H:Hp}{s:Shared}{a:Addr}{y v:V}{u r:Value}{o:Option V}{A:Around}{E:Value->Shared->Prop}
theorem zDE{Q:Value->Shared->Prop}(hu:A.units+1<cLine)(I:Inv X pins σ H s)(g:kA H a y (some v))(ry:RelV y u)(h:∀w' s',Inv X pins σ H s'->RelV v w'->Q w' s'):
  wpAny (model X.prog X.w) A (getItem (.ref a) u) Q E s:=by
 rcases g with⟨kvs,k,e,ey,l⟩|⟨kvs,k,b,e,ey,eb,l⟩
 ·subst ey
  obtain⟨z,hd,vs,rel,dd⟩:=mZ I.hok e
  obtain⟨w',hw,rw'⟩:=RelO.some_of (v:=v) (o:=valueAt vs k) (by rw[l];exact rel.val k)
  exact wpAny_getItem_of (mY ry) dd.mapOf hw (h w' _ (I.tok _) rw')
 ·subst ey
  cases (show u=Value.ref b from ry)
  obtain⟨z,hd,xs,rel,dd⟩:=pZ I.hok e
  obtain⟨w',hw,rw'⟩:=RelO.some_of (v:=v) (o:=(atKey xs k).map (·.2)) (by rw[l];exact rel.val k)
  obtain⟨p,hp,hp2⟩:=Option.map_eq_some_iff.mp hw
  refine wpAny_getItem_heap (tupleKind_room_in1 hu) (pN I.hok eb) dd hp ?_
  rw[hp2]
  exact h w' _ (I.tok _) rw'
theorem zIV{Q:Value->Shared->Prop}(hu:A.units+1<cLine)(I:Inv X pins σ H s)(g:kA H a y o)(ry:RelV y u)(h:∀s',Inv X pins σ H s'->Q (.bool o.isSome) s'):
  wpAny (model X.prog X.w) A (compareOp .In u (.ref a)) Q E s:=by
 rcases g with⟨kvs,k,e,ey,l⟩|⟨kvs,k,b,e,ey,eb,l⟩
 ·subst ey
  obtain⟨z,hd,vs,rel,dd⟩:=mZ I.hok e
  refine wpAny_in_of (mY ry) hd dd.mapOf ?_
  rw[<-(rel.val k).isSome_eq,<-l]
  exact h _ (I.tok _)
 ·subst ey
  cases (show u=Value.ref b from ry)
  obtain⟨z,hd,xs,rel,dd⟩:=pZ I.hok e
  refine wpAny_in_heap (tupleKind_room_in1 hu) (pN I.hok eb) hd dd ?_
  have q:=(rel.val k).isSome_eq
  rw[Option.isSome_map]at q
  rw[<-q,<-l]
  exact h _ (I.tok _)
theorem zFu{Q:Value->Shared->Prop}(hu:A.units+1<cLine)(I:Inv X pins σ H s)(g:kA H a y o)(ry:RelV y u)(h:∀s',Inv X pins σ H s'->Q (.bool (!o.isSome)) s'):
  wpAny (model X.prog X.w) A (compareOp .NotIn u (.ref a)) Q E s:=by
 rcases g with⟨kvs,k,e,ey,l⟩|⟨kvs,k,b,e,ey,eb,l⟩
 ·subst ey
  obtain⟨z,hd,vs,rel,dd⟩:=mZ I.hok e
  refine wpAny_notIn_of (mY ry) hd dd.mapOf ?_
  rw[<-(rel.val k).isSome_eq,<-l]
  exact h _ (I.tok _)
 ·subst ey
  cases (show u=Value.ref b from ry)
  obtain⟨z,hd,xs,rel,dd⟩:=pZ I.hok e
  refine wpAny_notIn_heap (tupleKind_room_in1 hu) (pN I.hok eb) hd dd ?_
  have q:=(rel.val k).isSome_eq
  rw[Option.isSome_map]at q
  rw[<-q,<-l]
  exact h _ (I.tok _)
end
section
variable{X:Cx}{pins:List (Addr×Obj)}{σ:St}{H:Hp}{s:Shared}{a:Addr}{kvs:List (Key×V)}{k:Key}{u:Value}{A:Around}{E:Value->Shared->Prop}
theorem zHx{Q:Value->Shared->Prop}(I:Inv X pins σ H s)(e:Rd H a (.dK kvs))(h:∀t s',Inv X pins σ H s'->Q (.int kvs.length t) s'):wpAny (model X.prog X.w) A (call (.builtin "len") [.ref a]) Q E s:=by
 obtain⟨z,hd,vs,rel,dd⟩:=mZ I.hok e
 refine call_len_dict hd dd (by rw[<-rel.length];rw[sizeLine_eq]at z;omega) ?_
 rw[<-rel.length]
 exact h _ _ (I.tok _)
end
theorem zCw{X:Cx}{pins:List (Addr×Obj)}{σ:St}{H:Hp}{s:Shared}{a:Addr}{y:V}{o:Option V}(I:Inv X pins σ H s)(g:kA H a y o):s.TypeIs (.ref a) "dict":=by
 rcases g with⟨kvs,k,e,_,_⟩|⟨kvs,k,b,e,_,_,_⟩
 ·obtain⟨_,_,vs,_,dd⟩:=mZ I.hok e
  exact dd.typeIs
 ·obtain⟨_,_,xs,_,dd⟩:=pZ I.hok e
  exact dd.typeIs
def jQ(kvs more:List (Key×V)):List (Key×V):=more.foldl (λacc kv=>fY acc kv.1 kv.2) kvs
theorem wK:∀(more kvs:List (Key×V)),(jQ kvs more).length<=kvs.length+more.length
 |[],kvs=>by show kvs.length<=kvs.length+0;omega
 |p::r,kvs=>by
  have h1:=wK r (fY kvs p.1 p.2)
  have h2:=zCv kvs p.1 p.2
  show(jQ (fY kvs p.1 p.2) r).length<=_
  rw[List.length_cons];omega
section
variable{κ:Type}[DecidableEq κ]
theorem zEG{kvs:List (κ×V)}{k:κ}{v:V}(h:dM kvs k=some v):k∈kvs.map (·.1):=by
 have q:(kvs.any λkv=>decide (kv.1=k))=true:=by
  rw[sH,h]
  all_goals rfl
 obtain⟨p,hp,e⟩:=List.any_eq_true.mp q
 exact List.mem_map.mpr ⟨p,hp,of_decide_eq_true e⟩
end
end L2
namespace L2
open PySem PySem.Spec PyProof.Rows
def FzD(H:Hp)(a:Addr)(ob:Obj)(kvs:List (Key×V)):Prop:=H a=some (.frz ob (.dK kvs))
theorem mP{kvs:List (Key×V)}{vs:List (Key×Value)}(r:KV kvs vs):kvs.length=vs.length:=Paired.length r
theorem zBf:∀{kvs:List (Key×V)}{vs:List (Key×Value)}{i:Nat}{k:Key}{v:V},KV kvs vs->kvs[i]?=some (k,v)->∃u,vs[i]?=some (k,u)/\RelV v u
 |_,_,0,_,_,.cons (b:=b) r _,h=>by
  cases h
  obtain⟨e,r⟩:=r
  exact⟨b.2,by show some b=_;rw[show b=(b.1,b.2) from rfl,<-e],r⟩
 |_,_,i+1,_,_,.cons _ rs,h=>zBf (i:=i) rs (by simpa using h)
theorem zFj{k:Key}{u:Value}(h:iQ k u=true):RelV (kV k) u:=by
 rcases fO h with⟨i,t,rfl,rfl⟩|⟨x,t,rfl,rfl⟩
 ·exact⟨t,rfl⟩
 ·exact⟨t,rfl⟩
section
variable{X:Cx}{pins:List (Addr×Obj)}{σ:St}{H:Hp}{s:Shared}{a:Addr}{ob:Obj}{kvs:List (Key×V)}
theorem pE(I:Inv X pins σ H s)(h:FzD H a ob kvs):s.heap.get? a=some ob/\(a==sysModules)=false/\kvs.length<=sizeLine/\∃vs es ep,KV kvs vs/\s.heap.DictAt (cB X.prog X.w) a vs ep/\ob.data=.dict es ep:=by
 obtain⟨e,hl,hs,vs,r,o,es,ep,e',x1,x2,x3⟩:=(show ObjOk X.prog X.w H s.heap a (.frz ob (.dK kvs)) from I.hok a _ h)
 rw[e]at e'
 cases e'
 exact⟨e,hs,hl,vs,es,ep,r,⟨ob,es,e,x1,x2,x3⟩,x2⟩
end
def ItD(a:Addr)(ob:Obj)(kvs:List (Key×V)):It:=
 ⟨λi H=>FzD H a ob kvs/\i<kvs.length,λi H x H'=>H'=H/\∃k v,kvs[i]?=some (k,v)/\x=kV k,λi H=>FzD H a ob kvs/\kvs.length<=i⟩
theorem zDd{P:Program}{w:World}{K:W.Frag}{tg:Expr}{a it:Addr}{ob:Obj}{kvs:List (Key×V)}{es:Array DictEntry}{ep:Nat}(hep:ob.data=.dict es ep):
  iB P w K tg (ItD a ob kvs) [it] it (λi h=>h.IsKeyIter it a i kvs.length ep) where
 mem:=by simp
 obj:=λi h st b hb=>by
  have e:b=it:=by simpa using hb
  subst e
  obtain⟨o,e,c,d⟩:=st
  exact⟨o,e,λv z=>by rw[d]at z;cases z⟩
 keep:=λi h h' st k=>st.at λo e=>k it (by simp) o e
 item:=by
  intro X hP hw hK hc i pins s σ H E I hf st hg
  subst hP hw hK
  obtain⟨hz,hi⟩:=hg
  obtain⟨e,hs,hl,vs,es',ep',r,dd,hd'⟩:=pE I hz
  rw[hep]at hd'
  cases hd'
  obtain⟨f0,f1,f2,f3,f4,f5⟩:=hf it (by simp)
  obtain⟨⟨k,v⟩,hx⟩:∃p,kvs[i]?=some p:=⟨kvs[i],by simp[hi]⟩
  obtain⟨u,hu,ru⟩:=zBf r hx
  have st':s.heap.IsKeyIter it a i vs.length ep:=by rw[<-mP r];exact st
  refine wpAny_pyNext_dict_item st' dd hu λkey h' hkey hit' sb=>?_
  have I1:Inv X pins σ H {s with heap:=h'}:=I.turned (t':=s.toks) (λb o hb e=>(sb.2 b hb).trans e) f0 f1 f3 f4 f5
  obtain⟨o,e,c,d⟩:=id hit'
  exact⟨key,rfl,lA (s:={s with heap:=h'}) e c d (by decide) ⟨kV k,H,I1,zFj hkey,⟨rfl,k,v,hx,rfl⟩,by rw[mP r];exact hit',λb hb=>(hf b hb).1⟩⟩
 done:=by
  intro X hP hw hK hc i pins s σ H E I hf st hg
  subst hP hw hK
  obtain⟨hz,hi⟩:=hg
  obtain⟨e,hs,hl,vs,es',ep',r,dd,hd'⟩:=pE I hz
  rw[hep]at hd'
  cases hd'
  obtain⟨f0,f1,f2,f3,f4,f5⟩:=hf it (by simp)
  have st':s.heap.IsKeyIter it a i vs.length ep:=by rw[<-mP r];exact st
  have hn:vs[i]?=none:=List.getElem?_eq_none (by rw[<-mP r];exact hi)
  exact wpAny_pyNext_dict_end (I.ok.hd hc) st' dd hn λh' eb=>⟨rfl,I.turned (t':=s.toks) (λb o hb e=>eb b o hb e) f0 f1 f3 f4 f5⟩
 self:=λ_ _ _ _ _ st h=>wpAny_pyIter_keyiter st h
end L2
namespace L2
open PySem PySem.Spec PyProof.Rows
theorem zCk{prog:Program}{w:World}:∀{kvs:List (Key×Value)}{us:List Str}{acc:Array Value},kvs.map (·.1)=us.map Sum.inr ->
  ItemsOf (λi v=>∃k x,kvs[i]?=some (k,x)/\(cB prog w).is k v=true) acc kvs.length->StrsAre acc.toList us:=by
 intro kvs us acc hk h
 obtain⟨hn,hp⟩:=h
 have key:∀(us:List Str) (l:List Value) (kvs:List (Key×Value)),kvs.map (·.1)=us.map Sum.inr->l.length=kvs.length->(∀(j:Nat) (v:Value),l[j]?=some v->∃k x,kvs[j]?=some (k,x)/\(cB prog w).is k v=true)->StrsAre l us:=by
  intro us
  induction us with
  |nil=>
   intro l kvs hk hl _
   have:kvs=[]:=by simpa using hk
   subst this
   have:l=[]:=List.eq_nil_of_length_eq_zero hl
   subst this
   exact .nil
  |cons y ys ih=>
   intro l kvs hk hl hp
   cases kvs with
   |nil=>simp at hk
   |cons p kvs=>
    cases l with
    |nil=>simp at hl
    |cons v l=>
     simp only[List.map_cons,List.cons.injEq]at hk
     obtain⟨k,x,e,q⟩:=hp 0 v rfl
     have e:p=(k,x):=by simpa using e
     subst e
     have hk1:k=Sum.inr y:=hk.1
     subst hk1
     rcases fO (show iQ (Sum.inr y) v=true from q) with⟨i,t,z,_⟩|⟨z,t,e1,rfl⟩
     ·cases z
     ·cases e1
      exact .cons _ _ (ih l kvs hk.2 (by simpa using hl) λj v hj=>hp (j+1) v hj)
 refine key us acc.toList kvs hk (by simpa using hn) λj v hj=>hp j v (by simpa using hj)
section
variable{prog:Program}{w:World}{A:Around}{E:Value->Shared->Prop}{s:Shared}{a:Addr}{us:List Str}
theorem zFK:isSubtype (.type "dict") (.type "dict")=pure true:=by rw[isSubtype_type];kernel_rfl
theorem zDR{Q:Bool->Shared->Prop}(ht:s.TypeIs (.ref a) "dict")(h:Q false s):wpAny (model prog w) A (Builtin.List.listLengthHint (.ref a)) Q E s:=by
 unfold Builtin.List.listLengthHint
 refine wpAny_bind (wpAny_specialOf ht PySem.F.slot_dict_len.lookup ?_)
 have e1:splitId "dict.__len__"=some ("dict","__len__"):=by decide +kernel
 dsimp only
 rw[e1]
 dsimp only
 refine wpAny_bind (wpAny_isInstance ht zFK ?_)
 simp only[Bool.not_true,Bool.false_eq_true,if_false]
 refine wpAny_ite ?_
 rw[if_pos (by decide +kernel)]
 refine wpAny_bind (wpAny_typeOf ht ?_)
 exact wpAny_pure h
theorem zB5{kvs:List (Key×Value)}{ep:Nat}{Q:List Value->Shared->Prop}(hh:A.handled=none)(hsm:(a==sysModules)=false)(S:s.heap.DictAt (cB prog w) a kvs ep)(hks:kvs.map (·.1)=us.map Sum.inr)(hl:us.length<=sizeLine)
  (hQ:∀h' d tk (acc:List Value) vs,StrsAre acc vs->vs.Perm us->s.heap.objs.size<h'.objs.size->(∀b o,s.heap.get? b=some o->h'.get? b=some o)->Q acc {s with heap:=h',drawn:=d,toks:=tk}):
  wpAny (model prog w) A (collect (.ref a)) Q E s:=by
 have alt:a<s.heap.objs.size:=S.lt_size
 have hkl:kvs.length=us.length:=by have:=congrArg List.length hks;simpa using this
 unfold collect
 refine wpAny_bind (wpAny_runValue (codeAny_builtin F.entry_proto_collect ?_))
 rw[Around.under_plainId F.plain_proto_collect _]
 show wpAny _ A.in1 (newList [] >>= λl=>again (.builtin "list.__iadd__" ⟨[l,.ref a],[]⟩)) _ _ s
 refine wpAny_bind (wpAny_newObj_type ?_ (by size_fits))
 refine wpAny_pure ⟨plainId_quiet F.plain_list_iadd _,codeAny_builtin F.entry_list_iadd ?_⟩
 rw[Around.under_plainId F.plain_list_iadd _]
 show wpAny _ A.in1 (Builtin.List.listExtendWith (.ref s.heap.objs.size) (.ref a) (.ref s.heap.objs.size)) _ _ _
 unfold Builtin.List.listExtendWith
 have S1:=S.push {cls:=.type "list",data:=.seq ([]:List Value).toArray}
 have ht:Shared.TypeIs {s with heap:=s.heap.push {cls:=.type "list",data:=.seq ([]:List Value).toArray}} (.ref a) "dict":=S1.dictOf.typeIs
 refine wpAny_bind (wpAny_typeOf ht ?_)
 have h1:Builtin.List.listSameRef (.ref s.heap.objs.size) (.ref a)=false:=by simp[Builtin.List.listSameRef];exact Nat.ne_of_gt alt
 have h2:(Value.type "dict"==Value.type "list")=false:=by decide
 have h3:(Value.type "dict"==Value.type "tuple")=false:=by decide
 simp only[h1,h2,h3,Bool.or_false,Bool.false_eq_true,if_false]
 refine wpAny_bind (wpAny_pyIter_dict hsm S1 ?_)
 generalize hh':((s.heap.push {cls:=.type "list",data:=.seq ([]:List Value).toArray}).push {cls:=.type "dict_keyiterator",data:=.fields #[.ref a,.int 0 0,.int kvs.length 0,.int ep 0]})=h'
 have sz1:(s.heap.push {cls:=.type "list",data:=.seq ([]:List Value).toArray}).objs.size=s.heap.objs.size+1:=Heap.size_push ..
 have kp:∀b o,(s.heap.push {cls:=.type "list",data:=.seq ([]:List Value).toArray}).get? b=some o->h'.get? b=some o:=λb o e=>by rw[<-hh'];exact Heap.get?_push_of_some _ e
 have ht':Shared.TypeIs {s with heap:=h'} (.ref a) "dict":=by
  obtain⟨o,e,c⟩:=ht
  exact⟨o,kp _ _ e,c⟩
 have st0:h'.IsKeyIter (s.heap.objs.size+1) a 0 kvs.length ep/\h'.DictAt (cB prog w) a kvs ep:=by
  refine⟨⟨{cls:=.type "dict_keyiterator",data:=.fields #[.ref a,.int 0 0,.int kvs.length 0,.int ep 0]},?_,rfl,rfl⟩,S1.keep kp⟩
  rw[<-hh',<-sz1]
  exact Heap.get?_push_size _ rfl
 rw[sz1]
 refine wpAny_bind (wpAny_holding (zDR ht' ?_))
 have hA:A.in1.handled=none:=by simp[hh]
 have W:=(Walks.dictKeys (prog:=prog) (w:=w) (A:=A.in1) (knd:=cB prog w) hA (s.heap.objs.size+1) a (λz=>absurd alt (by rw[z];exact Nat.not_lt.mpr (Nat.le_succ _))) kvs ep).toS
 refine wpAny_ite ?_
 rw[if_pos (by decide +kernel)]
 refine wpAny_bind (wpAny_rule ?_)
 have g0:h'.get? s.heap.objs.size=some {cls:=.type "list",data:=.seq ([]:List Value).toArray}:=kp _ _ (Heap.get?_push_size _ rfl)
 have nf:s.heap.objs.size∉[s.heap.objs.size+1,a]:=λm=>by
  simp only[List.mem_cons,List.not_mem_nil,or_false]at m
  rcases m with z|z
  ·omega
  ·rw[<-z]at alt;exact Nat.lt_irrefl _ alt
 refine wpAny_bind ?_
 show wpAny _ A.in1 (updateSeq s.heap.objs.size (·.push .none) >>= λ_=>updateSeq s.heap.objs.size (·.pop)) _ _ _
 refine wpAny_bind (wpAny_updateSeq g0 rfl ?_)
 have g1:=Heap.get?_update_self (Obj.mapSeq (·.push Value.none)) g0 rfl
 refine wpAny_updateSeq g1 rfl ?_
 have g2:=Heap.get?_update_self (Obj.mapSeq (·.pop)) g1 rfl
 have oth:∀b o,b≠s.heap.objs.size->h'.get? b=some o->((h'.update s.heap.objs.size (Obj.mapSeq (·.push Value.none))).update s.heap.objs.size (Obj.mapSeq (·.pop))).get? b=some o:=
  λb o hb e=>(Heap.get?_update_other _ _ (Ne.symm hb)).trans ((Heap.get?_update_other _ _ (Ne.symm hb)).trans e)
 refine wpAny_pure ⟨plainId_quiet F.plain_extend_loop _,codeAny_extend_loopS W (by rw[hkl];exact hl) _ nf _ kvs.length 0 _ _ _ rfl (Nat.zero_le _)
  (W.frame 0 {s with heap:=h'} _ s.toks st0 (Nat.le_refl _) λb hb o e=>oth b o (λz=>nf (z▸hb)) e) g2 (ItemsOf.nil _) λs' acc' c' hm g' hacc=>?_⟩
 show wpAny _ A (load s.heap.objs.size >>= _) _ _ s'
 refine wpAny_bind (wpAny_load g' ?_)
 have hs:=zCk hks hacc
 obtain⟨h'',g'',d'',tk'',os''⟩:=s'
 have e1:g''=s.gens:=hm.gens
 have e2:os''=s.os:=hm.os
 subst e1 e2
 refine wpAny_pure (hQ h'' d'' tk'' acc'.toList us hs (List.Perm.refl _) (Heap.lt_size g') λb o e=>hm.heap b o (λm=>?_) (oth b o (Nat.ne_of_lt (Heap.lt_size e)) (kp b o (Heap.get?_push_of_some _ e))))
 have lt:=Heap.lt_size e
 simp only[List.mem_cons,List.not_mem_nil,or_false]at m
 rcases m with m|m
 ·rw[m]at lt;exact Nat.lt_irrefl _ lt
 ·rw[m]at lt;exact absurd lt (Nat.not_lt.mpr (Nat.le_succ _))
theorem zB8{kvs:List (Key×Value)}{ep:Nat}{Q:Value->Shared->Prop}(hh:A.handled=none)(hsm:(a==sysModules)=false)(S:s.heap.DictAt (cB prog w) a kvs ep)(hks:kvs.map (·.1)=us.map Sum.inr)(h64:us.length<64)
  (h:∀h' d tk (l:Addr) (out:List Value) (ss:List Str) (e:Nat),StrsAre out ss->ss.Perm us->sortedS ss=true->h'.get? l=some (seqObj "list" out.toArray e)->s.heap.objs.size<=l->(∀b o,s.heap.get? b=some o->h'.get? b=some o) ->
   Q (.ref l) {s with heap:=h',drawn:=d,toks:=tk}):wpAny (model prog w) A (call (.builtin "sorted") [.ref a]) Q E s:=by
 refine Calls.call_function_entry kind_sorted plain_sorted entry_sorted (args_sorted1 _) ?_
 unfold Builtin.«sorted»
 refine wpAny_bind (m:=checkCount "sorted" 1 1 _) (wpAny_pure ?_)
 refine wpAny_bind (zB5 (by simp[hh]) hsm S hks (Nat.le_of_lt (Nat.lt_trans h64 (by decide))) λh1 d tk acc vs hs hp le kp=>?_)
 have hlen:acc.length<64:=by rw[jK hs,hp.length_eq];exact h64
 refine wpAny_bind (wpAny_newList ?_ (Nat.le_of_lt (Nat.lt_trans hlen (by decide))))
 have hoL:(h1.push (seqObj "list" acc.toArray 0)).get? h1.objs.size=some (seqObj "list" acc.toArray 0):=Heap.get?_push_size _ rfl
 refine wpAny_bind (wpAny_holding (wpAny_call_entry slot_list_sort ⟨_,hoL,rfl⟩ entry_list_sort (list_sort_treeK strKind_oneLt hoL hs.keysOf (λv₁ v₂ rest e=>keyKind_strs (by rw[<-e];exact hs)) hlen λst' a1 a2=>⟨_,rfl,?_⟩) (args_list_sort _)))
 obtain⟨ss',b1,b2,b3⟩:=sorted_out_str hs a1 a2
 obtain⟨e,he⟩:=sortedHeap_at (out:=(arrOf st').map (·.2)) hoL
 refine wpAny_pure ⟨_,rfl,h _ _ _ _ ((arrOf st').map (·.2)).toList ss' e b1 (b2.trans hp) b3 (by rw[Array.toArray_toList];exact he) (Nat.le_of_lt le) λb o q=>?_⟩
 have lt:=Heap.lt_size (kp b o q)
 rw[sortedHeap_old (Nat.ne_of_lt lt) (by rw[Heap.size_push];exact Nat.lt_succ_of_lt lt)]
 exact Heap.get?_push_of_some _ (kp b o q)
end
section
variable{X:Cx}
def zFV:List V->Hp->VK->Prop:=λxs H Q=>∃(a:Addr) (ob:Obj) (kvs:List (Key×V)) (us:List Str),xs=[.ref a]/\FzD H a ob kvs/\kvs.map (·.1)=us.map Sum.inr/\us.length<64 /\
  ∀(ss:List Str) (l:Addr),ss.Perm us->sortedS ss=true->H l=none->Q (.ref l) (upd H l (.lst (ss.map V.str)))
theorem zAH:∀{kvs:List (Key×V)}{vs:List (Key×Value)},KV kvs vs->kvs.map (·.1)=vs.map (·.1)
 |[],_,.nil=>rfl
 |_::_,_,.cons r rs=>by rw[List.map_cons,List.map_cons,r.1,zAH rs]
theorem zCp(hc:X.calm=true):CallR X (.builtin "sorted") zFV:=by
 intro pins s σ H xs us Q I r h
 obtain⟨a,ob,kvs,uu,rfl,hz,hk,h64,q⟩:=h
 obtain⟨u,rfl,rx⟩:=cF r
 cases rx
 obtain⟨e,hs,hl,vs,es,ep,rr,dd,hd⟩:=pE I hz
 refine zB8 (I.ok.hd hc) hs dd (by rw[<-zAH rr];exact hk) h64 λh' d tk l out ss e hs hp hso hl le k=>?_
 refine⟨.ref l,_,(I.laid (t':=tk) (o:=.lst (ss.map V.str)) k le ?_).draw d,rfl,q ss l hp hso (I.hok.fresh le)⟩
 refine⟨?_,out,e,rG hs,hl⟩
 rw[List.length_map,hp.length_eq]
 exact Nat.le_of_lt (Nat.lt_trans h64 (by decide))
end
end L2
namespace L2
open PySem PySem.Spec PyProof.Rows
theorem zAb:∀{xs:List V}{us:List Value},xs.length=us.length->(∀(i:Nat) (x:V) (u:Value),xs[i]?=some x->us[i]?=some u->RelV x u)->Vals xs us
 |[],[],_,_=>.nil
 |[],_::_,h,_=>by simp at h
 |_::_,[],h,_=>by simp at h
 |x::xs,u::us,h,f=>.cons (f 0 x u rfl rfl) (zAb (by simpa using h) λi x' u' a b=>f (i+1) x' u' (by simpa using a) (by simpa using b))
theorem zCD{xs:List V}{acc:Array Value}{P:Nat->Value->Prop}(h:ItemsOf P acc xs.length)(f:∀(i:Nat) (x:V) (u:Value),xs[i]?=some x->P i u->RelV x u):Vals xs acc.toList:=
 zAb (by rw[Array.length_toList];exact h.1.symm) λi x u a b=>f i x u a (h.2 i u (by rw[<-Array.getElem?_toList];exact b))
section
variable{X:Cx}
def zFW:List V->Hp->VK->Prop:=λxs H Q=>∃j:Int,xs=[.int j]/\∀p,H p=none->Q (.ref p) (upd H p (.rng 0 j))
theorem zCA:CallR X (.type "range") zFW:=by
 intro pins s σ H xs us Q I r h
 obtain⟨j,rfl,q⟩:=h
 obtain⟨u,rfl,rx⟩:=cF r
 obtain⟨t,rfl⟩:=rx
 exact call_range_1 ⟨.ref _,_,I.laid (t':=s.toks+1+1) (o:=.rng 0 j) (λb o e=>Heap.get?_push_of_some _ e) (Nat.le_refl _) ⟨_,_,_,Heap.get?_push_size _ rfl⟩,rfl,q _ I.fresh⟩
def zFY:List V->Hp->VK->Prop:=λxs H Q=>∃(p:Addr) (n:Nat),xs=[.ref p]/\H p=some (.rng 0 n)/\n<=sizeLine/\∀l,H l=none->Q (.ref l) (upd H l (.lst ((List.range n).map λ(i:Nat)=>V.int i)))
theorem zCY(hc:X.calm=true):CallR X (.type "list") zFY:=by
 intro pins s σ H xs us Q I r h
 obtain⟨p,n,rfl,hp,hn,q⟩:=h
 obtain⟨u,rfl,rx⟩:=cF r
 cases rx
 obtain⟨t,u,v,e⟩:=(show ObjOk X.prog X.w H s.heap p (.rng 0 n) from I.hok p _ hp)
 have hz:n<=2 ^ 24:=by rw[sizeLine_eq]at hn;exact hn
 refine call_list_range (I.ok.hd hc) e (small_one (by decide) (by decide) (by omega) (by omega)) (n:=n) (by rw[rangeSize_one];split<;>omega) hz λh' tk acc c k hl ha=>?_
 refine⟨.ref _,_,I.laid (t':=tk) (o:=.lst ((List.range n).map λ(i:Nat)=>V.int i)) k (Nat.le_refl _) ⟨by simpa using hn,acc.toList,c,zCD (P:=λi v=>∃t,v=.int (0+i*1) t) (by simpa using ha) ?_,by simpa using hl⟩,rfl,q _ I.fresh⟩
 intro i x u hx hu
 rw[List.getElem?_map]at hx
 obtain⟨k,hk,rfl⟩:=Option.map_eq_some_iff.mp hx
 have hk:i=k:=by
  have:=(List.getElem?_eq_some_iff.mp hk)
  obtain⟨h1,h2⟩:=this
  simpa using h2
 subst hk
 obtain⟨t,rfl⟩:=hu
 exact⟨t,by simp⟩
def zG8:List V->Hp->VK->Prop:=λxs H Q=>∃(a:Addr) (kvs:List (Key×V)),xs=[.ref a]/\Rd H a (.dK kvs)/\Q (.int kvs.length) H
theorem zCZ:CallR X (.builtin "len") zG8:=by
 intro pins s σ H xs us Q I r h
 obtain⟨a,kvs,rfl,e,q⟩:=h
 obtain⟨u,rfl,rx⟩:=cF r
 cases rx
 exact zHx I e λt s' I'=>⟨.int kvs.length,H,I',⟨t,rfl⟩,q⟩
def zHW:R2:=λx y H Q=>∃a v,x=.ref a/\kA H a y (some v)/\Q v H
theorem zFk(hu:X.A.units+1<cLine):IxR X zHW:=by
 intro value slice pins s σ H x y v u Q I rx ry h hs
 obtain⟨a,z,rfl,g,q⟩:=h
 cases rx
 have hT:=zCw I g
 unfold subscriptTail
 refine wpAny_bind ?_
 rw[getitemInPython_of_ne hT.not_modules]
 refine wpAny_bind (wpAny_specialOf hT PySem.F.slot_dict_getitem.lookup ?_)
 have fin:wpAny (model X.prog X.w) X.A (subscripted slice false (.ref a) u) (λr s₃=>wpAny (model X.prog X.w) X.A (letTemporaryGo value (.ref a) r >>= λ_=>pure r) (EP X pins σ Q) X.xe s₃) X.xe s:=by
  rw[hs]
  exact wpAny_operating (zDE hu I g ry λw' s3 I3 rw'=>wpAny_bind (wpAny_letTemporaryGo (wpAny_pure ⟨z,H,I3,rw',q⟩)))
 first
  |exact wpAny_pure (wpAny_bind fin)
  |exact wpAny_bind (wpAny_pure (wpAny_bind fin))
  |exact wpAny_bind fin
def zHX:R2:=λy x H Q=>∃a o,x=.ref a/\kA H a y o/\Q (.bl o.isSome) H
theorem zCO(hu:X.A.units+1<cLine):OpR X (compareOp .In) zHX:=by
 intro pins s σ H y x u v Q I ry rx h
 obtain⟨a,o,rfl,g,q⟩:=h
 cases rx
 exact zIV hu I g ry λs' I'=>⟨.bl _,H,I',rfl,q⟩
end
end L2
namespace L2
open PySem PySem.Spec PyProof.Rows
def fzb:HO->Bool
 |.lst _=>true
 |.dK _=>true
 |_=>false
def FrozenA(H H1 H2:Hp):Prop:=∀b,(H b=none/\∃o ob,fzb o=true/\H1 b=some o/\H2 b=some (.frz ob o))\/(¬ (H b=none/\∃o,fzb o=true/\H1 b=some o)/\H2 b=H1 b)
section
variable{H H1 H2:Hp}{b:Addr}{o:HO}
theorem FrozenA.keep(f:FrozenA H H1 H2)(h:H1 b=some o)(n:fzb o=false):H2 b=some o:=by
 rcases f b with⟨_,o',ob,z,e,_⟩|⟨_,z⟩
 ·rw[h]at e;cases e;rw[n]at z;exact absurd z Bool.false_ne_true
 ·rw[z];exact h
theorem FrozenA.fz(f:FrozenA H H1 H2)(hn:H b=none)(h:H1 b=some o)(n:fzb o=true):∃ob,H2 b=some (.frz ob o):=by
 rcases f b with⟨_,o',ob,z,e,e2⟩|⟨z,_⟩
 ·rw[h]at e;cases e;exact⟨ob,e2⟩
 ·exact absurd ⟨hn,o,n,h⟩ z
theorem FrozenA.none_of(f:FrozenA H H1 H2)(h:H1 b=none):H2 b=none:=by
 rcases f b with⟨_,o',ob,z,e,e2⟩|⟨_,z⟩
 ·rw[h]at e;cases e
 ·rw[z];exact h
end
theorem Good.imp{P:Program}{w:World}{K:W.Frag}{mg:Str->Option Value}{base:Heap}{k:Nat}{x:Str}{ps:List Str}{sp sp':Sp}(G:Good P w K mg base k x ps sp)(h:∀vs H Q E,sp' vs H Q E->sp vs H Q E):Good P w K mg base k x ps sp':=by
 obtain⟨f,fd,F,b,m,kp⟩:=G
 exact⟨f,fd,F.imp h,b,m,kp⟩
def zBx:HO->Bool
 |.frz _ _=>true
 |.tup _=>true
 |_=>false
def HS(H H':Hp):Prop:=∀b o,zBx o=true->H b=some o->H' b=some o
section
variable{H H1 H2:Hp}{a p c:Addr}{o:HO}
theorem HS.refl(H:Hp):HS H H:=λ_ _ _ e=>e
theorem HS.trans(x:HS H H1)(y:HS H1 H2):HS H H2:=λb o h e=>y b o h (x b o h e)
theorem Same.hs(s:Same H H1):HS H H1:=λb o _ e=>s b o e
theorem FrozenA.hs(f:FrozenA H H1 H2):HS H1 H2:=λb o h e=>f.keep e (by cases o<;>first|rfl|exact absurd h Bool.false_ne_true)
theorem jS(h:H a=none):HS H (upd H a o):=λb u _ e=>by rw[bL (cU e h)];exact e
theorem fU{u:HO}(h:H a=some u)(n:zBx u=false):HS H (upd H a o):=λb v hv e=>by
 by_cases z:b=a
 ·subst z;rw[h]at e;cases e;rw[n]at hv;exact absurd hv Bool.false_ne_true
 ·rw[bL z];exact e
end
end L2
namespace L2
open PySem PySem.Spec PyProof.Rows
theorem zCm:typeLookup (.type "list") "keys"=pure none:=by rw[typeLookup_type,builtinLookup_eq_fast];kernel_rfl
section
variable{prog:Program}{w:World}{A:Around}{E:Value->Shared->Prop}{s:Shared}
theorem zC2{a:Addr}{xs:Array Value}{n:Nat}{Q:Option Value->Shared->Prop}(hA:A.handled=none)(hx:s.heap.get? a=some {cls:=.type "list",data:=.seq xs n})
  (h:∀h' tk,(∀b o,s.heap.get? b=some o->h'.get? b=some o)->Q none {s with heap:=h',toks:=tk}):wpAny (model prog w) A (getAttr? (.ref a) "keys") Q E s:=by
 obtain⟨hp,g,d,tk,os⟩:=s
 have ty:∀t',(⟨hp,g,d,t',os⟩:Shared).TypeIs (.ref a) "list":=λ_=>⟨_,hx,rfl⟩
 have e1:=sub_AttributeError
 have e2:=F.slot_list_getattribute.lookup
 have e3:=F.slot_list_getattribute.bind (.ref a)
 have e4:=am_list_getattr_none
 unfold getAttr? getAttrBy? getAttrBy
 repeat (any_goals (first|assumption|exact ty _|((with_reducible show wpAny _ _ (call (Value.builtin "list.__getattribute__") _ _) _ _ _);refine call_meets F.slot_list_getattribute (ty _) am_entry_list_getattribute (F.args_list_getattribute_2 _ _) (meets_getattribute_miss_list a xs n #[] "keys" _ zCm (by decide +kernel)) ⟨hx,hA,λh' tk' e ne=>?_⟩)|wp_step))
 obtain⟨t',u',he⟩:=ne.there
 show wpAny _ _ (getattributeRaised _ _ _ _ _ _ _) _ _ _
 unfold getattributeRaised
 repeat (any_goals (first|assumption|wp_step))
 all_goals exact h _ _ ne.keeps
theorem zBk:entryFor table "dict.update.loop"=some Builtin.«dict.update.loop»:=entryFor_of_tree (by kernel_rfl)
theorem pM:plainId "dict.update.loop"=true:=by decide +kernel
theorem sD{h h':Heap}{a:Addr}{kvs:List (Key×Value)}(hd:h.DictOf (cB prog w) a kvs)(k:∀o,h.get? a=some o->h'.get? a=some o):h'.DictOf (cB prog w) a kvs:=by
 obtain⟨o,es,ep,e,r⟩:=hd
 exact⟨o,es,ep,k o e,r⟩
def TupsAt(prog:Program)(w:World)(h:Heap)(its:Array Value)(ps:List (Key×Value)):Prop:=
 its.size=ps.length/\∀(j:Nat) (k:Key) (v:Value),ps[j]?=some (k,v)->∃t key,its[j]?=some (.ref t)/\IsTup h t #[key,v]/\(cB prog w).is k key=true
theorem TupsAt.keep{h h':Heap}{its:Array Value}{ps:List (Key×Value)}(x:TupsAt prog w h its ps)(k:∀t o,h.get? t=some o->o.cls=.type "tuple"->h'.get? t=some o):TupsAt prog w h' its ps:=
 ⟨x.1,λj kk v e=>by
  obtain⟨t,key,a,⟨o,b,c,d⟩,f⟩:=x.2 j kk v e
  exact⟨t,key,a,⟨o,k t o b c,c,d⟩,f⟩⟩
theorem zCN{R:Result->Shared->Prop}{it l dd:Addr}{its:Array Value}{ps:List (Key×Value)}(hh:A.handled=none)(hli:l≠it)(hdi:dd≠it)(hdl:dd≠l)(hsz:ps.length<=1000):
  ∀(m i:Nat) (s:Shared) (kvs:List (Key×Value)) (tk:Tok),ps.length=i+m->s.heap.IsListIter it l i/\s.heap.IsList l its->TupsAt prog w s.heap its ps->s.heap.DictOf (cB prog w) dd kvs->kvs.length<=i ->
   (∀h' tk',h'.DictOf (cB prog w) dd ((ps.drop i).foldl (λacc kv=>stored acc kv.1 kv.2) kvs)->(∀b o,b≠it->b≠dd->s.heap.get? b=some o->h'.get? b=some o)->R (.ok (.ret .none)) {s with heap:=h',toks:=tk'}) ->
   codeAny (model prog w) A (.builtin "dict.update.loop" ⟨[.ref dd,.ref it,.int i tk,.none],[]⟩) R s:=by
 have W:=Walks.list (prog:=prog) (w:=w) (A:=A.in1) (by simp[hh]) it l hli its
 intro m
 induction m with
 |zero=>
  intro i s kvs tk hm st ht hd hl hR
  refine codeAny_builtin zBk ?_
  rw[Around.under_plainId pM _]
  unfold Builtin.«dict.update.loop»
  refine wpAny_bind (W.done s _ _ (by rw[ht.1,hm];exact st) λh' tk' k=>?_)
  refine wpAny_bind (wpAny_pure (wpAny_pure ?_))
  have e:ps.drop i=[]:=List.drop_of_length_le (by omega)
  rw[e]at hR
  refine hR h' tk' (sD hd λo e=>k dd o (by simp[hdi]) e) λb o n1 _ e=>k b o (by simp[n1]) e
 |succ m ih=>
  intro i s kvs tk hm st ht hd hl hR
  have hi:i<ps.length:=by omega
  have hp:ps[i]?=some (ps[i].1,ps[i].2):=List.getElem?_eq_getElem hi
  obtain⟨t,key,e1,htt,hkey⟩:=ht.2 i _ _ hp
  refine codeAny_builtin zBk ?_
  rw[Around.under_plainId pM _]
  unfold Builtin.«dict.update.loop»
  refine wpAny_bind (W.item i s _ _ (by rw[ht.1];exact hi) st λv h' tk' hv st' k=>?_)
  have hv:v=.ref t:=by rw[e1]at hv;exact(Option.some.inj hv).symm
  subst hv
  have nti:∀b o,s.heap.get? b=some o->o.cls=.type "tuple"->b≠it:=λb o e c z=>by
   obtain⟨o',e',c',_⟩:=st.1
   rw[<-z,e]at e'
   cases e'
   rw[c]at c'
   exact absurd c' (by decide)
  have ntd:∀b o,s.heap.get? b=some o->o.cls=.type "tuple"->b≠dd:=λb o e c z=>by
   obtain⟨o',e',c'⟩:=hd.typeIs
   rw[<-z,e]at e'
   cases e'
   rw[c]at c'
   exact absurd c' (by decide)
  obtain⟨ot,et,ct,nt,dt⟩:=htt
  have et':=k t ot (by simp[nti t ot et ct]) et
  have hd':h'.DictOf (cB prog w) dd kvs:=sD hd λo e=>k dd o (by simp[hdi]) e
  have ty:Shared.TypeIs {s with heap:=h',toks:=tk'} (.ref t) "tuple":=⟨ot,et',ct⟩
  refine wpAny_bind (wpAny_holding ?_)
  refine wpAny_bind (wpAny_tryCatch ?_)
  unfold Builtin.Dict.pairItems
  refine wpAny_bind (wpAny_typeOf ty ?_)
  rw[if_pos (by decide)]
  refine wpAny_bind (wpAny_seqItems et' dt (wpAny_pure ?_))
  refine wpAny_holding (wpAny_dictSet_pairs hkey hd' (λh2 hd2 sb=>?_) (by rw[sizeLine_eq];omega))
  refine wpAny_pure ⟨plainId_quiet pM _,?_⟩
  have l2:=sb.2 l hdl.symm
  refine ih (i+1) _ (stored kvs ps[i].1 ps[i].2) _ (by omega) ?_ ?_ hd2 ?_ λh3 tk3 hd3 k3=>?_
  ·refine W.frame (i+1) h' h2 st' λb hb o e=>?_
   rcases List.mem_cons.mp hb with z|z
   ·rw[z]at e ⊢;exact(sb.2 it hdi.symm).trans e
   ·rw[List.mem_singleton.mp z]at e ⊢;exact l2.trans e
  ·exact ht.keep λb o e c=>(sb.2 b (ntd b o e c)).trans (k b o (by simp[nti b o e c]) e)
  ·unfold stored
   split
   ·rw[List.length_map];omega
   ·rw[List.length_append];show kvs.length+1<=_;omega
  ·refine hR h3 tk3 ?_ λb o n1 n2 e=>k3 b o n1 n2 ((sb.2 b n2).trans (k b o (by simp[n1]) e))
   rw[show ps.drop i=ps[i]::ps.drop (i+1) from List.drop_eq_getElem_cons hi]
   exact hd3
theorem zCj{l:Addr}{its:Array Value}{nl:Nat}{ps:List (Key×Value)}{Q:Value->Shared->Prop}(hh:A.handled=none)(hl:s.heap.get? l=some {cls:=.type "list",data:=.seq its nl})(ht:TupsAt prog w s.heap its ps)(hsz:ps.length<=1000)
  (h:∀h' tk,h'.DictOf (cB prog w) s.heap.objs.size (ps.foldl (λacc kv=>stored acc kv.1 kv.2) [])->(∀b o,s.heap.get? b=some o->h'.get? b=some o)->Q (.ref s.heap.objs.size) {s with heap:=h',toks:=tk}):
  wpAny (model prog w) A (call (.type "dict") [.ref l]) Q E s:=by
 refine callType_codes (Q₁:=λobj s₁=>obj=.ref s.heap.objs.size/\s₁={s with heap:=s.heap.push {cls:=.type "dict",data:=.dict #[]}}) F.kt_called_dict (F.kt_typeCall_dict_1 _) F.entry_dict_init (kt_code_dict_new _ ⟨rfl,rfl⟩) ?_
 rintro obj s₁ ⟨rfl,rfl⟩
 have new:(s.heap.push {cls:=.type "dict",data:=.dict #[]}).DictOf (cB prog w) s.heap.objs.size []:=Heap.DictOf.new s.heap
 have hl1:(s.heap.push {cls:=.type "dict",data:=.dict #[]}).get? l=some {cls:=.type "list",data:=.seq its nl}:=Heap.get?_push_of_some _ hl
 have llt:=Heap.lt_size hl
 refine⟨new.typeIs,F.args_dict_init_2 _ _,?_⟩
 unfold Builtin.«dict.__init__»
 refine wpAny_bind ?_
 unfold Builtin.Dict.selfAndRest
 refine wpAny_bind (wpAny_notOrdered_dict new.typeIs ?_)
 show wpAny _ _ (pure (s.heap.objs.size,[Value.ref l])) _ _ _
 refine wpAny_pure ?_
 show wpAny _ _ (Builtin.Dict.updateFrom "dict.__init__" s.heap.objs.size (.ref l) [] .none) _ _ _
 unfold Builtin.Dict.updateFrom
 refine wpAny_bind (wpAny_typeOf (T:="list") ⟨_,hl1,rfl⟩ ?_)
 rw[if_pos (by decide)]
 refine wpAny_bind (zC2 (by simp[hh]) hl1 λh2 tk2 k2=>?_)
 rw[if_pos (by decide)]
 refine wpAny_bind (wpAny_rule ?_)
 have hl2:=k2 _ _ hl1
 have isl:Heap.IsList h2 l its:=⟨_,hl2,rfl,nl,rfl⟩
 refine wpAny_bind (wpAny_pyIter_list isl ?_)
 have sz2:s.heap.objs.size<h2.objs.size:=by
  have:(s.heap.push {cls:=.type "dict",data:=.dict #[]}).get? s.heap.objs.size=some _:=Heap.get?_push_size _ rfl
  exact Heap.lt_size (k2 _ _ this)
 refine wpAny_pure ⟨plainId_quiet pM _,zCN (A:=A.in1) (its:=its) (ps:=ps) (by simp[hh]) (Nat.ne_of_lt (Heap.lt_size hl2)) (Nat.ne_of_lt sz2) (Nat.ne_of_gt llt) hsz ps.length 0 _ [] _ (by simp) ⟨⟨_,Heap.get?_push_size _ rfl,rfl,rfl⟩,isl.push _⟩ ?_ ?_ (Nat.zero_le _) λh3 tk3 hd3 k3=>?_⟩
 ·exact ht.keep λb o e _=>Heap.get?_push_of_some _ (k2 _ _ (Heap.get?_push_of_some _ e))
 ·exact(sD new λo e=>k2 _ _ e).push _
 ·refine⟨rfl,h h3 tk3 hd3 λb o e=>?_⟩
  have lt:=Heap.lt_size e
  exact k3 b o (Nat.ne_of_lt (Nat.lt_trans lt sz2)) (Nat.ne_of_lt lt) (Heap.get?_push_of_some _ (k2 _ _ (Heap.get?_push_of_some _ e)))
end
section
variable{X:Cx}
theorem zFr:∀{ps:List (Key×V)}{qs:List (Key×Value)}{kvs:List (Key×V)}{vs:List (Key×Value)},KV ps qs->KV kvs vs->KV (jQ kvs ps) (qs.foldl (λacc kv=>stored acc kv.1 kv.2) vs):=by
 intro ps qs kvs vs r
 unfold KV at r
 induction r generalizing kvs vs with
 |nil=>intro q;exact q
 |@cons p q ps qs h t ih=>
  intro r0
  refine ih (kvs:=fY kvs p.1 p.2) (vs:=stored vs q.1 q.2) ?_
  rw[<-h.1]
  exact r0.put p.1 h.2
end
end L2
namespace WordM
open PySem
def sigA:Str:=" !\"#$&'()*+,-./0123456789:;<=>?@ABCDEFGHIJKLMNOPQRSTUVWXYZ[\\]^_`"
def sigB:Str:="abcdefghijklmnopqrstuvwxyz{|}~"
def SIG:Str:=sigA++sigB
abbrev cs(x:Str):List Nat:=x.cps.toList
def lC:Str:="0123456789"
def mH:Str:="ABCDEFGHIJKLMNOPQRSTUVWXYZ"
def zFS:Str:=" !\"#$&'()*+,-./:;<=>?\x40[\\]^_`{|}~"
def pJ:Str:="abcdefghijklmnopqrstuvwxyz"
def SGN:List (Str×Str):=[("figure",lC),("great",mH),("other",zFS),("small",pJ)]
def MK:List Str:=["figure","great","other","small"]
def Sg(x:Str):Prop:=∀c∈cs x,c∈cs SIG
instance (x:Str):Decidable (Sg x):=by unfold Sg;infer_instance
def cS(c:Nat):Str:=if c∈cs lC then "figure" else if c∈cs mH then "great" else if c∈cs pJ then "small" else "other"
def hZ(x m:Str):Bool:=(cs x).any λc=>decide (c∈cs ((L2.getS SGN m).getD ⟨#[]⟩))
def jR(x:Str):List Str:=MK.filter λm=>hZ x m
theorem app(a b:Str):cs (a++b)=cs a++cs b:=by
 show(a.cps++b.cps).toList=_
 simp
theorem len(a:Str):a.length=(cs a).length:=by simp[Str.length]
theorem Sg.app{a b:Str}(ha:Sg a)(hb:Sg b):Sg (a++b):=λc hc=>by
 rw[WordM.app]at hc
 rcases List.mem_append.mp hc with z|z
 ·exact ha c z
 ·exact hb c z
theorem Sg.one{x:Str}(h:Sg x){c:Nat}(hc:c∈cs x):Sg ⟨#[c]⟩:=λd hd=>by
 have:d=c:=by simpa using hd
 rw[this]
 exact h c hc
theorem zFP:Sg ⟨#[]⟩:=λc hc=>by simp at hc
theorem zDf{x:Str}{l u:Option Int}{c:Nat}(h:c∈cs (Txt.slice x l u)):c∈cs x:=by
 unfold Txt.slice at h
 split at h
 ·exact h
 ·simp only[cs,List.toList_toArray,List.mem_filterMap]at h
  obtain⟨i,_,hi⟩:=h
  obtain⟨hlt,e⟩:=Array.getElem?_eq_some_iff.mp hi
  rw[<-e]
  simp
theorem Sg.slice{x:Str}(h:Sg x)(l u:Option Int):Sg (Txt.slice x l u):=λc hc=>h c (zDf hc)
theorem slice_len(x:Str)(l u:Option Int):(Txt.slice x l u).length<=x.length:=Txt.slice_le x l u
theorem kK{a b:Str}(h:cs a=cs b):a=b:=by
 obtain⟨a⟩:=a
 obtain⟨b⟩:=b
 have:a=b:=Array.toList_inj.mp h
 rw[this]
theorem zCI{c:Nat}{r:Str}:Txt.slice ((⟨#[c]⟩:Str)++r) (some 1) none=r:=by
 refine kK ?_
 have hl:(((⟨#[c]⟩:Str)++r).length)=1+r.length:=by rw[len,app,len];simp
 rw[PyProof.Rows.slice_from_eq (b:=((((⟨#[c]⟩:Str)++r).length:Nat):Int)) (by decide) (by omega) rfl]
 show((cs ((⟨#[c]⟩:Str)++r)).drop 1).take _=_
 rw[app]
 show((c::cs r).drop 1).take _=cs r
 rw[List.drop_one,List.tail_cons,List.take_of_length_le]
 rw[hl,len]
 omega
theorem zCs{x:Str}(h:x.length=0):Txt.slice x (some 1) none=x:=by
 have h1:=slice_len x (some 1) none
 refine kK ?_
 have e1:cs (Txt.slice x (some 1) none)=[]:=List.eq_nil_of_length_eq_zero (by rw[<-len];omega)
 have e2:cs x=[]:=List.eq_nil_of_length_eq_zero (by rw[<-len];omega)
 rw[e1,e2]
theorem zAB{c:Nat}(h:c∈cs SIG):∀m∈MK,(c∈cs ((L2.getS SGN m).getD ⟨#[]⟩)↔cS c=m):=by
 revert c
 decide +kernel
theorem zAC(c:Nat):cS c∈MK:=by
 unfold cS
 split
 ·decide
 ·split
  ·decide
  ·split
   ·decide
   ·decide
theorem zDu{x:Str}(h:Sg x)(ms:List Str):((jR x).all λm=>decide (m∈ms))=((cs x).all λc=>decide (cS c∈ms)):=by
 rw[Bool.eq_iff_iff,List.all_eq_true,List.all_eq_true]
 constructor
 ·intro k c hc
  refine k (cS c) ?_
  rw[jR,List.mem_filter]
  refine⟨zAC c,?_⟩
  rw[hZ,List.any_eq_true]
  exact⟨c,hc,decide_eq_true ((zAB (h c hc) _ (zAC c)).mpr rfl)⟩
 ·intro k m hm
  rw[jR,List.mem_filter,hZ,List.any_eq_true]at hm
  obtain⟨hm,c,hc,hd⟩:=hm
  rw[<-(zAB (h c hc) m hm).mp (of_decide_eq_true hd)]
  exact k c hc
theorem kM:SIG.length=94:=by decide +kernel
theorem zDg:(cs SIG).Nodup:=by decide +kernel
theorem zCJ(x:Str):(Txt.slice x (some 1) none).length+1<=(if x.length<1 then 1 else x.length):=by
 by_cases h:x.length=0
 ·rw[zCs h,if_pos (by omega)]
  omega
 ·rw[if_neg (by omega)]
  rw[PyProof.Rows.slice_from_eq (b:=(x.length:Int)) (by decide) (by omega) rfl]
  show(((cs x).drop 1).take _).toArray.size+1<=_
  rw[List.size_toArray,List.length_take,List.length_drop,<-len]
  omega
theorem nodup_len{α:Type}[DecidableEq α]:∀{l m:List α},l.Nodup->(∀x∈l,x∈m)->l.length<=m.length
 |[],m,_,_=>Nat.zero_le _
 |x::l,m,hn,hs=>by
  have hx:=hs x List.mem_cons_self
  have h2:=List.nodup_cons.mp hn
  have ih:=nodup_len (l:=l) (m:=m.erase x) h2.2 λy hy=>by
   have hne:y≠x:=λe=>h2.1 (e▸hy)
   exact(List.mem_erase_of_ne hne).mpr (hs y (List.mem_cons_of_mem _ hy))
  rw[List.length_erase_of_mem hx]at ih
  have:0<m.length:=List.length_pos_of_mem hx
  rw[List.length_cons]
  omega
def eX(a:Int):Nat:=(cs SIG).getD (a % 94).toNat 0
theorem zDh(a:Int):eX a∈cs SIG:=by
 have hl:(a % 94).toNat<(cs SIG).length:=by
  rw[<-len,kM]
  have:=Int.emod_lt_of_pos a (show(0:Int)<94 by decide)
  have:=Int.emod_nonneg a (show(94:Int)≠0 by decide)
  omega
 unfold eX
 rw[List.getD_eq_getElem?_getD,List.getElem?_eq_getElem hl]
 exact List.getElem_mem hl
theorem zDi{a b:Int}(h:eX a=eX b):a % 94=b % 94:=by
 have b1:=Int.emod_lt_of_pos a (show(0:Int)<94 by decide)
 have b2:=Int.emod_nonneg a (show(94:Int)≠0 by decide)
 have b3:=Int.emod_lt_of_pos b (show(0:Int)<94 by decide)
 have b4:=Int.emod_nonneg b (show(94:Int)≠0 by decide)
 have hl:(cs SIG).length=94:=by rw[<-len];exact kM
 unfold eX at h
 rw[List.getD_eq_getElem?_getD,List.getD_eq_getElem?_getD,List.getElem?_eq_getElem (by omega),List.getElem?_eq_getElem (by omega)]at h
 have h:(cs SIG)[(a % 94).toNat]=(cs SIG)[(b % 94).toNat]:=h
 have hp:=List.pairwise_iff_getElem.mp zDg
 rcases Nat.lt_trichotomy (a % 94).toNat (b % 94).toNat with z|z|z
 ·exact absurd h (hp _ _ (by omega) (by omega) z)
 ·omega
 ·exact absurd h.symm (hp _ _ (by omega) (by omega) z)
def fB(a:Int)(r:Str)(i:Nat):Str:=(⟨#[eX (a+i)]⟩:Str)++r
theorem zDU{a:Int}{r:Str}{i j:Nat}(hi:i<90)(hj:j<90)(h:fB a r i=fB a r j):i=j:=by
 have h1:cs (fB a r i)=cs (fB a r j):=by rw[h]
 unfold fB at h1
 rw[app,app]at h1
 have h2:eX (a+i)=eX (a+j):=by
  have:=List.cons.inj h1
  exact this.1
 have:=zDi h2
 omega
theorem zDV{a:Int}{r:Str}{ss:List Str}{j:Nat}(hj:j<80)(h:∀i,1<=i->i<=j->fB a r i∈ss):j<=ss.length:=by
 have:=nodup_len (l:=(List.range j).map λi=>fB a r (i+1)) (m:=ss) (by
  unfold List.Nodup
  rw[List.pairwise_map]
  refine List.Pairwise.imp_of_mem (λ{x y} hx hy hlt e=>?_) List.pairwise_lt_range
  have hx:=List.mem_range.mp hx
  have hy:=List.mem_range.mp hy
  have:=zDU (by omega) (by omega) e
  omega) (λx hx=>by
  obtain⟨i,hi,rfl⟩:=List.mem_map.mp hx
  have:=List.mem_range.mp hi
  exact h (i+1) (by omega) (by omega))
 simpa using this
end WordM
namespace L2
open PySem PySem.Spec PyProof.Rows WordM
section
variable{α β:Type}{F G:α->β->Prop}
theorem fF:∀{xs:List α}{ys:List β}{i:Nat}{x:α},Paired F xs ys->xs[i]?=some x->∃y,ys[i]?=some y/\F x y
 |_,_,_,_,.nil,e=>by simp at e
 |_,_,0,_,.cons r _,e=>by simp at e;subst e;exact⟨_,rfl,r⟩
 |_,_,i+1,x,.cons _ t,e=>by
  obtain⟨u,h1,h2⟩:=fF (i:=i) (x:=x) t (by simpa using e)
  exact⟨u,by simpa using h1,h2⟩
end
inductive Tv where
 |leaf (v:V)
 |seq (t:Bool) (xs:List Tv)
 |dct (kts:List (Str×Tv))
def VT(S:Bool->Addr->List V->Prop)(D:Addr->List (Key×V)->Prop):Nat->V->Tv->Prop
 |0,_,_=>False
 |d+1,x,T=>(dE x=true/\T=.leaf x)\/(∃t a xs Ts,x=.ref a/\S t a xs/\T=.seq t Ts/\Ts.length<=100000/\Paired (VT S D d) xs Ts) \/
   ∃a kvs kts,x=.ref a/\D a kvs/\T=.dct kts/\(kts.map (·.1)).Nodup/\kts.length<64/\Paired (λ(kv:Key×V) (kt:Str×Tv)=>kv.1=.inr kt.1/\VT S D d kv.2 kt.2) kvs kts
section
variable{S S':Bool->Addr->List V->Prop}{D D':Addr->List (Key×V)->Prop}
theorem VT.mono(hs:∀t a xs,S t a xs->S' t a xs)(hd:∀a kvs,D a kvs->D' a kvs):∀{d:Nat}{x:V}{T:Tv},VT S D d x T->VT S' D' d x T
 |0,_,_,h=>False.elim h
 |d+1,x,T,h=>by
  rcases h with h|⟨t,a,xs,Ts,h1,h2,h3,hz,h4⟩|⟨a,kvs,kts,h1,h2,h3,h4,h5,h6⟩
  ·exact .inl h
  ·exact .inr (.inl ⟨t,a,xs,Ts,h1,hs _ _ _ h2,h3,hz,Paired.mapP h4 λ_ _ q=>VT.mono hs hd q⟩)
  ·exact .inr (.inr ⟨a,kvs,kts,h1,hd _ _ h2,h3,h4,h5,Paired.mapP h6 λ_ _ q=>⟨q.1,VT.mono hs hd q.2⟩⟩)
theorem VT.more:∀{d:Nat}{x:V}{T:Tv},VT S D d x T->VT S D (d+1) x T
 |0,_,_,h=>False.elim h
 |d+1,x,T,h=>by
  rcases h with h|⟨t,a,xs,Ts,h1,h2,h3,hz,h4⟩|⟨a,kvs,kts,h1,h2,h3,h4,h5,h6⟩
  ·exact .inl h
  ·exact .inr (.inl ⟨t,a,xs,Ts,h1,h2,h3,hz,Paired.mapP h4 λ_ _ q=>VT.more q⟩)
  ·exact .inr (.inr ⟨a,kvs,kts,h1,h2,h3,h4,h5,Paired.mapP h6 λ_ _ q=>⟨q.1,VT.more q.2⟩⟩)
theorem VT.le{d e:Nat}(h:d<=e){x:V}{T:Tv}(q:VT S D d x T):VT S D e x T:=by
 obtain⟨k,rfl⟩:=Nat.le.dest h
 clear h
 induction k with
 |zero=>exact q
 |succ k ih=>exact VT.more ih
end
def HDct(H:Hp)(a:Addr)(kvs:List (Key×V)):Prop:=∃ob,FzD H a ob kvs
section
variable{K:W.Frag}{H H':Hp}{d:Nat}{x:V}{T:Tv}
theorem HDct.hs(e:HS H H'){a:Addr}{kvs:List (Key×V)}(h:HDct H a kvs):HDct H' a kvs:=by
 obtain⟨ob,h⟩:=h
 exact⟨ob,e _ _ rfl h⟩
end
theorem zCK:∀(p:Str) (l:List Str),risingS p l=true->∀x∈l,(cs x<cs p)->False:=by
 intro p l
 induction l generalizing p with
 |nil=>intro _ x hx;simp at hx
 |cons y l ih=>
  intro h x hx hlt
  have h:(!PySem.Spec.ltCps y.cps.toList p.cps.toList&&risingS y l)=true:=h
  rw[Bool.and_eq_true]at h
  have hy:¬ (cs y<cs p):=by
   have:=h.1
   rw[ltCps_eq]at this
   simpa using this
  rcases List.mem_cons.mp hx with z|z
  ·subst z;exact hy hlt
  ·have hxy:¬ (cs x<cs y):=λq=>ih y h.2 x z q
   have h1:cs p<=cs y:=List.not_lt.mp hy
   have h2:cs y<=cs x:=List.not_lt.mp hxy
   exact absurd hlt (List.not_lt.mpr (List.le_trans h1 h2))
theorem nW:∀(l:List Str),sortedS l=true->l.Pairwise λa b=>cs a<=cs b
 |[],_=>.nil
 |x::l,h=>by
  have h:risingS x l=true:=h
  refine .cons (λy hy=>List.not_lt.mp λz=>zCK x l h y hy z) (nW l ?_)
  cases l with
  |nil=>rfl
  |cons y l=>
   have h:(!PySem.Spec.ltCps y.cps.toList x.cps.toList&&risingS y l)=true:=h
   rw[Bool.and_eq_true]at h
   exact h.2
open Classical in
noncomputable def dI(us:List Str):List Str:=if h:∃ss:List Str,ss.Perm us/\sortedS ss=true then h.choose else us
theorem kB(us:List Str):(dI us).Perm us:=by
 unfold dI
 split
 ·rename_i h;exact h.choose_spec.1
 ·exact .refl _
theorem oT{us ss:List Str}(h1:ss.Perm us)(h2:sortedS ss=true):ss=dI us:=by
 have ex:∃ss:List Str,ss.Perm us/\sortedS ss=true:=⟨ss,h1,h2⟩
 have e:dI us=ex.choose:=by unfold dI;rw[dif_pos ex]
 rw[e]
 exact List.Perm.eq_of_pairwise (λa b _ _ h1 h2=>kK (List.le_antisymm h1 h2)) (nW _ h2) (nW _ ex.choose_spec.2) (h1.trans ex.choose_spec.1.symm)
def cZ(kts:List (Str×Tv))(k:Str):Option Tv:=(kts.find? λkt=>decide (kt.1=k)).map (·.2)
section
variable{S:Bool->Addr->List V->Prop}{D:Addr->List (Key×V)->Prop}{d:Nat}
theorem tN{kvs:List (Key×V)}{kts:List (Str×Tv)}{R:V->Tv->Prop}(h:Paired (λ(kv:Key×V) (kt:Str×Tv)=>kv.1=.inr kt.1/\R kv.2 kt.2) kvs kts)(k:Str):
  (cZ kts k=none/\dM kvs (.inr k)=none)\/∃U v,cZ kts k=some U/\dM kvs (.inr k)=some v/\R v U:=by
 induction h with
 |nil=>exact .inl ⟨rfl,rfl⟩
 |@cons kv kt l1 l2 h _ ih=>
  obtain⟨e,r⟩:=h
  by_cases z:kt.1=k
  ·refine .inr ⟨kt.2,kv.2,?_,oQ (by rw[e,z]),r⟩
   unfold cZ
   rw[List.find?_cons,decide_eq_true z]
   rfl
  ·have e2:cZ (kt::l2) k=cZ l2 k:=by
    unfold cZ
    rw[List.find?_cons,decide_eq_false z]
   have e3:dM (kv::l1) (.inr k)=dM l1 (.inr k):=oR (by rw[e];exact λq=>z (Sum.inr.inj q))
   rw[e2,e3]
   exact ih
theorem zEk{kts:List (Str×Tv)}{k:Str}(h:k∈kts.map (·.1)):∃U,cZ kts k=some U:=by
 induction kts with
 |nil=>cases h
 |cons kt l ih=>
  by_cases z:kt.1=k
  ·exact⟨kt.2,by unfold cZ;rw[List.find?_cons,decide_eq_true z];rfl⟩
  ·rcases List.mem_cons.mp h with q|q
   ·exact absurd q.symm z
   ·obtain⟨U,hU⟩:=ih q
    refine⟨U,?_⟩
    unfold cZ at hU ⊢
    rw[List.find?_cons,decide_eq_false z]
    exact hU
end
theorem SqT.hs{K:W.Frag}{H H':Hp}{a:Addr}{xs:List V}(e:HS H H')(h:SqT K H a xs):SqT K H' a xs:=by
 rcases h with (h|⟨o,h⟩)|h
 ·exact .inl (.inl (e _ _ rfl h))
 ·exact .inl (.inr ⟨o,e _ _ rfl h⟩)
 ·exact .inr h
theorem nX{α β:Type}{F:α->β->Prop}{a c:List α}{b d:List β}(h1:Paired F a b)(h2:Paired F c d):Paired F (a++c) (b++d):=by
 induction h1 with
 |nil=>exact h2
 |cons r _ ih=>exact .cons r ih
end L2
namespace L2
open PySem PySem.Spec PyProof.Rows
abbrev nN:Hp:=λ_=>none
def Thaw(H H3 H4:Hp):Prop:=∀b,(∃o ob,fzb o=true/\H b=some o/\H3 b=some (.frz ob o)/\H4 b=some o)\/((¬ ∃o ob,fzb o=true/\H b=some o/\H3 b=some (.frz ob o))/\H4 b=H3 b)
theorem zAh(H H3:Hp):∃H4,Thaw H H3 H4:=by
 classical
 refine⟨λb=>if h:∃o ob,fzb o=true/\H b=some o/\H3 b=some (.frz ob o) then some h.choose else H3 b,λb=>?_⟩
 by_cases h:∃o ob,fzb o=true/\H b=some o/\H3 b=some (.frz ob o)
 ·obtain⟨ob,h1,h2,h3⟩:=h.choose_spec
  exact .inl ⟨h.choose,ob,h1,h2,h3,by dsimp only;rw[dif_pos h]⟩
 ·exact .inr ⟨h,by dsimp only;rw[dif_neg h]⟩
theorem yM{P:Program}{w:World}{H:Hp}{h:Heap}(hok:HOk P w H h):∃H2,FrozenA nN H H2/\HOk P w H2 h:=by
 let H2:Hp:=λb=>match H b with
  |none=>none
  |some o=>match fzb o with
   |false=>some o
   |true=>match h.get? b with
    |some ob=>some (.frz ob o)
    |none=>some o
 have new:∀b o ob,H b=some o->fzb o=true->h.get? b=some ob->H2 b=some (.frz ob o):=λb o ob h1 n e=>by
  show(match H b with|none=>none|some o=>_)=_
  rw[h1]
  dsimp only
  rw[n,e]
 have rest:∀b,(∀o,H b=some o->fzb o=false)->H2 b=H b:=λb hn=>by
  show(match H b with|none=>none|some o=>_)=_
  cases e:H b with
  |none=>rfl
  |some o=>
   dsimp only
   rw[hn o e]
 have fro:FrozenA nN H H2:=λb=>by
  cases h1:H b with
  |none=>exact .inr ⟨(λ⟨_,_,_,z⟩=>by cases z),by rw[rest b (λo z=>by rw[h1]at z;cases z),h1]⟩
  |some o=>
   cases n:fzb o with
   |true=>
    obtain⟨ob,e⟩:=(hok b o h1).there
    exact .inl ⟨rfl,o,ob,n,rfl,new b o ob h1 n e⟩
   |false=>exact .inr ⟨(λ⟨_,o',n',z⟩=>by cases z;rw[n]at n';exact absurd n' Bool.false_ne_true),by rw[rest b (λo' z=>by rw[h1]at z;cases z;exact n),h1]⟩
 refine⟨H2,fro,λb o e=>?_⟩
 have st:∀o,ObjOk P w H h b o->ObjOk P w H2 h b o:=λo x=>x.stay (λ_ _ _ r=>r) (λd r=>fro.keep r rfl) λd xs r=>fro.keep r rfl
 rcases fro b with⟨hn,o',ob,n,z,z'⟩|⟨_,z'⟩
 ·obtain⟨ob2,e2⟩:=(hok b o' z).there
  have q2:=new b o' ob2 z n e2
  rw[e]at q2
  cases q2
  exact⟨e2,st _ (hok b _ z)⟩
 ·rw[z']at e
  exact st o (hok b o e)
section
variable{H H2 H3 H4:Hp}{b:Addr}{o:HO}
theorem Thaw.same(f:FrozenA nN H H2)(s:Same H2 H3)(t:Thaw H H3 H4):Same H H4:=λb o e=>by
 cases n:fzb o with
 |true=>
  obtain⟨ob,e2⟩:=f.fz (b:=b) rfl e n
  have e3:=s b _ e2
  rcases t b with⟨u,ob',_,z,_,z'⟩|⟨z,_⟩
  ·rw[e]at z;cases z;exact z'
  ·exact absurd ⟨o,ob,n,e,e3⟩ z
 |false=>
  have e3:=s b _ (f.keep e n)
  rcases t b with⟨u,ob',n',z,_⟩|⟨_,z⟩
  ·rw[e]at z;cases z;rw[n]at n';exact absurd n' Bool.false_ne_true
  ·rw[z];exact e3
end
theorem yH:∀{ps kvs:List (Key×V)},((kvs++ps).map (·.1)).Nodup->jQ kvs ps=kvs++ps
 |[],kvs,_=>by show kvs=kvs++[];rw[List.append_nil]
 |p::ps,kvs,h=>by
  have hv:dM kvs p.1=none:=by
   cases e:dM kvs p.1 with
   |none=>rfl
   |some v=>
    have:=zEG e
    rw[List.map_append,List.nodup_append]at h
    exact absurd rfl (h.2.2 p.1 this p.1 (by simp))
  show jQ (fY kvs p.1 p.2) ps=_
  rw[zD2 p.2 hv,yH (by simpa using h),List.append_assoc]
  rfl
end L2
namespace L2
open PySem PySem.Spec PyProof.Rows
def ItE(K:W.Frag)(a:Addr):It:=
  ⟨λi H=>∃xs x,SqL K H a xs/\xs[i]?=some x,
   λi H v H'=>∃p x,v=.ref p/\H p=none/\H'=upd H p (.tup [.int (i:Int),x])/\∀xs,SqL K H a xs->xs[i]?=some x,
   λi H=>∃xs,SqL K H a xs/\xs.length<=i⟩
theorem zDc{P:Program}{w:World}{K:W.Frag}{es:List Expr}{ek:Nat}{pos:Pos}(a e it:Addr)(hei:e≠it)(hae:a≠e)(hai:a≠it):
  iB P w K (.Tuple es ek pos) (ItE K a) [e,it] e (λi h=>(∃old,IsEnum h e it (i:Int) old)/\h.IsListIter it a i) where
 mem:=by simp
 obj:=λi h st b hb=>by
  obtain⟨⟨old,st⟩,j⟩:=st
  rcases List.mem_cons.mp hb with rfl|hb
  ·exact⟨_,st,λv z=>by
    have z':Data.fields _=Data.cell v:=z
    cases z'⟩
  ·have q:b=it:=by simpa using hb
   subst q
   obtain⟨o,e',c,d⟩:=j
   exact⟨o,e',λv z=>by rw[d]at z;cases z⟩
 keep:=λi h h' ⟨⟨old,st⟩,j⟩ k=>⟨⟨old,k e (by simp) _ st⟩,j.at λo e'=>k it (by simp) o e'⟩
 item:=by
  intro X hP hw hK hc i pins s σ H E I hf st hg
  subst hP hw hK
  obtain⟨xs,x,hx,hi⟩:=hg
  obtain⟨⟨old,st⟩,j⟩:=st
  obtain⟨its,r,pl,hz⟩:=I.list hx
  obtain⟨u,hu,ru⟩:=r.get hi
  refine wpAny_pyNext_enum_item st j pl.isList (x:=u) (by simpa using hu) hei λh' a1 a2 a3 a4 a5=>⟨_,rfl,?_⟩
  refine wpAny_letOwnedTupleGo_enum (s:={s with heap:=h',toks:=s.toks+1}) a1 λh2 b1 b2=>?_
  have hne:e≠s.heap.objs.size:=Nat.ne_of_lt (Heap.lt_size st)
  have hni:it≠s.heap.objs.size:=by obtain⟨o,e',_⟩:=id j;exact Nat.ne_of_lt (Heap.lt_size e')
  have hn:∀c∈[e,it],c≠s.heap.objs.size:=λc hc'=>by
   simp only[List.mem_cons,List.not_mem_nil,or_false]at hc'
   rcases hc' with q|q
   ·rw[q];exact hne
   ·rw[q];exact hni
  have I0:Inv X pins σ (upd H s.heap.objs.size (.tup [.int (i:Int),x])) {s with heap:=s.heap.push {cls:=.type "tuple",data:=.seq #[.int (i:Int) s.toks,u]}}:=
   I.laid (t':=s.toks) (λc o e=>Heap.get?_push_of_some _ e) (Nat.le_refl _) ⟨by show 2<=sizeLine;decide,[.int (i:Int) s.toks,u],.cons ⟨_,rfl⟩ (.cons ru .nil),IsTup.new _ _⟩
  have hf0:∀c∈[e,it],eO X pins (upd H s.heap.objs.size (.tup [.int (i:Int),x])) c:=λc hc'=>⟨by rw[bL (hn c hc')];exact(hf c hc').1,(hf c hc').2⟩
  have I1:Inv X pins σ (upd H s.heap.objs.size (.tup [.int (i:Int),x])) {s with heap:=h2,toks:=s.toks+1}:=Inv.turnedL (s:={s with heap:=s.heap.push {cls:=.type "tuple",data:=.seq #[.int (i:Int) s.toks,u]}}) (t':=s.toks+1) (ch:=[e,it]) I0 hf0 λc o hc' e'=>by
   simp only[List.mem_cons,List.not_mem_nil,or_false,not_or]at hc'
   obtain⟨c1,c2⟩:=hc'
   by_cases hcn:c=s.heap.objs.size
   ·subst hcn
    have e'':(s.heap.push {cls:=.type "tuple",data:=.seq #[.int (i:Int) s.toks,u]}).get? s.heap.objs.size=some o:=e'
    rw[Heap.get?_push_size _ rfl]at e''
    cases e''
    exact b2.extBut _ _ c1 a3
   ·refine b2.extBut _ _ c1 (a5 c o c1 c2 ?_)
    have e'':(s.heap.push {cls:=.type "tuple",data:=.seq #[.int (i:Int) s.toks,u]}).get? c=some o:=e'
    rw[Heap.get?_push_ne _ _ _ hcn]at e''
    exact e''
  refine⟨.ref s.heap.objs.size,_,I1,rfl,⟨_,x,rfl,I.hok.fresh (Nat.le_refl _),rfl,λxs' h=>by rw[I.list_inj h hx];exact hi⟩,⟨⟨u,by have:=b1;push_cast;exact this⟩,a2.at λo e'=>b2.extBut _ _ (Ne.symm hei) e'⟩,λc hc'=>(hf0 c hc').1⟩
 done:=by
  intro X hP hw hK hc i pins s σ H E I hf st hg
  subst hP hw hK
  obtain⟨xs,hx,hi⟩:=hg
  obtain⟨⟨old,st⟩,j⟩:=st
  obtain⟨its,r,pl,hz⟩:=I.list hx
  have la:=r.length
  refine wpAny_pyNext_enum_end (I.ok.hd hc) st j pl.isList (by simp;omega) λh' eb=>⟨rfl,I.turnedL (t':=s.toks) hf λc o hc' e'=>?_⟩
  simp only[List.mem_cons,List.not_mem_nil,or_false,not_or]at hc'
  exact eb c o hc'.2 e'
 self:=λ_ _ _ _ _ ⟨⟨_,st⟩,_⟩ h=>wpAny_pyIter_enum st h
theorem zB7:bootBuiltins "enumerate"=some (.type "enumerate"):=by decide +kernel
section
variable{X:Cx}
def zHt(K:W.Frag)(ta:TA):TI:=λσ H R=>ta σ H λvs H1=>∃a:Addr,vs=[.ref a]/\(∃xs,SqL K H1 a xs)/\R (ItE K a) H1
theorem zE0{a:Expr}{ta:TA}{es:List Expr}{ek:Nat}{p pos pos':Pos}(hg:Gl X "enumerate")(hm:X.mg "enumerate"=none)(ha:PA X [a] ta)(hs:starEach [a] X.env=[(false,eval a X.env)]:=by rfl):
  PI X (.Tuple es ek pos') (.Call (.Name "enumerate" p) [a] [] pos) (zHt X.K ta):=by
 intro pins s σ H R I h
 refine Call_ (mO I hg hm zB7 (PyProof.Rows.callWith_type1 (thn (ha pos pins s σ H _ I h) λus s1 ⟨vs,H1,I1,r1,q1⟩=>?_) (by rw[hs];rfl) (by rfl)))
 obtain⟨a,e,⟨xs,hx⟩,q⟩:=q1
 subst e
 obtain⟨u,rfl,rx⟩:=cF r1
 cases rx
 obtain⟨its,r,pl,hz⟩:=I1.list hx
 have la:a<s1.heap.objs.size:=by obtain⟨o,e,_⟩:=pl.isList;exact Heap.lt_size e
 refine call_enumerate_list pl.isList λh' e1 e2 _ k=>?_
 refine wpAny_pyIter_enum e1 ?_
 refine⟨_,[s1.heap.objs.size+1,s1.heap.objs.size],_,_,H1,rfl,I1.kept (t':=s1.toks) k,zDc a _ _ (by intro (e:(_:Nat)=_);omega) (Nat.ne_of_lt (Nat.lt_succ_of_lt la)) (Nat.ne_of_lt la),⟨⟨_,e1⟩,e2⟩,λc hc=>?_,q⟩
 have:s1.heap.objs.size<=c:=by
  simp only[List.mem_cons,List.not_mem_nil,or_false]at hc
  rcases hc with e|e<;>(rw[e];first|exact Nat.le_refl _|exact Nat.le_add_right _ _)
 exact I1.fpOk this (I1.hok.fresh this)
end
end L2
namespace L2
open PySem PySem.Spec PyProof.Rows WordM
def PSeq(K:W.Frag)(H:Hp)(t:Bool)(a:Addr)(xs:List V):Prop:=match t with
 |false=>∃ob,H a=some (.frz ob (.lst xs))
 |true=>SqT K H a xs
abbrev VP(K:W.Frag)(H:Hp):Nat->V->Tv->Prop:=VT (PSeq K H) (HDct H)
def VA(K:W.Frag)(H:Hp)(x:V)(T:Tv):Prop:=∃d,VP K H d x T
abbrev VAs(K:W.Frag)(H:Hp):List V->List Tv->Prop:=Paired (VA K H)
def VAk(K:W.Frag)(H:Hp):List (Key×V)->List (Str×Tv)->Prop:=Paired λ(kv:Key×V) (kt:Str×Tv)=>kv.1=.inr kt.1/\VA K H kv.2 kt.2
section
variable{K:W.Frag}{H H' H1 H2:Hp}{x y v:V}{T U:Tv}{a:Addr}{xs:List V}{Ts:List Tv}{t:Bool}{kvs:List (Key×V)}{kts:List (Str×Tv)}
theorem PSeq.hs(e:HS H H')(h:PSeq K H t a xs):PSeq K H' t a xs:=by
 cases t with
 |false=>obtain⟨ob,h⟩:=h;exact⟨ob,e _ _ rfl h⟩
 |true=>exact SqT.hs e h
theorem VA.hs(e:HS H H')(h:VA K H x T):VA K H' x T:=by
 obtain⟨d,h⟩:=h
 exact⟨d,h.mono (λ_ _ _ q=>q.hs e) λ_ _ q=>q.hs e⟩
theorem VAs.hs(e:HS H H')(h:VAs K H xs Ts):VAs K H' xs Ts:=Paired.mapP h λ_ _ q=>q.hs e
theorem VAk.hs(e:HS H H')(h:VAk K H kvs kts):VAk K H' kvs kts:=Paired.mapP h λ_ _ q=>⟨q.1,q.2.hs e⟩
theorem VAs.deep(h:VAs K H xs Ts):∃d,Paired (VP K H d) xs Ts:=by
 induction h with
 |nil=>exact⟨0,.nil⟩
 |cons r _ ih=>
  obtain⟨d,r⟩:=r
  obtain⟨e,ih⟩:=ih
  exact⟨max d e,.cons (r.le (Nat.le_max_left _ _)) (Paired.mapP ih λ_ _ q=>VT.le (Nat.le_max_right _ _) q)⟩
theorem VAk.deep(h:VAk K H kvs kts):∃d,Paired (λ(kv:Key×V) (kt:Str×Tv)=>kv.1=.inr kt.1/\VP K H d kv.2 kt.2) kvs kts:=by
 unfold VAk at h
 induction h with
 |nil=>exact⟨0,.nil⟩
 |cons r _ ih=>
  obtain⟨k,d,r⟩:=r
  obtain⟨e,ih⟩:=ih
  exact⟨max d e,.cons ⟨k,r.le (Nat.le_max_left _ _)⟩ (Paired.mapP ih λ_ _ q=>⟨q.1,VT.le (Nat.le_max_right _ _) q.2⟩)⟩
theorem VA.flat(h:dE x=true):VA K H x (.leaf x):=⟨1,.inl ⟨h,rfl⟩⟩
theorem VA.seq(h:PSeq K H t a xs)(z:Ts.length<=100000)(p:VAs K H xs Ts):VA K H (.ref a) (.seq t Ts):=by
 obtain⟨d,p⟩:=p.deep
 exact⟨d+1,.inr (.inl ⟨t,a,xs,Ts,rfl,h,rfl,z,p⟩)⟩
theorem VA.dct(h:HDct H a kvs)(n:(kts.map (·.1)).Nodup)(z:kts.length<64)(p:VAk K H kvs kts):VA K H (.ref a) (.dct kts):=by
 obtain⟨d,p⟩:=p.deep
 exact⟨d+1,.inr (.inr ⟨a,kvs,kts,rfl,h,rfl,n,z,p⟩)⟩
theorem VA.leafI(h:VA K H x (.leaf v)):x=v/\dE v=true:=by
 obtain⟨d,h⟩:=h
 cases d with
 |zero=>exact False.elim h
 |succ d=>
  rcases h with⟨f,e⟩|⟨_,_,_,_,_,_,e,_⟩|⟨_,_,_,_,_,e,_⟩
  ·cases e;exact⟨rfl,f⟩
  ·cases e
  ·cases e
theorem VA.seqI(h:VA K H x (.seq t Ts)):∃a xs,x=.ref a/\PSeq K H t a xs/\Ts.length<=100000/\VAs K H xs Ts:=by
 obtain⟨d,h⟩:=h
 cases d with
 |zero=>exact False.elim h
 |succ d=>
  rcases h with⟨_,e⟩|⟨t',a,xs,Ts',e1,hs,e,z,p⟩|⟨_,_,_,_,_,e,_⟩
  ·cases e
  ·cases e;exact⟨a,xs,e1,hs,z,Paired.mapP p λ_ _ q=>⟨d,q⟩⟩
  ·cases e
theorem VA.dctI(h:VA K H x (.dct kts)):∃a kvs,x=.ref a/\HDct H a kvs/\(kts.map (·.1)).Nodup/\kts.length<64/\VAk K H kvs kts:=by
 obtain⟨d,h⟩:=h
 cases d with
 |zero=>exact False.elim h
 |succ d=>
  rcases h with⟨_,e⟩|⟨_,_,_,_,_,_,e,_⟩|⟨a,kvs,kts',e1,hd,e,n,z,p⟩
  ·cases e
  ·cases e
  ·cases e;exact⟨a,kvs,e1,hd,n,z,Paired.mapP p λ_ _ q=>⟨q.1,d,q.2⟩⟩
end
inductive Sl where
 |no
 |va (T:Tv)
 |own (xs:List Tv)
 |dct (kts:List (Str×Tv))
 |dk
abbrev aV:=List Sl
def dS:Sl->Bool
 |.own _=>true
 |.dct _=>true
 |_=>false
structure Fm where
 H0:Hp
 dk:Option (Addr×Addr)
structure Kp (dk:Option (Addr×Addr)) (H H':Hp):Prop where
 st:∀b o,H b=some o->(∀p c,dk=some (p,c)->b≠p/\b≠c)->H' b=some o
 dkk:∀p c,dk=some (p,c)->DeckAt H' p c
theorem Kp.tr{dk:Option (Addr×Addr)}{H H':Hp}(k:Kp dk H H')(b:Addr)(o:HO)(e:H b=some o):∃o',H' b=some o':=by
 cases d:dk with
 |none=>exact⟨o,k.st b o e λp c z=>by rw[d]at z;cases z⟩
 |some pc=>
  obtain⟨p,c⟩:=pc
  obtain⟨_,⟨S,i,e1⟩,ns,e2,_⟩:=k.dkk p c d
  by_cases h1:b=p
  ·subst h1;exact⟨_,e1⟩
  ·by_cases h2:b=c
   ·subst h2;exact⟨_,e2⟩
   ·exact⟨o,k.st b o e λp' c' z=>by rw[d]at z;cases z;exact⟨h1,h2⟩⟩
def wF(K:W.Frag)(F:Fm)(H:Hp)(ox:Option V):Sl->Prop
 |.no=>True
 |.va T=>∃x,ox=some x/\VA K H x T
 |.own Ts=>∃a xs,ox=some (.ref a)/\H a=some (.lst xs)/\F.H0 a=none/\Ts.length<=100000/\VAs K H xs Ts
 |.dct kts=>∃a kvs,ox=some (.ref a)/\H a=some (.dK kvs)/\F.H0 a=none/\(kts.map (·.1)).Nodup/\kts.length<64/\VAk K H kvs kts
 |.dk=>∃p c,F.dk=some (p,c)/\ox=some (.ref p)
def ixv(σ:St)(i:Nat):Option V:=(σ[i]?).join
structure FrOk (K:W.Frag) (F:Fm) (ρ:aV) (σ:St) (H:Hp):Prop where
 d0:∀p c,F.dk=some (p,c)->DeckAt F.H0 p c
 kp:Kp F.dk F.H0 H
 len:ρ.length=σ.length
 at_:∀(i:Nat) (s:Sl),ρ[i]?=some s->wF K F H (ixv σ i) s
 ap:∀(i j:Nat) (a:Addr) (s t:Sl),ρ[i]?=some s->ρ[j]?=some t->dS s=true->dS t=true->ixv σ i=some (.ref a)->ixv σ j=some (.ref a)->i=j
def Stay(F:Fm)(ρ:aV)(σ:St)(H H':Hp):Prop:=∀b o,H b=some o->(∀p c,F.dk=some (p,c)->b≠p/\b≠c)->(∀(i:Nat) (s:Sl),ρ[i]?=some s->dS s=true->ixv σ i≠some (.ref b))->H' b=some o
def Sbv(ρ' ρ:aV):Prop:=∀(i:Nat) (s':Sl),ρ'[i]?=some s'->dS s'=true->∃s,ρ[i]?=some s/\dS s=true
structure Stp (K:W.Frag) (F:Fm) (σ:St) (ρ:aV) (H:Hp) (ρ':aV) (H':Hp):Prop where
 fr:FrOk K F ρ' σ H'
 st:Stay F ρ σ H H'
 sub:Sbv ρ' ρ
 tr:∀b o,H b=some o->∃o',H' b=some o'
section
variable{K:W.Frag}{F:Fm}{ρ ρ1 ρ2:aV}{σ:St}{H H' H1 H2:Hp}{x y v:V}{T U:Tv}{a b:Addr}{o:HO}
theorem Sbv.refl(ρ:aV):Sbv ρ ρ:=λi s e m=>⟨s,e,m⟩
theorem Sbv.trans(h1:Sbv ρ1 ρ)(h2:Sbv ρ2 ρ1):Sbv ρ2 ρ:=λi s e m=>by
 obtain⟨s1,e1,m1⟩:=h2 i s e m
 exact h1 i s1 e1 m1
theorem FrOk.own_at(fr:FrOk K F ρ σ H){i:Nat}{s:Sl}(e:ρ[i]?=some s)(m:dS s=true)(q:ixv σ i=some (.ref a)):(∃o,H a=some o/\fzb o=true)/\F.H0 a=none:=by
 have h:=fr.at_ i s e
 cases s with
 |own Ts=>obtain⟨a',xs,e1,e2,e3,_⟩:=h;rw[q]at e1;cases e1;exact⟨⟨_,e2,rfl⟩,e3⟩
 |dct kts=>obtain⟨a',xs,e1,e2,e3,_⟩:=h;rw[q]at e1;cases e1;exact⟨⟨_,e2,rfl⟩,e3⟩
 |no=>cases m
 |va _=>cases m
 |dk=>cases m
theorem FrOk.fresh_nodk(fr:FrOk K F ρ σ H)(h:F.H0 a=none):∀p c,F.dk=some (p,c)->a≠p/\a≠c:=λp c e=>by
 obtain⟨_,⟨S,k,e1⟩,ns,e2,_⟩:=fr.d0 p c e
 exact⟨λz=>(by rw[z,e1]at h;cases h),λz=>(by rw[z,e2]at h;cases h)⟩
theorem FrOk.none_nodk(fr:FrOk K F ρ σ H)(h:H a=none):∀p c,F.dk=some (p,c)->a≠p/\a≠c:=λp c e=>by
 obtain⟨_,⟨S,k,e1⟩,ns,e2,_⟩:=fr.kp.dkk p c e
 exact⟨λz=>(by rw[z,e1]at h;cases h),λz=>(by rw[z,e2]at h;cases h)⟩
theorem FrOk.none0(fr:FrOk K F ρ σ H)(h:H a=none):F.H0 a=none:=by
 cases q:F.H0 a with
 |none=>rfl
 |some o=>rw[fr.kp.st a o q (fr.none_nodk h)]at h;cases h
theorem Stay.hs(fr:FrOk K F ρ σ H)(s:Stay F ρ σ H H'):HS H H':=λb o h e=>s b o e
 (λp c d=>by
  obtain⟨_,⟨S,k,e1⟩,ns,e2,_⟩:=fr.kp.dkk p c d
  exact⟨λz=>(by subst z;rw[e1]at e;cases e;cases h),λz=>(by subst z;rw[e2]at e;cases e;cases h)⟩)
 λi s e1 m q=>by
  obtain⟨⟨o',e2,n⟩,_⟩:=fr.own_at e1 m q
  rw[e]at e2;cases e2
  cases o<;>first|exact absurd h Bool.false_ne_true|exact absurd n Bool.false_ne_true
theorem Stay.trans(s1:Stay F ρ σ H H1)(sb:Sbv ρ1 ρ)(s2:Stay F ρ1 σ H1 H2):Stay F ρ σ H H2:=λb o e d n=>
 s2 b o (s1 b o e d n) d λi s e1 m=>by
  obtain⟨s',e2,m'⟩:=sb i s e1 m
  exact n i s' e2 m'
theorem Stp.trans(a:Stp K F σ ρ H ρ1 H1)(b:Stp K F σ ρ1 H1 ρ2 H2):Stp K F σ ρ H ρ2 H2:=⟨b.fr,a.st.trans a.sub b.st,a.sub.trans b.sub,λc o e=>let ⟨o1,e1⟩:=a.tr c o e;b.tr c o1 e1⟩
theorem Stp.refl(fr:FrOk K F ρ σ H):Stp K F σ ρ H ρ H:=⟨fr,λ_ _ e _ _=>e,Sbv.refl _,λ_ o e=>⟨o,e⟩⟩
theorem Stp.hs(a:Stp K F σ ρ H ρ1 H1)(fr:FrOk K F ρ σ H):HS H H1:=a.st.hs fr
theorem FrOk.call(fr:FrOk K F ρ σ H)(k:Kp F.dk H H'):FrOk K F ρ σ H':=by
 have own:∀i s a o,ρ[i]?=some s->dS s=true->ixv σ i=some (.ref a)->H a=some o->H' a=some o:=λi s a o e m q h=>
  k.st a o h (fr.fresh_nodk (fr.own_at e m q).2)
 have hs:HS H H':=λb o h e=>k.st b o e λp c d=>by
  obtain⟨_,⟨S,k,e1⟩,ns,e2,_⟩:=fr.kp.dkk p c d
  exact⟨λz=>(by subst z;rw[e1]at e;cases e;cases h),λz=>(by subst z;rw[e2]at e;cases e;cases h)⟩
 refine⟨fr.d0,⟨λb o e n=>k.st b o (fr.kp.st b o e n) n,k.dkk⟩,fr.len,λi s e=>?_,fr.ap⟩
 have h:=fr.at_ i s e
 cases s with
 |no=>trivial
 |va T=>obtain⟨x,e1,v⟩:=h;exact⟨x,e1,v.hs hs⟩
 |own Ts=>obtain⟨a,xs,e1,e2,e3,z,p⟩:=h;exact⟨a,xs,e1,own i _ a _ e rfl e1 e2,e3,z,p.hs hs⟩
 |dct kts=>obtain⟨a,kvs,e1,e2,e3,n,z,p⟩:=h;exact⟨a,kvs,e1,own i _ a _ e rfl e1 e2,e3,n,z,p.hs hs⟩
 |dk=>exact h
theorem Kp.of_same(fr:FrOk K F ρ σ H)(s:Same H H'):Kp F.dk H H':=⟨λb o e _=>s b o e,λp c d=>by
 obtain⟨ne,⟨S,k,e1⟩,ns,e2,l⟩:=fr.kp.dkk p c d
 exact⟨ne,⟨S,k,s _ _ e1⟩,ns,s _ _ e2,l⟩⟩
theorem Stp.call(fr:FrOk K F ρ σ H)(k:Kp F.dk H H'):Stp K F σ ρ H ρ H':=⟨fr.call k,λb o e d _=>k.st b o e d,Sbv.refl _,λb o e=>k.tr b o e⟩
theorem Stp.same(fr:FrOk K F ρ σ H)(s:Same H H'):Stp K F σ ρ H ρ H':=Stp.call fr (Kp.of_same fr s)
end
theorem Stp.non{K:W.Frag}{F:Fm}{ρ ρ1:aV}{σ:St}{H H1:Hp}{a:Addr}(s:Stp K F σ ρ H ρ1 H1)(n:H1 a=none):H a=none:=by
 cases e:H a with
 |none=>rfl
 |some o=>
  obtain⟨o',e'⟩:=s.tr a o e
  rw[n]at e';cases e'
abbrev UT:=aV->(Tv->aV->Prop)->Prop
abbrev UTt:=aV->(Bool->aV->Prop)->Prop
abbrev UTl:=aV->(List Tv->aV->Prop)->Prop
inductive Ar where
 |va (T:Tv)
 |dk
abbrev UTa:=aV->(List Ar->aV->Prop)->Prop
def rD(K:W.Frag)(dk:Option (Addr×Addr))(H:Hp)(x:V):Ar->Prop
 |.va T=>VA K H x T
 |.dk=>∃p c,dk=some (p,c)/\x=.ref p
def eF(K:W.Frag)(F:Fm)(u:UT):TE:=λσ H QQ=>∃ρ Q,FrOk K F ρ σ H/\u ρ Q/\∀x T H' ρ',Stp K F σ ρ H ρ' H'->VA K H' x T->Q T ρ'->QQ x H'
def pV(K:W.Frag)(F:Fm)(u:UTt):TT:=λσ H QQ=>∃ρ Q,FrOk K F ρ σ H/\u ρ Q/\∀b H' ρ',Stp K F σ ρ H ρ' H'->Q b ρ'->QQ b H'
def pW(K:W.Frag)(F:Fm)(u:UTl):TE:=λσ H QQ=>∃ρ Q,FrOk K F ρ σ H/\u ρ Q/\∀a xs Ts H' ρ',Stp K F σ ρ H ρ' H'->H a=none->H' a=some (.lst xs)->Ts.length<=100000->VAs K H' xs Ts->Q Ts ρ'->QQ (.ref a) H'
def pX(K:W.Frag)(F:Fm)(u:UTa):TA:=λσ H QQ=>∃ρ Q,FrOk K F ρ σ H/\u ρ Q/\∀xs as H' ρ',Stp K F σ ρ H ρ' H'->Paired (rD K F.dk H') xs as->Q as ρ'->QQ xs H'
structure UE (X:Cx) (F:Fm) (e:Expr) (u:UT):Prop where
 pe:PE X e (eF X.K F u)
structure UB (X:Cx) (F:Fm) (e:Expr) (u:UTt):Prop where
 pt:PT X e (pV X.K F u)
structure UW (X:Cx) (F:Fm) (e:Expr) (u:UTt):Prop where
 pw:PW X e (pV X.K F u)
structure UL (X:Cx) (F:Fm) (e:Expr) (u:UTl):Prop where
 pe:PE X e (pW X.K F u)
structure UA (X:Cx) (F:Fm) (es:List Expr) (u:UTa):Prop where
 pa:PA X es (pX X.K F u)
theorem PE.imp{X:Cx}{e:Expr}{t t':TE}(h:PE X e t)(i:∀σ H Q,t' σ H Q->t σ H Q):PE X e t':=λpins s σ H Q I q=>h pins s σ H Q I (i σ H Q q)
theorem PT.imp{X:Cx}{e:Expr}{t t':TT}(h:PT X e t)(i:∀σ H Q,t' σ H Q->t σ H Q):PT X e t':=λpins s σ H Q I q=>h pins s σ H Q I (i σ H Q q)
theorem PW.imp{X:Cx}{e:Expr}{t t':TT}(h:PW X e t)(i:∀σ H Q,t' σ H Q->t σ H Q):PW X e t':=λwh pins s σ H Q I q=>h wh pins s σ H Q I (i σ H Q q)
theorem PA.imp{X:Cx}{es:List Expr}{t t':TA}(h:PA X es t)(i:∀σ H Q,t' σ H Q->t σ H Q):PA X es t':=λpos pins s σ H Q I q=>h pos pins s σ H Q I (i σ H Q q)
theorem Inv.fz{X:Cx}{pins:List (Addr×Obj)}{σ:St}{H:Hp}{s:Shared}{a:Addr}{o:HO}(I:Inv X pins σ H s)(h:H a=some o)(n:fzb o=true):∃ob,Inv X pins σ (upd H a (.frz ob o)) s:=by
 obtain⟨ob,eo⟩:=(I.hok a o h).there
 refine⟨ob,?_⟩
 have keep:∀b u,H b=some u->fzb u=false->upd H a (.frz ob o) b=some u:=λb u e m=>by
  rw[bL (λz=>by subst z;rw[h]at e;cases e;rw[n]at m;cases m)];exact e
 have non:∀b,H b=none->upd H a (.frz ob o) b=none:=λb e=>by
  rw[bL (λz=>by subst z;rw[h]at e;cases e)];exact e
 refine⟨I.ok,I.os,I.bare,⟨I.base.keep,I.base.slot,λb o e n hx=>non b (I.base.free b o e n hx),I.base.there,λb xs e=>keep b _ (I.base.tups b xs e) rfl,λb o u e=>keep b _ (I.base.frzs b o u e) rfl,λb ps e=>?_⟩,I.loc,I.cell,non _ I.free,λx c e=>non c (I.freeC x c e),λp hp=>?_,λb u e=>?_,I.len⟩
 ·obtain⟨more,z⟩:=I.base.tbls b ps e
  exact⟨more,keep b _ z rfl⟩
 ·obtain⟨p1,p2,p3⟩:=I.pin p hp
  exact⟨p1,non _ p2,p3⟩
 ·have st:∀b u,ObjOk X.prog X.w H s.heap b u->ObjOk X.prog X.w (upd H a (.frz ob o)) s.heap b u:=λb u x=>x.stay (λ_ _ _ r=>r) (λd r=>keep d _ r rfl) λd xs r=>keep d _ r rfl
  by_cases z:b=a
  ·subst z
   rw[bM]at e
   cases e
   exact⟨eo,st _ _ (I.hok b o h)⟩
  ·rw[bL z]at e
   exact st _ _ (I.hok b u e)
def FzQ(Q:VK):VK:=λz H=>Q z H\/∃a o,z=.ref a/\H a=some o/\fzb o=true/\∀ob,Q z (upd H a (.frz ob o))
def tFz(t:TE):TE:=λσ H Q=>t σ H (FzQ Q)
theorem EP.fz{X:Cx}{pins:List (Addr×Obj)}{σ:St}{Q:VK}{u:Value}{s:Shared}(h:EP X pins σ (FzQ Q) u s):EP X pins σ Q u s:=by
 obtain⟨x,H',I,r,q⟩:=h
 rcases q with q|⟨a,o,rfl,e,n,q⟩
 ·exact⟨x,H',I,r,q⟩
 ·obtain⟨ob,I'⟩:=I.fz e n
  exact⟨_,_,I',r,q ob⟩
theorem PE.fz{X:Cx}{e:Expr}{t:TE}(h:PE X e t):PE X e (tFz t):=λpins s σ H Q I q=>thn (h pins s σ H _ I q) λ_ _ z=>z.fz
def Raw(K:W.Frag)(H H':Hp)(z:V)(W:Tv):Prop:=Same H H'/\(VA K H' z W\/∃a,z=.ref a/\H a=none /\
 ((∃xs Ts,H' a=some (.lst xs)/\W=.seq false Ts/\Ts.length<=100000/\VAs K H' xs Ts)\/∃kvs kts,H' a=some (.dK kvs)/\W=.dct kts/\(kts.map (·.1)).Nodup/\kts.length<64/\VAk K H' kvs kts))
section
variable{K:W.Frag}{F:Fm}{ρ ρ1 ρ2:aV}{σ:St}{H H' H1 H2:Hp}{x y v z:V}{T U W:Tv}{a b:Addr}{o:HO}
theorem Raw.va(v:VA K H z W):Raw K H H z W:=⟨Same.refl _,.inl v⟩
theorem Raw.flat(h:dE z=true):Raw K H H z (.leaf z):=.va (.flat h)
theorem Raw.lst{xs:List V}{Ts:List Tv}(n:H a=none)(z:Ts.length<=100000)(p:VAs K H xs Ts):Raw K H (upd H a (.lst xs)) (.ref a) (.seq false Ts):=
 ⟨dB n,.inr ⟨a,rfl,n,.inl ⟨xs,Ts,bM,rfl,z,p.hs (jS n)⟩⟩⟩
theorem Raw.tup{xs:List V}{Ts:List Tv}(n:H a=none)(z:Ts.length<=100000)(p:VAs K H xs Ts):Raw K H (upd H a (.tup xs)) (.ref a) (.seq true Ts):=
 ⟨dB n,.inl (VA.seq (t:=true) (SqT.of bM) z (p.hs (jS n)))⟩
theorem Stp.frz(fr:FrOk K F ρ σ H)(s:Same H H')(n:H a=none)(e:H' a=some o)(m:fzb o=true)(ob:Obj):Stp K F σ ρ H ρ (upd H' a (.frz ob o)):=
 Stp.same fr λb u q=>by rw[bL (cU q n)];exact s b u q
theorem Raw.fin(fr:FrOk K F ρ σ H)(r:Raw K H H' z W){QQ:VK}(k:∀H'',Stp K F σ ρ H ρ H''->VA K H'' z W->QQ z H''):FzQ QQ z H':=by
 obtain⟨s,v|⟨a,rfl,n,⟨xs,Ts,e,rfl,l,p⟩|⟨kvs,kts,e,rfl,nd,l,p⟩⟩⟩:=r
 ·exact .inl (k H' (Stp.same fr s) v)
 ·refine .inr ⟨a,_,rfl,e,rfl,λob=>k _ (Stp.frz fr s n e rfl ob) (VA.seq (t:=false) ⟨ob,bM⟩ l (p.hs (fU e rfl)))⟩
 ·refine .inr ⟨a,_,rfl,e,rfl,λob=>k _ (Stp.frz fr s n e rfl ob) (VA.dct ⟨ob,bM⟩ nd l (p.hs (fU e rfl)))⟩
end
end L2
namespace L2
open PySem PySem.Spec PyProof.Rows WordM
abbrev iT(i:Int):Tv:=.leaf (.int i)
abbrev sT(x:Str):Tv:=.leaf (.str x)
abbrev bT(b:Bool):Tv:=.leaf (.bl b)
abbrev nT:Tv:=.leaf .non
abbrev P1:=Tv->(Tv->Prop)->Prop
abbrev P2:=Tv->Tv->(Tv->Prop)->Prop
abbrev Pn:=List Tv->(Tv->Prop)->Prop
section
variable{X:Cx}{F:Fm}
def fA(i:Nat):UT:=λρ Q=>match ρ[i]? with
 |some (.va T)=>Q T ρ
 |some (.own Ts)=>Q (.seq false Ts) (ρ.set i (.va (.seq false Ts)))
 |some (.dct kts)=>Q (.dct kts) (ρ.set i (.va (.dct kts)))
 |_=>False
theorem gR{σ:St}{i:Nat}{x:V}(h:ixv σ i=some x):σ[i]?=some (some x):=by
 unfold ixv at h
 cases q:σ[i]? with
 |none=>rw[q]at h;cases h
 |some o=>rw[q]at h;cases o with
  |none=>cases h
  |some y=>cases h;rfl
theorem zGB{σ:St}{i:Nat}{x:V}(h:σ[i]?=some (some x)):ixv σ i=some x:=by
 unfold ixv;rw[h];rfl
theorem FrOk.fzs{K:W.Frag}{ρ:aV}{σ:St}{H:Hp}{i:Nat}{s:Sl}{a:Addr}{o:HO}{T:Tv}(fr:FrOk K F ρ σ H)(e:ρ[i]?=some s)(m:dS s=true)(q:ixv σ i=some (.ref a))(h:H a=some o)(n:fzb o=true)(ob:Obj)
  (v:VA K (upd H a (.frz ob o)) (.ref a) T):Stp K F σ ρ H (ρ.set i (.va T)) (upd H a (.frz ob o)):=by
 have hi:i<ρ.length:=(List.getElem?_eq_some_iff.mp e).1
 have h0:=(fr.own_at e m q).2
 have hd:=fr.fresh_nodk h0
 have hs:HS H (upd H a (.frz ob o)):=fU h (by cases o<;>first|rfl|exact absurd n Bool.false_ne_true)
 have st:∀b u,b≠a->H b=some u->upd H a (.frz ob o) b=some u:=λb u z e=>by rw[bL z];exact e
 refine⟨⟨fr.d0,⟨λb u e1 n1=>st b u (λz=>by rw[z,h0]at e1;cases e1) (fr.kp.st b u e1 n1),λp c d=>?_⟩,by rw[List.length_set];exact fr.len,λj s' e'=>?_,λj k b s' t' e1 e2 m1 m2 q1 q2=>?_⟩,λb u e1 _ n1=>st b u (λz=>n1 i s e m (by rw[z];exact q)) e1,λj s' e' m'=>?_,λb u e1=>if z:b=a then⟨.frz ob o,z▸bM⟩ else⟨u,st b u z e1⟩⟩
 ·obtain⟨ne,⟨S,k,e1⟩,ns,e2,l⟩:=fr.kp.dkk p c d
  exact⟨ne,⟨S,k,st _ _ (hd p c d).1.symm e1⟩,ns,st _ _ (hd p c d).2.symm e2,l⟩
 ·by_cases z:i=j
  ·subst z
   rw[List.getElem?_set_self hi]at e'
   cases e'
   exact⟨_,q,v⟩
  ·rw[List.getElem?_set_ne z]at e'
   have x:=fr.at_ j s' e'
   cases s' with
   |no=>trivial
   |va T=>obtain⟨y,e1,v⟩:=x;exact⟨y,e1,v.hs hs⟩
   |own Ts=>obtain⟨b,xs,e1,e2,e3,z',p⟩:=x;exact⟨b,xs,e1,st _ _ (λy=>z (fr.ap i j a s _ e e' m rfl q (by rw[e1,y]))) e2,e3,z',p.hs hs⟩
   |dct kts=>obtain⟨b,kvs,e1,e2,e3,n',z',p⟩:=x;exact⟨b,kvs,e1,st _ _ (λy=>z (fr.ap i j a s _ e e' m rfl q (by rw[e1,y]))) e2,e3,n',z',p.hs hs⟩
   |dk=>exact x
 ·by_cases z1:i=j
  ·subst z1;rw[List.getElem?_set_self hi]at e1;cases e1;cases m1
  ·by_cases z2:i=k
   ·subst z2;rw[List.getElem?_set_self hi]at e2;cases e2;cases m2
   ·rw[List.getElem?_set_ne z1]at e1
    rw[List.getElem?_set_ne z2]at e2
    exact fr.ap j k b s' t' e1 e2 m1 m2 q1 q2
 ·by_cases z:i=j
  ·subst z;rw[List.getElem?_set_self hi]at e';cases e';cases m'
  ·rw[List.getElem?_set_ne z]at e';exact⟨s',e',m'⟩
theorem aA(i:Nat){x:Str}{pos:Pos}(hN:X.N[i]?=some x:=by rfl)(hv:Vis X.env.scope x:=by first|exact Or.inl rfl|exact Or.inr (Or.inl rfl)|exact Or.inr (Or.inr rfl))(hd:(x==("__debug__":Str))=false:=by decide)(hcd:(x==("__classdict__":Str))=false:=by decide):
  UE X F (.Name x pos) (fA i):=by
 refine⟨PE.imp (PE.fz (iN hN hv hd hcd)) ?_⟩
 rintro σ H QQ ⟨ρ,Q,fr,h,k⟩
 unfold fA at h
 split at h
 ·rename_i T e
  obtain⟨y,e1,v⟩:=fr.at_ i _ e
  exact⟨y,gR e1,.inl (k y T H ρ (Stp.refl fr) v h)⟩
 ·rename_i Ts e
  obtain⟨a,xs,e1,e2,e3,z,p⟩:=fr.at_ i _ e
  refine⟨_,gR e1,.inr ⟨a,_,rfl,e2,rfl,λob=>?_⟩⟩
  have v:VA X.K (upd H a (.frz ob (.lst xs))) (.ref a) (.seq false Ts):=VA.seq (t:=false) ⟨ob,bM⟩ z (p.hs (fU e2 rfl))
  exact k _ _ _ _ (fr.fzs e rfl e1 e2 rfl ob v) v h
 ·rename_i kts e
  obtain⟨a,kvs,e1,e2,e3,n,z,p⟩:=fr.at_ i _ e
  refine⟨_,gR e1,.inr ⟨a,_,rfl,e2,rfl,λob=>?_⟩⟩
  have v:VA X.K (upd H a (.frz ob (.dK kvs))) (.ref a) (.dct kts):=VA.dct ⟨ob,bM⟩ n z (p.hs (fU e2 rfl))
  exact k _ _ _ _ (fr.fzs e rfl e1 e2 rfl ob v) v h
 ·exact False.elim h
def uC(T:Tv):UT:=λρ Q=>Q T ρ
theorem qC{e:Expr}{v:V}(h:PE X e (tC v))(f:dE v=true):UE X F e (uC (.leaf v)):=⟨PE.imp h λσ H QQ ⟨ρ,Q,fr,h,k⟩=>k v (.leaf v) H ρ (Stp.refl fr) (.flat f) h⟩
theorem aC{i j pos}:UE X F (.Constant (.int i) j pos) (uC (iT i)):=qC cC rfl
theorem cD{b j pos}:UE X F (.Constant (.bool b) j pos) (uC (bT b)):=qC zHg rfl
theorem gV{j pos}:UE X F (.Constant .none j pos) (uC nT):=qC zGg rfl
theorem aT{x j pos}:UE X F (.Constant (.str x) j pos) (uC (sT x)):=qC zGc rfl
theorem zEI{x:Str}{v:V}{u:Value}{T:Tv}{pos:Pos}(hg:Gl X x)(hm:X.mg x=some u)(r:RelV v u)(hv:∀H,VA X.K H v T)(hd:(x==("__debug__":Str))=false:=by decide):UE X F (.Name x pos) (uC T):=
 ⟨PE.imp (zAz hg hm r hd) λσ H QQ ⟨ρ,Q,fr,h,k⟩=>k v T H ρ (Stp.refl fr) (hv H) h⟩
def rB(K:W.Frag)(r:P2)(r':R2):Prop:=∀x y T U H Q (QQ:VK),VA K H x T->VA K H y U->r T U Q->(∀z W H',Raw K H H' z W->Q W->QQ z H')->r' x y H QQ
def gM(X:Cx)(f:Value->Value->Sem Value)(r:P2):Prop:=∃r',OpR X f r'/\rB X.K r r'
def uOp(r:P2)(ua ub:UT):UT:=λρ Q=>ua ρ λa ρ1=>ub ρ1 λb ρ2=>r a b λc=>Q c ρ2
theorem tO{r:P2}{r':R2}{ua ub:UT}(hr:rB X.K r r')(σ:St)(H:Hp)(QQ:VK)(h:eF X.K F (uOp r ua ub) σ H QQ):tFz (tOp r' (eF X.K F ua) (eF X.K F ub)) σ H QQ:=by
 obtain⟨ρ,Q,fr,h,k⟩:=h
 refine⟨ρ,_,fr,h,λx T H1 ρ1 s1 v1 q1=>⟨ρ1,_,s1.fr,q1,λy U H2 ρ2 s2 v2 q2=>?_⟩⟩
 refine hr x y T U H2 _ _ (v1.hs (s2.hs s1.fr)) v2 q2 λz W H' rw q=>rw.fin s2.fr λH'' s3 v3=>k _ _ _ _ ((s1.trans s2).trans s3) v3 q
variable{a b c:Expr}{ua ub uc:UT}{pos:Pos}
theorem aR{op:Operator}{r:P2}(ho:gM X (binaryOp op) r)(ha:UE X F a ua)(hb:UE X F b ub):UE X F (.BinOp a op b pos) (uOp r ua ub):=by
 obtain⟨r',o,hr⟩:=ho
 exact⟨PE.imp (PE.fz (cJ o ha.pe hb.pe)) (tO hr)⟩
theorem cA{op:CmpOp}{r:P2}(ho:gM X (compareOp op) r)(ha:UE X F a ua)(hb:UE X F b ub)(hm:behindInMarks op b=false):UE X F (.Compare a [op] [b] pos) (uOp r ua ub):=by
 obtain⟨r',o,hr⟩:=ho
 exact⟨PE.imp (PE.fz (zE4 o ha.pe hb.pe hm)) (tO hr)⟩
def uB(u:UT):UTt:=λρ Q=>u ρ λT ρ'=>∃b,T=bT b/\Q b ρ'
theorem zBm{e:Expr}{t:TE}{u:UT}(h:PT X e (uM t))(i:∀σ H QQ,eF X.K F u σ H QQ->t σ H QQ):UB X F e (uB u):=⟨PT.imp h λσ H QQ ⟨ρ,Q,fr,h,k⟩=>by
 refine i σ H _ ⟨ρ,_,fr,h,λx T H' ρ' s v q=>?_⟩
 obtain⟨b,rfl,q⟩:=q
 obtain⟨e,_⟩:=v.leafI
 exact⟨b,e,k b H' ρ' s q⟩⟩
def PuR2f(K:W.Frag)(r:P2)(r':R2):Prop:=∀x y T U H Q (QQ:VK),VA K H x T->VA K H y U->r T U Q->(∀z W H',Same H H'->VA K H' z W->Q W->QQ z H')->r' x y H QQ
def PuCmp(X:Cx)(f:Value->Value->Sem Value)(r:P2):Prop:=∃r',OpR X f r'/\PuR2f X.K r r'
theorem PuR2f.raw{K:W.Frag}{r:P2}{r':R2}(h:PuR2f K r r'):rB K r r':=λx y T U H Q QQ vx vy q k=>h x y T U H Q QQ vx vy q λz W H' s v q'=>k z W H' ⟨s,.inl v⟩ q'
theorem PuCmp.op{f:Value->Value->Sem Value}{r:P2}(h:PuCmp X f r):gM X f r:=by
 obtain⟨r',o,h⟩:=h
 exact⟨r',o,h.raw⟩
theorem zEl{r:P2}{r':R2}{ua ub:UT}(hr:PuR2f X.K r r')(σ:St)(H:Hp)(QQ:VK)(h:eF X.K F (uOp r ua ub) σ H QQ):tOp r' (eF X.K F ua) (eF X.K F ub) σ H QQ:=by
 obtain⟨ρ,Q,fr,h,k⟩:=h
 refine⟨ρ,_,fr,h,λx T H1 ρ1 s1 v1 q1=>⟨ρ1,_,s1.fr,q1,λy U H2 ρ2 s2 v2 q2=>?_⟩⟩
 exact hr x y T U H2 _ _ (v1.hs (s2.hs s1.fr)) v2 q2 λz W H' s v q=>k _ _ _ _ ((s1.trans s2).trans (Stp.same s2.fr s)) v q
theorem aQ{op:CmpOp}{r:P2}(ho:PuCmp X (compareOp op) r)(ha:UE X F a ua)(hb:UE X F b ub)(hm:behindInMarks op b=false):UB X F (.Compare a [op] [b] pos) (uB (uOp r ua ub)):=by
 obtain⟨r',o,hr⟩:=ho
 exact zBm (tF o ha.pe hb.pe hm) (zEl hr)
def tZ(r r':P2)(ua ub uc:UT):UT:=λρ Q=>ua ρ λa ρ1=>ub ρ1 λb ρ2=>r a b λz=>∃k,z=bT k/\(if k=true then uc ρ2 λc ρ3=>r' b c λw=>Q w ρ3 else Q (bT false) ρ2)
theorem xJ{r r':P2}{s s':R2}(hr:PuR2f X.K r s)(hr':PuR2f X.K r' s')(σ:St)(H:Hp)(QQ:VK)(h:eF X.K F (tZ r r' ua ub uc) σ H QQ):uE s s' (eF X.K F ua) (eF X.K F ub) (eF X.K F uc) σ H QQ:=by
 obtain⟨ρ,Q,fr,h,k⟩:=h
 refine⟨ρ,_,fr,h,λx T H1 ρ1 s1 v1 q1=>⟨ρ1,_,s1.fr,q1,λy U H2 ρ2 s2 v2 q2=>?_⟩⟩
 refine hr x y T U H2 _ _ (v1.hs (s2.hs s1.fr)) v2 q2 λz W H3 ss v3 q3=>?_
 obtain⟨b,rfl,q3⟩:=q3
 obtain⟨e,_⟩:=v3.leafI
 have s3:=Stp.same s2.fr ss
 refine⟨b,e,?_⟩
 cases b with
 |false=>
  rw[if_neg Bool.false_ne_true]at q3 ⊢
  exact k _ _ _ _ ((s1.trans s2).trans s3) (.flat rfl) q3
 |true=>
  rw[if_pos rfl]at q3 ⊢
  refine⟨ρ2,_,s3.fr,q3,λz' W' H4 ρ4 s4 v4 q4=>?_⟩
  exact hr' y z' U W' H4 _ _ ((v2.hs (s3.hs s2.fr)).hs (s4.hs s3.fr)) v4 q4 λz5 W5 H5 s5 v5 q5=>k _ _ _ _ (((s1.trans s2).trans s3).trans (s4.trans (Stp.same s4.fr s5))) v5 q5
theorem sK{op op':CmpOp}{r r':P2}(ho:PuCmp X (compareOp op) r)(ho':PuCmp X (compareOp op') r')(ha:UE X F a ua)(hb:UE X F b ub)(hc:UE X F c uc)(hm:lastMarks [op,op'] [b,c]=false:=by with_unfolding_all rfl):
  UE X F (.Compare a [op,op'] [b,c] pos) (tZ r r' ua ub uc):=by
 obtain⟨s,o,hr⟩:=ho
 obtain⟨s',o',hr'⟩:=ho'
 exact⟨PE.imp (zEc o o' ha.pe hb.pe hc.pe hm) (xJ hr hr')⟩
theorem zB{op op':CmpOp}{r r':P2}(ho:PuCmp X (compareOp op) r)(ho':PuCmp X (compareOp op') r')(ha:UE X F a ua)(hb:UE X F b ub)(hc:UE X F c uc)(hm:lastMarks [op,op'] [b,c]=false:=by with_unfolding_all rfl):
  UB X F (.Compare a [op,op'] [b,c] pos) (uB (tZ r r' ua ub uc)):=by
 obtain⟨s,o,hr⟩:=ho
 obtain⟨s',o',hr'⟩:=ho'
 exact zBm (zD4 o o' ha.pe hb.pe hc.pe hm) (xJ hr hr')
def zBX(X:Cx)(f:Value->Sem Value)(r:P1):Prop:=∃r',UnR X f r'/\∀x T H Q (QQ:VK),VA X.K H x T->r T Q->(∀z W,VA X.K H z W->Q W->QQ z H)->r' x H QQ
def uUn(r:P1)(ua:UT):UT:=λρ Q=>ua ρ λa ρ1=>r a λc=>Q c ρ1
theorem mS{op:UnaryOp}{r:P1}(ho:zBX X (unaryOp op) r)(ha:UE X F a ua):UE X F (.UnaryOp op a pos) (uUn r ua):=by
 obtain⟨r',o,hr⟩:=ho
 refine⟨PE.imp (zBr o ha.pe) ?_⟩
 rintro σ H QQ ⟨ρ,Q,fr,h,k⟩
 exact⟨ρ,_,fr,h,λx T H1 ρ1 s1 v1 q1=>hr x T H1 _ _ v1 q1 λz W v q=>k _ _ _ _ s1 v q⟩
def zBP:P1
 |.leaf (.int i),Q=>Q (iT (-i))
 |_,_=>False
theorem mJ:zBX X (unaryOp .USub) zBP:=⟨_,zAT,λx T H Q QQ v h k=>by
 unfold zBP at h
 split at h
 ·obtain⟨rfl,_⟩:=v.leafI
  exact⟨_,rfl,k _ _ (.flat rfl) h⟩
 ·exact False.elim h⟩
def zGV(ua ub:UT):UT:=λρ Q=>ua ρ λa ρ1=>∃c,a=bT c/\if c=true then ub ρ1 Q else Q (bT false) ρ1
def zHC(ua ub:UT):UT:=λρ Q=>ua ρ λa ρ1=>∃c,a=bT c/\if c=true then Q (bT true) ρ1 else ub ρ1 Q
def zGT(ua:UT):UT:=λρ Q=>ua ρ λa ρ1=>∃c,a=bT c/\Q (bT (!c)) ρ1
theorem eV{op}{u:UT}(h:UE X F a u):UE X F (.BoolOp op [a] pos) u:=⟨zGe h.pe⟩
theorem eJ{rest:List Expr}(ha:UE X F a ua)(hb:UE X F (.BoolOp .And (b::rest) pos) ub):UE X F (.BoolOp .And (a::b::rest) pos) (zGV ua ub):=⟨PE.imp (zGj ha.pe hb.pe) λσ H QQ ⟨ρ,Q,fr,h,k⟩=>by
 refine⟨ρ,_,fr,h,λx T H1 ρ1 s1 v1 q1=>?_⟩
 obtain⟨c,rfl,q1⟩:=q1
 obtain⟨e,_⟩:=v1.leafI
 refine⟨c,e,?_⟩
 cases c with
 |false=>rw[if_neg Bool.false_ne_true]at q1 ⊢;exact k _ _ _ _ s1 (.flat rfl) q1
 |true=>rw[if_pos rfl]at q1 ⊢;exact⟨ρ1,_,s1.fr,q1,λy U H2 ρ2 s2 v2 q2=>k _ _ _ _ (s1.trans s2) v2 q2⟩⟩
theorem zGR{rest:List Expr}(ha:UE X F a ua)(hb:UE X F (.BoolOp .Or (b::rest) pos) ub):UE X F (.BoolOp .Or (a::b::rest) pos) (zHC ua ub):=⟨PE.imp (zHf ha.pe hb.pe) λσ H QQ ⟨ρ,Q,fr,h,k⟩=>by
 refine⟨ρ,_,fr,h,λx T H1 ρ1 s1 v1 q1=>?_⟩
 obtain⟨c,rfl,q1⟩:=q1
 obtain⟨e,_⟩:=v1.leafI
 refine⟨c,e,?_⟩
 cases c with
 |true=>rw[if_pos rfl]at q1 ⊢;exact k _ _ _ _ s1 (.flat rfl) q1
 |false=>rw[if_neg Bool.false_ne_true]at q1 ⊢;exact⟨ρ1,_,s1.fr,q1,λy U H2 ρ2 s2 v2 q2=>k _ _ _ _ (s1.trans s2) v2 q2⟩⟩
theorem zFD(ha:UE X F a ua):UE X F (.UnaryOp .Not a pos) (zGT ua):=⟨PE.imp (zGf ha.pe) λσ H QQ ⟨ρ,Q,fr,h,k⟩=>by
 refine⟨ρ,_,fr,h,λx T H1 ρ1 s1 v1 q1=>?_⟩
 obtain⟨c,rfl,q1⟩:=q1
 obtain⟨e,_⟩:=v1.leafI
 exact⟨c,e,k _ _ _ _ s1 (.flat rfl) q1⟩⟩
def uZ(t u:UTt):UTt:=λρ Q=>t ρ λc ρ1=>if c=true then u ρ1 Q else Q false ρ1
def uOr(t u:UTt):UTt:=λρ Q=>t ρ λc ρ1=>if c=true then Q true ρ1 else u ρ1 Q
def zHD(t:UTt):UTt:=λρ Q=>t ρ λc ρ1=>Q (!c) ρ1
variable{ta tb:UTt}{rest:List Expr}
theorem fH(ha:UB X F a ta):UW X F (.BoolOp .And [a] pos) ta:=⟨zEW ha.pt⟩
theorem eI(ha:UB X F a ta):UW X F (.BoolOp .Or [a] pos) ta:=⟨zF0 ha.pt⟩
theorem eR(ha:UB X F a ta)(hb:UW X F (.BoolOp .And (b::rest) pos) tb):UW X F (.BoolOp .And (a::b::rest) pos) (uZ ta tb):=⟨PW.imp (zF1 ha.pt hb.pw) λσ H QQ ⟨ρ,Q,fr,h,k⟩=>by
 refine⟨ρ,_,fr,h,λc H1 ρ1 s1 q1=>?_⟩
 cases c with
 |false=>rw[if_neg Bool.false_ne_true]at q1 ⊢;exact k _ _ _ s1 q1
 |true=>rw[if_pos rfl]at q1 ⊢;exact⟨ρ1,_,s1.fr,q1,λy H2 ρ2 s2 q2=>k _ _ _ (s1.trans s2) q2⟩⟩
theorem eD(ha:UB X F a ta)(hb:UW X F (.BoolOp .Or (b::rest) pos) tb):UW X F (.BoolOp .Or (a::b::rest) pos) (uOr ta tb):=⟨PW.imp (zHe ha.pt hb.pw) λσ H QQ ⟨ρ,Q,fr,h,k⟩=>by
 refine⟨ρ,_,fr,h,λc H1 ρ1 s1 q1=>?_⟩
 cases c with
 |true=>rw[if_pos rfl]at q1 ⊢;exact k _ _ _ s1 q1
 |false=>rw[if_neg Bool.false_ne_true]at q1 ⊢;exact⟨ρ1,_,s1.fr,q1,λy H2 ρ2 s2 q2=>k _ _ _ (s1.trans s2) q2⟩⟩
theorem cO{e:Expr}{t:UTt}(h:UW X F e t):UB X F e t:=⟨h.pw.pt⟩
theorem dG(ha:UB X F a ta):UB X F (.UnaryOp .Not a pos) (zHD ta):=⟨PT.imp (zF6 ha.pt) λσ H QQ ⟨ρ,Q,fr,h,k⟩=>⟨ρ,_,fr,h,λc H1 ρ1 s1 q1=>k _ _ _ s1 q1⟩⟩
theorem cM{e:Expr}{u:UT}(h:UE X F e u)(he:∀whole,isTrue e X.env whole=(do let v <- whole;standAt e.pos;holding [v] (truthy v)):=by intro _;rfl):UB X F e (uB u):=⟨PT.imp (zF5 h.pe he) λσ H QQ ⟨ρ,Q,fr,h,k⟩=>by
 refine⟨ρ,_,fr,h,λx T H' ρ' s v q=>?_⟩
 obtain⟨b,rfl,q⟩:=q
 obtain⟨e,_⟩:=v.leafI
 exact⟨b,e,k b H' ρ' s q⟩⟩
def uIf(t:UTt)(ua ub:UT):UT:=λρ Q=>t ρ λc ρ1=>if c=true then ua ρ1 Q else ub ρ1 Q
theorem sJ(hc:UB X F c ta)(ha:UE X F a ua)(hb:UE X F b ub):UE X F (.IfExp c a b pos) (uIf ta ua ub):=⟨PE.imp (zEb hc.pt ha.pe hb.pe) λσ H QQ ⟨ρ,Q,fr,h,k⟩=>by
 refine⟨ρ,_,fr,h,λc H1 ρ1 s1 q1=>?_⟩
 cases c with
 |true=>rw[if_pos rfl]at q1 ⊢;exact⟨ρ1,_,s1.fr,q1,λy U H2 ρ2 s2 v2 q2=>k _ _ _ _ (s1.trans s2) v2 q2⟩
 |false=>rw[if_neg Bool.false_ne_true]at q1 ⊢;exact⟨ρ1,_,s1.fr,q1,λy U H2 ρ2 s2 v2 q2=>k _ _ _ _ (s1.trans s2) v2 q2⟩⟩
def fL:UTa:=λρ Q=>Q [] ρ
def fW(u:UT)(t:UTa):UTa:=λρ Q=>u ρ λT ρ1=>t ρ1 λas ρ2=>Q (.va T::as) ρ2
def uDk(i:Nat)(t:UTa):UTa:=λρ Q=>ρ[i]?=some .dk/\t ρ λas ρ2=>Q (.dk::as) ρ2
theorem aD:UA X F [] fL:=⟨PA.imp eK λσ H QQ ⟨ρ,Q,fr,h,k⟩=>k [] [] H ρ (Stp.refl fr) .nil h⟩
theorem aB{e:Expr}{es:List Expr}{u:UT}{t:UTa}(ha:UE X F e u)(hr:UA X F es t)(h:eW e=false:=by rfl):UA X F (e::es) (fW u t):=⟨PA.imp (dN ha.pe hr.pa h) λσ H QQ ⟨ρ,Q,fr,h,k⟩=>by
 refine⟨ρ,_,fr,h,λx T H1 ρ1 s1 v1 q1=>⟨ρ1,_,s1.fr,q1,λxs as H2 ρ2 s2 p2 q2=>?_⟩⟩
 exact k _ _ _ _ (s1.trans s2) (.cons (b:=Ar.va T) (v1.hs (s2.hs s1.fr)) p2) q2⟩
theorem bD(i:Nat){x:Str}{pos:Pos}{es:List Expr}{t:UTa}(hr:UA X F es t)(hN:X.N[i]?=some x:=by rfl)(hv:Vis X.env.scope x:=by first|exact Or.inl rfl|exact Or.inr (Or.inl rfl)|exact Or.inr (Or.inr rfl))(hd:(x==("__debug__":Str))=false:=by decide)(hcd:(x==("__classdict__":Str))=false:=by decide):
  UA X F (.Name x pos::es) (uDk i t):=⟨PA.imp (dN (iN hN hv hd hcd) hr.pa rfl) λσ H QQ ⟨ρ,Q,fr,⟨e,h⟩,k⟩=>by
 obtain⟨p,c,ed,ex⟩:=fr.at_ i _ e
 refine⟨_,gR ex,ρ,_,fr,h,λxs as H2 ρ2 s2 p2 q2=>?_⟩
 exact k _ _ _ _ s2 (.cons (b:=Ar.dk) ⟨p,c,ed,rfl⟩ p2) q2⟩
def vsK:List Ar->(List Tv->Prop)->Prop
 |[],Q=>Q []
 |.va T::as,Q=>vsK as λTs=>Q (T::Ts)
 |.dk::_,_=>False
theorem gS:∀{as:List Ar}{Q:List Tv->Prop},vsK as Q->∃Ts,as=Ts.map Ar.va/\Q Ts
 |[],_,h=>⟨[],rfl,h⟩
 |.va T::as,Q,h=>by
  obtain⟨Ts,rfl,q⟩:=gS (as:=as) (Q:=λTs=>Q (T::Ts)) h
  exact⟨T::Ts,rfl,q⟩
 |.dk::_,_,h=>False.elim h
def uVs(ua:UTa):UTl:=λρ Q=>ua ρ λas ρ1=>vsK as λTs=>Q Ts ρ1
theorem gU{K:W.Frag}{dk:Option (Addr×Addr)}{H:Hp}:∀{xs:List V}{Ts:List Tv},Paired (rD K dk H) xs (Ts.map Ar.va)->VAs K H xs Ts
 |[],[],_=>.nil
 |_::_,_::_,.cons r t=>.cons r (gU t)
def qD(ua:UTa):UT:=λρ Q=>uVs ua ρ λTs ρ1=>Ts.length<=100000/\Q (.seq true Ts) ρ1
def zBC(ua:UTa):UTl:=λρ Q=>uVs ua ρ λTs ρ1=>Ts.length<=100000/\Q Ts ρ1
theorem fI{n:Nat}(h:n<=100000):n<=sizeLine:=by rw[sizeLine_eq];omega
theorem zAE{n:Nat}(h:n<100000):n<sizeLine:=by rw[sizeLine_eq];omega
theorem bI{es:List Expr}{t:UTa}{x1}(h:UA X F es t):UE X F (.Tuple es x1 pos) (qD t):=⟨PE.imp (zGb h.pa) λσ H QQ ⟨ρ,Q,fr,h,k⟩=>by
 refine⟨ρ,_,fr,h,λxs as H1 ρ1 s1 p1 q1=>?_⟩
 obtain⟨Ts,rfl,z,q⟩:=gS q1
 have p:=gU p1
 have l:xs.length=Ts.length:=Paired.length p
 refine⟨fI (by omega),λa n=>?_⟩
 have r:=Raw.tup (K:=X.K) n z p
 exact k _ _ _ _ (s1.trans (Stp.same s1.fr r.1)) (VA.seq (t:=true) (SqT.of bM) z (p.hs (jS n))) q⟩
theorem bU{es:List Expr}{t:UTa}(h:UA X F es t):UL X F (.List es pos) (zBC t):=⟨PE.imp (zBa h.pa) λσ H QQ ⟨ρ,Q,fr,h,k⟩=>by
 refine⟨ρ,_,fr,h,λxs as H1 ρ1 s1 p1 q1=>?_⟩
 obtain⟨Ts,rfl,z,q⟩:=gS q1
 have p:=gU p1
 have l:xs.length=Ts.length:=Paired.length p
 refine⟨fI (by omega),λa n=>?_⟩
 exact k _ _ _ _ _ (s1.trans (Stp.same s1.fr (dB n))) (s1.non n) bM z (p.hs (jS n)) q⟩
end
end L2
namespace L2
open PySem PySem.Spec PyProof.Rows WordM
theorem FrOk.fzn{K:W.Frag}{F:Fm}{ρ:aV}{σ:St}{H:Hp}{a:Addr}{o:HO}(fr:FrOk K F ρ σ H)(h:H a=some o)(n:fzb o=true)(h0:F.H0 a=none)(na:∀(i:Nat) (s:Sl),ρ[i]?=some s->dS s=true->ixv σ i≠some (.ref a))(o':HO):FrOk K F ρ σ (upd H a o'):=by
 have hd:=fr.fresh_nodk h0
 have hs:HS H (upd H a o'):=fU h (by cases o<;>first|rfl|exact absurd n Bool.false_ne_true)
 have st:∀b u,b≠a->H b=some u->upd H a o' b=some u:=λb u z e=>by rw[bL z];exact e
 refine⟨fr.d0,⟨λb u e1 n1=>st b u (λz=>by rw[z,h0]at e1;cases e1) (fr.kp.st b u e1 n1),λp c d=>?_⟩,fr.len,λj s' e'=>?_,fr.ap⟩
 ·obtain⟨ne,⟨S,k,e1⟩,ns,e2,l⟩:=fr.kp.dkk p c d
  exact⟨ne,⟨S,k,st _ _ (hd p c d).1.symm e1⟩,ns,st _ _ (hd p c d).2.symm e2,l⟩
 ·have x:=fr.at_ j s' e'
  cases s' with
  |no=>trivial
  |va T=>obtain⟨y,e1,v⟩:=x;exact⟨y,e1,v.hs hs⟩
  |own Ts=>obtain⟨b,xs,e1,e2,e3,z',p⟩:=x;exact⟨b,xs,e1,st _ _ (λy=>na j _ e' rfl (by rw[e1,y])) e2,e3,z',p.hs hs⟩
  |dct kts=>obtain⟨b,kvs,e1,e2,e3,n',z',p⟩:=x;exact⟨b,kvs,e1,st _ _ (λy=>na j _ e' rfl (by rw[e1,y])) e2,e3,n',z',p.hs hs⟩
  |dk=>exact x
theorem Stp.notown{K:W.Frag}{F:Fm}{ρ ρ1:aV}{σ:St}{H H1:Hp}{a:Addr}(s:Stp K F σ ρ H ρ1 H1)(fr:FrOk K F ρ σ H)(n:H a=none):∀(i:Nat) (s:Sl),ρ1[i]?=some s->dS s=true->ixv σ i≠some (.ref a):=λi s' e m q=>by
 obtain⟨s0,e0,m0⟩:=s.sub i s' e m
 obtain⟨⟨o,e1,_⟩,_⟩:=fr.own_at e0 m0 q
 rw[n]at e1;cases e1
theorem Stp.put{K:W.Frag}{F:Fm}{ρ ρ1:aV}{σ:St}{H H1:Hp}{a:Addr}{o:HO}(s:Stp K F σ ρ H ρ1 H1)(fr:FrOk K F ρ σ H)(n:H a=none)(e:H1 a=some o)(m:fzb o=true)(o':HO):Stp K F σ ρ H ρ1 (upd H1 a o'):=
 ⟨s.fr.fzn e m (fr.none0 n) (s.notown fr n) o',λb u q d n1=>by rw[bL (cU q n)];exact s.st b u q d n1,s.sub,λb u q=>by rw[bL (cU q n)];exact s.tr b u q⟩
section
variable{X:Cx}{F:Fm}{e:Expr}{pos:Pos}
def uL(u:UTl):UT:=λρ Q=>u ρ λTs ρ1=>Q (.seq false Ts) ρ1
theorem bA{u:UTl}(h:UL X F e u):UE X F e (uL u):=⟨PE.imp (PE.fz h.pe) λσ H QQ ⟨ρ,Q,fr,h,k⟩=>⟨ρ,_,fr,h,λa xs Ts H' ρ' s n e z p q=>
 .inr ⟨a,_,rfl,e,rfl,λob=>k _ _ _ _ (s.put fr n e rfl (.frz ob (.lst xs))) (VA.seq (t:=false) ⟨ob,bM⟩ z (p.hs (fU e rfl))) q⟩⟩⟩
def zBZ(K:W.Frag)(r:Pn)(r':List V->Hp->VK->Prop):Prop:=∀xs Ts H Q (QQ:VK),VAs K H xs Ts->r Ts Q->(∀z W H',Raw K H H' z W->Q W->QQ z H')->r' xs H QQ
def fV(X:Cx)(f:Value)(r:Pn):Prop:=∃r',CallR X f r'/\zBZ X.K r r'
def uCB(r:Pn)(ua:UTa):UT:=λρ Q=>uVs ua ρ λTs ρ1=>r Ts λW=>Q W ρ1
theorem zAG{r:Pn}{r':List V->Hp->VK->Prop}{ua:UTa}(hr:zBZ X.K r r')(σ:St)(H:Hp)(QQ:VK)(h:eF X.K F (uCB r ua) σ H QQ):tFz (tCB r' (pX X.K F ua)) σ H QQ:=by
 obtain⟨ρ,Q,fr,h,k⟩:=h
 refine⟨ρ,_,fr,h,λxs as H1 ρ1 s1 p1 q1=>?_⟩
 obtain⟨Ts,rfl,q⟩:=gS q1
 exact hr xs Ts H1 _ _ (gU p1) q λz W H' rw q=>rw.fin s1.fr λH'' s3 v3=>k _ _ _ _ (s1.trans s3) v3 q
variable{es:List Expr}{x:Str}{p:Pos}{ua:UTa}
theorem bK{id:String}{r:Pn}(hc:fV X (.builtin id) r)(hg:Gl X x)(hm:X.mg x=none)(hv:bootBuiltins x=some (.builtin id))(ha:UA X F (e::es) ua)(hn:x≠"__name__":=by decide)(hdb:(x==("__debug__":Str))=false:=by decide)
  (he:starEach (e::es) X.env=(false,eval e X.env)::starEach es X.env:=by rfl) (hpl:(backTo pos (starEach es X.env)).any (·.1)=false:=by rfl):UE X F (.Call (.Name x p) (e::es) [] pos) (uCB r ua):=by
 obtain⟨r',o,hr⟩:=hc
 exact⟨PE.imp (PE.fz (kG o hg hm hv ha.pa hn hdb he hpl)) (zAG hr)⟩
theorem gB{id:String}{r:Pn}(hc:fV X (.type id) r)(hg:Gl X x)(hm:X.mg x=none)(hv:bootBuiltins x=some (.type id))(ha:UA X F (e::es) ua)(hn:x≠"__name__":=by decide)(hdb:(x==("__debug__":Str))=false:=by decide)
  (he:starEach (e::es) X.env=(false,eval e X.env)::starEach es X.env:=by rfl) (hpl:(backTo pos (starEach es X.env)).any (·.1)=false:=by rfl):UE X F (.Call (.Name x p) (e::es) [] pos) (uCB r ua):=by
 obtain⟨r',o,hr⟩:=hc
 exact⟨PE.imp (PE.fz (jG o hg hm hv ha.pa hn hdb he hpl)) (zAG hr)⟩
def zB0(K:W.Frag)(r:List Tv->(List Tv->Prop)->Prop)(r':List V->Hp->VK->Prop):Prop:=∀xs Ts H Q (QQ:VK),VAs K H xs Ts->r Ts Q->(∀a ys Us H',Same H H'->H a=none->H' a=some (.lst ys)->Us.length<=100000->VAs K H' ys Us->Q Us->QQ (.ref a) H')->r' xs H QQ
def mE(X:Cx)(f:Value)(r:List Tv->(List Tv->Prop)->Prop):Prop:=∃r',CallR X f r'/\zB0 X.K r r'
def uCL(r:List Tv->(List Tv->Prop)->Prop)(ua:UTa):UTl:=λρ Q=>uVs ua ρ λTs ρ1=>r Ts λUs=>Q Us ρ1
theorem zAF{r:List Tv->(List Tv->Prop)->Prop}{r':List V->Hp->VK->Prop}{ua:UTa}(hr:zB0 X.K r r')(σ:St)(H:Hp)(QQ:VK)(h:pW X.K F (uCL r ua) σ H QQ):tCB r' (pX X.K F ua) σ H QQ:=by
 obtain⟨ρ,Q,fr,h,k⟩:=h
 refine⟨ρ,_,fr,h,λxs as H1 ρ1 s1 p1 q1=>?_⟩
 obtain⟨Ts,rfl,q⟩:=gS q1
 exact hr xs Ts H1 _ _ (gU p1) q λa ys Us H' sm n e z p q=>k _ _ _ _ _ (s1.trans (Stp.same s1.fr sm)) (s1.non n) e z p q
theorem lO{id:String}{r:List Tv->(List Tv->Prop)->Prop}(hc:mE X (.builtin id) r)(hg:Gl X x)(hm:X.mg x=none)(hv:bootBuiltins x=some (.builtin id))(ha:UA X F (e::es) ua)(hn:x≠"__name__":=by decide)(hdb:(x==("__debug__":Str))=false:=by decide)
  (he:starEach (e::es) X.env=(false,eval e X.env)::starEach es X.env:=by rfl) (hpl:(backTo pos (starEach es X.env)).any (·.1)=false:=by rfl):UL X F (.Call (.Name x p) (e::es) [] pos) (uCL r ua):=by
 obtain⟨r',o,hr⟩:=hc
 exact⟨PE.imp (kG o hg hm hv ha.pa hn hdb he hpl) (zAF hr)⟩
theorem jC{id:String}{r:List Tv->(List Tv->Prop)->Prop}(hc:mE X (.type id) r)(hg:Gl X x)(hm:X.mg x=none)(hv:bootBuiltins x=some (.type id))(ha:UA X F (e::es) ua)(hn:x≠"__name__":=by decide)(hdb:(x==("__debug__":Str))=false:=by decide)
  (he:starEach (e::es) X.env=(false,eval e X.env)::starEach es X.env:=by rfl) (hpl:(backTo pos (starEach es X.env)).any (·.1)=false:=by rfl):UL X F (.Call (.Name x p) (e::es) [] pos) (uCL r ua):=by
 obtain⟨r',o,hr⟩:=hc
 exact⟨PE.imp (jG o hg hm hv ha.pa hn hdb he hpl) (zAF hr)⟩
abbrev PSp:=List Ar->(Tv->Prop)->Prop
def uW(K:W.Frag)(psp:PSp):Sp:=λvs H Q _=>∃dk as R,(∀p c,dk=some (p,c)->DeckAt H p c)/\Paired (rD K dk H) vs as/\psp as R/\∀x T H',Kp dk H H'->VA K H' x T->R T->Q x H'
def aE(P:Program)(w:World)(K:W.Frag)(mg:Str->Option Value)(base:Heap)(k:Nat)(x:Str)(ps:List Str)(psp:PSp):Prop:=Good P w K mg base k x ps (uW K psp)
def pS(psp:PSp)(ua:UTa):UT:=λρ Q=>ua ρ λas ρ1=>psp as λW=>Q W ρ1
theorem zDx{psp:PSp}{ua:UTa}(σ:St)(H:Hp)(QQ:VK)(h:eF X.K F (pS psp ua) σ H QQ):mV (uW X.K psp) [] E0 (pX X.K F ua) σ H QQ:=by
 obtain⟨ρ,Q,fr,h,k⟩:=h
 refine⟨ρ,_,fr,h,λxs as H1 ρ1 s1 p1 q1=>?_⟩
 show uW X.K psp (xs++[]) H1 QQ E0
 rw[List.append_nil]
 exact⟨F.dk,as,_,s1.fr.kp.dkk,p1,q1,λz W H' kp v q=>k _ _ _ _ (s1.trans (Stp.call s1.fr kp)) v q⟩
theorem aK{k:Nat}{ps:List Str}{psp:PSp}(G:aE X.prog X.w X.K X.mg X.base k x ps psp)(hr:Room k X.A)(hg:Gl X x)(ha:UA X F (e::es) ua)(hdb:(x==("__debug__":Str))=false:=by decide)
  (hst:eW e=false:=by rfl) (hpl:(backTo pos (starEach es X.env)).any (·.1)=false:=by rfl):UE X F (.Call (.Name x p) (e::es) [] pos) (pS psp ua):=
 ⟨PE.imp (pU G hr hg ha.pa hdb hst hpl) zDx⟩
theorem tY{k:Nat}{ps:List Str}{psp:PSp}(G:aE X.prog X.w X.K X.mg X.base k x ps psp)(hr:Room k X.A)(hg:Gl X x)(hdb:(x==("__debug__":Str))=false:=by decide):UE X F (.Call (.Name x p) [] [] pos) (pS psp fL):=
 ⟨PE.imp (zGh G hr hg hdb) λσ H QQ ⟨ρ,Q,fr,h,k⟩=>⟨F.dk,[],_,fr.kp.dkk,.nil,h,λz W H' kp v q=>k _ _ _ _ (Stp.call fr kp) v q⟩⟩
def zB1(X:Cx)(r:P2):Prop:=∃r',IxR X r'/\rB X.K r r'
variable{a b:Expr}{va vb:UT}
theorem aG{r:P2}(ho:zB1 X r)(ha:UE X F a va)(hb:UE X F b vb)(hs:pH b:=by intro _ _;rfl):UE X F (.Subscript a b pos) (uOp r va vb):=by
 obtain⟨r',o,hr⟩:=ho
 exact⟨PE.imp (PE.fz (gJ o ha.pe hb.pe hs)) (tO hr)⟩
abbrev UTo:=aV->(Option Int->aV->Prop)->Prop
def zHp(K:W.Frag)(F:Fm)(u:UTo):TO:=λσ H QQ=>∃ρ Q,FrOk K F ρ σ H/\u ρ Q/\∀o H' ρ',Stp K F σ ρ H ρ' H'->Q o ρ'->QQ o H'
structure UO (X:Cx) (F:Fm) (e:Option Expr) (u:UTo):Prop where
 po:PO X e (zHp X.K F u)
theorem PO.imp{e:Option Expr}{t t':TO}(h:PO X e t)(i:∀σ H Q,t' σ H Q->t σ H Q):PO X e t':=λpins s σ H Q I q=>h pins s σ H Q I (i σ H Q q)
def uoN:UTo:=λρ Q=>Q none ρ
def uoS(u:UT):UTo:=λρ Q=>u ρ λT ρ1=>∃i,T=iT i/\Q (some i) ρ1
theorem dW:UO X F none uoN:=⟨PO.imp zAu λσ H QQ ⟨ρ,Q,fr,h,k⟩=>k _ _ _ (Stp.refl fr) h⟩
theorem dL{u:UT}(h:UE X F e u):UO X F (some e) (uoS u):=⟨PO.imp (zAt h.pe) λσ H QQ ⟨ρ,Q,fr,h,k⟩=>⟨ρ,_,fr,h,λx T H1 ρ1 s1 v1 q1=>by
 obtain⟨i,rfl,q⟩:=q1
 exact⟨i,v1.leafI.1,k _ _ _ s1 q⟩⟩⟩
abbrev PSl:=Tv->Option Int->Option Int->(Tv->Prop)->Prop
def zBY(X:Cx)(r:PSl):Prop:=∃r',SlR X r'/\∀x T lo hi H Q (QQ:VK),VA X.K H x T->r T lo hi Q->(∀z W H',Raw X.K H H' z W->Q W->QQ z H')->r' x lo hi H QQ
def uSl(r:PSl)(u:UT)(lo hi:UTo):UT:=λρ Q=>u ρ λT ρ1=>lo ρ1 λl ρ2=>hi ρ2 λh ρ3=>r T l h λW=>Q W ρ3
theorem dO{r:PSl}{lo hi:Option Expr}{ul uh:UTo}{p2:Pos}(ho:zBY X r)(ha:UE X F a va)(hl:UO X F lo ul)(hh:UO X F hi uh):UE X F (.Subscript a (.Slice lo hi none p2) pos) (uSl r va ul uh):=by
 obtain⟨r',o,hr⟩:=ho
 refine⟨PE.imp (PE.fz (zK o ha.pe hl.po hh.po)) ?_⟩
 rintro σ H QQ ⟨ρ,Q,fr,h,k⟩
 refine⟨ρ,_,fr,h,λx T H1 ρ1 s1 v1 q1=>⟨ρ1,_,s1.fr,q1,λl H2 ρ2 s2 q2=>⟨ρ2,_,s2.fr,q2,λu H3 ρ3 s3 q3=>?_⟩⟩⟩
 exact hr x T l u H3 _ _ ((v1.hs (s2.hs s1.fr)).hs (s3.hs s2.fr)) q3 λz W H' rw q=>rw.fin s3.fr λH'' s4 v4=>k _ _ _ _ ((s1.trans s2).trans (s3.trans s4)) v4 q
end
structure PEnds where
 nx:aV->Prop
 rt:Tv->Prop
 bk:aV->Prop:=λ_=>False
 ct:aV->Prop:=λ_=>False
abbrev UTs:=PEnds->aV->Prop
def kY(K:W.Frag)(F:Fm)(u:UTs):TS:=λD σ H=>∃ρ P,FrOk K F ρ σ H/\u P ρ/\(∀σ' H' ρ',FrOk K F ρ' σ' H'->HS H H'->P.nx ρ'->D.nx σ' H')/\(∀x T H',Kp F.dk F.H0 H'->VA K H' x T->P.rt T->D.rt x H') /\
 (∀σ' H' ρ',FrOk K F ρ' σ' H'->HS H H'->P.bk ρ'->D.bk σ' H')/\∀σ' H' ρ',FrOk K F ρ' σ' H'->HS H H'->P.ct ρ'->D.ct σ' H'
structure US (X:Cx) (F:Fm) (st:Stmt) (u:UTs):Prop where
 ps:PS X st (kY X.K F u)
structure USs (X:Cx) (F:Fm) (st:List Stmt) (u:UTs):Prop where
 ps:PSs X st (kY X.K F u)
theorem PS.imp{X:Cx}{st:Stmt}{t t':TS}(h:PS X st t)(i:∀D σ H,t' D σ H->t D σ H):PS X st t':=λpins s σ H D I q=>h pins s σ H D I (i D σ H q)
theorem PSs.imp{X:Cx}{st:List Stmt}{t t':TS}(h:PSs X st t)(i:∀D σ H,t' D σ H->t D σ H):PSs X st t':=λpins s σ H D I q=>h pins s σ H D I (i D σ H q)
section
variable{X:Cx}{F:Fm}{e:Expr}{pos:Pos}{st:Stmt}{rest:List Stmt}{u:UT}
def zBJ:UTs:=λP ρ=>P.nx ρ
def qH(s t:UTs):UTs:=λP ρ=>s {P with nx:=λρ'=>t P ρ'} ρ
theorem bB:USs X F [] zBJ:=⟨PSs.imp tK λD σ H ⟨ρ,P,fr,h,k1,_⟩=>k1 σ H ρ fr (HS.refl _) h⟩
theorem aJ{s:UTs}(h:US X F st s):USs X F [st] s:=⟨kO h.ps⟩
theorem aI{s t:UTs}(h:US X F st s)(hr:USs X F rest t):USs X F (st::rest) (qH s t):=⟨PSs.imp (gD h.ps hr.ps) λD σ H ⟨ρ,P,fr,h,k1,k2,k3,k4⟩=>by
 refine⟨ρ,_,fr,h,λσ' H' ρ' fr' hs q=>?_,k2,k3,k4⟩
 exact⟨ρ',P,fr',q,λσ2 H2 ρ2 f2 h2 q2=>k1 _ _ _ f2 (hs.trans h2) q2,k2,λσ2 H2 ρ2 f2 h2 q2=>k3 _ _ _ f2 (hs.trans h2) q2,λσ2 H2 ρ2 f2 h2 q2=>k4 _ _ _ f2 (hs.trans h2) q2⟩⟩
def qI(u:UT):UTs:=λP ρ=>u ρ λT _=>P.rt T
theorem aN(h:UE X F e u):US X F (.Return (some e) pos) (qI u):=⟨PS.imp (kR h.pe) λD σ H ⟨ρ,P,fr,h,_,k2,_⟩=>⟨ρ,_,fr,h,λx T H' ρ' s v q=>k2 x T H' s.fr.kp v q⟩⟩
def sIf(t:UTt)(s r:UTs):UTs:=λP ρ=>t ρ λb ρ1=>if b=true then s P ρ1 else r P ρ1
theorem aX{c:Expr}{a b:List Stmt}{t:UTt}{s r:UTs}(hc:UB X F c t)(ha:USs X F a s)(hb:USs X F b r):US X F (.If c a b pos) (sIf t s r):=⟨PS.imp (uT hc.pt ha.ps hb.ps) λD σ H ⟨ρ,P,fr,h,k1,k2,k3,k4⟩=>by
 refine⟨ρ,_,fr,h,λb H1 ρ1 s1 q1=>?_⟩
 have hs:=s1.hs fr
 have fin:∀{v:UTs},v P ρ1->kY X.K F v D σ H1:=λq=>⟨ρ1,P,s1.fr,q,λσ2 H2 ρ2 f2 h2 q2=>k1 _ _ _ f2 (hs.trans h2) q2,k2,λσ2 H2 ρ2 f2 h2 q2=>k3 _ _ _ f2 (hs.trans h2) q2,λσ2 H2 ρ2 f2 h2 q2=>k4 _ _ _ f2 (hs.trans h2) q2⟩
 cases b with
 |true=>exact bS (fin (by rw[if_pos rfl]at q1;exact q1))
 |false=>exact bJ (fin (by rw[if_neg Bool.false_ne_true]at q1;exact q1))⟩
def zBo(u:UT):UTs:=λP ρ=>u ρ λ_ ρ1=>P.nx ρ1
theorem gF(h:UE X F e u)(hs:swapsWith e none pos.line X.env=pure false:=by rfl):US X F (.Expr e pos) (zBo u):=⟨PS.imp (zAs h.pe hs) λD σ H ⟨ρ,P,fr,h,k1,_⟩=>⟨ρ,_,fr,h,λx T H' ρ' s v q=>k1 _ _ _ s.fr (s.hs fr) q⟩⟩
theorem FrOk.set{K:W.Frag}{ρ:aV}{σ:St}{H:Hp}{i:Nat}{s:Sl}{x:V}(fr:FrOk K F ρ σ H)(v:i<ρ.length->wF K F H (some x) s)(na:dS s=true->∀a,x=.ref a->∀(j:Nat) (t:Sl),ρ[j]?=some t->dS t=true->ixv σ j≠some (.ref a)):FrOk K F (ρ.set i s) (σ.set i (some x)) H:=by
 have ne:∀j,i≠j->ixv (σ.set i (some x)) j=ixv σ j:=λj z=>by unfold ixv;rw[List.getElem?_set_ne z]
 have self:∀(h:i<ρ.length),ixv (σ.set i (some x)) i=some x:=λh=>by unfold ixv;rw[List.getElem?_set_self (by rw[<-fr.len];exact h)];rfl
 have get:∀(j:Nat) (t:Sl),(ρ.set i s)[j]?=some t->(i=j/\i<ρ.length/\t=s)\/(i≠j/\ρ[j]?=some t):=λj t e=>by
  by_cases z:i=j
  ·subst z
   have hi:i<ρ.length:=by
    have:=(List.getElem?_eq_some_iff.mp e).1
    rwa[List.length_set]at this
   rw[List.getElem?_set_self hi]at e
   exact .inl ⟨rfl,hi,(Option.some.inj e).symm⟩
  ·rw[List.getElem?_set_ne z]at e;exact .inr ⟨z,e⟩
 refine⟨fr.d0,fr.kp,by rw[List.length_set,List.length_set];exact fr.len,λj t e=>?_,λj k a t t' e1 e2 m1 m2 q1 q2=>?_⟩
 ·rcases get j t e with⟨rfl,hi,rfl⟩|⟨z,e⟩
  ·rw[self hi];exact v hi
  ·rw[ne j z];exact fr.at_ j t e
 ·rcases get j t e1 with⟨rfl,hi,rfl⟩|⟨z1,e1⟩
  ·rcases get k t' e2 with⟨rfl,_,rfl⟩|⟨z2,e2⟩
   ·rfl
   ·rw[self hi]at q1
    rw[ne k z2]at q2
    exact absurd q2 (na m1 a (Option.some.inj q1) k t' e2 m2)
  ·rcases get k t' e2 with⟨rfl,hi,rfl⟩|⟨z2,e2⟩
   ·rw[self hi]at q2
    rw[ne j z1]at q1
    exact absurd q1 (na m2 a (Option.some.inj q2) j t (by first|exact e1|assumption) m1)
   ·rw[ne j z1]at q1
    rw[ne k z2]at q2
    exact fr.ap j k a t t' e1 e2 m1 m2 q1 q2
def zBI(i:Nat)(u:UT):UTs:=λP ρ=>u ρ λT ρ1=>P.nx (ρ1.set i (.va T))
theorem aZ{i:Nat}{x:Str}{pos':Pos}(hN:X.N.Nodup)(hi:X.N[i]?=some x)(hx:Loc X.env.scope x)(he:UE X F e u)(hs:swapsWith e (some (.Name x pos')) pos.line X.env=pure false:=by rfl)(hf:X.fn x=true\/X.env.scope.names.lookup x=some .local:=by first|exact .inl rfl|exact .inr rfl|assumption):
  US X F (.Assign [.Name x pos'] e pos) (zBI i u):=⟨PS.imp (jP hN hi hx he.pe hs hf) λD σ H ⟨ρ,P,fr,h,k1,_⟩=>by
 refine⟨ρ,_,fr,h,λx T H' ρ' s v q=>?_⟩
 exact k1 _ _ _ (s.fr.set (s:=.va T) (λ_=>⟨x,rfl,v⟩) (λz=>absurd z Bool.false_ne_true)) (s.hs fr) q⟩
def vA(i:Nat)(u:UTl):UTs:=λP ρ=>u ρ λTs ρ1=>P.nx (ρ1.set i (.own Ts))
theorem zU{i:Nat}{u:UTl}{t:TE}(ht:∀σ H QQ,pW X.K F u σ H QQ->t σ H QQ)(D:jZ)(σ:St)(H:Hp)(h:kY X.K F (vA i u) D σ H):qF t (pY i) D σ H:=by
 obtain⟨ρ,P,fr,h,k1,_⟩:=h
 refine ht σ H _ ⟨ρ,_,fr,h,λa xs Ts H' ρ' s n e z p q=>?_⟩
 exact k1 _ _ _ (s.fr.set (s:=.own Ts) (λ_=>⟨a,xs,rfl,e,fr.none0 n,z,p⟩) (λ_ b eb j t ej mj qj=>by cases eb;exact s.notown fr n j t ej mj qj)) (s.hs fr) q
theorem iI{i:Nat}{x:Str}{u:UTl}{pos':Pos}(hN:X.N.Nodup)(hi:X.N[i]?=some x)(hx:Loc X.env.scope x)(he:UL X F e u)(hs:swapsWith e (some (.Name x pos')) pos.line X.env=pure false:=by rfl)(hf:X.fn x=true\/X.env.scope.names.lookup x=some .local:=by first|exact .inl rfl|exact .inr rfl|assumption):
  US X F (.Assign [.Name x pos'] e pos) (vA i u):=⟨PS.imp (jP hN hi hx he.pe hs hf) (zU λ_ _ _ h=>h)⟩
end
def zIW:Ar->Sl
 |.va T=>.va T
 |.dk=>.dk
def kQ(n:Nat)(as:List Ar):aV:=as.map zIW++List.replicate (n-as.length) .no
theorem zEs{K:W.Frag}{H:Hp}{dk:Option (Addr×Addr)}{N:List Str}{vs:List V}{as:List Ar}(hd:∀p c,dk=some (p,c)->DeckAt H p c)(p:Paired (rD K dk H) vs as):FrOk K ⟨H,dk⟩ (kQ N.length as) (dP N vs) H:=by
 have l:vs.length=as.length:=Paired.length p
 refine⟨hd,⟨λ_ _ e _=>e,hd⟩,?_,λi s e=>?_,λi j a s t e _ m _ _ _=>?_⟩
 ·unfold kQ dP
  rw[List.length_append,List.length_append,List.length_map,List.length_map,List.length_replicate,List.length_replicate,l]
 ·unfold kQ at e
  by_cases hi:i<as.length
  ·rw[List.getElem?_append_left (by simpa using hi),List.getElem?_map]at e
   obtain⟨r,er,rfl⟩:=Option.map_eq_some_iff.mp e
   have hv:i<vs.length:=by omega
   obtain⟨r',er',h⟩:=fF p (List.getElem?_eq_getElem hv)
   rw[er]at er';cases er'
   have ex:ixv (dP N vs) i=some vs[i]:=by
    refine zGB ?_
    unfold dP
    rw[List.getElem?_append_left (by simpa using hv),List.getElem?_map,List.getElem?_eq_getElem hv]
    rfl
   rw[ex]
   cases r with
   |va T=>exact⟨_,rfl,h⟩
   |dk=>obtain⟨p,c,e1,e2⟩:=h;exact⟨p,c,e1,by rw[e2]⟩
  ·rw[List.getElem?_append_right (by simpa using hi),List.getElem?_replicate]at e
   split at e
   ·cases e;trivial
   ·cases e
 ·unfold kQ at e
  by_cases hi:i<as.length
  ·rw[List.getElem?_append_left (by simpa using hi),List.getElem?_map]at e
   obtain⟨r,er,rfl⟩:=Option.map_eq_some_iff.mp e
   cases r<;>cases m
  ·rw[List.getElem?_append_right (by simpa using hi),List.getElem?_replicate]at e
   split at e
   ·cases e;cases m
   ·cases e
theorem Has.pgood{P:Program}{w:World}{K:W.Frag}{mg:Str->Option Value}{base:Heap}{x:Str}{st:Stmt}{N ps:List Str}{k:Nat}{psp:PSp}{us:UTs}(h:Has K mg x st)(S:bG N ps (aL st))
  (hb:∀(kV doc pm:Value) (an:Option Addr) (cdv ct:Value) (us:List Value),us.length=ps.length->bindArgs (W.fnOf x x (gG st) (eQ st) (aL st) .none kV doc pm an cdv ct) ⟨us,[]⟩=pure (ps.zip us))
  (hbody:∀(f:Addr) (cdv:Value) (A:Around) (outer:List Env) (s:Shared) (H:Hp) (E:XK) (F:Fm),Room k (A.deeper (envOfC x (aL st) s.heap.objs.size f cdv))->USs (jA CX0 P w K mg base N x (aL st) f cdv A outer s H E).nox F (eQ st) us)
  (hp:∀as R,psp as R->as.length=ps.length/\us {nx:=λ_=>R nT,rt:=R} (kQ N.length as)):aE P w K mg base (k+1) x ps psp:=by
 refine h.good S hb (λvs H Q E q=>?_) (λf cdv A outer s H vs Q E hr q=>?_)
 ·obtain⟨dk,as,R,d,p,q,_⟩:=q
  rw[Paired.length p]
  exact(hp as R q).1
 ·obtain⟨dk,as,R,d,p,q,k⟩:=q
  refine⟨_,(hbody f cdv A outer s H E ⟨H,dk⟩ hr).ps,kQ N.length as,_,zEs d p,(hp as R q).2,λσ' H' ρ' fr _ q=>k _ _ _ fr.kp (.flat rfl) q,λx T H' kp v q=>k x T H' kp v q,λ_ _ _ _ _ z=>z,λ_ _ _ _ _ z=>z⟩
end L2
namespace L2
open PySem PySem.Spec PyProof.Rows WordM
def jY(K:W.Frag)(J:It)(H:Hp)(Ts:List Tv):Prop:=∀H1,HS H H1->(∀i,i<Ts.length->J.go i H1)/\(∀i x H2,i<Ts.length->J.yld i H1 x H2->Same H1 H2/\∃T,Ts[i]?=some T/\VA K H2 x T)/\J.stop Ts.length H1
def zBv(K:W.Frag)(F:Fm)(u:UTl):TI:=λσ H R=>∃ρ Q,FrOk K F ρ σ H/\u ρ Q/\∀J Ts H' ρ',Stp K F σ ρ H ρ' H'->jY K J H' Ts->Q Ts ρ'->R J H'
structure UI (X:Cx) (F:Fm) (tg e:Expr) (u:UTl):Prop where
 pi:PI X tg e (zBv X.K F u)
theorem PI.imp{X:Cx}{tg e:Expr}{t t':TI}(h:PI X tg e t)(i:∀σ H Q,t' σ H Q->t σ H Q):PI X tg e t':=λpins s σ H Q I q=>h pins s σ H Q I (i σ H Q q)
def ItR(X:Cx)(tg:Expr)(r:V->Hp->(It->Hp->Prop)->Prop):Prop:=∀(pins:List (Addr×Obj)) (s:Shared) (σ:St) (H:Hp) (x:V) (v:Value) (R:It->Hp->Prop),Inv X pins σ H s->RelV x v->r x H R->wpAny (model X.prog X.w) X.A (pyIter v) (PIE X pins σ tg R) X.xe s
section
variable{X:Cx}{F:Fm}{tg e:Expr}
theorem ItR.or{r r':V->Hp->(It->Hp->Prop)->Prop}(h:ItR X tg r)(h':ItR X tg r'):ItR X tg (λx H R=>r x H R\/r' x H R):=λpins s σ H x v R I rx q=>by
 rcases q with q|q
 ·exact h pins s σ H x v R I rx q
 ·exact h' pins s σ H x v R I rx q
theorem mQ{pins:List (Addr×Obj)}{σ:St}{H:Hp}{s:Shared}(I:Inv X pins σ H s):∀b∈[s.heap.objs.size],eO X pins H b:=λb hb=>by
 rw[List.mem_singleton.mp hb]
 exact I.fpOk (Nat.le_refl _) (I.hok.fresh (Nat.le_refl _))
theorem it_list:ItR X tg (λx H R=>∃a xs,x=.ref a/\SqL X.K H a xs/\R (Itl X.K a) H):=by
 rintro pins s σ H _ v R I r ⟨a,xs,rfl,hq,q⟩
 cases r
 obtain⟨its,rv,p,hz⟩:=I.list hq
 exact wpAny_pyIter_list p.isList ⟨_,[s.heap.objs.size],_,_,H,rfl,I.kept (t':=s.toks) λb o=>Heap.get?_push_of_some _,zDb a _,⟨_,Heap.get?_push_size _ rfl,rfl,rfl⟩,mQ I,q⟩
theorem it_tup:ItR X tg (λx H R=>∃a xs,x=.ref a/\SqT X.K H a xs/\R (Itt X.K a) H):=by
 rintro pins s σ H _ v R I r ⟨a,xs,rfl,hq,q⟩
 cases r
 obtain⟨its,rv,p,hz⟩:=I.tuple hq
 exact wpAny_pyIter_tuple (show s.heap.IsTuple a its.toArray from p) ⟨_,[s.heap.objs.size],_,_,H,rfl,I.kept (t':=s.toks) λb o=>Heap.get?_push_of_some _,zCF a _,⟨_,Heap.get?_push_size _ rfl,rfl,rfl⟩,mQ I,q⟩
theorem it_str:ItR X tg (λx H R=>∃z,x=.str z/\R (Its z) H):=by
 rintro pins s σ H _ v R I r ⟨z,rfl,q⟩
 obtain⟨t,rfl⟩:=r
 cases ha:z.cps.all (· < 128) with
 |true=>exact wpAny_pyIter_ascii ha ⟨_,[s.heap.objs.size],_,_,H,rfl,I.kept (t':=s.toks) λb o=>Heap.get?_push_of_some _,zDa _ z t,⟨_,Heap.get?_push_size _ rfl,rfl,rfl⟩,mQ I,q⟩
 |false=>exact wpAny_pyIter_wide ha ⟨_,[s.heap.objs.size],_,_,H,rfl,I.kept (t':=s.toks) λb o=>Heap.get?_push_of_some _,zC9 _ z t,⟨_,Heap.get?_push_size _ rfl,rfl,rfl⟩,mQ I,q⟩
theorem zFl:ItR X tg (λx H R=>∃a ob kvs,x=.ref a/\FzD H a ob kvs/\R (ItD a ob kvs) H):=by
 rintro pins s σ H _ v R I r ⟨a,ob,kvs,rfl,hz,q⟩
 cases r
 obtain⟨e,hs,hl,vs,es,ep,r,dd,hd⟩:=pE I hz
 exact wpAny_pyIter_dict hs dd ⟨_,[s.heap.objs.size],_,_,H,rfl,I.kept (t':=s.toks) λb o=>Heap.get?_push_of_some _,zDd (a:=a) (ob:=ob) (kvs:=kvs) hd,⟨_,Heap.get?_push_size _ rfl,rfl,by rw[<-mP r];rfl⟩,mQ I,q⟩
def pIt:Tv->(List Tv->Prop)->Prop
 |.seq _ Ts,Q=>Q Ts
 |.leaf (.str z),Q=>Q (z.cps.toList.map λc=>sT ⟨#[c]⟩)
 |.dct kts,Q=>Q (kts.map λkt=>sT kt.1)
 |_,_=>False
theorem cI{K:W.Frag}{H:Hp}{a:Addr}{xs:List V}(h:PSeq K H false a xs):SqL K H a xs:=by
 obtain⟨ob,h⟩:=h
 exact .inl (.inr ⟨ob,h⟩)
theorem zFm{K:W.Frag}{H:Hp}{a:Addr}{xs:List V}{Ts:List Tv}(h:PSeq K H false a xs)(p:VAs K H xs Ts):jY K (Itl K a) H Ts:=λH1 hs=>by
 have l:xs.length=Ts.length:=Paired.length p
 have q:=cI (h.hs hs)
 refine⟨λi hi=>⟨xs,xs[i]'(by omega),q,List.getElem?_eq_getElem _⟩,λi x H2 hi ⟨e,y⟩=>?_,⟨xs,q,by omega⟩⟩
 subst e
 obtain⟨T,eT,v⟩:=fF (p.hs hs) (y xs q)
 exact⟨Same.refl _,T,eT,v⟩
theorem zGD{K:W.Frag}{H:Hp}{a:Addr}{xs:List V}{Ts:List Tv}(h:PSeq K H true a xs)(p:VAs K H xs Ts):jY K (Itt K a) H Ts:=λH1 hs=>by
 have l:xs.length=Ts.length:=Paired.length p
 have q:SqT K H1 a xs:=h.hs hs
 refine⟨λi hi=>⟨xs,xs[i]'(by omega),q,List.getElem?_eq_getElem _⟩,λi x H2 hi ⟨e,y⟩=>?_,⟨xs,q,by omega⟩⟩
 subst e
 obtain⟨T,eT,v⟩:=fF (p.hs hs) (y xs q)
 exact⟨Same.refl _,T,eT,v⟩
theorem zGE{K:W.Frag}{H:Hp}{z:Str}:jY K (Its z) H (z.cps.toList.map λc=>sT ⟨#[c]⟩):=λH1 hs=>by
 refine⟨λi hi=>(show i<z.cps.size by simpa using hi),λi x H2 hi ⟨e,c,ec,ex⟩=>?_,by simp[Its]⟩
 subst e ex
 refine⟨Same.refl _,sT ⟨#[c]⟩,?_,.flat rfl⟩
 rw[List.getElem?_map,Array.getElem?_toList,ec]
 rfl
theorem zFo{K:W.Frag}{H:Hp}{a:Addr}{ob:Obj}{kvs:List (Key×V)}{kts:List (Str×Tv)}(h:FzD H a ob kvs)(p:VAk K H kvs kts):jY K (ItD a ob kvs) H (kts.map λkt=>sT kt.1):=λH1 hs=>by
 have l:kvs.length=kts.length:=Paired.length p
 have q:FzD H1 a ob kvs:=hs _ _ rfl h
 refine⟨λi hi=>⟨q,by rw[List.length_map]at hi;omega⟩,λi x H2 hi ⟨e,k,v,ek,ex⟩=>?_,⟨q,by rw[List.length_map];omega⟩⟩
 subst e ex
 obtain⟨kt,ekt,e1,_⟩:=fF p ek
 refine⟨Same.refl _,sT kt.1,by rw[List.getElem?_map,ekt];rfl,?_⟩
 have e1:k=.inr kt.1:=e1
 rw[e1]
 exact .flat rfl
def uIt(u:UT):UTl:=λρ Q=>u ρ λT ρ1=>pIt T λTs=>Q Ts ρ1
theorem bO{u:UT}(h:UE X F e u):UI X F tg e (uIt u):=⟨λpins s σ H R I ⟨ρ,Q,fr,hu,k⟩=>by
 have IT:ItR X tg _:=it_list.or (it_tup.or (it_str.or zFl))
 refine thn (h.pe pins s σ H (λx H1=>_) I ⟨ρ,_,fr,hu,λx T H' ρ' s v q=>?_⟩) λv s1 ⟨x,H1,I1,r1,q1⟩=>IT pins s1 σ H1 x v R I1 r1 q1
 unfold pIt at q
 split at q
 ·rename_i t Ts
  obtain⟨a,xs,rfl,hs,z,p⟩:=v.seqI
  cases t with
  |false=>exact .inl ⟨a,xs,rfl,cI hs,k _ _ _ _ s (zFm hs p) q⟩
  |true=>exact .inr (.inl ⟨a,xs,rfl,hs,k _ _ _ _ s (zGD hs p) q⟩)
 ·obtain⟨rfl,_⟩:=v.leafI
  exact .inr (.inr (.inl ⟨_,rfl,k _ _ _ _ s zGE q⟩))
 ·obtain⟨a,kvs,rfl,⟨ob,hd⟩,n,z,p⟩:=v.dctI
  exact .inr (.inr (.inr ⟨a,ob,kvs,rfl,hd,k _ _ _ _ s (zFo hd p) q⟩))
 ·exact False.elim q⟩
def fD(lo:Int)(n:Nat):List Tv:=(List.range n).map λ(i:Nat)=>iT (lo+i)
theorem fR(lo:Int)(n:Nat):(fD lo n).length=n:=by simp[fD]
theorem jL{lo:Int}{n i:Nat}{T:Tv}(h:(fD lo n)[i]?=some T):i<n/\T=iT (lo+i):=by
 have l:=(List.getElem?_eq_some_iff.mp h).1
 rw[fR]at l
 refine⟨l,?_⟩
 simp only[fD,List.getElem?_map,List.getElem?_range l]at h
 exact(Option.some.inj h).symm
theorem zEn{K:W.Frag}{H:Hp}{lo:Int}{n:Nat}:jY K (Itr lo n) H (fD lo n):=λH1 hs=>by
 have l:(fD lo n).length=n:=by simp[fD]
 refine⟨λi hi=>by rw[l]at hi;exact hi,λi x H2 hi ⟨e,ex⟩=>?_,by rw[l];exact Nat.le_refl _⟩
 subst e ex
 rw[l]at hi
 exact⟨Same.refl _,iT (lo+i),by simp[fD,hi],.flat rfl⟩
def zGS(ua:UTa):UTl:=λρ Q=>uVs ua ρ λTs ρ1=>∃j:Int,Ts=[iT j] /\ -(2 ^ 62)<=j/\j<2 ^ 62/\Q (fD 0 j.toNat) ρ1
theorem gO{a:Expr}{ua:UTa}{p pos:Pos}(hg:Gl X "range")(hm:X.mg "range"=none)(ha:UA X F [a] ua)(hs:starEach [a] X.env=[(false,eval a X.env)]:=by rfl):UI X F tg (.Call (.Name "range" p) [a] [] pos) (zGS ua):=⟨PI.imp (zDq hg hm ha.pa hs) λσ H R ⟨ρ,Q,fr,hu,k⟩=>by
 refine⟨ρ,_,fr,hu,λxs as H1 ρ1 s1 p1 q1=>?_⟩
 obtain⟨Ts,rfl,j,rfl,h1,h2,q⟩:=gS q1
 cases gU p1 with
 |cons v t=>
  cases t
  obtain⟨rfl,_⟩:=v.leafI
  exact⟨j,rfl,h1,h2,k _ _ _ _ s1 zEn q⟩⟩
theorem zFn{K:W.Frag}{H:Hp}{a:Addr}{xs:List V}{Ts:List Tv}(h:PSeq K H false a xs)(p:VAs K H xs Ts):jY K (ItE K a) H (Ts.mapIdx λi T=>.seq true [iT (i:Nat),T]):=λH1 hs=>by
 have l:xs.length=Ts.length:=Paired.length p
 have q:=cI (h.hs hs)
 refine⟨λi hi=>⟨xs,xs[i]'(by simpa[l]using hi),q,List.getElem?_eq_getElem _⟩,λi x H2 hi ⟨b,y,ex,nb,e,hy⟩=>?_,⟨xs,q,by simp[l]⟩⟩
 subst e ex
 obtain⟨T,eT,v⟩:=fF (p.hs hs) (hy xs q)
 refine⟨dB nb,.seq true [iT (i:Nat),T],by rw[List.getElem?_mapIdx,eT];rfl,VA.seq (t:=true) (SqT.of bM) (show 2<=100000 by decide) (.cons (.flat rfl) (.cons (v.hs (jS nb)) .nil))⟩
def zGU(ua:UTa):UTl:=λρ Q=>uVs ua ρ λTs ρ1=>∃Us,Ts=[.seq false Us]/\Q (Us.mapIdx λi T=>.seq true [iT (i:Nat),T]) ρ1
theorem zEH{a:Expr}{ua:UTa}{es:List Expr}{ek:Nat}{p pos pos':Pos}(hg:Gl X "enumerate")(hm:X.mg "enumerate"=none)(ha:UA X F [a] ua)(hs:starEach [a] X.env=[(false,eval a X.env)]:=by rfl):UI X F (.Tuple es ek pos') (.Call (.Name "enumerate" p) [a] [] pos) (zGU ua):=⟨PI.imp (zE0 hg hm ha.pa hs) λσ H R ⟨ρ,Q,fr,hu,k⟩=>by
 refine⟨ρ,_,fr,hu,λxs as H1 ρ1 s1 p1 q1=>?_⟩
 obtain⟨Ts,rfl,Us,rfl,q⟩:=gS q1
 cases gU p1 with
 |cons v t=>
  cases t
  obtain⟨a,xs,rfl,hq,z,p⟩:=v.seqI
  exact⟨a,rfl,⟨xs,cI hq⟩,k _ _ _ _ s1 (zFn hq p) q⟩⟩
end
abbrev UG:=Tv->aV->(aV->Prop)->Prop
abbrev UGs:=List Tv->aV->(aV->Prop)->Prop
def zBw(K:W.Frag)(F:Fm)(m:Nat)(g:UG):TG:=λv σ H QQ=>∃T ρ Q,VA K H v T/\FrOk K F ρ σ H/\g T ρ Q/\∀σ' ρ',FrOk K F ρ' σ' H->σ'.length=σ.length->σ'.drop m=σ.drop m->ρ'.drop m=ρ.drop m->Sbv ρ' ρ->Q ρ'->QQ σ' H
def zGv(K:W.Frag)(F:Fm)(m:Nat)(g:UGs):TGs:=λvs σ H QQ=>∃Ts ρ Q,VAs K H vs Ts/\FrOk K F ρ σ H/\g Ts ρ Q/\∀σ' ρ',FrOk K F ρ' σ' H->σ'.length=σ.length->σ'.drop m=σ.drop m->ρ'.drop m=ρ.drop m->Sbv ρ' ρ->Q ρ'->QQ σ' H
structure UGt (X:Cx) (F:Fm) (m:Nat) (tg:Expr) (g:UG):Prop where
 pg:PG X tg (zBw X.K F m g)
structure qY (X:Cx) (F:Fm) (m:Nat) (tgs:List Expr) (g:UGs):Prop where
 pg:PGs X tgs (zGv X.K F m g)
theorem PG.imp{X:Cx}{tg:Expr}{t t':TG}(h:PG X tg t)(i:∀v σ H Q,t' v σ H Q->t v σ H Q):PG X tg t':=λpins s σ H v u Q I r q=>h pins s σ H v u Q I r (i v σ H Q q)
theorem PGs.imp{X:Cx}{tg:List Expr}{t t':TGs}(h:PGs X tg t)(i:∀v σ H Q,t' v σ H Q->t v σ H Q):PGs X tg t':=λpins s σ H v u Q I r q=>h pins s σ H v u Q I r (i v σ H Q q)
section
variable{X:Cx}{F:Fm}{pos:Pos}{m:Nat}
def gN(i:Nat):UG:=λT ρ Q=>Q (ρ.set i (.va T))
theorem drop_set{α:Type}{l:List α}{i m:Nat}{x:α}(h:i<m):(l.set i x).drop m=l.drop m:=by
 rw[List.drop_set,if_pos h]
theorem zER{ρ:aV}{i:Nat}{T:Tv}:Sbv (ρ.set i (.va T)) ρ:=λj s e mm=>by
 by_cases z:i=j
 ·subst z
  have hi:i<ρ.length:=by
   have:=(List.getElem?_eq_some_iff.mp e).1
   rwa[List.length_set]at this
  rw[List.getElem?_set_self hi]at e
  cases e;cases mm
 ·rw[List.getElem?_set_ne z]at e;exact⟨s,e,mm⟩
theorem bF(i:Nat){x:Str}(hm:i<m)(hN:X.N.Nodup)(hi:X.N[i]?=some x)(hx:Loc X.env.scope x)(hf:X.fn x=true\/X.env.scope.names.lookup x=some .local:=by first|exact .inl rfl|exact .inr rfl|assumption):UGt X F m (.Name x pos) (gN i):=⟨PG.imp (zE2 hN hi hx hf) λv σ H QQ ⟨T,ρ,Q,vv,fr,h,k⟩=>
 k _ _ (fr.set (s:=.va T) (λ_=>⟨v,rfl,vv⟩) (λz=>absurd z Bool.false_ne_true)) List.length_set (drop_set hm) (drop_set hm) zER h⟩
def gT(n:Nat)(g:UGs):UG:=λT ρ Q=>∃Ts,T=.seq true Ts/\Ts.length=n/\g Ts ρ Q
def gNl:UGs:=λTs ρ Q=>Ts=[]/\Q ρ
def gCn(g:UG)(gs:UGs):UGs:=λTs ρ Q=>∃T r,Ts=T::r/\g T ρ λρ1=>gs r ρ1 Q
theorem pA:qY X F m [] gNl:=⟨PGs.imp zE1 λvs σ H QQ ⟨Ts,ρ,Q,vv,fr,⟨e,h⟩,k⟩=>by
 subst e
 cases vv
 exact⟨rfl,k _ _ fr rfl rfl rfl (Sbv.refl _) h⟩⟩
theorem fQ{e:Expr}{es:List Expr}{g:UG}{gs:UGs}(h1:UGt X F m e g)(h2:qY X F m es gs)(hs:(assignEach (e::es) X.env).map (·.2)=assign e X.env::(assignEach es X.env).map (·.2):=by rfl):qY X F m (e::es) (gCn g gs):=⟨PGs.imp (zD9 h1.pg h2.pg hs) λvs σ H QQ ⟨Ts,ρ,Q,vv,fr,⟨T,r,e,h⟩,k⟩=>by
 subst e
 cases vv with
 |cons v vs'=>
  refine⟨_,_,rfl,T,ρ,_,v,fr,h,λσ' ρ' f' l d dr sb q=>⟨r,ρ',Q,vs',f',q,λσ2 ρ2 f2 l2 d2 dr2 sb2 q2=>?_⟩⟩
  exact k _ _ f2 (l2.trans l) (d2.trans d) (dr2.trans dr) (sb.trans sb2) q2⟩
theorem pI{es:List Expr}{k:Nat}{g:UGs}(n:Nat)(hc:X.calm=true)(h:qY X F m es g)(hn:(assignEach es X.env).length=n:=by rfl)(hst:(assignEach es X.env).findIdx? (·.1)=none:=by rfl):UGt X F m (.Tuple es k pos) (gT n g):=⟨PG.imp (zF8 hc h.pg hn hst) λv σ H QQ ⟨T,ρ,Q,vv,fr,⟨Ts,e,el,h⟩,k⟩=>by
 subst e
 obtain⟨a,xs,rfl,hq,z,p⟩:=vv.seqI
 exact⟨a,xs,rfl,hq,(Paired.length p).trans el,Ts,ρ,Q,p,fr,h,k⟩⟩
end
def blk(own:Nat)(fr:List Nat)(ρ:aV):aV:=List.replicate own .no++fr.map λi=>ρ.getD i .no
def lW:List Nat->List Sl->aV->aV
 |i::fr,s::ss,ρ=>lW fr ss (ρ.set i s)
 |_,_,ρ=>ρ
def bck(own:Nat)(fr:List Nat)(ρ ρ':aV):aV:=lW fr (ρ'.drop own) ρ
def eZ(own:Nat)(fr:List Nat)(g:UG)(tf:UTt)(ue:UT):List Tv->aV->(List Tv->aV->Prop)->Prop
 |[],ρ,Q=>Q [] ρ
 |T::Ts,ρ,Q=>g T (blk own fr ρ) λρ1=>tf ρ1 λb ρ2=>if b=true then ue ρ2 λU ρ3=>eZ own fr g tf ue Ts (bck own fr ρ ρ3) λUs ρ4=>Q (U::Us) ρ4 else eZ own fr g tf ue Ts (bck own fr ρ ρ2) Q
def pR(own:Nat)(fr:List Nat)(ui:UTl)(g:UG)(tf:UTt)(ue:UT):UTl:=λρ Q=>ui ρ λTs ρ1=>Ts.length<=100000/\eZ own fr g tf ue Ts ρ1 Q
theorem wW:∀(fr:List Nat) (ss:List Sl) (ρ:aV),(lW fr ss ρ).length=ρ.length
 |[],_,_=>rfl
 |_::_,[],_=>rfl
 |i::fr,s::ss,ρ=>by show(lW fr ss _).length=_;rw[wW fr ss,List.length_set]
theorem rH:∀(fr:List Nat) (ss:List Sl) (ρ:aV) (i:Nat) (s:Sl),fr.length<=ss.length->(lW fr ss ρ)[i]?=some s->(∃j:Nat,fr[j]?=some i/\ss[j]?=some s)\/(i∉fr/\ρ[i]?=some s)
 |[],_,_,i,s,_,h=>.inr ⟨by simp,h⟩
 |_::_,[],_,_,_,l,_=>by simp at l
 |i0::fr,s0::ss,ρ,i,s,l,h=>by
  rcases rH fr ss (ρ.set i0 s0) i s (by simpa using l) h with⟨j,e1,e2⟩|⟨n,e⟩
  ·exact .inl ⟨j+1,by simpa using e1,by simpa using e2⟩
  ·by_cases z:i0=i
   ·subst z
    have hi:i0<ρ.length:=by
     have:=(List.getElem?_eq_some_iff.mp e).1
     rwa[List.length_set]at this
    rw[List.getElem?_set_self hi]at e
    exact .inl ⟨0,rfl,by simpa using e⟩
   ·rw[List.getElem?_set_ne z]at e
    exact .inr ⟨by simp[n,Ne.symm z],e⟩
theorem oK{own:Nat}{fr:List Nat}{σ ow:St}(ho:ow.length=own){j i:Nat}(h:fr[j]?=some i):ixv (ow++σf fr σ) (own+j)=ixv σ i:=by
 unfold ixv σf
 rw[List.getElem?_append_right (by omega),show own+j-ow.length=j by omega,List.getElem?_map,h]
 show(some (σ.getD i none)).join=_
 rw[List.getD_eq_getElem?_getD]
 cases σ[i]? with
 |none=>rfl
 |some o=>rfl
section
variable{K:W.Frag}{F:Fm}{ρ ρ4 ρ6:aV}{σ ow:St}{H H6:Hp}{own:Nat}{fr:List Nat}
theorem kP{i:Nat}{s:Sl}(h:(blk own fr ρ)[i]?=some s):(i<own/\s=.no)\/∃j k,i=own+j/\fr[j]?=some k/\s=ρ.getD k .no:=by
 unfold blk at h
 by_cases hi:i<own
 ·rw[List.getElem?_append_left (by simpa using hi),List.getElem?_replicate,if_pos hi]at h
  exact .inl ⟨hi,(Option.some.inj h).symm⟩
 ·rw[List.getElem?_append_right (by simpa using hi),List.length_replicate,List.getElem?_map]at h
  obtain⟨k,e,rfl⟩:=Option.map_eq_some_iff.mp h
  exact .inr ⟨i-own,k,by omega,e,rfl⟩
theorem kH{k:Nat}{s:Sl}(e:s=ρ.getD k .no)(m:s≠.no):ρ[k]?=some s:=by
 rw[List.getD_eq_getElem?_getD]at e
 cases q:ρ[k]? with
 |none=>rw[q]at e;exact absurd e m
 |some t=>rw[q]at e;rw[e];rfl
theorem FrOk.pick(f:FrOk K F ρ σ H)(nd:fr.Nodup):FrOk K F (blk own fr ρ) (σc own fr σ) H:=by
 have val:∀{j k:Nat},fr[j]?=some k->ixv (σc own fr σ) (own+j)=ixv σ k:=λh=>oK (List.length_replicate) h
 refine⟨f.d0,f.kp,?_,λi s e=>?_,λi i' a s t e e' m m' q q'=>?_⟩
 ·unfold blk σc σf
  simp
 ·rcases kP e with⟨_,rfl⟩|⟨j,k,rfl,ek,es⟩
  ·trivial
  ·rw[val ek]
   cases s with
   |no=>trivial
   |_=>exact f.at_ k _ (kH es (λz=>by cases z))
 ·rcases kP e with⟨_,rfl⟩|⟨j,k,rfl,ek,es⟩
  ·cases m
  ·rcases kP e' with⟨_,rfl⟩|⟨j',k',rfl,ek',es'⟩
   ·cases m'
   ·rw[val ek]at q
    rw[val ek']at q'
    have:=f.ap k k' a s t (kH es (λz=>by rw[z]at m;cases m)) (kH es' (λz=>by rw[z]at m';cases m')) m m' q q'
    subst this
    have h1:=(List.getElem?_eq_some_iff.mp ek).1
    rw[(List.getElem?_inj h1 nd).mp (ek.trans ek'.symm)]
theorem Stp.back(f:FrOk K F ρ σ H)(nd:fr.Nodup)(s:Stp K F (ow++σf fr σ) ρ4 H ρ6 H6)(f4:FrOk K F ρ4 (ow++σf fr σ) H)(ho:ow.length=own)(hd:ρ4.drop own=(blk own fr ρ).drop own)(sb:Sbv ρ4 (blk own fr ρ)):Stp K F σ ρ H (bck own fr ρ ρ6) H6:=by
 -- a slot of the block that is one's own is the def's own
 have dm:∀(i:Nat) (t:Sl) (a:Addr),ρ4[i]?=some t->dS t=true->ixv (ow++σf fr σ) i=some (.ref a)->∃k u,k∈fr/\ρ[k]?=some u/\dS u=true/\ixv σ k=some (.ref a):=λi t a e m q=>by
  obtain⟨u,eu,mu⟩:=sb i t e m
  rcases kP eu with⟨_,rfl⟩|⟨j,k,rfl,ek,es⟩
  ·cases mu
  ·exact⟨k,u,List.mem_of_getElem? ek,kH es (λz=>by rw[z]at mu;cases mu),mu,by rw[<-oK ho ek];exact q⟩
 have st:Stay F ρ σ H H6:=λb o e d n=>s.st b o e d λi t e1 m q=>by
  obtain⟨k,u,_,eu,mu,qu⟩:=dm i t b e1 m q
  exact n k u eu mu qu
 have l6:fr.length<=(ρ6.drop own).length:=by
  have:=s.fr.len
  rw[List.length_append]at this
  rw[List.length_drop,this,ho]
  unfold σf
  rw[List.length_map]
  omega
 have sub:Sbv (bck own fr ρ ρ6) ρ:=λi t e m=>by
  rcases rH fr _ ρ i t l6 e with⟨j,ej,et⟩|⟨_,e⟩
  ·rw[List.getElem?_drop]at et
   obtain⟨u,eu,mu⟩:=s.sub _ t et m
   have:(ρ4.drop own)[j]?=some u:=by rw[List.getElem?_drop];exact eu
   rw[hd,List.getElem?_drop]at this
   rcases kP this with⟨z,_⟩|⟨j',k,ejj,ek,es⟩
   ·omega
   ·have:j'=j:=by omega
    subst this
    rw[ej]at ek;cases ek
    exact⟨u,kH es (λz=>by rw[z]at mu;cases mu),mu⟩
  ·exact⟨t,e,m⟩
 have hs:HS H H6:=s.hs f4
 refine⟨⟨f.d0,s.fr.kp,by unfold bck;rw[wW];exact f.len,λi t e=>?_,λi i' a t t' e e' m m' q q'=>?_⟩,st,sub,s.tr⟩
 ·rcases rH fr _ ρ i t l6 e with⟨j,ej,et⟩|⟨ni,e⟩
  ·rw[List.getElem?_drop]at et
   have:=s.fr.at_ _ t et
   rwa[oK ho ej]at this
  ·have h:=f.at_ i t e
   have keep:∀a o,dS t=true->ixv σ i=some (.ref a)->H a=some o->H6 a=some o:=λa o m q e1=>s.st a o e1 (f.fresh_nodk (f.own_at e m q).2) λi' t' e2 m2 q2=>by
    obtain⟨k,u,hk,eu,mu,qu⟩:=dm i' t' a e2 m2 q2
    have:=f.ap k i a u t eu e mu m qu q
    subst this
    exact ni hk
   cases t with
   |no=>trivial
   |va T=>obtain⟨y,e1,v⟩:=h;exact⟨y,e1,v.hs hs⟩
   |own Ts=>obtain⟨a,xs,e1,e2,e3,z,p⟩:=h;exact⟨a,xs,e1,keep a _ rfl e1 e2,e3,z,p.hs hs⟩
   |dct kts=>obtain⟨a,kvs,e1,e2,e3,n,z,p⟩:=h;exact⟨a,kvs,e1,keep a _ rfl e1 e2,e3,n,z,p.hs hs⟩
   |dk=>exact h
 ·obtain⟨u,eu,mu⟩:=sub i t e m
  obtain⟨u',eu',mu'⟩:=sub i' t' e' m'
  exact f.ap i i' a u u' eu eu' mu mu' q q'
end
theorem sB{K:W.Frag}{F:Fm}{own:Nat}{fr:List Nat}{ui:UTl}{g:UG}{tf:UTt}{ue:UT}(nd:fr.Nodup)(σ:St)(H:Hp)(QQ:VK)(h:pW K F (pR own fr ui g tf ue) σ H QQ):uO own fr (zBv K F ui) (zBw K F own g) (pV K F tf) (eF K F ue) σ H QQ:=by
 obtain⟨ρ,Q,f,h,k⟩:=h
 refine⟨ρ,_,f,h,λJ Ts H1 ρ1 s1 it q1 a na=>?_⟩
 obtain⟨len,q1⟩:=q1
 refine⟨Ts.length,λi ys H2=>∃Us ρi,Stp K F σ ρ1 H1 ρi H2/\VAs K H2 ys Us/\Us.length<=i/\eZ own fr g tf ue (Ts.drop i) ρi (λVs ρ'=>Q (Us++Vs) ρ'),⟨[],ρ1,Stp.same s1.fr (dB na),.nil,Nat.le_refl _,q1⟩,?_⟩
 rintro i ys H2 hi ha ⟨Us,ρi,si,p,hl,q⟩
 have hs1:=si.hs s1.fr
 obtain⟨go,yld,stop⟩:=it H2 hs1
 by_cases hlt:i<Ts.length
 ·refine .inr ⟨hlt,go i hlt,λx H3 hy=>?_⟩
  obtain⟨sm,T,eT,vx⟩:=yld i x H3 hlt hy
  have s3:=si.trans (Stp.same si.fr sm)
  have ha3:=sm _ _ ha
  have ed:Ts.drop i=T::Ts.drop (i+1):=by
   rw[List.drop_eq_getElem_cons hlt]
   congr 1
   rw[List.getElem?_eq_getElem hlt]at eT
   exact Option.some.inj eT
  rw[ed]at q
  have nodk:=s1.fr.none_nodk na
  have nown:=s3.notown s1.fr na
  refine⟨T,blk own fr ρi,_,vx,s3.fr.pick nd,q,λσ4 ρ4 f4 l4 d4 dr4 sb4 q4=>?_⟩
  have e4:σ4=σ4.take own++σf fr σ:=by
   have:σ4.drop own=σf fr σ:=by
    rw[d4]
    unfold σc
    rw[List.drop_append_of_le_length (by simp),List.drop_of_length_le (by simp),List.nil_append]
   rw[<-this,List.take_append_drop]
  have lo:(σ4.take own).length=own:=by
   rw[List.length_take,l4]
   unfold σc
   simp
  have notin:∀(j:Nat) (t:Sl),ρ4[j]?=some t->dS t=true->ixv σ4 j≠some (.ref a):=λj t e m z=>by
   obtain⟨u,eu,mu⟩:=sb4 j t e m
   rcases kP eu with⟨_,rfl⟩|⟨j',k,rfl,ek,es⟩
   ·cases mu
   ·rw[e4,oK lo ek]at z
    exact nown k u (kH es (λz=>by rw[z]at mu;cases mu)) mu z
  refine⟨⟨σ4.take own,lo,e4⟩,ρ4,_,f4,q4,λb H5 ρ5 s5 q5=>?_⟩
  have a5:H5 a=some (.lst ys):=s5.st a _ ha3 nodk notin
  cases b with
  |true=>
   refine bS ?_
   rw[if_pos rfl]at q5
   refine⟨ρ5,_,s5.fr,q5,λy U H6 ρ6 s6 v6 q6=>?_⟩
   have s46:=s5.trans s6
   have a6:H6 a=some (.lst ys):=s46.st a _ ha3 nodk notin
   have lys:ys.length=Us.length:=Paired.length p
   refine⟨a6,zAE (by omega),Us++[U],bck own fr ρi ρ6,?_,?_,by rw[List.length_append,List.length_singleton];omega,?_⟩
   ·rw[e4]at s46 f4
    exact(s3.trans (Stp.back s3.fr nd s46 f4 lo dr4 sb4)).put s1.fr na a6 rfl _
   ·have h36:=s46.hs f4
    exact VAs.hs (fU a6 rfl) (Paired.snoc ((p.hs sm.hs).hs h36) v6)
   ·simpa using q6
  |false=>
   refine bJ ?_
   rw[if_neg Bool.false_ne_true]at q5
   refine⟨a5,Us,bck own fr ρi ρ5,?_,?_,by omega,q5⟩
   ·rw[e4]at s5 f4
    exact s3.trans (Stp.back s3.fr nd s5 f4 lo dr4 sb4)
   ·exact(p.hs sm.hs).hs (s5.hs f4)
 ·have e:i=Ts.length:=by omega
  subst e
  rw[List.drop_length]at q
  have q:Q (Us++[]) ρi:=q
  rw[List.append_nil]at q
  exact .inl ⟨stop,k a ys Us H2 ρi (s1.trans si) (s1.non na) ha (by omega) p q⟩
section
variable{X:Cx}{F:Fm}{sc:Scope}{XN N:List Str}{own:Nat}{fr:List Nat}{scope:Scope}{elt tg iter:Expr}{ifs:List Expr}{pos:Pos}{ui:UTl}{g:UG}{tf:UTt}{ue:UT}
structure UF (X:Cx) (F:Fm) (ifs:List Expr) (u:UTt):Prop where
 pf:PFs X ifs (pV X.K F u)
def zBD:UTt:=λρ Q=>Q true ρ
theorem cH:UF X F [] zBD:=⟨λpins s σ H Q I ⟨ρ,Q',f,h,k⟩=>zGa pins s σ H Q I (k _ _ _ (Stp.refl f) h)⟩
theorem cX{c:Expr}{t:UTt}(h:UB X F c t):UF X F [c] t:=⟨zF9 h.pt⟩
theorem bX(hc:X.calm=true)(S:jH sc XN N own fr scope)(nd:fr.Nodup)(hi:UI X F tg iter ui)
  (hg:∀cl C fp s H,UGt (cN X N scope cl C fp s H) F own tg g) (hf:∀cl C fp s H,UF (cN X N scope cl C fp s H) F ifs tf) (he:∀cl C fp s H,UE (cN X N scope cl C fp s H) F elt ue)
  (hs:∀x,foldedSetIterable iter X.env x=pure x:=by intro _;rfl) (hsc:X.env.scope=sc:=by rfl) (hxn:X.N=XN:=by rfl):UL X F (.ListComp elt [⟨tg,iter,ifs,0⟩] scope pos) (pR own fr ui g tf ue):=
 ⟨PE.imp (zE3 hc S hi.pi (λcl C fp s H=>(hg cl C fp s H).pg) (λcl C fp s H=>(hf cl C fp s H).pf) (λcl C fp s H=>(he cl C fp s H).pe) hs hsc hxn) (sB nd)⟩
theorem zAc{i:Nat}{x:Str}{pos' spos:Pos}(hc:X.calm=true)(hN:X.N.Nodup)(hx:X.N[i]?=some x)(hl:Loc X.env.scope x)(S:jH sc XN N own fr scope)(nd:fr.Nodup)(hi:UI X F tg iter ui)
  (hg:∀cl C fp s H,UGt (cN X N scope cl C fp s H) F own tg g) (hf:∀cl C fp s H,UF (cN X N scope cl C fp s H) F ifs tf) (he:∀cl C fp s H,UE (cN X N scope cl C fp s H) F elt ue)
  (hsw:swapsWith (.ListComp elt [⟨tg,iter,ifs,0⟩] scope pos) (some (.Name x pos')) spos.line X.env=pure true:=by rfl)
  (hf':X.fn x=true\/X.env.scope.names.lookup x=some .local:=by first|exact .inl rfl|exact .inr rfl|assumption)
  (hs:∀x,foldedSetIterable iter X.env x=pure x:=by intro _;rfl) (hsc:X.env.scope=sc:=by rfl) (hxn:X.N=XN:=by rfl):US X F (.Assign [.Name x pos'] (.ListComp elt [⟨tg,iter,ifs,0⟩] scope pos) spos) (vA i (pR own fr ui g tf ue)):=
 ⟨PS.imp (zAr hc hN hx hl S hi.pi (λcl C fp s H=>(hg cl C fp s H).pg) (λcl C fp s H=>(hf cl C fp s H).pf) (λcl C fp s H=>(he cl C fp s H).pe) hsw hf' hs hsc hxn) (zU (sB nd))⟩
theorem PS.fz{st:Stmt}{t:TS}(h:PS X st t):PS X st (λD σ H=>t {D with nx:=λσ' H'=>D.nx σ' H'\/∃a o,H' a=some o/\fzb o=true/\∀ob,D.nx σ' (upd H' a (.frz ob o))} σ H):=λpins s σ H D I q=>thn (h pins s σ H _ I q) λfl s' z=>by
 cases fl with
 |next=>
  obtain⟨σ',H',I',q⟩:=z
  rcases q with q|⟨a,o,e,n,q⟩
  ·exact⟨σ',H',I',q⟩
  ·obtain⟨ob,I2⟩:=I'.fz e n
   exact⟨σ',_,I2,q ob⟩
 |brk=>exact z
 |cont=>exact z
 |ret u=>exact z
theorem gE{i:Nat}{x:Str}{pos' spos:Pos}(hc:X.calm=true)(hN:X.N.Nodup)(hx:X.N[i]?=some x)(hl:Loc X.env.scope x)(S:jH sc XN N own fr scope)(nd:fr.Nodup)(hi:UI X F tg iter ui)
  (hg:∀cl C fp s H,UGt (cN X N scope cl C fp s H) F own tg g) (hf:∀cl C fp s H,UF (cN X N scope cl C fp s H) F ifs tf) (he:∀cl C fp s H,UE (cN X N scope cl C fp s H) F elt ue)
  (hsw:swapsWith (.ListComp elt [⟨tg,iter,ifs,0⟩] scope pos) (some (.Name x pos')) spos.line X.env=pure true:=by rfl)
  (hf':X.fn x=true\/X.env.scope.names.lookup x=some .local:=by first|exact .inl rfl|exact .inr rfl|assumption)
  (hs:∀x,foldedSetIterable iter X.env x=pure x:=by intro _;rfl) (hsc:X.env.scope=sc:=by rfl) (hxn:X.N=XN:=by rfl):US X F (.Assign [.Name x pos'] (.ListComp elt [⟨tg,iter,ifs,0⟩] scope pos) spos) (zBI i (uL (pR own fr ui g tf ue))):=
 ⟨PS.imp (PS.fz (zAr hc hN hx hl S hi.pi (λcl C fp s H=>(hg cl C fp s H).pg) (λcl C fp s H=>(hf cl C fp s H).pf) (λcl C fp s H=>(he cl C fp s H).pe) hsw hf' hs hsc hxn)) λD σ H ⟨ρ,P,f,h,k1,_⟩=>by
  refine sB nd σ H _ ⟨ρ,_,f,h,λa xs Ts H' ρ' s n e z p q=>?_⟩
  refine .inr ⟨a,_,e,rfl,λob=>?_⟩
  have s2:=s.put f n e rfl (.frz ob (.lst xs))
  exact k1 _ _ _ (s2.fr.set (s:=.va (.seq false Ts)) (λ_=>⟨_,rfl,VA.seq (t:=false) ⟨ob,bM⟩ z (p.hs (fU e rfl))⟩) (λz=>absurd z Bool.false_ne_true)) (s2.hs f) q⟩
def iA(g:UG)(ub:UTs):List Tv->PEnds->aV->Prop
 |[],P,ρ=>P.nx ρ
 |T::Ts,P,ρ=>g T ρ λρ1=>ub {P with nx:=λρ'=>iA g ub Ts P ρ',ct:=λρ'=>iA g ub Ts P ρ',bk:=P.nx} ρ1
def zHP(ui:UTl)(g:UG)(ub:UTs):UTs:=λP ρ=>ui ρ λTs ρ1=>iA g ub Ts P ρ1
theorem fT{body:List Stmt}{ub:UTs}{m:Nat}(hp:PassesOwn (model X.prog X.w) X.A X.env X.xe)(hc:X.calm=true)(hi:UI X F tg iter ui)(hg:UGt X F m tg g)(hb:USs X F body ub)
  (hs:∀x,foldedSetIterable iter X.env x=pure x:=by intro _;rfl):US X F (.For tg iter body [] pos) (zHP ui g ub):=⟨PS.imp (zF7 hp hc hi.pi hg.pg hb.ps hs) λD σ H ⟨ρ,P,f,h,k1,k2,k3,k4⟩=>by
 refine⟨ρ,_,f,h,λJ Ts H1 ρ1 s1 it q1=>?_⟩
 have h01:=s1.hs f
 refine⟨λi m σ' H'=>m=Ts.length-i/\i<=Ts.length/\HS H1 H'/\∃ρi,FrOk X.K F ρi σ' H'/\iA g ub (Ts.drop i) P ρi,⟨_,rfl,Nat.zero_le _,HS.refl _,ρ1,s1.fr,q1⟩,?_⟩
 rintro i m σ' H' ⟨rfl,hi,hs,ρi,fi,q⟩
 obtain⟨go,yld,stop⟩:=it H' hs
 by_cases hlt:i<Ts.length
 ·refine .inr ⟨go i hlt,λσ2 H2=>HS H1 H2/\∃ρ2,FrOk X.K F ρ2 σ2 H2/\iA g ub (Ts.drop (i+1)) P ρ2,λσ2 H2 ⟨hs2,ρ2,f2,q2⟩=>⟨_,by omega,rfl,hlt,hs2,ρ2,f2,q2⟩,λx H3 hy=>?_⟩
  obtain⟨sm,T,eT,vx⟩:=yld i x H3 hlt hy
  have ed:Ts.drop i=T::Ts.drop (i+1):=by
   rw[List.drop_eq_getElem_cons hlt]
   congr 1
   rw[List.getElem?_eq_getElem hlt]at eT
   exact Option.some.inj eT
  rw[ed]at q
  have f3:=(Stp.same fi sm).fr
  refine⟨T,ρi,_,vx,f3,q,λσ4 ρ4 f4 _ _ _ _ q4=>?_⟩
  have h13:=hs.trans sm.hs
  exact⟨ρ4,_,f4,q4,λσ5 H5 ρ5 f5 hs5 q5=>⟨h13.trans hs5,ρ5,f5,q5⟩,k2,λσ5 H5 ρ5 f5 hs5 q5=>k1 _ _ _ f5 (h01.trans (h13.trans hs5)) q5,λσ5 H5 ρ5 f5 hs5 q5=>⟨h13.trans hs5,ρ5,f5,q5⟩⟩
 ·have e:i=Ts.length:=by omega
  subst e
  rw[List.drop_length]at q
  exact .inl ⟨stop,k1 _ _ _ fi (h01.trans hs) q⟩⟩
def zFQ(t:UTt)(ub:UTs):UTs:=λP ρ=>∃W:Nat->aV->Prop,(∃m,W m ρ)/\∀m ρ,W m ρ->t ρ λb ρ1=>if b=true then ub {P with nx:=λρ'=>∃m',m'<m/\W m' ρ',ct:=λρ'=>∃m',m'<m/\W m' ρ',bk:=P.nx} ρ1 else P.nx ρ1
theorem sI{c:Expr}{body:List Stmt}{t:UTt}{ub:UTs}(hp:PassesOwn (model X.prog X.w) X.A X.env X.xe)(hc:UB X F c t)(hb:USs X F body ub):US X F (.While c body [] pos) (zFQ t ub):=⟨PS.imp (zD5 hp hc.pt hb.ps) λD σ H ⟨ρ,P,f,⟨W,⟨m0,w0⟩,h⟩,k1,k2,k3,k4⟩=>by
 refine⟨λm σ' H'=>HS H H'/\∃ρ',FrOk X.K F ρ' σ' H'/\W m ρ',⟨m0,HS.refl _,ρ,f,w0⟩,?_⟩
 rintro m σ' H' ⟨hs,ρ',f',w⟩
 refine⟨ρ',_,f',h m ρ' w,λb H1 ρ1 s1 q1=>?_⟩
 have h1:=hs.trans (s1.hs f')
 cases b with
 |true=>
  rw[if_pos rfl]at q1
  refine bS ⟨λσ2 H2=>HS H H2/\∃m',m'<m/\∃ρ2,FrOk X.K F ρ2 σ2 H2/\W m' ρ2,λσ2 H2 ⟨hs2,m',lt,ρ2,f2,w2⟩=>⟨m',lt,hs2,ρ2,f2,w2⟩,?_⟩
  exact⟨ρ1,_,s1.fr,q1,λσ5 H5 ρ5 f5 hs5 ⟨m',lt,w5⟩=>⟨h1.trans hs5,m',lt,ρ5,f5,w5⟩,k2,λσ5 H5 ρ5 f5 hs5 q5=>k1 _ _ _ f5 (h1.trans hs5) q5,λσ5 H5 ρ5 f5 hs5 ⟨m',lt,w5⟩=>⟨h1.trans hs5,m',lt,ρ5,f5,w5⟩⟩
 |false=>
  rw[if_neg Bool.false_ne_true]at q1
  exact bJ (k1 _ _ _ s1.fr h1 q1)⟩
end
end L2
namespace L2
open PySem PySem.Spec PyProof.Rows WordM
section
variable{K:W.Frag}{F:Fm}{ρ:aV}{σ:St}{H:Hp}{i:Nat}{s s':Sl}{a:Addr}{o o':HO}
theorem FrOk.put(fr:FrOk K F ρ σ H)(e:ρ[i]?=some s)(m:dS s=true)(q:ixv σ i=some (.ref a))(h:H a=some o)(n:fzb o=true)(v:HS H (upd H a o')->F.H0 a=none->wF K F (upd H a o') (some (.ref a)) s'):Stp K F σ ρ H (ρ.set i s') (upd H a o'):=by
 have hi:i<ρ.length:=(List.getElem?_eq_some_iff.mp e).1
 have h0:=(fr.own_at e m q).2
 have hd:=fr.fresh_nodk h0
 have hs:HS H (upd H a o'):=fU h (by cases o<;>first|rfl|exact absurd n Bool.false_ne_true)
 have st:∀b u,b≠a->H b=some u->upd H a o' b=some u:=λb u z e=>by rw[bL z];exact e
 have get:∀(j:Nat) (t:Sl),(ρ.set i s')[j]?=some t->(i=j/\t=s')\/(i≠j/\ρ[j]?=some t):=λj t e'=>by
  by_cases z:i=j
  ·subst z
   rw[List.getElem?_set_self hi]at e'
   exact .inl ⟨rfl,(Option.some.inj e').symm⟩
  ·rw[List.getElem?_set_ne z]at e';exact .inr ⟨z,e'⟩
 have sub:Sbv (ρ.set i s') ρ:=λj t e' m'=>by
  rcases get j t e' with⟨rfl,rfl⟩|⟨z,e'⟩
  ·exact⟨s,e,m⟩
  ·exact⟨t,e',m'⟩
 refine⟨⟨fr.d0,⟨λb u e1 n1=>st b u (λz=>by rw[z,h0]at e1;cases e1) (fr.kp.st b u e1 n1),λp c d=>?_⟩,by rw[List.length_set];exact fr.len,λj t e'=>?_,λj k b t t' e1 e2 m1 m2 q1 q2=>?_⟩,λb u e1 _ n1=>st b u (λz=>n1 i s e m (by rw[z];exact q)) e1,sub,λb u e1=>if z:b=a then⟨o',z▸bM⟩ else⟨u,st b u z e1⟩⟩
 ·obtain⟨ne,⟨S,k,e1⟩,ns,e2,l⟩:=fr.kp.dkk p c d
  exact⟨ne,⟨S,k,st _ _ (hd p c d).1.symm e1⟩,ns,st _ _ (hd p c d).2.symm e2,l⟩
 ·rcases get j t e' with⟨rfl,rfl⟩|⟨z,e'⟩
  ·rw[q];exact v hs h0
  ·have x:=fr.at_ j t e'
   cases t with
   |no=>trivial
   |va T=>obtain⟨y,e1,v⟩:=x;exact⟨y,e1,v.hs hs⟩
   |own Ts=>obtain⟨b,xs,e1,e2,e3,z',p⟩:=x;exact⟨b,xs,e1,st _ _ (λy=>z (fr.ap i j a s _ e e' m rfl q (by rw[e1,y]))) e2,e3,z',p.hs hs⟩
   |dct kts=>obtain⟨b,kvs,e1,e2,e3,n',z',p⟩:=x;exact⟨b,kvs,e1,st _ _ (λy=>z (fr.ap i j a s _ e e' m rfl q (by rw[e1,y]))) e2,e3,n',z',p.hs hs⟩
   |dk=>exact x
 ·obtain⟨u,eu,mu⟩:=sub j t e1 m1
  obtain⟨u',eu',mu'⟩:=sub k t' e2 m2
  exact fr.ap j k b u u' eu eu' mu mu' q1 q2
end
section
variable{X:Cx}{F:Fm}{e:Expr}{u:UT}{x:Str}{p apos cpos pos:Pos}
def zAd(i:Nat)(u:UT):UT:=λρ Q=>(∃Ts,ρ[i]?=some (.own Ts))/\u ρ λT ρ1=>∃Ts,ρ1[i]?=some (.own Ts)/\Ts.length<100000/\Q nT (ρ1.set i (.own (Ts++[T])))
theorem jD(i:Nat)(h:UE X F e u)(hN:X.N[i]?=some x:=by rfl)(hv:Vis X.env.scope x:=by first|exact Or.inl rfl|exact Or.inr (Or.inl rfl)|exact Or.inr (Or.inr rfl))(hd:(x==("__debug__":Str))=false:=by decide)(hcd:(x==("__classdict__":Str))=false:=by decide)
  (hbase:attributeBase (.Name x p) "append" X.env (eval (.Name x p) X.env)=eval (.Name x p) X.env:=by rfl)
  (hfew:((backTo cpos (starEach [e] X.env)).all (λx=>!x.1)&&(backToKw cpos (keywordEach [] X.env)).all (λx=>x.1.isSome)&&decide (([e]:List Expr).length+([]:List Keyword).length+(if ([]:List Keyword).isEmpty then 0 else 1)<30))=true:=by rfl)
  (hline:(apos.endLine==cpos.line)=true:=by rfl) (hs:starEach [e] X.env=(false,eval e X.env)::starEach [] X.env:=by rfl) (hplain:(backTo cpos (starEach [] X.env)).any (·.1)=false:=by rfl) (hst:eW e=false:=by rfl):
  UE X F (.Call (.Attribute (.Name x p) "append" apos) [e] [] cpos) (zAd i u):=⟨PE.imp (mX PySem.F.plainAttrs_list PySem.F.slot_list_append PySem.F.type_list_append sA (iN hN hv hd hcd) (aB h aD hst).pa hbase hfew hline hs hplain) λσ H QQ ⟨ρ,Q,f,⟨⟨Ts0,e0⟩,hu⟩,k⟩=>by
 obtain⟨a,xs,ea,eH,e3,z,pv⟩:=f.at_ i _ e0
 refine⟨_,gR ea,.inl ⟨rfl,xs,SqL.of eH⟩,ρ,λas ρ1=>∃T,as=[.va T]/\∃Ts,ρ1[i]?=some (.own Ts)/\Ts.length<100000/\Q nT (ρ1.set i (.own (Ts++[T]))),f,?_,λvs as H1 ρ1 s1 p1 q1=>?_⟩
 ·show u ρ _
  have:(λT ρ1=>∃Ts,ρ1[i]?=some (.own Ts)/\Ts.length<100000/\Q nT (ρ1.set i (.own (Ts++[T]))))=(λT (ρ1:aV)=>(fL ρ1 λas ρ2=>∃T',Ar.va T::as=[.va T']/\∃Ts,ρ2[i]?=some (.own Ts)/\Ts.length<100000/\Q nT (ρ2.set i (.own (Ts++[T'])))) ):=by
   funext T ρ1
   apply propext
   constructor
   ·intro z;exact⟨T,rfl,z⟩
   ·rintro⟨T',e,z⟩;cases e;exact z
  rw[this]at hu
  exact hu
 ·obtain⟨T,rfl,Ts,e1,lt,q⟩:=q1
  cases p1 with
  |cons v t=>
   cases t
   obtain⟨a',ys,ea',eH1,e3',z',pv'⟩:=s1.fr.at_ i _ e1
   rw[ea]at ea';cases ea'
   have ll:ys.length=Ts.length:=Paired.length pv'
   refine⟨a,ys,_,rfl,rfl,eH1,zAE (by omega),k _ _ _ _ (s1.trans (s1.fr.put (s':=.own (Ts++[T])) e1 rfl ea eH1 rfl λhs h0=>⟨a,_,rfl,bM,h0,by rw[List.length_append,List.length_singleton];omega,VAs.hs hs (Paired.snoc pv' v)⟩)) (.flat rfl) q⟩⟩
def zD1:V->List V->Hp->VK->Prop:=λx vs H Q=>∃l b xs zs,x=.ref l/\vs=[.ref b]/\H l=some (.lst xs)/\Rd H b (.lst zs)/\xs.length+zs.length<=sizeLine/\Q .non (upd H l (.lst (xs++zs)))
theorem zCR:MtM X "list.extend" zD1:=by
 rintro pins s σ H _ _ v us Q I rx rv ⟨l,b,xs,zs,rfl,rfl,hH,hB,hz,q⟩
 cases rx
 obtain⟨u,rfl,ru⟩:=rv.one
 cases ru
 obtain⟨z,its,n,r,hl,e⟩:=I.lstM hH
 obtain⟨z2,its2,n2,r2,e2⟩:=hB.ok I.hok
 have hl2:=r2.length
 have hlong:¬ (!its.toArray.isEmpty&&Builtin.List.listTooLong (its.toArray.size+its2.toArray.size))=true:=by
  rw[zP (by rw[List.size_toArray,List.size_toArray];omega),Bool.and_false]
  exact Bool.false_ne_true
 refine call_meets F.slot_list_extend ⟨_,e,rfl⟩ F.entry_list_extend (F.args_list_extend_2 _ _) (AutoSeq1.list_extend_list_list_0 l its.toArray n b its2.toArray n2 hlong (by rw[List.size_toArray];omega) (by rw[List.size_toArray,List.size_toArray];omega)) ⟨e,e2,?_⟩
 exact⟨.non,_,I.lset (its':=its++its2) hH e (by simp) (r.append r2) (by rw[List.length_append];omega),rfl,q⟩
def zEJ(i:Nat)(u:UT):UT:=λρ Q=>(∃Ts,ρ[i]?=some (.own Ts))/\u ρ λT ρ1=>∃Ts Us,ρ1[i]?=some (.own Ts)/\T=.seq false Us/\Ts.length+Us.length<=100000/\Q nT (ρ1.set i (.own (Ts++Us)))
theorem zC8(i:Nat)(h:UE X F e u)(hN:X.N[i]?=some x:=by rfl)(hv:Vis X.env.scope x:=by first|exact Or.inl rfl|exact Or.inr (Or.inl rfl)|exact Or.inr (Or.inr rfl))(hd:(x==("__debug__":Str))=false:=by decide)(hcd:(x==("__classdict__":Str))=false:=by decide)
  (hbase:attributeBase (.Name x p) "extend" X.env (eval (.Name x p) X.env)=eval (.Name x p) X.env:=by rfl)
  (hfew:((backTo cpos (starEach [e] X.env)).all (λx=>!x.1)&&(backToKw cpos (keywordEach [] X.env)).all (λx=>x.1.isSome)&&decide (([e]:List Expr).length+([]:List Keyword).length+(if ([]:List Keyword).isEmpty then 0 else 1)<30))=true:=by rfl)
  (hline:(apos.endLine==cpos.line)=true:=by rfl) (hs:starEach [e] X.env=(false,eval e X.env)::starEach [] X.env:=by rfl) (hplain:(backTo cpos (starEach [] X.env)).any (·.1)=false:=by rfl) (hst:eW e=false:=by rfl):
  UE X F (.Call (.Attribute (.Name x p) "extend" apos) [e] [] cpos) (zEJ i u):=⟨PE.imp (mX PySem.F.plainAttrs_list PySem.F.slot_list_extend PySem.F.type_list_extend zCR (iN hN hv hd hcd) (aB h aD hst).pa hbase hfew hline hs hplain) λσ H QQ ⟨ρ,Q,f,⟨⟨Ts0,e0⟩,hu⟩,k⟩=>by
 obtain⟨a,xs,ea,eH,e3,z,pv⟩:=f.at_ i _ e0
 refine⟨_,gR ea,.inl ⟨rfl,xs,SqL.of eH⟩,ρ,λas ρ1=>∃T,as=[.va T]/\∃Ts Us,ρ1[i]?=some (.own Ts)/\T=.seq false Us/\Ts.length+Us.length<=100000/\Q nT (ρ1.set i (.own (Ts++Us))),f,?_,λvs as H1 ρ1 s1 p1 q1=>?_⟩
 ·show u ρ _
  have:(λT ρ1=>∃Ts Us,ρ1[i]?=some (.own Ts)/\T=.seq false Us/\Ts.length+Us.length<=100000/\Q nT (ρ1.set i (.own (Ts++Us))))=(λT (ρ1:aV)=>(fL ρ1 λas ρ2=>∃T',Ar.va T::as=[.va T']/\∃Ts Us,ρ2[i]?=some (.own Ts)/\T'=.seq false Us/\Ts.length+Us.length<=100000/\Q nT (ρ2.set i (.own (Ts++Us)))) ):=by
   funext T ρ1
   apply propext
   constructor
   ·intro z;exact⟨T,rfl,z⟩
   ·rintro⟨T',e,z⟩;cases e;exact z
  rw[this]at hu
  exact hu
 ·obtain⟨T,rfl,Ts,Us,e1,rfl,le,q⟩:=q1
  cases p1 with
  |cons v t=>
   cases t
   have v:VA X.K H1 _ (.seq false Us):=v
   obtain⟨b,zs,rfl,⟨ob,hb⟩,_,pz⟩:=v.seqI
   obtain⟨a',ys,ea',eH1,e3',z',pv'⟩:=s1.fr.at_ i _ e1
   rw[ea]at ea';cases ea'
   have ll:ys.length=Ts.length:=Paired.length pv'
   have lz:zs.length=Us.length:=Paired.length pz
   refine⟨a,b,ys,zs,rfl,rfl,eH1,.inr ⟨ob,hb⟩,fI (by omega),k _ _ _ _ (s1.trans (s1.fr.put (s':=.own (Ts++Us)) e1 rfl ea eH1 rfl λhs h0=>⟨a,_,rfl,bM,h0,by rw[List.length_append];omega,VAs.hs hs (nX pv' pz)⟩)) (.flat rfl) q⟩⟩
def zFE(i:Nat)(u:UT):UT:=λρ Q=>(∃Ts,ρ[i]?=some (.own Ts))/\u ρ λJ ρ1=>∃(j:Int) (Ts:List Tv) (T:Tv),J=iT j/\ρ1[i]?=some (.own Ts)/\0<=j/\Ts[j.toNat]?=some T/\Q T (ρ1.set i (.own (Ts.eraseIdx j.toNat)))
theorem wP{α β:Type}{R:α->β->Prop}:∀{l:List α}{m:List β}(n:Nat),Paired R l m->Paired R (l.eraseIdx n) (m.eraseIdx n)
 |_,_,_,.nil=>.nil
 |_,_,0,.cons _ t=>t
 |_,_,n+1,.cons r t=>.cons r (wP n t)
theorem nS{α β:Type}{R:α->β->Prop}:∀{l:List α}{m:List β}{n:Nat}{y:β},Paired R l m->m[n]?=some y->∃x,l[n]?=some x/\R x y
 |_,_,_,_,.nil,e=>by simp at e
 |_,_,0,_,.cons r _,e=>by simp at e;subst e;exact⟨_,rfl,r⟩
 |_,_,n+1,_,.cons _ t,e=>by
  obtain⟨x,h1,h2⟩:=nS (n:=n) t (by simpa using e)
  exact⟨x,by simpa using h1,h2⟩
theorem lQ(i:Nat)(h:UE X F e u)(hN:X.N[i]?=some x:=by rfl)(hv:Vis X.env.scope x:=by first|exact Or.inl rfl|exact Or.inr (Or.inl rfl)|exact Or.inr (Or.inr rfl))(hd:(x==("__debug__":Str))=false:=by decide)(hcd:(x==("__classdict__":Str))=false:=by decide)
  (hbase:attributeBase (.Name x p) "pop" X.env (eval (.Name x p) X.env)=eval (.Name x p) X.env:=by rfl)
  (hfew:((backTo cpos (starEach [e] X.env)).all (λx=>!x.1)&&(backToKw cpos (keywordEach [] X.env)).all (λx=>x.1.isSome)&&decide (([e]:List Expr).length+([]:List Keyword).length+(if ([]:List Keyword).isEmpty then 0 else 1)<30))=true:=by rfl)
  (hline:(apos.endLine==cpos.line)=true:=by rfl) (hs:starEach [e] X.env=(false,eval e X.env)::starEach [] X.env:=by rfl) (hplain:(backTo cpos (starEach [] X.env)).any (·.1)=false:=by rfl) (hst:eW e=false:=by rfl):
  UE X F (.Call (.Attribute (.Name x p) "pop" apos) [e] [] cpos) (zFE i u):=⟨PE.imp (mX PySem.F.plainAttrs_list PySem.F.slot_list_pop PySem.F.type_list_pop zEf (iN hN hv hd hcd) (aB h aD hst).pa hbase hfew hline hs hplain) λσ H QQ ⟨ρ,Q,f,⟨⟨Ts0,e0⟩,hu⟩,k⟩=>by
 obtain⟨a,xs,ea,eH,e3,z,pv⟩:=f.at_ i _ e0
 refine⟨_,gR ea,.inl ⟨rfl,xs,SqL.of eH⟩,ρ,λas ρ1=>∃J,as=[.va J]/\∃(j:Int) (Ts:List Tv) (T:Tv),J=iT j/\ρ1[i]?=some (.own Ts)/\0<=j/\Ts[j.toNat]?=some T/\Q T (ρ1.set i (.own (Ts.eraseIdx j.toNat))),f,?_,λvs as H1 ρ1 s1 p1 q1=>?_⟩
 ·show u ρ _
  have:(λJ ρ1=>∃(j:Int) (Ts:List Tv) (T:Tv),J=iT j/\ρ1[i]?=some (.own Ts)/\0<=j/\Ts[j.toNat]?=some T/\Q T (ρ1.set i (.own (Ts.eraseIdx j.toNat))))=(λJ (ρ1:aV)=>(fL ρ1 λas ρ2=>∃J',Ar.va J::as=[.va J']/\∃(j:Int) (Ts:List Tv) (T:Tv),J'=iT j/\ρ2[i]?=some (.own Ts)/\0<=j/\Ts[j.toNat]?=some T/\Q T (ρ2.set i (.own (Ts.eraseIdx j.toNat)))) ):=by
   funext T ρ1
   apply propext
   constructor
   ·intro z;exact⟨T,rfl,z⟩
   ·rintro⟨T',e,z⟩;cases e;exact z
  rw[this]at hu
  exact hu
 ·obtain⟨J,rfl,j,Ts,T,rfl,e1,h0,eT,q⟩:=q1
  cases p1 with
  |cons v t=>
   cases t
   obtain⟨rfl,_⟩:=VA.leafI v
   obtain⟨a',ys,ea',eH1,e3',z',pv'⟩:=s1.fr.at_ i _ e1
   rw[ea]at ea';cases ea'
   have ll:ys.length=Ts.length:=Paired.length pv'
   have lt:=(List.getElem?_eq_some_iff.mp eT).1
   obtain⟨y,ey,vy⟩:=nS pv' eT
   have s:=s1.fr.put (o':=.lst (ys.eraseIdx j.toNat)) e1 rfl ea eH1 rfl (s':=.own (Ts.eraseIdx j.toNat)) λhs h0=>⟨a,_,rfl,bM,h0,by rw[List.length_eraseIdx];split<;>omega,VAs.hs hs (wP _ pv')⟩
   refine⟨a,ys,j,j.toNat,y,rfl,rfl,eH1,by omega,by omega,PySem.StrLaws.seqIndex_nonneg h0 (by omega),ey,k _ _ _ _ (s1.trans s) (vy.hs (s.hs s1.fr)) q⟩⟩
end
theorem Inv.frozen{X:Cx}{pins:List (Addr×Obj)}{σ:St}{H H2:Hp}{s:Shared}(I:Inv X pins σ H s)(fro:FrozenA nN H H2)(ok2:HOk X.prog X.w H2 s.heap):Inv X pins σ H2 s:=by
 refine⟨I.ok,I.os,I.bare,⟨I.base.keep,I.base.slot,λb o e n hx=>fro.none_of (I.base.free b o e n hx),I.base.there,λb xs e=>fro.keep (I.base.tups b xs e) rfl,λb o u e=>fro.keep (I.base.frzs b o u e) rfl,λb ps e=>?_⟩,I.loc,I.cell,fro.none_of I.free,λx c e=>fro.none_of (I.freeC x c e),λp hp=>?_,ok2,I.len⟩
 ·obtain⟨more,z⟩:=I.base.tbls b ps e
  exact⟨more,fro.keep z rfl⟩
 ·obtain⟨p1,p2,p3⟩:=I.pin p hp
  exact⟨p1,fro.none_of p2,p3⟩
theorem Inv.thaw{X:Cx}{pins:List (Addr×Obj)}{σ:St}{H H3 H4:Hp}{s s':Shared}(I:Inv X pins σ H s)(I3:Inv X pins σ H3 s')(th:Thaw H H3 H4):Inv X pins σ H4 s':=by
 have stay:∀b o,H3 b=some o->(∀u ob,o≠.frz ob u)->H4 b=some o:=λb o e n=>by
  rcases th b with⟨u,ob,_,_,z,_⟩|⟨_,z⟩
  ·rw[e]at z;cases z;exact absurd rfl (n u ob)
  ·rw[z];exact e
 have none4:∀b,H3 b=none->H4 b=none:=λb e=>by
  rcases th b with⟨u,ob,_,_,z,_⟩|⟨_,z⟩
  ·rw[e]at z;cases z
  ·rw[z];exact e
 refine⟨I3.ok,I3.os,I3.bare,⟨I3.base.keep,I3.base.slot,λb o e n hx=>none4 b (I3.base.free b o e n hx),I3.base.there,λb xs e=>stay b _ (I3.base.tups b xs e) (λ_ _ z=>by cases z),λb o u e=>?_,λb ps e=>?_⟩,I3.loc,I3.cell,none4 _ I3.free,λx c e=>none4 c (I3.freeC x c e),λp hp=>?_,λb o e=>?_,I3.len⟩
 ·rcases th b with⟨o',ob,n,z,_⟩|⟨_,z⟩
  ·rw[I.base.frzs b o u e]at z;cases z;exact absurd n Bool.false_ne_true
  ·rw[z];exact I3.base.frzs b o u e
 ·obtain⟨more,z⟩:=I3.base.tbls b ps e
  exact⟨more,stay b _ z (λ_ _ z=>by cases z)⟩
 ·obtain⟨p1,p2,p3⟩:=I3.pin p hp
  exact⟨p1,none4 _ p2,p3⟩
 ·have st:∀o,ObjOk X.prog X.w H3 s'.heap b o->ObjOk X.prog X.w H4 s'.heap b o:=λo x=>x.stay (λ_ _ _ r=>r) (λd r=>stay d _ r (λ_ _ z=>by cases z)) λd xs r=>stay d _ r (λ_ _ z=>by cases z)
  rcases th b with⟨o',ob,n,_,z,z'⟩|⟨_,z⟩
  ·rw[z']at e
   cases e
   obtain⟨_,y⟩:=(show ObjOk X.prog X.w H3 s'.heap b (.frz ob o) from I3.hok b _ z)
   exact st o y
  ·rw[z]at e
   exact st o (I3.hok b o e)
def pkS:Sl->Sl
 |.own Ts=>.va (.seq false Ts)
 |.dct kts=>.va (.dct kts)
 |.dk=>.no
 |s=>s
def pkE(ρ:aV):aV:=ρ.map pkS
theorem zBz{K:W.Frag}{F:Fm}{ρ:aV}{σ:St}{H H2:Hp}(f:FrOk K F ρ σ H)(fro:FrozenA nN H H2):FrOk K ⟨H2,none⟩ (pkE ρ) σ H2:=by
 have hs:=fro.hs
 refine⟨λ_ _ z=>(nomatch z),⟨λ_ _ e _=>e,λ_ _ z=>(nomatch z)⟩,by unfold pkE;rw[List.length_map];exact f.len,λi s e=>?_,λi j a s t e _ m _ _ _=>?_⟩
 ·unfold pkE at e
  rw[List.getElem?_map]at e
  obtain⟨s0,e0,rfl⟩:=Option.map_eq_some_iff.mp e
  have h:=f.at_ i s0 e0
  cases s0 with
  |no=>trivial
  |va T=>obtain⟨y,e1,v⟩:=h;exact⟨y,e1,v.hs hs⟩
  |own Ts=>
   obtain⟨a,xs,e1,e2,e3,z,p⟩:=h
   obtain⟨ob,e4⟩:=fro.fz (b:=a) rfl e2 rfl
   exact⟨_,e1,VA.seq (t:=false) ⟨ob,e4⟩ z (p.hs hs)⟩
  |dct kts=>
   obtain⟨a,kvs,e1,e2,e3,n,z,p⟩:=h
   obtain⟨ob,e4⟩:=fro.fz (b:=a) rfl e2 rfl
   exact⟨_,e1,VA.dct ⟨ob,e4⟩ n z (p.hs hs)⟩
  |dk=>trivial
 ·unfold pkE at e
  rw[List.getElem?_map]at e
  obtain⟨s0,e0,rfl⟩:=Option.map_eq_some_iff.mp e
  cases s0<;>cases m
theorem zAw{K:W.Frag}{ρ ρ':aV}{σ:St}{H2 H3:Hp}{H0:Hp}(s:Stp K ⟨H0,none⟩ σ (pkE ρ) H2 ρ' H3):Same H2 H3:=λb o e=>s.st b o e (λ_ _ z=>(nomatch z)) λi t e1 m=>by
 unfold pkE at e1
 rw[List.getElem?_map]at e1
 obtain⟨s0,e0,rfl⟩:=Option.map_eq_some_iff.mp e1
 cases s0<;>cases m
section
variable{X:Cx}{F:Fm}{e:Expr}
def zBn(u:UT):UT:=λρ Q=>u (pkE ρ) λT _=>∃v,T=.leaf v/\Q T ρ
theorem fS{u:UT}(h:∀F,UE X F e u):UE X F e (zBn u):=⟨λpins s σ H QQ I ⟨ρ,Q,f,hu,k⟩=>by
 obtain⟨H2,fro,ok2⟩:=yM I.hok
 have f2:=zBz f fro
 refine thn ((h ⟨H2,none⟩).pe pins s σ H2 (λx H3=>∃v ρ',Stp X.K ⟨H2,none⟩ σ (pkE ρ) H2 ρ' H3/\VA X.K H3 x (.leaf v)/\Q (.leaf v) ρ) (I.frozen fro ok2) ⟨_,_,f2,hu,λx T H' ρ' st v q=>?_⟩) λu s' ⟨x,H3,I3,r,q⟩=>?_
 ·obtain⟨w,rfl,q⟩:=q
  exact⟨w,ρ',st,v,q⟩
 ·obtain⟨v,ρ',st,va,q⟩:=q
  obtain⟨H4,th⟩:=zAh H H3
  obtain⟨rfl,fl⟩:=va.leafI
  exact⟨x,H4,I.thaw I3 th,r,k _ _ _ _ (Stp.same f (Thaw.same fro (zAw st) th)) (.flat fl) q⟩⟩
def zFF(u:UTt):UTt:=λρ Q=>u (pkE ρ) λb _=>Q b ρ
theorem sX{u:UTt}(h:∀F,UB X F e u):UB X F e (zFF u):=⟨λpins s σ H QQ I ⟨ρ,Q,f,hu,k⟩=>by
 obtain⟨H2,fro,ok2⟩:=yM I.hok
 have f2:=zBz f fro
 refine thn ((h ⟨H2,none⟩).pt pins s σ H2 (λb H3=>∃ρ',Stp X.K ⟨H2,none⟩ σ (pkE ρ) H2 ρ' H3/\Q b ρ) (I.frozen fro ok2) ⟨_,_,f2,hu,λb H' ρ' st q=>⟨ρ',st,q⟩⟩) λb s' ⟨H3,I3,q⟩=>?_
 obtain⟨ρ',st,q⟩:=q
 obtain⟨H4,th⟩:=zAh H H3
 exact⟨H4,I.thaw I3 th,k _ _ _ (Stp.same f (Thaw.same fro (zAw st) th)) q⟩⟩
end
end L2
namespace L2
open PySem PySem.Spec PyProof.Rows WordM
mutual
def eqT:Tv->Tv->Bool
 |.leaf v,.leaf w=>eqV v w
 |.seq s xs,.seq t ys=>s==t&&bZ xs ys
 |_,_=>false
def bZ:List Tv->List Tv->Bool
 |[],[]=>true
 |x::xs,y::ys=>eqT x y&&bZ xs ys
 |_,_=>false
end
def EqD:Nat->Tv->Prop
 |0,_=>False
 |_+1,.leaf _=>True
 |n+1,.seq _ xs=>∀U∈xs,EqD n U
 |_+1,.dct _=>False
theorem sV:∀{xs ys:List Tv},xs.length≠ys.length->bZ xs ys=false
 |[],[],h=>absurd rfl h
 |[],_::_,_=>by simp[bZ]
 |_::_,[],_=>by simp[bZ]
 |x::xs,y::ys,h=>by
  have:=sV (xs:=xs) (ys:=ys) (λe=>h (by simp[e]))
  simp[bZ,this]
theorem rR:∀{xs ys:List Tv},xs.length=ys.length->(List.range xs.length).all (λi=>eqT (xs.getD i nT) (ys.getD i nT))=bZ xs ys
 |[],[],_=>by simp[bZ]
 |[],_::_,h=>by simp at h
 |_::_,[],h=>by simp at h
 |x::xs,y::ys,h=>by
  have ih:=rR (xs:=xs) (ys:=ys) (by simpa using h)
  rw[List.length_cons,List.range_succ_eq_map,List.all_cons,List.all_map]
  show(eqT x y&&(List.range xs.length).all λi=>eqT (xs.getD i nT) (ys.getD i nT))=bZ (x::xs) (y::ys)
  rw[ih]
  simp[bZ]
theorem EqD.vp{K:W.Frag}{H:Hp}:∀{n d:Nat}{x:V}{T:Tv},EqD n T->VP K H d x T->VP K H n x T
 |0,_,_,_,h,_=>False.elim h
 |_+1,0,_,_,_,h=>False.elim h
 |n+1,d+1,x,T,h,v=>by
  rcases v with v|⟨t,a,xs,Ts,e1,e2,rfl,z,p⟩|⟨a,kvs,kts,e1,e2,rfl,_⟩
  ·exact .inl v
  ·have g:∀U∈Ts,EqD n U:=h
   refine .inr (.inl ⟨t,a,xs,Ts,e1,e2,rfl,z,?_⟩)
   clear e2 z h
   induction p with
   |nil=>exact .nil
   |cons r _ ih=>exact .cons ((g _ (.head _)).vp r) (ih λU hU=>g U (.tail _ hU))
  ·exact False.elim h
section
variable{X:Cx}{pins:List (Addr×Obj)}{σ:St}{H:Hp}{s:Shared}
theorem zEw{v:V}(h:dE v=true):eqV v v=true:=by
 cases v<;>first|exact absurd h Bool.false_ne_true|simp[eqV]
theorem PSeq.isList{a:Addr}{xs:List V}(I:Inv X pins σ H s)(h:PSeq X.K H false a xs):∃its:List Value,Vals xs its/\s.heap.IsList a its.toArray:=by
 obtain⟨its,r,p,_⟩:=I.list (cI h)
 exact⟨its,r,p.isList⟩
theorem PSeq.isTup{a:Addr}{xs:List V}(I:Inv X pins σ H s)(h:PSeq X.K H true a xs):∃its:List Value,Vals xs its/\s.heap.IsTuple a its.toArray:=by
 obtain⟨its,r,p,_⟩:=I.tuple h
 exact⟨its,r,p⟩
theorem zAK(I:Inv X pins σ H s):∀{n:Nat}{x:V}{T U:Tv},VP X.K H n x T->VP X.K H n x U->EqD n T->EqD n U->eqT T U=true
 |0,_,_,_,h,_,_,_=>False.elim h
 |n+1,x,T,U,h,h',d,d'=>by
  rcases h with⟨f,rfl⟩|⟨t,a,xs,Ts,rfl,e2,rfl,z,p⟩|⟨a,kvs,kts,rfl,e2,rfl,_⟩
  ·rcases h' with⟨_,rfl⟩|⟨t',a',xs',Ts',rfl,_⟩|⟨a',kvs',kts',rfl,_⟩
   ·simp[eqT,zEw f]
   ·cases f
   ·cases f
  ·rcases h' with⟨f,rfl⟩|⟨t',a',xs',Ts',e1',e2',rfl,z',p'⟩|⟨a',kvs',kts',e1',e2',rfl,_⟩
   ·cases f
   ·cases e1'
    have tt:t=t':=by
     cases t<;>cases t'<;>first|rfl|skip
     ·obtain⟨_,_,l1⟩:=PSeq.isList I e2
      obtain⟨_,_,l2⟩:=PSeq.isTup I e2'
      exact absurd rfl (SeqAt.ne_of_list_tuple l1 l2)
     ·obtain⟨_,_,l1⟩:=PSeq.isList I e2'
      obtain⟨_,_,l2⟩:=PSeq.isTup I e2
      exact absurd rfl (SeqAt.ne_of_list_tuple l1 l2)
    subst tt
    have ex:xs=xs':=by
     cases t with
     |false=>exact I.list_inj (cI e2) (cI e2')
     |true=>exact I.tuple_inj e2 e2'
    subst ex
    have d:∀U∈Ts,EqD n U:=d
    have d':∀U∈Ts',EqD n U:=d'
    have key:∀{xs:List V} {Ts Ts':List Tv},Paired (VP X.K H n) xs Ts->Paired (VP X.K H n) xs Ts'->(∀U∈Ts,EqD n U)->(∀U∈Ts',EqD n U)->bZ Ts Ts'=true:=by
     intro xs Ts Ts' p
     induction p generalizing Ts' with
     |nil=>intro p' _ _;cases p';simp[bZ]
     |cons r _ ih=>
      intro p' d d'
      cases p' with
      |cons r' t'=>simp[bZ,zAK I r r' (d _ (.head _)) (d' _ (.head _)),ih t' (λU hU=>d U (.tail _ hU)) (λU hU=>d' U (.tail _ hU))]
    simp[eqT,key p p' d d']
   ·exact False.elim d'
  ·exact False.elim d
theorem kD{x:V}(h:dE x=true):x=.non\/(∃b,x=.bl b)\/(∃i,x=.int i)\/∃z,x=.str z:=by
 cases x with
 |non=>exact .inl rfl
 |bl b=>exact .inr (.inl ⟨b,rfl⟩)
 |int i=>exact .inr (.inr (.inl ⟨i,rfl⟩))
 |str z=>exact .inr (.inr (.inr ⟨z,rfl⟩))
 |_=>exact absurd (show false=true from h) Bool.false_ne_true
open SeqAt in
theorem nV(I:Inv X pins σ H s){A:Around}(hu:A.units<cLine){x:V}{v:Value}{t:Bool}{a:Addr}{xs:List V}(f:dE x=true)(r:RelV x v)(h:PSeq X.K H t a xs):
  EqAt A s v (.ref a) false/\EqAt A s (.ref a) v false/\RcAt A s v (.ref a) false/\RcAt A s (.ref a) v false/\RcNeAt A s v (.ref a) true/\RcNeAt A s (.ref a) v true:=by
 cases t with
 |false=>
  obtain⟨_,_,l⟩:=PSeq.isList I h
  rcases kD f with rfl|⟨b,rfl⟩|⟨b,rfl⟩|⟨b,rfl⟩
  ·cases r;exact⟨.none_list l hu,.list_none l hu,.none_list l hu,.list_none l hu,.none_list l hu,.list_none l hu⟩
  ·cases r;exact⟨.bool_list b l hu,.list_bool b l hu,.bool_list b l hu,.list_bool b l hu,.bool_list b l hu,.list_bool b l hu⟩
  ·obtain⟨t,rfl⟩:=r;exact⟨.int_list b t l hu,.list_int b t l hu,.int_list b t l hu,.list_int b t l hu,.int_list b t l hu,.list_int b t l hu⟩
  ·obtain⟨t,rfl⟩:=r;exact⟨.str_list b t l hu,.list_str b t l hu,.str_list b t l hu,.list_str b t l hu,.str_list b t l hu,.list_str b t l hu⟩
 |true=>
  obtain⟨_,_,l⟩:=PSeq.isTup I h
  rcases kD f with rfl|⟨b,rfl⟩|⟨b,rfl⟩|⟨b,rfl⟩
  ·cases r;exact⟨.none_tuple l hu,.tuple_none l hu,.none_tuple l hu,.tuple_none l hu,.none_tuple l hu,.tuple_none l hu⟩
  ·cases r;exact⟨.bool_tuple b l hu,.tuple_bool b l hu,.bool_tuple b l hu,.tuple_bool b l hu,.bool_tuple b l hu,.tuple_bool b l hu⟩
  ·obtain⟨t,rfl⟩:=r;exact⟨.int_tuple b t l hu,.tuple_int b t l hu,.int_tuple b t l hu,.tuple_int b t l hu,.int_tuple b t l hu,.tuple_int b t l hu⟩
  ·obtain⟨t,rfl⟩:=r;exact⟨.str_tuple b t l hu,.tuple_str b t l hu,.str_tuple b t l hu,.tuple_str b t l hu,.str_tuple b t l hu,.tuple_str b t l hu⟩
open SeqAt in
theorem zES{A:Around}{x y:V}{v u:Value}(fx:dE x=true)(fy:dE y=true)(rx:RelV x v)(ry:RelV y u):RcAt A s v u (eqV x y)/\RcNeAt A s v u (!eqV x y):=by
 rcases kD fx with rfl|⟨a,rfl⟩|⟨a,rfl⟩|⟨a,rfl⟩<;>rcases kD fy with rfl|⟨b,rfl⟩|⟨b,rfl⟩|⟨b,rfl⟩
 ·cases rx;cases ry;exact⟨.none_none,.none_none⟩
 ·cases rx;cases ry;exact⟨.none_bool b,.none_bool b⟩
 ·cases rx;obtain⟨t,rfl⟩:=ry;exact⟨.none_int b t,.none_int b t⟩
 ·cases rx;obtain⟨t,rfl⟩:=ry;exact⟨.none_str b t,.none_str b t⟩
 ·cases rx;cases ry;exact⟨.bool_none a,.bool_none a⟩
 ·cases rx;cases ry;exact⟨.bool_bool a b,.bool_bool a b⟩
 ·cases rx;obtain⟨t,rfl⟩:=ry;exact⟨.bool_int a b t,.bool_int a b t⟩
 ·cases rx;obtain⟨t,rfl⟩:=ry;exact⟨.bool_str a b t,.bool_str a b t⟩
 ·obtain⟨t',rfl⟩:=rx;cases ry;exact⟨.int_none a t',.int_none a t'⟩
 ·obtain⟨t',rfl⟩:=rx;cases ry;exact⟨.int_bool a t' b,.int_bool a t' b⟩
 ·obtain⟨t',rfl⟩:=rx;obtain⟨t,rfl⟩:=ry;exact⟨.int_int a t' b t,.int_int a t' b t⟩
 ·obtain⟨t',rfl⟩:=rx;obtain⟨t,rfl⟩:=ry;exact⟨.int_str a t' b t,.int_str a t' b t⟩
 ·obtain⟨t',rfl⟩:=rx;cases ry;exact⟨.str_none a t',.str_none a t'⟩
 ·obtain⟨t',rfl⟩:=rx;cases ry;exact⟨.str_bool a t' b,.str_bool a t' b⟩
 ·obtain⟨t',rfl⟩:=rx;obtain⟨t,rfl⟩:=ry;exact⟨.str_int a t' b t,.str_int a t' b t⟩
 ·obtain⟨t',rfl⟩:=rx;obtain⟨t,rfl⟩:=ry;exact⟨.str_str a t' b t,.str_str a t' b t⟩
theorem yX{xs:List V}{us:List Value}(r:Vals xs us){j:Nat}(h:j<us.toArray.size):∃x,xs[j]?=some x/\RelV x us.toArray[j]:=by
 have l:=r.length
 have k:j<xs.length:=by rw[l];simpa using h
 obtain⟨u,hu,ru⟩:=r.get (i:=j) (x:=xs[j]) (List.getElem?_eq_getElem k)
 refine⟨_,List.getElem?_eq_getElem k,?_⟩
 have e1:us.toArray[j]=u:=by
  obtain⟨_,e⟩:=List.getElem?_eq_some_iff.mp hu
  simpa using e
 rw[e1];exact ru
open SeqAt in
theorem zA4(I:Inv X pins σ H s){A:Around}(hu:A.units<cLine){t:Bool}{a b:Addr}{xs ys:List V}{Ts Us:List Tv}(ha:PSeq X.K H t a xs)(hb:PSeq X.K H t b ys)(lx:xs.length=Ts.length)(ly:ys.length=Us.length)
  (it:∀(j:Nat) (x y:V) (T U:Tv) (v u:Value),xs[j]?=some x->ys[j]?=some y->Ts[j]?=some T->Us[j]?=some U->RelV x v->RelV y u->EqAt A.in1 s v u (eqT T U)):RcAt A s (.ref a) (.ref b) (bZ Ts Us)/\RcNeAt A s (.ref a) (.ref b) (!bZ Ts Us):=by
 have item:∀{vs us:List Value},Vals xs vs->Vals ys us->∀j (h1:j<vs.toArray.size) (h2:j<us.toArray.size),EqAt A.in1 s vs.toArray[j] us.toArray[j] (eqT (Ts.getD j nT) (Us.getD j nT)):=λ{vs us} r1 r2 j h1 h2=>by
  obtain⟨x,ex,rx⟩:=yX r1 h1
  obtain⟨y,ey,ry⟩:=yX r2 h2
  have k1:=(List.getElem?_eq_some_iff.mp ex).1
  have k2:=(List.getElem?_eq_some_iff.mp ey).1
  refine it j x y _ _ _ _ ex ey ?_ ?_ rx ry
  ·rw[List.getD_eq_getElem?_getD,List.getElem?_eq_getElem (by omega)];rfl
  ·rw[List.getD_eq_getElem?_getD,List.getElem?_eq_getElem (by omega)];rfl
 cases t with
 |false=>
  obtain⟨vs,r1,l1⟩:=PSeq.isList I ha
  obtain⟨us,r2,l2⟩:=PSeq.isList I hb
  have n1:=r1.length
  have n2:=r2.length
  by_cases hl:Ts.length=Us.length
  ·have e1:=RcAt.lists l1 l2 (by simp only[List.size_toArray];omega) hu (item r1 r2)
   have e2:=RcNeAt.lists l1 l2 (by simp only[List.size_toArray];omega) hu (item r1 r2)
   rw[show vs.toArray.size=Ts.length by rw[List.size_toArray];omega,rR hl]at e1 e2
   exact⟨e1,e2⟩
  ·rw[sV hl]
   have hne:(vs.toArray.size != us.toArray.size)=true:=by
    rw[bne_iff_ne,List.size_toArray,List.size_toArray];omega
   exact⟨.lists_lengths l1 l2 hne hu,.lists_lengths l1 l2 hne hu⟩
 |true=>
  obtain⟨vs,r1,l1⟩:=PSeq.isTup I ha
  obtain⟨us,r2,l2⟩:=PSeq.isTup I hb
  have n1:=r1.length
  have n2:=r2.length
  have e1:=RcAt.tuples l1 l2 hu (item r1 r2)
  have e2:=RcNeAt.tuples l1 l2 hu (item r1 r2)
  have ee:((List.range (min vs.toArray.size us.toArray.size)).all (λi=>eqT (Ts.getD i nT) (Us.getD i nT))&&vs.toArray.size==us.toArray.size)=bZ Ts Us:=by
   rw[show vs.toArray.size=Ts.length by rw[List.size_toArray];omega,show us.toArray.size=Us.length by rw[List.size_toArray];omega]
   by_cases hl:Ts.length=Us.length
   ·rw[<-hl,Nat.min_self,rR hl];simp
   ·rw[sV hl,beq_eq_false_iff_ne.mpr hl,Bool.and_false]
  rw[ee]at e1 e2
  exact⟨e1,e2⟩
open SeqAt in
theorem tR(I:Inv X pins σ H s):∀(n:Nat) {A:Around}{x y:V}{T U:Tv}{v u:Value},A.units+n<cLine->EqD n T->EqD n U->VP X.K H n x T->VP X.K H n y U->RelV x v->RelV y u->EqAt A s v u (eqT T U)
 |0,_,_,_,_,_,_,_,_,h,_,_,_,_,_=>False.elim h
 |n+1,A,x,y,T,U,v,u,hu,d,d',h,h',rx,ry=>by
  have hu0:A.units<cLine:=by omega
  have hh:=h
  have hh':=h'
  rcases h with⟨f,rfl⟩|⟨t,a,xs,Ts,rfl,e2,rfl,z,p⟩|⟨a,kvs,kts,rfl,e2,rfl,_⟩
  ·rcases h' with⟨f',rfl⟩|⟨t',a',xs',Ts',rfl,e2',rfl,z',p'⟩|⟨a',kvs',kts',rfl,_,rfl,_⟩
   ·have:=zBj (A:=A) (s:=s) rx ry f f'
    simpa[eqT]using this
   ·cases ry
    have:=(nV I hu0 f rx e2').1
    simpa[eqT]using this
   ·exact False.elim d'
  ·rcases h' with⟨f',rfl⟩|⟨t',b,ys,Us,rfl,e2',rfl,z',p'⟩|⟨a',kvs',kts',rfl,_,rfl,_⟩
   ·cases rx
    have:=(nV I hu0 f' ry e2).2.1
    simpa[eqT]using this
   ·cases rx
    cases ry
    by_cases ab:a=b
    ·subst ab
     have:=zAK I hh hh' d d'
     rw[this]
     exact EqAt.same _
    ·by_cases tt:t=t'
     ·subst tt
      have d:∀U∈Ts,EqD n U:=d
      have d':∀U∈Us,EqD n U:=d'
      have:=(zA4 I hu0 e2 e2' (Paired.length p) (Paired.length p') λj x y T U v u ex ey eT eU rx ry=>by
       obtain⟨T',eT',vx⟩:=fF p ex
       obtain⟨U',eU',vy⟩:=fF p' ey
       rw[eT]at eT';cases eT'
       rw[eU]at eU';cases eU'
       exact tR I n (by show A.units+1+n<_;omega) (d _ (List.mem_of_getElem? eT)) (d' _ (List.mem_of_getElem? eU)) vx vy rx ry).1
      have r:=EqAt.of_refs ab this
      simpa[eqT]using r
     ·have e:eqT (.seq t Ts) (.seq t' Us)=false:=by simp[eqT,tt]
      rw[e]
      refine EqAt.of_refs ab ?_
      cases t<;>cases t'<;>first|exact absurd rfl tt|skip
      ·obtain⟨_,_,l1⟩:=PSeq.isList I e2
       obtain⟨_,_,l2⟩:=PSeq.isTup I e2'
       exact .list_tuple l1 l2 hu0
      ·obtain⟨_,_,l1⟩:=PSeq.isTup I e2
       obtain⟨_,_,l2⟩:=PSeq.isList I e2'
       exact .tuple_list l1 l2 hu0
   ·exact False.elim d'
  ·exact False.elim d
end
def zIZ(Ts Us:List Tv):Prop:=Ts=[]\/Us=[]\/((∀T∈Ts,EqD 40 T)/\∀U∈Us,EqD 40 U)
def iX(neg:Bool):P2
 |.leaf v,.leaf w,Q=>Q (bT (neg != eqV v w))
 |.leaf _,.seq _ _,Q=>Q (bT neg)
 |.seq _ _,.leaf _,Q=>Q (bT neg)
 |.seq s xs,.seq t ys,Q=>zIZ xs ys/\Q (bT (neg != (s==t&&bZ xs ys)))
 |_,_,_=>False
section
variable{X:Cx}
open SeqAt in
theorem zAL{pins:List (Addr×Obj)}{σ:St}{H:Hp}{s:Shared}(I:Inv X pins σ H s)(hu:X.A.units+64<cLine){neg:Bool}{x y:V}{T U:Tv}{v u:Value}{Q:Tv->Prop}(vx:VA X.K H x T)(vy:VA X.K H y U)(rx:RelV x v)(ry:RelV y u)(h:iX neg T U Q):
  ∃b,Q (bT (neg != b))/\RcAt X.A s v u b/\RcNeAt X.A s v u (!b):=by
 have hu0:X.A.units<cLine:=by omega
 unfold iX at h
 split at h
 ·obtain⟨rfl,f⟩:=vx.leafI
  obtain⟨rfl,f'⟩:=vy.leafI
  exact⟨_,h,zES f f' rx ry⟩
 ·obtain⟨rfl,f⟩:=vx.leafI
  obtain⟨a,xs,rfl,hs,_⟩:=vy.seqI
  cases ry
  have r:=nV I hu0 f rx hs
  exact⟨false,by simpa using h,r.2.2.1,r.2.2.2.2.1⟩
 ·obtain⟨rfl,f⟩:=vy.leafI
  obtain⟨a,xs,rfl,hs,_⟩:=vx.seqI
  cases rx
  have r:=nV I hu0 f ry hs
  exact⟨false,by simpa using h,r.2.2.2.1,r.2.2.2.2.2⟩
 ·rename_i t Ts t' Us
  obtain⟨ok,q⟩:=h
  obtain⟨a,xs,rfl,hs,z,p⟩:=vx.seqI
  obtain⟨b,ys,rfl,hs',z',p'⟩:=vy.seqI
  cases rx
  cases ry
  refine⟨_,q,?_⟩
  by_cases tt:t=t'
  ·subst tt
   have e:(t==t&&bZ Ts Us)=bZ Ts Us:=by simp
   rw[e]
   refine zA4 I hu0 hs hs' (Paired.length p) (Paired.length p') λj x y T U v u ex ey eT eU rx ry=>?_
   rcases ok with rfl|rfl|⟨o1,o2⟩
   ·cases eT
   ·cases eU
   ·obtain⟨T',eT',d,vx⟩:=fF p ex
    obtain⟨U',eU',d',vy⟩:=fF p' ey
    rw[eT]at eT';cases eT'
    rw[eU]at eU';cases eU'
    have k1:=o1 _ (List.mem_of_getElem? eT)
    have k2:=o2 _ (List.mem_of_getElem? eU)
    exact tR I 40 (by show X.A.units+1+40<_;omega) k1 k2 (k1.vp vx) (k2.vp vy) rx ry
  ·have e:(t==t'&&bZ Ts Us)=false:=by simp[tt]
   rw[e]
   cases t<;>cases t'<;>first|exact absurd rfl tt|skip
   ·obtain⟨_,_,l1⟩:=PSeq.isList I hs
    obtain⟨_,_,l2⟩:=PSeq.isTup I hs'
    exact⟨.list_tuple l1 l2 hu0,.list_tuple l1 l2 hu0⟩
   ·obtain⟨_,_,l1⟩:=PSeq.isTup I hs
    obtain⟨_,_,l2⟩:=PSeq.isList I hs'
    exact⟨.tuple_list l1 l2 hu0,.tuple_list l1 l2 hu0⟩
 ·exact False.elim h
def zBO(K:W.Frag)(neg:Bool):R2:=λx y H Q=>∃T U,VA K H x T/\VA K H y U/\iX neg T U λW=>∃b,W=bT b/\Q (.bl b) H
theorem zGq(hu:X.A.units+64<cLine):OpR X (compareOp .Eq) (zBO X.K false):=by
 rintro pins s σ H x y v u Q I rx ry ⟨T,U,vx,vy,h⟩
 obtain⟨b,⟨b',e,q⟩,r,_⟩:=zAL I hu vx vy rx ry h
 cases e
 exact r X.prog X.w X.xe _ ⟨.bl b,H,I,rfl,by simpa using q⟩
theorem zGn(hu:X.A.units+64<cLine):OpR X (compareOp .NotEq) (zBO X.K true):=by
 rintro pins s σ H x y v u Q I rx ry ⟨T,U,vx,vy,h⟩
 obtain⟨b,⟨b',e,q⟩,_,r⟩:=zAL I hu vx vy rx ry h
 cases e
 exact r X.prog X.w X.xe _ ⟨.bl (!b),H,I,rfl,by simpa using q⟩
theorem yF{neg:Bool}{T U:Tv}{Q Q':Tv->Prop}(h:iX neg T U Q)(i:∀b,Q (bT b)->Q' (bT b)):iX neg T U Q':=by
 unfold iX at h ⊢
 split at h
 ·exact i _ h
 ·exact i _ h
 ·exact i _ h
 ·exact⟨h.1,i _ h.2⟩
 ·exact False.elim h
abbrev pEq:P2:=iX false
abbrev pNe:P2:=iX true
theorem aW(hu:X.A.units+64<cLine):PuCmp X (compareOp .Eq) pEq:=⟨_,zGq hu,λx y T U H Q QQ vx vy h k=>⟨T,U,vx,vy,yF h λb q=>⟨b,rfl,k _ _ _ (Same.refl _) (.flat rfl) q⟩⟩⟩
theorem mW(hu:X.A.units+64<cLine):PuCmp X (compareOp .NotEq) pNe:=⟨_,zGn hu,λx y T U H Q QQ vx vy h k=>⟨T,U,vx,vy,yF h λb q=>⟨b,rfl,k _ _ _ (Same.refl _) (.flat rfl) q⟩⟩⟩
end
end L2
namespace L2
open PySem PySem.Spec PyProof.Rows WordM
section
variable{X:Cx}{F:Fm}
theorem cT{K:W.Frag}{H:Hp}{xs:List V}{T:Tv}(h:VAs K H xs [T]):∃x,xs=[x]/\VA K H x T:=by
 cases h with
 |cons r t=>cases t;exact⟨_,rfl,r⟩
theorem uY{K:W.Frag}{H:Hp}{xs:List V}{T U:Tv}(h:VAs K H xs [T,U]):∃x y,xs=[x,y]/\VA K H x T/\VA K H y U:=by
 cases h with
 |cons r t=>
  obtain⟨y,rfl,v⟩:=cT t
  exact⟨_,y,rfl,r,v⟩
def zHc(K:W.Frag):R2:=λx y H Q=>∃l b xs zs,x=.ref l/\y=.ref b/\Rd H l (.lst xs)/\Rd H b (.lst zs)/\xs.length+zs.length<=sizeLine/\∀p,H p=none->Q (.ref p) (upd H p (.lst (xs++zs)))
theorem zFd:OpR X (binaryOp .Add) (zHc X.K):=by
 rintro pins s σ H _ _ v u Q I rx ry ⟨l,b,xs,zs,rfl,rfl,hH,hB,hz,q⟩
 cases rx
 cases ry
 obtain⟨z,its,n,r,e⟩:=hH.ok I.hok
 obtain⟨z2,its2,n2,r2,e2⟩:=hB.ok I.hok
 have l1:=r.length
 have l2:=r2.length
 refine PySem.P.add_list e e2 ?_ (by rw[List.size_toArray,List.size_toArray];omega)
 rw[show its.toArray++its2.toArray=(its++its2).toArray by simp]
 exact⟨.ref _,_,I.lnew (t':=s.toks) (r.append r2) (by rw[List.length_append];omega),rfl,q _ I.fresh⟩
def nK:P2
 |.leaf (.int i),.leaf (.int j),Q=>Q (iT (i+j))
 |.leaf (.str x),.leaf (.str y),Q=>x.length+y.length<=100000/\Q (sT (x++y))
 |.seq true xs,.seq true ys,Q=>xs.length+ys.length<=100000/\Q (.seq true (xs++ys))
 |.seq false xs,.seq false ys,Q=>xs.length+ys.length<=100000/\Q (.seq false (xs++ys))
 |_,_,_=>False
theorem bN:gM X (binaryOp .Add) nK:=⟨_,op_add.or (op_add_str.or (op_catG.or zFd)),λx y T U H Q QQ vx vy h k=>by
 unfold nK at h
 split at h
 ·obtain⟨rfl,_⟩:=vx.leafI
  obtain⟨rfl,_⟩:=vy.leafI
  exact .inl ⟨_,_,rfl,rfl,k _ _ _ (.flat rfl) h⟩
 ·obtain⟨rfl,_⟩:=vx.leafI
  obtain⟨rfl,_⟩:=vy.leafI
  exact .inr (.inl ⟨_,_,rfl,rfl,fI h.1,k _ _ _ (.flat rfl) h.2⟩)
 ·obtain⟨a,xs,rfl,hs,z,p⟩:=vx.seqI
  obtain⟨b,ys,rfl,hs',z',p'⟩:=vy.seqI
  have l1:xs.length=_:=Paired.length p
  have l2:ys.length=_:=Paired.length p'
  refine .inr (.inr (.inl ⟨a,b,xs,ys,rfl,rfl,hs,hs',fI (by omega),λr H' hr sm=>k _ _ _ ⟨sm,.inl (VA.seq (t:=true) hr (by rw[List.length_append];exact h.1) (nX (p.hs sm.hs) (p'.hs sm.hs)))⟩ h.2⟩))
 ·obtain⟨a,xs,rfl,⟨ob,hs⟩,z,p⟩:=vx.seqI
  obtain⟨b,ys,rfl,⟨ob',hs'⟩,z',p'⟩:=vy.seqI
  have l1:xs.length=_:=Paired.length p
  have l2:ys.length=_:=Paired.length p'
  refine .inr (.inr (.inr ⟨a,b,xs,ys,rfl,rfl,.inr ⟨ob,hs⟩,.inr ⟨ob',hs'⟩,fI (by omega),λr n=>k _ _ _ (Raw.lst n (by rw[List.length_append];exact h.1) (nX p p')) h.2⟩))
 ·exact False.elim h⟩
def pI2(C:Int->Int->Prop)(g:Int->Int->V):P2
 |.leaf (.int i),.leaf (.int j),Q=>C i j/\Q (.leaf (g i j))
 |_,_,_=>False
theorem uR{f:Value->Value->Sem Value}{C:Int->Int->Prop}{g:Int->Int->V}(h:OpR X f (rI C g))(fl:∀i j,dE (g i j)=true):PuCmp X f (pI2 C g):=⟨_,h,λx y T U H Q QQ vx vy h k=>by
 unfold pI2 at h
 split at h
 ·obtain⟨rfl,_⟩:=vx.leafI
  obtain⟨rfl,_⟩:=vy.leafI
  exact⟨_,_,rfl,rfl,h.1,k _ _ _ (Same.refl _) (.flat (fl _ _)) h.2⟩
 ·exact False.elim h⟩
def lF(g:Int->Int->V):P2
 |.leaf (.int i),.leaf (.int j),Q=>Q (.leaf (g i j))
 |_,_,_=>False
theorem pK{f:Value->Value->Sem Value}{g:Int->Int->V}(h:OpR X f (rI0 g))(fl:∀i j,dE (g i j)=true):PuCmp X f (lF g):=⟨_,h,λx y T U H Q QQ vx vy h k=>by
 unfold lF at h
 split at h
 ·obtain⟨rfl,_⟩:=vx.leafI
  obtain⟨rfl,_⟩:=vy.leafI
  exact⟨_,_,rfl,rfl,k _ _ _ (Same.refl _) (.flat (fl _ _)) h⟩
 ·exact False.elim h⟩
abbrev zHZ:P2:=lF λi j=>.int (i-j)
theorem eC:gM X (binaryOp .Sub) zHZ:=(pK zGm λ_ _=>rfl).op
def zHA(i j:Int):Prop:=CMul i j\/(BigOk i/\BigOk j)
def wA:P2
 |.leaf (.int i),.leaf (.int j),Q=>zHA i j/\Q (iT (i*j))
 |.leaf (.str z),.leaf (.int n),Q=>(z.length<=1000/\n<=1000 /\ -1000<=n)/\Q (sT (fX z n))
 |_,_,_=>False
theorem zF2:gM X (binaryOp .Mult) wA:=⟨_,op_mul.or (op_mulB.or zFb),λx y T U H Q QQ vx vy h k=>by
 unfold wA at h
 split at h
 ·obtain⟨rfl,_⟩:=vx.leafI
  obtain⟨rfl,_⟩:=vy.leafI
  rcases h.1 with c|c
  ·exact .inl ⟨_,_,rfl,rfl,c,k _ _ _ (.flat rfl) h.2⟩
  ·exact .inr (.inl ⟨_,_,rfl,rfl,c,k _ _ _ (.flat rfl) h.2⟩)
 ·obtain⟨rfl,_⟩:=vx.leafI
  obtain⟨rfl,_⟩:=vy.leafI
  exact .inr (.inr ⟨_,_,rfl,rfl,h.1.1,h.1.2.1,h.1.2.2,k _ _ _ (.flat rfl) h.2⟩)
 ·exact False.elim h⟩
abbrev zBt:P2:=pI2 (λ_ j=>0<j/\BigOk j) λi j=>.int (i / j)
theorem jM:gM X (binaryOp .FloorDiv) zBt:=(uR zO λ_ _=>rfl).op
abbrev zBQ:P2:=pI2 (λ_ j=>0<j) λi j=>.int (i % j)
theorem iK:gM X (binaryOp .Mod) zBQ:=(uR gX λ_ _=>rfl).op
abbrev zH1:P2:=pI2 zB3 λi j=>.int (i ^ j.toNat)
theorem mI:gM X (binaryOp .Pow) zH1:=(uR zBc λ_ _=>rfl).op
def pLt:P2
 |.leaf (.int i),.leaf (.int j),Q=>Q (bT (decide (i<j)))
 |.leaf (.str x),.leaf (.str y),Q=>Q (bT (decide (x.cps.toList<y.cps.toList)))
 |_,_,_=>False
theorem iP:PuCmp X (compareOp .Lt) pLt:=⟨_,op_lt.or zDs,λx y T U H Q QQ vx vy h k=>by
 unfold pLt at h
 split at h
 ·obtain⟨rfl,_⟩:=vx.leafI
  obtain⟨rfl,_⟩:=vy.leafI
  exact .inl ⟨_,_,rfl,rfl,k _ _ _ (Same.refl _) (.flat rfl) h⟩
 ·obtain⟨rfl,_⟩:=vx.leafI
  obtain⟨rfl,_⟩:=vy.leafI
  exact .inr ⟨_,_,rfl,rfl,k _ _ _ (Same.refl _) (.flat rfl) h⟩
 ·exact False.elim h⟩
abbrev pLe:P2:=lF λi j=>.bl (decide (i<=j))
theorem eE:PuCmp X (compareOp .LtE) pLe:=pK zHl λ_ _=>rfl
abbrev pGt:P2:=lF λi j=>.bl (decide (j<i))
theorem kW:PuCmp X (compareOp .Gt) pGt:=pK zHm λ_ _=>rfl
abbrev pGe:P2:=lF λi j=>.bl (decide (j<=i))
theorem zBq:PuCmp X (compareOp .GtE) pGe:=pK zHn λ_ _=>rfl
def isV(v:V):Tv->Bool
 |.leaf w=>decide (w=v)
 |_=>false
theorem zBg{K:W.Frag}{H:Hp}{x v:V}{T:Tv}(f:dE v=true)(h:VA K H x T):decide (x=v)=isV v T:=by
 cases T with
 |leaf w=>obtain⟨rfl,_⟩:=h.leafI;rfl
 |seq t Ts=>
  obtain⟨a,_,rfl,_⟩:=h.seqI
  exact decide_eq_false (λz=>by rw[<-z]at f;cases f)
 |dct kts=>
  obtain⟨a,_,rfl,_⟩:=h.dctI
  exact decide_eq_false (λz=>by rw[<-z]at f;cases f)
def zBR(neg:Bool):P2
 |T,.leaf .non,Q=>Q (bT (neg != isV .non T))
 |T,.leaf (.bl b),Q=>Q (bT (neg != isV (.bl b) T))
 |_,_,_=>False
abbrev pIs:P2:=zBR false
theorem kU:PuCmp X (compareOp .Is) pIs:=⟨_,op_isN.or zGo,λx y T U H Q QQ vx vy h k=>by
 unfold pIs zBR at h
 split at h
 ·obtain⟨rfl,_⟩:=vy.leafI
  exact .inl ⟨rfl,k _ _ _ (Same.refl _) (.flat rfl) (by rw[zBg rfl vx];simpa using h)⟩
 ·obtain⟨rfl,_⟩:=vy.leafI
  exact .inr ⟨_,rfl,k _ _ _ (Same.refl _) (.flat rfl) (by rw[zBg rfl vx];simpa using h)⟩
 ·exact False.elim h⟩
theorem tW{pins:List (Addr×Obj)}{σ:St}{H:Hp}{s:Shared}(I:Inv X pins σ H s):∀{n:Nat}{x:V}{T U:Tv},EqD n T->EqD n U->VP X.K H n x T->VP X.K H n x U->T=U
 |0,_,_,_,h,_,_,_=>False.elim h
 |n+1,x,T,U,d,d',h,h'=>by
  rcases h with⟨f,rfl⟩|⟨t,a,xs,Ts,rfl,e2,rfl,z,p⟩|⟨a,kvs,kts,rfl,e2,rfl,_⟩
  ·rcases h' with⟨_,rfl⟩|⟨t',a',xs',Ts',rfl,_⟩|⟨a',kvs',kts',rfl,_⟩
   ·rfl
   ·cases f
   ·cases f
  ·rcases h' with⟨f,rfl⟩|⟨t',a',xs',Ts',e1',e2',rfl,z',p'⟩|⟨a',kvs',kts',e1',e2',rfl,_⟩
   ·cases f
   ·cases e1'
    have tt:t=t':=by
     cases t<;>cases t'<;>first|rfl|skip
     ·obtain⟨_,_,l1⟩:=PSeq.isList I e2
      obtain⟨_,_,l2⟩:=PSeq.isTup I e2'
      exact absurd rfl (SeqAt.ne_of_list_tuple l1 l2)
     ·obtain⟨_,_,l1⟩:=PSeq.isList I e2'
      obtain⟨_,_,l2⟩:=PSeq.isTup I e2
      exact absurd rfl (SeqAt.ne_of_list_tuple l1 l2)
    subst tt
    have ex:xs=xs':=by
     cases t with
     |false=>exact I.list_inj (cI e2) (cI e2')
     |true=>exact I.tuple_inj e2 e2'
    subst ex
    have g:∀U∈Ts,EqD n U:=d
    have g':∀U∈Ts',EqD n U:=d'
    have key:∀{xs:List V} {Ts Ts':List Tv},Paired (VP X.K H n) xs Ts->Paired (VP X.K H n) xs Ts'->(∀U∈Ts,EqD n U)->(∀U∈Ts',EqD n U)->Ts=Ts':=by
     intro xs Ts Ts' p
     induction p generalizing Ts' with
     |nil=>intro p' _ _;cases p';rfl
     |cons r _ ih=>
      intro p' d d'
      cases p' with
      |cons r' t'=>rw[tW I (d _ (.head _)) (d' _ (.head _)) r r',ih t' (λU hU=>d U (.tail _ hU)) (λU hU=>d' U (.tail _ hU))]
    rw[key p p' g g']
   ·exact False.elim d'
  ·exact False.elim d
def nO(T:Tv)(Us:List Tv):Prop:=EqD 40 T/\∀U∈Us,EqD 40 U
open Classical in
theorem oW{pins:List (Addr×Obj)}{σ:St}{H:Hp}{s:Shared}(I:Inv X pins σ H s)(hu:X.A.units+64<cLine){x:V}{T:Tv}{v:Value}{ys:List V}{Us:List Tv}{its:List Value}(vx:VA X.K H x T)(rx:RelV x v)(p:VAs X.K H ys Us)(r:Vals ys its)(ok:nO T Us):
  ∃e:Value->Bool,(∀y,y∈its.toArray->SeqAt.EqAt X.A.in1 s y v (e y))/\its.toArray.any e=Us.any λU=>eqT U T:=by
 obtain⟨dx,vx⟩:=vx
 have hx:=ok.1.vp vx
 refine⟨λw=>decide (∃y U,RelV y w/\VP X.K H 40 y U/\EqD 40 U/\eqT U T=true),λw hw=>?_,?_⟩
 ·have hw:w∈its:=by simpa using hw
  obtain⟨j,hj,rfl⟩:=List.mem_iff_getElem.mp hw
  have hj':j<ys.length:=by rw[r.length];exact hj
  obtain⟨u,eu,ru⟩:=r.get (List.getElem?_eq_getElem hj')
  rw[List.getElem?_eq_getElem hj]at eu
  cases eu
  obtain⟨U,eU,d,vU⟩:=fF p (List.getElem?_eq_getElem hj')
  have dU:=ok.2 U (List.mem_of_getElem? eU)
  have e:=tR I 40 (A:=X.A.in1) (by show X.A.units+1+40<_;omega) dU ok.1 (dU.vp vU) hx ru rx
  have ee:decide (∃y U,RelV y its[j]/\VP X.K H 40 y U/\EqD 40 U/\eqT U T=true)=eqT U T:=by
   rw[Bool.eq_iff_iff,decide_eq_true_iff]
   constructor
   ·rintro⟨y,U',ry,vy,dy,z⟩
    have:=RelV.inj ry ru
    subst this
    rw[tW I dU dy (dU.vp vU) vy]
    exact z
   ·intro z
    exact⟨_,U,ru,dU.vp vU,dU,z⟩
  show SeqAt.EqAt X.A.in1 s its[j] v (decide (∃y U,RelV y its[j]/\VP X.K H 40 y U/\EqD 40 U/\eqT U T=true))
  rw[ee]
  exact e
 ·rw[Bool.eq_iff_iff,Array.any_eq_true',List.any_eq_true]
  constructor
  ·rintro⟨w,hw,z⟩
   rw[decide_eq_true_iff]at z
   obtain⟨y,U',ry,vy,dy,z⟩:=z
   have hw:w∈its:=by simpa using hw
   obtain⟨j,hj,rfl⟩:=List.mem_iff_getElem.mp hw
   have hj':j<ys.length:=by rw[r.length];exact hj
   obtain⟨u,eu,ru⟩:=r.get (List.getElem?_eq_getElem hj')
   rw[List.getElem?_eq_getElem hj]at eu
   cases eu
   obtain⟨U,eU,d,vU⟩:=fF p (List.getElem?_eq_getElem hj')
   have dU:=ok.2 U (List.mem_of_getElem? eU)
   have:=RelV.inj ry ru
   subst this
   refine⟨U,List.mem_of_getElem? eU,?_⟩
   rw[tW I dU dy (dU.vp vU) vy]
   exact z
  ·rintro⟨U,hU,z⟩
   obtain⟨j,hj,rfl⟩:=List.mem_iff_getElem.mp hU
   obtain⟨y,ey,d,vy⟩:=nS p (List.getElem?_eq_getElem hj)
   obtain⟨u,eu,ru⟩:=r.get ey
   have dU:=ok.2 _ hU
   exact⟨u,by simpa using List.mem_of_getElem? eu,decide_eq_true ⟨y,_,ru,dU.vp vy,dU,z⟩⟩
def zBN(K:W.Frag)(neg:Bool):R2:=λx y H Q=>∃T t Us,VA K H x T/\VA K H y (.seq t Us)/\nO T Us/\Q (.bl (neg != Us.any λU=>eqT U T)) H
theorem zGp(hu:X.A.units+64<cLine):OpR X (compareOp .In) (zBN X.K false):=by
 rintro pins s σ H x y v u Q I rx ry ⟨T,t,Us,vx,vy,ok,q⟩
 obtain⟨a,ys,rfl,hs,z,p⟩:=vy.seqI
 cases ry
 cases t with
 |false=>
  obtain⟨its,r,l⟩:=PSeq.isList I hs
  obtain⟨e,h1,h2⟩:=oW I hu vx rx p r ok
  exact SeqAt.in_listAt e l h1 ⟨.bl _,H,I,rfl,by rw[h2];simpa using q⟩
 |true=>
  obtain⟨its,r,l⟩:=PSeq.isTup I hs
  obtain⟨e,h1,h2⟩:=oW I hu vx rx p r ok
  exact SeqAt.in_tupleAt e l h1 ⟨.bl _,H,I,rfl,by rw[h2];simpa using q⟩
theorem zDr(hu:X.A.units+64<cLine):OpR X (compareOp .NotIn) (zBN X.K true):=by
 rintro pins s σ H x y v u Q I rx ry ⟨T,t,Us,vx,vy,ok,q⟩
 obtain⟨a,ys,rfl,hs,z,p⟩:=vy.seqI
 cases ry
 cases t with
 |false=>
  obtain⟨its,r,l⟩:=PSeq.isList I hs
  obtain⟨e,h1,h2⟩:=oW I hu vx rx p r ok
  exact SeqAt.notIn_listAt e l h1 ⟨.bl _,H,I,rfl,by rw[h2];simpa using q⟩
 |true=>
  obtain⟨its,r,l⟩:=PSeq.isTup I hs
  obtain⟨e,h1,h2⟩:=oW I hu vx rx p r ok
  exact SeqAt.notIn_tupleAt e l h1 ⟨.bl _,H,I,rfl,by rw[h2];simpa using q⟩
def zEU:R2:=λy x H Q=>∃a o,x=.ref a/\kA H a y o/\Q (.bl (!o.isSome)) H
theorem zCd(hu:X.A.units+1<cLine):OpR X (compareOp .NotIn) zEU:=by
 rintro pins s σ H y _ u v Q I ry rx ⟨a,o,rfl,g,q⟩
 cases rx
 exact zFu hu I g ry λs' I'=>⟨.bl _,H,I',rfl,q⟩
def inS(i j:Str):Bool:=!(Builtin.Str.occurrences j i 0 j.length 1).isEmpty
def qV(neg:Bool):P2
 |T,.seq _ Us,Q=>nO T Us/\Q (bT (neg != Us.any λU=>eqT U T))
 |.leaf (.str i),.leaf (.str j),Q=>Q (bT (neg != inS i j))
 |.leaf (.str k),.dct kts,Q=>Q (bT (neg != (cZ kts k).isSome))
 |_,_,_=>False
abbrev pIn:P2:=qV false
abbrev uG:P2:=qV true
theorem eY(hu:X.A.units+64<cLine):PuCmp X (compareOp .In) pIn:=⟨_,(zGp hu).or (op_in_str.or (zCO (by omega))),λx y T U H Q QQ vx vy h k=>by
 unfold pIn qV at h
 split at h
 ·exact .inl ⟨_,_,_,vx,vy,h.1,k _ _ _ (Same.refl _) (.flat rfl) h.2⟩
 ·obtain⟨rfl,_⟩:=vx.leafI
  obtain⟨rfl,_⟩:=vy.leafI
  exact .inr (.inl ⟨_,_,rfl,rfl,k _ _ _ (Same.refl _) (.flat rfl) (by simpa[inS]using h)⟩)
 ·rename_i kk kts
  obtain⟨rfl,_⟩:=vx.leafI
  obtain⟨a,kvs,rfl,⟨ob,hd⟩,n,z,p⟩:=vy.dctI
  refine .inr (.inr ⟨a,_,rfl,.inl ⟨kvs,.inr kk,.inr ⟨ob,hd⟩,rfl,rfl⟩,k _ _ _ (Same.refl _) (.flat rfl) ?_⟩)
  rcases tN p kk with⟨e1,e2⟩|⟨U,v,e1,e2,_⟩
  ·rw[e2];rw[e1]at h;exact h
  ·rw[e2];rw[e1]at h;exact h
 ·exact False.elim h⟩
theorem gC(hu:X.A.units+64<cLine):PuCmp X (compareOp .NotIn) uG:=⟨_,(zDr hu).or (op_notIn_str.or (zCd (by omega))),λx y T U H Q QQ vx vy h k=>by
 unfold uG qV at h
 split at h
 ·exact .inl ⟨_,_,_,vx,vy,h.1,k _ _ _ (Same.refl _) (.flat rfl) h.2⟩
 ·obtain⟨rfl,_⟩:=vx.leafI
  obtain⟨rfl,_⟩:=vy.leafI
  exact .inr (.inl ⟨_,_,rfl,rfl,k _ _ _ (Same.refl _) (.flat rfl) (by simpa[inS]using h)⟩)
 ·rename_i kk kts
  obtain⟨rfl,_⟩:=vx.leafI
  obtain⟨a,kvs,rfl,⟨ob,hd⟩,n,z,p⟩:=vy.dctI
  refine .inr (.inr ⟨a,_,rfl,.inl ⟨kvs,.inr kk,.inr ⟨ob,hd⟩,rfl,rfl⟩,k _ _ _ (Same.refl _) (.flat rfl) ?_⟩)
  rcases tN p kk with⟨e1,e2⟩|⟨U,v,e1,e2,_⟩
  ·rw[e2];rw[e1]at h;exact h
  ·rw[e2];rw[e1]at h;exact h
 ·exact False.elim h⟩
def pIx:P2
 |.seq _ Ts,.leaf (.int i),Q=>∃U,atI Ts i=some U/\Q U
 |.leaf (.str z),.leaf (.int i),Q=>z.length<=100000/\∃c,atI z.cps.toList i=some c/\Q (sT ⟨#[c]⟩)
 |.dct kts,.leaf (.str k),Q=>∃U,cZ kts k=some U/\Q U
 |_,_,_=>False
theorem xP{α β:Type}{R:α->β->Prop}{xs:List α}{ys:List β}{i:Int}{y:β}(p:Paired R xs ys)(h:atI ys i=some y):∃x,atI xs i=some x/\R x y:=by
 unfold atI at h ⊢
 rw[Paired.length p]
 cases e:ixN ys.length i with
 |none=>rw[e]at h;cases h
 |some j=>
  rw[e]at h
  obtain⟨x,ex,r⟩:=nS p (show ys[j]?=some y from h)
  exact⟨x,ex,r⟩
theorem aH(hu:X.A.units+64<cLine):zB1 X pIx:=⟨_,ix_seq.or (zFk (by omega)),λx y T U H Q QQ vx vy h k=>by
 unfold pIx at h
 split at h
 ·rename_i t Ts i
  obtain⟨rfl,_⟩:=vy.leafI
  obtain⟨a,xs,rfl,hs,z,p⟩:=vx.seqI
  obtain⟨U,e,q⟩:=h
  obtain⟨x,ex,v⟩:=xP p e
  cases t with
  |false=>exact .inl (.inl ⟨a,xs,i,x,rfl,rfl,cI hs,ex,k _ _ _ (.va v) q⟩)
  |true=>exact .inl (.inr (.inl ⟨a,xs,i,x,rfl,rfl,hs,ex,k _ _ _ (.va v) q⟩))
 ·obtain⟨rfl,_⟩:=vx.leafI
  obtain⟨rfl,_⟩:=vy.leafI
  obtain⟨l,c,e,q⟩:=h
  exact .inl (.inr (.inr ⟨_,_,c,rfl,rfl,fI l,e,k _ _ _ (.flat rfl) q⟩))
 ·rename_i kts kk
  obtain⟨rfl,_⟩:=vy.leafI
  obtain⟨a,kvs,rfl,⟨ob,hd⟩,n,z,p⟩:=vx.dctI
  obtain⟨U,e,q⟩:=h
  rcases tN p kk with⟨e1,e2⟩|⟨U',v,e1,e2,vv⟩
  ·rw[e1]at e;cases e
  ·rw[e1]at e;cases e
   exact .inr ⟨a,v,rfl,.inl ⟨kvs,.inr kk,.inr ⟨ob,hd⟩,rfl,e2.symm⟩,k _ _ _ (.va vv) q⟩
 ·exact False.elim h⟩
def fE{α:Type}(xs:List α)(lo hi:Option Int):List α:=(xs.drop (HT.sIx xs.length 0 lo)).take (HT.sIx xs.length xs.length hi-HT.sIx xs.length 0 lo)
theorem wY{α β:Type}{R:α->β->Prop}:∀{l:List α}{m:List β}(n:Nat),Paired R l m->Paired R (l.drop n) (m.drop n)
 |_,_,0,p=>p
 |_,_,_+1,.nil=>.nil
 |_,_,n+1,.cons _ t=>wY n t
theorem yD{α β:Type}{R:α->β->Prop}:∀{l:List α}{m:List β}(n:Nat),Paired R l m->Paired R (l.take n) (m.take n)
 |_,_,0,p=>by rw[List.take_zero,List.take_zero];exact .nil
 |_,_,_+1,.nil=>.nil
 |_,_,n+1,.cons r t=>.cons r (yD n t)
theorem xH{α β:Type}{R:α->β->Prop}{l:List α}{m:List β}(lo hi:Option Int)(p:Paired R l m):Paired R (fE l lo hi) (fE m lo hi):=by
 unfold fE
 rw[Paired.length p]
 exact yD _ (wY _ p)
theorem zEx{α:Type}(xs:List α)(lo hi:Option Int):(fE xs lo hi).length<=xs.length:=by
 unfold fE
 rw[List.length_take,List.length_drop]
 omega
def zH0:PSl
 |.seq t Ts,lo,hi,Q=>Q (.seq t (fE Ts lo hi))
 |.leaf (.str z),lo,hi,Q=>z.length<=100000/\Q (sT (Txt.slice z lo hi))
 |_,_,_,_=>False
theorem dQ:zBY X zH0:=⟨_,sl_list.or (sl_tupW.or zFM),λx T lo hi H Q QQ vx h k=>by
 cases T with
 |seq t Ts=>
  have h:Q (.seq t (fE Ts lo hi)):=h
  obtain⟨a,xs,rfl,hs,z,p⟩:=vx.seqI
  have z':(fE Ts lo hi).length<=100000:=Nat.le_trans (zEx _ _ _) z
  cases t with
  |false=>exact .inl ⟨a,xs,rfl,cI hs,λr n=>k _ _ _ (Raw.lst n z' (xH lo hi p)) h⟩
  |true=>exact .inr (.inl ⟨a,xs,rfl,hs,λr H' sm hr=>k _ _ _ ⟨sm,.inl (VA.seq (t:=true) hr z' (Paired.mapP (xH lo hi p) λ_ _ q=>VA.hs sm.hs q))⟩ h⟩)
 |leaf w=>
  cases w with
  |str zz=>
   have h:zz.length<=100000/\Q (sT (Txt.slice zz lo hi)):=h
   obtain⟨rfl,_⟩:=vx.leafI
   exact .inr (.inr ⟨_,rfl,fI h.1,k _ _ _ (.flat rfl) h.2⟩)
  |_=>exact False.elim h
 |dct kts=>exact False.elim h⟩
def wB:Pn
 |[.seq _ Ts],Q=>Q (iT Ts.length)
 |[.leaf (.str z)],Q=>z.length<=100000/\Q (iT z.length)
 |[.dct kts],Q=>Q (iT kts.length)
 |_,_=>False
theorem cE:fV X (.builtin "len") wB:=⟨_,call_len_seq.or (call_len_str.or zCZ),λxs Ts H Q QQ vx h k=>by
 unfold wB at h
 split at h
 ·rename_i t Ts
  obtain⟨x,rfl,v⟩:=cT vx
  obtain⟨a,xs,rfl,hs,z,p⟩:=v.seqI
  have l:xs.length=_:=Paired.length p
  refine .inl ⟨a,xs,rfl,?_,k _ _ _ (.flat rfl) (by rw[l];exact h)⟩
  cases t with
  |false=>exact .inl (cI hs)
  |true=>exact .inr hs
 ·obtain⟨x,rfl,v⟩:=cT vx
  obtain⟨rfl,_⟩:=v.leafI
  exact .inr (.inl ⟨_,rfl,fI h.1,k _ _ _ (.flat rfl) h.2⟩)
 ·obtain⟨x,rfl,v⟩:=cT vx
  obtain⟨a,kvs,rfl,⟨ob,hd⟩,n,z,p⟩:=v.dctI
  have l:kvs.length=_:=Paired.length p
  exact .inr (.inr ⟨a,kvs,rfl,.inr ⟨ob,hd⟩,k _ _ _ (.flat rfl) (by rw[l];exact h)⟩)
 ·exact False.elim h⟩
def qX(T:String):Tv->Bool
 |.leaf .non=>false
 |.leaf (.bl _)=>T=="bool" || T=="int"
 |.leaf (.int _)=>T=="int"
 |.leaf (.str _)=>T=="str"
 |.leaf _=>false
 |.seq false _=>T=="list"
 |.seq true _=>T=="tuple"
 |.dct _=>T=="dict"
theorem zGW{K:W.Frag}{H:Hp}{x:V}{W:Tv}(T:String)(v:VA K H x W):TyV K T x H (qX T W):=by
 cases W with
 |leaf w=>
  obtain⟨rfl,f⟩:=v.leafI
  rcases kD f with rfl|⟨b,rfl⟩|⟨b,rfl⟩|⟨b,rfl⟩<;>rfl
 |seq t Ts=>
  obtain⟨a,xs,rfl,hs,z,p⟩:=v.seqI
  cases t with
  |false=>exact .inl ⟨xs,cI hs,rfl⟩
  |true=>exact .inr (.inl ⟨xs,hs,rfl⟩)
 |dct kts=>
  obtain⟨a,kvs,rfl,⟨ob,hd⟩,n,z,p⟩:=v.dctI
  exact .inr (.inr ⟨kvs,.inr ⟨ob,hd⟩,rfl⟩)
def zHE(T:String)(u:UT):UT:=λρ Q=>u ρ λW ρ1=>Q (bT (qX T W)) ρ1
theorem iJ{e t:Expr}{u:UT}{p pos:Pos}(T:String)(hc:CallR X (.builtin "isinstance") (λxs H Q=>∃x b,xs=[x,.ty T]/\TyV X.K T x H b/\Q (.bl b) H))(hg:Gl X "isinstance")(hm:X.mg "isinstance"=none)(he:UE X F e u)(ht:PE X t (tC (.ty T)))
  (h1:eW e=false:=by rfl) (h2:eW t=false:=by rfl) (hpl:(backTo pos (starEach [t] X.env)).any (·.1)=false:=by rfl):UE X F (.Call (.Name "isinstance" p) [e,t] [] pos) (zHE T u):=
 ⟨PE.imp (kG hc hg hm boot_isinstance (dN he.pe (dN ht eK h2) h1) (by decide) (by decide) (lI h1) hpl) λσ H QQ ⟨ρ,Q,f,h,k⟩=>
  ⟨ρ,_,f,h,λx W H1 ρ1 s1 v1 q1=>⟨x,_,rfl,zGW T v1,k _ _ _ _ s1 (.flat rfl) q1⟩⟩⟩
theorem sW{K:W.Frag}{H:Hp}:∀{xs:List V}{bs:List Bool},VAs K H xs (bs.map bT)->xs=bs.map V.bl
 |[],[],_=>rfl
 |_::_,_::_,.cons r t=>by rw[List.map_cons,<-sW t,(VA.leafI r).1]
theorem oP{K:W.Frag}{H:Hp}:∀{xs:List V}{ns:List Int},VAs K H xs (ns.map iT)->xs=ns.map V.int
 |[],[],_=>rfl
 |_::_,_::_,.cons r t=>by rw[List.map_cons,<-oP t,(VA.leafI r).1]
theorem jI{K:W.Frag}{H:Hp}:∀{xs:List V}{ss:List Str},VAs K H xs (ss.map sT)->xs=ss.map V.str
 |[],[],_=>rfl
 |_::_,_::_,.cons r t=>by rw[List.map_cons,<-jI t,(VA.leafI r).1]
theorem zAa{K:W.Frag}{H:Hp}:∀(ns:List Int),VAs K H (ns.map V.int) (ns.map iT)
 |[]=>.nil
 |_::ns=>.cons (.flat rfl) (zAa ns)
theorem oZ{K:W.Frag}{H:Hp}:∀(ss:List Str),VAs K H (ss.map V.str) (ss.map sT)
 |[]=>.nil
 |_::ss=>.cons (.flat rfl) (oZ ss)
def zH5:Pn:=λTs Q=>∃bs:List Bool,Ts=[.seq false (bs.map bT)]/\Q (bT (bs.all id))
def zH4:Pn:=λTs Q=>∃bs:List Bool,Ts=[.seq false (bs.map bT)]/\Q (bT (bs.any id))
theorem mK(hc:X.calm=true):fV X (.builtin "all") zH5:=⟨_,zDP hc,λxs Ts H Q QQ vx h k=>by
 obtain⟨bs,rfl,q⟩:=h
 obtain⟨x,rfl,v⟩:=cT vx
 obtain⟨a,ys,rfl,hs,z,p⟩:=v.seqI
 rw[sW p]at hs
 exact⟨a,bs,rfl,cI hs,k _ _ _ (.flat rfl) q⟩⟩
theorem zF4(hc:X.calm=true):fV X (.builtin "any") zH4:=⟨_,zDO hc,λxs Ts H Q QQ vx h k=>by
 obtain⟨bs,rfl,q⟩:=h
 obtain⟨x,rfl,v⟩:=cT vx
 obtain⟨a,ys,rfl,hs,z,p⟩:=v.seqI
 rw[sW p]at hs
 exact⟨a,bs,rfl,cI hs,k _ _ _ (.flat rfl) q⟩⟩
def zH2:Pn:=λTs Q=>(∃i j:Int,Ts=[iT i,iT j]/\Q (iT (min i j)))\/(∃ns:List Int,Ts=[.seq false (ns.map iT)]/\0<ns.length/\∀M,M∈ns->(∀a∈ns,M<=a)->Q (iT M)) \/
 ∃ss:List Str,Ts=[.seq false (ss.map sT)]/\0<ss.length/\∀x,x∈ss->(∀y∈ss,x.cps.toList<=y.cps.toList)->Q (sT x)
def zH3:Pn:=λTs Q=>(∃i j:Int,Ts=[iT i,iT j]/\Q (iT (max i j)))\/(∃ns:List Int,Ts=[.seq false (ns.map iT)]/\0<ns.length/\∀M,M∈ns->(∀a∈ns,a<=M)->Q (iT M)) \/
 ∃ss:List Str,Ts=[.seq false (ss.map sT)]/\0<ss.length/\∀x,x∈ss->(∀y∈ss,y.cps.toList<=x.cps.toList)->Q (sT x)
theorem iL(hc:X.calm=true):fV X (.builtin "min") zH2:=⟨_,(zDI hc).or ((zDJ hc).or (zCW hc)),λxs Ts H Q QQ vx h k=>by
 rcases h with⟨i,j,rfl,q⟩|⟨ns,rfl,l,q⟩|⟨ss,rfl,l,q⟩
 ·obtain⟨x,y,rfl,v,v'⟩:=uY vx
  obtain⟨rfl,_⟩:=v.leafI
  obtain⟨rfl,_⟩:=v'.leafI
  refine .inl ⟨i,j,rfl,k _ _ _ (.flat rfl) ?_⟩
  have e:(if j<i then j else i)=min i j:=by split<;>omega
  rw[e];exact q
 ·obtain⟨x,rfl,v⟩:=cT vx
  obtain⟨a,ys,rfl,hs,z,p⟩:=v.seqI
  rw[oP p]at hs
  exact .inr (.inl ⟨a,ns,rfl,cI hs,l,λM h1 h2=>k _ _ _ (.flat rfl) (q M h1 h2)⟩)
 ·obtain⟨x,rfl,v⟩:=cT vx
  obtain⟨a,ys,rfl,hs,z,p⟩:=v.seqI
  rw[jI p]at hs
  exact .inr (.inr ⟨a,ss,rfl,cI hs,l,λM h1 h2=>k _ _ _ (.flat rfl) (q M h1 h2)⟩)⟩
theorem gW(hc:X.calm=true):fV X (.builtin "max") zH3:=⟨_,(zDL hc).or ((zDM hc).or (zCX hc)),λxs Ts H Q QQ vx h k=>by
 rcases h with⟨i,j,rfl,q⟩|⟨ns,rfl,l,q⟩|⟨ss,rfl,l,q⟩
 ·obtain⟨x,y,rfl,v,v'⟩:=uY vx
  obtain⟨rfl,_⟩:=v.leafI
  obtain⟨rfl,_⟩:=v'.leafI
  refine .inl ⟨i,j,rfl,k _ _ _ (.flat rfl) ?_⟩
  have e:(if j > i then j else i)=max i j:=by split<;>omega
  rw[e];exact q
 ·obtain⟨x,rfl,v⟩:=cT vx
  obtain⟨a,ys,rfl,hs,z,p⟩:=v.seqI
  rw[oP p]at hs
  exact .inr (.inl ⟨a,ns,rfl,cI hs,l,λM h1 h2=>k _ _ _ (.flat rfl) (q M h1 h2)⟩)
 ·obtain⟨x,rfl,v⟩:=cT vx
  obtain⟨a,ys,rfl,hs,z,p⟩:=v.seqI
  rw[jI p]at hs
  exact .inr (.inr ⟨a,ss,rfl,cI hs,l,λM h1 h2=>k _ _ _ (.flat rfl) (q M h1 h2)⟩)⟩
def zE9:List Tv->(List Tv->Prop)->Prop:=λTs Q=>∃t Us,Ts=[.seq t Us]/\Q Us
theorem jF:mE X (.type "list") zE9:=⟨_,wQ,λxs Ts H Q QQ vx h k=>by
 obtain⟨t,Us,rfl,q⟩:=h
 obtain⟨x,rfl,v⟩:=cT vx
 obtain⟨a,ys,rfl,hs,z,p⟩:=v.seqI
 refine⟨a,ys,rfl,?_,λl n=>k l ys Us _ (dB n) n bM z (VAs.hs (jS n) p) q⟩
 cases t with
 |false=>exact .inl (cI hs)
 |true=>exact .inr hs⟩
def zBb:Pn:=λTs Q=>∃t Us,Ts=[.seq t Us]/\Q (.seq true Us)
theorem gQ:fV X (.type "tuple") zBb:=⟨_,zCg,λxs Ts H Q QQ vx h k=>by
 obtain⟨t,Us,rfl,q⟩:=h
 obtain⟨x,rfl,v⟩:=cT vx
 obtain⟨a,ys,rfl,hs,z,p⟩:=v.seqI
 refine⟨a,ys,rfl,?_⟩
 cases t with
 |false=>exact .inl ⟨cI hs,λl n=>k _ _ _ (Raw.tup n z p) q⟩
 |true=>exact .inr ⟨hs,k _ _ _ (.va v) q⟩⟩
def zE8:List Tv->(List Tv->Prop)->Prop:=λTs Q=>(∃ns:List Int,Ts=[.seq false (ns.map iT)]/\ns.length<64/\∀ms:List Int,ms.Perm ns->ms.Pairwise (·<=·)->Q (ms.map iT)) \/
 (∃ss:List Str,Ts=[.seq false (ss.map sT)]/\ss.length<64/\Q ((dI ss).map sT))\/∃kts,Ts=[.dct kts]/\Q ((dI (kts.map (·.1))).map sT)
theorem yY{K:W.Frag}{H:Hp}{kvs:List (Key×V)}{kts:List (Str×Tv)}(p:VAk K H kvs kts):kvs.map (·.1)=(kts.map (·.1)).map Sum.inr:=by
 unfold VAk at p
 induction p with
 |nil=>rfl
 |cons r _ ih=>rw[List.map_cons,List.map_cons,List.map_cons,ih,r.1]
theorem jE(us:List Str):(dI us).length=us.length:=(kB us).length_eq
theorem oF(hc:X.calm=true):mE X (.builtin "sorted") zE8:=⟨_,call_sortedI.or (call_sortedS.or (zCp hc)),λxs Ts H Q QQ vx h k=>by
 rcases h with⟨ns,rfl,l,q⟩|⟨ss,rfl,l,q⟩|⟨kts,rfl,q⟩
 ·obtain⟨x,rfl,v⟩:=cT vx
  obtain⟨a,ys,rfl,hs,z,p⟩:=v.seqI
  rw[oP p]at hs
  refine .inl ⟨a,ns,rfl,cI hs,l,λms b h1 h2 n=>k b _ _ _ (dB n) n bM (by rw[List.length_map,h1.length_eq];omega) (zAa ms) (q ms h1 h2)⟩
 ·obtain⟨x,rfl,v⟩:=cT vx
  obtain⟨a,ys,rfl,hs,z,p⟩:=v.seqI
  rw[jI p]at hs
  refine .inr (.inl ⟨a,ss,rfl,cI hs,l,λms b h1 h2 n=>k b _ _ _ (dB n) n bM (by rw[List.length_map,h1.length_eq];omega) (oZ ms) (by rw[oT h1 h2];exact q)⟩)
 ·obtain⟨x,rfl,v⟩:=cT vx
  obtain⟨a,kvs,rfl,⟨ob,hd⟩,nd,z,p⟩:=v.dctI
  refine .inr (.inr ⟨a,ob,kvs,kts.map (·.1),rfl,hd,yY p,by rw[List.length_map];exact z,λms b h1 h2 n=>k b _ _ _ (dB n) n bM (by rw[List.length_map,h1.length_eq,List.length_map];omega) (oZ ms) (by rw[oT h1 h2];exact q)⟩)⟩
theorem zEE{K:W.Frag}{H:Hp}{n:Nat}:VAs K H ((List.range n).map λ(i:Nat)=>V.int i) (fD 0 n):=by
 unfold fD
 generalize List.range n=l
 induction l with
 |nil=>exact .nil
 |cons i l ih=>exact .cons (show VA K H (V.int i) (iT (0+i)) by rw[Int.zero_add];exact .flat rfl) ih
def zFG(ua:UTa):UTl:=λρ Q=>uVs ua ρ λTs ρ1=>∃n:Nat,Ts=[iT n]/\n<=100000/\Q (fD 0 n) ρ1
theorem zDT{a:Expr}{ua:UTa}{p p' pos pos':Pos}(hc:X.calm=true)(hg:Gl X "range")(hm:X.mg "range"=none)(hg':Gl X "list")(hm':X.mg "list"=none)(ha:UA X F [a] ua)
  (he:starEach [a] X.env=(false,eval a X.env)::starEach [] X.env:=by rfl) (hpl:(backTo pos (starEach [] X.env)).any (·.1)=false:=by rfl) (hpl':(backTo pos' (starEach [] X.env)).any (·.1)=false:=by rfl):
  UL X F (.Call (.Name "list" p') [.Call (.Name "range" p) [a] [] pos] [] pos') (zFG ua):=⟨PE.imp (jG (zCY hc) hg' hm' boot_list (dN (jG zCA hg hm boot_range ha.pa (by decide) (by decide) he hpl) eK rfl) (by decide) (by decide) rfl hpl') λσ H QQ ⟨ρ,Q,f,h,k⟩=>by
 refine⟨ρ,_,f,h,λxs as H1 ρ1 s1 p1 q1=>?_⟩
 obtain⟨Ts,rfl,n,rfl,l,q⟩:=gS q1
 obtain⟨x,rfl,v⟩:=cT (gU p1)
 obtain⟨rfl,_⟩:=v.leafI
 refine⟨n,rfl,λr nr=>⟨r,n,rfl,bM,fI l,λb nb=>?_⟩⟩
 have sm:=(dB (o:=.rng 0 n) nr).trans (dB (o:=.lst ((List.range n).map λ(i:Nat)=>V.int i)) nb)
 refine k _ _ _ _ _ (s1.trans (Stp.same s1.fr sm)) (s1.non ((dB nr).free nb)) bM (by simp[fD];exact l) ?_ q
 exact zEE⟩
def zBS:Pn
 |[.leaf (.int i)],Q=>Q (iT i)
 |[.leaf (.bl b)],Q=>Q (iT (if b then 1 else 0))
 |_,_=>False
theorem zF3:fV X (.type "int") zBS:=⟨_,zDN,λxs Ts H Q QQ vx h k=>by
 unfold zBS at h
 split at h
 ·obtain⟨x,rfl,v⟩:=cT vx
  obtain⟨rfl,_⟩:=v.leafI
  exact .inl ⟨_,rfl,k _ _ _ (.flat rfl) h⟩
 ·obtain⟨x,rfl,v⟩:=cT vx
  obtain⟨rfl,_⟩:=v.leafI
  exact .inr ⟨_,rfl,k _ _ _ (.flat rfl) h⟩
 ·exact False.elim h⟩
def uBM(T:String)(r:Tv->List Tv->(Tv->Prop)->Prop)(u:UT)(ua:UTa):UT:=λρ Q=>u ρ λW ρ1=>qX T W=true/\uVs ua ρ1 λTs ρ2=>r W Ts λW'=>Q W' ρ2
theorem zEK{K:W.Frag}{H:Hp}{x:V}{W:Tv}(v:VA K H x W)(h:qX "str" W=true):tyV K "str" x H:=by
 cases W with
 |leaf w=>
  obtain⟨rfl,f⟩:=v.leafI
  rcases kD f with rfl|⟨b,rfl⟩|⟨b,rfl⟩|⟨b,rfl⟩
  ·cases h
  ·cases h
  ·cases h
  ·rfl
 |seq t Ts=>cases t<;>cases h
 |dct kts=>cases h
theorem mF{name:Str}{id:String}{r:Tv->List Tv->(Tv->Prop)->Prop}{o e:Expr}{es:List Expr}{u:UT}{ua:UTa}{apos cpos:Pos}(slot:Slot "str" name id)(hty:typeOf (.builtin id)=pure (.type "method_descriptor"))
  (hm:∃r',MtR X id r'/\∀x W xs Ts H Q (QQ:VK),VA X.K H x W->VAs X.K H xs Ts->r W Ts Q->(∀z W H',Raw X.K H H' z W->Q W->QQ z H')->r' x xs H QQ) (ho:UE X F o u) (ha:UA X F (e::es) ua)
  (hbase:attributeBase o name X.env (eval o X.env)=eval o X.env:=by rfl)
  (hfew:((backTo cpos (starEach (e::es) X.env)).all (λx=>!x.1)&&(backToKw cpos (keywordEach [] X.env)).all (λx=>x.1.isSome)&&decide ((e::es).length+([]:List Keyword).length+(if ([]:List Keyword).isEmpty then 0 else 1)<30))=true:=by rfl)
  (hline:(apos.endLine==cpos.line)=true:=by rfl) (hs:starEach (e::es) X.env=(false,eval e X.env)::starEach es X.env:=by rfl) (hplain:(backTo cpos (starEach es X.env)).any (·.1)=false:=by rfl):
  UE X F (.Call (.Attribute o name apos) (e::es) [] cpos) (uBM "str" r u ua):=by
 obtain⟨r',m,hr⟩:=hm
 refine⟨PE.imp (PE.fz (mX PySem.F.plainAttrs_str slot hty m ho.pe ha.pa hbase hfew hline hs hplain)) λσ H QQ ⟨ρ,Q,f,h,k⟩=>⟨ρ,_,f,h,λx W H1 ρ1 s1 v1 q1=>⟨zEK v1 q1.1,ρ1,_,s1.fr,q1.2,λxs as H2 ρ2 s2 p2 q2=>?_⟩⟩⟩
 obtain⟨Ts,rfl,q⟩:=gS q2
 exact hr x W xs Ts H2 _ _ (v1.hs (s2.hs s1.fr)) (gU p2) q λz W' H' rw q=>rw.fin s2.fr λH'' s4 v4=>k _ _ _ _ ((s1.trans s2).trans s4) v4 q
def zE7:Tv->List Tv->(Tv->Prop)->Prop:=λW Ts Q=>∃i j:Str,W=sT i/\Ts=[sT j]/\Q (bT (decide (0+j.length<=i.length)&&Builtin.Str.subAt i j 0))
theorem yA:∃r',MtR X "str.startswith" r'/\∀x W xs Ts H Q (QQ:VK),VA X.K H x W->VAs X.K H xs Ts->zE7 W Ts Q->(∀z W H',Raw X.K H H' z W->Q W->QQ z H')->r' x xs H QQ:=⟨_,zCe,λx W xs Ts H Q QQ v p h k=>by
 obtain⟨i,j,rfl,rfl,q⟩:=h
 obtain⟨rfl,_⟩:=v.leafI
 obtain⟨y,rfl,v'⟩:=cT p
 obtain⟨rfl,_⟩:=v'.leafI
 exact⟨i,j,rfl,rfl,k _ _ _ (.flat rfl) q⟩⟩
def zHk:Tv->List Tv->(Tv->Prop)->Prop:=λW Ts Q=>∃i j:Str,W=sT i/\Ts=[sT j]/\∀n:Int,Q (iT n)
theorem zEZ:∃r',MtR X "str.find" r'/\∀x W xs Ts H Q (QQ:VK),VA X.K H x W->VAs X.K H xs Ts->zHk W Ts Q->(∀z W H',Raw X.K H H' z W->Q W->QQ z H')->r' x xs H QQ:=⟨_,zFg,λx W xs Ts H Q QQ v p h k=>by
 obtain⟨i,j,rfl,rfl,q⟩:=h
 obtain⟨rfl,_⟩:=v.leafI
 obtain⟨y,rfl,v'⟩:=cT p
 obtain⟨rfl,_⟩:=v'.leafI
 exact⟨i,j,rfl,rfl,λn=>k _ _ _ (.flat rfl) (q n)⟩⟩
def zHj:Tv->List Tv->(Tv->Prop)->Prop:=λW Ts Q=>∃ss:List Str,W=sT ⟨#[]⟩/\Ts=[.seq false (ss.map sT)]/\(bP ss).length<=100000/\Q (sT ⟨(bP ss).toArray⟩)
theorem zAv:∃r',MtR X "str.join" r'/\∀x W xs Ts H Q (QQ:VK),VA X.K H x W->VAs X.K H xs Ts->zHj W Ts Q->(∀z W H',Raw X.K H H' z W->Q W->QQ z H')->r' x xs H QQ:=⟨_,zFf,λx W xs Ts H Q QQ v p h k=>by
 obtain⟨ss,rfl,rfl,l,q⟩:=h
 obtain⟨rfl,_⟩:=v.leafI
 obtain⟨y,rfl,v'⟩:=cT p
 obtain⟨a,ys,rfl,hs,z,p'⟩:=v'.seqI
 rw[jI p']at hs
 refine⟨a,ss,rfl,rfl,cI hs,l,λz e=>k _ _ _ (.flat rfl) ?_⟩
 have:z=⟨(bP ss).toArray⟩:=by
  cases z with
  |mk c=>congr 1;have e:c.toList=bP ss:=e;rw[<-e]
 rw[this];exact q⟩
end
end L2
namespace L2
open PySem PySem.Spec PyProof.Rows WordM
section
variable{X:Cx}{F:Fm}{pos:Pos}
def zHQ(u:UT)(g:UG):UTs:=λP ρ=>u ρ λT ρ1=>g T ρ1 P.nx
theorem tX{tg e:Expr}{u:UT}{g:UG}{m:Nat}(he:UE X F e u)(hg:UGt X F m tg g)(hs:swapsWithSole [tg] e pos.line X.env=pure false:=by rfl)(hw:swappedStores [tg] e X.env=pure none:=by rfl)
  (h1:(assignEach [tg] X.env).map (·.2)=[assign tg X.env]:=by rfl):US X F (.Assign [tg] e pos) (zHQ u g):=⟨PS.imp (uF he.pe hg.pg hs hw h1) λD σ H ⟨ρ,P,f,h,k1,_⟩=>by
 refine⟨ρ,_,f,h,λx T H1 ρ1 s1 v1 q1=>⟨T,ρ1,_,v1,s1.fr,q1,λσ' ρ' f' _ _ _ _ q=>?_⟩⟩
 exact k1 _ _ _ f' (s1.hs f) q⟩
def zAU(i:Nat)(u:UT):UT:=λρ Q=>(∃Ts,ρ[i]?=some (.own Ts))/\u ρ λJ ρ1=>∃(j:Int) (Ts:List Tv) (T:Tv),J=iT j/\ρ1[i]?=some (.own Ts)/\atI Ts j=some T/\Q T ρ1
theorem jJ(i:Nat){x:Str}{p:Pos}{e:Expr}{u:UT}(h:UE X F e u)(hs:pH e:=by intro _ _;rfl)(hN:X.N[i]?=some x:=by rfl)(hv:Vis X.env.scope x:=by first|exact Or.inl rfl|exact Or.inr (Or.inl rfl)|exact Or.inr (Or.inr rfl))(hd:(x==("__debug__":Str))=false:=by decide)(hcd:(x==("__classdict__":Str))=false:=by decide):
  UE X F (.Subscript (.Name x p) e pos) (zAU i u):=⟨PE.imp (gJ ix_list (iN hN hv hd hcd) h.pe hs) λσ H QQ ⟨ρ,Q,f,⟨⟨Ts0,e0⟩,hu⟩,k⟩=>by
 obtain⟨a,xs,ea,eH,e3,z,pv⟩:=f.at_ i _ e0
 refine⟨_,gR ea,ρ,_,f,hu,λy J H1 ρ1 s1 v1 q1=>?_⟩
 obtain⟨j,Ts,T,rfl,e1,eT,q⟩:=q1
 obtain⟨rfl,_⟩:=v1.leafI
 obtain⟨a',ys,ea',eH1,e3',z',pv'⟩:=s1.fr.at_ i _ e1
 rw[ea]at ea';cases ea'
 obtain⟨w,ew,vw⟩:=xP pv' eT
 exact⟨a,ys,j,w,rfl,rfl,SqL.of eH1,ew,k _ _ _ _ s1 vw q⟩⟩
def zFR(i:Nat)(uk uv:UT):UTs:=λP ρ=>uv ρ λT ρ1=>(∃Ts,ρ1[i]?=some (.own Ts))/\uk ρ1 λJ ρ2=>∃(j:Int) (n:Nat) (Ts:List Tv),J=iT j/\ρ2[i]?=some (.own Ts)/\ixN Ts.length j=some n/\P.nx (ρ2.set i (.own (Ts.set n T)))
theorem yE{α β:Type}{R:α->β->Prop}{x:α}{y:β}(r:R x y):∀{l:List α}{m:List β}(n:Nat),Paired R l m->Paired R (l.set n x) (m.set n y)
 |_,_,_,.nil=>.nil
 |_,_,0,.cons _ t=>.cons r t
 |_,_,n+1,.cons q t=>.cons q (yE r n t)
theorem yZ{i:Nat}{x:Str}{e k:Expr}{uk uv:UT}{p pos':Pos}(hN:X.N[i]?=some x)(hv:Vis X.env.scope x)(hk:UE X F k uk)(he:UE X F e uv)
  (ha:∀v,assign (.Subscript (.Name x p) k pos') X.env v=(do
   let ov <- holding [v] (eval (.Name x p) X.env)
   let iv <- holding [v,ov] (eval k X.env)
   standAt pos'
   holding [v,ov,iv] (setItem ov iv v)
   release [v,ov,iv] []):=by intro _;rfl)
  (hs:swapsWithSole [.Subscript (.Name x p) k pos'] e pos.line X.env=pure false:=by rfl) (hw:swappedStores [.Subscript (.Name x p) k pos'] e X.env=pure none:=by rfl)
  (h1:(assignEach [.Subscript (.Name x p) k pos'] X.env).map (·.2)=[assign (.Subscript (.Name x p) k pos') X.env]:=by rfl) (hd:(x==("__debug__":Str))=false:=by decide) (hcd:(x==("__classdict__":Str))=false:=by decide):
  US X F (.Assign [.Subscript (.Name x p) k pos'] e pos) (zFR i uk uv):=⟨PS.imp (uF he.pe (zA9 (iN hN hv hd hcd) hk.pe zG ha) hs hw h1) λD σ H ⟨ρ,P,f,h,k1,_⟩=>by
 refine⟨ρ,_,f,h,λv T H1 ρ1 s1 v1 q1=>?_⟩
 obtain⟨⟨Ts0,e0⟩,q1⟩:=q1
 obtain⟨a,xs0,ea,eH0,_⟩:=s1.fr.at_ i _ e0
 refine⟨_,gR ea,ρ1,_,s1.fr,q1,λy J H2 ρ2 s2 v2 q2=>?_⟩
 obtain⟨j,n,Ts,rfl,e2,en,q⟩:=q2
 obtain⟨rfl,_⟩:=v2.leafI
 obtain⟨a',xs,ea',eH,h0,z,p⟩:=s2.fr.at_ i _ e2
 rw[ea]at ea';cases ea'
 have ll:xs.length=Ts.length:=Paired.length p
 refine⟨a,xs,j,n,rfl,rfl,eH,by rw[ll];exact en,?_⟩
 have st:=s2.fr.put (o':=.lst (xs.set n v)) e2 rfl ea eH rfl (s':=.own (Ts.set n T)) λhs h0=>⟨a,_,rfl,bM,h0,by rw[List.length_set];exact z,VAs.hs hs (yE (v1.hs (s2.hs s1.fr)) n p)⟩
 exact k1 _ _ _ st.fr (((s1.trans s2).trans st).hs f) q⟩
def gZ(K:W.Frag)(mg:Str->Option Value)(x:Str)(T:Tv):Prop:=∃v u,mg x=some u/\RelV v u/\∀H,VA K H v T
theorem uK{x:Str}{T:Tv}(G:gZ X.K X.mg x T)(hg:Gl X x)(hd:(x==("__debug__":Str))=false:=by decide):UE X F (.Name x pos) (uC T):=by
 obtain⟨v,u,m,r,h⟩:=G
 exact zEI hg m r h hd
def jT(K:W.Frag)(prm:Params)(mg:Str->Option Value)(x:Str)(kvs:List (Str×Str)):Prop:=∃d,mg x=some (.ref d)/\zBA K prm d kvs
def uKD(kvs:List (Str×Str))(u:UT):UT:=λρ Q=>u ρ λT ρ1=>∃i j,T=sT i/\getS kvs i=some j/\Q (sT j) ρ1
theorem mT{x:Str}{p:Pos}{e:Expr}{u:UT}{kvs:List (Str×Str)}(G:jT X.K X.w.params X.mg x kvs)(hg:Gl X x)(he:UE X F e u)(hs:pH e:=by intro _ _;rfl)(hd:(x==("__debug__":Str))=false:=by decide):UE X F (.Subscript (.Name x p) e pos) (uKD kvs u):=by
 obtain⟨d,m,D⟩:=G
 refine⟨PE.imp (gJ (zHr D) (zAz (v:=.ref d) hg m rfl hd) he.pe hs) λσ H QQ ⟨ρ,Q,f,h,k⟩=>⟨ρ,_,f,h,λy T H1 ρ1 s1 v1 q1=>?_⟩⟩
 obtain⟨i,j,rfl,ej,q⟩:=q1
 obtain⟨rfl,_⟩:=v1.leafI
 exact⟨i,j,rfl,rfl,ej,k _ _ _ _ s1 (.flat rfl) q⟩
def zC(u:UT):UTl:=λρ Q=>u ρ λT ρ1=>∃ss:List Str,T=.seq false (ss.map sT)/\ss.length<4000/\(dR ss).length<64/\Q ((dI (dR ss)).map sT) ρ1
theorem zCE{e:Expr}{u:UT}{p p' pos':Pos}(hc:X.calm=true)(hg:Gl X "sorted")(hm:X.mg "sorted"=none)(hg':Gl X "set")(hm':X.mg "set"=none)(he:UE X F e u)(hst:eW e=false:=by rfl)
  (hpl:(backTo pos (starEach [] X.env)).any (·.1)=false:=by rfl) (hpl':(backTo pos' (starEach [] X.env)).any (·.1)=false:=by rfl):
  UL X F (.Call (.Name "sorted" p) [.Call (.Name "set" p') [e] [] pos'] [] pos) (zC u):=⟨PE.imp (kG (zCo hc) hg hm boot_sorted (dN (jG (zDH hc) hg' hm' L2.boot_set (dN he.pe eK hst) (by decide) (by decide) (lI hst) hpl') eK rfl) (by decide) (by decide) rfl hpl) λσ H QQ ⟨ρ,Q,f,h,k⟩=>by
 refine⟨ρ,_,f,h,λx T H1 ρ1 s1 v1 q1=>?_⟩
 obtain⟨ss,rfl,l1,l2,q⟩:=q1
 obtain⟨a,ys,rfl,hs,z,p⟩:=v1.seqI
 rw[jI p]at hs
 refine⟨a,ss,rfl,cI hs,l1,λb nb=>⟨b,dR ss,rfl,bM,l2,λms c h1 h2 nc=>?_⟩⟩
 have sm:=(dB (o:=qG X.prog X.w b (dR ss)) nb).trans (dB (o:=.lst (ms.map V.str)) nc)
 refine k _ _ _ _ _ (s1.trans (Stp.same s1.fr sm)) (s1.non ((dB nb).free nc)) bM (by rw[List.length_map,h1.length_eq];omega) (oZ ms) ?_
 rw[oT h1 h2]
 exact q⟩
end
def nA(own:Nat)(fr:List Nat)(g:UG)(tf:UTt)(ue:UT)(T:Tv)(ρ:aV)(R:Option Tv->aV->Prop):Prop:=g T (blk own fr ρ) λρ1=>tf ρ1 λb ρ2=>if b=true then ue ρ2 λU ρ3=>R (some U) (bck own fr ρ ρ3) else R none (bck own fr ρ ρ2)
section
variable{own:Nat}{fr:List Nat}{g:UG}{tf:UTt}{ue:UT}
def zHz(own:Nat)(fr:List Nat)(g:UG)(tf:UTt)(ue:UT)(Ts:List Tv)(Q:List Tv->aV->Prop)(o:Option Tv)(ρ:aV):Prop:=match o with
 |some U=>eZ own fr g tf ue Ts ρ λUs ρ4=>Q (U::Us) ρ4
 |none=>eZ own fr g tf ue Ts ρ Q
theorem rS(T:Tv)(Ts:List Tv)(ρ:aV)(Q:List Tv->aV->Prop):eZ own fr g tf ue (T::Ts) ρ Q=nA own fr g tf ue T ρ (zHz own fr g tf ue Ts Q):=rfl
theorem sE{ρ:aV}{Ts:List Tv}{Q:List Tv->aV->Prop}(J:Nat->List Tv->aV->Prop)(h0:J 0 [] ρ)(hs:∀i T Us ρ',Ts[i]?=some T->J i Us ρ'->∀R:Option Tv->aV->Prop,(∀o ρ'',J (i+1) (Us++o.toList) ρ''->R o ρ'')->nA own fr g tf ue T ρ' R)
  (hd:∀Us ρ',J Ts.length Us ρ'->Q Us ρ'):eZ own fr g tf ue Ts ρ Q:=by
 have key:∀(n i:Nat) (Us:List Tv) (ρ:aV) (Q:List Tv->aV->Prop),n+i=Ts.length->J i Us ρ->(∀Vs ρ',J Ts.length (Us++Vs) ρ'->Q Vs ρ')->eZ own fr g tf ue (Ts.drop i) ρ Q:=by
  intro n
  induction n with
  |zero=>
   intro i Us ρ Q e j hd
   have:i=Ts.length:=by omega
   subst this
   rw[List.drop_length]
   exact hd [] ρ (by rw[List.append_nil];exact j)
  |succ n ih=>
   intro i Us ρ Q e j hd
   have hi:i<Ts.length:=by omega
   rw[List.drop_eq_getElem_cons hi,rS]
   refine hs i _ Us ρ (List.getElem?_eq_getElem hi) j _ λo ρ'' j'=>?_
   cases o with
   |none=>exact ih (i+1) _ ρ'' Q (by omega) j' λVs ρ' q=>hd Vs ρ' (by simpa using q)
   |some U=>exact ih (i+1) _ ρ'' (λUs ρ4=>Q (U::Us) ρ4) (by omega) j' λVs ρ' q=>hd (U::Vs) ρ' (by simpa using q)
 exact key Ts.length 0 [] ρ Q (by omega) h0 λVs ρ' q=>hd Vs ρ' (by simpa using q)
theorem iE{g:UG}{ub:UTs}{Ts:List Tv}{P:PEnds}{ρ:aV}(J:Nat->aV->Prop)(h0:J 0 ρ)(hs:∀i T ρ' (N:aV->Prop),Ts[i]?=some T->J i ρ'->(∀ρ'',J (i+1) ρ''->N ρ'')->g T ρ' λρ1=>ub {P with nx:=N,ct:=N,bk:=P.nx} ρ1)
  (hd:∀ρ',J Ts.length ρ'->P.nx ρ'):iA g ub Ts P ρ:=by
 have key:∀(n i:Nat) (ρ:aV),n+i=Ts.length->J i ρ->iA g ub (Ts.drop i) P ρ:=by
  intro n
  induction n with
  |zero=>
   intro i ρ e j
   have:i=Ts.length:=by omega
   subst this
   rw[List.drop_length]
   exact hd ρ j
  |succ n ih=>
   intro i ρ e j
   have hi:i<Ts.length:=by omega
   rw[List.drop_eq_getElem_cons hi]
   exact hs i _ ρ (λρ'=>iA g ub (Ts.drop (i+1)) P ρ') (List.getElem?_eq_getElem hi) j λρ'' j'=>ih (i+1) ρ'' (by omega) j'
 exact key Ts.length 0 ρ (by omega) h0
end
end L2
namespace L2
open PySem PySem.Spec PyProof.Rows WordM
def dH:PSp:=λas R=>∃m:Int,as=[.dk,.va (iT m)]/\0<m/\BigOk m/\∀r:Int,0<=r->r<m->R (iT r)
theorem On.kp{p c:Addr}{H H':Hp}(o:On p c H H'):Kp (some (p,c)) H H':=⟨λb u e n=>o.e b u e (n p c rfl).1 (n p c rfl).2,λp' c' e=>by cases e;exact o.d⟩
theorem Good.take{P:Program}{w:World}{K:W.Frag}{mg:Str->Option Value}{base:Heap}{k:Nat}{x:Str}{ps:List Str}(G:Good P w K mg base k x ps zAY):aE P w K mg base k x ps dH:=Good.imp G λvs H Q E ⟨dk,as,R,d,p,⟨m,e,hm,hb,q⟩,kk⟩=>by
 subst e
 cases p with
 |cons r1 t1=>
  cases t1 with
  |cons r2 t2=>
   cases t2
   obtain⟨p,c,ed,rfl⟩:=r1
   subst ed
   obtain⟨rfl,_⟩:=VA.leafI r2
   exact⟨p,c,m,rfl,d p c rfl,hm,hb,λr H' h1 h2 o=>kk _ _ _ o.kp (.flat rfl) (q r h1 h2)⟩
theorem zDS{X:Cx}{F:Fm}{st:List Stmt}:USs X F st (λ_ _=>False):=⟨PSs.imp zDo λD σ H ⟨_,_,_,h,_⟩=>h⟩
theorem Has.pfalse{P:Program}{w:World}{K:W.Frag}{mg:Str->Option Value}{base:Heap}{x:Str}{st:Stmt}{N ps:List Str}{k:Nat}{psp:PSp}(h:Has K mg x st)(S:bG N ps (aL st))
  (hb:∀(kV doc pm:Value) (an:Option Addr) (cdv ct:Value) (us:List Value),us.length=ps.length->bindArgs (W.fnOf x x (gG st) (eQ st) (aL st) .none kV doc pm an cdv ct) ⟨us,[]⟩=pure (ps.zip us)) (hf:∀as R,psp as R->False):aE P w K mg base (k+1) x ps psp:=
 h.pgood S hb (λ_ _ _ _ _ _ _ _ _=>zDS) λas R q=>(hf as R q).elim
theorem bE{j:Int}(h1:-(10 ^ 100)<j)(h2:j<10 ^ 100):BigOk j:=by
 unfold BigOk
 have:j.natAbs<10 ^ 100:=by omega
 exact Nat.lt_trans this (by decide +kernel)
section
variable{own:Nat}{fr:List Nat}{g:UG}{tf:UTt}{ue:UT}{α:Type}
theorem cL{ρ:aV}(c:α->Tv)(f:α->Option Tv):∀{l:List α}{Q:List Tv->aV->Prop},(∀a∈l,∀R:Option Tv->aV->Prop,R (f a) ρ->nA own fr g tf ue (c a) ρ R)->Q (l.filterMap f) ρ->eZ own fr g tf ue (l.map c) ρ Q
 |[],_,_,q=>q
 |a::l,Q,h,q=>by
  rw[List.map_cons,rS]
  refine h a (.head _) _ ?_
  rw[List.filterMap_cons]at q
  cases e:f a with
  |none=>rw[e]at q;exact cL c f (λb hb=>h b (.tail _ hb)) q
  |some U=>rw[e]at q;exact cL (Q:=λUs ρ4=>Q (U::Us) ρ4) c f (λb hb=>h b (.tail _ hb)) q
theorem dC{ρ:aV}(c f:α->Tv){l:List α}{Q:List Tv->aV->Prop}(h:∀a∈l,∀R:Option Tv->aV->Prop,R (some (f a)) ρ->nA own fr g tf ue (c a) ρ R)(q:Q (l.map f) ρ):eZ own fr g tf ue (l.map c) ρ Q:=
 cL c (λa=>some (f a)) h (by rw[show l.filterMap (λa=>some (f a))=l.map f from List.filterMap_eq_map'▸rfl];exact q)
theorem oM{ρ:aV}(r:Tv->Tv->Prop):∀{Ts:List Tv}{Q:List Tv->aV->Prop},(∀T∈Ts,∀R:Option Tv->aV->Prop,(∀U,r T U->R (some U) ρ)->nA own fr g tf ue T ρ R)->(∀Us,Paired r Ts Us->Q Us ρ)->eZ own fr g tf ue Ts ρ Q
 |[],_,_,q=>q [] .nil
 |T::Ts,Q,h,q=>by
  rw[rS]
  exact h T (.head _) _ λU hU=>oM (Q:=λUs ρ4=>Q (U::Us) ρ4) r (λT' hT'=>h T' (.tail _ hT')) λUs p=>q _ (.cons hU p)
theorem pF{g:UG}{ub:UTs}{P:PEnds}{ρ:aV}(c:α->Tv){l:List α}(J:Nat->aV->Prop)(h0:J 0 ρ)(hs:∀i a ρ' (N:aV->Prop),l[i]?=some a->J i ρ'->(∀ρ'',J (i+1) ρ''->N ρ'')->g (c a) ρ' λρ1=>ub {P with nx:=N,ct:=N,bk:=P.nx} ρ1)
  (hd:∀ρ',J l.length ρ'->P.nx ρ'):iA g ub (l.map c) P ρ:=
 iE J h0 (λi T ρ' N e j hN=>by
  rw[List.getElem?_map]at e
  obtain⟨a,ea,rfl⟩:=Option.map_eq_some_iff.mp e
  exact hs i a ρ' N ea j hN) (by rw[List.length_map];exact hd)
end
theorem zAM(x y:Str):eqT (sT x) (sT y)=decide (x=y):=by
 rw[eqT]
 show(x==y)=_
 exact Bool.beq_eq_decide_eq x y
theorem eG{x:Str}{ss:List Str}:((ss.map sT).any λU=>eqT U (sT x))=decide (x∈ss):=by
 rw[List.any_map,Bool.eq_iff_iff,List.any_eq_true,decide_eq_true_iff]
 constructor
 ·rintro⟨y,hy,e⟩
  have e:eqT (sT y) (sT x)=true:=e
  rw[zAM,decide_eq_true_iff]at e
  rw[<-e];exact hy
 ·intro h
  exact⟨x,h,by show eqT (sT x) (sT x)=true;rw[zAM,decide_eq_true_iff]⟩
theorem eP{x:Str}{ss:List Str}:nO (sT x) (ss.map sT):=⟨trivial,λU hU=>by
 obtain⟨s,_,rfl⟩:=List.mem_map.mp hU
 trivial⟩
theorem sif{b:Bool}{A B:Prop}(h1:b=true->A)(h2:b=false->B):if b=true then A else B:=by
 cases b with
 |true=>exact(if_pos rfl).mpr (h1 rfl)
 |false=>exact(if_neg Bool.false_ne_true).mpr (h2 rfl)
theorem cQ{p:Prop}[Decidable p]{A B:Prop}(h1:p->A)(h2:¬ p->B):if decide p=true then A else B:=sif (λh=>h1 (of_decide_eq_true h)) λh=>h2 (of_decide_eq_false h)
end L2
namespace L2
open PySem PySem.Spec PyProof.Rows WordM
abbrev UTd:=aV->(List (Str×Tv)->aV->Prop)->Prop
def zHq(K:W.Frag)(F:Fm)(u:UTd):TE:=λσ H QQ=>∃ρ Q,FrOk K F ρ σ H/\u ρ Q/\∀a kvs kts H' ρ',Stp K F σ ρ H ρ' H'->H a=none->H' a=some (.dK kvs)->(kts.map (·.1)).Nodup->kts.length<64->VAk K H' kvs kts->Q kts ρ'->QQ (.ref a) H'
structure UD (X:Cx) (F:Fm) (e:Expr) (u:UTd):Prop where
 pe:PE X e (zHq X.K F u)
section
variable{X:Cx}{F:Fm}{e:Expr}{pos:Pos}
def uD(u:UTd):UT:=λρ Q=>u ρ λkts ρ1=>Q (.dct kts) ρ1
theorem zBl{u:UTd}(h:UD X F e u):UE X F e (uD u):=⟨PE.imp (PE.fz h.pe) λσ H QQ ⟨ρ,Q,fr,h,k⟩=>⟨ρ,_,fr,h,λa kvs kts H' ρ' s n e nd z p q=>
 .inr ⟨a,_,rfl,e,rfl,λob=>k _ _ _ _ (s.put fr n e rfl (.frz ob (.dK kvs))) (VA.dct ⟨ob,bM⟩ nd z (VAk.hs (fU e rfl) p)) q⟩⟩⟩
variable{u:UT}{p:Pos}
def zFZ(K:W.Frag):List V->Hp->VK->Prop:=λxs H Q=>∃(l:Addr) (ys:List V) (ps:List (Key×V)),xs=[.ref l]/\Rd H l (.lst ys)/\Paired (λy (p:Key×V)=>∃t,y=.ref t/\SqT K H t [kV p.1,p.2]) ys ps/\ps.length<=1000 /\
  ∀d,H d=none->Q (.ref d) (upd H d (.dK (jQ [] ps)))
theorem zC0(hc:X.calm=true):CallR X (.type "dict") (zFZ X.K):=by
 rintro pins s σ H _ us Q I r ⟨l,ys,ps,rfl,hl,hp,hsz,q⟩
 obtain⟨u,rfl,rx⟩:=cF r
 cases rx
 obtain⟨hz,its,n,hv,hget⟩:=(show ObjOk X.prog X.w H s.heap l (.lst ys) from hl.ok I.hok)
 have key:∀{ys:List V} {its:List Value} {ps:List (Key×V)},Vals ys its->Paired (λy (p:Key×V)=>∃t,y=.ref t/\SqT X.K H t [kV p.1,p.2]) ys ps ->
   ∃qs:List (Key×Value),KV ps qs/\its.length=qs.length/\∀(j:Nat) (k:Key) (v:Value),qs[j]?=some (k,v)->∃t kk,its[j]?=some (.ref t)/\IsTup s.heap t #[kk,v]/\(cB X.prog X.w).is k kk=true:=by
  intro ys its ps hv hp
  induction hp generalizing its with
  |nil=>cases hv;exact⟨[],.nil,rfl,λj k v e=>by simp at e⟩
  |@cons y p ys' ps' h _ ih=>
   cases hv with
   |cons r0 rs=>
    obtain⟨t,rfl,ht⟩:=h
    cases r0
    obtain⟨qs,kq,lq,fq⟩:=ih rs
    obtain⟨tits,tv,tt,_⟩:=I.tuple ht
    cases tv with
    |@cons _ kk _ _ r1 rs1=>
     cases rs1 with
     |@cons _ vv _ _ r2 rs2=>
      cases rs2
      refine⟨(p.1,vv)::qs,.cons ⟨rfl,r2⟩ kq,by rw[List.length_cons,List.length_cons,lq],λj k v e=>?_⟩
      cases j with
      |zero=>
       cases e
       exact⟨t,kk,rfl,tt,mY r1⟩
      |succ j=>exact fq j k v e
 obtain⟨qs,kq,lq,fq⟩:=key hv hp
 have hbig:=I.big
 have hps:ps.length=qs.length:=Paired.length kq
 refine zCj (ps:=qs) (I.ok.hd hc) hget ⟨by simpa using lq,λj k v e=>by obtain⟨t,kk,a,b,c⟩:=fq j k v e;exact⟨t,kk,by simpa using a,b,c⟩⟩ (by omega) λh' tk hd k=>?_
 have hlen:=wK ps []
 refine⟨.ref s.heap.objs.size,_,I.laid (t':=tk) (o:=.dK (jQ [] ps)) k (Nat.le_refl _) (show ObjOk _ _ _ h' _ (.dK _) from ⟨by rw[sizeLine_eq];have:=hlen;simp at this;omega,?_,_,zFr kq .nil,hd⟩),rfl,q _ I.fresh⟩
 exact beq_eq_false_iff_ne.mpr (Nat.ne_of_gt hbig)
def zFH(u:UT):UTd:=λρ Q=>u ρ λT ρ1=>∃kts:List (Str×Tv),T=.seq false (kts.map λkt=>.seq true [sT kt.1,kt.2])/\(kts.map (·.1)).Nodup/\kts.length<64/\Q kts ρ1
theorem zN{K:W.Frag}{H:Hp}:∀{ys:List V}{kts:List (Str×Tv)},VAs K H ys (kts.map λkt=>.seq true [sT kt.1,kt.2])->∃ps:List (Key×V),Paired (λy (p:Key×V)=>∃t,y=.ref t/\SqT K H t [kV p.1,p.2]) ys ps/\VAk K H ps kts
 |[],[],_=>⟨[],.nil,.nil⟩
 |y::ys,kt::kts,.cons r t=>by
  obtain⟨ps,h1,h2⟩:=zN t
  obtain⟨a,xs,rfl,hs,z,p⟩:=VA.seqI r
  obtain⟨k,v,rfl,vk,vv⟩:∃k v,xs=[k,v]/\VA K H k (sT kt.1)/\VA K H v kt.2:=by
   cases p with
   |cons r1 t1=>
    cases t1 with
    |cons r2 t2=>cases t2;exact⟨_,_,rfl,r1,r2⟩
  obtain⟨rfl,_⟩:=vk.leafI
  exact⟨(.inr kt.1,v)::ps,.cons ⟨a,rfl,hs⟩ h1,.cons ⟨rfl,vv⟩ h2⟩
theorem zC7{K:W.Frag}{H:Hp}{kvs:List (Key×V)}{kts:List (Str×Tv)}(p:VAk K H kvs kts)(n:(kts.map (·.1)).Nodup):(kvs.map (·.1)).Nodup:=by
 rw[yY p]
 unfold List.Nodup at n ⊢
 rw[List.pairwise_map]
 exact n.imp λh e=>h (Sum.inr.inj e)
theorem zA(hc:X.calm=true)(hg:Gl X "dict")(hm:X.mg "dict"=none)(he:UE X F e u)(hst:eW e=false:=by rfl)(hpl:(backTo pos (starEach [] X.env)).any (·.1)=false:=by rfl):UD X F (.Call (.Name "dict" p) [e] [] pos) (zFH u):=
 ⟨PE.imp (jG (zC0 hc) hg hm boot_dict (dN he.pe eK hst) (by decide) (by decide) (lI hst) hpl) λσ H QQ ⟨ρ,Q,f,h,k⟩=>by
  refine⟨ρ,_,f,h,λx T H1 ρ1 s1 v1 q1=>?_⟩
  obtain⟨kts,rfl,nd,z,q⟩:=q1
  obtain⟨a,xs,rfl,⟨ob,hs⟩,zz,p⟩:=v1.seqI
  obtain⟨ps,h1,h2⟩:=zN p
  have l2:ps.length=kts.length:=Paired.length h2
  refine⟨a,xs,ps,rfl,.inr ⟨ob,hs⟩,h1,by omega,λd n=>?_⟩
  rw[yH (kvs:=[]) (by simpa using zC7 h2 nd),List.nil_append]
  exact k _ _ _ _ _ (s1.trans (Stp.same s1.fr (dB n))) (s1.non n) bM nd z (VAk.hs (jS n) h2) q⟩
variable{x:Str}{apos cpos:Pos}
end
section
variable{X:Cx}{F:Fm}
def zG6:R2:=λx y H Q=>∃l k xs,x=.ref l/\y=.int k/\Rd H l (.lst xs) /\ -(2 ^ 63)<=k/\k<2 ^ 63/\xs.length*k.toNat<=sizeLine/\∀p,H p=none->Q (.ref p) (upd H p (.lst (List.replicate k.toNat xs).flatten))
theorem zFa:OpR X (binaryOp .Mult) zG6:=by
 rintro pins s σ H _ _ v u Q I rx ry ⟨l,k,xs,rfl,rfl,hH,h1,h2,hz,q⟩
 cases rx
 obtain⟨t,rfl⟩:=ry
 obtain⟨z,its,n,r,e⟩:=hH.ok I.hok
 have hl:=r.length
 have hlen:its.toArray.size*k.toNat<=sizeLine:=by rw[List.size_toArray,<-hl];exact hz
 have hcap:¬ its.toArray.size*k.toNat > (2 ^ 63-1) / 8:=by
  have:(sizeLine:Nat)<=(2 ^ 63-1) / 8:=by decide
  omega
 have hfit:¬ (!Builtin.List.listFitsIndex k)=true:=by
  rw[fitsIndex_both h1 h2]
  exact Bool.false_ne_true
 have hlong:¬ Builtin.List.listTooLong (its.toArray.size*k.toNat)=true:=by
  rw[zP hlen]
  exact Bool.false_ne_true
 have hnew:List.foldl (λx1 x2=>x1++x2) #[] (List.replicate (if its.toArray.isEmpty=true then 0 else k.toNat) its.toArray)=(List.replicate k.toNat its).flatten.toArray:=by
  have f0:∀m:Nat,List.foldl (λx1 x2=>x1++x2) #[] (List.replicate m its.toArray)=(List.replicate m its).flatten.toArray:=λm=>by
   have:=yN its m []
   rw[List.nil_append]at this
   exact this
  rw[f0]
  cases its with
  |nil=>simp
  |cons a r'=>rw[if_neg (by simp)]
 refine wpAny_binaryOp_repeat_ref (T:="list") (U:="int") (by decide) ⟨_,e,rfl⟩ (λs'=>typeIs_int s' k t) noFill_list_mul F.fills_int_mul F.slot_int_rmul repeat_list F.slot_int_index.lookup
  (call_meets F.slot_int_rmul (typeIs_int s k t) F.entry_int_rmul (F.args_int_rmul_2 _ _) (int___rmul___int_list k t l its.toArray n)
   ⟨e,rfl,⟨_,e,rfl⟩,call_meets F.slot_list_mul ⟨_,e,rfl⟩ F.entry_list_mul (F.args_list_mul_2 _ _) (AutoListH.list___mul___list_int_3 l its.toArray n k t hfit hcap hlong) ⟨e,?_⟩⟩)
 rw[hnew]
 exact⟨.ref _,_,I.lnew (t':=s.toks) (r.rep k.toNat) (by rw[tP,Nat.mul_comm];exact hz),rfl,q _ I.fresh⟩
theorem xF{α β:Type}{R:α->β->Prop}{l:List α}{m:List β}(p:Paired R l m):∀k:Nat,Paired R (List.replicate k l).flatten (List.replicate k m).flatten
 |0=>.nil
 |k+1=>by rw[List.replicate_succ,List.replicate_succ,List.flatten_cons,List.flatten_cons];exact nX p (xF p k)
def uU:P2
 |.seq false xs,.leaf (.int k),Q=>(xs.length*k.toNat<=100000 /\ -(2 ^ 62)<=k/\k<2 ^ 62)/\Q (.seq false (List.replicate k.toNat xs).flatten)
 |T,U,Q=>wA T U Q
theorem dX:gM X (binaryOp .Mult) uU:=by
 obtain⟨a,oa,ra⟩:=zF2 (X:=X)
 refine⟨_,oa.or zFa,λx y T U H Q QQ vx vy h k=>?_⟩
 unfold uU at h
 split at h
 ·obtain⟨a,xs,rfl,⟨ob,hs⟩,z,p⟩:=vx.seqI
  obtain⟨rfl,_⟩:=vy.leafI
  obtain⟨⟨h1,h2,h3⟩,q⟩:=h
  have l1:xs.length=_:=Paired.length p
  refine .inr ⟨a,_,xs,rfl,rfl,.inr ⟨ob,hs⟩,by omega,by omega,fI (by rw[l1];exact h1),λb n=>k _ _ _ (Raw.lst n ?_ (xF p _)) q⟩
  rw[tP,Nat.mul_comm];exact h1
 ·exact .inl (ra x y T U H Q QQ vx vy h k)
end
end L2
namespace L2
open PySem PySem.Spec PyProof.Rows WordM
inductive Wd where
 |few (ts:List Str)
 |make (h:Str) (a b:Int) (ms:List Str)
inductive Pt where
 |nothing
 |truths (bs:List Bool)
 |numbers (lo hi st:Int)
 |texts (w:Wd)
 |lists (a b:Int) (f:List Pt)
 |record (a b:Int) (fs:List (Str×Bool×List Pt))
 |table (a b:Int) (w:Wd) (f:List Pt)
def cG:Wd->Tv
 |.few ts=>.seq true [sT "few",.seq true (ts.map sT)]
 |.make h a b ms=>.seq true [sT "make",sT h,iT a,iT b,.seq true (ms.map sT)]
def aU:Pt->Tv
 |.nothing=>.seq true [sT "nothing"]
 |.truths bs=>.seq true [sT "truths",.seq true (bs.map bT)]
 |.numbers lo hi st=>.seq true [sT "numbers",iT lo,iT hi,iT st]
 |.texts w=>.seq true [sT "texts",cG w]
 |.lists a b f=>.seq true [sT "lists",iT a,iT b,.seq true (f.map aU)]
 |.record a b fs=>.seq true [sT "record",iT a,iT b,.seq true (fs.map λx=>.seq true [sT x.1,bT x.2.1,.seq true (x.2.2.map aU)])]
 |.table a b w f=>.seq true [sT "table",iT a,iT b,cG w,.seq true (f.map aU)]
termination_by p=>sizeOf p
decreasing_by
 all_goals simp_wf
 ·have:=List.sizeOf_lt_of_mem ‹_›;omega
 ·obtain⟨x1,x2,x3⟩:=x
  have h1:=List.sizeOf_lt_of_mem ‹_∈fs›
  have h2:=List.sizeOf_lt_of_mem ‹_∈x3›
  simp at h1
  omega
 ·have:=List.sizeOf_lt_of_mem ‹_›;omega
abbrev cK(f:List Pt):Tv:=.seq true (f.map aU)
abbrev bH(x:Str×Bool×List Pt):Tv:=.seq true [sT x.1,bT x.2.1,cK x.2.2]
theorem gA(a b:Int)(f:List Pt):aU (.lists a b f)=.seq true [sT "lists",iT a,iT b,cK f]:=by rw[aU]
theorem bR(a b:Int)(fs:List (Str×Bool×List Pt)):aU (.record a b fs)=.seq true [sT "record",iT a,iT b,.seq true (fs.map bH)]:=by rw[aU]
theorem cV(a b:Int)(w:Wd)(f:List Pt):aU (.table a b w f)=.seq true [sT "table",iT a,iT b,cG w,cK f]:=by rw[aU]
def gY:Pt->Str
 |.nothing=>"nothing"
 |.truths _=>"truths"
 |.numbers ..=>"numbers"
 |.texts _=>"texts"
 |.lists ..=>"lists"
 |.record ..=>"record"
 |.table ..=>"table"
def aY:Pt->Nat
 |.nothing=>0
 |.truths _=>1
 |.numbers ..=>2
 |.texts _=>3
 |.lists ..=>4
 |.record ..=>5
 |.table ..=>5
theorem dA{a b:Int}{A B:Prop}(h1:a=b->A)(h2:a≠b->B):if (false != eqV (.int a) (.int b))=true then A else B:=sif (λz=>h1 (by simpa[eqV]using z)) λz=>h2 (by simpa[eqV]using z)
theorem eM{a b:Str}{A B:Prop}(h1:a=b->A)(h2:a≠b->B):if (false != eqV (.str a) (.str b))=true then A else B:=sif (λz=>h1 (by simpa[eqV]using z)) λz=>h2 (by simpa[eqV]using z)
def qZ(s:Str):Prop:=Sg s/\s.length<=50
def nJ(l:List Str):Prop:=l.Pairwise λa b=>cs a<cs b
def wH(n:Int):Prop:=-(10 ^ 61)<n/\n<10 ^ 61
def WdOk:Wd->Prop
 |.few ts=>1<=ts.length/\ts.length<=6/\nJ ts/\∀t∈ts,qZ t
 |.make h a b ms=>qZ h/\0<=a/\a<=b/\1<=b/\b<=100/\ms.Sublist MK/\ms≠[]
def pO:Wd->Bool
 |.few _=>false
 |.make ..=>true
def RunOk(lo hi st:Int):Prop:=wH lo/\wH hi/\wH st/\lo<=hi/\0<=st/\(st=0↔lo=hi)/\(st≠0->(hi-lo) % st=0)
def iG(fs:List (Str×Bool×List Pt)):Nat:=(fs.filter λx=>x.2.1).length
abbrev mB(f:List Pt):Prop:=f.Pairwise λp q=>aY p<aY q
def PartOk:Nat->Pt->Prop
 |0,_=>False
 |_+1,.nothing=>True
 |_+1,.truths bs=>bs=[false]\/bs=[true]\/bs=[false,true]
 |_+1,.numbers lo hi st=>RunOk lo hi st
 |_+1,.texts w=>WdOk w
 |n+1,.lists a b f=>0<=a/\a<=b/\b<=100/\(b=0->f=[])/\(b≠0->f≠[]/\mB f/\∀p∈f,PartOk n p)
 |n+1,.record a b fs=>0<=a/\a<=b/\fs.length<=8/\nJ (fs.map (·.1))/\(∀x∈fs,qZ x.1/\x.2.2≠[]/\mB x.2.2/\∀p∈x.2.2,PartOk n p)/\(iG fs:Int)<=a/\b<=fs.length/\(iG fs<fs.length->a<fs.length/\iG fs<b)
 |n+1,.table a b w f=>(0<=a/\a<=11)/\a<=b/\1<=b/\b<=100/\WdOk w/\pO w=true/\f≠[]/\mB f/\∀p∈f,PartOk n p
abbrev mR(n:Nat)(f:List Pt):Prop:=mB f/\∀p∈f,PartOk n p
theorem zCu{a b:Str}(h:cs a<=cs b)(n:a≠b):cs a<cs b:=by
 refine Classical.byContradiction λz=>n (kK (List.le_antisymm h (List.not_lt.mp z)))
theorem zEP(l:List Str):∃ss:List Str,ss.Perm l/\sortedS ss=true:=by
 refine⟨l.mergeSort λa b=>decide (cs a<=cs b),List.mergeSort_perm _ _,PyProof.Rows.sortedS_of_pairwise _ ?_⟩
 refine(List.pairwise_mergeSort (λa b c h1 h2=>?_) (λa b=>?_) l).imp λ{a b} h=>?_
 ·exact decide_eq_true (List.le_trans (of_decide_eq_true h1) (of_decide_eq_true h2))
 ·rcases List.le_total (cs a) (cs b) with z|z<;>simp[z]
 ·rw[ltCps_eq]
  exact decide_eq_false (List.not_lt.mpr (of_decide_eq_true h))
theorem zEO(l:List Str):(dI l).Pairwise λa b=>cs a<=cs b:=by
 obtain⟨ss,h1,h2⟩:=zEP l
 rw[<-oT h1 h2]
 exact nW _ h2
theorem oE{l:List Str}(n:l.Nodup):nJ (dI l):=by
 have h2:(dI l).Nodup:=(kB l).nodup_iff.mpr n
 exact List.Pairwise.imp₂ (λa b h n=>zCu h n) (zEO l) h2
end L2
namespace L2
open PySem PySem.Spec PyProof.Rows WordM
def stW(x y:Str):Bool:=decide (0+y.length<=x.length)&&Builtin.Str.subAt x y 0
def cY(x hd:Str):Str:=Txt.slice x (some (hd.length:Int)) none
def bV:Wd->Str->Bool
 |.few ss,x=>decide (x∈ss)
 |.make hd lo hi ms,x=>stW x hd&&((decide (lo<=((cY x hd).length:Int))&&decide (((cY x hd).length:Int)<=hi))&&(cs (cY x hd)).all λc=>decide (cS c∈ms))
def kZ:Nat->Str
 |0=>"nothing"
 |1=>"truth"
 |2=>"number"
 |3=>"text"
 |4=>"list"
 |_=>"dict"
def cP(lo hi st i:Int):Bool:=decide (lo<=i)&&decide (i<=hi)&&decide ((i-lo) % max 1 st=0)
end L2
namespace L2
open PySem PySem.Spec PyProof.Rows WordM
theorem zDw{kts:List (Str×Tv)}{k:Str}{U:Tv}(h:cZ kts k=some U):(k,U)∈kts:=by
 unfold cZ at h
 obtain⟨kt,h1,h2⟩:=Option.map_eq_some_iff.mp h
 have h3:=List.find?_some h1
 have h4:=List.mem_of_find?_eq_some h1
 have h5:kt.1=k:=by simpa using h3
 rw[<-h5,<-h2];exact h4
theorem lookD_none{kts:List (Str×Tv)}{k:Str}:cZ kts k=none↔k∉kts.map (·.1):=by
 constructor
 ·intro h hk
  obtain⟨U,e⟩:=zEk hk
  rw[h]at e;cases e
 ·intro h
  cases e:cZ kts k with
  |none=>rfl
  |some U=>exact absurd (List.mem_map.mpr ⟨_,zDw e,rfl⟩) h
end L2
namespace L2
open PySem PySem.Spec PyProof.Rows WordM
def pT(K:W.Frag):Sp:=λvs H Q _=>∃(a:Addr) (ns:List Int),vs=[.ref a]/\SqL K H a (ns.map V.int)/\ns.length<=63/\∀H',Q (.bl true) H'
def lG(n:Nat):aV:=.no::.dk::List.replicate (n-2) .no
theorem zGH{K:W.Frag}{H:Hp}{p c:Addr}{N:List Str}{x:V}(hN:2<=N.length)(d:DeckAt H p c):FrOk K ⟨H,some (p,c)⟩ (lG N.length) ((dP N [x]).set 1 (some (.ref p))) H:=by
 have nm:∀(i:Nat) (s:Sl),(lG N.length)[i]?=some s->(s=.dk/\i=1)\/s=.no:=λi s e=>by
  unfold lG at e
  match i,e with
  |0,e=>exact .inr (by simpa using e.symm)
  |1,e=>exact .inl ⟨by simpa using e.symm,rfl⟩
  |i+2,e=>
   have e:(List.replicate (N.length-2) Sl.no)[i]?=some s:=by simpa using e
   exact .inr (List.eq_of_mem_replicate (List.mem_of_getElem? e))
 refine⟨λp' c' e=>by cases e;exact d,⟨λ_ _ e _=>e,λp' c' e=>by cases e;exact d⟩,?_,λi s e=>?_,λi j a s t e _ m _ _ _=>?_⟩
 ·unfold lG dP
  simp
  omega
 ·rcases nm i s e with⟨rfl,rfl⟩|rfl
  ·refine⟨p,c,rfl,?_⟩
   unfold ixv dP
   rw[List.getElem?_set_self (by simp;omega)]
   rfl
  ·trivial
 ·rcases nm i s e with⟨rfl,_⟩|rfl<;>cases m
theorem zEr{K:W.Frag}{mg:Str->Option Value}{x:Str}{a:Addr}{ss:List Str}(m:mg x=some (.ref a))(T:∀H,SqT K H a (ss.map V.str))(l:ss.length<=100000:=by decide):gZ K mg x (.seq true (ss.map sT)):=by
 refine⟨.ref a,.ref a,m,rfl,λH=>VA.seq (T H) (by rw[List.length_map];exact l) ?_⟩
 have key:∀ss:List Str,VAs K H (ss.map V.str) (ss.map sT):=λss=>by
  induction ss with
  |nil=>exact .nil
  |cons s ss ih=>exact .cons (.flat rfl) ih
 exact key ss
theorem zEY{X:Cx}{st:List Stmt}{us:UTs}(h:∀F,USs X F st us):PSs X st (λD σ H=>∃F,kY X.K F us D σ H):=λpins s σ H D I ⟨F,q⟩=>(h F).ps pins s σ H D I q
theorem zFi{X:Cx}{us:UTs}{D:jZ}{p c:Addr}{H:Hp}{N:List Str}{x:V}(hN:2<=N.length)(d:DeckAt H p c)(q:∀H',D.rt (.bl true) H')(h:us {nx:=λ_=>False,rt:=λT=>T=bT true} (lG N.length)):
  ∃F,kY X.K F us D ((dP N [x]).set 1 (some (.ref p))) H:=⟨⟨H,some (p,c)⟩,lG N.length,_,zGH hN d,h,λ_ _ _ _ _ z=>z.elim,λx T H' _ v e=>by
 subst e
 obtain⟨rfl,_⟩:=v.leafI
 exact q H',λ_ _ _ _ _ z=>z.elim,λ_ _ _ _ _ z=>z.elim⟩
end L2
namespace L2
open PySem PySem.Spec PyProof.Rows
section
variable{X:Cx}{F:Fm}
theorem zGQ{x y z:V}{us:List Value}(h:Vals [x,y,z] us):∃u v r,us=[u,v,r]/\RelV x u/\RelV y v/\RelV z r:=by
 cases h with
 |cons a t=>cases t with
  |cons b t=>cases t with
   |cons c t=>cases t;exact⟨_,_,_,rfl,a,b,c⟩
end
end L2
namespace L2
open PySem PySem.Spec PyProof.Rows WordM
section
variable{X:Cx}{F:Fm}
variable{x:Str}{p apos cpos pos:Pos}{st:Stmt}
theorem zFC:US X F st (λ_ _=>False):=⟨λpins s σ H D I ⟨_,_,_,h,_⟩=>h.elim⟩
end
end L2
namespace L2
open PySem PySem.Spec PyProof.Rows
@[reducible] def zI3:PyProof.Rows.KeyKind where
 α:=Bool
 blt a b:=!a&&b
 irrefl a:=by cases a<;>rfl
 trans a b c h1 h2:=by cases a<;>cases b<;>cases c<;>simp_all
 negTrans a b c h:=by cases a<;>cases b<;>cases c<;>simp_all
 total a b h1 h2:=by cases a<;>cases b<;>simp_all
 keyOf v:=match v with|.bool b=>some b|_=>none
 dflt:=false
end L2
namespace L2
open PySem PySem.Spec PyProof.Rows WordM
theorem zEN{x y:Str}:stW x y=true↔∃r,cs x=cs y++r:=by
 unfold stW
 rw[StrLaws.subAt_eq,Bool.and_eq_true,decide_eq_true_iff,List.drop_zero,beq_iff_eq,WordM.len,WordM.len]
 constructor
 ·rintro⟨h1,h2⟩
  have h2:(cs x).take (cs y).length=cs y:=h2
  exact⟨(cs x).drop (cs y).length,(List.take_append_drop (cs y).length (cs x)).symm.trans (by rw[h2])⟩
 ·rintro⟨r,e⟩
  show _/\(cs x).take _=_
  rw[e]
  exact⟨by rw[List.length_append];omega,by rw[List.take_left'];rfl⟩
theorem zH{x y:Str}{r:List Nat}(e:cs x=cs y++r):cs (cY x y)=r:=by
 have hl:x.length=(cs y).length+r.length:=by rw[WordM.len,e,List.length_append]
 unfold cY
 rw[PyProof.Rows.slice_from_eq (b:=(x.length:Int)) (by omega) (by rw[hl,WordM.len];omega) rfl]
 show((cs x).drop _).take _=r
 rw[hl,WordM.len y,e,show(((cs y).length:Nat):Int).toNat=(cs y).length by omega,List.drop_left,List.take_of_length_le]
 omega
theorem zHo{a b:Str}(h:cs a<cs b):a≠b:=λe=>by rw[e]at h;exact List.lt_irrefl _ h
theorem sort_set_mem{ss:List Str}{x:Str}:x∈dI (dR ss)↔x∈ss:=(kB _).mem_iff.trans (sL ss x)
theorem zCa(ss:List Str):nJ (dI (dR ss)):=oE (zAm ss)
end L2
namespace L2
open PySem PySem.Spec PyProof.Rows PySem.SeqAt
section
variable{X:Cx}{F:Fm}
def zA3(ss:List Str):Str:=tupleText (ss.map reprText)
def zHh:Pn:=λTs Q=>(∃b:Bool,Ts=[bT b]/\Q (sT (if b then "True" else "False")))\/∃ss:List Str,Ts=[.seq true (ss.map sT)]/\(∀s∈ss,(reprText s).length<=1000)/\(zA3 ss).length<=100000/\Q (sT (zA3 ss))
theorem zAn(hg:X.A.guards=some [])(hu:X.A.units+16<cLine):fV X (.builtin "repr") zHh:=⟨_,call_reprB.or (zCV hg hu),λxs Ts H Q QQ vx h k=>by
 rcases h with⟨b,rfl,q⟩|⟨ss,rfl,hs,hl,q⟩
 ·obtain⟨x,rfl,v⟩:=cT vx
  obtain⟨rfl,_⟩:=v.leafI
  exact .inl ⟨b,rfl,k _ _ _ (.flat rfl) q⟩
 ·obtain⟨x,rfl,v⟩:=cT vx
  obtain⟨a,ys,rfl,hq,z,p⟩:=v.seqI
  rw[jI p]at hq
  have e1:(ss.map λs=>Rp.lf (.str s)).map Rp.v=ss.map V.str:=by rw[List.map_map];rfl
  have e2:(ss.map λs=>Rp.lf (.str s)).map Rp.t=ss.map reprText:=by rw[List.map_map];rfl
  refine .inr (.inr ⟨a,ss.map λs=>.lf (.str s),rfl,by rw[e1];exact hq,λi hi=>?_,λi hi=>?_,by rw[e2];exact fI hl,by rw[e2];exact k _ _ _ (.flat rfl) q⟩)
  ·obtain⟨s,hs',rfl⟩:=List.mem_map.mp hi
   show(reprText s).length<=100000
   have:=hs s hs'
   omega
  ·obtain⟨s,hs',rfl⟩:=List.mem_map.mp hi
   exact λz=>nomatch z⟩
end
end L2
namespace L2
open PySem PySem.Spec PyProof.Rows PySem.SeqAt
section
variable{X:Cx}{F:Fm}
theorem zDK(hc:X.calm=true):CallR X (.builtin "max") (λxs H Q=>∃i j l,xs=[.int i,.int j,.int l]/\Q (.int (max i (max j l))) H):=by
 intro pins s σ H xs us Q I r h
 obtain⟨i,j,l,rfl,q⟩:=h
 obtain⟨u,v,w',rfl,⟨t,rfl⟩,⟨t',rfl⟩,⟨t'',rfl⟩⟩:=zGQ r
 refine max_three_ints (I.ok.hd hc) λh' tk k=>⟨_,H,I.kept k,?_,q⟩
 split
 ·split
  ·rw[show max i (max j l)=l by omega];exact⟨_,rfl⟩
  ·rw[show max i (max j l)=j by omega];exact⟨_,rfl⟩
 ·split
  ·rw[show max i (max j l)=l by omega];exact⟨_,rfl⟩
  ·rw[show max i (max j l)=i by omega];exact⟨_,rfl⟩
theorem zHB{K:W.Frag}{H:Hp}{xs:List V}{T U W:Tv}(h:VAs K H xs [T,U,W]):∃x y z,xs=[x,y,z]/\VA K H x T/\VA K H y U/\VA K H z W:=by
 cases h with
 |cons r t=>
  obtain⟨y,z,rfl,v,v'⟩:=uY t
  exact⟨_,_,_,rfl,r,v,v'⟩
def zHi:Pn:=λTs Q=>∃i j l:Int,Ts=[iT i,iT j,iT l]/\Q (iT (max i (max j l)))
theorem zEX(hc:X.calm=true):fV X (.builtin "max") zHi:=⟨_,zDK hc,λxs Ts H Q QQ vx h k=>by
 obtain⟨i,j,l,rfl,q⟩:=h
 obtain⟨x,y,z,rfl,v,v',v''⟩:=zHB vx
 obtain⟨rfl,_⟩:=v.leafI
 obtain⟨rfl,_⟩:=v'.leafI
 obtain⟨rfl,_⟩:=v''.leafI
 exact⟨i,j,l,rfl,k _ _ _ (.flat rfl) q⟩⟩
end
end L2
namespace SrtM
open PySem PySem.W PyProof.Rows
def All{α:Type}(n:Nat)(Q:α->Prop):KasT α->Prop
 |.ret a=>Q a
 |.ask i j k=>(i<n/\j<n/\i≠j)/\∀b,All n Q (k b)
theorem All.bind{α β:Type}{n:Nat}{Q:β->Prop}{f:α->KasT β}:∀{t:KasT α},All n (λa=>All n Q (f a)) t->All n Q (t.bind f)
 |.ret _,h=>h
 |.ask _ _ k,h=>⟨h.1,λb=>All.bind (h.2 b)⟩
theorem All.mono{α:Type}{n:Nat}{Q Q':α->Prop}(hq:∀a,Q a->Q' a):∀{t:KasT α},All n Q t->All n Q' t
 |.ret a,h=>hq a h
 |.ask _ _ _,h=>⟨h.1,λb=>All.mono hq (h.2 b)⟩
def Pl(n:Nat)(p:Array Nat):Prop:=p.Perm (List.toArray (List.range n))
theorem Pl.size{n:Nat}{p:Array Nat}(h:Pl n p):p.size=n:=by
 have:=Array.Perm.size_eq h
 simpa using this
theorem Pl.get{n:Nat}{p:Array Nat}(h:Pl n p){i:Nat}(hi:i<n):p.getD i 0<n:=by
 have hs:=h.size
 have hi':i<p.size:=by omega
 have e:p.getD i 0=p[i]:=by simp[Array.getD,hi']
 rw[e]
 have m:p[i]∈p:=Array.getElem_mem hi'
 have:=(Array.Perm.mem_iff h).mp m
 simpa using this
theorem Pl.two{n:Nat}{p:Array Nat}(h:Pl n p){i j:Nat}(hi:i<n)(hj:j<n)(ne:i≠j):p.getD i 0<n/\p.getD j 0<n/\p.getD i 0≠p.getD j 0:=by
 refine⟨h.get hi,h.get hj,λe=>ne ?_⟩
 have hs:=h.size
 have nd:p.toList.Nodup:=(Array.perm_iff_toList_perm.mp h).nodup_iff.mpr (by simpa using List.nodup_range)
 have e1:p.getD i 0=p.toList[i]'(by rw[Array.length_toList];omega):=by simp[Array.getD,show i<p.size by omega]
 have e2:p.getD j 0=p.toList[j]'(by rw[Array.length_toList];omega):=by simp[Array.getD,show j<p.size by omega]
 rw[e1,e2]at e
 exact(List.getElem_inj nd).mp e
theorem Pl.rev{n:Nat}{p:Array Nat}(h:Pl n p)(i j:Nat):Pl n (kas_rev p i j):=(mirror_perm p i j _).trans h
theorem Pl.bub{n:Nat}{p:Array Nat}(h:Pl n p)(i j:Nat):Pl n (bubble p i j):=(bubble_perm p i j).trans h
theorem tU{n:Nat}{p:Array Nat}(h:Pl n p):∀(f a:Nat),1<=a->a+f<=n->All n (λm=>a<=m/\m<=a+f) (kas_asc p f a)
 |0,a,_,_=>⟨Nat.le_refl _,Nat.le_refl _⟩
 |f+1,a,a1,ha=>⟨h.two (by omega) (by omega) (by omega),λb=>by
  cases b with
  |true=>exact⟨Nat.le_refl _,by omega⟩
  |false=>exact(tU h f (a+1) (by omega) (by omega)).mono λm hm=>⟨by omega,by omega⟩⟩
theorem oY{n:Nat}:∀(f:Nat) (p:Array Nat) (a q:Nat),Pl n p->1<=a->a+f<=n->All n (λr:Array Nat×Nat×Nat=>Pl n r.1/\a<=r.2.1/\r.2.1<=a+f) (kas_desc f p a q)
 |0,p,a,q,h,_,_=>⟨h,Nat.le_refl _,Nat.le_refl _⟩
 |f+1,p,a,q,h,a1,ha=>⟨h.two (by omega) (by omega) (by omega),λb=>by
  cases b with
  |true=>
   show All n _ (if q > 0 then kas_desc f (kas_rev p (a-(q+1)) a) (a+1) 0 else kas_desc f p (a+1) 0)
   split
   ·exact(oY f _ (a+1) 0 (h.rev _ _) (by omega) (by omega)).mono λr hr=>⟨hr.1,by omega,by omega⟩
   ·exact(oY f _ (a+1) 0 h (by omega) (by omega)).mono λr hr=>⟨hr.1,by omega,by omega⟩
  |false=>
   refine⟨h.two (by omega) (by omega) (by omega),λd=>?_⟩
   cases d with
   |true=>exact⟨h,Nat.le_refl _,by show a<=a+(f+1);omega⟩
   |false=>exact(oY f _ (a+1) (q+1) h (by omega) (by omega)).mono λr hr=>⟨hr.1,by omega,by omega⟩⟩
theorem zD{n m:Nat}{p:Array Nat}(h:Pl n p)(m1:1<=m)(hm:m<=n):All n (λr:Nat×Array Nat=>Pl n r.2/\r.1<=n) (kas_tail3 m n p):=by
 refine All.bind ((tU (h.rev 0 m) (n-m) m m1 (by omega)).mono λk hk=>?_)
 exact⟨h.rev 0 m,by show k<=n;omega⟩
theorem zM{n m:Nat}{p:Array Nat}(h:Pl n p)(hm:m<n):All n (λr:Nat×Array Nat=>Pl n r.2/\r.1<=n) (kas_descPart m n p):=by
 refine All.bind ((oY (n-(m+1)) p (m+1) 0 h (by omega) (by omega)).mono λr hr=>?_)
 obtain⟨h1,h2,h3⟩:=hr
 show All n _ (if r.2.2 > 0 then kas_tail3 r.2.1 n (kas_rev r.1 (r.2.1-(r.2.2+1)) r.2.1) else kas_tail3 r.2.1 n r.1)
 split
 ·exact zD (h1.rev _ _) (by omega) (by omega)
 ·exact zD h1 (by omega) (by omega)
theorem zDF{n:Nat}{p:Array Nat}(h:Pl n p)(hn:1<=n):All n (λr:Nat×Array Nat=>Pl n r.2/\r.1<=n) (kas_count n p):=by
 refine All.bind ((tU h (n-1) 1 (by omega) (by omega)).mono λm hm=>?_)
 show All n _ (if (m==n)=true then KasT.ret (m,p) else if m > 1 then KasT.ask (p.getD 0 0) (p.getD (m-1) 0) λc=>if c=true then KasT.ret (m,p) else kas_descPart m n (kas_rev p 0 m) else kas_descPart m n p)
 split
 ·exact⟨h,by show m<=n;omega⟩
 ·rename_i z
  have z:m≠n:=by simpa using z
  split
  ·refine⟨h.two (by omega) (by omega) (by omega),λc=>?_⟩
   cases c with
   |true=>exact⟨h,by show m<=n;omega⟩
   |false=>exact zM (h.rev _ _) (by omega)
  ·exact zM h (by omega)
theorem rY{n k:Nat}{p:Array Nat}(h:Pl n p)(hk:k<n):∀(f l r:Nat),r<=k->All n (λm=>True) (kas_place p k f l r)
 |0,_,_,_=>trivial
 |f+1,l,r,hr=>by
  show All n _ (if l>=r then KasT.ret l else KasT.ask (p.getD k 0) (p.getD ((l+r) / 2) 0) λc=>if c=true then kas_place p k f l ((l+r) / 2) else kas_place p k f ((l+r) / 2+1) r)
  split
  ·trivial
  ·refine⟨h.two hk (by omega) (by omega),λc=>?_⟩
   cases c with
   |true=>exact rY h hk f _ _ (by omega)
   |false=>exact rY h hk f _ _ hr
theorem zAP{n:Nat}:∀(f:Nat) (p:Array Nat) (k:Nat),Pl n p->k+f<=n->All n (λp=>Pl n p) (kas_bin f p k)
 |0,_,_,h,_=>h
 |f+1,p,k,h,hk=>All.bind ((rY h (by omega) k 0 k (Nat.le_refl _)).mono λl _=>zAP f _ (k+1) (h.bub _ _) (by omega))
theorem zDX{n:Nat}(hn:1<=n):All n (λp=>Pl n p) (kas_sort n):=by
 refine All.bind ((zDF (Array.Perm.refl _) hn).mono λr hr=>?_)
 obtain⟨h1,h2⟩:=hr
 split
 ·exact zAP _ _ _ h1 (by omega)
 ·exact h1
theorem zAS{α:Type}{n:Nat}{Q:α->Prop}{cmp:Nat->Nat->(Bool->Shared->Prop)->Shared->Prop}{J:Shared->Prop}(hc:∀i j,i<n->j<n->i≠j->∀(C:Bool->Shared->Prop) s,J s->(∀b s',J s'->C b s')->cmp i j C s){G:α->Shared->Prop}(hG:∀a s,Q a->J s->G a s):∀{t:KasT α}{s:Shared},All n Q t->J s->t.kasWp cmp G s
 |.ret a,s,h,hs=>hG a s h hs
 |.ask i j k,s,h,hs=>hc i j h.1.1 h.1.2.1 h.1.2.2 _ s hs λb s' hs'=>zAS hc hG (h.2 b) hs'
end SrtM
namespace L2
open PySem PySem.W PySem.Spec PyProof.Rows SrtM
section
variable{prog:Program}{w:World}{A:Around}{E:Value->Shared->Prop}{s:Shared}{h₀:Heap}{L l:Addr}{m:Str->Option Value}{vs:List Value}
def rA(h:Heap)(v:Value)(x:Str):Prop:=∃a o xs n t,v=.ref a/\h.get? a=some o/\o.cls=.type "tuple"/\o.data=.seq xs n/\xs[0]?=some (.str x t)
theorem zAe{h:Heap}:∀{vs:List Value}{ns:List Str},Paired (rA h) vs ns->∃fs,KatTups h vs fs/\fs.length=vs.length/\∀f∈fs,∃x t,f=.str x t
 |[],[],_=>⟨[],trivial,rfl,λf hf=>by cases hf⟩
 |v::vs,x::ns,.cons ⟨a,o,xs,n,t,e1,e2,e3,e4,e5⟩ r=>by
  obtain⟨fs,k,hl,hf⟩:=zAe r
  exact⟨.str x t::fs,⟨⟨a,o,xs,n,e1,e2,e3,e4,e5⟩,k⟩,by rw[List.length_cons,List.length_cons,hl],λf hm=>by
   rcases List.mem_cons.mp hm with rfl|hm
   ·exact⟨x,t,rfl⟩
   ·exact hf f hm⟩
theorem xG{α β:Type}{R R':α->β->Prop}(hr:∀a b,R a b->R' a b):∀{l:List α}{k:List β},Paired R l k->Paired R' l k
 |_,_,.nil=>.nil
 |_,_,.cons r t=>.cons (hr _ _ r) (xG hr t)
theorem zAJ{xs:Array Value}{v:Value}(h:xs[0]?=some v):∃r,xs.toList=v::r:=by
 obtain⟨l⟩:=xs
 cases l with
 |nil=>simp at h
 |cons a l=>exact⟨l,by simp at h;rw[h]⟩
theorem zCL(vs:List Value):(List.range vs.length).map (λi=>vs.getD i Value.none)=vs:=by
 refine List.ext_getElem (by simp) λi h1 h2=>?_
 simp[h2]
theorem rQ{α β:Type}{R:α->β->Prop}:∀{l:List α}{k:List β}(da:α) (db:β),Paired R l k->∀i,i<l.length->R (l.getD i da) (k.getD i db)
 |_::_,_::_,_,_,.cons r _,0,_=>r
 |_::_,_::_,da,db,.cons _ t,i+1,h=>rQ da db t i (by rw[List.length_cons]at h;omega)
theorem zCP{ns:List Str}(nd:ns.Nodup){i j:Nat}(hi:i<ns.length)(hj:j<ns.length)(ne:i≠j):ns.getD i ""≠ns.getD j "":=by
 have e1:ns.getD i ""=ns[i]:=by simp[hi]
 have e2:ns.getD j ""=ns[j]:=by simp[hj]
 rw[e1,e2]
 exact λe=>ne ((List.getElem_inj nd).mp e)
theorem zCq{ns:List Str}{Q:Value->Shared->Prop}(F:Fr h₀ L s.heap m)(hl:s.heap.IsList l vs.toArray)(h2:2<=vs.length)(h64:vs.length<64)(nd:ns.Nodup)(ht:Paired (rA s.heap) vs ns)
  (k0:∀b o,h₀.get? b=some o->s.heap.get? b=some o)
  (h:∀D c h' vs',Fr h₀ L h' m->(∀b o,b≠L->s.heap.get? b=some o->h'.get? b=some o)->s.heap.get? D=none->h'.get? D=some (listOf (List.toArray vs') c)->vs'.Perm vs->Q (.ref D) {s with heap:=h'}):
  wpAny (model prog w) A (call (.builtin "sorted") [.ref l]) Q E s:=by
 refine kat_sorted F zEe hl h2 h64 λD e1 h1 F1 N1 lt=>?_
 have keepOf:∀{h':Heap},Fr h₀ L h' m->News h₀ L h' (pG h₀ s.heap L)->∀b o,b≠L->s.heap.get? b=some o->h'.get? b=some o:=λ{h'} F' N' b o hb e=>by
  cases q:h₀.get? b with
  |some u=>
   have:=k0 b u q
   rw[e]at this;cases this
   exact F'.keep b _ q
  |none=>exact(N' (b,o) (xA hb q e)).1
 have keep1:=keepOf F1 λp hp=>N1 p (.tail _ hp)
 have nL:∀a o xs n,s.heap.get? a=some o->o.data=.seq xs n->a≠L:=λa o xs n e d z=>by
  subst z
  obtain⟨o',es,ep,e',d',_⟩:=F.ns
  rw[e]at e';cases e'
  rw[d]at d';cases d'
 have ht1:Paired (rA h1) vs ns:=xG (λv x ⟨a,o,xs,n,t,e1,e2,e3,e4,e5⟩=>⟨a,o,xs,n,t,e1,keep1 a o (nL a o xs n e2 e4) e2,e3,e4,e5⟩) ht
 have hln:=ht.length
 obtain⟨fs,k,hfl,hfs⟩:=zAe ht1
 refine kat_kind (s:={s with heap:=h1}) (T:=.type "str") k (by omega) (λv hv=>?_) rfl ?_
 ·obtain⟨x,t,rfl⟩:=hfs v hv
  exact .now
 refine zAS (n:=vs.length) (Q:=λp=>Pl vs.length p) (J:=λs'=>s'={s with heap:=h1}) (λi j hi hj ne C s' hs hC=>?_) (λp s' hp hs=>?_) (zDX (by omega)) rfl
 ·subst hs
  obtain⟨a,o,xs,n,t,ea,eo,ec,ed,ef⟩:=rQ Value.none ("":Str) ht1 i hi
  obtain⟨a',o',xs',n',t',ea',eo',ec',ed',ef'⟩:=rQ Value.none ("":Str) ht1 j hj
  unfold kas_ask
  rw[ea,ea']
  refine kat_lt (s:={s with heap:=h1}) eo ed eo' ed' ?_
  obtain⟨r,er⟩:=zAJ ef
  obtain⟨r',er'⟩:=zAJ ef'
  rw[er,er']
  refine kat_cons (wpAny_eqBool_str ?_)
  rw[decide_eq_false (zCP nd (by omega) (by omega) ne)]
  refine kat_no ?_
  show wpAny _ _ (oneLt' true _ _) _ _ _
  exact oneLt_str (hC _ _ rfl)
 ·subst hs
  have hD:=N1 _ (.head _)
  refine KasFin.intro F1 N1 (.head λp hp=>Nat.ne_of_lt (lt p hp)) λh' c F' N'=>h D c h' _ F' (keepOf F' λp hp=>N' p (.tail _ hp)) ?_ (N' _ (.head _)).1 ?_
  ·cases q:s.heap.get? D with
   |none=>rfl
   |some o=>exact absurd (lt _ (xA hD.2.1 hD.2.2 q)) (Nat.lt_irrefl _)
  ·have e:=(Array.perm_iff_toList_perm.mp hp).map λi=>vs.getD i Value.none
   rw[show(List.toArray (List.range vs.length)).toList=List.range vs.length from rfl,zCL]at e
   exact e
end
end L2
namespace L2
open PySem PySem.W PySem.Spec PyProof.Rows SrtM
theorem zC6{xs:List V}{us us':List Value}(p:us'.Perm us):Vals xs us->∃xs',Vals xs' us'/\xs'.Perm xs:=by
 induction p generalizing xs with
 |nil=>exact λr=>⟨xs,r,.refl _⟩
 |cons u _ ih=>
  intro r
  cases r with
  |cons a t=>
   obtain⟨ys,r',p'⟩:=ih t
   exact⟨_::ys,.cons a r',p'.cons _⟩
 |swap u v l=>
  intro r
  cases r with
  |cons a t=>
   cases t with
   |cons b t=>exact⟨_,.cons b (.cons a t),.swap _ _ _⟩
 |trans _ _ i1 i2=>
  intro r
  obtain⟨ys,r1,p1⟩:=i2 r
  obtain⟨zs,r2,p2⟩:=i1 r1
  exact⟨zs,r2,p2.trans p1⟩
theorem zGt{P:Program}{w:World}{H:Hp}{h:Heap}{a:Addr}{o:HO}(x:ObjOk P w H h a o):∃ob,h.get? a=some ob:=by
 cases o with
 |lst xs=>obtain⟨_,_,_,_,e⟩:=x;exact⟨_,e⟩
 |tup xs=>obtain⟨_,_,_,⟨_,e,_⟩⟩:=x;exact⟨_,e⟩
 |dK kvs=>obtain⟨_,_,_,_,o,_,_,e,_⟩:=x;exact⟨_,e⟩
 |dT kvs=>obtain⟨_,_,_,_,o,_,_,e,_⟩:=x;exact⟨_,e⟩
 |set S n=>obtain⟨o,_,_,_,e,_⟩:=x;exact⟨_,e⟩
 |ins C dx fs=>obtain⟨_,_,_,e,_⟩:=x;exact⟨_,e⟩
 |own y=>obtain⟨_,e⟩:=x;exact⟨_,e⟩
 |xd fs=>obtain⟨_,⟨_,_,_,e,_⟩,_⟩:=x;exact⟨_,e⟩
 |rng lo hi=>obtain⟨_,_,_,e⟩:=x;exact⟨_,e⟩
 |frz ob u=>obtain⟨e,_⟩:=x;exact⟨_,e⟩
 |tbl ps=>exact⟨_,show h.get? a=some _ from x⟩
 |met f y=>exact⟨_,show h.get? a=some _ from x⟩
 |ext φ=>obtain⟨_,⟨_,e⟩,_⟩:=x;exact⟨_,e⟩
section
variable{X:Cx}{pins:List (Addr×Obj)}{σ:List (Option V)}{H:Hp}{s:Shared}{h':Heap}
theorem Inv.laidF{a:Addr}{o:HO}{m:Str->Option Value}(I:Inv X pins σ H s)(hm:s.heap.Ns X.env.locals m)(hm':h'.Ns X.env.locals m)(k:∀b u,b≠X.env.locals->s.heap.get? b=some u->h'.get? b=some u)(na:s.heap.get? a=none)(hn:H a=none)(new:ObjOk X.prog X.w (upd H a o) h' a o):
  Inv X pins σ (upd H a o) {s with heap:=h'}:=by
 have ne:∀b u,s.heap.get? b=some u->b≠a:=λb u e z=>by rw[z,na]at e;cases e
 have fr:∀b v,H b=some v->b≠X.env.locals:=λb v e z=>by rw[z,I.free]at e;cases e
 refine I.step (g':=s.gens) (t':=s.toks) (d':=s.drawn) (ch:=[]) (λ_ z=>nomatch z) (λb u hL _ _ e _=>k b u hL e) (λb u hL _ _ e _=>⟨u.slots,k b u hL e⟩) (λb u _ e n=>by rw[bL (ne b u e)];exact n) (λb u _ e=>?_)
  (λb xs q=>by rw[bL (cU q hn)];exact q) (λb u xs q=>by rw[bL (cU q hn)];exact q) (λb ps q=>⟨#[],by rw[bL (cU q hn),q];simp⟩) (λm' q=>?_) (λb u e=>?_) I.bare
 ·by_cases z:b=X.env.locals
  ·obtain⟨o',es,ep,e',_⟩:=hm'
   exact⟨o',by rw[z];exact e'⟩
  ·exact⟨u,k b u z e⟩
 ·have:m'=m:=by
   obtain⟨o1,es,ep,e1,d1,_,f1⟩:=q
   obtain⟨o2,es2,ep2,e2,d2,_,f2⟩:=hm
   rw[e1]at e2;cases e2
   rw[d1]at d2;cases d2
   exact funext λx=>(f1 x).symm.trans (f2 x)
  rw[this];exact hm'
 ·by_cases hb:b=a
  ·subst hb;rw[bM]at e;cases e;exact new
  ·rw[bL hb]at e
   refine(I.hok b u e).stay (λc v hc q=>k c v ?_ q) (λc q=>by rw[bL (cU q hn)];exact q) λc xs q=>by rw[bL (cU q hn)];exact q
   rcases hc with z|z
   ·rw[z];exact fr b u e
   ·exact fr c _ z
def uX(K:W.Frag)(H:Hp):List V->List Str->Prop:=Paired λx n=>∃p r,x=.ref p/\SqT K H p (.str n::r)
theorem zCh:CallR X (.builtin "sorted") (λxs H Q=>∃(p:Addr) (ys:List V) (ns:List Str),xs=[.ref p]/\SqL X.K H p ys/\2<=ys.length/\ys.length<64/\ns.Nodup/\uX X.K H ys ns /\
  ∀(ys':List V) (l:Addr),ys'.Perm ys->H l=none->Q (.ref l) (upd H l (.lst ys'))):=by
 intro pins s σ H xs us Q I r h
 obtain⟨p,ys,ns,rfl,hq,h2,h64,nd,ht,q⟩:=h
 obtain⟨u,rfl,rx⟩:=cF r
 cases rx
 obtain⟨its,rv,pl,hz⟩:=I.list hq
 have hll:=rv.length
 obtain⟨m,F⟩:=I.fr
 have tp:Paired (rA s.heap) its ns:=by
  clear hq q h2 h64 hz hll pl nd r
  induction ht generalizing its with
  |nil=>cases rv;exact .nil
  |cons a t ih=>
   cases rv with
   |cons b rv=>
    refine .cons ?_ (ih _ rv)
    obtain⟨p,r,rfl,sq⟩:=a
    obtain⟨xs,rx,⟨o,e,c,n,d⟩,_⟩:=I.tuple sq
    cases b
    cases rx with
    |cons b' rx=>
     obtain⟨t,rfl⟩:=b'
     exact⟨p,o,_,n,t,rfl,e,c,d,by simp⟩
 refine zCq F pl.isList (by omega) (by omega) nd tp I.bk λD c h' vs' F' kp nD hD pm=>?_
 obtain⟨ys',r',p'⟩:=zC6 pm rv
 have hn:H D=none:=by
  cases e:H D with
  |none=>rfl
  |some v=>
   obtain⟨ob,eo⟩:=zGt (I.hok D v e)
   rw[nD]at eo;cases eo
 refine⟨.ref D,upd H D (.lst ys'),I.laidF F.ns F'.ns kp nD hn (show ObjOk X.prog X.w _ _ _ (.lst ys') from ⟨?_,vs',c,r',hD⟩),rfl,q ys' D p' hn⟩
 rw[p'.length_eq]
 exact hz
end
end L2
namespace L2
open PySem PySem.W PySem.Spec PyProof.Rows SrtM
section
variable{prog:Program}{w:World}{A:Around}{E:Value->Shared->Prop}{s:Shared}{l a:Addr}{vs:List Value}
theorem zCH{n:Nat}{P:PySem.Fin->Shared->Prop}(ho:s.heap.get? a=some (seqObj "list" vs.toArray n))(h2:vs.length<2)(h:P (.done (.ret .none)) {s with heap:=sortedHeap s.heap a vs vs.toArray}):
  wpAny (model prog w) A (Builtin.«list.sort» ⟨[.ref a],[]⟩) P E s:=by
 have z:vs.toArray.size<2:=by simpa using h2
 have lt:a<s.heap.objs.size:=Heap.lt_size ho
 obtain⟨e1,ho1⟩:∃e1,(s.heap.update a (Obj.mapSeq λ_=>#[])).get? a=some (seqObj "list" #[] e1):=⟨_,get?_update_seq ho (λ_=>#[])⟩
 have ho2:(((s.heap.update a (Obj.mapSeq λ_=>#[])).push (seqObj "tuple" vs.toArray 0)).push (seqObj "list" #[] 0)).get? a=some (seqObj "list" #[] e1):=Heap.get?_push_of_some _ (Heap.get?_push_of_some _ ho1)
 rw[list_sort_plain]
 refine wpAny_bind (listItems_at ho rfl (wpAny_bind (listUpdate_at ho rfl (wpAny_bind (seqEpoch_at ho1 rfl (wpAny_bind (wpAny_newTuple (wpAny_bind (wpAny_newList (wpAny_holding ?_))))))))))
 ·dsimp only
  rw[if_pos z,if_pos z]
  refine wpAny_bind (wpAny_pure ?_)
  rw[StateT.run_pure]
  refine wpAny_bind (wpAny_pure ?_)
  dsimp only
  have em:(arrOf (SortSt.mk' general' (vs.toArray.zip vs.toArray) #[] 7 none)).map (·.2)=vs.toArray:=by
   show(vs.toArray.zip vs.toArray).map (·.2)=_
   match vs,h2 with
   |[],_=>simp
   |[x],_=>simp
  rw[em]
  refine wpAny_bind (seqEpoch_at ho2 rfl (wpAny_bind (listUpdate_at ho2 rfl ?_)))
  simp only[bne_self_eq_false,Bool.false_eq_true,if_false]
  exact wpAny_pure h
theorem zDQ{Q:Value->Shared->Prop}(hl:s.heap.IsList l vs.toArray)(h2:vs.length<2)(h:Q (.ref (s.heap.objs.size+1)) {s with heap:=sortedAll s.heap vs vs.toArray}):wpAny (model prog w) A (call (.builtin "sorted") [.ref l]) Q E s:=by
 have e:((s.heap.push (seqObj "list" #[] 0)).update s.heap.objs.size (Obj.mapSeq (·++vs.toArray))).objs.size=s.heap.objs.size+1:=by rw[Heap.size_update,size_push']
 refine Calls.call_function_entry kind_sorted plain_sorted entry_sorted (args_sorted1 _) ?_
 unfold Builtin.«sorted»
 refine wpAny_bind (m:=checkCount "sorted" 1 1 _) (wpAny_pure (wpAny_bind (collect_list hl (wpAny_bind (wpAny_newList ?_)))))
 have ho:=Heap.get?_push_size ((s.heap.push (seqObj "list" #[] 0)).update s.heap.objs.size (Obj.mapSeq (·++vs.toArray))) (o:=seqObj "list" vs.toArray 0) rfl
 rw[e]at ho
 show wpAny _ _ _ _ _ {s with heap:=((s.heap.push (seqObj "list" #[] 0)).update s.heap.objs.size (Obj.mapSeq (·++vs.toArray))).push (seqObj "list" vs.toArray 0)}
 rw[e]
 exact wpAny_bind (wpAny_holding (wpAny_call_entry slot_list_sort ⟨_,ho,rfl⟩ entry_list_sort (zCH (s:={s with heap:=((s.heap.push (seqObj "list" #[] 0)).update s.heap.objs.size (Obj.mapSeq (·++vs.toArray))).push (seqObj "list" vs.toArray 0)}) ho h2 ⟨_,rfl,wpAny_pure ⟨_,rfl,h⟩⟩) (args_list_sort _)))
end
section
variable{X:Cx}
theorem call_sorted1:CallR X (.builtin "sorted") (λxs H Q=>∃(p:Addr) (ys:List V),xs=[.ref p]/\SqL X.K H p ys/\ys.length<2/\∀l:Addr,H l=none->Q (.ref l) (upd H l (.lst ys))):=by
 intro pins s σ H xs us Q I r h
 obtain⟨p,ys,rfl,hq,h2,q⟩:=h
 obtain⟨u,rfl,rx⟩:=cF r
 cases rx
 obtain⟨its,rv,pl,hz⟩:=I.list hq
 have hll:=rv.length
 refine zDQ pl.isList (by omega) ?_
 obtain⟨e,he⟩:=sortedAll_at s.heap its its.toArray
 exact⟨.ref (s.heap.objs.size+1),_,I.laid (t':=s.toks) (λb o e=>sortedAll_old e) (Nat.le_succ _) (show ObjOk X.prog X.w _ _ _ (.lst ys) from ⟨hz,its,e,rv,he⟩),rfl,q _ (I.hok.fresh (Nat.le_succ _))⟩
end
end L2
namespace L2
open PySem PySem.Spec PyProof.Rows WordM
section
variable{X:Cx}{F:Fm}{pos:Pos}
def zGk:List Tv->(List Tv->Prop)->Prop:=λUs Q=>∃(Ts:List Tv) (ns:List Str),Us=[.seq false Ts]/\Ts.length<64/\ns.Nodup/\Paired (λT n=>∃r,T=.seq true (sT n::r)) Ts ns/\∀Ts',Ts'.Perm Ts->Q Ts'
theorem wX{α β:Type}{R:α->β->Prop}{xs xs':List α}(p:xs'.Perm xs):∀{us:List β},Paired R xs us->∃us',Paired R xs' us'/\us'.Perm us:=by
 induction p with
 |nil=>exact λr=>⟨_,r,.refl _⟩
 |cons u _ ih=>
  intro us r
  cases r with
  |cons a t=>
   obtain⟨ys,r',p'⟩:=ih t
   exact⟨_::ys,.cons a r',p'.cons _⟩
 |swap u v l=>
  intro us r
  cases r with
  |cons a t=>
   cases t with
   |cons b t=>exact⟨_,.cons b (.cons a t),.swap _ _ _⟩
 |trans _ _ i1 i2=>
  intro us r
  obtain⟨ys,r1,p1⟩:=i2 r
  obtain⟨zs,r2,p2⟩:=i1 r1
  exact⟨zs,r2,p2.trans p1⟩
theorem zAf{K:W.Frag}{H:Hp}:∀{ys:List V}{Ts:List Tv}{ns:List Str},Paired (VA K H) ys Ts->Paired (λT n=>∃r,T=.seq true (sT n::r)) Ts ns->uX K H ys ns
 |_,_,_,.nil,.nil=>.nil
 |_,_,_,.cons v p,.cons ⟨r,e⟩ t=>by
  subst e
  refine .cons ?_ (zAf p t)
  obtain⟨a,xs,rfl,hs,_,q⟩:=v.seqI
  cases q with
  |cons u q=>
   obtain⟨rfl,_⟩:=u.leafI
   exact⟨a,_,rfl,hs⟩
theorem zD3:mE X (.builtin "sorted") zGk:=⟨_,call_sorted1.or zCh,λxs Us H Q QQ vx h k=>by
 obtain⟨Ts,ns,rfl,l64,nd,pt,q⟩:=h
 obtain⟨x,rfl,v⟩:=cT vx
 obtain⟨a,ys,rfl,hs,z,p⟩:=v.seqI
 have ly:=p.length
 by_cases h2:Ts.length<2
 ·refine .inl ⟨a,ys,rfl,cI hs,by omega,λb n=>k b _ _ _ (dB n) n bM (by omega) (Paired.mapP p λ_ _ q=>VA.hs (dB n).hs q) (q Ts (.refl _))⟩
 ·have tv:uX X.K H ys ns:=zAf p pt
  refine .inr ⟨a,ys,ns,rfl,cI hs,by omega,by omega,nd,tv,λys' b pm n=>?_⟩
  obtain⟨Ts',p',pm'⟩:=wX pm p
  exact k b _ _ _ (dB n) n bM (by rw[pm'.length_eq];omega) (Paired.mapP p' λ_ _ q=>VA.hs (dB n).hs q) (q Ts' pm')⟩
end
end L2
namespace ShowM
variable{M:Type}[DecidableEq M]
def MkL(mk:Nat->M)(hd:List Nat)(lo hi:Int)(ms:List M)(x:List Nat):Prop:=∃r,x=hd++r/\lo<=(r.length:Int)/\(r.length:Int)<=hi/\∀c∈r,mk c∈ms
structure Tells (mk:Nat->M) (hd:List Nat) (lo hi:Int) (ms:List M) (S:List (List Nat)):Prop where
 some:∃(n:Nat) (G:List Nat),1<=n/\7<=G.length/\G.Nodup/\(∀m∈ms,∃c∈G,mk c=m)/\∀g∈G,hd++List.replicate n g∈S
 low:∃r:List Nat,(r.length:Int)<=lo/\hd++r∈S
 high:∃r:List Nat,hi<=(r.length:Int)/\hd++r∈S
theorem nodup_le{α:Type}[DecidableEq α]:∀{l m:List α},l.Nodup->(∀x∈l,x∈m)->l.length<=m.length
 |[],m,_,_=>Nat.zero_le _
 |x::l,m,hn,hs=>by
  have hx:=hs x List.mem_cons_self
  have h2:=List.nodup_cons.mp hn
  have ih:=nodup_le (l:=l) (m:=m.erase x) h2.2 λy hy=>(List.mem_erase_of_ne (show y≠x from λe=>h2.1 (by rw[<-e];exact hy))).mpr (hs y (List.mem_cons_of_mem _ hy))
  rw[List.length_erase_of_mem hx]at ih
  have:0<m.length:=List.length_pos_of_mem hx
  rw[List.length_cons]
  omega
theorem Tells.few{mk:Nat->M}{hd:List Nat}{lo hi:Int}{ms:List M}{S:List (List Nat)}(T:Tells mk hd lo hi ms S){ss:List (List Nat)}(h6:ss.length<=6)(h:∀x∈S,x∈ss):False:=by
 obtain⟨n,G,n1,g7,nd,_,hG⟩:=T.some
 have hn:(G.map λg=>hd++List.replicate n g).Nodup:=by
  unfold List.Nodup
  rw[List.pairwise_map]
  refine nd.imp λ{a b} ne e=>ne ?_
  have e:=List.append_cancel_left e
  obtain⟨k,rfl⟩:∃k,n=k+1:=⟨n-1,by omega⟩
  rw[List.replicate_succ,List.replicate_succ]at e
  exact(List.cons.inj e).1
 have:=nodup_le hn λx hx=>by
  obtain⟨g,hg,rfl⟩:=List.mem_map.mp hx
  exact h _ (hG g hg)
 rw[List.length_map]at this
 omega
theorem Tells.make{mk:Nat->M}{hd hd2:List Nat}{lo hi lo2 hi2:Int}{ms ms2:List M}{S:List (List Nat)}(T:Tells mk hd lo hi ms S)(h:∀x∈S,MkL mk hd2 lo2 hi2 ms2 x):∀x,MkL mk hd lo hi ms x->MkL mk hd2 lo2 hi2 ms2 x:=by
 obtain⟨n,G,n1,g7,nd,cov,hG⟩:=T.some
 obtain⟨d,hd'⟩:∃d,hd=hd2++d:=by
  match G,g7,nd,hG with
  |g1::g2::G',_,nd,hG=>
   obtain⟨r1,e1,_⟩:=h _ (hG g1 (by simp))
   obtain⟨r2,e2,_⟩:=h _ (hG g2 (by simp))
   have ne:g1≠g2:=by
    have:=(List.nodup_cons.mp nd).1
    simp at this
    exact this.1
   obtain⟨k,rfl⟩:∃k,n=k+1:=⟨n-1,by omega⟩
   rw[List.append_eq_append_iff]at e1 e2
   rcases e1 with⟨a,ha,hb⟩|⟨a,ha,hb⟩
   ·rcases e2 with⟨a',ha',hb'⟩|⟨a',ha',hb'⟩
    ·have:a=a':=List.append_cancel_left (ha.symm.trans ha')
     subst this
     cases a with
     |nil=>exact⟨[],by simpa using ha.symm⟩
     |cons y a=>
      rw[List.replicate_succ,List.cons_append]at hb hb'
      exact absurd ((List.cons.inj hb).1.trans (List.cons.inj hb').1.symm) ne
    ·exact⟨a',ha'⟩
   ·exact⟨a,ha⟩
 subst hd'
 have strip:∀{r:List Nat},(hd2++d)++r∈S->lo2<=((d++r).length:Int)/\((d++r).length:Int)<=hi2/\∀c∈d++r,mk c∈ms2:=λ{r} hr=>by
  obtain⟨r',e,h1,h2,h3⟩:=h _ hr
  rw[List.append_assoc]at e
  have:=List.append_cancel_left e
  rw[this]
  exact⟨h1,h2,h3⟩
 obtain⟨rl,l1,l2⟩:=T.low
 obtain⟨rh,h1,h2⟩:=T.high
 have sl:=strip l2
 have sh:=strip h2
 rintro x ⟨r,rfl,r1,r2,r3⟩
 refine⟨d++r,by rw[List.append_assoc],?_,?_,λc hc=>?_⟩
 ·have:=sl.1
  rw[List.length_append]at this ⊢
  omega
 ·have:=sh.2.1
  rw[List.length_append]at this ⊢
  omega
 ·rcases List.mem_append.mp hc with z|z
  ·exact sl.2.2 c (List.mem_append_left _ z)
  ·obtain⟨g,hg,e⟩:=cov _ (r3 c z)
   rw[<-e]
   obtain⟨k,rfl⟩:∃k,n=k+1:=⟨n-1,by omega⟩
   exact(strip (hG g hg)).2.2 g (List.mem_append_right _ (by rw[List.replicate_succ];exact List.mem_cons_self))
end ShowM
namespace My
open PySem L2 PyProof.Rows WordM
def top(i:Nat):Stmt:=PySem.Challenge.pw_leastform_k59_records_within.main.body.getD i (.Pass ⟨0,0,0,0⟩)
abbrev s0_:Stmt:=top 4
abbrev s1_:Stmt:=top 5
abbrev s2_:Stmt:=top 6
abbrev s3_:Stmt:=top 7
abbrev s4_:Stmt:=top 12
abbrev s5_:Stmt:=top 13
abbrev s6_:Stmt:=top 14
abbrev s7_:Stmt:=top 15
abbrev s8_:Stmt:=top 16
abbrev s9_:Stmt:=top 17
abbrev nI:Stmt:=top 18
abbrev vY:Stmt:=top 19
abbrev vX:Stmt:=top 20
abbrev vW:Stmt:=top 21
abbrev qT:Stmt:=top 22
abbrev vV:Stmt:=top 26
abbrev vT:Stmt:=top 27
abbrev nH:Stmt:=top 29
abbrev qS:Stmt:=top 31
abbrev lE:Stmt:=top 32
abbrev nG:Stmt:=top 33
abbrev vS:Stmt:=top 34
abbrev nF:Stmt:=top 35
abbrev qR:Stmt:=top 36
abbrev jX:Stmt:=top 37
abbrev nE:Stmt:=top 38
abbrev iW:Stmt:=top 39
abbrev vR:Stmt:=top 41
abbrev vQ:Stmt:=top 42
abbrev vP:Stmt:=top 43
abbrev vO:Stmt:=top 44
abbrev vN:Stmt:=top 45
abbrev vM:Stmt:=top 46
abbrev vL:Stmt:=top 47
abbrev qQ:Stmt:=top 48
abbrev qP:Stmt:=top 50
abbrev qO:Stmt:=top 51
abbrev jW:Stmt:=top 52
abbrev qN:Stmt:=top 53
abbrev qM:Stmt:=top 54
abbrev lD:Stmt:=top 55
abbrev vK:Stmt:=top 56
abbrev qL:Stmt:=top 57
abbrev vJ:Stmt:=top 58
abbrev qK:Stmt:=top 59
abbrev vI:Stmt:=top 60
abbrev nC:Stmt:=top 61
abbrev vH:Stmt:=top 62
abbrev vG:Stmt:=top 63
abbrev hV:Stmt:=top 64
abbrev jV:Stmt:=top 65
abbrev jU:Stmt:=top 66
abbrev iV:Stmt:=top 67
abbrev vF:Stmt:=top 68
abbrev vE:Stmt:=top 69
abbrev vD:Stmt:=top 70
abbrev vC:Stmt:=top 71
abbrev qJ:Stmt:=top 72
abbrev nB:Stmt:=top 73
abbrev vB:Stmt:=top 74
abbrev hJ:Stmt:=top 75
section
variable{P:Program}{w:World}{K:W.Frag}{mg:Str->Option Value}{base:Heap}
theorem _root_.L2.On.put{p c:Addr}{H:Hp}(d:DeckAt H p c)(S k:Int):On p c H (upd H p (.lst [.ref c,.int S,.int k])):=by
 obtain⟨ns,e',l⟩:=d.cs
 exact⟨⟨d.ne,⟨S,k,bM⟩,ns,by rw[bL d.ne.symm];exact e',l⟩,λb o h hp _=>by rw[bL hp];exact h⟩
theorem _root_.L2.On.cut{p c:Addr}{H:Hp}(d:DeckAt H p c)(ns:List Int)(h:ns.length<=64):On p c H (upd H c (.lst (ns.map V.int))):=by
 obtain⟨S,k,e⟩:=d.dk
 exact⟨⟨d.ne,⟨S,k,by rw[bL d.ne];exact e⟩,ns,bM,h⟩,λb o h _ hc=>by rw[bL hc];exact h⟩
theorem zDD(ns:List Int):(ns.map V.int).all dE=true:=by
 rw[List.all_map]
 exact List.all_eq_true.mpr λ_ _=>rfl
theorem zEv(ns:List Int):fM (ns.map V.int) []=ns.isEmpty:=by cases ns<;>rfl
theorem sc_mixed:bG ["_law_number_here","_law_k"] ["_law_number_here","_law_k"] (aL vR):=fsc (by decide +kernel)
theorem zFq(h:Has K mg "_law_mixed" vR):Good P w K mg base 1 "_law_mixed" ["_law_number_here","_law_k"] zAl:=by
 refine h.good sc_mixed (fun|_,_,_,_,_,_,[_,_],_=>rfl) (λvs H Q E q=>?_) (λf cdv A outer s H vs Q E hr q=>?_)
 ·obtain⟨n,k,rfl,_⟩:=q
  rfl
 ·obtain⟨n,k,rfl,q⟩:=q
  have nd:=sc_mixed.nd
  refine⟨_,(gD (jP (i:=0) nd rfl (by first|exact Or.inl rfl|exact Or.inr rfl) (cJ gX (cJ op_mul (cJ op_add (cJ op_add (cJ gX (pv 0) cC) (cJ op_mul cC (pv 1))) cC) cC) cC))
   (gD (jP (i:=0) nd rfl (by first|exact Or.inl rfl|exact Or.inr rfl) (cJ gX (cJ op_add (cJ op_add (cJ op_mul (pv 0) (pv 0)) (cJ op_mul cC (pv 1))) cC) cC))
   (kO (kR (cJ zAA (cJ gX (cJ op_mul (cJ op_add (cJ op_mul (cJ gX (pv 0) cC) cC) (cJ zAA (pv 0) cC)) cC) cC) cC))))),?_⟩
  refine⟨_,rfl,_,_,rfl,rfl,(by show(0:Int)<_;decide),_,rfl,_,_,rfl,rfl,.inl ⟨by decide,by decide⟩,_,_,rfl,rfl,_,_,rfl,rfl,_,_,rfl,rfl,.inr ⟨by decide,by decide⟩,_,_,rfl,rfl,(by show(0:Int)<_;decide),?_⟩
  refine⟨_,rfl,_,rfl,_,_,rfl,rfl,?c,_,rfl,_,_,rfl,rfl,.inl ⟨by decide,by decide⟩,_,_,rfl,rfl,_,_,rfl,rfl,_,_,rfl,rfl,(by show(0:Int)<_;decide),?_⟩
  case c=>
   refine .inl ⟨?_,?_⟩
   ·exact Int.lt_of_lt_of_le (by decide) (Int.emod_nonneg _ (by decide))
   ·exact Int.lt_trans (Int.emod_lt_of_pos _ (by decide)) (by decide)
  refine⟨_,rfl,_,_,rfl,rfl,(by show(0:Int)<_;decide),_,_,rfl,rfl,.inr ⟨by decide,by decide⟩,_,rfl,_,_,rfl,rfl,⟨by decide,by decide⟩,_,_,rfl,rfl,_,_,rfl,rfl,.inr ⟨by decide,by decide⟩,_,_,rfl,rfl,(by show(0:Int)<_;decide),_,_,rfl,rfl,⟨by decide,by decide⟩,?_⟩
  exact q _
theorem sc_deck:bG ["_law_script","_law_cells"] ["_law_script"] (aL vQ):=fsc (by decide +kernel)
theorem zHy(ns:List Int):fN (ns.map V.int) none (some 63)=(ns.take 63).map V.int:=by
 unfold fN
 have e1:HT.sIx (ns.map V.int).length 0 none=0:=rfl
 rw[e1,List.drop_zero,Nat.sub_zero,List.map_take]
 by_cases h:ns.length<=63
 ·rw[List.take_of_length_le (by simp[HT.sIx]<;>omega),List.take_of_length_le (by simpa using h)]
 ·congr 1
  simp[HT.sIx]<;>omega
theorem zGG(h:Has K mg "_law_deck" vQ)(B:Own mg):Good P w K mg base 1 "_law_deck" ["_law_script"] (zAZ K):=by
 refine h.good sc_deck (fun|_,_,_,_,_,_,[_],_=>rfl) (λvs H Q E q=>?_) (λf cdv A outer s H vs Q E hr q=>?_)
 ·obtain⟨a,ns,rfl,_⟩:=q
  rfl
 ·obtain⟨a,ns,rfl,hS,q⟩:=q
  have nd:=sc_deck.nd
  refine⟨_,(gD (jP (i:=1) nd rfl (by first|exact Or.inl rfl|exact Or.inr rfl) (jG wQ rfl B.list_ boot_list (dN (zK sl_list (pv 0) zAu (zAt cC)) eK)))
   (kO (kR (@zAy _ _ _ _ (@vZ _ _ _ _ _ (zGd (pv 1) (zBr zAT cC)) (@vZ _ _ _ _ _ (cJ op_add (kG (zDG rfl) rfl B.sum boot_sum (dN (pv 1) eK)) (cJ op_mul cC (kG call_len_seq rfl B.len PySem.boot_len (dN (pv 1) eK)))) (@vZ _ _ _ _ _ cC zA5 rfl) rfl) rfl))))),?_⟩
  refine⟨_,rfl,_,rfl,a,_,rfl,hS,λl1 h1=>?_⟩
  have e1:upd H l1 (.lst (fN (ns.map V.int) none (some 63)))=upd H l1 (.lst ((ns.take 63).map V.int)):=by rw[zHy]
  rw[e1]
  refine⟨l1,_,rfl,.inl (SqL.of bM),λl2 h2=>?_⟩
  refine⟨_,rfl,_,rfl,rfl,l2,_,rfl,SqL.of bM,λl3 h3=>?_⟩
  have n23:l2≠l3:=cU bM h3
  refine⟨_,rfl,l2,ns.take 63,rfl,SqL.of (by rw[bL n23];exact bM),_,rfl,l2,_,rfl,.inl (SqL.of (by rw[bL n23];exact bM)),_,_,rfl,rfl,.inl ⟨by decide,by decide⟩,_,_,rfl,rfl,(by show 3<=sizeLine;decide),λl4 h4=>?_⟩
  have n34:l3≠l4:=cU bM h4
  have f1:∀b o,H b=some o->upd H l1 (.lst ((ns.take 63).map V.int)) b=some o:=λb o e=>by rw[bL (cU e h1)];exact e
  have s1:Same H (upd H l1 (.lst ((ns.take 63).map V.int))):=f1
  have s2:Same H (upd (upd H l1 (.lst ((ns.take 63).map V.int))) l2 (.lst ((ns.take 63).map V.int))):=λb o e=>by rw[bL (cU (s1 b o e) h2)];exact s1 b o e
  have s3:Same H (upd (upd (upd H l1 (.lst ((ns.take 63).map V.int))) l2 (.lst ((ns.take 63).map V.int))) l3 (.lst ((ns.take 63).map V.int).reverse)):=λb o e=>by rw[bL (cU (s2 b o e) h3)];exact s2 b o e
  refine q l4 l3 _ (s3.free h4) (s2.free h3) ⟨n34.symm,⟨_,_,bM⟩,(ns.take 63).reverse,?_,?_⟩ λb o e=>?_
  ·rw[bL n34,bM,List.map_reverse]
  ·rw[List.length_reverse,List.length_take];omega
  ·rw[bL (cU (s3 b o e) h4)];exact s3 b o e
theorem sc_take:bG ["_law_deck_here","_law_most","_law_cell"] ["_law_deck_here","_law_most"] (aL vP):=fsc (by decide +kernel)
theorem zGF(h:Has K mg "_law_take" vP)(G27_:Good P w K mg base 1 "_law_mixed" ["_law_number_here","_law_k"] zAl):Good P w K mg base 2 "_law_take" ["_law_deck_here","_law_most"] zAY:=by
 refine h.good sc_take (fun|_,_,_,_,_,_,[_,_],_=>rfl) (λvs H Q E q=>?_) (λf cdv A outer s H vs Q E hr q=>?_)
 ·obtain⟨p,c,m,rfl,_⟩:=q
  rfl
 ·obtain⟨p,c,m,rfl,d,hm,hB,q⟩:=q
  have nd:=sc_take.nd
  have hu:=Nat.lt_of_succ_lt (zHu hr)
  obtain⟨hne,⟨S,k,hp⟩,ns,hc,hl⟩:=id d
  refine⟨_,(gD (uF (cJ op_add (gJ ix_list (pv 0) cC (λ_ _=>rfl)) cC) (zA9 (pv 0) cC zG))
   (gD (uT (tF (zGr hu) (gJ ix_list (pv 0) cC (λ_ _=>rfl)) (@zAy _ _ _ _ zA5) (aO _))
    (kO (kR (cJ gX (pU G27_ (hr.mono (by first|decide|omega)) rfl (dN (gJ ix_list (pv 0) cC (λ_ _=>rfl)) (dN (gJ ix_list (pv 0) cC (λ_ _=>rfl)) eK))) (pv 1))))
    tK)
   (gD (jP (i:=2) nd rfl (by first|exact Or.inl rfl|exact Or.inr rfl) (zGi PySem.F.plainAttrs_list PySem.F.slot_list_pop PySem.F.type_list_pop zGu (gJ ix_list (pv 0) cC (λ_ _=>rfl))))
   (gD (uT (tF op_lt (pv 2) (cJ zBc cC cC) (aO _))
    (kO (kR (cJ gX (pU G27_ (hr.mono (by first|decide|omega)) rfl (dN (pv 2) (dN (gJ ix_list (pv 0) cC (λ_ _=>rfl)) eK))) (pv 1))))
    tK)
   (gD (zAs (mX PySem.F.plainAttrs_list PySem.F.slot_list_append PySem.F.type_list_append sA (gJ ix_list (pv 0) cC (λ_ _=>rfl)) (dN (cJ zO (pv 2) (pv 1)) eK)))
   (kO (kR (cJ gX (pv 2) (pv 1))))))))),?_⟩
  -- deck[2]=deck[2]+1
  refine⟨_,rfl,p,_,_,_,rfl,rfl,SqL.of hp,rfl,_,_,rfl,rfl,_,rfl,p,_,_,2,rfl,rfl,hp,rfl,?_⟩
  have o1:On p c H (upd H p (.lst [.ref c,.int S,.int (k+1)])):=On.put d S (k+1)
  have hc1:upd H p (.lst [.ref c,.int S,.int (k+1)]) c=some (.lst (ns.map V.int)):=by rw[bL hne.symm];exact hc
  -- if deck[0]==[]
  refine⟨_,rfl,p,_,_,_,rfl,rfl,SqL.of bM,rfl,Nat.zero_le _,λl hfree=>?_⟩
  have npl:p≠l:=(o1.d.nep hfree).symm
  have ncl:c≠l:=(o1.d.nec hfree).symm
  have o2:=o1.alloc (o:=.lst []) hfree
  have hp2:upd (upd H p (.lst [.ref c,.int S,.int (k+1)])) l (.lst []) p=some (.lst [.ref c,.int S,.int (k+1)]):=by rw[bL npl];exact bM
  have hc2:upd (upd H p (.lst [.ref c,.int S,.int (k+1)])) l (.lst []) c=some (.lst (ns.map V.int)):=by rw[bL ncl];exact hc1
  refine⟨c,l,_,[],rfl,rfl,SqL.of hc2,SqL.of bM,zDD ns,rfl,_,rfl,?_⟩
  rw[show(if false=true then !fM (ns.map V.int) [] else fM (ns.map V.int) [])=ns.isEmpty from zEv ns]
  have fin:∀r H',On p c H H'->Q (.int (r % m)) H':=λr H' o=>q (r % m) H' (Int.emod_nonneg _ (by omega)) (Int.emod_lt_of_pos _ hm) o
  rcases List.eq_nil_or_concat ns with e|⟨init,z,e⟩
  ·subst e
   refine bS ?_
   refine⟨_,rfl,p,_,_,_,rfl,rfl,SqL.of hp2,rfl,_,rfl,p,_,_,_,rfl,rfl,SqL.of hp2,rfl,_,_,rfl,λr=>?_⟩
   exact⟨_,rfl,_,_,rfl,rfl,hm,fin r _ o2⟩
  ·rw[List.concat_eq_append]at e
   subst e
   rw[show(init++[z]).isEmpty=false by simp]
   refine bJ ?_
   have hlast:((init++[z]).map V.int)[((init++[z]).map V.int).length-1]?=some (.int z):=by simp
   have hdrop:((init++[z]).map V.int).dropLast=init.map V.int:=by simp
   -- cell=deck[0].pop()
   refine⟨_,rfl,p,_,_,_,rfl,rfl,SqL.of hp2,rfl,.inl ⟨rfl,_,SqL.of hc2⟩,c,_,_,rfl,rfl,hc2,hlast,?_⟩
   rw[hdrop]
   have hli:init.length<=63:=by rw[List.length_append,List.length_singleton]at hl;omega
   have o3:=o2.trans (On.cut o2.d init (by omega))
   have hp3:upd (upd (upd H p (.lst [.ref c,.int S,.int (k+1)])) l (.lst [])) c (.lst (init.map V.int)) p=some (.lst [.ref c,.int S,.int (k+1)]):=by rw[bL hne];exact hp2
   -- if cell<10 ** 18
   refine⟨_,rfl,_,_,rfl,rfl,⟨by decide,by decide,by decide⟩,_,_,rfl,rfl,_,rfl,?_⟩
   refine zH9 (λ_=>?_) (λ_=>?_)
   ·refine⟨_,rfl,_,rfl,p,_,_,_,rfl,rfl,SqL.of hp3,rfl,_,_,rfl,λr=>?_⟩
    exact⟨_,rfl,_,_,rfl,rfl,hm,fin r _ o3⟩
   ·refine⟨_,rfl,p,_,_,_,rfl,rfl,SqL.of hp3,rfl,.inl ⟨rfl,_,SqL.of bM⟩,_,rfl,_,rfl,_,_,rfl,rfl,⟨hm,hB⟩,c,_,_,rfl,rfl,bM,zDe (by rw[List.length_map];omega),?_⟩
    rw[show init.map V.int++[V.int (z / m)]=(init++[z / m]).map V.int by simp]
    have o4:=o3.trans (On.cut o3.d (init++[z / m]) (by rw[List.length_append,List.length_singleton];omega))
    exact⟨_,rfl,_,rfl,_,_,rfl,rfl,hm,fin z _ o4⟩
end
end My
namespace My
open PySem L2 PyProof.Rows WordM
section
variable{P:Program}{w:World}{K:W.Frag}{mg:Str->Option Value}{base:Heap}
def lX:PSp:=λas R=>as=[]/\R (sT SIG)
theorem C30_:bG ["_law_signs_here"] [] (aL vO):=fsc (by decide +kernel)
theorem zIE(h:Has K mg "_law_signs" vO)(B:Own mg)    : aE P w K mg base 1 "_law_signs" [] lX:=by
 have nd:=C30_.nd
 refine h.pgood C30_ (fun|_,_,_,_,_,_,[],_=>rfl) (λf cdv A outer s H E F hr=>
   (aI (aZ (i:=0) nd rfl (.inl rfl) aT)
   (aJ (aN (aR bN (aA 0) aT))))) (λas R q=>?_)
 obtain⟨rfl,q⟩:=q
 exact⟨rfl,show sigA.length+sigB.length<=100000 by decide +kernel,q⟩
def mL:PSp:=λas R=>∃m:Int,as=[.dk,.va (iT m)]/\0<=m/\m<=1000/\∀x:Str,Sg x->(x.length:Int)<=m->R (sT x)
theorem zGJ{z:Str}{r:Int}(h0:0<=r)(h1:r<z.length):∃c,atI z.cps.toList r=some c/\c∈cs z:=by
 have hl:r.toNat<(cs z).length:=by rw[<-WordM.len];omega
 refine⟨(cs z)[r.toNat],?_,List.getElem_mem hl⟩
 have:=bC (xs:=cs z) (j:=r.toNat) (List.getElem?_eq_getElem hl)
 rw[show((r.toNat:Nat):Int)=r by omega]at this
 exact this
theorem fZ{α:Type}{l:List α}{r:Int}(h0:0<=r)(h1:r<l.length):∃m,atI l r=some m/\m∈l:=by
 have hl:r.toNat<l.length:=by omega
 refine⟨l[r.toNat],?_,List.getElem_mem hl⟩
 have:=bC (xs:=l) (j:=r.toNat) (List.getElem?_eq_getElem hl)
 rw[show((r.toNat:Nat):Int)=r by omega]at this
 exact this
theorem C31_:bG ["_law_deck_here","_law_most","_law_signs_here","_law_some","_law_text_here","_law_k"] ["_law_deck_here","_law_most"] (aL vN):=fsc (by decide +kernel)
theorem zID(h:Has K mg "_law_text" vN)(B:Own mg)(G30_:aE P w K mg base 1 "_law_signs" [] lX)(G29_:aE P w K mg base 2 "_law_take" ["_law_deck_here","_law_most"] dH)   : aE P w K mg base 3 "_law_text" ["_law_deck_here","_law_most"] mL:=by
 have nd:=C31_.nd
 refine h.pgood C31_ (fun|_,_,_,_,_,_,[_,_],_=>rfl) (λf cdv A outer s H E F hr=>
   (aI (aZ (i:=2) nd rfl (.inl rfl) (tY G30_ (hr.mono (by omega)) rfl))
   (aI (aZ (i:=3) nd rfl (.inl rfl) (aG (aH hr.units) (bA (bU (aB (aA 2) (aB (aA 2) (aB aT (aB aT (aB aT (aB aT aD)))))))) (aK G29_ (hr.mono (by omega)) rfl (bD 0 (aB aC aD)))))
   (aI (aZ (i:=4) nd rfl (.inl rfl) aT)
   (aI (fT (m:=6) PassesOwn.never rfl (gO rfl B.range (aB (aK G29_ (hr.mono (by omega)) rfl (bD 0 (aB (aR bN (aA 1) aC) aD))) aD)) (bF 5 (by decide) nd rfl (.inl rfl))
    (aJ (aZ (i:=4) nd rfl (.inl rfl) (aR bN (aA 4) (aG (aH hr.units) (aA 3) (aK G29_ (hr.mono (by omega)) rfl (bD 0 (aB (bK cE rfl B.len PySem.boot_len (aB (aA 3) aD)) aD))))))))
   (aJ (aN (aA 4)))))))) (λas R q=>?_)
 obtain⟨m,rfl,m0,m1,q⟩:=q
 refine⟨rfl,rfl,?_⟩
 refine⟨by decide,rfl,6,rfl,by decide,bE (by decide) (by decide),λr r0 r6=>?_⟩
 obtain⟨z,hz,hzm⟩:=fZ (l:=[sT SIG,sT SIG,sT "0123456789",sT "abc",sT "XYZ",sT "a1"]) r0 r6
 refine⟨z,hz,?_⟩
 have hzs:∃y,z=sT y/\Sg y/\0<y.length/\y.length<=100:=by
  simp only[List.mem_cons,List.not_mem_nil,or_false]at hzm
  rcases hzm with e|e|e|e|e|e<;>subst e
  ·exact⟨_,rfl,λ_ h=>h,by decide +kernel,by decide +kernel⟩
  ·exact⟨_,rfl,λ_ h=>h,by decide +kernel,by decide +kernel⟩
  ·exact⟨_,rfl,by decide +kernel,by decide +kernel,by decide +kernel⟩
  ·exact⟨_,rfl,by decide +kernel,by decide +kernel,by decide +kernel⟩
  ·exact⟨_,rfl,by decide +kernel,by decide +kernel,by decide +kernel⟩
  ·exact⟨_,rfl,by decide +kernel,by decide +kernel,by decide +kernel⟩
 clear hz hzm
 obtain⟨y,rfl,y1,y2,y3⟩:=hzs
 refine⟨rfl,m+1,rfl,by omega,bE (by omega) (by omega),λn n0 n1=>⟨n,rfl,by omega,by omega,?_⟩⟩
 refine iE (λi ρ=>∃(x:Str) (s:Sl),Sg x/\x.length=i/\ρ=[.dk,.va (iT m),.va (sT SIG),.va (sT y),.va (sT x),s]) ⟨⟨#[]⟩,.no,zFP,rfl,rfl⟩ ?_ ?_
 ·rintro i T _ N hT ⟨x,s,sx,lx,rfl⟩ hN
  have hi:=(jL hT).1
  refine⟨rfl,by omega,?_⟩
  refine⟨y.length,rfl,by omega,bE (by omega) (by omega),λk k0 k1=>⟨by omega,?_⟩⟩
  obtain⟨c,hc,hcm⟩:=zGJ (z:=y) k0 k1
  refine⟨c,hc,by show x.length+1<=100000;omega,hN _ ⟨x++⟨#[c]⟩,_,sx.app (y1.one hcm),?_,rfl⟩⟩
  rw[WordM.len,WordM.app,List.length_append,<-WordM.len,lx]
  rfl
 ·rintro _ ⟨x,s,sx,lx,rfl⟩
  refine q x sx ?_
  rw[lx,fR]
  omega
end
section
variable{P:Program}{w:World}{K:W.Frag}{mg:Str->Option Value}{base:Heap}
theorem zFO(a:Int):Sg ⟨#[eX a]⟩:=λcc hc=>by
 have e:cc=eX a:=by simpa using hc
 rw[e]
 exact zDh _
def zBV(m:Int)(ss:List Str):Prop:=ss.Nodup/\∀s∈ss,Sg s/\(s.length:Int)<=(if m<1 then 1 else m)
def sM:PSp:=λas R=>∃n m:Int,as=[.dk,.va (iT n),.va (iT m)]/\0<=n/\n<=63/\0<=m/\m<=1000/\∀ss:List Str,(ss.length:Int)=n->zBV m ss->R (.seq false (ss.map sT))
theorem C32_:bG ["_law_deck_here","_law_many","_law_most","_law_signs_here","_law_found","_law_k","_law_text_here","_law_at"] ["_law_deck_here","_law_many","_law_most"] (aL vM):=fsc (by decide +kernel)
theorem zIC(h:Has K mg "_law_unlike" vM)(B:Own mg)(G30_:aE P w K mg base 1 "_law_signs" [] lX)(G31_:aE P w K mg base 3 "_law_text" ["_law_deck_here","_law_most"] mL)   : aE P w K mg base 4 "_law_unlike" ["_law_deck_here","_law_many","_law_most"] sM:=by
 have nd:=C32_.nd
 refine h.pgood C32_ (fun|_,_,_,_,_,_,[_,_,_],_=>rfl) (λf cdv A outer s H E F hr=>
   (aI (aZ (i:=3) nd rfl (.inl rfl) (tY G30_ (hr.mono (by omega)) rfl))
   (aI (iI (i:=4) nd rfl (.inl rfl) (bU aD))
   (aI (fT (m:=8) PassesOwn.never rfl (gO rfl B.range (aB (aA 1) aD)) (bF 5 (by decide) nd rfl (.inl rfl))
    (aI (aZ (i:=6) nd rfl (.inl rfl) (aK G31_ (hr.mono (by omega)) rfl (bD 0 (aB (aA 2) aD))))
    (aI (aZ (i:=7) nd rfl (.inl rfl) (mF PySem.F.slot_str_find PySem.F.type_str_find zEZ (aA 3) (aB (dO dQ (aA 6) dW (dL aC)) aD)))
    (aI (sI PassesOwn.never (sX λF=>(aQ (eY hr.units) (aA 6) (aA 4) rfl))
     (aI (aZ (i:=7) nd rfl (.inl rfl) (aR iK (aR bN (aA 7) aC) (bK cE rfl B.len PySem.boot_len (aB (aA 3) aD))))
     (aJ (aZ (i:=6) nd rfl (.inl rfl) (aR bN (aG (aH hr.units) (aA 3) (aA 7)) (dO dQ (aA 6) (dL aC) dW))))))
    (aJ (gF (jD 4 (aA 6))))))))
   (aJ (aN (aA 4))))))) (λas R q=>?_)
 obtain⟨n,m,rfl,n0,n63,m0,m1,q⟩:=q
 have hsl:SIG.length=94:=kM
 refine⟨rfl,rfl,by decide,n,rfl,by omega,by omega,?_⟩
 refine iE (λi ρ=>∃(ss:List Str) (s5 s6 s7:Sl),ss.length=i/\zBV m ss/\ρ=[.dk,.va (iT n),.va (iT m),.va (sT SIG),.own (ss.map sT),s5,s6,s7]) ⟨[],.no,.no,.no,rfl,⟨List.nodup_nil,λs hs=>nomatch hs⟩,rfl⟩ ?_ ?_
 ·rintro i T _ N hT ⟨ss,s5,s6,s7,hlen,htx,rfl⟩ hN
  obtain⟨hi,rfl⟩:=jL hT
  refine⟨rfl,m,rfl,m0,m1,λx0 sx0 hx0=>?_⟩
  refine⟨rfl,1,rfl,by omega,SIG,_,rfl,rfl,λa0=>?_⟩
  let r:Str:=Txt.slice x0 (some 1) none
  have hr1:r.length+1<=(if x0.length<1 then 1 else x0.length):=zCJ x0
  have sr:Sg r:=sx0.slice _ _
  refine⟨λM ρ=>∃(j:Nat) (x:Str),M+j=ss.length+2/\j<=ss.length+1/\(∀i,1<=i->i<j->fB a0 r i∈ss)/\(j=0/\x=x0\/1<=j/\x=fB a0 r j) /\
    ρ=[.dk,.va (iT n),.va (iT m),.va (sT SIG),.own (ss.map sT),.va (iT (0+(i:Int))),.va (sT x),.va (iT (if j=0 then a0 else(a0+j) % 94))],
   ⟨ss.length+2,0,x0,rfl,Nat.zero_le _,λi h1 h2=>absurd h2 (Nat.not_lt_zero _),.inl ⟨rfl,rfl⟩,rfl⟩,?_⟩
  rintro M _ ⟨j,x,hM,hj,htr,hx,rfl⟩
  have hxl:Sg x/\(x.length:Int)<=(if m<1 then 1 else m)/\Txt.slice x (some 1) none=r:=by
   rcases hx with⟨_,rfl⟩|⟨_,rfl⟩
   ·refine⟨sx0,?_,rfl⟩
    split<;>omega
   ·refine⟨Sg.app (zFO _) sr,?_,zCI⟩
    have:(fB a0 r j).length=r.length+1:=by
     unfold fB
     rw[WordM.len,WordM.app,WordM.len,List.length_append]
     simp
     omega
    rw[this]
    split at hr1<;>split<;>omega
  obtain⟨sx,hxm,hxr⟩:=hxl
  have hx1000:x.length<=1000:=by split at hxm<;>omega
  refine⟨eP,_,rfl,?_⟩
  rw[eG]
  refine sif (λh1=>?_) (λh1=>?_)
  ·have h1:x∈ss:=by simpa using h1
   have hall:∀i,1<=i->i<=j->fB a0 r i∈ss:=λi i1 i2=>by
    rcases Nat.lt_or_eq_of_le i2 with z|z
    ·exact htr i i1 z
    ·rcases hx with⟨z0,_⟩|⟨_,e⟩
     ·omega
     ·rw[z,<-e];exact h1
   have hjs:j<=ss.length:=zDV (by omega) hall
   have hmod:((if j=0 then a0 else(a0+(j:Int)) % 94)+1) % 94=(a0+((j+1:Nat):Int)) % 94:=by
    split
    ·rename_i z;subst z;congr 1
    ·push_cast;omega
   have hsl':((SIG.length:Nat):Int)=94:=by rw[hsl];rfl
   have e1:((if j=0 then a0 else(a0+(j:Int)) % 94)+1) % ((SIG.length:Nat):Int)=(a0+((j+1:Nat):Int)) % 94:=by rw[hsl',hmod]
   have hat:atI SIG.cps.toList (((if j=0 then a0 else(a0+(j:Int)) % 94)+1) % ((SIG.length:Nat):Int))=some (eX (a0+((j+1:Nat):Int))):=by
    rw[e1]
    have b1:=Int.emod_lt_of_pos (a0+((j+1:Nat):Int)) (show(0:Int)<94 by decide)
    have b2:=Int.emod_nonneg (a0+((j+1:Nat):Int)) (show(94:Int)≠0 by decide)
    have hlt:((a0+((j+1:Nat):Int)) % 94).toNat<(cs SIG).length:=by rw[<-WordM.len];omega
    have:=bC (xs:=cs SIG) (j:=((a0+((j+1:Nat):Int)) % 94).toNat) (List.getElem?_eq_getElem hlt)
    rw[show((((a0+((j+1:Nat):Int)) % 94).toNat:Nat):Int)=(a0+((j+1:Nat):Int)) % 94 by omega]at this
    rw[this]
    unfold eX
    rw[List.getD_eq_getElem?_getD,List.getElem?_eq_getElem hlt]
    rfl
   refine⟨by omega,by omega,by omega,_,hat,1,rfl,by omega,?_,?_⟩
   ·show 1+(Txt.slice x (some 1) none).length<=100000
    rw[hxr]
    split at hr1<;>omega
   ·refine⟨ss.length+2-(j+1),by omega,j+1,fB a0 r (j+1),by omega,by omega,λi i1 i2=>hall i i1 (by omega),.inr ⟨by omega,rfl⟩,?_⟩
    show [Sl.dk,.va (iT n),.va (iT m),.va (sT SIG),.own (ss.map sT),.va (iT (0+(i:Int))),.va (sT ((⟨#[eX (a0+((j+1:Nat):Int))]⟩:Str)++Txt.slice x (some 1) none)),.va (iT (((if j=0 then a0 else(a0+(j:Int)) % 94)+1) % ((SIG.length:Nat):Int)))]=_
    rw[e1,if_neg (by omega),hxr]
    rfl
  ·have h1:x∉ss:=by simpa using h1
   refine⟨⟨_,rfl⟩,_,rfl,by rw[List.length_map];omega,hN _ ⟨ss++[x],.va (iT (0+(i:Int))),.va (sT x),.va (iT (if j=0 then a0 else(a0+j) % 94)),by rw[List.length_append,hlen];rfl,⟨?_,λs hs=>?_⟩,?_⟩⟩
   ·rw[List.nodup_append]
    exact⟨htx.1,by simp,λa ha b hb=>by rw[List.mem_singleton]at hb;subst hb;rintro rfl;exact h1 ha⟩
   ·rcases List.mem_append.mp hs with z|z
    ·exact htx.2 s z
    ·rw[List.mem_singleton]at z;subst z;exact⟨sx,hxm⟩
   ·rw[List.map_append];rfl
 ·rintro _ ⟨ss,s5,s6,s7,hlen,htx,rfl⟩
  rw[fR]at hlen
  exact q ss (by omega) htx
def uS:PSp:=λas R=>as=[.dk]/\∀r:Int,-(10 ^ 60)<r->r<10 ^ 60->R (iT r)
theorem C33_:bG ["_law_deck_here","_law_number_here","_law_k"] ["_law_deck_here"] (aL vL):=fsc (by decide +kernel)
theorem zIB(h:Has K mg "_law_far" vL)(B:Own mg)(G29_:aE P w K mg base 2 "_law_take" ["_law_deck_here","_law_most"] dH)   : aE P w K mg base 3 "_law_far" ["_law_deck_here"] uS:=by
 have nd:=C33_.nd
 refine h.pgood C33_ (fun|_,_,_,_,_,_,[_],_=>rfl) (λf cdv A outer s H E F hr=>
   (aI (aZ (i:=1) nd rfl (.inl rfl) aC)
   (aI (fT (m:=3) PassesOwn.never rfl (gO rfl B.range (aB aC aD)) (bF 2 (by decide) nd rfl (.inl rfl))
    (aJ (aZ (i:=1) nd rfl (.inl rfl) (aR bN (aR dX (aA 1) (aR mI aC aC)) (aK G29_ (hr.mono (by omega)) rfl (bD 0 (aB (aR mI aC aC) aD)))))))
   (aJ (aN (aR bN (aR eC (aR iK (aA 1) (aR eC (aR dX aC (aR mI aC aC)) aC)) (aR mI aC aC)) aC)))))) (λas R q=>?_)
 obtain⟨rfl,q⟩:=q
 refine⟨rfl,8,rfl,by decide,by decide,?_⟩
 refine iE (λi ρ=>∃(x:Int) (s:Sl),0<=x/\x<10 ^ (8*i)/\ρ=[.dk,.va (iT x),s]) ⟨0,.no,by decide,by decide,rfl⟩ ?_ ?_
 ·rintro i T _ N hT ⟨x,s,x0,x1,rfl⟩ hN
  obtain⟨hi,rfl⟩:=jL hT
  have hi:i<8:=hi
  have xb:x<10 ^ 64:=Int.lt_of_lt_of_le x1 (by
   have:i=0\/i=1\/i=2\/i=3\/i=4\/i=5\/i=6\/i=7:=by omega
   rcases this with e|e|e|e|e|e|e|e<;>subst e<;>decide)
  refine⟨⟨by decide,by decide,by decide⟩,.inr ⟨bE (by omega) (by omega),bE (by decide) (by decide)⟩,rfl,⟨by decide,by decide,by decide⟩,10 ^ 8,rfl,by decide,bE (by decide) (by decide),λr r0 r1=>hN _ ⟨_,_,?_,?_,rfl⟩⟩
  ·show 0<=x*(10 ^ 8:Int)+r
   omega
  ·show x*(10 ^ 8:Int)+r<10 ^ (8*(i+1))
   have e:(10:Int) ^ (8*(i+1))=10 ^ (8*i)*10 ^ 8:=by rw[Nat.mul_add,Int.pow_add]
   rw[e]
   have h8:r<(10:Int) ^ 8:=r1
   generalize (10:Int) ^ (8*i)=y at x1
   omega
 ·rintro _ ⟨x,s,x0,x1,rfl⟩
  refine⟨⟨by decide,by decide,by decide⟩,.inl (.inl ⟨by decide,by decide⟩),(show(0:Int)<2*10 ^ 60-1 by decide),⟨by decide,by decide,by decide⟩,?_⟩
  have h1:=Int.emod_nonneg x (show(2*10 ^ 60-1:Int)≠0 by decide)
  have h2:=Int.emod_lt_of_pos x (show(0:Int)<2*10 ^ 60-1 by decide)
  refine q _ ?_ ?_
  ·show -(10 ^ 60)<x % (2*10 ^ 60-1)-10 ^ 60+1
   omega
  ·show x % (2*10 ^ 60-1)-10 ^ 60+1<10 ^ 60
   omega
end
section
variable{P:Program}{w:World}{K:W.Frag}{mg:Str->Option Value}{base:Heap}
structure gH (nm tx:List Str) (st sp:Int):Prop where
 n11:nm.length=11
 t9:tx.length=9
 nd:nm.Nodup
 ndt:tx.Nodup
 ns:∀s∈nm,Sg s/\s.length<=40
 ts:∀s∈tx,Sg s/\s.length<=43
 st1:-(10 ^ 57)<=st
 st2:st<=10 ^ 57
 sp1:1<=sp
 sp2:sp<=10 ^ 20
def bW(nm tx:List Str)(st sp:Int):Tv:=.seq false [.seq false (nm.map sT),.seq false (tx.map sT),iT st,iT sp]
def tG:PSp:=λas R=>as=[.dk]/\∀nm tx st sp,gH nm tx st sp->R (bW nm tx st sp)
theorem zFz{a b c:Str}(h:a++b=a++c):b=c:=by
 have:=congrArg cs h
 rw[WordM.app,WordM.app]at this
 exact kK (List.append_cancel_left this)
theorem C34_:bG ["_law_deck_here","_law_most","_law_names","_law_head","_law_texts","_law_start"] ["_law_deck_here"] (aL qQ):=fsc (by decide +kernel)
theorem zIA(h:Has K mg "_law_world" qQ)(B:Own mg)(G29_:aE P w K mg base 2 "_law_take" ["_law_deck_here","_law_most"] dH)(G32_:aE P w K mg base 4 "_law_unlike" ["_law_deck_here","_law_many","_law_most"] sM)(G31_:aE P w K mg base 3 "_law_text" ["_law_deck_here","_law_most"] mL)(G33_:aE P w K mg base 3 "_law_far" ["_law_deck_here"] uS)   : aE P w K mg base 5 "_law_world" ["_law_deck_here"] tG:=by
 have nd:=C34_.nd
 refine h.pgood C34_ (fun|_,_,_,_,_,_,[_],_=>rfl) (λf cdv A outer s H E F hr=>
   (aI (aZ (i:=1) nd rfl (.inl rfl) (aG (aH hr.units) (bA (bU (aB aC (aB aC (aB aC (aB aC (aB aC (aB aC (aB aC (aB aC aD)))))))))) (aK G29_ (hr.mono (by omega)) rfl (bD 0 (aB aC aD)))))
   (aI (aZ (i:=2) nd rfl (.inl rfl) (aK G32_ (hr.mono (by omega)) rfl (bD 0 (aB aC (aB (aA 1) aD)))))
   (aI (aZ (i:=3) nd rfl (.inr rfl) (aK G31_ (hr.mono (by omega)) rfl (bD 0 (aB (aR dX aC (aK G29_ (hr.mono (by omega)) rfl (bD 0 (aB aC aD)))) aD))))
   (aI (gE (i:=4) (sc:=aL qQ) (XN:=["_law_deck_here","_law_most","_law_names","_law_head","_law_texts","_law_start"]) (N:=["_law_text_here","_law_head"]) (own:=1) (fr:=[3]) rfl nd rfl (.inl rfl) ⟨rfl,by decide +kernel,by decide +kernel,by decide +kernel,rfl,by decide +kernel,by decide,by decide +kernel⟩ (by decide) (bO (aK G32_ (hr.mono (by omega)) rfl (bD 0 (aB aC (aB (aA 1) aD))))) (λ_ _ _ _ _=>(bF 0 (by decide) (show(["_law_text_here","_law_head"]:List Str).Nodup by decide +kernel) rfl (by first|exact Or.inl rfl|exact Or.inr rfl))) (λ_ _ _ _ _=>cH) (λ_ _ _ _ _=>(aR bN (aA 1) (aA 0))))
   (aI (aZ (i:=5) nd rfl (.inl rfl) (aG (aH hr.units) (bA (bU (aB aC (aB aC (aB (mS mJ aC) (aB (aR jM (aK G33_ (hr.mono (by omega)) rfl (bD 0 aD)) aC) aD)))))) (aK G29_ (hr.mono (by omega)) rfl (bD 0 (aB aC aD)))))
   (aJ (aN (bA (bU (aB (aA 2) (aB (aA 4) (aB (aA 5) (aB (aR bN aC (aK G29_ (hr.mono (by omega)) rfl (bD 0 (aB (aG (aH hr.units) (bA (bU (aB aC (aB (aR mI aC aC) aD)))) (aK G29_ (hr.mono (by omega)) rfl (bD 0 (aB aC aD)))) aD)))) aD)))))))))))))) (λas R q=>?_)
 obtain⟨rfl,q⟩:=q
 refine⟨rfl,by decide,rfl,8,rfl,by decide,bE (by decide) (by decide),λr r0 r1=>?_⟩
 obtain⟨M,hM,hMm⟩:=fZ (l:=[iT 4,iT 3,iT 5,iT 1,iT 4,iT 3,iT 6,iT 40]) r0 r1
 have hm:∃m:Int,M=iT m/\1<=m/\m<=40:=by
  simp only[List.mem_cons,List.not_mem_nil,or_false]at hMm
  rcases hMm with e|e|e|e|e|e|e|e<;>subst e<;>exact⟨_,rfl,by decide,by decide⟩
 obtain⟨m,rfl,m1,m2⟩:=hm
 refine⟨_,hM,?_⟩
 clear hM hMm
 refine⟨rfl,11,m,rfl,by decide,by decide,by omega,by omega,λnm hnm tnm=>?_⟩
 refine⟨rfl,rfl,2,rfl,by decide,bE (by decide) (by decide),λr2 a0 a1=>⟨.inl (.inl ⟨by decide,by decide⟩),_,rfl,by omega,by omega,λhd shd lhd=>?_⟩⟩
 refine⟨rfl,9,m,rfl,by decide,by decide,by omega,by omega,λtx htx ttx=>⟨by rw[List.length_map];omega,?_⟩⟩
 have lt:∀s∈tx,Sg s/\s.length<=40:=λs hs=>by
  have:=ttx.2 s hs
  refine⟨this.1,?_⟩
  have:=this.2
  split at this<;>omega
 refine dC sT (λs=>sT (hd++s)) (λs hs R q=>?_) ?_
 ·have:=(lt s hs).2
  exact⟨show hd.length+s.length<=100000 by omega,q⟩
 refine⟨rfl,rfl,λfr fr0 fr1=>⟨⟨by decide,bE (by decide) (by decide)⟩,(show 4<=100000 by decide),rfl,4,rfl,by decide,bE (by decide) (by decide),λr3 b0 b1=>?_⟩⟩
 obtain⟨S,hS,hSm⟩:=fZ (l:=[iT 0,iT 7,iT (-40),iT (fr / 1000)]) b0 b1
 have hs:∃st:Int,S=iT st /\ -(10 ^ 57)<=st/\st<=10 ^ 57:=by
  simp only[List.mem_cons,List.not_mem_nil,or_false]at hSm
  rcases hSm with e|e|e|e<;>subst e
  ·exact⟨_,rfl,by decide,by decide⟩
  ·exact⟨_,rfl,by decide,by decide⟩
  ·exact⟨_,rfl,by decide,by decide⟩
  ·exact⟨_,rfl,by omega,by omega⟩
 obtain⟨st,rfl,st1,st2⟩:=hs
 refine⟨_,hS,?_⟩
 clear hS hSm
 refine⟨rfl,⟨by decide,by decide,by decide⟩,by decide,rfl,2,rfl,by decide,bE (by decide) (by decide),λr4 c0 c1=>?_⟩
 obtain⟨W,hW,hWm⟩:=fZ (l:=[iT 6,iT (10 ^ 20)]) c0 c1
 have hw:∃wi:Int,W=iT wi/\1<=wi/\wi<=10 ^ 20:=by
  simp only[List.mem_cons,List.not_mem_nil,or_false]at hWm
  rcases hWm with e|e<;>subst e<;>exact⟨_,rfl,by decide,by decide⟩
 obtain⟨wi,rfl,w1,w2⟩:=hw
 refine⟨_,hW,wi,rfl,by omega,bE (by omega) (by omega),λsp sp0 sp1=>⟨(show 4<=100000 by decide),?_⟩⟩
 have:=q nm (tx.map λs=>hd++s) st (1+sp) ⟨by omega,by rw[List.length_map];omega,tnm.1,?_,λs hs=>?_,λs hs=>?_,st1,st2,by omega,by omega⟩
 ·show R (.seq false [.seq false (nm.map sT),.seq false (tx.map λs=>sT (hd++s)),iT st,iT (1+sp)])
  rw[bW,List.map_map]at this
  exact this
 ·unfold List.Nodup
  rw[List.pairwise_map]
  exact ttx.1.imp λh e=>h (zFz e)
 ·have:=tnm.2 s hs
  refine⟨this.1,?_⟩
  have:=this.2
  split at this<;>omega
 ·obtain⟨z,hz,rfl⟩:=List.mem_map.mp hs
  refine⟨shd.app (lt z hz).1,?_⟩
  rw[WordM.len,WordM.app,List.length_append,<-WordM.len,<-WordM.len]
  have:=(lt z hz).2
  omega
theorem zBe{a b:Int}(h1:1<=a)(h2:a<=10 ^ 20)(h3:-100<=b)(h4:b<=100):-(10 ^ 22)<=a*b/\a*b<=10 ^ 22:=by
 have e1:a*b<=a*100:=Int.mul_le_mul_of_nonneg_left h4 (by omega)
 have e2:a*(-100)<=a*b:=Int.mul_le_mul_of_nonneg_left h3 (by omega)
 omega
end
section
variable{P:Program}{w:World}{K:W.Frag}{mg:Str->Option Value}{base:Heap}
theorem zC1(b:Int)(h1:1<=b)(h2:b<=15):∃ms:List Str,([((1:Int),("figure":Str)),(2,"great"),(4,"other"),(8,"small")].filterMap λx=>if b / x.1 % 2=1 then some (sT x.2) else none)=ms.map sT/\ms.Sublist MK/\ms≠[]:=by
 have:b=1\/b=2\/b=3\/b=4\/b=5\/b=6\/b=7\/b=8\/b=9\/b=10\/b=11\/b=12\/b=13\/b=14\/b=15:=by omega
 rcases this with e|e|e|e|e|e|e|e|e|e|e|e|e|e|e<;>subst e
 ·exact⟨["figure"],rfl,by decide,by decide⟩
 ·exact⟨["great"],rfl,by decide,by decide⟩
 ·exact⟨["figure","great"],rfl,by decide,by decide⟩
 ·exact⟨["other"],rfl,by decide,by decide⟩
 ·exact⟨["figure","other"],rfl,by decide,by decide⟩
 ·exact⟨["great","other"],rfl,by decide,by decide⟩
 ·exact⟨["figure","great","other"],rfl,by decide,by decide⟩
 ·exact⟨["small"],rfl,by decide,by decide⟩
 ·exact⟨["figure","small"],rfl,by decide,by decide⟩
 ·exact⟨["great","small"],rfl,by decide,by decide⟩
 ·exact⟨["figure","great","small"],rfl,by decide,by decide⟩
 ·exact⟨["other","small"],rfl,by decide,by decide⟩
 ·exact⟨["figure","other","small"],rfl,by decide,by decide⟩
 ·exact⟨["great","other","small"],rfl,by decide,by decide⟩
 ·exact⟨["figure","great","other","small"],rfl,by decide,by decide⟩
structure MkD (h:Str) (a b:Int) (ms:List Str):Prop where
 h3:Sg h/\h.length<=3
 a0:0<=a
 a3:a<=3
 ab:a<=b
 b1:1<=b
 b6:b<=6
 sub:ms.Sublist MK
 ne:ms≠[]
theorem MkD.ok{h:Str}{a b:Int}{ms:List Str}(m:MkD h a b ms):WdOk (.make h a b ms):=⟨⟨m.h3.1,by have:=m.h3.2;omega⟩,m.a0,m.ab,m.b1,by have:=m.b6;omega,m.sub,m.ne⟩
def mM:PSp:=λas R=>as=[.dk]/\∀h a b ms,MkD h a b ms->R (cG (.make h a b ms))
theorem C35_:bG ["_law_deck_here","_law_least","_law_most","_law_bits","_law_marks","_law_some"] ["_law_deck_here"] (aL qP):=fsc (by decide +kernel)
theorem zIz(h:Has K mg "_law_make" qP)(B:Own mg)(G29_:aE P w K mg base 2 "_law_take" ["_law_deck_here","_law_most"] dH)(G31_:aE P w K mg base 3 "_law_text" ["_law_deck_here","_law_most"] mL)   : aE P w K mg base 4 "_law_make" ["_law_deck_here"] mM:=by
 have nd:=C35_.nd
 refine h.pgood C35_ (fun|_,_,_,_,_,_,[_],_=>rfl) (λf cdv A outer s H E F hr=>
   (aI (aZ (i:=1) nd rfl (.inl rfl) (aK G29_ (hr.mono (by omega)) rfl (bD 0 (aB aC aD))))
   (aI (aZ (i:=2) nd rfl (.inl rfl) (bK (gW rfl) rfl B.max boot_max (aB aC (aB (aR bN (aA 1) (aK G29_ (hr.mono (by omega)) rfl (bD 0 (aB aC aD)))) aD))))
   (aI (aZ (i:=3) nd rfl (.inr rfl) (aR bN aC (aK G29_ (hr.mono (by omega)) rfl (bD 0 (aB aC aD)))))
   (aI (aZ (i:=4) nd rfl (.inl rfl) (bA (bU (aB aT (aB aT (aB aT (aB aT aD)))))))
   (aI (aZ (i:=5) nd rfl (.inl rfl) (gB gQ rfl B.tuple_ boot_tuple (aB (bA (bX (sc:=aL qP) (XN:=["_law_deck_here","_law_least","_law_most","_law_bits","_law_marks","_law_some"]) (N:=["_law_k","_law_mark_here","_law_bits"]) (own:=2) (fr:=[3]) rfl ⟨rfl,by decide +kernel,by decide +kernel,by decide +kernel,rfl,by decide +kernel,by decide,by decide +kernel⟩ (by decide) (zEH rfl B.enumerate (aB (aA 4) aD)) (λ_ _ _ _ _=>(pI 2 rfl (fQ (bF 0 (by decide) (show(["_law_k","_law_mark_here","_law_bits"]:List Str).Nodup by decide +kernel) rfl (by first|exact Or.inl rfl|exact Or.inr rfl)) (fQ (bF 1 (by decide) (show(["_law_k","_law_mark_here","_law_bits"]:List Str).Nodup by decide +kernel) rfl (by first|exact Or.inl rfl|exact Or.inr rfl)) pA)))) (λ_ _ _ _ _=>(cX (aQ (aW hr.units) (aR iK (aR jM (aA 2) (aG (aH hr.units) (bA (bU (aB aC (aB aC (aB aC (aB aC aD)))))) (aA 0))) aC) aC (aO _)))) (λ_ _ _ _ _=>(aA 1)))) aD)))
   (aJ (aN (bI (aB aT (aB (aK G31_ (hr.mono (by omega)) rfl (bD 0 (aB aC aD))) (aB (aA 1) (aB (aA 2) (aB (aA 5) aD)))))))))))))) (λas R q=>?_)
 obtain⟨rfl,q⟩:=q
 refine⟨rfl,rfl,4,rfl,by decide,bE (by decide) (by decide),λa a0 a1=>?_⟩
 refine⟨rfl,4,rfl,by decide,bE (by decide) (by decide),λc c0 c1=>.inl ⟨_,_,rfl,?_⟩⟩
 refine⟨rfl,15,rfl,by decide,bE (by decide) (by decide),λd d0 d1=>⟨by decide,?_⟩⟩
 obtain⟨ms,e,sub,ne⟩:=zC1 (1+d) (by omega) (by omega)
 refine⟨_,rfl,by decide,?_⟩
 refine cL (l:=[((1:Int),(0:Nat),("figure":Str)),(2,1,"great"),(4,2,"other"),(8,3,"small")]) (λx=>.seq true [iT (x.2.1:Nat),sT x.2.2]) (λx=>if (1+d) / x.1 % 2=1 then some (sT x.2.2) else none) (λx hx R q=>?_) ?_
 ·simp only[List.mem_cons,List.not_mem_nil,or_false]at hx
  rcases hx with rfl|rfl|rfl|rfl
  all_goals
   refine⟨_,rfl,rfl,_,_,rfl,_,_,rfl,rfl,by decide,_,rfl,⟨by decide,bE (by decide) (by decide)⟩,(show(0:Int)<2 by decide),_,rfl,?_⟩
   refine sif (λz=>?_) (λz=>?_)
   ·rw[if_pos (by simpa[eqV]using z)]at q;exact q
   ·rw[if_neg (by simpa[eqV]using z)]at q;exact q
 ·have e':([((1:Int),(0:Nat),("figure":Str)),(2,1,"great"),(4,2,"other"),(8,3,"small")].filterMap λx=>if (1+d) / x.1 % 2=1 then some (sT x.2.2) else none)=ms.map sT:=e
  rw[e']
  refine⟨_,_,rfl,rfl,3,rfl,by decide,by decide,λh sh lh=>⟨(show 5<=100000 by decide),q h a _ ms ⟨⟨sh,by omega⟩,a0,by omega,by omega,by omega,by omega,sub,ne⟩⟩⟩
theorem sR{α:Type}{ps rs tx:List α}{j:Nat}{x:α}(h:(ps++rs).Perm tx)(e:rs[j]?=some x):((ps++[x])++rs.eraseIdx j).Perm tx:=by
 obtain⟨hj,rfl⟩:=List.getElem?_eq_some_iff.mp e
 refine List.Perm.trans ?_ h
 rw[List.append_assoc]
 exact List.Perm.append_left _ (oA rs j hj)
theorem uI{rs:List Str}{r:Int}(h0:0<=r)(h1:r<rs.length):∃x,rs[r.toNat]?=some x:=⟨rs[r.toNat]'(by omega),List.getElem?_eq_getElem _⟩
theorem kF{α β:Type}(f:α->β):∀(l:List α) (i:Nat),(l.map f).eraseIdx i=(l.eraseIdx i).map f
 |[],_=>by simp
 |_::_,0=>by simp
 |a::l,i+1=>by simp[kF f l i]
def nQ:PSp:=λas R=>∃nm tx st sp,as=[.dk,.va (bW nm tx st sp)]/\gH nm tx st sp/\∀w,WdOk w->R (cG w)
theorem C36_:bG ["_law_deck_here","_law_world_here","_law_texts","_law_some"] ["_law_deck_here","_law_world_here"] (aL qO):=fsc (by decide +kernel)
theorem zIy(h:Has K mg "_law_some_words" qO)(B:Own mg)(G29_:aE P w K mg base 2 "_law_take" ["_law_deck_here","_law_most"] dH)(G35_:aE P w K mg base 4 "_law_make" ["_law_deck_here"] mM)   : aE P w K mg base 5 "_law_some_words" ["_law_deck_here","_law_world_here"] nQ:=by
 have nd:=C36_.nd
 refine h.pgood C36_ (fun|_,_,_,_,_,_,[_,_],_=>rfl) (λf cdv A outer s H E F hr=>
   (aI (aX (aQ (aW hr.units) (aK G29_ (hr.mono (by omega)) rfl (bD 0 (aB aC aD))) aC (aO _))
    (aJ (aN (aK G35_ (hr.mono (by omega)) rfl (bD 0 aD))))
    bB)
   (aI (iI (i:=2) nd rfl (.inr rfl) (jC jF rfl B.list_ boot_list (aB (aG (aH hr.units) (aA 1) aC) aD)))
   (aI (gE (i:=3) (sc:=aL qO) (XN:=["_law_deck_here","_law_world_here","_law_texts","_law_some"]) (N:=["_law_k","_law_deck_here","_law_texts"]) (own:=1) (fr:=[0,2]) rfl nd rfl (.inl rfl) ⟨rfl,by decide +kernel,by decide +kernel,by decide +kernel,rfl,by decide +kernel,by decide,by decide +kernel⟩ (by decide) (gO rfl B.range (aB (aR bN aC (aK G29_ (hr.mono (by omega)) rfl (bD 0 (aB aC aD)))) aD)) (λ_ _ _ _ _=>(bF 0 (by decide) (show(["_law_k","_law_deck_here","_law_texts"]:List Str).Nodup by decide +kernel) rfl (by first|exact Or.inl rfl|exact Or.inr rfl))) (λ_ _ _ _ _=>cH) (λ_ _ _ _ _=>(lQ 2 (aK G29_ (hr.mono (by omega)) rfl (bD 1 (aB (fS λF=>(bK cE rfl B.len PySem.boot_len (aB (aA 2) aD))) aD))))))
   (aJ (aN (bI (aB aT (aB (gB gQ rfl B.tuple_ boot_tuple (aB (bA (lO (oF rfl) rfl B.sorted boot_sorted (aB (aA 3) aD))) aD)) aD))))))))) (λas R q=>?_)
 obtain⟨nm,tx,st,sp,rfl,hw,q⟩:=q
 refine⟨rfl,rfl,2,rfl,by decide,bE (by decide) (by decide),λa a0 a1=>⟨_,rfl,sif (λ_=>⟨rfl,rfl,λh a b ms m=>q _ m.ok⟩) (λ_=>?_)⟩⟩
 refine⟨_,rfl,false,_,rfl,?_⟩
 refine⟨rfl,6,rfl,by decide,bE (by decide) (by decide),λn n0 n1=>⟨_,rfl,by omega,by omega,by rw[fR];omega,?_⟩⟩
 refine sE (λi Us ρ=>∃ps rs:List Str,Us=ps.map sT/\ps.length=i/\(ps++rs).Perm tx/\ρ=[.dk,.va (bW nm tx st sp),.own (rs.map sT),.no]) ⟨[],tx,rfl,rfl,List.Perm.refl _,rfl⟩ ?_ ?_
 ·rintro i T _ _ hT ⟨ps,rs,rfl,hl,hp,rfl⟩ R hR
  have hi:=(jL hT).1
  have hlen:=hp.length_eq
  rw[List.length_append,hw.t9]at hlen
  refine⟨⟨_,rfl⟩,rfl,_,rfl,(rs.map sT).length,rfl,by rw[List.length_map];omega,by rw[List.length_map];exact bE (by omega) (by omega),λr r0 r1=>?_⟩
  rw[List.length_map]at r1
  obtain⟨x,hx⟩:=uI r0 r1
  refine⟨r,_,sT x,rfl,rfl,r0,by rw[List.getElem?_map,hx];rfl,hR (some (sT x)) _ ⟨ps++[x],rs.eraseIdx r.toNat,by rw[List.map_append];rfl,by rw[List.length_append,hl];rfl,sR hp hx,?_⟩⟩
  show [Sl.dk,.va (bW nm tx st sp),.own ((rs.map sT).eraseIdx r.toNat),.no]=_
  rw[kF]
 ·rintro _ _ ⟨ps,rs,rfl,hl,hp,rfl⟩
  rw[fR]at hl
  have hnd:ps.Nodup:=(hp.nodup_iff.mpr hw.ndt).sublist (List.sublist_append_left _ _)
  refine .inr (.inl ⟨ps,rfl,by omega,?_⟩)
  refine⟨false,_,rfl,by simp,q (.few (dI ps)) ⟨by rw[jE];omega,by rw[jE];omega,oE hnd,λt ht=>?_⟩⟩
  have ht:t∈tx:=hp.mem_iff.mp (List.mem_append_left _ ((kB ps).mem_iff.mp ht))
  exact⟨(hw.ts t ht).1,by have:=(hw.ts t ht).2;omega⟩
end
end My
namespace My
open PySem L2 PyProof.Rows WordM
section
variable{P:Program}{w:World}{K:W.Frag}{mg:Str->Option Value}{base:Heap}
def WdW:Wd->Prop
 |.few ts=>1<=ts.length/\ts.length<=6/\nJ ts/\∀t∈ts,Sg t/\t.length<=200
 |.make h a b ms=>(Sg h/\h.length<=60)/\0<=a/\a<=b/\1<=b/\b<=110/\ms.Sublist MK/\ms≠[]
theorem WdOk.wk:∀{W:Wd},WdOk W->WdW W
 |.few _,⟨a,b,c,d⟩=>⟨a,b,c,λt ht=>⟨(d t ht).1,Nat.le_trans (d t ht).2 (by decide)⟩⟩
 |.make ..,⟨a,b,c,d,e,f⟩=>⟨⟨a.1,Nat.le_trans a.2 (by decide)⟩,b,c,d,Int.le_trans e (by decide),f⟩
def gL(lo hi st:Int):Prop:=lo<=hi/\0<=st/\(st=0↔lo=hi)/\(st≠0->(hi-lo) % st=0)
theorem RunOk.wk{lo hi st:Int}(h:RunOk lo hi st):gL lo hi st:=⟨h.2.2.2.1,h.2.2.2.2.1,h.2.2.2.2.2.1,h.2.2.2.2.2.2⟩
def sP:PSp:=λas R=>∃lo hi st i:Int,as=[.va (.seq true [iT lo,iT hi,iT st]),.va (iT i)]/\gL lo hi st/\R (bT (cP lo hi st i))
theorem C0_:bG ["run","number"] ["run","number"] (aL s0_):=fsc (by decide +kernel)
theorem g0_(h:Has K mg "run_has" s0_)(B:Own mg)    : aE P w K mg base 1 "run_has" ["run","number"] sP:=by
 have nd:=C0_.nd
 refine h.pgood C0_ (fun|_,_,_,_,_,_,[_,_],_=>rfl) (λf cdv A outer s H E F hr=>
   (aI (aX (aQ (aW hr.units) (aG (aH hr.units) (aA 0) aC) aC (aO _))
    (aJ (aN (cA (aW hr.units).op (aA 1) (aG (aH hr.units) (aA 0) aC) (aO _))))
    bB)
   (aJ (aN (eJ (sK eE eE (aG (aH hr.units) (aA 0) aC) (aA 1) (aG (aH hr.units) (aA 0) aC)) (eV (cA (aW hr.units).op (aR iK (aR eC (aA 1) (aG (aH hr.units) (aA 0) aC)) (aG (aH hr.units) (aA 0) aC)) aC (aO _)))))))) (λas R q=>?_)
 obtain⟨lo,hi,st,i,rfl,ok,q⟩:=q
 obtain⟨h4,h5,h6,h7⟩:=ok
 refine⟨rfl,_,rfl,_,rfl,dA (λz=>?_) (λz=>?_)⟩
 ·have e:=h6.mp z
  subst z e
  refine⟨_,rfl,?_⟩
  have:cP lo lo 0 i=(false != eqV (.int i) (.int lo)):=by
   unfold cP
   by_cases h:i=lo
   ·subst h;simp[eqV]
   ·have h':¬ (lo<=i/\i<=lo):=by omega
    have:(decide (lo<=i)&&decide (i<=lo))=false:=by
     rw[Bool.eq_false_iff];intro z;rw[Bool.and_eq_true,decide_eq_true_iff,decide_eq_true_iff]at z;exact h' z
    rw[this]
    simp[eqV,h]
  rw[this]at q
  exact q
 ·have hmax:max 1 st=st:=by omega
  refine⟨_,rfl,_,rfl,cQ (λa=>⟨_,rfl,_,rfl,cQ (λb=>?_) (λb=>?_)⟩) (λa=>⟨false,rfl,bJ ?_⟩)⟩
  ·refine⟨_,rfl,_,rfl,(show(0:Int)<st by omega),?_⟩
   have:cP lo hi st i=(false != eqV (.int ((i-lo) % st)) (.int 0)):=by
    unfold cP
    rw[decide_eq_true a,decide_eq_true b,hmax]
    simp[eqV,Bool.beq_eq_decide_eq]
   rw[this]at q
   exact q
  ·have:cP lo hi st i=false:=by unfold cP;rw[decide_eq_false b];simp
   rw[this]at q
   exact q
  ·have:cP lo hi st i=false:=by unfold cP;rw[decide_eq_false a];simp
   rw[this]at q
   exact q
def rX:PSp:=λas R=>∃x m:Str,as=[.va (sT x),.va (sT m)]/\m∈MK/\x.length<=1000/\R (bT (hZ x m))
theorem C4_:bG ["text","mark"] ["text","mark"] (aL s4_):=fsc (by decide +kernel)
theorem g4_(h:Has K mg "has_mark" s4_)(B:Own mg)(GSIGNS:jT K w.params mg "SIGNS" SGN)  : aE P w K mg base 1 "has_mark" ["text","mark"] rX:=by
 have nd:=C4_.nd
 refine h.pgood C4_ (fun|_,_,_,_,_,_,[_,_],_=>rfl) (λf cdv A outer s H E F hr=>
   (aJ (aN (bK (zF4 rfl) rfl B.any boot_any (aB (bA (bX (sc:=aL s4_) (XN:=["text","mark"]) (N:=["sign","mark"]) (own:=1) (fr:=[1]) rfl ⟨rfl,by decide +kernel,by decide +kernel,by decide +kernel,rfl,by decide +kernel,by decide,by decide +kernel⟩ (by decide) (bO (aA 0)) (λ_ _ _ _ _=>(bF 0 (by decide) (show(["sign","mark"]:List Str).Nodup by decide +kernel) rfl (by first|exact Or.inl rfl|exact Or.inr rfl))) (λ_ _ _ _ _=>cH) (λ_ _ _ _ _=>(cA (eY hr.units).op (aA 0) (mT GSIGNS rfl (aA 1)) rfl)))) aD))))) (λas R q=>?_)
 obtain⟨x,m,rfl,hm,hx,q⟩:=q
 obtain⟨S,hS⟩:∃S,getS SGN m=some S:=by
  simp only[MK,List.mem_cons,List.not_mem_nil,or_false]at hm
  rcases hm with e|e|e|e<;>subst e<;>exact⟨_,rfl⟩
 refine⟨rfl,by rw[List.length_map,<-WordM.len];omega,?_⟩
 refine dC (λc=>sT ⟨#[c]⟩) (λc=>bT (decide (c∈cs S))) (λc hc R q=>⟨m,S,rfl,hS,?_⟩) ?_
 ·have e:(false != inS ⟨#[c]⟩ S)=decide (c∈cs S):=by
   unfold inS
   rw[StrLaws.found_one]
   simp
  show R (some (bT (false != inS ⟨#[c]⟩ S))) _
  rw[e]
  exact q
 ·refine⟨(cs x).map λc=>decide (c∈cs S),by rw[List.map_map];rfl,?_⟩
  have e:((cs x).map λc=>decide (c∈cs S)).any id=hZ x m:=by
   rw[List.any_map,hZ,hS]
   rfl
  rw[e]
  exact q
def rW:PSp:=λas R=>∃x:Str,as=[.va (sT x)]/\x.length<=1000/\R (.seq true ((jR x).map sT))
theorem C5_:bG ["text"] ["text"] (aL s5_):=fsc (by decide +kernel)
theorem g5_(h:Has K mg "marks_of" s5_)(B:Own mg)(G4_:aE P w K mg base 1 "has_mark" ["text","mark"] rX)(GMARKS:gZ K mg "MARKS" (.seq true (MK.map sT)))  : aE P w K mg base 2 "marks_of" ["text"] rW:=by
 have nd:=C5_.nd
 refine h.pgood C5_ (fun|_,_,_,_,_,_,[_],_=>rfl) (λf cdv A outer s H E F hr=>
   (aJ (aN (gB gQ rfl B.tuple_ boot_tuple (aB (bA (bX (sc:=aL s5_) (XN:=["text"]) (N:=["mark","text"]) (own:=1) (fr:=[0]) rfl ⟨rfl,by decide +kernel,by decide +kernel,by decide +kernel,rfl,by decide +kernel,by decide,by decide +kernel⟩ (by decide) (bO (uK GMARKS rfl)) (λ_ _ _ _ _=>(bF 0 (by decide) (show(["mark","text"]:List Str).Nodup by decide +kernel) rfl (by first|exact Or.inl rfl|exact Or.inr rfl))) (λ_ _ _ _ _=>(cX (cM (aK G4_ (hr.mono (by omega)) rfl (aB (aA 1) (aB (aA 0) aD)))))) (λ_ _ _ _ _=>(aA 0)))) aD))))) (λas R q=>?_)
 obtain⟨x,rfl,hx,q⟩:=q
 refine⟨rfl,by decide,?_⟩
 refine cL (l:=MK) sT (λm=>if hZ x m=true then some (sT m) else none) (λm hm R q=>⟨x,m,rfl,hm,hx,_,rfl,sif (λz=>?_) (λz=>?_)⟩) ?_
 ·rw[if_pos z]at q;exact q
 ·rw[if_neg (by rw[z];exact Bool.false_ne_true)]at q;exact q
 ·refine⟨false,_,rfl,?_⟩
  have e:(MK.filterMap λm=>if hZ x m=true then some (sT m) else none)=(jR x).map sT:=by
   unfold jR
   generalize MK=l
   induction l with
   |nil=>rfl
   |cons a l ih=>
    rw[List.filterMap_cons,List.filter_cons,ih]
    cases hZ x a<;>simp
  rw[e]
  exact q
def fP:PSp:=λas R=>∃(W:Wd) (x:Str),as=[.va (cG W),.va (sT x)]/\WdW W/\Sg x/\x.length<=1000/\R (bT (bV W x))
theorem C6_:bG ["words","text","tail"] ["words","text"] (aL s6_):=fsc (by decide +kernel)
theorem g6_(h:Has K mg "words_let" s6_)(B:Own mg)(G5_:aE P w K mg base 2 "marks_of" ["text"] rW)   : aE P w K mg base 3 "words_let" ["words","text"] fP:=by
 have nd:=C6_.nd
 refine h.pgood C6_ (fun|_,_,_,_,_,_,[_,_],_=>rfl) (λf cdv A outer s H E F hr=>
   (aI (aX (aQ (aW hr.units) (aG (aH hr.units) (aA 0) aC) aT (aO _))
    (aJ (aN (cA (eY hr.units).op (aA 1) (aG (aH hr.units) (aA 0) aC) rfl)))
    bB)
   (aI (aX (dG (cM (mF PySem.F.slot_str_startswith PySem.F.type_str_startswith yA (aA 1) (aB (aG (aH hr.units) (aA 0) aC) aD))))
    (aJ (aN cD))
    bB)
   (aI (aZ (i:=2) nd rfl (.inl rfl) (dO dQ (aA 1) (dL (bK cE rfl B.len PySem.boot_len (aB (aG (aH hr.units) (aA 0) aC) aD))) dW))
   (aJ (aN (eJ (sK eE eE (aG (aH hr.units) (aA 0) aC) (bK cE rfl B.len PySem.boot_len (aB (aA 2) aD)) (aG (aH hr.units) (aA 0) aC)) (eV (bK (mK rfl) rfl B.all boot_all (aB (bA (bX (sc:=aL s6_) (XN:=["words","text","tail"]) (N:=["mark","words"]) (own:=1) (fr:=[0]) rfl ⟨rfl,by decide +kernel,by decide +kernel,by decide +kernel,rfl,by decide +kernel,by decide,by decide +kernel⟩ (by decide) (bO (aK G5_ (hr.mono (by omega)) rfl (aB (aA 2) aD))) (λ_ _ _ _ _=>(bF 0 (by decide) (show(["mark","words"]:List Str).Nodup by decide +kernel) rfl (by first|exact Or.inl rfl|exact Or.inr rfl))) (λ_ _ _ _ _=>cH) (λ_ _ _ _ _=>(cA (eY hr.units).op (aA 0) (aG (aH hr.units) (aA 1) aC) rfl)))) aD)))))))))) (λas R q=>?_)
 obtain⟨W,x,rfl,ok,sx,lx,q⟩:=q
 refine⟨rfl,?_⟩
 cases W with
 |few ss=>
  refine⟨_,rfl,_,rfl,eM (λ_=>⟨_,rfl,eP,?_⟩) (λh=>absurd rfl h)⟩
  rw[eG]
  have:(false != decide (x∈ss))=bV (.few ss) x:=by simp[bV]
  rw[this]
  exact q
 |make hd lo hi ms=>
  have hhd:hd.length<=60:=ok.1.2
  refine⟨_,rfl,_,rfl,eM (λh=>absurd h (by decide +kernel)) (λ_=>?_)⟩
  have q':∀b,bV (.make hd lo hi ms) x=b->R (bT b):=λb e=>e▸q
  refine⟨rfl,_,rfl,_,_,rfl,rfl,_,rfl,?_⟩
  refine sif (λh1=>?_) (λh1=>?_)
  ·have h1:stW x hd=false:=by
    have h1:(!(stW x hd))=true:=h1
    simpa using h1
   refine q' _ ?_
   show(stW x hd&&_)=false
   rw[h1];rfl
  ·have h1:stW x hd=true:=by
    have h1:(!(stW x hd))=false:=h1
    simpa using h1
   refine⟨_,rfl,by omega,_,rfl,by omega,?_⟩
   have hrl:(cY x hd).length<=1000:=Nat.le_trans (WordM.slice_len ..) lx
   refine⟨_,rfl,by show(cY x hd).length<=100000;omega,_,rfl,cQ (λh2=>⟨_,rfl,_,rfl,cQ (λh3=>?_) (λh3=>?_)⟩) (λh2=>⟨false,rfl,bJ ?_⟩)⟩
   ·have h2:lo<=((cY x hd).length:Int):=h2
    have h3:((cY x hd).length:Int)<=hi:=h3
    refine⟨_,rfl,hrl,by rw[List.length_map];exact Nat.le_trans (List.length_filter_le _ _) (by decide),?_⟩
    refine dC sT (λm=>bT (decide (m∈ms))) (λm hm R q=>⟨_,rfl,eP,?_⟩) ?_
    ·rw[eG]
     have:(false != decide (m∈ms))=decide (m∈ms):=by simp
     rw[this];exact q
    ·refine⟨(jR (cY x hd)).map λm=>decide (m∈ms),by rw[List.map_map];rfl,q' _ ?_⟩
     show(stW x hd&&_)=_
     rw[h1,decide_eq_true h2,decide_eq_true h3,<-zDu (x:=cY x hd) (sx.slice _ _) ms,List.all_map]
     rfl
   ·have h3:¬ ((cY x hd).length:Int)<=hi:=h3
    refine q' _ ?_
    show(stW x hd&&_)=_
    rw[decide_eq_false h3];simp
   ·have h2:¬ lo<=((cY x hd).length:Int):=h2
    refine q' _ ?_
    show(stW x hd&&_)=_
    rw[decide_eq_false h2];simp
end
end My
namespace My
open PySem L2 PyProof.Rows WordM
section
variable{P:Program}{w:World}{K:W.Frag}{mg:Str->Option Value}{base:Heap}
variable{n:Nat}
def wI:List (Str×Str):=[("nothing","nothing"),("truths","truth"),("numbers","number"),("texts","text"),("lists","list"),("record","dict"),("table","dict")]
theorem at0{α:Type}{x:α}{r:List α}:atI (x::r) 0=some x:=bC (j:=0) rfl
theorem oX(p:Pt):∃r,aU p=.seq true (sT (gY p)::r)/\r.length<=4:=by
 cases p with
 |record a b fs=>exact⟨_,bR a b fs,by simp⟩
 |lists a b f=>exact⟨_,gA a b f,by simp⟩
 |table a b w f=>exact⟨_,cV a b w f,by simp⟩
 |_=>rw[aU];exact⟨_,rfl,by simp⟩
theorem zGw(p:Pt):getS wI (gY p)=some (kZ (aY p)):=by
 cases p<;>rfl
def kC:PSp:=λas R=>∃p:Pt,as=[.va (aU p)]/\R (sT (kZ (aY p)))
theorem C15_:bG ["part"] ["part"] (aL vV):=fsc (by decide +kernel)
theorem zIP(h:Has K mg "part_kind" vV)(B:Own mg)(GPART_KINDS:jT K w.params mg "PART_KINDS" wI)  : aE P w K mg base 1 "part_kind" ["part"] kC:=by
 have nd:=C15_.nd
 refine h.pgood C15_ (fun|_,_,_,_,_,_,[_],_=>rfl) (λf cdv A outer s H E F hr=>
   (aJ (aN (mT GPART_KINDS rfl (aG (aH hr.units) (aA 0) aC))))) (λas R q=>?_)
 obtain⟨p,rfl,q⟩:=q
 obtain⟨r,e,_⟩:=oX p
 rw[e]
 exact⟨rfl,_,at0,_,_,rfl,zGw p,q⟩
theorem zDy{a b:Nat}(ha:a<=5)(hb:b<=5)(h:kZ a=kZ b):a=b:=by
 have h1:a=0\/a=1\/a=2\/a=3\/a=4\/a=5:=by omega
 have h2:b=0\/b=1\/b=2\/b=3\/b=4\/b=5:=by omega
 rcases h1 with e|e|e|e|e|e<;>subst e<;>rcases h2 with e|e|e|e|e|e<;>subst e<;>first|rfl|exact absurd h (by decide +kernel)
theorem lV(p:Pt):aY p<=5:=by cases p<;>simp[aY]
def wC:Option Pt->Tv
 |none=>nT
 |some p=>aU p
def lJ:PSp:=λas R=>∃(f:List Pt) (k:Nat),as=[.va (cK f),.va (sT (kZ k))]/\k<=5/\R (wC (f.find? λp=>decide (aY p=k)))
theorem C16_:bG ["form","kind","part"] ["form","kind"] (aL vT):=fsc (by decide +kernel)
theorem zIO(h:Has K mg "part_for" vT)(B:Own mg)(G15_:aE P w K mg base 1 "part_kind" ["part"] kC)   : aE P w K mg base 2 "part_for" ["form","kind"] lJ:=by
 have nd:=C16_.nd
 refine h.pgood C16_ (fun|_,_,_,_,_,_,[_,_],_=>rfl) (λf cdv A outer s H E F hr=>
   (aI (fT (m:=3) PassesOwn.never rfl (bO (aA 0)) (bF 2 (by decide) nd rfl (.inl rfl))
    (aJ (aX (aQ (aW hr.units) (aK G15_ (hr.mono (by omega)) rfl (aB (aA 2) aD)) (aA 1) (aO _))
     (aJ (aN (aA 2)))
     bB)))
   (aJ (aN gV)))) (λas R q=>?_)
 obtain⟨f,k,rfl,hk,q⟩:=q
 refine⟨rfl,?_⟩
 refine pF aU (l:=f) (λi ρ=>(∀j p,j<i->f[j]?=some p->aY p≠k)/\∃s,ρ=[.va (cK f),.va (sT (kZ k)),s]) ⟨λj p h=>absurd h (Nat.not_lt_zero _),.no,rfl⟩ ?_ ?_
 ·rintro i p _ N hp ⟨hj,s,rfl⟩ hN
  refine⟨p,rfl,_,rfl,eM (λe=>?_) (λe=>?_)⟩
  ·have e:=zDy (lV p) hk e
   have:f.find? (λp=>decide (aY p=k))=some p:=by
    rw[List.find?_eq_some_iff_getElem]
    obtain⟨hi,rfl⟩:=List.getElem?_eq_some_iff.mp hp
    exact⟨decide_eq_true e,i,hi,rfl,λj hj'=>by
     have:=hj j f[j] hj' (List.getElem?_eq_getElem (by omega))
     simpa using this⟩
   rw[this]at q
   exact q
  ·refine hN _ ⟨λj p' hj' ep=>?_,_,rfl⟩
   by_cases z:j=i
   ·subst z;rw[hp]at ep;cases ep;exact λz=>e (by rw[z])
   ·exact hj j p' (by omega) ep
 ·rintro _ ⟨hj,s,rfl⟩
  have:f.find? (λp=>decide (aY p=k))=none:=by
   rw[List.find?_eq_none]
   intro p hp
   obtain⟨j,hj',rfl⟩:=List.mem_iff_getElem.mp hp
   simpa using hj j _ hj' (List.getElem?_eq_getElem hj')
  rw[this]at q
  exact q
end
end My
namespace My
open PySem L2 PyProof.Rows WordM
section
variable{P:Program}{w:World}{K:W.Frag}{mg:Str->Option Value}{base:Heap}
open WordM ShowM
theorem letW_make{hd x:Str}{lo hi:Int}{ms:List Str}:bV (.make hd lo hi ms) x=true↔MkL cS (cs hd) lo hi ms (cs x):=by
 unfold bV MkL
 rw[Bool.and_eq_true,Bool.and_eq_true,Bool.and_eq_true,decide_eq_true_iff,decide_eq_true_iff,List.all_eq_true,zEN,WordM.len]
 constructor
 ·rintro⟨⟨r,e⟩,⟨h1,h2⟩,h3⟩
  rw[zH e]at h1 h2 h3
  exact⟨r,e,h1,h2,λc hc=>of_decide_eq_true (h3 c hc)⟩
 ·rintro⟨r,e,h1,h2,h3⟩
  rw[zH e]
  exact⟨⟨r,e⟩,⟨h1,h2⟩,λc hc=>decide_eq_true (h3 c hc)⟩
def qB(W:Wd)(ts:List Str):Prop:=(∀t∈ts,bV W t=true/\Sg t/\t.length<=400)/\∀W2,WdW W2->(∀t∈ts,bV W2 t=true)->∀x,bV W x=true->bV W2 x=true
theorem xU{ss:List Str}(h:WdW (.few ss)):qB (.few ss) ss:=
 ⟨λt ht=>⟨decide_eq_true ht,(h.2.2.2 t ht).1,Nat.le_trans (h.2.2.2 t ht).2 (by decide)⟩,λW2 _ k x hx=>k x (of_decide_eq_true hx)⟩
theorem xD{hd:Str}{lo hi:Int}{ms:List Str}{ts:List Str}(T:Tells cS (cs hd) lo hi ms (ts.map cs))(h:∀t∈ts,bV (.make hd lo hi ms) t=true/\Sg t/\t.length<=400):qB (.make hd lo hi ms) ts:=by
 refine⟨h,λW2 ok k x hx=>?_⟩
 cases W2 with
 |few ss=>
  refine(T.few (ss:=ss.map cs) (by rw[List.length_map];exact ok.2.1) λy hy=>?_).elim
  obtain⟨t,ht,rfl⟩:=List.mem_map.mp hy
  exact List.mem_map.mpr ⟨t,of_decide_eq_true (k t ht),rfl⟩
 |make hd2 lo2 hi2 ms2=>
  rw[letW_make]at hx ⊢
  refine T.make (λy hy=>?_) _ hx
  obtain⟨t,ht,rfl⟩:=List.mem_map.mp hy
  exact letW_make.mp (k t ht)
def bQ(c:Nat)(n:Int):Str:=fX ⟨#[c]⟩ n
theorem fJ(c:Nat)(n:Int):cs (bQ c n)=List.replicate n.toNat c:=by
 show((List.replicate n.toNat [c]).flatten.toArray).toList=_
 rw[List.toList_toArray]
 induction n.toNat with
 |zero=>rfl
 |succ k ih=>rw[List.replicate_succ,List.flatten_cons,ih,List.replicate_succ];rfl
theorem kN(c:Nat)(n:Int):(bQ c n).length=n.toNat:=by rw[WordM.len,fJ,List.length_replicate]
theorem zA1{c:Nat}(h:c∈cs SIG)(n:Int):Sg (bQ c n):=λd hd=>by
 rw[fJ]at hd
 rw[(List.mem_replicate.mp hd).2]
 exact h
def eB(m:Str):List Nat:=cs ((L2.getS SGN m).getD ⟨#[]⟩)
def sgM:List Str->List Nat
 |[]=>[]
 |m::r=>(eB m).take 7++r.map λm=>(eB m).headD 0
def bY(ms:List Str):List Nat:=(cs SIG).filter λc=>decide (cS c∈ms)
structure qA (ms:List Str) (G:List Nat):Prop where
 many:7<=G.length
 nd:G.Nodup
 cov:∀m∈ms,∃c∈G,cS c=m
 mine:∀c∈G,cS c∈ms
 sg:∀c∈G,c∈cs SIG
instance (ms:List Str) (G:List Nat):Decidable (qA ms G):=
 decidable_of_iff (7<=G.length/\G.Nodup/\(∀m∈ms,∃c∈G,cS c=m)/\(∀c∈G,cS c∈ms)/\∀c∈G,c∈cs SIG) ⟨λ⟨a,b,c,d,e⟩=>⟨a,b,c,d,e⟩,λ⟨a,b,c,d,e⟩=>⟨a,b,c,d,e⟩⟩
def zBH(a b c d:Bool):List Str:=(if a then [("figure":Str)] else [])++((if b then [("great":Str)] else [])++((if c then [("other":Str)] else [])++(if d then [("small":Str)] else [])))
theorem oS{x:Str}{l ms:List Str}(h:ms.Sublist (x::l)):∃(a:Bool) (ms':List Str),ms'.Sublist l/\ms=(if a then [x] else [])++ms':=by
 cases h with
 |cons _ h=>exact⟨false,_,h,rfl⟩
 |cons_cons _ h=>exact⟨true,_,h,rfl⟩
theorem zAX{ms:List Str}(h:ms.Sublist MK):∃a b c d,ms=zBH a b c d:=by
 obtain⟨a,m1,h1,e1⟩:=oS h
 obtain⟨b,m2,h2,e2⟩:=oS h1
 obtain⟨c,m3,h3,e3⟩:=oS h2
 obtain⟨d,m4,h4,e4⟩:=oS h3
 have e5:=List.sublist_nil.mp h4
 exact⟨a,b,c,d,by rw[e1,e2,e3,e4,e5];unfold zBH;rw[List.append_nil]⟩
theorem lR{ms:List Str}(h1:ms.Sublist MK)(h2:ms≠[]):qA ms (sgM ms)/\qA ms (bY ms)/\(sgM ms).length<=10:=by
 obtain⟨a,b,c,d,rfl⟩:=zAX h1
 revert h2
 cases a<;>cases b<;>cases c<;>cases d<;>intro h2<;>first|exact absurd rfl h2|decide +kernel
def mG:Wd->List Str
 |.few ss=>ss
 |.make hd lo hi ms=>((sgM ms).map λc=>hd++bQ c hi)++(if lo<hi then [hd++bQ ((sgM ms).headD 0) lo] else [])
def hE:Wd->List Str
 |.few ss=>ss
 |.make hd lo hi ms=>(((bY ms).map λc=>hd++bQ c (if lo > 1 then lo else 1))++(if lo=0 then [hd] else []))++[hd++bQ ((bY ms).headD 0) hi]
theorem jN{G:List Nat}(h:7<=G.length):G.headD 0∈G:=by
 cases G with
 |nil=>simp at h
 |cons c G=>exact List.mem_cons_self
theorem pD{hd:Str}{lo hi n:Int}{ms:List Str}{G:List Nat}(S:qA ms G)(shd:Sg hd)(hl:hd.length<=60){c:Nat}(hc:c∈G)(h0:0<=n)(h1:lo<=n)(h2:n<=hi)(h3:hi<=110):
  bV (.make hd lo hi ms) (hd++bQ c n)=true/\Sg (hd++bQ c n)/\(hd++bQ c n).length<=400:=by
 refine⟨letW_make.mpr ⟨_,by rw[WordM.app,fJ],?_,?_,λd hd=>?_⟩,shd.app (zA1 (S.sg c hc) n),?_⟩
 ·rw[List.length_replicate];omega
 ·rw[List.length_replicate];omega
 ·rw[(List.mem_replicate.mp hd).2];exact S.mine c hc
 ·rw[WordM.len,WordM.app,List.length_append,<-WordM.len,<-WordM.len,kN];omega
theorem rM:∀{W:Wd},WdW W->qB W (mG W)
 |.few ss,h=>xU h
 |.make hd lo hi ms,⟨⟨shd,hl⟩,lo0,lohi,hi1,hi62,b1,b2⟩=>by
  obtain⟨S,_,_⟩:=lR b1 b2
  have m1:∀g∈sgM ms,hd++bQ g hi∈mG (.make hd lo hi ms):=λg hg=>List.mem_append_left _ (List.mem_map.mpr ⟨g,hg,rfl⟩)
  refine xD ⟨⟨hi.toNat,sgM ms,by omega,S.many,S.nd,S.cov,λg hg=>?_⟩,?_,?_⟩ λt ht=>?_
  ·exact List.mem_map.mpr ⟨_,m1 g hg,by rw[WordM.app,fJ]⟩
  ·by_cases h:lo<hi
   ·refine⟨List.replicate lo.toNat ((sgM ms).headD 0),by rw[List.length_replicate];omega,List.mem_map.mpr ⟨hd++bQ ((sgM ms).headD 0) lo,?_,by rw[WordM.app,fJ]⟩⟩
    show _∈_++(if lo<hi then _ else _)
    rw[if_pos h]
    exact List.mem_append_right _ List.mem_cons_self
   ·exact⟨List.replicate hi.toNat ((sgM ms).headD 0),by rw[List.length_replicate];omega,List.mem_map.mpr ⟨_,m1 _ (jN S.many),by rw[WordM.app,fJ]⟩⟩
  ·exact⟨List.replicate hi.toNat ((sgM ms).headD 0),by rw[List.length_replicate];omega,List.mem_map.mpr ⟨_,m1 _ (jN S.many),by rw[WordM.app,fJ]⟩⟩
  ·have ht:t∈((sgM ms).map λc=>hd++bQ c hi)++(if lo<hi then [hd++bQ ((sgM ms).headD 0) lo] else []):=ht
   rcases List.mem_append.mp ht with z|z
   ·obtain⟨c,hc,rfl⟩:=List.mem_map.mp z
    exact pD S shd hl hc (by omega) lohi (by omega) hi62
   ·split at z
    ·have:t=hd++bQ ((sgM ms).headD 0) lo:=by simpa using z
     subst this
     exact pD S shd hl (jN S.many) lo0 (by omega) lohi hi62
    ·simp at z
theorem oO:∀{W:Wd},WdW W->qB W (hE W)
 |.few ss,h=>xU h
 |.make hd lo hi ms,⟨⟨shd,hl⟩,lo0,lohi,hi1,hi62,b1,b2⟩=>by
  obtain⟨_,S,_⟩:=lR b1 b2
  have m1:∀g∈bY ms,hd++bQ g (if lo > 1 then lo else 1)∈hE (.make hd lo hi ms):=λg hg=>List.mem_append_left _ (List.mem_append_left _ (List.mem_map.mpr ⟨g,hg,rfl⟩))
  have m3:hd++bQ ((bY ms).headD 0) hi∈hE (.make hd lo hi ms):=List.mem_append_right _ List.mem_cons_self
  refine xD ⟨⟨(if lo > 1 then lo else 1).toNat,bY ms,by split<;>omega,S.many,S.nd,S.cov,λg hg=>?_⟩,?_,?_⟩ λt ht=>?_
  ·exact List.mem_map.mpr ⟨_,m1 g hg,by rw[WordM.app,fJ]⟩
  ·by_cases h:lo=0
   ·refine⟨[],by rw[h];exact Int.le_refl _,List.mem_map.mpr ⟨hd,?_,by rw[List.append_nil]⟩⟩
    refine List.mem_append_left _ (List.mem_append_right _ ?_)
    rw[if_pos h]
    exact List.mem_cons_self
   ·exact⟨List.replicate (if lo > 1 then lo else 1).toNat ((bY ms).headD 0),by rw[List.length_replicate];split<;>omega,List.mem_map.mpr ⟨_,m1 _ (jN S.many),by rw[WordM.app,fJ]⟩⟩
  ·exact⟨List.replicate hi.toNat ((bY ms).headD 0),by rw[List.length_replicate];omega,List.mem_map.mpr ⟨_,m3,by rw[WordM.app,fJ]⟩⟩
  ·have ht:t∈(((bY ms).map λc=>hd++bQ c (if lo > 1 then lo else 1))++(if lo=0 then [hd] else []))++[hd++bQ ((bY ms).headD 0) hi]:=ht
   rcases List.mem_append.mp ht with z|z
   ·rcases List.mem_append.mp z with z|z
    ·obtain⟨c,hc,rfl⟩:=List.mem_map.mp z
     exact pD S shd hl hc (by split<;>omega) (by split<;>omega) (by split<;>omega) hi62
    ·split at z
     ·rename_i h
      have:t=hd:=by simpa using z
      subst this
      exact⟨letW_make.mpr ⟨[],by simp,by rw[h];exact Int.le_refl _,by show(0:Int)<=hi;omega,λc hc=>nomatch hc⟩,shd,by omega⟩
     ·simp at z
   ·have:t=hd++bQ ((bY ms).headD 0) hi:=by simpa using z
    subst this
    exact pD S shd hl (jN S.many) (by omega) lohi (by omega) hi62
def dY(W W2:Wd):Option Str:=(mG W).find? λt=>!bV W2 t
theorem yC{W W2:Wd}(h1:WdW W)(h2:WdW W2):(dY W W2).isNone=(hE W).all λt=>bV W2 t:=by
 rw[Bool.eq_iff_iff,Option.isNone_iff_eq_none,dY,List.find?_eq_none,List.all_eq_true]
 constructor
 ·intro k t ht
  refine(rM h1).2 W2 h2 (λt ht=>?_) t ((oO h1).1 t ht).1
  have:=k t ht
  simpa using this
 ·intro k t ht
  have:=(oO h1).2 W2 h2 k t ((rM h1).1 t ht).1
  simp[this]
end
end My
namespace My
open PySem L2 PyProof.Rows WordM
section
variable{P:Program}{w:World}{K:W.Frag}{mg:Str->Option Value}{base:Heap}
open WordM ShowM
theorem nxE{N:aV->Prop}{ρ ρ':aV}(e:ρ=ρ')(h:N ρ'):N ρ:=e▸h
def iS(lo hi st:Int):List Int:=[lo,hi,lo+st]
def rT:PSp:=λas R=>∃lo hi st:Int,as=[.va (.seq true [iT lo,iT hi,iT st])]/\R (.seq false ((iS lo hi st).map iT))
theorem C1_:bG ["run"] ["run"] (aL s1_):=fsc (by decide +kernel)
theorem g1_(h:Has K mg "telling_numbers" s1_)(B:Own mg)    : aE P w K mg base 1 "telling_numbers" ["run"] rT:=by
 have nd:=C1_.nd
 refine h.pgood C1_ (fun|_,_,_,_,_,_,[_],_=>rfl) (λf cdv A outer s H E F hr=>
   (aJ (aN (bA (bU (aB (aG (aH hr.units) (aA 0) aC) (aB (aG (aH hr.units) (aA 0) aC) (aB (aR bN (aG (aH hr.units) (aA 0) aC) (aG (aH hr.units) (aA 0) aC)) aD)))))))) (λas R q=>?_)
 obtain⟨lo,hi,st,rfl,q⟩:=q
 exact⟨rfl,_,rfl,_,rfl,_,rfl,_,rfl,by simp,q⟩
def zH7:Option Int->Tv
 |none=>nT
 |some i=>iT i
def rJ:PSp:=λas R=>∃lo hi st lo' hi' st':Int,as=[.va (.seq true [iT lo,iT hi,iT st]),.va (.seq true [iT lo',iT hi',iT st'])]/\gL lo' hi' st'/\R (zH7 ((iS lo hi st).find? λi=>!cP lo' hi' st' i))
theorem C2_:bG ["one","other","number"] ["one","other"] (aL s2_):=fsc (by decide +kernel)
theorem g2_(h:Has K mg "run_parted" s2_)(B:Own mg)(G1_:aE P w K mg base 1 "telling_numbers" ["run"] rT)(G0_:aE P w K mg base 1 "run_has" ["run","number"] sP)   : aE P w K mg base 2 "run_parted" ["one","other"] rJ:=by
 have nd:=C2_.nd
 refine h.pgood C2_ (fun|_,_,_,_,_,_,[_,_],_=>rfl) (λf cdv A outer s H E F hr=>
   (aI (fT (m:=3) PassesOwn.never rfl (bO (aK G1_ (hr.mono (by omega)) rfl (aB (aA 0) aD))) (bF 2 (by decide) nd rfl (.inl rfl))
    (aJ (aX (dG (cM (aK G0_ (hr.mono (by omega)) rfl (aB (aA 1) (aB (aA 2) aD)))))
     (aJ (aN (aA 2)))
     bB)))
   (aJ (aN gV)))) (λas R q=>?_)
 obtain⟨lo,hi,st,lo',hi',st',rfl,ok,q⟩:=q
 refine⟨rfl,lo,hi,st,rfl,?_⟩
 generalize iS lo hi st=l at q
 refine pF iT (l:=l) (λi ρ=>(∀j x,j<i->l[j]?=some x->cP lo' hi' st' x=true)/\∃s,ρ=[.va (.seq true [iT lo,iT hi,iT st]),.va (.seq true [iT lo',iT hi',iT st']),s]) ⟨λj p h=>absurd h (Nat.not_lt_zero _),.no,rfl⟩ ?_ ?_
 ·rintro i x _ N hx ⟨hj,s,rfl⟩ hN
  refine⟨lo',hi',st',x,rfl,ok,_,rfl,sif (λe=>?_) (λe=>?_)⟩
  ·have e:cP lo' hi' st' x=false:=by simpa using e
   have:l.find? (λi=>!cP lo' hi' st' i)=some x:=by
    rw[List.find?_eq_some_iff_getElem]
    obtain⟨hi,rfl⟩:=List.getElem?_eq_some_iff.mp hx
    exact⟨by rw[e];rfl,i,hi,rfl,λj hj'=>by
     have:=hj j l[j] hj' (List.getElem?_eq_getElem (by omega))
     simpa using this⟩
   rw[this]at q
   exact q
  ·have e:cP lo' hi' st' x=true:=by simpa using e
   refine hN _ ⟨λj p' hj' ep=>?_,_,rfl⟩
   by_cases z:j=i
   ·subst z;rw[hx]at ep;cases ep;exact e
   ·exact hj j p' (by omega) ep
 ·rintro _ ⟨hj,s,rfl⟩
  have:l.find? (λi=>!cP lo' hi' st' i)=none:=by
   rw[List.find?_eq_none]
   intro p hp
   obtain⟨j,hj',rfl⟩:=List.mem_iff_getElem.mp hp
   simpa using hj j _ hj' (List.getElem?_eq_getElem hj')
  rw[this]at q
  exact q
def uQ(lo hi st lo' hi' st':Int):Bool:=(iS lo hi st).all λi=>cP lo' hi' st' i
theorem zEu{α:Type}{l:List α}{p:α->Bool}:(l.find? λx=>!p x).isNone=l.all p:=by
 rw[Bool.eq_iff_iff,Option.isNone_iff_eq_none,List.find?_eq_none,List.all_eq_true]
 simp
def nR:PSp:=λas R=>∃lo hi st lo' hi' st':Int,as=[.va (.seq true [iT lo,iT hi,iT st]),.va (.seq true [iT lo',iT hi',iT st'])]/\gL lo' hi' st'/\R (bT (uQ lo hi st lo' hi' st'))
theorem C3_:bG ["one","other"] ["one","other"] (aL s3_):=fsc (by decide +kernel)
theorem g3_(h:Has K mg "run_within" s3_)(B:Own mg)(G2_:aE P w K mg base 2 "run_parted" ["one","other"] rJ)   : aE P w K mg base 3 "run_within" ["one","other"] nR:=by
 have nd:=C3_.nd
 refine h.pgood C3_ (fun|_,_,_,_,_,_,[_,_],_=>rfl) (λf cdv A outer s H E F hr=>
   (aJ (aN (cA (kU).op (aK G2_ (hr.mono (by omega)) rfl (aB (aA 0) (aB (aA 1) aD))) gV (aO _))))) (λas R q=>?_)
 obtain⟨lo,hi,st,lo',hi',st',rfl,ok,q⟩:=q
 unfold uQ at q
 rw[<-zEu]at q
 refine⟨rfl,lo,hi,st,lo',hi',st',rfl,ok,?_⟩
 cases h:(iS lo hi st).find? λi=>!cP lo' hi' st' i with
 |none=>rw[h]at q;exact q
 |some i=>rw[h]at q;exact q
theorem zBG:∀m∈MK,cs (Txt.slice ((getS SGN m).getD ⟨#[]⟩) none (some (6+1)))=(eB m).take 7/\atI (eB m) 0=some ((eB m).headD 0)/\((getS SGN m).getD ⟨#[]⟩).length<=100/\getS SGN m=some ((getS SGN m).getD ⟨#[]⟩):=by decide +kernel
theorem yR{α:Type}(f:α->Nat):∀r:List α,bP (r.map λm=>(⟨#[f m]⟩:Str))=r.map f
 |[]=>rfl
 |m::r=>by
  have ih:=yR f r
  show [f m]++bP (r.map λm=>(⟨#[f m]⟩:Str))=_
  rw[ih]
  rfl
def tH:PSp:=λas R=>∃W:Wd,as=[.va (cG W)]/\WdW W/\R (.seq false ((mG W).map sT))
theorem C10_:bG ["words","head","marks","signs","texts"] ["words"] (aL nI):=fsc (by decide +kernel)
theorem zIU(h:Has K mg "words_texts" nI)(B:Own mg)(GMOST_FEW:gZ K mg "MOST_FEW" (iT 6))(GSIGNS:jT K w.params mg "SIGNS" SGN)  : aE P w K mg base 1 "words_texts" ["words"] tH:=by
 have nd:=C10_.nd
 refine h.pgood C10_ (fun|_,_,_,_,_,_,[_],_=>rfl) (λf cdv A outer s H E F hr=>
   (aI (aX (aQ (aW hr.units) (aG (aH hr.units) (aA 0) aC) aT (aO _))
    (aJ (aN (bA (jC jF rfl B.list_ boot_list (aB (aG (aH hr.units) (aA 0) aC) aD)))))
    bB)
   (aI (aZ (i:=1) nd rfl (.inr rfl) (aG (aH hr.units) (aA 0) aC))
   (aI (aZ (i:=2) nd rfl (.inl rfl) (aG (aH hr.units) (aA 0) aC))
   (aI (aZ (i:=3) nd rfl (.inl rfl) (aR bN (dO dQ (mT GSIGNS rfl (aG (aH hr.units) (aA 2) aC)) dW (dL (aR bN (uK GMOST_FEW rfl) aC))) (mF PySem.F.slot_str_join PySem.F.type_str_join zAv aT (aB (bA (bX (sc:=aL nI) (XN:=["words","head","marks","signs","texts"]) (N:=["mark"]) (own:=1) (fr:=[]) rfl ⟨rfl,by decide +kernel,by decide +kernel,by decide +kernel,rfl,by decide +kernel,by decide,by decide +kernel⟩ (by decide) (bO (dO dQ (aA 2) (dL aC) dW)) (λ_ _ _ _ _=>(bF 0 (by decide) (show(["mark"]:List Str).Nodup by decide +kernel) rfl (by first|exact Or.inl rfl|exact Or.inr rfl))) (λ_ _ _ _ _=>cH) (λ_ _ _ _ _=>(aG (aH hr.units) (mT GSIGNS rfl (aA 0)) aC)))) aD))))
   (aI (zAc (i:=4) (sc:=aL nI) (XN:=["words","head","marks","signs","texts"]) (N:=["sign","words","head"]) (own:=1) (fr:=[0,1]) rfl nd rfl (.inl rfl) ⟨rfl,by decide +kernel,by decide +kernel,by decide +kernel,rfl,by decide +kernel,by decide,by decide +kernel⟩ (by decide) (bO (aA 3)) (λ_ _ _ _ _=>(bF 0 (by decide) (show(["sign","words","head"]:List Str).Nodup by decide +kernel) rfl (by first|exact Or.inl rfl|exact Or.inr rfl))) (λ_ _ _ _ _=>cH) (λ_ _ _ _ _=>(aR bN (aA 2) (aR dX (aA 0) (aG (aH hr.units) (aA 1) aC)))))
   (aI (aX (aQ iP (aG (aH hr.units) (aA 0) aC) (aG (aH hr.units) (aA 0) aC) (aO _))
    (aJ (gF (jD 4 (aR bN (aA 1) (aR dX (aG (aH hr.units) (aA 3) aC) (aG (aH hr.units) (aA 0) aC))))))
    bB)
   (aJ (aN (aA 4)))))))))) (λas R q=>?_)
 obtain⟨W,rfl,ok,q⟩:=q
 cases W with
 |few ss=>exact⟨rfl,_,rfl,_,rfl,eM (λ_=>⟨_,rfl,_,_,rfl,q⟩) (λh=>absurd rfl h)⟩
 |make hd lo hi ms=>
  obtain⟨⟨shd,hl⟩,lo0,lohi,hi1,hi2,sub,ne⟩:=ok
  obtain⟨S,_,s10⟩:=lR sub ne
  obtain⟨m0,r,rfl⟩:=List.exists_cons_of_ne_nil ne
  have hin:∀m∈m0::r,m∈MK:=λm h=>sub.mem h
  obtain⟨k1,k2,k3,k4⟩:=zBG m0 (hin m0 List.mem_cons_self)
  refine⟨rfl,_,rfl,_,rfl,eM (λh=>absurd h (by decide +kernel)) (λ_=>?_)⟩
  refine⟨_,rfl,_,rfl,_,at0,m0,_,rfl,k4,?_⟩
  have hr4:r.length<=3:=by have:=sub.length_le;simp[MK]at this;omega
  have ecut:fE ((m0::r).map sT) (some 1) none=r.map sT:=by
   unfold fE
   rw[HT.sIx_none,show(some (1:Int))=some ((1:Nat):Int) from rfl,HT.sIx_nat,List.map_cons,List.length_cons,Nat.min_eq_left (by omega),List.drop_one,List.tail_cons]
   exact List.take_of_length_le (by omega)
  refine⟨_,rfl,by omega,rfl,_,rfl,?_⟩
  show _/\eZ 1 [] (gN 0) zBD _ (fE ((m0::r).map sT) (some 1) none) _ _
  rw[ecut]
  have ecat:bP (r.map λm=>(⟨#[(eB m).headD 0]⟩:Str))=r.map λm=>(eB m).headD 0:=yR _ r
  refine⟨by rw[List.length_map];omega,dC sT (λm=>sT ⟨#[(eB m).headD 0]⟩) (λm hm R q=>?_) ⟨r.map λm=>⟨#[(eB m).headD 0]⟩,rfl,by rw[List.map_map];rfl,by rw[ecat,List.length_map];omega,?_⟩⟩
  ·obtain⟨_,j2,j3,j4⟩:=zBG m (hin m (List.mem_cons_of_mem _ hm))
   exact⟨m,_,rfl,j4,by omega,_,j2,q⟩
  have sl:(Txt.slice ((getS SGN m0).getD ⟨#[]⟩) none (some (6+1))).length<=7:=by rw[WordM.len,k1,List.length_take];omega
  have esg:cs (Txt.slice ((getS SGN m0).getD ⟨#[]⟩) none (some (6+1))++⟨(bP (r.map λm=>(⟨#[(eB m).headD 0]⟩:Str))).toArray⟩)=sgM (m0::r):=by
   rw[WordM.app,k1]
   show _++((bP (r.map λm=>(⟨#[(eB m).headD 0]⟩:Str))).toArray).toList=_
   rw[List.toList_toArray,ecat]
   rfl
  refine⟨?_,?_⟩
  ·show _+(Str.length ⟨(bP (r.map λm=>(⟨#[(eB m).headD 0]⟩:Str))).toArray⟩)<=100000
   rw[WordM.len (⟨(bP (r.map λm=>(⟨#[(eB m).headD 0]⟩:Str))).toArray⟩:Str)]
   show _+((bP (r.map λm=>(⟨#[(eB m).headD 0]⟩:Str))).toArray).toList.length<=_
   rw[List.toList_toArray,ecat,List.length_map]
   omega
  generalize (Txt.slice ((getS SGN m0).getD ⟨#[]⟩) none (some (6+1))++⟨(bP (r.map λm=>(⟨#[(eB m).headD 0]⟩:Str))).toArray⟩:Str)=G at esg
  let W:Tv:=cG (.make hd lo hi (m0::r))
  show PEnds.nx _ _
  refine nxE (ρ':=[.va W,.va (sT hd),.va (.seq true ((m0::r).map sT)),.va (sT G),.no]) rfl ?_
  have gl:G.cps.toList.length<=10:=by
   show(cs G).length<=10
   rw[esg];exact s10
  refine⟨by rw[List.length_map];omega,?_⟩
  refine dC (λc:Nat=>sT ⟨#[c]⟩) (λc=>sT (hd++bQ c hi)) (l:=G.cps.toList) (λc hc R q=>?_) ?_
  ·exact⟨_,rfl,⟨by show 1<=1000;decide,by omega,by omega⟩,by rw[show fX ⟨#[c]⟩ hi=bQ c hi from rfl,kN];omega,q⟩
  rw[show G.cps.toList=sgM (m0::r) from esg]
  have T0:(sgM (m0::r)).map (λc=>sT (hd++bQ c hi))=((sgM (m0::r)).map λc=>hd++bQ c hi).map sT:=by rw[List.map_map];rfl
  rw[T0]
  have g0:atI (cs G) 0=some ((sgM (m0::r)).headD 0):=by
   rw[esg]
   have:=jN S.many
   cases hq:sgM (m0::r) with
   |nil=>rw[hq]at this;cases this
   |cons x y=>exact bC (j:=0) rfl
  show PEnds.nx _ _
  refine nxE (ρ':=[.va W,.va (sT hd),.va (.seq true ((m0::r).map sT)),.va (sT G),.own (((sgM (m0::r)).map λc=>hd++bQ c hi).map sT)]) rfl ?_
  have q:R (.seq false (((((sgM (m0::r)).map λc=>hd++bQ c hi))++(if lo<hi then [hd++bQ ((sgM (m0::r)).headD 0) lo] else [])).map sT)):=q
  refine⟨_,rfl,_,rfl,_,rfl,cQ (λz=>?_) (λz=>?_)⟩
  ·rw[if_pos z,List.map_append]at q
   refine⟨⟨_,rfl⟩,by rw[WordM.len];exact Nat.le_trans gl (by decide),_,g0,_,rfl,⟨by show 1<=1000;decide,by omega,by omega⟩,by rw[show fX ⟨#[(sgM (m0::r)).headD 0]⟩ lo=bQ ((sgM (m0::r)).headD 0) lo from rfl,kN];omega,_,rfl,by rw[List.length_map,List.length_map];omega,q⟩
  ·rw[if_neg z,List.append_nil]at q
   exact q
def zH6:Option Str->Tv
 |none=>nT
 |some i=>sT i
def lU:PSp:=λas R=>∃W W2:Wd,as=[.va (cG W),.va (cG W2)]/\WdW W/\WdW W2/\R (zH6 (dY W W2))
theorem C11_:bG ["one","other","text"] ["one","other"] (aL vY):=fsc (by decide +kernel)
theorem zIT(h:Has K mg "words_parted" vY)(B:Own mg)(G10_:aE P w K mg base 1 "words_texts" ["words"] tH)(G6_:aE P w K mg base 3 "words_let" ["words","text"] fP)   : aE P w K mg base 4 "words_parted" ["one","other"] lU:=by
 have nd:=C11_.nd
 refine h.pgood C11_ (fun|_,_,_,_,_,_,[_,_],_=>rfl) (λf cdv A outer s H E F hr=>
   (aI (fT (m:=3) PassesOwn.never rfl (bO (aK G10_ (hr.mono (by omega)) rfl (aB (aA 0) aD))) (bF 2 (by decide) nd rfl (.inl rfl))
    (aJ (aX (dG (cM (aK G6_ (hr.mono (by omega)) rfl (aB (aA 1) (aB (aA 2) aD)))))
     (aJ (aN (aA 2)))
     bB)))
   (aJ (aN gV)))) (λas R q=>?_)
 obtain⟨W,W2,rfl,ok,ok2,q⟩:=q
 refine⟨rfl,W,rfl,ok,?_⟩
 have sh:=(rM ok).1
 unfold dY at q
 generalize mG W=l at q sh
 refine pF sT (l:=l) (λi ρ=>(∀j x,j<i->l[j]?=some x->bV W2 x=true)/\∃s,ρ=[.va (cG W),.va (cG W2),s]) ⟨λj p h=>absurd h (Nat.not_lt_zero _),.no,rfl⟩ ?_ ?_
 ·rintro i x _ N hx ⟨hj,s,rfl⟩ hN
  have hm:=sh x (List.mem_of_getElem? hx)
  refine⟨W2,x,rfl,ok2,hm.2.1,by omega,_,rfl,sif (λe=>?_) (λe=>?_)⟩
  ·have e:bV W2 x=false:=by simpa using e
   have:l.find? (λi=>!bV W2 i)=some x:=by
    rw[List.find?_eq_some_iff_getElem]
    obtain⟨hi,rfl⟩:=List.getElem?_eq_some_iff.mp hx
    exact⟨by rw[e];rfl,i,hi,rfl,λj hj'=>by
     have:=hj j l[j] hj' (List.getElem?_eq_getElem (by omega))
     simpa using this⟩
   rw[this]at q
   exact q
  ·have e:bV W2 x=true:=by simpa using e
   refine hN _ ⟨λj p' hj' ep=>?_,_,rfl⟩
   by_cases z:j=i
   ·subst z;rw[hx]at ep;cases ep;exact e
   ·exact hj j p' (by omega) ep
 ·rintro _ ⟨hj,s,rfl⟩
  have:l.find? (λi=>!bV W2 i)=none:=by
   rw[List.find?_eq_none]
   intro p hp
   obtain⟨j,hj',rfl⟩:=List.mem_iff_getElem.mp hp
   simpa using hj j _ hj' (List.getElem?_eq_getElem hj')
  rw[this]at q
  exact q
def oG:PSp:=λas R=>∃W W2:Wd,as=[.va (cG W),.va (cG W2)]/\WdW W/\WdW W2/\R (bT (dY W W2).isNone)
theorem C12_:bG ["one","other"] ["one","other"] (aL vX):=fsc (by decide +kernel)
theorem zIS(h:Has K mg "words_within" vX)(B:Own mg)(G11_:aE P w K mg base 4 "words_parted" ["one","other"] lU)   : aE P w K mg base 5 "words_within" ["one","other"] oG:=by
 have nd:=C12_.nd
 refine h.pgood C12_ (fun|_,_,_,_,_,_,[_,_],_=>rfl) (λf cdv A outer s H E F hr=>
   (aJ (aN (cA (kU).op (aK G11_ (hr.mono (by omega)) rfl (aB (aA 0) (aB (aA 1) aD))) gV (aO _))))) (λas R q=>?_)
 obtain⟨W,W2,rfl,ok,ok2,q⟩:=q
 refine⟨rfl,W,W2,rfl,ok,ok2,?_⟩
 cases h:dY W W2 with
 |none=>rw[h]at q;exact q
 |some i=>rw[h]at q;exact q
end
end My
namespace My
open PySem L2 PyProof.Rows WordM
section
variable{P:Program}{w:World}{K:W.Frag}{mg:Str->Option Value}{base:Heap}
theorem sN{a b:Str}{A B:Prop}(h:a≠b)(k:B):if (false != eqV (.str a) (.str b))=true then A else B:=eM (λz=>absurd z h) λ_=>k
theorem sY{a:Str}{A B:Prop}(k:A):if (false != eqV (.str a) (.str a))=true then A else B:=eM (λ_=>k) λz=>absurd rfl z
theorem sNn{a:Str}{A B:Prop}(k:B):if (true != eqV (.str a) (.str a))=true then A else B:=sif (λz=>absurd z (by simp[eqV])) λ_=>k
theorem fG(lo hi st:Int):aU (.numbers lo hi st)=.seq true [sT "numbers",iT lo,iT hi,iT st]:=by rw[aU]
theorem jB(bs:List Bool):aU (.truths bs)=.seq true [sT "truths",.seq true (bs.map bT)]:=by rw[aU]
theorem iC(w:Wd):aU (.texts w)=.seq true [sT "texts",cG w]:=by rw[aU]
theorem nP:aU .nothing=.seq true [sT "nothing"]:=by rw[aU]
end
section
variable{P:Program}{w:World}{K:W.Frag}{mg:Str->Option Value}{base:Heap}
variable{n:Nat}
theorem uP{c:Nat}{S:Str}{A B:Prop}(h1:c∈cs S->A)(h2:c∉cs S->B):if (false != inS ⟨#[c]⟩ S)=true then A else B:=by
 have:(false != inS ⟨#[c]⟩ S)=decide (c∈cs S):=by unfold inS;rw[StrLaws.found_one];simp
 rw[this]
 exact cQ h1 h2
theorem iO(xs:List Tv):(false != ((false==false)&&bZ xs []))=xs.isEmpty:=by
 cases xs with
 |nil=>simp[bZ]
 |cons x xs=>simp[bZ]
theorem zFA(l:List Nat)(ms:List Str):(true&&(true&&true&&l.all λc=>decide (cS c∈ms)))=(l.filterMap λc=>if cS c∈ms then none else some (sT ⟨#[c]⟩)).isEmpty:=by
 induction l with
 |nil=>rfl
 |cons c l ih=>
  rw[List.all_cons,List.filterMap_cons]
  by_cases z:cS c∈ms
  ·rw[if_pos z,decide_eq_true z];simpa using ih
  ·rw[if_neg z,decide_eq_false z];rfl
def pL:PSp:=λas R=>∃c:Nat,as=[.va (sT ⟨#[c]⟩)]/\R (sT (cS c))
theorem C41_:bG ["_law_sign"] ["_law_sign"] (aL vK):=fsc (by decide +kernel)
theorem zIu(h:Has K mg "_law_mark" vK)(B:Own mg)    : aE P w K mg base 1 "_law_mark" ["_law_sign"] pL:=by
 have nd:=C41_.nd
 refine h.pgood C41_ (fun|_,_,_,_,_,_,[_],_=>rfl) (λf cdv A outer s H E F hr=>
   (aI (aX (aQ (eY hr.units) (aA 0) aT rfl)
    (aJ (aN aT))
    bB)
   (aI (aX (aQ (eY hr.units) (aA 0) aT rfl)
    (aJ (aN aT))
    bB)
   (aI (aX (aQ (eY hr.units) (aA 0) aT rfl)
    (aJ (aN aT))
    bB)
   (aJ (aN aT)))))) (λas R q=>?_)
 obtain⟨c,rfl,q⟩:=q
 unfold cS at q
 refine⟨rfl,_,rfl,uP (λa=>?_) (λa=>⟨_,rfl,uP (λb=>?_) (λb=>⟨_,rfl,uP (λd=>?_) (λd=>?_)⟩)⟩)⟩
 ·rw[if_pos (show c∈cs lC from a)]at q;exact q
 ·rw[if_neg (show c∉cs lC from a),if_pos (show c∈cs mH from b)]at q;exact q
 ·rw[if_neg (show c∉cs lC from a),if_neg (show c∉cs mH from b),if_pos (show c∈cs pJ from d)]at q;exact q
 ·rw[if_neg (show c∉cs lC from a),if_neg (show c∉cs mH from b),if_neg (show c∉cs pJ from d)]at q;exact q
theorem C42_:bG ["_law_words","_law_text_here","_law_rest"] ["_law_words","_law_text_here"] (aL qL):=fsc (by decide +kernel)
theorem zIt(h:Has K mg "_law_words_let" qL)(B:Own mg)(G41_:aE P w K mg base 1 "_law_mark" ["_law_sign"] pL)   : aE P w K mg base 2 "_law_words_let" ["_law_words","_law_text_here"] fP:=by
 have nd:=C42_.nd
 refine h.pgood C42_ (fun|_,_,_,_,_,_,[_,_],_=>rfl) (λf cdv A outer s H E F hr=>
   (aI (aX (aQ (aW hr.units) (aG (aH hr.units) (aA 0) aC) aT (aO _))
    (aJ (aN (cA (eY hr.units).op (aA 1) (aG (aH hr.units) (aA 0) aC) rfl)))
    bB)
   (aI (aZ (i:=2) nd rfl (.inl rfl) (dO dQ (aA 1) (dL (bK cE rfl B.len PySem.boot_len (aB (aG (aH hr.units) (aA 0) aC) aD))) dW))
   (aI (aX (cO (eD (dG (cM (mF PySem.F.slot_str_startswith PySem.F.type_str_startswith yA (aA 1) (aB (aG (aH hr.units) (aA 0) aC) aD)))) (eI (dG (zB eE eE (aG (aH hr.units) (aA 0) aC) (bK cE rfl B.len PySem.boot_len (aB (aA 2) aD)) (aG (aH hr.units) (aA 0) aC))))))
    (aJ (aN cD))
    bB)
   (aJ (aN (cA (aW hr.units).op (bA (bX (sc:=aL qL) (XN:=["_law_words","_law_text_here","_law_rest"]) (N:=["_law_sign","_law_words"]) (own:=1) (fr:=[0]) rfl ⟨rfl,by decide +kernel,by decide +kernel,by decide +kernel,rfl,by decide +kernel,by decide,by decide +kernel⟩ (by decide) (bO (aA 2)) (λ_ _ _ _ _=>(bF 0 (by decide) (show(["_law_sign","_law_words"]:List Str).Nodup by decide +kernel) rfl (by first|exact Or.inl rfl|exact Or.inr rfl))) (λ_ _ _ _ _=>(cX (aQ (gC hr.units) (aK G41_ (hr.mono (by omega)) rfl (aB (aA 0) aD)) (aG (aH hr.units) (aA 1) aC) rfl))) (λ_ _ _ _ _=>(aA 0)))) (bA (bU aD)) (aO _)))))))) (λas R q=>?_)
 obtain⟨W,x,rfl,ok,sx,lx,q⟩:=q
 refine⟨rfl,?_⟩
 cases W with
 |few ss=>
  refine⟨_,rfl,_,rfl,eM (λ_=>⟨_,rfl,eP,?_⟩) (λh=>absurd rfl h)⟩
  rw[eG]
  have:(false != decide (x∈ss))=bV (.few ss) x:=by simp[bV]
  rw[this]
  exact q
 |make hd lo hi ms=>
  have hhd:hd.length<=60:=ok.1.2
  refine⟨_,rfl,_,rfl,eM (λh=>absurd h (by decide +kernel)) (λ_=>?_)⟩
  have q':∀b,bV (.make hd lo hi ms) x=b->R (bT b):=λb e=>e▸q
  refine⟨_,rfl,by omega,_,rfl,by omega,?_⟩
  have hrl:(cY x hd).length<=1000:=Nat.le_trans (WordM.slice_len ..) lx
  refine⟨rfl,_,rfl,_,_,rfl,rfl,_,rfl,?_⟩
  refine sif (λh1=>?_) (λh1=>?_)
  ·have h1:stW x hd=false:=by
    have h1:(!(stW x hd))=true:=h1
    simpa using h1
   refine bS (q' false ?_)
   show(stW x hd&&_)=false
   rw[h1];rfl
  ·have h1:stW x hd=true:=by
    have h1:(!(stW x hd))=false:=h1
    simpa using h1
   refine⟨_,rfl,by show(cY x hd).length<=100000;omega,_,rfl,cQ (λh2=>⟨_,rfl,_,rfl,sif (λh3=>?_) (λh3=>?_)⟩) (λh2=>⟨false,rfl,bS (q' _ ?_)⟩)⟩
   ·have h3:¬ ((cY x hd).length:Int)<=hi:=by
     have h3:(!decide (((cY x hd).length:Int)<=hi))=true:=h3
     simpa using h3
    refine q' _ ?_
    show(stW x hd&&_)=_
    rw[decide_eq_false h3];simp
   ·have h3:((cY x hd).length:Int)<=hi:=by
     have h3:(!decide (((cY x hd).length:Int)<=hi))=false:=h3
     simpa using h3
    have h2:lo<=((cY x hd).length:Int):=h2
    refine⟨by rw[List.length_map,<-WordM.len];exact Nat.le_trans hrl (by omega),?_⟩
    refine cL (λc=>sT ⟨#[c]⟩) (λc=>if cS c∈ms then none else some (sT ⟨#[c]⟩)) (λc hc R q=>⟨c,rfl,_,rfl,eP,?_⟩) ?_
    ·refine⟨_,rfl,sif (λz=>?_) (λz=>?_)⟩
     ·rw[eG]at z
      rw[if_neg (by simpa using z)]at q
      exact q
     ·rw[eG]at z
      rw[if_pos (by simpa using z)]at q
      exact q
    ·refine⟨by simp,.inr (.inl rfl),q' _ ?_⟩
     show(stW x hd&&_)=_
     rw[h1,decide_eq_true h2,decide_eq_true h3,iO]
     exact zFA (cs (cY x hd)) ms
   ·have h2:¬ lo<=((cY x hd).length:Int):=h2
    show(stW x hd&&_)=_
    rw[decide_eq_false h2];simp
end
section
variable{P:Program}{w:World}{K:W.Frag}{mg:Str->Option Value}{base:Heap}
def tl:Nat->Int->Int->Int->Int->Int->Int->Int->Int
 |0,_,_,_,_,many,_,_=>many
 |k+1,n,lo,hi,most,many,power,len=>
  if len<=hi then(if most<=many+power then most else tl k n lo hi most (if lo<=len then many+power else many) (power*n) (len+1)) else many
def pB:PSp:=λas R=>∃(S:Str) (lo hi most:Int),as=[.va (sT S),.va (iT lo),.va (iT hi),.va (iT most)]/\2<=S.length/\S.length<=1000/\most<10 ^ 90/\R (iT (tl 400 S.length lo hi most 0 1 0))
theorem C7_:bG ["signs","shortest","longest","most","many","power","length"] ["signs","shortest","longest","most"] (aL s7_):=fsc (by decide +kernel)
theorem g7_(h:Has K mg "tails_many" s7_)(B:Own mg)    : aE P w K mg base 1 "tails_many" ["signs","shortest","longest","most"] pB:=by
 have nd:=C7_.nd
 refine h.pgood C7_ (fun|_,_,_,_,_,_,[_,_,_,_],_=>rfl) (λf cdv A outer s H E F hr=>
   (aI (aZ (i:=4) nd rfl (.inl rfl) aC)
   (aI (aZ (i:=5) nd rfl (.inl rfl) aC)
   (aI (aZ (i:=6) nd rfl (.inl rfl) aC)
   (aI (sI PassesOwn.never (aQ eE (aA 6) (aA 2) (aO _))
    (aI (aX (aQ zBq (aR bN (aA 4) (aA 5)) (aA 3) (aO _))
     (aJ (aN (aA 3)))
     bB)
    (aI (aX (aQ zBq (aA 6) (aA 1) (aO _))
     (aJ (aZ (i:=4) nd rfl (.inl rfl) (aR bN (aA 4) (aA 5))))
     bB)
    (aI (aZ (i:=5) nd rfl (.inl rfl) (aR dX (aA 5) (bK cE rfl B.len PySem.boot_len (aB (aA 0) aD))))
    (aJ (aZ (i:=6) nd rfl (.inl rfl) (aR bN (aA 6) aC)))))))
   (aJ (aN (aA 4)))))))) (λas R q=>?_)
 obtain⟨S,lo,hi,most,rfl,s2,s1,hm,q⟩:=q
 refine⟨rfl,λM ρ=>∃many power len:Int,ρ=[.va (sT S),.va (iT lo),.va (iT hi),.va (iT most),.va (iT many),.va (iT power),.va (iT len)]/\0<=many/\(2:Int) ^ (400-M)<=power/\1<=M/\M<=400/\R (iT (tl M S.length lo hi most many power len)),⟨400,0,1,0,rfl,by decide,by decide,by decide,by decide,q⟩,?_⟩
 rintro M _ ⟨many,power,len,rfl,m0,hp,M1,M4,q⟩
 obtain⟨M,rfl⟩:∃M',M=M'+1:=⟨M-1,by omega⟩
 rw[tl]at q
 refine⟨_,rfl,cQ (λh1=>?_) (λh1=>?_)⟩
 ·rw[if_pos h1]at q
  refine⟨_,rfl,cQ (λh2=>?_) (λh2=>?_)⟩
  ·rw[if_pos h2]at q;exact q
  ·rw[if_neg h2]at q
   have pm:power<10 ^ 90:=by omega
   have hM:400-(M+1)<300:=by
    refine Nat.lt_of_not_le λz=>?_
    have a:(2:Int) ^ 300<=2 ^ (400-(M+1)):=by exact_mod_cast Nat.pow_le_pow_right (n:=2) (by decide) z
    have b:(10:Int) ^ 90<2 ^ 300:=by decide
    omega
   have p0:0<power:=Int.lt_of_lt_of_le (Int.pow_pos (by decide)) hp
   have hp2:(2:Int) ^ (400-M)<=power*(S.length:Nat):=by
    have e:400-M=(400-(M+1))+1:=by omega
    rw[e,Int.pow_succ]
    exact Int.mul_le_mul hp (by omega) (by decide) (by omega)
   refine⟨_,rfl,cQ (λh3=>?_) (λh3=>?_)⟩
   ·rw[if_pos h3]at q
    exact⟨by show S.length<=_;omega,.inr ⟨bE (by omega) (by omega),bE (by omega) (by omega)⟩,M,by omega,_,_,_,rfl,by omega,hp2,by omega,by omega,q⟩
   ·rw[if_neg h3]at q
    exact⟨by show S.length<=_;omega,.inr ⟨bE (by omega) (by omega),bE (by omega) (by omega)⟩,M,by omega,_,_,_,rfl,m0,hp2,by omega,by omega,q⟩
 ·rw[if_neg h1]at q
  exact q
def cR(ms:List Str):List Str:=ms.map λm=>(getS SGN m).getD ⟨#[]⟩
theorem zFp{m:Str}(h:m∈MK):getS SGN m=some ((getS SGN m).getD ⟨#[]⟩):=by
 simp only[MK,List.mem_cons,List.not_mem_nil,or_false]at h
 rcases h with rfl|rfl|rfl|rfl<;>rfl
theorem zEQ{m:Str}(h:m∈MK):10<=(cs ((getS SGN m).getD ⟨#[]⟩)).length/\(cs ((getS SGN m).getD ⟨#[]⟩)).length<=40:=by
 simp only[MK,List.mem_cons,List.not_mem_nil,or_false]at h
 rcases h with rfl|rfl|rfl|rfl<;>decide +kernel
theorem tD:∀{ms:List Str},(∀m∈ms,m∈MK)->10*ms.length<=(bP (cR ms)).length/\(bP (cR ms)).length<=40*ms.length
 |[],_=>⟨Nat.le_refl _,Nat.le_refl _⟩
 |m::ms,h=>by
  have ih:=tD λx hx=>h x (List.mem_cons_of_mem _ hx)
  have o:=zEQ (h m (List.mem_cons_self ..))
  have e:(bP (cR (m::ms))).length=(cs ((getS SGN m).getD ⟨#[]⟩)).length+(bP (cR ms)).length:=by
   show(bP (_::cR ms)).length=_
   simp[bP]
  rw[e,List.length_cons]
  omega
def oH:PSp:=λas R=>∃(t:Bool) (ms:List Str),as=[.va (.seq t (ms.map sT))]/\ms.length<=4/\(∀m∈ms,m∈MK)/\R (sT ⟨(bP (cR ms)).toArray⟩)
theorem C8_:bG ["marks"] ["marks"] (aL s8_):=fsc (by decide +kernel)
theorem g8_(h:Has K mg "signs_of" s8_)(B:Own mg)(GSIGNS:jT K w.params mg "SIGNS" SGN)  : aE P w K mg base 1 "signs_of" ["marks"] oH:=by
 have nd:=C8_.nd
 refine h.pgood C8_ (fun|_,_,_,_,_,_,[_],_=>rfl) (λf cdv A outer s H E F hr=>
   (aJ (aN (mF PySem.F.slot_str_join PySem.F.type_str_join zAv aT (aB (bA (bX (sc:=aL s8_) (XN:=["marks"]) (N:=["mark"]) (own:=1) (fr:=[]) rfl ⟨rfl,by decide +kernel,by decide +kernel,by decide +kernel,rfl,by decide +kernel,by decide,by decide +kernel⟩ (by decide) (bO (aA 0)) (λ_ _ _ _ _=>(bF 0 (by decide) (show(["mark"]:List Str).Nodup by decide +kernel) rfl (by first|exact Or.inl rfl|exact Or.inr rfl))) (λ_ _ _ _ _=>cH) (λ_ _ _ _ _=>(mT GSIGNS rfl (aA 0))))) aD))))) (λas R q=>?_)
 obtain⟨t,ms,rfl,l4,hm,q⟩:=q
 refine⟨rfl,rfl,by rw[List.length_map];omega,dC sT (λm=>sT ((getS SGN m).getD ⟨#[]⟩)) (λm hm' R q=>⟨m,_,rfl,zFp (hm m hm'),q⟩) ⟨cR ms,rfl,?_,?_,q⟩⟩
 ·unfold cR;rw[List.map_map];rfl
 ·have:=(tD hm).2;omega
def uV(lo hi:Int)(ms:List Str)(most:Int):Int:=tl 400 ((bP (cR ms)).length:Nat) lo hi most 0 1 0
def tI:PSp:=λas R=>∃(hd:Tv) (lo hi most:Int) (ms:List Str),as=[.va (.seq true [sT "make",hd,iT lo,iT hi,.seq true (ms.map sT)]),.va (iT most)]/\ms≠[]/\ms.length<=4/\(∀m∈ms,m∈MK)/\most<10 ^ 90/\R (iT (uV lo hi ms most))
theorem C9_:bG ["words","most"] ["words","most"] (aL s9_):=fsc (by decide +kernel)
theorem g9_(h:Has K mg "words_many" s9_)(B:Own mg)(G7_:aE P w K mg base 1 "tails_many" ["signs","shortest","longest","most"] pB)(G8_:aE P w K mg base 1 "signs_of" ["marks"] oH)   : aE P w K mg base 2 "words_many" ["words","most"] tI:=by
 have nd:=C9_.nd
 refine h.pgood C9_ (fun|_,_,_,_,_,_,[_,_],_=>rfl) (λf cdv A outer s H E F hr=>
   (aI (aX (aQ (aW hr.units) (aG (aH hr.units) (aA 0) aC) aT (aO _))
    (aJ (aN (bK (iL rfl) rfl B.min boot_min (aB (bK cE rfl B.len PySem.boot_len (aB (aG (aH hr.units) (aA 0) aC) aD)) (aB (aA 1) aD)))))
    bB)
   (aJ (aN (aK G7_ (hr.mono (by omega)) rfl (aB (aK G8_ (hr.mono (by omega)) rfl (aB (aG (aH hr.units) (aA 0) aC) aD)) (aB (aG (aH hr.units) (aA 0) aC) (aB (aG (aH hr.units) (aA 0) aC) (aB (aA 1) aD))))))))) (λas R q=>?_)
 obtain⟨hd,lo,hi,most,ms,rfl,n0,l4,hm,h9,q⟩:=q
 have sl:=tD hm
 have p:0<ms.length:=List.length_pos_iff.mpr n0
 refine⟨rfl,_,rfl,_,rfl,eM (λe=>absurd e (by decide +kernel)) λ_=>⟨_,rfl,true,ms,rfl,l4,hm,_,rfl,_,rfl,⟨(bP (cR ms)).toArray⟩,lo,hi,most,rfl,?_,?_,h9,q⟩⟩
 ·show 2<=(bP (cR ms)).length;omega
 ·show(bP (cR ms)).length<=_;omega
end
section
variable{P:Program}{w:World}{K:W.Frag}{mg:Str->Option Value}{base:Heap}
def cW(S:List Nat):Nat->Nat->List Nat
 |0,_=>[]
 |n+1,k=>cW S n (k / S.length)++[S.getD (k % S.length) 0]
theorem oC(S:List Nat):∀n k,(cW S n k).length=n
 |0,_=>rfl
 |n+1,k=>by rw[cW,List.length_append,oC S n];rfl
def sO:PSp:=λas R=>∃(S:Str) (n k:Nat),as=[.va (sT S),.va (iT (n:Nat)),.va (iT (k:Nat))]/\1<=S.length/\S.length<=1000/\n<=1000/\k<=1000/\R (sT ⟨(cW (cs S) n k).toArray⟩)
theorem wV(S:List Nat):∀(i n k:Nat),cW S (i+n) k=cW S i (k / S.length ^ n)++cW S n k
 |i,0,k=>by rw[Nat.add_zero,Nat.pow_zero,Nat.div_one];simp[cW]
 |i,n+1,k=>by rw[<-Nat.add_assoc,cW,wV S i n,cW,List.append_assoc,Nat.div_div_eq_div_mul,Nat.pow_succ,Nat.mul_comm]
theorem C13_:bG ["signs","length","place","tail","turn"] ["signs","length","place"] (aL vW):=fsc (by decide +kernel)
theorem zIR(h:Has K mg "tail_at" vW)(B:Own mg)    : aE P w K mg base 1 "tail_at" ["signs","length","place"] sO:=by
 have nd:=C13_.nd
 refine h.pgood C13_ (fun|_,_,_,_,_,_,[_,_,_],_=>rfl) (λf cdv A outer s H E F hr=>
   (aI (aZ (i:=3) nd rfl (.inl rfl) aT)
   (aI (fT (m:=5) PassesOwn.never rfl (gO rfl B.range (aB (aA 1) aD)) (bF 4 (by decide) nd rfl (.inl rfl))
    (aI (aZ (i:=3) nd rfl (.inl rfl) (aR bN (aG (aH hr.units) (aA 0) (aR iK (aA 2) (bK cE rfl B.len PySem.boot_len (aB (aA 0) aD)))) (aA 3)))
    (aJ (aZ (i:=2) nd rfl (.inl rfl) (aR jM (aA 2) (bK cE rfl B.len PySem.boot_len (aB (aA 0) aD)))))))
   (aJ (aN (aA 3)))))) (λas R q=>?_)
 obtain⟨S,n,k,rfl,s1,s2,n1,k1,q⟩:=q
 refine⟨rfl,(n:Int),rfl,by omega,by omega,?_⟩
 have sl:1<=(cs S).length:=by rw[<-WordM.len];exact s1
 refine iE (λi ρ=>∃s:Sl,ρ=[.va (sT S),.va (iT (n:Nat)),.va (iT (k / (cs S).length ^ i:Nat)),.va (sT ⟨(cW (cs S) i k).toArray⟩),s]) ⟨.no,by rw[Nat.pow_zero,Nat.div_one];rfl⟩ ?_ ?_
 ·rintro i T _ N hT ⟨s,rfl⟩ hN
  have hi:=(jL hT).1
  have hi:i<n:=by omega
  have hL:S.length=(cs S).length:=WordM.len S
  generalize hp:k / (cs S).length ^ i=pl at hN ⊢
  have hlt:pl % (cs S).length<(cs S).length:=Nat.mod_lt _ (by omega)
  have hc:atI S.cps.toList ((pl:Int) % (S.length:Nat))=some ((cs S).getD (pl % (cs S).length) 0):=by
   have:=bC (xs:=cs S) (j:=pl % (cs S).length) (v:=(cs S).getD (pl % (cs S).length) 0) (by rw[List.getD_eq_getElem?_getD,List.getElem?_eq_getElem hlt];rfl)
   rw[hL]
   exact_mod_cast this
  refine⟨by show S.length<=_;omega,(show(0:Int)<(S.length:Nat) by omega),by omega,_,hc,?_,?_⟩
  ·show 1+(cW (cs S) i k).toArray.size<=100000
   rw[List.size_toArray,oC];omega
  ·refine⟨by show S.length<=_;omega,⟨by omega,bE (by omega) (by omega)⟩,hN _ ⟨.va T,?_⟩⟩
   have e1:(⟨#[(cs S).getD (pl % (cs S).length) 0]⟩:Str)++⟨(cW (cs S) i k).toArray⟩=⟨(cW (cs S) (i+1) k).toArray⟩:=by
    refine kK ?_
    rw[WordM.app]
    show [_]++(cW (cs S) i k).toArray.toList=(cW (cs S) (i+1) k).toArray.toList
    rw[List.toList_toArray,List.toList_toArray,Nat.add_comm,wV,hp]
    rfl
   have e2:((pl:Int) / (S.length:Nat))=((k / (cs S).length ^ (i+1):Nat):Int):=by
    rw[hL,Nat.pow_succ,<-Nat.div_div_eq_div_mul,hp]
    push_cast;rfl
   show [Sl.va (sT S),.va (iT (n:Nat)),.va (iT ((pl:Int) / (S.length:Nat))),.va (sT ((⟨#[(cs S).getD (pl % (cs S).length) 0]⟩:Str)++⟨(cW (cs S) i k).toArray⟩)),.va T]=_
   rw[e1,e2]
 ·rintro _ ⟨s,rfl⟩
  rw[fR]
  exact q
theorem zA0{ms:List Str}(h1:ms.Sublist MK)(h2:ms≠[]):(bP (cR ms)).Nodup/\10<=(bP (cR ms)).length/\(bP (cR ms)).length<=100/\∀c∈bP (cR ms),c∈cs SIG:=by
 obtain⟨a,b,c,d,rfl⟩:=zAX h1
 revert h2
 cases a<;>cases b<;>cases c<;>cases d<;>intro h2<;>first|exact absurd rfl h2|decide +kernel
theorem uA{L m:Int}(n:Nat){lo hi:Int}(h1:1<=lo)(h2:lo<=hi)(hm:2<=m)(hL:m<=L):tl (n+2) L lo hi m 0 1 0=m:=by
 rw[tl,if_pos (by omega),if_neg (by omega),tl,if_pos (by omega),if_pos (by rw[if_neg (by omega)];omega)]
theorem zEL{L m:Int}(n:Nat)(hm:2<=m):tl (n+2) L 0 0 m 0 1 0=1:=by
 rw[tl,if_pos (by omega),if_neg (by omega),tl,if_neg (by omega),if_pos (by omega)];rfl
theorem zDv{lo hi:Int}{ms:List Str}(h1:ms.Sublist MK)(h2:ms≠[])(l0:0<=lo)(lh:lo<=hi)(hi1:1<=hi):uV lo hi ms 9=9:=by
 obtain⟨_,h10,_⟩:=zA0 h1 h2
 unfold uV
 generalize (bP (cR ms)).length=L at h10
 by_cases z:1<=lo
 ·exact uA 398 z lh (by decide) (by omega)
 ·rw[show lo=0 by omega,show 400=398+2 from rfl,tl,if_pos (by omega),if_neg (by omega),tl,if_pos (by omega),if_pos (by rw[if_pos (by omega)];omega)]
def pC:PSp:=λas R=>∃(h:Str) (a b:Int) (ms:List Str),as=[.va (cG (.make h a b ms)),.va (iT 9)]/\WdW (.make h a b ms)/\∀L:List Str,L.Nodup->L.length=9->(∀t∈L,t.length<=1000)->R (.seq false (L.map sT))
theorem C14_:bG ["words","many","signs","texts","length","here"] ["words","many"] (aL qT):=fsc (by decide +kernel)
theorem zIQ(h:Has K mg "words_some" qT)(B:Own mg)(G9_:aE P w K mg base 2 "words_many" ["words","most"] tI)(G8_:aE P w K mg base 1 "signs_of" ["marks"] oH)(G7_:aE P w K mg base 1 "tails_many" ["signs","shortest","longest","most"] pB)(G13_:aE P w K mg base 1 "tail_at" ["signs","length","place"] sO)   : aE P w K mg base 3 "words_some" ["words","many"] pC:=by
 have nd:=C14_.nd
 refine h.pgood C14_ (fun|_,_,_,_,_,_,[_,_],_=>rfl) (λf cdv A outer s H E F hr=>
   (aI (aX (aQ iP (aK G9_ (hr.mono (by omega)) rfl (aB (aA 0) (aB (aA 1) aD))) (aA 1) (aO _))
    (aJ zFC)
    bB)
   (aI (aX (aQ (aW hr.units) (aG (aH hr.units) (aA 0) aC) aT (aO _))
    (aJ (aN (bA (jC jF rfl B.list_ boot_list (aB (dO dQ (aG (aH hr.units) (aA 0) aC) dW (dL (aA 1))) aD)))))
    bB)
   (aI (aZ (i:=2) nd rfl (.inr rfl) (aK G8_ (hr.mono (by omega)) rfl (aB (aG (aH hr.units) (aA 0) aC) aD)))
   (aI (iI (i:=3) nd rfl (.inl rfl) (bU aD))
   (aI (aZ (i:=4) nd rfl (.inr rfl) (aG (aH hr.units) (aA 0) aC))
   (aI (sI PassesOwn.never (aQ iP (fS λF=>(bK cE rfl B.len PySem.boot_len (aB (aA 3) aD))) (aA 1) (aO _))
    (aI (aZ (i:=5) nd rfl (.inl rfl) (aK G7_ (hr.mono (by omega)) rfl (aB (aA 2) (aB (aA 4) (aB (aA 4) (aB (aR eC (aA 1) (fS λF=>(bK cE rfl B.len PySem.boot_len (aB (aA 3) aD)))) aD))))))
    (aI (gF (zC8 3 (bA (bX (sc:=aL qT) (XN:=["words","many","signs","texts","length","here"]) (N:=["place","words","signs","length"]) (own:=1) (fr:=[0,2,4]) rfl ⟨rfl,by decide +kernel,by decide +kernel,by decide +kernel,rfl,by decide +kernel,by decide,by decide +kernel⟩ (by decide) (gO rfl B.range (aB (aA 5) aD)) (λ_ _ _ _ _=>(bF 0 (by decide) (show(["place","words","signs","length"]:List Str).Nodup by decide +kernel) rfl (by first|exact Or.inl rfl|exact Or.inr rfl))) (λ_ _ _ _ _=>cH) (λ_ _ _ _ _=>(aR bN (aG (aH hr.units) (aA 1) aC) (aK G13_ (hr.mono (by omega)) rfl (aB (aA 2) (aB (aA 3) (aB (aA 0) aD))))))))))
    (aJ (aZ (i:=4) nd rfl (.inr rfl) (aR bN (aA 4) aC))))))
   (aJ (aN (aA 3)))))))))) (λas R q=>?_)
 obtain⟨h,a,b,ms,rfl,ok,q⟩:=q
 obtain⟨⟨hS,hl⟩,a0,ab,b1,b2,sub,ne⟩:=ok
 obtain⟨nd',l10,l100,sgc⟩:=zA0 sub ne
 have m4:ms.length<=4:=sub.length_le
 have mk:∀m∈ms,m∈MK:=λm hm=>sub.mem hm
 refine⟨rfl,sT h,a,b,9,ms,rfl,ne,m4,mk,by decide,?_⟩
 rw[zDv sub ne a0 ab b1]
 refine⟨_,rfl,cQ (λz=>absurd z (by decide)) (λ_=>?_)⟩
 refine⟨_,at0,_,rfl,sN (by decide +kernel) ?_⟩
 refine⟨_,bC (j:=4) rfl,true,ms,rfl,m4,mk,?_⟩
 have eS:cs (⟨(bP (cR ms)).toArray⟩:Str)=bP (cR ms):=by show(bP (cR ms)).toArray.toList=_;rw[List.toList_toArray]
 have lS:(⟨(bP (cR ms)).toArray⟩:Str).length=(bP (cR ms)).length:=by rw[WordM.len,eS]
 generalize (⟨(bP (cR ms)).toArray⟩:Str)=S at eS lS
 generalize bP (cR ms)=C at eS lS nd' l10 l100 sgc
 let txt (n k:Nat):Str:=h++⟨(cW (cs S) n k).toArray⟩
 have ct:∀n k,cs (txt n k)=cs h++cW C n k:=λn k=>by
  show cs (h++_)=_
  rw[WordM.app]
  show cs h++(cW (cs S) n k).toArray.toList=_
  rw[List.toList_toArray,eS]
 have lt:∀n k,(txt n k).length=h.length+n:=λn k=>by rw[WordM.len,ct,List.length_append,oC,<-WordM.len]
 have dst:∀n m:Nat,1<=n->m<=10->((List.range m).map (txt n)).Nodup:=λn m n1 m10=>by
  unfold List.Nodup
  rw[List.pairwise_map]
  refine(List.nodup_range (n:=m)).imp_of_mem λ{x y} hx hy ne e=>ne ?_
  have hx:=List.mem_range.mp hx
  have hy:=List.mem_range.mp hy
  have e:=congrArg cs e
  rw[ct,ct]at e
  have e:=List.append_cancel_left e
  obtain⟨j,rfl⟩:∃j,n=j+1:=⟨n-1,by omega⟩
  rw[cW,cW]at e
  have e:=List.append_inj_right' e rfl
  have e:=(List.cons.inj e).1
  rw[Nat.mod_eq_of_lt (by omega),Nat.mod_eq_of_lt (by omega)]at e
  rw[List.getD_eq_getElem?_getD,List.getD_eq_getElem?_getD,List.getElem?_eq_getElem (by omega),List.getElem?_eq_getElem (by omega)]at e
  rcases Nat.lt_trichotomy x y with z|z|z
  ·exact absurd e (List.pairwise_iff_getElem.mp nd' x y (by omega) (by omega) z)
  ·exact z
  ·exact absurd e.symm (List.pairwise_iff_getElem.mp nd' y x (by omega) (by omega) z)
 let W:Tv:=cG (.make h a b ms)
 let e1 (T0:List Str) (n:Int) (s5:Sl):aV:=[.va W,.va (iT 9),.va (sT S),.own (T0.map sT),.va (iT n),s5]
 let INV (M:Nat) (ρ:aV):Prop:=∃(T0:List Str) (n:Nat) (s5:Sl),ρ=e1 T0 n s5/\((M=3/\T0=[]/\(n:Int)=a)\/(M=2/\a=0/\T0=[txt 0 0]/\n=1)\/(M=1/\T0.Nodup/\T0.length=9/\∀t∈T0,t.length<=1000))
 obtain⟨an,rfl⟩:∃an:Nat,a=an:=⟨a.toNat,by omega⟩
 show PEnds.nx _ _
 refine nxE (ρ':=[.va W,.va (iT 9),.va (sT S),.no,.no,.no]) rfl ?_
 refine⟨by simp,_,bC (j:=2) rfl,INV,⟨3,[],an,.no,rfl,.inl ⟨rfl,rfl,rfl⟩⟩,?_⟩
 rintro M _ ⟨T0,n,s5,rfl,hI⟩
 by_cases hd:T0.length=9
 ·have hI:T0.Nodup/\∀t∈T0,t.length<=1000:=by
   rcases hI with⟨_,rfl,_⟩|⟨_,_,rfl,_⟩|⟨_,a,_,c⟩
   ·simp at hd
   ·simp at hd
   ·exact⟨a,c⟩
  refine⟨_,rfl,_,rfl,cQ (λz=>absurd z ?_) (λ_=>q T0 hI.1 hd hI.2)⟩
  rw[List.length_map,hd];decide
 obtain⟨m,hm,m9,hlen,l9,n110,hnext⟩:∃m:Nat,tl 400 (S.length:Nat) n n (9-(T0.length:Int)) 0 1 0=m/\m<=9/\T0.length+m<=9/\T0.length<9/\n<=110/\∀s,∃M',M'<M/\INV M' (e1 (T0++(List.range m).map (txt n)) (n+1:Nat) s):=by
  rcases hI with⟨rfl,rfl,hn⟩|⟨rfl,a0',rfl,rfl⟩|⟨_,_,c,_⟩
  ·by_cases z:an=0
   ·have hn:n=0:=by omega
    subst hn
    refine⟨1,zEL 398 (by decide),by decide,by decide,by decide,by omega,λs=>⟨2,by decide,[txt 0 0],1,s,rfl,.inr (.inl ⟨rfl,by omega,rfl,rfl⟩)⟩⟩
   ·refine⟨9,uA 398 (by omega) (Int.le_refl _) (by decide) (by rw[lS];show(9:Int)<=_;omega),by decide,by decide,by decide,by omega,λs=>⟨1,by decide,_,_,s,rfl,.inr (.inr ⟨rfl,dst n 9 (by omega) (by decide),by simp,λt ht=>?_⟩)⟩⟩
    obtain⟨k,_,rfl⟩:=List.mem_map.mp (show t∈(List.range 9).map (txt n) from ht)
    rw[lt];omega
  ·refine⟨8,uA 398 (by decide) (by decide) (show(2:Int)<=9-((1:Nat):Int) by decide) (by rw[lS];show(9:Int)-((1:Nat):Int)<=_;omega),by decide,show 1+8<=9 by decide,show 1<9 by decide,by decide,λs=>⟨1,by decide,_,_,s,rfl,.inr (.inr ⟨rfl,?_,by simp,λt ht=>?_⟩)⟩⟩
   ·rw[List.singleton_append,List.nodup_cons]
    refine⟨λhc=>?_,dst 1 8 (by decide) (by decide)⟩
    obtain⟨k,_,e⟩:=List.mem_map.mp hc
    have e:=congrArg Str.length e
    rw[lt,lt]at e
    omega
   ·rcases List.mem_append.mp ht with ht|ht
    ·rw[List.mem_singleton]at ht;subst ht;rw[lt];omega
    ·obtain⟨k,_,rfl⟩:=List.mem_map.mp ht
     rw[lt];omega
  ·exact absurd c hd
 refine⟨_,rfl,_,rfl,cQ (λ_=>?_) (λz=>absurd (show((T0.map sT).length:Int)<9 by rw[List.length_map];omega) z)⟩
 refine⟨_,rfl,S,n,n,_,rfl,by omega,by omega,by rw[List.length_map];omega,?_⟩
 rw[List.length_map,hm]
 show PEnds.nx _ _
 refine nxE (ρ':=e1 T0 n (.va (iT m))) rfl ?_
 refine⟨⟨_,rfl⟩,(m:Int),rfl,by omega,by omega,by rw[fR];omega,?_⟩
 refine dC (λk:Nat=>iT (0+(k:Int))) (λk=>sT (txt n k)) (l:=List.range (m:Int).toNat) (λk hk R q=>?_) ?_
 ·have hk:=List.mem_range.mp hk
  rw[show(0:Int)+(k:Int)=((k:Nat):Int) by omega]
  refine⟨_,bC (j:=1) rfl,S,n,k,rfl,by omega,by omega,by omega,by omega,?_,q⟩
  show h.length+(cW (cs S) n k).toArray.size<=100000
  rw[List.size_toArray,oC];omega
 rw[show(m:Int).toNat=m by omega]
 refine⟨_,_,rfl,rfl,by simp;omega,?_⟩
 obtain⟨M',h1,h2⟩:=hnext (.va (iT m))
 refine⟨M',h1,nxE (N:=INV M') (ρ':=e1 (T0++(List.range m).map (txt n)) (n+1:Nat) (.va (iT m))) ?_ h2⟩
 show [Sl.va W,.va (iT 9),.va (sT S),.own (T0.map sT++(List.range m).map λk=>sT (txt n k)),.va (iT ((n:Int)+1)),.va (iT m)]=[Sl.va W,.va (iT 9),.va (sT S),.own ((T0++(List.range m).map (txt n)).map sT),.va (iT ((n+1:Nat):Int)),.va (iT m)]
 rw[List.map_append,List.map_map]
 rfl
end
end My
namespace My
open PySem L2 PyProof.Rows WordM
section
variable{P:Program}{w:World}{K:W.Frag}{mg:Str->Option Value}{base:Heap}
variable{n:Nat}
def iM:PSp:=λ_ _=>False
abbrev Fd:=Str×Bool×List Pt
def PW:Nat->Pt->Prop
 |0,_=>False
 |_+1,.nothing=>True
 |_+1,.truths bs=>bs=[false]\/bs=[true]\/bs=[false,true]
 |_+1,.numbers lo hi st=>gL lo hi st
 |_+1,.texts w=>WdW w
 |n+1,.lists _ _ f=>f.length<=100/\∀p∈f,PW n p
 |n+1,.record _ _ fs=>fs.length<=8/\(fs.map (·.1)).Nodup/\∀x∈fs,(Sg x.1/\x.1.length<=200)/\x.2.2.length<=100/\∀p∈x.2.2,PW n p
 |n+1,.table _ _ w f=>WdW w/\pO w=true/\f.length<=100/\∀p∈f,PW n p
def nmF(fs:List Fd):List Str:=fs.map (·.1)
def dD(fs:List Fd):List Str:=(fs.filter λx=>x.2.1).map (·.1)
def bhF(fs:List Fd)(n:Str):List Pt:=((fs.find? λx=>decide (x.1=n)).map (·.2.2)).getD []
def iR:Pt->Bool
 |.table ..=>true
 |_=>false
def bdB(a b a' b':Int):Bool:=decide (a'<=a)&&decide (b<=b')
def shP:Pt->Pt->Bool
 |.nothing,.nothing=>true
 |.truths bs,.truths cs=>bs.all λb=>decide (b∈cs)
 |.numbers lo hi st,.numbers lo' hi' st'=>uQ lo hi st lo' hi' st'
 |.texts w,.texts w'=>(dY w w').isNone
 |.lists a b _,.lists a' b' _=>bdB a b a' b'
 |.record a b fs,.record a' b' gs=>bdB a b a' b'&&(((nmF fs).all λn=>decide (n∈nmF gs))&&(dD gs).all λn=>decide (n∈dD fs))
 |.record a b fs,.table a' b' w _=>bdB a b a' b'&&(nmF fs).all (bV w)
 |.table a b w _,.table a' b' w' _=>bdB a b a' b'&&(dY w w').isNone
 |_,_=>false
def fdT(n:Str):Tv:=.seq true [sT "field",sT n]
def fK:Pt->Pt->List (Tv×List Pt×List Pt)
 |.lists _ _ f,.lists _ _ g=>[(.seq true [sT "items"],f,g)]
 |.table _ _ _ f,.table _ _ _ g=>[(.seq true [sT "values"],f,g)]
 |.record _ _ fs,.record _ _ gs=>((nmF fs).filter λn=>decide (n∈nmF gs)).map λn=>(fdT n,bhF fs n,bhF gs n)
 |.record _ _ fs,.table _ _ _ g=>(nmF fs).map λn=>(fdT n,bhF fs n,g)
 |.table _ _ _ f,.record _ _ gs=>(nmF gs).map λn=>(fdT n,f,bhF gs n)
 |_,_=>[]
def iZ(x:Tv×List Pt×List Pt):Tv:=.seq true [x.1,cK x.2.1,cK x.2.2]
def wiF:Nat->List Pt->List Pt->Bool
 |0,f,_=>f.all λ_=>false
 |n+1,f,g=>f.all λp=>match g.find? λq=>decide (aY q=aY p) with
  |none=>false
  |some q=>shP p q&&(fK p q).all λx=>wiF n x.2.1 x.2.2
def wiP(n:Nat)(p q:Pt):Bool:=shP p q&&(fK p q).all λx=>wiF n x.2.1 x.2.2
def wiO(n:Nat)(p:Pt):Option Pt->Bool
 |none=>false
 |some q=>wiP n p q
theorem sG(n:Nat)(f g:List Pt):wiF (n+1) f g=f.all λp=>wiO n p (g.find? λq=>decide (aY q=aY p)):=by
 rw[wiF]
 congr 1
theorem iH{α:Type}{p:α->Bool}{e:α->Tv}:∀l:List α,(l.filterMap λx=>if p x=true then some (e x) else none)=(l.filter p).map e
 |[]=>rfl
 |x::l=>by
  rw[List.filterMap_cons,List.filter_cons,iH l]
  cases p x<;>simp
theorem pP{α:Type}{p:α->Bool}{e:α->Tv}(l:List α):(l.filterMap λx=>if p x=true then none else some (e x))=(l.filter λx=>!p x).map e:=by
 rw[<-iH]
 congr 1
 funext x
 cases p x<;>rfl
def lY:PSp:=λas R=>∃(a b:Int) (fs:List Fd),as=[.va (aU (.record a b fs))]/\fs.length<=8/\R (.seq false ((nmF fs).map sT))
theorem C18_:bG ["record"] ["record"] (aL qS):=fsc (by decide +kernel)
theorem zIM(h:Has K mg "names_of" qS)(B:Own mg)    : aE P w K mg base 1 "names_of" ["record"] lY:=by
 have nd:=C18_.nd
 refine h.pgood C18_ (fun|_,_,_,_,_,_,[_],_=>rfl) (λf cdv A outer s H E F hr=>
   (aJ (aN (bA (bX (sc:=aL qS) (XN:=["record"]) (N:=["field"]) (own:=1) (fr:=[]) rfl ⟨rfl,by decide +kernel,by decide +kernel,by decide +kernel,rfl,by decide +kernel,by decide,by decide +kernel⟩ (by decide) (bO (aG (aH hr.units) (aA 0) aC)) (λ_ _ _ _ _=>(bF 0 (by decide) (show(["field"]:List Str).Nodup by decide +kernel) rfl (by first|exact Or.inl rfl|exact Or.inr rfl))) (λ_ _ _ _ _=>cH) (λ_ _ _ _ _=>(aG (aH hr.units) (aA 0) aC))))))) (λas R q=>?_)
 obtain⟨a,b,fs,rfl,fl,q⟩:=q
 rw[bR]
 refine⟨rfl,_,bC (j:=3) rfl,by rw[List.length_map];omega,dC bH (λx=>sT x.1) (λx hx R q=>⟨_,at0,q⟩) ?_⟩
 rw[show fs.map (λx=>sT x.1)=(nmF fs).map sT by unfold nmF;rw[List.map_map];rfl]
 exact q
def dJ:Pt->List Str
 |.record _ _ fs=>dD fs
 |_=>[]
def zAp(n:Nat):PSp:=λas R=>∃p:Pt,as=[.va (aU p)]/\PW (n+1) p/\aY p=5/\R (.seq false ((dJ p).map sT))
theorem C17_:bG ["part"] ["part"] (aL nH):=fsc (by decide +kernel)
theorem zIN(h:Has K mg "musts_of" nH)(B:Own mg)    : aE P w K mg base 1 "musts_of" ["part"] (zAp n):=by
 have nd:=C17_.nd
 refine h.pgood C17_ (fun|_,_,_,_,_,_,[_],_=>rfl) (λf cdv A outer s H E F hr=>
   (aJ (aN (sJ (aQ (aW hr.units) (aG (aH hr.units) (aA 0) aC) aT (aO _)) (bA (bX (sc:=aL nH) (XN:=["part"]) (N:=["field"]) (own:=1) (fr:=[]) rfl ⟨rfl,by decide +kernel,by decide +kernel,by decide +kernel,rfl,by decide +kernel,by decide,by decide +kernel⟩ (by decide) (bO (aG (aH hr.units) (aA 0) aC)) (λ_ _ _ _ _=>(bF 0 (by decide) (show(["field"]:List Str).Nodup by decide +kernel) rfl (by first|exact Or.inl rfl|exact Or.inr rfl))) (λ_ _ _ _ _=>(cX (cM (aG (aH hr.units) (aA 0) aC)))) (λ_ _ _ _ _=>(aG (aH hr.units) (aA 0) aC)))) (bA (bU aD)))))) (λas R q=>?_)
 obtain⟨p,rfl,hp,k,q⟩:=q
 cases p<;>first|(simp[aY]at k;done)|skip
 ·rename_i a b fs
  have fl:fs.length<=8:=hp.1
  rw[bR]
  refine⟨rfl,_,at0,_,rfl,sY ⟨_,bC (j:=3) rfl,by rw[List.length_map];omega,cL bH (λx=>if x.2.1=true then some (sT x.1) else none) (λx hx R q=>⟨_,bC (j:=1) rfl,_,rfl,sif (λz=>⟨_,at0,?_⟩) (λz=>?_)⟩) ?_⟩⟩
  ·rw[if_pos z]at q;exact q
  ·rw[if_neg (by rw[z];exact Bool.false_ne_true)]at q;exact q
  ·have e:(fs.filterMap λx=>if x.2.1=true then some (sT x.1) else none)=(dD fs).map sT:=by
    unfold dD
    rw[iH,List.map_map]
    rfl
   rw[e]
   exact q
 ·rename_i a b w f
  rw[cV]
  exact⟨rfl,_,at0,_,rfl,sN (by decide +kernel) ⟨by simp,q⟩⟩
def iU:Pt->Pt->List Str
 |.table _ _ w _,.table _ _ w' _=>match dY w w' with
  |none=>[]
  |some t=>[t]
 |.record _ _ fs,.table _ _ w _=>(nmF fs).filter λn=>!bV w n
 |.record _ _ fs,.record _ _ gs=>(nmF fs).filter λn=>!decide (n∈nmF gs)
 |_,_=>[]
def xX(n:Nat):PSp:=λas R=>∃p q:Pt,as=[.va (aU p),.va (aU q)]/\PW (n+1) p/\PW (n+1) q/\aY p=5/\aY q=5/\∀L:List Str,L.length<=10->((iR p=true->iR q=false->L≠[])/\((iR p=false\/iR q=true)->L=iU p q))->R (.seq false (L.map sT))
theorem C19_:bG ["one","other","name","names"] ["one","other"] (aL lE):=fsc (by decide +kernel)
theorem zIL(h:Has K mg "strange_names" lE)(B:Own mg)(G11_:aE P w K mg base 4 "words_parted" ["one","other"] lU)(G18_:aE P w K mg base 1 "names_of" ["record"] lY)(G6_:aE P w K mg base 3 "words_let" ["words","text"] fP)(G14_:aE P w K mg base 3 "words_some" ["words","many"] pC)(GMOST_FIELDS:gZ K mg "MOST_FIELDS" (iT 8))  : aE P w K mg base 5 "strange_names" ["one","other"] (xX n):=by
 have nd:=C19_.nd
 refine h.pgood C19_ (fun|_,_,_,_,_,_,[_,_],_=>rfl) (λf cdv A outer s H E F hr=>
   (aI (aX (cO (eR (aQ (aW hr.units) (aG (aH hr.units) (aA 0) aC) aT (aO _)) (fH (aQ (aW hr.units) (aG (aH hr.units) (aA 1) aC) aT (aO _)))))
    (aI (aZ (i:=2) nd rfl (.inl rfl) (aK G11_ (hr.mono (by omega)) rfl (aB (aG (aH hr.units) (aA 0) aC) (aB (aG (aH hr.units) (aA 1) aC) aD))))
    (aJ (aN (sJ (aQ kU (aA 2) gV (aO _)) (bA (bU aD)) (bA (bU (aB (aA 2) aD)))))))
    bB)
   (aI (aX (aQ (aW hr.units) (aG (aH hr.units) (aA 1) aC) aT (aO _))
    (aJ (aN (bA (bX (sc:=aL lE) (XN:=["one","other","name","names"]) (N:=["name","other"]) (own:=1) (fr:=[1]) rfl ⟨rfl,by decide +kernel,by decide +kernel,by decide +kernel,rfl,by decide +kernel,by decide,by decide +kernel⟩ (by decide) (bO (aK G18_ (hr.mono (by omega)) rfl (aB (aA 0) aD))) (λ_ _ _ _ _=>(bF 0 (by decide) (show(["name","other"]:List Str).Nodup by decide +kernel) rfl (by first|exact Or.inl rfl|exact Or.inr rfl))) (λ_ _ _ _ _=>(cX (dG (cM (aK G6_ (hr.mono (by omega)) rfl (aB (aG (aH hr.units) (aA 1) aC) (aB (aA 0) aD))))))) (λ_ _ _ _ _=>(aA 0))))))
    bB)
   (aI (aZ (i:=3) nd rfl (.inl rfl) (sJ (aQ (aW hr.units) (aG (aH hr.units) (aA 0) aC) aT (aO _)) (aK G14_ (hr.mono (by omega)) rfl (aB (aG (aH hr.units) (aA 0) aC) (aB (aR bN (uK GMOST_FIELDS rfl) aC) aD))) (aK G18_ (hr.mono (by omega)) rfl (aB (aA 0) aD))))
   (aJ (aN (bA (bX (sc:=aL lE) (XN:=["one","other","name","names"]) (N:=["name","other"]) (own:=1) (fr:=[1]) rfl ⟨rfl,by decide +kernel,by decide +kernel,by decide +kernel,rfl,by decide +kernel,by decide,by decide +kernel⟩ (by decide) (bO (aA 3)) (λ_ _ _ _ _=>(bF 0 (by decide) (show(["name","other"]:List Str).Nodup by decide +kernel) rfl (by first|exact Or.inl rfl|exact Or.inr rfl))) (λ_ _ _ _ _=>(cX (aQ (gC hr.units) (aA 0) (aK G18_ (hr.mono (by omega)) rfl (aB (aA 1) aD)) rfl))) (λ_ _ _ _ _=>(aA 0)))))))))) (λas R q=>?_)
 obtain⟨p,q',rfl,hp,hq,kp,kq,q⟩:=q
 cases p<;>first|(simp[aY]at kp;done)|skip
 all_goals (cases q'<;>first|(simp[aY]at kq;done)|skip)
 ·rename_i a b fs a' b' gs
  rw[bR,bR]
  refine⟨rfl,_,at0,_,rfl,sN (by decide +kernel) (bJ ?_)⟩
  have fl:(nmF fs).length<=8:=by unfold nmF;rw[List.length_map];exact hp.1
  refine⟨_,at0,_,rfl,sN (by decide +kernel) ⟨_,at0,_,rfl,sN (by decide +kernel) ⟨a,b,fs,by rw[bR],hp.1,?_⟩⟩⟩
  refine⟨by rw[List.length_map];omega,cL sT (λn=>if decide (n∈nmF gs)=true then none else some (sT n)) (λx hx R q=>⟨a',b',gs,by rw[bR],hq.1,eP,_,rfl,?_⟩) ?_⟩
  ·rw[eG]
   cases z:decide (x∈nmF gs) with
   |true=>rw[if_pos z]at q;exact bJ q
   |false=>rw[if_neg (by rw[z];exact Bool.false_ne_true)]at q;exact bS q
  ·rw[pP]
   exact q ((nmF fs).filter λn=>!decide (n∈nmF gs)) (Nat.le_trans (List.length_filter_le _ _) (by omega)) ⟨λz=>(by cases z),λ_=>rfl⟩
 ·rename_i a b fs a' b' w g
  rw[bR,cV]
  have fl:(nmF fs).length<=8:=by unfold nmF;rw[List.length_map];exact hp.1
  refine⟨rfl,_,at0,_,rfl,sN (by decide +kernel) (bJ ?_)⟩
  refine⟨_,at0,_,rfl,sY ⟨a,b,fs,by rw[bR],hp.1,by rw[List.length_map];omega,cL sT (λn=>if bV w n=true then none else some (sT n)) (λx hx R q=>?_) ?_⟩⟩
  ·obtain⟨y,hy,rfl⟩:=List.mem_map.mp hx
   refine⟨_,bC (j:=3) rfl,w,y.1,rfl,hq.1,(hp.2.2 y hy).1.1,Nat.le_trans (hp.2.2 y hy).1.2 (by decide),_,rfl,?_⟩
   cases z:bV w y.1 with
   |true=>rw[if_pos z]at q;exact bJ q
   |false=>rw[if_neg (by rw[z];exact Bool.false_ne_true)]at q;exact bS q
  ·rw[pP]
   exact q ((nmF fs).filter λn=>!bV w n) (Nat.le_trans (List.length_filter_le _ _) (by omega)) ⟨λz=>(by cases z),λ_=>rfl⟩
 ·rename_i a b w f a' b' gs
  rw[bR,cV]
  refine⟨rfl,_,at0,_,rfl,sY ⟨_,at0,_,rfl,sN (by decide +kernel) ?_⟩⟩
  cases w with
  |few ts=>exact absurd hp.2.1 (by simp[pO])
  |make hd lo hi ms=>
  have gl:(nmF gs).length<=8:=by unfold nmF;rw[List.length_map];exact hq.1
  refine⟨_,at0,_,rfl,sN (by decide +kernel) ⟨_,at0,_,rfl,sY ⟨_,bC (j:=3) rfl,hd,lo,hi,ms,rfl,hp.1,λL nL l9 tL=>?_⟩⟩⟩
  refine⟨by rw[List.length_map];omega,cL sT (λn=>if decide (n∈nmF gs)=true then none else some (sT n)) (λx hx R q=>⟨a',b',gs,by rw[bR],hq.1,eP,_,rfl,?_⟩) ?_⟩
  ·rw[eG]
   cases z:decide (x∈nmF gs) with
   |true=>rw[if_pos z]at q;exact bJ q
   |false=>rw[if_neg (by rw[z];exact Bool.false_ne_true)]at q;exact bS q
  ·rw[pP]
   refine q (L.filter λn=>!decide (n∈nmF gs)) (Nat.le_trans (List.length_filter_le _ _) (by omega)) ⟨λ_ _ e=>?_,λz=>?_⟩
   ·have:∀x∈L,x∈nmF gs:=λx hx=>by
     have:=List.filter_eq_nil_iff.mp e x hx
     simpa using this
    have:=ShowM.nodup_le nL this
    omega
   ·rcases z with z|z<;>cases z
 ·rename_i a b w f a' b' w' g
  rw[cV,cV]
  refine⟨rfl,_,at0,_,rfl,sY ⟨_,at0,_,rfl,sY ?_⟩⟩
  refine⟨_,bC (j:=3) rfl,_,bC (j:=3) rfl,w,w',rfl,hp.1,hq.1,?_⟩
  cases e:dY w w' with
  |none=>exact⟨_,rfl,bS ⟨by simp,q [] (by simp) ⟨λ_ z=>(by cases z),λ_=>by show []=(match dY w w' with|none=>[]|some t=>[t]);rw[e]⟩⟩⟩
  |some t=>exact⟨_,rfl,bJ ⟨by simp,q [t] (by simp) ⟨λ_ z=>(by cases z),λ_=>by show [t]=(match dY w w' with|none=>[]|some t=>[t]);rw[e]⟩⟩⟩
def xY(n:Nat):PSp:=λas R=>∃p q:Pt,as=[.va (aU p),.va (aU q)]/\PW (n+1) p/\PW (n+1) q/\aY p=5/\aY q=5/\R (.seq false (((dJ q).filter λn=>!decide (n∈dJ p)).map sT))
theorem zS{n:Nat}{p:Pt}(h:PW (n+1) p):(dJ p).length<=8:=by
 cases p<;>first|exact Nat.zero_le _|skip
 rename_i a b fs
 show(dD fs).length<=8
 unfold dD
 rw[List.length_map]
 exact Nat.le_trans (List.length_filter_le _ _) h.1
theorem C20_:bG ["one","other"] ["one","other"] (aL nG):=fsc (by decide +kernel)
theorem zIK(h:Has K mg "lacking_names" nG)(B:Own mg)(G17_:aE P w K mg base 1 "musts_of" ["part"] (zAp n))   : aE P w K mg base 2 "lacking_names" ["one","other"] (xY n):=by
 have nd:=C20_.nd
 refine h.pgood C20_ (fun|_,_,_,_,_,_,[_,_],_=>rfl) (λf cdv A outer s H E F hr=>
   (aJ (aN (bA (bX (sc:=aL nG) (XN:=["one","other"]) (N:=["name","one"]) (own:=1) (fr:=[0]) rfl ⟨rfl,by decide +kernel,by decide +kernel,by decide +kernel,rfl,by decide +kernel,by decide,by decide +kernel⟩ (by decide) (bO (aK G17_ (hr.mono (by omega)) rfl (aB (aA 1) aD))) (λ_ _ _ _ _=>(bF 0 (by decide) (show(["name","one"]:List Str).Nodup by decide +kernel) rfl (by first|exact Or.inl rfl|exact Or.inr rfl))) (λ_ _ _ _ _=>(cX (aQ (gC hr.units) (aA 0) (aK G17_ (hr.mono (by omega)) rfl (aB (aA 1) aD)) rfl))) (λ_ _ _ _ _=>(aA 0))))))) (λas R q=>?_)
 obtain⟨p,q',rfl,hp,hq,kp,kq,q⟩:=q
 have ml:=zS hq
 refine⟨rfl,q',rfl,hq,kq,by rw[List.length_map];omega,cL sT (λn=>if decide (n∈dJ p)=true then none else some (sT n)) (λx hx R q=>⟨p,rfl,hp,kp,eP,_,rfl,?_⟩) ?_⟩
 ·rw[eG]
  cases z:decide (x∈dJ p) with
  |true=>rw[if_pos z]at q;exact bJ q
  |false=>rw[if_neg (by rw[z];exact Bool.false_ne_true)]at q;exact bS q
 ·rw[pP];exact q
end
end My
namespace My
open PySem L2 PyProof.Rows WordM
section
variable{P:Program}{w:World}{K:W.Frag}{mg:Str->Option Value}{base:Heap}
variable{n:Nat}
def gP:PSp:=λas R=>∃(a b a' b':Int) (w w':Tv) (r r':List Tv),as=[.va (.seq true (w::iT a::iT b::r)),.va (.seq true (w'::iT a'::iT b'::r'))]/\R (bT (decide (a'<=a)&&decide (b<=b')))
theorem C21_:bG ["one","other"] ["one","other"] (aL vS):=fsc (by decide +kernel)
theorem zIJ(h:Has K mg "bounds_within" vS)(B:Own mg)    : aE P w K mg base 1 "bounds_within" ["one","other"] gP:=by
 have nd:=C21_.nd
 refine h.pgood C21_ (fun|_,_,_,_,_,_,[_,_],_=>rfl) (λf cdv A outer s H E F hr=>
   (aJ (aN (eJ (cA (eE).op (aG (aH hr.units) (aA 1) aC) (aG (aH hr.units) (aA 0) aC) (aO _)) (eV (cA (eE).op (aG (aH hr.units) (aA 0) aC) (aG (aH hr.units) (aA 1) aC) (aO _))))))) (λas R q=>?_)
 obtain⟨a,b,a',b',w,w',r,r',rfl,q⟩:=q
 refine⟨rfl,_,bC (j:=1) rfl,_,bC (j:=1) rfl,_,rfl,cQ (λz=>?_) (λz=>?_)⟩
 ·rw[decide_eq_true z,Bool.true_and]at q
  exact⟨_,bC (j:=2) rfl,_,bC (j:=2) rfl,q⟩
 ·rw[decide_eq_false z,Bool.false_and]at q
  exact q
theorem lN{b:Bool}{bs:List Bool}:nO (bT b) (bs.map bT):=⟨trivial,λU hU=>by
 obtain⟨c,_,rfl⟩:=List.mem_map.mp hU
 trivial⟩
theorem zAO{b:Bool}{cs:List Bool}:(false != (cs.map bT).any λk=>L2.eqT k (bT b))=decide (b∈cs):=by
 induction cs with
 |nil=>rfl
 |cons c cs ih=>
  rw[List.map_cons,List.any_cons]
  cases h:(cs.map bT).any λk=>L2.eqT k (bT b) with
  |true=>
   rw[h]at ih
   have:b∈cs:=by simpa using ih.symm
   simp[this]
  |false=>
   rw[h]at ih
   have:b∉cs:=by simpa using ih.symm
   cases b<;>cases c<;>simp[this,L2.eqT,eqV]
def zI(n:Nat):PSp:=λas R=>∃p q:Pt,as=[.va (aU p),.va (aU q)]/\PW (n+1) p/\PW (n+1) q/\aY q=aY p/\R (bT (shP p q))
theorem oN(a b:List Str):((a.map sT++b.map sT).isEmpty)=(a.isEmpty&&b.isEmpty):=by cases a<;>cases b<;>rfl
theorem xL{p:Str->Bool}(l:List Str):(l.filter λn=>!p n).isEmpty=l.all p:=by
 induction l with
 |nil=>rfl
 |cons x l ih=>rw[List.filter_cons,List.all_cons];cases h:p x<;>simp[h,ih]
theorem zDW{p q:Pt}(hp:aY p=5)(hq:aY q=5):shP p q=(match p,q with
  |.record a b _,.record a' b' _=>bdB a b a' b'&&((iU p q).isEmpty&&((dJ q).filter λn=>!decide (n∈dJ p)).isEmpty)
  |.record a b _,.table a' b' _ _=>bdB a b a' b'&&((iU p q).isEmpty&&((dJ q).filter λn=>!decide (n∈dJ p)).isEmpty)
  |.table a b _ _,.table a' b' _ _=>bdB a b a' b'&&((iU p q).isEmpty&&((dJ q).filter λn=>!decide (n∈dJ p)).isEmpty)
  |_,_=>false):=by
 cases p<;>first|(simp[aY]at hp;done)|skip
 all_goals (cases q<;>first|(simp[aY]at hq;done)|skip)
 ·simp only[shP,iU,dJ,xL];rfl
 ·simp only[shP,iU,dJ,xL];simp
 ·rfl
 ·rename_i a b w f a' b' w' g
  simp only[shP,iU,dJ]
  cases dY w w'<;>simp
theorem C22_:bG ["one","other"] ["one","other"] (aL nF):=fsc (by decide +kernel)
theorem zII(h:Has K mg "shell_within" nF)(B:Own mg)(G3_:aE P w K mg base 3 "run_within" ["one","other"] nR)(G12_:aE P w K mg base 5 "words_within" ["one","other"] oG)(G21_:aE P w K mg base 1 "bounds_within" ["one","other"] gP)(G19_:aE P w K mg base 5 "strange_names" ["one","other"] (xX n))(G20_:aE P w K mg base 2 "lacking_names" ["one","other"] (xY n))   : aE P w K mg base 6 "shell_within" ["one","other"] (zI n):=by
 have nd:=C22_.nd
 refine h.pgood C22_ (fun|_,_,_,_,_,_,[_,_],_=>rfl) (λf cdv A outer s H E F hr=>
   (aI (aX (aQ (aW hr.units) (aG (aH hr.units) (aA 0) aC) aT (aO _))
    (aJ (aN (bK (mK rfl) rfl B.all boot_all (aB (bA (bX (sc:=aL nF) (XN:=["one","other"]) (N:=["truth","other"]) (own:=1) (fr:=[1]) rfl ⟨rfl,by decide +kernel,by decide +kernel,by decide +kernel,rfl,by decide +kernel,by decide,by decide +kernel⟩ (by decide) (bO (aG (aH hr.units) (aA 0) aC)) (λ_ _ _ _ _=>(bF 0 (by decide) (show(["truth","other"]:List Str).Nodup by decide +kernel) rfl (by first|exact Or.inl rfl|exact Or.inr rfl))) (λ_ _ _ _ _=>cH) (λ_ _ _ _ _=>(cA (eY hr.units).op (aA 0) (aG (aH hr.units) (aA 1) aC) rfl)))) aD))))
    bB)
   (aI (aX (aQ (aW hr.units) (aG (aH hr.units) (aA 0) aC) aT (aO _))
    (aJ (aN (aK G3_ (hr.mono (by omega)) rfl (aB (dO dQ (aA 0) (dL aC) dW) (aB (dO dQ (aA 1) (dL aC) dW) aD)))))
    bB)
   (aI (aX (aQ (aW hr.units) (aG (aH hr.units) (aA 0) aC) aT (aO _))
    (aJ (aN (aK G12_ (hr.mono (by omega)) rfl (aB (aG (aH hr.units) (aA 0) aC) (aB (aG (aH hr.units) (aA 1) aC) aD)))))
    bB)
   (aI (aX (aQ (aW hr.units) (aG (aH hr.units) (aA 0) aC) aT (aO _))
    (aJ (aN (aK G21_ (hr.mono (by omega)) rfl (aB (aA 0) (aB (aA 1) aD)))))
    bB)
   (aI (aX (aQ (aW hr.units) (aG (aH hr.units) (aA 0) aC) aT (aO _))
    (aJ (aN cD))
    bB)
   (aJ (aN (eJ (aK G21_ (hr.mono (by omega)) rfl (aB (aA 0) (aB (aA 1) aD))) (eV (cA (aW hr.units).op (aR bN (aK G19_ (hr.mono (by omega)) rfl (aB (aA 0) (aB (aA 1) aD))) (aK G20_ (hr.mono (by omega)) rfl (aB (aA 0) (aB (aA 1) aD)))) (bA (bU aD)) (aO _)))))))))))) (λas R q=>?_)
 obtain⟨p,q',rfl,hp,hq,k,q⟩:=q
 by_cases k5:aY p=5
 ·have k5':aY q'=5:=k.trans k5
  rw[zDW k5 k5']at q
  obtain⟨w,a,b,r,w',a',b',r',ep,eq,hw,h1,h2⟩:∃(w:Str) (a b:Int) (r:List Tv) (w':Str) (a' b':Int) (r':List Tv),aU p=.seq true (sT w::iT a::iT b::r)/\aU q'=.seq true (sT w'::iT a'::iT b'::r')/\(w="record"\/w="table")/\(bdB a b a' b'=false->R (bT false))/\(bdB a b a' b'=true->∀L:List Str,((iR p=true->iR q'=false->L≠[])/\((iR p=false\/iR q'=true)->L=iU p q'))->R (bT ((L.map sT++((dJ q').filter λn=>!decide (n∈dJ p)).map sT).isEmpty))):=by
   cases p<;>first|(simp[aY]at k5;done)|skip
   all_goals (cases q'<;>first|(simp[aY]at k5';done)|skip)
   ·refine⟨_,_,_,_,_,_,_,_,bR ..,bR ..,.inl rfl,λz=>?_,λz L hL=>?_⟩
    ·simpa[z]using q
    ·rw[oN,hL.2 (.inl rfl)];simpa[z]using q
   ·refine⟨_,_,_,_,_,_,_,_,bR ..,cV ..,.inl rfl,λz=>?_,λz L hL=>?_⟩
    ·simpa[z]using q
    ·rw[oN,hL.2 (.inl rfl)];simpa[z]using q
   ·refine⟨_,_,_,_,_,_,_,_,cV ..,bR ..,.inr rfl,λz=>q,λz L hL=>?_⟩
    have:=hL.1 rfl rfl
    rw[oN]
    cases L with
    |nil=>exact absurd rfl this
    |cons x l=>exact q
   ·refine⟨_,_,_,_,_,_,_,_,cV ..,cV ..,.inr rfl,λz=>?_,λz L hL=>?_⟩
    ·simpa[z]using q
    ·rw[oN,hL.2 (.inr rfl)];simpa[z]using q
  have n1:w≠"truths":=by rcases hw with rfl|rfl<;>decide +kernel
  have n2:w≠"numbers":=by rcases hw with rfl|rfl<;>decide +kernel
  have n3:w≠"texts":=by rcases hw with rfl|rfl<;>decide +kernel
  have n4:w≠"lists":=by rcases hw with rfl|rfl<;>decide +kernel
  have n5:w≠"nothing":=by rcases hw with rfl|rfl<;>decide +kernel
  have ea:[Ar.va (.seq true (sT w::iT a::iT b::r)),.va (.seq true (sT w'::iT a'::iT b'::r'))]=[.va (aU p),.va (aU q')]:=by rw[ep,eq]
  have ml:=zS hq
  rw[ep,eq]
  refine⟨rfl,_,at0,_,rfl,sN n1 ⟨_,at0,_,rfl,sN n2 ⟨_,at0,_,rfl,sN n3 ⟨_,at0,_,rfl,sN n4 ⟨_,at0,_,rfl,sN n5 ⟨a,b,a',b',_,_,_,_,rfl,_,rfl,?_⟩⟩⟩⟩⟩⟩
  show if bdB a b a' b'=true then _ else _
  cases z:bdB a b a' b' with
  |false=>exact bJ (h1 z)
  |true=>
   refine bS ⟨p,q',ea,hp,hq,k5,k5',λL lL hL=>⟨p,q',ea,hp,hq,k5,k5',?_,?_⟩⟩
   ·rw[List.length_map,List.length_map]
    have:=List.length_filter_le (λn=>!decide (n∈dJ p)) (dJ q')
    omega
   ·refine⟨by simp,.inr (.inl rfl),?_⟩
    show R (bT (false != ((false==false)&&bZ _ [])))
    rw[iO]
    exact h2 z L hL
 ·cases p<;>cases q'<;>first|(simp[aY]at k;done)|exact absurd rfl k5|skip
  ·rw[nP]
   exact⟨rfl,_,at0,_,rfl,sN (by decide +kernel) ⟨_,at0,_,rfl,sN (by decide +kernel) ⟨_,at0,_,rfl,sN (by decide +kernel) ⟨_,at0,_,rfl,sN (by decide +kernel) ⟨_,at0,_,rfl,sY q⟩⟩⟩⟩⟩
  ·rename_i bs cs
   rw[jB,jB]
   have bl:bs.length<=2:=by rcases hp with rfl|rfl|rfl<;>simp
   refine⟨rfl,_,at0,_,rfl,sY ⟨_,bC (j:=1) rfl,by rw[List.length_map];omega,dC bT (λb=>bT (decide (b∈cs))) (λb hb R q=>⟨_,bC (j:=1) rfl,lN,?_⟩) ⟨bs.map λb=>decide (b∈cs),by rw[List.map_map];rfl,?_⟩⟩⟩
   ·rw[zAO];exact q
   ·rw[List.all_map];exact q
  ·rename_i lo hi st lo' hi' st'
   rw[fG,fG]
   exact⟨rfl,_,at0,_,rfl,sN (by decide +kernel) ⟨_,at0,_,rfl,sY ⟨_,rfl,_,rfl,lo,hi,st,lo',hi',st',rfl,hq,q⟩⟩⟩
  ·rename_i w w'
   rw[iC,iC]
   exact⟨rfl,_,at0,_,rfl,sN (by decide +kernel) ⟨_,at0,_,rfl,sN (by decide +kernel) ⟨_,at0,_,rfl,sY ⟨_,bC (j:=1) rfl,_,bC (j:=1) rfl,w,w',rfl,hp,hq,q⟩⟩⟩⟩
  ·rename_i a b f a' b' f'
   rw[gA,gA]
   exact⟨rfl,_,at0,_,rfl,sN (by decide +kernel) ⟨_,at0,_,rfl,sN (by decide +kernel) ⟨_,at0,_,rfl,sN (by decide +kernel) ⟨_,at0,_,rfl,sY ⟨a,b,a',b',_,_,_,_,rfl,q⟩⟩⟩⟩⟩
end
end My
namespace My
open PySem L2 PyProof.Rows WordM
section
variable{P:Program}{w:World}{K:W.Frag}{mg:Str->Option Value}{base:Heap}
variable{n:Nat}
def oU:PSp:=λas R=>(∃(a b:Int) (w:Wd) (f:List Pt) (x:Str),as=[.va (aU (.table a b w f)),.va (sT x)]/\R (cK f))\/∃(a b:Int) (fs:List Fd) (x:Str),as=[.va (aU (.record a b fs)),.va (sT x)]/\fs.length<=8/\x∈nmF fs/\R (cK (bhF fs x))
theorem C23_:bG ["part","name"] ["part","name"] (aL qR):=fsc (by decide +kernel)
theorem zIH(h:Has K mg "form_behind" qR)(B:Own mg)    : aE P w K mg base 1 "form_behind" ["part","name"] oU:=by
 have nd:=C23_.nd
 refine h.pgood C23_ (fun|_,_,_,_,_,_,[_,_],_=>rfl) (λf cdv A outer s H E F hr=>
   (aI (aX (aQ (aW hr.units) (aG (aH hr.units) (aA 0) aC) aT (aO _))
    (aJ (aN (aG (aH hr.units) (aA 0) aC)))
    bB)
   (aJ (aN (aG (aH hr.units) (bA (bX (sc:=aL qR) (XN:=["part","name"]) (N:=["field","name"]) (own:=1) (fr:=[1]) rfl ⟨rfl,by decide +kernel,by decide +kernel,by decide +kernel,rfl,by decide +kernel,by decide,by decide +kernel⟩ (by decide) (bO (aG (aH hr.units) (aA 0) aC)) (λ_ _ _ _ _=>(bF 0 (by decide) (show(["field","name"]:List Str).Nodup by decide +kernel) rfl (by first|exact Or.inl rfl|exact Or.inr rfl))) (λ_ _ _ _ _=>(cX (aQ (aW hr.units) (aG (aH hr.units) (aA 0) aC) (aA 1) (aO _)))) (λ_ _ _ _ _=>(aG (aH hr.units) (aA 0) aC)))) aC))))) (λas R q=>?_)
 rcases q with⟨a,b,w,f,x,rfl,q⟩|⟨a,b,fs,x,rfl,fl,hx,q⟩
 ·rw[cV]
  exact⟨rfl,_,at0,_,rfl,sY ⟨_,bC (j:=4) rfl,q⟩⟩
 ·rw[bR]
  refine⟨rfl,_,at0,_,rfl,sN (by decide +kernel) ⟨_,bC (j:=3) rfl,by rw[List.length_map];omega,cL bH (λy=>if decide (y.1=x)=true then some (cK y.2.2) else none) (λy hy R q=>⟨_,at0,_,rfl,eM (λz=>⟨_,bC (j:=2) rfl,?_⟩) (λz=>?_)⟩) ?_⟩⟩
  ·rw[if_pos (decide_eq_true z)]at q;exact q
  ·rw[if_neg (λe=>z (of_decide_eq_true e))]at q;exact q
  ·rw[iH (p:=λy:Fd=>decide (y.1=x)) (e:=λy=>cK y.2.2)]
   unfold bhF at q
   rw[<-List.head?_filter]at q
   obtain⟨y,hy,e⟩:=List.mem_map.mp hx
   have hm:y∈fs.filter λy=>decide (y.1=x):=List.mem_filter.mpr ⟨hy,decide_eq_true e⟩
   generalize (fs.filter λy=>decide (y.1=x))=L at q hm
   cases L with
   |nil=>cases hm
   |cons y0 L=>exact⟨_,at0,q⟩
theorem yP(l:List Str):(l.filter λn=>decide (n∈l))=l:=List.filter_eq_self.mpr λa ha=>decide_eq_true ha
def zA8(n:Nat):PSp:=λas R=>∃p q:Pt,as=[.va (aU p),.va (aU q)]/\PW (n+1) p/\PW (n+1) q/\aY q=aY p/\R (.seq false ((fK p q).map iZ))
theorem C24_:bG ["one","other","records","names"] ["one","other"] (aL jX):=fsc (by decide +kernel)
theorem zIG(h:Has K mg "forms_held" jX)(B:Own mg)(G18_:aE P w K mg base 1 "names_of" ["record"] lY)(G23_:aE P w K mg base 1 "form_behind" ["part","name"] oU)   : aE P w K mg base 2 "forms_held" ["one","other"] (zA8 n):=by
 have nd:=C24_.nd
 refine h.pgood C24_ (fun|_,_,_,_,_,_,[_,_],_=>rfl) (λf cdv A outer s H E F hr=>
   (aI (aX (aQ (aW hr.units) (aG (aH hr.units) (aA 0) aC) aT (aO _))
    (aJ (aN (bA (bU (aB (bI (aB (bI (aB aT aD)) (aB (aG (aH hr.units) (aA 0) aC) (aB (aG (aH hr.units) (aA 1) aC) aD)))) aD)))))
    bB)
   (aI (aX (cO (eR (aQ (aW hr.units) (aG (aH hr.units) (aA 0) aC) aT (aO _)) (fH (aQ (aW hr.units) (aG (aH hr.units) (aA 1) aC) aT (aO _)))))
    (aJ (aN (bA (bU (aB (bI (aB (bI (aB aT aD)) (aB (aG (aH hr.units) (aA 0) aC) (aB (aG (aH hr.units) (aA 1) aC) aD)))) aD)))))
    bB)
   (aI (aZ (i:=2) nd rfl (.inr rfl) (bA (bX (sc:=aL jX) (XN:=["one","other","records","names"]) (N:=["part"]) (own:=1) (fr:=[]) rfl ⟨rfl,by decide +kernel,by decide +kernel,by decide +kernel,rfl,by decide +kernel,by decide,by decide +kernel⟩ (by decide) (bO (bA (bU (aB (aA 0) (aB (aA 1) aD))))) (λ_ _ _ _ _=>(bF 0 (by decide) (show(["part"]:List Str).Nodup by decide +kernel) rfl (by first|exact Or.inl rfl|exact Or.inr rfl))) (λ_ _ _ _ _=>(cX (aQ (aW hr.units) (aG (aH hr.units) (aA 0) aC) aT (aO _)))) (λ_ _ _ _ _=>(aA 0)))))
   (aI (aX (aQ (aW hr.units) (bK cE rfl B.len PySem.boot_len (aB (aA 2) aD)) aC (aO _))
    (aJ (aN (bA (bU aD))))
    bB)
   (aI (gE (i:=3) (sc:=aL jX) (XN:=["one","other","records","names"]) (N:=["name","records"]) (own:=1) (fr:=[2]) rfl nd rfl (.inl rfl) ⟨rfl,by decide +kernel,by decide +kernel,by decide +kernel,rfl,by decide +kernel,by decide,by decide +kernel⟩ (by decide) (bO (aK G18_ (hr.mono (by omega)) rfl (aB (aG (aH hr.units) (aA 2) aC) aD))) (λ_ _ _ _ _=>(bF 0 (by decide) (show(["name","records"]:List Str).Nodup by decide +kernel) rfl (by first|exact Or.inl rfl|exact Or.inr rfl))) (λ_ _ _ _ _=>(cX (aQ (eY hr.units) (aA 0) (aK G18_ (hr.mono (by omega)) rfl (aB (aG (aH hr.units) (aA 1) (mS mJ aC)) aD)) rfl))) (λ_ _ _ _ _=>(aA 0)))
   (aJ (aN (bA (bX (sc:=aL jX) (XN:=["one","other","records","names"]) (N:=["name","one","other"]) (own:=1) (fr:=[0,1]) rfl ⟨rfl,by decide +kernel,by decide +kernel,by decide +kernel,rfl,by decide +kernel,by decide,by decide +kernel⟩ (by decide) (bO (aA 3)) (λ_ _ _ _ _=>(bF 0 (by decide) (show(["name","one","other"]:List Str).Nodup by decide +kernel) rfl (by first|exact Or.inl rfl|exact Or.inr rfl))) (λ_ _ _ _ _=>cH) (λ_ _ _ _ _=>(bI (aB (bI (aB aT (aB (aA 0) aD))) (aB (aK G23_ (hr.mono (by omega)) rfl (aB (aA 1) (aB (aA 0) aD))) (aB (aK G23_ (hr.mono (by omega)) rfl (aB (aA 2) (aB (aA 0) aD))) aD))))))))))))))) (λas R q=>?_)
 obtain⟨p,q',rfl,hp,hq,k,q⟩:=q
 cases p<;>cases q'<;>first|(simp[aY]at k;done)|skip
 case lists.lists a b f a' b' f'=>
  rw[gA,gA]
  exact⟨rfl,_,at0,_,rfl,sY ⟨by simp,_,bC (j:=3) rfl,_,bC (j:=3) rfl,by simp,by simp,q⟩⟩
 case table.table a b w f a' b' w' f'=>
  rw[cV,cV]
  exact⟨rfl,_,at0,_,rfl,sN (by decide +kernel) ⟨_,at0,_,rfl,sY ⟨_,at0,_,rfl,sY ⟨by simp,_,bC (j:=4) rfl,_,bC (j:=4) rfl,by simp,by simp,q⟩⟩⟩⟩
 case record.record a b fs a' b' gs=>
  rw[bR,bR]
  refine⟨rfl,_,at0,_,rfl,sN (by decide +kernel) ⟨_,at0,_,rfl,sN (by decide +kernel) (bJ ?_)⟩⟩
  refine⟨by simp,by simp,⟨_,at0,_,rfl,sY ⟨_,at0,_,rfl,sY ?_⟩⟩⟩
  have fl:(nmF fs).length<=8:=by unfold nmF;rw[List.length_map];exact hp.1
  refine⟨_,rfl,bJ ⟨_,at0,a,b,fs,by rw[bR],hp.1,by rw[List.length_map];omega,?_⟩⟩
  refine cL sT (λn=>if decide (n∈nmF gs)=true then some (sT n) else none) (λx hx R q=>⟨_,rfl,a',b',gs,by rw[bR],hq.1,eP,_,rfl,?_⟩) ?_
  ·rw[eG]
   cases z:decide (x∈nmF gs) with
   |true=>rw[if_pos z]at q;exact bS q
   |false=>rw[if_neg (by rw[z];exact Bool.false_ne_true)]at q;exact bJ q
  rw[iH]
  have q:R (.seq false ((((nmF fs).filter λn=>decide (n∈nmF gs)).map λn=>(fdT n,bhF fs n,bhF gs n)).map iZ)):=q
  rw[List.map_map]at q
  have lf:=Nat.le_trans (List.length_filter_le (λn=>decide (n∈nmF gs)) (nmF fs)) fl
  refine⟨by rw[List.length_map];omega,dC sT (λn=>iZ (fdT n,bhF fs n,bhF gs n)) (λx hx R q=>?_) q⟩
  have hx:=List.mem_filter.mp hx
  exact⟨by simp,.inr ⟨a,b,fs,x,by rw[bR],hp.1,hx.1,.inr ⟨a',b',gs,x,by rw[bR],hq.1,of_decide_eq_true hx.2,by simp,q⟩⟩⟩
 case record.table a b fs a' b' w g=>
  rw[bR,cV]
  have fl:(nmF fs).length<=8:=by unfold nmF;rw[List.length_map];exact hp.1
  refine⟨rfl,_,at0,_,rfl,sN (by decide +kernel) ⟨_,at0,_,rfl,sN (by decide +kernel) (bJ ?_)⟩⟩
  refine⟨by simp,by simp,⟨_,at0,_,rfl,sY ⟨_,at0,_,rfl,sN (by decide +kernel) ?_⟩⟩⟩
  refine⟨_,rfl,bJ ⟨_,at0,a,b,fs,by rw[bR],hp.1,by rw[List.length_map];omega,?_⟩⟩
  refine cL sT (λn=>if decide (n∈nmF fs)=true then some (sT n) else none) (λx hx R q=>⟨_,rfl,a,b,fs,by rw[bR],hp.1,eP,_,rfl,?_⟩) ?_
  ·rw[eG]
   cases z:decide (x∈nmF fs) with
   |true=>rw[if_pos z]at q;exact bS q
   |false=>rw[if_neg (by rw[z];exact Bool.false_ne_true)]at q;exact bJ q
  rw[iH,yP]
  have q:R (.seq false (((nmF fs).map λn=>(fdT n,bhF fs n,g)).map iZ)):=q
  rw[List.map_map]at q
  exact⟨by rw[List.length_map];omega,dC sT (λn=>iZ (fdT n,bhF fs n,g)) (λx hx R q=>⟨by simp,.inr ⟨a,b,fs,x,by rw[bR],hp.1,hx,.inl ⟨a',b',w,g,x,by rw[cV],by simp,q⟩⟩⟩) q⟩
 case table.record a b w f a' b' gs=>
  rw[bR,cV]
  have gl:(nmF gs).length<=8:=by unfold nmF;rw[List.length_map];exact hq.1
  refine⟨rfl,_,at0,_,rfl,sN (by decide +kernel) ⟨_,at0,_,rfl,sY ⟨_,at0,_,rfl,sN (by decide +kernel) ?_⟩⟩⟩
  refine⟨by simp,by simp,⟨_,at0,_,rfl,sN (by decide +kernel) ⟨_,at0,_,rfl,sY ?_⟩⟩⟩
  refine⟨_,rfl,bJ ⟨_,at0,a',b',gs,by rw[bR],hq.1,by rw[List.length_map];omega,?_⟩⟩
  refine cL sT (λn=>if decide (n∈nmF gs)=true then some (sT n) else none) (λx hx R q=>⟨_,rfl,a',b',gs,by rw[bR],hq.1,eP,_,rfl,?_⟩) ?_
  ·rw[eG]
   cases z:decide (x∈nmF gs) with
   |true=>rw[if_pos z]at q;exact bS q
   |false=>rw[if_neg (by rw[z];exact Bool.false_ne_true)]at q;exact bJ q
  rw[iH,yP]
  have q:R (.seq false (((nmF gs).map λn=>(fdT n,f,bhF gs n)).map iZ)):=q
  rw[List.map_map]at q
  exact⟨by rw[List.length_map];omega,dC sT (λn=>iZ (fdT n,f,bhF gs n)) (λx hx R q=>⟨by simp,.inl ⟨a,b,w,f,x,by rw[cV],.inr ⟨a',b',gs,x,by rw[bR],hq.1,hx,by simp,q⟩⟩⟩) q⟩
 all_goals
  first|rw[nP]|rw[jB,jB]|rw[fG,fG]|rw[iC,iC]
  refine⟨rfl,_,at0,_,rfl,sN (by decide +kernel) ⟨_,at0,_,rfl,sN (by decide +kernel) (bJ ?_)⟩⟩
  refine⟨by simp,by simp,⟨_,at0,_,rfl,sN (by decide +kernel) ⟨_,at0,_,rfl,sN (by decide +kernel) ?_⟩⟩⟩
  exact⟨_,rfl,bS ⟨by simp,q⟩⟩
theorem gI{n:Nat}{a b:Int}{fs:List Fd}(h:PW (n+1) (.record a b fs))(x:Str):(bhF fs x).length<=100/\∀p∈bhF fs x,PW n p:=by
 unfold bhF
 cases e:fs.find? λy=>decide (y.1=x) with
 |none=>exact⟨by simp,λp hp=>by simp at hp⟩
 |some y=>
  have:=h.2.2 y (List.mem_of_find?_eq_some e)
  exact⟨this.2.1,this.2.2⟩
theorem zEq{n:Nat}{p q:Pt}(hp:PW (n+1) p)(hq:PW (n+1) q):(fK p q).length<=8/\∀x∈fK p q,x.2.1.length<=100/\x.2.2.length<=100/\(∀r∈x.2.1,PW n r)/\∀r∈x.2.2,PW n r:=by
 have nl:∀{a b:Int} {fs:List Fd},PW (n+1) (.record a b fs)->(nmF fs).length<=8:=λh=>by unfold nmF;rw[List.length_map];exact h.1
 cases p<;>cases q<;>first|exact⟨Nat.zero_le _,λx hx=>absurd hx (List.not_mem_nil)⟩|skip
 ·refine⟨by simp[fK],λx hx=>?_⟩
  rw[show fK (.lists _ _ _) (.lists _ _ _)=[_] from rfl,List.mem_singleton]at hx
  subst hx
  exact⟨hp.1,hq.1,hp.2,hq.2⟩
 ·refine⟨?_,λx hx=>?_⟩
  ·show(List.map _ _).length<=8
   rw[List.length_map];exact Nat.le_trans (List.length_filter_le _ _) (nl hp)
  ·obtain⟨y,_,rfl⟩:=List.mem_map.mp hx
   exact⟨(gI hp y).1,(gI hq y).1,(gI hp y).2,(gI hq y).2⟩
 ·refine⟨by show(List.map _ _).length<=8;rw[List.length_map];exact nl hp,λx hx=>?_⟩
  obtain⟨y,_,rfl⟩:=List.mem_map.mp hx
  exact⟨(gI hp y).1,hq.2.2.1,(gI hp y).2,hq.2.2.2⟩
 ·refine⟨by show(List.map _ _).length<=8;rw[List.length_map];exact nl hq,λx hx=>?_⟩
  obtain⟨y,_,rfl⟩:=List.mem_map.mp hx
  exact⟨hp.2.2.1,(gI hq y).1,hp.2.2.2,(gI hq y).2⟩
 ·refine⟨by simp[fK],λx hx=>?_⟩
  rw[show fK (.table _ _ _ _) (.table _ _ _ _)=[_] from rfl,List.mem_singleton]at hx
  subst hx
  exact⟨hp.2.2.1,hq.2.2.1,hp.2.2.2,hq.2.2.2⟩
def eN(n:Nat):PSp:=λas R=>∃f g:List Pt,as=[.va (cK f),.va (cK g)]/\f.length<=100/\g.length<=100/\(∀p∈f,PW n p)/\(∀p∈g,PW n p)/\R (bT (wiF n f g))
def zJ(n:Nat):PSp:=λas R=>∃(p:Pt) (o:Option Pt),as=[.va (aU p),.va (wC o)]/\PW (n+1) p/\(∀q,o=some q->PW (n+1) q/\aY q=aY p)/\R (bT (wiO n p o))
theorem C25_:bG ["one","other"] ["one","other"] (aL nE):=fsc (by decide +kernel)
theorem zIF(h:Has K mg "part_within" nE)(B:Own mg)(G22_:aE P w K mg base 6 "shell_within" ["one","other"] (zI n))(G24_:aE P w K mg base 2 "forms_held" ["one","other"] (zA8 n))(G26_:aE P w K mg base (3*n+7) "within" ["one","other"] (eN n))   : aE P w K mg base (3*n+8) "part_within" ["one","other"] (zJ n):=by
 have nd:=C25_.nd
 refine h.pgood C25_ (fun|_,_,_,_,_,_,[_,_],_=>rfl) (λf cdv A outer s H E F hr=>
   (aI (aX (cO (eD (aQ kU (aA 1) gV (aO _)) (eI (dG (cM (aK G22_ (hr.mono (by omega)) rfl (aB (aA 0) (aB (aA 1) aD))))))))
    (aJ (aN cD))
    bB)
   (aJ (aN (bK (mK rfl) rfl B.all boot_all (aB (bA (bX (sc:=aL nE) (XN:=["one","other"]) (N:=["held"]) (own:=1) (fr:=[]) rfl ⟨rfl,by decide +kernel,by decide +kernel,by decide +kernel,rfl,by decide +kernel,by decide,by decide +kernel⟩ (by decide) (bO (aK G24_ (hr.mono (by omega)) rfl (aB (aA 0) (aB (aA 1) aD)))) (λ_ _ _ _ _=>(bF 0 (by decide) (show(["held"]:List Str).Nodup by decide +kernel) rfl (by first|exact Or.inl rfl|exact Or.inr rfl))) (λ_ _ _ _ _=>cH) (λ_ _ _ _ _=>(aK G26_ (hr.mono (by omega)) rfl (aB (aG (aH hr.units) (aA 0) aC) (aB (aG (aH hr.units) (aA 0) aC) aD)))))) aD)))))) (λas R q=>?_)
 obtain⟨p,o,rfl,hp,ho,q⟩:=q
 cases o with
 |none=>exact⟨rfl,_,rfl,bS q⟩
 |some q'=>
  obtain⟨hq,k⟩:=ho q' rfl
  have q:R (bT (shP p q'&&(fK p q').all λx=>wiF n x.2.1 x.2.2)):=q
  obtain⟨r,e,_⟩:=oX q'
  have e:wC (some q')=.seq true (sT (gY q')::r):=e
  have ea:[Ar.va (aU p),.va (.seq true (sT (gY q')::r))]=[.va (aU p),.va (aU q')]:=by rw[<-e];rfl
  rw[e]
  refine⟨rfl,_,rfl,bJ ⟨p,q',ea,hp,hq,k,_,rfl,?_⟩⟩
  cases hs:shP p q' with
  |false=>rw[hs,Bool.false_and]at q;exact bS q
  |true=>
   rw[hs,Bool.true_and]at q
   obtain⟨hl,hm⟩:=zEq hp hq
   refine bJ ⟨p,q',ea,hp,hq,k,by rw[List.length_map];omega,dC iZ (λx=>bT (wiF n x.2.1 x.2.2)) (λx hx R q=>⟨_,bC (j:=1) rfl,_,bC (j:=2) rfl,x.2.1,x.2.2,rfl,(hm x hx).1,(hm x hx).2.1,(hm x hx).2.2.1,(hm x hx).2.2.2,q⟩) ⟨(fK p q').map λx=>wiF n x.2.1 x.2.2,by rw[List.map_map];rfl,?_⟩⟩
   rw[List.all_map]
   exact q
theorem C26_:bG ["one","other"] ["one","other"] (aL iW):=fsc (by decide +kernel)
theorem g26_(h:Has K mg "within" iW)(B:Own mg)(G25_:aE P w K mg base (3*n+8) "part_within" ["one","other"] (zJ n))(G16_:aE P w K mg base 2 "part_for" ["form","kind"] lJ)(G15_:aE P w K mg base 1 "part_kind" ["part"] kC)   : aE P w K mg base (3*n+10) "within" ["one","other"] (eN (n+1)):=by
 have nd:=C26_.nd
 refine h.pgood C26_ (fun|_,_,_,_,_,_,[_,_],_=>rfl) (λf cdv A outer s H E F hr=>
   (aJ (aN (bK (mK rfl) rfl B.all boot_all (aB (bA (bX (sc:=aL iW) (XN:=["one","other"]) (N:=["part","other"]) (own:=1) (fr:=[1]) rfl ⟨rfl,by decide +kernel,by decide +kernel,by decide +kernel,rfl,by decide +kernel,by decide,by decide +kernel⟩ (by decide) (bO (aA 0)) (λ_ _ _ _ _=>(bF 0 (by decide) (show(["part","other"]:List Str).Nodup by decide +kernel) rfl (by first|exact Or.inl rfl|exact Or.inr rfl))) (λ_ _ _ _ _=>cH) (λ_ _ _ _ _=>(aK G25_ (hr.mono (by omega)) rfl (aB (aA 0) (aB (aK G16_ (hr.mono (by omega)) rfl (aB (aA 1) (aB (aK G15_ (hr.mono (by omega)) rfl (aB (aA 0) aD)) aD))) aD)))))) aD))))) (λas R q=>?_)
 obtain⟨f,g,rfl,lf,lg,hf,hg,q⟩:=q
 rw[sG]at q
 refine⟨rfl,by rw[List.length_map];omega,dC aU (λp=>bT (wiO n p (g.find? λq=>decide (aY q=aY p)))) (λp hp R q=>⟨p,rfl,g,aY p,rfl,lV p,p,_,rfl,hf p hp,λq' e=>⟨hg q' (List.mem_of_find?_eq_some e),by simpa using List.find?_some e⟩,q⟩) ⟨f.map λp=>wiO n p (g.find? λq=>decide (aY q=aY p)),by rw[List.map_map];rfl,?_⟩⟩
 rw[List.all_map]
 exact q
namespace B0
theorem C26_:bG ["one","other"] ["one","other"] (aL iW):=fsc (by decide +kernel)
theorem g26_(h:Has K mg "within" iW)(B:Own mg)(G25_:aE P w K mg base 6 "part_within" ["one","other"] iM)(G16_:aE P w K mg base 2 "part_for" ["form","kind"] lJ)(G15_:aE P w K mg base 1 "part_kind" ["part"] kC)   : aE P w K mg base 7 "within" ["one","other"] (eN 0):=by
 have nd:=C26_.nd
 refine h.pgood C26_ (fun|_,_,_,_,_,_,[_,_],_=>rfl) (λf cdv A outer s H E F hr=>
   (aJ (aN (bK (mK rfl) rfl B.all boot_all (aB (bA (bX (sc:=aL iW) (XN:=["one","other"]) (N:=["part","other"]) (own:=1) (fr:=[1]) rfl ⟨rfl,by decide +kernel,by decide +kernel,by decide +kernel,rfl,by decide +kernel,by decide,by decide +kernel⟩ (by decide) (bO (aA 0)) (λ_ _ _ _ _=>(bF 0 (by decide) (show(["part","other"]:List Str).Nodup by decide +kernel) rfl (by first|exact Or.inl rfl|exact Or.inr rfl))) (λ_ _ _ _ _=>cH) (λ_ _ _ _ _=>(aK G25_ (hr.mono (by omega)) rfl (aB (aA 0) (aB (aK G16_ (hr.mono (by omega)) rfl (aB (aA 1) (aB (aK G15_ (hr.mono (by omega)) rfl (aB (aA 0) aD)) aD))) aD)))))) aD))))) (λas R q=>?_)
 obtain⟨f,g,rfl,lf,lg,hf,hg,q⟩:=q
 cases f with
 |nil=>exact⟨rfl,by simp,[],rfl,q⟩
 |cons p f=>exact False.elim (hf p (by simp))
end B0
theorem zBy(hw:Has K mg "within" iW)(hp:Has K mg "part_within" nE)(hs:Has K mg "shell_within" nF)(hh:Has K mg "forms_held" jX)(hst:Has K mg "strange_names" lE)(hlk:Has K mg "lacking_names" nG)(hms:Has K mg "musts_of" nH)(B:Own mg)
  (G1:aE P w K mg base 3 "run_within" ["one","other"] nR) (G2:aE P w K mg base 5 "words_within" ["one","other"] oG) (G3:aE P w K mg base 1 "bounds_within" ["one","other"] gP) (G4:aE P w K mg base 4 "words_parted" ["one","other"] lU) (G5:aE P w K mg base 3 "words_let" ["words","text"] fP) (G8:aE P w K mg base 3 "words_some" ["words","many"] pC)
  (G6:aE P w K mg base 1 "names_of" ["record"] lY) (G7:aE P w K mg base 1 "form_behind" ["part","name"] oU) (Gk:aE P w K mg base 1 "part_kind" ["part"] kC) (Gf:aE P w K mg base 2 "part_for" ["form","kind"] lJ) (GF:gZ K mg "MOST_FIELDS" (iT 8)):∀n:Nat,aE P w K mg base (3*n+7) "within" ["one","other"] (eN n)
 |0=>B0.g26_ hw B (hp.pfalse C25_ (fun|_,_,_,_,_,_,[_,_],_=>rfl) λas R h=>h) Gf Gk
 |n+1=>by
  have Gm:=zIN (P:=P) (w:=w) (base:=base) (n:=n) hms B
  have Gst:=zIL (P:=P) (w:=w) (base:=base) (n:=n) hst B G4 G6 G5 G8 GF
  have Glk:=zIK (P:=P) (w:=w) (base:=base) (n:=n) hlk B Gm
  exact g26_ hw B (zIF hp B (zII hs B G1 G2 G3 Gst Glk) (zIG hh B G6 G7) (zBy hw hp hs hh hst hlk hms B G1 G2 G3 G4 G5 G8 G6 G7 Gk Gf GF n)) Gf Gk
end
end My
namespace My
open PySem L2 PyProof.Rows WordM
section
variable{P:Program}{w:World}{K:W.Frag}{mg:Str->Option Value}{base:Heap}
variable{n:Nat}
theorem mD{α:Type}{l:List α}{p:α->Bool}{e:α->Tv}:(l.filterMap λx=>if p x=true then none else some (e x)).isEmpty=l.all p:=by
 induction l with
 |nil=>rfl
 |cons a l ih=>
  rw[List.filterMap_cons,List.all_cons]
  cases h:p a with
  |true=>simpa[h]using ih
  |false=>simp[h]
theorem tM{l:List Bool}:(true != (l.map bT).any λk=>L2.eqT k (bT false))=l.all id:=by
 induction l with
 |nil=>rfl
 |cons c l ih=>
  rw[List.map_cons,List.any_cons,List.all_cons,<-ih]
  cases c<;>simp[L2.eqT,eqV]
def kX:PSp:=λas R=>∃W:Wd,as=[.va (cG W)]/\WdW W/\R (.seq false ((hE W).map sT))
theorem C46_:bG ["_law_words","_law_good","_law_found"] ["_law_words"] (aL nC):=fsc (by decide +kernel)
theorem zIp(h:Has K mg "_law_witness" nC)(B:Own mg)(G30_:aE P w K mg base 1 "_law_signs" [] lX)(G41_:aE P w K mg base 1 "_law_mark" ["_law_sign"] pL)   : aE P w K mg base 2 "_law_witness" ["_law_words"] kX:=by
 have nd:=C46_.nd
 refine h.pgood C46_ (fun|_,_,_,_,_,_,[_],_=>rfl) (λf cdv A outer s H E F hr=>
   (aI (aX (aQ (aW hr.units) (aG (aH hr.units) (aA 0) aC) aT (aO _))
    (aJ (aN (bA (jC jF rfl B.list_ boot_list (aB (aG (aH hr.units) (aA 0) aC) aD)))))
    bB)
   (aI (gE (i:=1) (sc:=aL nC) (XN:=["_law_words","_law_good","_law_found"]) (N:=["_law_sign","_law_words"]) (own:=1) (fr:=[0]) rfl nd rfl (.inl rfl) ⟨rfl,by decide +kernel,by decide +kernel,by decide +kernel,rfl,by decide +kernel,by decide,by decide +kernel⟩ (by decide) (bO (tY G30_ (hr.mono (by omega)) rfl)) (λ_ _ _ _ _=>(bF 0 (by decide) (show(["_law_sign","_law_words"]:List Str).Nodup by decide +kernel) rfl (by first|exact Or.inl rfl|exact Or.inr rfl))) (λ_ _ _ _ _=>(cX (aQ (eY hr.units) (aK G41_ (hr.mono (by omega)) rfl (aB (aA 0) aD)) (aG (aH hr.units) (aA 1) aC) rfl))) (λ_ _ _ _ _=>(aA 0)))
   (aI (zAc (i:=2) (sc:=aL nC) (XN:=["_law_words","_law_good","_law_found"]) (N:=["_law_sign","_law_words"]) (own:=1) (fr:=[0]) rfl nd rfl (.inl rfl) ⟨rfl,by decide +kernel,by decide +kernel,by decide +kernel,rfl,by decide +kernel,by decide,by decide +kernel⟩ (by decide) (bO (aA 1)) (λ_ _ _ _ _=>(bF 0 (by decide) (show(["_law_sign","_law_words"]:List Str).Nodup by decide +kernel) rfl (by first|exact Or.inl rfl|exact Or.inr rfl))) (λ_ _ _ _ _=>cH) (λ_ _ _ _ _=>(aR bN (aG (aH hr.units) (aA 1) aC) (aR dX (aA 0) (bK (gW rfl) rfl B.max boot_max (aB aC (aB (aG (aH hr.units) (aA 1) aC) aD)))))))
   (aI (aX (aQ (aW hr.units) (aG (aH hr.units) (aA 0) aC) aC (aO _))
    (aJ (gF (jD 2 (aG (aH hr.units) (aA 0) aC))))
    bB)
   (aJ (aN (aR bN (aA 2) (bA (bU (aB (aR bN (aG (aH hr.units) (aA 0) aC) (aR dX (aG (aH hr.units) (aA 1) aC) (aG (aH hr.units) (aA 0) aC))) aD))))))))))) (λas R q=>?_)
 obtain⟨W,rfl,ok,q⟩:=q
 cases W with
 |few ss=>exact⟨rfl,_,rfl,_,rfl,eM (λ_=>⟨_,rfl,_,_,rfl,q⟩) (λh=>absurd rfl h)⟩
 |make hd lo hi ms=>
  obtain⟨⟨shd,hl⟩,lo0,lohi,hi1,hi2,sub,ne⟩:=ok
  obtain⟨_,S,_⟩:=lR sub ne
  refine⟨rfl,_,rfl,_,rfl,eM (λh=>absurd h (by decide +kernel)) (λ_=>?_)⟩
  have l94:SIG.cps.toList.length=94:=(WordM.len SIG).symm.trans kM
  refine⟨rfl,by rw[List.length_map,l94];decide,cL (λc:Nat=>sT ⟨#[c]⟩) (λc=>if cS c∈ms then some (sT ⟨#[c]⟩) else none) (λc hc R q=>?_) ?_⟩
  ·refine⟨c,rfl,_,rfl,eP,_,rfl,?_⟩
   rw[eG]
   refine sif (λz=>?_) (λz=>?_)
   ·have z:cS c∈ms:=by simpa using z
    rw[if_pos z]at q;exact q
   ·have z:cS c∉ms:=by simpa using z
    rw[if_neg z]at q;exact q
  have eg:(SIG.cps.toList.filterMap λc=>if cS c∈ms then some (sT ⟨#[c]⟩) else none)=(bY ms).map λc=>sT ⟨#[c]⟩:=by
   unfold bY
   show(cs SIG).filterMap _=_
   induction cs SIG with
   |nil=>rfl
   |cons a l ih=>
    rw[List.filterMap_cons,List.filter_cons,ih]
    by_cases z:cS a∈ms
    ·simp[z]
    ·simp[z]
  have gl:(bY ms).length<=94:=by
   refine Nat.le_trans (List.length_filter_le _ _) ?_
   show SIG.cps.toList.length<=94
   omega
  show PEnds.nx _ _
  rw[eg]
  let W:Tv:=cG (.make hd lo hi ms)
  refine nxE (ρ':=[.va W,.va (.seq false ((bY ms).map λc=>sT ⟨#[c]⟩)),.no]) rfl ?_
  refine⟨by rw[List.length_map];omega,dC (λc:Nat=>sT ⟨#[c]⟩) (λc=>sT (hd++bQ c (if lo > 1 then lo else 1))) (λc hc R q=>?_) ?_⟩
  ·refine⟨_,rfl,_,rfl,.inl ⟨_,_,rfl,⟨by show 1<=1000;decide,by omega,by omega⟩,?_⟩⟩
   rw[show max 1 lo=(if lo > 1 then lo else 1) by split<;>omega]
   exact⟨by rw[show ∀n,fX ⟨#[c]⟩ n=bQ c n from λ_=>rfl,kN];split<;>omega,q⟩
  have T0:(bY ms).map (λc=>sT (hd++bQ c (if lo > 1 then lo else 1)))=((bY ms).map λc=>hd++bQ c (if lo > 1 then lo else 1)).map sT:=by rw[List.map_map];rfl
  rw[T0]
  have q:R (.seq false (((((bY ms).map λc=>hd++bQ c (if lo > 1 then lo else 1))++(if lo=0 then [hd] else []))++[hd++bQ ((bY ms).headD 0) hi]).map sT)):=q
  have l0:((bY ms).map λc=>hd++bQ c (if lo > 1 then lo else 1)).length<=94:=by rw[List.length_map];exact gl
  generalize ((bY ms).map λc=>hd++bQ c (if lo > 1 then lo else 1))=L at q l0
  have g0:atI ((bY ms).map λc=>sT ⟨#[c]⟩) 0=some (sT ⟨#[(bY ms).headD 0]⟩):=by
   have:=jN S.many
   cases hq:bY ms with
   |nil=>rw[hq]at this;cases this
   |cons x y=>exact bC (j:=0) rfl
  show PEnds.nx _ _
  refine nxE (ρ':=[.va W,.va (.seq false ((bY ms).map λc=>sT ⟨#[c]⟩)),.own (L.map sT)]) rfl ?_
  have fin:∀M:List Str,M.length<=95->R (.seq false ((M++[hd++bQ ((bY ms).headD 0) hi]).map sT))->qI (uOp nK (fA 2) (uL (zBC (fW (uOp nK (uOp pIx (fA 0) (uC (iT 1))) (uOp uU (uOp pIx (fA 1) (uC (iT 0))) (uOp pIx (fA 0) (uC (iT 3))))) fL)))) {nx:=λx=>R nT,rt:=R} [.va W,.va (.seq false ((bY ms).map λc=>sT ⟨#[c]⟩)),.own (M.map sT)]:=λM hM q=>by
   rw[List.map_append]at q
   exact⟨_,rfl,_,g0,_,rfl,⟨by show 1<=1000;decide,by omega,by omega⟩,by rw[show ∀c n,fX ⟨#[c]⟩ n=bQ c n from λ_ _=>rfl,kN];omega,by simp,by rw[List.length_map];show M.length+1<=_;omega,q⟩
  refine⟨_,rfl,_,rfl,dA (λz=>?_) (λz=>?_)⟩
  ·rw[if_pos z]at q
   refine⟨⟨_,rfl⟩,_,rfl,_,rfl,by rw[List.length_map];omega,?_⟩
   rw[show L.map sT++[sT hd]=(L++[hd]).map sT by rw[List.map_append];rfl]
   exact fin (L++[hd]) (by rw[List.length_append];show _+1<=95;omega) q
  ·rw[if_neg z,List.append_nil]at q
   exact fin L (by omega) q
def uJ:Nat->Str
 |0=>"nothing"
 |1=>"truths"
 |2=>"numbers"
 |3=>"texts"
 |4=>"lists"
 |_=>"table"
theorem zC5{a b:Nat}(ha:a<=5)(hb:b<=5)(h:uJ a=uJ b):a=b:=by
 have h1:a=0\/a=1\/a=2\/a=3\/a=4\/a=5:=by omega
 have h2:b=0\/b=1\/b=2\/b=3\/b=4\/b=5:=by omega
 rcases h1 with e|e|e|e|e|e<;>subst e<;>rcases h2 with e|e|e|e|e|e<;>subst e<;>first|rfl|exact absurd h (by decide +kernel)
def lZ:PSp:=λas R=>∃p:Pt,as=[.va (aU p)]/\R (sT (uJ (aY p)))
theorem C47_:bG ["_law_part_here"] ["_law_part_here"] (aL vH):=fsc (by decide +kernel)
theorem zIo(h:Has K mg "_law_kind" vH)(B:Own mg)    : aE P w K mg base 1 "_law_kind" ["_law_part_here"] lZ:=by
 have nd:=C47_.nd
 refine h.pgood C47_ (fun|_,_,_,_,_,_,[_],_=>rfl) (λf cdv A outer s H E F hr=>
   (aI (aX (aQ (aW hr.units) (aG (aH hr.units) (aA 0) aC) aT (aO _))
    (aJ (aN aT))
    bB)
   (aJ (aN (aG (aH hr.units) (aA 0) aC))))) (λas R q=>?_)
 obtain⟨p,rfl,q⟩:=q
 obtain⟨r,e,_⟩:=oX p
 rw[e]
 cases p<;>first|exact⟨rfl,_,at0,_,rfl,sY q⟩|exact⟨rfl,_,at0,_,rfl,sN (by simp only[gY];decide +kernel) ⟨_,at0,q⟩⟩
theorem C48_:bG ["_law_one","_law_other"] ["_law_one","_law_other"] (aL vG):=fsc (by decide +kernel)
theorem zIn(h:Has K mg "_law_between" vG)(B:Own mg)    : aE P w K mg base 1 "_law_between" ["_law_one","_law_other"] gP:=by
 have nd:=C48_.nd
 refine h.pgood C48_ (fun|_,_,_,_,_,_,[_,_],_=>rfl) (λf cdv A outer s H E F hr=>
   (aJ (aN (eJ (cA (eE).op (aG (aH hr.units) (aA 1) aC) (aG (aH hr.units) (aA 0) aC) (aO _)) (eV (cA (eE).op (aG (aH hr.units) (aA 0) aC) (aG (aH hr.units) (aA 1) aC) (aO _))))))) (λas R q=>?_)
 obtain⟨a,b,a',b',w,w',r,r',rfl,q⟩:=q
 refine⟨rfl,_,bC (j:=1) rfl,_,bC (j:=1) rfl,_,rfl,cQ (λz=>?_) (λz=>?_)⟩
 ·rw[decide_eq_true z,Bool.true_and]at q
  exact⟨_,bC (j:=2) rfl,_,bC (j:=2) rfl,q⟩
 ·rw[decide_eq_false z,Bool.false_and]at q
  exact q
def oI:PSp:=λas R=>∃lo hi st i:Int,as=[.va (aU (.numbers lo hi st)),.va (iT i)]/\gL lo hi st/\R (bT (cP lo hi st i))
theorem zI2:bG ["_law_part_here","_law_value","_law_name","_law_known","_law_must","_law_form_here"] ["_law_part_here","_law_value"] (aL vJ):=fsc (by decide +kernel)
theorem zIs(h:Has K mg "_law_dict_let" vJ)(B:Own mg):aE P w K mg base 1 "_law_dict_let" ["_law_part_here","_law_value"] iM:=h.pfalse zI2 (fun|_,_,_,_,_,_,[_,_],_=>rfl) λas R h=>h
theorem zI1:bG ["_law_form_here","_law_value"] ["_law_form_here","_law_value"] (aL vI):=fsc (by decide +kernel)
theorem zIq(h:Has K mg "_law_lets" vI)(B:Own mg):aE P w K mg base 1 "_law_lets" ["_law_form_here","_law_value"] iM:=h.pfalse zI1 (fun|_,_,_,_,_,_,[_,_],_=>rfl) λas R h=>h
theorem C44_:bG ["_law_part_here","_law_value","_law_word"] ["_law_part_here","_law_value"] (aL qK):=fsc (by decide +kernel)
theorem zIr(h:Has K mg "_law_part_lets" qK)(B:Own mg)(G42_:aE P w K mg base 2 "_law_words_let" ["_law_words","_law_text_here"] fP)(G45_:aE P w K mg base 1 "_law_lets" ["_law_form_here","_law_value"] iM)(G43_:aE P w K mg base 1 "_law_dict_let" ["_law_part_here","_law_value"] iM)   : aE P w K mg base 3 "_law_part_lets" ["_law_part_here","_law_value"] oI:=by
 have nd:=C44_.nd
 refine h.pgood C44_ (fun|_,_,_,_,_,_,[_,_],_=>rfl) (λf cdv A outer s H E F hr=>
   (aI (aZ (i:=2) nd rfl (.inl rfl) (aG (aH hr.units) (aA 0) aC))
   (aI (aX (cO (eD (aQ kU (aA 1) gV (aO _)) (eI (aQ (aW hr.units) (aA 2) aT (aO _)))))
    (aJ (aN (eJ (cA (kU).op (aA 1) gV (aO _)) (eV (cA (aW hr.units).op (aA 2) aT (aO _))))))
    bB)
   (aI (aX (cO (eD (cM (iJ "bool" wN rfl B.isinstance (aA 1) (iF (v:=.ty "bool") rfl B.bool_ boot_bool rfl))) (eI (aQ (aW hr.units) (aA 2) aT (aO _)))))
    (aJ (aN (eJ (iJ "bool" wN rfl B.isinstance (aA 1) (iF (v:=.ty "bool") rfl B.bool_ boot_bool rfl)) (eJ (cA (aW hr.units).op (aA 2) aT (aO _)) (eV (cA (eY hr.units).op (aA 1) (aG (aH hr.units) (aA 0) aC) rfl))))))
    bB)
   (aI (aX (cO (eD (cM (iJ "int" wS rfl B.isinstance (aA 1) (iF (v:=.ty "int") rfl B.int_ boot_int rfl))) (eI (aQ (aW hr.units) (aA 2) aT (aO _)))))
    (aI (aX (cO (eD (dG (cM (iJ "int" wS rfl B.isinstance (aA 1) (iF (v:=.ty "int") rfl B.int_ boot_int rfl)))) (eI (aQ (mW hr.units) (aA 2) aT (aO _)))))
     (aJ (aN cD))
     bB)
    (aJ (aN (eJ (sK eE eE (aG (aH hr.units) (aA 0) aC) (aA 1) (aG (aH hr.units) (aA 0) aC)) (eV (cA (aW hr.units).op (aR iK (aR eC (aA 1) (aG (aH hr.units) (aA 0) aC)) (bK (gW rfl) rfl B.max boot_max (aB aC (aB (aG (aH hr.units) (aA 0) aC) aD)))) aC (aO _)))))))
    bB)
   (aI (aX (cO (eD (cM (iJ "str" wR rfl B.isinstance (aA 1) (iF (v:=.ty "str") rfl B.str_ boot_str rfl))) (eI (aQ (aW hr.units) (aA 2) aT (aO _)))))
    (aJ (aN (eJ (iJ "str" wR rfl B.isinstance (aA 1) (iF (v:=.ty "str") rfl B.str_ boot_str rfl)) (eJ (cA (aW hr.units).op (aA 2) aT (aO _)) (eV (aK G42_ (hr.mono (by omega)) rfl (aB (aG (aH hr.units) (aA 0) aC) (aB (aA 1) aD))))))))
    bB)
   (aI (aX (cO (eD (cM (iJ "list" wM rfl B.isinstance (aA 1) (iF (v:=.ty "list") rfl B.list_ boot_list rfl))) (eI (aQ (aW hr.units) (aA 2) aT (aO _)))))
    (aI (aX (cO (eD (dG (cM (iJ "list" wM rfl B.isinstance (aA 1) (iF (v:=.ty "list") rfl B.list_ boot_list rfl)))) (eD (aQ (mW hr.units) (aA 2) aT (aO _)) (eI (dG (zB eE eE (aG (aH hr.units) (aA 0) aC) (bK cE rfl B.len PySem.boot_len (aB (aA 1) aD)) (aG (aH hr.units) (aA 0) aC)))))))
     (aJ (aN cD))
     bB)
    (aJ (aN (cA (gC hr.units).op cD (bA (bX (sc:=aL qK) (XN:=["_law_part_here","_law_value","_law_word"]) (N:=["_law_item","_law_part_here"]) (own:=1) (fr:=[0]) rfl ⟨rfl,by decide +kernel,by decide +kernel,by decide +kernel,rfl,by decide +kernel,by decide,by decide +kernel⟩ (by decide) (bO (aA 1)) (λ_ _ _ _ _=>(bF 0 (by decide) (show(["_law_item","_law_part_here"]:List Str).Nodup by decide +kernel) rfl (by first|exact Or.inl rfl|exact Or.inr rfl))) (λ_ _ _ _ _=>cH) (λ_ _ _ _ _=>(aK G45_ (hr.mono (by omega)) rfl (aB (aG (aH hr.units) (aA 1) aC) (aB (aA 0) aD)))))) rfl))))
    bB)
   (aJ (aN (aK G43_ (hr.mono (by omega)) rfl (aB (aA 0) (aB (aA 1) aD)))))))))))) (λas R q=>?_)
 obtain⟨lo,hi,st,i,rfl,ok,q⟩:=q
 rw[fG]
 have q':∀b,cP lo hi st i=b->R (bT b):=λb e=>e▸q
 refine⟨rfl,_,at0,_,rfl,bJ ⟨_,rfl,sN (by decide +kernel) ?_⟩⟩
 refine⟨_,rfl,bJ ⟨_,rfl,sN (by decide +kernel) ?_⟩⟩
 refine⟨_,rfl,bS (bS ⟨_,rfl,bJ ⟨_,rfl,sNn ?_⟩⟩)⟩
 refine⟨_,rfl,_,rfl,cQ (λh1=>⟨_,rfl,_,rfl,cQ (λh2=>?_) (λh2=>?_)⟩) (λh1=>⟨false,rfl,bJ ?_⟩)⟩
 ·refine⟨_,rfl,_,rfl,.inl ⟨1,st,rfl,(show(0:Int)<max 1 st by omega),q' _ ?_⟩⟩
  unfold cP
  rw[decide_eq_true (show lo<=i from h1),decide_eq_true (show i<=hi from h2)]
  simp[eqV,Bool.beq_eq_decide_eq]
 ·refine q' _ ?_
  unfold cP
  rw[decide_eq_false (show ¬ i<=hi from h2)];simp
 ·refine q' _ ?_
  unfold cP
  rw[decide_eq_false (show ¬ lo<=i from h1)];simp
def ktF(fs:List Fd):List (Str×Tv):=fs.map λy=>(y.1,bH y)
theorem zFh(fs:List Fd)(x:Str):cZ (ktF fs) x=(fs.find? λy=>decide (y.1=x)).map bH:=by
 unfold cZ ktF
 rw[List.find?_map,Option.map_map]
 rfl
theorem iD(fs:List Fd):(ktF fs).map (·.1)=nmF fs:=by unfold ktF nmF;rw[List.map_map];rfl
theorem tE{l:List Str}(h:l.Nodup):l.Nodup:=h
theorem sC{fs:List Fd}(h:(nmF fs).Nodup){y:Fd}(hy:y∈fs):fs.find? (λz=>decide (z.1=y.1))=some y:=by
 have nd:=tE h
 cases e:fs.find? λz=>decide (z.1=y.1) with
 |none=>exact absurd (List.find?_eq_none.mp e y hy) (by simp)
 |some z=>
  have hz:=List.mem_of_find?_eq_some e
  have ez:z.1=y.1:=by simpa using List.find?_some e
  obtain⟨i,hi,rfl⟩:=List.mem_iff_getElem.mp hz
  obtain⟨j,hj,rfl⟩:=List.mem_iff_getElem.mp hy
  have:i=j:=by
   have pw:=List.pairwise_iff_getElem.mp nd
   rcases Nat.lt_trichotomy i j with z|z|z
   ·exact absurd (by simpa[nmF]using ez) (pw i j (by simpa[nmF]using hi) (by simpa[nmF]using hj) z)
   ·exact z
   ·exact absurd (by simpa[nmF]using ez.symm) (pw j i (by simpa[nmF]using hj) (by simpa[nmF]using hi) z)
  subst this
  rfl
theorem lK{fs:List Fd}(h:(nmF fs).Nodup){x:Str}(hx:x∈nmF fs):∃y∈fs,y.1=x/\cZ (ktF fs) x=some (bH y)/\bhF fs x=y.2.2/\decide (x∈dD fs)=y.2.1:=by
 obtain⟨y,hy,rfl⟩:=List.mem_map.mp hx
 have fd:=sC h hy
 refine⟨y,hy,rfl,by rw[zFh,fd];rfl,by unfold bhF;rw[fd];rfl,?_⟩
 cases e:y.2.1 with
 |true=>exact decide_eq_true (List.mem_map.mpr ⟨y,List.mem_filter.mpr ⟨hy,e⟩,rfl⟩)
 |false=>
  refine decide_eq_false λhm=>?_
  obtain⟨z,hz,ez⟩:=List.mem_map.mp hm
  have hz:=List.mem_filter.mp hz
  have f2:=sC h hz.1
  rw[ez,fd]at f2
  cases f2
  rw[e]at hz
  exact absurd hz.2 Bool.false_ne_true
theorem zAD{fs:List Fd}{x:Str}(hx:x∉nmF fs):cZ (ktF fs) x=none/\decide (x∈dD fs)=false:=by
 refine⟨lookD_none.mpr (by rw[iD];exact hx),decide_eq_false λhm=>hx ?_⟩
 obtain⟨z,hz,ez⟩:=List.mem_map.mp hm
 exact List.mem_map.mpr ⟨z,(List.mem_filter.mp hz).1,ez⟩
theorem zBd(xs:List Tv):(true != ((false==false)&&bZ xs []))=!xs.isEmpty:=by
 rw[<-iO]
 cases ((false==false)&&bZ xs [])<;>rfl
def qU(n:Nat)(fs gs:List Fd):Bool:=(((nmF fs).all λx=>decide (x∈nmF gs))&&(dD gs).all λx=>decide (x∈dD fs))&&(((nmF fs).filter λx=>decide (x∈nmF gs)).map λx=>(bhF fs x,bhF gs x)).all λx=>wiF n x.1 x.2
def zA6(n:Nat):PSp:=λas R=>∃(a b:Int) (fs:List Fd) (a' b':Int) (gs:List Fd),as=[.va (aU (.record a b fs)),.va (aU (.record a' b' gs))]/\PW (n+1) (.record a b fs)/\PW (n+1) (.record a' b' gs)/\R (bT (qU n fs gs))
theorem C49_:bG ["_law_one","_law_other","_law_here","_law_there"] ["_law_one","_law_other"] (aL hV):=fsc (by decide +kernel)
theorem zIm(h:Has K mg "_law_record_within" hV)(B:Own mg)(G52_:aE P w K mg base (4*n+5) "_law_within" ["_law_one","_law_other"] (eN n))   : aE P w K mg base (4*n+6) "_law_record_within" ["_law_one","_law_other"] (zA6 n):=by
 have nd:=C49_.nd
 refine h.pgood C49_ (fun|_,_,_,_,_,_,[_,_],_=>rfl) (λf cdv A outer s H E F hr=>
   (aI (aZ (i:=2) nd rfl (.inr rfl) (zBl (zA rfl rfl B.dict_ (bA (bX (sc:=aL hV) (XN:=["_law_one","_law_other","_law_here","_law_there"]) (N:=["_law_field"]) (own:=1) (fr:=[]) rfl ⟨rfl,by decide +kernel,by decide +kernel,by decide +kernel,rfl,by decide +kernel,by decide,by decide +kernel⟩ (by decide) (bO (aG (aH hr.units) (aA 0) aC)) (λ_ _ _ _ _=>(bF 0 (by decide) (show(["_law_field"]:List Str).Nodup by decide +kernel) rfl (by first|exact Or.inl rfl|exact Or.inr rfl))) (λ_ _ _ _ _=>cH) (λ_ _ _ _ _=>(bI (aB (aG (aH hr.units) (aA 0) aC) (aB (aA 0) aD)))))))))
   (aI (aZ (i:=3) nd rfl (.inr rfl) (zBl (zA rfl rfl B.dict_ (bA (bX (sc:=aL hV) (XN:=["_law_one","_law_other","_law_here","_law_there"]) (N:=["_law_field"]) (own:=1) (fr:=[]) rfl ⟨rfl,by decide +kernel,by decide +kernel,by decide +kernel,rfl,by decide +kernel,by decide,by decide +kernel⟩ (by decide) (bO (aG (aH hr.units) (aA 1) aC)) (λ_ _ _ _ _=>(bF 0 (by decide) (show(["_law_field"]:List Str).Nodup by decide +kernel) rfl (by first|exact Or.inl rfl|exact Or.inr rfl))) (λ_ _ _ _ _=>cH) (λ_ _ _ _ _=>(bI (aB (aG (aH hr.units) (aA 0) aC) (aB (aA 0) aD)))))))))
   (aI (aX (aQ (mW hr.units) (bA (bX (sc:=aL hV) (XN:=["_law_one","_law_other","_law_here","_law_there"]) (N:=["_law_name","_law_here","_law_there"]) (own:=1) (fr:=[2,3]) rfl ⟨rfl,by decide +kernel,by decide +kernel,by decide +kernel,rfl,by decide +kernel,by decide,by decide +kernel⟩ (by decide) (bO (aA 3)) (λ_ _ _ _ _=>(bF 0 (by decide) (show(["_law_name","_law_here","_law_there"]:List Str).Nodup by decide +kernel) rfl (by first|exact Or.inl rfl|exact Or.inr rfl))) (λ_ _ _ _ _=>(cX (cO (eR (cM (aG (aH hr.units) (aG (aH hr.units) (aA 2) (aA 0)) aC)) (fH (dG (cO (eR (aQ (eY hr.units) (aA 0) (aA 1) rfl) (fH (cM (aG (aH hr.units) (aG (aH hr.units) (aA 1) (aA 0)) aC))))))))))) (λ_ _ _ _ _=>(aA 0)))) (bA (bU aD)) (aO _))
    (aJ (aN cD))
    bB)
   (aI (aX (aQ (mW hr.units) (bA (bX (sc:=aL hV) (XN:=["_law_one","_law_other","_law_here","_law_there"]) (N:=["_law_name","_law_there"]) (own:=1) (fr:=[3]) rfl ⟨rfl,by decide +kernel,by decide +kernel,by decide +kernel,rfl,by decide +kernel,by decide,by decide +kernel⟩ (by decide) (bO (aA 2)) (λ_ _ _ _ _=>(bF 0 (by decide) (show(["_law_name","_law_there"]:List Str).Nodup by decide +kernel) rfl (by first|exact Or.inl rfl|exact Or.inr rfl))) (λ_ _ _ _ _=>(cX (aQ (gC hr.units) (aA 0) (aA 1) rfl))) (λ_ _ _ _ _=>(aA 0)))) (bA (bU aD)) (aO _))
    (aJ (aN cD))
    bB)
   (aJ (aN (cA (gC hr.units).op cD (bA (bX (sc:=aL hV) (XN:=["_law_one","_law_other","_law_here","_law_there"]) (N:=["_law_name","_law_here","_law_there"]) (own:=1) (fr:=[2,3]) rfl ⟨rfl,by decide +kernel,by decide +kernel,by decide +kernel,rfl,by decide +kernel,by decide,by decide +kernel⟩ (by decide) (bO (aA 2)) (λ_ _ _ _ _=>(bF 0 (by decide) (show(["_law_name","_law_here","_law_there"]:List Str).Nodup by decide +kernel) rfl (by first|exact Or.inl rfl|exact Or.inr rfl))) (λ_ _ _ _ _=>cH) (λ_ _ _ _ _=>(aK G52_ (hr.mono (by omega)) rfl (aB (aG (aH hr.units) (aG (aH hr.units) (aA 1) (aA 0)) aC) (aB (aG (aH hr.units) (aG (aH hr.units) (aA 2) (aA 0)) aC) aD)))))) rfl)))))))) (λas R q=>?_)
 obtain⟨a,b,fs,a',b',gs,rfl,hp,hq,q⟩:=q
 rw[bR,bR]
 have nf:=tE hp.2.1
 have ng:=tE hq.2.1
 have fl:=hp.1
 have gl:=hq.1
 refine⟨rfl,_,bC (j:=3) rfl,by rw[List.length_map];omega,dC bH (λy=>.seq true [sT y.1,bH y]) (λy hy R q=>⟨_,at0,by simp,q⟩) ⟨ktF fs,by unfold ktF;rw[List.map_map];rfl,by rw[iD];exact nf,by unfold ktF;rw[List.length_map];omega,?_⟩⟩
 refine⟨_,bC (j:=3) rfl,by rw[List.length_map];omega,dC bH (λy=>.seq true [sT y.1,bH y]) (λy hy R q=>⟨_,at0,by simp,q⟩) ⟨ktF gs,by unfold ktF;rw[List.map_map];rfl,by rw[iD];exact ng,by unfold ktF;rw[List.length_map];omega,?_⟩⟩
 show PEnds.nx _ _
 refine nxE (ρ':=[.va (.seq true [sT "record",iT a,iT b,.seq true (fs.map bH)]),.va (.seq true [sT "record",iT a',iT b',.seq true (gs.map bH)]),.va (.dct (ktF fs)),.va (.dct (ktF gs))]) rfl ?_
 have kg:∀kt∈ktF gs,kt.1∈nmF gs:=λkt h=>by rw[<-iD];exact List.mem_map.mpr ⟨kt,h,rfl⟩
 have kf:∀kt∈ktF fs,kt.1∈nmF fs:=λkt h=>by rw[<-iD];exact List.mem_map.mpr ⟨kt,h,rfl⟩
 have lg:(ktF gs).length<=8:=by unfold ktF;rw[List.length_map];exact gl
 have lf:(ktF fs).length<=8:=by unfold ktF;rw[List.length_map];exact fl
 have e1:((ktF gs).filterMap λkt=>if (decide (kt.1∈dD gs)&&!decide (kt.1∈dD fs))=true then some (sT kt.1) else none).isEmpty=(dD gs).all λx=>decide (x∈dD fs):=by
  rw[iH,Bool.eq_iff_iff,List.isEmpty_iff,List.map_eq_nil_iff,List.filter_eq_nil_iff,List.all_eq_true]
  constructor
  ·intro h x hx
   have hn:x∈nmF gs:=by
    obtain⟨z,hz,ez⟩:=List.mem_map.mp hx
    exact List.mem_map.mpr ⟨z,(List.mem_filter.mp hz).1,ez⟩
   rw[<-iD]at hn
   obtain⟨kt,hk,rfl⟩:=List.mem_map.mp hn
   have:=h kt hk
   rw[decide_eq_true hx,Bool.true_and]at this
   simpa using this
  ·intro h kt hk z
   rw[Bool.and_eq_true]at z
   have:=h kt.1 (of_decide_eq_true z.1)
   rw[this]at z
   exact absurd z.2 Bool.false_ne_true
 have e2:((ktF fs).filterMap λkt=>if decide (kt.1∈nmF gs)=true then none else some (sT kt.1)).isEmpty=(nmF fs).all λx=>decide (x∈nmF gs):=by
  rw[mD,<-iD fs,List.all_map]
  rfl
 refine⟨by rw[List.length_map];omega,cL (λkt:Str×Tv=>sT kt.1) (λkt=>if (decide (kt.1∈dD gs)&&!decide (kt.1∈dD fs))=true then some (sT kt.1) else none) (λkt hk R q=>?_) ⟨by simp,.inr (.inl rfl),_,rfl,?_⟩⟩
 ·obtain⟨y,hy,ey,ly,_,my⟩:=lK hq.2.1 (kg kt hk)
  rw[my]at q
  refine⟨_,ly,_,bC (j:=1) rfl,_,rfl,?_⟩
  cases z:y.2.1 with
  |false=>rw[z,Bool.false_and,if_neg Bool.false_ne_true]at q;exact bJ q
  |true=>
   rw[z,Bool.true_and]at q
   refine bS ?_
   by_cases hx:kt.1∈nmF fs
   ·obtain⟨x,hx',ex,lx,_,mx⟩:=lK hp.2.1 hx
    refine⟨_,rfl,?_⟩
    show if (false != (cZ (ktF fs) kt.1).isSome)=true then _ else _
    rw[lx]
    refine bS ⟨_,lx,_,bC (j:=1) rfl,_,rfl,?_⟩
    rw[mx]at q
    cases hb:x.2.1 with
    |true=>rw[hb]at q;exact bJ q
    |false=>rw[hb]at q;exact bS q
   ·obtain⟨lx,mx⟩:=zAD hx
    refine⟨_,rfl,?_⟩
    show if (false != (cZ (ktF fs) kt.1).isSome)=true then _ else _
    rw[lx]
    rw[mx]at q
    exact bJ (bS q)
 show if (true != ((false==false)&&bZ _ []))=true then _ else _
 rw[zBd,e1]
 unfold qU at q
 cases h1:(dD gs).all λx=>decide (x∈dD fs) with
 |false=>rw[h1,Bool.and_false,Bool.false_and]at q;exact bS q
 |true=>
  rw[h1,Bool.and_true]at q
  refine bJ ⟨by rw[List.length_map];omega,cL (λkt:Str×Tv=>sT kt.1) (λkt=>if decide (kt.1∈nmF gs)=true then none else some (sT kt.1)) (λkt hk R q=>⟨_,rfl,?_⟩) ⟨by simp,.inr (.inl rfl),_,rfl,?_⟩⟩
  ·show if (true != (cZ (ktF gs) kt.1).isSome)=true then _ else _
   by_cases hx:kt.1∈nmF gs
   ·obtain⟨x,_,_,lx,_⟩:=lK hq.2.1 hx
    rw[if_pos (decide_eq_true hx)]at q
    rw[lx];exact bJ q
   ·rw[if_neg (λe=>hx (of_decide_eq_true e))]at q
    rw[(zAD hx).1];exact bS q
  ·show if (true != ((false==false)&&bZ _ []))=true then _ else _
   rw[zBd,e2]
   cases h2:(nmF fs).all λx=>decide (x∈nmF gs) with
   |false=>rw[h2,Bool.false_and]at q;exact bS q
   |true=>
    rw[h2,Bool.true_and]at q
    have h2':=List.all_eq_true.mp h2
    refine bJ ⟨by rw[List.length_map];omega,dC (λkt:Str×Tv=>sT kt.1) (λkt=>bT (wiF n (bhF fs kt.1) (bhF gs kt.1))) (λkt hk R q=>?_) ?_⟩
    ·obtain⟨x,_,_,lx,bx,_⟩:=lK hp.2.1 (kf kt hk)
     obtain⟨y,_,_,ly,by',_⟩:=lK hq.2.1 (of_decide_eq_true (h2' _ (kf kt hk)))
     have m1:=gI hp kt.1
     have m2:=gI hq kt.1
     rw[bx]at m1 q
     rw[by']at m2 q
     exact⟨_,lx,_,bC (j:=2) rfl,_,ly,_,bC (j:=2) rfl,x.2.2,y.2.2,rfl,m1.1,m2.1,m1.2,m2.2,q⟩
    ·have e:(ktF fs).map (λkt=>bT (wiF n (bhF fs kt.1) (bhF gs kt.1)))=((nmF fs).map λx=>wiF n (bhF fs x) (bhF gs x)).map bT:=by rw[<-iD,List.map_map,List.map_map];rfl
     rw[e]
     refine⟨lN,?_⟩
     rw[tM]
     have ef:((nmF fs).filter λx=>decide (x∈nmF gs))=nmF fs:=List.filter_eq_self.mpr λx hx=>h2' x hx
     rw[ef,List.all_map]at q
     rw[List.all_map]
     exact q
end
end My
namespace My
open PySem L2 PyProof.Rows WordM
section
variable{P:Program}{w:World}{K:W.Frag}{mg:Str->Option Value}{base:Heap}
variable{n:Nat}
def zAq(n:Nat):PSp:=λas R=>∃p q:Pt,as=[.va (aU p),.va (aU q)]/\PW (n+1) p/\PW (n+1) q/\aY p=5/\aY q=5/\R (bT (wiP n p q))
theorem zEC{w:Wd}(hp:WdW w):(hE w).length<=100:=by
 cases w with
 |few ss=>exact Nat.le_trans hp.2.1 (by decide)
 |make hd lo hi ms=>
  show((((bY ms).map λc=>hd++bQ c (if lo > 1 then lo else 1))++(if lo=0 then [hd] else []))++[hd++bQ ((bY ms).headD 0) hi]).length<=100
  have:(bY ms).length<=94:=by
   refine Nat.le_trans (List.length_filter_le _ _) ?_
   rw[<-WordM.len,kM];exact Nat.le_refl _
  rw[List.length_append,List.length_append,List.length_map]
  split<;>simp<;>omega
theorem zGM(a b:Int)(fs:List Fd)(a' b':Int)(gs:List Fd):wiP n (.record a b fs) (.record a' b' gs)=(bdB a b a' b'&&qU n fs gs):=by
 show((bdB a b a' b'&&(((nmF fs).all λx=>decide (x∈nmF gs))&&(dD gs).all λx=>decide (x∈dD fs)))&&(((nmF fs).filter λx=>decide (x∈nmF gs)).map λx=>(fdT x,bhF fs x,bhF gs x)).all λx=>wiF n x.2.1 x.2.2)=_
 unfold qU
 rw[List.all_map,List.all_map,Bool.and_assoc]
 rfl
theorem zGL(a b:Int){fs:List Fd}(h:(nmF fs).Nodup)(a' b':Int)(w:Wd)(g:List Pt):wiP n (.record a b fs) (.table a' b' w g)=(bdB a b a' b'&&((nmF fs).all (bV w)&&fs.all λy=>wiF n y.2.2 g)):=by
 show((bdB a b a' b'&&(nmF fs).all (bV w))&&((nmF fs).map λx=>(fdT x,bhF fs x,g)).all λx=>wiF n x.2.1 x.2.2)=_
 rw[List.all_map,Bool.and_assoc]
 congr 2
 have e:∀l:List Fd,(∀y∈l,y∈fs)->((nmF l).all λx=>wiF n (bhF fs x) g)=l.all λy=>wiF n y.2.2 g:=λl hl=>by
  induction l with
  |nil=>rfl
  |cons y l ih=>
   show(wiF n (bhF fs y.1) g&&(nmF l).all _)=_
   rw[ih λz hz=>hl z (List.mem_cons_of_mem _ hz),List.all_cons]
   congr 2
   unfold bhF
   rw[sC h (hl y (by simp))]
   rfl
 exact e fs λy hy=>hy
theorem zGK(a b:Int)(w:Wd)(f:List Pt)(a' b':Int)(w':Wd)(g:List Pt):wiP n (.table a b w f) (.table a' b' w' g)=(bdB a b a' b'&&((dY w w').isNone&&wiF n f g)):=by
 show((bdB a b a' b'&&(dY w w').isNone)&&(wiF n f g&&true))=_
 rw[Bool.and_true,Bool.and_assoc]
theorem C50_:bG ["_law_one","_law_other","_law_strange"] ["_law_one","_law_other"] (aL jV):=fsc (by decide +kernel)
theorem zIl(h:Has K mg "_law_dict_within" jV)(B:Own mg)(G48_:aE P w K mg base 1 "_law_between" ["_law_one","_law_other"] gP)(G49_:aE P w K mg base (4*n+6) "_law_record_within" ["_law_one","_law_other"] (zA6 n))(G42_:aE P w K mg base 2 "_law_words_let" ["_law_words","_law_text_here"] fP)(G52_:aE P w K mg base (4*n+5) "_law_within" ["_law_one","_law_other"] (eN n))(G46_:aE P w K mg base 2 "_law_witness" ["_law_words"] kX)   : aE P w K mg base (4*n+7) "_law_dict_within" ["_law_one","_law_other"] (zAq n):=by
 have nd:=C50_.nd
 refine h.pgood C50_ (fun|_,_,_,_,_,_,[_,_],_=>rfl) (λf cdv A outer s H E F hr=>
   (aI (aX (cO (eD (dG (cM (aK G48_ (hr.mono (by omega)) rfl (aB (aA 0) (aB (aA 1) aD))))) (eI (cO (eR (aQ (aW hr.units) (aG (aH hr.units) (aA 0) aC) aT (aO _)) (fH (aQ (aW hr.units) (aG (aH hr.units) (aA 1) aC) aT (aO _))))))))
    (aJ (aN cD))
    bB)
   (aI (aX (aQ (aW hr.units) (aG (aH hr.units) (aA 1) aC) aT (aO _))
    (aJ (aN (aK G49_ (hr.mono (by omega)) rfl (aB (aA 0) (aB (aA 1) aD)))))
    bB)
   (aI (aX (aQ (aW hr.units) (aG (aH hr.units) (aA 0) aC) aT (aO _))
    (aI (gE (i:=2) (sc:=aL jV) (XN:=["_law_one","_law_other","_law_strange"]) (N:=["_law_field","_law_other"]) (own:=1) (fr:=[1]) rfl nd rfl (.inl rfl) ⟨rfl,by decide +kernel,by decide +kernel,by decide +kernel,rfl,by decide +kernel,by decide,by decide +kernel⟩ (by decide) (bO (aG (aH hr.units) (aA 0) aC)) (λ_ _ _ _ _=>(bF 0 (by decide) (show(["_law_field","_law_other"]:List Str).Nodup by decide +kernel) rfl (by first|exact Or.inl rfl|exact Or.inr rfl))) (λ_ _ _ _ _=>(cX (dG (cM (aK G42_ (hr.mono (by omega)) rfl (aB (aG (aH hr.units) (aA 1) aC) (aB (aG (aH hr.units) (aA 0) aC) aD))))))) (λ_ _ _ _ _=>(aA 0)))
    (aJ (aN (eJ (cA (aW hr.units).op (aA 2) (bA (bU aD)) (aO _)) (eV (cA (gC hr.units).op cD (bA (bX (sc:=aL jV) (XN:=["_law_one","_law_other","_law_strange"]) (N:=["_law_field","_law_other"]) (own:=1) (fr:=[1]) rfl ⟨rfl,by decide +kernel,by decide +kernel,by decide +kernel,rfl,by decide +kernel,by decide,by decide +kernel⟩ (by decide) (bO (aG (aH hr.units) (aA 0) aC)) (λ_ _ _ _ _=>(bF 0 (by decide) (show(["_law_field","_law_other"]:List Str).Nodup by decide +kernel) rfl (by first|exact Or.inl rfl|exact Or.inr rfl))) (λ_ _ _ _ _=>cH) (λ_ _ _ _ _=>(aK G52_ (hr.mono (by omega)) rfl (aB (aG (aH hr.units) (aA 0) aC) (aB (aG (aH hr.units) (aA 1) aC) aD)))))) rfl))))))
    bB)
   (aI (gE (i:=2) (sc:=aL jV) (XN:=["_law_one","_law_other","_law_strange"]) (N:=["_law_text_here","_law_other"]) (own:=1) (fr:=[1]) rfl nd rfl (.inl rfl) ⟨rfl,by decide +kernel,by decide +kernel,by decide +kernel,rfl,by decide +kernel,by decide,by decide +kernel⟩ (by decide) (bO (aK G46_ (hr.mono (by omega)) rfl (aB (aG (aH hr.units) (aA 0) aC) aD))) (λ_ _ _ _ _=>(bF 0 (by decide) (show(["_law_text_here","_law_other"]:List Str).Nodup by decide +kernel) rfl (by first|exact Or.inl rfl|exact Or.inr rfl))) (λ_ _ _ _ _=>(cX (dG (cM (aK G42_ (hr.mono (by omega)) rfl (aB (aG (aH hr.units) (aA 1) aC) (aB (aA 0) aD))))))) (λ_ _ _ _ _=>(aA 0)))
   (aJ (aN (eJ (cA (aW hr.units).op (aA 2) (bA (bU aD)) (aO _)) (eV (aK G52_ (hr.mono (by omega)) rfl (aB (aG (aH hr.units) (aA 0) aC) (aB (aG (aH hr.units) (aA 1) aC) aD)))))))))))) (λas R q=>?_)
 obtain⟨p,q',rfl,hp,hq,kp,kq,q⟩:=q
 cases p<;>first|(simp[aY]at kp;done)|skip
 all_goals (cases q'<;>first|(simp[aY]at kq;done)|skip)
 ·rename_i a b fs a' b' gs
  rw[zGM]at q
  have ea:[Ar.va (aU (.record a b fs)),.va (aU (.record a' b' gs))]=[.va (.seq true [sT "record",iT a,iT b,.seq true (fs.map bH)]),.va (.seq true [sT "record",iT a',iT b',.seq true (gs.map bH)])]:=by rw[bR,bR]
  rw[bR,bR]
  refine⟨rfl,a,b,a',b',_,_,_,_,rfl,_,rfl,?_⟩
  show if (!bdB a b a' b')=true then _ else _
  cases z:bdB a b a' b' with
  |false=>rw[z,Bool.false_and]at q;exact bS q
  |true=>
   rw[z,Bool.true_and]at q
   exact bJ ⟨_,at0,_,rfl,sN (by decide +kernel) (bJ ⟨_,at0,_,rfl,sY ⟨a,b,fs,a',b',gs,ea.symm,hp,hq,q⟩⟩)⟩
 ·rename_i a b fs a' b' w g
  rw[zGL _ _ hp.2.1]at q
  have fl:=hp.1
  rw[bR,cV]
  refine⟨rfl,a,b,a',b',_,_,_,_,rfl,_,rfl,?_⟩
  show if (!bdB a b a' b')=true then _ else _
  cases z:bdB a b a' b' with
  |false=>rw[z,Bool.false_and]at q;exact bS q
  |true=>
   rw[z,Bool.true_and]at q
   refine bJ ⟨_,at0,_,rfl,sN (by decide +kernel) (bJ ⟨_,at0,_,rfl,sN (by decide +kernel) ⟨_,at0,_,rfl,sY ?_⟩⟩)⟩
   refine⟨_,bC (j:=3) rfl,by rw[List.length_map];omega,cL bH (λy=>if bV w y.1=true then none else some (bH y)) (λy hy R q=>?_) ?_⟩
   ·refine⟨_,bC (j:=3) rfl,_,at0,w,y.1,rfl,hq.1,(hp.2.2 y hy).1.1,Nat.le_trans (hp.2.2 y hy).1.2 (by decide),_,rfl,?_⟩
    cases z:bV w y.1 with
    |true=>rw[if_pos z]at q;exact bJ q
    |false=>rw[if_neg (by rw[z];exact Bool.false_ne_true)]at q;exact bS q
   have en:(fs.filterMap λy=>if bV w y.1=true then none else some (bH y)).isEmpty=(nmF fs).all (bV w):=by
    rw[mD (p:=λy:Fd=>bV w y.1)];unfold nmF;rw[List.all_map];rfl
   refine⟨by simp,.inr (.inl rfl),_,rfl,?_⟩
   show if (false != ((false==false)&&bZ _ []))=true then _ else _
   rw[iO,en]
   cases z2:(nmF fs).all (bV w) with
   |false=>
    rw[z2,Bool.false_and]at q
    exact bJ q
   |true=>
    rw[z2,Bool.true_and]at q
    refine bS ⟨_,bC (j:=3) rfl,by rw[List.length_map];omega,dC bH (λy=>bT (wiF n y.2.2 g)) (λy hy R q=>⟨_,bC (j:=2) rfl,_,bC (j:=4) rfl,y.2.2,g,rfl,(hp.2.2 y hy).2.1,hq.2.2.1,(hp.2.2 y hy).2.2,hq.2.2.2,q⟩) ?_⟩
    rw[show fs.map (λy=>bT (wiF n y.2.2 g))=(fs.map λy=>wiF n y.2.2 g).map bT by rw[List.map_map];rfl]
    refine⟨lN,?_⟩
    rw[tM,List.all_map]
    exact q
 ·rename_i a b w f a' b' gs
  have q:R (bT false):=q
  rw[bR,cV]
  refine⟨rfl,a,b,a',b',_,_,_,_,rfl,_,rfl,?_⟩
  show if (!bdB a b a' b')=true then _ else _
  cases z:bdB a b a' b' with
  |false=>exact bS q
  |true=>exact bJ ⟨_,at0,_,rfl,sY ⟨_,at0,_,rfl,sY q⟩⟩
 ·rename_i a b w f a' b' w' g
  rw[zGK,yC hp.1 hq.1]at q
  have sh:=(oO hp.1).1
  have wl:=zEC hp.1
  rw[cV,cV]
  refine⟨rfl,a,b,a',b',_,_,_,_,rfl,_,rfl,?_⟩
  show if (!bdB a b a' b')=true then _ else _
  cases z:bdB a b a' b' with
  |false=>rw[z,Bool.false_and]at q;exact bS q
  |true=>
   rw[z,Bool.true_and]at q
   refine bJ ⟨_,at0,_,rfl,sY ⟨_,at0,_,rfl,sN (by decide +kernel) ⟨_,at0,_,rfl,sN (by decide +kernel) ⟨_,at0,_,rfl,sN (by decide +kernel) ?_⟩⟩⟩⟩
   refine⟨_,bC (j:=3) rfl,w,rfl,hp.1,by rw[List.length_map];omega,cL sT (λt=>if bV w' t=true then none else some (sT t)) (λt ht R q=>?_) ?_⟩
   ·refine⟨_,bC (j:=3) rfl,w',t,rfl,hq.1,(sh t ht).2.1,Nat.le_trans (sh t ht).2.2 (by decide),_,rfl,?_⟩
    cases z:bV w' t with
    |true=>rw[if_pos z]at q;exact bJ q
    |false=>rw[if_neg (by rw[z];exact Bool.false_ne_true)]at q;exact bS q
   refine⟨by simp,.inr (.inl rfl),_,rfl,?_⟩
   show if (false != ((false==false)&&bZ _ []))=true then _ else _
   rw[iO,mD]
   cases z2:(hE w).all λt=>bV w' t with
   |false=>
    rw[z2,Bool.false_and]at q
    exact bJ q
   |true=>
    rw[z2,Bool.true_and]at q
    exact bS ⟨_,bC (j:=4) rfl,_,bC (j:=4) rfl,f,g,rfl,hp.2.2.1,hq.2.2.1,hp.2.2.2,hq.2.2.2,q⟩
def xZ(n:Nat):PSp:=λas R=>∃p q:Pt,as=[.va (aU p),.va (aU q)]/\PW (n+1) p/\PW (n+1) q/\aY q=aY p/\R (bT (wiP n p q))
theorem zED{p q:Pt}(h:fK p q=[]):wiP n p q=shP p q:=by unfold wiP;rw[h];show(_&&true)=_;rw[Bool.and_true]
theorem C51_:bG ["_law_one","_law_other","_law_word","_law_some"] ["_law_one","_law_other"] (aL jU):=fsc (by decide +kernel)
theorem zIk(h:Has K mg "_law_part_within" jU)(B:Own mg)(G44_:aE P w K mg base 3 "_law_part_lets" ["_law_part_here","_law_value"] oI)(G46_:aE P w K mg base 2 "_law_witness" ["_law_words"] kX)(G42_:aE P w K mg base 2 "_law_words_let" ["_law_words","_law_text_here"] fP)(G52_:aE P w K mg base (4*n+5) "_law_within" ["_law_one","_law_other"] (eN n))(G48_:aE P w K mg base 1 "_law_between" ["_law_one","_law_other"] gP)(G50_:aE P w K mg base (4*n+7) "_law_dict_within" ["_law_one","_law_other"] (zAq n))   : aE P w K mg base (4*n+8) "_law_part_within" ["_law_one","_law_other"] (xZ n):=by
 have nd:=C51_.nd
 refine h.pgood C51_ (fun|_,_,_,_,_,_,[_,_],_=>rfl) (λf cdv A outer s H E F hr=>
   (aI (aZ (i:=2) nd rfl (.inl rfl) (aG (aH hr.units) (aA 0) aC))
   (aI (aX (aQ (aW hr.units) (aA 2) aT (aO _))
    (aJ (aN (cA (aW hr.units).op (bA (bX (sc:=aL jU) (XN:=["_law_one","_law_other","_law_word","_law_some"]) (N:=["_law_truth","_law_other"]) (own:=1) (fr:=[1]) rfl ⟨rfl,by decide +kernel,by decide +kernel,by decide +kernel,rfl,by decide +kernel,by decide,by decide +kernel⟩ (by decide) (bO (aG (aH hr.units) (aA 0) aC)) (λ_ _ _ _ _=>(bF 0 (by decide) (show(["_law_truth","_law_other"]:List Str).Nodup by decide +kernel) rfl (by first|exact Or.inl rfl|exact Or.inr rfl))) (λ_ _ _ _ _=>(cX (aQ (gC hr.units) (aA 0) (aG (aH hr.units) (aA 1) aC) rfl))) (λ_ _ _ _ _=>(aA 0)))) (bA (bU aD)) (aO _))))
    bB)
   (aI (aX (aQ (aW hr.units) (aA 2) aT (aO _))
    (aI (aZ (i:=3) nd rfl (.inl rfl) (bA (bU (aB (aG (aH hr.units) (aA 0) aC) (aB (aG (aH hr.units) (aA 0) aC) (aB (aR bN (aG (aH hr.units) (aA 0) aC) (aG (aH hr.units) (aA 0) aC)) aD))))))
    (aJ (aN (cA (gC hr.units).op cD (bA (bX (sc:=aL jU) (XN:=["_law_one","_law_other","_law_word","_law_some"]) (N:=["_law_number_here","_law_other"]) (own:=1) (fr:=[1]) rfl ⟨rfl,by decide +kernel,by decide +kernel,by decide +kernel,rfl,by decide +kernel,by decide,by decide +kernel⟩ (by decide) (bO (aA 3)) (λ_ _ _ _ _=>(bF 0 (by decide) (show(["_law_number_here","_law_other"]:List Str).Nodup by decide +kernel) rfl (by first|exact Or.inl rfl|exact Or.inr rfl))) (λ_ _ _ _ _=>cH) (λ_ _ _ _ _=>(aK G44_ (hr.mono (by omega)) rfl (aB (aA 1) (aB (aA 0) aD)))))) rfl))))
    bB)
   (aI (aX (aQ (aW hr.units) (aA 2) aT (aO _))
    (aJ (aN (cA (aW hr.units).op (bA (bX (sc:=aL jU) (XN:=["_law_one","_law_other","_law_word","_law_some"]) (N:=["_law_text_here","_law_other"]) (own:=1) (fr:=[1]) rfl ⟨rfl,by decide +kernel,by decide +kernel,by decide +kernel,rfl,by decide +kernel,by decide,by decide +kernel⟩ (by decide) (bO (aK G46_ (hr.mono (by omega)) rfl (aB (aG (aH hr.units) (aA 0) aC) aD))) (λ_ _ _ _ _=>(bF 0 (by decide) (show(["_law_text_here","_law_other"]:List Str).Nodup by decide +kernel) rfl (by first|exact Or.inl rfl|exact Or.inr rfl))) (λ_ _ _ _ _=>(cX (dG (cM (aK G42_ (hr.mono (by omega)) rfl (aB (aG (aH hr.units) (aA 1) aC) (aB (aA 0) aD))))))) (λ_ _ _ _ _=>(aA 0)))) (bA (bU aD)) (aO _))))
    bB)
   (aI (aX (aQ (aW hr.units) (aA 2) aT (aO _))
    (aJ (aN (eJ (aK G48_ (hr.mono (by omega)) rfl (aB (aA 0) (aB (aA 1) aD))) (eV (aK G52_ (hr.mono (by omega)) rfl (aB (aG (aH hr.units) (aA 0) aC) (aB (aG (aH hr.units) (aA 1) aC) aD)))))))
    bB)
   (aJ (aN (zGR (cA (aW hr.units).op (aA 2) aT (aO _)) (eV (aK G50_ (hr.mono (by omega)) rfl (aB (aA 0) (aB (aA 1) aD))))))))))))) (λas R q=>?_)
 obtain⟨p,q',rfl,hp,hq,k,q⟩:=q
 by_cases k5:aY p=5
 ·obtain⟨r,ep,_⟩:=oX p
  have ea:[Ar.va (.seq true (sT (gY p)::r)),.va (aU q')]=[.va (aU p),.va (aU q')]:=by rw[ep]
  have hw:gY p="record"\/gY p="table":=by cases p<;>first|(simp[aY]at k5;done)|exact .inl rfl|exact .inr rfl
  rw[ep]
  generalize gY p=w at hw ea
  refine⟨rfl,_,at0,_,rfl,sN (by rcases hw with rfl|rfl<;>decide +kernel) ⟨_,rfl,sN (by rcases hw with rfl|rfl<;>decide +kernel) ⟨_,rfl,sN (by rcases hw with rfl|rfl<;>decide +kernel) ⟨_,rfl,sN (by rcases hw with rfl|rfl<;>decide +kernel) ⟨_,rfl,sN (by rcases hw with rfl|rfl<;>decide +kernel) ⟨p,q',ea,hp,hq,k5,k.trans k5,q⟩⟩⟩⟩⟩⟩
 cases p<;>cases q'<;>first|(simp[aY]at k;done)|exact absurd rfl k5|skip
 all_goals first|rw[zED rfl]at q|skip
 ·rw[nP]
  exact⟨rfl,_,at0,_,rfl,sN (by decide +kernel) ⟨_,rfl,sN (by decide +kernel) ⟨_,rfl,sN (by decide +kernel) ⟨_,rfl,sN (by decide +kernel) ⟨_,rfl,sY q⟩⟩⟩⟩⟩
 ·rename_i bs cs
  rw[jB,jB]
  have bl:bs.length<=2:=by rcases hp with rfl|rfl|rfl<;>simp
  refine⟨rfl,_,at0,_,rfl,sY ⟨_,bC (j:=1) rfl,by rw[List.length_map];omega,cL bT (λb=>if decide (b∈cs)=true then none else some (bT b)) (λb hb R q=>⟨_,bC (j:=1) rfl,lN,_,rfl,?_⟩) ⟨by simp,.inr (.inl rfl),?_⟩⟩⟩
  ·have e:(true != (cs.map bT).any λk=>L2.eqT k (bT b))=!decide (b∈cs):=by rw[<-zAO];cases (cs.map bT).any λk=>L2.eqT k (bT b)<;>rfl
   show if (true != (cs.map bT).any λk=>L2.eqT k (bT b))=true then _ else _
   rw[e]
   cases z:decide (b∈cs) with
   |true=>rw[if_pos z]at q;exact bJ q
   |false=>rw[if_neg (by rw[z];exact Bool.false_ne_true)]at q;exact bS q
  ·show R (bT (false != ((false==false)&&bZ _ [])))
   rw[iO,mD]
   exact q
 ·rename_i lo hi st lo' hi' st'
  rw[fG,fG]
  refine⟨rfl,_,at0,_,rfl,sN (by decide +kernel) ⟨_,rfl,sY ?_⟩⟩
  refine⟨_,bC (j:=1) rfl,_,bC (j:=2) rfl,_,bC (j:=1) rfl,_,bC (j:=3) rfl,by simp,?_⟩
  refine⟨by simp,dC iT (λi=>bT (cP lo' hi' st' i)) (l:=iS lo hi st) (λi _ R q=>⟨lo',hi',st',i,by rw[fG],hq,q⟩) ?_⟩
  have e:(iS lo hi st).map (λi=>bT (cP lo' hi' st' i))=((iS lo hi st).map λi=>cP lo' hi' st' i).map bT:=by rw[List.map_map];rfl
  rw[e]
  refine⟨lN,?_⟩
  rw[tM,List.all_map]
  exact q
 ·rename_i w w'
  rw[iC,iC]
  have sh:=(oO hp).1
  have wl:(hE w).length<=100:=by
   cases w with
   |few ss=>exact Nat.le_trans hp.2.1 (by decide)
   |make hd lo hi ms=>
    show((((bY ms).map λc=>hd++bQ c (if lo > 1 then lo else 1))++(if lo=0 then [hd] else []))++[hd++bQ ((bY ms).headD 0) hi]).length<=100
    have:(bY ms).length<=94:=by
     refine Nat.le_trans (List.length_filter_le _ _) ?_
     rw[<-WordM.len,kM];exact Nat.le_refl _
    rw[List.length_append,List.length_append,List.length_map]
    split<;>simp<;>omega
  have q:R (bT (dY w w').isNone):=q
  rw[yC hp hq]at q
  refine⟨rfl,_,at0,_,rfl,sN (by decide +kernel) ⟨_,rfl,sN (by decide +kernel) ⟨_,rfl,sY ⟨_,bC (j:=1) rfl,w,rfl,hp,by rw[List.length_map];omega,cL sT (λt=>if bV w' t=true then none else some (sT t)) (λt ht R q=>⟨_,bC (j:=1) rfl,w',t,rfl,hq,(sh t ht).2.1,Nat.le_trans (sh t ht).2.2 (by decide),_,rfl,?_⟩) ⟨by simp,.inr (.inl rfl),?_⟩⟩⟩⟩⟩
  ·cases z:bV w' t with
   |true=>rw[if_pos z]at q;exact bJ q
   |false=>rw[if_neg (by rw[z];exact Bool.false_ne_true)]at q;exact bS q
  ·show R (bT (false != ((false==false)&&bZ _ [])))
   rw[iO,mD]
   exact q
 ·rename_i a b f a' b' f'
  rw[gA,gA]
  have q:R (bT (bdB a b a' b'&&(wiF n f f'&&true))):=q
  rw[Bool.and_true]at q
  refine⟨rfl,_,at0,_,rfl,sN (by decide +kernel) ⟨_,rfl,sN (by decide +kernel) ⟨_,rfl,sN (by decide +kernel) ⟨_,rfl,sY ⟨a,b,a',b',_,_,_,_,rfl,_,rfl,?_⟩⟩⟩⟩⟩
  show if bdB a b a' b'=true then _ else _
  cases z:bdB a b a' b' with
  |false=>rw[z,Bool.false_and]at q;exact bJ q
  |true=>
   rw[z,Bool.true_and]at q
   exact bS ⟨_,bC (j:=3) rfl,_,bC (j:=3) rfl,f,f',rfl,hp.1,hq.1,hp.2,hq.2,q⟩
theorem C52_:bG ["_law_one","_law_other","_law_part_here","_law_some"] ["_law_one","_law_other"] (aL iV):=fsc (by decide +kernel)
theorem g52_(h:Has K mg "_law_within" iV)(B:Own mg)(G47_:aE P w K mg base 1 "_law_kind" ["_law_part_here"] lZ)(G51_:aE P w K mg base (4*n+8) "_law_part_within" ["_law_one","_law_other"] (xZ n))   : aE P w K mg base (4*n+9) "_law_within" ["_law_one","_law_other"] (eN (n+1)):=by
 have nd:=C52_.nd
 refine h.pgood C52_ (fun|_,_,_,_,_,_,[_,_],_=>rfl) (λf cdv A outer s H E F hr=>
   (aI (fT (m:=4) PassesOwn.never rfl (bO (aA 0)) (bF 2 (by decide) nd rfl (.inr rfl))
    (aI (gE (i:=3) (sc:=aL iV) (XN:=["_law_one","_law_other","_law_part_here","_law_some"]) (N:=["_law_there","_law_part_here"]) (own:=1) (fr:=[2]) rfl nd rfl (.inl rfl) ⟨rfl,by decide +kernel,by decide +kernel,by decide +kernel,rfl,by decide +kernel,by decide,by decide +kernel⟩ (by decide) (bO (aA 1)) (λ_ _ _ _ _=>(bF 0 (by decide) (show(["_law_there","_law_part_here"]:List Str).Nodup by decide +kernel) rfl (by first|exact Or.inl rfl|exact Or.inr rfl))) (λ_ _ _ _ _=>(cX (aQ (aW hr.units) (aK G47_ (hr.mono (by omega)) rfl (aB (aA 0) aD)) (aK G47_ (hr.mono (by omega)) rfl (aB (aA 1) aD)) (aO _)))) (λ_ _ _ _ _=>(aA 0)))
    (aJ (aX (cO (eD (aQ (aW hr.units) (aA 3) (bA (bU aD)) (aO _)) (eI (dG (cM (aK G51_ (hr.mono (by omega)) rfl (aB (aA 2) (aB (aG (aH hr.units) (aA 3) aC) aD))))))))
     (aJ (aN cD))
     bB))))
   (aJ (aN cD)))) (λas R q=>?_)
 obtain⟨f,g,rfl,lf,lg,hf,hg,q⟩:=q
 refine⟨rfl,?_⟩
 refine pF aU (l:=f) (λi ρ=>(∀j p,j<i->f[j]?=some p->wiO n p (g.find? λq=>decide (aY q=aY p))=true)/\∃s1 s2,ρ=[.va (cK f),.va (cK g),s1,s2]) ⟨λj p h=>absurd h (Nat.not_lt_zero _),.no,.no,rfl⟩ ?_ ?_
 ·rintro i p _ N hp ⟨hj,s1,s2,rfl⟩ hN
  have hpm:=List.mem_of_getElem? hp
  have bad:wiO n p (g.find? λq=>decide (aY q=aY p))=false->R (bT false):=λe=>by
   have:wiF (n+1) f g=false:=by
    rw[sG,List.all_eq_false]
    exact⟨p,hpm,by rw[e];exact Bool.false_ne_true⟩
   rw[this]at q;exact q
  refine⟨?_,cL aU (λq=>if decide (aY q=aY p)=true then some (aU q) else none) (λq' hq' R q=>⟨q',rfl,p,rfl,_,rfl,eM (λz=>?_) (λz=>?_)⟩) ?_⟩
  ·rw[List.length_map];omega
  ·have z:=zC5 (lV q') (lV p) z
   rw[if_pos (decide_eq_true z)]at q;exact q
  ·rw[if_neg (λe=>z (by rw[of_decide_eq_true e]))]at q;exact q
  ·have ef:∀l:List Pt,(l.filterMap λq=>if decide (aY q=aY p)=true then some (aU q) else none)=(l.filter λq=>decide (aY q=aY p)).map aU:=λl=>by
    induction l with
    |nil=>rfl
    |cons a l ih=>
     rw[List.filterMap_cons,List.filter_cons,ih]
     cases decide (aY a=aY p)<;>simp
   rw[ef]
   have hfd:g.find? (λq=>decide (aY q=aY p))=(g.filter λq=>decide (aY q=aY p)).head?:=(List.head?_filter ..).symm
   rw[hfd]at bad
   have hgd:wiO n p (g.filter λq=>decide (aY q=aY p)).head?=true->∀j p,j<i+1->f[j]?=some p->wiO n p (g.find? λq=>decide (aY q=aY p))=true:=λe j p' hj' ep=>by
    by_cases z:j=i
    ·subst z;rw[hp]at ep;cases ep;rw[hfd];exact e
    ·exact hj j p' (by omega) ep
   have hm:∀q∈g.filter λq=>decide (aY q=aY p),PW (n+1) q/\aY q=aY p:=λq hq=>⟨hg q (List.mem_filter.mp hq).1,by simpa using (List.mem_filter.mp hq).2⟩
   generalize (g.filter λq=>decide (aY q=aY p))=L at bad hgd hm
   show PEnds.nx _ _
   refine nxE (ρ':=[.va (cK f),.va (cK g),.va (aU p),.va (.seq false (L.map aU))]) rfl ?_
   refine⟨by simp,.inr (.inl rfl),_,rfl,?_⟩
   show if (false != ((false==false)&&bZ (L.map aU) []))=true then _ else _
   rw[iO]
   cases L with
   |nil=>exact bS (bad rfl)
   |cons q0 L=>
    obtain⟨h1,h2⟩:=hm q0 (by simp)
    refine bJ ⟨_,at0,p,q0,rfl,hf p hpm,h1,h2,_,rfl,?_⟩
    cases e:wiP n p q0 with
    |false=>exact bS (bad e)
    |true=>exact bJ (hN _ ⟨hgd e,_,_,rfl⟩)
 ·rintro _ ⟨hj,s1,s2,rfl⟩
  have:wiF (n+1) f g=true:=by
   rw[sG,List.all_eq_true]
   intro p hp
   obtain⟨j,hj',rfl⟩:=List.mem_iff_getElem.mp hp
   exact hj j _ hj' (List.getElem?_eq_getElem hj')
  rw[this]at q
  exact q
namespace B0
theorem C52_:bG ["_law_one","_law_other","_law_part_here","_law_some"] ["_law_one","_law_other"] (aL iV):=fsc (by decide +kernel)
theorem g52_(h:Has K mg "_law_within" iV)(B:Own mg)(G47_:aE P w K mg base 1 "_law_kind" ["_law_part_here"] lZ)(G51_:aE P w K mg base 4 "_law_part_within" ["_law_one","_law_other"] iM)   : aE P w K mg base 5 "_law_within" ["_law_one","_law_other"] (eN 0):=by
 have nd:=C52_.nd
 refine h.pgood C52_ (fun|_,_,_,_,_,_,[_,_],_=>rfl) (λf cdv A outer s H E F hr=>
   (aI (fT (m:=4) PassesOwn.never rfl (bO (aA 0)) (bF 2 (by decide) nd rfl (.inr rfl))
    (aI (gE (i:=3) (sc:=aL iV) (XN:=["_law_one","_law_other","_law_part_here","_law_some"]) (N:=["_law_there","_law_part_here"]) (own:=1) (fr:=[2]) rfl nd rfl (.inl rfl) ⟨rfl,by decide +kernel,by decide +kernel,by decide +kernel,rfl,by decide +kernel,by decide,by decide +kernel⟩ (by decide) (bO (aA 1)) (λ_ _ _ _ _=>(bF 0 (by decide) (show(["_law_there","_law_part_here"]:List Str).Nodup by decide +kernel) rfl (by first|exact Or.inl rfl|exact Or.inr rfl))) (λ_ _ _ _ _=>(cX (aQ (aW hr.units) (aK G47_ (hr.mono (by omega)) rfl (aB (aA 0) aD)) (aK G47_ (hr.mono (by omega)) rfl (aB (aA 1) aD)) (aO _)))) (λ_ _ _ _ _=>(aA 0)))
    (aJ (aX (cO (eD (aQ (aW hr.units) (aA 3) (bA (bU aD)) (aO _)) (eI (dG (cM (aK G51_ (hr.mono (by omega)) rfl (aB (aA 2) (aB (aG (aH hr.units) (aA 3) aC) aD))))))))
     (aJ (aN cD))
     bB))))
   (aJ (aN cD)))) (λas R q=>?_)
 obtain⟨f,g,rfl,lf,lg,hf,hg,q⟩:=q
 cases f with
 |nil=>exact⟨rfl,iE (λi ρ=>True) trivial (λi T _ N hT _ hN=>by cases hT) (λ_ _=>q)⟩
 |cons p f=>exact False.elim (hf p (by simp))
end B0
theorem zBh(hw:Has K mg "_law_within" iV)(hp:Has K mg "_law_part_within" jU)(hd:Has K mg "_law_dict_within" jV)(hr:Has K mg "_law_record_within" hV)(B:Own mg)
  (G1:aE P w K mg base 1 "_law_kind" ["_law_part_here"] lZ) (G2:aE P w K mg base 3 "_law_part_lets" ["_law_part_here","_law_value"] oI) (G3:aE P w K mg base 2 "_law_words_let" ["_law_words","_law_text_here"] fP) (G4:aE P w K mg base 2 "_law_witness" ["_law_words"] kX) (G5:aE P w K mg base 1 "_law_between" ["_law_one","_law_other"] gP):∀n:Nat,aE P w K mg base (4*n+5) "_law_within" ["_law_one","_law_other"] (eN n)
 |0=>B0.g52_ hw B G1 (hp.pfalse C51_ (fun|_,_,_,_,_,_,[_,_],_=>rfl) λas R h=>h)
 |n+1=>by
  have Gw:=zBh hw hp hd hr B G1 G2 G3 G4 G5 n
  have Gr:=zIm hr B Gw
  have Gd:=zIl hd B G5 Gr G3 Gw G4
  exact g52_ hw B G1 (zIk hp B G2 G4 G3 Gw G5 Gd)
end
end My
namespace My
open PySem L2 PyProof.Rows WordM
section
variable{P:Program}{w:World}{K:W.Frag}{mg:Str->Option Value}{base:Heap}
variable{n:Nat}
def jO(n:Nat):PSp:=λas R=>∃nm tx st sp,∃deep most:Int,as=[.dk,.va (bW nm tx st sp),.va (iT deep),.va (iT most)]/\gH nm tx st sp/\0<=deep/\deep<n/\1<=most/\most<=6/\∀f,f≠[]->mR n f->R (cK f)
def zAo(n:Nat):PSp:=λas R=>∃nm tx st sp,∃deep:Int,as=[.dk,.va (bW nm tx st sp),.va (iT deep)]/\gH nm tx st sp/\1<=deep/\deep<=n/\∀a b w f,PartOk (n+1) (.table a b w f)->R (aU (.table a b w f))
def lT(n:Nat):PSp:=λas R=>∃nm tx st sp,∃deep many:Int,as=[.dk,.va (bW nm tx st sp),.va (iT deep),.va (iT many)]/\gH nm tx st sp/\1<=deep/\deep<=n/\0<=many/\many<=8/\∀a b fs,PartOk (n+1) (.record a b fs)->R (aU (.record a b fs))
def zA7(n:Nat):PSp:=λas R=>∃nm tx st sp,∃deep kind most:Int,as=[.dk,.va (bW nm tx st sp),.va (iT deep),.va (iT kind),.va (iT most)]/\gH nm tx st sp/\0<=deep/\deep<=n/\0<=kind/\kind<=5/\1<=most/\most<=6/\∀p,PartOk (n+1) p->(aY p:Int)=kind->R (aU p)
theorem C38_:bG ["_law_deck_here","_law_world_here","_law_deep","_law_make_here","_law_most"] ["_law_deck_here","_law_world_here","_law_deep"] (aL qN):=fsc (by decide +kernel)
theorem zIx(h:Has K mg "_law_table" qN)(B:Own mg)(G35_:aE P w K mg base 4 "_law_make" ["_law_deck_here"] mM)(G29_:aE P w K mg base 2 "_law_take" ["_law_deck_here","_law_most"] dH)(G40_:aE P w K mg base (6+3*n) "_law_form" ["_law_deck_here","_law_world_here","_law_deep","_law_most"] (jO n))   : aE P w K mg base (6+3*n+1) "_law_table" ["_law_deck_here","_law_world_here","_law_deep"] (zAo n):=by
 have nd:=C38_.nd
 refine h.pgood C38_ (fun|_,_,_,_,_,_,[_,_,_],_=>rfl) (λf cdv A outer s H E F hr=>
   (aI (aZ (i:=3) nd rfl (.inl rfl) (aK G35_ (hr.mono (by omega)) rfl (bD 0 aD)))
   (aI (aZ (i:=4) nd rfl (.inl rfl) (aR bN aC (aK G29_ (hr.mono (by omega)) rfl (bD 0 (aB aC aD)))))
   (aI (aX (cO (eR (aQ kW (aG (aH hr.units) (aA 3) aC) aC (aO _)) (fH (aQ (aW hr.units) (aK G29_ (hr.mono (by omega)) rfl (bD 0 (aB aC aD))) aC (aO _)))))
    (aJ (aZ (i:=4) nd rfl (.inl rfl) aC))
    bB)
   (aJ (aN (bI (aB aT (aB (aK G29_ (hr.mono (by omega)) rfl (bD 0 (aB (aR bN (bK (iL rfl) rfl B.min boot_min (aB (aA 4) (aB aC aD))) aC) aD))) (aB (aA 4) (aB (aA 3) (aB (aK G40_ (hr.mono (by omega)) rfl (bD 0 (aB (aA 1) (aB (aR eC (aA 2) aC) (aB aC aD))))) aD)))))))))))) (λas R q=>?_)
 obtain⟨nm,tx,st,sp,deep,rfl,hw,d0,d1,q⟩:=q
 refine⟨rfl,rfl,rfl,λh a b ms m=>?_⟩
 refine⟨rfl,10,rfl,by decide,bE (by decide) (by decide),λc c0 c1=>?_⟩
 have fin:∀most:Int,1<=most->most<=60->∀k:Int,0<=k->k<min most 3+1->∀f,f≠[]->mR n f->R (aU (.table k most (.make h a b ms) f)):=λmost m1 m2 k k0 k1 f fn hf=>q _ _ _ _ ⟨⟨k0,by omega⟩,by omega,m1,by omega,m.ok,rfl,fn,hf.1,hf.2⟩
 refine⟨_,rfl,_,rfl,sif (λz=>⟨rfl,8,rfl,by decide,bE (by decide) (by decide),λe e0 e1=>⟨_,rfl,sif (λ_=>?_) (λ_=>?_)⟩⟩) (λz=>bJ ?_)⟩
 all_goals
  refine⟨rfl,.inl ⟨_,_,rfl,_,rfl,by omega,bE (by omega) (by omega),λk k0 k1=>⟨rfl,nm,tx,st,sp,_,_,rfl,hw,by omega,by omega,by decide,by decide,λf fn hf=>⟨by simp,?_⟩⟩⟩⟩
  have:=fin _ (by omega) (by omega) k k0 k1 f fn hf
  rw[cV]at this
  exact this
theorem yQ{n:Nat}:∀{ss:List Str}{Us:List Tv},Paired (λT U=>∃(s:Str) (b:Bool) (f:List Pt),T=sT s/\U=bH (s,b,f)/\f≠[]/\mR n f) (ss.map sT) Us->∃fs:List (Str×Bool×List Pt),Us=fs.map bH/\fs.map (·.1)=ss/\∀x∈fs,x.2.2≠[]/\mR n x.2.2
 |[],[],_=>⟨[],rfl,rfl,λx hx=>nomatch hx⟩
 |s::ss,U::Us,.cons r t=>by
  obtain⟨fs,rfl,e2,h⟩:=yQ (ss:=ss) t
  obtain⟨s',b,f,e,rfl,fn,hf⟩:=r
  have e:s=s':=by cases e;rfl
  subst e
  refine⟨(s,b,f)::fs,rfl,by rw[List.map_cons,e2],λx hx=>?_⟩
  rcases List.mem_cons.mp hx with rfl|hx
  ·exact⟨fn,hf⟩
  ·exact h x hx
theorem zEt(fs:List (Str×Bool×List Pt)):(fs.filterMap λx=>if x.2.1=true then some (bH x) else none)=(fs.filter λx=>x.2.1).map bH:=by
 induction fs with
 |nil=>rfl
 |cons x fs ih=>
  rw[List.filterMap_cons,List.filter_cons]
  cases h:x.2.1 with
  |true=>simp[h,ih]
  |false=>simp[h,ih]
theorem C37_:bG ["_law_deck_here","_law_world_here","_law_deep","_law_many","_law_names","_law_some","_law_fields","_law_musts","_law_least","_law_most"] ["_law_deck_here","_law_world_here","_law_deep","_law_many"] (aL jW):=fsc (by decide +kernel)
theorem zBU(h:Has K mg "_law_record" jW)(B:Own mg)(G29_:aE P w K mg base 2 "_law_take" ["_law_deck_here","_law_most"] dH)(G40_:aE P w K mg base (6+3*n) "_law_form" ["_law_deck_here","_law_world_here","_law_deep","_law_most"] (jO n))   : aE P w K mg base (6+3*n+1) "_law_record" ["_law_deck_here","_law_world_here","_law_deep","_law_many"] (lT n):=by
 have nd:=C37_.nd
 refine h.pgood C37_ (fun|_,_,_,_,_,_,[_,_,_,_],_=>rfl) (λf cdv A outer s H E F hr=>
   (aI (iI (i:=4) nd rfl (.inr rfl) (jC jF rfl B.list_ boot_list (aB (aG (aH hr.units) (aA 1) aC) aD)))
   (aI (aZ (i:=5) nd rfl (.inl rfl) (bA (lO (oF rfl) rfl B.sorted boot_sorted (aB (bA (bX (sc:=aL jW) (XN:=["_law_deck_here","_law_world_here","_law_deep","_law_many","_law_names","_law_some","_law_fields","_law_musts","_law_least","_law_most"]) (N:=["_law_k","_law_deck_here","_law_names"]) (own:=1) (fr:=[0,4]) rfl ⟨rfl,by decide +kernel,by decide +kernel,by decide +kernel,rfl,by decide +kernel,by decide,by decide +kernel⟩ (by decide) (gO rfl B.range (aB (aA 3) aD)) (λ_ _ _ _ _=>(bF 0 (by decide) (show(["_law_k","_law_deck_here","_law_names"]:List Str).Nodup by decide +kernel) rfl (by first|exact Or.inl rfl|exact Or.inr rfl))) (λ_ _ _ _ _=>cH) (λ_ _ _ _ _=>(lQ 2 (aK G29_ (hr.mono (by omega)) rfl (bD 1 (aB (fS λF=>(bK cE rfl B.len PySem.boot_len (aB (aA 2) aD))) aD))))))) aD))))
   (aI (aZ (i:=6) nd rfl (.inl rfl) (gB gQ rfl B.tuple_ boot_tuple (aB (bA (bX (sc:=aL jW) (XN:=["_law_deck_here","_law_world_here","_law_deep","_law_many","_law_names","_law_some","_law_fields","_law_musts","_law_least","_law_most"]) (N:=["_law_name","_law_deck_here","_law_world_here","_law_deep"]) (own:=1) (fr:=[0,1,2]) rfl ⟨rfl,by decide +kernel,by decide +kernel,by decide +kernel,rfl,by decide +kernel,by decide,by decide +kernel⟩ (by decide) (bO (aA 5)) (λ_ _ _ _ _=>(bF 0 (by decide) (show(["_law_name","_law_deck_here","_law_world_here","_law_deep"]:List Str).Nodup by decide +kernel) rfl (by first|exact Or.inl rfl|exact Or.inr rfl))) (λ_ _ _ _ _=>cH) (λ_ _ _ _ _=>(bI (aB (aA 0) (aB (cA (aW hr.units).op (aK G29_ (hr.mono (by omega)) rfl (bD 1 (aB aC aD))) aC (aO _)) (aB (aK G40_ (hr.mono (by omega)) rfl (bD 1 (aB (aA 2) (aB (aR eC (aA 3) aC) (aB aC aD))))) aD))))))) aD)))
   (aI (aZ (i:=7) nd rfl (.inl rfl) (bK cE rfl B.len PySem.boot_len (aB (bA (bX (sc:=aL jW) (XN:=["_law_deck_here","_law_world_here","_law_deep","_law_many","_law_names","_law_some","_law_fields","_law_musts","_law_least","_law_most"]) (N:=["_law_field"]) (own:=1) (fr:=[]) rfl ⟨rfl,by decide +kernel,by decide +kernel,by decide +kernel,rfl,by decide +kernel,by decide,by decide +kernel⟩ (by decide) (bO (aA 6)) (λ_ _ _ _ _=>(bF 0 (by decide) (show(["_law_field"]:List Str).Nodup by decide +kernel) rfl (by first|exact Or.inl rfl|exact Or.inr rfl))) (λ_ _ _ _ _=>(cX (cM (aG (aH hr.units) (aA 0) aC)))) (λ_ _ _ _ _=>(aA 0)))) aD)))
   (aI (aZ (i:=8) nd rfl (.inl rfl) (aA 3))
   (aI (aZ (i:=9) nd rfl (.inl rfl) (aA 3))
   (aI (aX (aQ iP (aA 7) (aA 3) (aO _))
    (aI (aZ (i:=8) nd rfl (.inl rfl) (aR bN (aA 7) (aK G29_ (hr.mono (by omega)) rfl (bD 0 (aB (aR eC (aA 3) (aA 7)) aD)))))
    (aI (aZ (i:=9) nd rfl (.inl rfl) (bK (gW rfl) rfl B.max boot_max (aB (aA 8) (aB (aR bN (aA 7) aC) aD))))
    (aJ (aZ (i:=9) nd rfl (.inl rfl) (aR bN (aA 9) (aK G29_ (hr.mono (by omega)) rfl (bD 0 (aB (aR bN (aR eC (aA 3) (aA 9)) aC) aD))))))))
    bB)
   (aJ (aN (bI (aB aT (aB (aA 8) (aB (aA 9) (aB (aA 6) aD))))))))))))))) (λas R q=>?_)
 obtain⟨nm,tx,st,sp,deep,many,rfl,hw,d0,d1,m0,m8,q⟩:=q
 refine⟨rfl,_,rfl,false,_,rfl,?_⟩
 refine⟨_,rfl,by omega,by omega,by rw[fR];omega,?_⟩
 refine sE (λi Us ρ=>∃ps rs:List Str,Us=ps.map sT/\ps.length=i/\(ps++rs).Perm nm/\ρ=[.dk,.va (bW nm tx st sp),.va (iT deep),.va (iT many),.own (rs.map sT),.no,.no,.no,.no,.no]) ⟨[],nm,rfl,rfl,List.Perm.refl _,rfl⟩ ?_ ?_
 ·rintro i T _ _ hT ⟨ps,rs,rfl,hl,hp,rfl⟩ R hR
  have hi:=(jL hT).1
  have hlen:=hp.length_eq
  rw[List.length_append,hw.n11]at hlen
  refine⟨⟨_,rfl⟩,rfl,_,rfl,(rs.map sT).length,rfl,by rw[List.length_map];omega,by rw[List.length_map];exact bE (by omega) (by omega),λr r0 r1=>?_⟩
  rw[List.length_map]at r1
  obtain⟨x,hx⟩:=uI r0 r1
  refine⟨r,_,sT x,rfl,rfl,r0,by rw[List.getElem?_map,hx];rfl,hR (some (sT x)) _ ⟨ps++[x],rs.eraseIdx r.toNat,by rw[List.map_append];rfl,by rw[List.length_append,hl];rfl,sR hp hx,?_⟩⟩
  show [Sl.dk,.va (bW nm tx st sp),.va (iT deep),.va (iT many),.own ((rs.map sT).eraseIdx r.toNat),.no,.no,.no,.no,.no]=_
  rw[kF]
 ·rintro _ _ ⟨ps,rs,rfl,hl,hp,rfl⟩
  rw[fR]at hl
  have hnd:ps.Nodup:=(hp.nodup_iff.mpr hw.nd).sublist (List.sublist_append_left _ _)
  have hps:(dI ps).length=many.toNat:=by rw[jE,hl]
  have hrise:=oE hnd
  have htx:∀s∈dI ps,qZ s:=λs hs=>by
   have hs:s∈nm:=hp.mem_iff.mp (List.mem_append_left _ ((kB ps).mem_iff.mp hs))
   exact⟨(hw.ns s hs).1,by have:=(hw.ns s hs).2;omega⟩
  refine .inr (.inl ⟨ps,rfl,by omega,?_⟩)
  refine⟨by rw[List.length_map];omega,?_⟩
  refine oM (λT U=>∃(s:Str) (b:Bool) (f:List Pt),T=sT s/\U=bH (s,b,f)/\f≠[]/\mR n f) (λT hT R hR=>?_) (λUs hUs=>?_)
  ·obtain⟨s,hs,rfl⟩:=List.mem_map.mp hT
   refine⟨rfl,2,rfl,by decide,bE (by decide) (by decide),λr r0 r1=>?_⟩
   exact⟨rfl,nm,tx,st,sp,_,_,rfl,hw,by omega,by omega,by decide,by decide,λf fn hf=>⟨by simp,hR _ ⟨s,_,f,rfl,rfl,fn,hf⟩⟩⟩
  ·obtain⟨fs,rfl,hf1,hf2⟩:=yQ hUs
   have hfl:fs.length=many.toNat:=by rw[<-hps,<-hf1,List.length_map]
   refine⟨false,_,rfl,?_⟩
   refine⟨by rw[List.length_map];omega,?_⟩
   refine cL bH (λx=>if x.2.1=true then some (bH x) else none) (λx hx R q=>⟨_,rfl,_,rfl,sif (λz=>?_) (λz=>?_)⟩) ?_
   ·rw[if_pos z]at q;exact q
   ·rw[if_neg (by rw[z];exact Bool.false_ne_true)]at q;exact q
   rw[zEt]
   have hml:iG fs<=fs.length:=List.length_filter_le _ _
   have fin:∀a b:Int,0<=a->a<=b->(iG fs:Int)<=a->b<=fs.length->(iG fs<fs.length->a<fs.length/\iG fs<b)->R (.seq true [sT "record",iT a,iT b,.seq true (fs.map bH)]):=λa b h1 h2 h3 h4 h5=>by
    have:=q a b fs ⟨h1,h2,by omega,by rw[hf1];exact hrise,λx hx=>⟨htx x.1 (by rw[<-hf1];exact List.mem_map.mpr ⟨x,hx,rfl⟩),(hf2 x hx).1,(hf2 x hx).2.1,(hf2 x hx).2.2⟩,h3,h4,h5⟩
    rw[bR]at this
    exact this
   have hmu:((fs.filter λx=>x.2.1).map bH).length=iG fs:=by rw[List.length_map];rfl
   generalize hmm:((fs.filter λx=>x.2.1).map bH)=ml at hmu ⊢
   refine⟨_,rfl,sif (λz=>?_) (λz=>?_)⟩
   ·have z:((ml.length:Nat):Int)<many:=by simpa using z
    refine⟨rfl,_,rfl,by omega,bE (by omega) (by omega),λk k0 k1=>.inl ⟨_,_,rfl,rfl,_,rfl,by omega,bE (by omega) (by omega),λj j0 j1=>⟨by simp,fin _ _ (by omega) (by omega) (by omega) (by omega) (λ_=>by omega)⟩⟩⟩
   ·have z:¬ ((ml.length:Nat):Int)<many:=by simpa using z
    exact⟨by simp,fin _ _ (by omega) (by omega) (by omega) (by omega) (λ_=>by omega)⟩
end
section
variable{P:Program}{w:World}{K:W.Frag}{mg:Str->Option Value}{base:Heap}
variable{n:Nat}
theorem zDk{st sp k m:Int}(h1:-(10 ^ 57)<=st)(h2:st<=10 ^ 57)(h3:1<=sp)(h4:sp<=10 ^ 20)(k0:0<=k)(k1:k<12)(m0:0<=m)(m7:m<=7):RunOk (st+sp*(k-4)) (st+sp*(k-4)+m*sp) (sp*min m 1):=by
 have e1:=zBe (b:=k-4) h3 h4 (by omega) (by omega)
 have e2:=zBe (b:=m) h3 h4 (by omega) (by omega)
 have e2':m*sp=sp*m:=Int.mul_comm _ _
 by_cases hm:m=0
 ·subst hm
  have e3:sp*min 0 1=0:=by rw[show min (0:Int) 1=0 by decide,Int.mul_zero]
  have e4:(0:Int)*sp=0:=Int.zero_mul _
  rw[e3,e4]
  exact⟨⟨by omega,by omega⟩,⟨by omega,by omega⟩,⟨by decide,by decide⟩,by omega,by omega,⟨λ_=>by omega,λ_=>rfl⟩,λz=>absurd rfl z⟩
 ·have e3:sp*min m 1=sp:=by rw[show min m 1=1 by omega,Int.mul_one]
  rw[e3]
  have pos:0<m*sp:=Int.mul_pos (by omega) (by omega)
  refine⟨⟨by omega,by omega⟩,⟨by omega,by omega⟩,⟨by omega,by omega⟩,by omega,by omega,⟨λz=>by omega,λz=>by omega⟩,λ_=>?_⟩
  rw[show st+sp*(k-4)+m*sp-(st+sp*(k-4))=m*sp by omega]
  exact Int.mul_emod_left _ _
theorem C39_:bG ["_law_deck_here","_law_world_here","_law_deep","_law_kind_here","_law_most","_law_low","_law_many","_law_least","_law_high","_law_inner"] ["_law_deck_here","_law_world_here","_law_deep","_law_kind_here","_law_most"] (aL qM):=fsc (by decide +kernel)
theorem zIw(h:Has K mg "_law_part" qM)(B:Own mg)(G29_:aE P w K mg base 2 "_law_take" ["_law_deck_here","_law_most"] dH)(G36_:aE P w K mg base 5 "_law_some_words" ["_law_deck_here","_law_world_here"] nQ)(G40_:aE P w K mg base (6+3*n) "_law_form" ["_law_deck_here","_law_world_here","_law_deep","_law_most"] (jO n))(G38_:aE P w K mg base (6+3*n+1) "_law_table" ["_law_deck_here","_law_world_here","_law_deep"] (zAo n))(G37_:aE P w K mg base (6+3*n+1) "_law_record" ["_law_deck_here","_law_world_here","_law_deep","_law_many"] (lT n))   : aE P w K mg base (6+3*n+2) "_law_part" ["_law_deck_here","_law_world_here","_law_deep","_law_kind_here","_law_most"] (zA7 n):=by
 have nd:=C39_.nd
 refine h.pgood C39_ (fun|_,_,_,_,_,_,[_,_,_,_,_],_=>rfl) (λf cdv A outer s H E F hr=>
   (aI (aX (aQ (aW hr.units) (aA 3) aC (aO _))
    (aJ (aN (bI (aB aT aD))))
    bB)
   (aI (aX (aQ (aW hr.units) (aA 3) aC (aO _))
    (aJ (aN (bI (aB aT (aB (aG (aH hr.units) (bA (bU (aB (bI (aB cD aD)) (aB (bI (aB cD aD)) (aB (bI (aB cD (aB cD aD))) aD))))) (aK G29_ (hr.mono (by omega)) rfl (bD 0 (aB aC aD)))) aD)))))
    bB)
   (aI (aX (aQ (aW hr.units) (aA 3) aC (aO _))
    (aI (aZ (i:=5) nd rfl (.inl rfl) (aR bN (aG (aH hr.units) (aA 1) aC) (aR dX (aG (aH hr.units) (aA 1) aC) (aR eC (aK G29_ (hr.mono (by omega)) rfl (bD 0 (aB aC aD))) aC))))
    (aI (aZ (i:=6) nd rfl (.inl rfl) (aG (aH hr.units) (bA (bU (aB aC (aB aC (aB aC (aB aC (aB aC aD))))))) (aK G29_ (hr.mono (by omega)) rfl (bD 0 (aB aC aD)))))
    (aJ (aN (bI (aB aT (aB (aA 5) (aB (aR bN (aA 5) (aR dX (aA 6) (aG (aH hr.units) (aA 1) aC))) (aB (aR dX (aG (aH hr.units) (aA 1) aC) (bK (iL rfl) rfl B.min boot_min (aB (aA 6) (aB aC aD)))) aD)))))))))
    bB)
   (aI (aX (aQ (aW hr.units) (aA 3) aC (aO _))
    (aJ (aN (bI (aB aT (aB (aK G36_ (hr.mono (by omega)) rfl (bD 0 (aB (aA 1) aD))) aD)))))
    bB)
   (aI (aX (aQ (aW hr.units) (aA 3) aC (aO _))
    (aI (aZ (i:=7) nd rfl (.inl rfl) (aR dX (aK G29_ (hr.mono (by omega)) rfl (bD 0 (aB aC aD))) (bK (iL rfl) rfl B.min boot_min (aB aC (aB (aA 2) aD)))))
    (aI (aZ (i:=8) nd rfl (.inl rfl) (aR bN (aA 7) (aR dX (aG (aH hr.units) (bA (bU (aB aC (aB aC (aB aC (aB aC aD)))))) (aK G29_ (hr.mono (by omega)) rfl (bD 0 (aB aC aD)))) (bK (iL rfl) rfl B.min boot_min (aB aC (aB (aA 2) aD))))))
    (aI (aZ (i:=9) nd rfl (.inl rfl) (bI aD))
    (aI (aX (aQ kW (aA 8) aC (aO _))
     (aJ (aZ (i:=9) nd rfl (.inl rfl) (aK G40_ (hr.mono (by omega)) rfl (bD 0 (aB (aA 1) (aB (aR eC (aA 2) aC) (aB aC aD)))))))
     bB)
    (aJ (aN (bI (aB aT (aB (aA 7) (aB (aA 8) (aB (aA 9) aD)))))))))))
    bB)
   (aI (aX (aQ (aW hr.units) (aA 2) aC (aO _))
    (aJ (aN (bI (aB aT (aB aC (aB aC (aB (bI aD) aD)))))))
    bB)
   (aI (aX (aQ (aW hr.units) (aK G29_ (hr.mono (by omega)) rfl (bD 0 (aB aC aD))) aC (aO _))
    (aJ (aN (aK G38_ (hr.mono (by omega)) rfl (bD 0 (aB (aA 1) (aB (aA 2) aD))))))
    bB)
   (aI (aZ (i:=6) nd rfl (.inl rfl) (aK G29_ (hr.mono (by omega)) rfl (bD 0 (aB (aG (aH hr.units) (bA (bU (aB aC (aB aC aD)))) (gB zF3 rfl B.int_ boot_int (aB (cA (aW hr.units).op (aA 4) aC (aO _)) aD))) aD))))
   (aI (aX (cO (eR (aQ (aW hr.units) (aA 4) aC (aO _)) (eR (aQ (aW hr.units) (aA 2) aC (aO _)) (fH (aQ (aW hr.units) (aK G29_ (hr.mono (by omega)) rfl (bD 0 (aB aC aD))) aC (aO _))))))
    (aJ (aZ (i:=6) nd rfl (.inl rfl) aC))
    bB)
   (aJ (aN (aK G37_ (hr.mono (by omega)) rfl (bD 0 (aB (aA 1) (aB (aA 2) (aB (aA 6) aD))))))))))))))))) (λas R q=>?_)
 obtain⟨nm,tx,st,sp,deep,kind,most,rfl,hw,d0,d1,k0,k5,m1,m6,q⟩:=q
 refine⟨rfl,_,rfl,dA (λe=>?_) (λe0=>⟨_,rfl,dA (λe=>?_) (λe1=>⟨_,rfl,dA (λe=>?_) (λe2=>⟨_,rfl,dA (λe=>?_) (λe3=>⟨_,rfl,dA (λe=>?_) (λe4=>?_)⟩)⟩)⟩)⟩)⟩
 ·have:=q .nothing trivial (by rw[e];rfl)
  rw[aU]at this
  exact⟨by decide,this⟩
 ·refine⟨by decide,by decide,by decide,by decide,rfl,3,rfl,by decide,bE (by decide) (by decide),λr r0 r1=>?_⟩
  obtain⟨U,hU,hm⟩:=fZ (l:=[Tv.seq true [bT false],.seq true [bT true],.seq true [bT false,bT true]]) r0 r1
  refine⟨U,hU,by simp,?_⟩
  simp only[List.mem_cons,List.not_mem_nil,or_false]at hm
  rcases hm with rfl|rfl|rfl
  ·have:=q (.truths [false]) (.inl rfl) (by rw[e];rfl)
   rw[aU]at this;exact this
  ·have:=q (.truths [true]) (.inr (.inl rfl)) (by rw[e];rfl)
   rw[aU]at this;exact this
  ·have:=q (.truths [false,true]) (.inr (.inr rfl)) (by rw[e];rfl)
   rw[aU]at this;exact this
 ·have hst1:=hw.st1
  have hst2:=hw.st2
  have hsp1:=hw.sp1
  have hsp2:=hw.sp2
  refine⟨_,rfl,_,rfl,rfl,12,rfl,by decide,bE (by decide) (by decide),λk k0 k1=>⟨.inr ⟨bE (by omega) (by omega),bE (by omega) (by omega)⟩,?_⟩⟩
  refine⟨by decide,rfl,5,rfl,by decide,bE (by decide) (by decide),λr r0 r1=>?_⟩
  obtain⟨U,hU,hm⟩:=fZ (l:=[iT 0,iT 1,iT 2,iT 3,iT 7]) r0 r1
  have hm:∃m:Int,U=iT m/\0<=m/\m<=7:=by
   simp only[List.mem_cons,List.not_mem_nil,or_false]at hm
   rcases hm with e|e|e|e|e<;>subst e<;>exact⟨_,rfl,by decide,by decide⟩
  obtain⟨m,rfl,mm0,mm7⟩:=hm
  refine⟨_,hU,?_⟩
  clear hU
  refine⟨_,rfl,.inr ⟨bE (by omega) (by omega),bE (by omega) (by omega)⟩,_,rfl,.inl ⟨_,_,rfl,.inr ⟨bE (by omega) (by omega),bE (by omega) (by omega)⟩,by simp,?_⟩⟩
  have:=q (.numbers _ _ _) (zDk hst1 hst2 hsp1 hsp2 k0 k1 mm0 mm7) (by rw[e];rfl)
  rw[aU]at this
  exact this
 ·refine⟨rfl,nm,tx,st,sp,rfl,hw,λw ww=>⟨by simp,?_⟩⟩
  have:=q (.texts w) ww (by rw[e];rfl)
  rw[aU]at this
  exact this
 ·have hd:min 1 deep=0\/min 1 deep=1:=by omega
  refine⟨rfl,4,rfl,by decide,bE (by decide) (by decide),λa a0 a1=>.inl ⟨_,_,rfl,.inl (.inl ⟨by omega,by omega⟩),?_⟩⟩
  refine⟨by decide,rfl,4,rfl,by decide,bE (by decide) (by decide),λr r0 r1=>?_⟩
  obtain⟨U,hU,hm⟩:=fZ (l:=[iT 0,iT 1,iT 2,iT 57]) r0 r1
  have hm:∃m:Int,U=iT m/\0<=m/\m<=57:=by
   simp only[List.mem_cons,List.not_mem_nil,or_false]at hm
   rcases hm with e|e|e|e<;>subst e<;>exact⟨_,rfl,by decide,by decide⟩
  obtain⟨m,rfl,mm0,mm7⟩:=hm
  refine⟨_,hU,.inl ⟨_,_,rfl,.inl (.inl ⟨by omega,by omega⟩),?_⟩⟩
  clear hU
  refine⟨by decide,_,rfl,cQ (λz=>?_) (λz=>?_)⟩
  ·have hd1:1<=deep:=by
    rcases hd with h|h
    ·rw[h]at z;omega
    ·omega
   refine⟨rfl,nm,tx,st,sp,_,_,rfl,hw,by omega,by omega,by decide,by decide,λf fn hf=>⟨by simp,?_⟩⟩
   have:=q (.lists (a*min 1 deep) (a*min 1 deep+m*min 1 deep) f) ⟨?_,?_,?_,λz'=>by omega,λ_=>⟨fn,hf.1,hf.2⟩⟩ (by rw[e];rfl)
   ·rw[gA]at this;exact this
   ·rcases hd with h|h<;>rw[h]<;>omega
   ·rcases hd with h|h<;>rw[h]<;>omega
   ·rcases hd with h|h<;>rw[h]<;>omega
  ·have h0:a*min 1 deep=0/\a*min 1 deep+m*min 1 deep=0:=by rcases hd with h|h<;>rw[h]at z ⊢<;>omega
   refine⟨by simp,?_⟩
   have:=q (.lists (a*min 1 deep) (a*min 1 deep+m*min 1 deep) []) ⟨by omega,by omega,by omega,λ_=>rfl,λz'=>by omega⟩ (by rw[e];rfl)
   rw[gA]at this
   exact this
 ·have hk:kind=5:=by omega
  refine⟨_,rfl,dA (λe=>?_) (λe5=>?_)⟩
  ·have:=q (.record 0 0 []) ⟨by decide,by decide,by decide,.nil,λx hx=>(nomatch hx),by decide,by decide,λh=>absurd h (by decide)⟩ (by rw[hk];rfl)
   rw[bR]at this
   exact⟨by decide,by decide,this⟩
  ·refine⟨rfl,3,rfl,by decide,bE (by decide) (by decide),λr r0 r1=>⟨_,rfl,dA (λ_=>?_) (λ_=>?_)⟩⟩
   ·exact⟨rfl,nm,tx,st,sp,deep,rfl,hw,by omega,d1,λa b w f hp=>q _ hp (by rw[hk];rfl)⟩
   ·refine⟨rfl,by decide,?_⟩
    have hmen:∃U:Int,atI [iT 4,iT 3] (if (false != eqV (.int most) (.int 2))=true then 1 else 0)=some (iT U)/\3<=U/\U<=4:=by
     by_cases h:(false != eqV (.int most) (.int 2))=true
     ·rw[if_pos h];exact⟨3,rfl,by decide,by decide⟩
     ·rw[if_neg h];exact⟨4,rfl,by decide,by decide⟩
    obtain⟨U,hU,u3,u4⟩:=hmen
    refine⟨_,hU,U,rfl,by omega,bE (by omega) (by omega),λm m0 mU=>?_⟩
    have rcd:∀mn:Int,0<=mn->mn<=8->lT n [.dk,.va (bW nm tx st sp),.va (iT deep),.va (iT mn)] R:=λmn h1 h2=>⟨nm,tx,st,sp,deep,mn,rfl,hw,by omega,d1,h1,h2,λa b fs hp=>q _ hp (by rw[hk];rfl)⟩
    refine⟨_,rfl,dA (λ_=>⟨_,rfl,dA (λ_=>⟨rfl,4,rfl,by decide,bE (by decide) (by decide),λj j0 j1=>⟨_,rfl,dA (λ_=>?_) (λ_=>?_)⟩⟩) (λ_=>bJ ?_)⟩) (λ_=>bJ ?_)⟩
    ·exact⟨rfl,rcd 8 (by decide) (by decide)⟩
    ·exact⟨rfl,rcd m (by omega) (by omega)⟩
    ·exact⟨rfl,rcd m (by omega) (by omega)⟩
    ·exact⟨rfl,rcd m (by omega) (by omega)⟩
end
section
variable{P:Program}{w:World}{K:W.Frag}{mg:Str->Option Value}{base:Heap}
variable{n:Nat}
theorem zL{n:Nat}:∀{ks:List Int}{Us:List Tv},Paired (λT U=>∃(k:Int) (p:Pt),T=iT k/\U=aU p/\PartOk (n+1) p/\(aY p:Int)=k) (ks.map iT) Us->∃f:List Pt,Us=f.map aU/\f.map (λp=>(aY p:Int))=ks/\∀p∈f,PartOk (n+1) p
 |[],[],_=>⟨[],rfl,rfl,λx hx=>nomatch hx⟩
 |k::ks,U::Us,.cons r t=>by
  obtain⟨fs,rfl,e2,h⟩:=zL (ks:=ks) t
  obtain⟨k',p,e,rfl,hp,hk⟩:=r
  have e:k=k':=by cases e;rfl
  subst e
  refine⟨p::fs,rfl,by rw[List.map_cons,e2,hk],λx hx=>?_⟩
  rcases List.mem_cons.mp hx with rfl|hx
  ·exact hp
  ·exact h x hx
theorem zFw{rs:List Int}{r:Int}(h0:0<=r)(h1:r<rs.length):∃x,rs[r.toNat]?=some x:=⟨rs[r.toNat]'(by omega),List.getElem?_eq_getElem _⟩
theorem C40_:bG ["_law_deck_here","_law_world_here","_law_deep","_law_most","_law_kinds","_law_some"] ["_law_deck_here","_law_world_here","_law_deep","_law_most"] (aL lD):=fsc (by decide +kernel)
theorem zIv(h:Has K mg "_law_form" lD)(B:Own mg)(G29_:aE P w K mg base 2 "_law_take" ["_law_deck_here","_law_most"] dH)(G39_:aE P w K mg base (6+3*n+2) "_law_part" ["_law_deck_here","_law_world_here","_law_deep","_law_kind_here","_law_most"] (zA7 n))   : aE P w K mg base (6+3*n+3) "_law_form" ["_law_deck_here","_law_world_here","_law_deep","_law_most"] (jO (n+1)):=by
 have nd:=C40_.nd
 refine h.pgood C40_ (fun|_,_,_,_,_,_,[_,_,_,_],_=>rfl) (λf cdv A outer s H E F hr=>
   (aI (iI (i:=4) nd rfl (.inr rfl) (zDT rfl rfl B.range rfl B.list_ (aB aC aD)))
   (aI (gE (i:=5) (sc:=aL lD) (XN:=["_law_deck_here","_law_world_here","_law_deep","_law_most","_law_kinds","_law_some"]) (N:=["_law_k","_law_deck_here","_law_kinds"]) (own:=1) (fr:=[0,4]) rfl nd rfl (.inl rfl) ⟨rfl,by decide +kernel,by decide +kernel,by decide +kernel,rfl,by decide +kernel,by decide,by decide +kernel⟩ (by decide) (gO rfl B.range (aB (aR bN aC (aK G29_ (hr.mono (by omega)) rfl (bD 0 (aB (aA 3) aD)))) aD)) (λ_ _ _ _ _=>(bF 0 (by decide) (show(["_law_k","_law_deck_here","_law_kinds"]:List Str).Nodup by decide +kernel) rfl (by first|exact Or.inl rfl|exact Or.inr rfl))) (λ_ _ _ _ _=>cH) (λ_ _ _ _ _=>(lQ 2 (aK G29_ (hr.mono (by omega)) rfl (bD 1 (aB (fS λF=>(bK cE rfl B.len PySem.boot_len (aB (aA 2) aD))) aD))))))
   (aJ (aN (gB gQ rfl B.tuple_ boot_tuple (aB (bA (bX (sc:=aL lD) (XN:=["_law_deck_here","_law_world_here","_law_deep","_law_most","_law_kinds","_law_some"]) (N:=["_law_kind_here","_law_deck_here","_law_world_here","_law_deep","_law_most"]) (own:=1) (fr:=[0,1,2,3]) rfl ⟨rfl,by decide +kernel,by decide +kernel,by decide +kernel,rfl,by decide +kernel,by decide,by decide +kernel⟩ (by decide) (bO (bA (lO (oF rfl) rfl B.sorted boot_sorted (aB (aA 5) aD)))) (λ_ _ _ _ _=>(bF 0 (by decide) (show(["_law_kind_here","_law_deck_here","_law_world_here","_law_deep","_law_most"]:List Str).Nodup by decide +kernel) rfl (by first|exact Or.inl rfl|exact Or.inr rfl))) (λ_ _ _ _ _=>cH) (λ_ _ _ _ _=>(aK G39_ (hr.mono (by omega)) rfl (bD 1 (aB (aA 2) (aB (aA 3) (aB (aA 0) (aB (aA 4) aD))))))))) aD))))))) (λas R q=>?_)
 obtain⟨nm,tx,st,sp,deep,most,rfl,hw,d0,d1,m1,m6,q⟩:=q
 refine⟨rfl,6,rfl,by decide,?_⟩
 refine⟨rfl,_,rfl,by omega,bE (by omega) (by omega),λc c0 c1=>⟨_,rfl,by omega,by omega,by rw[fR];omega,?_⟩⟩
 refine sE (λi Us ρ=>∃ps rs:List Int,Us=ps.map iT/\ps.length=i/\(ps++rs).Perm [0,1,2,3,4,5]/\ρ=[.dk,.va (bW nm tx st sp),.va (iT deep),.va (iT most),.own (rs.map iT),.no]) ⟨[],[0,1,2,3,4,5],rfl,rfl,List.Perm.refl _,rfl⟩ ?_ ?_
 ·rintro i T _ _ hT ⟨ps,rs,rfl,hl,hp,rfl⟩ R hR
  have hi:=(jL hT).1
  have hlen:=hp.length_eq
  rw[List.length_append]at hlen
  have hlen:ps.length+rs.length=6:=hlen
  refine⟨⟨_,rfl⟩,rfl,_,rfl,(rs.map iT).length,rfl,by rw[List.length_map];omega,by rw[List.length_map];exact bE (by omega) (by omega),λr r0 r1=>?_⟩
  rw[List.length_map]at r1
  obtain⟨x,hx⟩:=zFw r0 r1
  refine⟨r,_,iT x,rfl,rfl,r0,by rw[List.getElem?_map,hx];rfl,hR (some (iT x)) _ ⟨ps++[x],rs.eraseIdx r.toNat,by rw[List.map_append];rfl,by rw[List.length_append,hl];rfl,sR hp hx,?_⟩⟩
  show [Sl.dk,.va (bW nm tx st sp),.va (iT deep),.va (iT most),.own ((rs.map iT).eraseIdx r.toNat),.no]=_
  rw[kF]
 ·rintro _ _ ⟨ps,rs,rfl,hl,hp,rfl⟩
  rw[fR]at hl
  have hnd:ps.Nodup:=(hp.nodup_iff.mpr (by decide)).sublist (List.sublist_append_left _ _)
  refine .inl ⟨ps,rfl,by omega,λms hm hs=>?_⟩
  have hml:ms.length=ps.length:=hm.length_eq
  refine⟨by rw[List.length_map];omega,?_⟩
  refine oM (λT U=>∃(k:Int) (p:Pt),T=iT k/\U=aU p/\PartOk (n+1) p/\(aY p:Int)=k) (λT hT R hR=>?_) (λUs hUs=>?_)
  ·obtain⟨k,hk,rfl⟩:=List.mem_map.mp hT
   have hk:k∈[0,1,2,3,4,5]:=hp.mem_iff.mp (List.mem_append_left _ (hm.mem_iff.mp hk))
   have hk:0<=k/\k<=5:=by
    simp only[List.mem_cons,List.not_mem_nil,or_false]at hk
    omega
   exact⟨rfl,nm,tx,st,sp,deep,k,most,rfl,hw,d0,by omega,hk.1,hk.2,m1,m6,λp hp hkp=>hR _ ⟨k,p,rfl,rfl,hp,hkp⟩⟩
  ·obtain⟨f,rfl,e,hf⟩:=zL hUs
   refine⟨false,_,rfl,q f (λz=>?_) ⟨?_,hf⟩⟩
   ·rw[z]at e
    have:ms.length=0:=by rw[<-e];rfl
    omega
   ·have h1:ms.Pairwise (· < ·):=by
     have h2:ms.Nodup:=hm.nodup_iff.mpr hnd
     exact List.Pairwise.imp₂ (λa b h n=>by omega) hs h2
    rw[<-e,List.pairwise_map]at h1
    exact h1.imp λh=>by omega
theorem mC(hf:Has K mg "_law_form" lD)(hp:Has K mg "_law_part" qM)(ht:Has K mg "_law_table" qN)(hrc:Has K mg "_law_record" jW)(B:Own mg)(G1:aE P w K mg base 2 "_law_take" ["_law_deck_here","_law_most"] dH)(G2:aE P w K mg base 4 "_law_make" ["_law_deck_here"] mM)
  (G3:aE P w K mg base 5 "_law_some_words" ["_law_deck_here","_law_world_here"] nQ):∀n:Nat,aE P w K mg base (6+3*n) "_law_form" ["_law_deck_here","_law_world_here","_law_deep","_law_most"] (jO n)
 |0=>hf.pfalse C40_ (fun|_,_,_,_,_,_,[_,_,_,_],_=>rfl) λas R ⟨_,_,_,_,_,_,_,_,h0,h1,_⟩=>by omega
 |n+1=>zIv hf B G1 (zIw hp B G1 G3 (mC hf hp ht hrc B G1 G2 G3 n) (zIx ht B G2 G1 (mC hf hp ht hrc B G1 G2 G3 n)) (zBU hrc B G1 (mC hf hp ht hrc B G1 G2 G3 n)))
end
section
variable{P:Program}{w:World}{K:W.Frag}{mg:Str->Option Value}{base:Heap}
theorem oJ{f:List Pt}(h:mB f):f.length<=6:=by
 have nd:(f.map aY).Nodup:=by
  unfold List.Nodup
  rw[List.pairwise_map]
  exact h.imp λh=>by omega
 have:=ShowM.nodup_le nd (m:=[0,1,2,3,4,5]) λx hx=>by
  obtain⟨p,_,rfl⟩:=List.mem_map.mp hx
  have:=lV p
  simp only[List.mem_cons,List.not_mem_nil,or_false]
  omega
 rwa[List.length_map]at this
theorem PartOk.pw:∀{n:Nat}{p:Pt},PartOk n p->PW n p
 |0,_,h=>False.elim h
 |n+1,p,h=>by
  cases p with
  |nothing=>trivial
  |truths bs=>exact h
  |numbers lo hi st=>exact RunOk.wk h
  |texts w=>exact WdOk.wk h
  |lists a b f=>
   obtain⟨h1,h2,h3,h4,h5⟩:=h
   by_cases hb:b=0
   ·rw[h4 hb];exact⟨by simp,λp hp=>nomatch hp⟩
   ·have:=oJ (h5 hb).2.1
    exact⟨by omega,λp hp=>PartOk.pw ((h5 hb).2.2 p hp)⟩
  |record a b fs=>exact⟨h.2.2.1,(h.2.2.2.1).imp λh=>zHo h,λx hx=>⟨⟨(h.2.2.2.2.1 x hx).1.1,Nat.le_trans (h.2.2.2.2.1 x hx).1.2 (by decide)⟩,Nat.le_trans (oJ (h.2.2.2.2.1 x hx).2.2.1) (by decide),λp hp=>PartOk.pw ((h.2.2.2.2.1 x hx).2.2.2 p hp)⟩⟩
  |table a b w f=>exact⟨WdOk.wk h.2.2.2.2.1,h.2.2.2.2.2.1,Nat.le_trans (oJ h.2.2.2.2.2.2.2.1) (by decide),λp hp=>PartOk.pw (h.2.2.2.2.2.2.2.2 p hp)⟩
end
end My
namespace My
open PySem L2 PyProof.Rows WordM
section
variable{P:Program}{w:World}{K:W.Frag}{mg:Str->Option Value}{base:Heap}
def rP:PSp:=λas R=>∃h a b ms,as=[.dk,.va (cG (.make h a b ms))]/\WdOk (.make h a b ms)/\∀w,WdW w->pO w=true->R (cG w)
theorem zGI{α:Type}(l:List α)(k:Nat):fE l none (some (k:Int))=l.take k:=by
 unfold fE
 rw[HT.sIx_none,HT.sIx_nat,List.drop_zero,Nat.sub_zero]
 rcases Nat.le_total k l.length with h|h
 ·rw[Nat.min_eq_left h]
 ·rw[Nat.min_eq_right h,List.take_of_length_le (Nat.le_refl _),List.take_of_length_le h]
theorem zDZ(ss:List Str):(dR ss).length<=ss.length:=ShowM.nodup_le (zAm ss) λx hx=>(sL ss x).mp hx
theorem zAj:MK.Sublist MK:=List.Sublist.refl _
theorem C53_:bG ["_law_deck_here","_law_make_here","_law_way","_law_head","_law_least","_law_most","_law_marks"] ["_law_deck_here","_law_make_here"] (aL vF):=fsc (by decide +kernel)
theorem zIj(h:Has K mg "_law_near_make" vF)(B:Own mg)(G29_:aE P w K mg base 2 "_law_take" ["_law_deck_here","_law_most"] dH)   : aE P w K mg base 3 "_law_near_make" ["_law_deck_here","_law_make_here"] rP:=by
 have nd:=C53_.nd
 refine h.pgood C53_ (fun|_,_,_,_,_,_,[_,_],_=>rfl) (λf cdv A outer s H E F hr=>
   (aI (aZ (i:=2) nd rfl (.inl rfl) (aK G29_ (hr.mono (by omega)) rfl (bD 0 (aB aC aD))))
   (aI (tX (m:=7) (dO dQ (aA 1) (dL aC) dW) (pI 4 rfl (fQ (bF 3 (by decide) nd rfl (.inl rfl)) (fQ (bF 4 (by decide) nd rfl (.inl rfl)) (fQ (bF 5 (by decide) nd rfl (.inl rfl)) (fQ (bF 6 (by decide) nd rfl (.inl rfl)) pA))))))
   (aI (aX (aQ (aW hr.units) (aA 2) aC (aO _))
    (aJ (aN (bI (aB aT (aB (dO dQ (aA 3) dW (dL (mS mJ aC))) (aB (aA 4) (aB (aA 5) (aB (aA 6) aD))))))))
    bB)
   (aI (aX (aQ (aW hr.units) (aA 2) aC (aO _))
    (aJ (aN (bI (aB aT (aB (aA 3) (aB (bK (gW rfl) rfl B.max boot_max (aB aC (aB (aR eC (aA 4) aC) aD))) (aB (aA 5) (aB (aA 6) aD))))))))
    bB)
   (aI (aX (aQ (aW hr.units) (aA 2) aC (aO _))
    (aJ (aN (bI (aB aT (aB (aA 3) (aB (aA 4) (aB (aR bN (aA 5) aC) (aB (aA 6) aD))))))))
    bB)
   (aI (aX (aQ (aW hr.units) (aA 2) aC (aO _))
    (aJ (aN (bI (aB aT (aB (aA 3) (aB (aA 4) (aB (aA 5) (aB (bI (aB aT (aB aT (aB aT (aB aT aD))))) aD))))))))
    bB)
   (aJ (aN (bI (aB aT (aB (aA 3) (aB (bK (iL rfl) rfl B.min boot_min (aB (aR bN (aA 4) aC) (aB (aA 5) aD))) (aB (aA 5) (aB (aA 6) aD))))))))))))))) (λas R q=>?_)
 obtain⟨h,a,b,ms,rfl,m,q⟩:=q
 obtain⟨⟨hS,h3⟩,a0,ab,b1,b6,msub,mne⟩:=m
 refine⟨rfl,rfl,5,rfl,by decide,bE (by decide) (by decide),λr r0 r1=>?_⟩
 refine⟨1,rfl,_,rfl,rfl,_,_,rfl,_,_,rfl,_,_,rfl,_,_,rfl,rfl,?_⟩
 show PEnds.nx _ _
 refine nxE (ρ':=[.dk,.va (cG (.make h a b ms)),.va (iT r),.va (sT h),.va (iT a),.va (iT b),.va (.seq true (ms.map sT))]) rfl ?_
 refine⟨_,rfl,dA (λe=>?_) (λe0=>⟨_,rfl,dA (λe=>?_) (λe1=>⟨_,rfl,dA (λe=>?_) (λe2=>⟨_,rfl,dA (λe=>?_) (λe3=>?_)⟩)⟩)⟩)⟩
 ·refine⟨_,rfl,by omega,by simp,q (.make _ a b ms) ⟨⟨hS.slice _ _,?_⟩,a0,ab,b1,by omega,msub,mne⟩ rfl⟩
  exact Nat.le_trans (WordM.slice_len ..) (by omega)
 ·exact .inl ⟨_,_,rfl,by simp,q (.make h (max 0 (a-1)) b ms) ⟨⟨hS,by omega⟩,by omega,by omega,b1,by omega,msub,mne⟩ rfl⟩
 ·exact⟨by simp,q (.make h a (b+1) ms) ⟨⟨hS,by omega⟩,a0,by omega,by omega,by omega,msub,mne⟩ rfl⟩
 ·exact⟨by simp,by simp,q (.make h a b MK) ⟨⟨hS,by omega⟩,a0,ab,b1,by omega,zAj,by simp[MK]⟩ rfl⟩
 ·exact .inl ⟨_,_,rfl,by simp,q (.make h (min (a+1) b) b ms) ⟨⟨hS,by omega⟩,by omega,by omega,b1,by omega,msub,mne⟩ rfl⟩
def rK:PSp:=λas R=>∃nm tx st sp,∃w:Wd,as=[.dk,.va (bW nm tx st sp),.va (cG w)]/\gH nm tx st sp/\WdOk w/\∀w',WdW w'->R (cG w')
theorem C54_:bG ["_law_deck_here","_law_world_here","_law_words","_law_way","_law_some"] ["_law_deck_here","_law_world_here","_law_words"] (aL vE):=fsc (by decide +kernel)
theorem zIi(h:Has K mg "_law_near_words" vE)(B:Own mg)(G29_:aE P w K mg base 2 "_law_take" ["_law_deck_here","_law_most"] dH)(G53_:aE P w K mg base 3 "_law_near_make" ["_law_deck_here","_law_make_here"] rP)(G46_:aE P w K mg base 2 "_law_witness" ["_law_words"] kX)   : aE P w K mg base 4 "_law_near_words" ["_law_deck_here","_law_world_here","_law_words"] rK:=by
 have nd:=C54_.nd
 refine h.pgood C54_ (fun|_,_,_,_,_,_,[_,_,_],_=>rfl) (λf cdv A outer s H E F hr=>
   (aI (aZ (i:=3) nd rfl (.inl rfl) (aK G29_ (hr.mono (by omega)) rfl (bD 0 (aB aC aD))))
   (aI (aX (aQ (aW hr.units) (aG (aH hr.units) (aA 2) aC) aT (aO _))
    (aI (aX (aQ kW (aA 3) aC (aO _))
     (aJ (aN (aK G53_ (hr.mono (by omega)) rfl (bD 0 (aB (aA 2) aD)))))
     bB)
    (aJ (aN (bI (aB aT (aB (gB gQ rfl B.tuple_ boot_tuple (aB (bA (lO (oF rfl) rfl B.sorted boot_sorted (aB (dO dQ (aK G46_ (hr.mono (by omega)) rfl (aB (aA 2) aD)) dW (dL (aR bN aC (aK G29_ (hr.mono (by omega)) rfl (bD 0 (aB aC aD)))))) aD))) aD)) aD))))))
    bB)
   (aI (iI (i:=4) nd rfl (.inl rfl) (jC jF rfl B.list_ boot_list (aB (aG (aH hr.units) (aA 2) aC) aD)))
   (aI (aX (cO (eR (aQ iP (aA 3) aC (aO _)) (fH (aQ kW (fS λF=>(bK cE rfl B.len PySem.boot_len (aB (aA 4) aD))) aC (aO _)))))
    (aJ (gF (lQ 4 (aK G29_ (hr.mono (by omega)) rfl (bD 0 (aB (fS λF=>(bK cE rfl B.len PySem.boot_len (aB (aA 4) aD))) aD))))))
    (aJ (aX (cO (eR (aQ iP (aA 3) aC (aO _)) (fH (aQ iP (fS λF=>(bK cE rfl B.len PySem.boot_len (aB (aA 4) aD))) aC (aO _)))))
     (aJ (gF (jD 4 (aG (aH hr.units) (aG (aH hr.units) (aA 1) aC) (aK G29_ (hr.mono (by omega)) rfl (bD 0 (aB (bK cE rfl B.len PySem.boot_len (aB (aG (aH hr.units) (aA 1) aC) aD)) aD)))))))
     (aJ (aN (bI (aB aT (aB (dO dQ (jJ 4 aC) dW (dL (aK G29_ (hr.mono (by omega)) rfl (bD 0 (aB aC aD))))) (aB aC (aB (aR bN aC (aK G29_ (hr.mono (by omega)) rfl (bD 0 (aB aC aD)))) (aB (bI (aB aT (aB aT (aB aT (aB aT aD))))) aD)))))))))))
   (aJ (aN (bI (aB aT (aB (gB gQ rfl B.tuple_ boot_tuple (aB (bA (zCE rfl rfl B.sorted rfl B.set_ (aA 4))) aD)) aD)))))))))) (λas R q=>?_)
 obtain⟨nm,tx,st,sp,W,rfl,hw,hW,q⟩:=q
 refine⟨rfl,rfl,5,rfl,by decide,bE (by decide) (by decide),λr r0 r1=>?_⟩
 cases W with
 |make h a b ms=>
  refine⟨_,at0,_,rfl,sY ⟨_,rfl,cQ (λz=>⟨rfl,h,a,b,ms,rfl,hW,λw hw _=>q w hw⟩) (λz=>?_)⟩⟩
  obtain⟨⟨hhS,hhl⟩,ha0,hab,hb1,hb2,hsub,hne⟩:=id hW
  obtain⟨_,S,_⟩:=lR hsub hne
  refine⟨.make h a b ms,rfl,WdOk.wk hW,rfl,6,rfl,by decide,bE (by decide) (by decide),λc c0 c1=>⟨_,rfl,?_⟩⟩
  obtain⟨k,hk⟩:∃k:Nat,1+c=(k:Int):=⟨(1+c).toNat,by omega⟩
  have k6:k<=6:=by omega
  have k1:1<=k:=by omega
  let L:=((bY ms).take k).map λc=>h++bQ c (if a > 1 then a else 1)
  have eL:(hE (.make h a b ms)).take k=L:=by
   show((((bY ms).map λc=>h++bQ c (if a > 1 then a else 1))++_)++_).take k=_
   have:=S.many
   rw[List.append_assoc,List.take_append_of_le_length (by rw[List.length_map];omega),<-List.map_take]
  have lL:L.length=k:=by
   have:=S.many
   rw[List.length_map,List.length_take];omega
  have nL:L.Nodup:=by
   unfold List.Nodup
   rw[List.pairwise_map]
   refine(S.nd.sublist (List.take_sublist ..)).imp λ{x y} ne e=>ne ?_
   have e:=congrArg cs e
   rw[WordM.app,WordM.app,fJ,fJ]at e
   have e:=List.append_cancel_left e
   obtain⟨j,hj⟩:∃j,(if a > 1 then a else 1:Int).toNat=j+1:=⟨(if a > 1 then a else 1:Int).toNat-1,by split<;>omega⟩
   rw[hj,List.replicate_succ,List.replicate_succ]at e
   exact(List.cons.inj e).1
  have tL:∀t∈L,Sg t/\t.length<=200:=λt ht=>by
   obtain⟨c,hc,rfl⟩:=List.mem_map.mp ht
   have hc:=List.mem_of_mem_take hc
   refine⟨hhS.app (zA1 (S.sg c hc) _),?_⟩
   rw[WordM.len,WordM.app,List.length_append,<-WordM.len,<-WordM.len,kN]
   split<;>omega
  refine .inr (.inl ⟨L,?_,by omega,false,_,rfl,by simp,q (.few (dI L)) ⟨by rw[jE];omega,by rw[jE];omega,oE nL,λt ht=>tL t ((kB _).mem_iff.mp ht)⟩⟩)
  rw[hk,zGI,<-List.map_take,eL]
 |few ss=>
  refine⟨_,at0,_,rfl,sN (by decide +kernel) ?_⟩
  refine⟨_,bC (j:=1) rfl,_,_,rfl,?_⟩
  show PEnds.nx _ _
  refine nxE (ρ':=[.dk,.va (bW nm tx st sp),.va (cG (.few ss)),.va (iT r),.own (ss.map sT)]) rfl ?_
  obtain⟨s1,s6,sr,st'⟩:=hW
  have t9:=hw.t9
  have fin:∀L:List Str,1<=L.length->L.length<=6->(∀t∈L,Sg t/\t.length<=200)->qI (qD (fW (uC (sT "few")) (fW (uCB zBb (fW (uL (zC (fA 4))) fL)) fL))) {nx:=λx=>R nT,rt:=R} [.dk,.va (bW nm tx st sp),.va (cG (.few ss)),.va (iT r),.own (L.map sT)]:=λL l1 l6 tL=>by
   have sl:=zDZ L
   refine⟨L,rfl,by omega,by omega,false,_,rfl,by simp,q (.few (dI (dR L))) ⟨?_,by rw[jE];omega,zCa L,λt ht=>tL t (sort_set_mem.mp ht)⟩⟩
   rw[jE]
   cases L with
   |nil=>simp at l1
   |cons x l=>exact List.length_pos_of_mem ((sL (x::l) x).mpr (by simp))
  refine⟨_,rfl,cQ (λz1=>⟨_,rfl,_,rfl,cQ (λz2=>?_) (λz2=>?_)⟩) (λz1=>?_)⟩
  ·have l1:1<ss.length:=by rw[List.length_map]at z2;omega
   refine⟨⟨_,rfl⟩,rfl,_,rfl,(ss.map sT).length,rfl,by rw[List.length_map];omega,by rw[List.length_map];exact bE (by omega) (by omega),λk k0 k1=>?_⟩
   rw[List.length_map]at k1
   obtain⟨x,hx⟩:=uI k0 k1
   refine⟨k,_,sT x,rfl,rfl,k0,by rw[List.getElem?_map,hx];rfl,?_⟩
   have le:(ss.eraseIdx k.toNat).length=ss.length-1:=List.length_eraseIdx_of_lt (by omega)
   show PEnds.nx _ _
   exact nxE (ρ':=[.dk,.va (bW nm tx st sp),.va (cG (.few ss)),.va (iT r),.own ((ss.eraseIdx k.toNat).map sT)]) (by rw[<-kF];rfl) (fin _ (by omega) (by omega) λt ht=>⟨(st' t (List.mem_of_mem_eraseIdx ht)).1,Nat.le_trans (st' t (List.mem_of_mem_eraseIdx ht)).2 (by decide)⟩)
  all_goals
   refine⟨_,rfl,cQ (λy1=>⟨_,rfl,_,rfl,cQ (λy2=>?_) (λy2=>?_)⟩) (λy1=>?_)⟩
   ·have l6:ss.length<6:=by rw[List.length_map]at y2;omega
    refine⟨⟨_,rfl⟩,_,rfl,rfl,_,rfl,(tx.map sT).length,rfl,by rw[List.length_map,hw.t9];decide,by rw[List.length_map];exact bE (by omega) (by omega),λk k0 k1=>?_⟩
    rw[List.length_map]at k1
    obtain⟨x,hx,hxm⟩:=fZ (l:=tx) k0 k1
    have hx':atI (tx.map sT) k=some (sT x):=by
     have:=bC (xs:=tx.map sT) (j:=k.toNat) (v:=sT x) (by
      rw[List.getElem?_map]
      have e:tx[k.toNat]?=some x:=by
       have h2:k.toNat<tx.length:=by omega
       have h3:=bC (xs:=tx) (j:=k.toNat) (List.getElem?_eq_getElem h2)
       rw[show((k.toNat:Nat):Int)=k by omega,hx]at h3
       rw[List.getElem?_eq_getElem h2];exact h3.symm
      rw[e];rfl)
     rw[show((k.toNat:Nat):Int)=k by omega]at this
     exact this
    refine⟨_,hx',_,rfl,by rw[List.length_map];omega,?_⟩
    show PEnds.nx _ _
    refine nxE (ρ':=[.dk,.va (bW nm tx st sp),.va (cG (.few ss)),.va (iT r),.own ((ss++[x]).map sT)]) (by rw[List.map_append];rfl) ?_
    refine fin _ (by rw[List.length_append];simp) (by rw[List.length_append];show ss.length+1<=6;omega) λt ht=>?_
    rcases List.mem_append.mp ht with ht|ht
    ·exact⟨(st' t ht).1,Nat.le_trans (st' t ht).2 (by decide)⟩
    ·rw[List.mem_singleton]at ht;subst ht
     have:=hw.ts t hxm
     exact⟨this.1,by omega⟩
   all_goals
    obtain⟨x,l,rfl⟩:∃x l,ss=x::l:=by
     cases ss with
     |nil=>simp at s1
     |cons x l=>exact⟨x,l,rfl⟩
    have tx0:=st' x (by simp)
    refine⟨⟨_,rfl⟩,0,_,sT x,rfl,rfl,at0,rfl,3,rfl,by decide,bE (by decide) (by decide),λk k0 k1=>⟨_,rfl,Nat.le_trans tx0.2 (by decide),rfl,6,rfl,by decide,bE (by decide) (by decide),λc c0 c1=>⟨by simp,by simp,q (.make _ 0 (3+c) MK) ⟨⟨tx0.1.slice _ _,Nat.le_trans (WordM.slice_len ..) (Nat.le_trans tx0.2 (by decide))⟩,by decide,by omega,by omega,by omega,zAj,by simp[MK]⟩⟩⟩⟩
def iY(x:Int×Int×Int):Tv:=.seq true [iT x.1,iT x.2.1,iT x.2.2]
def rO:PSp:=λas R=>∃lo hi st:Int,as=[.dk,.va (aU (.numbers lo hi st))]/\RunOk lo hi st/\∀lo' hi' st',gL lo' hi' st'->R (aU (.numbers lo' hi' st'))
theorem C55_:bG ["_law_deck_here","_law_part_here","_law_low","_law_high","_law_step","_law_far_here","_law_some"] ["_law_deck_here","_law_part_here"] (aL vD):=fsc (by decide +kernel)
theorem zIh(h:Has K mg "_law_near_numbers" vD)(B:Own mg)(G29_:aE P w K mg base 2 "_law_take" ["_law_deck_here","_law_most"] dH)   : aE P w K mg base 3 "_law_near_numbers" ["_law_deck_here","_law_part_here"] rO:=by
 have nd:=C55_.nd
 refine h.pgood C55_ (fun|_,_,_,_,_,_,[_,_],_=>rfl) (λf cdv A outer s H E F hr=>
   (aI (tX (m:=7) (dO dQ (aA 1) (dL aC) dW) (pI 3 rfl (fQ (bF 2 (by decide) nd rfl (.inl rfl)) (fQ (bF 3 (by decide) nd rfl (.inl rfl)) (fQ (bF 4 (by decide) nd rfl (.inl rfl)) pA)))))
   (aI (aZ (i:=5) nd rfl (.inl rfl) (bK (gW rfl) rfl B.max boot_max (aB aC (aB (aA 4) aD))))
   (aI (iI (i:=6) nd rfl (.inl rfl) (bU (aB (bI (aB (aA 2) (aB (aR bN (aA 3) (aA 5)) (aB (aA 5) aD)))) (aB (bI (aB (aR eC (aA 2) (aA 5)) (aB (aA 3) (aB (aA 5) aD)))) (aB (bI (aB (aR bN (aA 2) aC) (aB (aR bN (aA 3) aC) (aB (aA 4) aD)))) (aB (bI (aB (aA 2) (aB (aA 2) (aB aC aD)))) (aB (dO dQ (aA 1) (dL aC) dW) aD)))))))
   (aI (aX (cO (eR (aQ kW (aA 3) (aA 2) (aO _)) (fH (aQ (aW hr.units) (aR iK (aR jM (aR eC (aA 3) (aA 2)) (aA 4)) aC) aC (aO _)))))
    (aJ (gF (jD 6 (bI (aB (aA 2) (aB (aA 3) (aB (aR dX aC (aA 4)) aD)))))))
    bB)
   (aI (aX (cO (eR (aQ kW (aA 4) aC (aO _)) (fH (aQ (aW hr.units) (aR iK (aA 4) aC) aC (aO _)))))
    (aJ (gF (jD 6 (bI (aB (aA 2) (aB (aA 3) (aB (aR jM (aA 4) aC) aD)))))))
    bB)
   (aJ (aN (aR bN (bI (aB aT aD)) (jJ 6 (aK G29_ (hr.mono (by omega)) rfl (bD 0 (aB (fS λF=>(bK cE rfl B.len PySem.boot_len (aB (aA 6) aD))) aD))))))))))))) (λas R q=>?_)
 obtain⟨lo,hi,st,rfl,h,q⟩:=q
 rw[fG]
 obtain⟨⟨h1,_⟩,⟨_,h3⟩,⟨_,h5⟩,h2,h4,h6,h7⟩:=id h
 refine⟨rfl,1,rfl,_,rfl,rfl,_,_,rfl,_,_,rfl,_,_,rfl,rfl,?_⟩
 show PEnds.nx _ _
 refine nxE (ρ':=[.dk,.va (.seq true [sT "numbers",iT lo,iT hi,iT st]),.va (iT lo),.va (iT hi),.va (iT st),.no,.no]) rfl ?_
 refine .inl ⟨1,st,rfl,?_⟩
 show PEnds.nx _ _
 generalize hf:max 1 st=f
 have f1:1<=f:=by omega
 have f2:f<10 ^ 61:=by omega
 have f3:st≠0->f=st:=λz=>by omega
 refine nxE (ρ':=[.dk,.va (.seq true [sT "numbers",iT lo,iT hi,iT st]),.va (iT lo),.va (iT hi),.va (iT st),.va (iT f),.no]) (by rw[<-hf];rfl) ?_
 refine⟨by simp,by simp,by simp,by simp,1,rfl,by simp,?_⟩
 let e1 (L:List (Int×Int×Int)):aV:=[.dk,.va (.seq true [sT "numbers",iT lo,iT hi,iT st]),.va (iT lo),.va (iT hi),.va (iT st),.va (iT f),.own (L.map iY)]
 let rr:PEnds:={nx:=λx=>R nT,rt:=R}
 let S3:=qI (uOp nK (qD (fW (uC (sT "numbers")) fL)) (zAU 6 (pS dH (uDk 0 (fW (zBn (uCB wB (fW (fA 6) fL))) fL)))))
 have fin:∀L:List (Int×Int×Int),1<=L.length->L.length<=10->(∀x∈L,gL x.1 x.2.1 x.2.2)->S3 rr (e1 L):=λL l1 l2 hL=>by
  refine⟨by simp,⟨_,rfl⟩,rfl,_,rfl,(L.map iY).length,rfl,by rw[List.length_map];omega,by rw[List.length_map];exact bE (by omega) (by omega),λk k0 k1=>?_⟩
  rw[List.length_map]at k1
  have hk:k.toNat<L.length:=by omega
  have ha:atI (L.map iY) k=some (iY L[k.toNat]):=by
   have:=bC (xs:=L.map iY) (j:=k.toNat) (v:=iY L[k.toNat]) (by rw[List.getElem?_map,List.getElem?_eq_getElem hk];rfl)
   rw[show((k.toNat:Nat):Int)=k by omega]at this
   exact this
  refine⟨k,_,_,rfl,rfl,ha,by simp,?_⟩
  have:=q _ _ _ (hL _ (List.getElem_mem hk))
  rw[fG]at this
  exact this
 let S2:=qH (sIf (uZ (uB (uOp pGt (fA 4) (uC (iT 0)))) (uB (uOp pEq (uOp zBQ (fA 4) (uC (iT 2))) (uC (iT 0))))) (zBo (zAd 6 (qD (fW (fA 2) (fW (fA 3) (fW (uOp zBt (fA 4) (uC (iT 2))) fL)))))) zBJ) S3
 have ok:=RunOk.wk h
 have fin2:∀L:List (Int×Int×Int),1<=L.length->L.length<=9->(∀x∈L,gL x.1 x.2.1 x.2.2)->S2 rr (e1 L):=λL l1 l2 hL=>by
  refine⟨_,rfl,cQ (λz1=>⟨(show(0:Int)<2 by decide),_,rfl,dA (λz2=>?_) (λz2=>fin L l1 (by omega) hL)⟩) (λz1=>bJ (fin L l1 (by omega) hL))⟩
  have z1:0<st:=z1
  refine⟨⟨_,rfl⟩,⟨by decide,bE (by decide) (by decide)⟩,by simp,_,rfl,by rw[List.length_map];omega,?_⟩
  show PEnds.nx _ _
  refine nxE (ρ':=e1 (L++[(lo,hi,st / 2)])) (by show _=[_,_,_,_,_,_,Sl.own ((L++[(lo,hi,st / 2)]).map iY)];rw[List.map_append];rfl) ?_
  refine fin (L++[(lo,hi,st / 2)]) (by rw[List.length_append];simp) (by rw[List.length_append];show L.length+1<=10;omega) λx hx=>?_
  rcases List.mem_append.mp hx with hx|hx
  ·exact hL x hx
  ·rw[List.mem_singleton]at hx;subst hx
   refine⟨h2,by show 0<=st / 2;omega,⟨λz=>?_,λz=>?_⟩,λz=>?_⟩
   ·have z:st / 2=0:=z;omega
   ·have z:lo=hi:=z;have:=h6.mpr z;omega
   ·show(hi-lo) % (st / 2)=0
    obtain⟨k,hk⟩:=Int.dvd_of_emod_eq_zero (h7 (by omega))
    have e:st=(st / 2)*2:=by omega
    rw[hk,e,Int.mul_assoc]
    rw[show st / 2*2 / 2=st / 2 by omega]
    exact Int.mul_emod_right _ _
 show PEnds.nx _ _
 refine nxE (ρ':=e1 [(lo,hi+f,f),(lo-f,hi,f),(lo+1,hi+1,st),(lo,lo,0),(lo,hi,st)]) rfl ?_
 have hd:(hi-lo) % f=0:=by
  by_cases z:st=0
  ·have:=h6.mp z
   rw[show hi-lo=0 by omega];exact Int.zero_emod _
  ·rw[f3 z];exact h7 z
 have hL:∀x∈[(lo,hi+f,f),(lo-f,hi,f),(lo+1,hi+1,st),(lo,lo,0),(lo,hi,st)],gL x.1 x.2.1 x.2.2:=by
  intro x hx
  simp only[List.mem_cons,List.not_mem_nil,or_false]at hx
  rcases hx with rfl|rfl|rfl|rfl|rfl
  ·refine⟨by show lo<=hi+f;omega,by show 0<=f;omega,⟨λz=>by have z:f=0:=z;omega,λz=>by have z:lo=hi+f:=z;omega⟩,λ_=>?_⟩
   show(hi+f-lo) % f=0
   rw[show hi+f-lo=(hi-lo)+f by omega,Int.add_emod_right];exact hd
  ·refine⟨by show lo-f<=hi;omega,by show 0<=f;omega,⟨λz=>by have z:f=0:=z;omega,λz=>by have z:lo-f=hi:=z;omega⟩,λ_=>?_⟩
   show(hi-(lo-f)) % f=0
   rw[show hi-(lo-f)=(hi-lo)+f by omega,Int.add_emod_right];exact hd
  ·refine⟨by show lo+1<=hi+1;omega,h4,⟨λz=>by have:=h6.mp z;show lo+1=hi+1;omega,λz=>by have z:lo+1=hi+1:=z;exact h6.mpr (by omega)⟩,λz=>?_⟩
   show(hi+1-(lo+1)) % st=0
   rw[show hi+1-(lo+1)=hi-lo by omega];exact h7 z
  ·exact⟨Int.le_refl _,show(0:Int)<=0 by decide,⟨λ_=>rfl,λ_=>rfl⟩,λz=>absurd rfl z⟩
  ·exact ok
 generalize hG:[(lo,hi+f,f),(lo-f,hi,f),(lo+1,hi+1,st),(lo,lo,0),(lo,hi,st)]=L at hL
 have lL:L.length=5:=by rw[<-hG];rfl
 refine⟨_,rfl,cQ (λz1=>?_) (λz1=>bJ (fin2 L (by omega) (by omega) hL))⟩
 have z1:lo<hi:=z1
 have s0:st≠0:=λz=>by have:=h6.mp z;omega
 refine⟨⟨by omega,bE (by omega) (by omega)⟩,(show(0:Int)<2 by decide),_,rfl,dA (λz2=>?_) (λz2=>fin2 L (by omega) (by omega) hL)⟩
 have z2:(hi-lo) / st % 2=0:=z2
 refine⟨⟨_,rfl⟩,.inr ⟨bE (by omega) (by omega),bE (by omega) (by omega)⟩,by simp,_,rfl,by rw[List.length_map];omega,?_⟩
 show PEnds.nx _ _
 refine nxE (ρ':=e1 (L++[(lo,hi,2*st)])) (by show _=[_,_,_,_,_,_,Sl.own ((L++[(lo,hi,2*st)]).map iY)];rw[List.map_append];rfl) ?_
 refine fin2 (L++[(lo,hi,2*st)]) (by rw[List.length_append];simp) (by rw[List.length_append];show L.length+1<=9;omega) λx hx=>?_
 rcases List.mem_append.mp hx with hx|hx
 ·exact hL x hx
 ·rw[List.mem_singleton]at hx;subst hx
  refine⟨h2,by show 0<=2*st;omega,⟨λz=>?_,λz=>?_⟩,λz=>?_⟩
  ·have z:2*st=0:=z;omega
  ·have z:lo=hi:=z;omega
  ·show(hi-lo) % (2*st)=0
   obtain⟨k,hk⟩:=Int.dvd_of_emod_eq_zero (h7 s0)
   have e:(hi-lo) / st=k:=by rw[hk];exact Int.mul_ediv_cancel_left k s0
   rw[e]at z2
   obtain⟨j,rfl⟩:=Int.dvd_of_emod_eq_zero z2
   rw[hk,show st*(2*j)=2*st*j by rw[<-Int.mul_assoc,Int.mul_comm st 2]]
   exact Int.mul_emod_right _ _
end
section
variable{P:Program}{w:World}{K:W.Frag}{mg:Str->Option Value}{base:Heap}
def rF:PSp:=λas R=>∃nm tx st sp,∃p:Pt,as=[.dk,.va (bW nm tx st sp),.va (aU p)]/\gH nm tx st sp/\PartOk 1 p/\∀p',PW 1 p'->R (aU p')
theorem C56_:bG ["_law_deck_here","_law_world_here","_law_part_here"] ["_law_deck_here","_law_world_here","_law_part_here"] (aL vC):=fsc (by decide +kernel)
theorem zIg(h:Has K mg "_law_near_single" vC)(B:Own mg)(G29_:aE P w K mg base 2 "_law_take" ["_law_deck_here","_law_most"] dH)(G55_:aE P w K mg base 3 "_law_near_numbers" ["_law_deck_here","_law_part_here"] rO)(G54_:aE P w K mg base 4 "_law_near_words" ["_law_deck_here","_law_world_here","_law_words"] rK)   : aE P w K mg base 5 "_law_near_single" ["_law_deck_here","_law_world_here","_law_part_here"] rF:=by
 have nd:=C56_.nd
 refine h.pgood C56_ (fun|_,_,_,_,_,_,[_,_,_],_=>rfl) (λf cdv A outer s H E F hr=>
   (aI (aX (aQ (aW hr.units) (aG (aH hr.units) (aA 2) aC) aT (aO _))
    (aJ (aN (bI (aB aT (aB (aG (aH hr.units) (bA (bU (aB (bI (aB cD aD)) (aB (bI (aB cD aD)) (aB (bI (aB cD (aB cD aD))) aD))))) (aK G29_ (hr.mono (by omega)) rfl (bD 0 (aB aC aD)))) aD)))))
    bB)
   (aI (aX (aQ (aW hr.units) (aG (aH hr.units) (aA 2) aC) aT (aO _))
    (aJ (aN (aK G55_ (hr.mono (by omega)) rfl (bD 0 (aB (aA 2) aD)))))
    bB)
   (aI (aX (aQ (aW hr.units) (aG (aH hr.units) (aA 2) aC) aT (aO _))
    (aJ (aN (bI (aB aT (aB (aK G54_ (hr.mono (by omega)) rfl (bD 0 (aB (aA 1) (aB (aG (aH hr.units) (aA 2) aC) aD)))) aD)))))
    bB)
   (aJ (aN (aA 2))))))) (λas R q=>?_)
 obtain⟨nm,tx,st,sp,p,rfl,hw,hp,q⟩:=q
 cases p with
 |truths bs=>
  rw[jB]
  refine⟨rfl,_,at0,_,rfl,sY ⟨by simp,by simp,by simp,by simp,rfl,3,rfl,by decide,bE (by decide) (by decide),λr r0 r1=>?_⟩⟩
  obtain⟨U,hU,hm⟩:=fZ (l:=[Tv.seq true [bT false],.seq true [bT true],.seq true [bT false,bT true]]) r0 r1
  refine⟨U,hU,by simp,?_⟩
  simp only[List.mem_cons,List.not_mem_nil,or_false]at hm
  rcases hm with rfl|rfl|rfl
  ·have:=q (.truths [false]) (.inl rfl)
   rw[aU]at this;exact this
  ·have:=q (.truths [true]) (.inr (.inl rfl))
   rw[aU]at this;exact this
  ·have:=q (.truths [false,true]) (.inr (.inr rfl))
   rw[aU]at this;exact this
 |numbers lo hi st'=>
  have ea:[Ar.dk,.va (aU (.numbers lo hi st'))]=[.dk,.va (.seq true [sT "numbers",iT lo,iT hi,iT st'])]:=by rw[fG]
  rw[fG]
  exact⟨rfl,_,at0,_,rfl,sN (by decide +kernel) ⟨_,at0,_,rfl,sY ⟨rfl,lo,hi,st',ea.symm,hp,λa b c h=>q (.numbers a b c) h⟩⟩⟩
 |texts w=>
  rw[iC]
  refine⟨rfl,_,at0,_,rfl,sN (by decide +kernel) ⟨_,at0,_,rfl,sN (by decide +kernel) ⟨_,at0,_,rfl,sY ⟨rfl,_,bC (j:=1) rfl,nm,tx,st,sp,w,rfl,hw,hp,λw' hw'=>⟨by simp,?_⟩⟩⟩⟩⟩
  have:=q (.texts w') hw'
  rw[iC]at this
  exact this
 |nothing=>
  have:=q _ (PartOk.pw hp)
  rw[nP]at this ⊢
  exact⟨rfl,_,at0,_,rfl,sN (by decide +kernel) ⟨_,at0,_,rfl,sN (by decide +kernel) ⟨_,at0,_,rfl,sN (by decide +kernel) this⟩⟩⟩
 |lists a b f=>
  have:=q _ (PartOk.pw hp)
  rw[gA]at this ⊢
  exact⟨rfl,_,at0,_,rfl,sN (by decide +kernel) ⟨_,at0,_,rfl,sN (by decide +kernel) ⟨_,at0,_,rfl,sN (by decide +kernel) this⟩⟩⟩
 |record a b fs=>
  have:=q _ (PartOk.pw hp)
  rw[bR]at this ⊢
  exact⟨rfl,_,at0,_,rfl,sN (by decide +kernel) ⟨_,at0,_,rfl,sN (by decide +kernel) ⟨_,at0,_,rfl,sN (by decide +kernel) this⟩⟩⟩
 |table a b w f=>
  have:=q _ (PartOk.pw hp)
  rw[cV]at this ⊢
  exact⟨rfl,_,at0,_,rfl,sN (by decide +kernel) ⟨_,at0,_,rfl,sN (by decide +kernel) ⟨_,at0,_,rfl,sN (by decide +kernel) this⟩⟩⟩
theorem zR:∀{f:List Pt}{Us:List Tv},Paired (λT U=>∃p:Pt,U=aU p/\PW 1 p) (f.map aU) Us->∃g:List Pt,Us=g.map aU/\g.length=f.length/\∀p∈g,PW 1 p
 |[],[],_=>⟨[],rfl,rfl,λx hx=>nomatch hx⟩
 |p::f,U::Us,.cons r t=>by
  obtain⟨g,rfl,e2,h⟩:=zR (f:=f) t
  obtain⟨p',rfl,hp⟩:=r
  refine⟨p'::g,rfl,by rw[List.length_cons,List.length_cons,e2],λx hx=>?_⟩
  rcases List.mem_cons.mp hx with rfl|hx
  ·exact hp
  ·exact h x hx
end
end My
namespace My
open PySem L2 PyProof.Rows WordM
section
variable{P:Program}{w:World}{K:W.Frag}{mg:Str->Option Value}{base:Heap}
def fsT(fs:List Fd):Tv:=.seq true (fs.map bH)
def sQ:PSp:=λas R=>∃(a b:Int) (fs:List Fd),as=[.va (iT a),.va (iT b),.va (fsT fs)]/\fs.length<=8/\∀a' b',R (aU (.record a' b' fs))
theorem C57_:bG ["_law_least","_law_most","_law_fields","_law_many","_law_musts"] ["_law_least","_law_most","_law_fields"] (aL qJ):=fsc (by decide +kernel)
theorem zIf(h:Has K mg "_law_fitted" qJ)(B:Own mg)    : aE P w K mg base 1 "_law_fitted" ["_law_least","_law_most","_law_fields"] sQ:=by
 have nd:=C57_.nd
 refine h.pgood C57_ (fun|_,_,_,_,_,_,[_,_,_],_=>rfl) (λf cdv A outer s H E F hr=>
   (aI (aZ (i:=3) nd rfl (.inl rfl) (bK cE rfl B.len PySem.boot_len (aB (aA 2) aD)))
   (aI (aZ (i:=4) nd rfl (.inl rfl) (bK cE rfl B.len PySem.boot_len (aB (bA (bX (sc:=aL qJ) (XN:=["_law_least","_law_most","_law_fields","_law_many","_law_musts"]) (N:=["_law_field"]) (own:=1) (fr:=[]) rfl ⟨rfl,by decide +kernel,by decide +kernel,by decide +kernel,rfl,by decide +kernel,by decide,by decide +kernel⟩ (by decide) (bO (aA 2)) (λ_ _ _ _ _=>(bF 0 (by decide) (show(["_law_field"]:List Str).Nodup by decide +kernel) rfl (by first|exact Or.inl rfl|exact Or.inr rfl))) (λ_ _ _ _ _=>(cX (cM (aG (aH hr.units) (aA 0) aC)))) (λ_ _ _ _ _=>(aA 0)))) aD)))
   (aI (aX (aQ (aW hr.units) (aA 4) (aA 3) (aO _))
    (aJ (aN (bI (aB aT (aB (aA 3) (aB (aA 3) (aB (aA 2) aD)))))))
    bB)
   (aI (aZ (i:=0) nd rfl (.inl rfl) (bK (gW rfl) rfl B.max boot_max (aB (aA 4) (aB (bK (iL rfl) rfl B.min boot_min (aB (aA 0) (aB (aR eC (aA 3) aC) aD))) aD))))
   (aJ (aN (bI (aB aT (aB (aA 0) (aB (bK (zEX rfl) rfl B.max boot_max (aB (aA 0) (aB (aR bN (aA 4) aC) (aB (bK (iL rfl) rfl B.min boot_min (aB (aA 1) (aB (aA 3) aD))) aD)))) (aB (aA 2) aD)))))))))))) (λas R q=>?_)
 obtain⟨a,b,fs,rfl,l8,q⟩:=q
 have q:∀a' b':Int,R (.seq true [sT "record",iT a',iT b',fsT fs]):=λa' b'=>by
  have:=q a' b'
  rw[bR]at this
  exact this
 refine⟨rfl,by rw[List.length_map];omega,cL bH (λx=>if x.2.1=true then some (bH x) else none) (λx hx R q=>⟨_,bC (j:=1) rfl,_,rfl,sif (λz=>?_) (λz=>?_)⟩) ?_⟩
 ·rw[if_pos z]at q;exact q
 ·rw[if_neg (by rw[z];exact Bool.false_ne_true)]at q;exact q
 show PEnds.nx _ _
 refine nxE (ρ':=[.va (iT a),.va (iT b),.va (fsT fs),.va (iT ((fs.map bH).length:Nat)),.va (iT ((fs.filterMap λx=>if x.2.1=true then some (bH x) else none).length:Nat))]) rfl ?_
 generalize (fs.filterMap λx=>if x.2.1=true then some (bH x) else none).length=k
 refine⟨_,rfl,dA (λ_=>⟨by simp,q _ _⟩) (λ_=>.inl ⟨_,_,rfl,.inl ⟨_,_,rfl,.inl ⟨_,_,rfl,_,_,_,rfl,by simp,q _ _⟩⟩⟩)⟩
end
end My
namespace My
open PySem L2 PyProof.Rows WordM
section
variable{P:Program}{w:World}{K:W.Frag}{mg:Str->Option Value}{base:Heap}
theorem xV{s t:UTs}{P:PEnds}{ρ:aV}{J:aV->Prop}(rest:∀ρ',J ρ'->t P ρ')(main:(∀ρ',J ρ'->t P ρ')->qH s t P ρ):qH s t P ρ:=main rest
def FdW(fs:List Fd):Prop:=fs.length<=8/\(fs.map (·.1)).Nodup/\∀x∈fs,(Sg x.1/\x.1.length<=200)/\x.2.2.length<=100/\∀p∈x.2.2,PW 1 p
theorem FdW.perm{fs gs:List Fd}(h:FdW fs)(p:gs.Perm fs):FdW gs:=⟨by rw[p.length_eq];exact h.1,(p.map (·.1)).nodup_iff.mpr h.2.1,λx hx=>h.2.2 x (p.mem_iff.mp hx)⟩
theorem FdW.erase{fs:List Fd}(h:FdW fs)(k:Nat):FdW (fs.eraseIdx k):=⟨Nat.le_trans (List.eraseIdx_sublist fs k).length_le h.1,h.2.1.sublist ((List.eraseIdx_sublist fs k).map _),λx hx=>h.2.2 x ((List.eraseIdx_sublist fs k).subset hx)⟩
theorem FdW.set{fs:List Fd}(h:FdW fs){k:Nat}(hk:k<fs.length){y:Fd}(e:y.1=fs[k].1)(ly:y.2.2.length<=100)(py:∀p∈y.2.2,PW 1 p):FdW (fs.set k y):=by
 refine⟨by rw[List.length_set];exact h.1,?_,λx hx=>?_⟩
 ·have:(fs.set k y).map (·.1)=fs.map (·.1):=by
   rw[List.map_set,e]
   apply List.ext_getElem?
   intro i
   rw[List.getElem?_set]
   split
   ·rename_i z;subst z
    simp[hk]
   ·rfl
  rw[this];exact h.2.1
 ·rcases List.mem_or_eq_of_mem_set hx with hx|rfl
  ·exact h.2.2 x hx
  ·exact⟨by rw[e];exact(h.2.2 _ (List.getElem_mem hk)).1,ly,py⟩
theorem FdW.app{fs:List Fd}(h:FdW fs)(l:fs.length<8){y:Fd}(hn:y.1∉fs.map (·.1))(hs:Sg y.1/\y.1.length<=200)(ly:y.2.2.length<=100)(py:∀p∈y.2.2,PW 1 p):FdW (fs++[y]):=by
 refine⟨by rw[List.length_append];simp;omega,?_,λx hx=>?_⟩
 ·rw[List.map_append,List.nodup_append]
  refine⟨h.2.1,by simp,λa ha b hb=>?_⟩
  simp only[List.map_cons,List.map_nil,List.mem_singleton]at hb
  subst hb
  exact λz=>hn (z▸ha)
 ·rcases List.mem_append.mp hx with hx|hx
  ·exact h.2.2 x hx
  ·rw[List.mem_singleton]at hx;subst hx
   exact⟨hs,ly,py⟩
theorem xI:∀(fs:List Fd),Paired (λT n=>∃r,T=.seq true (sT n::r)) (fs.map bH) (fs.map (·.1))
 |[]=>.nil
 |x::fs=>.cons ⟨[bT x.2.1,cK x.2.2],rfl⟩ (xI fs)
theorem zEa:∀{Ts:List Tv}{fs:List Fd},Ts.Perm (fs.map bH)->∃gs:List Fd,Ts=gs.map bH/\gs.Perm fs:=by
 intro Ts fs p
 have:=wX (R:=λT (x:Fd)=>T=bH x) p (us:=fs) (by
  clear p
  induction fs with
  |nil=>exact .nil
  |cons x fs ih=>exact .cons rfl ih)
 obtain⟨gs,r,pm⟩:=this
 refine⟨gs,?_,pm⟩
 clear pm p
 induction r with
 |nil=>rfl
 |cons h _ ih=>subst h;rw[ih];rfl
theorem zBu{r x:Int}(r0:0<=r)(r1:r<4)(x0:x=0\/x=1):∃m:Int,atI [iT 0,iT 1,iT (-1),iT 0] (r*x)=some (iT m):=by
 obtain⟨U,hU,hm⟩:=fZ (l:=[iT 0,iT 1,iT (-1),iT 0]) (r:=r*x) (by rcases x0 with rfl|rfl<;>omega) (by rcases x0 with rfl|rfl<;>simp<;>omega)
 simp only[List.mem_cons,List.not_mem_nil,or_false]at hm
 rcases hm with rfl|rfl|rfl|rfl<;>exact⟨_,hU⟩
theorem zFN{t1 t2 t3:UTt}{A B:UTs}{P:PEnds}{ρ:aV}{b1 b2 b3:Bool}(h1:∀Q:Bool->aV->Prop,Q b1 ρ->t1 ρ Q)(h2:∀Q:Bool->aV->Prop,Q b2 ρ->t2 ρ Q)(h3:∀Q:Bool->aV->Prop,Q b3 ρ->t3 ρ Q)(hA:(b1=true\/b2=true)->b3=true->A P ρ)(hB:¬ ((b1=true\/b2=true)/\b3=true)->B P ρ):sIf (uZ (uOr t1 t2) t3) A B P ρ:=by
 refine h1 _ (sif (λz=>bS (h3 _ (sif (λz3=>hA (.inl z) z3) λz3=>hB λh=>?_))) λz=>h2 _ (sif (λz2=>h3 _ (sif (λz3=>hA (.inr z2) z3) λz3=>hB λh=>?_)) λz2=>bJ (hB λh=>?_)))
 ·rw[z3]at h;cases h.2
 ·rw[z3]at h;cases h.2
 ·rw[z,z2]at h;rcases h.1 with h|h<;>cases h
theorem zCQ{nm tx:List Str}{st sp:Int}{fs:List Fd}(hw:gH nm tx st sp)(l:fs.length<8):∃ns:List Str,(nm.filterMap λn=>if n∈fs.map (·.1) then none else some (sT n))=ns.map sT/\(∀n∈ns,n∈nm/\n∉fs.map (·.1))/\0<ns.length:=by
 refine⟨nm.filter λn=>decide (n∉fs.map (·.1)),?_,λn hn=>?_,?_⟩
 ·clear hw
  induction nm with
  |nil=>rfl
  |cons x nm ih=>
   rw[List.filterMap_cons,List.filter_cons]
   by_cases h:x∈fs.map (·.1)
   ·rw[if_pos h,if_neg (by rw[decide_eq_true_eq];exact λz=>z h)];exact ih
   ·rw[if_neg h,if_pos (decide_eq_true h)];show _::_=_;rw[ih];rfl
 ·rw[List.mem_filter]at hn
  exact⟨hn.1,of_decide_eq_true hn.2⟩
 ·refine List.length_pos_iff.mpr λe=>?_
  have:=WordM.nodup_len hw.nd (m:=fs.map (·.1)) λx hx=>Classical.byContradiction λh=>by
   have:x∈nm.filter λn=>decide (n∉fs.map (·.1)):=List.mem_filter.mpr ⟨hx,decide_eq_true h⟩
   rw[e]at this;cases this
  rw[hw.n11,List.length_map]at this
  omega
theorem zD7{α β:Type}{g:α->β}{l:List α}{r:Int}(h0:0<=r)(h1:r<l.length):∃a∈l,atI (l.map g) r=some (g a):=by
 have hl:r.toNat<l.length:=by omega
 refine⟨l[r.toNat],List.getElem_mem hl,?_⟩
 have:=bC (xs:=l.map g) (j:=r.toNat) (v:=g l[r.toNat]) (by rw[List.getElem?_map,List.getElem?_eq_getElem hl];rfl)
 rw[show((r.toNat:Nat):Int)=r by omega]at this
 exact this
def rV:PSp:=λas R=>∃nm tx st sp,∃(a b:Int) (fs:List Fd),as=[.dk,.va (bW nm tx st sp),.va (aU (.record a b fs))]/\gH nm tx st sp/\PartOk 2 (.record a b fs)/\∀p',PW 2 p'->R (aU p')
theorem C58_:bG ["_law_deck_here","_law_world_here","_law_part_here","_law_least","_law_most","_law_fields","_law_way","_law_at","_law_names","_law_name","_law_inner"] ["_law_deck_here","_law_world_here","_law_part_here"] (aL nB):=fsc (by decide +kernel)
theorem zIe(h:Has K mg "_law_near_record" nB)(B:Own mg)(G29_:aE P w K mg base 2 "_law_take" ["_law_deck_here","_law_most"] dH)(G40_:aE P w K mg base (6+3*1) "_law_form" ["_law_deck_here","_law_world_here","_law_deep","_law_most"] (jO 1))(G56_:aE P w K mg base 5 "_law_near_single" ["_law_deck_here","_law_world_here","_law_part_here"] rF)(G57_:aE P w K mg base 1 "_law_fitted" ["_law_least","_law_most","_law_fields"] sQ)   : aE P w K mg base 10 "_law_near_record" ["_law_deck_here","_law_world_here","_law_part_here"] rV:=by
 have nd:=C58_.nd
 refine h.pgood C58_ (fun|_,_,_,_,_,_,[_,_,_],_=>rfl) (λf cdv A outer s H E F hr=>
   (aI (tX (m:=11) (dO dQ (aA 2) (dL aC) (dL aC)) (pI 2 rfl (fQ (bF 3 (by decide) nd rfl (.inl rfl)) (fQ (bF 4 (by decide) nd rfl (.inl rfl)) pA))))
   (aI (iI (i:=5) nd rfl (.inr rfl) (jC jF rfl B.list_ boot_list (aB (aG (aH hr.units) (aA 2) aC) aD)))
   (aI (aZ (i:=6) nd rfl (.inl rfl) (aK G29_ (hr.mono (by omega)) rfl (bD 0 (aB aC aD))))
   (aI (aZ (i:=7) nd rfl (.inl rfl) (aK G29_ (hr.mono (by omega)) rfl (bD 0 (aB (bK (gW rfl) rfl B.max boot_max (aB aC (aB (fS λF=>(bK cE rfl B.len PySem.boot_len (aB (aA 5) aD))) aD))) aD))))
   (aI (aX (cO (eR (cO (eD (aQ (aW hr.units) (aA 6) aC (aO _)) (eI (sX λF=>(aQ (aW hr.units) (aA 5) (bA (bU aD)) (aO _)))))) (fH (aQ iP (fS λF=>(bK cE rfl B.len PySem.boot_len (aB (aA 5) aD))) aC (aO _)))))
    (aI (gE (i:=8) (sc:=aL nB) (XN:=["_law_deck_here","_law_world_here","_law_part_here","_law_least","_law_most","_law_fields","_law_way","_law_at","_law_names","_law_name","_law_inner"]) (N:=["_law_name","_law_fields"]) (own:=1) (fr:=[5]) rfl nd rfl (.inl rfl) ⟨rfl,by decide +kernel,by decide +kernel,by decide +kernel,rfl,by decide +kernel,by decide,by decide +kernel⟩ (by decide) (bO (aG (aH hr.units) (aA 1) aC)) (λ_ _ _ _ _=>(bF 0 (by decide) (show(["_law_name","_law_fields"]:List Str).Nodup by decide +kernel) rfl (by first|exact Or.inl rfl|exact Or.inr rfl))) (λ_ _ _ _ _=>(cX (sX λF=>(aQ (gC hr.units) (aA 0) (bA (bX (sc:={kind:=.function,names:=[(".0",.local),("_law_name",.local),("_law_fields",.cell)],isGenerator:=false,isCoroutine:=false}) (XN:=["_law_name","_law_fields"]) (N:=["_law_field"]) (own:=1) (fr:=[]) rfl ⟨rfl,by decide +kernel,by decide +kernel,by decide +kernel,rfl,by decide +kernel,by decide,by decide +kernel⟩ (by decide) (bO (aA 1)) (λ_ _ _ _ _=>(bF 0 (by decide) (show(["_law_field"]:List Str).Nodup by decide +kernel) rfl (by first|exact Or.inl rfl|exact Or.inr rfl))) (λ_ _ _ _ _=>cH) (λ_ _ _ _ _=>(aG (aH hr.units) (aA 0) aC)))) rfl)))) (λ_ _ _ _ _=>(aA 0)))
    (aI (aZ (i:=9) nd rfl (.inl rfl) (aG (aH hr.units) (aA 8) (aK G29_ (hr.mono (by omega)) rfl (bD 0 (aB (bK cE rfl B.len PySem.boot_len (aB (aA 8) aD)) aD)))))
    (aJ (gF (jD 5 (bI (aB (aA 9) (aB (cA (aW hr.units).op (aK G29_ (hr.mono (by omega)) rfl (bD 0 (aB aC aD))) aC (aO _)) (aB (aK G40_ (hr.mono (by omega)) rfl (bD 0 (aB (aA 1) (aB aC (aB aC aD))))) aD)))))))))
    (aJ (aX (aQ (aW hr.units) (aA 6) aC (aO _))
     (aJ (gF (lQ 5 (aA 7))))
     (aJ (aX (aQ (aW hr.units) (aA 6) aC (aO _))
      (aJ (yZ (i:=5) rfl (by first|exact Or.inl rfl|exact Or.inr (Or.inl rfl)|exact Or.inr (Or.inr rfl)) (aA 7) (bI (aB (aG (aH hr.units) (jJ 5 (aA 7)) aC) (aB (zFD (aG (aH hr.units) (jJ 5 (aA 7)) aC)) (aB (aG (aH hr.units) (jJ 5 (aA 7)) aC) aD))))))
      (aJ (aX (aQ (aW hr.units) (aA 6) aC (aO _))
       (aI (aZ (i:=10) nd rfl (.inl rfl) (gB gQ rfl B.tuple_ boot_tuple (aB (bA (bX (sc:=aL nB) (XN:=["_law_deck_here","_law_world_here","_law_part_here","_law_least","_law_most","_law_fields","_law_way","_law_at","_law_names","_law_name","_law_inner"]) (N:=["_law_one","_law_deck_here","_law_world_here"]) (own:=1) (fr:=[0,1]) rfl ⟨rfl,by decide +kernel,by decide +kernel,by decide +kernel,rfl,by decide +kernel,by decide,by decide +kernel⟩ (by decide) (bO (aG (aH hr.units) (jJ 5 (aA 7)) aC)) (λ_ _ _ _ _=>(bF 0 (by decide) (show(["_law_one","_law_deck_here","_law_world_here"]:List Str).Nodup by decide +kernel) rfl (by first|exact Or.inl rfl|exact Or.inr rfl))) (λ_ _ _ _ _=>cH) (λ_ _ _ _ _=>(aK G56_ (hr.mono (by omega)) rfl (bD 1 (aB (aA 2) (aB (aA 0) aD))))))) aD)))
       (aJ (yZ (i:=5) rfl (by first|exact Or.inl rfl|exact Or.inr (Or.inl rfl)|exact Or.inr (Or.inr rfl)) (aA 7) (aR bN (dO dQ (jJ 5 (aA 7)) dW (dL aC)) (bI (aB (aA 10) aD))))))
       bB)))))))
   (aI (aZ (i:=3) nd rfl (.inl rfl) (aR bN (aA 3) (aG (aH hr.units) (bA (bU (aB aC (aB aC (aB (mS mJ aC) (aB aC aD)))))) (aR dX (aK G29_ (hr.mono (by omega)) rfl (bD 0 (aB aC aD))) (aR jM (aA 6) aC)))))
   (aI (aZ (i:=4) nd rfl (.inl rfl) (aR bN (aA 4) (aG (aH hr.units) (bA (bU (aB aC (aB aC (aB (mS mJ aC) (aB aC aD)))))) (aR dX (aK G29_ (hr.mono (by omega)) rfl (bD 0 (aB aC aD))) (aR jM (aA 6) aC)))))
   (aJ (aN (aK G57_ (hr.mono (by omega)) rfl (aB (bK (gW rfl) rfl B.max boot_max (aB aC (aB (aA 3) aD))) (aB (aA 4) (aB (gB gQ rfl B.tuple_ boot_tuple (aB (bA (lO zD3 rfl B.sorted boot_sorted (aB (aA 5) aD))) aD)) aD)))))))))))))) (λas R q=>?_)
 obtain⟨nm,tx,st,sp,a,b,fs,rfl,hw,hp,q⟩:=q
 have hf:FdW fs:=PartOk.pw hp
 rw[bR]
 refine⟨rfl,1,rfl,3,rfl,_,rfl,rfl,_,_,rfl,_,_,rfl,rfl,?_⟩
 let T0:Tv:=.seq true [sT "record",iT a,iT b,.seq true (fs.map bH)]
 show PEnds.nx _ _
 refine nxE (ρ':=[.dk,.va (bW nm tx st sp),.va T0,.va (iT a),.va (iT b),.no,.no,.no,.no,.no,.no]) rfl ?_
 refine⟨_,bC (j:=3) rfl,_,_,rfl,?_⟩
 show PEnds.nx _ _
 refine nxE (ρ':=[.dk,.va (bW nm tx st sp),.va T0,.va (iT a),.va (iT b),.own (fs.map bH),.no,.no,.no,.no,.no]) rfl ?_
 refine⟨rfl,8,rfl,by decide,bE (by decide) (by decide),λway w0 w8=>?_⟩
 show PEnds.nx _ _
 refine nxE (ρ':=[.dk,.va (bW nm tx st sp),.va T0,.va (iT a),.va (iT b),.own (fs.map bH),.va (iT way),.no,.no,.no,.no]) rfl ?_
 refine⟨rfl,_,rfl,.inl ⟨_,_,rfl,_,rfl,by omega,bE (by omega) (by rw[List.length_map];have:=hf.1;omega),λk k0 k1=>?_⟩⟩
 rw[List.length_map]at k1
 show PEnds.nx _ _
 refine nxE (ρ':=[.dk,.va (bW nm tx st sp),.va T0,.va (iT a),.va (iT b),.own (fs.map bH),.va (iT way),.va (iT k),.no,.no,.no]) rfl ?_
 dsimp only
 refine xV (J:=λρ'=>∃(gs:List Fd) (s8 s9 s10:Sl),FdW gs/\ρ'=[.dk,.va (bW nm tx st sp),.va T0,.va (iT a),.va (iT b),.own (gs.map bH),.va (iT way),.va (iT k),s8,s9,s10]) ?rest (λrest=>?main)
 case rest=>
  rintro _ ⟨gs,s8,s9,s10,hg,rfl⟩
  have wq:way / 4=0\/way / 4=1:=by omega
  refine⟨by simp,rfl,4,rfl,by decide,bE (by decide) (by decide),λr r0 r1=>?_⟩
  obtain⟨m,em⟩:=zBu r0 r1 wq
  refine⟨⟨by decide,bE (by decide) (by decide)⟩,.inl (.inl ⟨by omega,by omega⟩),_,em,?_⟩
  show PEnds.nx _ _
  refine nxE (ρ':=[.dk,.va (bW nm tx st sp),.va T0,.va (iT (a+m)),.va (iT b),.own (gs.map bH),.va (iT way),.va (iT k),s8,s9,s10]) rfl ?_
  refine⟨by simp,rfl,4,rfl,by decide,bE (by decide) (by decide),λr r0 r1=>?_⟩
  obtain⟨m2,em2⟩:=zBu r0 r1 wq
  refine⟨⟨by decide,bE (by decide) (by decide)⟩,.inl (.inl ⟨by omega,by omega⟩),_,em2,?_⟩
  show PEnds.nx _ _
  refine nxE (ρ':=[.dk,.va (bW nm tx st sp),.va T0,.va (iT (a+m)),.va (iT (b+m2)),.own (gs.map bH),.va (iT way),.va (iT k),s8,s9,s10]) rfl ?_
  refine .inl ⟨_,_,rfl,gs.map bH,gs.map (·.1),rfl,by rw[List.length_map];have:=hg.1;omega,hg.2.1,xI gs,λTs' pm=>?_⟩
  obtain⟨gs',rfl,pm'⟩:=zEa pm
  have hg':=hg.perm pm'
  exact⟨_,_,rfl,_,_,gs',rfl,hg'.1,λa' b'=>q (.record a' b' gs') hg'⟩
 case main=>
  show sIf _ _ _ _ _
  refine zFN (b1:=false != eqV (.int way) (.int 0)) (b2:=false != bZ (fs.map bH) []) (b3:=decide (((fs.map bH).length:Int)<8)) (λQ h=>⟨_,rfl,h⟩) (λQ h=>?_) (λQ h=>?_) (λz1 z2=>?_) (λz=>?_)
  ·exact⟨by simp,.inr (.inl rfl),_,rfl,h⟩
  ·exact⟨_,rfl,_,rfl,h⟩
  ·have lf:fs.length<8:=by have:=of_decide_eq_true z2;rw[List.length_map]at this;omega
   refine⟨_,at0,by rw[List.length_map,hw.n11];decide,?_⟩
   refine cL sT (λn=>if n∈fs.map (·.1) then none else some (sT n)) (λn hn R' q'=>⟨by rw[List.length_map];omega,dC bH (λx=>sT x.1) (λx hx R'' q''=>⟨_,at0,q''⟩) ?_⟩) ?_
   ·show uG (sT n) (.seq false (fs.map λx=>sT x.1)) _
    rw[show(fs.map λx=>sT x.1)=(fs.map (·.1)).map sT by rw[List.map_map];rfl]
    refine⟨eP,_,rfl,?_⟩
    rw[eG]
    by_cases hm:n∈fs.map (·.1)
    ·rw[if_pos hm]at q'
     rw[decide_eq_true hm]
     exact bJ q'
    ·rw[if_neg hm]at q'
     rw[decide_eq_false hm]
     exact bS q'
   ·obtain⟨ns,hns,nse,np⟩:=zCQ (fs:=fs) hw lf
    rw[hns]
    show PEnds.nx _ _
    refine nxE (ρ':=[.dk,.va (bW nm tx st sp),.va T0,.va (iT a),.va (iT b),.own (fs.map bH),.va (iT way),.va (iT k),.va (.seq false (ns.map sT)),.no,.no]) rfl ?_
    have nl:ns.length<=11:=by
     have:=congrArg List.length hns
     rw[List.length_map]at this
     rw[<-this,<-hw.n11]
     exact List.length_filterMap_le _ _
    refine⟨rfl,((ns.map sT).length:Nat),rfl,by rw[List.length_map];omega,by rw[List.length_map];exact bE (by omega) (by omega),λj j0 j1=>?_⟩
    rw[List.length_map]at j1
    obtain⟨x,hx,ex⟩:=zD7 (g:=sT) (l:=ns) j0 j1
    refine⟨_,ex,?_⟩
    show PEnds.nx _ _
    refine nxE (ρ':=[.dk,.va (bW nm tx st sp),.va T0,.va (iT a),.va (iT b),.own (fs.map bH),.va (iT way),.va (iT k),.va (.seq false (ns.map sT)),.va (sT x),.no]) rfl ?_
    refine⟨⟨_,rfl⟩,rfl,2,rfl,by decide,bE (by decide) (by decide),λr r0 r1=>⟨rfl,nm,tx,st,sp,0,2,rfl,hw,by decide,by decide,by decide,by decide,λf fn hf'=>⟨by simp,_,rfl,by rw[List.length_map];omega,?_⟩⟩⟩
    have hxs:=hw.ns x (nse x hx).1
    show PEnds.nx _ _
    refine nxE (ρ':=[.dk,.va (bW nm tx st sp),.va T0,.va (iT a),.va (iT b),.own ((fs++[((x,false != eqV (.int r) (.int 0),f):Fd)]).map bH),.va (iT way),.va (iT k),.va (.seq false (ns.map sT)),.va (sT x),.no]) (by rw[List.map_append];rfl) ?_
    exact rest _ ⟨_,_,_,_,hf.app lf (nse x hx).2 ⟨hxs.1,by have:=hxs.2;show x.length<=200;omega⟩ (Nat.le_trans (oJ hf'.1) (by decide)) (λp hp=>PartOk.pw (hf'.2 p hp)),rfl⟩
  ·by_cases e0:fs=[]
   ·exact absurd ⟨.inr (by rw[e0];rfl),by rw[e0];rfl⟩ z
   have lp:0<fs.length:=List.length_pos_iff.mpr e0
   have kl:k.toNat<fs.length:=by omega
   have ek:atI (fs.map bH) k=some (bH fs[k.toNat]):=by
    have:=bC (xs:=fs.map bH) (j:=k.toNat) (v:=bH fs[k.toNat]) (by rw[List.getElem?_map,List.getElem?_eq_getElem kl];rfl)
    rw[show((k.toNat:Nat):Int)=k by omega]at this
    exact this
   have exN:ixN (fs.map bH).length k=some k.toNat:=by unfold ixN;rw[if_pos k0,if_pos (by rw[List.length_map];omega)]
   have hpx:=hp.2.2.2.2.1 fs[k.toNat] (List.getElem_mem kl)
   have hfx:=hf.2.2 fs[k.toNat] (List.getElem_mem kl)
   refine⟨_,rfl,dA (λ_=>?_) (λ_=>⟨_,rfl,dA (λ_=>?_) (λ_=>⟨_,rfl,dA (λ_=>?_) (λ_=>rest _ ⟨fs,_,_,_,hf,rfl⟩)⟩)⟩)⟩
   ·refine⟨⟨_,rfl⟩,k,_,bH fs[k.toNat],rfl,rfl,k0,by rw[List.getElem?_map,List.getElem?_eq_getElem kl];rfl,?_⟩
    show PEnds.nx _ _
    refine nxE (ρ':=[.dk,.va (bW nm tx st sp),.va T0,.va (iT a),.va (iT b),.own ((fs.eraseIdx k.toNat).map bH),.va (iT way),.va (iT k),.no,.no,.no]) (by rw[<-kF];rfl) ?_
    exact rest _ ⟨_,_,_,_,hf.erase _,rfl⟩
   ·refine⟨⟨_,rfl⟩,k,_,_,rfl,rfl,ek,_,at0,⟨_,rfl⟩,k,_,_,rfl,rfl,ek,_,bC (j:=1) rfl,_,rfl,⟨_,rfl⟩,k,_,_,rfl,rfl,ek,_,bC (j:=2) rfl,by simp,⟨_,rfl⟩,k,k.toNat,_,rfl,rfl,exN,?_⟩
    show PEnds.nx _ _
    refine nxE (ρ':=[.dk,.va (bW nm tx st sp),.va T0,.va (iT a),.va (iT b),.own ((fs.set k.toNat (fs[k.toNat].1,!fs[k.toNat].2.1,fs[k.toNat].2.2)).map bH),.va (iT way),.va (iT k),.no,.no,.no]) (by rw[List.map_set];rfl) ?_
    exact rest _ ⟨fs.set k.toNat (fs[k.toNat].1,!fs[k.toNat].2.1,fs[k.toNat].2.2),_,_,_,hf.set (y:=(fs[k.toNat].1,!fs[k.toNat].2.1,fs[k.toNat].2.2)) kl rfl hfx.2.1 hfx.2.2,rfl⟩
   ·refine⟨⟨_,rfl⟩,k,_,_,rfl,rfl,ek,_,bC (j:=2) rfl,?_⟩
    refine⟨by rw[List.length_map];omega,?_⟩
    refine oM (λT U=>∃p:Pt,U=aU p/\PW 1 p) (λT hT R' hR=>?_) (λUs hUs=>?_)
    ·obtain⟨p,hpm,rfl⟩:=List.mem_map.mp hT
     exact⟨rfl,nm,tx,st,sp,p,rfl,hw,hpx.2.2.2 p hpm,λp' hp'=>hR _ ⟨p',rfl,hp'⟩⟩
    ·obtain⟨g,rfl,gl,hg⟩:=zR hUs
     refine⟨false,_,rfl,?_⟩
     show PEnds.nx _ _
     refine nxE (ρ':=[.dk,.va (bW nm tx st sp),.va T0,.va (iT a),.va (iT b),.own (fs.map bH),.va (iT way),.va (iT k),.no,.no,.va (cK g)]) rfl ?_
     refine⟨⟨_,rfl⟩,k,_,_,rfl,rfl,ek,2,rfl,by simp,?_⟩
     refine⟨by show(2+1:Nat)<=100000;decide,⟨_,rfl⟩,k,k.toNat,_,rfl,rfl,exN,?_⟩
     show PEnds.nx _ _
     refine nxE (ρ':=[.dk,.va (bW nm tx st sp),.va T0,.va (iT a),.va (iT b),.own ((fs.set k.toNat (fs[k.toNat].1,fs[k.toNat].2.1,g)).map bH),.va (iT way),.va (iT k),.no,.no,.va (cK g)]) (by rw[List.map_set];rfl) ?_
     exact rest _ ⟨fs.set k.toNat (fs[k.toNat].1,fs[k.toNat].2.1,g),_,_,_,hf.set (y:=(fs[k.toNat].1,fs[k.toNat].2.1,g)) kl rfl (by show g.length<=100;omega) hg,rfl⟩
end
end My
namespace My
open PySem L2 PyProof.Rows WordM
section
variable{P:Program}{w:World}{K:W.Frag}{mg:Str->Option Value}{base:Heap}
def tJ:PSp:=λas R=>∃f g:List Pt,as=[.va (cK f),.va (cK g)]/\f.length<=100/\g.length<=100/\(∀p∈f,PW 2 p)/\(∀p∈g,PW 2 p)/\R (bT true)
theorem C59_:bG ["_law_one","_law_other","_law_pair"] ["_law_one","_law_other"] (aL vB):=fsc (by decide +kernel)
theorem zId(h:Has K mg "_law_asked" vB)(B:Own mg)(G26_:aE P w K mg base (3*2+7) "within" ["one","other"] (eN 2))(G52_:aE P w K mg base (4*2+5) "_law_within" ["_law_one","_law_other"] (eN 2))(Brepr:mg "repr"=none):aE P w K mg base 14 "_law_asked" ["_law_one","_law_other"] tJ:=by
 have nd:=C59_.nd
 refine h.pgood C59_ (fun|_,_,_,_,_,_,[_,_],_=>rfl) (λf cdv A outer s H E F hr=>
   (aI (fT (m:=3) PassesOwn.never rfl (bO (bA (bU (aB (bI (aB (aA 0) (aB (aA 1) aD))) (aB (bI (aB (aA 1) (aB (aA 0) aD))) (aB (bI (aB (aA 0) (aB (aA 0) aD))) (aB (bI (aB (aA 0) (aB (aA 1) aD))) aD))))))) (bF 2 (by decide) nd rfl (.inl rfl))
    (aJ (aX (aQ (mW hr.units) (bK (zAn hr.gd (Room.r16 hr)) rfl Brepr L2.boot_repr (aB (aK G26_ (hr.mono (by omega)) rfl (aB (aG (aH hr.units) (aA 2) aC) (aB (aG (aH hr.units) (aA 2) aC) aD))) aD)) (bK (zAn hr.gd (Room.r16 hr)) rfl Brepr L2.boot_repr (aB (aK G52_ (hr.mono (by omega)) rfl (aB (aG (aH hr.units) (aA 2) aC) (aB (aG (aH hr.units) (aA 2) aC) aD))) aD)) (aO _))
     (aJ (aN cD))
     bB)))
   (aJ (aN cD)))) (λas R q=>?_)
 obtain⟨f,g,rfl,lf,lg,hf,hg,q⟩:=q
 refine⟨rfl,by simp,by simp,by simp,by simp,by simp,?_⟩
 refine iE (λi ρ=>∃s:Sl,ρ=[.va (cK f),.va (cK g),s]) ⟨.no,rfl⟩ ?_ (λ_ ⟨_,e⟩=>by subst e;exact q)
 rintro i T _ N hT ⟨s,rfl⟩ hN
 have ho:∃a b:List Pt,T=.seq true [cK a,cK b]/\a.length<=100/\b.length<=100/\(∀p∈a,PW 2 p)/\∀p∈b,PW 2 p:=by
  have:=List.mem_of_getElem? hT
  simp only[List.mem_cons,List.not_mem_nil,or_false]at this
  rcases this with rfl|rfl|rfl|rfl
  ·exact⟨f,g,rfl,lf,lg,hf,hg⟩
  ·exact⟨g,f,rfl,lg,lf,hg,hf⟩
  ·exact⟨f,f,rfl,lf,lf,hf,hf⟩
  ·exact⟨f,g,rfl,lf,lg,hf,hg⟩
 obtain⟨a,b,rfl,la,lb,ha,hb⟩:=ho
 refine⟨_,at0,_,bC (j:=1) rfl,a,b,rfl,la,lb,ha,hb,.inl ⟨_,rfl,_,at0,_,bC (j:=1) rfl,a,b,rfl,la,lb,ha,hb,.inl ⟨_,rfl,_,rfl,sif (λz=>False.elim ?_) (λz=>hN _ ⟨_,rfl⟩)⟩⟩⟩
 simp[eqV]at z
end
end My
namespace My
open PySem L2 PyProof.Rows WordM
section
variable{P:Program}{w:World}{K:W.Frag}{mg:Str->Option Value}{base:Heap}
theorem C60_:bG ["_law_script","_law_deck_here","_law_world_here","_law_turn","_law_many","_law_part_here","_law_other"] ["_law_script"] (aL hJ):=fsc (by decide +kernel)
theorem zGs{f:Addr}{fd:FuncData}(F:Fun K "law" "law" hJ f fd)(B:Own mg)(G28_:Good P w K mg base 1 "_law_deck" ["_law_script"] (zAZ K))(G34_:aE P w K mg base 5 "_law_world" ["_law_deck_here"] tG)(G29_:aE P w K mg base 2 "_law_take" ["_law_deck_here","_law_most"] dH)(G37_:aE P w K mg base (6+3*1+1) "_law_record" ["_law_deck_here","_law_world_here","_law_deep","_law_many"] (lT 1))(G58_:aE P w K mg base 10 "_law_near_record" ["_law_deck_here","_law_world_here","_law_part_here"] rV)(G59_:aE P w K mg base 14 "_law_asked" ["_law_one","_law_other"] tJ)(Brepr:mg "repr"=none):FnOk P w K mg base CX0 16 f fd ["_law_script"] (pT K):=by
 refine F.ok C60_ (λvs H Q E q=>?_) (λcdv A outer s H vs Q E hr q=>?_)
 ·obtain⟨a,ns,rfl,_⟩:=q
  rfl
 ·obtain⟨aa,ns,rfl,hS,hlen,q⟩:=q
  have nd:=C60_.nd
  refine⟨_,(gD (jP (i:=1) nd rfl (by first|exact Or.inl rfl|exact Or.inr rfl) (pU G28_ (hr.mono (by omega)) rfl (dN (pv 0) eK)))
   (zEY λF=>(aI (aZ (i:=2) nd rfl (.inl rfl) (aK G34_ (hr.mono (by omega)) rfl (bD 1 aD)))
   (aI (fT (m:=7) PassesOwn.never rfl (gO rfl B.range (aB aC aD)) (bF 3 (by decide) nd rfl (.inl rfl))
    (aI (aZ (i:=4) nd rfl (.inl rfl) (aG (aH hr.units) (bA (bU (aB aC (aB aC (aB aC (aB aC (aB aC (aB aC (aB aC (aB aC aD)))))))))) (aK G29_ (hr.mono (by omega)) rfl (bD 1 (aB aC aD)))))
    (aI (aZ (i:=5) nd rfl (.inl rfl) (aK G37_ (hr.mono (by omega)) rfl (bD 1 (aB (aA 2) (aB aC (aB (aA 4) aD))))))
    (aI (aZ (i:=6) nd rfl (.inl rfl) (aK G58_ (hr.mono (by omega)) rfl (bD 1 (aB (aA 2) (aB (aA 5) aD)))))
    (aI (aX (aQ (aW hr.units) (aK G29_ (hr.mono (by omega)) rfl (bD 1 (aB aC aD))) aC (aO _))
     (aJ (aZ (i:=6) nd rfl (.inl rfl) (aK G37_ (hr.mono (by omega)) rfl (bD 1 (aB (aA 2) (aB aC (aB (aK G29_ (hr.mono (by omega)) rfl (bD 1 (aB aC aD))) aD)))))))
     bB)
    (aJ (aX (cO (eD (dG (cM (aK G59_ (hr.mono (by omega)) rfl (aB (bI (aB (aA 5) aD)) (aB (bI (aB (aA 6) aD)) aD))))) (eI (dG (cM (aK G59_ (hr.mono (by omega)) rfl (aB (bI aD) (aB (bI (aB (aA 5) aD)) aD))))))))
     (aJ (aN cD))
     bB)))))))
   (aJ (aN cD)))))),?_⟩
  refine⟨_,rfl,aa,ns,rfl,hS,λp c H1 np nc d1 s1=>?_⟩
  refine zFi (N:=["_law_script","_law_deck_here","_law_world_here","_law_turn","_law_many","_law_part_here","_law_other"]) (by decide) d1 q ?_
  clear q hS hlen hr d1 s1 np nc
  refine⟨rfl,rfl,λnm tx st sp wd=>?_⟩
  refine⟨4,rfl,by decide,by decide,?_⟩
  refine iE (λi ρ=>∃s3 s4 s5 s6:Sl,ρ=[.no,.dk,.va (bW nm tx st sp),s3,s4,s5,s6]) ⟨.no,.no,.no,.no,rfl⟩ ?_ (λ_ ⟨_,_,_,_,e⟩=>by subst e;rfl)
  rintro i T _ N hT ⟨s3,s4,s5,s6,rfl⟩ hN
  refine⟨by simp,rfl,8,rfl,by decide,bE (by decide) (by decide),λr r0 r1=>?_⟩
  obtain⟨U,hU,hm⟩:=fZ (l:=[iT 0,iT 1,iT 2,iT 3,iT 4,iT 6,iT 8,iT 2]) r0 r1
  have hm:∃m:Int,U=iT m/\0<=m/\m<=8:=by
   simp only[List.mem_cons,List.not_mem_nil,or_false]at hm
   rcases hm with e|e|e|e|e|e|e|e<;>subst e<;>exact⟨_,rfl,by decide,by decide⟩
  obtain⟨m,rfl,m0,m8⟩:=hm
  refine⟨_,hU,rfl,nm,tx,st,sp,1,m,rfl,wd,by decide,by decide,m0,m8,λa b fs hr=>?_⟩
  refine⟨rfl,nm,tx,st,sp,a,b,fs,rfl,wd,hr,λp2 hp2=>?_⟩
  have h1:=PartOk.pw hr
  show PEnds.nx _ _
  refine nxE (ρ':=[.no,.dk,.va (bW nm tx st sp),.va T,.va (iT m),.va (aU (.record a b fs)),.va (aU p2)]) rfl ?_
  generalize hP1:Pt.record a b fs=P1 at h1
  clear hr hP1
  dsimp only
  refine xV (J:=λρ'=>∃p:Pt,PW 2 p/\ρ'=[.no,.dk,.va (bW nm tx st sp),.va T,.va (iT m),.va (aU P1),.va (aU p)]) ?rest (λrest=>?main)
  case main=>
   refine⟨rfl,6,rfl,by decide,bE (by decide) (by decide),λr2 _ _=>⟨_,rfl,sif (λ_=>?_) (λ_=>rest _ ⟨p2,hp2,rfl⟩)⟩⟩
   exact⟨rfl,rfl,4,rfl,by decide,bE (by decide) (by decide),λr3 r30 r31=>⟨nm,tx,st,sp,1,r3,rfl,wd,by decide,by decide,r30,by omega,λa' b' fs' hr'=>rest _ ⟨_,PartOk.pw hr',rfl⟩⟩⟩
  case rest=>
   rintro _ ⟨p3,hp3,rfl⟩
   refine⟨by simp,by simp,[P1],[p3],rfl,by simp,by simp,λp hp=>?_,λp hp=>?_,_,rfl,bJ ⟨by simp,by simp,[],[P1],rfl,by simp,by simp,(λp hp=>(nomatch hp)),λp hp=>?_,_,rfl,bJ (hN _ ⟨_,_,_,_,rfl⟩)⟩⟩
   ·rw[List.mem_singleton]at hp;subst hp;exact h1
   ·rw[List.mem_singleton]at hp;subst hp;exact hp3
   ·rw[List.mem_singleton]at hp;subst hp;exact h1
end
end My
namespace My
open PySem L2 PyProof.Rows
open WordM
open PySem
theorem all_mk{l:W.OpenLaw}{w:World}{K:W.Frag}{h:Heap}{mg:Str->Option Value}{fa:Addr}(X:K.In h)(G:h.Ns mainGlobals mg)(hfa:mg "law"=some (.ref fa)){f60:Addr}{v_60 t_60:Option Addr}{p_60:Array (Option Value)}{u_60 w_60 x_60 y_60 r_60 q_60:Value}
 (h0_:Has K mg "run_has" s0_)
 (h1_:Has K mg "telling_numbers" s1_)
 (h2_:Has K mg "run_parted" s2_)
 (h3_:Has K mg "run_within" s3_)
 (h4_:Has K mg "has_mark" s4_)
 (h5_:Has K mg "marks_of" s5_)
 (h6_:Has K mg "words_let" s6_)
 (h7_:Has K mg "tails_many" s7_)
 (h8_:Has K mg "signs_of" s8_)
 (h9_:Has K mg "words_many" s9_)
 (h10_:Has K mg "words_texts" nI)
 (h11_:Has K mg "words_parted" vY)
 (h12_:Has K mg "words_within" vX)
 (h13_:Has K mg "tail_at" vW)
 (h14_:Has K mg "words_some" qT)
 (h15_:Has K mg "part_kind" vV)
 (h16_:Has K mg "part_for" vT)
 (h17_:Has K mg "musts_of" nH)
 (h18_:Has K mg "names_of" qS)
 (h19_:Has K mg "strange_names" lE)
 (h20_:Has K mg "lacking_names" nG)
 (h21_:Has K mg "bounds_within" vS)
 (h22_:Has K mg "shell_within" nF)
 (h23_:Has K mg "form_behind" qR)
 (h24_:Has K mg "forms_held" jX)
 (h25_:Has K mg "part_within" nE)
 (h26_:Has K mg "within" iW)
 (h27_:Has K mg "_law_mixed" vR)
 (h28_:Has K mg "_law_deck" vQ)
 (h29_:Has K mg "_law_take" vP)
 (h30_:Has K mg "_law_signs" vO)
 (h31_:Has K mg "_law_text" vN)
 (h32_:Has K mg "_law_unlike" vM)
 (h33_:Has K mg "_law_far" vL)
 (h34_:Has K mg "_law_world" qQ)
 (h35_:Has K mg "_law_make" qP)
 (h36_:Has K mg "_law_some_words" qO)
 (h37_:Has K mg "_law_record" jW)
 (h38_:Has K mg "_law_table" qN)
 (h39_:Has K mg "_law_part" qM)
 (h40_:Has K mg "_law_form" lD)
 (h41_:Has K mg "_law_mark" vK)
 (h42_:Has K mg "_law_words_let" qL)
 (h43_:Has K mg "_law_dict_let" vJ)
 (h44_:Has K mg "_law_part_lets" qK)
 (h45_:Has K mg "_law_lets" vI)
 (h46_:Has K mg "_law_witness" nC)
 (h47_:Has K mg "_law_kind" vH)
 (h48_:Has K mg "_law_between" vG)
 (h49_:Has K mg "_law_record_within" hV)
 (h50_:Has K mg "_law_dict_within" jV)
 (h51_:Has K mg "_law_part_within" jU)
 (h52_:Has K mg "_law_within" iV)
 (h53_:Has K mg "_law_near_make" vF)
 (h54_:Has K mg "_law_near_words" vE)
 (h55_:Has K mg "_law_near_numbers" vD)
 (h56_:Has K mg "_law_near_single" vC)
 (h57_:Has K mg "_law_fitted" qJ)
 (h58_:Has K mg "_law_near_record" nB)
 (h59_:Has K mg "_law_asked" vB)
 (a60:W.nsIn K mainGlobals "law"=some (some (.ref f60))) (l60:K.lookup f60=some ⟨u_60,v_60,.func (W.fnOf "law" "law" (gG hJ) (eQ hJ) (aL hJ) .none w_60 x_60 y_60 t_60 r_60 q_60),p_60⟩) (c60:W.codeIn K r_60 "law"=true) (k60:W.keepIn K (.ref f60)=true)
    (z0:W.nsIn K mainGlobals "len"=some none) (z1:W.nsIn K mainGlobals "range"=some none) (z2:W.nsIn K mainGlobals "isinstance"=some none) (z3:W.nsIn K mainGlobals "int"=some none) (z4:W.nsIn K mainGlobals "bool"=some none) (z5:W.nsIn K mainGlobals "str"=some none) (z6:W.nsIn K mainGlobals "list"=some none) (z7:W.nsIn K mainGlobals "tuple"=some none) (z8:W.nsIn K mainGlobals "dict"=some none) (z9:W.nsIn K mainGlobals "sum"=some none) (z10:W.nsIn K mainGlobals "min"=some none) (z11:W.nsIn K mainGlobals "max"=some none) (z12:W.nsIn K mainGlobals "all"=some none) (z13:W.nsIn K mainGlobals "any"=some none) (z14:W.nsIn K mainGlobals "abs"=some none) (z15:W.nsIn K mainGlobals "zip"=some none) (z16:W.nsIn K mainGlobals "sorted"=some none) (z17:W.nsIn K mainGlobals "set"=some none) (z18:W.nsIn K mainGlobals "enumerate"=some none) {aSIGNS aMARKS aPK:Addr} {tk1 tk2 tk3 tk4 tk5 tk6 tk7 tk8 um1 um2 um3 um4 tp1 tp2 tp3 tp4 tp5 tp6 tp7 tp8 tp9 tp10 tp11 tp12 tp13 tp14:Tok} {epS nM epP:Nat} {ddM:Option Addr} {slM:Array (Option Value)} {tkF tkM:Tok}
    (aS:W.nsIn K mainGlobals "SIGNS"=some (some (.ref aSIGNS)))
    (lS:K.lookup aSIGNS=some ⟨.type "dict",none,.dict #[{hash:=PyData.keyHash w.params ("figure":Str),key:=.str "figure" tk1,val:=.str "0123456789" tk2},{hash:=PyData.keyHash w.params ("great":Str),key:=.str "great" tk3,val:=.str "ABCDEFGHIJKLMNOPQRSTUVWXYZ" tk4},{hash:=PyData.keyHash w.params ("other":Str),key:=.str "other" tk5,val:=.str " !\"#$&'()*+,-./:;<=>?\x40[\\]^_`{|}~" tk6},{hash:=PyData.keyHash w.params ("small":Str),key:=.str "small" tk7,val:=.str "abcdefghijklmnopqrstuvwxyz" tk8}] epS,#[]⟩)
    (aM:W.nsIn K mainGlobals "MARKS"=some (some (.ref aMARKS)))
    (lM:K.lookup aMARKS=some ⟨.type "tuple",ddM,.seq #[.str "figure" um1,.str "great" um2,.str "other" um3,.str "small" um4] nM,slM⟩)
    (aP:W.nsIn K mainGlobals "PART_KINDS"=some (some (.ref aPK)))
    (lP:K.lookup aPK=some ⟨.type "dict",none,.dict #[{hash:=PyData.keyHash w.params ("nothing":Str),key:=.str "nothing" tp1,val:=.str "nothing" tp2},{hash:=PyData.keyHash w.params ("truths":Str),key:=.str "truths" tp3,val:=.str "truth" tp4},{hash:=PyData.keyHash w.params ("numbers":Str),key:=.str "numbers" tp5,val:=.str "number" tp6},{hash:=PyData.keyHash w.params ("texts":Str),key:=.str "texts" tp7,val:=.str "text" tp8},{hash:=PyData.keyHash w.params ("lists":Str),key:=.str "lists" tp9,val:=.str "list" tp10},{hash:=PyData.keyHash w.params ("record":Str),key:=.str "record" tp11,val:=.str "dict" tp12},{hash:=PyData.keyHash w.params ("table":Str),key:=.str "table" tp13,val:=.str "dict" tp14}] epP,#[]⟩)
    (aF:W.nsIn K mainGlobals "MOST_FEW"=some (some (.int 6 tkF)))
    (aMF:W.nsIn K mainGlobals "MOST_FIELDS"=some (some (.int 8 tkM)))
    (zr:W.nsIn K mainGlobals "repr"=some none):
    ∃fd:FuncData,(∀(s:Shared) (v:Value),BindsTo s fd ⟨[v],[]⟩ [("_law_script",v)])/\∀base:Heap,K.In base->base.Ns mainGlobals mg->FnOk l.prog w K mg base CX0 16 fa fd ["_law_script"] (pT K):=by
  have e:=hfa.symm.trans (PySem.W.mg_of X G a60)
  cases e
  have B:Own mg:=zGl X G z0 z1 z2 z3 z4 z5 z6 z7 z8 z9 z10 z11 z12 z13 z14 z15 z16 z17 z18
  refine⟨W.fnOf "law" "law" (gG hJ) (eQ hJ) (aL hJ) .none w_60 x_60 y_60 t_60 r_60 q_60,λs v=>.of_eq rfl,λbase KB GB=>?_⟩
  have GSIGNS:jT K w.params mg "SIGNS" SGN:=⟨aSIGNS,PySem.W.mg_of X G aS,⟨⟨_,_,lS,⟨rfl,⟨_,rfl⟩,⟨_,rfl⟩,rfl,⟨_,rfl⟩,⟨_,rfl⟩,rfl,⟨_,rfl⟩,⟨_,rfl⟩,rfl,⟨_,rfl⟩,⟨_,rfl⟩,trivial⟩⟩,by decide +kernel⟩⟩
  have GPART_KINDS:jT K w.params mg "PART_KINDS" wI:=⟨aPK,PySem.W.mg_of X G aP,⟨⟨_,_,lP,⟨rfl,⟨_,rfl⟩,⟨_,rfl⟩,rfl,⟨_,rfl⟩,⟨_,rfl⟩,rfl,⟨_,rfl⟩,⟨_,rfl⟩,rfl,⟨_,rfl⟩,⟨_,rfl⟩,rfl,⟨_,rfl⟩,⟨_,rfl⟩,rfl,⟨_,rfl⟩,⟨_,rfl⟩,rfl,⟨_,rfl⟩,⟨_,rfl⟩,trivial⟩⟩,by decide +kernel⟩⟩
  have TM:∀H,SqT K H aMARKS (MK.map V.str):=λH=>.inr ⟨_,_,_,lM,rfl,rfl,by show 4<=sizeLine;decide,.cons ⟨_,rfl⟩ (.cons ⟨_,rfl⟩ (.cons ⟨_,rfl⟩ (.cons ⟨_,rfl⟩ .nil)))⟩
  have GMARKS:gZ K mg "MARKS" (.seq true (MK.map sT)):=zEr (PySem.W.mg_of X G aM) TM
  have GMOST_FEW:gZ K mg "MOST_FEW" (iT 6):=⟨.int 6,_,PySem.W.mg_of X G aF,⟨_,rfl⟩,λH=>.flat rfl⟩
  have GMOST_FIELDS:gZ K mg "MOST_FIELDS" (iT 8):=⟨.int 8,_,PySem.W.mg_of X G aMF,⟨_,rfl⟩,λH=>.flat rfl⟩
  have Brepr:mg "repr"=none:=PySem.W.mg_none_of X G zr
  have G29_:aE l.prog w K mg base 2 "_law_take" ["_law_deck_here","_law_most"] dH:=Good.take (zGF h29_ (zFq h27_))
  have G30_:aE l.prog w K mg base 1 "_law_signs" [] lX:=zIE h30_ B 
  have G31_:aE l.prog w K mg base 3 "_law_text" ["_law_deck_here","_law_most"] mL:=zID h31_ B G30_ G29_
  have G32_:aE l.prog w K mg base 4 "_law_unlike" ["_law_deck_here","_law_many","_law_most"] sM:=zIC h32_ B G30_ G31_
  have G33_:aE l.prog w K mg base 3 "_law_far" ["_law_deck_here"] uS:=zIB h33_ B G29_
  have G34_:aE l.prog w K mg base 5 "_law_world" ["_law_deck_here"] tG:=zIA h34_ B G29_ G32_ G31_ G33_
  have G35_:aE l.prog w K mg base 4 "_law_make" ["_law_deck_here"] mM:=zIz h35_ B G29_ G31_
  have G36_:aE l.prog w K mg base 5 "_law_some_words" ["_law_deck_here","_law_world_here"] nQ:=zIy h36_ B G29_ G35_
  have G0_:aE l.prog w K mg base 1 "run_has" ["run","number"] sP:=g0_ h0_ B 
  have G4_:aE l.prog w K mg base 1 "has_mark" ["text","mark"] rX:=g4_ h4_ B GSIGNS
  have G5_:aE l.prog w K mg base 2 "marks_of" ["text"] rW:=g5_ h5_ B G4_ GMARKS
  have G6_:aE l.prog w K mg base 3 "words_let" ["words","text"] fP:=g6_ h6_ B G5_
  have G15_:aE l.prog w K mg base 1 "part_kind" ["part"] kC:=zIP h15_ B GPART_KINDS
  have G16_:aE l.prog w K mg base 2 "part_for" ["form","kind"] lJ:=zIO h16_ B G15_
  have G1_:aE l.prog w K mg base 1 "telling_numbers" ["run"] rT:=g1_ h1_ B 
  have G2_:aE l.prog w K mg base 2 "run_parted" ["one","other"] rJ:=g2_ h2_ B G1_ G0_
  have G3_:aE l.prog w K mg base 3 "run_within" ["one","other"] nR:=g3_ h3_ B G2_
  have G10_:aE l.prog w K mg base 1 "words_texts" ["words"] tH:=zIU h10_ B GMOST_FEW GSIGNS
  have G11_:aE l.prog w K mg base 4 "words_parted" ["one","other"] lU:=zIT h11_ B G10_ G6_
  have G12_:aE l.prog w K mg base 5 "words_within" ["one","other"] oG:=zIS h12_ B G11_
  have G41_:aE l.prog w K mg base 1 "_law_mark" ["_law_sign"] pL:=zIu h41_ B 
  have G42_:aE l.prog w K mg base 2 "_law_words_let" ["_law_words","_law_text_here"] fP:=zIt h42_ B G41_
  have G7_:aE l.prog w K mg base 1 "tails_many" ["signs","shortest","longest","most"] pB:=g7_ h7_ B 
  have G8_:aE l.prog w K mg base 1 "signs_of" ["marks"] oH:=g8_ h8_ B GSIGNS
  have G9_:aE l.prog w K mg base 2 "words_many" ["words","most"] tI:=g9_ h9_ B G7_ G8_
  have G13_:aE l.prog w K mg base 1 "tail_at" ["signs","length","place"] sO:=zIR h13_ B 
  have G14_:aE l.prog w K mg base 3 "words_some" ["words","many"] pC:=zIQ h14_ B G9_ G8_ G7_ G13_
  have G18_:aE l.prog w K mg base 1 "names_of" ["record"] lY:=zIM h18_ B 
  have G21_:aE l.prog w K mg base 1 "bounds_within" ["one","other"] gP:=zIJ h21_ B 
  have G23_:aE l.prog w K mg base 1 "form_behind" ["part","name"] oU:=zIH h23_ B 
  have G26_:aE l.prog w K mg base (3*2+7) "within" ["one","other"] (eN 2):=zBy h26_ h25_ h22_ h24_ h19_ h20_ h17_ B G3_ G12_ G21_ G11_ G6_ G14_ G18_ G23_ G15_ G16_ GMOST_FIELDS 2
  have G46_:aE l.prog w K mg base 2 "_law_witness" ["_law_words"] kX:=zIp h46_ B G30_ G41_
  have G47_:aE l.prog w K mg base 1 "_law_kind" ["_law_part_here"] lZ:=zIo h47_ B 
  have G48_:aE l.prog w K mg base 1 "_law_between" ["_law_one","_law_other"] gP:=zIn h48_ B 
  have G43_:aE l.prog w K mg base 1 "_law_dict_let" ["_law_part_here","_law_value"] iM:=zIs h43_ B 
  have G45_:aE l.prog w K mg base 1 "_law_lets" ["_law_form_here","_law_value"] iM:=zIq h45_ B 
  have G44_:aE l.prog w K mg base 3 "_law_part_lets" ["_law_part_here","_law_value"] oI:=zIr h44_ B G42_ G45_ G43_
  have G52_:aE l.prog w K mg base (4*2+5) "_law_within" ["_law_one","_law_other"] (eN 2):=zBh h52_ h51_ h50_ h49_ B G47_ G44_ G42_ G46_ G48_ 2
  have G37_:aE l.prog w K mg base (6+3*1+1) "_law_record" ["_law_deck_here","_law_world_here","_law_deep","_law_many"] (lT 1):=zBU (n:=1) h37_ B G29_ (mC h40_ h39_ h38_ h37_ B G29_ G35_ G36_ 1)
  have G40_:aE l.prog w K mg base (6+3*1) "_law_form" ["_law_deck_here","_law_world_here","_law_deep","_law_most"] (jO 1):=mC h40_ h39_ h38_ h37_ B G29_ G35_ G36_ 1
  have G53_:aE l.prog w K mg base 3 "_law_near_make" ["_law_deck_here","_law_make_here"] rP:=zIj h53_ B G29_
  have G54_:aE l.prog w K mg base 4 "_law_near_words" ["_law_deck_here","_law_world_here","_law_words"] rK:=zIi h54_ B G29_ G53_ G46_
  have G55_:aE l.prog w K mg base 3 "_law_near_numbers" ["_law_deck_here","_law_part_here"] rO:=zIh h55_ B G29_
  have G56_:aE l.prog w K mg base 5 "_law_near_single" ["_law_deck_here","_law_world_here","_law_part_here"] rF:=zIg h56_ B G29_ G55_ G54_
  have G57_:aE l.prog w K mg base 1 "_law_fitted" ["_law_least","_law_most","_law_fields"] sQ:=zIf h57_ B 
  have G58_:aE l.prog w K mg base 10 "_law_near_record" ["_law_deck_here","_law_world_here","_law_part_here"] rV:=zIe h58_ B G29_ G40_ G56_ G57_
  have G59_:aE l.prog w K mg base 14 "_law_asked" ["_law_one","_law_other"] tJ:=zId h59_ B G26_ G52_ Brepr
  exact zGs (zBi (st:=hJ) l60 c60 k60) B (zGG h28_ B) G34_ G29_ G37_ G58_ G59_ Brepr
theorem walk{l:W.OpenLaw}{q:Program}{loose:List Str}{XP:(Str->Option Value)->Heap->Prop}{YP:World->Heap->Prop}{d:DefRec}{K:Params->W.Frag}(hn:l.most=some 63)(hdf:d.params.defaults=[])
  (hY:∀(w:World) (h:Heap),YP w h->(K w.params).In h)
  (F:∀(w:World) (mg:Str->Option Value) (fa:Addr) (h:Heap),(K w.params).In h->h.Ns mainGlobals mg->mg d.name=some (.ref fa) ->
   ∃fd:FuncData,(∀(s:Shared) (u:Value),BindsTo s fd ⟨[u],[]⟩ [("_law_script",u)])/\∀base:Heap,(K w.params).In base->base.Ns mainGlobals mg->FnOk l.prog w (K w.params) mg base CX0 16 fa fd ["_law_script"] (pT (K w.params))):
  PySem.W.WalkO q loose XP YP l.row.toRowW d [] (λf vs=>PySem.call f vs):=
 L2.walk_of (n:=63) (k:=16) (x:="_law_script") (CX:=λ_=>CX0) (sp:=λw=>pT (K w.params)) hn (by decide) hdf ⟨rfl,by decide,by decide,rfl⟩ hY F (λ_ _ a ns hl _ hS=>⟨a,ns,rfl,hS,hl,λ_=>rfl⟩) λ_ _ _ _ _ z=>z
end My
inductive PySem.W.Fast:Prop
|tw4070583910352659331
|tw2001435187057596448
|tw1441492686866517024
|tw16168544916180562784
|tw17667454297586666464
|tw7307950457356724001
|tw7656248004886943874
|tw8904380439558115458
|tw16507481950664648866
|tw13714409342237662466
|tw2174839901609534786
|tw3300820579100103074
|tw17098055440006064962
|tw6792974142686406659
|tw13975313458013149539
|tw14372080015524165123
|tw13918610645276927651
|tw8828789634041761443
|tw10580810361329756867
|tw16183017190205902627
|tw11541269689975444548
|tw936485624169596484
|tw11604631303245545220
|tw15611438060525732612
|tw1289768832312648516
|tw9715721160824945765
|tw6392809062057439493
|tw867234079539772901
|tw17375008269956611877
|tw16999610210499951557
|tw2392501920562454726
|tw7498169145412924646
|tw15941102204859565318
|tw4903728494267663654
|tw13828103412453755462
|tw18025774993866658662
|tw13729511930901834759
|tw4750376576320587943
|tw17640306409629598919
|tw12533701176453556519
|tw11630694916405562023
|tw9620198877149484711
|tw18154932926558412008
|tw17601271158407601512
|tw16677478805365730952
|tw9785883849341472520
|tw5982235157837231048
|tw13206174153471206505
|tw7105938797831087561
|tw16689918213009217001
|tw654493366878206441
|tw8799274033052111401
|tw4842090831558190825
|tw13113179525190584554
|tw8066568329210279402
|tw16440896683395534442
|tw1758327610822472490
|tw4561923569672531211
|tw8611190907974049227
|tw5113230048155519691
|tw13935543062053416875
|tw4355270817785596875
|tw6305044495055596748
|tw594678524825263468
|tw8446484476440962476
|tw3801966263786591852
|tw2013368813914782348
|tw5835792922902547565
|tw14269704851685957965
|tw17844500366830352877
|tw7296512202536386445
|tw5186505706313874574
|tw1553062134636958958
|tw1411873407710036238
|tw10871622166375454126
|tw13199678956306399726
|tw17385381602815982062
|tw1181716913955895118
|tw8368417412931600655
|tw11375806716456917903
|tw13541972099476876432
|tw6650299096172952816
|tw7902376375974903088
|tw2616791160579735024
|tw12184232725424279184
|tw7464282560897597041
|tw10223429774102137681
|tw8847484339301527762
|tw1191044151432765778
|tw17768684952266452306
|tw10274896644611003954
|tw13583495153269872210
|tw14680866074975879890
|tw12889599007754211122
|tw1173425991689153683
|tw4327942713843560147
|tw7283990721805196340
|tw15752866339517208628
|tw15188047273729310868
|tw291378047244781876
|tw9427710369128608372
|tw1820102668385010356
|tw17288105543025874740
|tw7557529823040278420
|tw17551213252297742005
|tw3428967054301438837
|tw5346748013965002613
|tw10398804384446940085
|tw881200494038625302
|tw5464447913433999702
|tw18372758752387937718
|tw6910222880981964662
|tw2594170595125776278
|tw10488798813850240982
|tw11917062818424901590
|tw6453598876927412214
|tw17387383541908285463
|tw6980432076950123447
|tw2174641490902636632
|tw10904308568462704856
|tw17766590090297458104
|tw8092448408028135192
|tw7265088390197627289
|tw1167579795528854937
|tw11300992285608758809
|tw5280089108100129369
|tw11580696542241883865
|tw15949095296920046361
|tw8452767969080446937
|tw10413167511512851770
|tw6724571715779491226
|tw8807496965290232250
|tw5868055859935040954
|tw10803807924580899354
|tw5580238579595527738
|tw8051013265846427642
|tw12280655410134320283
|tw11457035168889886907
|tw11586216057844444443
|tw12300353630832862523
|tw16566544753365186939
|tw5083132690630460859
|tw636465899900445147
|tw15782373999386466139
|tw5767476988637692859
|tw31190017590233277
|tw943576289408283005
|tw17632041613112678941
|tw14781627680361088797
|tw8364415676294393757
|tw18438677859561434462
|tw758706581795567998
|tw5281988760710409694
|tw6588503077077491262
|tw15460343981225234110
|tw15130554882591773887
|tw7146931579065780447
open PySem PySem.W PyProof.Rows
set_option maxRecDepth 100000 in
set_option maxHeartbeats 0 in
theorem PySem.Challenge.cw_leastform_k59_records_within_holds : PySem.Challenge.rw_leastform_k59_records_within.Holds := by
 w_on; o_law; k_head; (case hw => w_witness2)
 k_fill
 refine My.walk (l := PySem.Challenge.rw_leastform_k59_records_within) rfl rfl (fun w h Y => PySem.W.kIn_of Y) ?F
 case F =>
  intro w mg fa h KX G hmg
  refine' My.all_mk KX G hmg (L2.has_mk KX G ?a0 ?l0 ?c0 ?k0) (L2.has_mk KX G ?a1 ?l1 ?c1 ?k1) (L2.has_mk KX G ?a2 ?l2 ?c2 ?k2) (L2.has_mk KX G ?a3 ?l3 ?c3 ?k3) (L2.has_mk KX G ?a4 ?l4 ?c4 ?k4) (L2.has_mk KX G ?a5 ?l5 ?c5 ?k5) (L2.has_mk KX G ?a6 ?l6 ?c6 ?k6) (L2.has_mk KX G ?a7 ?l7 ?c7 ?k7) (L2.has_mk KX G ?a8 ?l8 ?c8 ?k8) (L2.has_mk KX G ?a9 ?l9 ?c9 ?k9) (L2.has_mk KX G ?a10 ?l10 ?c10 ?k10) (L2.has_mk KX G ?a11 ?l11 ?c11 ?k11) (L2.has_mk KX G ?a12 ?l12 ?c12 ?k12) (L2.has_mk KX G ?a13 ?l13 ?c13 ?k13) (L2.has_mk KX G ?a14 ?l14 ?c14 ?k14) (L2.has_mk KX G ?a15 ?l15 ?c15 ?k15) (L2.has_mk KX G ?a16 ?l16 ?c16 ?k16) (L2.has_mk KX G ?a17 ?l17 ?c17 ?k17) (L2.has_mk KX G ?a18 ?l18 ?c18 ?k18) (L2.has_mk KX G ?a19 ?l19 ?c19 ?k19) (L2.has_mk KX G ?a20 ?l20 ?c20 ?k20) (L2.has_mk KX G ?a21 ?l21 ?c21 ?k21) (L2.has_mk KX G ?a22 ?l22 ?c22 ?k22) (L2.has_mk KX G ?a23 ?l23 ?c23 ?k23) (L2.has_mk KX G ?a24 ?l24 ?c24 ?k24) (L2.has_mk KX G ?a25 ?l25 ?c25 ?k25) (L2.has_mk KX G ?a26 ?l26 ?c26 ?k26) (L2.has_mk KX G ?a27 ?l27 ?c27 ?k27) (L2.has_mk KX G ?a28 ?l28 ?c28 ?k28) (L2.has_mk KX G ?a29 ?l29 ?c29 ?k29) (L2.has_mk KX G ?a30 ?l30 ?c30 ?k30) (L2.has_mk KX G ?a31 ?l31 ?c31 ?k31) (L2.has_mk KX G ?a32 ?l32 ?c32 ?k32) (L2.has_mk KX G ?a33 ?l33 ?c33 ?k33) (L2.has_mk KX G ?a34 ?l34 ?c34 ?k34) (L2.has_mk KX G ?a35 ?l35 ?c35 ?k35) (L2.has_mk KX G ?a36 ?l36 ?c36 ?k36) (L2.has_mk KX G ?a37 ?l37 ?c37 ?k37) (L2.has_mk KX G ?a38 ?l38 ?c38 ?k38) (L2.has_mk KX G ?a39 ?l39 ?c39 ?k39) (L2.has_mk KX G ?a40 ?l40 ?c40 ?k40) (L2.has_mk KX G ?a41 ?l41 ?c41 ?k41) (L2.has_mk KX G ?a42 ?l42 ?c42 ?k42) (L2.has_mk KX G ?a43 ?l43 ?c43 ?k43) (L2.has_mk KX G ?a44 ?l44 ?c44 ?k44) (L2.has_mk KX G ?a45 ?l45 ?c45 ?k45) (L2.has_mk KX G ?a46 ?l46 ?c46 ?k46) (L2.has_mk KX G ?a47 ?l47 ?c47 ?k47) (L2.has_mk KX G ?a48 ?l48 ?c48 ?k48) (L2.has_mk KX G ?a49 ?l49 ?c49 ?k49) (L2.has_mk KX G ?a50 ?l50 ?c50 ?k50) (L2.has_mk KX G ?a51 ?l51 ?c51 ?k51) (L2.has_mk KX G ?a52 ?l52 ?c52 ?k52) (L2.has_mk KX G ?a53 ?l53 ?c53 ?k53) (L2.has_mk KX G ?a54 ?l54 ?c54 ?k54) (L2.has_mk KX G ?a55 ?l55 ?c55 ?k55) (L2.has_mk KX G ?a56 ?l56 ?c56 ?k56) (L2.has_mk KX G ?a57 ?l57 ?c57 ?k57) (L2.has_mk KX G ?a58 ?l58 ?c58 ?k58) (L2.has_mk KX G ?a59 ?l59 ?c59 ?k59) ?a60 ?l60 ?c60 ?k60 ?z0 ?z1 ?z2 ?z3 ?z4 ?z5 ?z6 ?z7 ?z8 ?z9 ?z10 ?z11 ?z12 ?z13 ?z14 ?z15 ?z16 ?z17 ?z18 ?aS ?lS ?aM ?lM ?aP ?lP ?aF ?aMF ?zr
  any_goals k_is
