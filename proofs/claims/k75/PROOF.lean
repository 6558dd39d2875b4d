import PyProof.Rows.All
import Wide.All
import OpenK.AllK
import Wide.FinOn
import Lean
import PyProof.EqAt
import PyProof.EqKinds
import PyProof.TupleCall
import PyProof.NeKinds
import PyProof.IsiTupleOf
import PyProof.IsiHeapPairs
import PyProof.IsiPairs
import PyProof.ConsumeWalk
import PyProof.Rows.SumAny
import PyProof.FitsBits
import PyProof.Rows.SeqMore
import PyProof.ZipIter
import PyProof.TupleIter
import PyProof.LongRange
import PyProof.Rows.Range3
import PyProof.Rows.SortWalk
import PyProof.Rows.SortStr
import PyProof.StrWalks
import PyProof.DictRoads
import PyProof.MeetsStr
import PyProof.Rows.StrNews2
import PyProof.StrLawsIn
import PyProof.StrLaws
import PyProof.Rows.CatFin
import PyProof.Rows.StrClose5
import PyProof.SetKind
import PyProof.CollectWalk
import PyProof.Seq
import PyProof.ForAny
import PyProof.MakeMany
import PyProof.DictKinds
import PyProof.Rows.StrInSeq
import PyProof.WalkLemmas
import PyProof.Rows.SortShell
import PyProof.Rows.SetFrom
import PyProof.StrOps2
import PyProof.ReprNest
import PyProof.CallFns
import PyProof.StrLawsRepr
import PyProof.FString5
import OpenK.KOwn
import KE.KIsAll
import PyProof.ExcArgsOwn
import KE.RegKIsAll
import PyProof.DictIter
import PyProof.DictItems
import PyProof.DictItemsLoops
import PyProof.DictWalks
import KE.KDictList
import KE.KMinKey
import PyProof.ListRange
import PyProof.Rows.CallKwBuiltin
import KE.KDictOf
import PyProof.AttrMissHeap
import PyProof.EnumMake
import PyProof.EnumFor
import PyProof.Rows.RuleB_bool
import KE.KEqDict
import PyProof.StrCalls6
import PyProof.StrLawsReplace
import PyProof.Rows.FStr
import PyProof.Rows.StrJoin2
import PyProof.WalksMore
import PyProof.TupleOfStr
import KE.KUnpack
import PyProof.MaxThree
import KE.KSortTup
import PySem.Challenge.RW_leastform_k75_wider_by_one_thing
set_option Elab.async false
set_option linter.all false
set_option maxRecDepth 100000
set_option maxHeartbeats 4000000
namespace L2
open PySem PySem.Spec PyProof.Rows
abbrev Key:=Sum Int Str
def hZ:Key->Value->Bool
 |.inl k,v=>Value.isInt k v
 |.inr x,v=>Value.isStrOf x v
def zHh(w:World):Key->Int
 |.inl k=>hashInt k
 |.inr x=>hashStr w x
theorem fD:∀{k:Key}{v:Value},hZ k v=true->(∃i t,k=Sum.inl i/\v=Value.int i t)\/(∃x t,k=Sum.inr x/\v=Value.str x t)
 |.inl i,v,h=>by
  obtain⟨t,e⟩:=Value.isInt_shape (k:=i) (v:=v) h
  exact .inl ⟨i,t,rfl,e⟩
 |.inr x,v,h=>by
  obtain⟨t,e⟩:=Value.isStrOf_shape (x:=x) (v:=v) h
  exact .inr ⟨x,t,rfl,e⟩
theorem zCB(i:Int)(t:Tok):hZ (.inl i) (.int i t)=true:=by simp[hZ,Value.isInt]
theorem zCA(x:Str)(t:Tok):hZ (.inr x) (.str x t)=true:=by simp[hZ,Value.isStrOf]
theorem zFy(a b:Int):decide ((Sum.inl a:Key)=Sum.inl b)=(a==b):=by
 by_cases e:a=b
 ·subst e;simp
 ·have h:¬ (Sum.inl a:Key)=Sum.inl b:=λq=>e (Sum.inl.inj q)
  rw[decide_eq_false h]
  exact(beq_eq_false_iff_ne.mpr e).symm
theorem zFv(a b:Str):decide ((Sum.inr a:Key)=Sum.inr b)=decide (a=b):=by
 by_cases e:a=b
 ·subst e;simp
 ·have h:¬ (Sum.inr a:Key)=Sum.inr b:=λq=>e (Sum.inr.inj q)
  rw[decide_eq_false h,decide_eq_false e]
theorem zFx(a:Int)(b:Str):decide ((Sum.inl a:Key)=Sum.inr b)=false:=decide_eq_false (λq=>nomatch q)
theorem zFw(a:Str)(b:Int):decide ((Sum.inr a:Key)=Sum.inl b)=false:=decide_eq_false (λq=>nomatch q)
def cS(prog:Program)(w:World):PySem.KeyKind prog w Key where
 is:=hZ
 hash:=zHh w
 inj:=λv a b ha hb=>by
  rcases fD ha with⟨i,t,rfl,rfl⟩|⟨x,t,rfl,rfl⟩
  ·rcases fD hb with⟨j,u,rfl,e⟩|⟨y,u,rfl,e⟩
   ·injection e with e1 _;rw[e1]
   ·exact nomatch e
  ·rcases fD hb with⟨j,u,rfl,e⟩|⟨y,u,rfl,e⟩
   ·exact nomatch e
   ·injection e with e1 _;rw[e1]
 byValue:=λk v h=>by
  rcases fD h with⟨i,t,rfl,rfl⟩|⟨x,t,rfl,rfl⟩<;>rfl
 pyHash:=λhv h=>by
  rcases fD hv with⟨i,t,rfl,rfl⟩|⟨x,t,rfl,rfl⟩
  ·exact wpAny_pyHash_int h
  ·exact wpAny_pyHash_str h
 eqBool:=λhu hv h=>by
  rcases fD hu with⟨i,t,rfl,rfl⟩|⟨x,t,rfl,rfl⟩
  ·rcases fD hv with⟨j,u,rfl,rfl⟩|⟨y,u,rfl,rfl⟩
   ·rw[zFy]at h;exact wpAny_eqBool_int h
   ·rw[zFx]at h;exact SeqAt.EqAt.int_str i t y u _ _ _ _ h
  ·rcases fD hv with⟨j,u,rfl,rfl⟩|⟨y,u,rfl,rfl⟩
   ·rw[zFw]at h;exact SeqAt.EqAt.str_int x t j u _ _ _ _ h
   ·rw[zFv]at h;exact wpAny_eqBool_str h
 «strs»:=λk x t v h=>by
  rcases fD h with⟨i,u,rfl,e⟩|⟨y,u,rfl,e⟩
  ·exact nomatch e
  ·injection e with e1 _
   subst e1
   cases v<;>rfl
theorem zBA(prog:Program)(w:World)(i:Int)(t:Tok):(cS prog w).is (.inl i) (.int i t)=true:=zCB i t
theorem mH(prog:Program)(w:World)(x:Str)(t:Tok):(cS prog w).is (.inr x) (.str x t)=true:=zCA x t
end L2
namespace L2
open PySem PySem.Spec PyProof.Rows
inductive V where
 |non|bl (b:Bool)|int (i:Int)|str (x:Str)|byt (b:Array UInt8)|flt (b:UInt64)|ref (a:Addr)|ty (n:String)
 deriving DecidableEq
def RelV:V->Value->Prop
 |.non,u=>u=Value.none
 |.bl b,u=>u=Value.bool b
 |.int i,u=>∃t,u=Value.int i t
 |.str x,u=>∃t,u=Value.str x t
 |.byt b,u=>∃t,u=Value.bytes b t
 |.flt b,u=>∃t,u=Value.float b t
 |.ref a,u=>u=Value.ref a
 |.ty n,u=>u=Value.type n
abbrev Vals:List V->List Value->Prop:=Paired RelV
theorem Vals.length{xs:List V}{us:List Value}(r:Vals xs us):xs.length=us.length:=Paired.length r
theorem Vals.get:∀{xs:List V}{us:List Value}{i:Nat}{x:V},Vals xs us->xs[i]?=some x->∃u,us[i]?=some u/\RelV x u
 |_,_,_,_,.nil,e=>by simp at e
 |_,_,0,_,.cons r _,e=>by simp at e;subst e;exact⟨_,rfl,r⟩
 |_,_,i+1,x,.cons _ t,e=>by
  obtain⟨u,h1,h2⟩:=Vals.get (i:=i) (x:=x) t (by simpa using e)
  exact⟨u,by simpa using h1,h2⟩
theorem Vals.set{x:V}{u:Value}(r:RelV x u):∀{xs:List V}{us:List Value}(i:Nat),Vals xs us->Vals (xs.set i x) (us.set i u)
 |_,_,_,.nil=>.nil
 |_,_,0,.cons _ t=>.cons r t
 |_,_,i+1,.cons q t=>.cons q (Vals.set r i t)
theorem Vals.append:∀{xs ys:List V}{us ws:List Value},Vals xs us->Vals ys ws->Vals (xs++ys) (us++ws)
 |_,_,_,_,.nil,s=>s
 |_,_,_,_,.cons r t,s=>.cons r (Vals.append t s)
theorem Vals.take:∀{xs:List V}{us:List Value}(n:Nat),Vals xs us->Vals (xs.take n) (us.take n)
 |_,_,0,_=>.nil
 |_,_,_+1,.nil=>.nil
 |_,_,n+1,.cons r t=>.cons r (Vals.take n t)
theorem Vals.drop:∀{xs:List V}{us:List Value}(n:Nat),Vals xs us->Vals (xs.drop n) (us.drop n)
 |_,_,0,r=>r
 |_,_,_+1,.nil=>.nil
 |_,_,n+1,.cons _ t=>Vals.drop n t
def RelO:Option V->Option Value->Prop
 |some v,some u=>RelV v u
 |none,none=>True
 |_,_=>False
def KV{κ:Type}:List (κ×V)->List (κ×Value)->Prop:=Paired λ(p:κ×V) (q:κ×Value)=>p.1=q.1/\RelV p.2 q.2
def kV:Key->V
 |.inl i=>.int i
 |.inr x=>.str x
inductive HO where
 /-- a list -/
 |lst (xs:List V)
 /-- a tuple (never changes) -/
 |tup (xs:List V)
 /-- a dict whose keys are ints and texts; one whose keys are tuples of ints and texts (the empty one is both) -/
 |dK (kvs:List (Key×V))|dT (kvs:List (List Key×V))
 /-- a set of ints: its members, its size -/
 |set (S:Int->Bool) (n:Nat)
 /-- an instance of the class at C, its dict at dx, its attributes -/
 |ins (C dx:Addr) (fs:List (Str×V))
 /-- the dict of the instance at x -/
 |own (x:Addr)
 /-- the dict of an exception -/
 |xd (fs:List (Str×V))
 /-- a bound method, f of x -/
 |met (f x:Addr)
 /-- a range object lo, lo + 1, .. below hi -/
 |rng (lo hi:Int)
 /-- a thing that is known to the object (the script; a dict while a loop walks it): read, never written while it is so -/
 |frz (o:Obj) (u:HO)
 /-- a code object's table -/
 |tbl (ps:Array Value)
 /-- any other thing, by what is true of its one object (a def of one's own: SetO a S n := HO.ext fun h => ..) -/
 |ext (φ:Heap->Prop)
abbrev Hp:=Addr->Option HO
def upd(H:Hp)(a:Addr)(o:HO):Hp:=λb=>if b=a then some o else H b
theorem bE{H:Hp}{a:Addr}{o:HO}:upd H a o a=some o:=by unfold upd;rw[if_pos rfl]
theorem bG{H:Hp}{a b:Addr}{o:HO}(h:b≠a):upd H a o b=H b:=by unfold upd;rw[if_neg h]
theorem dC{H:Hp}{a b:Addr}{o:HO}(h:H a=some o)(h':H b=none):a≠b:=by
 intro e;subst e;rw[h]at h';cases h'
section
variable(P:Program)(w:World)
def ObjOk(H:Hp)(h:Heap)(a:Addr):HO->Prop
 |.lst xs=>xs.length<=sizeLine/\∃(its:List Value) (n:Nat),Vals xs its/\h.get? a=some {cls:=.type "list",data:=.seq its.toArray n}
 |.tup xs=>xs.length<=sizeLine/\∃its:List Value,Vals xs its/\IsTup h a its.toArray
 |.dK kvs=>kvs.length<=sizeLine/\(a==sysModules)=false/\∃vs,KV kvs vs/\h.DictOf (cS P w) a vs
 |.dT kvs=>kvs.length<=sizeLine/\(a==sysModules)=false/\∃xs:List (List Key×Addr×Value),
   Paired (λ(p:List Key×V) (q:List Key×Addr×Value)=>p.1=q.1/\H q.2.1=some (.tup (p.1.map kV))/\RelV p.2 q.2.2) kvs xs /\
   ∃o es ep,h.get? a=some o/\o.ExactDict/\o.data=.dict es ep/\es.toList=xs.map (entryOfKey (tupleKind (cS P w)))/\(xs.map (·.1)).Nodup
 |.set S n=>h.SetOf (intKind P w) a S n
 |.ins C dx fs=>H dx=some (.own a)/\fs.length<=1000/\dx≠a/\h.get? a=some (PySem.W.instObj C dx) /\
   ∃mA,h.Ns1 dx mA/\(∀f,RelO (fs.lookup f) (mA f))/\PySem.Within mA (fs.map (·.1))
 |.own _=>∃o,h.get? a=some o
 |.xd fs=>∃mA,h.Ns1 a mA/\∀f,RelO (fs.lookup f) (mA f)
 |.rng lo hi=>∃t u v,h.get? a=some {cls:=.type "range",data:=.fields #[.int lo t,.int hi u,.int 1 v]}
 |.frz o u=>h.get? a=some o/\ObjOk H h a u
 |.tbl ps=>h.get? a=some {cls:=.none,data:=.fields ps}
 |.met f x=>h.get? a=some (PySem.W.methodObj (.ref f) (.ref x))
 |.ext φ=>φ h/\(∃o,h.get? a=some o)/\∀h1 h2:Heap,φ h1->(∀o,h1.get? a=some o->h2.get? a=some o)->φ h2
def HOk(H:Hp)(h:Heap):Prop:=∀a o,H a=some o->ObjOk P w H h a o
end
section
variable{P:Program}{w:World}{H H':Hp}{h h':Heap}{a:Addr}{o:HO}
theorem ObjOk.lt(x:ObjOk P w H h a o):a<h.objs.size:=by
 cases o with
 |lst xs=>obtain⟨_,_,_,_,e⟩:=x;exact Heap.lt_size e
 |tup xs=>obtain⟨_,_,_,p⟩:=x;exact p.lt
 |dK kvs=>obtain⟨_,_,_,_,o,_,_,e,_⟩:=x;exact Heap.lt_size e
 |dT kvs=>obtain⟨_,_,_,_,o,_,_,e,_⟩:=x;exact Heap.lt_size e
 |set S n=>obtain⟨o,_,_,_,e,_⟩:=x;exact Heap.lt_size e
 |ins C dx fs=>obtain⟨_,_,_,e,_⟩:=x;exact Heap.lt_size e
 |own y=>obtain⟨_,e⟩:=x;exact Heap.lt_size e
 |xd fs=>obtain⟨_,⟨_,_,_,e,_⟩,_⟩:=x;exact Heap.lt_size e
 |rng lo hi=>obtain⟨_,_,_,e⟩:=x;exact Heap.lt_size e
 |frz ob u=>obtain⟨e,_⟩:=x;exact Heap.lt_size e
 |tbl ps=>exact Heap.lt_size (show h.get? a=some _ from x)
 |met f y=>exact Heap.lt_size (show h.get? a=some _ from x)
 |ext φ=>obtain⟨_,⟨_,e⟩,_⟩:=x;exact Heap.lt_size e
theorem Paired.mapP{α β:Type}{F G:α->β->Prop}:∀{l₁:List α}{l₂:List β},Paired F l₁ l₂->(∀a b,F a b->G a b)->Paired G l₁ l₂
 |_,_,.nil,_=>.nil
 |_,_,.cons r t,f=>.cons (f _ _ r) (Paired.mapP t f)
theorem ObjOk.stay(x:ObjOk P w H h a o)(k:∀b u,(b=a\/H b=some (.own a))->h.get? b=some u->h'.get? b=some u)
  (ho:∀b,H b=some (.own a)->H' b=some (.own a)) (ht:∀b xs,H b=some (.tup xs)->H' b=some (.tup xs)):ObjOk P w H' h' a o:=by
 induction o with
 |lst xs=>obtain⟨z,its,n,r,e⟩:=x;exact⟨z,its,n,r,k _ _ (.inl rfl) e⟩
 |tup xs=>obtain⟨z,its,r,ob,e,c⟩:=x;exact⟨z,its,r,ob,k _ _ (.inl rfl) e,c⟩
 |dK kvs=>obtain⟨z,y,vs,r,ob,es,ep,e,c⟩:=x;exact⟨z,y,vs,r,ob,es,ep,k _ _ (.inl rfl) e,c⟩
 |dT kvs=>
  obtain⟨z,y,xs,r,ob,es,ep,e,c⟩:=x
  exact⟨z,y,xs,Paired.mapP r λp q z=>⟨z.1,ht _ _ z.2.1,z.2.2⟩,ob,es,ep,k _ _ (.inl rfl) e,c⟩
 |set S n=>obtain⟨ob,es,ep,t,e,c⟩:=x;exact⟨ob,es,ep,t,k _ _ (.inl rfl) e,c⟩
 |ins C dx fs=>
  obtain⟨d,z,ne,e,mA,⟨od,es,ep,e2,c⟩,r⟩:=x
  exact⟨ho _ d,z,ne,k _ _ (.inl rfl) e,mA,⟨od,es,ep,k _ _ (.inr d) e2,c⟩,r⟩
 |own y=>obtain⟨ob,e⟩:=x;exact⟨ob,k _ _ (.inl rfl) e⟩
 |xd fs=>obtain⟨mA,⟨od,es,ep,e,c⟩,r⟩:=x;exact⟨mA,⟨od,es,ep,k _ _ (.inl rfl) e,c⟩,r⟩
 |rng lo hi=>obtain⟨t,u,v,e⟩:=x;exact⟨t,u,v,k _ _ (.inl rfl) e⟩
 |frz ob u ih=>obtain⟨e,q⟩:=x;exact⟨k _ _ (.inl rfl) e,ih q⟩
 |tbl ps=>
  have e:h.get? a=some {cls:=.none,data:=.fields ps}:=x
  show h'.get? a=some {cls:=.none,data:=.fields ps}
  exact k a _ (.inl rfl) e
 |met f y=>
  have e:h.get? a=some (PySem.W.methodObj (.ref f) (.ref y)):=x
  show h'.get? a=some (PySem.W.methodObj (.ref f) (.ref y))
  exact k a _ (.inl rfl) e
 |ext φ=>obtain⟨p,⟨o,e⟩,st⟩:=x;exact⟨st _ _ p λo q=>k _ _ (.inl rfl) q,⟨o,k _ _ (.inl rfl) e⟩,st⟩
theorem HOk.lt(x:HOk P w H h)(e:H a=some o):a<h.objs.size:=(x a o e).lt
theorem HOk.fresh(x:HOk P w H h)(e:h.objs.size<=a):H a=none:=by
 cases q:H a with
 |none=>rfl
 |some u=>exact absurd (Nat.lt_of_lt_of_le (x.lt q) e) (Nat.lt_irrefl _)
theorem HOk.kept(x:HOk P w H h)(k:∀b u,h.get? b=some u->h'.get? b=some u):HOk P w H h':=λa o e=>
 (x a o e).stay (λb u _ q=>k b u q) (λ_ q=>q) λ_ _ q=>q
theorem HOk.laid(x:HOk P w H h)(k:∀b u,h.get? b=some u->h'.get? b=some u)(hp:h.objs.size<=a)(new:ObjOk P w (upd H a o) h' a o):HOk P w (upd H a o) h':=λb u e=>by
 have hn:=x.fresh hp
 by_cases hb:b=a
 ·subst hb;rw[bE]at e;cases e;exact new
 ·rw[bG hb]at e
  exact(x b u e).stay (λc v _ q=>k c v q) (λc q=>by rw[bG (dC q hn)];exact q) λc xs q=>by rw[bG (dC q hn)];exact q
end
def Rd(H:Hp)(a:Addr)(u:HO):Prop:=H a=some u\/∃o,H a=some (.frz o u)
theorem Rd.ok{P:Program}{w:World}{H:Hp}{h:Heap}{a:Addr}{u:HO}(r:Rd H a u)(x:HOk P w H h):ObjOk P w H h a u:=by
 rcases r with r|⟨o,r⟩
 ·exact x a u r
 ·obtain⟨_,q⟩:=x a _ r
  exact q
def Mut:Option HO->Prop
 |some (.lst _)=>True
 |some (.dK _)=>True
 |some (.dT _)=>True
 |some (.set _ _)=>True
 |some (.ins _ _ _)=>True
 |some (.ext _)=>True
 |_=>False
section
variable{P:Program}{w:World}{H:Hp}{h h':Heap}{x e:Addr}{o':HO}
theorem HOk.write(ok:HOk P w H h)(mu:Mut (H x))(he:e=x\/H e=some (.own x))(k:∀b u,b≠e->h.get? b=some u->h'.get? b=some u)(heo:∃u,h'.get? e=some u)
  (new:ObjOk P w (upd H x o') h' x o'):HOk P w (upd H x o') h':=λb u q=>by
 have nown:∀c y,H c=some (.own y)->c≠x:=λc y r z=>by subst z;rw[r]at mu;exact mu
 have ntup:∀c xs,H c=some (.tup xs)->c≠x:=λc xs r z=>by subst z;rw[r]at mu;exact mu
 by_cases hb:b=x
 ·subst hb;rw[bE]at q;cases q;exact new
 ·rw[bG hb]at q
  by_cases hbe:b=e
  ·have q':H b=some (.own x):=by
    rcases he with z|z
    ·exact absurd (hbe.trans z) hb
    ·rw[hbe];exact z
   rw[q]at q';cases q'
   obtain⟨v,hv⟩:=heo
   exact⟨v,by rw[hbe];exact hv⟩
  ·refine(ok b u q).stay (λc v hc r=>k c v ?_ r) (λc r=>by rw[bG (nown c b r)];exact r) λc xs r=>by rw[bG (ntup c xs r)];exact r
   rcases hc with rfl|hc
   ·exact hbe
   ·rintro rfl
    rcases he with z|z
    ·exact nown c b hc z
    ·rw[hc]at z;cases z;exact hb rfl
end
structure Un (fs ex:List Addr) (H H':Hp) (h h':Heap):Prop where
 keep:∀b o,h.get? b=some o->H b=none->b∉fs->b∉ex->h'.get? b=some o
 slot:∀b o,h.get? b=some o->H b=none->b∈fs->b∉ex->∃sl,h'.get? b=some {o with slots:=sl}
 free:∀b o,h.get? b=some o->H b=none->b∉ex->H' b=none
 there:∀b o,h.get? b=some o->b∉ex->∃o',h'.get? b=some o'
 tups:∀b xs,H b=some (.tup xs)->H' b=some (.tup xs)
 frzs:∀b o u,H b=some (.frz o u)->H' b=some (.frz o u)
 tbls:∀b ps,H b=some (.tbl ps)->∃more,H' b=some (.tbl (ps++more))
section
variable{fs fs' ex ex':List Addr}{H H1 H2:Hp}{h h1 h2 h':Heap}{a x e:Addr}{o:HO}
theorem Un.any(u:Un fs ex H H1 h h1){b:Addr}{ob:Obj}(q:h.get? b=some ob)(n:H b=none)(hx:b∉ex):∃sl,h1.get? b=some {ob with slots:=sl}:=by
 by_cases hb:b∈fs
 ·exact u.slot b ob q n hb hx
 ·exact⟨ob.slots,u.keep b ob q n hb hx⟩
theorem Un.kept(k:∀b u,h.get? b=some u->h'.get? b=some u):Un fs ex H H h h':=
 ⟨λb ob q _ _ _=>k b ob q,λb ob q _ _ _=>⟨ob.slots,k b ob q⟩,λ_ _ _ n _=>n,λb ob q _=>⟨ob,k b ob q⟩,λ_ _ q=>q,λ_ _ _ q=>q,λ_ ps q=>⟨#[],by rw[q];simp⟩⟩
theorem Un.refl:Un fs ex H H h h:=Un.kept λ_ _ q=>q
theorem Un.laid(k:∀b u,h.get? b=some u->h'.get? b=some u)(hp:h.objs.size<=a)(hn:H a=none):Un fs ex H (upd H a o) h h' where
 keep:=λb u q _ _ _=>k b u q
 slot:=λb u q _ _ _=>⟨u.slots,k b u q⟩
 free:=λb u q n _=>by rw[bG (Nat.ne_of_lt (Nat.lt_of_lt_of_le (Heap.lt_size q) hp))];exact n
 there:=λb u q _=>⟨u,k b u q⟩
 tups:=λb xs q=>by rw[bG (dC q hn)];exact q
 frzs:=λb u xs q=>by rw[bG (dC q hn)];exact q
 tbls:=λb ps q=>⟨#[],by rw[bG (dC q hn),q];simp⟩
theorem Un.write(mu:Mut (H x))(he:e=x\/H e=some (.own x))(k:∀b u,b≠e->h.get? b=some u->h'.get? b=some u)(heo:∃u,h'.get? e=some u):Un fs ex H (upd H x o) h h':=by
 have hx:∀b,H b=none->b≠x:=λb n z=>by subst z;rw[n]at mu;exact mu
 have hb:∀b,H b=none->b≠e:=λb n z=>by
  subst z
  rcases he with r|r
  ·exact hx b n r
  ·rw[n]at r;cases r
 have hm:∀b u,H b=some u->¬ Mut (some u)->b≠x:=λb u q nm z=>by subst z;rw[q]at mu;exact nm mu
 refine⟨λb u q n _ _=>k b u (hb b n) q,λb u q n _ _=>⟨u.slots,k b u (hb b n) q⟩,λb u q n _=>by rw[bG (hx b n)];exact n,λb u q _=>?_,
  λb xs q=>by rw[bG (hm b _ q λz=>z)];exact q,λb u xs q=>by rw[bG (hm b _ q λz=>z)];exact q,λb ps q=>⟨#[],by rw[bG (hm b _ q λz=>z),q];simp⟩⟩
 by_cases hbe:b=e
 ·subst hbe;exact heo
 ·exact⟨u,k b u hbe q⟩
end
def trk(h:Heap)(H:Hp):List Addr:=(List.range h.objs.size).filter λa=>(H a).isSome
def gO(h:Heap)(H:Hp):Heap:=PySem.W.hideAll h (trk h H)
theorem zCF(h:Heap)(H:Hp):(gO h H).objs.size=h.objs.size:=PySem.W.hideAll_size _ _
theorem zDr{h:Heap}{H:Hp}{b:Addr}{o:Obj}(e:h.get? b=some o)(n:H b=none):(gO h H).get? b=some o:=
 PySem.W.hideAll_get _ e λhm=>by
  have q:(H b).isSome=true:=(List.mem_filter.mp hm).2
  rw[n]at q;simp at q
theorem zEe{h:Heap}{H:Hp}{b:Addr}{o:Obj}(e:(gO h H).get? b=some o):h.get? b=some o/\H b=none:=by
 have e':h.get? b=some o:=PySem.W.of_hideAll (trk h H) e
 refine⟨e',?_⟩
 cases q:H b with
 |none=>rfl
 |some x=>
  have hm:b∈trk h H:=List.mem_filter.mpr ⟨List.mem_range.mpr (Heap.lt_size e'),by simp[q]⟩
  have z:(gO h H).get? b=none:=PySem.W.hideAll_none (trk h H) hm
  rw[z]at e;cases e
end L2
namespace L2
open PySem PySem.Spec PyProof.Rows
structure Mod (K:W.Frag) (mg:Str->Option Value) (base:Heap):Prop where
 kin:K.In base
 glob:base.Ns mainGlobals mg
 blt:∃mb,base.Ns builtinsNs mb/\∀x:Str,x≠"__name__"->mb x=bootBuiltins x
 nolimit:base.NoLimit
structure Cx where
 prog:Program
 w:World
 K:W.Frag
 mg:Str->Option Value
 base:Heap
 A:Around
 N:List Str
 s₀:Shared
 H₀:Hp
 env:Env
 outer:List Env
 stack:List Env
 ex:List Addr
 fn:Str->Bool
 calm:Bool
 pn:List (Addr×Obj)
 xe:Value->Shared->Prop
def frs(l:List Env):List Addr:=l.filterMap (·.frame)
abbrev Cx.fs(X:Cx):List Addr:=frs X.outer
def Vis(sc:Scope)(x:Str):Prop:=sc.names.lookup x=some .local\/sc.names.lookup x=some .cell\/sc.names.lookup x=some .free
def Loc(sc:Scope)(x:Str):Prop:=sc.names.lookup x=some .local\/sc.names.lookup x=some .cell
def zHX(env:Env)(h:Heap)(m:Str->Option Value)(x:Str)(u:Value):Prop:=
 (env.kindOf x=some .local/\m x=some u)\/((env.kindOf x=some .cell\/env.kindOf x=some .free)/\∃c,env.cells.lookup x=some c/\h.IsCell c (some u))
structure Cx.Ok (X:Cx):Prop where
 mod:Mod X.K X.mg X.base
 kind:X.env.scope.kind=.function
 glob:X.env.globals=mainGlobals
 blt:X.env.builtins=builtinsNs
 above:X.s₀.heap.objs.size<=X.env.locals
 inj:∀x y c,X.env.cells.lookup x=some c->X.env.cells.lookup y=some c->x=y
 has:∀x,(X.env.kindOf x=some .cell\/X.env.kindOf x=some .free)->∃c,X.env.cells.lookup x=some c
 cab:∀x c,X.fn x=true->X.env.cells.lookup x=some c->X.s₀.heap.objs.size<=c
 hd:X.calm=true->X.A.handled=none
 frames:X.A.frames=some X.stack
 stk:X.stack=X.outer\/(X.stack=X.env::X.outer/\X.env.frame=some X.env.locals)
 exf:∀b∈X.ex,b≠X.env.locals/\∀x c,X.env.cells.lookup x=some c->c≠b
 bs:∀b o,X.base.get? b=some o->X.s₀.heap.get? b=some o/\X.H₀ b=none
 bsz:X.base.objs.size<=X.s₀.heap.objs.size
 noex:∀b o,X.base.get? b=some o->b∉X.ex
 exfs:∀b∈X.ex,b∉X.fs
 funs:X.s₀.heap.FunFrames X.base X.outer
 frf:∀b∈X.fs,X.H₀ b=none
structure Inv (X:Cx) (pins:List (Addr×Obj)) (σ:List (Option V)) (H:Hp) (s:Shared):Prop where
 ok:X.Ok
 os:s.os=X.s₀.os
 bare:AllBare s.gens
 base:Un X.fs X.ex X.H₀ H X.s₀.heap s.heap
 loc:∃m,s.heap.Ns X.env.locals m/\∀(i:Nat) (x:Str) (v:V),X.N[i]?=some x->σ[i]?=some (some v)->Vis X.env.scope x->∃u,RelV v u/\zHX X.env s.heap m x u
 cell:∀x c,X.env.cells.lookup x=some c->∃v,s.heap.IsCell c v
 free:H X.env.locals=none
 freeC:∀x c,X.env.cells.lookup x=some c->H c=none
 pin:∀p∈X.pn++pins,s.heap.get? p.1=some p.2/\H p.1=none/\p.1≠X.env.locals/\p.1∉X.fs/\∀v,p.2.data≠.cell v
 hok:HOk X.prog X.w H s.heap
 len:σ.length=X.N.length
section
variable{X:Cx}{pins:List (Addr×Obj)}{σ:List (Option V)}{H H':Hp}{s:Shared}{h':Heap}
theorem Cx.Ok.nofr(ok:X.Ok){b:Addr}{o:Obj}(e:X.base.get? b=some o):b∉X.fs:=λhb=>by
 have:=(ok.funs.mem hb).1
 rw[e]at this;cases this
theorem Inv.bs(I:Inv X pins σ H s):∀b o,X.base.get? b=some o->s.heap.get? b=some o/\H b=none:=λb o e=>
 ⟨I.base.keep b o (I.ok.bs b o e).1 (I.ok.bs b o e).2 (I.ok.nofr e) (I.ok.noex b o e),I.base.free b o (I.ok.bs b o e).1 (I.ok.bs b o e).2 (I.ok.noex b o e)⟩
theorem Inv.bk(I:Inv X pins σ H s):∀b o,X.base.get? b=some o->s.heap.get? b=some o:=λb o e=>(I.bs b o e).1
theorem Inv.mod(I:Inv X pins σ H s):Mod X.K X.mg X.base:=I.ok.mod
theorem Inv.kIn(I:Inv X pins σ H s):X.K.In s.heap:=I.ok.mod.kin.keeps I.bk
theorem Inv.lt(I:Inv X pins σ H s):X.env.locals<s.heap.objs.size:=let ⟨_,hn,_⟩:=I.loc;hn.lt
theorem Inv.sz(I:Inv X pins σ H s):X.s₀.heap.objs.size<=s.heap.objs.size:=Nat.le_trans I.ok.above (Nat.le_of_lt I.lt)
theorem Inv.nofs(I:Inv X pins σ H s){a:Addr}(h:s.heap.objs.size<=a):a∉X.fs:=λhb=>by
 obtain⟨_,o,ho,_⟩:=I.ok.funs.mem hb
 exact absurd (Nat.lt_of_lt_of_le (Heap.lt_size ho) (Nat.le_trans I.sz h)) (Nat.lt_irrefl _)
theorem Inv.cne(I:Inv X pins σ H s):∀x c,X.env.cells.lookup x=some c->c≠X.env.locals:=λx c e z=>by
 obtain⟨v,o,ho,hd⟩:=I.cell x c e
 obtain⟨m,⟨o',es,ep,ho',hd',_⟩,_⟩:=I.loc
 rw[z,ho']at ho;cases ho;rw[hd']at hd;cases hd
theorem Inv.funs(I:Inv X pins σ H s):s.heap.FunFrames X.base X.outer:=by
 have all:∀(l:List Env),(∀b∈frs l,b∈X.fs)->X.s₀.heap.FunFrames X.base l->s.heap.FunFrames X.base l:=by
  intro l
  induction l with
  |nil=>intro _ _;trivial
  |cons env r ih=>
   intro hs hl
   obtain⟨hk,⟨L,o,hf,hn,ho,hd⟩,hr⟩:=hl
   have hL:L∈X.fs:=hs L (by unfold frs;rw[List.filterMap_cons,hf];exact List.mem_cons_self)
   obtain⟨sl,e⟩:=I.base.slot L o ho (I.ok.frf L hL) hL λz=>I.ok.exfs L z hL
   exact⟨hk,⟨L,_,hf,hn,e,hd⟩,ih (λb hb=>hs b (by unfold frs;rw[List.filterMap_cons,hf];exact List.mem_cons_of_mem _ hb)) hr⟩
 exact all X.outer (λ_ hb=>hb) I.ok.funs
theorem Inv.stack(I:Inv X pins σ H s):s.heap.FunFrames X.base X.stack:=by
 rcases I.ok.stk with e|⟨e,hf⟩
 ·rw[e];exact I.funs
 ·rw[e]
  obtain⟨m,hn,_⟩:=I.loc
  refine .cons (by rw[I.ok.kind];decide) hf hn ?_ I.funs
  exact Heap.get?_none_of_le (Nat.le_trans I.ok.bsz I.ok.above)
theorem Inv.stkSub(I:Inv X pins σ H s):∀b∈frs X.stack,b∈X.env.locals::X.fs:=λb hb=>by
 rcases I.ok.stk with e|⟨e,hf⟩
 ·rw[e]at hb;exact List.mem_cons_of_mem _ hb
 ·rw[e]at hb
  unfold frs at hb
  rw[List.filterMap_cons,hf]at hb
  exact hb
theorem Inv.stkFree(I:Inv X pins σ H s):∀b∈frs X.stack,H b=none:=λb hb=>by
 rcases List.mem_cons.mp (I.stkSub b hb) with e|hb
 ·rw[e];exact I.free
 ·obtain⟨_,o,ho,_⟩:=I.ok.funs.mem hb
  exact I.base.free b o ho (I.ok.frf b hb) λz=>I.ok.exfs b z hb
theorem Inv.step{g':Array GenState}{t':Nat}{d':Drawn}{ch:List Addr}(I:Inv X pins σ H s)
  (hch:∀b∈ch,(b∈X.ex\/X.s₀.heap.objs.size<=b)/\b≠X.env.locals/\(∀x c,X.env.cells.lookup x=some c->c≠b)/\∀p∈X.pn++pins,p.1≠b)
  (keep:∀b o,b≠X.env.locals->b∉X.fs->b∉ch->s.heap.get? b=some o->H b=none->h'.get? b=some o)
  (slot:∀b o,b≠X.env.locals->b∈X.fs->b∉ch->s.heap.get? b=some o->H b=none->∃sl,h'.get? b=some {o with slots:=sl}) (free:∀b o,b∉ch->s.heap.get? b=some o->H b=none->H' b=none)
  (there:∀b o,b∉ch->s.heap.get? b=some o->∃o',h'.get? b=some o')
  (tups:∀b xs,H b=some (.tup xs)->H' b=some (.tup xs)) (frzs:∀b o u,H b=some (.frz o u)->H' b=some (.frz o u)) (tbls:∀b ps,H b=some (.tbl ps)->∃more,H' b=some (.tbl (ps++more)))
  (ns:∀m,s.heap.Ns X.env.locals m->h'.Ns X.env.locals m) (hok:HOk X.prog X.w H' h') (hg:AllBare g'):
  Inv X pins σ H' {s with heap:=h',gens:=g',drawn:=d',toks:=t'}:=by
 have neL:∀b o,X.s₀.heap.get? b=some o->b≠X.env.locals:=λb o e=>Nat.ne_of_lt (Nat.lt_of_lt_of_le (Heap.lt_size e) I.ok.above)
 have neC:∀b o,X.s₀.heap.get? b=some o->b∉X.ex->b∉ch:=λb o e hx hb=>by
  rcases (hch b hb).1 with z|z
  ·exact hx z
  ·exact absurd (Nat.lt_of_lt_of_le (Heap.lt_size e) z) (Nat.lt_irrefl _)
 have cellK:∀x c,X.env.cells.lookup x=some c->∀v,s.heap.IsCell c v->h'.IsCell c v:=λx c e v ⟨o,ho,hd⟩=>by
  have nch:c∉ch:=λz=>(hch c z).2.2.1 x c e rfl
  by_cases hc:c∈X.fs
  ·obtain⟨sl,q⟩:=slot c o (I.cne x c e) hc nch ho (I.freeC x c e)
   exact⟨_,q,hd⟩
  ·exact⟨o,keep c o (I.cne x c e) hc nch ho (I.freeC x c e),hd⟩
 refine⟨I.ok,I.os,hg,⟨λb o e n hb hx=>?_,λb o e n hb hx=>?_,λb o e n hx=>?_,λb o e hx=>?_,λb xs e=>tups b xs (I.base.tups b xs e),λb o xs e=>frzs b o xs (I.base.frzs b o xs e),λb ps e=>?_⟩,?_,λx c e=>?_,?_,λx c e=>?_,λp hp=>?_,hok,I.len⟩
 ·exact keep b o (neL b o e) hb (neC b o e hx) (I.base.keep b o e n hb hx) (I.base.free b o e n hx)
 ·obtain⟨sl,e1⟩:=I.base.slot b o e n hb hx
  obtain⟨sl',e2⟩:=slot b _ (neL b o e) hb (neC b o e hx) e1 (I.base.free b o e n hx)
  exact⟨sl',e2⟩
 ·obtain⟨o',e1⟩:=I.base.there b o e hx
  exact free b o' (neC b o e hx) e1 (I.base.free b o e n hx)
 ·obtain⟨o',e1⟩:=I.base.there b o e hx
  exact there b o' (neC b o e hx) e1
 ·obtain⟨m1,e1⟩:=I.base.tbls b ps e
  obtain⟨m2,e2⟩:=tbls b _ e1
  exact⟨m1++m2,by rw[e2,Array.append_assoc]⟩
 ·obtain⟨m,hn,hl⟩:=I.loc
  refine⟨m,ns m hn,λi x v e1 e2 e3=>?_⟩
  obtain⟨u,r,l⟩:=hl i x v e1 e2 e3
  refine⟨u,r,?_⟩
  rcases l with l|⟨k,c,e,z⟩
  ·exact .inl l
  ·exact .inr ⟨k,c,e,cellK x c e _ z⟩
 ·obtain⟨v,z⟩:=I.cell x c e
  exact⟨v,cellK x c e v z⟩
 ·obtain⟨m,⟨o,_,_,ho,_⟩,_⟩:=I.loc
  exact free _ o (λz=>(hch _ z).2.1 rfl) ho I.free
 ·obtain⟨v,o,ho,hd⟩:=I.cell x c e
  exact free c o (λz=>(hch c z).2.2.1 x c e rfl) ho (I.freeC x c e)
 ·obtain⟨e,n,ne,nf,d⟩:=I.pin p hp
  have nch:p.1∉ch:=λz=>(hch p.1 z).2.2.2 p hp rfl
  exact⟨keep p.1 p.2 ne nf nch e n,free p.1 p.2 nch e n,ne,nf,d⟩
theorem Inv.un{t':Nat}(I:Inv X pins σ H s)(u:Un X.fs [] H H' s.heap h')(hok:HOk X.prog X.w H' h'):Inv X pins σ H' {s with heap:=h',toks:=t'}:=by
 obtain⟨m,⟨o,es,ep,ho,r⟩,_⟩:=id I.loc
 obtain⟨sl,hL⟩:=u.any ho I.free (by simp)
 exact I.step (g':=s.gens) (d':=s.drawn) (ch:=[]) (λ_ z=>nomatch z) (λb o _ hb _ e n=>u.keep b o e n hb (by simp)) (λb o _ hb _ e n=>u.slot b o e n hb (by simp)) (λb o _ e n=>u.free b o e n (by simp)) (λb o _ e=>u.there b o e (by simp)) u.tups u.frzs u.tbls (λm' hm=>by
  obtain⟨o',es',ep',ho',r'⟩:=hm
  rw[ho]at ho';cases ho'
  exact⟨_,es',ep',hL,r'⟩) hok I.bare
theorem Inv.call{g':Array GenState}{t':Nat}{d':Drawn}{ch:List Addr}(I:Inv X pins σ H s)(u:Un (frs X.stack) ch H H' s.heap h')(hok:HOk X.prog X.w H' h')(hg:AllBare g')
  (hch:∀b∈ch,(b∈X.ex\/X.s₀.heap.objs.size<=b)/\b≠X.env.locals/\(∀x c,X.env.cells.lookup x=some c->c≠b)/\∀p∈X.pn++pins,p.1≠b):
  Inv X pins σ H' {s with heap:=h',gens:=g',drawn:=d',toks:=t'}:=by
 obtain⟨m,⟨o,es,ep,ho,r⟩,_⟩:=id I.loc
 obtain⟨sl,hL⟩:=u.any ho I.free λz=>(hch _ z).2.1 rfl
 exact I.step (ch:=ch) hch (λb o hL hb hc e n=>u.keep b o e n (λz=>(List.mem_cons.mp (I.stkSub b z)).elim hL hb) hc) (λb o _ _ hc e n=>u.any e n hc) (λb o hc e n=>u.free b o e n hc) (λb o hc e=>u.there b o e hc) u.tups u.frzs u.tbls (λm' hm=>by
  obtain⟨o',es',ep',ho',r'⟩:=hm
  rw[ho]at ho';cases ho'
  exact⟨_,es',ep',hL,r'⟩) hok hg
theorem Inv.turned{t':Nat}{it:Addr}(I:Inv X pins σ H s)(k:∀b o,b≠it->s.heap.get? b=some o->h'.get? b=some o)(hn:H it=none)(hL:it≠X.env.locals)
  (h1:it∈X.ex\/X.s₀.heap.objs.size<=it) (h2:∀x c,X.env.cells.lookup x=some c->c≠it) (h3:∀p∈X.pn++pins,p.1≠it):Inv X pins σ H {s with heap:=h',toks:=t'}:=by
 have nit:∀b u,H b=some u->b≠it:=λb u e z=>by rw[z,hn]at e;cases e
 refine I.step (g':=s.gens) (d':=s.drawn) (ch:=[it]) (λb hb=>?_) (λb o _ _ hc e _=>k b o (λz=>hc (by simp[z])) e) (λb o _ _ hc e _=>⟨o.slots,k b o (λz=>hc (by simp[z])) e⟩) (λ_ _ _ _ n=>n)
  (λb o hc e=>⟨o,k b o (λz=>hc (by simp[z])) e⟩) (λ_ _ e=>e) (λ_ _ _ e=>e) (λb ps e=>⟨#[],by rw[e];simp⟩) (λm hm=>?_) (λb u e=>?_) I.bare
 ·have e:b=it:=by simpa using hb
  subst e
  exact⟨h1,hL,h2,h3⟩
 ·obtain⟨o,es,ep,ho,r⟩:=hm
  exact⟨o,es,ep,k _ o (Ne.symm hL) ho,r⟩
 ·refine(I.hok b u e).stay (λc v hc q=>k c v ?_ q) (λ_ q=>q) λ_ _ q=>q
  rcases hc with z|z
  ·rw[z];exact nit b u e
  ·exact nit c _ z
theorem Inv.tok(I:Inv X pins σ H s)(t:Nat):Inv X pins σ H {s with toks:=t}:=I.un (h':=s.heap) (t':=t) Un.refl I.hok
theorem Inv.kept{t':Nat}(I:Inv X pins σ H s)(k:∀b u,s.heap.get? b=some u->h'.get? b=some u):Inv X pins σ H {s with heap:=h',toks:=t'}:=I.un (Un.kept k) (I.hok.kept k)
theorem Inv.laid{a:Addr}{o:HO}{t':Nat}(I:Inv X pins σ H s)(k:∀b u,s.heap.get? b=some u->h'.get? b=some u)(hp:s.heap.objs.size<=a)(new:ObjOk X.prog X.w (upd H a o) h' a o):
  Inv X pins σ (upd H a o) {s with heap:=h',toks:=t'}:=I.un (Un.laid k hp (I.hok.fresh hp)) (I.hok.laid k hp new)
theorem Inv.write{x e:Addr}{o:HO}{t':Nat}(I:Inv X pins σ H s)(mu:Mut (H x))(he:e=x\/H e=some (.own x))(k:∀b u,b≠e->s.heap.get? b=some u->h'.get? b=some u)(heo:∃u,h'.get? e=some u)
  (new:ObjOk X.prog X.w (upd H x o) h' x o):Inv X pins σ (upd H x o) {s with heap:=h',toks:=t'}:=I.un (Un.write mu he k heo) (I.hok.write mu he k heo new)
theorem Inv.weak{σ':List (Option V)}(I:Inv X pins σ H s)(hl:σ'.length=σ.length)(w:∀(i:Nat) v,σ'[i]?=some (some v)->σ[i]?=some (some v)):Inv X pins σ' H s:=
 ⟨I.ok,I.os,I.bare,I.base,let ⟨m,hn,hl'⟩:=I.loc;⟨m,hn,λi x v e1 e2 e3=>hl' i x v e1 (w i v e2) e3⟩,I.cell,I.free,I.freeC,I.pin,I.hok,hl.trans I.len⟩
theorem Inv.pins_of{pins':List (Addr×Obj)}(I:Inv X pins σ H s)(h:∀p∈pins',s.heap.get? p.1=some p.2/\H p.1=none/\p.1≠X.env.locals/\p.1∉X.fs/\∀v,p.2.data≠.cell v):Inv X pins' σ H s:=
 ⟨I.ok,I.os,I.bare,I.base,I.loc,I.cell,I.free,I.freeC,λp hp=>(List.mem_append.mp hp).elim (λz=>I.pin p (List.mem_append_left _ z)) (h p),I.hok,I.len⟩
theorem xW{N:List Str}(hN:N.Nodup){i j:Nat}{x:Str}(a:N[i]?=some x)(b:N[j]?=some x):i=j:=by
 obtain⟨h1,e1⟩:=List.getElem?_eq_some_iff.mp a
 obtain⟨h2,e2⟩:=List.getElem?_eq_some_iff.mp b
 exact(List.getElem_inj hN).mp (e1.trans e2.symm)
theorem qJ{M:Model}{A:Around}{E:Value->Shared->Prop}{i:Nat}{x:Str}{v:V}{u:Value}{Q:Unit->Shared->Prop}(I:Inv X pins σ H s)(hN:X.N.Nodup)(hi:X.N[i]?=some x)(hx:Loc X.env.scope x)(r:RelV v u)
  (h:∀s',Inv X pins (σ.set i (some v)) H s'->(∃a,Heap.SameBut a s.heap s'.heap/\(a=X.env.locals\/X.env.cells.lookup x=some a))->Q () s') (hf:X.fn x=true\/X.env.scope.names.lookup x=some .local:=by first|exact .inl rfl|exact .inr rfl|assumption):wpAny M A (storeName X.env x u) Q E s:=by
 obtain⟨m,hn,hl⟩:=id I.loc
 have hcls:(X.env.scope.kind==.class || (X.env.scope.kind==.module&&X.env.locals != X.env.globals))=false:=by rw[I.ok.kind];rfl
 have hiσ:i<σ.length:=by rw[I.len];exact(List.getElem?_eq_some_iff.mp hi).1
 have cne:=I.cne
 have tracked:∀{a:Addr} {h':Heap},(∃o,s.heap.get? a=some o/\H a=none)->Heap.SameBut a s.heap h'->HOk X.prog X.w H h':=λ{a h'} ha hs b ob e=>by
  obtain⟨_,_,hfree⟩:=ha
  refine(I.hok b ob e).stay (λc w' hc q=>(hs.2 c ?_).trans q) (λ_ q=>q) λ_ _ q=>q
  rintro rfl
  rcases hc with rfl|hc
  ·rw[hfree]at e;cases e
  ·rw[hfree]at hc;cases hc
 rcases hx with hk|hk
 ·refine wpAny_storeName_local hk hn (λh' hn' hs=>?_) hcls
  obtain⟨oL,_,_,hoL,_⟩:=id hn
  refine h _ ⟨I.ok,I.os,I.bare,⟨λb o e n hb hx=>?_,λb o e n hb hx=>?_,I.base.free,λb o e hx=>?_,I.base.tups,I.base.frzs,I.base.tbls⟩,⟨_,hn',λj y v' e1 e2 e3=>?_⟩,λy c e=>?_,I.free,I.freeC,λp hp=>?_,tracked ⟨oL,hoL,I.free⟩ hs,by simpa using I.len⟩ ⟨_,hs,.inl rfl⟩
  ·exact(hs.2 b (Nat.ne_of_lt (Nat.lt_of_lt_of_le (Heap.lt_size e) I.ok.above))).trans (I.base.keep b o e n hb hx)
  ·obtain⟨sl,e1⟩:=I.base.slot b o e n hb hx
   exact⟨sl,(hs.2 b (Nat.ne_of_lt (Nat.lt_of_lt_of_le (Heap.lt_size e) I.ok.above))).trans e1⟩
  ·obtain⟨o',e1⟩:=I.base.there b o e hx
   exact⟨o',(hs.2 b (Nat.ne_of_lt (Nat.lt_of_lt_of_le (Heap.lt_size e) I.ok.above))).trans e1⟩
  ·by_cases hj:j=i
   ·subst hj
    rw[hi]at e1;cases e1
    rw[List.getElem?_set_self hiσ]at e2
    cases e2
    exact⟨u,r,.inl ⟨hk,by simp⟩⟩
   ·rw[List.getElem?_set_ne (Ne.symm hj)]at e2
    obtain⟨u',r',q⟩:=hl j y v' e1 e2 e3
    refine⟨u',r',?_⟩
    rcases q with⟨k,e⟩|⟨k,c,e,z⟩
    ·refine .inl ⟨k,?_⟩
     have:y≠x:=λe=>hj (xW hN e1 (e▸hi))
     simp[this,e]
    ·exact .inr ⟨k,c,e,z.sameBut hs (cne y c e)⟩
  ·obtain⟨w',z⟩:=I.cell y c e
   exact⟨w',z.sameBut hs (cne y c e)⟩
  ·obtain⟨e,n,ne,nf,d⟩:=I.pin p hp
   exact⟨(hs.2 p.1 ne).trans e,n,ne,nf,d⟩
 ·have hfn:X.fn x=true:=by
   rcases hf with z|z
   ·exact z
   ·rw[z]at hk;cases hk
  obtain⟨c,hc⟩:=I.ok.has x (.inl hk)
  obtain⟨w',z⟩:=I.cell x c hc
  refine wpAny_storeName_cell I.ok.kind hk hc z (λh' hc' hs=>?_)
  obtain⟨oc,hoc,hocd⟩:=id z
  refine h {s with heap:=h'} ⟨I.ok,I.os,I.bare,⟨λb o e n hb hx=>?_,λb o e n hb hx=>?_,I.base.free,λb o e hx=>?_,I.base.tups,I.base.frzs,I.base.tbls⟩,⟨m,hn.sameBut hs (Ne.symm (cne x c hc)),λj y v' e1 e2 e3=>?_⟩,λy c' e=>?_,I.free,I.freeC,λp hp=>?_,tracked ⟨oc,hoc,I.freeC x c hc⟩ hs,by simpa using I.len⟩ ⟨c,hs,.inr hc⟩
  ·exact(hs.2 b (Nat.ne_of_lt (Nat.lt_of_lt_of_le (Heap.lt_size e) (I.ok.cab x c hfn hc)))).trans (I.base.keep b o e n hb hx)
  ·obtain⟨sl,e1⟩:=I.base.slot b o e n hb hx
   exact⟨sl,(hs.2 b (Nat.ne_of_lt (Nat.lt_of_lt_of_le (Heap.lt_size e) (I.ok.cab x c hfn hc)))).trans e1⟩
  ·obtain⟨o',e1⟩:=I.base.there b o e hx
   exact⟨o',(hs.2 b (Nat.ne_of_lt (Nat.lt_of_lt_of_le (Heap.lt_size e) (I.ok.cab x c hfn hc)))).trans e1⟩
  ·by_cases hj:j=i
   ·subst hj
    rw[hi]at e1;cases e1
    rw[List.getElem?_set_self hiσ]at e2
    cases e2
    exact⟨u,r,.inr ⟨.inl hk,c,hc,hc'⟩⟩
   ·rw[List.getElem?_set_ne (Ne.symm hj)]at e2
    obtain⟨u',r',q⟩:=hl j y v' e1 e2 e3
    refine⟨u',r',?_⟩
    rcases q with q|⟨k,c',e,z'⟩
    ·exact .inl q
    ·refine .inr ⟨k,c',e,z'.sameBut hs ?_⟩
     rintro rfl
     exact hj (xW hN e1 (I.ok.inj _ _ _ e hc▸hi))
  ·by_cases hcc:c'=c
   ·subst hcc;exact⟨_,hc'⟩
   ·obtain⟨w2,z2⟩:=I.cell y c' e
    exact⟨w2,z2.sameBut hs hcc⟩
  ·obtain⟨e,n,ne,nf,d⟩:=I.pin p hp
   refine⟨(hs.2 p.1 ?_).trans e,n,ne,nf,d⟩
   intro q
   rw[q,hoc]at e
   have q':oc=p.2:=Option.some.inj e
   exact d w' (by rw[<-q'];exact hocd)
theorem xR{M:Model}{A:Around}{E:Value->Shared->Prop}{i:Nat}{x:Str}{v:V}{u:Value}{Q:Unit->Shared->Prop}(I:Inv X pins σ H s)(hN:X.N.Nodup)(hi:X.N[i]?=some x)(hx:Loc X.env.scope x)(r:RelV v u)
  (h:∀s',Inv X pins (σ.set i (some v)) H s'->Q () s') (hf:X.fn x=true\/X.env.scope.names.lookup x=some .local:=by first|exact .inl rfl|exact .inr rfl|assumption):wpAny M A (storeName X.env x u) Q E s:=
 qJ I hN hi hx r (λs' I' _=>h s' I') hf
theorem Inv.call'{s':Shared}{ch:List Addr}(I:Inv X pins σ H s)(ho:s'.os=s.os)(u:Un (frs X.stack) ch H H' s.heap s'.heap)(hok:HOk X.prog X.w H' s'.heap)(hg:AllBare s'.gens)
  (hch:∀b∈ch,(b∈X.ex\/X.s₀.heap.objs.size<=b)/\b≠X.env.locals/\(∀x c,X.env.cells.lookup x=some c->c≠b)/\∀p∈X.pn++pins,p.1≠b):Inv X pins σ H' s':=by
 obtain⟨h',g',d',t',o'⟩:=s'
 have e:o'=s.os:=ho
 subst e
 exact I.call (g':=g') (t':=t') (d':=d') u hok hg hch
end
abbrev XK:=Value->Option Addr->Hp->Prop
abbrev St:=List (Option V)
abbrev VK:=V->Hp->Prop
abbrev TE:=St->Hp->VK->Prop
abbrev TT:=St->Hp->(Bool->Hp->Prop)->Prop
abbrev TA:=St->Hp->(List V->Hp->Prop)->Prop
structure jB where
 nx:St->Hp->Prop
 rt:VK
 bk:St->Hp->Prop:=λ_ _=>False
 ct:St->Hp->Prop:=λ_ _=>False
abbrev TS:=jB->St->Hp->Prop
def EP(X:Cx)(pins:List (Addr×Obj))(σ:St)(Q:VK)(u:Value)(s':Shared):Prop:=∃v H',Inv X pins σ H' s'/\RelV v u/\Q v H'
def TP(X:Cx)(pins:List (Addr×Obj))(σ:St)(Q:Bool->Hp->Prop)(b:Bool)(s':Shared):Prop:=∃H',Inv X pins σ H' s'/\Q b H'
def AP(X:Cx)(pins:List (Addr×Obj))(σ:St)(Q:List V->Hp->Prop)(us:List Value)(s':Shared):Prop:=∃vs H',Inv X pins σ H' s'/\Vals vs us/\Q vs H'
def SP(X:Cx)(pins:List (Addr×Obj))(D:jB)(f:Flow)(s':Shared):Prop:=
 match f with
 |.next=>∃σ' H',Inv X pins σ' H' s'/\D.nx σ' H'
 |.brk=>∃σ' H',Inv X pins σ' H' s'/\D.bk σ' H'
 |.cont=>∃σ' H',Inv X pins σ' H' s'/\D.ct σ' H'
 |.ret u=>∃v σ' H',Inv X pins σ' H' s'/\RelV v u/\D.rt v H'
def PE(X:Cx)(e:Expr)(t:TE):Prop:=
 ∀(pins:List (Addr×Obj)) (s:Shared) (σ:St) (H:Hp) (Q:VK),Inv X pins σ H s->t σ H Q->wpAny (model X.prog X.w) X.A (eval e X.env) (EP X pins σ Q) X.xe s
def PT(X:Cx)(e:Expr)(t:TT):Prop:=
 ∀(pins:List (Addr×Obj)) (s:Shared) (σ:St) (H:Hp) (Q:Bool->Hp->Prop),Inv X pins σ H s->t σ H Q->wpAny (model X.prog X.w) X.A (isTrue e X.env (eval e X.env)) (TP X pins σ Q) X.xe s
def PW(X:Cx)(e:Expr)(t:TT):Prop:=
 ∀(whole:Sem Value) (pins:List (Addr×Obj)) (s:Shared) (σ:St) (H:Hp) (Q:Bool->Hp->Prop),Inv X pins σ H s->t σ H Q->wpAny (model X.prog X.w) X.A (isTrue e X.env whole) (TP X pins σ Q) X.xe s
theorem PW.pt{X:Cx}{e:Expr}{t:TT}(h:PW X e t):PT X e t:=h _
def PA(X:Cx)(es:List Expr)(t:TA):Prop:=
 ∀(pos:Pos) (pins:List (Addr×Obj)) (s:Shared) (σ:St) (H:Hp) (Q:List V->Hp->Prop),Inv X pins σ H s->t σ H Q->wpAny (model X.prog X.w) X.A (spliced (backTo pos (starEach es X.env))) (AP X pins σ Q) X.xe s
def PS(X:Cx)(st:Stmt)(t:TS):Prop:=
 ∀(pins:List (Addr×Obj)) (s:Shared) (σ:St) (H:Hp) (D:jB),Inv X pins σ H s->t D σ H->wpAny (model X.prog X.w) X.A (exec st X.env) (SP X pins D) X.xe s
def PSs(X:Cx)(st:List Stmt)(t:TS):Prop:=
 ∀(pins:List (Addr×Obj)) (s:Shared) (σ:St) (H:Hp) (D:jB),Inv X pins σ H s->t D σ H->wpAny (model X.prog X.w) X.A (execs st X.env) (SP X pins D) X.xe s
theorem thn{α:Type}{t:Sem α}{Q Q':α->Shared->Prop}{M:Model}{A:Around}{E:Value->Shared->Prop}{s:Shared}(h:wpAny M A t Q E s)(hQ:∀a s,Q a s->Q' a s):wpAny M A t Q' E s:=wpAny_mono h hQ λ_ _ x=>x
end L2
namespace L2
open PySem PySem.Spec PyProof.Rows
section
variable{X:Cx}
def zAQ(i:Nat):TE:=λσ H Q=>∃v,σ[i]?=some (some v)/\Q v H
def tC(v:V):TE:=λ_ H Q=>Q v H
theorem gG{i:Nat}{x:Str}{pos:Pos}(hN:X.N[i]?=some x)(hv:Vis X.env.scope x)(hd:(x==("__debug__":Str))=false:=by decide)(hcd:(x==("__classdict__":Str))=false:=by decide):PE X (.Name x pos) (zAQ i):=by
 intro pins s σ H Q I h
 obtain⟨v,e,h⟩:=h
 obtain⟨m,hn,hl⟩:=I.loc
 obtain⟨u,r,l⟩:=hl i x v hN e hv
 have fin:EP X pins σ Q u s:=⟨v,H,I,r,h⟩
 rcases l with⟨hk,hm⟩|⟨hk,c,hc,hcell⟩
 ·exact wpAny_Name (wpAny_loadName_local I.ok.kind hk hn hm fin) hd
 ·rcases hk with hk|hk
  ·exact wpAny_Name (wpAny_loadName_cell I.ok.kind hk hc hcell fin) hd
  ·exact wpAny_Name (wpAny_loadName_free I.ok.kind hk hc hcell fin hcd) hd
theorem bV{i j pos}:PE X (.Constant (.int i) j pos) (tC (.int i)):=λ_ _ _ H _ I h=>wpAny_Constant_int ⟨.int i,H,I.tok _,⟨_,rfl⟩,h⟩
theorem zGe{b j pos}:PE X (.Constant (.bool b) j pos) (tC (.bl b)):=λ_ _ _ H _ I h=>Constant_bool ⟨.bl b,H,I,rfl,h⟩
theorem zFg{j pos}:PE X (.Constant .none j pos) (tC .non):=λ_ _ _ H _ I h=>Constant_none ⟨.non,H,I,rfl,h⟩
theorem zFd{x j pos}:PE X (.Constant (.str x) j pos) (tC (.str x)):=λ_ _ _ H _ I h=>Calls.Constant_str ⟨.str x,H,I.tok _,⟨_,rfl⟩,h⟩
def Gl(X:Cx)(x:Str):Prop:=X.env.kindOf x=some .globalImplicit
theorem tE{E:Value->Shared->Prop}{pins:List (Addr×Obj)}{s:Shared}{σ:St}{H:Hp}{x:Str}{u:Value}{pos:Pos}{Q:Value->Shared->Prop}(I:Inv X pins σ H s)(hg:Gl X x)(hm:X.mg x=some u)(h:Q u s)
  (hd:(x==("__debug__":Str))=false:=by decide):wpAny (model X.prog X.w) X.A (eval (.Name x pos) X.env) Q E s:=
 Calls.Name_function_global I.ok.kind hg (Calls.loadGlobal_global (by rw[I.ok.glob];exact I.mod.glob.keeps I.bk) hm h) hd
theorem lD{E:Value->Shared->Prop}{pins:List (Addr×Obj)}{s:Shared}{σ:St}{H:Hp}{x:Str}{u:Value}{pos:Pos}{Q:Value->Shared->Prop}(I:Inv X pins σ H s)(hg:Gl X x)(hm:X.mg x=none)(hv:bootBuiltins x=some u)(h:Q u s)
  (hn:x≠"__name__":=by decide) (hd:(x==("__debug__":Str))=false:=by decide):wpAny (model X.prog X.w) X.A (eval (.Name x pos) X.env) Q E s:=by
 obtain⟨mb,h1,h2⟩:=I.mod.blt
 exact Calls.Name_function_global I.ok.kind hg (Calls.loadGlobal_builtin (by rw[I.ok.glob];exact I.mod.glob.keeps I.bk) hm (by rw[I.ok.blt];exact h1.keeps I.bk) ((h2 x hn).trans hv) h) hd
theorem zC{x:Str}{v:V}{u:Value}{pos:Pos}(hg:Gl X x)(hm:X.mg x=some u)(r:RelV v u)(hd:(x==("__debug__":Str))=false:=by decide):PE X (.Name x pos) (tC v):=
 λ_ _ _ H _ I h=>tE I hg hm ⟨v,H,I,r,h⟩ hd
theorem zD6{x:Str}{v:V}{u:Value}{pos:Pos}(hg:Gl X x)(hm:X.mg x=none)(hv:bootBuiltins x=some u)(r:RelV v u)(hn:x≠"__name__":=by decide)(hd:(x==("__debug__":Str))=false:=by decide):PE X (.Name x pos) (tC v):=
 λ_ _ _ H _ I h=>lD I hg hm hv ⟨v,H,I,r,h⟩ hn hd
variable{a b:Expr}{ta tb:TE}{pos:Pos}
def tB(t:TE):TT:=λσ H Q=>t σ H λx H1=>∃c,x=.bl c/\Q c H1
theorem zE4{e:Expr}{t:TE}(h:PE X e t)(he:∀whole,isTrue e X.env whole=(do let v <- whole;standAt e.pos;holding [v] (truthy v)):=by intro _;rfl):PT X e (tB t):=by
 intro pins s σ H Q I hw
 refine isTrue_plain (thn (h pins s σ H _ I hw) λv s1 ⟨x,H1,I1,r1,q1⟩=>?_) (he _)
 obtain⟨d,rfl,q⟩:=q1
 cases r1
 exact wpAny_truthy_bool ⟨H1,I1,q⟩
variable{tA tB':TT}{rest:List Expr}
def zGU(t u:TT):TT:=λσ H Q=>t σ H λc H1=>if c=true then u σ H1 Q else Q false H1
def tOr(t u:TT):TT:=λσ H Q=>t σ H λc H1=>if c=true then Q true H1 else u σ H1 Q
def zGQ(t:TT):TT:=λσ H Q=>t σ H λc H1=>Q (!c) H1
theorem zDX(ha:PT X a tA):PW X (.BoolOp .And [a] pos) tA:=by
 intro wh pins s σ H Q I h
 refine isTrue_and (thn (ha pins s σ H Q I h) λc s1 e=>?_)
 cases c with
 |true=>exact isTrue_and_nil e
 |false=>exact e
theorem zEZ(ha:PT X a tA):PW X (.BoolOp .Or [a] pos) tA:=by
 intro wh pins s σ H Q I h
 refine isTrue_or (thn (ha pins s σ H Q I h) λc s1 e=>?_)
 cases c with
 |false=>exact isTrue_or_nil e
 |true=>exact e
theorem zE0(ha:PT X a tA)(hb:PW X (.BoolOp .And (b::rest) pos) tB'):PW X (.BoolOp .And (a::b::rest) pos) (zGU tA tB'):=by
 intro wh pins s σ H Q I h
 refine isTrue_and (thn (ha pins s σ H _ I h) λc s1 ⟨H1,I1,q1⟩=>?_)
 cases c with
 |true=>exact hb wh pins s1 σ H1 Q I1 q1
 |false=>exact⟨H1,I1,q1⟩
theorem zGb(ha:PT X a tA)(hb:PW X (.BoolOp .Or (b::rest) pos) tB'):PW X (.BoolOp .Or (a::b::rest) pos) (tOr tA tB'):=by
 intro wh pins s σ H Q I h
 refine isTrue_or (thn (ha pins s σ H _ I h) λc s1 ⟨H1,I1,q1⟩=>?_)
 cases c with
 |true=>exact⟨H1,I1,q1⟩
 |false=>exact hb wh pins s1 σ H1 Q I1 q1
theorem zE5(ha:PT X a tA):PT X (.UnaryOp .Not a pos) (zGQ tA):=by
 intro pins s σ H Q I h
 exact isTrue_not (ha pins s σ H (λc H1=>Q (!c) H1) I h)
def zFZ(ta tb:TE):TE:=λσ H Q=>ta σ H λx H1=>∃c,x=.bl c/\if c=true then tb σ H1 Q else Q (.bl false) H1
theorem zFf{op}{t:TE}(h:PE X a t):PE X (.BoolOp op [a] pos) t:=λpins s σ H Q I hw=>BoolOp_one (h pins s σ H Q I hw)
theorem zFi(ha:PE X a ta)(hb:PE X (.BoolOp .And (b::rest) pos) tb):PE X (.BoolOp .And (a::b::rest) pos) (zFZ ta tb):=by
 intro pins s σ H Q I h
 refine BoolOp_and (thn (ha pins s σ H _ I h) λv s1 ⟨x,H1,I1,r1,q1⟩=>?_)
 obtain⟨c,rfl,q1⟩:=q1
 cases r1
 refine wpAny_truthy_bool ?_
 cases c with
 |true=>exact hb pins s1 σ H1 Q I1 q1
 |false=>exact⟨.bl false,H1,I1,rfl,q1⟩
def tIf(t:TT)(ta tb:TE):TE:=λσ H Q=>t σ H λc H1=>if c=true then ta σ H1 Q else tb σ H1 Q
theorem zDd{c:Expr}(hc:PT X c tA)(ha:PE X a ta)(hb:PE X b tb):PE X (.IfExp c a b pos) (tIf tA ta tb):=by
 intro pins s σ H Q I h
 refine wpAny_IfExp (thn (hc pins s σ H _ I h) λd s1 ⟨H1,I1,q1⟩=>?_)
 cases d with
 |true=>exact ha pins s1 σ H1 Q I1 q1
 |false=>exact hb pins s1 σ H1 Q I1 q1
end
end L2
namespace L2
open PySem PySem.Spec PyProof.Rows
def SqL(K:W.Frag)(H:Hp)(a:Addr)(xs:List V):Prop:=
 Rd H a (.lst xs) \/
  ∃(o:Obj) (its:Array Value) (n:Nat),K.lookup a=some o/\o.cls=.type "list"/\o.dict=none/\o.data=.seq its n/\its.size<=sizeLine/\Vals xs its.toList
def SqT(K:W.Frag)(H:Hp)(a:Addr)(xs:List V):Prop:=
 Rd H a (.tup xs) \/
  ∃(o:Obj) (its:Array Value) (n:Nat),K.lookup a=some o/\o.cls=.type "tuple"/\o.data=.seq its n/\its.size<=sizeLine/\Vals xs its.toList
def zHW:Value->Option V
 |.none=>some .non
 |.bool b=>some (.bl b)
 |.int i _=>some (.int i)
 |.str x _=>some (.str x)
 |.bytes b _=>some (.byt b)
 |.float b _=>some (.flt b)
 |.ref a=>some (.ref a)
 |.type n=>some (.ty n)
 |_=>none
theorem RelV.abs{x:V}{u:Value}(r:RelV x u):zHW u=some x:=by
 cases x with
 |non=>cases r;rfl
 |bl _=>cases r;rfl
 |int _=>obtain⟨t,rfl⟩:=r;rfl
 |str _=>obtain⟨t,rfl⟩:=r;rfl
 |byt _=>obtain⟨t,rfl⟩:=r;rfl
 |flt _=>obtain⟨t,rfl⟩:=r;rfl
 |ref _=>cases r;rfl
 |ty _=>cases r;rfl
theorem RelV.inj{x y:V}{u:Value}(r:RelV x u)(q:RelV y u):x=y:=Option.some.inj (r.abs.symm.trans q.abs)
theorem Vals.inj:∀{xs ys:List V}{us:List Value},Vals xs us->Vals ys us->xs=ys
 |_,_,_,.nil,.nil=>rfl
 |_,_,_,.cons r t,.cons r' t'=>by rw[r.inj r',Vals.inj t t']
section
variable{X:Cx}{pins:List (Addr×Obj)}{σ:St}{H:Hp}{s:Shared}{a:Addr}{xs ys:List V}
theorem SqL.of{K:W.Frag}(h:H a=some (.lst xs)):SqL K H a xs:=.inl (.inl h)
theorem SqT.of{K:W.Frag}(h:H a=some (.tup xs)):SqT K H a xs:=.inl (.inl h)
theorem Inv.list(I:Inv X pins σ H s)(h:SqL X.K H a xs):∃its:List Value,Vals xs its/\PlainL s.heap a its.toArray/\xs.length<=sizeLine:=by
 rcases h with h|⟨o,its,n,hk,hc,hd,hs,hz,r⟩
 ·obtain⟨z,its,n,r,e⟩:=h.ok I.hok
  exact⟨its,r,⟨_,n,e,rfl,rfl,rfl⟩,z⟩
 ·refine⟨its.toList,r,⟨o,n,I.kIn a o hk,hc,hd,by simpa using hs⟩,?_⟩
  have e:=r.length
  simp only[Array.length_toList]at e
  omega
theorem Inv.tuple(I:Inv X pins σ H s)(h:SqT X.K H a xs):∃its:List Value,Vals xs its/\IsTup s.heap a its.toArray/\xs.length<=sizeLine:=by
 rcases h with h|⟨o,its,n,hk,hc,hs,hz,r⟩
 ·obtain⟨z,its,r,p⟩:=h.ok I.hok
  exact⟨its,r,p,z⟩
 ·refine⟨its.toList,r,⟨o,I.kIn a o hk,hc,n,by simpa using hs⟩,?_⟩
  have e:=r.length
  simp only[Array.length_toList]at e
  omega
theorem Inv.list_inj(I:Inv X pins σ H s)(h:SqL X.K H a xs)(h':SqL X.K H a ys):xs=ys:=by
 obtain⟨its,r,⟨o,n,e,_,_,d⟩,_⟩:=I.list h
 obtain⟨its',r',⟨o',n',e',_,_,d'⟩,_⟩:=I.list h'
 rw[e]at e';cases e'
 rw[d]at d'
 injection d' with d1 _
 have:its=its':=by simpa using congrArg Array.toList d1
 subst this
 exact r.inj r'
theorem Inv.tuple_inj(I:Inv X pins σ H s)(h:SqT X.K H a xs)(h':SqT X.K H a ys):xs=ys:=by
 obtain⟨its,r,⟨o,e,_,n,d⟩,_⟩:=I.tuple h
 obtain⟨its',r',⟨o',e',_,n',d'⟩,_⟩:=I.tuple h'
 rw[e]at e';cases e'
 rw[d]at d'
 injection d' with d1 _
 have:its=its':=by simpa using congrArg Array.toList d1
 subst this
 exact r.inj r'
end
abbrev Cx.wish(X:Cx)(E:Value->Shared->Prop):Cx:={X with xe:=E}
abbrev Cx.nox(X:Cx):Cx:=X.wish λ_ _=>False
theorem Cx.Ok.wish{X:Cx}(ok:X.Ok)(E:Value->Shared->Prop):(X.wish E).Ok:=
 ⟨ok.mod,ok.kind,ok.glob,ok.blt,ok.above,ok.inj,ok.has,ok.cab,ok.hd,ok.frames,ok.stk,ok.exf,ok.bs,ok.bsz,ok.noex,ok.exfs,ok.funs,ok.frf⟩
theorem Cx.Ok.unwish{X:Cx}{E:Value->Shared->Prop}(ok:(X.wish E).Ok):X.Ok:=
 ⟨ok.mod,ok.kind,ok.glob,ok.blt,ok.above,ok.inj,ok.has,ok.cab,ok.hd,ok.frames,ok.stk,ok.exf,ok.bs,ok.bsz,ok.noex,ok.exfs,ok.funs,ok.frf⟩
section
variable{X:Cx}{pins:List (Addr×Obj)}{σ:St}{H:Hp}{s:Shared}{E:Value->Shared->Prop}
theorem Inv.wish(I:Inv X pins σ H s)(E:Value->Shared->Prop):Inv (X.wish E) pins σ H s:=⟨I.ok.wish E,I.os,I.bare,I.base,I.loc,I.cell,I.free,I.freeC,I.pin,I.hok,I.len⟩
theorem Inv.unwish(I:Inv (X.wish E) pins σ H s):Inv X pins σ H s:=⟨I.ok.unwish,I.os,I.bare,I.base,I.loc,I.cell,I.free,I.freeC,I.pin,I.hok,I.len⟩
theorem SP.unwish{D:jB}{f:Flow}{s':Shared}(h:SP (X.wish E) pins D f s'):SP X pins D f s':=by
 cases f with
 |next=>obtain⟨σ',H',I,q⟩:=h;exact⟨σ',H',I.unwish,q⟩
 |brk=>obtain⟨σ',H',I,q⟩:=h;exact⟨σ',H',I.unwish,q⟩
 |cont=>obtain⟨σ',H',I,q⟩:=h;exact⟨σ',H',I.unwish,q⟩
 |ret u=>obtain⟨v,σ',H',I,r,q⟩:=h;exact⟨v,σ',H',I.unwish,r,q⟩
theorem PSs.nox{st:List Stmt}{t:TS}(h:PSs X.nox st t):PSs X st t:=λpins s σ H D I hw=>
 wpAny_mono (h pins s σ H D (I.wish _) hw) (λ_ _ q=>q.unwish) λ_ _ z=>False.elim z
end
section
variable{X:Cx}{st:Stmt}{rest:List Stmt}{t u:TS}{e:Expr}{te:TE}{pos:Pos}
def zFX:TS:=λD σ H=>D.nx σ H
def zGN(t u:TS):TS:=λD σ H=>t {D with nx:=u D} σ H
theorem sW:PSs X [] zFX:=λ_ _ σ H _ I h=>wpAny_execs_nil ⟨σ,H,I,h⟩
theorem fF(h1:PS X st t)(h2:PSs X rest u):PSs X (st::rest) (zGN t u):=by
 intro pins s σ H D I h
 refine wpAny_execs_cons (thn (h1 pins s σ H {D with nx:=u D} I h) λf s1 q=>?_)
 cases f with
 |next=>
  obtain⟨σ',H',I',q⟩:=q
  exact h2 pins s1 σ' H' D I' q
 |ret v=>exact q
 |brk=>exact q
 |cont=>exact q
theorem iM(h1:PS X st t):PSs X [st] t:=by
 intro pins s σ H D I h
 refine wpAny_execs_cons (thn (h1 pins s σ H D I h) λf s1 q=>?_)
 cases f with
 |next=>exact wpAny_execs_nil q
 |ret v=>exact q
 |brk=>exact q
 |cont=>exact q
theorem Inv.quiet{pins:List (Addr×Obj)}{σ:St}{H:Hp}{s:Shared}(I:Inv X pins σ H s):interactive X.env=false:=by simp[interactive,I.ok.kind]
def zFY(te:TE):TS:=λD σ H=>te σ H λ_ H1=>D.nx σ H1
theorem yV(he:PE X e te)(hs:swapsWith e none pos.line X.env=pure false:=by rfl):PS X (.Expr e pos) (zFY te):=by
 intro pins s σ H D I h
 exact wpAny_Expr_any (thn (he pins s σ H _ I h) λv s1 ⟨x,H1,I1,r1,q1⟩=>⟨σ,H1,I1,q1⟩) I.quiet hs
def zGP(te:TE):TS:=λD σ H=>te σ H D.rt
theorem iQ(he:PE X e te):PS X (.Return (some e) pos) (zGP te):=by
 intro pins s σ H D I h
 exact wpAny_Return_some (thn (he pins s σ H _ I h) λv s1 ⟨x,H1,I1,r1,q1⟩=>⟨x,σ,H1,I1,r1,q1⟩)
def zGR(c:TT)(t u:TS):TS:=λD σ H=>c σ H λb H1=>if b=true then t D σ H1 else u D σ H1
theorem uE{c:Expr}{a b:List Stmt}{tc:TT}(hc:PT X c tc)(ha:PSs X a t)(hb:PSs X b u):PS X (.If c a b pos) (zGR tc t u):=by
 intro pins s σ H D I h
 refine wpAny_If (thn (hc pins s σ H _ I h) λd s1 ⟨H1,I1,q1⟩=>?_)
 cases d with
 |true=>exact ha pins s1 σ H1 D I1 q1
 |false=>exact hb pins s1 σ H1 D I1 q1
def zEL:TS:=λ_ _ _=>False
theorem zCl{sts:List Stmt}:PSs X sts zEL:=λ_ _ _ _ _ _ h=>h.elim
end
abbrev TG:=V->St->Hp->(St->Hp->Prop)->Prop
abbrev TGs:=List V->St->Hp->(St->Hp->Prop)->Prop
def PG(X:Cx)(target:Expr)(t:TG):Prop:=
 ∀(pins:List (Addr×Obj)) (s:Shared) (σ:St) (H:Hp) (v:V) (u:Value) (Q:St->Hp->Prop),Inv X pins σ H s->RelV v u->t v σ H Q ->
  wpAny (model X.prog X.w) X.A (assign target X.env u) (λ_ s'=>∃σ' H',Inv X pins σ' H' s'/\Q σ' H') X.xe s
def PGs(X:Cx)(ts:List Expr)(t:TGs):Prop:=
 ∀(pins:List (Addr×Obj)) (s:Shared) (σ:St) (H:Hp) (vs:List V) (us:List Value) (Q:St->Hp->Prop),Inv X pins σ H s->Vals vs us->t vs σ H Q ->
  wpAny (model X.prog X.w) X.A (assignInOrder ((assignEach ts X.env).map (·.2)) us) (λ_ s'=>∃σ' H',Inv X pins σ' H' s'/\Q σ' H') X.xe s
abbrev vN:=V->V->V->Hp->(Hp->Prop)->Prop
def zBb(X:Cx)(t:vN):Prop:=
 ∀(pins:List (Addr×Obj)) (s:Shared) (σ:St) (H:Hp) (o i v:V) (ov iv u:Value) (Q:Hp->Prop),Inv X pins σ H s->RelV o ov->RelV i iv->RelV v u->t o i v H Q ->
  wpAny (model X.prog X.w) X.A (setItem ov iv u) (λ_ s'=>∃H',Inv X pins σ H' s'/\Q H') X.xe s
section
variable{X:Cx}{pos:Pos}
def lT(i:Nat):TG:=λv σ H Q=>Q (σ.set i (some v)) H
theorem zD2{i:Nat}{x:Str}(hN:X.N.Nodup)(hi:X.N[i]?=some x)(hx:Loc X.env.scope x)(hf:X.fn x=true\/X.env.scope.names.lookup x=some .local:=by first|exact .inl rfl|exact .inr rfl|assumption):PG X (.Name x pos) (lT i):=by
 intro pins s σ H v u Q I r h
 exact wpAny_assign_Name (xR I hN hi hx r (λs' I'=>⟨_,H,I',h⟩) hf)
def zHl:TGs:=λvs σ H Q=>vs=[]/\Q σ H
def zGu(t:TG)(u:TGs):TGs:=λvs σ H Q=>∃v r,vs=v::r/\t v σ H λσ' H'=>u r σ' H' Q
theorem zD1:PGs X [] zHl:=by
 intro pins s σ H vs us Q I r h
 obtain⟨e,h⟩:=h
 subst e
 cases r
 exact assignInOrder_nil ⟨σ,H,I,h⟩
theorem zDb{e:Expr}{es:List Expr}{t:TG}{u:TGs}(h1:PG X e t)(h2:PGs X es u)
  (hs:(assignEach (e::es) X.env).map (·.2)=assign e X.env::(assignEach es X.env).map (·.2):=by rfl):PGs X (e::es) (zGu t u):=by
 intro pins s σ H vs us Q I r h
 obtain⟨v,vr,e1,h⟩:=h
 subst e1
 cases r with
 |cons r rr=>
  rw[hs]
  refine assignInOrder_cons (thn (h1 pins s σ H _ _ _ I r h) λ_ s1 ⟨σ1,H1,I1,q1⟩=>?_)
  exact h2 pins s1 σ1 H1 _ _ Q I1 rr q1
def zHj(K:W.Frag)(n:Nat)(t:TGs):TG:=λv σ H Q=>∃a xs,v=.ref a/\SqT K H a xs/\xs.length=n/\t xs σ H Q
theorem zE8{es:List Expr}{k:Nat}{t:TGs}{n:Nat}(hc:X.calm=true)(h:PGs X es t)
  (hn:(assignEach es X.env).length=n:=by rfl) (hst:(assignEach es X.env).findIdx? (·.1)=none:=by rfl):PG X (.Tuple es k pos) (zHj X.K n t):=by
 intro pins s σ H v u Q I r hw
 obtain⟨a,xs,e1,hq,hl,hw⟩:=hw
 subst e1
 cases r
 obtain⟨its,rv,ht,hz⟩:=I.tuple hq
 refine assign_Tuple_tuple (I.ok.hd hc) ht (by simp[hn,<-hl,rv.length]) hst λh' hx=>?_
 have I1:Inv X pins σ H {s with heap:=h'}:=I.kept (t':=s.toks) λb o e=>hx b o (Nat.ne_of_lt (Heap.lt_size e)) e
 exact h pins _ σ H xs _ Q I1 (by simpa using rv) hw
def zHk(to ti:TE)(t:vN):TG:=λv σ H Q=>to σ H λo H1=>ti σ H1 λi H2=>t o i v H2 λH3=>Q σ H3
theorem zE9{o i:Expr}{to ti:TE}{t:vN}(ho:PE X o to)(hi:PE X i ti)(hs:zBb X t)
  (ha:∀v,assign (.Subscript o i pos) X.env v=(do
   let ov <- holding [v] (eval o X.env)
   let iv <- holding [v,ov] (eval i X.env)
   standAt pos
   holding [v,ov,iv] (setItem ov iv v)
   release [v,ov,iv] []):=by intro _;rfl):PG X (.Subscript o i pos) (zHk to ti t):=by
 intro pins s σ H v u Q I r h
 rw[ha]
 refine wpAny_bind (wpAny_holding (thn (ho pins s σ H _ I h) λov s1 ⟨x,H1,I1,r1,q1⟩=>?_))
 refine wpAny_bind (wpAny_holding (thn (hi pins s1 σ H1 _ I1 q1) λiv s2 ⟨y,H2,I2,r2,q2⟩=>?_))
 refine wpAny_bind (wpAny_standAt (wpAny_bind (wpAny_holding (thn (hs pins s2 σ H2 x y v ov iv u _ I2 r1 r2 r q2) λ_ s3 ⟨H3,I3,q3⟩=>?_))))
 exact wpAny_release ⟨σ,H3,I3,q3⟩
def lW(te:TE)(g:TG):TS:=λD σ H=>te σ H λx H1=>g x σ H1 D.nx
theorem zE7{tg e:Expr}{te:TE}{g:TG}(he:PE X e te)(hg:PG X tg g)(hs:swapsWithSole [tg] e pos.line X.env=pure false:=by rfl)(hw:swappedStores [tg] e X.env=pure none:=by rfl)
  (h1:(assignEach [tg] X.env).map (·.2)=[assign tg X.env]:=by rfl):PS X (.Assign [tg] e pos) (lW te g):=by
 intro pins s σ H D I h
 refine wpAny_Assign_stores (thn (he pins s σ H _ I h) λv s1 ⟨x,H1,I1,r1,q1⟩=>?_) hs hw
 rw[h1]
 exact thn (hg pins s1 σ H1 x v _ I1 r1 q1) λ_ s2 q=>q
theorem iP{i:Nat}{x:Str}{e:Expr}{te:TE}{pos':Pos}(hN:X.N.Nodup)(hi:X.N[i]?=some x)(hx:Loc X.env.scope x)(he:PE X e te)(hs:swapsWith e (some (.Name x pos')) pos.line X.env=pure false:=by rfl)(hf:X.fn x=true\/X.env.scope.names.lookup x=some .local:=by first|exact .inl rfl|exact .inr rfl|assumption):
  PS X (.Assign [.Name x pos'] e pos) (lW te (lT i)):=by
 intro pins s σ H D I h
 refine wpAny_Assign_Name (thn (he pins s σ H _ I h) λv s1 ⟨y,H1,I1,r1,q1⟩=>?_) hs
 exact xR I1 hN hi hx r1 (λs2 I2=>⟨_,H1,I2,q1⟩) hf
end
section
variable{X:Cx}{pos:Pos}
def zEK(c:TT)(tb:TS):TS:=λD σ H=>∃W:Nat->St->Hp->Prop,(∃m,W m σ H)/\∀m σ H,W m σ H ->
 c σ H λb H1=>if b=true then ∃N:St->Hp->Prop,(∀σ' H',N σ' H'->∃m',m'<m/\W m' σ' H')/\tb {D with nx:=N,ct:=N,bk:=D.nx} σ H1 else D.nx σ H1
theorem zC6{c:Expr}{body:List Stmt}{tc:TT}{tb:TS}(hp:PassesOwn (model X.prog X.w) X.A X.env X.xe)(hc:PT X c tc)(hb:PSs X body tb):PS X (.While c body [] pos) (zEK tc tb):=by
 intro pins s σ H D I h
 obtain⟨W,⟨m0,w0⟩,turn⟩:=h
 refine wpAny_While (codeAny_whileLoop (λn s'=>∃σ' H',Inv X pins σ' H' s'/\W n σ' H') ?_ m0 ⟨σ,H,I,w0⟩)
 rintro n s1 ⟨σ1,H1,I1,w1⟩
 refine wpAny_passesOwn hp (thn (hc pins s1 σ1 H1 _ I1 (turn n σ1 H1 w1)) λb s2 ⟨H2,I2,q2⟩=>?_)
 cases b with
 |true=>
  obtain⟨N,hN,q2⟩:=q2
  rw[if_pos rfl]
  refine wpAny_passesOwn hp (thn (hb pins s2 σ1 H2 _ I2 q2) λf s3 q3=>?_)
  cases f with
  |next=>
   obtain⟨σ3,H3,I3,n3⟩:=q3
   obtain⟨m',hm,w3⟩:=hN σ3 H3 n3
   exact⟨m',hm,σ3,H3,I3,w3⟩
  |cont=>
   obtain⟨σ3,H3,I3,n3⟩:=q3
   obtain⟨m',hm,w3⟩:=hN σ3 H3 n3
   exact⟨m',hm,σ3,H3,I3,w3⟩
  |brk=>exact q3
  |ret v=>exact q3
 |false=>
  rw[if_neg Bool.false_ne_true]
  exact wpAny_execs_nil ⟨σ1,H2,I2,q2⟩
end
structure It where
 go:Nat->Hp->Prop
 yld:Nat->Hp->V->Hp->Prop
 stop:Nat->Hp->Prop
def dB(X:Cx)(pins:List (Addr×Obj))(H:Hp)(b:Addr):Prop:=
 H b=none/\b≠X.env.locals/\b∉X.fs/\(b∈X.ex\/X.s₀.heap.objs.size<=b)/\(∀x c,X.env.cells.lookup x=some c->c≠b)/\∀p∈X.pn++pins,p.1≠b
theorem Inv.fpOk{X:Cx}{pins:List (Addr×Obj)}{σ:St}{H H':Hp}{s:Shared}{b:Addr}(I:Inv X pins σ H s)(hb:s.heap.objs.size<=b)(hn:H' b=none):dB X pins H' b:=by
 refine⟨hn,Nat.ne_of_gt (Nat.lt_of_lt_of_le I.lt hb),I.nofs hb,.inr (Nat.le_trans I.sz hb),λx c e z=>?_,λp hp z=>?_⟩
 ·obtain⟨v,q⟩:=I.cell x c e
  exact absurd (Nat.lt_of_lt_of_le q.lt (by rw[z];exact hb)) (Nat.lt_irrefl _)
 ·exact absurd (Nat.lt_of_lt_of_le (Heap.lt_size (I.pin p hp).1) (by rw[z];exact hb)) (Nat.lt_irrefl _)
structure fZ (P:Program) (w:World) (K:W.Frag) (tg:Expr) (J:It) (fp:List Addr) (it:Addr) (tn:Nat->Heap->Prop):Prop where
 mem:it∈fp
 obj:∀i h,tn i h->∀b∈fp,∃o,h.get? b=some o/\∀v,o.data≠.cell v
 keep:∀i h h',tn i h->(∀b∈fp,∀o,h.get? b=some o->h'.get? b=some o)->tn i h'
 item:∀(X:Cx),X.prog=P->X.w=w->X.K=K->X.calm=true->∀(i:Nat) (pins:List (Addr×Obj)) (s:Shared) (σ:St) (H:Hp) (E:Value->Shared->Prop),Inv X pins σ H s->(∀b∈fp,dB X pins H b)->tn i s.heap->J.go i H ->
  wpAny (model P w) X.A (pyNext (.ref it)) (λr s1=>∃u,r=some u /\
   wpAny (model P w) X.A (letOwnedTupleGo tg (.ref it) u) (λ_ s2=>∃x H',Inv X pins σ H' s2/\RelV x u/\J.yld i H x H'/\tn (i+1) s2.heap/\∀b∈fp,H' b=none) E s1) E s
 done:∀(X:Cx),X.prog=P->X.w=w->X.K=K->X.calm=true->∀(i:Nat) (pins:List (Addr×Obj)) (s:Shared) (σ:St) (H:Hp) (E:Value->Shared->Prop),Inv X pins σ H s->(∀b∈fp,dB X pins H b)->tn i s.heap->J.stop i H ->
  wpAny (model P w) X.A (pyNext (.ref it)) (λr s1=>r=none/\Inv X pins σ H s1) E s
 self:∀(A:Around) (i:Nat) (s:Shared) (Q:Value->Shared->Prop) (E:Value->Shared->Prop),tn i s.heap->Q (.ref it) s->wpAny (model P w) A (pyIter (.ref it)) Q E s
abbrev TI:=St->Hp->(It->Hp->Prop)->Prop
def PIE(X:Cx)(pins:List (Addr×Obj))(σ:St)(tg:Expr)(R:It->Hp->Prop)(itv:Value)(s2:Shared):Prop:=
 ∃(it:Addr) (fp:List Addr) (tn:Nat->Heap->Prop) (J:It) (H':Hp),itv=.ref it/\Inv X pins σ H' s2/\fZ X.prog X.w X.K tg J fp it tn/\tn 0 s2.heap/\(∀b∈fp,dB X pins H' b)/\R J H'
def PI(X:Cx)(tg iter:Expr)(wi:TI):Prop:=
 ∀(pins:List (Addr×Obj)) (s:Shared) (σ:St) (H:Hp) (R:It->Hp->Prop),Inv X pins σ H s->wi σ H R ->
  wpAny (model X.prog X.w) X.A (eval iter X.env) (λv s1=>wpAny (model X.prog X.w) X.A (pyIter v) (PIE X pins σ tg R) X.xe s1) X.xe s
theorem kB{M:Model}{A:Around}{E:Value->Shared->Prop}{s:Shared}{tg:Expr}{it:Addr}{u:Value}{o:Obj}{n:String}{vs:Array Value}{Q:Unit->Shared->Prop}(ho:s.heap.get? it=some o)(hc:o.cls=.type n)(hd:o.data=.fields vs)
    (hn:["enumerate","zip","dict_itemiterator","dict_reverseitemiterator","odict_iterator","itertools.zip_longest","itertools.pairwise"].contains n=false) (hQ:Q () s):wpAny M A (letOwnedTupleGo tg (.ref it) u) Q E s:=by
  unfold letOwnedTupleGo
  cases tg<;>first
    |exact wpAny_pure hQ
    |(cases u<;>first
        |exact wpAny_pure hQ
        | (refine wpAny_bind (wpAny_load ho ?_)
           rw[hc,hd]
           show wpAny M A (if (["enumerate","zip","dict_itemiterator","dict_reverseitemiterator","odict_iterator","itertools.zip_longest","itertools.pairwise"].contains n&&vs[0]? == some (rawInt _))=true then _ else _) Q E s
           rw[if_neg (by intro h;rw[hn,Bool.false_and]at h;cases h)]
           exact wpAny_pure hQ))
def Itl(K:W.Frag)(a:Addr):It:=
 ⟨λi H=>∃xs x,SqL K H a xs/\xs[i]?=some x,λi H x H'=>H'=H/\∀xs,SqL K H a xs->xs[i]?=some x,λi H=>∃xs,SqL K H a xs/\xs.length<=i⟩
def Itt(K:W.Frag)(a:Addr):It:=
 ⟨λi H=>∃xs x,SqT K H a xs/\xs[i]?=some x,λi H x H'=>H'=H/\∀xs,SqT K H a xs->xs[i]?=some x,λi H=>∃xs,SqT K H a xs/\xs.length<=i⟩
def Itr(lo:Int)(n:Nat):It:=⟨λi _=>i<n,λi H x H'=>H'=H/\x=.int (lo+i),λi _=>n<=i⟩
theorem zB8{P:Program}{w:World}{K:W.Frag}{tg:Expr}(a it:Addr):fZ P w K tg (Itl K a) [it] it (λi h=>h.IsListIter it a i) where
 mem:=by simp
 obj:=λi h st b hb=>by
  have e:b=it:=by simpa using hb
  subst e
  obtain⟨o,e,c,d⟩:=st
  exact⟨o,e,λv z=>by rw[d]at z;cases z⟩
 keep:=λi h h' st k=>st.at λo e=>k it (by simp) o e
 item:=by
  intro X hP hw hK hc i pins s σ H E I hf st hg
  subst hP hw hK
  obtain⟨xs,x,hq,hx⟩:=hg
  obtain⟨its,rv,p,hz⟩:=I.list hq
  obtain⟨u,hu,ru⟩:=rv.get hx
  obtain⟨f0,f1,f2,f3,f4,f5⟩:=hf it (by simp)
  refine wpAny_pyNext_list_item st p.isList (x:=u) (by simpa using hu) λh' st' sb=>?_
  have I1:Inv X pins σ H {s with heap:=h'}:=I.turned (t':=s.toks) (λb o hb e=>(sb.2 b hb).trans e) f0 f1 f3 f4 f5
  obtain⟨o,e,c,d⟩:=id st'
  exact⟨u,rfl,kB (s:={s with heap:=h'}) e c d (by decide) ⟨x,H,I1,ru,⟨rfl,λys hy=>by rw[I.list_inj hy hq];exact hx⟩,st',λb hb=>(hf b hb).1⟩⟩
 done:=by
  intro X hP hw hK hc i pins s σ H E I hf st hg
  subst hP hw hK
  obtain⟨xs,hq,hx⟩:=hg
  obtain⟨its,rv,p,hz⟩:=I.list hq
  obtain⟨f0,f1,f2,f3,f4,f5⟩:=hf it (by simp)
  have hl:=rv.length
  exact wpAny_pyNext_list_end (I.ok.hd hc) st p.isList (by simp;omega) λh' eb=>⟨rfl,I.turned (t':=s.toks) (λb o hb e=>eb b o hb e) f0 f1 f3 f4 f5⟩
 self:=λ_ _ _ _ _ st h=>wpAny_pyIter_listiter st h
theorem zBI{P:Program}{w:World}{K:W.Frag}{tg:Expr}(a it:Addr):fZ P w K tg (Itt K a) [it] it (λi h=>h.IsTupleIter it a i) where
 mem:=by simp
 obj:=λi h st b hb=>by
  have e:b=it:=by simpa using hb
  subst e
  obtain⟨o,e,c,d⟩:=st
  exact⟨o,e,λv z=>by rw[d]at z;cases z⟩
 keep:=λi h h' st k=>st.at λo e=>k it (by simp) o e
 item:=by
  intro X hP hw hK hc i pins s σ H E I hf st hg
  subst hP hw hK
  obtain⟨xs,x,hq,hx⟩:=hg
  obtain⟨its,rv,p,hz⟩:=I.tuple hq
  obtain⟨u,hu,ru⟩:=rv.get hx
  obtain⟨f0,f1,f2,f3,f4,f5⟩:=hf it (by simp)
  refine wpAny_pyNext_tuple_item st (show s.heap.IsTuple a its.toArray from p) (x:=u) (by simpa using hu) λh' st' sb=>?_
  have I1:Inv X pins σ H {s with heap:=h'}:=I.turned (t':=s.toks) (λb o hb e=>(sb.2 b hb).trans e) f0 f1 f3 f4 f5
  obtain⟨o,e,c,d⟩:=id st'
  exact⟨u,rfl,kB (s:={s with heap:=h'}) e c d (by decide) ⟨x,H,I1,ru,⟨rfl,λys hy=>by rw[I.tuple_inj hy hq];exact hx⟩,st',λb hb=>(hf b hb).1⟩⟩
 done:=by
  intro X hP hw hK hc i pins s σ H E I hf st hg
  subst hP hw hK
  obtain⟨xs,hq,hx⟩:=hg
  obtain⟨its,rv,p,hz⟩:=I.tuple hq
  obtain⟨f0,f1,f2,f3,f4,f5⟩:=hf it (by simp)
  have hl:=rv.length
  exact wpAny_pyNext_tuple_end (I.ok.hd hc) st (show s.heap.IsTuple a its.toArray from p) (by simp;omega) λh' eb=>⟨rfl,I.turned (t':=s.toks) (λb o hb e=>eb b o hb e) f0 f1 f3 f4 f5⟩
 self:=λ_ _ _ _ _ st h=>wpAny_pyIter_tupleiter st h
theorem zBJ{P:Program}{w:World}{K:W.Frag}{tg:Expr}(it:Addr)(lo:Int)(n:Nat):fZ P w K tg (Itr lo n) [it] it (λi h=>IsRangeIter h it (lo+(i:Nat)*1) ((n:Int)-(i:Nat)) 1) where
 mem:=by simp
 obj:=λi h st b hb=>by
  have e:b=it:=by simpa using hb
  subst e
  exact⟨_,st,λv z=>by
   have z':Data.fields _=Data.cell v:=z
   cases z'⟩
 keep:=λi h h' st k=>k it (by simp) _ st
 item:=by
  intro X hP hw hK hc i pins s σ H E I hf st hg
  subst hP hw hK
  obtain⟨f0,f1,f2,f3,f4,f5⟩:=hf it (by simp)
  have W:=Walks.range (prog:=X.prog) (w:=X.w) (I.ok.hd hc) it lo 1 n
  refine W.item i s _ _ hg st λv h' tk hv st' kk=>?_
  obtain⟨t,rfl⟩:=hv
  have I1:Inv X pins σ H {s with heap:=h',toks:=tk}:=I.turned (λb o hb e=>kk b o (by simpa using hb) e) f0 f1 f3 f4 f5
  refine⟨_,rfl,kB (s:={s with heap:=h',toks:=tk}) (n:="range_iterator") st' rfl rfl (by decide) ⟨.int (lo+i),H,I1,⟨t,?_⟩,⟨rfl,rfl⟩,st',λb hb=>(hf b hb).1⟩⟩
  rw[Int.mul_one]
 done:=by
  intro X hP hw hK hc i pins s σ H E I hf st hg
  subst hP hw hK
  obtain⟨f0,f1,f2,f3,f4,f5⟩:=hf it (by simp)
  exact wpAny_pyNext_range_end (I.ok.hd hc) st (by have:n<=i:=hg;omega) λh' eb=>⟨rfl,I.turned (t':=s.toks) (λb o hb e=>eb b o hb e) f0 f1 f3 f4 f5⟩
 self:=λ_ _ _ _ _ st h=>wpAny_pyIter_rangeiter st h
end L2
namespace L2
open PySem PySem.Spec PyProof.Rows
section
variable{X:Cx}{tg:Expr}
theorem zC4{pins:List (Addr×Obj)}{σ:St}{H:Hp}{s:Shared}{R:It->Hp->Prop}{E:Value->Shared->Prop}{lo hi:Int}{t u v:Tok}{tk:Nat}(I:Inv X pins σ H s)(h1:-(2 ^ 62)<=lo)(h2:lo<2 ^ 62)(h3:-(2 ^ 62)<=hi)(h4:hi<2 ^ 62)
  (q:R (Itr lo (hi-lo).toNat) H):wpAny (model X.prog X.w) X.A (pyIter (.ref s.heap.objs.size)) (PIE X pins σ tg R) E {s with heap:=s.heap.push {cls:=.type "range",data:=.fields #[.int lo t,.int hi u,.int 1 v]},toks:=tk}:=by
 refine wpAny_pyIter_range (IsRange.new ..) (small_one h1 h2 h3 h4) ?_
 have I1:Inv X pins σ H {s with heap:=s.heap.push {cls:=.type "range",data:=.fields #[.int lo t,.int hi u,.int 1 v]},toks:=tk}:=I.kept λb o e=>Heap.get?_push_of_some _ e
 refine⟨(s.heap.push {cls:=.type "range",data:=.fields #[.int lo t,.int hi u,.int 1 v]}).objs.size,[(s.heap.push {cls:=.type "range",data:=.fields #[.int lo t,.int hi u,.int 1 v]}).objs.size],_,_,H,rfl,
  I1.kept (t':=tk) λb o e=>Heap.get?_push_of_some _ e,zBJ _ lo (hi-lo).toNat,?_,λb hb=>?_,q⟩
 ·have e1:lo+((0:Nat):Int)*1=lo:=by simp
  have e2:(((hi-lo).toNat:Nat):Int)-((0:Nat):Int)=Builtin.Range.rangeSize lo hi 1:=by rw[rangeSize_one];split<;>omega
  show IsRangeIter _ _ (lo+((0:Nat):Int)*1) ((((hi-lo).toNat:Nat):Int)-((0:Nat):Int)) 1
  rw[e1,e2]
  exact Heap.get?_push_size _ rfl
 ·have e:b=(s.heap.push {cls:=.type "range",data:=.fields #[.int lo t,.int hi u,.int 1 v]}).objs.size:=by simpa using hb
  subst e
  exact I1.fpOk (Nat.le_refl _) (I1.hok.fresh (Nat.le_refl _))
def zGq(ta:TA):TI:=λσ H R=>ta σ H λvs H1=>∃j:Int,vs=[.int j] /\ -(2 ^ 62)<=j/\j<2 ^ 62/\R (Itr 0 j.toNat) H1
theorem zCo{a:Expr}{ta:TA}{p pos:Pos}(hg:Gl X "range")(hm:X.mg "range"=none)(ha:PA X [a] ta)(hs:starEach [a] X.env=[(false,eval a X.env)]:=by rfl):PI X tg (.Call (.Name "range" p) [a] [] pos) (zGq ta):=by
 intro pins s σ H R I h
 refine Call_ (lD I hg hm boot_range (PyProof.Rows.callWith_type1 (thn (ha pos pins s σ H _ I h) λus s1 ⟨vs,H1,I1,r1,q1⟩=>?_) hs rfl))
 obtain⟨j,e,q1,q2,q⟩:=q1
 subst e
 cases r1 with
 |cons r rr=>
  cases rr
  obtain⟨t,rfl⟩:=r
  exact call_range_1 (zC4 I1 (by omega) (by omega) q1 q2 (by simpa using q))
def zGS(wi:TI)(g:TG)(tb:TS):TS:=λD σ H=>wi σ H λJ H1=>∃W:Nat->Nat->St->Hp->Prop,(∃m,W 0 m σ H1)/\∀i m σ H,W i m σ H ->
 (J.stop i H/\D.nx σ H)\/(J.go i H/\∃N:St->Hp->Prop,(∀σ' H',N σ' H'->∃m',m'<m/\W (i+1) m' σ' H')/\∀x H',J.yld i H x H'->g x σ H' λσ2 H2=>tb {D with nx:=N,ct:=N,bk:=D.nx} σ2 H2)
def jS(fp:List Addr)(h:Heap):List (Addr×Obj):=fp.filterMap λb=>(h.get? b).map λo=>(b,o)
theorem jF{fp:List Addr}{h:Heap}{b:Addr}{o:Obj}(hb:b∈fp)(e:h.get? b=some o):(b,o)∈jS fp h:=List.mem_filterMap.mpr ⟨b,hb,by rw[e];rfl⟩
theorem zCs{fp:List Addr}{h:Heap}{p:Addr×Obj}(hp:p∈jS fp h):p.1∈fp/\h.get? p.1=some p.2:=by
 obtain⟨b,hb,e⟩:=List.mem_filterMap.mp hp
 cases q:h.get? b with
 |none=>rw[q]at e;cases e
 |some o=>
  rw[q]at e
  have e':(b,o)=p:=Option.some.inj e
  subst e'
  exact⟨hb,q⟩
theorem Inv.pinned{pins:List (Addr×Obj)}{σ:St}{H:Hp}{s:Shared}{fp:List Addr}(I:Inv X pins σ H s)(hf:∀b∈fp,dB X pins H b)(ho:∀b∈fp,∃o,s.heap.get? b=some o/\∀v,o.data≠.cell v):Inv X (pins++jS fp s.heap) σ H s:=
 I.pins_of λp hp=>(List.mem_append.mp hp).elim (λz=>I.pin p (List.mem_append_right _ z)) λz=>by
  obtain⟨hb,e⟩:=zCs z
  obtain⟨f0,f1,f2,_⟩:=hf p.1 hb
  obtain⟨o,e',d⟩:=ho p.1 hb
  rw[e]at e';cases e'
  exact⟨e,f0,f1,f2,d⟩
theorem Inv.unpinned{pins pl:List (Addr×Obj)}{σ:St}{H:Hp}{s:Shared}(I:Inv X (pins++pl) σ H s):Inv X pins σ H s:=I.pins_of λp hp=>I.pin p (List.mem_append_right _ (List.mem_append_left _ hp))
theorem zE6{iter:Expr}{body:List Stmt}{wi:TI}{g:TG}{tb:TS}{pos:Pos}(hp:PassesOwn (model X.prog X.w) X.A X.env X.xe)(hc:X.calm=true)(hi:PI X tg iter wi)(hg:PG X tg g)(hb:PSs X body tb)
  (hs:∀x,foldedSetIterable iter X.env x=pure x:=by intro _;rfl):PS X (.For tg iter body [] pos) (zGS wi g tb):=by
 intro pins s σ H D I h
 refine wpAny_For (thn (hi pins s σ H _ I h) λv s1 h1=>thn h1 λitv s2 h2=>?_) hs
 obtain⟨it,fp,tn,J,H2,e,I2,T,st2,f2,W,⟨m0,w0⟩,turn⟩:=h2
 subst e
 -- what stays true of the iterator's objects through the loop
 have stat:∀{H':Hp},(∀b∈fp,H' b=none)->∀b∈fp,dB X pins H' b:=λhn b hb=>⟨hn b hb,(f2 b hb).2⟩
 refine codeAny_forLoop_any (λn s'=>∃i σ' H',Inv X pins σ' H' s'/\tn i s'.heap/\(∀b∈fp,H' b=none)/\W i n σ' H') ?_ m0 ⟨0,σ,H2,I2,st2,λb hb=>(f2 b hb).1,w0⟩
 rintro n s3 ⟨i,σ3,H3,I3,st3,fr3,w3⟩
 rcases turn i n σ3 H3 w3 with⟨stop,qn⟩|⟨go,N,hN,step⟩
 ·refine wpAny_passesOwn hp (thn (T.done X rfl rfl rfl hc i pins s3 σ3 H3 X.xe I3 (stat fr3) st3 stop) λr s4 ⟨hr,I4⟩=>?_)
  subst hr
  exact wpAny_execs_nil ⟨σ3,H3,I4,qn⟩
 ·refine wpAny_passesOwn hp (thn (T.item X rfl rfl rfl hc i pins s3 σ3 H3 X.xe I3 (stat fr3) st3 go) λr s4 ⟨u,hr,h4⟩=>?_)
  subst hr
  refine wpAny_passesOwn hp (thn h4 λ_ s5 ⟨x,H5,I5,r5,y5,st5,fr5⟩=>?_)
  have I5':=I5.pinned (stat fr5) (T.obj _ _ st5)
  refine wpAny_passesOwn hp (thn (hg _ s5 σ3 H5 x u _ I5' r5 (step x H5 y5)) λ_ s6 ⟨σ6,H6,I6,q6⟩=>?_)
  refine wpAny_passesOwn hp (thn (hb _ s6 σ6 H6 _ I6 q6) λf s7 q7=>?_)
  have again:∀{σ7:St} {H7:Hp},Inv X (pins++jS fp s5.heap) σ7 H7 s7->N σ7 H7->∃m,m<n/\∃i σ' H',Inv X pins σ' H' s7/\tn i s7.heap/\(∀b∈fp,H' b=none)/\W i m σ' H':=λ{σ7 H7} I7 n7=>by
   obtain⟨m',hm,w7⟩:=hN σ7 H7 n7
   refine⟨m',hm,i+1,σ7,H7,I7.unpinned,T.keep _ _ _ st5 λb hb o e=>(I7.pin (b,o) (List.mem_append_right _ (List.mem_append_right _ (jF hb e)))).1,λb hb=>?_,w7⟩
   obtain⟨o,e,d⟩:=T.obj _ _ st5 b hb
   exact(I7.pin (b,o) (List.mem_append_right _ (List.mem_append_right _ (jF hb e)))).2.1
  cases f with
  |next=>obtain⟨σ7,H7,I7,n7⟩:=q7;exact again I7 n7
  |cont=>obtain⟨σ7,H7,I7,n7⟩:=q7;exact again I7 n7
  |brk=>obtain⟨σ7,H7,I7,q7⟩:=q7;exact⟨σ7,H7,I7.unpinned,q7⟩
  |ret v=>obtain⟨x7,σ7,H7,I7,r7,q7⟩:=q7;exact⟨x7,σ7,H7,I7.unpinned,r7,q7⟩
end
end L2
namespace L2
open PySem PySem.Spec PyProof.Rows
abbrev R2:=V->V->Hp->VK->Prop
def OpR(X:Cx)(f:Value->Value->Sem Value)(r:R2):Prop:=
 ∀(pins:List (Addr×Obj)) (s:Shared) (σ:St) (H:Hp) (x y:V) (v u:Value) (Q:VK),Inv X pins σ H s->RelV x v->RelV y u->r x y H Q ->
  wpAny (model X.prog X.w) X.A (f v u) (EP X pins σ Q) X.xe s
def UnR(X:Cx)(f:Value->Sem Value)(r:V->Hp->VK->Prop):Prop:=
 ∀(pins:List (Addr×Obj)) (s:Shared) (σ:St) (H:Hp) (x:V) (v:Value) (Q:VK),Inv X pins σ H s->RelV x v->r x H Q ->
  wpAny (model X.prog X.w) X.A (f v) (EP X pins σ Q) X.xe s
def CallR(X:Cx)(f:Value)(r:List V->Hp->VK->Prop):Prop:=
 ∀(pins:List (Addr×Obj)) (s:Shared) (σ:St) (H:Hp) (xs:List V) (us:List Value) (Q:VK),Inv X pins σ H s->Vals xs us->r xs H Q ->
  wpAny (model X.prog X.w) X.A (call f us) (EP X pins σ Q) X.xe s
def tOp(r:R2)(ta tb:TE):TE:=λσ H Q=>ta σ H λx H1=>tb σ H1 λy H2=>r x y H2 Q
def tUn(r:V->Hp->VK->Prop)(ta:TE):TE:=λσ H Q=>ta σ H λx H1=>r x H1 Q
def rI(C:Int->Int->Prop)(g:Int->Int->V):R2:=λx y H Q=>∃i j,x=.int i/\y=.int j/\C i j/\Q (g i j) H
def rI0(g:Int->Int->V):R2:=λx y H Q=>∃i j,x=.int i/\y=.int j/\Q (g i j) H
def rU(g:Int->V):V->Hp->VK->Prop:=λx H Q=>∃i,x=.int i/\Q (g i) H
section
variable{X:Cx}{a b c:Expr}{ta tb tc:TE}{pos:Pos}
theorem vM(ha:PE X a ta)(hb:PE X b tb){pins:List (Addr×Obj)}{s:Shared}{σ:St}{H:Hp}{R:V->V->Hp->Prop}(I:Inv X pins σ H s)
  (h:ta σ H λx H1=>tb σ H1 λy H2=>R x y H2) {Q:Value->Shared->Prop} {f:Value->Value->Sem Value}
  (hf:∀v u s2 x y H2,Inv X pins σ H2 s2->RelV x v->RelV y u->R x y H2->wpAny (model X.prog X.w) X.A (f v u) Q X.xe s2):
  wpAny (model X.prog X.w) X.A (eval a X.env) (λv s₁=>wpAny (model X.prog X.w) X.A (eval b X.env) (λu s₂=>wpAny (model X.prog X.w) X.A (f v u) Q X.xe s₂) X.xe s₁) X.xe s:=by
 refine thn (ha pins s σ H _ I h) λv s1 ⟨x,H1,I1,r1,q1⟩=>?_
 refine thn (hb pins s1 σ H1 _ I1 q1) λu s2 ⟨y,H2,I2,r2,q2⟩=>?_
 exact hf v u s2 x y H2 I2 r1 r2 q2
theorem cA{op:Operator}{r:R2}(ho:OpR X (binaryOp op) r)(ha:PE X a ta)(hb:PE X b tb):PE X (.BinOp a op b pos) (tOp r ta tb):=by
 intro pins s σ H Q I h
 exact wpAny_BinOp (vM ha hb I h λv u s2 x y H2 I2 rx ry q=>ho pins s2 σ H2 x y v u Q I2 rx ry q)
theorem zAG{op:UnaryOp}{r:V->Hp->VK->Prop}(ho:UnR X (unaryOp op) r)(ha:PE X a ta):PE X (.UnaryOp op a pos) (tUn r ta):=by
 intro pins s σ H Q I h
 exact UnaryOp_ (thn (ha pins s σ H _ I h) λv s1 ⟨x,H1,I1,r1,q1⟩=>ho pins s1 σ H1 x v Q I1 r1 q1)
theorem opI{f:Value->Value->Sem Value}{C:Int->Int->Prop}{g:Int->Int->Int}
  (rule:∀(i j:Int) (t u:Tok) (s:Shared) (Q:Value->Shared->Prop) (E:Value->Shared->Prop),C i j->Q (.int (g i j) s.toks) {s with toks:=s.toks+1}->wpAny (model X.prog X.w) X.A (f (.int i t) (.int j u)) Q E s):
  OpR X f (rI C λi j=>.int (g i j)):=by
 intro pins s σ H x y v u Q I rx ry h
 obtain⟨i,j,rfl,rfl,hc,q⟩:=h
 obtain⟨t,rfl⟩:=rx
 obtain⟨t',rfl⟩:=ry
 exact rule i j t t' s _ _ hc ⟨.int (g i j),H,I.tok _,⟨_,rfl⟩,q⟩
theorem zA2{f:Value->Value->Sem Value}{g:Int->Int->Int}
  (rule:∀(i j:Int) (t u:Tok) (s:Shared) (Q:Value->Shared->Prop) (E:Value->Shared->Prop),Q (.int (g i j) s.toks) {s with toks:=s.toks+1}->wpAny (model X.prog X.w) X.A (f (.int i t) (.int j u)) Q E s):
  OpR X f (rI0 λi j=>.int (g i j)):=by
 intro pins s σ H x y v u Q I rx ry h
 obtain⟨i,j,rfl,rfl,q⟩:=h
 obtain⟨t,rfl⟩:=rx
 obtain⟨t',rfl⟩:=ry
 exact rule i j t t' s _ _ ⟨.int (g i j),H,I.tok _,⟨_,rfl⟩,q⟩
theorem pN{f:Value->Value->Sem Value}{g:Int->Int->Bool}
  (rule:∀(i j:Int) (t u:Tok) (s:Shared) (Q:Value->Shared->Prop) (E:Value->Shared->Prop),Q (.bool (g i j)) s->wpAny (model X.prog X.w) X.A (f (.int i t) (.int j u)) Q E s):
  OpR X f (rI0 λi j=>.bl (g i j)):=by
 intro pins s σ H x y v u Q I rx ry h
 obtain⟨i,j,rfl,rfl,q⟩:=h
 obtain⟨t,rfl⟩:=rx
 obtain⟨t',rfl⟩:=ry
 exact rule i j t t' s _ _ ⟨.bl (g i j),H,I,rfl,q⟩
def zHZ(i j:Int):Prop:=0<j/\j<1073741824
def zBc(i j:Int):Prop:=0<=j/\j<=1000000/\i.natAbs<2 ^ 64
def CMul(i j:Int):Prop:=(-(2 ^ 64)<i/\i<2 ^ 64)\/(-(2 ^ 64)<j/\j<2 ^ 64)
theorem CMul.ok{i j:Int}(h:CMul i j):IntMulOk i j:=by
 rcases h with⟨h1,h2⟩|⟨h1,h2⟩
 ·exact .of_left (intBits_le_64 h1 h2)
 ·exact .of_right (intBits_le_64 h1 h2)
theorem op_add:OpR X (binaryOp .Add) (rI0 λi j=>.int (i+j)):=zA2 λ_ _ _ _ _ _ _ q=>add_int q
theorem zFl:OpR X (binaryOp .Sub) (rI0 λi j=>.int (i-j)):=zA2 λ_ _ _ _ _ _ _ q=>sub_int q
theorem op_mul:OpR X (binaryOp .Mult) (rI CMul λi j=>.int (i*j)):=opI λ_ _ _ _ _ _ _ hc q=>mul_int q hc.ok
theorem zD:OpR X (binaryOp .FloorDiv) (rI zHZ λi j=>.int (i / j)):=opI λi j _ _ _ _ _ hc q=>by
 have h1:(0:Int)<j:=hc.1
 have h2:j<1073741824:=hc.2
 exact floordiv_int (by omega) (by rw[Int.fdiv_eq_ediv_of_nonneg i (by omega)];exact q) (.inl (PyProof.noPylong_small (by omega)))
theorem gH:OpR X (binaryOp .Mod) (rI (λ_ j=>0<j) λi j=>.int (i % j)):=opI λi j _ _ _ _ _ hc q=>by
 have h1:(0:Int)<j:=hc
 exact mod_int' (by omega) (by rw[Int.fmod_eq_emod_of_nonneg i (by omega)];exact q)
theorem zAs:OpR X (binaryOp .Pow) (rI zBc λi j=>.int (i ^ j.toNat)):=opI λ_ _ _ _ _ _ _ hc q=>pow_int_small hc.1 hc.2.1 hc.2.2 q
theorem unI{f:Value->Sem Value}{g:Int->Int}
  (rule:∀(i:Int) (t:Tok) (s:Shared) (Q:Value->Shared->Prop) (E:Value->Shared->Prop),Q (.int (g i) s.toks) {s with toks:=s.toks+1}->wpAny (model X.prog X.w) X.A (f (.int i t)) Q E s):
  UnR X f (rU λi=>.int (g i)):=by
 intro pins s σ H x v Q I rx h
 obtain⟨i,rfl,q⟩:=h
 obtain⟨t,rfl⟩:=rx
 exact rule i t s _ _ ⟨.int (g i),H,I.tok _,⟨_,rfl⟩,q⟩
theorem zW:UnR X (unaryOp .USub) (rU λi=>.int (-i)):=unI λ_ _ _ _ _ q=>neg_int q
end
section
variable{X:Cx}{a b c:Expr}{ta tb tc:TE}{pos:Pos}
theorem oH{pins:List (Addr×Obj)}{σ:St}{H:Hp}{s:Shared}{Q:VK}{k k':Bool}(I:Inv X pins σ H s)(q:Q (.bl k) H)(e:k=k'):EP X pins σ Q (.bool k') s:=by
 subst e
 exact⟨.bl k,H,I,rfl,q⟩
theorem op_lt:OpR X (compareOp .Lt) (rI0 λi j=>.bl (decide (i<j))):=pN λ_ _ _ _ _ _ _ q=>lt_int q
theorem zGi:OpR X (compareOp .LtE) (rI0 λi j=>.bl (decide (i<=j))):=pN λ_ _ _ _ _ _ _ q=>le_int q
theorem zGj:OpR X (compareOp .Gt) (rI0 λi j=>.bl (decide (j<i))):=pN λ_ _ _ _ _ _ _ q=>gt_int q
theorem zGk:OpR X (compareOp .GtE) (rI0 λi j=>.bl (decide (j<=i))):=pN λ_ _ _ _ _ _ _ q=>ge_int q
theorem zCq:OpR X (compareOp .Lt) (λx y H Q=>∃i j,x=.str i/\y=.str j/\Q (.bl (decide (i.cps.toList<j.cps.toList))) H):=by
 intro pins s σ H x y v u Q I rx ry h
 obtain⟨i,j,rfl,rfl,q⟩:=h
 obtain⟨t,rfl⟩:=rx
 obtain⟨t',rfl⟩:=ry
 exact lt_str (oH I q rfl)
theorem op_in_str:OpR X (compareOp .In) (λx y H Q=>∃i j,x=.str i/\y=.str j/\Q (.bl (!(Builtin.Str.occurrences j i 0 j.length 1).isEmpty)) H):=by
 intro pins s σ H x y v u Q I rx ry h
 obtain⟨i,j,rfl,rfl,q⟩:=h
 obtain⟨t,rfl⟩:=rx
 obtain⟨t',rfl⟩:=ry
 exact in_str (oH I q rfl)
theorem op_isN:OpR X (compareOp .Is) (λx y H Q=>y=.non/\Q (.bl (decide (x=.non))) H):=by
 intro pins s σ H x y v u Q I rx ry h
 obtain⟨rfl,q⟩:=h
 cases ry
 refine is_none_gen (oH I q ?_)
 cases x<;>first
  |(cases rx;rfl)
  |(obtain⟨t,rfl⟩:=rx;rfl)
theorem op_notN:OpR X (compareOp .IsNot) (λx y H Q=>y=.non/\Q (.bl (!decide (x=.non))) H):=by
 intro pins s σ H x y v u Q I rx ry h
 obtain⟨rfl,q⟩:=h
 cases ry
 refine isnot_none_gen (oH I q ?_)
 cases x<;>first
  |(cases rx;rfl)
  |(obtain⟨t,rfl⟩:=rx;rfl)
theorem OpR.or{f:Value->Value->Sem Value}{r r':R2}(h:OpR X f r)(h':OpR X f r'):OpR X f (λx y H Q=>r x y H Q\/r' x y H Q):=by
 intro pins s σ H x y v u Q I rx ry q
 rcases q with q|q
 ·exact h pins s σ H x y v u Q I rx ry q
 ·exact h' pins s σ H x y v u Q I rx ry q
theorem jT(b:Expr){op:CmpOp}(h:op≠.In:=by decide)(h2:op≠.NotIn:=by decide):behindInMarks op b=false:=by
 have e1:(op==CmpOp.In)=false:=by cases op<;>first|rfl|exact absurd rfl h
 have e2:(op==CmpOp.NotIn)=false:=by cases op<;>first|rfl|exact absurd rfl h2
 cases b<;>simp[behindInMarks,e1,e2]
theorem zD4{op:CmpOp}{r:R2}(ho:OpR X (compareOp op) r)(ha:PE X a ta)(hb:PE X b tb)(hm:behindInMarks op b=false):PE X (.Compare a [op] [b] pos) (tOp r ta tb):=by
 intro pins s σ H Q I h
 exact wpAny_Compare1 (vM ha hb I h λv u s2 x y H2 I2 rx ry q=>ho pins s2 σ H2 x y v u Q I2 rx ry q) hm
def zAC(t:TE):TT:=λσ H Q=>t σ H λx H'=>∃k,x=.bl k/\Q k H'
theorem sL{op:CmpOp}{r:R2}(ho:OpR X (compareOp op) r)(ha:PE X a ta)(hb:PE X b tb)(hm:behindInMarks op b=false):PT X (.Compare a [op] [b] pos) (zAC (tOp r ta tb)):=by
 intro pins s σ H Q I h
 refine wpAny_isTrue_Compare1 (thn (ha pins s σ H _ I h) λv s1 ⟨x,H1,I1,r1,q1⟩=>thn (hb pins s1 σ H1 _ I1 q1) λu s2 ⟨y,H2,I2,r2,q2⟩=>
  thn (ho pins s2 σ H2 x y v u _ I2 r1 r2 q2) λc s3 ⟨z,H3,I3,r3,k,e,q3⟩=>?_) hm
 subst e
 cases r3
 exact wpAny_truthy_bool ⟨H3,I3,q3⟩
def zAb(r r':R2)(ta tb tc:TE):TE:=λσ H Q=>ta σ H λx H1=>tb σ H1 λy H2=>r x y H2 λz H3=>∃k,z=.bl k /\
 (if k=true then tc σ H3 λw' H4=>r' y w' H4 Q else Q (.bl false) H3)
theorem zDe{op op':CmpOp}{r r':R2}(ho:OpR X (compareOp op) r)(ho':OpR X (compareOp op') r')(ha:PE X a ta)(hb:PE X b tb)(hc:PE X c tc)
  (hm:lastMarks [op,op'] [b,c]=false:=by with_unfolding_all rfl):PE X (.Compare a [op,op'] [b,c] pos) (zAb r r' ta tb tc):=by
 intro pins s σ H Q I h
 refine Compare_chain (thn (ha pins s σ H _ I h) λv s1 ⟨x,H1,I1,r1,q1⟩=>chain_link (thn (hb pins s1 σ H1 _ I1 q1) λu s2 ⟨y,H2,I2,r2,q2⟩=>
  thn (ho pins s2 σ H2 x y v u _ I2 r1 r2 q2) λd s3 ⟨z,H3,I3,r3,k,e,q3⟩=>?_)) hm
 subst e
 cases r3
 refine wpAny_truthy_bool ?_
 cases k with
 |false=>exact ite_ff ⟨.bl false,H3,I3,rfl,q3⟩
 |true=>exact ite_tt (chain_last (thn (hc pins s3 σ H3 _ I3 q3) λw' s4 ⟨z',H4,I4,r4,q4⟩=>ho' pins s4 σ H4 y z' u w' Q I4 r2 r4 q4))
theorem jU:(sizeLine:Nat)<2 ^ 63:=by rw[sizeLine_eq];decide
theorem op_add_str:OpR X (binaryOp .Add) (λx y H Q=>∃i j,x=.str i/\y=.str j/\i.length+j.length<=sizeLine/\Q (.str (i++j)) H):=by
 intro pins s σ H x y v u Q I rx ry h
 obtain⟨i,j,rfl,rfl,hz,q⟩:=h
 obtain⟨t,rfl⟩:=rx
 obtain⟨t',rfl⟩:=ry
 exact add_str (λt' tk=>⟨.str (i++j),H,I.tok _,⟨_,rfl⟩,q⟩) hz
theorem cY{x:V}{us:List Value}(r:Vals [x] us):∃u,us=[u]/\RelV x u:=by
 cases r with
 |cons r1 r2=>cases r2;exact⟨_,rfl,r1⟩
theorem tV{x y:V}{us:List Value}(r:Vals [x,y] us):∃u w',us=[u,w']/\RelV x u/\RelV y w':=by
 cases r with
 |cons r1 r2=>
  cases r2 with
  |cons r3 r4=>cases r4;exact⟨_,_,rfl,r1,r3⟩
theorem zCP(hc:X.calm=true):CallR X (.builtin "max") (λxs H Q=>∃i j,xs=[.int i,.int j]/\Q (.int (if j > i then j else i)) H):=by
 intro pins s σ H xs us Q I r h
 obtain⟨i,j,rfl,q⟩:=h
 obtain⟨u,w',rfl,⟨t,rfl⟩,⟨t',rfl⟩⟩:=tV r
 refine max_two_ints (I.ok.hd hc) λh' tk k=>⟨_,H,I.kept k,?_,q⟩
 by_cases hj:j > i
 ·rw[if_pos hj,if_pos hj];exact⟨_,rfl⟩
 ·rw[if_neg hj,if_neg hj];exact⟨_,rfl⟩
theorem zCN(hc:X.calm=true):CallR X (.builtin "min") (λxs H Q=>∃i j,xs=[.int i,.int j]/\Q (.int (if j<i then j else i)) H):=by
 intro pins s σ H xs us Q I r h
 obtain⟨i,j,rfl,q⟩:=h
 obtain⟨u,w',rfl,⟨t,rfl⟩,⟨t',rfl⟩⟩:=tV r
 refine min_two_ints (I.ok.hd hc) λh' tk k=>⟨_,H,I.kept k,?_,q⟩
 by_cases hj:j<i
 ·rw[if_pos hj,if_pos hj];exact⟨_,rfl⟩
 ·rw[if_neg hj,if_neg hj];exact⟨_,rfl⟩
end
end L2
namespace L2
open PySem PySem.Spec PyProof.Rows
theorem RelO.some_of{v:V}{o:Option Value}(r:RelO (some v) o):∃u,o=some u/\RelV v u:=by
 cases o with
 |none=>exact(show False from r).elim
 |some u=>exact⟨u,rfl,r⟩
end L2
namespace L2
open PySem PySem.Spec PyProof.Rows
structure Room (k:Nat) (A:Around):Prop where
 hd:A.handled=none
 dp:A.depth+3*k+5<recursionLimit
 un:A.units+16*k+200<cLine
 gd:A.guards=some []
theorem Room.mono{j k:Nat}{A:Around}(r:Room k A)(h:j<=k):Room j A:=⟨r.hd,by have:=r.dp;omega,by have:=r.un;omega,r.gd⟩
theorem Room.deeper{k:Nat}{A:Around}(r:Room (k+1) A)(env:Env):Room k (A.deeper env):=
 ⟨r.hd,by have:=r.dp;show A.depth+1+3*k+5<_;omega,by have:=r.un;show A.units+3+16*k+200<_;omega,r.gd⟩
theorem Room.depth{k:Nat}{A:Around}(r:Room k A):A.depth<recursionLimit:=by have:=r.dp;omega
theorem Room.units{k:Nat}{A:Around}(r:Room k A):A.units+64<cLine:=by have:=r.un;omega
def oW:TA:=λ_ H Q=>Q [] H
def tX(ta:TE)(tr:TA):TA:=λσ H Q=>ta σ H λx H1=>tr σ H1 λxs H2=>Q (x::xs) H2
section
variable{X:Cx}{e:Expr}{es:List Expr}{te:TE}{t:TA}{pos:Pos}
theorem eE:PA X [] oW:=λ_ _ _ _ H Q I h=>Calls.spliced_nil ⟨[],H,I,.nil,h⟩
theorem zD7(ha:PE X e te)(hr:PA X es t)(hs:starEach (e::es) X.env=(false,eval e X.env)::starEach es X.env:=by rfl):PA X (e::es) (tX te t):=by
 intro pos pins s σ H Q I h
 rw[hs]
 show wpAny _ _ (spliced ((false,eval e X.env)::backTo pos (starEach es X.env))) _ _ s
 refine Calls.spliced_cons (thn (ha pins s σ H _ I h) λu s1 ⟨x,H1,I1,r1,q1⟩=>?_)
 exact thn (hr pos pins s1 σ H1 _ I1 q1) λus s2 ⟨xs,H2,I2,r2,q2⟩=>⟨x::xs,H2,I2,.cons r1 r2,q2⟩
def zGM(t:TA):TE:=λσ H Q=>t σ H λxs H1=>xs.length<=sizeLine/\∀p,H1 p=none->Q (.ref p) (upd H1 p (.tup xs))
def zAR(t:TA):TE:=λσ H Q=>t σ H λxs H1=>xs.length<=sizeLine/\∀p,H1 p=none->Q (.ref p) (upd H1 p (.lst xs))
theorem zFc{x1}(h:PA X es t):PE X (.Tuple es x1 pos) (zGM t):=by
 intro pins s σ H Q I hq
 refine wpAny_Tuple_spliced (thn (h pos pins s σ H _ I hq) λus s1 ⟨xs,H1,I1,r,z,q⟩=>⟨by rw[<-r.length];exact z,?_⟩)
 have hf:H1 s1.heap.objs.size=none:=I1.hok.fresh (Nat.le_refl _)
 refine⟨.ref s1.heap.objs.size,upd H1 s1.heap.objs.size (.tup xs),I1.laid (t':=s1.toks) (λb u e=>Heap.get?_push_of_some _ e) (Nat.le_refl _) ?_,rfl,q _ hf⟩
 exact⟨z,us,r,⟨_,Heap.get?_push_size _ rfl,rfl,_,rfl⟩⟩
theorem zAo(h:PA X es t):PE X (.List es pos) (zAR t):=by
 intro pins s σ H Q I hq
 refine wpAny_List_spliced (thn (h pos pins s σ H _ I hq) λus s1 ⟨xs,H1,I1,r,z,q⟩=>⟨by rw[<-r.length];exact z,?_⟩)
 have hf:H1 s1.heap.objs.size=none:=I1.hok.fresh (Nat.le_refl _)
 refine⟨.ref s1.heap.objs.size,upd H1 s1.heap.objs.size (.lst xs),I1.laid (t':=s1.toks) (λb u e=>Heap.get?_push_of_some _ e) (Nat.le_refl _) ?_,rfl,q _ hf⟩
 exact⟨z,us,0,r,Heap.get?_push_size _ rfl⟩
end
abbrev Sp:=List V->Hp->VK->XK->Prop
abbrev CXT:=List Env->Hp->Shared->XK->Value->Shared->Prop
structure pS (P:Program) (w:World) (K:W.Frag) (mg:Str->Option Value) (base:Heap) (A:Around) (outer:List Env) (s:Shared) (H:Hp):Prop where
 frames:A.frames=some outer
 mod:Mod K mg base
 bs:∀b o,base.get? b=some o->s.heap.get? b=some o/\H b=none
 bsz:base.objs.size<=s.heap.objs.size
 funs:s.heap.FunFrames base outer
 frf:∀b∈frs outer,H b=none
 hok:HOk P w H s.heap
 bare:AllBare s.gens
def CE(outer:List Env)(P:Program)(w:World)(H:Hp)(s:Shared)(Q:VK)(u:Value)(s':Shared):Prop:=
 ∃v H',s'.os=s.os/\AllBare s'.gens/\Un (frs outer) [] H H' s.heap s'.heap/\HOk P w H' s'.heap/\RelV v u/\Q v H'
def CR(CX:CXT)(outer:List Env)(P:Program)(w:World)(H:Hp)(s:Shared)(Q:VK)(E:XK)(r:Result)(s':Shared):Prop:=
 match r with
 |.ok (.ret u)=>CE outer P w H s Q u s'
 |.ok _=>False
 |.error e=>CX outer H s E e s'
structure FnOk (P:Program) (w:World) (K:W.Frag) (mg:Str->Option Value) (base:Heap) (CX:CXT) (k:Nat) (f:Addr) (fd:FuncData) (ps:List Str) (sp:Sp):Prop where
 len:∀vs H Q E,sp vs H Q E->vs.length=ps.length
 run:∀(A:Around) (outer:List Env) (s:Shared) (H:Hp) (args:Args) (us:List Value) (vs:List V) (Q:VK) (E:XK),Room k A->pS P w K mg base A outer s H->BindsTo s fd args (ps.zip us)->Vals vs us->sp vs H Q E ->
  codeAny (model P w) A (.call (.ref f) args) (CR CX outer P w H s Q E) s
theorem FnOk.imp{P:Program}{w:World}{K:W.Frag}{mg:Str->Option Value}{base:Heap}{CX:CXT}{k:Nat}{f:Addr}{fd:FuncData}{ps:List Str}{sp sp':Sp}(F:FnOk P w K mg base CX k f fd ps sp)
  (h:∀vs H Q E,sp' vs H Q E->sp vs H Q E):FnOk P w K mg base CX k f fd ps sp':=
 ⟨λvs H Q E q=>F.len vs H Q E (h _ _ _ _ q),λA outer s H args us vs Q E hr he hb hv hs=>F.run A outer s H args us vs Q E hr he hb hv (h _ _ _ _ hs)⟩
section
variable{X:Cx}{pins:List (Addr×Obj)}{σ:St}{H:Hp}{s s':Shared}
theorem Inv.env0(I:Inv X pins σ H s):pS X.prog X.w X.K X.mg X.base X.A X.stack s H:=
 ⟨I.ok.frames,I.ok.mod,I.bs,Nat.le_trans I.ok.bsz I.sz,I.stack,I.stkFree,I.hok,I.bare⟩
theorem Inv.after{Q:VK}{u:Value}(I:Inv X pins σ H s)(h:CE X.stack X.prog X.w H s Q u s'):EP X pins σ Q u s':=by
 obtain⟨v,H',os,bare,un,hok,r,q⟩:=h
 obtain⟨hh,g,d,t,os'⟩:=s'
 obtain rfl:os'=s.os:=os
 exact⟨v,H',I.call (h':=hh) (g':=g) (d':=d) (t':=t) (ch:=[]) un hok bare (λb z=>absurd z (by simp)),r,q⟩
end
def jW(sp:Sp)(dvs:List V)(E:XK)(t:TA):TE:=λσ H Q=>t σ H λvs H1=>sp (vs++dvs) H1 Q E
def Binds(K:W.Frag)(fd:FuncData)(ps:List Str)(ds:List Value):Prop:=
 ∀(s:Shared) (us:List Value),K.In s.heap->(us++ds).length=ps.length->BindsTo s fd ⟨us,[]⟩ (ps.zip (us++ds))
theorem Binds.all{K:W.Frag}{fd:FuncData}{ps:List Str}(h:∀us:List Value,us.length=ps.length->bindArgs fd ⟨us,[]⟩=pure (ps.zip us)):Binds K fd ps []:=λs us _ hl=>by
 rw[List.append_nil]at hl ⊢
 exact .of_eq (h us hl)
def oI(CX:CXT)(X:Cx)(E:XK):Prop:=∀(pins:List (Addr×Obj)) (σ:St) (H:Hp) (s:Shared) (e:Value) (s':Shared),Inv X pins σ H s->CX X.stack H s E e s'->X.xe e s'
section
variable{X:Cx}{CX:CXT}{k:Nat}{f C:Addr}{fd:FuncData}{ps:List Str}{sp:Sp}{dvs:List V}{ds:List Value}{E:XK}{x m:Str}{p pos apos:Pos}{e o:Expr}{es:List Expr}{ta:TE}{t:TA}
theorem zAi{pins:List (Addr×Obj)}{σ:St}{H:Hp}{s:Shared}{Q:VK}{us:List Value}{vs:List V}(F:FnOk X.prog X.w X.K X.mg X.base CX k f fd ps sp)(hr:Room k X.A)(hb:Binds X.K fd ps ds)(hd:Vals dvs ds)(hx:oI CX X E)
  (I:Inv X pins σ H s) (r:Vals vs us) (h:sp (vs++dvs) H Q E):wpAny (model X.prog X.w) X.A (call (.ref f) us) (EP X pins σ Q) X.xe s:=by
 have r2:Vals (vs++dvs) (us++ds):=r.append hd
 have hl:(us++ds).length=ps.length:=by rw[<-r2.length];exact F.len _ _ _ _ h
 refine wpAny_call (codeAny_mono (F.run X.A X.stack s H ⟨us,[]⟩ (us++ds) (vs++dvs) Q E hr I.env0 (hb s us I.kIn hl) r2 h) λr s' hq=>?_)
 cases r with
 |error e=>exact hx pins σ H s e s' I hq
 |ok fl=>
  cases fl with
  |ret u=>exact I.after hq
  |next=>exact False.elim hq
  |brk=>exact False.elim hq
  |cont=>exact False.elim hq
theorem zD5(F:FnOk X.prog X.w X.K X.mg X.base CX k f fd ps sp)(hr:Room k X.A)(hg:Gl X x)(hm:X.mg x=some (.ref f))(hk:W.keepIn X.K (.ref f)=true)(hb:Binds X.K fd ps ds)(hd:Vals dvs ds)(hx:oI CX X E)
  (ha:PA X (e::es) t) (hdb:(x==("__debug__":Str))=false:=by decide) (he:starEach (e::es) X.env=(false,eval e X.env)::starEach es X.env:=by rfl) (hpl:(backTo pos (starEach es X.env)).any (·.1)=false:=by rfl):
  PE X (.Call (.Name x p) (e::es) [] pos) (jW sp dvs E t):=by
 intro pins s σ H Q I h
 refine wpAny_Call_Name_kw (tE I hg hm ?_ hdb)
 refine PySem.W.callWith_K (h₀:=X.base) I.ok.mod.kin hk (thn (ha pos pins s σ H _ I h) λus s1 ⟨vs,H1,I1,r,q⟩=>⟨I1.kIn,?_⟩) he hpl
 exact zAi F hr hb hd hx I1 r q
theorem zDf(F:FnOk X.prog X.w X.K X.mg X.base CX k f fd ps sp)(hr:Room k X.A)(hg:Gl X x)(hm:X.mg x=some (.ref f))(hk:W.keepIn X.K (.ref f)=true)(hb:Binds X.K fd ps ds)(hd:Vals dvs ds)(hx:oI CX X E)
  (hdb:(x==("__debug__":Str))=false:=by decide):PE X (.Call (.Name x p) [] [] pos) (jW sp dvs E oW):=by
 intro pins s σ H Q I h
 refine wpAny_Call_Name_kw (tE I hg hm ?_ hdb)
 exact PySem.W.callWith_K0 I.kIn hk (zAi (us:=[]) F hr hb hd hx I .nil h)
end
structure bD (N P:List Str) (sc:Scope):Prop where
 kind:sc.kind=.function
 co:sc.isCoroutine=false
 gen:sc.isGenerator=false
 nd:N.Nodup
 pre:N.take P.length=P
 par:∀x∈P,sc.names.lookup x=some .local\/sc.names.lookup x=some .cell
 nofree:∀y∈sc.names,y.2≠.free
theorem fsc{N P:List Str}{sc:Scope}(h:sc.kind=.function/\sc.isCoroutine=false/\sc.isGenerator=false/\N.Nodup/\N.take P.length=P/\(∀x∈P,sc.names.lookup x=some .local\/sc.names.lookup x=some .cell)/\∀y∈sc.names,y.2≠.free):bD N P sc:=⟨h.1,h.2.1,h.2.2.1,h.2.2.2.1,h.2.2.2.2.1,h.2.2.2.2.2.1,h.2.2.2.2.2.2⟩
theorem xI{kindOf:Str->Option NameKind}{x:Str}:∀{binds:List (Str×Value)}{m:Str->Option Value},(∀v,(x,v)∉binds)->bindL kindOf binds m x=m x
 |[],_,_=>rfl
 |(n,v)::r,m,h=>by
  unfold bindL
  rw[xI λw hw=>h w (List.mem_cons_of_mem _ hw)]
  split
  ·have:x≠n:=by rintro rfl;exact h v List.mem_cons_self
   simp[this]
  ·rfl
theorem xK{kindOf:Str->Option NameKind}{x:Str}:∀{binds:List (Str×Value)}{m:Str->Option Value},(∀v,(x,v)∉binds)->bindC kindOf binds m x=m x
 |[],_,_=>rfl
 |(n,v)::r,m,h=>by
  unfold bindC
  rw[xK λw hw=>h w (List.mem_cons_of_mem _ hw)]
  split
  ·rfl
  ·have:x≠n:=by rintro rfl;exact h v List.mem_cons_self
   simp[this]
theorem xJ{kindOf:Str->Option NameKind}{x:Str}{v:Value}:∀{P:List Str}{vs:List Value}{i:Nat}{m:Str->Option Value},P.Nodup->P[i]?=some x->vs[i]?=some v->kindOf x=some .local ->
  bindL kindOf (P.zip vs) m x=some v
 |[],_,_,_,_,h,_,_=>by simp at h
 |_::_,[],_,_,_,_,h,_=>by simp at h
 |p::P,w::vs,0,m,nd,h1,h2,hk=>by
  simp at h1 h2;subst h1;subst h2
  show bindL kindOf ((p,w)::P.zip vs) m p=_
  unfold bindL
  rw[xI λv hv=>(List.nodup_cons.mp nd).1 (List.of_mem_zip hv).1,if_pos hk]
  simp
 |p::P,w::vs,i+1,m,nd,h1,h2,hk=>by
  show bindL kindOf ((p,w)::P.zip vs) m x=_
  unfold bindL
  exact xJ (i:=i) (List.nodup_cons.mp nd).2 (by simpa using h1) (by simpa using h2) hk
theorem xL{kindOf:Str->Option NameKind}{x:Str}{v:Value}:∀{P:List Str}{vs:List Value}{i:Nat}{m:Str->Option Value},P.Nodup->P[i]?=some x->vs[i]?=some v->kindOf x≠some .local ->
  bindC kindOf (P.zip vs) m x=some v
 |[],_,_,_,_,h,_,_=>by simp at h
 |_::_,[],_,_,_,_,h,_=>by simp at h
 |p::P,w::vs,0,m,nd,h1,h2,hk=>by
  simp at h1 h2;subst h1;subst h2
  show bindC kindOf ((p,w)::P.zip vs) m p=_
  unfold bindC
  rw[xK λv hv=>(List.nodup_cons.mp nd).1 (List.of_mem_zip hv).1,if_neg hk]
  simp
 |p::P,w::vs,i+1,m,nd,h1,h2,hk=>by
  show bindC kindOf ((p,w)::P.zip vs) m x=_
  unfold bindC
  exact xL (i:=i) (List.nodup_cons.mp nd).2 (by simpa using h1) (by simpa using h2) hk
def dJ(N:List Str)(vs:List V):St:=vs.map some++List.replicate (N.length-vs.length) none
def gS(CX:CXT)(P:Program)(w:World)(K:W.Frag)(mg:Str->Option Value)(base:Heap)(N:List Str)(qual:Str)(scope:Scope)(f:Addr)(cd:Value)(A:Around)(outer:List Env)(s:Shared)(H:Hp)(E:XK):Cx where
 prog:=P
 w:=w
 K:=K
 mg:=mg
 base:=base
 A:=A.deeper (envOfC qual scope s.heap.objs.size f cd)
 N:=N
 s₀:=s
 H₀:=H
 env:=envOfC qual scope s.heap.objs.size f cd
 outer:=outer
 stack:=envOfC qual scope s.heap.objs.size f cd::outer
 ex:=[]
 calm:=true
 fn:=λ_=>true
 pn:=[]
 xe:=λe s'=>wpAny (model P w) (A.deeper (envOfC qual scope s.heap.objs.size f cd)) (leaving (envOfC qual scope s.heap.objs.size f cd) e) (λ_ s''=>CX outer H s E e s'') (λe' s''=>CX outer H s E e' s'') s'
theorem yJ{sc:Scope}{n:Nat}{x:Str}(h:sc.names.lookup x=some .cell):∃c,(cellsFrom n sc.names []).lookup x=some c:=by
 have q:=PySem.W.cellsFrom_some sc.names n [] (.inl h)
 exact Option.isSome_iff_exists.mp q
theorem zCC{CX:CXT}{P:Program}{w:World}{K:W.Frag}{mg:Str->Option Value}{base:Heap}{N ps:List Str}{qual:Str}{scope:Scope}{f:Addr}{cd:Value}{A:Around}{outer:List Env}{s s1:Shared}{H:Hp}{E:XK}{us:List Value}{vs:List V}
  (S:bD N ps scope) (hd:A.handled=none) (e0:pS P w K mg base A outer s H) (hl:vs.length=ps.length) (r:Vals vs us)
  (x:InCallC s s.heap.objs.size (bindL (envOfC qual scope s.heap.objs.size f cd).kindOf (ps.zip us) λ_=>none) (cellsFrom (s.heap.objs.size+1) scope.names []) (bindC (envOfC qual scope s.heap.objs.size f cd).kindOf (ps.zip us) λ_=>none) s1):
  Inv (gS CX P w K mg base N qual scope f cd A outer s H E) [] (dJ N vs) H s1:=by
 have hpl:ps.length<=N.length:=by have:=congrArg List.length S.pre;rw[List.length_take]at this;omega
 obtain⟨h1,tk,rfl,hk⟩:=x.done
 have noA:∀b:Addr,b∉(gS CX P w K mg base N qual scope f cd A outer s H E).ex:=λb z=>absurd (show b∈([]:List Addr) from z) (by simp)
 refine⟨⟨e0.mod,S.kind,rfl,rfl,Nat.le_refl _,λy z c h1 h2=>?_,λy hy=>?_,λy c _ h=>?_,λ_=>hd,Around.frames_deeper e0.frames,.inr ⟨rfl,rfl⟩,λb z=>absurd z (noA b),e0.bs,e0.bsz,λb _ _=>noA b,λb z=>absurd z (noA b),e0.funs,e0.frf⟩,
  rfl,e0.bare,Un.kept hk,⟨_,x.toInCall.ns,λi y v h1 h2 h3=>?_⟩,λy c h=>⟨_,x.cell y c h⟩,e0.hok.fresh (Nat.le_refl _),λy c h=>?_,λp hp=>absurd (show p∈([]:List (Addr×Obj)) from hp) (by simp),e0.hok.kept hk,?_⟩
 ·exact name_of_addr x.apart (PySem.mem_of_lookup h1) (PySem.mem_of_lookup h2)
 ·have hy:scope.names.lookup y=some .cell\/scope.names.lookup y=some .free:=hy
  rcases hy with hy|hy
  ·exact yJ hy
  ·exact absurd rfl (S.nofree _ (PySem.mem_of_lookup hy))
 ·exact Nat.le_of_lt (x.above y c (PySem.mem_of_lookup h))
 ·have hi:i<vs.length:=by
   unfold dJ at h2
   by_cases hi:i<vs.length
   ·exact hi
   ·rw[List.getElem?_append_right (by simpa using hi)]at h2
    rw[List.getElem?_replicate]at h2
    split at h2<;>cases h2
  have ha:vs[i]?=some v:=by
   unfold dJ at h2
   rw[List.getElem?_append_left (by simpa using hi),List.getElem?_map]at h2
   cases e:vs[i]? with
   |none=>rw[e]at h2;cases h2
   |some a=>rw[e]at h2;cases h2;rfl
  obtain⟨u,hu,rv⟩:=r.get ha
  have hp:ps[i]?=some y:=by
   rw[<-S.pre,List.getElem?_take_of_lt (by omega)];exact h1
  have ndP:ps.Nodup:=by rw[<-S.pre];exact S.nd.sublist (List.take_sublist _ _)
  refine⟨u,rv,?_⟩
  rcases S.par y (List.mem_of_getElem? hp) with k|k
  ·exact .inl ⟨k,xJ ndP hp hu k⟩
  ·obtain⟨c,e⟩:=yJ (n:=s.heap.objs.size+1) k
   refine .inr ⟨.inl k,c,e,?_⟩
   have q:=x.cell y c e
   rw[xL ndP hp hu (by show scope.names.lookup y≠_;rw[k];decide)]at q
   exact q
 ·exact e0.hok.fresh (Nat.le_of_lt (x.above y c (PySem.mem_of_lookup h)))
 ·unfold dJ
  show _=N.length
  rw[List.length_append,List.length_map,List.length_replicate]
  omega
theorem zGv{CX:CXT}{P:Program}{w:World}{K:W.Frag}{mg:Str->Option Value}{base:Heap}{k:Nat}{f:Addr}{name qual:Str}{params:Arguments}{body:List Stmt}{scope:Scope}{dV kV doc pm cdv ct oc:Value}{an od:Option Addr}
  {osl:Array (Option Value)} {N ps:List Str} {sp:Sp} (lk:K.lookup f=some ⟨oc,od,.func (W.fnOf name qual params body scope dV kV doc pm an cdv ct),osl⟩) (hcd:W.codeIn K cdv qual=true) (S:bD N ps scope)
  (len:∀vs H Q E,sp vs H Q E->vs.length=ps.length)
  (hbody:∀(A:Around) (outer:List Env) (s:Shared) (H:Hp) (vs:List V) (Q:VK) (E:XK),Room k (A.deeper (envOfC qual scope s.heap.objs.size f cdv))->sp vs H Q E ->
   ∃t,PSs (gS CX P w K mg base N qual scope f cdv A outer s H E) body t/\t {nx:=λ_ H'=>Q .non H',rt:=Q} (dJ N vs) H):
  FnOk P w K mg base CX (k+1) f (W.fnOf name qual params body scope dV kV doc pm an cdv ct) ps sp:=by
 refine⟨len,λA outer s H args us vs Q E hr e0 hb r hsp=>?_⟩
 have hl:=len _ _ _ _ hsp
 have KX:K.In s.heap:=e0.mod.kin.keeps λb o e=>(e0.bs b o e).1
 have lim:s.heap.NoLimit:=e0.mod.nolimit.keeps λb o e=>(e0.bs b o e).1
 have hkind:∀y∈ps.zip us,scope.names.lookup y.1=some .local\/(scope.names.lookup y.1=some .cell/\((cellsFrom (s.heap.objs.size+1) scope.names []).lookup y.1).isSome=true):=λ⟨n,v⟩ hy=>by
  rcases S.par n (List.of_mem_zip hy).1 with q|q
  ·exact .inl q
  ·exact .inr ⟨q,PySem.W.cellsFrom_some _ _ _ (.inl q)⟩
 refine codeAny_call_function hr.depth (KX _ _ lk) rfl S.co S.gen rfl (PySem.W.codeRec_of KX hcd) (hb _ _ _ _ ?_)
 refine wpAny_newFunctionEnv_cells S.kind hkind λenv he s1 x=>?_
 subst he
 refine⟨lim.keeps x.toInCall.keep,codeAny_func ?_⟩
 obtain⟨t,ht,hq⟩:=hbody A outer s H vs Q E (hr.deeper _) hsp
 have I:Inv (gS CX P w K mg base N qual scope f cdv A outer s H E) [] (dJ N vs) H s1:=zCC S hr.hd e0 hl r x
 refine wpAny_mono (ht [] s1 (dJ N vs) H _ I hq) (λfl s' hs=>?_) λe s' hs=>hs
 have fin:∀{σ':St} {H':Hp} {v:V} {u:Value},Inv (gS CX P w K mg base N qual scope f cdv A outer s H E) [] σ' H' s'->RelV v u->Q v H'->CE outer P w H s Q u s':=
  λ{σ' H' v u} J rv q=>⟨v,H',J.os,J.bare,J.base,J.hok,rv,q⟩
 cases fl with
 |ret u=>
  obtain⟨v,σ',H',J,rv,q⟩:=hs
  exact fin J rv q
 |next=>
  obtain⟨σ',H',J,q⟩:=hs
  exact fin (v:=V.non) (u:=Value.none) J rfl q
 |brk=>
  obtain⟨_,_,_,q⟩:=hs
  exact False.elim q
 |cont=>
  obtain⟨_,_,_,q⟩:=hs
  exact False.elim q
end L2
namespace L2
open PySem PySem.Spec PyProof.Rows
section
variable{X:Cx}{x:Str}{p pos:Pos}{e:Expr}{es:List Expr}{t:TA}{id T:String}{r:List V->Hp->VK->Prop}
def tCB(r:List V->Hp->VK->Prop)(t:TA):TE:=λσ H Q=>t σ H λvs H1=>r vs H1 Q
theorem iH(hc:CallR X (.builtin id) r)(hg:Gl X x)(hm:X.mg x=none)(hv:bootBuiltins x=some (.builtin id))(ha:PA X (e::es) t)(hn:x≠"__name__":=by decide)(hdb:(x==("__debug__":Str))=false:=by decide)
  (he:starEach (e::es) X.env=(false,eval e X.env)::starEach es X.env:=by rfl) (hpl:(backTo pos (starEach es X.env)).any (·.1)=false:=by rfl):PE X (.Call (.Name x p) (e::es) [] pos) (tCB r t):=by
 intro pins s σ H Q I h
 refine wpAny_Call_Name_kw (lD I hg hm hv ?_ hn hdb)
 exact PyProof.Rows.callWith_builtin1 (thn (ha pos pins s σ H _ I h) λus s1 ⟨vs,H1,I1,r1,q1⟩=>hc pins s1 σ H1 vs us Q I1 r1 q1) he hpl
theorem kQ(hc:CallR X (.type T) r)(hg:Gl X x)(hm:X.mg x=none)(hv:bootBuiltins x=some (.type T))(ha:PA X (e::es) t)(hn:x≠"__name__":=by decide)(hdb:(x==("__debug__":Str))=false:=by decide)
  (he:starEach (e::es) X.env=(false,eval e X.env)::starEach es X.env:=by rfl) (hpl:(backTo pos (starEach es X.env)).any (·.1)=false:=by rfl):PE X (.Call (.Name x p) (e::es) [] pos) (tCB r t):=by
 intro pins s σ H Q I h
 refine wpAny_Call_Name_kw (lD I hg hm hv ?_ hn hdb)
 exact PyProof.Rows.callWith_type1 (thn (ha pos pins s σ H _ I h) λus s1 ⟨vs,H1,I1,r1,q1⟩=>hc pins s1 σ H1 vs us Q I1 r1 q1) he hpl
end
end L2
namespace HT
open PySem PyProof.Rows
section
variable{prog:Program}{w:World}{A:Around}{E:Value->Shared->Prop}{s:Shared}
theorem cat_tup{t b:Addr}{vs ws:List Value}{Q:Value->Shared->Prop}(ht:IsTup s.heap t vs.toArray)(hb:IsTup s.heap b ws.toArray)(hv:vs≠[])
  (h1:ws=[]->Q (.ref t) s) (h2:ws≠[]->Q (.ref s.heap.objs.size) {s with heap:=s.heap.push {cls:=.type "tuple",data:=.seq (vs++ws).toArray}})
  (hsz:vs.length+ws.length<=sizeLine):wpAny (model prog w) A (binaryOp .Add (.ref t) (.ref b)) Q E s:=by
 obtain⟨⟨cls,dd,data,sl⟩,ho,hc,n,hd⟩:=id ht
 obtain⟨⟨cls2,dd2,data2,sl2⟩,ho2,hc2,n2,hd2⟩:=id hb
 simp only at hc hd hc2 hd2
 subst hc hd hc2 hd2
 have e:vs.toArray++ws.toArray=(vs++ws).toArray:=by simp
 by_cases hw:ws=[]
 ·exact concat_meets ⟨_,ho,rfl⟩ ⟨_,ho2,rfl⟩ noFill_tuple_add seq_tuple_add PySem.F.slot_tuple_add PySem.F.entry_tuple_add (PySem.F.args_tuple_add_2 _ _)
   (tuple_addW1 t b vs.toArray ws.toArray n n2 dd dd2 sl sl2 (by simpa using hv) (by simp[hw])) ⟨ho,ho2,h1 hw⟩
 ·refine concat_meets ⟨_,ho,rfl⟩ ⟨_,ho2,rfl⟩ noFill_tuple_add seq_tuple_add PySem.F.slot_tuple_add PySem.F.entry_tuple_add (PySem.F.args_tuple_add_2 _ _)
   (tuple_addW2 t b vs.toArray ws.toArray n n2 dd dd2 sl sl2 (by simpa using hv) (by simpa using hw) (by rw[List.size_toArray,List.size_toArray];exact hsz)) ⟨ho,ho2,?_⟩
  rw[e]
  exact h2 hw
def sIx(n d:Nat):Option Int->Nat
 |none=>d
 |some v=>if v<0 then(v+(n:Int)).toNat else min v.toNat n
theorem sIx_none(n d:Nat):sIx n d none=d:=rfl
theorem sIx_nat(n d k:Nat):sIx n d (some (k:Int))=min k n:=by
 show(if (k:Int)<0 then((k:Int)+(n:Int)).toNat else min (k:Int).toNat n)=min k n
 rw[if_neg (by omega),Int.toNat_natCast]
theorem zES(n d:Nat)(hd:d<=n)(o:Option Int):sIx n d o<=n:=by
 cases o with
 |none=>exact hd
 |some v=>
  show(if v<0 then(v+(n:Int)).toNat else min v.toNat n)<=n
  by_cases hv:v<0
  ·rw[if_pos hv];omega
  ·rw[if_neg hv];exact Nat.min_le_right _ _
theorem zQ(v:Int)(n d:Nat):(if v<0 then max (v+(n:Int)) 0 else min v (n:Int))=((sIx n d (some v):Nat):Int):=by
 show(if v<0 then max (v+(n:Int)) 0 else min v (n:Int))=(((if v<0 then(v+(n:Int)).toNat else min v.toNat n):Nat):Int)
 by_cases hv:v<0
 ·simp only[if_pos hv];omega
 ·simp only[if_neg hv];omega
theorem zB2(lo hi:Option Int)(n:Nat):Builtin.Slice.sliceAdjust lo hi 1 (n:Int)=(((sIx n 0 lo:Nat):Int),((sIx n n hi:Nat):Int)):=by
 have h1:¬ ((1:Int)<0):=by omega
 unfold Builtin.Slice.sliceAdjust
 simp only[h1,if_false]
 refine Prod.ext ?_ ?_
 ·cases lo with
  |none=>rfl
  |some v=>exact zQ v n 0
 ·cases hi with
  |none=>rfl
  |some v=>exact zQ v n n
theorem zBO(i j:Nat):Builtin.Slice.slicePlaces (i:Int) (j:Int) 1=j-i:=by
 unfold Builtin.Slice.slicePlaces
 have h1:(1:Int) > 0:=by omega
 simp only[h1,if_true,Int.ediv_one]
 split<;>omega
theorem wG{v:Value}{o:Option Int}{Q:Option Int->Shared->Prop}(p:IsPart v o)(h:Q o s):wpAny (model prog w) A (Builtin.Slice.slicePartIndex v) Q E s:=by
 cases p with
 |none=>exact slicePart_none h
 |int i t=>exact slicePart_int h
theorem sliceApplied_gen{sl:Addr}{vl vu:Value}{lo hi:Option Int}{n:Nat}{Q:Int×Int×Nat->Shared->Prop}(hs:s.heap.IsSliceOf sl vl vu .none)(pl:IsPart vl lo)(pu:IsPart vu hi)
  (h:Q (((sIx n 0 lo:Nat):Int),1,sIx n n hi-sIx n 0 lo) s):wpAny (model prog w) A (Builtin.Slice.sliceApplied (.ref sl) (pure (n:Int))) Q E s:=by
 obtain⟨os,hos,hcs,hds⟩:=id hs
 unfold Builtin.Slice.sliceApplied Builtin.Slice.sliceFields
 refine wpAny_bind (wpAny_bind (wpAny_field hos hds (x:=vl) rfl (wpAny_bind (wpAny_field hos hds (x:=vu) rfl (wpAny_bind (wpAny_field hos hds (x:=.none) rfl (wpAny_pure ?_)))))))
 refine wpAny_bind (slicePart_none ?_)
 show wpAny _ _ (if ((1:Int)==0)=true then _ else _) _ _ s
 rw[if_neg (by decide)]
 refine wpAny_bind (wG pl (wpAny_bind (wG pu (wpAny_bind (wpAny_pure ?_)))))
 show wpAny _ _ (match Builtin.Slice.sliceAdjust lo hi 1 (n:Int) with|(lo,hi)=>pure (lo,(1:Int),Builtin.Slice.slicePlaces lo hi 1)) _ _ s
 rw[zB2 lo hi n]
 show wpAny _ _ (pure (((sIx n 0 lo:Nat):Int),(1:Int),Builtin.Slice.slicePlaces ((sIx n 0 lo:Nat):Int) ((sIx n n hi:Nat):Int) 1)) _ _ s
 rw[zBO]
 exact wpAny_pure h
theorem zDa(xs:Array Value)(i k:Nat):((List.range k).filterMap λ(m:Nat)=>xs[((i:Int)+(m:Int)*1).toNat]?).toArray=((xs.toList.drop i).take k).toArray:=by
 have e:(λ(m:Nat)=>xs[((i:Int)+(m:Int)*1).toNat]?)=λm=>xs[i+m]?:=by
  funext m
  have:((i:Int)+(m:Int)*1).toNat=i+m:=by omega
  rw[this]
 rw[e]
 have:=pick_run xs i k
 rw[List.filterMap_map]at this
 have e2:((λx=>xs[x]?)∘λx=>i+x)=λm=>xs[i+m]?:=rfl
 rw[e2]at this
 rw[this]
theorem getItem_tuple_cut{t sl:Addr}{items:Array Value}{vl vu:Value}{lo hi:Option Int}{Q:Value->Shared->Prop}(ht:IsTup s.heap t items)(hs:s.heap.IsSliceOf sl vl vu .none)(pl:IsPart vl lo)(pu:IsPart vu hi)
  (hw:¬ (sIx items.size 0 lo=0/\sIx items.size items.size hi=items.size))
  (h:Q (.ref s.heap.objs.size) {s with heap:=s.heap.push {cls:=.type "tuple",data:=.seq ((items.toList.drop (sIx items.size 0 lo)).take (sIx items.size items.size hi-sIx items.size 0 lo)).toArray}})
  (hsz:items.size<=sizeLine):wpAny (model prog w) A (getItem (.ref t) (.ref sl)) Q E s:=by
 have htake:sizeOk (.seq ((items.toList.drop (sIx items.size 0 lo)).take (sIx items.size items.size hi-sIx items.size 0 lo)).toArray):=by
  show((items.toList.drop (sIx items.size 0 lo)).take (sIx items.size items.size hi-sIx items.size 0 lo)).toArray.size<=sizeLine
  rw[List.size_toArray,List.length_take,List.length_drop,Array.length_toList]
  omega
 have hj:sIx items.size items.size hi<=items.size:=zES _ _ (Nat.le_refl _) hi
 obtain⟨os,hos,hcs,hds⟩:=id hs
 have hTs:s.TypeIs (.ref sl) "slice":=⟨os,hos,hcs⟩
 unfold getItem
 try with_reducible refine wpAny_holding ?_
 first|refine wpAny_bind (wpAny_pure ?_)|skip
 refine wpAny_bind (wpAny_sequenceKey ht.typeIs (by decide) ?_)
 refine wpAny_bind (wpAny_callSpecial?_slot (name:=Str.ofString "__getitem__") ht.typeIs PyProof.Rows.slot_tuple_getitem
  (wpAny_call_entry PyProof.Rows.slot_tuple_getitem ht.typeIs entry_tuple_getitem ?_ (args_tuple_getitem _ _)))
 show wpAny _ _ (Builtin.Tuple.tupleItemsOf (.ref t) >>= _) _ _ s
 refine wpAny_bind (tupleItemsOf_ ht ?_)
 refine wpAny_bind (wpAny_typeOf hTs ?_)
 rw[if_pos (by decide)]
 refine wpAny_bind (sliceApplied_gen hs pl pu ?_)
 have hno:¬ ((((sIx items.size 0 lo:Nat):Int)==0&&(1:Int)==1&&(sIx items.size items.size hi-sIx items.size 0 lo)==items.size)=true):=by
  intro q
  rw[Bool.and_eq_true,Bool.and_eq_true]at q
  have q1:((sIx items.size 0 lo:Nat):Int)=0:=eq_of_beq q.1.1
  have q2:sIx items.size items.size hi-sIx items.size 0 lo=items.size:=eq_of_beq q.2
  exact hw ⟨by omega,by omega⟩
 show wpAny _ _ (if (((sIx items.size 0 lo:Nat):Int)==0&&(1:Int)==1&&(sIx items.size items.size hi-sIx items.size 0 lo)==items.size)=true then _ else _) _ _ s
 rw[if_neg hno,zDa]
 first
  |exact wpAny_bind (m:=Builtin.Tuple.tupleExact _) (wpAny_newObj_type (wpAny_pure ⟨_,rfl,wpAny_pure h⟩) htake)
  |exact wpAny_bind (m:=Builtin.Tuple.tupleExact _) (wpAny_newObj_type (wpAny_bind (wpAny_pure (wpAny_pure ⟨_,rfl,wpAny_pure h⟩))) htake)
  |exact wpAny_bind (wpAny_bind (m:=Builtin.Tuple.tupleExact _) (wpAny_newObj_type (wpAny_pure (wpAny_pure ⟨_,rfl,wpAny_pure h⟩)) htake))
  |exact wpAny_bind (wpAny_bind (m:=Builtin.Tuple.tupleExact _) (wpAny_newObj_type (wpAny_pure ⟨_,rfl,wpAny_pure h⟩) htake))
end
end HT
namespace L2
open PySem PySem.Spec PyProof.Rows
abbrev TO:=St->Hp->(Option Int->Hp->Prop)->Prop
def PO(X:Cx)(e:Option Expr)(t:TO):Prop:=
 ∀(pins:List (Addr×Obj)) (s:Shared) (σ:St) (H:Hp) (Q:Option Int->Hp->Prop),Inv X pins σ H s->t σ H Q ->
  wpAny (model X.prog X.w) X.A (evalPart e X.env) (λu s'=>∃o H',Inv X pins σ H' s'/\IsPart u o/\Q o H') X.xe s
def zDL:TO:=λ_ H Q=>Q none H
def zFV(t:TE):TO:=λσ H Q=>t σ H λx H1=>∃i,x=.int i/\Q (some i) H1
theorem mM{ns:List Int}:∀{us:List Value},Vals (ns.map V.int) us->IntsAre us ns:=by
 induction ns with
 |nil=>intro us r;rw[List.map_nil]at r;cases r;exact .nil
 |cons n ns ih=>
  intro us r
  rw[List.map_cons]at r
  cases r with
  |cons r1 r2=>
   obtain⟨t,e⟩:=r1
   subst e
   exact .cons n t (ih r2)
section
variable{X:Cx}{e:Expr}{te:TE}{lo hi:Option Expr}{tl th:TO}{pos p2:Pos}
theorem yX:PO X none zDL:=by
 intro pins s σ H Q I h
 rw[evalPart_none]
 exact wpAny_pure ⟨none,H,I,.none,h⟩
theorem yW(h:PE X e te):PO X (some e) (zFV te):=by
 intro pins s σ H Q I hw
 rw[evalPart_some]
 refine thn (h pins s σ H _ I hw) λu s1 ⟨x,H1,I1,r1,q1⟩=>?_
 obtain⟨i,rfl,q⟩:=q1
 obtain⟨t,rfl⟩:=r1
 exact⟨some i,H1,I1,.int i t,q⟩
def SlR(X:Cx)(r:V->Option Int->Option Int->Hp->VK->Prop):Prop:=
 ∀(pins:List (Addr×Obj)) (s:Shared) (σ:St) (H:Hp) (x:V) (v vl vu:Value) (lo hi:Option Int) (sl:Addr) (Q:VK),Inv X pins σ H s->RelV x v->s.heap.IsSliceOf sl vl vu .none->IsPart vl lo->IsPart vu hi->r x lo hi H Q ->
  ∃T id,typeLookup (.type T) "__getitem__"=pure (some (.builtin id))/\s.TypeIs v T/\wpAny (model X.prog X.w) X.A (getItem v (.ref sl)) (EP X pins σ Q) X.xe s
theorem SlR.or{r r':V->Option Int->Option Int->Hp->VK->Prop}(h:SlR X r)(h':SlR X r'):SlR X (λx lo hi H Q=>r x lo hi H Q\/r' x lo hi H Q):=by
 intro pins s σ H x v vl vu lo hi sl Q I rx hs pl pu q
 rcases q with q|q
 ·exact h pins s σ H x v vl vu lo hi sl Q I rx hs pl pu q
 ·exact h' pins s σ H x v vl vu lo hi sl Q I rx hs pl pu q
def tSl(r:V->Option Int->Option Int->Hp->VK->Prop)(te:TE)(tl th:TO):TE:=λσ H Q=>te σ H λx H1=>tl σ H1 λl H2=>th σ H2 λu H3=>r x l u H3 Q
theorem xT{r:V->Option Int->Option Int->Hp->VK->Prop}(hr:SlR X r)(he:PE X e te)(hl:PO X lo tl)(hu:PO X hi th):PE X (.Subscript e (.Slice lo hi none p2) pos) (tSl r te tl th):=by
 intro pins s σ H Q I h
 refine Subscript_ (thn (he pins s σ H _ I h) λv s1 ⟨x,H1,I1,r1,q1⟩=>?_)
 refine wpAny_Slice (thn (hl pins s1 σ H1 _ I1 q1) λvl s2 ⟨l,H2,I2,pl,q2⟩=>thn (hu pins s2 σ H2 _ I2 q2) λvu s3 ⟨u,H3,I3,pu,q3⟩=>?_)
 rw[evalPart_none]
 refine wpAny_pure ?_
 have I4:Inv X pins σ H3 {s3 with heap:=s3.heap.push {cls:=.type "slice",data:=.fields #[vl,vu,.none]}}:=I3.kept (t':=s3.toks) λb ob q=>Heap.get?_push_of_some _ q
 obtain⟨T,id,hT,ht,hg⟩:=hr pins {s3 with heap:=s3.heap.push {cls:=.type "slice",data:=.fields #[vl,vu,.none]}} σ H3 x v vl vu l u s3.heap.objs.size Q I4 r1 (Heap.IsSliceOf.new ..) pl pu q3
 show wpAny (model X.prog X.w) X.A (subscriptTail e (.Slice lo hi none p2) v (.ref s3.heap.objs.size)) (EP X pins σ Q) X.xe {s3 with heap:=s3.heap.push {cls:=.type "slice",data:=.fields #[vl,vu,.none]}}
 exact tail_any (ops:=[.ref s3.heap.objs.size,v]) ht hT hg (by with_unfolding_all rfl)
def fB(xs:List V)(lo hi:Option Int):List V:=(xs.drop (HT.sIx xs.length 0 lo)).take (HT.sIx xs.length xs.length hi-HT.sIx xs.length 0 lo)
theorem wD(xs:List V)(lo hi:Option Int):(fB xs lo hi).length<=xs.length:=by
 unfold fB
 rw[List.length_take,List.length_drop]
 omega
def zGZ(K:W.Frag):V->Option Int->Option Int->Hp->VK->Prop:=λx lo hi H Q=>∃a xs,x=.ref a/\SqT K H a xs /\
 ¬ (HT.sIx xs.length 0 lo=0/\HT.sIx xs.length xs.length hi=xs.length)/\∀p,H p=none->Q (.ref p) (upd H p (.tup (fB xs lo hi)))
theorem zEN:SlR X (zGZ X.K):=by
 intro pins s σ H x v vl vu lo hi sl Q I rx hs pl pu h
 obtain⟨a,xs,rfl,hx,hw,q⟩:=h
 cases rx
 obtain⟨its,r,ht,hz⟩:=I.tuple hx
 have hlen:its.toArray.size=xs.length:=by rw[List.size_toArray];exact r.length.symm
 refine⟨"tuple",_,PyProof.Rows.slot_tuple_getitem.lookup,ht.typeIs,?_⟩
 refine HT.getItem_tuple_cut ht hs pl pu (by rw[hlen];exact hw) ?_ (by rw[hlen];exact hz)
 rw[hlen]
 refine⟨.ref s.heap.objs.size,_,I.laid (t':=s.toks) (o:=.tup (fB xs lo hi)) (λb ob q=>Heap.get?_push_of_some _ q) (Nat.le_refl _) ?_,rfl,q _ (I.hok.fresh (Nat.le_refl _))⟩
 exact⟨Nat.le_trans (wD xs lo hi) hz,_,(r.drop (HT.sIx xs.length 0 lo)).take (HT.sIx xs.length xs.length hi-HT.sIx xs.length 0 lo),IsTup.new _ _⟩
def zF8(K:W.Frag):R2:=λx y H Q=>∃a b xs ys,x=.ref a/\y=.ref b/\SqT K H a xs/\SqT K H b ys/\xs≠[]/\xs.length+ys.length<=sizeLine /\
 (ys=[]->Q (.ref a) H)/\(ys≠[]->∀p,H p=none->Q (.ref p) (upd H p (.tup (xs++ys))))
theorem Vals.nil_iff{xs:List V}{us:List Value}(r:Vals xs us):us=[]↔xs=[]:=by
 cases r with
 |nil=>simp
 |cons _ _=>simp
theorem zEd:OpR X (binaryOp .Add) (zF8 X.K):=by
 intro pins s σ H x y v u Q I rx ry h
 obtain⟨a,b,xs,ys,rfl,rfl,ha,hb,hx,hz,q1,q2⟩:=h
 cases rx
 cases ry
 obtain⟨its,r1,p1,_⟩:=I.tuple ha
 obtain⟨its2,r2,p2,_⟩:=I.tuple hb
 refine HT.cat_tup p1 p2 (λz=>hx (r1.nil_iff.mp z)) (λz=>⟨.ref a,H,I,rfl,q1 (r2.nil_iff.mp z)⟩) (λz=>?_) (by rw[<-r1.length,<-r2.length];exact hz)
 refine⟨.ref s.heap.objs.size,_,I.laid (t':=s.toks) (o:=.tup (xs++ys)) (λb ob q=>Heap.get?_push_of_some _ q) (Nat.le_refl _) ?_,rfl,q2 (λw=>z (r2.nil_iff.mpr w)) _ (I.hok.fresh (Nat.le_refl _))⟩
 exact⟨by rw[List.length_append];exact hz,_,r1.append r2,IsTup.new _ _⟩
end
end L2
namespace L2
open PySem PySem.Spec PyProof.Rows
def ixN(n:Nat)(i:Int):Option Nat:=if 0<=i then(if i<n then some i.toNat else none) else if -(n:Int)<=i then some (i+n).toNat else none
def atI{α:Type}(xs:List α)(i:Int):Option α:=(ixN xs.length i).bind λj=>xs[j]?
theorem zM{n:Nat}{i:Int}{j:Nat}(h:ixN n i=some j):seqIndex? i n=some j/\j<n /\ -(n:Int)<=i/\i<n:=by
 unfold ixN at h
 by_cases h0:0<=i
 ·rw[if_pos h0]at h
  by_cases h1:i<n
  ·rw[if_pos h1]at h
   have e:i.toNat=j:=Option.some.inj h
   exact⟨by rw[seqIndex_of h0 h1,e],by omega,by omega,h1⟩
  ·rw[if_neg h1]at h;cases h
 ·rw[if_neg h0]at h
  by_cases h1:-(n:Int)<=i
  ·rw[if_pos h1]at h
   have e:(i+n).toNat=j:=Option.some.inj h
   exact⟨by rw[seqIndex_neg (by omega) h1,e],by omega,h1,by omega⟩
  ·rw[if_neg h1]at h;cases h
theorem tI{α:Type}{xs:List α}{i:Int}{v:α}(h:atI xs i=some v):∃j,seqIndex? i xs.length=some j/\xs[j]?=some v/\j<xs.length /\ -(xs.length:Int)<=i/\i<xs.length:=by
 unfold atI at h
 cases e:ixN xs.length i with
 |none=>rw[e]at h;cases h
 |some j=>
  rw[e]at h
  obtain⟨h1,h2,h3,h4⟩:=zM e
  exact⟨j,h1,h,h2,h3,h4⟩
theorem aY{α:Type}{xs:List α}{j:Nat}{v:α}(h:xs[j]?=some v):atI xs (j:Int)=some v:=by
 have hj:j<xs.length:=(List.getElem?_eq_some_iff.mp h).1
 have e:ixN xs.length (j:Int)=some j:=by
  unfold ixN
  rw[if_pos (by omega),if_pos (by omega)];simp
 unfold atI;rw[e];exact h
def kY(b:Expr):Prop:=∀o i,subscripted b false o i=operate [o,i] (getItem o i)
def IxR(X:Cx)(r:R2):Prop:=
 ∀(value slice:Expr) (pins:List (Addr×Obj)) (s:Shared) (σ:St) (H:Hp) (x y:V) (v u:Value) (Q:VK),Inv X pins σ H s->RelV x v->RelV y u->r x y H Q ->
  subscripted slice false v u=operate [v,u] (getItem v u)->wpAny (model X.prog X.w) X.A (subscriptTail value slice v u) (EP X pins σ Q) X.xe s
def MtR(X:Cx)(id:String)(r:V->List V->Hp->VK->Prop):Prop:=
 ∀(pins:List (Addr×Obj)) (s:Shared) (σ:St) (H:Hp) (x:V) (xs:List V) (v:Value) (us:List Value) (Q:VK),Inv X pins σ H s->RelV x v->Vals xs us->r x xs H Q ->
  wpAny (model X.prog X.w) X.A (call (.builtin id) (v::us)) (EP X pins σ Q) X.xe s
section
variable{X:Cx}{a b:Expr}{ta tb:TE}{pos:Pos}
theorem IxR.or{r r':R2}(h:IxR X r)(h':IxR X r'):IxR X (λx y H Q=>r x y H Q\/r' x y H Q):=by
 intro value slice pins s σ H x y v u Q I rx ry q hs
 rcases q with q|q
 ·exact h value slice pins s σ H x y v u Q I rx ry q hs
 ·exact h' value slice pins s σ H x y v u Q I rx ry q hs
theorem fT{r:R2}(hr:IxR X r)(ha:PE X a ta)(hb:PE X b tb)(hs:kY b):PE X (.Subscript a b pos) (tOp r ta tb):=by
 intro pins s σ H Q I h
 exact Subscript_ (vM ha hb I h λv u s2 x y H2 I2 rx ry q=>hr a b pins s2 σ H2 x y v u Q I2 rx ry q (hs _ _))
def zAW(K:W.Frag):R2:=λx y H Q=>∃p xs i v,x=.ref p/\y=.int i/\SqL K H p xs/\atI xs i=some v/\Q v H
def zAU(K:W.Frag):R2:=λx y H Q=>∃p xs i v,x=.ref p/\y=.int i/\SqT K H p xs/\atI xs i=some v/\Q v H
def zAV:R2:=λx y H Q=>∃z i c,x=.str z/\y=.int i/\z.length<=sizeLine/\atI z.cps.toList i=some c/\Q (.str ⟨#[c]⟩) H
theorem ix_list:IxR X (zAW X.K):=by
 intro value slice pins s σ H x y v u Q I rx ry h hs
 obtain⟨p,xs,i,z,rfl,rfl,hq,he,q⟩:=h
 cases rx
 obtain⟨t,rfl⟩:=ry
 obtain⟨its,r,pl,hz⟩:=I.list hq
 obtain⟨j,h1,h2,h3,h4,h5⟩:=tI he
 obtain⟨w,ew,rw'⟩:=r.get h2
 have hl:=r.length
 have hn:=jU
 have fin:EP X pins σ Q w s:=⟨z,H,I,rw',q⟩
 by_cases h0:0<=i
 ·have hj:i.toNat=j:=by
   rw[seqIndex_of h0 h5]at h1
   exact Option.some.inj h1
  exact item_listR pl.isList h0 (by omega) (by rw[hj];simpa using ew) fin hs
 ·have hj:(i+(its.toArray.size:Int)).toNat=j:=by
   rw[seqIndex_neg (by omega) h4]at h1
   rw[List.size_toArray,<-hl]
   exact Option.some.inj h1
  exact subscriptTail_builtinR (x:=w) pl.isList.typeIs slot_list_getitem.lookup
   (wpAny_getItem_list_neg (Q:=λr s'=>r=w/\EP X pins σ Q r s') pl.isList (by omega) (by rw[List.size_toArray]<;>omega) (by omega) (by rw[hj];simpa using ew) ⟨rfl,fin⟩) hs
theorem ix_tup:IxR X (zAU X.K):=by
 intro value slice pins s σ H x y v u Q I rx ry h hs
 obtain⟨p,xs,i,z,rfl,rfl,hq,he,q⟩:=h
 cases rx
 obtain⟨t,rfl⟩:=ry
 obtain⟨its,r,pl,hz⟩:=I.tuple hq
 obtain⟨j,h1,h2,h3,h4,h5⟩:=tI he
 obtain⟨w,ew,rw'⟩:=r.get h2
 have hl:=r.length
 have hn:=jU
 have fin:EP X pins σ Q w s:=⟨z,H,I,rw',q⟩
 exact subscriptTail_builtinR (x:=w) pl.typeIs slot_tuple_getitem.lookup
  (getItem_tuple (j:=j) (Q:=λr s'=>r=w/\EP X pins σ Q r s') pl (by omega) (by omega) (by rw[List.size_toArray,<-hl];exact h1) (by simpa using ew) ⟨rfl,fin⟩) hs
theorem zFA:IxR X zAV:=by
 intro value slice pins s σ H x y v u Q I rx ry h hs
 obtain⟨z,i,c,rfl,rfl,hz,he,q⟩:=h
 obtain⟨t,rfl⟩:=rx
 obtain⟨t',rfl⟩:=ry
 obtain⟨j,h1,h2,h3,h4,h5⟩:=tI he
 have hl:z.cps.toList.length=z.length:=by simp[Str.length]
 rw[hl]at h1 h4 h5
 have hn:=jU
 exact tail_any (typeIs_str s z t) slot_str_getitem.lookup (getItem_str (c:=c) (by
  have e1:decide (i < -(2 ^ 63:Int))=false:=decide_eq_false (by omega)
  have e2:decide (i>=2 ^ 63)=false:=decide_eq_false (by omega)
  rw[e1,e2,Bool.or_false]) (by rw[h1];simpa using h2) ⟨.str ⟨#[c]⟩,H,I.tok _,⟨_,rfl⟩,q⟩) hs
def rIx(K:W.Frag):R2:=λx y H Q=>zAW K x y H Q\/zAU K x y H Q\/zAV x y H Q
theorem ix_seq:IxR X (rIx X.K):=ix_list.or (ix_tup.or zFA)
theorem zBR(its:List Value)(n j:Nat)(u:Value):Obj.mapSeq (·.setIfInBounds j u) {cls:=.type "list",data:=.seq its.toArray n}={cls:=.type "list",data:=.seq (its.set j u).toArray n}:=by
 simp[Obj.mapSeq]
theorem Inv.lst{pins:List (Addr×Obj)}{σ:St}{H:Hp}{s:Shared}{p:Addr}{xs:List V}(I:Inv X pins σ H s)(h:H p=some (.lst xs)):
  ∃(its:List Value) (n:Nat),Vals xs its/\s.heap.get? p=some {cls:=.type "list",data:=.seq its.toArray n}/\xs.length<=sizeLine:=by
 obtain⟨z,its,n,r,e⟩:=I.hok p _ h
 exact⟨its,n,r,e,z⟩
theorem Inv.lstUpd{pins:List (Addr×Obj)}{σ:St}{H:Hp}{s:Shared}{p:Addr}{xs ys:List V}{its its':List Value}{n n':Nat}{f:Obj->Obj}(I:Inv X pins σ H s)(h:H p=some (.lst xs))
  (ho:s.heap.get? p=some {cls:=.type "list",data:=.seq its.toArray n}) (hf:f {cls:=.type "list",data:=.seq its.toArray n}={cls:=.type "list",data:=.seq its'.toArray n'}) (r:Vals ys its') (hz:ys.length<=sizeLine) (t:Nat):
  Inv X pins σ (upd H p (.lst ys)) {s with heap:=s.heap.update p f,toks:=t}:=by
 have e:(s.heap.update p f).get? p=some {cls:=.type "list",data:=.seq its'.toArray n'}:=by
  rw[Heap.get?_update_self f ho (by rw[hf]<;>rfl),hf]
 refine I.write (x:=p) (e:=p) (by rw[h];trivial) (.inl rfl) (λb u hb q=>(Heap.get?_update_other _ _ (Ne.symm hb)).trans q) ⟨_,e⟩ ?_
 exact⟨hz,its',n',r,e⟩
def zF2:V->V->V->Hp->(Hp->Prop)->Prop:=λo i v H Q=>∃p xs k j,o=.ref p/\i=.int k/\H p=some (.lst xs)/\ixN xs.length k=some j/\Q (upd H p (.lst (xs.set j v)))
theorem zC3:zBb X zF2:=by
 intro pins s σ H o i v ov iv u Q I ro ri rv h
 obtain⟨p,xs,k,j,rfl,rfl,hp,hj,q⟩:=h
 cases ro
 obtain⟨t,rfl⟩:=ri
 obtain⟨its,n,r,ho,hz⟩:=I.lst hp
 obtain⟨h1,h2,h3,h4⟩:=zM hj
 have hl:=r.length
 have hn:=jU
 have I':Inv X pins σ (upd H p (.lst (xs.set j v))) {s with heap:=s.heap.update p (Obj.mapSeq (·.setIfInBounds j u))}:=
  I.lstUpd hp ho (zBR its n j u) (r.set rv j) (by rw[List.length_set];exact hz) s.toks
 by_cases h0:0<=k
 ·have hk:k.toNat=j:=by
   rw[seqIndex_of h0 h4]at h1
   exact Option.some.inj h1
  exact PySem.W.ki_setAt ho h0 (by omega) (by rw[List.size_toArray,<-hl];exact h4) (by rw[hk];exact⟨_,I',q⟩)
 ·have hk:(k+(its.toArray.size:Int)).toNat=j:=by
   rw[seqIndex_neg (by omega) h3]at h1
   rw[List.size_toArray,<-hl]
   exact Option.some.inj h1
  exact PySem.W.ki_setBack ho (by omega) (by rw[List.size_toArray,<-hl];exact h3) (by omega) (by rw[hk];exact⟨_,I',q⟩)
theorem zBs(lo hi:Option Int)(n:Nat):(sliceBounds lo hi none n).1=((HT.sIx n 0 lo:Nat):Int)/\(sliceBounds lo hi none n).2.1=((HT.sIx n n hi:Nat):Int)/\(sliceBounds lo hi none n).2.2=1:=by
 refine⟨?_,?_,rfl⟩
 ·cases lo with
  |none=>simp[sliceBounds,HT.sIx]
  |some i=>
   simp only[sliceBounds,HT.sIx,Option.getD_none,show(1:Int) > 0 by decide,if_true]
   by_cases h:i<0
   ·simp only[h,if_true]<;>omega
   ·simp only[h,if_false]<;>omega
 ·cases hi with
  |none=>simp[sliceBounds,HT.sIx]
  |some i=>
   simp only[sliceBounds,HT.sIx,Option.getD_none,show(1:Int) > 0 by decide,if_true]
   by_cases h:i<0
   ·simp only[h,if_true]<;>omega
   ·simp only[h,if_false]<;>omega
theorem zBk(its:List Value)(lo hi:Option Int):slicePick its.toArray lo hi none=((its.drop (HT.sIx its.length 0 lo)).take (HT.sIx its.length its.length hi-HT.sIx its.length 0 lo)).toArray:=by
 obtain⟨h1,h2,h3⟩:=zBs lo hi its.toArray.size
 unfold slicePick
 rw[h1,h2,h3]
 simp only[sliceRange_one,pick_run,List.size_toArray]<;>rfl
def zG1(K:W.Frag):V->Option Int->Option Int->Hp->VK->Prop:=λx lo hi H Q=>∃a xs,x=.ref a/\SqL K H a xs/\∀p,H p=none->Q (.ref p) (upd H p (.lst (fB xs lo hi)))
theorem sl_list:SlR X (zG1 X.K):=by
 intro pins s σ H x v vl vu lo hi sl Q I rx hs pl pu h
 obtain⟨a,xs,rfl,hx,q⟩:=h
 cases rx
 obtain⟨its,r,ht,hz⟩:=I.list hx
 have hlen:=r.length
 refine⟨"list",_,slot_list_getitem.lookup,ht.isList.typeIs,?_⟩
 refine wpAny_getItem_list_slice ht.isList hs pl pu .none (by simp) ?_ (by rw[List.size_toArray]<;>omega)
 rw[zBk,<-hlen]
 refine⟨.ref s.heap.objs.size,_,I.laid (t':=s.toks) (o:=.lst (fB xs lo hi)) (λb ob q=>Heap.get?_push_of_some _ q) (Nat.le_refl _) ?_,rfl,q _ (I.hok.fresh (Nat.le_refl _))⟩
 exact⟨Nat.le_trans (wD xs lo hi) hz,_,0,(r.drop (HT.sIx xs.length 0 lo)).take (HT.sIx xs.length xs.length hi-HT.sIx xs.length 0 lo),Heap.get?_push_size _ rfl⟩
def cV:V->Bool
 |.non=>true
 |.bl _=>true
 |.int _=>true
 |.str _=>true
 |_=>false
def eqV:V->V->Bool
 |.non,.non=>true
 |.bl a,.bl b=>a==b
 |.bl a,.int b=>(if a then 1 else 0)==b
 |.int a,.bl b=>a==(if b then 1 else 0)
 |.int a,.int b=>a==b
 |.str a,.str b=>a==b
 |_,_=>false
theorem zAx{A:Around}{s:Shared}{y x:V}{u v:Value}(ry:RelV y u)(rx:RelV x v)(fy:cV y=true)(fx:cV x=true):SeqAt.EqAt A s u v (eqV y x):=by
 cases y with
 |non=>
  cases ry
  cases x with
  |non=>cases rx;exact SeqAt.EqAt.same _
  |bl b=>cases rx;exact SeqAt.EqAt.none_bool b
  |int b=>obtain⟨t,rfl⟩:=rx;exact SeqAt.EqAt.none_int b t
  |str b=>obtain⟨t,rfl⟩:=rx;exact SeqAt.EqAt.none_str b t
  |_=>exact absurd (show false=true from fx) Bool.false_ne_true
 |bl a=>
  cases ry
  cases x with
  |non=>cases rx;exact SeqAt.EqAt.bool_none a
  |bl b=>cases rx;exact SeqAt.EqAt.bool_bool a b
  |int b=>obtain⟨t,rfl⟩:=rx;exact SeqAt.EqAt.bool_int a b t
  |str b=>obtain⟨t,rfl⟩:=rx;exact SeqAt.EqAt.bool_str a b t
  |_=>exact absurd (show false=true from fx) Bool.false_ne_true
 |int a=>
  obtain⟨t',rfl⟩:=ry
  cases x with
  |non=>cases rx;exact SeqAt.EqAt.int_none a t'
  |bl b=>cases rx;exact SeqAt.EqAt.int_bool a t' b
  |int b=>obtain⟨t,rfl⟩:=rx;exact SeqAt.EqAt.int_int a t' b t
  |str b=>obtain⟨t,rfl⟩:=rx;exact SeqAt.EqAt.int_str a t' b t
  |_=>exact absurd (show false=true from fx) Bool.false_ne_true
 |str a=>
  obtain⟨t',rfl⟩:=ry
  cases x with
  |non=>cases rx;exact SeqAt.EqAt.str_none a t'
  |bl b=>cases rx;exact SeqAt.EqAt.str_bool a t' b
  |int b=>obtain⟨t,rfl⟩:=rx;exact SeqAt.EqAt.str_int a t' b t
  |str b=>obtain⟨t,rfl⟩:=rx;exact SeqAt.EqAt.str_str a t' b t
  |_=>exact absurd (show false=true from fx) Bool.false_ne_true
 |_=>exact absurd (show false=true from fy) Bool.false_ne_true
theorem op_notIn_str:OpR X (compareOp .NotIn) (λx y H Q=>∃i j,x=.str i/\y=.str j/\Q (.bl (!(!(Builtin.Str.occurrences j i 0 j.length 1).isEmpty))) H):=by
 intro pins s σ H x y v u Q I rx ry h
 obtain⟨i,j,rfl,rfl,q⟩:=h
 obtain⟨t,rfl⟩:=rx
 obtain⟨t',rfl⟩:=ry
 exact notIn_str ⟨.bl _,H,I,rfl,q⟩
theorem call_len_seq:CallR X (.builtin "len") (λxs H Q=>∃p ys,xs=[.ref p]/\(SqL X.K H p ys\/SqT X.K H p ys)/\Q (.int ys.length) H):=by
 intro pins s σ H xs us Q I r h
 obtain⟨p,ys,rfl,hq,q⟩:=h
 obtain⟨u,rfl,rx⟩:=cY r
 cases rx
 have hn:=jU
 rcases hq with hq|hq
 ·obtain⟨its,r',pl,hz⟩:=I.list hq
  have hlen:=r'.length
  exact Calls.call_len_list pl.isList (by simp only[List.size_toArray]<;>omega) ⟨.int ys.length,H,I.tok _,⟨s.toks+1,by rw[List.size_toArray,hlen]⟩,q⟩
 ·obtain⟨its,r',pl,hz⟩:=I.tuple hq
  have hlen:=r'.length
  exact len_tuple pl (by simp only[List.size_toArray]<;>omega) ⟨.int ys.length,H,I.tok _,⟨s.toks+1,by rw[List.size_toArray,hlen]⟩,q⟩
theorem call_len_str:CallR X (.builtin "len") (λxs H Q=>∃z,xs=[.str z]/\z.length<=sizeLine/\Q (.int z.length) H):=by
 intro pins s σ H xs us Q I r h
 obtain⟨z,rfl,hz,q⟩:=h
 obtain⟨u,rfl,t,rfl⟩:=cY r
 have hn:=jU
 exact len_str (by omega) ⟨.int z.length,H,I.tok _,⟨_,rfl⟩,q⟩
theorem CallR.or{f:Value}{r r':List V->Hp->VK->Prop}(h:CallR X f r)(h':CallR X f r'):CallR X f (λxs H Q=>r xs H Q\/r' xs H Q):=by
 intro pins s σ H xs us Q I rs q
 rcases q with q|q
 ·exact h pins s σ H xs us Q I rs q
 ·exact h' pins s σ H xs us Q I rs q
theorem vW:CallR X (.type "list") (λxs H Q=>∃p ys,xs=[.ref p]/\(SqL X.K H p ys\/SqT X.K H p ys)/\∀l,H l=none->Q (.ref l) (upd H l (.lst ys))):=by
 intro pins s σ H xs us Q I r h
 obtain⟨p,ys,rfl,hq,q⟩:=h
 obtain⟨u,rfl,rx⟩:=cY r
 cases rx
 have fin:∀(its:List Value),Vals ys its->ys.length<=sizeLine->∀(h':Heap) (c':Nat),(∀b o',s.heap.get? b=some o'->h'.get? b=some o') ->
   h'.get? s.heap.objs.size=some {cls:=.type "list",dict:=none,data:=.seq its.toArray c',slots:=#[]}->EP X pins σ Q (.ref s.heap.objs.size) {s with heap:=h'}:=λits r' hz h' c' kp e=>
  ⟨.ref s.heap.objs.size,_,I.laid (t':=s.toks) kp (Nat.le_refl _) (show ObjOk X.prog X.w _ h' _ (.lst ys) from ⟨hz,its,c',r',e⟩),rfl,q _ (I.hok.fresh (Nat.le_refl _))⟩
 rcases hq with hq|hq
 ·obtain⟨its,r',pl,hz⟩:=I.list hq
  have hlen:=r'.length
  obtain⟨o,ho,hc,n,hd⟩:=pl.isList
  exact call_list_seq p (.inl rfl) ho hc hd (λh' c' kp e=>fin its r' hz h' c' kp e) (by simp only[List.size_toArray]<;>omega)
 ·obtain⟨its,r',pl,hz⟩:=I.tuple hq
  have hlen:=r'.length
  obtain⟨o,ho,hc,n,hd⟩:=pl
  exact call_list_seq p (.inr rfl) ho hc hd (λh' c' kp e=>fin its r' hz h' c' kp e) (by simp only[List.size_toArray]<;>omega)
theorem zBo:CallR X (.type "tuple") (λxs H Q=>∃p ys,xs=[.ref p]/\((SqL X.K H p ys/\∀l,H l=none->Q (.ref l) (upd H l (.tup ys)))\/(SqT X.K H p ys/\Q (.ref p) H))):=by
 intro pins s σ H xs us Q I r h
 obtain⟨p,ys,rfl,h⟩:=h
 obtain⟨u,rfl,rx⟩:=cY r
 cases rx
 rcases h with⟨hq,q⟩|⟨hq,q⟩
 ·obtain⟨its,r',pl,hz⟩:=I.list hq
  have hlen:=r'.length
  refine call_tuple_list pl.isList (λh' kp=>?_) (by simp only[List.size_toArray]<;>omega)
  have I1:Inv X pins σ H {s with heap:=h'}:=I.kept (t':=s.toks) kp
  have I2:Inv X pins σ (upd H h'.objs.size (.tup ys)) {s with heap:=h'.push {cls:=.type "tuple",data:=.seq its.toArray}}:=
   I1.laid (t':=s.toks) (λb o e=>Heap.get?_push_of_some _ e) (Nat.le_refl _) (show ObjOk X.prog X.w _ _ _ (.tup ys) from ⟨hz,its,r',IsTup.new _ _⟩)
  exact⟨.ref h'.objs.size,_,I2,rfl,q _ (I1.hok.fresh (Nat.le_refl _))⟩
 ·obtain⟨its,r',pl,hz⟩:=I.tuple hq
  exact call_tuple_same pl ⟨.ref p,H,I,rfl,q⟩
def tyV(K:W.Frag)(T:String)(x:V)(H:Hp):Prop:=match x with
 |.str _=>T="str"
 |.int _=>T="int"
 |.ref p=>(T="list"/\∃xs,SqL K H p xs)\/(T="tuple"/\∃o,K.lookup p=some o/\o.cls=.type "tuple"/\o.dict=none) \/
   (T="dict"/\((∃kvs,H p=some (.dK kvs))\/∃kvs,H p=some (.dT kvs)))\/(T="set"/\∃S n,H p=some (.set S n))
 |_=>False
theorem zAa{pins:List (Addr×Obj)}{σ:St}{H:Hp}{s:Shared}{T:String}{x:V}{v:Value}(I:Inv X pins σ H s)(r:RelV x v)(ty:tyV X.K T x H):
  s.TypeIs v T/\∀a,v=.ref a->∃ob,s.heap.get? a=some ob/\ob.dict=none:=by
 cases x with
 |str z=>
  obtain⟨t,rfl⟩:=r
  cases (show T="str" from ty)
  exact⟨typeIs_str s z t,λ_ e=>nomatch e⟩
 |int i=>
  obtain⟨t,rfl⟩:=r
  cases (show T="int" from ty)
  exact⟨typeIs_int s i t,λ_ e=>nomatch e⟩
 |ref p=>
  cases r
  rcases ty with⟨rfl,xs,hq⟩|⟨rfl,o,hk,hc,hd⟩|⟨rfl,hk⟩|⟨rfl,S,n,hk⟩
  ·obtain⟨its,_,pl,_⟩:=I.list hq
   refine⟨pl.isList.typeIs,λa e=>?_⟩
   cases e
   obtain⟨o,n,e,c,hd,_⟩:=pl
   exact⟨o,e,hd⟩
  ·refine⟨⟨o,I.kIn p o hk,hc⟩,λa e=>?_⟩
   cases e
   exact⟨o,I.kIn _ o hk,hd⟩
  ·have z:∃o,s.heap.get? p=some o/\o.ExactDict:=by
    rcases hk with⟨kvs,hk⟩|⟨kvs,hk⟩
    ·obtain⟨_,_,_,_,o,_,_,e,ex,_⟩:=I.hok p _ hk
     exact⟨o,e,ex⟩
    ·obtain⟨_,_,_,_,o,_,_,e,ex,_⟩:=I.hok p _ hk
     exact⟨o,e,ex⟩
   obtain⟨o,e,ex⟩:=z
   refine⟨⟨o,e,ex.1⟩,λa e2=>?_⟩
   cases e2
   exact⟨o,e,ex.2.1⟩
  ·obtain⟨o,_,_,_,e,ex,_⟩:=I.hok p _ hk
   refine⟨⟨o,e,ex.1⟩,λa e2=>?_⟩
   cases e2
   exact⟨o,e,ex.2.1⟩
 |_=>exact False.elim ty
def zGT(K:W.Frag)(T:String)(r:V->List V->Hp->VK->Prop)(to:TE):TE:=λσ H Q=>to σ H λx H1=>tyV K T x H1/\r x [] H1 Q
def tBM(K:W.Frag)(T:String)(r:V->List V->Hp->VK->Prop)(to:TE)(t:TA):TE:=λσ H Q=>to σ H λx H1=>tyV K T x H1/\t σ H1 λxs H2=>r x xs H2 Q
variable{o e:Expr}{es:List Expr}{to:TE}{t:TA}{name:Str}{apos cpos:Pos}{T id:String}{r:V->List V->Hp->VK->Prop}
theorem zAp(pa:PlainAttrs T)(slot:Slot T name id)(hty:typeOf (.builtin id)=pure (.type "method_descriptor"))(hm:MtR X id r)(ho:PE X o to)
  (hbase:attributeBase o name X.env (eval o X.env)=eval o X.env:=by rfl) (hline:(apos.endLine==cpos.line)=true:=by rfl):PE X (.Call (.Attribute o name apos) [] [] cpos) (zGT X.K T r to):=by
 intro pins s σ H Q I h
 refine wpAny_Call_method0_late hbase hline (thn (ho pins s σ H _ I h) λv s1 ⟨x,H1,I1,r1,ty,q1⟩=>?_)
 obtain⟨h1,h2⟩:=zAa I1 r1 ty
 exact⟨T,id,pa,slot,hty,h1,h2,Calls.callWith_builtin rfl (PySem.evalArgs_none (hm pins s1 σ H1 x [] v [] Q I1 r1 .nil q1))⟩
theorem jY(pa:PlainAttrs T)(slot:Slot T name id)(hty:typeOf (.builtin id)=pure (.type "method_descriptor"))(hm:MtR X id r)(ho:PE X o to)(ha:PA X (e::es) t)
  (hbase:attributeBase o name X.env (eval o X.env)=eval o X.env:=by rfl)
  (hfew:((backTo cpos (starEach (e::es) X.env)).all (λx=>!x.1)&&(backToKw cpos (keywordEach [] X.env)).all (λx=>x.1.isSome)
   && decide ((e::es).length+([]:List Keyword).length+(if ([]:List Keyword).isEmpty then 0 else 1)<30))=true:=by rfl)
  (hline:(apos.endLine==cpos.line)=true:=by rfl) (hs:starEach (e::es) X.env=(false,eval e X.env)::starEach es X.env:=by rfl) (hplain:(backTo cpos (starEach es X.env)).any (·.1)=false:=by rfl):
  PE X (.Call (.Attribute o name apos) (e::es) [] cpos) (tBM X.K T r to t):=by
 intro pins s σ H Q I h
 refine wpAny_Call_method_late hbase hfew hline rfl (thn (ho pins s σ H _ I h) λv s1 ⟨x,H1,I1,r1,ty,q1⟩=>?_)
 obtain⟨h1,h2⟩:=zAa I1 r1 ty
 refine⟨T,id,pa,slot,hty,h1,h2,?_⟩
 have hA:=ha cpos pins s1 σ H1 _ I1 q1
 rw[hs]at hA ⊢
 refine Calls.callWith_builtin (by show(false || (backTo cpos (starEach es X.env)).any (·.1))=false;rw[hplain]<;>rfl) (Calls.evalArgs_plain ?_)
 exact thn hA λus s2 ⟨vs,H2,I2,r2,q2⟩=>hm pins s2 σ H2 x vs v us Q I2 r1 r2 q2
end
end L2
namespace L2
open PySem PySem.Spec PyProof.Rows
def MtM(X:Cx)(id:String)(r:V->List V->Hp->VK->Prop):Prop:=
 ∀(pins:List (Addr×Obj)) (s:Shared) (σ:St) (H:Hp) (x:V) (xs:List V) (v:Value) (us:List Value) (Q:VK),Inv X pins σ H s->RelV x v->Vals xs us->r x xs H Q ->
  wpAny (model X.prog X.w) X.A (call (.builtin id) (v::us)) (EP X pins σ Q) X.xe s
theorem Vals.one:∀{x:V}{us:List Value},Vals [x] us->∃u,us=[u]/\RelV x u
 |_,_,.cons r .nil=>⟨_,rfl,r⟩
theorem Vals.zero:∀{us:List Value},Vals [] us->us=[]
 |_,.nil=>rfl
theorem Vals.dropLast{xs:List V}{us:List Value}(h:Vals xs us):Vals xs.dropLast us.dropLast:=by
 induction h with
 |nil=>exact .nil
 |cons r t ih=>
  cases t with
  |nil=>exact .nil
  |cons q t'=>exact .cons r ih
theorem Vals.eraseIdx:∀{xs:List V}{us:List Value}(i:Nat),Vals xs us->Vals (xs.eraseIdx i) (us.eraseIdx i)
 |_,_,_,.nil=>.nil
 |_,_,0,.cons _ t=>t
 |_,_,i+1,.cons r t=>.cons r (Vals.eraseIdx i t)
theorem Vals.reverse{xs:List V}{us:List Value}(h:Vals xs us):Vals xs.reverse us.reverse:=by
 induction h with
 |nil=>exact .nil
 |cons r t ih=>rw[List.reverse_cons,List.reverse_cons];exact Vals.append ih (.cons r .nil)
theorem Vals.rep{xs:List V}{us:List Value}(h:Vals xs us):∀k:Nat,Vals (List.replicate k xs).flatten (List.replicate k us).flatten
 |0=>.nil
 |k+1=>by
  rw[List.replicate_succ,List.replicate_succ,List.flatten_cons,List.flatten_cons]
  exact Vals.append h (Vals.rep h k)
theorem zBV{α:Type}(l:List α):l.eraseIdx (l.length-1)=l.dropLast:=by
 induction l with
 |nil=>rfl
 |cons a r ih=>
  cases r with
  |nil=>rfl
  |cons b r=>
   have e:(a::b::r).length-1=((b::r).length-1)+1:=by
    have h1:(a::b::r).length=r.length+2:=rfl
    have h2:(b::r).length=r.length+1:=rfl
    omega
   rw[e,List.eraseIdx_cons_succ,ih]
   all_goals rfl
theorem xA{α:Type}:∀(l:List α) (i:Nat),(l.eraseIdx i).length<=l.length
 |[],_=>Nat.le_refl _
 |_::_,0=>Nat.le_succ _
 |_::r,i+1=>Nat.succ_le_succ (xA r i)
theorem xE(its:List Value):∀(k:Nat) (acc:List Value),
  List.foldl (λx1 x2=>x1++x2) acc.toArray (List.replicate k its.toArray)=(acc++(List.replicate k its).flatten).toArray
 |0,acc=>by simp
 |k+1,acc=>by
  have e:acc.toArray++its.toArray=(acc++its).toArray:=by simp
  have e2:(acc++its)++(List.replicate k its).flatten=acc++(List.replicate (k+1) its).flatten:=by
   rw[List.replicate_succ,List.flatten_cons,List.append_assoc]
  rw[<-e2,<-xE its k (acc++its),<-e,List.replicate_succ,List.foldl_cons]
section
variable{X:Cx}{pins:List (Addr×Obj)}{σ:St}{H:Hp}{s:Shared}{l b:Addr}{xs ys zs:List V}
theorem Inv.lset{its its':List Value}{n:Nat}{f:Array Value->Array Value}{t':Nat}(I:Inv X pins σ H s)(hH:H l=some (.lst xs))
  (e:s.heap.get? l=some {cls:=.type "list",data:=.seq its.toArray n}) (hf:f its.toArray=its'.toArray) (hv:Vals ys its') (hz:ys.length<=sizeLine):
  Inv X pins σ (upd H l (.lst ys)) {s with heap:=s.heap.update l (Obj.mapSeq f),toks:=t'}:=by
 have q:=PySem.IsL.update e f
 rw[hf]at q
 refine I.write (x:=l) (e:=l) (by rw[hH];exact trivial) (.inl rfl) (λb' u hb hu=>(Heap.get?_update_other s.heap (Obj.mapSeq f) (Ne.symm hb)).trans hu) ⟨_,q⟩ ?_
 exact⟨hz,its',_,hv,q⟩
theorem Inv.lnew{its:List Value}{t':Nat}(I:Inv X pins σ H s)(hv:Vals ys its)(hz:ys.length<=sizeLine):
  Inv X pins σ (upd H s.heap.objs.size (.lst ys)) {s with heap:=s.heap.push {cls:=.type "list",data:=.seq its.toArray},toks:=t'}:=
 I.laid (λ_ _ q=>Heap.get?_push_of_some _ q) (Nat.le_refl _) ⟨hz,its,0,hv,Heap.get?_push_size _ rfl⟩
theorem Inv.fresh(I:Inv X pins σ H s):H s.heap.objs.size=none:=I.hok.fresh (Nat.le_refl _)
theorem Inv.lstM(I:Inv X pins σ H s)(hH:H l=some (.lst xs)):xs.length<=sizeLine/\∃(its:List Value) (n:Nat),Vals xs its/\xs.length=its.length/\s.heap.get? l=some {cls:=.type "list",data:=.seq its.toArray n}:=by
 obtain⟨z,its,n,r,e⟩:=I.hok l _ hH
 exact⟨z,its,n,r,r.length,e⟩
theorem xV{n:Nat}(h:n<=sizeLine):Builtin.List.listTooLong n=false:=by
 unfold Builtin.List.listTooLong
 exact decide_eq_false (by omega)
end
section
variable{X:Cx}
def zDW:V->List V->Hp->VK->Prop:=λx vs H Q=>∃l xs y,x=.ref l/\vs=[y]/\H l=some (.lst xs)/\xs.length<sizeLine/\Q .non (upd H l (.lst (xs++[y])))
theorem mU:MtM X "list.append" zDW:=by
 intro pins s σ H x vs v us Q I rx rv h
 obtain⟨l,xs,y,rfl,rfl,hH,hz,q⟩:=h
 cases rx
 obtain⟨u,rfl,ru⟩:=rv.one
 obtain⟨z,its,n,r,hl,e⟩:=I.lstM hH
 refine call_meets F.slot_list_append ⟨_,e,rfl⟩ F.entry_list_append (F.args_list_append_2 _ _) (PySem.list_append l its.toArray n u (by rw[List.size_toArray];omega)) ⟨e,?_⟩
 refine⟨.non,_,I.lset (its':=its++[u]) hH e (by simp) (r.append (.cons ru .nil)) ?_,rfl,q⟩
 rw[List.length_append,List.length_singleton]
 omega
def zG4:V->List V->Hp->VK->Prop:=λx vs H Q=>∃l xs y,x=.ref l/\vs=[]/\H l=some (.lst xs)/\xs[xs.length-1]?=some y/\Q y (upd H l (.lst xs.dropLast))
theorem zFs:MtM X "list.pop" zG4:=by
 intro pins s σ H x vs v us Q I rx rv h
 obtain⟨l,xs,y,rfl,rfl,hH,hy,q⟩:=h
 cases rx
 have hus:=rv.zero
 subst hus
 obtain⟨z,its,n,r,hl,e⟩:=I.lstM hH
 obtain⟨u,hu,ru⟩:=r.get hy
 have hy':its.toArray[its.toArray.size-1]?=some u:=by
  show its.toArray[its.length-1]?=some u
  rw[<-Array.getElem?_toList,<-hl]
  exact hu
 refine call_meets F.slot_list_pop ⟨_,e,rfl⟩ F.entry_list_pop (F.args_list_pop_1 _) (MeetsSeq.list_pop_last l its.toArray n u hy' (by rw[List.size_toArray];omega)) ⟨e,?_⟩
 refine⟨y,_,I.lset (its':=its.dropLast) hH e ?_ r.dropLast ?_,ru,q⟩
 ·show its.toArray.eraseIdxIfInBounds (its.toArray.size-1)=its.dropLast.toArray
  rw[List.size_toArray,List.eraseIdxIfInBounds_toArray,zBV]
 ·rw[List.length_dropLast]
  omega
def zEX:V->List V->Hp->VK->Prop:=λx vs H Q=>∃l xs i k y,x=.ref l/\vs=[.int i]/\H l=some (.lst xs) /\ -(2 ^ 63)<=i/\i<2 ^ 63/\seqIndex? i xs.length=some k/\xs[k]?=some y/\Q y (upd H l (.lst (xs.eraseIdx k)))
theorem zDg:MtM X "list.pop" zEX:=by
 intro pins s σ H x vs v us Q I rx rv h
 obtain⟨l,xs,i,k,y,rfl,rfl,hH,h1,h2,hk,hy,q⟩:=h
 cases rx
 obtain⟨u,rfl,ru⟩:=rv.one
 obtain⟨t,rfl⟩:=ru
 obtain⟨z,its,n,r,hl,e⟩:=I.lstM hH
 obtain⟨w,hw,rw'⟩:=r.get hy
 refine call_meets F.slot_list_pop ⟨_,e,rfl⟩ F.entry_list_pop (F.args_list_pop_2 _ _)
  (MeetsSeq.list_pop_at l its.toArray n i t k w (fitsIndex_both h1 h2) (by rw[List.size_toArray,<-hl];exact hk) (by rw[<-Array.getElem?_toList];exact hw) (by rw[List.size_toArray];omega)) ⟨e,?_⟩
 refine⟨y,_,I.lset (its':=its.eraseIdx k) hH e ?_ (r.eraseIdx k) ?_,rw',q⟩
 ·show its.toArray.eraseIdxIfInBounds k=(its.eraseIdx k).toArray
  rw[List.eraseIdxIfInBounds_toArray]
 ·have:=xA xs k
  omega
def zEY:V->List V->Hp->VK->Prop:=λx vs H Q=>∃l xs,x=.ref l/\vs=[]/\H l=some (.lst xs)/\Q .non (upd H l (.lst []))
theorem zDh:MtM X "list.clear" zEY:=by
 intro pins s σ H x vs v us Q I rx rv h
 obtain⟨l,xs,rfl,rfl,hH,q⟩:=h
 cases rx
 have hus:=rv.zero
 subst hus
 obtain⟨z,its,n,r,hl,e⟩:=I.lstM hH
 refine call_meets F.slot_list_clear ⟨_,e,rfl⟩ F.entry_list_clear (F.args_list_clear_1 _) (AutoSeq1.list_clear_list_0 l its.toArray n (by rw[List.size_toArray];omega)) ⟨e,?_⟩
 exact⟨.non,_,I.lset (its':=[]) (ys:=[]) hH e rfl .nil (Nat.zero_le _),rfl,q⟩
theorem tD{α:Type}(xs:List α)(k:Nat):(List.replicate k xs).flatten.length=k*xs.length:=by
 induction k with
 |zero=>simp
 |succ k ih=>rw[List.replicate_succ,List.flatten_cons,List.length_append,ih,Nat.succ_mul,Nat.add_comm]
end
end L2
namespace Att
open PySem PySem.W PySem.Calls PyProof.Rows
theorem zBd{P:Params}{h:Heap}:∀(ns:List Int) (vs:List Value),WellAll P h vs (ns.map WData.int)->IntsAre vs ns:=by
 intro ns
 induction ns with
 |nil=>
  intro vs w
  rw[List.map_nil]at w
  cases w
  exact .nil
 |cons n ns ih=>
  intro vs w
  rw[List.map_cons]at w
  cases w with
  |cons a b=>
   cases a
   exact .cons _ _ (ih _ b)
theorem zCh{l:OpenLaw}{n:Nat}(hn:l.most=some n){P:Params}{h:Heap}{args:List WData}{vals:List Value}
  (hpre:l.row.toRowW.claim.pre args=true) (hwl:WellAll P h vals args):
  ∃a vs ns,vals=[Value.ref a]/\args=[WData.list (ns.map WData.int)]/\h.get? a=some {cls:=.type "list",data:=.seq vs.toArray}/\IntsAre vs ns/\ns.length<=n:=by
 have hsh:WShape.hasAll [] args [.list .int]=true:=(pre_splitW hpre).1
 have hc:l.pre.holds [] {args:=args}=true:=(pre_splitW hpre).2
 obtain⟨d,r,rfl,h1,h2⟩:=hasAllW_cons hsh
 obtain rfl:=hasAllW_nil h2
 obtain⟨xs,rfl,h3⟩:=hasW_list h1
 obtain⟨ns,rfl⟩:=items_int h3
 have hlen:ns.length<=n:=by
  unfold OpenLaw.pre at hc
  have h4:(WTm.not (.lt (.lit (.int (n:Int))) (.len (.arg 0)))).holds [] {args:=[.list (ns.map .int)]}=true:=by
   have h4:=(holds_andW hc).1
   rw[hn]at h4
   exact h4
  have h5:=condW_of h4 (w_not (w_lt w_lit (w_len_list (w_arg rfl))))
  rw[List.length_map]at h5
  refine Nat.le_of_not_lt λq=>?_
  have q':(n:Int)<((ns.length:Nat):Int):=by omega
  first
   |(rw[decide_eq_true q']at h5;exact absurd h5 (by decide))
   |(simp at h5;omega)
 cases hwl with
 |cons w1 w2=>
  cases w2
  cases w1 with
  |list ho hall=>exact⟨_,_,ns,rfl,rfl,ho,zBd ns _ hall,hlen⟩
theorem zCm(l:OpenLaw)(args:List WData):l.row.toRowW.claim.post args (.bool true) args=true:=
 postW_of (r:=l.row.toRowW) (X:=(true==true))
  (show WShape.has [] (.bool true) .bool=true by first|rfl|decide|simp[WShape.has,WShape.arms,WShape.armsAll])
  (show(WTm.eq .res (.lit (.bool true))).value [] {args:=args,res:=some (.bool true),after:=args}=some (.bool (true==true)) from w_eq_bool (w_res rfl) w_lit) rfl
theorem attach_call{l:OpenLaw}{n:Nat}{q:Program}{loose:List Str}{XP:(Str->Option Value)->Heap->Prop}{YP:World->Heap->Prop}{d:DefRec}
  (hn:l.most=some n) (hdf:d.params.defaults=[])
  (call:∀(w:World) (s₀ s₁:Shared) (mg mb:Str->Option Value) (fa:Addr) (o:Obj) (pm cd doc:Value) (a:Addr) (vs:List Value) (ns:List Int),
   Ground q loose [] XP w s₀ mg mb s₁.heap->YP w s₁.heap ->
   s₁.heap.get? fa=some o->o.data=.func (docDef d.name d.params d.body d.scope pm cd doc)->s₁.heap.CodeRec cd d.name->mg d.name=some (.ref fa) ->
   s₁.heap.get? a=some {cls:=.type "list",data:=.seq vs.toArray}->IntsAre vs ns->ns.length<=n->s₁.gens=#[] ->
   codeAny (model l.prog w) callerA (.call (.ref fa) ⟨[.ref a],[]⟩) (λr s'=>r=.ok (.ret (.bool true))/\OldK s₁.heap s'.heap/\s'.os=s₁.os/\AllBare s'.gens) s₁):
  WalkO q loose XP YP l.row.toRowW d [] (λf vs=>PySem.call f vs):=by
 intro w s₀ s₁ mg mb G Y fa o pm cd doc dV kV ho hd hcd hD hmg hg args vals as hpre hlay hrd hwl hlo
 obtain rfl:dV=.none:=Dflts.none hD hdf
 obtain rfl:kV=.none:=Dflts.noKw hD
 obtain⟨a,vs,ns,rfl,rfl,hobj,hints,hlen⟩:=zCh hn hpre hwl
 refine enter_call (codeAny_mono (call w s₀ s₁ mg mb fa o pm cd doc a vs ns G Y ho (fd_plain hd) hcd hmg hobj hints hlen hg) λr s' hq=>?_)
 obtain⟨rfl,h2,h3,h4⟩:=hq
 exact⟨.inl ⟨.bool true,.bool true,[],rfl,λ_=>rfl,.bool true,zCm l _,λ_=>⟨List.Pairwise.nil,λ_ hm=>(nomatch hm)⟩⟩,h2,h3,h4⟩
end Att
namespace L2
open PySem PySem.Spec PyProof.Rows
theorem wR:∀{vs:List Value}{ns:List Int},IntsAre vs ns->Vals (ns.map V.int) vs
 |_,_,.nil=>.nil
 |_,_,.cons n t h=>.cons ⟨t,rfl⟩ (wR h)
def vP(H:Hp):Prop:=∀b,H b=none\/∃o xs,H b=some (.frz o (.lst xs))
theorem zDm{P:Program}{w:World}{K:W.Frag}{mg mb:Str->Option Value}{CX:CXT}{k:Nat}{fa a:Addr}{fd:FuncData}{x:Str}{sp:Sp}{s₁:Shared}{vs:List Value}{ns:List Int}
  (KX:K.In s₁.heap) (hns:s₁.heap.Ns mainGlobals mg) (hb:s₁.heap.Ns builtinsNs mb) (hbb:∀x:Str,x≠"__name__"->mb x=bootBuiltins x) (hlim:s₁.heap.NoLimit) (hg:s₁.gens=#[])
  (ha:s₁.heap.get? a=some {cls:=.type "list",data:=.seq vs.toArray}) (hi:IntsAre vs ns) (hl:ns.length<=sizeLine) (hr:Room k callerA)
  (F:∀base:Heap,K.In base->base.Ns mainGlobals mg->FnOk P w K mg base CX k fa fd [x] sp) (hbind:∀(s:Shared) (u:Value),BindsTo s fd ⟨[u],[]⟩ [(x,u)])
  (hsp:∀H:Hp,vP H->SqL K H a (ns.map V.int)->sp [.ref a] H (λv _=>v=.bl true) λ_ _ _=>False)
  (hCX:∀H e s',CX [] H s₁ (λ_ _ _=>False) e s'->False):
  codeAny (model P w) callerA (.call (.ref fa) ⟨[.ref a],[]⟩) (λr s'=>r=.ok (.ret (.bool true))/\OldK s₁.heap s'.heap/\s'.os=s₁.os/\AllBare s'.gens) s₁:=by
 have rv:=wR hi
 have lenV:=hi.length
 -- from an abstract heap in which nothing but the script may be tracked
 have core:∀H:Hp,vP H->SqL K H a (ns.map V.int)->HOk P w H s₁.heap->(∀b,H b≠none->b=a)->(H a≠none->K.lookup a=none) ->
   codeAny (model P w) callerA (.call (.ref fa) ⟨[.ref a],[]⟩) (λr s'=>r=.ok (.ret (.bool true))/\OldK s₁.heap s'.heap/\s'.os=s₁.os/\AllBare s'.gens) s₁:=by
  intro H hO hS hok hA hK
  have base_of:∀{b:Addr} {o:Obj},s₁.heap.get? b=some o->H b=none->(gO s₁.heap H).get? b=some o:=λe n=>zDr e n
  have noA:∀{b:Addr} {o:Obj} {es:Array DictEntry} {ep:Nat},s₁.heap.get? b=some o->o.data=.dict es ep->H b=none:=λ{b o es ep} e d=>by
   cases q:H b with
   |none=>rfl
   |some u=>
    have e':b=a:=hA b (by rw[q];simp)
    subst e'
    rw[ha]at e;cases e
    have d':Data.seq vs.toArray _=Data.dict es ep:=d
    cases d'
  have nsK:∀{b:Addr} {m:Str->Option Value},s₁.heap.Ns b m->(gO s₁.heap H).Ns b m:=λ{b m} ⟨o,es,ep,e,d,r⟩=>⟨o,es,ep,base_of e (noA e d),d,r⟩
  have hKb:K.In (gO s₁.heap H):=λb o e=>base_of (KX b o e) (by
   cases q:H b with
   |none=>rfl
   |some u=>
    have e':b=a:=hA b (by rw[q];simp)
    subst e'
    rw[hK (by rw[q];simp)]at e;cases e)
  have hM:Mod K mg (gO s₁.heap H):=⟨hKb,nsK hns,⟨mb,nsK hb,hbb⟩,let ⟨mc,h1,h2⟩:=hlim;⟨mc,nsK h1,h2⟩⟩
  have e0:pS P w K mg (gO s₁.heap H) callerA [] s₁ H:=⟨rfl,hM,λb o e=>zEe e,Nat.le_of_eq (zCF _ _),trivial,λb hb=>absurd (show b∈([]:List Addr) from hb) (by simp),hok,.of_eq hg⟩
  refine codeAny_mono ((F _ hKb (nsK hns)).run callerA [] s₁ H ⟨[.ref a],[]⟩ [.ref a] [.ref a] _ _ hr e0 (hbind s₁ (.ref a)) (.cons rfl .nil) (hsp H hO hS)) λr s' h=>?_
  cases r with
  |error e=>exact(hCX H e s' h).elim
  |ok fl=>
   cases fl with
   |next=>exact False.elim h
   |brk=>exact False.elim h
   |cont=>exact False.elim h
   |ret u=>
    obtain⟨v,H',os,bare,un,hok',r',q⟩:=h
    have q':v=.bl true:=q
    subst q'
    obtain rfl:u=Value.bool true:=r'
    refine⟨rfl,OldK.of_keep λb o e=>?_,os,bare⟩
    cases q:H b with
    |none=>exact un.keep b o e q (by intro z;exact absurd (show b∈([]:List Addr) from z) (by simp)) (by simp)
    |some u=>
     rcases hO b with z|⟨ob,xs,z⟩
     ·rw[q]at z;cases z
     ·have z2:=un.frzs b ob _ z
      obtain⟨e1,_⟩:=hok b _ z
      obtain⟨e2,_⟩:=hok' b _ z2
      rw[e]at e1;cases e1
      exact e2
 cases hk:K.lookup a with
 |some o=>
  -- the script is one of the module's own objects
  have e:=KX a o hk
  rw[ha]at e
  cases e
  refine core (λ_=>none) (λ_=>.inl rfl) (.inr ⟨_,vs.toArray,_,hk,rfl,rfl,rfl,by rw[List.size_toArray,lenV];exact hl,by simpa using rv⟩) (λb u z=>by have z':(none:Option HO)=some u:=z;cases z') (λb z=>absurd rfl z) λz=>absurd rfl z
 |none=>
  refine core (λb=>if b=a then some (.frz {cls:=.type "list",data:=.seq vs.toArray} (.lst (ns.map V.int))) else none) (λb=>?_) (.inl (.inr ⟨{cls:=.type "list",data:=.seq vs.toArray},if_pos rfl⟩)) (λb u z=>?_) (λb z=>?_) λ_=>hk
  ·by_cases hb:b=a
   ·exact .inr ⟨_,_,if_pos hb⟩
   ·exact .inl (if_neg hb)
  ·by_cases hb:b=a
   ·have z':=(if_pos hb).symm.trans z
    cases z'
    subst hb
    exact⟨ha,by rw[List.length_map];exact hl,vs,_,rv,ha⟩
   ·have z':=(if_neg hb).symm.trans z
    cases z'
  ·by_cases hb:b=a
   ·exact hb
   ·exact absurd (if_neg hb) z
end L2
namespace L2
open PySem PySem.Spec PyProof.Rows
theorem walk_of{l:W.OpenLaw}{n k:Nat}{q:Program}{loose:List Str}{XP:(Str->Option Value)->Heap->Prop}{YP:World->Heap->Prop}{d:DefRec}{K:Params->W.Frag}{CX:World->CXT}{sp:World->Sp}{x:Str}
  (hn:l.most=some n) (hn2:n<=sizeLine) (hdf:d.params.defaults=[]) (hr:Room k callerA)
  (hY:∀(w:World) (h:Heap),YP w h->(K w.params).In h)
  (F:∀(w:World) (mg:Str->Option Value) (fa:Addr) (h:Heap),(K w.params).In h->h.Ns mainGlobals mg->mg d.name=some (.ref fa) ->
   ∃fd:FuncData,(∀(s:Shared) (u:Value),BindsTo s fd ⟨[u],[]⟩ [(x,u)]) /\
    ∀base:Heap,(K w.params).In base->base.Ns mainGlobals mg->FnOk l.prog w (K w.params) mg base (CX w) k fa fd [x] (sp w))
  (hsp:∀(w:World) (H:Hp) (a:Addr) (ns:List Int),ns.length<=n->vP H->SqL (K w.params) H a (ns.map V.int)->sp w [.ref a] H (λv _=>v=.bl true) λ_ _ _=>False)
  (hCX:∀(w:World) (H:Hp) (s:Shared) (e:Value) (s':Shared),CX w [] H s (λ_ _ _=>False) e s'->False):
  PySem.W.WalkO q loose XP YP l.row.toRowW d [] (λf vs=>PySem.call f vs):=by
 refine Att.attach_call hn hdf λw s₀ s₁ mg mb fa o pm cd doc a vs ns G Y ho hd hcd hmg hobj hints hlen hg=>?_
 have KX:=hY w _ Y
 obtain⟨fd,hb,hF⟩:=F w mg fa _ KX G.T.g hmg
 exact zDm KX G.T.g G.T.b G.T.builtins G.T.nolimit hg hobj hints (Nat.le_trans hlen hn2) hr hF hb (λH hO hS=>hsp w H a ns hlen hO hS) λH e s'=>hCX w H s₁ e s'
end L2
namespace L2
open PySem PySem.Spec PyProof.Rows
def fQ(s:Stmt):Arguments:=match s with
 |.FunctionDef _ a _ _ _ _ _ _ _ _=>a
 |_=>{posonlyargs:=[],args:=[],vararg:=none,kwonlyargs:=[],kw_defaults:=[],kwarg:=none,defaults:=[]}
def eB(s:Stmt):List Stmt:=match s with
 |.FunctionDef _ _ b _ _ _ _ _ _ _=>b
 |_=>[]
def aO(s:Stmt):Scope:=match s with
 |.FunctionDef _ _ _ _ _ _ sc _ _ _=>sc
 |_=>{kind:=.function,names:=[],isGenerator:=false,isCoroutine:=false}
abbrev CX0:CXT:=λ_ _ _ _ _ _=>False
abbrev E0:XK:=λ_ _ _=>False
theorem zAH{X:Cx}:oI CX0 X E0:=λ_ _ _ _ _ _ _ h=>h.elim
structure Fun (K:W.Frag) (x qual:Str) (st:Stmt) (f:Addr) (fd:FuncData):Prop where
 ex:∃(oc:Value) (od:Option Addr) (kV doc pm:Value) (an:Option Addr) (cdv ct:Value) (osl:Array (Option Value)),
  fd=W.fnOf x qual (fQ st) (eB st) (aO st) .none kV doc pm an cdv ct/\K.lookup f=some ⟨oc,od,.func fd,osl⟩/\W.codeIn K cdv qual=true
 kp:W.keepIn K (.ref f)=true
section
variable{P:Program}{w:World}{K:W.Frag}{mg:Str->Option Value}{base:Heap}
theorem Fun.ok{x qual:Str}{st:Stmt}{f:Addr}{fd:FuncData}{N ps:List Str}{k:Nat}{sp:Sp}(F:Fun K x qual st f fd)(S:bD N ps (aO st))(len:∀vs H Q E,sp vs H Q E->vs.length=ps.length)
  (hbody:∀(cdv:Value) (A:Around) (outer:List Env) (s:Shared) (H:Hp) (vs:List V) (Q:VK) (E:XK),Room k (A.deeper (envOfC qual (aO st) s.heap.objs.size f cdv))->sp vs H Q E ->
   ∃t,PSs (gS CX0 P w K mg base N qual (aO st) f cdv A outer s H E).nox (eB st) t/\t {nx:=λ_ H'=>Q .non H',rt:=Q} (dJ N vs) H):FnOk P w K mg base CX0 (k+1) f fd ps sp:=by
 obtain⟨oc,od,kV,doc,pm,an,cdv,ct,osl,rfl,lk,hcd⟩:=F.ex
 refine zGv lk hcd S len λA outer s H vs Q E hr hsp=>?_
 obtain⟨t,h,q⟩:=hbody cdv A outer s H vs Q E hr hsp
 exact⟨t,h.nox,q⟩
theorem Fun.binds{x qual:Str}{st:Stmt}{f:Addr}{fd:FuncData}{ps:List Str}(F:Fun K x qual st f fd)
  (h:∀(kV doc pm:Value) (an:Option Addr) (cdv ct:Value) (us:List Value),us.length=ps.length->bindArgs (W.fnOf x qual (fQ st) (eB st) (aO st) .none kV doc pm an cdv ct) ⟨us,[]⟩=pure (ps.zip us)):Binds K fd ps []:=by
 obtain⟨oc,od,kV,doc,pm,an,cdv,ct,osl,rfl,lk,hcd⟩:=F.ex
 exact .all (h kV doc pm an cdv ct)
theorem zAw{x qual:Str}{st:Stmt}{f:Addr}{oc:Value}{od an:Option Addr}{osl:Array (Option Value)}{kV doc pm cdv ct:Value}(l:K.lookup f=some ⟨oc,od,.func (W.fnOf x qual (fQ st) (eB st) (aO st) .none kV doc pm an cdv ct),osl⟩)
  (c:W.codeIn K cdv qual=true) (k:W.keepIn K (.ref f)=true):Fun K x qual st f (W.fnOf x qual (fQ st) (eB st) (aO st) .none kV doc pm an cdv ct):=⟨⟨oc,od,kV,doc,pm,an,cdv,ct,osl,rfl,l,c⟩,k⟩
end
theorem zGs{A:Around}{k:Nat}(hr:Room k A):A.units+1<cLine:=Nat.lt_of_le_of_lt (Nat.add_le_add_left (by decide:1<=64) _) hr.units
theorem zCb{n:Nat}(h:n<=1000):n<sizeLine:=Nat.lt_of_le_of_lt h (by decide)
section
variable{X:Cx}
theorem pv(i:Nat){x:Str}{pos:Pos}(hN:X.N[i]?=some x:=by rfl)(hv:Vis X.env.scope x:=by first|exact Or.inl rfl|exact Or.inr (Or.inl rfl)|exact Or.inr (Or.inr rfl))(hd:(x==("__debug__":Str))=false:=by decide)
  (hcd:(x==("__classdict__":Str))=false:=by decide):PE X (.Name x pos) (zAQ i):=gG hN hv hd hcd
end
theorem bF{A B:Prop}(h:B):if false=true then A else B:=by
 rw[if_neg Bool.false_ne_true]
 exact h
theorem cC{A B:Prop}(h:A):if true=true then A else B:=by
 rw[if_pos rfl]
 exact h
theorem zHi{c A B:Prop}[Decidable c](h1:c->A)(h2:¬ c->B):if c then A else B:=by
 by_cases h:c
 ·rw[if_pos h]
  exact h1 h
 ·rw[if_neg h]
  exact h2 h
def Same(H H':Hp):Prop:=∀b o,H b=some o->H' b=some o
theorem Same.refl(H:Hp):Same H H:=λ_ _ h=>h
theorem Same.trans{H H1 H2:Hp}(a:Same H H1)(b:Same H1 H2):Same H H2:=λc o h=>b c o (a c o h)
theorem Same.free{H H':Hp}(e:Same H H'){l:Addr}(h:H' l=Option.none):H l=Option.none:=by
 cases q:H l with
 |none=>rfl
 |some o=>
  rw[e l o q]at h
  cases h
end L2
namespace L2
open PySem PySem.Spec PyProof.Rows
theorem pV{env:Env}:∀(names:List (Str×NameKind)) (acc:List (Str×Addr)),(∀y∈names,y.2=.free->∃c,env.cells.lookup y.1=some c) ->
  ∃cl,(forIn names acc (λ(x:Str×NameKind) (cs:List (Str×Addr))=>if (x.2==NameKind.free)=true then(do let c <- cellOf env x.1;pure (ForInStep.yield ((x.1,c)::cs))) else pure (ForInStep.yield cs)):Sem (List (Str×Addr)))=pure cl /\
   (∀x c,cl.lookup x=some c->env.cells.lookup x=some c\/acc.lookup x=some c)/\(∀x c,acc.lookup x=some c->∃c',cl.lookup x=some c')/\∀y∈names,y.2=.free->∃c,cl.lookup y.1=some c
 |[],acc,_=>⟨acc,rfl,λ_ _ h=>.inr h,λ_ c h=>⟨c,h⟩,λ_ h=>nomatch h⟩
 |(n,k)::r,acc,h=>by
  rw[List.forIn_cons]
  by_cases hk:k=.free
  ·subst hk
   obtain⟨c,hc⟩:=h (n,.free) List.mem_cons_self rfl
   obtain⟨cl,h1,h2,h3,h4⟩:=pV r ((n,c)::acc) λy hy=>h y (List.mem_cons_of_mem _ hy)
   refine⟨cl,?_,λx d e=>?_,λx d e=>?_,λy hy e=>?_⟩
   ·have e1:cellOf env n=pure c:=by unfold cellOf;rw[hc]
    simp only[beq_self_eq_true,if_true,e1,pure_bind]
    exact h1
   ·rcases h2 x d e with z|z
    ·exact .inl z
    ·rw[List.lookup_cons]at z
     split at z
     ·rename_i hx
      cases z
      have:x=n:=eq_of_beq hx
      subst this
      exact .inl hc
     ·exact .inr z
   ·refine h3 x (if x==n then c else d) ?_
    rw[List.lookup_cons]
    cases hx:x==n with
    |true=>simp[hx]
    |false=>simp[hx,e]
   ·rcases List.mem_cons.mp hy with z|z
    ·subst z
     exact h3 n c (by simp[List.lookup_cons])
    ·exact h4 y z e
  ·have hb:(k==NameKind.free)=false:=by simpa using hk
   obtain⟨cl,h1,h2,h3,h4⟩:=pV r acc λy hy=>h y (List.mem_cons_of_mem _ hy)
   refine⟨cl,?_,h2,h3,λy hy e=>?_⟩
   ·simp only[hb,Bool.false_eq_true,if_false,pure_bind]
    exact h1
   ·rcases List.mem_cons.mp hy with z|z
    ·subst z
     exact absurd e hk
    ·exact h4 y z e
theorem qG{scope:Scope}{env:Env}(h:∀y∈scope.names,y.2=.free->∃c,env.cells.lookup y.1=some c):
  ∃cl,closureFor scope env=pure cl/\(∀x c,cl.lookup x=some c->env.cells.lookup x=some c)/\∀y∈scope.names,y.2=.free->∃c,cl.lookup y.1=some c:=by
 obtain⟨cl,h1,h2,h3,h4⟩:=pV scope.names [] h
 refine⟨cl,?_,λx c e=>(h2 x c e).elim id λz=>(by cases z),h4⟩
 unfold closureFor
 refine Eq.trans ?_ h1
 refine Eq.trans (bind_pure _) ?_
 rfl
theorem pT{env:Env}:∀{names:List (Str×NameKind)}{x:Str},names.lookup x=some .free ->
  (names.map λ(n,k)=>if (k==NameKind.free&&env.scope.kind==.function&&env.kindOf n==some .cell) then(n,NameKind.cell) else(n,k)).lookup x=some .cell \/
  (names.map λ(n,k)=>if (k==NameKind.free&&env.scope.kind==.function&&env.kindOf n==some .cell) then(n,NameKind.cell) else(n,k)).lookup x=some .free
 |[],_,h=>by simp at h
 |(n,k)::r,x,h=>by
  have ih:=@pT env r x
  show List.lookup x ((if (k==NameKind.free&&env.scope.kind==.function&&env.kindOf n==some .cell)=true then(n,NameKind.cell) else(n,k))::_)=_\/List.lookup x ((if (k==NameKind.free&&env.scope.kind==.function&&env.kindOf n==some .cell)=true then(n,NameKind.cell) else(n,k))::_)=_
  by_cases hc:(k==NameKind.free&&env.scope.kind==.function&&env.kindOf n==some .cell)=true
  ·rw[if_pos hc]
   cases hx:x==n with
   |true=>simp only[List.lookup_cons,hx];exact .inl trivial
   |false=>
    simp only[List.lookup_cons,hx]at h ⊢
    exact ih h
  ·rw[if_neg hc]
   cases hx:x==n with
   |true=>
    simp only[List.lookup_cons,hx]at h ⊢
    exact .inr h
   |false=>
    simp only[List.lookup_cons,hx]at h ⊢
    exact ih h
theorem wC{env:Env}{names:List (Str×NameKind)}(hn:∀y∈names,y.2≠.cell){x:Str}{k:NameKind}(hk:k=.cell\/k=.free)
  (h:(names.map λ(n,k)=>if (k==NameKind.free&&env.scope.kind==.function&&env.kindOf n==some .cell) then(n,NameKind.cell) else(n,k)).lookup x=some k):(x,NameKind.free)∈names:=by
 obtain⟨⟨n,k'⟩,hm,e⟩:=List.mem_map.mp (PySem.mem_of_lookup h)
 simp only at e
 split at e
 ·rename_i hc
  rw[Bool.and_eq_true,Bool.and_eq_true]at hc
  have:k'=.free:=eq_of_beq hc.1.1
  subst this
  injection e with e1 _
  subst e1
  exact hm
 ·injection e with e1 e2
  subst e1 e2
  rcases hk with z|z
  ·exact absurd z (hn _ hm)
  ·subst z;exact hm
def bS(X:Cx)(N:List Str)(scope:Scope)(cl:List (Str×Addr))(C:Addr)(fp:List Addr)(s:Shared)(H:Hp):Cx where
 prog:=X.prog
 w:=X.w
 K:=X.K
 mg:=X.mg
 base:=X.base
 A:=X.A
 N:=N
 s₀:=s
 H₀:=H
 env:=compEnvC scope cl C X.env
 outer:=X.stack
 stack:=X.stack
 ex:=fp
 fn:=λ_=>false
 calm:=X.calm
 pn:=[]
 xe:=λ_ _=>False
structure iE (sc:Scope) (XN N:List Str) (own:Nat) (fr:List Nat) (scope:Scope):Prop where
 kind:scope.kind=.function
 nocell:∀y∈scope.names,y.2≠.cell
 free:∀y∈scope.names,y.2=.free->sc.names.lookup y.1=some .cell\/sc.names.lookup y.1=some .free
 loc:∀y∈scope.names,y.2=.local->scope.names.lookup y.1=some .local
 names:N.drop own=fr.filterMap λi=>XN[i]?
 frl:∀i∈fr,i<XN.length
 len:own<=N.length
 vis:∀x∈N.drop own,scope.names.lookup x=some .free
def σf(fr:List Nat)(σ:St):St:=fr.map λi=>σ.getD i none
def σc(own:Nat)(fr:List Nat)(σ:St):St:=List.replicate own none++σf fr σ
section
variable{X:Cx}{pins:List (Addr×Obj)}{σ:St}{H:Hp}{s:Shared}{N:List Str}{own:Nat}{fr:List Nat}{scope:Scope}
theorem pU{XN:List Str}:∀{fr:List Nat},(∀i∈fr,i<XN.length)->∀(j:Nat),(fr.filterMap λi=>XN[i]?)[j]?=(fr[j]?).bind λi=>XN[i]?
 |[],_,j=>by simp
 |i::r,h,j=>by
  have hi:i<XN.length:=h i List.mem_cons_self
  rw[List.filterMap_cons,List.getElem?_eq_getElem hi]
  cases j with
  |zero=>simp[hi]
  |succ j=>simpa using pU (λk hk=>h k (List.mem_cons_of_mem _ hk)) j
theorem zDq{cl:List (Str×Addr)}{fp:List Addr}{h':Heap}(I:Inv X pins σ H s)(S:iE X.env.scope X.N N own fr scope)(hcl:∀x c,cl.lookup x=some c->X.env.cells.lookup x=some c)
  (hcf:∀y∈scope.names,y.2=.free->∃c,cl.lookup y.1=some c) (hfp:∀b∈fp,dB X pins H b) (hfo:∀b∈fp,∃o,s.heap.get? b=some o)
  (hns:h'.Ns s.heap.objs.size λ_=>none) (hk:∀b o,s.heap.get? b=some o->h'.get? b=some o):
  Inv (bS X N scope cl s.heap.objs.size fp s H) [] (σc own fr σ) H {s with heap:=h'}:=by
 have kindE:∀x,(Env.kindOf (compEnvC scope cl s.heap.objs.size X.env) x)=(relabel scope X.env).names.lookup x:=λx=>rfl
 have memF:∀x,(Env.kindOf (compEnvC scope cl s.heap.objs.size X.env) x=some .cell\/Env.kindOf (compEnvC scope cl s.heap.objs.size X.env) x=some .free)->(x,NameKind.free)∈scope.names:=λx hx=>by
  rcases hx with z|z
  ·exact wC (env:=X.env) S.nocell (.inl rfl) z
  ·exact wC (env:=X.env) S.nocell (.inr rfl) z
 refine⟨⟨I.ok.mod,S.kind,I.ok.glob,I.ok.blt,Nat.le_refl _,λx y c h1 h2=>I.ok.inj x y c (hcl x c h1) (hcl y c h2),λx hx=>hcf (x,.free) (memF x hx) rfl,λx c h=>absurd (show false=true from h) (by decide),I.ok.hd,I.ok.frames,.inl rfl,λb hb=>?_,I.bs,Nat.le_trans I.ok.bsz I.sz,λb o e hb=>?_,λb hb z=>?_,I.stack,I.stkFree⟩,
  rfl,I.bare,Un.kept hk,⟨_,hns,λi x v e1 e2 e3=>?_⟩,λx c e=>?_,I.hok.fresh (Nat.le_refl _),λx c e=>I.freeC x c (hcl x c e),λp hp=>absurd (show p∈([]:List (Addr×Obj)) from hp) (by simp),I.hok.kept hk,?_⟩
 ·obtain⟨o,ho⟩:=hfo b hb
  exact⟨Nat.ne_of_lt (Heap.lt_size ho),λx c e=>(hfp b hb).2.2.2.2.1 x c (hcl x c e)⟩
 ·rcases (hfp b hb).2.2.2.1 with z|z
  ·exact I.ok.noex b o e z
  ·exact absurd (Nat.lt_of_lt_of_le (Heap.lt_size (I.ok.bs b o e).1) z) (Nat.lt_irrefl _)
 ·rcases List.mem_cons.mp (I.stkSub b z) with q|q
  ·exact(hfp b hb).2.1 q
  ·exact(hfp b hb).2.2.1 q
 ·have hi:own<=i:=by
   rcases Nat.lt_or_ge i own with z|z
   ·have e2':(σc own fr σ)[i]?=some (some v):=e2
    unfold σc at e2'
    rw[List.getElem?_append_left (by simpa using z),List.getElem?_replicate]at e2'
    split at e2'<;>cases e2'
   ·exact z
  have e2':(σf fr σ)[i-own]?=some (some v):=by
   have e2':(σc own fr σ)[i]?=some (some v):=e2
   unfold σc at e2'
   rw[List.getElem?_append_right (by simpa using hi)]at e2'
   simpa using e2'
  have e1':(N.drop own)[i-own]?=some x:=by
   have e1':N[i]?=some x:=e1
   rw[List.getElem?_drop]
   rw[show own+(i-own)=i by omega]
   exact e1'
  have hv:scope.names.lookup x=some .free:=S.vis x (List.mem_of_getElem? e1')
  have hx:X.env.scope.names.lookup x=some .cell\/X.env.scope.names.lookup x=some .free:=S.free (x,.free) (PySem.mem_of_lookup hv) rfl
  rw[S.names,pU S.frl]at e1'
  unfold σf at e2'
  rw[List.getElem?_map]at e2'
  cases q:fr[i-own]? with
  |none=>rw[q]at e2';cases e2'
  |some j=>
   rw[q]at e1' e2'
   have e1'':X.N[j]?=some x:=e1'
   have e2'':σ.getD j none=some v:=Option.some.inj e2'
   have e3':σ[j]?=some (some v):=by
    rw[List.getD_eq_getElem?_getD]at e2''
    cases z:σ[j]? with
    |none=>rw[z]at e2'';cases e2''
    |some y=>rw[z]at e2'';exact congrArg some e2''
   obtain⟨m,hn,hl⟩:=I.loc
   obtain⟨u,r,l⟩:=hl j x v e1'' e3' (.inr hx)
   refine⟨u,r,.inr ⟨pT (env:=X.env) hv,?_⟩⟩
   rcases l with⟨k,_⟩|⟨_,c,hc,z⟩
   ·have k':X.env.scope.names.lookup x=some .local:=k
    rw[k']at hx
    rcases hx with z|z<;>cases z
   ·obtain⟨c',hc'⟩:=hcf (x,.free) (PySem.mem_of_lookup hv) rfl
    have:=hcl x c' hc'
    rw[hc]at this
    cases this
    exact⟨c,hc',z.keeps hk⟩
 ·obtain⟨v,z⟩:=I.cell x c (hcl x c e)
  exact⟨v,z.keeps hk⟩
 ·show(σc own fr σ).length=N.length
  unfold σc σf
  have h1:=congrArg List.length S.names
  have h2:(fr.filterMap λi=>X.N[i]?).length=fr.length:=by
   have:∀(l:List Nat),(∀i∈l,i<X.N.length)->(l.filterMap λi=>X.N[i]?).length=l.length:=by
    intro l
    induction l with
    |nil=>intro _;rfl
    |cons i r ih=>
     intro h
     rw[List.filterMap_cons,List.getElem?_eq_getElem (h i List.mem_cons_self)]
     simp[ih λk hk=>h k (List.mem_cons_of_mem _ hk)]
   exact this fr S.frl
  rw[List.length_drop,h2]at h1
  rw[List.length_append,List.length_replicate,List.length_map]
  have:=S.len
  omega
end
section
variable{prog:Program}{w:World}{A:Around}{R:Result->Shared->Prop}{s:Shared}
theorem vT{elt target iter:Expr}{ifs:List Expr}{scope:Scope}{pos:Pos}{it acc:Value}{env:Env}(I:Nat->Shared->Prop)
  (turn:∀n s,I n s->wpAny (model prog w) A (pyNext it) (λr s₁=>match r with
   |none=>R (.ok .next) s₁
   |some v=>wpAny (model prog w) A (letOwnedTupleGo target it v) (λ_ s'=>wpAny (model prog w) A (assign target env v) (λ_ s₂=>
     wpAny (model prog w) A (forIn ifs true λc r=>if r=true then do let ok <- isTrue c env (eval c env);pure (ForInStep.yield ok) else pure (ForInStep.yield r)) (λok s₃=>
      if ok=true then wpAny (model prog w) A (eval elt env) (λx s₄=>
       wpAny (model prog w) A (call (.builtin "list.append") [acc,x]) (λ_ s₅=>∃m,m<n/\I m s₅) (λ_ _=>False) s₄) (λ_ _=>False) s₃
      else ∃m,m<n/\I m s₃) (λ_ _=>False) s₂) (λ_ _=>False) s') (λ_ _=>False) s₁) (λ_ _=>False) s)
  (n:Nat) (h:I n s):codeAny (model prog w) A (.compLoop (.ListComp elt [⟨target,iter,ifs,0⟩] scope pos) 0 it acc env) R s:=by
 refine codeAny_loop rfl I (λn s hI=>?_) n h
 show wpAny _ A ((compTurn (.ListComp elt [⟨target,iter,ifs,0⟩] scope pos) 0 it acc env).onRaise (λx=>do noteFrame x env;theTreesLotGoes x)) _ _ s
 refine wpAny_noted ?_
 rw[compTurn_list]
 refine wpAny_bind (wpAny_standAt (wpAny_bind (wpAny_mono (turn n s hI) (λr s₁ h₁=>?_) λ_ _ z=>False.elim z)))
 cases r with
 |none=>exact wpAny_pure h₁
 |some v=>
  refine wpAny_bind (wpAny_mono h₁ (λ_ s' h'=>?_) λ_ _ z=>False.elim z)
  refine wpAny_bind (wpAny_mono h' (λ_ s₂ h₂=>wpAny_bind (wpAny_mono h₂ (λok s₃ h₃=>?_) λ_ _ z=>False.elim z)) λ_ _ z=>False.elim z)
  cases ok with
  |false=>exact wpAny_pure ⟨rfl,h₃⟩
  |true=>
   exact wpAny_bind (wpAny_bind (wpAny_mono h₃ (λx s₄ h₄=>wpAny_bind (wpAny_mono h₄ (λ_ s₅ h₅=>wpAny_pure (wpAny_pure ⟨rfl,h₅⟩)) λ_ _ z=>False.elim z)) λ_ _ z=>False.elim z))
end
def uM(J:It)(a:Addr)(own:Nat)(fr:List Nat)(g:TG)(tf:TT)(te:TE)(σ:St)(H1:Hp)(Q:VK):Prop:=
 ∃(n:Nat) (Pv:Nat->List V->Hp->Prop),Pv 0 [] (upd H1 a (.lst []))/\∀i ys H2,i<=n->H2 a=some (.lst ys)->Pv i ys H2 ->
  (J.stop i H2/\Q (.ref a) H2)\/(i<n/\J.go i H2/\∀x H3,J.yld i H2 x H3->g x (σc own fr σ) H3 λσ4 H4=>(∃ow,ow.length=own/\σ4=ow++σf fr σ)/\tf σ4 H4 λb H5=>
   if b=true then te σ4 H5 λy H6=>H6 a=some (.lst ys)/\ys.length<sizeLine/\Pv (i+1) (ys++[y]) (upd H6 a (.lst (ys++[y])))
   else H5 a=some (.lst ys)/\Pv (i+1) ys H5)
def PFs(X:Cx)(ifs:List Expr)(t:TT):Prop:=
 ∀(pins:List (Addr×Obj)) (s:Shared) (σ:St) (H:Hp) (Q:Bool->Hp->Prop),Inv X pins σ H s->t σ H Q ->
  wpAny (model X.prog X.w) X.A (forIn ifs true λc r=>if r=true then do let ok <- isTrue c X.env (eval c X.env);pure (ForInStep.yield ok) else pure (ForInStep.yield r)) (TP X pins σ Q) X.xe s
def zFW:TT:=λ_ H Q=>Q true H
theorem zFb{X:Cx}:PFs X [] zFW:=λpins s σ H Q I h=>wpAny_tests_nil ⟨H,I,h⟩
theorem zFa{X:Cx}{c:Expr}{t:TT}(h:PT X c t):PFs X [c] t:=λpins s σ H Q I hw=>wpAny_tests_one (h pins s σ H Q I hw)
section
variable{X:Cx}{pins:List (Addr×Obj)}{σ:St}{H:Hp}{s:Shared}{N:List Str}{own:Nat}{fr:List Nat}{scope:Scope}{cl:List (Str×Addr)}{elt tg iter:Expr}{ifs:List Expr}{pos:Pos}
 {it:Addr} {fp:List Addr} {tn:Nat->Heap->Prop} {J:It} {g:TG} {tf:TT} {te:TE} {Q:VK} {E:Value->Shared->Prop}
theorem wM{RR:Value->Addr->Result->Shared->Prop}(hc:X.calm=true)(S:iE X.env.scope X.N N own fr scope)(hcl:∀x c,cl.lookup x=some c->X.env.cells.lookup x=some c)
  (hcf:∀y∈scope.names,y.2=.free->∃c,cl.lookup y.1=some c)
  (hg:∀C s H,PG (bS X N scope cl C fp s H) tg g) (hf:∀C s H,PFs (bS X N scope cl C fp s H) ifs tf) (he:∀C s H,PE (bS X N scope cl C fp s H) elt te)
  (I:Inv X pins σ H s) (T:fZ X.prog X.w X.K tg J fp it tn) (st:tn 0 s.heap) (hfp:∀b∈fp,dB X pins H b) (hw:∀a,H a=none->uM J a own fr g tf te σ H Q)
  (hRR:∀a C s' H',Inv X pins σ H' s'->Q (.ref a) H'->dB X pins H' C->(∃m,s'.heap.Ns C m)->RR (.ref a) C (.ok .next) s'):
  wpAny (model X.prog X.w) X.A (newList []) (λacc s₃=>wpAny (model X.prog X.w) X.A (newFunctionEnv scope X.env.globals cl [] X.env.qual none .none (some X.env)) (λcenv s₄=>
   codeAny (model X.prog X.w) X.A (.compStart (.ListComp elt [⟨tg,iter,ifs,0⟩] scope pos) 0 (.ref it) acc {cenv with scope:=relabel scope X.env}) (RR acc cenv.locals) s₄) E s₃) E s:=by
 refine wpAny_newObj_type (wpAny_newFunctionEnv S.nocell (by intro y hy;simp at hy) (λh₁ hns₁ hsb₁=>?_) S.kind)
 dsimp only at hns₁ hsb₁ ⊢
 have I3:Inv X pins σ (upd H s.heap.objs.size (.lst [])) {s with heap:=s.heap.push {cls:=.type "list",dict:=none,data:=.seq ([]:List Value).toArray}}:=I.lnew (ys:=[]) (t':=s.toks) .nil (Nat.zero_le _)
 have hfo:∀b∈fp,∃o,s.heap.get? b=some o:=λb hb=>let ⟨o,ho,_⟩:=T.obj _ _ st b hb;⟨o,ho⟩
 have hlt:∀b∈fp,b<s.heap.objs.size:=λb hb=>let ⟨o,ho⟩:=hfo b hb;Heap.lt_size ho
 have fp3:∀b∈fp,dB X pins (upd H s.heap.objs.size (.lst [])) b:=λb hb=>⟨by rw[bG (Nat.ne_of_lt (hlt b hb))];exact(hfp b hb).1,(hfp b hb).2⟩
 obtain⟨n0,W,w0,turn⟩:=hw s.heap.objs.size I.fresh
 generalize hs3:({s with heap:=s.heap.push {cls:=.type "list",dict:=none,data:=.seq ([]:List Value).toArray}}:Shared)=s3 at I3
 have eh:s3.heap=s.heap.push {cls:=.type "list",dict:=none,data:=.seq ([]:List Value).toArray}:=by rw[<-hs3]
 rw[<-eh]at hns₁ hsb₁ ⊢
 have hk:∀b o,s3.heap.get? b=some o->h₁.get? b=some o:=λb o e=>hsb₁.extBut b o (Nat.ne_of_lt (Heap.lt_size e)) (Heap.get?_push_of_some _ e)
 have hk0:∀b o,s.heap.get? b=some o->s3.heap.get? b=some o:=λb o e=>by rw[eh];exact Heap.get?_push_of_some _ e
 have J0:Inv (bS X N scope cl s3.heap.objs.size fp s3 (upd H s.heap.objs.size (.lst []))) [] (σc own fr σ) (upd H s.heap.objs.size (.lst [])) {s3 with heap:=h₁}:=
  zDq I3 S hcl hcf fp3 (λb hb=>let ⟨o,ho⟩:=hfo b hb;⟨o,hk0 b o ho⟩) hns₁ hk
 have st0:tn 0 h₁:=T.keep _ _ _ st λb _ o e=>hk b o (hk0 b o e)
 have stat:∀{H':Hp},(∀b∈fp,H' b=none)->∀b∈fp,dB (bS X N scope cl s3.heap.objs.size fp s3 (upd H s.heap.objs.size (.lst []))) [] H' b:=λhn b hb=>
  ⟨hn b hb,(J0.ok.exf b hb).1,J0.ok.exfs b hb,.inl hb,(J0.ok.exf b hb).2,λp hp=>absurd (show p∈([]:List (Addr×Obj)) from hp) (by simp)⟩
 have loop:∀s4:Shared,s4={s3 with heap:=h₁}->codeAny (model X.prog X.w) X.A (.compLoop (.ListComp elt [⟨tg,iter,ifs,0⟩] scope pos) 0 (.ref it) (.ref s.heap.objs.size) (compEnvC scope cl s3.heap.objs.size X.env))
   (RR (.ref s.heap.objs.size) s3.heap.objs.size) s4:=by
  rintro s4 rfl
  refine vT (λn s'=>∃i ow H' ys,Inv (bS X N scope cl s3.heap.objs.size fp s3 (upd H s.heap.objs.size (.lst []))) [] (ow++σf fr σ) H' s'/\ow.length=own/\tn i s'.heap/\(∀b∈fp,H' b=none)/\H' s.heap.objs.size=some (.lst ys)/\(n=n0-i/\i<=n0)/\W i ys H') ?_ n0
   ⟨0,List.replicate own none,_,[],J0,by simp,st0,λb hb=>(fp3 b hb).1,bE,⟨rfl,Nat.zero_le _⟩,w0⟩
  rintro n s5 ⟨i,ow,H5,ys,I5,hlo,st5,fr5,ha5,⟨rfl,hi5⟩,w5⟩
  rcases turn i ys H5 hi5 ha5 w5 with⟨stop,qn⟩|⟨hin,go,step⟩
  ·refine thn (T.done (bS X N scope cl s3.heap.objs.size fp s3 (upd H s.heap.objs.size (.lst []))) rfl rfl rfl hc i [] s5 _ H5 (λ_ _=>False) I5 (stat fr5) st5 stop) λr s6 ⟨hr,I6⟩=>?_
   subst hr
   have IX:Inv X pins σ H5 s6:=I3.call' I6.os I6.base I6.hok I6.bare λb hb=>let ⟨_,f2,_,f4,f5,f6⟩:=fp3 b hb;⟨f4,f2,f5,f6⟩
   refine hRR _ _ s6 H5 IX qn (I3.fpOk (Nat.le_refl _) I6.free) ?_
   obtain⟨m,hn,_⟩:=I6.loc
   exact⟨m,hn⟩
  ·refine thn (T.item (bS X N scope cl s3.heap.objs.size fp s3 (upd H s.heap.objs.size (.lst []))) rfl rfl rfl hc i [] s5 _ H5 (λ_ _=>False) I5 (stat fr5) st5 go) λr s6 ⟨u,hr,h6⟩=>?_
   subst hr
   refine thn h6 λ_ s7 ⟨x,H7,I7,r7,y7,st7,fr7⟩=>?_
   have I7':=(I7.pinned (stat fr7) (T.obj _ _ st7)).weak (σ':=σc own fr σ) (by unfold σc;simp[hlo]) (λj v e=>by
    unfold σc at e
    rcases Nat.lt_or_ge j own with z|z
    ·rw[List.getElem?_append_left (by simpa using z),List.getElem?_replicate]at e
     split at e<;>cases e
    ·rw[List.getElem?_append_right (by simpa using z)]at e
     rw[List.getElem?_append_right (by rw[hlo];exact z),hlo]
     simpa using e)
   refine thn (hg _ _ _ _ s7 _ H7 x u _ I7' r7 (step x H7 y7)) λ_ s8 ⟨σ8,H8,I8,⟨ow8,hl8,e8⟩,q8⟩=>?_
   refine thn (hf _ _ _ _ s8 _ H8 _ I8 q8) λok s9 ⟨H9,I9,q9⟩=>?_
   have again:∀{H':Hp} {s':Shared},Inv (bS X N scope cl s3.heap.objs.size fp s3 (upd H s.heap.objs.size (.lst []))) ([]++jS fp s7.heap) σ8 H' s'->∀{ys':List V},H' s.heap.objs.size=some (.lst ys')->W (i+1) ys' H' ->
     ∃m,m<n0-i/\∃i ow H' ys,Inv (bS X N scope cl s3.heap.objs.size fp s3 (upd H s.heap.objs.size (.lst []))) [] (ow++σf fr σ) H' s'/\ow.length=own/\tn i s'.heap/\(∀b∈fp,H' b=none)/\H' s.heap.objs.size=some (.lst ys)/\(m=n0-i/\i<=n0)/\W i ys H':=λ{H' s'} I' {ys'} ha hw'=>by
    refine⟨n0-(i+1),by omega,i+1,ow8,H',ys',e8▸I'.unpinned,hl8,T.keep _ _ _ st7 λb hb o e=>(I'.pin (b,o) (List.mem_append_right _ (List.mem_append_right _ (jF hb e)))).1,λb hb=>?_,ha,⟨rfl,hin⟩,hw'⟩
    obtain⟨o,e,_⟩:=T.obj _ _ st7 b hb
    exact(I'.pin (b,o) (List.mem_append_right _ (List.mem_append_right _ (jF hb e)))).2.1
   cases ok with
   |false=>
    have q9':H9 s.heap.objs.size=some (.lst ys)/\W (i+1) ys H9:=by simpa using q9
    obtain⟨ha,hw'⟩:=q9'
    show if false=true then _ else _
    rw[if_neg (by decide)]
    exact again I9 ha hw'
   |true=>
    rw[if_pos rfl]at q9
    show if true=true then _ else _
    rw[if_pos rfl]
    refine thn (he _ _ _ _ s9 _ H9 _ I9 q9) λy s10 ⟨v10,H10,I10,r10,ha10,hz10,hw'⟩=>?_
    refine thn (mU _ s10 _ H10 (.ref s.heap.objs.size) [v10] (.ref s.heap.objs.size) [y] (λ_ H'=>H'=upd H10 s.heap.objs.size (.lst (ys++[v10]))) I10 rfl (.cons r10 .nil) ⟨_,ys,v10,rfl,rfl,ha10,hz10,rfl⟩) λ_ s11 ⟨_,H11,I11,_,e11⟩=>?_
    subst e11
    exact again I11 bE hw'
 exact codeAny_compStart_list (loop _ (by rw[<-hs3];rfl)) (T.self X.A 0 _ _ _ st0 (loop _ (by rw[<-hs3];rfl)))
end
def oM(own:Nat)(fr:List Nat)(wi:TI)(g:TG)(tf:TT)(te:TE):TE:=λσ H Q=>wi σ H λJ H1=>∀a,H1 a=none->uM J a own fr g tf te σ H1 Q
section
variable{X:Cx}{sc:Scope}{XN N:List Str}{own:Nat}{fr:List Nat}{scope:Scope}{elt tg iter:Expr}{ifs:List Expr}{pos:Pos}{wi:TI}{g:TG}{tf:TT}{te:TE}
theorem zD3(hc:X.calm=true)(S:iE sc XN N own fr scope)(hi:PI X tg iter wi)
  (hg:∀cl C fp s H,PG (bS X N scope cl C fp s H) tg g) (hf:∀cl C fp s H,PFs (bS X N scope cl C fp s H) ifs tf) (he:∀cl C fp s H,PE (bS X N scope cl C fp s H) elt te)
  (hs:∀x,foldedSetIterable iter X.env x=pure x:=by intro _;rfl) (hsc:X.env.scope=sc:=by rfl) (hxn:X.N=XN:=by rfl):PE X (.ListComp elt [⟨tg,iter,ifs,0⟩] scope pos) (oM own fr wi g tf te):=by
 subst hsc hxn
 intro pins s σ H Q I h
 obtain⟨cl,c1,c2,c3⟩:=qG (scope:=scope) (env:=X.env) λy hy e=>I.ok.has y.1 (S.free y hy e)
 rw[eval_ListComp]
 refine wpAny_comprehension_free (use:=none) rfl hs c1 S.kind S.loc (thn (hi pins s σ H _ I h) λxv s1 h1=>thn h1 λitv s2 h2=>?_)
 obtain⟨it,fp,tn,J,H2,e,I2,T,st2,f2,hw⟩:=h2
 subst e
 refine wM hc S c2 c3 (λC s H=>hg cl C fp s H) (λC s H=>hf cl C fp s H) (λC s H=>he cl C fp s H) I2 T st2 f2 hw λa C s' H' I' q fC ⟨m,hn⟩=>?_
 refine⟨m,hn,λh' hs'=>?_⟩
 obtain⟨f0,f1,_,f3,f4,f5⟩:=fC
 exact⟨.ref a,H',I'.turned (t':=s'.toks) (λb o hb e=>hs'.extBut b o hb e) f0 f1 f3 f4 f5,rfl,q⟩
theorem yU{i:Nat}{x:Str}{pos' spos:Pos}(hc:X.calm=true)(hN:X.N.Nodup)(hx:X.N[i]?=some x)(hl:Loc X.env.scope x)(S:iE sc XN N own fr scope)(hi:PI X tg iter wi)
  (hg:∀cl C fp s H,PG (bS X N scope cl C fp s H) tg g) (hf:∀cl C fp s H,PFs (bS X N scope cl C fp s H) ifs tf) (he:∀cl C fp s H,PE (bS X N scope cl C fp s H) elt te)
  (hsw:swapsWith (.ListComp elt [⟨tg,iter,ifs,0⟩] scope pos) (some (.Name x pos')) spos.line X.env=pure true:=by rfl)
  (hf':X.fn x=true\/X.env.scope.names.lookup x=some .local:=by first|exact .inl rfl|exact .inr rfl|assumption)
  (hs:∀x,foldedSetIterable iter X.env x=pure x:=by intro _;rfl) (hsc:X.env.scope=sc:=by rfl) (hxn:X.N=XN:=by rfl):PS X (.Assign [.Name x pos'] (.ListComp elt [⟨tg,iter,ifs,0⟩] scope pos) spos) (lW (oM own fr wi g tf te) (lT i)):=by
 subst hsc hxn
 intro pins s σ H D I h
 obtain⟨cl,c1,c2,c3⟩:=qG (scope:=scope) (env:=X.env) λy hy e=>I.ok.has y.1 (S.free y hy e)
 rw[exec_Assign_Name_used _ _ _ _ hsw]
 refine wpAny_bind (wpAny_standAt (wpAny_bind ?_))
 show wpAny _ X.A (do let _ <- comprehension (.ListComp elt [⟨tg,iter,ifs,0⟩] scope pos) scope X.env _ (newList []) false (eval iter X.env) (some (assign (.Name x pos') X.env))) _ _ s
 refine wpAny_bind (wpAny_mono (wpAny_comprehension_free (use:=some (assign (.Name x pos') X.env)) (Q:=λ_ s'=>SP X pins D .next s') rfl hs c1 S.kind S.loc
  (thn (hi pins s σ H _ I h) λxv s1 h1=>thn h1 λitv s2 h2=>?_)) (λ_ s' hq=>wpAny_pure (wpAny_pure hq)) λ_ _ e=>e)
 obtain⟨it,fp,tn,J,H2,e,I2,T,st2,f2,hw⟩:=h2
 subst e
 refine wM hc S c2 c3 (λC s H=>hg cl C fp s H) (λC s H=>hf cl C fp s H) (λC s H=>he cl C fp s H) I2 T st2 f2 hw λa C s' H' I' q fC ⟨m,hn⟩=>?_
 obtain⟨f0,f1,f2',f3,f4,f5⟩:=fC
 show wpAny _ _ (assign (.Name x pos') X.env (.ref a)) _ _ _
 refine wpAny_assign_Name (qJ I' hN hx hl (show RelV (.ref a) (.ref a) from rfl) (λs2 J2 ⟨b,hb,hb'⟩=>?_) hf')
 have hbC:C≠b:=by
  rcases hb' with z|z
  ·rw[z];exact f1
  ·exact λe=>f4 _ _ z e.symm
 refine⟨m,hn.sameBut hb hbC,λh' hs'=>?_⟩
 exact⟨_,H',J2.turned (t':=s2.toks) (λb o hb e=>hs'.extBut b o hb e) f0 f1 f3 f4 f5,q⟩
end
end L2
namespace L2
open PySem PySem.Spec PyProof.Rows
section
variable{X:Cx}
def TyV(K:W.Frag)(T:String)(x:V)(H:Hp)(b:Bool):Prop:=match x with
 |.non=>b=false
 |.bl _=>b=(T=="bool" || T=="int")
 |.int _=>b=(T=="int")
 |.str _=>b=(T=="str")
 |.ref a=>(∃xs,SqL K H a xs/\b=(T=="list"))\/(∃xs,SqT K H a xs/\b=(T=="tuple"))\/(∃kvs,Rd H a (.dK kvs)/\b=(T=="dict"))
 |_=>False
theorem zDo{prog:Program}{w:World}{A:Around}{E:Value->Shared->Prop}{s:Shared}{Q:Value->Shared->Prop}{T:String}(hne:(Value.type "NoneType"==Value.type T)=false)(hty:typeOf (.type T)=pure (.type "type"))
  (hsub:isSubtype (.type "NoneType") (.type T)=pure false) (h:Q (.bool false) {s with toks:=s.toks+1}):wpAny (model prog w) A (call (.builtin "isinstance") [.none,.type T]) Q E s:=
 call_isinstance (S:=λ_ R s=>R (.ok (.ret (.bool false))) {s with toks:=s.toks+1}) (λ_ _ _ _ s hs=>by
  obtain⟨h,g,d,t,os⟩:=s
  exact isinstance_outer (isinstance_nested_false_none hne hty hsub hs)) h
theorem Inv.lcls{pins:List (Addr×Obj)}{σ:St}{H:Hp}{s:Shared}{a:Addr}{xs:List V}(I:Inv X pins σ H s)(h:SqL X.K H a xs):∃o,s.heap.get? a=some o/\o.cls=.type "list":=by
 obtain⟨its,r,pl,hz⟩:=I.list h
 obtain⟨o,ho,hc,_⟩:=pl.isList
 exact⟨o,ho,hc⟩
theorem Inv.tcls{pins:List (Addr×Obj)}{σ:St}{H:Hp}{s:Shared}{a:Addr}{xs:List V}(I:Inv X pins σ H s)(h:SqT X.K H a xs):∃o,s.heap.get? a=some o/\o.cls=.type "tuple":=by
 obtain⟨its,r,⟨o,ho,hc,_⟩,hz⟩:=I.tuple h
 exact⟨o,ho,hc⟩
theorem Inv.dcls{pins:List (Addr×Obj)}{σ:St}{H:Hp}{s:Shared}{a:Addr}{kvs:List (Key×V)}(I:Inv X pins σ H s)(h:Rd H a (.dK kvs)):∃o,s.heap.get? a=some o/\o.cls=.type "dict":=by
 obtain⟨_,_,vs,_,dd⟩:=h.ok I.hok
 obtain⟨o,ho,hc⟩:=dd.typeIs
 exact⟨o,ho,hc⟩
theorem zBp:CallR X (.builtin "isinstance") (λxs H Q=>∃x b,xs=[x,.ty "list"]/\TyV X.K "list" x H b/\Q (.bl b) H):=by
 intro pins s σ H xs us Q I r h
 obtain⟨x,b,rfl,hx,q⟩:=h
 obtain⟨u,w',rfl,rx,ry⟩:=tV r
 cases ry
 cases x with
 |non=>cases rx;cases hx;exact zDo (by decide +kernel) F.isi_meta_list F.sub_NoneType_list ⟨.bl _,H,I.tok _,rfl,q⟩
 |bl k=>cases rx;cases hx;exact IsiPair.bool_list ⟨.bl _,H,I.tok _,rfl,q⟩
 |int i=>obtain⟨t,rfl⟩:=rx;cases hx;exact IsiPair.int_list ⟨.bl _,H,I.tok _,rfl,q⟩
 |str i=>obtain⟨t,rfl⟩:=rx;cases hx;exact IsiPair.str_list ⟨.bl _,H,I.tok _,rfl,q⟩
 |ref a=>
  cases rx
  rcases hx with⟨xs,hx,rfl⟩|⟨xs,hx,rfl⟩|⟨xs,hx,rfl⟩
  ·obtain⟨o,ho,hc⟩:=I.lcls hx;exact IsiPair.list_list ho hc ⟨.bl _,H,I,rfl,q⟩
  ·obtain⟨o,ho,hc⟩:=I.tcls hx;exact IsiPair.tuple_list ho hc ⟨.bl _,H,I.tok _,rfl,q⟩
  ·obtain⟨o,ho,hc⟩:=I.dcls hx;exact IsiPair.dict_list ho hc ⟨.bl _,H,I.tok _,rfl,q⟩
 |_=>exact False.elim hx
theorem zCL(hc:X.calm=true):CallR X (.builtin "sum") (λxs H Q=>∃(p:Addr) (ns:List Int),xs=[.ref p]/\SqL X.K H p (ns.map V.int)/\Q (.int ns.sum) H):=by
 intro pins s σ H xs us Q I r h
 obtain⟨p,ns,rfl,hq,q⟩:=h
 obtain⟨u,rfl,rx⟩:=cY r
 cases rx
 obtain⟨its,rv,pl,hz⟩:=I.list hq
 have hi:IntsAre its ns:=mM rv
 have hall:=hi.allInts
 have e0:=hi.numsOf
 obtain⟨xs,ex⟩:=hall.items
 have e1:numsOf (intItems xs).toList=ns:=by rw[<-ex];exact e0
 rw[nums_intItems]at e1
 have hl:=pl.isList
 rw[ex]at hl
 refine sum_intListG (I.ok.hd hc) hl λh' tk t' hk=>⟨.int ns.sum,H,I.kept hk,⟨t',?_⟩,q⟩
 rw[preSum_eq,List.take_of_length_le (by simp),e1]
theorem vY{prog:Program}{w:World}{A:Around}{bs:List Bool}{its:List Value}(rv:Vals (bs.map V.bl) its):TruthOf prog w A (λi v=>its.toArray[i]?=some v) λi=>bs.getD i false:=by
 intro i v s Q E hP hQ
 have hi:its[i]?=some v:=by simpa using hP
 have hl:=rv.length
 rw[List.length_map]at hl
 have hlt:i<bs.length:=by rw[hl];exact(List.getElem?_eq_some_iff.mp hi).1
 obtain⟨u,hu,ru⟩:=rv.get (i:=i) (x:=V.bl (bs.getD i false)) (by rw[List.getElem?_map,List.getD_eq_getElem?_getD,List.getElem?_eq_getElem hlt];rfl)
 rw[hi]at hu
 cases hu
 cases ru
 exact wpAny_truthy_bool hQ
theorem zCk(bs:List Bool):(List.range bs.length).all (λi=>bs.getD i false)=bs.all id:=by
 induction bs with
 |nil=>rfl
 |cons b r ih=>
  rw[List.length_cons,List.range_succ_eq_map,List.all_cons,List.all_cons,List.all_map]
  rw[<-ih]
  rfl
theorem zCj(bs:List Bool):(List.range bs.length).any (λi=>bs.getD i false)=bs.any id:=by
 induction bs with
 |nil=>rfl
 |cons b r ih=>
  rw[List.length_cons,List.range_succ_eq_map,List.any_cons,List.any_cons,List.any_map]
  rw[<-ih]
  rfl
theorem zCS(hc:X.calm=true):CallR X (.builtin "all") (λxs H Q=>∃(p:Addr) (bs:List Bool),xs=[.ref p]/\SqL X.K H p (bs.map V.bl)/\Q (.bl (bs.all id)) H):=by
 intro pins s σ H xs us Q I r h
 obtain⟨p,bs,rfl,hq,q⟩:=h
 obtain⟨u,rfl,rx⟩:=cY r
 cases rx
 obtain⟨its,rv,pl,hz⟩:=I.list hq
 have hlt:p<s.heap.objs.size:=by obtain⟨_,e,_⟩:=pl.isList;exact Heap.lt_size e
 have hll:=rv.length
 rw[List.length_map]at hll
 refine call_all_walk (wpAny_pyIter_list pl.isList ?_)
 refine⟨s.heap.objs.size,_,_,_,_,_,λi=>bs.getD i false,rfl,Walks.list (A:=X.A.in1) (I.ok.hd hc) _ p (Nat.ne_of_lt hlt) its.toArray,⟨⟨_,Heap.get?_push_size _ rfl,rfl,rfl⟩,pl.isList.at λo e=>Heap.get?_push_of_some _ e⟩,vY rv,λh' tk hk=>?_⟩
 refine⟨.bl (bs.all id),H,I.kept λb o e=>hk b o (by simpa using Nat.ne_of_lt (Heap.lt_size e)) (Heap.get?_push_of_some _ e),?_,q⟩
 show Value.bool _=Value.bool _
 rw[List.size_toArray,<-hll,zCk]
theorem zCR(hc:X.calm=true):CallR X (.builtin "any") (λxs H Q=>∃(p:Addr) (bs:List Bool),xs=[.ref p]/\SqL X.K H p (bs.map V.bl)/\Q (.bl (bs.any id)) H):=by
 intro pins s σ H xs us Q I r h
 obtain⟨p,bs,rfl,hq,q⟩:=h
 obtain⟨u,rfl,rx⟩:=cY r
 cases rx
 obtain⟨its,rv,pl,hz⟩:=I.list hq
 have hlt:p<s.heap.objs.size:=by obtain⟨_,e,_⟩:=pl.isList;exact Heap.lt_size e
 have hll:=rv.length
 rw[List.length_map]at hll
 refine call_any_walk (wpAny_pyIter_list pl.isList ?_)
 refine⟨s.heap.objs.size,_,_,_,_,_,λi=>bs.getD i false,rfl,Walks.list (A:=X.A.in1) (I.ok.hd hc) _ p (Nat.ne_of_lt hlt) its.toArray,⟨⟨_,Heap.get?_push_size _ rfl,rfl,rfl⟩,pl.isList.at λo e=>Heap.get?_push_of_some _ e⟩,vY rv,λh' tk hk=>?_⟩
 refine⟨.bl (bs.any id),H,I.kept λb o e=>hk b o (by simpa using Nat.ne_of_lt (Heap.lt_size e)) (Heap.get?_push_of_some _ e),?_,q⟩
 show Value.bool _=Value.bool _
 rw[List.size_toArray,<-hll,zCj]
def eY:List V->List V->Bool
 |[],[]=>true
 |x::xs,y::ys=>eqV x y&&eY xs ys
 |_,_=>false
theorem yI:∀{xs ys:List V},xs.length≠ys.length->eY xs ys=false
 |[],[],h=>absurd rfl h
 |[],_::_,_=>rfl
 |_::_,[],_=>rfl
 |x::xs,y::ys,h=>by
  have:=yI (xs:=xs) (ys:=ys) (λe=>h (by simp[e]))
  simp[eY,this]
theorem wL:∀{xs ys:List V},xs.length=ys.length->(List.range xs.length).all (λi=>eqV (xs.getD i .non) (ys.getD i .non))=eY xs ys
 |[],[],_=>rfl
 |[],_::_,h=>by simp at h
 |_::_,[],h=>by simp at h
 |x::xs,y::ys,h=>by
  have ih:=wL (xs:=xs) (ys:=ys) (by simpa using h)
  rw[List.length_cons,List.range_succ_eq_map,List.all_cons,List.all_map]
  show(eqV x y&&(List.range xs.length).all λi=>eqV (xs.getD i .non) (ys.getD i .non))=(eqV x y&&eY xs ys)
  rw[ih]
theorem zDC{A:Around}{s:Shared}{xs ys:List V}{us ws:List Value}(r:Vals xs us)(r':Vals ys ws)(fx:xs.all cV=true)(fy:ys.all cV=true)(j:Nat)(h1:j<us.toArray.size)(h2:j<ws.toArray.size):
  SeqAt.EqAt A s us.toArray[j] ws.toArray[j] (eqV (xs.getD j .non) (ys.getD j .non)):=by
 have l1:=r.length
 have l2:=r'.length
 have k1:j<xs.length:=by rw[l1];simpa using h1
 have k2:j<ys.length:=by rw[l2];simpa using h2
 obtain⟨u,hu,ru⟩:=r.get (i:=j) (x:=xs.getD j .non) (by rw[List.getD_eq_getElem?_getD,List.getElem?_eq_getElem k1];rfl)
 obtain⟨w',hw,rw'⟩:=r'.get (i:=j) (x:=ys.getD j .non) (by rw[List.getD_eq_getElem?_getD,List.getElem?_eq_getElem k2];rfl)
 have e1:us.toArray[j]=u:=by
  obtain⟨_,e⟩:=List.getElem?_eq_some_iff.mp hu
  simpa using e
 have e2:ws.toArray[j]=w':=by
  obtain⟨_,e⟩:=List.getElem?_eq_some_iff.mp hw
  simpa using e
 rw[e1,e2]
 refine zAx ru rw' (List.all_eq_true.mp fx _ ?_) (List.all_eq_true.mp fy _ ?_)
 ·rw[List.getD_eq_getElem?_getD,List.getElem?_eq_getElem k1];exact List.getElem_mem k1
 ·rw[List.getD_eq_getElem?_getD,List.getElem?_eq_getElem k2];exact List.getElem_mem k2
def zG7(K:W.Frag)(neg:Bool):R2:=λx y H Q=>∃p q xs ys,x=.ref p/\y=.ref q/\SqL K H p xs/\SqL K H q ys/\xs.all cV=true/\ys.all cV=true/\Q (.bl (if neg then !eY xs ys else eY xs ys)) H
theorem zFq(hu:X.A.units<cLine):OpR X (compareOp .Eq) (zG7 X.K false):=by
 intro pins s σ H x y v u Q I rx ry h
 obtain⟨p,q,xs,ys,rfl,rfl,hx,hy,fx,fy,k⟩:=h
 cases rx
 cases ry
 obtain⟨us,r1,p1,z1⟩:=I.list hx
 obtain⟨ws,r2,p2,z2⟩:=I.list hy
 by_cases hl:xs.length=ys.length
 ·refine SeqAt.eq_listAt p1.isList p2.isList (by simp[<-r1.length,<-r2.length,hl]) hu (λj h1 h2=>zDC r1 r2 fx fy j h1 h2) ⟨.bl (eY xs ys),H,I,?_,k⟩
  show Value.bool _=Value.bool _
  rw[List.size_toArray,<-r1.length,wL hl]
 ·refine SeqAt.eq_list_lengthsAt p1.isList p2.isList (by simp[<-r1.length,<-r2.length,hl]) hu ⟨.bl (eY xs ys),H,I,?_,k⟩
  rw[yI hl];rfl
theorem zC2(n:Nat):sliceRange (sliceBounds none none (some (-1)) n).1 (sliceBounds none none (some (-1)) n).2.1 (sliceBounds none none (some (-1)) n).2.2=(List.range n).map λk=>n-1-k:=by
 have e:sliceBounds none none (some (-1)) n=((n:Int)-1,-1,-1):=by simp[sliceBounds]
 rw[e]
 unfold sliceRange
 simp only[show ¬ ((-1:Int) > 0) by decide,if_false]
 by_cases hn:n=0
 ·subst hn;simp
 ·have h1:(n:Int)-1 > -1:=by omega
  rw[if_pos h1]
  have h2:(((n:Int)-1 - -1 - -1-1) / (- -1)).toNat=n:=by
   rw[show(n:Int)-1 - -1 - -1-1=n by omega,show(- -1:Int)=1 by decide,Int.ediv_one]
   exact Int.toNat_natCast n
  rw[h2]
  refine List.map_congr_left λk hk=>?_
  have:=List.mem_range.mp hk
  omega
theorem yG{α β:Type}{f g:α->Option β}:∀{l:List α},(∀x∈l,f x=g x)->l.filterMap f=l.filterMap g
 |[],_=>rfl
 |x::r,h=>by rw[List.filterMap_cons,List.filterMap_cons,h x List.mem_cons_self,yG λy hy=>h y (List.mem_cons_of_mem _ hy)]
theorem wU{α:Type}:∀zs:List α,(List.range zs.length).filterMap (λk=>zs.reverse[zs.length-1-k]?)=zs
 |[]=>rfl
 |z::r=>by
  rw[List.length_cons,List.range_succ_eq_map,List.filterMap_cons,List.filterMap_map]
  have h0:(z::r).reverse[r.length+1-1-0]?=some z:=by simp
  rw[h0]
  have h1:List.filterMap ((λk=>(z::r).reverse[r.length+1-1-k]?)∘Nat.succ) (List.range r.length)=List.filterMap (λk=>r.reverse[r.length-1-k]?) (List.range r.length):=by
   apply yG
   intro k hk
   have hk:=List.mem_range.mp hk
   show(z::r).reverse[r.length+1-1-(k+1)]?=r.reverse[r.length-1-k]?
   rw[List.reverse_cons,List.getElem?_append_left (by simp;omega)]
   rw[show r.length+1-1-(k+1)=r.length-1-k by omega]
  rw[h1,wU r]
theorem zC8{α:Type}(xs:List α):((List.range xs.length).map λk=>xs.length-1-k).filterMap (λi=>xs[i]?)=xs.reverse:=by
 have:=wU xs.reverse
 rw[List.length_reverse,List.reverse_reverse]at this
 rw[List.filterMap_map]
 exact this
theorem zBj(its:List Value):slicePick its.toArray none none (some (-1))=its.reverse.toArray:=by
 unfold slicePick
 rw[List.size_toArray,zC2]
 congr 1
 have:=zC8 its
 simpa using this
def zGO(K:W.Frag)(te tst:TE):TE:=λσ H Q=>te σ H λx H1=>tst σ H1 λy H2=>y=.int (-1)/\∃p xs,x=.ref p/\SqL K H2 p xs/\∀l,H2 l=none->Q (.ref l) (upd H2 l (.lst xs.reverse))
theorem zFe{e st:Expr}{te tst:TE}{pos p2:Pos}(he:PE X e te)(hst:PE X st tst)(ht:∀o r,letTemporaryGo e o r=pure ():=by intro _ _;rfl):PE X (.Subscript e (.Slice none none (some st) p2) pos) (zGO X.K te tst):=by
 intro pins s σ H Q I h
 refine wpAny_Subscript_Slice_step (T:="list") slot_list_getitem.lookup (thn (he pins s σ H _ I h) λv s1 ⟨x,H1,I1,r1,q1⟩=>?_) ht
 refine wpAny_Slice ?_
 rw[evalPart_none,evalPart_some]
 refine wpAny_pure (wpAny_pure (thn (hst pins s1 σ H1 _ I1 q1) λvs s2 ⟨y,H2,I2,r2,q2⟩=>?_))
 obtain⟨rfl,p,xs,rfl,hx,q⟩:=q2
 obtain⟨t,rfl⟩:=r2
 cases r1
 have I3:Inv X pins σ H2 {s2 with heap:=s2.heap.push {cls:=.type "slice",data:=.fields #[.none,.none,.int (-1) t]}}:=I2.kept (t':=s2.toks) λb ob q=>Heap.get?_push_of_some _ q
 obtain⟨its,rv,pl,hz⟩:=I3.list hx
 refine⟨pl.isList.typeIs,?_⟩
 refine wpAny_getItem_list_slice pl.isList (Heap.IsSliceOf.new ..) .none .none (.int (-1) t) (by decide) ?_ (by rw[List.size_toArray,<-rv.length];exact hz)
 rw[zBj]
 refine⟨.ref _,_,I3.laid (t':=s2.toks) (o:=.lst xs.reverse) (λb ob q=>Heap.get?_push_of_some _ q) (Nat.le_refl _) ?_,rfl,q _ (I3.hok.fresh (Nat.le_refl _))⟩
 exact⟨by rw[List.length_reverse];exact hz,_,0,rv.reverse,Heap.get?_push_size _ rfl⟩
theorem zFn:OpR X (compareOp .Is) (λx y H Q=>∃b,y=.bl b/\Q (.bl (decide (x=.bl b))) H):=by
 intro pins s σ H x y v u Q I rx ry h
 obtain⟨b,rfl,q⟩:=h
 cases ry
 cases x with
 |non=>cases rx;exact wpAny_is_plain rfl ⟨.bl _,H,I,(by simp[RelV]),q⟩
 |bl k=>cases rx;exact wpAny_is_plain rfl ⟨.bl _,H,I,(by cases k<;>cases b<;>rfl),q⟩
 |int i=>obtain⟨t,rfl⟩:=rx;exact wpAny_is_plain rfl ⟨.bl _,H,I,(by simp[RelV]),q⟩
 |str i=>obtain⟨t,rfl⟩:=rx;exact wpAny_is_plain rfl ⟨.bl _,H,I,(by simp[RelV]),q⟩
 |byt i=>obtain⟨t,rfl⟩:=rx;exact wpAny_is_plain rfl ⟨.bl _,H,I,(by simp[RelV]),q⟩
 |flt i=>obtain⟨t,rfl⟩:=rx;exact wpAny_is_plain rfl ⟨.bl _,H,I,(by simp[RelV]),q⟩
 |ref i=>cases rx;exact wpAny_is_plain rfl ⟨.bl _,H,I,(by simp[RelV]),q⟩
 |ty i=>cases rx;exact wpAny_is_plain rfl ⟨.bl _,H,I,(by simp[RelV]),q⟩
theorem zCr:OpR X (compareOp .IsNot) (λx y H Q=>∃b,y=.bl b/\Q (.bl (!decide (x=.bl b))) H):=by
 intro pins s σ H x y v u Q I rx ry h
 obtain⟨b,rfl,q⟩:=h
 cases ry
 cases x with
 |non=>cases rx;exact wpAny_isNot_plain rfl ⟨.bl _,H,I,(by simp[RelV]),q⟩
 |bl k=>cases rx;exact wpAny_isNot_plain rfl ⟨.bl _,H,I,(by cases k<;>cases b<;>rfl),q⟩
 |int i=>obtain⟨t,rfl⟩:=rx;exact wpAny_isNot_plain rfl ⟨.bl _,H,I,(by simp[RelV]),q⟩
 |str i=>obtain⟨t,rfl⟩:=rx;exact wpAny_isNot_plain rfl ⟨.bl _,H,I,(by simp[RelV]),q⟩
 |byt i=>obtain⟨t,rfl⟩:=rx;exact wpAny_isNot_plain rfl ⟨.bl _,H,I,(by simp[RelV]),q⟩
 |flt i=>obtain⟨t,rfl⟩:=rx;exact wpAny_isNot_plain rfl ⟨.bl _,H,I,(by simp[RelV]),q⟩
 |ref i=>cases rx;exact wpAny_isNot_plain rfl ⟨.bl _,H,I,(by simp[RelV]),q⟩
 |ty i=>cases rx;exact wpAny_isNot_plain rfl ⟨.bl _,H,I,(by simp[RelV]),q⟩
def BigOk(j:Int):Prop:=j.natAbs<2 ^ 1024
theorem BigOk.log{j:Int}(h:BigOk j):j.natAbs.log2<9000:=by
 by_cases h0:j.natAbs=0
 ·rw[h0];decide +kernel
 ·have:j.natAbs.log2<1024:=(Nat.log2_lt h0).mpr h
  omega
theorem op_mulB:OpR X (binaryOp .Mult) (rI (λi j=>BigOk i/\BigOk j) λi j=>.int (i*j)):=opI λi j _ _ _ _ _ hc q=>by
 have bits:∀{x:Int},BigOk x->Builtin.Int.intBits x<=2 ^ 20:=λ{x} h=>by
  unfold Builtin.Int.intBits
  split
  ·exact Nat.zero_le _
  ·rename_i h0
   have h0':x.natAbs≠0:=λz=>h0 (by simpa using z)
   have:x.natAbs.log2<1024:=(Nat.log2_lt h0').mpr h
   omega
 exact mul_int q (.of_bits (bits hc.1) (bits hc.2))
theorem xU:OpR X (binaryOp .FloorDiv) (rI (λ_ j=>0<j/\BigOk j) λi j=>.int (i / j)):=opI λi j _ _ _ _ _ hc q=>by
 have h1:(0:Int)<j:=hc.1
 exact floordiv_int (by omega) (by rw[Int.fdiv_eq_ediv_of_nonneg i (by omega)];exact q) (.inl (PyProof.noPylong_of_log2 hc.2.log))
end
end L2
namespace L2
open PySem PySem.Spec PyProof.Rows
def dO:Expr->Bool
 |.Starred ..=>true
 |_=>false
theorem kP{e:Expr}{rest:List Expr}{env:Env}(h:dO e=false):starEach (e::rest) env=(false,eval e env)::starEach rest env:=by
 cases e<;>first|rfl|exact Bool.noConfusion h
theorem dF{X:Cx}{e:Expr}{es:List Expr}{te:TE}{t:TA}(ha:PE X e te)(hr:PA X es t)(h:dO e=false:=by rfl):PA X (e::es) (tX te t):=zD7 ha hr (kP h)
def Good(P:Program)(w:World)(K:W.Frag)(mg:Str->Option Value)(base:Heap)(k:Nat)(x:Str)(ps:List Str)(sp:Sp):Prop:=
 ∃(f:Addr) (fd:FuncData),FnOk P w K mg base CX0 k f fd ps sp/\Binds K fd ps []/\mg x=some (.ref f)/\W.keepIn K (.ref f)=true
section
variable{X:Cx}{k:Nat}{x:Str}{ps:List Str}{sp:Sp}{e:Expr}{es:List Expr}{t:TA}{p pos:Pos}
theorem lJ(G:Good X.prog X.w X.K X.mg X.base k x ps sp)(hr:Room k X.A)(hg:Gl X x)(ha:PA X (e::es) t)(hdb:(x==("__debug__":Str))=false:=by decide)
  (hst:dO e=false:=by rfl) (hpl:(backTo pos (starEach es X.env)).any (·.1)=false:=by rfl):PE X (.Call (.Name x p) (e::es) [] pos) (jW sp [] E0 t):=by
 obtain⟨f,fd,F,b,m,kp⟩:=G
 exact zD5 F hr hg m kp b .nil zAH ha hdb (kP hst) hpl
theorem zFh(G:Good X.prog X.w X.K X.mg X.base k x ps sp)(hr:Room k X.A)(hg:Gl X x)(hdb:(x==("__debug__":Str))=false:=by decide):PE X (.Call (.Name x p) [] [] pos) (jW sp [] E0 oW):=by
 obtain⟨f,fd,F,b,m,kp⟩:=G
 exact zDf F hr hg m kp b .nil zAH hdb
end
def Has(K:W.Frag)(mg:Str->Option Value)(x:Str)(st:Stmt):Prop:=∃(f:Addr) (fd:FuncData),Fun K x x st f fd/\mg x=some (.ref f)
theorem Has.good{P:Program}{w:World}{K:W.Frag}{mg:Str->Option Value}{base:Heap}{x:Str}{st:Stmt}{N ps:List Str}{k:Nat}{sp:Sp}(h:Has K mg x st)(S:bD N ps (aO st))
  (hb:∀(kV doc pm:Value) (an:Option Addr) (cdv ct:Value) (us:List Value),us.length=ps.length->bindArgs (W.fnOf x x (fQ st) (eB st) (aO st) .none kV doc pm an cdv ct) ⟨us,[]⟩=pure (ps.zip us))
  (len:∀vs H Q E,sp vs H Q E->vs.length=ps.length)
  (hbody:∀(f:Addr) (cdv:Value) (A:Around) (outer:List Env) (s:Shared) (H:Hp) (vs:List V) (Q:VK) (E:XK),Room k (A.deeper (envOfC x (aO st) s.heap.objs.size f cdv))->sp vs H Q E ->
   ∃t,PSs (gS CX0 P w K mg base N x (aO st) f cdv A outer s H E).nox (eB st) t/\t {nx:=λ_ H'=>Q .non H',rt:=Q} (dJ N vs) H):Good P w K mg base (k+1) x ps sp:=by
 obtain⟨f,fd,F,m⟩:=h
 exact⟨f,fd,F.ok S len λcdv A outer s H vs Q E hr q=>hbody f cdv A outer s H vs Q E hr q,F.binds hb,m,F.kp⟩
theorem has_mk{K:W.Frag}{h:Heap}{mg:Str->Option Value}{x:Str}{st:Stmt}{f:Addr}{oc:Value}{od an:Option Addr}{osl:Array (Option Value)}{kV doc pm cdv ct:Value}(X:K.In h)(G:h.Ns mainGlobals mg)
  (a:W.nsIn K mainGlobals x=some (some (.ref f))) (l:K.lookup f=some ⟨oc,od,.func (W.fnOf x x (fQ st) (eB st) (aO st) .none kV doc pm an cdv ct),osl⟩)
  (c:W.codeIn K cdv x=true) (k:W.keepIn K (.ref f)=true):Has K mg x st:=⟨f,_,zAw l c k,PySem.W.mg_of X G a⟩
structure Own (mg:Str->Option Value):Prop where
 len:mg "len"=none
 range:mg "range"=none
 isinstance:mg "isinstance"=none
 int_:mg "int"=none
 bool_:mg "bool"=none
 str_:mg "str"=none
 list_:mg "list"=none
 tuple_:mg "tuple"=none
 dict_:mg "dict"=none
 sum:mg "sum"=none
 min:mg "min"=none
 max:mg "max"=none
 all:mg "all"=none
 any:mg "any"=none
 abs:mg "abs"=none
 zip:mg "zip"=none
 sorted:mg "sorted"=none
 set_:mg "set"=none
 enumerate:mg "enumerate"=none
theorem zFk{K:W.Frag}{h:Heap}{mg:Str->Option Value}(X:K.In h)(G:h.Ns mainGlobals mg)(z1:W.nsIn K mainGlobals "len"=some none)(z2:W.nsIn K mainGlobals "range"=some none)
    (z3:W.nsIn K mainGlobals "isinstance"=some none) (z4:W.nsIn K mainGlobals "int"=some none) (z5:W.nsIn K mainGlobals "bool"=some none) (z6:W.nsIn K mainGlobals "str"=some none)
    (z7:W.nsIn K mainGlobals "list"=some none) (z8:W.nsIn K mainGlobals "tuple"=some none) (z9:W.nsIn K mainGlobals "dict"=some none) (z10:W.nsIn K mainGlobals "sum"=some none)
    (z11:W.nsIn K mainGlobals "min"=some none) (z12:W.nsIn K mainGlobals "max"=some none) (z13:W.nsIn K mainGlobals "all"=some none) (z14:W.nsIn K mainGlobals "any"=some none)
    (z15:W.nsIn K mainGlobals "abs"=some none) (z16:W.nsIn K mainGlobals "zip"=some none) (z17:W.nsIn K mainGlobals "sorted"=some none) (z18:W.nsIn K mainGlobals "set"=some none)
    (z19:W.nsIn K mainGlobals "enumerate"=some none):Own mg:=
  ⟨PySem.W.mg_none_of X G z1,PySem.W.mg_none_of X G z2,PySem.W.mg_none_of X G z3,PySem.W.mg_none_of X G z4,PySem.W.mg_none_of X G z5,PySem.W.mg_none_of X G z6,PySem.W.mg_none_of X G z7,PySem.W.mg_none_of X G z8,PySem.W.mg_none_of X G z9,PySem.W.mg_none_of X G z10,
   PySem.W.mg_none_of X G z11,PySem.W.mg_none_of X G z12,PySem.W.mg_none_of X G z13,PySem.W.mg_none_of X G z14,PySem.W.mg_none_of X G z15,PySem.W.mg_none_of X G z16,PySem.W.mg_none_of X G z17,PySem.W.mg_none_of X G z18,PySem.W.mg_none_of X G z19⟩
structure DeckAt (H:Hp) (p c:Addr):Prop where
 ne:p≠c
 dk:∃S k:Int,H p=some (.lst [.ref c,.int S,.int k])
 cs:∃ns:List Int,H c=some (.lst (ns.map V.int))/\ns.length<=64
structure On (p c:Addr) (H H':Hp):Prop where
 d:DeckAt H' p c
 e:∀b o,H b=some o->b≠p->b≠c->H' b=some o
section
variable{p c a:Addr}{H H1 H2:Hp}{o:HO}
theorem DeckAt.nep(d:DeckAt H p c)(h:H a=none):a≠p:=λz=>by
 obtain⟨S,k,e⟩:=d.dk
 rw[z,e]at h;cases h
theorem DeckAt.nec(d:DeckAt H p c)(h:H a=none):a≠c:=λz=>by
 obtain⟨ns,e,_⟩:=d.cs
 rw[z,e]at h;cases h
theorem DeckAt.alloc(d:DeckAt H p c)(h:H a=none):DeckAt (upd H a o) p c:=by
 obtain⟨S,k,e⟩:=d.dk
 obtain⟨ns,e',l⟩:=d.cs
 exact⟨d.ne,⟨S,k,by rw[bG (d.nep h).symm];exact e⟩,ns,by rw[bG (d.nec h).symm];exact e',l⟩
theorem On.trans(x:On p c H H1)(y:On p c H1 H2):On p c H H2:=⟨y.d,λb o h hp hc=>y.e b o (x.e b o h hp hc) hp hc⟩
theorem On.alloc(x:On p c H H1)(h:H1 a=none):On p c H (upd H1 a o):=
 ⟨x.d.alloc h,λb u q hp hc=>by rw[bG (dC (x.e b u q hp hc) h)];exact x.e b u q hp hc⟩
end
def yT:Sp:=λvs H Q _=>∃n k:Int,vs=[.int n,.int k]/\∀r:Int,Q (.int r) H
def zAf(K:W.Frag):Sp:=λvs H Q _=>∃(a:Addr) (ns:List Int),vs=[.ref a]/\SqL K H a (ns.map V.int)/\∀(p c:Addr) (H':Hp),H p=none->H c=none->DeckAt H' p c->Same H H'->Q (.ref p) H'
def zAe:Sp:=λvs H Q _=>∃(p c:Addr) (m:Int),vs=[.ref p,.int m]/\DeckAt H p c/\0<m/\BigOk m/\∀(r:Int) (H':Hp),0<=r->r<m->On p c H H'->Q (.int r) H'
end L2
namespace L2
open PySem PySem.Spec PyProof.Rows
theorem ObjOk.there{P:Program}{w:World}{H:Hp}{h:Heap}{a:Addr}{o:HO}(x:ObjOk P w H h a o):∃ob,h.get? a=some ob:=by
 cases o with
 |lst xs=>obtain⟨_,_,_,_,e⟩:=x;exact⟨_,e⟩
 |tup xs=>obtain⟨_,_,_,ob,e,_⟩:=x;exact⟨_,e⟩
 |dK kvs=>obtain⟨_,_,_,_,o,_,_,e,_⟩:=x;exact⟨_,e⟩
 |dT kvs=>obtain⟨_,_,_,_,o,_,_,e,_⟩:=x;exact⟨_,e⟩
 |set S n=>obtain⟨o,_,_,_,e,_⟩:=x;exact⟨_,e⟩
 |ins C dx fs=>obtain⟨_,_,_,e,_⟩:=x;exact⟨_,e⟩
 |own y=>obtain⟨_,e⟩:=x;exact⟨_,e⟩
 |xd fs=>obtain⟨_,⟨_,_,_,e,_⟩,_⟩:=x;exact⟨_,e⟩
 |rng lo hi=>obtain⟨_,_,_,e⟩:=x;exact⟨_,e⟩
 |frz ob u=>obtain⟨e,_⟩:=x;exact⟨_,e⟩
 |tbl ps=>exact⟨_,(show h.get? a=some _ from x)⟩
 |met f y=>exact⟨_,(show h.get? a=some _ from x)⟩
 |ext φ=>obtain⟨_,⟨_,e⟩,_⟩:=x;exact⟨_,e⟩
end L2
namespace L2
open PySem PySem.Spec PyProof.Rows
section
variable{X:Cx}
theorem dI{H:Hp}{a:Addr}{o:HO}(h:H a=none):Same H (upd H a o):=λb u q=>by rw[bG (dC q h)];exact q
def zGa(K:W.Frag):R2:=λx y H Q=>∃a b xs ys,x=.ref a/\y=.ref b/\SqT K H a xs/\SqT K H b ys/\xs.length+ys.length<=sizeLine/\∀r H',SqT K H' r (xs++ys)->Same H H'->Q (.ref r) H'
theorem op_catG:OpR X (binaryOp .Add) (zGa X.K):=by
 intro pins s σ H x y v u Q I rx ry h
 obtain⟨a,b,xs,ys,rfl,rfl,ha,hb,hz,q⟩:=h
 by_cases hx:xs=[]
 ·subst hx
  cases rx
  cases ry
  obtain⟨its,r1,p1,_⟩:=I.tuple ha
  obtain⟨its2,r2,p2,_⟩:=I.tuple hb
  obtain⟨⟨cls,dd,data,sl⟩,ho,hc,n,hd⟩:=id p1
  obtain⟨⟨cls2,dd2,data2,sl2⟩,ho2,hc2,n2,hd2⟩:=id p2
  simp only at hc hd hc2 hd2
  subst hc hd hc2 hd2
  have e1:its=[]:=r1.nil_iff.mpr rfl
  exact concat_meets ⟨_,ho,rfl⟩ ⟨_,ho2,rfl⟩ noFill_tuple_add seq_tuple_add PySem.F.slot_tuple_add PySem.F.entry_tuple_add (PySem.F.args_tuple_add_2 _ _)
   (tuple_addW0 a b its.toArray its2.toArray n n2 dd dd2 sl sl2 (by simp[e1])) ⟨ho,ho2,⟨.ref b,H,I,rfl,q b H hb (Same.refl H)⟩⟩
 ·refine zEd pins s σ H (.ref a) (.ref b) v u Q I rx ry ⟨a,b,xs,ys,rfl,rfl,ha,hb,hx,hz,λe=>q a H (by rw[e,List.append_nil];exact ha) (Same.refl H),λ_ p hp=>q p _ (SqT.of bE) (dI hp)⟩
structure QA (X:Cx) (es:List Expr) (t:TA):Prop where
 p:PA X es t
theorem zAl:QA X [] oW:=⟨eE⟩
theorem vJ{e:Expr}{es:List Expr}{te:TE}{t:TA}(ha:PE X e te)(hr:QA X es t)(h:dO e=false:=by rfl):QA X (e::es) (tX te t):=⟨dF ha hr.p h⟩
theorem zB{es:List Expr}{t:TA}{pos:Pos}(h:QA X es t):PE X (.List es pos) (zAR t):=zAo h.p
end
end L2
namespace L2
open PySem PySem.Spec PyProof.Rows
section
variable{X:Cx}{pins:List (Addr×Obj)}{σ:St}{H:Hp}{s:Shared}{h':Heap}
theorem Inv.turnedL{t':Nat}{ch:List Addr}(I:Inv X pins σ H s)(hf:∀b∈ch,dB X pins H b)(k:∀b o,b∉ch->s.heap.get? b=some o->h'.get? b=some o):Inv X pins σ H {s with heap:=h',toks:=t'}:=by
 have nit:∀b u,H b=some u->b∉ch:=λb u e z=>by rw[(hf b z).1]at e;cases e
 refine I.step (g':=s.gens) (d':=s.drawn) (ch:=ch) (λb hb=>?_) (λb o _ _ hc e _=>k b o hc e) (λb o _ _ hc e _=>⟨o.slots,k b o hc e⟩) (λ_ _ _ _ n=>n)
  (λb o hc e=>⟨o,k b o hc e⟩) (λ_ _ e=>e) (λ_ _ _ e=>e) (λb ps e=>⟨#[],by rw[e];simp⟩) (λm hm=>?_) (λb u e=>?_) I.bare
 ·obtain⟨_,f1,_,f3,f4,f5⟩:=hf b hb
  exact⟨f3,f1,f4,f5⟩
 ·obtain⟨o,es,ep,ho,r⟩:=hm
  exact⟨o,es,ep,k _ o (λz=>(hf _ z).2.1 rfl) ho,r⟩
 ·refine(I.hok b u e).stay (λc v hc q=>k c v ?_ q) (λ_ q=>q) λ_ _ q=>q
  rcases hc with z|z
  ·rw[z];exact nit b u e
  ·exact nit c _ z
end
section
variable{X:Cx}
theorem zCO(hc:X.calm=true):CallR X (.builtin "min") (λxs H Q=>∃(p:Addr) (ns:List Int),xs=[.ref p]/\SqL X.K H p (ns.map V.int)/\0<ns.length/\∀M,M∈ns->(∀a∈ns,M<=a)->Q (.int M) H):=by
 intro pins s σ H xs us Q I r h
 obtain⟨p,ns,rfl,hq,hn,q⟩:=h
 obtain⟨u,rfl,rx⟩:=cY r
 cases rx
 obtain⟨its,rv,pl,hz⟩:=I.list hq
 have hi:IntsAre its ns:=mM rv
 obtain⟨zs,ez⟩:=hi.allInts.items
 have en:ns=zs.toList.map (·.1):=by rw[<-hi.numsOf,<-nums_intItems,<-ez]
 have hz0:0<zs.size:=by rw[en,List.length_map,Array.length_toList]at hn;exact hn
 have hl:=pl.isList
 rw[ez]at hl
 refine min_intList (I.ok.hd hc) hl hz0 λv h' tk hv hk=>?_
 obtain⟨t,rfl⟩:=intItems_at hv
 obtain⟨h1,h2⟩:=argBest_lt (numAt zs) (zs.size-1)
 refine⟨.int _,H,I.kept hk,⟨t,rfl⟩,q _ ?_ λa ha=>?_⟩
 ·rw[en,numAt_eq]
  exact getD_mem (by rw[List.length_map,Array.length_toList];omega)
 ·rw[en]at ha
  obtain⟨j,hj,rfl⟩:=mem_getD ha
  rw[List.length_map,Array.length_toList]at hj
  have:=h2 j (by omega)
  rw[numAt_eq zs j]at this
  exact this
theorem zCQ(hc:X.calm=true):CallR X (.builtin "max") (λxs H Q=>∃(p:Addr) (ns:List Int),xs=[.ref p]/\SqL X.K H p (ns.map V.int)/\0<ns.length/\∀M,M∈ns->(∀a∈ns,a<=M)->Q (.int M) H):=by
 intro pins s σ H xs us Q I r h
 obtain⟨p,ns,rfl,hq,hn,q⟩:=h
 obtain⟨u,rfl,rx⟩:=cY r
 cases rx
 obtain⟨its,rv,pl,hz⟩:=I.list hq
 have hi:IntsAre its ns:=mM rv
 obtain⟨zs,ez⟩:=hi.allInts.items
 have en:ns=zs.toList.map (·.1):=by rw[<-hi.numsOf,<-nums_intItems,<-ez]
 have hz0:0<zs.size:=by rw[en,List.length_map,Array.length_toList]at hn;exact hn
 have hl:=pl.isList
 rw[ez]at hl
 refine max_intList (I.ok.hd hc) hl hz0 λv h' tk hv hk=>?_
 obtain⟨t,rfl⟩:=intItems_at hv
 obtain⟨h1,h2⟩:=argBest_gt (numAt zs) (zs.size-1)
 refine⟨.int _,H,I.kept hk,⟨t,rfl⟩,q _ ?_ λa ha=>?_⟩
 ·rw[en,numAt_eq]
  exact getD_mem (by rw[List.length_map,Array.length_toList];omega)
 ·rw[en]at ha
  obtain⟨j,hj,rfl⟩:=mem_getD ha
  rw[List.length_map,Array.length_toList]at hj
  have:=h2 j (by omega)
  rw[numAt_eq zs j]at this
  exact this
end
end L2
namespace L2
open PySem PySem.Spec PyProof.Rows
theorem zBw{us:List Value}{ns:List Int}(h:IntsAre us ns):Vals (ns.map V.int) us:=by
 induction h with
 |nil=>exact .nil
 |cons n t _ ih=>exact .cons ⟨t,rfl⟩ ih
section
variable{X:Cx}
theorem call_sortedI:CallR X (.builtin "sorted") (λxs H Q=>∃(p:Addr) (ns:List Int),xs=[.ref p]/\SqL X.K H p (ns.map V.int)/\ns.length<64 /\
  ∀(ns':List Int) (l:Addr),ns'.Perm ns->ns'.Pairwise (·<=·)->H l=none->Q (.ref l) (upd H l (.lst (ns'.map V.int)))):=by
 intro pins s σ H xs us Q I r h
 obtain⟨p,ns,rfl,hq,h64,q⟩:=h
 obtain⟨u,rfl,rx⟩:=cY r
 cases rx
 obtain⟨its,rv,pl,hz⟩:=I.list hq
 have hi:IntsAre its ns:=mM rv
 have hll:=rv.length
 rw[List.length_map]at hll
 refine sorted_ints pl.isList hi (by omega) λout ns' a1 a2 a3=>?_
 obtain⟨e,he⟩:=sortedAll_at s.heap its out
 have hlen:=a2.length_eq
 refine⟨.ref (s.heap.objs.size+1),_,I.laid (t':=s.toks) (λb o e=>sortedAll_old e) (Nat.le_succ _) (show ObjOk X.prog X.w _ _ _ (.lst (ns'.map V.int)) from ⟨?_,out.toList,e,zBw a1,he⟩),rfl,q ns' _ a2 a3 (I.hok.fresh (Nat.le_succ _))⟩
 rw[List.length_map,hlen]
 exact Nat.le_of_lt (Nat.lt_trans h64 (by decide))
end
end L2
namespace L2
open PySem PySem.Spec PyProof.Rows
def Its(x:Str):It:=⟨λi _=>i<x.cps.size,λi H v H'=>H'=H/\∃c,x.cps[i]?=some c/\v=.str ⟨#[c]⟩,λi _=>x.cps.size<=i⟩
theorem zB7{P:Program}{w:World}{K:W.Frag}{tg:Expr}(it:Addr)(x:Str)(t:Tok):fZ P w K tg (Its x) [it] it (λi h=>h.IsStrIter it "str_ascii_iterator" x t i) where
 mem:=by simp
 obj:=λi h st b hb=>by
  have e:b=it:=by simpa using hb
  subst e
  obtain⟨o,e,c,d⟩:=st
  exact⟨o,e,λv z=>by rw[d]at z;cases z⟩
 keep:=λi h h' st k=>let ⟨o,ho,r⟩:=st;⟨o,k it (by simp) o ho,r⟩
 item:=by
  intro X hP hw hK hc i pins s σ H E I hf st hg
  subst hP hw hK
  obtain⟨f0,f1,f2,f3,f4,f5⟩:=hf it (by simp)
  have W:=Walks.strAscii (prog:=X.prog) (w:=X.w) (I.ok.hd hc) it x t
  refine W.item i s _ _ hg st λv h' tk hv st' kk=>?_
  obtain⟨c,u,hc',rfl⟩:=hv
  have I1:Inv X pins σ H {s with heap:=h',toks:=tk}:=I.turned (λb o hb e=>kk b o (by simpa using hb) e) f0 f1 f3 f4 f5
  obtain⟨o,e,c1,d⟩:=id st'
  exact⟨_,rfl,kB (s:={s with heap:=h',toks:=tk}) e c1 d (by decide) ⟨.str ⟨#[c]⟩,H,I1,⟨u,rfl⟩,⟨rfl,c,hc',rfl⟩,st',λb hb=>(hf b hb).1⟩⟩
 done:=by
  intro X hP hw hK hc i pins s σ H E I hf st hg
  subst hP hw hK
  obtain⟨f0,f1,f2,f3,f4,f5⟩:=hf it (by simp)
  exact wpAny_pyNext_ascii_end (I.ok.hd hc) st (by have:x.cps.size<=i:=hg;simp;omega) λh' eb=>⟨rfl,I.turned (t':=s.toks) (λb o hb e=>eb b o hb e) f0 f1 f3 f4 f5⟩
 self:=λ_ _ _ _ _ st h=>wpAny_pyIter_striter_ascii st h
theorem zB6{P:Program}{w:World}{K:W.Frag}{tg:Expr}(it:Addr)(x:Str)(t:Tok):fZ P w K tg (Its x) [it] it (λi h=>h.IsStrIter it "str_iterator" x t i) where
 mem:=by simp
 obj:=λi h st b hb=>by
  have e:b=it:=by simpa using hb
  subst e
  obtain⟨o,e,c,d⟩:=st
  exact⟨o,e,λv z=>by rw[d]at z;cases z⟩
 keep:=λi h h' st k=>let ⟨o,ho,r⟩:=st;⟨o,k it (by simp) o ho,r⟩
 item:=by
  intro X hP hw hK hc i pins s σ H E I hf st hg
  subst hP hw hK
  obtain⟨f0,f1,f2,f3,f4,f5⟩:=hf it (by simp)
  have W:=Walks.strWide (prog:=X.prog) (w:=X.w) (I.ok.hd hc) it x t
  refine W.item i s _ _ hg st λv h' tk hv st' kk=>?_
  obtain⟨c,u,hc',rfl⟩:=hv
  have I1:Inv X pins σ H {s with heap:=h',toks:=tk}:=I.turned (λb o hb e=>kk b o (by simpa using hb) e) f0 f1 f3 f4 f5
  obtain⟨o,e,c1,d⟩:=id st'
  exact⟨_,rfl,kB (s:={s with heap:=h',toks:=tk}) e c1 d (by decide) ⟨.str ⟨#[c]⟩,H,I1,⟨u,rfl⟩,⟨rfl,c,hc',rfl⟩,st',λb hb=>(hf b hb).1⟩⟩
 done:=by
  intro X hP hw hK hc i pins s σ H E I hf st hg
  subst hP hw hK
  obtain⟨f0,f1,f2,f3,f4,f5⟩:=hf it (by simp)
  exact wpAny_pyNext_wide_end (I.ok.hd hc) st (by have:x.cps.size<=i:=hg;simp;omega) λh' eb=>⟨rfl,I.turned (t':=s.toks) (λb o hb e=>eb b o hb e) f0 f1 f3 f4 f5⟩
 self:=λ_ _ _ _ _ st h=>wpAny_pyIter_striter_wide st h
section
variable{X:Cx}
def zDT:V->List V->Hp->VK->Prop:=λx vs H Q=>∃i j,x=.str i/\vs=[.str j]/\Q (.bl (decide (0+j.length<=i.length)&&Builtin.Str.subAt i j 0)) H
theorem zBm:MtM X "str.startswith" zDT:=by
 intro pins s σ H x vs v us Q I rx rv h
 obtain⟨i,j,rfl,rfl,q⟩:=h
 obtain⟨t,rfl⟩:=rx
 obtain⟨u,rfl,t',rfl⟩:=rv.one
 exact call_gives F.slot_str_startswith (typeIs_str _ _ _) F.entry_str_startswith (F.args_str_startswith_2 _ _) (gives_str_startswith i j t t') ⟨.bl _,H,I,rfl,q⟩
def zF7:V->List V->Hp->VK->Prop:=λx vs H Q=>∃i j,x=.str i/\vs=[.str j]/\∀n:Int,Q (.int n) H
theorem zEg:MtM X "str.find" zF7:=by
 intro pins s σ H x vs v us Q I rx rv h
 obtain⟨i,j,rfl,rfl,q⟩:=h
 obtain⟨t,rfl⟩:=rx
 obtain⟨u,rfl,t',rfl⟩:=rv.one
 exact call_gives F.slot_str_find (typeIs_str _ _ _) F.entry_str_find (F.args_str_find_2 _ _) (gives_str_find i j t t') ⟨.int _,H,I.tok _,⟨_,rfl⟩,q _⟩
end
def KD(prm:Params):List DictEntry->List (Str×Str)->Prop
 |[],[]=>True
 |e::es,kv::kvs=>e.hash=PyData.keyHash prm kv.1/\(∃t,e.key=.str kv.1 t)/\(∃t,e.val=.str kv.2 t)/\KD prm es kvs
 |_,_=>False
structure zAN (K:W.Frag) (prm:Params) (d:Addr) (kvs:List (Str×Str)):Prop where
 obj:∃(es:Array DictEntry) (ep:Nat),K.lookup d=some ⟨.type "dict",none,.dict es ep,#[]⟩/\KD prm es.toList kvs
 nd:(kvs.map (·.1)).Nodup
def getS(kvs:List (Str×Str))(x:Str):Option Str:=(kvs.find? λkv=>kv.1=x).map (·.2)
theorem KD.keys{P:Program}{w:World}:∀{es:List DictEntry}{kvs:List (Str×Str)},KD w.params es kvs->∀e∈es,∃k,(cS P w).is k e.key=true/\e.hash=(cS P w).hash k
 |[],[],_,e,he=>nomatch he
 |a::es,kv::kvs,⟨h1,⟨t,h2⟩,_,h4⟩,e,he=>by
  rcases List.mem_cons.mp he with z|z
  ·subst z
   exact⟨.inr kv.1,by rw[h2];exact mH P w kv.1 t,by rw[h1];rfl⟩
  ·exact KD.keys h4 e z
theorem KD.pairs{P:Program}{w:World}:∀{es:List DictEntry}{kvs:List (Str×Str)},KD w.params es kvs->∃vs:List (Key×Value),Pairs (cS P w) es vs/\vs.map (·.1)=kvs.map (λkv=>Sum.inr kv.1) /\
  ∀x y,getS kvs x=some y->∃t,valueAt vs (.inr x)=some (.str y t)
 |[],[],_=>⟨[],.nil,rfl,λx y h=>nomatch h⟩
 |a::es,kv::kvs,⟨h1,⟨t,h2⟩,⟨t',h3⟩,h4⟩=>by
  obtain⟨vs,p,m,g⟩:=KD.pairs (P:=P) h4
  refine⟨(.inr kv.1,.str kv.2 t')::vs,.cons (by rw[h2];exact mH P w kv.1 t) h3 p,by simp[m],λx y h=>?_⟩
  by_cases e:kv.1=x
  ·subst e
   have:kv.2=y:=by simpa[getS]using h
   subst this
   exact⟨t',by simp[valueAt]⟩
  ·have h':getS kvs x=some y:=by simpa[getS,e]using h
   obtain⟨t'',h''⟩:=g x y h'
   exact⟨t'',by
    have:(Sum.inr kv.1:Key)≠.inr x:=λz=>e (Sum.inr.inj z)
    simpa[valueAt,this]using h''⟩
section
variable{X:Cx}
def rKD(d:Addr)(kvs:List (Str×Str)):R2:=λx y H Q=>∃i j,x=.ref d/\y=.str i/\getS kvs i=some j/\Q (.str j) H
theorem zGp{d:Addr}{kvs:List (Str×Str)}(D:zAN X.K X.w.params d kvs):IxR X (rKD d kvs):=by
 intro value slice pins s σ H x y v u Q I rx ry h hs
 obtain⟨i,j,rfl,rfl,hg,q⟩:=h
 cases rx
 obtain⟨t,rfl⟩:=ry
 obtain⟨es,ep,lk,kd⟩:=D.obj
 obtain⟨vs,hp,hm,hv⟩:=KD.pairs (P:=X.prog) kd
 obtain⟨t',hv⟩:=hv i j hg
 have ho:=I.kIn d _ lk
 have hnd:(vs.map (·.1)).Nodup:=by
  rw[hm,show kvs.map (λkv=>(Sum.inr kv.1:Key))=(kvs.map (·.1)).map Sum.inr by simp]
  unfold List.Nodup
  rw[List.pairwise_map]
  exact D.nd.imp λh z=>h (Sum.inr.inj z)
 have dd:s.heap.DictOf (cS X.prog X.w) d vs:=⟨_,es,ep,ho,⟨rfl,rfl,rfl⟩,rfl,λe he=>KD.keys kd e (by simpa using he),hp,hnd⟩
 exact tail_any ⟨_,ho,rfl⟩ slot_dict_getitem.lookup (wpAny_getItem_of (mH _ _ i t) dd.mapOf hv ⟨.str j,H,I.tok _,⟨t',rfl⟩,q⟩) hs
end
section
variable{X:Cx}
def zG0:V->Option Int->Option Int->Hp->VK->Prop:=λx lo hi H Q=>∃z,x=.str z/\z.length<=sizeLine/\Q (.str (Txt.slice z lo hi)) H
theorem zEO:SlR X zG0:=by
 intro pins s σ H x v vl vu lo hi sl Q I rx hs pl pu h
 obtain⟨z,rfl,hz,q⟩:=h
 obtain⟨t,rfl⟩:=rx
 obtain⟨o,ho,hc,hd⟩:=hs
 refine⟨"str",_,F.slot_str_getitem.lookup,typeIs_str _ _ _,?_⟩
 have fin:∀t' k,EP X pins σ Q (.str (Txt.slice z lo hi) t') {s with toks:=k}:=λt' k=>⟨.str _,H,I.tok k,⟨t',rfl⟩,q⟩
 cases pl with
 |none=>cases pu with
  |none=>exact wpAny_getItem_str_slice (l:=none) (u:=none) (st:=none) ⟨o,ho,hc,hd⟩ rfl (post_val_or_str ⟨Nat.le_trans (Txt.slice_le z _ _) hz,fin⟩)
  |int j uj=>exact wpAny_getItem_str_slice (l:=none) (u:=some (j,uj)) (st:=none) ⟨o,ho,hc,hd⟩ rfl (post_val_or_str ⟨Nat.le_trans (Txt.slice_le z _ _) hz,fin⟩)
 |int i ui=>cases pu with
  |none=>exact wpAny_getItem_str_slice (l:=some (i,ui)) (u:=none) (st:=none) ⟨o,ho,hc,hd⟩ rfl (post_val_or_str ⟨Nat.le_trans (Txt.slice_le z _ _) hz,fin⟩)
  |int j uj=>exact wpAny_getItem_str_slice (l:=some (i,ui)) (u:=some (j,uj)) (st:=none) ⟨o,ho,hc,hd⟩ rfl (post_val_or_str ⟨Nat.le_trans (Txt.slice_le z _ _) hz,fin⟩)
theorem jE{ss:List Str}:∀{us:List Value},Vals (ss.map V.str) us->StrsAre us ss:=by
 induction ss with
 |nil=>intro us r;rw[List.map_nil]at r;cases r;exact .nil
 |cons n ns ih=>
  intro us r
  rw[List.map_cons]at r
  cases r with
  |cons r1 r2=>
   obtain⟨t,e⟩:=r1
   subst e
   exact .cons n t (ih r2)
theorem pY{us:List Value}{ss:List Str}(h:StrsAre us ss):Vals (ss.map V.str) us:=by
 induction h with
 |nil=>exact .nil
 |cons n t _ ih=>exact .cons ⟨t,rfl⟩ ih
theorem call_sortedS:CallR X (.builtin "sorted") (λxs H Q=>∃(p:Addr) (ss:List Str),xs=[.ref p]/\SqL X.K H p (ss.map V.str)/\ss.length<64 /\
  ∀(ss':List Str) (l:Addr),ss'.Perm ss->sortedS ss'=true->H l=none->Q (.ref l) (upd H l (.lst (ss'.map V.str)))):=by
 intro pins s σ H xs us Q I r h
 obtain⟨p,ns,rfl,hq,h64,q⟩:=h
 obtain⟨u,rfl,rx⟩:=cY r
 cases rx
 obtain⟨its,rv,pl,hz⟩:=I.list hq
 have hi:StrsAre its ns:=jE rv
 have hll:=rv.length
 rw[List.length_map]at hll
 refine sorted_strs pl.isList hi (by omega) λout ns' a1 a2 a3=>?_
 obtain⟨e,he⟩:=sortedAll_at s.heap its out
 have hlen:=a2.length_eq
 refine⟨.ref (s.heap.objs.size+1),_,I.laid (t':=s.toks) (λb o e=>sortedAll_old e) (Nat.le_succ _) (show ObjOk X.prog X.w _ _ _ (.lst (ns'.map V.str)) from ⟨?_,out.toList,e,pY a1,he⟩),rfl,q ns' _ a2 a3 (I.hok.fresh (Nat.le_succ _))⟩
 rw[List.length_map,hlen]
 exact Nat.le_of_lt (Nat.lt_trans h64 (by decide))
def bI(ss:List Str):List Nat:=(ss.map λs=>s.cps.toList).flatten
theorem yP:∀{us:List Value}{ss:List Str},StrsAre us ss->∃l:List (Str×Tok),us=strValues l/\l.map (·.1)=ss
 |_,_,.nil=>⟨[],rfl,rfl⟩
 |_,_,.cons y t h=>by
  obtain⟨l,e1,e2⟩:=yP h
  exact⟨(y,t)::l,by rw[e1];rfl,by simp[e2]⟩
theorem rX:∀ss:List Str,(Str.join ⟨#[]⟩ ss).cps.toList=bI ss
 |[]=>rfl
 |[x]=>by simp[Str.join,bI]
 |x::y::r=>by
  have ih:=rX (y::r)
  show((x++(⟨#[]⟩:Str)++Str.join ⟨#[]⟩ (y::r)):Str).cps.toList=_
  have e:∀a b:Str,(a++b).cps.toList=a.cps.toList++b.cps.toList:=λa b=>by
   show(a.cps++b.cps).toList=_
   simp
  rw[e,e,ih]
  simp[bI]
theorem yR:∀(ss:List Str) (n:Nat),ss.foldl (λa s=>a+s.length+0) n=n+(bI ss).length
 |[],n=>by simp[bI]
 |s::r,n=>by
  rw[List.foldl_cons,yR r]
  simp[bI,Str.length]
  omega
def zF6(K:W.Frag):V->List V->Hp->VK->Prop:=λx vs H Q=>∃p ss,x=.str ⟨#[]⟩/\vs=[.ref p]/\SqL K H p (ss.map V.str)/\(bI ss).length<=100000/\∀z:Str,z.cps.toList=bI ss->Q (.str z) H
theorem zEf:MtM X "str.join" (zF6 X.K):=by
 intro pins s σ H x vs v us Q I rx rv h
 obtain⟨p,ss,rfl,rfl,hq,hz,q⟩:=h
 obtain⟨t,rfl⟩:=rx
 obtain⟨u,rfl,ru⟩:=rv.one
 cases ru
 obtain⟨its,rv,pl,hz'⟩:=I.list hq
 obtain⟨l,e1,e2⟩:=yP (jE rv)
 have hl:=pl.isList
 rw[e1]at hl
 have hlen:((l.map (·.1)).toArray.foldl (λa s=>a+s.length+(⟨#[]⟩:Str).length) 0)=(bI ss).length:=by
  rw[e2,List.foldl_toArray]
  show ss.foldl (λa s=>a+s.length+0) 0=_
  rw[yR]
  omega
 refine call_meets F.slot_str_join (typeIs_str _ _ _) F.entry_str_join (F.args_str_join_2 _ _) (meets_str_join_list ⟨#[]⟩ t p l (by
  rw[hlen]
  show decide (_ > sizeLine)=false
  exact decide_eq_false (Nat.not_lt.mpr (Nat.le_trans hz (by decide))))) ⟨hl,?_⟩
 have hj:∀z:Str,z=Str.join ⟨#[]⟩ ss->∀t' k,EP X pins σ Q (.str z t') {s with toks:=k}:=λz e t' k=>⟨.str z,H,I.tok k,⟨t',rfl⟩,q z (by rw[e,rX])⟩
 have hlz:(Str.join ⟨#[]⟩ ss).length<=sizeLine:=by
  show(Str.join ⟨#[]⟩ ss).cps.size<=_
  rw[<-Array.length_toList,rX]
  exact Nat.le_trans hz (by decide)
 match l,e2 with
 |[],e2=>exact⟨by rw[StrLaws.glued_eq_join];exact Nat.zero_le _,hj _ (by rw[<-e2];rw[StrLaws.glued_eq_join]) _ _⟩
 |[pp],e2=>exact hj _ (by rw[<-e2];rfl) _ s.toks
 |a::b::r,e2=>exact⟨by rw[StrLaws.glued_eq_join,e2];exact hlz,hj _ (by rw[StrLaws.glued_eq_join,e2]) _ _⟩
end
end L2
namespace L2
open PySem
theorem mN{α:Type}:∀(l:List α) (i:Nat) (h:i<l.length),(l[i]::l.eraseIdx i).Perm l
 |[],i,h=>by simp at h
 |x::l,0,h=>by simp
 |x::l,i+1,h=>by
  have h':i<l.length:=by simpa using h
  simp only[List.getElem_cons_succ,List.eraseIdx_cons_succ]
  exact(List.Perm.swap _ _ _).trans (.cons _ (mN l i h'))
section
variable{M:Model}{A:Around}{E:Value->Shared->Prop}{s:Shared}
theorem zB1{src:Source}{n:Nat}{Q:Nat->Shared->Prop}(hn:n≠0)(h:∀i d,i<n->Q i {s with drawn:=d}):wpAny M A (choose src n) Q E s:=λΓ p _=>by
 unfold choose
 rw[Sem.wp_choose]
 exact⟨hn,h _ _ (Nat.mod_lt _ (Nat.pos_of_ne_zero hn))⟩
theorem vR{α:Type}:∀(n:Nat) (xs:List α) (s:Shared) {Q:List α->Shared->Prop},xs.length=n->(∀ys d,ys.Perm xs->Q ys {s with drawn:=d})->wpAny M A (drawOrder n xs) Q E s
 |0,xs,s,Q,hl,h=>by
  have e:xs=[]:=List.eq_nil_of_length_eq_zero hl
  subst e
  exact wpAny_pure (h [] s.drawn (.refl _))
 |n+1,[],s,Q,hl,h=>by simp at hl
 |n+1,x::xs,s,Q,hl,h=>by
  show wpAny M A (do
   let i <- choose .order (x::xs).length
   match (x::xs)[i]? with
   |some x'=>return x'::(<- drawOrder n ((x::xs).eraseIdx i))
   |none=>unsupported "internal:drawOrder") Q E s
  refine wpAny_bind (zB1 (by simp) λi d hi=>?_)
  rw[List.getElem?_eq_getElem hi]
  refine wpAny_bind (vR n _ _ (by rw[List.length_eraseIdx_of_lt hi];simp at hl ⊢;exact hl) λys d' hp=>?_)
  refine wpAny_pure (h _ d' ((List.Perm.cons _ hp).trans ?_))
  exact mN (x::xs) i hi
end
theorem zA{α:Type}(next:Nat->Nat):∀(fuel k:Nat) (left:List α) (out:Array α),fuel=left.length->(pickOrder.go next fuel k left out).toList.Perm (out.toList++left)
 |0,k,left,out,h=>by
  have e:left=[]:=List.eq_nil_of_length_eq_zero h.symm
  subst e
  unfold pickOrder.go
  simp
 |fuel+1,k,left,out,h=>by
  unfold pickOrder.go
  have hlt:next k % left.length<left.length:=Nat.mod_lt _ (by omega)
  rw[List.getElem?_eq_getElem hlt]
  refine(zA next fuel (k+1) _ _ (by rw[List.length_eraseIdx_of_lt hlt];omega)).trans ?_
  rw[Array.toList_push,List.append_assoc]
  exact List.Perm.append_left _ (mN _ _ hlt)
theorem qU{α:Type}(next:Nat->Nat)(xs:Array α):(pickOrder next xs).toList.Perm xs.toList:=by
 unfold pickOrder
 have:=zA next xs.size 0 xs.toList #[] (by simp)
 simpa using this
end L2
namespace L2
open PySem PySem.Spec PyProof.Rows
abbrev byT(w:World):Bool:=w.params.followText "set-order"
structure SetT (prog:Program) (w:World) (us:List Str) (es:Array (Int×Value)) (t:SetTable):Prop where
 el:ElemsOf (PySem.strKind prog w) es.toList
 tx:∃vs:List Str,StrsAre (es.toList.map (·.2)) vs/\vs.Perm us
 nd:us.Nodup
 lt:es.size<scanBound
 fit:t.fits es.size=true
 pl:es.size=0\/t.plain=false
 ld:t.led=!byT w
abbrev bY(es:Array (Int×Value))(ep:Nat)(t:SetTable):Obj:={cls:=.type "set",dict:=none,data:=.set es ep t,slots:=#[]}
def SetS(prog:Program)(w:World)(a:Addr)(us:List Str)(h:Heap):Prop:=∃es ep t,h.get? a=some (bY es ep t)/\SetT prog w us es t
def dH(us:List Str)(x:Str):List Str:=if x∈us then us else us++[x]
theorem gV:∀{vs:List Value}{ss:List Str},StrsAre vs ss->vs.length=ss.length
 |_,_,.nil=>rfl
 |_,_,.cons _ _ h=>by simp[gV h]
theorem xQ:∀{vs:List Value}{ss:List Str},StrsAre vs ss->∀x,x∈ss↔∃v∈vs,Value.isStrOf x v=true
 |_,_,.nil,x=>by simp
 |_,_,.cons y t h,x=>by
  have ih:=xQ h x
  have e:Value.isStrOf x (.str y t)=true↔x=y:=⟨λh=>by
   obtain⟨u,h⟩:=Value.isStrOf_shape h
   injection h with h1 h2
   exact h1.symm,λh=>by subst h;simp[Value.isStrOf]⟩
  simp only[List.mem_cons,exists_eq_or_imp,ih,e]
theorem mQ:∀{vs us:List Value},us.Perm vs->∀{ss:List Str},StrsAre vs ss->∃ss',StrsAre us ss'/\ss'.Perm ss:=by
 intro vs us p
 induction p with
 |nil=>intro ss h;exact⟨ss,h,.refl _⟩
 |cons x p ih=>
  intro ss h
  cases h with
  |cons y t h=>obtain⟨ss',a,b⟩:=ih h;exact⟨y::ss',.cons y t a,.cons _ b⟩
 |swap x y l=>
  intro ss h
  cases h with
  |cons a t h=>cases h with
   |cons b u h=>exact⟨b::a::_,.cons b u (.cons a t h),.swap _ _ _⟩
 |trans p q ihp ihq=>
  intro ss h
  obtain⟨s1,a1,b1⟩:=ihq h
  obtain⟨s2,a2,b2⟩:=ihp a1
  exact⟨s2,a2,b2.trans b1⟩
theorem wS:∀{vs:List Value}{ss:List Str}(x:Str) (t:Tok),StrsAre vs ss->StrsAre (vs++[.str x t]) (ss++[x])
 |_,_,x,t,.nil=>.cons x t .nil
 |_,_,x,t,.cons y u h=>.cons y u (wS x t h)
theorem zBU(t:SetTable)(es:Array (Int×Value))(h:Int)(x:Value):(layNew t es h x).2.1.led=t.led:=by
 have so:∀(u:SetTable) (n:Nat),(u.orStandIn n).led=u.led:=λu n=>by
  unfold SetTable.orStandIn
  split<;>rfl
 unfold layNew
 split
 ·dsimp only
  rw[so]
  rfl
 ·rfl
theorem zCi(t:SetTable)(es:Array (Int×Value))(n:Nat):(relayAll t es n).2.1.led=t.led/\(t.plain=false->(relayAll t es n).2.1.plain=false):=by
 have la:∀m f mv ld pl hs t' o,SetTable.laid m f mv ld pl hs=some (t',o)->t'.led=ld/\t'.plain=pl:=λm f mv ld pl hs t' o e=>by
  unfold SetTable.laid at e
  cases q:SetTable.layClean m hs with
  |none=>rw[q]at e;cases e
  |some ow=>
   rw[q]at e
   simp only[Option.bind_eq_bind,Option.bind_some,Option.pure_def,Option.some.injEq,Prod.mk.injEq]at e
   obtain⟨e,_⟩:=e
   subst e
   exact⟨rfl,rfl⟩
 unfold relayAll
 split
 ·rename_i t' order e
  have:=la _ _ _ _ _ _ _ _ e
  dsimp only
  split
  ·exact⟨this.1,λz=>by rw[<-z];exact this.2⟩
  ·exact⟨rfl,λ_=>rfl⟩
 ·exact⟨rfl,λ_=>rfl⟩
section
variable{prog:Program}{w:World}{A:Around}{E:Value->Shared->Prop}{s:Shared}{a:Addr}{us:List Str}{x:Str}{tk:Tok}
theorem SetT.mem{es:Array (Int×Value)}{t:SetTable}(T:SetT prog w us es t)(x:Str):x∈us↔∃e∈es.toList,(PySem.strKind prog w).is x e.2=true:=by
 obtain⟨vs,h,p⟩:=T.tx
 rw[<-p.mem_iff,xQ h x]
 simp only[List.mem_map]
 exact⟨λ⟨v,⟨e,he,z⟩,q⟩=>⟨e,he,by subst z;exact q⟩,λ⟨e,he,q⟩=>⟨e.2,⟨e,he,rfl⟩,q⟩⟩
theorem SetT.size{es:Array (Int×Value)}{t:SetTable}(T:SetT prog w us es t):es.size=us.length:=by
 obtain⟨vs,h,p⟩:=T.tx
 have:=gV h
 rw[List.length_map,Array.length_toList]at this
 rw[this,p.length_eq]
theorem yK{g:Bool->Sem Unit}(hg:∀(b:Bool) (s₁:Shared) (R:Unit->Shared->Prop),R () s₁->wpAny (model prog w) A (g b) R E s₁){es es1:Array (Int×Value)}{ep:Nat}{t t2:SetTable}{wd:Bool}{R:Option Bool->Shared->Prop}
  (ho:s.heap.get? a=some (bY es ep t)) (T:SetT prog w us es1 t2) (np:t2.plain=false)
  (h:∀h',Heap.SameBut a s.heap h'->SetS prog w a us h'->R (some true) {s with heap:=h'}):
  wpAny (model prog w) A (do
   storeSet a es1 t2
   if (!wd&&t2.tooFull)=true then do
     g (relayAll t2 es1 (SetTable.grown es1.size)).2.2
     storeSet a (relayAll t2 es1 (SetTable.grown es1.size)).1 (relayAll t2 es1 (SetTable.grown es1.size)).2.1
     pure (some true)
    else pure (some true)) R E s:=by
 refine wpAny_bind (wpAny_storeSet_of ho rfl ?_ (fits_of_scanBound T.lt))
 have o1:(s.heap.update a (Obj.putSet es1 t2)).get? a=some (bY es1 (ep+1) t2):=Heap.get?_update_self (Obj.putSet es1 t2) ho rfl
 have b1:=Heap.SameBut.update s.heap a (Obj.putSet es1 t2)
 split
 ·have hp:=relayAll_perm t2 es1 (SetTable.grown es1.size)
  have hf:=relayAll_fits t2 es1 (SetTable.grown es1.size)
  obtain⟨hl,hq⟩:=zCi t2 es1 (SetTable.grown es1.size)
  have hq:=hq np
  generalize relayAll t2 es1 (SetTable.grown es1.size)=Rl at hp hf hl hq ⊢
  obtain⟨es2,t3,g2⟩:=Rl
  dsimp only at hp hf hl hq ⊢
  have sz:es2.size=es1.size:=by have:=hp.length_eq;simpa using this
  have T2:SetT prog w us es2 t3:=by
   obtain⟨vs,hv,pv⟩:=T.tx
   obtain⟨vs',hv',pv'⟩:=mQ (hp.map (·.2)) hv
   exact⟨T.el.perm hp,⟨vs',hv',pv'.trans pv⟩,T.nd,by rw[sz];exact T.lt,hf,.inr hq,hl.trans T.ld⟩
  refine wpAny_bind (hg _ _ _ ?_)
  refine wpAny_bind (wpAny_storeSet_of o1 rfl ?_ (fits_of_scanBound T2.lt))
  exact wpAny_pure (h _ (b1.trans (Heap.SameBut.update _ a _)) ⟨es2,ep+1+1,t3,Heap.get?_update_self (Obj.putSet es2 t3) o1 rfl,T2⟩)
 ·exact wpAny_pure (h _ b1 ⟨es1,ep+1,t2,o1,T⟩)
theorem yL{Q:Bool->Shared->Prop}(S:SetS prog w a us s.heap)(room:us.length+1<scanBound)(h:∀b h',Heap.SameBut a s.heap h'->SetS prog w a (dH us x) h'->Q b {s with heap:=h'}):
  wpAny (model prog w) A (setAddHashed a (.str x tk) ((PySem.strKind prog w).hash x)) Q E s:=by
 obtain⟨es,ep,t,ho,T⟩:=id S
 have hk:(PySem.strKind prog w).is x (.str x tk)=true:=by show Value.isStrOf x (.str x tk)=true;simp[Value.isStrOf]
 have sc:(Value.str x tk).scannable=true:=rfl
 unfold setAddHashed setAddHashedIn
 refine wpAny_holding (wpAny_bind (wpAny_setState_of ho rfl T.fit ?_))
 dsimp only
 rw[byScan_of sc T.lt T.el,if_pos rfl]
 unfold setAddByScan
 refine wpAny_bind (wpAny_bind (wpAny_rule ?_))
 refine wpAny_bind (wpAny_setScan_of hk ho rfl T.fit T.el ?_)
 cases hr:es.toList.findIdx? (λe=>(PySem.strKind prog w).is x e.2) with
 |some j=>
  dsimp only
  obtain⟨hj,hp,_⟩:=List.findIdx?_eq_some_iff_getElem.mp hr
  have hin:x∈us:=(T.mem x).mpr ⟨_,List.getElem_mem hj,hp⟩
  refine wpAny_pure (wpAny_pure ?_)
  have e:s={s with heap:=s.heap}:=by cases s;rfl
  rw[e]
  refine h false s.heap (Heap.SameBut.refl a s.heap) ?_
  rw[dH,if_pos hin]
  exact S
 |none=>
  dsimp only
  have hout:x∉us:=λz=>by
   obtain⟨e,he,hp⟩:=(T.mem x).mp z
   have:=List.findIdx?_eq_none_iff.mp hr e he
   rw[hp]at this;cases this
  have eA:dH us x=us++[x]:=by rw[dH,if_neg hout]
  have pm:=layNew_perm t es ((PySem.strKind prog w).hash x) (.str x tk)
  have ft:=layNew_fits t es ((PySem.strKind prog w).hash x) (.str x tk)
  have ld:=zBU t es ((PySem.strKind prog w).hash x) (.str x tk)
  generalize layNew t es ((PySem.strKind prog w).hash x) (.str x tk)=L at pm ft ld ⊢
  obtain⟨es1,t1,wd,gv⟩:=L
  dsimp only at pm ft ld ⊢
  rw[Array.toList_push]at pm
  have sz:es1.size=us.length+1:=by
   have:=pm.length_eq
   rw[<-Array.length_toList,this,List.length_append,Array.length_toList,T.size];rfl
  have base:∀t2:SetTable,t2.fits es1.size=true->t2.plain=false->t2.led=t.led->SetT prog w (dH us x) es1 t2:=λt2 f2 p2 l2=>by
   obtain⟨vs,hv,pv⟩:=T.tx
   have h1:=wS x tk hv
   have h2:(es.toList.map (·.2))++[Value.str x tk]=(es.toList++[((PySem.strKind prog w).hash x,Value.str x tk)]).map (·.2):=by simp
   rw[h2]at h1
   obtain⟨vs',hv',pv'⟩:=mQ (pm.map (·.2)) h1
   refine⟨(T.el.push hk sc).perm pm,⟨vs',hv',?_⟩,?_,by rw[sz];exact room,f2,.inr p2,l2.trans T.ld⟩
   ·rw[eA];exact pv'.trans (pv.append_right _)
   ·rw[eA,List.nodup_append]
    refine⟨T.nd,by simp,λy hy z hz e=>hout ?_⟩
    have q:z=x:=by simpa using hz
    rw[<-q,<-e]
    exact hy
  have gw:∀(b:Bool) (s₁:Shared) (R:Unit->Shared->Prop),R () s₁->wpAny (model prog w) A (match b with|true=>rule "set.scan.the-table-gave-way"|false=>pure ()) R E s₁:=
   λb s₁ R q=>by
    cases b
    ·exact wpAny_pure q
    ·exact wpAny_rule q
  refine wpAny_bind (gw _ _ _ ?_)
  have fin:∀h',Heap.SameBut a s.heap h'->SetS prog w a (dH us x) h'->wpAny (model prog w) A (pure true) Q E {s with heap:=h'}:=λh' b S'=>wpAny_pure (h true h' b S')
  split
  ·refine wpAny_bind ?_
   rw[hashByValue_scannable 8 sc]
   refine wpAny_pure ?_
   rw[if_neg (by simp[plainKind])]
   exact yK (g:=λb=>match b with|true=>rule "set.scan.the-table-gave-way"|false=>pure ()) gw ho (base _ (SetTable.fits_plain_off ft) rfl ld) rfl λh' b S'=>fin h' b S'
  ·rename_i hp
   refine wpAny_bind (wpAny_pure ?_)
   rw[if_pos rfl]
   exact yK (g:=λb=>match b with|true=>rule "set.scan.the-table-gave-way"|false=>pure ()) gw ho (base _ ft (by simpa using hp) ld) (by simpa using hp) λh' b S'=>fin h' b S'
end
end L2
namespace L2
open PySem PySem.Spec PyProof.Rows
theorem yS:Slot "set" "__iter__" "set.__iter__":=
 Slot.of (owner:="set") (n:="__iter__") (by rw[typeLookup_type,builtinLookup_eq_fast];kernel_rfl) (by decide +kernel) (by decide +kernel) (by decide +kernel) (by first|exact .inl (by decide +kernel)|exact .inr (by decide +kernel)) (by rw[isSubtype_type];kernel_rfl)
theorem zEs:entryFor table "set.__iter__"=some Builtin.«frozenset.__iter__»:=entryFor_alias (id':="frozenset.__iter__") (by kernel_rfl) rfl (by decide +kernel) (by kernel_rfl)
theorem zEx(a:Value):argsOk "set.__iter__" ⟨[a],[]⟩:=by
 unfold argsOk
 kernel_rfl
theorem st_next:Slot "set_iterator" "__next__" "set_iterator.__next__":=
 Slot.of (owner:="set_iterator") (n:="__next__") (by rw[typeLookup_type,builtinLookup_eq_fast];kernel_rfl) (by decide +kernel) (by decide +kernel) (by decide +kernel) (by first|exact .inl (by decide +kernel)|exact .inr (by decide +kernel)) (by rw[isSubtype_type];kernel_rfl)
theorem zEr:entryFor table "set_iterator.__next__"=some Builtin.«set_iterator.__next__»:=entryFor_of_fast (by kernel_rfl)
theorem zEw(a:Value):argsOk "set_iterator.__next__" ⟨[a],[]⟩:=by
 unfold argsOk
 kernel_rfl
theorem jO:Slot "set_iterator" "__iter__" "set_iterator.__iter__":=
 Slot.of (owner:="set_iterator") (n:="__iter__") (by rw[typeLookup_type,builtinLookup_eq_fast];kernel_rfl) (by decide +kernel) (by decide +kernel) (by decide +kernel) (by first|exact .inl (by decide +kernel)|exact .inr (by decide +kernel)) (by rw[isSubtype_type];kernel_rfl)
theorem tH:entryFor table "set_iterator.__iter__"=some Builtin.«dict_keyiterator.__iter__»:=entryFor_alias (id':="dict_keyiterator.__iter__") (by kernel_rfl) rfl (by decide +kernel) (by kernel_rfl)
theorem tJ(a:Value):argsOk "set_iterator.__iter__" ⟨[a],[]⟩:=by
 unfold argsOk
 kernel_rfl
section
variable{prog:Program}{w:World}{A:Around}{E:Value->Shared->Prop}{s:Shared}
theorem zDy{α:Type}{Q:α->Shared->Prop}(hh:A.handled=none)
  (h:∀e h',(∀b o,s.heap.get? b=some o->h'.get? b=some o)->Shared.TypeIs {s with heap:=h'} (.ref e) "StopIteration"->E (.ref e) {s with heap:=h'}):
  wpAny (model prog w) A (newExc (.type "StopIteration") [] >>= λe=>raiseNew e) Q E s:=by
 refine wpAny_bind ?_
 simp only[newExc,newTuple]
 refine wpAny_bind (wpAny_newObj_type ?_ (by size_fits))
 refine wpAny_bind (m:=firstArgMember _ _) (wpAny_of_eq (a:=Value.none) (by first|rfl|(simp only[firstArgMember];rfl)) ?_)
 refine wpAny_newObj_type ?_ (by size_fits)
 simp only[raiseNew]
 refine wpAny_bind (wpAny_handled ?_)
 rw[hh]
 refine wpAny_bind (wpAny_pure (wpAny_throw ?_))
 exact h _ _ (λb o e=>Heap.get?_push_of_some _ (Heap.get?_push_of_some _ e)) ⟨_,Heap.get?_push_size _ rfl,rfl⟩
theorem jM{it:Addr}{o:Obj}{Q:Option Value->Shared->Prop}(ho:s.heap.get? it=some o)(hc:o.cls=.type "set_iterator")
  (h:wpAny (model prog w) A.in1 (Builtin.«set_iterator.__next__» ⟨[.ref it],[]⟩) (λr s'=>∃v,r=.done (.ret v)/\Q (some v) s') (λe s'=>s'.TypeIs e "StopIteration"/\Q none s') s):
  wpAny (model prog w) A (pyNext (.ref it)) Q E s:=by
 have ht:s.TypeIs (.ref it) "set_iterator":=⟨o,ho,hc⟩
 unfold pyNext
 refine wpAny_bind (wpAny_attempt (wpAny_callSpecial?_slot (name:=Str.ofString "__next__") ht st_next (wpAny_call_entry st_next ht zEr ?_ (zEw _))))
 refine wpAny_mono h (λr s' ⟨v,e,q⟩=>⟨v,e,wpAny_pure q⟩) λe s' ⟨t,q⟩=>?_
 exact wpAny_bind (wpAny_isInstance (T:="StopIteration") (b:=true) t isSubtype_stop (wpAny_pure q))
end
end L2
namespace L2
open PySem PySem.Spec PyProof.Rows
abbrev itO(first:Value)(i:Nat)(a:Addr)(n ep:Nat):Obj:={cls:=.type "set_iterator",data:=.fields #[first,.int (i:Int) 0,.ref a,.int (n:Int) 0,.int (ep:Int) 0]}
section
variable{prog:Program}{w:World}{A:Around}{E:Value->Shared->Prop}{s:Shared}{it a:Addr}{us:List Str}{es:Array (Int×Value)}{ep:Nat}{t:SetTable}
theorem qC{Q:Array (Int×Value)->Shared->Prop}(ho:s.heap.get? a=some (bY es ep t))(hf:t.fits es.size=true)(h:Q es s):wpAny (model prog w) A (setEntries a) Q E s:=by
 unfold setEntries
 exact wpAny_bind (wpAny_setState_of ho rfl hf (wpAny_pure h))
theorem jH{Q:Bool->Shared->Prop}(h:Q (byT w) s):wpAny (model prog w) A setsByText Q E s:=by
 unfold setsByText
 exact wpAny_bind (wpAny_askSetting (wpAny_pure h))
theorem mO{i slot:Nat}{n:Nat}{Q:Fin->Shared->Prop}(hi:s.heap.get? it=some (itO (.int (slot:Int) 0) i a n ep))(ho:s.heap.get? a=some (bY es ep t))(hf:t.fits es.size=true)(hn:es.size=n)
  (h:wpAny (model prog w) A (setNext a slot i ep) (λr s'=>wpAny (model prog w) A (match r with
   |some (x,next)=>do
    setField (.ref it) 0 (rawInt next)
    setField (.ref it) 1 (rawInt (i+1))
    ret x
   |none=>do setField (.ref it) 2 .none;raiseNew (<- newExc (.type "StopIteration") [])) Q E s') E s):
  wpAny (model prog w) A (Builtin.«set_iterator.__next__» ⟨[.ref it],[]⟩) Q E s:=by
 unfold Builtin.«set_iterator.__next__»
 refine wpAny_bind (m:=slotArgs "__next__" 0 ⟨[.ref it],[]⟩) (wpAny_pure ?_)
 dsimp only
 refine wpAny_bind (wpAny_fieldsOf hi rfl ?_)
 show wpAny _ _ (setEntries a >>= _) _ _ s
 refine wpAny_bind (qC ho hf ?_)
 rw[hn]
 simp only[bne_self_eq_false,Bool.false_eq_true,if_false]
 refine wpAny_bind (m:=setNext a slot i ep) h
end
end L2
namespace L2
open PySem PySem.Spec PyProof.Rows
section
variable{prog:Program}{w:World}{A:Around}{E:Value->Shared->Prop}{s:Shared}{it a:Addr}{us:List Str}{es:Array (Int×Value)}{ep:Nat}{t:SetTable}
theorem qZ{o:Obj}{vs:Array Value}{k:Nat}{Q:Fin->Shared->Prop}(hh:A.handled=none)(hi:s.heap.get? it=some o)(hd:o.data=.fields vs)(hk:k<vs.size)
  (h:∀e h',(∀b u,b≠it->s.heap.get? b=some u->h'.get? b=some u)->Shared.TypeIs {s with heap:=h'} (.ref e) "StopIteration"->E (.ref e) {s with heap:=h'}):
  wpAny (model prog w) A (do setField (.ref it) k .none;raiseNew (<- newExc (.type "StopIteration") [])) Q E s:=by
 refine wpAny_bind (wpAny_setField hi hd hk ?_)
 refine zDy hh λe h' kp ty=>h e h' (λb u hb q=>kp b u ?_) ty
 rw[(Heap.SameBut.update s.heap it _).2 b hb];exact q
theorem zFL(hh:A.handled=none)(hb:byT w=true)(T:SetT prog w us es t)(it a:Addr)(ne:it≠a):
  WalksS prog w A it [it,a] [it] Eq es.size (λi v=>(pickOrder (w.params.setOrder a ep) es)[i]?.map (·.2)=some v)
   (λi s=>s.heap.get? it=some (itO (.int 0 0) i a es.size ep)/\s.heap.get? a=some (bY es ep t)) where
 sub:=λb hb=>by simp at hb;simp[hb]
 grefl:=λ_=>rfl
 gtrans:=λ_ _ _ x y=>x.trans y
 frame:=λi s h' tk st _ k=>⟨k it (by simp) _ st.1,k a (by simp) _ st.2⟩
 item:=λi s Q E hi st hQ=>by
  refine jM st.1 rfl (mO (slot:=0) st.1 st.2 T.fit rfl ?_)
  have sz:(pickOrder (w.params.setOrder a ep) es).size=es.size:=by have:=(qU (w.params.setOrder a ep) es).length_eq;simpa using this
  unfold setNext
  refine wpAny_bind (wpAny_setState_of st.2 rfl T.fit ?_)
  dsimp only
  refine wpAny_bind (jH ?_)
  rw[if_pos hb]
  simp only[bne_self_eq_false,Bool.false_eq_true,if_false]
  unfold setWalk
  refine wpAny_bind (wpAny_bind (wpAny_setState_of st.2 rfl T.fit ?_))
  dsimp only
  refine wpAny_bind (jH ?_)
  rw[if_pos hb]
  refine wpAny_bind (wpAny_askSetting (wpAny_pure ?_))
  refine wpAny_pure ?_
  have hlt:i<(pickOrder (w.params.setOrder a ep) es).size:=by rw[sz];exact hi
  show wpAny _ _ (match Option.map (λe=>(e.2,0)) (pickOrder (w.params.setOrder a ep) es)[i]? with
   |some (x,next)=>do
    setField (.ref it) 0 (rawInt (next:Nat))
    setField (.ref it) 1 (rawInt (i+1))
    ret x
   |none=>do setField (.ref it) 2 .none;raiseNew (<- newExc (.type "StopIteration") [])) _ _ _
  rw[Array.getElem?_eq_getElem hlt]
  dsimp only[Option.map_some]
  refine wpAny_bind (wpAny_setField_rec st.1 (by simp) λh1 g1 b1=>?_)
  refine wpAny_bind (wpAny_setField_rec g1 (by simp) λh2 g2 b2=>?_)
  refine wpAny_pure ⟨_,rfl,hQ _ _ (by rw[Array.getElem?_eq_getElem hlt];rfl) ⟨?_,?_⟩ ⟨?_,rfl,rfl,rfl,Nat.le_refl _⟩⟩
  ·rw[g2];rfl
  ·rw[b2.2 a ne.symm,b1.2 a ne.symm];exact st.2
  ·intro b o hb e
   have hb':b≠it:=by simpa using hb
   rw[b2.2 b hb',b1.2 b hb'];exact e
 done:=λs Q E st hQ=>by
  refine jM st.1 rfl (mO (slot:=0) st.1 st.2 T.fit rfl ?_)
  have sz:(pickOrder (w.params.setOrder a ep) es).size=es.size:=by have:=(qU (w.params.setOrder a ep) es).length_eq;simpa using this
  unfold setNext
  refine wpAny_bind (wpAny_setState_of st.2 rfl T.fit ?_)
  dsimp only
  refine wpAny_bind (jH ?_)
  rw[if_pos hb]
  simp only[bne_self_eq_false,Bool.false_eq_true,if_false]
  unfold setWalk
  refine wpAny_bind (wpAny_bind (wpAny_setState_of st.2 rfl T.fit ?_))
  dsimp only
  refine wpAny_bind (jH ?_)
  rw[if_pos hb]
  refine wpAny_bind (wpAny_askSetting (wpAny_pure ?_))
  refine wpAny_pure ?_
  show wpAny _ _ (match Option.map (λe=>(e.2,0)) (pickOrder (w.params.setOrder a ep) es)[es.size]? with
   |some (x,next)=>do
    setField (.ref it) 0 (rawInt (next:Nat))
    setField (.ref it) 1 (rawInt ((es.size:Int)+1))
    ret x
   |none=>do setField (.ref it) 2 .none;raiseNew (<- newExc (.type "StopIteration") [])) _ _ _
  rw[Array.getElem?_eq_none (show(pickOrder (w.params.setOrder a ep) es).size<=es.size by rw[sz];exact Nat.le_refl _)]
  dsimp only[Option.map_none]
  refine qZ hh st.1 rfl (by simp) λe h' kp ty=>⟨ty,hQ _ ⟨λb o hb q=>kp b o (by simpa using hb) q,rfl,rfl,rfl,Nat.le_refl _⟩⟩
 self:=λi s Q E st hQ=>by
  have ht:s.TypeIs (.ref it) "set_iterator":=⟨_,st.1,rfl⟩
  refine wpAny_pyIter_slot ht jO (wpAny_call_entry jO ht tH ?_ (tJ _))
  show wpAny _ _ (ret (.ref it)) _ _ s
  exact wpAny_pure ⟨_,rfl,"set_iterator",_,ht,st_next.lookup,hQ⟩
end
end L2
namespace L2
open PySem PySem.Spec PyProof.Rows
theorem xM(p:Nat):SetTable.below #[p] 0=0/\SetTable.below #[p] (p+1)=1:=by
 constructor
 ·show SetTable.below.go #[p] 0 1 0 1=0
  simp[SetTable.below.go]
 ·show SetTable.below.go #[p] (p+1) 1 0 1=1
  simp[SetTable.below.go]
section
variable{prog:Program}{w:World}{A:Around}{E:Value->Shared->Prop}{s:Shared}{it a:Addr}{us:List Str}{es:Array (Int×Value)}{ep:Nat}{t:SetTable}
theorem vX{slot i:Nat}{Q:Option (Value×Nat)->Shared->Prop}(hb:byT w=false)(T:SetT prog w us es t)(h1:es.size<=1)(ho:s.heap.get? a=some (bY es ep t))
  (h:Q (match es[SetTable.below t.place slot]?,t.place[SetTable.below t.place slot]? with
  |some (_,x),some j=>some (x,j+1)
  |_,_=>none) s):wpAny (model prog w) A (setNext a slot i ep) Q E s:=by
 have ld:t.led=true:=by rw[T.ld,hb];rfl
 unfold setNext
 refine wpAny_bind (wpAny_setState_of ho rfl T.fit ?_)
 dsimp only
 refine wpAny_bind (jH ?_)
 rw[hb]
 simp only[Bool.false_eq_true,if_false]
 show wpAny _ _ (if (!t.plain&&decide (es.size > 1))=true then _ else(do
  (if (!t.led&&!es.isEmpty)=true then unsupported "set:maker-not-led" else pure ():Sem Unit)
  pure (match es[SetTable.below t.place slot]?,t.place[SetTable.below t.place slot]? with
   |some (_,x),some j=>some (x,j+1)
   |_,_=>none))) _ _ _
 rw[if_neg (by rw[show decide (es.size > 1)=false from decide_eq_false (by omega)];simp)]
 refine wpAny_bind ?_
 rw[if_neg (by rw[ld];simp)]
 exact wpAny_pure (wpAny_pure h)
theorem zFK(hh:A.handled=none)(hb:byT w=false)(T:SetT prog w us es t)(h1:es.size<=1)(it a:Addr)(ne:it≠a):
  WalksS prog w A it [it,a] [it] Eq es.size (λi v=>es[i]?.map (·.2)=some v)
   (λi s=>s.heap.get? it=some (itO (.int ((if i=0 then 0 else t.place.getD 0 0+1:Nat):Int) 0) i a es.size ep)/\s.heap.get? a=some (bY es ep t)) where
 sub:=λb hb=>by simp at hb;simp[hb]
 grefl:=λ_=>rfl
 gtrans:=λ_ _ _ x y=>x.trans y
 frame:=λi s h' tk st _ k=>⟨k it (by simp) _ st.1,k a (by simp) _ st.2⟩
 item:=λi s Q E hi st hQ=>by
  have i0:i=0:=by omega
  subst i0
  have e1:es.size=1:=by omega
  have pz:t.place.size=1:=by have:=T.fit;simp only[SetTable.fits,Bool.and_eq_true,beq_iff_eq]at this;rw[this.1,e1]
  obtain⟨p,hp⟩:∃p,t.place=#[p]:=by
   refine⟨t.place[0],?_⟩
   apply Array.ext
   ·simp[pz]
   ·intro j h1 h2
    have:j=0:=by simp at h2;exact h2
    subst this
    simp
  refine jM st.1 rfl (mO (slot:=0) (by simpa using st.1) st.2 T.fit rfl ?_)
  refine vX hb T h1 st.2 ?_
  rw[hp,(xM p).1]
  have hl0:0<es.size:=by omega
  rw[Array.getElem?_eq_getElem hl0]
  show wpAny _ _ (do
    setField (.ref it) 0 (rawInt ((p+1:Nat):Int))
    setField (.ref it) 1 (rawInt ((0:Nat)+1:Int))
    ret es[0].2) _ _ _
  refine wpAny_bind (wpAny_setField_rec st.1 (by simp) λh1 g1 b1=>?_)
  refine wpAny_bind (wpAny_setField_rec g1 (by simp) λh2 g2 b2=>?_)
  refine wpAny_pure ⟨_,rfl,hQ _ _ (by rw[Array.getElem?_eq_getElem hl0];rfl) ⟨?_,?_⟩ ⟨?_,rfl,rfl,rfl,Nat.le_refl _⟩⟩
  ·rw[g2,hp];rfl
  ·rw[b2.2 a ne.symm,b1.2 a ne.symm];exact st.2
  ·intro b o hb e
   have hb':b≠it:=by simpa using hb
   rw[b2.2 b hb',b1.2 b hb'];exact e
 done:=λs Q E st hQ=>by
  refine jM st.1 rfl (mO st.1 st.2 T.fit rfl ?_)
  refine vX hb T h1 st.2 ?_
  have pz:t.place.size=es.size:=by have:=T.fit;simp only[SetTable.fits,Bool.and_eq_true,beq_iff_eq]at this;exact this.1
  have hn:es[SetTable.below t.place (if es.size=0 then 0 else t.place.getD 0 0+1)]?=none:=by
   by_cases z:es.size=0
   ·have:es=#[]:=Array.size_eq_zero_iff.mp z
    subst this
    simp
   ·rw[if_neg z]
    have e1:es.size=1:=by omega
    obtain⟨p,hp⟩:∃p,t.place=#[p]:=by
     refine⟨t.place[0]'(by omega),?_⟩
     apply Array.ext
     ·simp[pz,e1]
     ·intro j h1 h2
      have:j=0:=by simp at h2;exact h2
      subst this
      simp
    rw[hp]
    show es[SetTable.below #[p] (p+1)]?=none
    rw[(xM p).2]
    exact Array.getElem?_eq_none (by omega)
  rw[hn]
  dsimp only
  exact qZ hh st.1 rfl (by simp) λe h' kp ty=>⟨ty,hQ _ ⟨λb o hb q=>kp b o (by simpa using hb) q,rfl,rfl,rfl,Nat.le_refl _⟩⟩
 self:=λi s Q E st hQ=>by
  have ht:s.TypeIs (.ref it) "set_iterator":=⟨_,st.1,rfl⟩
  refine wpAny_pyIter_slot ht jO (wpAny_call_entry jO ht tH ?_ (tJ _))
  show wpAny _ _ (ret (.ref it)) _ _ s
  exact wpAny_pure ⟨_,rfl,"set_iterator",_,ht,st_next.lookup,hQ⟩
abbrev kD(ps:List Nat):Obj:={cls:=.type "tuple",data:=.seq (ps.map λ(i:Nat)=>rawInt (i:Int)).toArray}
theorem wQ{i:Nat}{n:Nat}{tu:Addr}{ps:List Nat}{Q:Fin->Shared->Prop}(hi:s.heap.get? it=some (itO (.ref tu) i a n ep))(ho:s.heap.get? a=some (bY es ep t))(hu:s.heap.get? tu=some (kD ps))(hf:t.fits es.size=true)(hn:es.size=n)
  (h:match ps[i]? with
   |some pl=>∃e,es[pl]?=some e/\wpAny (model prog w) A (do
    setField (.ref it) 1 (rawInt (i+1))
    ret e.2) Q E s
   |none=>wpAny (model prog w) A (do setField (.ref it) 0 (rawInt 0);setField (.ref it) 2 .none;raiseNew (<- newExc (.type "StopIteration") [])) Q E s):
  wpAny (model prog w) A (Builtin.«set_iterator.__next__» ⟨[.ref it],[]⟩) Q E s:=by
 unfold Builtin.«set_iterator.__next__»
 refine wpAny_bind (m:=slotArgs "__next__" 0 ⟨[.ref it],[]⟩) (wpAny_pure ?_)
 dsimp only
 refine wpAny_bind (wpAny_fieldsOf hi rfl ?_)
 show wpAny _ _ (setEntries a >>= _) _ _ s
 refine wpAny_bind (qC ho hf ?_)
 rw[hn]
 simp only[bne_self_eq_false,Bool.false_eq_true,if_false]
 show wpAny _ _ (seqItems? (.ref tu) >>= _) _ _ s
 refine wpAny_bind (wpAny_seqItems hu rfl ?_)
 dsimp only
 have e:(ps.map λ(i:Nat)=>rawInt (i:Int)).toArray[((i:Int)).toNat]?=ps[i]?.map λ(i:Nat)=>rawInt (i:Int):=by simp
 rw[e]
 cases q:ps[i]? with
 |none=>
  rw[q]at h
  exact h
 |some pl=>
  rw[q]at h
  obtain⟨en,he,h⟩:=h
  show wpAny _ _ (setNextDrawn a ((pl:Int)).toNat ((ep:Int)).toNat >>= _) _ _ s
  unfold setNextDrawn
  refine wpAny_bind (wpAny_bind (wpAny_setState_of ho rfl hf ?_))
  dsimp only
  rw[show((ep:Int)).toNat=ep by simp,show((pl:Int)).toNat=pl by simp]
  simp only[bne_self_eq_false,Bool.false_eq_true,if_false]
  rw[he]
  exact wpAny_pure h
theorem zFJ(hh:A.handled=none)(T:SetT prog w us es t)(it a tu:Addr)(ne:it≠a)(nu:it≠tu)(ps:List Nat)(hp:ps.Perm (List.range es.size)):
  WalksS prog w A it [it,a,tu] [it] Eq es.size (λi v=>∃pl e,ps[i]?=some pl/\es[pl]?=some e/\v=e.2)
   (λi s=>s.heap.get? it=some (itO (.ref tu) i a es.size ep)/\s.heap.get? a=some (bY es ep t)/\s.heap.get? tu=some (kD ps)) where
 sub:=λb hb=>by simp at hb;simp[hb]
 grefl:=λ_=>rfl
 gtrans:=λ_ _ _ x y=>x.trans y
 frame:=λi s h' tk st _ k=>⟨k it (by simp) _ st.1,k a (by simp) _ st.2.1,k tu (by simp) _ st.2.2⟩
 item:=λi s Q E hi st hQ=>by
  have pl:ps.length=es.size:=by rw[hp.length_eq,List.length_range]
  have hlt:i<ps.length:=by omega
  have hm:ps[i]<es.size:=by have:=hp.mem_iff.mp (List.getElem_mem hlt);simpa using this
  refine jM st.1 rfl (wQ st.1 st.2.1 st.2.2 T.fit rfl ?_)
  rw[List.getElem?_eq_getElem hlt]
  refine⟨es[ps[i]],Array.getElem?_eq_getElem hm,?_⟩
  refine wpAny_bind (wpAny_setField_rec st.1 (by simp) λh1 g1 b1=>?_)
  refine wpAny_pure ⟨_,rfl,hQ _ _ ⟨_,_,List.getElem?_eq_getElem hlt,Array.getElem?_eq_getElem hm,rfl⟩ ⟨?_,?_,?_⟩ ⟨?_,rfl,rfl,rfl,Nat.le_refl _⟩⟩
  ·rw[g1];rfl
  ·rw[b1.2 a ne.symm];exact st.2.1
  ·rw[b1.2 tu nu.symm];exact st.2.2
  ·intro b o hb e
   have hb':b≠it:=by simpa using hb
   rw[b1.2 b hb'];exact e
 done:=λs Q E st hQ=>by
  have pl:ps.length=es.size:=by rw[hp.length_eq,List.length_range]
  refine jM st.1 rfl (wQ st.1 st.2.1 st.2.2 T.fit rfl ?_)
  rw[List.getElem?_eq_none (by omega)]
  refine wpAny_bind (wpAny_setField_rec st.1 (by simp) λh1 g1 b1=>?_)
  refine qZ hh g1 rfl (by simp) λe h' kp ty=>⟨ty,hQ _ ⟨λb o hb q=>kp b o (by simpa using hb) ?_,rfl,rfl,rfl,Nat.le_refl _⟩⟩
  have hb':b≠it:=by simpa using hb
  show h1.get? b=some o
  rw[b1.2 b hb'];exact q
 self:=λi s Q E st hQ=>by
  have ht:s.TypeIs (.ref it) "set_iterator":=⟨_,st.1,rfl⟩
  refine wpAny_pyIter_slot ht jO (wpAny_call_entry jO ht tH ?_ (tJ _))
  show wpAny _ _ (ret (.ref it)) _ _ s
  exact wpAny_pure ⟨_,rfl,"set_iterator",_,ht,st_next.lookup,hQ⟩
end
end L2
namespace L2
open PySem PySem.Spec PyProof.Rows
def zA5(P:Nat->Value->Prop)(us:List Str):Prop:=∀acc:Array Value,ItemsOf P acc us.length->∃vs,StrsAre acc.toList vs/\vs.Perm us
theorem sF{P:Nat->Value->Prop}{us:List Str}{out:List Value}{vs:List Str}(hl:out.length=us.length)(h:∀i v,P i v->out[i]?=some v)(hs:StrsAre out vs)(hp:vs.Perm us):zA5 P us:=λacc ⟨h1,h2⟩=>by
 have e:acc.toList=out:=by
  apply List.ext_getElem?
  intro i
  by_cases hi:i<acc.size
  ·rw[h i acc[i] (h2 i _ (Array.getElem?_eq_getElem hi)),Array.getElem?_toList,Array.getElem?_eq_getElem hi]
  ·rw[Array.getElem?_toList,Array.getElem?_eq_none (by omega),List.getElem?_eq_none (by omega)]
 rw[e]
 exact⟨vs,hs,hp⟩
section
variable{prog:Program}{w:World}{A:Around}{E:Value->Shared->Prop}{s:Shared}{a:Addr}{us:List Str}
theorem zBH{Q:Value->Shared->Prop}(S:SetS prog w a us s.heap)
  (h:∀(it:Addr) (fp:List Addr) (P:Nat->Value->Prop) (St:Nat->Shared->Prop) (h':Heap) (d:Drawn),(∀A':Around,A'.handled=none->∃n,n=us.length/\WalksS prog w A' it fp [it] Eq n P St)->St 0 {s with heap:=h',drawn:=d}->zA5 P us ->
   (∀b∈fp,b=a\/s.heap.objs.size<=b)->s.heap.objs.size<=it->(∀b o,s.heap.get? b=some o->h'.get? b=some o)->Q (.ref it) {s with heap:=h',drawn:=d}):
  wpAny (model prog w) A (pyIter (.ref a)) Q E s:=by
 obtain⟨es,ep,t,ho,T⟩:=id S
 have alt:a<s.heap.objs.size:=Heap.lt_size ho
 have ht:s.TypeIs (.ref a) "set":=⟨_,ho,rfl⟩
 have sz:=T.size
 obtain⟨vs,hv,pv⟩:=T.tx
 refine wpAny_pyIter_slot ht yS (wpAny_call_entry yS ht zEs ?_ (zEx _))
 unfold Builtin.«frozenset.__iter__» Builtin.Frozenset.slot0
 refine wpAny_bind (wpAny_bind (m:=slotArgs "__iter__" 0 ⟨[.ref a],[]⟩) (wpAny_pure ?_))
 show wpAny _ _ (pure a) _ _ s
 refine wpAny_pure ?_
 unfold Builtin.Frozenset.sizeOf
 refine wpAny_bind (wpAny_bind (qC ho T.fit (wpAny_pure ?_)))
 unfold setDrawn
 refine wpAny_bind (wpAny_bind (wpAny_setState_of ho rfl T.fit ?_))
 dsimp only
 refine wpAny_bind (jH (wpAny_pure ?_))
 show wpAny _ _ (if (!byT w&&(!t.plain&&decide (es.size > 1)))=true then _ else _) _ _ s
 have fin:∀(first:Value) (h1:Heap) (d:Drawn) (St:Nat->Shared->Prop),(∀b o,s.heap.get? b=some o->h1.get? b=some o)->s.heap.objs.size<=h1.objs.size ->
   (∀s2:Shared,s2.heap.get? h1.objs.size=some (itO first 0 a es.size ep)->(∀b o,h1.get? b=some o->s2.heap.get? b=some o) ->
    Q (.ref h1.objs.size) {s with heap:=h1.push (itO first 0 a es.size ep),drawn:=d})->wpAny (model prog w) A.in1 (do
   ret (<- newFields "set_iterator" [first,rawInt 0,.ref a,rawInt es.size,rawInt (<- setEpoch a)])) (λfin s'=>∃v,fin=.done (.ret v)/\∃T' r,s'.TypeIs v T'/\typeLookup (.type T') "__next__"=pure (some r)/\Q v s') E {s with heap:=h1,drawn:=d}:=by
  intro first h1 d St k le q
  refine wpAny_bind (wpAny_setEpoch_of (k a _ ho) rfl T.fit ?_)
  refine wpAny_bind (wpAny_newObj_type ?_ (by size_fits))
  exact wpAny_pure ⟨_,rfl,"set_iterator",_,⟨_,Heap.get?_push_size _ rfl,rfl⟩,st_next.lookup,q {s with heap:=h1.push (itO first 0 a es.size ep)} (Heap.get?_push_size _ rfl) λb o e=>Heap.get?_push_of_some _ e⟩
 cases hb:byT w with
 |true=>
  rw[if_neg (by simp)]
  refine wpAny_bind (wpAny_pure ?_)
  have e:s={s with heap:=s.heap,drawn:=s.drawn}:=by cases s;rfl
  have hp:=qU (w.params.setOrder a ep) es
  obtain⟨vs',hv',pv'⟩:=mQ (hp.map (·.2)) hv
  have nea:s.heap.objs.size≠a:=Nat.ne_of_gt alt
  refine fin (.int 0 0) s.heap s.drawn (λ_ _=>True) (λ_ _ e=>e) (Nat.le_refl _) λs2 g k=>?_
  refine h s.heap.objs.size [s.heap.objs.size,a] _ _ _ _ (λA' hA=>⟨es.size,sz,zFL (ep:=ep) hA hb T _ a nea⟩) ⟨Heap.get?_push_size _ rfl,Heap.get?_push_of_some _ ho⟩ ?_ (λb m=>?_) (Nat.le_refl _) λb o e=>Heap.get?_push_of_some _ e
  ·refine sF (out:=(pickOrder (w.params.setOrder a ep) es).toList.map (·.2)) (vs:=vs') (by rw[List.length_map,hp.length_eq,Array.length_toList,sz]) (λi v q=>?_) hv' (pv'.trans pv)
   rw[List.getElem?_map,Array.getElem?_toList]
   exact q
  ·simp only[List.mem_cons,List.not_mem_nil,or_false]at m
   rcases m with m|m
   ·exact .inr (by rw[m];exact Nat.le_refl _)
   ·exact .inl m
 |false=>
  by_cases h1:es.size<=1
  ·rw[if_neg (by simp[show ¬ es.size > 1 by omega])]
   refine wpAny_bind (wpAny_pure ?_)
   have nea:s.heap.objs.size≠a:=Nat.ne_of_gt alt
   refine fin (.int 0 0) s.heap s.drawn (λ_ _=>True) (λ_ _ e=>e) (Nat.le_refl _) λs2 g k=>?_
   refine h s.heap.objs.size [s.heap.objs.size,a] _ _ _ _ (λA' hA=>⟨es.size,sz,zFK (ep:=ep) hA hb T h1 _ a nea⟩) ⟨Heap.get?_push_size _ rfl,Heap.get?_push_of_some _ ho⟩ ?_ (λb m=>?_) (Nat.le_refl _) λb o e=>Heap.get?_push_of_some _ e
   ·refine sF (out:=es.toList.map (·.2)) (vs:=vs) (by rw[List.length_map,Array.length_toList,sz]) (λi v q=>?_) hv pv
    rw[List.getElem?_map,Array.getElem?_toList]
    exact q
   ·simp only[List.mem_cons,List.not_mem_nil,or_false]at m
    rcases m with m|m
    ·exact .inr (by rw[m];exact Nat.le_refl _)
    ·exact .inl m
  ·have np:t.plain=false:=T.pl.resolve_left (by omega)
   rw[if_pos (by simp[np];omega)]
   refine wpAny_bind (vR es.size (List.range es.size) s (by simp) λps d hp=>?_)
   refine wpAny_bind (wpAny_newTuple ?_ (by rw[List.length_map,hp.length_eq,List.length_range];exact fits_of_scanBound T.lt))
   have nea:s.heap.objs.size≠a:=Nat.ne_of_gt alt
   have e2:(s.heap.push (kD ps)).objs.size=s.heap.objs.size+1:=Heap.size_push ..
   refine fin (.ref s.heap.objs.size) (s.heap.push (kD ps)) d (λ_ _=>True) (λ_ _ e=>Heap.get?_push_of_some _ e) (by rw[e2];omega) λs2 g k=>?_
   refine h (s.heap.push (kD ps)).objs.size [(s.heap.push (kD ps)).objs.size,a,s.heap.objs.size] _ _ _ _ (λA' hA=>⟨es.size,sz,zFJ (ep:=ep) hA T _ a s.heap.objs.size (by rw[e2];exact Nat.ne_of_gt (Nat.lt_succ_of_lt alt)) (by rw[e2];exact Nat.ne_of_gt (Nat.lt_succ_self _)) ps hp⟩) ⟨Heap.get?_push_size _ rfl,Heap.get?_push_of_some _ (Heap.get?_push_of_some _ ho),Heap.get?_push_of_some _ (Heap.get?_push_size _ rfl)⟩ ?_ (λb m=>?_) (by rw[e2];omega) λb o e=>Heap.get?_push_of_some _ (Heap.get?_push_of_some _ e)
   ·have hfm:(ps.filterMap λp=>es[p]?).Perm es.toList:=(hp.filterMap _).trans (by rw[filterMap_getElem?_range])
    obtain⟨vs',hv',pv'⟩:=mQ (hfm.map (·.2)) hv
    have hmm:∀p∈ps,p<es.size:=λp m=>by have:=hp.mem_iff.mp m;simpa using this
    have hall:∀(l:List Nat),(∀p∈l,p<es.size)->∀i:Nat,(l.filterMap λp=>es[p]?)[i]?=(l[i]?).bind λp=>es[p]?:=by
     intro l
     induction l with
     |nil=>intro _ i;simp
     |cons x l ih=>
      intro hx i
      have hx0:=hx x (by simp)
      rw[List.filterMap_cons,Array.getElem?_eq_getElem hx0]
      cases i with
      |zero=>simp[hx0]
      |succ i=>simp only[List.getElem?_cons_succ];exact ih (λp m=>hx p (List.mem_cons_of_mem _ m)) i
    refine sF (out:=(ps.filterMap λp=>es[p]?).map (·.2)) (vs:=vs') (by rw[List.length_map,hfm.length_eq,Array.length_toList,sz]) (λi v ⟨pl,e,q1,q2,q3⟩=>?_) hv' (pv'.trans pv)
    rw[List.getElem?_map,hall ps hmm,q1]
    simp[q2,q3]
   ·simp only[List.mem_cons,List.not_mem_nil,or_false]at m
    rcases m with m|m|m
    ·exact .inr (by rw[m,e2];omega)
    ·exact .inl m
    ·exact .inr (by rw[m];exact Nat.le_refl _)
end
end L2
namespace L2
open PySem PySem.Spec PyProof.Rows
theorem st_len:Slot "set" "__len__" "set.__len__":=
 Slot.of (owner:="set") (n:="__len__") (by rw[typeLookup_type,builtinLookup_eq_fast];kernel_rfl) (by decide +kernel) (by decide +kernel) (by decide +kernel) (by first|exact .inl (by decide +kernel)|exact .inr (by decide +kernel)) (by rw[isSubtype_type];kernel_rfl)
theorem zAc:isSubtype (.type "set") (.type "set")=pure true:=by rw[isSubtype_type];kernel_rfl
section
variable{prog:Program}{w:World}{A:Around}{E:Value->Shared->Prop}{s:Shared}{a:Addr}{us:List Str}
theorem zDz{Q:Bool->Shared->Prop}(ht:s.TypeIs (.ref a) "set")(h:Q false s):wpAny (model prog w) A (Builtin.List.listLengthHint (.ref a)) Q E s:=by
 unfold Builtin.List.listLengthHint
 refine wpAny_bind (wpAny_specialOf ht st_len.lookup ?_)
 have e1:splitId "set.__len__"=some ("set","__len__"):=by decide +kernel
 dsimp only
 rw[e1]
 dsimp only
 refine wpAny_bind (wpAny_isInstance ht zAc ?_)
 simp only[Bool.not_true,Bool.false_eq_true,if_false]
 refine wpAny_ite ?_
 rw[if_pos (by decide +kernel)]
 refine wpAny_bind (wpAny_typeOf ht ?_)
 exact wpAny_pure h
end
end L2
namespace L2
open PySem PySem.Spec PyProof.Rows
section
variable{prog:Program}{w:World}{A:Around}{E:Value->Shared->Prop}{s:Shared}{a:Addr}{us:List Str}
theorem zBh{Q:List Value->Shared->Prop}(hh:A.handled=none)(S:SetS prog w a us s.heap)
  (hQ:∀h' d tk (acc:List Value) vs,StrsAre acc vs->vs.Perm us->s.heap.objs.size<h'.objs.size->(∀b o,s.heap.get? b=some o->h'.get? b=some o)->Q acc {s with heap:=h',drawn:=d,toks:=tk}):
  wpAny (model prog w) A (collect (.ref a)) Q E s:=by
 have hl:us.length<=sizeLine:=by
  obtain⟨es,ep,t,ho,T⟩:=id S
  rw[<-T.size];exact fits_of_scanBound T.lt
 have alt:a<s.heap.objs.size:=by
  obtain⟨es,ep,t,ho,T⟩:=id S
  exact Heap.lt_size ho
 unfold collect
 refine wpAny_bind (wpAny_runValue (codeAny_builtin F.entry_proto_collect ?_))
 rw[Around.under_plainId F.plain_proto_collect _]
 show wpAny _ A.in1 (newList [] >>= λl=>again (.builtin "list.__iadd__" ⟨[l,.ref a],[]⟩)) _ _ s
 refine wpAny_bind (wpAny_newObj_type ?_ (by size_fits))
 refine wpAny_pure ⟨plainId_quiet F.plain_list_iadd _,codeAny_builtin F.entry_list_iadd ?_⟩
 rw[Around.under_plainId F.plain_list_iadd _]
 show wpAny _ A.in1 (Builtin.List.listExtendWith (.ref s.heap.objs.size) (.ref a) (.ref s.heap.objs.size)) _ _ _
 unfold Builtin.List.listExtendWith
 have S1:SetS prog w a us (s.heap.push {cls:=.type "list",data:=.seq ([]:List Value).toArray}):=by
  obtain⟨es,ep,t,ho,T⟩:=id S
  exact⟨es,ep,t,Heap.get?_push_of_some _ ho,T⟩
 have ht:Shared.TypeIs {s with heap:=s.heap.push {cls:=.type "list",data:=.seq ([]:List Value).toArray}} (.ref a) "set":=by
  obtain⟨es,ep,t,ho,T⟩:=id S1
  exact⟨_,ho,rfl⟩
 refine wpAny_bind (wpAny_typeOf ht ?_)
 have h1:Builtin.List.listSameRef (.ref s.heap.objs.size) (.ref a)=false:=by simp[Builtin.List.listSameRef];exact Nat.ne_of_gt alt
 have h2:(Value.type "set"==Value.type "list")=false:=by decide
 have h3:(Value.type "set"==Value.type "tuple")=false:=by decide
 simp only[h1,h2,h3,Bool.or_false,Bool.false_eq_true,if_false]
 refine wpAny_bind (zBH S1 λit fp P St h' d W st0 td hfp hit kp=>?_)
 have ht':Shared.TypeIs {s with heap:=h',drawn:=d} (.ref a) "set":=by
  obtain⟨o,e,c⟩:=ht
  exact⟨o,kp _ _ e,c⟩
 refine wpAny_bind (wpAny_holding (zDz ht' ?_))
 have hA:A.in1.in1.handled=none:=by simp[hh]
 obtain⟨n,hn,W⟩:=W A.in1 (by simp[hh])
 subst hn
 refine wpAny_ite ?_
 rw[if_pos (by decide +kernel)]
 refine wpAny_bind (wpAny_rule ?_)
 have sz1:(s.heap.push {cls:=.type "list",data:=.seq ([]:List Value).toArray}).objs.size=s.heap.objs.size+1:=Heap.size_push ..
 have g0:h'.get? s.heap.objs.size=some {cls:=.type "list",data:=.seq ([]:List Value).toArray}:=kp _ _ (Heap.get?_push_size _ rfl)
 have nf:s.heap.objs.size∉fp:=λm=>by
  rcases hfp _ m with z|z
  ·exact absurd z (Nat.ne_of_gt alt)
  ·rw[sz1]at z;omega
 refine wpAny_bind ?_
 show wpAny _ A.in1 (updateSeq s.heap.objs.size (·.push .none) >>= λ_=>updateSeq s.heap.objs.size (·.pop)) _ _ _
 refine wpAny_bind (wpAny_updateSeq g0 rfl ?_)
 have g1:=Heap.get?_update_self (Obj.mapSeq (·.push Value.none)) g0 rfl
 refine wpAny_updateSeq g1 rfl ?_
 have g2:=Heap.get?_update_self (Obj.mapSeq (·.pop)) g1 rfl
 have oth:∀b o,b≠s.heap.objs.size->h'.get? b=some o->((h'.update s.heap.objs.size (Obj.mapSeq (·.push Value.none))).update s.heap.objs.size (Obj.mapSeq (·.pop))).get? b=some o:=
  λb o hb e=>(Heap.get?_update_other _ _ (Ne.symm hb)).trans ((Heap.get?_update_other _ _ (Ne.symm hb)).trans e)
 refine wpAny_pure ⟨plainId_quiet F.plain_extend_loop _,codeAny_extend_loopS W hl _ nf _ us.length 0 _ _ _ rfl (Nat.zero_le _)
  (W.frame 0 {s with heap:=h',drawn:=d} _ s.toks st0 (Nat.le_refl _) λb hb o e=>oth b o (λz=>nf (z▸hb)) e) g2 (ItemsOf.nil P) λs' acc' c' hm g' hacc=>?_⟩
 show wpAny _ A (load s.heap.objs.size >>= _) _ _ s'
 refine wpAny_bind (wpAny_load g' ?_)
 obtain⟨vs,hs,hp⟩:=td acc' hacc
 obtain⟨h'',g'',d'',tk'',os''⟩:=s'
 have e1:g''=s.gens:=hm.gens.symm
 have e2:os''=s.os:=hm.os
 subst e1 e2
 refine wpAny_pure (hQ h'' d'' tk'' acc'.toList vs hs hp (Heap.lt_size g') λb o e=>hm.heap b o (λm=>?_) (oth b o (Nat.ne_of_lt (Heap.lt_size e)) (kp b o (Heap.get?_push_of_some _ e))))
 have lt:=Heap.lt_size e
 simp only[List.mem_cons,List.not_mem_nil,or_false]at m
 rcases m with m|m
 ·rw[m]at lt;exact Nat.lt_irrefl _ lt
 ·rw[m]at lt;rw[sz1]at hit;exact absurd lt (Nat.not_lt.mpr (Nat.le_of_succ_le hit))
end
end L2
namespace L2
open PySem PySem.Spec PyProof.Rows
section
variable{prog:Program}{w:World}{A:Around}{E:Value->Shared->Prop}{s:Shared}{a:Addr}{us:List Str}
theorem zBq{Q:Value->Shared->Prop}(hh:A.handled=none)(S:SetS prog w a us s.heap)(h64:us.length<64)
  (h:∀h' d tk (l:Addr) (out:List Value) (ss:List Str) (e:Nat),StrsAre out ss->ss.Perm us->sortedS ss=true->h'.get? l=some (seqObj "list" out.toArray e)->s.heap.objs.size<=l->(∀b o,s.heap.get? b=some o->h'.get? b=some o) ->
   Q (.ref l) {s with heap:=h',drawn:=d,toks:=tk}):wpAny (model prog w) A (call (.builtin "sorted") [.ref a]) Q E s:=by
 refine Calls.call_function_entry kind_sorted plain_sorted entry_sorted (args_sorted1 _) ?_
 unfold Builtin.«sorted»
 refine wpAny_bind (m:=checkCount "sorted" 1 1 _) (wpAny_pure ?_)
 refine wpAny_bind (zBh (by simp[hh]) S λh1 d tk acc vs hs hp le kp=>?_)
 have hlen:acc.length<64:=by rw[gV hs,hp.length_eq];exact h64
 refine wpAny_bind (wpAny_newList ?_ (Nat.le_of_lt (Nat.lt_trans hlen (by decide))))
 have hoL:(h1.push (seqObj "list" acc.toArray 0)).get? h1.objs.size=some (seqObj "list" acc.toArray 0):=Heap.get?_push_size _ rfl
 refine wpAny_bind (wpAny_holding (wpAny_call_entry slot_list_sort ⟨_,hoL,rfl⟩ entry_list_sort (list_sort_treeK strKind_oneLt hoL hs.keysOf (λv₁ v₂ rest e=>keyKind_strs (by rw[<-e];exact hs)) hlen λst' a1 a2=>⟨_,rfl,?_⟩) (args_list_sort _)))
 obtain⟨ss',b1,b2,b3⟩:=sorted_out_str hs a1 a2
 obtain⟨e,he⟩:=sortedHeap_at (out:=(arrOf st').map (·.2)) hoL
 refine wpAny_pure ⟨_,rfl,h _ _ _ _ ((arrOf st').map (·.2)).toList ss' e b1 (b2.trans hp) b3 (by rw[Array.toArray_toList];exact he) (Nat.le_of_lt le) λb o q=>?_⟩
 have lt:=Heap.lt_size (kp b o q)
 rw[sortedHeap_old (Nat.ne_of_lt lt) (by rw[Heap.size_push];exact Nat.lt_succ_of_lt lt)]
 exact Heap.get?_push_of_some _ (kp b o q)
end
end L2
namespace L2
open PySem PySem.Spec PyProof.Rows
def dG(val:Nat->Str)(i:Nat):List Str:=((List.range i).map val).foldl dH []
theorem mV(val:Nat->Str)(i:Nat):dG val (i+1)=dH (dG val i) (val i):=by
 unfold dG
 rw[List.range_succ,List.map_append,List.foldl_append]
 rfl
theorem xZ(val:Nat->Str):∀i,(dG val i).length<=i
 |0=>Nat.le_refl _
 |i+1=>by
  rw[mV]
  have:=xZ val i
  unfold dH
  split
  ·omega
  ·rw[List.length_append,List.length_singleton];omega
theorem zDA(us:List Str)(x y:Str):y∈dH us x↔y∈us\/y=x:=by
 unfold dH
 split
 ·exact⟨.inl,λh=>h.elim id λe=>by subst e;assumption⟩
 ·simp
theorem zEz{us:List Str}(h:us.Nodup)(x:Str):(dH us x).Nodup:=by
 unfold dH
 split
 ·exact h
 ·rename_i n
  rw[List.nodup_append]
  exact⟨h,by simp,λa ha b hb e=>n (by rw[<-show b=x by simpa using hb,<-e];exact ha)⟩
def bO(ss:List Str):List Str:=ss.foldl dH []
theorem xF:∀(ss us:List Str) (y:Str),y∈ss.foldl dH us↔y∈us\/y∈ss
 |[],us,y=>by simp
 |x::ss,us,y=>by rw[List.foldl_cons,xF ss,zDA,List.mem_cons,or_assoc]
theorem yF:∀(ss us:List Str),us.Nodup->(ss.foldl dH us).Nodup
 |[],us,h=>h
 |x::ss,us,h=>yF ss _ (zEz h x)
theorem rH(ss:List Str)(y:Str):y∈bO ss↔y∈ss:=by rw[bO,xF];simp
theorem sJ(ss:List Str):(bO ss).Nodup:=yF ss [] List.nodup_nil
theorem rW{val:Nat->Str}{ss:List Str}(h:∀i (hi:i<ss.length),val i=ss[i]):dG val ss.length=bO ss:=by
 unfold dG bO
 congr 1
 apply List.ext_getElem
 ·simp
 ·intro i h1 h2
  simp[h i h2]
section
variable{prog:Program}{w:World}{A:Around}{R:Result->Shared->Prop}{I:Addr}{fp wr:List Addr}{G:Array GenState->Array GenState->Prop}{n:Nat}{P:Nat->Value->Prop}{St:Nat->Shared->Prop}
theorem SetS.kept{a:Addr}{us:List Str}{h h':Heap}(S:SetS prog w a us h)(k:∀o,h.get? a=some o->h'.get? a=some o):SetS prog w a us h':=by
 obtain⟨es,ep,t,ho,T⟩:=S
 exact⟨es,ep,t,k _ ho,T⟩
theorem zDk(W:WalksS prog w A.in1 I fp wr G n P St)(S:Addr)(hf:S∉fp)(val:Nat->Str)(hv:∀i v,P i v->∃t,v=.str (val i) t)(hb:n+1<scanBound):
  ∀(k i:Nat) (s:Shared),n-i=k->i<=n->St i s->SetS prog w S (dG val i) s.heap ->
   (∀s',Moved (S::wr) G s s'->SetS prog w S (dG val n) s'.heap->R (.ok (.ret .none)) s')->codeAny (model prog w) A (.builtin "set.update.loop" ⟨[.ref S,.ref I],[]⟩) R s:=by
 have nw:S∉wr:=λz=>hf (W.sub _ z)
 have sub:∀b∈wr,b∈S::wr:=λb z=>List.mem_cons_of_mem _ z
 intro k
 induction k with
 |zero=>
  intro i s hk hi st hS hR
  have e:i=n:=by omega
  subst e
  refine codeAny_builtin F.entry_set_update_loop ?_
  rw[Around.under_plainId F.plain_set_update_loop _]
  show wpAny _ A.in1 (pyNext (.ref I) >>= _) _ _ s
  refine wpAny_bind (W.done s _ _ st λs' hm=>?_)
  show wpAny _ A.in1 (ret Value.none) _ _ s'
  exact wpAny_pure (hR s' (hm.mono sub) (hS.kept λo q=>hm.heap S _ nw q))
 |succ k ih=>
  intro i s hk hi st hS hR
  have lt:i<n:=by omega
  refine codeAny_builtin F.entry_set_update_loop ?_
  rw[Around.under_plainId F.plain_set_update_loop _]
  show wpAny _ A.in1 (pyNext (.ref I) >>= _) _ _ s
  refine wpAny_bind (W.item i s _ _ lt st λv s' hP st' hm=>?_)
  obtain⟨t,rfl⟩:=hv i v hP
  have hS':SetS prog w S (dG val i) s'.heap:=hS.kept λo q=>hm.heap S _ nw q
  show wpAny _ A.in1 (holding [Value.str (val i) t] (setAdd S (.str (val i) t)) >>= _) _ _ s'
  refine wpAny_bind (wpAny_holding ?_)
  unfold setAdd
  refine wpAny_holding (wpAny_bind ((PySem.strKind prog w).pyHash (k:=val i) (by show Value.isStrOf _ (.str _ t)=true;simp[Value.isStrOf]) ?_))
  have room:(dG val i).length+1<scanBound:=by have:=xZ val i;omega
  refine yL (s:={s' with toks:=s'.toks+1}) hS' room λb h' sb S2=>?_
  rw[<-mV]at S2
  refine wpAny_pure ⟨plainId_quiet F.plain_set_update_loop _,ih (i+1) _ (by omega) lt (W.frame _ s' _ _ st' (Nat.le_succ _) λc hc o e=>?_) S2 λs'' hm'' S3=>?_⟩
  ·rw[sb.2 c (λz:c=S=>hf (by rw[<-z];exact hc))];exact e
  ·refine hR s'' (Moved.trans W.gtrans ((hm.mono sub).then_heap (Nat.le_succ _) λc o hc e=>?_) hm'') S3
   rw[sb.2 c (λz:c=S=>hc (by rw[z];exact List.mem_cons_self))];exact e
end
section
variable{prog:Program}{w:World}{A:Around}{E:Value->Shared->Prop}{s:Shared}
theorem wE(a:Value){Q₁:Value->Shared->Prop}(h:Q₁ (.ref s.heap.objs.size) {s with heap:=s.heap.push (bY #[] 0 (.fresh 0 0 (!byT w)))}):
  codeAny (model prog w) A (.call (.builtin "set.__new__") ⟨[.type "set",a],[]⟩) (wants Q₁ E) s:=by
 refine codeAny_of_tree ?_
 show wpAny _ A.in1 (do checkBuiltinCall "set.__new__" ⟨[.type "set",a],[]⟩;again (.builtin "set.__new__" ⟨[.type "set",a],[]⟩)) _ _ s
 refine wpAny_bind (wpAny_of_eq (F.newCall_set_1 a) (wpAny_pure ⟨plainId_quiet F.plain_set_new _,codeAny_builtin F.entry_set_new ?_⟩))
 rw[Around.under_plainId F.plain_set_new _]
 unfold Builtin.«set.__new__» Builtin.Frozenset.newClass
 have hsub:=zAc
 obtain⟨hp,g,d,tk,os⟩:=s
 dsimp only
 wp_walk
 refine wpAny_askSetting (wpAny_pure ?_)
 dsimp only
 simp only[newObj]
 refine wpAny_bind (wpAny_alloc (wpAny_pure ?_))
 exact wpAny_pure h
end
end L2
namespace L2
open PySem PySem.Spec PyProof.Rows
theorem iK:∀{vs:List Value}{ss:List Str},StrsAre vs ss->∀(i:Nat) (v:Value),vs[i]?=some v->∃t,v=.str (ss.getD i ⟨#[]⟩) t
 |_,_,.nil,i,v,h=>by simp at h
 |_,_,.cons y t hr,0,v,h=>by
  simp at h
  exact⟨t,by rw[<-h];rfl⟩
 |_,_,.cons y t hr,i+1,v,h=>by
  simp only[List.getElem?_cons_succ]at h
  obtain⟨u,e⟩:=iK hr i v h
  exact⟨u,by rw[e];rfl⟩
end L2
namespace L2
open PySem PySem.Spec PyProof.Rows
theorem boot_set:bootBuiltins "set"=some (.type "set"):=by decide +kernel
def iY(P:Program)(w:World)(a:Addr)(us:List Str):HO:=.ext (SetS P w a us)
section
variable{X:Cx}
theorem Inv.draw{pins:List (Addr×Obj)}{σ:St}{H:Hp}{s:Shared}(I:Inv X pins σ H s)(d:Drawn):Inv X pins σ H {s with drawn:=d}:=
 ⟨I.ok,I.os,I.bare,I.base,I.loc,I.cell,I.free,I.freeC,I.pin,I.hok,I.len⟩
def zEU(P:Program)(w:World):List V->Hp->VK->Prop:=λxs H Q=>∃(a:Addr) (us:List Str),xs=[.ref a]/\H a=some (iY P w a us)/\us.length<64 /\
  ∀(ss:List Str) (l:Addr),ss.Perm us->sortedS ss=true->H l=none->Q (.ref l) (upd H l (.lst (ss.map V.str)))
theorem vV(hc:X.calm=true):CallR X (.builtin "sorted") (zEU X.prog X.w):=by
 intro pins s σ H xs us Q I r h
 obtain⟨a,uu,rfl,hq,h64,q⟩:=h
 obtain⟨u,rfl,rx⟩:=cY r
 cases rx
 have S:SetS X.prog X.w a uu s.heap:=(I.hok a _ hq).1
 refine zBq (I.ok.hd hc) S h64 λh' d tk l out ss e hs hp hso hl le k=>?_
 refine⟨.ref l,_,(I.laid (t':=tk) (o:=.lst (ss.map V.str)) k le ?_).draw d,rfl,q ss l hp hso (I.hok.fresh le)⟩
 refine⟨?_,out,e,pY hs,hl⟩
 rw[List.length_map,hp.length_eq]
 exact Nat.le_of_lt (Nat.lt_trans h64 (by decide))
def fX(x:Str)(n:Int):Str:=⟨(List.replicate n.toNat x.cps.toList).flatten.toArray⟩
def zF4:R2:=λx y H Q=>∃(z:Str) (n:Int),x=.str z/\y=.int n/\z.length<=1000/\n<=1000 /\ -1000<=n/\Q (.str (fX z n)) H
theorem rY(x:Array Nat):∀n (acc:Array Nat),((List.replicate n x).foldl (·++·) acc)=(acc.toList++(List.replicate n x.toList).flatten).toArray
 |0,acc=>by simp
 |n+1,acc=>by
  rw[List.replicate_succ,List.foldl_cons,rY x n,List.replicate_succ,List.flatten_cons]
  simp
theorem zEc:OpR X (binaryOp .Mult) zF4:=by
 intro pins s σ H x y v u Q I rx ry h
 obtain⟨z,n,rfl,rfl,hz,n1,n0,q⟩:=h
 obtain⟨t,rfl⟩:=rx
 obtain⟨t',rfl⟩:=ry
 have fin:∀(w:Str) (k:Tok) (tk:Nat),w=fX z n->EP X pins σ Q (.str w k) {s with toks:=tk}:=λw k tk e=>⟨.str w,H,I.tok tk,⟨k,rfl⟩,by rw[e];exact q⟩
 have pos:∀m:Nat,m<=1000->z.length*m<=1000000:=λm hm=>Nat.mul_le_mul hz hm
 refine P.mul_str (by rw[decide_eq_false (by omega),decide_eq_false (by omega)];rfl) (λh1 _ h2=>?_) (λh1 _=>?_) ?_
 ·have:(2 ^ 63-1) / n>=1000:=by
   have h3:n<=1000:=n1
   have h4:0<n:=by omega
   rw[ge_iff_le,Int.le_ediv_iff_mul_le h4]
   omega
  omega
 ·show decide (_ > sizeLine)=false
  refine decide_eq_false (Nat.not_lt.mpr (Nat.le_trans (pos n.toNat (by omega)) (by decide)))
 ·split
  ·refine⟨by decide,fin _ _ _ ?_⟩
   unfold fX
   rw[show n.toNat=0 by omega]
   rfl
  ·split
   ·rename_i h1 h2
    refine fin _ _ s.toks ?_
    rw[Bool.or_eq_true]at h2
    unfold fX
    rcases h2 with h3|h3
    ·have:n=1:=by simpa using h3
     rw[this]
     simp
    ·have hz0:z.cps=#[]:=by
      have:z.cps.size=0:=by simpa[Str.length]using h3
      exact Array.size_eq_zero_iff.mp this
     have e:∀m:Nat,(List.replicate m ([]:List Nat)).flatten=[]:=λm=>by
      induction m with
      |zero=>rfl
      |succ m ih=>rw[List.replicate_succ,List.flatten_cons,ih];rfl
     obtain⟨zc⟩:=z
     have hz0:zc=#[]:=hz0
     subst hz0
     show(⟨#[]⟩:Str)=⟨(List.replicate n.toNat ([]:List Nat)).flatten.toArray⟩
     rw[e]
   ·refine⟨?_,fin _ _ _ ?_⟩
    ·show(List.foldl (λx1 x2=>x1++x2) #[] (List.replicate n.toNat z.cps)).size<=_
     rw[rY,List.size_toArray,List.length_append,tD]
     show 0+n.toNat*z.cps.toList.length<=_
     have:=pos n.toNat (by omega)
     rw[Nat.mul_comm]at this
     have e:z.cps.toList.length=z.length:=by simp[Str.length]
     rw[e]
     exact Nat.le_trans (by omega) (show 1000000<=sizeLine by decide)
    ·unfold fX
     rw[rY]
     simp
def zGY(K:W.Frag):V->Option Int->Option Int->Hp->VK->Prop:=λx lo hi H Q=>∃a xs,x=.ref a/\SqT K H a xs/\∀p H',Same H H'->SqT K H' p (fB xs lo hi)->Q (.ref p) H'
theorem zBn{prog:Program}{w:World}{A:Around}{E:Value->Shared->Prop}{s:Shared}{t sl:Addr}{items:Array Value}{vl vu:Value}{lo hi:Option Int}{Q:Value->Shared->Prop}(ht:IsTup s.heap t items)(hs:s.heap.IsSliceOf sl vl vu .none)(pl:IsPart vl lo)(pu:IsPart vu hi)
  (hw:HT.sIx items.size 0 lo=0/\HT.sIx items.size items.size hi=items.size) (h:Q (.ref t) s):wpAny (model prog w) A (getItem (.ref t) (.ref sl)) Q E s:=by
 obtain⟨os,hos,hcs,hds⟩:=id hs
 have hTs:s.TypeIs (.ref sl) "slice":=⟨os,hos,hcs⟩
 unfold getItem
 try with_reducible refine wpAny_holding ?_
 first|refine wpAny_bind (wpAny_pure ?_)|skip
 refine wpAny_bind (wpAny_sequenceKey ht.typeIs (by decide) ?_)
 refine wpAny_bind (wpAny_callSpecial?_slot (name:=Str.ofString "__getitem__") ht.typeIs PyProof.Rows.slot_tuple_getitem (wpAny_call_entry PyProof.Rows.slot_tuple_getitem ht.typeIs entry_tuple_getitem ?_ (args_tuple_getitem _ _)))
 show wpAny _ _ (Builtin.Tuple.tupleItemsOf (.ref t) >>= _) _ _ s
 refine wpAny_bind (tupleItemsOf_ ht (wpAny_bind (wpAny_typeOf hTs ?_)))
 rw[if_pos (by decide)]
 refine wpAny_bind (HT.sliceApplied_gen hs pl pu ?_)
 rw[hw.1,hw.2]
 dsimp only
 rw[if_pos (by simp)]
 unfold Builtin.Tuple.tupleIsExact
 refine wpAny_bind (wpAny_bind (wpAny_typeOf ht.typeIs (wpAny_pure ?_)))
 rw[if_pos (by decide)]
 exact wpAny_bind (wpAny_rule (wpAny_pure ⟨_,rfl,wpAny_pure h⟩))
theorem zEu{xs:List V}{lo hi:Option Int}(hw:HT.sIx xs.length 0 lo=0/\HT.sIx xs.length xs.length hi=xs.length):fB xs lo hi=xs:=by
 unfold fB
 rw[hw.1,hw.2,List.drop_zero,Nat.sub_zero,List.take_length]
theorem sl_tupW:SlR X (zGY X.K):=by
 intro pins s σ H x v vl vu lo hi sl Q I rx hs pl pu h
 obtain⟨a,xs,rfl,hx,q⟩:=h
 by_cases hw:HT.sIx xs.length 0 lo=0/\HT.sIx xs.length xs.length hi=xs.length
 ·cases rx
  obtain⟨its,r,ht,hz⟩:=I.tuple hx
  have hlen:its.toArray.size=xs.length:=by rw[List.size_toArray];exact r.length.symm
  refine⟨"tuple",_,PyProof.Rows.slot_tuple_getitem.lookup,ht.typeIs,?_⟩
  exact zBn ht hs pl pu (by rw[hlen];exact hw) ⟨.ref a,H,I,rfl,q a H (λ_ _ e=>e) (by rw[zEu hw];exact hx)⟩
 ·exact zEN pins s σ H _ v vl vu lo hi sl Q I rx hs pl pu ⟨a,xs,rfl,hx,hw,λp np=>q p _ (λb o e=>by rw[bG (dC e np)];exact e) (SqT.of bE)⟩
end
end L2
namespace L2
open PySem PySem.Spec PyProof.Rows
theorem zS(f:Nat->List Nat):∀n,argBest (λi j=>decide (f i<f j)) n<=n/\∀j,j<=n->f (argBest (λi j=>decide (f i<f j)) n)<=f j
 |0=>⟨Nat.le_refl _,λj hj=>by rw[Nat.le_zero.mp hj];exact List.le_refl _⟩
 |n+1=>by
  obtain⟨h1,h2⟩:=zS f n
  show(if decide (f (n+1)<f (argBest _ n))=true then n+1 else argBest _ n)<=n+1/\∀j,j<=n+1->f (if decide (f (n+1)<f (argBest _ n))=true then n+1 else argBest _ n)<=f j
  by_cases h:f (n+1)<f (argBest (λi j=>decide (f i<f j)) n)
  ·rw[if_pos (decide_eq_true h)]
   refine⟨Nat.le_refl _,λj hj=>?_⟩
   rcases Nat.lt_or_eq_of_le hj with z|z
   ·exact List.le_trans (List.le_of_lt h) (h2 j (by omega))
   ·rw[z];exact List.le_refl _
  ·rw[if_neg (λz=>h (of_decide_eq_true z))]
   refine⟨by omega,λj hj=>?_⟩
   rcases Nat.lt_or_eq_of_le hj with z|z
   ·exact h2 j (by omega)
   ·rw[z];exact List.not_lt.mp h
theorem zT(f:Nat->List Nat):∀n,argBest (λi j=>decide (f j<f i)) n<=n/\∀j,j<=n->f j<=f (argBest (λi j=>decide (f j<f i)) n)
 |0=>⟨Nat.le_refl _,λj hj=>by rw[Nat.le_zero.mp hj];exact List.le_refl _⟩
 |n+1=>by
  obtain⟨h1,h2⟩:=zT f n
  show(if decide (f (argBest _ n)<f (n+1))=true then n+1 else argBest _ n)<=n+1/\∀j,j<=n+1->f j<=f (if decide (f (argBest _ n)<f (n+1))=true then n+1 else argBest _ n)
  by_cases h:f (argBest (λi j=>decide (f j<f i)) n)<f (n+1)
  ·rw[if_pos (decide_eq_true h)]
   refine⟨Nat.le_refl _,λj hj=>?_⟩
   rcases Nat.lt_or_eq_of_le hj with z|z
   ·exact List.le_trans (h2 j (by omega)) (List.le_of_lt h)
   ·rw[z];exact List.le_refl _
  ·rw[if_neg (λz=>h (of_decide_eq_true z))]
   refine⟨by omega,λj hj=>?_⟩
   rcases Nat.lt_or_eq_of_le hj with z|z
   ·exact h2 j (by omega)
   ·rw[z];exact List.not_lt.mp h
theorem xC{l:List Str}{i:Nat}(h:i<l.length):l.getD i ⟨#[]⟩∈l:=by
 rw[List.getD_eq_getElem?_getD,List.getElem?_eq_getElem h]
 exact List.getElem_mem h
theorem wY{l:List Str}{a:Str}(h:a∈l):∃j,j<l.length/\l.getD j ⟨#[]⟩=a:=by
 obtain⟨j,hj,e⟩:=List.mem_iff_getElem.mp h
 exact⟨j,hj,by rw[List.getD_eq_getElem?_getD,List.getElem?_eq_getElem hj];exact e⟩
section
variable{prog:Program}{w:World}{A:Around}{E:Value->Shared->Prop}{s:Shared}{l:Addr}{its:Array Value}{ss:List Str}
theorem zBE{P:Nat->Value->Prop}(val:Nat->Str)(hval:∀i v,P i v->∃t,v=.str (val i) t):CmpOf prog w A .Lt P (λi j=>decide ((val i).cps.toList<(val j).cps.toList)):=λi j vi vj s Q E hi hj h=>by
 obtain⟨t,rfl⟩:=hval i vi hi
 obtain⟨u,rfl⟩:=hval j vj hj
 exact richCompare_gives (op:=.Lt) (typeIs_str s _ t) (typeIs_str s _ u) F.slot_str_lt F.entry_str_lt (F.args_str_lt_2 _ _) (gives_str_lt _ _ t u) (λx=>nomatch x) h
theorem zBF{P:Nat->Value->Prop}(val:Nat->Str)(hval:∀i v,P i v->∃t,v=.str (val i) t):CmpOf prog w A .Gt P (λi j=>decide ((val j).cps.toList<(val i).cps.toList)):=λi j vi vj s Q E hi hj h=>by
 obtain⟨t,rfl⟩:=hval i vi hi
 obtain⟨u,rfl⟩:=hval j vj hj
 exact richCompare_gives (op:=.Gt) (typeIs_str s _ t) (typeIs_str s _ u) F.slot_str_gt F.entry_str_gt (F.args_str_gt_2 _ _) (gives_str_gt _ _ t u) (λx=>nomatch x) h
theorem wJ{Q:Value->Shared->Prop}(hl:s.heap.IsList l its)
  (h:∀s₂:Shared,s₂={s with heap:=s.heap.push {cls:=.type "list_iterator",data:=.fields #[.ref l,.int 0 0]}} ->
   (s₂.heap.IsListIter s.heap.objs.size l 0/\s₂.heap.IsList l its)->(∀b∈[s.heap.objs.size,l],b<s₂.heap.objs.size)->l≠s.heap.objs.size->Q (.ref s.heap.objs.size) s₂):
  wpAny (model prog w) A (pyIter (.ref l)) Q E s:=by
 have hlt:l<s.heap.objs.size:=by obtain⟨_,e,_⟩:=hl;exact Heap.lt_size e
 refine wpAny_pyIter_list hl (h _ rfl ⟨⟨_,Heap.get?_push_size _ rfl,rfl,rfl⟩,hl.push _⟩ (λb hb=>?_) (Nat.ne_of_lt hlt))
 show b<(s.heap.push _).objs.size
 rw[Heap.size_push]
 simp only[List.mem_cons,List.not_mem_nil,or_false]at hb
 rcases hb with z|z
 ·rw[z];exact Nat.lt_succ_self _
 ·rw[z];exact Nat.lt_succ_of_lt hlt
theorem zDi{Q:Value->Shared->Prop}(hh:A.handled=none)(hl:s.heap.IsList l its)(hi:StrsAre its.toList ss)(hne:0<ss.length)
  (h:∀x t h' tk,x∈ss->(∀y∈ss,x.cps.toList<=y.cps.toList)->(∀b o,s.heap.get? b=some o->h'.get? b=some o)->Q (.str x t) {s with heap:=h',toks:=tk}):
  wpAny (model prog w) A (call (.builtin "min") [.ref l]) Q E s:=by
 have hsz:its.size=ss.length:=by rw[<-Array.length_toList,gV hi]
 refine call_min_walk (wJ hl λs₂ e st hfp hlI=>?_)
 subst e
 refine⟨_,_,_,_,_,_,_,rfl,Walks.list (A:=A.in1) hh _ l hlI its,st,hfp,by omega,zBE (λi=>ss.getD i ⟨#[]⟩) (λi v hv=>iK hi i v (by rw[Array.getElem?_toList];exact hv)),λv h' tk hP hk=>?_⟩
 obtain⟨t,rfl⟩:=iK hi _ v (by rw[Array.getElem?_toList];exact hP)
 obtain⟨b1,b2⟩:=zS (λi=>(ss.getD i ⟨#[]⟩).cps.toList) (its.size-1)
 refine h _ t h' tk (xC (by omega)) (λy hy=>?_) (old_kept hk)
 obtain⟨j,hj,rfl⟩:=wY hy
 exact b2 j (by omega)
theorem zDj{Q:Value->Shared->Prop}(hh:A.handled=none)(hl:s.heap.IsList l its)(hi:StrsAre its.toList ss)(hne:0<ss.length)
  (h:∀x t h' tk,x∈ss->(∀y∈ss,y.cps.toList<=x.cps.toList)->(∀b o,s.heap.get? b=some o->h'.get? b=some o)->Q (.str x t) {s with heap:=h',toks:=tk}):
  wpAny (model prog w) A (call (.builtin "max") [.ref l]) Q E s:=by
 have hsz:its.size=ss.length:=by rw[<-Array.length_toList,gV hi]
 refine call_max_walk (wJ hl λs₂ e st hfp hlI=>?_)
 subst e
 refine⟨_,_,_,_,_,_,_,rfl,Walks.list (A:=A.in1) hh _ l hlI its,st,hfp,by omega,zBF (λi=>ss.getD i ⟨#[]⟩) (λi v hv=>iK hi i v (by rw[Array.getElem?_toList];exact hv)),λv h' tk hP hk=>?_⟩
 obtain⟨t,rfl⟩:=iK hi _ v (by rw[Array.getElem?_toList];exact hP)
 obtain⟨b1,b2⟩:=zT (λi=>(ss.getD i ⟨#[]⟩).cps.toList) (its.size-1)
 refine h _ t h' tk (xC (by omega)) (λy hy=>?_) (old_kept hk)
 obtain⟨j,hj,rfl⟩:=wY hy
 exact b2 j (by omega)
end
section
variable{X:Cx}
theorem zBX(hc:X.calm=true):CallR X (.builtin "min") (λxs H Q=>∃(p:Addr) (ss:List Str),xs=[.ref p]/\SqL X.K H p (ss.map V.str)/\0<ss.length/\∀x,x∈ss->(∀y∈ss,x.cps.toList<=y.cps.toList)->Q (.str x) H):=by
 intro pins s σ H xs us Q I r h
 obtain⟨p,ss,rfl,hq,hn,q⟩:=h
 obtain⟨u,rfl,rx⟩:=cY r
 cases rx
 obtain⟨its,rv,pl,hz⟩:=I.list hq
 refine zDi (I.ok.hd hc) pl.isList (jE rv) hn λx t h' tk h1 h2 hk=>?_
 exact⟨.str _,H,I.kept hk,⟨t,rfl⟩,q _ h1 h2⟩
theorem zBY(hc:X.calm=true):CallR X (.builtin "max") (λxs H Q=>∃(p:Addr) (ss:List Str),xs=[.ref p]/\SqL X.K H p (ss.map V.str)/\0<ss.length/\∀x,x∈ss->(∀y∈ss,y.cps.toList<=x.cps.toList)->Q (.str x) H):=by
 intro pins s σ H xs us Q I r h
 obtain⟨p,ss,rfl,hq,hn,q⟩:=h
 obtain⟨u,rfl,rx⟩:=cY r
 cases rx
 obtain⟨its,rv,pl,hz⟩:=I.list hq
 refine zDj (I.ok.hd hc) pl.isList (jE rv) hn λx t h' tk h1 h2 hk=>?_
 exact⟨.str _,H,I.kept hk,⟨t,rfl⟩,q _ h1 h2⟩
end
end L2
namespace L2
open PySem PySem.Spec PyProof.Rows
open PySem PySem.Spec PyProof.Rows
section
variable{κ:Type}[DecidableEq κ]
def eQ(kvs:List (κ×V))(k:κ):Option V:=(kvs.find? λkv=>decide (kv.1=k)).map (·.2)
theorem rB{p:κ×V}{r:List (κ×V)}{k:κ}(e:p.1=k):eQ (p::r) k=some p.2:=by simp[eQ,List.find?_cons,e]
theorem rC{p:κ×V}{r:List (κ×V)}{k:κ}(e:¬ p.1=k):eQ (p::r) k=eQ r k:=by simp[eQ,List.find?_cons,e]
theorem RelO.isSome_eq{o:Option V}{u:Option Value}(r:RelO o u):o.isSome=u.isSome:=by
 cases o with
 |none=>cases u with
  |none=>rfl
  |some _=>exact(show False from r).elim
 |some _=>cases u with
  |none=>exact(show False from r).elim
  |some _=>rfl
theorem KV.val{kvs:List (κ×V)}{vs:List (κ×Value)}(r:KV kvs vs)(k:κ):RelO (eQ kvs k) (valueAt vs k):=by
 unfold KV at r
 induction r with
 |nil=>exact True.intro
 |@cons p q ps qs h t ih=>
  obtain⟨h1,h2⟩:=h
  by_cases e:p.1=k
  ·have e':q.1=k:=h1.symm.trans e
   have b:valueAt (q::qs) k=some q.2:=by simp[valueAt,List.find?_cons,e']
   rw[rB e,b];exact h2
  ·have e':¬ q.1=k:=λz=>e (h1.trans z)
   have b:valueAt (q::qs) k=valueAt qs k:=by simp[valueAt,List.find?_cons,e']
   rw[rC e,b];exact ih
theorem KV.length{kvs:List (κ×V)}{vs:List (κ×Value)}(r:KV kvs vs):kvs.length=vs.length:=Paired.length r
end
theorem oQ{P:Program}{w:World}{k:Key}{u:Value}(r:RelV (kV k) u):(cS P w).is k u=true:=by
 cases k with
 |inl i=>obtain⟨t,e⟩:=(show ∃t,u=Value.int i t from r);subst e;exact zBA P w i t
 |inr x=>obtain⟨t,e⟩:=(show ∃t,u=Value.str x t from r);subst e;exact mH P w x t
theorem xB{P:Program}{w:World}:∀{ks:List Key}{us:List Value},Vals (ks.map kV) us->ItemsAre (cS P w) ks us
 |[],_,r=>by rw[List.map_nil]at r;cases r;exact .nil
 |k::ks,_,r=>by
  rw[List.map_cons]at r
  cases r with
  |cons h t=>exact .cons (oQ h) (xB t)
abbrev KT(H:Hp):List (List Key×V)->List (List Key×Addr×Value)->Prop:=Paired λp q=>p.1=q.1/\H q.2.1=some (.tup (p.1.map kV))/\RelV p.2 q.2.2
theorem KT.val{H:Hp}{kvs:List (List Key×V)}{xs:List (List Key×Addr×Value)}(r:KT H kvs xs)(k:List Key):RelO (eQ kvs k) ((atKey xs k).map (·.2)):=by
 induction r with
 |nil=>exact True.intro
 |@cons p q ps qs h t ih=>
  obtain⟨h1,_,h2⟩:=h
  by_cases e:p.1=k
  ·have e':q.1=k:=h1.symm.trans e
   have b:atKey (q::qs) k=some q.2:=by simp[atKey,List.find?_cons,e']
   rw[rB e,b];exact h2
  ·have e':¬ q.1=k:=λz=>e (h1.trans z)
   have b:atKey (q::qs) k=atKey qs k:=by simp[atKey,List.find?_cons,e']
   rw[rC e,b];exact ih
section
variable{P:Program}{w:World}{H:Hp}{h:Heap}{a:Addr}
theorem zAD{u:HO}(ok:HOk P w H h)(e:Rd H a u):ObjOk P w H h a u:=e.ok ok
theorem lU{kvs:List (Key×V)}(ok:HOk P w H h)(e:Rd H a (.dK kvs)):kvs.length<=sizeLine/\(a==sysModules)=false/\∃vs,KV kvs vs/\h.DictOf (cS P w) a vs:=
 show ObjOk P w H h a (.dK kvs) from zAD ok e
theorem oE{ks:List Key}(ok:HOk P w H h)(e:H a=some (.tup (ks.map kV))):(tupleKind (cS P w)).is h ks a:=by
 obtain⟨_,its,r,o,h1,h2,n,h3⟩:=(show ObjOk P w H h a (.tup (ks.map kV)) from ok a _ e)
 exact⟨o,its.toArray,n,h1,h2,h3,by simpa using xB r⟩
theorem oR{kvs:List (List Key×V)}(ok:HOk P w H h)(e:Rd H a (.dT kvs)):kvs.length<=sizeLine/\(a==sysModules)=false /\
  ∃xs,KT H kvs xs/\h.DictOfH (tupleKind (cS P w)) a xs:=by
 obtain⟨z,y,xs,r,o,es,ep,h1,h2,h3,h4,h5⟩:=(show ObjOk P w H h a (.dT kvs) from zAD ok e)
 refine⟨z,y,xs,r,o,es,ep,h1,h2,h3,h4,λx hx=>?_,h5⟩
 have all:∀{l:List (List Key×V)} {m:List (List Key×Addr×Value)},KT H l m->∀x∈m,(tupleKind (cS P w)).is h x.1 x.2.1:=by
  intro l m q
  induction q with
  |nil=>intro x hx;exact nomatch hx
  |@cons p q ps qs hq t ih=>
   intro x hx
   rcases List.mem_cons.mp hx with e|hx
   ·subst e
    exact oE ok (by rw[<-hq.1];exact hq.2.1)
   ·exact ih x hx
 exact all r x hx
end
def jC(H:Hp)(a:Addr)(y:V)(r:Option V):Prop:=
 (∃kvs k,Rd H a (.dK kvs)/\y=kV k/\r=eQ kvs k)\/∃kvs k b,Rd H a (.dT kvs)/\y=.ref b/\H b=some (.tup (k.map kV))/\r=eQ kvs k
section
variable{X:Cx}{pins:List (Addr×Obj)}{σ:St}{H:Hp}{s:Shared}{a:Addr}{y v:V}{u r:Value}{o:Option V}{A:Around}{E:Value->Shared->Prop}
theorem zCH{Q:Value->Shared->Prop}(hu:A.units+1<cLine)(I:Inv X pins σ H s)(g:jC H a y (some v))(ry:RelV y u)(h:∀w' s',Inv X pins σ H s'->RelV v w'->Q w' s'):
  wpAny (model X.prog X.w) A (getItem (.ref a) u) Q E s:=by
 rcases g with⟨kvs,k,e,ey,l⟩|⟨kvs,k,b,e,ey,eb,l⟩
 ·subst ey
  obtain⟨z,hd,vs,rel,dd⟩:=lU I.hok e
  obtain⟨w',hw,rw'⟩:=RelO.some_of (v:=v) (o:=valueAt vs k) (by rw[l];exact rel.val k)
  exact wpAny_getItem_of (oQ ry) dd.mapOf hw (h w' _ (I.tok _) rw')
 ·subst ey
  cases (show u=Value.ref b from ry)
  obtain⟨z,hd,xs,rel,dd⟩:=oR I.hok e
  obtain⟨w',hw,rw'⟩:=RelO.some_of (v:=v) (o:=(atKey xs k).map (·.2)) (by rw[l];exact rel.val k)
  obtain⟨p,hp,hp2⟩:=Option.map_eq_some_iff.mp hw
  refine wpAny_getItem_heap (tupleKind_room_in1 hu) (oE I.hok eb) dd hp ?_
  rw[hp2]
  exact h w' _ (I.tok _) rw'
theorem zHU{Q:Value->Shared->Prop}(hu:A.units+1<cLine)(I:Inv X pins σ H s)(g:jC H a y o)(ry:RelV y u)(h:∀s',Inv X pins σ H s'->Q (.bool o.isSome) s'):
  wpAny (model X.prog X.w) A (compareOp .In u (.ref a)) Q E s:=by
 rcases g with⟨kvs,k,e,ey,l⟩|⟨kvs,k,b,e,ey,eb,l⟩
 ·subst ey
  obtain⟨z,hd,vs,rel,dd⟩:=lU I.hok e
  refine wpAny_in_of (oQ ry) hd dd.mapOf ?_
  rw[<-(rel.val k).isSome_eq,<-l]
  exact h _ (I.tok _)
 ·subst ey
  cases (show u=Value.ref b from ry)
  obtain⟨z,hd,xs,rel,dd⟩:=oR I.hok e
  refine wpAny_in_heap (tupleKind_room_in1 hu) (oE I.hok eb) hd dd ?_
  have q:=(rel.val k).isSome_eq
  rw[Option.isSome_map]at q
  rw[<-q,<-l]
  exact h _ (I.tok _)
theorem zEt{Q:Value->Shared->Prop}(hu:A.units+1<cLine)(I:Inv X pins σ H s)(g:jC H a y o)(ry:RelV y u)(h:∀s',Inv X pins σ H s'->Q (.bool (!o.isSome)) s'):
  wpAny (model X.prog X.w) A (compareOp .NotIn u (.ref a)) Q E s:=by
 rcases g with⟨kvs,k,e,ey,l⟩|⟨kvs,k,b,e,ey,eb,l⟩
 ·subst ey
  obtain⟨z,hd,vs,rel,dd⟩:=lU I.hok e
  refine wpAny_notIn_of (oQ ry) hd dd.mapOf ?_
  rw[<-(rel.val k).isSome_eq,<-l]
  exact h _ (I.tok _)
 ·subst ey
  cases (show u=Value.ref b from ry)
  obtain⟨z,hd,xs,rel,dd⟩:=oR I.hok e
  refine wpAny_notIn_heap (tupleKind_room_in1 hu) (oE I.hok eb) hd dd ?_
  have q:=(rel.val k).isSome_eq
  rw[Option.isSome_map]at q
  rw[<-q,<-l]
  exact h _ (I.tok _)
end
section
variable{X:Cx}{pins:List (Addr×Obj)}{σ:St}{H:Hp}{s:Shared}{a:Addr}{kvs:List (Key×V)}{k:Key}{u:Value}{A:Around}{E:Value->Shared->Prop}
theorem zGw{Q:Value->Shared->Prop}(I:Inv X pins σ H s)(e:Rd H a (.dK kvs))(h:∀t s',Inv X pins σ H s'->Q (.int kvs.length t) s'):wpAny (model X.prog X.w) A (call (.builtin "len") [.ref a]) Q E s:=by
 obtain⟨z,hd,vs,rel,dd⟩:=lU I.hok e
 refine call_len_dict hd dd (by rw[<-rel.length];rw[sizeLine_eq]at z;omega) ?_
 rw[<-rel.length]
 exact h _ _ (I.tok _)
end
theorem zBC{X:Cx}{pins:List (Addr×Obj)}{σ:St}{H:Hp}{s:Shared}{a:Addr}{y:V}{o:Option V}(I:Inv X pins σ H s)(g:jC H a y o):s.TypeIs (.ref a) "dict":=by
 rcases g with⟨kvs,k,e,_,_⟩|⟨kvs,k,b,e,_,_,_⟩
 ·obtain⟨_,_,vs,_,dd⟩:=lU I.hok e
  exact dd.typeIs
 ·obtain⟨_,_,xs,_,dd⟩:=oR I.hok e
  exact dd.typeIs
end L2
namespace L2
open PySem PySem.Spec PyProof.Rows
def FzD(H:Hp)(a:Addr)(ob:Obj)(kvs:List (Key×V)):Prop:=H a=some (.frz ob (.dK kvs))
theorem lE{kvs:List (Key×V)}{vs:List (Key×Value)}(r:KV kvs vs):kvs.length=vs.length:=Paired.length r
theorem zAt:∀{kvs:List (Key×V)}{vs:List (Key×Value)}{i:Nat}{k:Key}{v:V},KV kvs vs->kvs[i]?=some (k,v)->∃u,vs[i]?=some (k,u)/\RelV v u
 |_,_,0,_,_,.cons (b:=b) r _,h=>by
  cases h
  obtain⟨e,r⟩:=r
  exact⟨b.2,by show some b=_;rw[show b=(b.1,b.2) from rfl,<-e],r⟩
 |_,_,i+1,_,_,.cons _ rs,h=>zAt (i:=i) rs (by simpa using h)
theorem zEj{k:Key}{u:Value}(h:hZ k u=true):RelV (kV k) u:=by
 rcases fD h with⟨i,t,rfl,rfl⟩|⟨x,t,rfl,rfl⟩
 ·exact⟨t,rfl⟩
 ·exact⟨t,rfl⟩
section
variable{X:Cx}{pins:List (Addr×Obj)}{σ:St}{H:Hp}{s:Shared}{a:Addr}{ob:Obj}{kvs:List (Key×V)}
theorem nQ(I:Inv X pins σ H s)(h:FzD H a ob kvs):s.heap.get? a=some ob/\(a==sysModules)=false/\kvs.length<=sizeLine/\∃vs es ep,KV kvs vs/\s.heap.DictAt (cS X.prog X.w) a vs ep/\ob.data=.dict es ep:=by
 obtain⟨e,hl,hs,vs,r,o,es,ep,e',x1,x2,x3⟩:=(show ObjOk X.prog X.w H s.heap a (.frz ob (.dK kvs)) from I.hok a _ h)
 rw[e]at e'
 cases e'
 exact⟨e,hs,hl,vs,es,ep,r,⟨ob,es,e,x1,x2,x3⟩,x2⟩
end
def ItD(a:Addr)(ob:Obj)(kvs:List (Key×V)):It:=
 ⟨λi H=>FzD H a ob kvs/\i<kvs.length,λi H x H'=>H'=H/\∃k v,kvs[i]?=some (k,v)/\x=kV k,λi H=>FzD H a ob kvs/\kvs.length<=i⟩
theorem zCa{P:Program}{w:World}{K:W.Frag}{tg:Expr}{a it:Addr}{ob:Obj}{kvs:List (Key×V)}{es:Array DictEntry}{ep:Nat}(hep:ob.data=.dict es ep):
  fZ P w K tg (ItD a ob kvs) [it] it (λi h=>h.IsKeyIter it a i kvs.length ep) where
 mem:=by simp
 obj:=λi h st b hb=>by
  have e:b=it:=by simpa using hb
  subst e
  obtain⟨o,e,c,d⟩:=st
  exact⟨o,e,λv z=>by rw[d]at z;cases z⟩
 keep:=λi h h' st k=>st.at λo e=>k it (by simp) o e
 item:=by
  intro X hP hw hK hc i pins s σ H E I hf st hg
  subst hP hw hK
  obtain⟨hz,hi⟩:=hg
  obtain⟨e,hs,hl,vs,es',ep',r,dd,hd'⟩:=nQ I hz
  rw[hep]at hd'
  cases hd'
  obtain⟨f0,f1,f2,f3,f4,f5⟩:=hf it (by simp)
  obtain⟨⟨k,v⟩,hx⟩:∃p,kvs[i]?=some p:=⟨kvs[i],by simp[hi]⟩
  obtain⟨u,hu,ru⟩:=zAt r hx
  have st':s.heap.IsKeyIter it a i vs.length ep:=by rw[<-lE r];exact st
  refine wpAny_pyNext_dict_item st' dd hu λkey h' hkey hit' sb=>?_
  have I1:Inv X pins σ H {s with heap:=h'}:=I.turned (t':=s.toks) (λb o hb e=>(sb.2 b hb).trans e) f0 f1 f3 f4 f5
  obtain⟨o,e,c,d⟩:=id hit'
  exact⟨key,rfl,kB (s:={s with heap:=h'}) e c d (by decide) ⟨kV k,H,I1,zEj hkey,⟨rfl,k,v,hx,rfl⟩,by rw[lE r];exact hit',λb hb=>(hf b hb).1⟩⟩
 done:=by
  intro X hP hw hK hc i pins s σ H E I hf st hg
  subst hP hw hK
  obtain⟨hz,hi⟩:=hg
  obtain⟨e,hs,hl,vs,es',ep',r,dd,hd'⟩:=nQ I hz
  rw[hep]at hd'
  cases hd'
  obtain⟨f0,f1,f2,f3,f4,f5⟩:=hf it (by simp)
  have st':s.heap.IsKeyIter it a i vs.length ep:=by rw[<-lE r];exact st
  have hn:vs[i]?=none:=List.getElem?_eq_none (by rw[<-lE r];exact hi)
  exact wpAny_pyNext_dict_end (I.ok.hd hc) st' dd hn λh' eb=>⟨rfl,I.turned (t':=s.toks) (λb o hb e=>eb b o hb e) f0 f1 f3 f4 f5⟩
 self:=λ_ _ _ _ _ st h=>wpAny_pyIter_keyiter st h
end L2
namespace L2
open PySem PySem.Spec PyProof.Rows
theorem zBr{prog:Program}{w:World}:∀{kvs:List (Key×Value)}{us:List Str}{acc:Array Value},kvs.map (·.1)=us.map Sum.inr ->
  ItemsOf (λi v=>∃k x,kvs[i]?=some (k,x)/\(cS prog w).is k v=true) acc kvs.length->StrsAre acc.toList us:=by
 intro kvs us acc hk h
 obtain⟨hn,hp⟩:=h
 have key:∀(us:List Str) (l:List Value) (kvs:List (Key×Value)),kvs.map (·.1)=us.map Sum.inr->l.length=kvs.length->(∀(j:Nat) (v:Value),l[j]?=some v->∃k x,kvs[j]?=some (k,x)/\(cS prog w).is k v=true)->StrsAre l us:=by
  intro us
  induction us with
  |nil=>
   intro l kvs hk hl _
   have:kvs=[]:=by simpa using hk
   subst this
   have:l=[]:=List.eq_nil_of_length_eq_zero hl
   subst this
   exact .nil
  |cons y ys ih=>
   intro l kvs hk hl hp
   cases kvs with
   |nil=>simp at hk
   |cons p kvs=>
    cases l with
    |nil=>simp at hl
    |cons v l=>
     simp only[List.map_cons,List.cons.injEq]at hk
     obtain⟨k,x,e,q⟩:=hp 0 v rfl
     have e:p=(k,x):=by simpa using e
     subst e
     have hk1:k=Sum.inr y:=hk.1
     subst hk1
     rcases fD (show hZ (Sum.inr y) v=true from q) with⟨i,t,z,_⟩|⟨z,t,e1,rfl⟩
     ·cases z
     ·cases e1
      exact .cons _ _ (ih l kvs hk.2 (by simpa using hl) λj v hj=>hp (j+1) v hj)
 refine key us acc.toList kvs hk (by simpa using hn) λj v hj=>hp j v (by simpa using hj)
section
variable{prog:Program}{w:World}{A:Around}{E:Value->Shared->Prop}{s:Shared}{a:Addr}{us:List Str}
theorem zEM:isSubtype (.type "dict") (.type "dict")=pure true:=by rw[isSubtype_type];kernel_rfl
theorem zCT{Q:Bool->Shared->Prop}(ht:s.TypeIs (.ref a) "dict")(h:Q false s):wpAny (model prog w) A (Builtin.List.listLengthHint (.ref a)) Q E s:=by
 unfold Builtin.List.listLengthHint
 refine wpAny_bind (wpAny_specialOf ht PySem.F.slot_dict_len.lookup ?_)
 have e1:splitId "dict.__len__"=some ("dict","__len__"):=by decide +kernel
 dsimp only
 rw[e1]
 dsimp only
 refine wpAny_bind (wpAny_isInstance ht zEM ?_)
 simp only[Bool.not_true,Bool.false_eq_true,if_false]
 refine wpAny_ite ?_
 rw[if_pos (by decide +kernel)]
 refine wpAny_bind (wpAny_typeOf ht ?_)
 exact wpAny_pure h
theorem zBe{kvs:List (Key×Value)}{ep:Nat}{Q:List Value->Shared->Prop}(hh:A.handled=none)(hsm:(a==sysModules)=false)(S:s.heap.DictAt (cS prog w) a kvs ep)(hks:kvs.map (·.1)=us.map Sum.inr)(hl:us.length<=sizeLine)
  (hQ:∀h' d tk (acc:List Value) vs,StrsAre acc vs->vs.Perm us->s.heap.objs.size<h'.objs.size->(∀b o,s.heap.get? b=some o->h'.get? b=some o)->Q acc {s with heap:=h',drawn:=d,toks:=tk}):
  wpAny (model prog w) A (collect (.ref a)) Q E s:=by
 have alt:a<s.heap.objs.size:=S.lt_size
 have hkl:kvs.length=us.length:=by have:=congrArg List.length hks;simpa using this
 unfold collect
 refine wpAny_bind (wpAny_runValue (codeAny_builtin F.entry_proto_collect ?_))
 rw[Around.under_plainId F.plain_proto_collect _]
 show wpAny _ A.in1 (newList [] >>= λl=>again (.builtin "list.__iadd__" ⟨[l,.ref a],[]⟩)) _ _ s
 refine wpAny_bind (wpAny_newObj_type ?_ (by size_fits))
 refine wpAny_pure ⟨plainId_quiet F.plain_list_iadd _,codeAny_builtin F.entry_list_iadd ?_⟩
 rw[Around.under_plainId F.plain_list_iadd _]
 show wpAny _ A.in1 (Builtin.List.listExtendWith (.ref s.heap.objs.size) (.ref a) (.ref s.heap.objs.size)) _ _ _
 unfold Builtin.List.listExtendWith
 have S1:=S.push {cls:=.type "list",data:=.seq ([]:List Value).toArray}
 have ht:Shared.TypeIs {s with heap:=s.heap.push {cls:=.type "list",data:=.seq ([]:List Value).toArray}} (.ref a) "dict":=S1.dictOf.typeIs
 refine wpAny_bind (wpAny_typeOf ht ?_)
 have h1:Builtin.List.listSameRef (.ref s.heap.objs.size) (.ref a)=false:=by simp[Builtin.List.listSameRef];exact Nat.ne_of_gt alt
 have h2:(Value.type "dict"==Value.type "list")=false:=by decide
 have h3:(Value.type "dict"==Value.type "tuple")=false:=by decide
 simp only[h1,h2,h3,Bool.or_false,Bool.false_eq_true,if_false]
 refine wpAny_bind (wpAny_pyIter_dict hsm S1 ?_)
 generalize hh':((s.heap.push {cls:=.type "list",data:=.seq ([]:List Value).toArray}).push {cls:=.type "dict_keyiterator",data:=.fields #[.ref a,.int 0 0,.int kvs.length 0,.int ep 0]})=h'
 have sz1:(s.heap.push {cls:=.type "list",data:=.seq ([]:List Value).toArray}).objs.size=s.heap.objs.size+1:=Heap.size_push ..
 have kp:∀b o,(s.heap.push {cls:=.type "list",data:=.seq ([]:List Value).toArray}).get? b=some o->h'.get? b=some o:=λb o e=>by rw[<-hh'];exact Heap.get?_push_of_some _ e
 have ht':Shared.TypeIs {s with heap:=h'} (.ref a) "dict":=by
  obtain⟨o,e,c⟩:=ht
  exact⟨o,kp _ _ e,c⟩
 have st0:h'.IsKeyIter (s.heap.objs.size+1) a 0 kvs.length ep/\h'.DictAt (cS prog w) a kvs ep:=by
  refine⟨⟨{cls:=.type "dict_keyiterator",data:=.fields #[.ref a,.int 0 0,.int kvs.length 0,.int ep 0]},?_,rfl,rfl⟩,S1.keep kp⟩
  rw[<-hh',<-sz1]
  exact Heap.get?_push_size _ rfl
 rw[sz1]
 refine wpAny_bind (wpAny_holding (zCT ht' ?_))
 have hA:A.in1.handled=none:=by simp[hh]
 have W:=(Walks.dictKeys (prog:=prog) (w:=w) (A:=A.in1) (knd:=cS prog w) hA (s.heap.objs.size+1) a (λz=>absurd alt (by rw[z];exact Nat.not_lt.mpr (Nat.le_succ _))) kvs ep).toS
 refine wpAny_ite ?_
 rw[if_pos (by decide +kernel)]
 refine wpAny_bind (wpAny_rule ?_)
 have g0:h'.get? s.heap.objs.size=some {cls:=.type "list",data:=.seq ([]:List Value).toArray}:=kp _ _ (Heap.get?_push_size _ rfl)
 have nf:s.heap.objs.size∉[s.heap.objs.size+1,a]:=λm=>by
  simp only[List.mem_cons,List.not_mem_nil,or_false]at m
  rcases m with z|z
  ·omega
  ·rw[<-z]at alt;exact Nat.lt_irrefl _ alt
 refine wpAny_bind ?_
 show wpAny _ A.in1 (updateSeq s.heap.objs.size (·.push .none) >>= λ_=>updateSeq s.heap.objs.size (·.pop)) _ _ _
 refine wpAny_bind (wpAny_updateSeq g0 rfl ?_)
 have g1:=Heap.get?_update_self (Obj.mapSeq (·.push Value.none)) g0 rfl
 refine wpAny_updateSeq g1 rfl ?_
 have g2:=Heap.get?_update_self (Obj.mapSeq (·.pop)) g1 rfl
 have oth:∀b o,b≠s.heap.objs.size->h'.get? b=some o->((h'.update s.heap.objs.size (Obj.mapSeq (·.push Value.none))).update s.heap.objs.size (Obj.mapSeq (·.pop))).get? b=some o:=
  λb o hb e=>(Heap.get?_update_other _ _ (Ne.symm hb)).trans ((Heap.get?_update_other _ _ (Ne.symm hb)).trans e)
 refine wpAny_pure ⟨plainId_quiet F.plain_extend_loop _,codeAny_extend_loopS W (by rw[hkl];exact hl) _ nf _ kvs.length 0 _ _ _ rfl (Nat.zero_le _)
  (W.frame 0 {s with heap:=h'} _ s.toks st0 (Nat.le_refl _) λb hb o e=>oth b o (λz=>nf (z▸hb)) e) g2 (ItemsOf.nil _) λs' acc' c' hm g' hacc=>?_⟩
 show wpAny _ A (load s.heap.objs.size >>= _) _ _ s'
 refine wpAny_bind (wpAny_load g' ?_)
 have hs:=zBr hks hacc
 obtain⟨h'',g'',d'',tk'',os''⟩:=s'
 have e1:g''=s.gens:=hm.gens
 have e2:os''=s.os:=hm.os
 subst e1 e2
 refine wpAny_pure (hQ h'' d'' tk'' acc'.toList us hs (List.Perm.refl _) (Heap.lt_size g') λb o e=>hm.heap b o (λm=>?_) (oth b o (Nat.ne_of_lt (Heap.lt_size e)) (kp b o (Heap.get?_push_of_some _ e))))
 have lt:=Heap.lt_size e
 simp only[List.mem_cons,List.not_mem_nil,or_false]at m
 rcases m with m|m
 ·rw[m]at lt;exact Nat.lt_irrefl _ lt
 ·rw[m]at lt;exact absurd lt (Nat.not_lt.mpr (Nat.le_succ _))
theorem zBg{kvs:List (Key×Value)}{ep:Nat}{Q:Value->Shared->Prop}(hh:A.handled=none)(hsm:(a==sysModules)=false)(S:s.heap.DictAt (cS prog w) a kvs ep)(hks:kvs.map (·.1)=us.map Sum.inr)(h64:us.length<64)
  (h:∀h' d tk (l:Addr) (out:List Value) (ss:List Str) (e:Nat),StrsAre out ss->ss.Perm us->sortedS ss=true->h'.get? l=some (seqObj "list" out.toArray e)->s.heap.objs.size<=l->(∀b o,s.heap.get? b=some o->h'.get? b=some o) ->
   Q (.ref l) {s with heap:=h',drawn:=d,toks:=tk}):wpAny (model prog w) A (call (.builtin "sorted") [.ref a]) Q E s:=by
 refine Calls.call_function_entry kind_sorted plain_sorted entry_sorted (args_sorted1 _) ?_
 unfold Builtin.«sorted»
 refine wpAny_bind (m:=checkCount "sorted" 1 1 _) (wpAny_pure ?_)
 refine wpAny_bind (zBe (by simp[hh]) hsm S hks (Nat.le_of_lt (Nat.lt_trans h64 (by decide))) λh1 d tk acc vs hs hp le kp=>?_)
 have hlen:acc.length<64:=by rw[gV hs,hp.length_eq];exact h64
 refine wpAny_bind (wpAny_newList ?_ (Nat.le_of_lt (Nat.lt_trans hlen (by decide))))
 have hoL:(h1.push (seqObj "list" acc.toArray 0)).get? h1.objs.size=some (seqObj "list" acc.toArray 0):=Heap.get?_push_size _ rfl
 refine wpAny_bind (wpAny_holding (wpAny_call_entry slot_list_sort ⟨_,hoL,rfl⟩ entry_list_sort (list_sort_treeK strKind_oneLt hoL hs.keysOf (λv₁ v₂ rest e=>keyKind_strs (by rw[<-e];exact hs)) hlen λst' a1 a2=>⟨_,rfl,?_⟩) (args_list_sort _)))
 obtain⟨ss',b1,b2,b3⟩:=sorted_out_str hs a1 a2
 obtain⟨e,he⟩:=sortedHeap_at (out:=(arrOf st').map (·.2)) hoL
 refine wpAny_pure ⟨_,rfl,h _ _ _ _ ((arrOf st').map (·.2)).toList ss' e b1 (b2.trans hp) b3 (by rw[Array.toArray_toList];exact he) (Nat.le_of_lt le) λb o q=>?_⟩
 have lt:=Heap.lt_size (kp b o q)
 rw[sortedHeap_old (Nat.ne_of_lt lt) (by rw[Heap.size_push];exact Nat.lt_succ_of_lt lt)]
 exact Heap.get?_push_of_some _ (kp b o q)
end
section
variable{X:Cx}
def zEV:List V->Hp->VK->Prop:=λxs H Q=>∃(a:Addr) (ob:Obj) (kvs:List (Key×V)) (us:List Str),xs=[.ref a]/\FzD H a ob kvs/\kvs.map (·.1)=us.map Sum.inr/\us.length<64 /\
  ∀(ss:List Str) (l:Addr),ss.Perm us->sortedS ss=true->H l=none->Q (.ref l) (upd H l (.lst (ss.map V.str)))
theorem zL:∀{kvs:List (Key×V)}{vs:List (Key×Value)},KV kvs vs->kvs.map (·.1)=vs.map (·.1)
 |[],_,.nil=>rfl
 |_::_,_,.cons r rs=>by rw[List.map_cons,List.map_cons,r.1,zL rs]
theorem zBt(hc:X.calm=true):CallR X (.builtin "sorted") zEV:=by
 intro pins s σ H xs us Q I r h
 obtain⟨a,ob,kvs,uu,rfl,hz,hk,h64,q⟩:=h
 obtain⟨u,rfl,rx⟩:=cY r
 cases rx
 obtain⟨e,hs,hl,vs,es,ep,rr,dd,hd⟩:=nQ I hz
 refine zBg (I.ok.hd hc) hs dd (by rw[<-zL rr];exact hk) h64 λh' d tk l out ss e hs hp hso hl le k=>?_
 refine⟨.ref l,_,(I.laid (t':=tk) (o:=.lst (ss.map V.str)) k le ?_).draw d,rfl,q ss l hp hso (I.hok.fresh le)⟩
 refine⟨?_,out,e,pY hs,hl⟩
 rw[List.length_map,hp.length_eq]
 exact Nat.le_of_lt (Nat.lt_trans h64 (by decide))
end
end L2
namespace L2
open PySem PySem.Spec PyProof.Rows
section
variable{X:Cx}
def zF5:List V->Hp->VK->Prop:=λxs H Q=>∃(a:Addr) (kvs:List (Key×V)),xs=[.ref a]/\Rd H a (.dK kvs)/\Q (.int kvs.length) H
theorem zBZ:CallR X (.builtin "len") zF5:=by
 intro pins s σ H xs us Q I r h
 obtain⟨a,kvs,rfl,e,q⟩:=h
 obtain⟨u,rfl,rx⟩:=cY r
 cases rx
 exact zGw I e λt s' I'=>⟨.int kvs.length,H,I',⟨t,rfl⟩,q⟩
def zG5:R2:=λx y H Q=>∃a v,x=.ref a/\jC H a y (some v)/\Q v H
theorem zEk(hu:X.A.units+1<cLine):IxR X zG5:=by
 intro value slice pins s σ H x y v u Q I rx ry h hs
 obtain⟨a,z,rfl,g,q⟩:=h
 cases rx
 have hT:=zBC I g
 unfold subscriptTail
 refine wpAny_bind ?_
 rw[getitemInPython_of_ne hT.not_modules]
 refine wpAny_bind (wpAny_specialOf hT PySem.F.slot_dict_getitem.lookup ?_)
 have fin:wpAny (model X.prog X.w) X.A (subscripted slice false (.ref a) u) (λr s₃=>wpAny (model X.prog X.w) X.A (letTemporaryGo value (.ref a) r >>= λ_=>pure r) (EP X pins σ Q) X.xe s₃) X.xe s:=by
  rw[hs]
  exact wpAny_operating (zCH hu I g ry λw' s3 I3 rw'=>wpAny_bind (wpAny_letTemporaryGo (wpAny_pure ⟨z,H,I3,rw',q⟩)))
 first
  |exact wpAny_pure (wpAny_bind fin)
  |exact wpAny_bind (wpAny_pure (wpAny_bind fin))
  |exact wpAny_bind fin
def zG6:R2:=λy x H Q=>∃a o,x=.ref a/\jC H a y o/\Q (.bl o.isSome) H
theorem zBP(hu:X.A.units+1<cLine):OpR X (compareOp .In) zG6:=by
 intro pins s σ H y x u v Q I ry rx h
 obtain⟨a,o,rfl,g,q⟩:=h
 cases rx
 exact zHU hu I g ry λs' I'=>⟨.bl _,H,I',rfl,q⟩
end
end L2
namespace L2
open PySem PySem.Spec PyProof.Rows
def fzb:HO->Bool
 |.lst _=>true
 |.dK _=>true
 |_=>false
def FrozenA(H H1 H2:Hp):Prop:=∀b,(H b=none/\∃o ob,fzb o=true/\H1 b=some o/\H2 b=some (.frz ob o))\/(¬ (H b=none/\∃o,fzb o=true/\H1 b=some o)/\H2 b=H1 b)
section
variable{H H1 H2:Hp}{b:Addr}{o:HO}
theorem FrozenA.keep(f:FrozenA H H1 H2)(h:H1 b=some o)(n:fzb o=false):H2 b=some o:=by
 rcases f b with⟨_,o',ob,z,e,_⟩|⟨_,z⟩
 ·rw[h]at e;cases e;rw[n]at z;exact absurd z Bool.false_ne_true
 ·rw[z];exact h
theorem FrozenA.fz(f:FrozenA H H1 H2)(hn:H b=none)(h:H1 b=some o)(n:fzb o=true):∃ob,H2 b=some (.frz ob o):=by
 rcases f b with⟨_,o',ob,z,e,e2⟩|⟨z,_⟩
 ·rw[h]at e;cases e;exact⟨ob,e2⟩
 ·exact absurd ⟨hn,o,n,h⟩ z
theorem FrozenA.none_of(f:FrozenA H H1 H2)(h:H1 b=none):H2 b=none:=by
 rcases f b with⟨_,o',ob,z,e,e2⟩|⟨_,z⟩
 ·rw[h]at e;cases e
 ·rw[z];exact h
end
theorem Good.imp{P:Program}{w:World}{K:W.Frag}{mg:Str->Option Value}{base:Heap}{k:Nat}{x:Str}{ps:List Str}{sp sp':Sp}(G:Good P w K mg base k x ps sp)(h:∀vs H Q E,sp' vs H Q E->sp vs H Q E):Good P w K mg base k x ps sp':=by
 obtain⟨f,fd,F,b,m,kp⟩:=G
 exact⟨f,fd,F.imp h,b,m,kp⟩
def zAL:HO->Bool
 |.frz _ _=>true
 |.tup _=>true
 |_=>false
def HS(H H':Hp):Prop:=∀b o,zAL o=true->H b=some o->H' b=some o
section
variable{H H1 H2:Hp}{a p c:Addr}{o:HO}
theorem HS.refl(H:Hp):HS H H:=λ_ _ _ e=>e
theorem HS.trans(x:HS H H1)(y:HS H1 H2):HS H H2:=λb o h e=>y b o h (x b o h e)
theorem Same.hs(s:Same H H1):HS H H1:=λb o _ e=>s b o e
theorem FrozenA.hs(f:FrozenA H H1 H2):HS H1 H2:=λb o h e=>f.keep e (by cases o<;>first|rfl|exact absurd h Bool.false_ne_true)
theorem iS(h:H a=none):HS H (upd H a o):=λb u _ e=>by rw[bG (dC e h)];exact e
theorem fH{u:HO}(h:H a=some u)(n:zAL u=false):HS H (upd H a o):=λb v hv e=>by
 by_cases z:b=a
 ·subst z;rw[h]at e;cases e;rw[n]at hv;exact absurd hv Bool.false_ne_true
 ·rw[bG z];exact e
end
end L2
namespace WordM
open PySem
def sigA:Str:=" !\"#$&'()*+,-./0123456789:;<=>?@ABCDEFGHIJKLMNOPQRSTUVWXYZ[\\]^_`"
def sigB:Str:="abcdefghijklmnopqrstuvwxyz{|}~"
def SIG:Str:=sigA++sigB
abbrev cs(x:Str):List Nat:=x.cps.toList
def kF:Str:="0123456789"
def kZ:Str:="ABCDEFGHIJKLMNOPQRSTUVWXYZ"
def zER:Str:=" !\"#$&'()*+,-./:;<=>?\x40[\\]^_`{|}~"
def nY:Str:="abcdefghijklmnopqrstuvwxyz"
def SGN:List (Str×Str):=[("figure",kF),("great",kZ),("other",zER),("small",nY)]
def MK:List Str:=["figure","great","other","small"]
def Sg(x:Str):Prop:=∀c∈cs x,c∈cs SIG
instance (x:Str):Decidable (Sg x):=by unfold Sg;infer_instance
def dA(c:Nat):Str:=if c∈cs kF then "figure" else if c∈cs kZ then "great" else if c∈cs nY then "small" else "other"
def gP(x m:Str):Bool:=(cs x).any λc=>decide (c∈cs ((L2.getS SGN m).getD ⟨#[]⟩))
def iR(x:Str):List Str:=MK.filter λm=>gP x m
theorem app(a b:Str):cs (a++b)=cs a++cs b:=by
 show(a.cps++b.cps).toList=_
 simp
theorem len(a:Str):a.length=(cs a).length:=by simp[Str.length]
theorem Sg.app{a b:Str}(ha:Sg a)(hb:Sg b):Sg (a++b):=λc hc=>by
 rw[WordM.app]at hc
 rcases List.mem_append.mp hc with z|z
 ·exact ha c z
 ·exact hb c z
theorem Sg.one{x:Str}(h:Sg x){c:Nat}(hc:c∈cs x):Sg ⟨#[c]⟩:=λd hd=>by
 have:d=c:=by simpa using hd
 rw[this]
 exact h c hc
theorem tP:Sg ⟨#[]⟩:=λc hc=>by simp at hc
theorem zCc{x:Str}{l u:Option Int}{c:Nat}(h:c∈cs (Txt.slice x l u)):c∈cs x:=by
 unfold Txt.slice at h
 split at h
 ·exact h
 ·simp only[cs,List.toList_toArray,List.mem_filterMap]at h
  obtain⟨i,_,hi⟩:=h
  obtain⟨hlt,e⟩:=Array.getElem?_eq_some_iff.mp hi
  rw[<-e]
  simp
theorem Sg.slice{x:Str}(h:Sg x)(l u:Option Int):Sg (Txt.slice x l u):=λc hc=>h c (zCc hc)
theorem slice_len(x:Str)(l u:Option Int):(Txt.slice x l u).length<=x.length:=Txt.slice_le x l u
theorem jN{a b:Str}(h:cs a=cs b):a=b:=by
 obtain⟨a⟩:=a
 obtain⟨b⟩:=b
 have:a=b:=Array.toList_inj.mp h
 rw[this]
theorem zBK{c:Nat}{r:Str}:Txt.slice ((⟨#[c]⟩:Str)++r) (some 1) none=r:=by
 refine jN ?_
 have hl:(((⟨#[c]⟩:Str)++r).length)=1+r.length:=by rw[len,app,len];simp
 rw[PyProof.Rows.slice_from_eq (b:=((((⟨#[c]⟩:Str)++r).length:Nat):Int)) (by decide) (by omega) rfl]
 show((cs ((⟨#[c]⟩:Str)++r)).drop 1).take _=_
 rw[app]
 show((c::cs r).drop 1).take _=cs r
 rw[List.drop_one,List.tail_cons,List.take_of_length_le]
 rw[hl,len]
 omega
theorem zBz{x:Str}(h:x.length=0):Txt.slice x (some 1) none=x:=by
 have h1:=slice_len x (some 1) none
 refine jN ?_
 have e1:cs (Txt.slice x (some 1) none)=[]:=List.eq_nil_of_length_eq_zero (by rw[<-len];omega)
 have e2:cs x=[]:=List.eq_nil_of_length_eq_zero (by rw[<-len];omega)
 rw[e1,e2]
theorem zF{c:Nat}(h:c∈cs SIG):∀m∈MK,(c∈cs ((L2.getS SGN m).getD ⟨#[]⟩)↔dA c=m):=by
 revert c
 decide +kernel
theorem zG(c:Nat):dA c∈MK:=by
 unfold dA
 split
 ·decide
 ·split
  ·decide
  ·split
   ·decide
   ·decide
theorem zCv{x:Str}(h:Sg x)(ms:List Str):((iR x).all λm=>decide (m∈ms))=((cs x).all λc=>decide (dA c∈ms)):=by
 rw[Bool.eq_iff_iff,List.all_eq_true,List.all_eq_true]
 constructor
 ·intro k c hc
  refine k (dA c) ?_
  rw[iR,List.mem_filter]
  refine⟨zG c,?_⟩
  rw[gP,List.any_eq_true]
  exact⟨c,hc,decide_eq_true ((zF (h c hc) _ (zG c)).mpr rfl)⟩
 ·intro k m hm
  rw[iR,List.mem_filter,gP,List.any_eq_true]at hm
  obtain⟨hm,c,hc,hd⟩:=hm
  rw[<-(zF (h c hc) m hm).mp (of_decide_eq_true hd)]
  exact k c hc
theorem sH:SIG.length=94:=by decide +kernel
theorem zCd:(cs SIG).Nodup:=by decide +kernel
theorem zBL(x:Str):(Txt.slice x (some 1) none).length+1<=(if x.length<1 then 1 else x.length):=by
 by_cases h:x.length=0
 ·rw[zBz h,if_pos (by omega)]
  omega
 ·rw[if_neg (by omega)]
  rw[PyProof.Rows.slice_from_eq (b:=(x.length:Int)) (by decide) (by omega) rfl]
  show(((cs x).drop 1).take _).toArray.size+1<=_
  rw[List.size_toArray,List.length_take,List.length_drop,<-len]
  omega
theorem nodup_len{α:Type}[DecidableEq α]:∀{l m:List α},l.Nodup->(∀x∈l,x∈m)->l.length<=m.length
 |[],m,_,_=>Nat.zero_le _
 |x::l,m,hn,hs=>by
  have hx:=hs x List.mem_cons_self
  have h2:=List.nodup_cons.mp hn
  have ih:=nodup_len (l:=l) (m:=m.erase x) h2.2 λy hy=>by
   have hne:y≠x:=λe=>h2.1 (e▸hy)
   exact(List.mem_erase_of_ne hne).mpr (hs y (List.mem_cons_of_mem _ hy))
  rw[List.length_erase_of_mem hx]at ih
  have:0<m.length:=List.length_pos_of_mem hx
  rw[List.length_cons]
  omega
def eO(a:Int):Nat:=(cs SIG).getD (a % 94).toNat 0
theorem zCe(a:Int):eO a∈cs SIG:=by
 have hl:(a % 94).toNat<(cs SIG).length:=by
  rw[<-len,sH]
  have:=Int.emod_lt_of_pos a (show(0:Int)<94 by decide)
  have:=Int.emod_nonneg a (show(94:Int)≠0 by decide)
  omega
 unfold eO
 rw[List.getD_eq_getElem?_getD,List.getElem?_eq_getElem hl]
 exact List.getElem_mem hl
theorem zCf{a b:Int}(h:eO a=eO b):a % 94=b % 94:=by
 have b1:=Int.emod_lt_of_pos a (show(0:Int)<94 by decide)
 have b2:=Int.emod_nonneg a (show(94:Int)≠0 by decide)
 have b3:=Int.emod_lt_of_pos b (show(0:Int)<94 by decide)
 have b4:=Int.emod_nonneg b (show(94:Int)≠0 by decide)
 have hl:(cs SIG).length=94:=by rw[<-len];exact sH
 unfold eO at h
 rw[List.getD_eq_getElem?_getD,List.getD_eq_getElem?_getD,List.getElem?_eq_getElem (by omega),List.getElem?_eq_getElem (by omega)]at h
 have h:(cs SIG)[(a % 94).toNat]=(cs SIG)[(b % 94).toNat]:=h
 have hp:=List.pairwise_iff_getElem.mp zCd
 rcases Nat.lt_trichotomy (a % 94).toNat (b % 94).toNat with z|z|z
 ·exact absurd h (hp _ _ (by omega) (by omega) z)
 ·omega
 ·exact absurd h.symm (hp _ _ (by omega) (by omega) z)
def eR(a:Int)(r:Str)(i:Nat):Str:=(⟨#[eO (a+i)]⟩:Str)++r
theorem zCZ{a:Int}{r:Str}{i j:Nat}(hi:i<90)(hj:j<90)(h:eR a r i=eR a r j):i=j:=by
 have h1:cs (eR a r i)=cs (eR a r j):=by rw[h]
 unfold eR at h1
 rw[app,app]at h1
 have h2:eO (a+i)=eO (a+j):=by
  have:=List.cons.inj h1
  exact this.1
 have:=zCf h2
 omega
theorem zC0{a:Int}{r:Str}{ss:List Str}{j:Nat}(hj:j<80)(h:∀i,1<=i->i<=j->eR a r i∈ss):j<=ss.length:=by
 have:=nodup_len (l:=(List.range j).map λi=>eR a r (i+1)) (m:=ss) (by
  unfold List.Nodup
  rw[List.pairwise_map]
  refine List.Pairwise.imp_of_mem (λ{x y} hx hy hlt e=>?_) List.pairwise_lt_range
  have hx:=List.mem_range.mp hx
  have hy:=List.mem_range.mp hy
  have:=zCZ (by omega) (by omega) e
  omega) (λx hx=>by
  obtain⟨i,hi,rfl⟩:=List.mem_map.mp hx
  have:=List.mem_range.mp hi
  exact h (i+1) (by omega) (by omega))
 simpa using this
end WordM
namespace L2
open PySem PySem.Spec PyProof.Rows WordM
section
variable{α β:Type}{F G:α->β->Prop}
theorem eV:∀{xs:List α}{ys:List β}{i:Nat}{x:α},Paired F xs ys->xs[i]?=some x->∃y,ys[i]?=some y/\F x y
 |_,_,_,_,.nil,e=>by simp at e
 |_,_,0,_,.cons r _,e=>by simp at e;subst e;exact⟨_,rfl,r⟩
 |_,_,i+1,x,.cons _ t,e=>by
  obtain⟨u,h1,h2⟩:=eV (i:=i) (x:=x) t (by simpa using e)
  exact⟨u,by simpa using h1,h2⟩
end
inductive Tv where
 |leaf (v:V)
 |seq (t:Bool) (xs:List Tv)
 |dct (kts:List (Str×Tv))
def VT(S:Bool->Addr->List V->Prop)(D:Addr->List (Key×V)->Prop):Nat->V->Tv->Prop
 |0,_,_=>False
 |d+1,x,T=>(cV x=true/\T=.leaf x)\/(∃t a xs Ts,x=.ref a/\S t a xs/\T=.seq t Ts/\Ts.length<=100000/\Paired (VT S D d) xs Ts) \/
   ∃a kvs kts,x=.ref a/\D a kvs/\T=.dct kts/\(kts.map (·.1)).Nodup/\kts.length<64/\Paired (λ(kv:Key×V) (kt:Str×Tv)=>kv.1=.inr kt.1/\VT S D d kv.2 kt.2) kvs kts
section
variable{S S':Bool->Addr->List V->Prop}{D D':Addr->List (Key×V)->Prop}
theorem VT.mono(hs:∀t a xs,S t a xs->S' t a xs)(hd:∀a kvs,D a kvs->D' a kvs):∀{d:Nat}{x:V}{T:Tv},VT S D d x T->VT S' D' d x T
 |0,_,_,h=>False.elim h
 |d+1,x,T,h=>by
  rcases h with h|⟨t,a,xs,Ts,h1,h2,h3,hz,h4⟩|⟨a,kvs,kts,h1,h2,h3,h4,h5,h6⟩
  ·exact .inl h
  ·exact .inr (.inl ⟨t,a,xs,Ts,h1,hs _ _ _ h2,h3,hz,Paired.mapP h4 λ_ _ q=>VT.mono hs hd q⟩)
  ·exact .inr (.inr ⟨a,kvs,kts,h1,hd _ _ h2,h3,h4,h5,Paired.mapP h6 λ_ _ q=>⟨q.1,VT.mono hs hd q.2⟩⟩)
theorem VT.more:∀{d:Nat}{x:V}{T:Tv},VT S D d x T->VT S D (d+1) x T
 |0,_,_,h=>False.elim h
 |d+1,x,T,h=>by
  rcases h with h|⟨t,a,xs,Ts,h1,h2,h3,hz,h4⟩|⟨a,kvs,kts,h1,h2,h3,h4,h5,h6⟩
  ·exact .inl h
  ·exact .inr (.inl ⟨t,a,xs,Ts,h1,h2,h3,hz,Paired.mapP h4 λ_ _ q=>VT.more q⟩)
  ·exact .inr (.inr ⟨a,kvs,kts,h1,h2,h3,h4,h5,Paired.mapP h6 λ_ _ q=>⟨q.1,VT.more q.2⟩⟩)
theorem VT.le{d e:Nat}(h:d<=e){x:V}{T:Tv}(q:VT S D d x T):VT S D e x T:=by
 obtain⟨k,rfl⟩:=Nat.le.dest h
 clear h
 induction k with
 |zero=>exact q
 |succ k ih=>exact VT.more ih
end
def HDct(H:Hp)(a:Addr)(kvs:List (Key×V)):Prop:=∃ob,FzD H a ob kvs
section
variable{K:W.Frag}{H H':Hp}{d:Nat}{x:V}{T:Tv}
theorem HDct.hs(e:HS H H'){a:Addr}{kvs:List (Key×V)}(h:HDct H a kvs):HDct H' a kvs:=by
 obtain⟨ob,h⟩:=h
 exact⟨ob,e _ _ rfl h⟩
end
theorem zBN:∀(p:Str) (l:List Str),risingS p l=true->∀x∈l,(cs x<cs p)->False:=by
 intro p l
 induction l generalizing p with
 |nil=>intro _ x hx;simp at hx
 |cons y l ih=>
  intro h x hx hlt
  have h:(!PySem.Spec.ltCps y.cps.toList p.cps.toList&&risingS y l)=true:=h
  rw[Bool.and_eq_true]at h
  have hy:¬ (cs y<cs p):=by
   have:=h.1
   rw[ltCps_eq]at this
   simpa using this
  rcases List.mem_cons.mp hx with z|z
  ·subst z;exact hy hlt
  ·have hxy:¬ (cs x<cs y):=λq=>ih y h.2 x z q
   have h1:cs p<=cs y:=List.not_lt.mp hy
   have h2:cs y<=cs x:=List.not_lt.mp hxy
   exact absurd hlt (List.not_lt.mpr (List.le_trans h1 h2))
theorem mJ:∀(l:List Str),sortedS l=true->l.Pairwise λa b=>cs a<=cs b
 |[],_=>.nil
 |x::l,h=>by
  have h:risingS x l=true:=h
  refine .cons (λy hy=>List.not_lt.mp λz=>zBN x l h y hy z) (mJ l ?_)
  cases l with
  |nil=>rfl
  |cons y l=>
   have h:(!PySem.Spec.ltCps y.cps.toList x.cps.toList&&risingS y l)=true:=h
   rw[Bool.and_eq_true]at h
   exact h.2
open Classical in
noncomputable def bZ(us:List Str):List Str:=if h:∃ss:List Str,ss.Perm us/\sortedS ss=true then h.choose else us
theorem gU(us:List Str):(bZ us).Perm us:=by
 unfold bZ
 split
 ·rename_i h;exact h.choose_spec.1
 ·exact .refl _
theorem kS{us ss:List Str}(h1:ss.Perm us)(h2:sortedS ss=true):ss=bZ us:=by
 have ex:∃ss:List Str,ss.Perm us/\sortedS ss=true:=⟨ss,h1,h2⟩
 have e:bZ us=ex.choose:=by unfold bZ;rw[dif_pos ex]
 rw[e]
 exact List.Perm.eq_of_pairwise (λa b _ _ h1 h2=>jN (List.le_antisymm h1 h2)) (mJ _ h2) (mJ _ ex.choose_spec.2) (h1.trans ex.choose_spec.1.symm)
def hX(kts:List (Str×Tv))(k:Str):Option Tv:=(kts.find? λkt=>decide (kt.1=k)).map (·.2)
section
variable{S:Bool->Addr->List V->Prop}{D:Addr->List (Key×V)->Prop}{d:Nat}
theorem sX{kvs:List (Key×V)}{kts:List (Str×Tv)}{R:V->Tv->Prop}(h:Paired (λ(kv:Key×V) (kt:Str×Tv)=>kv.1=.inr kt.1/\R kv.2 kt.2) kvs kts)(k:Str):
  (hX kts k=none/\eQ kvs (.inr k)=none)\/∃U v,hX kts k=some U/\eQ kvs (.inr k)=some v/\R v U:=by
 induction h with
 |nil=>exact .inl ⟨rfl,rfl⟩
 |@cons kv kt l1 l2 h _ ih=>
  obtain⟨e,r⟩:=h
  by_cases z:kt.1=k
  ·refine .inr ⟨kt.2,kv.2,?_,rB (by rw[e,z]),r⟩
   unfold hX
   rw[List.find?_cons,decide_eq_true z]
   rfl
  ·have e2:hX (kt::l2) k=hX l2 k:=by
    unfold hX
    rw[List.find?_cons,decide_eq_false z]
   have e3:eQ (kv::l1) (.inr k)=eQ l1 (.inr k):=rC (by rw[e];exact λq=>z (Sum.inr.inj q))
   rw[e2,e3]
   exact ih
end
theorem SqT.hs{K:W.Frag}{H H':Hp}{a:Addr}{xs:List V}(e:HS H H')(h:SqT K H a xs):SqT K H' a xs:=by
 rcases h with (h|⟨o,h⟩)|h
 ·exact .inl (.inl (e _ _ rfl h))
 ·exact .inl (.inr ⟨o,e _ _ rfl h⟩)
 ·exact .inr h
theorem kN{α β:Type}{F:α->β->Prop}{a c:List α}{b d:List β}(h1:Paired F a b)(h2:Paired F c d):Paired F (a++c) (b++d):=by
 induction h1 with
 |nil=>exact h2
 |cons r _ ih=>exact .cons r ih
end L2
namespace L2
open PySem PySem.Spec PyProof.Rows
abbrev mE:Hp:=λ_=>none
def Thaw(H H3 H4:Hp):Prop:=∀b,(∃o ob,fzb o=true/\H b=some o/\H3 b=some (.frz ob o)/\H4 b=some o)\/((¬ ∃o ob,fzb o=true/\H b=some o/\H3 b=some (.frz ob o))/\H4 b=H3 b)
theorem yQ(H H3:Hp):∃H4,Thaw H H3 H4:=by
 classical
 refine⟨λb=>if h:∃o ob,fzb o=true/\H b=some o/\H3 b=some (.frz ob o) then some h.choose else H3 b,λb=>?_⟩
 by_cases h:∃o ob,fzb o=true/\H b=some o/\H3 b=some (.frz ob o)
 ·obtain⟨ob,h1,h2,h3⟩:=h.choose_spec
  exact .inl ⟨h.choose,ob,h1,h2,h3,by dsimp only;rw[dif_pos h]⟩
 ·exact .inr ⟨h,by dsimp only;rw[dif_neg h]⟩
theorem xD{P:Program}{w:World}{H:Hp}{h:Heap}(hok:HOk P w H h):∃H2,FrozenA mE H H2/\HOk P w H2 h:=by
 let H2:Hp:=λb=>match H b with
  |none=>none
  |some o=>match fzb o with
   |false=>some o
   |true=>match h.get? b with
    |some ob=>some (.frz ob o)
    |none=>some o
 have new:∀b o ob,H b=some o->fzb o=true->h.get? b=some ob->H2 b=some (.frz ob o):=λb o ob h1 n e=>by
  show(match H b with|none=>none|some o=>_)=_
  rw[h1]
  dsimp only
  rw[n,e]
 have rest:∀b,(∀o,H b=some o->fzb o=false)->H2 b=H b:=λb hn=>by
  show(match H b with|none=>none|some o=>_)=_
  cases e:H b with
  |none=>rfl
  |some o=>
   dsimp only
   rw[hn o e]
 have fro:FrozenA mE H H2:=λb=>by
  cases h1:H b with
  |none=>exact .inr ⟨(λ⟨_,_,_,z⟩=>by cases z),by rw[rest b (λo z=>by rw[h1]at z;cases z),h1]⟩
  |some o=>
   cases n:fzb o with
   |true=>
    obtain⟨ob,e⟩:=(hok b o h1).there
    exact .inl ⟨rfl,o,ob,n,rfl,new b o ob h1 n e⟩
   |false=>exact .inr ⟨(λ⟨_,o',n',z⟩=>by cases z;rw[n]at n';exact absurd n' Bool.false_ne_true),by rw[rest b (λo' z=>by rw[h1]at z;cases z;exact n),h1]⟩
 refine⟨H2,fro,λb o e=>?_⟩
 have st:∀o,ObjOk P w H h b o->ObjOk P w H2 h b o:=λo x=>x.stay (λ_ _ _ r=>r) (λd r=>fro.keep r rfl) λd xs r=>fro.keep r rfl
 rcases fro b with⟨hn,o',ob,n,z,z'⟩|⟨_,z'⟩
 ·obtain⟨ob2,e2⟩:=(hok b o' z).there
  have q2:=new b o' ob2 z n e2
  rw[e]at q2
  cases q2
  exact⟨e2,st _ (hok b _ z)⟩
 ·rw[z']at e
  exact st o (hok b o e)
section
variable{H H2 H3 H4:Hp}{b:Addr}{o:HO}
theorem Thaw.same(f:FrozenA mE H H2)(s:Same H2 H3)(t:Thaw H H3 H4):Same H H4:=λb o e=>by
 cases n:fzb o with
 |true=>
  obtain⟨ob,e2⟩:=f.fz (b:=b) rfl e n
  have e3:=s b _ e2
  rcases t b with⟨u,ob',_,z,_,z'⟩|⟨z,_⟩
  ·rw[e]at z;cases z;exact z'
  ·exact absurd ⟨o,ob,n,e,e3⟩ z
 |false=>
  have e3:=s b _ (f.keep e n)
  rcases t b with⟨u,ob',n',z,_⟩|⟨_,z⟩
  ·rw[e]at z;cases z;rw[n]at n';exact absurd n' Bool.false_ne_true
  ·rw[z];exact e3
end
end L2
namespace L2
open PySem PySem.Spec PyProof.Rows
def ItE(K:W.Frag)(a:Addr):It:=
  ⟨λi H=>∃xs x,SqL K H a xs/\xs[i]?=some x,
   λi H v H'=>∃p x,v=.ref p/\H p=none/\H'=upd H p (.tup [.int (i:Int),x])/\∀xs,SqL K H a xs->xs[i]?=some x,
   λi H=>∃xs,SqL K H a xs/\xs.length<=i⟩
theorem zB9{P:Program}{w:World}{K:W.Frag}{es:List Expr}{ek:Nat}{pos:Pos}(a e it:Addr)(hei:e≠it)(hae:a≠e)(hai:a≠it):
  fZ P w K (.Tuple es ek pos) (ItE K a) [e,it] e (λi h=>(∃old,IsEnum h e it (i:Int) old)/\h.IsListIter it a i) where
 mem:=by simp
 obj:=λi h st b hb=>by
  obtain⟨⟨old,st⟩,j⟩:=st
  rcases List.mem_cons.mp hb with rfl|hb
  ·exact⟨_,st,λv z=>by
    have z':Data.fields _=Data.cell v:=z
    cases z'⟩
  ·have q:b=it:=by simpa using hb
   subst q
   obtain⟨o,e',c,d⟩:=j
   exact⟨o,e',λv z=>by rw[d]at z;cases z⟩
 keep:=λi h h' ⟨⟨old,st⟩,j⟩ k=>⟨⟨old,k e (by simp) _ st⟩,j.at λo e'=>k it (by simp) o e'⟩
 item:=by
  intro X hP hw hK hc i pins s σ H E I hf st hg
  subst hP hw hK
  obtain⟨xs,x,hx,hi⟩:=hg
  obtain⟨⟨old,st⟩,j⟩:=st
  obtain⟨its,r,pl,hz⟩:=I.list hx
  obtain⟨u,hu,ru⟩:=r.get hi
  refine wpAny_pyNext_enum_item st j pl.isList (x:=u) (by simpa using hu) hei λh' a1 a2 a3 a4 a5=>⟨_,rfl,?_⟩
  refine wpAny_letOwnedTupleGo_enum (s:={s with heap:=h',toks:=s.toks+1}) a1 λh2 b1 b2=>?_
  have hne:e≠s.heap.objs.size:=Nat.ne_of_lt (Heap.lt_size st)
  have hni:it≠s.heap.objs.size:=by obtain⟨o,e',_⟩:=id j;exact Nat.ne_of_lt (Heap.lt_size e')
  have hn:∀c∈[e,it],c≠s.heap.objs.size:=λc hc'=>by
   simp only[List.mem_cons,List.not_mem_nil,or_false]at hc'
   rcases hc' with q|q
   ·rw[q];exact hne
   ·rw[q];exact hni
  have I0:Inv X pins σ (upd H s.heap.objs.size (.tup [.int (i:Int),x])) {s with heap:=s.heap.push {cls:=.type "tuple",data:=.seq #[.int (i:Int) s.toks,u]}}:=
   I.laid (t':=s.toks) (λc o e=>Heap.get?_push_of_some _ e) (Nat.le_refl _) ⟨by show 2<=sizeLine;decide,[.int (i:Int) s.toks,u],.cons ⟨_,rfl⟩ (.cons ru .nil),IsTup.new _ _⟩
  have hf0:∀c∈[e,it],dB X pins (upd H s.heap.objs.size (.tup [.int (i:Int),x])) c:=λc hc'=>⟨by rw[bG (hn c hc')];exact(hf c hc').1,(hf c hc').2⟩
  have I1:Inv X pins σ (upd H s.heap.objs.size (.tup [.int (i:Int),x])) {s with heap:=h2,toks:=s.toks+1}:=Inv.turnedL (s:={s with heap:=s.heap.push {cls:=.type "tuple",data:=.seq #[.int (i:Int) s.toks,u]}}) (t':=s.toks+1) (ch:=[e,it]) I0 hf0 λc o hc' e'=>by
   simp only[List.mem_cons,List.not_mem_nil,or_false,not_or]at hc'
   obtain⟨c1,c2⟩:=hc'
   by_cases hcn:c=s.heap.objs.size
   ·subst hcn
    have e'':(s.heap.push {cls:=.type "tuple",data:=.seq #[.int (i:Int) s.toks,u]}).get? s.heap.objs.size=some o:=e'
    rw[Heap.get?_push_size _ rfl]at e''
    cases e''
    exact b2.extBut _ _ c1 a3
   ·refine b2.extBut _ _ c1 (a5 c o c1 c2 ?_)
    have e'':(s.heap.push {cls:=.type "tuple",data:=.seq #[.int (i:Int) s.toks,u]}).get? c=some o:=e'
    rw[Heap.get?_push_ne _ _ _ hcn]at e''
    exact e''
  refine⟨.ref s.heap.objs.size,_,I1,rfl,⟨_,x,rfl,I.hok.fresh (Nat.le_refl _),rfl,λxs' h=>by rw[I.list_inj h hx];exact hi⟩,⟨⟨u,by have:=b1;push_cast;exact this⟩,a2.at λo e'=>b2.extBut _ _ (Ne.symm hei) e'⟩,λc hc'=>(hf0 c hc').1⟩
 done:=by
  intro X hP hw hK hc i pins s σ H E I hf st hg
  subst hP hw hK
  obtain⟨xs,hx,hi⟩:=hg
  obtain⟨⟨old,st⟩,j⟩:=st
  obtain⟨its,r,pl,hz⟩:=I.list hx
  have la:=r.length
  refine wpAny_pyNext_enum_end (I.ok.hd hc) st j pl.isList (by simp;omega) λh' eb=>⟨rfl,I.turnedL (t':=s.toks) hf λc o hc' e'=>?_⟩
  simp only[List.mem_cons,List.not_mem_nil,or_false,not_or]at hc'
  exact eb c o hc'.2 e'
 self:=λ_ _ _ _ _ ⟨⟨_,st⟩,_⟩ h=>wpAny_pyIter_enum st h
theorem zBf:bootBuiltins "enumerate"=some (.type "enumerate"):=by decide +kernel
section
variable{X:Cx}
def zGr(K:W.Frag)(ta:TA):TI:=λσ H R=>ta σ H λvs H1=>∃a:Addr,vs=[.ref a]/\(∃xs,SqL K H1 a xs)/\R (ItE K a) H1
theorem zD0{a:Expr}{ta:TA}{es:List Expr}{ek:Nat}{p pos pos':Pos}(hg:Gl X "enumerate")(hm:X.mg "enumerate"=none)(ha:PA X [a] ta)(hs:starEach [a] X.env=[(false,eval a X.env)]:=by rfl):
  PI X (.Tuple es ek pos') (.Call (.Name "enumerate" p) [a] [] pos) (zGr X.K ta):=by
 intro pins s σ H R I h
 refine Call_ (lD I hg hm zBf (PyProof.Rows.callWith_type1 (thn (ha pos pins s σ H _ I h) λus s1 ⟨vs,H1,I1,r1,q1⟩=>?_) (by rw[hs];rfl) (by rfl)))
 obtain⟨a,e,⟨xs,hx⟩,q⟩:=q1
 subst e
 obtain⟨u,rfl,rx⟩:=cY r1
 cases rx
 obtain⟨its,r,pl,hz⟩:=I1.list hx
 have la:a<s1.heap.objs.size:=by obtain⟨o,e,_⟩:=pl.isList;exact Heap.lt_size e
 refine call_enumerate_list pl.isList λh' e1 e2 _ k=>?_
 refine wpAny_pyIter_enum e1 ?_
 refine⟨_,[s1.heap.objs.size+1,s1.heap.objs.size],_,_,H1,rfl,I1.kept (t':=s1.toks) k,zB9 a _ _ (by intro (e:(_:Nat)=_);omega) (Nat.ne_of_lt (Nat.lt_succ_of_lt la)) (Nat.ne_of_lt la),⟨⟨_,e1⟩,e2⟩,λc hc=>?_,q⟩
 have:s1.heap.objs.size<=c:=by
  simp only[List.mem_cons,List.not_mem_nil,or_false]at hc
  rcases hc with e|e<;>(rw[e];first|exact Nat.le_refl _|exact Nat.le_add_right _ _)
 exact I1.fpOk this (I1.hok.fresh this)
end
end L2
namespace L2
open PySem PySem.Spec PyProof.Rows WordM
def PSeq(K:W.Frag)(H:Hp)(t:Bool)(a:Addr)(xs:List V):Prop:=match t with
 |false=>∃ob,H a=some (.frz ob (.lst xs))
 |true=>SqT K H a xs
abbrev VP(K:W.Frag)(H:Hp):Nat->V->Tv->Prop:=VT (PSeq K H) (HDct H)
def VA(K:W.Frag)(H:Hp)(x:V)(T:Tv):Prop:=∃d,VP K H d x T
abbrev VAs(K:W.Frag)(H:Hp):List V->List Tv->Prop:=Paired (VA K H)
def VAk(K:W.Frag)(H:Hp):List (Key×V)->List (Str×Tv)->Prop:=Paired λ(kv:Key×V) (kt:Str×Tv)=>kv.1=.inr kt.1/\VA K H kv.2 kt.2
section
variable{K:W.Frag}{H H' H1 H2:Hp}{x y v:V}{T U:Tv}{a:Addr}{xs:List V}{Ts:List Tv}{t:Bool}{kvs:List (Key×V)}{kts:List (Str×Tv)}
theorem PSeq.hs(e:HS H H')(h:PSeq K H t a xs):PSeq K H' t a xs:=by
 cases t with
 |false=>obtain⟨ob,h⟩:=h;exact⟨ob,e _ _ rfl h⟩
 |true=>exact SqT.hs e h
theorem VA.hs(e:HS H H')(h:VA K H x T):VA K H' x T:=by
 obtain⟨d,h⟩:=h
 exact⟨d,h.mono (λ_ _ _ q=>q.hs e) λ_ _ q=>q.hs e⟩
theorem VAs.hs(e:HS H H')(h:VAs K H xs Ts):VAs K H' xs Ts:=Paired.mapP h λ_ _ q=>q.hs e
theorem VAk.hs(e:HS H H')(h:VAk K H kvs kts):VAk K H' kvs kts:=Paired.mapP h λ_ _ q=>⟨q.1,q.2.hs e⟩
theorem VAs.deep(h:VAs K H xs Ts):∃d,Paired (VP K H d) xs Ts:=by
 induction h with
 |nil=>exact⟨0,.nil⟩
 |cons r _ ih=>
  obtain⟨d,r⟩:=r
  obtain⟨e,ih⟩:=ih
  exact⟨max d e,.cons (r.le (Nat.le_max_left _ _)) (Paired.mapP ih λ_ _ q=>VT.le (Nat.le_max_right _ _) q)⟩
theorem VAk.deep(h:VAk K H kvs kts):∃d,Paired (λ(kv:Key×V) (kt:Str×Tv)=>kv.1=.inr kt.1/\VP K H d kv.2 kt.2) kvs kts:=by
 unfold VAk at h
 induction h with
 |nil=>exact⟨0,.nil⟩
 |cons r _ ih=>
  obtain⟨k,d,r⟩:=r
  obtain⟨e,ih⟩:=ih
  exact⟨max d e,.cons ⟨k,r.le (Nat.le_max_left _ _)⟩ (Paired.mapP ih λ_ _ q=>⟨q.1,VT.le (Nat.le_max_right _ _) q.2⟩)⟩
theorem VA.flat(h:cV x=true):VA K H x (.leaf x):=⟨1,.inl ⟨h,rfl⟩⟩
theorem VA.seq(h:PSeq K H t a xs)(z:Ts.length<=100000)(p:VAs K H xs Ts):VA K H (.ref a) (.seq t Ts):=by
 obtain⟨d,p⟩:=p.deep
 exact⟨d+1,.inr (.inl ⟨t,a,xs,Ts,rfl,h,rfl,z,p⟩)⟩
theorem VA.dct(h:HDct H a kvs)(n:(kts.map (·.1)).Nodup)(z:kts.length<64)(p:VAk K H kvs kts):VA K H (.ref a) (.dct kts):=by
 obtain⟨d,p⟩:=p.deep
 exact⟨d+1,.inr (.inr ⟨a,kvs,kts,rfl,h,rfl,n,z,p⟩)⟩
theorem VA.leafI(h:VA K H x (.leaf v)):x=v/\cV v=true:=by
 obtain⟨d,h⟩:=h
 cases d with
 |zero=>exact False.elim h
 |succ d=>
  rcases h with⟨f,e⟩|⟨_,_,_,_,_,_,e,_⟩|⟨_,_,_,_,_,e,_⟩
  ·cases e;exact⟨rfl,f⟩
  ·cases e
  ·cases e
theorem VA.seqI(h:VA K H x (.seq t Ts)):∃a xs,x=.ref a/\PSeq K H t a xs/\Ts.length<=100000/\VAs K H xs Ts:=by
 obtain⟨d,h⟩:=h
 cases d with
 |zero=>exact False.elim h
 |succ d=>
  rcases h with⟨_,e⟩|⟨t',a,xs,Ts',e1,hs,e,z,p⟩|⟨_,_,_,_,_,e,_⟩
  ·cases e
  ·cases e;exact⟨a,xs,e1,hs,z,Paired.mapP p λ_ _ q=>⟨d,q⟩⟩
  ·cases e
theorem VA.dctI(h:VA K H x (.dct kts)):∃a kvs,x=.ref a/\HDct H a kvs/\(kts.map (·.1)).Nodup/\kts.length<64/\VAk K H kvs kts:=by
 obtain⟨d,h⟩:=h
 cases d with
 |zero=>exact False.elim h
 |succ d=>
  rcases h with⟨_,e⟩|⟨_,_,_,_,_,_,e,_⟩|⟨a,kvs,kts',e1,hd,e,n,z,p⟩
  ·cases e
  ·cases e
  ·cases e;exact⟨a,kvs,e1,hd,n,z,Paired.mapP p λ_ _ q=>⟨q.1,d,q.2⟩⟩
end
inductive Sl where
 |no
 |va (T:Tv)
 |own (xs:List Tv)
 |dct (kts:List (Str×Tv))
 |dk
abbrev aT:=List Sl
def dL:Sl->Bool
 |.own _=>true
 |.dct _=>true
 |_=>false
structure Fm where
 H0:Hp
 dk:Option (Addr×Addr)
structure Kp (dk:Option (Addr×Addr)) (H H':Hp):Prop where
 st:∀b o,H b=some o->(∀p c,dk=some (p,c)->b≠p/\b≠c)->H' b=some o
 dkk:∀p c,dk=some (p,c)->DeckAt H' p c
theorem Kp.tr{dk:Option (Addr×Addr)}{H H':Hp}(k:Kp dk H H')(b:Addr)(o:HO)(e:H b=some o):∃o',H' b=some o':=by
 cases d:dk with
 |none=>exact⟨o,k.st b o e λp c z=>by rw[d]at z;cases z⟩
 |some pc=>
  obtain⟨p,c⟩:=pc
  obtain⟨_,⟨S,i,e1⟩,ns,e2,_⟩:=k.dkk p c d
  by_cases h1:b=p
  ·subst h1;exact⟨_,e1⟩
  ·by_cases h2:b=c
   ·subst h2;exact⟨_,e2⟩
   ·exact⟨o,k.st b o e λp' c' z=>by rw[d]at z;cases z;exact⟨h1,h2⟩⟩
def vO(K:W.Frag)(F:Fm)(H:Hp)(ox:Option V):Sl->Prop
 |.no=>True
 |.va T=>∃x,ox=some x/\VA K H x T
 |.own Ts=>∃a xs,ox=some (.ref a)/\H a=some (.lst xs)/\F.H0 a=none/\Ts.length<=100000/\VAs K H xs Ts
 |.dct kts=>∃a kvs,ox=some (.ref a)/\H a=some (.dK kvs)/\F.H0 a=none/\(kts.map (·.1)).Nodup/\kts.length<64/\VAk K H kvs kts
 |.dk=>∃p c,F.dk=some (p,c)/\ox=some (.ref p)
def ixv(σ:St)(i:Nat):Option V:=(σ[i]?).join
structure FrOk (K:W.Frag) (F:Fm) (ρ:aT) (σ:St) (H:Hp):Prop where
 d0:∀p c,F.dk=some (p,c)->DeckAt F.H0 p c
 kp:Kp F.dk F.H0 H
 len:ρ.length=σ.length
 at_:∀(i:Nat) (s:Sl),ρ[i]?=some s->vO K F H (ixv σ i) s
 ap:∀(i j:Nat) (a:Addr) (s t:Sl),ρ[i]?=some s->ρ[j]?=some t->dL s=true->dL t=true->ixv σ i=some (.ref a)->ixv σ j=some (.ref a)->i=j
def Stay(F:Fm)(ρ:aT)(σ:St)(H H':Hp):Prop:=∀b o,H b=some o->(∀p c,F.dk=some (p,c)->b≠p/\b≠c)->(∀(i:Nat) (s:Sl),ρ[i]?=some s->dL s=true->ixv σ i≠some (.ref b))->H' b=some o
def Sbv(ρ' ρ:aT):Prop:=∀(i:Nat) (s':Sl),ρ'[i]?=some s'->dL s'=true->∃s,ρ[i]?=some s/\dL s=true
structure Stp (K:W.Frag) (F:Fm) (σ:St) (ρ:aT) (H:Hp) (ρ':aT) (H':Hp):Prop where
 fr:FrOk K F ρ' σ H'
 st:Stay F ρ σ H H'
 sub:Sbv ρ' ρ
 tr:∀b o,H b=some o->∃o',H' b=some o'
section
variable{K:W.Frag}{F:Fm}{ρ ρ1 ρ2:aT}{σ:St}{H H' H1 H2:Hp}{x y v:V}{T U:Tv}{a b:Addr}{o:HO}
theorem Sbv.refl(ρ:aT):Sbv ρ ρ:=λi s e m=>⟨s,e,m⟩
theorem Sbv.trans(h1:Sbv ρ1 ρ)(h2:Sbv ρ2 ρ1):Sbv ρ2 ρ:=λi s e m=>by
 obtain⟨s1,e1,m1⟩:=h2 i s e m
 exact h1 i s1 e1 m1
theorem FrOk.own_at(fr:FrOk K F ρ σ H){i:Nat}{s:Sl}(e:ρ[i]?=some s)(m:dL s=true)(q:ixv σ i=some (.ref a)):(∃o,H a=some o/\fzb o=true)/\F.H0 a=none:=by
 have h:=fr.at_ i s e
 cases s with
 |own Ts=>obtain⟨a',xs,e1,e2,e3,_⟩:=h;rw[q]at e1;cases e1;exact⟨⟨_,e2,rfl⟩,e3⟩
 |dct kts=>obtain⟨a',xs,e1,e2,e3,_⟩:=h;rw[q]at e1;cases e1;exact⟨⟨_,e2,rfl⟩,e3⟩
 |no=>cases m
 |va _=>cases m
 |dk=>cases m
theorem FrOk.fresh_nodk(fr:FrOk K F ρ σ H)(h:F.H0 a=none):∀p c,F.dk=some (p,c)->a≠p/\a≠c:=λp c e=>by
 obtain⟨_,⟨S,k,e1⟩,ns,e2,_⟩:=fr.d0 p c e
 exact⟨λz=>(by rw[z,e1]at h;cases h),λz=>(by rw[z,e2]at h;cases h)⟩
theorem FrOk.none_nodk(fr:FrOk K F ρ σ H)(h:H a=none):∀p c,F.dk=some (p,c)->a≠p/\a≠c:=λp c e=>by
 obtain⟨_,⟨S,k,e1⟩,ns,e2,_⟩:=fr.kp.dkk p c e
 exact⟨λz=>(by rw[z,e1]at h;cases h),λz=>(by rw[z,e2]at h;cases h)⟩
theorem FrOk.none0(fr:FrOk K F ρ σ H)(h:H a=none):F.H0 a=none:=by
 cases q:F.H0 a with
 |none=>rfl
 |some o=>rw[fr.kp.st a o q (fr.none_nodk h)]at h;cases h
theorem Stay.hs(fr:FrOk K F ρ σ H)(s:Stay F ρ σ H H'):HS H H':=λb o h e=>s b o e
 (λp c d=>by
  obtain⟨_,⟨S,k,e1⟩,ns,e2,_⟩:=fr.kp.dkk p c d
  exact⟨λz=>(by subst z;rw[e1]at e;cases e;cases h),λz=>(by subst z;rw[e2]at e;cases e;cases h)⟩)
 λi s e1 m q=>by
  obtain⟨⟨o',e2,n⟩,_⟩:=fr.own_at e1 m q
  rw[e]at e2;cases e2
  cases o<;>first|exact absurd h Bool.false_ne_true|exact absurd n Bool.false_ne_true
theorem Stay.trans(s1:Stay F ρ σ H H1)(sb:Sbv ρ1 ρ)(s2:Stay F ρ1 σ H1 H2):Stay F ρ σ H H2:=λb o e d n=>
 s2 b o (s1 b o e d n) d λi s e1 m=>by
  obtain⟨s',e2,m'⟩:=sb i s e1 m
  exact n i s' e2 m'
theorem Stp.trans(a:Stp K F σ ρ H ρ1 H1)(b:Stp K F σ ρ1 H1 ρ2 H2):Stp K F σ ρ H ρ2 H2:=⟨b.fr,a.st.trans a.sub b.st,a.sub.trans b.sub,λc o e=>let ⟨o1,e1⟩:=a.tr c o e;b.tr c o1 e1⟩
theorem Stp.refl(fr:FrOk K F ρ σ H):Stp K F σ ρ H ρ H:=⟨fr,λ_ _ e _ _=>e,Sbv.refl _,λ_ o e=>⟨o,e⟩⟩
theorem Stp.hs(a:Stp K F σ ρ H ρ1 H1)(fr:FrOk K F ρ σ H):HS H H1:=a.st.hs fr
theorem FrOk.call(fr:FrOk K F ρ σ H)(k:Kp F.dk H H'):FrOk K F ρ σ H':=by
 have own:∀i s a o,ρ[i]?=some s->dL s=true->ixv σ i=some (.ref a)->H a=some o->H' a=some o:=λi s a o e m q h=>
  k.st a o h (fr.fresh_nodk (fr.own_at e m q).2)
 have hs:HS H H':=λb o h e=>k.st b o e λp c d=>by
  obtain⟨_,⟨S,k,e1⟩,ns,e2,_⟩:=fr.kp.dkk p c d
  exact⟨λz=>(by subst z;rw[e1]at e;cases e;cases h),λz=>(by subst z;rw[e2]at e;cases e;cases h)⟩
 refine⟨fr.d0,⟨λb o e n=>k.st b o (fr.kp.st b o e n) n,k.dkk⟩,fr.len,λi s e=>?_,fr.ap⟩
 have h:=fr.at_ i s e
 cases s with
 |no=>trivial
 |va T=>obtain⟨x,e1,v⟩:=h;exact⟨x,e1,v.hs hs⟩
 |own Ts=>obtain⟨a,xs,e1,e2,e3,z,p⟩:=h;exact⟨a,xs,e1,own i _ a _ e rfl e1 e2,e3,z,p.hs hs⟩
 |dct kts=>obtain⟨a,kvs,e1,e2,e3,n,z,p⟩:=h;exact⟨a,kvs,e1,own i _ a _ e rfl e1 e2,e3,n,z,p.hs hs⟩
 |dk=>exact h
theorem Kp.of_same(fr:FrOk K F ρ σ H)(s:Same H H'):Kp F.dk H H':=⟨λb o e _=>s b o e,λp c d=>by
 obtain⟨ne,⟨S,k,e1⟩,ns,e2,l⟩:=fr.kp.dkk p c d
 exact⟨ne,⟨S,k,s _ _ e1⟩,ns,s _ _ e2,l⟩⟩
theorem Stp.call(fr:FrOk K F ρ σ H)(k:Kp F.dk H H'):Stp K F σ ρ H ρ H':=⟨fr.call k,λb o e d _=>k.st b o e d,Sbv.refl _,λb o e=>k.tr b o e⟩
theorem Stp.same(fr:FrOk K F ρ σ H)(s:Same H H'):Stp K F σ ρ H ρ H':=Stp.call fr (Kp.of_same fr s)
end
theorem Stp.non{K:W.Frag}{F:Fm}{ρ ρ1:aT}{σ:St}{H H1:Hp}{a:Addr}(s:Stp K F σ ρ H ρ1 H1)(n:H1 a=none):H a=none:=by
 cases e:H a with
 |none=>rfl
 |some o=>
  obtain⟨o',e'⟩:=s.tr a o e
  rw[n]at e';cases e'
abbrev UT:=aT->(Tv->aT->Prop)->Prop
abbrev UTt:=aT->(Bool->aT->Prop)->Prop
abbrev UTl:=aT->(List Tv->aT->Prop)->Prop
inductive Ar where
 |va (T:Tv)
 |dk
abbrev UTa:=aT->(List Ar->aT->Prop)->Prop
def mG(K:W.Frag)(dk:Option (Addr×Addr))(H:Hp)(x:V):Ar->Prop
 |.va T=>VA K H x T
 |.dk=>∃p c,dk=some (p,c)/\x=.ref p
def dY(K:W.Frag)(F:Fm)(u:UT):TE:=λσ H QQ=>∃ρ Q,FrOk K F ρ σ H/\u ρ Q/\∀x T H' ρ',Stp K F σ ρ H ρ' H'->VA K H' x T->Q T ρ'->QQ x H'
def oP(K:W.Frag)(F:Fm)(u:UTt):TT:=λσ H QQ=>∃ρ Q,FrOk K F ρ σ H/\u ρ Q/\∀b H' ρ',Stp K F σ ρ H ρ' H'->Q b ρ'->QQ b H'
def lQ(K:W.Frag)(F:Fm)(u:UTl):TE:=λσ H QQ=>∃ρ Q,FrOk K F ρ σ H/\u ρ Q/\∀a xs Ts H' ρ',Stp K F σ ρ H ρ' H'->H a=none->H' a=some (.lst xs)->Ts.length<=100000->VAs K H' xs Ts->Q Ts ρ'->QQ (.ref a) H'
def lR(K:W.Frag)(F:Fm)(u:UTa):TA:=λσ H QQ=>∃ρ Q,FrOk K F ρ σ H/\u ρ Q/\∀xs as H' ρ',Stp K F σ ρ H ρ' H'->Paired (mG K F.dk H') xs as->Q as ρ'->QQ xs H'
structure UE (X:Cx) (F:Fm) (e:Expr) (u:UT):Prop where
 pe:PE X e (dY X.K F u)
structure UB (X:Cx) (F:Fm) (e:Expr) (u:UTt):Prop where
 pt:PT X e (oP X.K F u)
structure UW (X:Cx) (F:Fm) (e:Expr) (u:UTt):Prop where
 pw:PW X e (oP X.K F u)
structure UL (X:Cx) (F:Fm) (e:Expr) (u:UTl):Prop where
 pe:PE X e (lQ X.K F u)
structure UA (X:Cx) (F:Fm) (es:List Expr) (u:UTa):Prop where
 pa:PA X es (lR X.K F u)
theorem PE.imp{X:Cx}{e:Expr}{t t':TE}(h:PE X e t)(i:∀σ H Q,t' σ H Q->t σ H Q):PE X e t':=λpins s σ H Q I q=>h pins s σ H Q I (i σ H Q q)
theorem PT.imp{X:Cx}{e:Expr}{t t':TT}(h:PT X e t)(i:∀σ H Q,t' σ H Q->t σ H Q):PT X e t':=λpins s σ H Q I q=>h pins s σ H Q I (i σ H Q q)
theorem PW.imp{X:Cx}{e:Expr}{t t':TT}(h:PW X e t)(i:∀σ H Q,t' σ H Q->t σ H Q):PW X e t':=λwh pins s σ H Q I q=>h wh pins s σ H Q I (i σ H Q q)
theorem PA.imp{X:Cx}{es:List Expr}{t t':TA}(h:PA X es t)(i:∀σ H Q,t' σ H Q->t σ H Q):PA X es t':=λpos pins s σ H Q I q=>h pos pins s σ H Q I (i σ H Q q)
theorem Inv.fz{X:Cx}{pins:List (Addr×Obj)}{σ:St}{H:Hp}{s:Shared}{a:Addr}{o:HO}(I:Inv X pins σ H s)(h:H a=some o)(n:fzb o=true):∃ob,Inv X pins σ (upd H a (.frz ob o)) s:=by
 obtain⟨ob,eo⟩:=(I.hok a o h).there
 refine⟨ob,?_⟩
 have keep:∀b u,H b=some u->fzb u=false->upd H a (.frz ob o) b=some u:=λb u e m=>by
  rw[bG (λz=>by subst z;rw[h]at e;cases e;rw[n]at m;cases m)];exact e
 have non:∀b,H b=none->upd H a (.frz ob o) b=none:=λb e=>by
  rw[bG (λz=>by subst z;rw[h]at e;cases e)];exact e
 refine⟨I.ok,I.os,I.bare,⟨I.base.keep,I.base.slot,λb o e n hx=>non b (I.base.free b o e n hx),I.base.there,λb xs e=>keep b _ (I.base.tups b xs e) rfl,λb o u e=>keep b _ (I.base.frzs b o u e) rfl,λb ps e=>?_⟩,I.loc,I.cell,non _ I.free,λx c e=>non c (I.freeC x c e),λp hp=>?_,λb u e=>?_,I.len⟩
 ·obtain⟨more,z⟩:=I.base.tbls b ps e
  exact⟨more,keep b _ z rfl⟩
 ·obtain⟨p1,p2,p3⟩:=I.pin p hp
  exact⟨p1,non _ p2,p3⟩
 ·have st:∀b u,ObjOk X.prog X.w H s.heap b u->ObjOk X.prog X.w (upd H a (.frz ob o)) s.heap b u:=λb u x=>x.stay (λ_ _ _ r=>r) (λd r=>keep d _ r rfl) λd xs r=>keep d _ r rfl
  by_cases z:b=a
  ·subst z
   rw[bE]at e
   cases e
   exact⟨eo,st _ _ (I.hok b o h)⟩
  ·rw[bG z]at e
   exact st _ _ (I.hok b u e)
def FzQ(Q:VK):VK:=λz H=>Q z H\/∃a o,z=.ref a/\H a=some o/\fzb o=true/\∀ob,Q z (upd H a (.frz ob o))
def tFz(t:TE):TE:=λσ H Q=>t σ H (FzQ Q)
theorem EP.fz{X:Cx}{pins:List (Addr×Obj)}{σ:St}{Q:VK}{u:Value}{s:Shared}(h:EP X pins σ (FzQ Q) u s):EP X pins σ Q u s:=by
 obtain⟨x,H',I,r,q⟩:=h
 rcases q with q|⟨a,o,rfl,e,n,q⟩
 ·exact⟨x,H',I,r,q⟩
 ·obtain⟨ob,I'⟩:=I.fz e n
  exact⟨_,_,I',r,q ob⟩
theorem PE.fz{X:Cx}{e:Expr}{t:TE}(h:PE X e t):PE X e (tFz t):=λpins s σ H Q I q=>thn (h pins s σ H _ I q) λ_ _ z=>z.fz
def Raw(K:W.Frag)(H H':Hp)(z:V)(W:Tv):Prop:=Same H H'/\(VA K H' z W\/∃a,z=.ref a/\H a=none /\
 ((∃xs Ts,H' a=some (.lst xs)/\W=.seq false Ts/\Ts.length<=100000/\VAs K H' xs Ts)\/∃kvs kts,H' a=some (.dK kvs)/\W=.dct kts/\(kts.map (·.1)).Nodup/\kts.length<64/\VAk K H' kvs kts))
section
variable{K:W.Frag}{F:Fm}{ρ ρ1 ρ2:aT}{σ:St}{H H' H1 H2:Hp}{x y v z:V}{T U W:Tv}{a b:Addr}{o:HO}
theorem Raw.va(v:VA K H z W):Raw K H H z W:=⟨Same.refl _,.inl v⟩
theorem Raw.flat(h:cV z=true):Raw K H H z (.leaf z):=.va (.flat h)
theorem Raw.lst{xs:List V}{Ts:List Tv}(n:H a=none)(z:Ts.length<=100000)(p:VAs K H xs Ts):Raw K H (upd H a (.lst xs)) (.ref a) (.seq false Ts):=
 ⟨dI n,.inr ⟨a,rfl,n,.inl ⟨xs,Ts,bE,rfl,z,p.hs (iS n)⟩⟩⟩
theorem Raw.tup{xs:List V}{Ts:List Tv}(n:H a=none)(z:Ts.length<=100000)(p:VAs K H xs Ts):Raw K H (upd H a (.tup xs)) (.ref a) (.seq true Ts):=
 ⟨dI n,.inl (VA.seq (t:=true) (SqT.of bE) z (p.hs (iS n)))⟩
theorem Stp.frz(fr:FrOk K F ρ σ H)(s:Same H H')(n:H a=none)(e:H' a=some o)(m:fzb o=true)(ob:Obj):Stp K F σ ρ H ρ (upd H' a (.frz ob o)):=
 Stp.same fr λb u q=>by rw[bG (dC q n)];exact s b u q
theorem Raw.fin(fr:FrOk K F ρ σ H)(r:Raw K H H' z W){QQ:VK}(k:∀H'',Stp K F σ ρ H ρ H''->VA K H'' z W->QQ z H''):FzQ QQ z H':=by
 obtain⟨s,v|⟨a,rfl,n,⟨xs,Ts,e,rfl,l,p⟩|⟨kvs,kts,e,rfl,nd,l,p⟩⟩⟩:=r
 ·exact .inl (k H' (Stp.same fr s) v)
 ·refine .inr ⟨a,_,rfl,e,rfl,λob=>k _ (Stp.frz fr s n e rfl ob) (VA.seq (t:=false) ⟨ob,bE⟩ l (p.hs (fH e rfl)))⟩
 ·refine .inr ⟨a,_,rfl,e,rfl,λob=>k _ (Stp.frz fr s n e rfl ob) (VA.dct ⟨ob,bE⟩ nd l (p.hs (fH e rfl)))⟩
end
end L2
namespace L2
open PySem PySem.Spec PyProof.Rows WordM
abbrev iT(i:Int):Tv:=.leaf (.int i)
abbrev sT(x:Str):Tv:=.leaf (.str x)
abbrev bT(b:Bool):Tv:=.leaf (.bl b)
abbrev nT:Tv:=.leaf .non
abbrev P1:=Tv->(Tv->Prop)->Prop
abbrev P2:=Tv->Tv->(Tv->Prop)->Prop
abbrev Pn:=List Tv->(Tv->Prop)->Prop
section
variable{X:Cx}{F:Fm}
def uN(i:Nat):UT:=λρ Q=>match ρ[i]? with
 |some (.va T)=>Q T ρ
 |some (.own Ts)=>Q (.seq false Ts) (ρ.set i (.va (.seq false Ts)))
 |some (.dct kts)=>Q (.dct kts) (ρ.set i (.va (.dct kts)))
 |_=>False
theorem fO{σ:St}{i:Nat}{x:V}(h:ixv σ i=some x):σ[i]?=some (some x):=by
 unfold ixv at h
 cases q:σ[i]? with
 |none=>rw[q]at h;cases h
 |some o=>rw[q]at h;cases o with
  |none=>cases h
  |some y=>cases h;rfl
theorem zFz{σ:St}{i:Nat}{x:V}(h:σ[i]?=some (some x)):ixv σ i=some x:=by
 unfold ixv;rw[h];rfl
theorem FrOk.fzs{K:W.Frag}{ρ:aT}{σ:St}{H:Hp}{i:Nat}{s:Sl}{a:Addr}{o:HO}{T:Tv}(fr:FrOk K F ρ σ H)(e:ρ[i]?=some s)(m:dL s=true)(q:ixv σ i=some (.ref a))(h:H a=some o)(n:fzb o=true)(ob:Obj)
  (v:VA K (upd H a (.frz ob o)) (.ref a) T):Stp K F σ ρ H (ρ.set i (.va T)) (upd H a (.frz ob o)):=by
 have hi:i<ρ.length:=(List.getElem?_eq_some_iff.mp e).1
 have h0:=(fr.own_at e m q).2
 have hd:=fr.fresh_nodk h0
 have hs:HS H (upd H a (.frz ob o)):=fH h (by cases o<;>first|rfl|exact absurd n Bool.false_ne_true)
 have st:∀b u,b≠a->H b=some u->upd H a (.frz ob o) b=some u:=λb u z e=>by rw[bG z];exact e
 refine⟨⟨fr.d0,⟨λb u e1 n1=>st b u (λz=>by rw[z,h0]at e1;cases e1) (fr.kp.st b u e1 n1),λp c d=>?_⟩,by rw[List.length_set];exact fr.len,λj s' e'=>?_,λj k b s' t' e1 e2 m1 m2 q1 q2=>?_⟩,λb u e1 _ n1=>st b u (λz=>n1 i s e m (by rw[z];exact q)) e1,λj s' e' m'=>?_,λb u e1=>if z:b=a then⟨.frz ob o,z▸bE⟩ else⟨u,st b u z e1⟩⟩
 ·obtain⟨ne,⟨S,k,e1⟩,ns,e2,l⟩:=fr.kp.dkk p c d
  exact⟨ne,⟨S,k,st _ _ (hd p c d).1.symm e1⟩,ns,st _ _ (hd p c d).2.symm e2,l⟩
 ·by_cases z:i=j
  ·subst z
   rw[List.getElem?_set_self hi]at e'
   cases e'
   exact⟨_,q,v⟩
  ·rw[List.getElem?_set_ne z]at e'
   have x:=fr.at_ j s' e'
   cases s' with
   |no=>trivial
   |va T=>obtain⟨y,e1,v⟩:=x;exact⟨y,e1,v.hs hs⟩
   |own Ts=>obtain⟨b,xs,e1,e2,e3,z',p⟩:=x;exact⟨b,xs,e1,st _ _ (λy=>z (fr.ap i j a s _ e e' m rfl q (by rw[e1,y]))) e2,e3,z',p.hs hs⟩
   |dct kts=>obtain⟨b,kvs,e1,e2,e3,n',z',p⟩:=x;exact⟨b,kvs,e1,st _ _ (λy=>z (fr.ap i j a s _ e e' m rfl q (by rw[e1,y]))) e2,e3,n',z',p.hs hs⟩
   |dk=>exact x
 ·by_cases z1:i=j
  ·subst z1;rw[List.getElem?_set_self hi]at e1;cases e1;cases m1
  ·by_cases z2:i=k
   ·subst z2;rw[List.getElem?_set_self hi]at e2;cases e2;cases m2
   ·rw[List.getElem?_set_ne z1]at e1
    rw[List.getElem?_set_ne z2]at e2
    exact fr.ap j k b s' t' e1 e2 m1 m2 q1 q2
 ·by_cases z:i=j
  ·subst z;rw[List.getElem?_set_self hi]at e';cases e';cases m'
  ·rw[List.getElem?_set_ne z]at e';exact⟨s',e',m'⟩
theorem aB(i:Nat){x:Str}{pos:Pos}(hN:X.N[i]?=some x:=by rfl)(hv:Vis X.env.scope x:=by first|exact Or.inl rfl|exact Or.inr (Or.inl rfl)|exact Or.inr (Or.inr rfl))(hd:(x==("__debug__":Str))=false:=by decide)(hcd:(x==("__classdict__":Str))=false:=by decide):
  UE X F (.Name x pos) (uN i):=by
 refine⟨PE.imp (PE.fz (gG hN hv hd hcd)) ?_⟩
 rintro σ H QQ ⟨ρ,Q,fr,h,k⟩
 unfold uN at h
 split at h
 ·rename_i T e
  obtain⟨y,e1,v⟩:=fr.at_ i _ e
  exact⟨y,fO e1,.inl (k y T H ρ (Stp.refl fr) v h)⟩
 ·rename_i Ts e
  obtain⟨a,xs,e1,e2,e3,z,p⟩:=fr.at_ i _ e
  refine⟨_,fO e1,.inr ⟨a,_,rfl,e2,rfl,λob=>?_⟩⟩
  have v:VA X.K (upd H a (.frz ob (.lst xs))) (.ref a) (.seq false Ts):=VA.seq (t:=false) ⟨ob,bE⟩ z (p.hs (fH e2 rfl))
  exact k _ _ _ _ (fr.fzs e rfl e1 e2 rfl ob v) v h
 ·rename_i kts e
  obtain⟨a,kvs,e1,e2,e3,n,z,p⟩:=fr.at_ i _ e
  refine⟨_,fO e1,.inr ⟨a,_,rfl,e2,rfl,λob=>?_⟩⟩
  have v:VA X.K (upd H a (.frz ob (.dK kvs))) (.ref a) (.dct kts):=VA.dct ⟨ob,bE⟩ n z (p.hs (fH e2 rfl))
  exact k _ _ _ _ (fr.fzs e rfl e1 e2 rfl ob v) v h
 ·exact False.elim h
def uC(T:Tv):UT:=λρ Q=>Q T ρ
theorem oV{e:Expr}{v:V}(h:PE X e (tC v))(f:cV v=true):UE X F e (uC (.leaf v)):=⟨PE.imp h λσ H QQ ⟨ρ,Q,fr,h,k⟩=>k v (.leaf v) H ρ (Stp.refl fr) (.flat f) h⟩
theorem aD{i j pos}:UE X F (.Constant (.int i) j pos) (uC (iT i)):=oV bV rfl
theorem cO{b j pos}:UE X F (.Constant (.bool b) j pos) (uC (bT b)):=oV zGe rfl
theorem eD{j pos}:UE X F (.Constant .none j pos) (uC nT):=oV zFg rfl
theorem aI{x j pos}:UE X F (.Constant (.str x) j pos) (uC (sT x)):=oV zFd rfl
theorem zDF{x:Str}{v:V}{u:Value}{T:Tv}{pos:Pos}(hg:Gl X x)(hm:X.mg x=some u)(r:RelV v u)(hv:∀H,VA X.K H v T)(hd:(x==("__debug__":Str))=false:=by decide):UE X F (.Name x pos) (uC T):=
 ⟨PE.imp (zC hg hm r hd) λσ H QQ ⟨ρ,Q,fr,h,k⟩=>k v T H ρ (Stp.refl fr) (hv H) h⟩
def pR(K:W.Frag)(r:P2)(r':R2):Prop:=∀x y T U H Q (QQ:VK),VA K H x T->VA K H y U->r T U Q->(∀z W H',Raw K H H' z W->Q W->QQ z H')->r' x y H QQ
def fL(X:Cx)(f:Value->Value->Sem Value)(r:P2):Prop:=∃r',OpR X f r'/\pR X.K r r'
def uOp(r:P2)(ua ub:UT):UT:=λρ Q=>ua ρ λa ρ1=>ub ρ1 λb ρ2=>r a b λc=>Q c ρ2
theorem sZ{r:P2}{r':R2}{ua ub:UT}(hr:pR X.K r r')(σ:St)(H:Hp)(QQ:VK)(h:dY X.K F (uOp r ua ub) σ H QQ):tFz (tOp r' (dY X.K F ua) (dY X.K F ub)) σ H QQ:=by
 obtain⟨ρ,Q,fr,h,k⟩:=h
 refine⟨ρ,_,fr,h,λx T H1 ρ1 s1 v1 q1=>⟨ρ1,_,s1.fr,q1,λy U H2 ρ2 s2 v2 q2=>?_⟩⟩
 refine hr x y T U H2 _ _ (v1.hs (s2.hs s1.fr)) v2 q2 λz W H' rw q=>rw.fin s2.fr λH'' s3 v3=>k _ _ _ _ ((s1.trans s2).trans s3) v3 q
variable{a b c:Expr}{ua ub uc:UT}{pos:Pos}
theorem aW{op:Operator}{r:P2}(ho:fL X (binaryOp op) r)(ha:UE X F a ua)(hb:UE X F b ub):UE X F (.BinOp a op b pos) (uOp r ua ub):=by
 obtain⟨r',o,hr⟩:=ho
 exact⟨PE.imp (PE.fz (cA o ha.pe hb.pe)) (sZ hr)⟩
theorem zEF{op:CmpOp}{r:P2}(ho:fL X (compareOp op) r)(ha:UE X F a ua)(hb:UE X F b ub)(hm:behindInMarks op b=false):UE X F (.Compare a [op] [b] pos) (uOp r ua ub):=by
 obtain⟨r',o,hr⟩:=ho
 exact⟨PE.imp (PE.fz (zD4 o ha.pe hb.pe hm)) (sZ hr)⟩
def uB(u:UT):UTt:=λρ Q=>u ρ λT ρ'=>∃b,T=bT b/\Q b ρ'
theorem zFP{e:Expr}{t:TE}{u:UT}(h:PT X e (zAC t))(i:∀σ H QQ,dY X.K F u σ H QQ->t σ H QQ):UB X F e (uB u):=⟨PT.imp h λσ H QQ ⟨ρ,Q,fr,h,k⟩=>by
 refine i σ H _ ⟨ρ,_,fr,h,λx T H' ρ' s v q=>?_⟩
 obtain⟨b,rfl,q⟩:=q
 obtain⟨e,_⟩:=v.leafI
 exact⟨b,e,k b H' ρ' s q⟩⟩
def PuR2f(K:W.Frag)(r:P2)(r':R2):Prop:=∀x y T U H Q (QQ:VK),VA K H x T->VA K H y U->r T U Q->(∀z W H',Same H H'->VA K H' z W->Q W->QQ z H')->r' x y H QQ
def PuCmp(X:Cx)(f:Value->Value->Sem Value)(r:P2):Prop:=∃r',OpR X f r'/\PuR2f X.K r r'
theorem PuR2f.raw{K:W.Frag}{r:P2}{r':R2}(h:PuR2f K r r'):pR K r r':=λx y T U H Q QQ vx vy q k=>h x y T U H Q QQ vx vy q λz W H' s v q'=>k z W H' ⟨s,.inl v⟩ q'
theorem PuCmp.op{f:Value->Value->Sem Value}{r:P2}(h:PuCmp X f r):fL X f r:=by
 obtain⟨r',o,h⟩:=h
 exact⟨r',o,h.raw⟩
theorem zDl{r:P2}{r':R2}{ua ub:UT}(hr:PuR2f X.K r r')(σ:St)(H:Hp)(QQ:VK)(h:dY X.K F (uOp r ua ub) σ H QQ):tOp r' (dY X.K F ua) (dY X.K F ub) σ H QQ:=by
 obtain⟨ρ,Q,fr,h,k⟩:=h
 refine⟨ρ,_,fr,h,λx T H1 ρ1 s1 v1 q1=>⟨ρ1,_,s1.fr,q1,λy U H2 ρ2 s2 v2 q2=>?_⟩⟩
 exact hr x y T U H2 _ _ (v1.hs (s2.hs s1.fr)) v2 q2 λz W H' s v q=>k _ _ _ _ ((s1.trans s2).trans (Stp.same s2.fr s)) v q
theorem tN{op:CmpOp}{r:P2}(ho:PuCmp X (compareOp op) r)(ha:UE X F a ua)(hb:UE X F b ub)(hm:behindInMarks op b=false):UB X F (.Compare a [op] [b] pos) (uB (uOp r ua ub)):=by
 obtain⟨r',o,hr⟩:=ho
 exact zFP (sL o ha.pe hb.pe hm) (zDl hr)
def zY(r r':P2)(ua ub uc:UT):UT:=λρ Q=>ua ρ λa ρ1=>ub ρ1 λb ρ2=>r a b λz=>∃k,z=bT k/\(if k=true then uc ρ2 λc ρ3=>r' b c λw=>Q w ρ3 else Q (bT false) ρ2)
theorem zBS{r r':P2}{s s':R2}(hr:PuR2f X.K r s)(hr':PuR2f X.K r' s')(σ:St)(H:Hp)(QQ:VK)(h:dY X.K F (zY r r' ua ub uc) σ H QQ):zAb s s' (dY X.K F ua) (dY X.K F ub) (dY X.K F uc) σ H QQ:=by
 obtain⟨ρ,Q,fr,h,k⟩:=h
 refine⟨ρ,_,fr,h,λx T H1 ρ1 s1 v1 q1=>⟨ρ1,_,s1.fr,q1,λy U H2 ρ2 s2 v2 q2=>?_⟩⟩
 refine hr x y T U H2 _ _ (v1.hs (s2.hs s1.fr)) v2 q2 λz W H3 ss v3 q3=>?_
 obtain⟨b,rfl,q3⟩:=q3
 obtain⟨e,_⟩:=v3.leafI
 have s3:=Stp.same s2.fr ss
 refine⟨b,e,?_⟩
 cases b with
 |false=>
  rw[if_neg Bool.false_ne_true]at q3 ⊢
  exact k _ _ _ _ ((s1.trans s2).trans s3) (.flat rfl) q3
 |true=>
  rw[if_pos rfl]at q3 ⊢
  refine⟨ρ2,_,s3.fr,q3,λz' W' H4 ρ4 s4 v4 q4=>?_⟩
  exact hr' y z' U W' H4 _ _ ((v2.hs (s3.hs s2.fr)).hs (s4.hs s3.fr)) v4 q4 λz5 W5 H5 s5 v5 q5=>k _ _ _ _ (((s1.trans s2).trans s3).trans (s4.trans (Stp.same s4.fr s5))) v5 q5
theorem xP{op op':CmpOp}{r r':P2}(ho:PuCmp X (compareOp op) r)(ho':PuCmp X (compareOp op') r')(ha:UE X F a ua)(hb:UE X F b ub)(hc:UE X F c uc)(hm:lastMarks [op,op'] [b,c]=false:=by with_unfolding_all rfl):
  UE X F (.Compare a [op,op'] [b,c] pos) (zY r r' ua ub uc):=by
 obtain⟨s,o,hr⟩:=ho
 obtain⟨s',o',hr'⟩:=ho'
 exact⟨PE.imp (zDe o o' ha.pe hb.pe hc.pe hm) (zBS hr hr')⟩
def zA6(X:Cx)(f:Value->Sem Value)(r:P1):Prop:=∃r',UnR X f r'/\∀x T H Q (QQ:VK),VA X.K H x T->r T Q->(∀z W,VA X.K H z W->Q W->QQ z H)->r' x H QQ
def uUn(r:P1)(ua:UT):UT:=λρ Q=>ua ρ λa ρ1=>r a λc=>Q c ρ1
theorem oJ{op:UnaryOp}{r:P1}(ho:zA6 X (unaryOp op) r)(ha:UE X F a ua):UE X F (.UnaryOp op a pos) (uUn r ua):=by
 obtain⟨r',o,hr⟩:=ho
 refine⟨PE.imp (zAG o ha.pe) ?_⟩
 rintro σ H QQ ⟨ρ,Q,fr,h,k⟩
 exact⟨ρ,_,fr,h,λx T H1 ρ1 s1 v1 q1=>hr x T H1 _ _ v1 q1 λz W v q=>k _ _ _ _ s1 v q⟩
def zAZ:P1
 |.leaf (.int i),Q=>Q (iT (-i))
 |_,_=>False
theorem nZ:zA6 X (unaryOp .USub) zAZ:=⟨_,zW,λx T H Q QQ v h k=>by
 unfold zAZ at h
 split at h
 ·obtain⟨rfl,_⟩:=v.leafI
  exact⟨_,rfl,k _ _ (.flat rfl) h⟩
 ·exact False.elim h⟩
def zFT(ua ub:UT):UT:=λρ Q=>ua ρ λa ρ1=>∃c,a=bT c/\if c=true then ub ρ1 Q else Q (bT false) ρ1
theorem nV{op}{u:UT}(h:UE X F a u):UE X F (.BoolOp op [a] pos) u:=⟨zFf h.pe⟩
theorem nX{rest:List Expr}(ha:UE X F a ua)(hb:UE X F (.BoolOp .And (b::rest) pos) ub):UE X F (.BoolOp .And (a::b::rest) pos) (zFT ua ub):=⟨PE.imp (zFi ha.pe hb.pe) λσ H QQ ⟨ρ,Q,fr,h,k⟩=>by
 refine⟨ρ,_,fr,h,λx T H1 ρ1 s1 v1 q1=>?_⟩
 obtain⟨c,rfl,q1⟩:=q1
 obtain⟨e,_⟩:=v1.leafI
 refine⟨c,e,?_⟩
 cases c with
 |false=>rw[if_neg Bool.false_ne_true]at q1 ⊢;exact k _ _ _ _ s1 (.flat rfl) q1
 |true=>rw[if_pos rfl]at q1 ⊢;exact⟨ρ1,_,s1.fr,q1,λy U H2 ρ2 s2 v2 q2=>k _ _ _ _ (s1.trans s2) v2 q2⟩⟩
def zGL(t u:UTt):UTt:=λρ Q=>t ρ λc ρ1=>if c=true then u ρ1 Q else Q false ρ1
def uOr(t u:UTt):UTt:=λρ Q=>t ρ λc ρ1=>if c=true then Q true ρ1 else u ρ1 Q
def zGH(t:UTt):UTt:=λρ Q=>t ρ λc ρ1=>Q (!c) ρ1
variable{ta tb:UTt}{rest:List Expr}
theorem nF(ha:UB X F a ta):UW X F (.BoolOp .And [a] pos) ta:=⟨zDX ha.pt⟩
theorem zU(ha:UB X F a ta):UW X F (.BoolOp .Or [a] pos) ta:=⟨zEZ ha.pt⟩
theorem nU(ha:UB X F a ta)(hb:UW X F (.BoolOp .And (b::rest) pos) tb):UW X F (.BoolOp .And (a::b::rest) pos) (zGL ta tb):=⟨PW.imp (zE0 ha.pt hb.pw) λσ H QQ ⟨ρ,Q,fr,h,k⟩=>by
 refine⟨ρ,_,fr,h,λc H1 ρ1 s1 q1=>?_⟩
 cases c with
 |false=>rw[if_neg Bool.false_ne_true]at q1 ⊢;exact k _ _ _ s1 q1
 |true=>rw[if_pos rfl]at q1 ⊢;exact⟨ρ1,_,s1.fr,q1,λy H2 ρ2 s2 q2=>k _ _ _ (s1.trans s2) q2⟩⟩
theorem zAA(ha:UB X F a ta)(hb:UW X F (.BoolOp .Or (b::rest) pos) tb):UW X F (.BoolOp .Or (a::b::rest) pos) (uOr ta tb):=⟨PW.imp (zGb ha.pt hb.pw) λσ H QQ ⟨ρ,Q,fr,h,k⟩=>by
 refine⟨ρ,_,fr,h,λc H1 ρ1 s1 q1=>?_⟩
 cases c with
 |true=>rw[if_pos rfl]at q1 ⊢;exact k _ _ _ s1 q1
 |false=>rw[if_neg Bool.false_ne_true]at q1 ⊢;exact⟨ρ1,_,s1.fr,q1,λy H2 ρ2 s2 q2=>k _ _ _ (s1.trans s2) q2⟩⟩
theorem kC{e:Expr}{t:UTt}(h:UW X F e t):UB X F e t:=⟨h.pw.pt⟩
theorem fS(ha:UB X F a ta):UB X F (.UnaryOp .Not a pos) (zGH ta):=⟨PT.imp (zE5 ha.pt) λσ H QQ ⟨ρ,Q,fr,h,k⟩=>⟨ρ,_,fr,h,λc H1 ρ1 s1 q1=>k _ _ _ s1 q1⟩⟩
theorem dN{e:Expr}{u:UT}(h:UE X F e u)(he:∀whole,isTrue e X.env whole=(do let v <- whole;standAt e.pos;holding [v] (truthy v)):=by intro _;rfl):UB X F e (uB u):=⟨PT.imp (zE4 h.pe he) λσ H QQ ⟨ρ,Q,fr,h,k⟩=>by
 refine⟨ρ,_,fr,h,λx T H' ρ' s v q=>?_⟩
 obtain⟨b,rfl,q⟩:=q
 obtain⟨e,_⟩:=v.leafI
 exact⟨b,e,k b H' ρ' s q⟩⟩
def uIf(t:UTt)(ua ub:UT):UT:=λρ Q=>t ρ λc ρ1=>if c=true then ua ρ1 Q else ub ρ1 Q
theorem kR(hc:UB X F c ta)(ha:UE X F a ua)(hb:UE X F b ub):UE X F (.IfExp c a b pos) (uIf ta ua ub):=⟨PE.imp (zDd hc.pt ha.pe hb.pe) λσ H QQ ⟨ρ,Q,fr,h,k⟩=>by
 refine⟨ρ,_,fr,h,λc H1 ρ1 s1 q1=>?_⟩
 cases c with
 |true=>rw[if_pos rfl]at q1 ⊢;exact⟨ρ1,_,s1.fr,q1,λy U H2 ρ2 s2 v2 q2=>k _ _ _ _ (s1.trans s2) v2 q2⟩
 |false=>rw[if_neg Bool.false_ne_true]at q1 ⊢;exact⟨ρ1,_,s1.fr,q1,λy U H2 ρ2 s2 v2 q2=>k _ _ _ _ (s1.trans s2) v2 q2⟩⟩
def iX:UTa:=λρ Q=>Q [] ρ
def zAB(u:UT)(t:UTa):UTa:=λρ Q=>u ρ λT ρ1=>t ρ1 λas ρ2=>Q (.va T::as) ρ2
def uDk(i:Nat)(t:UTa):UTa:=λρ Q=>ρ[i]?=some .dk/\t ρ λas ρ2=>Q (.dk::as) ρ2
theorem aC:UA X F [] iX:=⟨PA.imp eE λσ H QQ ⟨ρ,Q,fr,h,k⟩=>k [] [] H ρ (Stp.refl fr) .nil h⟩
theorem aA{e:Expr}{es:List Expr}{u:UT}{t:UTa}(ha:UE X F e u)(hr:UA X F es t)(h:dO e=false:=by rfl):UA X F (e::es) (zAB u t):=⟨PA.imp (dF ha.pe hr.pa h) λσ H QQ ⟨ρ,Q,fr,h,k⟩=>by
 refine⟨ρ,_,fr,h,λx T H1 ρ1 s1 v1 q1=>⟨ρ1,_,s1.fr,q1,λxs as H2 ρ2 s2 p2 q2=>?_⟩⟩
 exact k _ _ _ _ (s1.trans s2) (.cons (b:=Ar.va T) (v1.hs (s2.hs s1.fr)) p2) q2⟩
theorem bK(i:Nat){x:Str}{pos:Pos}{es:List Expr}{t:UTa}(hr:UA X F es t)(hN:X.N[i]?=some x:=by rfl)(hv:Vis X.env.scope x:=by first|exact Or.inl rfl|exact Or.inr (Or.inl rfl)|exact Or.inr (Or.inr rfl))(hd:(x==("__debug__":Str))=false:=by decide)(hcd:(x==("__classdict__":Str))=false:=by decide):
  UA X F (.Name x pos::es) (uDk i t):=⟨PA.imp (dF (gG hN hv hd hcd) hr.pa rfl) λσ H QQ ⟨ρ,Q,fr,⟨e,h⟩,k⟩=>by
 obtain⟨p,c,ed,ex⟩:=fr.at_ i _ e
 refine⟨_,fO ex,ρ,_,fr,h,λxs as H2 ρ2 s2 p2 q2=>?_⟩
 exact k _ _ _ _ s2 (.cons (b:=Ar.dk) ⟨p,c,ed,rfl⟩ p2) q2⟩
def vsK:List Ar->(List Tv->Prop)->Prop
 |[],Q=>Q []
 |.va T::as,Q=>vsK as λTs=>Q (T::Ts)
 |.dk::_,_=>False
theorem gX:∀{as:List Ar}{Q:List Tv->Prop},vsK as Q->∃Ts,as=Ts.map Ar.va/\Q Ts
 |[],_,h=>⟨[],rfl,h⟩
 |.va T::as,Q,h=>by
  obtain⟨Ts,rfl,q⟩:=gX (as:=as) (Q:=λTs=>Q (T::Ts)) h
  exact⟨T::Ts,rfl,q⟩
 |.dk::_,_,h=>False.elim h
def uVs(ua:UTa):UTl:=λρ Q=>ua ρ λas ρ1=>vsK as λTs=>Q Ts ρ1
theorem gY{K:W.Frag}{dk:Option (Addr×Addr)}{H:Hp}:∀{xs:List V}{Ts:List Tv},Paired (mG K dk H) xs (Ts.map Ar.va)->VAs K H xs Ts
 |[],[],_=>.nil
 |_::_,_::_,.cons r t=>.cons r (gY t)
def zGG(ua:UTa):UT:=λρ Q=>uVs ua ρ λTs ρ1=>Ts.length<=100000/\Q (.seq true Ts) ρ1
def zGI(ua:UTa):UTl:=λρ Q=>uVs ua ρ λTs ρ1=>Ts.length<=100000/\Q Ts ρ1
theorem fG{n:Nat}(h:n<=100000):n<=sizeLine:=by rw[sizeLine_eq];omega
theorem zH{n:Nat}(h:n<100000):n<sizeLine:=by rw[sizeLine_eq];omega
theorem aJ{es:List Expr}{t:UTa}{x1}(h:UA X F es t):UE X F (.Tuple es x1 pos) (zGG t):=⟨PE.imp (zFc h.pa) λσ H QQ ⟨ρ,Q,fr,h,k⟩=>by
 refine⟨ρ,_,fr,h,λxs as H1 ρ1 s1 p1 q1=>?_⟩
 obtain⟨Ts,rfl,z,q⟩:=gX q1
 have p:=gY p1
 have l:xs.length=Ts.length:=Paired.length p
 refine⟨fG (by omega),λa n=>?_⟩
 have r:=Raw.tup (K:=X.K) n z p
 exact k _ _ _ _ (s1.trans (Stp.same s1.fr r.1)) (VA.seq (t:=true) (SqT.of bE) z (p.hs (iS n))) q⟩
theorem bM{es:List Expr}{t:UTa}(h:UA X F es t):UL X F (.List es pos) (zGI t):=⟨PE.imp (zAo h.pa) λσ H QQ ⟨ρ,Q,fr,h,k⟩=>by
 refine⟨ρ,_,fr,h,λxs as H1 ρ1 s1 p1 q1=>?_⟩
 obtain⟨Ts,rfl,z,q⟩:=gX q1
 have p:=gY p1
 have l:xs.length=Ts.length:=Paired.length p
 refine⟨fG (by omega),λa n=>?_⟩
 exact k _ _ _ _ _ (s1.trans (Stp.same s1.fr (dI n))) (s1.non n) bE z (p.hs (iS n)) q⟩
end
end L2
namespace L2
open PySem PySem.Spec PyProof.Rows WordM
theorem FrOk.fzn{K:W.Frag}{F:Fm}{ρ:aT}{σ:St}{H:Hp}{a:Addr}{o:HO}(fr:FrOk K F ρ σ H)(h:H a=some o)(n:fzb o=true)(h0:F.H0 a=none)(na:∀(i:Nat) (s:Sl),ρ[i]?=some s->dL s=true->ixv σ i≠some (.ref a))(o':HO):FrOk K F ρ σ (upd H a o'):=by
 have hd:=fr.fresh_nodk h0
 have hs:HS H (upd H a o'):=fH h (by cases o<;>first|rfl|exact absurd n Bool.false_ne_true)
 have st:∀b u,b≠a->H b=some u->upd H a o' b=some u:=λb u z e=>by rw[bG z];exact e
 refine⟨fr.d0,⟨λb u e1 n1=>st b u (λz=>by rw[z,h0]at e1;cases e1) (fr.kp.st b u e1 n1),λp c d=>?_⟩,fr.len,λj s' e'=>?_,fr.ap⟩
 ·obtain⟨ne,⟨S,k,e1⟩,ns,e2,l⟩:=fr.kp.dkk p c d
  exact⟨ne,⟨S,k,st _ _ (hd p c d).1.symm e1⟩,ns,st _ _ (hd p c d).2.symm e2,l⟩
 ·have x:=fr.at_ j s' e'
  cases s' with
  |no=>trivial
  |va T=>obtain⟨y,e1,v⟩:=x;exact⟨y,e1,v.hs hs⟩
  |own Ts=>obtain⟨b,xs,e1,e2,e3,z',p⟩:=x;exact⟨b,xs,e1,st _ _ (λy=>na j _ e' rfl (by rw[e1,y])) e2,e3,z',p.hs hs⟩
  |dct kts=>obtain⟨b,kvs,e1,e2,e3,n',z',p⟩:=x;exact⟨b,kvs,e1,st _ _ (λy=>na j _ e' rfl (by rw[e1,y])) e2,e3,n',z',p.hs hs⟩
  |dk=>exact x
theorem Stp.notown{K:W.Frag}{F:Fm}{ρ ρ1:aT}{σ:St}{H H1:Hp}{a:Addr}(s:Stp K F σ ρ H ρ1 H1)(fr:FrOk K F ρ σ H)(n:H a=none):∀(i:Nat) (s:Sl),ρ1[i]?=some s->dL s=true->ixv σ i≠some (.ref a):=λi s' e m q=>by
 obtain⟨s0,e0,m0⟩:=s.sub i s' e m
 obtain⟨⟨o,e1,_⟩,_⟩:=fr.own_at e0 m0 q
 rw[n]at e1;cases e1
theorem Stp.put{K:W.Frag}{F:Fm}{ρ ρ1:aT}{σ:St}{H H1:Hp}{a:Addr}{o:HO}(s:Stp K F σ ρ H ρ1 H1)(fr:FrOk K F ρ σ H)(n:H a=none)(e:H1 a=some o)(m:fzb o=true)(o':HO):Stp K F σ ρ H ρ1 (upd H1 a o'):=
 ⟨s.fr.fzn e m (fr.none0 n) (s.notown fr n) o',λb u q d n1=>by rw[bG (dC q n)];exact s.st b u q d n1,s.sub,λb u q=>by rw[bG (dC q n)];exact s.tr b u q⟩
section
variable{X:Cx}{F:Fm}{e:Expr}{pos:Pos}
def uL(u:UTl):UT:=λρ Q=>u ρ λTs ρ1=>Q (.seq false Ts) ρ1
theorem bA{u:UTl}(h:UL X F e u):UE X F e (uL u):=⟨PE.imp (PE.fz h.pe) λσ H QQ ⟨ρ,Q,fr,h,k⟩=>⟨ρ,_,fr,h,λa xs Ts H' ρ' s n e z p q=>
 .inr ⟨a,_,rfl,e,rfl,λob=>k _ _ _ _ (s.put fr n e rfl (.frz ob (.lst xs))) (VA.seq (t:=false) ⟨ob,bE⟩ z (p.hs (fH e rfl))) q⟩⟩⟩
def zA8(K:W.Frag)(r:Pn)(r':List V->Hp->VK->Prop):Prop:=∀xs Ts H Q (QQ:VK),VAs K H xs Ts->r Ts Q->(∀z W H',Raw K H H' z W->Q W->QQ z H')->r' xs H QQ
def hE(X:Cx)(f:Value)(r:Pn):Prop:=∃r',CallR X f r'/\zA8 X.K r r'
def uCB(r:Pn)(ua:UTa):UT:=λρ Q=>uVs ua ρ λTs ρ1=>r Ts λW=>Q W ρ1
theorem zJ{r:Pn}{r':List V->Hp->VK->Prop}{ua:UTa}(hr:zA8 X.K r r')(σ:St)(H:Hp)(QQ:VK)(h:dY X.K F (uCB r ua) σ H QQ):tFz (tCB r' (lR X.K F ua)) σ H QQ:=by
 obtain⟨ρ,Q,fr,h,k⟩:=h
 refine⟨ρ,_,fr,h,λxs as H1 ρ1 s1 p1 q1=>?_⟩
 obtain⟨Ts,rfl,q⟩:=gX q1
 exact hr xs Ts H1 _ _ (gY p1) q λz W H' rw q=>rw.fin s1.fr λH'' s3 v3=>k _ _ _ _ (s1.trans s3) v3 q
variable{es:List Expr}{x:Str}{p:Pos}{ua:UTa}
theorem cX{id:String}{r:Pn}(hc:hE X (.builtin id) r)(hg:Gl X x)(hm:X.mg x=none)(hv:bootBuiltins x=some (.builtin id))(ha:UA X F (e::es) ua)(hn:x≠"__name__":=by decide)(hdb:(x==("__debug__":Str))=false:=by decide)
  (he:starEach (e::es) X.env=(false,eval e X.env)::starEach es X.env:=by rfl) (hpl:(backTo pos (starEach es X.env)).any (·.1)=false:=by rfl):UE X F (.Call (.Name x p) (e::es) [] pos) (uCB r ua):=by
 obtain⟨r',o,hr⟩:=hc
 exact⟨PE.imp (PE.fz (iH o hg hm hv ha.pa hn hdb he hpl)) (zJ hr)⟩
theorem fM{id:String}{r:Pn}(hc:hE X (.type id) r)(hg:Gl X x)(hm:X.mg x=none)(hv:bootBuiltins x=some (.type id))(ha:UA X F (e::es) ua)(hn:x≠"__name__":=by decide)(hdb:(x==("__debug__":Str))=false:=by decide)
  (he:starEach (e::es) X.env=(false,eval e X.env)::starEach es X.env:=by rfl) (hpl:(backTo pos (starEach es X.env)).any (·.1)=false:=by rfl):UE X F (.Call (.Name x p) (e::es) [] pos) (uCB r ua):=by
 obtain⟨r',o,hr⟩:=hc
 exact⟨PE.imp (PE.fz (kQ o hg hm hv ha.pa hn hdb he hpl)) (zJ hr)⟩
def zA9(K:W.Frag)(r:List Tv->(List Tv->Prop)->Prop)(r':List V->Hp->VK->Prop):Prop:=∀xs Ts H Q (QQ:VK),VAs K H xs Ts->r Ts Q->(∀a ys Us H',Same H H'->H a=none->H' a=some (.lst ys)->Us.length<=100000->VAs K H' ys Us->Q Us->QQ (.ref a) H')->r' xs H QQ
def nS(X:Cx)(f:Value)(r:List Tv->(List Tv->Prop)->Prop):Prop:=∃r',CallR X f r'/\zA9 X.K r r'
def uCL(r:List Tv->(List Tv->Prop)->Prop)(ua:UTa):UTl:=λρ Q=>uVs ua ρ λTs ρ1=>r Ts λUs=>Q Us ρ1
theorem zI{r:List Tv->(List Tv->Prop)->Prop}{r':List V->Hp->VK->Prop}{ua:UTa}(hr:zA9 X.K r r')(σ:St)(H:Hp)(QQ:VK)(h:lQ X.K F (uCL r ua) σ H QQ):tCB r' (lR X.K F ua) σ H QQ:=by
 obtain⟨ρ,Q,fr,h,k⟩:=h
 refine⟨ρ,_,fr,h,λxs as H1 ρ1 s1 p1 q1=>?_⟩
 obtain⟨Ts,rfl,q⟩:=gX q1
 exact hr xs Ts H1 _ _ (gY p1) q λa ys Us H' sm n e z p q=>k _ _ _ _ _ (s1.trans (Stp.same s1.fr sm)) (s1.non n) e z p q
theorem rE{id:String}{r:List Tv->(List Tv->Prop)->Prop}(hc:nS X (.builtin id) r)(hg:Gl X x)(hm:X.mg x=none)(hv:bootBuiltins x=some (.builtin id))(ha:UA X F (e::es) ua)(hn:x≠"__name__":=by decide)(hdb:(x==("__debug__":Str))=false:=by decide)
  (he:starEach (e::es) X.env=(false,eval e X.env)::starEach es X.env:=by rfl) (hpl:(backTo pos (starEach es X.env)).any (·.1)=false:=by rfl):UL X F (.Call (.Name x p) (e::es) [] pos) (uCL r ua):=by
 obtain⟨r',o,hr⟩:=hc
 exact⟨PE.imp (iH o hg hm hv ha.pa hn hdb he hpl) (zI hr)⟩
theorem qH{id:String}{r:List Tv->(List Tv->Prop)->Prop}(hc:nS X (.type id) r)(hg:Gl X x)(hm:X.mg x=none)(hv:bootBuiltins x=some (.type id))(ha:UA X F (e::es) ua)(hn:x≠"__name__":=by decide)(hdb:(x==("__debug__":Str))=false:=by decide)
  (he:starEach (e::es) X.env=(false,eval e X.env)::starEach es X.env:=by rfl) (hpl:(backTo pos (starEach es X.env)).any (·.1)=false:=by rfl):UL X F (.Call (.Name x p) (e::es) [] pos) (uCL r ua):=by
 obtain⟨r',o,hr⟩:=hc
 exact⟨PE.imp (kQ o hg hm hv ha.pa hn hdb he hpl) (zI hr)⟩
abbrev PSp:=List Ar->(Tv->Prop)->Prop
def uH(K:W.Frag)(psp:PSp):Sp:=λvs H Q _=>∃dk as R,(∀p c,dk=some (p,c)->DeckAt H p c)/\Paired (mG K dk H) vs as/\psp as R/\∀x T H',Kp dk H H'->VA K H' x T->R T->Q x H'
def aG(P:Program)(w:World)(K:W.Frag)(mg:Str->Option Value)(base:Heap)(k:Nat)(x:Str)(ps:List Str)(psp:PSp):Prop:=Good P w K mg base k x ps (uH K psp)
def lH(psp:PSp)(ua:UTa):UT:=λρ Q=>ua ρ λas ρ1=>psp as λW=>Q W ρ1
theorem zCy{psp:PSp}{ua:UTa}(σ:St)(H:Hp)(QQ:VK)(h:dY X.K F (lH psp ua) σ H QQ):jW (uH X.K psp) [] E0 (lR X.K F ua) σ H QQ:=by
 obtain⟨ρ,Q,fr,h,k⟩:=h
 refine⟨ρ,_,fr,h,λxs as H1 ρ1 s1 p1 q1=>?_⟩
 show uH X.K psp (xs++[]) H1 QQ E0
 rw[List.append_nil]
 exact⟨F.dk,as,_,s1.fr.kp.dkk,p1,q1,λz W H' kp v q=>k _ _ _ _ (s1.trans (Stp.call s1.fr kp)) v q⟩
theorem zFO{k:Nat}{ps:List Str}{psp:PSp}(G:aG X.prog X.w X.K X.mg X.base k x ps psp)(hr:Room k X.A)(hg:Gl X x)(ha:UA X F (e::es) ua)(hdb:(x==("__debug__":Str))=false:=by decide)
  (hst:dO e=false:=by rfl) (hpl:(backTo pos (starEach es X.env)).any (·.1)=false:=by rfl):UE X F (.Call (.Name x p) (e::es) [] pos) (lH psp ua):=
 ⟨PE.imp (lJ G hr hg ha.pa hdb hst hpl) zCy⟩
theorem zX{k:Nat}{ps:List Str}{psp:PSp}(G:aG X.prog X.w X.K X.mg X.base k x ps psp)(hr:Room k X.A)(hg:Gl X x)(hdb:(x==("__debug__":Str))=false:=by decide):UE X F (.Call (.Name x p) [] [] pos) (lH psp iX):=
 ⟨PE.imp (zFh G hr hg hdb) λσ H QQ ⟨ρ,Q,fr,h,k⟩=>⟨F.dk,[],_,fr.kp.dkk,.nil,h,λz W H' kp v q=>k _ _ _ _ (Stp.call fr kp) v q⟩⟩
def zBa(X:Cx)(r:P2):Prop:=∃r',IxR X r'/\pR X.K r r'
variable{a b:Expr}{va vb:UT}
theorem zFN{r:P2}(ho:zBa X r)(ha:UE X F a va)(hb:UE X F b vb)(hs:kY b:=by intro _ _;rfl):UE X F (.Subscript a b pos) (uOp r va vb):=by
 obtain⟨r',o,hr⟩:=ho
 exact⟨PE.imp (PE.fz (fT o ha.pe hb.pe hs)) (sZ hr)⟩
abbrev UTo:=aT->(Option Int->aT->Prop)->Prop
def zGn(K:W.Frag)(F:Fm)(u:UTo):TO:=λσ H QQ=>∃ρ Q,FrOk K F ρ σ H/\u ρ Q/\∀o H' ρ',Stp K F σ ρ H ρ' H'->Q o ρ'->QQ o H'
structure UO (X:Cx) (F:Fm) (e:Option Expr) (u:UTo):Prop where
 po:PO X e (zGn X.K F u)
theorem PO.imp{e:Option Expr}{t t':TO}(h:PO X e t)(i:∀σ H Q,t' σ H Q->t σ H Q):PO X e t':=λpins s σ H Q I q=>h pins s σ H Q I (i σ H Q q)
def uoN:UTo:=λρ Q=>Q none ρ
def uoS(u:UT):UTo:=λρ Q=>u ρ λT ρ1=>∃i,T=iT i/\Q (some i) ρ1
theorem cJ:UO X F none uoN:=⟨PO.imp yX λσ H QQ ⟨ρ,Q,fr,h,k⟩=>k _ _ _ (Stp.refl fr) h⟩
theorem cD{u:UT}(h:UE X F e u):UO X F (some e) (uoS u):=⟨PO.imp (yW h.pe) λσ H QQ ⟨ρ,Q,fr,h,k⟩=>⟨ρ,_,fr,h,λx T H1 ρ1 s1 v1 q1=>by
 obtain⟨i,rfl,q⟩:=q1
 exact⟨i,v1.leafI.1,k _ _ _ s1 q⟩⟩⟩
abbrev PSl:=Tv->Option Int->Option Int->(Tv->Prop)->Prop
def zA7(X:Cx)(r:PSl):Prop:=∃r',SlR X r'/\∀x T lo hi H Q (QQ:VK),VA X.K H x T->r T lo hi Q->(∀z W H',Raw X.K H H' z W->Q W->QQ z H')->r' x lo hi H QQ
def uSl(r:PSl)(u:UT)(lo hi:UTo):UT:=λρ Q=>u ρ λT ρ1=>lo ρ1 λl ρ2=>hi ρ2 λh ρ3=>r T l h λW=>Q W ρ3
theorem cE{r:PSl}{lo hi:Option Expr}{ul uh:UTo}{p2:Pos}(ho:zA7 X r)(ha:UE X F a va)(hl:UO X F lo ul)(hh:UO X F hi uh):UE X F (.Subscript a (.Slice lo hi none p2) pos) (uSl r va ul uh):=by
 obtain⟨r',o,hr⟩:=ho
 refine⟨PE.imp (PE.fz (xT o ha.pe hl.po hh.po)) ?_⟩
 rintro σ H QQ ⟨ρ,Q,fr,h,k⟩
 refine⟨ρ,_,fr,h,λx T H1 ρ1 s1 v1 q1=>⟨ρ1,_,s1.fr,q1,λl H2 ρ2 s2 q2=>⟨ρ2,_,s2.fr,q2,λu H3 ρ3 s3 q3=>?_⟩⟩⟩
 exact hr x T l u H3 _ _ ((v1.hs (s2.hs s1.fr)).hs (s3.hs s2.fr)) q3 λz W H' rw q=>rw.fin s3.fr λH'' s4 v4=>k _ _ _ _ ((s1.trans s2).trans (s3.trans s4)) v4 q
end
structure PEnds where
 nx:aT->Prop
 rt:Tv->Prop
 bk:aT->Prop:=λ_=>False
 ct:aT->Prop:=λ_=>False
abbrev UTs:=PEnds->aT->Prop
def jZ(K:W.Frag)(F:Fm)(u:UTs):TS:=λD σ H=>∃ρ P,FrOk K F ρ σ H/\u P ρ/\(∀σ' H' ρ',FrOk K F ρ' σ' H'->HS H H'->P.nx ρ'->D.nx σ' H')/\(∀x T H',Kp F.dk F.H0 H'->VA K H' x T->P.rt T->D.rt x H') /\
 (∀σ' H' ρ',FrOk K F ρ' σ' H'->HS H H'->P.bk ρ'->D.bk σ' H')/\∀σ' H' ρ',FrOk K F ρ' σ' H'->HS H H'->P.ct ρ'->D.ct σ' H'
structure US (X:Cx) (F:Fm) (st:Stmt) (u:UTs):Prop where
 ps:PS X st (jZ X.K F u)
structure USs (X:Cx) (F:Fm) (st:List Stmt) (u:UTs):Prop where
 ps:PSs X st (jZ X.K F u)
theorem PS.imp{X:Cx}{st:Stmt}{t t':TS}(h:PS X st t)(i:∀D σ H,t' D σ H->t D σ H):PS X st t':=λpins s σ H D I q=>h pins s σ H D I (i D σ H q)
theorem PSs.imp{X:Cx}{st:List Stmt}{t t':TS}(h:PSs X st t)(i:∀D σ H,t' D σ H->t D σ H):PSs X st t':=λpins s σ H D I q=>h pins s σ H D I (i D σ H q)
section
variable{X:Cx}{F:Fm}{e:Expr}{pos:Pos}{st:Stmt}{rest:List Stmt}{u:UT}
def zGW:UTs:=λP ρ=>P.nx ρ
def uP(s t:UTs):UTs:=λP ρ=>s {P with nx:=λρ'=>t P ρ'} ρ
theorem bB:USs X F [] zGW:=⟨PSs.imp sW λD σ H ⟨ρ,P,fr,h,k1,_⟩=>k1 σ H ρ fr (HS.refl _) h⟩
theorem aL{s:UTs}(h:US X F st s):USs X F [st] s:=⟨iM h.ps⟩
theorem aE{s t:UTs}(h:US X F st s)(hr:USs X F rest t):USs X F (st::rest) (uP s t):=⟨PSs.imp (fF h.ps hr.ps) λD σ H ⟨ρ,P,fr,h,k1,k2,k3,k4⟩=>by
 refine⟨ρ,_,fr,h,λσ' H' ρ' fr' hs q=>?_,k2,k3,k4⟩
 exact⟨ρ',P,fr',q,λσ2 H2 ρ2 f2 h2 q2=>k1 _ _ _ f2 (hs.trans h2) q2,k2,λσ2 H2 ρ2 f2 h2 q2=>k3 _ _ _ f2 (hs.trans h2) q2,λσ2 H2 ρ2 f2 h2 q2=>k4 _ _ _ f2 (hs.trans h2) q2⟩⟩
def zGV(u:UT):UTs:=λP ρ=>u ρ λT _=>P.rt T
theorem aQ(h:UE X F e u):US X F (.Return (some e) pos) (zGV u):=⟨PS.imp (iQ h.pe) λD σ H ⟨ρ,P,fr,h,_,k2,_⟩=>⟨ρ,_,fr,h,λx T H' ρ' s v q=>k2 x T H' s.fr.kp v q⟩⟩
def sIf(t:UTt)(s r:UTs):UTs:=λP ρ=>t ρ λb ρ1=>if b=true then s P ρ1 else r P ρ1
theorem bC{c:Expr}{a b:List Stmt}{t:UTt}{s r:UTs}(hc:UB X F c t)(ha:USs X F a s)(hb:USs X F b r):US X F (.If c a b pos) (sIf t s r):=⟨PS.imp (uE hc.pt ha.ps hb.ps) λD σ H ⟨ρ,P,fr,h,k1,k2,k3,k4⟩=>by
 refine⟨ρ,_,fr,h,λb H1 ρ1 s1 q1=>?_⟩
 have hs:=s1.hs fr
 have fin:∀{v:UTs},v P ρ1->jZ X.K F v D σ H1:=λq=>⟨ρ1,P,s1.fr,q,λσ2 H2 ρ2 f2 h2 q2=>k1 _ _ _ f2 (hs.trans h2) q2,k2,λσ2 H2 ρ2 f2 h2 q2=>k3 _ _ _ f2 (hs.trans h2) q2,λσ2 H2 ρ2 f2 h2 q2=>k4 _ _ _ f2 (hs.trans h2) q2⟩
 cases b with
 |true=>exact cC (fin (by rw[if_pos rfl]at q1;exact q1))
 |false=>exact bF (fin (by rw[if_neg Bool.false_ne_true]at q1;exact q1))⟩
def zF0(u:UT):UTs:=λP ρ=>u ρ λ_ ρ1=>P.nx ρ1
theorem fP(h:UE X F e u)(hs:swapsWith e none pos.line X.env=pure false:=by rfl):US X F (.Expr e pos) (zF0 u):=⟨PS.imp (yV h.pe hs) λD σ H ⟨ρ,P,fr,h,k1,_⟩=>⟨ρ,_,fr,h,λx T H' ρ' s v q=>k1 _ _ _ s.fr (s.hs fr) q⟩⟩
theorem FrOk.set{K:W.Frag}{ρ:aT}{σ:St}{H:Hp}{i:Nat}{s:Sl}{x:V}(fr:FrOk K F ρ σ H)(v:i<ρ.length->vO K F H (some x) s)(na:dL s=true->∀a,x=.ref a->∀(j:Nat) (t:Sl),ρ[j]?=some t->dL t=true->ixv σ j≠some (.ref a)):FrOk K F (ρ.set i s) (σ.set i (some x)) H:=by
 have ne:∀j,i≠j->ixv (σ.set i (some x)) j=ixv σ j:=λj z=>by unfold ixv;rw[List.getElem?_set_ne z]
 have self:∀(h:i<ρ.length),ixv (σ.set i (some x)) i=some x:=λh=>by unfold ixv;rw[List.getElem?_set_self (by rw[<-fr.len];exact h)];rfl
 have get:∀(j:Nat) (t:Sl),(ρ.set i s)[j]?=some t->(i=j/\i<ρ.length/\t=s)\/(i≠j/\ρ[j]?=some t):=λj t e=>by
  by_cases z:i=j
  ·subst z
   have hi:i<ρ.length:=by
    have:=(List.getElem?_eq_some_iff.mp e).1
    rwa[List.length_set]at this
   rw[List.getElem?_set_self hi]at e
   exact .inl ⟨rfl,hi,(Option.some.inj e).symm⟩
  ·rw[List.getElem?_set_ne z]at e;exact .inr ⟨z,e⟩
 refine⟨fr.d0,fr.kp,by rw[List.length_set,List.length_set];exact fr.len,λj t e=>?_,λj k a t t' e1 e2 m1 m2 q1 q2=>?_⟩
 ·rcases get j t e with⟨rfl,hi,rfl⟩|⟨z,e⟩
  ·rw[self hi];exact v hi
  ·rw[ne j z];exact fr.at_ j t e
 ·rcases get j t e1 with⟨rfl,hi,rfl⟩|⟨z1,e1⟩
  ·rcases get k t' e2 with⟨rfl,_,rfl⟩|⟨z2,e2⟩
   ·rfl
   ·rw[self hi]at q1
    rw[ne k z2]at q2
    exact absurd q2 (na m1 a (Option.some.inj q1) k t' e2 m2)
  ·rcases get k t' e2 with⟨rfl,hi,rfl⟩|⟨z2,e2⟩
   ·rw[self hi]at q2
    rw[ne j z1]at q1
    exact absurd q1 (na m2 a (Option.some.inj q2) j t (by first|exact e1|assumption) m1)
   ·rw[ne j z1]at q1
    rw[ne k z2]at q2
    exact fr.ap j k a t t' e1 e2 m1 m2 q1 q2
def lX(i:Nat)(u:UT):UTs:=λP ρ=>u ρ λT ρ1=>P.nx (ρ1.set i (.va T))
theorem zEA{i:Nat}{x:Str}{pos':Pos}(hN:X.N.Nodup)(hi:X.N[i]?=some x)(hx:Loc X.env.scope x)(he:UE X F e u)(hs:swapsWith e (some (.Name x pos')) pos.line X.env=pure false:=by rfl)(hf:X.fn x=true\/X.env.scope.names.lookup x=some .local:=by first|exact .inl rfl|exact .inr rfl|assumption):
  US X F (.Assign [.Name x pos'] e pos) (lX i u):=⟨PS.imp (iP hN hi hx he.pe hs hf) λD σ H ⟨ρ,P,fr,h,k1,_⟩=>by
 refine⟨ρ,_,fr,h,λx T H' ρ' s v q=>?_⟩
 exact k1 _ _ _ (s.fr.set (s:=.va T) (λ_=>⟨x,rfl,v⟩) (λz=>absurd z Bool.false_ne_true)) (s.hs fr) q⟩
def oX(i:Nat)(u:UTl):UTs:=λP ρ=>u ρ λTs ρ1=>P.nx (ρ1.set i (.own Ts))
theorem yA{i:Nat}{u:UTl}{t:TE}(ht:∀σ H QQ,lQ X.K F u σ H QQ->t σ H QQ)(D:jB)(σ:St)(H:Hp)(h:jZ X.K F (oX i u) D σ H):lW t (lT i) D σ H:=by
 obtain⟨ρ,P,fr,h,k1,_⟩:=h
 refine ht σ H _ ⟨ρ,_,fr,h,λa xs Ts H' ρ' s n e z p q=>?_⟩
 exact k1 _ _ _ (s.fr.set (s:=.own Ts) (λ_=>⟨a,xs,rfl,e,fr.none0 n,z,p⟩) (λ_ b eb j t ej mj qj=>by cases eb;exact s.notown fr n j t ej mj qj)) (s.hs fr) q
theorem zEB{i:Nat}{x:Str}{u:UTl}{pos':Pos}(hN:X.N.Nodup)(hi:X.N[i]?=some x)(hx:Loc X.env.scope x)(he:UL X F e u)(hs:swapsWith e (some (.Name x pos')) pos.line X.env=pure false:=by rfl)(hf:X.fn x=true\/X.env.scope.names.lookup x=some .local:=by first|exact .inl rfl|exact .inr rfl|assumption):
  US X F (.Assign [.Name x pos'] e pos) (oX i u):=⟨PS.imp (iP hN hi hx he.pe hs hf) (yA λ_ _ _ h=>h)⟩
end
def zHV:Ar->Sl
 |.va T=>.va T
 |.dk=>.dk
def gZ(n:Nat)(as:List Ar):aT:=as.map zHV++List.replicate (n-as.length) .no
theorem yE{K:W.Frag}{H:Hp}{dk:Option (Addr×Addr)}{N:List Str}{vs:List V}{as:List Ar}(hd:∀p c,dk=some (p,c)->DeckAt H p c)(p:Paired (mG K dk H) vs as):FrOk K ⟨H,dk⟩ (gZ N.length as) (dJ N vs) H:=by
 have l:vs.length=as.length:=Paired.length p
 refine⟨hd,⟨λ_ _ e _=>e,hd⟩,?_,λi s e=>?_,λi j a s t e _ m _ _ _=>?_⟩
 ·unfold gZ dJ
  rw[List.length_append,List.length_append,List.length_map,List.length_map,List.length_replicate,List.length_replicate,l]
 ·unfold gZ at e
  by_cases hi:i<as.length
  ·rw[List.getElem?_append_left (by simpa using hi),List.getElem?_map]at e
   obtain⟨r,er,rfl⟩:=Option.map_eq_some_iff.mp e
   have hv:i<vs.length:=by omega
   obtain⟨r',er',h⟩:=eV p (List.getElem?_eq_getElem hv)
   rw[er]at er';cases er'
   have ex:ixv (dJ N vs) i=some vs[i]:=by
    refine zFz ?_
    unfold dJ
    rw[List.getElem?_append_left (by simpa using hv),List.getElem?_map,List.getElem?_eq_getElem hv]
    rfl
   rw[ex]
   cases r with
   |va T=>exact⟨_,rfl,h⟩
   |dk=>obtain⟨p,c,e1,e2⟩:=h;exact⟨p,c,e1,by rw[e2]⟩
  ·rw[List.getElem?_append_right (by simpa using hi),List.getElem?_replicate]at e
   split at e
   ·cases e;trivial
   ·cases e
 ·unfold gZ at e
  by_cases hi:i<as.length
  ·rw[List.getElem?_append_left (by simpa using hi),List.getElem?_map]at e
   obtain⟨r,er,rfl⟩:=Option.map_eq_some_iff.mp e
   cases r<;>cases m
  ·rw[List.getElem?_append_right (by simpa using hi),List.getElem?_replicate]at e
   split at e
   ·cases e;cases m
   ·cases e
theorem Has.pgood{P:Program}{w:World}{K:W.Frag}{mg:Str->Option Value}{base:Heap}{x:Str}{st:Stmt}{N ps:List Str}{k:Nat}{psp:PSp}{us:UTs}(h:Has K mg x st)(S:bD N ps (aO st))
  (hb:∀(kV doc pm:Value) (an:Option Addr) (cdv ct:Value) (us:List Value),us.length=ps.length->bindArgs (W.fnOf x x (fQ st) (eB st) (aO st) .none kV doc pm an cdv ct) ⟨us,[]⟩=pure (ps.zip us))
  (hbody:∀(f:Addr) (cdv:Value) (A:Around) (outer:List Env) (s:Shared) (H:Hp) (E:XK) (F:Fm),Room k (A.deeper (envOfC x (aO st) s.heap.objs.size f cdv))->USs (gS CX0 P w K mg base N x (aO st) f cdv A outer s H E).nox F (eB st) us)
  (hp:∀as R,psp as R->as.length=ps.length/\us {nx:=λ_=>R nT,rt:=R} (gZ N.length as)):aG P w K mg base (k+1) x ps psp:=by
 refine h.good S hb (λvs H Q E q=>?_) (λf cdv A outer s H vs Q E hr q=>?_)
 ·obtain⟨dk,as,R,d,p,q,_⟩:=q
  rw[Paired.length p]
  exact(hp as R q).1
 ·obtain⟨dk,as,R,d,p,q,k⟩:=q
  refine⟨_,(hbody f cdv A outer s H E ⟨H,dk⟩ hr).ps,gZ N.length as,_,yE d p,(hp as R q).2,λσ' H' ρ' fr _ q=>k _ _ _ fr.kp (.flat rfl) q,λx T H' kp v q=>k x T H' kp v q,λ_ _ _ _ _ z=>z,λ_ _ _ _ _ z=>z⟩
end L2
namespace L2
open PySem PySem.Spec PyProof.Rows WordM
def jA(K:W.Frag)(J:It)(H:Hp)(Ts:List Tv):Prop:=∀H1,HS H H1->(∀i,i<Ts.length->J.go i H1)/\(∀i x H2,i<Ts.length->J.yld i H1 x H2->Same H1 H2/\∃T,Ts[i]?=some T/\VA K H2 x T)/\J.stop Ts.length H1
def zAJ(K:W.Frag)(F:Fm)(u:UTl):TI:=λσ H R=>∃ρ Q,FrOk K F ρ σ H/\u ρ Q/\∀J Ts H' ρ',Stp K F σ ρ H ρ' H'->jA K J H' Ts->Q Ts ρ'->R J H'
structure UI (X:Cx) (F:Fm) (tg e:Expr) (u:UTl):Prop where
 pi:PI X tg e (zAJ X.K F u)
theorem PI.imp{X:Cx}{tg e:Expr}{t t':TI}(h:PI X tg e t)(i:∀σ H Q,t' σ H Q->t σ H Q):PI X tg e t':=λpins s σ H Q I q=>h pins s σ H Q I (i σ H Q q)
def ItR(X:Cx)(tg:Expr)(r:V->Hp->(It->Hp->Prop)->Prop):Prop:=∀(pins:List (Addr×Obj)) (s:Shared) (σ:St) (H:Hp) (x:V) (v:Value) (R:It->Hp->Prop),Inv X pins σ H s->RelV x v->r x H R->wpAny (model X.prog X.w) X.A (pyIter v) (PIE X pins σ tg R) X.xe s
section
variable{X:Cx}{F:Fm}{tg e:Expr}
theorem ItR.or{r r':V->Hp->(It->Hp->Prop)->Prop}(h:ItR X tg r)(h':ItR X tg r'):ItR X tg (λx H R=>r x H R\/r' x H R):=λpins s σ H x v R I rx q=>by
 rcases q with q|q
 ·exact h pins s σ H x v R I rx q
 ·exact h' pins s σ H x v R I rx q
theorem lF{pins:List (Addr×Obj)}{σ:St}{H:Hp}{s:Shared}(I:Inv X pins σ H s):∀b∈[s.heap.objs.size],dB X pins H b:=λb hb=>by
 rw[List.mem_singleton.mp hb]
 exact I.fpOk (Nat.le_refl _) (I.hok.fresh (Nat.le_refl _))
theorem it_list:ItR X tg (λx H R=>∃a xs,x=.ref a/\SqL X.K H a xs/\R (Itl X.K a) H):=by
 rintro pins s σ H _ v R I r ⟨a,xs,rfl,hq,q⟩
 cases r
 obtain⟨its,rv,p,hz⟩:=I.list hq
 exact wpAny_pyIter_list p.isList ⟨_,[s.heap.objs.size],_,_,H,rfl,I.kept (t':=s.toks) λb o=>Heap.get?_push_of_some _,zB8 a _,⟨_,Heap.get?_push_size _ rfl,rfl,rfl⟩,lF I,q⟩
theorem it_tup:ItR X tg (λx H R=>∃a xs,x=.ref a/\SqT X.K H a xs/\R (Itt X.K a) H):=by
 rintro pins s σ H _ v R I r ⟨a,xs,rfl,hq,q⟩
 cases r
 obtain⟨its,rv,p,hz⟩:=I.tuple hq
 exact wpAny_pyIter_tuple (show s.heap.IsTuple a its.toArray from p) ⟨_,[s.heap.objs.size],_,_,H,rfl,I.kept (t':=s.toks) λb o=>Heap.get?_push_of_some _,zBI a _,⟨_,Heap.get?_push_size _ rfl,rfl,rfl⟩,lF I,q⟩
theorem it_str:ItR X tg (λx H R=>∃z,x=.str z/\R (Its z) H):=by
 rintro pins s σ H _ v R I r ⟨z,rfl,q⟩
 obtain⟨t,rfl⟩:=r
 cases ha:z.cps.all (· < 128) with
 |true=>exact wpAny_pyIter_ascii ha ⟨_,[s.heap.objs.size],_,_,H,rfl,I.kept (t':=s.toks) λb o=>Heap.get?_push_of_some _,zB7 _ z t,⟨_,Heap.get?_push_size _ rfl,rfl,rfl⟩,lF I,q⟩
 |false=>exact wpAny_pyIter_wide ha ⟨_,[s.heap.objs.size],_,_,H,rfl,I.kept (t':=s.toks) λb o=>Heap.get?_push_of_some _,zB6 _ z t,⟨_,Heap.get?_push_size _ rfl,rfl,rfl⟩,lF I,q⟩
theorem zEl:ItR X tg (λx H R=>∃a ob kvs,x=.ref a/\FzD H a ob kvs/\R (ItD a ob kvs) H):=by
 rintro pins s σ H _ v R I r ⟨a,ob,kvs,rfl,hz,q⟩
 cases r
 obtain⟨e,hs,hl,vs,es,ep,r,dd,hd⟩:=nQ I hz
 exact wpAny_pyIter_dict hs dd ⟨_,[s.heap.objs.size],_,_,H,rfl,I.kept (t':=s.toks) λb o=>Heap.get?_push_of_some _,zCa (a:=a) (ob:=ob) (kvs:=kvs) hd,⟨_,Heap.get?_push_size _ rfl,rfl,by rw[<-lE r];rfl⟩,lF I,q⟩
def pIt:Tv->(List Tv->Prop)->Prop
 |.seq _ Ts,Q=>Q Ts
 |.leaf (.str z),Q=>Q (z.cps.toList.map λc=>sT ⟨#[c]⟩)
 |.dct kts,Q=>Q (kts.map λkt=>sT kt.1)
 |_,_=>False
theorem cF{K:W.Frag}{H:Hp}{a:Addr}{xs:List V}(h:PSeq K H false a xs):SqL K H a xs:=by
 obtain⟨ob,h⟩:=h
 exact .inl (.inr ⟨ob,h⟩)
theorem zEm{K:W.Frag}{H:Hp}{a:Addr}{xs:List V}{Ts:List Tv}(h:PSeq K H false a xs)(p:VAs K H xs Ts):jA K (Itl K a) H Ts:=λH1 hs=>by
 have l:xs.length=Ts.length:=Paired.length p
 have q:=cF (h.hs hs)
 refine⟨λi hi=>⟨xs,xs[i]'(by omega),q,List.getElem?_eq_getElem _⟩,λi x H2 hi ⟨e,y⟩=>?_,⟨xs,q,by omega⟩⟩
 subst e
 obtain⟨T,eT,v⟩:=eV (p.hs hs) (y xs q)
 exact⟨Same.refl _,T,eT,v⟩
theorem zFB{K:W.Frag}{H:Hp}{a:Addr}{xs:List V}{Ts:List Tv}(h:PSeq K H true a xs)(p:VAs K H xs Ts):jA K (Itt K a) H Ts:=λH1 hs=>by
 have l:xs.length=Ts.length:=Paired.length p
 have q:SqT K H1 a xs:=h.hs hs
 refine⟨λi hi=>⟨xs,xs[i]'(by omega),q,List.getElem?_eq_getElem _⟩,λi x H2 hi ⟨e,y⟩=>?_,⟨xs,q,by omega⟩⟩
 subst e
 obtain⟨T,eT,v⟩:=eV (p.hs hs) (y xs q)
 exact⟨Same.refl _,T,eT,v⟩
theorem zFC{K:W.Frag}{H:Hp}{z:Str}:jA K (Its z) H (z.cps.toList.map λc=>sT ⟨#[c]⟩):=λH1 hs=>by
 refine⟨λi hi=>(show i<z.cps.size by simpa using hi),λi x H2 hi ⟨e,c,ec,ex⟩=>?_,by simp[Its]⟩
 subst e ex
 refine⟨Same.refl _,sT ⟨#[c]⟩,?_,.flat rfl⟩
 rw[List.getElem?_map,Array.getElem?_toList,ec]
 rfl
theorem zEo{K:W.Frag}{H:Hp}{a:Addr}{ob:Obj}{kvs:List (Key×V)}{kts:List (Str×Tv)}(h:FzD H a ob kvs)(p:VAk K H kvs kts):jA K (ItD a ob kvs) H (kts.map λkt=>sT kt.1):=λH1 hs=>by
 have l:kvs.length=kts.length:=Paired.length p
 have q:FzD H1 a ob kvs:=hs _ _ rfl h
 refine⟨λi hi=>⟨q,by rw[List.length_map]at hi;omega⟩,λi x H2 hi ⟨e,k,v,ek,ex⟩=>?_,⟨q,by rw[List.length_map];omega⟩⟩
 subst e ex
 obtain⟨kt,ekt,e1,_⟩:=eV p ek
 refine⟨Same.refl _,sT kt.1,by rw[List.getElem?_map,ekt];rfl,?_⟩
 have e1:k=.inr kt.1:=e1
 rw[e1]
 exact .flat rfl
def uIt(u:UT):UTl:=λρ Q=>u ρ λT ρ1=>pIt T λTs=>Q Ts ρ1
theorem bR{u:UT}(h:UE X F e u):UI X F tg e (uIt u):=⟨λpins s σ H R I ⟨ρ,Q,fr,hu,k⟩=>by
 have IT:ItR X tg _:=it_list.or (it_tup.or (it_str.or zEl))
 refine thn (h.pe pins s σ H (λx H1=>_) I ⟨ρ,_,fr,hu,λx T H' ρ' s v q=>?_⟩) λv s1 ⟨x,H1,I1,r1,q1⟩=>IT pins s1 σ H1 x v R I1 r1 q1
 unfold pIt at q
 split at q
 ·rename_i t Ts
  obtain⟨a,xs,rfl,hs,z,p⟩:=v.seqI
  cases t with
  |false=>exact .inl ⟨a,xs,rfl,cF hs,k _ _ _ _ s (zEm hs p) q⟩
  |true=>exact .inr (.inl ⟨a,xs,rfl,hs,k _ _ _ _ s (zFB hs p) q⟩)
 ·obtain⟨rfl,_⟩:=v.leafI
  exact .inr (.inr (.inl ⟨_,rfl,k _ _ _ _ s zFC q⟩))
 ·obtain⟨a,kvs,rfl,⟨ob,hd⟩,n,z,p⟩:=v.dctI
  exact .inr (.inr (.inr ⟨a,ob,kvs,rfl,hd,k _ _ _ _ s (zEo hd p) q⟩))
 ·exact False.elim q⟩
def fW(lo:Int)(n:Nat):List Tv:=(List.range n).map λ(i:Nat)=>iT (lo+i)
theorem iG(lo:Int)(n:Nat):(fW lo n).length=n:=by simp[fW]
theorem jJ{lo:Int}{n i:Nat}{T:Tv}(h:(fW lo n)[i]?=some T):i<n/\T=iT (lo+i):=by
 have l:=(List.getElem?_eq_some_iff.mp h).1
 rw[iG]at l
 refine⟨l,?_⟩
 simp only[fW,List.getElem?_map,List.getElem?_range l]at h
 exact(Option.some.inj h).symm
theorem zDp{K:W.Frag}{H:Hp}{lo:Int}{n:Nat}:jA K (Itr lo n) H (fW lo n):=λH1 hs=>by
 have l:(fW lo n).length=n:=by simp[fW]
 refine⟨λi hi=>by rw[l]at hi;exact hi,λi x H2 hi ⟨e,ex⟩=>?_,by rw[l];exact Nat.le_refl _⟩
 subst e ex
 rw[l]at hi
 exact⟨Same.refl _,iT (lo+i),by simp[fW,hi],.flat rfl⟩
def zFQ(ua:UTa):UTl:=λρ Q=>uVs ua ρ λTs ρ1=>∃j:Int,Ts=[iT j] /\ -(2 ^ 62)<=j/\j<2 ^ 62/\Q (fW 0 j.toNat) ρ1
theorem gC{a:Expr}{ua:UTa}{p pos:Pos}(hg:Gl X "range")(hm:X.mg "range"=none)(ha:UA X F [a] ua)(hs:starEach [a] X.env=[(false,eval a X.env)]:=by rfl):UI X F tg (.Call (.Name "range" p) [a] [] pos) (zFQ ua):=⟨PI.imp (zCo hg hm ha.pa hs) λσ H R ⟨ρ,Q,fr,hu,k⟩=>by
 refine⟨ρ,_,fr,hu,λxs as H1 ρ1 s1 p1 q1=>?_⟩
 obtain⟨Ts,rfl,j,rfl,h1,h2,q⟩:=gX q1
 cases gY p1 with
 |cons v t=>
  cases t
  obtain⟨rfl,_⟩:=v.leafI
  exact⟨j,rfl,h1,h2,k _ _ _ _ s1 zDp q⟩⟩
theorem zEn{K:W.Frag}{H:Hp}{a:Addr}{xs:List V}{Ts:List Tv}(h:PSeq K H false a xs)(p:VAs K H xs Ts):jA K (ItE K a) H (Ts.mapIdx λi T=>.seq true [iT (i:Nat),T]):=λH1 hs=>by
 have l:xs.length=Ts.length:=Paired.length p
 have q:=cF (h.hs hs)
 refine⟨λi hi=>⟨xs,xs[i]'(by simpa[l]using hi),q,List.getElem?_eq_getElem _⟩,λi x H2 hi ⟨b,y,ex,nb,e,hy⟩=>?_,⟨xs,q,by simp[l]⟩⟩
 subst e ex
 obtain⟨T,eT,v⟩:=eV (p.hs hs) (hy xs q)
 refine⟨dI nb,.seq true [iT (i:Nat),T],by rw[List.getElem?_mapIdx,eT];rfl,VA.seq (t:=true) (SqT.of bE) (show 2<=100000 by decide) (.cons (.flat rfl) (.cons (v.hs (iS nb)) .nil))⟩
def zFS(ua:UTa):UTl:=λρ Q=>uVs ua ρ λTs ρ1=>∃Us,Ts=[.seq false Us]/\Q (Us.mapIdx λi T=>.seq true [iT (i:Nat),T]) ρ1
theorem yO{a:Expr}{ua:UTa}{es:List Expr}{ek:Nat}{p pos pos':Pos}(hg:Gl X "enumerate")(hm:X.mg "enumerate"=none)(ha:UA X F [a] ua)(hs:starEach [a] X.env=[(false,eval a X.env)]:=by rfl):UI X F (.Tuple es ek pos') (.Call (.Name "enumerate" p) [a] [] pos) (zFS ua):=⟨PI.imp (zD0 hg hm ha.pa hs) λσ H R ⟨ρ,Q,fr,hu,k⟩=>by
 refine⟨ρ,_,fr,hu,λxs as H1 ρ1 s1 p1 q1=>?_⟩
 obtain⟨Ts,rfl,Us,rfl,q⟩:=gX q1
 cases gY p1 with
 |cons v t=>
  cases t
  obtain⟨a,xs,rfl,hq,z,p⟩:=v.seqI
  exact⟨a,rfl,⟨xs,cF hq⟩,k _ _ _ _ s1 (zEn hq p) q⟩⟩
end
abbrev UG:=Tv->aT->(aT->Prop)->Prop
abbrev UGs:=List Tv->aT->(aT->Prop)->Prop
def zAK(K:W.Frag)(F:Fm)(m:Nat)(g:UG):TG:=λv σ H QQ=>∃T ρ Q,VA K H v T/\FrOk K F ρ σ H/\g T ρ Q/\∀σ' ρ',FrOk K F ρ' σ' H->σ'.length=σ.length->σ'.drop m=σ.drop m->ρ'.drop m=ρ.drop m->Sbv ρ' ρ->Q ρ'->QQ σ' H
def zFt(K:W.Frag)(F:Fm)(m:Nat)(g:UGs):TGs:=λvs σ H QQ=>∃Ts ρ Q,VAs K H vs Ts/\FrOk K F ρ σ H/\g Ts ρ Q/\∀σ' ρ',FrOk K F ρ' σ' H->σ'.length=σ.length->σ'.drop m=σ.drop m->ρ'.drop m=ρ.drop m->Sbv ρ' ρ->Q ρ'->QQ σ' H
structure UGt (X:Cx) (F:Fm) (m:Nat) (tg:Expr) (g:UG):Prop where
 pg:PG X tg (zAK X.K F m g)
structure pQ (X:Cx) (F:Fm) (m:Nat) (tgs:List Expr) (g:UGs):Prop where
 pg:PGs X tgs (zFt X.K F m g)
theorem PG.imp{X:Cx}{tg:Expr}{t t':TG}(h:PG X tg t)(i:∀v σ H Q,t' v σ H Q->t v σ H Q):PG X tg t':=λpins s σ H v u Q I r q=>h pins s σ H v u Q I r (i v σ H Q q)
theorem PGs.imp{X:Cx}{tg:List Expr}{t t':TGs}(h:PGs X tg t)(i:∀v σ H Q,t' v σ H Q->t v σ H Q):PGs X tg t':=λpins s σ H v u Q I r q=>h pins s σ H v u Q I r (i v σ H Q q)
section
variable{X:Cx}{F:Fm}{pos:Pos}{m:Nat}
def gN(i:Nat):UG:=λT ρ Q=>Q (ρ.set i (.va T))
theorem drop_set{α:Type}{l:List α}{i m:Nat}{x:α}(h:i<m):(l.set i x).drop m=l.drop m:=by
 rw[List.drop_set,if_pos h]
theorem zDR{ρ:aT}{i:Nat}{T:Tv}:Sbv (ρ.set i (.va T)) ρ:=λj s e mm=>by
 by_cases z:i=j
 ·subst z
  have hi:i<ρ.length:=by
   have:=(List.getElem?_eq_some_iff.mp e).1
   rwa[List.length_set]at this
  rw[List.getElem?_set_self hi]at e
  cases e;cases mm
 ·rw[List.getElem?_set_ne z]at e;exact⟨s,e,mm⟩
theorem cN(i:Nat){x:Str}(hm:i<m)(hN:X.N.Nodup)(hi:X.N[i]?=some x)(hx:Loc X.env.scope x)(hf:X.fn x=true\/X.env.scope.names.lookup x=some .local:=by first|exact .inl rfl|exact .inr rfl|assumption):UGt X F m (.Name x pos) (gN i):=⟨PG.imp (zD2 hN hi hx hf) λv σ H QQ ⟨T,ρ,Q,vv,fr,h,k⟩=>
 k _ _ (fr.set (s:=.va T) (λ_=>⟨v,rfl,vv⟩) (λz=>absurd z Bool.false_ne_true)) List.length_set (drop_set hm) (drop_set hm) zDR h⟩
def gT(n:Nat)(g:UGs):UG:=λT ρ Q=>∃Ts,T=.seq true Ts/\Ts.length=n/\g Ts ρ Q
def gNl:UGs:=λTs ρ Q=>Ts=[]/\Q ρ
def gCn(g:UG)(gs:UGs):UGs:=λTs ρ Q=>∃T r,Ts=T::r/\g T ρ λρ1=>gs r ρ1 Q
theorem sC:pQ X F m [] gNl:=⟨PGs.imp zD1 λvs σ H QQ ⟨Ts,ρ,Q,vv,fr,⟨e,h⟩,k⟩=>by
 subst e
 cases vv
 exact⟨rfl,k _ _ fr rfl rfl rfl (Sbv.refl _) h⟩⟩
theorem jI{e:Expr}{es:List Expr}{g:UG}{gs:UGs}(h1:UGt X F m e g)(h2:pQ X F m es gs)(hs:(assignEach (e::es) X.env).map (·.2)=assign e X.env::(assignEach es X.env).map (·.2):=by rfl):pQ X F m (e::es) (gCn g gs):=⟨PGs.imp (zDb h1.pg h2.pg hs) λvs σ H QQ ⟨Ts,ρ,Q,vv,fr,⟨T,r,e,h⟩,k⟩=>by
 subst e
 cases vv with
 |cons v vs'=>
  refine⟨_,_,rfl,T,ρ,_,v,fr,h,λσ' ρ' f' l d dr sb q=>⟨r,ρ',Q,vs',f',q,λσ2 ρ2 f2 l2 d2 dr2 sb2 q2=>?_⟩⟩
  exact k _ _ f2 (l2.trans l) (d2.trans d) (dr2.trans dr) (sb.trans sb2) q2⟩
theorem tM{es:List Expr}{k:Nat}{g:UGs}(n:Nat)(hc:X.calm=true)(h:pQ X F m es g)(hn:(assignEach es X.env).length=n:=by rfl)(hst:(assignEach es X.env).findIdx? (·.1)=none:=by rfl):UGt X F m (.Tuple es k pos) (gT n g):=⟨PG.imp (zE8 hc h.pg hn hst) λv σ H QQ ⟨T,ρ,Q,vv,fr,⟨Ts,e,el,h⟩,k⟩=>by
 subst e
 obtain⟨a,xs,rfl,hq,z,p⟩:=vv.seqI
 exact⟨a,xs,rfl,hq,(Paired.length p).trans el,Ts,ρ,Q,p,fr,h,k⟩⟩
end
def blk(own:Nat)(fr:List Nat)(ρ:aT):aT:=List.replicate own .no++fr.map λi=>ρ.getD i .no
def kW:List Nat->List Sl->aT->aT
 |i::fr,s::ss,ρ=>kW fr ss (ρ.set i s)
 |_,_,ρ=>ρ
def bck(own:Nat)(fr:List Nat)(ρ ρ':aT):aT:=kW fr (ρ'.drop own) ρ
def eF(own:Nat)(fr:List Nat)(g:UG)(tf:UTt)(ue:UT):List Tv->aT->(List Tv->aT->Prop)->Prop
 |[],ρ,Q=>Q [] ρ
 |T::Ts,ρ,Q=>g T (blk own fr ρ) λρ1=>tf ρ1 λb ρ2=>if b=true then ue ρ2 λU ρ3=>eF own fr g tf ue Ts (bck own fr ρ ρ3) λUs ρ4=>Q (U::Us) ρ4 else eF own fr g tf ue Ts (bck own fr ρ ρ2) Q
def hJ(own:Nat)(fr:List Nat)(ui:UTl)(g:UG)(tf:UTt)(ue:UT):UTl:=λρ Q=>ui ρ λTs ρ1=>Ts.length<=100000/\eF own fr g tf ue Ts ρ1 Q
theorem wA:∀(fr:List Nat) (ss:List Sl) (ρ:aT),(kW fr ss ρ).length=ρ.length
 |[],_,_=>rfl
 |_::_,[],_=>rfl
 |i::fr,s::ss,ρ=>by show(kW fr ss _).length=_;rw[wA fr ss,List.length_set]
theorem pZ:∀(fr:List Nat) (ss:List Sl) (ρ:aT) (i:Nat) (s:Sl),fr.length<=ss.length->(kW fr ss ρ)[i]?=some s->(∃j:Nat,fr[j]?=some i/\ss[j]?=some s)\/(i∉fr/\ρ[i]?=some s)
 |[],_,_,i,s,_,h=>.inr ⟨by simp,h⟩
 |_::_,[],_,_,_,l,_=>by simp at l
 |i0::fr,s0::ss,ρ,i,s,l,h=>by
  rcases pZ fr ss (ρ.set i0 s0) i s (by simpa using l) h with⟨j,e1,e2⟩|⟨n,e⟩
  ·exact .inl ⟨j+1,by simpa using e1,by simpa using e2⟩
  ·by_cases z:i0=i
   ·subst z
    have hi:i0<ρ.length:=by
     have:=(List.getElem?_eq_some_iff.mp e).1
     rwa[List.length_set]at this
    rw[List.getElem?_set_self hi]at e
    exact .inl ⟨0,rfl,by simpa using e⟩
   ·rw[List.getElem?_set_ne z]at e
    exact .inr ⟨by simp[n,Ne.symm z],e⟩
theorem mX{own:Nat}{fr:List Nat}{σ ow:St}(ho:ow.length=own){j i:Nat}(h:fr[j]?=some i):ixv (ow++σf fr σ) (own+j)=ixv σ i:=by
 unfold ixv σf
 rw[List.getElem?_append_right (by omega),show own+j-ow.length=j by omega,List.getElem?_map,h]
 show(some (σ.getD i none)).join=_
 rw[List.getD_eq_getElem?_getD]
 cases σ[i]? with
 |none=>rfl
 |some o=>rfl
section
variable{K:W.Frag}{F:Fm}{ρ ρ4 ρ6:aT}{σ ow:St}{H H6:Hp}{own:Nat}{fr:List Nat}
theorem jP{i:Nat}{s:Sl}(h:(blk own fr ρ)[i]?=some s):(i<own/\s=.no)\/∃j k,i=own+j/\fr[j]?=some k/\s=ρ.getD k .no:=by
 unfold blk at h
 by_cases hi:i<own
 ·rw[List.getElem?_append_left (by simpa using hi),List.getElem?_replicate,if_pos hi]at h
  exact .inl ⟨hi,(Option.some.inj h).symm⟩
 ·rw[List.getElem?_append_right (by simpa using hi),List.length_replicate,List.getElem?_map]at h
  obtain⟨k,e,rfl⟩:=Option.map_eq_some_iff.mp h
  exact .inr ⟨i-own,k,by omega,e,rfl⟩
theorem jL{k:Nat}{s:Sl}(e:s=ρ.getD k .no)(m:s≠.no):ρ[k]?=some s:=by
 rw[List.getD_eq_getElem?_getD]at e
 cases q:ρ[k]? with
 |none=>rw[q]at e;exact absurd e m
 |some t=>rw[q]at e;rw[e];rfl
theorem FrOk.pick(f:FrOk K F ρ σ H)(nd:fr.Nodup):FrOk K F (blk own fr ρ) (σc own fr σ) H:=by
 have val:∀{j k:Nat},fr[j]?=some k->ixv (σc own fr σ) (own+j)=ixv σ k:=λh=>mX (List.length_replicate) h
 refine⟨f.d0,f.kp,?_,λi s e=>?_,λi i' a s t e e' m m' q q'=>?_⟩
 ·unfold blk σc σf
  simp
 ·rcases jP e with⟨_,rfl⟩|⟨j,k,rfl,ek,es⟩
  ·trivial
  ·rw[val ek]
   cases s with
   |no=>trivial
   |_=>exact f.at_ k _ (jL es (λz=>by cases z))
 ·rcases jP e with⟨_,rfl⟩|⟨j,k,rfl,ek,es⟩
  ·cases m
  ·rcases jP e' with⟨_,rfl⟩|⟨j',k',rfl,ek',es'⟩
   ·cases m'
   ·rw[val ek]at q
    rw[val ek']at q'
    have:=f.ap k k' a s t (jL es (λz=>by rw[z]at m;cases m)) (jL es' (λz=>by rw[z]at m';cases m')) m m' q q'
    subst this
    have h1:=(List.getElem?_eq_some_iff.mp ek).1
    rw[(List.getElem?_inj h1 nd).mp (ek.trans ek'.symm)]
theorem Stp.back(f:FrOk K F ρ σ H)(nd:fr.Nodup)(s:Stp K F (ow++σf fr σ) ρ4 H ρ6 H6)(f4:FrOk K F ρ4 (ow++σf fr σ) H)(ho:ow.length=own)(hd:ρ4.drop own=(blk own fr ρ).drop own)(sb:Sbv ρ4 (blk own fr ρ)):Stp K F σ ρ H (bck own fr ρ ρ6) H6:=by
 -- a slot of the block that is one's own is the def's own
 have dm:∀(i:Nat) (t:Sl) (a:Addr),ρ4[i]?=some t->dL t=true->ixv (ow++σf fr σ) i=some (.ref a)->∃k u,k∈fr/\ρ[k]?=some u/\dL u=true/\ixv σ k=some (.ref a):=λi t a e m q=>by
  obtain⟨u,eu,mu⟩:=sb i t e m
  rcases jP eu with⟨_,rfl⟩|⟨j,k,rfl,ek,es⟩
  ·cases mu
  ·exact⟨k,u,List.mem_of_getElem? ek,jL es (λz=>by rw[z]at mu;cases mu),mu,by rw[<-mX ho ek];exact q⟩
 have st:Stay F ρ σ H H6:=λb o e d n=>s.st b o e d λi t e1 m q=>by
  obtain⟨k,u,_,eu,mu,qu⟩:=dm i t b e1 m q
  exact n k u eu mu qu
 have l6:fr.length<=(ρ6.drop own).length:=by
  have:=s.fr.len
  rw[List.length_append]at this
  rw[List.length_drop,this,ho]
  unfold σf
  rw[List.length_map]
  omega
 have sub:Sbv (bck own fr ρ ρ6) ρ:=λi t e m=>by
  rcases pZ fr _ ρ i t l6 e with⟨j,ej,et⟩|⟨_,e⟩
  ·rw[List.getElem?_drop]at et
   obtain⟨u,eu,mu⟩:=s.sub _ t et m
   have:(ρ4.drop own)[j]?=some u:=by rw[List.getElem?_drop];exact eu
   rw[hd,List.getElem?_drop]at this
   rcases jP this with⟨z,_⟩|⟨j',k,ejj,ek,es⟩
   ·omega
   ·have:j'=j:=by omega
    subst this
    rw[ej]at ek;cases ek
    exact⟨u,jL es (λz=>by rw[z]at mu;cases mu),mu⟩
  ·exact⟨t,e,m⟩
 have hs:HS H H6:=s.hs f4
 refine⟨⟨f.d0,s.fr.kp,by unfold bck;rw[wA];exact f.len,λi t e=>?_,λi i' a t t' e e' m m' q q'=>?_⟩,st,sub,s.tr⟩
 ·rcases pZ fr _ ρ i t l6 e with⟨j,ej,et⟩|⟨ni,e⟩
  ·rw[List.getElem?_drop]at et
   have:=s.fr.at_ _ t et
   rwa[mX ho ej]at this
  ·have h:=f.at_ i t e
   have keep:∀a o,dL t=true->ixv σ i=some (.ref a)->H a=some o->H6 a=some o:=λa o m q e1=>s.st a o e1 (f.fresh_nodk (f.own_at e m q).2) λi' t' e2 m2 q2=>by
    obtain⟨k,u,hk,eu,mu,qu⟩:=dm i' t' a e2 m2 q2
    have:=f.ap k i a u t eu e mu m qu q
    subst this
    exact ni hk
   cases t with
   |no=>trivial
   |va T=>obtain⟨y,e1,v⟩:=h;exact⟨y,e1,v.hs hs⟩
   |own Ts=>obtain⟨a,xs,e1,e2,e3,z,p⟩:=h;exact⟨a,xs,e1,keep a _ rfl e1 e2,e3,z,p.hs hs⟩
   |dct kts=>obtain⟨a,kvs,e1,e2,e3,n,z,p⟩:=h;exact⟨a,kvs,e1,keep a _ rfl e1 e2,e3,n,z,p.hs hs⟩
   |dk=>exact h
 ·obtain⟨u,eu,mu⟩:=sub i t e m
  obtain⟨u',eu',mu'⟩:=sub i' t' e' m'
  exact f.ap i i' a u u' eu eu' mu mu' q q'
end
theorem mW{K:W.Frag}{F:Fm}{own:Nat}{fr:List Nat}{ui:UTl}{g:UG}{tf:UTt}{ue:UT}(nd:fr.Nodup)(σ:St)(H:Hp)(QQ:VK)(h:lQ K F (hJ own fr ui g tf ue) σ H QQ):oM own fr (zAJ K F ui) (zAK K F own g) (oP K F tf) (dY K F ue) σ H QQ:=by
 obtain⟨ρ,Q,f,h,k⟩:=h
 refine⟨ρ,_,f,h,λJ Ts H1 ρ1 s1 it q1 a na=>?_⟩
 obtain⟨len,q1⟩:=q1
 refine⟨Ts.length,λi ys H2=>∃Us ρi,Stp K F σ ρ1 H1 ρi H2/\VAs K H2 ys Us/\Us.length<=i/\eF own fr g tf ue (Ts.drop i) ρi (λVs ρ'=>Q (Us++Vs) ρ'),⟨[],ρ1,Stp.same s1.fr (dI na),.nil,Nat.le_refl _,q1⟩,?_⟩
 rintro i ys H2 hi ha ⟨Us,ρi,si,p,hl,q⟩
 have hs1:=si.hs s1.fr
 obtain⟨go,yld,stop⟩:=it H2 hs1
 by_cases hlt:i<Ts.length
 ·refine .inr ⟨hlt,go i hlt,λx H3 hy=>?_⟩
  obtain⟨sm,T,eT,vx⟩:=yld i x H3 hlt hy
  have s3:=si.trans (Stp.same si.fr sm)
  have ha3:=sm _ _ ha
  have ed:Ts.drop i=T::Ts.drop (i+1):=by
   rw[List.drop_eq_getElem_cons hlt]
   congr 1
   rw[List.getElem?_eq_getElem hlt]at eT
   exact Option.some.inj eT
  rw[ed]at q
  have nodk:=s1.fr.none_nodk na
  have nown:=s3.notown s1.fr na
  refine⟨T,blk own fr ρi,_,vx,s3.fr.pick nd,q,λσ4 ρ4 f4 l4 d4 dr4 sb4 q4=>?_⟩
  have e4:σ4=σ4.take own++σf fr σ:=by
   have:σ4.drop own=σf fr σ:=by
    rw[d4]
    unfold σc
    rw[List.drop_append_of_le_length (by simp),List.drop_of_length_le (by simp),List.nil_append]
   rw[<-this,List.take_append_drop]
  have lo:(σ4.take own).length=own:=by
   rw[List.length_take,l4]
   unfold σc
   simp
  have notin:∀(j:Nat) (t:Sl),ρ4[j]?=some t->dL t=true->ixv σ4 j≠some (.ref a):=λj t e m z=>by
   obtain⟨u,eu,mu⟩:=sb4 j t e m
   rcases jP eu with⟨_,rfl⟩|⟨j',k,rfl,ek,es⟩
   ·cases mu
   ·rw[e4,mX lo ek]at z
    exact nown k u (jL es (λz=>by rw[z]at mu;cases mu)) mu z
  refine⟨⟨σ4.take own,lo,e4⟩,ρ4,_,f4,q4,λb H5 ρ5 s5 q5=>?_⟩
  have a5:H5 a=some (.lst ys):=s5.st a _ ha3 nodk notin
  cases b with
  |true=>
   refine cC ?_
   rw[if_pos rfl]at q5
   refine⟨ρ5,_,s5.fr,q5,λy U H6 ρ6 s6 v6 q6=>?_⟩
   have s46:=s5.trans s6
   have a6:H6 a=some (.lst ys):=s46.st a _ ha3 nodk notin
   have lys:ys.length=Us.length:=Paired.length p
   refine⟨a6,zH (by omega),Us++[U],bck own fr ρi ρ6,?_,?_,by rw[List.length_append,List.length_singleton];omega,?_⟩
   ·rw[e4]at s46 f4
    exact(s3.trans (Stp.back s3.fr nd s46 f4 lo dr4 sb4)).put s1.fr na a6 rfl _
   ·have h36:=s46.hs f4
    exact VAs.hs (fH a6 rfl) (Paired.snoc ((p.hs sm.hs).hs h36) v6)
   ·simpa using q6
  |false=>
   refine bF ?_
   rw[if_neg Bool.false_ne_true]at q5
   refine⟨a5,Us,bck own fr ρi ρ5,?_,?_,by omega,q5⟩
   ·rw[e4]at s5 f4
    exact s3.trans (Stp.back s3.fr nd s5 f4 lo dr4 sb4)
   ·exact(p.hs sm.hs).hs (s5.hs f4)
 ·have e:i=Ts.length:=by omega
  subst e
  rw[List.drop_length]at q
  have q:Q (Us++[]) ρi:=q
  rw[List.append_nil]at q
  exact .inl ⟨stop,k a ys Us H2 ρi (s1.trans si) (s1.non na) ha (by omega) p q⟩
section
variable{X:Cx}{F:Fm}{sc:Scope}{XN N:List Str}{own:Nat}{fr:List Nat}{scope:Scope}{elt tg iter:Expr}{ifs:List Expr}{pos:Pos}{ui:UTl}{g:UG}{tf:UTt}{ue:UT}
structure UF (X:Cx) (F:Fm) (ifs:List Expr) (u:UTt):Prop where
 pf:PFs X ifs (oP X.K F u)
def lV:UTt:=λρ Q=>Q true ρ
theorem gF:UF X F [] lV:=⟨λpins s σ H Q I ⟨ρ,Q',f,h,k⟩=>zFb pins s σ H Q I (k _ _ _ (Stp.refl f) h)⟩
theorem fR{c:Expr}{t:UTt}(h:UB X F c t):UF X F [c] t:=⟨zFa h.pt⟩
theorem yN(hc:X.calm=true)(S:iE sc XN N own fr scope)(nd:fr.Nodup)(hi:UI X F tg iter ui)
  (hg:∀cl C fp s H,UGt (bS X N scope cl C fp s H) F own tg g) (hf:∀cl C fp s H,UF (bS X N scope cl C fp s H) F ifs tf) (he:∀cl C fp s H,UE (bS X N scope cl C fp s H) F elt ue)
  (hs:∀x,foldedSetIterable iter X.env x=pure x:=by intro _;rfl) (hsc:X.env.scope=sc:=by rfl) (hxn:X.N=XN:=by rfl):UL X F (.ListComp elt [⟨tg,iter,ifs,0⟩] scope pos) (hJ own fr ui g tf ue):=
 ⟨PE.imp (zD3 hc S hi.pi (λcl C fp s H=>(hg cl C fp s H).pg) (λcl C fp s H=>(hf cl C fp s H).pf) (λcl C fp s H=>(he cl C fp s H).pe) hs hsc hxn) (mW nd)⟩
theorem zDE{i:Nat}{x:Str}{pos' spos:Pos}(hc:X.calm=true)(hN:X.N.Nodup)(hx:X.N[i]?=some x)(hl:Loc X.env.scope x)(S:iE sc XN N own fr scope)(nd:fr.Nodup)(hi:UI X F tg iter ui)
  (hg:∀cl C fp s H,UGt (bS X N scope cl C fp s H) F own tg g) (hf:∀cl C fp s H,UF (bS X N scope cl C fp s H) F ifs tf) (he:∀cl C fp s H,UE (bS X N scope cl C fp s H) F elt ue)
  (hsw:swapsWith (.ListComp elt [⟨tg,iter,ifs,0⟩] scope pos) (some (.Name x pos')) spos.line X.env=pure true:=by rfl)
  (hf':X.fn x=true\/X.env.scope.names.lookup x=some .local:=by first|exact .inl rfl|exact .inr rfl|assumption)
  (hs:∀x,foldedSetIterable iter X.env x=pure x:=by intro _;rfl) (hsc:X.env.scope=sc:=by rfl) (hxn:X.N=XN:=by rfl):US X F (.Assign [.Name x pos'] (.ListComp elt [⟨tg,iter,ifs,0⟩] scope pos) spos) (oX i (hJ own fr ui g tf ue)):=
 ⟨PS.imp (yU hc hN hx hl S hi.pi (λcl C fp s H=>(hg cl C fp s H).pg) (λcl C fp s H=>(hf cl C fp s H).pf) (λcl C fp s H=>(he cl C fp s H).pe) hsw hf' hs hsc hxn) (yA (mW nd))⟩
theorem PS.fz{st:Stmt}{t:TS}(h:PS X st t):PS X st (λD σ H=>t {D with nx:=λσ' H'=>D.nx σ' H'\/∃a o,H' a=some o/\fzb o=true/\∀ob,D.nx σ' (upd H' a (.frz ob o))} σ H):=λpins s σ H D I q=>thn (h pins s σ H _ I q) λfl s' z=>by
 cases fl with
 |next=>
  obtain⟨σ',H',I',q⟩:=z
  rcases q with q|⟨a,o,e,n,q⟩
  ·exact⟨σ',H',I',q⟩
  ·obtain⟨ob,I2⟩:=I'.fz e n
   exact⟨σ',_,I2,q ob⟩
 |brk=>exact z
 |cont=>exact z
 |ret u=>exact z
theorem zDD{i:Nat}{x:Str}{pos' spos:Pos}(hc:X.calm=true)(hN:X.N.Nodup)(hx:X.N[i]?=some x)(hl:Loc X.env.scope x)(S:iE sc XN N own fr scope)(nd:fr.Nodup)(hi:UI X F tg iter ui)
  (hg:∀cl C fp s H,UGt (bS X N scope cl C fp s H) F own tg g) (hf:∀cl C fp s H,UF (bS X N scope cl C fp s H) F ifs tf) (he:∀cl C fp s H,UE (bS X N scope cl C fp s H) F elt ue)
  (hsw:swapsWith (.ListComp elt [⟨tg,iter,ifs,0⟩] scope pos) (some (.Name x pos')) spos.line X.env=pure true:=by rfl)
  (hf':X.fn x=true\/X.env.scope.names.lookup x=some .local:=by first|exact .inl rfl|exact .inr rfl|assumption)
  (hs:∀x,foldedSetIterable iter X.env x=pure x:=by intro _;rfl) (hsc:X.env.scope=sc:=by rfl) (hxn:X.N=XN:=by rfl):US X F (.Assign [.Name x pos'] (.ListComp elt [⟨tg,iter,ifs,0⟩] scope pos) spos) (lX i (uL (hJ own fr ui g tf ue))):=
 ⟨PS.imp (PS.fz (yU hc hN hx hl S hi.pi (λcl C fp s H=>(hg cl C fp s H).pg) (λcl C fp s H=>(hf cl C fp s H).pf) (λcl C fp s H=>(he cl C fp s H).pe) hsw hf' hs hsc hxn)) λD σ H ⟨ρ,P,f,h,k1,_⟩=>by
  refine mW nd σ H _ ⟨ρ,_,f,h,λa xs Ts H' ρ' s n e z p q=>?_⟩
  refine .inr ⟨a,_,e,rfl,λob=>?_⟩
  have s2:=s.put f n e rfl (.frz ob (.lst xs))
  exact k1 _ _ _ (s2.fr.set (s:=.va (.seq false Ts)) (λ_=>⟨_,rfl,VA.seq (t:=false) ⟨ob,bE⟩ z (p.hs (fH e rfl))⟩) (λz=>absurd z Bool.false_ne_true)) (s2.hs f) q⟩
def gQ(g:UG)(ub:UTs):List Tv->PEnds->aT->Prop
 |[],P,ρ=>P.nx ρ
 |T::Ts,P,ρ=>g T ρ λρ1=>ub {P with nx:=λρ'=>gQ g ub Ts P ρ',ct:=λρ'=>gQ g ub Ts P ρ',bk:=P.nx} ρ1
def zGX(ui:UTl)(g:UG)(ub:UTs):UTs:=λP ρ=>ui ρ λTs ρ1=>gQ g ub Ts P ρ1
theorem eC{body:List Stmt}{ub:UTs}{m:Nat}(hp:PassesOwn (model X.prog X.w) X.A X.env X.xe)(hc:X.calm=true)(hi:UI X F tg iter ui)(hg:UGt X F m tg g)(hb:USs X F body ub)
  (hs:∀x,foldedSetIterable iter X.env x=pure x:=by intro _;rfl):US X F (.For tg iter body [] pos) (zGX ui g ub):=⟨PS.imp (zE6 hp hc hi.pi hg.pg hb.ps hs) λD σ H ⟨ρ,P,f,h,k1,k2,k3,k4⟩=>by
 refine⟨ρ,_,f,h,λJ Ts H1 ρ1 s1 it q1=>?_⟩
 have h01:=s1.hs f
 refine⟨λi m σ' H'=>m=Ts.length-i/\i<=Ts.length/\HS H1 H'/\∃ρi,FrOk X.K F ρi σ' H'/\gQ g ub (Ts.drop i) P ρi,⟨_,rfl,Nat.zero_le _,HS.refl _,ρ1,s1.fr,q1⟩,?_⟩
 rintro i m σ' H' ⟨rfl,hi,hs,ρi,fi,q⟩
 obtain⟨go,yld,stop⟩:=it H' hs
 by_cases hlt:i<Ts.length
 ·refine .inr ⟨go i hlt,λσ2 H2=>HS H1 H2/\∃ρ2,FrOk X.K F ρ2 σ2 H2/\gQ g ub (Ts.drop (i+1)) P ρ2,λσ2 H2 ⟨hs2,ρ2,f2,q2⟩=>⟨_,by omega,rfl,hlt,hs2,ρ2,f2,q2⟩,λx H3 hy=>?_⟩
  obtain⟨sm,T,eT,vx⟩:=yld i x H3 hlt hy
  have ed:Ts.drop i=T::Ts.drop (i+1):=by
   rw[List.drop_eq_getElem_cons hlt]
   congr 1
   rw[List.getElem?_eq_getElem hlt]at eT
   exact Option.some.inj eT
  rw[ed]at q
  have f3:=(Stp.same fi sm).fr
  refine⟨T,ρi,_,vx,f3,q,λσ4 ρ4 f4 _ _ _ _ q4=>?_⟩
  have h13:=hs.trans sm.hs
  exact⟨ρ4,_,f4,q4,λσ5 H5 ρ5 f5 hs5 q5=>⟨h13.trans hs5,ρ5,f5,q5⟩,k2,λσ5 H5 ρ5 f5 hs5 q5=>k1 _ _ _ f5 (h01.trans (h13.trans hs5)) q5,λσ5 H5 ρ5 f5 hs5 q5=>⟨h13.trans hs5,ρ5,f5,q5⟩⟩
 ·have e:i=Ts.length:=by omega
  subst e
  rw[List.drop_length]at q
  exact .inl ⟨stop,k1 _ _ _ fi (h01.trans hs) q⟩⟩
def zEQ(t:UTt)(ub:UTs):UTs:=λP ρ=>∃W:Nat->aT->Prop,(∃m,W m ρ)/\∀m ρ,W m ρ->t ρ λb ρ1=>if b=true then ub {P with nx:=λρ'=>∃m',m'<m/\W m' ρ',ct:=λρ'=>∃m',m'<m/\W m' ρ',bk:=P.nx} ρ1 else P.nx ρ1
theorem rD{c:Expr}{body:List Stmt}{t:UTt}{ub:UTs}(hp:PassesOwn (model X.prog X.w) X.A X.env X.xe)(hc:UB X F c t)(hb:USs X F body ub):US X F (.While c body [] pos) (zEQ t ub):=⟨PS.imp (zC6 hp hc.pt hb.ps) λD σ H ⟨ρ,P,f,⟨W,⟨m0,w0⟩,h⟩,k1,k2,k3,k4⟩=>by
 refine⟨λm σ' H'=>HS H H'/\∃ρ',FrOk X.K F ρ' σ' H'/\W m ρ',⟨m0,HS.refl _,ρ,f,w0⟩,?_⟩
 rintro m σ' H' ⟨hs,ρ',f',w⟩
 refine⟨ρ',_,f',h m ρ' w,λb H1 ρ1 s1 q1=>?_⟩
 have h1:=hs.trans (s1.hs f')
 cases b with
 |true=>
  rw[if_pos rfl]at q1
  refine cC ⟨λσ2 H2=>HS H H2/\∃m',m'<m/\∃ρ2,FrOk X.K F ρ2 σ2 H2/\W m' ρ2,λσ2 H2 ⟨hs2,m',lt,ρ2,f2,w2⟩=>⟨m',lt,hs2,ρ2,f2,w2⟩,?_⟩
  exact⟨ρ1,_,s1.fr,q1,λσ5 H5 ρ5 f5 hs5 ⟨m',lt,w5⟩=>⟨h1.trans hs5,m',lt,ρ5,f5,w5⟩,k2,λσ5 H5 ρ5 f5 hs5 q5=>k1 _ _ _ f5 (h1.trans hs5) q5,λσ5 H5 ρ5 f5 hs5 ⟨m',lt,w5⟩=>⟨h1.trans hs5,m',lt,ρ5,f5,w5⟩⟩
 |false=>
  rw[if_neg Bool.false_ne_true]at q1
  exact bF (k1 _ _ _ s1.fr h1 q1)⟩
end
end L2
namespace L2
open PySem PySem.Spec PyProof.Rows WordM
section
variable{K:W.Frag}{F:Fm}{ρ:aT}{σ:St}{H:Hp}{i:Nat}{s s':Sl}{a:Addr}{o o':HO}
theorem FrOk.put(fr:FrOk K F ρ σ H)(e:ρ[i]?=some s)(m:dL s=true)(q:ixv σ i=some (.ref a))(h:H a=some o)(n:fzb o=true)(v:HS H (upd H a o')->F.H0 a=none->vO K F (upd H a o') (some (.ref a)) s'):Stp K F σ ρ H (ρ.set i s') (upd H a o'):=by
 have hi:i<ρ.length:=(List.getElem?_eq_some_iff.mp e).1
 have h0:=(fr.own_at e m q).2
 have hd:=fr.fresh_nodk h0
 have hs:HS H (upd H a o'):=fH h (by cases o<;>first|rfl|exact absurd n Bool.false_ne_true)
 have st:∀b u,b≠a->H b=some u->upd H a o' b=some u:=λb u z e=>by rw[bG z];exact e
 have get:∀(j:Nat) (t:Sl),(ρ.set i s')[j]?=some t->(i=j/\t=s')\/(i≠j/\ρ[j]?=some t):=λj t e'=>by
  by_cases z:i=j
  ·subst z
   rw[List.getElem?_set_self hi]at e'
   exact .inl ⟨rfl,(Option.some.inj e').symm⟩
  ·rw[List.getElem?_set_ne z]at e';exact .inr ⟨z,e'⟩
 have sub:Sbv (ρ.set i s') ρ:=λj t e' m'=>by
  rcases get j t e' with⟨rfl,rfl⟩|⟨z,e'⟩
  ·exact⟨s,e,m⟩
  ·exact⟨t,e',m'⟩
 refine⟨⟨fr.d0,⟨λb u e1 n1=>st b u (λz=>by rw[z,h0]at e1;cases e1) (fr.kp.st b u e1 n1),λp c d=>?_⟩,by rw[List.length_set];exact fr.len,λj t e'=>?_,λj k b t t' e1 e2 m1 m2 q1 q2=>?_⟩,λb u e1 _ n1=>st b u (λz=>n1 i s e m (by rw[z];exact q)) e1,sub,λb u e1=>if z:b=a then⟨o',z▸bE⟩ else⟨u,st b u z e1⟩⟩
 ·obtain⟨ne,⟨S,k,e1⟩,ns,e2,l⟩:=fr.kp.dkk p c d
  exact⟨ne,⟨S,k,st _ _ (hd p c d).1.symm e1⟩,ns,st _ _ (hd p c d).2.symm e2,l⟩
 ·rcases get j t e' with⟨rfl,rfl⟩|⟨z,e'⟩
  ·rw[q];exact v hs h0
  ·have x:=fr.at_ j t e'
   cases t with
   |no=>trivial
   |va T=>obtain⟨y,e1,v⟩:=x;exact⟨y,e1,v.hs hs⟩
   |own Ts=>obtain⟨b,xs,e1,e2,e3,z',p⟩:=x;exact⟨b,xs,e1,st _ _ (λy=>z (fr.ap i j a s _ e e' m rfl q (by rw[e1,y]))) e2,e3,z',p.hs hs⟩
   |dct kts=>obtain⟨b,kvs,e1,e2,e3,n',z',p⟩:=x;exact⟨b,kvs,e1,st _ _ (λy=>z (fr.ap i j a s _ e e' m rfl q (by rw[e1,y]))) e2,e3,n',z',p.hs hs⟩
   |dk=>exact x
 ·obtain⟨u,eu,mu⟩:=sub j t e1 m1
  obtain⟨u',eu',mu'⟩:=sub k t' e2 m2
  exact fr.ap j k b u u' eu eu' mu mu' q1 q2
end
section
variable{X:Cx}{F:Fm}{e:Expr}{u:UT}{x:Str}{p apos cpos pos:Pos}
def zDI(i:Nat)(u:UT):UT:=λρ Q=>(∃Ts,ρ[i]?=some (.own Ts))/\u ρ λT ρ1=>∃Ts,ρ1[i]?=some (.own Ts)/\Ts.length<100000/\Q nT (ρ1.set i (.own (Ts++[T])))
theorem kO(i:Nat)(h:UE X F e u)(hN:X.N[i]?=some x:=by rfl)(hv:Vis X.env.scope x:=by first|exact Or.inl rfl|exact Or.inr (Or.inl rfl)|exact Or.inr (Or.inr rfl))(hd:(x==("__debug__":Str))=false:=by decide)(hcd:(x==("__classdict__":Str))=false:=by decide)
  (hbase:attributeBase (.Name x p) "append" X.env (eval (.Name x p) X.env)=eval (.Name x p) X.env:=by rfl)
  (hfew:((backTo cpos (starEach [e] X.env)).all (λx=>!x.1)&&(backToKw cpos (keywordEach [] X.env)).all (λx=>x.1.isSome)&&decide (([e]:List Expr).length+([]:List Keyword).length+(if ([]:List Keyword).isEmpty then 0 else 1)<30))=true:=by rfl)
  (hline:(apos.endLine==cpos.line)=true:=by rfl) (hs:starEach [e] X.env=(false,eval e X.env)::starEach [] X.env:=by rfl) (hplain:(backTo cpos (starEach [] X.env)).any (·.1)=false:=by rfl) (hst:dO e=false:=by rfl):
  UE X F (.Call (.Attribute (.Name x p) "append" apos) [e] [] cpos) (zDI i u):=⟨PE.imp (jY PySem.F.plainAttrs_list PySem.F.slot_list_append PySem.F.type_list_append mU (gG hN hv hd hcd) (aA h aC hst).pa hbase hfew hline hs hplain) λσ H QQ ⟨ρ,Q,f,⟨⟨Ts0,e0⟩,hu⟩,k⟩=>by
 obtain⟨a,xs,ea,eH,e3,z,pv⟩:=f.at_ i _ e0
 refine⟨_,fO ea,.inl ⟨rfl,xs,SqL.of eH⟩,ρ,λas ρ1=>∃T,as=[.va T]/\∃Ts,ρ1[i]?=some (.own Ts)/\Ts.length<100000/\Q nT (ρ1.set i (.own (Ts++[T]))),f,?_,λvs as H1 ρ1 s1 p1 q1=>?_⟩
 ·show u ρ _
  have:(λT ρ1=>∃Ts,ρ1[i]?=some (.own Ts)/\Ts.length<100000/\Q nT (ρ1.set i (.own (Ts++[T]))))=(λT (ρ1:aT)=>(iX ρ1 λas ρ2=>∃T',Ar.va T::as=[.va T']/\∃Ts,ρ2[i]?=some (.own Ts)/\Ts.length<100000/\Q nT (ρ2.set i (.own (Ts++[T'])))) ):=by
   funext T ρ1
   apply propext
   constructor
   ·intro z;exact⟨T,rfl,z⟩
   ·rintro⟨T',e,z⟩;cases e;exact z
  rw[this]at hu
  exact hu
 ·obtain⟨T,rfl,Ts,e1,lt,q⟩:=q1
  cases p1 with
  |cons v t=>
   cases t
   obtain⟨a',ys,ea',eH1,e3',z',pv'⟩:=s1.fr.at_ i _ e1
   rw[ea]at ea';cases ea'
   have ll:ys.length=Ts.length:=Paired.length pv'
   refine⟨a,ys,_,rfl,rfl,eH1,zH (by omega),k _ _ _ _ (s1.trans (s1.fr.put (s':=.own (Ts++[T])) e1 rfl ea eH1 rfl λhs h0=>⟨a,_,rfl,bE,h0,by rw[List.length_append,List.length_singleton];omega,VAs.hs hs (Paired.snoc pv' v)⟩)) (.flat rfl) q⟩⟩
def zC5:V->List V->Hp->VK->Prop:=λx vs H Q=>∃l b xs zs,x=.ref l/\vs=[.ref b]/\H l=some (.lst xs)/\Rd H b (.lst zs)/\xs.length+zs.length<=sizeLine/\Q .non (upd H l (.lst (xs++zs)))
theorem zBQ:MtM X "list.extend" zC5:=by
 rintro pins s σ H _ _ v us Q I rx rv ⟨l,b,xs,zs,rfl,rfl,hH,hB,hz,q⟩
 cases rx
 obtain⟨u,rfl,ru⟩:=rv.one
 cases ru
 obtain⟨z,its,n,r,hl,e⟩:=I.lstM hH
 obtain⟨z2,its2,n2,r2,e2⟩:=hB.ok I.hok
 have hl2:=r2.length
 have hlong:¬ (!its.toArray.isEmpty&&Builtin.List.listTooLong (its.toArray.size+its2.toArray.size))=true:=by
  rw[xV (by rw[List.size_toArray,List.size_toArray];omega),Bool.and_false]
  exact Bool.false_ne_true
 refine call_meets F.slot_list_extend ⟨_,e,rfl⟩ F.entry_list_extend (F.args_list_extend_2 _ _) (AutoSeq1.list_extend_list_list_0 l its.toArray n b its2.toArray n2 hlong (by rw[List.size_toArray];omega) (by rw[List.size_toArray,List.size_toArray];omega)) ⟨e,e2,?_⟩
 exact⟨.non,_,I.lset (its':=its++its2) hH e (by simp) (r.append r2) (by rw[List.length_append];omega),rfl,q⟩
def zDH(i:Nat)(u:UT):UT:=λρ Q=>(∃Ts,ρ[i]?=some (.own Ts))/\u ρ λT ρ1=>∃Ts Us,ρ1[i]?=some (.own Ts)/\T=.seq false Us/\Ts.length+Us.length<=100000/\Q nT (ρ1.set i (.own (Ts++Us)))
theorem qI(i:Nat)(h:UE X F e u)(hN:X.N[i]?=some x:=by rfl)(hv:Vis X.env.scope x:=by first|exact Or.inl rfl|exact Or.inr (Or.inl rfl)|exact Or.inr (Or.inr rfl))(hd:(x==("__debug__":Str))=false:=by decide)(hcd:(x==("__classdict__":Str))=false:=by decide)
  (hbase:attributeBase (.Name x p) "extend" X.env (eval (.Name x p) X.env)=eval (.Name x p) X.env:=by rfl)
  (hfew:((backTo cpos (starEach [e] X.env)).all (λx=>!x.1)&&(backToKw cpos (keywordEach [] X.env)).all (λx=>x.1.isSome)&&decide (([e]:List Expr).length+([]:List Keyword).length+(if ([]:List Keyword).isEmpty then 0 else 1)<30))=true:=by rfl)
  (hline:(apos.endLine==cpos.line)=true:=by rfl) (hs:starEach [e] X.env=(false,eval e X.env)::starEach [] X.env:=by rfl) (hplain:(backTo cpos (starEach [] X.env)).any (·.1)=false:=by rfl) (hst:dO e=false:=by rfl):
  UE X F (.Call (.Attribute (.Name x p) "extend" apos) [e] [] cpos) (zDH i u):=⟨PE.imp (jY PySem.F.plainAttrs_list PySem.F.slot_list_extend PySem.F.type_list_extend zBQ (gG hN hv hd hcd) (aA h aC hst).pa hbase hfew hline hs hplain) λσ H QQ ⟨ρ,Q,f,⟨⟨Ts0,e0⟩,hu⟩,k⟩=>by
 obtain⟨a,xs,ea,eH,e3,z,pv⟩:=f.at_ i _ e0
 refine⟨_,fO ea,.inl ⟨rfl,xs,SqL.of eH⟩,ρ,λas ρ1=>∃T,as=[.va T]/\∃Ts Us,ρ1[i]?=some (.own Ts)/\T=.seq false Us/\Ts.length+Us.length<=100000/\Q nT (ρ1.set i (.own (Ts++Us))),f,?_,λvs as H1 ρ1 s1 p1 q1=>?_⟩
 ·show u ρ _
  have:(λT ρ1=>∃Ts Us,ρ1[i]?=some (.own Ts)/\T=.seq false Us/\Ts.length+Us.length<=100000/\Q nT (ρ1.set i (.own (Ts++Us))))=(λT (ρ1:aT)=>(iX ρ1 λas ρ2=>∃T',Ar.va T::as=[.va T']/\∃Ts Us,ρ2[i]?=some (.own Ts)/\T'=.seq false Us/\Ts.length+Us.length<=100000/\Q nT (ρ2.set i (.own (Ts++Us)))) ):=by
   funext T ρ1
   apply propext
   constructor
   ·intro z;exact⟨T,rfl,z⟩
   ·rintro⟨T',e,z⟩;cases e;exact z
  rw[this]at hu
  exact hu
 ·obtain⟨T,rfl,Ts,Us,e1,rfl,le,q⟩:=q1
  cases p1 with
  |cons v t=>
   cases t
   have v:VA X.K H1 _ (.seq false Us):=v
   obtain⟨b,zs,rfl,⟨ob,hb⟩,_,pz⟩:=v.seqI
   obtain⟨a',ys,ea',eH1,e3',z',pv'⟩:=s1.fr.at_ i _ e1
   rw[ea]at ea';cases ea'
   have ll:ys.length=Ts.length:=Paired.length pv'
   have lz:zs.length=Us.length:=Paired.length pz
   refine⟨a,b,ys,zs,rfl,rfl,eH1,.inr ⟨ob,hb⟩,fG (by omega),k _ _ _ _ (s1.trans (s1.fr.put (s':=.own (Ts++Us)) e1 rfl ea eH1 rfl λhs h0=>⟨a,_,rfl,bE,h0,by rw[List.length_append];omega,VAs.hs hs (kN pv' pz)⟩)) (.flat rfl) q⟩⟩
def zEG(i:Nat)(u:UT):UT:=λρ Q=>(∃Ts,ρ[i]?=some (.own Ts))/\u ρ λJ ρ1=>∃(j:Int) (Ts:List Tv) (T:Tv),J=iT j/\ρ1[i]?=some (.own Ts)/\0<=j/\Ts[j.toNat]?=some T/\Q T (ρ1.set i (.own (Ts.eraseIdx j.toNat)))
theorem pX{α β:Type}{R:α->β->Prop}:∀{l:List α}{m:List β}(n:Nat),Paired R l m->Paired R (l.eraseIdx n) (m.eraseIdx n)
 |_,_,_,.nil=>.nil
 |_,_,0,.cons _ t=>t
 |_,_,n+1,.cons r t=>.cons r (pX n t)
theorem kM{α β:Type}{R:α->β->Prop}:∀{l:List α}{m:List β}{n:Nat}{y:β},Paired R l m->m[n]?=some y->∃x,l[n]?=some x/\R x y
 |_,_,_,_,.nil,e=>by simp at e
 |_,_,0,_,.cons r _,e=>by simp at e;subst e;exact⟨_,rfl,r⟩
 |_,_,n+1,_,.cons _ t,e=>by
  obtain⟨x,h1,h2⟩:=kM (n:=n) t (by simpa using e)
  exact⟨x,by simpa using h1,h2⟩
theorem zCX(i:Nat)(h:UE X F e u)(hN:X.N[i]?=some x:=by rfl)(hv:Vis X.env.scope x:=by first|exact Or.inl rfl|exact Or.inr (Or.inl rfl)|exact Or.inr (Or.inr rfl))(hd:(x==("__debug__":Str))=false:=by decide)(hcd:(x==("__classdict__":Str))=false:=by decide)
  (hbase:attributeBase (.Name x p) "pop" X.env (eval (.Name x p) X.env)=eval (.Name x p) X.env:=by rfl)
  (hfew:((backTo cpos (starEach [e] X.env)).all (λx=>!x.1)&&(backToKw cpos (keywordEach [] X.env)).all (λx=>x.1.isSome)&&decide (([e]:List Expr).length+([]:List Keyword).length+(if ([]:List Keyword).isEmpty then 0 else 1)<30))=true:=by rfl)
  (hline:(apos.endLine==cpos.line)=true:=by rfl) (hs:starEach [e] X.env=(false,eval e X.env)::starEach [] X.env:=by rfl) (hplain:(backTo cpos (starEach [] X.env)).any (·.1)=false:=by rfl) (hst:dO e=false:=by rfl):
  UE X F (.Call (.Attribute (.Name x p) "pop" apos) [e] [] cpos) (zEG i u):=⟨PE.imp (jY PySem.F.plainAttrs_list PySem.F.slot_list_pop PySem.F.type_list_pop zDg (gG hN hv hd hcd) (aA h aC hst).pa hbase hfew hline hs hplain) λσ H QQ ⟨ρ,Q,f,⟨⟨Ts0,e0⟩,hu⟩,k⟩=>by
 obtain⟨a,xs,ea,eH,e3,z,pv⟩:=f.at_ i _ e0
 refine⟨_,fO ea,.inl ⟨rfl,xs,SqL.of eH⟩,ρ,λas ρ1=>∃J,as=[.va J]/\∃(j:Int) (Ts:List Tv) (T:Tv),J=iT j/\ρ1[i]?=some (.own Ts)/\0<=j/\Ts[j.toNat]?=some T/\Q T (ρ1.set i (.own (Ts.eraseIdx j.toNat))),f,?_,λvs as H1 ρ1 s1 p1 q1=>?_⟩
 ·show u ρ _
  have:(λJ ρ1=>∃(j:Int) (Ts:List Tv) (T:Tv),J=iT j/\ρ1[i]?=some (.own Ts)/\0<=j/\Ts[j.toNat]?=some T/\Q T (ρ1.set i (.own (Ts.eraseIdx j.toNat))))=(λJ (ρ1:aT)=>(iX ρ1 λas ρ2=>∃J',Ar.va J::as=[.va J']/\∃(j:Int) (Ts:List Tv) (T:Tv),J'=iT j/\ρ2[i]?=some (.own Ts)/\0<=j/\Ts[j.toNat]?=some T/\Q T (ρ2.set i (.own (Ts.eraseIdx j.toNat)))) ):=by
   funext T ρ1
   apply propext
   constructor
   ·intro z;exact⟨T,rfl,z⟩
   ·rintro⟨T',e,z⟩;cases e;exact z
  rw[this]at hu
  exact hu
 ·obtain⟨J,rfl,j,Ts,T,rfl,e1,h0,eT,q⟩:=q1
  cases p1 with
  |cons v t=>
   cases t
   obtain⟨rfl,_⟩:=VA.leafI v
   obtain⟨a',ys,ea',eH1,e3',z',pv'⟩:=s1.fr.at_ i _ e1
   rw[ea]at ea';cases ea'
   have ll:ys.length=Ts.length:=Paired.length pv'
   have lt:=(List.getElem?_eq_some_iff.mp eT).1
   obtain⟨y,ey,vy⟩:=kM pv' eT
   have s:=s1.fr.put (o':=.lst (ys.eraseIdx j.toNat)) e1 rfl ea eH1 rfl (s':=.own (Ts.eraseIdx j.toNat)) λhs h0=>⟨a,_,rfl,bE,h0,by rw[List.length_eraseIdx];split<;>omega,VAs.hs hs (pX _ pv')⟩
   refine⟨a,ys,j,j.toNat,y,rfl,rfl,eH1,by omega,by omega,PySem.StrLaws.seqIndex_nonneg h0 (by omega),ey,k _ _ _ _ (s1.trans s) (vy.hs (s.hs s1.fr)) q⟩⟩
end
theorem Inv.frozen{X:Cx}{pins:List (Addr×Obj)}{σ:St}{H H2:Hp}{s:Shared}(I:Inv X pins σ H s)(fro:FrozenA mE H H2)(ok2:HOk X.prog X.w H2 s.heap):Inv X pins σ H2 s:=by
 refine⟨I.ok,I.os,I.bare,⟨I.base.keep,I.base.slot,λb o e n hx=>fro.none_of (I.base.free b o e n hx),I.base.there,λb xs e=>fro.keep (I.base.tups b xs e) rfl,λb o u e=>fro.keep (I.base.frzs b o u e) rfl,λb ps e=>?_⟩,I.loc,I.cell,fro.none_of I.free,λx c e=>fro.none_of (I.freeC x c e),λp hp=>?_,ok2,I.len⟩
 ·obtain⟨more,z⟩:=I.base.tbls b ps e
  exact⟨more,fro.keep z rfl⟩
 ·obtain⟨p1,p2,p3⟩:=I.pin p hp
  exact⟨p1,fro.none_of p2,p3⟩
theorem Inv.thaw{X:Cx}{pins:List (Addr×Obj)}{σ:St}{H H3 H4:Hp}{s s':Shared}(I:Inv X pins σ H s)(I3:Inv X pins σ H3 s')(th:Thaw H H3 H4):Inv X pins σ H4 s':=by
 have stay:∀b o,H3 b=some o->(∀u ob,o≠.frz ob u)->H4 b=some o:=λb o e n=>by
  rcases th b with⟨u,ob,_,_,z,_⟩|⟨_,z⟩
  ·rw[e]at z;cases z;exact absurd rfl (n u ob)
  ·rw[z];exact e
 have none4:∀b,H3 b=none->H4 b=none:=λb e=>by
  rcases th b with⟨u,ob,_,_,z,_⟩|⟨_,z⟩
  ·rw[e]at z;cases z
  ·rw[z];exact e
 refine⟨I3.ok,I3.os,I3.bare,⟨I3.base.keep,I3.base.slot,λb o e n hx=>none4 b (I3.base.free b o e n hx),I3.base.there,λb xs e=>stay b _ (I3.base.tups b xs e) (λ_ _ z=>by cases z),λb o u e=>?_,λb ps e=>?_⟩,I3.loc,I3.cell,none4 _ I3.free,λx c e=>none4 c (I3.freeC x c e),λp hp=>?_,λb o e=>?_,I3.len⟩
 ·rcases th b with⟨o',ob,n,z,_⟩|⟨_,z⟩
  ·rw[I.base.frzs b o u e]at z;cases z;exact absurd n Bool.false_ne_true
  ·rw[z];exact I3.base.frzs b o u e
 ·obtain⟨more,z⟩:=I3.base.tbls b ps e
  exact⟨more,stay b _ z (λ_ _ z=>by cases z)⟩
 ·obtain⟨p1,p2,p3⟩:=I3.pin p hp
  exact⟨p1,none4 _ p2,p3⟩
 ·have st:∀o,ObjOk X.prog X.w H3 s'.heap b o->ObjOk X.prog X.w H4 s'.heap b o:=λo x=>x.stay (λ_ _ _ r=>r) (λd r=>stay d _ r (λ_ _ z=>by cases z)) λd xs r=>stay d _ r (λ_ _ z=>by cases z)
  rcases th b with⟨o',ob,n,_,z,z'⟩|⟨_,z⟩
  ·rw[z']at e
   cases e
   obtain⟨_,y⟩:=(show ObjOk X.prog X.w H3 s'.heap b (.frz ob o) from I3.hok b _ z)
   exact st o y
  ·rw[z]at e
   exact st o (I3.hok b o e)
def pkS:Sl->Sl
 |.own Ts=>.va (.seq false Ts)
 |.dct kts=>.va (.dct kts)
 |.dk=>.no
 |s=>s
def pkE(ρ:aT):aT:=ρ.map pkS
theorem zAM{K:W.Frag}{F:Fm}{ρ:aT}{σ:St}{H H2:Hp}(f:FrOk K F ρ σ H)(fro:FrozenA mE H H2):FrOk K ⟨H2,none⟩ (pkE ρ) σ H2:=by
 have hs:=fro.hs
 refine⟨λ_ _ z=>(nomatch z),⟨λ_ _ e _=>e,λ_ _ z=>(nomatch z)⟩,by unfold pkE;rw[List.length_map];exact f.len,λi s e=>?_,λi j a s t e _ m _ _ _=>?_⟩
 ·unfold pkE at e
  rw[List.getElem?_map]at e
  obtain⟨s0,e0,rfl⟩:=Option.map_eq_some_iff.mp e
  have h:=f.at_ i s0 e0
  cases s0 with
  |no=>trivial
  |va T=>obtain⟨y,e1,v⟩:=h;exact⟨y,e1,v.hs hs⟩
  |own Ts=>
   obtain⟨a,xs,e1,e2,e3,z,p⟩:=h
   obtain⟨ob,e4⟩:=fro.fz (b:=a) rfl e2 rfl
   exact⟨_,e1,VA.seq (t:=false) ⟨ob,e4⟩ z (p.hs hs)⟩
  |dct kts=>
   obtain⟨a,kvs,e1,e2,e3,n,z,p⟩:=h
   obtain⟨ob,e4⟩:=fro.fz (b:=a) rfl e2 rfl
   exact⟨_,e1,VA.dct ⟨ob,e4⟩ n z (p.hs hs)⟩
  |dk=>trivial
 ·unfold pkE at e
  rw[List.getElem?_map]at e
  obtain⟨s0,e0,rfl⟩:=Option.map_eq_some_iff.mp e
  cases s0<;>cases m
theorem yZ{K:W.Frag}{ρ ρ':aT}{σ:St}{H2 H3:Hp}{H0:Hp}(s:Stp K ⟨H0,none⟩ σ (pkE ρ) H2 ρ' H3):Same H2 H3:=λb o e=>s.st b o e (λ_ _ z=>(nomatch z)) λi t e1 m=>by
 unfold pkE at e1
 rw[List.getElem?_map]at e1
 obtain⟨s0,e0,rfl⟩:=Option.map_eq_some_iff.mp e1
 cases s0<;>cases m
section
variable{X:Cx}{F:Fm}{e:Expr}
def zFR(u:UT):UT:=λρ Q=>u (pkE ρ) λT _=>∃v,T=.leaf v/\Q T ρ
theorem sD{u:UT}(h:∀F,UE X F e u):UE X F e (zFR u):=⟨λpins s σ H QQ I ⟨ρ,Q,f,hu,k⟩=>by
 obtain⟨H2,fro,ok2⟩:=xD I.hok
 have f2:=zAM f fro
 refine thn ((h ⟨H2,none⟩).pe pins s σ H2 (λx H3=>∃v ρ',Stp X.K ⟨H2,none⟩ σ (pkE ρ) H2 ρ' H3/\VA X.K H3 x (.leaf v)/\Q (.leaf v) ρ) (I.frozen fro ok2) ⟨_,_,f2,hu,λx T H' ρ' st v q=>?_⟩) λu s' ⟨x,H3,I3,r,q⟩=>?_
 ·obtain⟨w,rfl,q⟩:=q
  exact⟨w,ρ',st,v,q⟩
 ·obtain⟨v,ρ',st,va,q⟩:=q
  obtain⟨H4,th⟩:=yQ H H3
  obtain⟨rfl,fl⟩:=va.leafI
  exact⟨x,H4,I.thaw I3 th,r,k _ _ _ _ (Stp.same f (Thaw.same fro (yZ st) th)) (.flat fl) q⟩⟩
def zEH(u:UTt):UTt:=λρ Q=>u (pkE ρ) λb _=>Q b ρ
theorem sE{u:UTt}(h:∀F,UB X F e u):UB X F e (zEH u):=⟨λpins s σ H QQ I ⟨ρ,Q,f,hu,k⟩=>by
 obtain⟨H2,fro,ok2⟩:=xD I.hok
 have f2:=zAM f fro
 refine thn ((h ⟨H2,none⟩).pt pins s σ H2 (λb H3=>∃ρ',Stp X.K ⟨H2,none⟩ σ (pkE ρ) H2 ρ' H3/\Q b ρ) (I.frozen fro ok2) ⟨_,_,f2,hu,λb H' ρ' st q=>⟨ρ',st,q⟩⟩) λb s' ⟨H3,I3,q⟩=>?_
 obtain⟨ρ',st,q⟩:=q
 obtain⟨H4,th⟩:=yQ H H3
 exact⟨H4,I.thaw I3 th,k _ _ _ (Stp.same f (Thaw.same fro (yZ st) th)) q⟩⟩
end
end L2
namespace L2
open PySem PySem.Spec PyProof.Rows WordM
mutual
def eqT:Tv->Tv->Bool
 |.leaf v,.leaf w=>eqV v w
 |.seq s xs,.seq t ys=>s==t&&bU xs ys
 |_,_=>false
def bU:List Tv->List Tv->Bool
 |[],[]=>true
 |x::xs,y::ys=>eqT x y&&bU xs ys
 |_,_=>false
end
def EqD:Nat->Tv->Prop
 |0,_=>False
 |_+1,.leaf _=>True
 |n+1,.seq _ xs=>∀U∈xs,EqD n U
 |_+1,.dct _=>False
theorem rZ:∀{xs ys:List Tv},xs.length≠ys.length->bU xs ys=false
 |[],[],h=>absurd rfl h
 |[],_::_,_=>by simp[bU]
 |_::_,[],_=>by simp[bU]
 |x::xs,y::ys,h=>by
  have:=rZ (xs:=xs) (ys:=ys) (λe=>h (by simp[e]))
  simp[bU,this]
theorem qF:∀{xs ys:List Tv},xs.length=ys.length->(List.range xs.length).all (λi=>eqT (xs.getD i nT) (ys.getD i nT))=bU xs ys
 |[],[],_=>by simp[bU]
 |[],_::_,h=>by simp at h
 |_::_,[],h=>by simp at h
 |x::xs,y::ys,h=>by
  have ih:=qF (xs:=xs) (ys:=ys) (by simpa using h)
  rw[List.length_cons,List.range_succ_eq_map,List.all_cons,List.all_map]
  show(eqT x y&&(List.range xs.length).all λi=>eqT (xs.getD i nT) (ys.getD i nT))=bU (x::xs) (y::ys)
  rw[ih]
  simp[bU]
theorem EqD.vp{K:W.Frag}{H:Hp}:∀{n d:Nat}{x:V}{T:Tv},EqD n T->VP K H d x T->VP K H n x T
 |0,_,_,_,h,_=>False.elim h
 |_+1,0,_,_,_,h=>False.elim h
 |n+1,d+1,x,T,h,v=>by
  rcases v with v|⟨t,a,xs,Ts,e1,e2,rfl,z,p⟩|⟨a,kvs,kts,e1,e2,rfl,_⟩
  ·exact .inl v
  ·have g:∀U∈Ts,EqD n U:=h
   refine .inr (.inl ⟨t,a,xs,Ts,e1,e2,rfl,z,?_⟩)
   clear e2 z h
   induction p with
   |nil=>exact .nil
   |cons r _ ih=>exact .cons ((g _ (.head _)).vp r) (ih λU hU=>g U (.tail _ hU))
  ·exact False.elim h
section
variable{X:Cx}{pins:List (Addr×Obj)}{σ:St}{H:Hp}{s:Shared}
theorem zDu{v:V}(h:cV v=true):eqV v v=true:=by
 cases v<;>first|exact absurd h Bool.false_ne_true|simp[eqV]
theorem PSeq.isList{a:Addr}{xs:List V}(I:Inv X pins σ H s)(h:PSeq X.K H false a xs):∃its:List Value,Vals xs its/\s.heap.IsList a its.toArray:=by
 obtain⟨its,r,p,_⟩:=I.list (cF h)
 exact⟨its,r,p.isList⟩
theorem PSeq.isTup{a:Addr}{xs:List V}(I:Inv X pins σ H s)(h:PSeq X.K H true a xs):∃its:List Value,Vals xs its/\s.heap.IsTuple a its.toArray:=by
 obtain⟨its,r,p,_⟩:=I.tuple h
 exact⟨its,r,p⟩
theorem zN(I:Inv X pins σ H s):∀{n:Nat}{x:V}{T U:Tv},VP X.K H n x T->VP X.K H n x U->EqD n T->EqD n U->eqT T U=true
 |0,_,_,_,h,_,_,_=>False.elim h
 |n+1,x,T,U,h,h',d,d'=>by
  rcases h with⟨f,rfl⟩|⟨t,a,xs,Ts,rfl,e2,rfl,z,p⟩|⟨a,kvs,kts,rfl,e2,rfl,_⟩
  ·rcases h' with⟨_,rfl⟩|⟨t',a',xs',Ts',rfl,_⟩|⟨a',kvs',kts',rfl,_⟩
   ·simp[eqT,zDu f]
   ·cases f
   ·cases f
  ·rcases h' with⟨f,rfl⟩|⟨t',a',xs',Ts',e1',e2',rfl,z',p'⟩|⟨a',kvs',kts',e1',e2',rfl,_⟩
   ·cases f
   ·cases e1'
    have tt:t=t':=by
     cases t<;>cases t'<;>first|rfl|skip
     ·obtain⟨_,_,l1⟩:=PSeq.isList I e2
      obtain⟨_,_,l2⟩:=PSeq.isTup I e2'
      exact absurd rfl (SeqAt.ne_of_list_tuple l1 l2)
     ·obtain⟨_,_,l1⟩:=PSeq.isList I e2'
      obtain⟨_,_,l2⟩:=PSeq.isTup I e2
      exact absurd rfl (SeqAt.ne_of_list_tuple l1 l2)
    subst tt
    have ex:xs=xs':=by
     cases t with
     |false=>exact I.list_inj (cF e2) (cF e2')
     |true=>exact I.tuple_inj e2 e2'
    subst ex
    have d:∀U∈Ts,EqD n U:=d
    have d':∀U∈Ts',EqD n U:=d'
    have key:∀{xs:List V} {Ts Ts':List Tv},Paired (VP X.K H n) xs Ts->Paired (VP X.K H n) xs Ts'->(∀U∈Ts,EqD n U)->(∀U∈Ts',EqD n U)->bU Ts Ts'=true:=by
     intro xs Ts Ts' p
     induction p generalizing Ts' with
     |nil=>intro p' _ _;cases p';simp[bU]
     |cons r _ ih=>
      intro p' d d'
      cases p' with
      |cons r' t'=>simp[bU,zN I r r' (d _ (.head _)) (d' _ (.head _)),ih t' (λU hU=>d U (.tail _ hU)) (λU hU=>d' U (.tail _ hU))]
    simp[eqT,key p p' d d']
   ·exact False.elim d'
  ·exact False.elim d
theorem jG{x:V}(h:cV x=true):x=.non\/(∃b,x=.bl b)\/(∃i,x=.int i)\/∃z,x=.str z:=by
 cases x with
 |non=>exact .inl rfl
 |bl b=>exact .inr (.inl ⟨b,rfl⟩)
 |int i=>exact .inr (.inr (.inl ⟨i,rfl⟩))
 |str z=>exact .inr (.inr (.inr ⟨z,rfl⟩))
 |_=>exact absurd (show false=true from h) Bool.false_ne_true
open SeqAt in
theorem mI(I:Inv X pins σ H s){A:Around}(hu:A.units<cLine){x:V}{v:Value}{t:Bool}{a:Addr}{xs:List V}(f:cV x=true)(r:RelV x v)(h:PSeq X.K H t a xs):
  EqAt A s v (.ref a) false/\EqAt A s (.ref a) v false/\RcAt A s v (.ref a) false/\RcAt A s (.ref a) v false/\RcNeAt A s v (.ref a) true/\RcNeAt A s (.ref a) v true:=by
 cases t with
 |false=>
  obtain⟨_,_,l⟩:=PSeq.isList I h
  rcases jG f with rfl|⟨b,rfl⟩|⟨b,rfl⟩|⟨b,rfl⟩
  ·cases r;exact⟨.none_list l hu,.list_none l hu,.none_list l hu,.list_none l hu,.none_list l hu,.list_none l hu⟩
  ·cases r;exact⟨.bool_list b l hu,.list_bool b l hu,.bool_list b l hu,.list_bool b l hu,.bool_list b l hu,.list_bool b l hu⟩
  ·obtain⟨t,rfl⟩:=r;exact⟨.int_list b t l hu,.list_int b t l hu,.int_list b t l hu,.list_int b t l hu,.int_list b t l hu,.list_int b t l hu⟩
  ·obtain⟨t,rfl⟩:=r;exact⟨.str_list b t l hu,.list_str b t l hu,.str_list b t l hu,.list_str b t l hu,.str_list b t l hu,.list_str b t l hu⟩
 |true=>
  obtain⟨_,_,l⟩:=PSeq.isTup I h
  rcases jG f with rfl|⟨b,rfl⟩|⟨b,rfl⟩|⟨b,rfl⟩
  ·cases r;exact⟨.none_tuple l hu,.tuple_none l hu,.none_tuple l hu,.tuple_none l hu,.none_tuple l hu,.tuple_none l hu⟩
  ·cases r;exact⟨.bool_tuple b l hu,.tuple_bool b l hu,.bool_tuple b l hu,.tuple_bool b l hu,.bool_tuple b l hu,.tuple_bool b l hu⟩
  ·obtain⟨t,rfl⟩:=r;exact⟨.int_tuple b t l hu,.tuple_int b t l hu,.int_tuple b t l hu,.tuple_int b t l hu,.int_tuple b t l hu,.tuple_int b t l hu⟩
  ·obtain⟨t,rfl⟩:=r;exact⟨.str_tuple b t l hu,.tuple_str b t l hu,.str_tuple b t l hu,.tuple_str b t l hu,.str_tuple b t l hu,.tuple_str b t l hu⟩
open SeqAt in
theorem zDS{A:Around}{x y:V}{v u:Value}(fx:cV x=true)(fy:cV y=true)(rx:RelV x v)(ry:RelV y u):RcAt A s v u (eqV x y)/\RcNeAt A s v u (!eqV x y):=by
 rcases jG fx with rfl|⟨a,rfl⟩|⟨a,rfl⟩|⟨a,rfl⟩<;>rcases jG fy with rfl|⟨b,rfl⟩|⟨b,rfl⟩|⟨b,rfl⟩
 ·cases rx;cases ry;exact⟨.none_none,.none_none⟩
 ·cases rx;cases ry;exact⟨.none_bool b,.none_bool b⟩
 ·cases rx;obtain⟨t,rfl⟩:=ry;exact⟨.none_int b t,.none_int b t⟩
 ·cases rx;obtain⟨t,rfl⟩:=ry;exact⟨.none_str b t,.none_str b t⟩
 ·cases rx;cases ry;exact⟨.bool_none a,.bool_none a⟩
 ·cases rx;cases ry;exact⟨.bool_bool a b,.bool_bool a b⟩
 ·cases rx;obtain⟨t,rfl⟩:=ry;exact⟨.bool_int a b t,.bool_int a b t⟩
 ·cases rx;obtain⟨t,rfl⟩:=ry;exact⟨.bool_str a b t,.bool_str a b t⟩
 ·obtain⟨t',rfl⟩:=rx;cases ry;exact⟨.int_none a t',.int_none a t'⟩
 ·obtain⟨t',rfl⟩:=rx;cases ry;exact⟨.int_bool a t' b,.int_bool a t' b⟩
 ·obtain⟨t',rfl⟩:=rx;obtain⟨t,rfl⟩:=ry;exact⟨.int_int a t' b t,.int_int a t' b t⟩
 ·obtain⟨t',rfl⟩:=rx;obtain⟨t,rfl⟩:=ry;exact⟨.int_str a t' b t,.int_str a t' b t⟩
 ·obtain⟨t',rfl⟩:=rx;cases ry;exact⟨.str_none a t',.str_none a t'⟩
 ·obtain⟨t',rfl⟩:=rx;cases ry;exact⟨.str_bool a t' b,.str_bool a t' b⟩
 ·obtain⟨t',rfl⟩:=rx;obtain⟨t,rfl⟩:=ry;exact⟨.str_int a t' b t,.str_int a t' b t⟩
 ·obtain⟨t',rfl⟩:=rx;obtain⟨t,rfl⟩:=ry;exact⟨.str_str a t' b t,.str_str a t' b t⟩
theorem xO{xs:List V}{us:List Value}(r:Vals xs us){j:Nat}(h:j<us.toArray.size):∃x,xs[j]?=some x/\RelV x us.toArray[j]:=by
 have l:=r.length
 have k:j<xs.length:=by rw[l];simpa using h
 obtain⟨u,hu,ru⟩:=r.get (i:=j) (x:=xs[j]) (List.getElem?_eq_getElem k)
 refine⟨_,List.getElem?_eq_getElem k,?_⟩
 have e1:us.toArray[j]=u:=by
  obtain⟨_,e⟩:=List.getElem?_eq_some_iff.mp hu
  simpa using e
 rw[e1];exact ru
open SeqAt in
theorem zAk(I:Inv X pins σ H s){A:Around}(hu:A.units<cLine){t:Bool}{a b:Addr}{xs ys:List V}{Ts Us:List Tv}(ha:PSeq X.K H t a xs)(hb:PSeq X.K H t b ys)(lx:xs.length=Ts.length)(ly:ys.length=Us.length)
  (it:∀(j:Nat) (x y:V) (T U:Tv) (v u:Value),xs[j]?=some x->ys[j]?=some y->Ts[j]?=some T->Us[j]?=some U->RelV x v->RelV y u->EqAt A.in1 s v u (eqT T U)):RcAt A s (.ref a) (.ref b) (bU Ts Us)/\RcNeAt A s (.ref a) (.ref b) (!bU Ts Us):=by
 have item:∀{vs us:List Value},Vals xs vs->Vals ys us->∀j (h1:j<vs.toArray.size) (h2:j<us.toArray.size),EqAt A.in1 s vs.toArray[j] us.toArray[j] (eqT (Ts.getD j nT) (Us.getD j nT)):=λ{vs us} r1 r2 j h1 h2=>by
  obtain⟨x,ex,rx⟩:=xO r1 h1
  obtain⟨y,ey,ry⟩:=xO r2 h2
  have k1:=(List.getElem?_eq_some_iff.mp ex).1
  have k2:=(List.getElem?_eq_some_iff.mp ey).1
  refine it j x y _ _ _ _ ex ey ?_ ?_ rx ry
  ·rw[List.getD_eq_getElem?_getD,List.getElem?_eq_getElem (by omega)];rfl
  ·rw[List.getD_eq_getElem?_getD,List.getElem?_eq_getElem (by omega)];rfl
 cases t with
 |false=>
  obtain⟨vs,r1,l1⟩:=PSeq.isList I ha
  obtain⟨us,r2,l2⟩:=PSeq.isList I hb
  have n1:=r1.length
  have n2:=r2.length
  by_cases hl:Ts.length=Us.length
  ·have e1:=RcAt.lists l1 l2 (by simp only[List.size_toArray];omega) hu (item r1 r2)
   have e2:=RcNeAt.lists l1 l2 (by simp only[List.size_toArray];omega) hu (item r1 r2)
   rw[show vs.toArray.size=Ts.length by rw[List.size_toArray];omega,qF hl]at e1 e2
   exact⟨e1,e2⟩
  ·rw[rZ hl]
   have hne:(vs.toArray.size != us.toArray.size)=true:=by
    rw[bne_iff_ne,List.size_toArray,List.size_toArray];omega
   exact⟨.lists_lengths l1 l2 hne hu,.lists_lengths l1 l2 hne hu⟩
 |true=>
  obtain⟨vs,r1,l1⟩:=PSeq.isTup I ha
  obtain⟨us,r2,l2⟩:=PSeq.isTup I hb
  have n1:=r1.length
  have n2:=r2.length
  have e1:=RcAt.tuples l1 l2 hu (item r1 r2)
  have e2:=RcNeAt.tuples l1 l2 hu (item r1 r2)
  have ee:((List.range (min vs.toArray.size us.toArray.size)).all (λi=>eqT (Ts.getD i nT) (Us.getD i nT))&&vs.toArray.size==us.toArray.size)=bU Ts Us:=by
   rw[show vs.toArray.size=Ts.length by rw[List.size_toArray];omega,show us.toArray.size=Us.length by rw[List.size_toArray];omega]
   by_cases hl:Ts.length=Us.length
   ·rw[<-hl,Nat.min_self,qF hl];simp
   ·rw[rZ hl,beq_eq_false_iff_ne.mpr hl,Bool.and_false]
  rw[ee]at e1 e2
  exact⟨e1,e2⟩
open SeqAt in
theorem tG(I:Inv X pins σ H s):∀(n:Nat) {A:Around}{x y:V}{T U:Tv}{v u:Value},A.units+n<cLine->EqD n T->EqD n U->VP X.K H n x T->VP X.K H n y U->RelV x v->RelV y u->EqAt A s v u (eqT T U)
 |0,_,_,_,_,_,_,_,_,h,_,_,_,_,_=>False.elim h
 |n+1,A,x,y,T,U,v,u,hu,d,d',h,h',rx,ry=>by
  have hu0:A.units<cLine:=by omega
  have hh:=h
  have hh':=h'
  rcases h with⟨f,rfl⟩|⟨t,a,xs,Ts,rfl,e2,rfl,z,p⟩|⟨a,kvs,kts,rfl,e2,rfl,_⟩
  ·rcases h' with⟨f',rfl⟩|⟨t',a',xs',Ts',rfl,e2',rfl,z',p'⟩|⟨a',kvs',kts',rfl,_,rfl,_⟩
   ·have:=zAx (A:=A) (s:=s) rx ry f f'
    simpa[eqT]using this
   ·cases ry
    have:=(mI I hu0 f rx e2').1
    simpa[eqT]using this
   ·exact False.elim d'
  ·rcases h' with⟨f',rfl⟩|⟨t',b,ys,Us,rfl,e2',rfl,z',p'⟩|⟨a',kvs',kts',rfl,_,rfl,_⟩
   ·cases rx
    have:=(mI I hu0 f' ry e2).2.1
    simpa[eqT]using this
   ·cases rx
    cases ry
    by_cases ab:a=b
    ·subst ab
     have:=zN I hh hh' d d'
     rw[this]
     exact EqAt.same _
    ·by_cases tt:t=t'
     ·subst tt
      have d:∀U∈Ts,EqD n U:=d
      have d':∀U∈Us,EqD n U:=d'
      have:=(zAk I hu0 e2 e2' (Paired.length p) (Paired.length p') λj x y T U v u ex ey eT eU rx ry=>by
       obtain⟨T',eT',vx⟩:=eV p ex
       obtain⟨U',eU',vy⟩:=eV p' ey
       rw[eT]at eT';cases eT'
       rw[eU]at eU';cases eU'
       exact tG I n (by show A.units+1+n<_;omega) (d _ (List.mem_of_getElem? eT)) (d' _ (List.mem_of_getElem? eU)) vx vy rx ry).1
      have r:=EqAt.of_refs ab this
      simpa[eqT]using r
     ·have e:eqT (.seq t Ts) (.seq t' Us)=false:=by simp[eqT,tt]
      rw[e]
      refine EqAt.of_refs ab ?_
      cases t<;>cases t'<;>first|exact absurd rfl tt|skip
      ·obtain⟨_,_,l1⟩:=PSeq.isList I e2
       obtain⟨_,_,l2⟩:=PSeq.isTup I e2'
       exact .list_tuple l1 l2 hu0
      ·obtain⟨_,_,l1⟩:=PSeq.isTup I e2
       obtain⟨_,_,l2⟩:=PSeq.isList I e2'
       exact .tuple_list l1 l2 hu0
   ·exact False.elim d'
  ·exact False.elim d
end
def zHY(Ts Us:List Tv):Prop:=Ts=[]\/Us=[]\/((∀T∈Ts,EqD 40 T)/\∀U∈Us,EqD 40 U)
def iD(neg:Bool):P2
 |.leaf v,.leaf w,Q=>Q (bT (neg != eqV v w))
 |.leaf _,.seq _ _,Q=>Q (bT neg)
 |.seq _ _,.leaf _,Q=>Q (bT neg)
 |.seq s xs,.seq t ys,Q=>zHY xs ys/\Q (bT (neg != (s==t&&bU xs ys)))
 |_,_,_=>False
section
variable{X:Cx}
open SeqAt in
theorem zO{pins:List (Addr×Obj)}{σ:St}{H:Hp}{s:Shared}(I:Inv X pins σ H s)(hu:X.A.units+64<cLine){neg:Bool}{x y:V}{T U:Tv}{v u:Value}{Q:Tv->Prop}(vx:VA X.K H x T)(vy:VA X.K H y U)(rx:RelV x v)(ry:RelV y u)(h:iD neg T U Q):
  ∃b,Q (bT (neg != b))/\RcAt X.A s v u b/\RcNeAt X.A s v u (!b):=by
 have hu0:X.A.units<cLine:=by omega
 unfold iD at h
 split at h
 ·obtain⟨rfl,f⟩:=vx.leafI
  obtain⟨rfl,f'⟩:=vy.leafI
  exact⟨_,h,zDS f f' rx ry⟩
 ·obtain⟨rfl,f⟩:=vx.leafI
  obtain⟨a,xs,rfl,hs,_⟩:=vy.seqI
  cases ry
  have r:=mI I hu0 f rx hs
  exact⟨false,by simpa using h,r.2.2.1,r.2.2.2.2.1⟩
 ·obtain⟨rfl,f⟩:=vy.leafI
  obtain⟨a,xs,rfl,hs,_⟩:=vx.seqI
  cases rx
  have r:=mI I hu0 f ry hs
  exact⟨false,by simpa using h,r.2.2.2.1,r.2.2.2.2.2⟩
 ·rename_i t Ts t' Us
  obtain⟨ok,q⟩:=h
  obtain⟨a,xs,rfl,hs,z,p⟩:=vx.seqI
  obtain⟨b,ys,rfl,hs',z',p'⟩:=vy.seqI
  cases rx
  cases ry
  refine⟨_,q,?_⟩
  by_cases tt:t=t'
  ·subst tt
   have e:(t==t&&bU Ts Us)=bU Ts Us:=by simp
   rw[e]
   refine zAk I hu0 hs hs' (Paired.length p) (Paired.length p') λj x y T U v u ex ey eT eU rx ry=>?_
   rcases ok with rfl|rfl|⟨o1,o2⟩
   ·cases eT
   ·cases eU
   ·obtain⟨T',eT',d,vx⟩:=eV p ex
    obtain⟨U',eU',d',vy⟩:=eV p' ey
    rw[eT]at eT';cases eT'
    rw[eU]at eU';cases eU'
    have k1:=o1 _ (List.mem_of_getElem? eT)
    have k2:=o2 _ (List.mem_of_getElem? eU)
    exact tG I 40 (by show X.A.units+1+40<_;omega) k1 k2 (k1.vp vx) (k2.vp vy) rx ry
  ·have e:(t==t'&&bU Ts Us)=false:=by simp[tt]
   rw[e]
   cases t<;>cases t'<;>first|exact absurd rfl tt|skip
   ·obtain⟨_,_,l1⟩:=PSeq.isList I hs
    obtain⟨_,_,l2⟩:=PSeq.isTup I hs'
    exact⟨.list_tuple l1 l2 hu0,.list_tuple l1 l2 hu0⟩
   ·obtain⟨_,_,l1⟩:=PSeq.isTup I hs
    obtain⟨_,_,l2⟩:=PSeq.isList I hs'
    exact⟨.tuple_list l1 l2 hu0,.tuple_list l1 l2 hu0⟩
 ·exact False.elim h
def zAY(K:W.Frag)(neg:Bool):R2:=λx y H Q=>∃T U,VA K H x T/\VA K H y U/\iD neg T U λW=>∃b,W=bT b/\Q (.bl b) H
theorem zFp(hu:X.A.units+64<cLine):OpR X (compareOp .Eq) (zAY X.K false):=by
 rintro pins s σ H x y v u Q I rx ry ⟨T,U,vx,vy,h⟩
 obtain⟨b,⟨b',e,q⟩,r,_⟩:=zO I hu vx vy rx ry h
 cases e
 exact r X.prog X.w X.xe _ ⟨.bl b,H,I,rfl,by simpa using q⟩
theorem zFm(hu:X.A.units+64<cLine):OpR X (compareOp .NotEq) (zAY X.K true):=by
 rintro pins s σ H x y v u Q I rx ry ⟨T,U,vx,vy,h⟩
 obtain⟨b,⟨b',e,q⟩,_,r⟩:=zO I hu vx vy rx ry h
 cases e
 exact r X.prog X.w X.xe _ ⟨.bl (!b),H,I,rfl,by simpa using q⟩
theorem wX{neg:Bool}{T U:Tv}{Q Q':Tv->Prop}(h:iD neg T U Q)(i:∀b,Q (bT b)->Q' (bT b)):iD neg T U Q':=by
 unfold iD at h ⊢
 split at h
 ·exact i _ h
 ·exact i _ h
 ·exact i _ h
 ·exact⟨h.1,i _ h.2⟩
 ·exact False.elim h
abbrev pEq:P2:=iD false
abbrev pNe:P2:=iD true
theorem lI(hu:X.A.units+64<cLine):PuCmp X (compareOp .Eq) pEq:=⟨_,zFp hu,λx y T U H Q QQ vx vy h k=>⟨T,U,vx,vy,wX h λb q=>⟨b,rfl,k _ _ _ (Same.refl _) (.flat rfl) q⟩⟩⟩
theorem zGc(hu:X.A.units+64<cLine):PuCmp X (compareOp .NotEq) pNe:=⟨_,zFm hu,λx y T U H Q QQ vx vy h k=>⟨T,U,vx,vy,wX h λb q=>⟨b,rfl,k _ _ _ (Same.refl _) (.flat rfl) q⟩⟩⟩
end
end L2
namespace L2
open PySem PySem.Spec PyProof.Rows WordM
section
variable{X:Cx}{F:Fm}
theorem dD{K:W.Frag}{H:Hp}{xs:List V}{T:Tv}(h:VAs K H xs [T]):∃x,xs=[x]/\VA K H x T:=by
 cases h with
 |cons r t=>cases t;exact⟨_,rfl,r⟩
theorem zAO{K:W.Frag}{H:Hp}{xs:List V}{T U:Tv}(h:VAs K H xs [T,U]):∃x y,xs=[x,y]/\VA K H x T/\VA K H y U:=by
 cases h with
 |cons r t=>
  obtain⟨y,rfl,v⟩:=dD t
  exact⟨_,y,rfl,r,v⟩
def zF9(K:W.Frag):R2:=λx y H Q=>∃l b xs zs,x=.ref l/\y=.ref b/\Rd H l (.lst xs)/\Rd H b (.lst zs)/\xs.length+zs.length<=sizeLine/\∀p,H p=none->Q (.ref p) (upd H p (.lst (xs++zs)))
theorem zE:OpR X (binaryOp .Add) (zF9 X.K):=by
 rintro pins s σ H _ _ v u Q I rx ry ⟨l,b,xs,zs,rfl,rfl,hH,hB,hz,q⟩
 cases rx
 cases ry
 obtain⟨z,its,n,r,e⟩:=hH.ok I.hok
 obtain⟨z2,its2,n2,r2,e2⟩:=hB.ok I.hok
 have l1:=r.length
 have l2:=r2.length
 refine PySem.P.add_list e e2 ?_ (by rw[List.size_toArray,List.size_toArray];omega)
 rw[show its.toArray++its2.toArray=(its++its2).toArray by simp]
 exact⟨.ref _,_,I.lnew (t':=s.toks) (r.append r2) (by rw[List.length_append];omega),rfl,q _ I.fresh⟩
def zA1:P2
 |.leaf (.int i),.leaf (.int j),Q=>Q (iT (i+j))
 |.leaf (.str x),.leaf (.str y),Q=>x.length+y.length<=100000/\Q (sT (x++y))
 |.seq true xs,.seq true ys,Q=>xs.length+ys.length<=100000/\Q (.seq true (xs++ys))
 |.seq false xs,.seq false ys,Q=>xs.length+ys.length<=100000/\Q (.seq false (xs++ys))
 |_,_,_=>False
theorem bH:fL X (binaryOp .Add) zA1:=⟨_,op_add.or (op_add_str.or (op_catG.or zE)),λx y T U H Q QQ vx vy h k=>by
 unfold zA1 at h
 split at h
 ·obtain⟨rfl,_⟩:=vx.leafI
  obtain⟨rfl,_⟩:=vy.leafI
  exact .inl ⟨_,_,rfl,rfl,k _ _ _ (.flat rfl) h⟩
 ·obtain⟨rfl,_⟩:=vx.leafI
  obtain⟨rfl,_⟩:=vy.leafI
  exact .inr (.inl ⟨_,_,rfl,rfl,fG h.1,k _ _ _ (.flat rfl) h.2⟩)
 ·obtain⟨a,xs,rfl,hs,z,p⟩:=vx.seqI
  obtain⟨b,ys,rfl,hs',z',p'⟩:=vy.seqI
  have l1:xs.length=_:=Paired.length p
  have l2:ys.length=_:=Paired.length p'
  refine .inr (.inr (.inl ⟨a,b,xs,ys,rfl,rfl,hs,hs',fG (by omega),λr H' hr sm=>k _ _ _ ⟨sm,.inl (VA.seq (t:=true) hr (by rw[List.length_append];exact h.1) (kN (p.hs sm.hs) (p'.hs sm.hs)))⟩ h.2⟩))
 ·obtain⟨a,xs,rfl,⟨ob,hs⟩,z,p⟩:=vx.seqI
  obtain⟨b,ys,rfl,⟨ob',hs'⟩,z',p'⟩:=vy.seqI
  have l1:xs.length=_:=Paired.length p
  have l2:ys.length=_:=Paired.length p'
  refine .inr (.inr (.inr ⟨a,b,xs,ys,rfl,rfl,.inr ⟨ob,hs⟩,.inr ⟨ob',hs'⟩,fG (by omega),λr n=>k _ _ _ (Raw.lst n (by rw[List.length_append];exact h.1) (kN p p')) h.2⟩))
 ·exact False.elim h⟩
def zGK(ua ub:UT):UTl:=λρ Q=>ua ρ λa ρ1=>ub ρ1 λb ρ2=>∃As Bs,a=.seq false As/\b=.seq false Bs/\As.length+Bs.length<=100000/\Q (As++Bs) ρ2
theorem zED{a b:Expr}{ua ub:UT}{pos:Pos}(ha:UE X F a ua)(hb:UE X F b ub):UL X F (.BinOp a .Add b pos) (zGK ua ub):=⟨PE.imp (cA zE ha.pe hb.pe) λσ H QQ ⟨ρ,Q,f,h,k⟩=>by
 refine⟨ρ,_,f,h,λx T H1 ρ1 s1 v1 q1=>⟨ρ1,_,s1.fr,q1,λy U H2 ρ2 s2 v2 q2=>?_⟩⟩
 obtain⟨As,Bs,rfl,rfl,l,q⟩:=q2
 obtain⟨a,xs,rfl,⟨ob,hs⟩,z,p⟩:=(v1.hs (s2.hs s1.fr)).seqI
 obtain⟨b,ys,rfl,⟨ob',hs'⟩,z',p'⟩:=v2.seqI
 have l1:xs.length=_:=Paired.length p
 have l2:ys.length=_:=Paired.length p'
 refine⟨a,b,xs,ys,rfl,rfl,.inr ⟨ob,hs⟩,.inr ⟨ob',hs'⟩,fG (by omega),λr n=>?_⟩
 exact k _ _ _ _ _ ((s1.trans s2).trans (Stp.same s2.fr (dI n))) ((s1.trans s2).non n) bE (by rw[List.length_append];exact l) (VAs.hs (iS n) (kN p p')) q⟩
def pI2(C:Int->Int->Prop)(g:Int->Int->V):P2
 |.leaf (.int i),.leaf (.int j),Q=>C i j/\Q (.leaf (g i j))
 |_,_,_=>False
theorem uA{f:Value->Value->Sem Value}{C:Int->Int->Prop}{g:Int->Int->V}(h:OpR X f (rI C g))(fl:∀i j,cV (g i j)=true):PuCmp X f (pI2 C g):=⟨_,h,λx y T U H Q QQ vx vy h k=>by
 unfold pI2 at h
 split at h
 ·obtain⟨rfl,_⟩:=vx.leafI
  obtain⟨rfl,_⟩:=vy.leafI
  exact⟨_,_,rfl,rfl,h.1,k _ _ _ (Same.refl _) (.flat (fl _ _)) h.2⟩
 ·exact False.elim h⟩
def kI(g:Int->Int->V):P2
 |.leaf (.int i),.leaf (.int j),Q=>Q (.leaf (g i j))
 |_,_,_=>False
theorem oA{f:Value->Value->Sem Value}{g:Int->Int->V}(h:OpR X f (rI0 g))(fl:∀i j,cV (g i j)=true):PuCmp X f (kI g):=⟨_,h,λx y T U H Q QQ vx vy h k=>by
 unfold kI at h
 split at h
 ·obtain⟨rfl,_⟩:=vx.leafI
  obtain⟨rfl,_⟩:=vy.leafI
  exact⟨_,_,rfl,rfl,k _ _ _ (Same.refl _) (.flat (fl _ _)) h⟩
 ·exact False.elim h⟩
abbrev zG8:P2:=kI λi j=>.int (i-j)
theorem iN:fL X (binaryOp .Sub) zG8:=(oA zFl λ_ _=>rfl).op
def zGB(i j:Int):Prop:=CMul i j\/(BigOk i/\BigOk j)
def vK:P2
 |.leaf (.int i),.leaf (.int j),Q=>zGB i j/\Q (iT (i*j))
 |.leaf (.str z),.leaf (.int n),Q=>(z.length<=1000/\n<=1000 /\ -1000<=n)/\Q (sT (fX z n))
 |_,_,_=>False
theorem zE1:fL X (binaryOp .Mult) vK:=⟨_,op_mul.or (op_mulB.or zEc),λx y T U H Q QQ vx vy h k=>by
 unfold vK at h
 split at h
 ·obtain⟨rfl,_⟩:=vx.leafI
  obtain⟨rfl,_⟩:=vy.leafI
  rcases h.1 with c|c
  ·exact .inl ⟨_,_,rfl,rfl,c,k _ _ _ (.flat rfl) h.2⟩
  ·exact .inr (.inl ⟨_,_,rfl,rfl,c,k _ _ _ (.flat rfl) h.2⟩)
 ·obtain⟨rfl,_⟩:=vx.leafI
  obtain⟨rfl,_⟩:=vy.leafI
  exact .inr (.inr ⟨_,_,rfl,rfl,h.1.1,h.1.2.1,h.1.2.2,k _ _ _ (.flat rfl) h.2⟩)
 ·exact False.elim h⟩
abbrev zGh:P2:=pI2 (λ_ j=>0<j/\BigOk j) λi j=>.int (i / j)
theorem sK:fL X (binaryOp .FloorDiv) zGh:=(uA xU λ_ _=>rfl).op
abbrev zHb:P2:=pI2 (λ_ j=>0<j) λi j=>.int (i % j)
theorem iO:fL X (binaryOp .Mod) zHb:=(uA gH λ_ _=>rfl).op
abbrev zHa:P2:=pI2 zBc λi j=>.int (i ^ j.toNat)
theorem lB:fL X (binaryOp .Pow) zHa:=(uA zAs λ_ _=>rfl).op
def pLt:P2
 |.leaf (.int i),.leaf (.int j),Q=>Q (bT (decide (i<j)))
 |.leaf (.str x),.leaf (.str y),Q=>Q (bT (decide (x.cps.toList<y.cps.toList)))
 |_,_,_=>False
theorem tZ:PuCmp X (compareOp .Lt) pLt:=⟨_,op_lt.or zCq,λx y T U H Q QQ vx vy h k=>by
 unfold pLt at h
 split at h
 ·obtain⟨rfl,_⟩:=vx.leafI
  obtain⟨rfl,_⟩:=vy.leafI
  exact .inl ⟨_,_,rfl,rfl,k _ _ _ (Same.refl _) (.flat rfl) h⟩
 ·obtain⟨rfl,_⟩:=vx.leafI
  obtain⟨rfl,_⟩:=vy.leafI
  exact .inr ⟨_,_,rfl,rfl,k _ _ _ (Same.refl _) (.flat rfl) h⟩
 ·exact False.elim h⟩
abbrev pLe:P2:=kI λi j=>.bl (decide (i<=j))
theorem iV:PuCmp X (compareOp .LtE) pLe:=oA zGi λ_ _=>rfl
abbrev pGt:P2:=kI λi j=>.bl (decide (j<i))
theorem zAE:PuCmp X (compareOp .Gt) pGt:=oA zGj λ_ _=>rfl
abbrev pGe:P2:=kI λi j=>.bl (decide (j<=i))
theorem zAF:PuCmp X (compareOp .GtE) pGe:=oA zGk λ_ _=>rfl
def isV(v:V):Tv->Bool
 |.leaf w=>decide (w=v)
 |_=>false
theorem oF{K:W.Frag}{H:Hp}{x v:V}{T:Tv}(f:cV v=true)(h:VA K H x T):decide (x=v)=isV v T:=by
 cases T with
 |leaf w=>obtain⟨rfl,_⟩:=h.leafI;rfl
 |seq t Ts=>
  obtain⟨a,_,rfl,_⟩:=h.seqI
  exact decide_eq_false (λz=>by rw[<-z]at f;cases f)
 |dct kts=>
  obtain⟨a,_,rfl,_⟩:=h.dctI
  exact decide_eq_false (λz=>by rw[<-z]at f;cases f)
def pK(neg:Bool):P2
 |T,.leaf .non,Q=>Q (bT (neg != isV .non T))
 |T,.leaf (.bl b),Q=>Q (bT (neg != isV (.bl b) T))
 |_,_,_=>False
abbrev pIs:P2:=pK false
abbrev zAr:P2:=pK true
theorem jX:PuCmp X (compareOp .Is) pIs:=⟨_,op_isN.or zFn,λx y T U H Q QQ vx vy h k=>by
 unfold pIs pK at h
 split at h
 ·obtain⟨rfl,_⟩:=vy.leafI
  exact .inl ⟨rfl,k _ _ _ (Same.refl _) (.flat rfl) (by rw[oF rfl vx];simpa using h)⟩
 ·obtain⟨rfl,_⟩:=vy.leafI
  exact .inr ⟨_,rfl,k _ _ _ (Same.refl _) (.flat rfl) (by rw[oF rfl vx];simpa using h)⟩
 ·exact False.elim h⟩
theorem rL:PuCmp X (compareOp .IsNot) zAr:=⟨_,op_notN.or zCr,λx y T U H Q QQ vx vy h k=>by
 unfold zAr pK at h
 split at h
 ·obtain⟨rfl,_⟩:=vy.leafI
  exact .inl ⟨rfl,k _ _ _ (Same.refl _) (.flat rfl) (by rw[oF rfl vx];simpa using h)⟩
 ·obtain⟨rfl,_⟩:=vy.leafI
  exact .inr ⟨_,rfl,k _ _ _ (Same.refl _) (.flat rfl) (by rw[oF rfl vx];simpa using h)⟩
 ·exact False.elim h⟩
theorem tK{pins:List (Addr×Obj)}{σ:St}{H:Hp}{s:Shared}(I:Inv X pins σ H s):∀{n:Nat}{x:V}{T U:Tv},EqD n T->EqD n U->VP X.K H n x T->VP X.K H n x U->T=U
 |0,_,_,_,h,_,_,_=>False.elim h
 |n+1,x,T,U,d,d',h,h'=>by
  rcases h with⟨f,rfl⟩|⟨t,a,xs,Ts,rfl,e2,rfl,z,p⟩|⟨a,kvs,kts,rfl,e2,rfl,_⟩
  ·rcases h' with⟨_,rfl⟩|⟨t',a',xs',Ts',rfl,_⟩|⟨a',kvs',kts',rfl,_⟩
   ·rfl
   ·cases f
   ·cases f
  ·rcases h' with⟨f,rfl⟩|⟨t',a',xs',Ts',e1',e2',rfl,z',p'⟩|⟨a',kvs',kts',e1',e2',rfl,_⟩
   ·cases f
   ·cases e1'
    have tt:t=t':=by
     cases t<;>cases t'<;>first|rfl|skip
     ·obtain⟨_,_,l1⟩:=PSeq.isList I e2
      obtain⟨_,_,l2⟩:=PSeq.isTup I e2'
      exact absurd rfl (SeqAt.ne_of_list_tuple l1 l2)
     ·obtain⟨_,_,l1⟩:=PSeq.isList I e2'
      obtain⟨_,_,l2⟩:=PSeq.isTup I e2
      exact absurd rfl (SeqAt.ne_of_list_tuple l1 l2)
    subst tt
    have ex:xs=xs':=by
     cases t with
     |false=>exact I.list_inj (cF e2) (cF e2')
     |true=>exact I.tuple_inj e2 e2'
    subst ex
    have g:∀U∈Ts,EqD n U:=d
    have g':∀U∈Ts',EqD n U:=d'
    have key:∀{xs:List V} {Ts Ts':List Tv},Paired (VP X.K H n) xs Ts->Paired (VP X.K H n) xs Ts'->(∀U∈Ts,EqD n U)->(∀U∈Ts',EqD n U)->Ts=Ts':=by
     intro xs Ts Ts' p
     induction p generalizing Ts' with
     |nil=>intro p' _ _;cases p';rfl
     |cons r _ ih=>
      intro p' d d'
      cases p' with
      |cons r' t'=>rw[tK I (d _ (.head _)) (d' _ (.head _)) r r',ih t' (λU hU=>d U (.tail _ hU)) (λU hU=>d' U (.tail _ hU))]
    rw[key p p' g g']
   ·exact False.elim d'
  ·exact False.elim d
def mF(T:Tv)(Us:List Tv):Prop:=EqD 40 T/\∀U∈Us,EqD 40 U
open Classical in
theorem nC{pins:List (Addr×Obj)}{σ:St}{H:Hp}{s:Shared}(I:Inv X pins σ H s)(hu:X.A.units+64<cLine){x:V}{T:Tv}{v:Value}{ys:List V}{Us:List Tv}{its:List Value}(vx:VA X.K H x T)(rx:RelV x v)(p:VAs X.K H ys Us)(r:Vals ys its)(ok:mF T Us):
  ∃e:Value->Bool,(∀y,y∈its.toArray->SeqAt.EqAt X.A.in1 s y v (e y))/\its.toArray.any e=Us.any λU=>eqT U T:=by
 obtain⟨dx,vx⟩:=vx
 have hx:=ok.1.vp vx
 refine⟨λw=>decide (∃y U,RelV y w/\VP X.K H 40 y U/\EqD 40 U/\eqT U T=true),λw hw=>?_,?_⟩
 ·have hw:w∈its:=by simpa using hw
  obtain⟨j,hj,rfl⟩:=List.mem_iff_getElem.mp hw
  have hj':j<ys.length:=by rw[r.length];exact hj
  obtain⟨u,eu,ru⟩:=r.get (List.getElem?_eq_getElem hj')
  rw[List.getElem?_eq_getElem hj]at eu
  cases eu
  obtain⟨U,eU,d,vU⟩:=eV p (List.getElem?_eq_getElem hj')
  have dU:=ok.2 U (List.mem_of_getElem? eU)
  have e:=tG I 40 (A:=X.A.in1) (by show X.A.units+1+40<_;omega) dU ok.1 (dU.vp vU) hx ru rx
  have ee:decide (∃y U,RelV y its[j]/\VP X.K H 40 y U/\EqD 40 U/\eqT U T=true)=eqT U T:=by
   rw[Bool.eq_iff_iff,decide_eq_true_iff]
   constructor
   ·rintro⟨y,U',ry,vy,dy,z⟩
    have:=RelV.inj ry ru
    subst this
    rw[tK I dU dy (dU.vp vU) vy]
    exact z
   ·intro z
    exact⟨_,U,ru,dU.vp vU,dU,z⟩
  show SeqAt.EqAt X.A.in1 s its[j] v (decide (∃y U,RelV y its[j]/\VP X.K H 40 y U/\EqD 40 U/\eqT U T=true))
  rw[ee]
  exact e
 ·rw[Bool.eq_iff_iff,Array.any_eq_true',List.any_eq_true]
  constructor
  ·rintro⟨w,hw,z⟩
   rw[decide_eq_true_iff]at z
   obtain⟨y,U',ry,vy,dy,z⟩:=z
   have hw:w∈its:=by simpa using hw
   obtain⟨j,hj,rfl⟩:=List.mem_iff_getElem.mp hw
   have hj':j<ys.length:=by rw[r.length];exact hj
   obtain⟨u,eu,ru⟩:=r.get (List.getElem?_eq_getElem hj')
   rw[List.getElem?_eq_getElem hj]at eu
   cases eu
   obtain⟨U,eU,d,vU⟩:=eV p (List.getElem?_eq_getElem hj')
   have dU:=ok.2 U (List.mem_of_getElem? eU)
   have:=RelV.inj ry ru
   subst this
   refine⟨U,List.mem_of_getElem? eU,?_⟩
   rw[tK I dU dy (dU.vp vU) vy]
   exact z
  ·rintro⟨U,hU,z⟩
   obtain⟨j,hj,rfl⟩:=List.mem_iff_getElem.mp hU
   obtain⟨y,ey,d,vy⟩:=kM p (List.getElem?_eq_getElem hj)
   obtain⟨u,eu,ru⟩:=r.get ey
   have dU:=ok.2 _ hU
   exact⟨u,by simpa using List.mem_of_getElem? eu,decide_eq_true ⟨y,_,ru,dU.vp vy,dU,z⟩⟩
def zAX(K:W.Frag)(neg:Bool):R2:=λx y H Q=>∃T t Us,VA K H x T/\VA K H y (.seq t Us)/\mF T Us/\Q (.bl (neg != Us.any λU=>eqT U T)) H
theorem zFo(hu:X.A.units+64<cLine):OpR X (compareOp .In) (zAX X.K false):=by
 rintro pins s σ H x y v u Q I rx ry ⟨T,t,Us,vx,vy,ok,q⟩
 obtain⟨a,ys,rfl,hs,z,p⟩:=vy.seqI
 cases ry
 cases t with
 |false=>
  obtain⟨its,r,l⟩:=PSeq.isList I hs
  obtain⟨e,h1,h2⟩:=nC I hu vx rx p r ok
  exact SeqAt.in_listAt e l h1 ⟨.bl _,H,I,rfl,by rw[h2];simpa using q⟩
 |true=>
  obtain⟨its,r,l⟩:=PSeq.isTup I hs
  obtain⟨e,h1,h2⟩:=nC I hu vx rx p r ok
  exact SeqAt.in_tupleAt e l h1 ⟨.bl _,H,I,rfl,by rw[h2];simpa using q⟩
theorem zCp(hu:X.A.units+64<cLine):OpR X (compareOp .NotIn) (zAX X.K true):=by
 rintro pins s σ H x y v u Q I rx ry ⟨T,t,Us,vx,vy,ok,q⟩
 obtain⟨a,ys,rfl,hs,z,p⟩:=vy.seqI
 cases ry
 cases t with
 |false=>
  obtain⟨its,r,l⟩:=PSeq.isList I hs
  obtain⟨e,h1,h2⟩:=nC I hu vx rx p r ok
  exact SeqAt.notIn_listAt e l h1 ⟨.bl _,H,I,rfl,by rw[h2];simpa using q⟩
 |true=>
  obtain⟨its,r,l⟩:=PSeq.isTup I hs
  obtain⟨e,h1,h2⟩:=nC I hu vx rx p r ok
  exact SeqAt.notIn_tupleAt e l h1 ⟨.bl _,H,I,rfl,by rw[h2];simpa using q⟩
def zDV:R2:=λy x H Q=>∃a o,x=.ref a/\jC H a y o/\Q (.bl (!o.isSome)) H
theorem zBl(hu:X.A.units+1<cLine):OpR X (compareOp .NotIn) zDV:=by
 rintro pins s σ H y _ u v Q I ry rx ⟨a,o,rfl,g,q⟩
 cases rx
 exact zEt hu I g ry λs' I'=>⟨.bl _,H,I',rfl,q⟩
def inS(i j:Str):Bool:=!(Builtin.Str.occurrences j i 0 j.length 1).isEmpty
def pL(neg:Bool):P2
 |T,.seq _ Us,Q=>mF T Us/\Q (bT (neg != Us.any λU=>eqT U T))
 |.leaf (.str i),.leaf (.str j),Q=>Q (bT (neg != inS i j))
 |.leaf (.str k),.dct kts,Q=>Q (bT (neg != (hX kts k).isSome))
 |_,_,_=>False
abbrev pIn:P2:=pL false
abbrev zAq:P2:=pL true
theorem gJ(hu:X.A.units+64<cLine):PuCmp X (compareOp .In) pIn:=⟨_,(zFo hu).or (op_in_str.or (zBP (by omega))),λx y T U H Q QQ vx vy h k=>by
 unfold pIn pL at h
 split at h
 ·exact .inl ⟨_,_,_,vx,vy,h.1,k _ _ _ (Same.refl _) (.flat rfl) h.2⟩
 ·obtain⟨rfl,_⟩:=vx.leafI
  obtain⟨rfl,_⟩:=vy.leafI
  exact .inr (.inl ⟨_,_,rfl,rfl,k _ _ _ (Same.refl _) (.flat rfl) (by simpa[inS]using h)⟩)
 ·rename_i kk kts
  obtain⟨rfl,_⟩:=vx.leafI
  obtain⟨a,kvs,rfl,⟨ob,hd⟩,n,z,p⟩:=vy.dctI
  refine .inr (.inr ⟨a,_,rfl,.inl ⟨kvs,.inr kk,.inr ⟨ob,hd⟩,rfl,rfl⟩,k _ _ _ (Same.refl _) (.flat rfl) ?_⟩)
  rcases sX p kk with⟨e1,e2⟩|⟨U,v,e1,e2,_⟩
  ·rw[e2];rw[e1]at h;exact h
  ·rw[e2];rw[e1]at h;exact h
 ·exact False.elim h⟩
theorem xS(hu:X.A.units+64<cLine):PuCmp X (compareOp .NotIn) zAq:=⟨_,(zCp hu).or (op_notIn_str.or (zBl (by omega))),λx y T U H Q QQ vx vy h k=>by
 unfold zAq pL at h
 split at h
 ·exact .inl ⟨_,_,_,vx,vy,h.1,k _ _ _ (Same.refl _) (.flat rfl) h.2⟩
 ·obtain⟨rfl,_⟩:=vx.leafI
  obtain⟨rfl,_⟩:=vy.leafI
  exact .inr (.inl ⟨_,_,rfl,rfl,k _ _ _ (Same.refl _) (.flat rfl) (by simpa[inS]using h)⟩)
 ·rename_i kk kts
  obtain⟨rfl,_⟩:=vx.leafI
  obtain⟨a,kvs,rfl,⟨ob,hd⟩,n,z,p⟩:=vy.dctI
  refine .inr (.inr ⟨a,_,rfl,.inl ⟨kvs,.inr kk,.inr ⟨ob,hd⟩,rfl,rfl⟩,k _ _ _ (Same.refl _) (.flat rfl) ?_⟩)
  rcases sX p kk with⟨e1,e2⟩|⟨U,v,e1,e2,_⟩
  ·rw[e2];rw[e1]at h;exact h
  ·rw[e2];rw[e1]at h;exact h
 ·exact False.elim h⟩
def pIx:P2
 |.seq _ Ts,.leaf (.int i),Q=>∃U,atI Ts i=some U/\Q U
 |.leaf (.str z),.leaf (.int i),Q=>z.length<=100000/\∃c,atI z.cps.toList i=some c/\Q (sT ⟨#[c]⟩)
 |.dct kts,.leaf (.str k),Q=>∃U,hX kts k=some U/\Q U
 |_,_,_=>False
theorem wP{α β:Type}{R:α->β->Prop}{xs:List α}{ys:List β}{i:Int}{y:β}(p:Paired R xs ys)(h:atI ys i=some y):∃x,atI xs i=some x/\R x y:=by
 unfold atI at h ⊢
 rw[Paired.length p]
 cases e:ixN ys.length i with
 |none=>rw[e]at h;cases h
 |some j=>
  rw[e]at h
  obtain⟨x,ex,r⟩:=kM p (show ys[j]?=some y from h)
  exact⟨x,ex,r⟩
theorem zGd(hu:X.A.units+64<cLine):zBa X pIx:=⟨_,ix_seq.or (zEk (by omega)),λx y T U H Q QQ vx vy h k=>by
 unfold pIx at h
 split at h
 ·rename_i t Ts i
  obtain⟨rfl,_⟩:=vy.leafI
  obtain⟨a,xs,rfl,hs,z,p⟩:=vx.seqI
  obtain⟨U,e,q⟩:=h
  obtain⟨x,ex,v⟩:=wP p e
  cases t with
  |false=>exact .inl (.inl ⟨a,xs,i,x,rfl,rfl,cF hs,ex,k _ _ _ (.va v) q⟩)
  |true=>exact .inl (.inr (.inl ⟨a,xs,i,x,rfl,rfl,hs,ex,k _ _ _ (.va v) q⟩))
 ·obtain⟨rfl,_⟩:=vx.leafI
  obtain⟨rfl,_⟩:=vy.leafI
  obtain⟨l,c,e,q⟩:=h
  exact .inl (.inr (.inr ⟨_,_,c,rfl,rfl,fG l,e,k _ _ _ (.flat rfl) q⟩))
 ·rename_i kts kk
  obtain⟨rfl,_⟩:=vy.leafI
  obtain⟨a,kvs,rfl,⟨ob,hd⟩,n,z,p⟩:=vx.dctI
  obtain⟨U,e,q⟩:=h
  rcases sX p kk with⟨e1,e2⟩|⟨U',v,e1,e2,vv⟩
  ·rw[e1]at e;cases e
  ·rw[e1]at e;cases e
   exact .inr ⟨a,v,rfl,.inl ⟨kvs,.inr kk,.inr ⟨ob,hd⟩,rfl,e2.symm⟩,k _ _ _ (.va vv) q⟩
 ·exact False.elim h⟩
def cR{α:Type}(xs:List α)(lo hi:Option Int):List α:=(xs.drop (HT.sIx xs.length 0 lo)).take (HT.sIx xs.length xs.length hi-HT.sIx xs.length 0 lo)
theorem wB{α β:Type}{R:α->β->Prop}:∀{l:List α}{m:List β}(n:Nat),Paired R l m->Paired R (l.drop n) (m.drop n)
 |_,_,0,p=>p
 |_,_,_+1,.nil=>.nil
 |_,_,n+1,.cons _ t=>wB n t
theorem wV{α β:Type}{R:α->β->Prop}:∀{l:List α}{m:List β}(n:Nat),Paired R l m->Paired R (l.take n) (m.take n)
 |_,_,0,p=>by rw[List.take_zero,List.take_zero];exact .nil
 |_,_,_+1,.nil=>.nil
 |_,_,n+1,.cons r t=>.cons r (wV n t)
theorem wI{α β:Type}{R:α->β->Prop}{l:List α}{m:List β}(lo hi:Option Int)(p:Paired R l m):Paired R (cR l lo hi) (cR m lo hi):=by
 unfold cR
 rw[Paired.length p]
 exact wV _ (wB _ p)
theorem zDx{α:Type}(xs:List α)(lo hi:Option Int):(cR xs lo hi).length<=xs.length:=by
 unfold cR
 rw[List.length_take,List.length_drop]
 omega
def zG9:PSl
 |.seq t Ts,lo,hi,Q=>Q (.seq t (cR Ts lo hi))
 |.leaf (.str z),lo,hi,Q=>z.length<=100000/\Q (sT (Txt.slice z lo hi))
 |_,_,_,_=>False
theorem cG:zA7 X zG9:=⟨_,sl_list.or (sl_tupW.or zEO),λx T lo hi H Q QQ vx h k=>by
 cases T with
 |seq t Ts=>
  have h:Q (.seq t (cR Ts lo hi)):=h
  obtain⟨a,xs,rfl,hs,z,p⟩:=vx.seqI
  have z':(cR Ts lo hi).length<=100000:=Nat.le_trans (zDx _ _ _) z
  cases t with
  |false=>exact .inl ⟨a,xs,rfl,cF hs,λr n=>k _ _ _ (Raw.lst n z' (wI lo hi p)) h⟩
  |true=>exact .inr (.inl ⟨a,xs,rfl,hs,λr H' sm hr=>k _ _ _ ⟨sm,.inl (VA.seq (t:=true) hr z' (Paired.mapP (wI lo hi p) λ_ _ q=>VA.hs sm.hs q))⟩ h⟩)
 |leaf w=>
  cases w with
  |str zz=>
   have h:zz.length<=100000/\Q (sT (Txt.slice zz lo hi)):=h
   obtain⟨rfl,_⟩:=vx.leafI
   exact .inr (.inr ⟨_,rfl,fG h.1,k _ _ _ (.flat rfl) h.2⟩)
  |_=>exact False.elim h
 |dct kts=>exact False.elim h⟩
def zA0:Pn
 |[.seq _ Ts],Q=>Q (iT Ts.length)
 |[.leaf (.str z)],Q=>z.length<=100000/\Q (iT z.length)
 |[.dct kts],Q=>Q (iT kts.length)
 |_,_=>False
theorem eJ:hE X (.builtin "len") zA0:=⟨_,call_len_seq.or (call_len_str.or zBZ),λxs Ts H Q QQ vx h k=>by
 unfold zA0 at h
 split at h
 ·rename_i t Ts
  obtain⟨x,rfl,v⟩:=dD vx
  obtain⟨a,xs,rfl,hs,z,p⟩:=v.seqI
  have l:xs.length=_:=Paired.length p
  refine .inl ⟨a,xs,rfl,?_,k _ _ _ (.flat rfl) (by rw[l];exact h)⟩
  cases t with
  |false=>exact .inl (cF hs)
  |true=>exact .inr hs
 ·obtain⟨x,rfl,v⟩:=dD vx
  obtain⟨rfl,_⟩:=v.leafI
  exact .inr (.inl ⟨_,rfl,fG h.1,k _ _ _ (.flat rfl) h.2⟩)
 ·obtain⟨x,rfl,v⟩:=dD vx
  obtain⟨a,kvs,rfl,⟨ob,hd⟩,n,z,p⟩:=v.dctI
  have l:kvs.length=_:=Paired.length p
  exact .inr (.inr ⟨a,kvs,rfl,.inr ⟨ob,hd⟩,k _ _ _ (.flat rfl) (by rw[l];exact h)⟩)
 ·exact False.elim h⟩
def pP(T:String):Tv->Bool
 |.leaf .non=>false
 |.leaf (.bl _)=>T=="bool" || T=="int"
 |.leaf (.int _)=>T=="int"
 |.leaf (.str _)=>T=="str"
 |.leaf _=>false
 |.seq false _=>T=="list"
 |.seq true _=>T=="tuple"
 |.dct _=>T=="dict"
theorem zFU{K:W.Frag}{H:Hp}{x:V}{W:Tv}(T:String)(v:VA K H x W):TyV K T x H (pP T W):=by
 cases W with
 |leaf w=>
  obtain⟨rfl,f⟩:=v.leafI
  rcases jG f with rfl|⟨b,rfl⟩|⟨b,rfl⟩|⟨b,rfl⟩<;>rfl
 |seq t Ts=>
  obtain⟨a,xs,rfl,hs,z,p⟩:=v.seqI
  cases t with
  |false=>exact .inl ⟨xs,cF hs,rfl⟩
  |true=>exact .inr (.inl ⟨xs,hs,rfl⟩)
 |dct kts=>
  obtain⟨a,kvs,rfl,⟨ob,hd⟩,n,z,p⟩:=v.dctI
  exact .inr (.inr ⟨kvs,.inr ⟨ob,hd⟩,rfl⟩)
def zGJ(T:String)(u:UT):UT:=λρ Q=>u ρ λW ρ1=>Q (bT (pP T W)) ρ1
theorem zEE{e t:Expr}{u:UT}{p pos:Pos}(T:String)(hc:CallR X (.builtin "isinstance") (λxs H Q=>∃x b,xs=[x,.ty T]/\TyV X.K T x H b/\Q (.bl b) H))(hg:Gl X "isinstance")(hm:X.mg "isinstance"=none)(he:UE X F e u)(ht:PE X t (tC (.ty T)))
  (h1:dO e=false:=by rfl) (h2:dO t=false:=by rfl) (hpl:(backTo pos (starEach [t] X.env)).any (·.1)=false:=by rfl):UE X F (.Call (.Name "isinstance" p) [e,t] [] pos) (zGJ T u):=
 ⟨PE.imp (iH hc hg hm boot_isinstance (dF he.pe (dF ht eE h2) h1) (by decide) (by decide) (kP h1) hpl) λσ H QQ ⟨ρ,Q,f,h,k⟩=>
  ⟨ρ,_,f,h,λx W H1 ρ1 s1 v1 q1=>⟨x,_,rfl,zFU T v1,k _ _ _ _ s1 (.flat rfl) q1⟩⟩⟩
theorem sA{K:W.Frag}{H:Hp}:∀{xs:List V}{bs:List Bool},VAs K H xs (bs.map bT)->xs=bs.map V.bl
 |[],[],_=>rfl
 |_::_,_::_,.cons r t=>by rw[List.map_cons,<-sA t,(VA.leafI r).1]
theorem mZ{K:W.Frag}{H:Hp}:∀{xs:List V}{ns:List Int},VAs K H xs (ns.map iT)->xs=ns.map V.int
 |[],[],_=>rfl
 |_::_,_::_,.cons r t=>by rw[List.map_cons,<-mZ t,(VA.leafI r).1]
theorem iF{K:W.Frag}{H:Hp}:∀{xs:List V}{ss:List Str},VAs K H xs (ss.map sT)->xs=ss.map V.str
 |[],[],_=>rfl
 |_::_,_::_,.cons r t=>by rw[List.map_cons,<-iF t,(VA.leafI r).1]
theorem yM{K:W.Frag}{H:Hp}:∀(ns:List Int),VAs K H (ns.map V.int) (ns.map iT)
 |[]=>.nil
 |_::ns=>.cons (.flat rfl) (yM ns)
theorem kU{K:W.Frag}{H:Hp}:∀(ss:List Str),VAs K H (ss.map V.str) (ss.map sT)
 |[]=>.nil
 |_::ss=>.cons (.flat rfl) (kU ss)
def zHf:Pn:=λTs Q=>∃bs:List Bool,Ts=[.seq false (bs.map bT)]/\Q (bT (bs.all id))
def zHe:Pn:=λTs Q=>∃bs:List Bool,Ts=[.seq false (bs.map bT)]/\Q (bT (bs.any id))
theorem zAn(hc:X.calm=true):hE X (.builtin "all") zHf:=⟨_,zCS hc,λxs Ts H Q QQ vx h k=>by
 obtain⟨bs,rfl,q⟩:=h
 obtain⟨x,rfl,v⟩:=dD vx
 obtain⟨a,ys,rfl,hs,z,p⟩:=v.seqI
 rw[sA p]at hs
 exact⟨a,bs,rfl,cF hs,k _ _ _ (.flat rfl) q⟩⟩
theorem zE3(hc:X.calm=true):hE X (.builtin "any") zHe:=⟨_,zCR hc,λxs Ts H Q QQ vx h k=>by
 obtain⟨bs,rfl,q⟩:=h
 obtain⟨x,rfl,v⟩:=dD vx
 obtain⟨a,ys,rfl,hs,z,p⟩:=v.seqI
 rw[sA p]at hs
 exact⟨a,bs,rfl,cF hs,k _ _ _ (.flat rfl) q⟩⟩
def zHc:Pn:=λTs Q=>(∃i j:Int,Ts=[iT i,iT j]/\Q (iT (min i j)))\/(∃ns:List Int,Ts=[.seq false (ns.map iT)]/\0<ns.length/\∀M,M∈ns->(∀a∈ns,M<=a)->Q (iT M)) \/
 ∃ss:List Str,Ts=[.seq false (ss.map sT)]/\0<ss.length/\∀x,x∈ss->(∀y∈ss,x.cps.toList<=y.cps.toList)->Q (sT x)
def zHd:Pn:=λTs Q=>(∃i j:Int,Ts=[iT i,iT j]/\Q (iT (max i j)))\/(∃ns:List Int,Ts=[.seq false (ns.map iT)]/\0<ns.length/\∀M,M∈ns->(∀a∈ns,a<=M)->Q (iT M)) \/
 ∃ss:List Str,Ts=[.seq false (ss.map sT)]/\0<ss.length/\∀x,x∈ss->(∀y∈ss,y.cps.toList<=x.cps.toList)->Q (sT x)
theorem zE2(hc:X.calm=true):hE X (.builtin "min") zHc:=⟨_,(zCN hc).or ((zCO hc).or (zBX hc)),λxs Ts H Q QQ vx h k=>by
 rcases h with⟨i,j,rfl,q⟩|⟨ns,rfl,l,q⟩|⟨ss,rfl,l,q⟩
 ·obtain⟨x,y,rfl,v,v'⟩:=zAO vx
  obtain⟨rfl,_⟩:=v.leafI
  obtain⟨rfl,_⟩:=v'.leafI
  refine .inl ⟨i,j,rfl,k _ _ _ (.flat rfl) ?_⟩
  have e:(if j<i then j else i)=min i j:=by split<;>omega
  rw[e];exact q
 ·obtain⟨x,rfl,v⟩:=dD vx
  obtain⟨a,ys,rfl,hs,z,p⟩:=v.seqI
  rw[mZ p]at hs
  exact .inr (.inl ⟨a,ns,rfl,cF hs,l,λM h1 h2=>k _ _ _ (.flat rfl) (q M h1 h2)⟩)
 ·obtain⟨x,rfl,v⟩:=dD vx
  obtain⟨a,ys,rfl,hs,z,p⟩:=v.seqI
  rw[iF p]at hs
  exact .inr (.inr ⟨a,ss,rfl,cF hs,l,λM h1 h2=>k _ _ _ (.flat rfl) (q M h1 h2)⟩)⟩
theorem zAm(hc:X.calm=true):hE X (.builtin "max") zHd:=⟨_,(zCP hc).or ((zCQ hc).or (zBY hc)),λxs Ts H Q QQ vx h k=>by
 rcases h with⟨i,j,rfl,q⟩|⟨ns,rfl,l,q⟩|⟨ss,rfl,l,q⟩
 ·obtain⟨x,y,rfl,v,v'⟩:=zAO vx
  obtain⟨rfl,_⟩:=v.leafI
  obtain⟨rfl,_⟩:=v'.leafI
  refine .inl ⟨i,j,rfl,k _ _ _ (.flat rfl) ?_⟩
  have e:(if j > i then j else i)=max i j:=by split<;>omega
  rw[e];exact q
 ·obtain⟨x,rfl,v⟩:=dD vx
  obtain⟨a,ys,rfl,hs,z,p⟩:=v.seqI
  rw[mZ p]at hs
  exact .inr (.inl ⟨a,ns,rfl,cF hs,l,λM h1 h2=>k _ _ _ (.flat rfl) (q M h1 h2)⟩)
 ·obtain⟨x,rfl,v⟩:=dD vx
  obtain⟨a,ys,rfl,hs,z,p⟩:=v.seqI
  rw[iF p]at hs
  exact .inr (.inr ⟨a,ss,rfl,cF hs,l,λM h1 h2=>k _ _ _ (.flat rfl) (q M h1 h2)⟩)⟩
def zEa:List Tv->(List Tv->Prop)->Prop:=λTs Q=>∃t Us,Ts=[.seq t Us]/\Q Us
theorem qM:nS X (.type "list") zEa:=⟨_,vW,λxs Ts H Q QQ vx h k=>by
 obtain⟨t,Us,rfl,q⟩:=h
 obtain⟨x,rfl,v⟩:=dD vx
 obtain⟨a,ys,rfl,hs,z,p⟩:=v.seqI
 refine⟨a,ys,rfl,?_,λl n=>k l ys Us _ (dI n) n bE z (VAs.hs (iS n) p) q⟩
 cases t with
 |false=>exact .inl (cF hs)
 |true=>exact .inr hs⟩
def zFj:Pn:=λTs Q=>∃t Us,Ts=[.seq t Us]/\Q (.seq true Us)
theorem fN:hE X (.type "tuple") zFj:=⟨_,zBo,λxs Ts H Q QQ vx h k=>by
 obtain⟨t,Us,rfl,q⟩:=h
 obtain⟨x,rfl,v⟩:=dD vx
 obtain⟨a,ys,rfl,hs,z,p⟩:=v.seqI
 refine⟨a,ys,rfl,?_⟩
 cases t with
 |false=>exact .inl ⟨cF hs,λl n=>k _ _ _ (Raw.tup n z p) q⟩
 |true=>exact .inr ⟨hs,k _ _ _ (.va v) q⟩⟩
def zD9:List Tv->(List Tv->Prop)->Prop:=λTs Q=>(∃ns:List Int,Ts=[.seq false (ns.map iT)]/\ns.length<64/\∀ms:List Int,ms.Perm ns->ms.Pairwise (·<=·)->Q (ms.map iT)) \/
 (∃ss:List Str,Ts=[.seq false (ss.map sT)]/\ss.length<64/\Q ((bZ ss).map sT))\/∃kts,Ts=[.dct kts]/\Q ((bZ (kts.map (·.1))).map sT)
theorem zCU{K:W.Frag}{H:Hp}{kvs:List (Key×V)}{kts:List (Str×Tv)}(p:VAk K H kvs kts):kvs.map (·.1)=(kts.map (·.1)).map Sum.inr:=by
 unfold VAk at p
 induction p with
 |nil=>rfl
 |cons r _ ih=>rw[List.map_cons,List.map_cons,List.map_cons,ih,r.1]
theorem qK(us:List Str):(bZ us).length=us.length:=(gU us).length_eq
theorem qL(hc:X.calm=true):nS X (.builtin "sorted") zD9:=⟨_,call_sortedI.or (call_sortedS.or (zBt hc)),λxs Ts H Q QQ vx h k=>by
 rcases h with⟨ns,rfl,l,q⟩|⟨ss,rfl,l,q⟩|⟨kts,rfl,q⟩
 ·obtain⟨x,rfl,v⟩:=dD vx
  obtain⟨a,ys,rfl,hs,z,p⟩:=v.seqI
  rw[mZ p]at hs
  refine .inl ⟨a,ns,rfl,cF hs,l,λms b h1 h2 n=>k b _ _ _ (dI n) n bE (by rw[List.length_map,h1.length_eq];omega) (yM ms) (q ms h1 h2)⟩
 ·obtain⟨x,rfl,v⟩:=dD vx
  obtain⟨a,ys,rfl,hs,z,p⟩:=v.seqI
  rw[iF p]at hs
  refine .inr (.inl ⟨a,ss,rfl,cF hs,l,λms b h1 h2 n=>k b _ _ _ (dI n) n bE (by rw[List.length_map,h1.length_eq];omega) (kU ms) (by rw[kS h1 h2];exact q)⟩)
 ·obtain⟨x,rfl,v⟩:=dD vx
  obtain⟨a,kvs,rfl,⟨ob,hd⟩,nd,z,p⟩:=v.dctI
  refine .inr (.inr ⟨a,ob,kvs,kts.map (·.1),rfl,hd,zCU p,by rw[List.length_map];exact z,λms b h1 h2 n=>k b _ _ _ (dI n) n bE (by rw[List.length_map,h1.length_eq,List.length_map];omega) (kU ms) (by rw[kS h1 h2];exact q)⟩)⟩
def uBM(T:String)(r:Tv->List Tv->(Tv->Prop)->Prop)(u:UT)(ua:UTa):UT:=λρ Q=>u ρ λW ρ1=>pP T W=true/\uVs ua ρ1 λTs ρ2=>r W Ts λW'=>Q W' ρ2
theorem zDJ{K:W.Frag}{H:Hp}{x:V}{W:Tv}(v:VA K H x W)(h:pP "str" W=true):tyV K "str" x H:=by
 cases W with
 |leaf w=>
  obtain⟨rfl,f⟩:=v.leafI
  rcases jG f with rfl|⟨b,rfl⟩|⟨b,rfl⟩|⟨b,rfl⟩
  ·cases h
  ·cases h
  ·cases h
  ·rfl
 |seq t Ts=>cases t<;>cases h
 |dct kts=>cases h
theorem nW{name:Str}{id:String}{r:Tv->List Tv->(Tv->Prop)->Prop}{o e:Expr}{es:List Expr}{u:UT}{ua:UTa}{apos cpos:Pos}(slot:Slot "str" name id)(hty:typeOf (.builtin id)=pure (.type "method_descriptor"))
  (hm:∃r',MtR X id r'/\∀x W xs Ts H Q (QQ:VK),VA X.K H x W->VAs X.K H xs Ts->r W Ts Q->(∀z W H',Raw X.K H H' z W->Q W->QQ z H')->r' x xs H QQ) (ho:UE X F o u) (ha:UA X F (e::es) ua)
  (hbase:attributeBase o name X.env (eval o X.env)=eval o X.env:=by rfl)
  (hfew:((backTo cpos (starEach (e::es) X.env)).all (λx=>!x.1)&&(backToKw cpos (keywordEach [] X.env)).all (λx=>x.1.isSome)&&decide ((e::es).length+([]:List Keyword).length+(if ([]:List Keyword).isEmpty then 0 else 1)<30))=true:=by rfl)
  (hline:(apos.endLine==cpos.line)=true:=by rfl) (hs:starEach (e::es) X.env=(false,eval e X.env)::starEach es X.env:=by rfl) (hplain:(backTo cpos (starEach es X.env)).any (·.1)=false:=by rfl):
  UE X F (.Call (.Attribute o name apos) (e::es) [] cpos) (uBM "str" r u ua):=by
 obtain⟨r',m,hr⟩:=hm
 refine⟨PE.imp (PE.fz (jY PySem.F.plainAttrs_str slot hty m ho.pe ha.pa hbase hfew hline hs hplain)) λσ H QQ ⟨ρ,Q,f,h,k⟩=>⟨ρ,_,f,h,λx W H1 ρ1 s1 v1 q1=>⟨zDJ v1 q1.1,ρ1,_,s1.fr,q1.2,λxs as H2 ρ2 s2 p2 q2=>?_⟩⟩⟩
 obtain⟨Ts,rfl,q⟩:=gX q2
 exact hr x W xs Ts H2 _ _ (v1.hs (s2.hs s1.fr)) (gY p2) q λz W' H' rw q=>rw.fin s2.fr λH'' s4 v4=>k _ _ _ _ ((s1.trans s2).trans s4) v4 q
def zD8:Tv->List Tv->(Tv->Prop)->Prop:=λW Ts Q=>∃i j:Str,W=sT i/\Ts=[sT j]/\Q (bT (decide (0+j.length<=i.length)&&Builtin.Str.subAt i j 0))
theorem zCn:∃r',MtR X "str.startswith" r'/\∀x W xs Ts H Q (QQ:VK),VA X.K H x W->VAs X.K H xs Ts->zD8 W Ts Q->(∀z W H',Raw X.K H H' z W->Q W->QQ z H')->r' x xs H QQ:=⟨_,zBm,λx W xs Ts H Q QQ v p h k=>by
 obtain⟨i,j,rfl,rfl,q⟩:=h
 obtain⟨rfl,_⟩:=v.leafI
 obtain⟨y,rfl,v'⟩:=dD p
 obtain⟨rfl,_⟩:=v'.leafI
 exact⟨i,j,rfl,rfl,k _ _ _ (.flat rfl) q⟩⟩
def zGg:Tv->List Tv->(Tv->Prop)->Prop:=λW Ts Q=>∃i j:Str,W=sT i/\Ts=[sT j]/\∀n:Int,Q (iT n)
theorem zDZ:∃r',MtR X "str.find" r'/\∀x W xs Ts H Q (QQ:VK),VA X.K H x W->VAs X.K H xs Ts->zGg W Ts Q->(∀z W H',Raw X.K H H' z W->Q W->QQ z H')->r' x xs H QQ:=⟨_,zEg,λx W xs Ts H Q QQ v p h k=>by
 obtain⟨i,j,rfl,rfl,q⟩:=h
 obtain⟨rfl,_⟩:=v.leafI
 obtain⟨y,rfl,v'⟩:=dD p
 obtain⟨rfl,_⟩:=v'.leafI
 exact⟨i,j,rfl,rfl,λn=>k _ _ _ (.flat rfl) (q n)⟩⟩
def zGf:Tv->List Tv->(Tv->Prop)->Prop:=λW Ts Q=>∃ss:List Str,W=sT ⟨#[]⟩/\Ts=[.seq false (ss.map sT)]/\(bI ss).length<=100000/\Q (sT ⟨(bI ss).toArray⟩)
theorem yY:∃r',MtR X "str.join" r'/\∀x W xs Ts H Q (QQ:VK),VA X.K H x W->VAs X.K H xs Ts->zGf W Ts Q->(∀z W H',Raw X.K H H' z W->Q W->QQ z H')->r' x xs H QQ:=⟨_,zEf,λx W xs Ts H Q QQ v p h k=>by
 obtain⟨ss,rfl,rfl,l,q⟩:=h
 obtain⟨rfl,_⟩:=v.leafI
 obtain⟨y,rfl,v'⟩:=dD p
 obtain⟨a,ys,rfl,hs,z,p'⟩:=v'.seqI
 rw[iF p']at hs
 refine⟨a,ss,rfl,rfl,cF hs,l,λz e=>k _ _ _ (.flat rfl) ?_⟩
 have:z=⟨(bI ss).toArray⟩:=by
  cases z with
  |mk c=>congr 1;have e:c.toList=bI ss:=e;rw[<-e]
 rw[this];exact q⟩
end
end L2
namespace L2
open PySem PySem.Spec PyProof.Rows WordM
section
variable{X:Cx}{F:Fm}{pos:Pos}
def zEI(i:Nat)(u:UT):UT:=λρ Q=>(∃Ts,ρ[i]?=some (.own Ts))/\u ρ λJ ρ1=>∃(j:Int) (Ts:List Tv) (T:Tv),J=iT j/\ρ1[i]?=some (.own Ts)/\atI Ts j=some T/\Q T ρ1
theorem rF(i:Nat){x:Str}{p:Pos}{e:Expr}{u:UT}(h:UE X F e u)(hs:kY e:=by intro _ _;rfl)(hN:X.N[i]?=some x:=by rfl)(hv:Vis X.env.scope x:=by first|exact Or.inl rfl|exact Or.inr (Or.inl rfl)|exact Or.inr (Or.inr rfl))(hd:(x==("__debug__":Str))=false:=by decide)(hcd:(x==("__classdict__":Str))=false:=by decide):
  UE X F (.Subscript (.Name x p) e pos) (zEI i u):=⟨PE.imp (fT ix_list (gG hN hv hd hcd) h.pe hs) λσ H QQ ⟨ρ,Q,f,⟨⟨Ts0,e0⟩,hu⟩,k⟩=>by
 obtain⟨a,xs,ea,eH,e3,z,pv⟩:=f.at_ i _ e0
 refine⟨_,fO ea,ρ,_,f,hu,λy J H1 ρ1 s1 v1 q1=>?_⟩
 obtain⟨j,Ts,T,rfl,e1,eT,q⟩:=q1
 obtain⟨rfl,_⟩:=v1.leafI
 obtain⟨a',ys,ea',eH1,e3',z',pv'⟩:=s1.fr.at_ i _ e1
 rw[ea]at ea';cases ea'
 obtain⟨w,ew,vw⟩:=wP pv' eT
 exact⟨a,ys,j,w,rfl,rfl,SqL.of eH1,ew,k _ _ _ _ s1 vw q⟩⟩
def fJ(K:W.Frag)(mg:Str->Option Value)(x:Str)(T:Tv):Prop:=∃v u,mg x=some u/\RelV v u/\∀H,VA K H v T
theorem oK{x:Str}{T:Tv}(G:fJ X.K X.mg x T)(hg:Gl X x)(hd:(x==("__debug__":Str))=false:=by decide):UE X F (.Name x pos) (uC T):=by
 obtain⟨v,u,m,r,h⟩:=G
 exact zDF hg m r h hd
def iW(K:W.Frag)(prm:Params)(mg:Str->Option Value)(x:Str)(kvs:List (Str×Str)):Prop:=∃d,mg x=some (.ref d)/\zAN K prm d kvs
def uKD(kvs:List (Str×Str))(u:UT):UT:=λρ Q=>u ρ λT ρ1=>∃i j,T=sT i/\getS kvs i=some j/\Q (sT j) ρ1
theorem lG{x:Str}{p:Pos}{e:Expr}{u:UT}{kvs:List (Str×Str)}(G:iW X.K X.w.params X.mg x kvs)(hg:Gl X x)(he:UE X F e u)(hs:kY e:=by intro _ _;rfl)(hd:(x==("__debug__":Str))=false:=by decide):UE X F (.Subscript (.Name x p) e pos) (uKD kvs u):=by
 obtain⟨d,m,D⟩:=G
 refine⟨PE.imp (fT (zGp D) (zC (v:=.ref d) hg m rfl hd) he.pe hs) λσ H QQ ⟨ρ,Q,f,h,k⟩=>⟨ρ,_,f,h,λy T H1 ρ1 s1 v1 q1=>?_⟩⟩
 obtain⟨i,j,rfl,ej,q⟩:=q1
 obtain⟨rfl,_⟩:=v1.leafI
 exact⟨i,j,rfl,rfl,ej,k _ _ _ _ s1 (.flat rfl) q⟩
end
def oS(own:Nat)(fr:List Nat)(g:UG)(tf:UTt)(ue:UT)(T:Tv)(ρ:aT)(R:Option Tv->aT->Prop):Prop:=g T (blk own fr ρ) λρ1=>tf ρ1 λb ρ2=>if b=true then ue ρ2 λU ρ3=>R (some U) (bck own fr ρ ρ3) else R none (bck own fr ρ ρ2)
section
variable{own:Nat}{fr:List Nat}{g:UG}{tf:UTt}{ue:UT}
def zGy(own:Nat)(fr:List Nat)(g:UG)(tf:UTt)(ue:UT)(Ts:List Tv)(Q:List Tv->aT->Prop)(o:Option Tv)(ρ:aT):Prop:=match o with
 |some U=>eF own fr g tf ue Ts ρ λUs ρ4=>Q (U::Us) ρ4
 |none=>eF own fr g tf ue Ts ρ Q
theorem wN(T:Tv)(Ts:List Tv)(ρ:aT)(Q:List Tv->aT->Prop):eF own fr g tf ue (T::Ts) ρ Q=oS own fr g tf ue T ρ (zGy own fr g tf ue Ts Q):=rfl
theorem zCI{ρ:aT}{Ts:List Tv}{Q:List Tv->aT->Prop}(J:Nat->List Tv->aT->Prop)(h0:J 0 [] ρ)(hs:∀i T Us ρ',Ts[i]?=some T->J i Us ρ'->∀R:Option Tv->aT->Prop,(∀o ρ'',J (i+1) (Us++o.toList) ρ''->R o ρ'')->oS own fr g tf ue T ρ' R)
  (hd:∀Us ρ',J Ts.length Us ρ'->Q Us ρ'):eF own fr g tf ue Ts ρ Q:=by
 have key:∀(n i:Nat) (Us:List Tv) (ρ:aT) (Q:List Tv->aT->Prop),n+i=Ts.length->J i Us ρ->(∀Vs ρ',J Ts.length (Us++Vs) ρ'->Q Vs ρ')->eF own fr g tf ue (Ts.drop i) ρ Q:=by
  intro n
  induction n with
  |zero=>
   intro i Us ρ Q e j hd
   have:i=Ts.length:=by omega
   subst this
   rw[List.drop_length]
   exact hd [] ρ (by rw[List.append_nil];exact j)
  |succ n ih=>
   intro i Us ρ Q e j hd
   have hi:i<Ts.length:=by omega
   rw[List.drop_eq_getElem_cons hi,wN]
   refine hs i _ Us ρ (List.getElem?_eq_getElem hi) j _ λo ρ'' j'=>?_
   cases o with
   |none=>exact ih (i+1) _ ρ'' Q (by omega) j' λVs ρ' q=>hd Vs ρ' (by simpa using q)
   |some U=>exact ih (i+1) _ ρ'' (λUs ρ4=>Q (U::Us) ρ4) (by omega) j' λVs ρ' q=>hd (U::Vs) ρ' (by simpa using q)
 exact key Ts.length 0 [] ρ Q (by omega) h0 λVs ρ' q=>hd Vs ρ' (by simpa using q)
theorem eW{g:UG}{ub:UTs}{Ts:List Tv}{P:PEnds}{ρ:aT}(J:Nat->aT->Prop)(h0:J 0 ρ)(hs:∀i T ρ' (N:aT->Prop),Ts[i]?=some T->J i ρ'->(∀ρ'',J (i+1) ρ''->N ρ'')->g T ρ' λρ1=>ub {P with nx:=N,ct:=N,bk:=P.nx} ρ1)
  (hd:∀ρ',J Ts.length ρ'->P.nx ρ'):gQ g ub Ts P ρ:=by
 have key:∀(n i:Nat) (ρ:aT),n+i=Ts.length->J i ρ->gQ g ub (Ts.drop i) P ρ:=by
  intro n
  induction n with
  |zero=>
   intro i ρ e j
   have:i=Ts.length:=by omega
   subst this
   rw[List.drop_length]
   exact hd ρ j
  |succ n ih=>
   intro i ρ e j
   have hi:i<Ts.length:=by omega
   rw[List.drop_eq_getElem_cons hi]
   exact hs i _ ρ (λρ'=>gQ g ub (Ts.drop (i+1)) P ρ') (List.getElem?_eq_getElem hi) j λρ'' j'=>ih (i+1) ρ'' (by omega) j'
 exact key Ts.length 0 ρ (by omega) h0
end
end L2
namespace L2
open PySem PySem.Spec PyProof.Rows WordM
def eK:PSp:=λas R=>∃m:Int,as=[.dk,.va (iT m)]/\0<m/\BigOk m/\∀r:Int,0<=r->r<m->R (iT r)
theorem On.kp{p c:Addr}{H H':Hp}(o:On p c H H'):Kp (some (p,c)) H H':=⟨λb u e n=>o.e b u e (n p c rfl).1 (n p c rfl).2,λp' c' e=>by cases e;exact o.d⟩
theorem Good.take{P:Program}{w:World}{K:W.Frag}{mg:Str->Option Value}{base:Heap}{k:Nat}{x:Str}{ps:List Str}(G:Good P w K mg base k x ps zAe):aG P w K mg base k x ps eK:=Good.imp G λvs H Q E ⟨dk,as,R,d,p,⟨m,e,hm,hb,q⟩,kk⟩=>by
 subst e
 cases p with
 |cons r1 t1=>
  cases t1 with
  |cons r2 t2=>
   cases t2
   obtain⟨p,c,ed,rfl⟩:=r1
   subst ed
   obtain⟨rfl,_⟩:=VA.leafI r2
   exact⟨p,c,m,rfl,d p c rfl,hm,hb,λr H' h1 h2 o=>kk _ _ _ o.kp (.flat rfl) (q r h1 h2)⟩
theorem bN{j:Int}(h1:-(10 ^ 100)<j)(h2:j<10 ^ 100):BigOk j:=by
 unfold BigOk
 have:j.natAbs<10 ^ 100:=by omega
 exact Nat.lt_trans this (by decide +kernel)
section
variable{own:Nat}{fr:List Nat}{g:UG}{tf:UTt}{ue:UT}{α:Type}
theorem dQ{ρ:aT}(c:α->Tv)(f:α->Option Tv):∀{l:List α}{Q:List Tv->aT->Prop},(∀a∈l,∀R:Option Tv->aT->Prop,R (f a) ρ->oS own fr g tf ue (c a) ρ R)->Q (l.filterMap f) ρ->eF own fr g tf ue (l.map c) ρ Q
 |[],_,_,q=>q
 |a::l,Q,h,q=>by
  rw[List.map_cons,wN]
  refine h a (.head _) _ ?_
  rw[List.filterMap_cons]at q
  cases e:f a with
  |none=>rw[e]at q;exact dQ c f (λb hb=>h b (.tail _ hb)) q
  |some U=>rw[e]at q;exact dQ (Q:=λUs ρ4=>Q (U::Us) ρ4) c f (λb hb=>h b (.tail _ hb)) q
theorem cM{ρ:aT}(c f:α->Tv){l:List α}{Q:List Tv->aT->Prop}(h:∀a∈l,∀R:Option Tv->aT->Prop,R (some (f a)) ρ->oS own fr g tf ue (c a) ρ R)(q:Q (l.map f) ρ):eF own fr g tf ue (l.map c) ρ Q:=
 dQ c (λa=>some (f a)) h (by rw[show l.filterMap (λa=>some (f a))=l.map f from List.filterMap_eq_map'▸rfl];exact q)
theorem nR{g:UG}{ub:UTs}{P:PEnds}{ρ:aT}(c:α->Tv){l:List α}(J:Nat->aT->Prop)(h0:J 0 ρ)(hs:∀i a ρ' (N:aT->Prop),l[i]?=some a->J i ρ'->(∀ρ'',J (i+1) ρ''->N ρ'')->g (c a) ρ' λρ1=>ub {P with nx:=N,ct:=N,bk:=P.nx} ρ1)
  (hd:∀ρ',J l.length ρ'->P.nx ρ'):gQ g ub (l.map c) P ρ:=
 eW J h0 (λi T ρ' N e j hN=>by
  rw[List.getElem?_map]at e
  obtain⟨a,ea,rfl⟩:=Option.map_eq_some_iff.mp e
  exact hs i a ρ' N ea j hN) (by rw[List.length_map];exact hd)
end
theorem zP(x y:Str):eqT (sT x) (sT y)=decide (x=y):=by
 rw[eqT]
 show(x==y)=_
 exact Bool.beq_eq_decide_eq x y
theorem gE{x:Str}{ss:List Str}:((ss.map sT).any λU=>eqT U (sT x))=decide (x∈ss):=by
 rw[List.any_map,Bool.eq_iff_iff,List.any_eq_true,decide_eq_true_iff]
 constructor
 ·rintro⟨y,hy,e⟩
  have e:eqT (sT y) (sT x)=true:=e
  rw[zP,decide_eq_true_iff]at e
  rw[<-e];exact hy
 ·intro h
  exact⟨x,h,by show eqT (sT x) (sT x)=true;rw[zP,decide_eq_true_iff]⟩
theorem gD{x:Str}{ss:List Str}:mF (sT x) (ss.map sT):=⟨trivial,λU hU=>by
 obtain⟨s,_,rfl⟩:=List.mem_map.mp hU
 trivial⟩
theorem sif{b:Bool}{A B:Prop}(h1:b=true->A)(h2:b=false->B):if b=true then A else B:=by
 cases b with
 |true=>exact(if_pos rfl).mpr (h1 rfl)
 |false=>exact(if_neg Bool.false_ne_true).mpr (h2 rfl)
theorem dZ{p:Prop}[Decidable p]{A B:Prop}(h1:p->A)(h2:¬ p->B):if decide p=true then A else B:=sif (λh=>h1 (of_decide_eq_true h)) λh=>h2 (of_decide_eq_false h)
end L2
namespace L2
open PySem PySem.Spec PyProof.Rows WordM
section
variable{X:Cx}{F:Fm}
def zF3:R2:=λx y H Q=>∃l k xs,x=.ref l/\y=.int k/\Rd H l (.lst xs) /\ -(2 ^ 63)<=k/\k<2 ^ 63/\xs.length*k.toNat<=sizeLine/\∀p,H p=none->Q (.ref p) (upd H p (.lst (List.replicate k.toNat xs).flatten))
theorem zEb:OpR X (binaryOp .Mult) zF3:=by
 rintro pins s σ H _ _ v u Q I rx ry ⟨l,k,xs,rfl,rfl,hH,h1,h2,hz,q⟩
 cases rx
 obtain⟨t,rfl⟩:=ry
 obtain⟨z,its,n,r,e⟩:=hH.ok I.hok
 have hl:=r.length
 have hlen:its.toArray.size*k.toNat<=sizeLine:=by rw[List.size_toArray,<-hl];exact hz
 have hcap:¬ its.toArray.size*k.toNat > (2 ^ 63-1) / 8:=by
  have:(sizeLine:Nat)<=(2 ^ 63-1) / 8:=by decide
  omega
 have hfit:¬ (!Builtin.List.listFitsIndex k)=true:=by
  rw[fitsIndex_both h1 h2]
  exact Bool.false_ne_true
 have hlong:¬ Builtin.List.listTooLong (its.toArray.size*k.toNat)=true:=by
  rw[xV hlen]
  exact Bool.false_ne_true
 have hnew:List.foldl (λx1 x2=>x1++x2) #[] (List.replicate (if its.toArray.isEmpty=true then 0 else k.toNat) its.toArray)=(List.replicate k.toNat its).flatten.toArray:=by
  have f0:∀m:Nat,List.foldl (λx1 x2=>x1++x2) #[] (List.replicate m its.toArray)=(List.replicate m its).flatten.toArray:=λm=>by
   have:=xE its m []
   rw[List.nil_append]at this
   exact this
  rw[f0]
  cases its with
  |nil=>simp
  |cons a r'=>rw[if_neg (by simp)]
 refine wpAny_binaryOp_repeat_ref (T:="list") (U:="int") (by decide) ⟨_,e,rfl⟩ (λs'=>typeIs_int s' k t) noFill_list_mul F.fills_int_mul F.slot_int_rmul repeat_list F.slot_int_index.lookup
  (call_meets F.slot_int_rmul (typeIs_int s k t) F.entry_int_rmul (F.args_int_rmul_2 _ _) (int___rmul___int_list k t l its.toArray n)
   ⟨e,rfl,⟨_,e,rfl⟩,call_meets F.slot_list_mul ⟨_,e,rfl⟩ F.entry_list_mul (F.args_list_mul_2 _ _) (AutoListH.list___mul___list_int_3 l its.toArray n k t hfit hcap hlong) ⟨e,?_⟩⟩)
 rw[hnew]
 exact⟨.ref _,_,I.lnew (t':=s.toks) (r.rep k.toNat) (by rw[tD,Nat.mul_comm];exact hz),rfl,q _ I.fresh⟩
theorem wH{α β:Type}{R:α->β->Prop}{l:List α}{m:List β}(p:Paired R l m):∀k:Nat,Paired R (List.replicate k l).flatten (List.replicate k m).flatten
 |0=>.nil
 |k+1=>by rw[List.replicate_succ,List.replicate_succ,List.flatten_cons,List.flatten_cons];exact kN p (wH p k)
def zAI:P2
 |.seq false xs,.leaf (.int k),Q=>(xs.length*k.toNat<=100000 /\ -(2 ^ 62)<=k/\k<2 ^ 62)/\Q (.seq false (List.replicate k.toNat xs).flatten)
 |T,U,Q=>vK T U Q
theorem iL:fL X (binaryOp .Mult) zAI:=by
 obtain⟨a,oa,ra⟩:=zE1 (X:=X)
 refine⟨_,oa.or zEb,λx y T U H Q QQ vx vy h k=>?_⟩
 unfold zAI at h
 split at h
 ·obtain⟨a,xs,rfl,⟨ob,hs⟩,z,p⟩:=vx.seqI
  obtain⟨rfl,_⟩:=vy.leafI
  obtain⟨⟨h1,h2,h3⟩,q⟩:=h
  have l1:xs.length=_:=Paired.length p
  refine .inr ⟨a,_,xs,rfl,rfl,.inr ⟨ob,hs⟩,by omega,by omega,fG (by rw[l1];exact h1),λb n=>k _ _ _ (Raw.lst n ?_ (wH p _)) q⟩
  rw[tD,Nat.mul_comm];exact h1
 ·exact .inl (ra x y T U H Q QQ vx vy h k)
end
end L2
namespace L2
open PySem PySem.Spec PyProof.Rows WordM
inductive Wd where
 |few (ts:List Str)
 |make (h:Str) (a b:Int) (ms:List Str)
inductive Pt where
 |nothing
 |truths (bs:List Bool)
 |numbers (lo hi st:Int)
 |texts (w:Wd)
 |lists (a b:Int) (f:List Pt)
 |record (a b:Int) (fs:List (Str×Bool×List Pt))
 |table (a b:Int) (w:Wd) (f:List Pt)
def cQ:Wd->Tv
 |.few ts=>.seq true [sT "few",.seq true (ts.map sT)]
 |.make h a b ms=>.seq true [sT "make",sT h,iT a,iT b,.seq true (ms.map sT)]
def aN:Pt->Tv
 |.nothing=>.seq true [sT "nothing"]
 |.truths bs=>.seq true [sT "truths",.seq true (bs.map bT)]
 |.numbers lo hi st=>.seq true [sT "numbers",iT lo,iT hi,iT st]
 |.texts w=>.seq true [sT "texts",cQ w]
 |.lists a b f=>.seq true [sT "lists",iT a,iT b,.seq true (f.map aN)]
 |.record a b fs=>.seq true [sT "record",iT a,iT b,.seq true (fs.map λx=>.seq true [sT x.1,bT x.2.1,.seq true (x.2.2.map aN)])]
 |.table a b w f=>.seq true [sT "table",iT a,iT b,cQ w,.seq true (f.map aN)]
termination_by p=>sizeOf p
decreasing_by
 all_goals simp_wf
 ·have:=List.sizeOf_lt_of_mem ‹_›;omega
 ·obtain⟨x1,x2,x3⟩:=x
  have h1:=List.sizeOf_lt_of_mem ‹_∈fs›
  have h2:=List.sizeOf_lt_of_mem ‹_∈x3›
  simp at h1
  omega
 ·have:=List.sizeOf_lt_of_mem ‹_›;omega
abbrev aX(f:List Pt):Tv:=.seq true (f.map aN)
abbrev fY(x:Str×Bool×List Pt):Tv:=.seq true [sT x.1,bT x.2.1,aX x.2.2]
theorem eG(a b:Int)(f:List Pt):aN (.lists a b f)=.seq true [sT "lists",iT a,iT b,aX f]:=by rw[aN]
theorem bJ(a b:Int)(fs:List (Str×Bool×List Pt)):aN (.record a b fs)=.seq true [sT "record",iT a,iT b,.seq true (fs.map fY)]:=by rw[aN]
theorem cW(a b:Int)(w:Wd)(f:List Pt):aN (.table a b w f)=.seq true [sT "table",iT a,iT b,cQ w,aX f]:=by rw[aN]
def bW:Pt->Str
 |.nothing=>"nothing"
 |.truths _=>"truths"
 |.numbers ..=>"numbers"
 |.texts _=>"texts"
 |.lists ..=>"lists"
 |.record ..=>"record"
 |.table ..=>"table"
def aZ:Pt->Nat
 |.nothing=>0
 |.truths _=>1
 |.numbers ..=>2
 |.texts _=>3
 |.lists ..=>4
 |.record ..=>5
 |.table ..=>5
theorem dE{a b:Int}{A B:Prop}(h1:a=b->A)(h2:a≠b->B):if (false != eqV (.int a) (.int b))=true then A else B:=sif (λz=>h1 (by simpa[eqV]using z)) λz=>h2 (by simpa[eqV]using z)
theorem fV{a b:Str}{A B:Prop}(h1:a=b->A)(h2:a≠b->B):if (false != eqV (.str a) (.str b))=true then A else B:=sif (λz=>h1 (by simpa[eqV]using z)) λz=>h2 (by simpa[eqV]using z)
def zA4(s:Str):Prop:=Sg s/\s.length<=50
def gM(l:List Str):Prop:=l.Pairwise λa b=>cs a<cs b
def WdOk:Wd->Prop
 |.few ts=>1<=ts.length/\ts.length<=6/\gM ts/\∀t∈ts,zA4 t
 |.make h a b ms=>zA4 h/\0<=a/\a<=b/\1<=b/\b<=100/\ms.Sublist MK/\ms≠[]
def zAu:Wd->Bool
 |.few _=>false
 |.make ..=>true
theorem zBB{a b:Str}(h:cs a<=cs b)(n:a≠b):cs a<cs b:=by
 refine Classical.byContradiction λz=>n (jN (List.le_antisymm h (List.not_lt.mp z)))
theorem zDO(l:List Str):∃ss:List Str,ss.Perm l/\sortedS ss=true:=by
 refine⟨l.mergeSort λa b=>decide (cs a<=cs b),List.mergeSort_perm _ _,PyProof.Rows.sortedS_of_pairwise _ ?_⟩
 refine(List.pairwise_mergeSort (λa b c h1 h2=>?_) (λa b=>?_) l).imp λ{a b} h=>?_
 ·exact decide_eq_true (List.le_trans (of_decide_eq_true h1) (of_decide_eq_true h2))
 ·rcases List.le_total (cs a) (cs b) with z|z<;>simp[z]
 ·rw[ltCps_eq]
  exact decide_eq_false (List.not_lt.mpr (of_decide_eq_true h))
theorem zDN(l:List Str):(bZ l).Pairwise λa b=>cs a<=cs b:=by
 obtain⟨ss,h1,h2⟩:=zDO l
 rw[<-kS h1 h2]
 exact mJ _ h2
theorem wT{l:List Str}(n:l.Nodup):gM (bZ l):=by
 have h2:(bZ l).Nodup:=(gU l).nodup_iff.mpr n
 exact List.Pairwise.imp₂ (λa b h n=>zBB h n) (zDN l) h2
end L2
namespace L2
open PySem PySem.Spec PyProof.Rows WordM
def stW(x y:Str):Bool:=decide (0+y.length<=x.length)&&Builtin.Str.subAt x y 0
def dP(x hd:Str):Str:=Txt.slice x (some (hd.length:Int)) none
def bP:Wd->Str->Bool
 |.few ss,x=>decide (x∈ss)
 |.make hd lo hi ms,x=>stW x hd&&((decide (lo<=((dP x hd).length:Int))&&decide (((dP x hd).length:Int)<=hi))&&(cs (dP x hd)).all λc=>decide (dA c∈ms))
def cU:Nat->Str
 |0=>"nothing"
 |1=>"truth"
 |2=>"number"
 |3=>"text"
 |4=>"list"
 |_=>"dict"
def cT(lo hi st i:Int):Bool:=decide (lo<=i)&&decide (i<=hi)&&decide ((i-lo) % max 1 st=0)
end L2
namespace L2
open PySem PySem.Spec PyProof.Rows WordM
def oN(K:W.Frag):Sp:=λvs H Q _=>∃(a:Addr) (ns:List Int),vs=[.ref a]/\SqL K H a (ns.map V.int)/\ns.length<=63/\∀H',Q (.bl true) H'
def kJ(n:Nat):aT:=.no::.dk::List.replicate (n-2) .no
theorem zFF{K:W.Frag}{H:Hp}{p c:Addr}{N:List Str}{x:V}(hN:2<=N.length)(d:DeckAt H p c):FrOk K ⟨H,some (p,c)⟩ (kJ N.length) ((dJ N [x]).set 1 (some (.ref p))) H:=by
 have nm:∀(i:Nat) (s:Sl),(kJ N.length)[i]?=some s->(s=.dk/\i=1)\/s=.no:=λi s e=>by
  unfold kJ at e
  match i,e with
  |0,e=>exact .inr (by simpa using e.symm)
  |1,e=>exact .inl ⟨by simpa using e.symm,rfl⟩
  |i+2,e=>
   have e:(List.replicate (N.length-2) Sl.no)[i]?=some s:=by simpa using e
   exact .inr (List.eq_of_mem_replicate (List.mem_of_getElem? e))
 refine⟨λp' c' e=>by cases e;exact d,⟨λ_ _ e _=>e,λp' c' e=>by cases e;exact d⟩,?_,λi s e=>?_,λi j a s t e _ m _ _ _=>?_⟩
 ·unfold kJ dJ
  simp
  omega
 ·rcases nm i s e with⟨rfl,rfl⟩|rfl
  ·refine⟨p,c,rfl,?_⟩
   unfold ixv dJ
   rw[List.getElem?_set_self (by simp;omega)]
   rfl
  ·trivial
 ·rcases nm i s e with⟨rfl,_⟩|rfl<;>cases m
theorem yD{K:W.Frag}{mg:Str->Option Value}{x:Str}{a:Addr}{ss:List Str}(m:mg x=some (.ref a))(T:∀H,SqT K H a (ss.map V.str))(l:ss.length<=100000:=by decide):fJ K mg x (.seq true (ss.map sT)):=by
 refine⟨.ref a,.ref a,m,rfl,λH=>VA.seq (T H) (by rw[List.length_map];exact l) ?_⟩
 have key:∀ss:List Str,VAs K H (ss.map V.str) (ss.map sT):=λss=>by
  induction ss with
  |nil=>exact .nil
  |cons s ss ih=>exact .cons (.flat rfl) ih
 exact key ss
theorem zDY{X:Cx}{st:List Stmt}{us:UTs}(h:∀F,USs X F st us):PSs X st (λD σ H=>∃F,jZ X.K F us D σ H):=λpins s σ H D I ⟨F,q⟩=>(h F).ps pins s σ H D I q
theorem zEi{X:Cx}{us:UTs}{D:jB}{p c:Addr}{H:Hp}{N:List Str}{x:V}(hN:2<=N.length)(d:DeckAt H p c)(q:∀H',D.rt (.bl true) H')(h:us {nx:=λ_=>False,rt:=λT=>T=bT true} (kJ N.length)):
  ∃F,jZ X.K F us D ((dJ N [x]).set 1 (some (.ref p))) H:=⟨⟨H,some (p,c)⟩,kJ N.length,_,zFF hN d,h,λ_ _ _ _ _ z=>z.elim,λx T H' _ v e=>by
 subst e
 obtain⟨rfl,_⟩:=v.leafI
 exact q H',λ_ _ _ _ _ z=>z.elim,λ_ _ _ _ _ z=>z.elim⟩
end L2
namespace L2
open PySem PySem.Spec PyProof.Rows WordM
abbrev LSp:=List Ar->(List Tv->Prop)->Prop
def tT(K:W.Frag)(lsp:LSp):Sp:=λvs H Q _=>∃dk as R,(∀p c,dk=some (p,c)->DeckAt H p c)/\Paired (mG K dk H) vs as/\lsp as R/\∀a xs Ts H',Kp dk H H'->H a=none->H' a=some (.lst xs)->Ts.length<=100000->VAs K H' xs Ts->R Ts->Q (.ref a) H'
def fU(P:Program)(w:World)(K:W.Frag)(mg:Str->Option Value)(base:Heap)(k:Nat)(x:Str)(ps:List Str)(lsp:LSp):Prop:=Good P w K mg base k x ps (tT K lsp)
def zZ(lsp:LSp)(ua:UTa):UTl:=λρ Q=>ua ρ λas ρ1=>lsp as λTs=>Q Ts ρ1
section
variable{X:Cx}{F:Fm}{e:Expr}{es:List Expr}{x:Str}{p pos:Pos}{ua:UTa}
theorem zBT{lsp:LSp}(σ:St)(H:Hp)(QQ:VK)(h:lQ X.K F (zZ lsp ua) σ H QQ):jW (tT X.K lsp) [] E0 (lR X.K F ua) σ H QQ:=by
 obtain⟨ρ,Q,fr,h,k⟩:=h
 refine⟨ρ,_,fr,h,λxs as H1 ρ1 s1 p1 q1=>?_⟩
 show tT X.K lsp (xs++[]) H1 QQ E0
 rw[List.append_nil]
 exact⟨F.dk,as,_,s1.fr.kp.dkk,p1,q1,λa ys Us H' kp n e z v q=>k _ _ _ _ _ (s1.trans (Stp.call s1.fr kp)) (s1.non n) e z v q⟩
theorem tW{k:Nat}{ps:List Str}{lsp:LSp}(G:fU X.prog X.w X.K X.mg X.base k x ps lsp)(hr:Room k X.A)(hg:Gl X x)(ha:UA X F (e::es) ua)(hdb:(x==("__debug__":Str))=false:=by decide)
  (hst:dO e=false:=by rfl) (hpl:(backTo pos (starEach es X.env)).any (·.1)=false:=by rfl):UL X F (.Call (.Name x p) (e::es) [] pos) (zZ lsp ua):=
 ⟨PE.imp (lJ G hr hg ha.pa hdb hst hpl) zBT⟩
abbrev UTr:=aT->(List Tv->Prop)->Prop
def zGm(K:W.Frag)(F:Fm)(u:UTr):TS:=λD σ H=>∃ρ R,FrOk K F ρ σ H/\u ρ R/\∀a xs Ts H',Kp F.dk F.H0 H'->F.H0 a=none->H' a=some (.lst xs)->Ts.length<=100000->VAs K H' xs Ts->R Ts->D.rt (.ref a) H'
structure URs (X:Cx) (F:Fm) (st:List Stmt) (u:UTr):Prop where
 ps:PSs X st (zGm X.K F u)
variable{st:Stmt}{rest:List Stmt}
def zG3(u:UTl):UTr:=λρ R=>u ρ λTs _=>R Ts
theorem zV{u:UTl}(h:UL X F e u):URs X F [.Return (some e) pos] (zG3 u):=⟨iM (PS.imp (iQ h.pe) λD σ H ⟨ρ,R,fr,h,k⟩=>⟨ρ,_,fr,h,λa xs Ts H' ρ' s n e z v q=>k a xs Ts H' s.fr.kp (fr.none0 n) e z v q⟩)⟩
def zG2(s:UTs)(t:UTr):UTr:=λρ R=>s {nx:=λρ'=>t ρ' R,rt:=λ_=>False} ρ
theorem sB{s:UTs}{t:UTr}(h:US X F st s)(hr:URs X F rest t):URs X F (st::rest) (zG2 s t):=⟨PSs.imp (fF h.ps hr.ps) λD σ H ⟨ρ,R,fr,h,k⟩=>
 ⟨ρ,_,fr,h,λσ' H' ρ' fr' hs q=>⟨ρ',R,fr',q,k⟩,λ_ _ _ _ _ z=>z.elim,λ_ _ _ _ _ z=>z.elim,λ_ _ _ _ _ z=>z.elim⟩⟩
end
theorem Has.lgood{P:Program}{w:World}{K:W.Frag}{mg:Str->Option Value}{base:Heap}{x:Str}{st:Stmt}{N ps:List Str}{k:Nat}{lsp:LSp}{us:UTr}(h:Has K mg x st)(S:bD N ps (aO st))
  (hb:∀(kV doc pm:Value) (an:Option Addr) (cdv ct:Value) (us:List Value),us.length=ps.length->bindArgs (W.fnOf x x (fQ st) (eB st) (aO st) .none kV doc pm an cdv ct) ⟨us,[]⟩=pure (ps.zip us))
  (hbody:∀(f:Addr) (cdv:Value) (A:Around) (outer:List Env) (s:Shared) (H:Hp) (E:XK) (F:Fm),Room k (A.deeper (envOfC x (aO st) s.heap.objs.size f cdv))->URs (gS CX0 P w K mg base N x (aO st) f cdv A outer s H E).nox F (eB st) us)
  (hp:∀as R,lsp as R->as.length=ps.length/\us (gZ N.length as) R):fU P w K mg base (k+1) x ps lsp:=by
 refine h.good S hb (λvs H Q E q=>?_) (λf cdv A outer s H vs Q E hr q=>?_)
 ·obtain⟨dk,as,R,d,p,q,_⟩:=q
  rw[Paired.length p]
  exact(hp as R q).1
 ·obtain⟨dk,as,R,d,p,q,k⟩:=q
  exact⟨_,(hbody f cdv A outer s H E ⟨H,dk⟩ hr).ps,gZ N.length as,R,yE d p,(hp as R q).2,λa xs Ts H' kp n e z v q=>k a xs Ts H' kp n e z v q⟩
end L2
namespace L2
open PySem PySem.Spec PyProof.Rows WordM
section
variable{X:Cx}{F:Fm}
variable{x:Str}{p apos cpos pos:Pos}{st:Stmt}
def zEJ(i:Nat):UT:=λρ Q=>∃Ts,ρ[i]?=some (.own Ts)/\Q nT (ρ.set i (.own []))
theorem zCY(i:Nat)(hN:X.N[i]?=some x:=by rfl)(hv:Vis X.env.scope x:=by first|exact Or.inl rfl|exact Or.inr (Or.inl rfl)|exact Or.inr (Or.inr rfl))(hd:(x==("__debug__":Str))=false:=by decide)(hcd:(x==("__classdict__":Str))=false:=by decide)
  (hbase:attributeBase (.Name x p) "clear" X.env (eval (.Name x p) X.env)=eval (.Name x p) X.env:=by rfl) (hline:(apos.endLine==cpos.line)=true:=by rfl):
  UE X F (.Call (.Attribute (.Name x p) "clear" apos) [] [] cpos) (zEJ i):=⟨PE.imp (zAp PySem.F.plainAttrs_list PySem.F.slot_list_clear PySem.F.type_list_clear zDh (gG hN hv hd hcd) hbase hline) λσ H QQ ⟨ρ,Q,f,⟨Ts,e0,q⟩,k⟩=>by
 obtain⟨a,xs,ea,eH,e3,z,pv⟩:=f.at_ i _ e0
 refine⟨_,fO ea,.inl ⟨rfl,_,SqL.of eH⟩,a,_,rfl,rfl,eH,?_⟩
 have s:=f.put (o':=.lst []) e0 rfl ea eH rfl (s':=.own []) λhs h0=>⟨a,[],rfl,bE,h0,by simp,.nil⟩
 exact k _ _ _ _ s (.flat rfl) q⟩
theorem zCW{sts:List Stmt}:URs X F sts (λ_ _=>False):=⟨PSs.imp zCl λD σ H ⟨_,_,_,h,_⟩=>h⟩
theorem zEC:US X F st (λ_ _=>False):=⟨λpins s σ H D I ⟨_,_,_,h,_⟩=>h.elim⟩
end
end L2
namespace L2
open PySem PySem.Spec PyProof.Rows
@[reducible] def zH0:PyProof.Rows.KeyKind where
 α:=Bool
 blt a b:=!a&&b
 irrefl a:=by cases a<;>rfl
 trans a b c h1 h2:=by cases a<;>cases b<;>cases c<;>simp_all
 negTrans a b c h:=by cases a<;>cases b<;>cases c<;>simp_all
 total a b h1 h2:=by cases a<;>cases b<;>simp_all
 keyOf v:=match v with|.bool b=>some b|_=>none
 dflt:=false
end L2
namespace L2
open PySem PySem.Spec PyProof.Rows
theorem zDB(us:List Str)(x:Str):us.length<=(dH us x).length:=by
 unfold dH
 split
 ·exact Nat.le_refl _
 ·rw[List.length_append];omega
theorem zCu(val:Nat->Str){i n:Nat}(h:i<=n):(dG val i).length<=(dG val n).length:=by
  induction n with
  | zero => have : i = 0 := by omega
            subst this;exact Nat.le_refl _
  |succ n ih=>
    by_cases e:i=n+1
    · subst e;exact Nat.le_refl _
    · have:=ih (by omega)
      rw[mV]
      have:=zDB (dG val n) (val n)
      omega
section
variable{prog:Program}{w:World}{A:Around}{R:Result->Shared->Prop}{I:Addr}{fp wr:List Addr}{G:Array GenState->Array GenState->Prop}{n:Nat}{P:Nat->Value->Prop}{St:Nat->Shared->Prop}
theorem zCx(W:WalksS prog w A.in1 I fp wr G n P St)(S:Addr)(hf:S∉fp)(val:Nat->Str)(hv:∀i v,P i v->∃t,v=.str (val i) t)(hb:(dG val n).length+1<scanBound):
  ∀(k i:Nat) (s:Shared),n-i=k->i<=n->St i s->SetS prog w S (dG val i) s.heap ->
   (∀s',Moved (S::wr) G s s'->SetS prog w S (dG val n) s'.heap->R (.ok (.ret .none)) s')->codeAny (model prog w) A (.builtin "set.update.loop" ⟨[.ref S,.ref I],[]⟩) R s:=by
 have nw:S∉wr:=λz=>hf (W.sub _ z)
 have sub:∀b∈wr,b∈S::wr:=λb z=>List.mem_cons_of_mem _ z
 intro k
 induction k with
 |zero=>
  intro i s hk hi st hS hR
  have e:i=n:=by omega
  subst e
  refine codeAny_builtin F.entry_set_update_loop ?_
  rw[Around.under_plainId F.plain_set_update_loop _]
  show wpAny _ A.in1 (pyNext (.ref I) >>= _) _ _ s
  refine wpAny_bind (W.done s _ _ st λs' hm=>?_)
  show wpAny _ A.in1 (ret Value.none) _ _ s'
  exact wpAny_pure (hR s' (hm.mono sub) (hS.kept λo q=>hm.heap S _ nw q))
 |succ k ih=>
  intro i s hk hi st hS hR
  have lt:i<n:=by omega
  refine codeAny_builtin F.entry_set_update_loop ?_
  rw[Around.under_plainId F.plain_set_update_loop _]
  show wpAny _ A.in1 (pyNext (.ref I) >>= _) _ _ s
  refine wpAny_bind (W.item i s _ _ lt st λv s' hP st' hm=>?_)
  obtain⟨t,rfl⟩:=hv i v hP
  have hS':SetS prog w S (dG val i) s'.heap:=hS.kept λo q=>hm.heap S _ nw q
  show wpAny _ A.in1 (holding [Value.str (val i) t] (setAdd S (.str (val i) t)) >>= _) _ _ s'
  refine wpAny_bind (wpAny_holding ?_)
  unfold setAdd
  refine wpAny_holding (wpAny_bind ((PySem.strKind prog w).pyHash (k:=val i) (by show Value.isStrOf _ (.str _ t)=true;simp[Value.isStrOf]) ?_))
  have room:(dG val i).length+1<scanBound:=by have:=zCu val (Nat.le_of_lt lt);omega
  refine yL (s:={s' with toks:=s'.toks+1}) hS' room λb h' sb S2=>?_
  rw[<-mV]at S2
  refine wpAny_pure ⟨plainId_quiet F.plain_set_update_loop _,ih (i+1) _ (by omega) lt (W.frame _ s' _ _ st' (Nat.le_succ _) λc hc o e=>?_) S2 λs'' hm'' S3=>?_⟩
  ·rw[sb.2 c (λz:c=S=>hf (by rw[<-z];exact hc))];exact e
  ·refine hR s'' (Moved.trans W.gtrans ((hm.mono sub).then_heap (Nat.le_succ _) λc o hc e=>?_) hm'') S3
   rw[sb.2 c (λz:c=S=>hc (by rw[z];exact List.mem_cons_self))];exact e
end
section
variable{prog:Program}{w:World}{A:Around}{E:Value->Shared->Prop}{s:Shared}
theorem zBv{l:Addr}{items:Array Value}{ss:List Str}{Q:Value->Shared->Prop}(hh:A.handled=none)(hl:s.heap.IsList l items)(hi:StrsAre items.toList ss)(hb:(bO ss).length+1<scanBound)
  (h:∀(h':Heap) (tk:Nat),SetS prog w s.heap.objs.size (bO ss) h'->(∀b o,b<s.heap.objs.size->s.heap.get? b=some o->h'.get? b=some o)->Q (.ref s.heap.objs.size) {s with heap:=h',toks:=tk}):
  wpAny (model prog w) A (call (.type "set") [.ref l]) Q E s:=by
 have hz:items.size=ss.length:=by have:=gV hi;simpa using this
 obtain⟨c,tl,hmro⟩:=F.called_set.mro
 have hmade:=F.called_set.made
 have hsub:=F.called_set.sub
 refine wpAny_call (codeAny_of_tree ?_)
 show wpAny _ _ (callAny (.type "set") _) _ _ _
 refine wpAny_pure ⟨Code.quiet_builtin _ (by decide +kernel),codeAny_builtin F.entry_type_call ?_⟩
 rw[Around.under_plain (weight_type_call_type "set" [.ref l] []) rfl]
 have h1:=F.called_set.notType
 have h2:=F.called_set.canCreate
 have hct:=F.typeCall_set_1 (.ref l)
 repeat (any_goals (first|assumption|wp_step))
 refine codeAny_mono (wE (.ref l) (E:=E) (Q₁:=λobj s₁=>obj=.ref s.heap.objs.size/\s₁={s with heap:=s.heap.push (bY #[] 0 (.fresh 0 0 (!byT w)))}) ⟨rfl,rfl⟩) λr s₁ hr=>?_
 cases r with
 |error e=>exact hr
 |ok fl=>
  cases fl with
  |ret obj=>
   obtain⟨rfl,rfl⟩:=hr
   have hS:(s.heap.push (bY #[] 0 (.fresh 0 0 (!byT w)))).get? s.heap.objs.size=some (bY #[] 0 (.fresh 0 0 (!byT w))):=Heap.get?_push_size _ rfl
   have hT:Shared.TypeIs {s with heap:=s.heap.push (bY #[] 0 (.fresh 0 0 (!byT w)))} (.ref s.heap.objs.size) "set":=⟨_,hS,rfl⟩
   have hli:=F.called_set.init.lookup
   have hbi:=F.called_set.init.bind (.ref s.heap.objs.size)
   repeat (any_goals (first|assumption|wp_step))
   refine codeAny_mono (codeAny_call_builtin (R:=wants (λr s₂=>r=.none/\∃h' tk,s₂={s with heap:=h',toks:=tk}/\SetS prog w s.heap.objs.size (bO ss) h' /\
     (∀b o,b<s.heap.objs.size->s.heap.get? b=some o->h'.get? b=some o)) E) F.called_set.init.plain F.entry_set_init (check_set_init_1 hT ?_)) λr₂ s₂ hr₂=>?_
   ·obtain⟨ol,hol,hcl,nl,hdl⟩:=hl
    obtain⟨ocls,odict,odata,oslots⟩:=ol
    simp only at hcl hdl
    subst hcl hdl
    have hol':(s.heap.push (bY #[] 0 (.fresh 0 0 (!byT w)))).get? l=some {cls:=.type "list",dict:=odict,data:=.seq items nl,slots:=oslots}:=Heap.get?_push_of_some _ hol
    have hsls:=F.sub_list_set
    have hslf:=F.sub_list_frozenset
    have hne:(Value.type "list"==Value.type "dict")=false:=by decide
    have hl1:(s.heap.push (bY #[] 0 (.fresh 0 0 (!byT w)))).IsList l items:=⟨_,hol',rfl,nl,rfl⟩
    unfold Builtin.«set.__init__» noKeywords Builtin.Frozenset.updateFrom
    generalize hPI:pyIter=PI
    wp_walk
    subst hPI
    refine wpAny_pyIter_list hl1 ?_
    refine wpAny_bind (wpAny_runValue ?_)
    have hlS:l<s.heap.objs.size:=Heap.lt_size hol
    have hh3:A.in1.in1.in1.handled=none:=by simp[hh]
    have neI:l≠(s.heap.push (bY #[] 0 (.fresh 0 0 (!byT w)))).objs.size:=by
     rw[Heap.size_push]
     exact Nat.ne_of_lt (Nat.lt_succ_of_lt hlS)
    have nf:s.heap.objs.size∉[(s.heap.push (bY #[] 0 (.fresh 0 0 (!byT w)))).objs.size,l]:=by
     rw[Heap.size_push]
     simp only[List.mem_cons,List.not_mem_nil,or_false,not_or]
     exact⟨Nat.ne_of_lt (Nat.lt_succ_self _),Nat.ne_of_gt hlS⟩
    refine zCx ((Walks.list hh3 _ l neI items).toS) s.heap.objs.size nf (λi=>ss.getD i ⟨#[]⟩) (λi v hv=>iK hi i v (by rw[Array.getElem?_toList];exact hv)) (by rw[hz,rW (ss:=ss) (λi hi=>by simp[hi])];exact hb) (items.size-0) 0 _ (by omega) (Nat.zero_le _)
     ⟨⟨_,Heap.get?_push_size _ rfl,rfl,rfl⟩,hl1.push _⟩ ?_ λs' hm S'=>?_
    ·refine⟨#[],0,.fresh 0 0 (!byT w),Heap.get?_push_of_some _ hS,⟨λe he=>by simp at he,⟨[],.nil,.refl _⟩,List.nodup_nil,by decide,?_,.inl rfl,rfl⟩⟩
     simp[SetTable.fits,SetTable.fresh,SetTable.fill]
    ·obtain⟨h',g',d',tk',os'⟩:=s'
     have eg:g'=s.gens:=hm.gens
     have ed:d'=s.drawn:=hm.drawn
     have eo:os'=s.os:=hm.os
     subst eg ed eo
     rw[hz,rW (ss:=ss) (λi hi=>by simp[hi])]at S'
     show wpAny _ _ _ _ _ _
     refine wpAny_pure ?_
     show wpAny _ _ (ret Value.none) _ _ _
     refine wpAny_pure ⟨rfl,h',tk',rfl,S',λb o hb e=>?_⟩
     have hb2:b≠(s.heap.push (bY #[] 0 (.fresh 0 0 (!byT w)))).objs.size:=by
      rw[Heap.size_push]
      exact Nat.ne_of_lt (Nat.lt_succ_of_lt hb)
     exact hm.heap b o (by simp only[List.mem_cons,List.not_mem_nil,or_false,not_or];exact⟨Nat.ne_of_lt hb,hb2⟩) (Heap.get?_push_of_some _ (Heap.get?_push_of_some _ e))
   ·cases r₂ with
    |error e=>exact hr₂
    |ok fl₂=>
     cases fl₂ with
     |ret r=>
      obtain⟨rfl,h',tk,rfl,S',hk'⟩:=hr₂
      repeat (any_goals (first|assumption|wp_step))
      exact h _ _ S' hk'
     |_=>exact hr₂.elim
  |_=>exact hr.elim
end
section
variable{X:Cx}{F:Fm}
def zEW(P:Program)(w:World)(K:W.Frag):List V->Hp->VK->Prop:=λxs H Q=>∃(p:Addr) (ss:List Str),xs=[.ref p]/\SqL K H p (ss.map V.str)/\(bO ss).length<4000/\∀a:Addr,H a=none->Q (.ref a) (upd H a (iY P w a (bO ss)))
theorem zBW(hc:X.calm=true):CallR X (.type "set") (zEW X.prog X.w X.K):=by
 intro pins s σ H xs us Q I r h
 obtain⟨p,ss,rfl,hq,hz,q⟩:=h
 obtain⟨u,rfl,rx⟩:=cY r
 cases rx
 obtain⟨its,rv,pl,hz'⟩:=I.list hq
 have hi:StrsAre its.toArray.toList ss:=jE rv
 refine zBv (I.ok.hd hc) pl.isList hi (by show(bO ss).length+1<4096;omega) λh' tk S k=>?_
 refine⟨.ref s.heap.objs.size,_,I.laid (t':=tk) (o:=iY X.prog X.w s.heap.objs.size (bO ss)) (λb o e=>k b o (Heap.lt_size e) e) (Nat.le_refl _) ⟨S,?_,λh1 h2 z k'=>z.kept k'⟩,rfl,q _ I.fresh⟩
 obtain⟨es,ep,t,e,_⟩:=S
 exact⟨_,e⟩
variable{pos:Pos}
def zB5(u:UT):UTl:=λρ Q=>u ρ λT ρ1=>∃ss:List Str,T=.seq false (ss.map sT)/\(bO ss).length<64/\Q ((bZ (bO ss)).map sT) ρ1
theorem zBy{e:Expr}{u:UT}{p p' pos':Pos}(hc:X.calm=true)(hg:Gl X "sorted")(hm:X.mg "sorted"=none)(hg':Gl X "set")(hm':X.mg "set"=none)(he:UE X F e u)(hst:dO e=false:=by rfl)
  (hpl:(backTo pos (starEach [] X.env)).any (·.1)=false:=by rfl) (hpl':(backTo pos' (starEach [] X.env)).any (·.1)=false:=by rfl):
  UL X F (.Call (.Name "sorted" p) [.Call (.Name "set" p') [e] [] pos'] [] pos) (zB5 u):=⟨PE.imp (iH (vV hc) hg hm boot_sorted (dF (kQ (zBW hc) hg' hm' L2.boot_set (dF he.pe eE hst) (by decide) (by decide) (kP hst) hpl') eE rfl) (by decide) (by decide) rfl hpl) λσ H QQ ⟨ρ,Q,f,h,k⟩=>by
 refine⟨ρ,_,f,h,λx T H1 ρ1 s1 v1 q1=>?_⟩
 obtain⟨ss,rfl,l2,q⟩:=q1
 obtain⟨a,ys,rfl,hs,z,p⟩:=v1.seqI
 rw[iF p]at hs
 refine⟨a,ss,rfl,cF hs,by omega,λb nb=>⟨b,bO ss,rfl,bE,l2,λms c h1 h2 nc=>?_⟩⟩
 have sm:=(dI (o:=iY X.prog X.w b (bO ss)) nb).trans (dI (o:=.lst (ms.map V.str)) nc)
 refine k _ _ _ _ _ (s1.trans (Stp.same s1.fr sm)) (s1.non ((dI nb).free nc)) bE (by rw[List.length_map,h1.length_eq];omega) (kU ms) ?_
 rw[kS h1 h2]
 exact q⟩
end
end L2
namespace L2
open PySem PySem.Spec PyProof.Rows WordM
theorem zDM{x y:Str}:stW x y=true↔∃r,cs x=cs y++r:=by
 unfold stW
 rw[StrLaws.subAt_eq,Bool.and_eq_true,decide_eq_true_iff,List.drop_zero,beq_iff_eq,WordM.len,WordM.len]
 constructor
 ·rintro⟨h1,h2⟩
  have h2:(cs x).take (cs y).length=cs y:=h2
  exact⟨(cs x).drop (cs y).length,(List.take_append_drop (cs y).length (cs x)).symm.trans (by rw[h2])⟩
 ·rintro⟨r,e⟩
  show _/\(cs x).take _=_
  rw[e]
  exact⟨by rw[List.length_append];omega,by rw[List.take_left'];rfl⟩
theorem rK{x y:Str}{r:List Nat}(e:cs x=cs y++r):cs (dP x y)=r:=by
 have hl:x.length=(cs y).length+r.length:=by rw[WordM.len,e,List.length_append]
 unfold dP
 rw[PyProof.Rows.slice_from_eq (b:=(x.length:Int)) (by omega) (by rw[hl,WordM.len];omega) rfl]
 show((cs x).drop _).take _=r
 rw[hl,WordM.len y,e,show(((cs y).length:Nat):Int).toNat=(cs y).length by omega,List.drop_left,List.take_of_length_le]
 omega
theorem zGl{a b:Str}(h:cs a<cs b):a≠b:=λe=>by rw[e]at h;exact List.lt_irrefl _ h
theorem rJ:∀{ys xs:List Str},gM xs->gM ys->(∀x∈xs,x∈ys)->xs.Sublist ys
 |[],xs,_,_,h=>by
  cases xs with
  |nil=>exact .slnil
  |cons x xs=>exact absurd (h x (.head _)) (by simp)
 |y::ys,[],_,_,_=>List.nil_sublist _
 |y::ys,x::xs,hx,hy,h=>by
  have hx':=List.pairwise_cons.mp hx
  have hy':=List.pairwise_cons.mp hy
  by_cases e:x=y
  ·subst e
   refine List.Sublist.cons_cons x (rJ hx'.2 hy'.2 λz hz=>?_)
   rcases List.mem_cons.mp (h z (.tail _ hz)) with q|q
   ·exact absurd q.symm (zGl (hx'.1 z hz))
   ·exact q
  ·have hxy:x∈ys:=(List.mem_cons.mp (h x (.head _))).resolve_left e
   have yx:cs y<cs x:=hy'.1 x hxy
   refine List.Sublist.cons y (rJ hx hy'.2 λz hz=>?_)
   rcases List.mem_cons.mp (h z hz) with q|q
   ·subst q
    rcases List.mem_cons.mp hz with q|q
    ·exact absurd q.symm e
    ·exact absurd (List.lt_trans yx (hx'.1 z q)) (List.lt_irrefl _)
   ·exact q
theorem zEh:gM MK:=by unfold gM;decide +kernel
theorem sort_set_mem{ss:List Str}{x:Str}:x∈bZ (bO ss)↔x∈ss:=(gU _).mem_iff.trans (rH ss x)
theorem zBi(ss:List Str):gM (bZ (bO ss)):=wT (sJ ss)
end L2
namespace L2
open PySem PySem.Spec PyProof.Rows
section
variable{prog:Program}{w:World}{A:Around}{E:Value->Shared->Prop}{s:Shared}
theorem zBu{l:Addr}{items:Array Value}{ss:List Str}{Q:Value->Shared->Prop}(hh:A.handled=none)(hl:s.heap.IsTuple l items)(hi:StrsAre items.toList ss)(hb:ss.length+1<scanBound)
  (h:∀(h':Heap) (tk:Nat),SetS prog w s.heap.objs.size (bO ss) h'->(∀b o,b<s.heap.objs.size->s.heap.get? b=some o->h'.get? b=some o)->Q (.ref s.heap.objs.size) {s with heap:=h',toks:=tk}):
  wpAny (model prog w) A (call (.type "set") [.ref l]) Q E s:=by
 have hz:items.size=ss.length:=by have:=gV hi;simpa using this
 obtain⟨c,tl,hmro⟩:=F.called_set.mro
 have hmade:=F.called_set.made
 have hsub:=F.called_set.sub
 refine wpAny_call (codeAny_of_tree ?_)
 show wpAny _ _ (callAny (.type "set") _) _ _ _
 refine wpAny_pure ⟨Code.quiet_builtin _ (by decide +kernel),codeAny_builtin F.entry_type_call ?_⟩
 rw[Around.under_plain (weight_type_call_type "set" [.ref l] []) rfl]
 have h1:=F.called_set.notType
 have h2:=F.called_set.canCreate
 have hct:=F.typeCall_set_1 (.ref l)
 repeat (any_goals (first|assumption|wp_step))
 refine codeAny_mono (wE (.ref l) (E:=E) (Q₁:=λobj s₁=>obj=.ref s.heap.objs.size/\s₁={s with heap:=s.heap.push (bY #[] 0 (.fresh 0 0 (!byT w)))}) ⟨rfl,rfl⟩) λr s₁ hr=>?_
 cases r with
 |error e=>exact hr
 |ok fl=>
  cases fl with
  |ret obj=>
   obtain⟨rfl,rfl⟩:=hr
   have hS:(s.heap.push (bY #[] 0 (.fresh 0 0 (!byT w)))).get? s.heap.objs.size=some (bY #[] 0 (.fresh 0 0 (!byT w))):=Heap.get?_push_size _ rfl
   have hT:Shared.TypeIs {s with heap:=s.heap.push (bY #[] 0 (.fresh 0 0 (!byT w)))} (.ref s.heap.objs.size) "set":=⟨_,hS,rfl⟩
   have hli:=F.called_set.init.lookup
   have hbi:=F.called_set.init.bind (.ref s.heap.objs.size)
   repeat (any_goals (first|assumption|wp_step))
   refine codeAny_mono (codeAny_call_builtin (R:=wants (λr s₂=>r=.none/\∃h' tk,s₂={s with heap:=h',toks:=tk}/\SetS prog w s.heap.objs.size (bO ss) h' /\
     (∀b o,b<s.heap.objs.size->s.heap.get? b=some o->h'.get? b=some o)) E) F.called_set.init.plain F.entry_set_init (check_set_init_1 hT ?_)) λr₂ s₂ hr₂=>?_
   ·obtain⟨ol,hol,hcl,nl,hdl⟩:=hl
    obtain⟨ocls,odict,odata,oslots⟩:=ol
    simp only at hcl hdl
    subst hcl hdl
    have hol':(s.heap.push (bY #[] 0 (.fresh 0 0 (!byT w)))).get? l=some {cls:=.type "tuple",dict:=odict,data:=.seq items nl,slots:=oslots}:=Heap.get?_push_of_some _ hol
    have hsls:=F.sub_tuple_set
    have hslf:=F.sub_tuple_frozenset
    have hne:(Value.type "tuple"==Value.type "dict")=false:=by decide
    have hl1:(s.heap.push (bY #[] 0 (.fresh 0 0 (!byT w)))).IsTuple l items:=⟨_,hol',rfl,nl,rfl⟩
    unfold Builtin.«set.__init__» noKeywords Builtin.Frozenset.updateFrom
    generalize hPI:pyIter=PI
    wp_walk
    subst hPI
    refine wpAny_pyIter_tuple hl1 ?_
    refine wpAny_bind (wpAny_runValue ?_)
    have hlS:l<s.heap.objs.size:=Heap.lt_size hol
    have hh3:A.in1.in1.in1.handled=none:=by simp[hh]
    have neI:l≠(s.heap.push (bY #[] 0 (.fresh 0 0 (!byT w)))).objs.size:=by
     rw[Heap.size_push]
     exact Nat.ne_of_lt (Nat.lt_succ_of_lt hlS)
    have nf:s.heap.objs.size∉[(s.heap.push (bY #[] 0 (.fresh 0 0 (!byT w)))).objs.size,l]:=by
     rw[Heap.size_push]
     simp only[List.mem_cons,List.not_mem_nil,or_false,not_or]
     exact⟨Nat.ne_of_lt (Nat.lt_succ_self _),Nat.ne_of_gt hlS⟩
    refine zDk ((Walks.tuple hh3 _ l neI items).toS) s.heap.objs.size nf (λi=>ss.getD i ⟨#[]⟩) (λi v hv=>iK hi i v (by rw[Array.getElem?_toList];exact hv)) (by rw[hz];exact hb) (items.size-0) 0 _ (by omega) (Nat.zero_le _)
     ⟨⟨_,Heap.get?_push_size _ rfl,rfl,rfl⟩,hl1.push _⟩ ?_ λs' hm S'=>?_
    ·refine⟨#[],0,.fresh 0 0 (!byT w),Heap.get?_push_of_some _ hS,⟨λe he=>by simp at he,⟨[],.nil,.refl _⟩,List.nodup_nil,by decide,?_,.inl rfl,rfl⟩⟩
     simp[SetTable.fits,SetTable.fresh,SetTable.fill]
    ·obtain⟨h',g',d',tk',os'⟩:=s'
     have eg:g'=s.gens:=hm.gens
     have ed:d'=s.drawn:=hm.drawn
     have eo:os'=s.os:=hm.os
     subst eg ed eo
     rw[hz,rW (ss:=ss) (λi hi=>by simp[hi])]at S'
     show wpAny _ _ _ _ _ _
     refine wpAny_pure ?_
     show wpAny _ _ (ret Value.none) _ _ _
     refine wpAny_pure ⟨rfl,h',tk',rfl,S',λb o hb e=>?_⟩
     have hb2:b≠(s.heap.push (bY #[] 0 (.fresh 0 0 (!byT w)))).objs.size:=by
      rw[Heap.size_push]
      exact Nat.ne_of_lt (Nat.lt_succ_of_lt hb)
     exact hm.heap b o (by simp only[List.mem_cons,List.not_mem_nil,or_false,not_or];exact⟨Nat.ne_of_lt hb,hb2⟩) (Heap.get?_push_of_some _ (Heap.get?_push_of_some _ e))
   ·cases r₂ with
    |error e=>exact hr₂
    |ok fl₂=>
     cases fl₂ with
     |ret r=>
      obtain⟨rfl,h',tk,rfl,S',hk'⟩:=hr₂
      repeat (any_goals (first|assumption|wp_step))
      exact h _ _ S' hk'
     |_=>exact hr₂.elim
  |_=>exact hr.elim
end
end L2
namespace L2
open PySem PySem.Spec PyProof.Rows PySem.SeqAt
section
variable{X:Cx}{F:Fm}
def zF1(P:Program)(w:World)(K:W.Frag):List V->Hp->VK->Prop:=λxs H Q=>∃(p:Addr) (ss:List Str),xs=[.ref p]/\SqT K H p (ss.map V.str)/\ss.length<4000/\∀a:Addr,H a=none->Q (.ref a) (upd H a (iY P w a (bO ss)))
theorem zCM(hc:X.calm=true):CallR X (.type "set") (zF1 X.prog X.w X.K):=by
 intro pins s σ H xs us Q I r h
 obtain⟨p,ss,rfl,hq,hz,q⟩:=h
 obtain⟨u,rfl,rx⟩:=cY r
 cases rx
 obtain⟨its,rv,pl,hz'⟩:=I.tuple hq
 have hi:StrsAre its.toArray.toList ss:=jE rv
 refine zBu (I.ok.hd hc) pl hi (by show ss.length+1<4096;omega) λh' tk S k=>?_
 refine⟨.ref s.heap.objs.size,_,I.laid (t':=tk) (o:=iY X.prog X.w s.heap.objs.size (bO ss)) (λb o e=>k b o (Heap.lt_size e) e) (Nat.le_refl _) ⟨S,?_,λh1 h2 z k'=>z.kept k'⟩,rfl,q _ I.fresh⟩
 obtain⟨es,ep,t,e,_⟩:=S
 exact⟨_,e⟩
def zB4(u:UT):UTl:=λρ Q=>u ρ λT ρ1=>∃ss:List Str,T=.seq true (ss.map sT)/\ss.length<4000/\(bO ss).length<64/\Q ((bZ (bO ss)).map sT) ρ1
theorem zBx{e:Expr}{u:UT}{p p' pos pos':Pos}(hc:X.calm=true)(hg:Gl X "sorted")(hm:X.mg "sorted"=none)(hg':Gl X "set")(hm':X.mg "set"=none)(he:UE X F e u)(hst:dO e=false:=by rfl)
  (hpl:(backTo pos (starEach [] X.env)).any (·.1)=false:=by rfl) (hpl':(backTo pos' (starEach [] X.env)).any (·.1)=false:=by rfl):
  UL X F (.Call (.Name "sorted" p) [.Call (.Name "set" p') [e] [] pos'] [] pos) (zB4 u):=⟨PE.imp (iH (vV hc) hg hm boot_sorted (dF (kQ (zCM hc) hg' hm' L2.boot_set (dF he.pe eE hst) (by decide) (by decide) (kP hst) hpl') eE rfl) (by decide) (by decide) rfl hpl) λσ H QQ ⟨ρ,Q,f,h,k⟩=>by
 refine⟨ρ,_,f,h,λx T H1 ρ1 s1 v1 q1=>?_⟩
 obtain⟨ss,rfl,l1,l2,q⟩:=q1
 obtain⟨a,ys,rfl,hs,z,p⟩:=v1.seqI
 rw[iF p]at hs
 refine⟨a,ss,rfl,hs,l1,λb nb=>⟨b,bO ss,rfl,bE,l2,λms c h1 h2 nc=>?_⟩⟩
 have sm:=(dI (o:=iY X.prog X.w b (bO ss)) nb).trans (dI (o:=.lst (ms.map V.str)) nc)
 refine k _ _ _ _ _ (s1.trans (Stp.same s1.fr sm)) (s1.non ((dI nb).free nc)) bE (by rw[List.length_map,h1.length_eq];omega) (kU ms) ?_
 rw[kS h1 h2]
 exact q⟩
end
end L2
namespace L2
open PySem PySem.Spec PyProof.Rows WordM
section
variable{X:Cx}{F:Fm}{pos p:Pos}{e a b elt iter:Expr}{es ifs:List Expr}{x:Str}{u ua ub ue:UT}{ut:UTa}{ui:UTl}{tf:UTt}{sc scope:Scope}{XN N:List Str}{fr:List Nat}
theorem aR{k m:Nat}{ps:List Str}{psp:PSp}(G:aG X.prog X.w X.K X.mg X.base k x ps psp)(hr:Room m X.A)(ha:UA X F (e::es) ut)(hm:k<=m:=by omega)(hg:Gl X x:=by exact rfl)(hdb:(x==("__debug__":Str))=false:=by decide)
  (hst:dO e=false:=by rfl) (hpl:(backTo pos (starEach es X.env)).any (·.1)=false:=by rfl):UE X F (.Call (.Name x p) (e::es) [] pos) (lH psp ut):=zFO G (hr.mono hm) hg ha hdb hst hpl
theorem aV(i:Nat){pos':Pos}(hN:X.N.Nodup)(he:UE X F e u)(hi:X.N[i]?=some x:=by rfl)(hx:Loc X.env.scope x:=by first|exact Or.inl rfl|exact Or.inr rfl)(hs:swapsWith e (some (.Name x pos')) pos.line X.env=pure false:=by rfl)(hf:X.fn x=true\/X.env.scope.names.lookup x=some .local:=by first|exact .inl rfl|exact .inr rfl|assumption):
  US X F (.Assign [.Name x pos'] e pos) (lX i u):=zEA hN hi hx he hs hf
theorem gK(i:Nat){ul:UTl}{pos':Pos}(hN:X.N.Nodup)(he:UL X F e ul)(hi:X.N[i]?=some x:=by rfl)(hx:Loc X.env.scope x:=by first|exact Or.inl rfl|exact Or.inr rfl)(hs:swapsWith e (some (.Name x pos')) pos.line X.env=pure false:=by rfl)(hf:X.fn x=true\/X.env.scope.names.lookup x=some .local:=by first|exact .inl rfl|exact .inr rfl|assumption):
  US X F (.Assign [.Name x pos'] e pos) (oX i ul):=zEB hN hi hx he hs hf
theorem cP{op:CmpOp}{r:P2}(ho:PuCmp X (compareOp op) r)(ha:UE X F a ua)(hb:UE X F b ub)(hm:behindInMarks op b=false:=by exact jT _):UB X F (.Compare a [op] [b] pos) (uB (uOp r ua ub)):=tN ho ha hb hm
theorem eX{op:CmpOp}{r:P2}(ho:fL X (compareOp op) r)(ha:UE X F a ua)(hb:UE X F b ub)(hm:behindInMarks op b=false:=by exact jT _):UE X F (.Compare a [op] [b] pos) (uOp r ua ub):=zEF ho ha hb hm
structure Cq (X:Cx) (sc scope:Scope) (XN N:List Str) (fr:List Nat) (x:Str) (iter:Expr):Prop where
 hc:X.calm=true:=by rfl
 k1:scope.kind=.function:=by rfl
 k2:∀y∈scope.names,y.2≠.cell:=by decide +kernel
 k3:∀y∈scope.names,y.2=.free->sc.names.lookup y.1=some .cell\/sc.names.lookup y.1=some .free:=by decide +kernel
 k4:∀y∈scope.names,y.2=.local->scope.names.lookup y.1=some .local:=by decide +kernel
 k5:N.drop 1=fr.filterMap λi=>XN[i]?:=by rfl
 k6:∀i∈fr,i<XN.length:=by decide +kernel
 k7:1<=N.length:=by decide
 k8:∀x∈N.drop 1,scope.names.lookup x=some .free:=by decide +kernel
 nd:fr.Nodup:=by decide
 nN:N.Nodup:=by decide +kernel
 h0:N[0]?=some x:=by rfl
 hl:∀cl C fp s H,Loc (bS X N scope cl C fp s H).env.scope x:=by intros;first|exact Or.inl rfl|exact Or.inr rfl
 hfn:∀cl C fp s H,(bS X N scope cl C fp s H).fn x=true\/(bS X N scope cl C fp s H).env.scope.names.lookup x=some .local:=by intros;first|exact .inl rfl|exact .inr rfl
 hs:∀x,foldedSetIterable iter X.env x=pure x:=by intro _;rfl
 hsc:X.env.scope=sc:=by rfl
 hxn:X.N=XN:=by rfl
section
variable{z:Str}{pos' spos:Pos}(i:Nat)(hN:X.N.Nodup)(hi:UI X F (.Name x p) iter ui)(hf:∀cl C fp s H,UF (bS X N scope cl C fp s H) F ifs tf)(he:∀cl C fp s H,UE (bS X N scope cl C fp s H) F elt ue)
include hi hf he
theorem gI(c:Cq X sc scope XN N fr x iter:=by exact {}):UL X F (.ListComp elt [⟨.Name x p,iter,ifs,0⟩] scope pos) (hJ 1 fr ui (gN 0) tf ue):=
 yN c.hc ⟨c.k1,c.k2,c.k3,c.k4,c.k5,c.k6,c.k7,c.k8⟩ c.nd hi (λcl C fp s H=>cN 0 (by decide) c.nN c.h0 (c.hl cl C fp s H) (c.hfn cl C fp s H)) hf he c.hs c.hsc c.hxn
include hN
theorem iU(c:Cq X sc scope XN N fr x iter:=by exact {})(hz:X.N[i]?=some z:=by rfl)(hzl:Loc X.env.scope z:=by first|exact Or.inl rfl|exact Or.inr rfl)
  (hsw:swapsWith (.ListComp elt [⟨.Name x p,iter,ifs,0⟩] scope pos) (some (.Name z pos')) spos.line X.env=pure true:=by rfl)
  (hf':X.fn z=true\/X.env.scope.names.lookup z=some .local:=by first|exact .inl rfl|exact .inr rfl|assumption):US X F (.Assign [.Name z pos'] (.ListComp elt [⟨.Name x p,iter,ifs,0⟩] scope pos) spos) (lX i (uL (hJ 1 fr ui (gN 0) tf ue))):=
 zDD c.hc hN hz hzl ⟨c.k1,c.k2,c.k3,c.k4,c.k5,c.k6,c.k7,c.k8⟩ c.nd hi (λcl C fp s H=>cN 0 (by decide) c.nN c.h0 (c.hl cl C fp s H) (c.hfn cl C fp s H)) hf he hsw hf' c.hs c.hsc c.hxn
end
theorem eM(hi:UI X F (.Name x p) iter ui)(he:∀cl C fp s H,UE (bS X N scope cl C fp s H) F elt ue)(c:Cq X sc scope XN N fr x iter:=by exact {}):UL X F (.ListComp elt [⟨.Name x p,iter,[],0⟩] scope pos) (hJ 1 fr ui (gN 0) lV ue):=gI hi (λ_ _ _ _ _=>gF) he c
theorem aH{m:Nat}(hr:Room m X.A)(ha:UE X F a ua)(hb:UE X F b ub)(hs:kY b:=by intro _ _;rfl):UE X F (.Subscript a b pos) (uOp pIx ua ub):=zFN (zGd hr.units) ha hb hs
theorem bL{m:Nat}(hr:Room m X.A)(ha:UE X F a ua)(hb:UE X F b ub):UB X F (.Compare a [.Eq] [b] pos) (uB (uOp pEq ua ub)):=tN (lI hr.units) ha hb (jT _)
theorem zAP{m:Nat}(hr:Room m X.A)(ha:UE X F a ua)(hb:UE X F b ub):UB X F (.Compare a [.NotEq] [b] pos) (uB (uOp pNe ua ub)):=tN (zGc hr.units) ha hb (jT _)
end
end L2
namespace ShowM
variable{M:Type}[DecidableEq M]
def MkL(mk:Nat->M)(hd:List Nat)(lo hi:Int)(ms:List M)(x:List Nat):Prop:=∃r,x=hd++r/\lo<=(r.length:Int)/\(r.length:Int)<=hi/\∀c∈r,mk c∈ms
structure Tells (mk:Nat->M) (hd:List Nat) (lo hi:Int) (ms:List M) (S:List (List Nat)):Prop where
 some:∃(n:Nat) (G:List Nat),1<=n/\7<=G.length/\G.Nodup/\(∀m∈ms,∃c∈G,mk c=m)/\∀g∈G,hd++List.replicate n g∈S
 low:∃r:List Nat,(r.length:Int)<=lo/\hd++r∈S
 high:∃r:List Nat,hi<=(r.length:Int)/\hd++r∈S
theorem nodup_le{α:Type}[DecidableEq α]:∀{l m:List α},l.Nodup->(∀x∈l,x∈m)->l.length<=m.length
 |[],m,_,_=>Nat.zero_le _
 |x::l,m,hn,hs=>by
  have hx:=hs x List.mem_cons_self
  have h2:=List.nodup_cons.mp hn
  have ih:=nodup_le (l:=l) (m:=m.erase x) h2.2 λy hy=>(List.mem_erase_of_ne (show y≠x from λe=>h2.1 (by rw[<-e];exact hy))).mpr (hs y (List.mem_cons_of_mem _ hy))
  rw[List.length_erase_of_mem hx]at ih
  have:0<m.length:=List.length_pos_of_mem hx
  rw[List.length_cons]
  omega
theorem Tells.few{mk:Nat->M}{hd:List Nat}{lo hi:Int}{ms:List M}{S:List (List Nat)}(T:Tells mk hd lo hi ms S){ss:List (List Nat)}(h6:ss.length<=6)(h:∀x∈S,x∈ss):False:=by
 obtain⟨n,G,n1,g7,nd,_,hG⟩:=T.some
 have hn:(G.map λg=>hd++List.replicate n g).Nodup:=by
  unfold List.Nodup
  rw[List.pairwise_map]
  refine nd.imp λ{a b} ne e=>ne ?_
  have e:=List.append_cancel_left e
  obtain⟨k,rfl⟩:∃k,n=k+1:=⟨n-1,by omega⟩
  rw[List.replicate_succ,List.replicate_succ]at e
  exact(List.cons.inj e).1
 have:=nodup_le hn λx hx=>by
  obtain⟨g,hg,rfl⟩:=List.mem_map.mp hx
  exact h _ (hG g hg)
 rw[List.length_map]at this
 omega
theorem Tells.make{mk:Nat->M}{hd hd2:List Nat}{lo hi lo2 hi2:Int}{ms ms2:List M}{S:List (List Nat)}(T:Tells mk hd lo hi ms S)(h:∀x∈S,MkL mk hd2 lo2 hi2 ms2 x):∀x,MkL mk hd lo hi ms x->MkL mk hd2 lo2 hi2 ms2 x:=by
 obtain⟨n,G,n1,g7,nd,cov,hG⟩:=T.some
 obtain⟨d,hd'⟩:∃d,hd=hd2++d:=by
  match G,g7,nd,hG with
  |g1::g2::G',_,nd,hG=>
   obtain⟨r1,e1,_⟩:=h _ (hG g1 (by simp))
   obtain⟨r2,e2,_⟩:=h _ (hG g2 (by simp))
   have ne:g1≠g2:=by
    have:=(List.nodup_cons.mp nd).1
    simp at this
    exact this.1
   obtain⟨k,rfl⟩:∃k,n=k+1:=⟨n-1,by omega⟩
   rw[List.append_eq_append_iff]at e1 e2
   rcases e1 with⟨a,ha,hb⟩|⟨a,ha,hb⟩
   ·rcases e2 with⟨a',ha',hb'⟩|⟨a',ha',hb'⟩
    ·have:a=a':=List.append_cancel_left (ha.symm.trans ha')
     subst this
     cases a with
     |nil=>exact⟨[],by simpa using ha.symm⟩
     |cons y a=>
      rw[List.replicate_succ,List.cons_append]at hb hb'
      exact absurd ((List.cons.inj hb).1.trans (List.cons.inj hb').1.symm) ne
    ·exact⟨a',ha'⟩
   ·exact⟨a,ha⟩
 subst hd'
 have strip:∀{r:List Nat},(hd2++d)++r∈S->lo2<=((d++r).length:Int)/\((d++r).length:Int)<=hi2/\∀c∈d++r,mk c∈ms2:=λ{r} hr=>by
  obtain⟨r',e,h1,h2,h3⟩:=h _ hr
  rw[List.append_assoc]at e
  have:=List.append_cancel_left e
  rw[this]
  exact⟨h1,h2,h3⟩
 obtain⟨rl,l1,l2⟩:=T.low
 obtain⟨rh,h1,h2⟩:=T.high
 have sl:=strip l2
 have sh:=strip h2
 rintro x ⟨r,rfl,r1,r2,r3⟩
 refine⟨d++r,by rw[List.append_assoc],?_,?_,λc hc=>?_⟩
 ·have:=sl.1
  rw[List.length_append]at this ⊢
  omega
 ·have:=sh.2.1
  rw[List.length_append]at this ⊢
  omega
 ·rcases List.mem_append.mp hc with z|z
  ·exact sl.2.2 c (List.mem_append_left _ z)
  ·obtain⟨g,hg,e⟩:=cov _ (r3 c z)
   rw[<-e]
   obtain⟨k,rfl⟩:∃k,n=k+1:=⟨n-1,by omega⟩
   exact(strip (hG g hg)).2.2 g (List.mem_append_right _ (by rw[List.replicate_succ];exact List.mem_cons_self))
end ShowM
namespace My
open PySem L2 PyProof.Rows WordM
def top(i:Nat):Stmt:=PySem.Challenge.pw_leastform_k75_wider_by_one_thing.main.body.getD i (.Pass ⟨0,0,0,0⟩)
abbrev s0_:Stmt:=top 4
abbrev s1_:Stmt:=top 5
abbrev s2_:Stmt:=top 6
abbrev s3_:Stmt:=top 7
abbrev s4_:Stmt:=top 12
abbrev s5_:Stmt:=top 13
abbrev s6_:Stmt:=top 14
abbrev s7_:Stmt:=top 15
abbrev s8_:Stmt:=top 16
abbrev s9_:Stmt:=top 17
abbrev mD:Stmt:=top 18
abbrev vI:Stmt:=top 19
abbrev vH:Stmt:=top 20
abbrev vG:Stmt:=top 21
abbrev pJ:Stmt:=top 22
abbrev vF:Stmt:=top 27
abbrev vE:Stmt:=top 28
abbrev pI:Stmt:=top 30
abbrev pH:Stmt:=top 32
abbrev mC:Stmt:=top 33
abbrev pG:Stmt:=top 34
abbrev vD:Stmt:=top 35
abbrev pF:Stmt:=top 36
abbrev pE:Stmt:=top 37
abbrev kG:Stmt:=top 38
abbrev vC:Stmt:=top 40
abbrev pD:Stmt:=top 41
abbrev vB:Stmt:=top 42
abbrev vA:Stmt:=top 44
abbrev uZ:Stmt:=top 45
abbrev uY:Stmt:=top 46
abbrev uX:Stmt:=top 47
abbrev uW:Stmt:=top 48
abbrev uV:Stmt:=top 49
abbrev uU:Stmt:=top 50
abbrev pC:Stmt:=top 51
abbrev uT:Stmt:=top 52
abbrev pB:Stmt:=top 57
abbrev pA:Stmt:=top 63
abbrev mB:Stmt:=top 64
abbrev uS:Stmt:=top 65
abbrev oZ:Stmt:=top 66
abbrev oY:Stmt:=top 67
abbrev uR:Stmt:=top 68
abbrev lZ:Stmt:=top 69
abbrev uQ:Stmt:=top 70
abbrev lY:Stmt:=top 71
abbrev fK:Stmt:=top 72
section
variable{P:Program}{w:World}{K:W.Frag}{mg:Str->Option Value}{base:Heap}
theorem _root_.L2.On.put{p c:Addr}{H:Hp}(d:DeckAt H p c)(S k:Int):On p c H (upd H p (.lst [.ref c,.int S,.int k])):=by
 obtain⟨ns,e',l⟩:=d.cs
 exact⟨⟨d.ne,⟨S,k,bE⟩,ns,by rw[bG d.ne.symm];exact e',l⟩,λb o h hp _=>by rw[bG hp];exact h⟩
theorem _root_.L2.On.cut{p c:Addr}{H:Hp}(d:DeckAt H p c)(ns:List Int)(h:ns.length<=64):On p c H (upd H c (.lst (ns.map V.int))):=by
 obtain⟨S,k,e⟩:=d.dk
 exact⟨⟨d.ne,⟨S,k,by rw[bG d.ne];exact e⟩,ns,bE,h⟩,λb o h _ hc=>by rw[bG hc];exact h⟩
theorem zCG(ns:List Int):(ns.map V.int).all cV=true:=by
 rw[List.all_map]
 exact List.all_eq_true.mpr λ_ _=>rfl
theorem zDt(ns:List Int):eY (ns.map V.int) []=ns.isEmpty:=by cases ns<;>rfl
theorem sc_mixed:bD ["_law_number","_law_k"] ["_law_number","_law_k"] (aO vA):=fsc (by decide +kernel)
theorem zEq(h:Has K mg "_law_mixed" vA):Good P w K mg base 1 "_law_mixed" ["_law_number","_law_k"] yT:=by
 refine h.good sc_mixed (fun|_,_,_,_,_,_,[_,_],_=>rfl) (λvs H Q E q=>?_) (λf cdv A outer s H vs Q E hr q=>?_)
 ·obtain⟨n,k,rfl,_⟩:=q
  rfl
 ·obtain⟨n,k,rfl,q⟩:=q
  have nd:=sc_mixed.nd
  refine⟨_,(fF (iP (i:=0) nd rfl (by first|exact Or.inl rfl|exact Or.inr rfl) (cA gH (cA op_mul (cA op_add (cA op_add (cA gH (pv 0) bV) (cA op_mul bV (pv 1))) bV) bV) bV))
   (fF (iP (i:=0) nd rfl (by first|exact Or.inl rfl|exact Or.inr rfl) (cA gH (cA op_add (cA op_add (cA op_mul (pv 0) (pv 0)) (cA op_mul bV (pv 1))) bV) bV))
   (iM (iQ (cA zD (cA gH (cA op_mul (cA op_add (cA op_mul (cA gH (pv 0) bV) bV) (cA zD (pv 0) bV)) bV) bV) bV))))),?_⟩
  refine⟨_,rfl,_,_,rfl,rfl,(by show(0:Int)<_;decide),_,rfl,_,_,rfl,rfl,.inl ⟨by decide,by decide⟩,_,_,rfl,rfl,_,_,rfl,rfl,_,_,rfl,rfl,.inr ⟨by decide,by decide⟩,_,_,rfl,rfl,(by show(0:Int)<_;decide),?_⟩
  refine⟨_,rfl,_,rfl,_,_,rfl,rfl,?c,_,rfl,_,_,rfl,rfl,.inl ⟨by decide,by decide⟩,_,_,rfl,rfl,_,_,rfl,rfl,_,_,rfl,rfl,(by show(0:Int)<_;decide),?_⟩
  case c=>
   refine .inl ⟨?_,?_⟩
   ·exact Int.lt_of_lt_of_le (by decide) (Int.emod_nonneg _ (by decide))
   ·exact Int.lt_trans (Int.emod_lt_of_pos _ (by decide)) (by decide)
  refine⟨_,rfl,_,_,rfl,rfl,(by show(0:Int)<_;decide),_,_,rfl,rfl,.inr ⟨by decide,by decide⟩,_,rfl,_,_,rfl,rfl,⟨by decide,by decide⟩,_,_,rfl,rfl,_,_,rfl,rfl,.inr ⟨by decide,by decide⟩,_,_,rfl,rfl,(by show(0:Int)<_;decide),_,_,rfl,rfl,⟨by decide,by decide⟩,?_⟩
  exact q _
theorem sc_deck:bD ["_law_script","_law_cells"] ["_law_script"] (aO uZ):=fsc (by decide +kernel)
theorem zGx(ns:List Int):fB (ns.map V.int) none (some 63)=(ns.take 63).map V.int:=by
 unfold fB
 have e1:HT.sIx (ns.map V.int).length 0 none=0:=rfl
 rw[e1,List.drop_zero,Nat.sub_zero,List.map_take]
 by_cases h:ns.length<=63
 ·rw[List.take_of_length_le (by simp[HT.sIx]<;>omega),List.take_of_length_le (by simpa using h)]
 ·congr 1
  simp[HT.sIx]<;>omega
theorem zFE(h:Has K mg "_law_deck" uZ)(B:Own mg):Good P w K mg base 1 "_law_deck" ["_law_script"] (zAf K):=by
 refine h.good sc_deck (fun|_,_,_,_,_,_,[_],_=>rfl) (λvs H Q E q=>?_) (λf cdv A outer s H vs Q E hr q=>?_)
 ·obtain⟨a,ns,rfl,_⟩:=q
  rfl
 ·obtain⟨a,ns,rfl,hS,q⟩:=q
  have nd:=sc_deck.nd
  refine⟨_,(fF (iP (i:=1) nd rfl (by first|exact Or.inl rfl|exact Or.inr rfl) (kQ vW rfl B.list_ boot_list (dF (xT sl_list (pv 0) yX (yW bV)) eE)))
   (iM (iQ (@zB _ _ _ _ (@vJ _ _ _ _ _ (zFe (pv 1) (zAG zW bV)) (@vJ _ _ _ _ _ (cA op_add (iH (zCL rfl) rfl B.sum boot_sum (dF (pv 1) eE)) (cA op_mul bV (iH call_len_seq rfl B.len PySem.boot_len (dF (pv 1) eE)))) (@vJ _ _ _ _ _ bV zAl rfl) rfl) rfl))))),?_⟩
  refine⟨_,rfl,_,rfl,a,_,rfl,hS,λl1 h1=>?_⟩
  have e1:upd H l1 (.lst (fB (ns.map V.int) none (some 63)))=upd H l1 (.lst ((ns.take 63).map V.int)):=by rw[zGx]
  rw[e1]
  refine⟨l1,_,rfl,.inl (SqL.of bE),λl2 h2=>?_⟩
  refine⟨_,rfl,_,rfl,rfl,l2,_,rfl,SqL.of bE,λl3 h3=>?_⟩
  have n23:l2≠l3:=dC bE h3
  refine⟨_,rfl,l2,ns.take 63,rfl,SqL.of (by rw[bG n23];exact bE),_,rfl,l2,_,rfl,.inl (SqL.of (by rw[bG n23];exact bE)),_,_,rfl,rfl,.inl ⟨by decide,by decide⟩,_,_,rfl,rfl,(by show 3<=sizeLine;decide),λl4 h4=>?_⟩
  have n34:l3≠l4:=dC bE h4
  have f1:∀b o,H b=some o->upd H l1 (.lst ((ns.take 63).map V.int)) b=some o:=λb o e=>by rw[bG (dC e h1)];exact e
  have s1:Same H (upd H l1 (.lst ((ns.take 63).map V.int))):=f1
  have s2:Same H (upd (upd H l1 (.lst ((ns.take 63).map V.int))) l2 (.lst ((ns.take 63).map V.int))):=λb o e=>by rw[bG (dC (s1 b o e) h2)];exact s1 b o e
  have s3:Same H (upd (upd (upd H l1 (.lst ((ns.take 63).map V.int))) l2 (.lst ((ns.take 63).map V.int))) l3 (.lst ((ns.take 63).map V.int).reverse)):=λb o e=>by rw[bG (dC (s2 b o e) h3)];exact s2 b o e
  refine q l4 l3 _ (s3.free h4) (s2.free h3) ⟨n34.symm,⟨_,_,bE⟩,(ns.take 63).reverse,?_,?_⟩ λb o e=>?_
  ·rw[bG n34,bE,List.map_reverse]
  ·rw[List.length_reverse,List.length_take];omega
  ·rw[bG (dC (s3 b o e) h4)];exact s3 b o e
theorem sc_take:bD ["_law_deck_here","_law_most","_law_cell"] ["_law_deck_here","_law_most"] (aO uY):=fsc (by decide +kernel)
theorem zFD(h:Has K mg "_law_take" uY)(G28_:Good P w K mg base 1 "_law_mixed" ["_law_number","_law_k"] yT):Good P w K mg base 2 "_law_take" ["_law_deck_here","_law_most"] zAe:=by
 refine h.good sc_take (fun|_,_,_,_,_,_,[_,_],_=>rfl) (λvs H Q E q=>?_) (λf cdv A outer s H vs Q E hr q=>?_)
 ·obtain⟨p,c,m,rfl,_⟩:=q
  rfl
 ·obtain⟨p,c,m,rfl,d,hm,hB,q⟩:=q
  have nd:=sc_take.nd
  have hu:=Nat.lt_of_succ_lt (zGs hr)
  obtain⟨hne,⟨S,k,hp⟩,ns,hc,hl⟩:=id d
  refine⟨_,(fF (zE7 (cA op_add (fT ix_list (pv 0) bV (λ_ _=>rfl)) bV) (zE9 (pv 0) bV zC3))
   (fF (uE (sL (zFq hu) (fT ix_list (pv 0) bV (λ_ _=>rfl)) (@zB _ _ _ _ zAl) (jT _))
    (iM (iQ (cA gH (lJ G28_ (hr.mono (by first|decide|omega)) rfl (dF (fT ix_list (pv 0) bV (λ_ _=>rfl)) (dF (fT ix_list (pv 0) bV (λ_ _=>rfl)) eE))) (pv 1))))
    sW)
   (fF (iP (i:=2) nd rfl (by first|exact Or.inl rfl|exact Or.inr rfl) (zAp PySem.F.plainAttrs_list PySem.F.slot_list_pop PySem.F.type_list_pop zFs (fT ix_list (pv 0) bV (λ_ _=>rfl))))
   (fF (uE (sL op_lt (pv 2) (cA zAs bV bV) (jT _))
    (iM (iQ (cA gH (lJ G28_ (hr.mono (by first|decide|omega)) rfl (dF (pv 2) (dF (fT ix_list (pv 0) bV (λ_ _=>rfl)) eE))) (pv 1))))
    sW)
   (fF (yV (jY PySem.F.plainAttrs_list PySem.F.slot_list_append PySem.F.type_list_append mU (fT ix_list (pv 0) bV (λ_ _=>rfl)) (dF (cA xU (pv 2) (pv 1)) eE)))
   (iM (iQ (cA gH (pv 2) (pv 1))))))))),?_⟩
  -- deck[2]=deck[2]+1
  refine⟨_,rfl,p,_,_,_,rfl,rfl,SqL.of hp,rfl,_,_,rfl,rfl,_,rfl,p,_,_,2,rfl,rfl,hp,rfl,?_⟩
  have o1:On p c H (upd H p (.lst [.ref c,.int S,.int (k+1)])):=On.put d S (k+1)
  have hc1:upd H p (.lst [.ref c,.int S,.int (k+1)]) c=some (.lst (ns.map V.int)):=by rw[bG hne.symm];exact hc
  -- if deck[0]==[]
  refine⟨_,rfl,p,_,_,_,rfl,rfl,SqL.of bE,rfl,Nat.zero_le _,λl hfree=>?_⟩
  have npl:p≠l:=(o1.d.nep hfree).symm
  have ncl:c≠l:=(o1.d.nec hfree).symm
  have o2:=o1.alloc (o:=.lst []) hfree
  have hp2:upd (upd H p (.lst [.ref c,.int S,.int (k+1)])) l (.lst []) p=some (.lst [.ref c,.int S,.int (k+1)]):=by rw[bG npl];exact bE
  have hc2:upd (upd H p (.lst [.ref c,.int S,.int (k+1)])) l (.lst []) c=some (.lst (ns.map V.int)):=by rw[bG ncl];exact hc1
  refine⟨c,l,_,[],rfl,rfl,SqL.of hc2,SqL.of bE,zCG ns,rfl,_,rfl,?_⟩
  rw[show(if false=true then !eY (ns.map V.int) [] else eY (ns.map V.int) [])=ns.isEmpty from zDt ns]
  have fin:∀r H',On p c H H'->Q (.int (r % m)) H':=λr H' o=>q (r % m) H' (Int.emod_nonneg _ (by omega)) (Int.emod_lt_of_pos _ hm) o
  rcases List.eq_nil_or_concat ns with e|⟨init,z,e⟩
  ·subst e
   refine cC ?_
   refine⟨_,rfl,p,_,_,_,rfl,rfl,SqL.of hp2,rfl,_,rfl,p,_,_,_,rfl,rfl,SqL.of hp2,rfl,_,_,rfl,λr=>?_⟩
   exact⟨_,rfl,_,_,rfl,rfl,hm,fin r _ o2⟩
  ·rw[List.concat_eq_append]at e
   subst e
   rw[show(init++[z]).isEmpty=false by simp]
   refine bF ?_
   have hlast:((init++[z]).map V.int)[((init++[z]).map V.int).length-1]?=some (.int z):=by simp
   have hdrop:((init++[z]).map V.int).dropLast=init.map V.int:=by simp
   -- cell=deck[0].pop()
   refine⟨_,rfl,p,_,_,_,rfl,rfl,SqL.of hp2,rfl,.inl ⟨rfl,_,SqL.of hc2⟩,c,_,_,rfl,rfl,hc2,hlast,?_⟩
   rw[hdrop]
   have hli:init.length<=63:=by rw[List.length_append,List.length_singleton]at hl;omega
   have o3:=o2.trans (On.cut o2.d init (by omega))
   have hp3:upd (upd (upd H p (.lst [.ref c,.int S,.int (k+1)])) l (.lst [])) c (.lst (init.map V.int)) p=some (.lst [.ref c,.int S,.int (k+1)]):=by rw[bG hne];exact hp2
   -- if cell<10 ** 18
   refine⟨_,rfl,_,_,rfl,rfl,⟨by decide,by decide,by decide⟩,_,_,rfl,rfl,_,rfl,?_⟩
   refine zHi (λ_=>?_) (λ_=>?_)
   ·refine⟨_,rfl,_,rfl,p,_,_,_,rfl,rfl,SqL.of hp3,rfl,_,_,rfl,λr=>?_⟩
    exact⟨_,rfl,_,_,rfl,rfl,hm,fin r _ o3⟩
   ·refine⟨_,rfl,p,_,_,_,rfl,rfl,SqL.of hp3,rfl,.inl ⟨rfl,_,SqL.of bE⟩,_,rfl,_,rfl,_,_,rfl,rfl,⟨hm,hB⟩,c,_,_,rfl,rfl,bE,zCb (by rw[List.length_map];omega),?_⟩
    rw[show init.map V.int++[V.int (z / m)]=(init++[z / m]).map V.int by simp]
    have o4:=o3.trans (On.cut o3.d (init++[z / m]) (by rw[List.length_append,List.length_singleton];omega))
    exact⟨_,rfl,_,rfl,_,_,rfl,rfl,hm,fin z _ o4⟩
end
end My
namespace My
open PySem L2 PyProof.Rows WordM
section
variable{P:Program}{w:World}{K:W.Frag}{mg:Str->Option Value}{base:Heap}
def nI:PSp:=λas R=>as=[]/\R (sT SIG)
theorem C31_:bD ["_law_signs_here"] [] (aO uX):=fsc (by decide +kernel)
theorem zHB(h:Has K mg "_law_signs" uX)(B:Own mg)    : aG P w K mg base 1 "_law_signs" [] nI:=by
 have nd:=C31_.nd
 refine h.pgood C31_ (fun|_,_,_,_,_,_,[],_=>rfl) (λf cdv A outer s H E F hr=>
   (aE (aV 0 nd aI)
   (aL (aQ (aW bH (aB 0) aI))))) (λas R q=>?_)
 obtain⟨rfl,q⟩:=q
 exact⟨rfl,show sigA.length+sigB.length<=100000 by decide +kernel,q⟩
def lC:PSp:=λas R=>∃m:Int,as=[.dk,.va (iT m)]/\0<=m/\m<=1000/\∀x:Str,Sg x->(x.length:Int)<=m->R (sT x)
theorem zFI{z:Str}{r:Int}(h0:0<=r)(h1:r<z.length):∃c,atI z.cps.toList r=some c/\c∈cs z:=by
 have hl:r.toNat<(cs z).length:=by rw[<-WordM.len];omega
 refine⟨(cs z)[r.toNat],?_,List.getElem_mem hl⟩
 have:=aY (xs:=cs z) (j:=r.toNat) (List.getElem?_eq_getElem hl)
 rw[show((r.toNat:Nat):Int)=r by omega]at this
 exact this
theorem pO{α:Type}{l:List α}{r:Int}(h0:0<=r)(h1:r<l.length):∃m,atI l r=some m/\m∈l:=by
 have hl:r.toNat<l.length:=by omega
 refine⟨l[r.toNat],?_,List.getElem_mem hl⟩
 have:=aY (xs:=l) (j:=r.toNat) (List.getElem?_eq_getElem hl)
 rw[show((r.toNat:Nat):Int)=r by omega]at this
 exact this
theorem C32_:bD ["_law_deck_here","_law_most","_law_signs_here","_law_some","_law_text_here","_law_k"] ["_law_deck_here","_law_most"] (aO uW):=fsc (by decide +kernel)
theorem zHA(h:Has K mg "_law_text" uW)(B:Own mg)(G31_:aG P w K mg base 1 "_law_signs" [] nI)(G30_:aG P w K mg base 2 "_law_take" ["_law_deck_here","_law_most"] eK)   : aG P w K mg base 3 "_law_text" ["_law_deck_here","_law_most"] lC:=by
 have nd:=C32_.nd
 refine h.pgood C32_ (fun|_,_,_,_,_,_,[_,_],_=>rfl) (λf cdv A outer s H E F hr=>
   (aE (aV 2 nd (zX G31_ (hr.mono (by omega)) rfl))
   (aE (aV 3 nd (aH hr (bA (bM (aA (aB 2) (aA (aB 2) (aA aI (aA aI (aA aI (aA aI aC)))))))) (aR G30_ hr (bK 0 (aA aD aC)))))
   (aE (aV 4 nd aI)
   (aE (eC (m:=6) PassesOwn.never rfl (gC rfl B.range (aA (aR G30_ hr (bK 0 (aA (aW bH (aB 1) aD) aC))) aC)) (cN 5 (by decide) nd rfl (.inl rfl))
    (aL (aV 4 nd (aW bH (aB 4) (aH hr (aB 3) (aR G30_ hr (bK 0 (aA (cX eJ rfl B.len PySem.boot_len (aA (aB 3) aC)) aC))))))))
   (aL (aQ (aB 4)))))))) (λas R q=>?_)
 obtain⟨m,rfl,m0,m1,q⟩:=q
 refine⟨rfl,rfl,?_⟩
 refine⟨by decide,rfl,6,rfl,by decide,bN (by decide) (by decide),λr r0 r6=>?_⟩
 obtain⟨z,hz,hzm⟩:=pO (l:=[sT SIG,sT SIG,sT "0123456789",sT "abc",sT "XYZ",sT "a1"]) r0 r6
 refine⟨z,hz,?_⟩
 have hzs:∃y,z=sT y/\Sg y/\0<y.length/\y.length<=100:=by
  simp only[List.mem_cons,List.not_mem_nil,or_false]at hzm
  rcases hzm with e|e|e|e|e|e<;>subst e
  ·exact⟨_,rfl,λ_ h=>h,by decide +kernel,by decide +kernel⟩
  ·exact⟨_,rfl,λ_ h=>h,by decide +kernel,by decide +kernel⟩
  ·exact⟨_,rfl,by decide +kernel,by decide +kernel,by decide +kernel⟩
  ·exact⟨_,rfl,by decide +kernel,by decide +kernel,by decide +kernel⟩
  ·exact⟨_,rfl,by decide +kernel,by decide +kernel,by decide +kernel⟩
  ·exact⟨_,rfl,by decide +kernel,by decide +kernel,by decide +kernel⟩
 clear hz hzm
 obtain⟨y,rfl,y1,y2,y3⟩:=hzs
 refine⟨rfl,m+1,rfl,by omega,bN (by omega) (by omega),λn n0 n1=>⟨n,rfl,by omega,by omega,?_⟩⟩
 refine eW (λi ρ=>∃(x:Str) (s:Sl),Sg x/\x.length=i/\ρ=[.dk,.va (iT m),.va (sT SIG),.va (sT y),.va (sT x),s]) ⟨⟨#[]⟩,.no,tP,rfl,rfl⟩ ?_ ?_
 ·rintro i T _ N hT ⟨x,s,sx,lx,rfl⟩ hN
  have hi:=(jJ hT).1
  refine⟨rfl,by omega,?_⟩
  refine⟨y.length,rfl,by omega,bN (by omega) (by omega),λk k0 k1=>⟨by omega,?_⟩⟩
  obtain⟨c,hc,hcm⟩:=zFI (z:=y) k0 k1
  refine⟨c,hc,by show x.length+1<=100000;omega,hN _ ⟨x++⟨#[c]⟩,_,sx.app (y1.one hcm),?_,rfl⟩⟩
  rw[WordM.len,WordM.app,List.length_append,<-WordM.len,lx]
  rfl
 ·rintro _ ⟨x,s,sx,lx,rfl⟩
  refine q x sx ?_
  rw[lx,iG]
  omega
end
section
variable{P:Program}{w:World}{K:W.Frag}{mg:Str->Option Value}{base:Heap}
theorem zEP(a:Int):Sg ⟨#[eO a]⟩:=λcc hc=>by
 have e:cc=eO a:=by simpa using hc
 rw[e]
 exact zCe _
def zA3(m:Int)(ss:List Str):Prop:=ss.Nodup/\∀s∈ss,Sg s/\(s.length:Int)<=(if m<1 then 1 else m)
def rM:PSp:=λas R=>∃n m:Int,as=[.dk,.va (iT n),.va (iT m)]/\0<=n/\n<=63/\0<=m/\m<=1000/\∀ss:List Str,(ss.length:Int)=n->zA3 m ss->R (.seq false (ss.map sT))
theorem C33_:bD ["_law_deck_here","_law_many","_law_most","_law_signs_here","_law_found","_law_k","_law_text_here","_law_at"] ["_law_deck_here","_law_many","_law_most"] (aO uV):=fsc (by decide +kernel)
theorem zHz(h:Has K mg "_law_unlike" uV)(B:Own mg)(G31_:aG P w K mg base 1 "_law_signs" [] nI)(G32_:aG P w K mg base 3 "_law_text" ["_law_deck_here","_law_most"] lC)   : aG P w K mg base 4 "_law_unlike" ["_law_deck_here","_law_many","_law_most"] rM:=by
 have nd:=C33_.nd
 refine h.pgood C33_ (fun|_,_,_,_,_,_,[_,_,_],_=>rfl) (λf cdv A outer s H E F hr=>
   (aE (aV 3 nd (zX G31_ (hr.mono (by omega)) rfl))
   (aE (gK 4 nd (bM aC))
   (aE (eC (m:=8) PassesOwn.never rfl (gC rfl B.range (aA (aB 1) aC)) (cN 5 (by decide) nd rfl (.inl rfl))
    (aE (aV 6 nd (aR G32_ hr (bK 0 (aA (aB 2) aC))))
    (aE (aV 7 nd (nW PySem.F.slot_str_find PySem.F.type_str_find zDZ (aB 3) (aA (cE cG (aB 6) cJ (cD aD)) aC)))
    (aE (rD PassesOwn.never (sE λF=>(cP (gJ hr.units) (aB 6) (aB 4) rfl))
     (aE (aV 7 nd (aW iO (aW bH (aB 7) aD) (cX eJ rfl B.len PySem.boot_len (aA (aB 3) aC))))
     (aL (aV 6 nd (aW bH (aH hr (aB 3) (aB 7)) (cE cG (aB 6) (cD aD) cJ))))))
    (aL (fP (kO 4 (aB 6))))))))
   (aL (aQ (aB 4))))))) (λas R q=>?_)
 obtain⟨n,m,rfl,n0,n63,m0,m1,q⟩:=q
 have hsl:SIG.length=94:=sH
 refine⟨rfl,rfl,by decide,n,rfl,by omega,by omega,?_⟩
 refine eW (λi ρ=>∃(ss:List Str) (s5 s6 s7:Sl),ss.length=i/\zA3 m ss/\ρ=[.dk,.va (iT n),.va (iT m),.va (sT SIG),.own (ss.map sT),s5,s6,s7]) ⟨[],.no,.no,.no,rfl,⟨List.nodup_nil,λs hs=>nomatch hs⟩,rfl⟩ ?_ ?_
 ·rintro i T _ N hT ⟨ss,s5,s6,s7,hlen,htx,rfl⟩ hN
  obtain⟨hi,rfl⟩:=jJ hT
  refine⟨rfl,m,rfl,m0,m1,λx0 sx0 hx0=>?_⟩
  refine⟨rfl,1,rfl,by omega,SIG,_,rfl,rfl,λa0=>?_⟩
  let r:Str:=Txt.slice x0 (some 1) none
  have hr1:r.length+1<=(if x0.length<1 then 1 else x0.length):=zBL x0
  have sr:Sg r:=sx0.slice _ _
  refine⟨λM ρ=>∃(j:Nat) (x:Str),M+j=ss.length+2/\j<=ss.length+1/\(∀i,1<=i->i<j->eR a0 r i∈ss)/\(j=0/\x=x0\/1<=j/\x=eR a0 r j) /\
    ρ=[.dk,.va (iT n),.va (iT m),.va (sT SIG),.own (ss.map sT),.va (iT (0+(i:Int))),.va (sT x),.va (iT (if j=0 then a0 else(a0+j) % 94))],
   ⟨ss.length+2,0,x0,rfl,Nat.zero_le _,λi h1 h2=>absurd h2 (Nat.not_lt_zero _),.inl ⟨rfl,rfl⟩,rfl⟩,?_⟩
  rintro M _ ⟨j,x,hM,hj,htr,hx,rfl⟩
  have hxl:Sg x/\(x.length:Int)<=(if m<1 then 1 else m)/\Txt.slice x (some 1) none=r:=by
   rcases hx with⟨_,rfl⟩|⟨_,rfl⟩
   ·refine⟨sx0,?_,rfl⟩
    split<;>omega
   ·refine⟨Sg.app (zEP _) sr,?_,zBK⟩
    have:(eR a0 r j).length=r.length+1:=by
     unfold eR
     rw[WordM.len,WordM.app,WordM.len,List.length_append]
     simp
     omega
    rw[this]
    split at hr1<;>split<;>omega
  obtain⟨sx,hxm,hxr⟩:=hxl
  have hx1000:x.length<=1000:=by split at hxm<;>omega
  refine⟨gD,_,rfl,?_⟩
  rw[gE]
  refine sif (λh1=>?_) (λh1=>?_)
  ·have h1:x∈ss:=by simpa using h1
   have hall:∀i,1<=i->i<=j->eR a0 r i∈ss:=λi i1 i2=>by
    rcases Nat.lt_or_eq_of_le i2 with z|z
    ·exact htr i i1 z
    ·rcases hx with⟨z0,_⟩|⟨_,e⟩
     ·omega
     ·rw[z,<-e];exact h1
   have hjs:j<=ss.length:=zC0 (by omega) hall
   have hmod:((if j=0 then a0 else(a0+(j:Int)) % 94)+1) % 94=(a0+((j+1:Nat):Int)) % 94:=by
    split
    ·rename_i z;subst z;congr 1
    ·push_cast;omega
   have hsl':((SIG.length:Nat):Int)=94:=by rw[hsl];rfl
   have e1:((if j=0 then a0 else(a0+(j:Int)) % 94)+1) % ((SIG.length:Nat):Int)=(a0+((j+1:Nat):Int)) % 94:=by rw[hsl',hmod]
   have hat:atI SIG.cps.toList (((if j=0 then a0 else(a0+(j:Int)) % 94)+1) % ((SIG.length:Nat):Int))=some (eO (a0+((j+1:Nat):Int))):=by
    rw[e1]
    have b1:=Int.emod_lt_of_pos (a0+((j+1:Nat):Int)) (show(0:Int)<94 by decide)
    have b2:=Int.emod_nonneg (a0+((j+1:Nat):Int)) (show(94:Int)≠0 by decide)
    have hlt:((a0+((j+1:Nat):Int)) % 94).toNat<(cs SIG).length:=by rw[<-WordM.len];omega
    have:=aY (xs:=cs SIG) (j:=((a0+((j+1:Nat):Int)) % 94).toNat) (List.getElem?_eq_getElem hlt)
    rw[show((((a0+((j+1:Nat):Int)) % 94).toNat:Nat):Int)=(a0+((j+1:Nat):Int)) % 94 by omega]at this
    rw[this]
    unfold eO
    rw[List.getD_eq_getElem?_getD,List.getElem?_eq_getElem hlt]
    rfl
   refine⟨by omega,by omega,by omega,_,hat,1,rfl,by omega,?_,?_⟩
   ·show 1+(Txt.slice x (some 1) none).length<=100000
    rw[hxr]
    split at hr1<;>omega
   ·refine⟨ss.length+2-(j+1),by omega,j+1,eR a0 r (j+1),by omega,by omega,λi i1 i2=>hall i i1 (by omega),.inr ⟨by omega,rfl⟩,?_⟩
    show [Sl.dk,.va (iT n),.va (iT m),.va (sT SIG),.own (ss.map sT),.va (iT (0+(i:Int))),.va (sT ((⟨#[eO (a0+((j+1:Nat):Int))]⟩:Str)++Txt.slice x (some 1) none)),.va (iT (((if j=0 then a0 else(a0+(j:Int)) % 94)+1) % ((SIG.length:Nat):Int)))]=_
    rw[e1,if_neg (by omega),hxr]
    rfl
  ·have h1:x∉ss:=by simpa using h1
   refine⟨⟨_,rfl⟩,_,rfl,by rw[List.length_map];omega,hN _ ⟨ss++[x],.va (iT (0+(i:Int))),.va (sT x),.va (iT (if j=0 then a0 else(a0+j) % 94)),by rw[List.length_append,hlen];rfl,⟨?_,λs hs=>?_⟩,?_⟩⟩
   ·rw[List.nodup_append]
    exact⟨htx.1,by simp,λa ha b hb=>by rw[List.mem_singleton]at hb;subst hb;rintro rfl;exact h1 ha⟩
   ·rcases List.mem_append.mp hs with z|z
    ·exact htx.2 s z
    ·rw[List.mem_singleton]at z;subst z;exact⟨sx,hxm⟩
   ·rw[List.map_append];rfl
 ·rintro _ ⟨ss,s5,s6,s7,hlen,htx,rfl⟩
  rw[iG]at hlen
  exact q ss (by omega) htx
def uD:PSp:=λas R=>as=[.dk]/\∀r:Int,-(10 ^ 60)<r->r<10 ^ 60->R (iT r)
theorem C34_:bD ["_law_deck_here","_law_number","_law_k"] ["_law_deck_here"] (aO uU):=fsc (by decide +kernel)
theorem zHy(h:Has K mg "_law_far" uU)(B:Own mg)(G30_:aG P w K mg base 2 "_law_take" ["_law_deck_here","_law_most"] eK)   : aG P w K mg base 3 "_law_far" ["_law_deck_here"] uD:=by
 have nd:=C34_.nd
 refine h.pgood C34_ (fun|_,_,_,_,_,_,[_],_=>rfl) (λf cdv A outer s H E F hr=>
   (aE (aV 1 nd aD)
   (aE (eC (m:=3) PassesOwn.never rfl (gC rfl B.range (aA aD aC)) (cN 2 (by decide) nd rfl (.inl rfl))
    (aL (aV 1 nd (aW bH (aW iL (aB 1) (aW lB aD aD)) (aR G30_ hr (bK 0 (aA (aW lB aD aD) aC)))))))
   (aL (aQ (aW bH (aW iN (aW iO (aB 1) (aW iN (aW iL aD (aW lB aD aD)) aD)) (aW lB aD aD)) aD)))))) (λas R q=>?_)
 obtain⟨rfl,q⟩:=q
 refine⟨rfl,8,rfl,by decide,by decide,?_⟩
 refine eW (λi ρ=>∃(x:Int) (s:Sl),0<=x/\x<10 ^ (8*i)/\ρ=[.dk,.va (iT x),s]) ⟨0,.no,by decide,by decide,rfl⟩ ?_ ?_
 ·rintro i T _ N hT ⟨x,s,x0,x1,rfl⟩ hN
  obtain⟨hi,rfl⟩:=jJ hT
  have hi:i<8:=hi
  have xb:x<10 ^ 64:=Int.lt_of_lt_of_le x1 (by
   have:i=0\/i=1\/i=2\/i=3\/i=4\/i=5\/i=6\/i=7:=by omega
   rcases this with e|e|e|e|e|e|e|e<;>subst e<;>decide)
  refine⟨⟨by decide,by decide,by decide⟩,.inr ⟨bN (by omega) (by omega),bN (by decide) (by decide)⟩,rfl,⟨by decide,by decide,by decide⟩,10 ^ 8,rfl,by decide,bN (by decide) (by decide),λr r0 r1=>hN _ ⟨_,_,?_,?_,rfl⟩⟩
  ·show 0<=x*(10 ^ 8:Int)+r
   omega
  ·show x*(10 ^ 8:Int)+r<10 ^ (8*(i+1))
   have e:(10:Int) ^ (8*(i+1))=10 ^ (8*i)*10 ^ 8:=by rw[Nat.mul_add,Int.pow_add]
   rw[e]
   have h8:r<(10:Int) ^ 8:=r1
   generalize (10:Int) ^ (8*i)=y at x1
   omega
 ·rintro _ ⟨x,s,x0,x1,rfl⟩
  refine⟨⟨by decide,by decide,by decide⟩,.inl (.inl ⟨by decide,by decide⟩),(show(0:Int)<2*10 ^ 60-1 by decide),⟨by decide,by decide,by decide⟩,?_⟩
  have h1:=Int.emod_nonneg x (show(2*10 ^ 60-1:Int)≠0 by decide)
  have h2:=Int.emod_lt_of_pos x (show(0:Int)<2*10 ^ 60-1 by decide)
  refine q _ ?_ ?_
  ·show -(10 ^ 60)<x % (2*10 ^ 60-1)-10 ^ 60+1
   omega
  ·show x % (2*10 ^ 60-1)-10 ^ 60+1<10 ^ 60
   omega
end
section
variable{P:Program}{w:World}{K:W.Frag}{mg:Str->Option Value}{base:Heap}
structure jQ (nm tx:List Str) (st sp:Int):Prop where
 n11:nm.length=11
 t9:tx.length=9
 nd:nm.Nodup
 ndt:tx.Nodup
 ns:∀s∈nm,Sg s/\s.length<=40
 ts:∀s∈tx,Sg s/\s.length<=43
 st1:-(10 ^ 57)<=st
 st2:st<=10 ^ 57
 sp1:1<=sp
 sp2:sp<=10 ^ 20
def bQ(nm tx:List Str)(st sp:Int):Tv:=.seq false [.seq false (nm.map sT),.seq false (tx.map sT),iT st,iT sp]
def sM:PSp:=λas R=>as=[.dk]/\∀nm tx st sp,jQ nm tx st sp->R (bQ nm tx st sp)
theorem zEy{a b c:Str}(h:a++b=a++c):b=c:=by
 have:=congrArg cs h
 rw[WordM.app,WordM.app]at this
 exact jN (List.append_cancel_left this)
theorem C35_:bD ["_law_deck_here","_law_most","_law_names","_law_head","_law_texts","_law_start"] ["_law_deck_here"] (aO pC):=fsc (by decide +kernel)
theorem zHx(h:Has K mg "_law_world" pC)(B:Own mg)(G30_:aG P w K mg base 2 "_law_take" ["_law_deck_here","_law_most"] eK)(G33_:aG P w K mg base 4 "_law_unlike" ["_law_deck_here","_law_many","_law_most"] rM)(G32_:aG P w K mg base 3 "_law_text" ["_law_deck_here","_law_most"] lC)(G34_:aG P w K mg base 3 "_law_far" ["_law_deck_here"] uD)   : aG P w K mg base 5 "_law_world" ["_law_deck_here"] sM:=by
 have nd:=C35_.nd
 refine h.pgood C35_ (fun|_,_,_,_,_,_,[_],_=>rfl) (λf cdv A outer s H E F hr=>
   (aE (aV 1 nd (aH hr (bA (bM (aA aD (aA aD (aA aD (aA aD (aA aD (aA aD (aA aD (aA aD aC)))))))))) (aR G30_ hr (bK 0 (aA aD aC)))))
   (aE (aV 2 nd (aR G33_ hr (bK 0 (aA aD (aA (aB 1) aC)))))
   (aE (aV 3 nd (aR G32_ hr (bK 0 (aA (aW iL aD (aR G30_ hr (bK 0 (aA aD aC)))) aC))))
   (aE (iU (sc:=aO pC) (XN:=["_law_deck_here","_law_most","_law_names","_law_head","_law_texts","_law_start"]) (N:=["_law_text_here","_law_head"]) (fr:=[3]) 4 nd (bR (aR G33_ hr (bK 0 (aA aD (aA (aB 1) aC))))) (λ_ _ _ _ _=>gF) (λ_ _ _ _ _=>(aW bH (aB 1) (aB 0))))
   (aE (aV 5 nd (aH hr (bA (bM (aA aD (aA aD (aA (oJ nZ aD) (aA (aW sK (aR G34_ hr (bK 0 aC)) aD) aC)))))) (aR G30_ hr (bK 0 (aA aD aC)))))
   (aL (aQ (bA (bM (aA (aB 2) (aA (aB 4) (aA (aB 5) (aA (aW bH aD (aR G30_ hr (bK 0 (aA (aH hr (bA (bM (aA aD (aA (aW lB aD aD) aC)))) (aR G30_ hr (bK 0 (aA aD aC)))) aC)))) aC)))))))))))))) (λas R q=>?_)
 obtain⟨rfl,q⟩:=q
 refine⟨rfl,by decide,rfl,8,rfl,by decide,bN (by decide) (by decide),λr r0 r1=>?_⟩
 obtain⟨M,hM,hMm⟩:=pO (l:=[iT 4,iT 3,iT 5,iT 1,iT 4,iT 3,iT 6,iT 40]) r0 r1
 have hm:∃m:Int,M=iT m/\1<=m/\m<=40:=by
  simp only[List.mem_cons,List.not_mem_nil,or_false]at hMm
  rcases hMm with e|e|e|e|e|e|e|e<;>subst e<;>exact⟨_,rfl,by decide,by decide⟩
 obtain⟨m,rfl,m1,m2⟩:=hm
 refine⟨_,hM,?_⟩
 clear hM hMm
 refine⟨rfl,11,m,rfl,by decide,by decide,by omega,by omega,λnm hnm tnm=>?_⟩
 refine⟨rfl,rfl,2,rfl,by decide,bN (by decide) (by decide),λr2 a0 a1=>⟨.inl (.inl ⟨by decide,by decide⟩),_,rfl,by omega,by omega,λhd shd lhd=>?_⟩⟩
 refine⟨rfl,9,m,rfl,by decide,by decide,by omega,by omega,λtx htx ttx=>⟨by rw[List.length_map];omega,?_⟩⟩
 have lt:∀s∈tx,Sg s/\s.length<=40:=λs hs=>by
  have:=ttx.2 s hs
  refine⟨this.1,?_⟩
  have:=this.2
  split at this<;>omega
 refine cM sT (λs=>sT (hd++s)) (λs hs R q=>?_) ?_
 ·have:=(lt s hs).2
  exact⟨show hd.length+s.length<=100000 by omega,q⟩
 refine⟨rfl,rfl,λfr fr0 fr1=>⟨⟨by decide,bN (by decide) (by decide)⟩,(show 4<=100000 by decide),rfl,4,rfl,by decide,bN (by decide) (by decide),λr3 b0 b1=>?_⟩⟩
 obtain⟨S,hS,hSm⟩:=pO (l:=[iT 0,iT 7,iT (-40),iT (fr / 1000)]) b0 b1
 have hs:∃st:Int,S=iT st /\ -(10 ^ 57)<=st/\st<=10 ^ 57:=by
  simp only[List.mem_cons,List.not_mem_nil,or_false]at hSm
  rcases hSm with e|e|e|e<;>subst e
  ·exact⟨_,rfl,by decide,by decide⟩
  ·exact⟨_,rfl,by decide,by decide⟩
  ·exact⟨_,rfl,by decide,by decide⟩
  ·exact⟨_,rfl,by omega,by omega⟩
 obtain⟨st,rfl,st1,st2⟩:=hs
 refine⟨_,hS,?_⟩
 clear hS hSm
 refine⟨rfl,⟨by decide,by decide,by decide⟩,by decide,rfl,2,rfl,by decide,bN (by decide) (by decide),λr4 c0 c1=>?_⟩
 obtain⟨W,hW,hWm⟩:=pO (l:=[iT 6,iT (10 ^ 20)]) c0 c1
 have hw:∃wi:Int,W=iT wi/\1<=wi/\wi<=10 ^ 20:=by
  simp only[List.mem_cons,List.not_mem_nil,or_false]at hWm
  rcases hWm with e|e<;>subst e<;>exact⟨_,rfl,by decide,by decide⟩
 obtain⟨wi,rfl,w1,w2⟩:=hw
 refine⟨_,hW,wi,rfl,by omega,bN (by omega) (by omega),λsp sp0 sp1=>⟨(show 4<=100000 by decide),?_⟩⟩
 have:=q nm (tx.map λs=>hd++s) st (1+sp) ⟨by omega,by rw[List.length_map];omega,tnm.1,?_,λs hs=>?_,λs hs=>?_,st1,st2,by omega,by omega⟩
 ·show R (.seq false [.seq false (nm.map sT),.seq false (tx.map λs=>sT (hd++s)),iT st,iT (1+sp)])
  rw[bQ,List.map_map]at this
  exact this
 ·unfold List.Nodup
  rw[List.pairwise_map]
  exact ttx.1.imp λh e=>h (zEy e)
 ·have:=tnm.2 s hs
  refine⟨this.1,?_⟩
  have:=this.2
  split at this<;>omega
 ·obtain⟨z,hz,rfl⟩:=List.mem_map.mp hs
  refine⟨shd.app (lt z hz).1,?_⟩
  rw[WordM.len,WordM.app,List.length_append,<-WordM.len,<-WordM.len]
  have:=(lt z hz).2
  omega
end
section
variable{P:Program}{w:World}{K:W.Frag}{mg:Str->Option Value}{base:Heap}
theorem zB0(b:Int)(h1:1<=b)(h2:b<=15):∃ms:List Str,([((1:Int),("figure":Str)),(2,"great"),(4,"other"),(8,"small")].filterMap λx=>if b / x.1 % 2=1 then some (sT x.2) else none)=ms.map sT/\ms.Sublist MK/\ms≠[]:=by
 have:b=1\/b=2\/b=3\/b=4\/b=5\/b=6\/b=7\/b=8\/b=9\/b=10\/b=11\/b=12\/b=13\/b=14\/b=15:=by omega
 rcases this with e|e|e|e|e|e|e|e|e|e|e|e|e|e|e<;>subst e
 ·exact⟨["figure"],rfl,by decide,by decide⟩
 ·exact⟨["great"],rfl,by decide,by decide⟩
 ·exact⟨["figure","great"],rfl,by decide,by decide⟩
 ·exact⟨["other"],rfl,by decide,by decide⟩
 ·exact⟨["figure","other"],rfl,by decide,by decide⟩
 ·exact⟨["great","other"],rfl,by decide,by decide⟩
 ·exact⟨["figure","great","other"],rfl,by decide,by decide⟩
 ·exact⟨["small"],rfl,by decide,by decide⟩
 ·exact⟨["figure","small"],rfl,by decide,by decide⟩
 ·exact⟨["great","small"],rfl,by decide,by decide⟩
 ·exact⟨["figure","great","small"],rfl,by decide,by decide⟩
 ·exact⟨["other","small"],rfl,by decide,by decide⟩
 ·exact⟨["figure","other","small"],rfl,by decide,by decide⟩
 ·exact⟨["great","other","small"],rfl,by decide,by decide⟩
 ·exact⟨["figure","great","other","small"],rfl,by decide,by decide⟩
structure MkD (h:Str) (a b:Int) (ms:List Str):Prop where
 h3:Sg h/\h.length<=3
 a0:0<=a
 a3:a<=3
 ab:a<=b
 b1:1<=b
 b6:b<=6
 sub:ms.Sublist MK
 ne:ms≠[]
theorem MkD.ok{h:Str}{a b:Int}{ms:List Str}(m:MkD h a b ms):WdOk (.make h a b ms):=⟨⟨m.h3.1,by have:=m.h3.2;omega⟩,m.a0,m.ab,m.b1,by have:=m.b6;omega,m.sub,m.ne⟩
def tS:PSp:=λas R=>as=[.dk]/\∀h a b ms,MkD h a b ms->R (cQ (.make h a b ms))
theorem C37_:bD ["_law_deck_here","_law_least","_law_most","_law_bits","_law_marks","_law_some"] ["_law_deck_here"] (aO pB):=fsc (by decide +kernel)
theorem zHv(h:Has K mg "_law_make" pB)(B:Own mg)(G30_:aG P w K mg base 2 "_law_take" ["_law_deck_here","_law_most"] eK)(G32_:aG P w K mg base 3 "_law_text" ["_law_deck_here","_law_most"] lC)   : aG P w K mg base 4 "_law_make" ["_law_deck_here"] tS:=by
 have nd:=C37_.nd
 refine h.pgood C37_ (fun|_,_,_,_,_,_,[_],_=>rfl) (λf cdv A outer s H E F hr=>
   (aE (aV 1 nd (aR G30_ hr (bK 0 (aA aD aC))))
   (aE (aV 2 nd (cX (zAm rfl) rfl B.max boot_max (aA aD (aA (aW bH (aB 1) (aR G30_ hr (bK 0 (aA aD aC)))) aC))))
   (aE (aV 3 nd (aW bH aD (aR G30_ hr (bK 0 (aA aD aC)))))
   (aE (aV 4 nd (bA (bM (aA aI (aA aI (aA aI (aA aI aC)))))))
   (aE (aV 5 nd (fM fN rfl B.tuple_ boot_tuple (aA (bA (yN (sc:=aO pB) (XN:=["_law_deck_here","_law_least","_law_most","_law_bits","_law_marks","_law_some"]) (N:=["_law_k","_law_mark_here","_law_bits"]) (own:=2) (fr:=[3]) rfl ⟨rfl,by decide +kernel,by decide +kernel,by decide +kernel,rfl,by decide +kernel,by decide,by decide +kernel⟩ (by decide) (yO rfl B.enumerate (aA (aB 4) aC)) (λ_ _ _ _ _=>(tM 2 rfl (jI (cN 0 (by decide) (show(["_law_k","_law_mark_here","_law_bits"]:List Str).Nodup by decide +kernel) rfl (by first|exact Or.inl rfl|exact Or.inr rfl)) (jI (cN 1 (by decide) (show(["_law_k","_law_mark_here","_law_bits"]:List Str).Nodup by decide +kernel) rfl (by first|exact Or.inl rfl|exact Or.inr rfl)) sC)))) (λ_ _ _ _ _=>(fR (bL hr (aW iO (aW sK (aB 2) (aH hr (bA (bM (aA aD (aA aD (aA aD (aA aD aC)))))) (aB 0))) aD) aD))) (λ_ _ _ _ _=>(aB 1)))) aC)))
   (aL (aQ (aJ (aA aI (aA (aR G32_ hr (bK 0 (aA aD aC))) (aA (aB 1) (aA (aB 2) (aA (aB 5) aC)))))))))))))) (λas R q=>?_)
 obtain⟨rfl,q⟩:=q
 refine⟨rfl,rfl,4,rfl,by decide,bN (by decide) (by decide),λa a0 a1=>?_⟩
 refine⟨rfl,4,rfl,by decide,bN (by decide) (by decide),λc c0 c1=>.inl ⟨_,_,rfl,?_⟩⟩
 refine⟨rfl,15,rfl,by decide,bN (by decide) (by decide),λd d0 d1=>⟨by decide,?_⟩⟩
 obtain⟨ms,e,sub,ne⟩:=zB0 (1+d) (by omega) (by omega)
 refine⟨_,rfl,by decide,?_⟩
 refine dQ (l:=[((1:Int),(0:Nat),("figure":Str)),(2,1,"great"),(4,2,"other"),(8,3,"small")]) (λx=>.seq true [iT (x.2.1:Nat),sT x.2.2]) (λx=>if (1+d) / x.1 % 2=1 then some (sT x.2.2) else none) (λx hx R q=>?_) ?_
 ·simp only[List.mem_cons,List.not_mem_nil,or_false]at hx
  rcases hx with rfl|rfl|rfl|rfl
  all_goals
   refine⟨_,rfl,rfl,_,_,rfl,_,_,rfl,rfl,by decide,_,rfl,⟨by decide,bN (by decide) (by decide)⟩,(show(0:Int)<2 by decide),_,rfl,?_⟩
   refine sif (λz=>?_) (λz=>?_)
   ·rw[if_pos (by simpa[eqV]using z)]at q;exact q
   ·rw[if_neg (by simpa[eqV]using z)]at q;exact q
 ·have e':([((1:Int),(0:Nat),("figure":Str)),(2,1,"great"),(4,2,"other"),(8,3,"small")].filterMap λx=>if (1+d) / x.1 % 2=1 then some (sT x.2.2) else none)=ms.map sT:=e
  rw[e']
  refine⟨_,_,rfl,rfl,3,rfl,by decide,by decide,λh sh lh=>⟨(show 5<=100000 by decide),q h a _ ms ⟨⟨sh,by omega⟩,a0,by omega,by omega,by omega,by omega,sub,ne⟩⟩⟩
theorem zDc{α:Type}{ps rs tx:List α}{j:Nat}{x:α}(h:(ps++rs).Perm tx)(e:rs[j]?=some x):((ps++[x])++rs.eraseIdx j).Perm tx:=by
 obtain⟨hj,rfl⟩:=List.getElem?_eq_some_iff.mp e
 refine List.Perm.trans ?_ h
 rw[List.append_assoc]
 exact List.Perm.append_left _ (mN rs j hj)
theorem wZ{α β:Type}(f:α->β):∀(l:List α) (i:Nat),(l.map f).eraseIdx i=(l.eraseIdx i).map f
 |[],_=>by simp
 |_::_,0=>by simp
 |a::l,i+1=>by simp[wZ f l i]
end
end My
namespace My
open PySem L2 PyProof.Rows WordM
section
variable{P:Program}{w:World}{K:W.Frag}{mg:Str->Option Value}{base:Heap}
def WdW:Wd->Prop
 |.few ts=>1<=ts.length/\ts.length<=6/\gM ts/\∀t∈ts,Sg t/\t.length<=200
 |.make h a b ms=>(Sg h/\h.length<=60)/\0<=a/\a<=b/\1<=b/\b<=110/\ms.Sublist MK/\ms≠[]
theorem WdOk.wk:∀{W:Wd},WdOk W->WdW W
 |.few _,⟨a,b,c,d⟩=>⟨a,b,c,λt ht=>⟨(d t ht).1,Nat.le_trans (d t ht).2 (by decide)⟩⟩
 |.make ..,⟨a,b,c,d,e,f⟩=>⟨⟨a.1,Nat.le_trans a.2 (by decide)⟩,b,c,d,Int.le_trans e (by decide),f⟩
def kL(lo hi st:Int):Prop:=lo<=hi/\0<=st/\(st=0↔lo=hi)/\(st≠0->(hi-lo) % st=0)
def rQ:PSp:=λas R=>∃lo hi st i:Int,as=[.va (.seq true [iT lo,iT hi,iT st]),.va (iT i)]/\kL lo hi st/\R (bT (cT lo hi st i))
theorem C0_:bD ["run","number"] ["run","number"] (aO s0_):=fsc (by decide +kernel)
theorem g0_(h:Has K mg "run_has" s0_)(B:Own mg)    : aG P w K mg base 1 "run_has" ["run","number"] rQ:=by
 have nd:=C0_.nd
 refine h.pgood C0_ (fun|_,_,_,_,_,_,[_,_],_=>rfl) (λf cdv A outer s H E F hr=>
   (aE (bC (bL hr (aH hr (aB 0) aD) aD)
    (aL (aQ (eX (lI hr.units).op (aB 1) (aH hr (aB 0) aD))))
    bB)
   (aL (aQ (nX (xP iV iV (aH hr (aB 0) aD) (aB 1) (aH hr (aB 0) aD)) (nV (eX (lI hr.units).op (aW iO (aW iN (aB 1) (aH hr (aB 0) aD)) (aH hr (aB 0) aD)) aD))))))) (λas R q=>?_)
 obtain⟨lo,hi,st,i,rfl,ok,q⟩:=q
 obtain⟨h4,h5,h6,h7⟩:=ok
 refine⟨rfl,_,rfl,_,rfl,dE (λz=>?_) (λz=>?_)⟩
 ·have e:=h6.mp z
  subst z e
  refine⟨_,rfl,?_⟩
  have:cT lo lo 0 i=(false != eqV (.int i) (.int lo)):=by
   unfold cT
   by_cases h:i=lo
   ·subst h;simp[eqV]
   ·have h':¬ (lo<=i/\i<=lo):=by omega
    have:(decide (lo<=i)&&decide (i<=lo))=false:=by
     rw[Bool.eq_false_iff];intro z;rw[Bool.and_eq_true,decide_eq_true_iff,decide_eq_true_iff]at z;exact h' z
    rw[this]
    simp[eqV,h]
  rw[this]at q
  exact q
 ·have hmax:max 1 st=st:=by omega
  refine⟨_,rfl,_,rfl,dZ (λa=>⟨_,rfl,_,rfl,dZ (λb=>?_) (λb=>?_)⟩) (λa=>⟨false,rfl,bF ?_⟩)⟩
  ·refine⟨_,rfl,_,rfl,(show(0:Int)<st by omega),?_⟩
   have:cT lo hi st i=(false != eqV (.int ((i-lo) % st)) (.int 0)):=by
    unfold cT
    rw[decide_eq_true a,decide_eq_true b,hmax]
    simp[eqV,Bool.beq_eq_decide_eq]
   rw[this]at q
   exact q
  ·have:cT lo hi st i=false:=by unfold cT;rw[decide_eq_false b];simp
   rw[this]at q
   exact q
  ·have:cT lo hi st i=false:=by unfold cT;rw[decide_eq_false a];simp
   rw[this]at q
   exact q
def qS:PSp:=λas R=>∃x m:Str,as=[.va (sT x),.va (sT m)]/\m∈MK/\x.length<=1000/\R (bT (gP x m))
theorem C4_:bD ["text","mark"] ["text","mark"] (aO s4_):=fsc (by decide +kernel)
theorem g4_(h:Has K mg "has_mark" s4_)(B:Own mg)(GSIGNS:iW K w.params mg "SIGNS" SGN)  : aG P w K mg base 1 "has_mark" ["text","mark"] qS:=by
 have nd:=C4_.nd
 refine h.pgood C4_ (fun|_,_,_,_,_,_,[_,_],_=>rfl) (λf cdv A outer s H E F hr=>
   (aL (aQ (cX (zE3 rfl) rfl B.any boot_any (aA (bA (eM (sc:=aO s4_) (XN:=["text","mark"]) (N:=["sign","mark"]) (fr:=[1]) (bR (aB 0)) (λ_ _ _ _ _=>(eX (gJ hr.units).op (aB 0) (lG GSIGNS rfl (aB 1)) rfl)))) aC))))) (λas R q=>?_)
 obtain⟨x,m,rfl,hm,hx,q⟩:=q
 obtain⟨S,hS⟩:∃S,getS SGN m=some S:=by
  simp only[MK,List.mem_cons,List.not_mem_nil,or_false]at hm
  rcases hm with e|e|e|e<;>subst e<;>exact⟨_,rfl⟩
 refine⟨rfl,by rw[List.length_map,<-WordM.len];omega,?_⟩
 refine cM (λc=>sT ⟨#[c]⟩) (λc=>bT (decide (c∈cs S))) (λc hc R q=>⟨m,S,rfl,hS,?_⟩) ?_
 ·have e:(false != inS ⟨#[c]⟩ S)=decide (c∈cs S):=by
   unfold inS
   rw[StrLaws.found_one]
   simp
  show R (some (bT (false != inS ⟨#[c]⟩ S))) _
  rw[e]
  exact q
 ·refine⟨(cs x).map λc=>decide (c∈cs S),by rw[List.map_map];rfl,?_⟩
  have e:((cs x).map λc=>decide (c∈cs S)).any id=gP x m:=by
   rw[List.any_map,gP,hS]
   rfl
  rw[e]
  exact q
def qQ:PSp:=λas R=>∃x:Str,as=[.va (sT x)]/\x.length<=1000/\R (.seq true ((iR x).map sT))
theorem C5_:bD ["text"] ["text"] (aO s5_):=fsc (by decide +kernel)
theorem g5_(h:Has K mg "marks_of" s5_)(B:Own mg)(G4_:aG P w K mg base 1 "has_mark" ["text","mark"] qS)(GMARKS:fJ K mg "MARKS" (.seq true (MK.map sT)))  : aG P w K mg base 2 "marks_of" ["text"] qQ:=by
 have nd:=C5_.nd
 refine h.pgood C5_ (fun|_,_,_,_,_,_,[_],_=>rfl) (λf cdv A outer s H E F hr=>
   (aL (aQ (fM fN rfl B.tuple_ boot_tuple (aA (bA (gI (sc:=aO s5_) (XN:=["text"]) (N:=["mark","text"]) (fr:=[0]) (bR (oK GMARKS rfl)) (λ_ _ _ _ _=>(fR (dN (aR G4_ hr (aA (aB 1) (aA (aB 0) aC)))))) (λ_ _ _ _ _=>(aB 0)))) aC))))) (λas R q=>?_)
 obtain⟨x,rfl,hx,q⟩:=q
 refine⟨rfl,by decide,?_⟩
 refine dQ (l:=MK) sT (λm=>if gP x m=true then some (sT m) else none) (λm hm R q=>⟨x,m,rfl,hm,hx,_,rfl,sif (λz=>?_) (λz=>?_)⟩) ?_
 ·rw[if_pos z]at q;exact q
 ·rw[if_neg (by rw[z];exact Bool.false_ne_true)]at q;exact q
 ·refine⟨false,_,rfl,?_⟩
  have e:(MK.filterMap λm=>if gP x m=true then some (sT m) else none)=(iR x).map sT:=by
   unfold iR
   generalize MK=l
   induction l with
   |nil=>rfl
   |cons a l ih=>
    rw[List.filterMap_cons,List.filter_cons,ih]
    cases gP x a<;>simp
  rw[e]
  exact q
def mK:PSp:=λas R=>∃(W:Wd) (x:Str),as=[.va (cQ W),.va (sT x)]/\WdW W/\Sg x/\x.length<=1000/\R (bT (bP W x))
theorem C6_:bD ["words","text","tail"] ["words","text"] (aO s6_):=fsc (by decide +kernel)
theorem g6_(h:Has K mg "words_let" s6_)(B:Own mg)(G5_:aG P w K mg base 2 "marks_of" ["text"] qQ)   : aG P w K mg base 3 "words_let" ["words","text"] mK:=by
 have nd:=C6_.nd
 refine h.pgood C6_ (fun|_,_,_,_,_,_,[_,_],_=>rfl) (λf cdv A outer s H E F hr=>
   (aE (bC (bL hr (aH hr (aB 0) aD) aI)
    (aL (aQ (eX (gJ hr.units).op (aB 1) (aH hr (aB 0) aD) rfl)))
    bB)
   (aE (bC (fS (dN (nW PySem.F.slot_str_startswith PySem.F.type_str_startswith zCn (aB 1) (aA (aH hr (aB 0) aD) aC))))
    (aL (aQ cO))
    bB)
   (aE (aV 2 nd (cE cG (aB 1) (cD (cX eJ rfl B.len PySem.boot_len (aA (aH hr (aB 0) aD) aC))) cJ))
   (aL (aQ (nX (xP iV iV (aH hr (aB 0) aD) (cX eJ rfl B.len PySem.boot_len (aA (aB 2) aC)) (aH hr (aB 0) aD)) (nV (cX (zAn rfl) rfl B.all boot_all (aA (bA (eM (sc:=aO s6_) (XN:=["words","text","tail"]) (N:=["mark","words"]) (fr:=[0]) (bR (aR G5_ hr (aA (aB 2) aC))) (λ_ _ _ _ _=>(eX (gJ hr.units).op (aB 0) (aH hr (aB 1) aD) rfl)))) aC)))))))))) (λas R q=>?_)
 obtain⟨W,x,rfl,ok,sx,lx,q⟩:=q
 refine⟨rfl,?_⟩
 cases W with
 |few ss=>
  refine⟨_,rfl,_,rfl,fV (λ_=>⟨_,rfl,gD,?_⟩) (λh=>absurd rfl h)⟩
  rw[gE]
  have:(false != decide (x∈ss))=bP (.few ss) x:=by simp[bP]
  rw[this]
  exact q
 |make hd lo hi ms=>
  have hhd:hd.length<=60:=ok.1.2
  refine⟨_,rfl,_,rfl,fV (λh=>absurd h (by decide +kernel)) (λ_=>?_)⟩
  have q':∀b,bP (.make hd lo hi ms) x=b->R (bT b):=λb e=>e▸q
  refine⟨rfl,_,rfl,_,_,rfl,rfl,_,rfl,?_⟩
  refine sif (λh1=>?_) (λh1=>?_)
  ·have h1:stW x hd=false:=by
    have h1:(!(stW x hd))=true:=h1
    simpa using h1
   refine q' _ ?_
   show(stW x hd&&_)=false
   rw[h1];rfl
  ·have h1:stW x hd=true:=by
    have h1:(!(stW x hd))=false:=h1
    simpa using h1
   refine⟨_,rfl,by omega,_,rfl,by omega,?_⟩
   have hrl:(dP x hd).length<=1000:=Nat.le_trans (WordM.slice_len ..) lx
   refine⟨_,rfl,by show(dP x hd).length<=100000;omega,_,rfl,dZ (λh2=>⟨_,rfl,_,rfl,dZ (λh3=>?_) (λh3=>?_)⟩) (λh2=>⟨false,rfl,bF ?_⟩)⟩
   ·have h2:lo<=((dP x hd).length:Int):=h2
    have h3:((dP x hd).length:Int)<=hi:=h3
    refine⟨_,rfl,hrl,by rw[List.length_map];exact Nat.le_trans (List.length_filter_le _ _) (by decide),?_⟩
    refine cM sT (λm=>bT (decide (m∈ms))) (λm hm R q=>⟨_,rfl,gD,?_⟩) ?_
    ·rw[gE]
     have:(false != decide (m∈ms))=decide (m∈ms):=by simp
     rw[this];exact q
    ·refine⟨(iR (dP x hd)).map λm=>decide (m∈ms),by rw[List.map_map];rfl,q' _ ?_⟩
     show(stW x hd&&_)=_
     rw[h1,decide_eq_true h2,decide_eq_true h3,<-zCv (x:=dP x hd) (sx.slice _ _) ms,List.all_map]
     rfl
   ·have h3:¬ ((dP x hd).length:Int)<=hi:=h3
    refine q' _ ?_
    show(stW x hd&&_)=_
    rw[decide_eq_false h3];simp
   ·have h2:¬ lo<=((dP x hd).length:Int):=h2
    refine q' _ ?_
    show(stW x hd&&_)=_
    rw[decide_eq_false h2];simp
end
end My
namespace My
open PySem L2 PyProof.Rows WordM
section
variable{P:Program}{w:World}{K:W.Frag}{mg:Str->Option Value}{base:Heap}
variable{n:Nat}
def vQ:List (Str×Str):=[("nothing","nothing"),("truths","truth"),("numbers","number"),("texts","text"),("lists","list"),("record","dict"),("table","dict")]
theorem at0{α:Type}{x:α}{r:List α}:atI (x::r) 0=some x:=aY (j:=0) rfl
theorem iI(p:Pt):∃r,aN p=.seq true (sT (bW p)::r)/\r.length<=4:=by
 cases p with
 |record a b fs=>exact⟨_,bJ a b fs,by simp⟩
 |lists a b f=>exact⟨_,eG a b f,by simp⟩
 |table a b w f=>exact⟨_,cW a b w f,by simp⟩
 |_=>rw[aN];exact⟨_,rfl,by simp⟩
theorem zFu(p:Pt):getS vQ (bW p)=some (cU (aZ p)):=by
 cases p<;>rfl
def qD:PSp:=λas R=>∃p:Pt,as=[.va (aN p)]/\R (sT (cU (aZ p)))
theorem C15_:bD ["part"] ["part"] (aO vF):=fsc (by decide +kernel)
theorem zHO(h:Has K mg "part_kind" vF)(B:Own mg)(GPART_KINDS:iW K w.params mg "PART_KINDS" vQ)  : aG P w K mg base 1 "part_kind" ["part"] qD:=by
 have nd:=C15_.nd
 refine h.pgood C15_ (fun|_,_,_,_,_,_,[_],_=>rfl) (λf cdv A outer s H E F hr=>
   (aL (aQ (lG GPART_KINDS rfl (aH hr (aB 0) aD))))) (λas R q=>?_)
 obtain⟨p,rfl,q⟩:=q
 obtain⟨r,e,_⟩:=iI p
 rw[e]
 exact⟨rfl,_,at0,_,_,rfl,zFu p,q⟩
theorem zCz{a b:Nat}(ha:a<=5)(hb:b<=5)(h:cU a=cU b):a=b:=by
 have h1:a=0\/a=1\/a=2\/a=3\/a=4\/a=5:=by omega
 have h2:b=0\/b=1\/b=2\/b=3\/b=4\/b=5:=by omega
 rcases h1 with e|e|e|e|e|e<;>subst e<;>rcases h2 with e|e|e|e|e|e<;>subst e<;>first|rfl|exact absurd h (by decide +kernel)
theorem zDn(p:Pt):aZ p<=5:=by cases p<;>simp[aZ]
def eZ:Option Pt->Tv
 |none=>nT
 |some p=>aN p
def mT:PSp:=λas R=>∃(f:List Pt) (k:Nat),as=[.va (aX f),.va (sT (cU k))]/\k<=5/\R (eZ (f.find? λp=>decide (aZ p=k)))
theorem C16_:bD ["form","kind","part"] ["form","kind"] (aO vE):=fsc (by decide +kernel)
theorem zHN(h:Has K mg "part_for" vE)(B:Own mg)(G15_:aG P w K mg base 1 "part_kind" ["part"] qD)   : aG P w K mg base 2 "part_for" ["form","kind"] mT:=by
 have nd:=C16_.nd
 refine h.pgood C16_ (fun|_,_,_,_,_,_,[_,_],_=>rfl) (λf cdv A outer s H E F hr=>
   (aE (eC (m:=3) PassesOwn.never rfl (bR (aB 0)) (cN 2 (by decide) nd rfl (.inl rfl))
    (aL (bC (bL hr (aR G15_ hr (aA (aB 2) aC)) (aB 1))
     (aL (aQ (aB 2)))
     bB)))
   (aL (aQ eD)))) (λas R q=>?_)
 obtain⟨f,k,rfl,hk,q⟩:=q
 refine⟨rfl,?_⟩
 refine nR aN (l:=f) (λi ρ=>(∀j p,j<i->f[j]?=some p->aZ p≠k)/\∃s,ρ=[.va (aX f),.va (sT (cU k)),s]) ⟨λj p h=>absurd h (Nat.not_lt_zero _),.no,rfl⟩ ?_ ?_
 ·rintro i p _ N hp ⟨hj,s,rfl⟩ hN
  refine⟨p,rfl,_,rfl,fV (λe=>?_) (λe=>?_)⟩
  ·have e:=zCz (zDn p) hk e
   have:f.find? (λp=>decide (aZ p=k))=some p:=by
    rw[List.find?_eq_some_iff_getElem]
    obtain⟨hi,rfl⟩:=List.getElem?_eq_some_iff.mp hp
    exact⟨decide_eq_true e,i,hi,rfl,λj hj'=>by
     have:=hj j f[j] hj' (List.getElem?_eq_getElem (by omega))
     simpa using this⟩
   rw[this]at q
   exact q
  ·refine hN _ ⟨λj p' hj' ep=>?_,_,rfl⟩
   by_cases z:j=i
   ·subst z;rw[hp]at ep;cases ep;exact λz=>e (by rw[z])
   ·exact hj j p' (by omega) ep
 ·rintro _ ⟨hj,s,rfl⟩
  have:f.find? (λp=>decide (aZ p=k))=none:=by
   rw[List.find?_eq_none]
   intro p hp
   obtain⟨j,hj',rfl⟩:=List.mem_iff_getElem.mp hp
   simpa using hj j _ hj' (List.getElem?_eq_getElem hj')
  rw[this]at q
  exact q
end
end My
namespace My
open PySem L2 PyProof.Rows WordM
section
variable{P:Program}{w:World}{K:W.Frag}{mg:Str->Option Value}{base:Heap}
open WordM ShowM
theorem letW_make{hd x:Str}{lo hi:Int}{ms:List Str}:bP (.make hd lo hi ms) x=true↔MkL dA (cs hd) lo hi ms (cs x):=by
 unfold bP MkL
 rw[Bool.and_eq_true,Bool.and_eq_true,Bool.and_eq_true,decide_eq_true_iff,decide_eq_true_iff,List.all_eq_true,zDM,WordM.len]
 constructor
 ·rintro⟨⟨r,e⟩,⟨h1,h2⟩,h3⟩
  rw[rK e]at h1 h2 h3
  exact⟨r,e,h1,h2,λc hc=>of_decide_eq_true (h3 c hc)⟩
 ·rintro⟨r,e,h1,h2,h3⟩
  rw[rK e]
  exact⟨⟨r,e⟩,⟨h1,h2⟩,λc hc=>decide_eq_true (h3 c hc)⟩
def uK(W:Wd)(ts:List Str):Prop:=(∀t∈ts,bP W t=true/\Sg t/\t.length<=400)/\∀W2,WdW W2->(∀t∈ts,bP W2 t=true)->∀x,bP W x=true->bP W2 x=true
theorem zCg{ss:List Str}(h:WdW (.few ss)):uK (.few ss) ss:=
 ⟨λt ht=>⟨decide_eq_true ht,(h.2.2.2 t ht).1,Nat.le_trans (h.2.2.2 t ht).2 (by decide)⟩,λW2 _ k x hx=>k x (of_decide_eq_true hx)⟩
theorem zBM{hd:Str}{lo hi:Int}{ms:List Str}{ts:List Str}(T:Tells dA (cs hd) lo hi ms (ts.map cs))(h:∀t∈ts,bP (.make hd lo hi ms) t=true/\Sg t/\t.length<=400):uK (.make hd lo hi ms) ts:=by
 refine⟨h,λW2 ok k x hx=>?_⟩
 cases W2 with
 |few ss=>
  refine(T.few (ss:=ss.map cs) (by rw[List.length_map];exact ok.2.1) λy hy=>?_).elim
  obtain⟨t,ht,rfl⟩:=List.mem_map.mp hy
  exact List.mem_map.mpr ⟨t,of_decide_eq_true (k t ht),rfl⟩
 |make hd2 lo2 hi2 ms2=>
  rw[letW_make]at hx ⊢
  refine T.make (λy hy=>?_) _ hx
  obtain⟨t,ht,rfl⟩:=List.mem_map.mp hy
  exact letW_make.mp (k t ht)
def cB(c:Nat)(n:Int):Str:=fX ⟨#[c]⟩ n
theorem dS(c:Nat)(n:Int):cs (cB c n)=List.replicate n.toNat c:=by
 show((List.replicate n.toNat [c]).flatten.toArray).toList=_
 rw[List.toList_toArray]
 induction n.toNat with
 |zero=>rfl
 |succ k ih=>rw[List.replicate_succ,List.flatten_cons,ih,List.replicate_succ];rfl
theorem nG(c:Nat)(n:Int):(cB c n).length=n.toNat:=by rw[WordM.len,dS,List.length_replicate]
theorem zAh{c:Nat}(h:c∈cs SIG)(n:Int):Sg (cB c n):=λd hd=>by
 rw[dS]at hd
 rw[(List.mem_replicate.mp hd).2]
 exact h
def dR(m:Str):List Nat:=cs ((L2.getS SGN m).getD ⟨#[]⟩)
def sgM:List Str->List Nat
 |[]=>[]
 |m::r=>(dR m).take 7++r.map λm=>(dR m).headD 0
def zGt(ms:List Str):List Nat:=(cs SIG).filter λc=>decide (dA c∈ms)
structure oU (ms:List Str) (G:List Nat):Prop where
 many:7<=G.length
 nd:G.Nodup
 cov:∀m∈ms,∃c∈G,dA c=m
 mine:∀c∈G,dA c∈ms
 sg:∀c∈G,c∈cs SIG
instance (ms:List Str) (G:List Nat):Decidable (oU ms G):=
 decidable_of_iff (7<=G.length/\G.Nodup/\(∀m∈ms,∃c∈G,dA c=m)/\(∀c∈G,dA c∈ms)/\∀c∈G,c∈cs SIG) ⟨λ⟨a,b,c,d,e⟩=>⟨a,b,c,d,e⟩,λ⟨a,b,c,d,e⟩=>⟨a,b,c,d,e⟩⟩
def zAT(a b c d:Bool):List Str:=(if a then [("figure":Str)] else [])++((if b then [("great":Str)] else [])++((if c then [("other":Str)] else [])++(if d then [("small":Str)] else [])))
theorem nA{x:Str}{l ms:List Str}(h:ms.Sublist (x::l)):∃(a:Bool) (ms':List Str),ms'.Sublist l/\ms=(if a then [x] else [])++ms':=by
 cases h with
 |cons _ h=>exact⟨false,_,h,rfl⟩
 |cons_cons _ h=>exact⟨true,_,h,rfl⟩
theorem zAd{ms:List Str}(h:ms.Sublist MK):∃a b c d,ms=zAT a b c d:=by
 obtain⟨a,m1,h1,e1⟩:=nA h
 obtain⟨b,m2,h2,e2⟩:=nA h1
 obtain⟨c,m3,h3,e3⟩:=nA h2
 obtain⟨d,m4,h4,e4⟩:=nA h3
 have e5:=List.sublist_nil.mp h4
 exact⟨a,b,c,d,by rw[e1,e2,e3,e4,e5];unfold zAT;rw[List.append_nil]⟩
theorem rG{ms:List Str}(h1:ms.Sublist MK)(h2:ms≠[]):oU ms (sgM ms)/\oU ms (zGt ms)/\(sgM ms).length<=10:=by
 obtain⟨a,b,c,d,rfl⟩:=zAd h1
 revert h2
 cases a<;>cases b<;>cases c<;>cases d<;>intro h2<;>first|exact absurd rfl h2|decide +kernel
def jR:Wd->List Str
 |.few ss=>ss
 |.make hd lo hi ms=>((sgM ms).map λc=>hd++cB c hi)++(if lo<hi then [hd++cB ((sgM ms).headD 0) lo] else [])
theorem kX{G:List Nat}(h:7<=G.length):G.headD 0∈G:=by
 cases G with
 |nil=>simp at h
 |cons c G=>exact List.mem_cons_self
theorem zK{hd:Str}{lo hi n:Int}{ms:List Str}{G:List Nat}(S:oU ms G)(shd:Sg hd)(hl:hd.length<=60){c:Nat}(hc:c∈G)(h0:0<=n)(h1:lo<=n)(h2:n<=hi)(h3:hi<=110):
  bP (.make hd lo hi ms) (hd++cB c n)=true/\Sg (hd++cB c n)/\(hd++cB c n).length<=400:=by
 refine⟨letW_make.mpr ⟨_,by rw[WordM.app,dS],?_,?_,λd hd=>?_⟩,shd.app (zAh (S.sg c hc) n),?_⟩
 ·rw[List.length_replicate];omega
 ·rw[List.length_replicate];omega
 ·rw[(List.mem_replicate.mp hd).2];exact S.mine c hc
 ·rw[WordM.len,WordM.app,List.length_append,<-WordM.len,<-WordM.len,nG];omega
theorem wF:∀{W:Wd},WdW W->uK W (jR W)
 |.few ss,h=>zCg h
 |.make hd lo hi ms,⟨⟨shd,hl⟩,lo0,lohi,hi1,hi62,b1,b2⟩=>by
  obtain⟨S,_,_⟩:=rG b1 b2
  have m1:∀g∈sgM ms,hd++cB g hi∈jR (.make hd lo hi ms):=λg hg=>List.mem_append_left _ (List.mem_map.mpr ⟨g,hg,rfl⟩)
  refine zBM ⟨⟨hi.toNat,sgM ms,by omega,S.many,S.nd,S.cov,λg hg=>?_⟩,?_,?_⟩ λt ht=>?_
  ·exact List.mem_map.mpr ⟨_,m1 g hg,by rw[WordM.app,dS]⟩
  ·by_cases h:lo<hi
   ·refine⟨List.replicate lo.toNat ((sgM ms).headD 0),by rw[List.length_replicate];omega,List.mem_map.mpr ⟨hd++cB ((sgM ms).headD 0) lo,?_,by rw[WordM.app,dS]⟩⟩
    show _∈_++(if lo<hi then _ else _)
    rw[if_pos h]
    exact List.mem_append_right _ List.mem_cons_self
   ·exact⟨List.replicate hi.toNat ((sgM ms).headD 0),by rw[List.length_replicate];omega,List.mem_map.mpr ⟨_,m1 _ (kX S.many),by rw[WordM.app,dS]⟩⟩
  ·exact⟨List.replicate hi.toNat ((sgM ms).headD 0),by rw[List.length_replicate];omega,List.mem_map.mpr ⟨_,m1 _ (kX S.many),by rw[WordM.app,dS]⟩⟩
  ·have ht:t∈((sgM ms).map λc=>hd++cB c hi)++(if lo<hi then [hd++cB ((sgM ms).headD 0) lo] else []):=ht
   rcases List.mem_append.mp ht with z|z
   ·obtain⟨c,hc,rfl⟩:=List.mem_map.mp z
    exact zK S shd hl hc (by omega) lohi (by omega) hi62
   ·split at z
    ·have:t=hd++cB ((sgM ms).headD 0) lo:=by simpa using z
     subst this
     exact zK S shd hl (kX S.many) lo0 (by omega) lohi hi62
    ·simp at z
def dW(W W2:Wd):Option Str:=(jR W).find? λt=>!bP W2 t
end
end My
namespace My
open PySem L2 PyProof.Rows WordM
section
variable{P:Program}{w:World}{K:W.Frag}{mg:Str->Option Value}{base:Heap}
open WordM ShowM
theorem nxE{N:aT->Prop}{ρ ρ':aT}(e:ρ=ρ')(h:N ρ'):N ρ:=e▸h
def gL(lo hi st:Int):List Int:=[lo,hi,lo+st]
def qO:PSp:=λas R=>∃lo hi st:Int,as=[.va (.seq true [iT lo,iT hi,iT st])]/\R (.seq false ((gL lo hi st).map iT))
theorem C1_:bD ["run"] ["run"] (aO s1_):=fsc (by decide +kernel)
theorem g1_(h:Has K mg "telling_numbers" s1_)(B:Own mg)    : aG P w K mg base 1 "telling_numbers" ["run"] qO:=by
 have nd:=C1_.nd
 refine h.pgood C1_ (fun|_,_,_,_,_,_,[_],_=>rfl) (λf cdv A outer s H E F hr=>
   (aL (aQ (bA (bM (aA (aH hr (aB 0) aD) (aA (aH hr (aB 0) aD) (aA (aW bH (aH hr (aB 0) aD) (aH hr (aB 0) aD)) aC)))))))) (λas R q=>?_)
 obtain⟨lo,hi,st,rfl,q⟩:=q
 exact⟨rfl,_,rfl,_,rfl,_,rfl,_,rfl,by simp,q⟩
def zHg:Option Int->Tv
 |none=>nT
 |some i=>iT i
def qB:PSp:=λas R=>∃lo hi st lo' hi' st':Int,as=[.va (.seq true [iT lo,iT hi,iT st]),.va (.seq true [iT lo',iT hi',iT st'])]/\kL lo' hi' st'/\R (zHg ((gL lo hi st).find? λi=>!cT lo' hi' st' i))
theorem C2_:bD ["one","other","number"] ["one","other"] (aO s2_):=fsc (by decide +kernel)
theorem g2_(h:Has K mg "run_parted" s2_)(B:Own mg)(G1_:aG P w K mg base 1 "telling_numbers" ["run"] qO)(G0_:aG P w K mg base 1 "run_has" ["run","number"] rQ)   : aG P w K mg base 2 "run_parted" ["one","other"] qB:=by
 have nd:=C2_.nd
 refine h.pgood C2_ (fun|_,_,_,_,_,_,[_,_],_=>rfl) (λf cdv A outer s H E F hr=>
   (aE (eC (m:=3) PassesOwn.never rfl (bR (aR G1_ hr (aA (aB 0) aC))) (cN 2 (by decide) nd rfl (.inl rfl))
    (aL (bC (fS (dN (aR G0_ hr (aA (aB 1) (aA (aB 2) aC)))))
     (aL (aQ (aB 2)))
     bB)))
   (aL (aQ eD)))) (λas R q=>?_)
 obtain⟨lo,hi,st,lo',hi',st',rfl,ok,q⟩:=q
 refine⟨rfl,lo,hi,st,rfl,?_⟩
 generalize gL lo hi st=l at q
 refine nR iT (l:=l) (λi ρ=>(∀j x,j<i->l[j]?=some x->cT lo' hi' st' x=true)/\∃s,ρ=[.va (.seq true [iT lo,iT hi,iT st]),.va (.seq true [iT lo',iT hi',iT st']),s]) ⟨λj p h=>absurd h (Nat.not_lt_zero _),.no,rfl⟩ ?_ ?_
 ·rintro i x _ N hx ⟨hj,s,rfl⟩ hN
  refine⟨lo',hi',st',x,rfl,ok,_,rfl,sif (λe=>?_) (λe=>?_)⟩
  ·have e:cT lo' hi' st' x=false:=by simpa using e
   have:l.find? (λi=>!cT lo' hi' st' i)=some x:=by
    rw[List.find?_eq_some_iff_getElem]
    obtain⟨hi,rfl⟩:=List.getElem?_eq_some_iff.mp hx
    exact⟨by rw[e];rfl,i,hi,rfl,λj hj'=>by
     have:=hj j l[j] hj' (List.getElem?_eq_getElem (by omega))
     simpa using this⟩
   rw[this]at q
   exact q
  ·have e:cT lo' hi' st' x=true:=by simpa using e
   refine hN _ ⟨λj p' hj' ep=>?_,_,rfl⟩
   by_cases z:j=i
   ·subst z;rw[hx]at ep;cases ep;exact e
   ·exact hj j p' (by omega) ep
 ·rintro _ ⟨hj,s,rfl⟩
  have:l.find? (λi=>!cT lo' hi' st' i)=none:=by
   rw[List.find?_eq_none]
   intro p hp
   obtain⟨j,hj',rfl⟩:=List.mem_iff_getElem.mp hp
   simpa using hj j _ hj' (List.getElem?_eq_getElem hj')
  rw[this]at q
  exact q
def fI(lo hi st lo' hi' st':Int):Bool:=(gL lo hi st).all λi=>cT lo' hi' st' i
theorem yH{α:Type}{l:List α}{p:α->Bool}:(l.find? λx=>!p x).isNone=l.all p:=by
 rw[Bool.eq_iff_iff,Option.isNone_iff_eq_none,List.find?_eq_none,List.all_eq_true]
 simp
def qA:PSp:=λas R=>∃lo hi st lo' hi' st':Int,as=[.va (.seq true [iT lo,iT hi,iT st]),.va (.seq true [iT lo',iT hi',iT st'])]/\kL lo' hi' st'/\R (bT (fI lo hi st lo' hi' st'))
theorem C3_:bD ["one","other"] ["one","other"] (aO s3_):=fsc (by decide +kernel)
theorem g3_(h:Has K mg "run_within" s3_)(B:Own mg)(G2_:aG P w K mg base 2 "run_parted" ["one","other"] qB)   : aG P w K mg base 3 "run_within" ["one","other"] qA:=by
 have nd:=C3_.nd
 refine h.pgood C3_ (fun|_,_,_,_,_,_,[_,_],_=>rfl) (λf cdv A outer s H E F hr=>
   (aL (aQ (eX (jX).op (aR G2_ hr (aA (aB 0) (aA (aB 1) aC))) eD)))) (λas R q=>?_)
 obtain⟨lo,hi,st,lo',hi',st',rfl,ok,q⟩:=q
 unfold fI at q
 rw[<-yH]at q
 refine⟨rfl,lo,hi,st,lo',hi',st',rfl,ok,?_⟩
 cases h:(gL lo hi st).find? λi=>!cT lo' hi' st' i with
 |none=>rw[h]at q;exact q
 |some i=>rw[h]at q;exact q
theorem zAS:∀m∈MK,cs (Txt.slice ((getS SGN m).getD ⟨#[]⟩) none (some (6+1)))=(dR m).take 7/\atI (dR m) 0=some ((dR m).headD 0)/\((getS SGN m).getD ⟨#[]⟩).length<=100/\getS SGN m=some ((getS SGN m).getD ⟨#[]⟩):=by decide +kernel
theorem xH{α:Type}(f:α->Nat):∀r:List α,bI (r.map λm=>(⟨#[f m]⟩:Str))=r.map f
 |[]=>rfl
 |m::r=>by
  have ih:=xH f r
  show [f m]++bI (r.map λm=>(⟨#[f m]⟩:Str))=_
  rw[ih]
  rfl
def sP:PSp:=λas R=>∃W:Wd,as=[.va (cQ W)]/\WdW W/\R (.seq false ((jR W).map sT))
theorem C10_:bD ["words","head","marks","signs","texts"] ["words"] (aO mD):=fsc (by decide +kernel)
theorem zHT(h:Has K mg "words_texts" mD)(B:Own mg)(GMOST_FEW:fJ K mg "MOST_FEW" (iT 6))(GSIGNS:iW K w.params mg "SIGNS" SGN)  : aG P w K mg base 1 "words_texts" ["words"] sP:=by
 have nd:=C10_.nd
 refine h.pgood C10_ (fun|_,_,_,_,_,_,[_],_=>rfl) (λf cdv A outer s H E F hr=>
   (aE (bC (bL hr (aH hr (aB 0) aD) aI)
    (aL (aQ (bA (qH qM rfl B.list_ boot_list (aA (aH hr (aB 0) aD) aC)))))
    bB)
   (aE (aV 1 nd (aH hr (aB 0) aD))
   (aE (aV 2 nd (aH hr (aB 0) aD))
   (aE (aV 3 nd (aW bH (cE cG (lG GSIGNS rfl (aH hr (aB 2) aD)) cJ (cD (aW bH (oK GMOST_FEW rfl) aD))) (nW PySem.F.slot_str_join PySem.F.type_str_join yY aI (aA (bA (eM (sc:=aO mD) (XN:=["words","head","marks","signs","texts"]) (N:=["mark"]) (fr:=[]) (bR (cE cG (aB 2) (cD aD) cJ)) (λ_ _ _ _ _=>(aH hr (lG GSIGNS rfl (aB 0)) aD)))) aC))))
   (aE (zDE (i:=4) (sc:=aO mD) (XN:=["words","head","marks","signs","texts"]) (N:=["sign","words","head"]) (own:=1) (fr:=[0,1]) rfl nd rfl (.inl rfl) ⟨rfl,by decide +kernel,by decide +kernel,by decide +kernel,rfl,by decide +kernel,by decide,by decide +kernel⟩ (by decide) (bR (aB 3)) (λ_ _ _ _ _=>(cN 0 (by decide) (show(["sign","words","head"]:List Str).Nodup by decide +kernel) rfl (by first|exact Or.inl rfl|exact Or.inr rfl))) (λ_ _ _ _ _=>gF) (λ_ _ _ _ _=>(aW bH (aB 2) (aW iL (aB 0) (aH hr (aB 1) aD)))))
   (aE (bC (cP tZ (aH hr (aB 0) aD) (aH hr (aB 0) aD))
    (aL (fP (kO 4 (aW bH (aB 1) (aW iL (aH hr (aB 3) aD) (aH hr (aB 0) aD))))))
    bB)
   (aL (aQ (aB 4)))))))))) (λas R q=>?_)
 obtain⟨W,rfl,ok,q⟩:=q
 cases W with
 |few ss=>exact⟨rfl,_,rfl,_,rfl,fV (λ_=>⟨_,rfl,_,_,rfl,q⟩) (λh=>absurd rfl h)⟩
 |make hd lo hi ms=>
  obtain⟨⟨shd,hl⟩,lo0,lohi,hi1,hi2,sub,ne⟩:=ok
  obtain⟨S,_,s10⟩:=rG sub ne
  obtain⟨m0,r,rfl⟩:=List.exists_cons_of_ne_nil ne
  have hin:∀m∈m0::r,m∈MK:=λm h=>sub.mem h
  obtain⟨k1,k2,k3,k4⟩:=zAS m0 (hin m0 List.mem_cons_self)
  refine⟨rfl,_,rfl,_,rfl,fV (λh=>absurd h (by decide +kernel)) (λ_=>?_)⟩
  refine⟨_,rfl,_,rfl,_,at0,m0,_,rfl,k4,?_⟩
  have hr4:r.length<=3:=by have:=sub.length_le;simp[MK]at this;omega
  have ecut:cR ((m0::r).map sT) (some 1) none=r.map sT:=by
   unfold cR
   rw[HT.sIx_none,show(some (1:Int))=some ((1:Nat):Int) from rfl,HT.sIx_nat,List.map_cons,List.length_cons,Nat.min_eq_left (by omega),List.drop_one,List.tail_cons]
   exact List.take_of_length_le (by omega)
  refine⟨_,rfl,by omega,rfl,_,rfl,?_⟩
  show _/\eF 1 [] (gN 0) lV _ (cR ((m0::r).map sT) (some 1) none) _ _
  rw[ecut]
  have ecat:bI (r.map λm=>(⟨#[(dR m).headD 0]⟩:Str))=r.map λm=>(dR m).headD 0:=xH _ r
  refine⟨by rw[List.length_map];omega,cM sT (λm=>sT ⟨#[(dR m).headD 0]⟩) (λm hm R q=>?_) ⟨r.map λm=>⟨#[(dR m).headD 0]⟩,rfl,by rw[List.map_map];rfl,by rw[ecat,List.length_map];omega,?_⟩⟩
  ·obtain⟨_,j2,j3,j4⟩:=zAS m (hin m (List.mem_cons_of_mem _ hm))
   exact⟨m,_,rfl,j4,by omega,_,j2,q⟩
  have sl:(Txt.slice ((getS SGN m0).getD ⟨#[]⟩) none (some (6+1))).length<=7:=by rw[WordM.len,k1,List.length_take];omega
  have esg:cs (Txt.slice ((getS SGN m0).getD ⟨#[]⟩) none (some (6+1))++⟨(bI (r.map λm=>(⟨#[(dR m).headD 0]⟩:Str))).toArray⟩)=sgM (m0::r):=by
   rw[WordM.app,k1]
   show _++((bI (r.map λm=>(⟨#[(dR m).headD 0]⟩:Str))).toArray).toList=_
   rw[List.toList_toArray,ecat]
   rfl
  refine⟨?_,?_⟩
  ·show _+(Str.length ⟨(bI (r.map λm=>(⟨#[(dR m).headD 0]⟩:Str))).toArray⟩)<=100000
   rw[WordM.len (⟨(bI (r.map λm=>(⟨#[(dR m).headD 0]⟩:Str))).toArray⟩:Str)]
   show _+((bI (r.map λm=>(⟨#[(dR m).headD 0]⟩:Str))).toArray).toList.length<=_
   rw[List.toList_toArray,ecat,List.length_map]
   omega
  generalize (Txt.slice ((getS SGN m0).getD ⟨#[]⟩) none (some (6+1))++⟨(bI (r.map λm=>(⟨#[(dR m).headD 0]⟩:Str))).toArray⟩:Str)=G at esg
  let W:Tv:=cQ (.make hd lo hi (m0::r))
  show PEnds.nx _ _
  refine nxE (ρ':=[.va W,.va (sT hd),.va (.seq true ((m0::r).map sT)),.va (sT G),.no]) rfl ?_
  have gl:G.cps.toList.length<=10:=by
   show(cs G).length<=10
   rw[esg];exact s10
  refine⟨by rw[List.length_map];omega,?_⟩
  refine cM (λc:Nat=>sT ⟨#[c]⟩) (λc=>sT (hd++cB c hi)) (l:=G.cps.toList) (λc hc R q=>?_) ?_
  ·exact⟨_,rfl,⟨by show 1<=1000;decide,by omega,by omega⟩,by rw[show fX ⟨#[c]⟩ hi=cB c hi from rfl,nG];omega,q⟩
  rw[show G.cps.toList=sgM (m0::r) from esg]
  have T0:(sgM (m0::r)).map (λc=>sT (hd++cB c hi))=((sgM (m0::r)).map λc=>hd++cB c hi).map sT:=by rw[List.map_map];rfl
  rw[T0]
  have g0:atI (cs G) 0=some ((sgM (m0::r)).headD 0):=by
   rw[esg]
   have:=kX S.many
   cases hq:sgM (m0::r) with
   |nil=>rw[hq]at this;cases this
   |cons x y=>exact aY (j:=0) rfl
  show PEnds.nx _ _
  refine nxE (ρ':=[.va W,.va (sT hd),.va (.seq true ((m0::r).map sT)),.va (sT G),.own (((sgM (m0::r)).map λc=>hd++cB c hi).map sT)]) rfl ?_
  have q:R (.seq false (((((sgM (m0::r)).map λc=>hd++cB c hi))++(if lo<hi then [hd++cB ((sgM (m0::r)).headD 0) lo] else [])).map sT)):=q
  refine⟨_,rfl,_,rfl,_,rfl,dZ (λz=>?_) (λz=>?_)⟩
  ·rw[if_pos z,List.map_append]at q
   refine⟨⟨_,rfl⟩,by rw[WordM.len];exact Nat.le_trans gl (by decide),_,g0,_,rfl,⟨by show 1<=1000;decide,by omega,by omega⟩,by rw[show fX ⟨#[(sgM (m0::r)).headD 0]⟩ lo=cB ((sgM (m0::r)).headD 0) lo from rfl,nG];omega,_,rfl,by rw[List.length_map,List.length_map];omega,q⟩
  ·rw[if_neg z,List.append_nil]at q
   exact q
def pM:Option Str->Tv
 |none=>nT
 |some i=>sT i
def nB:PSp:=λas R=>∃W W2:Wd,as=[.va (cQ W),.va (cQ W2)]/\WdW W/\WdW W2/\R (pM (dW W W2))
theorem C11_:bD ["one","other","text"] ["one","other"] (aO vI):=fsc (by decide +kernel)
theorem zHS(h:Has K mg "words_parted" vI)(B:Own mg)(G10_:aG P w K mg base 1 "words_texts" ["words"] sP)(G6_:aG P w K mg base 3 "words_let" ["words","text"] mK)   : aG P w K mg base 4 "words_parted" ["one","other"] nB:=by
 have nd:=C11_.nd
 refine h.pgood C11_ (fun|_,_,_,_,_,_,[_,_],_=>rfl) (λf cdv A outer s H E F hr=>
   (aE (eC (m:=3) PassesOwn.never rfl (bR (aR G10_ hr (aA (aB 0) aC))) (cN 2 (by decide) nd rfl (.inl rfl))
    (aL (bC (fS (dN (aR G6_ hr (aA (aB 1) (aA (aB 2) aC)))))
     (aL (aQ (aB 2)))
     bB)))
   (aL (aQ eD)))) (λas R q=>?_)
 obtain⟨W,W2,rfl,ok,ok2,q⟩:=q
 refine⟨rfl,W,rfl,ok,?_⟩
 have sh:=(wF ok).1
 unfold dW at q
 generalize jR W=l at q sh
 refine nR sT (l:=l) (λi ρ=>(∀j x,j<i->l[j]?=some x->bP W2 x=true)/\∃s,ρ=[.va (cQ W),.va (cQ W2),s]) ⟨λj p h=>absurd h (Nat.not_lt_zero _),.no,rfl⟩ ?_ ?_
 ·rintro i x _ N hx ⟨hj,s,rfl⟩ hN
  have hm:=sh x (List.mem_of_getElem? hx)
  refine⟨W2,x,rfl,ok2,hm.2.1,by omega,_,rfl,sif (λe=>?_) (λe=>?_)⟩
  ·have e:bP W2 x=false:=by simpa using e
   have:l.find? (λi=>!bP W2 i)=some x:=by
    rw[List.find?_eq_some_iff_getElem]
    obtain⟨hi,rfl⟩:=List.getElem?_eq_some_iff.mp hx
    exact⟨by rw[e];rfl,i,hi,rfl,λj hj'=>by
     have:=hj j l[j] hj' (List.getElem?_eq_getElem (by omega))
     simpa using this⟩
   rw[this]at q
   exact q
  ·have e:bP W2 x=true:=by simpa using e
   refine hN _ ⟨λj p' hj' ep=>?_,_,rfl⟩
   by_cases z:j=i
   ·subst z;rw[hx]at ep;cases ep;exact e
   ·exact hj j p' (by omega) ep
 ·rintro _ ⟨hj,s,rfl⟩
  have:l.find? (λi=>!bP W2 i)=none:=by
   rw[List.find?_eq_none]
   intro p hp
   obtain⟨j,hj',rfl⟩:=List.mem_iff_getElem.mp hp
   simpa using hj j _ hj' (List.getElem?_eq_getElem hj')
  rw[this]at q
  exact q
def qN:PSp:=λas R=>∃W W2:Wd,as=[.va (cQ W),.va (cQ W2)]/\WdW W/\WdW W2/\R (bT (dW W W2).isNone)
theorem C12_:bD ["one","other"] ["one","other"] (aO vH):=fsc (by decide +kernel)
theorem zHR(h:Has K mg "words_within" vH)(B:Own mg)(G11_:aG P w K mg base 4 "words_parted" ["one","other"] nB)   : aG P w K mg base 5 "words_within" ["one","other"] qN:=by
 have nd:=C12_.nd
 refine h.pgood C12_ (fun|_,_,_,_,_,_,[_,_],_=>rfl) (λf cdv A outer s H E F hr=>
   (aL (aQ (eX (jX).op (aR G11_ hr (aA (aB 0) (aA (aB 1) aC))) eD)))) (λas R q=>?_)
 obtain⟨W,W2,rfl,ok,ok2,q⟩:=q
 refine⟨rfl,W,W2,rfl,ok,ok2,?_⟩
 cases h:dW W W2 with
 |none=>rw[h]at q;exact q
 |some i=>rw[h]at q;exact q
end
end My
namespace My
open PySem L2 PyProof.Rows WordM
section
variable{P:Program}{w:World}{K:W.Frag}{mg:Str->Option Value}{base:Heap}
theorem sN{a b:Str}{A B:Prop}(h:a≠b)(k:B):if (false != eqV (.str a) (.str b))=true then A else B:=fV (λz=>absurd z h) λ_=>k
theorem sY{a:Str}{A B:Prop}(k:A):if (false != eqV (.str a) (.str a))=true then A else B:=fV (λ_=>k) λz=>absurd rfl z
theorem fE(lo hi st:Int):aN (.numbers lo hi st)=.seq true [sT "numbers",iT lo,iT hi,iT st]:=by rw[aN]
theorem gA(bs:List Bool):aN (.truths bs)=.seq true [sT "truths",.seq true (bs.map bT)]:=by rw[aN]
theorem gB(w:Wd):aN (.texts w)=.seq true [sT "texts",cQ w]:=by rw[aN]
theorem jD:aN .nothing=.seq true [sT "nothing"]:=by rw[aN]
end
section
variable{P:Program}{w:World}{K:W.Frag}{mg:Str->Option Value}{base:Heap}
variable{n:Nat}
theorem tY{c:Nat}{S:Str}{A B:Prop}(h1:c∈cs S->A)(h2:c∉cs S->B):if (false != inS ⟨#[c]⟩ S)=true then A else B:=by
 have:(false != inS ⟨#[c]⟩ S)=decide (c∈cs S):=by unfold inS;rw[StrLaws.found_one];simp
 rw[this]
 exact dZ h1 h2
theorem zFH(xs:List Tv):(false != ((false==false)&&bU xs []))=xs.isEmpty:=by
 cases xs with
 |nil=>simp[bU]
 |cons x xs=>simp[bU]
def oB:PSp:=λas R=>∃c:Nat,as=[.va (sT ⟨#[c]⟩)]/\R (sT (dA c))
theorem C36_:bD ["_law_sign"] ["_law_sign"] (aO uT):=fsc (by decide +kernel)
theorem zHw(h:Has K mg "_law_mark" uT)(B:Own mg)    : aG P w K mg base 1 "_law_mark" ["_law_sign"] oB:=by
 have nd:=C36_.nd
 refine h.pgood C36_ (fun|_,_,_,_,_,_,[_],_=>rfl) (λf cdv A outer s H E F hr=>
   (aE (bC (cP (gJ hr.units) (aB 0) aI rfl)
    (aL (aQ aI))
    bB)
   (aE (bC (cP (gJ hr.units) (aB 0) aI rfl)
    (aL (aQ aI))
    bB)
   (aE (bC (cP (gJ hr.units) (aB 0) aI rfl)
    (aL (aQ aI))
    bB)
   (aL (aQ aI)))))) (λas R q=>?_)
 obtain⟨c,rfl,q⟩:=q
 unfold dA at q
 refine⟨rfl,_,rfl,tY (λa=>?_) (λa=>⟨_,rfl,tY (λb=>?_) (λb=>⟨_,rfl,tY (λd=>?_) (λd=>?_)⟩)⟩)⟩
 ·rw[if_pos (show c∈cs kF from a)]at q;exact q
 ·rw[if_neg (show c∉cs kF from a),if_pos (show c∈cs kZ from b)]at q;exact q
 ·rw[if_neg (show c∉cs kF from a),if_neg (show c∉cs kZ from b),if_pos (show c∈cs nY from d)]at q;exact q
 ·rw[if_neg (show c∉cs kF from a),if_neg (show c∉cs kZ from b),if_neg (show c∉cs nY from d)]at q;exact q
end
section
variable{P:Program}{w:World}{K:W.Frag}{mg:Str->Option Value}{base:Heap}
def tl:Nat->Int->Int->Int->Int->Int->Int->Int->Int
 |0,_,_,_,_,many,_,_=>many
 |k+1,n,lo,hi,most,many,power,len=>
  if len<=hi then(if most<=many+power then most else tl k n lo hi most (if lo<=len then many+power else many) (power*n) (len+1)) else many
def nH:PSp:=λas R=>∃(S:Str) (lo hi most:Int),as=[.va (sT S),.va (iT lo),.va (iT hi),.va (iT most)]/\2<=S.length/\S.length<=1000/\most<10 ^ 90/\R (iT (tl 400 S.length lo hi most 0 1 0))
theorem C7_:bD ["signs","shortest","longest","most","many","power","length"] ["signs","shortest","longest","most"] (aO s7_):=fsc (by decide +kernel)
theorem g7_(h:Has K mg "tails_many" s7_)(B:Own mg)    : aG P w K mg base 1 "tails_many" ["signs","shortest","longest","most"] nH:=by
 have nd:=C7_.nd
 refine h.pgood C7_ (fun|_,_,_,_,_,_,[_,_,_,_],_=>rfl) (λf cdv A outer s H E F hr=>
   (aE (aV 4 nd aD)
   (aE (aV 5 nd aD)
   (aE (aV 6 nd aD)
   (aE (rD PassesOwn.never (cP iV (aB 6) (aB 2))
    (aE (bC (cP zAF (aW bH (aB 4) (aB 5)) (aB 3))
     (aL (aQ (aB 3)))
     bB)
    (aE (bC (cP zAF (aB 6) (aB 1))
     (aL (aV 4 nd (aW bH (aB 4) (aB 5))))
     bB)
    (aE (aV 5 nd (aW iL (aB 5) (cX eJ rfl B.len PySem.boot_len (aA (aB 0) aC))))
    (aL (aV 6 nd (aW bH (aB 6) aD)))))))
   (aL (aQ (aB 4)))))))) (λas R q=>?_)
 obtain⟨S,lo,hi,most,rfl,s2,s1,hm,q⟩:=q
 refine⟨rfl,λM ρ=>∃many power len:Int,ρ=[.va (sT S),.va (iT lo),.va (iT hi),.va (iT most),.va (iT many),.va (iT power),.va (iT len)]/\0<=many/\(2:Int) ^ (400-M)<=power/\1<=M/\M<=400/\R (iT (tl M S.length lo hi most many power len)),⟨400,0,1,0,rfl,by decide,by decide,by decide,by decide,q⟩,?_⟩
 rintro M _ ⟨many,power,len,rfl,m0,hp,M1,M4,q⟩
 obtain⟨M,rfl⟩:∃M',M=M'+1:=⟨M-1,by omega⟩
 rw[tl]at q
 refine⟨_,rfl,dZ (λh1=>?_) (λh1=>?_)⟩
 ·rw[if_pos h1]at q
  refine⟨_,rfl,dZ (λh2=>?_) (λh2=>?_)⟩
  ·rw[if_pos h2]at q;exact q
  ·rw[if_neg h2]at q
   have pm:power<10 ^ 90:=by omega
   have hM:400-(M+1)<300:=by
    refine Nat.lt_of_not_le λz=>?_
    have a:(2:Int) ^ 300<=2 ^ (400-(M+1)):=by exact_mod_cast Nat.pow_le_pow_right (n:=2) (by decide) z
    have b:(10:Int) ^ 90<2 ^ 300:=by decide
    omega
   have p0:0<power:=Int.lt_of_lt_of_le (Int.pow_pos (by decide)) hp
   have hp2:(2:Int) ^ (400-M)<=power*(S.length:Nat):=by
    have e:400-M=(400-(M+1))+1:=by omega
    rw[e,Int.pow_succ]
    exact Int.mul_le_mul hp (by omega) (by decide) (by omega)
   refine⟨_,rfl,dZ (λh3=>?_) (λh3=>?_)⟩
   ·rw[if_pos h3]at q
    exact⟨by show S.length<=_;omega,.inr ⟨bN (by omega) (by omega),bN (by omega) (by omega)⟩,M,by omega,_,_,_,rfl,by omega,hp2,by omega,by omega,q⟩
   ·rw[if_neg h3]at q
    exact⟨by show S.length<=_;omega,.inr ⟨bN (by omega) (by omega),bN (by omega) (by omega)⟩,M,by omega,_,_,_,rfl,m0,hp2,by omega,by omega,q⟩
 ·rw[if_neg h1]at q
  exact q
def cK(ms:List Str):List Str:=ms.map λm=>(getS SGN m).getD ⟨#[]⟩
theorem zEp{m:Str}(h:m∈MK):getS SGN m=some ((getS SGN m).getD ⟨#[]⟩):=by
 simp only[MK,List.mem_cons,List.not_mem_nil,or_false]at h
 rcases h with rfl|rfl|rfl|rfl<;>rfl
theorem zDQ{m:Str}(h:m∈MK):10<=(cs ((getS SGN m).getD ⟨#[]⟩)).length/\(cs ((getS SGN m).getD ⟨#[]⟩)).length<=40:=by
 simp only[MK,List.mem_cons,List.not_mem_nil,or_false]at h
 rcases h with rfl|rfl|rfl|rfl<;>decide +kernel
theorem sI:∀{ms:List Str},(∀m∈ms,m∈MK)->10*ms.length<=(bI (cK ms)).length/\(bI (cK ms)).length<=40*ms.length
 |[],_=>⟨Nat.le_refl _,Nat.le_refl _⟩
 |m::ms,h=>by
  have ih:=sI λx hx=>h x (List.mem_cons_of_mem _ hx)
  have o:=zDQ (h m (List.mem_cons_self ..))
  have e:(bI (cK (m::ms))).length=(cs ((getS SGN m).getD ⟨#[]⟩)).length+(bI (cK ms)).length:=by
   show(bI (_::cK ms)).length=_
   simp[bI]
  rw[e,List.length_cons]
  omega
def mS:PSp:=λas R=>∃(t:Bool) (ms:List Str),as=[.va (.seq t (ms.map sT))]/\ms.length<=4/\(∀m∈ms,m∈MK)/\R (sT ⟨(bI (cK ms)).toArray⟩)
theorem C8_:bD ["marks"] ["marks"] (aO s8_):=fsc (by decide +kernel)
theorem g8_(h:Has K mg "signs_of" s8_)(B:Own mg)(GSIGNS:iW K w.params mg "SIGNS" SGN)  : aG P w K mg base 1 "signs_of" ["marks"] mS:=by
 have nd:=C8_.nd
 refine h.pgood C8_ (fun|_,_,_,_,_,_,[_],_=>rfl) (λf cdv A outer s H E F hr=>
   (aL (aQ (nW PySem.F.slot_str_join PySem.F.type_str_join yY aI (aA (bA (eM (sc:=aO s8_) (XN:=["marks"]) (N:=["mark"]) (fr:=[]) (bR (aB 0)) (λ_ _ _ _ _=>(lG GSIGNS rfl (aB 0))))) aC))))) (λas R q=>?_)
 obtain⟨t,ms,rfl,l4,hm,q⟩:=q
 refine⟨rfl,rfl,by rw[List.length_map];omega,cM sT (λm=>sT ((getS SGN m).getD ⟨#[]⟩)) (λm hm' R q=>⟨m,_,rfl,zEp (hm m hm'),q⟩) ⟨cK ms,rfl,?_,?_,q⟩⟩
 ·unfold cK;rw[List.map_map];rfl
 ·have:=(sI hm).2;omega
def uG(lo hi:Int)(ms:List Str)(most:Int):Int:=tl 400 ((bI (cK ms)).length:Nat) lo hi most 0 1 0
def sS:PSp:=λas R=>∃(hd:Tv) (lo hi most:Int) (ms:List Str),as=[.va (.seq true [sT "make",hd,iT lo,iT hi,.seq true (ms.map sT)]),.va (iT most)]/\ms≠[]/\ms.length<=4/\(∀m∈ms,m∈MK)/\most<10 ^ 90/\R (iT (uG lo hi ms most))
theorem C9_:bD ["words","most"] ["words","most"] (aO s9_):=fsc (by decide +kernel)
theorem g9_(h:Has K mg "words_many" s9_)(B:Own mg)(G7_:aG P w K mg base 1 "tails_many" ["signs","shortest","longest","most"] nH)(G8_:aG P w K mg base 1 "signs_of" ["marks"] mS)   : aG P w K mg base 2 "words_many" ["words","most"] sS:=by
 have nd:=C9_.nd
 refine h.pgood C9_ (fun|_,_,_,_,_,_,[_,_],_=>rfl) (λf cdv A outer s H E F hr=>
   (aE (bC (bL hr (aH hr (aB 0) aD) aI)
    (aL (aQ (cX (zE2 rfl) rfl B.min boot_min (aA (cX eJ rfl B.len PySem.boot_len (aA (aH hr (aB 0) aD) aC)) (aA (aB 1) aC)))))
    bB)
   (aL (aQ (aR G7_ hr (aA (aR G8_ hr (aA (aH hr (aB 0) aD) aC)) (aA (aH hr (aB 0) aD) (aA (aH hr (aB 0) aD) (aA (aB 1) aC))))))))) (λas R q=>?_)
 obtain⟨hd,lo,hi,most,ms,rfl,n0,l4,hm,h9,q⟩:=q
 have sl:=sI hm
 have p:0<ms.length:=List.length_pos_iff.mpr n0
 refine⟨rfl,_,rfl,_,rfl,fV (λe=>absurd e (by decide +kernel)) λ_=>⟨_,rfl,true,ms,rfl,l4,hm,_,rfl,_,rfl,⟨(bI (cK ms)).toArray⟩,lo,hi,most,rfl,?_,?_,h9,q⟩⟩
 ·show 2<=(bI (cK ms)).length;omega
 ·show(bI (cK ms)).length<=_;omega
end
section
variable{P:Program}{w:World}{K:W.Frag}{mg:Str->Option Value}{base:Heap}
def cL(S:List Nat):Nat->Nat->List Nat
 |0,_=>[]
 |n+1,k=>cL S n (k / S.length)++[S.getD (k % S.length) 0]
theorem mP(S:List Nat):∀n k,(cL S n k).length=n
 |0,_=>rfl
 |n+1,k=>by rw[cL,List.length_append,mP S n];rfl
def rN:PSp:=λas R=>∃(S:Str) (n k:Nat),as=[.va (sT S),.va (iT (n:Nat)),.va (iT (k:Nat))]/\1<=S.length/\S.length<=1000/\n<=1000/\k<=1000/\R (sT ⟨(cL (cs S) n k).toArray⟩)
theorem vZ(S:List Nat):∀(i n k:Nat),cL S (i+n) k=cL S i (k / S.length ^ n)++cL S n k
 |i,0,k=>by rw[Nat.add_zero,Nat.pow_zero,Nat.div_one];simp[cL]
 |i,n+1,k=>by rw[<-Nat.add_assoc,cL,vZ S i n,cL,List.append_assoc,Nat.div_div_eq_div_mul,Nat.pow_succ,Nat.mul_comm]
theorem C13_:bD ["signs","length","place","tail","turn"] ["signs","length","place"] (aO vG):=fsc (by decide +kernel)
theorem zHQ(h:Has K mg "tail_at" vG)(B:Own mg)    : aG P w K mg base 1 "tail_at" ["signs","length","place"] rN:=by
 have nd:=C13_.nd
 refine h.pgood C13_ (fun|_,_,_,_,_,_,[_,_,_],_=>rfl) (λf cdv A outer s H E F hr=>
   (aE (aV 3 nd aI)
   (aE (eC (m:=5) PassesOwn.never rfl (gC rfl B.range (aA (aB 1) aC)) (cN 4 (by decide) nd rfl (.inl rfl))
    (aE (aV 3 nd (aW bH (aH hr (aB 0) (aW iO (aB 2) (cX eJ rfl B.len PySem.boot_len (aA (aB 0) aC)))) (aB 3)))
    (aL (aV 2 nd (aW sK (aB 2) (cX eJ rfl B.len PySem.boot_len (aA (aB 0) aC)))))))
   (aL (aQ (aB 3)))))) (λas R q=>?_)
 obtain⟨S,n,k,rfl,s1,s2,n1,k1,q⟩:=q
 refine⟨rfl,(n:Int),rfl,by omega,by omega,?_⟩
 have sl:1<=(cs S).length:=by rw[<-WordM.len];exact s1
 refine eW (λi ρ=>∃s:Sl,ρ=[.va (sT S),.va (iT (n:Nat)),.va (iT (k / (cs S).length ^ i:Nat)),.va (sT ⟨(cL (cs S) i k).toArray⟩),s]) ⟨.no,by rw[Nat.pow_zero,Nat.div_one];rfl⟩ ?_ ?_
 ·rintro i T _ N hT ⟨s,rfl⟩ hN
  have hi:=(jJ hT).1
  have hi:i<n:=by omega
  have hL:S.length=(cs S).length:=WordM.len S
  generalize hp:k / (cs S).length ^ i=pl at hN ⊢
  have hlt:pl % (cs S).length<(cs S).length:=Nat.mod_lt _ (by omega)
  have hc:atI S.cps.toList ((pl:Int) % (S.length:Nat))=some ((cs S).getD (pl % (cs S).length) 0):=by
   have:=aY (xs:=cs S) (j:=pl % (cs S).length) (v:=(cs S).getD (pl % (cs S).length) 0) (by rw[List.getD_eq_getElem?_getD,List.getElem?_eq_getElem hlt];rfl)
   rw[hL]
   exact_mod_cast this
  refine⟨by show S.length<=_;omega,(show(0:Int)<(S.length:Nat) by omega),by omega,_,hc,?_,?_⟩
  ·show 1+(cL (cs S) i k).toArray.size<=100000
   rw[List.size_toArray,mP];omega
  ·refine⟨by show S.length<=_;omega,⟨by omega,bN (by omega) (by omega)⟩,hN _ ⟨.va T,?_⟩⟩
   have e1:(⟨#[(cs S).getD (pl % (cs S).length) 0]⟩:Str)++⟨(cL (cs S) i k).toArray⟩=⟨(cL (cs S) (i+1) k).toArray⟩:=by
    refine jN ?_
    rw[WordM.app]
    show [_]++(cL (cs S) i k).toArray.toList=(cL (cs S) (i+1) k).toArray.toList
    rw[List.toList_toArray,List.toList_toArray,Nat.add_comm,vZ,hp]
    rfl
   have e2:((pl:Int) / (S.length:Nat))=((k / (cs S).length ^ (i+1):Nat):Int):=by
    rw[hL,Nat.pow_succ,<-Nat.div_div_eq_div_mul,hp]
    push_cast;rfl
   show [Sl.va (sT S),.va (iT (n:Nat)),.va (iT ((pl:Int) / (S.length:Nat))),.va (sT ((⟨#[(cs S).getD (pl % (cs S).length) 0]⟩:Str)++⟨(cL (cs S) i k).toArray⟩)),.va T]=_
   rw[e1,e2]
 ·rintro _ ⟨s,rfl⟩
  rw[iG]
  exact q
theorem zAg{ms:List Str}(h1:ms.Sublist MK)(h2:ms≠[]):(bI (cK ms)).Nodup/\10<=(bI (cK ms)).length/\(bI (cK ms)).length<=100/\∀c∈bI (cK ms),c∈cs SIG:=by
 obtain⟨a,b,c,d,rfl⟩:=zAd h1
 revert h2
 cases a<;>cases b<;>cases c<;>cases d<;>intro h2<;>first|exact absurd rfl h2|decide +kernel
theorem tO{L m:Int}(n:Nat){lo hi:Int}(h1:1<=lo)(h2:lo<=hi)(hm:2<=m)(hL:m<=L):tl (n+2) L lo hi m 0 1 0=m:=by
 rw[tl,if_pos (by omega),if_neg (by omega),tl,if_pos (by omega),if_pos (by rw[if_neg (by omega)];omega)]
theorem zDK{L m:Int}(n:Nat)(hm:2<=m):tl (n+2) L 0 0 m 0 1 0=1:=by
 rw[tl,if_pos (by omega),if_neg (by omega),tl,if_neg (by omega),if_pos (by omega)];rfl
theorem zCw{lo hi:Int}{ms:List Str}(h1:ms.Sublist MK)(h2:ms≠[])(l0:0<=lo)(lh:lo<=hi)(hi1:1<=hi):uG lo hi ms 9=9:=by
 obtain⟨_,h10,_⟩:=zAg h1 h2
 unfold uG
 generalize (bI (cK ms)).length=L at h10
 by_cases z:1<=lo
 ·exact tO 398 z lh (by decide) (by omega)
 ·rw[show lo=0 by omega,show 400=398+2 from rfl,tl,if_pos (by omega),if_neg (by omega),tl,if_pos (by omega),if_pos (by rw[if_pos (by omega)];omega)]
def sQ:PSp:=λas R=>∃(h:Str) (a b:Int) (ms:List Str),as=[.va (cQ (.make h a b ms)),.va (iT 9)]/\WdW (.make h a b ms)/\∀L:List Str,L.Nodup->L.length=9->(∀t∈L,t.length<=1000)->R (.seq false (L.map sT))
theorem C14_:bD ["words","many","signs","texts","length","here"] ["words","many"] (aO pJ):=fsc (by decide +kernel)
theorem zHP(h:Has K mg "words_some" pJ)(B:Own mg)(G9_:aG P w K mg base 2 "words_many" ["words","most"] sS)(G8_:aG P w K mg base 1 "signs_of" ["marks"] mS)(G7_:aG P w K mg base 1 "tails_many" ["signs","shortest","longest","most"] nH)(G13_:aG P w K mg base 1 "tail_at" ["signs","length","place"] rN)   : aG P w K mg base 3 "words_some" ["words","many"] sQ:=by
 have nd:=C14_.nd
 refine h.pgood C14_ (fun|_,_,_,_,_,_,[_,_],_=>rfl) (λf cdv A outer s H E F hr=>
   (aE (bC (cP tZ (aR G9_ hr (aA (aB 0) (aA (aB 1) aC))) (aB 1))
    (aL zEC)
    bB)
   (aE (bC (bL hr (aH hr (aB 0) aD) aI)
    (aL (aQ (bA (qH qM rfl B.list_ boot_list (aA (cE cG (aH hr (aB 0) aD) cJ (cD (aB 1))) aC)))))
    bB)
   (aE (aV 2 nd (aR G8_ hr (aA (aH hr (aB 0) aD) aC)))
   (aE (gK 3 nd (bM aC))
   (aE (aV 4 nd (aH hr (aB 0) aD))
   (aE (rD PassesOwn.never (cP tZ (sD λF=>(cX eJ rfl B.len PySem.boot_len (aA (aB 3) aC))) (aB 1))
    (aE (aV 5 nd (aR G7_ hr (aA (aB 2) (aA (aB 4) (aA (aB 4) (aA (aW iN (aB 1) (sD λF=>(cX eJ rfl B.len PySem.boot_len (aA (aB 3) aC)))) aC))))))
    (aE (fP (qI 3 (bA (eM (sc:=aO pJ) (XN:=["words","many","signs","texts","length","here"]) (N:=["place","words","signs","length"]) (fr:=[0,2,4]) (gC rfl B.range (aA (aB 5) aC)) (λ_ _ _ _ _=>(aW bH (aH hr (aB 1) aD) (aR G13_ hr (aA (aB 2) (aA (aB 3) (aA (aB 0) aC))))))))))
    (aL (aV 4 nd (aW bH (aB 4) aD))))))
   (aL (aQ (aB 3)))))))))) (λas R q=>?_)
 obtain⟨h,a,b,ms,rfl,ok,q⟩:=q
 obtain⟨⟨hS,hl⟩,a0,ab,b1,b2,sub,ne⟩:=ok
 obtain⟨nd',l10,l100,sgc⟩:=zAg sub ne
 have m4:ms.length<=4:=sub.length_le
 have mk:∀m∈ms,m∈MK:=λm hm=>sub.mem hm
 refine⟨rfl,sT h,a,b,9,ms,rfl,ne,m4,mk,by decide,?_⟩
 rw[zCw sub ne a0 ab b1]
 refine⟨_,rfl,dZ (λz=>absurd z (by decide)) (λ_=>?_)⟩
 refine⟨_,at0,_,rfl,sN (by decide +kernel) ?_⟩
 refine⟨_,aY (j:=4) rfl,true,ms,rfl,m4,mk,?_⟩
 have eS:cs (⟨(bI (cK ms)).toArray⟩:Str)=bI (cK ms):=by show(bI (cK ms)).toArray.toList=_;rw[List.toList_toArray]
 have lS:(⟨(bI (cK ms)).toArray⟩:Str).length=(bI (cK ms)).length:=by rw[WordM.len,eS]
 generalize (⟨(bI (cK ms)).toArray⟩:Str)=S at eS lS
 generalize bI (cK ms)=C at eS lS nd' l10 l100 sgc
 let txt (n k:Nat):Str:=h++⟨(cL (cs S) n k).toArray⟩
 have ct:∀n k,cs (txt n k)=cs h++cL C n k:=λn k=>by
  show cs (h++_)=_
  rw[WordM.app]
  show cs h++(cL (cs S) n k).toArray.toList=_
  rw[List.toList_toArray,eS]
 have lt:∀n k,(txt n k).length=h.length+n:=λn k=>by rw[WordM.len,ct,List.length_append,mP,<-WordM.len]
 have dst:∀n m:Nat,1<=n->m<=10->((List.range m).map (txt n)).Nodup:=λn m n1 m10=>by
  unfold List.Nodup
  rw[List.pairwise_map]
  refine(List.nodup_range (n:=m)).imp_of_mem λ{x y} hx hy ne e=>ne ?_
  have hx:=List.mem_range.mp hx
  have hy:=List.mem_range.mp hy
  have e:=congrArg cs e
  rw[ct,ct]at e
  have e:=List.append_cancel_left e
  obtain⟨j,rfl⟩:∃j,n=j+1:=⟨n-1,by omega⟩
  rw[cL,cL]at e
  have e:=List.append_inj_right' e rfl
  have e:=(List.cons.inj e).1
  rw[Nat.mod_eq_of_lt (by omega),Nat.mod_eq_of_lt (by omega)]at e
  rw[List.getD_eq_getElem?_getD,List.getD_eq_getElem?_getD,List.getElem?_eq_getElem (by omega),List.getElem?_eq_getElem (by omega)]at e
  rcases Nat.lt_trichotomy x y with z|z|z
  ·exact absurd e (List.pairwise_iff_getElem.mp nd' x y (by omega) (by omega) z)
  ·exact z
  ·exact absurd e.symm (List.pairwise_iff_getElem.mp nd' y x (by omega) (by omega) z)
 let W:Tv:=cQ (.make h a b ms)
 let e1 (T0:List Str) (n:Int) (s5:Sl):aT:=[.va W,.va (iT 9),.va (sT S),.own (T0.map sT),.va (iT n),s5]
 let INV (M:Nat) (ρ:aT):Prop:=∃(T0:List Str) (n:Nat) (s5:Sl),ρ=e1 T0 n s5/\((M=3/\T0=[]/\(n:Int)=a)\/(M=2/\a=0/\T0=[txt 0 0]/\n=1)\/(M=1/\T0.Nodup/\T0.length=9/\∀t∈T0,t.length<=1000))
 obtain⟨an,rfl⟩:∃an:Nat,a=an:=⟨a.toNat,by omega⟩
 show PEnds.nx _ _
 refine nxE (ρ':=[.va W,.va (iT 9),.va (sT S),.no,.no,.no]) rfl ?_
 refine⟨by simp,_,aY (j:=2) rfl,INV,⟨3,[],an,.no,rfl,.inl ⟨rfl,rfl,rfl⟩⟩,?_⟩
 rintro M _ ⟨T0,n,s5,rfl,hI⟩
 by_cases hd:T0.length=9
 ·have hI:T0.Nodup/\∀t∈T0,t.length<=1000:=by
   rcases hI with⟨_,rfl,_⟩|⟨_,_,rfl,_⟩|⟨_,a,_,c⟩
   ·simp at hd
   ·simp at hd
   ·exact⟨a,c⟩
  refine⟨_,rfl,_,rfl,dZ (λz=>absurd z ?_) (λ_=>q T0 hI.1 hd hI.2)⟩
  rw[List.length_map,hd];decide
 obtain⟨m,hm,m9,hlen,l9,n110,hnext⟩:∃m:Nat,tl 400 (S.length:Nat) n n (9-(T0.length:Int)) 0 1 0=m/\m<=9/\T0.length+m<=9/\T0.length<9/\n<=110/\∀s,∃M',M'<M/\INV M' (e1 (T0++(List.range m).map (txt n)) (n+1:Nat) s):=by
  rcases hI with⟨rfl,rfl,hn⟩|⟨rfl,a0',rfl,rfl⟩|⟨_,_,c,_⟩
  ·by_cases z:an=0
   ·have hn:n=0:=by omega
    subst hn
    refine⟨1,zDK 398 (by decide),by decide,by decide,by decide,by omega,λs=>⟨2,by decide,[txt 0 0],1,s,rfl,.inr (.inl ⟨rfl,by omega,rfl,rfl⟩)⟩⟩
   ·refine⟨9,tO 398 (by omega) (Int.le_refl _) (by decide) (by rw[lS];show(9:Int)<=_;omega),by decide,by decide,by decide,by omega,λs=>⟨1,by decide,_,_,s,rfl,.inr (.inr ⟨rfl,dst n 9 (by omega) (by decide),by simp,λt ht=>?_⟩)⟩⟩
    obtain⟨k,_,rfl⟩:=List.mem_map.mp (show t∈(List.range 9).map (txt n) from ht)
    rw[lt];omega
  ·refine⟨8,tO 398 (by decide) (by decide) (show(2:Int)<=9-((1:Nat):Int) by decide) (by rw[lS];show(9:Int)-((1:Nat):Int)<=_;omega),by decide,show 1+8<=9 by decide,show 1<9 by decide,by decide,λs=>⟨1,by decide,_,_,s,rfl,.inr (.inr ⟨rfl,?_,by simp,λt ht=>?_⟩)⟩⟩
   ·rw[List.singleton_append,List.nodup_cons]
    refine⟨λhc=>?_,dst 1 8 (by decide) (by decide)⟩
    obtain⟨k,_,e⟩:=List.mem_map.mp hc
    have e:=congrArg Str.length e
    rw[lt,lt]at e
    omega
   ·rcases List.mem_append.mp ht with ht|ht
    ·rw[List.mem_singleton]at ht;subst ht;rw[lt];omega
    ·obtain⟨k,_,rfl⟩:=List.mem_map.mp ht
     rw[lt];omega
  ·exact absurd c hd
 refine⟨_,rfl,_,rfl,dZ (λ_=>?_) (λz=>absurd (show((T0.map sT).length:Int)<9 by rw[List.length_map];omega) z)⟩
 refine⟨_,rfl,S,n,n,_,rfl,by omega,by omega,by rw[List.length_map];omega,?_⟩
 rw[List.length_map,hm]
 show PEnds.nx _ _
 refine nxE (ρ':=e1 T0 n (.va (iT m))) rfl ?_
 refine⟨⟨_,rfl⟩,(m:Int),rfl,by omega,by omega,by rw[iG];omega,?_⟩
 refine cM (λk:Nat=>iT (0+(k:Int))) (λk=>sT (txt n k)) (l:=List.range (m:Int).toNat) (λk hk R q=>?_) ?_
 ·have hk:=List.mem_range.mp hk
  rw[show(0:Int)+(k:Int)=((k:Nat):Int) by omega]
  refine⟨_,aY (j:=1) rfl,S,n,k,rfl,by omega,by omega,by omega,by omega,?_,q⟩
  show h.length+(cL (cs S) n k).toArray.size<=100000
  rw[List.size_toArray,mP];omega
 rw[show(m:Int).toNat=m by omega]
 refine⟨_,_,rfl,rfl,by simp;omega,?_⟩
 obtain⟨M',h1,h2⟩:=hnext (.va (iT m))
 refine⟨M',h1,nxE (N:=INV M') (ρ':=e1 (T0++(List.range m).map (txt n)) (n+1:Nat) (.va (iT m))) ?_ h2⟩
 show [Sl.va W,.va (iT 9),.va (sT S),.own (T0.map sT++(List.range m).map λk=>sT (txt n k)),.va (iT ((n:Int)+1)),.va (iT m)]=[Sl.va W,.va (iT 9),.va (sT S),.own ((T0++(List.range m).map (txt n)).map sT),.va (iT ((n+1:Nat):Int)),.va (iT m)]
 rw[List.map_append,List.map_map]
 rfl
end
end My
namespace My
open PySem L2 PyProof.Rows WordM
section
variable{P:Program}{w:World}{K:W.Frag}{mg:Str->Option Value}{base:Heap}
variable{n:Nat}
abbrev Fd:=Str×Bool×List Pt
def PW:Nat->Pt->Prop
 |0,_=>False
 |_+1,.nothing=>True
 |_+1,.truths bs=>bs=[false]\/bs=[true]\/bs=[false,true]
 |_+1,.numbers lo hi st=>kL lo hi st
 |_+1,.texts w=>WdW w
 |n+1,.lists _ _ f=>f.length<=100/\∀p∈f,PW n p
 |n+1,.record _ _ fs=>fs.length<=8/\(fs.map (·.1)).Nodup/\∀x∈fs,(Sg x.1/\x.1.length<=200)/\x.2.2.length<=100/\∀p∈x.2.2,PW n p
 |n+1,.table _ _ w f=>WdW w/\zAu w=true/\f.length<=100/\∀p∈f,PW n p
def nmF(fs:List Fd):List Str:=fs.map (·.1)
def dX(fs:List Fd):List Str:=(fs.filter λx=>x.2.1).map (·.1)
def bhF(fs:List Fd)(n:Str):List Pt:=((fs.find? λx=>decide (x.1=n)).map (·.2.2)).getD []
def iA:Pt->Bool
 |.table ..=>true
 |_=>false
def bdB(a b a' b':Int):Bool:=decide (a'<=a)&&decide (b<=b')
def shP:Pt->Pt->Bool
 |.nothing,.nothing=>true
 |.truths bs,.truths cs=>bs.all λb=>decide (b∈cs)
 |.numbers lo hi st,.numbers lo' hi' st'=>fI lo hi st lo' hi' st'
 |.texts w,.texts w'=>(dW w w').isNone
 |.lists a b _,.lists a' b' _=>bdB a b a' b'
 |.record a b fs,.record a' b' gs=>bdB a b a' b'&&(((nmF fs).all λn=>decide (n∈nmF gs))&&(dX gs).all λn=>decide (n∈dX fs))
 |.record a b fs,.table a' b' w _=>bdB a b a' b'&&(nmF fs).all (bP w)
 |.table a b w _,.table a' b' w' _=>bdB a b a' b'&&(dW w w').isNone
 |_,_=>false
def fdT(n:Str):Tv:=.seq true [sT "field",sT n]
def bX:Pt->Pt->List (Tv×List Pt×List Pt)
 |.lists _ _ f,.lists _ _ g=>[(.seq true [sT "items"],f,g)]
 |.table _ _ _ f,.table _ _ _ g=>[(.seq true [sT "values"],f,g)]
 |.record _ _ fs,.record _ _ gs=>((nmF fs).filter λn=>decide (n∈nmF gs)).map λn=>(fdT n,bhF fs n,bhF gs n)
 |.record _ _ fs,.table _ _ _ g=>(nmF fs).map λn=>(fdT n,bhF fs n,g)
 |.table _ _ _ f,.record _ _ gs=>(nmF gs).map λn=>(fdT n,f,bhF gs n)
 |_,_=>[]
def gR(x:Tv×List Pt×List Pt):Tv:=.seq true [x.1,aX x.2.1,aX x.2.2]
theorem gW{α:Type}{p:α->Bool}{e:α->Tv}:∀l:List α,(l.filterMap λx=>if p x=true then some (e x) else none)=(l.filter p).map e
 |[]=>rfl
 |x::l=>by
  rw[List.filterMap_cons,List.filter_cons,gW l]
  cases p x<;>simp
theorem oG{α:Type}{p:α->Bool}{e:α->Tv}(l:List α):(l.filterMap λx=>if p x=true then none else some (e x))=(l.filter λx=>!p x).map e:=by
 rw[<-gW]
 congr 1
 funext x
 cases p x<;>rfl
def nJ:PSp:=λas R=>∃(a b:Int) (fs:List Fd),as=[.va (aN (.record a b fs))]/\fs.length<=8/\R (.seq false ((nmF fs).map sT))
theorem C18_:bD ["record"] ["record"] (aO pH):=fsc (by decide +kernel)
theorem zHL(h:Has K mg "names_of" pH)(B:Own mg)    : aG P w K mg base 1 "names_of" ["record"] nJ:=by
 have nd:=C18_.nd
 refine h.pgood C18_ (fun|_,_,_,_,_,_,[_],_=>rfl) (λf cdv A outer s H E F hr=>
   (aL (aQ (bA (eM (sc:=aO pH) (XN:=["record"]) (N:=["field"]) (fr:=[]) (bR (aH hr (aB 0) aD)) (λ_ _ _ _ _=>(aH hr (aB 0) aD))))))) (λas R q=>?_)
 obtain⟨a,b,fs,rfl,fl,q⟩:=q
 rw[bJ]
 refine⟨rfl,_,aY (j:=3) rfl,by rw[List.length_map];omega,cM fY (λx=>sT x.1) (λx hx R q=>⟨_,at0,q⟩) ?_⟩
 rw[show fs.map (λx=>sT x.1)=(nmF fs).map sT by unfold nmF;rw[List.map_map];rfl]
 exact q
def cZ:Pt->List Str
 |.record _ _ fs=>dX fs
 |_=>[]
def sR(n:Nat):PSp:=λas R=>∃p:Pt,as=[.va (aN p)]/\PW (n+1) p/\aZ p=5/\R (.seq false ((cZ p).map sT))
theorem C17_:bD ["part"] ["part"] (aO pI):=fsc (by decide +kernel)
theorem zHM(h:Has K mg "musts_of" pI)(B:Own mg)    : aG P w K mg base 1 "musts_of" ["part"] (sR n):=by
 have nd:=C17_.nd
 refine h.pgood C17_ (fun|_,_,_,_,_,_,[_],_=>rfl) (λf cdv A outer s H E F hr=>
   (aL (aQ (kR (bL hr (aH hr (aB 0) aD) aI) (bA (gI (sc:=aO pI) (XN:=["part"]) (N:=["field"]) (fr:=[]) (bR (aH hr (aB 0) aD)) (λ_ _ _ _ _=>(fR (dN (aH hr (aB 0) aD)))) (λ_ _ _ _ _=>(aH hr (aB 0) aD)))) (bA (bM aC)))))) (λas R q=>?_)
 obtain⟨p,rfl,hp,k,q⟩:=q
 cases p<;>first|(simp[aZ]at k;done)|skip
 ·rename_i a b fs
  have fl:fs.length<=8:=hp.1
  rw[bJ]
  refine⟨rfl,_,at0,_,rfl,sY ⟨_,aY (j:=3) rfl,by rw[List.length_map];omega,dQ fY (λx=>if x.2.1=true then some (sT x.1) else none) (λx hx R q=>⟨_,aY (j:=1) rfl,_,rfl,sif (λz=>⟨_,at0,?_⟩) (λz=>?_)⟩) ?_⟩⟩
  ·rw[if_pos z]at q;exact q
  ·rw[if_neg (by rw[z];exact Bool.false_ne_true)]at q;exact q
  ·have e:(fs.filterMap λx=>if x.2.1=true then some (sT x.1) else none)=(dX fs).map sT:=by
    unfold dX
    rw[gW,List.map_map]
    rfl
   rw[e]
   exact q
 ·rename_i a b w f
  rw[cW]
  exact⟨rfl,_,at0,_,rfl,sN (by decide +kernel) ⟨by simp,q⟩⟩
def iB:Pt->Pt->List Str
 |.table _ _ w _,.table _ _ w' _=>match dW w w' with
  |none=>[]
  |some t=>[t]
 |.record _ _ fs,.table _ _ w _=>(nmF fs).filter λn=>!bP w n
 |.record _ _ fs,.record _ _ gs=>(nmF fs).filter λn=>!decide (n∈nmF gs)
 |_,_=>[]
def qP(n:Nat):PSp:=λas R=>∃p q:Pt,as=[.va (aN p),.va (aN q)]/\PW (n+1) p/\PW (n+1) q/\aZ p=5/\aZ q=5/\∀L:List Str,L.length<=10->((iA p=true->iA q=false->L≠[])/\((iA p=false\/iA q=true)->L=iB p q))->R (.seq false (L.map sT))
theorem C19_:bD ["one","other","name","names"] ["one","other"] (aO mC):=fsc (by decide +kernel)
theorem zHK(h:Has K mg "strange_names" mC)(B:Own mg)(G11_:aG P w K mg base 4 "words_parted" ["one","other"] nB)(G18_:aG P w K mg base 1 "names_of" ["record"] nJ)(G6_:aG P w K mg base 3 "words_let" ["words","text"] mK)(G14_:aG P w K mg base 3 "words_some" ["words","many"] sQ)(GMOST_FIELDS:fJ K mg "MOST_FIELDS" (iT 8))  : aG P w K mg base 5 "strange_names" ["one","other"] (qP n):=by
 have nd:=C19_.nd
 refine h.pgood C19_ (fun|_,_,_,_,_,_,[_,_],_=>rfl) (λf cdv A outer s H E F hr=>
   (aE (bC (kC (nU (bL hr (aH hr (aB 0) aD) aI) (nF (bL hr (aH hr (aB 1) aD) aI))))
    (aE (aV 2 nd (aR G11_ hr (aA (aH hr (aB 0) aD) (aA (aH hr (aB 1) aD) aC))))
    (aL (aQ (kR (cP jX (aB 2) eD) (bA (bM aC)) (bA (bM (aA (aB 2) aC)))))))
    bB)
   (aE (bC (bL hr (aH hr (aB 1) aD) aI)
    (aL (aQ (bA (gI (sc:=aO mC) (XN:=["one","other","name","names"]) (N:=["name","other"]) (fr:=[1]) (bR (aR G18_ hr (aA (aB 0) aC))) (λ_ _ _ _ _=>(fR (fS (dN (aR G6_ hr (aA (aH hr (aB 1) aD) (aA (aB 0) aC))))))) (λ_ _ _ _ _=>(aB 0))))))
    bB)
   (aE (aV 3 nd (kR (bL hr (aH hr (aB 0) aD) aI) (aR G14_ hr (aA (aH hr (aB 0) aD) (aA (aW bH (oK GMOST_FIELDS rfl) aD) aC))) (aR G18_ hr (aA (aB 0) aC))))
   (aL (aQ (bA (gI (sc:=aO mC) (XN:=["one","other","name","names"]) (N:=["name","other"]) (fr:=[1]) (bR (aB 3)) (λ_ _ _ _ _=>(fR (cP (xS hr.units) (aB 0) (aR G18_ hr (aA (aB 1) aC)) rfl))) (λ_ _ _ _ _=>(aB 0)))))))))) (λas R q=>?_)
 obtain⟨p,q',rfl,hp,hq,kp,kq,q⟩:=q
 cases p<;>first|(simp[aZ]at kp;done)|skip
 all_goals (cases q'<;>first|(simp[aZ]at kq;done)|skip)
 ·rename_i a b fs a' b' gs
  rw[bJ,bJ]
  refine⟨rfl,_,at0,_,rfl,sN (by decide +kernel) (bF ?_)⟩
  have fl:(nmF fs).length<=8:=by unfold nmF;rw[List.length_map];exact hp.1
  refine⟨_,at0,_,rfl,sN (by decide +kernel) ⟨_,at0,_,rfl,sN (by decide +kernel) ⟨a,b,fs,by rw[bJ],hp.1,?_⟩⟩⟩
  refine⟨by rw[List.length_map];omega,dQ sT (λn=>if decide (n∈nmF gs)=true then none else some (sT n)) (λx hx R q=>⟨a',b',gs,by rw[bJ],hq.1,gD,_,rfl,?_⟩) ?_⟩
  ·rw[gE]
   cases z:decide (x∈nmF gs) with
   |true=>rw[if_pos z]at q;exact bF q
   |false=>rw[if_neg (by rw[z];exact Bool.false_ne_true)]at q;exact cC q
  ·rw[oG]
   exact q ((nmF fs).filter λn=>!decide (n∈nmF gs)) (Nat.le_trans (List.length_filter_le _ _) (by omega)) ⟨λz=>(by cases z),λ_=>rfl⟩
 ·rename_i a b fs a' b' w g
  rw[bJ,cW]
  have fl:(nmF fs).length<=8:=by unfold nmF;rw[List.length_map];exact hp.1
  refine⟨rfl,_,at0,_,rfl,sN (by decide +kernel) (bF ?_)⟩
  refine⟨_,at0,_,rfl,sY ⟨a,b,fs,by rw[bJ],hp.1,by rw[List.length_map];omega,dQ sT (λn=>if bP w n=true then none else some (sT n)) (λx hx R q=>?_) ?_⟩⟩
  ·obtain⟨y,hy,rfl⟩:=List.mem_map.mp hx
   refine⟨_,aY (j:=3) rfl,w,y.1,rfl,hq.1,(hp.2.2 y hy).1.1,Nat.le_trans (hp.2.2 y hy).1.2 (by decide),_,rfl,?_⟩
   cases z:bP w y.1 with
   |true=>rw[if_pos z]at q;exact bF q
   |false=>rw[if_neg (by rw[z];exact Bool.false_ne_true)]at q;exact cC q
  ·rw[oG]
   exact q ((nmF fs).filter λn=>!bP w n) (Nat.le_trans (List.length_filter_le _ _) (by omega)) ⟨λz=>(by cases z),λ_=>rfl⟩
 ·rename_i a b w f a' b' gs
  rw[bJ,cW]
  refine⟨rfl,_,at0,_,rfl,sY ⟨_,at0,_,rfl,sN (by decide +kernel) ?_⟩⟩
  cases w with
  |few ts=>exact absurd hp.2.1 (by simp[zAu])
  |make hd lo hi ms=>
  have gl:(nmF gs).length<=8:=by unfold nmF;rw[List.length_map];exact hq.1
  refine⟨_,at0,_,rfl,sN (by decide +kernel) ⟨_,at0,_,rfl,sY ⟨_,aY (j:=3) rfl,hd,lo,hi,ms,rfl,hp.1,λL nL l9 tL=>?_⟩⟩⟩
  refine⟨by rw[List.length_map];omega,dQ sT (λn=>if decide (n∈nmF gs)=true then none else some (sT n)) (λx hx R q=>⟨a',b',gs,by rw[bJ],hq.1,gD,_,rfl,?_⟩) ?_⟩
  ·rw[gE]
   cases z:decide (x∈nmF gs) with
   |true=>rw[if_pos z]at q;exact bF q
   |false=>rw[if_neg (by rw[z];exact Bool.false_ne_true)]at q;exact cC q
  ·rw[oG]
   refine q (L.filter λn=>!decide (n∈nmF gs)) (Nat.le_trans (List.length_filter_le _ _) (by omega)) ⟨λ_ _ e=>?_,λz=>?_⟩
   ·have:∀x∈L,x∈nmF gs:=λx hx=>by
     have:=List.filter_eq_nil_iff.mp e x hx
     simpa using this
    have:=ShowM.nodup_le nL this
    omega
   ·rcases z with z|z<;>cases z
 ·rename_i a b w f a' b' w' g
  rw[cW,cW]
  refine⟨rfl,_,at0,_,rfl,sY ⟨_,at0,_,rfl,sY ?_⟩⟩
  refine⟨_,aY (j:=3) rfl,_,aY (j:=3) rfl,w,w',rfl,hp.1,hq.1,?_⟩
  cases e:dW w w' with
  |none=>exact⟨_,rfl,cC ⟨by simp,q [] (by simp) ⟨λ_ z=>(by cases z),λ_=>by show []=(match dW w w' with|none=>[]|some t=>[t]);rw[e]⟩⟩⟩
  |some t=>exact⟨_,rfl,bF ⟨by simp,q [t] (by simp) ⟨λ_ z=>(by cases z),λ_=>by show [t]=(match dW w w' with|none=>[]|some t=>[t]);rw[e]⟩⟩⟩
def qR(n:Nat):PSp:=λas R=>∃p q:Pt,as=[.va (aN p),.va (aN q)]/\PW (n+1) p/\PW (n+1) q/\aZ p=5/\aZ q=5/\R (.seq false (((cZ q).filter λn=>!decide (n∈cZ p)).map sT))
theorem xX{n:Nat}{p:Pt}(h:PW (n+1) p):(cZ p).length<=8:=by
 cases p<;>first|exact Nat.zero_le _|skip
 rename_i a b fs
 show(dX fs).length<=8
 unfold dX
 rw[List.length_map]
 exact Nat.le_trans (List.length_filter_le _ _) h.1
theorem C20_:bD ["one","other"] ["one","other"] (aO pG):=fsc (by decide +kernel)
theorem zHJ(h:Has K mg "lacking_names" pG)(B:Own mg)(G17_:aG P w K mg base 1 "musts_of" ["part"] (sR n))   : aG P w K mg base 2 "lacking_names" ["one","other"] (qR n):=by
 have nd:=C20_.nd
 refine h.pgood C20_ (fun|_,_,_,_,_,_,[_,_],_=>rfl) (λf cdv A outer s H E F hr=>
   (aL (aQ (bA (gI (sc:=aO pG) (XN:=["one","other"]) (N:=["name","one"]) (fr:=[0]) (bR (aR G17_ hr (aA (aB 1) aC))) (λ_ _ _ _ _=>(fR (cP (xS hr.units) (aB 0) (aR G17_ hr (aA (aB 1) aC)) rfl))) (λ_ _ _ _ _=>(aB 0))))))) (λas R q=>?_)
 obtain⟨p,q',rfl,hp,hq,kp,kq,q⟩:=q
 have ml:=xX hq
 refine⟨rfl,q',rfl,hq,kq,by rw[List.length_map];omega,dQ sT (λn=>if decide (n∈cZ p)=true then none else some (sT n)) (λx hx R q=>⟨p,rfl,hp,kp,gD,_,rfl,?_⟩) ?_⟩
 ·rw[gE]
  cases z:decide (x∈cZ p) with
  |true=>rw[if_pos z]at q;exact bF q
  |false=>rw[if_neg (by rw[z];exact Bool.false_ne_true)]at q;exact cC q
 ·rw[oG];exact q
end
end My
namespace My
open PySem L2 PyProof.Rows WordM
section
variable{P:Program}{w:World}{K:W.Frag}{mg:Str->Option Value}{base:Heap}
variable{n:Nat}
def qT:PSp:=λas R=>∃(a b a' b':Int) (w w':Tv) (r r':List Tv),as=[.va (.seq true (w::iT a::iT b::r)),.va (.seq true (w'::iT a'::iT b'::r'))]/\R (bT (decide (a'<=a)&&decide (b<=b')))
theorem C21_:bD ["one","other"] ["one","other"] (aO vD):=fsc (by decide +kernel)
theorem zHI(h:Has K mg "bounds_within" vD)(B:Own mg)    : aG P w K mg base 1 "bounds_within" ["one","other"] qT:=by
 have nd:=C21_.nd
 refine h.pgood C21_ (fun|_,_,_,_,_,_,[_,_],_=>rfl) (λf cdv A outer s H E F hr=>
   (aL (aQ (nX (eX (iV).op (aH hr (aB 1) aD) (aH hr (aB 0) aD)) (nV (eX (iV).op (aH hr (aB 0) aD) (aH hr (aB 1) aD))))))) (λas R q=>?_)
 obtain⟨a,b,a',b',w,w',r,r',rfl,q⟩:=q
 refine⟨rfl,_,aY (j:=1) rfl,_,aY (j:=1) rfl,_,rfl,dZ (λz=>?_) (λz=>?_)⟩
 ·rw[decide_eq_true z,Bool.true_and]at q
  exact⟨_,aY (j:=2) rfl,_,aY (j:=2) rfl,q⟩
 ·rw[decide_eq_false z,Bool.false_and]at q
  exact q
theorem zCE{b:Bool}{bs:List Bool}:mF (bT b) (bs.map bT):=⟨trivial,λU hU=>by
 obtain⟨c,_,rfl⟩:=List.mem_map.mp hU
 trivial⟩
theorem zEv{b:Bool}{cs:List Bool}:(false != (cs.map bT).any λk=>L2.eqT k (bT b))=decide (b∈cs):=by
 induction cs with
 |nil=>rfl
 |cons c cs ih=>
  rw[List.map_cons,List.any_cons]
  cases h:(cs.map bT).any λk=>L2.eqT k (bT b) with
  |true=>
   rw[h]at ih
   have:b∈cs:=by simpa using ih.symm
   simp[this]
  |false=>
   rw[h]at ih
   have:b∉cs:=by simpa using ih.symm
   cases b<;>cases c<;>simp[this,L2.eqT,eqV]
def rP(n:Nat):PSp:=λas R=>∃p q:Pt,as=[.va (aN p),.va (aN q)]/\PW (n+1) p/\PW (n+1) q/\aZ q=aZ p/\R (bT (shP p q))
theorem mY(a b:List Str):((a.map sT++b.map sT).isEmpty)=(a.isEmpty&&b.isEmpty):=by cases a<;>cases b<;>rfl
theorem wK{p:Str->Bool}(l:List Str):(l.filter λn=>!p n).isEmpty=l.all p:=by
 induction l with
 |nil=>rfl
 |cons x l ih=>rw[List.filter_cons,List.all_cons];cases h:p x<;>simp[h,ih]
theorem zC1{p q:Pt}(hp:aZ p=5)(hq:aZ q=5):shP p q=(match p,q with
  |.record a b _,.record a' b' _=>bdB a b a' b'&&((iB p q).isEmpty&&((cZ q).filter λn=>!decide (n∈cZ p)).isEmpty)
  |.record a b _,.table a' b' _ _=>bdB a b a' b'&&((iB p q).isEmpty&&((cZ q).filter λn=>!decide (n∈cZ p)).isEmpty)
  |.table a b _ _,.table a' b' _ _=>bdB a b a' b'&&((iB p q).isEmpty&&((cZ q).filter λn=>!decide (n∈cZ p)).isEmpty)
  |_,_=>false):=by
 cases p<;>first|(simp[aZ]at hp;done)|skip
 all_goals (cases q<;>first|(simp[aZ]at hq;done)|skip)
 ·simp only[shP,iB,cZ,wK];rfl
 ·simp only[shP,iB,cZ,wK];simp
 ·rfl
 ·rename_i a b w f a' b' w' g
  simp only[shP,iB,cZ]
  cases dW w w'<;>simp
theorem C22_:bD ["one","other"] ["one","other"] (aO pF):=fsc (by decide +kernel)
theorem zHH(h:Has K mg "shell_within" pF)(B:Own mg)(G3_:aG P w K mg base 3 "run_within" ["one","other"] qA)(G12_:aG P w K mg base 5 "words_within" ["one","other"] qN)(G21_:aG P w K mg base 1 "bounds_within" ["one","other"] qT)(G19_:aG P w K mg base 5 "strange_names" ["one","other"] (qP n))(G20_:aG P w K mg base 2 "lacking_names" ["one","other"] (qR n))   : aG P w K mg base 6 "shell_within" ["one","other"] (rP n):=by
 have nd:=C22_.nd
 refine h.pgood C22_ (fun|_,_,_,_,_,_,[_,_],_=>rfl) (λf cdv A outer s H E F hr=>
   (aE (bC (bL hr (aH hr (aB 0) aD) aI)
    (aL (aQ (cX (zAn rfl) rfl B.all boot_all (aA (bA (eM (sc:=aO pF) (XN:=["one","other"]) (N:=["truth","other"]) (fr:=[1]) (bR (aH hr (aB 0) aD)) (λ_ _ _ _ _=>(eX (gJ hr.units).op (aB 0) (aH hr (aB 1) aD) rfl)))) aC))))
    bB)
   (aE (bC (bL hr (aH hr (aB 0) aD) aI)
    (aL (aQ (aR G3_ hr (aA (cE cG (aB 0) (cD aD) cJ) (aA (cE cG (aB 1) (cD aD) cJ) aC)))))
    bB)
   (aE (bC (bL hr (aH hr (aB 0) aD) aI)
    (aL (aQ (aR G12_ hr (aA (aH hr (aB 0) aD) (aA (aH hr (aB 1) aD) aC)))))
    bB)
   (aE (bC (bL hr (aH hr (aB 0) aD) aI)
    (aL (aQ (aR G21_ hr (aA (aB 0) (aA (aB 1) aC)))))
    bB)
   (aE (bC (bL hr (aH hr (aB 0) aD) aI)
    (aL (aQ cO))
    bB)
   (aL (aQ (nX (aR G21_ hr (aA (aB 0) (aA (aB 1) aC))) (nV (eX (lI hr.units).op (aW bH (aR G19_ hr (aA (aB 0) (aA (aB 1) aC))) (aR G20_ hr (aA (aB 0) (aA (aB 1) aC)))) (bA (bM aC))))))))))))) (λas R q=>?_)
 obtain⟨p,q',rfl,hp,hq,k,q⟩:=q
 by_cases k5:aZ p=5
 ·have k5':aZ q'=5:=k.trans k5
  rw[zC1 k5 k5']at q
  obtain⟨w,a,b,r,w',a',b',r',ep,eq,hw,h1,h2⟩:∃(w:Str) (a b:Int) (r:List Tv) (w':Str) (a' b':Int) (r':List Tv),aN p=.seq true (sT w::iT a::iT b::r)/\aN q'=.seq true (sT w'::iT a'::iT b'::r')/\(w="record"\/w="table")/\(bdB a b a' b'=false->R (bT false))/\(bdB a b a' b'=true->∀L:List Str,((iA p=true->iA q'=false->L≠[])/\((iA p=false\/iA q'=true)->L=iB p q'))->R (bT ((L.map sT++((cZ q').filter λn=>!decide (n∈cZ p)).map sT).isEmpty))):=by
   cases p<;>first|(simp[aZ]at k5;done)|skip
   all_goals (cases q'<;>first|(simp[aZ]at k5';done)|skip)
   ·refine⟨_,_,_,_,_,_,_,_,bJ ..,bJ ..,.inl rfl,λz=>?_,λz L hL=>?_⟩
    ·simpa[z]using q
    ·rw[mY,hL.2 (.inl rfl)];simpa[z]using q
   ·refine⟨_,_,_,_,_,_,_,_,bJ ..,cW ..,.inl rfl,λz=>?_,λz L hL=>?_⟩
    ·simpa[z]using q
    ·rw[mY,hL.2 (.inl rfl)];simpa[z]using q
   ·refine⟨_,_,_,_,_,_,_,_,cW ..,bJ ..,.inr rfl,λz=>q,λz L hL=>?_⟩
    have:=hL.1 rfl rfl
    rw[mY]
    cases L with
    |nil=>exact absurd rfl this
    |cons x l=>exact q
   ·refine⟨_,_,_,_,_,_,_,_,cW ..,cW ..,.inr rfl,λz=>?_,λz L hL=>?_⟩
    ·simpa[z]using q
    ·rw[mY,hL.2 (.inr rfl)];simpa[z]using q
  have n1:w≠"truths":=by rcases hw with rfl|rfl<;>decide +kernel
  have n2:w≠"numbers":=by rcases hw with rfl|rfl<;>decide +kernel
  have n3:w≠"texts":=by rcases hw with rfl|rfl<;>decide +kernel
  have n4:w≠"lists":=by rcases hw with rfl|rfl<;>decide +kernel
  have n5:w≠"nothing":=by rcases hw with rfl|rfl<;>decide +kernel
  have ea:[Ar.va (.seq true (sT w::iT a::iT b::r)),.va (.seq true (sT w'::iT a'::iT b'::r'))]=[.va (aN p),.va (aN q')]:=by rw[ep,eq]
  have ml:=xX hq
  rw[ep,eq]
  refine⟨rfl,_,at0,_,rfl,sN n1 ⟨_,at0,_,rfl,sN n2 ⟨_,at0,_,rfl,sN n3 ⟨_,at0,_,rfl,sN n4 ⟨_,at0,_,rfl,sN n5 ⟨a,b,a',b',_,_,_,_,rfl,_,rfl,?_⟩⟩⟩⟩⟩⟩
  show if bdB a b a' b'=true then _ else _
  cases z:bdB a b a' b' with
  |false=>exact bF (h1 z)
  |true=>
   refine cC ⟨p,q',ea,hp,hq,k5,k5',λL lL hL=>⟨p,q',ea,hp,hq,k5,k5',?_,?_⟩⟩
   ·rw[List.length_map,List.length_map]
    have:=List.length_filter_le (λn=>!decide (n∈cZ p)) (cZ q')
    omega
   ·refine⟨by simp,.inr (.inl rfl),?_⟩
    show R (bT (false != ((false==false)&&bU _ [])))
    rw[zFH]
    exact h2 z L hL
 ·cases p<;>cases q'<;>first|(simp[aZ]at k;done)|exact absurd rfl k5|skip
  ·rw[jD]
   exact⟨rfl,_,at0,_,rfl,sN (by decide +kernel) ⟨_,at0,_,rfl,sN (by decide +kernel) ⟨_,at0,_,rfl,sN (by decide +kernel) ⟨_,at0,_,rfl,sN (by decide +kernel) ⟨_,at0,_,rfl,sY q⟩⟩⟩⟩⟩
  ·rename_i bs cs
   rw[gA,gA]
   have bl:bs.length<=2:=by rcases hp with rfl|rfl|rfl<;>simp
   refine⟨rfl,_,at0,_,rfl,sY ⟨_,aY (j:=1) rfl,by rw[List.length_map];omega,cM bT (λb=>bT (decide (b∈cs))) (λb hb R q=>⟨_,aY (j:=1) rfl,zCE,?_⟩) ⟨bs.map λb=>decide (b∈cs),by rw[List.map_map];rfl,?_⟩⟩⟩
   ·rw[zEv];exact q
   ·rw[List.all_map];exact q
  ·rename_i lo hi st lo' hi' st'
   rw[fE,fE]
   exact⟨rfl,_,at0,_,rfl,sN (by decide +kernel) ⟨_,at0,_,rfl,sY ⟨_,rfl,_,rfl,lo,hi,st,lo',hi',st',rfl,hq,q⟩⟩⟩
  ·rename_i w w'
   rw[gB,gB]
   exact⟨rfl,_,at0,_,rfl,sN (by decide +kernel) ⟨_,at0,_,rfl,sN (by decide +kernel) ⟨_,at0,_,rfl,sY ⟨_,aY (j:=1) rfl,_,aY (j:=1) rfl,w,w',rfl,hp,hq,q⟩⟩⟩⟩
  ·rename_i a b f a' b' f'
   rw[eG,eG]
   exact⟨rfl,_,at0,_,rfl,sN (by decide +kernel) ⟨_,at0,_,rfl,sN (by decide +kernel) ⟨_,at0,_,rfl,sN (by decide +kernel) ⟨_,at0,_,rfl,sY ⟨a,b,a',b',_,_,_,_,rfl,q⟩⟩⟩⟩⟩
end
end My
namespace My
open PySem L2 PyProof.Rows WordM
section
variable{P:Program}{w:World}{K:W.Frag}{mg:Str->Option Value}{base:Heap}
variable{n:Nat}
def rT:PSp:=λas R=>(∃(a b:Int) (w:Wd) (f:List Pt) (x:Str),as=[.va (aN (.table a b w f)),.va (sT x)]/\R (aX f))\/∃(a b:Int) (fs:List Fd) (x:Str),as=[.va (aN (.record a b fs)),.va (sT x)]/\fs.length<=8/\x∈nmF fs/\R (aX (bhF fs x))
theorem C23_:bD ["part","name"] ["part","name"] (aO pE):=fsc (by decide +kernel)
theorem zHG(h:Has K mg "form_behind" pE)(B:Own mg)    : aG P w K mg base 1 "form_behind" ["part","name"] rT:=by
 have nd:=C23_.nd
 refine h.pgood C23_ (fun|_,_,_,_,_,_,[_,_],_=>rfl) (λf cdv A outer s H E F hr=>
   (aE (bC (bL hr (aH hr (aB 0) aD) aI)
    (aL (aQ (aH hr (aB 0) aD)))
    bB)
   (aL (aQ (aH hr (bA (gI (sc:=aO pE) (XN:=["part","name"]) (N:=["field","name"]) (fr:=[1]) (bR (aH hr (aB 0) aD)) (λ_ _ _ _ _=>(fR (bL hr (aH hr (aB 0) aD) (aB 1)))) (λ_ _ _ _ _=>(aH hr (aB 0) aD)))) aD))))) (λas R q=>?_)
 rcases q with⟨a,b,w,f,x,rfl,q⟩|⟨a,b,fs,x,rfl,fl,hx,q⟩
 ·rw[cW]
  exact⟨rfl,_,at0,_,rfl,sY ⟨_,aY (j:=4) rfl,q⟩⟩
 ·rw[bJ]
  refine⟨rfl,_,at0,_,rfl,sN (by decide +kernel) ⟨_,aY (j:=3) rfl,by rw[List.length_map];omega,dQ fY (λy=>if decide (y.1=x)=true then some (aX y.2.2) else none) (λy hy R q=>⟨_,at0,_,rfl,fV (λz=>⟨_,aY (j:=2) rfl,?_⟩) (λz=>?_)⟩) ?_⟩⟩
  ·rw[if_pos (decide_eq_true z)]at q;exact q
  ·rw[if_neg (λe=>z (of_decide_eq_true e))]at q;exact q
  ·rw[gW (p:=λy:Fd=>decide (y.1=x)) (e:=λy=>aX y.2.2)]
   unfold bhF at q
   rw[<-List.head?_filter]at q
   obtain⟨y,hy,e⟩:=List.mem_map.mp hx
   have hm:y∈fs.filter λy=>decide (y.1=x):=List.mem_filter.mpr ⟨hy,decide_eq_true e⟩
   generalize (fs.filter λy=>decide (y.1=x))=L at q hm
   cases L with
   |nil=>cases hm
   |cons y0 L=>exact⟨_,at0,q⟩
theorem xG(l:List Str):(l.filter λn=>decide (n∈l))=l:=List.filter_eq_self.mpr λa ha=>decide_eq_true ha
def oC(n:Nat):PSp:=λas R=>∃p q:Pt,as=[.va (aN p),.va (aN q)]/\PW (n+1) p/\PW (n+1) q/\aZ q=aZ p/\R (.seq false ((bX p q).map gR))
theorem C24_:bD ["one","other","records","names"] ["one","other"] (aO kG):=fsc (by decide +kernel)
theorem zHF(h:Has K mg "forms_held" kG)(B:Own mg)(G18_:aG P w K mg base 1 "names_of" ["record"] nJ)(G23_:aG P w K mg base 1 "form_behind" ["part","name"] rT)   : aG P w K mg base 2 "forms_held" ["one","other"] (oC n):=by
 have nd:=C24_.nd
 refine h.pgood C24_ (fun|_,_,_,_,_,_,[_,_],_=>rfl) (λf cdv A outer s H E F hr=>
   (aE (bC (bL hr (aH hr (aB 0) aD) aI)
    (aL (aQ (bA (bM (aA (aJ (aA (aJ (aA aI aC)) (aA (aH hr (aB 0) aD) (aA (aH hr (aB 1) aD) aC)))) aC)))))
    bB)
   (aE (bC (kC (nU (bL hr (aH hr (aB 0) aD) aI) (nF (bL hr (aH hr (aB 1) aD) aI))))
    (aL (aQ (bA (bM (aA (aJ (aA (aJ (aA aI aC)) (aA (aH hr (aB 0) aD) (aA (aH hr (aB 1) aD) aC)))) aC)))))
    bB)
   (aE (aV 2 nd (bA (gI (sc:=aO kG) (XN:=["one","other","records","names"]) (N:=["part"]) (fr:=[]) (bR (bA (bM (aA (aB 0) (aA (aB 1) aC))))) (λ_ _ _ _ _=>(fR (bL hr (aH hr (aB 0) aD) aI))) (λ_ _ _ _ _=>(aB 0)))))
   (aE (bC (bL hr (cX eJ rfl B.len PySem.boot_len (aA (aB 2) aC)) aD)
    (aL (aQ (bA (bM aC))))
    bB)
   (aE (iU (sc:=aO kG) (XN:=["one","other","records","names"]) (N:=["name","records"]) (fr:=[2]) 3 nd (bR (aR G18_ hr (aA (aH hr (aB 2) aD) aC))) (λ_ _ _ _ _=>(fR (cP (gJ hr.units) (aB 0) (aR G18_ hr (aA (aH hr (aB 1) (oJ nZ aD)) aC)) rfl))) (λ_ _ _ _ _=>(aB 0)))
   (aL (aQ (bA (eM (sc:=aO kG) (XN:=["one","other","records","names"]) (N:=["name","one","other"]) (fr:=[0,1]) (bR (aB 3)) (λ_ _ _ _ _=>(aJ (aA (aJ (aA aI (aA (aB 0) aC))) (aA (aR G23_ hr (aA (aB 1) (aA (aB 0) aC))) (aA (aR G23_ hr (aA (aB 2) (aA (aB 0) aC))) aC))))))))))))))) (λas R q=>?_)
 obtain⟨p,q',rfl,hp,hq,k,q⟩:=q
 cases p<;>cases q'<;>first|(simp[aZ]at k;done)|skip
 case lists.lists a b f a' b' f'=>
  rw[eG,eG]
  exact⟨rfl,_,at0,_,rfl,sY ⟨by simp,_,aY (j:=3) rfl,_,aY (j:=3) rfl,by simp,by simp,q⟩⟩
 case table.table a b w f a' b' w' f'=>
  rw[cW,cW]
  exact⟨rfl,_,at0,_,rfl,sN (by decide +kernel) ⟨_,at0,_,rfl,sY ⟨_,at0,_,rfl,sY ⟨by simp,_,aY (j:=4) rfl,_,aY (j:=4) rfl,by simp,by simp,q⟩⟩⟩⟩
 case record.record a b fs a' b' gs=>
  rw[bJ,bJ]
  refine⟨rfl,_,at0,_,rfl,sN (by decide +kernel) ⟨_,at0,_,rfl,sN (by decide +kernel) (bF ?_)⟩⟩
  refine⟨by simp,by simp,⟨_,at0,_,rfl,sY ⟨_,at0,_,rfl,sY ?_⟩⟩⟩
  have fl:(nmF fs).length<=8:=by unfold nmF;rw[List.length_map];exact hp.1
  refine⟨_,rfl,bF ⟨_,at0,a,b,fs,by rw[bJ],hp.1,by rw[List.length_map];omega,?_⟩⟩
  refine dQ sT (λn=>if decide (n∈nmF gs)=true then some (sT n) else none) (λx hx R q=>⟨_,rfl,a',b',gs,by rw[bJ],hq.1,gD,_,rfl,?_⟩) ?_
  ·rw[gE]
   cases z:decide (x∈nmF gs) with
   |true=>rw[if_pos z]at q;exact cC q
   |false=>rw[if_neg (by rw[z];exact Bool.false_ne_true)]at q;exact bF q
  rw[gW]
  have q:R (.seq false ((((nmF fs).filter λn=>decide (n∈nmF gs)).map λn=>(fdT n,bhF fs n,bhF gs n)).map gR)):=q
  rw[List.map_map]at q
  have lf:=Nat.le_trans (List.length_filter_le (λn=>decide (n∈nmF gs)) (nmF fs)) fl
  refine⟨by rw[List.length_map];omega,cM sT (λn=>gR (fdT n,bhF fs n,bhF gs n)) (λx hx R q=>?_) q⟩
  have hx:=List.mem_filter.mp hx
  exact⟨by simp,.inr ⟨a,b,fs,x,by rw[bJ],hp.1,hx.1,.inr ⟨a',b',gs,x,by rw[bJ],hq.1,of_decide_eq_true hx.2,by simp,q⟩⟩⟩
 case record.table a b fs a' b' w g=>
  rw[bJ,cW]
  have fl:(nmF fs).length<=8:=by unfold nmF;rw[List.length_map];exact hp.1
  refine⟨rfl,_,at0,_,rfl,sN (by decide +kernel) ⟨_,at0,_,rfl,sN (by decide +kernel) (bF ?_)⟩⟩
  refine⟨by simp,by simp,⟨_,at0,_,rfl,sY ⟨_,at0,_,rfl,sN (by decide +kernel) ?_⟩⟩⟩
  refine⟨_,rfl,bF ⟨_,at0,a,b,fs,by rw[bJ],hp.1,by rw[List.length_map];omega,?_⟩⟩
  refine dQ sT (λn=>if decide (n∈nmF fs)=true then some (sT n) else none) (λx hx R q=>⟨_,rfl,a,b,fs,by rw[bJ],hp.1,gD,_,rfl,?_⟩) ?_
  ·rw[gE]
   cases z:decide (x∈nmF fs) with
   |true=>rw[if_pos z]at q;exact cC q
   |false=>rw[if_neg (by rw[z];exact Bool.false_ne_true)]at q;exact bF q
  rw[gW,xG]
  have q:R (.seq false (((nmF fs).map λn=>(fdT n,bhF fs n,g)).map gR)):=q
  rw[List.map_map]at q
  exact⟨by rw[List.length_map];omega,cM sT (λn=>gR (fdT n,bhF fs n,g)) (λx hx R q=>⟨by simp,.inr ⟨a,b,fs,x,by rw[bJ],hp.1,hx,.inl ⟨a',b',w,g,x,by rw[cW],by simp,q⟩⟩⟩) q⟩
 case table.record a b w f a' b' gs=>
  rw[bJ,cW]
  have gl:(nmF gs).length<=8:=by unfold nmF;rw[List.length_map];exact hq.1
  refine⟨rfl,_,at0,_,rfl,sN (by decide +kernel) ⟨_,at0,_,rfl,sY ⟨_,at0,_,rfl,sN (by decide +kernel) ?_⟩⟩⟩
  refine⟨by simp,by simp,⟨_,at0,_,rfl,sN (by decide +kernel) ⟨_,at0,_,rfl,sY ?_⟩⟩⟩
  refine⟨_,rfl,bF ⟨_,at0,a',b',gs,by rw[bJ],hq.1,by rw[List.length_map];omega,?_⟩⟩
  refine dQ sT (λn=>if decide (n∈nmF gs)=true then some (sT n) else none) (λx hx R q=>⟨_,rfl,a',b',gs,by rw[bJ],hq.1,gD,_,rfl,?_⟩) ?_
  ·rw[gE]
   cases z:decide (x∈nmF gs) with
   |true=>rw[if_pos z]at q;exact cC q
   |false=>rw[if_neg (by rw[z];exact Bool.false_ne_true)]at q;exact bF q
  rw[gW,xG]
  have q:R (.seq false (((nmF gs).map λn=>(fdT n,f,bhF gs n)).map gR)):=q
  rw[List.map_map]at q
  exact⟨by rw[List.length_map];omega,cM sT (λn=>gR (fdT n,f,bhF gs n)) (λx hx R q=>⟨by simp,.inl ⟨a,b,w,f,x,by rw[cW],.inr ⟨a',b',gs,x,by rw[bJ],hq.1,hx,by simp,q⟩⟩⟩) q⟩
 all_goals
  first|rw[jD]|rw[gA,gA]|rw[fE,fE]|rw[gB,gB]
  refine⟨rfl,_,at0,_,rfl,sN (by decide +kernel) ⟨_,at0,_,rfl,sN (by decide +kernel) (bF ?_)⟩⟩
  refine⟨by simp,by simp,⟨_,at0,_,rfl,sN (by decide +kernel) ⟨_,at0,_,rfl,sN (by decide +kernel) ?_⟩⟩⟩
  exact⟨_,rfl,cC ⟨by simp,q⟩⟩
theorem hC{n:Nat}{a b:Int}{fs:List Fd}(h:PW (n+1) (.record a b fs))(x:Str):(bhF fs x).length<=100/\∀p∈bhF fs x,PW n p:=by
 unfold bhF
 cases e:fs.find? λy=>decide (y.1=x) with
 |none=>exact⟨by simp,λp hp=>by simp at hp⟩
 |some y=>
  have:=h.2.2 y (List.mem_of_find?_eq_some e)
  exact⟨this.2.1,this.2.2⟩
theorem nD{n:Nat}{p q:Pt}(hp:PW (n+1) p)(hq:PW (n+1) q):(bX p q).length<=8/\∀x∈bX p q,x.2.1.length<=100/\x.2.2.length<=100/\(∀r∈x.2.1,PW n r)/\∀r∈x.2.2,PW n r:=by
 have nl:∀{a b:Int} {fs:List Fd},PW (n+1) (.record a b fs)->(nmF fs).length<=8:=λh=>by unfold nmF;rw[List.length_map];exact h.1
 cases p<;>cases q<;>first|exact⟨Nat.zero_le _,λx hx=>absurd hx (List.not_mem_nil)⟩|skip
 ·refine⟨by simp[bX],λx hx=>?_⟩
  rw[show bX (.lists _ _ _) (.lists _ _ _)=[_] from rfl,List.mem_singleton]at hx
  subst hx
  exact⟨hp.1,hq.1,hp.2,hq.2⟩
 ·refine⟨?_,λx hx=>?_⟩
  ·show(List.map _ _).length<=8
   rw[List.length_map];exact Nat.le_trans (List.length_filter_le _ _) (nl hp)
  ·obtain⟨y,_,rfl⟩:=List.mem_map.mp hx
   exact⟨(hC hp y).1,(hC hq y).1,(hC hp y).2,(hC hq y).2⟩
 ·refine⟨by show(List.map _ _).length<=8;rw[List.length_map];exact nl hp,λx hx=>?_⟩
  obtain⟨y,_,rfl⟩:=List.mem_map.mp hx
  exact⟨(hC hp y).1,hq.2.2.1,(hC hp y).2,hq.2.2.2⟩
 ·refine⟨by show(List.map _ _).length<=8;rw[List.length_map];exact nl hq,λx hx=>?_⟩
  obtain⟨y,_,rfl⟩:=List.mem_map.mp hx
  exact⟨hp.2.2.1,(hC hq y).1,hp.2.2.2,(hC hq y).2⟩
 ·refine⟨by simp[bX],λx hx=>?_⟩
  rw[show bX (.table _ _ _ _) (.table _ _ _ _)=[_] from rfl,List.mem_singleton]at hx
  subst hx
  exact⟨hp.2.2.1,hq.2.2.1,hp.2.2.2,hq.2.2.2⟩
end
end My
namespace L2
open PySem PySem.Spec PyProof.Rows WordM
def zDU:V->List V->Hp->VK->Prop:=λx vs H Q=>∃(l:Addr) (ns:List Int) (i:Int) (k:Nat),x=.ref l/\vs=[.int i]/\H l=some (.lst (ns.map V.int))/\ns[k]?=some i/\(∀m,m<k->ns[m]?≠some i)/\Q .non (upd H l (.lst ((ns.eraseIdx k).map V.int)))
theorem zFM:∀{ns:List Int}{us:List Value},Vals (ns.map V.int) us->∀(m:Nat) (u:Value),us[m]?=some u->∃i t,ns[m]?=some i/\u=Value.int i t:=by
 intro ns us h m u hu
 obtain⟨x,hx,r⟩:=kM h hu
 rw[List.getElem?_map]at hx
 cases e:ns[m]? with
 |none=>rw[e]at hx;cases hx
 |some i=>
  rw[e]at hx;cases hx
  obtain⟨t,rfl⟩:=r
  exact⟨i,t,rfl,rfl⟩
theorem oD{α β:Type}{g:α->β}:∀(l:List α) (k:Nat),(l.map g).eraseIdx k=(l.eraseIdx k).map g
 |[],_=>rfl
 |_::_,0=>rfl
 |x::l,k+1=>by show g x::_=g x::_;rw[oD l k]
theorem zCt{X:Cx}:MtM X "list.remove" zDU:=by
 intro pins s σ H x vs v us Q I rx rv h
 obtain⟨l,ns,i,k,rfl,rfl,hH,hk,hl',q⟩:=h
 cases rx
 obtain⟨u,rfl,ru⟩:=rv.one
 obtain⟨t,rfl⟩:=ru
 obtain⟨z,its,n,r,hl,e⟩:=I.lstM hH
 have lk:=(List.getElem?_eq_some_iff.mp hk).1
 have lits:its.length=ns.length:=by rw[<-hl,List.length_map]
 have at_:∀m (hm:m<its.length),∃i' t',ns[m]?=some i'/\its[m]=Value.int i' t':=λm hm=>zFM r m _ (List.getElem?_eq_getElem hm)
 refine call_meets F.slot_list_remove ⟨_,e,rfl⟩ F.entry_list_remove (F.args_list_remove_2 _ _)
  (MeetsSeq.list_remove l its.toArray n (.int i t) (λy=>match y with|.int j _=>j==i|_=>false) (λy hy=>?_) k (by rw[List.size_toArray];omega) ?_ (λm hm hmk=>?_) (by rw[List.size_toArray];omega)) ⟨e,?_⟩
 ·obtain⟨m,hm,rfl⟩:=List.mem_iff_getElem.mp (by simpa using hy:y∈its)
  obtain⟨i',t',_,e'⟩:=at_ m hm
  rw[e']
  exact MeetsSeq.EqGives.int _ _ _ _
 ·obtain⟨i',t',e1,e'⟩:=at_ k (by omega)
  rw[List.getElem_toArray,e']
  rw[hk]at e1;cases e1
  exact beq_self_eq_true i
 ·rw[List.size_toArray]at hm
  obtain⟨i',t',e1,e'⟩:=at_ m hm
  rw[List.getElem_toArray,e']
  exact beq_eq_false_iff_ne.mpr λz=>hl' m hmk (by rw[e1,z])
 refine⟨.non,_,I.lset (its':=its.eraseIdx k) hH e ?_ (by rw[<-oD];exact r.eraseIdx k) ?_,rfl,q⟩
 ·show its.toArray.eraseIdxIfInBounds k=(its.eraseIdx k).toArray
  rw[List.eraseIdxIfInBounds_toArray]
 ·rw[List.length_map,List.length_eraseIdx]
  rw[List.length_map]at z
  split<;>omega
section
variable{X:Cx}{F:Fm}{e:Expr}{u:UT}{x:Str}{p apos cpos:Pos}
theorem yB{K:W.Frag}{H:Hp}:∀{ys:List V}{ns:List Int},Paired (VA K H) ys (ns.map iT)->ys=ns.map V.int
 |[],[],_=>rfl
 |y::ys,n::ns,.cons v t=>by
  obtain⟨rfl,_⟩:=VA.leafI v
  rw[yB t]
  rfl
def zDG(i:Nat)(u:UT):UT:=λρ Q=>(∃Ts,ρ[i]?=some (.own Ts))/\u ρ λJ ρ1=>∃(j:Int) (n:Nat) (ns:List Int),J=iT j/\ρ1[i]?=some (.own (ns.map iT))/\ns[n]?=some j/\(∀m,m<n->ns[m]?≠some j)/\Q nT (ρ1.set i (.own ((ns.eraseIdx n).map iT)))
theorem zB3(i:Nat)(h:UE X F e u)(hN:X.N[i]?=some x:=by rfl)(hv:Vis X.env.scope x:=by first|exact Or.inl rfl|exact Or.inr (Or.inl rfl)|exact Or.inr (Or.inr rfl))(hd:(x==("__debug__":Str))=false:=by decide)(hcd:(x==("__classdict__":Str))=false:=by decide)
  (hbase:attributeBase (.Name x p) "remove" X.env (eval (.Name x p) X.env)=eval (.Name x p) X.env:=by rfl)
  (hfew:((backTo cpos (starEach [e] X.env)).all (λx=>!x.1)&&(backToKw cpos (keywordEach [] X.env)).all (λx=>x.1.isSome)&&decide (([e]:List Expr).length+([]:List Keyword).length+(if ([]:List Keyword).isEmpty then 0 else 1)<30))=true:=by rfl)
  (hline:(apos.endLine==cpos.line)=true:=by rfl) (hs:starEach [e] X.env=(false,eval e X.env)::starEach [] X.env:=by rfl) (hplain:(backTo cpos (starEach [] X.env)).any (·.1)=false:=by rfl) (hst:dO e=false:=by rfl):
  UE X F (.Call (.Attribute (.Name x p) "remove" apos) [e] [] cpos) (zDG i u):=⟨PE.imp (jY PySem.F.plainAttrs_list PySem.F.slot_list_remove PySem.F.type_list_remove zCt (gG hN hv hd hcd) (aA h aC hst).pa hbase hfew hline hs hplain) λσ H QQ ⟨ρ,Q,f,⟨⟨Ts0,e0⟩,hu⟩,k⟩=>by
 obtain⟨a,xs,ea,eH,e3,z,pv⟩:=f.at_ i _ e0
 refine⟨_,fO ea,.inl ⟨rfl,xs,SqL.of eH⟩,ρ,λas ρ1=>∃J,as=[.va J]/\∃(j:Int) (n:Nat) (ns:List Int),J=iT j/\ρ1[i]?=some (.own (ns.map iT))/\ns[n]?=some j/\(∀m,m<n->ns[m]?≠some j)/\Q nT (ρ1.set i (.own ((ns.eraseIdx n).map iT))),f,?_,λvs as H1 ρ1 s1 p1 q1=>?_⟩
 ·show u ρ _
  have:(λJ ρ1=>∃(j:Int) (n:Nat) (ns:List Int),J=iT j/\ρ1[i]?=some (.own (ns.map iT))/\ns[n]?=some j/\(∀m,m<n->ns[m]?≠some j)/\Q nT (ρ1.set i (.own ((ns.eraseIdx n).map iT))))=(λJ (ρ1:aT)=>(iX ρ1 λas ρ2=>∃J',Ar.va J::as=[.va J']/\∃(j:Int) (n:Nat) (ns:List Int),J'=iT j/\ρ2[i]?=some (.own (ns.map iT))/\ns[n]?=some j/\(∀m,m<n->ns[m]?≠some j)/\Q nT (ρ2.set i (.own ((ns.eraseIdx n).map iT)))) ):=by
   funext T ρ1
   apply propext
   constructor
   ·intro z;exact⟨T,rfl,z⟩
   ·rintro⟨T',e,z⟩;cases e;exact z
  rw[this]at hu
  exact hu
 ·obtain⟨J,rfl,j,n,ns,rfl,e1,eN,lN,q⟩:=q1
  cases p1 with
  |cons v t=>
   cases t
   obtain⟨rfl,_⟩:=VA.leafI v
   obtain⟨a',ys,ea',eH1,e3',z',pv'⟩:=s1.fr.at_ i _ e1
   rw[ea]at ea';cases ea'
   have ey:=yB pv'
   subst ey
   have s:=s1.fr.put (o':=.lst ((ns.eraseIdx n).map V.int)) e1 rfl ea eH1 rfl (s':=.own ((ns.eraseIdx n).map iT)) λhs h0=>⟨a,_,rfl,bE,h0,by rw[List.length_map]at z';rw[List.length_map,List.length_eraseIdx];split<;>omega,VAs.hs hs (by
    have:=pX n pv'
    rw[oD,oD]at this
    exact this)⟩
   exact⟨a,ns,j,n,rfl,rfl,eH1,eN,lN,k _ _ _ _ (s1.trans s) (.flat rfl) q⟩⟩
end
end L2
namespace My
open PySem L2 PyProof.Rows WordM
section
variable{P:Program}{w:World}{K:W.Frag}{mg:Str->Option Value}{base:Heap}
variable{n:Nat}
def kN6:List Nat:=[0,1,2,3,4,5]
def aU(f:List Pt)(k:Nat):Option Pt:=f.find? λp=>decide (aZ p=k)
def eP:Option Pt->Option Pt->Option Str
 |none,none=>none
 |none,some _=>some "come"
 |some _,none=>some "gone"
 |some p,some q=>if shP p q=true then(if shP q p=true then none else some "wider") else(if shP q p=true then some "narrower" else some "other")
def oO(n:Nat):PSp:=λas R=>∃o o':Option Pt,as=[.va (eZ o),.va (eZ o')]/\(∀p,o=some p->PW (n+1) p)/\(∀q,o'=some q->PW (n+1) q)/\(∀p q,o=some p->o'=some q->aZ q=aZ p)/\R (pM (eP o o'))
theorem C25_:bD ["old","new","forth","back"] ["old","new"] (aO vC):=fsc (by decide +kernel)
theorem zHE(h:Has K mg "way_of" vC)(B:Own mg)(G22_:aG P w K mg base 6 "shell_within" ["one","other"] (rP n))   : aG P w K mg base 7 "way_of" ["old","new"] (oO n):=by
 have nd:=C25_.nd
 refine h.pgood C25_ (fun|_,_,_,_,_,_,[_,_],_=>rfl) (λf cdv A outer s H E F hr=>
   (aE (bC (cP jX (aB 0) eD)
    (aL (aQ (kR (cP jX (aB 1) eD) eD aI)))
    bB)
   (aE (bC (cP jX (aB 1) eD)
    (aL (aQ aI))
    bB)
   (aE (aV 2 nd (aR G22_ hr (aA (aB 0) (aA (aB 1) aC))))
   (aE (aV 3 nd (aR G22_ hr (aA (aB 1) (aA (aB 0) aC))))
   (aE (bC (kC (nU (dN (aB 2)) (nF (dN (aB 3)))))
    (aL (aQ eD))
    bB)
   (aE (bC (dN (aB 2))
    (aL (aQ aI))
    bB)
   (aL (aQ (kR (dN (aB 3)) aI aI)))))))))) (λas R q=>?_)
 obtain⟨o,o',rfl,h1,h2,h3,q⟩:=q
 cases o with
 |none=>
  cases o' with
  |none=>exact⟨rfl,_,rfl,cC ⟨_,rfl,cC q⟩⟩
  |some p=>
   obtain⟨r,e,_⟩:=iI p
   rw[show eZ (some p)=.seq true (sT (bW p)::r) from e]
   exact⟨rfl,_,rfl,cC ⟨_,rfl,bF q⟩⟩
 |some p=>
  obtain⟨r,e,_⟩:=iI p
  have e:eZ (some p)=.seq true (sT (bW p)::r):=e
  cases o' with
  |none=>
   rw[e]
   exact⟨rfl,_,rfl,bF ⟨_,rfl,cC q⟩⟩
  |some q'=>
   obtain⟨r',e',_⟩:=iI q'
   have e':eZ (some q')=.seq true (sT (bW q')::r'):=e'
   have ea:[Ar.va (.seq true (sT (bW p)::r)),.va (.seq true (sT (bW q')::r'))]=[.va (aN p),.va (aN q')]:=by rw[<-e,<-e'];rfl
   have eb:[Ar.va (.seq true (sT (bW q')::r')),.va (.seq true (sT (bW p)::r))]=[.va (aN q'),.va (aN p)]:=by rw[<-e,<-e'];rfl
   rw[e,e']
   have kk:=h3 p q' rfl rfl
   have q:R (pM (if shP p q'=true then(if shP q' p=true then none else some "wider") else(if shP q' p=true then some "narrower" else some "other"))):=q
   refine⟨rfl,_,rfl,bF ⟨_,rfl,bF ⟨p,q',ea,h1 p rfl,h2 q' rfl,kk,q',p,eb,h2 q' rfl,h1 p rfl,kk.symm,?_⟩⟩⟩
   cases a:shP p q'<;>cases b:shP q' p
   all_goals rw[a,b]at q
   ·exact⟨_,rfl,bF ⟨_,rfl,bF ⟨_,rfl,bF q⟩⟩⟩
   ·exact⟨_,rfl,bF ⟨_,rfl,bF ⟨_,rfl,cC q⟩⟩⟩
   ·exact⟨_,rfl,cC ⟨_,rfl,bF ⟨_,rfl,cC q⟩⟩⟩
   ·exact⟨_,rfl,cC ⟨_,rfl,cC q⟩⟩
def iC(pl:List Tv)(k:Nat)(w:Str):Tv:=.seq true [.seq true pl,sT (cU k),sT w]
def cH(pl:List Tv)(f g:List Pt)(k:Nat):List Tv:=match eP (aU f k) (aU g k) with
 |none=>[]
 |some w=>[iC pl k w]
def cI(c:List Tv->List Pt->List Pt->List Tv)(pl:List Tv):Option Pt->Option Pt->List Tv
 |some p,some q=>(bX p q).flatMap λx=>c (pl++[x.1]) x.2.1 x.2.2
 |_,_=>[]
def chF:Nat->List Tv->List Pt->List Pt->List Tv
 |0,_,_,_=>[]
 |n+1,pl,f,g=>kN6.flatMap (cH pl f g)++kN6.flatMap λk=>cI (chF n) pl (aU f k) (aU g k)
def iZ:Nat->Nat
 |0=>0
 |n+1=>6+9*iZ n
theorem yC(pl:List Tv)(f g:List Pt)(k:Nat):(cH pl f g k).length<=1:=by
 unfold cH
 split<;>simp
theorem zDs{n:Nat}{p q:Pt}{k:Nat}(hp:PW (n+1) p)(hq:PW (n+1) q)(kp:aZ p=k)(kq:aZ q=k):(bX p q).length<=(if k=4 then 1 else if k=5 then 8 else 0):=by
 have:=(nD hp hq).1
 subst kp
 cases p<;>cases q<;>first|(simp[aZ]at kq;done)|skip
 all_goals first|exact Nat.le_refl _|exact Nat.le_refl 1|exact this|(simp[bX];done)
def FW(n:Nat)(f:List Pt):Prop:=f.length<=100/\∀p∈f,PW n p
theorem eI{n:Nat}{f:List Pt}(hf:FW n f){k:Nat}{p:Pt}(h:aU f k=some p):PW n p/\aZ p=k:=⟨hf.2 p (List.mem_of_find?_eq_some h),by simpa using List.find?_some h⟩
theorem nE{α:Type}(c:α->List Tv)(m:Nat):∀(l:List α),(∀x∈l,(c x).length<=m)->(l.flatMap c).length<=l.length*m
 |[],_=>by simp
 |x::l,h=>by
  rw[List.flatMap_cons,List.length_append,List.length_cons,Nat.succ_mul]
  have h1:=h x (.head _)
  have h2:=nE c m l λy hy=>h y (.tail _ hy)
  omega
theorem zDv{n:Nat}{f g:List Pt}{pl:List Tv}{k:Nat}(hf:FW (n+1) f)(hg:FW (n+1) g)(ih:∀pl f g,FW n f->FW n g->(chF n pl f g).length<=iZ n):(cI (chF n) pl (aU f k) (aU g k)).length<=(if k=4 then 1 else if k=5 then 8 else 0)*iZ n:=by
 cases ef:aU f k with
 |none=>exact Nat.zero_le _
 |some p=>
  cases eg:aU g k with
  |none=>exact Nat.zero_le _
  |some q=>
   obtain⟨hp,kp⟩:=eI hf ef
   obtain⟨hq,kq⟩:=eI hg eg
   have h1:=zDs hp hq kp kq
   have h2:=nE (λx:Tv×List Pt×List Pt=>chF n (pl++[x.1]) x.2.1 x.2.2) (iZ n) (bX p q) λx hx=>by
    have:=(nD hp hq).2 x hx
    exact ih _ _ _ ⟨this.1,this.2.2.1⟩ ⟨this.2.1,this.2.2.2⟩
   exact Nat.le_trans h2 (Nat.mul_le_mul_right _ h1)
theorem zR:∀(n:Nat) (pl:List Tv) (f g:List Pt),FW n f->FW n g->(chF n pl f g).length<=iZ n
 |0,_,_,_,_,_=>Nat.le_refl 0
 |n+1,pl,f,g,hf,hg=>by
  have h1:=nE (cH pl f g) 1 kN6 λk _=>yC pl f g k
  have d:=λk=>zDv (pl:=pl) (k:=k) hf hg (zR n)
  have d0:=d 0
  have d1:=d 1
  have d2:=d 2
  have d3:=d 3
  have d4:=d 4
  have d5:=d 5
  simp at d0 d1 d2 d3 d4 d5
  show(_++(kN6.flatMap λk=>cI (chF n) pl (aU f k) (aU g k))).length<=6+9*iZ n
  rw[List.length_append]
  have e:(kN6.flatMap λk=>cI (chF n) pl (aU f k) (aU g k)).length=(cI (chF n) pl (aU f 0) (aU g 0)).length+((cI (chF n) pl (aU f 1) (aU g 1)).length+((cI (chF n) pl (aU f 2) (aU g 2)).length+((cI (chF n) pl (aU f 3) (aU g 3)).length+((cI (chF n) pl (aU f 4) (aU g 4)).length+(cI (chF n) pl (aU f 5) (aU g 5)).length)))):=by
   simp[kN6]
  rw[e]
  have:kN6.length=6:=rfl
  rw[this]at h1
  simp only[d0,d1,d2,d3,List.length_nil]
  omega
end
end My
namespace My
open PySem L2 PyProof.Rows WordM
section
variable{P:Program}{w:World}{K:W.Frag}{mg:Str->Option Value}{base:Heap}
variable{m:Nat}
theorem mR{s t:UTs}{P:PEnds}{ρ:aT}{J:aT->Prop}(rest:∀ρ',J ρ'->t P ρ')(main:(∀ρ',J ρ'->t P ρ')->uP s t P ρ):uP s t P ρ:=main rest
theorem PW.le:∀{n m:Nat}{p:Pt},n<=m->PW n p->PW m p
 |0,_,_,_,h=>False.elim h
 |_+1,0,_,l,_=>absurd l (by omega)
 |n+1,m+1,p,l,h=>by
  have l':n<=m:=by omega
  cases p with
  |nothing=>trivial
  |truths bs=>exact h
  |numbers lo hi st=>exact h
  |texts w=>exact h
  |lists a b f=>exact⟨h.1,λp hp=>PW.le l' (h.2 p hp)⟩
  |record a b fs=>exact⟨h.1,h.2.1,λx hx=>⟨(h.2.2 x hx).1,(h.2.2 x hx).2.1,λp hp=>PW.le l' ((h.2.2 x hx).2.2 p hp)⟩⟩
  |table a b w f=>exact⟨h.1,h.2.1,h.2.2.1,λp hp=>PW.le l' (h.2.2.2 p hp)⟩
def lO(m:Nat):LSp:=λas R=>∃(n:Nat) (pl:List Tv) (f g:List Pt),n<m/\as=[.va (.seq true pl),.va (aX f),.va (aX g)]/\pl.length+n<=50/\n<=4/\FW n f/\FW n g/\R (chF n pl f g)
theorem C26_:bD ["place","old","new","here","deeper","kind","old_part","new_part","way","held"] ["place","old","new"] (aO pD):=fsc (by decide +kernel)
theorem zHD(h:Has K mg "changes_from" pD)(B:Own mg)(G16_:aG P w K mg base 2 "part_for" ["form","kind"] mT)(G25_:aG P w K mg base 7 "way_of" ["old","new"] (oO 3))(G24_:aG P w K mg base 2 "forms_held" ["one","other"] (oC 3))(G26_:fU P w K mg base (8+m) "changes_from" ["place","old","new"] (lO m))(GKINDS:fJ K mg "KINDS" (.seq true (kN6.map λk=>sT (cU k))))  : fU P w K mg base (8+m+1) "changes_from" ["place","old","new"] (lO (m+1)):=by
 have nd:=C26_.nd
 refine h.lgood C26_ (fun|_,_,_,_,_,_,[_,_,_],_=>rfl) (λf cdv A outer s H E F hr=>
   (sB (gK 3 nd (bM aC))
   (sB (gK 4 nd (bM aC))
   (sB (eC (m:=10) PassesOwn.never rfl (bR (oK GKINDS rfl)) (cN 5 (by decide) nd rfl (.inl rfl))
    (aE (aV 6 nd (aR G16_ hr (aA (aB 1) (aA (aB 5) aC))))
    (aE (aV 7 nd (aR G16_ hr (aA (aB 2) (aA (aB 5) aC))))
    (aE (aV 8 nd (aR G25_ hr (aA (aB 6) (aA (aB 7) aC))))
    (aE (bC (cP rL (aB 8) eD)
     (aL (fP (kO 3 (aJ (aA (aB 0) (aA (aB 5) (aA (aB 8) aC)))))))
     bB)
    (aL (bC (kC (nU (cP rL (aB 6) eD) (nF (cP rL (aB 7) eD))))
     (aL (eC (m:=10) PassesOwn.never rfl (bR (aR G24_ hr (aA (aB 6) (aA (aB 7) aC)))) (cN 9 (by decide) nd rfl (.inl rfl))
      (aL (fP (qI 4 (bA (tW G26_ (hr.mono (by omega)) rfl (aA (aW bH (aB 0) (aJ (aA (aH hr (aB 9) aD) aC))) (aA (aH hr (aB 9) aD) (aA (aH hr (aB 9) aD) aC))))))))))
     bB)))))))
   (zV (zED (aB 3) (aB 4))))))) (λas R q=>?_)
 obtain⟨n,pl,f,g,nm,rfl,pl50,n4,hf,hg,q⟩:=q
 cases n with
 |zero=>
  have ef:f=[]:=by
   cases f with
   |nil=>rfl
   |cons p f=>exact False.elim (hf.2 p (.head _))
  have eg:g=[]:=by
   cases g with
   |nil=>rfl
   |cons p f=>exact False.elim (hg.2 p (.head _))
  subst ef;subst eg
  refine⟨rfl,by simp,by simp,?_⟩
  refine eW (λi ρ=>∃s5 s6 s7 s8 s9:Sl,ρ=[.va (.seq true pl),.va (aX []),.va (aX []),.own [],.own [],s5,s6,s7,s8,s9]) ⟨.no,.no,.no,.no,.no,rfl⟩ ?_ ?_
  ·rintro i T _ N hT ⟨s5,s6,s7,s8,s9,rfl⟩ hN
   have hT:(kN6.map λk=>sT (cU k))[i]?=some T:=hT
   rw[List.getElem?_map,Option.map_eq_some_iff]at hT
   obtain⟨k,hk,rfl⟩:=hT
   have hk6:k<=5:=by
    have:=List.mem_of_getElem? hk
    simp only[kN6,List.mem_cons,List.not_mem_nil,or_false]at this
    omega
   exact⟨[],k,rfl,hk6,[],k,rfl,hk6,none,none,rfl,(λp e=>nomatch e),(λp e=>nomatch e),(λp q e=>nomatch e),_,rfl,bF ⟨_,rfl,bF (bF (hN _ ⟨_,_,_,_,_,rfl⟩))⟩⟩
  ·rintro _ ⟨s5,s6,s7,s8,s9,rfl⟩
   exact⟨_,_,rfl,rfl,by simp,q⟩
 |succ n=>
  refine⟨rfl,by simp,by simp,?_⟩
  have tk1:∀(c:Nat->List Tv) (i k:Nat),kN6[i]?=some k->(kN6.take (i+1)).flatMap c=(kN6.take i).flatMap c++c k:=λc i k h=>by
   rw[List.take_add_one,List.flatMap_append,h];simp
  have dl:(kN6.flatMap λk=>cI (chF n) pl (aU f k) (aU g k)).length<=5000:=by
   have h1:=zR (n+1) pl f g hf hg
   have h2:(chF (n+1) pl f g).length=(kN6.flatMap (cH pl f g)).length+(kN6.flatMap λk=>cI (chF n) pl (aU f k) (aU g k)).length:=List.length_append
   have h3:iZ (n+1)<=5000:=by
    have:n=0\/n=1\/n=2\/n=3:=by omega
    rcases this with rfl|rfl|rfl|rfl<;>decide
   omega
  have hl:∀i,((kN6.take i).flatMap (cH pl f g)).length<=6:=λi=>by
   have:=nE (cH pl f g) 1 (kN6.take i) λk _=>yC pl f g k
   have h2:(kN6.take i).length<=6:=by rw[List.length_take];exact Nat.min_le_right _ _
   omega
  show PEnds.nx _ _
  refine nxE (ρ':=[.va (.seq true pl),.va (aX f),.va (aX g),.own [],.own [],.no,.no,.no,.no,.no]) rfl ?_
  refine eW (λi ρ=>∃s5 s6 s7 s8 s9:Sl,ρ=[.va (.seq true pl),.va (aX f),.va (aX g),.own ((kN6.take i).flatMap (cH pl f g)),.own ((kN6.take i).flatMap λk=>cI (chF n) pl (aU f k) (aU g k)),s5,s6,s7,s8,s9]) ⟨.no,.no,.no,.no,.no,rfl⟩ ?_ ?_
  ·rintro i T _ N hT ⟨s5,s6,s7,s8,s9,rfl⟩ hN
   have hT:(kN6.map λk=>sT (cU k))[i]?=some T:=hT
   rw[List.getElem?_map,Option.map_eq_some_iff]at hT
   obtain⟨k,hk,rfl⟩:=hT
   have hk6:k<=5:=by
    have:=List.mem_of_getElem? hk
    simp only[kN6,List.mem_cons,List.not_mem_nil,or_false]at this
    omega
   have e1:=tk1 (cH pl f g) i k hk
   have e2:=tk1 (λk=>cI (chF n) pl (aU f k) (aU g k)) i k hk
   have l1:=hl (i+1)
   have l2:((kN6.take (i+1)).flatMap λk=>cI (chF n) pl (aU f k) (aU g k)).length<=5000:=by
    refine Nat.le_trans ?_ dl
    conv=>rhs;rw[<-List.take_append_drop (i+1) kN6]
    rw[List.flatMap_append,List.length_append]
    omega
   have hN:∀s5 s6 s7 s8 s9,N [.va (.seq true pl),.va (aX f),.va (aX g),.own ((kN6.take (i+1)).flatMap (cH pl f g)),.own ((kN6.take (i+1)).flatMap λk=>cI (chF n) pl (aU f k) (aU g k)),s5,s6,s7,s8,s9]:=λs5 s6 s7 s8 s9=>hN _ ⟨s5,s6,s7,s8,s9,rfl⟩
   rw[e1]at l1 hN
   rw[e2]at l2 hN
   generalize (kN6.take i).flatMap (cH pl f g)=HL at l1 hN
   generalize ((kN6.take i).flatMap λk=>cI (chF n) pl (aU f k) (aU g k))=DL at l2 hN
   refine⟨f,k,rfl,hk6,g,k,rfl,hk6,aU f k,aU g k,rfl,λp e=>(eI hf e).1.le (by omega),λp e=>(eI hg e).1.le (by omega),λp p' e e'=>(eI hg e').2.trans (eI hf e).2.symm,?_⟩
   show PEnds.nx _ _
   refine nxE (ρ':=[.va (.seq true pl),.va (aX f),.va (aX g),.own HL,.own DL,.va (sT (cU k)),.va (eZ (aU f k)),.va (eZ (aU g k)),.va (pM (eP (aU f k) (aU g k))),s9]) rfl ?_
   dsimp only
   refine mR (J:=λρ'=>∃s8:Sl,ρ'=[.va (.seq true pl),.va (aX f),.va (aX g),.own (HL++cH pl f g k),.own DL,.va (sT (cU k)),.va (eZ (aU f k)),.va (eZ (aU g k)),s8,s9]) ?rest (λrest=>?main)
   case main=>
    cases ew:eP (aU f k) (aU g k) with
    |none=>
     have eh:cH pl f g k=[]:=by unfold cH;rw[ew]
     rw[eh,List.append_nil]at rest
     exact⟨_,rfl,bF (rest _ ⟨_,rfl⟩)⟩
    |some w=>
     have eh:cH pl f g k=[iC pl k w]:=by unfold cH;rw[ew]
     rw[eh]at l1 rest
     exact⟨_,rfl,cC ⟨⟨_,rfl⟩,by simp,_,rfl,by rw[List.length_append]at l1;omega,rest _ ⟨_,rfl⟩⟩⟩
   case rest=>
    rintro _ ⟨s8,rfl⟩
    cases ef:aU f k with
    |none=>
     rw[ef,show DL++cI (chF n) pl none (aU g k)=DL from List.append_nil DL]at hN
     exact⟨_,rfl,bF (bF (hN _ _ _ _ _))⟩
    |some p=>
     obtain⟨r,e,_⟩:=iI p
     have e:eZ (some p)=.seq true (sT (bW p)::r):=e
     cases eg:aU g k with
     |none=>
      rw[ef,eg,show DL++cI (chF n) pl (some p) none=DL from List.append_nil DL]at hN
      rw[e]
      exact⟨_,rfl,cC ⟨_,rfl,bF (hN _ _ _ _ _)⟩⟩
     |some p'=>
      obtain⟨r',e',_⟩:=iI p'
      have e':eZ (some p')=.seq true (sT (bW p')::r'):=e'
      rw[ef,eg]at hN l2
      obtain⟨hp,kp⟩:=eI hf ef
      obtain⟨hp',kp'⟩:=eI hg eg
      have ea:[Ar.va (.seq true (sT (bW p)::r)),.va (.seq true (sT (bW p')::r'))]=[.va (aN p),.va (aN p')]:=by rw[<-e,<-e'];rfl
      rw[e,e']
      refine⟨_,rfl,cC ⟨_,rfl,cC ⟨p,p',ea,hp.le (by omega),hp'.le (by omega),kp'.trans kp.symm,?_⟩⟩⟩
      have hm:=(nD hp hp').2
      have e3:cI (chF n) pl (some p) (some p')=(bX p p').flatMap λx=>chF n (pl++[x.1]) x.2.1 x.2.2:=rfl
      rw[e3]at hN l2
      generalize bX p p'=hs at hm hN l2
      refine nR gR (l:=hs) (λj ρ=>∃s9:Sl,ρ=[.va (.seq true pl),.va (aX f),.va (aX g),.own (HL++cH pl f g k),.own (DL++(hs.take j).flatMap λx=>chF n (pl++[x.1]) x.2.1 x.2.2),.va (sT (cU k)),.va (.seq true (sT (bW p)::r)),.va (.seq true (sT (bW p')::r')),s8,s9]) ⟨s9,by simp⟩ ?_ ?_
      ·rintro j x _ N' hx ⟨s9,rfl⟩ hN'
       have hxm:=hm x (List.mem_of_getElem? hx)
       have et:(hs.take (j+1)).flatMap (λx=>chF n (pl++[x.1]) x.2.1 x.2.2)=(hs.take j).flatMap (λx=>chF n (pl++[x.1]) x.2.1 x.2.2)++chF n (pl++[x.1]) x.2.1 x.2.2:=by
        rw[List.take_add_one,List.flatMap_append,hx];simp
       have lt:(DL++(hs.take (j+1)).flatMap λx=>chF n (pl++[x.1]) x.2.1 x.2.2).length<=5000:=by
        refine Nat.le_trans ?_ l2
        rw[List.length_append,List.length_append]
        conv=>rhs;rw[<-List.take_append_drop (j+1) hs]
        rw[List.flatMap_append,List.length_append]
        omega
       have hN':=hN' _ ⟨.va (gR x),rfl⟩
       rw[et,<-List.append_assoc]at hN' lt
       generalize (DL++(hs.take j).flatMap λx=>chF n (pl++[x.1]) x.2.1 x.2.2)=DJ at hN' lt
       rw[List.length_append]at lt
       refine⟨⟨_,rfl⟩,_,at0,by simp,by simp;omega,_,aY (j:=1) rfl,_,aY (j:=2) rfl,n,pl++[x.1],x.2.1,x.2.2,by omega,rfl,by simp;omega,by omega,⟨hxm.1,hxm.2.2.1⟩,⟨hxm.2.1,hxm.2.2.2⟩,?_⟩
       exact⟨_,_,rfl,rfl,by omega,hN'⟩
      ·rintro _ ⟨s9,rfl⟩
       rw[List.take_length]
       exact hN _ _ _ _ _
  ·rintro _ ⟨s5,s6,s7,s8,s9,rfl⟩
   have e6:kN6.take (kN6.map λk=>sT (cU k)).length=kN6:=rfl
   rw[e6]
   have h6:=hl 6
   have q:R (kN6.flatMap (cH pl f g)++kN6.flatMap λk=>cI (chF n) pl (aU f k) (aU g k)):=q
   have e7:kN6.take 6=kN6:=rfl
   rw[e7]at h6
   exact⟨_,_,rfl,rfl,by omega,q⟩
theorem zAv(h:Has K mg "changes_from" pD)(B:Own mg)(G1:aG P w K mg base 2 "part_for" ["form","kind"] mT)(G2:aG P w K mg base 7 "way_of" ["old","new"] (oO 3))(G3:aG P w K mg base 2 "forms_held" ["one","other"] (oC 3))(GK:fJ K mg "KINDS" (.seq true (kN6.map λk=>sT (cU k)))):∀m:Nat,fU P w K mg base (8+m) "changes_from" ["place","old","new"] (lO m)
 |0=>h.lgood C26_ (fun|_,_,_,_,_,_,[_,_,_],_=>rfl) (us:=λ_ _=>False) (λ_ _ _ _ _ _ _ _ _=>zCW) λas R ⟨_,_,_,_,h,_⟩=>absurd h (Nat.not_lt_zero _)
 |m+1=>zHD h B G1 G2 G3 (zAv h B G1 G2 G3 GK m) GK
def qV:LSp:=λas R=>∃(n:Nat) (f g:List Pt),as=[.va (aX f),.va (aX g)]/\n<=4/\FW n f/\FW n g/\R (chF n [] f g)
theorem C27_:bD ["old","new"] ["old","new"] (aO vB):=fsc (by decide +kernel)
theorem zHC(h:Has K mg "changes" vB)(B:Own mg)(G26_:fU P w K mg base 13 "changes_from" ["place","old","new"] (lO 5))   : fU P w K mg base 14 "changes" ["old","new"] qV:=by
 have nd:=C27_.nd
 refine h.lgood C27_ (fun|_,_,_,_,_,_,[_,_],_=>rfl) (λf cdv A outer s H E F hr=>
   (zV (tW G26_ (hr.mono (by omega)) rfl (aA (aJ aC) (aA (aB 0) (aA (aB 1) aC)))))) (λas R q=>?_)
 obtain⟨n,f,g,rfl,n4,hf,hg,q⟩:=q
 exact⟨rfl,by simp,n,[],f,g,by omega,rfl,by simp;omega,n4,hf,hg,q⟩
end
end My
namespace My
open PySem L2 PyProof.Rows WordM
section
variable{P:Program}{w:World}{K:W.Frag}{mg:Str->Option Value}{base:Heap}
theorem jK{W W2:Wd}(h1:WdW W)(h2:WdW W2):(dW W W2).isNone=true↔∀x,bP W x=true->bP W2 x=true:=by
 have s:=wF h1
 have e:(dW W W2).isNone=(jR W).all λt=>bP W2 t:=yH
 rw[e,List.all_eq_true]
 exact⟨λh=>s.2 W2 h2 h,λh t ht=>h t (s.1 t ht).1⟩
theorem zDP{n:Nat}{p:Pt}(h:PW (n+1) p):shP p p=true:=by
 cases p with
 |nothing=>rfl
 |truths bs=>simp[shP]
 |numbers lo hi st=>
  obtain⟨h1,h2,h3,h4⟩:=h
  show fI lo hi st lo hi st=true
  unfold fI gL cT
  simp only[List.all_cons,List.all_nil,Bool.and_eq_true,decide_eq_true_eq,and_true]
  by_cases z:st=0
  ·have:=h3.mp z
   subst z;subst this
   refine⟨⟨⟨Int.le_refl _,Int.le_refl _⟩,?_⟩,⟨⟨Int.le_refl _,Int.le_refl _⟩,?_⟩,⟨by omega,by omega⟩,?_⟩<;>simp
  ·have m:=h4 z
   have ne:lo≠hi:=λe=>z (h3.mpr e)
   have mx:max 1 st=st:=by omega
   have:=Int.le_of_dvd (by omega) (Int.dvd_of_emod_eq_zero m)
   rw[mx]
   refine⟨⟨⟨Int.le_refl _,h1⟩,by simp⟩,⟨⟨h1,Int.le_refl _⟩,m⟩,⟨by omega,by omega⟩,?_⟩
   rw[show lo+st-lo=st by omega];exact Int.emod_self
 |texts w=>exact(jK h h).mpr λx hx=>hx
 |lists a b f=>simp[shP,bdB]
 |record a b fs=>simp[shP,bdB]
 |table a b w f=>
  show(bdB a b a b&&(dW w w).isNone)=true
  rw[(jK h.1 h.1).mpr λx hx=>hx]
  simp[bdB]
theorem qW{p:Pt}:∀x∈bX p p,x.2.1=x.2.2:=by
 intro x hx
 cases p with
 |lists a b f=>rw[List.mem_singleton.mp hx]
 |table a b w f=>rw[List.mem_singleton.mp hx]
 |record a b fs=>
  obtain⟨y,_,rfl⟩:=List.mem_map.mp hx
  rfl
 |_=>cases hx
theorem rA{n:Nat}{f:List Pt}(hf:FW (n+1) f)(k:Nat):eP (aU f k) (aU f k)=none:=by
 cases e:aU f k with
 |none=>rfl
 |some p=>
  have:=zDP (eI hf e).1
  show(if shP p p=true then(if shP p p=true then none else _) else _)=none
  rw[if_pos this,if_pos this]
theorem kT{α:Type}{c:α->List Tv}{l:List α}(h:∀x∈l,c x=[]):l.flatMap c=[]:=List.flatMap_eq_nil_iff.mpr h
theorem qE{n:Nat}{p q:Pt}(hp:PW (n+1) p)(hq:PW (n+1) q)(h:∀x∈bX p q,x.2.1=x.2.2)(ih:∀pl f,FW n f->chF n pl f f=[])(pl:List Tv):cI (chF n) pl (some p) (some q)=[]:=by
 refine kT λx hx=>?_
 have:=(nD hp hq).2 x hx
 rw[<-h x hx]
 exact ih _ _ ⟨this.1,this.2.2.1⟩
theorem iJ:∀(n:Nat) (pl:List Tv) (f:List Pt),FW n f->chF n pl f f=[]
 |0,_,_,_=>rfl
 |n+1,pl,f,hf=>by
  have h1:kN6.flatMap (cH pl f f)=[]:=kT λk _=>by unfold cH;rw[rA hf k]
  have h2:(kN6.flatMap λk=>cI (chF n) pl (aU f k) (aU f k))=[]:=kT λk _=>by
   cases e:aU f k with
   |none=>rfl
   |some p=>
    have hp:=(eI hf e).1
    exact qE hp hp qW (iJ n) pl
  show _++_=_
  rw[h1,h2];rfl
theorem zAz{α:Type}{k:Nat}(h:k<=5){c:Nat->List α}{r:List α}(h1:∀j∈kN6,j≠k->c j=[])(h2:c k=r):kN6.flatMap c=r:=by
 have hk:k=0\/k=1\/k=2\/k=3\/k=4\/k=5:=by omega
 have z:∀j,j<=5->j≠k->c j=[]:=λj hj=>h1 j (by simp only[kN6,List.mem_cons,List.not_mem_nil,or_false];omega)
 rcases hk with rfl|rfl|rfl|rfl|rfl|rfl<;>simp only[kN6,List.flatMap_cons,List.flatMap_nil,h2]<;>simp[z]
theorem mL{n k:Nat}{pl:List Tv}{f g:List Pt}{w:Str}(hk:k<=5)(hf:FW (n+1) f)(hg:FW (n+1) g)(same:∀j,j≠k->aU f j=aU g j)(hw:eP (aU f k) (aU g k)=some w)(hd:∀p q,aU f k=some p->aU g k=some q->∀x∈bX p q,x.2.1=x.2.2):chF (n+1) pl f g=[iC pl k w]:=by
 have h1:kN6.flatMap (cH pl f g)=[iC pl k w]:=zAz hk (λj _ hj=>by unfold cH;rw[<-same j hj,rA hf j]) (by unfold cH;rw[hw])
 have h2:(kN6.flatMap λj=>cI (chF n) pl (aU f j) (aU g j))=[]:=kT λj _=>by
  cases e:aU f j with
  |none=>rfl
  |some p=>
   cases e':aU g j with
   |none=>rfl
   |some q=>
    have hp:=(eI hf e).1
    have hq:=(eI hg e').1
    refine qE hp hq (λx hx=>?_) (iJ n) pl
    by_cases z:j=k
    ·subst z;exact hd p q e e' x hx
    ·rw[same j z]at e
     rw[e]at e';cases e'
     exact qW x hx
 show _++_=_
 rw[h1,h2];rfl
theorem pW{n k:Nat}{pl:List Tv}{f g F G:List Pt}{p q:Pt}{s:Tv}(hk:k<=5)(hF:FW (n+1) F)(same:∀j,j≠k->aU F j=aU G j)(e1:aU F k=some p)(e2:aU G k=some q)(s1:shP p q=true)(s2:shP q p=true)(hh:bX p q=[(s,f,g)]):chF (n+1) pl F G=chF n (pl++[s]) f g:=by
 have h1:kN6.flatMap (cH pl F G)=[]:=kT λj _=>by
  unfold cH
  by_cases z:j=k
  ·subst z
   have ww:eP (some p) (some q)=none:=by
    show(if shP p q=true then(if shP q p=true then none else _) else _)=none
    rw[if_pos s1,if_pos s2]
   rw[e1,e2,ww]
  ·rw[<-same j z,rA hF j]
 have h2:(kN6.flatMap λj=>cI (chF n) pl (aU F j) (aU G j))=chF n (pl++[s]) f g:=zAz hk (λj _ hj=>by
  rw[<-same j hj]
  cases e:aU F j with
  |none=>rfl
  |some p=>
   have hp:=(eI hF e).1
   exact qE hp hp qW (iJ n) pl) (by
  rw[e1,e2]
  show(bX p q).flatMap _=_
  rw[hh];simp)
 show _++_=_
 rw[h1,h2];rfl
end
end My
namespace My
open PySem L2 PyProof.Rows WordM
section
variable{P:Program}{w:World}{K:W.Frag}{mg:Str->Option Value}{base:Heap}
theorem qX(p:Pt)(l:List Pt)(j:Nat):aU (p::l) j=if aZ p=j then some p else aU l j:=by
 unfold aU
 rw[List.find?_cons]
 by_cases z:aZ p=j
 ·rw[decide_eq_true z,if_pos z]
 ·rw[decide_eq_false z,if_neg z]
def arF(w:Int)(nm:Str)(f:List Pt):List Pt:=if w=0 then [.lists 0 2 f] else if w=1 then [.nothing,.record 1 1 [(nm,true,f)]] else [.table 0 3 (.make ⟨#[]⟩ 0 2 ["small"]) f]
def arS(w:Int)(nm:Str):Tv:=if w=0 then .seq true [sT "items"] else if w=1 then .seq true [sT "field",sT nm] else .seq true [sT "values"]
theorem uI:WdW (.make ⟨#[]⟩ 0 2 ["small"]):=WdOk.wk ⟨⟨tP,by decide⟩,by decide,by decide,by decide,by decide,by decide,by simp⟩
theorem uJ{n:Nat}{w:Int}{nm:Str}{f:List Pt}(hf:FW n f)(hs:Sg nm)(hl:nm.length<=200):FW (n+1) (arF w nm f):=by
 unfold arF
 split
 ·refine⟨by simp,λp hp=>?_⟩
  rw[List.mem_singleton.mp hp]
  exact hf
 ·split
  ·refine⟨by simp,λp hp=>?_⟩
   simp only[List.mem_cons,List.not_mem_nil,or_false]at hp
   rcases hp with rfl|rfl
   ·trivial
   ·refine⟨by simp,by simp,λx hx=>?_⟩
    rw[List.mem_singleton.mp hx]
    exact⟨⟨hs,hl⟩,hf⟩
  ·refine⟨by simp,λp hp=>?_⟩
   rw[List.mem_singleton.mp hp]
   exact⟨uI,rfl,hf⟩
theorem xN{n:Nat}{w:Int}{nm:Str}{f g:List Pt}{pl:List Tv}(hf:FW n f)(hs:Sg nm)(hl:nm.length<=200):chF (n+1) pl (arF w nm f) (arF w nm g)=chF n (pl++[arS w nm]) f g:=by
 have hF:=uJ (w:=w) hf hs hl
 unfold arF arS at *
 split at hF
 ·rename_i z
  rw[if_pos z,if_pos z,if_pos z]
  exact pW (k:=4) (by decide) hF (λj hj=>by simp[qX,aZ,Ne.symm hj]) rfl rfl (by simp[shP,bdB]) (by simp[shP,bdB]) rfl
 ·split at hF
  ·rename_i z0 z
   rw[if_neg z0,if_neg z0,if_neg z0,if_pos z,if_pos z,if_pos z]
   refine pW (k:=5) (p:=.record 1 1 [(nm,true,f)]) (q:=.record 1 1 [(nm,true,g)]) (by decide) hF (λj hj=>?_) ?_ ?_ ?_ ?_ ?_
   ·simp[qX,aZ,Ne.symm hj]
   ·rfl
   ·rfl
   ·simp[shP,bdB,nmF,dX]
   ·simp[shP,bdB,nmF,dX]
   ·simp[bX,nmF,bhF,fdT]
  ·rename_i z0 z
   rw[if_neg z0,if_neg z0,if_neg z0,if_neg z,if_neg z,if_neg z]
   have ws:=(jK uI uI).mpr λx hx=>hx
   exact pW (k:=5) (by decide) hF (λj hj=>by simp[qX,aZ,Ne.symm hj]) rfl rfl (by simp[shP,bdB,ws]) (by simp[shP,bdB,ws]) rfl
def rV:PSp:=λas R=>∃(w:Int) (nm:Str) (f:List Pt),as=[.va (iT w),.va (sT nm),.va (aX f)]/\R (.seq true [aX (arF w nm f),arS w nm])
theorem C43_:bD ["_law_way","_law_name","_law_form_here"] ["_law_way","_law_name","_law_form_here"] (aO uR):=fsc (by decide +kernel)
theorem zHp(h:Has K mg "_law_around" uR)(B:Own mg)    : aG P w K mg base 1 "_law_around" ["_law_way","_law_name","_law_form_here"] rV:=by
 have nd:=C43_.nd
 refine h.pgood C43_ (fun|_,_,_,_,_,_,[_,_,_],_=>rfl) (λf cdv A outer s H E F hr=>
   (aE (bC (bL hr (aB 0) aD)
    (aL (aQ (aJ (aA (aJ (aA (aJ (aA aI (aA aD (aA aD (aA (aB 2) aC))))) aC)) (aA (aJ (aA aI aC)) aC)))))
    bB)
   (aE (bC (bL hr (aB 0) aD)
    (aL (aQ (aJ (aA (aJ (aA (aJ (aA aI aC)) (aA (aJ (aA aI (aA aD (aA aD (aA (aJ (aA (aJ (aA (aB 1) (aA cO (aA (aB 2) aC)))) aC)) aC))))) aC))) (aA (aJ (aA aI (aA (aB 1) aC))) aC)))))
    bB)
   (aL (aQ (aJ (aA (aJ (aA (aJ (aA aI (aA aD (aA aD (aA (aJ (aA aI (aA aI (aA aD (aA aD (aA (aJ (aA aI aC)) aC)))))) (aA (aB 2) aC)))))) aC)) (aA (aJ (aA aI aC)) aC)))))))) (λas R q=>?_)
 obtain⟨w,nm,f,rfl,q⟩:=q
 unfold arF arS at q
 refine⟨rfl,_,rfl,dE (λz=>?_) (λz=>⟨_,rfl,dE (λz1=>?_) (λz1=>?_)⟩)⟩
 ·rw[if_pos z,if_pos z,show aX [.lists 0 2 f]=.seq true [aN (.lists 0 2 f)] from rfl,eG]at q
  exact⟨by simp,by simp,by simp,by simp,q⟩
 ·rw[if_neg z,if_neg z,if_pos z1,if_pos z1,show aX [.nothing,.record 1 1 [(nm,true,f)]]=.seq true [aN .nothing,aN (.record 1 1 [(nm,true,f)])] from rfl,bJ,jD]at q
  exact⟨by simp,by simp,by simp,by simp,by simp,by simp,by simp,q⟩
 ·rw[if_neg z,if_neg z,if_neg z1,if_neg z1,show aX [.table 0 3 (.make ⟨#[]⟩ 0 2 ["small"]) f]=.seq true [aN (.table 0 3 (.make ⟨#[]⟩ 0 2 ["small"]) f)] from rfl,cW]at q
  exact⟨by simp,by simp,by simp,by simp,by simp,by simp,q⟩
theorem qY:∀{q:List Tv},(∀s∈q,L2.eqT s s=true)->bU q q=true
 |[],_=>by simp[bU]
 |s::q,h=>by rw[bU,h s (.head _),qY λx hx=>h x (.tail _ hx)];rfl
def vL(L:List Tv):Prop:=∀U∈L,EqD 40 U/\L2.eqT U U=true
def tQ:PSp:=λas R=>∃(n:Nat) (f g:List Pt),as=[.va (aX f),.va (aX g),.va (.seq false (chF n [] f g))]/\n<=4/\FW n f/\FW n g/\vL (chF n [] f g)/\R (bT true)
theorem C45_:bD ["_law_old","_law_new","_law_due","_law_turn","_law_found"] ["_law_old","_law_new","_law_due"] (aO uQ):=fsc (by decide +kernel)
theorem zHn(h:Has K mg "_law_told" uQ)(B:Own mg)(G27_:fU P w K mg base 14 "changes" ["old","new"] qV)   : aG P w K mg base 15 "_law_told" ["_law_old","_law_new","_law_due"] tQ:=by
 have nd:=C45_.nd
 refine h.pgood C45_ (fun|_,_,_,_,_,_,[_,_,_],_=>rfl) (λf cdv A outer s H E F hr=>
   (aE (eC (m:=5) PassesOwn.never rfl (gC rfl B.range (aA aD aC)) (cN 3 (by decide) nd rfl (.inl rfl))
    (aE (gK 4 nd (tW G27_ (hr.mono (by omega)) rfl (aA (aB 0) (aA (aB 1) aC))))
    (aE (bC (sE λF=>(kC (zAA (fS (dN (zEE "list" zBp rfl B.isinstance (aB 4) (zD6 (v:=.ty "list") rfl B.list_ boot_list rfl)))) (zU (sE λF=>(zAP hr (aB 4) (aB 2)))))))
     (aL (aQ cO))
     bB)
    (aL (fP (zCY 4))))))
   (aL (aQ cO)))) (λas R q=>?_)
 obtain⟨n,f,g,rfl,n4,hf,hg,ok,q⟩:=q
 refine⟨rfl,2,rfl,by decide,by decide,?_⟩
 refine eW (λi ρ=>∃s3 s4:Sl,ρ=[.va (aX f),.va (aX g),.va (.seq false (chF n [] f g)),s3,s4]) ⟨.no,.no,rfl⟩ ?_ (λ_ ⟨_,_,e⟩=>by subst e;exact q)
 rintro i T _ N hT ⟨s3,s4,rfl⟩ hN
 refine⟨n,f,g,rfl,n4,hf,hg,?_⟩
 show PEnds.nx _ _
 refine nxE (ρ':=[.va (aX f),.va (aX g),.va (.seq false (chF n [] f g)),.va T,.own (chF n [] f g)]) rfl ?_
 refine⟨_,rfl,bF ⟨.inr (.inr ⟨λU hU=>(ok U hU).1,λU hU=>(ok U hU).1⟩),_,rfl,?_⟩⟩
 dsimp only
 rw[qY λU hU=>(ok U hU).2]
 exact bF ⟨_,rfl,hN _ ⟨_,_,rfl⟩⟩
end
end My
namespace My
open PySem L2 PyProof.Rows WordM
section
variable{P:Program}{w:World}{K:W.Frag}{mg:Str->Option Value}{base:Heap}
def fA(k:Nat)(w:Str):Tv:=.seq true [sT (cU k),sT w]
def uO(U:Tv):Prop:=EqD 38 U/\L2.eqT U U=true
theorem zGz(w:Int)(nm:Str):uO (arS w nm):=by
 unfold arS
 split
 ·exact⟨λU hU=>by rw[List.mem_singleton.mp hU];trivial,by simp[L2.eqT,bU,eqV]⟩
 ·split
  ·refine⟨λU hU=>?_,by simp[L2.eqT,bU,eqV]⟩
   simp only[List.mem_cons,List.not_mem_nil,or_false]at hU
   rcases hU with rfl|rfl<;>trivial
  ·exact⟨λU hU=>by rw[List.mem_singleton.mp hU];trivial,by simp[L2.eqT,bU,eqV]⟩
theorem zAj{pl:List Tv}{k:Nat}{w:Str}(h:∀U∈pl,uO U):vL [iC pl k w]:=λU hU=>by
 rw[List.mem_singleton.mp hU]
 refine⟨λV hV=>?_,?_⟩
 ·simp only[List.mem_cons,List.not_mem_nil,or_false]at hV
  rcases hV with rfl|rfl|rfl
  ·exact λW hW=>(h W hW).1
  ·trivial
  ·trivial
 ·unfold iC
  simp[L2.eqT,bU,eqV,qY λW hW=>(h W hW).2]
structure Hld (n k:Nat) (w1 w2:Str) (st:List Tv) (f g:List Pt):Prop where
 hf:FW n f
 hg:FW n g
 fo:∀pl,chF n pl f g=[iC (pl++st) k w1]
 ba:∀pl,chF n pl g f=[iC (pl++st) k w2]
 so:∀U∈st,uO U
theorem Hld.up{n k:Nat}{w1 w2:Str}{st:List Tv}{f g:List Pt}(h:Hld n k w1 w2 st f g)(w:Int){nm:Str}(hs:Sg nm)(hl:nm.length<=200):Hld (n+1) k w1 w2 (arS w nm::st) (arF w nm f) (arF w nm g):=by
 refine⟨uJ h.hf hs hl,uJ h.hg hs hl,λpl=>?_,λpl=>?_,λU hU=>?_⟩
 ·rw[xN h.hf hs hl,h.fo,List.append_assoc];rfl
 ·rw[xN h.hg hs hl,h.ba,List.append_assoc];rfl
 ·rcases List.mem_cons.mp hU with rfl|hU
  ·exact zGz w nm
  ·exact h.so U hU
def rS:PSp:=λas R=>∃nm tx st sp,∃(f g:List Pt) (k:Nat) (w1 w2:Str),as=[.dk,.va (bQ nm tx st sp),.va (.seq false [aX f,aX g]),.va (.seq false [fA k w1,fA k w2])]/\jQ nm tx st sp/\Hld 2 k w1 w2 [] f g/\R (bT true)
theorem C46_:bD ["_law_deck_here","_law_world_here","_law_rows","_law_due","_law_place","_law_k","_law_way","_law_around_here","_law_word"] ["_law_deck_here","_law_world_here","_law_rows","_law_due"] (aO lY):=fsc (by decide +kernel)
theorem zHm(h:Has K mg "_law_held" lY)(B:Own mg)(G30_:aG P w K mg base 2 "_law_take" ["_law_deck_here","_law_most"] eK)(G43_:aG P w K mg base 1 "_law_around" ["_law_way","_law_name","_law_form_here"] rV)(G45_:aG P w K mg base 15 "_law_told" ["_law_old","_law_new","_law_due"] tQ)   : aG P w K mg base 16 "_law_held" ["_law_deck_here","_law_world_here","_law_rows","_law_due"] rS:=by
 have nd:=C46_.nd
 refine h.pgood C46_ (fun|_,_,_,_,_,_,[_,_,_,_],_=>rfl) (λf cdv A outer s H E F hr=>
   (aE (aV 4 nd (aJ aC))
   (aE (eC (m:=9) PassesOwn.never rfl (gC rfl B.range (aA (aR G30_ hr (bK 0 (aA aD aC))) aC)) (cN 5 (by decide) nd rfl (.inr rfl))
    (aE (aV 6 nd (aR G30_ hr (bK 0 (aA aD aC))))
    (aE (iU (sc:=aO lY) (XN:=["_law_deck_here","_law_world_here","_law_rows","_law_due","_law_place","_law_k","_law_way","_law_around_here","_law_word"]) (N:=["_law_form_here","_law_world_here","_law_k","_law_way"]) (fr:=[1,5,6]) 7 nd (bR (aB 2)) (λ_ _ _ _ _=>gF) (λ_ _ _ _ _=>(aR G43_ hr (aA (aB 3) (aA (aH hr (aH hr (aB 1) aD) (aB 2)) (aA (aB 0) aC))))))
    (aE (iU (sc:=aO lY) (XN:=["_law_deck_here","_law_world_here","_law_rows","_law_due","_law_place","_law_k","_law_way","_law_around_here","_law_word"]) (N:=["_law_row"]) (fr:=[]) 2 nd (bR (aB 7)) (λ_ _ _ _ _=>gF) (λ_ _ _ _ _=>(aH hr (aB 0) aD)))
    (aL (aV 4 nd (aW bH (aJ (aA (aH hr (aH hr (aB 7) aD) aD) aC)) (aB 4))))))))
   (aE (eC (m:=9) PassesOwn.never rfl (yO rfl B.enumerate (aA (aB 3) aC)) (tM 2 rfl (jI (cN 5 (by decide) nd rfl (.inr rfl)) (jI (tM 2 rfl (jI (cN 8 (by decide) nd rfl (.inl rfl)) (jI (cN 6 (by decide) nd rfl (.inr rfl)) sC))) sC)))
    (aL (bC (kC (zAA (fS (dN (aR G45_ hr (aA (aH hr (aB 2) (aW iO (aB 5) aD)) (aA (aH hr (aB 2) (aW iN aD (aW iO (aB 5) aD))) (aA (bA (bM (aA (aJ (aA (aB 4) (aA (aB 8) (aA (aB 6) aC)))) aC))) aC)))))) (zU (fS (dN (aR G45_ hr (aA (aH hr (aB 2) (aB 5)) (aA (aH hr (aB 2) (aB 5)) (aA (bA (bM aC)) aC)))))))))
     (aL (aQ cO))
     bB)))
   (aL (aQ cO)))))) (λas R q=>?_)
 obtain⟨nm,tx,st,sp,f,g,k,w1,w2,rfl,hw,hh,q⟩:=q
 refine⟨rfl,by simp,rfl,3,rfl,by decide,bN (by decide) (by decide),λm m0 m3=>⟨_,rfl,by omega,by omega,?_⟩⟩
 refine eW (λi ρ=>∃(f g:List Pt) (ss:List Tv) (s5 s6 s7:Sl),i<=2/\ss.length=i/\Hld (2+i) k w1 w2 ss f g/\ρ=[.dk,.va (bQ nm tx st sp),.va (.seq false [aX f,aX g]),.va (.seq false [fA k w1,fA k w2]),.va (.seq true ss),s5,s6,s7,.no]) ⟨f,g,[],.no,.no,.no,by omega,rfl,hh,rfl⟩ ?_ ?_
 ·rintro i T _ N hT ⟨f,g,ss,s5,s6,s7,i2,sl,hh,rfl⟩ hN
  obtain⟨im,rfl⟩:=jJ hT
  rw[show(0:Int)+(i:Nat)=(i:Nat) by omega]
  have il:i<nm.length:=by rw[hw.n11];omega
  have hx:=hw.ns nm[i] (List.getElem_mem il)
  have hix:atI (nm.map sT) (i:Nat)=some (sT nm[i]):=aY (by rw[List.getElem?_map,List.getElem?_eq_getElem il];rfl)
  generalize nm[i]=x at hx hix
  refine⟨rfl,3,rfl,by decide,bN (by decide) (by decide),λr r0 r1=>?_⟩
  show PEnds.nx _ _
  refine nxE (ρ':=[.dk,.va (bQ nm tx st sp),.va (.seq false [aX f,aX g]),.va (.seq false [fA k w1,fA k w2]),.va (.seq true ss),.va (iT (i:Nat)),.va (iT r),s7,.no]) rfl ?_
  refine⟨by simp,cM aX (λy=>.seq true [aX (arF r x y),arS r x]) (l:=[f,g]) (λy hy R q=>⟨_,at0,_,hix,r,x,y,rfl,q⟩) ?_⟩
  show PEnds.nx _ _
  refine nxE (ρ':=[.dk,.va (bQ nm tx st sp),.va (.seq false [aX f,aX g]),.va (.seq false [fA k w1,fA k w2]),.va (.seq true ss),.va (iT (i:Nat)),.va (iT r),.va (.seq false ([f,g].map λy=>.seq true [aX (arF r x y),arS r x])),.no]) rfl ?_
  refine⟨by simp,cM (λy=>.seq true [aX (arF r x y),arS r x]) (λy=>aX (arF r x y)) (l:=[f,g]) (λy hy R q=>⟨_,at0,q⟩) ?_⟩
  exact⟨_,at0,_,aY (j:=1) rfl,by simp,by simp;omega,hN _ ⟨arF r x f,arF r x g,arS r x::ss,_,_,_,by omega,by rw[List.length_cons,sl],hh.up r hx.1 (Nat.le_trans hx.2 (by decide)),rfl⟩⟩
 ·rintro _ ⟨f,g,ss,s5,s6,s7,i2,sl,hh,rfl⟩
  generalize hn:2+(fW 0 m.toNat).length=n at hh
  have n4:n<=4:=by omega
  refine⟨_,rfl,?_⟩
  refine eW (λi ρ=>∃s5 s6 s8:Sl,ρ=[.dk,.va (bQ nm tx st sp),.va (.seq false [aX f,aX g]),.va (.seq false [fA k w1,fA k w2]),.va (.seq true ss),s5,s6,s7,s8]) ⟨_,_,_,rfl⟩ ?_ (λ_ ⟨_,_,_,e⟩=>by subst e;exact q)
  rintro j T _ N hT ⟨s5,s6,s8,rfl⟩ hN
  have f1:=hh.fo []
  have f2:=hh.ba []
  rw[List.nil_append]at f1 f2
  have hT:[Tv.seq true [iT 0,fA k w1],.seq true [iT 1,fA k w2]][j]?=some T:=hT
  have:=List.mem_of_getElem? hT
  simp only[List.mem_cons,List.not_mem_nil,or_false]at this
  have z0:vL ([]:List Tv):=λU hU=>nomatch hU
  rcases this with rfl|rfl
  ·refine⟨_,rfl,rfl,_,_,rfl,_,_,rfl,_,rfl,rfl,_,_,rfl,_,_,rfl,rfl,rfl,?_⟩
   refine⟨by decide,_,at0,by decide,_,aY (j:=1) rfl,by simp,by simp,n,f,g,by rw[f1];rfl,n4,hh.hf,hh.hg,by rw[f1];exact zAj hh.so,_,rfl,bF ?_⟩
   exact⟨_,at0,_,at0,by simp,n,f,f,by rw[iJ n [] f hh.hf],n4,hh.hf,hh.hf,by rw[iJ n [] f hh.hf];exact z0,_,rfl,bF (hN _ ⟨_,_,_,rfl⟩)⟩
  ·refine⟨_,rfl,rfl,_,_,rfl,_,_,rfl,_,rfl,rfl,_,_,rfl,_,_,rfl,rfl,rfl,?_⟩
   refine⟨by decide,_,aY (j:=1) rfl,by decide,_,at0,by simp,by simp,n,g,f,by rw[f2];rfl,n4,hh.hg,hh.hf,by rw[f2];exact zAj hh.so,_,rfl,bF ?_⟩
   exact⟨_,aY (j:=1) rfl,_,aY (j:=1) rfl,by simp,n,g,g,by rw[iJ n [] g hh.hg],n4,hh.hg,hh.hg,by rw[iJ n [] g hh.hg];exact z0,_,rfl,bF (hN _ ⟨_,_,_,rfl⟩)⟩
end
end My
namespace My
open PySem L2 PyProof.Rows WordM
section
variable{P:Program}{w:World}{K:W.Frag}{mg:Str->Option Value}{base:Heap}
def OT:List Pt:=[.nothing,.truths [true],.numbers (-1) (-1) 0,.texts (.few [⟨#[]⟩]),.lists 0 0 [],.record 0 0 []]
theorem zGA{k:Nat}(h:k<=5):∃p,OT[k]?=some p/\aZ p=k/\PW 2 p:=by
 have h1:k=0\/k=1\/k=2\/k=3\/k=4\/k=5:=by omega
 rcases h1 with e|e|e|e|e|e<;>subst e
 ·exact⟨_,rfl,rfl,trivial⟩
 ·exact⟨_,rfl,rfl,.inr (.inl rfl)⟩
 ·exact⟨_,rfl,rfl,by decide,by decide,by decide,by decide⟩
 ·exact⟨_,rfl,rfl,WdOk.wk ⟨by decide,by decide,List.pairwise_singleton _ _,λt ht=>by rw[List.mem_singleton.mp ht];exact⟨tP,by decide⟩⟩⟩
 ·exact⟨_,rfl,rfl,by decide,(λp hp=>(nomatch hp))⟩
 ·exact⟨_,rfl,rfl,by decide,.nil,(λp hp=>(nomatch hp))⟩
structure OthOk (k:Nat) (L:List Pt):Prop where
 len:L.length<=3
 pw:∀p∈L,PW 2 p/\aZ p≠k
 nd:(L.map aZ).Nodup
theorem zAy:OT.map aN=[.seq true [sT "nothing"],.seq true [sT "truths",.seq true [bT true]],.seq true [sT "numbers",iT (-1),iT (-1),iT 0],.seq true [sT "texts",.seq true [sT "few",.seq true [sT ""]]],.seq true [sT "lists",iT 0,iT 0,.seq true []],.seq true [sT "record",iT 0,iT 0,.seq true []]]:=by
 simp only[OT,List.map_cons,List.map_nil,jD,gA,fE,gB,eG,bJ]
 rfl
def rR:PSp:=λas R=>∃k:Nat,as=[.dk,.va (iT k)]/\k<=5/\∀L,OthOk k L->R (.seq false (L.map aN))
theorem zET{k:Nat}(h:k<=5):([0,1,2,3,4,5]:List Int)[k]?=some (k:Int)/\(∀m,m<k->([0,1,2,3,4,5]:List Int)[m]?≠some (k:Int))/\∃rs:List Nat,([0,1,2,3,4,5]:List Int).eraseIdx k=rs.map (λj:Nat=>(j:Int))/\rs.Nodup/\rs.length=5/\∀j∈rs,j<=5/\j≠k:=by
 have h1:k=0\/k=1\/k=2\/k=3\/k=4\/k=5:=by omega
 rcases h1 with e|e|e|e|e|e<;>subst e
 ·exact⟨rfl,by decide,[1,2,3,4,5],rfl,by decide,rfl,by decide⟩
 ·exact⟨rfl,by decide,[0,2,3,4,5],rfl,by decide,rfl,by decide⟩
 ·exact⟨rfl,by decide,[0,1,3,4,5],rfl,by decide,rfl,by decide⟩
 ·exact⟨rfl,by decide,[0,1,2,4,5],rfl,by decide,rfl,by decide⟩
 ·exact⟨rfl,by decide,[0,1,2,3,5],rfl,by decide,rfl,by decide⟩
 ·exact⟨rfl,by decide,[0,1,2,3,4],rfl,by decide,rfl,by decide⟩
theorem C41_:bD ["_law_deck_here","_law_kind","_law_other","_law_some"] ["_law_deck_here","_law_kind"] (aO oZ):=fsc (by decide +kernel)
theorem zHr(h:Has K mg "_law_others" oZ)(B:Own mg)(G30_:aG P w K mg base 2 "_law_take" ["_law_deck_here","_law_most"] eK)   : aG P w K mg base 3 "_law_others" ["_law_deck_here","_law_kind"] rR:=by
 have nd:=C41_.nd
 refine h.pgood C41_ (fun|_,_,_,_,_,_,[_,_],_=>rfl) (λf cdv A outer s H E F hr=>
   (aE (gK 2 nd (bM (aA (aJ (aA aI aC)) (aA (aJ (aA aI (aA (aJ (aA cO aC)) aC))) (aA (aJ (aA aI (aA (oJ nZ aD) (aA (oJ nZ aD) (aA aD aC))))) (aA (aJ (aA aI (aA (aJ (aA aI (aA (aJ (aA aI aC)) aC))) aC))) (aA (aJ (aA aI (aA aD (aA aD (aA (aJ aC) aC))))) aC)))))))
   (aE (fP (kO 2 (aJ (aA aI (aA aD (aA aD (aA (aJ aC) aC)))))))
   (aE (gK 3 nd (bM (aA aD (aA aD (aA aD (aA aD (aA aD (aA aD aC))))))))
   (aE (fP (zB3 3 (aB 1)))
   (aL (aQ (bA (eM (sc:=aO oZ) (XN:=["_law_deck_here","_law_kind","_law_other","_law_some"]) (N:=["_law_k","_law_deck_here","_law_other","_law_some"]) (fr:=[0,2,3]) (gC rfl B.range (aA (aR G30_ hr (bK 0 (aA aD aC))) aC)) (λ_ _ _ _ _=>(rF 2 (zCX 3 (aR G30_ hr (bK 1 (aA (sD λF=>(cX eJ rfl B.len PySem.boot_len (aA (aB 3) aC))) aC))))))))))))))) (λas R q=>?_)
 obtain⟨k,rfl,hk,q⟩:=q
 obtain⟨r1,r2,rs0,er,nd0,l5,all5⟩:=zET hk
 refine⟨rfl,by simp,by simp,by simp,by simp,by simp,by simp,by simp,by simp,by simp,by simp,?_⟩
 show PEnds.nx _ _
 refine nxE (ρ':=[.dk,.va (iT k),.own ((OT.take 5).map aN),.no]) (by rw[List.map_take,zAy];rfl) ?_
 refine⟨⟨_,rfl⟩,by simp,by simp,_,rfl,by simp[OT],?_⟩
 show PEnds.nx _ _
 refine nxE (ρ':=[.dk,.va (iT k),.own (OT.map aN),.no]) (by rw[List.map_take,zAy];rfl) ?_
 refine⟨by simp,?_⟩
 show PEnds.nx _ _
 refine nxE (ρ':=[.dk,.va (iT k),.own (OT.map aN),.own (([0,1,2,3,4,5]:List Int).map iT)]) rfl ?_
 refine⟨⟨_,rfl⟩,k,k,[0,1,2,3,4,5],rfl,rfl,r1,r2,?_⟩
 show PEnds.nx _ _
 rw[er]
 refine nxE (ρ':=[.dk,.va (iT k),.own (OT.map aN),.own (rs0.map λj:Nat=>iT (j:Int))]) (by rw[List.map_map];rfl) ?_
 refine⟨rfl,4,rfl,by decide,bN (by decide) (by decide),λn n0 n1=>⟨_,rfl,by omega,by omega,by rw[iG];omega,?_⟩⟩
 refine zCI (λi Us ρ=>∃(ps rs:List Nat) (L:List Pt),Us=L.map aN/\L.map aZ=ps/\(∀p∈L,PW 2 p)/\ps.length=i/\(ps++rs).Perm rs0/\ρ=[.dk,.va (iT k),.own (OT.map aN),.own (rs.map λj:Nat=>iT (j:Int))]) ⟨[],rs0,[],rfl,rfl,(λp hp=>(nomatch hp)),rfl,List.Perm.refl _,rfl⟩ ?_ ?_
 ·rintro i T _ _ hT ⟨ps,rs,L,rfl,eL,hL,hl,hp,rfl⟩ R hR
  have hi:=(jJ hT).1
  have hlen:=hp.length_eq
  rw[List.length_append,l5]at hlen
  refine⟨⟨_,rfl⟩,⟨_,rfl⟩,rfl,_,rfl,((rs.map λj:Nat=>iT (j:Int)).length:Nat),rfl,by rw[List.length_map];omega,by rw[List.length_map];exact bN (by omega) (by omega),λr r0 r1=>?_⟩
  rw[List.length_map]at r1
  have hx:rs[r.toNat]?=some (rs[r.toNat]'(by omega)):=List.getElem?_eq_getElem _
  generalize rs[r.toNat]'(by omega)=x at hx
  have xk:=all5 x (hp.mem_iff.mp (List.mem_append_right _ (List.mem_of_getElem? hx)))
  obtain⟨p,ep,kp,hpw⟩:=zGA xk.1
  refine⟨r,_,iT (x:Int),rfl,rfl,r0,by rw[List.getElem?_map,hx];rfl,(x:Int),_,aN p,rfl,rfl,aY (by rw[List.getElem?_map,ep];rfl),hR (some (aN p)) _ ⟨ps++[x],rs.eraseIdx r.toNat,L++[p],by rw[List.map_append];rfl,by rw[List.map_append,eL,<-kp];rfl,λp' hp'=>?_,by rw[List.length_append,hl];rfl,zDc hp hx,?_⟩⟩
  ·rcases List.mem_append.mp hp' with h|h
   ·exact hL p' h
   ·rw[List.mem_singleton.mp h];exact hpw
  ·show [Sl.dk,.va (iT k),.own (OT.map aN),.own ((rs.map λj:Nat=>iT (j:Int)).eraseIdx r.toNat)]=_
   rw[wZ]
 ·rintro _ _ ⟨ps,rs,L,rfl,eL,hL,hl,hp,rfl⟩
  rw[iG]at hl
  have hnd:ps.Nodup:=(hp.nodup_iff.mpr nd0).sublist (List.sublist_append_left _ _)
  refine q L ⟨?_,λp hpm=>⟨hL p hpm,(all5 (aZ p) (hp.mem_iff.mp (List.mem_append_left _ (by rw[<-eL];exact List.mem_map.mpr ⟨p,hpm,rfl⟩)))).2⟩,by rw[eL];exact hnd⟩
  rw[<-List.length_map aZ,eL];omega
def wd7:List Str:=["nothing","truths","numbers","texts","lists","record","table"]
def srt(L:List Pt):List Pt:=wd7.flatMap λw=>L.filter λp=>decide (bW p=w)
theorem srt_mem{L:List Pt}{p:Pt}:p∈srt L↔p∈L:=by
 unfold srt
 rw[List.mem_flatMap]
 constructor
 ·rintro⟨w,_,h⟩
  exact(List.mem_filter.mp h).1
 ·intro h
  refine⟨bW p,?_,List.mem_filter.mpr ⟨h,decide_eq_true rfl⟩⟩
  cases p<;>simp[bW,wd7]
theorem sG(L:List Pt):(srt L).length<=7*L.length:=by
 unfold srt
 have:∀(l:List Str),(l.flatMap λw=>L.filter λp=>decide (bW p=w)).length<=l.length*L.length:=λl=>by
  induction l with
  |nil=>simp
  |cons w l ih=>
   rw[List.flatMap_cons,List.length_append,List.length_cons,Nat.succ_mul]
   have:=List.length_filter_le (λp=>decide (bW p=w)) L
   omega
 exact this wd7
def rO:PSp:=λas R=>∃L:List Pt,as=[.va (.seq false (L.map aN))]/\L.length<=10/\R (aX (srt L))
theorem C42_:bD ["_law_parts","_law_found","_law_word"] ["_law_parts"] (aO oY):=fsc (by decide +kernel)
theorem zHq(h:Has K mg "_law_sorted" oY)(B:Own mg)    : aG P w K mg base 1 "_law_sorted" ["_law_parts"] rO:=by
 have nd:=C42_.nd
 refine h.pgood C42_ (fun|_,_,_,_,_,_,[_],_=>rfl) (λf cdv A outer s H E F hr=>
   (aE (gK 1 nd (bM aC))
   (aE (eC (m:=3) PassesOwn.never rfl (bR (bA (bM (aA aI (aA aI (aA aI (aA aI (aA aI (aA aI (aA aI aC)))))))))) (cN 2 (by decide) nd rfl (.inr rfl))
    (aL (fP (qI 1 (bA (gI (sc:=aO oY) (XN:=["_law_parts","_law_found","_law_word"]) (N:=["_law_part_here","_law_word"]) (fr:=[2]) (bR (aB 0)) (λ_ _ _ _ _=>(fR (bL hr (aH hr (aB 0) aD) (aB 1)))) (λ_ _ _ _ _=>(aB 0))))))))
   (aL (aQ (fM fN rfl B.tuple_ boot_tuple (aA (aB 1) aC))))))) (λas R q=>?_)
 obtain⟨L,rfl,ll,q⟩:=q
 refine⟨rfl,by simp,by simp,?_⟩
 refine eW (λi ρ=>∃s:Sl,ρ=[.va (.seq false (L.map aN)),.own (((wd7.take i).flatMap λw=>L.filter λp=>decide (bW p=w)).map aN),s]) ⟨.no,rfl⟩ ?_ ?_
 ·rintro i T _ N hT ⟨s,rfl⟩ hN
  have hT:(wd7.map sT)[i]?=some T:=hT
  rw[List.getElem?_map,Option.map_eq_some_iff]at hT
  obtain⟨w,hw,rfl⟩:=hT
  refine⟨⟨_,rfl⟩,by rw[List.length_map];omega,dQ aN (λp=>if bW p=w then some (aN p) else none) (λp hp R q=>?_) ?_⟩
  ·obtain⟨r,e,_⟩:=iI p
   rw[e]
   rw[e]at q
   refine⟨_,at0,_,rfl,fV (λz=>?_) (λz=>?_)⟩
   ·rw[if_pos z]at q;exact q
   ·rw[if_neg z]at q;exact q
  ·have ef:(L.filterMap λp=>if bW p=w then some (aN p) else none)=(L.filter λp=>decide (bW p=w)).map aN:=by
    rw[<-gW]
    congr 1
    funext p
    by_cases z:bW p=w<;>simp[z]
   rw[ef]
   have et:(wd7.take (i+1)).flatMap (λw=>L.filter λp=>decide (bW p=w))=(wd7.take i).flatMap (λw=>L.filter λp=>decide (bW p=w))++L.filter λp=>decide (bW p=w):=by
    rw[List.take_add_one,List.flatMap_append,hw];simp
   have hN:=hN _ ⟨.va (sT w),rfl⟩
   have l1:=List.length_filter_le (λp=>decide (bW p=w)) L
   have l2:((wd7.take i).flatMap λw=>L.filter λp=>decide (bW p=w)).length<=70:=by
    have:=sG L
    unfold srt at this
    conv at this=>lhs;rw[<-List.take_append_drop i wd7]
    rw[List.flatMap_append,List.length_append]at this
    omega
   rw[et,List.map_append]at hN
   exact⟨_,_,rfl,rfl,by rw[List.length_map,List.length_map];omega,hN⟩
 ·rintro _ ⟨s,rfl⟩
  exact⟨_,_,rfl,q⟩
end
end My
namespace My
open PySem L2 PyProof.Rows WordM
section
variable{P:Program}{w:World}{K:W.Frag}{mg:Str->Option Value}{base:Heap}
structure Pr (k:Nat) (w1 w2:Str) (a b:Pt):Prop where
 ha:PW 2 a
 hb:PW 2 b
 ka:aZ a=k
 kb:aZ b=k
 wy:eP (some a) (some b)=some w1
 bk:eP (some b) (some a)=some w2
 q1:∀x∈bX a b,x.2.1=x.2.2
 q2:∀x∈bX b a,x.2.1=x.2.2
theorem Pr.wide{k:Nat}{a b:Pt}(ha:PW 2 a)(hb:PW 2 b)(ka:aZ a=k)(kb:aZ b=k)(s1:shP a b=true)(s2:shP b a=false)(q1:∀x∈bX a b,x.2.1=x.2.2)(q2:∀x∈bX b a,x.2.1=x.2.2):Pr k "wider" "narrower" a b:=by
 refine⟨ha,hb,ka,kb,?_,?_,q1,q2⟩
 ·simp[eP,s1,s2]
 ·simp[eP,s1,s2]
theorem Pr.cross{k:Nat}{a b:Pt}(ha:PW 2 a)(hb:PW 2 b)(ka:aZ a=k)(kb:aZ b=k)(s1:shP a b=false)(s2:shP b a=false)(q1:∀x∈bX a b,x.2.1=x.2.2)(q2:∀x∈bX b a,x.2.1=x.2.2):Pr k "other" "other" a b:=by
 refine⟨ha,hb,ka,kb,?_,?_,q1,q2⟩
 ·simp[eP,s1,s2]
 ·simp[eP,s1,s2]
def Uq(f:List Pt):Prop:=∀p∈f,∀q∈f,aZ p=aZ q->p=q
theorem Uq.find{f:List Pt}(u:Uq f){p:Pt}(h:p∈f):aU f (aZ p)=some p:=by
 cases e:aU f (aZ p) with
 |none=>exact absurd (decide_eq_true rfl) (List.find?_eq_none.mp e p h)
 |some q=>rw[u q (List.mem_of_find?_eq_some e) p h (by simpa using List.find?_some e)]
theorem tF{f:List Pt}{j:Nat}(h:∀p∈f,aZ p≠j):aU f j=none:=List.find?_eq_none.mpr λp hp=>by simpa using h p hp
theorem uF:∀{L:List Pt},(L.map aZ).Nodup->Uq L
 |[],_=>λp hp=>nomatch hp
 |x::L,h=>by
  rw[List.map_cons,List.nodup_cons]at h
  intro p hp q hq e
  rcases List.mem_cons.mp hp with e1|hp'
  ·rcases List.mem_cons.mp hq with e2|hq'
   ·rw[e1,e2]
   ·rw[e1]at e
    exact absurd (List.mem_map.mpr ⟨q,hq',e.symm⟩) h.1
  ·rcases List.mem_cons.mp hq with e2|hq'
   ·rw[e2]at e
    exact absurd (List.mem_map.mpr ⟨p,hp',e⟩) h.1
   ·exact uF h.2 p hp' q hq' e
theorem OthOk.uq{k:Nat}{O:List Pt}(h:OthOk k O):Uq (srt O):=λp hp q hq e=>uF h.nd p (srt_mem.mp hp) q (srt_mem.mp hq) e
theorem OthOk.uq1{k:Nat}{O:List Pt}(h:OthOk k O){a:Pt}(ka:aZ a=k):Uq (srt (O++[a])):=λp hp q hq e=>by
 have hp:=srt_mem.mp hp
 have hq:=srt_mem.mp hq
 rcases List.mem_append.mp hp with hp|hp
 ·rcases List.mem_append.mp hq with hq|hq
  ·exact uF h.nd p hp q hq e
  ·rw[List.mem_singleton.mp hq,ka]at e
   exact absurd e (h.pw p hp).2
 ·rcases List.mem_append.mp hq with hq|hq
  ·rw[List.mem_singleton.mp hp,ka]at e
   exact absurd e.symm (h.pw q hq).2
  ·rw[List.mem_singleton.mp hp,List.mem_singleton.mp hq]
theorem OthOk.fw{k:Nat}{O:List Pt}(h:OthOk k O):FW 2 (srt O):=⟨by have:=sG O;have:=h.len;omega,λp hp=>(h.pw p (srt_mem.mp hp)).1⟩
theorem OthOk.fw1{k:Nat}{O:List Pt}(h:OthOk k O){a:Pt}(ha:PW 2 a):FW 2 (srt (O++[a])):=⟨by have h1:=sG (O++[a]);have h2:=h.len;rw[List.length_append,List.length_singleton]at h1;omega,λp hp=>by
 rcases List.mem_append.mp (srt_mem.mp hp) with hp|hp
 ·exact(h.pw p hp).1
 ·rw[List.mem_singleton.mp hp];exact ha⟩
theorem OthOk.at1{k:Nat}{O:List Pt}(h:OthOk k O){a:Pt}(ka:aZ a=k):aU (srt (O++[a])) k=some a:=by
 have:=(h.uq1 ka).find (srt_mem.mpr (List.mem_append_right _ (List.mem_singleton.mpr rfl)))
 rwa[ka]at this
theorem OthOk.at0{k:Nat}{O:List Pt}(h:OthOk k O):aU (srt O) k=none:=tF λp hp=>(h.pw p (srt_mem.mp hp)).2
theorem OthOk.else1{k:Nat}{O:List Pt}(h:OthOk k O){a:Pt}(ka:aZ a=k){j:Nat}(hj:j≠k):aU (srt (O++[a])) j=aU (srt O) j:=by
 by_cases z:∃p∈O,aZ p=j
 ·obtain⟨p,hp,rfl⟩:=z
  rw[(h.uq1 ka).find (srt_mem.mpr (List.mem_append_left _ hp)),h.uq.find (srt_mem.mpr hp)]
 ·rw[tF (f:=srt O) λp hp e=>z ⟨p,srt_mem.mp hp,e⟩,tF λp hp e=>?_]
  rcases List.mem_append.mp (srt_mem.mp hp) with hp|hp
  ·exact z ⟨p,hp,e⟩
  ·rw[List.mem_singleton.mp hp,ka]at e;exact hj e.symm
theorem wW{k:Nat}{w1 w2:Str}{a b:Pt}{O:List Pt}(p:Pr k w1 w2 a b)(h:OthOk k O)(hk:k<=5):Hld 2 k w1 w2 [] (srt (O++[a])) (srt (O++[b])):=by
 refine⟨h.fw1 p.ha,h.fw1 p.hb,λpl=>?_,λpl=>?_,λU hU=>nomatch hU⟩
 ·rw[List.append_nil]
  exact mL hk (h.fw1 p.ha) (h.fw1 p.hb) (λj hj=>by rw[h.else1 p.ka hj,h.else1 p.kb hj]) (by rw[h.at1 p.ka,h.at1 p.kb];exact p.wy) (λx y ex ey=>by rw[h.at1 p.ka]at ex;rw[h.at1 p.kb]at ey;cases ex;cases ey;exact p.q1)
 ·rw[List.append_nil]
  exact mL hk (h.fw1 p.hb) (h.fw1 p.ha) (λj hj=>by rw[h.else1 p.ka hj,h.else1 p.kb hj]) (by rw[h.at1 p.ka,h.at1 p.kb];exact p.bk) (λx y ex ey=>by rw[h.at1 p.kb]at ex;rw[h.at1 p.ka]at ey;cases ex;cases ey;exact p.q2)
theorem zCJ{k:Nat}{a:Pt}{O:List Pt}(ha:PW 2 a)(ka:aZ a=k)(h:OthOk k O)(hk:k<=5):Hld 2 k "come" "gone" [] (srt O) (srt (O++[a])):=by
 refine⟨h.fw,h.fw1 ha,λpl=>?_,λpl=>?_,λU hU=>nomatch hU⟩
 ·rw[List.append_nil]
  exact mL hk h.fw (h.fw1 ha) (λj hj=>(h.else1 ka hj).symm) (by rw[h.at1 ka,h.at0];rfl) (λx y ex ey=>by rw[h.at0]at ex;cases ex)
 ·rw[List.append_nil]
  exact mL hk (h.fw1 ha) h.fw (λj hj=>h.else1 ka hj) (by rw[h.at1 ka,h.at0];rfl) (λx y ex ey=>by rw[h.at0]at ey;cases ey)
end
end My
namespace My
open PySem L2 PyProof.Rows WordM
section
variable{P:Program}{w:World}{K:W.Frag}{mg:Str->Option Value}{base:Heap}
def Wid(W V:Wd):Prop:=WdW W/\WdW V/\(∀x,bP W x=true->bP V x=true)/\∃x,bP V x=true/\bP W x=false
theorem kE:dA 97="small"/\dA 98="small"/\97∈cs SIG/\98∈cs SIG:=by decide +kernel
theorem few_let{ss:List Str}{x:Str}:bP (.few ss) x=true↔x∈ss:=decide_eq_true_iff
theorem nO{W:Wd}{x:Str}(h:¬ bP W x=true):bP W x=false:=Bool.eq_false_iff.mpr h
theorem zGF{y:Str}{S:List Str}(hr:gM (y::S))(l1:1<=S.length)(l6:S.length<=5)(hs:∀t∈y::S,Sg t/\t.length<=200):Wid (.few S) (.few (y::S)):=by
 have hc:=List.pairwise_cons.mp hr
 refine⟨⟨l1,by omega,hc.2,λt ht=>hs t (.tail _ ht)⟩,⟨by simp,by simp;omega,hr,hs⟩,λx hx=>few_let.mpr (.tail _ (few_let.mp hx)),y,few_let.mpr (.head _),nO λz=>?_⟩
 have:=hc.1 y (few_let.mp z)
 exact absurd this (List.lt_irrefl _)
theorem xY{ms:List Str}(sub:ms.Sublist MK){l:List Str}(hl:∀x,x∈l↔x∈ms\/x="small"):(bZ (bO l)).Sublist MK/\bZ (bO l)≠[]/\∀x,x∈bZ (bO l)↔x∈ms\/x="small":=by
 have hm:∀x,x∈bZ (bO l)↔x∈ms\/x="small":=λx=>sort_set_mem.trans (hl x)
 refine⟨rJ (zBi _) zEh λx hx=>?_,λe=>?_,hm⟩
 ·rcases (hm x).mp hx with h|rfl
  ·exact sub.subset h
  ·decide +kernel
 ·have:=(hm "small").mpr (.inr rfl)
  rw[e]at this;cases this
theorem zGE{h:Str}{lo hi:Int}{ms:List Str}(m:MkD h lo hi ms):Wid (.few [h++cB 97 (max 1 lo)]) (.make h lo hi (bZ (bO (ms++[("small":Str)])))):=by
 obtain⟨m1,m2,m3⟩:=xY m.sub (l:=ms++[("small":Str)]) λx=>by simp
 have:=m.a0
 have:=m.a3
 have:=m.ab
 have:=m.b1
 have:=m.b6
 have hl:=m.h3.2
 have lt:∀c,c=97\/c=98->bP (.make h lo hi (bZ (bO (ms++[("small":Str)])))) (h++cB c (max 1 lo))=true:=λc hc=>letW_make.mpr ⟨List.replicate (max 1 lo).toNat c,by rw[WordM.app,dS],by rw[List.length_replicate];omega,by rw[List.length_replicate];omega,λd hd=>(m3 _).mpr (.inr (by rw[(List.mem_replicate.mp hd).2];rcases hc with rfl|rfl<;>first|exact kE.1|exact kE.2.1))⟩
 refine⟨⟨by simp,by simp,List.pairwise_singleton _ _,λt ht=>?_⟩,⟨⟨m.h3.1,by omega⟩,m.a0,m.ab,m.b1,by omega,m1,m2⟩,λx hx=>?_,h++cB 98 (max 1 lo),lt 98 (.inr rfl),nO λz=>?_⟩
 ·rw[List.mem_singleton.mp ht]
  refine⟨m.h3.1.app (zAh kE.2.2.1 _),?_⟩
  rw[WordM.len,WordM.app,List.length_append,dS,List.length_replicate,<-WordM.len]
  omega
 ·rw[List.mem_singleton.mp (few_let.mp hx)];exact lt 97 (.inl rfl)
 ·have e:=congrArg cs (List.mem_singleton.mp (few_let.mp z))
  rw[WordM.app,WordM.app,dS,dS]at e
  have e:=List.append_cancel_left e
  obtain⟨k,hk⟩:∃k,(max 1 lo).toNat=k+1:=⟨(max 1 lo).toNat-1,by omega⟩
  rw[hk,List.replicate_succ,List.replicate_succ]at e
  exact absurd (List.cons.inj e).1 (by decide)
theorem zGD{h:Str}{lo hi:Int}{ms:List Str}(m:MkD h lo hi ms):Wid (.make h lo hi ms) (.make h lo (hi+1) ms):=by
 have:=m.a0
 have:=m.ab
 have:=m.b1
 have:=m.b6
 have hl:=m.h3.2
 have S:=(rG m.sub m.ne).1
 have hc:=kX S.many
 refine⟨WdOk.wk m.ok,⟨⟨m.h3.1,by omega⟩,m.a0,by omega,by omega,by omega,m.sub,m.ne⟩,λx hx=>?_,h++cB ((sgM ms).headD 0) (hi+1),?_,nO λz=>?_⟩
 ·obtain⟨r,e,l1,l2,a⟩:=letW_make.mp hx
  exact letW_make.mpr ⟨r,e,l1,by omega,a⟩
 ·exact letW_make.mpr ⟨_,by rw[WordM.app,dS],by rw[List.length_replicate];omega,by rw[List.length_replicate];omega,λd hd=>by rw[(List.mem_replicate.mp hd).2];exact S.mine _ hc⟩
 ·obtain⟨r,e,l1,l2,a⟩:=letW_make.mp z
  rw[WordM.app,dS]at e
  have e:=congrArg List.length (List.append_cancel_left e)
  rw[List.length_replicate]at e
  omega
theorem zGC{h:Str}{lo hi:Int}{ms:List Str}(m:MkD h lo hi ms):Wid (.make (h++("b":Str)) lo hi ms) (.make h (lo+1) (hi+1) (bZ (bO ([("small":Str)]++ms)))):=by
 obtain⟨m1,m2,m3⟩:=xY m.sub (l:=[("small":Str)]++ms) λx=>by simp[or_comm]
 have:=m.a0
 have:=m.a3
 have:=m.ab
 have:=m.b1
 have:=m.b6
 have hl:=m.h3.2
 have eb:cs (h++("b":Str))=cs h++[98]:=by rw[WordM.app];rfl
 refine⟨⟨⟨m.h3.1.app (by decide +kernel),by rw[WordM.len,eb,List.length_append,<-WordM.len];simp;omega⟩,m.a0,m.ab,m.b1,by omega,m.sub,m.ne⟩,⟨⟨m.h3.1,by omega⟩,by omega,by omega,by omega,by omega,m1,m2⟩,λx hx=>?_,h++cB 97 (lo+1),?_,nO λz=>?_⟩
 ·obtain⟨r,e,l1,l2,a⟩:=letW_make.mp hx
  rw[eb,List.append_assoc]at e
  refine letW_make.mpr ⟨[98]++r,e,by simp;omega,by simp;omega,λd hd=>(m3 _).mpr ?_⟩
  rcases List.mem_append.mp hd with hd|hd
  ·rw[List.mem_singleton.mp hd];exact .inr kE.2.1
  ·exact .inl (a d hd)
 ·exact letW_make.mpr ⟨_,by rw[WordM.app,dS],by rw[List.length_replicate];omega,by rw[List.length_replicate];omega,λd hd=>(m3 _).mpr (.inr (by rw[(List.mem_replicate.mp hd).2];exact kE.1))⟩
 ·obtain⟨r,e,l1,l2,a⟩:=letW_make.mp z
  rw[eb,WordM.app,dS,List.append_assoc]at e
  have e:=List.append_cancel_left e
  obtain⟨k,hk⟩:∃k,(lo+1).toNat=k+1:=⟨(lo+1).toNat-1,by omega⟩
  rw[hk,List.replicate_succ]at e
  exact absurd (List.cons.inj e).1 (by decide)
theorem tU{α:Type}(l:List α)(k:Nat):cR l none (some (k:Int))=l.take k:=by
 unfold cR
 rw[HT.sIx_none,HT.sIx_nat,List.drop_zero,Nat.sub_zero]
 rcases Nat.le_total k l.length with h|h
 ·rw[Nat.min_eq_left h]
 ·rw[Nat.min_eq_right h,List.take_of_length_le (Nat.le_refl _),List.take_of_length_le h]
theorem zDw{α:Type}(l:List α)(k:Nat):cR l (some (k:Int)) none=l.drop k:=by
 unfold cR
 rw[HT.sIx_none,HT.sIx_nat]
 rcases Nat.le_total k l.length with h|h
 ·rw[Nat.min_eq_left h];exact List.take_of_length_le (by rw[List.length_drop];exact Nat.le_refl _)
 ·rw[Nat.min_eq_right h,Nat.sub_self,List.drop_eq_nil_of_le h];rfl
def sO:PSp:=λas R=>∃nm tx st sp,as=[.dk,.va (bQ nm tx st sp)]/\jQ nm tx st sp/\∀W V,Wid W V->R (.seq true [cQ W,cQ V])
theorem C38_:bD ["_law_deck_here","_law_world_here","_law_make_here","_law_way","_law_some","_law_text_here","_law_head","_law_marks"] ["_law_deck_here","_law_world_here"] (aO pA):=fsc (by decide +kernel)
theorem zHu(h:Has K mg "_law_words_pair" pA)(B:Own mg)(G37_:aG P w K mg base 4 "_law_make" ["_law_deck_here"] tS)(G30_:aG P w K mg base 2 "_law_take" ["_law_deck_here","_law_most"] eK)(G36_:aG P w K mg base 1 "_law_mark" ["_law_sign"] oB)   : aG P w K mg base 5 "_law_words_pair" ["_law_deck_here","_law_world_here"] sO:=by
 have nd:=C38_.nd
 refine h.pgood C38_ (fun|_,_,_,_,_,_,[_,_],_=>rfl) (λf cdv A outer s H E F hr=>
   (aE (aV 2 nd (aR G37_ hr (bK 0 aC)))
   (aE (aV 3 nd (aR G30_ hr (bK 0 (aA aD aC))))
   (aE (bC (bL hr (aB 3) aD)
    (aE (aV 4 nd (bA (rE (qL rfl) rfl B.sorted boot_sorted (aA (cE cG (aH hr (aB 1) aD) cJ (cD (aW bH aD (aR G30_ hr (bK 0 (aA aD aC)))))) aC))))
    (aL (aQ (aJ (aA (aJ (aA aI (aA (fM fN rfl B.tuple_ boot_tuple (aA (cE cG (aB 4) (cD aD) cJ) aC)) aC))) (aA (aJ (aA aI (aA (fM fN rfl B.tuple_ boot_tuple (aA (aB 4) aC)) aC))) aC))))))
    bB)
   (aE (bC (bL hr (aB 3) aD)
    (aL (aQ (aJ (aA (aJ (aA aI (aA (aJ (aA (aW bH (aH hr (aB 2) aD) (aW iL aI (cX (zAm rfl) rfl B.max boot_max (aA aD (aA (aH hr (aB 2) aD) aC))))) aC)) aC))) (aA (aW bH (cE cG (aB 2) cJ (cD aD)) (aJ (aA (fM fN rfl B.tuple_ boot_tuple (aA (bA (zBx rfl rfl B.sorted rfl B.set_ (aW bH (aH hr (aB 2) aD) (aJ (aA aI aC))))) aC)) aC))) aC)))))
    bB)
   (aE (bC (bL hr (aB 3) aD)
    (aL (aQ (aJ (aA (aB 2) (aA (aW bH (aW bH (cE cG (aB 2) cJ (cD aD)) (aJ (aA (aW bH (aH hr (aB 2) aD) aD) aC))) (cE cG (aB 2) (cD aD) cJ)) aC)))))
    bB)
   (aE (aV 5 nd (aW bH (aH hr (aB 2) aD) aI))
   (aE (aV 6 nd (aJ (aA aI (aA (aB 5) (aA (aH hr (aB 2) aD) (aA (aH hr (aB 2) aD) (aA (aH hr (aB 2) aD) aC)))))))
   (aE (aV 7 nd (fM fN rfl B.tuple_ boot_tuple (aA (bA (zBy rfl rfl B.sorted rfl B.set_ (aW bH (bA (eM (sc:=aO pA) (XN:=["_law_deck_here","_law_world_here","_law_make_here","_law_way","_law_some","_law_text_here","_law_head","_law_marks"]) (N:=["_law_sign"]) (fr:=[]) (bR (cE cG (aB 5) (cD (cX eJ rfl B.len PySem.boot_len (aA (aH hr (aB 2) aD) aC))) cJ)) (λ_ _ _ _ _=>(aR G36_ hr (aA (aB 0) aC))))) (bA (qH qM rfl B.list_ boot_list (aA (aH hr (aB 2) aD) aC)))))) aC)))
   (aL (aQ (aJ (aA (aB 6) (aA (aJ (aA aI (aA (aH hr (aB 2) aD) (aA (aW bH (aH hr (aB 2) aD) aD) (aA (aW bH (aH hr (aB 2) aD) aD) (aA (aB 7) aC)))))) aC)))))))))))))) (λas R q=>?_)
 obtain⟨nm,tx,st,sp,rfl,hw,q⟩:=q
 refine⟨rfl,rfl,rfl,λh lo hi ms m=>?_⟩
 show PEnds.nx _ _
 refine nxE (ρ':=[.dk,.va (bQ nm tx st sp),.va (cQ (.make h lo hi ms)),.no,.no,.no,.no,.no]) rfl ?_
 have:=m.a0
 have:=m.a3
 have:=m.ab
 have:=m.b1
 have:=m.b6
 have hl:=m.h3.2
 have ml:ms.length<=4:=by have:=m.sub.length_le;simpa[MK]using this
 refine⟨rfl,4,rfl,by decide,bN (by decide) (by decide),λw w0 w4=>⟨_,rfl,dE (λz=>?_) (λz0=>⟨_,rfl,dE (λz=>?_) (λz1=>⟨_,rfl,dE (λz=>?_) (λz2=>?_)⟩)⟩)⟩⟩
 ·refine⟨_,aY (j:=1) rfl,rfl,4,rfl,by decide,bN (by decide) (by decide),λr r0 r1=>⟨2+r,rfl,?_⟩⟩
  have e2:(2+r)=((2+r.toNat:Nat):Int):=by omega
  have ec:cR (tx.map sT) none (some (2+r))=(tx.take (2+r.toNat)).map sT:=by rw[e2,tU,List.map_take]
  have lt:(tx.take (2+r.toNat)).length=2+r.toNat:=by rw[List.length_take,hw.t9];omega
  have hnd:(tx.take (2+r.toNat)).Nodup:=hw.ndt.sublist (List.take_sublist _ _)
  have hmem:∀t∈bZ (tx.take (2+r.toNat)),Sg t/\t.length<=200:=λt ht=>by
   have:=hw.ts t (List.mem_of_mem_take ((gU _).mem_iff.mp ht))
   exact⟨this.1,by have:=this.2;omega⟩
  have hr:=wT hnd
  have hlS:=qK (tx.take (2+r.toNat))
  refine .inr (.inl ⟨tx.take (2+r.toNat),by rw[<-ec],by omega,?_⟩)
  generalize bZ (tx.take (2+r.toNat))=S at hmem hr hlS
  match S,hmem,hr,hlS with
  |[],_,_,hlS=>rw[lt,List.length_nil]at hlS;omega
  |y::S,hmem,hr,hlS=>
  rw[List.length_cons]at hlS
  have ed:cR ((y::S).map sT) (some 1) none=S.map sT:=zDw ((y::S).map sT) 1
  have q':R (.seq true [.seq true [sT "few",.seq true (cR ((y::S).map sT) (some 1) none)],.seq true [sT "few",.seq true ((y::S).map sT)]]):=by
   rw[ed];exact q _ _ (zGF hr (by omega) (by omega) hmem)
  exact⟨1,rfl,_,_,rfl,by simp,_,_,rfl,by simp,by simp,q'⟩
 ·have q':=q _ _ (zGE m)
  have sl:(bO (ms++[("small":Str)])).length<=5:=by
   have:=WordM.nodup_len (sJ (ms++[("small":Str)])) (m:=ms++[("small":Str)]) λx hx=>(rH _ x).mp hx
   rw[List.length_append]at this;simp at this;omega
  refine⟨_,aY (j:=1) rfl,_,aY (j:=2) rfl,.inl ⟨_,_,rfl,⟨by decide,by omega,by omega⟩,?_⟩⟩
  have lr:(fX "a" (max 1 lo)).length<=100:=by
   show(cB 97 (max 1 lo)).length<=100
   rw[nG];omega
  refine⟨by omega,by simp,by simp,4,rfl,_,aY (j:=4) rfl,by simp,by simp;omega,ms++[("small":Str)],by rw[List.map_append];rfl,by rw[List.length_append];simp;omega,by omega,_,_,rfl,by simp,by show 4+1<=100000;decide,by simp,q'⟩
 ·have q':=q _ _ (zGD m)
  exact⟨3,rfl,_,aY (j:=3) rfl,by simp,by show 3+1<=100000;decide,4,rfl,by show 4+1<=100000;decide,by simp,q'⟩
 ·show PEnds.nx _ _
  refine⟨_,aY (j:=1) rfl,by show h.length+1<=100000;omega,?_⟩
  show PEnds.nx _ _
  refine nxE (ρ':=[.dk,.va (bQ nm tx st sp),.va (cQ (.make h lo hi ms)),.va (iT w),.no,.va (sT (h++("b":Str))),.no,.no]) rfl ?_
  refine⟨_,aY (j:=2) rfl,_,aY (j:=3) rfl,_,aY (j:=4) rfl,by simp,?_⟩
  show PEnds.nx _ _
  refine nxE (ρ':=[.dk,.va (bQ nm tx st sp),.va (cQ (.make h lo hi ms)),.va (iT w),.no,.va (sT (h++("b":Str))),.va (cQ (.make (h++("b":Str)) lo hi ms)),.no]) rfl ?_
  have er:cs (dP (h++("b":Str)) h)=[98]:=rK (by rw[WordM.app];rfl)
  have lb:(h++("b":Str)).length<=100000:=by rw[WordM.len,WordM.app,List.length_append,<-WordM.len];show h.length+1<=100000;omega
  have sl:(bO ([("small":Str)]++ms)).length<=5:=by
   have:=WordM.nodup_len (sJ ([("small":Str)]++ms)) (m:=[("small":Str)]++ms) λx hx=>(rH _ x).mp hx
   have e:([("small":Str)]++ms).length=ms.length+1:=by rw[List.length_append,Nat.add_comm];rfl
   omega
  refine⟨_,aY (j:=1) rfl,by omega,_,rfl,lb,?_⟩
  show((cs (dP (h++("b":Str)) h)).map λc=>sT ⟨#[c]⟩).length<=100000/\eF 1 [] (gN 0) lV (lH oB (zAB (uN 0) iX)) ((cs (dP (h++("b":Str)) h)).map λc=>sT ⟨#[c]⟩) _ _
  rw[er]
  refine⟨by simp,cM (λc:Nat=>sT ⟨#[c]⟩) (λc=>sT (dA c)) (λc hc R q=>⟨c,rfl,q⟩) ?_⟩
  refine⟨_,aY (j:=4) rfl,_,_,rfl,?_⟩
  have q':=q _ _ (zGC m)
  refine⟨by simp;omega,[("small":Str)]++ms,?_,by omega,_,_,rfl,?_⟩
  ·rw[List.map_append]
   show Tv.seq false ([sT (dA 98)]++ms.map sT)=_
   rw[kE.2.1];rfl
  ·exact⟨_,aY (j:=1) rfl,_,aY (j:=2) rfl,_,aY (j:=3) rfl,by simp,by simp,q'⟩
end
end My
namespace My
open PySem L2 PyProof.Rows WordM
section
variable{P:Program}{w:World}{K:W.Frag}{mg:Str->Option Value}{base:Heap}
def lf:List Pt:=[.nothing]
theorem jV:aX lf=.seq true [.seq true [sT "nothing"]]:=by show Tv.seq true [aN .nothing]=_;rw[jD]
theorem kA:lf.length<=100/\∀p∈lf,PW 1 p:=⟨by decide,λp hp=>by rw[List.mem_singleton.mp hp];trivial⟩
theorem oT{fs:List Fd}(h:∀x∈fs,x.2.2=lf){n:Str}(hn:n∈nmF fs):bhF fs n=lf:=by
 unfold bhF
 cases e:fs.find? λx=>decide (x.1=n) with
 |none=>
  obtain⟨y,hy,rfl⟩:=List.mem_map.mp hn
  have:=List.find?_eq_none.mp e y hy
  simp at this
 |some y=>exact h y (List.mem_of_find?_eq_some e)
theorem kH{a b a' b':Int}{fs gs:List Fd}(hf:∀x∈fs,x.2.2=lf)(hg:∀x∈gs,x.2.2=lf):∀x∈bX (.record a b fs) (.record a' b' gs),x.2.1=x.2.2:=λx hx=>by
 obtain⟨n,hn,rfl⟩:=List.mem_map.mp hx
 have hn:=List.mem_filter.mp hn
 show bhF fs n=bhF gs n
 rw[oT hf hn.1,oT hg (of_decide_eq_true hn.2)]
theorem lA{a b:Int}{fs:List Fd}(l:fs.length<=8)(nd:(fs.map (·.1)).Nodup)(hs:∀x∈fs,(Sg x.1/\x.1.length<=200)/\x.2.2=lf):PW 2 (.record a b fs):=⟨l,nd,λx hx=>⟨(hs x hx).1,by rw[(hs x hx).2];exact kA⟩⟩
structure Trio (x y z:Str):Prop where
 xy:x≠y
 xz:x≠z
 yz:y≠z
 hx:Sg x/\x.length<=200
 hy:Sg y/\y.length<=200
 hz:Sg z/\z.length<=200
theorem Trio.pr{x y z:Str}(t:Trio x y z){a b a' b':Int}{fs gs:List Fd}(ef:∀u∈fs,(u.1=x\/u.1=y\/u.1=z)/\u.2.2=lf)(eg:∀u∈gs,(u.1=x\/u.1=y\/u.1=z)/\u.2.2=lf)(lf8:fs.length<=8)(lg8:gs.length<=8)(nf:(fs.map (·.1)).Nodup)(ng:(gs.map (·.1)).Nodup)(s1:shP (.record a b fs) (.record a' b' gs)=true)(s2:shP (.record a' b' gs) (.record a b fs)=false):Pr 5 "wider" "narrower" (.record a b fs) (.record a' b' gs):=by
 have g:∀n:Str,n=x\/n=y\/n=z->Sg n/\n.length<=200:=λn h=>by
  rcases h with rfl|rfl|rfl
  ·exact t.hx
  ·exact t.hy
  ·exact t.hz
 exact Pr.wide (lA lf8 nf λu hu=>⟨g _ (ef u hu).1,(ef u hu).2⟩) (lA lg8 ng λu hu=>⟨g _ (eg u hu).1,(eg u hu).2⟩) rfl rfl s1 s2 (kH (λu hu=>(ef u hu).2) λu hu=>(eg u hu).2) (kH (λu hu=>(eg u hu).2) λu hu=>(ef u hu).2)
def mk3(m0 m1 m2:Bool)(x y z:Str):List Fd:=[(x,m0,lf),(y,m1,lf),(z,m2,lf)]
def mk2(m0 m1:Bool)(x y:Str):List Fd:=[(x,m0,lf),(y,m1,lf)]
section
variable{x y z:Str}(t:Trio x y z)
include t
theorem dp4:Pr 5 "wider" "narrower" (.record 1 2 (mk2 true false x y)) (.record 1 2 (mk2 false false x y)):=by
 have:=t.xy
 refine t.pr ?_ ?_ (by simp[mk2,mk3]) (by simp[mk2,mk3]) ?_ ?_ ?_ ?_<;>simp[mk2,shP,bdB,nmF,dX,this]
theorem dp0:Pr 5 "wider" "narrower" (.record 3 3 (mk3 true true true x y z)) (.record 2 3 (mk3 true true false x y z)):=by
 have h1:=t.xy
 have h2:=t.xz
 have h3:=t.yz
 refine t.pr ?_ ?_ (by simp[mk2,mk3]) (by simp[mk2,mk3]) ?_ ?_ ?_ ?_<;>simp[mk3,shP,bdB,nmF,dX,h1,h2,h3]
theorem dp1:Pr 5 "wider" "narrower" (.record 2 2 (mk2 true true x y)) (.record 2 3 (mk3 true true false x y z)):=by
 have h1:=t.xy
 have h2:=t.xz
 have h3:=t.yz
 refine t.pr ?_ ?_ (by simp[mk2,mk3]) (by simp[mk2,mk3]) ?_ ?_ ?_ ?_<;>simp[mk2,mk3,shP,bdB,nmF,dX,h1,h2,h3,h2.symm,h3.symm]
theorem dp2:Pr 5 "wider" "narrower" (.record 1 2 (mk3 false false false x y z)) (.record 0 2 (mk3 false false false x y z)):=by
 have h1:=t.xy
 have h2:=t.xz
 have h3:=t.yz
 refine t.pr ?_ ?_ (by simp[mk2,mk3]) (by simp[mk2,mk3]) ?_ ?_ ?_ ?_<;>simp[mk3,shP,bdB,nmF,dX,h1,h2,h3]
end
theorem zFG:WdW (.make "a" 1 2 ["figure"]):=WdOk.wk ⟨⟨by decide +kernel,by decide⟩,by decide,by decide,by decide,by decide,by decide,by simp⟩
theorem dp3{r s:Int}(h1:r<=1)(h2:1<=s):Pr 5 "wider" "narrower" (.record 1 1 [("a1",true,lf)]) (.table r s (.make "a" 1 2 ["figure"]) lf):=by
 refine Pr.wide (lA (by decide) (by simp) λu hu=>?_) ⟨zFG,rfl,kA⟩ rfl rfl ?_ rfl (λu hu=>?_) (λu hu=>?_)
 ·rw[List.mem_singleton.mp hu];exact⟨⟨by decide +kernel,by decide⟩,rfl⟩
 ·have:bP (.make "a" 1 2 ["figure"]) "a1"=true:=by decide +kernel
  simp[shP,bdB,nmF,this,h1,h2]
 ·obtain⟨n,hn,rfl⟩:=List.mem_map.mp hu
  show bhF _ n=lf
  exact oT (λu hu=>by rw[List.mem_singleton.mp hu]) hn
 ·obtain⟨n,hn,rfl⟩:=List.mem_map.mp hu
  show lf=bhF _ n
  exact(oT (λu hu=>by rw[List.mem_singleton.mp hu]) hn).symm
def sU:PSp:=λas R=>∃nm tx st sp,as=[.dk,.va (bQ nm tx st sp)]/\jQ nm tx st sp/\∀a b,Pr 5 "wider" "narrower" a b->R (.seq true [aN a,aN b])
theorem C39_:bD ["_law_deck_here","_law_world_here","_law_leaf","_law_names","_law_may","_law_must","_law_way","_law_one"] ["_law_deck_here","_law_world_here"] (aO mB):=fsc (by decide +kernel)
theorem zHt(h:Has K mg "_law_dicts_pair" mB)(B:Own mg)(G30_:aG P w K mg base 2 "_law_take" ["_law_deck_here","_law_most"] eK)   : aG P w K mg base 3 "_law_dicts_pair" ["_law_deck_here","_law_world_here"] sU:=by
 have nd:=C39_.nd
 refine h.pgood C39_ (fun|_,_,_,_,_,_,[_,_],_=>rfl) (λf cdv A outer s H E F hr=>
   (aE (aV 2 nd (aJ (aA (aJ (aA aI aC)) aC)))
   (aE (aV 3 nd (bA (rE (qL rfl) rfl B.sorted boot_sorted (aA (cE cG (aH hr (aB 1) aD) cJ (cD aD)) aC))))
   (aE (aV 4 nd (fM fN rfl B.tuple_ boot_tuple (aA (bA (eM (sc:=aO mB) (XN:=["_law_deck_here","_law_world_here","_law_leaf","_law_names","_law_may","_law_must","_law_way","_law_one"]) (N:=["_law_name","_law_leaf"]) (fr:=[2]) (bR (aB 3)) (λ_ _ _ _ _=>(aJ (aA (aB 0) (aA cO (aA (aB 1) aC))))))) aC)))
   (aE (aV 5 nd (fM fN rfl B.tuple_ boot_tuple (aA (bA (eM (sc:=aO mB) (XN:=["_law_deck_here","_law_world_here","_law_leaf","_law_names","_law_may","_law_must","_law_way","_law_one"]) (N:=["_law_name","_law_leaf"]) (fr:=[2]) (bR (aB 3)) (λ_ _ _ _ _=>(aJ (aA (aB 0) (aA cO (aA (aB 1) aC))))))) aC)))
   (aE (aV 6 nd (aR G30_ hr (bK 0 (aA aD aC))))
   (aE (bC (bL hr (aB 6) aD)
    (aL (aQ (aJ (aA (aJ (aA aI (aA aD (aA aD (aA (aW bH (cE cG (aB 5) cJ (cD aD)) (cE cG (aB 4) (cD aD) (cD aD))) aC))))) (aA (aJ (aA aI (aA aD (aA aD (aA (cE cG (aB 4) cJ (cD aD)) aC))))) aC)))))
    bB)
   (aE (bC (bL hr (aB 6) aD)
    (aL (aQ (aJ (aA (aJ (aA aI (aA aD (aA aD (aA (aB 5) aC))))) (aA (aJ (aA aI (aA aD (aA aD (aA (aW bH (cE cG (aB 5) cJ (cD aD)) (cE cG (aB 4) (cD aD) cJ)) aC))))) aC)))))
    bB)
   (aE (bC (bL hr (aB 6) aD)
    (aL (aQ (aJ (aA (aJ (aA aI (aA aD (aA aD (aA (cE cG (aB 5) cJ (cD aD)) aC))))) (aA (aJ (aA aI (aA aD (aA aD (aA (aW bH (cE cG (aB 5) cJ (cD aD)) (cE cG (aB 4) (cD aD) cJ)) aC))))) aC)))))
    bB)
   (aE (bC (bL hr (aB 6) aD)
    (aL (aQ (aJ (aA (aJ (aA aI (aA aD (aA aD (aA (aB 4) aC))))) (aA (aJ (aA aI (aA aD (aA aD (aA (aB 4) aC))))) aC)))))
    bB)
   (aE (aV 7 nd (aJ (aA aI (aA aD (aA aD (aA (aJ (aA (aJ (aA aI (aA cO (aA (aB 2) aC)))) aC)) aC))))))
   (aL (aQ (aJ (aA (aB 7) (aA (aJ (aA aI (aA (aR G30_ hr (bK 0 (aA aD aC))) (aA (aW bH aD (aR G30_ hr (bK 0 (aA aD aC)))) (aA (aJ (aA aI (aA aI (aA aD (aA aD (aA (aJ (aA aI aC)) aC)))))) (aA (aB 2) aC)))))) aC)))))))))))))))) (λas R q=>?_)
 obtain⟨nm,tx,st,sp,rfl,hw,q⟩:=q
 have ec:cR (nm.map sT) none (some 3)=(nm.take 3).map sT:=(tU (nm.map sT) 3).trans (by rw[List.map_take])
 have lt:(nm.take 3).length=3:=by rw[List.length_take,hw.n11];rfl
 have hnd:(nm.take 3).Nodup:=hw.nd.sublist (List.take_sublist _ _)
 have hmem:∀t∈bZ (nm.take 3),Sg t/\t.length<=200:=λt ht=>by
  have:=hw.ns t (List.mem_of_mem_take ((gU _).mem_iff.mp ht))
  exact⟨this.1,by have:=this.2;omega⟩
 have hr:=(gU (nm.take 3)).nodup_iff.mpr hnd
 have hlS:=qK (nm.take 3)
 refine⟨rfl,by simp,by simp,?_⟩
 show PEnds.nx _ _
 refine nxE (ρ':=[.dk,.va (bQ nm tx st sp),.va (aX lf),.no,.no,.no,.no,.no]) (by rw[jV];rfl) ?_
 refine⟨_,at0,3,rfl,.inr (.inl ⟨nm.take 3,by rw[<-ec],by omega,?_⟩)⟩
 rw[lt]at hlS
 generalize bZ (nm.take 3)=S at hmem hr hlS
 match S,hmem,hr,hlS with
 |[],_,_,hlS=>cases hlS
 |[_],_,_,hlS=>cases hlS
 |[_,_],_,_,hlS=>cases hlS
 |_::_::_::_::_,_,_,hlS=>simp at hlS
 |[x,y,z],hmem,hr,_=>
 have T:Trio x y z:=by
  simp only[List.nodup_cons,List.mem_cons,List.not_mem_nil,or_false,not_or]at hr
  exact⟨hr.1.1,hr.1.2,hr.2.1,hmem x (by simp),hmem y (by simp),hmem z (by simp)⟩
 show PEnds.nx _ _
 refine nxE (ρ':=[.dk,.va (bQ nm tx st sp),.va (aX lf),.va (.seq false ([x,y,z].map sT)),.no,.no,.no,.no]) rfl ?_
 refine⟨by simp,cM sT (λn=>fY (n,false,lf)) (l:=[x,y,z]) (λn hn R q=>⟨by simp,q⟩) ⟨_,_,rfl,?_⟩⟩
 show PEnds.nx _ _
 refine nxE (ρ':=[.dk,.va (bQ nm tx st sp),.va (aX lf),.va (.seq false ([x,y,z].map sT)),.va (.seq true ([x,y,z].map λn=>fY (n,false,lf))),.no,.no,.no]) rfl ?_
 refine⟨by simp,cM sT (λn=>fY (n,true,lf)) (l:=[x,y,z]) (λn hn R q=>⟨by simp,q⟩) ⟨_,_,rfl,?_⟩⟩
 show PEnds.nx _ _
 refine nxE (ρ':=[.dk,.va (bQ nm tx st sp),.va (aX lf),.va (.seq false ([x,y,z].map sT)),.va (.seq true ([x,y,z].map λn=>fY (n,false,lf))),.va (.seq true ([x,y,z].map λn=>fY (n,true,lf))),.no,.no]) rfl ?_
 have q:∀a b:Pt,Pr 5 "wider" "narrower" a b->∀A B:Tv,aN a=A->aN b=B->R (.seq true [A,B]):=λa b h A B ea eb=>by rw[<-ea,<-eb];exact q a b h
 refine⟨rfl,5,rfl,by decide,bN (by decide) (by decide),λw w0 w5=>⟨_,rfl,dE (λ_=>?_) (λ_=>⟨_,rfl,dE (λ_=>?_) (λ_=>⟨_,rfl,dE (λ_=>?_) (λ_=>⟨_,rfl,dE (λ_=>?_) (λ_=>?_)⟩)⟩)⟩)⟩⟩
 ·exact⟨1,rfl,1,rfl,2,rfl,by show 1+1<=100000;decide,by simp,2,rfl,by simp,by simp,q _ _ (dp4 T) _ _ (bJ ..) (bJ ..)⟩
 ·exact⟨by simp,2,rfl,2,rfl,by show 2+1<=100000;decide,by simp,by simp,q _ _ (dp0 T) _ _ (bJ ..) (bJ ..)⟩
 ·exact⟨2,rfl,by simp,2,rfl,2,rfl,by show 2+1<=100000;decide,by simp,by simp,q _ _ (dp1 T) _ _ (bJ ..) (bJ ..)⟩
 ·exact⟨by simp,by simp,by simp,q _ _ (dp2 T) _ _ (bJ ..) (bJ ..)⟩
 ·refine⟨by simp,by simp,by simp,rfl,2,rfl,by decide,bN (by decide) (by decide),λr r0 r1=>⟨rfl,9,rfl,by decide,bN (by decide) (by decide),λs s0 s1=>?_⟩⟩
  exact⟨by simp,by simp,by simp,by simp,q _ _ (dp3 (r:=r) (s:=1+s) (by omega) (by omega)) _ _ (bJ ..) (cW ..)⟩
end
end My
namespace L2
open PySem PySem.Spec PyProof.Rows WordM
def dM(X:Cx)(N:List Str)(scope:Scope)(vn:Str)(cl:List (Str×Addr))(C:Addr)(fp:List Addr)(s:Shared)(H:Hp):Cx:={bS X N scope cl C fp s H with fn:=λy=>y==vn}
structure CScope (vn:Str) (sc:Scope) (XN N:List Str) (own:Nat) (fr:List Nat) (scope:Scope):Prop where
 kind:scope.kind=.function
 one:∃as bs,scope.names=as++(vn,.cell)::bs/\(∀y∈as,y.2≠.cell)/\∀y∈bs,y.2≠.cell
 cv:scope.names.lookup vn=some .cell
 free:∀y∈scope.names,y.2=.free->sc.names.lookup y.1=some .cell\/sc.names.lookup y.1=some .free
 loc:∀y∈scope.names,y.2=.local->scope.names.lookup y.1=some .local
 names:N.drop own=fr.filterMap λi=>XN[i]?
 frl:∀i∈fr,i<XN.length
 len:own<=N.length
 vis:∀x∈N.drop own,scope.names.lookup x=some .free
theorem CScope.nocell{vn:Str}{sc:Scope}{XN N:List Str}{own:Nat}{fr:List Nat}{scope:Scope}(S:CScope vn sc XN N own fr scope):∀y∈scope.names,y.2=.cell->y.1=vn:=λy hy e=>by
 obtain⟨as,bs,en,ha,hb⟩:=S.one
 rw[en]at hy
 rcases List.mem_append.mp hy with z|z
 ·exact absurd e (ha y z)
 ·rcases List.mem_cons.mp z with rfl|z
  ·rfl
  ·exact absurd e (hb y z)
theorem vS{vn:Str}{env:Env}{names:List (Str×NameKind)}(hn:∀y∈names,y.2=.cell->y.1=vn){x:Str}{k:NameKind}(hk:k=.cell\/k=.free)
  (h:(names.map λ(n,k)=>if (k==NameKind.free&&env.scope.kind==.function&&env.kindOf n==some .cell) then(n,NameKind.cell) else(n,k)).lookup x=some k):(x,NameKind.free)∈names\/x=vn:=by
 obtain⟨⟨n,k'⟩,hm,e⟩:=List.mem_map.mp (PySem.mem_of_lookup h)
 simp only at e
 split at e
 ·rename_i hc
  rw[Bool.and_eq_true,Bool.and_eq_true]at hc
  have:k'=.free:=eq_of_beq hc.1.1
  subst this
  injection e with e1 _
  subst e1
  exact .inl hm
 ·injection e with e1 e2
  subst e1 e2
  rcases hk with z|z
  ·exact .inr (hn _ hm z)
  ·subst z;exact .inl hm
section
variable{M:Model}{A:Around}{E:Value->Shared->Prop}
theorem wO{f:Str×NameKind->List (Str×Addr)->Sem (ForInStep (List (Str×Addr)))}(hf:∀y c,y.2≠.cell->f y c=pure (.yield c)):∀(names:List (Str×NameKind)) (c:List (Str×Addr)),(∀y∈names,y.2≠.cell)->forIn names c f=(pure c:Sem (List (Str×Addr)))
 |[],c,_=>rfl
 |y::names,c,h=>by
  rw[List.forIn_cons,hf y c (h y (.head _))]
  show(pure (ForInStep.yield c) >>= _:Sem _)=_
  rw[pure_bind]
  exact wO hf names c λz hz=>h z (.tail _ hz)
theorem zCK{f:Str×NameKind->List (Str×Addr)->Sem (ForInStep (List (Str×Addr)))}{vn:Str}(as bs:List (Str×NameKind))(c:List (Str×Addr))(hf:∀y c,y.2≠.cell->f y c=pure (.yield c))(ha:∀y∈as,y.2≠.cell)(hb:∀y∈bs,y.2≠.cell)(hv:f (vn,.cell) c=(do let a <- alloc {cls:=Value.type "cell",data:=Data.cell none};pure (.yield ((vn,a)::c))):=by rfl):forIn (as++(vn,NameKind.cell)::bs) c f=(do let a <- alloc {cls:=Value.type "cell",data:=Data.cell none};pure ((vn,a)::c):Sem (List (Str×Addr))):=by
 induction as with
 |nil=>
  rw[List.nil_append,List.forIn_cons,hv,bind_assoc]
  congr 1
  funext a
  show(pure (ForInStep.yield ((vn,a)::c)) >>= _:Sem _)=_
  rw[pure_bind]
  exact wO hf bs _ hb
 |cons y as ih=>
  rw[List.cons_append,List.forIn_cons,hf y c (ha y (.head _))]
  show(pure (ForInStep.yield c) >>= _:Sem _)=_
  rw[pure_bind]
  exact ih λz hz=>ha z (.tail _ hz)
theorem zBG{s:Shared}{scope:Scope}{vn:Str}{globals:Addr}{closure:List (Str×Addr)}{qual:Str}{func:Option Addr}{code:Value}{outer:Env}{builtins:Addr}{Q:Env->Shared->Prop}(ho:∃as bs,scope.names=as++(vn,.cell)::bs/\(∀y∈as,y.2≠.cell)/\∀y∈bs,y.2≠.cell)
  (h:∀h':Heap,(h'.Ns s.heap.objs.size λ_=>none)->h'.IsCell (s.heap.objs.size+1) none->(∀b o,s.heap.get? b=some o->h'.get? b=some o)->Q (newEnv scope s.heap.objs.size globals ((vn,s.heap.objs.size+1)::closure) qual func code (some outer) builtins) {s with heap:=h'}):
  wpAny M A (newFunctionEnv scope globals closure [] qual func code (some outer) builtins) Q E s:=by
 obtain⟨as,bs,en,ha,hb⟩:=ho
 unfold newFunctionEnv
 refine wpAny_bind (wpAny_alloc ?_)
 rw[en]
 dsimp only
 refine wpAny_bind ?_
 rw[zCK _ _ _ (λy c hy=>?_) ha hb]
 ·refine wpAny_bind (wpAny_alloc (wpAny_pure ?_))
  refine wpAny_bind (wpAny_pure (wpAny_pure ?_))
  dsimp only
  have hz:∀o:Obj,(s.heap.push o).objs.size=s.heap.objs.size+1:=λo=>by simp[Heap.push]
  rw[hz]
  generalize hd:({cls:=Value.type (if (some outer).isSome=true then "dict" else "frame"),data:=Data.dict #[]}:Obj)=d
  have hd2:d.data=Data.dict #[]:=by rw[<-hd]
  refine h _ ⟨d,#[],_,Heap.get?_push_of_some _ (Heap.get?_push_size _ (by rw[<-hd];rfl)),hd2,?_,λ_=>rfl⟩ ⟨({cls:=Value.type "cell",data:=Data.cell none}:Obj),?_,rfl⟩ λb o e=>Heap.get?_push_of_some _ (Heap.get?_push_of_some _ e)
  ·intro e he;simp at he
  ·rw[<-hz d];exact Heap.get?_push_size _ rfl
 ·obtain⟨n,k⟩:=y
  have hk:(k==NameKind.cell)=false:=by
   cases q:k==NameKind.cell with
   |false=>rfl
   |true=>exact absurd (eq_of_beq q) hy
  show(if (k==NameKind.cell)=true then _ else _)=_
  rw[hk];rfl
end
section
variable{X:Cx}{pins:List (Addr×Obj)}{σ:St}{H:Hp}{s:Shared}{N:List Str}{own:Nat}{fr:List Nat}{scope:Scope}
theorem zCD{vn:Str}{cl:List (Str×Addr)}{fp:List Addr}{h':Heap}(I:Inv X pins σ H s)(S:CScope vn X.env.scope X.N N own fr scope)(hcl:∀x c,cl.lookup x=some c->X.env.cells.lookup x=some c)
  (hcf:∀y∈scope.names,y.2=.free->∃c,cl.lookup y.1=some c) (hfp:∀b∈fp,dB X pins H b) (hfo:∀b∈fp,∃o,s.heap.get? b=some o)
  (hns:h'.Ns s.heap.objs.size λ_=>none) (hcv:h'.IsCell (s.heap.objs.size+1) none) (hk:∀b o,s.heap.get? b=some o->h'.get? b=some o):
  Inv (dM X N scope vn ((vn,s.heap.objs.size+1)::cl) s.heap.objs.size fp s H) [] (σc own fr σ) H {s with heap:=h'}:=by
 have kindE:∀x,(Env.kindOf (compEnvC scope ((vn,s.heap.objs.size+1)::cl) s.heap.objs.size X.env) x)=(relabel scope X.env).names.lookup x:=λx=>rfl
 have memF:∀x,(Env.kindOf (compEnvC scope ((vn,s.heap.objs.size+1)::cl) s.heap.objs.size X.env) x=some .cell\/Env.kindOf (compEnvC scope ((vn,s.heap.objs.size+1)::cl) s.heap.objs.size X.env) x=some .free)->(x,NameKind.free)∈scope.names\/x=vn:=λx hx=>by
  rcases hx with z|z
  ·exact vS (env:=X.env) S.nocell (.inl rfl) z
  ·exact vS (env:=X.env) S.nocell (.inr rfl) z
 have oldc:∀x c,X.env.cells.lookup x=some c->c<s.heap.objs.size:=λx c e=>let ⟨_,o,ho,_⟩:=I.cell x c e;Heap.lt_size ho
 have look:∀x c,(((vn,s.heap.objs.size+1)::cl:List (Str×Addr)).lookup x=some c)->(x=vn/\c=s.heap.objs.size+1)\/X.env.cells.lookup x=some c:=λx c e=>by
  rw[List.lookup_cons]at e
  cases hx:x==vn with
  |true=>rw[hx]at e;exact .inl ⟨eq_of_beq hx,(Option.some.inj e).symm⟩
  |false=>rw[hx]at e;exact .inr (hcl x c e)
 refine⟨⟨I.ok.mod,S.kind,I.ok.glob,I.ok.blt,Nat.le_refl _,λx y c h1 h2=>?inj,λx hx=>?has,λx c h e=>?cab,I.ok.hd,I.ok.frames,.inl rfl,λb hb=>?p1,I.bs,Nat.le_trans I.ok.bsz I.sz,λb o e hb=>?p2,λb hb z=>?p3,I.stack,I.stkFree⟩,
  rfl,I.bare,Un.kept hk,⟨_,hns,λi x v e1 e2 e3=>?p4⟩,λx c e=>?p5,I.hok.fresh (Nat.le_refl _),λx c e=>?fre,λp hp=>absurd (show p∈([]:List (Addr×Obj)) from hp) (by simp),I.hok.kept hk,?p6⟩
 case p1=>
  obtain⟨o,ho⟩:=hfo b hb
  refine⟨Nat.ne_of_lt (Heap.lt_size ho),λx c e=>?_⟩
  rcases look x c e with⟨_,rfl⟩|z
  ·exact λq=>absurd (Heap.lt_size ho) (by rw[<-q];exact Nat.not_lt.mpr (Nat.le_succ _))
  ·exact(hfp b hb).2.2.2.2.1 x c z
 case p2=>
  rcases (hfp b hb).2.2.2.1 with z|z
  ·exact I.ok.noex b o e z
  ·exact absurd (Nat.lt_of_lt_of_le (Heap.lt_size (I.ok.bs b o e).1) z) (Nat.lt_irrefl _)
 case p3=>
  rcases List.mem_cons.mp (I.stkSub b z) with q|q
  ·exact(hfp b hb).2.1 q
  ·exact(hfp b hb).2.2.1 q
 case p4=>
  have hi:own<=i:=by
   rcases Nat.lt_or_ge i own with z|z
   ·have e2':(σc own fr σ)[i]?=some (some v):=e2
    unfold σc at e2'
    rw[List.getElem?_append_left (by simpa using z),List.getElem?_replicate]at e2'
    split at e2'<;>cases e2'
   ·exact z
  have e2':(σf fr σ)[i-own]?=some (some v):=by
   have e2':(σc own fr σ)[i]?=some (some v):=e2
   unfold σc at e2'
   rw[List.getElem?_append_right (by simpa using hi)]at e2'
   simpa using e2'
  have e1':(N.drop own)[i-own]?=some x:=by
   have e1':N[i]?=some x:=e1
   rw[List.getElem?_drop]
   rw[show own+(i-own)=i by omega]
   exact e1'
  have hv:scope.names.lookup x=some .free:=S.vis x (List.mem_of_getElem? e1')
  have hx:X.env.scope.names.lookup x=some .cell\/X.env.scope.names.lookup x=some .free:=S.free (x,.free) (PySem.mem_of_lookup hv) rfl
  rw[S.names,pU S.frl]at e1'
  unfold σf at e2'
  rw[List.getElem?_map]at e2'
  cases q:fr[i-own]? with
  |none=>rw[q]at e2';cases e2'
  |some j=>
   rw[q]at e1' e2'
   have e1'':X.N[j]?=some x:=e1'
   have e2'':σ.getD j none=some v:=Option.some.inj e2'
   have e3':σ[j]?=some (some v):=by
    rw[List.getD_eq_getElem?_getD]at e2''
    cases z:σ[j]? with
    |none=>rw[z]at e2'';cases e2''
    |some y=>rw[z]at e2'';exact congrArg some e2''
   obtain⟨m,hn,hl⟩:=I.loc
   obtain⟨u,r,l⟩:=hl j x v e1'' e3' (.inr hx)
   refine⟨u,r,.inr ⟨pT (env:=X.env) hv,?_⟩⟩
   rcases l with⟨k,_⟩|⟨_,c,hc,z⟩
   ·have k':X.env.scope.names.lookup x=some .local:=k
    rw[k']at hx
    rcases hx with z|z<;>cases z
   ·obtain⟨c',hc'⟩:=hcf (x,.free) (PySem.mem_of_lookup hv) rfl
    have:=hcl x c' hc'
    rw[hc]at this
    cases this
    refine⟨c,?_,z.keeps hk⟩
    show List.lookup x ((vn,s.heap.objs.size+1)::cl)=some c
    have nv:(x==vn)=false:=by
     cases q:x==vn with
     |false=>rfl
     |true=>
      have:=eq_of_beq q
      subst this
      rw[S.cv]at hv;cases hv
    rw[List.lookup_cons,nv];exact hc'
 case p5=>
  rcases look x c e with⟨_,rfl⟩|z
  ·exact⟨none,hcv⟩
  ·obtain⟨v,z⟩:=I.cell x c z
   exact⟨v,z.keeps hk⟩
 case p6=>
  show(σc own fr σ).length=N.length
  unfold σc σf
  have h1:=congrArg List.length S.names
  have h2:(fr.filterMap λi=>X.N[i]?).length=fr.length:=by
   have:∀(l:List Nat),(∀i∈l,i<X.N.length)->(l.filterMap λi=>X.N[i]?).length=l.length:=by
    intro l
    induction l with
    |nil=>intro _;rfl
    |cons i r ih=>
     intro h
     rw[List.filterMap_cons,List.getElem?_eq_getElem (h i List.mem_cons_self)]
     simp[ih λk hk=>h k (List.mem_cons_of_mem _ hk)]
   exact this fr S.frl
  rw[List.length_drop,h2]at h1
  rw[List.length_append,List.length_replicate,List.length_map]
  have:=S.len
  omega
 case inj=>
  rcases look x c h1 with⟨rfl,rfl⟩|a<;>rcases look y _ h2 with⟨rfl,e⟩|b
  ·rfl
  ·exact absurd (oldc _ _ b) (Nat.not_lt.mpr (Nat.le_succ _))
  ·subst e;exact absurd (oldc _ _ a) (Nat.not_lt.mpr (Nat.le_succ _))
  ·exact I.ok.inj x y c a b
 case has=>
  show ∃c,List.lookup x ((vn,s.heap.objs.size+1)::cl)=some c
  rw[List.lookup_cons]
  cases q:x==vn with
  |true=>exact⟨_,rfl⟩
  |false=>
   rcases memF x hx with z|z
   ·exact hcf (x,.free) z rfl
   ·subst z;simp at q
 case cab=>
  rcases look x c e with⟨_,rfl⟩|z
  ·show s.heap.objs.size<=s.heap.objs.size+1;omega
  ·have h:(x==vn)=true:=h
   have e:List.lookup x ((vn,s.heap.objs.size+1)::cl)=some c:=e
   rw[List.lookup_cons,h]at e
   cases e
   show s.heap.objs.size<=s.heap.objs.size+1;omega
 case fre=>
  rcases look x c e with⟨_,rfl⟩|z
  ·exact I.hok.fresh (Nat.le_succ _)
  ·exact I.freeC x c z
end
section
variable{X:Cx}{pins:List (Addr×Obj)}{σ:St}{H:Hp}{s:Shared}{N:List Str}{own:Nat}{fr:List Nat}{scope:Scope}{cl:List (Str×Addr)}{elt tg iter:Expr}{ifs:List Expr}{pos:Pos}
 {it:Addr} {fp:List Addr} {tn:Nat->Heap->Prop} {J:It} {g:TG} {tf:TT} {te:TE} {Q:VK} {E:Value->Shared->Prop}
theorem zBD{vn:Str}{RR:Value->Addr->Result->Shared->Prop}(hc:X.calm=true)(S:CScope vn X.env.scope X.N N own fr scope)(hcl:∀x c,cl.lookup x=some c->X.env.cells.lookup x=some c)
  (hcf:∀y∈scope.names,y.2=.free->∃c,cl.lookup y.1=some c)
  (hg:∀cl C s H,PG (dM X N scope vn cl C fp s H) tg g) (hf:∀cl C s H,PFs (dM X N scope vn cl C fp s H) ifs tf) (he:∀cl C s H,PE (dM X N scope vn cl C fp s H) elt te)
  (I:Inv X pins σ H s) (T:fZ X.prog X.w X.K tg J fp it tn) (st:tn 0 s.heap) (hfp:∀b∈fp,dB X pins H b) (hw:∀a,H a=none->uM J a own fr g tf te σ H Q)
  (hRR:∀a C s' H',Inv X pins σ H' s'->Q (.ref a) H'->dB X pins H' C->(∃m,s'.heap.Ns C m)->RR (.ref a) C (.ok .next) s'):
  wpAny (model X.prog X.w) X.A (newList []) (λacc s₃=>wpAny (model X.prog X.w) X.A (newFunctionEnv scope X.env.globals cl [] X.env.qual none .none (some X.env)) (λcenv s₄=>
   codeAny (model X.prog X.w) X.A (.compStart (.ListComp elt [⟨tg,iter,ifs,0⟩] scope pos) 0 (.ref it) acc {cenv with scope:=relabel scope X.env}) (RR acc cenv.locals) s₄) E s₃) E s:=by
 refine wpAny_newObj_type (zBG S.one λh₁ hns₁ hcv₁ hsb₁=>?_)
 dsimp only at hns₁ hcv₁ hsb₁ ⊢
 have I3:Inv X pins σ (upd H s.heap.objs.size (.lst [])) {s with heap:=s.heap.push {cls:=.type "list",dict:=none,data:=.seq ([]:List Value).toArray}}:=I.lnew (ys:=[]) (t':=s.toks) .nil (Nat.zero_le _)
 have hfo:∀b∈fp,∃o,s.heap.get? b=some o:=λb hb=>let ⟨o,ho,_⟩:=T.obj _ _ st b hb;⟨o,ho⟩
 have hlt:∀b∈fp,b<s.heap.objs.size:=λb hb=>let ⟨o,ho⟩:=hfo b hb;Heap.lt_size ho
 have fp3:∀b∈fp,dB X pins (upd H s.heap.objs.size (.lst [])) b:=λb hb=>⟨by rw[bG (Nat.ne_of_lt (hlt b hb))];exact(hfp b hb).1,(hfp b hb).2⟩
 obtain⟨n0,W,w0,turn⟩:=hw s.heap.objs.size I.fresh
 generalize hs3:({s with heap:=s.heap.push {cls:=.type "list",dict:=none,data:=.seq ([]:List Value).toArray}}:Shared)=s3 at I3
 have eh:s3.heap=s.heap.push {cls:=.type "list",dict:=none,data:=.seq ([]:List Value).toArray}:=by rw[<-hs3]
 rw[<-eh]at hns₁ hcv₁ hsb₁ ⊢
 have hk:∀b o,s3.heap.get? b=some o->h₁.get? b=some o:=λb o e=>hsb₁ b o e
 have hk0:∀b o,s.heap.get? b=some o->s3.heap.get? b=some o:=λb o e=>by rw[eh];exact Heap.get?_push_of_some _ e
 have J0:Inv (dM X N scope vn ((vn,s3.heap.objs.size+1)::cl) s3.heap.objs.size fp s3 (upd H s.heap.objs.size (.lst []))) [] (σc own fr σ) (upd H s.heap.objs.size (.lst [])) {s3 with heap:=h₁}:=
  zCD I3 S hcl hcf fp3 (λb hb=>let ⟨o,ho⟩:=hfo b hb;⟨o,hk0 b o ho⟩) hns₁ hcv₁ hk
 have st0:tn 0 h₁:=T.keep _ _ _ st λb _ o e=>hk b o (hk0 b o e)
 have stat:∀{H':Hp},(∀b∈fp,H' b=none)->∀b∈fp,dB (dM X N scope vn ((vn,s3.heap.objs.size+1)::cl) s3.heap.objs.size fp s3 (upd H s.heap.objs.size (.lst []))) [] H' b:=λhn b hb=>
  ⟨hn b hb,(J0.ok.exf b hb).1,J0.ok.exfs b hb,.inl hb,(J0.ok.exf b hb).2,λp hp=>absurd (show p∈([]:List (Addr×Obj)) from hp) (by simp)⟩
 have loop:∀s4:Shared,s4={s3 with heap:=h₁}->codeAny (model X.prog X.w) X.A (.compLoop (.ListComp elt [⟨tg,iter,ifs,0⟩] scope pos) 0 (.ref it) (.ref s.heap.objs.size) (compEnvC scope ((vn,s3.heap.objs.size+1)::cl) s3.heap.objs.size X.env))
   (RR (.ref s.heap.objs.size) s3.heap.objs.size) s4:=by
  rintro s4 rfl
  refine vT (λn s'=>∃i ow H' ys,Inv (dM X N scope vn ((vn,s3.heap.objs.size+1)::cl) s3.heap.objs.size fp s3 (upd H s.heap.objs.size (.lst []))) [] (ow++σf fr σ) H' s'/\ow.length=own/\tn i s'.heap/\(∀b∈fp,H' b=none)/\H' s.heap.objs.size=some (.lst ys)/\(n=n0-i/\i<=n0)/\W i ys H') ?_ n0
   ⟨0,List.replicate own none,_,[],J0,by simp,st0,λb hb=>(fp3 b hb).1,bE,⟨rfl,Nat.zero_le _⟩,w0⟩
  rintro n s5 ⟨i,ow,H5,ys,I5,hlo,st5,fr5,ha5,⟨rfl,hi5⟩,w5⟩
  rcases turn i ys H5 hi5 ha5 w5 with⟨stop,qn⟩|⟨hin,go,step⟩
  ·refine thn (T.done (dM X N scope vn ((vn,s3.heap.objs.size+1)::cl) s3.heap.objs.size fp s3 (upd H s.heap.objs.size (.lst []))) rfl rfl rfl hc i [] s5 _ H5 (λ_ _=>False) I5 (stat fr5) st5 stop) λr s6 ⟨hr,I6⟩=>?_
   subst hr
   have IX:Inv X pins σ H5 s6:=I3.call' I6.os I6.base I6.hok I6.bare λb hb=>let ⟨_,f2,_,f4,f5,f6⟩:=fp3 b hb;⟨f4,f2,f5,f6⟩
   refine hRR _ _ s6 H5 IX qn (I3.fpOk (Nat.le_refl _) I6.free) ?_
   obtain⟨m,hn,_⟩:=I6.loc
   exact⟨m,hn⟩
  ·refine thn (T.item (dM X N scope vn ((vn,s3.heap.objs.size+1)::cl) s3.heap.objs.size fp s3 (upd H s.heap.objs.size (.lst []))) rfl rfl rfl hc i [] s5 _ H5 (λ_ _=>False) I5 (stat fr5) st5 go) λr s6 ⟨u,hr,h6⟩=>?_
   subst hr
   refine thn h6 λ_ s7 ⟨x,H7,I7,r7,y7,st7,fr7⟩=>?_
   have I7':=(I7.pinned (stat fr7) (T.obj _ _ st7)).weak (σ':=σc own fr σ) (by unfold σc;simp[hlo]) (λj v e=>by
    unfold σc at e
    rcases Nat.lt_or_ge j own with z|z
    ·rw[List.getElem?_append_left (by simpa using z),List.getElem?_replicate]at e
     split at e<;>cases e
    ·rw[List.getElem?_append_right (by simpa using z)]at e
     rw[List.getElem?_append_right (by rw[hlo];exact z),hlo]
     simpa using e)
   refine thn (hg _ _ _ _ _ s7 _ H7 x u _ I7' r7 (step x H7 y7)) λ_ s8 ⟨σ8,H8,I8,⟨ow8,hl8,e8⟩,q8⟩=>?_
   refine thn (hf _ _ _ _ _ s8 _ H8 _ I8 q8) λok s9 ⟨H9,I9,q9⟩=>?_
   have again:∀{H':Hp} {s':Shared},Inv (dM X N scope vn ((vn,s3.heap.objs.size+1)::cl) s3.heap.objs.size fp s3 (upd H s.heap.objs.size (.lst []))) ([]++jS fp s7.heap) σ8 H' s'->∀{ys':List V},H' s.heap.objs.size=some (.lst ys')->W (i+1) ys' H' ->
     ∃m,m<n0-i/\∃i ow H' ys,Inv (dM X N scope vn ((vn,s3.heap.objs.size+1)::cl) s3.heap.objs.size fp s3 (upd H s.heap.objs.size (.lst []))) [] (ow++σf fr σ) H' s'/\ow.length=own/\tn i s'.heap/\(∀b∈fp,H' b=none)/\H' s.heap.objs.size=some (.lst ys)/\(m=n0-i/\i<=n0)/\W i ys H':=λ{H' s'} I' {ys'} ha hw'=>by
    refine⟨n0-(i+1),by omega,i+1,ow8,H',ys',e8▸I'.unpinned,hl8,T.keep _ _ _ st7 λb hb o e=>(I'.pin (b,o) (List.mem_append_right _ (List.mem_append_right _ (jF hb e)))).1,λb hb=>?_,ha,⟨rfl,hin⟩,hw'⟩
    obtain⟨o,e,_⟩:=T.obj _ _ st7 b hb
    exact(I'.pin (b,o) (List.mem_append_right _ (List.mem_append_right _ (jF hb e)))).2.1
   cases ok with
   |false=>
    have q9':H9 s.heap.objs.size=some (.lst ys)/\W (i+1) ys H9:=by simpa using q9
    obtain⟨ha,hw'⟩:=q9'
    show if false=true then _ else _
    rw[if_neg (by decide)]
    exact again I9 ha hw'
   |true=>
    rw[if_pos rfl]at q9
    show if true=true then _ else _
    rw[if_pos rfl]
    refine thn (he _ _ _ _ _ s9 _ H9 _ I9 q9) λy s10 ⟨v10,H10,I10,r10,ha10,hz10,hw'⟩=>?_
    refine thn (mU _ s10 _ H10 (.ref s.heap.objs.size) [v10] (.ref s.heap.objs.size) [y] (λ_ H'=>H'=upd H10 s.heap.objs.size (.lst (ys++[v10]))) I10 rfl (.cons r10 .nil) ⟨_,ys,v10,rfl,rfl,ha10,hz10,rfl⟩) λ_ s11 ⟨_,H11,I11,_,e11⟩=>?_
    subst e11
    exact again I11 bE hw'
 exact codeAny_compStart_list (loop _ (by rw[<-hs3])) (T.self X.A 0 _ _ _ st0 (loop _ (by rw[<-hs3])))
end
section
variable{X:Cx}{sc:Scope}{XN N:List Str}{own:Nat}{fr:List Nat}{scope:Scope}{elt tg iter:Expr}{ifs:List Expr}{pos:Pos}{wi:TI}{g:TG}{tf:TT}{te:TE}
theorem zC7{vn:Str}{i:Nat}{x:Str}{pos' spos:Pos}(hc:X.calm=true)(hN:X.N.Nodup)(hx:X.N[i]?=some x)(hl:Loc X.env.scope x)(S:CScope vn sc XN N own fr scope)(hi:PI X tg iter wi)
  (hg:∀cl C fp s H,PG (dM X N scope vn cl C fp s H) tg g) (hf:∀cl C fp s H,PFs (dM X N scope vn cl C fp s H) ifs tf) (he:∀cl C fp s H,PE (dM X N scope vn cl C fp s H) elt te)
  (hsw:swapsWith (.ListComp elt [⟨tg,iter,ifs,0⟩] scope pos) (some (.Name x pos')) spos.line X.env=pure true:=by rfl)
  (hf':X.fn x=true\/X.env.scope.names.lookup x=some .local:=by first|exact .inl rfl|exact .inr rfl|assumption)
  (hs:∀x,foldedSetIterable iter X.env x=pure x:=by intro _;rfl) (hsc:X.env.scope=sc:=by rfl) (hxn:X.N=XN:=by rfl):PS X (.Assign [.Name x pos'] (.ListComp elt [⟨tg,iter,ifs,0⟩] scope pos) spos) (lW (oM own fr wi g tf te) (lT i)):=by
 subst hsc hxn
 intro pins s σ H D I h
 obtain⟨cl,c1,c2,c3⟩:=qG (scope:=scope) (env:=X.env) λy hy e=>I.ok.has y.1 (S.free y hy e)
 rw[exec_Assign_Name_used _ _ _ _ hsw]
 refine wpAny_bind (wpAny_standAt (wpAny_bind ?_))
 show wpAny _ X.A (do let _ <- comprehension (.ListComp elt [⟨tg,iter,ifs,0⟩] scope pos) scope X.env _ (newList []) false (eval iter X.env) (some (assign (.Name x pos') X.env))) _ _ s
 refine wpAny_bind (wpAny_mono (wpAny_comprehension_free (use:=some (assign (.Name x pos') X.env)) (Q:=λ_ s'=>SP X pins D .next s') rfl hs c1 S.kind S.loc
  (thn (hi pins s σ H _ I h) λxv s1 h1=>thn h1 λitv s2 h2=>?_)) (λ_ s' hq=>wpAny_pure (wpAny_pure hq)) λ_ _ e=>e)
 obtain⟨it,fp,tn,J,H2,e,I2,T,st2,f2,hw⟩:=h2
 subst e
 refine zBD hc S c2 c3 (λcl C s H=>hg cl C fp s H) (λcl C s H=>hf cl C fp s H) (λcl C s H=>he cl C fp s H) I2 T st2 f2 hw λa C s' H' I' q fC ⟨m,hn⟩=>?_
 obtain⟨f0,f1,f2',f3,f4,f5⟩:=fC
 show wpAny _ _ (assign (.Name x pos') X.env (.ref a)) _ _ _
 refine wpAny_assign_Name (qJ I' hN hx hl (show RelV (.ref a) (.ref a) from rfl) (λs2 J2 ⟨b,hb,hb'⟩=>?_) hf')
 have hbC:C≠b:=by
  rcases hb' with z|z
  ·rw[z];exact f1
  ·exact λe=>f4 _ _ z e.symm
 refine⟨m,hn.sameBut hb hbC,λh' hs'=>?_⟩
 exact⟨_,H',J2.turned (t':=s2.toks) (λb o hb e=>hs'.extBut b o hb e) f0 f1 f3 f4 f5,q⟩
end
section
variable{X:Cx}{F:Fm}{sc:Scope}{XN N:List Str}{own:Nat}{fr:List Nat}{scope:Scope}{elt tg iter:Expr}{ifs:List Expr}{pos:Pos}{ui:UTl}{g:UG}{tf:UTt}{ue:UT}
theorem zCV{vn:Str}{i:Nat}{x:Str}{pos' spos:Pos}(hc:X.calm=true)(hN:X.N.Nodup)(hx:X.N[i]?=some x)(hl:Loc X.env.scope x)(S:CScope vn sc XN N own fr scope)(nd:fr.Nodup)(hi:UI X F tg iter ui)
  (hg:∀cl C fp s H,UGt (dM X N scope vn cl C fp s H) F own tg g) (hf:∀cl C fp s H,UF (dM X N scope vn cl C fp s H) F ifs tf) (he:∀cl C fp s H,UE (dM X N scope vn cl C fp s H) F elt ue)
  (hsw:swapsWith (.ListComp elt [⟨tg,iter,ifs,0⟩] scope pos) (some (.Name x pos')) spos.line X.env=pure true:=by rfl)
  (hf':X.fn x=true\/X.env.scope.names.lookup x=some .local:=by first|exact .inl rfl|exact .inr rfl|assumption)
  (hs:∀x,foldedSetIterable iter X.env x=pure x:=by intro _;rfl) (hsc:X.env.scope=sc:=by rfl) (hxn:X.N=XN:=by rfl):US X F (.Assign [.Name x pos'] (.ListComp elt [⟨tg,iter,ifs,0⟩] scope pos) spos) (lX i (uL (hJ own fr ui g tf ue))):=
 ⟨PS.imp (PS.fz (zC7 hc hN hx hl S hi.pi (λcl C fp s H=>(hg cl C fp s H).pg) (λcl C fp s H=>(hf cl C fp s H).pf) (λcl C fp s H=>(he cl C fp s H).pe) hsw hf' hs hsc hxn)) λD σ H ⟨ρ,P,f,h,k1,_⟩=>by
  refine mW nd σ H _ ⟨ρ,_,f,h,λa xs Ts H' ρ' s n e z p q=>?_⟩
  refine .inr ⟨a,_,e,rfl,λob=>?_⟩
  have s2:=s.put f n e rfl (.frz ob (.lst xs))
  exact k1 _ _ _ (s2.fr.set (s:=.va (.seq false Ts)) (λ_=>⟨_,rfl,VA.seq (t:=false) ⟨ob,bE⟩ z (p.hs (fH e rfl))⟩) (λz=>absurd z Bool.false_ne_true)) (s2.hs f) q⟩
end
end L2
namespace My
open PySem L2 PyProof.Rows WordM
section
variable{P:Program}{w:World}{K:W.Frag}{mg:Str->Option Value}{base:Heap}
theorem zC9{α β:Type}{g:α->β}{l:List α}{r:Int}(h0:0<=r)(h1:r<l.length):∃a,a∈l/\atI (l.map g) r=some (g a):=by
 have hl:r.toNat<l.length:=by omega
 refine⟨l[r.toNat],List.getElem_mem hl,?_⟩
 have:=aY (xs:=l.map g) (j:=r.toNat) (v:=g l[r.toNat]) (by rw[List.getElem?_map,List.getElem?_eq_getElem hl];rfl)
 rw[show((r.toNat:Nat):Int)=r by omega]at this
 exact this
theorem noq{a b:Pt}(h:bX a b=[]):∀x∈bX a b,x.2.1=x.2.2:=λx hx=>by rw[h]at hx;cases hx
theorem pw1{lo:Int}:kL lo lo 0:=⟨Int.le_refl _,Int.le_refl _,⟨λ_=>rfl,λ_=>rfl⟩,λz=>absurd rfl z⟩
theorem pw2{lo s:Int}(h:1<=s):kL lo (lo+s) s:=⟨by omega,by omega,⟨λz=>by omega,λz=>by omega⟩,λ_=>by rw[show lo+s-lo=s by omega];exact Int.emod_self⟩
theorem pr1(b:Bool):Pr 1 "wider" "narrower" (.truths [b]) (.truths [false,true]):=by
 refine Pr.wide ?_ (.inr (.inr rfl)) rfl rfl ?_ ?_ (noq rfl) (noq rfl)
 ·cases b
  ·exact .inl rfl
  ·exact .inr (.inl rfl)
 ·cases b<;>rfl
 ·cases b<;>rfl
theorem pr2{lo a s:Int}(h:1<=s)(ha:a=lo\/a=lo-s):Pr 2 "wider" "narrower" (.numbers lo lo 0) (.numbers a (a+s) s):=by
 have mx:max 1 s=s:=by omega
 refine Pr.wide pw1 (pw2 h) rfl rfl ?_ ?_ (noq rfl) (noq rfl)
 ·show fI lo lo 0 a (a+s) s=true
  unfold fI gL cT
  rw[mx]
  simp only[List.all_cons,List.all_nil,Bool.and_eq_true,decide_eq_true_eq,and_true,Int.add_zero]
  have hm:(lo-a) % s=0:=by
   rcases ha with rfl|rfl
   ·rw[Int.sub_self];exact Int.zero_emod _
   ·rw[show lo-(lo-s)=s by omega];exact Int.emod_self
  have h1:a<=lo:=by omega
  have h2:lo<=a+s:=by omega
  exact⟨⟨⟨h1,h2⟩,hm⟩,⟨⟨h1,h2⟩,hm⟩,⟨h1,h2⟩,hm⟩
 ·show fI a (a+s) s lo lo 0=false
  rw[Bool.eq_false_iff]
  unfold fI gL cT
  intro hh
  simp only[List.all_cons,List.all_nil,Bool.and_eq_true,decide_eq_true_eq,and_true]at hh
  omega
theorem pr3{W V:Wd}(h:Wid W V):Pr 3 "wider" "narrower" (.texts W) (.texts V):=by
 obtain⟨h1,h2,h3,x,h4,h5⟩:=h
 refine Pr.wide h1 h2 rfl rfl ((jK h1 h2).mpr h3) ?_ (noq rfl) (noq rfl)
 refine Bool.eq_false_iff.mpr λz=>?_
 have:=(jK h2 h1).mp z x h4
 rw[h5]at this;cases this
theorem nP{a b a' b':Int}:∀x∈bX (.lists a b lf) (.lists a' b' lf),x.2.1=x.2.2:=λx hx=>by rw[List.mem_singleton.mp hx]
theorem pr4{l a b:Int}(h:(a=l-1/\b=l)\/(a=l/\b=l+9)):Pr 4 "wider" "narrower" (.lists l l lf) (.lists a b lf):=by
 refine Pr.wide kA kA rfl rfl ?_ ?_ nP nP
 ·show bdB l l a b=true
  unfold bdB
  rw[decide_eq_true (by omega),decide_eq_true (by omega)];rfl
 ·show bdB a b l l=false
  unfold bdB
  rcases h with⟨rfl,rfl⟩|⟨rfl,rfl⟩
  ·rw[decide_eq_false (by omega)];rfl
  ·rw[decide_eq_false (p:=a+9<=a) (by omega),Bool.and_false]
def tR:PSp:=λas R=>∃nm tx st sp,∃k:Nat,as=[.dk,.va (bQ nm tx st sp),.va (iT k)]/\jQ nm tx st sp/\1<=k/\k<=5/\∀a b,Pr k "wider" "narrower" a b->R (.seq true [aN a,aN b])
theorem C40_:bD ["_law_deck_here","_law_world_here","_law_kind","_law_step","_law_low","_law_some","_law_words","_law_least","_law_inner","_law_one"] ["_law_deck_here","_law_world_here","_law_kind"] (aO uS):=fsc (by decide +kernel)
theorem zHs(h:Has K mg "_law_pair" uS)(B:Own mg)(G30_:aG P w K mg base 2 "_law_take" ["_law_deck_here","_law_most"] eK)(G38_:aG P w K mg base 5 "_law_words_pair" ["_law_deck_here","_law_world_here"] sO)(G39_:aG P w K mg base 3 "_law_dicts_pair" ["_law_deck_here","_law_world_here"] sU)   : aG P w K mg base 6 "_law_pair" ["_law_deck_here","_law_world_here","_law_kind"] tR:=by
 have nd:=C40_.nd
 refine h.pgood C40_ (fun|_,_,_,_,_,_,[_,_,_],_=>rfl) (λf cdv A outer s H E F hr=>
   (aE (aV 3 nd (aH hr (aB 1) aD))
   (aE (aV 4 nd (aH hr (aB 1) aD))
   (aE (bC (bL hr (aB 2) aD)
    (aL (aQ (aJ (aA (aJ (aA aI (aA (aJ (aA (aH hr (bA (bM (aA cO (aA cO aC)))) (aR G30_ hr (bK 0 (aA aD aC)))) aC)) aC))) (aA (aJ (aA aI (aA (aJ (aA cO (aA cO aC))) aC))) aC)))))
    bB)
   (aE (bC (bL hr (aB 2) aD)
    (aE (gK 5 nd (bM (aA (aJ (aA aI (aA (aW iN (aB 4) (aB 3)) (aA (aB 4) (aA (aB 3) aC))))) (aA (aJ (aA aI (aA (aB 4) (aA (aW bH (aB 4) (aB 3)) (aA (aB 3) aC))))) aC))))
    (aE (fP (kO 5 (aJ (aA aI (aA (aB 4) (aA (aB 4) (aA aD aC)))))))
    (aL (aQ (aJ (aA (rF 5 aD) (aA (rF 5 (aR G30_ hr (bK 0 (aA aD aC)))) aC)))))))
    bB)
   (aE (bC (bL hr (aB 2) aD)
    (aE (aV 6 nd (aR G38_ hr (bK 0 (aA (aB 1) aC))))
    (aL (aQ (aJ (aA (aJ (aA aI (aA (aH hr (aB 6) aD) aC))) (aA (aJ (aA aI (aA (aH hr (aB 6) aD) aC))) aC))))))
    bB)
   (aE (bC (bL hr (aB 2) aD)
    (aE (aV 7 nd (aW bH aD (aR G30_ hr (bK 0 (aA aD aC)))))
    (aE (aV 8 nd (aJ (aA (aJ (aA aI aC)) aC)))
    (aE (aV 9 nd (aJ (aA aI (aA (aB 7) (aA (aB 7) (aA (aB 8) aC))))))
    (aL (aQ (aJ (aA (aB 9) (aA (aH hr (bA (bM (aA (aJ (aA aI (aA (aW iN (aB 7) aD) (aA (aB 7) (aA (aB 8) aC))))) (aA (aJ (aA aI (aA (aB 7) (aA (aW bH (aB 7) aD) (aA (aB 8) aC))))) aC)))) (aR G30_ hr (bK 0 (aA aD aC)))) aC))))))))
    bB)
   (aL (aQ (aR G39_ hr (bK 0 (aA (aB 1) aC)))))))))))) (λas R q=>?_)
 obtain⟨nm,tx,st,sp,k,rfl,hw,k1,k5,q⟩:=q
 have hsp:=hw.sp1
 have q:∀a b:Pt,Pr k "wider" "narrower" a b->∀A B:Tv,aN a=A->aN b=B->R (.seq true [A,B]):=λa b h A B ea eb=>by rw[<-ea,<-eb];exact q a b h
 refine⟨rfl,_,aY (j:=3) rfl,_,aY (j:=2) rfl,?_⟩
 show PEnds.nx _ _
 refine nxE (ρ':=[.dk,.va (bQ nm tx st sp),.va (iT k),.va (iT sp),.va (iT st),.no,.no,.no,.no,.no]) rfl ?_
 refine⟨_,rfl,dE (λz=>?_) (λz1=>⟨_,rfl,dE (λz=>?_) (λz2=>⟨_,rfl,dE (λz=>?_) (λz3=>⟨_,rfl,dE (λz=>?_) (λz4=>?_)⟩)⟩)⟩)⟩
 ·have e:k=1:=by omega
  subst e
  refine⟨by simp,rfl,2,rfl,by decide,bN (by decide) (by decide),λr r0 r1=>?_⟩
  obtain⟨b,_,hb⟩:=zC9 (g:=bT) (l:=[false,true]) r0 r1
  exact⟨_,hb,by simp,by simp,by simp,by simp,by simp,q _ _ (pr1 b) _ _ (gA ..) (gA ..)⟩
 ·have e:k=2:=by omega
  subst e
  refine⟨by simp,by simp,by simp,⟨_,rfl⟩,by simp,_,rfl,by simp,⟨_,rfl⟩,2,_,_,rfl,rfl,aY (j:=2) rfl,⟨_,rfl⟩,rfl,2,rfl,by decide,bN (by decide) (by decide),λr r0 r1=>?_⟩
  have hr:r=0\/r=1:=by omega
  rcases hr with rfl|rfl
  ·exact⟨0,_,_,rfl,rfl,at0,by simp,q _ _ (pr2 hsp (.inr rfl)) _ _ (fE ..) (by rw[fE,show st-sp+sp=st by omega])⟩
  ·exact⟨1,_,_,rfl,rfl,aY (j:=1) rfl,by simp,q _ _ (pr2 hsp (.inl rfl)) _ _ (fE ..) (fE ..)⟩
 ·have e:k=3:=by omega
  subst e
  exact⟨rfl,nm,tx,st,sp,rfl,hw,λW V h=>⟨_,at0,by simp,_,aY (j:=1) rfl,by simp,by simp,q _ _ (pr3 h) _ _ (gB ..) (gB ..)⟩⟩
 ·have e:k=4:=by omega
  subst e
  refine⟨rfl,3,rfl,by decide,bN (by decide) (by decide),λr r0 r1=>⟨by simp,by simp,by simp,by simp,by simp,by simp,rfl,2,rfl,by decide,bN (by decide) (by decide),λs s0 s1=>?_⟩⟩
  have hs:s=0\/s=1:=by omega
  rcases hs with rfl|rfl
  ·exact⟨_,at0,by simp,q _ _ (pr4 (l:=1+r) (.inl ⟨rfl,rfl⟩)) _ _ (by rw[eG,jV];first|done|rfl) (by rw[eG,jV];first|done|rfl)⟩
  ·exact⟨_,aY (j:=1) rfl,by simp,q _ _ (pr4 (l:=1+r) (.inr ⟨rfl,rfl⟩)) _ _ (by rw[eG,jV];first|done|rfl) (by rw[eG,jV];first|done|rfl)⟩
 ·have e:k=5:=by omega
  subst e
  exact⟨rfl,nm,tx,st,sp,rfl,hw,λa b h=>q a b h _ _ rfl rfl⟩
theorem cr1:Pr 1 "other" "other" (.truths [false]) (.truths [true]):=Pr.cross (.inl rfl) (.inr (.inl rfl)) rfl rfl rfl rfl (noq rfl) (noq rfl)
theorem cr2{lo s:Int}(h:1<=s):Pr 2 "other" "other" (.numbers lo lo 0) (.numbers (lo+s) (lo+s) 0):=by
 have key:∀a b:Int,a≠b->fI a a 0 b b 0=false:=λa b ne=>by
  rw[Bool.eq_false_iff]
  unfold fI gL cT
  intro hh
  simp only[List.all_cons,List.all_nil,Bool.and_eq_true,decide_eq_true_eq,and_true]at hh
  omega
 exact Pr.cross pw1 pw1 rfl rfl (key _ _ (by omega)) (key _ _ (by omega)) (noq rfl) (noq rfl)
theorem kK{t:Str}(h:Sg t/\t.length<=200):WdW (.few [t]):=⟨by simp,by simp,List.pairwise_singleton _ _,λu hu=>by rw[List.mem_singleton.mp hu];exact h⟩
theorem cr3{s t:Str}(ne:s≠t)(hs:Sg s/\s.length<=200)(ht:Sg t/\t.length<=200):Pr 3 "other" "other" (.texts (.few [s])) (.texts (.few [t])):=by
 have key:∀{s t:Str},s≠t->WdW (.few [s])->WdW (.few [t])->(dW (.few [s]) (.few [t])).isNone=false:=λ{s t} ne h1 h2=>by
  refine Bool.eq_false_iff.mpr λz=>?_
  have:=(jK h1 h2).mp z s (few_let.mpr (.head _))
  exact ne (List.mem_singleton.mp (few_let.mp this))
 exact Pr.cross (kK hs) (kK ht) rfl rfl (key ne (kK hs) (kK ht)) (key ne.symm (kK ht) (kK hs)) (noq rfl) (noq rfl)
theorem cr4:Pr 4 "other" "other" (.lists 0 1 lf) (.lists 1 2 lf):=Pr.cross kA kA rfl rfl rfl rfl nP nP
theorem cr5{x y:Str}(ne:x≠y)(hx:Sg x/\x.length<=200)(hy:Sg y/\y.length<=200):Pr 5 "other" "other" (.record 1 1 [(x,true,lf)]) (.record 1 1 [(y,true,lf)]):=by
 have o:∀{z:Str},Sg z/\z.length<=200->PW 2 (.record 1 1 [(z,true,lf)]):=λ{z} hz=>lA (by simp) (by simp) λu hu=>by rw[List.mem_singleton.mp hu];exact⟨hz,rfl⟩
 refine Pr.cross (o hx) (o hy) rfl rfl ?_ ?_ (kH (λu hu=>by rw[List.mem_singleton.mp hu]) λu hu=>by rw[List.mem_singleton.mp hu]) (kH (λu hu=>by rw[List.mem_singleton.mp hu]) λu hu=>by rw[List.mem_singleton.mp hu])
 ·simp[shP,nmF,ne]
 ·simp[shP,nmF,ne.symm]
theorem cr6{x y:Str}(ne:x≠y)(hx:Sg x/\x.length<=200)(hy:Sg y/\y.length<=200):Pr 5 "other" "other" (.record 1 2 (mk2 true false x y)) (.record 1 2 (mk2 false true x y)):=by
 have o:∀a b,PW 2 (.record 1 2 (mk2 a b x y)):=λa b=>lA (by simp[mk2]) (by simp[mk2,ne]) λu hu=>by
  simp only[mk2,List.mem_cons,List.not_mem_nil,or_false]at hu
  rcases hu with rfl|rfl
  ·exact⟨hx,rfl⟩
  ·exact⟨hy,rfl⟩
 have l:∀a b,∀u∈mk2 a b x y,u.2.2=lf:=λa b u hu=>by
  simp only[mk2,List.mem_cons,List.not_mem_nil,or_false]at hu
  rcases hu with rfl|rfl<;>rfl
 refine Pr.cross (o _ _) (o _ _) rfl rfl ?_ ?_ (kH (l _ _) (l _ _)) (kH (l _ _) (l _ _))
 ·simp[shP,mk2,nmF,dX,ne.symm]
 ·simp[shP,mk2,nmF,dX,ne]
def sV:PSp:=λas R=>∃nm tx st sp,∃k:Nat,as=[.dk,.va (bQ nm tx st sp),.va (iT k)]/\jQ nm tx st sp/\1<=k/\k<=5/\∀a b,Pr k "other" "other" a b->R (.seq true [aN a,aN b])
theorem C44_:bD ["_law_deck_here","_law_world_here","_law_kind","_law_leaf","_law_low","_law_far_here","_law_some","_law_names"] ["_law_deck_here","_law_world_here","_law_kind"] (aO lZ):=fsc (by decide +kernel)
theorem zHo(h:Has K mg "_law_crossed" lZ)(B:Own mg)(G30_:aG P w K mg base 2 "_law_take" ["_law_deck_here","_law_most"] eK)   : aG P w K mg base 3 "_law_crossed" ["_law_deck_here","_law_world_here","_law_kind"] sV:=by
 have nd:=C44_.nd
 refine h.pgood C44_ (fun|_,_,_,_,_,_,[_,_,_],_=>rfl) (λf cdv A outer s H E F hr=>
   (aE (aV 3 nd (aJ (aA (aJ (aA aI aC)) aC)))
   (aE (aV 4 nd (aH hr (aB 1) aD))
   (aE (aV 5 nd (aW bH (aB 4) (aH hr (aB 1) aD)))
   (aE (bC (bL hr (aB 2) aD)
    (aL (aQ (aJ (aA (aJ (aA aI (aA (aJ (aA cO aC)) aC))) (aA (aJ (aA aI (aA (aJ (aA cO aC)) aC))) aC)))))
    bB)
   (aE (bC (bL hr (aB 2) aD)
    (aL (aQ (aJ (aA (aJ (aA aI (aA (aB 4) (aA (aB 4) (aA aD aC))))) (aA (aJ (aA aI (aA (aB 5) (aA (aB 5) (aA aD aC))))) aC)))))
    bB)
   (aE (bC (bL hr (aB 2) aD)
    (aL (aQ (aJ (aA (aJ (aA aI (aA (aJ (aA aI (aA (aJ (aA (aH hr (aH hr (aB 1) aD) aD) aC)) aC))) aC))) (aA (aJ (aA aI (aA (aJ (aA aI (aA (aJ (aA (aH hr (aH hr (aB 1) aD) aD) aC)) aC))) aC))) aC)))))
    bB)
   (aE (bC (bL hr (aB 2) aD)
    (aL (aQ (aJ (aA (aJ (aA aI (aA aD (aA aD (aA (aB 3) aC))))) (aA (aJ (aA aI (aA aD (aA aD (aA (aB 3) aC))))) aC)))))
    bB)
   (aE (iU (sc:=aO lZ) (XN:=["_law_deck_here","_law_world_here","_law_kind","_law_leaf","_law_low","_law_far_here","_law_some","_law_names"]) (N:=["_law_name","_law_leaf"]) (fr:=[3]) 6 nd (bR (cE cG (aH hr (aB 1) aD) cJ (cD aD))) (λ_ _ _ _ _=>gF) (λ_ _ _ _ _=>(aJ (aA aI (aA aD (aA aD (aA (aJ (aA (aJ (aA (aB 0) (aA cO (aA (aB 1) aC)))) aC)) aC)))))))
   (aE (bC (bL hr (aR G30_ hr (bK 0 (aA aD aC))) aD)
    (aE (aV 7 nd (bA (rE (qL rfl) rfl B.sorted boot_sorted (aA (cE cG (aH hr (aB 1) aD) cJ (cD aD)) aC))))
    (aL (zCV (i:=6) (vn:="_law_one") (sc:=aO lZ) (XN:=["_law_deck_here","_law_world_here","_law_kind","_law_leaf","_law_low","_law_far_here","_law_some","_law_names"]) (N:=["_law_one","_law_leaf","_law_names"]) (own:=1) (fr:=[3,7]) rfl nd rfl (.inl rfl) ⟨rfl,⟨[(".0",.local)],_,rfl,by decide +kernel,by decide +kernel⟩,rfl,by decide +kernel,by decide +kernel,rfl,by decide +kernel,by decide,by decide +kernel⟩ (by decide) (bR (aB 7)) (λ_ _ _ _ _=>(cN 0 (by decide) (show(["_law_one","_law_leaf","_law_names"]:List Str).Nodup by decide +kernel) rfl (by first|exact Or.inl rfl|exact Or.inr rfl))) (λ_ _ _ _ _=>gF) (λ_ _ _ _ _=>(aJ (aA aI (aA aD (aA aD (aA (fM fN rfl B.tuple_ boot_tuple (aA (bA (eM (sc:={kind:=.function,names:=[(".0",.local),("_law_one",.cell),("tuple",.globalImplicit),("_law_leaf",.cell),("_law_names",.cell)],isGenerator:=false,isCoroutine:=false}) (XN:=["_law_one","_law_leaf","_law_names"]) (N:=["_law_name","_law_one","_law_leaf"]) (fr:=[0,1]) (bR (aB 2)) (λ_ _ _ _ _=>(aJ (aA (aB 0) (aA (eX (lI hr.units).op (aB 0) (aB 1)) (aA (aB 2) aC))))))) aC)) aC)))))))))
    bB)
   (aL (aQ (aJ (aA (aH hr (aB 6) aD) (aA (aH hr (aB 6) aD) aC))))))))))))))) (λas R q=>?_)
 obtain⟨nm,tx,st,sp,k,rfl,hw,k1,k5,q⟩:=q
 have hsp:=hw.sp1
 have q:∀a b:Pt,Pr k "other" "other" a b->∀A B:Tv,aN a=A->aN b=B->R (.seq true [A,B]):=λa b h A B ea eb=>by rw[<-ea,<-eb];exact q a b h
 have e11:=hw.n11
 have e9:=hw.t9
 obtain⟨t0,t1,txr,etx⟩:∃t0 t1 r,tx=t0::t1::r:=by
  match tx,e9 with
  |t0::t1::r,_=>exact⟨t0,t1,r,rfl⟩
 have ht0:=hw.ts t0 (by rw[etx];simp)
 have ht1:=hw.ts t1 (by rw[etx];simp)
 have htn:t0≠t1:=by
  have:=hw.ndt
  rw[etx,List.nodup_cons]at this
  exact λe=>this.1 (by rw[e];simp)
 have a0:atI (tx.map sT) 0=some (sT t0):=by rw[etx];exact at0
 have a1:atI (tx.map sT) 1=some (sT t1):=by rw[etx];exact aY (j:=1) rfl
 refine⟨rfl,by simp,by simp,?_⟩
 show PEnds.nx _ _
 refine nxE (ρ':=[.dk,.va (bQ nm tx st sp),.va (iT k),.va (aX lf),.no,.no,.no,.no]) (by rw[jV];rfl) ?_
 refine⟨_,aY (j:=2) rfl,_,aY (j:=3) rfl,?_⟩
 show PEnds.nx _ _
 refine nxE (ρ':=[.dk,.va (bQ nm tx st sp),.va (iT k),.va (aX lf),.va (iT st),.va (iT (st+sp)),.no,.no]) rfl ?_
 refine⟨_,rfl,dE (λz=>?_) (λz1=>⟨_,rfl,dE (λz=>?_) (λz2=>⟨_,rfl,dE (λz=>?_) (λz3=>⟨_,rfl,dE (λz=>?_) (λz4=>?_)⟩)⟩)⟩)⟩
 ·have e:k=1:=by omega
  subst e
  exact⟨by simp,by simp,by simp,by simp,by simp,q _ _ cr1 _ _ (gA ..) (gA ..)⟩
 ·have e:k=2:=by omega
  subst e
  exact⟨by simp,by simp,by simp,q _ _ (cr2 hsp) _ _ (fE ..) (fE ..)⟩
 ·have e:k=3:=by omega
  subst e
  exact⟨_,aY (j:=1) rfl,_,a0,by simp,by simp,by simp,_,aY (j:=1) rfl,_,a1,by simp,by simp,by simp,by simp,q _ _ (cr3 htn ⟨ht0.1,by have:=ht0.2;omega⟩ ⟨ht1.1,by have:=ht1.2;omega⟩) _ _ (gB ..) (gB ..)⟩
 ·have e:k=4:=by omega
  subst e
  exact⟨by simp,by simp,by simp,q _ _ cr4 _ _ (eG ..) (eG ..)⟩
 ·have e:k=5:=by omega
  subst e
  have ec:cR (nm.map sT) none (some 2)=(nm.take 2).map sT:=(tU (nm.map sT) 2).trans (by rw[List.map_take])
  obtain⟨n0,n1,en⟩:∃n0 n1,nm.take 2=[n0,n1]:=by
   match nm,e11 with
   |n0::n1::r,_=>exact⟨n0,n1,rfl⟩
  have hnd:(nm.take 2).Nodup:=hw.nd.sublist (List.take_sublist _ _)
  have hn:∀x∈nm.take 2,Sg x/\x.length<=200:=λx hx=>by
   have:=hw.ns x (List.mem_of_mem_take hx)
   exact⟨this.1,by have:=this.2;omega⟩
  show PEnds.nx _ _
  refine⟨_,at0,2,rfl,?_⟩
  show(cR (nm.map sT) none (some 2)).length<=100000/\eF 1 [3] (gN 0) lV _ (cR (nm.map sT) none (some 2)) _ _
  rw[ec]
  refine⟨by rw[en];simp,cM sT (λn=>aN (.record 1 1 [(n,true,lf)])) (λn hn R q=>?_) ?_⟩
  ·rw[bJ]at q
   exact⟨by simp,by simp,by simp,q⟩
  show PEnds.nx _ _
  refine nxE (ρ':=[.dk,.va (bQ nm tx st sp),.va (iT (5:Nat)),.va (aX lf),.va (iT st),.va (iT (st+sp)),.va (.seq false [aN (.record 1 1 [(n0,true,lf)]),aN (.record 1 1 [(n1,true,lf)])]),.no]) (by rw[en];rfl) ?_
  dsimp only
  refine mR (J:=λρ'=>∃(a b:Pt) (s7:Sl),Pr 5 "other" "other" a b/\ρ'=[.dk,.va (bQ nm tx st sp),.va (iT (5:Nat)),.va (aX lf),.va (iT st),.va (iT (st+sp)),.va (.seq false [aN a,aN b]),s7]) ?rest (λrest=>?main)
  case rest=>
   rintro _ ⟨a,b,s7,h,rfl⟩
   exact⟨_,at0,_,aY (j:=1) rfl,by simp,q a b h _ _ rfl rfl⟩
  case main=>
   have nn:n0≠n1:=by rw[en]at hnd;simpa using hnd
   refine⟨rfl,2,rfl,by decide,bN (by decide) (by decide),λr _ _=>⟨_,rfl,sif (λ_=>?_) (λ_=>rest _ ⟨_,_,_,cr5 nn (hn n0 (by rw[en];simp)) (hn n1 (by rw[en];simp)),rfl⟩)⟩⟩
   refine⟨_,at0,2,rfl,.inr (.inl ⟨nm.take 2,by rw[<-ec],by rw[en];simp,?_⟩)⟩
   have hlS:=qK (nm.take 2)
   have hsn:=(gU (nm.take 2)).nodup_iff.mpr hnd
   have hsm:∀x∈bZ (nm.take 2),Sg x/\x.length<=200:=λx hx=>hn x ((gU _).mem_iff.mp hx)
   rw[show(nm.take 2).length=2 by rw[en];rfl]at hlS
   generalize bZ (nm.take 2)=S at hlS hsn hsm
   match S,hlS,hsn,hsm with
   |[],hlS,_,_=>exact absurd hlS (by decide)
   |[_],hlS,_,_=>exact absurd hlS (by simp)
   |_::_::_::_,hlS,_,_=>exact absurd hlS (by simp)
   |[x,y],_,hsn,hsm=>
   have xy:x≠y:=by simpa using hsn
   show PEnds.nx _ _
   refine⟨by simp,cM sT (λo=>aN (.record 1 2 [(x,decide (x=o),lf),(y,decide (y=o),lf)])) (l:=[x,y]) (λo ho R q=>?_) ?_⟩
   ·rw[bJ]at q
    refine⟨by simp,cM sT (λn=>fY (n,decide (n=o),lf)) (l:=[x,y]) (λn hn R q=>?_) ⟨_,_,rfl,by simp,q⟩⟩
    have eb:(false != eqV (.str n) (.str o))=decide (n=o):=by
     by_cases z:n=o<;>simp[eqV,z]
    rw[<-eb]at q
    exact⟨by simp,q⟩
   ·have e1:[(x,decide (x=x),lf),(y,decide (y=x),lf)]=mk2 true false x y:=by simp[mk2,xy.symm]
    have e2:[(x,decide (x=y),lf),(y,decide (y=y),lf)]=mk2 false true x y:=by simp[mk2,xy]
    show PEnds.nx _ _
    refine nxE (ρ':=[.dk,.va (bQ nm tx st sp),.va (iT (5:Nat)),.va (aX lf),.va (iT st),.va (iT (st+sp)),.va (.seq false [aN (.record 1 2 (mk2 true false x y)),aN (.record 1 2 (mk2 false true x y))]),.va (.seq false ([x,y].map sT))]) (by rw[<-e1,<-e2];rfl) ?_
    exact rest _ ⟨_,_,_,cr6 xy (hsm x (by simp)) (hsm y (by simp)),rfl⟩
end
end My
namespace My
open PySem L2 PyProof.Rows WordM
section
variable{P:Program}{w:World}{K:W.Frag}{mg:Str->Option Value}{base:Heap}
def KNS:List Str:=["nothing","truth","number","text","list","dict"]
def KT:Tv:=.seq false (kN6.map λk=>sT (cU k))
theorem zGo{k:Nat}(h:k<=5):atI (kN6.map λk=>sT (cU k)) (k:Nat)=some (sT (cU k)):=by
 refine aY ?_
 have h1:k=0\/k=1\/k=2\/k=3\/k=4\/k=5:=by omega
 rcases h1 with e|e|e|e|e|e<;>subst e<;>rfl
theorem C47_:bD ["_law_script","_law_deck_here","_law_world_here","_law_words","_law_k","_law_kind","_law_others_here","_law_pair_here","_law_rows","_law_part_here"] ["_law_script"] (aO fK):=fsc (by decide +kernel)
theorem zFr{f:Addr}{fd:FuncData}(F:Fun K "law" "law" fK f fd)(B:Own mg)(G29_:Good P w K mg base 1 "_law_deck" ["_law_script"] (zAf K))(G35_:aG P w K mg base 5 "_law_world" ["_law_deck_here"] sM)(G30_:aG P w K mg base 2 "_law_take" ["_law_deck_here","_law_most"] eK)(G41_:aG P w K mg base 3 "_law_others" ["_law_deck_here","_law_kind"] rR)(G40_:aG P w K mg base 6 "_law_pair" ["_law_deck_here","_law_world_here","_law_kind"] tR)(G42_:aG P w K mg base 1 "_law_sorted" ["_law_parts"] rO)(G46_:aG P w K mg base 16 "_law_held" ["_law_deck_here","_law_world_here","_law_rows","_law_due"] rS)(G44_:aG P w K mg base 3 "_law_crossed" ["_law_deck_here","_law_world_here","_law_kind"] sV)   : FnOk P w K mg base CX0 17 f fd ["_law_script"] (oN K):=by
 refine F.ok C47_ (λvs H Q E q=>?_) (λcdv A outer s H vs Q E hr q=>?_)
 ·obtain⟨a,ns,rfl,_⟩:=q
  rfl
 ·obtain⟨aa,ns,rfl,hS,hlen,q⟩:=q
  have nd:=C47_.nd
  refine⟨_,(fF (iP (i:=1) nd rfl (by first|exact Or.inl rfl|exact Or.inr rfl) (lJ G29_ (hr.mono (by omega)) rfl (dF (pv 0) eE)))
   (zDY λF=>(aE (aV 2 nd (aR G35_ hr (bK 1 aC)))
   (aE (aV 3 nd (bA (bM (aA aI (aA aI (aA aI (aA aI (aA aI (aA aI aC)))))))))
   (aE (eC (m:=10) PassesOwn.never rfl (gC rfl B.range (aA aD aC)) (cN 4 (by decide) nd rfl (.inl rfl))
    (aE (aV 5 nd (aR G30_ hr (bK 1 (aA aD aC))))
    (aE (aV 6 nd (aR G41_ hr (bK 1 (aA (aB 5) aC))))
    (aE (bC (cP zAE (aB 5) aD)
     (aE (aV 7 nd (aR G40_ hr (bK 1 (aA (aB 2) (aA (aB 5) aC)))))
     (aE (iU (sc:=aO fK) (XN:=["_law_script","_law_deck_here","_law_world_here","_law_words","_law_k","_law_kind","_law_others_here","_law_pair_here","_law_rows","_law_part_here"]) (N:=["_law_part_here","_law_others_here"]) (fr:=[6]) 8 nd (bR (aB 7)) (λ_ _ _ _ _=>gF) (λ_ _ _ _ _=>(aR G42_ hr (aA (aW bH (aB 1) (bA (bM (aA (aB 0) aC)))) aC))))
     (aE (bC (fS (dN (aR G46_ hr (bK 1 (aA (aB 2) (aA (aB 8) (aA (bA (bM (aA (aJ (aA (aH hr (aB 3) (aB 5)) (aA aI aC))) (aA (aJ (aA (aH hr (aB 3) (aB 5)) (aA aI aC))) aC)))) aC)))))))
      (aL (aQ cO))
      bB)
     (aE (iU (sc:=aO fK) (XN:=["_law_script","_law_deck_here","_law_world_here","_law_words","_law_k","_law_kind","_law_others_here","_law_pair_here","_law_rows","_law_part_here"]) (N:=["_law_part_here","_law_others_here"]) (fr:=[6]) 8 nd (bR (aR G44_ hr (bK 1 (aA (aB 2) (aA (aB 5) aC))))) (λ_ _ _ _ _=>gF) (λ_ _ _ _ _=>(aR G42_ hr (aA (aW bH (aB 1) (bA (bM (aA (aB 0) aC)))) aC))))
     (aL (bC (fS (dN (aR G46_ hr (bK 1 (aA (aB 2) (aA (aB 8) (aA (bA (bM (aA (aJ (aA (aH hr (aB 3) (aB 5)) (aA aI aC))) (aA (aJ (aA (aH hr (aB 3) (aB 5)) (aA aI aC))) aC)))) aC)))))))
      (aL (aQ cO))
      bB))))))
     bB)
    (aE (aV 9 nd (aJ (aA aI aC)))
    (aE (bC (cP zAE (aB 5) aD)
     (aL (aV 9 nd (aH hr (aB 7) aD)))
     bB)
    (aL (bC (zAP hr (aB 6) (bA (bM aC)))
     (aE (aV 8 nd (bA (bM (aA (aR G42_ hr (aA (aB 6) aC)) (aA (aR G42_ hr (aA (aW bH (aB 6) (bA (bM (aA (aB 9) aC)))) aC)) aC)))))
     (aL (bC (fS (dN (aR G46_ hr (bK 1 (aA (aB 2) (aA (aB 8) (aA (bA (bM (aA (aJ (aA (aH hr (aB 3) (aB 5)) (aA aI aC))) (aA (aJ (aA (aH hr (aB 3) (aB 5)) (aA aI aC))) aC)))) aC)))))))
      (aL (aQ cO))
      bB)))
     bB))))))))
   (aL (aQ cO))))))),?_⟩
  refine⟨_,rfl,aa,ns,rfl,hS,λp c H1 np nc d1 s1=>?_⟩
  refine zEi (N:=["_law_script","_law_deck_here","_law_world_here","_law_words","_law_k","_law_kind","_law_others_here","_law_pair_here","_law_rows","_law_part_here"]) (by decide) d1 q ?_
  clear q hS hlen hr d1 s1 np nc
  refine⟨rfl,rfl,λnm tx st sp wd=>⟨by simp,?_⟩⟩
  show PEnds.nx _ _
  refine nxE (ρ':=[.no,.dk,.va (bQ nm tx st sp),.va KT,.no,.no,.no,.no,.no,.no]) rfl ?_
  refine⟨6,rfl,by decide,by decide,?_⟩
  refine eW (λi ρ=>∃s4 s5 s6 s7 s8 s9:Sl,ρ=[.no,.dk,.va (bQ nm tx st sp),.va KT,s4,s5,s6,s7,s8,s9]) ⟨.no,.no,.no,.no,.no,.no,rfl⟩ ?_ (λ_ ⟨_,_,_,_,_,_,e⟩=>by subst e;rfl)
  rintro i T _ N hT ⟨s4,s5,s6,s7,s8,s9,rfl⟩ hN
  refine⟨rfl,6,rfl,by decide,bN (by decide) (by decide),λr r0 r1=>?_⟩
  obtain⟨k,rfl⟩:∃k:Nat,r=k:=⟨r.toNat,by omega⟩
  have hk:k<=5:=by omega
  have hkt:=zGo hk
  refine⟨rfl,k,rfl,hk,λO hO=>?_⟩
  have ol:=hO.len
  show PEnds.nx _ _
  refine nxE (ρ':=[.no,.dk,.va (bQ nm tx st sp),.va KT,.va T,.va (iT k),.va (.seq false (O.map aN)),s7,s8,s9]) rfl ?_
  dsimp only
  refine mR (J:=λρ'=>∃s7 s8:Sl,(0<k->∃a b:Pt,s7=.va (.seq true [aN a,aN b])/\PW 2 a/\aZ a=k)/\ρ'=[.no,.dk,.va (bQ nm tx st sp),.va KT,.va T,.va (iT k),.va (.seq false (O.map aN)),s7,s8,s9]) ?rest (λrest=>?main)
  case main=>
   refine⟨_,rfl,dZ (λz=>?_) (λz=>rest _ ⟨_,_,λh=>absurd h (by omega),rfl⟩)⟩
   have k1:1<=k:=by have z:(0:Int)<k:=z;omega
   refine⟨rfl,nm,tx,st,sp,k,rfl,wd,k1,hk,λa b pr=>?_⟩
   show PEnds.nx _ _
   refine nxE (ρ':=[.no,.dk,.va (bQ nm tx st sp),.va KT,.va T,.va (iT k),.va (.seq false (O.map aN)),.va (.seq true ([a,b].map aN)),s8,s9]) rfl ?_
   refine⟨by simp,cM aN (λp=>aX (srt (O++[p]))) (l:=[a,b]) (λp hp R q=>⟨by simp,by simp;omega,O++[p],by rw[List.map_append];rfl,by rw[List.length_append];simp;omega,q⟩) ?_⟩
   show PEnds.nx _ _
   refine nxE (ρ':=[.no,.dk,.va (bQ nm tx st sp),.va KT,.va T,.va (iT k),.va (.seq false (O.map aN)),.va (.seq true [aN a,aN b]),.va (.seq false [aX (srt (O++[a])),aX (srt (O++[b]))]),s9]) rfl ?_
   refine⟨rfl,_,hkt,by simp,_,hkt,by simp,by simp,nm,tx,st,sp,_,_,k,"wider","narrower",rfl,wd,wW pr hO hk,_,rfl,bF ?_⟩
   refine⟨rfl,nm,tx,st,sp,k,rfl,wd,k1,hk,λc d pr2=>?_⟩
   refine⟨by simp,cM aN (λp=>aX (srt (O++[p]))) (l:=[c,d]) (λp hp R q=>⟨by simp,by simp;omega,O++[p],by rw[List.map_append];rfl,by rw[List.length_append];simp;omega,q⟩) ?_⟩
   show PEnds.nx _ _
   refine nxE (ρ':=[.no,.dk,.va (bQ nm tx st sp),.va KT,.va T,.va (iT k),.va (.seq false (O.map aN)),.va (.seq true [aN a,aN b]),.va (.seq false [aX (srt (O++[c])),aX (srt (O++[d]))]),s9]) rfl ?_
   exact⟨rfl,_,hkt,by simp,_,hkt,by simp,by simp,nm,tx,st,sp,_,_,k,"other","other",rfl,wd,wW pr2 hO hk,_,rfl,bF (rest _ ⟨_,_,λ_=>⟨a,b,rfl,pr.ha,pr.ka⟩,rfl⟩)⟩
  case rest=>
   rintro _ ⟨s7,s8,h7,rfl⟩
   refine⟨by simp,?_⟩
   show PEnds.nx _ _
   refine nxE (ρ':=[.no,.dk,.va (bQ nm tx st sp),.va KT,.va T,.va (iT k),.va (.seq false (O.map aN)),s7,s8,.va (.seq true [sT "nothing"])]) rfl ?_
   dsimp only
   refine mR (J:=λρ'=>∃(p:Pt),(PW 2 p/\aZ p=k)/\ρ'=[.no,.dk,.va (bQ nm tx st sp),.va KT,.va T,.va (iT k),.va (.seq false (O.map aN)),s7,s8,.va (aN p)]) ?rest2 (λrest=>?main2)
   case main2=>
    refine⟨_,rfl,dZ (λz=>?_) (λz=>?_)⟩
    ·have z:(0:Int)<k:=z
     obtain⟨a,b,rfl,ha,ka⟩:=h7 (by omega)
     exact⟨_,at0,rest _ ⟨a,⟨ha,ka⟩,rfl⟩⟩
    ·have z:¬ (0:Int)<k:=z
     have:=rest _ ⟨.nothing,⟨trivial,show(0:Nat)=k by omega⟩,rfl⟩
     rw[jD]at this
     exact this
   case rest2=>
    rintro _ ⟨p,⟨hp,kp⟩,rfl⟩
    refine⟨by simp,.inr (.inl rfl),_,rfl,sif (λ_=>?_) (λ_=>hN _ ⟨_,_,_,_,_,_,rfl⟩)⟩
    refine⟨O,rfl,by omega,by simp,by simp;omega,O++[p],by rw[List.map_append];rfl,by rw[List.length_append];simp;omega,by simp,?_⟩
    show PEnds.nx _ _
    refine nxE (ρ':=[.no,.dk,.va (bQ nm tx st sp),.va KT,.va T,.va (iT k),.va (.seq false (O.map aN)),s7,.va (.seq false [aX (srt O),aX (srt (O++[p]))]),.va (aN p)]) rfl ?_
    exact⟨rfl,_,hkt,by simp,_,hkt,by simp,by simp,nm,tx,st,sp,_,_,k,"come","gone",rfl,wd,zCJ hp kp hO hk,_,rfl,bF (hN _ ⟨_,_,_,_,_,_,rfl⟩)⟩
end
end My
namespace My
open PySem L2 PyProof.Rows
open WordM
open PySem
theorem all_mk{l:W.OpenLaw}{w:World}{K:W.Frag}{h:Heap}{mg:Str->Option Value}{fa:Addr}(X:K.In h)(G:h.Ns mainGlobals mg)(hfa:mg "law"=some (.ref fa)){f47:Addr}{v_47 t_47:Option Addr}{p_47:Array (Option Value)}{u_47 w_47 x_47 y_47 r_47 q_47:Value}
 (h0_:Has K mg "run_has" s0_)
 (h1_:Has K mg "telling_numbers" s1_)
 (h2_:Has K mg "run_parted" s2_)
 (h3_:Has K mg "run_within" s3_)
 (h4_:Has K mg "has_mark" s4_)
 (h5_:Has K mg "marks_of" s5_)
 (h6_:Has K mg "words_let" s6_)
 (h7_:Has K mg "tails_many" s7_)
 (h8_:Has K mg "signs_of" s8_)
 (h9_:Has K mg "words_many" s9_)
 (h10_:Has K mg "words_texts" mD)
 (h11_:Has K mg "words_parted" vI)
 (h12_:Has K mg "words_within" vH)
 (h13_:Has K mg "tail_at" vG)
 (h14_:Has K mg "words_some" pJ)
 (h15_:Has K mg "part_kind" vF)
 (h16_:Has K mg "part_for" vE)
 (h17_:Has K mg "musts_of" pI)
 (h18_:Has K mg "names_of" pH)
 (h19_:Has K mg "strange_names" mC)
 (h20_:Has K mg "lacking_names" pG)
 (h21_:Has K mg "bounds_within" vD)
 (h22_:Has K mg "shell_within" pF)
 (h23_:Has K mg "form_behind" pE)
 (h24_:Has K mg "forms_held" kG)
 (h25_:Has K mg "way_of" vC)
 (h26_:Has K mg "changes_from" pD)
 (h27_:Has K mg "changes" vB)
 (h28_:Has K mg "_law_mixed" vA)
 (h29_:Has K mg "_law_deck" uZ)
 (h30_:Has K mg "_law_take" uY)
 (h31_:Has K mg "_law_signs" uX)
 (h32_:Has K mg "_law_text" uW)
 (h33_:Has K mg "_law_unlike" uV)
 (h34_:Has K mg "_law_far" uU)
 (h35_:Has K mg "_law_world" pC)
 (h36_:Has K mg "_law_mark" uT)
 (h37_:Has K mg "_law_make" pB)
 (h38_:Has K mg "_law_words_pair" pA)
 (h39_:Has K mg "_law_dicts_pair" mB)
 (h40_:Has K mg "_law_pair" uS)
 (h41_:Has K mg "_law_others" oZ)
 (h42_:Has K mg "_law_sorted" oY)
 (h43_:Has K mg "_law_around" uR)
 (h44_:Has K mg "_law_crossed" lZ)
 (h45_:Has K mg "_law_told" uQ)
 (h46_:Has K mg "_law_held" lY)
 (a47:W.nsIn K mainGlobals "law"=some (some (.ref f47))) (l47:K.lookup f47=some ⟨u_47,v_47,.func (W.fnOf "law" "law" (fQ fK) (eB fK) (aO fK) .none w_47 x_47 y_47 t_47 r_47 q_47),p_47⟩) (c47:W.codeIn K r_47 "law"=true) (k47:W.keepIn K (.ref f47)=true)
    (z0:W.nsIn K mainGlobals "len"=some none) (z1:W.nsIn K mainGlobals "range"=some none) (z2:W.nsIn K mainGlobals "isinstance"=some none) (z3:W.nsIn K mainGlobals "int"=some none) (z4:W.nsIn K mainGlobals "bool"=some none) (z5:W.nsIn K mainGlobals "str"=some none) (z6:W.nsIn K mainGlobals "list"=some none) (z7:W.nsIn K mainGlobals "tuple"=some none) (z8:W.nsIn K mainGlobals "dict"=some none) (z9:W.nsIn K mainGlobals "sum"=some none) (z10:W.nsIn K mainGlobals "min"=some none) (z11:W.nsIn K mainGlobals "max"=some none) (z12:W.nsIn K mainGlobals "all"=some none) (z13:W.nsIn K mainGlobals "any"=some none) (z14:W.nsIn K mainGlobals "abs"=some none) (z15:W.nsIn K mainGlobals "zip"=some none) (z16:W.nsIn K mainGlobals "sorted"=some none) (z17:W.nsIn K mainGlobals "set"=some none) (z18:W.nsIn K mainGlobals "enumerate"=some none) {aSIGNS aMARKS aPK:Addr} {tk1 tk2 tk3 tk4 tk5 tk6 tk7 tk8 um1 um2 um3 um4 tp1 tp2 tp3 tp4 tp5 tp6 tp7 tp8 tp9 tp10 tp11 tp12 tp13 tp14:Tok} {epS nM epP:Nat} {ddM:Option Addr} {slM:Array (Option Value)} {tkF tkM:Tok} {aKN:Addr} {uk1 uk2 uk3 uk4 uk5 uk6:Tok} {nK:Nat} {slK:Array (Option Value)}
    (aS:W.nsIn K mainGlobals "SIGNS"=some (some (.ref aSIGNS)))
    (lS:K.lookup aSIGNS=some ⟨.type "dict",none,.dict #[{hash:=PyData.keyHash w.params ("figure":Str),key:=.str "figure" tk1,val:=.str "0123456789" tk2},{hash:=PyData.keyHash w.params ("great":Str),key:=.str "great" tk3,val:=.str "ABCDEFGHIJKLMNOPQRSTUVWXYZ" tk4},{hash:=PyData.keyHash w.params ("other":Str),key:=.str "other" tk5,val:=.str " !\"#$&'()*+,-./:;<=>?\x40[\\]^_`{|}~" tk6},{hash:=PyData.keyHash w.params ("small":Str),key:=.str "small" tk7,val:=.str "abcdefghijklmnopqrstuvwxyz" tk8}] epS,#[]⟩)
    (aM:W.nsIn K mainGlobals "MARKS"=some (some (.ref aMARKS)))
    (lM:K.lookup aMARKS=some ⟨.type "tuple",ddM,.seq #[.str "figure" um1,.str "great" um2,.str "other" um3,.str "small" um4] nM,slM⟩)
    (aP:W.nsIn K mainGlobals "PART_KINDS"=some (some (.ref aPK)))
    (lP:K.lookup aPK=some ⟨.type "dict",none,.dict #[{hash:=PyData.keyHash w.params ("nothing":Str),key:=.str "nothing" tp1,val:=.str "nothing" tp2},{hash:=PyData.keyHash w.params ("truths":Str),key:=.str "truths" tp3,val:=.str "truth" tp4},{hash:=PyData.keyHash w.params ("numbers":Str),key:=.str "numbers" tp5,val:=.str "number" tp6},{hash:=PyData.keyHash w.params ("texts":Str),key:=.str "texts" tp7,val:=.str "text" tp8},{hash:=PyData.keyHash w.params ("lists":Str),key:=.str "lists" tp9,val:=.str "list" tp10},{hash:=PyData.keyHash w.params ("record":Str),key:=.str "record" tp11,val:=.str "dict" tp12},{hash:=PyData.keyHash w.params ("table":Str),key:=.str "table" tp13,val:=.str "dict" tp14}] epP,#[]⟩)
    (aF:W.nsIn K mainGlobals "MOST_FEW"=some (some (.int 6 tkF)))
    (aMF:W.nsIn K mainGlobals "MOST_FIELDS"=some (some (.int 8 tkM)))
    (aK:W.nsIn K mainGlobals "KINDS"=some (some (.ref aKN)))
    (lK:K.lookup aKN=some ⟨.type "tuple",none,.seq #[.str "nothing" uk1,.str "truth" uk2,.str "number" uk3,.str "text" uk4,.str "list" uk5,.str "dict" uk6] nK,slK⟩):
    ∃fd:FuncData,(∀(s:Shared) (v:Value),BindsTo s fd ⟨[v],[]⟩ [("_law_script",v)])/\∀base:Heap,K.In base->base.Ns mainGlobals mg->FnOk l.prog w K mg base CX0 17 fa fd ["_law_script"] (oN K):=by
  have e:=hfa.symm.trans (PySem.W.mg_of X G a47)
  cases e
  have B:Own mg:=zFk X G z0 z1 z2 z3 z4 z5 z6 z7 z8 z9 z10 z11 z12 z13 z14 z15 z16 z17 z18
  refine⟨W.fnOf "law" "law" (fQ fK) (eB fK) (aO fK) .none w_47 x_47 y_47 t_47 r_47 q_47,λs v=>.of_eq rfl,λbase KB GB=>?_⟩
  have GSIGNS:iW K w.params mg "SIGNS" SGN:=⟨aSIGNS,PySem.W.mg_of X G aS,⟨⟨_,_,lS,⟨rfl,⟨_,rfl⟩,⟨_,rfl⟩,rfl,⟨_,rfl⟩,⟨_,rfl⟩,rfl,⟨_,rfl⟩,⟨_,rfl⟩,rfl,⟨_,rfl⟩,⟨_,rfl⟩,trivial⟩⟩,by decide +kernel⟩⟩
  have GPART_KINDS:iW K w.params mg "PART_KINDS" vQ:=⟨aPK,PySem.W.mg_of X G aP,⟨⟨_,_,lP,⟨rfl,⟨_,rfl⟩,⟨_,rfl⟩,rfl,⟨_,rfl⟩,⟨_,rfl⟩,rfl,⟨_,rfl⟩,⟨_,rfl⟩,rfl,⟨_,rfl⟩,⟨_,rfl⟩,rfl,⟨_,rfl⟩,⟨_,rfl⟩,rfl,⟨_,rfl⟩,⟨_,rfl⟩,rfl,⟨_,rfl⟩,⟨_,rfl⟩,trivial⟩⟩,by decide +kernel⟩⟩
  have TM:∀H,SqT K H aMARKS (MK.map V.str):=λH=>.inr ⟨_,_,_,lM,rfl,rfl,by show 4<=sizeLine;decide,.cons ⟨_,rfl⟩ (.cons ⟨_,rfl⟩ (.cons ⟨_,rfl⟩ (.cons ⟨_,rfl⟩ .nil)))⟩
  have GMARKS:fJ K mg "MARKS" (.seq true (MK.map sT)):=yD (PySem.W.mg_of X G aM) TM
  have GMOST_FEW:fJ K mg "MOST_FEW" (iT 6):=⟨.int 6,_,PySem.W.mg_of X G aF,⟨_,rfl⟩,λH=>.flat rfl⟩
  have GMOST_FIELDS:fJ K mg "MOST_FIELDS" (iT 8):=⟨.int 8,_,PySem.W.mg_of X G aMF,⟨_,rfl⟩,λH=>.flat rfl⟩
  have TKN:∀H,SqT K H aKN (KNS.map V.str):=λH=>.inr ⟨_,_,_,lK,rfl,rfl,by show 6<=sizeLine;decide,.cons ⟨_,rfl⟩ (.cons ⟨_,rfl⟩ (.cons ⟨_,rfl⟩ (.cons ⟨_,rfl⟩ (.cons ⟨_,rfl⟩ (.cons ⟨_,rfl⟩ .nil)))))⟩
  have GKINDS:fJ K mg "KINDS" (.seq true (kN6.map λk=>sT (cU k))):=yD (PySem.W.mg_of X G aK) TKN
  have G30_:aG l.prog w K mg base 2 "_law_take" ["_law_deck_here","_law_most"] eK:=Good.take (zFD h30_ (zEq h28_))
  have G31_:aG l.prog w K mg base 1 "_law_signs" [] nI:=zHB h31_ B 
  have G32_:aG l.prog w K mg base 3 "_law_text" ["_law_deck_here","_law_most"] lC:=zHA h32_ B G31_ G30_
  have G33_:aG l.prog w K mg base 4 "_law_unlike" ["_law_deck_here","_law_many","_law_most"] rM:=zHz h33_ B G31_ G32_
  have G34_:aG l.prog w K mg base 3 "_law_far" ["_law_deck_here"] uD:=zHy h34_ B G30_
  have G35_:aG l.prog w K mg base 5 "_law_world" ["_law_deck_here"] sM:=zHx h35_ B G30_ G33_ G32_ G34_
  have G37_:aG l.prog w K mg base 4 "_law_make" ["_law_deck_here"] tS:=zHv h37_ B G30_ G32_
  have G0_:aG l.prog w K mg base 1 "run_has" ["run","number"] rQ:=g0_ h0_ B 
  have G4_:aG l.prog w K mg base 1 "has_mark" ["text","mark"] qS:=g4_ h4_ B GSIGNS
  have G5_:aG l.prog w K mg base 2 "marks_of" ["text"] qQ:=g5_ h5_ B G4_ GMARKS
  have G6_:aG l.prog w K mg base 3 "words_let" ["words","text"] mK:=g6_ h6_ B G5_
  have G15_:aG l.prog w K mg base 1 "part_kind" ["part"] qD:=zHO h15_ B GPART_KINDS
  have G16_:aG l.prog w K mg base 2 "part_for" ["form","kind"] mT:=zHN h16_ B G15_
  have G1_:aG l.prog w K mg base 1 "telling_numbers" ["run"] qO:=g1_ h1_ B 
  have G2_:aG l.prog w K mg base 2 "run_parted" ["one","other"] qB:=g2_ h2_ B G1_ G0_
  have G3_:aG l.prog w K mg base 3 "run_within" ["one","other"] qA:=g3_ h3_ B G2_
  have G10_:aG l.prog w K mg base 1 "words_texts" ["words"] sP:=zHT h10_ B GMOST_FEW GSIGNS
  have G11_:aG l.prog w K mg base 4 "words_parted" ["one","other"] nB:=zHS h11_ B G10_ G6_
  have G12_:aG l.prog w K mg base 5 "words_within" ["one","other"] qN:=zHR h12_ B G11_
  have G36_:aG l.prog w K mg base 1 "_law_mark" ["_law_sign"] oB:=zHw h36_ B 
  have G7_:aG l.prog w K mg base 1 "tails_many" ["signs","shortest","longest","most"] nH:=g7_ h7_ B 
  have G8_:aG l.prog w K mg base 1 "signs_of" ["marks"] mS:=g8_ h8_ B GSIGNS
  have G9_:aG l.prog w K mg base 2 "words_many" ["words","most"] sS:=g9_ h9_ B G7_ G8_
  have G13_:aG l.prog w K mg base 1 "tail_at" ["signs","length","place"] rN:=zHQ h13_ B 
  have G14_:aG l.prog w K mg base 3 "words_some" ["words","many"] sQ:=zHP h14_ B G9_ G8_ G7_ G13_
  have G18_:aG l.prog w K mg base 1 "names_of" ["record"] nJ:=zHL h18_ B 
  have G17_:aG l.prog w K mg base 1 "musts_of" ["part"] (sR 3):=zHM h17_ B 
  have G19_:aG l.prog w K mg base 5 "strange_names" ["one","other"] (qP 3):=zHK h19_ B G11_ G18_ G6_ G14_ GMOST_FIELDS
  have G20_:aG l.prog w K mg base 2 "lacking_names" ["one","other"] (qR 3):=zHJ h20_ B G17_
  have G21_:aG l.prog w K mg base 1 "bounds_within" ["one","other"] qT:=zHI h21_ B 
  have G22_:aG l.prog w K mg base 6 "shell_within" ["one","other"] (rP 3):=zHH h22_ B G3_ G12_ G21_ G19_ G20_
  have G23_:aG l.prog w K mg base 1 "form_behind" ["part","name"] rT:=zHG h23_ B 
  have G24_:aG l.prog w K mg base 2 "forms_held" ["one","other"] (oC 3):=zHF h24_ B G18_ G23_
  have G25_:aG l.prog w K mg base 7 "way_of" ["old","new"] (oO 3):=zHE h25_ B G22_
  have G26_:fU l.prog w K mg base 13 "changes_from" ["place","old","new"] (lO 5):=zAv h26_ B G16_ G25_ G24_ GKINDS 5
  have G27_:fU l.prog w K mg base 14 "changes" ["old","new"] qV:=zHC h27_ B G26_
  have G43_:aG l.prog w K mg base 1 "_law_around" ["_law_way","_law_name","_law_form_here"] rV:=zHp h43_ B 
  have G45_:aG l.prog w K mg base 15 "_law_told" ["_law_old","_law_new","_law_due"] tQ:=zHn h45_ B G27_
  have G46_:aG l.prog w K mg base 16 "_law_held" ["_law_deck_here","_law_world_here","_law_rows","_law_due"] rS:=zHm h46_ B G30_ G43_ G45_
  have G41_:aG l.prog w K mg base 3 "_law_others" ["_law_deck_here","_law_kind"] rR:=zHr h41_ B G30_
  have G42_:aG l.prog w K mg base 1 "_law_sorted" ["_law_parts"] rO:=zHq h42_ B 
  have G38_:aG l.prog w K mg base 5 "_law_words_pair" ["_law_deck_here","_law_world_here"] sO:=zHu h38_ B G37_ G30_ G36_
  have G39_:aG l.prog w K mg base 3 "_law_dicts_pair" ["_law_deck_here","_law_world_here"] sU:=zHt h39_ B G30_
  have G40_:aG l.prog w K mg base 6 "_law_pair" ["_law_deck_here","_law_world_here","_law_kind"] tR:=zHs h40_ B G30_ G38_ G39_
  have G44_:aG l.prog w K mg base 3 "_law_crossed" ["_law_deck_here","_law_world_here","_law_kind"] sV:=zHo h44_ B G30_
  exact zFr (zAw (st:=fK) l47 c47 k47) B (zFE h29_ B) G35_ G30_ G41_ G40_ G42_ G46_ G44_ 
theorem walk{l:W.OpenLaw}{q:Program}{loose:List Str}{XP:(Str->Option Value)->Heap->Prop}{YP:World->Heap->Prop}{d:DefRec}{K:Params->W.Frag}(hn:l.most=some 63)(hdf:d.params.defaults=[])
  (hY:∀(w:World) (h:Heap),YP w h->(K w.params).In h)
  (F:∀(w:World) (mg:Str->Option Value) (fa:Addr) (h:Heap),(K w.params).In h->h.Ns mainGlobals mg->mg d.name=some (.ref fa) ->
   ∃fd:FuncData,(∀(s:Shared) (u:Value),BindsTo s fd ⟨[u],[]⟩ [("_law_script",u)])/\∀base:Heap,(K w.params).In base->base.Ns mainGlobals mg->FnOk l.prog w (K w.params) mg base CX0 17 fa fd ["_law_script"] (oN (K w.params))):
  PySem.W.WalkO q loose XP YP l.row.toRowW d [] (λf vs=>PySem.call f vs):=
 L2.walk_of (n:=63) (k:=17) (x:="_law_script") (CX:=λ_=>CX0) (sp:=λw=>oN (K w.params)) hn (by decide) hdf ⟨rfl,by decide,by decide,rfl⟩ hY F (λ_ _ a ns hl _ hS=>⟨a,ns,rfl,hS,hl,λ_=>rfl⟩) λ_ _ _ _ _ z=>z
end My
inductive PySem.W.Fast:Prop
|tw2880631101842584680
|tw5975842607576466816
|tw8791821507200882080
|tw1134633011071786720
|tw14817286412562823936
|tw8778211843031828481
|tw4793594303307435841
|tw12872658115780622530
|tw5200657010879895842
|tw8359790782577773954
|tw15926773712499709474
|tw15237406841795058658
|tw13075256238718434499
|tw236064226653215011
|tw9386866686341616995
|tw10468962063119345027
|tw11286493874085900867
|tw11843921719699174979
|tw4675432488054224643
|tw6591854271012891427
|tw9294081866090881636
|tw15765447192972803972
|tw7301348044783318789
|tw3604517353737014278
|tw9899799762096069286
|tw6633850209383352070
|tw16356460976409247526
|tw14578024054443219782
|tw16275209536172221511
|tw2559505409068451975
|tw244921632550244647
|tw15277013531483176
|tw10309229833981264072
|tw7735872913565613640
|tw14820564154037170377
|tw7927584841616216425
|tw9964612320410909417
|tw775814932544635849
|tw8493672314908089706
|tw13720439963649184234
|tw12164840497583985258
|tw11884722960067964682
|tw17167175977918042123
|tw5261066235047422411
|tw10233098286282870315
|tw6053736589249675851
|tw4883154098253483691
|tw402006970867549644
|tw10147141959573323372
|tw6939301965978575724
|tw11357747570360055788
|tw1388898736122504205
|tw330085792127325485
|tw7735805305904818605
|tw9974005490217527917
|tw6827549955611971309
|tw13686896632078374990
|tw7242363803001542286
|tw482150771345079054
|tw17340281943121906670
|tw1156197763278862735
|tw17553625379156674991
|tw14186980942660567855
|tw2027964864624002416
|tw5759944996544549328
|tw6572047387199258288
|tw5089061032855633648
|tw7282572356562521872
|tw10240891382054368080
|tw1813895434109049744
|tw6884715252950793168
|tw12702917821116681168
|tw16190332091213544465
|tw667178786068082737
|tw4423993092293946641
|tw6820373056421809585
|tw10620278037443417841
|tw4330795886017059697
|tw15343201699583636369
|tw14123676176833286065
|tw18125514330880657618
|tw10860971385045096786
|tw17828966921494654642
|tw13013849205413490450
|tw1270753297377268658
|tw11507482401556426674
|tw5305051291064460403
|tw11995814054834041107
|tw3125929883611636179
|tw1367978551463620084
|tw16330309841004239957
|tw15523365526388832597
|tw11215552227603515797
|tw16320612193219824277
|tw10473991218432603957
|tw7681600869527678198
|tw16203656543885054262
|tw11393440621289438582
|tw5690987845004157494
|tw9819836441818905975
|tw13696304210039689592
|tw9778185683428427224
|tw11979000388126081560
|tw14511729529781725848
|tw16652882176399212280
|tw6483592116394952729
|tw7138324721497963833
|tw15669744512336581433
|tw4988333333518783321
|tw405499919215768409
|tw18276161477153492857
|tw10803884084314172474
|tw12115675128630257850
|tw7974113983895683514
|tw6061319738501602842
|tw1964699632243093050
|tw15500554983416853274
|tw5798089771576921115
|tw14456448930240849979
|tw7226867611096322107
|tw1420034347154189851
|tw16048263290475517020
|tw17892871203401601852
|tw7302475423257626460
|tw16184413387322813340
|tw10142980989335750620
|tw5084804538171784188
|tw13347306986524229661
|tw117413635348709565
|tw2953903215964067165
|tw13238031253589872125
|tw5206279519088786941
|tw12234796069982735901
|tw9354388391042191037
|tw4520337409942877246
|tw499931690906219742
|tw2618070350457818366
|tw13001693809093953822
|tw12142168374638055710
|tw3694974757011206494
|tw742292367283518814
|tw14674324354153725630
|tw5080252633285142430
|tw14838504039294161854
|tw13349063693235769471
|tw12902676170597727871
open PySem PySem.W PyProof.Rows
set_option maxRecDepth 100000 in
set_option maxHeartbeats 0 in
theorem PySem.Challenge.cw_leastform_k75_wider_by_one_thing_holds : PySem.Challenge.rw_leastform_k75_wider_by_one_thing.Holds := by
 w_on; o_law; k_head; (case hw => w_witness2)
 k_fill
 refine My.walk (l := PySem.Challenge.rw_leastform_k75_wider_by_one_thing) rfl rfl (fun w h Y => PySem.W.kIn_of Y) ?F
 case F =>
  intro w mg fa h KX G hmg
  refine' My.all_mk KX G hmg (L2.has_mk KX G ?a0 ?l0 ?c0 ?k0) (L2.has_mk KX G ?a1 ?l1 ?c1 ?k1) (L2.has_mk KX G ?a2 ?l2 ?c2 ?k2) (L2.has_mk KX G ?a3 ?l3 ?c3 ?k3) (L2.has_mk KX G ?a4 ?l4 ?c4 ?k4) (L2.has_mk KX G ?a5 ?l5 ?c5 ?k5) (L2.has_mk KX G ?a6 ?l6 ?c6 ?k6) (L2.has_mk KX G ?a7 ?l7 ?c7 ?k7) (L2.has_mk KX G ?a8 ?l8 ?c8 ?k8) (L2.has_mk KX G ?a9 ?l9 ?c9 ?k9) (L2.has_mk KX G ?a10 ?l10 ?c10 ?k10) (L2.has_mk KX G ?a11 ?l11 ?c11 ?k11) (L2.has_mk KX G ?a12 ?l12 ?c12 ?k12) (L2.has_mk KX G ?a13 ?l13 ?c13 ?k13) (L2.has_mk KX G ?a14 ?l14 ?c14 ?k14) (L2.has_mk KX G ?a15 ?l15 ?c15 ?k15) (L2.has_mk KX G ?a16 ?l16 ?c16 ?k16) (L2.has_mk KX G ?a17 ?l17 ?c17 ?k17) (L2.has_mk KX G ?a18 ?l18 ?c18 ?k18) (L2.has_mk KX G ?a19 ?l19 ?c19 ?k19) (L2.has_mk KX G ?a20 ?l20 ?c20 ?k20) (L2.has_mk KX G ?a21 ?l21 ?c21 ?k21) (L2.has_mk KX G ?a22 ?l22 ?c22 ?k22) (L2.has_mk KX G ?a23 ?l23 ?c23 ?k23) (L2.has_mk KX G ?a24 ?l24 ?c24 ?k24) (L2.has_mk KX G ?a25 ?l25 ?c25 ?k25) (L2.has_mk KX G ?a26 ?l26 ?c26 ?k26) (L2.has_mk KX G ?a27 ?l27 ?c27 ?k27) (L2.has_mk KX G ?a28 ?l28 ?c28 ?k28) (L2.has_mk KX G ?a29 ?l29 ?c29 ?k29) (L2.has_mk KX G ?a30 ?l30 ?c30 ?k30) (L2.has_mk KX G ?a31 ?l31 ?c31 ?k31) (L2.has_mk KX G ?a32 ?l32 ?c32 ?k32) (L2.has_mk KX G ?a33 ?l33 ?c33 ?k33) (L2.has_mk KX G ?a34 ?l34 ?c34 ?k34) (L2.has_mk KX G ?a35 ?l35 ?c35 ?k35) (L2.has_mk KX G ?a36 ?l36 ?c36 ?k36) (L2.has_mk KX G ?a37 ?l37 ?c37 ?k37) (L2.has_mk KX G ?a38 ?l38 ?c38 ?k38) (L2.has_mk KX G ?a39 ?l39 ?c39 ?k39) (L2.has_mk KX G ?a40 ?l40 ?c40 ?k40) (L2.has_mk KX G ?a41 ?l41 ?c41 ?k41) (L2.has_mk KX G ?a42 ?l42 ?c42 ?k42) (L2.has_mk KX G ?a43 ?l43 ?c43 ?k43) (L2.has_mk KX G ?a44 ?l44 ?c44 ?k44) (L2.has_mk KX G ?a45 ?l45 ?c45 ?k45) (L2.has_mk KX G ?a46 ?l46 ?c46 ?k46) ?a47 ?l47 ?c47 ?k47 ?z0 ?z1 ?z2 ?z3 ?z4 ?z5 ?z6 ?z7 ?z8 ?z9 ?z10 ?z11 ?z12 ?z13 ?z14 ?z15 ?z16 ?z17 ?z18 ?aS ?lS ?aM ?lM ?aP ?lP ?aF ?aMF ?aK ?lK
  any_goals k_is
